import PyProof.Rows.All
import Wide.All
import OpenK.AllK
import Wide.FinOn
import PySem.Challenge.RW_fairtrees_k71_forty_standings
import Lean
import PyProof.EqAt
import PyProof.EqKinds
import PyProof.TupleCall
import PyProof.DictCompW
import PyProof.NeKinds
import PyProof.ListRange
import PyProof.TupleOfSeq
import PyProof.SeqI3
import PyProof.DictWalks
import PyProof.SetNew
import PyProof.ReprReads
import PyProof.StrHeap
import PyProof.ReprLen
import PyProof.WalkInts
import KE.KDictSum
import PyProof.Draws
import KE.KDictOf
import PyProof.AttrMissHeap
set_option maxHeartbeats 4000000
set_option Elab.async false
set_option linter.all false
set_option maxRecDepth 100000
set_option maxHeartbeats 4000000
noncomputable section
namespace L2
end L2
open PySem renaming wpAny_bind->K0,wpAny_pure->K9,starEach->K09,foldedSetIterable->K14,Program->K1a,wpAny_newObj_type->K1b,wpAny_loadPart'->K1o,mainGlobals->K1p,wpAny_holding->K1z,wpAny_call_entry->K20,swapsWith->K21,compareOp->K22,mem_of_lookup->K2b,codeAny_builtin->K2g,wpAny_mono->K2i,wpAny_callSpecial?_slot->K2l,wpAny_setField->K2q,assignEach->K2r,wpAny_truthy_bool->K38,wpAny_pyIter_list->K39,wpAny_ite_false->K3d,binaryOp->K3e,wpAny_askSetting->K3m,sysModules->K3p,wpAny_pyIter_tuple->K3q,wpAny_passesOwn->K3x,codeAny_mono->K42,wpAny_setState_of->K43,holding->K44,SetTable->K4a,call_meets->K4e,letOwnedTupleGo->K4k,wpAny_standAt->K4p,behindInMarks->K4q,attributeBase->K4r,standAt->K4u,wpAny_field->K4v,FuncData->K4x,bootBuiltins->K51,Keyword->K52,plainId_quiet->K57,wpAny_execs_nil->K5c,wpAny_Call_Name_kw->K5g,sliceBounds->K5i,keywordEach->K5j,NameKind->K5r,codeAny->K5s,wpAny_typeOf->K5u,wpAny_runValue->K5w,isSubtype_type->K5x,wpAny_pyIter_enum->K5z,fits_of_scanBound->K60,wpAny_rule->K65,relayAll->K6a,wpAny_setEntries_of->K6h,getItem->K6l,wpAny_seqItems->K6x,firstArgMember->K6y,tupleKind_room_in1->K6z,wpAny_letOwnedTupleGo_enum->K72,wpAny_binaryOp_repeat_ref->K78,ItemsOf->K7i,sizeLine_eq->K7j,excClassObj->K7k,wpAny_loadPart_at->K7l,wpAny_comprehension_free->K7x,backToKw->K86,seqIndex?->K87,noFill_tuple_add->K89,wpAny_pyNext_enum_itemD->K8c,setNext->K8g,callerA->K8h,wpAny_load->K8i,typeIs_int->K8j,wpAny_pyNext_enum_endD->K8q,wpAny_Call_method_late->K8r,wpAny_specialOf->K8z,codeAny_of_tree->K90,builtinLookup_eq_fast->K92,GenState->K97,wpAny_of_eq->K98,subscripted->K99,arm_starEach_Starred->K9a,valueAt->K9e,tupleKind->K9f,wpAny_isSubtype_exc->K9h,signature?_of->K9k,seq_tuple_add->K9l,setsByText->K9t,slot_list_getitem->K9w,notedBy->Z18,newList->Z19,collect->Z1a,IsRange->Z1b,BindsTo->Z1c,seqIndex_neg->Z1g,concat_meets->Z1h,callType_new->Z1i,seqSlot_of->Z1p,setFlight->Z1q,seqItems?->Z1r,pickOrder->Z1s,noteFrame->Z1t,PassesOwn->Z1u,DictEntry->Z1v,unsupported->Z20,seqIndex_of->Z21,spliced->Z26,setItem->Z27,call->Z2a,Fin->Z2h
open PySem.W renaming Frag->K1,kia_one->K1l,nsIn->K1x,codeIn->K34,keepIn->K3n,fnOf->K3z,hideAll->K4h,kitOne->K5q,mg_of->K66,hideAll_none->K69,hideAll_get->K6f,of_hideAll->K6s,methodObj->K7c,kitx_list->K7d,kitx_dict->K7e,fresh_of_stays->K8k,cellsFrom_some->K8l,instObj->K8t,nsOkIn->K93,lookIn->K94,ks_spliced->K9q,kitx_tuple->K9r,callWith_K->K9s,plainGet->Z1m,kdl_dict->Z1n,OpenLaw->Z22,findIn->Z2c,WalkO->Z2f
open List renaming getElem?_eq_getElem->K2,getElem?_eq_some_iff->K5,getElem?_cons_zero->K6,range->K7,getElem?_cons_succ->K00,length_append->K02,length_map->K03,getElem?_map->K04,mem_of_getElem?->K06,size_toArray->K07,mem_map->K08,replicate->K0c,length_cons->K0d,append_assoc->K0e,getElem?_set_ne->K0f,map_map->K0g,getElem?_eq_none->K0h,length_nil->K0l,mem_filter->K0m,getElem?_append_left->K0n,mem_range->K0q,getElem?_set_self->K0r,set_cons_zero->K0t,set_cons_succ->K0u,map_cons->K0v,idxOf_lt_length_iff->K0w,mem_cons->K0y,mem_cons_of_mem->K13,getElem?_range->K16,mem_append_right->K17,length_take->K19,mem_append->K1c,append_nil->K1d,mem_cons_self->K1e,take_length->K1g,getElem?_append_right->K1i,find?_cons->K1m,any_eq_true->K1n,getElem?_singleton->K1s,all_eq_true->K1t,length_range->K1u,ext_getElem?->K1v,filterMap_cons->K23,length_set->K2a,any_cons->K2d,mem_append_left->K2j,getElem?_replicate->K2k,take_succ->K2m,flatMap_cons->K2n,replicate_succ->K2t,map_congr_left->K2u,getElem_of_mem->K2v,map_append->K2w,length_singleton->K2x,lookup_cons->K30,mem_singleton->K31,getElem?_take->K32,take_append_of_le_length->K35,getElem_mem->K3l,getD_eq_getElem?_getD->K3r,set_append_right->K3t,length_filter_le->K3u,flatten_cons->K40,getElem?_append->K41,getElem_idxOf->K4b,find?_eq_none->K4c,pairwise_lt_range->K4f,range_succ->K4i,foldl_cons->K4j,all_cons->K4n,foldl_append->K4t,getElem?_of_mem->K4w,nodup_range->K4z,pairwise_iff_getElem->K53,idxOf_cons->K5a,ne_nil_of_mem->K5e,map_replicate->K5f,filter_cons_of_pos->K5m,take_of_length_le->K5y,foldl->K62,mem_flatMap->K63,map_flatMap->K64,nodup_cons->K6c,map_nil->K6i,filterMap_map->K6w,perm_ext_iff_of_nodup->K71,mem_or_eq_of_mem_set->K75,mem_of_find?_eq_some->K76,drop_eq_getElem_cons->K77,pairwise_map->K7f,nodup_append->K7g,filter_congr->K7h,getElem?_take_of_lt->K7v,eq_of_mem_replicate->K7w,length_eq_zero_iff->K7z,range'_succ->K81,not_mem_nil->K82,length_drop->K83,getElem_inj->K84,flatMap_map->K85,filter_cons_of_neg->K8a,set_set->K8d,map_set->K8e,any_map->K8f,range_succ_eq_map->K8n,length_pos_of_mem->K8o,drop_eq_nil_of_le->K8p,take_left'->K8u,of_mem_zip->K8v,nil_append->K8w,forIn_cons->K8x,filter_map->K8y,forIn_nil->K95,getD->K9c,filter_append->K9v,map_id'->Z13,getElem_take->Z1e,filter_cons->Z1w,range'->Z1x,length->Z1y,map_const'->Z23,find?_some->Z24,nodup_nil->Z2d
open PySem.Heap renaming get?_push_of_some->K8,lt_size->K0a,get?_push_size->K0b,size_push->K1r,get?_update_other->K2p,get?_update_self->K2y,SameBut->K3f,MadeExcOf->K96,ExtBut->Z1z
open PySem.Str renaming ofString->K01,length->K9o
open Nat renaming le_refl->K05,lt_of_lt_of_le->K0j,ne_of_lt->K0o,le_trans->K0z,reduceAdd->K12,ne_of_gt->K24,lt_of_le_of_lt->K29,lt_irrefl->K2e,le_of_lt->K2f,lt_succ_of_lt->K2o,zero_le->K3k,lt_succ_self->K50,le_succ->K68,add_le_add_left->K6g,mul_comm->K6j,le_of_eq->K6k,mod_lt->K9p,zero_add->Z15,lt_trans->Z16,lt_trichotomy->Z1j,le_of_succ_le->Z1k
open Bool renaming and_eq_true->K0i,eq_iff_iff->K0p,false_ne_true->K10,bne_false->K1h,false_eq_true->K1y,or_eq_true->K3c,not_true->K3j,false_or->K4o,bne_true->K7n,and_true->K7o,not_eq_true'->Z1f
open Int renaming toNat_natCast->K0k,eq_ofNat_of_zero_le->K26,emod_lt_of_pos->K4d,emod_nonneg->K5b,toNat_of_nonneg->K9g,natCast_mul->Z25,toNat->Z2j
open PySem.SetTable renaming below->K0s,grown->K33,Probe->Z2b,laid->Z2e
open PySem.PassesOwn renaming never->K0x
open Option.some renaming inj->K11,injEq->K7b
open Option renaming map_eq_some_iff->K15,getD_some->K80,isSome_map->Z17,getD_none->Z1o
open Array renaming length_toList->K18,getElem?_eq_getElem->K1k,getElem?_eq_some_iff->K27,getElem?_toList->K3s,append_assoc->K9u,toList->Z12,toList_push->Z1d
open PySem.Value renaming ref->K1f,none->K2h,type->K45,int->K61,bool->K6p,str->K9b,isStrOf->Z2g
open PySem.Heap.SameBut renaming update->K1j,refl->K7a
open PyProof.Rows renaming slot_tuple_getitem->K1q,callWith_type1->K3g,AllBare->K5v,IntsAre->K67,subscriptTail_builtinR->K8s,entry_tuple_getitem->K9i,subscriptTail->K9j
open PySem.Around renaming under_plainId->K1w
open PySem.Builtin.Str renaming occurrences->K25
open False renaming elim->K28
open PySem.Builtin.Tuple renaming tupleExact->K2c,tupleItemsOf->K6t,tupleIsExact->K6u
open PySem.F renaming slot_tuple_iterator_next->K2s,plain_list_iadd->K2z,slot_tuple_mul->K3i,slot_list_index->K48,plainAttrs_list->K49,args_object_init_2->K4y,args_tuple_mul_2->K58,args_tuple_add_2->K59,args_tuple_iterator_next_1->K5h,entry_tuple_mul->K5k,entry_tuple_add->K5l,entry_tuple_iterator_next->K5o,slot_tuple_add->K5t,typeCall_enumerate_1->K6e,plain_proto_collect->K6m,newCall_enumerate_1->K6n,entry_enumerate_new->K6o,args_list_index_2->K73,entry_list_index->K7t,called_enumerate->K7u,slot_tuple_rmul->K7y,type_list_index->K88,slot_int_rmul->K91
open PySem.SetTable.below renaming go->K36
open PySem.Builtin.Range renaming rangeSize->K37,small->K55
open Ne renaming symm->K3a
open True renaming intro->K3b
open PySem.Builtin.List renaming listExtendWith->K3h,listTooLong->K56,listSameRef->K7r
open PySem.Obj renaming data_mapFields->K3o,isFreed_of_fields->K4s,mapSeq->K5d,putSet->K6r,mapFields->K7q
open PySem.Builtin.SmallTypes renaming nextOf->K3v
open PySem.Builtin.Slice renaming slicePlaces->K3w,sliceAdjust->K54,sliceApplied->K6v
open List.Pairwise renaming filter->K3y,imp_of_mem->K7p,map->K9y,imp->K9z
open Sum renaming inl->K46,inr->K9d
open Classical renaming propDecidable->K47
open ForInStep renaming yield->K4g
open PySem.NameKind renaming free->K4l
open PySem.Paired renaming length->K4m
open PyProof.Rows.F renaming plain_set_update_loop->K5n,entry_set_update_loop->K8b
open PySem.AutoSeq1 renaming idx_int->K5p
open PySem.Calls renaming evalArgs_plain->K6b,Name_function_global->K70,call_function_entry->K74,callWith_builtin->K8m
open PySem.Builtin.Frozenset renaming updateFrom->K6d
open PySem.SeqAt renaming EqAt->K6q,list_indexAt->K7s
open PySem.SetTable.probe renaming go->K79
open PySem.Shared renaming TypeIs->K7m
open PySem.SeqAt.EqAt renaming str_int->K9m,int_str->K9n
open PySem.pickOrder renaming go->K9x
open Function renaming comp_def->Z14
open And renaming intro->Z1l
open List.Perm renaming cons->Z28
open PySem.Data renaming seq->Z29
open Pure renaming pure->Z2i
open Sum.inl renaming inj->Z2k
open PySem PySem.Spec PyProof.Rows L2
set_option hygiene false
local macro_rules
|`(.(r $t))=>`(some (.ref $t))
|`(.(i $t))=>`(some (.int $t))
|`(.(g $t))=>`(some (.tup $t))
|`(.(l $t))=>`(some (.lst $t))
|`(.(s $t))=>`(some (.str $t))
|`(.(p $t))=>`((fun _=>pure (.int $t)))
|`(.(0))=>`((by decide))
|`(.(1))=>`((by omega))
|`(.(2))=>`((by decide +kernel))
|`(.(3))=>`((λ_=>pure (.int 0)))
|`(.(4))=>`(s.heap.objs.size)
|`(.(5))=>`((z05 (by first|rfl|kernel_rfl!)))
|`(.(6))=>`((λ_=>pure (.int 1)))
|`(.(7))=>`((maD st mk))
|`(.(8))=>`((model X.prog X.w))
|`(.(9))=>`((X.comp N' sc s H fp xe))
|`(.(a))=>`((z9 rfl))
|`(.(b))=>`((Pre.refl _))
|`(.(c))=>`(st.length)
|`(.(d))=>`((Ext.refl _ _))
|`(.(e))=>`((λ_ _ _ _ _ _ us hl=>(by obtain⟨_,_,rfl⟩:=ar2 hl;rfl)))
|`(.(f))=>`((by simp))
|`(.(g))=>`((λ_ _ _ _ _ _ us hl=>(by obtain⟨_,_,_,rfl⟩:=ar3 hl;rfl)))
|`(.(h))=>`((eVar 0))
|`(.(i))=>`((Z0 (sRet (λ_=>pure (.bl false))) bNil))
|`(.(j))=>`((eVar 1))
|`(.(k))=>`(s1.heap.objs.size)
|`(.(l))=>`((λ_ _ _ _ _ _ us hl=>(by obtain⟨_,rfl⟩:=ar1 hl;rfl)))
|`(.(m))=>`(h.length)
|`(.(n))=>`((λγ h1=>∃st mk v10 v11,γ=[.(r 2),.(i (n:Nat)),.(s name),some (.bl ring),some (.bl loop),.(i (sh:Nat)),.(i (tu:Nat)),.(i w),.(r H.length),.(r (H.length+1)),v10,v11]/\h1=H++(.lst (stsD st)::.lst (mksD mk)::[])/\CH n name st mk))
|`(.(o))=>`((λ_=>pure true))
|`(.(p))=>`((eLst (z8 (λ_=>pure (.str "yes")) (z8 (λ_=>pure (.str "no")) (z8 (λ_=>pure (.str "not")) (z8 (λ_=>pure (.str "and")) (z8 (λ_=>pure (.str "or")) (z8 (λ_=>pure (.str "step")) (z8 (λ_=>pure (.str "some")) (z8 (λ_=>pure (.str "all")) (z8 (λ_=>pure (.str "next")) (z8 (λ_=>pure (.str "once")) (z8 (λ_=>pure (.str "ever")) (z8 (λ_=>pure (.str "until")) (z8 (λ_=>pure (.str "unless")) aNil)))))))))))))))
|`(.(q))=>`([.int (k:Nat),y])
|`(.(r))=>`((Z5 (z0 0) Z2))
|`(.(s))=>`(decide_eq_true)
|`(.(t))=>`((∀x c,X.env.cells.lookup x=some c->c≠b))
|`(.(u))=>`((([a]:List Expr).length+([]:List K52).length+(if ([]:List K52).isEmpty then 0 else 1)<30))
|`(.(v))=>`((stD row))
|`(.(w))=>`((eVar 2))
|`(.(x))=>`((Z0 (sRet (λ_=>pure .non)) bNil))
|`(.(y))=>`(decide_eq_false)
|`(.(z))=>`((λ_ _ _ _=>y9))
|`(.(A))=>`((Addr×Obj))
|`(.(B))=>`((λ_=>pure (.int 2)))
|`(.(C))=>`((by simp[RD]))
|`(.(D))=>`(items.size)
|`(.(E))=>`((hr.mono .(0)))
|`(.(F))=>`([some .(7),.(r i),.(i (k:Nat)),some y,.(r .(m)),a,.(r H0.length),.(r H1.length),.(r ((H1++[O.lst (stD Y)]).length)),.(r H2.length)])
|`(.(G))=>`((ac_h .(a) (ac_h .(a) rfl)))
|`(.(H))=>`((sIf (cOr (cAnd (λγ=>do let d <- e2 fLt (e2 fAdd (eVar 10) .(6)) .(j) γ;asB d) (λγ=>do let d <- e2 fGt (e2 fMod (e2 fAdd (eVar 10) .(6)) (eVar 5)) .(3) γ;asB d)) (cVal (eVar 3))) (Z0 (sAsg (eTup (z8 (e2 fMod (e2 fAdd (e2 fAdd (eVar 10) .(6)) (eVar 6)) .(j)) aNil)) (gIx (eVar 8) (eVar 11))) bNil) (Z0 (sIf (cVal (eVar 4)) (Z0 (sAsg (eTup (z8 (eVar 11) aNil)) (gIx (eVar 8) (eVar 11))) bNil) bNil) bNil)))
local macro_rules
|`(.(I))=>`([some .(7),.(g (ryD R)),.(r .(m)),.(r h1.length),.(i (c:Nat)),some r.d])
|`(.(J))=>`([some .(7),.(r b),.(i (p.1:Nat)),.(g ((stD (blk bl p.1)))),.(r ((hF++j).length)),y])
|`(.(K))=>`([some .(7),.(i (x:Nat)),.(g .(v)),.(g (Y2 cs)),.(r b),.(r g0.length),.(r g1.length),.(g .(q)),.(i (k:Nat)),some y,.(i (((R.length+1:Nat):Int))),.(i (((R.length+3:Nat):Int))),.(r a),t6])
|`(.(L))=>`([some .(7),.(r b),.(g .(q)),.(i (k:Nat)),some y,.(r (hF.length+0)),.(g ((stD (x::r))))])
|`(.(M))=>`((e2 fIx .(h) .(3)))
|`(.(N))=>`((e2_h .(a) (y:=.int 0) rfl (by rw[z1c];rfl)))
|`(.(O))=>`((SW.sc (z2z (sc_c z2A (Z5 (z0 5) Z2) y4) (z1O (sc_c z2A (Y3 rfl ZS.Uai (z6 (z0 5) Z1)) Z2)))))
|`(.(P))=>`((fin (w:=false) .(f) rfl))
|`(.(Q))=>`((.ListComp elt [⟨tg,iter,[],0⟩,⟨tg1,iter1,ifs1,0⟩] sc pos))
|`(.(R))=>`((.ref h.length))
|`(.(S))=>`([some .(7),.(i (x:Nat)),.(g .(v)),.(g (Y2 cs)),.(r b),.(r g0.length),.(r g1.length)])
|`(.(T))=>`((λ_ _ _ _ _ _ us hl=>(by obtain⟨_,_,_,_,rfl⟩:=ar4 hl;rfl)))
|`(.(U))=>`((.frz ob (.dK vs)))
|`(.(V))=>`((bel st mk bl y))
|`(.(W))=>`((λ_=>trivial))
|`(.(X))=>`((z8 .(h) aNil))
|`(.(Y))=>`((z8 (eVar 5) aNil))
|`(.(Z))=>`((ha pins s σ H _ I h))
|`(.(10))=>`((e2 fIx .(h) .(6)))
|`(.(11))=>`((z8 .(j) aNil))
|`(.(12))=>`((rowB .(c) bl))
|`(.(13))=>`((Z0 (sAsg (eFn 4 z0C (z8 .(h) (z8 .(w) (z8 (FT.e2 fIx (eVar 3) .(3)) (z8 (FT.e2 fIx (eVar 3) .(6)) aNil))))) (gN 2)) (Z0 (sIf (λγ=>do let d <- FT.e2 (fIs false) .(w) (λ_=>pure .non) γ;asB d) .(x) bNil) bNil) γ))
|`(.(14))=>`((z01 rfl ZS.Uao (Y3 rfl ZS.Uai (z6 (z0 1) Z1))))
|`(.(15))=>`(decide_eq_true_eq)
|`(.(16))=>`((x==("__debug__":Str)))
|`(.(17))=>`([.(r c),.(r e),.(i (k:Nat)),some y,.(i (num k:Nat)),.(i (R.length:Nat))])
|`(.(18))=>`((e2_h .(a) (y:=.int 1) rfl (by rw[z2n];rfl)))
|`(.(19))=>`((List Nat))
|`(.(20))=>`((z7 (j6 z1N) Z3))
|`(.(21))=>`(xs.length)
set_option hygiene true
namespace FT
def zF9:List Bool->List PySem.Stmt->List PySem.Stmt
 | true::r,x::xs=>x::zF9 r xs
 | false::r,_::xs=>zF9 r xs
 | _,_=>[]
def qv:PySem.Program:={ PySem.Challenge.pw_fairtrees_k71_forty_standings with main:={ PySem.Challenge.pw_fairtrees_k71_forty_standings.main with body:=zF9 [false,false,false,false,false,false,false,false,false,false,false,false,false,false,false,false,false,false,false,false,false,false,false,false,false,false,false,false,false,false,false,false,false,false,false,false,false,false,false,false,false,false,false,false,false,false,false,false,false,true] PySem.Challenge.pw_fairtrees_k71_forty_standings.main.body } }
def looseQ:List PySem.Str:=[K01 "TreeError",K01 "NoPaper",K01 "AreAlike",K01 "is_number",K01 "is_number_from",K01 "is_tuple",K01 "is_tuple_of",K01 "set_of",K01 "bears",K01 "classes",K01 "first_blocks",K01 "next_cut",K01 "parted",K01 "belongs",K01 "cut_up",K01 "row_of",K01 "is_steady",K01 "led_to",K01 "alike",K01 "quotient",K01 "saying_of",K01 "write_cut",K01 "parting",K01 "_law_pool",K01 "_law_draw",K01 "_law_name",K01 "_law_number",K01 "_law_tuple",K01 "_law_good_set",K01 "_law_good_name",K01 "_law_truth",K01 "_law_homes",K01 "_law_numbered",K01 "_law_steady",K01 "_law_halved",K01 "_law_cuts_end",K01 "_law_classes_right",K01 "_law_same_machine",K01 "_law_quotient_of",K01 "_law_plain_truths",K01 "_law_chains",K01 "_law_parted"]
end FT
section
open PySem PySem.W PyProof.Rows
local macro_rules | `(tactic| o_head $H)=>`(tactic| (refine holds_open (q:=FT.qv) (loose:=FT.looseQ) (Xt:=fun s=>xlAt FT.qv [] s && recOk (RowW.records (OpenRow.toRowW (OpenLaw.row PySem.Challenge.rw_fairtrees_k71_forty_standings))) s) (XP:=XL FT.qv []) (Yf:=Hook.obs $H) (Ya:=Hook.val $H) (YP:=Hook.says $H) (N:=30000) ?_ (Hook.of $H) (Hook.keeps $H) (fun s e=>xl_of s (Bool.and_eq_true_iff.mp e).1) XL.keeps (by rfl) (by rfl) (by rfl) (fun s e=>recFacts_of (Bool.and_eq_true_iff.mp e).2) (by rfl) (by first | assumption | decide +kernel) (by decide +kernel) ⟨rfl,rfl,rfl,rfl,rfl,by decide +kernel⟩ ?_ ?_))
set_option maxRecDepth 100000 in
noncomputable def FT.pack:PSigma fun P:Prop=>P->PySem.Challenge.rw_fairtrees_k71_forty_standings.Holds:=by
 refine⟨?P,λh=>?_⟩
 rotate_left
 ·w_on;o_law;k_head
  next=>exact λw=>by kernel_rfl
  next=>w_witness2
  exact h
end
namespace L2
abbrev Key:=Sum Int Str
def z29:Key->Value->Bool
 | .inl k,v=>Value.isInt k v
 | .inr x,v=>Z2g x v
def keyH(w:World):Key->Int
 | .inl k=>hashInt k
 | .inr x=>hashStr w x
theorem k6:∀{k:Key}{v:Value},z29 k v=true->(∃i t,k=K46 i/\v=K61 i t)\/(∃x t,k=K9d x/\v=K9b x t)
 | .inl i,v,h=>by
  obtain⟨t,e⟩:=Value.isInt_shape (k:=i) (v:=v) h;exact .inl ⟨i,t,rfl,e⟩
 | .inr x,v,h=>by
  obtain⟨t,e⟩:=Value.isStrOf_shape (x:=x) (v:=v) h;exact .inr ⟨x,t,rfl,e⟩
theorem z7a(i:Int)(t:Tok):z29 (.inl i) (.int i t)=true:=by simp[z29,Value.isInt]
theorem z7w(x:Str)(t:Tok):z29 (.inr x) (.str x t)=true:=by simp[z29,Z2g]
theorem zN8(a b:Int):decide ((K46 a:Key)=K46 b)=(a==b):=by
 by_cases e:a=b
 ·subst e;simp
 ·have h:¬ (K46 a:Key)=K46 b:=λq=>e (Z2k q);rw[.(y) h];exact(beq_eq_false_iff_ne.mpr e).symm
theorem zN4(a b:Str):decide ((K9d a:Key)=K9d b)=decide (a=b):=by
 by_cases e:a=b
 ·subst e;simp
 ·have h:¬ (K9d a:Key)=K9d b:=λq=>e (K9d.inj q);rw[.(y) h,.(y) e]
theorem zW9(a:Int)(b:Str):decide ((K46 a:Key)=K9d b)=false:=decide_eq_false (λq=>nomatch q)
theorem zU6(a:Str)(b:Int):decide ((K9d a:Key)=K46 b)=false:=decide_eq_false (λq=>nomatch q)
def J6(prog:K1a)(w:World):PySem.KeyKind prog w Key where
 is:=z29
 hash:=keyH w
 inj:=λv a b ha hb=>by
  rcases k6 ha with ⟨i,t,rfl,rfl⟩|⟨x,t,rfl,rfl⟩
  ·rcases k6 hb with ⟨j,u,rfl,e⟩|⟨y,u,rfl,e⟩
   ·injection e with e1 _;rw[e1]
   ·exact nomatch e
  ·rcases k6 hb with ⟨j,u,rfl,e⟩|⟨y,u,rfl,e⟩
   ·exact nomatch e
   ·injection e with e1 _;rw[e1]
 byValue:=λk v h=>by
  rcases k6 h with ⟨i,t,rfl,rfl⟩|⟨x,t,rfl,rfl⟩<;>rfl
 pyHash:=λhv h=>by
  rcases k6 hv with ⟨i,t,rfl,rfl⟩|⟨x,t,rfl,rfl⟩
  ·exact wpAny_pyHash_int h
  ·exact wpAny_pyHash_str h
 eqBool:=λhu hv h=>by
  rcases k6 hu with ⟨i,t,rfl,rfl⟩|⟨x,t,rfl,rfl⟩
  ·rcases k6 hv with ⟨j,u,rfl,rfl⟩|⟨y,u,rfl,rfl⟩
   ·rw[zN8]at h;exact wpAny_eqBool_int h
   ·rw[zW9]at h;exact K9n i t y u _ _ _ _ h
  ·rcases k6 hv with ⟨j,u,rfl,rfl⟩|⟨y,u,rfl,rfl⟩
   ·rw[zU6]at h;exact K9m x t j u _ _ _ _ h
   ·rw[zN4]at h;exact wpAny_eqBool_str h
 «strs»:=λk x t v h=>by
  rcases k6 h with ⟨i,u,rfl,e⟩|⟨y,u,rfl,e⟩
  ·exact nomatch e
  ·injection e with e1 _
   subst e1;cases v<;>rfl
theorem z7G(prog:K1a)(w:World)(i:Int)(t:Tok):(J6 prog w).is (.inl i) (.int i t)=true:=z7a i t
theorem z7B(prog:K1a)(w:World)(x:Str)(t:Tok):(J6 prog w).is (.inr x) (.str x t)=true:=z7w x t
end L2
namespace FT
abbrev Rise(xs:Array Nat):Prop:=xs.toList.Pairwise (·<·)
instance keyMem(k:Key)(ks:List Key):Decidable (k∈ks):=@List.instDecidableMemOfLawfulBEq Key instBEqOfDecidableEq inferInstance k ks
section
variable(w:World)
def KE(k:Key)(e:Int×Value):Prop:=z29 k e.2=true/\e.1=keyH w k
def SetAt(h:Heap)(a:Addr)(ks:List Key):Prop:=
 ∃o es ep t ks',h.get? a=some o/\o.ExactSet/\o.data=.set es ep t/\Paired (KE w) ks' es.toList/\ks'.Perm ks/\ks.Nodup/\es.size<scanBound/\t.fits es.size=true/\Rise t.place /\
  (t.led=true\/w.params.followText "set-order" = true)
end
def IsTup0(h:Heap)(a:Addr)(items:Array Value):Prop:=∃o,h.get? a=some o/\(o.cls=.type "tuple"/\o.dict=none)/\∃n,o.data=.seq items n
theorem IsTup0.new(h:Heap)(items:Array Value):IsTup0 (h.push { cls:=.type "tuple",data:=.seq items }) h.objs.size items:=⟨_,K0b _ rfl,⟨rfl,rfl⟩,_,rfl⟩
theorem IsTup0.tup{h:Heap}{a:Addr}{items:Array Value}(x:IsTup0 h a items):IsTup h a items:=let ⟨o,e,c,d⟩:=x;⟨o,e,c.1,d⟩
theorem IsTup0.lt{h:Heap}{a:Addr}{items:Array Value}(x:IsTup0 h a items):a<h.objs.size:=let ⟨_,e,_⟩:=x;K0a e
end FT
namespace L2
variable{κ:Type}{a b it C dx:Addr}{u:Value}{P:K1a}{w:World}{h h' base:Heap}{x qual:Str}{e c tg l:Expr}{pins pins':List (Addr×Obj)}{s s':Shared}{g':Array K97}{t' i n:Nat}{d':Drawn}{ch fp:List Addr}{N ps:List Str}{A:Around}{E Q:Value->Shared->Prop}{pos p:Pos}{K:K1}{es:List Expr}{g:Int->Int->Int}{body:List Stmt}{lo:Int}{its us ds:List Value}{mA mg:Str->Option Value}{fd:K4x}{scope:Scope}{outer:List Env}
inductive V where
 | non|bl (b:Bool)|int (i:Int)|str (x:Str)|byt (b:Array UInt8)|flt (b:UInt64)|ref (a:Addr)|ty (n:String)
 deriving DecidableEq
variable{σ':List (Option V)}{v:V}{xs vs:List V}
def RelV:V->Value->Prop
 | .non,u=>u=K2h
 | .bl b,u=>u=K6p b
 | .int i,u=>∃t,u=K61 i t
 | .str x,u=>∃t,u=K9b x t
 | .byt b,u=>∃t,u=Value.bytes b t
 | .flt b,u=>∃t,u=Value.float b t
 | .ref a,u=>u=K1f a
 | .ty n,u=>u=K45 n
abbrev Vals:List V->List Value->Prop:=Paired RelV
theorem Vals.length{xs:List V}{us:List Value}(r:Vals xs us):xs.length=us.length:=K4m r
theorem Vals.get:∀{xs:List V}{us:List Value}{i:Nat}{x:V},Vals xs us->xs[i]?=some x->∃u,us[i]?=some u/\RelV x u
 | _,_,_,_,.nil,e=>by simp at e
 | _,_,0,_,.cons r _,e=>by simp at e;subst e;exact⟨_,rfl,r⟩
 | _,_,i+1,x,.cons _ t,e=>by
  obtain⟨u,h1,h2⟩:=Vals.get (i:=i) (x:=x) t (by simpa using e);exact⟨u,by simpa using h1,h2⟩
theorem Vals.set{x:V}{u:Value}(r:RelV x u):∀{xs:List V}{us:List Value}(i:Nat),Vals xs us->Vals (xs.set i x) (us.set i u)
 | _,_,_,.nil=>.nil
 | _,_,0,.cons _ t=>.cons r t
 | _,_,i+1,.cons q t=>.cons q (Vals.set r i t)
theorem Vals.append:∀{xs ys:List V}{us ws:List Value},Vals xs us->Vals ys ws->Vals (xs++ys) (us++ws)
 | _,_,_,_,.nil,s=>s
 | _,_,_,_,.cons r t,s=>.cons r (Vals.append t s)
theorem Vals.take:∀{xs:List V}{us:List Value}(n:Nat),Vals xs us->Vals (xs.take n) (us.take n)
 | _,_,0,_=>.nil
 | _,_,_+1,.nil=>.nil
 | _,_,n+1,.cons r t=>.cons r (Vals.take n t)
theorem Vals.drop:∀{xs:List V}{us:List Value}(n:Nat),Vals xs us->Vals (xs.drop n) (us.drop n)
 | _,_,0,r=>r
 | _,_,_+1,.nil=>.nil
 | _,_,n+1,.cons _ t=>Vals.drop n t
def RelO:Option V->Option Value->Prop
 | some v,some u=>RelV v u
 | none,none=>True
 | _,_=>False
def KV:List (κ×V)->List (κ×Value)->Prop:=Paired λ(p:κ×V) (q:κ×Value)=>p.1=q.1/\RelV p.2 q.2
def kV:Key->V
 | .inl i=>.int i
 | .inr x=>.str x
inductive HO where
 | lst (xs:List V)
 | tup (xs:List V)
 | dK (kvs:List (Key×V))|dT (kvs:List (List Key×V))
 | set (ks:List Key)
 | ins (C dx:Addr) (fs:List (Str×V))
 | own (x:Addr)
 | xd (fs:List (Str×V))
 | met (f x:Addr)
 | rng (lo hi:Int)
 | frz (o:Obj) (u:HO)
 | tbl (ps:Array Value)
 | ext (φ:Heap->Prop)
variable{o:HO}
abbrev Hp:=Addr->Option HO
variable{H H':Hp}{R:V->V->Hp->Prop}
def upd(H:Hp)(a:Addr)(o:HO):Hp:=λb=>if b=a then some o else H b
theorem J4:upd H a o a=some o:=by unfold upd;rw[if_pos rfl]
theorem Y1(h:b≠a):upd H a o b=H b:=by unfold upd;rw[if_neg h]
theorem Z0J{u:HO}(h:H a=some o)(h':H b=some u)(d:o≠u):a≠b:=by
 intro e;subst e;rw[h]at h';exact d (K11 h')
theorem x4(h:H a=some o)(h':H b=none):a≠b:=by
 intro e;subst e;rw[h]at h';cases h'
section
variable(P:K1a)(w:World)
def ObjOk(H:Hp)(h:Heap)(a:Addr):HO->Prop
 | .lst xs=>xs.length<=sizeLine/\∃(its:List Value) (n:Nat),Vals xs its/\h.get? a=some { cls:=.type "list",data:=.seq its.toArray n }
 | .tup xs=>xs.length<=sizeLine/\∃its:List Value,Vals xs its/\FT.IsTup0 h a its.toArray
 | .dK kvs=>kvs.length<=sizeLine/\(a==K3p)=false/\∃vs,KV kvs vs/\h.DictOf (J6 P w) a vs
 | .dT kvs=>kvs.length<=sizeLine/\(a==K3p)=false/\∃xs:List (List Key×Addr×Value),
  Paired (λ(p:List Key×V) (q:List Key×Addr×Value)=>p.1=q.1/\H q.2.1=.(g (p.1.map kV))/\RelV p.2 q.2.2) kvs xs /\
  ∃o es ep,h.get? a=some o/\o.ExactDict/\o.data=.dict es ep/\es.toList=xs.map (entryOfKey (K9f (J6 P w)))/\(xs.map (·.1)).Nodup
 | .set ks=>FT.SetAt w h a ks
 | .ins C dx fs=>H dx=some (.own a)/\fs.length<=1000/\dx≠a/\h.get? a=some (K8t C dx) /\
  ∃mA,h.Ns1 dx mA/\(∀f,RelO (fs.lookup f) (mA f))/\PySem.Within mA (fs.map (·.1))
 | .own _=>∃o,h.get? a=some o
 | .xd fs=>∃mA,h.Ns1 a mA/\∀f,RelO (fs.lookup f) (mA f)
 | .rng lo hi=>∃t u v,h.get? a=some { cls:=.type "range",data:=.fields #[.int lo t,.int hi u,.int 1 v] }
 | .frz o u=>h.get? a=some o/\ObjOk H h a u
 | .tbl ps=>h.get? a=some { cls:=.none,data:=.fields ps }
 | .met f x=>h.get? a=some (K7c (.ref f) (.ref x))
 | .ext φ=>φ h/\(∃o,h.get? a=some o)/\∀h1 h2:Heap,φ h1->(∀o,h1.get? a=some o->h2.get? a=some o)->φ h2
def HOk(H:Hp)(h:Heap):Prop:=∀a o,H a=some o->ObjOk P w H h a o
end
theorem ObjOk.lt(x:ObjOk P w H h a o):a<h.objs.size:=by
 cases o with
 | lst xs=>obtain⟨_,_,_,_,e⟩:=x;exact K0a e
 | tup xs=>obtain⟨_,_,_,p⟩:=x;exact p.lt
 | dK kvs=>obtain⟨_,_,_,_,o,_,_,e,_⟩:=x;exact K0a e
 | dT kvs=>obtain⟨_,_,_,_,o,_,_,e,_⟩:=x;exact K0a e
 | set ks=>obtain⟨o,_,_,_,_,e,_⟩:=x;exact K0a e
 | ins C dx fs=>obtain⟨_,_,_,e,_⟩:=x;exact K0a e
 | own y=>obtain⟨_,e⟩:=x;exact K0a e
 | xd fs=>obtain⟨_,⟨_,_,_,e,_⟩,_⟩:=x;exact K0a e
 | rng lo hi=>obtain⟨_,_,_,e⟩:=x;exact K0a e
 | frz ob u=>obtain⟨e,_⟩:=x;exact K0a e
 | tbl ps=>exact K0a (show h.get? a=some _ from x)
 | met f y=>exact K0a (show h.get? a=some _ from x)
 | ext φ=>obtain⟨_,⟨_,e⟩,_⟩:=x;exact K0a e
theorem Paired.mapP{α β:Type}{F G:α->β->Prop}:∀{l₁:List α}{l₂:List β},Paired F l₁ l₂->(∀a b,F a b->G a b)->Paired G l₁ l₂
 | _,_,.nil,_=>.nil
 | _,_,.cons r t,f=>.cons (f _ _ r) (Paired.mapP t f)
theorem ObjOk.stay(x:ObjOk P w H h a o)(k:∀b u,(b=a\/H b=some (.own a))->h.get? b=some u->h'.get? b=some u)
 (ho:∀b,H b=some (.own a)->H' b=some (.own a)) (ht:∀b xs,H b=.(g xs)->H' b=.(g xs)):ObjOk P w H' h' a o:=by
 induction o with
 | lst xs=>obtain⟨z,its,n,r,e⟩:=x;exact⟨z,its,n,r,k _ _ (.inl rfl) e⟩
 | tup xs=>obtain⟨z,its,r,ob,e,c⟩:=x;exact⟨z,its,r,ob,k _ _ (.inl rfl) e,c⟩
 | dK kvs=>obtain⟨z,y,vs,r,ob,es,ep,e,c⟩:=x;exact⟨z,y,vs,r,ob,es,ep,k _ _ (.inl rfl) e,c⟩
 | dT kvs=>
  obtain⟨z,y,xs,r,ob,es,ep,e,c⟩:=x;exact⟨z,y,xs,Paired.mapP r λp q z=>⟨z.1,ht _ _ z.2.1,z.2.2⟩,ob,es,ep,k _ _ (.inl rfl) e,c⟩
 | set ks=>obtain⟨ob,es,ep,t,k',e,c⟩:=x;exact⟨ob,es,ep,t,k',k _ _ (.inl rfl) e,c⟩
 | ins C dx fs=>
  obtain⟨d,z,ne,e,mA,⟨od,es,ep,e2,c⟩,r⟩:=x;exact⟨ho _ d,z,ne,k _ _ (.inl rfl) e,mA,⟨od,es,ep,k _ _ (.inr d) e2,c⟩,r⟩
 | own y=>obtain⟨ob,e⟩:=x;exact⟨ob,k _ _ (.inl rfl) e⟩
 | xd fs=>obtain⟨mA,⟨od,es,ep,e,c⟩,r⟩:=x;exact⟨mA,⟨od,es,ep,k _ _ (.inl rfl) e,c⟩,r⟩
 | rng lo hi=>obtain⟨t,u,v,e⟩:=x;exact⟨t,u,v,k _ _ (.inl rfl) e⟩
 | frz ob u ih=>obtain⟨e,q⟩:=x;exact⟨k _ _ (.inl rfl) e,ih q⟩
 | tbl ps=>
  have e:h.get? a=some { cls:=.none,data:=.fields ps }:=x;show h'.get? a=some { cls:=.none,data:=.fields ps };exact k a _ (.inl rfl) e
 | met f y=>
  have e:h.get? a=some (K7c (.ref f) (.ref y)):=x;show h'.get? a=some (K7c (.ref f) (.ref y));exact k a _ (.inl rfl) e
 | ext φ=>obtain⟨p,⟨o,e⟩,st⟩:=x;exact⟨st _ _ p λo q=>k _ _ (.inl rfl) q,⟨o,k _ _ (.inl rfl) e⟩,st⟩
theorem HOk.lt(x:HOk P w H h)(e:H a=some o):a<h.objs.size:=(x a o e).lt
theorem HOk.fresh(x:HOk P w H h)(e:h.objs.size<=a):H a=none:=by
 cases q:H a with
 | none=>rfl
 | some u=>exact absurd (K0j (x.lt q) e) (K2e _)
theorem HOk.kept(x:HOk P w H h)(k:∀b u,h.get? b=some u->h'.get? b=some u):HOk P w H h':=λa o e=>
 (x a o e).stay (λb u _ q=>k b u q) (λ_ q=>q) λ_ _ q=>q
theorem HOk.laid(x:HOk P w H h)(k:∀b u,h.get? b=some u->h'.get? b=some u)(hp:h.objs.size<=a)(new:ObjOk P w (upd H a o) h' a o):HOk P w (upd H a o) h':=λb u e=>by
 have hn:=x.fresh hp;by_cases hb:b=a
 ·subst hb;rw[J4]at e;cases e;exact new
 ·rw[Y1 hb]at e;exact(x b u e).stay (λc v _ q=>k c v q) (λc q=>by rw[Y1 (x4 q hn)];exact q) λc xs q=>by rw[Y1 (x4 q hn)];exact q
def Rd(H:Hp)(a:Addr)(u:HO):Prop:=H a=some u\/∃o,H a=some (.frz o u)
theorem Rd.ok{u:HO}(r:Rd H a u)(x:HOk P w H h):ObjOk P w H h a u:=by
 rcases r with r|⟨o,r⟩
 ·exact x a u r
 ·obtain⟨_,q⟩:=x a _ r;exact q
def Mut:Option HO->Prop
 | .(l _)=>True
 | some (.dK _)=>True
 | some (.dT _)=>True
 | some (.set _)=>True
 | some (.ins _ _ _)=>True
 | some (.ext _)=>True
 | _=>False
section
variable{x e:Addr}{o':HO}
theorem HOk.write(ok:HOk P w H h)(mu:Mut (H x))(he:e=x\/H e=some (.own x))(k:∀b u,b≠e->h.get? b=some u->h'.get? b=some u)(heo:∃u,h'.get? e=some u)
 (new:ObjOk P w (upd H x o') h' x o'):HOk P w (upd H x o') h':=λb u q=>by
 have nown:∀c y,H c=some (.own y)->c≠x:=λc y r z=>by subst z;rw[r]at mu;exact mu
 have ntup:∀c xs,H c=.(g xs)->c≠x:=λc xs r z=>by subst z;rw[r]at mu;exact mu
 by_cases hb:b=x
 ·subst hb;rw[J4]at q;cases q;exact new
 ·rw[Y1 hb]at q;by_cases hbe:b=e
  ·have q':H b=some (.own x):=by
    rcases he with z|z
    ·exact absurd (hbe.trans z) hb
    ·rw[hbe];exact z
   rw[q]at q';cases q';obtain⟨v,hv⟩:=heo;exact⟨v,by rw[hbe];exact hv⟩
  ·refine(ok b u q).stay (λc v hc r=>k c v ?_ r) (λc r=>by rw[Y1 (nown c b r)];exact r) λc xs r=>by rw[Y1 (ntup c xs r)];exact r
   rcases hc with rfl|hc
   ·exact hbe
   ·rintro rfl;rcases he with z|z
    ·exact nown c b hc z
    ·rw[hc]at z;cases z;exact hb rfl
end
structure Un(fs ex:List Addr)(H H':Hp)(h h':Heap):Prop where
 keep:∀b o,h.get? b=some o->H b=none->b∉fs->b∉ex->h'.get? b=some o
 slot:∀b o,h.get? b=some o->H b=none->b∈fs->b∉ex->∃sl,h'.get? b=some { o with slots:=sl }
 free:∀b o,h.get? b=some o->H b=none->b∉ex->H' b=none
 there:∀b o,h.get? b=some o->b∉ex->∃o',h'.get? b=some o'
 tups:∀b xs,H b=.(g xs)->H' b=.(g xs)
 frzs:∀b o u,H b=some (.frz o u)->H' b=some (.frz o u)
 tbls:∀b ps,H b=some (.tbl ps)->∃more,H' b=some (.tbl (ps++more))
section
variable{fs fs' ex ex':List Addr}{H1 H2:Hp}{h1 h2:Heap}{x e:Addr}
theorem Un.any(u:Un fs ex H H1 h h1){ob:Obj}(q:h.get? b=some ob)(n:H b=none)(hx:b∉ex):∃sl,h1.get? b=some { ob with slots:=sl }:=by
 by_cases hb:b∈fs
 ·exact u.slot b ob q n hb hx
 ·exact⟨ob.slots,u.keep b ob q n hb hx⟩
theorem Un.kept(k:∀b u,h.get? b=some u->h'.get? b=some u):Un fs ex H H h h':=
 ⟨λb ob q _ _ _=>k b ob q,λb ob q _ _ _=>⟨ob.slots,k b ob q⟩,λ_ _ _ n _=>n,λb ob q _=>⟨ob,k b ob q⟩,λ_ _ q=>q,λ_ _ _ q=>q,λ_ ps q=>⟨#[],by rw[q];simp⟩⟩
theorem Un.refl:Un fs ex H H h h:=Un.kept λ_ _ q=>q
theorem Un.laid(k:∀b u,h.get? b=some u->h'.get? b=some u)(hp:h.objs.size<=a)(hn:H a=none):Un fs ex H (upd H a o) h h' where
 keep:=λb u q _ _ _=>k b u q
 slot:=λb u q _ _ _=>⟨u.slots,k b u q⟩
 free:=λb u q n _=>by rw[Y1 (K0o (K0j (K0a q) hp))];exact n
 there:=λb u q _=>⟨u,k b u q⟩
 tups:=λb xs q=>by rw[Y1 (x4 q hn)];exact q
 frzs:=λb u xs q=>by rw[Y1 (x4 q hn)];exact q
 tbls:=λb ps q=>⟨#[],by rw[Y1 (x4 q hn),q];simp⟩
theorem Un.write(mu:Mut (H x))(he:e=x\/H e=some (.own x))(k:∀b u,b≠e->h.get? b=some u->h'.get? b=some u)(heo:∃u,h'.get? e=some u):Un fs ex H (upd H x o) h h':=by
 have hx:∀b,H b=none->b≠x:=λb n z=>by subst z;rw[n]at mu;exact mu
 have hb:∀b,H b=none->b≠e:=λb n z=>by
  subst z;rcases he with r|r
  ·exact hx b n r
  ·rw[n]at r;cases r
 have hm:∀b u,H b=some u->¬ Mut (some u)->b≠x:=λb u q nm z=>by subst z;rw[q]at mu;exact nm mu
 refine⟨λb u q n _ _=>k b u (hb b n) q,λb u q n _ _=>⟨u.slots,k b u (hb b n) q⟩,λb u q n _=>by rw[Y1 (hx b n)];exact n,λb u q _=>?_,
  λb xs q=>by rw[Y1 (hm b _ q λz=>z)];exact q,λb u xs q=>by rw[Y1 (hm b _ q λz=>z)];exact q,λb ps q=>⟨#[],by rw[Y1 (hm b _ q λz=>z),q];simp⟩⟩
 by_cases hbe:b=e
 ·subst hbe;exact heo
 ·exact⟨u,k b u hbe q⟩
end
def trk(h:Heap)(H:Hp):List Addr:=(K7 h.objs.size).filter λa=>(H a).isSome
def hidT(h:Heap)(H:Hp):Heap:=K4h h (trk h H)
theorem zf1(h:Heap)(H:Hp):(hidT h H).objs.size=h.objs.size:=PySem.W.hideAll_size _ _
theorem zt6{o:Obj}(e:h.get? b=some o)(n:H b=none):(hidT h H).get? b=some o:=
 K6f _ e λhm=>by
  have q:(H b).isSome=true:=(K0m.mp hm).2;rw[n]at q;simp at q
theorem zC3{o:Obj}(e:(hidT h H).get? b=some o):h.get? b=some o/\H b=none:=by
 have e':h.get? b=some o:=K6s (trk h H) e;refine⟨e',?_⟩;cases q:H b with
 | none=>rfl
 | some x=>
  have hm:b∈trk h H:=K0m.mpr ⟨K0q.mpr (K0a e'),by simp[q]⟩;have z:(hidT h H).get? b=none:=K69 (trk h H) hm;rw[z]at e;cases e
def zD6(g h:Heap)(L:Addr):List .(A):=(K7 h.objs.size).filterMap λa=>if a=L\/(g.get? a).isSome=true then none else (h.get? a).map λo=>(a,o)
def rest(g h:Heap)(L d:Addr):List .(A):=(zD6 g h L).filter λp=>decide (p.1≠d)
structure Mod(K:K1)(mg:Str->Option Value)(base:Heap):Prop where
 kin:K.In base
 glob:base.Ns K1p mg
 blt:∃mb,base.Ns builtinsNs mb/\∀x:Str,x≠"__name__"->mb x=K51 x
 nolimit:base.NoLimit
structure Cx where
 prog:K1a
 w:World
 K:K1
 mg:Str->Option Value
 base:Heap
 A:Around
 N:List Str
 s₀:Shared
 H₀:Hp
 env:Env
 outer:List Env
 stack:List Env
 ex:List Addr
 fn:Str->Bool
 calm:Bool
 pn:List .(A)
 xe:Value->Shared->Prop
variable{X:Cx}
def frs(l:List Env):List Addr:=l.filterMap (·.frame)
abbrev Cx.fs(X:Cx):List Addr:=frs X.outer
def Vis(sc:Scope)(x:Str):Prop:=sc.names.lookup x=some .local\/sc.names.lookup x=some .cell\/sc.names.lookup x=some .free
def Loc(sc:Scope)(x:Str):Prop:=sc.names.lookup x=some .local\/sc.names.lookup x=some .cell
def Look(env:Env)(h:Heap)(m:Str->Option Value)(x:Str)(u:Value):Prop:=
 (env.kindOf x=some .local/\m x=some u)\/((env.kindOf x=some .cell\/env.kindOf x=some .free)/\∃c,env.cells.lookup x=some c/\h.IsCell c (some u))
structure Cx.Ok(X:Cx):Prop where
 mod:Mod X.K X.mg X.base
 kind:X.env.scope.kind=.function
 glob:X.env.globals=K1p
 blt:X.env.builtins=builtinsNs
 above:X.s₀.heap.objs.size<=X.env.locals
 inj:∀x y c,X.env.cells.lookup x=some c->X.env.cells.lookup y=some c->x=y
 has:∀x,(X.env.kindOf x=some .cell\/X.env.kindOf x=some .free)->∃c,X.env.cells.lookup x=some c
 cab:∀x c,X.fn x=true->X.env.cells.lookup x=some c->X.s₀.heap.objs.size<=c
 hd:X.calm=true->X.A.handled=none
 frames:X.A.frames=some X.stack
 stk:X.stack=X.outer\/(X.stack=X.env::X.outer/\X.env.frame=some X.env.locals)
 exf:∀b∈X.ex,b≠X.env.locals/\∀x c,X.env.cells.lookup x=some c->c≠b
 bs:∀b o,X.base.get? b=some o->X.s₀.heap.get? b=some o/\X.H₀ b=none
 bsz:X.base.objs.size<=X.s₀.heap.objs.size
 noex:∀b o,X.base.get? b=some o->b∉X.ex
 exfs:∀b∈X.ex,b∉X.fs
 funs:X.s₀.heap.FunFrames X.base X.outer
 frf:∀b∈X.fs,X.H₀ b=none
structure Inv(X:Cx)(pins:List .(A))(σ:List (Option V))(H:Hp)(s:Shared):Prop where
 ok:X.Ok
 os:s.os=X.s₀.os
 bare:K5v s.gens
 base:Un X.fs X.ex X.H₀ H X.s₀.heap s.heap
 loc:∃m,s.heap.Ns X.env.locals m/\∀(i:Nat) (x:Str) (v:V),X.N[i]?=some x->σ[i]?=some (some v)->Vis X.env.scope x->∃u,RelV v u/\Look X.env s.heap m x u
 cell:∀x c,X.env.cells.lookup x=some c->∃v,s.heap.IsCell c v
 free:H X.env.locals=none
 freeC:∀x c,X.env.cells.lookup x=some c->H c=none
 pin:∀p∈X.pn++pins,s.heap.get? p.1=some p.2/\H p.1=none/\p.1≠X.env.locals/\p.1∉X.fs/\∀v,p.2.data≠.cell v
 hok:HOk X.prog X.w H s.heap
 len:σ.length=X.N.length
section
variable{σ:List (Option V)}
theorem Cx.Ok.nofr(ok:X.Ok){o:Obj}(e:X.base.get? b=some o):b∉X.fs:=λhb=>by
 have:=(ok.funs.mem hb).1;rw[e]at this;cases this
theorem Inv.bs(I:Inv X pins σ H s):∀b o,X.base.get? b=some o->s.heap.get? b=some o/\H b=none:=λb o e=>
 ⟨I.base.keep b o (I.ok.bs b o e).1 (I.ok.bs b o e).2 (I.ok.nofr e) (I.ok.noex b o e),I.base.free b o (I.ok.bs b o e).1 (I.ok.bs b o e).2 (I.ok.noex b o e)⟩
theorem Inv.bk(I:Inv X pins σ H s):∀b o,X.base.get? b=some o->s.heap.get? b=some o:=λb o e=>(I.bs b o e).1
theorem Inv.mod(I:Inv X pins σ H s):Mod X.K X.mg X.base:=I.ok.mod
theorem Inv.kIn(I:Inv X pins σ H s):X.K.In s.heap:=I.ok.mod.kin.keeps I.bk
theorem Inv.fr(I:Inv X pins σ H s):∃m,Fr X.base X.env.locals s.heap m:=
 let ⟨m,hn,_⟩:=I.loc
 ⟨m,hn,I.bk,K0z I.ok.bsz I.ok.above⟩
theorem Inv.lt(I:Inv X pins σ H s):X.env.locals<s.heap.objs.size:=let ⟨_,hn,_⟩:=I.loc;hn.lt
theorem Inv.sz(I:Inv X pins σ H s):X.s₀.heap.objs.size<=s.heap.objs.size:=K0z I.ok.above (K2f I.lt)
theorem Inv.nofs(I:Inv X pins σ H s)(h:s.heap.objs.size<=a):a∉X.fs:=λhb=>by
 obtain⟨_,o,ho,_⟩:=I.ok.funs.mem hb;exact absurd (K0j (K0a ho) (K0z I.sz h)) (K2e _)
theorem Inv.cne(I:Inv X pins σ H s):∀x c,X.env.cells.lookup x=some c->c≠X.env.locals:=λx c e z=>by
 obtain⟨v,o,ho,hd⟩:=I.cell x c e;obtain⟨m,⟨o',es,ep,ho',hd',_⟩,_⟩:=I.loc;rw[z,ho']at ho;cases ho;rw[hd']at hd;cases hd
theorem Inv.funs(I:Inv X pins σ H s):s.heap.FunFrames X.base X.outer:=by
 have all:∀(l:List Env),(∀b∈frs l,b∈X.fs)->X.s₀.heap.FunFrames X.base l->s.heap.FunFrames X.base l:=by
  intro l;induction l with
  | nil=>intro _ _;trivial
  | cons env r ih=>
   intro hs hl;obtain⟨hk,⟨L,o,hf,hn,ho,hd⟩,hr⟩:=hl;have hL:L∈X.fs:=hs L (by unfold frs;rw[K23,hf];exact K1e);obtain⟨sl,e⟩:=I.base.slot L o ho (I.ok.frf L hL) hL λz=>I.ok.exfs L z hL;exact⟨hk,⟨L,_,hf,hn,e,hd⟩,ih (λb hb=>hs b (by unfold frs;rw[K23,hf];exact K13 _ hb)) hr⟩
 exact all X.outer (λ_ hb=>hb) I.ok.funs
theorem Inv.stack(I:Inv X pins σ H s):s.heap.FunFrames X.base X.stack:=by
 rcases I.ok.stk with e|⟨e,hf⟩
 ·rw[e];exact I.funs
 ·rw[e];obtain⟨m,hn,_⟩:=I.loc;refine .cons (by rw[I.ok.kind];decide) hf hn ?_ I.funs;exact Heap.get?_none_of_le (K0z I.ok.bsz I.ok.above)
theorem Inv.stkSub(I:Inv X pins σ H s):∀b∈frs X.stack,b∈X.env.locals::X.fs:=λb hb=>by
 rcases I.ok.stk with e|⟨e,hf⟩
 ·rw[e]at hb;exact K13 _ hb
 ·rw[e]at hb;unfold frs at hb;rw[K23,hf]at hb;exact hb
theorem Inv.stkFree(I:Inv X pins σ H s):∀b∈frs X.stack,H b=none:=λb hb=>by
 rcases K0y.mp (I.stkSub b hb) with e|hb
 ·rw[e];exact I.free
 ·obtain⟨_,o,ho,_⟩:=I.ok.funs.mem hb;exact I.base.free b o ho (I.ok.frf b hb) λz=>I.ok.exfs b z hb
theorem Inv.step{g':Array K97}{t':Nat}{d':Drawn}{ch:List Addr}(I:Inv X pins σ H s)
 (hch:∀b∈ch,(b∈X.ex\/X.s₀.heap.objs.size<=b)/\b≠X.env.locals/\.(t)/\∀p∈X.pn++pins,p.1≠b)
 (keep:∀b o,b≠X.env.locals->b∉X.fs->b∉ch->s.heap.get? b=some o->H b=none->h'.get? b=some o)
 (slot:∀b o,b≠X.env.locals->b∈X.fs->b∉ch->s.heap.get? b=some o->H b=none->∃sl,h'.get? b=some { o with slots:=sl }) (free:∀b o,b∉ch->s.heap.get? b=some o->H b=none->H' b=none)
 (there:∀b o,b∉ch->s.heap.get? b=some o->∃o',h'.get? b=some o')
 (tups:∀b xs,H b=.(g xs)->H' b=.(g xs)) (frzs:∀b o u,H b=some (.frz o u)->H' b=some (.frz o u)) (tbls:∀b ps,H b=some (.tbl ps)->∃more,H' b=some (.tbl (ps++more)))
 (ns:∀m,s.heap.Ns X.env.locals m->h'.Ns X.env.locals m) (hok:HOk X.prog X.w H' h') (hg:K5v g') :
 Inv X pins σ H' { s with heap:=h',gens:=g',drawn:=d',toks:=t' }:=by
 have neL:∀b o,X.s₀.heap.get? b=some o->b≠X.env.locals:=λb o e=>K0o (K0j (K0a e) I.ok.above);have neC:∀b o,X.s₀.heap.get? b=some o->b∉X.ex->b∉ch:=λb o e hx hb=>by
  rcases(hch b hb).1 with z|z
  ·exact hx z
  ·exact absurd (K0j (K0a e) z) (K2e _)
 have cellK:∀x c,X.env.cells.lookup x=some c->∀v,s.heap.IsCell c v->h'.IsCell c v:=λx c e v ⟨o,ho,hd⟩=>by
  have nch:c∉ch:=λz=>(hch c z).2.2.1 x c e rfl;by_cases hc:c∈X.fs
  ·obtain⟨sl,q⟩:=slot c o (I.cne x c e) hc nch ho (I.freeC x c e);exact⟨_,q,hd⟩
  ·exact⟨o,keep c o (I.cne x c e) hc nch ho (I.freeC x c e),hd⟩
 refine⟨I.ok,I.os,hg,⟨λb o e n hb hx=>?_,λb o e n hb hx=>?_,λb o e n hx=>?_,λb o e hx=>?_,λb xs e=>tups b xs (I.base.tups b xs e),λb o xs e=>frzs b o xs (I.base.frzs b o xs e),λb ps e=>?_⟩,?_,λx c e=>?_,?_,λx c e=>?_,λp hp=>?_,hok,I.len⟩
 ·exact keep b o (neL b o e) hb (neC b o e hx) (I.base.keep b o e n hb hx) (I.base.free b o e n hx)
 ·obtain⟨sl,e1⟩:=I.base.slot b o e n hb hx;obtain⟨sl',e2⟩:=slot b _ (neL b o e) hb (neC b o e hx) e1 (I.base.free b o e n hx);exact⟨sl',e2⟩
 ·obtain⟨o',e1⟩:=I.base.there b o e hx;exact free b o' (neC b o e hx) e1 (I.base.free b o e n hx)
 ·obtain⟨o',e1⟩:=I.base.there b o e hx;exact there b o' (neC b o e hx) e1
 ·obtain⟨m1,e1⟩:=I.base.tbls b ps e;obtain⟨m2,e2⟩:=tbls b _ e1;exact⟨m1++m2,by rw[e2,K9u]⟩
 ·obtain⟨m,hn,hl⟩:=I.loc;refine⟨m,ns m hn,λi x v e1 e2 e3=>?_⟩;obtain⟨u,r,l⟩:=hl i x v e1 e2 e3;refine⟨u,r,?_⟩;rcases l with l|⟨k,c,e,z⟩
  ·exact .inl l
  ·exact .inr ⟨k,c,e,cellK x c e _ z⟩
 ·obtain⟨v,z⟩:=I.cell x c e;exact⟨v,cellK x c e v z⟩
 ·obtain⟨m,⟨o,_,_,ho,_⟩,_⟩:=I.loc;exact free _ o (λz=>(hch _ z).2.1 rfl) ho I.free
 ·obtain⟨v,o,ho,hd⟩:=I.cell x c e;exact free c o (λz=>(hch c z).2.2.1 x c e rfl) ho (I.freeC x c e)
 ·obtain⟨e,n,ne,nf,d⟩:=I.pin p hp;have nch:p.1∉ch:=λz=>(hch p.1 z).2.2.2 p hp rfl;exact⟨keep p.1 p.2 ne nf nch e n,free p.1 p.2 nch e n,ne,nf,d⟩
theorem Inv.un(I:Inv X pins σ H s)(u:Un X.fs [] H H' s.heap h')(hok:HOk X.prog X.w H' h'):Inv X pins σ H' { s with heap:=h',toks:=t' }:=by
 obtain⟨m,⟨o,es,ep,ho,r⟩,_⟩:=id I.loc;obtain⟨sl,hL⟩:=u.any ho I.free .(f);exact I.step (g':=s.gens) (d':=s.drawn) (ch:=[]) (λ_ z=>nomatch z) (λb o _ hb _ e n=>u.keep b o e n hb .(f)) (λb o _ hb _ e n=>u.slot b o e n hb .(f)) (λb o _ e n=>u.free b o e n .(f)) (λb o _ e=>u.there b o e .(f)) u.tups u.frzs u.tbls (λm' hm=>by
  obtain⟨o',es',ep',ho',r'⟩:=hm;rw[ho]at ho';cases ho';exact⟨_,es',ep',hL,r'⟩) hok I.bare
theorem Inv.call{t':Nat}{d':Drawn}(I:Inv X pins σ H s)(u:Un (frs X.stack) ch H H' s.heap h')(hok:HOk X.prog X.w H' h')(hg:K5v g')
 (hch:∀b∈ch,(b∈X.ex\/X.s₀.heap.objs.size<=b)/\b≠X.env.locals/\.(t)/\∀p∈X.pn++pins,p.1≠b) :
 Inv X pins σ H' { s with heap:=h',gens:=g',drawn:=d',toks:=t' }:=by
 obtain⟨m,⟨o,es,ep,ho,r⟩,_⟩:=id I.loc;obtain⟨sl,hL⟩:=u.any ho I.free λz=>(hch _ z).2.1 rfl;exact I.step (ch:=ch) hch (λb o hL hb hc e n=>u.keep b o e n (λz=>(K0y.mp (I.stkSub b z)).elim hL hb) hc) (λb o _ _ hc e n=>u.any e n hc) (λb o hc e n=>u.free b o e n hc) (λb o hc e=>u.there b o e hc) u.tups u.frzs u.tbls (λm' hm=>by
  obtain⟨o',es',ep',ho',r'⟩:=hm;rw[ho]at ho';cases ho';exact⟨_,es',ep',hL,r'⟩) hok hg
theorem Inv.turned{t':Nat}(I:Inv X pins σ H s)(k:∀b o,b≠it->s.heap.get? b=some o->h'.get? b=some o)(hn:H it=none)(hL:it≠X.env.locals)
 (h1:it∈X.ex\/X.s₀.heap.objs.size<=it) (h2:∀x c,X.env.cells.lookup x=some c->c≠it) (h3:∀p∈X.pn++pins,p.1≠it):Inv X pins σ H { s with heap:=h',toks:=t' }:=by
 have nit:∀b u,H b=some u->b≠it:=λb u e z=>by rw[z,hn]at e;cases e
 refine I.step (g':=s.gens) (d':=s.drawn) (ch:=[it]) (λb hb=>?_) (λb o _ _ hc e _=>k b o (λz=>hc (by simp[z])) e) (λb o _ _ hc e _=>⟨o.slots,k b o (λz=>hc (by simp[z])) e⟩) (λ_ _ _ _ n=>n)
  (λb o hc e=>⟨o,k b o (λz=>hc (by simp[z])) e⟩) (λ_ _ e=>e) (λ_ _ _ e=>e) (λb ps e=>⟨#[],by rw[e];simp⟩) (λm hm=>?_) (λb u e=>?_) I.bare
 ·have e:b=it:=by simpa using hb
  subst e;exact⟨h1,hL,h2,h3⟩
 ·obtain⟨o,es,ep,ho,r⟩:=hm;exact⟨o,es,ep,k _ o (K3a hL) ho,r⟩
 ·refine(I.hok b u e).stay (λc v hc q=>k c v ?_ q) (λ_ q=>q) λ_ _ q=>q;rcases hc with z|z
  ·rw[z];exact nit b u e
  ·exact nit c _ z
theorem Inv.tok(I:Inv X pins σ H s)(t:Nat):Inv X pins σ H { s with toks:=t }:=I.un (h':=s.heap) (t':=t) Un.refl I.hok
theorem Inv.kept{t':Nat}(I:Inv X pins σ H s)(k:∀b u,s.heap.get? b=some u->h'.get? b=some u):Inv X pins σ H { s with heap:=h',toks:=t' }:=I.un (Un.kept k) (I.hok.kept k)
theorem Inv.laid{a:Addr}{o:HO}{t':Nat}(I:Inv X pins σ H s)(k:∀b u,s.heap.get? b=some u->h'.get? b=some u)(hp:s.heap.objs.size<=a)(new:ObjOk X.prog X.w (upd H a o) h' a o) :
 Inv X pins σ (upd H a o) { s with heap:=h',toks:=t' }:=I.un (Un.laid k hp (I.hok.fresh hp)) (I.hok.laid k hp new)
theorem Inv.write{x e:Addr}{o:HO}{t':Nat}(I:Inv X pins σ H s)(mu:Mut (H x))(he:e=x\/H e=some (.own x))(k:∀b u,b≠e->s.heap.get? b=some u->h'.get? b=some u)(heo:∃u,h'.get? e=some u)
 (new:ObjOk X.prog X.w (upd H x o) h' x o):Inv X pins σ (upd H x o) { s with heap:=h',toks:=t' }:=I.un (Un.write mu he k heo) (I.hok.write mu he k heo new)
theorem Inv.weak(I:Inv X pins σ H s)(hl:σ'.length=σ.length)(w:∀(i:Nat) v,σ'[i]?=some (some v)->σ[i]?=some (some v)):Inv X pins σ' H s:=
 ⟨I.ok,I.os,I.bare,I.base,let ⟨m,hn,hl'⟩:=I.loc;⟨m,hn,λi x v e1 e2 e3=>hl' i x v e1 (w i v e2) e3⟩,I.cell,I.free,I.freeC,I.pin,I.hok,hl.trans I.len⟩
theorem Inv.pins_of(I:Inv X pins σ H s)(h:∀p∈pins',s.heap.get? p.1=some p.2/\H p.1=none/\p.1≠X.env.locals/\p.1∉X.fs/\∀v,p.2.data≠.cell v):Inv X pins' σ H s:=
 ⟨I.ok,I.os,I.bare,I.base,I.loc,I.cell,I.free,I.freeC,λp hp=>(K1c.mp hp).elim (λz=>I.pin p (K2j _ z)) (h p),I.hok,I.len⟩
theorem z8p(hN:N.Nodup){j:Nat}(a:N[i]?=some x)(b:N[j]?=some x):i=j:=by
 obtain⟨h1,e1⟩:=K5.mp a;obtain⟨h2,e2⟩:=K5.mp b;exact(K84 hN).mp (e1.trans e2.symm)
theorem za6{M:Model}{A:Around}{E:Value->Shared->Prop}{Q:Unit->Shared->Prop}(I:Inv X pins σ H s)(hN:X.N.Nodup)(hi:X.N[i]?=some x)(hx:Loc X.env.scope x)(r:RelV v u)
 (h:∀s',Inv X pins (σ.set i (some v)) H s'->(∃a,K3f a s.heap s'.heap/\(a=X.env.locals\/X.env.cells.lookup x=some a))->Q () s') (hf:X.fn x=true\/X.env.scope.names.lookup x=some .local:=by first|exact .inl rfl|exact .inr rfl|assumption):wpAny M A (storeName X.env x u) Q E s:=by
 obtain⟨m,hn,hl⟩:=id I.loc;have hcls:(X.env.scope.kind==.class||(X.env.scope.kind==.module&&X.env.locals != X.env.globals))=false:=by rw[I.ok.kind];rfl
 have hiσ:i<σ.length:=by rw[I.len];exact(K5.mp hi).1
 have cne:=I.cne;have tracked:∀{a:Addr} {h':Heap},(∃o,s.heap.get? a=some o/\H a=none)->K3f a s.heap h'->HOk X.prog X.w H h':=λ{a h'} ha hs b ob e=>by
  obtain⟨_,_,hfree⟩:=ha;refine(I.hok b ob e).stay (λc w' hc q=>(hs.2 c ?_).trans q) (λ_ q=>q) λ_ _ q=>q;rintro rfl;rcases hc with rfl|hc
  ·rw[hfree]at e;cases e
  ·rw[hfree]at hc;cases hc
 rcases hx with hk|hk
 ·refine wpAny_storeName_local hk hn (λh' hn' hs=>?_) hcls;obtain⟨oL,_,_,hoL,_⟩:=id hn;refine h _ ⟨I.ok,I.os,I.bare,⟨λb o e n hb hx=>?_,λb o e n hb hx=>?_,I.base.free,λb o e hx=>?_,I.base.tups,I.base.frzs,I.base.tbls⟩,⟨_,hn',λj y v' e1 e2 e3=>?_⟩,λy c e=>?_,I.free,I.freeC,λp hp=>?_,tracked ⟨oL,hoL,I.free⟩ hs,by simpa using I.len⟩ ⟨_,hs,.inl rfl⟩
  ·exact(hs.2 b (K0o (K0j (K0a e) I.ok.above))).trans (I.base.keep b o e n hb hx)
  ·obtain⟨sl,e1⟩:=I.base.slot b o e n hb hx;exact⟨sl,(hs.2 b (K0o (K0j (K0a e) I.ok.above))).trans e1⟩
  ·obtain⟨o',e1⟩:=I.base.there b o e hx;exact⟨o',(hs.2 b (K0o (K0j (K0a e) I.ok.above))).trans e1⟩
  ·by_cases hj:j=i
   ·subst hj;rw[hi]at e1;cases e1;rw[K0r hiσ]at e2;cases e2;exact⟨u,r,.inl ⟨hk,by simp⟩⟩
   ·rw[K0f (K3a hj)]at e2;obtain⟨u',r',q⟩:=hl j y v' e1 e2 e3;refine⟨u',r',?_⟩;rcases q with ⟨k,e⟩|⟨k,c,e,z⟩
    ·refine .inl ⟨k,?_⟩;have:y≠x:=λe=>hj (z8p hN e1 (e ▸ hi));simp[this,e]
    ·exact .inr ⟨k,c,e,z.sameBut hs (cne y c e)⟩
  ·obtain⟨w',z⟩:=I.cell y c e;exact⟨w',z.sameBut hs (cne y c e)⟩
  ·obtain⟨e,n,ne,nf,d⟩:=I.pin p hp;exact⟨(hs.2 p.1 ne).trans e,n,ne,nf,d⟩
 ·have hfn:X.fn x=true:=by
   rcases hf with z|z
   ·exact z
   ·rw[z]at hk;cases hk
  obtain⟨c,hc⟩:=I.ok.has x (.inl hk);obtain⟨w',z⟩:=I.cell x c hc;refine wpAny_storeName_cell I.ok.kind hk hc z (λh' hc' hs=>?_);obtain⟨oc,hoc,hocd⟩:=id z;refine h { s with heap:=h' } ⟨I.ok,I.os,I.bare,⟨λb o e n hb hx=>?_,λb o e n hb hx=>?_,I.base.free,λb o e hx=>?_,I.base.tups,I.base.frzs,I.base.tbls⟩,⟨m,hn.sameBut hs (K3a (cne x c hc)),λj y v' e1 e2 e3=>?_⟩,λy c' e=>?_,I.free,I.freeC,λp hp=>?_,tracked ⟨oc,hoc,I.freeC x c hc⟩ hs,by simpa using I.len⟩ ⟨c,hs,.inr hc⟩
  ·exact(hs.2 b (K0o (K0j (K0a e) (I.ok.cab x c hfn hc)))).trans (I.base.keep b o e n hb hx)
  ·obtain⟨sl,e1⟩:=I.base.slot b o e n hb hx;exact⟨sl,(hs.2 b (K0o (K0j (K0a e) (I.ok.cab x c hfn hc)))).trans e1⟩
  ·obtain⟨o',e1⟩:=I.base.there b o e hx;exact⟨o',(hs.2 b (K0o (K0j (K0a e) (I.ok.cab x c hfn hc)))).trans e1⟩
  ·by_cases hj:j=i
   ·subst hj;rw[hi]at e1;cases e1;rw[K0r hiσ]at e2;cases e2;exact⟨u,r,.inr ⟨.inl hk,c,hc,hc'⟩⟩
   ·rw[K0f (K3a hj)]at e2;obtain⟨u',r',q⟩:=hl j y v' e1 e2 e3;refine⟨u',r',?_⟩;rcases q with q|⟨k,c',e,z'⟩
    ·exact .inl q
    ·refine .inr ⟨k,c',e,z'.sameBut hs ?_⟩;rintro rfl;exact hj (z8p hN e1 (I.ok.inj _ _ _ e hc ▸ hi))
  ·by_cases hcc:c'=c
   ·subst hcc;exact⟨_,hc'⟩
   ·obtain⟨w2,z2⟩:=I.cell y c' e;exact⟨w2,z2.sameBut hs hcc⟩
  ·obtain⟨e,n,ne,nf,d⟩:=I.pin p hp;refine⟨(hs.2 p.1 ?_).trans e,n,ne,nf,d⟩;intro q;rw[q,hoc]at e;have q':oc=p.2:=K11 e;exact d w' (by rw[<- q'];exact hocd)
theorem z68{M:Model}{A:Around}{E:Value->Shared->Prop}{Q:Unit->Shared->Prop}(I:Inv X pins σ H s)(hN:X.N.Nodup)(hi:X.N[i]?=some x)(hx:Loc X.env.scope x)(r:RelV v u)
 (h:∀s',Inv X pins (σ.set i (some v)) H s'->Q () s') (hf:X.fn x=true\/X.env.scope.names.lookup x=some .local:=by first|exact .inl rfl|exact .inr rfl|assumption):wpAny M A (storeName X.env x u) Q E s:=
 za6 I hN hi hx r (λs' I' _=>h s' I') hf
theorem Inv.call'(I:Inv X pins σ H s)(ho:s'.os=s.os)(u:Un (frs X.stack) ch H H' s.heap s'.heap)(hok:HOk X.prog X.w H' s'.heap)(hg:K5v s'.gens)
 (hch:∀b∈ch,(b∈X.ex\/X.s₀.heap.objs.size<=b)/\b≠X.env.locals/\.(t)/\∀p∈X.pn++pins,p.1≠b):Inv X pins σ H' s':=by
 obtain⟨h',g',d',t',o'⟩:=s';have e:o'=s.os:=ho;subst e;exact I.call (g':=g') (t':=t') (d':=d') u hok hg hch
end
abbrev XK:=Value->Option Addr->Hp->Prop
abbrev St:=List (Option V)
variable{σ:St}
abbrev VK:=V->Hp->Prop
variable{r:List V->Hp->VK->Prop}
abbrev TE:=St->Hp->VK->Prop
variable{ta te:TE}
abbrev TT:=St->Hp->(Bool->Hp->Prop)->Prop
abbrev TA:=St->Hp->(List V->Hp->Prop)->Prop
structure Ends where
 nx:St->Hp->Prop
 rt:VK
 bk:St->Hp->Prop:=λ_ _=>False
 ct:St->Hp->Prop:=λ_ _=>False
abbrev TS:=Ends->St->Hp->Prop
variable{tb:TS}
def EP(X:Cx)(pins:List .(A))(σ:St)(Q:VK)(u:Value)(s':Shared):Prop:=∃v H',Inv X pins σ H' s'/\RelV v u/\Q v H'
def TP(X:Cx)(pins:List .(A))(σ:St)(Q:Bool->Hp->Prop)(b:Bool)(s':Shared):Prop:=∃H',Inv X pins σ H' s'/\Q b H'
def AP(X:Cx)(pins:List .(A))(σ:St)(Q:List V->Hp->Prop)(us:List Value)(s':Shared):Prop:=∃vs H',Inv X pins σ H' s'/\Vals vs us/\Q vs H'
def SP(X:Cx)(pins:List .(A))(D:Ends)(f:Flow)(s':Shared):Prop:=
 match f with
 | .next=>∃σ' H',Inv X pins σ' H' s'/\D.nx σ' H'
 | .brk=>∃σ' H',Inv X pins σ' H' s'/\D.bk σ' H'
 | .cont=>∃σ' H',Inv X pins σ' H' s'/\D.ct σ' H'
 | .ret u=>∃v σ' H',Inv X pins σ' H' s'/\RelV v u/\D.rt v H'
def PE(X:Cx)(e:Expr)(t:TE):Prop:=
 ∀(pins:List .(A)) (s:Shared) (σ:St) (H:Hp) (Q:VK),Inv X pins σ H s->t σ H Q->wpAny .(8) X.A (eval e X.env) (EP X pins σ Q) X.xe s
def PT(X:Cx)(e:Expr)(t:TT):Prop:=
 ∀(pins:List .(A)) (s:Shared) (σ:St) (H:Hp) (Q:Bool->Hp->Prop),Inv X pins σ H s->t σ H Q->wpAny .(8) X.A (isTrue e X.env (eval e X.env)) (TP X pins σ Q) X.xe s
def PW(X:Cx)(e:Expr)(t:TT):Prop:=
 ∀(whole:Sem Value) (pins:List .(A)) (s:Shared) (σ:St) (H:Hp) (Q:Bool->Hp->Prop),Inv X pins σ H s->t σ H Q->wpAny .(8) X.A (isTrue e X.env whole) (TP X pins σ Q) X.xe s
theorem PW.pt{t:TT}(h:PW X e t):PT X e t:=h _
def PA(X:Cx)(es:List Expr)(t:TA):Prop:=
 ∀(pos:Pos) (pins:List .(A)) (s:Shared) (σ:St) (H:Hp) (Q:List V->Hp->Prop),Inv X pins σ H s->t σ H Q->wpAny .(8) X.A (Z26 (backTo pos (K09 es X.env))) (AP X pins σ Q) X.xe s
def PS(X:Cx)(st:Stmt)(t:TS):Prop:=
 ∀(pins:List .(A)) (s:Shared) (σ:St) (H:Hp) (D:Ends),Inv X pins σ H s->t D σ H->wpAny .(8) X.A (exec st X.env) (SP X pins D) X.xe s
def PSs(X:Cx)(st:List Stmt)(t:TS):Prop:=
 ∀(pins:List .(A)) (s:Shared) (σ:St) (H:Hp) (D:Ends),Inv X pins σ H s->t D σ H->wpAny .(8) X.A (execs st X.env) (SP X pins D) X.xe s
theorem thn{α:Type}{t:Sem α}{Q Q':α->Shared->Prop}{M:Model}(h:wpAny M A t Q E s)(hQ:∀a s,Q a s->Q' a s):wpAny M A t Q' E s:=K2i h hQ λ_ _ x=>x
section
def tVar(i:Nat):TE:=λσ H Q=>∃v,σ[i]?=some (some v)/\Q v H
def tC(v:V):TE:=λ_ H Q=>Q v H
theorem zP6(hN:X.N[i]?=some x)(hv:Vis X.env.scope x)(hd:.(16)=false:=by decide)(hcd:(x==("__classdict__":Str))=false:=by decide):PE X (.Name x pos) (tVar i):=by
 intro pins s σ H Q I h;obtain⟨v,e,h⟩:=h;obtain⟨m,hn,hl⟩:=I.loc;obtain⟨u,r,l⟩:=hl i x v hN e hv;have fin:EP X pins σ Q u s:=⟨v,H,I,r,h⟩;rcases l with ⟨hk,hm⟩|⟨hk,c,hc,hcell⟩
 ·exact wpAny_Name (wpAny_loadName_local I.ok.kind hk hn hm fin) hd
 ·rcases hk with hk|hk
  ·exact wpAny_Name (wpAny_loadName_cell I.ok.kind hk hc hcell fin) hd
  ·exact wpAny_Name (wpAny_loadName_free I.ok.kind hk hc hcell fin hcd) hd
theorem Z03{i j pos}:PE X (.Constant (.int i) j pos) (tC (.int i)):=λ_ _ _ H _ I h=>wpAny_Constant_int ⟨.int i,H,I.tok _,⟨_,rfl⟩,h⟩
theorem Z11{b j pos}:PE X (.Constant (.bool b) j pos) (tC (.bl b)):=λ_ _ _ H _ I h=>Constant_bool ⟨.bl b,H,I,rfl,h⟩
theorem zS9{j pos}:PE X (.Constant .none j pos) (tC .non):=λ_ _ _ H _ I h=>Constant_none ⟨.non,H,I,rfl,h⟩
theorem zZ6{x j pos}:PE X (.Constant (.str x) j pos) (tC (.str x)):=λ_ _ _ H _ I h=>Calls.Constant_str ⟨.str x,H,I.tok _,⟨_,rfl⟩,h⟩
def Gl(X:Cx)(x:Str):Prop:=X.env.kindOf x=some .globalImplicit
theorem z5W{E:Value->Shared->Prop}{pos:Pos}(I:Inv X pins σ H s)(hg:Gl X x)(hm:X.mg x=some u)(h:Q u s)
 (hd:.(16)=false:=by decide):wpAny .(8) X.A (eval (.Name x pos) X.env) Q E s:=
 K70 I.ok.kind hg (Calls.loadGlobal_global (by rw[I.ok.glob];exact I.mod.glob.keeps I.bk) hm h) hd
theorem z5B{E:Value->Shared->Prop}{pos:Pos}(I:Inv X pins σ H s)(hg:Gl X x)(hm:X.mg x=none)(hv:K51 x=some u)(h:Q u s)
 (hn:x≠"__name__":=by decide) (hd:.(16)=false:=by decide):wpAny .(8) X.A (eval (.Name x pos) X.env) Q E s:=by
 obtain⟨mb,h1,h2⟩:=I.mod.blt;exact K70 I.ok.kind hg (Calls.loadGlobal_builtin (by rw[I.ok.glob];exact I.mod.glob.keeps I.bk) hm (by rw[I.ok.blt];exact h1.keeps I.bk) ((h2 x hn).trans hv) h) hd
theorem zC9(hg:Gl X x)(hm:X.mg x=none)(hv:K51 x=some u)(r:RelV v u)(hn:x≠"__name__":=by decide)(hd:.(16)=false:=by decide):PE X (.Name x pos) (tC v):=
 λ_ _ _ H _ I h=>z5B I hg hm hv ⟨v,H,I,r,h⟩ hn hd
variable{a b:Expr}{tb:TE}
def tB(t:TE):TT:=λσ H Q=>t σ H λx H1=>∃c,x=.bl c/\Q c H1
variable{tA tB':TT}{rest:List Expr}
def tAnd(t u:TT):TT:=λσ H Q=>t σ H λc H1=>if c=true then u σ H1 Q else Q false H1
def tOr(t u:TT):TT:=λσ H Q=>t σ H λc H1=>if c=true then Q true H1 else u σ H1 Q
def tNot(t:TT):TT:=λσ H Q=>t σ H λc H1=>Q (!c) H1
theorem zE0(ha:PT X a tA):PW X (.BoolOp .And [a] pos) tA:=by
 intro wh pins s σ H Q I h;refine isTrue_and (thn (ha pins s σ H Q I h) λc s1 e=>?_);cases c with
 | true=>exact isTrue_and_nil e
 | false=>exact e
theorem zP2(ha:PT X a tA):PW X (.BoolOp .Or [a] pos) tA:=by
 intro wh pins s σ H Q I h;refine isTrue_or (thn (ha pins s σ H Q I h) λc s1 e=>?_);cases c with
 | false=>exact isTrue_or_nil e
 | true=>exact e
theorem zO8(ha:PT X a tA)(hb:PW X (.BoolOp .And (b::rest) pos) tB'):PW X (.BoolOp .And (a::b::rest) pos) (tAnd tA tB'):=by
 intro wh pins s σ H Q I h;refine isTrue_and (thn .(Z) λc s1 ⟨H1,I1,q1⟩=>?_);cases c with
 | true=>exact hb wh pins s1 σ H1 Q I1 q1
 | false=>exact⟨H1,I1,q1⟩
theorem Z0L(ha:PT X a tA)(hb:PW X (.BoolOp .Or (b::rest) pos) tB'):PW X (.BoolOp .Or (a::b::rest) pos) (tOr tA tB'):=by
 intro wh pins s σ H Q I h;refine isTrue_or (thn .(Z) λc s1 ⟨H1,I1,q1⟩=>?_);cases c with
 | true=>exact⟨H1,I1,q1⟩
 | false=>exact hb wh pins s1 σ H1 Q I1 q1
theorem zN7(ha:PT X a tA):PT X (.UnaryOp .Not a pos) (tNot tA):=by
 intro pins s σ H Q I h;exact isTrue_not (ha pins s σ H (λc H1=>Q (!c) H1) I h)
def Z0e(ta tb:TE):TE:=λσ H Q=>ta σ H λx H1=>∃c,x=.bl c/\if c=true then tb σ H1 Q else Q (.bl false) H1
def tOrV(ta tb:TE):TE:=λσ H Q=>ta σ H λx H1=>∃c,x=.bl c/\if c=true then Q (.bl true) H1 else tb σ H1 Q
def Z0G(ta:TE):TE:=λσ H Q=>ta σ H λx H1=>∃c,x=.bl c/\Q (.bl (!c)) H1
theorem zP0{op}{t:TE}(h:PE X a t):PE X (.BoolOp op [a] pos) t:=λpins s σ H Q I hw=>BoolOp_one (h pins s σ H Q I hw)
theorem zR5(ha:PE X a ta)(hb:PE X (.BoolOp .And (b::rest) pos) tb):PE X (.BoolOp .And (a::b::rest) pos) (Z0e ta tb):=by
 intro pins s σ H Q I h;refine BoolOp_and (thn .(Z) λv s1 ⟨x,H1,I1,r1,q1⟩=>?_);obtain⟨c,rfl,q1⟩:=q1;cases r1;refine K38 ?_;cases c with
 | true=>exact hb pins s1 σ H1 Q I1 q1
 | false=>exact⟨.bl false,H1,I1,rfl,q1⟩
theorem Z0N(ha:PE X a ta)(hb:PE X (.BoolOp .Or (b::rest) pos) tb):PE X (.BoolOp .Or (a::b::rest) pos) (tOrV ta tb):=by
 intro pins s σ H Q I h;refine BoolOp_or (thn .(Z) λv s1 ⟨x,H1,I1,r1,q1⟩=>?_);obtain⟨c,rfl,q1⟩:=q1;cases r1;refine K38 ?_;cases c with
 | false=>exact hb pins s1 σ H1 Q I1 q1
 | true=>exact⟨.bl true,H1,I1,rfl,q1⟩
theorem zO4(ha:PE X a ta):PE X (.UnaryOp .Not a pos) (Z0G ta):=by
 intro pins s σ H Q I h;refine UnaryOp_ (thn .(Z) λv s1 ⟨x,H1,I1,r1,q1⟩=>?_);obtain⟨c,rfl,q1⟩:=q1;cases r1;exact not_of (K38 ⟨.bl (!c),H1,I1,rfl,q1⟩)
def tIf(t:TT)(ta tb:TE):TE:=λσ H Q=>t σ H λc H1=>if c=true then ta σ H1 Q else tb σ H1 Q
theorem zl8(hc:PT X c tA)(ha:PE X a ta)(hb:PE X b tb):PE X (.IfExp c a b pos) (tIf tA ta tb):=by
 intro pins s σ H Q I h;refine wpAny_IfExp (thn (hc pins s σ H _ I h) λd s1 ⟨H1,I1,q1⟩=>?_);cases d with
 | true=>exact ha pins s1 σ H1 Q I1 q1
 | false=>exact hb pins s1 σ H1 Q I1 q1
end
def SqL(K:K1)(H:Hp)(a:Addr)(xs:List V):Prop:=
 Rd H a (.lst xs) \/
  ∃(o:Obj) (its:Array Value) (n:Nat),K.lookup a=some o/\o.cls=.type "list"/\o.dict=none/\o.data=.seq its n/\its.size<=sizeLine/\Vals xs its.toList
def SqT(K:K1)(H:Hp)(a:Addr)(xs:List V):Prop:=
 Rd H a (.tup xs) \/
  ∃(o:Obj) (its:Array Value) (n:Nat),K.lookup a=some o/\(o.cls=.type "tuple"/\o.dict=none)/\o.data=.seq its n/\its.size<=sizeLine/\Vals xs its.toList
def absV:Value->Option V
 | .none=>some .non
 | .bool b=>some (.bl b)
 | .int i _=>some (.int i)
 | .str x _=>some (.str x)
 | .bytes b _=>some (.byt b)
 | .float b _=>some (.flt b)
 | .ref a=>some (.ref a)
 | .type n=>some (.ty n)
 | _=>none
theorem RelV.abs{x:V}(r:RelV x u):absV u=some x:=by
 cases x with
 | non=>cases r;rfl
 | bl _=>cases r;rfl
 | int _=>obtain⟨t,rfl⟩:=r;rfl
 | str _=>obtain⟨t,rfl⟩:=r;rfl
 | byt _=>obtain⟨t,rfl⟩:=r;rfl
 | flt _=>obtain⟨t,rfl⟩:=r;rfl
 | ref _=>cases r;rfl
 | ty _=>cases r;rfl
theorem RelV.inj{x y:V}{u:Value}(r:RelV x u)(q:RelV y u):x=y:=K11 (r.abs.symm.trans q.abs)
theorem Vals.inj:∀{xs ys:List V}{us:List Value},Vals xs us->Vals ys us->xs=ys
 | _,_,_,.nil,.nil=>rfl
 | _,_,_,.cons r t,.cons r' t'=>by rw[r.inj r',Vals.inj t t']
section
variable{ys:List V}
theorem SqL.of(h:H a=.(l xs)):SqL K H a xs:=.inl (.inl h)
theorem SqT.of(h:H a=.(g xs)):SqT K H a xs:=.inl (.inl h)
theorem Inv.list(I:Inv X pins σ H s)(h:SqL X.K H a xs):∃its:List Value,Vals xs its/\PlainL s.heap a its.toArray/\xs.length<=sizeLine:=by
 rcases h with h|⟨o,its,n,hk,hc,hd,hs,hz,r⟩
 ·obtain⟨z,its,n,r,e⟩:=h.ok I.hok;exact⟨its,r,⟨_,n,e,rfl,rfl,rfl⟩,z⟩
 ·refine⟨its.toList,r,⟨o,n,I.kIn a o hk,hc,hd,by simpa using hs⟩,?_⟩;have e:=r.length;simp only[K18]at e;omega
theorem Inv.tuple(I:Inv X pins σ H s)(h:SqT X.K H a xs):∃its:List Value,Vals xs its/\IsTup s.heap a its.toArray/\xs.length<=sizeLine:=by
 rcases h with h|⟨o,its,n,hk,hc,hs,hz,r⟩
 ·obtain⟨z,its,r,p⟩:=h.ok I.hok;exact⟨its,r,p.tup,z⟩
 ·refine⟨its.toList,r,⟨o,I.kIn a o hk,hc.1,n,by simpa using hs⟩,?_⟩;have e:=r.length;simp only[K18]at e;omega
theorem Inv.list_inj(I:Inv X pins σ H s)(h:SqL X.K H a xs)(h':SqL X.K H a ys):xs=ys:=by
 obtain⟨its,r,⟨o,n,e,_,_,d⟩,_⟩:=I.list h;obtain⟨its',r',⟨o',n',e',_,_,d'⟩,_⟩:=I.list h';rw[e]at e';cases e';rw[d]at d';injection d' with d1 _
 have:its=its':=by simpa using congrArg Z12 d1
 subst this;exact r.inj r'
theorem Inv.tuple_inj(I:Inv X pins σ H s)(h:SqT X.K H a xs)(h':SqT X.K H a ys):xs=ys:=by
 obtain⟨its,r,⟨o,e,_,n,d⟩,_⟩:=I.tuple h;obtain⟨its',r',⟨o',e',_,n',d'⟩,_⟩:=I.tuple h';rw[e]at e';cases e';rw[d]at d';injection d' with d1 _
 have:its=its':=by simpa using congrArg Z12 d1
 subst this;exact r.inj r'
end
abbrev Cx.wish(X:Cx)(E:Value->Shared->Prop):Cx:={ X with xe:=E }
abbrev Cx.nox(X:Cx):Cx:=X.wish λ_ _=>False
theorem Cx.Ok.wish{X:Cx}(ok:X.Ok)(E:Value->Shared->Prop):(X.wish E).Ok:=
 ⟨ok.mod,ok.kind,ok.glob,ok.blt,ok.above,ok.inj,ok.has,ok.cab,ok.hd,ok.frames,ok.stk,ok.exf,ok.bs,ok.bsz,ok.noex,ok.exfs,ok.funs,ok.frf⟩
theorem Cx.Ok.unwish(ok:(X.wish E).Ok):X.Ok:=
 ⟨ok.mod,ok.kind,ok.glob,ok.blt,ok.above,ok.inj,ok.has,ok.cab,ok.hd,ok.frames,ok.stk,ok.exf,ok.bs,ok.bsz,ok.noex,ok.exfs,ok.funs,ok.frf⟩
theorem Inv.wish(I:Inv X pins σ H s)(E:Value->Shared->Prop):Inv (X.wish E) pins σ H s:=⟨I.ok.wish E,I.os,I.bare,I.base,I.loc,I.cell,I.free,I.freeC,I.pin,I.hok,I.len⟩
theorem Inv.unwish(I:Inv (X.wish E) pins σ H s):Inv X pins σ H s:=⟨I.ok.unwish,I.os,I.bare,I.base,I.loc,I.cell,I.free,I.freeC,I.pin,I.hok,I.len⟩
theorem SP.unwish{D:Ends}{f:Flow}{s':Shared}(h:SP (X.wish E) pins D f s'):SP X pins D f s':=by
 cases f with
 | next=>obtain⟨σ',H',I,q⟩:=h;exact⟨σ',H',I.unwish,q⟩
 | brk=>obtain⟨σ',H',I,q⟩:=h;exact⟨σ',H',I.unwish,q⟩
 | cont=>obtain⟨σ',H',I,q⟩:=h;exact⟨σ',H',I.unwish,q⟩
 | ret u=>obtain⟨v,σ',H',I,r,q⟩:=h;exact⟨v,σ',H',I.unwish,r,q⟩
theorem PT.nox{e:Expr}{t:TT}(h:PT X.nox e t):PT X e t:=λpins s σ H Q I hw=>
 K2i (h pins s σ H Q (I.wish _) hw) (λ_ _ ⟨H',I',q⟩=>⟨H',I'.unwish,q⟩) λ_ _ z=>K28 z
theorem PSs.nox{st:List Stmt}{t:TS}(h:PSs X.nox st t):PSs X st t:=λpins s σ H D I hw=>
 K2i (h pins s σ H D (I.wish _) hw) (λ_ _ q=>q.unwish) λ_ _ z=>K28 z
section
variable{st:Stmt}{rest:List Stmt}{t u:TS}
def Z0b:TS:=λD σ H=>D.nx σ H
def tSeq(t u:TS):TS:=λD σ H=>t { D with nx:=u D } σ H
theorem zJ0:PSs X [] Z0b:=λ_ _ σ H _ I h=>K5c ⟨σ,H,I,h⟩
theorem zr5(h1:PS X st t)(h2:PSs X rest u):PSs X (st::rest) (tSeq t u):=by
 intro pins s σ H D I h;refine wpAny_execs_cons (thn (h1 pins s σ H { D with nx:=u D } I h) λf s1 q=>?_);cases f with
 | next=>
  obtain⟨σ',H',I',q⟩:=q;exact h2 pins s1 σ' H' D I' q
 | ret v=>exact q
 | brk=>exact q
 | cont=>exact q
theorem Inv.quiet(I:Inv X pins σ H s):interactive X.env=false:=by simp[interactive,I.ok.kind]
def Z0U(te:TE):TS:=λD σ H=>te σ H λ_ H1=>D.nx σ H1
theorem zA6(he:PE X e te)(hs:K21 e none pos.line X.env=pure false:=by rfl):PS X (.Expr e pos) (Z0U te):=by
 intro pins s σ H D I h;exact wpAny_Expr_any (thn (he pins s σ H _ I h) λv s1 ⟨x,H1,I1,r1,q1⟩=>⟨σ,H1,I1,q1⟩) I.quiet hs
def tRet(te:TE):TS:=λD σ H=>te σ H D.rt
theorem zU9(he:PE X e te):PS X (.Return (some e) pos) (tRet te):=by
 intro pins s σ H D I h;exact wpAny_Return_some (thn (he pins s σ H _ I h) λv s1 ⟨x,H1,I1,r1,q1⟩=>⟨x,σ,H1,I1,r1,q1⟩)
def tIfS(c:TT)(t u:TS):TS:=λD σ H=>c σ H λb H1=>if b=true then t D σ H1 else u D σ H1
theorem Z0E{a b:List Stmt}{tc:TT}(hc:PT X c tc)(ha:PSs X a t)(hb:PSs X b u):PS X (.If c a b pos) (tIfS tc t u):=by
 intro pins s σ H D I h;refine wpAny_If (thn (hc pins s σ H _ I h) λd s1 ⟨H1,I1,q1⟩=>?_);cases d with
 | true=>exact ha pins s1 σ H1 D I1 q1
 | false=>exact hb pins s1 σ H1 D I1 q1
def zX5:TS:=λ_ _ _=>False
theorem zq1:PS X st zX5:=λ_ _ _ _ _ _ h=>h.elim
end
abbrev TG:=V->St->Hp->(St->Hp->Prop)->Prop
abbrev TGs:=List V->St->Hp->(St->Hp->Prop)->Prop
def PG(X:Cx)(target:Expr)(t:TG):Prop:=
 ∀(pins:List .(A)) (s:Shared) (σ:St) (H:Hp) (v:V) (u:Value) (Q:St->Hp->Prop),Inv X pins σ H s->RelV v u->t v σ H Q ->
  wpAny .(8) X.A (assign target X.env u) (λ_ s'=>∃σ' H',Inv X pins σ' H' s'/\Q σ' H') X.xe s
def PGs(X:Cx)(ts:List Expr)(t:TGs):Prop:=
 ∀(pins:List .(A)) (s:Shared) (σ:St) (H:Hp) (vs:List V) (us:List Value) (Q:St->Hp->Prop),Inv X pins σ H s->Vals vs us->t vs σ H Q ->
  wpAny .(8) X.A (assignInOrder ((K2r ts X.env).map (·.2)) us) (λ_ s'=>∃σ' H',Inv X pins σ' H' s'/\Q σ' H') X.xe s
abbrev TSet:=V->V->V->Hp->(Hp->Prop)->Prop
def PSet(X:Cx)(t:TSet):Prop:=
 ∀(pins:List .(A)) (s:Shared) (σ:St) (H:Hp) (o i v:V) (ov iv u:Value) (Q:Hp->Prop),Inv X pins σ H s->RelV o ov->RelV i iv->RelV v u->t o i v H Q ->
  wpAny .(8) X.A (Z27 ov iv u) (λ_ s'=>∃H',Inv X pins σ H' s'/\Q H') X.xe s
def zN3(i:Nat):TG:=λv σ H Q=>Q (σ.set i (some v)) H
theorem z88(hN:X.N.Nodup)(hi:X.N[i]?=some x)(hx:Loc X.env.scope x)(hf:X.fn x=true\/X.env.scope.names.lookup x=some .local:=by first|exact .inl rfl|exact .inr rfl|assumption):PG X (.Name x pos) (zN3 i):=by
 intro pins s σ H v u Q I r h;exact wpAny_assign_Name (z68 I hN hi hx r (λs' I'=>⟨_,H,I',h⟩) hf)
def gNil:TGs:=λvs σ H Q=>vs=[]/\Q σ H
def Z0S(t:TG)(u:TGs):TGs:=λvs σ H Q=>∃v r,vs=v::r/\t v σ H λσ' H'=>u r σ' H' Q
theorem za3:PGs X [] gNil:=by
 intro pins s σ H vs us Q I r h;obtain⟨e,h⟩:=h;subst e;cases r;exact assignInOrder_nil ⟨σ,H,I,h⟩
theorem z8S{t:TG}{u:TGs}(h1:PG X e t)(h2:PGs X es u)
 (hs:(K2r (e::es) X.env).map (·.2)=assign e X.env::(K2r es X.env).map (·.2):=by rfl):PGs X (e::es) (Z0S t u):=by
 intro pins s σ H vs us Q I r h;obtain⟨v,vr,e1,h⟩:=h;subst e1;cases r with
 | cons r rr=>
  rw[hs];refine assignInOrder_cons (thn (h1 pins s σ H _ _ _ I r h) λ_ s1 ⟨σ1,H1,I1,q1⟩=>?_);exact h2 pins s1 σ1 H1 _ _ Q I1 rr q1
def gTup(K:K1)(n:Nat)(t:TGs):TG:=λv σ H Q=>∃a xs,v=.ref a/\SqT K H a xs/\xs.length=n/\t xs σ H Q
theorem zx8{k:Nat}{t:TGs}{n:Nat}(hc:X.calm=true)(h:PGs X es t)
 (hn:(K2r es X.env).length=n:=by rfl) (hst:(K2r es X.env).findIdx? (·.1)=none:=by rfl):PG X (.Tuple es k pos) (gTup X.K n t):=by
 intro pins s σ H v u Q I r hw;obtain⟨a,xs,e1,hq,hl,hw⟩:=hw;subst e1;cases r;obtain⟨its,rv,ht,hz⟩:=I.tuple hq;refine assign_Tuple_tuple (I.ok.hd hc) ht (by simp[hn,<- hl,rv.length]) hst λh' hx=>?_;have I1:Inv X pins σ H { s with heap:=h' }:=I.kept (t':=s.toks) λb o e=>hx b o (K0o (K0a e)) e;exact h pins _ σ H xs _ Q I1 (by simpa using rv) hw
def gSub(to ti:TE)(t:TSet):TG:=λv σ H Q=>to σ H λo H1=>ti σ H1 λi H2=>t o i v H2 λH3=>Q σ H3
theorem zz4{o i:Expr}{to ti:TE}{t:TSet}(ho:PE X o to)(hi:PE X i ti)(hs:PSet X t)
 (ha:∀v,assign (.Subscript o i pos) X.env v=(do
  let ov <- K44 [v] (eval o X.env);let iv <- K44 [v,ov] (eval i X.env)
  K4u pos
  K44 [v,ov,iv] (Z27 ov iv v)
  release [v,ov,iv] []):=by intro _;rfl):PG X (.Subscript o i pos) (gSub to ti t):=by
 intro pins s σ H v u Q I r h;rw[ha];refine K0 (K1z (thn (ho pins s σ H _ I h) λov s1 ⟨x,H1,I1,r1,q1⟩=>?_));refine K0 (K1z (thn (hi pins s1 σ H1 _ I1 q1) λiv s2 ⟨y,H2,I2,r2,q2⟩=>?_));refine K0 (K4p (K0 (K1z (thn (hs pins s2 σ H2 x y v ov iv u _ I2 r1 r2 r q2) λ_ s3 ⟨H3,I3,q3⟩=>?_))));exact wpAny_release ⟨σ,H3,I3,q3⟩
def tAsg(te:TE)(g:TG):TS:=λD σ H=>te σ H λx H1=>g x σ H1 D.nx
theorem zQ7{g:TG}(he:PE X e te)(hg:PG X tg g)(hs:swapsWithSole [tg] e pos.line X.env=pure false:=by rfl)(hw:swappedStores [tg] e X.env=pure none:=by rfl)
 (h1:(K2r [tg] X.env).map (·.2)=[assign tg X.env]:=by rfl):PS X (.Assign [tg] e pos) (tAsg te g):=by
 intro pins s σ H D I h;refine wpAny_Assign_stores (thn (he pins s σ H _ I h) λv s1 ⟨x,H1,I1,r1,q1⟩=>?_) hs hw;rw[h1];exact thn (hg pins s1 σ H1 x v _ I1 r1 q1) λ_ s2 q=>q
theorem zS0{pos':Pos}(hN:X.N.Nodup)(hi:X.N[i]?=some x)(hx:Loc X.env.scope x)(he:PE X e te)(hs:K21 e (some (.Name x pos')) pos.line X.env=pure false:=by rfl)(hf:X.fn x=true\/X.env.scope.names.lookup x=some .local:=by first|exact .inl rfl|exact .inr rfl|assumption):
 PS X (.Assign [.Name x pos'] e pos) (tAsg te (zN3 i)):=by
 intro pins s σ H D I h;refine wpAny_Assign_Name (thn (he pins s σ H _ I h) λv s1 ⟨y,H1,I1,r1,q1⟩=>?_) hs;exact z68 I1 hN hi hx r1 (λs2 I2=>⟨_,H1,I2,q1⟩) hf
def zZ4(c:TT)(tb:TS):TS:=λD σ H=>∃W:Nat->St->Hp->Prop,(∃m,W m σ H)/\∀m σ H,W m σ H ->
 c σ H λb H1=>if b=true then ∃N:St->Hp->Prop,(∀σ' H',N σ' H'->∃m',m'<m/\W m' σ' H')/\tb { D with nx:=N,ct:=N,bk:=D.nx } σ H1 else D.nx σ H1
theorem zt4{tc:TT}(hp:Z1u .(8) X.A X.env X.xe)(hc:PT X c tc)(hb:PSs X body tb):PS X (.While c body [] pos) (zZ4 tc tb):=by
 intro pins s σ H D I h;obtain⟨W,⟨m0,w0⟩,turn⟩:=h;refine wpAny_While (codeAny_whileLoop (λn s'=>∃σ' H',Inv X pins σ' H' s'/\W n σ' H') ?_ m0 ⟨σ,H,I,w0⟩);rintro n s1 ⟨σ1,H1,I1,w1⟩;refine K3x hp (thn (hc pins s1 σ1 H1 _ I1 (turn n σ1 H1 w1)) λb s2 ⟨H2,I2,q2⟩=>?_);cases b with
 | true=>
  obtain⟨N,hN,q2⟩:=q2;rw[if_pos rfl];refine K3x hp (thn (hb pins s2 σ1 H2 _ I2 q2) λf s3 q3=>?_);cases f with
  | next=>
   obtain⟨σ3,H3,I3,n3⟩:=q3;obtain⟨m',hm,w3⟩:=hN σ3 H3 n3;exact⟨m',hm,σ3,H3,I3,w3⟩
  | cont=>
   obtain⟨σ3,H3,I3,n3⟩:=q3;obtain⟨m',hm,w3⟩:=hN σ3 H3 n3;exact⟨m',hm,σ3,H3,I3,w3⟩
  | brk=>exact q3
  | ret v=>exact q3
 | false=>
  rw[if_neg K10];exact K5c ⟨σ1,H2,I2,q2⟩
structure It where
 go:Nat->Hp->Prop
 yld:Nat->Hp->V->Hp->Prop
 stop:Nat->Hp->Prop
def FpOk(X:Cx)(pins:List .(A))(H:Hp)(b:Addr):Prop:=
 H b=none/\b≠X.env.locals/\b∉X.fs/\(b∈X.ex\/X.s₀.heap.objs.size<=b)/\.(t)/\∀p∈X.pn++pins,p.1≠b
theorem Inv.fpOk(I:Inv X pins σ H s)(hb:s.heap.objs.size<=b)(hn:H' b=none):FpOk X pins H' b:=by
 refine⟨hn,K24 (K0j I.lt hb),I.nofs hb,.inr (K0z I.sz hb),λx c e z=>?_,λp hp z=>?_⟩
 ·obtain⟨v,q⟩:=I.cell x c e;exact absurd (K0j q.lt (by rw[z];exact hb)) (K2e _)
 ·exact absurd (K0j (K0a (I.pin p hp).1) (by rw[z];exact hb)) (K2e _)
structure Turn(P:K1a)(w:World)(K:K1)(tg:Expr)(J:It)(fp:List Addr)(it:Addr)(tn:Nat->Heap->Prop):Prop where
 mem:it∈fp
 obj:∀i h,tn i h->∀b∈fp,∃o,h.get? b=some o/\∀v,o.data≠.cell v
 keep:∀i h h',tn i h->(∀b∈fp,∀o,h.get? b=some o->h'.get? b=some o)->tn i h'
 item:∀(X:Cx),X.prog=P->X.w=w->X.K=K->X.calm=true->∀(i:Nat) (pins:List .(A)) (s:Shared) (σ:St) (H:Hp) (E:Value->Shared->Prop),Inv X pins σ H s->(∀b∈fp,FpOk X pins H b)->tn i s.heap->J.go i H ->
  wpAny (model P w) X.A (pyNext (.ref it)) (λr s1=>∃u,r=some u /\
   wpAny (model P w) X.A (K4k tg (.ref it) u) (λ_ s2=>∃x H',Inv X pins σ H' s2/\RelV x u/\J.yld i H x H'/\tn (i+1) s2.heap/\∀b∈fp,H' b=none) E s1) E s
 done:∀(X:Cx),X.prog=P->X.w=w->X.K=K->X.calm=true->∀(i:Nat) (pins:List .(A)) (s:Shared) (σ:St) (H:Hp) (E:Value->Shared->Prop),Inv X pins σ H s->(∀b∈fp,FpOk X pins H b)->tn i s.heap->J.stop i H ->
  wpAny (model P w) X.A (pyNext (.ref it)) (λr s1=>r=none/\Inv X pins σ H s1) E s
 self:∀(A:Around) (i:Nat) (s:Shared) (Q:Value->Shared->Prop) (E:Value->Shared->Prop),tn i s.heap->Q (.ref it) s->wpAny (model P w) A (pyIter (.ref it)) Q E s
abbrev TI:=St->Hp->(It->Hp->Prop)->Prop
def PIE(X:Cx)(pins:List .(A))(σ:St)(tg:Expr)(R:It->Hp->Prop)(itv:Value)(s2:Shared):Prop:=
 ∃(it:Addr) (fp:List Addr) (tn:Nat->Heap->Prop) (J:It) (H':Hp),itv=.ref it/\Inv X pins σ H' s2/\Turn X.prog X.w X.K tg J fp it tn/\tn 0 s2.heap/\(∀b∈fp,FpOk X pins H' b)/\R J H'
def PI(X:Cx)(tg iter:Expr)(wi:TI):Prop:=
 ∀(pins:List .(A)) (s:Shared) (σ:St) (H:Hp) (R:It->Hp->Prop),Inv X pins σ H s->wi σ H R ->
  wpAny .(8) X.A (eval iter X.env) (λv s1=>wpAny .(8) X.A (pyIter v) (PIE X pins σ tg R) X.xe s1) X.xe s
theorem zu7{M:Model}{A:Around}{E:Value->Shared->Prop}{tg:Expr}{u:Value}{o:Obj}{n:String}{vs:Array Value}{Q:Unit->Shared->Prop}(ho:s.heap.get? it=some o)(hc:o.cls=.type n)(hd:o.data=.fields vs)
 (hn:["enumerate","zip","dict_itemiterator","dict_reverseitemiterator","odict_iterator","itertools.zip_longest","itertools.pairwise"].contains n=false) (hQ:Q () s):wpAny M A (K4k tg (.ref it) u) Q E s:=by
 unfold K4k;cases tg<;>first
  | exact K9 hQ
  | (cases u<;>first
      | exact K9 hQ
      | (refine K0 (K8i ho ?_)
         rw[hc,hd];show wpAny M A (if (["enumerate","zip","dict_itemiterator","dict_reverseitemiterator","odict_iterator","itertools.zip_longest","itertools.pairwise"].contains n&&vs[0]?==some (rawInt _))=true then _ else _) Q E s;rw[if_neg (by intro h;rw[hn,Bool.false_and]at h;cases h)];exact K9 hQ))
def Itl(K:K1)(a:Addr):It:=
 ⟨λi H=>∃xs x,SqL K H a xs/\xs[i]?=some x,λi H x H'=>H'=H/\∀xs,SqL K H a xs->xs[i]?=some x,λi H=>∃xs,SqL K H a xs/\.(21)<=i⟩
def Itt(K:K1)(a:Addr):It:=
 ⟨λi H=>∃xs x,SqT K H a xs/\xs[i]?=some x,λi H x H'=>H'=H/\∀xs,SqT K H a xs->xs[i]?=some x,λi H=>∃xs,SqT K H a xs/\.(21)<=i⟩
def Itr(lo:Int)(n:Nat):It:=⟨λi _=>i<n,λi H x H'=>H'=H/\x=.int (lo+i),λi _=>n<=i⟩
theorem zg3(a it:Addr):Turn P w K tg (Itl K a) [it] it (λi h=>h.IsListIter it a i) where
 mem:=by simp
 obj:=λi h st b hb=>by
  have e:b=it:=by simpa using hb
  subst e;obtain⟨o,e,c,d⟩:=st;exact⟨o,e,λv z=>by rw[d]at z;cases z⟩
 keep:=λi h h' st k=>st.at λo e=>k it .(f) o e
 item:=by
  intro X hP hw hK hc i pins s σ H E I hf st hg;subst hP hw hK;obtain⟨xs,x,hq,hx⟩:=hg;obtain⟨its,rv,p,hz⟩:=I.list hq;obtain⟨u,hu,ru⟩:=rv.get hx;obtain⟨f0,f1,f2,f3,f4,f5⟩:=hf it .(f);refine wpAny_pyNext_list_item st p.isList (x:=u) (by simpa using hu) λh' st' sb=>?_;have I1:Inv X pins σ H { s with heap:=h' }:=I.turned (t':=s.toks) (λb o hb e=>(sb.2 b hb).trans e) f0 f1 f3 f4 f5;obtain⟨o,e,c,d⟩:=id st';exact⟨u,rfl,zu7 (s:={ s with heap:=h' }) e c d .(0) ⟨x,H,I1,ru,⟨rfl,λys hy=>by rw[I.list_inj hy hq];exact hx⟩,st',λb hb=>(hf b hb).1⟩⟩
 done:=by
  intro X hP hw hK hc i pins s σ H E I hf st hg;subst hP hw hK;obtain⟨xs,hq,hx⟩:=hg;obtain⟨its,rv,p,hz⟩:=I.list hq;obtain⟨f0,f1,f2,f3,f4,f5⟩:=hf it .(f);have hl:=rv.length;exact wpAny_pyNext_list_end (I.ok.hd hc) st p.isList (by simp;omega) λh' eb=>⟨rfl,I.turned (t':=s.toks) (λb o hb e=>eb b o hb e) f0 f1 f3 f4 f5⟩
 self:=λ_ _ _ _ _ st h=>wpAny_pyIter_listiter st h
theorem z9A(a it:Addr):Turn P w K tg (Itt K a) [it] it (λi h=>h.IsTupleIter it a i) where
 mem:=by simp
 obj:=λi h st b hb=>by
  have e:b=it:=by simpa using hb
  subst e;obtain⟨o,e,c,d⟩:=st;exact⟨o,e,λv z=>by rw[d]at z;cases z⟩
 keep:=λi h h' st k=>st.at λo e=>k it .(f) o e
 item:=by
  intro X hP hw hK hc i pins s σ H E I hf st hg;subst hP hw hK;obtain⟨xs,x,hq,hx⟩:=hg;obtain⟨its,rv,p,hz⟩:=I.tuple hq;obtain⟨u,hu,ru⟩:=rv.get hx;obtain⟨f0,f1,f2,f3,f4,f5⟩:=hf it .(f);refine wpAny_pyNext_tuple_item st (show s.heap.IsTuple a its.toArray from p) (x:=u) (by simpa using hu) λh' st' sb=>?_;have I1:Inv X pins σ H { s with heap:=h' }:=I.turned (t':=s.toks) (λb o hb e=>(sb.2 b hb).trans e) f0 f1 f3 f4 f5;obtain⟨o,e,c,d⟩:=id st';exact⟨u,rfl,zu7 (s:={ s with heap:=h' }) e c d .(0) ⟨x,H,I1,ru,⟨rfl,λys hy=>by rw[I.tuple_inj hy hq];exact hx⟩,st',λb hb=>(hf b hb).1⟩⟩
 done:=by
  intro X hP hw hK hc i pins s σ H E I hf st hg;subst hP hw hK;obtain⟨xs,hq,hx⟩:=hg;obtain⟨its,rv,p,hz⟩:=I.tuple hq;obtain⟨f0,f1,f2,f3,f4,f5⟩:=hf it .(f);have hl:=rv.length;exact wpAny_pyNext_tuple_end (I.ok.hd hc) st (show s.heap.IsTuple a its.toArray from p) (by simp;omega) λh' eb=>⟨rfl,I.turned (t':=s.toks) (λb o hb e=>eb b o hb e) f0 f1 f3 f4 f5⟩
 self:=λ_ _ _ _ _ st h=>wpAny_pyIter_tupleiter st h
theorem z9c(it:Addr)(lo:Int)(n:Nat):Turn P w K tg (Itr lo n) [it] it (λi h=>IsRangeIter h it (lo+(i:Nat) * 1) ((n:Int) - (i:Nat)) 1) where
 mem:=by simp
 obj:=λi h st b hb=>by
  have e:b=it:=by simpa using hb
  subst e;exact⟨_,st,λv z=>by
   have z':Data.fields _=Data.cell v:=z;cases z'⟩
 keep:=λi h h' st k=>k it .(f) _ st
 item:=by
  intro X hP hw hK hc i pins s σ H E I hf st hg;subst hP hw hK;obtain⟨f0,f1,f2,f3,f4,f5⟩:=hf it .(f);have W:=Walks.range (prog:=X.prog) (w:=X.w) (I.ok.hd hc) it lo 1 n;refine W.item i s _ _ hg st λv h' tk hv st' kk=>?_;obtain⟨t,rfl⟩:=hv;have I1:Inv X pins σ H { s with heap:=h',toks:=tk }:=I.turned (λb o hb e=>kk b o (by simpa using hb) e) f0 f1 f3 f4 f5;refine⟨_,rfl,zu7 (s:={ s with heap:=h',toks:=tk }) (n:="range_iterator") st' rfl rfl .(0) ⟨.int (lo+i),H,I1,⟨t,?_⟩,⟨rfl,rfl⟩,st',λb hb=>(hf b hb).1⟩⟩;rw[Int.mul_one]
 done:=by
  intro X hP hw hK hc i pins s σ H E I hf st hg;subst hP hw hK;obtain⟨f0,f1,f2,f3,f4,f5⟩:=hf it .(f);exact wpAny_pyNext_range_end (I.ok.hd hc) st (by have:n<=i:=hg;omega) λh' eb=>⟨rfl,I.turned (t':=s.toks) (λb o hb e=>eb b o hb e) f0 f1 f3 f4 f5⟩
 self:=λ_ _ _ _ _ st h=>wpAny_pyIter_rangeiter st h
def Z0A(K:K1)(tl:TE):TI:=λσ H R=>tl σ H λx H1=>∃a,x=.ref a/\(∃xs,SqL K H1 a xs)/\R (Itl K a) H1
def iTup(K:K1)(tl:TE):TI:=λσ H R=>tl σ H λx H1=>∃a,x=.ref a/\(∃xs,SqT K H1 a xs)/\R (Itt K a) H1
theorem zM4{tl:TE}(hl:PE X l tl):PI X tg l (Z0A X.K tl):=by
 intro pins s σ H R I h;refine thn (hl pins s σ H _ I h) λv s1 ⟨x,H1,I1,r1,q1⟩=>?_;obtain⟨a,e,⟨xs,hq⟩,q⟩:=q1;subst e;cases r1;obtain⟨its,rv,p,hz⟩:=I1.list hq;refine K39 p.isList ?_;refine⟨.(k),[.(k)],_,_,H1,rfl,I1.kept (t':=s1.toks) λb o e=>K8 _ e,zg3 a _,⟨_,K0b _ rfl,rfl,rfl⟩,λb hb=>?_,q⟩;have e:b=s1.heap.objs.size:=by simpa using hb
 subst e;exact I1.fpOk (K05 _) (I1.hok.fresh (K05 _))
theorem zU8{tl:TE}(hl:PE X l tl):PI X tg l (iTup X.K tl):=by
 intro pins s σ H R I h;refine thn (hl pins s σ H _ I h) λv s1 ⟨x,H1,I1,r1,q1⟩=>?_;obtain⟨a,e,⟨xs,hq⟩,q⟩:=q1;subst e;cases r1;obtain⟨its,rv,p,hz⟩:=I1.tuple hq;refine K3q (show s1.heap.IsTuple a its.toArray from p) ?_;refine⟨.(k),[.(k)],_,_,H1,rfl,I1.kept (t':=s1.toks) λb o e=>K8 _ e,z9A a _,⟨_,K0b _ rfl,rfl,rfl⟩,λb hb=>?_,q⟩;have e:b=s1.heap.objs.size:=by simpa using hb
 subst e;exact I1.fpOk (K05 _) (I1.hok.fresh (K05 _))
theorem zm6{R:It->Hp->Prop}{E:Value->Shared->Prop}{hi:Int}{t u v:Tok}{tk:Nat}(I:Inv X pins σ H s)(h1:-(2 ^ 62)<=lo)(h2:lo<2 ^ 62)(h3:-(2 ^ 62)<=hi)(h4:hi<2 ^ 62)
 (q:R (Itr lo (hi - lo).toNat) H):wpAny .(8) X.A (pyIter (.ref .(4))) (PIE X pins σ tg R) E { s with heap:=s.heap.push { cls:=.type "range",data:=.fields #[.int lo t,.int hi u,.int 1 v] },toks:=tk }:=by
 refine wpAny_pyIter_range (Z1b.new ..) (small_one h1 h2 h3 h4) ?_;have I1:Inv X pins σ H { s with heap:=s.heap.push { cls:=.type "range",data:=.fields #[.int lo t,.int hi u,.int 1 v] },toks:=tk }:=I.kept λb o e=>K8 _ e;refine⟨(s.heap.push { cls:=.type "range",data:=.fields #[.int lo t,.int hi u,.int 1 v] }).objs.size,[(s.heap.push { cls:=.type "range",data:=.fields #[.int lo t,.int hi u,.int 1 v] }).objs.size],_,_,H,rfl,
  I1.kept (t':=tk) λb o e=>K8 _ e,z9c _ lo (hi - lo).toNat,?_,λb hb=>?_,q⟩
 ·have e1:lo+((0:Nat):Int) * 1=lo:=by simp
  have e2:(((hi - lo).toNat:Nat):Int) - ((0:Nat):Int)=K37 lo hi 1:=by rw[rangeSize_one];split<;>omega
  show IsRangeIter _ _ (lo+((0:Nat):Int) * 1) ((((hi - lo).toNat:Nat):Int) - ((0:Nat):Int)) 1;rw[e1,e2];exact K0b _ rfl
 ·have e:b=(s.heap.push { cls:=.type "range",data:=.fields #[.int lo t,.int hi u,.int 1 v] }).objs.size:=by simpa using hb
  subst e;exact I1.fpOk (K05 _) (I1.hok.fresh (K05 _))
def Z0j(ta:TA):TI:=λσ H R=>ta σ H λvs H1=>∃j:Int,vs=[.int j]/\-(2 ^ 62)<=j/\j<2 ^ 62/\R (Itr 0 j.toNat) H1
theorem za0{a:Expr}{ta:TA}(hg:Gl X "range")(hm:X.mg "range" = none)(ha:PA X [a] ta)(hs:K09 [a] X.env=[(false,eval a X.env)]:=by rfl):PI X tg (.Call (.Name "range" p) [a] [] pos) (Z0j ta):=by
 intro pins s σ H R I h;refine Call_ (z5B I hg hm boot_range (K3g (thn (ha pos pins s σ H _ I h) λus s1 ⟨vs,H1,I1,r1,q1⟩=>?_) hs rfl));obtain⟨j,e,q1,q2,q⟩:=q1;subst e;cases r1 with
 | cons r rr=>
  cases rr;obtain⟨t,rfl⟩:=r;exact call_range_1 (zm6 I1 .(1) .(1) q1 q2 (by simpa using q))
def tFor(wi:TI)(g:TG)(tb:TS):TS:=λD σ H=>wi σ H λJ H1=>∃W:Nat->Nat->St->Hp->Prop,(∃m,W 0 m σ H1)/\∀i m σ H,W i m σ H ->
 (J.stop i H/\D.nx σ H)\/(J.go i H/\∃N:St->Hp->Prop,(∀σ' H',N σ' H'->∃m',m'<m/\W (i+1) m' σ' H')/\∀x H',J.yld i H x H'->g x σ H' λσ2 H2=>tb { D with nx:=N,ct:=N,bk:=D.nx } σ2 H2)
def z6w(fp:List Addr)(h:Heap):List .(A):=fp.filterMap λb=>(h.get? b).map λo=>(b,o)
theorem z2S{o:Obj}(hb:b∈fp)(e:h.get? b=some o):(b,o)∈z6w fp h:=List.mem_filterMap.mpr ⟨b,hb,by rw[e];rfl⟩
theorem zb9{p:Addr×Obj}(hp:p∈z6w fp h):p.1∈fp/\h.get? p.1=some p.2:=by
 obtain⟨b,hb,e⟩:=List.mem_filterMap.mp hp;cases q:h.get? b with
 | none=>rw[q]at e;cases e
 | some o=>
  rw[q]at e;have e':(b,o)=p:=K11 e;subst e';exact⟨hb,q⟩
theorem Inv.pinned(I:Inv X pins σ H s)(hf:∀b∈fp,FpOk X pins H b)(ho:∀b∈fp,∃o,s.heap.get? b=some o/\∀v,o.data≠.cell v):Inv X (pins++z6w fp s.heap) σ H s:=
 I.pins_of λp hp=>(K1c.mp hp).elim (λz=>I.pin p (K17 _ z)) λz=>by
  obtain⟨hb,e⟩:=zb9 z;obtain⟨f0,f1,f2,_⟩:=hf p.1 hb;obtain⟨o,e',d⟩:=ho p.1 hb;rw[e]at e';cases e';exact⟨e,f0,f1,f2,d⟩
theorem Inv.unpinned{pl:List .(A)}(I:Inv X (pins++pl) σ H s):Inv X pins σ H s:=I.pins_of λp hp=>I.pin p (K17 _ (K2j _ hp))
theorem zS6{iter:Expr}{wi:TI}{g:TG}{pos:Pos}(hp:Z1u .(8) X.A X.env X.xe)(hc:X.calm=true)(hi:PI X tg iter wi)(hg:PG X tg g)(hb:PSs X body tb)
 (hs:∀x,K14 iter X.env x=pure x:=by intro _;rfl):PS X (.For tg iter body [] pos) (tFor wi g tb):=by
 intro pins s σ H D I h;refine wpAny_For (thn (hi pins s σ H _ I h) λv s1 h1=>thn h1 λitv s2 h2=>?_) hs;obtain⟨it,fp,tn,J,H2,e,I2,T,st2,f2,W,⟨m0,w0⟩,turn⟩:=h2;subst e;have stat:∀{H':Hp},(∀b∈fp,H' b=none)->∀b∈fp,FpOk X pins H' b:=λhn b hb=>⟨hn b hb,(f2 b hb).2⟩;refine codeAny_forLoop_any (λn s'=>∃i σ' H',Inv X pins σ' H' s'/\tn i s'.heap/\(∀b∈fp,H' b=none)/\W i n σ' H') ?_ m0 ⟨0,σ,H2,I2,st2,λb hb=>(f2 b hb).1,w0⟩;rintro n s3 ⟨i,σ3,H3,I3,st3,fr3,w3⟩;rcases turn i n σ3 H3 w3 with ⟨stop,qn⟩|⟨go,N,hN,step⟩
 ·refine K3x hp (thn (T.done X rfl rfl rfl hc i pins s3 σ3 H3 X.xe I3 (stat fr3) st3 stop) λr s4 ⟨hr,I4⟩=>?_);subst hr;exact K5c ⟨σ3,H3,I4,qn⟩
 ·refine K3x hp (thn (T.item X rfl rfl rfl hc i pins s3 σ3 H3 X.xe I3 (stat fr3) st3 go) λr s4 ⟨u,hr,h4⟩=>?_);subst hr;refine K3x hp (thn h4 λ_ s5 ⟨x,H5,I5,r5,y5,st5,fr5⟩=>?_);have I5':=I5.pinned (stat fr5) (T.obj _ _ st5);refine K3x hp (thn (hg _ s5 σ3 H5 x u _ I5' r5 (step x H5 y5)) λ_ s6 ⟨σ6,H6,I6,q6⟩=>?_);refine K3x hp (thn (hb _ s6 σ6 H6 _ I6 q6) λf s7 q7=>?_);have again:∀{σ7:St} {H7:Hp},Inv X (pins++z6w fp s5.heap) σ7 H7 s7->N σ7 H7->∃m,m<n/\∃i σ' H',Inv X pins σ' H' s7/\tn i s7.heap/\(∀b∈fp,H' b=none)/\W i m σ' H':=λ{σ7 H7} I7 n7=>by
   obtain⟨m',hm,w7⟩:=hN σ7 H7 n7;refine⟨m',hm,i+1,σ7,H7,I7.unpinned,T.keep _ _ _ st5 λb hb o e=>(I7.pin (b,o) (K17 _ (K17 _ (z2S hb e)))).1,λb hb=>?_,w7⟩;obtain⟨o,e,d⟩:=T.obj _ _ st5 b hb;exact(I7.pin (b,o) (K17 _ (K17 _ (z2S hb e)))).2.1
  cases f with
  | next=>obtain⟨σ7,H7,I7,n7⟩:=q7;exact again I7 n7
  | cont=>obtain⟨σ7,H7,I7,n7⟩:=q7;exact again I7 n7
  | brk=>obtain⟨σ7,H7,I7,q7⟩:=q7;exact⟨σ7,H7,I7.unpinned,q7⟩
  | ret v=>obtain⟨x7,σ7,H7,I7,r7,q7⟩:=q7;exact⟨x7,σ7,H7,I7.unpinned,r7,q7⟩
theorem z0i{lo:Int}{n:Nat}{g:TG}{tb:TS}{D:Ends}(Pv:Nat->St->Hp->Prop)(h0:Pv 0 σ H)
 (hs:∀i σ H,i<n->Pv i σ H->g (.int (lo+i)) σ H λσ2 H2=>tb { D with nx:=Pv (i+1),ct:=Pv (i+1),bk:=D.nx } σ2 H2) (hd:∀σ H,Pv n σ H->D.nx σ H) :
 ∃W:Nat->Nat->St->Hp->Prop,(∃m,W 0 m σ H)/\∀i m σ H,W i m σ H ->
  ((Itr lo n).stop i H/\D.nx σ H)\/((Itr lo n).go i H/\∃N:St->Hp->Prop,(∀σ' H',N σ' H'->∃m',m'<m/\W (i+1) m' σ' H')/\∀x H',(Itr lo n).yld i H x H'->g x σ H' λσ2 H2=>tb { D with nx:=N,ct:=N,bk:=D.nx } σ2 H2):=by
 refine⟨λi m σ H=>m=n - i/\i<=n/\Pv i σ H,⟨n,by simp,K3k _,h0⟩,?_⟩;rintro i m σ H ⟨rfl,hi,p⟩;by_cases hlt:i<n
 ·refine .inr ⟨hlt,Pv (i+1),λσ' H' p'=>⟨n - (i+1),by omega,rfl,hlt,p'⟩,λx H' y=>?_⟩;obtain⟨e,y⟩:=y;subst e y;exact hs i σ _ hlt p
 ·have e:i=n:=by omega
  subst e;exact .inl ⟨K05 _,hd σ H p⟩
abbrev R2:=V->V->Hp->VK->Prop
def OpR(X:Cx)(f:Value->Value->Sem Value)(r:R2):Prop:=
 ∀(pins:List .(A)) (s:Shared) (σ:St) (H:Hp) (x y:V) (v u:Value) (Q:VK),Inv X pins σ H s->RelV x v->RelV y u->r x y H Q ->
  wpAny .(8) X.A (f v u) (EP X pins σ Q) X.xe s
def UnR(X:Cx)(f:Value->Sem Value)(r:V->Hp->VK->Prop):Prop:=
 ∀(pins:List .(A)) (s:Shared) (σ:St) (H:Hp) (x:V) (v:Value) (Q:VK),Inv X pins σ H s->RelV x v->r x H Q ->
  wpAny .(8) X.A (f v) (EP X pins σ Q) X.xe s
def z2W(X:Cx)(f:Value)(r:List V->Hp->VK->Prop):Prop:=
 ∀(pins:List .(A)) (s:Shared) (σ:St) (H:Hp) (xs:List V) (us:List Value) (Q:VK),Inv X pins σ H s->Vals xs us->r xs H Q ->
  wpAny .(8) X.A (call f us) (EP X pins σ Q) X.xe s
def TruR(X:Cx)(r:V->Hp->(Bool->Hp->Prop)->Prop):Prop:=
 ∀(pins:List .(A)) (s:Shared) (σ:St) (H:Hp) (x:V) (v:Value) (Q:Bool->Hp->Prop),Inv X pins σ H s->RelV x v->r x H Q ->
  wpAny .(8) X.A (truthy v) (TP X pins σ Q) X.xe s
def tOp(r:R2)(ta tb:TE):TE:=λσ H Q=>ta σ H λx H1=>tb σ H1 λy H2=>r x y H2 Q
def tUn(r:V->Hp->VK->Prop)(ta:TE):TE:=λσ H Q=>ta σ H λx H1=>r x H1 Q
def rI(C:Int->Int->Prop)(g:Int->Int->V):R2:=λx y H Q=>∃i j,x=.int i/\y=.int j/\C i j/\Q (g i j) H
def rI0(g:Int->Int->V):R2:=λx y H Q=>∃i j,x=.int i/\y=.int j/\Q (g i j) H
def rU(g:Int->V):V->Hp->VK->Prop:=λx H Q=>∃i,x=.int i/\Q (g i) H
section
variable{a b:Expr}{tb tc:TE}
theorem binT(ha:PE X a ta)(hb:PE X b tb){R:V->V->Hp->Prop}(I:Inv X pins σ H s)
 (h:ta σ H λx H1=>tb σ H1 λy H2=>R x y H2) {Q:Value->Shared->Prop} {f:Value->Value->Sem Value}
 (hf:∀v u s2 x y H2,Inv X pins σ H2 s2->RelV x v->RelV y u->R x y H2->wpAny .(8) X.A (f v u) Q X.xe s2) :
 wpAny .(8) X.A (eval a X.env) (λv s₁=>wpAny .(8) X.A (eval b X.env) (λu s₂=>wpAny .(8) X.A (f v u) Q X.xe s₂) X.xe s₁) X.xe s:=by
 refine thn .(Z) λv s1 ⟨x,H1,I1,r1,q1⟩=>?_;refine thn (hb pins s1 σ H1 _ I1 q1) λu s2 ⟨y,H2,I2,r2,q2⟩=>?_;exact hf v u s2 x y H2 I2 r1 r2 q2
theorem Z0H{op:Operator}{r:R2}(ho:OpR X (K3e op) r)(ha:PE X a ta)(hb:PE X b tb):PE X (.BinOp a op b pos) (tOp r ta tb):=by
 intro pins s σ H Q I h;exact wpAny_BinOp (binT ha hb I h λv u s2 x y H2 I2 rx ry q=>ho pins s2 σ H2 x y v u Q I2 rx ry q)
theorem Z0m{op:UnaryOp}{r:V->Hp->VK->Prop}(ho:UnR X (unaryOp op) r)(ha:PE X a ta):PE X (.UnaryOp op a pos) (tUn r ta):=by
 intro pins s σ H Q I h;exact UnaryOp_ (thn .(Z) λv s1 ⟨x,H1,I1,r1,q1⟩=>ho pins s1 σ H1 x v Q I1 r1 q1)
theorem opI{f:Value->Value->Sem Value}{C:Int->Int->Prop}{g:Int->Int->Int}
 (rule:∀(i j:Int) (t u:Tok) (s:Shared) (Q:Value->Shared->Prop) (E:Value->Shared->Prop),C i j->Q (.int (g i j) s.toks) { s with toks:=s.toks+1 }->wpAny .(8) X.A (f (.int i t) (.int j u)) Q E s) :
 OpR X f (rI C λi j=>.int (g i j)):=by
 intro pins s σ H x y v u Q I rx ry h;obtain⟨i,j,rfl,rfl,hc,q⟩:=h;obtain⟨t,rfl⟩:=rx;obtain⟨t',rfl⟩:=ry;exact rule i j t t' s _ _ hc ⟨.int (g i j),H,I.tok _,⟨_,rfl⟩,q⟩
theorem opI0{f:Value->Value->Sem Value}{g:Int->Int->Int}
 (rule:∀(i j:Int) (t u:Tok) (s:Shared) (Q:Value->Shared->Prop) (E:Value->Shared->Prop),Q (.int (g i j) s.toks) { s with toks:=s.toks+1 }->wpAny .(8) X.A (f (.int i t) (.int j u)) Q E s) :
 OpR X f (rI0 λi j=>.int (g i j)):=by
 intro pins s σ H x y v u Q I rx ry h;obtain⟨i,j,rfl,rfl,q⟩:=h;obtain⟨t,rfl⟩:=rx;obtain⟨t',rfl⟩:=ry;exact rule i j t t' s _ _ ⟨.int (g i j),H,I.tok _,⟨_,rfl⟩,q⟩
theorem opB0{f:Value->Value->Sem Value}{g:Int->Int->Bool}
 (rule:∀(i j:Int) (t u:Tok) (s:Shared) (Q:Value->Shared->Prop) (E:Value->Shared->Prop),Q (.bool (g i j)) s->wpAny .(8) X.A (f (.int i t) (.int j u)) Q E s) :
 OpR X f (rI0 λi j=>.bl (g i j)):=by
 intro pins s σ H x y v u Q I rx ry h;obtain⟨i,j,rfl,rfl,q⟩:=h;obtain⟨t,rfl⟩:=rx;obtain⟨t',rfl⟩:=ry;exact rule i j t t' s _ _ ⟨.bl (g i j),H,I,rfl,q⟩
def CDiv(i j:Int):Prop:=0<j/\j<1073741824
def CPow(i j:Int):Prop:=0<=j/\j<=1000000/\i.natAbs<2 ^ 64
def CMul(i j:Int):Prop:=(-(2 ^ 64)<i/\i<2 ^ 64)\/(-(2 ^ 64)<j/\j<2 ^ 64)
theorem CMul.ok{i j:Int}(h:CMul i j):IntMulOk i j:=by
 rcases h with ⟨h1,h2⟩|⟨h1,h2⟩
 ·exact .of_left (intBits_le_64 h1 h2)
 ·exact .of_right (intBits_le_64 h1 h2)
theorem op_add:OpR X (K3e .Add) (rI0 λi j=>.int (i+j)):=opI0 λ_ _ _ _ _ _ _ q=>add_int q
theorem zS7:OpR X (K3e .Sub) (rI0 λi j=>.int (i - j)):=opI0 λ_ _ _ _ _ _ _ q=>sub_int q
theorem op_mul:OpR X (K3e .Mult) (rI CMul λi j=>.int (i * j)):=opI λ_ _ _ _ _ _ _ hc q=>mul_int q hc.ok
theorem zG3:OpR X (K3e .FloorDiv) (rI CDiv λi j=>.int (i / j)):=opI λi j _ _ _ _ _ hc q=>by
 have h1:(0:Int)<j:=hc.1;have h2:j<1073741824:=hc.2;exact floordiv_int .(1) (by rw[Int.fdiv_eq_ediv_of_nonneg i .(1)];exact q) (.inl (PyProof.noPylong_small .(1)))
theorem zY0:OpR X (K3e .Mod) (rI (λ_ j=>0<j) λi j=>.int (i % j)):=opI λi j _ _ _ _ _ hc q=>by
 have h1:(0:Int)<j:=hc;exact mod_int' .(1) (by rw[Int.fmod_eq_emod_of_nonneg i .(1)];exact q)
theorem zT8:OpR X (K3e .Pow) (rI CPow λi j=>.int (i ^ j.toNat)):=opI λ_ _ _ _ _ _ _ hc q=>pow_int_small hc.1 hc.2.1 hc.2.2 q
theorem unI{f:Value->Sem Value}{g:Int->Int}
 (rule:∀(i:Int) (t:Tok) (s:Shared) (Q:Value->Shared->Prop) (E:Value->Shared->Prop),Q (.int (g i) s.toks) { s with toks:=s.toks+1 }->wpAny .(8) X.A (f (.int i t)) Q E s) :
 UnR X f (rU λi=>.int (g i)):=by
 intro pins s σ H x v Q I rx h;obtain⟨i,rfl,q⟩:=h;obtain⟨t,rfl⟩:=rx;exact rule i t s _ _ ⟨.int (g i),H,I.tok _,⟨_,rfl⟩,q⟩
theorem zP4:UnR X (unaryOp .USub) (rU λi=>.int (-i)):=unI λ_ _ _ _ _ q=>neg_int q
end
def scal:V->V->Bool
 | .non,.non=>true|.non,.int _=>true|.int _,.non=>true|.non,.bl _=>true|.bl _,.non=>true|.non,.str _=>true|.str _,.non=>true
 | .int _,.int _=>true|.bl _,.bl _=>true|.str _,.str _=>true|.byt _,.byt _=>true
 | .int _,.str _=>true|.str _,.int _=>true|.bl _,.str _=>true|.str _,.bl _=>true
 | _,_=>false
def rEq:R2:=λx y H Q=>scal x y=true/\Q (.bl (decide (x=y))) H
theorem zA1{i j:Int}:decide (V.int i=V.int j)=(i==j):=by
 rw[K0p];simp
theorem zX4{i j:Bool}:decide (V.bl i=V.bl j)=(i==j):=by
 rw[K0p];simp
theorem zG7{i j:Str}:decide (V.str i=V.str j)=(i==j):=by
 rw[K0p];simp
theorem zH8{i j:Array UInt8}:decide (V.byt i=V.byt j)=(i.toList==j.toList):=by
 rw[K0p];cases i;cases j;simp
section
variable{a b:Expr}{tb tc:TE}
theorem z0Y{Q:VK}{k k':Bool}(I:Inv X pins σ H s)(q:Q (.bl k) H)(e:k=k'):EP X pins σ Q (.bool k') s:=by
 subst e;exact⟨.bl k,H,I,rfl,q⟩
theorem Z0K:OpR X (K22 .Eq) rEq:=by
 intro pins s σ H x y v u Q I rx ry h;obtain⟨hs,q⟩:=h;cases x with
 | non=>
  cases rx;cases y with
  | non=>cases ry;exact PySem.EqNone.eq_none_none (z0Y I q .(f))
  | bl j=>cases ry;exact PySem.EqNone.eq_none_bool (z0Y I q .(f))
  | int j=>obtain⟨t',rfl⟩:=ry;exact PySem.EqNone.eq_none_int (z0Y I q .(f))
  | str j=>obtain⟨t',rfl⟩:=ry;exact PySem.EqNone.eq_none_str (z0Y I q .(f))
  | _=>exact absurd (show false=true from hs) K10
 | bl i=>
  cases rx;cases y with
  | non=>cases ry;exact PySem.EqNone.eq_bool_none (z0Y I q .(f))
  | bl j=>cases ry;exact eq_bool (z0Y I q zX4)
  | str j=>obtain⟨t',rfl⟩:=ry;exact PySem.EqMixed.eq_bool_str (z0Y I q .(f))
  | _=>exact absurd (show false=true from hs) K10
 | int i=>
  obtain⟨t,rfl⟩:=rx;cases y with
  | non=>cases ry;exact PySem.EqNone.eq_int_none (z0Y I q .(f))
  | int j=>obtain⟨t',rfl⟩:=ry;exact eq_int (z0Y I q zA1)
  | str j=>obtain⟨t',rfl⟩:=ry;exact PySem.EqMixed.eq_int_str (z0Y I q .(f))
  | _=>exact absurd (show false=true from hs) K10
 | str i=>
  obtain⟨t,rfl⟩:=rx;cases y with
  | non=>cases ry;exact PySem.EqNone.eq_str_none (z0Y I q .(f))
  | bl j=>cases ry;exact PySem.EqMixed.eq_str_bool (z0Y I q .(f))
  | int j=>obtain⟨t',rfl⟩:=ry;exact PySem.EqMixed.eq_str_int (z0Y I q .(f))
  | str j=>obtain⟨t',rfl⟩:=ry;exact eq_str (z0Y I q zG7)
  | _=>exact absurd (show false=true from hs) K10
 | byt i=>
  obtain⟨t,rfl⟩:=rx;cases y with
  | byt j=>obtain⟨t',rfl⟩:=ry;exact PySem.W.eq_bytes (z0Y I q zH8)
  | _=>exact absurd (show false=true from hs) K10
 | _=>cases y<;>exact absurd (show false=true from hs) K10
theorem op_lt:OpR X (K22 .Lt) (rI0 λi j=>.bl (decide (i<j))):=opB0 λ_ _ _ _ _ _ _ q=>lt_int q
theorem op_le:OpR X (K22 .LtE) (rI0 λi j=>.bl (decide (i<=j))):=opB0 λ_ _ _ _ _ _ _ q=>le_int q
theorem Z0k:OpR X (K22 .Gt) (rI0 λi j=>.bl (decide (j<i))):=opB0 λ_ _ _ _ _ _ _ q=>gt_int q
theorem Z0w:OpR X (K22 .GtE) (rI0 λi j=>.bl (decide (j<=i))):=opB0 λ_ _ _ _ _ _ _ q=>ge_int q
theorem z9G:OpR X (K22 .Lt) (λx y H Q=>∃i j,x=.str i/\y=.str j/\Q (.bl (decide (i.cps.toList<j.cps.toList))) H):=by
 intro pins s σ H x y v u Q I rx ry h;obtain⟨i,j,rfl,rfl,q⟩:=h;obtain⟨t,rfl⟩:=rx;obtain⟨t',rfl⟩:=ry;exact lt_str (z0Y I q rfl)
theorem z79:OpR X (K22 .NotIn) (λx y H Q=>∃i j,x=.str i/\y=.str j/\Q (.bl (!(!(K25 j i 0 j.length 1).isEmpty))) H):=by
 intro pins s σ H x y v u Q I rx ry h;obtain⟨i,j,rfl,rfl,q⟩:=h;obtain⟨t,rfl⟩:=rx;obtain⟨t',rfl⟩:=ry;exact notIn_str (z0Y I q rfl)
theorem OpR.or{f:Value->Value->Sem Value}{r r':R2}(h:OpR X f r)(h':OpR X f r'):OpR X f (λx y H Q=>r x y H Q\/r' x y H Q):=by
 intro pins s σ H x y v u Q I rx ry q;rcases q with q|q
 ·exact h pins s σ H x y v u Q I rx ry q
 ·exact h' pins s σ H x y v u Q I rx ry q
theorem zw3(b:Expr){op:CmpOp}(h:op≠.In:=by decide)(h2:op≠.NotIn:=by decide):K4q op b=false:=by
 have e1:(op==CmpOp.In)=false:=by cases op<;>first|rfl|exact absurd rfl h
 have e2:(op==CmpOp.NotIn)=false:=by cases op<;>first|rfl|exact absurd rfl h2
 cases b<;>simp[K4q,e1,e2]
theorem zB7{op:CmpOp}{r:R2}(ho:OpR X (K22 op) r)(ha:PE X a ta)(hb:PE X b tb)(hm:K4q op b=false):PE X (.Compare a [op] [b] pos) (tOp r ta tb):=by
 intro pins s σ H Q I h;exact wpAny_Compare1 (binT ha hb I h λv u s2 x y H2 I2 rx ry q=>ho pins s2 σ H2 x y v u Q I2 rx ry q) hm
def zQ6(t:TE):TT:=λσ H Q=>t σ H λx H'=>∃k,x=.bl k/\Q k H'
theorem zB2{op:CmpOp}{r:R2}(ho:OpR X (K22 op) r)(ha:PE X a ta)(hb:PE X b tb)(hm:K4q op b=false):PT X (.Compare a [op] [b] pos) (zQ6 (tOp r ta tb)):=by
 intro pins s σ H Q I h;refine wpAny_isTrue_Compare1 (thn .(Z) λv s1 ⟨x,H1,I1,r1,q1⟩=>thn (hb pins s1 σ H1 _ I1 q1) λu s2 ⟨y,H2,I2,r2,q2⟩=>
  thn (ho pins s2 σ H2 x y v u _ I2 r1 r2 q2) λc s3 ⟨z,H3,I3,r3,k,e,q3⟩=>?_) hm
 subst e;cases r3;exact K38 ⟨H3,I3,q3⟩
def zw8(r r':R2)(ta tb tc:TE):TE:=λσ H Q=>ta σ H λx H1=>tb σ H1 λy H2=>r x y H2 λz H3=>∃k,z=.bl k /\
 (if k=true then tc σ H3 λw' H4=>r' y w' H4 Q else Q (.bl false) H3)
theorem zn4{op op':CmpOp}{r r':R2}(ho:OpR X (K22 op) r)(ho':OpR X (K22 op') r')(ha:PE X a ta)(hb:PE X b tb)(hc:PE X c tc)
 (hm:lastMarks [op,op'] [b,c]=false:=by with_unfolding_all rfl):PE X (.Compare a [op,op'] [b,c] pos) (zw8 r r' ta tb tc):=by
 intro pins s σ H Q I h;refine Compare_chain (thn .(Z) λv s1 ⟨x,H1,I1,r1,q1⟩=>chain_link (thn (hb pins s1 σ H1 _ I1 q1) λu s2 ⟨y,H2,I2,r2,q2⟩=>
  thn (ho pins s2 σ H2 x y v u _ I2 r1 r2 q2) λd s3 ⟨z,H3,I3,r3,k,e,q3⟩=>?_)) hm
 subst e;cases r3;refine K38 ?_;cases k with
 | false=>exact ite_ff ⟨.bl false,H3,I3,rfl,q3⟩
 | true=>exact ite_tt (chain_last (thn (hc pins s3 σ H3 _ I3 q3) λw' s4 ⟨z',H4,I4,r4,q4⟩=>ho' pins s4 σ H4 y z' u w' Q I4 r2 r4 q4))
def TruV(K:K1)(x:V)(H:Hp)(k:Bool):Prop:=
 match x with
 | .non=>k=false
 | .bl b=>k=b
 | .int i=>k=(i != 0)
 | .str y=>y.length<=sizeLine/\k=((y.length:Int) != 0)
 | .byt y=>y.size<=sizeLine/\k=((y.size:Int) != 0)
 | .ref p=>(∃xs,SqL K H p xs/\k = !xs.isEmpty)\/(∃xs,SqT K H p xs/\k = !xs.isEmpty)\/∃kvs,H p=some (.dK kvs)/\k = !kvs.isEmpty
 | _=>False
theorem z9F{kvs:List (κ×V)}{vs:List (κ×Value)}(r:KV kvs vs):(!vs.isEmpty) = !kvs.isEmpty:=by
 cases r<;>rfl
theorem z5s(r:Vals xs its):(!its.toArray.isEmpty) = !xs.isEmpty:=by
 cases r<;>simp
theorem z5w:(sizeLine:Nat)<2 ^ 63:=by rw[K7j];decide
theorem zR3:TruR X (λx H Q=>∃k,TruV X.K x H k/\Q k H):=by
 intro pins s σ H x v Q I rx h;obtain⟨k,e,q⟩:=h;have hl:=z5w;have hs:sizeLine=16777216:=K7j;cases x with
 | non=>
  cases rx;have e':k=false:=e;subst e';exact truthy_none ⟨H,I,q⟩
 | bl b=>
  cases rx;have e':k=b:=e;subst e';exact K38 ⟨H,I,q⟩
 | int i=>
  obtain⟨t,rfl⟩:=rx;have e':k=(i != 0):=e;subst e';exact PySem.P.truthy_int ⟨H,I,q⟩
 | str y=>
  obtain⟨t,rfl⟩:=rx;obtain⟨hy,e'⟩:y.length<=sizeLine/\k=((y.length:Int) != 0):=e;subst e';exact PySem.P.truthy_str .(1) ⟨H,I.tok _,q⟩
 | byt y=>
  obtain⟨t,rfl⟩:=rx;obtain⟨hy,e'⟩:y.size<=sizeLine/\k=((y.size:Int) != 0):=e;subst e';exact PySem.W.truthy_bytes .(1) ⟨H,I.tok _,q⟩
 | ref p=>
  cases rx;have e':(∃xs,SqL X.K H p xs/\k = !xs.isEmpty)\/(∃xs,SqT X.K H p xs/\k = !xs.isEmpty)\/∃kvs,H p=some (.dK kvs)/\k = !kvs.isEmpty:=e;rcases e' with ⟨xs,hx,e'⟩|⟨xs,hx,e'⟩|⟨kvs,hx,e'⟩
  ·subst e';obtain⟨its,r,pl,hz⟩:=I.list hx;have hlen:=r.length;exact wpAny_truthy_list pl.isList (by simp only[K07];omega) ⟨H,I.tok _,by rw[z5s r];exact q⟩
  ·subst e';obtain⟨its,r,pl,hz⟩:=I.tuple hx;have hlen:=r.length;exact truthy_tuple pl (by simp only[K07];omega) ⟨H,I.tok _,by rw[z5s r];exact q⟩
  ·subst e';obtain⟨hz,hS,vs,r,m⟩:kvs.length<=sizeLine/\(p==K3p)=false/\∃vs,KV kvs vs/\s.heap.DictOf (J6 X.prog X.w) p vs:=I.hok p _ hx;have hlen:kvs.length=vs.length:=K4m r;exact wpAny_truthy_dict hS m .(1) ⟨H,I.tok _,by rw[z9F r];exact q⟩
 | _=>exact(show False from e).elim
theorem zs8(ha:PE X a ta)(he:∀whole,isTrue a X.env whole=(do let v <- whole;K4u a.pos;K44 [v] (truthy v))):
 PT X a (λσ H Q=>ta σ H λx H'=>∃k,TruV X.K x H' k/\Q k H'):=by
 intro pins s σ H Q I h;exact isTrue_plain (thn .(Z) λv s1 ⟨x,H1,I1,r1,q1⟩=>zR3 pins s1 σ H1 x v Q I1 r1 q1) (he _)
theorem op_add_str:OpR X (K3e .Add) (λx y H Q=>∃i j,x=.str i/\y=.str j/\i.length+j.length<=sizeLine/\Q (.str (i++j)) H):=by
 intro pins s σ H x y v u Q I rx ry h;obtain⟨i,j,rfl,rfl,hz,q⟩:=h;obtain⟨t,rfl⟩:=rx;obtain⟨t',rfl⟩:=ry;exact add_str (λt' tk=>⟨.str (i++j),H,I.tok _,⟨_,rfl⟩,q⟩) hz
theorem vals1{x:V}(r:Vals [x] us):∃u,us=[u]/\RelV x u:=by
 cases r with
 | cons r1 r2=>cases r2;exact⟨_,rfl,r1⟩
theorem vals2{x y:V}(r:Vals [x,y] us):∃u w',us=[u,w']/\RelV x u/\RelV y w':=by
 cases r with
 | cons r1 r2=>
  cases r2 with
  | cons r3 r4=>cases r4;exact⟨_,_,rfl,r1,r3⟩
theorem z7m(hc:X.calm=true):z2W X (.builtin "max") (λxs H Q=>∃i j,xs=[.int i,.int j]/\Q (.int (if j > i then j else i)) H):=by
 intro pins s σ H xs us Q I r h;obtain⟨i,j,rfl,q⟩:=h;obtain⟨u,w',rfl,⟨t,rfl⟩,⟨t',rfl⟩⟩:=vals2 r;refine max_two_ints (I.ok.hd hc) λh' tk k=>⟨_,H,I.kept k,?_,q⟩;by_cases hj:j > i
 ·rw[if_pos hj,if_pos hj];exact⟨_,rfl⟩
 ·rw[if_neg hj,if_neg hj];exact⟨_,rfl⟩
def LenV(K:K1)(x:V)(H:Hp)(n:Nat):Prop:=
 match x with
 | .str y=>y.length<=sizeLine/\n=y.length
 | .byt y=>y.size<=sizeLine/\n=y.size
 | .ref p=>(∃xs,SqL K H p xs/\n=xs.length)\/∃xs,SqT K H p xs/\n=xs.length
 | _=>False
theorem zt2:z2W X (.builtin "len") (λxs H Q=>∃x n,xs=[x]/\LenV X.K x H n/\Q (.int n) H):=by
 intro pins s σ H xs us Q I r h;obtain⟨x,n,rfl,e,q⟩:=h;obtain⟨u,rfl,rx⟩:=vals1 r;have hl:=z5w;have hs:sizeLine=16777216:=K7j;cases x with
 | str y=>
  obtain⟨t,rfl⟩:=rx;obtain⟨hy,e'⟩:y.length<=sizeLine/\n=y.length:=e;subst e';exact len_str .(1) ⟨.int _,H,I.tok _,⟨_,rfl⟩,q⟩
 | byt y=>
  obtain⟨t,rfl⟩:=rx;obtain⟨hy,e'⟩:y.size<=sizeLine/\n=y.size:=e;subst e';exact PySem.W.len_bytes .(1) ⟨.int _,H,I.tok _,⟨_,rfl⟩,q⟩
 | ref p=>
  cases rx;have e':(∃xs,SqL X.K H p xs/\n=.(21))\/∃xs,SqT X.K H p xs/\n=xs.length:=e;rcases e' with ⟨xs,hx,e'⟩|⟨xs,hx,e'⟩
  ·subst e';obtain⟨its,r',pl,hz⟩:=I.list hx;have hlen:=r'.length;exact Calls.call_len_list pl.isList (by simp only[K07];omega) ⟨.int xs.length,H,I.tok _,⟨_,by simp only[K07];rw[hlen]⟩,q⟩
  ·subst e';obtain⟨its,r',pl,hz⟩:=I.tuple hx;have hlen:=r'.length;exact len_tuple pl (by simp only[K07];omega) ⟨.int xs.length,H,I.tok _,⟨_,by simp only[K07];rw[hlen]⟩,q⟩
 | _=>exact(show False from e).elim
end
structure ObjM(h:Heap)(x dx C:Addr)(mA:Str->Option Value):Prop where
 obj:h.get? x=some (K8t C dx)
 ns:h.Ns1 dx mA
 ne:dx≠x
theorem zg6(n:h.Ns1 dx mA):∃od,h.get? dx=some od/\∀name,K94 name od=some (mA name):=by
 obtain⟨o,es,ep,ho,hd,hk,_,hm⟩:=n;refine⟨o,ho,λname=>?_⟩;have e:=hm name;unfold nsFind findBy at e;rw[<- Array.find?_toList]at e;unfold K94;rw[hd];dsimp only;split
 ·rename_i y q;rw[q]at e;exact congrArg some e
 ·rename_i q;rw[q]at e;have a:es.toList.any (·.refKey)=false:=by
   rw[List.any_eq_false];intro y hy;obtain⟨z,t,hkey⟩:=hk y (Array.mem_toList_iff.mp hy);simp[Z1v.refKey,hkey]
  have a':¬ es.toList.any (·.refKey)=true:=by rw[a];exact K10
  rw[if_neg a'];exact congrArg some e
theorem ObjM.look{x:Addr}(I:ObjM h x dx C mA):∃od,PySem.W.InstAt h x (K8t C dx) C (some od)/\∀name,K94 name od=some (mA name):=
 let ⟨od,ho,hl⟩:=zg6 I.ns
 ⟨od,⟨I.obj,rfl,rfl,ho⟩,hl⟩
theorem RelO.some_of{o:Option Value}(r:RelO (some v) o):∃u,o=some u/\RelV v u:=by
 cases o with
 | none=>exact(show False from r).elim
 | some u=>exact⟨u,rfl,r⟩
section
variable{fs fs':List (Str×V)}
theorem zF8(hok:HOk P w H h)(e:H a=some (.ins C dx fs)):∃mA,ObjM h a dx C mA/\(∀f,RelO (fs.lookup f) (mA f))/\PySem.Within mA (fs.map (·.1))/\fs.length<=1000/\H dx=some (.own a):=by
 obtain⟨d,z,ne,ob,mA,n,r,q⟩:=(show ObjOk P w H h a (.ins C dx fs) from hok a _ e);exact⟨mA,⟨ob,n,ne⟩,r,q,z,d⟩
end
structure Cls(K:K1)(C:Addr):Prop where
 pg:Z1m K C Str.empty=true
 hd:PySem.W.hasDictIn K C=true
 po:PySem.W.plainOver K C=true
 sa:Z2c K (.ref C) "__setattr__" = some (some (.builtin "object.__setattr__"))
theorem Cls.get(c:Cls K C)(f:Str):Z1m K C f=true:=c.pg
section
variable{c:Value}{b:Bool}
inductive TyOf(K:K1)(H:Hp):V->Value->Prop where
 | non:TyOf K H .non (.type "NoneType")
 | bl (x:Bool):TyOf K H (.bl x) (.type "bool")
 | int (i:Int):TyOf K H (.int i) (.type "int")
 | str (x:Str):TyOf K H (.str x) (.type "str")
 | flt (x:UInt64):TyOf K H (.flt x) (.type "float")
 | lst {a:Addr} {xs:List V} (e:H a=.(l xs)):TyOf K H (.ref a) (.type "list")
 | frz {a:Addr} {o:Obj} {xs:List V} (e:H a=some (.frz o (.lst xs))):TyOf K H (.ref a) (.type "list")
 | tup {a:Addr} {xs:List V} (e:H a=.(g xs)):TyOf K H (.ref a) (.type "tuple")
 | dK {a:Addr} {kvs:List (Key×V)} (e:H a=some (.dK kvs)):TyOf K H (.ref a) (.type "dict")
 | dT {a:Addr} {kvs:List (List Key×V)} (e:H a=some (.dT kvs)):TyOf K H (.ref a) (.type "dict")
 | ins {a C dx:Addr} {fs:List (Str×V)} (e:H a=some (.ins C dx fs)) (cl:Cls K C) (ha:Z2c K (.ref C) "__class__" = some (some (.builtin "object.__class__")))
  (hn:PySem.W.specialIn K (.builtin "object.__class__") "__get__" = some (some (.builtin "getset_descriptor.__get__"))) (htk:PySem.W.takesIn K (.builtin "object.__class__")=some true)
  (hm:PySem.W.mroIn K C (.type "object")=some true):TyOf K H (.ref a) (.ref C)
theorem ze0{x:V}{t:Value}(I:Inv X pins σ H s)(rx:RelV x u)(ty:TyOf X.K H x t)(e:K5q X.K t c=some b)(h:∀tk,Q (.bool b) { s with toks:=tk }):
 wpAny .(8) A (call (.builtin "isinstance") [u,c]) Q E s:=by
 cases ty with
 | non=>cases (show u=K2h from rx);exact K1l PySem.W.kitx_none I.kIn K3b e (λz=>nomatch z) h
 | bl y=>cases (show u=K6p y from rx);exact K1l PySem.W.kitx_bool I.kIn K3b e (λz=>nomatch z) h
 | int i=>obtain⟨t,q⟩:=(show ∃t,u=K61 i t from rx);cases q;exact K1l PySem.W.kitx_int I.kIn K3b e (λz=>nomatch z) h
 | str y=>obtain⟨t,q⟩:=(show ∃t,u=K9b y t from rx);cases q;exact K1l PySem.W.kitx_str I.kIn K3b e (λz=>nomatch z) h
 | flt y=>obtain⟨t,q⟩:=(show ∃t,u=Value.float y t from rx);cases q;exact K1l PySem.W.kitx_float I.kIn K3b e (λz=>nomatch z) h
 | @lst a xs ea=>
  cases (show u=K1f a from rx);obtain⟨_,_,n,_,h1⟩:=(show ObjOk X.prog X.w H s.heap a (.lst xs) from I.hok a _ ea);exact K1l K7d I.kIn ⟨_,h1,rfl⟩ e (λz=>nomatch z) h
 | @frz a ob xs ea=>
  cases (show u=K1f a from rx);obtain⟨_,_,_,n,_,h1⟩:=(show ObjOk X.prog X.w H s.heap a (.frz ob (.lst xs)) from I.hok a _ ea);exact K1l K7d I.kIn ⟨_,h1,rfl⟩ e (λz=>nomatch z) h
 | @tup a xs ea=>
  cases (show u=K1f a from rx);obtain⟨_,_,_,p⟩:=(show ObjOk X.prog X.w H s.heap a (.tup xs) from I.hok a _ ea);obtain⟨o,h1,h2,_⟩:=p;exact K1l K9r I.kIn ⟨o,h1,h2.1⟩ e (λz=>nomatch z) h
 | @dK a kvs ea=>
  cases (show u=K1f a from rx);obtain⟨_,_,vs,_,p⟩:=(show ObjOk X.prog X.w H s.heap a (.dK kvs) from I.hok a _ ea);obtain⟨o,es,ep,h1,h2,_⟩:=p;exact K1l K7e I.kIn ⟨o,h1,h2.1⟩ e (λz=>nomatch z) h
 | @dT a kvs ea=>
  cases (show u=K1f a from rx);obtain⟨_,_,xs,_,o,es,ep,h1,h2,_⟩:=(show ObjOk X.prog X.w H s.heap a (.dT kvs) from I.hok a _ ea);exact K1l K7e I.kIn ⟨o,h1,h2.1⟩ e (λz=>nomatch z) h
 | @ins a C dx fs ea cl ha hn htk hm=>
  cases (show u=K1f a from rx);obtain⟨mA,O,_⟩:=zF8 I.hok ea;obtain⟨od,J,_⟩:=O.look;exact K1l (PySem.W.kitx_own (cl.get _) cl.hd ha hn htk hm) I.kIn J e (λz=>nomatch z) h
end
structure Room(k:Nat)(A:Around):Prop where
 hd:A.handled=none
 dp:A.depth+3 * k+5<recursionLimit
 un:A.units+16 * k+200<cLine
 gd:A.guards=some []
theorem Room.mono{j k:Nat}(r:Room k A)(h:j<=k):Room j A:=⟨r.hd,by have:=r.dp;omega,by have:=r.un;omega,r.gd⟩
theorem Room.deeper{k:Nat}{A:Around}(r:Room (k+1) A)(env:Env):Room k (A.deeper env):=
 ⟨r.hd,by have:=r.dp;show A.depth+1+3 * k+5<_;omega,by have:=r.un;show A.units+3+16 * k+200<_;omega,r.gd⟩
theorem Room.depth{k:Nat}{A:Around}(r:Room k A):A.depth<recursionLimit:=by have:=r.dp;omega
theorem Room.units{k:Nat}{A:Around}(r:Room k A):A.units+64<cLine:=by have:=r.un;omega
def tNil:TA:=λ_ H Q=>Q [] H
def zm1(ta:TE)(tr:TA):TA:=λσ H Q=>ta σ H λx H1=>tr σ H1 λxs H2=>Q (x::xs) H2
section
variable{t:TA}
theorem z2m:PA X [] tNil:=λ_ _ _ _ H Q I h=>Calls.spliced_nil ⟨[],H,I,.nil,h⟩
theorem z0P(ha:PE X e te)(hr:PA X es t)(hs:K09 (e::es) X.env=(false,eval e X.env)::K09 es X.env:=by rfl):PA X (e::es) (zm1 te t):=by
 intro pos pins s σ H Q I h;rw[hs];show wpAny _ _ (Z26 ((false,eval e X.env)::backTo pos (K09 es X.env))) _ _ s;refine Calls.spliced_cons (thn .(Z) λu s1 ⟨x,H1,I1,r1,q1⟩=>?_);exact thn (hr pos pins s1 σ H1 _ I1 q1) λus s2 ⟨xs,H2,I2,r2,q2⟩=>⟨x::xs,H2,I2,.cons r1 r2,q2⟩
def tTup(t:TA):TE:=λσ H Q=>t σ H λxs H1=>xs.length<=sizeLine/\∀p,H1 p=none->Q (.ref p) (upd H1 p (.tup xs))
def tLst(t:TA):TE:=λσ H Q=>t σ H λxs H1=>xs.length<=sizeLine/\∀p,H1 p=none->Q (.ref p) (upd H1 p (.lst xs))
theorem zY7{x1}(h:PA X es t):PE X (.Tuple es x1 pos) (tTup t):=by
 intro pins s σ H Q I hq;refine wpAny_Tuple_spliced (thn (h pos pins s σ H _ I hq) λus s1 ⟨xs,H1,I1,r,z,q⟩=>⟨by rw[<- r.length];exact z,?_⟩);have hf:H1 .(k)=none:=I1.hok.fresh (K05 _);refine⟨.ref .(k),upd H1 .(k) (.tup xs),I1.laid (t':=s1.toks) (λb u e=>K8 _ e) (K05 _) ?_,rfl,q _ hf⟩;exact⟨z,us,r,⟨_,K0b _ rfl,⟨rfl,rfl⟩,_,rfl⟩⟩
theorem zX9(h:PA X es t):PE X (.List es pos) (tLst t):=by
 intro pins s σ H Q I hq;refine wpAny_List_spliced (thn (h pos pins s σ H _ I hq) λus s1 ⟨xs,H1,I1,r,z,q⟩=>⟨by rw[<- r.length];exact z,?_⟩);have hf:H1 .(k)=none:=I1.hok.fresh (K05 _);refine⟨.ref .(k),upd H1 .(k) (.lst xs),I1.laid (t':=s1.toks) (λb u e=>K8 _ e) (K05 _) ?_,rfl,q _ hf⟩;exact⟨z,us,0,r,K0b _ rfl⟩
end
abbrev Sp:=List V->Hp->VK->XK->Prop
abbrev CXT:=List Env->Hp->Shared->XK->Value->Shared->Prop
variable{CX:CXT}
structure Env0(P:K1a)(w:World)(K:K1)(mg:Str->Option Value)(base:Heap)(A:Around)(outer:List Env)(s:Shared)(H:Hp):Prop where
 frames:A.frames=some outer
 mod:Mod K mg base
 bs:∀b o,base.get? b=some o->s.heap.get? b=some o/\H b=none
 bsz:base.objs.size<=.(4)
 funs:s.heap.FunFrames base outer
 frf:∀b∈frs outer,H b=none
 hok:HOk P w H s.heap
 bare:K5v s.gens
def CE(outer:List Env)(P:K1a)(w:World)(H:Hp)(s:Shared)(Q:VK)(u:Value)(s':Shared):Prop:=
 ∃v H',s'.os=s.os/\K5v s'.gens/\Un (frs outer) [] H H' s.heap s'.heap/\HOk P w H' s'.heap/\RelV v u/\Q v H'
def CR(CX:CXT)(outer:List Env)(P:K1a)(w:World)(H:Hp)(s:Shared)(Q:VK)(E:XK)(r:Result)(s':Shared):Prop:=
 match r with
 | .ok (.ret u)=>CE outer P w H s Q u s'
 | .ok _=>False
 | .error e=>CX outer H s E e s'
structure FnOk(P:K1a)(w:World)(K:K1)(mg:Str->Option Value)(base:Heap)(CX:CXT)(k:Nat)(f:Addr)(fd:K4x)(ps:List Str)(sp:Sp):Prop where
 len:∀vs H Q E,sp vs H Q E->vs.length=ps.length
 run:∀(A:Around) (outer:List Env) (s:Shared) (H:Hp) (args:Args) (us:List Value) (vs:List V) (Q:VK) (E:XK),Room k A->Env0 P w K mg base A outer s H->Z1c s fd args (ps.zip us)->Vals vs us->sp vs H Q E ->
  K5s (model P w) A (.call (.ref f) args) (CR CX outer P w H s Q E) s
theorem FnOk.imp{k:Nat}{f:Addr}{sp sp':Sp}(F:FnOk P w K mg base CX k f fd ps sp)
 (h:∀vs H Q E,sp' vs H Q E->sp vs H Q E):FnOk P w K mg base CX k f fd ps sp':=
 ⟨λvs H Q E q=>F.len vs H Q E (h _ _ _ _ q),λA outer s H args us vs Q E hr he hb hv hs=>F.run A outer s H args us vs Q E hr he hb hv (h _ _ _ _ hs)⟩
theorem Inv.env0(I:Inv X pins σ H s):Env0 X.prog X.w X.K X.mg X.base X.A X.stack s H:=
 ⟨I.ok.frames,I.ok.mod,I.bs,K0z I.ok.bsz I.sz,I.stack,I.stkFree,I.hok,I.bare⟩
theorem Inv.after{Q:VK}(I:Inv X pins σ H s)(h:CE X.stack X.prog X.w H s Q u s'):EP X pins σ Q u s':=by
 obtain⟨v,H',os,bare,un,hok,r,q⟩:=h;obtain⟨hh,g,d,t,os'⟩:=s';obtain rfl:os'=s.os:=os;exact⟨v,H',I.call (h':=hh) (g':=g) (d':=d) (t':=t) (ch:=[]) un hok bare (λb z=>absurd z .(f)),r,q⟩
def Z0X(sp:Sp)(dvs:List V)(E:XK)(t:TA):TE:=λσ H Q=>t σ H λvs H1=>sp (vs++dvs) H1 Q E
def Binds(K:K1)(fd:K4x)(ps:List Str)(ds:List Value):Prop:=
 ∀(s:Shared) (us:List Value),K.In s.heap->(us++ds).length=ps.length->Z1c s fd ⟨us,[]⟩ (ps.zip (us++ds))
theorem Binds.all(h:∀us:List Value,us.length=ps.length->bindArgs fd ⟨us,[]⟩=pure (ps.zip us)):Binds K fd ps []:=λs us _ hl=>by
 rw[K1d]at hl ⊢;exact .of_eq (h us hl)
def zb1(CX:CXT)(X:Cx)(E:XK):Prop:=∀(pins:List .(A)) (σ:St) (H:Hp) (s:Shared) (e:Value) (s':Shared),Inv X pins σ H s->CX X.stack H s E e s'->X.xe e s'
section
variable{k:Nat}{f:Addr}{sp:Sp}{dvs:List V}{E:XK}{m:Str}{apos:Pos}{o:Expr}{t:TA}
theorem zS3{pins:List .(A)}{σ:St}{H:Hp}{s:Shared}{Q:VK}{us:List Value}{vs:List V}(F:FnOk X.prog X.w X.K X.mg X.base CX k f fd ps sp)(hr:Room k X.A)(hb:Binds X.K fd ps ds)(hd:Vals dvs ds)(hx:zb1 CX X E)
 (I:Inv X pins σ H s) (r:Vals vs us) (h:sp (vs++dvs) H Q E):wpAny .(8) X.A (call (.ref f) us) (EP X pins σ Q) X.xe s:=by
 have r2:Vals (vs++dvs) (us++ds):=r.append hd;have hl:(us++ds).length=ps.length:=by rw[<- r2.length];exact F.len _ _ _ _ h
 refine wpAny_call (K42 (F.run X.A X.stack s H ⟨us,[]⟩ (us++ds) (vs++dvs) Q E hr I.env0 (hb s us I.kIn hl) r2 h) λr s' hq=>?_);cases r with
 | error e=>exact hx pins σ H s e s' I hq
 | ok fl=>
  cases fl with
  | ret u=>exact I.after hq
  | next=>exact K28 hq
  | brk=>exact K28 hq
  | cont=>exact K28 hq
theorem zF0(F:FnOk X.prog X.w X.K X.mg X.base CX k f fd ps sp)(hr:Room k X.A)(hg:Gl X x)(hm:X.mg x=.(r f))(hk:K3n X.K (.ref f)=true)(hb:Binds X.K fd ps ds)(hd:Vals dvs ds)(hx:zb1 CX X E)
 (ha:PA X (e::es) t) (hdb:.(16)=false:=by decide) (he:K09 (e::es) X.env=(false,eval e X.env)::K09 es X.env:=by rfl) (hpl:(backTo pos (K09 es X.env)).any (·.1)=false:=by rfl) :
 PE X (.Call (.Name x p) (e::es) [] pos) (Z0X sp dvs E t):=by
 intro pins s σ H Q I h;refine K5g (z5W I hg hm ?_ hdb);refine K9s (h₀:=X.base) I.ok.mod.kin hk (thn (ha pos pins s σ H _ I h) λus s1 ⟨vs,H1,I1,r,q⟩=>⟨I1.kIn,?_⟩) he hpl;exact zS3 F hr hb hd hx I1 r q
end
structure FnScope(N P:List Str)(sc:Scope):Prop where
 kind:sc.kind=.function
 co:sc.isCoroutine=false
 gen:sc.isGenerator=false
 nd:N.Nodup
 pre:N.take P.length=P
 par:∀x∈P,sc.names.lookup x=some .local\/sc.names.lookup x=some .cell
 nofree:∀y∈sc.names,y.2≠.free
theorem z6D{kindOf:Str->Option K5r}{x:Str}:∀{binds:List (Str×Value)}{m:Str->Option Value},(∀v,(x,v)∉binds)->bindL kindOf binds m x=m x
 | [],_,_=>rfl
 | (n,v)::r,m,h=>by
  unfold bindL;rw[z6D λw hw=>h w (K13 _ hw)];split
  ·have:x≠n:=by rintro rfl;exact h v K1e
   simp[this]
  ·rfl
theorem z7u{kindOf:Str->Option K5r}{x:Str}:∀{binds:List (Str×Value)}{m:Str->Option Value},(∀v,(x,v)∉binds)->bindC kindOf binds m x=m x
 | [],_,_=>rfl
 | (n,v)::r,m,h=>by
  unfold bindC;rw[z7u λw hw=>h w (K13 _ hw)];split
  ·rfl
  ·have:x≠n:=by rintro rfl;exact h v K1e
   simp[this]
theorem z7d{kindOf:Str->Option K5r}{x:Str}{v:Value}:∀{P:List Str}{vs:List Value}{i:Nat}{m:Str->Option Value},P.Nodup->P[i]?=some x->vs[i]?=some v->kindOf x=some .local ->
 bindL kindOf (P.zip vs) m x=some v
 | [],_,_,_,_,h,_,_=>by simp at h
 | _::_,[],_,_,_,_,h,_=>by simp at h
 | p::P,w::vs,0,m,nd,h1,h2,hk=>by
  simp at h1 h2;subst h1;subst h2;show bindL kindOf ((p,w)::P.zip vs) m p=_;unfold bindL;rw[z6D λv hv=>(K6c.mp nd).1 (K8v hv).1,if_pos hk];simp
 | p::P,w::vs,i+1,m,nd,h1,h2,hk=>by
  show bindL kindOf ((p,w)::P.zip vs) m x=_;unfold bindL;exact z7d (i:=i) (K6c.mp nd).2 (by simpa using h1) (by simpa using h2) hk
theorem z7A{kindOf:Str->Option K5r}{x:Str}{v:Value}:∀{P:List Str}{vs:List Value}{i:Nat}{m:Str->Option Value},P.Nodup->P[i]?=some x->vs[i]?=some v->kindOf x≠some .local ->
 bindC kindOf (P.zip vs) m x=some v
 | [],_,_,_,_,h,_,_=>by simp at h
 | _::_,[],_,_,_,_,h,_=>by simp at h
 | p::P,w::vs,0,m,nd,h1,h2,hk=>by
  simp at h1 h2;subst h1;subst h2;show bindC kindOf ((p,w)::P.zip vs) m p=_;unfold bindC;rw[z7u λv hv=>(K6c.mp nd).1 (K8v hv).1,if_neg hk];simp
 | p::P,w::vs,i+1,m,nd,h1,h2,hk=>by
  show bindC kindOf ((p,w)::P.zip vs) m x=_;unfold bindC;exact z7A (i:=i) (K6c.mp nd).2 (by simpa using h1) (by simpa using h2) hk
def start(N:List Str)(vs:List V):St:=vs.map some++K0c (N.length - vs.length) none
def cxOf(CX:CXT)(P:K1a)(w:World)(K:K1)(mg:Str->Option Value)(base:Heap)(N:List Str)(qual:Str)(scope:Scope)(f:Addr)(cd:Value)(A:Around)(outer:List Env)(s:Shared)(H:Hp)(E:XK):Cx where
 prog:=P
 w:=w
 K:=K
 mg:=mg
 base:=base
 A:=A.deeper (envOfC qual scope .(4) f cd)
 N:=N
 s₀:=s
 H₀:=H
 env:=envOfC qual scope .(4) f cd
 outer:=outer
 stack:=envOfC qual scope .(4) f cd::outer
 ex:=[]
 calm:=true
 fn:=λ_=>true
 pn:=[]
 xe:=λe s'=>wpAny (model P w) (A.deeper (envOfC qual scope .(4) f cd)) (leaving (envOfC qual scope .(4) f cd) e) (λ_ s''=>CX outer H s E e s'') (λe' s''=>CX outer H s E e' s'') s'
theorem z8Q{sc:Scope}(h:sc.names.lookup x=some .cell):∃c,(cellsFrom n sc.names []).lookup x=some c:=by
 have q:=K8l sc.names n [] (.inl h);exact Option.isSome_iff_exists.mp q
theorem z9N{CX:CXT}{P:K1a}{w:World}{K:K1}{mg:Str->Option Value}{base:Heap}{N ps:List Str}{qual:Str}{scope:Scope}{f:Addr}{cd:Value}{A:Around}{outer:List Env}{s s1:Shared}{H:Hp}{E:XK}{us:List Value}{vs:List V}
 (S:FnScope N ps scope) (hd:A.handled=none) (e0:Env0 P w K mg base A outer s H) (hl:vs.length=ps.length) (r:Vals vs us)
 (x:InCallC s s.heap.objs.size (bindL (envOfC qual scope s.heap.objs.size f cd).kindOf (ps.zip us) λ_=>none) (cellsFrom (s.heap.objs.size+1) scope.names []) (bindC (envOfC qual scope s.heap.objs.size f cd).kindOf (ps.zip us) λ_=>none) s1) :
 Inv (cxOf CX P w K mg base N qual scope f cd A outer s H E) [] (start N vs) H s1:=by
 have hpl:ps.length<=N.length:=by have:=congrArg Z1y S.pre;rw[K19]at this;omega
 obtain⟨h1,tk,rfl,hk⟩:=x.done;have noA:∀b:Addr,b∉(cxOf CX P w K mg base N qual scope f cd A outer s H E).ex:=λb z=>absurd (show b∈([]:List Addr) from z) .(f);refine⟨⟨e0.mod,S.kind,rfl,rfl,K05 _,λy z c h1 h2=>?_,λy hy=>?_,λy c _ h=>?_,λ_=>hd,Around.frames_deeper e0.frames,.inr ⟨rfl,rfl⟩,λb z=>absurd z (noA b),e0.bs,e0.bsz,λb _ _=>noA b,λb z=>absurd z (noA b),e0.funs,e0.frf⟩,
  rfl,e0.bare,Un.kept hk,⟨_,x.toInCall.ns,λi y v h1 h2 h3=>?_⟩,λy c h=>⟨_,x.cell y c h⟩,e0.hok.fresh (K05 _),λy c h=>?_,λp hp=>absurd (show p∈([]:List .(A)) from hp) .(f),e0.hok.kept hk,?_⟩
 ·exact name_of_addr x.apart (K2b h1) (K2b h2)
 ·have hy:scope.names.lookup y=some .cell\/scope.names.lookup y=some .free:=hy;rcases hy with hy|hy
  ·exact z8Q hy
  ·exact absurd rfl (S.nofree _ (K2b hy))
 ·exact K2f (x.above y c (K2b h))
 ·have hi:i<vs.length:=by
   unfold start at h2;by_cases hi:i<vs.length
   ·exact hi
   ·rw[K1i (by simpa using hi)]at h2;rw[K2k]at h2;split at h2<;>cases h2
  have ha:vs[i]?=some v:=by
   unfold start at h2;rw[K0n (by simpa using hi),K04]at h2;cases e:vs[i]? with
   | none=>rw[e]at h2;cases h2
   | some a=>rw[e]at h2;cases h2;rfl
  obtain⟨u,hu,rv⟩:=r.get ha;have hp:ps[i]?=some y:=by
   rw[<- S.pre,K7v .(1)];exact h1
  have ndP:ps.Nodup:=by rw[<- S.pre];exact S.nd.sublist (List.take_sublist _ _)
  refine⟨u,rv,?_⟩;rcases S.par y (K06 hp) with k|k
  ·exact .inl ⟨k,z7d ndP hp hu k⟩
  ·obtain⟨c,e⟩:=z8Q (n:=.(4)+1) k;refine .inr ⟨.inl k,c,e,?_⟩;have q:=x.cell y c e;rw[z7A ndP hp hu (by show scope.names.lookup y≠_;rw[k];decide)]at q;exact q
 ·exact e0.hok.fresh (K2f (x.above y c (K2b h)))
 ·unfold start;show _=N.length;rw[K02,K03,List.length_replicate];omega
theorem zD3{CX:CXT}{P:K1a}{w:World}{K:K1}{mg:Str->Option Value}{base:Heap}{k:Nat}{f:Addr}{name qual:Str}{params:Arguments}{body:List Stmt}{scope:Scope}{dV kV doc pm cdv ct oc:Value}{an od:Option Addr}
 {osl:Array (Option Value)} {N ps:List Str} {sp:Sp} (lk:K.lookup f=some ⟨oc,od,.func (K3z name qual params body scope dV kV doc pm an cdv ct),osl⟩) (hcd:K34 K cdv qual=true) (S:FnScope N ps scope)
 (len:∀vs H Q E,sp vs H Q E->vs.length=ps.length)
 (hbody:∀(A:Around) (outer:List Env) (s:Shared) (H:Hp) (vs:List V) (Q:VK) (E:XK),Room k (A.deeper (envOfC qual scope .(4) f cdv))->sp vs H Q E ->
  ∃t,PSs (cxOf CX P w K mg base N qual scope f cdv A outer s H E) body t/\t { nx:=λ_ H'=>Q .non H',rt:=Q } (start N vs) H) :
 FnOk P w K mg base CX (k+1) f (K3z name qual params body scope dV kV doc pm an cdv ct) ps sp:=by
 refine⟨len,λA outer s H args us vs Q E hr e0 hb r hsp=>?_⟩;have hl:=len _ _ _ _ hsp;have KX:K.In s.heap:=e0.mod.kin.keeps λb o e=>(e0.bs b o e).1;have lim:s.heap.NoLimit:=e0.mod.nolimit.keeps λb o e=>(e0.bs b o e).1;have hkind:∀y∈ps.zip us,scope.names.lookup y.1=some .local\/(scope.names.lookup y.1=some .cell/\((cellsFrom (s.heap.objs.size+1) scope.names []).lookup y.1).isSome=true):=λ⟨n,v⟩ hy=>by
  rcases S.par n (K8v hy).1 with q|q
  ·exact .inl q
  ·exact .inr ⟨q,K8l _ _ _ (.inl q)⟩
 refine codeAny_call_function hr.depth (KX _ _ lk) rfl S.co S.gen rfl (PySem.W.codeRec_of KX hcd) (hb _ _ _ _ ?_);refine wpAny_newFunctionEnv_cells S.kind hkind λenv he s1 x=>?_;subst he;refine⟨lim.keeps x.toInCall.keep,codeAny_func ?_⟩;obtain⟨t,ht,hq⟩:=hbody A outer s H vs Q E (hr.deeper _) hsp;have I:Inv (cxOf CX P w K mg base N qual scope f cdv A outer s H E) [] (start N vs) H s1:=z9N S hr.hd e0 hl r x;refine K2i (ht [] s1 (start N vs) H _ I hq) (λfl s' hs=>?_) λe s' hs=>hs;have fin:∀{σ':St} {H':Hp} {v:V} {u:Value},Inv (cxOf CX P w K mg base N qual scope f cdv A outer s H E) [] σ' H' s'->RelV v u->Q v H'->CE outer P w H s Q u s':=
  λ{σ' H' v u} J rv q=>⟨v,H',J.os,J.bare,J.base,J.hok,rv,q⟩
 cases fl with
 | ret u=>
  obtain⟨v,σ',H',J,rv,q⟩:=hs;exact fin J rv q
 | next=>
  obtain⟨σ',H',J,q⟩:=hs;exact fin (v:=V.non) (u:=K2h) J rfl q
 | brk=>
  obtain⟨_,_,_,q⟩:=hs;exact K28 q
 | cont=>
  obtain⟨_,_,_,q⟩:=hs;exact K28 q
section
variable{t:TA}{id T:String}
def tCB(r:List V->Hp->VK->Prop)(t:TA):TE:=λσ H Q=>t σ H λvs H1=>r vs H1 Q
theorem z1I(hc:z2W X (.builtin id) r)(hg:Gl X x)(hm:X.mg x=none)(hv:K51 x=some (.builtin id))(ha:PA X (e::es) t)(hn:x≠"__name__":=by decide)(hdb:.(16)=false:=by decide)
 (he:K09 (e::es) X.env=(false,eval e X.env)::K09 es X.env:=by rfl) (hpl:(backTo pos (K09 es X.env)).any (·.1)=false:=by rfl):PE X (.Call (.Name x p) (e::es) [] pos) (tCB r t):=by
 intro pins s σ H Q I h;refine K5g (z5B I hg hm hv ?_ hn hdb);exact PyProof.Rows.callWith_builtin1 (thn (ha pos pins s σ H _ I h) λus s1 ⟨vs,H1,I1,r1,q1⟩=>hc pins s1 σ H1 vs us Q I1 r1 q1) he hpl
theorem z1m(hc:z2W X (.type T) r)(hg:Gl X x)(hm:X.mg x=none)(hv:K51 x=some (.type T))(ha:PA X (e::es) t)(hn:x≠"__name__":=by decide)(hdb:.(16)=false:=by decide)
 (he:K09 (e::es) X.env=(false,eval e X.env)::K09 es X.env:=by rfl) (hpl:(backTo pos (K09 es X.env)).any (·.1)=false:=by rfl):PE X (.Call (.Name x p) (e::es) [] pos) (tCB r t):=by
 intro pins s σ H Q I h;refine K5g (z5B I hg hm hv ?_ hn hdb);exact K3g (thn (ha pos pins s σ H _ I h) λus s1 ⟨vs,H1,I1,r1,q1⟩=>hc pins s1 σ H1 vs us Q I1 r1 q1) he hpl
end
end L2
namespace HT
open PySem PyProof.Rows
variable{E Q:Value->Shared->Prop}{sl:Addr}{vl vu:Value}{lo hi:Option Int}
section
variable{prog:K1a}{w:World}{A:Around}{s:Shared}
theorem cat_tup{t b:Addr}{vs ws:List Value}{Q:Value->Shared->Prop}(ht:IsTup s.heap t vs.toArray)(hb:IsTup s.heap b ws.toArray)(hv:vs≠[])
 (h1:ws=[]->Q (.ref t) s) (h2:ws≠[]->Q (.ref .(4)) { s with heap:=s.heap.push { cls:=.type "tuple",data:=.seq (vs++ws).toArray } })
 (hsz:vs.length+ws.length<=sizeLine):wpAny (model prog w) A (K3e .Add (.ref t) (.ref b)) Q E s:=by
 obtain⟨⟨cls,dd,data,sl⟩,ho,hc,n,hd⟩:=id ht;obtain⟨⟨cls2,dd2,data2,sl2⟩,ho2,hc2,n2,hd2⟩:=id hb;simp only at hc hd hc2 hd2;subst hc hd hc2 hd2;have e:vs.toArray++ws.toArray=(vs++ws).toArray:=by simp
 by_cases hw:ws=[]
 ·exact Z1h ⟨_,ho,rfl⟩ ⟨_,ho2,rfl⟩ K89 K9l K5t K5l (K59 _ _)
   (tuple_addW1 t b vs.toArray ws.toArray n n2 dd dd2 sl sl2 (by simpa using hv) (by simp[hw])) ⟨ho,ho2,h1 hw⟩
 ·refine Z1h ⟨_,ho,rfl⟩ ⟨_,ho2,rfl⟩ K89 K9l K5t K5l (K59 _ _)
   (tuple_addW2 t b vs.toArray ws.toArray n n2 dd dd2 sl sl2 (by simpa using hv) (by simpa using hw) (by rw[K07,K07];exact hsz)) ⟨ho,ho2,?_⟩
  rw[e];exact h2 hw
def sIx(n d:Nat):Option Int->Nat
 | none=>d
 | some v=>if v<0 then (v+(n:Int)).toNat else min v.toNat n
theorem sIx_none(n d:Nat):sIx n d none=d:=rfl
theorem sIx_nat(n d k:Nat):sIx n d (some (k:Int))=min k n:=by
 show (if (k:Int)<0 then ((k:Int)+(n:Int)).toNat else min (k:Int).toNat n)=min k n;rw[if_neg .(1),K0k]
theorem zT5(n d:Nat)(hd:d<=n)(o:Option Int):sIx n d o<=n:=by
 cases o with
 | none=>exact hd
 | some v=>
  show (if v<0 then (v+(n:Int)).toNat else min v.toNat n)<=n;by_cases hv:v<0
  ·rw[if_pos hv];omega
  ·rw[if_neg hv];exact Nat.min_le_right _ _
theorem zf2(v:Int)(n d:Nat):(if v<0 then max (v+(n:Int)) 0 else min v (n:Int))=((sIx n d (some v):Nat):Int):=by
 show (if v<0 then max (v+(n:Int)) 0 else min v (n:Int))=(((if v<0 then (v+(n:Int)).toNat else min v.toNat n):Nat):Int);by_cases hv:v<0
 ·simp only[if_pos hv];omega
 ·simp only[if_neg hv];omega
theorem z9q(lo hi:Option Int)(n:Nat):K54 lo hi 1 (n:Int)=(((sIx n 0 lo:Nat):Int),((sIx n n hi:Nat):Int)):=by
 have h1:¬ ((1:Int)<0):=by omega
 unfold K54;simp only[h1,if_false];refine Prod.ext ?_ ?_
 ·cases lo with
  | none=>rfl
  | some v=>exact zf2 v n 0
 ·cases hi with
  | none=>rfl
  | some v=>exact zf2 v n n
theorem z9m(i j:Nat):K3w (i:Int) (j:Int) 1=j - i:=by
 unfold K3w;have h1:(1:Int) > 0:=by omega
 simp only[h1,if_true,Int.ediv_one];split<;>omega
theorem z5G{v:Value}{o:Option Int}{Q:Option Int->Shared->Prop}(p:IsPart v o)(h:Q o s):wpAny (model prog w) A (Builtin.Slice.slicePartIndex v) Q E s:=by
 cases p with
 | none=>exact slicePart_none h
 | int i t=>exact slicePart_int h
theorem sliceApplied_gen{n:Nat}{Q:Int×Int×Nat->Shared->Prop}(hs:s.heap.IsSliceOf sl vl vu .none)(pl:IsPart vl lo)(pu:IsPart vu hi)
 (h:Q (((sIx n 0 lo:Nat):Int),1,sIx n n hi - sIx n 0 lo) s):wpAny (model prog w) A (K6v (.ref sl) (pure (n:Int))) Q E s:=by
 obtain⟨os,hos,hcs,hds⟩:=id hs;unfold K6v Builtin.Slice.sliceFields;refine K0 (K0 (K4v hos hds (x:=vl) rfl (K0 (K4v hos hds (x:=vu) rfl (K0 (K4v hos hds (x:=.none) rfl (K9 ?_)))))));refine K0 (slicePart_none ?_);show wpAny _ _ (if ((1:Int)==0)=true then _ else _) _ _ s;rw[if_neg .(0)];refine K0 (z5G pl (K0 (z5G pu (K0 (K9 ?_)))));show wpAny _ _ (match K54 lo hi 1 (n:Int) with|(lo,hi)=>pure (lo,(1:Int),K3w lo hi 1)) _ _ s;rw[z9q lo hi n];show wpAny _ _ (pure (((sIx n 0 lo:Nat):Int),(1:Int),K3w ((sIx n 0 lo:Nat):Int) ((sIx n n hi:Nat):Int) 1)) _ _ s;rw[z9m];exact K9 h
theorem zm0(xs:Array Value)(i k:Nat):((K7 k).filterMap λ(m:Nat)=>xs[((i:Int)+(m:Int) * 1).toNat]?).toArray=((xs.toList.drop i).take k).toArray:=by
 have e:(λ(m:Nat)=>xs[((i:Int)+(m:Int) * 1).toNat]?)=λm=>xs[i+m]?:=by
  funext m;have:((i:Int)+(m:Int) * 1).toNat=i+m:=by omega
  rw[this]
 rw[e];have:=pick_run xs i k;rw[K6w]at this;have e2:((λx=>xs[x]?) ∘ λx=>i+x)=λm=>xs[i+m]?:=rfl;rw[e2]at this;rw[this]
theorem getItem_tuple_cut{t:Addr}{items:Array Value}{Q:Value->Shared->Prop}(ht:IsTup s.heap t items)(hs:s.heap.IsSliceOf sl vl vu .none)(pl:IsPart vl lo)(pu:IsPart vu hi)
 (hw:¬ (sIx .(D) 0 lo=0/\sIx .(D) .(D) hi=.(D)))
 (h:Q (.ref .(4)) { s with heap:=s.heap.push { cls:=.type "tuple",data:=.seq ((items.toList.drop (sIx .(D) 0 lo)).take (sIx .(D) .(D) hi - sIx .(D) 0 lo)).toArray } })
 (hsz:.(D)<=sizeLine):wpAny (model prog w) A (K6l (.ref t) (.ref sl)) Q E s:=by
 have htake:sizeOk (.seq ((items.toList.drop (sIx .(D) 0 lo)).take (sIx .(D) .(D) hi - sIx .(D) 0 lo)).toArray):=by
  show ((items.toList.drop (sIx .(D) 0 lo)).take (sIx .(D) .(D) hi - sIx .(D) 0 lo)).toArray.size<=sizeLine;rw[K07,K19,K83,K18];omega
 have hj:sIx .(D) .(D) hi<=items.size:=zT5 _ _ (K05 _) hi;obtain⟨os,hos,hcs,hds⟩:=id hs;have hTs:s.TypeIs (.ref sl) "slice":=⟨os,hos,hcs⟩;unfold K6l
 try with_reducible refine K1z ?_
 first|refine K0 (K9 ?_)|skip
 refine K0 (wpAny_sequenceKey ht.typeIs .(0) ?_);refine K0 (K2l (name:=K01 "__getitem__") ht.typeIs K1q
  (K20 K1q ht.typeIs K9i ?_ (args_tuple_getitem _ _)))
 show wpAny _ _ (K6t (.ref t) >>= _) _ _ s;refine K0 (tupleItemsOf_ ht ?_);refine K0 (K5u hTs ?_);rw[if_pos .(0)];refine K0 (sliceApplied_gen hs pl pu ?_);have hno:¬ ((((sIx .(D) 0 lo:Nat):Int)==0&&(1:Int)==1&&(sIx .(D) .(D) hi - sIx .(D) 0 lo)==.(D))=true):=by
  intro q;rw[K0i,K0i]at q;have q1:((sIx .(D) 0 lo:Nat):Int)=0:=eq_of_beq q.1.1;have q2:sIx .(D) .(D) hi - sIx .(D) 0 lo=items.size:=eq_of_beq q.2;exact hw ⟨by omega,by omega⟩
 show wpAny _ _ (if (((sIx .(D) 0 lo:Nat):Int)==0&&(1:Int)==1&&(sIx .(D) .(D) hi - sIx .(D) 0 lo)==.(D))=true then _ else _) _ _ s;rw[if_neg hno,zm0]
 first
  | exact K0 (m:=K2c _) (K1b (K9 ⟨_,rfl,K9 h⟩) htake)
  | exact K0 (m:=K2c _) (K1b (K0 (K9 (K9 ⟨_,rfl,K9 h⟩))) htake)
  | exact K0 (K0 (m:=K2c _) (K1b (K9 (K9 ⟨_,rfl,K9 h⟩)) htake))
  | exact K0 (K0 (m:=K2c _) (K1b (K9 ⟨_,rfl,K9 h⟩) htake))
end
end HT
namespace L2
variable{X:Cx}{pos:Pos}{r r':V->Option Int->Option Int->Hp->VK->Prop}{xs ys:List V}{us its its':List Value}{α:Type}{n t':Nat}{pins:List (Addr×Obj)}{σ:St}{H:Hp}{s:Shared}{u v:Value}{T:String}
abbrev TO:=St->Hp->(Option Int->Hp->Prop)->Prop
def PO(X:Cx)(e:Option Expr)(t:TO):Prop:=
 ∀(pins:List .(A)) (s:Shared) (σ:St) (H:Hp) (Q:Option Int->Hp->Prop),Inv X pins σ H s->t σ H Q ->
  wpAny .(8) X.A (evalPart e X.env) (λu s'=>∃o H',Inv X pins σ H' s'/\IsPart u o/\Q o H') X.xe s
def zI2:TO:=λ_ H Q=>Q none H
def Z0P(t:TE):TO:=λσ H Q=>t σ H λx H1=>∃i,x=.int i/\Q (some i) H1
theorem intsAre_of{ns:List Int}:∀{us:List Value},Vals (ns.map V.int) us->K67 us ns:=by
 induction ns with
 | nil=>intro us r;rw[K6i]at r;cases r;exact .nil
 | cons n ns ih=>
  intro us r;rw[K0v]at r;cases r with
  | cons r1 r2=>
   obtain⟨t,e⟩:=r1;subst e;exact .cons n t (ih r2)
section
variable{e:Expr}{te:TE}{lo hi:Option Expr}{tl th:TO}{p2:Pos}
theorem zH6:PO X none zI2:=by
 intro pins s σ H Q I h;rw[evalPart_none];exact K9 ⟨none,H,I,.none,h⟩
theorem zA8(h:PE X e te):PO X (some e) (Z0P te):=by
 intro pins s σ H Q I hw;rw[evalPart_some];refine thn (h pins s σ H _ I hw) λu s1 ⟨x,H1,I1,r1,q1⟩=>?_;obtain⟨i,rfl,q⟩:=q1;obtain⟨t,rfl⟩:=r1;exact⟨some i,H1,I1,.int i t,q⟩
def SlR(X:Cx)(r:V->Option Int->Option Int->Hp->VK->Prop):Prop:=
 ∀(pins:List .(A)) (s:Shared) (σ:St) (H:Hp) (x:V) (v vl vu:Value) (lo hi:Option Int) (sl:Addr) (Q:VK),Inv X pins σ H s->RelV x v->s.heap.IsSliceOf sl vl vu .none->IsPart vl lo->IsPart vu hi->r x lo hi H Q ->
  ∃T id,typeLookup (.type T) "__getitem__" = pure (some (.builtin id))/\s.TypeIs v T/\wpAny .(8) X.A (K6l v (.ref sl)) (EP X pins σ Q) X.xe s
theorem SlR.or(h:SlR X r)(h':SlR X r'):SlR X (λx lo hi H Q=>r x lo hi H Q\/r' x lo hi H Q):=by
 intro pins s σ H x v vl vu lo hi sl Q I rx hs pl pu q;rcases q with q|q
 ·exact h pins s σ H x v vl vu lo hi sl Q I rx hs pl pu q
 ·exact h' pins s σ H x v vl vu lo hi sl Q I rx hs pl pu q
def tSl(r:V->Option Int->Option Int->Hp->VK->Prop)(te:TE)(tl th:TO):TE:=λσ H Q=>te σ H λx H1=>tl σ H1 λl H2=>th σ H2 λu H3=>r x l u H3 Q
theorem zr8(hr:SlR X r)(he:PE X e te)(hl:PO X lo tl)(hu:PO X hi th):PE X (.Subscript e (.Slice lo hi none p2) pos) (tSl r te tl th):=by
 intro pins s σ H Q I h;refine Subscript_ (thn (he pins s σ H _ I h) λv s1 ⟨x,H1,I1,r1,q1⟩=>?_);refine wpAny_Slice (thn (hl pins s1 σ H1 _ I1 q1) λvl s2 ⟨l,H2,I2,pl,q2⟩=>thn (hu pins s2 σ H2 _ I2 q2) λvu s3 ⟨u,H3,I3,pu,q3⟩=>?_);rw[evalPart_none];refine K9 ?_;have I4:Inv X pins σ H3 { s3 with heap:=s3.heap.push { cls:=.type "slice",data:=.fields #[vl,vu,.none] } }:=I3.kept (t':=s3.toks) λb ob q=>K8 _ q;obtain⟨T,id,hT,ht,hg⟩:=hr pins { s3 with heap:=s3.heap.push { cls:=.type "slice",data:=.fields #[vl,vu,.none] } } σ H3 x v vl vu l u s3.heap.objs.size Q I4 r1 (Heap.IsSliceOf.new ..) pl pu q3;show wpAny .(8) X.A (K9j e (.Slice lo hi none p2) v (.ref s3.heap.objs.size)) (EP X pins σ Q) X.xe { s3 with heap:=s3.heap.push { cls:=.type "slice",data:=.fields #[vl,vu,.none] } };exact tail_any (ops:=[.ref s3.heap.objs.size,v]) ht hT hg (by with_unfolding_all rfl)
def cutV(xs:List V)(lo hi:Option Int):List V:=(xs.drop (HT.sIx xs.length 0 lo)).take (HT.sIx xs.length xs.length hi - HT.sIx xs.length 0 lo)
theorem z4K(xs:List V)(lo hi:Option Int):(cutV xs lo hi).length<=xs.length:=by
 unfold cutV;rw[K19,K83];omega
def rSlT(K:K1):V->Option Int->Option Int->Hp->VK->Prop:=λx lo hi H Q=>∃a xs,x=.ref a/\SqT K H a xs /\
 ¬ (HT.sIx .(21) 0 lo=0/\HT.sIx .(21) .(21) hi=.(21))/\∀p,H p=none->Q (.ref p) (upd H p (.tup (cutV xs lo hi)))
theorem sl_tup:SlR X (rSlT X.K):=by
 intro pins s σ H x v vl vu lo hi sl Q I rx hs pl pu h;obtain⟨a,xs,rfl,hx,hw,q⟩:=h;cases rx;obtain⟨its,r,ht,hz⟩:=I.tuple hx;have hlen:its.toArray.size=xs.length:=by rw[K07];exact r.length.symm
 refine⟨"tuple",_,K1q.lookup,ht.typeIs,?_⟩;refine HT.getItem_tuple_cut ht hs pl pu (by rw[hlen];exact hw) ?_ (by rw[hlen];exact hz);rw[hlen];refine⟨.ref .(4),_,I.laid (t':=s.toks) (o:=.tup (cutV xs lo hi)) (λb ob q=>K8 _ q) (K05 _) ?_,rfl,q _ (I.hok.fresh (K05 _))⟩;exact⟨K0z (z4K xs lo hi) hz,_,(r.drop (HT.sIx .(21) 0 lo)).take (HT.sIx .(21) .(21) hi - HT.sIx .(21) 0 lo),FT.IsTup0.new _ _⟩
def zB0(K:K1):R2:=λx y H Q=>∃a b xs ys,x=.ref a/\y=.ref b/\SqT K H a xs/\SqT K H b ys/\xs≠[]/\xs.length+ys.length<=sizeLine /\
 (ys=[]->Q (.ref a) H)/\(ys≠[]->∀p,H p=none->Q (.ref p) (upd H p (.tup (xs++ys))))
theorem Vals.nil_iff(r:Vals xs us):us=[]↔xs=[]:=by
 cases r with
 | nil=>simp
 | cons _ _=>simp
theorem op_catT:OpR X (K3e .Add) (zB0 X.K):=by
 intro pins s σ H x y v u Q I rx ry h;obtain⟨a,b,xs,ys,rfl,rfl,ha,hb,hx,hz,q1,q2⟩:=h;cases rx;cases ry;obtain⟨its,r1,p1,_⟩:=I.tuple ha;obtain⟨its2,r2,p2,_⟩:=I.tuple hb;refine HT.cat_tup p1 p2 (λz=>hx (r1.nil_iff.mp z)) (λz=>⟨.ref a,H,I,rfl,q1 (r2.nil_iff.mp z)⟩) (λz=>?_) (by rw[<- r1.length,<- r2.length];exact hz);refine⟨.ref .(4),_,I.laid (t':=s.toks) (o:=.tup (xs++ys)) (λb ob q=>K8 _ q) (K05 _) ?_,rfl,q2 (λw=>z (r2.nil_iff.mpr w)) _ (I.hok.fresh (K05 _))⟩;exact⟨by rw[K02];exact hz,_,r1.append r2,FT.IsTup0.new _ _⟩
end
def ixN(n:Nat)(i:Int):Option Nat:=if 0<=i then (if i<n then some i.toNat else none) else if -(n:Int)<=i then some (i+n).toNat else none
def atI(xs:List α)(i:Int):Option α:=(ixN xs.length i).bind λj=>xs[j]?
theorem zj3{i:Int}{j:Nat}(h:ixN n i=some j):K87 i n=some j/\j<n/\-(n:Int)<=i/\i<n:=by
 unfold ixN at h;by_cases h0:0<=i
 ·rw[if_pos h0]at h;by_cases h1:i<n
  ·rw[if_pos h1]at h;have e:i.toNat=j:=K11 h;exact⟨by rw[Z21 h0 h1,e],by omega,by omega,h1⟩
  ·rw[if_neg h1]at h;cases h
 ·rw[if_neg h0]at h;by_cases h1:-(n:Int)<=i
  ·rw[if_pos h1]at h;have e:(i+n).toNat=j:=K11 h;exact⟨by rw[Z1g .(1) h1,e],by omega,h1,by omega⟩
  ·rw[if_neg h1]at h;cases h
theorem z8a{xs:List α}{i:Int}{v:α}(h:atI xs i=some v):∃j,K87 i xs.length=some j/\xs[j]?=some v/\j<xs.length/\-(xs.length:Int)<=i/\i<xs.length:=by
 unfold atI at h;cases e:ixN .(21) i with
 | none=>rw[e]at h;cases h
 | some j=>
  rw[e]at h;obtain⟨h1,h2,h3,h4⟩:=zj3 e;exact⟨j,h1,h,h2,h3,h4⟩
theorem z0p{xs:List α}{j:Nat}{v:α}(h:xs[j]?=some v):atI xs (j:Int)=some v:=by
 have hj:j<xs.length:=(K5.mp h).1;have e:ixN .(21) (j:Int)=some j:=by
  unfold ixN;rw[if_pos .(1),if_pos .(1)];simp
 unfold atI;rw[e];exact h
theorem zt9(xs:List α)(v:α):atI (xs++[v]) (-1)=some v:=by
 have hl:(xs++[v]).length=xs.length+1:=by simp
 have e:ixN (xs++[v]).length (-1)=some xs.length:=by
  unfold ixN;rw[hl,if_neg .(0),if_pos .(1)];congr 1;omega
 unfold atI;rw[e];show (xs++[v])[.(21)]?=some v;simp
def ze4(b:Expr):Prop:=∀o i,K99 b false o i=operate [o,i] (K6l o i)
def IxR(X:Cx)(r:R2):Prop:=
 ∀(value slice:Expr) (pins:List .(A)) (s:Shared) (σ:St) (H:Hp) (x y:V) (v u:Value) (Q:VK),Inv X pins σ H s->RelV x v->RelV y u->r x y H Q ->
  K99 slice false v u=operate [v,u] (K6l v u)->wpAny .(8) X.A (K9j value slice v u) (EP X pins σ Q) X.xe s
def MtR(X:Cx)(id:String)(r:V->List V->Hp->VK->Prop):Prop:=
 ∀(pins:List .(A)) (s:Shared) (σ:St) (H:Hp) (x:V) (xs:List V) (v:Value) (us:List Value) (Q:VK),Inv X pins σ H s->RelV x v->Vals xs us->r x xs H Q ->
  wpAny .(8) X.A (call (.builtin id) (v::us)) (EP X pins σ Q) X.xe s
section
variable{a b:Expr}{ta tb:TE}
theorem IxR.or{r r':R2}(h:IxR X r)(h':IxR X r'):IxR X (λx y H Q=>r x y H Q\/r' x y H Q):=by
 intro value slice pins s σ H x y v u Q I rx ry q hs;rcases q with q|q
 ·exact h value slice pins s σ H x y v u Q I rx ry q hs
 ·exact h' value slice pins s σ H x y v u Q I rx ry q hs
theorem Z0D{r:R2}(hr:IxR X r)(ha:PE X a ta)(hb:PE X b tb)(hs:ze4 b):PE X (.Subscript a b pos) (tOp r ta tb):=by
 intro pins s σ H Q I h;exact Subscript_ (binT ha hb I h λv u s2 x y H2 I2 rx ry q=>hr a b pins s2 σ H2 x y v u Q I2 rx ry q (hs _ _))
def rIxL(K:K1):R2:=λx y H Q=>∃p xs i v,x=.ref p/\y=.int i/\SqL K H p xs/\atI xs i=some v/\Q v H
def rIxT(K:K1):R2:=λx y H Q=>∃p xs i v,x=.ref p/\y=.int i/\SqT K H p xs/\atI xs i=some v/\Q v H
def rIxS:R2:=λx y H Q=>∃z i c,x=.str z/\y=.int i/\z.length<=sizeLine/\atI z.cps.toList i=some c/\Q (.str ⟨#[c]⟩) H
theorem ix_list:IxR X (rIxL X.K):=by
 intro value slice pins s σ H x y v u Q I rx ry h hs;obtain⟨p,xs,i,z,rfl,rfl,hq,he,q⟩:=h;cases rx;obtain⟨t,rfl⟩:=ry;obtain⟨its,r,pl,hz⟩:=I.list hq;obtain⟨j,h1,h2,h3,h4,h5⟩:=z8a he;obtain⟨w,ew,rw'⟩:=r.get h2;have hl:=r.length;have hn:=z5w;have fin:EP X pins σ Q w s:=⟨z,H,I,rw',q⟩;by_cases h0:0<=i
 ·have hj:i.toNat=j:=by
   rw[Z21 h0 h5]at h1;exact K11 h1
  exact item_listR pl.isList h0 .(1) (by rw[hj];simpa using ew) fin hs
 ·have hj:(i+(its.toArray.size:Int)).toNat=j:=by
   rw[Z1g .(1) h4]at h1;rw[K07,<- hl];exact K11 h1
  exact K8s (x:=w) pl.isList.typeIs K9w.lookup
   (wpAny_getItem_list_neg (Q:=λr s'=>r=w/\EP X pins σ Q r s') pl.isList .(1) (by rw[K07]<;>omega) .(1) (by rw[hj];simpa using ew) ⟨rfl,fin⟩) hs
theorem ix_tup:IxR X (rIxT X.K):=by
 intro value slice pins s σ H x y v u Q I rx ry h hs;obtain⟨p,xs,i,z,rfl,rfl,hq,he,q⟩:=h;cases rx;obtain⟨t,rfl⟩:=ry;obtain⟨its,r,pl,hz⟩:=I.tuple hq;obtain⟨j,h1,h2,h3,h4,h5⟩:=z8a he;obtain⟨w,ew,rw'⟩:=r.get h2;have hl:=r.length;have hn:=z5w;have fin:EP X pins σ Q w s:=⟨z,H,I,rw',q⟩;exact K8s (x:=w) pl.typeIs slot_tuple_getitem.lookup
  (getItem_tuple (j:=j) (Q:=λr s'=>r=w/\EP X pins σ Q r s') pl .(1) .(1) (by rw[K07,<- hl];exact h1) (by simpa using ew) ⟨rfl,fin⟩) hs
theorem zP9:IxR X rIxS:=by
 intro value slice pins s σ H x y v u Q I rx ry h hs;obtain⟨z,i,c,rfl,rfl,hz,he,q⟩:=h;obtain⟨t,rfl⟩:=rx;obtain⟨t',rfl⟩:=ry;obtain⟨j,h1,h2,h3,h4,h5⟩:=z8a he;have hl:z.cps.toList.length=z.length:=by simp[K9o]
 rw[hl]at h1 h4 h5;have hn:=z5w;exact tail_any (typeIs_str s z t) slot_str_getitem.lookup (getItem_str (c:=c) (by
  have e1:decide (i < -(2 ^ 63:Int))=false:=.(y) .(1);have e2:decide (i >= 2 ^ 63)=false:=.(y) .(1);rw[e1,e2,Bool.or_false]) (by rw[h1];simpa using h2) ⟨.str ⟨#[c]⟩,H,I.tok _,⟨_,rfl⟩,q⟩) hs
def rIx(K:K1):R2:=λx y H Q=>rIxL K x y H Q\/rIxT K x y H Q\/rIxS x y H Q
theorem zQ3:IxR X (rIx X.K):=ix_list.or (ix_tup.or zP9)
theorem z9d(its:List Value)(n j:Nat)(u:Value):K5d (·.setIfInBounds j u) { cls:=.type "list",data:=.seq its.toArray n }={ cls:=.type "list",data:=.seq (its.set j u).toArray n }:=by
 simp[K5d]
theorem Inv.lst{pins:List .(A)}{σ:St}{H:Hp}{s:Shared}{p:Addr}{xs:List V}(I:Inv X pins σ H s)(h:H p=.(l xs)) :
 ∃(its:List Value) (n:Nat),Vals xs its/\s.heap.get? p=some { cls:=.type "list",data:=.seq its.toArray n }/\.(21)<=sizeLine:=by
 obtain⟨z,its,n,r,e⟩:=I.hok p _ h;exact⟨its,n,r,e,z⟩
theorem Inv.lstUpd{p:Addr}{ys:List V}{its its':List Value}{n n':Nat}{f:Obj->Obj}(I:Inv X pins σ H s)(h:H p=.(l xs))
 (ho:s.heap.get? p=some { cls:=.type "list",data:=.seq its.toArray n }) (hf:f { cls:=.type "list",data:=.seq its.toArray n }={ cls:=.type "list",data:=.seq its'.toArray n' }) (r:Vals ys its') (hz:ys.length<=sizeLine) (t:Nat) :
 Inv X pins σ (upd H p (.lst ys)) { s with heap:=s.heap.update p f,toks:=t }:=by
 have e:(s.heap.update p f).get? p=some { cls:=.type "list",data:=.seq its'.toArray n' }:=by
  rw[K2y f ho (by rw[hf]<;>rfl),hf]
 refine I.write (x:=p) (e:=p) (by rw[h];trivial) (.inl rfl) (λb u hb q=>(K2p _ _ (K3a hb)).trans q) ⟨_,e⟩ ?_;exact⟨hz,its',n',r,e⟩
def Z0z:V->V->V->Hp->(Hp->Prop)->Prop:=λo i v H Q=>∃p xs k j,o=.ref p/\i=.int k/\H p=.(l xs)/\ixN xs.length k=some j/\Q (upd H p (.lst (xs.set j v)))
theorem set_list:PSet X Z0z:=by
 intro pins s σ H o i v ov iv u Q I ro ri rv h;obtain⟨p,xs,k,j,rfl,rfl,hp,hj,q⟩:=h;cases ro;obtain⟨t,rfl⟩:=ri;obtain⟨its,n,r,ho,hz⟩:=I.lst hp;obtain⟨h1,h2,h3,h4⟩:=zj3 hj;have hl:=r.length;have hn:=z5w;have I':Inv X pins σ (upd H p (.lst (xs.set j v))) { s with heap:=s.heap.update p (K5d (·.setIfInBounds j u)) }:=
  I.lstUpd hp ho (z9d its n j u) (r.set rv j) (by rw[K2a];exact hz) s.toks
 by_cases h0:0<=k
 ·have hk:k.toNat=j:=by
   rw[Z21 h0 h4]at h1;exact K11 h1
  exact PySem.W.ki_setAt ho h0 .(1) (by rw[K07,<- hl];exact h4) (by rw[hk];exact⟨_,I',q⟩)
 ·have hk:(k+(its.toArray.size:Int)).toNat=j:=by
   rw[Z1g .(1) h3]at h1;rw[K07,<- hl];exact K11 h1
  exact PySem.W.ki_setBack ho .(1) (by rw[K07,<- hl];exact h3) .(1) (by rw[hk];exact⟨_,I',q⟩)
theorem z7k(lo hi:Option Int)(n:Nat):(K5i lo hi none n).1=((HT.sIx n 0 lo:Nat):Int)/\(K5i lo hi none n).2.1=((HT.sIx n n hi:Nat):Int)/\(K5i lo hi none n).2.2=1:=by
 refine⟨?_,?_,rfl⟩
 ·cases lo with
  | none=>simp[K5i,HT.sIx]
  | some i=>
   simp only[K5i,HT.sIx,Z1o,show (1:Int) > 0 by decide,if_true];by_cases h:i<0
   ·simp only[h,if_true]<;>omega
   ·simp only[h,if_false]<;>omega
 ·cases hi with
  | none=>simp[K5i,HT.sIx]
  | some i=>
   simp only[K5i,HT.sIx,Z1o,show (1:Int) > 0 by decide,if_true];by_cases h:i<0
   ·simp only[h,if_true]<;>omega
   ·simp only[h,if_false]<;>omega
theorem z5Q(its:List Value)(lo hi:Option Int):slicePick its.toArray lo hi none=((its.drop (HT.sIx its.length 0 lo)).take (HT.sIx its.length its.length hi - HT.sIx its.length 0 lo)).toArray:=by
 obtain⟨h1,h2,h3⟩:=z7k lo hi its.toArray.size;unfold slicePick;rw[h1,h2,h3];simp only[sliceRange_one,pick_run,K07]<;>rfl
def rSlL(K:K1):V->Option Int->Option Int->Hp->VK->Prop:=λx lo hi H Q=>∃a xs,x=.ref a/\SqL K H a xs/\∀p,H p=none->Q (.ref p) (upd H p (.lst (cutV xs lo hi)))
theorem sl_list:SlR X (rSlL X.K):=by
 intro pins s σ H x v vl vu lo hi sl Q I rx hs pl pu h;obtain⟨a,xs,rfl,hx,q⟩:=h;cases rx;obtain⟨its,r,ht,hz⟩:=I.list hx;have hlen:=r.length;refine⟨"list",_,K9w.lookup,ht.isList.typeIs,?_⟩;refine wpAny_getItem_list_slice ht.isList hs pl pu .none .(f) ?_ (by rw[K07]<;>omega);rw[z5Q,<- hlen];refine⟨.ref .(4),_,I.laid (t':=s.toks) (o:=.lst (cutV xs lo hi)) (λb ob q=>K8 _ q) (K05 _) ?_,rfl,q _ (I.hok.fresh (K05 _))⟩;exact⟨K0z (z4K xs lo hi) hz,_,0,(r.drop (HT.sIx .(21) 0 lo)).take (HT.sIx .(21) .(21) hi - HT.sIx .(21) 0 lo),K0b _ rfl⟩
def z5l:V->Bool
 | .non=>true
 | .bl _=>true
 | .int _=>true
 | .str _=>true
 | _=>false
def eqV:V->V->Bool
 | .non,.non=>true
 | .bl a,.bl b=>a==b
 | .bl a,.int b=>(if a then 1 else 0)==b
 | .int a,.bl b=>a==(if b then 1 else 0)
 | .int a,.int b=>a==b
 | .str a,.str b=>a==b
 | _,_=>false
theorem zV3{A:Around}{y x:V}(ry:RelV y u)(rx:RelV x v)(fy:z5l y=true)(fx:z5l x=true):K6q A s u v (eqV y x):=by
 cases y with
 | non=>
  cases ry;cases x with
  | non=>cases rx;exact K6q.same _
  | bl b=>cases rx;exact K6q.none_bool b
  | int b=>obtain⟨t,rfl⟩:=rx;exact K6q.none_int b t
  | str b=>obtain⟨t,rfl⟩:=rx;exact K6q.none_str b t
  | _=>exact absurd (show false=true from fx) K10
 | bl a=>
  cases ry;cases x with
  | non=>cases rx;exact K6q.bool_none a
  | bl b=>cases rx;exact K6q.bool_bool a b
  | int b=>obtain⟨t,rfl⟩:=rx;exact K6q.bool_int a b t
  | str b=>obtain⟨t,rfl⟩:=rx;exact K6q.bool_str a b t
  | _=>exact absurd (show false=true from fx) K10
 | int a=>
  obtain⟨t',rfl⟩:=ry;cases x with
  | non=>cases rx;exact K6q.int_none a t'
  | bl b=>cases rx;exact K6q.int_bool a t' b
  | int b=>obtain⟨t,rfl⟩:=rx;exact K6q.int_int a t' b t
  | str b=>obtain⟨t,rfl⟩:=rx;exact K9n a t' b t
  | _=>exact absurd (show false=true from fx) K10
 | str a=>
  obtain⟨t',rfl⟩:=ry;cases x with
  | non=>cases rx;exact K6q.str_none a t'
  | bl b=>cases rx;exact K6q.str_bool a t' b
  | int b=>obtain⟨t,rfl⟩:=rx;exact K9m a t' b t
  | str b=>obtain⟨t,rfl⟩:=rx;exact K6q.str_str a t' b t
  | _=>exact absurd (show false=true from fx) K10
 | _=>exact absurd (show false=true from fy) K10
def eqU(x:V)(u:Value):Bool:=match u with
 | .none=>eqV .non x
 | .bool b=>eqV (.bl b) x
 | .int i _=>eqV (.int i) x
 | .str z _=>eqV (.str z) x
 | _=>false
theorem zz5{x y:V}(r:RelV y u)(f:z5l y=true):eqU x u=eqV y x:=by
 cases y with
 | non=>cases r;rfl
 | bl b=>cases r;rfl
 | int i=>obtain⟨t,rfl⟩:=r;rfl
 | str z=>obtain⟨t,rfl⟩:=r;rfl
 | _=>exact absurd (show false=true from f) K10
theorem z4Z{x:V}:∀{xs:List V}{us:List Value},Vals xs us->xs.all z5l=true->us.any (eqU x)=xs.any λy=>eqV y x
 | _,_,.nil,_=>rfl
 | y::xs,u::us,.cons r t,f=>by
  rw[K4n,K0i]at f;rw[K2d,K2d,zz5 r f.1,z4Z t f.2]
theorem z3t{A:Around}{s:Shared}{x:V}{v:Value}(rx:RelV x v)(fx:z5l x=true):∀{xs:List V}{us:List Value},Vals xs us->xs.all z5l=true->∀u∈us,K6q A s u v (eqU x u)
 | _,_,.nil,_=>λu hu=>by cases hu
 | y::xs,u::us,.cons r t,f=>λu' hu=>by
  rw[K4n,K0i]at f;rcases K0y.mp hu with rfl|hu
  ·rw[zz5 r f.1];exact zV3 r rx f.1 fx
  ·exact z3t rx fx t f.2 u' hu
def inV(x:V)(xs:List V):Bool:=xs.any λy=>eqV y x
def rIn(K:K1)(neg:Bool):R2:=λx y H Q=>∃p xs,y=.ref p/\(SqL K H p xs\/SqT K H p xs)/\z5l x=true/\xs.all z5l=true/\Q (.bl (if neg then !inV x xs else inV x xs)) H
theorem z9H:OpR X (K22 .In) (rIn X.K false):=by
 intro pins s σ H x y v u Q I rx ry h;obtain⟨p,xs,rfl,hq,fx,fs,q⟩:=h;cases ry;rcases hq with hq|hq
 ·obtain⟨its,r,pl,hz⟩:=I.list hq;refine SeqAt.in_listAt (eqU x) pl.isList (λw hw=>z3t rx fx r fs w (by simpa using hw)) ⟨.bl _,H,I,rfl,?_⟩;rw[show its.toArray.any (eqU x)=its.any (eqU x) by simp,z4Z r fs];exact q
 ·obtain⟨its,r,pl,hz⟩:=I.tuple hq;refine SeqAt.in_tupleAt (eqU x) pl (λw hw=>z3t rx fx r fs w (by simpa using hw)) ⟨.bl _,H,I,rfl,?_⟩;rw[show its.toArray.any (eqU x)=its.any (eqU x) by simp,z4Z r fs];exact q
theorem z7h:OpR X (K22 .NotIn) (rIn X.K true):=by
 intro pins s σ H x y v u Q I rx ry h;obtain⟨p,xs,rfl,hq,fx,fs,q⟩:=h;cases ry;rcases hq with hq|hq
 ·obtain⟨its,r,pl,hz⟩:=I.list hq;refine SeqAt.notIn_listAt (eqU x) pl.isList (λw hw=>z3t rx fx r fs w (by simpa using hw)) ⟨.bl _,H,I,rfl,?_⟩;rw[show its.toArray.any (eqU x)=its.any (eqU x) by simp,z4Z r fs];exact q
 ·obtain⟨its,r,pl,hz⟩:=I.tuple hq;refine SeqAt.notIn_tupleAt (eqU x) pl (λw hw=>z3t rx fx r fs w (by simpa using hw)) ⟨.bl _,H,I,rfl,?_⟩;rw[show its.toArray.any (eqU x)=its.any (eqU x) by simp,z4Z r fs];exact q
theorem z7q:z2W X (.type "list") (λxs H Q=>∃p ys,xs=[.ref p]/\(SqL X.K H p ys\/SqT X.K H p ys)/\∀l,H l=none->Q (.ref l) (upd H l (.lst ys))):=by
 intro pins s σ H xs us Q I r h;obtain⟨p,ys,rfl,hq,q⟩:=h;obtain⟨u,rfl,rx⟩:=vals1 r;cases rx;have fin:∀(its:List Value),Vals ys its->ys.length<=sizeLine->∀(h':Heap) (c':Nat),(∀b o',s.heap.get? b=some o'->h'.get? b=some o') ->
  h'.get? .(4)=some { cls:=.type "list",dict:=none,data:=.seq its.toArray c',slots:=#[] }->EP X pins σ Q (.ref .(4)) { s with heap:=h' }:=λits r' hz h' c' kp e=>
  ⟨.ref .(4),_,I.laid (t':=s.toks) kp (K05 _) (show ObjOk X.prog X.w _ h' _ (.lst ys) from⟨hz,its,c',r',e⟩),rfl,q _ (I.hok.fresh (K05 _))⟩
 rcases hq with hq|hq
 ·obtain⟨its,r',pl,hz⟩:=I.list hq;have hlen:=r'.length;obtain⟨o,ho,hc,n,hd⟩:=pl.isList;exact call_list_seq p (.inl rfl) ho hc hd (λh' c' kp e=>fin its r' hz h' c' kp e) (by simp only[K07]<;>omega)
 ·obtain⟨its,r',pl,hz⟩:=I.tuple hq;have hlen:=r'.length;obtain⟨o,ho,hc,n,hd⟩:=pl;exact call_list_seq p (.inr rfl) ho hc hd (λh' c' kp e=>fin its r' hz h' c' kp e) (by simp only[K07]<;>omega)
theorem z6r:z2W X (.type "tuple") (λxs H Q=>∃p ys,xs=[.ref p]/\((SqL X.K H p ys/\∀l,H l=none->Q (.ref l) (upd H l (.tup ys)))\/(SqT X.K H p ys/\Q (.ref p) H))):=by
 intro pins s σ H xs us Q I r h;obtain⟨p,ys,rfl,h⟩:=h;obtain⟨u,rfl,rx⟩:=vals1 r;cases rx;rcases h with ⟨hq,q⟩|⟨hq,q⟩
 ·obtain⟨its,r',pl,hz⟩:=I.list hq;have hlen:=r'.length;refine call_tuple_list pl.isList (λh' kp=>?_) (by simp only[K07]<;>omega);have I1:Inv X pins σ H { s with heap:=h' }:=I.kept (t':=s.toks) kp;have I2:Inv X pins σ (upd H h'.objs.size (.tup ys)) { s with heap:=h'.push { cls:=.type "tuple",data:=.seq its.toArray } }:=
   I1.laid (t':=s.toks) (λb o e=>K8 _ e) (K05 _) (show ObjOk X.prog X.w _ _ _ (.tup ys) from⟨hz,its,r',FT.IsTup0.new _ _⟩)
  exact⟨.ref h'.objs.size,_,I2,rfl,q _ (I1.hok.fresh (K05 _))⟩
 ·obtain⟨its,r',pl,hz⟩:=I.tuple hq;exact call_tuple_same pl ⟨.ref p,H,I,rfl,q⟩
def tyV(K:K1)(T:String)(x:V)(H:Hp):Prop:=match x with
 | .str _=>T = "str"
 | .int _=>T = "int"
 | .ref p=>(T = "list"/\∃xs,SqL K H p xs)\/(T = "tuple"/\∃o,K.lookup p=some o/\o.cls=.type "tuple"/\o.dict=none) \/
  (T = "dict"/\((∃kvs,H p=some (.dK kvs))\/∃kvs,H p=some (.dT kvs)))\/(T = "set"/\∃ks,H p=some (.set ks))
 | _=>False
theorem zN6{x:V}(I:Inv X pins σ H s)(r:RelV x v)(ty:tyV X.K T x H):
 s.TypeIs v T/\∀a,v=.ref a->∃ob,s.heap.get? a=some ob/\ob.dict=none:=by
 cases x with
 | str z=>
  obtain⟨t,rfl⟩:=r;cases (show T = "str" from ty);exact⟨typeIs_str s z t,λ_ e=>nomatch e⟩
 | int i=>
  obtain⟨t,rfl⟩:=r;cases (show T = "int" from ty);exact⟨K8j s i t,λ_ e=>nomatch e⟩
 | ref p=>
  cases r;rcases ty with ⟨rfl,xs,hq⟩|⟨rfl,o,hk,hc,hd⟩|⟨rfl,hk⟩|⟨rfl,ks,hk⟩
  ·obtain⟨its,_,pl,_⟩:=I.list hq;refine⟨pl.isList.typeIs,λa e=>?_⟩;cases e;obtain⟨o,n,e,c,hd,_⟩:=pl;exact⟨o,e,hd⟩
  ·refine⟨⟨o,I.kIn p o hk,hc⟩,λa e=>?_⟩;cases e;exact⟨o,I.kIn _ o hk,hd⟩
  ·have z:∃o,s.heap.get? p=some o/\o.ExactDict:=by
    rcases hk with ⟨kvs,hk⟩|⟨kvs,hk⟩
    ·obtain⟨_,_,_,_,o,_,_,e,ex,_⟩:=I.hok p _ hk;exact⟨o,e,ex⟩
    ·obtain⟨_,_,_,_,o,_,_,e,ex,_⟩:=I.hok p _ hk;exact⟨o,e,ex⟩
   obtain⟨o,e,ex⟩:=z;refine⟨⟨o,e,ex.1⟩,λa e2=>?_⟩;cases e2;exact⟨o,e,ex.2.1⟩
  ·obtain⟨o,_,_,_,_,e,ex,_⟩:=I.hok p _ hk;refine⟨⟨o,e,ex.1⟩,λa e2=>?_⟩;cases e2;exact⟨o,e,ex.2.1⟩
 | _=>exact K28 ty
def tBM(K:K1)(T:String)(r:V->List V->Hp->VK->Prop)(to:TE)(t:TA):TE:=λσ H Q=>to σ H λx H1=>tyV K T x H1/\t σ H1 λxs H2=>r x xs H2 Q
variable{o e:Expr}{es:List Expr}{to:TE}{t:TA}{name:Str}{apos cpos:Pos}{id:String}{r:V->List V->Hp->VK->Prop}
theorem zq9(pa:PlainAttrs T)(slot:Slot T name id)(hty:typeOf (.builtin id)=pure (.type "method_descriptor"))(hm:MtR X id r)(ho:PE X o to)(ha:PA X (e::es) t)
 (hbase:K4r o name X.env (eval o X.env)=eval o X.env:=by rfl)
 (hfew:((backTo cpos (K09 (e::es) X.env)).all (λx=>!x.1)&&(K86 cpos (K5j [] X.env)).all (λx=>x.1.isSome)
 &&decide ((e::es).length+([]:List K52).length+(if ([]:List K52).isEmpty then 0 else 1)<30))=true:=by rfl)
 (hline:(apos.endLine==cpos.line)=true:=by rfl) (hs:K09 (e::es) X.env=(false,eval e X.env)::K09 es X.env:=by rfl) (hplain:(backTo cpos (K09 es X.env)).any (·.1)=false:=by rfl) :
 PE X (.Call (.Attribute o name apos) (e::es) [] cpos) (tBM X.K T r to t):=by
 intro pins s σ H Q I h;refine K8r hbase hfew hline rfl (thn (ho pins s σ H _ I h) λv s1 ⟨x,H1,I1,r1,ty,q1⟩=>?_);obtain⟨h1,h2⟩:=zN6 I1 r1 ty;refine⟨T,id,pa,slot,hty,h1,h2,?_⟩;have hA:=ha cpos pins s1 σ H1 _ I1 q1;rw[hs]at hA ⊢;refine K8m (by show (false||(backTo cpos (K09 es X.env)).any (·.1))=false;rw[hplain]<;>rfl) (K6b ?_);exact thn hA λus s2 ⟨vs,H2,I2,r2,q2⟩=>hm pins s2 σ H2 x vs v us Q I2 r1 r2 q2
end
def MtM(X:Cx)(id:String)(r:V->List V->Hp->VK->Prop):Prop:=
 ∀(pins:List .(A)) (s:Shared) (σ:St) (H:Hp) (x:V) (xs:List V) (v:Value) (us:List Value) (Q:VK),Inv X pins σ H s->RelV x v->Vals xs us->r x xs H Q ->
  wpAny .(8) X.A (call (.builtin id) (v::us)) (EP X pins σ Q) X.xe s
theorem Vals.one:∀{x:V}{us:List Value},Vals [x] us->∃u,us=[u]/\RelV x u
 | _,_,.cons r .nil=>⟨_,rfl,r⟩
theorem Vals.eraseIdx:∀{xs:List V}{us:List Value}(i:Nat),Vals xs us->Vals (xs.eraseIdx i) (us.eraseIdx i)
 | _,_,_,.nil=>.nil
 | _,_,0,.cons _ t=>t
 | _,_,i+1,.cons r t=>.cons r (Vals.eraseIdx i t)
theorem Vals.rep{xs:List V}{us:List Value}(h:Vals xs us):∀k:Nat,Vals (K0c k xs).flatten (K0c k us).flatten
 | 0=>.nil
 | k+1=>by
  rw[K2t,K2t,K40,K40];exact Vals.append h (Vals.rep h k)
theorem z6E{α:Type}:∀(l:List α) (i:Nat),(l.eraseIdx i).length<=l.length
 | [],_=>K05 _
 | _::_,0=>K68 _
 | _::r,i+1=>Nat.succ_le_succ (z6E r i)
theorem foldl_rep(its:List Value):∀(k:Nat) (acc:List Value),
 K62 (λx1 x2=>x1++x2) acc.toArray (K0c k its.toArray)=(acc++(K0c k its).flatten).toArray
 | 0,acc=>by simp
 | k+1,acc=>by
  have e:acc.toArray++its.toArray=(acc++its).toArray:=by simp
  have e2:(acc++its)++(K0c k its).flatten=acc++(K0c (k+1) its).flatten:=by
   rw[K2t,K40,K0e]
  rw[<- e2,<- foldl_rep its k (acc++its),<- e,K2t,K4j]
section
variable{l b:Addr}{zs:List V}
theorem Inv.lset{its its':List Value}{n:Nat}{f:Array Value->Array Value}{t':Nat}(I:Inv X pins σ H s)(hH:H l=.(l xs))
 (e:s.heap.get? l=some { cls:=.type "list",data:=.seq its.toArray n }) (hf:f its.toArray=its'.toArray) (hv:Vals ys its') (hz:ys.length<=sizeLine) :
 Inv X pins σ (upd H l (.lst ys)) { s with heap:=s.heap.update l (K5d f),toks:=t' }:=by
 have q:=PySem.IsL.update e f;rw[hf]at q;refine I.write (x:=l) (e:=l) (by rw[hH];exact trivial) (.inl rfl) (λb' u hb hu=>(K2p s.heap (K5d f) (K3a hb)).trans hu) ⟨_,q⟩ ?_;exact⟨hz,its',_,hv,q⟩
theorem Inv.lnew{t':Nat}(I:Inv X pins σ H s)(hv:Vals ys its)(hz:ys.length<=sizeLine):
 Inv X pins σ (upd H .(4) (.lst ys)) { s with heap:=s.heap.push { cls:=.type "list",data:=.seq its.toArray },toks:=t' }:=
 I.laid (λ_ _ q=>K8 _ q) (K05 _) ⟨hz,its,0,hv,K0b _ rfl⟩
theorem Inv.fresh(I:Inv X pins σ H s):H s.heap.objs.size=none:=I.hok.fresh (K05 _)
theorem Inv.lstM(I:Inv X pins σ H s)(hH:H l=.(l xs)):xs.length<=sizeLine/\∃(its:List Value) (n:Nat),Vals xs its/\xs.length=its.length/\s.heap.get? l=some { cls:=.type "list",data:=.seq its.toArray n }:=by
 obtain⟨z,its,n,r,e⟩:=I.hok l _ hH;exact⟨z,its,n,r,r.length,e⟩
theorem zm5(h:n<=sizeLine):K56 n=false:=by
 unfold K56;exact .(y) .(1)
end
def zz8:V->List V->Hp->VK->Prop:=λx vs H Q=>∃l xs y,x=.ref l/\vs=[y]/\H l=.(l xs)/\xs.length<sizeLine/\Q .non (upd H l (.lst (xs++[y])))
theorem z6J:MtM X "list.append" zz8:=by
 intro pins s σ H x vs v us Q I rx rv h;obtain⟨l,xs,y,rfl,rfl,hH,hz,q⟩:=h;cases rx;obtain⟨u,rfl,ru⟩:=rv.one;obtain⟨z,its,n,r,hl,e⟩:=I.lstM hH;refine K4e F.slot_list_append ⟨_,e,rfl⟩ F.entry_list_append (F.args_list_append_2 _ _) (PySem.list_append l its.toArray n u (by rw[K07];omega)) ⟨e,?_⟩;refine⟨.non,_,I.lset (its':=its++[u]) hH e .(f) (r.append (.cons ru .nil)) ?_,rfl,q⟩;rw[K02,K2x];omega
def zZ7:V->List V->Hp->VK->Prop:=λx vs H Q=>∃l xs i k y,x=.ref l/\vs=[.int i]/\H l=.(l xs)/\-(2 ^ 63)<=i/\i<2 ^ 63/\K87 i xs.length=some k/\xs[k]?=some y/\Q y (upd H l (.lst (xs.eraseIdx k)))
theorem zr0:MtM X "list.pop" zZ7:=by
 intro pins s σ H x vs v us Q I rx rv h;obtain⟨l,xs,i,k,y,rfl,rfl,hH,h1,h2,hk,hy,q⟩:=h;cases rx;obtain⟨u,rfl,ru⟩:=rv.one;obtain⟨t,rfl⟩:=ru;obtain⟨z,its,n,r,hl,e⟩:=I.lstM hH;obtain⟨w,hw,rw'⟩:=r.get hy;refine K4e F.slot_list_pop ⟨_,e,rfl⟩ F.entry_list_pop (F.args_list_pop_2 _ _)
  (MeetsSeq.list_pop_at l its.toArray n i t k w (fitsIndex_both h1 h2) (by rw[K07,<- hl];exact hk) (by rw[<- K3s];exact hw) (by rw[K07];omega)) ⟨e,?_⟩
 refine⟨y,_,I.lset (its':=its.eraseIdx k) hH e ?_ (r.eraseIdx k) ?_,rw',q⟩
 ·show its.toArray.eraseIdxIfInBounds k=(its.eraseIdx k).toArray;rw[List.eraseIdxIfInBounds_toArray]
 ·have:=z6E xs k;omega
def rCat:R2:=λx y H Q=>∃l b xs zs,x=.ref l/\y=.ref b/\H l=.(l xs)/\H b=.(l zs)/\xs.length+zs.length<=sizeLine/\∀p,H p=none->Q (.ref p) (upd H p (.lst (xs++zs)))
theorem op_cat:OpR X (K3e .Add) rCat:=by
 intro pins s σ H x y v u Q I rx ry h;obtain⟨l,b,xs,zs,rfl,rfl,hH,hB,hz,q⟩:=h;cases rx;cases ry;obtain⟨z,its,n,r,hl,e⟩:=I.lstM hH;obtain⟨z2,its2,n2,r2,hl2,e2⟩:=I.lstM hB;refine PySem.P.add_list e e2 ?_ (by rw[K07,K07];omega);have ea:its.toArray++its2.toArray=(its++its2).toArray:=by simp
 rw[ea];exact⟨.ref _,_,I.lnew (t':=s.toks) (r.append r2) (by rw[K02];omega),rfl,q _ I.fresh⟩
def rRep:R2:=λx y H Q=>∃l k xs,x=.ref l/\y=.int k/\H l=.(l xs)/\-(2 ^ 63)<=k/\k<2 ^ 63/\xs.length * k.toNat<=sizeLine /\
 ∀p,H p=none->Q (.ref p) (upd H p (.lst (K0c k.toNat xs).flatten))
theorem len_rep(xs:List α)(k:Nat):(K0c k xs).flatten.length=k * xs.length:=by
 induction k with
 | zero=>simp
 | succ k ih=>rw[K2t,K40,K02,ih,Nat.succ_mul,Nat.add_comm]
theorem zO3:OpR X (K3e .Mult) rRep:=by
 intro pins s σ H x y v u Q I rx ry h;obtain⟨l,k,xs,rfl,rfl,hH,h1,h2,hz,q⟩:=h;cases rx;obtain⟨t,rfl⟩:=ry;obtain⟨z,its,n,r,hl,e⟩:=I.lstM hH;have hlen:its.toArray.size * k.toNat<=sizeLine:=by rw[K07,<- hl];exact hz
 have hcap:¬ its.toArray.size * k.toNat > (2 ^ 63 - 1) / 8:=by
  have:(sizeLine:Nat)<=(2 ^ 63 - 1) / 8:=by decide
  omega
 have hfit:¬ (!Builtin.List.listFitsIndex k)=true:=by
  rw[fitsIndex_both h1 h2];exact K10
 have hlong:¬ K56 (its.toArray.size * k.toNat)=true:=by
  rw[zm5 hlen];exact K10
 have hnew:K62 (λx1 x2=>x1++x2) #[] (K0c (if its.toArray.isEmpty=true then 0 else k.toNat) its.toArray)=(K0c k.toNat its).flatten.toArray:=by
  have f0:∀m:Nat,K62 (λx1 x2=>x1++x2) #[] (K0c m its.toArray)=(K0c m its).flatten.toArray:=λm=>by
   have:=foldl_rep its m [];rw[K8w]at this;exact this
  rw[f0];cases its with
  | nil=>simp
  | cons a r'=>rw[if_neg .(f)]
 refine K78 (T:="list") (U:="int") .(0) ⟨_,e,rfl⟩ (λs'=>K8j s' k t) noFill_list_mul F.fills_int_mul F.slot_int_rmul repeat_list F.slot_int_index.lookup
  (K4e F.slot_int_rmul (K8j s k t) F.entry_int_rmul (F.args_int_rmul_2 _ _) (int___rmul___int_list k t l its.toArray n)
   ⟨e,rfl,⟨_,e,rfl⟩,K4e F.slot_list_mul ⟨_,e,rfl⟩ F.entry_list_mul (F.args_list_mul_2 _ _) (AutoListH.list___mul___list_int_3 l its.toArray n k t hfit hcap hlong) ⟨e,?_⟩⟩)
 rw[hnew];exact⟨.ref _,_,I.lnew (t':=s.toks) (r.rep k.toNat) (by rw[len_rep,K6j];exact hz),rfl,q _ I.fresh⟩
end L2
namespace Att
open PySem PySem.W PySem.Calls PyProof.Rows
theorem z5c{P:Params}{h:Heap}:∀(ns:List Int) (vs:List Value),WellAll P h vs (ns.map WData.int)->K67 vs ns:=by
 intro ns;induction ns with
 | nil=>
  intro vs w;rw[K6i]at w;cases w;exact .nil
 | cons n ns ih=>
  intro vs w;rw[K0v]at w;cases w with
  | cons a b=>
   cases a;exact .cons _ _ (ih _ b)
theorem zg4{l:OpenLaw}{n:Nat}(hn:l.most=some n){P:Params}{h:Heap}{args:List WData}{vals:List Value}
 (hpre:l.row.toRowW.claim.pre args=true) (hwl:WellAll P h vals args) :
 ∃a vs ns,vals=[K1f a]/\args=[WData.list (ns.map WData.int)]/\h.get? a=some { cls:=.type "list",data:=.seq vs.toArray }/\K67 vs ns/\ns.length<=n:=by
 have hsh:WShape.hasAll [] args [.list .int]=true:=(pre_splitW hpre).1;have hc:l.pre.holds [] { args:=args }=true:=(pre_splitW hpre).2;obtain⟨d,r,rfl,h1,h2⟩:=hasAllW_cons hsh;obtain rfl:=hasAllW_nil h2;obtain⟨xs,rfl,h3⟩:=hasW_list h1;obtain⟨ns,rfl⟩:=items_int h3;have hlen:ns.length<=n:=by
  unfold OpenLaw.pre at hc;have h4:(WTm.not (.lt (.lit (.int (n:Int))) (.len (.arg 0)))).holds [] { args:=[.list (ns.map .int)] }=true:=by
   have h4:=(holds_andW hc).1;rw[hn]at h4;exact h4
  have h5:=condW_of h4 (w_not (w_lt w_lit (w_len_list (w_arg rfl))));rw[K03]at h5;refine Nat.le_of_not_lt λq=>?_;have q':(n:Int)<((ns.length:Nat):Int):=by omega
  first
   | (rw[decide_eq_true q']at h5;exact absurd h5 .(0))
   | (simp at h5;omega)
 cases hwl with
 | cons w1 w2=>
  cases w2;cases w1 with
  | list ho hall=>exact⟨_,_,ns,rfl,rfl,ho,z5c ns _ hall,hlen⟩
theorem ze5(l:OpenLaw)(args:List WData):l.row.toRowW.claim.post args (.bool true) args=true:=
 postW_of (r:=l.row.toRowW) (X:=(true==true))
  (show WShape.has [] (.bool true) .bool=true by first|rfl|decide|simp[WShape.has,WShape.arms,WShape.armsAll])
  (show (WTm.eq .res (.lit (.bool true))).value [] { args:=args,res:=some (.bool true),after:=args }=some (.bool (true==true)) from w_eq_bool (w_res rfl) w_lit) rfl
theorem attach_call{l:OpenLaw}{n:Nat}{q:K1a}{loose:List Str}{XP:(Str->Option Value)->Heap->Prop}{YP:World->Heap->Prop}{d:DefRec}
 (hn:l.most=some n) (hdf:d.params.defaults=[])
 (call:∀(w:World) (s₀ s₁:Shared) (mg mb:Str->Option Value) (fa:Addr) (o:Obj) (pm cd doc:Value) (a:Addr) (vs:List Value) (ns:List Int),
  Ground q loose [] XP w s₀ mg mb s₁.heap->YP w s₁.heap ->
  s₁.heap.get? fa=some o->o.data=.func (docDef d.name d.params d.body d.scope pm cd doc)->s₁.heap.CodeRec cd d.name->mg d.name=.(r fa) ->
  s₁.heap.get? a=some { cls:=.type "list",data:=.seq vs.toArray }->K67 vs ns->ns.length<=n->s₁.gens = #[] ->
  K5s (model l.prog w) K8h (.call (.ref fa) ⟨[.ref a],[]⟩) (λr s'=>r=.ok (.ret (.bool true))/\OldK s₁.heap s'.heap/\s'.os=s₁.os/\K5v s'.gens) s₁) :
 WalkO q loose XP YP l.row.toRowW d [] (λf vs=>Z2a f vs):=by
 intro w s₀ s₁ mg mb G Y fa o pm cd doc dV kV ho hd hcd hD hmg hg args vals as hpre hlay hrd hwl hlo;obtain rfl:dV=.none:=Dflts.none hD hdf;obtain rfl:kV=.none:=Dflts.noKw hD;obtain⟨a,vs,ns,rfl,rfl,hobj,hints,hlen⟩:=zg4 hn hpre hwl;refine enter_call (K42 (call w s₀ s₁ mg mb fa o pm cd doc a vs ns G Y ho (fd_plain hd) hcd hmg hobj hints hlen hg) λr s' hq=>?_);obtain⟨rfl,h2,h3,h4⟩:=hq;exact⟨.inl ⟨.bool true,.bool true,[],rfl,λ_=>rfl,.bool true,ze5 l _,λ_=>⟨List.Pairwise.nil,λ_ hm=>(nomatch hm)⟩⟩,h2,h3,h4⟩
end Att
namespace L2
variable{P prog:K1a}{w:World}{K:K1}{mg:Str->Option Value}{CX:World->CXT}{a it:Addr}{fd:K4x}{x qual:Str}{sp:World->Sp}{vs:List (Key×Value)}{h h':Heap}{loose ps N':List Str}{XP:(Str->Option Value)->Heap->Prop}{YP:World->Heap->Prop}{X:Cx}{st:Stmt}{osl:Array (Option Value)}{A:Around}{o:Option V}{u acc:Value}{y:V}{H H':Hp}{kvs:List (List Key×V)}{xs:List (List Key×Addr×Value)}{ks keys:List (Option Expr)}{pins pins':List (Addr×Obj)}{σ:St}{s s2:Shared}{E Q xe:Value->Shared->Prop}{env:Env}{value elt tg iter tg1 iter1:Expr}{pos:Pos}{trs:List (TE×TE)}{values ifs ifs1:List Expr}{cap:List (Option Nat)}{fp:List Addr}{tn:Nat->Heap->Prop}{R:Result->Shared->Prop}{bd:Addr->Env->Sem Unit}{RR:Value->Addr->Result->Shared->Prop}
theorem z4E:∀{vs:List Value}{ns:List Int},K67 vs ns->Vals (ns.map V.int) vs
 | _,_,.nil=>.nil
 | _,_,.cons n t h=>.cons ⟨t,rfl⟩ (z4E h)
def Only(H:Hp):Prop:=∀b,H b=none\/∃o xs,H b=some (.frz o (.lst xs))
theorem zm2{P:K1a}{w:World}{K:K1}{mg mb:Str->Option Value}{CX:CXT}{k:Nat}{fa a:Addr}{fd:K4x}{x:Str}{sp:Sp}{s₁:Shared}{vs:List Value}{ns:List Int}
 (KX:K.In s₁.heap) (hns:s₁.heap.Ns K1p mg) (hb:s₁.heap.Ns builtinsNs mb) (hbb:∀x:Str,x≠"__name__"->mb x=K51 x) (hlim:s₁.heap.NoLimit) (hg:s₁.gens = #[])
 (ha:s₁.heap.get? a=some { cls:=.type "list",data:=.seq vs.toArray }) (hi:K67 vs ns) (hl:ns.length<=sizeLine) (hr:Room k K8h)
 (F:∀base:Heap,K.In base->base.Ns K1p mg->FnOk P w K mg base CX k fa fd [x] sp) (hbind:∀(s:Shared) (u:Value),Z1c s fd ⟨[u],[]⟩ [(x,u)])
 (hsp:∀H:Hp,Only H->SqL K H a (ns.map V.int)->sp [.ref a] H (λv _=>v=.bl true) λ_ _ _=>False)
 (hCX:∀H e s',CX [] H s₁ (λ_ _ _=>False) e s'->False) :
 K5s (model P w) K8h (.call (.ref fa) ⟨[.ref a],[]⟩) (λr s'=>r=.ok (.ret (.bool true))/\OldK s₁.heap s'.heap/\s'.os=s₁.os/\K5v s'.gens) s₁:=by
 have rv:=z4E hi;have lenV:=hi.length;have core:∀H:Hp,Only H->SqL K H a (ns.map V.int)->HOk P w H s₁.heap->(∀b,H b≠none->b=a)->(H a≠none->K.lookup a=none) ->
  K5s (model P w) K8h (.call (.ref fa) ⟨[.ref a],[]⟩) (λr s'=>r=.ok (.ret (.bool true))/\OldK s₁.heap s'.heap/\s'.os=s₁.os/\K5v s'.gens) s₁:=by
  intro H hO hS hok hA hK;have base_of:∀{b:Addr} {o:Obj},s₁.heap.get? b=some o->H b=none->(hidT s₁.heap H).get? b=some o:=λe n=>zt6 e n;have noA:∀{b:Addr} {o:Obj} {es:Array Z1v} {ep:Nat},s₁.heap.get? b=some o->o.data=.dict es ep->H b=none:=λ{b o es ep} e d=>by
   cases q:H b with
   | none=>rfl
   | some u=>
    have e':b=a:=hA b (by rw[q];simp);subst e';rw[ha]at e;cases e;have d':Z29 vs.toArray _=Data.dict es ep:=d;cases d'
  have nsK:∀{b:Addr} {m:Str->Option Value},s₁.heap.Ns b m->(hidT s₁.heap H).Ns b m:=λ{b m} ⟨o,es,ep,e,d,r⟩=>⟨o,es,ep,base_of e (noA e d),d,r⟩;have hKb:K.In (hidT s₁.heap H):=λb o e=>base_of (KX b o e) (by
   cases q:H b with
   | none=>rfl
   | some u=>
    have e':b=a:=hA b (by rw[q];simp);subst e';rw[hK (by rw[q];simp)]at e;cases e)
  have hM:Mod K mg (hidT s₁.heap H):=⟨hKb,nsK hns,⟨mb,nsK hb,hbb⟩,let ⟨mc,h1,h2⟩:=hlim;⟨mc,nsK h1,h2⟩⟩;have e0:Env0 P w K mg (hidT s₁.heap H) K8h [] s₁ H:=⟨rfl,hM,λb o e=>zC3 e,K6k (zf1 _ _),trivial,λb hb=>absurd (show b∈([]:List Addr) from hb) .(f),hok,.of_eq hg⟩;refine K42 ((F _ hKb (nsK hns)).run K8h [] s₁ H ⟨[.ref a],[]⟩ [.ref a] [.ref a] _ _ hr e0 (hbind s₁ (.ref a)) (.cons rfl .nil) (hsp H hO hS)) λr s' h=>?_;cases r with
  | error e=>exact(hCX H e s' h).elim
  | ok fl=>
   cases fl with
   | next=>exact K28 h
   | brk=>exact K28 h
   | cont=>exact K28 h
   | ret u=>
    obtain⟨v,H',os,bare,un,hok',r',q⟩:=h;have q':v=.bl true:=q;subst q';obtain rfl:u=K6p true:=r';refine⟨rfl,OldK.of_keep λb o e=>?_,os,bare⟩;cases q:H b with
    | none=>exact un.keep b o e q (by intro z;exact absurd (show b∈([]:List Addr) from z) .(f)) .(f)
    | some u=>
     rcases hO b with z|⟨ob,xs,z⟩
     ·rw[q]at z;cases z
     ·have z2:=un.frzs b ob _ z;obtain⟨e1,_⟩:=hok b _ z;obtain⟨e2,_⟩:=hok' b _ z2;rw[e]at e1;cases e1;exact e2
 cases hk:K.lookup a with
 | some o=>
  have e:=KX a o hk;rw[ha]at e;cases e;refine core (λ_=>none) (λ_=>.inl rfl) (.inr ⟨_,vs.toArray,_,hk,rfl,rfl,rfl,by rw[K07,lenV];exact hl,by simpa using rv⟩) (λb u z=>by have z':(none:Option HO)=some u:=z;cases z') (λb z=>absurd rfl z) λz=>absurd rfl z
 | none=>
  refine core (λb=>if b=a then some (.frz { cls:=.type "list",data:=.seq vs.toArray } (.lst (ns.map V.int))) else none) (λb=>?_) (.inl (.inr ⟨{ cls:=.type "list",data:=.seq vs.toArray },if_pos rfl⟩)) (λb u z=>?_) (λb z=>?_) λ_=>hk
  ·by_cases hb:b=a
   ·exact .inr ⟨_,_,if_pos hb⟩
   ·exact .inl (if_neg hb)
  ·by_cases hb:b=a
   ·have z':=(if_pos hb).symm.trans z;cases z';subst hb;exact⟨ha,by rw[K03];exact hl,vs,_,rv,ha⟩
   ·have z':=(if_neg hb).symm.trans z;cases z'
  ·by_cases hb:b=a
   ·exact hb
   ·exact absurd (if_neg hb) z
abbrev KOf(_:K.In h):K1:=K
theorem walk_of{l:Z22}{n k:Nat}{q:K1a}{loose:List Str}{XP:(Str->Option Value)->Heap->Prop}{YP:World->Heap->Prop}{d:DefRec}{K:Params->K1}{CX:World->CXT}{sp:World->Sp}{x:Str}
 (hn:l.most=some n) (hn2:n<=sizeLine) (hdf:d.params.defaults=[]) (hr:Room k K8h)
 (hY:∀(w:World) (h:Heap),YP w h->(K w.params).In h)
 (F:∀(w:World) (mg:Str->Option Value) (fa:Addr) (h:Heap),(K w.params).In h->h.Ns K1p mg->mg d.name=.(r fa) ->
  ∃fd:K4x,(∀(s:Shared) (u:Value),Z1c s fd ⟨[u],[]⟩ [(x,u)]) /\
   ∀base:Heap,(K w.params).In base->base.Ns K1p mg->FnOk l.prog w (K w.params) mg base (CX w) k fa fd [x] (sp w))
 (hsp:∀(w:World) (H:Hp) (a:Addr) (ns:List Int),ns.length<=n->Only H->SqL (K w.params) H a (ns.map V.int)->sp w [.ref a] H (λv _=>v=.bl true) λ_ _ _=>False)
 (hCX:∀(w:World) (H:Hp) (s:Shared) (e:Value) (s':Shared),CX w [] H s (λ_ _ _=>False) e s'->False) :
 Z2f q loose XP YP l.row.toRowW d [] (λf vs=>Z2a f vs):=by
 refine Att.attach_call hn hdf λw s₀ s₁ mg mb fa o pm cd doc a vs ns G Y ho hd hcd hmg hobj hints hlen hg=>?_;have KX:=hY w _ Y;obtain⟨fd,hb,hF⟩:=F w mg fa _ KX G.T.g hmg;exact zm2 KX G.T.g G.T.b G.T.builtins G.T.nolimit hg hobj hints (K0z hlen hn2) hr hF hb (λH hO hS=>hsp w H a ns hlen hO hS) λH e s'=>hCX w H s₁ e s'
def z3e(s:Stmt):Arguments:=match s with
 | .FunctionDef _ a _ _ _ _ _ _ _ _=>a
 | _=>{ posonlyargs:=[],args:=[],vararg:=none,kwonlyargs:=[],kw_defaults:=[],kwarg:=none,defaults:=[] }
def z0x(s:Stmt):List Stmt:=match s with
 | .FunctionDef _ _ b _ _ _ _ _ _ _=>b
 | _=>[]
def j4(s:Stmt):Scope:=match s with
 | .FunctionDef _ _ _ _ _ _ sc _ _ _=>sc
 | _=>{ kind:=.function,names:=[],isGenerator:=false,isCoroutine:=false }
abbrev CX0:CXT:=λ_ _ _ _ _ _=>False
abbrev E0:XK:=λ_ _ _=>False
theorem Z0o:zb1 CX0 X E0:=λ_ _ _ _ _ _ _ h=>h.elim
structure Fun(K:K1)(x qual:Str)(st:Stmt)(f:Addr)(fd:K4x):Prop where
 ex:∃(oc:Value) (od:Option Addr) (kV doc pm:Value) (an:Option Addr) (cdv ct:Value) (osl:Array (Option Value)),
  fd=K3z x qual (z3e st) (z0x st) (j4 st) .none kV doc pm an cdv ct/\K.lookup f=some ⟨oc,od,.func fd,osl⟩/\K34 K cdv qual=true
 kp:K3n K (.ref f)=true
section
variable{base:Heap}
theorem Fun.ok{f:Addr}{N:List Str}{k:Nat}{sp:Sp}(F:Fun K x qual st f fd)(S:FnScope N ps (j4 st))(len:∀vs H Q E,sp vs H Q E->vs.length=ps.length)
 (hbody:∀(cdv:Value) (A:Around) (outer:List Env) (s:Shared) (H:Hp) (vs:List V) (Q:VK) (E:XK),Room k (A.deeper (envOfC qual (j4 st) .(4) f cdv))->sp vs H Q E ->
  ∃t,PSs (cxOf CX0 P w K mg base N qual (j4 st) f cdv A outer s H E).nox (z0x st) t/\t { nx:=λ_ H'=>Q .non H',rt:=Q } (start N vs) H):FnOk P w K mg base CX0 (k+1) f fd ps sp:=by
 obtain⟨oc,od,kV,doc,pm,an,cdv,ct,osl,rfl,lk,hcd⟩:=F.ex;refine zD3 lk hcd S len λA outer s H vs Q E hr hsp=>?_;obtain⟨t,h,q⟩:=hbody cdv A outer s H vs Q E hr hsp;exact⟨t,h.nox,q⟩
theorem Fun.binds{f:Addr}{ps:List Str}(F:Fun K x qual st f fd)
 (h:∀(kV doc pm:Value) (an:Option Addr) (cdv ct:Value) (us:List Value),us.length=ps.length->bindArgs (K3z x qual (z3e st) (z0x st) (j4 st) .none kV doc pm an cdv ct) ⟨us,[]⟩=pure (ps.zip us)):Binds K fd ps []:=by
 obtain⟨oc,od,kV,doc,pm,an,cdv,ct,osl,rfl,lk,hcd⟩:=F.ex;exact .all (h kV doc pm an cdv ct)
theorem zW6{f:Addr}{oc:Value}{od an:Option Addr}{kV doc pm cdv ct:Value}(l:K.lookup f=some ⟨oc,od,.func (K3z x qual (z3e st) (z0x st) (j4 st) .none kV doc pm an cdv ct),osl⟩)
 (c:K34 K cdv qual=true) (k:K3n K (.ref f)=true):Fun K x qual st f (K3z x qual (z3e st) (z0x st) (j4 st) .none kV doc pm an cdv ct):=⟨⟨oc,od,kV,doc,pm,an,cdv,ct,osl,rfl,l,c⟩,k⟩
end
theorem z4l{k:Nat}(hr:Room k A):A.units+1<cLine:=K29 (K6g (by decide:1<=64) _) hr.units
section
variable{κ:Type}[DecidableEq κ]
def valV(kvs:List (κ×V))(k:κ):Option V:=(kvs.find? λkv=>decide (kv.1=k)).map (·.2)
def putK(kvs:List (κ×V))(k:κ)(v:V):List (κ×V):=
 if (kvs.any λkv=>decide (kv.1=k))=true then kvs.map (λkv=>if kv.1=k then (kv.1,v) else kv) else kvs++[(k,v)]
theorem z4u{p:κ×V}{r:List (κ×V)}{k:κ}(e:p.1=k):valV (p::r) k=some p.2:=by simp[valV,K1m,e]
theorem z4r{p:κ×V}{r:List (κ×V)}{k:κ}(e:¬ p.1=k):valV (p::r) k=valV r k:=by simp[valV,K1m,e]
theorem z8J(k:κ):∀kvs:List (κ×V),(kvs.any λkv=>decide (kv.1=k))=(valV kvs k).isSome
 | []=>rfl
 | p::r=>by
  rw[K2d];by_cases e:p.1=k
  ·simp only[z4u e,decide_eq_true e,Bool.true_or,Option.isSome_some]
  ·rw[z4r e,.(y) e,K4o];exact z8J k r
theorem z2e(kvs:List (κ×V))(k:κ)(v:V):(putK kvs k v).length<=kvs.length+1:=by
 unfold putK;split
 ·rw[K03];omega
 ·rw[K02,K0d,K0l];omega
theorem RelO.isSome_eq{u:Option Value}(r:RelO o u):o.isSome=u.isSome:=by
 cases o with
 | none=>cases u with
  | none=>rfl
  | some _=>exact(show False from r).elim
 | some _=>cases u with
  | none=>exact(show False from r).elim
  | some _=>rfl
theorem KV.val{kvs:List (κ×V)}{vs:List (κ×Value)}(r:KV kvs vs)(k:κ):RelO (valV kvs k) (K9e vs k):=by
 unfold KV at r;induction r with
 | nil=>exact K3b
 | @cons p q ps qs h t ih=>
  obtain⟨h1,h2⟩:=h;by_cases e:p.1=k
  ·have e':q.1=k:=h1.symm.trans e;have b:K9e (q::qs) k=some q.2:=by simp[K9e,K1m,e']
   rw[z4u e,b];exact h2
  ·have e':¬ q.1=k:=λz=>e (h1.trans z);have b:K9e (q::qs) k=K9e qs k:=by simp[K9e,K1m,e']
   rw[z4r e,b];exact ih
theorem KV.any{kvs:List (κ×V)}{vs:List (κ×Value)}(r:KV kvs vs)(k:κ):(kvs.any λkv=>decide (kv.1=k))=vs.any λkv=>decide (kv.1=k):=by
 unfold KV at r;induction r with
 | nil=>rfl
 | cons h t ih=>rw[K2d,K2d,ih,h.1]
theorem KV.repl{kvs:List (κ×V)}{vs:List (κ×Value)}(r:KV kvs vs)(k:κ)(ry:RelV y u):
 KV (kvs.map λkv=>if kv.1=k then (kv.1,y) else kv) (vs.map λkv=>if kv.1=k then (kv.1,u) else kv):=by
 unfold KV at r ⊢;induction r with
 | nil=>exact .nil
 | @cons p q ps qs h t ih=>
  rw[K0v,K0v];refine .cons ?_ ih;obtain⟨h1,h2⟩:=h;by_cases e:p.1=k
  ·rw[if_pos e,if_pos (h1.symm.trans e)];exact⟨h1,ry⟩
  ·rw[if_neg e,if_neg (λz=>e (h1.trans z))];exact⟨h1,h2⟩
theorem KV.put{kvs:List (κ×V)}{vs:List (κ×Value)}(r:KV kvs vs)(k:κ)(ry:RelV y u):KV (putK kvs k y) (stored vs k u):=by
 unfold putK stored;rw[r.any k];by_cases e:(vs.any λkv=>decide (kv.1=k))=true
 ·rw[if_pos e,if_pos e];exact r.repl k ry
 ·rw[if_neg e,if_neg e];exact Paired.snoc r ⟨rfl,ry⟩
theorem KV.length{kvs:List (κ×V)}{vs:List (κ×Value)}(r:KV kvs vs):kvs.length=vs.length:=K4m r
end
theorem z9s{k:Key}(r:RelV (kV k) u):(J6 P w).is k u=true:=by
 cases k with
 | inl i=>obtain⟨t,e⟩:=(show ∃t,u=K61 i t from r);subst e;exact z7G P w i t
 | inr x=>obtain⟨t,e⟩:=(show ∃t,u=K9b x t from r);subst e;exact z7B P w x t
theorem z78{P:K1a}{w:World}:∀{ks:List Key}{us:List Value},Vals (ks.map kV) us->ItemsAre (J6 P w) ks us
 | [],_,r=>by rw[K6i]at r;cases r;exact .nil
 | k::ks,_,r=>by
  rw[K0v]at r;cases r with
  | cons h t=>exact .cons (z9s h) (z78 t)
abbrev KT(H:Hp):List (List Key×V)->List (List Key×Addr×Value)->Prop:=Paired λp q=>p.1=q.1/\H q.2.1=.(g (p.1.map kV))/\RelV p.2 q.2.2
theorem KT.val(r:KT H kvs xs)(k:List Key):RelO (valV kvs k) ((atKey xs k).map (·.2)):=by
 induction r with
 | nil=>exact K3b
 | @cons p q ps qs h t ih=>
  obtain⟨h1,_,h2⟩:=h;by_cases e:p.1=k
  ·have e':q.1=k:=h1.symm.trans e;have b:atKey (q::qs) k=some q.2:=by simp[atKey,K1m,e']
   rw[z4u e,b];exact h2
  ·have e':¬ q.1=k:=λz=>e (h1.trans z);have b:atKey (q::qs) k=atKey qs k:=by simp[atKey,K1m,e']
   rw[z4r e,b];exact ih
theorem KT.repl(r:KT H kvs xs)(k:List Key)(ry:RelV y u):
 KT H (kvs.map λkv=>if kv.1=k then (kv.1,y) else kv) (xs.map (putAt k u)):=by
 induction r with
 | nil=>exact .nil
 | @cons p q ps qs h t ih=>
  rw[K0v,K0v];refine .cons ?_ ih;obtain⟨h1,h2,h3⟩:=h;unfold putAt;by_cases e:p.1=k
  ·rw[if_pos e,if_pos (h1.symm.trans e)];exact⟨h1,h2,ry⟩
  ·rw[if_neg e,if_neg (λz=>e (h1.trans z))];exact⟨h1,h2,h3⟩
theorem KT.put(r:KT H kvs xs)(k:List Key){b:Addr}(hb:H b=.(g (k.map kV)))(ry:RelV y u):
 KT H (putK kvs k y) (storedH xs k b u):=by
 have e:(kvs.any λkv=>decide (kv.1=k))=(atKey xs k).isSome:=by
  rw[z8J,(r.val k).isSome_eq,Z17]
 unfold putK storedH;rw[e];by_cases q:(atKey xs k).isSome=true
 ·rw[if_pos q,if_pos q];exact r.repl k ry
 ·rw[if_neg q,if_neg q];exact Paired.snoc r ⟨rfl,hb,ry⟩
theorem KT.keeps(r:KT H kvs xs)(ht:∀b ys,H b=.(g ys)->H' b=.(g ys)):KT H' kvs xs:=
 Paired.mapP r λ_ _ z=>⟨z.1,ht _ _ z.2.1,z.2.2⟩
theorem zY4{u:HO}(ok:HOk P w H h)(e:Rd H a u):ObjOk P w H h a u:=e.ok ok
theorem zp9{kvs:List (Key×V)}(ok:HOk P w H h)(e:Rd H a (.dK kvs)):kvs.length<=sizeLine/\(a==K3p)=false/\∃vs,KV kvs vs/\h.DictOf (J6 P w) a vs:=
 show ObjOk P w H h a (.dK kvs) from zY4 ok e
theorem z9C{kvs:List (Key×V)}(ok:HOk P w H h)(e:H a=some (.dK kvs)):kvs.length<=sizeLine/\(a==K3p)=false/\∃vs,KV kvs vs/\h.DictOf (J6 P w) a vs:=zp9 ok (.inl e)
theorem z8P{ks:List Key}(ok:HOk P w H h)(e:H a=.(g (ks.map kV))):(K9f (J6 P w)).is h ks a:=by
 obtain⟨_,its,r,o,h1,h2,n,h3⟩:=(show ObjOk P w H h a (.tup (ks.map kV)) from ok a _ e);exact⟨o,its.toArray,n,h1,h2.1,h3,by simpa using z78 r⟩
theorem zs7(ok:HOk P w H h)(e:Rd H a (.dT kvs)):kvs.length<=sizeLine/\(a==K3p)=false /\
 ∃xs,KT H kvs xs/\h.DictOfH (K9f (J6 P w)) a xs:=by
 obtain⟨z,y,xs,r,o,es,ep,h1,h2,h3,h4,h5⟩:=(show ObjOk P w H h a (.dT kvs) from zY4 ok e);refine⟨z,y,xs,r,o,es,ep,h1,h2,h3,h4,λx hx=>?_,h5⟩;have all:∀{l:List (List Key×V)} {m:List (List Key×Addr×Value)},KT H l m->∀x∈m,(K9f (J6 P w)).is h x.1 x.2.1:=by
  intro l m q;induction q with
  | nil=>intro x hx;exact nomatch hx
  | @cons p q ps qs hq t ih=>
   intro x hx;rcases K0y.mp hx with e|hx
   ·subst e;exact z8P ok (by rw[<- hq.1];exact hq.2.1)
   ·exact ih x hx
 exact all r x hx
theorem Z0R(ok:HOk P w H h)(e:H a=some (.dT kvs)):kvs.length<=sizeLine/\(a==K3p)=false /\
 ∃xs,KT H kvs xs/\h.DictOfH (K9f (J6 P w)) a xs:=zs7 ok (.inl e)
def DGet(H:Hp)(a:Addr)(y:V)(r:Option V):Prop:=
 (∃kvs k,Rd H a (.dK kvs)/\y=kV k/\r=valV kvs k)\/∃kvs k b,Rd H a (.dT kvs)/\y=.ref b/\H b=.(g (k.map kV))/\r=valV kvs k
def DPut(H:Hp)(a:Addr)(y v:V)(H':Hp):Prop:=
 (∃kvs k,H a=some (.dK kvs)/\y=kV k/\kvs.length<sizeLine/\H'=upd H a (.dK (putK kvs k v))) \/
 ∃kvs k b,H a=some (.dT kvs)/\y=.ref b/\H b=.(g (k.map kV))/\kvs.length<sizeLine/\H'=upd H a (.dT (putK kvs k v))
theorem DPut.k{H:Hp}{a:Addr}{kvs:List (Key×V)}{k:Key}{v:V}(e:H a=some (.dK kvs))(hl:kvs.length<sizeLine):DPut H a (kV k) v (upd H a (.dK (putK kvs k v))):=.inl ⟨kvs,k,e,rfl,hl,rfl⟩
section
variable{v:V}{r:Value}
theorem Inv.big(I:Inv X pins σ H s):K3p<s.heap.objs.size:=by
 have h:K1p<s.heap.objs.size:=(I.mod.glob.keeps I.bk).lt;exact Z16 .(0) h
theorem za2(hu:A.units+1<cLine)(I:Inv X pins σ H s)(g:DGet H a y (some v))(ry:RelV y u)(h:∀w' s',Inv X pins σ H s'->RelV v w'->Q w' s'):
 wpAny .(8) A (K6l (.ref a) u) Q E s:=by
 rcases g with ⟨kvs,k,e,ey,l⟩|⟨kvs,k,b,e,ey,eb,l⟩
 ·subst ey;obtain⟨z,hd,vs,rel,dd⟩:=zp9 I.hok e;obtain⟨w',hw,rw'⟩:=RelO.some_of (v:=v) (o:=K9e vs k) (by rw[l];exact rel.val k);exact wpAny_getItem_of (z9s ry) dd.mapOf hw (h w' _ (I.tok _) rw')
 ·subst ey;cases (show u=K1f b from ry);obtain⟨z,hd,xs,rel,dd⟩:=zs7 I.hok e;obtain⟨w',hw,rw'⟩:=RelO.some_of (v:=v) (o:=(atKey xs k).map (·.2)) (by rw[l];exact rel.val k);obtain⟨p,hp,hp2⟩:=K15.mp hw;refine wpAny_getItem_heap (K6z hu) (z8P I.hok eb) dd hp ?_;rw[hp2];exact h w' _ (I.tok _) rw'
theorem zB1(hu:A.units+1<cLine)(I:Inv X pins σ H s)(g:DGet H a y o)(ry:RelV y u)(h:∀s',Inv X pins σ H s'->Q (.bool (!o.isSome)) s'):
 wpAny .(8) A (K22 .NotIn u (.ref a)) Q E s:=by
 rcases g with ⟨kvs,k,e,ey,l⟩|⟨kvs,k,b,e,ey,eb,l⟩
 ·subst ey;obtain⟨z,hd,vs,rel,dd⟩:=zp9 I.hok e;refine wpAny_notIn_of (z9s ry) hd dd.mapOf ?_;rw[<- (rel.val k).isSome_eq,<- l];exact h _ (I.tok _)
 ·subst ey;cases (show u=K1f b from ry);obtain⟨z,hd,xs,rel,dd⟩:=zs7 I.hok e;refine wpAny_notIn_heap (K6z hu) (z8P I.hok eb) hd dd ?_;have q:=(rel.val k).isSome_eq;rw[Z17]at q;rw[<- q,<- l];exact h _ (I.tok _)
theorem z4I{t':Nat}{ob:HO}(I:Inv X pins σ H s)(mu:Mut (H a))(hs:K3f a s.heap h')(he:∃q,h'.get? a=some q)(new:ObjOk X.prog X.w (upd H a ob) h' a ob):
 Inv X pins σ (upd H a ob) { s with heap:=h',toks:=t' }:=
 I.write (x:=a) (e:=a) mu (.inl rfl) (λb q hb z=>(hs.2 b hb).trans z) he new
theorem zk2{H':Hp}{kvs:List (Key×V)}(z:kvs.length<=sizeLine)(hd:(a==K3p)=false)(rel:KV kvs vs)(dd:h'.DictOf (J6 P w) a vs):
 ObjOk P w H' h' a (.dK kvs):=⟨z,hd,vs,rel,dd⟩
theorem zb3{Q:Unit->Shared->Prop}(hu:A.units+1<cLine)(I:Inv X pins σ H s)(g:DPut H a y v H')(ry:RelV y u)(rv:RelV v r)(h:∀s',Inv X pins σ H' s'->Q () s'):
 wpAny .(8) A (Z27 (.ref a) u r) Q E s:=by
 rcases g with ⟨kvs,k,e,ey,l,eH⟩|⟨kvs,k,b,e,ey,eb,l,eH⟩
 ·subst ey eH;obtain⟨z,hd,vs,rel,dd⟩:=z9C I.hok e;have hz:vs.length<=sizeLine:=by rw[<- rel.length];exact z
  have hl:(putK kvs k v).length<=sizeLine:=by have:=z2e kvs k v;omega
  refine wpAny_setItem_pairs (hsz:=hz) (z9s ry) dd λh' dd' hs=>h _ ?_;have he:∃q,h'.get? a=some q:=let ⟨q,_,_,hq,_⟩:=dd';⟨q,hq⟩;exact z4I I (by rw[e];exact K3b) hs he (zk2 hl hd (rel.put k rv) dd')
 ·subst ey eH;cases (show u=K1f b from ry);obtain⟨z,hd,xs,rel,dd⟩:=Z0R I.hok e;have hz:.(21)<=sizeLine:=by rw[<- K4m rel];exact z
  have hl:(putK kvs k v).length<=sizeLine:=by have:=z2e kvs k v;omega
  refine wpAny_setItem_heap (hsz:=hz) (K6z hu) (z8P I.hok eb) dd λh' dd' hs=>h _ ?_;obtain⟨q,es,ep,hq,h2,h3,h4,_,h5⟩:=dd';refine z4I I (by rw[e];exact K3b) hs ⟨q,hq⟩ ⟨hl,hd,_,(rel.put k eb rv).keeps λc ys ec=>?_,q,es,ep,hq,h2,h3,h4,h5⟩;rw[Y1 (Z0J ec e (λz=>nomatch z))];exact ec
end
def NoSl(i:Expr):Prop:=∀ov iv,K99 i false ov iv=operate [ov,iv] (K6l ov iv)
theorem zz9{prog:K1a}{w:World}{A:Around}{E:Value->Shared->Prop}{s:Shared}{env:Env}{value slice:Expr}{pos:Pos}{T id:String}{Q:Value->Shared->Prop}
 (hl:typeLookup (.type T) "__getitem__" = pure (some (.builtin id))) (hs:NoSl slice)
 (h:wpAny (model prog w) A (eval value env) (λo s₁=>wpAny (model prog w) A (eval slice env) (λi s₂=>s₂.TypeIs o T/\wpAny (model prog w) A (K6l o i) Q E s₂) E s₁) E s) :
 wpAny (model prog w) A (eval (.Subscript value slice pos) env) Q E s:=by
 refine Subscript_ (K2i h (λo s₁ h₁=>K2i h₁ (λi s₂ h₂=>?_) λ_ _ x=>x) λ_ _ x=>x);obtain⟨hT,h₂⟩:=h₂;unfold K9j;refine K0 ?_;rw[getitemInPython_of_ne hT.not_modules];refine K0 (K8z hT hl ?_);have fin:wpAny (model prog w) A (K99 slice false o i) (λr s₃=>wpAny (model prog w) A (letTemporaryGo value o r >>= λ_=>pure r) Q E s₃) E s₂:=by
  rw[hs o i];exact wpAny_operating (K2i h₂ (λr s₃ h₃=>K0 (wpAny_letTemporaryGo (K9 h₃))) λ_ _ x=>x)
 first
  | exact K9 (K0 fin)
  | exact K0 (K9 (K0 fin))
  | exact K0 fin
theorem z7W(I:Inv X pins σ H s)(g:DGet H a y o):s.TypeIs (.ref a) "dict":=by
 rcases g with ⟨kvs,k,e,_,_⟩|⟨kvs,k,b,e,_,_,_⟩
 ·obtain⟨_,_,vs,_,dd⟩:=zp9 I.hok e;exact dd.typeIs
 ·obtain⟨_,_,xs,_,dd⟩:=zs7 I.hok e;exact dd.typeIs
def Z0Y(td ty:TE):TE:=λσ H Q=>td σ H λx H1=>ty σ H1 λy H2=>∃a v,x=.ref a/\DGet H2 a y (some v)/\Q v H2
section
variable{o i e:Expr}{pos' tpos:Pos}{td ty tv:TE}
theorem zE5(hu:X.A.units+1<cLine)(ho:PE X o td)(hi:PE X i ty)(hs:NoSl i):PE X (.Subscript o i pos) (Z0Y td ty):=by
 intro pins s σ H Q I h;refine zz9 PySem.F.slot_dict_getitem.lookup hs (thn (ho pins s σ H _ I h) λu s1 ⟨x,H1,I1,rx,q1⟩=>thn (hi pins s1 σ H1 _ I1 q1) λiv s2 ⟨y,H2,I2,ry,a,v,ex,g,q2⟩=>?_);subst ex;obtain rfl:u=K1f a:=rx;exact⟨z7W I2 g,za2 hu I2 g ry λw' s3 I3 rw'=>⟨v,H2,I3,rw',q2⟩⟩
end
theorem z8W(h:Heap)(hb:K3p<h.objs.size):ObjOk P w H (h.push { cls:=.type "dict",data:=.dict #[] }) h.objs.size (.dK []):=
 ⟨K3k _,beq_eq_false_iff_ne.mpr (K3a (K0o hb)),[],.nil,Heap.DictOf.new h⟩
def z9K:List (TE×TE)->St->Hp->(List (V×V)->Hp->Prop)->Prop
 | [],_,H,Q=>Q [] H
 | (tk,tv)::r,σ,H,Q=>tk σ H λx H1=>tv σ H1 λy H2=>z9K r σ H2 λps H3=>Q ((x,y)::ps) H3
abbrev VV:List (V×V)->List (Value×Value)->Prop:=Paired λp q=>RelV p.1 q.1/\RelV p.2 q.2
def PPs(X:Cx)(pos:Pos)(keys:List (Option Expr))(values:List Expr)(trs:List (TE×TE)):Prop:=
 ∀(pins:List .(A)) (s:Shared) (σ:St) (H:Hp) (Q:List (V×V)->Hp->Prop),Inv X pins σ H s->z9K trs σ H Q ->
  wpAny .(8) X.A (evalPairs (pairTrees keys values X.env pos)) (λvs s'=>∃ps H',Inv X pins σ H' s'/\VV ps vs/\Q ps H') X.xe s
theorem zD0:PPs X pos [] [] []:=λpins s σ H Q I h=>pairTrees_nil_walk ⟨[],H,I,.nil,h⟩
theorem zq2{k v:Expr}{vs:List Expr}{tk tv:TE}(hk:PE X k tk)(hv:PE X v tv)(hr:PPs X pos ks vs trs):
 PPs X pos (some k::ks) (v::vs) ((tk,tv)::trs):=λpins s σ H Q I h=>
 pairTrees_cons_walk (thn (hk pins s σ H _ I h) λu s1 ⟨x,H1,I1,rx,q1⟩=>thn (hv pins s1 σ H1 _ I1 q1) λw2 s2 ⟨y,H2,I2,ry,q2⟩=>
  thn (hr pins s2 σ H2 _ I2 q2) λws s3 ⟨ps,H3,I3,rel,q3⟩=>⟨(x,y)::ps,H3,I3,.cons ⟨rx,ry⟩ rel,q3⟩)
def z7y(kvs more:List (Key×V)):List (Key×V):=more.foldl (λacc kv=>putK acc kv.1 kv.2) kvs
theorem KV.merge:∀{more:List (Key×V)}{rs:List (Key×Value)}{kvs:List (Key×V)}{vs:List (Key×Value)},KV more rs->KV kvs vs->KV (z7y kvs more) (merged vs rs):=by
 intro more rs kvs vs r;unfold KV at r;induction r generalizing kvs vs with
 | nil=>intro q;exact q
 | @cons p q ps qs h t ih=>
  intro r0;have e:KV (putK kvs p.1 p.2) (stored vs q.1 q.2):=by
   have:=r0.put p.1 h.2;rw[<- h.1];exact this
  exact ih e
theorem z3K:∀(more kvs:List (Key×V)),(z7y kvs more).length<=kvs.length+more.length
 | [],kvs=>by show kvs.length<=kvs.length+0;omega
 | p::r,kvs=>by
  have h1:=z3K r (putK kvs p.1 p.2);have h2:=z2e kvs p.1 p.2;show (z7y (putK kvs p.1 p.2) r).length<=_;rw[K0d];omega
theorem z5r{P:K1a}{w:World}:∀{kvs:List (Key×V)}{ws:List (Value×Value)},VV (kvs.map λkv=>(kV kv.1,kv.2)) ws->∃rs,Carries (J6 P w) ws rs/\KV kvs rs
 | [],_,r=>by rw[K6i]at r;cases r;exact⟨[],K3b,.nil⟩
 | p::kvs,_,r=>by
  rw[K0v]at r;cases r with
  | @cons a b as bs h t=>
   obtain⟨rs,c,q⟩:=z5r (P:=P) (w:=w) t;obtain⟨b1,b2⟩:=b;exact⟨(p.1,b2)::rs,⟨z9s h.1,rfl,c⟩,.cons ⟨rfl,h.2⟩ q⟩
def Z0y(trs:List (TE×TE)):TE:=λσ H Q=>∀p,H p=none->z9K trs σ (upd H p (.dK [])) λps H2=>H2 p=some (.dK [])/\∃kvs:List (Key×V),ps=kvs.map (λkv=>(kV kv.1,kv.2))/\kvs.length<=15/\Q (.ref p) (upd H2 p (.dK (z7y [] kvs)))
theorem zK2(h:PPs X pos keys values trs)(hall:keys.all (·.isSome)=true)(hl:keys.length=values.length)(h0:keys≠[])
 (h15:keys.length<=15):PE X (.Dict keys values pos) (Z0y trs):=by
 intro pins s σ H Q I q;have hn:=I.hok.fresh (K05 .(4));have I1:=I.laid (a:=.(4)) (o:=.dK []) (h':=s.heap.push { cls:=.type "dict",data:=.dict #[] }) (t':=s.toks) (λ_ _ q=>K8 _ q) (K05 _) (z8W s.heap I.big);refine wpAny_Dict_walk (knd:=J6 X.prog X.w) hall hl h0 h15 (thn (h pins _ σ _ _ I1 (q _ hn)) λws s2 ⟨ps,H2,I2,rel,e,kvs,ep,lk,q2⟩=>?_);subst ep;obtain⟨rs,c,rk⟩:=z5r (P:=X.prog) (w:=X.w) rel;obtain⟨z,hd,vs0,r0,dd⟩:=z9C I2.hok e;cases r0;refine⟨rs,c,dd,λh' dd' hs=>⟨.ref .(4),_,?_,rfl,q2⟩⟩;have hz:(z7y [] kvs).length<=sizeLine:=by
  have h1:=z3K kvs [];rw[K0l]at h1;rw[K7j];omega
 have he:∃q,h'.get? .(4)=some q:=let ⟨q,_,_,hq,_⟩:=dd';⟨q,hq⟩;exact z4I I2 (by rw[e];exact K3b) hs he (zk2 hz hd (rk.merge .nil) dd')
abbrev z4J(ifs:List Expr)(env:Env):Sem Bool:=
 forIn ifs true λc r=>if r=true then do { let ok <- isTrue c env (eval c env);pure (K4g ok) } else pure (K4g r)
def z0n(env:Env):List (Str×K5r)->List (Str×Addr)->List (Str×Addr)
 | [],acc=>acc
 | (n,k)::r,acc=>z0n env r (if k==.free then match env.cells.lookup n with|some c=>(n,c)::acc|none=>acc else acc)
theorem z3Y{env:Env}:∀(names:List (Str×K5r)) (acc:List (Str×Addr)),(∀x∈names,x.2=.free->∃c,env.cells.lookup x.1=some c) ->
 (forIn names acc λ(x:Str×K5r) (r:List (Str×Addr))=>(if (x.2==K4l)=true then do { let c <- cellOf env x.1;pure (K4g ((x.1,c)::r)) } else pure (K4g r):Sem (ForInStep (List (Str×Addr)))))=(pure (z0n env names acc):Sem _)
 | [],acc,_=>by rw[K95];rfl
 | (n,k)::r,acc,h=>by
  rw[K8x];have hr:∀x∈r,x.2=.free->∃c,env.cells.lookup x.1=some c:=λx hx=>h x (K13 _ hx);by_cases hk:k=.free
  ·subst hk;obtain⟨c,hc⟩:=h (n,.free) K1e rfl;have hc':env.cells.lookup n=some c:=hc;simp only[z0n,beq_self_eq_true,if_true,cellOf,hc',pure_bind];exact z3Y r _ hr
  ·have hb:(k==K4l)=false:=by simpa using hk
   simp only[z0n,hb,K1y,if_false,pure_bind];exact z3Y r _ hr
theorem z3J{scope:Scope}(h:∀x∈scope.names,x.2=.free->∃c,env.cells.lookup x.1=some c):
 closureFor scope env=pure (z0n env scope.names []):=by
 unfold closureFor;exact congrArg (λm:Sem (List (Str×Addr))=>m >>= λz=>pure z) (z3Y scope.names [] h)
theorem z8N{env:Env}:∀(names:List (Str×K5r)) (acc:List (Str×Addr)) {x:Str}{c:Addr},(z0n env names acc).lookup x=some c ->
 env.cells.lookup x=some c\/acc.lookup x=some c
 | [],acc,x,c,h=>.inr h
 | (n,k)::r,acc,x,c,h=>by
  rcases z8N r _ h with q|q
  ·exact .inl q
  ·by_cases hk:(k==K4l)=true
   ·rw[if_pos hk]at q;cases e:env.cells.lookup n with
    | none=>rw[e]at q;exact .inr q
    | some c'=>
     rw[e]at q;simp only[K30]at q;cases hx:x==n with
     | true=>
      rw[hx]at q;cases q;have:x=n:=by simpa using hx
      subst this;exact .inl e
     | false=>rw[hx]at q;exact .inr q
   ·rw[if_neg hk]at q;exact .inr q
theorem z8D{env:Env}{x:Str}{c:Addr}(hc:env.cells.lookup x=some c):∀(names:List (Str×K5r)) (acc:List (Str×Addr)),
 acc.lookup x=some c->(z0n env names acc).lookup x=some c
 | [],acc,h=>h
 | (n,k)::r,acc,h=>by
  refine z8D hc r _ ?_;by_cases hk:(k==K4l)=true
  ·rw[if_pos hk];cases e:env.cells.lookup n with
   | none=>exact h
   | some c'=>
    simp only[K30];cases hx:x==n with
    | true=>
     have:x=n:=by simpa using hx
     subst this;rw[hc]at e;exact e.symm
    | false=>exact h
  ·rw[if_neg hk];exact h
theorem z7V{env:Env}{x:Str}{c:Addr}(hc:env.cells.lookup x=some c):∀(names:List (Str×K5r)) (acc:List (Str×Addr)),
 (x,K4l)∈names->(z0n env names acc).lookup x=some c
 | [],_,h=>absurd h .(f)
 | (n,k)::r,acc,h=>by
  rcases K0y.mp h with e|h
  ·cases e;refine z8D hc r _ ?_;rw[if_pos .(f),hc];simp[K30]
  ·exact z7V hc r _ h
theorem z2Z{sc:Scope}{k:NameKind}(h:(relabel sc env).names.lookup x=some k):
 ∃k0,sc.names.lookup x=some k0/\(k=k0\/(k=.cell/\k0=.free)):=by
 unfold relabel at h;dsimp only at h;generalize sc.names=ns at h ⊢;induction ns with
 | nil=>simp at h
 | cons a r ih=>
  obtain⟨n,k1⟩:=a;simp only[K0v]at h;by_cases hc:(k1==K4l&&env.scope.kind==.function&&env.kindOf n==some .cell)=true
  ·rw[if_pos hc]at h;simp only[K30]at h ⊢;cases hx:x==n with
   | true=>
    rw[hx]at h;cases h;refine⟨k1,rfl,.inr ⟨rfl,?_⟩⟩;simp only[K0i]at hc;simpa using hc.1.1
   | false=>rw[hx]at h;exact ih h
  ·rw[if_neg hc]at h;simp only[K30]at h ⊢;cases hx:x==n with
   | true=>rw[hx]at h;cases h;exact⟨_,rfl,.inl rfl⟩
   | false=>rw[hx]at h;exact ih h
theorem z6A{sc:Scope}{env:Env}(h:sc.names.lookup x=some .free):
 (relabel sc env).names.lookup x=some .cell\/(relabel sc env).names.lookup x=some .free:=by
 unfold relabel;dsimp only;generalize sc.names=ns at h ⊢;induction ns with
 | nil=>simp at h
 | cons a r ih=>
  obtain⟨n,k1⟩:=a;simp only[K0v];simp only[K30]at h;by_cases hc:(k1==K4l&&env.scope.kind==.function&&env.kindOf n==some .cell)=true
  ·rw[if_pos hc];simp only[K30];cases hx:x==n with
   | true=>exact .inl rfl
   | false=>rw[hx]at h;exact ih h
  ·rw[if_neg hc];simp only[K30];cases hx:x==n with
   | true=>rw[hx]at h;exact .inr h
   | false=>rw[hx]at h;exact ih h
structure CS(X:Cx)(sc:Scope)(N':List Str)(cap:List (Option Nat)):Prop where
 kind:sc.kind=.function
 nocell:∀y∈sc.names,y.2≠.cell
 loc:∀x∈sc.names,x.2=.local->sc.names.lookup x.1=some .local
 fr:∀x∈sc.names,x.2=.free->X.env.kindOf x.1=some .cell\/X.env.kindOf x.1=some .free
 len:cap.length=N'.length
 capt:∀(i j:Nat),cap[i]?=some (some j)->∃x,N'[i]?=some x/\X.N[j]?=some x/\sc.names.lookup x=some .free
def z4C(cap:List (Option Nat))(σ:St):St:=cap.map λo=>match o with|some j=>(σ[j]?).join|none=>none
def Cx.comp(X:Cx)(N':List Str)(sc:Scope)(s:Shared)(H:Hp)(fp:List Addr)(xe:Value->Shared->Prop):Cx:=
 { X with N:=N',s₀:=s,H₀:=H,env:=compEnvC sc (z0n X.env sc.names []) s.heap.objs.size X.env,outer:=X.stack,stack:=X.stack,ex:=fp,fn:=λ_=>false,pn:=[],xe:=xe }
section
variable{sc:Scope}
theorem CS.cells(S:CS X sc N' cap)(I:Inv X pins σ H s):∀x∈sc.names,x.2=.free->∃c,X.env.cells.lookup x.1=some c:=λx hx hf=>
 I.ok.has x.1 (S.fr x hx hf)
theorem Inv.compIn{t:Nat}(I:Inv X pins σ H s)(S:CS X sc N' cap)(hf:∀b∈fp,FpOk X pins H b)(hlt:∀b∈fp,b<s.heap.objs.size)
 (hns:h'.Ns .(4) λ_=>none) (hk:∀b o,s.heap.get? b=some o->h'.get? b=some o) :
 Inv .(9) [] (z4C cap σ) H { s with heap:=h',toks:=t }:=by
 have hfrom:∀{x c},(z0n X.env sc.names []).lookup x=some c->X.env.cells.lookup x=some c:=λ{x c} q=>by
  rcases z8N _ _ q with z|z
  ·exact z
  ·simp at z
 have hlook:∀ {x},((relabel sc X.env).names.lookup x=some .cell\/(relabel sc X.env).names.lookup x=some .free)->sc.names.lookup x=some .free:=fun {x} q=>by
  rcases q with q|q
  ·obtain⟨k0,e,z⟩:=z2Z q;rcases z with z|z
   ·subst z;exact absurd rfl (S.nocell _ (K2b e))
   ·rw[e,z.2]
  ·obtain⟨k0,e,z⟩:=z2Z q;rcases z with z|z
   ·rw[e,z]
   ·cases z.1
 refine⟨⟨I.ok.mod,?_,I.ok.glob,I.ok.blt,K05 _,λx y c h1 h2=>I.ok.inj x y c (hfrom h1) (hfrom h2),λx hx=>?_,λx c q=>absurd (show false=true from q) .(0),I.ok.hd,I.ok.frames,.inl rfl,λb hb=>⟨?_,λx c q=>?_⟩,
  I.bs,K0z I.ok.bsz I.sz,λb o e hb=>?_,λb hb hz=>?_,I.stack,I.stkFree⟩,
  rfl,I.bare,Un.kept hk,⟨_,hns,λi x v h1 h2 h3=>?_⟩,λx c q=>?_,I.hok.fresh (K05 _),λx c q=>I.freeC x c (hfrom q),λp hp=>absurd (show p∈([]:List .(A)) from hp) .(f),I.hok.kept hk,?_⟩
 ·exact S.kind
 ·have e:=hlook hx;have e2:=K2b e;obtain⟨c,hc⟩:=I.ok.has x (S.fr _ e2 rfl);exact⟨c,z7V hc _ _ e2⟩
 ·exact K0o (hlt b hb)
 ·exact(hf b hb).2.2.2.2.1 x c (hfrom q)
 ·rcases(hf b hb).2.2.2.1 with z|z
  ·exact I.ok.noex b o e z
  ·exact absurd (K0j (K0a e) (K0z I.ok.bsz z)) (K2e _)
 ·rcases K0y.mp (I.stkSub b hz) with z|z
  ·exact(hf b hb).2.1 z
  ·exact(hf b hb).2.2.1 z
 ·have h2':(cap.map λo=>match o with|some j=>(σ[j]?).join|none=>none)[i]?=some (some v):=h2;rw[K04]at h2';cases e:cap[i]? with
  | none=>rw[e]at h2';cases h2'
  | some o=>
   rw[e]at h2';cases o with
   | none=>simp at h2'
   | some j=>
    have hj:σ[j]?=some (some v):=by
     have h4:(σ[j]?).join=some v:=by simpa using h2'
     cases e2:σ[j]? with
     | none=>rw[e2]at h4;simp at h4
     | some o2=>rw[e2]at h4;simp at h4;rw[h4]
    obtain⟨y,n1,n2,n3⟩:=S.capt i j e;have ey:y=x:=by
     have h1':N'[i]?=some x:=h1;rw[n1]at h1';exact K11 h1'
    subst ey;have hm:=K2b n3;have hkind:=S.fr _ hm rfl;obtain⟨m,hn,hl⟩:=I.loc;have vis:Vis X.env.scope y:=by
     rcases hkind with z|z
     ·exact .inr (.inl z)
     ·exact .inr (.inr z)
    obtain⟨u,r,l⟩:=hl j y v n2 hj vis;refine⟨u,r,.inr ?_⟩;rcases l with ⟨z,_⟩|⟨_,c,hc,hcell⟩
    ·have z':X.env.kindOf y=some .local:=z;rcases hkind with q|q<;>(have q':X.env.kindOf y=_:=q;rw[z']at q';cases q')
    ·obtain⟨o,ho,hd⟩:=hcell;exact⟨z6A n3,c,z7V hc _ _ hm,o,hk c o ho,hd⟩
 ·obtain⟨v,o,ho,hd⟩:=I.cell x c (hfrom q);exact⟨v,o,hk c o ho,hd⟩
 ·show (cap.map _).length=N'.length;rw[K03];exact S.len
theorem Inv.compOut{pins':List .(A)}{σ':St}{H':Hp}{s':Shared}(I:Inv X pins σ H s)(hf:∀b∈fp,FpOk X pins H b)
 (J:Inv .(9) pins' σ' H' s') (hs:K3f .(4) s'.heap h'):Inv X pins σ H' { s' with heap:=h' }:=by
 have hu:Un (frs X.stack) fp H H' s.heap s'.heap:=J.base;have hC:H' .(4)=none:=J.free;have lt:∀{b:Addr} {o:Obj},s.heap.get? b=some o->b≠s.heap.objs.size:=λe=>K0o (K0a e);refine I.call' (s':={ s' with heap:=h' }) (ch:=fp) J.os ⟨λb o e n h1 h2=>?_,λb o e n h1 h2=>?_,hu.free,λb o e h1=>?_,hu.tups,hu.frzs,hu.tbls⟩ (λb u e=>?_) J.bare (λb hb=>⟨(hf b hb).2.2.2.1,(hf b hb).2.1,(hf b hb).2.2.2.2.1,(hf b hb).2.2.2.2.2⟩)
 ·exact(hs.2 b (lt e)).trans (hu.keep b o e n h1 h2)
 ·obtain⟨sl,q⟩:=hu.slot b o e n h1 h2;exact⟨sl,(hs.2 b (lt e)).trans q⟩
 ·obtain⟨o',q⟩:=hu.there b o e h1;exact⟨o',(hs.2 b (lt e)).trans q⟩
 ·refine(J.hok b u e).stay (λc v hc q=>?_) (λ_ q=>q) λ_ _ q=>q;have ne:c≠s.heap.objs.size:=by
   rintro rfl;rcases hc with z|z
   ·rw[<- z,hC]at e;cases e
   ·rw[hC]at z;cases z
  exact(hs.2 c ne).trans q
end
def PTs(X:Cx)(ifs:List Expr)(t:TT):Prop:=
 ∀(pins:List .(A)) (s:Shared) (σ:St) (H:Hp) (Q:Bool->Hp->Prop),Inv X pins σ H s->t σ H Q->wpAny .(8) X.A (z4J ifs X.env) (TP X pins σ Q) X.xe s
def zB6:TT:=λ_ H Q=>Q true H
def zZ2(t r:TT):TT:=λσ H Q=>t σ H λb H1=>if b=true then r σ H1 Q else Q false H1
theorem z7o{X:Cx}{E:Value->Shared->Prop}{Q:Bool->Shared->Prop}:∀{ifs:List Expr}{s:Shared},Q false s ->
 wpAny .(8) X.A (forIn ifs false λc r=>if r=true then do { let ok <- isTrue c X.env (eval c X.env);pure (K4g ok) } else pure (K4g r)) Q E s
 | [],s,h=>by rw[K95];exact K9 h
 | c::r,s,h=>by
  rw[K8x];refine K0 ?_;rw[if_neg .(0)];exact K9 (z7o h)
theorem ze6:PTs X [] zB6:=λpins s σ H Q I h=>by
 unfold z4J;rw[K95];exact K9 ⟨H,I,h⟩
theorem zm9{c:Expr}{r:List Expr}{t u:TT}(h1:PT X c t)(h2:PTs X r u):PTs X (c::r) (zZ2 t u):=λpins s σ H Q I h=>by
 unfold z4J;rw[K8x];refine K0 ?_;rw[if_pos rfl];refine K0 (thn (h1 pins s σ H _ I h) λb s1 ⟨H1,I1,q1⟩=>K9 ?_);cases b with
 | true=>exact h2 pins s1 σ H1 Q I1 (by simpa using q1)
 | false=>exact z7o ⟨H1,I1,by simpa using q1⟩
def z5t(p:Pos)(tg:Expr)(ifs:List Expr)(it:Value)(env:Env)(b:Sem Unit)(c:Code):Sem Fin:=do
 K4u p
 match <- pyNext it with
 | none=>pure (.done .next)
 | some v=>
  K4k tg it v
  assign tg env v
  let ok <- z4J ifs env
  if ok then b
  again c
abbrev TB:=St->Hp->(Hp->Prop)->Prop
variable{tbd:Addr->TB}
def Kp(σ σ':St):Prop:=∀(j:Nat) v,σ[j]?=some (some v)->σ'[j]?=some (some v)
def PBd(X:Cx)(b:Sem Unit)(t:TB):Prop:=
 ∀(pins:List .(A)) (s:Shared) (σ:St) (H:Hp) (Q:Hp->Prop),Inv X pins σ H s->t σ H Q->wpAny .(8) X.A b (λ_ s'=>∃σ' H',Inv X pins σ' H' s'/\Kp σ σ'/\Q H') X.xe s
def runG(g:TG)(ti:TT)(tb:TB)(σ:St)(J:It)(Q:Hp->Prop)(H:Hp):Prop:=
 ∃W:Nat->Nat->Hp->Prop,(∃m,W 0 m H)/\∀i m H,W i m H ->
  (J.stop i H/\Q H)\/(J.go i H/\∀x H1,J.yld i H x H1->g x σ H1 λσ2 H2=>Kp σ σ2 /\
   ti σ2 H2 λok H3=>if ok=true then tb σ2 H3 λH4=>∃m',m'<m/\W (i+1) m' H4 else ∃m',m'<m/\W (i+1) m' H3)
def CK(ce:Expr):Prop:=(∃elt gens sc pos,ce=.ListComp elt gens sc pos)\/∃k v gens sc pos,ce=.DictComp k v gens sc pos
section
variable{ce val:Expr}{sc:Scope}{p:Pos}{g g1:TG}{wi wi1:TI}{ti ti1:TT}{te tv:TE}{tb:TB}{b:Sem Unit}{D:Addr}
theorem zY1{pins:List .(A)}{σ0:St}{H2:Hp}{s2:Shared}{it:Addr}{fp:List Addr}{tn:Nat->Heap->Prop}{J:It}{R:Result->Shared->Prop}{Q:Hp->Prop}{k:Nat}{acc:Value}
 (htn:compTurn ce k (.ref it) acc X.env=z5t p tg ifs (.ref it) X.env b (.compLoop ce k (.ref it) acc X.env)) (hce:CK ce) (hc:X.calm=true)
 (hg:PG (X.wish (Z18 .(8) X.A X.env λe s'=>R (.error e) s')) tg g) (ht:PTs (X.wish (Z18 .(8) X.A X.env λe s'=>R (.error e) s')) ifs ti) (hb:PBd (X.wish (Z18 .(8) X.A X.env λe s'=>R (.error e) s')) b tb)
 (I2:Inv X pins σ0 H2 s2) (T:Turn X.prog X.w X.K tg J fp it tn) (st2:tn 0 s2.heap) (f2:∀b∈fp,FpOk X pins H2 b)
 (hq:runG g ti tb σ0 J Q H2) (hR:∀s' H',Inv X pins σ0 H' s'->Q H'->R (.ok .next) s') :
 K5s .(8) X.A (.compLoop ce k (.ref it) acc X.env) R s2:=by
 have stat:∀{H':Hp},(∀b∈fp,H' b=none)->∀b∈fp,FpOk X pins H' b:=λhn b hb=>⟨hn b hb,(f2 b hb).2⟩;obtain⟨W,⟨m0,w0⟩,turn⟩:=hq;refine codeAny_loop rfl (λn s'=>∃i H',Inv X pins σ0 H' s'/\tn i s'.heap/\(∀b∈fp,H' b=none)/\W i n H') (λn s5 hI=>?_) m0 ⟨0,H2,I2,st2,λb hb=>(f2 b hb).1,w0⟩;obtain⟨i,H5,I5,st5,fr5,w5⟩:=hI;have hu:X.A.under (.compLoop ce k (.ref it) acc X.env)=X.A/\(model X.prog X.w).den (.compLoop ce k (.ref it) acc X.env)=(compTurn ce k (.ref it) acc X.env).onRaise (λx=>do Z1t x X.env;theTreesLotGoes x):=by
  rcases hce with ⟨_,_,_,_,rfl⟩|⟨_,_,_,_,_,rfl⟩<;>exact⟨rfl,rfl⟩
 rw[hu.1,hu.2];refine wpAny_noted ?_;rw[htn];unfold z5t;refine K0 (K4p (K0 ?_));rcases turn i n H5 w5 with ⟨stop,qn⟩|⟨go,step⟩
 ·refine thn (T.done X rfl rfl rfl hc i pins s5 _ H5 _ I5 (stat fr5) st5 stop) λr s6 ⟨hr,I6⟩=>?_;subst hr;exact K9 (hR s6 H5 I6 qn)
 ·refine thn (T.item X rfl rfl rfl hc i pins s5 _ H5 _ I5 (stat fr5) st5 go) λr s6 ⟨u,hr,h6⟩=>?_;subst hr;refine K0 (thn h6 λ_ s7 ⟨x,H7,I7,r7,y7,st7,fr7⟩=>?_);have I7':=I7.pinned (stat fr7) (T.obj _ _ st7);refine K0 (thn (hg _ s7 _ H7 x u _ (I7'.wish _) r7 (step x H7 y7)) λ_ s8 ⟨σ8,H8,I8,k8,q8⟩=>?_);refine K0 (thn (ht _ s8 σ8 H8 _ I8 q8) λok s9 ⟨H9,I9,q9⟩=>?_);have again:∀{σa:St} {Ha:Hp} {sa:Shared},Inv (X.wish (Z18 .(8) X.A X.env λe s'=>R (.error e) s')) (pins++z6w fp s7.heap) σa Ha sa->Kp σ0 σa ->
   Inv X pins σ0 Ha sa/\tn (i+1) sa.heap/\∀b∈fp,Ha b=none:=λ{σa Ha sa} Iw ka=>by
   have Ia:=Iw.unwish;refine⟨Ia.unpinned.weak (I5.len.trans Ia.len.symm) ka,T.keep _ _ _ st7 λb hb o e=>(Ia.pin (b,o) (K17 _ (K17 _ (z2S hb e)))).1,λb hb=>?_⟩;obtain⟨o,e,d⟩:=T.obj _ _ st7 b hb;exact(Ia.pin (b,o) (K17 _ (K17 _ (z2S hb e)))).2.1
  cases ok with
  | false=>
   have q9':∃m',m'<n/\W (i+1) m' H9:=by simpa using q9
   obtain⟨m',hm,w9⟩:=q9';obtain⟨a1,a2,a3⟩:=again I9 k8;exact K9 ⟨rfl,m',hm,i+1,H9,a1,a2,a3,w9⟩
  | true=>
   rw[if_pos rfl]at q9;refine K0 (thn (hb _ s9 σ8 H9 _ I9 q9) λ_ sa ⟨σa,Ha,Ia,ka,m',hm,wa⟩=>?_);obtain⟨a1,a2,a3⟩:=again Ia λj v h=>ka j v (k8 j v h);exact K9 ⟨rfl,m',hm,i+1,Ha,a1,a2,a3,wa⟩
theorem z10{k:Nat}{it:Value}(hce:CK ce)(hcl:(clausesOf ce)[k]?=some ⟨tg,iter,ifs,0⟩)(h0:K5s (model prog w) A (.compLoop ce k it acc env) R s)
 (h:wpAny (model prog w) A (pyIter it) (λit' s'=>K5s (model prog w) A (.compLoop ce k it' acc env) R s')
  (Z18 (model prog w) A env λx s'=>R (.error x) s') s) :
 K5s (model prog w) A (.compStart ce k it acc env) R s:=by
 refine K90 ?_;have hu:A.under (.compStart ce k it acc env)=A/\(model prog w).den (.compStart ce k it acc env)=(compStart ce k it acc env).onRaise (λx=>do Z1t x env;K4u theWindowsPlace):=by
  rcases hce with ⟨_,_,_,_,rfl⟩|⟨_,_,_,_,_,rfl⟩<;>exact⟨rfl,rfl⟩
 rw[hu.1,hu.2];refine wpAny_notedAt ?_;unfold compStart;rw[hcl];show wpAny _ _ (ask >>= _) _ _ s;refine K0 (K3m (wpAny_ite ?_));split
 ·first
   | exact K0 (K9 (K9 (Z1l rfl h0)))
   | exact K9 (Z1l rfl h0)
 ·first
   | exact K0 (K65 (K0 (K4p (K0 (K2i h (λit' s' h'=>K9 (Z1l rfl h')) λ_ _ x=>x)))))
   | (refine K0 (K65 ?_);show wpAny _ _ (K4u iter.pos >>= _) _ _ s;exact K0 (K4p (K0 (K2i h (λit' s' h'=>K9 (Z1l rfl h')) λ_ _ x=>x))))
end
def MkO(mk:Sem Value)(o0:HO):Prop:=∀(X:Cx) (pins:List .(A)) (σ:St) (H:Hp) (s:Shared) (E:Value->Shared->Prop) (Q:Value->Shared->Prop),Inv X pins σ H s ->
 (∀s',Inv X pins σ (upd H .(4) o0) s'->(∀b o,s.heap.get? b=some o->s'.heap.get? b=some o)->Q (.ref .(4)) s')->wpAny .(8) X.A mk Q E s
theorem zd8:MkO (Z19 []) (.lst []):=λX pins σ H s E Q I h=>by
 refine K1b ?_;exact h _ (I.lnew (ys:=[]) (its:=[]) (t':=s.toks) .nil (K3k _)) λb o e=>K8 _ e
theorem zh5:MkO newDict (.dK []):=λX pins σ H s E Q I h=>by
 refine K1b ?_;exact h _ (I.laid (a:=.(4)) (o:=.dK []) (t':=s.toks) (h':=s.heap.push { cls:=.type "dict",dict:=none,data:=.dict #[] }) (λ_ _ q=>K8 _ q) (K05 _) (z8W s.heap I.big)) λb o e=>K8 _ e
structure CmE(ce:Expr)(sc:Scope)(tg iter:Expr)(ifs:List Expr)(mk:Sem Value)(o0:HO)(bd:Addr->Env->Sem Unit)(p:Pos):Prop where
 ck:CK ce
 cl:∃gs,clausesOf ce=⟨tg,iter,ifs,0⟩::gs
 tn:∀it D env,compTurn ce 0 (.ref it) (.ref D) env=z5t p tg ifs (.ref it) env (bd D env) (.compLoop ce 0 (.ref it) (.ref D) env)
 nw:MkO mk o0
 ev:∀env,∃pp,eval ce env=comprehension ce sc env pp mk false (eval iter env) none
 us:∀env f,∃pp,evalThenUse ce env f=(comprehension ce sc env pp mk false (eval iter env) (some f) >>= λ_=>pure ())
section
variable{ce val:Expr}{sc:Scope}{p p1:Pos}{g g1:TG}{wi wi1:TI}{ti ti1:TT}{te tv:TE}{tb tb1:TB}{b1:Sem Unit}{D:Addr}{mk:Sem Value}{o0:HO}
theorem zN9{pins:List .(A)}{σ:St}{H2:Hp}{s2:Shared}{it:Addr}{fp:List Addr}{tn:Nat->Heap->Prop}{J:It}{E:Value->Shared->Prop}{RR:Value->Addr->Result->Shared->Prop}{Q:Addr->Hp->Prop}
 (C:CmE ce sc tg iter ifs mk o0 bd p) (hc:X.calm=true) (S:CS X sc N' cap) (hg:∀s H fp xe,PG .(9) tg g) (ht:∀s H fp xe,PTs .(9) ifs ti) (hb:∀D s H fp xe,PBd .(9) (bd D (X.comp N' sc s H fp xe).env) (tbd D))
 (I2:Inv X pins σ H2 s2) (T:Turn X.prog X.w X.K tg J fp it tn) (st2:tn 0 s2.heap) (f2:∀b∈fp,FpOk X pins H2 b)
 (hq:∀D,H2 D=none->runG g ti (tbd D) (z4C cap σ) J (Q D) (upd H2 D o0))
 (hRR:∀(D:Addr) (s3:Shared) (H3:Hp) (xe:Value->Shared->Prop) (H':Hp) (pins':List .(A)) (σ':St) (s':Shared),Inv X pins σ H3 s3->(∀b∈fp,FpOk X pins H3 b)->Inv (X.comp N' sc s3 H3 fp xe) pins' σ' H' s'->Q D H'->RR (.ref D) s3.heap.objs.size (.ok .next) s') :
 wpAny .(8) X.A mk (λacc s3=>wpAny .(8) X.A (newFunctionEnv sc X.env.globals (z0n X.env sc.names []) [] X.env.qual none .none (some X.env)) (λcenv s4=>
  codeAny (model X.prog X.w) X.A (.compStart ce 0 (.ref it) acc { cenv with scope:=relabel sc X.env }) (RR acc cenv.locals) s4) E s3) E s2:=by
 refine C.nw X pins σ H2 s2 E _ I2 λs3 I3 kp3=>?_;have hfr:H2 s2.heap.objs.size=none:=I2.fresh;have lt2:∀b∈fp,b<s2.heap.objs.size:=λb hb=>by
  obtain⟨o,e,_⟩:=T.obj _ _ st2 b hb;exact K0a e
 generalize s2.heap.objs.size=D at I3 hfr lt2 ⊢;have r0:=hq D hfr;have f3:∀b∈fp,FpOk X pins (upd H2 D o0) b:=λb hb=>⟨by rw[Y1 (K0o (lt2 b hb))];exact(f2 b hb).1,(f2 b hb).2⟩;have st3:tn 0 s3.heap:=T.keep _ _ _ st2 λb hb o e=>kp3 b o e;have lt3:∀b∈fp,b<s3.heap.objs.size:=λb hb=>by
  obtain⟨o,e,_⟩:=T.obj _ _ st3 b hb;exact K0a e
 generalize upd H2 D o0=H3 at I3 r0 f3;refine wpAny_newFunctionEnv S.nocell (λx hx=>absurd hx .(f)) (λh1 hns hsb=>?_) S.kind;have kp4:∀b o,s3.heap.get? b=some o->h1.get? b=some o:=λb o e=>by
  rw[hsb.2 b (K0o (K0a e))];exact K8 _ e
 have hns':h1.Ns s3.heap.objs.size λ_=>none:=hns;have st4:tn 0 h1:=T.keep _ _ _ st3 λb hb o e=>kp4 b o e;have loop:K5s .(8) X.A (.compLoop ce 0 (.ref it) (.ref D) (compEnvC sc (z0n X.env sc.names []) s3.heap.objs.size X.env))
  (RR (.ref D) s3.heap.objs.size) { s3 with heap:=h1,toks:=s3.toks+([]:List (Str×Value)).length }:=by
  let xe:Value->Shared->Prop:=Z18 .(8) X.A (compEnvC sc (z0n X.env sc.names []) s3.heap.objs.size X.env) λe s'=>RR (.ref D) s3.heap.objs.size (.error e) s';have I4:Inv (X.comp N' sc s3 H3 fp xe) [] (z4C cap σ) H3 { s3 with heap:=h1,toks:=s3.toks+([]:List (Str×Value)).length }:=I3.compIn S f3 lt3 hns' kp4;exact zY1 (X:=X.comp N' sc s3 H3 fp xe) (C.tn _ _ _) C.ck hc (hg s3 H3 fp _) (ht s3 H3 fp _) (hb D s3 H3 fp _) I4 T st4 (λb hb=>by
   obtain⟨q1,q2⟩:=I4.ok.exf b hb;exact⟨(f3 b hb).1,q1,I4.ok.exfs b hb,.inl hb,q2,λp hp=>absurd (show p∈([]:List .(A)) from hp) .(f)⟩) r0 λs' H' I' q=>hRR D s3 H3 xe H' [] _ s' I3 f3 I' q
 obtain⟨gs,cl⟩:=C.cl;exact z10 C.ck (by rw[cl];rfl) loop (T.self _ 0 _ _ _ st4 loop)
def tCm(o0:HO)(cap:List (Option Nat))(wi:TI)(g:TG)(ti:TT)(tbd:Addr->TB):TE:=λσ H Q=>wi σ H λJ H1=>∀D,H1 D=none->runG g ti (tbd D) (z4C cap σ) J (λH'=>Q (.ref D) H') (upd H1 D o0)
theorem Z0v(C:CmE ce sc tg iter ifs mk o0 bd p)(hc:X.calm=true)(S:CS X sc N' cap)(hi:PI X tg iter wi)(hg:∀s H fp xe,PG .(9) tg g)(ht:∀s H fp xe,PTs .(9) ifs ti)
 (hb:∀D s H fp xe,PBd .(9) (bd D (X.comp N' sc s H fp xe).env) (tbd D)) (hs:∀x,K14 iter X.env x=pure x):PE X ce (tCm o0 cap wi g ti tbd):=by
 intro pins s σ H Q I h;obtain⟨pp,ev⟩:=C.ev X.env;obtain⟨gs,cl⟩:=C.cl;rw[ev];refine K7x (use:=none) cl hs (z3J (S.cells I)) S.kind S.loc (thn (hi pins s σ H _ I h) λv s1 h1=>thn h1 λitv s2 h2=>?_);obtain⟨it,fp,tn,J,H2,e,I2,T,st2,f2,rq⟩:=h2;subst e;refine zN9 (RR:=λacc C=>compPost .(8) X.A X.xe none (EP X pins σ Q) acc C) (Q:=λD H'=>Q (.ref D) H') C hc S hg ht hb I2 T st2 f2 rq ?_;intro D s3 H3 xe H' pins' σ' s' I3 f3 J3 q;obtain⟨m,hn,_⟩:=id J3.loc;exact⟨m,hn,λh' hs=>⟨.ref D,H',I3.compOut f3 J3 hs,rfl,q⟩⟩
def sCm(o0:HO)(cap:List (Option Nat))(wi:TI)(g:TG)(ti:TT)(tbd:Addr->TB)(i:Nat):TS:=λD σ H=>wi σ H λJ H1=>∀d,H1 d=none->runG g ti (tbd d) (z4C cap σ) J (λH'=>D.nx (σ.set i (.(r d))) H') (upd H1 d o0)
theorem Z0F{y:Str}{py spos:Pos}{i:Nat}(C:CmE ce sc tg iter ifs mk o0 bd p)(hc:X.calm=true)(S:CS X sc N' cap)(hi:PI X tg iter wi)(hg:∀s H fp xe,PG .(9) tg g)(ht:∀s H fp xe,PTs .(9) ifs ti)
 (hb:∀D s H fp xe,PBd .(9) (bd D (X.comp N' sc s H fp xe).env) (tbd D)) (hN:X.N.Nodup) (hy:X.N[i]?=some y) (hl:X.env.scope.names.lookup y=some .local)
 (hsw:K21 ce (some (.Name y py)) spos.line X.env=pure true) (hs:∀x,K14 iter X.env x=pure x):PS X (.Assign [.Name y py] ce spos) (sCm o0 cap wi g ti tbd i):=by
 intro pins s σ H D I h;rw[exec_Assign_Name_used _ _ _ _ hsw];obtain⟨pp,us⟩:=C.us X.env (assign (.Name y py) X.env);obtain⟨gs,cl⟩:=C.cl;rw[us];refine K0 (K4p (K0 ?_));refine K0 (K2i (K7x (use:=some (assign (.Name y py) X.env)) (Q:=λ_ s'=>SP X pins D .next s') cl hs (z3J (S.cells I)) S.kind S.loc
  (thn (hi pins s σ H _ I h) λv s1 h1=>thn h1 λitv s2 h2=>?_)) (λ_ s' hq=>K9 (K9 hq)) λ_ _ z=>z)
 obtain⟨it,fp,tn,J,H2,e,I2,T,st2,f2,rq⟩:=h2;subst e;refine zN9 (RR:=λacc C=>compPost .(8) X.A X.xe (some (assign (.Name y py) X.env)) (λ_ s'=>SP X pins D .next s') acc C) (Q:=λd H'=>D.nx (σ.set i (.(r d))) H') C hc S hg ht hb I2 T st2 f2 rq ?_;intro d s3 H3 xe H' pins' σ' s' I3 f3 J3 q;obtain⟨m,hn,_⟩:=id J3.loc;have Is:Inv X pins σ H' s':=I3.compOut (h':=s'.heap) f3 J3 (K7a _ _);obtain⟨oC,es,ep,hoC,hdC,hrC⟩:=id hn;have hC:H' s3.heap.objs.size=none:=J3.free;have neL:s3.heap.objs.size≠X.env.locals:=K24 I3.lt;have nfs:s3.heap.objs.size∉X.fs:=I3.nofs (K05 _);have Ip:Inv X (pins++[(s3.heap.objs.size,oC)]) σ H' s':=Is.pins_of λp hp=>by
  rcases K1c.mp hp with z|z
  ·exact Is.pin p (K17 _ z)
  ·obtain rfl:p=(s3.heap.objs.size,oC):=by simpa using z
   exact⟨hoC,hC,neL,nfs,λv hv=>by have hdC':oC.data=_:=hdC;rw[hdC']at hv;cases hv⟩
 show wpAny _ X.A (assign (.Name y py) X.env (.ref d)) _ _ s';refine thn (z88 (X:=X) (i:=i) hN hy (.inl hl) (.inr hl) _ s' σ H' (.ref d) (.ref d) (λσ2 H2=>D.nx σ2 H2) Ip rfl q) λ_ s4 ⟨σ4,H4,I4,q4⟩=>?_;have pn:=I4.pin (s3.heap.objs.size,oC) (K17 _ (K17 _ .(f)));refine⟨m,⟨oC,es,ep,pn.1,hdC,hrC⟩,λh' hs=>⟨σ4,H4,?_,q4⟩⟩;have I4u:Inv X pins σ4 H4 s4:=I4.unpinned;have st:=I4u.step (g':=s4.gens) (t':=s4.toks) (d':=s4.drawn) (h':=h') (H':=H4) (ch:=[s3.heap.objs.size]) (λb hb=>?_) (λb o _ _ hc e _=>(hs.2 b (by simpa using hc)).trans e)
  (λb o _ _ hc e _=>⟨o.slots,(hs.2 b (by simpa using hc)).trans e⟩) (λ_ _ _ _ n=>n) (λb o hc e=>⟨o,(hs.2 b (by simpa using hc)).trans e⟩) (λ_ _ e=>e) (λ_ _ _ e=>e) (λb ps e=>⟨#[],by rw[e];simp⟩) (λm hm=>?_) (λb u e=>?_) I4u.bare
 ·exact st
 ·have e:b=s3.heap.objs.size:=by simpa using hb
  subst e;refine⟨.inr I3.sz,neL,λx c e2 z=>?_,λp hp z=>?_⟩
  ·obtain⟨v,q2⟩:=I3.cell x c e2;exact absurd q2.lt (by rw[z];exact K2e _)
  ·have e3:=(I3.pin p hp).1;exact absurd (K0a e3) (by rw[z];exact K2e _)
 ·obtain⟨o,es',ep',ho',r'⟩:=hm;exact⟨o,es',ep',(hs.2 _ (K3a neL)).trans ho',r'⟩
 ·refine(I4u.hok b u e).stay (λc v hc q=>?_) (λ_ q=>q) λ_ _ q=>q;have n4:H4 s3.heap.objs.size=none:=pn.2.1;have ne:c≠s3.heap.objs.size:=by
   rintro rfl;rcases hc with z|z
   ·rw[<- z,n4]at e;cases e
   ·rw[n4]at z;cases z
  exact(hs.2 c ne).trans q
def bApp(te:TE)(D:Addr):TB:=λσ H Q=>te σ H λv H4=>∃acc,H4 D=.(l acc)/\acc.length<sizeLine/\Q (upd H4 D (.lst (acc++[v])))
theorem zh4(he:PE X elt te):PBd X (do let _ <- call (.builtin "list.append") [.ref D,<- eval elt X.env]) (bApp te D):=λpins s σ H Q I h=>by
 refine K0 (thn (he pins s σ H _ I h) λv sa ⟨y,Ha,Ia,ra,acc,ea,za,q⟩=>?_);refine K0 (thn (z6J (X:=X) _ sa σ Ha (.ref D) [y] (.ref D) [v] (λ_ H'=>H'=upd Ha D (.lst (acc++[y]))) Ia rfl (.cons ra .nil) ⟨D,acc,y,rfl,rfl,ea,za,rfl⟩) λ_ sb ⟨_,Hb,Ib,_,eb⟩=>K9 ?_);subst eb;exact⟨σ,_,Ib,λ_ _ h=>h,q⟩
theorem ze2{pins:List .(A)}{σ:St}{H:Hp}{s:Shared}{a:Addr}{kvs:List (Key×V)}{k:Key}{v:V}{u r:Value}{A:Around}{E:Value->Shared->Prop}{Q:Unit->Shared->Prop}
 (I:Inv X pins σ H s) (e:H a=some (.dK kvs)) (l:kvs.length<sizeLine) (ry:RelV (kV k) u) (rv:RelV v r) (h:∀s',Inv X pins σ (upd H a (.dK (putK kvs k v))) s'->Q () s') :
 wpAny .(8) A (dictSet a u r) Q E s:=by
 obtain⟨z,hd,vs,rel,dd⟩:=z9C I.hok e;have hz:vs.length<=sizeLine:=by rw[<- rel.length];exact z
 have hl:(putK kvs k v).length<=sizeLine:=by have:=z2e kvs k v;omega
 refine wpAny_dictSet_pairs (hsz:=hz) (z9s ry) dd λh' dd' hs=>h _ ?_;have he:∃q,h'.get? a=some q:=let ⟨q,_,_,hq,_⟩:=dd';⟨q,hq⟩;exact z4I I (by rw[e];exact K3b) hs he (zk2 hl hd (rel.put k rv) dd')
def bPut(te tv:TE)(D:Addr):TB:=λσ H Q=>te σ H λy H4=>tv σ H4 λv H5=>∃k kvs,y=kV k/\H5 D=some (.dK kvs)/\kvs.length<sizeLine/\Q (upd H5 D (.dK (putK kvs k v)))
theorem zd3(he:PE X elt te)(hv:PE X val tv):PBd X (do
 let kv <- eval elt X.env;let vv <- K44 [kv] (eval val X.env)
 K4u { elt.pos with endLine:=val.pos.endLine,endCol:=val.pos.endCol }
 K44 [kv,vv] (dictSet D kv vv)) (bPut te tv D):=λpins s σ H Q I h=>by
 refine K0 (thn (he pins s σ H _ I h) λkv sa ⟨y,Ha,Ia,ra,qa⟩=>?_);refine K0 (K1z (thn (hv pins sa σ Ha _ Ia qa) λvv sb ⟨z,Hb,Ib,rb,kk,kvs,ey,eb,zb,q⟩=>?_));subst ey;exact K0 (K4p (K1z (ze2 Ib eb zb ra rb λs' I'=>⟨σ,_,I',λ_ _ h=>h,q⟩)))
def bIn(wi1:TI)(g1:TG)(ti1:TT)(tb1:TB):TB:=λσ H Q=>wi1 σ H λJ1 H3=>runG g1 ti1 tb1 σ J1 Q H3
def inner(ce iter1:Expr)(D:Addr)(env:Env):Sem Unit:=do
 let x <- eval iter1 env
 K4u iter1.pos
 let x <- K14 iter1 env x;let _ <- runOwn (.compStart ce 1 (<- K44 [x] (pyIter x)) (.ref D) env) env
theorem zy9{gs:List Comprehension}{c0:Comprehension}(hce:CK ce)(hcl:clausesOf ce=c0::⟨tg1,iter1,ifs1,0⟩::gs)(htn:∀it,compTurn ce 1 (.ref it) (.ref D) X.env=z5t p1 tg1 ifs1 (.ref it) X.env b1 (.compLoop ce 1 (.ref it) (.ref D) X.env))(hc:X.calm=true)
 (hi1:PI X tg1 iter1 wi1) (hg1:∀xe,PG (X.wish xe) tg1 g1) (ht1:∀xe,PTs (X.wish xe) ifs1 ti1) (hb1:∀xe,PBd (X.wish xe) b1 tb1) (hs1:∀x,K14 iter1 X.env x=pure x):PBd X (inner ce iter1 D X.env) (bIn wi1 g1 ti1 tb1):=λpins s σ H Q I h=>by
 unfold inner;refine K0 (thn (hi1 pins s σ H _ I h) λv9 s9 h9=>?_);refine K0 (K4p (K0 (K98 (hs1 v9) (K0 (K1z (thn h9 λitv sa ha=>?_))))));obtain⟨it1,fp1,tn1,J1,Ha,e,Ia,T1,sta,fa,rq⟩:=ha;subst e;have st:K5s .(8) X.A (.compStart ce 1 (.ref it1) (.ref D) X.env) (λr s'=>match r with
  | .ok _=>∃σ' H',Inv X pins σ' H' s'/\Kp σ σ'/\Q H'
  | .error e=>cameBackBy .(8) X.A X.env X.xe e s') sa:=by
  have loop:=zY1 (R:=λr s'=>match r with
   | .ok _=>∃σ' H',Inv X pins σ' H' s'/\Kp σ σ'/\Q H'
   | .error e=>cameBackBy .(8) X.A X.env X.xe e s') (htn it1) hce hc (hg1 _) (ht1 _) (hb1 _) Ia T1 sta fa rq λs' H' I' q=>⟨σ,H',I',λ_ _ h=>h,q⟩
  exact z10 hce (by rw[hcl];rfl) loop (T1.self _ 0 _ _ _ sta loop)
 refine K0 (wpAny_runOwn (K42 st λr s' hr=>?_));cases r with
 | ok f=>exact K9 hr
 | error e=>exact hr
end
theorem zC2{sc:Scope}:CmE (.ListComp elt [⟨tg,iter,ifs,0⟩] sc pos) sc tg iter ifs (Z19 []) (.lst []) (λD env=>do let _ <- call (.builtin "list.append") [.ref D,<- eval elt env]) iter.pos:=
 ⟨.inl ⟨_,_,_,_,rfl⟩,⟨_,rfl⟩,λ_ _ _=>rfl,zd8,λ_=>⟨_,rfl⟩,λ_ _=>⟨_,rfl⟩⟩
theorem zF2{val:Expr}{sc:Scope}:CmE (.DictComp elt val [⟨tg,iter,ifs,0⟩] sc pos) sc tg iter ifs newDict (.dK []) (λD env=>do
 let kv <- eval elt env;let vv <- K44 [kv] (eval val env)
 K4u { elt.pos with endLine:=val.pos.endLine,endCol:=val.pos.endCol }
 K44 [kv,vv] (dictSet D kv vv)) iter.pos:=
 ⟨.inr ⟨_,_,_,_,_,rfl⟩,⟨_,rfl⟩,λ_ _ _=>rfl,zh5,λ_=>⟨_,rfl⟩,λ_ _=>⟨_,rfl⟩⟩
theorem tn2{ce tg iter iter1:Expr}{it D:Addr}{env:Env}{m:Sem Fin}(h:m=(do
 K4u iter.pos
 match <- pyNext (.ref it) with
 | none=>pure (.done .next)
 | some v=>
  K4k tg (.ref it) v
  assign tg env v
  let ok <- z4J [] env
  if ok then
   let x <- eval iter1 env
   K4u iter1.pos
   let x <- K14 iter1 env x;let _ <- runOwn (.compStart ce 1 (<- K44 [x] (pyIter x)) (.ref D) env) env
  again (.compLoop ce 0 (.ref it) (.ref D) env))):m=z5t iter.pos tg [] (.ref it) env (inner ce iter1 D env) (.compLoop ce 0 (.ref it) (.ref D) env):=by
 rw[h];unfold z5t inner;refine congrArg _ (funext λ_=>congrArg _ (funext λr=>?_));cases r with
 | none=>rfl
 | some v=>
  dsimp only;refine congrArg _ (funext λ_=>congrArg _ (funext λ_=>?_));show (z4J [] env >>= _)=(z4J [] env >>= _);refine congrArg _ (funext λok=>?_);cases ok with
  | false=>rfl
  | true=>
   simp only[if_true,bind_assoc,pure_bind]
theorem zu1{sc:Scope}:CmE .(Q) sc tg iter [] (Z19 []) (.lst []) (λD env=>inner .(Q) iter1 D env) iter.pos:=
 ⟨.inl ⟨_,_,_,_,rfl⟩,⟨_,rfl⟩,λ_ _ _=>tn2 rfl,zd8,λ_=>⟨_,rfl⟩,λ_ _=>⟨_,rfl⟩⟩
theorem zq0{val:Expr}{sc:Scope}:CmE (.DictComp elt val [⟨tg,iter,[],0⟩,⟨tg1,iter1,ifs1,0⟩] sc pos) sc tg iter [] newDict (.dK []) (λD env=>inner (.DictComp elt val [⟨tg,iter,[],0⟩,⟨tg1,iter1,ifs1,0⟩] sc pos) iter1 D env) iter.pos:=
 ⟨.inr ⟨_,_,_,_,_,rfl⟩,⟨_,rfl⟩,λ_ _ _=>tn2 rfl,zh5,λ_=>⟨_,rfl⟩,λ_ _=>⟨_,rfl⟩⟩
open PySem
def excO(a C:Addr):HO:=.ext λh=>∃o,h.get? a=some o/\o.cls=.ref C
def dctO(a:Addr):HO:=.ext λh=>∃o,h.get? a=some o/\o.cls=.type "dict"
end L2
namespace FT
variable{α β:Type}{K:K1}{H:Hp}{a c e tg iter ce:Expr}{xs vs:List V}{ρ ρ0:List Addr}{i n j ep kk:Nat}{x:Str}{o:Obj}{p pos p2 cpos apos spos:Pos}{ks:List Key}{X:Cx}{t':TT}{Q E:Value->Shared->Prop}{v:V}{g':Int->Int->V}{C:Int->Int->Bool}{C':Int->Int->Prop}{env:Env}{es es' es1:Array (Int×Value)}{r:V->List V->Hp->VK->Prop}{T:String}{pins:List (Addr×Obj)}{s:Shared}{q Dd it I S:Addr}{P:K1a}{w:World}{mg:Str->Option Value}{base:Heap}{N N':List Str}{l ord:List (Int×Value)}{st:Stmt}{sts sts':List Stmt}{own own1:List Nat}{ifs elts ifs1:List Expr}{cap:List (Option Nat)}{tbd:Addr->TB}{sl:Array (Option Value)}{A:Around}{its:List Value}{lo hi:Option Int}{hx:Int}{gw:Bool->Sem Unit}{R:Option Bool->Shared->Prop}{PV:Nat->Value->Prop}
inductive D where
 | non|bl (b:Bool)|int (i:Int)|str (x:Str)|tup (xs:List D)|fl (xs:List D)|ref (n:Nat)
variable{ds:List D}{y:D}
inductive O where
 | lst (xs:List D)
 | set (ks:List Key)
 | dct
 | dK (kvs:List (Key×D))
 | dF (kvs:List (Key×D))
 | exc (c:Str)
 | ins (c:Str) (fs:List (Str×D))
variable{oo:O}
abbrev AH:=List O
variable{h h1:AH}{Z:List Key->List Addr->AH->Hp->Prop}
abbrev G:=List (Option D)
variable{γ:G}
structure Exn where
 cls:Str
 fs:List (Str×D)
inductive Res(α:Type) where
 | ok (a:α) (h:AH)|err (x:Exn) (h:AH)|bad
abbrev M(α:Type):=AH->Res α
variable{b:Nat->G->M Unit->M Unit}{mb mc mo me:G->M D}{g g1:D->G->M G}{m:List D->G->M G}{ka kb kc k1:G->M Bool}{mr:G->M (List D)}{mf:List D->M D}{b1:G->M Unit->M Unit}
def M.pure(a:α):M α:=λh=>.ok a h
def M.bind(m:M α)(f:α->M β):M β:=λh=>match m h with
 | .ok a h1=>f a h1
 | .err x h1=>.err x h1
 | .bad=>.bad
instance:Monad M where
 pure:=M.pure
 bind:=M.bind
def bad{α:Type}:M α:=λ_=>.bad
theorem M.bind_eq(m:M α)(f:α->M β)(h:AH):(m >>= f) h=match m h with
 | .ok a h1=>f a h1
 | .err x h1=>.err x h1
 | .bad=>.bad:=rfl
theorem M.bind_ok{m:M α}{f:α->M β}{a:α}(e:m h=.ok a h1):(m >>= f) h=f a h1:=by rw[M.bind_eq,e]
def SqLP(K:K1)(H:Hp)(a:Addr)(xs:List V):Prop:=
 (∃o,H a=some (.frz o (.lst xs))) \/
  ∃(o:Obj) (its:Array Value) (n:Nat),K.lookup a=some o/\o.cls=.type "list"/\o.dict=none/\o.data=.seq its n/\its.size<=sizeLine/\Vals xs its.toList
theorem SqLP.sq{a:Addr}(h:SqLP K H a xs):SqL K H a xs:=by
 rcases h with ⟨o,h⟩|h
 ·exact .inl (.inr ⟨o,h⟩)
 ·exact .inr h
mutual
def RD(K:K1)(ρ:List Addr)(H:Hp):D->V->Prop
 | .non,v=>v=.non
 | .bl b,v=>v=.bl b
 | .int i,v=>v=.int i
 | .str x,v=>v=.str x
 | .tup ds,v=>∃a xs,v=.ref a/\SqT K H a xs/\RDs K ρ H ds xs
 | .fl ds,v=>∃a xs,v=.ref a/\SqLP K H a xs/\RDs K ρ H ds xs
 | .ref n,v=>∃a,v=.ref a/\ρ[n]?=some a
def RDs(K:K1)(ρ:List Addr)(H:Hp):List D->List V->Prop
 | [],xs=>xs=[]
 | d::ds,xs=>∃x r,xs=x::r/\RD K ρ H d x/\RDs K ρ H ds r
end
def Pre(ρ ρ':List Addr):Prop:=∀(n:Nat) a,ρ[n]?=some a->ρ'[n]?=some a
theorem Pre.refl(ρ:List Addr):Pre ρ ρ:=λ_ _ h=>h
theorem Pre.trans{a b c:List Addr}(x:Pre a b)(y:Pre b c):Pre a c:=λn z h=>y n z (x n z h)
theorem Pre.app(ρ r:List Addr):Pre ρ (ρ++r):=λn a h=>by
 rw[K0n (K5.mp h).1];exact h
structure Ext(K:K1)(H H':Hp):Prop where
 t:∀a xs,SqT K H a xs->SqT K H' a xs
 l:∀a xs,SqLP K H a xs->SqLP K H' a xs
 d:∀a o vs,H a=some (.frz o (.dK vs))->H' a=some (.frz o (.dK vs))
theorem Ext.refl(K:K1)(H:Hp):Ext K H H:=⟨λ_ _ h=>h,λ_ _ h=>h,λ_ _ _ h=>h⟩
theorem Ext.trans{a b c:Hp}(x:Ext K a b)(y:Ext K b c):Ext K a c:=⟨λz xs h=>y.t z xs (x.t z xs h),λz xs h=>y.l z xs (x.l z xs h),λz o vs h=>y.d z o vs (x.d z o vs h)⟩
def Trk:HO->Prop
 | .lst _=>True
 | .set _=>True
 | .ext _=>True
 | .dK _=>True
 | .ins _ _ _=>True
 | _=>False
theorem Ext.upd{K:K1}{H:Hp}{p:Addr}{o:HO}(h:H p=none\/∃u,H p=some u/\Trk u):Ext K H (upd H p o):=by
 have ne:∀{b:Addr} {u:HO},H b=some u->¬ Trk u->b≠p:=λ{b u} e n z=>by
  subst z;rcases h with h|⟨u',h,tr⟩
  ·rw[h]at e;cases e
  ·rw[h]at e;cases e;exact n tr
 refine⟨λa xs q=>?_,λa xs q=>?_,λa o vs q=>by rw[Y1 (ne q (λz=>z))];exact q⟩
 ·rcases q with (q|⟨u,q⟩)|q
  ·exact .inl (.inl (by rw[Y1 (ne q (λz=>z))];exact q))
  ·exact .inl (.inr ⟨u,by rw[Y1 (ne q (λz=>z))];exact q⟩)
  ·exact .inr q
 ·rcases q with ⟨u,q⟩|q
  ·exact .inl ⟨u,by rw[Y1 (ne q (λz=>z))];exact q⟩
  ·exact .inr q
section
variable{ρ':List Addr}{H':Hp}
mutual
theorem RD.mono(p:Pre ρ ρ')(e:Ext K H H'):∀{d:D}{v:V},RD K ρ H d v->RD K ρ' H' d v
 | .non,v,h=>by simpa [RD] using h
 | .bl b,v,h=>by simpa [RD] using h
 | .int b,v,h=>by simpa [RD] using h
 | .str b,v,h=>by simpa [RD] using h
 | .tup ds,v,h=>by
  simp only[RD]at h ⊢;obtain⟨a,xs,h1,h2,h3⟩:=h;exact⟨a,xs,h1,e.t a xs h2,RDs.mono p e h3⟩
 | .fl ds,v,h=>by
  simp only[RD]at h ⊢;obtain⟨a,xs,h1,h2,h3⟩:=h;exact⟨a,xs,h1,e.l a xs h2,RDs.mono p e h3⟩
 | .ref n,v,h=>by
  simp only[RD]at h ⊢;obtain⟨a,h1,h2⟩:=h;exact⟨a,h1,p n a h2⟩
theorem RDs.mono(p:Pre ρ ρ')(e:Ext K H H'):∀{ds:List D}{xs:List V},RDs K ρ H ds xs->RDs K ρ' H' ds xs
 | [],xs,h=>by simpa [RDs] using h
 | d::ds,xs,h=>by
  simp only[RDs]at h ⊢;obtain⟨x,r,h1,h2,h3⟩:=h;exact⟨x,r,h1,RD.mono p e h2,RDs.mono p e h3⟩
end
theorem RDs.nil:RDs K ρ H [] []:=by simp[RDs]
theorem RDs.cons{d:D}{ds:List D}{x:V}{xs:List V}(h:RD K ρ H d x)(t:RDs K ρ H ds xs):RDs K ρ H (d::ds) (x::xs):=by
 simp only[RDs];exact⟨x,xs,rfl,h,t⟩
theorem RDs.pair:∀{ds:List D}{xs:List V},RDs K ρ H ds xs->Paired (RD K ρ H) ds xs
 | [],xs,h=>by simp only[RDs]at h;subst h;exact .nil
 | d::ds,xs,h=>by
  simp only[RDs]at h;obtain⟨x,r,rfl,h2,h3⟩:=h;exact .cons h2 h3.pair
theorem RDs.length{ds:List D}{xs:List V}(h:RDs K ρ H ds xs):ds.length=xs.length:=K4m h.pair
theorem RDs.append{a b:List D}{ys:List V}(h:RDs K ρ H a xs)(t:RDs K ρ H b ys):RDs K ρ H (a++b) (xs++ys):=by
 induction a generalizing xs with
 | nil=>simp only[RDs]at h;subst h;exact t
 | cons d ds ih=>
  simp only[RDs]at h;obtain⟨x,r,rfl,h2,h3⟩:=h;exact RDs.cons h2 (ih h3)
theorem RDs.get{d:D}(h:RDs K ρ H ds xs)(e:ds[i]?=some d):∃x,xs[i]?=some x/\RD K ρ H d x:=by
 induction ds generalizing xs i with
 | nil=>simp at e
 | cons a ds ih=>
  simp only[RDs]at h;obtain⟨x,r,rfl,h2,h3⟩:=h;cases i with
  | zero=>simp at e;subst e;exact⟨x,rfl,h2⟩
  | succ i=>
   obtain⟨y,h4,h5⟩:=ih h3 (by simpa using e);exact⟨y,by simpa using h4,h5⟩
theorem RDs.getV{x:V}(h:RDs K ρ H ds xs)(e:xs[i]?=some x):∃d,ds[i]?=some d/\RD K ρ H d x:=by
 have hl:=.(m);have hi:=(K5.mp e).1;obtain⟨y,h1,h2⟩:=h.get (K2 (l:=ds) (i:=i) .(1));rw[e]at h1;cases h1;exact⟨_,K2 .(1),h2⟩
theorem RDs.drop{ds:List D}{xs:List V}(n:Nat)(h:RDs K ρ H ds xs):RDs K ρ H (ds.drop n) (xs.drop n):=by
 induction n generalizing ds xs with
 | zero=>exact h
 | succ n ih=>cases ds with
  | nil=>simp only[RDs]at h;subst h;exact RDs.nil
  | cons d ds=>simp only[RDs]at h;obtain⟨x,r,rfl,h2,h3⟩:=h;exact ih h3
theorem RDs.take{ds:List D}{xs:List V}(n:Nat)(h:RDs K ρ H ds xs):RDs K ρ H (ds.take n) (xs.take n):=by
 induction n generalizing ds xs with
 | zero=>exact RDs.nil
 | succ n ih=>cases ds with
  | nil=>simp only[RDs]at h;subst h;exact RDs.nil
  | cons d ds=>simp only[RDs]at h;obtain⟨x,r,rfl,h2,h3⟩:=h;exact RDs.cons h2 (ih h3)
theorem RDs.set{ds:List D}{xs:List V}{d:D}{x:V}(n:Nat)(h:RDs K ρ H ds xs)(hd:RD K ρ H d x):RDs K ρ H (ds.set n d) (xs.set n x):=by
 induction n generalizing ds xs with
 | zero=>cases ds with
  | nil=>simp only[RDs]at h;subst h;exact RDs.nil
  | cons a ds=>simp only[RDs]at h;obtain⟨y,r,rfl,h2,h3⟩:=h;exact RDs.cons hd h3
 | succ n ih=>cases ds with
  | nil=>simp only[RDs]at h;subst h;exact RDs.nil
  | cons a ds=>simp only[RDs]at h;obtain⟨y,r,rfl,h2,h3⟩:=h;exact RDs.cons h2 (ih h3)
theorem RDs.eraseIdx{ds:List D}{xs:List V}(n:Nat)(h:RDs K ρ H ds xs):RDs K ρ H (ds.eraseIdx n) (xs.eraseIdx n):=by
 induction n generalizing ds xs with
 | zero=>cases ds with
  | nil=>simp only[RDs]at h;subst h;exact RDs.nil
  | cons a ds=>simp only[RDs]at h;obtain⟨y,r,rfl,h2,h3⟩:=h;exact h3
 | succ n ih=>cases ds with
  | nil=>simp only[RDs]at h;subst h;exact RDs.nil
  | cons a ds=>simp only[RDs]at h;obtain⟨y,r,rfl,h2,h3⟩:=h;exact RDs.cons h2 (ih h3)
theorem RDs.flat(n:Nat)(h:RDs K ρ H ds xs):RDs K ρ H (K0c n ds).flatten (K0c n xs).flatten:=by
 induction n with
 | zero=>exact RDs.nil
 | succ n ih=>rw[K2t,K40,K2t,K40];exact h.append ih
def RK(K:K1)(ρ:List Addr)(H:Hp){κ:Type}:List (κ×D)->List (κ×V)->Prop:=Paired λp q=>p.1=q.1/\RD K ρ H p.2 q.2
theorem RK.imp{α β:Type}{P Q:α->β->Prop}(f:∀a b,P a b->Q a b):∀{xs:List α}{ys:List β},Paired P xs ys->Paired Q xs ys
 | _,_,.nil=>.nil
 | _,_,.cons a b=>.cons (f _ _ a) (RK.imp f b)
theorem RK.mono{κ:Type}{kvs:List (κ×D)}{vs:List (κ×V)}(p:Pre ρ ρ')(e:Ext K H H')(r:RK K ρ H kvs vs):RK K ρ' H' kvs vs:=RK.imp (λ_ _ h=>⟨h.1,h.2.mono p e⟩) r
def RO(K:K1)(ρ:List Addr)(H:Hp)(o:O)(a:Addr):Prop:=match o with
 | .lst ds=>∃xs,H a=.(l xs)/\RDs K ρ H ds xs
 | .set ks=>H a=some (.set ks)
 | .dct=>H a=some (dctO a)
 | .dK kvs=>∃vs,H a=some (.dK vs)/\RK K ρ H kvs vs
 | .dF kvs=>∃ob vs,H a=some .(U)/\RK K ρ H kvs vs
 | .exc c=>∃C,K1x K K1p c=some (.(r C))/\H a=some (excO a C)
 | .ins c fs=>∃C dx vs,K1x K K1p c=some (.(r C))/\H a=some (.ins C dx vs)/\RK K ρ H fs vs
structure RH(K:K1)(ρ:List Addr)(h:AH)(H:Hp):Prop where
 len:ρ.length=.(m)
 nd:∀(i j:Nat) a,ρ[i]?=some a->ρ[j]?=some a->i=j
 obj:∀(n:Nat) o a,h[n]?=some o->ρ[n]?=some a->RO K ρ H o a
theorem RH.at(r:RH K ρ h H){o:O}(e:h[n]?=some o):∃a,ρ[n]?=some a/\RO K ρ H o a:=by
 have hi:=(K5.mp e).1;have hj:n<ρ.length:=by rw[r.len];exact hi
 have q:ρ[n]?=some ρ[n]:=K2 hj;exact⟨_,q,r.obj n o _ e q⟩
def O.fz:O->Bool
 | .dF _=>true
 | _=>false
theorem RO.there{o:O}{a:Addr}(z:RO K ρ H o a):∃u,H a=some u/\(o.fz=false->Trk u):=by
 cases o with
 | lst ds=>obtain⟨xs,z,_⟩:=z;exact⟨_,z,λ_=>trivial⟩
 | set ks=>exact⟨_,z,λ_=>trivial⟩
 | dct=>exact⟨_,z,λ_=>trivial⟩
 | dK kvs=>obtain⟨vs,z,_⟩:=z;exact⟨_,z,λ_=>trivial⟩
 | dF kvs=>obtain⟨ob,vs,z,_⟩:=z;exact⟨_,z,λq=>by cases q⟩
 | exc c=>obtain⟨C,_,z⟩:=z;exact⟨_,z,λ_=>trivial⟩
 | ins c fs=>obtain⟨C,dx,vs,_,z,_⟩:=z;exact⟨_,z,λ_=>trivial⟩
theorem RH.there{h:AH}(r:RH K ρ h H){n:Nat}{a:Addr}(e:ρ[n]?=some a):∃u,H a=some u:=by
 have hi:=(K5.mp e).1;have hj:n<h.length:=by rw[<- r.len];exact hi
 obtain⟨u,z,_⟩:=(r.obj n _ a (K2 hj) e).there;exact⟨u,z⟩
theorem RH.tracked(r:RH K ρ h H){a:Addr}{o:O}(e:ρ[n]?=some a)(eo:h[n]?=some o)(nf:o.fz=false:=by rfl):∃u,H a=some u/\Trk u:=by
 obtain⟨u,z,q⟩:=(r.obj n _ a eo e).there;exact⟨u,z,q nf⟩
theorem RO.mono{o:O}{a:Addr}(p:Pre ρ ρ')(e:Ext K H H')(hs:H' a=H a)(r:RO K ρ H o a):RO K ρ' H' o a:=by
 cases o with
 | lst ds=>obtain⟨xs,h1,h2⟩:=r;exact⟨xs,hs.trans h1,h2.mono p e⟩
 | set ks=>exact hs.trans r
 | dct=>exact hs.trans r
 | dK kvs=>obtain⟨vs,h1,h2⟩:=r;exact⟨vs,hs.trans h1,h2.mono p e⟩
 | dF kvs=>obtain⟨ob,vs,h1,h2⟩:=r;exact⟨ob,vs,hs.trans h1,h2.mono p e⟩
 | exc c=>obtain⟨C,h1,h2⟩:=r;exact⟨C,h1,hs.trans h2⟩
 | ins c fs=>obtain⟨C,dx,vs,h1,h2,h3⟩:=r;exact⟨C,dx,vs,h1,hs.trans h2,h3.mono p e⟩
theorem RH.other{p:Addr}{o:HO}(r:RH K ρ h H)(hp:H p=none):RH K ρ h (upd H p o):=
 ⟨r.len,r.nd,λn u a h1 h2=>(r.obj n u a h1 h2).mono .(b) (Ext.upd (.inl hp)) (by
  obtain⟨u,q⟩:=r.there h2;exact Y1 (x4 q hp))⟩
theorem RH.pushO{p:Addr}{o':O}{u:HO}(r:RH K ρ h H)(hp:H p=none)(hd:RO K (ρ++[p]) (upd H p u) o' p):RH K (ρ++[p]) (h++[o']) (upd H p u):=by
 have ne:∀{n:Nat} {a:Addr},ρ[n]?=some a->a≠p:=λe=>by
  obtain⟨xs,q⟩:=r.there e;exact x4 q hp
 have ext:Ext K H (L2.upd H p u):=Ext.upd (.inl hp);refine⟨by simp[r.len],λi j a h1 h2=>?_,λn o a h1 h2=>?_⟩
 ·rw[K41]at h1 h2;split at h1<;>split at h2
  ·exact r.nd i j a h1 h2
  ·rename_i hi hj;rw[K1s]at h2;split at h2
   ·cases h2;exact absurd rfl (ne h1)
   ·cases h2
  ·rename_i hi hj;rw[K1s]at h1;split at h1
   ·cases h1;exact absurd rfl (ne h2)
   ·cases h1
  ·rename_i hi hj;rw[K1s]at h1 h2;split at h1
   ·split at h2
    ·omega
    ·cases h2
   ·cases h1
 ·rw[K41]at h1 h2;rw[r.len]at h2;split at h1
  ·rename_i hn;rw[if_pos hn]at h2;exact(r.obj n o a h1 h2).mono (Pre.app _ _) ext (Y1 (ne h2))
  ·rename_i hn;rw[if_neg hn]at h2;rw[K1s]at h1 h2;split at h1
   ·rename_i h0;rw[if_pos h0]at h2;cases h1;cases h2;exact hd
   ·cases h1
theorem RH.push{p:Addr}(r:RH K ρ h H)(hp:H p=none)(hd:RDs K ρ H ds xs):RH K (ρ++[p]) (h++[.lst ds]) (upd H p (.lst xs)):=
 r.pushO hp ⟨xs,J4,hd.mono (Pre.app _ _) (Ext.upd (.inl hp))⟩
theorem RH.pushS{p:Addr}(r:RH K ρ h H)(hp:H p=none):RH K (ρ++[p]) (h++[.set ks]) (upd H p (.set ks)):=r.pushO hp J4
theorem RH.setO{a:Addr}{o0 o':O}{u:HO}(r:RH K ρ h H)(e:h[n]?=some o0)(ea:ρ[n]?=some a)(hd:RO K ρ (upd H a u) o' a)(nf:o0.fz=false:=by rfl):RH K ρ (h.set n o') (upd H a u):=by
 have ext:Ext K H (L2.upd H a u):=Ext.upd (.inr (r.tracked ea e nf));refine⟨by simp[r.len],r.nd,λm o b h1 h2=>?_⟩;by_cases hm:m=n
 ·subst hm;rw[ea]at h2;cases h2;have hi:=(K5.mp e).1;rw[K0r hi]at h1;cases h1;exact hd
 ·rw[K0f (λz=>hm z.symm)]at h1;exact(r.obj m o b h1 h2).mono .(b) ext (Y1 λz=>hm (r.nd m n b h2 (by rw[z];exact ea)))
theorem RH.set{h:AH}{n:Nat}{a:Addr}{ds0 ds:List D}{xs:List V}(r:RH K ρ h H)(e:h[n]?=.(l ds0))(ea:ρ[n]?=some a)(hd:RDs K ρ H ds xs):RH K ρ (h.set n (.lst ds)) (upd H a (.lst xs)):=
 r.setO e ea ⟨xs,J4,hd.mono .(b) (Ext.upd (.inr (r.tracked ea e)))⟩
structure RG(K:K1)(ρ:List Addr)(H:Hp)(γ:G)(σ:L2.St):Prop where
 len:γ.length=σ.length
 var:∀(i:Nat) d,γ[i]?=some (some d)->∃v,σ[i]?=some (some v)/\RD K ρ H d v
theorem RG.mono{γ:G}{σ:L2.St}(p:Pre ρ ρ')(e:Ext K H H')(r:RG K ρ H γ σ):RG K ρ' H' γ σ:=
 ⟨r.len,λi d h=>let ⟨v,h1,h2⟩:=r.var i d h;⟨v,h1,h2.mono p e⟩⟩
theorem RG.set{γ:G}{σ:L2.St}{d:D}{v:V}(r:RG K ρ H γ σ)(i:Nat)(hd:RD K ρ H d v):RG K ρ H (γ.set i (some d)) (σ.set i (some v)):=by
 refine⟨by simp[r.len],λj d' h=>?_⟩;by_cases hj:i=j
 ·subst hj;have hi:i<γ.length:=by
   have:=(K5.mp h).1;simpa using this
  rw[K0r hi]at h;cases h;exact⟨v,K0r (by rw[<- r.len];exact hi),hd⟩
 ·rw[K0f hj]at h ⊢;exact r.var j d' h
structure Rel(K:K1)(ρ:List Addr)(γ:G)(h:AH)(σ:L2.St)(H:Hp):Prop where
 g:RG K ρ H γ σ
 h:RH K ρ h H
abbrev XX:=Exn->List Addr->AH->Hp->Prop
def Fin(K:K1)(EX:XX)(ρ:List Addr)(H:Hp)(P:α->List Addr->AH->Hp->Prop):Res α->Prop
 | .ok a h'=>∀ρ' H',Pre ρ ρ'->Ext K H H'->RH K ρ' h' H'->P a ρ' h' H'
 | .err x h'=>∀ρ' H',Pre ρ ρ'->Ext K H H'->RH K ρ' h' H'->EX x ρ' h' H'
 | .bad=>False
variable{EX:XX}
theorem Fin.up{P:α->List Addr->AH->Hp->Prop}{r:Res α}(p:Pre ρ ρ')(e:Ext K H H')(f:Fin K EX ρ H P r):Fin K EX ρ' H' P r:=by
 cases r with
 | ok a h=>exact λρ2 H2 p2 e2 r2=>f ρ2 H2 (p.trans p2) (e.trans e2) r2
 | err x h=>exact λρ2 H2 p2 e2 r2=>f ρ2 H2 (p.trans p2) (e.trans e2) r2
 | bad=>exact f
theorem Fin.mono{P P':α->List Addr->AH->Hp->Prop}{r:Res α}(f:Fin K EX ρ H P r)(h:∀a ρ' h' H',Pre ρ ρ'->Ext K H H'->RH K ρ' h' H'->P a ρ' h' H'->P' a ρ' h' H'):Fin K EX ρ H P' r:=by
 cases r with
 | ok a h1=>exact λρ2 H2 p2 e2 r2=>h a ρ2 h1 H2 p2 e2 r2 (f ρ2 H2 p2 e2 r2)
 | err x h1=>exact f
 | bad=>exact f
theorem Fin.bind{P:β->List Addr->AH->Hp->Prop}{m:M α}{f:α->M β}(z:Fin K EX ρ H P ((m >>= f) h)):Fin K EX ρ H (λa ρ1 h1 H1=>Fin K EX ρ1 H1 P (f a h1)) (m h):=by
 rw[M.bind_eq]at z;cases e:m h with
 | ok a h1=>rw[e]at z;exact λρ2 H2 p2 e2 r2=>Fin.up p2 e2 z
 | err x h1=>rw[e]at z;exact z
 | bad=>rw[e]at z;exact z
end
variable{EX:XX}
def tE(K:K1)(EX:XX)(m:G->M D):TE:=λσ H Q=>∃ρ γ h,Rel K ρ γ h σ H/\Fin K EX ρ H (λd ρ' _ H'=>∀v,RD K ρ' H' d v->Q v H') (m γ h)
def tT(K:K1)(EX:XX)(m:G->M Bool):TT:=λσ H Q=>∃ρ γ h,Rel K ρ γ h σ H/\Fin K EX ρ H (λb _ _ H'=>Q b H') (m γ h)
def tL(K:K1)(EX:XX)(m:G->M (List D)):TA:=λσ H Q=>∃ρ γ h,Rel K ρ γ h σ H/\Fin K EX ρ H (λds ρ' _ H'=>∀vs,RDs K ρ' H' ds vs->Q vs H') (m γ h)
inductive Out where
 | nx (γ:G)|rt (d:D)|bk (γ:G)|ct (γ:G)
def OutP(K:K1)(D:Ends)(o:Out)(ρ:List Addr)(H:Hp):Prop:=match o with
 | .nx γ=>∀σ,RG K ρ H γ σ->D.nx σ H
 | .rt d=>∀v,RD K ρ H d v->D.rt v H
 | .bk γ=>∀σ,RG K ρ H γ σ->D.bk σ H
 | .ct γ=>∀σ,RG K ρ H γ σ->D.ct σ H
def tB(K:K1)(EX:XX)(m:G->M Out):TS:=λD σ H=>∃ρ γ h,Rel K ρ γ h σ H/\Fin K EX ρ H (λo ρ' _ H'=>OutP K D o ρ' H') (m γ h)
structure SE(X:Cx)(EX:XX)(e:Expr)(m:G->M D):Prop where
 h:PE X e (tE X.K EX m)
structure SC(X:Cx)(EX:XX)(e:Expr)(m:G->M Bool):Prop where
 h:PT X e (tT X.K EX m)
structure SA(X:Cx)(EX:XX)(es:List Expr)(m:G->M (List D)):Prop where
 h:PA X es (tL X.K EX m)
structure S1(X:Cx)(EX:XX)(st:Stmt)(m:G->M Out):Prop where
 h:PS X st (tB X.K EX m)
structure SB(X:Cx)(EX:XX)(st:List Stmt)(m:G->M Out):Prop where
 h:PSs X st (tB X.K EX m)
theorem PE.imp{t t':TE}(h:PE X e t)(f:∀σ H Q,t' σ H Q->t σ H Q):PE X e t':=λpins s σ H Q I z=>h pins s σ H Q I (f σ H Q z)
theorem PT.imp{t:TT}(h:PT X e t)(f:∀σ H Q,t' σ H Q->t σ H Q):PT X e t':=λpins s σ H Q I z=>h pins s σ H Q I (f σ H Q z)
theorem PA.imp{e:List Expr}{t t':TA}(h:PA X e t)(f:∀σ H Q,t' σ H Q->t σ H Q):PA X e t':=λpos pins s σ H Q I z=>h pos pins s σ H Q I (f σ H Q z)
theorem PS.imp{e:Stmt}{t t':TS}(h:PS X e t)(f:∀σ H Q,t' Q σ H->t Q σ H):PS X e t':=λpins s σ H Q I z=>h pins s σ H Q I (f σ H Q z)
theorem PSs.imp{e:List Stmt}{t t':TS}(h:PSs X e t)(f:∀σ H Q,t' Q σ H->t Q σ H):PSs X e t':=λpins s σ H Q I z=>h pins s σ H Q I (f σ H Q z)
abbrev FE(K:K1)(EX:XX)(ρ:List Addr)(H:Hp)(Q:VK)(r:Res D):Prop:=Fin K EX ρ H (λd ρ' _ H'=>∀v,RD K ρ' H' d v->Q v H') r
theorem FE.here{Q:VK}{d:D}(f:FE K EX ρ H Q (.ok d h))(r:RH K ρ h H)(rd:RD K ρ H d v):Q v H:=f ρ H .(b) .(d) r v rd
theorem FE.tup{K:K1}{EX:XX}{ρ:List Addr}{H:Hp}{Q:VK}{ds:List D}{xs:List V}{h:AH}{p:Addr}(f:FE K EX ρ H Q (.ok (.tup ds) h))(r:RH K ρ h H)(hd:RDs K ρ H ds xs)(hp:H p=none):Q (.ref p) (upd H p (.tup xs)):=by
 have e:Ext K H (L2.upd H p (.tup xs)):=Ext.upd (.inl hp);refine f ρ _ .(b) e (r.other hp) _ ?_;simp only[RD];exact⟨p,xs,rfl,SqT.of J4,hd.mono .(b) e⟩
theorem FE.lst{K:K1}{EX:XX}{ρ:List Addr}{H:Hp}{Q:VK}{ds:List D}{xs:List V}{h:AH}{p:Addr}(f:FE K EX ρ H Q (.ok .(R) (h++[.lst ds])))(r:RH K ρ h H)(hd:RDs K ρ H ds xs)(hp:H p=none):Q (.ref p) (upd H p (.lst xs)):=by
 refine f (ρ++[p]) _ (Pre.app _ _) (Ext.upd (.inl hp)) (r.push hp hd) _ ?_;simp only[RD];refine⟨p,rfl,?_⟩;rw[<- r.len];simp
def getL(n:Nat):M (List D):=λh=>match h[n]? with
 | .(l xs)=>.ok xs h
 | _=>.bad
def newL(xs:List D):M D:=λh=>if xs.length<=sizeLine then .ok .(R) (h++[.lst xs]) else .bad
section
variable{b:Expr}{ma:G->M D}
def eVar(i:Nat):G->M D:=λγ=>match γ[i]? with
 | some (some d)=>pure d
 | _=>bad
theorem z0(i:Nat)(hN:X.N[i]?=some x:=by rfl)(hv:Vis X.env.scope x:=by first|exact Or.inl rfl|exact Or.inr (Or.inl rfl)|exact Or.inr (Or.inr rfl))
 (hd:.(16)=false:=by decide) (hcd:(x==("__classdict__":Str))=false:=by decide):SE X EX (.Name x pos) (eVar i):=
 ⟨PE.imp (zP6 hN hv hd hcd) λσ H Q ⟨ρ,γ,h,rel,f⟩=>by
  have f':FE X.K EX ρ H Q (eVar i γ h):=f;unfold eVar at f';cases e:γ[i]? with
  | none=>rw[e]at f';exact f'.elim
  | some o=>cases o with
   | none=>rw[e]at f';exact f'.elim
   | some d=>
    rw[e]at f';obtain⟨v,h1,h2⟩:=rel.g.var i d e;exact⟨v,h1,FE.here f' rel.h h2⟩⟩
theorem z4s{d:D}(h:PE X e (tC v))(r:∀ρ H,RD X.K ρ H d v):SE X EX e (λ_=>pure d):=
 ⟨PE.imp h λσ H Q ⟨ρ,γ,h,rel,f⟩=>FE.here f rel.h (r ρ H)⟩
theorem Z2{i:Int}:SE X EX (.Constant (.int i) j pos) (λ_=>pure (.int i)):=z4s Z03 λ_ _=>by simp[RD]
theorem z1N{i:Bool}:SE X EX (.Constant (.bool i) j pos) (λ_=>pure (.bl i)):=z4s Z11 λ_ _=>by simp[RD]
theorem z0Z:SE X EX (.Constant .none j pos) (λ_=>pure .non):=z4s zS9 λ_ _=>by simp[RD]
theorem y4{i:Str}:SE X EX (.Constant (.str i) j pos) (λ_=>pure (.str i)):=z4s zZ6 λ_ _=>by simp[RD]
def BR(K:K1)(EX:XX)(r:R2)(f:D->D->M D):Prop:=∀ρ h H x y v u Q,RH K ρ h H->RD K ρ H x v->RD K ρ H y u->FE K EX ρ H Q (f x y h)->r v u H Q
def e2(f:D->D->M D)(ma mb:G->M D):G->M D:=λγ=>do
 let x <- ma γ;let y <- mb γ
 f x y
theorem z9V{r:R2}{f:D->D->M D}{ta tb:TE}(h:PE X e (tOp r (tE X.K EX ma) (tE X.K EX mb)))(hr:BR X.K EX r f):SE X EX e (e2 f ma mb):=
 ⟨PE.imp h λσ H Q ⟨ρ,γ,h,rel,fin⟩=>⟨ρ,γ,h,rel,(Fin.bind fin).mono λx ρ1 h1 H1 p1 e1 r1 f1 v rv=>⟨ρ1,γ,h1,⟨rel.g.mono p1 e1,r1⟩,(Fin.bind f1).mono λy ρ2 h2 H2 p2 e2 r2 f2 u ru=>
  hr ρ2 h2 H2 x y v u Q r2 (rv.mono p2 e2) ru f2⟩⟩⟩
theorem z9e{op:Operator}{r:R2}{f:D->D->M D}(ho:OpR X (K3e op) r)(hr:BR X.K EX r f)(ha:SE X EX a ma)(hb:SE X EX b mb):SE X EX (.BinOp a op b pos) (e2 f ma mb):=
 z9V (ta:=tE X.K EX ma) (tb:=tE X.K EX mb) (Z0H ho ha.h hb.h) hr
theorem zV7{op:CmpOp}{r:R2}{f:D->D->M D}(ho:OpR X (K22 op) r)(hr:BR X.K EX r f)(ha:SE X EX a ma)(hb:SE X EX b mb)(hm:K4q op b=false):SE X EX (.Compare a [op] [b] pos) (e2 f ma mb):=
 z9V (ta:=tE X.K EX ma) (tb:=tE X.K EX mb) (zB7 ho ha.h hb.h hm) hr
def fI(g:Int->Int->D):D->D->M D
 | .int i,.int j=>pure (g i j)
 | _,_=>bad
theorem zL7{g:Int->Int->D}(hg:∀i j ρ H,RD K ρ H (g i j) (g' i j)):BR K EX (rI0 g') (fI g):=by
 intro ρ h H x y v u Q r rx ry fin;unfold fI at fin;split at fin
 ·simp only[RD]at rx ry;subst rx;subst ry;exact⟨_,_,rfl,rfl,FE.here fin r (hg _ _ _ _)⟩
 ·exact fin.elim
def fIC(C:Int->Int->Bool)(g:Int->Int->D):D->D->M D
 | .int i,.int j=>if C i j then pure (g i j) else bad
 | _,_=>bad
theorem zA0{g:Int->Int->D}(hc:∀i j,C i j=true->C' i j)(hg:∀i j ρ H,RD K ρ H (g i j) (g' i j)):BR K EX (rI C' g') (fIC C g):=by
 intro ρ h H x y v u Q r rx ry fin;unfold fIC at fin;split at fin
 ·simp only[RD]at rx ry;subst rx;subst ry;split at fin
  ·rename_i hC;exact⟨_,_,rfl,rfl,hc _ _ hC,FE.here fin r (hg _ _ _ _)⟩
  ·exact fin.elim
 ·exact fin.elim
def fSub:=fI λi j=>.int (i - j)
def fDiv:=fIC (λ_ j=>decide (0<j)&&decide (j<1073741824)) λi j=>.int (i / j)
def fMod:=fIC (λ_ j=>decide (0<j)) λi j=>.int (i % j)
def fPow:=fIC (λi j=>decide (0<=j)&&decide (j<=1000)&&decide (-(2 ^ 64)<i)&&decide (i<2 ^ 64)) λi j=>.int (i ^ j.toNat)
theorem zz2(ha:SE X EX a ma)(hb:SE X EX b mb):SE X EX (.BinOp a .Sub b pos) (e2 fSub ma mb):=z9e zS7 (zL7 λi j ρ H=>by simp[RD]) ha hb
theorem zc8(ha:SE X EX a ma)(hb:SE X EX b mb):SE X EX (.BinOp a .FloorDiv b pos) (e2 fDiv ma mb):=z9e zG3 (zA0 (λi j h=>by simp at h;exact h) λi j ρ H=>by simp[RD]) ha hb
theorem z30(ha:SE X EX a ma)(hb:SE X EX b mb):SE X EX (.BinOp a .Mod b pos) (e2 fMod ma mb):=z9e zY0 (zA0 (λi j h=>by simpa using h) λi j ρ H=>by simp[RD]) ha hb
theorem zg9(ha:SE X EX a ma)(hb:SE X EX b mb):SE X EX (.BinOp a .Pow b pos) (e2 fPow ma mb):=z9e zT8 (zA0 (λi j h=>by
 simp at h;refine⟨h.1.1.1,by omega,?_⟩;have h1:=h.1.2;have h2:=h.2;omega) λi j ρ H=>by simp[RD]) ha hb
def fAdd:D->D->M D
 | .int i,.int j=>pure (.int (i+j))
 | .str i,.str j=>if i.length+j.length<=sizeLine then pure (.str (i++j)) else bad
 | .ref i,.ref j=>do
  let x <- getL i;let y <- getL j
  newL (x++y)
 | .tup x,.tup y=>if !decide (x.length+y.length<=sizeLine) then bad else pure (.tup (x++y))
 | _,_=>bad
theorem z14{xs:List D}(e:getL n h=.ok xs h1):h1=h/\h[n]?=.(l xs):=by
 unfold getL at e;split at e
 ·rename_i q;cases e;exact⟨rfl,q⟩
 ·cases e
theorem z11{x:Exn}(e:getL n h=.err x h1):False:=by
 unfold getL at e;split at e<;>cases e
def zJ7(K:K1):R2:=λx y H Q=>∃a b ys,x=.ref a/\y=.ref b/\SqT K H a []/\SqT K H b ys/\Q (.ref b) H
theorem zE7:OpR X (K3e .Add) (zJ7 X.K):=by
 intro pins s σ H x y v u Q I rx ry h;obtain⟨a,b,ys,rfl,rfl,ha,hb,q⟩:=h;cases rx;cases ry;obtain⟨its,r1,p1,_⟩:=I.tuple ha;obtain⟨its2,r2,p2,_⟩:=I.tuple hb;have e:its=[]:=(r1.nil_iff).mpr rfl;subst e;obtain⟨⟨cls,dd,data,sl⟩,ho,hc,n,hd⟩:=id p1;obtain⟨⟨cls2,dd2,data2,sl2⟩,ho2,hc2,n2,hd2⟩:=id p2;simp only at hc hd hc2 hd2;subst hc hd hc2 hd2;exact Z1h ⟨_,ho,rfl⟩ ⟨_,ho2,rfl⟩ K89 K9l K5t K5l (K59 _ _) (tuple_addW0 a b _ _ n n2 dd dd2 sl sl2 rfl) ⟨ho,ho2,.ref b,H,I,rfl,q⟩
theorem zL3:OpR X (K3e .Add) (λx y H Q=>rI0 (λi j=>.int (i+j)) x y H Q\/(∃i j,x=.str i/\y=.str j/\i.length+j.length<=sizeLine/\Q (.str (i++j)) H)\/rCat x y H Q\/zB0 X.K x y H Q\/zJ7 X.K x y H Q):=
 op_add.or (op_add_str.or (op_cat.or (op_catT.or zE7)))
theorem zI5:BR X.K EX (λx y H Q=>rI0 (λi j=>.int (i+j)) x y H Q\/(∃i j,x=.str i/\y=.str j/\i.length+j.length<=sizeLine/\Q (.str (i++j)) H)\/rCat x y H Q\/zB0 X.K x y H Q\/zJ7 X.K x y H Q) fAdd:=by
 intro ρ h H x y v u Q r rx ry fin;unfold fAdd at fin;split at fin
 ·simp only[RD]at rx ry;subst rx;subst ry;exact .inl ⟨_,_,rfl,rfl,FE.here fin r .(C)⟩
 ·simp only[RD]at rx ry;subst rx;subst ry;split at fin
  ·rename_i hl;exact .inr (.inl ⟨_,_,rfl,rfl,hl,FE.here fin r .(C)⟩)
  ·exact fin.elim
 ·rename_i i j;simp only[RD]at rx ry;obtain⟨ai,rfl,hi⟩:=rx;obtain⟨aj,rfl,hj⟩:=ry;have f1:=Fin.bind fin;cases e:getL i h with
  | bad=>rw[e]at f1;exact f1.elim
  | err z hz=>exact(z11 e).elim
  | ok xs h1=>
   obtain⟨rfl,q1⟩:=z14 e;rw[e]at f1;have f2:=Fin.bind (f1 ρ H .(b) .(d) r);cases e3:getL j h1 with
   | bad=>rw[e3]at f2;exact f2.elim
   | err z hz=>exact(z11 e3).elim
   | ok ys h2=>
    obtain⟨rfl,q2⟩:=z14 e3;rw[e3]at f2;have f3:=f2 ρ H .(b) .(d) r;dsimp only at f3;unfold newL at f3;split at f3
    ·rename_i hl;obtain⟨a1,n1,xs1,o1,d1⟩:=r.at q1;obtain⟨a2,n2,xs2,o2,d2⟩:=r.at q2;rw[hi]at n1;cases n1;rw[hj]at n2;cases n2;refine .inr (.inr (.inl ⟨_,_,_,_,rfl,rfl,o1,o2,?_,λp hp=>FE.lst f3 r (d1.append d2) hp⟩));rw[<- d1.length,<- d2.length,<- K02];exact hl
    ·exact f3.elim
 ·rename_i x y;simp only[RD]at rx ry;obtain⟨ax,xs,rfl,hx,dx⟩:=rx;obtain⟨ay,ys,rfl,hy,dy⟩:=ry;split at fin
  ·exact fin.elim
  ·rename_i hc;simp at hc;have l1:=dx.length;have l2:=dy.length;by_cases hxe:xs=[]
   ·subst hxe;have xe:x=[]:=by simpa using l1
    subst xe;refine .inr (.inr (.inr (.inr ⟨ax,ay,ys,rfl,rfl,hx,hy,FE.here fin r ?_⟩)));simp only[RD];exact⟨ay,ys,rfl,hy,by simpa using dy⟩
   refine .inr (.inr (.inr (.inl ⟨ax,ay,xs,ys,rfl,rfl,hx,hy,hxe,by omega,λe=>?_,λe p hp=>FE.tup fin r (dx.append dy) hp⟩)))
   ·subst e;refine FE.here fin r ?_;simp only[RD];have:y=[]:=by simpa using l2
    subst this;exact⟨ax,xs,rfl,hx,by simpa using dx⟩
 ·exact fin.elim
theorem z0f(ha:SE X EX a ma)(hb:SE X EX b mb):SE X EX (.BinOp a .Add b pos) (e2 fAdd ma mb):=z9e zL3 zI5 ha hb
def fMul:D->D->M D
 | .int i,.int j=>if (decide (-(2 ^ 64)<i)&&decide (i<2 ^ 64))||(decide (-(2 ^ 64)<j)&&decide (j<2 ^ 64)) then pure (.int (i * j)) else bad
 | .ref i,.int j=>do
  let x <- getL i
  if decide (-(2 ^ 63)<=j)&&decide (j<2 ^ 63) then newL (K0c j.toNat x).flatten else bad
 | _,_=>bad
theorem zT2:BR X.K EX (λx y H Q=>rI CMul (λi j=>.int (i * j)) x y H Q\/rRep x y H Q) fMul:=by
 intro ρ h H x y v u Q r rx ry fin;unfold fMul at fin;split at fin
 ·simp only[RD]at rx ry;subst rx;subst ry;split at fin
  ·rename_i hc;refine .inl ⟨_,_,rfl,rfl,?_,FE.here fin r .(C)⟩;simp only[K3c,K0i,decide_eq_true_eq]at hc;exact hc
  ·exact fin.elim
 ·rename_i i j;simp only[RD]at rx ry;obtain⟨ai,rfl,hi⟩:=rx;subst ry;have f1:=Fin.bind fin;cases e:getL i h with
  | bad=>rw[e]at f1;exact f1.elim
  | err z hz=>exact(z11 e).elim
  | ok xs h1=>
   obtain⟨rfl,q1⟩:=z14 e;rw[e]at f1;have f2:=f1 ρ H .(b) .(d) r;dsimp only at f2;split at f2
   ·rename_i hb;simp only[K0i,decide_eq_true_eq]at hb;unfold newL at f2;split at f2
    ·rename_i hl;obtain⟨a1,n1,xs1,o1,d1⟩:=r.at q1;rw[hi]at n1;cases n1;refine .inr ⟨_,_,_,rfl,rfl,o1,hb.1,hb.2,?_,λp hp=>FE.lst f2 r (d1.flat j.toNat) hp⟩;rw[L2.len_rep,d1.length]at hl;rw[K6j];exact hl
    ·exact f2.elim
   ·exact f2.elim
 ·exact fin.elim
def fCmp(g:Int->Int->Bool):D->D->M D:=fI λi j=>.bl (g i j)
def fLt:D->D->M D
 | .int i,.int j=>pure (.bl (decide (i<j)))
 | .str i,.str j=>pure (.bl (decide (i.cps.toList<j.cps.toList)))
 | _,_=>bad
def fLe:D->D->M D
 | .int i,.int j=>pure (.bl (decide (i<=j)))
 | .str i,.str j=>pure (.bl (!decide (j.cps.toList<i.cps.toList)))
 | _,_=>bad
def fGt:D->D->M D:=fCmp λi j=>decide (j<i)
def fGe:D->D->M D:=fCmp λi j=>decide (j<=i)
theorem zk3:OpR X (K22 .LtE) (λx y H Q=>∃i j,x=.str i/\y=.str j/\Q (.bl (!decide (j.cps.toList<i.cps.toList))) H):=by
 intro pins s σ H x y v u Q I rx ry h;obtain⟨i,j,rfl,rfl,q⟩:=h;obtain⟨t,rfl⟩:=rx;obtain⟨t',rfl⟩:=ry;exact PySem.P.le_str ⟨.bl _,H,I,rfl,q⟩
theorem Z0p:BR K EX (λx y H Q=>rI0 (λi j=>.bl (decide (i<j))) x y H Q\/∃i j,x=.str i/\y=.str j/\Q (.bl (decide (i.cps.toList<j.cps.toList))) H) fLt:=by
 intro ρ h H x y v u Q r rx ry fin;unfold fLt at fin;split at fin
 ·simp only[RD]at rx ry;subst rx;subst ry;exact .inl ⟨_,_,rfl,rfl,FE.here fin r .(C)⟩
 ·simp only[RD]at rx ry;subst rx;subst ry;exact .inr ⟨_,_,rfl,rfl,FE.here fin r .(C)⟩
 ·exact fin.elim
theorem Z0M:BR K EX (λx y H Q=>rI0 (λi j=>.bl (decide (i<=j))) x y H Q\/∃i j,x=.str i/\y=.str j/\Q (.bl (!decide (j.cps.toList<i.cps.toList))) H) fLe:=by
 intro ρ h H x y v u Q r rx ry fin;unfold fLe at fin;split at fin
 ·simp only[RD]at rx ry;subst rx;subst ry;exact .inl ⟨_,_,rfl,rfl,FE.here fin r .(C)⟩
 ·simp only[RD]at rx ry;subst rx;subst ry;exact .inr ⟨_,_,rfl,rfl,FE.here fin r .(C)⟩
 ·exact fin.elim
def eqD:D->D->Option Bool
 | .int i,.int j=>some (decide (i=j))
 | .str i,.str j=>some (decide (i=j))
 | .bl i,.bl j=>some (decide (i=j))
 | .non,.non=>some true
 | .int _,.str _=>some false
 | .str _,.int _=>some false
 | .non,.int _=>some false
 | .int _,.non=>some false
 | .non,.str _=>some false
 | .str _,.non=>some false
 | _,_=>none
def fEq(neg:Bool):D->D->M D:=λx y=>match eqD x y with
 | some b=>pure (.bl (b != neg))
 | none=>bad
theorem zJ8{x:D}{u:V}{k:Bool}(e:eqD x y=some k)(rx:RD K ρ H x v)(ry:RD K ρ H y u):scal v u=true/\decide (v=u)=k:=by
 cases x<;>cases y<;>first
  | (have e':none=some k:=e
     exact nomatch e')
  | (simp only[eqD]at e
     simp only[RD]at rx ry;subst rx;subst ry;cases e;exact⟨rfl,by simp⟩)
theorem Z0i:BR K EX rEq (fEq false):=by
 intro ρ h H x y v u Q r rx ry fin;unfold fEq at fin;cases hk:eqD x y with
 | none=>rw[hk]at fin;exact fin.elim
 | some k=>
  rw[hk]at fin;obtain⟨h1,h2⟩:=zJ8 hk rx ry;refine⟨h1,?_⟩;rw[h2];refine FE.here fin r ?_;cases k<;>simp[RD]
def z0M:D->Bool
 | .non=>true
 | .bl _=>true
 | .int _=>true
 | .str _=>true
 | _=>false
def eqF:D->D->Bool
 | .non,.non=>true
 | .bl a,.bl b=>a==b
 | .bl a,.int b=>(if a then 1 else 0)==b
 | .int a,.bl b=>a==(if b then 1 else 0)
 | .int a,.int b=>a==b
 | .str a,.str b=>a==b
 | _,_=>false
def seqD:D->M (List D)
 | .tup xs=>pure xs
 | .fl xs=>pure xs
 | .ref n=>getL n
 | _=>bad
def fIn(neg:Bool):D->D->M D:=λx y=>do
 let ys <- seqD y
 if z0M x&&ys.all z0M then pure (.bl ((ys.any λz=>eqF z x) != neg)) else bad
theorem z8G{x:D}(f:z0M x=true)(r:RD K ρ H x v):z5l v=true:=by
 cases x<;>simp only[RD]at r<;>first|(subst r;rfl)|cases f
theorem zG1{x:D}{u:V}(f:z0M x=true)(f':z0M y=true)(r:RD K ρ H x v)(r':RD K ρ H y u):eqV v u=eqF x y:=by
 cases x with
 | non=>simp only[RD]at r;subst r;cases y<;>first|(simp only[RD]at r';subst r';rfl)|cases f'
 | bl b=>simp only[RD]at r;subst r;cases y<;>first|(simp only[RD]at r';subst r';rfl)|cases f'
 | int b=>simp only[RD]at r;subst r;cases y<;>first|(simp only[RD]at r';subst r';rfl)|cases f'
 | str b=>simp only[RD]at r;subst r;cases y<;>first|(simp only[RD]at r';subst r';rfl)|cases f'
 | tup b=>cases f
 | fl b=>cases f
 | ref b=>cases f
theorem z7v{K:K1}{ρ:List Addr}{H:Hp}:∀{xs:List D}{vs:List V},RDs K ρ H xs vs->xs.all z0M=true->vs.all z5l=true
 | [],vs,r,_=>by simp only[RDs]at r;subst r;rfl
 | x::xs,vs,r,f=>by
  simp only[RDs]at r;obtain⟨v,r2,rfl,h1,h2⟩:=r;rw[K4n,K0i]at f ⊢;exact⟨z8G f.1 h1,z7v h2 f.2⟩
theorem z9I{K:K1}{ρ:List Addr}{H:Hp}{x:D}{v:V}(f:z0M x=true)(r:RD K ρ H x v):∀{xs:List D}{vs:List V},RDs K ρ H xs vs->xs.all z0M=true->(vs.any λy=>eqV y v)=xs.any λz=>eqF z x
 | [],vs,rs,_=>by simp only[RDs]at rs;subst rs;rfl
 | y::xs,vs,rs,fs=>by
  simp only[RDs]at rs;obtain⟨u,r2,rfl,h1,h2⟩:=rs;rw[K4n,K0i]at fs;rw[K2d,K2d,zG1 fs.1 f h1 r,z9I f r h2 fs.2]
theorem z2Q{u:V}{ys:List D}(r:RH K ρ h H)(ry:RD K ρ H y u)(e:seqD y h=.ok ys h1):h1=h/\∃p xs,u=.ref p/\(SqL K H p xs\/SqT K H p xs)/\RDs K ρ H ys xs:=by
 unfold seqD at e;split at e
 ·cases e;simp only[RD]at ry;obtain⟨p,xs,rfl,h2,h3⟩:=ry;exact⟨rfl,p,xs,rfl,.inr h2,h3⟩
 ·cases e;simp only[RD]at ry;obtain⟨p,xs,rfl,h2,h3⟩:=ry;exact⟨rfl,p,xs,rfl,.inl h2.sq,h3⟩
 ·obtain⟨rfl,q⟩:=z14 e;simp only[RD]at ry;obtain⟨p,rfl,h2⟩:=ry;obtain⟨a,n1,xs,o1,d1⟩:=r.at q;rw[h2]at n1;cases n1;exact⟨rfl,p,xs,rfl,.inl (SqL.of o1),d1⟩
 ·cases e
theorem z3Q{x:Exn}(e:seqD y h=.err x h1):False:=by
 unfold seqD at e;split at e
 ·cases e
 ·cases e
 ·exact z11 e
 ·cases e
theorem zY5{neg:Bool}:BR K EX (rIn K neg) (fIn neg):=by
 intro ρ h H x y v u Q r rx ry fin;have f1:=Fin.bind fin;cases e:seqD y h with
 | bad=>rw[e]at f1;exact f1.elim
 | err z hz=>exact(z3Q e).elim
 | ok ys h1=>
  obtain⟨rfl,p,xs,rfl,hs,hd⟩:=z2Q r ry e;rw[e]at f1;have f2:=f1 ρ H .(b) .(d) r;dsimp only at f2;split at f2
  ·rename_i hc;rw[K0i]at hc;refine⟨p,xs,rfl,hs,z8G hc.1 rx,z7v hd hc.2,?_⟩;refine FE.here f2 r ?_;unfold inV;rw[z9I hc.1 rx hd hc.2];cases neg<;>simp[RD]
  ·exact f2.elim
end
section
variable{es:List Expr}
theorem z7X{c k p}:K09 (.Constant c k p::es) env=(false,eval (.Constant c k p) env)::K09 es env:=rfl
theorem zD7{c p}:K09 (.Name c p::es) env=(false,eval (.Name c p) env)::K09 es env:=rfl
theorem zK1{a b c p}:K09 (.Call a b c p::es) env=(false,eval (.Call a b c p) env)::K09 es env:=rfl
theorem zt7{a b c p}:K09 (.BinOp a b c p::es) env=(false,eval (.BinOp a b c p) env)::K09 es env:=rfl
theorem z9t{a b c p}:K09 (.Compare a b c p::es) env=(false,eval (.Compare a b c p) env)::K09 es env:=rfl
theorem z6M{a b p}:K09 (.Subscript a b p::es) env=(false,eval (.Subscript a b p) env)::K09 es env:=rfl
theorem zo2{a b p}:K09 (.Tuple a b p::es) env=(false,eval (.Tuple a b p) env)::K09 es env:=rfl
theorem zE2{a p}:K09 (.List a p::es) env=(false,eval (.List a p) env)::K09 es env:=rfl
theorem z9a{a b p}:K09 (.UnaryOp a b p::es) env=(false,eval (.UnaryOp a b p) env)::K09 es env:=rfl
theorem z80{a b c p}:K09 (.ListComp a b c p::es) env=(false,eval (.ListComp a b c p) env)::K09 es env:=rfl
end
section
variable{b:Expr}{ma:G->M D}
def CO(X:Cx)(EX:XX)(op:CmpOp)(f:D->D->M D):Prop:=∃r,OpR X (K22 op) r/\BR X.K EX r f
theorem zo5:CO X EX .Lt fLt:=⟨_,op_lt.or z9G,Z0p⟩
theorem z87:CO X EX .LtE fLe:=⟨_,op_le.or zk3,Z0M⟩
theorem z9l:CO X EX .Gt fGt:=⟨_,Z0k,zL7 λi j ρ H=>by simp[RD]⟩
theorem Z01:CO X EX .GtE fGe:=⟨_,Z0w,zL7 λi j ρ H=>by simp[RD]⟩
theorem z2A:CO X EX .Eq (fEq false):=⟨_,Z0K,Z0i⟩
theorem z7r:CO X EX .In (fIn false):=⟨_,z9H,zY5⟩
theorem z4v:CO X EX .NotIn (fIn true):=⟨_,z7h,zY5⟩
def fIs(neg:Bool):D->D->M D:=λx y=>match y with
 | .non=>(match x with
  | .non=>pure (.bl (true != neg))
  | .bl _=>pure (.bl (false != neg))
  | .int _=>pure (.bl (false != neg))
  | .str _=>pure (.bl (false != neg))
  | .tup _=>pure (.bl (false != neg))
  | .ref _=>pure (.bl (false != neg))
  | .fl _=>pure (.bl (false != neg)))
 | .bl k=>(match x with
  | .bl j=>pure (.bl ((j==k) != neg))
  | .non=>pure (.bl (false != neg))
  | .int _=>pure (.bl (false != neg))
  | .str _=>pure (.bl (false != neg))
  | .tup _=>pure (.bl (false != neg))
  | .ref _=>pure (.bl (false != neg))
  | .fl _=>pure (.bl (false != neg)))
 | _=>bad
theorem z8E(neg:Bool):OpR X (K22 (if neg then .IsNot else .Is)) (λx y H Q=>(y=.non/\Q (.bl ((decide (x=.non)) != neg)) H)\/∃k,y=.bl k/\Q (.bl ((decide (x=.bl k)) != neg)) H):=by
 intro pins s σ H x y v u Q I rx ry h;have pl:∀{a b:Value},plainIs a b=true->EP X pins σ Q (.bool ((a==b) != neg)) s->wpAny .(8) X.A (K22 (if neg then .IsNot else .Is) a b) (EP X pins σ Q) X.xe s:=λ{a b} hp hq=>by
  cases neg with
  | false=>exact wpAny_is_plain hp (by simpa using hq)
  | true=>exact wpAny_isNot_plain hp (by simpa using hq)
 rcases h with ⟨rfl,q⟩|⟨k,rfl,q⟩
 ·cases ry;have fin:∀{a:Value} {w:Bool},w=decide (x=.non)->(a==K2h)=w->EP X pins σ Q (.bool ((a==K2h) != neg)) s:=λ{a w} e1 e2=>by
   rw[e2,e1];exact⟨.bl _,H,I,rfl,q⟩
  cases x with
  | non=>cases rx;exact pl rfl (fin (w:=true) .(f) rfl)
  | bl j=>cases rx;exact pl rfl .(P)
  | int j=>obtain⟨t,rfl⟩:=rx;exact pl rfl .(P)
  | str j=>obtain⟨t,rfl⟩:=rx;exact pl rfl .(P)
  | byt j=>obtain⟨t,rfl⟩:=rx;exact pl rfl .(P)
  | flt j=>obtain⟨t,rfl⟩:=rx;exact pl rfl .(P)
  | ref j=>cases rx;exact pl rfl .(P)
  | ty j=>cases rx;exact pl rfl .(P)
 ·cases ry;have fin:∀{a:Value} {w:Bool},w=decide (x=.bl k)->(a==K6p k)=w->EP X pins σ Q (.bool ((a==K6p k) != neg)) s:=λ{a w} e1 e2=>by
   rw[e2,e1];exact⟨.bl _,H,I,rfl,q⟩
  cases x with
  | non=>cases rx;exact pl rfl .(P)
  | bl j=>cases rx;exact pl rfl (fin (w:=(j==k)) (by rw[K0p];simp) (by cases j<;>cases k<;>rfl))
  | int j=>obtain⟨t,rfl⟩:=rx;exact pl rfl .(P)
  | str j=>obtain⟨t,rfl⟩:=rx;exact pl rfl .(P)
  | byt j=>obtain⟨t,rfl⟩:=rx;exact pl rfl .(P)
  | flt j=>obtain⟨t,rfl⟩:=rx;exact pl rfl .(P)
  | ref j=>cases rx;exact pl rfl .(P)
  | ty j=>cases rx;exact pl rfl .(P)
theorem zi0{x:D}(rx:RD K ρ H x v):decide (v=.non)=(match x with|.non=>true|_=>false):=by
 cases x<;>simp only[RD]at rx
 case non=>subst rx;simp
 case bl=>subst rx;simp
 case int=>subst rx;simp
 case str=>subst rx;simp
 case tup=>obtain⟨a,xs,rfl,_⟩:=rx;simp
 case fl=>obtain⟨a,xs,rfl,_⟩:=rx;simp
 case ref=>obtain⟨a,rfl,_⟩:=rx;simp
theorem zr6{x:D}{k:Bool}(rx:RD K ρ H x v):decide (v=.bl k)=(match x with|.bl j=>j==k|_=>false):=by
 cases x<;>simp only[RD]at rx
 case non=>subst rx;simp
 case bl j=>subst rx;cases j<;>cases k<;>rfl
 case int=>subst rx;simp
 case str=>subst rx;simp
 case tup=>obtain⟨a,xs,rfl,_⟩:=rx;simp
 case fl=>obtain⟨a,xs,rfl,_⟩:=rx;simp
 case ref=>obtain⟨a,rfl,_⟩:=rx;simp
theorem zS4(neg:Bool):BR K EX (λx y H Q=>(y=.non/\Q (.bl ((decide (x=.non)) != neg)) H)\/∃k,y=.bl k/\Q (.bl ((decide (x=.bl k)) != neg)) H) (fIs neg):=by
 intro ρ h H x y v u Q r rx ry fin;cases y with
 | non=>
  simp only[RD]at ry;refine .inl ⟨ry,?_⟩;rw[zi0 rx];cases x<;>first|exact(show False from fin).elim|exact FE.here fin r .(C)
 | bl k=>
  simp only[RD]at ry;refine .inr ⟨k,ry,?_⟩;rw[zr6 rx];cases x<;>first|exact(show False from fin).elim|exact FE.here fin r .(C)
 | _=>exact(show False from fin).elim
theorem zX2:CO X EX .Is (fIs false):=⟨_,z8E false,zS4 false⟩
theorem z6l:CO X EX .IsNot (fIs true):=⟨_,z8E true,zS4 true⟩
theorem se_c{op:CmpOp}{f:D->D->M D}(h:CO X EX op f)(ha:SE X EX a ma)(hb:SE X EX b mb)(hm:K4q op b=false:=by first|exact zw3 _|with_unfolding_all rfl):SE X EX (.Compare a [op] [b] pos) (e2 f ma mb):=by
 obtain⟨r,h1,h2⟩:=h;exact zV7 h1 h2 ha hb hm
def asB:D->M Bool
 | .bl b=>pure b
 | _=>bad
theorem Z0V{t:TE}{m:G->M D}(h:∀σ H Q,tE X.K EX m σ H Q->t σ H Q):∀σ H Q,tT X.K EX (λγ=>do let d <- m γ;asB d) σ H Q->zQ6 t σ H Q:=by
 intro σ H Q ⟨ρ,γ,h0,rel,fin⟩;refine h σ H _ ⟨ρ,γ,h0,rel,(Fin.bind fin).mono λd ρ1 h1 H1 p1 e1 r1 f1 v rv=>?_⟩;cases d<;>first|exact(show False from f1).elim|skip
 rename_i b;simp only[RD]at rv;exact⟨b,rv,f1 ρ1 H1 .(b) .(d) r1⟩
theorem sc_c{op:CmpOp}{f:D->D->M D}(h:CO X EX op f)(ha:SE X EX a ma)(hb:SE X EX b mb)(hm:K4q op b=false:=by first|exact zw3 _|with_unfolding_all rfl):SC X EX (.Compare a [op] [b] pos) (λγ=>do let d <- e2 f ma mb γ;asB d):=by
 constructor;obtain⟨r,h1,h2⟩:=h;refine PT.imp (zB2 h1 ha.h hb.h hm) (Z0V λσ H Q ⟨ρ,γ,h,rel,fin⟩=>?_);exact⟨ρ,γ,h,rel,(Fin.bind fin).mono λx ρ1 h1 H1 p1 e1 r1 f1 v rv=>⟨ρ1,γ,h1,⟨rel.g.mono p1 e1,r1⟩,(Fin.bind f1).mono λy ρ2 h3 H2 p2 e2 r2 f2 u ru=>
  h2 ρ2 h3 H2 x y v u Q r2 (rv.mono p2 e2) ru f2⟩⟩
def e3(f g:D->D->M D)(ma mb mc:G->M D):G->M D:=λγ=>do
 let x <- ma γ;let y <- mb γ;let k <- f x y;let t <- asB k
 if t then do
  let z <- mc γ
  g y z
 else pure (.bl false)
theorem zo8{r r':R2}{f g:D->D->M D}(h2:BR X.K EX r f)(h4:BR X.K EX r' g):∀σ H Q,tE X.K EX (e3 f g ma mb mc) σ H Q->zw8 r r' (tE X.K EX ma) (tE X.K EX mb) (tE X.K EX mc) σ H Q:=by
 intro σ H Q ⟨ρ,γ,h,rel,fin⟩;refine⟨ρ,γ,h,rel,(Fin.bind fin).mono λx ρ1 h1 H1 p1 e1 r1 f1 v rv=>⟨ρ1,γ,h1,⟨rel.g.mono p1 e1,r1⟩,(Fin.bind f1).mono λy ρ2 h3 H2 p2 e2 r2 f2 u ru=>?_⟩⟩;refine h2 ρ2 h3 H2 x y v u _ r2 (rv.mono p2 e2) ru ((Fin.bind f2).mono λk ρ3 h5 H3 p3 e3 r3 f3 z rz=>?_);cases k<;>first|exact(show False from f3).elim|skip
 rename_i t;simp only[RD]at rz;refine⟨t,rz,?_⟩;cases t with
 | false=>
  rw[if_neg .(0)];exact FE.here (d:=.bl false) (h:=h5) (ρ:=ρ3) f3 r3 .(C)
 | true=>
  rw[if_pos rfl];have f4:Fin X.K EX ρ3 H3 (λd ρ' _ H'=>∀v,RD X.K ρ' H' d v->Q v H') ((mc γ >>= λz=>g y z) h5):=f3;exact⟨ρ3,γ,h5,⟨((rel.g.mono p1 e1).mono p2 e2).mono p3 e3,r3⟩,(Fin.bind f4).mono λw ρ4 h6 H4 p4 e4 r4 f5 q rq=>h4 ρ4 h6 H4 y w u q Q r4 ((ru.mono p3 e3).mono p4 e4) rq f5⟩
theorem zo1{op op':CmpOp}{f g:D->D->M D}(h:CO X EX op f)(h':CO X EX op' g)(ha:SE X EX a ma)(hb:SE X EX b mb)(hc:SE X EX c mc)(hm:lastMarks [op,op'] [b,c]=false:=by with_unfolding_all rfl):SE X EX (.Compare a [op,op'] [b,c] pos) (e3 f g ma mb mc):=by
 constructor;obtain⟨r,h1,h2⟩:=h;obtain⟨r',h3,h4⟩:=h';exact PE.imp (zn4 h1 h3 ha.h hb.h hc.h hm) (zo8 h2 h4)
def eAnd(ma mb:G->M D):G->M D:=λγ=>do
 let x <- ma γ;let t <- asB x
 if t then mb γ else pure (.bl false)
def eOr(ma mb:G->M D):G->M D:=λγ=>do
 let x <- ma γ;let t <- asB x
 if t then pure (.bl true) else mb γ
def eNot(ma:G->M D):G->M D:=λγ=>do
 let x <- ma γ;let t <- asB x
 pure (.bl (!t))
variable{rest:List Expr}
theorem z34{op:PySem.BoolOp}(ha:SE X EX a ma):SE X EX (.BoolOp op [a] pos) ma:=⟨zP0 ha.h⟩
theorem z1n(ha:SE X EX a ma)(hb:SE X EX (.BoolOp .And (b::rest) pos) mb):SE X EX (.BoolOp .And (a::b::rest) pos) (eAnd ma mb):=
 ⟨PE.imp (zR5 ha.h hb.h) λσ H Q ⟨ρ,γ,h,rel,fin⟩=>⟨ρ,γ,h,rel,(Fin.bind fin).mono λx ρ1 h1 H1 p1 e1 r1 f1 v rv=>by
  cases x<;>first|exact(show False from f1).elim|skip
  rename_i t;simp only[RD]at rv;refine⟨t,rv,?_⟩;cases t with
  | true=>exact⟨ρ1,γ,h1,⟨rel.g.mono p1 e1,r1⟩,f1⟩
  | false=>exact FE.here (d:=.bl false) (h:=h1) (ρ:=ρ1) f1 r1 .(C)⟩⟩
theorem zR0(ha:SE X EX a ma)(hb:SE X EX (.BoolOp .Or (b::rest) pos) mb):SE X EX (.BoolOp .Or (a::b::rest) pos) (eOr ma mb):=
 ⟨PE.imp (Z0N ha.h hb.h) λσ H Q ⟨ρ,γ,h,rel,fin⟩=>⟨ρ,γ,h,rel,(Fin.bind fin).mono λx ρ1 h1 H1 p1 e1 r1 f1 v rv=>by
  cases x<;>first|exact(show False from f1).elim|skip
  rename_i t;simp only[RD]at rv;refine⟨t,rv,?_⟩;cases t with
  | false=>exact⟨ρ1,γ,h1,⟨rel.g.mono p1 e1,r1⟩,f1⟩
  | true=>exact FE.here (d:=.bl true) (h:=h1) (ρ:=ρ1) f1 r1 .(C)⟩⟩
theorem z6d(ha:SE X EX a ma):SE X EX (.UnaryOp .Not a pos) (eNot ma):=
 ⟨PE.imp (zO4 ha.h) λσ H Q ⟨ρ,γ,h,rel,fin⟩=>⟨ρ,γ,h,rel,(Fin.bind fin).mono λx ρ1 h1 H1 p1 e1 r1 f1 v rv=>by
  cases x<;>first|exact(show False from f1).elim|skip
  rename_i t;simp only[RD]at rv;exact⟨t,rv,FE.here (d:=.bl (!t)) (h:=h1) (ρ:=ρ1) f1 r1 .(C)⟩⟩⟩
structure SW(X:Cx)(EX:XX)(e:Expr)(m:G->M Bool):Prop where
 h:PW X e (tT X.K EX m)
theorem PW.imp{t:TT}(h:PW X e t)(f:∀σ H Q,t' σ H Q->t σ H Q):PW X e t':=λw pins s σ H Q I z=>h w pins s σ H Q I (f σ H Q z)
def cAnd(ka kb:G->M Bool):G->M Bool:=λγ=>do
 let t <- ka γ
 if t then kb γ else pure false
def cOr(ka kb:G->M Bool):G->M Bool:=λγ=>do
 let t <- ka γ
 if t then pure true else kb γ
def cNot(ka:G->M Bool):G->M Bool:=λγ=>do
 let t <- ka γ
 pure (!t)
theorem z1O(ha:SC X EX a ka):SW X EX (.BoolOp .And [a] pos) ka:=⟨zE0 ha.h⟩
theorem z20(ha:SC X EX a ka):SW X EX (.BoolOp .Or [a] pos) ka:=⟨zP2 ha.h⟩
theorem z2z(ha:SC X EX a ka)(hb:SW X EX (.BoolOp .And (b::rest) pos) kb):SW X EX (.BoolOp .And (a::b::rest) pos) (cAnd ka kb):=
 ⟨PW.imp (zO8 ha.h hb.h) λσ H Q ⟨ρ,γ,h,rel,fin⟩=>⟨ρ,γ,h,rel,(Fin.bind fin).mono λt ρ1 h1 H1 p1 e1 r1 f1=>by
  cases t with
  | true=>exact⟨ρ1,γ,h1,⟨rel.g.mono p1 e1,r1⟩,f1⟩
  | false=>exact f1 ρ1 H1 .(b) .(d) r1⟩⟩
theorem z3d(ha:SC X EX a ka)(hb:SW X EX (.BoolOp .Or (b::rest) pos) kb):SW X EX (.BoolOp .Or (a::b::rest) pos) (cOr ka kb):=
 ⟨PW.imp (Z0L ha.h hb.h) λσ H Q ⟨ρ,γ,h,rel,fin⟩=>⟨ρ,γ,h,rel,(Fin.bind fin).mono λt ρ1 h1 H1 p1 e1 r1 f1=>by
  cases t with
  | false=>exact⟨ρ1,γ,h1,⟨rel.g.mono p1 e1,r1⟩,f1⟩
  | true=>exact f1 ρ1 H1 .(b) .(d) r1⟩⟩
theorem SW.sc(h:SW X EX e ka):SC X EX e ka:=⟨PW.pt h.h⟩
theorem z00(ha:SC X EX a ka):SC X EX (.UnaryOp .Not a pos) (cNot ka):=
 ⟨PT.imp (zN7 ha.h) λσ H Q ⟨ρ,γ,h,rel,fin⟩=>⟨ρ,γ,h,rel,(Fin.bind fin).mono λt ρ1 h1 H1 p1 e1 r1 f1=>f1 ρ1 H1 .(b) .(d) r1⟩⟩
def truD:D->M Bool
 | .non=>pure false
 | .bl b=>pure b
 | .int i=>pure (i != 0)
 | .str y=>if y.length<=sizeLine then pure (decide (y.length≠0)) else bad
 | .tup xs=>pure (!xs.isEmpty)
 | .fl xs=>pure (!xs.isEmpty)
 | .ref n=>do
  let xs <- getL n
  pure (!xs.isEmpty)
def cVal(ma:G->M D):G->M Bool:=λγ=>do
 let x <- ma γ
 truD x
theorem isE(h:RDs K ρ H ds xs):ds.isEmpty=xs.isEmpty:=by
 have:=.(m);cases ds<;>cases xs<;>simp at this ⊢
theorem zB9{x:D}{Q:Bool->Hp->Prop}(r:RH X.K ρ h H)(rx:RD X.K ρ H x v)(f:Fin X.K EX ρ H (λb _ _ H'=>Q b H') (truD x h)):∃k,TruV X.K v H k/\Q k H:=by
 cases x with
 | non=>simp only[RD]at rx;subst rx;exact⟨false,rfl,f ρ H .(b) .(d) r⟩
 | bl b=>simp only[RD]at rx;subst rx;exact⟨b,rfl,f ρ H .(b) .(d) r⟩
 | int b=>simp only[RD]at rx;subst rx;exact⟨_,rfl,f ρ H .(b) .(d) r⟩
 | str y=>
  simp only[RD]at rx;subst rx;have f':Fin X.K EX ρ H (λb _ _ H'=>Q b H') ((if y.length<=sizeLine then pure (decide (y.length≠0)) else bad:M Bool) h):=f;by_cases hl:y.length<=sizeLine
  ·rw[if_pos hl]at f';refine⟨decide (y.length≠0),⟨hl,?_⟩,f' ρ H .(b) .(d) r⟩;rw[K0p];simp
  ·rw[if_neg hl]at f';exact f'.elim
 | tup xs=>
  simp only[RD]at rx;obtain⟨a,vs,rfl,h1,h2⟩:=rx;exact⟨!xs.isEmpty,.inr (.inl ⟨vs,h1,by rw[isE h2]⟩),f ρ H .(b) .(d) r⟩
 | fl xs=>
  simp only[RD]at rx;obtain⟨a,vs,rfl,h1,h2⟩:=rx;exact⟨!xs.isEmpty,.inl ⟨vs,h1.sq,by rw[isE h2]⟩,f ρ H .(b) .(d) r⟩
 | ref n=>
  have f1:=Fin.bind f;cases e:getL n h with
  | bad=>rw[e]at f1;exact f1.elim
  | err z hz=>exact(z11 e).elim
  | ok xs h1=>
   obtain⟨rfl,q1⟩:=z14 e;rw[e]at f1;have f2:=f1 ρ H .(b) .(d) r;simp only[RD]at rx;obtain⟨a,rfl,h2⟩:=rx;obtain⟨a1,n1,vs,o1,d1⟩:=r.at q1;rw[h2]at n1;cases n1;exact⟨!xs.isEmpty,.inl ⟨vs,SqL.of o1,by rw[isE d1]⟩,f2 ρ H .(b) .(d) r⟩
theorem J0(ha:SE X EX a ma)(he:∀whole,isTrue a X.env whole=(do let v <- whole;K4u a.pos;K44 [v] (truthy v)):=by intro _;rfl):SC X EX a (cVal ma):=
 ⟨PT.imp (zs8 ha.h he) λσ H Q ⟨ρ,γ,h,rel,fin⟩=>⟨ρ,γ,h,rel,(Fin.bind fin).mono λx ρ1 h1 H1 p1 e1 r1 f1 v rv=>zB9 r1 rv f1⟩⟩
def eIf(k:G->M Bool)(ma mb:G->M D):G->M D:=λγ=>do
 let t <- k γ
 if t then ma γ else mb γ
theorem zT1(hc:SC X EX c kc)(ha:SE X EX a ma)(hb:SE X EX b mb):SE X EX (.IfExp c a b pos) (eIf kc ma mb):=
 ⟨PE.imp (zl8 hc.h ha.h hb.h) λσ H Q ⟨ρ,γ,h,rel,fin⟩=>⟨ρ,γ,h,rel,(Fin.bind fin).mono λt ρ1 h1 H1 p1 e1 r1 f1=>by
  cases t with
  | true=>exact⟨ρ1,γ,h1,⟨rel.g.mono p1 e1,r1⟩,f1⟩
  | false=>exact⟨ρ1,γ,h1,⟨rel.g.mono p1 e1,r1⟩,f1⟩⟩⟩
def aNil:G->M (List D):=λ_=>pure []
def z8(ma:G->M D)(mr:G->M (List D)):G->M (List D):=λγ=>do
 let x <- ma γ;let r <- mr γ
 pure (x::r)
variable{es:List Expr}
theorem Z1:SA X EX [] aNil:=⟨PA.imp z2m λσ H Q ⟨ρ,γ,h,rel,fin⟩=>fin ρ H .(b) .(d) rel.h [] RDs.nil⟩
theorem z6(ha:SE X EX a ma)(hr:SA X EX es mr)(hs:K09 (a::es) X.env=(false,eval a X.env)::K09 es X.env:=by first|exact z7X|exact zD7|exact zK1|exact zt7|exact z9t|exact z6M|exact zo2|exact zE2|exact z9a|exact z80|rfl):SA X EX (a::es) (z8 ma mr):=
 ⟨PA.imp (z0P ha.h hr.h hs) λσ H Q ⟨ρ,γ,h,rel,fin⟩=>⟨ρ,γ,h,rel,(Fin.bind fin).mono λx ρ1 h1 H1 p1 e1 r1 f1 v rv=>⟨ρ1,γ,h1,⟨rel.g.mono p1 e1,r1⟩,(Fin.bind f1).mono λds ρ2 h2 H2 p2 e2 r2 f2 vs rvs=>
  f2 ρ2 H2 .(b) .(d) r2 (v::vs) (RDs.cons (rv.mono p2 e2) rvs)⟩⟩⟩
def eTup(mr:G->M (List D)):G->M D:=λγ=>do
 let xs <- mr γ
 if .(21)<=sizeLine then pure (.tup xs) else bad
def eLst(mr:G->M (List D)):G->M D:=λγ=>do
 let xs <- mr γ
 newL xs
theorem z0z{k:Nat}(h:SA X EX es mr):SE X EX (.Tuple es k pos) (eTup mr):=
 ⟨PE.imp (zY7 h.h) λσ H Q ⟨ρ,γ,h,rel,fin⟩=>⟨ρ,γ,h,rel,(Fin.bind fin).mono λxs ρ1 h1 H1 p1 e1 r1 f1 vs rvs=>by
  by_cases hl:.(21)<=sizeLine
  ·rw[if_pos hl]at f1;exact⟨by rw[<- rvs.length];exact hl,λp hp=>FE.tup (h:=h1) f1 r1 rvs hp⟩
  ·rw[if_neg hl]at f1;exact(show False from f1).elim⟩⟩
theorem z0K(h:SA X EX es mr):SE X EX (.List es pos) (eLst mr):=
 ⟨PE.imp (zX9 h.h) λσ H Q ⟨ρ,γ,h,rel,fin⟩=>⟨ρ,γ,h,rel,(Fin.bind fin).mono λxs ρ1 h1 H1 p1 e1 r1 f1 vs rvs=>by
  unfold newL at f1;split at f1
  ·rename_i hl;exact⟨by rw[<- rvs.length];exact hl,λp hp=>FE.lst (h:=h1) f1 r1 rvs hp⟩
  ·exact(show False from f1).elim⟩⟩
def fIx:D->D->M D
 | .str z,.int i=>if z.length<=sizeLine then (match atI z.cps.toList i with
  | some c=>pure (.str ⟨#[c]⟩)
  | none=>bad) else bad
 | x,.int i=>do
  let xs <- seqD x
  match atI xs i with
  | some d=>pure d
  | none=>bad
 | _,_=>bad
theorem zJ1{i:Int}{d:D}(h:RDs K ρ H ds xs)(e:atI ds i=some d):∃x,atI xs i=some x/\RD K ρ H d x:=by
 unfold atI at e ⊢;rw[<- .(m)];cases q:ixN ds.length i with
 | none=>rw[q]at e;cases e
 | some j=>rw[q]at e;exact h.get e
theorem Z0s:BR X.K EX (rIx X.K) fIx:=by
 intro ρ h H x y v u Q r rx ry fin;unfold fIx at fin;split at fin
 ·simp only[RD]at rx ry;subst rx;subst ry;rename_i z i;by_cases hl:z.length<=sizeLine
  ·rw[if_pos hl]at fin;cases hc:atI z.cps.toList i with
   | none=>rw[hc]at fin;exact fin.elim
   | some c=>
    rw[hc]at fin;exact .inr (.inr ⟨_,_,c,rfl,rfl,hl,hc,FE.here fin r .(C)⟩)
  ·rw[if_neg hl]at fin;exact fin.elim
 ·rename_i i _;simp only[RD]at ry;subst ry;have f1:=Fin.bind fin;cases e:seqD x h with
  | bad=>rw[e]at f1;exact f1.elim
  | err z hz=>exact(z3Q e).elim
  | ok ys h1=>
   obtain⟨rfl,p,xs,rfl,hs,hd⟩:=z2Q r rx e;rw[e]at f1;have f2:=f1 ρ H .(b) .(d) r;dsimp only at f2;cases q:atI ys i with
   | none=>rw[q]at f2;exact f2.elim
   | some d=>
    rw[q]at f2;obtain⟨w,h2,h3⟩:=zJ1 hd q;rcases hs with hs|hs
    ·exact .inl ⟨p,xs,i,w,rfl,rfl,hs,h2,FE.here f2 r h3⟩
    ·exact .inr (.inl ⟨p,xs,i,w,rfl,rfl,hs,h2,FE.here f2 r h3⟩)
 ·exact fin.elim
theorem Z5(ha:SE X EX a ma)(hb:SE X EX b mb)(hs:ze4 b:=by intro _ _;rfl):SE X EX (.Subscript a b pos) (e2 fIx ma mb):=
 z9V (ta:=tE X.K EX ma) (tb:=tE X.K EX mb) (Z0D zQ3 ha.h hb.h hs) Z0s
end
section
variable{b:Expr}{ma:G->M D}{es:List Expr}
def AR(K:K1)(EX:XX)(r:List V->Hp->VK->Prop)(f:List D->M D):Prop:=∀ρ h H ds vs Q,RH K ρ h H->RDs K ρ H ds vs->FE K EX ρ H Q (f ds h)->r vs H Q
def Z6(f:List D->M D)(mr:G->M (List D)):G->M D:=λγ=>do
 let xs <- mr γ
 f xs
theorem z1P{r:List V->Hp->VK->Prop}{f:List D->M D}(h:PE X e (tCB r (tL X.K EX mr)))(hr:AR X.K EX r f):SE X EX e (Z6 f mr):=
 ⟨PE.imp h λσ H Q ⟨ρ,γ,h,rel,fin⟩=>⟨ρ,γ,h,rel,(Fin.bind fin).mono λxs ρ1 h1 H1 p1 e1 r1 f1 vs rvs=>hr ρ1 h1 H1 xs vs Q r1 rvs f1⟩⟩
theorem rds1{d:D}(h:RDs K ρ H [d] vs):∃v,vs=[v]/\RD K ρ H d v:=by
 simp only[RDs]at h;obtain⟨x,r,rfl,h2,rfl⟩:=h;exact⟨x,rfl,h2⟩
def fLen:List D->M D
 | [.str z]=>if z.length<=sizeLine then pure (.int z.length) else bad
 | [x]=>do
  let xs <- seqD x
  pure (.int .(21))
 | _=>bad
theorem zO9:AR X.K EX (λxs H Q=>∃x n,xs=[x]/\LenV X.K x H n/\Q (.int n) H) fLen:=by
 intro ρ h H ds vs Q r rd fin;unfold fLen at fin;split at fin
 ·rename_i z;obtain⟨v,rfl,rv⟩:=rds1 rd;simp only[RD]at rv;subst rv;by_cases hl:z.length<=sizeLine
  ·rw[if_pos hl]at fin;exact⟨_,z.length,rfl,⟨hl,rfl⟩,FE.here fin r .(C)⟩
  ·rw[if_neg hl]at fin;exact fin.elim
 ·rename_i x _;obtain⟨v,rfl,rv⟩:=rds1 rd;have f1:=Fin.bind fin;cases e:seqD x h with
  | bad=>rw[e]at f1;exact f1.elim
  | err z hz=>exact(z3Q e).elim
  | ok ys h1=>
   obtain⟨rfl,p,xs,rfl,hs,hd⟩:=z2Q r rv e;rw[e]at f1;have f2:=f1 ρ H .(b) .(d) r;refine⟨_,ys.length,rfl,?_,FE.here f2 r .(C)⟩;rw[hd.length];rcases hs with hs|hs
   ·exact .inl ⟨xs,hs,rfl⟩
   ·exact .inr ⟨xs,hs,rfl⟩
 ·exact fin.elim
theorem Y3(hg:Gl X "len")(hm:X.mg "len" = none)(ha:SA X EX [a] mr)(he:K09 [a] X.env=[(false,eval a X.env)]:=by rfl):SE X EX (.Call (.Name "len" p) [a] [] pos) (Z6 fLen mr):=
 z1P (z1I zt2 hg hm PySem.boot_len ha.h .(0) .(0) he rfl) zO9
def z0g:List D->M D
 | [.tup xs]=>pure (.tup xs)
 | [x]=>do
  let xs <- seqD x
  pure (.tup xs)
 | _=>bad
theorem zr1:AR X.K EX (λxs H Q=>∃p ys,xs=[.ref p]/\((SqL X.K H p ys/\∀l,H l=none->Q (.ref l) (upd H l (.tup ys)))\/(SqT X.K H p ys/\Q (.ref p) H))) z0g:=by
 intro ρ h H ds vs Q r rd fin;unfold z0g at fin;split at fin
 ·obtain⟨v,rfl,rv⟩:=rds1 rd;have rv':=rv;simp only[RD]at rv;obtain⟨q,xs,rfl,h1,h2⟩:=rv;exact⟨q,xs,rfl,.inr ⟨h1,FE.here fin r rv'⟩⟩
 ·rename_i x hx;obtain⟨v,rfl,rv⟩:=rds1 rd;have f1:=Fin.bind fin;cases e:seqD x h with
  | bad=>rw[e]at f1;exact f1.elim
  | err z hz=>exact(z3Q e).elim
  | ok ys h1=>
   obtain⟨rfl,q,xs,rfl,hs,hd⟩:=z2Q r rv e;rw[e]at f1;have f2:=f1 ρ H .(b) .(d) r;refine⟨q,xs,rfl,?_⟩;rcases hs with hs|hs
   ·exact .inl ⟨hs,λl hl=>FE.tup f2 r hd hl⟩
   ·refine .inr ⟨hs,FE.here f2 r ?_⟩;simp only[RD];exact⟨q,xs,rfl,hs,hd⟩
 ·exact fin.elim
theorem z08(hg:Gl X "tuple")(hm:X.mg "tuple" = none)(ha:SA X EX [a] mr)(he:K09 [a] X.env=[(false,eval a X.env)]:=by rfl):SE X EX (.Call (.Name "tuple" p) [a] [] pos) (Z6 z0g mr):=
 z1P (z1m z6r hg hm .(2) ha.h .(0) .(0) he rfl) zr1
def z9w:List D->M D
 | [x]=>do
  let xs <- seqD x
  newL xs
 | _=>bad
theorem zJ3:AR X.K EX (λxs H Q=>∃p ys,xs=[.ref p]/\(SqL X.K H p ys\/SqT X.K H p ys)/\∀l,H l=none->Q (.ref l) (upd H l (.lst ys))) z9w:=by
 intro ρ h H ds vs Q r rd fin;unfold z9w at fin;split at fin
 ·rename_i x;obtain⟨v,rfl,rv⟩:=rds1 rd;have f1:=Fin.bind fin;cases e:seqD x h with
  | bad=>rw[e]at f1;exact f1.elim
  | err z hz=>exact(z3Q e).elim
  | ok ys h1=>
   obtain⟨rfl,q,xs,rfl,hs,hd⟩:=z2Q r rv e;rw[e]at f1;have f2:=f1 ρ H .(b) .(d) r;unfold newL at f2;dsimp only at f2;split at f2
   ·exact⟨q,xs,rfl,hs,λl hl=>FE.lst f2 r hd hl⟩
   ·exact f2.elim
 ·exact fin.elim
theorem zI1(hg:Gl X "list")(hm:X.mg "list" = none)(ha:SA X EX [a] mr)(he:K09 [a] X.env=[(false,eval a X.env)]:=by rfl):SE X EX (.Call (.Name "list" p) [a] [] pos) (Z6 z9w mr):=
 z1P (z1m z7q hg hm .(2) ha.h .(0) .(0) he rfl) zJ3
def tyD:D->M String
 | .non=>pure "NoneType"
 | .bl _=>pure "bool"
 | .int _=>pure "int"
 | .str _=>pure "str"
 | .tup _=>pure "tuple"
 | .fl _=>pure "list"
 | .ref n=>λh=>match h[n]? with
  | .(l _)=>.ok "list" h
  | some .dct=>.ok "dict" h
  | some (.dK _)=>.ok "dict" h
  | _=>.bad
def subT(t T:String):Bool:=t==T||(t=="bool"&&T=="int")
def tyNames:List String:=["NoneType","bool","int","str","tuple","list","dict"]
def tyAsked:List String:=["bool","int","str","tuple","list","dict"]
theorem zD9:tyNames.all (λt=>tyAsked.all λT=>decide (K5q [] (.type t) (.type T)=some (subT t T)))=true:=by decide +kernel
theorem z90{t:String}(h1:t∈tyNames)(h2:T∈tyAsked):K5q K (.type t) (.type T)=some (subT t T):=by
 have q:=zD9;rw[K1t]at q;have q2:=q t h1;rw[K1t]at q2;have q3:=q2 T h2;exact of_decide_eq_true q3
def fIsi(T:String):D->M D:=λx=>do
 let t <- tyD x
 pure (.bl (subT t T))
theorem zL1{σ:L2.St}{E:Value->Shared->Prop}{c:Value}{k:Bool}(I:Inv X pins σ H s)(h:SqT X.K H q xs)(e:K5q X.K (.type "tuple") c=some k)(hQ:∀tk,Q (.bool k) { s with toks:=tk }):
 wpAny .(8) X.A (call (.builtin "isinstance") [.ref q,c]) Q E s:=by
 obtain⟨its,_,ht,_⟩:=I.tuple h;obtain⟨o,h1,h2,_⟩:=ht;exact K1l K9r I.kIn ⟨o,h1,h2⟩ e (λz=>nomatch z) hQ
theorem zL2{σ:L2.St}{E:Value->Shared->Prop}{c:Value}{k:Bool}(I:Inv X pins σ H s)(h:SqL X.K H q xs)(e:K5q X.K (.type "list") c=some k)(hQ:∀tk,Q (.bool k) { s with toks:=tk }):
 wpAny .(8) X.A (call (.builtin "isinstance") [.ref q,c]) Q E s:=by
 obtain⟨its,_,ht,_⟩:=I.list h;obtain⟨o,n,h1,h2,_⟩:=ht;exact K1l K7d I.kIn ⟨o,h1,h2⟩ e (λz=>nomatch z) hQ
def TyV(K:K1)(H:Hp)(v:V)(t:String):Prop:=match v with
 | .non=>t = "NoneType"
 | .bl _=>t = "bool"
 | .int _=>t = "int"
 | .str _=>t = "str"
 | .ref q=>(t = "tuple"/\∃xs,SqT K H q xs)\/(t = "list"/\∃xs,SqL K H q xs)\/(t = "dict"/\(H q=some (dctO q)\/∃kvs,H q=some (.dK kvs)))
 | _=>False
theorem zt0(hT:T∈tyAsked):z2W X (.builtin "isinstance") (λxs H Q=>∃x t,xs=[x,.ty T]/\TyV X.K H x t/\Q (.bl (subT t T)) H):=by
 intro pins s σ H xs us Q I r h;obtain⟨x,t,rfl,ty,q⟩:=h;obtain⟨u,w',rfl,rx,rt⟩:=vals2 r;cases rt;have fin:∀tk,EP X pins σ Q (.bool (subT t T)) { s with toks:=tk }:=λtk=>⟨.bl _,H,I.tok tk,rfl,q⟩;have tb:∀{z:V} {t':Value},z=x->TyOf X.K H z t'->t'=.type t->t∈tyNames->wpAny .(8) X.A (call (.builtin "isinstance") [u,.type T]) (EP X pins σ Q) X.xe s:=λ{z t'} e1 ty' e2 hn=>by
  subst e1;subst e2;exact ze0 I rx ty' (z90 hn hT) fin
 cases x with
 | non=>exact tb rfl .non (by rw[show t = "NoneType" from ty]) (by rw[show t = "NoneType" from ty];decide)
 | bl y=>exact tb rfl (.bl y) (by rw[show t = "bool" from ty]) (by rw[show t = "bool" from ty];decide)
 | int y=>exact tb rfl (.int y) (by rw[show t = "int" from ty]) (by rw[show t = "int" from ty];decide)
 | str y=>exact tb rfl (.str y) (by rw[show t = "str" from ty]) (by rw[show t = "str" from ty];decide)
 | ref y=>
  cases rx;rcases(show (t = "tuple"/\∃xs,SqT X.K H y xs)\/(t = "list"/\∃xs,SqL X.K H y xs)\/(t = "dict"/\(H y=some (dctO y)\/∃kvs,H y=some (.dK kvs))) from ty) with ⟨rfl,xs,hs⟩|⟨rfl,xs,hs⟩|⟨rfl,hs|⟨kvs,hs⟩⟩
  ·exact zL1 I hs (z90 .(0) hT) fin
  ·exact zL2 I hs (z90 .(0) hT) fin
  ·exact K1l K7e I.kIn (I.hok y _ hs).1 (z90 .(0) hT) (λz=>nomatch z) fin
  ·exact tb rfl (.dK hs) rfl .(0)
 | byt y=>exact(show False from ty).elim
 | flt y=>exact(show False from ty).elim
 | ty y=>exact(show False from ty).elim
theorem zK3{x:D}{t:String}(r:RH K ρ h H)(rx:RD K ρ H x v)(e:tyD x h=.ok t h1):h1=h/\TyV K H v t:=by
 cases x with
 | non=>cases e;simp only[RD]at rx;subst rx;exact⟨rfl,rfl⟩
 | bl y=>cases e;simp only[RD]at rx;subst rx;exact⟨rfl,rfl⟩
 | int y=>cases e;simp only[RD]at rx;subst rx;exact⟨rfl,rfl⟩
 | str y=>cases e;simp only[RD]at rx;subst rx;exact⟨rfl,rfl⟩
 | tup y=>cases e;simp only[RD]at rx;obtain⟨q,xs,rfl,h2,_⟩:=rx;exact⟨rfl,.inl ⟨rfl,xs,h2⟩⟩
 | fl y=>cases e;simp only[RD]at rx;obtain⟨q,xs,rfl,h2,_⟩:=rx;exact⟨rfl,.inr (.inl ⟨rfl,xs,h2.sq⟩)⟩
 | ref n=>
  simp only[RD]at rx;obtain⟨q,rfl,h2⟩:=rx;unfold tyD at e;dsimp only at e;cases q1:h[n]? with
  | none=>rw[q1]at e;cases e
  | some ob=>
   rw[q1]at e;cases ob with
   | set ks=>cases e
   | dK kvs=>
    cases e;obtain⟨a1,n1,vs,o1,d1⟩:=r.at q1;rw[h2]at n1;cases n1;exact⟨rfl,.inr (.inr ⟨rfl,.inr ⟨_,o1⟩⟩)⟩
   | dF kvs=>cases e
   | exc c=>cases e
   | ins _ _=>cases e
   | lst ds=>
    cases e;obtain⟨a1,n1,vs,o1,d1⟩:=r.at q1;rw[h2]at n1;cases n1;exact⟨rfl,.inr (.inl ⟨rfl,vs,SqL.of o1⟩)⟩
   | dct=>
    cases e;obtain⟨a1,n1,o1⟩:=r.at q1;rw[h2]at n1;cases n1;exact⟨rfl,.inr (.inr ⟨rfl,.inl o1⟩)⟩
theorem zR7{x:D}{z:Exn}(e:tyD x h=.err z h1):False:=by
 cases x with
 | ref n=>
  unfold tyD at e;dsimp only at e;split at e<;>cases e
 | _=>cases e
def eIsi(T:String)(ma:G->M D):G->M D:=λγ=>do
 let x <- ma γ
 fIsi T x
theorem z1v{T:Str}{T':String}(hg:Gl X "isinstance")(hm:X.mg "isinstance" = none)(hgT:Gl X T)(hmT:X.mg T=none)(hv:K51 T=some (.type T'))(hT:T'∈tyAsked)(ha:SE X EX a ma)(hn:T≠"__name__":=by decide)(hd:(T==("__debug__":Str))=false:=by decide)
 (he:K09 [a,.Name T p2] X.env=[(false,eval a X.env),(false,eval (.Name T p2) X.env)]:=by rfl) (he2:K09 [.Name T p2] X.env=[(false,eval (.Name T p2) X.env)]:=by rfl):SE X EX (.Call (.Name "isinstance" p) [a,.Name T p2] [] pos) (eIsi T' ma):=by
 constructor;have hA:PA X [a,.Name T p2] (zm1 (tE X.K EX ma) (zm1 (tC (.ty T')) tNil)):=z0P ha.h (z0P (zC9 hgT hmT hv rfl hn hd) z2m he2) (by rw[he,he2]);refine PE.imp (z1I (zt0 hT) hg hm .(2) hA .(0) .(0) (by rw[he,he2]) (by rw[he2];rfl)) λσ H Q ⟨ρ,γ,h,rel,fin⟩=>⟨ρ,γ,h,rel,(Fin.bind fin).mono λx ρ1 h1 H1 p1 e1 r1 f1 v rv=>?_⟩;have f2:=Fin.bind f1;cases e:tyD x h1 with
 | bad=>rw[e]at f2;exact f2.elim
 | err z hz=>exact(zR7 e).elim
 | ok t h2=>
  obtain⟨rfl,ty⟩:=zK3 r1 rv e;rw[e]at f2;have f3:=f2 ρ1 H1 .(b) .(d) r1;exact⟨v,t,rfl,ty,FE.here f3 r1 .(C)⟩
def blsD:List D->Option (List Bool)
 | []=>some []
 | .bl b::r=>(blsD r).map (b::·)
 | _::_=>none
def fAll(any:Bool):List D->M D
 | [.ref n]=>do
  let xs <- getL n
  match blsD xs with
  | some bs=>pure (.bl (if any then bs.any id else bs.all id))
  | none=>bad
 | _=>bad
theorem zg7{K:K1}{ρ:List Addr}{H:Hp}:∀{xs:List D}{bs:List Bool}{vs:List V},blsD xs=some bs->RDs K ρ H xs vs->vs=bs.map V.bl
 | [],bs,vs,e,r=>by simp only[RDs]at r;cases e;subst r;rfl
 | x::xs,bs,vs,e,r=>by
  simp only[RDs]at r;obtain⟨v,r2,rfl,h1,h2⟩:=r;cases x<;>first|(simp only[blsD]at e;cases e;done)|skip
  rename_i b;simp only[blsD]at e;obtain⟨bs',e1,rfl⟩:=K15.mp e;simp only[RD]at h1;subst h1;rw[zg7 e1 h2];rfl
theorem z8u:∀{bs:List Bool}{us:List Value},Vals (bs.map V.bl) us->us=bs.map K6p
 | [],us,h=>by cases h;rfl
 | b::bs,us,h=>by
  cases h with
  | cons h1 h2=>cases h1;rw[z8u h2];rfl
theorem range_all{bs:List Bool}:((K7 bs.length).all λi=>bs.getD i false)=bs.all id:=by
 rw[K0p,K1t,K1t];constructor
 ·intro h x hx;obtain⟨i,hi,rfl⟩:=K2v hx;have:=h i (K0q.mpr hi);simpa [K9c,hi] using this
 ·intro h i hi;have hi':=K0q.mp hi;have:=h bs[i] (K3l hi');simpa [K9c,hi'] using this
theorem range_any{bs:List Bool}:((K7 bs.length).any λi=>bs.getD i false)=bs.any id:=by
 rw[K0p,K1n,K1n];constructor
 ·rintro⟨i,hi,h⟩;have hi':=K0q.mp hi;refine⟨bs[i],K3l hi',?_⟩;simpa [K9c,hi'] using h
 ·rintro⟨x,hx,h⟩;obtain⟨i,hi,rfl⟩:=K2v hx;exact⟨i,K0q.mpr hi,by simpa [K9c,hi] using h⟩
theorem z56(any:Bool)(hc:X.calm=true):z2W X (.builtin (if any then "any" else "all")) (λxs H Q=>∃(q:Addr) (bs:List Bool),xs=[.ref q]/\SqL X.K H q (bs.map V.bl)/\Q (.bl (if any then bs.any id else bs.all id)) H):=by
 intro pins s σ H xs us Q I r h;obtain⟨q,bs,rfl,hq,hQ⟩:=h;obtain⟨u,rfl,ru⟩:=vals1 r;cases ru;obtain⟨its,rv,pl,hz⟩:=I.list hq;have ei:=z8u rv;have ne:q≠s.heap.objs.size:=K0o (by obtain⟨o,n,e,_⟩:=pl;exact K0a e);have pl':=pl.isList;have hwalk:=Walks.list (prog:=X.prog) (w:=X.w) (A:=X.A.in1) (show X.A.in1.handled=none from I.ok.hd hc) .(4) q ne its.toArray;have len:its.toArray.size=bs.length:=by rw[ei];simp
 have st0:(s.heap.push { cls:=.type "list_iterator",data:=.fields #[.ref q,.int 0 0] }).IsListIter .(4) q 0/\(s.heap.push { cls:=.type "list_iterator",data:=.fields #[.ref q,.int 0 0] }).IsList q its.toArray:=
  ⟨⟨_,K0b _ rfl,rfl,rfl⟩,pl'.at λo e=>K8 _ e⟩
 have tr:TruthOf X.prog X.w X.A.in1 (λi v=>its.toArray[i]?=some v) λi=>bs.getD i false:=λi v s' Q' E' hv hq'=>by
  have hv':its[i]?=some v:=by simpa using hv
  rw[ei,K04]at hv';cases eb:bs[i]? with
  | none=>rw[eb]at hv';cases hv'
  | some b=>
   rw[eb]at hv';cases hv';have:bs.getD i false=b:=by simp[K9c,eb]
   dsimp only at hq';rw[this]at hq';exact K38 hq'
 have fin:∀k,k=(if any then bs.any id else bs.all id)->∀h' tk,(∀b o,b∉[.(4)]->(s.heap.push { cls:=.type "list_iterator",data:=.fields #[.ref q,.int 0 0] }).get? b=some o->h'.get? b=some o) ->
  EP X pins σ Q (.bool k) { s with heap:=h',toks:=tk }:=λk ek h' tk hk=>by
  subst ek;refine⟨.bl _,H,I.kept λb o e=>hk b o ?_ (K8 _ e),rfl,hQ⟩;intro z;have:b=s.heap.objs.size:=by simpa using z
  exact absurd (K0a e) (by rw[this];exact K2e _)
 cases any with
 | false=>
  refine call_all_walk (K39 pl' ⟨_,_,_,_,_,_,_,rfl,hwalk,st0,tr,λh' tk hk=>?_⟩);exact fin _ (by rw[len];exact range_all) h' tk hk
 | true=>
  refine call_any_walk (K39 pl' ⟨_,_,_,_,_,_,_,rfl,hwalk,st0,tr,λh' tk hk=>?_⟩);exact fin _ (by rw[len];exact range_any) h' tk hk
theorem zx4{any:Bool}:AR X.K EX (λxs H Q=>∃(q:Addr) (bs:List Bool),xs=[.ref q]/\SqL X.K H q (bs.map V.bl)/\Q (.bl (if any then bs.any id else bs.all id)) H) (fAll any):=by
 intro ρ h H ds vs Q r rd fin;unfold fAll at fin;split at fin
 ·rename_i n;obtain⟨v,rfl,rv⟩:=rds1 rd;have f1:=Fin.bind fin;cases e:getL n h with
  | bad=>rw[e]at f1;exact f1.elim
  | err z hz=>exact(z11 e).elim
  | ok xs h1=>
   obtain⟨rfl,q1⟩:=z14 e;rw[e]at f1;have f2:=f1 ρ H .(b) .(d) r;dsimp only at f2;cases eb:blsD xs with
   | none=>rw[eb]at f2;exact f2.elim
   | some bs=>
    rw[eb]at f2;simp only[RD]at rv;obtain⟨q,rfl,h2⟩:=rv;obtain⟨a1,n1,vs,o1,d1⟩:=r.at q1;rw[h2]at n1;cases n1;have ev:=zg7 eb d1;subst ev;exact⟨q,bs,rfl,SqL.of o1,FE.here f2 r .(C)⟩
 ·exact fin.elim
theorem zQ5(hc:X.calm=true)(hg:Gl X "all")(hm:X.mg "all" = none)(ha:SA X EX [a] mr)(he:K09 [a] X.env=[(false,eval a X.env)]:=by rfl):SE X EX (.Call (.Name "all" p) [a] [] pos) (Z6 (fAll false) mr):=
 z1P (z1I (z56 false hc) hg hm .(2) ha.h .(0) .(0) he rfl) zx4
theorem zY8(hc:X.calm=true)(hg:Gl X "any")(hm:X.mg "any" = none)(ha:SA X EX [a] mr)(he:K09 [a] X.env=[(false,eval a X.env)]:=by rfl):SE X EX (.Call (.Name "any" p) [a] [] pos) (Z6 (fAll true) mr):=
 z1P (z1I (z56 true hc) hg hm .(2) ha.h .(0) .(0) he rfl) zx4
end
abbrev EX0:XX:=λ_ _ _ _=>False
def spB(K:K1)(mf:List D->M D)(n:Nat):Sp:=λvs H Q _=>vs.length=n/\∃ρ ds h,RH K ρ h H/\RDs K ρ H ds vs/\FE K EX0 ρ H Q (mf ds h)
structure Fn(P:K1a)(w:World)(K:K1)(mg:Str->Option Value)(base:Heap)(k:Nat)(x:Str)(n:Nat)(mf:List D->M D):Prop where
 ex:∃f fd ps,FnOk P w K mg base CX0 k f fd ps (spB K mf n)/\Binds K fd ps []/\K3n K (.ref f)=true/\mg x=.(r f)
def eFn(n:Nat)(mf:List D->M D)(mr:G->M (List D)):G->M D:=λγ=>do
 let xs <- mr γ
 if .(21)=n then mf xs else bad
section
variable{b:Expr}{ma:G->M D}{es:List Expr}{k:Nat}
theorem Z4(F:Fn X.prog X.w X.K X.mg X.base k x n mf)(hr:Room k X.A)(hg:Gl X x)(ha:SA X EX0 (a::es) mr)(hdb:.(16)=false:=by decide)
 (he:K09 (a::es) X.env=(false,eval a X.env)::K09 es X.env:=by rfl) (hpl:(backTo pos (K09 es X.env)).any (·.1)=false:=by rfl):SE X EX0 (.Call (.Name x p) (a::es) [] pos) (eFn n mf mr):=by
 constructor;obtain⟨f,fd,ps,h1,h2,h3,h4⟩:=F.ex;refine PE.imp (zF0 h1 hr hg h4 h3 h2 .nil Z0o ha.h hdb he hpl) λσ H Q ⟨ρ,γ,h,rel,fin⟩=>⟨ρ,γ,h,rel,(Fin.bind fin).mono λxs ρ1 h1 H1 p1 e1 r1 f1 vs rvs=>?_⟩;show spB X.K mf n (vs++[]) H1 Q E0;rw[K1d];by_cases hl:.(21)=n
 ·rw[if_pos hl]at f1;exact⟨by rw[<- rvs.length];exact hl,ρ1,xs,h1,r1,rvs,f1⟩
 ·rw[if_neg hl]at f1;exact(show False from f1).elim
end
def z10(n:Nat)(ds:List D):G:=ds.map some++K0c (n - ds.length) none
def runF(n:Nat)(mb:G->M Out)(ds:List D):M D:=do
 let o <- mb (z10 n ds)
 match o with
 | .nx _=>pure .non
 | .rt d=>pure d
 | _=>bad
theorem z4S(h:RDs K ρ H ds vs):RG K ρ H (z10 N.length ds) (L2.start N vs):=by
 have hl:=.(m);refine⟨by unfold z10 L2.start;simp[hl],λi d e=>?_⟩;unfold z10 at e;unfold L2.start;rw[K41]at e ⊢;rw[K03]at e ⊢;rw[<- hl];split at e
 ·rename_i hi;rw[if_pos hi];rw[K04]at e ⊢;cases q:ds[i]? with
  | none=>rw[q]at e;cases e
  | some d'=>
   rw[q]at e;cases e;obtain⟨v,h1,h2⟩:=h.get q;exact⟨v,by rw[h1];rfl,h2⟩
 ·rw[K2k]at e;split at e<;>cases e
section
variable{t:Option Expr}{l:Nat}{tg:List Expr}
theorem zb8{a p}:K21 (.List a p) t l env=pure false:=rfl
theorem z95{a b p}:K21 (.Tuple a b p) t l env=pure false:=rfl
theorem z4L{c k p}:K21 (.Constant c k p) t l env=pure false:=rfl
theorem zj2{c p}:K21 (.Name c p) t l env=pure false:=rfl
theorem z86{a b c p}:K21 (.Call a b c p) t l env=pure false:=rfl
theorem z8R{a b c p}:K21 (.BinOp a b c p) t l env=pure false:=rfl
theorem z5E{a b c p}:K21 (.Compare a b c p) t l env=pure false:=rfl
theorem z4a{a b p}:K21 (.Subscript a b p) t l env=pure false:=rfl
theorem z5p{a b p}:K21 (.UnaryOp a b p) t l env=pure false:=rfl
theorem z6L{a b p}:K21 (.BoolOp a b p) t l env=pure false:=rfl
theorem z96{a b c p}:K21 (.IfExp a b c p) t l env=pure false:=rfl
end
section
variable{b:Expr}{ma:G->M D}{ms mt:G->M Out}
def bNil:G->M Out:=λγ=>pure (.nx γ)
def Z0(ms mt:G->M Out):G->M Out:=λγ=>do
 let o <- ms γ
 match o with
 | .nx γ'=>mt γ'
 | o=>pure o
theorem Z3:SB X EX [] bNil:=⟨PSs.imp zJ0 λσ H D ⟨ρ,γ,h,rel,fin⟩=>fin ρ H .(b) .(d) rel.h σ rel.g⟩
theorem z7(h1:S1 X EX st ms)(h2:SB X EX sts mt):SB X EX (st::sts) (Z0 ms mt):=
 ⟨PSs.imp (zr5 h1.h h2.h) λσ H D ⟨ρ,γ,h,rel,fin⟩=>⟨ρ,γ,h,rel,(Fin.bind fin).mono λo ρ1 h1 H1 p1 e1 r1 f1=>by
  cases o with
  | nx γ'=>exact λσ' rg=>⟨ρ1,γ',h1,⟨rg,r1⟩,f1⟩
  | rt d=>exact f1 ρ1 H1 .(b) .(d) r1
  | bk γ'=>exact f1 ρ1 H1 .(b) .(d) r1
  | ct γ'=>exact f1 ρ1 H1 .(b) .(d) r1⟩⟩
theorem zM7:S1 X EX st (λ_=>bad):=⟨PS.imp zq1 λσ H D ⟨ρ,γ,h,rel,fin⟩=>(show False from fin)⟩
def sRet(ma:G->M D):G->M Out:=λγ=>do
 let d <- ma γ
 pure (.rt d)
theorem j6(ha:SE X EX a ma):S1 X EX (.Return (some a) pos) (sRet ma):=
 ⟨PS.imp (zU9 ha.h) λσ H D ⟨ρ,γ,h,rel,fin⟩=>⟨ρ,γ,h,rel,(Fin.bind fin).mono λd ρ1 h1 H1 p1 e1 r1 f1 v rv=>f1 ρ1 H1 .(b) .(d) r1 v rv⟩⟩
def z0E(ma:G->M D):G->M Out:=λγ=>do
 let _ <- ma γ
 pure (.nx γ)
theorem z0W(ha:SE X EX a ma)(hs:K21 a none pos.line X.env=pure false:=by first|exact zb8|exact z95|exact z4L|exact zj2|exact z86|exact z8R|exact z5E|exact z4a|exact z5p|exact z6L|exact z96|rfl):S1 X EX (.Expr a pos) (z0E ma):=
 ⟨PS.imp (zA6 ha.h hs) λσ H D ⟨ρ,γ,h,rel,fin⟩=>⟨ρ,γ,h,rel,(Fin.bind fin).mono λd ρ1 h1 H1 p1 e1 r1 f1 v rv=>f1 ρ1 H1 .(b) .(d) r1 σ (rel.g.mono p1 e1)⟩⟩
def sIf(k:G->M Bool)(ms mt:G->M Out):G->M Out:=λγ=>do
 let t <- k γ
 if t then ms γ else mt γ
theorem s_if(hc:SC X EX c kc)(h1:SB X EX sts ms)(h2:SB X EX sts' mt):S1 X EX (.If c sts sts' pos) (sIf kc ms mt):=
 ⟨PS.imp (Z0E hc.h h1.h h2.h) λσ H D ⟨ρ,γ,h,rel,fin⟩=>⟨ρ,γ,h,rel,(Fin.bind fin).mono λt ρ1 h1 H1 p1 e1 r1 f1=>by
  cases t with
  | true=>exact⟨ρ1,γ,h1,⟨rel.g.mono p1 e1,r1⟩,f1⟩
  | false=>exact⟨ρ1,γ,h1,⟨rel.g.mono p1 e1,r1⟩,f1⟩⟩⟩
def tG(K:K1)(EX:XX)(m:D->G->M G):TG:=λv σ H Q=>∃ρ γ h d,Rel K ρ γ h σ H/\RD K ρ H d v/\Fin K EX ρ H (λγ' ρ' _ H'=>∀σ',RG K ρ' H' γ' σ'->Q σ' H') (m d γ h)
def tGs(K:K1)(EX:XX)(m:List D->G->M G):TGs:=λvs σ H Q=>∃ρ γ h ds,Rel K ρ γ h σ H/\RDs K ρ H ds vs/\Fin K EX ρ H (λγ' ρ' _ H'=>∀σ',RG K ρ' H' γ' σ'->Q σ' H') (m ds γ h)
structure SG(X:Cx)(EX:XX)(tg:Expr)(m:D->G->M G):Prop where
 h:PG X tg (tG X.K EX m)
structure SGs(X:Cx)(EX:XX)(tg:List Expr)(m:List D->G->M G):Prop where
 h:PGs X tg (tGs X.K EX m)
theorem PG.imp{t t':TG}(h:PG X e t)(f:∀v σ H Q,t' v σ H Q->t v σ H Q):PG X e t':=λpins s σ H v u Q I r z=>h pins s σ H v u Q I r (f v σ H Q z)
theorem PGs.imp{e:List Expr}{t t':TGs}(h:PGs X e t)(f:∀v σ H Q,t' v σ H Q->t v σ H Q):PGs X e t':=λpins s σ H v u Q I r z=>h pins s σ H v u Q I r (f v σ H Q z)
def tGk(K:K1)(EX:XX)(own:List Nat)(m:D->G->M G):TG:=λv σ H Q=>∃ρ γ h d,Rel K ρ γ h σ H/\RD K ρ H d v/\Fin K EX ρ H (λγ' ρ' _ H'=>∀σ',RG K ρ' H' γ' σ'->(∀j:Nat,j∉own->σ'[j]?=σ[j]?)->Q σ' H') (m d γ h)
def tGks(K:K1)(EX:XX)(own:List Nat)(m:List D->G->M G):TGs:=λvs σ H Q=>∃ρ γ h ds,Rel K ρ γ h σ H/\RDs K ρ H ds vs/\Fin K EX ρ H (λγ' ρ' _ H'=>∀σ',RG K ρ' H' γ' σ'->(∀j:Nat,j∉own->σ'[j]?=σ[j]?)->Q σ' H') (m ds γ h)
structure SGk(X:Cx)(EX:XX)(tg:Expr)(own:List Nat)(m:D->G->M G):Prop where
 h:PG X tg (tGk X.K EX own m)
structure SGks(X:Cx)(EX:XX)(tg:List Expr)(own:List Nat)(m:List D->G->M G):Prop where
 h:PGs X tg (tGks X.K EX own m)
def gN(i:Nat):D->G->M G:=λd γ=>pure (γ.set i (some d))
theorem k7(i:Nat)(hN:X.N.Nodup)(hi:X.N[i]?=some x:=by rfl)(hx:Loc X.env.scope x:=by first|exact Or.inl rfl|exact Or.inr rfl)(hf:X.fn x=true\/X.env.scope.names.lookup x=some .local:=by first|exact .inl rfl|exact .inr rfl|assumption):SG X EX (.Name x pos) (gN i):=
 ⟨PG.imp (z88 hN hi hx hf) λv σ H Q ⟨ρ,γ,h,d,rel,rd,fin⟩=>fin ρ H .(b) .(d) rel.h _ (rel.g.set i rd)⟩
theorem Z7(i:Nat)(hN:X.N.Nodup)(hi:X.N[i]?=some x:=by rfl)(hx:Loc X.env.scope x:=by first|exact Or.inl rfl|exact Or.inr rfl)(hf:X.fn x=true\/X.env.scope.names.lookup x=some .local:=by first|exact .inl rfl|exact .inr rfl|assumption):SGk X EX (.Name x pos) [i] (gN i):=
 ⟨PG.imp (z88 hN hi hx hf) λv σ H Q ⟨ρ,γ,h,d,rel,rd,fin⟩=>fin ρ H .(b) .(d) rel.h _ (rel.g.set i rd) λj hj=>K0f (λz=>hj (by simp[z]))⟩
def z67:List D->G->M G:=λds γ=>match ds with
 | []=>pure γ
 | _=>bad
def z1b(m:D->G->M G)(ms:List D->G->M G):List D->G->M G:=λds γ=>match ds with
 | []=>bad
 | d::r=>do
  let γ1 <- m d γ
  ms r γ1
theorem z4U:SGs X EX [] z67:=⟨PGs.imp za3 λv σ H Q ⟨ρ,γ,h,ds,rel,rd,fin⟩=>by
 cases ds with
 | nil=>simp only[RDs]at rd;exact⟨rd,fin ρ H .(b) .(d) rel.h σ rel.g⟩
 | cons d r=>exact(show False from fin).elim⟩
theorem z0T{es:List Expr}{m:D->G->M G}{mr:List D->G->M G}(h1:SG X EX e m)(h2:SGs X EX es mr)(hs:(K2r (e::es) X.env).map (·.2)=assign e X.env::(K2r es X.env).map (·.2):=by rfl):SGs X EX (e::es) (z1b m mr):=
 ⟨PGs.imp (z8S h1.h h2.h hs) λvs σ H Q ⟨ρ,γ,h,ds,rel,rd,fin⟩=>by
  cases ds with
  | nil=>exact(show False from fin).elim
  | cons d r=>
   simp only[RDs]at rd;obtain⟨v,vr,rfl,h3,h4⟩:=rd;have fin':Fin X.K EX ρ H (λγ' ρ' _ H'=>∀σ',RG X.K ρ' H' γ' σ'->Q σ' H') ((m d γ >>= λγ1=>mr r γ1) h):=fin;exact⟨v,vr,rfl,ρ,γ,h,d,rel,h3,(Fin.bind fin').mono λγ1 ρ1 h1 H1 p1 e1 r1 f1 σ1 g1=>⟨ρ1,γ1,h1,r,⟨g1,r1⟩,h4.mono p1 e1,f1⟩⟩⟩
theorem z97:SGks X EX [] [] z67:=⟨PGs.imp za3 λv σ H Q ⟨ρ,γ,h,ds,rel,rd,fin⟩=>by
 cases ds with
 | nil=>simp only[RDs]at rd;exact⟨rd,fin ρ H .(b) .(d) rel.h σ rel.g λ_ _=>rfl⟩
 | cons d r=>exact(show False from fin).elim⟩
theorem z3M{es:List Expr}{o1 o2:List Nat}{m:D->G->M G}{mr:List D->G->M G}(h1:SGk X EX e o1 m)(h2:SGks X EX es o2 mr)(hs:(K2r (e::es) X.env).map (·.2)=assign e X.env::(K2r es X.env).map (·.2):=by rfl):SGks X EX (e::es) (o1++o2) (z1b m mr):=
 ⟨PGs.imp (z8S h1.h h2.h hs) λvs σ H Q ⟨ρ,γ,h,ds,rel,rd,fin⟩=>by
  cases ds with
  | nil=>exact(show False from fin).elim
  | cons d r=>
   simp only[RDs]at rd;obtain⟨v,vr,rfl,h3,h4⟩:=rd;have fin':Fin X.K EX ρ H (λγ' ρ' _ H'=>∀σ',RG X.K ρ' H' γ' σ'->(∀j:Nat,j∉o1++o2->σ'[j]?=σ[j]?)->Q σ' H') ((m d γ >>= λγ1=>mr r γ1) h):=fin;refine⟨v,vr,rfl,ρ,γ,h,d,rel,h3,(Fin.bind fin').mono λγ1 ρ1 h1 H1 p1 e1 r1 f1 σ1 g1 k1=>⟨ρ1,γ1,h1,r,⟨g1,r1⟩,h4.mono p1 e1,f1.mono λγ2 ρ2 h2 H2 p2 e2 r2 f2 σ2 g2 k2=>f2 σ2 g2 λj hj=>?_⟩⟩;rw[K1c,not_or]at hj;rw[k2 j hj.2,k1 j hj.1]⟩
def gT(n:Nat)(m:List D->G->M G):D->G->M G:=λd γ=>match d with
 | .tup xs=>if xs.length=n then m xs γ else bad
 | _=>bad
theorem z74{es:List Expr}{k:Nat}(hc:X.calm=true)(h:SGs X EX es m)(hn:(K2r es X.env).length=n:=by rfl)(hst:(K2r es X.env).findIdx? (·.1)=none:=by rfl):SG X EX (.Tuple es k pos) (gT n m):=
 ⟨PG.imp (zx8 hc h.h hn hst) λv σ H Q ⟨ρ,γ,h,d,rel,rd,fin⟩=>by
  cases d<;>first|exact(show False from fin).elim|skip
  rename_i xs;simp only[RD]at rd;obtain⟨q,vs,rfl,h1,h2⟩:=rd;have fin':Fin X.K EX ρ H (λγ' ρ' _ H'=>∀σ',RG X.K ρ' H' γ' σ'->Q σ' H') ((if .(21)=n then m xs γ else bad) h):=fin;by_cases hl:.(21)=n
  ·rw[if_pos hl]at fin';exact⟨q,vs,rfl,h1,by rw[<- h2.length];exact hl,ρ,γ,h,xs,rel,h2,fin'⟩
  ·rw[if_neg hl]at fin';exact(show False from fin').elim⟩
theorem zj0{es:List Expr}{k:Nat}(hc:X.calm=true)(h:SGks X EX es own m)(hn:(K2r es X.env).length=n:=by rfl)(hst:(K2r es X.env).findIdx? (·.1)=none:=by rfl):SGk X EX (.Tuple es k pos) own (gT n m):=
 ⟨PG.imp (zx8 hc h.h hn hst) λv σ H Q ⟨ρ,γ,h,d,rel,rd,fin⟩=>by
  cases d<;>first|exact(show False from fin).elim|skip
  rename_i xs;simp only[RD]at rd;obtain⟨q,vs,rfl,h1,h2⟩:=rd;have fin':Fin X.K EX ρ H (λγ' ρ' _ H'=>∀σ',RG X.K ρ' H' γ' σ'->(∀j:Nat,j∉own->σ'[j]?=σ[j]?)->Q σ' H') ((if .(21)=n then m xs γ else bad) h):=fin;by_cases hl:.(21)=n
  ·rw[if_pos hl]at fin';exact⟨q,vs,rfl,h1,by rw[<- h2.length];exact hl,ρ,γ,h,xs,rel,h2,fin'⟩
  ·rw[if_neg hl]at fin';exact(show False from fin').elim⟩
def fSet:D->D->D->M Unit:=λo i v=>match o,i with
 | .ref n,.int k=>λh=>match h[n]? with
  | .(l xs)=>(match ixN xs.length k with
   | some j=>.ok () (h.set n (.lst (xs.set j v)))
   | none=>.bad)
  | _=>.bad
 | _,_=>bad
def gIx(mo mi:G->M D):D->G->M G:=λv γ=>do
 let o <- mo γ;let i <- mi γ;let _ <- fSet o i v
 pure γ
theorem z6Y{o i:Expr}{mi:G->M D}(ho:SE X EX o mo)(hi:SE X EX i mi)
 (ha:∀v,assign (.Subscript o i pos) X.env v=(do
  let ov <- K44 [v] (eval o X.env);let iv <- K44 [v,ov] (eval i X.env)
  K4u pos
  K44 [v,ov,iv] (Z27 ov iv v)
  release [v,ov,iv] []):=by intro _;rfl):SG X EX (.Subscript o i pos) (gIx mo mi):=
 ⟨PG.imp (zz4 ho.h hi.h set_list ha) λv σ H Q ⟨ρ,γ,h,d,rel,rd,fin⟩=>⟨ρ,γ,h,rel,(Fin.bind fin).mono λod ρ1 h1 H1 p1 e1 r1 f1 ov ro=>⟨ρ1,γ,h1,⟨rel.g.mono p1 e1,r1⟩,(Fin.bind f1).mono λid ρ2 h2 H2 p2 e2 r2 f2 iv ri=>by
  have f3:=Fin.bind f2;cases od<;>first|exact(show False from f3).elim|skip
  rename_i n;cases id<;>first|exact(show False from f3).elim|skip
  rename_i k;simp only[RD]at ro ri;obtain⟨q,rfl,hq⟩:=ro;subst ri;have hq2:=p2 n q hq;unfold fSet at f3;dsimp only at f3;cases e4:h2[n]? with
  | none=>rw[e4]at f3;exact(show False from f3).elim
  | some ob=>
   cases ob with
   | set ks=>rw[e4]at f3;exact(show False from f3).elim
   | dct=>rw[e4]at f3;exact(show False from f3).elim
   | dK kvs=>rw[e4]at f3;exact(show False from f3).elim
   | dF kvs=>rw[e4]at f3;exact(show False from f3).elim
   | exc c=>rw[e4]at f3;exact(show False from f3).elim
   | ins _ _=>rw[e4]at f3;exact(show False from f3).elim
   | lst xs=>
    rw[e4]at f3;dsimp only at f3;cases e5:ixN .(21) k with
    | none=>rw[e5]at f3;exact(show False from f3).elim
    | some j=>
     rw[e5]at f3;obtain⟨a1,n1,vs,o1,d1⟩:=r2.at e4;rw[hq2]at n1;cases n1;have rd2:=(rd.mono p1 e1).mono p2 e2;have dd:=d1.set j rd2;refine⟨q,vs,k,j,rfl,rfl,o1,by rw[<- d1.length];exact e5,?_⟩;have ext:Ext X.K H2 (upd H2 q (.lst (vs.set j v))):=Ext.upd (.inr ⟨_,o1,trivial⟩);have f4:=f3 ρ2 _ .(b) ext (r2.set e4 hq2 dd);exact f4 ρ2 _ .(b) .(d) (r2.set e4 hq2 dd) σ (((rel.g.mono p1 e1).mono p2 e2).mono .(b) ext)⟩⟩⟩
def sAsg(ma:G->M D)(g:D->G->M G):G->M Out:=λγ=>do
 let d <- ma γ;let γ1 <- g d γ
 pure (.nx γ1)
theorem z3B(ha:SE X EX a ma)(hg:SG X EX tg g)(hs:swapsWithSole [tg] a pos.line X.env=pure false:=by rfl)(hw:swappedStores [tg] a X.env=pure none:=by rfl)
 (h1:(K2r [tg] X.env).map (·.2)=[assign tg X.env]:=by rfl):S1 X EX (.Assign [tg] a pos) (sAsg ma g):=
 ⟨PS.imp (zQ7 ha.h hg.h hs hw h1) λσ H D ⟨ρ,γ,h,rel,fin⟩=>⟨ρ,γ,h,rel,(Fin.bind fin).mono λd ρ1 h1 H1 p1 e1 r1 f1 v rv=>⟨ρ1,γ,h1,d,⟨rel.g.mono p1 e1,r1⟩,rv,(Fin.bind f1).mono λγ1 ρ2 h2 H2 p2 e2 r2 f2 σ2 g2=>
  f2 ρ2 H2 .(b) .(d) r2 σ2 g2⟩⟩⟩
theorem j7(i:Nat)(hN:X.N.Nodup)(ha:SE X EX a ma)(hi:X.N[i]?=some x:=by rfl)(hx:Loc X.env.scope x:=by first|exact Or.inl rfl|exact Or.inr rfl)(hs:K21 a (some (.Name x p)) pos.line X.env=pure false:=by first|exact zb8|exact z95|exact z4L|exact zj2|exact z86|exact z8R|exact z5E|exact z4a|exact z5p|exact z6L|exact z96|rfl)
 (hf:X.fn x=true\/X.env.scope.names.lookup x=some .local:=by first|exact .inl rfl|exact .inr rfl|assumption):S1 X EX (.Assign [.Name x p] a pos) (sAsg ma (gN i)):=
 ⟨PS.imp (zS0 hN hi hx ha.h hs hf) λσ H D ⟨ρ,γ,h,rel,fin⟩=>⟨ρ,γ,h,rel,(Fin.bind fin).mono λd ρ1 h1 H1 p1 e1 r1 f1 v rv=>f1 ρ1 H1 .(b) .(d) r1 _ ((rel.g.mono p1 e1).set i rv)⟩⟩
end
section
variable{o:Expr}{ma:G->M D}
def updL(n:Nat)(f:List D->Option (D×List D)):M D:=λh=>match h[n]? with
 | .(l xs)=>(match f xs with
  | some (d,ys)=>if ys.length<=sizeLine then .ok d (h.set n (.lst ys)) else .bad
  | none=>.bad)
 | _=>.bad
def z3T:D->M Nat
 | .ref n=>λh=>match h[n]? with
  | .(l _)=>.ok n h
  | _=>.bad
 | _=>bad
def k9(n:Nat)(v:D):M D:=updL n λxs=>some (.non,xs++[v])
def z5I(n:Nat)(i:D):M D:=match i with
 | .int k=>updL n λxs=>if -(2 ^ 63)<=k/\k<2 ^ 63 then (match K87 k xs.length with
  | some j=>(xs[j]?).map λd=>(d,xs.eraseIdx j)
  | none=>none) else none
 | _=>bad
def eM1(f:Nat->D->M D)(mo ma:G->M D):G->M D:=λγ=>do
 let o <- mo γ;let n <- z3T o;let v <- ma γ
 f n v
theorem z8l{Q:VK}{f:List D->Option (D×List D)}(r:RH K ρ h H)(hq:ρ[n]?=some q)(fin:FE K EX ρ H Q (updL n f h)):
 ∃xs d ys vs,f xs=some (d,ys)/\ys.length<=sizeLine/\H q=.(l vs)/\RDs K ρ H xs vs/\∀v ws,RD K ρ H d v->RDs K ρ H ys ws->Q v (upd H q (.lst ws)):=by
 unfold updL at fin;cases e:h[n]? with
 | none=>rw[e]at fin;exact fin.elim
 | some ob=>
  cases ob with
  | set ks=>rw[e]at fin;exact fin.elim
  | dct=>rw[e]at fin;exact fin.elim
  | dK kvs=>rw[e]at fin;exact fin.elim
  | dF kvs=>rw[e]at fin;exact fin.elim
  | exc c=>rw[e]at fin;exact fin.elim
  | ins _ _=>rw[e]at fin;exact fin.elim
  | lst xs=>
   rw[e]at fin;dsimp only at fin;cases e2:f xs with
   | none=>rw[e2]at fin;exact fin.elim
   | some dy=>
    obtain⟨d,ys⟩:=dy;rw[e2]at fin;dsimp only at fin;split at fin
    ·rename_i hl;obtain⟨a1,n1,vs,o1,d1⟩:=r.at e;rw[hq]at n1;cases n1;refine⟨xs,d,ys,vs,e2,hl,o1,d1,λv ws rv rw'=>?_⟩;have ext:Ext K H (upd H q (.lst ws)):=Ext.upd (.inr ⟨_,o1,trivial⟩);exact fin ρ _ .(b) ext (r.set e hq rw') v (rv.mono .(b) ext)
    ·exact fin.elim
theorem zI4{Z:Nat->List Addr->AH->Hp->Prop}(r:RH K ρ h H)(hq:ρ[n]?=some q)(f:Fin K EX ρ H Z (z3T (.ref n) h)):tyV K "list" (.ref q) H/\Z n ρ h H:=by
 unfold z3T at f;dsimp only at f;cases e:h[n]? with
 | none=>rw[e]at f;exact f.elim
 | some ob=>
  cases ob with
  | set ks=>rw[e]at f;exact f.elim
  | dct=>rw[e]at f;exact f.elim
  | dK kvs=>rw[e]at f;exact f.elim
  | dF kvs=>rw[e]at f;exact f.elim
  | exc c=>rw[e]at f;exact f.elim
  | ins _ _=>rw[e]at f;exact f.elim
  | lst xs=>
   rw[e]at f;obtain⟨a1,n1,vs,o1,d1⟩:=r.at e;rw[hq]at n1;cases n1;exact⟨.inl ⟨rfl,vs,SqL.of o1⟩,f ρ H .(b) .(d) r⟩
theorem zs4{f:Nat->D->M D}(hr:∀ρ h H n q y u Q,RH X.K ρ h H->ρ[n]?=some q->RD X.K ρ H y u->FE X.K EX ρ H Q (f n y h)->r (.ref q) [u] H Q):
 ∀σ H Q,tE X.K EX (eM1 f mo ma) σ H Q->tBM X.K "list" r (tE X.K EX mo) (zm1 (tE X.K EX ma) tNil) σ H Q:=λσ H Q ⟨ρ,γ,h,rel,fin⟩=>⟨ρ,γ,h,rel,(Fin.bind fin).mono λx ρ1 h1 H1 p1 e1 r1 f1 v rv=>by
 have f2:=Fin.bind f1;cases x<;>first|exact(show False from f2).elim|skip
 rename_i n;simp only[RD]at rv;obtain⟨q,rfl,hq⟩:=rv;obtain⟨lt,f3⟩:=zI4 r1 hq f2;exact⟨lt,ρ1,γ,h1,⟨rel.g.mono p1 e1,r1⟩,(Fin.bind f3).mono λy ρ2 h2 H2 p2 e2 r2 f4 u ru=>hr ρ2 h2 H2 n q y u Q r2 (p2 n q hq) ru f4⟩⟩
theorem J9(ho:SE X EX o mo)(ha:SE X EX a ma)
 (hbase:K4r o "append" X.env (eval o X.env)=eval o X.env:=by rfl)
 (hfew:((backTo cpos (K09 [a] X.env)).all (λx=>!x.1)&&(K86 cpos (K5j [] X.env)).all (λx=>x.1.isSome)
 &&decide .(u))=true:=by rfl)
 (hline:(apos.endLine==cpos.line)=true:=by rfl) (hs:K09 [a] X.env=[(false,eval a X.env)]:=by rfl) :
 SE X EX (.Call (.Attribute o "append" apos) [a] [] cpos) (eM1 k9 mo ma):=
 ⟨PE.imp (zq9 K49 PySem.F.slot_list_append PySem.F.type_list_append z6J ho.h (z0P ha.h z2m hs) hbase hfew hline hs rfl) (zs4 λρ h H n q y u Q r hq ru fin=>by
  obtain⟨xs,d,ys,vs,g1,g2,g3,g4,g5⟩:=z8l r hq fin;cases g1;have hl:=g4.length;rw[K02,K2x]at g2;exact⟨q,vs,u,rfl,rfl,g3,by omega,g5 _ _ .(C) (g4.append (RDs.cons ru RDs.nil))⟩)⟩
theorem zo0(ho:SE X EX o mo)(ha:SE X EX a ma)
 (hbase:K4r o "pop" X.env (eval o X.env)=eval o X.env:=by rfl)
 (hfew:((backTo cpos (K09 [a] X.env)).all (λx=>!x.1)&&(K86 cpos (K5j [] X.env)).all (λx=>x.1.isSome)
 &&decide .(u))=true:=by rfl)
 (hline:(apos.endLine==cpos.line)=true:=by rfl) (hs:K09 [a] X.env=[(false,eval a X.env)]:=by rfl) :
 SE X EX (.Call (.Attribute o "pop" apos) [a] [] cpos) (eM1 z5I mo ma):=
 ⟨PE.imp (zq9 K49 PySem.F.slot_list_pop PySem.F.type_list_pop zr0 ho.h (z0P ha.h z2m hs) hbase hfew hline hs rfl) (zs4 λρ h H n q y u Q r hq ru fin=>by
  cases y<;>first|exact(show False from fin).elim|skip
  rename_i k;simp only[RD]at ru;subst ru;obtain⟨xs,d,ys,vs,g1,g2,g3,g4,g5⟩:=z8l r hq fin;split at g1
  ·rename_i hk;cases e5:K87 k .(21) with
   | none=>rw[e5]at g1;cases g1
   | some j=>
    rw[e5]at g1;obtain⟨d',e1,e2⟩:=K15.mp g1;cases e2;obtain⟨v,e3,e4⟩:=g4.get e1;exact⟨q,vs,k,j,v,rfl,rfl,g3,hk.1,hk.2,by rw[<- g4.length];exact e5,e3,g5 _ _ e4 (g4.eraseIdx j)⟩
  ·cases g1)⟩
end
inductive Src where
 | con (xs:List D)
 | lst (n:Nat) (xs:List D)
 | obj (n:Nat) (o:O) (xs:List D)
variable{mi mi1:G->M Src}{src:Src}{F:Src->Nat->G->List D->M Unit}{F1:Src->G->List D->M Unit}
def Src.items:Src->List D
 | .con xs=>xs
 | .lst _ xs=>xs
 | .obj _ _ xs=>xs
def Src.good:Src->AH->Prop
 | .con _,_=>True
 | .lst n xs,h=>h[n]?=.(l xs)
 | .obj n o _,h=>h[n]?=some o
open Classical in
def Src.chk(s:Src):M Unit:=λh=>if s.good h then .ok () h else .bad
def JOK(K:K1)(src:Src)(ρ:List Addr)(H:Hp)(J:It):Prop:=∀i ρ1 h1 H1,Pre ρ ρ1->Ext K H H1->RH K ρ1 h1 H1->src.good h1 ->
 (∀d,src.items[i]?=some d->J.go i H1/\∀x H2,J.yld i H1 x H2->RD K ρ1 H2 d x/\RH K ρ1 h1 H2/\Ext K H1 H2)/\(src.items.length=i->J.stop i H1)
def tI(K:K1)(EX:XX)(m:G->M Src):TI:=λσ H R=>∃ρ γ h,Rel K ρ γ h σ H/\Fin K EX ρ H (λsrc ρ' _ H'=>∀J,JOK K src ρ' H' J->R J H') (m γ h)
structure SI(X:Cx)(EX:XX)(tg iter:Expr)(m:G->M Src):Prop where
 h:PI X tg iter (tI X.K EX m)
theorem PI.imp{t t':TI}(h:PI X tg e t)(f:∀σ H R,t' σ H R->t σ H R):PI X tg e t':=λpins s σ H R I z=>h pins s σ H R I (f σ H R z)
section
variable{o:Expr}{ma:G->M D}
def z0e(ma:G->M D):G->M Src:=λγ=>do
 let x <- ma γ
 match x with
 | .fl xs=>pure (.con xs)
 | .ref n=>do
  let xs <- getL n
  pure (.lst n xs)
 | _=>bad
theorem x8(ha:SE X EX a ma):SI X EX tg a (z0e ma):=
 ⟨PI.imp (zM4 ha.h) λσ H R ⟨ρ,γ,h,rel,fin⟩=>⟨ρ,γ,h,rel,(Fin.bind fin).mono λx ρ1 h1 H1 p1 e1 r1 f1 v rv=>by
  cases x<;>first|exact(show False from f1).elim|skip
  case fl xs=>
   simp only[RD]at rv;obtain⟨q,vs,rfl,h2,h3⟩:=rv;refine⟨q,rfl,⟨vs,h2.sq⟩,f1 ρ1 H1 .(b) .(d) r1 _ λi ρ2 h4 H2 p2 e2 r2 _=>⟨λd hd=>?_,λhi=>?_⟩⟩
   ·have h3':=h3.mono p2 e2;obtain⟨x,g1,g2⟩:=h3'.get hd;refine⟨⟨vs,x,(e2.l _ _ h2).sq,g1⟩,λy H3 ⟨z1,z2⟩=>?_⟩;subst z1;have:=z2 vs (e2.l _ _ h2).sq;rw[g1]at this;cases this;exact⟨g2,r2,Ext.refl _ _⟩
   ·exact⟨vs,(e2.l _ _ h2).sq,by rw[<- h3.length];exact K6k hi⟩
  case ref n=>
   have f2:Fin X.K EX ρ1 H1 (λsrc ρ' _ H'=>∀J,JOK X.K src ρ' H' J->R J H') ((getL n >>= λxs=>(pure (.lst n xs):M Src)) h1):=f1;have f3:=Fin.bind f2;cases e3:getL n h1 with
   | bad=>rw[e3]at f3;exact f3.elim
   | err z hz=>exact(z11 e3).elim
   | ok xs h3=>
    obtain⟨rfl,q1⟩:=z14 e3;rw[e3]at f3;simp only[RD]at rv;obtain⟨q,rfl,hq⟩:=rv;obtain⟨a1,n1,vs,o1,d1⟩:=r1.at q1;rw[hq]at n1;cases n1;have f4:=f3 ρ1 H1 .(b) .(d) r1;refine⟨q,rfl,⟨vs,SqL.of o1⟩,f4 ρ1 H1 .(b) .(d) r1 _ λi ρ2 h4 H2 p2 e2 r2 g=>?_⟩;have g':h4[n]?=.(l xs):=g;obtain⟨a2,n2,vs2,o2,d2⟩:=r2.at g';rw[p2 n q hq]at n2;cases n2;refine⟨λd hd=>?_,λhi=>⟨vs2,SqL.of o2,by rw[<- d2.length];exact K6k hi⟩⟩;obtain⟨x,g1,g2⟩:=d2.get hd;refine⟨⟨vs2,x,SqL.of o2,g1⟩,λy H3 ⟨z1,z2⟩=>?_⟩;subst z1;have:=z2 vs2 (SqL.of o2);rw[g1]at this;cases this;exact⟨g2,r2,Ext.refl _ _⟩⟩⟩
def x9(ma:G->M D):G->M Src:=λγ=>do
 let x <- ma γ
 match x with
 | .tup xs=>pure (.con xs)
 | _=>bad
theorem x5(ha:SE X EX a ma):SI X EX tg a (x9 ma):=
 ⟨PI.imp (zU8 ha.h) λσ H R ⟨ρ,γ,h,rel,fin⟩=>⟨ρ,γ,h,rel,(Fin.bind fin).mono λx ρ1 h1 H1 p1 e1 r1 f1 v rv=>by
  cases x<;>first|exact(show False from f1).elim|skip
  rename_i xs;simp only[RD]at rv;obtain⟨q,vs,rfl,h2,h3⟩:=rv;refine⟨q,rfl,⟨vs,h2⟩,f1 ρ1 H1 .(b) .(d) r1 _ λi ρ2 h4 H2 p2 e2 r2 _=>⟨λd hd=>?_,λhi=>?_⟩⟩
  ·have h3':=h3.mono p2 e2;obtain⟨x,g1,g2⟩:=h3'.get hd;refine⟨⟨vs,x,e2.t _ _ h2,g1⟩,λy H3 ⟨z1,z2⟩=>?_⟩;subst z1;have:=z2 vs (e2.t _ _ h2);rw[g1]at this;cases this;exact⟨g2,r2,Ext.refl _ _⟩
  ·exact⟨vs,e2.t _ _ h2,by rw[<- h3.length];exact K6k hi⟩⟩⟩
def z1g(n:Nat):List D:=(K7 n).map λ(i:Nat)=>.int i
def z0k(ma:G->M D):G->M Src:=λγ=>do
 let x <- ma γ
 match x with
 | .int j=>if -(2 ^ 62)<=j/\j<2 ^ 62 then pure (.con (z1g j.toNat)) else bad
 | _=>bad
theorem z01(hg:Gl X "range")(hm:X.mg "range" = none)(ha:SE X EX a ma)(hs:K09 [a] X.env=[(false,eval a X.env)]:=by rfl):SI X EX tg (.Call (.Name "range" p) [a] [] pos) (z0k ma):=
 ⟨PI.imp (za0 hg hm (z0P ha.h z2m hs) hs) λσ H R ⟨ρ,γ,h,rel,fin⟩=>⟨ρ,γ,h,rel,(Fin.bind fin).mono λx ρ1 h1 H1 p1 e1 r1 f1 v rv=>by
  cases x<;>first|exact(show False from f1).elim|skip
  rename_i j;simp only[RD]at rv;subst rv;have f2:Fin X.K EX ρ1 H1 (λsrc ρ' _ H'=>∀J,JOK X.K src ρ' H' J->R J H') ((if -(2 ^ 62)<=j/\j<2 ^ 62 then pure (.con (z1g j.toNat)) else bad:M Src) h1):=f1;by_cases hj:-(2 ^ 62)<=j/\j<2 ^ 62
  ·rw[if_pos hj]at f2;refine⟨j,rfl,hj.1,hj.2,f2 ρ1 H1 .(b) .(d) r1 _ λi ρ2 h4 H2 p2 e2 r2 _=>⟨λd hd=>?_,λhi=>?_⟩⟩
   ·have hd':(z1g j.toNat)[i]?=some d:=hd;unfold z1g at hd';rw[K04]at hd';have hi:i<j.toNat:=by
     by_cases hi:i<j.toNat
     ·exact hi
     ·rw[K0h (by simpa using hi)]at hd';cases hd'
    rw[K16 hi]at hd';cases hd';refine⟨hi,λy H3 ⟨z1,z2⟩=>?_⟩;subst z1;subst z2;exact⟨by simp[RD],r2,Ext.refl _ _⟩
   ·have hi':(z1g j.toNat).length=i:=hi;unfold z1g at hi';rw[K03,K1u]at hi';exact K6k hi'
  ·rw[if_neg hj]at f2;exact f2.elim⟩⟩
end
def forR(src:Src)(g:D->G->M G)(body:G->M Out):List D->G->M Out
 | [],γ=>do
  let _ <- src.chk
  pure (.nx γ)
 | d::r,γ=>do
  let _ <- src.chk;let γ1 <- g d γ;let o <- body γ1
  match o with
  | .nx γ2=>forR src g body r γ2
  | .ct γ2=>forR src g body r γ2
  | .bk γ2=>pure (.nx γ2)
  | .rt v=>pure (.rt v)
def sFor(mi:G->M Src)(g:D->G->M G)(body:G->M Out):G->M Out:=λγ=>do
 let src <- mi γ
 forR src g body src.items γ
theorem z8d{P:α->List Addr->AH->Hp->Prop}{f:Unit->M α}(fin:Fin K EX ρ H P ((src.chk >>= f) h))(r:RH K ρ h H):src.good h/\Fin K EX ρ H P (f () h):=by
 have f1:=Fin.bind fin;unfold Src.chk at f1;split at f1
 ·rename_i hg;exact⟨hg,f1 ρ H .(b) .(d) r⟩
 ·exact f1.elim
section
variable{o:Expr}{ma:G->M D}{mb:G->M Out}
theorem z1A(hp:Z1u .(8) X.A X.env X.xe)(hc:X.calm=true)(hi:SI X EX tg e mi)(hg:SG X EX tg g)(hb:SB X EX sts mb)(hs:∀x,K14 e X.env x=pure x:=by intro _;rfl):S1 X EX (.For tg e sts [] pos) (sFor mi g mb):=
 ⟨PS.imp (zS6 hp hc hi.h hg.h hb.h hs) λσ H D ⟨ρ,γ,h,rel,fin⟩=>⟨ρ,γ,h,rel,(Fin.bind fin).mono λsrc ρ0 h0 H0 p0 e0 r0 f0 J hJ=>by
  refine⟨λi m σ H=>m+i=src.items.length/\∃ρ γ h,Pre ρ0 ρ/\Ext X.K H0 H/\Rel X.K ρ γ h σ H/\Fin X.K EX ρ H (λo ρ' _ H'=>OutP X.K D o ρ' H') (forR src g mb (src.items.drop i) γ h),
   ⟨src.items.length,rfl,ρ0,γ,h0,Pre.refl _,Ext.refl _ _,⟨rel.g.mono p0 e0,r0⟩,f0⟩,?_⟩
  rintro i m σ1 H1 ⟨hm,ρ1,γ1,h1,p1,e1,rel1,f1⟩;by_cases hi:i<src.items.length
  ·have hd:src.items.drop i=src.items[i]::src.items.drop (i+1):=K77 hi;rw[hd]at f1;unfold forR at f1;obtain⟨good,f2⟩:=z8d f1 rel1.h;obtain⟨j1,j2⟩:=hJ i ρ1 h1 H1 p1 e1 rel1.h good;obtain⟨go,yld⟩:=j1 src.items[i] (K2 hi);refine .inr ⟨go,λσ' H'=>∃ρ γ h,Pre ρ0 ρ/\Ext X.K H0 H'/\Rel X.K ρ γ h σ' H'/\Fin X.K EX ρ H' (λo ρ' _ H'=>OutP X.K D o ρ' H') (forR src g mb (src.items.drop (i+1)) γ h),λσ' H' z=>⟨m - 1,by omega,by omega,z⟩,λx H2 y=>?_⟩;obtain⟨rd,rh,ext⟩:=yld x H2 y;refine⟨ρ1,γ1,h1,_,⟨rel1.g.mono .(b) ext,rh⟩,rd,(Fin.bind (Fin.up .(b) ext f2)).mono λγ2 ρ3 h3 H3 p3 e3 r3 f3 σ3 g3=>⟨ρ3,γ2,h3,⟨g3,r3⟩,(Fin.bind f3).mono λo ρ4 h4 H4 p4 e4 r4 f4=>?_⟩⟩;have pp:Pre ρ0 ρ4:=(p1.trans p3).trans p4;have ee:Ext X.K H0 H4:=((e1.trans ext).trans e3).trans e4;cases o with
   | nx γ5=>exact λσ5 g5=>⟨ρ4,γ5,h4,pp,ee,⟨g5,r4⟩,f4⟩
   | ct γ5=>exact λσ5 g5=>⟨ρ4,γ5,h4,pp,ee,⟨g5,r4⟩,f4⟩
   | bk γ5=>exact λσ5 g5=>f4 ρ4 H4 .(b) .(d) r4 σ5 g5
   | rt d=>exact λv rv=>f4 ρ4 H4 .(b) .(d) r4 v rv
  ·have hd:src.items.drop i=[]:=K8p .(1);rw[hd]at f1;unfold forR at f1;obtain⟨good,f2⟩:=z8d f1 rel1.h;obtain⟨j1,j2⟩:=hJ i ρ1 h1 H1 p1 e1 rel1.h good;exact .inl ⟨j2 .(1),f2 ρ1 H1 .(b) .(d) rel1.h σ1 rel1.g⟩⟩⟩
def z32(k:G->M Bool)(body:G->M Out):Nat->G->M Out
 | 0,_=>bad
 | n+1,γ=>do
  let t <- k γ
  if t then do
   let o <- body γ
   match o with
   | .nx γ2=>z32 k body n γ2
   | .ct γ2=>z32 k body n γ2
   | .bk γ2=>pure (.nx γ2)
   | .rt v=>pure (.rt v)
  else pure (.nx γ)
theorem zE6(n:Nat)(hp:Z1u .(8) X.A X.env X.xe)(hc:SC X EX c kc)(hb:SB X EX sts mb):S1 X EX (.While c sts [] pos) (z32 kc mb n):=
 ⟨PS.imp (zt4 hp hc.h hb.h) λσ H D ⟨ρ,γ,h,rel,fin⟩=>by
  refine⟨λm σ H=>∃ρ γ h,Rel X.K ρ γ h σ H/\Fin X.K EX ρ H (λo ρ' _ H'=>OutP X.K D o ρ' H') (z32 kc mb m γ h),⟨n,ρ,γ,h,rel,fin⟩,?_⟩;rintro m σ1 H1 ⟨ρ1,γ1,h1,rel1,f1⟩;cases m with
  | zero=>exact(show False from f1).elim
  | succ m=>
   unfold z32 at f1;refine⟨ρ1,γ1,h1,rel1,(Fin.bind f1).mono λt ρ2 h2 H2 p2 e2 r2 f2=>?_⟩;cases t with
   | false=>exact f2 ρ2 H2 .(b) .(d) r2 σ1 (rel1.g.mono p2 e2)
   | true=>
    rw[if_pos rfl]at f2 ⊢;refine⟨λσ' H'=>∃ρ γ h,Rel X.K ρ γ h σ' H'/\Fin X.K EX ρ H' (λo ρ' _ H'=>OutP X.K D o ρ' H') (z32 kc mb m γ h),λσ' H' z=>⟨m,by omega,z⟩,ρ2,γ1,h2,⟨rel1.g.mono p2 e2,r2⟩,(Fin.bind f2).mono λo ρ4 h4 H4 p4 e4 r4 f4=>?_⟩;cases o with
    | nx γ5=>exact λσ5 g5=>⟨ρ4,γ5,h4,⟨g5,r4⟩,f4⟩
    | ct γ5=>exact λσ5 g5=>⟨ρ4,γ5,h4,⟨g5,r4⟩,f4⟩
    | bk γ5=>exact λσ5 g5=>f4 ρ4 H4 .(b) .(d) r4 σ5 g5
    | rt d=>exact λv rv=>f4 ρ4 H4 .(b) .(d) r4 v rv⟩
end
def capG(cap:List (Option Nat))(γ:G):G:=cap.map λo=>match o with|some j=>(γ[j]?).join|none=>none
theorem zI9{σ:L2.St}(cap:List (Option Nat))(r:RG K ρ H γ σ):RG K ρ H (capG cap γ) (z4C cap σ):=by
 refine⟨by simp[capG,z4C],λi d e=>?_⟩;unfold capG at e;unfold z4C;rw[K04]at e ⊢;cases q:cap[i]? with
 | none=>rw[q]at e;cases e
 | some o=>
  rw[q]at e;cases o with
  | none=>simp at e
  | some j=>
   have e2:(γ[j]?).join=some d:=by simpa using e
   have e3:γ[j]?=some (some d):=by
    cases q2:γ[j]? with
    | none=>rw[q2]at e2;simp at e2
    | some o2=>rw[q2]at e2;simp at e2;rw[e2]
   obtain⟨v,h1,h2⟩:=r.var j d e3;exact⟨v,by simp[h1],h2⟩
def z52(src:Src)(g:D->G->M G)(k:G->M Bool)(me:G->M D)(n0:Nat)(γ:G):List D->M Unit
 | []=>do
  let _ <- src.chk
  pure ()
 | d::r=>do
  let _ <- src.chk;let γ1 <- g d γ;let t <- k γ1
  if t then do
   let v <- me γ1;let _ <- k9 n0 v
   z52 src g k me n0 γ r
  else z52 src g k me n0 γ r
def Y7(cap:List (Option Nat))(mi:G->M Src)(g:D->G->M G)(k:G->M Bool)(me:G->M D):G->M D:=λγ=>do
 let src <- mi γ;let n0 <- (λh=>.ok .(m) (h++[.lst []]):M Nat);let _ <- z52 src g k me n0 (capG cap γ) src.items
 pure (.ref n0)
structure SCs(X:Cx)(EX:XX)(ifs:List Expr)(m:G->M Bool):Prop where
 h:PTs X ifs (tT X.K EX m)
theorem PTs.imp{e:List Expr}{t:TT}(h:PTs X e t)(f:∀σ H Q,t' σ H Q->t σ H Q):PTs X e t':=λpins s σ H Q I z=>h pins s σ H Q I (f σ H Q z)
section
variable{elt:Expr}{sc:Scope}{k kr:G->M Bool}
theorem y9:SCs X EX [] .(o):=⟨PTs.imp ze6 λσ H Q ⟨ρ,γ,h,rel,fin⟩=>fin ρ H .(b) .(d) rel.h⟩
theorem z1x(h:SC X EX c k):SCs X EX [c] k:=⟨PTs.imp (zm9 h.h ze6) λσ H Q ⟨ρ,γ,h,rel,fin⟩=>⟨ρ,γ,h,rel,fin.mono λt ρ1 h1 H1 p1 e1 r1 f1=>by
 cases t with
 | true=>exact f1
 | false=>exact f1⟩⟩
def HB(X:Cx)(EX:XX)(own:List Nat)(σ0:L2.St)(ρ0:List Addr)(b:G->M Unit->M Unit)(tb:TB):Prop:=
 ∀{σ:L2.St} {γ1:G} {ρ:List Addr} {h:AH} {H:Hp} {P:Unit->List Addr->AH->Hp->Prop} {K:M Unit} {Z:Hp->Prop},Pre ρ0 ρ->(∀j,j∉own->σ[j]?=σ0[j]?)->RG X.K ρ H γ1 σ->RH X.K ρ h H->Fin X.K EX ρ H P (b γ1 K h) ->
  (∀ρ' h' H',Pre ρ ρ'->Ext X.K H H'->RH X.K ρ' h' H'->Fin X.K EX ρ' H' P (K h')->Z H')->tb σ H Z
theorem zv6{F:List D->M Unit}{b:G->M Unit->M Unit}{tb:TB}{σ0:L2.St}{H0:Hp}{ρ0:List Addr}{h0:AH}{γ:G}{src:Src}{J:It}{P:Hp->Prop}
 (hnil:F []=(do let _ <- src.chk;pure ())) (hcons:∀d r,F (d::r)=(do let _ <- src.chk;let γ1 <- g d γ;let t <- k γ1;if t then b γ1 (F r) else F r))
 (r0:RH X.K ρ0 h0 H0) (rg:RG X.K ρ0 H0 γ σ0) (hJ:JOK X.K src ρ0 H0 J) (hown:∀j∈own,∀v,σ0[j]?≠some (some v)) (hb:HB X EX own σ0 ρ0 b tb)
 (fin:Fin X.K EX ρ0 H0 (λ_ ρ' h' H'=>RH X.K ρ' h' H'->Ext X.K H0 H'->Pre ρ0 ρ'->P H') (F src.items h0)):runG (tGk X.K EX own g) (tT X.K EX k) tb σ0 J P H0:=by
 refine⟨λi m H=>m+i=src.items.length/\∃ρ h,Pre ρ0 ρ/\Ext X.K H0 H/\RH X.K ρ h H /\
  Fin X.K EX ρ H (λ_ ρ' h' H'=>RH X.K ρ' h' H'->Ext X.K H0 H'->Pre ρ0 ρ'->P H') (F (src.items.drop i) h),
  ⟨src.items.length,rfl,_,_,Pre.refl _,Ext.refl _ _,r0,fin⟩,?_⟩
 rintro i m H1 ⟨hm,ρ1,h1,p1,e1,r1,f1⟩;by_cases hi:i<src.items.length
 ·rw[show src.items.drop i=src.items[i]::src.items.drop (i+1) from K77 hi,hcons]at f1;obtain⟨good,f2⟩:=z8d f1 r1;obtain⟨j1,j2⟩:=hJ i ρ1 h1 H1 p1 e1 r1 good;obtain⟨go,yld⟩:=j1 src.items[i] (K2 hi);refine .inr ⟨go,λx H2 y=>?_⟩;obtain⟨rd,rh,ext⟩:=yld x H2 y;refine⟨ρ1,_,h1,_,⟨rg.mono p1 (e1.trans ext),rh⟩,rd,(Fin.bind (Fin.up .(b) ext f2)).mono λγ2 ρ3 h3 H3 p3 e3 r3 f3 σ3 g3 k3=>⟨λj v hv=>?_,ρ3,γ2,h3,⟨g3,r3⟩,(Fin.bind f3).mono λt ρ4 h4 H4 p4 e4 r4 f4=>?_⟩⟩
  ·rw[k3 j λhj=>hown j hj v hv];exact hv
  ·have pp:Pre ρ0 ρ4:=(p1.trans p3).trans p4;have ee:Ext X.K H0 H4:=((e1.trans ext).trans e3).trans e4;cases t with
   | false=>
    rw[if_neg .(0)]at f4;dsimp only;rw[if_neg .(0)];exact⟨m - 1,by omega,by omega,ρ4,h4,pp,ee,r4,f4⟩
   | true=>
    rw[if_pos rfl]at f4;dsimp only;rw[if_pos rfl];exact hb pp k3 (g3.mono p4 e4) r4 f4 λρ5 h5 H5 p5 e5 r5 f5=>⟨m - 1,by omega,by omega,ρ5,h5,pp.trans p5,ee.trans e5,r5,f5⟩
 ·rw[show src.items.drop i=[] from K8p .(1),hnil]at f1;obtain⟨good,f2⟩:=z8d f1 r1;obtain⟨j1,j2⟩:=hJ i ρ1 h1 H1 p1 e1 r1 good;exact .inl ⟨j2 .(1),f2 ρ1 H1 .(b) .(d) r1 r1 e1 p1⟩
theorem zv7{σ0:L2.St}{n0:Nat}(hD:ρ0[n0]?=some Dd):HB X EX own σ0 ρ0 (λγ1 K=>do let v <- me γ1;let _ <- k9 n0 v;K) (bApp (tE X.K EX me) Dd):=λ{σ γ1 ρ h H P K Z} p0 _ rg rh fin hz=>by
 refine⟨ρ,γ1,h,⟨rg,rh⟩,(Fin.bind fin).mono λd ρ5 h5 H5 p5 e5 r5 f5 v rv=>?_⟩;have hq:ρ5[n0]?=some Dd:=(p0.trans p5) _ _ hD;have f6:=Fin.bind f5;unfold k9 updL at f6;cases e7:h5[n0]? with
 | none=>rw[e7]at f6;exact f6.elim
 | some ob=>
  cases ob<;>first|(rw[e7]at f6;exact f6.elim)|skip
  rename_i xs;rw[e7]at f6;dsimp only at f6;split at f6
  ·rename_i hl;obtain⟨a1,n1,vs,o1,d1⟩:=r5.at e7;rw[hq]at n1;cases n1;have ext2:Ext X.K H5 (upd H5 Dd (.lst (vs++[v]))):=Ext.upd (.inr ⟨_,o1,trivial⟩);have r6:=r5.set e7 hq (d1.append (RDs.cons rv RDs.nil));rw[K02,K2x]at hl;have hl2:=d1.length;exact⟨vs,o1,by omega,hz ρ5 _ _ p5 (e5.trans ext2) r6 (f6 ρ5 _ .(b) ext2 r6)⟩
  ·exact f6.elim
theorem zX1{mi1:G->M Src}{g1:D->G->M G}{k1:G->M Bool}{own1:List Nat}{F1:Src->G->List D->M Unit}{b1:G->M Unit->M Unit}{tb1:TB}{σ0:L2.St}{ρ0:List Addr}
 (hnil:∀src γ,F1 src γ []=(do let _ <- src.chk;pure ())) (hcons:∀src γ d r,F1 src γ (d::r)=(do let _ <- src.chk;let γ1 <- g1 d γ;let t <- k1 γ1;if t then b1 γ1 (F1 src γ r) else F1 src γ r))
 (hown1:∀j∈own1,j∉own/\∀v,σ0[j]?≠some (some v)) (hb1:∀{σ1:L2.St} {ρ1:List Addr},Pre ρ0 ρ1->HB X EX own1 σ1 ρ1 b1 tb1) :
 HB X EX own σ0 ρ0 (λγ1 K=>do let s1 <- mi1 γ1;let _ <- F1 s1 γ1 s1.items;K) (bIn (tI X.K EX mi1) (tGk X.K EX own1 g1) (tT X.K EX k1) tb1):=λ{σ γ1 ρ h H P K Z} p0 k0 rg rh fin hz=>by
 refine⟨ρ,γ1,h,⟨rg,rh⟩,(Fin.bind fin).mono λs1 ρ4 h4 H4 p4 e4 r4 f4 J1 hJ1=>?_⟩;refine zv6 (hnil s1 γ1) (hcons s1 γ1) r4 (rg.mono p4 e4) hJ1 (λj hj v hv=>?_) (hb1 (p0.trans p4)) ((Fin.bind f4).mono λ_ ρ5 h5 H5 p5 e5 r5 f5 rr ex pr=>hz ρ5 h5 H5 (p4.trans p5) (e4.trans e5) r5 f5);rw[k0 j (hown1 j hj).1]at hv;exact(hown1 j hj).2 v hv
structure CmA(X:Cx)(EX:XX)(ce:Expr)(sc:Scope)(tg iter:Expr)(ifs:List Expr)(N':List Str)(cap:List (Option Nat))(own:List Nat)(mi:G->M Src)(g:D->G->M G)(k:G->M Bool)(oo:O)(b:Nat->G->M Unit->M Unit)(F:Src->Nat->G->List D->M Unit):Prop where
 ex:∃(mk:Sem Value) (o0:HO) (bd:Addr->Env->Sem Unit) (p:Pos) (tbd:Addr->L2.TB),CmE ce sc tg iter ifs mk o0 bd p/\(∀(ρ:List Addr) (H:Hp) (Dd:Addr),RO X.K ρ (upd H Dd o0) oo Dd)/\(∀D s H fp xe,PBd .(9) (bd D (X.comp N' sc s H fp xe).env) (tbd D)) /\
  ∀{σ0:L2.St} {ρ0:List Addr} {n0:Nat} {Dd:Addr},(∀(j:Nat),cap[j]?=some none->∀v,σ0[j]?≠some (some v))->ρ0[n0]?=some Dd->HB X EX own σ0 ρ0 (b n0) (tbd Dd)
 nil:∀src n0 γ,F src n0 γ []=(do let _ <- src.chk;pure ())
 cons:∀src n0 γ d r,F src n0 γ (d::r)=(do let _ <- src.chk;let γ1 <- g d γ;let t <- k γ1;if t then b n0 γ1 (F src n0 γ r) else F src n0 γ r)
def eCm(cap:List (Option Nat))(mi:G->M Src)(oo:O)(F:Src->Nat->G->List D->M Unit):G->M D:=λγ=>do
 let src <- mi γ;let n0 <- (λh=>.ok .(m) (h++[oo]):M Nat);let _ <- F src n0 (capG cap γ) src.items
 pure (.ref n0)
theorem zv1{ce:Expr}{oo:O}{b:Nat->G->M Unit->M Unit}{F:Src->Nat->G->List D->M Unit}{o0:HO}{tbd:Addr->TB}{σ:L2.St}{γ:G}{src:Src}{ρ0:List Addr}{h0:AH}{H0:Hp}{J:It}{Dd:Addr}{Q:Hp->Prop}
 (A:CmA X EX ce sc tg iter ifs N' cap own mi g k oo b F) (ho:∀(ρ:List Addr) (H:Hp) (Dd:Addr),RO X.K ρ (upd H Dd o0) oo Dd) (hb:∀{σ0:L2.St} {ρ0:List Addr} {n0:Nat} {Dd:Addr},(∀(j:Nat),cap[j]?=some none->∀v,σ0[j]?≠some (some v))->ρ0[n0]?=some Dd->HB X EX own σ0 ρ0 (b n0) (tbd Dd))
 (hown:∀j∈own,cap[j]?=some none) (r0:RH X.K ρ0 h0 H0) (rg:RG X.K ρ0 H0 γ σ) (hJ:JOK X.K src ρ0 H0 J) (hD:H0 Dd=none) {R:D->List Addr->AH->Hp->Prop}
 (fin:Fin X.K EX ρ0 H0 R ((do let n0 <- (λh=>.ok .(m) (h++[oo]):M Nat);let _ <- F src n0 (capG cap γ) src.items;pure (.ref n0):M D) h0))
 (z:∀ρ' h' H',Pre ρ0 ρ'->Ext X.K H0 H'->RH X.K ρ' h' H'->R (.ref h0.length) ρ' h' H'->RD X.K ρ' H' (.ref h0.length) (.ref Dd)->Q H') :
 runG (tGk X.K EX own g) (tT X.K EX k) (tbd Dd) (z4C cap σ) J Q (upd H0 Dd o0):=by
 have rP:RH X.K (ρ0++[Dd]) (h0++[oo]) (upd H0 Dd o0):=r0.pushO hD (ho _ _ _);have eP:Ext X.K H0 (upd H0 Dd o0):=Ext.upd (.inl hD);have f2:=(Fin.bind fin) (ρ0++[Dd]) _ (Pre.app _ _) eP rP;have at0:(ρ0++[Dd])[h0.length]?=some Dd:=by rw[<- r0.len];simp
 have non:∀(j:Nat),cap[j]?=some none->∀v,(z4C cap σ)[j]?≠some (some v):=λj e v hv=>by
  unfold z4C at hv;rw[K04,e]at hv;simp at hv
 refine zv6 (A.nil src h0.length (capG cap γ)) (A.cons src h0.length (capG cap γ)) rP ((zI9 cap rg).mono (Pre.app _ _) eP) (λi ρ1 h1 H1 p e r good=>hJ i ρ1 h1 H1 ((Pre.app _ _).trans p) (eP.trans e) r good) (λj hj=>non j (hown j hj)) (hb non at0) ((Fin.bind f2).mono λ_ ρ5 h5 H5 p5 e5 r5 f5 rr ee pp=>?_);refine z ρ5 h5 H5 ((Pre.app _ _).trans pp) (eP.trans ee) rr (f5 ρ5 H5 .(b) .(d) rr) ?_;simp only[RD];exact⟨Dd,rfl,pp _ _ at0⟩
theorem zX0(A:CmA X EX ce sc tg iter ifs N' cap own mi g k oo b F)(hc:X.calm=true)(S:CS X sc N' cap)(hi:SI X EX tg iter mi)(hg:∀s H fp xe,SGk .(9) EX tg own g)(ht:∀s H fp xe,SCs .(9) EX ifs k)
 (hown:∀j∈own,cap[j]?=some none) (hs:∀x,K14 iter X.env x=pure x):SE X EX ce (eCm cap mi oo F):=by
 obtain⟨mk,o0,bd,p,tbd,C,ho,hbd,hb⟩:=A.ex;exact⟨PE.imp (Z0v (g:=tGk X.K EX own g) (ti:=tT X.K EX k) C hc S hi.h (λs H fp xe=>(hg s H fp xe).h) (λs H fp xe=>(ht s H fp xe).h) hbd hs) λσ H Q ⟨ρ,γ,h,rel,fin⟩=>⟨ρ,γ,h,rel,(Fin.bind fin).mono λsrc ρ0 h0 H0 p0 e0 r0 f0 J hJ Dd hD=>
  zv1 A ho hb hown r0 (rel.g.mono p0 e0) hJ hD f0 λρ' h' H' p' e' r' q rd=>q _ rd⟩⟩
theorem s_cm(i:Nat){y:Str}{py spos:Pos}(A:CmA X EX ce sc tg iter ifs N' cap own mi g k oo b F)(hc:X.calm=true)(S:CS X sc N' cap)(hi:SI X EX tg iter mi)(hg:∀s H fp xe,SGk .(9) EX tg own g)(ht:∀s H fp xe,SCs .(9) EX ifs k)
 (hown:∀j∈own,cap[j]?=some none) (hN:X.N.Nodup) (hy:X.N[i]?=some y) (hl:X.env.scope.names.lookup y=some .local) (hsw:K21 ce (some (.Name y py)) spos.line X.env=pure true) (hs:∀x,K14 iter X.env x=pure x) :
 S1 X EX (.Assign [.Name y py] ce spos) (sAsg (eCm cap mi oo F) (gN i)):=by
 obtain⟨mk,o0,bd,p,tbd,C,ho,hbd,hb⟩:=A.ex;exact⟨PS.imp (Z0F (g:=tGk X.K EX own g) (ti:=tT X.K EX k) C hc S hi.h (λs H fp xe=>(hg s H fp xe).h) (λs H fp xe=>(ht s H fp xe).h) hbd hN hy hl hsw hs) λσ H D ⟨ρ,γ,h,rel,fin⟩=>⟨ρ,γ,h,rel,(Fin.bind (Fin.bind fin)).mono λsrc ρ0 h0 H0 p0 e0 r0 f0 J hJ Dd hD=>
  zv1 A ho hb hown r0 (rel.g.mono p0 e0) hJ hD f0 λρ' h' H' p' e' r' q rd=>(q ρ' H' .(b) .(d) r') _ (((rel.g.mono p0 e0).mono p' e').set i rd)⟩⟩
theorem z91(he:∀s H fp xe,SE .(9) EX elt me):CmA X EX (.ListComp elt [⟨tg,iter,ifs,0⟩] sc pos) sc tg iter ifs N' cap own mi g k (.lst []) (λn0 γ1 K=>do let v <- me γ1;let _ <- k9 n0 v;K) (λsrc n0 γ=>z52 src g k me n0 γ):=
 ⟨⟨_,_,_,_,bApp (tE X.K EX me),zC2,λρ H Dd=>⟨[],J4,RDs.nil⟩,λD s H fp xe=>zh4 (he s H fp xe).h,λ_ hD=>zv7 hD⟩,λ_ _ _=>rfl,λ_ _ _ _ _=>rfl⟩
theorem w6(hc:X.calm=true)(S:CS X sc N' cap)(hi:SI X EX tg iter mi)(hg:∀s H fp xe,SGk .(9) EX tg own g)(ht:∀s H fp xe,SCs .(9) EX ifs k)
 (he:∀s H fp xe,SE .(9) EX elt me) (hown:∀j∈own,cap[j]?=some none:=by decide) (hs:∀x,K14 iter X.env x=pure x:=by intro _;rfl):SE X EX (.ListComp elt [⟨tg,iter,ifs,0⟩] sc pos) (Y7 cap mi g k me):=
 zX0 (z91 he) hc S hi hg ht hown hs
def z1L(i:Nat)(cap:List (Option Nat))(mi:G->M Src)(g:D->G->M G)(k:G->M Bool)(me:G->M D):G->M Out:=sAsg (Y7 cap mi g k me) (gN i)
theorem z4f(i:Nat){y:Str}{py spos:Pos}(hc:X.calm=true)(S:CS X sc N' cap)(hi:SI X EX tg iter mi)(hg:∀s H fp xe,SGk .(9) EX tg own g)(ht:∀s H fp xe,SCs .(9) EX ifs k)
 (he:∀s H fp xe,SE .(9) EX elt me) (hN:X.N.Nodup) (hy:X.N[i]?=some y:=by rfl) (hl:X.env.scope.names.lookup y=some .local:=by rfl) (hown:∀j∈own,cap[j]?=some none:=by decide)
 (hsw:K21 (.ListComp elt [⟨tg,iter,ifs,0⟩] sc pos) (some (.Name y py)) spos.line X.env=pure true:=by rfl) (hs:∀x,K14 iter X.env x=pure x:=by intro _;rfl) :
 S1 X EX (.Assign [.Name y py] (.ListComp elt [⟨tg,iter,ifs,0⟩] sc pos) spos) (z1L i cap mi g k me):=
 s_cm i (z91 he) hc S hi hg ht hown hN hy hl hsw hs
end
def csOk(osc:Scope)(N:List Str)(sc:Scope)(N':List Str)(cap:List (Option Nat)):Bool:=
 (sc.kind==.function)&&sc.names.all (λy=>y.2 != .cell)&&sc.names.all (λx=>x.2 != .local||sc.names.lookup x.1==some .local) &&
 sc.names.all (λx=>x.2 != .free||(osc.names.lookup x.1==some .cell||osc.names.lookup x.1==some .free))&&(cap.length==N'.length) &&
 (K7 cap.length).all λi=>match cap[i]? with
  | some (some j)=>(match N'[i]?,N[j]? with
   | some x,some y=>x==y&&sc.names.lookup x==some .free
   | _,_=>false)
  | _=>true
theorem z05{sc:Scope}(h:csOk X.env.scope X.N sc N' cap=true):CS X sc N' cap:=by
 unfold csOk at h;simp only[K0i]at h;obtain⟨⟨⟨⟨⟨h1,h2⟩,h3⟩,h4⟩,h5⟩,h6⟩:=h;refine⟨by simpa using h1,λy hy=>?_,λx hx hl=>?_,λx hx hf=>?_,by simpa using h5,λi j e=>?_⟩
 ·have:=K1t.mp h2 y hy;simpa using this
 ·have:=K1t.mp h3 x hx;simpa [hl] using this
 ·have:=K1t.mp h4 x hx;have:(X.env.scope.names.lookup x.1==some .cell||X.env.scope.names.lookup x.1==some .free)=true:=by simpa [hf] using this
  rw[K3c]at this;rcases this with z|z
  ·exact .inl (show X.env.scope.names.lookup x.1=_ by simpa using z)
  ·exact .inr (show X.env.scope.names.lookup x.1=_ by simpa using z)
 ·have hi:i<cap.length:=(K5.mp e).1;have:=K1t.mp h6 i (K0q.mpr hi);rw[e]at this;dsimp only at this;cases e1:N'[i]? with
  | none=>rw[e1]at this;cases this
  | some x=>
   cases e2:X.N[j]? with
   | none=>rw[e1,e2]at this;cases this
   | some y=>
    rw[e1,e2]at this;simp only[K0i]at this;have exy:x=y:=by simpa using this.1
    subst exy;exact⟨x,rfl,rfl,by simpa using this.2⟩
def DefAt(K:K1)(x:Str)(st:Stmt):Prop:=∃f fd,K1x K K1p x=some (.(r f))/\Fun K x x st f fd
theorem defAt_mk{st:Stmt}{f:Addr}{oc:Value}{od an:Option Addr}{sl:Array (Option Value)}{kV dc pm cd ct:Value}(a:K1x K K1p x=some (.(r f)))
 (l:K.lookup f=some ⟨oc,od,.func (K3z x x (z3e st) (z0x st) (j4 st) .none kV dc pm an cd ct),sl⟩) (c:K34 K cd x=true) (k:K3n K (.ref f)=true):DefAt K x st:=
 ⟨f,_,a,zW6 l c k⟩
section
variable{prog:K1a}
theorem zJ4{t:Addr}{items:Array Value}{x:Value}{Q:Value->Shared->Prop}(hit:s.heap.IsTupleIter it t i)(ht:s.heap.IsTuple t items)(hx:items[i]?=some x)
 (hQ:∀h',h'.IsTupleIter it t (i+1)->K3f it s.heap h'->Q x { s with heap:=h' }):wpAny (model prog w) A (K3v (.ref it)) Q E s:=by
 obtain⟨oi,e1,c1,d1⟩:=id hit;obtain⟨ot,e2,_,nt,d2⟩:=ht;unfold K3v;refine K0 (K2l (name:=K01 "__next__") hit.typeIs K2s
  (K20 K2s hit.typeIs K5o ?_ (K5h _)))
 show wpAny _ _ (field (.ref it) 0 >>= _) _ _ s;refine K0 (K4v e1 d1 (x:=.ref t) rfl ?_);show wpAny _ _ (if (K1f t==K2h)=true then _ else _) _ _ s;have nn:¬ (K1f t==K2h)=true:=K10;rw[if_neg nn];show wpAny _ _ (field (.ref it) 1 >>= _) _ _ s;refine K0 (K4v e1 d1 (x:=.int i 0) rfl ?_);show wpAny _ _ (Z1r (.ref t) >>= _) _ _ s;refine K0 (K6x e2 d2 ?_);simp only[K0k,hx];refine K0 (K2q e1 d1 .(f) (K9 ⟨x,rfl,K9 (hQ _ ?_ (K1j ..))⟩));exact⟨_,K2y _ e1 (K4s (K3o d1 _)),(Obj.cls_mapFields ..).trans c1,by
  rw[K3o d1];simp[rawInt]⟩
theorem zQ4{t:Addr}{items:Array Value}{Q:Value->Shared->Prop}(hh:A.handled=none)(hit:s.heap.IsTupleIter it t i)(ht:s.heap.IsTuple t items)(hx:items[i]?=none)
 (hE:∀h' e,Z1z it s.heap h'->(∃o,h'.get? e=some o/\o.cls=.type "StopIteration")->E (.ref e) { s with heap:=h' }):wpAny (model prog w) A (K3v (.ref it)) Q E s:=by
 obtain⟨oi,e1,c1,d1⟩:=id hit;obtain⟨ot,e2,_,nt,d2⟩:=ht;unfold K3v;refine K0 (K2l (name:=K01 "__next__") hit.typeIs K2s
  (K20 K2s hit.typeIs K5o ?_ (K5h _)))
 show wpAny _ _ (field (.ref it) 0 >>= _) _ _ s;refine K0 (K4v e1 d1 (x:=.ref t) rfl ?_);show wpAny _ _ (if (K1f t==K2h)=true then _ else _) _ _ s;have nn:¬ (K1f t==K2h)=true:=K10;rw[if_neg nn];show wpAny _ _ (field (.ref it) 1 >>= _) _ _ s;refine K0 (K4v e1 d1 (x:=.int i 0) rfl ?_);show wpAny _ _ (Z1r (.ref t) >>= _) _ _ s;refine K0 (K6x e2 d2 ?_);simp only[K0k,hx];refine K0 (K65 (K0 (K2q e1 d1 .(f) ?_)));show wpAny _ _ (newExc (.type "StopIteration") [] >>= _) _ _ _;refine K0 ?_;simp only[newExc,newTuple];refine K0 (K1b ?_ (by size_fits));refine K0 (m:=K6y _ _) (K98 (a:=K2h) (by first|rfl|(simp only[K6y];rfl)) ?_);refine K1b ?_ (by size_fits);simp only[raiseNew];refine K0 (wpAny_handled ?_)
 first|rw[show A.in1.handled=none from hh]|rw[hh]
 refine K0 (K9 (wpAny_throw ?_));exact hE _ _ (((K1j ..).extBut.push _).push _) ⟨_,K0b _ rfl,rfl⟩
end
theorem zO1{σ:L2.St}{ch:List Addr}{T:Addr}{vs:List V}{its:List Value}{h2:Heap}{t:Nat}(I:L2.Inv X pins σ H s)
 (hf:∀b∈ch,FpOk X pins H b) (kp:∀b o,b∉ch->s.heap.get? b=some o->h2.get? b=some o) (hT:.(4)<=T) (tup:IsTup0 h2 T its.toArray) (rv:Vals vs its) (hz:vs.length<=sizeLine) :
 L2.Inv X pins σ (upd H T (.tup vs)) { s with heap:=h2,toks:=t }:=by
 have hn:H T=none:=I.hok.fresh hT;have ne:∀{b:Addr} {o:Obj},s.heap.get? b=some o->b≠T:=λe=>K0o (K0j (K0a e) hT);refine I.step (g':=s.gens) (d':=s.drawn) (ch:=ch) (λb hb=>⟨(hf b hb).2.2.2.1,(hf b hb).2.1,(hf b hb).2.2.2.2.1,(hf b hb).2.2.2.2.2⟩) (λb o _ _ hc e _=>kp b o hc e) (λb o _ _ hc e _=>⟨o.slots,kp b o hc e⟩)
  (λb o _ e n=>by rw[Y1 (ne e)];exact n) (λb o hc e=>⟨o,kp b o hc e⟩) (λb xs e=>by rw[Y1 (x4 e hn)];exact e) (λb o u e=>by rw[Y1 (x4 e hn)];exact e)
  (λb ps e=>⟨#[],by rw[Y1 (x4 e hn),e];simp⟩) (λm hm=>?_) (λb u e=>?_) I.bare
 ·obtain⟨o,es,ep,q,r⟩:=hm;exact⟨o,es,ep,kp _ o (λz=>(hf _ z).2.1 rfl) q,r⟩
 ·by_cases hb:b=T
  ·subst hb;rw[J4]at e;cases e;exact⟨hz,its,rv,tup⟩
  ·rw[Y1 hb]at e;refine(I.hok b u e).stay (λc v hc q=>kp c v (λz=>?_) q) (λc q=>?_) λc xs q=>?_
   ·rcases hc with y|y
    ·rw[y]at z;rw[(hf b z).1]at e;cases e
    ·rw[(hf c z).1]at y;cases y
   ·rw[Y1 (x4 q hn)];exact q
   ·rw[Y1 (x4 q hn)];exact q
def Its(x:Str):It:=⟨λi _=>i<x.cps.size,λi H v H'=>H'=H/\∃c,x.cps[i]?=some c/\v=.str ⟨#[c]⟩,λi _=>x.cps.size=i⟩
theorem z8r{P:K1a}{w:World}{K:K1}{tg:Expr}{it:Addr}{x:Str}{t:Tok}{T:String}
 (W:∀A:Around,A.handled=none->Walks P w A it [it] [it] x.cps.size (SignAt x) (λi h=>h.IsStrIter it T x t i))
 (hself:∀(A:Around) (i:Nat) (s:Shared) (Q:Value->Shared->Prop) (E:Value->Shared->Prop),s.heap.IsStrIter it T x t i->Q (.ref it) s->wpAny (model P w) A (pyIter (.ref it)) Q E s):Turn P w K tg (Its x) [it] it (λi h=>h.IsStrIter it T x t i) where
 mem:=by simp
 obj:=λi h st b hb=>by
  have e:b=it:=by simpa using hb
  subst e;obtain⟨o,e1,c1,d1⟩:=st;exact⟨o,e1,λv z=>by rw[d1]at z;cases z⟩
 keep:=λi h h' st k=>let ⟨o,e1,r⟩:=st;⟨o,k it .(f) o e1,r⟩
 item:=by
  intro X hP hw hK hc i pins s σ H E I hf st hg;subst hP hw hK;obtain⟨f0,f1,f2,f3,f4,f5⟩:=hf it .(f);refine(W X.A (I.ok.hd hc)).item i s _ _ hg st λv h' tk hv st' kp=>?_;obtain⟨c,u,q1,rfl⟩:=hv;have I1:L2.Inv X pins σ H { s with heap:=h',toks:=tk }:=I.turned (λb o hb e=>kp b o (by simpa using hb) e) f0 f1 f3 f4 f5;refine⟨_,rfl,?_⟩;have go:K4k tg (.ref it) (K9b ⟨#[c]⟩ u)=pure ():=by cases tg<;>rfl
  rw[go];exact K9 ⟨.str ⟨#[c]⟩,H,I1,⟨_,rfl⟩,⟨rfl,c,q1,rfl⟩,st',λb hb=>(hf b hb).1⟩
 done:=by
  intro X hP hw hK hc i pins s σ H E I hf st hg;subst hP hw hK;obtain⟨f0,f1,f2,f3,f4,f5⟩:=hf it .(f);have hg':x.cps.size=i:=hg;subst hg';exact(W X.A (I.ok.hd hc)).done s _ _ st λh' tk kp=>⟨rfl,I.turned (λb o hb e=>kp b o (by simpa using hb) e) f0 f1 f3 f4 f5⟩
 self:=hself
section
variable{b:Expr}{ma:G->M D}
def Z0C(ta:TE):TI:=λσ H R=>ta σ H λv H1=>∃x,v=.str x/\R (Its x) H1
theorem zU5{ta:TE}(ha:PE X a ta):PI X tg a (Z0C ta):=by
 intro pins s σ H R I h;refine thn .(Z) λv s1 ⟨y,H1,I1,r1,q1⟩=>?_;obtain⟨x,rfl,q⟩:=q1;obtain⟨t,rfl⟩:=r1;have fo:∀b∈[.(k)],FpOk X pins H1 b:=λb hb=>by
  have e:b=s1.heap.objs.size:=by simpa using hb
  subst e;exact I1.fpOk (K05 _) (I1.hok.fresh (K05 _))
 cases ha':x.cps.all (·<128)
 ·refine wpAny_pyIter_wide ha' ?_;exact⟨.(k),[.(k)],_,_,H1,rfl,I1.kept (t':=s1.toks) λb o e=>K8 _ e,z8r (λA hA=>Walks.strWide hA _ x t) (λA i s Q E st h=>wpAny_pyIter_striter_wide st h),⟨_,K0b _ rfl,rfl,rfl⟩,fo,q⟩
 ·refine wpAny_pyIter_ascii ha' ?_;exact⟨.(k),[.(k)],_,_,H1,rfl,I1.kept (t':=s1.toks) λb o e=>K8 _ e,z8r (λA hA=>Walks.strAscii hA _ x t) (λA i s Q E st h=>wpAny_pyIter_striter_ascii st h),⟨_,K0b _ rfl,rfl,rfl⟩,fo,q⟩
def z37(x:Str):List D:=x.cps.toList.map λc=>.str ⟨#[c]⟩
def iStr(ma:G->M D):G->M Src:=λγ=>do
 let x <- ma γ
 match x with
 | .str z=>pure (.con (z37 z))
 | _=>bad
theorem zS8(hc:X.calm=true)(ha:SE X EX a ma):SI X EX tg a (iStr ma):=
 ⟨PI.imp (zU5 ha.h) λσ H R ⟨ρ,γ,h,rel,fin⟩=>⟨ρ,γ,h,rel,(Fin.bind fin).mono λx ρ1 h1 H1 p1 e1 r1 f1 v rv=>by
  cases x<;>first|exact(show False from f1).elim|skip
  rename_i z;simp only[RD]at rv;subst rv;refine⟨z,rfl,f1 ρ1 H1 .(b) .(d) r1 _ λi ρ2 h4 H2 p2 e2 r2 _=>⟨λd hd=>?_,λhi=>?_⟩⟩
  ·have hd':(z37 z)[i]?=some d:=hd;unfold z37 at hd';rw[K04]at hd';cases e:z.cps.toList[i]? with
   | none=>rw[e]at hd';cases hd'
   | some c=>
    rw[e]at hd';cases hd';have e':z.cps[i]?=some c:=by simpa using e
    refine⟨?_,λy H3 ⟨z1,c',z2,z3⟩=>?_⟩
    ·have:=(K5.mp e).1;exact(show i<z.cps.size by simpa using this)
    ·subst z1;rw[e']at z2;cases z2;subst z3;exact⟨by simp[RD],r2,Ext.refl _ _⟩
  ·have hi':(z37 z).length=i:=hi;unfold z37 at hi';rw[K03]at hi';exact(show z.cps.size=i by simpa using hi')⟩⟩
theorem zi7{A:Around}{E:Value->Shared->Prop}{t sl:Addr}{items:Array Value}{vl vu:Value}{Q:Value->Shared->Prop}(ht:IsTup s.heap t items)(hs:s.heap.IsSliceOf sl vl vu .none)(pl:IsPart vl lo)(pu:IsPart vu hi)
 (hw:HT.sIx .(D) 0 lo=0/\HT.sIx .(D) .(D) hi=.(D)) (h:Q (.ref t) s):wpAny .(8) A (K6l (.ref t) (.ref sl)) Q E s:=by
 obtain⟨os,hos,hcs,hds⟩:=id hs;have hTs:s.TypeIs (.ref sl) "slice":=⟨os,hos,hcs⟩;unfold K6l
 try with_reducible refine K1z ?_
 first|refine K0 (K9 ?_)|skip
 refine K0 (wpAny_sequenceKey ht.typeIs .(0) ?_);refine K0 (K2l (name:=K01 "__getitem__") ht.typeIs K1q
  (K20 K1q ht.typeIs K9i ?_ (args_tuple_getitem _ _)))
 show wpAny _ _ (K6t (.ref t) >>= _) _ _ s;refine K0 (tupleItemsOf_ ht ?_);refine K0 (K5u hTs ?_);rw[if_pos .(0)];refine K0 (HT.sliceApplied_gen hs pl pu ?_);have yes:((((HT.sIx .(D) 0 lo:Nat):Int)==0&&(1:Int)==1&&(HT.sIx .(D) .(D) hi - HT.sIx .(D) 0 lo)==.(D))=true):=by
  rw[hw.1,hw.2];simp
 show wpAny _ _ (if (((HT.sIx .(D) 0 lo:Nat):Int)==0&&(1:Int)==1&&(HT.sIx .(D) .(D) hi - HT.sIx .(D) 0 lo)==.(D))=true then _ else _) _ _ s;rw[if_pos yes];refine K0 (m:=K6u (.ref t)) ?_;unfold K6u;refine K0 (K5u ht.typeIs (K9 ?_));rw[if_pos .(0)];exact K0 (K65 (K9 ⟨_,rfl,K9 h⟩))
def rSlW(K:K1):V->Option Int->Option Int->Hp->VK->Prop:=λx lo hi H Q=>∃a xs,x=.ref a/\SqT K H a xs/\(HT.sIx xs.length 0 lo=0/\HT.sIx xs.length xs.length hi=xs.length)/\Q (.ref a) H
theorem zl9:SlR X (rSlW X.K):=by
 intro pins s σ H x v vl vu lo hi sl Q I rx hs pl pu h;obtain⟨a,xs,rfl,hx,hw,q⟩:=h;cases rx;obtain⟨its,r,ht,hz⟩:=I.tuple hx;have hlen:its.toArray.size=xs.length:=by rw[K07];exact r.length.symm
 exact⟨"tuple",_,K1q.lookup,ht.typeIs,zi7 ht hs pl pu (by rw[hlen];exact hw) ⟨.ref a,H,I,rfl,q⟩⟩
def cutD(xs:List D)(lo hi:Option Int):List D:=(xs.drop (HT.sIx xs.length 0 lo)).take (HT.sIx xs.length xs.length hi - HT.sIx xs.length 0 lo)
theorem z7U(h:RDs K ρ H ds xs)(lo hi:Option Int):RDs K ρ H (cutD ds lo hi) (cutV xs lo hi):=by
 unfold cutD cutV;rw[.(m)];exact(h.drop _).take _
def fSl:D->Option Int->Option Int->M D
 | .tup xs,lo,hi=>pure (.tup (cutD xs lo hi))
 | .fl xs,lo,hi=>newL (cutD xs lo hi)
 | .ref n,lo,hi=>do
  let xs <- getL n
  newL (cutD xs lo hi)
 | _,_,_=>bad
def tO(K:K1)(EX:XX)(m:G->M (Option Int)):TO:=λσ H Q=>∃ρ γ h,Rel K ρ γ h σ H/\Fin K EX ρ H (λo _ _ H'=>Q o H') (m γ h)
structure SO(X:Cx)(EX:XX)(e:Option Expr)(m:G->M (Option Int)):Prop where
 h:PO X e (tO X.K EX m)
theorem PO.imp{e:Option Expr}{t t':TO}(h:PO X e t)(f:∀σ H Q,t' σ H Q->t σ H Q):PO X e t':=λpins s σ H Q I z=>h pins s σ H Q I (f σ H Q z)
def z5g:G->M (Option Int):=λ_=>pure none
def z4R(ma:G->M D):G->M (Option Int):=λγ=>do
 let x <- ma γ
 match x with
 | .int i=>pure (some i)
 | _=>bad
theorem z82:SO X EX none z5g:=⟨PO.imp zH6 λσ H Q ⟨ρ,γ,h,rel,fin⟩=>fin ρ H .(b) .(d) rel.h⟩
theorem z7I(ha:SE X EX a ma):SO X EX (some a) (z4R ma):=⟨PO.imp (zA8 ha.h) λσ H Q ⟨ρ,γ,h,rel,fin⟩=>⟨ρ,γ,h,rel,(Fin.bind fin).mono λx ρ1 h1 H1 p1 e1 r1 f1 v rv=>by
 cases x<;>first|exact(show False from f1).elim|skip
 rename_i i;simp only[RD]at rv;exact⟨i,rv,f1 ρ1 H1 .(b) .(d) r1⟩⟩⟩
def z35(ma:G->M D)(ml mh:G->M (Option Int)):G->M D:=λγ=>do
 let x <- ma γ;let lo <- ml γ;let hi <- mh γ
 fSl x lo hi
theorem zV6{x:D}{Q:VK}(r:RH X.K ρ h H)(rx:RD X.K ρ H x v)(fin:FE X.K EX ρ H Q (fSl x lo hi h)):rSlL X.K v lo hi H Q\/rSlT X.K v lo hi H Q\/rSlW X.K v lo hi H Q:=by
 cases x<;>first|exact(show False from fin).elim|skip
 case tup xs=>
  have rx':=rx;simp only[RD]at rx;obtain⟨q,vs,rfl,h1,h2⟩:=rx;have fin':FE X.K EX ρ H Q (.ok (.tup (cutD xs lo hi)) h):=fin;by_cases hw:HT.sIx vs.length 0 lo=0/\HT.sIx vs.length vs.length hi=vs.length
  ·refine .inr (.inr ⟨q,vs,rfl,h1,hw,FE.here fin' r ?_⟩);have e:cutD xs lo hi=xs:=by
    unfold cutD;rw[h2.length,hw.1,hw.2,List.drop_zero,Nat.sub_zero,<- h2.length,K1g]
   rw[e];exact rx'
  ·exact .inr (.inl ⟨q,vs,rfl,h1,hw,λp hp=>FE.tup fin' r (z7U h2 lo hi) hp⟩)
 case fl xs=>
  simp only[RD]at rx;obtain⟨q,vs,rfl,h1,h2⟩:=rx;have fin':FE X.K EX ρ H Q (newL (cutD xs lo hi) h):=fin;unfold newL at fin';split at fin'
  ·exact .inl ⟨q,vs,rfl,h1.sq,λp hp=>FE.lst fin' r (z7U h2 lo hi) hp⟩
  ·exact fin'.elim
 case ref n=>
  simp only[RD]at rx;obtain⟨q,rfl,h1⟩:=rx;have fin':FE X.K EX ρ H Q ((getL n >>= λxs=>newL (cutD xs lo hi)) h):=fin;have f1:=Fin.bind fin';cases e:getL n h with
  | bad=>rw[e]at f1;exact f1.elim
  | err z hz=>exact(z11 e).elim
  | ok xs h2=>
   obtain⟨rfl,q1⟩:=z14 e;rw[e]at f1;have f2:=f1 ρ H .(b) .(d) r;dsimp only at f2;unfold newL at f2;split at f2
   ·obtain⟨a1,n1,vs,o1,d1⟩:=r.at q1;rw[h1]at n1;cases n1;exact .inl ⟨q,vs,rfl,SqL.of o1,λp hp=>FE.lst f2 r (z7U d1 lo hi) hp⟩
   ·exact f2.elim
theorem z6a{lo hi:Option Expr}{ml mh:G->M (Option Int)}(ha:SE X EX a ma)(hl:SO X EX lo ml)(hh:SO X EX hi mh):SE X EX (.Subscript a (.Slice lo hi none p2) pos) (z35 ma ml mh):=
 ⟨PE.imp (zr8 (sl_list.or (sl_tup.or zl9)) ha.h hl.h hh.h) λσ H Q ⟨ρ,γ,h,rel,fin⟩=>⟨ρ,γ,h,rel,(Fin.bind fin).mono λx ρ1 h1 H1 p1 e1 r1 f1 v rv=>⟨ρ1,γ,h1,⟨rel.g.mono p1 e1,r1⟩,(Fin.bind f1).mono λl ρ2 h2 H2 p2 e2 r2 f2=>
  ⟨ρ2,γ,h2,⟨(rel.g.mono p1 e1).mono p2 e2,r2⟩,(Fin.bind f2).mono λu ρ3 h3 H3 p3 e3 r3 f3=>zV6 r3 ((rv.mono p2 e2).mono p3 e3) f3⟩⟩⟩⟩
end
def leI(a b:Int):Bool:=decide (a<=b)
def sortI(l:List Int):List Int:=l.mergeSort leI
theorem sortI_perm(l:List Int):(sortI l).Perm l:=List.mergeSort_perm l leI
theorem z8h(l:List Int):(sortI l).Pairwise (λa b=>a<=b):=by
 have:=List.pairwise_mergeSort (le:=leI) (λa b c h1 h2=>by simp only[leI,decide_eq_true_eq]at *;omega) (λa b=>by simp only[leI,K3c,decide_eq_true_eq];omega) l;exact this.imp λh=>by simpa [leI] using h
theorem z8U{l l':List Int}(p:l'.Perm l)(h:l'.Pairwise (·<=·)):l'=sortI l:=
 List.Perm.eq_of_pairwise (λa b _ _ h1 h2=>Int.le_antisymm h1 h2) h (z8h l) (p.trans (sortI_perm l).symm)
def z3H:List D->Option (List Int)
 | []=>some []
 | .int b::r=>(z3H r).map (b::·)
 | _::_=>none
theorem z4y{K:K1}{ρ:List Addr}{H:Hp}:∀{xs:List D}{bs:List Int}{vs:List V},z3H xs=some bs->RDs K ρ H xs vs->vs=bs.map V.int
 | [],bs,vs,e,r=>by simp only[RDs]at r;cases e;subst r;rfl
 | x::xs,bs,vs,e,r=>by
  simp only[RDs]at r;obtain⟨v,r2,rfl,h1,h2⟩:=r;cases x<;>first|(simp only[z3H]at e;cases e;done)|skip
  rename_i b;simp only[z3H]at e;obtain⟨bs',e1,rfl⟩:=K15.mp e;simp only[RD]at h1;subst h1;rw[z4y e1 h2];rfl
theorem z8c:∀{us:List Value}{bs:List Int},K67 us bs->Vals (bs.map V.int) us:=λh=>z4E h
theorem z5M{K:K1}{ρ:List Addr}{H:Hp}:∀(l:List Int),RDs K ρ H (l.map .int) (l.map V.int)
 | []=>RDs.nil
 | x::r=>RDs.cons .(C) (z5M r)
@[simp] theorem bindM(m:M α)(f:α->M β)(h:AH):(m >>= f) h=match m h with
 | .ok a h1=>f a h1
 | .err x h1=>.err x h1
 | .bad=>.bad:=rfl
@[simp] theorem pureM(a:α)(h:AH):(Z2i a:M α) h=.ok a h:=rfl
theorem Rise.lt{xs:Array Nat}(h:Rise xs){a b:Nat}(ha:xs[i]?=some a)(hb:xs[j]?=some b)(hij:i<j):a<b:=by
 obtain⟨h1,e1⟩:=K27.mp ha;obtain⟨h2,e2⟩:=K27.mp hb;have:=K53.mp h i j (by simpa using h1) (by simpa using h2) hij;simp only[Array.getElem_toList]at this;rw[e1,e2]at this;exact this
theorem z5S{xs:Array Nat}(h:Rise xs)(j:Nat):∀(fuel lo hi:Nat),hi - lo<=fuel->lo<=hi->hi<=xs.size->(∀(i:Nat) a,i<lo->xs[i]?=some a->a<j)->(∀(i:Nat) a,hi<=i->xs[i]?=some a->j<=a) ->
 (K36 xs j fuel lo hi)<=xs.size/\(∀(i:Nat) a,i<K36 xs j fuel lo hi->xs[i]?=some a->a<j)/\∀(i:Nat) a,K36 xs j fuel lo hi<=i->xs[i]?=some a->j<=a
 | 0,lo,hi,hf,hl,hs,h1,h2=>by
  have:hi=lo:=by omega
  subst this;exact⟨by simp only[K36];omega,by simpa only[K36] using h1,by simpa only[K36] using h2⟩
 | fuel+1,lo,hi,hf,hl,hs,h1,h2=>by
  rw[K36];split
  ·rename_i hlt;have hm:(lo+hi) / 2<xs.size:=by omega
   have e:xs[(lo+hi) / 2]?=some xs[(lo+hi) / 2]:=K1k hm;have ed:xs.getD ((lo+hi) / 2) j=xs[(lo+hi) / 2]:=by rw[Array.getD_eq_getD_getElem?,e];rfl
   dsimp only;rw[ed];split
   ·rename_i q;refine z5S h j fuel _ hi .(1) .(1) hs (λi a hi' ha=>?_) h2;by_cases z:i=(lo+hi) / 2
    ·subst z;rw[e]at ha;cases ha;exact q
    ·exact Z16 (h.lt ha e .(1)) q
   ·rename_i q;refine z5S h j fuel lo _ .(1) .(1) .(1) h1 (λi a hi' ha=>?_);by_cases z:i=(lo+hi) / 2
    ·subst z;rw[e]at ha;cases ha;omega
    ·have:=h.lt e ha .(1);omega
  ·exact⟨by omega,h1,λi a hi' ha=>h2 i a .(1) ha⟩
theorem z44{xs:Array Nat}(h:Rise xs)(j:Nat):K0s xs j<=xs.size/\(∀(i:Nat) a,i<K0s xs j->xs[i]?=some a->a<j)/\∀(i:Nat) a,K0s xs j<=i->xs[i]?=some a->j<=a:=by
 unfold K0s;refine z5S h j xs.size 0 xs.size .(1) .(1) .(1) (λi a hi=>by omega) (λi a hi ha=>?_);have:=(K27.mp ha).1;omega
theorem z9E{xs:Array Nat}(h:Rise xs)(e:xs[i]?=some j):K0s xs (j+1)=i+1:=by
 obtain⟨b1,b2,b3⟩:=z44 h (j+1);have hi:=(K27.mp e).1;have l1:i<K0s xs (j+1):=by
  by_cases q:i<K0s xs (j+1)
  ·exact q
  ·have:=b3 i j .(1) e;omega
 by_cases q:K0s xs (j+1)=i+1
 ·exact q
 ·have hlt:i+1<xs.size:=by omega
  have e2:xs[i+1]?=some xs[i+1]:=K1k hlt;have a1:=b2 (i+1) _ .(1) e2;have a2:=h.lt e e2 .(1);omega
theorem z9p{xs:Array Nat}(h:Rise xs):K0s xs 0=0:=by
 obtain⟨b1,b2,b3⟩:=z44 h 0;by_cases q:K0s xs 0=0
 ·exact q
 ·have hlt:0<xs.size:=by omega
  have e2:xs[0]?=some xs[0]:=K1k hlt;have:=b2 0 _ .(1) e2;omega
theorem zn7{t:K4a}(h:Rise t.place)(hj:t.place[K0s t.place j]?≠some j):Rise (t.put j).1.place:=by
 obtain⟨b1,b2,b3⟩:=z44 h j;show (K4a.insertAt t.place (K0s t.place j) j).toList.Pairwise _;rw[K4a.toList_insertAt];have tk:∀a∈t.place.toList.take (K0s t.place j),a<j:=λa ha=>by
  obtain⟨i,hi,e⟩:=K2v ha;rw[Z1e]at e;have hi2:i<K0s t.place j:=by
   rw[K19]at hi;omega
  have hi3:i<t.place.size:=by omega
  exact b2 i a hi2 (by rw[K1k hi3];simpa using e)
 have dr:∀a∈t.place.toList.drop (K0s t.place j),j<a:=λa ha=>by
  obtain⟨i,hi,e⟩:=K2v ha;rw[List.getElem_drop]at e;have hi3:K0s t.place j+i<t.place.size:=by
   rw[K83]at hi;simp at hi;omega
  have e2:t.place[K0s t.place j+i]?=some a:=by rw[K1k hi3];simpa using e
  have:=b3 _ a .(1) e2;by_cases q:a=j
  ·subst q;cases i with
   | zero=>exact absurd e2 hj
   | succ i=>
    have hlt:K0s t.place a<t.place.size:=by omega
    have e3:t.place[K0s t.place a]?=some t.place[K0s t.place a]:=K1k hlt;have a1:=b3 _ _ (K05 _) e3;have a2:=h.lt e3 e2 .(1);omega
  ·omega
 have p1:=List.Pairwise.take (i:=K0s t.place j) h;have p2:=List.Pairwise.drop (i:=K0s t.place j) h;simp only[List.pairwise_append,List.pairwise_cons]
 first
  | (refine⟨p1,⟨dr,p2⟩,λa ha b hb=>?_⟩
     rcases K0y.mp hb with rfl|hb
     ·exact tk a ha
     ·exact Z16 (tk a ha) (dr b hb))
  | skip
theorem z8y{t:K4a}(h:∀i,t.slot j≠.live i):t.place[K0s t.place j]?≠some j:=λe=>by
 refine h (K0s t.place j) ?_;unfold K4a.slot;dsimp only;rw[e,if_pos .(f)]
theorem z5O{t:K4a}{ha:Nat->Int}{hx:Int}:∀(fuel:Nat) (p:Z2b) (j:Nat) (dm:Option Nat),(∀d,p.dummy=some d->t.slot d=.dummy)->K79 t ha hx fuel p=some (.empty j dm)->t.slot j=.empty/\∀d,dm=some d->t.slot d=.dummy
 | 0,p,j,dm,hd,e=>by simp[K79]at e
 | fuel+1,p,j,dm,hd,e=>by
  rw[K79]at e;have adv:∀q:Z2b,(t.advance q).dummy=q.dummy:=λq=>by
   unfold K4a.advance;split<;>rfl
  split at e
  ·rename_i hs;cases e;exact⟨hs,hd⟩
  ·rename_i hs;refine z5O fuel _ j dm (λd z=>?_) e;rw[adv]at z;cases z;exact hs
  ·split at e
   ·cases e
   ·refine z5O fuel _ j dm (λd z=>?_) e;rw[adv]at z;exact hd d z
theorem zm4{t:K4a}{b:Bool}(e:t.freeSlot hx=some (j,b)):t.place[K0s t.place j]?≠some j:=by
 unfold K4a.freeSlot K4a.probe at e;split at e
 ·rename_i j' dm hp;obtain⟨s1,s2⟩:=z5O _ _ j' dm (λd z=>by simp[K4a.probeStart]at z) hp;cases dm with
  | none=>cases e;exact z8y (λi z=>by rw[show t.slot (none.getD j')=_ from s1]at z;cases z)
  | some d=>cases e;exact z8y (λi z=>by rw[show t.slot ((some d).getD j')=_ from s2 d rfl]at z;cases z)
 ·cases e
theorem z2M(n:Nat):Rise (Array.range n):=by
 show (Array.range n).toList.Pairwise _;rw[Array.toList_range];exact K4f
theorem z89{t:K4a}{x:Value}(h:Rise t.place):Rise (layNew t es hx x).2.1.place/\(layNew t es hx x).2.1.led=t.led:=by
 unfold layNew;split
 ·rename_i sl wd e;dsimp only;unfold K4a.orStandIn;split
  ·exact⟨zn7 h (zm4 e),rfl⟩
  ·exact⟨z2M _,rfl⟩
 ·exact⟨z2M _,rfl⟩
theorem zd6{mask finger moves:Nat}{led plain:Bool}{hs:Array Int}{t:K4a}{o:Array Nat}(e:Z2e mask finger moves led plain hs=some (t,o)):Rise t.place/\t.led=led:=by
 unfold Z2e at e;cases hl:K4a.layClean mask hs with
 | none=>rw[hl]at e;cases e
 | some ow=>
  rw[hl]at e;cases e;refine⟨?_,rfl⟩;unfold Rise;dsimp only;rw[K7f,List.pairwise_filterMap];refine K4f.imp λ{a b} hab c hc d hd=>?_;cases h1:ow.getD a none with
  | none=>rw[h1]at hc;cases hc
  | some u=>
   cases h2:ow.getD b none with
   | none=>rw[h2]at hd;cases hd
   | some v=>
    rw[h1]at hc;rw[h2]at hd;cases hc;cases hd;exact hab
theorem z9o{t:K4a}:Rise (K6a t es n).2.1.place/\(K6a t es n).2.1.led=t.led:=by
 unfold K6a;split
 ·rename_i t' o e;obtain⟨r1,r2⟩:=zd6 e;dsimp only;split
  ·exact⟨r1,r2⟩
  ·exact⟨z2M _,rfl⟩
 ·exact⟨z2M _,rfl⟩
section
theorem z3a{R:α->β->Prop}{l' l:List β}(p:l'.Perm l):∀{ks:List α},Paired R ks l->∃ks',ks'.Perm ks/\Paired R ks' l':=by
 induction p with
 | nil=>intro ks h;exact⟨ks,.refl _,h⟩
 | cons x _ ih=>
  intro ks h;cases h with
  | cons a b=>
   obtain⟨ks',q1,q2⟩:=ih b;exact⟨_::ks',.cons _ q1,.cons a q2⟩
 | swap x y l=>
  intro ks h;cases h with
  | cons a b=>
   cases b with
   | cons c d=>exact⟨_::_::_,.swap _ _ _,.cons c (.cons a d)⟩
 | trans _ _ ih1 ih2=>
  intro ks h;obtain⟨k1,a1,a2⟩:=ih2 h;obtain⟨k2,b1,b2⟩:=ih1 a2;exact⟨k2,b1.trans a1,b2⟩
theorem z4M{α β:Type}{R:α->β->Prop}:∀{ks:List α}{l:List β}{k:α}{x:β},Paired R ks l->R k x->Paired R (ks++[k]) (l++[x])
 | _,_,_,_,.nil,h=>.cons h .nil
 | _,_,_,_,.cons a b,h=>.cons a (z4M b h)
theorem z43{α β:Type}{R:α->β->Prop}:∀{ks:List α}{l:List β}{x:β},Paired R ks l->x∈l->∃k∈ks,R k x
 | _,_,_,.cons a b,h=>by
  rcases K0y.mp h with rfl|h
  ·exact⟨_,K1e,a⟩
  ·obtain⟨k,h1,h2⟩:=z43 b h;exact⟨k,K13 _ h1,h2⟩
theorem z50{α β:Type}{R:α->β->Prop}:∀{ks:List α}{l:List β}{k:α},Paired R ks l->k∈ks->∃x∈l,R k x
 | _,_,_,.cons a b,h=>by
  rcases K0y.mp h with rfl|h
  ·exact⟨_,K1e,a⟩
  ·obtain⟨k,h1,h2⟩:=z50 b h;exact⟨k,K13 _ h1,h2⟩
theorem z8i{k:Key}{v:Value}(h:z29 k v=true):v.scannable=true:=by
 rcases k6 h with ⟨i,t,rfl,rfl⟩|⟨x,t,rfl,rfl⟩<;>rfl
theorem zo7(h:Paired (KE w) ks l):ElemsOf (J6 P w) l:=λe he=>by
 obtain⟨k,_,h1,h2⟩:=z43 h he;exact⟨⟨k,h1,h2⟩,z8i h1⟩
theorem zM1{k k':Key}{v:Value}(h:z29 k v=true)(h':z29 k' v=true):k=k':=by
 rcases k6 h with ⟨i,t,rfl,rfl⟩|⟨x,t,rfl,rfl⟩
 ·rcases k6 h' with ⟨j,u,rfl,e⟩|⟨y,u,rfl,e⟩
  ·cases e;rfl
  ·cases e
 ·rcases k6 h' with ⟨j,u,rfl,e⟩|⟨y,u,rfl,e⟩
  ·cases e
  ·cases e;rfl
theorem mem_of(h:Paired (KE w) ks l)(k:Key):k∈ks↔∃e∈l,z29 k e.2=true:=by
 constructor
 ·intro hk;obtain⟨e,h1,h2,_⟩:=z50 h hk;exact⟨e,h1,h2⟩
 ·rintro⟨e,h1,h2⟩;obtain⟨k',h3,h4,_⟩:=z43 h h1;exact zM1 h2 h4 ▸ h3
theorem SetAt.stay{h h':Heap}{a:Addr}(x:SetAt w h a ks)(k:∀o,h.get? a=some o->h'.get? a=some o):SetAt w h' a ks:=by
 obtain⟨o,es,ep,t,ks',h1,h2⟩:=x;exact⟨o,es,ep,t,ks',k o h1,h2⟩
theorem zb5{h:Heap}{led:Bool}(hl:led=true\/w.params.followText "set-order" = true):SetAt w (h.push { cls:=.type "set",dict:=none,data:=.set #[] 0 (.fresh 0 0 led) }) h.objs.size []:=
 ⟨_,#[],0,_,[],K0b _ rfl,⟨rfl,rfl,rfl⟩,rfl,.nil,.refl _,Z2d,by decide,by rfl,by show ([]:List Nat).Pairwise _;exact .nil,hl⟩
variable{a:Addr}
theorem z8V{t t':K4a}{ks':List Key}{h:Heap}(ho:h.get? a=some o)(hex:o.ExactSet)(hd:o.data=.set es ep t)(h4:Paired (KE w) ks' es'.toList)(h5:ks'.Perm ks)(h6:ks.Nodup)
 (hb:es'.size<scanBound) (hf:t'.fits es'.size=true) (hr:Rise t'.place) (hl:t'.led=true\/w.params.followText "set-order" = true) :
 SetAt w (h.update a (K6r es' t')) a ks/\∃o',(h.update a (K6r es' t')).get? a=some o'/\o'.ExactSet/\o'.data=.set es' (ep+1) t':=by
 have g:(h.update a (K6r es' t')).get? a=some { o with data:=.set es' (ep+1) t' }:=by
  have:=K2y (K6r es' t') ho (by rw[putSet_of es' t' hd];rfl);rw[putSet_of es' t' hd]at this;exact this
 exact⟨⟨_,es',ep+1,t',ks',g,hex,rfl,h4,h5,h6,hb,hf,hr,hl⟩,_,g,hex,rfl⟩
theorem tail_at{ks ks1:List Key}{o:Obj}{es es1:Array (Int×Value)}{ep:Nat}{t t2:K4a}{wd:Bool}{R:Option Bool->Shared->Prop}(hG:∀(g:Bool) (s1:Shared) (Z:Unit->Shared->Prop),Z () s1->wpAny (model P w) A (gw g) Z E s1)
 (ho:s.heap.get? a=some o) (hex:o.ExactSet) (hd:o.data=.set es ep t) (h4:Paired (KE w) ks1 es1.toList) (h5:ks1.Perm ks) (h6:ks.Nodup) (hb:es1.size<scanBound) (hf:t2.fits es1.size=true) (hr:Rise t2.place) (hl:t2.led=true\/w.params.followText "set-order" = true)
 (h:∀h',K3f a s.heap h'->SetAt w h' a ks->R (some true) { s with heap:=h' }) :
 wpAny (model P w) A (storeSet a es1 t2 >>= λ_=>if (!wd&&t2.tooFull)=true then (gw (K6a t2 es1 (K33 es1.size)).2.2 >>= λ_=>storeSet a (K6a t2 es1 (K33 es1.size)).1 (K6a t2 es1 (K33 es1.size)).2.1 >>= λ_=>pure (some true)) else pure (some true)) R E s:=by
 obtain⟨S1,o1,g1,x1,d1⟩:=z8V (h:=s.heap) (t':=t2) ho hex hd h4 h5 h6 hb hf hr hl;have sb:=K1j s.heap a (K6r es1 t2);refine K0 (wpAny_storeSet_of ho hd ?_ (K60 hb));split
 ·have rp:=relayAll_perm t2 es1 (K33 es1.size);have rf:=relayAll_fits t2 es1 (K33 es1.size);have rr:=z9o (t:=t2) (es:=es1) (n:=K33 es1.size);obtain⟨ks2,p1,p2⟩:=z3a rp h4;have sz:(K6a t2 es1 (K33 es1.size)).1.size=es1.size:=by rw[<- K18,rp.length_eq,K18]
  have b2:(K6a t2 es1 (K33 es1.size)).1.size<scanBound:=by rw[sz];exact hb
  refine K0 (hG _ _ _ (K0 (wpAny_storeSet_of g1 d1 (K9 ?_) (K60 b2))));obtain⟨S2,_⟩:=z8V (h:=s.heap.update a (K6r es1 t2)) (t':=(K6a t2 es1 (K33 es1.size)).2.1) g1 x1 d1 p2 (p1.trans h5) h6 b2 rf rr.1 (by rw[rr.2];exact hl);exact h _ (sb.trans (K1j _ a _)) S2
 ·exact K9 (h _ sb S1)
theorem zT6{k:Key}{x:Value}{Q:Bool->Shared->Prop}(hk:z29 k x=true)(hS:SetAt w s.heap a ks)(hroom:ks.length+1<scanBound)
 (h:∀h' b,K3f a s.heap h'->SetAt w h' a (if k∈ks then ks else ks++[k])->Q b { s with heap:=h' }) :
 wpAny (model P w) A (setAddHashed a x (keyH w k)) Q E s:=by
 obtain⟨o,es,ep,t,ks',ho,hex,hd,h4,h5,h6,h7,h8,h9,h0⟩:=hS;have el:=zo7 (P:=P) h4;have sc:=z8i hk;have hn:es.size=ks.length:=by rw[<- h5.length_eq,K4m h4,K18]
 unfold setAddHashed setAddHashedIn;refine K1z (K0 (K43 ho hd h8 ?_));dsimp only;rw[byScan_of sc h7 el,if_pos rfl];unfold setAddByScan;refine K0 (K0 (K65 (K0 (wpAny_setScan_of (knd:=J6 P w) (k:=k) hk ho hd h8 el ?_))));cases hr:List.findIdx? (λe=>(J6 P w).is k e.2) es.toList with
 | some j=>
  dsimp only;obtain⟨hj,hp,_⟩:=List.findIdx?_eq_some_iff_getElem.mp hr;have hm:k∈ks:=h5.mem_iff.mp ((mem_of h4 k).mpr ⟨_,K3l hj,hp⟩);have:=h s.heap false (K7a a s.heap) (by rw[if_pos hm];exact⟨o,es,ep,t,ks',ho,hex,hd,h4,h5,h6,h7,h8,h9,h0⟩);exact K9 (K9 this)
 | none=>
  dsimp only;have hm:k∉ks:=λz=>by
   obtain⟨e,he,hp⟩:=(mem_of h4 k).mp (h5.mem_iff.mpr z);have:=List.findIdx?_eq_none_iff.mp hr e he;rw[show (J6 P w).is k e.2=true from hp]at this;cases this
  rw[if_neg hm]at h;have np:=layNew_perm t es (keyH w k) x;have nf:=layNew_fits t es (keyH w k) x;have nr:=z89 (t:=t) (es:=es) (hx:=keyH w k) (x:=x) h9;have hG:∀(g:Bool) (s1:Shared) (R:Unit->Shared->Prop),R () s1->wpAny (model P w) A (match g with|true=>rule "set.scan.the-table-gave-way" | false=>pure ()) R E s1:=
   λg s1 R q=>by cases g<;>first|exact K9 q|exact K65 q
  generalize hL:layNew t es (keyH w k) x=L at np nf nr ⊢;obtain⟨es1,t1,wd,gv⟩:=L;dsimp only at np nf nr ⊢;rw[Z1d]at np;obtain⟨ks1,p1,p2⟩:=z3a np (z4M h4 (show KE w k (keyH w k,x) from⟨hk,rfl⟩));have nd:(ks++[k]).Nodup:=by
   rw[K7g];exact⟨h6,by simp,λu hu v hv=>by simp at hv;subst hv;exact λz=>hm (z ▸ hu)⟩
  have b1:es1.size<scanBound:=by
   rw[<- K18,np.length_eq,K02,K18];simpa [hn] using hroom
  have p3:ks1.Perm (ks++[k]):=p1.trans (h5.append_right [k]);have l1:t1.led=true\/w.params.followText "set-order" = true:=by rw[nr.2];exact h0
  refine K0 (hG _ _ _ ?_);split
  ·rw[hashByValue_scannable 8 sc];refine K0 (K9 ?_);refine tail_at (t2:=if plainKind x=true then t1 else { t1 with plain:=false }) hG ho hex hd p2 p3 nd b1 ?_ ?_ ?_ λh' sb S=>K9 (h h' true sb S)
   ·split
    ·exact nf
    ·exact K4a.fits_plain_off nf
   ·split
    ·exact nr.1
    ·exact nr.1
   ·split
    ·exact l1
    ·exact l1
  ·refine K0 (K9 ?_);simp only[if_pos];exact tail_at hG ho hex hd p2 p3 nd b1 nf nr.1 l1 λh' sb S=>K9 (h h' true sb S)
end
def putK(acc:List Key)(k:Key):List Key:=if k∈acc then acc else acc++[k]
def dedK(ks:List Key):List Key:=ks.foldl putK []
theorem zt3(acc:List Key)(k:Key):(putK acc k).length<=acc.length+1:=by
 unfold putK;split
 ·omega
 ·simp
theorem z7p:∀(ks acc:List Key),(ks.foldl putK acc).length<=acc.length+ks.length
 | [],acc=>by simp
 | k::ks,acc=>by
  have h1:=z7p ks (putK acc k);have h2:=zt3 acc k;simp only[K4j,K0d];omega
theorem zq5(ks:List Key):(dedK ks).length<=ks.length:=by
 have:=z7p ks [];simpa [dedK] using this
theorem z9O(ks:List Key)(k:Key):dedK (ks++[k])=putK (dedK ks) k:=by
 unfold dedK;rw[K4t];rfl
section
variable{a:Addr}
theorem zi4{k:Key}{x:Value}{Q:Bool->Shared->Prop}(hk:z29 k x=true)(hS:SetAt w s.heap a ks)(hroom:ks.length+1<scanBound)
 (h:∀h' b,K3f a s.heap h'->SetAt w h' a (putK ks k)->Q b { s with heap:=h',toks:=s.toks+1 }):wpAny (model P w) A (setAdd a x) Q E s:=by
 unfold setAdd;refine K1z (K0 ((J6 P w).pyHash (k:=k) hk ?_));exact zT6 (s:={ s with toks:=s.toks+1 }) hk hS hroom λh' b sb S=>h h' b sb S
end
section
variable{R:Result->Shared->Prop}{fp wr:List Addr}{G:Array K97->Array K97->Prop}{St:Nat->Shared->Prop}
theorem z6z(W:WalksS P w A.in1 I fp wr G n PV St)(S:Addr)(hSf:S∉fp)(key:Nat->Key)(hv:∀i v,PV i v->z29 (key i) v=true)(hb:n+1<scanBound):
 ∀(k i:Nat) (s:Shared),i+k=n->St i s->SetAt w s.heap S (dedK ((K7 i).map key)) ->
  (∀s',Moved (S::wr) G s s'->SetAt w s'.heap S (dedK ((K7 n).map key))->R (.ok (.ret .none)) s') ->
  K5s (model P w) A (.builtin "set.update.loop" ⟨[.ref S,.ref I],[]⟩) R s:=by
 have nw:S∉wr:=λh=>hSf (W.sub _ h);have up:∀b∈wr,b∈S::wr:=λb hb=>K13 _ hb;intro k;induction k with
 | zero=>
  intro i s hk st hS hR;obtain rfl:i=n:=by omega
  refine K2g K8b ?_;rw[K1w K5n _];show wpAny _ A.in1 (pyNext (.ref I) >>= _) _ _ s;refine K0 (W.done s _ _ st λs' hm=>?_);show wpAny _ A.in1 (ret K2h) _ _ s';exact K9 (hR s' (hm.mono up) (hS.stay λo e=>hm.heap S o nw e))
 | succ k ih=>
  intro i s hk st hS hR;refine K2g K8b ?_;rw[K1w K5n _];show wpAny _ A.in1 (pyNext (.ref I) >>= _) _ _ s;refine K0 (W.item i s _ _ .(1) st λv s' hP st' hm=>?_);show wpAny _ A.in1 (K44 [v] (setAdd S v) >>= _) _ _ s';have room:(dedK ((K7 i).map key)).length+1<scanBound:=by
   have:=zq5 ((K7 i).map key);rw[K03,K1u]at this;omega
  refine K0 (K1z (zi4 (hv i v hP) (hS.stay λo e=>hm.heap S o nw e) room λh' b sb S2=>?_));have nx:dedK ((K7 (i+1)).map key)=putK (dedK ((K7 i).map key)) (key i):=by
   rw[K4i,K2w];exact z9O _ _
  refine K9 ⟨K57 K5n _,ih (i+1) _ .(1) (W.frame _ s' _ _ st' (K68 _) λb hb o e=>?_) (by rw[nx];exact S2) λs'' hm'' S3=>?_⟩
  ·rw[sb.2 b (λz:b=S=>hSf (z ▸ hb))];exact e
  ·refine hR s'' (Moved.trans W.gtrans ((hm.mono up).then_heap (K68 _) λb o hb e=>?_) hm'') S3;rw[sb.2 b (λz:b=S=>hb (by rw[z];exact K1e))];exact e
end
theorem z9j:isSubtype (.type "tuple") (.type "set")=pure false:=by rw[K5x];kernel_rfl
theorem z7P:isSubtype (.type "tuple") (.type "frozenset")=pure false:=by rw[K5x];kernel_rfl
abbrev z1F(w:World):Obj:={ cls:=.type "set",dict:=none,data:=.set #[] 0 (.fresh 0 0 (!w.params.followText "set-order")) }
theorem zX8(w:World):(!w.params.followText "set-order")=true\/w.params.followText "set-order" = true:=by
 cases w.params.followText "set-order"<;>simp
theorem fresh_at{h:Heap}:SetAt w (h.push (z1F w)) h.objs.size []:=zb5 (zX8 w)
theorem newCode(a:Value)(h:Q (.ref s.heap.objs.size) { s with heap:=s.heap.push (z1F w) }):
 K5s (model P w) A (.call (.builtin "set.__new__") ⟨[.type "set",a],[]⟩) (wants Q E) s:=by
 refine K90 (show wpAny _ A.in1 (do checkBuiltinCall "set.__new__" ⟨[.type "set",a],[]⟩;again (.builtin "set.__new__" ⟨[.type "set",a],[]⟩)) _ _ s from ?_);refine K0 (K98 (F.newCall_set_1 a) (K9 ⟨K57 F.plain_set_new _,K2g F.entry_set_new ?_⟩));rw[K1w F.plain_set_new _];unfold Builtin.«set.__new__» Builtin.Frozenset.newClass;have hz:=sub_set_self;obtain⟨hp,g,d,tk,os⟩:=s;dsimp only
 wp_walk
 refine K3m (K9 ?_);dsimp only;simp only[newObj];refine K0 (wpAny_alloc (K9 ?_));exact K9 h
theorem zj5{l:Addr}{items:Array Value}{key:Nat->Key}{Q:Value->Shared->Prop}(hT:T = "list"\/T = "tuple")(hh:A.handled=none)(hl:∃o,s.heap.get? l=some o/\o.cls=.type T/\∃n,o.data=.seq items n)
 (hv:∀(i:Nat) v,items[i]?=some v->z29 (key i) v=true) (hb:.(D)+1<scanBound)
 (h:∀h' tk,SetAt w h' .(4) (dedK ((K7 .(D)).map key))->(∀b o,s.heap.get? b=some o->h'.get? b=some o)->Q (.ref .(4)) { s with heap:=h',toks:=tk }) :
 wpAny (model P w) A (call (.type "set") [.ref l]) Q E s:=by
 obtain⟨c,tl,hmro⟩:=F.called_set.mro;have z1:=F.called_set.made;have z2:=F.called_set.sub;have z3:=F.called_set.notType;have z4:=F.called_set.canCreate;have z5:=F.typeCall_set_1 (.ref l);obtain⟨ol,hol,hcl,nl,hdl⟩:=hl;obtain⟨ocls,odict,odata,oslots⟩:=ol;simp only at hcl hdl;subst hcl;subst hdl;refine wpAny_call (K90 (show wpAny _ _ (callAny (.type "set") _) _ _ _ from ?_));refine K9 ⟨Code.quiet_builtin _ .(2),K2g F.entry_type_call ?_⟩;rw[Around.under_plain (weight_type_call_type "set" [.ref l] []) rfl]
 repeat (any_goals (first|assumption|wp_step))
 refine K42 (newCode (.ref l) (E:=E) (Q:=λobj s1=>obj=.ref .(4)/\s1={ s with heap:=s.heap.push (z1F w) }) ⟨rfl,rfl⟩) λr s1 hr=>?_;cases r with
 | error e=>exact hr
 | ok fl=>
  cases fl with
  | next=>exact hr.elim
  | brk=>exact hr.elim
  | cont=>exact hr.elim
  | ret obj=>
   obtain⟨rfl,rfl⟩:=hr;have gS:(s.heap.push (z1F w)).get? .(4)=some (z1F w):=K0b _ rfl;have tS:K7m { s with heap:=s.heap.push (z1F w) } (.ref .(4)) "set":=⟨_,gS,rfl⟩;have y1:=F.called_set.init.lookup;have y2:=F.called_set.init.bind (.ref .(4))
   repeat (any_goals (first|assumption|wp_step))
   refine K42 (codeAny_call_builtin (R:=wants (λr s2=>r=.none/\∃h' tk,s2={ s with heap:=h',toks:=tk }/\SetAt w h' .(4) (dedK ((K7 .(D)).map key))/\∀b o,s.heap.get? b=some o->h'.get? b=some o) E) F.called_set.init.plain F.entry_set_init (check_set_init_1 tS ?_)) λr2 s2 hr2=>?_
   ·have gl:(s.heap.push (z1F w)).get? l=some { cls:=.type T,dict:=odict,data:=.seq items nl,slots:=oslots }:=K8 _ hol;have hll:l<s.heap.objs.size:=K0a hol;have h3:A.in1.in1.in1.handled=none:=by simp[hh]
    have neI:l≠(s.heap.push (z1F w)).objs.size:=by rw[K1r];exact K0o (K2o hll)
    have nf:.(4)∉[(s.heap.push (z1F w)).objs.size,l]:=by
     rw[K1r];simp only[K0y,K31,K82,or_false,not_or];exact⟨K0o (K50 _),K24 hll⟩
    have start:∀ob:Obj,SetAt w ((s.heap.push (z1F w)).push ob) .(4) (dedK ((K7 0).map key)):=λob=>fresh_at.stay λo e=>K8 _ e;have fin:∀(ob:Obj) s',Moved [.(4),(s.heap.push (z1F w)).objs.size] (λg g'=>g'=g) { s with heap:=(s.heap.push (z1F w)).push ob } s'->SetAt w s'.heap .(4) (dedK ((K7 .(D)).map key)) ->
     ∃h' tk,s'={ s with heap:=h',toks:=tk }/\SetAt w h' .(4) (dedK ((K7 .(D)).map key))/\∀b o,s.heap.get? b=some o->h'.get? b=some o:=λob s' hm S2=>by
     obtain⟨h',g',d',tk',os'⟩:=s';have e1:g'=s.gens:=hm.gens;have e2:d'=s.drawn:=hm.drawn;have e3:os'=s.os:=hm.os;subst e1;subst e2;subst e3;refine⟨h',tk',rfl,S2,λb o e=>hm.heap b o ?_ (K8 _ (K8 _ e))⟩;have:=K0a e;rw[K1r];simp only[K0y,K31,K82,or_false,not_or];exact⟨K0o this,K0o (K2o this)⟩
    rcases hT with rfl|rfl
    ·have x1:=F.sub_list_set;have x2:=F.sub_list_frozenset;have x3:(K45 "list"==K45 "dict")=false:=by decide
     have il:(s.heap.push (z1F w)).IsList l items:=⟨_,gl,rfl,nl,rfl⟩;unfold Builtin.«set.__init__» noKeywords K6d;generalize hPI:pyIter=PI
     wp_walk
     subst hPI;refine K39 il (K0 (K5w ?_));refine z6z ((Walks.list h3 _ l neI items).toS) .(4) nf key (λi v e=>hv i v e) hb .(D) 0 _ .(1) ⟨⟨_,K0b _ rfl,rfl,rfl⟩,il.push _⟩ (start _) λs' hm S2=>?_;obtain⟨h',tk,rfl,q1,q2⟩:=fin _ s' hm S2;exact K9 (show wpAny _ _ (ret K2h) _ _ _ from K9 ⟨rfl,h',tk,rfl,q1,q2⟩)
    ·have x1:=z9j;have x2:=z7P;have x3:(K45 "tuple"==K45 "dict")=false:=by decide
     have il:(s.heap.push (z1F w)).IsTuple l items:=⟨_,gl,rfl,nl,rfl⟩;unfold Builtin.«set.__init__» noKeywords K6d;generalize hPI:pyIter=PI
     wp_walk
     subst hPI;refine K3q il (K0 (K5w ?_));refine z6z ((Walks.tuple h3 _ l neI items).toS) .(4) nf key (λi v e=>hv i v e) hb .(D) 0 _ .(1) ⟨⟨_,K0b _ rfl,rfl,rfl⟩,⟨_,K8 _ gl,rfl,nl,rfl⟩⟩ (start _) λs' hm S2=>?_;obtain⟨h',tk,rfl,q1,q2⟩:=fin _ s' hm S2;exact K9 (show wpAny _ _ (ret K2h) _ _ _ from K9 ⟨rfl,h',tk,rfl,q1,q2⟩)
   ·cases r2 with
    | error e=>exact hr2
    | ok f2=>
     cases f2 with
     | next=>exact hr2.elim
     | brk=>exact hr2.elim
     | cont=>exact hr2.elim
     | ret r=>
      obtain⟨rfl,h',tk,rfl,q1,q2⟩:=hr2
      repeat (any_goals (first|assumption|wp_step))
      exact h _ _ q1 q2
theorem z3Z{α:Type}:∀(l:List α) (i:Nat) (h:i<l.length),(l[i]::l.eraseIdx i).Perm l
 | [],i,h=>by simp at h
 | a::l,0,h=>.refl _
 | a::l,i+1,h=>by
  have:=z3Z l i (by simpa using h);exact(List.Perm.swap a _ _).trans (Z28 a this)
theorem z7x{l:List α}(h:i<l.length)(e:l.length=n+1):(l.eraseIdx i).length=n:=by
 rw[List.length_eraseIdx,if_pos h,e];rfl
theorem zj6{α:Type}(f:Nat->Nat):∀(n k:Nat) (left:List α) (out:Array α),left.length=n->(K9x f n k left out).toList.Perm (out.toList++left)
 | 0,k,left,out,h=>by
  have:left=[]:=K7z.mp h;subst this;simp[K9x]
 | n+1,k,left,out,h=>by
  have hl:f k % left.length<left.length:=K9p _ .(1);rw[K9x,K2 hl];dsimp only;refine(zj6 f n (k+1) _ _ (z7x hl h)).trans ?_;rw[Z1d,K0e];refine List.Perm.append_left _ ?_;exact z3Z left _ hl
theorem zf4(f:Nat->Nat)(xs:Array α):(Z1s f xs).toList.Perm xs.toList:=by
 unfold Z1s;have:=zj6 f xs.size 0 xs.toList #[] .(f);simpa using this
theorem slot_si_next:Slot "set_iterator" "__next__" "set_iterator.__next__":=
 .of (owner:="set_iterator") (n:="__next__") (by rw[typeLookup_type,K92];kernel_rfl) .(2) .(2) .(2) (by first|exact .inl .(2)|exact .inr .(2)) (by rw[K5x];kernel_rfl)
theorem z3v:entryFor table "set_iterator.__next__" = some Builtin.«set_iterator.__next__»:=entryFor_of_tree (by kernel_rfl)
theorem z8H:Manifest.owners.lookup (String.ofList ['r','o','t','a','r','e','t','i','_','t','e','s'].reverse)=some Manifest.sig_set_iterator:=by kernel_rfl
theorem z4e(a:Value):argsOk "set_iterator.__next__" ⟨[a],[]⟩:=by
 unfold argsOk;rw[K9k (id:="set_iterator.__next__") (n:=['_','_','t','x','e','n','_','_']) (o:=['r','o','t','a','r','e','t','i','_','t','e','s']) (by kernel_rfl) z8H];kernel_rfl
theorem z4g:Slot "set_iterator" "__iter__" "set_iterator.__iter__":=
 .of (owner:="set_iterator") (n:="__iter__") (by rw[typeLookup_type,K92];kernel_rfl) .(2) .(2) .(2) (by first|exact .inl .(2)|exact .inr .(2)) (by rw[K5x];kernel_rfl)
theorem z6H:entryFor table "set.__iter__" = some Builtin.«frozenset.__iter__»:=
 entryFor_alias (id':="frozenset.__iter__") (by kernel_rfl) rfl .(2) (by kernel_rfl)
theorem z7H(a:Value):argsOk "set.__iter__" ⟨[a],[]⟩:=by
 unfold argsOk;rw[K9k (id:="set.__iter__") (n:=['_','_','r','e','t','i','_','_']) (o:=['t','e','s']) (by kernel_rfl) F.owner_set];kernel_rfl
theorem z5u{α:Type}:∀(n:Nat) (xs:List α) (s:Shared) (Q:List α->Shared->Prop),xs.length=n->(∀ys d',ys.Perm xs->Q ys { s with drawn:=d' })->wpAny (model P w) A (drawOrder n xs) Q E s
 | 0,xs,s,Q,h,hq=>by
  have:xs=[]:=K7z.mp h;subst this;exact K9 (hq [] s.drawn (.refl _))
 | n+1,xs,s,Q,h,hq=>by
  cases xs with
  | nil=>simp at h
  | cons x xs=>
   rw[drawOrder.eq_3 _ _ (λz=>by cases z)];refine K0 ?_;refine λΓ p _=>⟨by simp,?_⟩;generalize hi:(model P w).w.draws .order (s.drawn.get .order) % (x::xs).length=i;have il:i<(x::xs).length:=by rw[<- hi];exact K9p _ .(f)
   show wpAny (model P w) A (match (x::xs)[i]? with|some x_1=>(do return x_1::(<- drawOrder n ((x::xs).eraseIdx i)))|none=>Z20 "internal:drawOrder") Q E { s with drawn:=s.drawn.bump .order };rw[K2 il];dsimp only;refine K0 (z5u n _ _ _ (z7x il h) λys d' pm=>K9 ?_);exact hq _ d' ((Z28 _ pm).trans (z3Z _ i il))
theorem z5Y:entryFor table "set_iterator.__iter__" = some Builtin.«dict_keyiterator.__iter__»:=
 entryFor_alias (id':="dict_keyiterator.__iter__") (by kernel_rfl) rfl .(2) (by kernel_rfl)
theorem z6Z(a:Value):argsOk "set_iterator.__iter__" ⟨[a],[]⟩:=by
 unfold argsOk;rw[K9k (id:="set_iterator.__iter__") (n:=['_','_','r','e','t','i','_','_']) (o:=['r','o','t','a','r','e','t','i','_','t','e','s']) (by kernel_rfl) z8H];kernel_rfl
abbrev z7N(first:Value)(i:Nat)(S:Addr)(n ep:Nat):Obj:={ cls:=.type "set_iterator",data:=.fields #[first,rawInt i,.ref S,rawInt n,rawInt ep] }
section
variable(w:World)(S:Addr)(es:Array (Int×Value))(ep:Nat)(t:K4a)
inductive Stand(h:Heap)(i:Nat):Value->List (Int×Value)->Prop where
 | txt (b:w.params.followText "set-order" = true):Stand h i (rawInt 0) (Z1s (w.params.setOrder S ep) es).toList
 | drw (T:Addr) (pl:List Nat) (b:w.params.followText "set-order" = false) (hT:∃o n,h.get? T=some o/\o.data=.seq (pl.map λ(j:Nat)=>rawInt j).toArray n) (hp:pl.Perm (K7 es.size)):Stand h i (.ref T) (pl.filterMap λj=>es[j]?)
 | slo (sl:Nat) (b:w.params.followText "set-order" = false) (c:(!t.plain&&decide (es.size > 1))=false) (l:t.led=true) (e:K0s t.place sl=i):Stand h i (rawInt sl) es.toList
end
theorem z5F{α:Type}{es:Array α}:∀{pl:List Nat},(∀j∈pl,j<es.size)->∀(i:Nat),(pl.filterMap λj=>es[j]?)[i]?=(pl[i]?).bind λj=>es[j]?
 | [],h,i=>by simp
 | a::pl,h,i=>by
  have hb:=h a K1e;have ha:es[a]?=some es[a]:=K1k hb;rw[K23,ha];cases i with
  | zero=>simp[ha]
  | succ i=>simpa using z5F (λj hj=>h j (K13 _ hj)) i
theorem Stand.perm{t:K4a}{h:Heap}{f:Value}(x:Stand w S es ep t h i f ord):ord.Perm es.toList:=by
 cases x with
 | txt b=>exact zf4 _ _
 | drw T pl b hT hp=>
  refine(hp.filterMap _).trans ?_;rw[filterMap_getElem?_range]
 | slo sl b c l e=>exact .refl _
section
variable{t:K4a}{f:Value}
theorem z8X{sl:Nat}{Q:Option (Value×Nat)->Shared->Prop}(ho:s.heap.get? S=some o)(hd:o.data=.set es ep t)(hf:t.fits es.size=true)(b:w.params.followText "set-order" = true)
 (h:Q (((Z1s (w.params.setOrder S ep) es)[i]?).map λe=>(e.2,sl)) s):wpAny (model P w) A (K8g S sl i ep) Q E s:=by
 unfold K8g K9t;refine K0 (K43 ho hd hf (K0 (K0 (K3m (K9 ?_)))));dsimp only;rw[show (model P w).w.params.followText "set-order" = true from b,if_pos rfl,if_neg .(f)];unfold setWalk K9t;refine K0 (K0 (K43 ho hd hf (K0 (K0 (K3m (K9 ?_))))));dsimp only;rw[show (model P w).w.params.followText "set-order" = true from b,if_pos rfl];refine K0 (K3m (K9 (K9 ?_)));exact h
theorem z8Y{sl:Nat}{Q:Option (Value×Nat)->Shared->Prop}(ho:s.heap.get? S=some o)(hd:o.data=.set es ep t)(hf:t.fits es.size=true)(b:w.params.followText "set-order" = false)
 (c:(!t.plain&&decide (es.size > 1))=false) (l:t.led=true) (h:Q (match es[K0s t.place sl]?,t.place[K0s t.place sl]? with|some (_,x),some j=>some (x,j+1)|_,_=>none) s):wpAny (model P w) A (K8g S sl i ep) Q E s:=by
 unfold K8g K9t;refine K0 (K43 ho hd hf (K0 (K0 (K3m (K9 ?_)))));dsimp only;rw[show (model P w).w.params.followText "set-order" = false from b,if_neg .(0)];rw[if_neg (by show ¬ ((!t.plain&&decide (es.size > 1))=true);rw[c];decide)];refine K0 ?_;show wpAny _ _ (if (!t.led&&!es.isEmpty)=true then _ else _) _ _ _;rw[if_neg (by rw[l];simp)];exact K9 (K9 h)
theorem zM6{e:Int×Value}{Q:Option Value->Shared->Prop}(ho:s.heap.get? S=some o)(hd:o.data=.set es ep t)(hf:t.fits es.size=true)(hr:Rise t.place)(hI:s.heap.get? I=some (z7N f i S es.size ep))(st:Stand w S es ep t s.heap i f ord)(he:ord[i]?=some e)(hSI:S≠I)
 (hQ:∀h' f',K3f I s.heap h'->h'.get? I=some (z7N f' (i+1) S es.size ep)->Stand w S es ep t h' (i+1) f' ord->(∀T,f'=.ref T->f=.ref T)->Q (some e.2) { s with heap:=h' }):wpAny (model P w) A (pyNext (.ref I)) Q E s:=by
 have hT:s.TypeIs (.ref I) "set_iterator":=⟨_,hI,rfl⟩;unfold pyNext;refine K0 (wpAny_attempt (K2l (name:=K01 "__next__") hT slot_si_next (K20 slot_si_next hT z3v ?_ (z4e _))));show wpAny _ _ (fieldsOf (.ref I) >>= _) _ _ s;refine K0 (wpAny_fieldsOf hI rfl ?_);show wpAny _ _ (setEntries S >>= _) _ _ s;refine K0 (K6h ho hd hf ?_);rw[if_neg .(f)];have upd:∀(h0:Heap) (vs:Array Value) (j:Nat) (v:Value),h0.get? I=some { cls:=.type "set_iterator",data:=.fields vs }->(h0.update I (K7q (·.setIfInBounds j v))).get? I=some { cls:=.type "set_iterator",data:=.fields (vs.setIfInBounds j v) }:=λh0 vs j v e=>by
  have:=K2y (K7q (·.setIfInBounds j v)) e (K4s (K3o rfl _));exact this
 have fin:∀(f':Value) (j:Nat) (R:Z2h->Shared->Prop) (R2:Value->Shared->Prop),(∀h',K3f I s.heap h'->h'.get? I=some (z7N f' (i+1) S es.size ep)->R (.done (.ret e.2)) { s with heap:=h' }) ->
  wpAny (model P w) A.in1 (setField (.ref I) 0 f' >>= λ_=>setField (.ref I) 1 (rawInt ((i:Int)+1)) >>= λ_=>ret e.2) R R2 s:=λf' j R R2 q=>by
  have u1:=upd s.heap _ 0 f' hI;refine K0 (K2q hI rfl .(f) (K0 (K2q u1 rfl .(f) (K9 (q _ ((K1j ..).trans (K1j ..)) ?_)))));rw[upd _ _ 1 _ u1];simp[rawInt]
 cases st with
 | txt b=>
  show wpAny _ _ (K8g S (0:Int).toNat (i:Int).toNat (ep:Int).toNat >>= _) _ _ _;rw[K0k,K0k];refine K0 (z8X ho hd hf b ?_);rw[<- K3s,he];exact fin (rawInt 0) 0 _ _ λh' sb q=>⟨_,rfl,K9 (hQ h' _ sb q (.txt b) λT z=>by cases z)⟩
 | slo sl b c l e2=>
  have hi:i<es.size:=by simpa using(K5.mp he).1
  have he2:es[i]?=some e:=by rw[<- K3s];exact he
  have sz:t.place.size=es.size:=by
   unfold K4a.fits at hf;simp at hf;exact hf.1
  have hp:t.place[i]?=some (t.place[i]' .(1)):=K1k .(1);show wpAny _ _ (K8g S (sl:Int).toNat (i:Int).toNat (ep:Int).toNat >>= _) _ _ _;rw[K0k,K0k,K0k];refine K0 (z8Y ho hd hf b c l ?_);rw[e2,he2,hp];refine fin (rawInt ((t.place[i]' .(1)+1:Nat):Int)) 0 _ _ λh' sb q=>⟨_,rfl,K9 (hQ h' _ sb q (.slo _ b c l (z9E hr hp)) λT z=>by cases z)⟩
 | drw T pl b hT hp=>
  obtain⟨oT,nT,gT,dT⟩:=hT;have hb:∀j∈pl,j<es.size:=λj hj=>by simpa using hp.mem_iff.mp hj
  rw[z5F hb]at he;cases hpi:pl[i]? with
  | none=>rw[hpi]at he;cases he
  | some j=>
   rw[hpi]at he;have hej:es[j]?=some e:=he;have hTI:T≠I:=λz=>by
    subst z;rw[hI]at gT;cases gT;cases dT
   show wpAny _ _ (Z1r (.ref T) >>= _) _ _ _;refine K0 (K6x gT dT ?_);dsimp only;rw[K0k,show ((pl.map λ(j:Nat)=>rawInt j).toArray)[i]?=some (rawInt j) by simp[hpi]];show wpAny _ _ (setNextDrawn S (j:Int).toNat (ep:Int).toNat >>= _) _ _ _;rw[K0k,K0k];unfold setNextDrawn;refine K0 (K0 (K43 ho hd hf ?_));dsimp only;rw[if_neg .(f),hej];refine K9 ?_;have u1:=upd s.heap _ 1 (rawInt ((i:Int)+1)) hI;refine K0 (K2q hI rfl .(f) (K9 ⟨_,rfl,K9 (hQ _ (.ref T) (K1j ..) ?_ (.drw T pl b ⟨oT,nT,?_,dT⟩ hp) λ_ z=>z)⟩))
   ·rw[u1];simp[rawInt]
   ·rw[K2p _ _ (K3a hTI)];exact gT
theorem zB4{Q:Option Value->Shared->Prop}(hh:A.handled=none)(ho:s.heap.get? S=some o)(hd:o.data=.set es ep t)(hf:t.fits es.size=true)(hI:s.heap.get? I=some (z7N f es.size S es.size ep))(st:Stand w S es ep t s.heap es.size f ord)
 (hQ:∀h',Z1z I s.heap h'->Q none { s with heap:=h' }):wpAny (model P w) A (pyNext (.ref I)) Q E s:=by
 have hT:s.TypeIs (.ref I) "set_iterator":=⟨_,hI,rfl⟩;have hl:ord.length=es.size:=by rw[st.perm.length_eq,K18]
 unfold pyNext;refine K0 (wpAny_attempt (K2l (name:=K01 "__next__") hT slot_si_next (K20 slot_si_next hT z3v ?_ (z4e _))));show wpAny _ _ (fieldsOf (.ref I) >>= _) _ _ s;refine K0 (wpAny_fieldsOf hI rfl ?_);show wpAny _ _ (setEntries S >>= _) _ _ s;refine K0 (K6h ho hd hf ?_);rw[if_neg .(f)];have stop:∀(h1:Heap) (Z:Z2h->Shared->Prop),Z1z I s.heap h1->wpAny (model P w) A.in1 (newExc (.type "StopIteration") [] >>= λx=>(raiseNew x:Sem Z2h)) Z (λe s'=>wpAny (model P w) A (do let __do_lift <- isInstance e (K45 "StopIteration");if __do_lift=true then pure none else throw e) Q E s') { s with heap:=h1 }:=λh1 Z eb=>by
  refine K0 ?_;simp only[newExc,newTuple];refine K0 (K1b ?_ (by size_fits));refine K0 (m:=K6y _ _) (K98 (a:=K2h) (by first|rfl|(simp only[K6y];rfl)) ?_);refine K1b ?_ (by size_fits);simp only[raiseNew];refine K0 (wpAny_handled ?_);rw[show A.in1.handled=none by simp[hh]];refine K0 (K9 (wpAny_throw ?_));refine K0 (wpAny_isInstance (T:="StopIteration") (b:=true) ⟨_,K0b _ rfl,rfl⟩ isSubtype_stop ?_);exact K9 (hQ _ ((eb.push _).push _))
 cases st with
 | txt b=>
  show wpAny _ _ (K8g S (0:Int).toNat (es.size:Int).toNat (ep:Int).toNat >>= _) _ _ _;rw[K0k,K0k];refine K0 (z8X ho hd hf b ?_);rw[<- K3s,K0h .(1)];exact K0 (K2q hI rfl .(f) (stop _ _ (K1j ..).extBut))
 | slo sl b c l e2=>
  show wpAny _ _ (K8g S (sl:Int).toNat (es.size:Int).toNat (ep:Int).toNat >>= _) _ _ _;rw[K0k,K0k,K0k];refine K0 (z8Y ho hd hf b c l ?_);rw[e2,Array.getElem?_eq_none (K05 _)];exact K0 (K2q hI rfl .(f) (stop _ _ (K1j ..).extBut))
 | drw T pl b hT hp=>
  obtain⟨oT,nT,gT,dT⟩:=hT;have lp:pl.length=es.size:=by rw[hp.length_eq,K1u]
  show wpAny _ _ (Z1r (.ref T) >>= _) _ _ _;refine K0 (K6x gT dT ?_);dsimp only;rw[K0k,show ((pl.map λ(j:Nat)=>rawInt j).toArray)[es.size]?=none by simp[lp]];have u1:(s.heap.update I (K7q (·.setIfInBounds 0 (rawInt 0)))).get? I=some { cls:=.type "set_iterator",data:=.fields (#[.ref T,rawInt es.size,.ref S,rawInt es.size,rawInt ep].setIfInBounds 0 (rawInt 0)) }:=
   K2y _ hI (K4s (K3o rfl _))
  exact K0 (K2q hI rfl .(f) (K0 (K2q u1 rfl .(f) (stop _ _ ((K1j ..).trans (K1j ..)).extBut))))
end
theorem zu0{P:K1a}{w:World}{t:K4a}{tl:List Addr}(hh:A.handled=none)(hd:o.data=.set es ep t)(hf:t.fits es.size=true)(hr:Rise t.place)(hSI:S≠I)(hl:ord.length=es.size)(htl:I∉tl):
 Walks P w A I (I::S::tl) [I] es.size (λi v=>∃e,ord[i]?=some e/\v=e.2) (λi h=>h.get? S=some o/\∃f,(∀T,f=.ref T->T∈tl)/\h.get? I=some (z7N f i S es.size ep)/\Stand w S es ep t h i f ord) where
 sub:=λb hb=>by simp at hb;simp[hb]
 frame:=λi h h' st hk=>by
  obtain⟨q1,f,q2,q3,q4⟩:=st;refine⟨hk S .(f) _ q1,f,q2,hk I .(f) _ q3,?_⟩;cases q4 with
  | txt b=>exact .txt b
  | slo sl b c l e2=>exact .slo sl b c l e2
  | drw T pl b hT hp=>
   obtain⟨oT,nT,gT,dT⟩:=hT;exact .drw T pl b ⟨oT,nT,hk T (by simp[q2 T rfl]) _ gT,dT⟩ hp
 item:=λi s Q E hi st hQ=>by
  obtain⟨q1,f,q2,q3,q4⟩:=st;have he:ord[i]?=some (ord[i]' .(1)):=K2 .(1);refine zM6 q1 hd hf hr q3 q4 he hSI λh' f' sb g st' tt=>?_;refine hQ _ h' s.toks ⟨_,he,rfl⟩ ⟨?_,f',λT z=>q2 T (tt T z),g,st'⟩ λb ob hb e=>?_
  ·rw[sb.2 S hSI];exact q1
  ·rw[sb.2 b (λz=>hb (by simp[z]))];exact e
 done:=λs Q E st hQ=>by
  obtain⟨q1,f,q2,q3,q4⟩:=st;exact zB4 hh q1 hd hf q3 q4 λh' eb=>hQ h' s.toks λb ob hb e=>eb b ob (λz=>hb (by simp[z])) e
 self:=λi s Q E st hQ=>by
  obtain⟨q1,f,q2,q3,q4⟩:=st;have hT:s.TypeIs (.ref I) "set_iterator":=⟨_,q3,rfl⟩;refine wpAny_pyIter_slot hT z4g (K20 z4g hT z5Y ?_ (z6Z _));show wpAny _ _ (ret (.ref I)) _ _ s;exact K9 ⟨_,rfl,"set_iterator",_,hT,slot_si_next.lookup,hQ⟩
section
variable{t:K4a}
theorem zn3{Q:Value->Shared->Prop}(ho:s.heap.get? S=some o)(hc:o.ExactSet)(hd:o.data=.set es ep t)(hf:t.fits es.size=true)(hr:Rise t.place)(hb:es.size<scanBound)(hl:t.led=true\/w.params.followText "set-order" = true)
 (hQ:∀(h':Heap) (d':Drawn) (I:Addr) (f:Value) (ord:List (Int×Value)) (tl:List Addr),(∀b ob,s.heap.get? b=some ob->h'.get? b=some ob)->.(4)<=I->h'.get? I=some (z7N f 0 S es.size ep)->(∀T,f=.ref T->T∈tl)->(∀T∈tl,.(4)<=T/\T<h'.objs.size/\T≠I)->Stand w S es ep t h' 0 f ord->Q (.ref I) { s with heap:=h',drawn:=d' }) :
 wpAny (model P w) A (pyIter (.ref S)) Q E s:=by
 have hT:s.TypeIs (.ref S) "set":=⟨o,ho,hc.1⟩;refine wpAny_pyIter_slot hT F.slot_set_iter (K20 F.slot_set_iter hT z6H ?_ (z7H _));unfold Builtin.«frozenset.__iter__» Builtin.Frozenset.slot0 slotArgs;simp only[List.isEmpty_nil,K3j,K1y,↓reduceIte,bind_assoc,K0l,bne_self_eq_false];unfold Builtin.Frozenset.addrOf Builtin.Frozenset.sizeOf;refine K0 (K9 ?_)
 try dsimp only
 refine K0 (K9 ?_);refine K0 (K0 (K6h ho hd hf (K9 ?_)));unfold setDrawn K9t;refine K0 (K0 (K43 ho hd hf (K0 (K0 (K3m (K9 (K9 ?_)))))));dsimp only;have tailW:∀(h0:Heap) (d0:Drawn) (first:Value) (ord:List (Int×Value)) (tl:List Addr),(∀b ob,s.heap.get? b=some ob->h0.get? b=some ob)->.(4)<=h0.objs.size->(∀T,first=.ref T->T∈tl)->(∀T∈tl,.(4)<=T/\T<h0.objs.size) ->
  (∀h',(∀b ob,h0.get? b=some ob->h'.get? b=some ob)->Stand w S es ep t h' 0 first ord) ->
  wpAny (model P w) A.in1 (setEpoch S >>= λe=>newFields "set_iterator" [first,rawInt 0,.ref S,rawInt es.size,rawInt e] >>= λv=>ret v) (λfin s'=>∃v,fin=.done (.ret v)/\∃T' r,s'.TypeIs v T'/\typeLookup (K45 T') (K01 "__next__")=pure (some r)/\Q v s') E { s with heap:=h0,drawn:=d0 }:=λh0 d0 first ord tl k1 k2 k3 k4 k5=>by
  refine K0 (wpAny_setEpoch_of (s:={ s with heap:=h0,drawn:=d0 }) (k1 S o ho) hd hf ?_);refine K0 (K1b (K9 ⟨_,rfl,"set_iterator",_,⟨_,K0b _ rfl,rfl⟩,slot_si_next.lookup,?_⟩));refine hQ _ d0 h0.objs.size first ord tl (λb ob e=>K8 _ (k1 b ob e)) k2 (K0b _ rfl) k3 (λT hT=>?_) (k5 _ λb ob e=>K8 _ e)
  obtain⟨z1,z2⟩:=k4 T hT;exact⟨z1,by rw[K1r];exact K2o z2,K0o z2⟩
 cases hb':w.params.followText "set-order" with
 | true=>
  rw[show (model P w).w.params.followText "set-order" = true from hb',if_neg .(f)];refine K0 (K9 ?_);exact tailW s.heap s.drawn (rawInt 0) _ [] (λ_ _ e=>e) (K05 _) (λT z=>by cases z) (λT z=>by cases z) λh' _=>.txt hb'
 | false=>
  rw[show (model P w).w.params.followText "set-order" = false from hb'];have led:t.led=true:=by
   rcases hl with hl|hl
   ·exact hl
   ·rw[hb']at hl;cases hl
  show wpAny _ _ (if (!false&&(!t.plain&&decide (es.size > 1)))=true then _ else _) _ _ _;rw[Bool.not_false,Bool.true_and];cases hdr:(!t.plain&&decide (es.size > 1)) with
  | false=>
   rw[if_neg .(0)];refine K0 (K9 ?_);exact tailW s.heap s.drawn (rawInt 0) _ [] (λ_ _ e=>e) (K05 _) (λT z=>by cases z) (λT z=>by cases z) λh' _=>.slo 0 hb' hdr led (z9p hr)
  | true=>
   rw[if_pos rfl];refine K0 (z5u es.size (K7 es.size) s _ .(f) λys d' pm=>?_);have ly:(ys.map λ(i:Nat)=>rawInt i).length<=sizeLine:=by
    rw[K03,pm.length_eq,K1u];exact K60 hb
   refine K0 (wpAny_newTuple ?_ ly);refine tailW (s.heap.push { cls:=.type "tuple",data:=.seq (ys.map λ(i:Nat)=>rawInt i).toArray }) d' (.ref .(4)) _ [.(4)] (λb ob e=>K8 _ e) (by rw[K1r];exact K68 _)
    (λT z=>by cases z;exact K31.mpr rfl) (λT z=>?_) λh' k=>.drw .(4) ys hb' ⟨_,_,k _ _ (K0b _ rfl),rfl⟩ pm
   have:=K31.mp z;subst this;exact⟨K05 _,by rw[K1r];exact K50 _⟩
theorem z7L{Q:List Value->Shared->Prop}(hh:A.handled=none)(ho:s.heap.get? S=some o)(hc:o.ExactSet)(hd:o.data=.set es ep t)(hf:t.fits es.size=true)(hr:Rise t.place)(hb:es.size<scanBound)(hl:t.led=true\/w.params.followText "set-order" = true)
 (hQ:∀(h':Heap) (d':Drawn) (tk:Nat) (ord:List (Int×Value)),(∀b ob,s.heap.get? b=some ob->h'.get? b=some ob)->.(4)<=h'.objs.size->ord.Perm es.toList->Q (ord.map (·.2)) { s with heap:=h',drawn:=d',toks:=tk }) :
 wpAny (model P w) A (Z1a (.ref S)) Q E s:=by
 have hS:S<s.heap.objs.size:=K0a ho;unfold Z1a;refine K0 (K5w (K2g F.entry_proto_collect ?_));rw[K1w F.plain_proto_collect _];show wpAny _ A.in1 (Z19 [] >>= λl=>again (.builtin "list.__iadd__" ⟨[l,.ref S],[]⟩)) _ _ s;refine K0 (K1b (K9 ⟨K57 K2z _,K2g F.entry_list_iadd ?_⟩));rw[K1w K2z _];show wpAny _ A.in1 (K3h (.ref .(4)) (.ref S) (.ref .(4))) _ _ _;unfold K3h;have g1:(s.heap.push { cls:=.type "list",data:=.seq ([]:List Value).toArray }).get? S=some o:=K8 _ ho;have tS:K7m { s with heap:=s.heap.push { cls:=.type "list",data:=.seq ([]:List Value).toArray } } (.ref S) "set":=⟨o,g1,hc.1⟩;refine K0 (K5u tS ?_);have n1:K7r (.ref .(4)) (.ref S)=false:=by
  simp only[K7r];exact beq_eq_false_iff_ne.mpr (K24 hS)
 rw[if_neg (by rw[n1];decide)];refine K0 (zn3 (s:={ s with heap:=s.heap.push { cls:=.type "list",data:=.seq ([]:List Value).toArray } }) g1 hc hd hf hr hb hl λh1 d1 I f ord tl k1 k2 k3 k4 k5 st=>?_);have g2:h1.get? S=some o:=k1 S o g1;have gL:h1.get? .(4)=some { cls:=.type "list",data:=.seq ([]:List Value).toArray }:=k1 _ _ (K0b _ rfl);have tS2:K7m { s with heap:=h1,drawn:=d1 } (.ref S) "set":=⟨o,g2,hc.1⟩;refine K0 (K1z ?_);unfold Builtin.List.listLengthHint;refine K0 (K8z tS2 F.slot_set_len.lookup ?_);have sp:splitId "set.__len__" = some ("set","__len__"):=by decide +kernel
 dsimp only;rw[sp];dsimp only;refine K0 (wpAny_isInstance (b:=true) tS2 (by rw[K5x];kernel_rfl) ?_);rw[if_neg .(0),if_pos .(2)];refine K0 (K5u tS2 (K9 ?_));rw[if_pos .(2)];have u1:=get?_update_seq (c:="list") (xs:=([]:List Value).toArray) (n:=0) gL (·.push .none);have u2:=get?_update_seq u1 (·.pop);refine K0 (K65 ?_);unfold Builtin.List.listTouch;refine K0 (K0 (listUpdate_at (s:={ s with heap:=h1,drawn:=d1 }) gL rfl (listUpdate_at (s:={ s with heap:=h1.update .(4) (K5d (·.push .none)),drawn:=d1 }) u1 rfl ?_)));generalize hh2:(h1.update .(4) (K5d (·.push .none))).update .(4) (K5d (·.pop))=h2 at u2 ⊢;have keep2:∀b ob,b≠.(4)->h1.get? b=some ob->h2.get? b=some ob:=λb ob hb e=>by
  rw[<- hh2,K2p _ _ (K3a hb),K2p _ _ (K3a hb)];exact e
 have hIs:.(4)+1<=I:=by rw[K1r]at k2;exact k2
 have hSI:S≠I:=K0o (K0j hS (Z1k hIs));have lo:ord.length=es.size:=by rw[st.perm.length_eq,K18]
 have W:=zu0 (P:=P) (w:=w) (A:=A.in1) (S:=S) (I:=I) (ord:=ord) (o:=o) (tl:=tl) (by simp[hh]) hd hf hr hSI lo (λz=>(k5 I z).2.2 rfl);have hLf:.(4)∉I::S::tl:=by
  simp only[K0y,not_or];refine⟨K0o hIs,K24 hS,λz=>?_⟩;have:=(k5 _ z).1;rw[K1r]at this;exact K2e _ this
 have st0:(λi (h:Heap)=>h.get? S=some o/\∃f,(∀T,f=.ref T->T∈tl)/\h.get? I=some (z7N f i S es.size ep)/\Stand w S es ep t h i f ord) 0 h2:=by
  refine⟨keep2 S o (K0o hS) g2,f,k4,keep2 I _ (K24 hIs) k3,?_⟩;cases st with
  | txt b=>exact .txt b
  | slo sl b c l e2=>exact .slo sl b c l e2
  | drw T pl b hT hp=>
   obtain⟨oT,nT,gT,dT⟩:=hT;refine .drw T pl b ⟨oT,nT,keep2 T oT (λz=>?_) gT,dT⟩ hp;have:=(k5 T (k4 T rfl)).1;rw[K1r,z]at this;exact K2e _ this
 refine K9 ⟨K57 F.plain_extend_loop _,codeAny_extend_loopS W.toS (K60 hb) s.heap.objs.size hLf _ es.size 0 { s with heap:=h2,drawn:=d1 } #[] 2 .(1) (K3k _) st0 (by simpa [seqObj] using u2) (K7i.nil _) λs' acc c' hm gS' hacc=>?_⟩;show wpAny _ A (load .(4) >>= _) _ _ s';refine K0 (K8i gS' (K9 ?_));have ea:acc.toList=ord.map (·.2):=by
  refine K1v λj=>?_;rw[K04,K3s];cases hj:acc[j]? with
  | none=>
   have h1:=Array.getElem?_eq_none_iff.mp hj;rw[hacc.1]at h1;rw[K0h .(1)];rfl
  | some v=>
   obtain⟨e,h1,h2⟩:=hacc.2 j v hj;rw[h1,h2];rfl
 rw[ea];obtain⟨h',g',d',tk',os'⟩:=s';have e1:g'=s.gens:=hm.gens;have e2:d'=d1:=hm.drawn;have e3:os'=s.os:=hm.os;subst e1;subst e2;subst e3;refine hQ h' d' tk' ord (λb ob e=>?_) ?_ st.perm
 ·have hb2:b≠s.heap.objs.size:=K0o (K0a e);refine hm.heap b ob ?_ (keep2 b ob hb2 (k1 b ob (K8 _ e)));simp only[K0y,K31,K82,or_false,not_or];exact⟨hb2,K0o (K0j (K0a e) (Z1k hIs))⟩
 ·exact K2f (K0a gS')
end
theorem zI7{k:Key}{u:Value}(r:RelV (kV k) u):z29 k u=true:=by
 cases k with
 | inl i=>obtain⟨t,rfl⟩:=r;exact z7a i t
 | inr x=>obtain⟨t,rfl⟩:=r;exact z7w x t
theorem z7t:∀{ks:List Key}{us:List Value},Vals (ks.map kV) us->∀(i:Nat) u,us[i]?=some u->∃k,ks[i]?=some k/\z29 k u=true
 | [],_,h,i,u,e=>by cases h;simp at e
 | k::ks,_,.cons h1 h2,0,u,e=>by simp at e;subst e;exact⟨k,rfl,zI7 h1⟩
 | k::ks,_,.cons h1 h2,i+1,u,e=>by
  obtain⟨k',q1,q2⟩:=z7t h2 i u (by simpa using e);exact⟨k',by simpa using q1,q2⟩
theorem z9v(ks:List Key):(K7 ks.length).map (λi=>(ks[i]?).getD (.inl 0))=ks:=by
 refine K1v λi=>?_;rw[K04];by_cases h:i<ks.length
 ·rw[K16 h,K2 h];simp[K2 h]
 ·rw[K0h (by simpa using h),K0h .(1)];rfl
theorem zk6(hc:X.calm=true):z2W X (.type "set") (λxs H Q=>∃l ks,xs=[.ref l]/\(SqL X.K H l (ks.map kV)\/SqT X.K H l (ks.map kV))/\ks.length+1<scanBound/\∀q,H q=none->Q (.ref q) (upd H q (.set (dedK ks)))):=by
 intro pins s σ H xs us Q I r h;obtain⟨l,ks,rfl,hq,hb,q⟩:=h;obtain⟨u,rfl,ru⟩:=vals1 r;cases ru;have hh:=I.ok.hd hc;have go:∀{its:List Value} {T:String},T = "list"\/T = "tuple"->Vals (ks.map kV) its->(∃o,s.heap.get? l=some o/\o.cls=.type T/\∃n,o.data=.seq its.toArray n)->wpAny .(8) X.A (call (.type "set") [.ref l]) (EP X pins σ Q) X.xe s:=λ{its T} hT rv hl=>by
  have le:its.length=ks.length:=by rw[<- rv.length,K03]
  refine zj5 (key:=λi=>(ks[i]?).getD (.inl 0)) hT hh hl (λi v e=>?_) (by rw[K07,le];exact hb) λh' tk S2 kp=>?_
  ·obtain⟨k,e1,e2⟩:=z7t rv i v (by simpa using e);rw[e1];exact e2
  ·rw[show its.toArray.size=ks.length by rw[K07,le],z9v]at S2;exact⟨.ref .(4),_,I.laid (t':=tk) (o:=.set (dedK ks)) kp (K05 _) S2,rfl,q _ I.fresh⟩
 rcases hq with hq|hq
 ·obtain⟨its,r',pl,hz⟩:=I.list hq;exact go (.inl rfl) r' pl.isList
 ·obtain⟨its,r',pl,hz⟩:=I.tuple hq;exact go (.inr rfl) r' pl
theorem zG8{σ:L2.St}{a:Addr}(I:L2.Inv X pins σ H s)(h:H a=some (.set ks)):SetAt X.w s.heap a ks:=I.hok a _ h
theorem zd9:∀{ns:List Int}{l:List (Int×Value)}{w:World}{ks:List Key},ks=ns.map K46->Paired (KE w) ks l->K67 (l.map (·.2)) ns
 | [],l,w,ks,e,h=>by subst e;cases h;exact .nil
 | n::ns,l,w,ks,e,h=>by
  subst e;cases h with
  | cons h1 h2=>
   rcases k6 h1.1 with ⟨i,t,e1,e2⟩|⟨x,t,e1,e2⟩
   ·cases e1;rw[K0v,e2];exact .cons _ t (zd9 rfl h2)
   ·cases e1
theorem zr7{ns:List Int}:∀{ks:List Key},ks.Perm (ns.map K46)->∃ms:List Int,ks=ms.map K46/\ms.Perm ns:=λ{ks} p=>by
 have:∀k∈ks,∃i:Int,k=K46 i:=λk hk=>by
  obtain⟨i,_,e⟩:=K08.mp (p.mem_iff.mp hk);exact⟨i,e.symm⟩
 have e:ks=(ks.filterMap λk=>match k with|.inl i=>some i|.inr _=>none).map K46:=by
  clear p;induction ks with
  | nil=>rfl
  | cons k ks ih=>
   obtain⟨i,rfl⟩:=this k K1e;rw[K23];dsimp only;rw[K0v,<- ih λk hk=>this k (K13 _ hk)]
 refine⟨_,e,?_⟩;have q:=p.filterMap λk=>match k with|.inl i=>some i|.inr _=>none
 refine q.trans ?_;rw[K6w];have:(List.filterMap ((λk:Key=>match k with|.inl i=>some i|.inr _=>none) ∘ K46) ns)=ns:=by
  induction ns with
  | nil=>rfl
  | cons n ns ih=>simp[Z14]
 rw[this]
theorem z6K(hc:X.calm=true):z2W X (.builtin "sorted") (λxs H Q=>∃a ns,xs=[.ref a]/\H a=some (.set (ns.map K46))/\ns.length<64/\∀q,H q=none->Q (.ref q) (upd H q (.lst ((sortI ns).map V.int)))):=by
 intro pins s σ H xs us Q I r h;obtain⟨a,ns,rfl,hH,h64,q⟩:=h;obtain⟨u,rfl,ru⟩:=vals1 r;cases ru;obtain⟨o,es,ep,t,ks',h1,h2,h3,h4,h5,h6,h7,h8,h9,h0⟩:=zG8 I hH;refine K74 kind_sorted plain_sorted entry_sorted (args_sorted1 _) ?_;unfold Builtin.«sorted»;refine K0 (m:=checkCount "sorted" 1 1 _) (K9 ?_);refine K0 (z7L (by simp[I.ok.hd hc]) h1 h2 h3 h8 h9 h7 h0 λh' d' tk ord kp sz pm=>?_);obtain⟨k2,p1,p2⟩:=z3a pm h4;obtain⟨ms,rfl,pm2⟩:=zr7 (p1.trans h5);have ia:=zd9 rfl p2;have l1:(ord.map (·.2)).length=ns.length:=by rw[<- pm2.length_eq,K03,<- K4m p2,K03]
 refine K0 (wpAny_newList ?_ (by rw[l1];exact K2f (K0j h64 .(0))));have gL:(h'.push (seqObj "list" (ord.map (·.2)).toArray 0)).get? h'.objs.size=some (seqObj "list" (ord.map (·.2)).toArray 0):=K0b _ rfl;refine K0 (K1z (K20 slot_list_sort ⟨_,gL,rfl⟩ entry_list_sort (list_sort_tree gL ia (by rw[l1];exact h64) λout ns' a1 a2 a3=>⟨_,rfl,?_⟩) (args_list_sort _)));refine K9 ⟨_,rfl,?_⟩;obtain⟨e,ge⟩:=sortedHeap_at (out:=out) gL;have es':ns'=sortI ns:=z8U (a2.trans pm2) a3;subst es';have un:∀b ob,s.heap.get? b=some ob->(sortedHeap (h'.push (seqObj "list" (ord.map (·.2)).toArray 0)) h'.objs.size (ord.map (·.2)) out).get? b=some ob:=λb ob eb=>by
  have lt:=K0a (kp b ob eb);rw[sortedHeap_old (K0o lt) (by rw[K1r];exact K2o lt)];exact K8 _ (kp b ob eb)
 have ho:=I.hok.laid (a:=h'.objs.size) (o:=.lst ((sortI ns).map V.int)) un sz ⟨by rw[K03,(sortI_perm ns).length_eq];exact K2f (K0j h64 .(0)),out.toList,e,z8c a1,ge⟩;exact⟨.ref h'.objs.size,_,I.call' (s':={ s with heap:=_,drawn:=d',toks:=tk }) (ch:=[]) rfl (Un.laid un sz (I.hok.fresh sz)) ho I.bare (λb z=>absurd z .(f)),rfl,q _ (I.hok.fresh sz)⟩
def keyD:D->Option Key
 | .int i=>some (.inl i)
 | .str x=>some (.inr x)
 | _=>none
def z5V:List D->Option (List Key)
 | []=>some []
 | d::r=>match keyD d,z5V r with
  | some k,some ks=>some (k::ks)
  | _,_=>none
theorem zH9{d:D}{k:Key}(e:keyD d=some k)(r:RD K ρ H d v):v=kV k:=by
 cases d<;>first|(simp only[keyD]at e;cases e;done)|skip
 ·simp only[keyD,K7b]at e;subst e;simp only[RD]at r;exact r
 ·simp only[keyD,K7b]at e;subst e;simp only[RD]at r;exact r
theorem z8A{K:K1}{ρ:List Addr}{H:Hp}:∀{ds:List D}{ks:List Key}{vs:List V},z5V ds=some ks->RDs K ρ H ds vs->vs=ks.map kV
 | [],ks,vs,e,r=>by simp only[RDs]at r;cases e;subst r;rfl
 | d::ds,ks,vs,e,r=>by
  simp only[RDs]at r;obtain⟨v,r2,rfl,h1,h2⟩:=r;rw[z5V]at e;cases e1:keyD d with
  | none=>rw[e1]at e;cases e
  | some k=>
   rw[e1]at e;cases e2:z5V ds with
   | none=>rw[e2]at e;cases e
   | some ks'=>
    rw[e2]at e;cases e;rw[zH9 e1 h1,z8A e2 h2];rfl
def getS(n:Nat):M (List Key):=λh=>match h[n]? with
 | some (.set ks)=>.ok ks h
 | _=>.bad
def newSet(ks:List Key):M D:=λh=>.ok .(R) (h++[.set ks])
def z1e:List D->M D
 | [x]=>do
  let xs <- seqD x
  match z5V xs with
  | some ks=>if ks.length+1<4096 then newSet (dedK ks) else bad
  | none=>bad
 | _=>bad
def z6U:List Key->Option (List Int)
 | []=>some []
 | .inl i::r=>(z6U r).map (i::·)
 | .inr _::_=>none
theorem z94:∀{ks:List Key}{ns:List Int},z6U ks=some ns->ks=ns.map K46
 | [],ns,e=>by cases e;rfl
 | .inl i::r,ns,e=>by
  rw[z6U]at e;obtain⟨ms,e1,rfl⟩:=K15.mp e;rw[z94 e1];rfl
 | .inr _::_,ns,e=>by rw[z6U]at e;cases e
def z03:List D->M D
 | [.ref n]=>do
  let ks <- getS n
  match z6U ks with
  | some ns=>if ns.length<64 then newL ((sortI ns).map .int) else bad
  | none=>bad
 | _=>bad
section
variable{o:Expr}{ma:G->M D}
theorem zo4(r:RH K ρ h H)(hq:ρ[n]?=some q)(f:Fin K EX ρ H Z (getS n h)):∃ks,H q=some (.set ks)/\Z ks ρ h H:=by
 unfold getS at f;cases e:h[n]? with
 | none=>rw[e]at f;exact f.elim
 | some ob=>
  cases ob with
  | lst xs=>rw[e]at f;exact f.elim
  | dct=>rw[e]at f;exact f.elim
  | dK kvs=>rw[e]at f;exact f.elim
  | dF kvs=>rw[e]at f;exact f.elim
  | exc c=>rw[e]at f;exact f.elim
  | ins _ _=>rw[e]at f;exact f.elim
  | set ks=>
   rw[e]at f;obtain⟨a1,n1,o1⟩:=r.at e;rw[hq]at n1;cases n1;exact⟨ks,o1,f ρ H .(b) .(d) r⟩
theorem z9i{Q:VK}(r:RH K ρ h H)(hq:H q=none)(f:FE K EX ρ H Q (newSet ks h)):Q (.ref q) (upd H q (.set ks)):=by
 refine f (ρ++[q]) _ (Pre.app _ _) (Ext.upd (.inl hq)) (r.pushS hq) (.ref q) ?_;simp only[RD];exact⟨q,rfl,by rw[<- r.len];simp⟩
theorem zW3:AR X.K EX (λxs H Q=>∃l ks,xs=[.ref l]/\(SqL X.K H l (ks.map kV)\/SqT X.K H l (ks.map kV))/\ks.length+1<scanBound/\∀q,H q=none->Q (.ref q) (upd H q (.set (dedK ks)))) z1e:=by
 intro ρ h H ds vs Q r rd fin;unfold z1e at fin;split at fin
 ·rename_i x;obtain⟨v,rfl,rv⟩:=rds1 rd;have f1:=Fin.bind fin;cases e:seqD x h with
  | bad=>rw[e]at f1;exact f1.elim
  | err z hz=>exact(z3Q e).elim
  | ok ys h1=>
   obtain⟨rfl,p,xs,rfl,hs,hd⟩:=z2Q r rv e;rw[e]at f1;have f2:=f1 ρ H .(b) .(d) r;dsimp only at f2;cases e2:z5V ys with
   | none=>rw[e2]at f2;exact f2.elim
   | some ks=>
    rw[e2]at f2;dsimp only at f2;split at f2
    ·rename_i hl;have ek:=z8A e2 hd;subst ek;exact⟨p,ks,rfl,hs,hl,λq hq=>z9i r hq f2⟩
    ·exact f2.elim
 ·exact fin.elim
theorem z2P(hc:X.calm=true)(hg:Gl X "set")(hm:X.mg "set" = none)(ha:SA X EX [a] mr)(he:K09 [a] X.env=[(false,eval a X.env)]:=by rfl):SE X EX (.Call (.Name "set" p) [a] [] pos) (Z6 z1e mr):=
 z1P (z1m (zk6 hc) hg hm .(2) ha.h .(0) .(0) he rfl) zW3
theorem z9f:AR X.K EX (λxs H Q=>∃a ns,xs=[.ref a]/\H a=some (.set (ns.map K46))/\ns.length<64/\∀q,H q=none->Q (.ref q) (upd H q (.lst ((sortI ns).map V.int)))) z03:=by
 intro ρ h H ds vs Q r rd fin;unfold z03 at fin;split at fin
 ·rename_i n;obtain⟨v,rfl,rv⟩:=rds1 rd;simp only[RD]at rv;obtain⟨q,rfl,hq⟩:=rv;obtain⟨ks,h1,f2⟩:=zo4 r hq (Fin.bind fin);cases e:z6U ks with
  | none=>rw[e]at f2;exact f2.elim
  | some ns=>
   rw[e]at f2;dsimp only at f2;split at f2
   ·rename_i hl;refine⟨q,ns,rfl,by rw[h1,z94 e],hl,λl hl2=>?_⟩;unfold newL at f2;split at f2
    ·refine f2 (ρ++[l]) _ (Pre.app _ _) (Ext.upd (.inl hl2)) (r.push hl2 ?_) (.ref l) ?_
     ·have:∀ms:List Int,RDs X.K ρ H (ms.map D.int) (ms.map V.int):=λms=>by
       induction ms with
       | nil=>exact RDs.nil
       | cons m ms ih=>exact RDs.cons .(C) ih
      exact this _
     ·simp only[RD];exact⟨l,rfl,by rw[<- r.len];simp⟩
    ·exact f2.elim
   ·exact f2.elim
 ·exact fin.elim
theorem z1j(hc:X.calm=true)(hg:Gl X "sorted")(hm:X.mg "sorted" = none)(ha:SA X EX [a] mr)(he:K09 [a] X.env=[(false,eval a X.env)]:=by rfl):SE X EX (.Call (.Name "sorted" p) [a] [] pos) (Z6 z03 mr):=
 z1P (z1I (z6K hc) hg hm boot_sorted ha.h .(0) .(0) he rfl) z9f
end
theorem zQ9{P:K1a}{w:World}{base:Heap}{f:Addr}{fd:K4x}{ps:List Str}{k:Nat}{mb:G->M Out}(F:Fun K x x st f fd)(S:FnScope N ps (j4 st))(hb:Binds K fd ps [])(mx:mg x=.(r f))(hn:ps.length=n)
 (body:∀(cdv:Value) (A:Around) (outer:List Env) (s:Shared) (H:Hp) (E:XK),K34 K cdv x=true->Room k (A.deeper (envOfC x (j4 st) .(4) f cdv)) ->
  SB (cxOf CX0 P w K mg base N x (j4 st) f cdv A outer s H E).nox EX0 (z0x st) mb):Fn P w K mg base (k+1) x n (runF N.length mb):=by
 refine⟨f,fd,ps,?_,hb,F.kp,mx⟩;obtain⟨oc,od,kV,doc,pm,an,cdv,ct,osl,rfl,lk,hcd⟩:=F.ex;refine zD3 lk hcd S (λvs H Q E h=>h.1.trans hn.symm) λA outer s H vs Q E hr h=>?_;obtain⟨hl,ρ,ds,h,rh,rd,fin⟩:=h;refine⟨_,(body cdv A outer s H E hcd hr).h.nox,ρ,z10 N.length ds,h,⟨z4S rd,rh⟩,?_⟩;refine(Fin.bind fin).mono λo ρ1 h1 H1 p1 e1 r1 f1=>?_;cases o with
 | nx γ=>exact λσ _=>FE.here (d:=.non) (h:=h1) f1 r1 .(C)
 | rt d=>exact λv rv=>f1 ρ1 H1 .(b) .(d) r1 v rv
 | bk γ=>exact(show False from f1).elim
 | ct γ=>exact(show False from f1).elim
theorem zg8(t:Addr)(items:Array Value):
 Meets (Builtin.«enumerate.__new__» ⟨[.type "enumerate",.ref t],[]⟩) (λ_ R s=>s.heap.IsTuple t items /\
  R (.ok (.ret (.ref (s.heap.push { cls:=.type "tuple_iterator",data:=.fields #[.ref t,.int 0 0] }).objs.size)))
   { s with heap:=(s.heap.push { cls:=.type "tuple_iterator",data:=.fields #[.ref t,.int 0 0] }).push { cls:=.type "enumerate",data:=.fields #[.none,.bool false,.ref .(4),rawInt 0,.none,.none] } }):=
 .of_wp λprog w A R s h=>by
  obtain⟨hp,g,d,tk,os⟩:=s;obtain⟨q1,h⟩:=h;have hsub:=sub_enumerate;have L1:Heap.IsTuple (Shared.heap ⟨hp,g,d,tk,os⟩) t items:=q1
  wp_walk
  refine wpAny_stack_any λst=>K9 ?_;split
  ·rename_i c _ _ _ _ _;cases (c==K45 "enumerate")
   ·wp_walk using K3q L1
    exact⟨_,rfl,h⟩
   ·wp_walk using K3q L1
    exact⟨_,rfl,h⟩
  ·wp_walk using K3q L1
   exact⟨_,rfl,h⟩
theorem zy5{P:K1a}{w:World}(hh:A.handled=none)(it t:Addr)(hne:t≠it)(items:Array Value):
 Draws P w A it [it,t] .(D) (λi v=>items[i]?=some v) (λi h=>h.IsTupleIter it t i/\h.IsTuple t items) where
 live:=λ_ _ st=>let ⟨o,ho,_⟩:=st.1;⟨o,ho⟩
 frame:=λ_ _ _ st hk=>⟨st.1.at λo e=>hk it .(f) o e,st.2.at λo e=>hk t .(f) o e⟩
 item:=λi s Q E hi st hQ=>zJ4 st.1 st.2 (x:=items[i]) (by simp[hi]) λh' hit sb=>hQ _ h' s.toks (by simp[hi]) ⟨hit,st.2.extBut sb.extBut hne⟩ sb
 done:=λs Q E st hE=>zQ4 hh st.1 st.2 .(f) hE
def Ite(K:K1)(t:Addr):It:=
 ⟨λi H=>∃xs x,SqT K H t xs/\xs[i]?=some x,
  λi H v H'=>∃T x,H T=none/\v=.ref T/\(∀xs,SqT K H t xs->xs[i]?=some x)/\H'=upd H T (.tup [.int i,x]),
  λi H=>∃xs,SqT K H t xs/\.(21)=i⟩
theorem zb0{P:K1a}{w:World}{K:K1}{elts:List Expr}{kk:Nat}{pos:Pos}{e t:Addr}(d1:e≠it)(d2:t≠it)(d3:e≠t):
 Turn P w K (.Tuple elts kk pos) (Ite K t) [e,it] e (λi h=>(∃old,IsEnum h e it i old)/\h.IsTupleIter it t i) where
 mem:=by simp
 obj:=λi h st b hb=>by
  obtain⟨⟨old,ee⟩,o,ei,_,di⟩:=st;simp at hb;rcases hb with rfl|rfl
  ·exact⟨_,ee,λv q=>by cases q⟩
  ·exact⟨_,ei,λv q=>by rw[di]at q;cases q⟩
 keep:=λi h h' st k=>by
  obtain⟨⟨old,ee⟩,g⟩:=st;exact⟨⟨old,k e .(f) _ ee⟩,g.at λo q=>k it .(f) o q⟩
 item:=by
  intro X hP hw hK hc i pins s σ H E I hf st hg;subst hP hw hK;obtain⟨xs,x,q1,hx⟩:=hg;obtain⟨its,rv,pl,hz⟩:=I.tuple q1;obtain⟨u,hu,ru⟩:=rv.get hx;obtain⟨⟨old,ee⟩,g⟩:=st;have hi:i<its.toArray.size:=by
   have:=(K5.mp hu).1;simpa using this
  have pT:s.heap.IsTuple t its.toArray:=pl;refine K8c (zy5 (by simp[I.ok.hd hc]) it t d2 its.toArray) ee ⟨g,pT⟩ hi d1 (by simp[d1,d3]) λy h' tk hy eo st' gT sz kp=>?_;have ey:y=u:=by
   have:its.toArray[i]?=some u:=by simpa using hu
   rw[hy]at this;exact K11 this
  subst ey;refine⟨_,rfl,K72 eo λh2 eo2 sb=>?_⟩;have elt:e<s.heap.objs.size:=K0a ee;have ilt:it<s.heap.objs.size:=by obtain⟨o,q,_⟩:=g;exact K0a q
  have hT:IsTup0 h2 .(4) [K61 i tk,y].toArray:=⟨_,(sb.2 _ (K24 elt)).trans gT,⟨rfl,rfl⟩,_,rfl⟩;have J:=zO1 (t:=tk+1) (ch:=[e,it]) (T:=.(4)) (vs:=[.int i,x]) (its:=[.int i tk,y]) (h2:=h2) I hf
   (λb o hb q=>by simp at hb;exact(sb.2 b hb.1).trans (kp b o hb.1 hb.2 q)) (K05 _) hT (.cons ⟨tk,rfl⟩ (.cons ru .nil)) (by show 2<=sizeLine;decide)
  refine⟨.ref .(4),_,J,rfl,⟨_,x,I.hok.fresh (K05 _),rfl,λxs' h'=>by rw[I.tuple_inj h' q1];exact hx,rfl⟩,?_,λb hb=>?_⟩
  ·exact⟨⟨_,by simpa using eo2⟩,st'.1.at λo q=>(sb.2 _ (K3a d1)).trans q⟩
  ·have:b<s.heap.objs.size:=by
    simp at hb;rcases hb with rfl|rfl
    ·exact elt
    ·exact ilt
   rw[Y1 (K0o this)];exact(hf b hb).1
 done:=by
  intro X hP hw hK hc i pins s σ H E I hf st hg;subst hP hw hK;obtain⟨xs,q1,hl⟩:=hg;obtain⟨its,rv,pl,hz⟩:=I.tuple q1;obtain⟨⟨old,ee⟩,g⟩:=st;have l1:=rv.length;have pT:s.heap.IsTuple t its.toArray:=pl;have en:i=its.toArray.size:=by simp;omega
  refine K8q (zy5 (by simp[I.ok.hd hc]) it t d2 its.toArray) ee ⟨by rw[<- en];exact g,pT⟩ λh' eb=>⟨rfl,?_⟩;have hf':∀b∈[it],FpOk X pins H b:=λb hb=>hf b (by simp at hb;simp[hb]);refine I.step (g':=s.gens) (t':=s.toks) (d':=s.drawn) (ch:=[it]) (λb hb=>⟨(hf' b hb).2.2.2.1,(hf' b hb).2.1,(hf' b hb).2.2.2.2.1,(hf' b hb).2.2.2.2.2⟩) (λb o _ _ hc e _=>?_) (λb o _ _ hc e _=>⟨o.slots,?_⟩)
   (λ_ _ _ _ n=>n) (λb o hc e=>⟨o,?_⟩) (λ_ _ e=>e) (λ_ _ _ e=>e) (λb ps e=>⟨#[],by rw[e];simp⟩) (λm hm=>?_) (λb u e=>?_) I.bare
  ·simp at hc;exact eb b o hc e
  ·simp at hc;exact eb b o hc e
  ·simp at hc;exact eb b o hc e
  ·obtain⟨o,es,ep,q,r⟩:=hm;exact⟨o,es,ep,eb _ o (λy=>(hf' it .(f)).2.1 y.symm) q,r⟩
  ·refine(I.hok b u e).stay (λc v hc q=>?_) (λ_ q=>q) λ_ _ q=>q;refine eb c v (λy=>?_) q;subst y;rcases hc with y|y
   ·rw[<- y,(hf' c .(f)).1]at e;cases e
   ·rw[(hf' c .(f)).1]at y;cases y
 self:=λ_ _ _ _ _ st h=>by
  obtain⟨⟨old,ee⟩,g⟩:=st;exact K5z ee h
section
variable{pt:Pos}{ma:G->M D}
def zO7(K:K1)(ta:TA):TI:=λσ H R=>ta σ H λvs H2=>∃t xs,vs=[.ref t]/\SqT K H2 t xs/\R (Ite K t) H2
theorem zF3{ta:TA}(hg:Gl X "enumerate")(hm:X.mg "enumerate" = none)(ha:PA X [a] ta)(hs:K09 [a] X.env=[(false,eval a X.env)]:=by rfl):PI X (.Tuple elts kk pt) (.Call (.Name "enumerate" p) [a] [] pos) (zO7 X.K ta):=by
 intro pins s σ H R I h;refine Call_ (z5B I hg hm boot_enumerate (K3g (thn (ha pos pins s σ H _ I h) λus s1 ⟨vs,H1,I1,r1,q1⟩=>?_) (by rw[hs];rfl) rfl));obtain⟨t,xs,e,q2,q⟩:=q1;subst e;obtain⟨u,rfl,ru⟩:=vals1 r1;cases ru;obtain⟨its,rv,pl,hz⟩:=I1.tuple q2;have pT:s1.heap.IsTuple t its.toArray:=pl;have lt:t<s1.heap.objs.size:=by obtain⟨o,e,_⟩:=pl;exact K0a e
 refine Z1i K7u .(0) (K6e _) (K6n _) (λobj=>K4y obj _) K6o (zg8 t its.toArray) ⟨pT,?_⟩;have y1:(s1.heap.push { cls:=.type "tuple_iterator",data:=.fields #[.ref t,.int 0 0] }).objs.size=.(k)+1:=K1r ..;have x2:((s1.heap.push { cls:=.type "tuple_iterator",data:=.fields #[.ref t,.int 0 0] }).push { cls:=.type "enumerate",data:=.fields #[.none,.bool false,.ref .(k),rawInt 0,.none,.none] }).get? (.(k)+1)=some { cls:=.type "enumerate",data:=.fields #[.none,.bool false,.ref .(k),rawInt 0,.none,.none] }:=by rw[<- y1];exact K0b _ rfl
 have x1:((s1.heap.push { cls:=.type "tuple_iterator",data:=.fields #[.ref t,.int 0 0] }).push { cls:=.type "enumerate",data:=.fields #[.none,.bool false,.ref .(k),rawInt 0,.none,.none] }).get? .(k)=some { cls:=.type "tuple_iterator",data:=.fields #[.ref t,.int 0 0] }:=K8 _ (K0b _ rfl);show _/\_;rw[y1];refine⟨⟨_,x2,rfl⟩,K5z (e:=.(k)+1) (it:=.(k)) (i:=0) (old:=.none) x2 ?_⟩;refine⟨.(k)+1,_,_,_,H1,rfl,I1.kept (t':=s1.toks) (λc o q=>K8 _ (K8 _ q)),zb0 (it:=.(k)) (t:=t) (K24 (K50 _)) (K0o lt) (K24 (K2o lt)),⟨⟨_,x2⟩,⟨_,x1,rfl,rfl⟩⟩,λb hb=>?_,q⟩;have hb':.(k)<=b:=by
  simp at hb;rcases hb with rfl|rfl
  ·exact K68 _
  ·exact K05 _
 exact I1.fpOk hb' (I1.hok.fresh hb')
def z1C(xs:List D):List D:=(K7 xs.length).map λ(i:Nat)=>.tup [.int i,(xs[i]?).getD .non]
def z9z(ma:G->M D):G->M Src:=λγ=>do
 let l <- z8 ma aNil γ
 match l with
 | [.tup xs]=>pure (.con (z1C xs))
 | _=>bad
theorem z66{xs:List D}{d:D}(h:(z1C xs)[i]?=some d):∃x,xs[i]?=some x/\d=.tup [.int i,x]:=by
 unfold z1C at h;rw[K04]at h;obtain⟨j,e1,e2⟩:=K15.mp h;obtain⟨h1,h2⟩:=K5.mp e1;simp at h1 h2;subst h2;rw[K2 h1]at e2;exact⟨_,K2 h1,e2.symm⟩
theorem zd4(hc:X.calm=true)(hg:Gl X "enumerate")(hm:X.mg "enumerate" = none)(ha:SE X EX a ma)(hs:K09 [a] X.env=[(false,eval a X.env)]:=by rfl):SI X EX (.Tuple elts kk pt) (.Call (.Name "enumerate" p) [a] [] pos) (z9z ma):=
 ⟨PI.imp (zF3 hg hm (z6 ha Z1 hs).h hs) λσ H R ⟨ρ,γ,h,rel,fin⟩=>⟨ρ,γ,h,rel,(Fin.bind fin).mono λl ρ1 h1 H1 p1 e1 r1 f1 vs rv=>by
  split at f1
  ·rename_i xs;simp only[RDs,RD]at rv;obtain⟨_,_,rfl,⟨t,us,rfl,q1,d1⟩,rfl⟩:=rv;refine⟨t,us,rfl,q1,f1 ρ1 H1 .(b) .(d) r1 _ λi ρ2 h4 H2 p2 e2 r2 _=>⟨λd hd=>?_,λhi=>?_⟩⟩
   ·have hd':(z1C xs)[i]?=some d:=hd;obtain⟨x,g1,rfl⟩:=z66 hd';obtain⟨v1,a1,b1⟩:=(d1.mono p2 e2).get g1;refine⟨⟨us,v1,e2.t _ _ q1,a1⟩,λv H3 ⟨T,x',n1,n2,n3,n5⟩=>?_⟩;have m1:=n3 us (e2.t _ _ q1);rw[a1]at m1;cases m1;subst n2;subst n5;have ext:Ext X.K H2 (L2.upd H2 T (.tup [.int i,v1])):=Ext.upd (.inl n1);refine⟨?_,r2.other n1,ext⟩;simp only[RD];exact⟨T,_,rfl,SqT.of J4,RDs.cons .(C) (RDs.cons (b1.mono .(b) ext) RDs.nil)⟩
   ·have hi':(z1C xs).length=i:=hi;unfold z1C at hi';rw[K03,K1u]at hi';have l1:=d1.length;exact⟨us,e2.t _ _ q1,by omega⟩
  ·exact(show False from f1).elim⟩⟩
end
def z4T(src:Src)(g:D->G->M G)(mi:G->M Src)(g1:D->G->M G)(k:G->M Bool)(me:G->M D)(n0:Nat)(γ:G):List D->M Unit
 | []=>do
  let _ <- src.chk
  pure ()
 | d::r=>do
  let _ <- src.chk;let γ1 <- g d γ;let s1 <- mi γ1;let _ <- z52 s1 g1 k me n0 γ1 s1.items
  z4T src g mi g1 k me n0 γ r
def zi2(cap:List (Option Nat))(mi:G->M Src)(g:D->G->M G)(mi1:G->M Src)(g1:D->G->M G)(k:G->M Bool)(me:G->M D):G->M D:=λγ=>do
 let src <- mi γ;let n0 <- (λh=>.ok .(m) (h++[.lst []]):M Nat);let _ <- z4T src g mi1 g1 k me n0 (capG cap γ) src.items
 pure (.ref n0)
section
variable{elt tg1 iter1:Expr}{sc:Scope}{k:G->M Bool}
theorem zb4(hc:X.calm=true)(hi1:∀s H fp xe,SI .(9) EX tg1 iter1 mi1)(hg1:∀s H fp xe,SGk .(9) EX tg1 own1 g1)(ht:∀s H fp xe,SCs .(9) EX ifs1 k)
 (he:∀s H fp xe,SE .(9) EX elt me) (hown1:∀j∈own1,cap[j]?=some none/\j∉own) (hs1:∀env x,K14 iter1 env x=pure x) :
 CmA X EX .(Q) sc tg iter [] N' cap own mi g .(o) (.lst []) (λn0 γ1 K=>do let s1 <- mi1 γ1;let _ <- z52 s1 g1 k me n0 γ1 s1.items;K) (λsrc n0 γ=>z4T src g mi1 g1 k me n0 γ):=
 ⟨⟨_,_,_,_,λD=>bIn (tI X.K EX mi1) (tGk X.K EX own1 g1) (tT X.K EX k) (bApp (tE X.K EX me) D),zu1,λρ H Dd=>⟨[],J4,RDs.nil⟩,
  λD s H fp xe=>zy9 (.inl ⟨_,_,_,_,rfl⟩) rfl (λ_=>rfl) hc (hi1 s H fp xe).h (λxe'=>(hg1 s H fp xe').h) (λxe'=>(ht s H fp xe').h) (λxe'=>zh4 (he s H fp xe').h) (hs1 _),
  λnon hD=>zX1 (F1:=λs1 γ1=>z52 s1 g1 k me _ γ1) (λ_ _=>rfl) (λ_ _ _ _=>rfl) (λj hj=>⟨(hown1 j hj).2,non j (hown1 j hj).1⟩) λp=>zv7 (p _ _ hD)⟩,λ_ _ _=>rfl,λ_ _ _ _ _=>rfl⟩
end
end FT
namespace L2
theorem range_all{α:Type}(r:List α):(K7 r.length).filterMap (λm=>r[m]?)=r:=by
 have:=pick_run r.toArray 0 r.length;rw[K6w]at this;have e:((λx=>r.toArray[x]?) ∘ λx=>0+x)=λm=>r[m]?:=by funext m;simp
 rw[e]at this;rw[this];simp
end L2
namespace FT
theorem rds2{K:K1}{ρ:List Addr}{H:Hp}{d d':D}{vs:List V}(h:RDs K ρ H [d,d'] vs):∃v v',vs=[v,v']/\RD K ρ H d v/\RD K ρ H d' v':=by
 simp only[RDs]at h;obtain⟨x,r,rfl,h2,y,q,rfl,h3,rfl⟩:=h;exact⟨x,y,rfl,h2,h3⟩
def eNeg(ma:G->M D):G->M D:=λγ=>do
 let x <- ma γ
 match x with
 | .int i=>pure (.int (-i))
 | _=>bad
section
variable{X:Cx}{EX:XX}{a b st:Expr}{pos p p2:Pos}{ma ms:G->M D}{mr:G->M (List D)}
theorem zV2(ha:SE X EX a ma):SE X EX (.UnaryOp .USub a pos) (eNeg ma):=
 ⟨PE.imp (Z0m zP4 ha.h) λσ H Q ⟨ρ,γ,h,rel,fin⟩=>⟨ρ,γ,h,rel,(Fin.bind fin).mono λx ρ1 h1 H1 p1 e1 r1 f1 v rv=>by
  cases x<;>first|exact(show False from f1).elim|skip
  rename_i t;simp only[RD]at rv;exact⟨t,rv,FE.here (d:=.int (-t)) (h:=h1) (ρ:=ρ1) f1 r1 .(C)⟩⟩⟩
end
end FT
namespace L2
variable{base h h':Heap}{l outer:List Env}{e T b N C Ch:Addr}{cls:Value}{ts:Array Value}{A:Around}{E EE:Value->Shared->Prop}{s:Shared}{Q:Unit->Shared->Prop}{args bmH bm sub:List Value}{X:Cx}{pins:List (Addr×Obj)}{σ:St}{H:Hp}{g' g:Array K97}{t':Nat}{d':Drawn}{ch:List Addr}{P:K1a}{w:World}{K:K1}{mg:Str->Option Value}{os:OsState}{np hpos pos:Pos}{b₀:Stmt}{suite:List Stmt}{x:Str}{fd:K4x}{ps:List Str}{es:List Expr}{col:Option Bool}{dd:Option Addr}{sl':Array (Option Value)}
structure Fly(base:Heap)(l:List Env)(e T:Addr)(cls:Value)(h:Heap):Prop where
 stays:base.StaysIn h
 ne:base.get? e=none
 nT:base.get? T=none
 fr:h.FunFrames base l
 tr:∃a0 oe vs oT ts,h.get? e=some oe/\(oe.cls=cls/\vs[0]?=some a0)/\oe.data=.fields vs/\vs[1]?=.(r T)/\T≠e/\h.get? T=some oT/\oT.data=.fields ts/\ts[3]?=some .none
theorem Fly.of{a0:Value}(x:Heap.FlyingW base l e cls a0 h):∃T,Fly base l e T cls h:=by
 obtain⟨f1,f2,f3,oe,vs,T,oT,ts,a1,a2,a3,a4,a5,a6,a7,a8,a9⟩:=x;exact⟨T,f1,f2,a5,f3,a0,oe,vs,oT,ts,a1,a2,a3,a4,a6,a7,a8,a9⟩
def bigB(h:Heap)(l:List Env)(e T:Addr):Heap:=K4h h (frs l++[e,T])
theorem z6e{o:Obj}(q:h.get? b=some o)(h1:b∉frs l)(h2:b≠e)(h3:b≠T):(bigB h l e T).get? b=some o:=
 K6f _ q λz=>by
  rcases K1c.mp z with z|z
  ·exact h1 z
  ·simp at z;exact z.elim h2 h3
theorem zd2{o:Obj}(q:(bigB h l e T).get? b=some o):h.get? b=some o:=K6s _ q
theorem z55(z:b∈frs l\/b=e\/b=T):(bigB h l e T).get? b=none:=
 K69 _ (K1c.mpr (by
  rcases z with z|rfl|rfl
  ·exact .inl z
  ·exact .inr .(f)
  ·exact .inr .(f)))
theorem z6t{base h:Heap}{as:List Addr}:∀{l:List Env},h.FunFrames base l->(∀b∈frs l,b∈as)->h.FunFrames (K4h h as) l
 | [],_,_=>trivial
 | env::r,⟨hk,⟨L,o,hf,_,ho,hd⟩,hr⟩,hin=>⟨hk,⟨L,o,hf,K69 _ (hin L (by unfold frs;rw[K23,hf];exact K1e)),ho,hd⟩,
  z6t hr λb hb=>hin b (by unfold frs at hb ⊢;rw[K23];cases env.frame with|none=>exact hb|some x=>exact K13 _ hb)⟩
theorem Fly.big(x:Fly base l e T cls h):∃a0,Heap.FlyingW (bigB h l e T) l e cls a0 h:=by
 obtain⟨a0,oe,vs,oT,ts,a1,a2,a3,a4,a6,a7,a8,a9⟩:=x.tr;exact⟨a0,λb o q=>zd2 q,z55 (.inr (.inl rfl)),z6t x.fr λb hb=>K2j _ hb,oe,vs,T,oT,ts,a1,a2,a3,a4,z55 (.inr (.inr rfl)),a6,a7,a8,a9⟩
structure Kept(l:List Env)(e T:Addr)(h h':Heap):Prop where
 keep:∀b o,h.get? b=some o->b∉frs l->b≠e->b≠T->h'.get? b=some o
 slot:∀b o,h.get? b=some o->b∈frs l->∃sl,h'.get? b=some { o with slots:=sl }
theorem Fly.down{B:Heap}(x:Fly B l e T cls h)(k:base.StaysIn B):Fly base l e T cls h:=
 ⟨λb o q=>x.stays b o (k b o q),K8k k x.ne,K8k k x.nT,PySem.W.funFrames_base k x.fr,x.tr⟩
theorem Fly.base_in(x:Fly base l e T cls h):base.StaysIn (bigB h l e T):=λb o q=>
 z6e (x.stays b o q) (λz=>by rw[(x.fr.mem z).1]at q;cases q) (λz=>by rw[z,x.ne]at q;cases q) λz=>by rw[z,x.nT]at q;cases q
theorem zc9{oT:Obj}(fr:h.FunFrames base l)(ks:∀b o,h.get? b=some o->b∈frs l->∃sl,h'.get? b=some { o with slots:=sl })(hT:h'.get? T=some oT)(hd:oT.data=.fields ts):T∉frs l:=λz=>by
 obtain⟨_,o,ho,nf⟩:=fr.mem z;obtain⟨sl,q⟩:=ks T o ho z;rw[hT]at q;cases q;exact nf ts hd
section
variable{M:Model}{env:Env}{L:Addr}
theorem zf5(hfr:A.frames=some (env::outer))(hf:env.frame=some L)(x:Fly base (env::outer) e T cls s.heap)
 (hQ:∀h' T',Fly base (env::outer) e T' cls h'->(T'=T\/s.heap.get? T'=none)->Kept (env::outer) e T s.heap h'->Q () { s with heap:=h' }) :
 wpAny M A (Z1t (.ref e) env) (λ_ s₂=>wpAny M A (Z1q (.ref e) none) Q E s₂) E s:=by
 obtain⟨a0,big⟩:=x.big;refine wpAny_looks_onW hfr hf big λh1 held up1=>?_;refine wpAny_landsW held λh2 fly up2=>?_;obtain⟨T',F⟩:=Fly.of fly;have up:=up1.trans up2;have slot:∀b o,s.heap.get? b=some o->b∈frs (env::outer)->∃sl,h2.get? b=some { o with slots:=sl }:=λb o q z=>by
  obtain⟨_,o',ho',nf⟩:=x.fr.mem z;rw[q]at ho';cases ho';exact up b o q nf
 refine hQ h2 T' (F.down x.base_in) ?_ ⟨λb o q h1 h2 h3=>F.stays b o (z6e q h1 h2 h3),slot⟩;by_cases hT:T'=T
 ·exact .inl hT
 ·cases q:s.heap.get? T' with
  | none=>exact .inr rfl
  | some o=>
   obtain⟨_,oe,vs,oT,ts,a1,a2,a3,a4,a6,a7,a8,a9⟩:=F.tr;have nfr:=zc9 x.fr slot a7 a8;have:=z6e (l:=env::outer) (e:=e) (T:=T) q nfr a6 hT;rw[F.nT]at this;cases this
theorem land(x:Fly base (env::outer) e T cls s.heap)
 (hQ:∀h',Fly base (env::outer) e T cls h'->Kept (env::outer) e T s.heap h'->Q () { s with heap:=h' }):wpAny M A (Z1q (.ref e) none) Q E s:=by
 obtain⟨a0,oe,vs,oT,ts,a1,a2,a3,a4,a6,a7,a8,a9⟩:=x.tr;have big:(bigB s.heap (env::outer) e T).StaysIn s.heap:=λb o q=>zd2 q;have hfun:s.heap.FunFrames (bigB s.heap (env::outer) e T) (env::outer):=z6t x.fr λb hb=>K2j _ hb;have tr:s.heap.TracedAtW (bigB s.heap (env::outer) e T) e cls a0 .none:=⟨oe,vs,T,oT,ts,a1,a2,a3,a4,z55 (.inr (.inr rfl)),a6,a7,a8,a9⟩;unfold Z1q;refine K0 (K4v a1 a3 a4 ?_);rw[if_pos (show (K1f T != K2h)=true from by simp)];refine K2q a7 a8 (K27.mp a9).1 ?_;have other:∀b,b≠T->(s.heap.update T (K7q (·.setIfInBounds 3 ((none:Option Addr).elim K2h λf=>rawInt f)))).get? b=s.heap.get? b:=λb hb=>K2p _ _ (K3a hb);have frT:T∉frs (env::outer):=λz=>by
  obtain⟨_,o,ho,nf⟩:=x.fr.mem z;rw[a7]at ho;cases ho;exact nf ts a8
 refine hQ _ ⟨λb o q=>(other b λz=>by rw[z,x.nT]at q;cases q).trans (x.stays b o q),x.ne,x.nT,x.fr.of_keeps λb o q nf=>⟨o,(other b λz=>by rw[z,a7]at q;cases q;exact nf ts a8).trans q,rfl⟩,?_⟩ ⟨λb o q _ _ h3=>(other b h3).trans q,λb o q z=>⟨o.slots,(other b λy=>frT (y ▸ z)).trans q⟩⟩;exact⟨a0,oe,vs,_,_,(other e (K3a a6)).trans a1,a2,a3,a4,a6,K2y _ a7 (K4s (K3o a8 _)),K3o a8 _,by simp[(K27.mp a9).1]⟩
theorem z9n(hfr:A.frames=some (env::outer))(hf:env.frame=some L)(st:base.StaysIn h)(hl:h.FunFrames base (env::outer))(hx:K96 h s.heap e cls args)
 (hQ:∀h' T',Fly base outer e T' cls h'->h.get? T'=none->(∀b o,h.get? b=some o->b∉frs (env::outer)->h'.get? b=some o)->(∀b o,h.get? b=some o->b∈frs (env::outer)->∃sl,h'.get? b=some { o with slots:=sl })->Q () { s with heap:=h' }) :
 wpAny M A (leaving env (.ref e)) Q E s:=by
 have bg:∀b o,h.get? b=some o->b∉frs (env::outer)->(K4h h (frs (env::outer))).get? b=some o:=λb o q z=>K6f _ q z;refine wpAny_leaves_madeW (base:=K4h h (frs (env::outer))) hfr hf (λb o q=>K6s _ q) (z6t hl λb hb=>hb) hx λh' t fly _ _ up=>?_;obtain⟨T',F⟩:=Fly.of fly;have sb:base.StaysIn (K4h h (frs (env::outer))):=λb o q=>bg b o (st b o q) λz=>by rw[(hl.mem z).1]at q;cases q
 have slot:∀b o,h.get? b=some o->b∈frs (env::outer)->∃sl,h'.get? b=some { o with slots:=sl }:=λb o q z=>by
  obtain⟨_,o',ho',nf⟩:=hl.mem z;rw[q]at ho';cases ho';exact up b o (hx.keeps b o q) nf
 refine hQ h' T' (F.down sb) ?_ (λb o q z=>F.stays b o (bg b o q z)) slot;cases q:h.get? T' with
 | none=>rfl
 | some o=>
  obtain⟨_,oe,vs,oT,ts,a1,a2,a3,a4,a6,a7,a8,a9⟩:=F.tr;have:=bg T' o q (zc9 hl slot a7 a8);rw[F.nT]at this;cases this
end
section
variable{σ:List (Option V)}{H':Hp}
theorem Inv.stepN{g':Array K97}{t':Nat}{d':Drawn}{ch:List Addr}(I:Inv X pins σ H s)
 (hch:∀b∈ch,(b∈X.ex\/X.s₀.heap.get? b=none)/\b≠X.env.locals/\.(t)/\∀p∈X.pn++pins,p.1≠b)
 (keep:∀b o,b≠X.env.locals->b∉X.fs->b∉ch->s.heap.get? b=some o->H b=none->h'.get? b=some o)
 (slot:∀b o,b≠X.env.locals->b∈X.fs->b∉ch->s.heap.get? b=some o->H b=none->∃sl,h'.get? b=some { o with slots:=sl }) (free:∀b o,b∉ch->s.heap.get? b=some o->H b=none->H' b=none)
 (there:∀b o,b∉ch->s.heap.get? b=some o->∃o',h'.get? b=some o')
 (tups:∀b xs,H b=.(g xs)->H' b=.(g xs)) (frzs:∀b o u,H b=some (.frz o u)->H' b=some (.frz o u)) (tbls:∀b ps,H b=some (.tbl ps)->∃more,H' b=some (.tbl (ps++more)))
 (ns:∀m,s.heap.Ns X.env.locals m->h'.Ns X.env.locals m) (hok:HOk X.prog X.w H' h') (hg:K5v g') :
 Inv X pins σ H' { s with heap:=h',gens:=g',drawn:=d',toks:=t' }:=by
 have neL:∀b o,X.s₀.heap.get? b=some o->b≠X.env.locals:=λb o e=>K0o (K0j (K0a e) I.ok.above);have neC:∀b o,X.s₀.heap.get? b=some o->b∉X.ex->b∉ch:=λb o e hx hb=>by
  rcases(hch b hb).1 with z|z
  ·exact hx z
  ·rw[e]at z;cases z
 have cellK:∀x c,X.env.cells.lookup x=some c->∀v,s.heap.IsCell c v->h'.IsCell c v:=λx c e v ⟨o,ho,hd⟩=>by
  have nch:c∉ch:=λz=>(hch c z).2.2.1 x c e rfl;by_cases hc:c∈X.fs
  ·obtain⟨sl,q⟩:=slot c o (I.cne x c e) hc nch ho (I.freeC x c e);exact⟨_,q,hd⟩
  ·exact⟨o,keep c o (I.cne x c e) hc nch ho (I.freeC x c e),hd⟩
 refine⟨I.ok,I.os,hg,⟨λb o e n hb hx=>?_,λb o e n hb hx=>?_,λb o e n hx=>?_,λb o e hx=>?_,λb xs e=>tups b xs (I.base.tups b xs e),λb o xs e=>frzs b o xs (I.base.frzs b o xs e),λb ps e=>?_⟩,?_,λx c e=>?_,?_,λx c e=>?_,λp hp=>?_,hok,I.len⟩
 ·exact keep b o (neL b o e) hb (neC b o e hx) (I.base.keep b o e n hb hx) (I.base.free b o e n hx)
 ·obtain⟨sl,e1⟩:=I.base.slot b o e n hb hx;obtain⟨sl',e2⟩:=slot b _ (neL b o e) hb (neC b o e hx) e1 (I.base.free b o e n hx);exact⟨sl',e2⟩
 ·obtain⟨o',e1⟩:=I.base.there b o e hx;exact free b o' (neC b o e hx) e1 (I.base.free b o e n hx)
 ·obtain⟨o',e1⟩:=I.base.there b o e hx;exact there b o' (neC b o e hx) e1
 ·obtain⟨m1,e1⟩:=I.base.tbls b ps e;obtain⟨m2,e2⟩:=tbls b _ e1;exact⟨m1++m2,by rw[e2,K9u]⟩
 ·obtain⟨m,hn,hl⟩:=I.loc;refine⟨m,ns m hn,λi x v e1 e2 e3=>?_⟩;obtain⟨u,r,l⟩:=hl i x v e1 e2 e3;refine⟨u,r,?_⟩;rcases l with l|⟨k,c,e,z⟩
  ·exact .inl l
  ·exact .inr ⟨k,c,e,cellK x c e _ z⟩
 ·obtain⟨v,z⟩:=I.cell x c e;exact⟨v,cellK x c e v z⟩
 ·obtain⟨m,⟨o,_,_,ho,_⟩,_⟩:=I.loc;exact free _ o (λz=>(hch _ z).2.1 rfl) ho I.free
 ·obtain⟨v,o,ho,hd⟩:=I.cell x c e;exact free c o (λz=>(hch c z).2.2.1 x c e rfl) ho (I.freeC x c e)
 ·obtain⟨e,n,ne,nf,d⟩:=I.pin p hp;have nch:p.1∉ch:=λz=>(hch p.1 z).2.2.2 p hp rfl;exact⟨keep p.1 p.2 ne nf nch e n,free p.1 p.2 nch e n,ne,nf,d⟩
theorem Inv.callN{t':Nat}{d':Drawn}(I:Inv X pins σ H s)(u:Un (frs X.stack) ch H H' s.heap h')(hok:HOk X.prog X.w H' h')(hg:K5v g')
 (hch:∀b∈ch,(b∈X.ex\/X.s₀.heap.get? b=none)/\b≠X.env.locals/\.(t)/\∀p∈X.pn++pins,p.1≠b) :
 Inv X pins σ H' { s with heap:=h',gens:=g',drawn:=d',toks:=t' }:=by
 obtain⟨m,⟨o,es,ep,ho,r⟩,_⟩:=id I.loc;obtain⟨sl,hL⟩:=u.any ho I.free λz=>(hch _ z).2.1 rfl;exact I.stepN (ch:=ch) hch (λb o hL hb hc e n=>u.keep b o e n (λz=>(K0y.mp (I.stkSub b z)).elim hL hb) hc) (λb o _ _ hc e n=>u.any e n hc) (λb o hc e n=>u.free b o e n hc) (λb o hc e=>u.there b o e hc) u.tups u.frzs u.tbls (λm' hm=>by
  obtain⟨o',es',ep',ho',r'⟩:=hm;rw[ho]at ho';cases ho';exact⟨_,es',ep',hL,r'⟩) hok hg
theorem ObjOk.there{a:Addr}{o:HO}(x:ObjOk P w H h a o):∃u,h.get? a=some u:=by
 cases o with
 | lst xs=>obtain⟨_,_,_,_,e⟩:=x;exact⟨_,e⟩
 | tup xs=>obtain⟨_,_,_,u,e,_⟩:=x;exact⟨_,e⟩
 | dK kvs=>obtain⟨_,_,_,_,u,_,_,e,_⟩:=x;exact⟨_,e⟩
 | dT kvs=>obtain⟨_,_,_,_,u,_,_,e,_⟩:=x;exact⟨_,e⟩
 | set ks=>obtain⟨u,_,_,_,_,e,_⟩:=x;exact⟨_,e⟩
 | ins C dx fs=>obtain⟨_,_,_,e,_⟩:=x;exact⟨_,e⟩
 | own y=>obtain⟨_,e⟩:=x;exact⟨_,e⟩
 | xd fs=>obtain⟨_,⟨_,_,_,e,_⟩,_⟩:=x;exact⟨_,e⟩
 | rng lo hi=>obtain⟨_,_,_,e⟩:=x;exact⟨_,e⟩
 | frz ob u=>obtain⟨e,_⟩:=x;exact⟨_,e⟩
 | tbl ps=>exact⟨_,(show h.get? a=some _ from x)⟩
 | met f y=>exact⟨_,(show h.get? a=some _ from x)⟩
 | ext φ=>obtain⟨_,⟨_,e⟩,_⟩:=x;exact⟨_,e⟩
theorem HOk.none{P:K1a}{w:World}{h:Heap}{a:Addr}(x:HOk P w H h)(e:h.get? a=.none):H a=.none:=by
 cases q:H a with
 | none=>rfl
 | some u=>obtain⟨o,z⟩:=(x a u q).there;rw[e]at z;cases z
theorem HOk.trk(x:HOk P w H h)(k:∀b u o,H b=some u->h.get? b=some o->h'.get? b=some o):HOk P w H h':=λa o e=>
 (x a o e).stay (λb u hb q=>by
  rcases hb with rfl|hb
  ·exact k _ _ _ e q
  ·exact k _ _ _ hb q) (λ_ q=>q) λ_ _ q=>q
end
def CXE(P:K1a)(w:World)(base:Heap):CXT:=λouter H s E e s'=>∃a T C H',e=.ref a/\Fly base outer a T (.ref C) s'.heap/\s.heap.get? a=none/\s.heap.get? T=none/\H' a=none/\H' T=none/\s'.os=s.os/\K5v s'.gens /\
 Un (frs outer) [] H H' s.heap s'.heap/\HOk P w H' s'.heap/\E (.ref C) none H'
theorem z6N{P:K1a}{w:World}{K:K1}{mg:Str->Option Value}{base:Heap}{N:List Str}{qual:Str}{scope:Scope}{f:Addr}{cd:Value}{A:Around}{outer:List Env}{s s2:Shared}{H H':Hp}{E:XK}{pins:List .(A)}{σ:St}{h3:Heap}{e C:Addr}{args:List Value}
 (I:Inv (cxOf (CXE P w base) P w K mg base N qual scope f cd A outer s H E) pins σ H' s2) (hx:K96 s2.heap h3 e (.ref C) args) (hE:E (.ref C) none H') :
 (cxOf (CXE P w base) P w K mg base N qual scope f cd A outer s H E).xe (.ref e) { s2 with heap:=h3 }:=by
 show wpAny (model P w) (A.deeper (envOfC qual scope .(4) f cd)) (leaving (envOfC qual scope .(4) f cd) (.ref e)) _ _ { s2 with heap:=h3 };have nm:∀b:Addr,b∉([]:List Addr):=λb z=>nomatch z;have frf:=I.stkFree;refine z9n (L:=.(4)) (h:=s2.heap) (args:=args) (cls:=.ref C) I.ok.frames rfl (λb o q=>I.bk b o q) I.stack hx λh' T' F hT keep slot=>?_;have old:∀b,s2.heap.get? b=none->s.heap.get? b=none:=λb q=>by
  cases z:s.heap.get? b with
  | none=>rfl
  | some o=>obtain⟨o',y⟩:=I.base.there b o z (nm b);rw[q]at y;cases y
 have sub:∀b∈frs outer,b∈frs (envOfC qual scope .(4) f cd::outer):=λb hb=>by
  unfold frs at hb ⊢;rw[K23];cases (envOfC qual scope .(4) f cd).frame with
  | none=>exact hb
  | some x=>exact K13 _ hb
 have cs:∀b∈frs (envOfC qual scope .(4) f cd::outer),b=.(4)\/b∈frs outer:=λb hb=>by
  unfold frs at hb;rw[K23,show (envOfC qual scope .(4) f cd).frame=some .(4) from rfl]at hb;exact K0y.mp hb
 have nL:∀b o,s.heap.get? b=some o->b≠s.heap.objs.size:=λb o q=>K0o (K0a q);refine⟨e,T',C,H',rfl,F,old e hx.new,old T' hT,I.hok.none hx.new,I.hok.none hT,I.os,I.bare,⟨λb o q n hb _=>?_,λb o q n hb _=>?_,λb o q n _=>I.base.free b o q n (nm b),λb o q _=>?_,I.base.tups,I.base.frzs,I.base.tbls⟩,I.hok.trk λb u o q z=>?_,hE⟩
 ·exact keep b o (I.base.keep b o q n hb (nm b)) λz=>(cs b z).elim (nL b o q) hb
 ·obtain⟨sl,y⟩:=I.base.slot b o q n hb (nm b);obtain⟨sl',y'⟩:=slot b _ y (sub b hb);exact⟨sl',y'⟩
 ·obtain⟨o',y⟩:=I.base.there b o q (nm b);by_cases z:b∈frs (envOfC qual scope .(4) f cd::outer)
  ·obtain⟨sl',y'⟩:=slot b _ y z;exact⟨_,y'⟩
  ·exact⟨_,keep b _ y z⟩
 ·exact keep b o z λy=>by rw[frf b y]at q;cases q
section
variable{M:Model}{d:Drawn}{t:Nat}{oe:Obj}{b:Bool}{Q:Bool->Shared->Prop}
 {nm q:Str} {N:Addr} {bs bm:List Value} {hdct:Bool} {sn:List Str} {sub:List Value} {ab:Bool} {col:Option Bool} {dd:Option Addr} {k0 k1 k2 k3 k5:Option Value} {newId:String}
 {nm' q':Str} {N':Addr} {bs' bm':List Value} {hdct':Bool} {sn':List Str} {sub':List Value} {ab':Bool} {col':Option Bool} {dd':Option Addr} {k0' k1' k2' k3' k5':Option Value} {newId':String}
theorem za1(hC:h.get? C=some (K7k nm q C N bs bm hdct sn sub ab col dd k0 k1 k2 k3 k5 newId))(hH:h.get? Ch=some (K7k nm' q' Ch N' bs' bm' hdct' sn' sub' ab' col' dd' k0' k1' k2' k3' k5' newId'))
 (he:h.get? e=some oe) (hcls:oe.cls=.ref C) (hbase:bm'.contains (.type "BaseException")=true) (hin:(K1f C::bm).contains (.ref Ch)=b) (hq:Q b ⟨h,g,d,t,os⟩):wpAny M A (excMatches (.ref e) (.ref Ch)) Q E ⟨h,g,d,t,os⟩:=by
 have hB:(K1f Ch::bm').contains (.type "BaseException")=true:=by rw[List.contains_cons,hbase,Bool.or_true]
 have f:=tc_notTuple;unfold excMatches
 repeat (first|(with_reducible refine K7l he ?_;rw[hcls])|with_reducible refine K7l hH ?_|with_reducible refine K7l hC ?_|(with_reducible refine K9h hC ?_;rw[hin])|(with_reducible refine K9h hH ?_;rw[hB])|wp_step)
 cases b with
 | true=>wp_walk;exact hq
 | false=>wp_walk;exact hq
end
def Cx.inside(X:Cx)(e:Value):Cx:={ X with A:=X.A.mark (some e),calm:=false,xe:=λ_ _=>False }
section
variable{e:Value}
theorem Inv.inside(I:Inv X pins σ H s)(e:Value):Inv (X.inside e) pins σ H s:=
 ⟨⟨I.ok.mod,I.ok.kind,I.ok.glob,I.ok.blt,I.ok.above,I.ok.inj,I.ok.has,I.ok.cab,(λz=>nomatch z),I.ok.frames,I.ok.stk,I.ok.exf,I.ok.bs,I.ok.bsz,I.ok.noex,I.ok.exfs,I.ok.funs,I.ok.frf⟩,I.os,I.bare,I.base,I.loc,I.cell,I.free,I.freeC,I.pin,I.hok,I.len⟩
theorem Inv.outside(I0:X.Ok)(I:Inv (X.inside e) pins σ H s):Inv X pins σ H s:=⟨I0,I.os,I.bare,I.base,I.loc,I.cell,I.free,I.freeC,I.pin,I.hok,I.len⟩
theorem SP.outside{D:Ends}{f:Flow}{s':Shared}(I0:X.Ok)(h:SP (X.inside e) pins D f s'):SP X pins D f s':=by
 cases f with
 | next=>obtain⟨σ',H',I,q⟩:=h;exact⟨σ',H',I.outside I0,q⟩
 | brk=>obtain⟨σ',H',I,q⟩:=h;exact⟨σ',H',I.outside I0,q⟩
 | cont=>obtain⟨σ',H',I,q⟩:=h;exact⟨σ',H',I.outside I0,q⟩
 | ret u=>obtain⟨v,σ',H',I,r,q⟩:=h;exact⟨v,σ',H',I.outside I0,r,q⟩
theorem Inv.noted{a:Addr}(I:Inv X pins σ H s)(hl:X.stack=l)(ha:H a=none)(hT:H T=none)(na:∀b,b=a\/b=T->(b∈X.ex\/X.s₀.heap.get? b=none)/\b≠X.env.locals/\.(t)/\∀p∈X.pn++pins,p.1≠b)(K:Kept l a T s.heap h'):Inv X pins σ H { s with heap:=h' }:=by
 subst hl;have mm:∀b:Addr,b∈[a,T]->b=a\/b=T:=λb z=>by simpa using z
 refine I.callN (g':=s.gens) (t':=s.toks) (d':=s.drawn) (ch:=[a,T]) ⟨λb o q n hb hx=>K.keep b o q hb (λz=>hx (by simp[z])) λz=>hx (by simp[z]),λb o q n hb hx=>K.slot b o q hb,λb o q n hx=>n,λb o q hx=>?_,λ_ _ q=>q,λ_ _ _ q=>q,λ_ ps q=>⟨#[],by rw[q];simp⟩⟩ (I.hok.trk λb u o q z=>?_) I.bare λb hb=>na b (mm b hb)
 ·by_cases z:b∈frs X.stack
  ·obtain⟨sl,y⟩:=K.slot b o q z;exact⟨_,y⟩
  ·exact⟨o,K.keep b o q z (λy=>hx (by simp[y])) λy=>hx (by simp[y])⟩
 ·exact K.keep b o z (λy=>by rw[I.stkFree b y]at q;cases q) (λy=>by rw[y,ha]at q;cases q) λy=>by rw[y,hT]at q;cases q
theorem zE1(I:Inv X pins σ H s)(q:s.heap.get? b=none):(b∈X.ex\/X.s₀.heap.get? b=none)/\b≠X.env.locals/\.(t)/\∀p∈X.pn++pins,p.1≠b:=by
 refine⟨?_,λz=>?_,λx c e z=>?_,λp hp z=>?_⟩
 ·by_cases hx:b∈X.ex
  ·exact .inl hx
  ·refine .inr ?_;cases y:X.s₀.heap.get? b with
   | none=>rfl
   | some o=>obtain⟨o',w⟩:=I.base.there b o y hx;rw[q]at w;cases w
 ·obtain⟨m,⟨o,_,_,ho,_⟩,_⟩:=I.loc;rw[<- z,q]at ho;cases ho
 ·obtain⟨v,o,ho,_⟩:=I.cell x c e;rw[z,q]at ho;cases ho
 ·have:=(I.pin p hp).1;rw[z,q]at this;cases this
end
structure Clss(K:K1)(C:Addr)(bm:List Value):Prop where
 ex:∃nm q N bs hdct sn sub ab col dd k0 k1 k2 k3 k5 newId,K.lookup C=some (K7k nm q C N bs bm hdct sn sub ab col dd k0 k1 k2 k3 k5 newId)
section
variable{H1:Hp}{s1 s':Shared}{e:Value}{E:XK}{cn n:Str}{D:Ends}{ts:TS}
theorem back{u:Value}(I1:Inv X pins σ H1 s1)(c:CXE X.prog X.w X.base X.stack H1 s1 E u s'):∃a T C H',u=.ref a/\Fly X.base X.stack a T (.ref C) s'.heap/\s1.heap.get? a=none/\s1.heap.get? T=none/\H' a=none/\H' T=none/\Inv X pins σ H' s'/\E (.ref C) none H':=by
 obtain⟨a,T,C,H',rfl,F,n1,n2,u1,u2,os,bare,un,hok,hE⟩:=c;obtain⟨hh,g,d,t,os'⟩:=s';obtain rfl:os'=s1.os:=os;exact⟨a,T,C,H',rfl,F,n1,n2,u1,u2,I1.call (h':=hh) (g':=g) (d':=d) (t':=t) (ch:=[]) un hok bare (λb z=>absurd z .(f)),hE⟩
theorem zN5(hst:X.stack=X.env::X.outer)(hf:X.env.frame=some X.env.locals)(hg:Gl X cn)(hm:X.mg cn=.(r Ch))(HC:Clss X.K Ch bmH)(hbase:bmH.contains (.type "BaseException")=true)(hsu:∀e,PSs (X.inside e) (b₀::suite) ts)
 (I1:Inv X pins σ H1 s1) (c:CXE X.prog X.w X.base X.stack H1 s1 E e s')
 (hE:∀C H',E (.ref C) none H'->(∃bm,Clss X.K C bm/\(K1f C::bm).contains (.ref Ch)=true)/\ts D σ H') (hd:(cn==("__debug__":Str))=false:=by decide) :
 wpAny .(8) X.A (Z1t e X.env) (λ_ s₂=>wpAny .(8) X.A (Z1q e none) (λ_ s₃=>wpAny .(8) X.A (handleBy e X.env [.ExceptHandler (some (.Name cn np)) none (b₀::suite) hpos]) (SP X pins D) EE s₃) EE s₂) EE s':=by
 obtain⟨a,T,C,H',rfl,F,n1,n2,u1,u2,I2,hq⟩:=back I1 c;obtain⟨⟨bm,CC,hin⟩,run⟩:=hE C H' hq;rw[hst]at F;have I2h:=I2.hok;have nT2:∀b,b=a\/b=T->(b∈X.ex\/X.s₀.heap.get? b=none)/\b≠X.env.locals/\.(t)/\∀p∈X.pn++pins,p.1≠b:=λb hb=>by
  rcases hb with rfl|rfl
  ·exact zE1 I1 n1
  ·exact zE1 I1 n2
 refine zf5 (by rw[I2.ok.frames,hst]) hf F λh3 T3 F3 hT3 K3=>?_;have I3:=I2.noted hst u1 u2 nT2 K3;have nT3:H' T3=none/\∀b,b=a\/b=T3->(b∈X.ex\/X.s₀.heap.get? b=none)/\b≠X.env.locals/\.(t)/\∀p∈X.pn++pins,p.1≠b:=by
  rcases hT3 with rfl|z
  ·exact⟨u2,nT2⟩
  ·refine⟨I2h.none z,λb hb=>?_⟩;rcases hb with rfl|rfl
   ·exact nT2 _ (.inl rfl)
   ·exact zE1 I2 z
 refine wpAny_handleBy_cons (codeAny_handlers_test (z5W (X:=X.inside (.ref a)) (I3.inside _) hg hm ?_ hd)) (by intro q;cases q);obtain⟨nm,q,N,bs,hdct,sn,sub,ab,col,dd,k0,k1,k2,k3,k5,newId,lkC⟩:=CC.ex;obtain⟨nm',q',N',bs',hdct',sn',sub',ab',col',dd',k0',k1',k2',k3',k5',newId',lkH⟩:=HC.ex;obtain⟨a0,oe,vs,oT,ts',a1,a2,_⟩:=F3.tr;refine za1 (I3.kIn _ _ lkC) (I3.kIn _ _ lkH) a1 a2.1 hbase hin ?_;refine codeAny_handlers_suite (land (base:=X.base) (env:=X.env) (outer:=X.outer) F3 λh4 F4 K4=>?_);have I4:=I3.noted hst u1 nT3.1 nT3.2 K4;exact K2i (hsu (.ref a) pins _ σ H' D (I4.inside _) run) (λf s5 q5=>q5.outside I4.ok) λ_ _ z=>K28 z
end
def z8F:List Str:=["__getattribute__","__getattr__","__class__"]
inductive Tail3(h:Heap)(bmB:List Value):List Value->Prop
 | base:Tail3 h bmB bmB
 | own {A:Addr} {c0:Value} {dd:Option Addr} {cd:ClassData} {sl:Array (Option Value)} {mA:Str->Option Value} {tl:List Value}:h.get? A=some { cls:=c0,dict:=dd,data:=.cls cd,slots:=sl }->h.Ns cd.ns mA->(∀n∈z8F,mA n=none)->Tail3 h bmB tl->Tail3 h bmB (.ref A::tl)
section
variable{M:Model}{d:Drawn}{t:Nat}
structure Ex3(h:Heap)(C:Addr)(B:String)(bmB:List Value):Prop where
 ex:∃nm q N bs bm hdct sn sub ab col dd k0 k1 k2 k3 k5 newId mN,h.get? C=some (K7k nm q C N bs bm hdct sn sub ab col dd k0 k1 k2 k3 k5 newId)/\h.Ns N mN/\(∀n∈z8F,mN n=none)/\Tail3 h bmB bm
end
abbrev bmV:List Value:=[.type "ValueError",.type "Exception",.type "BaseException",.type "object"]
section
variable{B newId initId:String}{e₀:Expr}{rest:List Expr}{t:TA}{cpos:Pos}{R:Hp->Prop}
theorem zn1(O':∀h,X.K.In h->OwnCls x C bm newId X.mg h)(FB:ExcBaseFacts B newId initId bm)(hc:X.calm=true)(hg:Gl X x)(ha:PA X (e₀::rest) t)
 (hX:∀pins σ H s h' e vs,Inv X pins σ H s->K96 s.heap h' e (.ref C) vs->R H->X.xe (.ref e) { s with heap:=h' })
 (he:K09 (e₀::rest) X.env=(false,eval e₀ X.env)::K09 rest X.env:=by rfl) (hpl:(backTo cpos (K09 rest X.env)).any (·.1)=false:=by rfl) (hd:.(16)=false:=by decide) :
 PS X (.Raise (some (.Call (.Name x np) (e₀::rest) [] cpos)) none pos) (λ_ σ H=>t σ H λvs H1=>vs.length<=sizeLine/\R H1):=by
 intro pins s σ H D I h;have O:=O' X.base I.mod.kin;obtain⟨tl,N,nm,q,bs,hdct,sn,sub,ab,col,dd,k0,k1,k2,k3,k5,mN,hC,hN,hni,T⟩:=O.obj;refine wpAny_Raise_call_subT (C:=C) (nm:=nm) (q:=q) (N:=N) (bs:=bs) (bm:=tl) (hdct:=hdct) (sn:=sn) (sub:=sub) (ab:=ab) (col:=col) (dd:=dd) (k0:=k0) (k1:=k1) (k2:=k2) (k3:=k3) (k5:=k5)
  FB (mN:=mN) (T.hasType FB.hasBase) (I.ok.hd hc) (by rw[he];show (false||(backTo cpos (K09 rest X.env)).any (·.1))=false;rw[hpl];rfl) hni (z5W I hg O.bound ⟨rfl,?_⟩ hd)
 have ha':=ha cpos pins s σ H _ I h;rw[he]at ha' ⊢;exact K6b (K2i ha' (λus s2 ⟨vs,H2,I2,r2,q2⟩=>⟨rfl,by rw[<- r2.length];exact q2.1,I2.bk _ _ hC,hN.keeps I2.bk,T.keeps I2.bk,λh' e hm=>hX pins σ H2 s2 h' e us I2 hm q2.2⟩) λ_ _ y=>y)
end
section
variable{CX:CXT}{k:Nat}{f:Addr}{sp:Sp}{E:XK}{p:Pos}{e:Expr}{t:TA}{Q:VK}
theorem PA.quiet(h:PA X.nox (e::es) t)(pos:Pos)(I:Inv X pins σ H s){Q:List V->Hp->Prop}(q:t σ H Q):wpAny .(8) X.A (Z26 (backTo pos (K09 (e::es) X.env))) (AP X pins σ Q) EE s:=
 K2i (h pos pins s σ H Q (I.wish _) q) (λ_ _ ⟨vs,H',I',r,q⟩=>⟨vs,H',I'.unwish,r,q⟩) λ_ _ z=>K28 z
theorem zM9(F:FnOk X.prog X.w X.K X.mg X.base CX k f fd ps sp)(hr:Room k X.A)(hg:Gl X x)(hm:X.mg x=.(r f))(hk:K3n X.K (.ref f)=true)(hb:Binds X.K fd ps [])
 (ha:PA X.nox (e::es) t) (I:Inv X pins σ H s) (h:t σ H λvs H1=>sp vs H1 Q E) (hx:∀H1 s1 u s',Inv X pins σ H1 s1->CX X.stack H1 s1 E u s'->EE u s')
 (hdb:.(16)=false:=by decide) (he:K09 (e::es) X.env=(false,eval e X.env)::K09 es X.env:=by rfl) (hpl:(backTo pos (K09 es X.env)).any (·.1)=false:=by rfl) :
 wpAny .(8) X.A (eval (.Call (.Name x p) (e::es) [] pos) X.env) (EP X pins σ Q) EE s:=by
 refine K5g (z5W I hg hm ?_ hdb);refine K9s (h₀:=X.base) I.ok.mod.kin hk (thn (PA.quiet ha pos I h) λus s1 ⟨vs,H1,I1,r,q⟩=>⟨I1.kIn,?_⟩) he hpl;have hl:(us++[]).length=ps.length:=by rw[K1d,<- r.length];exact F.len _ _ _ _ q
 refine wpAny_call (K42 (F.run X.A X.stack s1 H1 ⟨us,[]⟩ us vs Q E hr I1.env0 (by have:=hb s1 us I1.kIn hl;rwa [K1d]at this) r q) λr s' hq=>?_);cases r with
 | error u=>exact hx H1 s1 u s' I1 hq
 | ok fl=>
  cases fl with
  | ret u=>exact I1.after hq
  | next=>exact K28 hq
  | brk=>exact K28 hq
  | cont=>exact K28 hq
end
section
variable{k:Nat}{f:Addr}{sp:Sp}{cn y:Str}{i:Nat}{p pos1 pos2 py:Pos}{e:Expr}{t:TA}{ts:TS}
def zR2(K:K1)(Ch:Addr)(R:Hp->Prop):XK:=λu _ H'=>∃C,u=.ref C/\(∃bm,Clss K C bm/\(K1f C::bm).contains (.ref Ch)=true)/\R H'
theorem zI8(F:FnOk X.prog X.w X.K X.mg X.base (CXE X.prog X.w X.base) k f fd ps sp)(hr:Room k X.A)(hgx:Gl X x)(hmx:X.mg x=.(r f))(hk:K3n X.K (.ref f)=true)(hb:Binds X.K fd ps [])
 (ha:PA X.nox (e::es) t) (hst:X.stack=X.env::X.outer) (hf:X.env.frame=some X.env.locals) (hg:Gl X cn) (hm:X.mg cn=.(r Ch)) (HC:Clss X.K Ch bmH) (hbase:bmH.contains (.type "BaseException")=true) (hsu:∀e,PSs (X.inside e) (b₀::suite) ts)
 (hN:X.N.Nodup) (hi:X.N[i]?=some y) (hy:Loc X.env.scope y) (hs:K21 (.Call (.Name x p) (e::es) [] pos1) (some (.Name y py)) pos2.line X.env=pure false) (hfn:X.fn y=true\/X.env.scope.names.lookup y=some .local)
 (hdb:.(16)=false:=by decide) (hdc:(cn==("__debug__":Str))=false:=by decide) (he:K09 (e::es) X.env=(false,eval e X.env)::K09 es X.env:=by rfl) (hpl:(backTo pos1 (K09 es X.env)).any (·.1)=false:=by rfl) :
 PS X (.Try [.Assign [.Name y py] (.Call (.Name x p) (e::es) [] pos1) pos2] [.ExceptHandler (some (.Name cn np)) none (b₀::suite) hpos] [] [] pos)
  (λD σ H=>t σ H λvs H1=>sp vs H1 (λv H2=>D.nx (σ.set i (some v)) H2) (zR2 X.K Ch λH2=>ts D σ H2)):=by
 intro pins s σ H D I h;refine wpAny_Try_except (wpAny_execs_cons ?_);refine wpAny_Assign_Name (thn (zM9 F hr hgx hmx hk hb ha I h (λH1 s1 u s' I1 c=>?_) hdb he hpl) λv s1 ⟨w,H1,I1,r1,q1⟩=>?_) hs
 ·exact zN5 hst hf hg hm HC hbase hsu I1 c (λC H' ⟨C',e1,e2,e3⟩=>by cases e1;exact⟨e2,e3⟩) hdc
 ·exact z68 I1 hN hi hy r1 (λs2 I2=>K5c (K5c ⟨_,H1,I2,q1⟩)) hfn
end
def askNames:List Str:="__init__"::z8F
def z6q(K:K1)(N:Addr):Bool:=K93 K N&&askNames.all λn=>K1x K N n==some none
theorem z3R(q:z6q K N=true)(X:K.In h):h.Ns N (h.nsMap N)/\∀n∈askNames,h.nsMap N n=none:=by
 unfold z6q at q;rw[K0i]at q;refine⟨.of_isNs (PySem.W.isNs_of_in X q.1),λn hn=>PySem.W.nsMap_none_of_in X q.1 ?_⟩;have:=K1t.mp q.2 n hn;simpa using this
structure K3(K:K1)(mg:Str->Option Value)(c:Str)(C:Addr)(bm:List Value):Prop where
 ns:K1x K K1p c=some (.(r C))
 gl:mg c=.(r C)
 cl:Clss K C bm
 obj:∃o cd,K.lookup C=some o/\o.data=.cls cd
 ex:∀h,K.In h->Ex3 h C "ValueError" bmV
 own:∀h,K.In h->OwnCls c C bmV "ValueError.__new__" mg h
 base:bm.contains (.type "BaseException")=true
 up:∀h,K.In h->Tail3 h bmV (.ref C::bm)/\OwnTail h bmV (.ref C::bm)
theorem k3_of{K:K1}{mg:Str->Option Value}{c:Str}{C:Addr}{bm:List Value}{nm q:Str}{N:Addr}{bs:List Value}{hdct:Bool}{sn:List Str}{sub:List Value}{ab:Bool}{col:Option Bool}{dd:Option Addr}{k0 k1 k2 k3 k5:Option Value}{c':Value}{d':Option Addr}{es:Array Z1v}{ep:Nat}{sl':Array (Option Value)}
 (e:K1x K K1p c=some (.(r C))) (hm:mg c=.(r C)) (l:K.lookup C=some (K7k nm q C N bs bm hdct sn sub ab col dd k0 k1 k2 k3 k5 "ValueError.__new__"))
 (l2:K.lookup N=some ⟨c',d',.dict es ep,sl'⟩) (h2:(es.toList.all λe=>match e.key with|.str _ _=>true|_=>false)=true)
 (n1:K1x K N "__init__" = some none) (n2:K1x K N "__getattribute__" = some none) (n3:K1x K N "__getattr__" = some none) (n4:K1x K N "__class__" = some none)
 (tl:∀h,K.In h->Tail3 h bmV bm/\OwnTail h bmV bm) (hb:bm.contains (.type "BaseException")=true):K3 K mg c C bm:=by
 have hq:z6q K N=true:=by
  have e1:K93 K N=true:=by
   unfold K93;rw[l2];show es.all _=true;rw[<- Array.all_toList];exact h2
  unfold z6q askNames z8F;simp only[K4n,List.all_nil,n1,n2,n3,n4,e1];rfl
 refine⟨e,hm,⟨nm,q,N,bs,hdct,sn,sub,ab,col,dd,k0,k1,k2,k3,k5,_,l⟩,⟨_,_,l,rfl⟩,λh X=>?_,λh X=>?_,hb,λh X=>?_⟩
 ·obtain⟨n1,n2⟩:=z3R hq X;exact⟨nm,q,N,bs,bm,hdct,sn,sub,ab,col,dd,k0,k1,k2,k3,k5,_,_,X _ _ l,n1,λn hn=>n2 n (K13 _ hn),(tl h X).1⟩
 ·obtain⟨n1,n2⟩:=z3R hq X;exact⟨hm,bm,N,nm,q,bs,hdct,sn,sub,ab,col,dd,k0,k1,k2,k3,k5,_,X _ _ l,n1,n2 _ K1e,(tl h X).2⟩
 ·obtain⟨n1,n2⟩:=z3R hq X;exact⟨.own (X _ _ l) n1 (λn hn=>n2 n (K13 _ hn)) (tl h X).1,.own (X _ _ l) n1 (n2 _ K1e) (tl h X).2⟩
end L2
namespace FT
variable{α:Type}{K:K1}{EX:XX}{ρ:List Addr}{H:Hp}{γ:G}{h h1 r:AH}{X:Cx}{e:Expr}{c x:Str}{es:List Expr}{st:Stmt}{sts suite:List Stmt}{me:G->M D}{mr:G->M (List D)}{ms mb mt body:G->M Out}{P:K1a}{w:World}{mg:Str->Option Value}{base:Heap}{N ps ns loose:List Str}{C Ch:Addr}{outer:List Env}{bm bmH:List Value}{fd:K4x}{n:Nat}{i j:Int}{mf m:List D->M D}{Q:Out->AH->Prop}{b:Bool}{mi:G->M Src}{g:D->G->M G}{cap:List (Option Nat)}{xs:List D}{o:O}{mk:List (List Str)}{XP:(Str->Option Value)->Heap->Prop}{YP:World->Heap->Prop}
def noE(m:G->M α):G->M α:=λγ h=>match m γ h with
 | .ok a h1=>.ok a h1
 | _=>.bad
theorem z9P{P:α->List Addr->AH->Hp->Prop}{m:G->M α}(f:Fin K EX ρ H P (noE m γ h)):Fin K EX0 ρ H P (m γ h):=by
 unfold noE at f;cases e:m γ h with
 | ok a h1=>rw[e]at f;exact f
 | err x h1=>rw[e]at f;exact f.elim
 | bad=>rw[e]at f;exact f.elim
section
variable{c:Expr}{k:G->M Bool}
theorem PS.nox{t:TS}(h:L2.PS X.nox st t):L2.PS X st t:=λpins s σ H D I hw=>
 K2i (h pins s σ H D (I.wish _) hw) (λ_ _ q=>q.unwish) λ_ _ z=>K28 z
theorem zQ8(h:SC X.nox EX0 c k):SC X EX c (noE k):=⟨PT.imp (PT.nox h.h) λσ H Q ⟨ρ,γ,h,rel,fin⟩=>⟨ρ,γ,h,rel,z9P fin⟩⟩
theorem Z0T(h:S1 X.nox EX0 st ms):S1 X EX st (noE ms):=⟨PS.imp (PS.nox h.h) λσ H D ⟨ρ,γ,h,rel,fin⟩=>⟨ρ,γ,h,rel,z9P fin⟩⟩
end
def EXof(K:K1)(E:XK):XX:=λx _ _ H'=>∀C,K1x K K1p x.cls=some (.(r C))->E (.ref C) none H'
def z7c(c:Str)(mr:G->M (List D)):G->M Out:=λγ h=>match mr γ h with
 | .ok xs h1=>if xs.length<=sizeLine then .err ⟨c,[]⟩ h1 else .bad
 | _=>.bad
section
variable{qual:Str}{scope:Scope}{f:Addr}{cd:Value}{A:Around}{s:Shared}{E:XK}
 {e₀:Expr} {rest:List Expr} {mr:G->M (List D)} {np cpos pos:Pos}
theorem zE8(T:K3 K mg c C bm)(hg:Gl (cxOf (CXE P w base) P w K mg base N qual scope f cd A outer s H E) c)(ha:SA (cxOf (CXE P w base) P w K mg base N qual scope f cd A outer s H E).nox EX0 (e₀::rest) mr)
 (he:K09 (e₀::rest) (cxOf (CXE P w base) P w K mg base N qual scope f cd A outer s H E).env=(false,eval e₀ (cxOf (CXE P w base) P w K mg base N qual scope f cd A outer s H E).env)::K09 rest (cxOf (CXE P w base) P w K mg base N qual scope f cd A outer s H E).env:=by rfl)
 (hpl:(backTo cpos (K09 rest (cxOf (CXE P w base) P w K mg base N qual scope f cd A outer s H E).env)).any (·.1)=false:=by rfl) (hd:(c==("__debug__":Str))=false:=by decide) :
 S1 (cxOf (CXE P w base) P w K mg base N qual scope f cd A outer s H E) (EXof K E) (.Raise (some (.Call (.Name c np) (e₀::rest) [] cpos)) none pos) (z7c c mr):=
 ⟨PS.imp (zn1 (R:=λH1=>E (.ref C) none H1) T.own PySem.F.excBase_ValueError rfl hg (t:=λσ H Q=>tL K EX0 mr σ H Q) (λpos pins s σ H Q I q=>PA.quiet ha.h pos I q) (λpins σ H s h' e vs I hm q=>z6N I hm q) he hpl hd) λσ H D ⟨ρ,γ,h,rel,fin⟩=>⟨ρ,γ,h,rel,by
  unfold z7c at fin;show Fin K EX0 ρ H _ (mr γ h);cases e:mr γ h with
  | err x h1=>rw[e]at fin;exact fin.elim
  | bad=>rw[e]at fin;exact fin.elim
  | ok xs h1=>
   rw[e]at fin;dsimp only at fin;split at fin
   ·rename_i hl;exact λρ1 H1 p1 e1 r1 vs rvs=>⟨by rw[<- rvs.length];exact hl,fin ρ1 H1 p1 e1 r1 C T.ns⟩
   ·exact fin.elim⟩⟩
end
def spX(K:K1)(mf:List D->M D)(n:Nat):Sp:=λvs H Q E=>vs.length=n/\∃ρ ds h,RH K ρ h H/\RDs K ρ H ds vs/\FE K (EXof K E) ρ H Q (mf ds h)
structure FnX(P:K1a)(w:World)(K:K1)(mg:Str->Option Value)(base:Heap)(k:Nat)(x:Str)(n:Nat)(mf:List D->M D):Prop where
 ex:∃f fd ps,FnOk P w K mg base (CXE P w base) k f fd ps (spX K mf n)/\Binds K fd ps []/\K3n K (.ref f)=true/\mg x=.(r f)
theorem Z02{P:K1a}{w:World}{base:Heap}{f:Addr}{k:Nat}{mb:G->M Out}(F:Fun K x x st f fd)(S:FnScope N ps (j4 st))(hb:Binds K fd ps [])(mx:mg x=.(r f))(hn:ps.length=n)
 (body:∀(cdv:Value) (A:Around) (outer:List Env) (s:Shared) (H:Hp) (E:XK),K34 K cdv x=true->Room k (A.deeper (envOfC x (j4 st) .(4) f cdv)) ->
  SB (cxOf (CXE P w base) P w K mg base N x (j4 st) f cdv A outer s H E) (EXof K E) (z0x st) mb):FnX P w K mg base (k+1) x n (runF N.length mb):=by
 refine⟨f,fd,ps,?_,hb,F.kp,mx⟩;obtain⟨oc,od,kV,doc,pm,an,cdv,ct,osl,rfl,lk,hcd⟩:=F.ex;refine zD3 lk hcd S (λvs H Q E h=>h.1.trans hn.symm) λA outer s H vs Q E hr h=>?_;obtain⟨hl,ρ,ds,h,rh,rd,fin⟩:=h;refine⟨_,(body cdv A outer s H E hcd hr).h,ρ,z10 N.length ds,h,⟨z4S rd,rh⟩,?_⟩;refine(Fin.bind fin).mono λo ρ1 h1 H1 p1 e1 r1 f1=>?_;cases o with
 | nx γ=>exact λσ _=>FE.here (d:=.non) (h:=h1) f1 r1 .(C)
 | rt d=>exact λv rv=>f1 ρ1 H1 .(b) .(d) r1 v rv
 | bk γ=>exact(show False from f1).elim
 | ct γ=>exact(show False from f1).elim
def Catch(K:K1)(Ch:Addr)(ok:Str->Bool):Prop:=∀c,ok c=true->∀C,K1x K K1p c=some (.(r C))->∃bm,Clss K C bm/\(K1f C::bm).contains (.ref Ch)=true
def z7Y(n i:Nat)(mf:List D->M D)(mr:G->M (List D))(ok:Str->Bool)(ms:G->M Out):G->M Out:=λγ h=>match mr γ h with
 | .ok xs h1=>if xs.length=n then (match mf xs h1 with
  | .ok d h2=>.ok (.nx (γ.set i (some d))) h2
  | .err x h2=>if ok x.cls=true then ms γ h2 else .bad
  | .bad=>.bad) else .bad
 | _=>.bad
section
variable{k i:Nat}{cn y:Str}{ok:Str->Bool}{b₀:Stmt}{p pos pos1 pos2 py np hpos:Pos}
theorem zW0(i:Nat)(F:FnX X.prog X.w X.K X.mg X.base k x n mf)(T:K3 X.K X.mg cn Ch bmH)(hC:Catch X.K Ch ok)(hr:Room k X.A)(hgx:Gl X x)(hg:Gl X cn)(ha:SA X.nox EX0 (e::es) mr)(hsu:∀u,SB (X.inside u) EX0 (b₀::suite) ms)
 (hst:X.stack=X.env::X.outer) (hf:X.env.frame=some X.env.locals) (hN:X.N.Nodup) (hi:X.N[i]?=some y:=by rfl) (hy:Loc X.env.scope y:=by first|exact Or.inl rfl|exact Or.inr rfl) (hs:K21 (.Call (.Name x p) (e::es) [] pos1) (some (.Name y py)) pos2.line X.env=pure false:=by exact z86) (hfn:X.fn y=true\/X.env.scope.names.lookup y=some .local:=by first|exact .inl rfl|exact .inr rfl)
 (hdb:.(16)=false:=by decide) (hdc:(cn==("__debug__":Str))=false:=by decide) (he:K09 (e::es) X.env=(false,eval e X.env)::K09 es X.env:=by rfl) (hpl:(backTo pos1 (K09 es X.env)).any (·.1)=false:=by rfl) :
 S1 X EX0 (.Try [.Assign [.Name y py] (.Call (.Name x p) (e::es) [] pos1) pos2] [.ExceptHandler (some (.Name cn np)) none (b₀::suite) hpos] [] [] pos) (z7Y n i mf mr ok ms):=by
 obtain⟨f,fd,ps,h1,h2,h3,h4⟩:=F.ex;refine⟨PS.imp (zI8 (ts:=tB X.K EX0 ms) (i:=i) h1 hr hgx h4 h3 h2 ha.h hst hf hg T.gl T.cl T.base (λu=>(hsu u).h) hN hi hy hs hfn hdb hdc he hpl) λσ H D ⟨ρ,γ,h,rel,fin⟩=>⟨ρ,γ,h,rel,?_⟩⟩;unfold z7Y at fin;cases e1:mr γ h with
 | err x h1=>rw[e1]at fin;exact fin.elim
 | bad=>rw[e1]at fin;exact fin.elim
 | ok xs h1=>
  rw[e1]at fin;dsimp only at fin;split at fin
  ·rename_i hl;refine λρ1 H1 p1 x1 r1 vs rvs=>⟨by rw[<- rvs.length];exact hl,ρ1,xs,h1,r1,rvs,?_⟩;cases e2:mf xs h1 with
   | bad=>rw[e2]at fin;exact fin.elim
   | ok d h2=>
    rw[e2]at fin;exact λρ2 H2 p2 x2 r2 v rv=>fin ρ2 H2 (p1.trans p2) (x1.trans x2) r2 _ (((rel.g.mono p1 x1).mono p2 x2).set i rv)
   | err z h2=>
    rw[e2]at fin;dsimp only at fin;split at fin
    ·rename_i hok;exact λρ2 H2 p2 x2 r2 C hns=>⟨C,rfl,hC _ hok C hns,ρ2,γ,h2,⟨(rel.g.mono p1 x1).mono p2 x2,r2⟩,Fin.up (p1.trans p2) (x1.trans x2) fin⟩
    ·exact fin.elim
  ·exact fin.elim
end
def fInT(neg:Bool):D->D->M D
 | .str i,.str j=>pure (.bl ((!(K25 j i 0 j.length 1).isEmpty) != neg))
 | _,_=>bad
section
variable{a:Expr}{p p2 pos:Pos}{ma:G->M D}{k:Str->Option Bool}
theorem zE3:BR K EX (λx y H Q=>∃i j,x=.str i/\y=.str j/\Q (.bl (!(!(K25 j i 0 j.length 1).isEmpty))) H) (fInT true):=by
 intro ρ h H x y v u Q r rx ry fin;unfold fInT at fin;split at fin
 ·rename_i i j;simp only[RD]at rx ry;subst rx;subst ry;refine⟨i,j,rfl,rfl,FE.here fin r ?_⟩;cases (K25 j i 0 j.length 1).isEmpty<;>simp[RD]
 ·exact fin.elim
theorem zM3:CO X EX .NotIn (fInT true):=⟨_,z79,zE3⟩
end
theorem zY2{C':Addr}(h:K1x K K1p c=some (.(r C)))(h':K1x K K1p c=some (.(r C'))):C'=C:=by
 rw[h]at h';cases h';rfl
theorem catch_of(T:K3 K mg c C bm)(h:(K1f C::bm).contains (.ref Ch)=true):Catch K Ch (λx=>x==c):=λx hx C' hns=>by
 have e:x=c:=by simpa using hx
 subst e;have:=zY2 T.ns hns;subst this;exact⟨bm,T.cl,h⟩
variable{β:Type}
def W(m:M α)(h:AH)(Q:α->AH->Prop):Prop:=∃a h',m h=.ok a h'/\Q a h'
theorem j0{m:M α}{f:α->M β}{Q:β->AH->Prop}:W (m >>= f) h Q↔W m h λa h1=>W (f a) h1 Q:=by
 constructor
 ·rintro⟨b,h2,e,q⟩;rw[bindM]at e;cases em:m h with
  | ok a h1=>rw[em]at e;exact⟨a,h1,em,b,h2,e,q⟩
  | err x h1=>rw[em]at e;cases e
  | bad=>rw[em]at e;cases e
 ·rintro⟨a,h1,e,b,h2,e',q⟩;exact⟨b,h2,by rw[M.bind_ok e,e'],q⟩
theorem W_pure{a:α}{Q:α->AH->Prop}:W (Z2i a:M α) h Q↔Q a h:=by
 constructor
 ·rintro⟨b,h2,e,q⟩;cases e;exact q
 ·exact λq=>⟨a,h,rfl,q⟩
theorem z3u{Q:α->AH->Prop}:W (bad:M α) h Q↔False:=by
 constructor
 ·rintro⟨b,h2,e,q⟩;cases e
 ·exact K28
theorem z39{c:Prop}[Decidable c]{m n:M α}{Q:α->AH->Prop}:W (if c then m else n) h Q↔if c then W m h Q else W n h Q:=by
 split<;>exact Iff.rfl
theorem W.mono{m:M α}{Q Q':α->AH->Prop}(z:W m h Q)(f:∀a h',Q a h'->Q' a h'):W m h Q':=let ⟨a,h',e,q⟩:=z;⟨a,h',e,f a h' q⟩
theorem W.of{m:M α}{h':AH}{a:α}{Q:α->AH->Prop}(e:m h=.ok a h')(q:Q a h'):W m h Q:=⟨a,h',e,q⟩
theorem zn9:W (bNil γ) h Q↔Q (.nx γ) h:=W_pure
def zJ5(mt:G->M Out)(Q:Out->AH->Prop):Out->AH->Prop:=λo h=>match o with
 | .nx γ=>W (mt γ) h Q
 | o=>Q o h
theorem z0u:zJ5 mt Q (.nx γ) h↔W (mt γ) h Q:=Iff.rfl
theorem z4A{d:D}:zJ5 mt Q (.rt d) h↔Q (.rt d) h:=Iff.rfl
theorem w_cons:W (Z0 ms mt γ) h Q↔W (ms γ) h (zJ5 mt Q):=by
 unfold Z0;rw[j0];constructor
 ·rintro⟨o,h1,e,q⟩;refine⟨o,h1,e,?_⟩;cases o with
  | nx γ=>exact q
  | rt d=>exact(W_pure (a:=Out.rt d) (Q:=Q)).mp q
  | bk d=>exact(W_pure (a:=Out.bk d) (Q:=Q)).mp q
  | ct d=>exact(W_pure (a:=Out.ct d) (Q:=Q)).mp q
 ·rintro⟨o,h1,e,q⟩;refine⟨o,h1,e,?_⟩;cases o with
  | nx γ=>exact q
  | rt d=>exact W_pure.mpr q
  | bk d=>exact W_pure.mpr q
  | ct d=>exact W_pure.mpr q
def runW(Q:D->AH->Prop):Out->AH->Prop:=λo h=>match o with
 | .nx _=>Q .non h
 | .rt d=>Q d h
 | _=>False
theorem z1V{ds:List D}{Q:D->AH->Prop}(z:W (mb (z10 n ds)) h (runW Q)):W (runF n mb ds) h Q:=by
 unfold runF;rw[j0];refine z.mono λo h1 q=>?_;cases o with
 | nx γ=>exact W_pure.mpr q
 | rt d=>exact W_pure.mpr q
 | bk d=>exact q.elim
 | ct d=>exact q.elim
theorem z1l:fAdd (.int i) (.int j)=pure (.int (i+j)):=rfl
theorem zc5:fSub (.int i) (.int j)=pure (.int (i - j)):=rfl
theorem zk7:fGt (.int i) (.int j)=pure (.bl (decide (j<i))):=rfl
theorem zX7:fGe (.int i) (.int j)=pure (.bl (decide (j<=i))):=rfl
theorem zr2:fLt (.int i) (.int j)=pure (.bl (decide (i<j))):=rfl
theorem zq6:fLe (.int i) (.int j)=pure (.bl (decide (i<=j))):=rfl
theorem zd1:fEq b (.int i) (.int j)=pure (.bl (decide (i=j) != b)):=rfl
theorem zT0(h:0<j):fMod (.int i) (.int j)=pure (.int (i % j)):=by
 unfold fMod fIC;dsimp only;rw[if_pos (.(s) h)]
theorem z0O:asB (.bl b)=pure b:=rfl
theorem z25:truD (.bl b)=pure b:=rfl
theorem zV5{t:String}:fIsi t (.bl b)=pure (.bl (subT "bool" t)):=rfl
theorem ze9{b:Int}{t:String}:fIsi t (.int b)=pure (.bl (subT "int" t)):=rfl
theorem z7C{b:List D}{t:String}:fIsi t (.tup b)=pure (.bl (subT "tuple" t)):=rfl
def forW(J:G->AH->Prop)(R:D->AH->Prop):Out->AH->Prop:=λo h=>match o with
 | .nx γ=>J γ h
 | .ct γ=>J γ h
 | .bk _=>False
 | .rt d=>R d h
def endW(J:G->AH->Prop)(R:D->AH->Prop):Out->AH->Prop:=λo h=>match o with
 | .nx γ=>J γ h
 | .ct _=>False
 | .bk _=>False
 | .rt d=>R d h
theorem z7R{src:Src}{g:D->G->M G}{body:G->M Out}(I:Nat->G->AH->Prop)(R:D->AH->Prop)(good:∀i γ h,I i γ h->src.good h):∀(items:List D) (n:Nat) (γ:G) (h:AH),
 (∀i d γ h,items[i]?=some d->I (n+i) γ h->W (g d γ) h λγ1 h1=>W (body γ1) h1 (forW (I (n+i+1)) R))->I n γ h ->
 W (forR src g body items γ) h (endW (I (n+items.length)) R)
 | [],n,γ,h,_,q=>⟨.nx γ,h,by unfold forR Src.chk;simp[good _ _ _ q],q⟩
 | d::r,n,γ,h,z,q=>by
  unfold forR;rw[j0];refine W.of (a:=()) (h':=h) (by unfold Src.chk;simp[good _ _ _ q]) ?_;rw[j0];refine(z 0 d γ h rfl q).mono λγ1 h1 q1=>?_;rw[j0];refine q1.mono λo h2 q2=>?_;have step:∀γ2,I (n+0+1) γ2 h2->W (forR src g body r γ2) h2 (endW (I (n+(d::r).length)) R):=λγ2 w=>by
   have:=z7R (src:=src) I R good r (n+1) γ2 h2 (λi d γ h e q=>by
    have:=z (i+1) d γ h (by simpa using e) (by rw[show n+(i+1)=n+1+i by omega];exact q);rw[show n+(i+1)+1=n+1+i+1 by omega]at this;exact this) (by simpa using w)
   rw[show n+1+r.length=n+(d::r).length by simp;omega]at this;exact this
  cases o with
  | nx γ2=>exact step γ2 q2
  | ct γ2=>exact step γ2 q2
  | bk γ2=>exact q2.elim
  | rt v=>exact W_pure.mpr q2
theorem z2s(J:G->AH->Prop)(z:W (ms γ) h (endW J λd h=>Q (.rt d) h))(k:∀γ h,J γ h->W (mt γ) h Q):W (Z0 ms mt γ) h Q:=by
 rw[w_cons];refine z.mono λo h1 q=>?_;cases o with
 | nx γ=>exact k γ h1 q
 | rt d=>exact q
 | bk d=>exact q.elim
 | ct d=>exact q.elim
theorem z6G{i:Nat}{d:D}(e:(z1g n)[i]?=some d):d=.int i/\i<n:=by
 unfold z1g at e;rw[K04]at e;obtain⟨j,e1,e2⟩:=K15.mp e;obtain⟨h1,h2⟩:=K5.mp e1;simp at h1 h2;subst h2;exact⟨e2.symm,h1⟩
theorem z0i{ma:G->M D}{i:Nat}{body:G->M Out}{γ:G}{h:AH}(I:Nat->G->AH->Prop)(R:D->AH->Prop){Q:Out->AH->Prop}
 (hs:W (ma γ) h λd h1=>∃n:Nat,d=.int n/\n<4611686018427387904/\I 0 γ h1/\(∀k γ h,k<n->I k γ h->W (body (γ.set i (.(i k)))) h (forW (I (k+1)) R))/\(∀γ h',I n γ h'->Q (.nx γ) h')/\∀d h',R d h'->Q (.rt d) h') :
 W (sFor (z0k ma) (gN i) body γ) h Q:=by
 unfold sFor z0k;rw[j0,j0];refine hs.mono λd h1 ⟨n,e,hn,i0,st,fin⟩=>?_;subst e;dsimp only;rw[if_pos .(1),W_pure];have:=z7R (src:=.con (z1g (n:Int).toNat)) (g:=gN i) (body:=body) I R (λ_ _ _ _=>trivial) (z1g (n:Int).toNat) 0 γ h1 (λk d γ h e q=>by
  obtain⟨rfl,hk⟩:=z6G e;rw[Z15]at q ⊢;exact W_pure.mpr (st k γ h (by simpa using hk) q)) i0
 rw[show 0+(z1g (n:Int).toNat).length=n by unfold z1g;simp]at this;refine this.mono λo h' q=>?_;cases o with
 | nx γ=>exact fin.1 γ h' q
 | rt d=>exact fin.2 d h' q
 | bk d=>exact q.elim
 | ct d=>exact q.elim
theorem z15{mi:G->M Src}{g:D->G->M G}{body:G->M Out}{γ:G}{h:AH}(I:Nat->G->AH->Prop)(R:D->AH->Prop){Q:Out->AH->Prop}
 (hs:W (mi γ) h λsrc h1=>I 0 γ h1/\(∀i γ h,I i γ h->src.good h)/\(∀i d γ h,src.items[i]?=some d->I i γ h->W (g d γ) h λγ1 h1=>W (body γ1) h1 (forW (I (i+1)) R))/\(∀γ h',I src.items.length γ h'->Q (.nx γ) h')/\∀d h',R d h'->Q (.rt d) h') :
 W (sFor mi g body γ) h Q:=by
 unfold sFor;rw[j0];refine hs.mono λsrc h1 ⟨i0,good,st,fin⟩=>?_;have:=z7R (src:=src) (g:=g) (body:=body) I R good src.items 0 γ h1 (λk d γ h e q=>by
  rw[Z15]at q ⊢;exact st k d γ h e q) i0
 rw[Z15]at this;refine this.mono λo h' q=>?_;cases o with
 | nx γ=>exact fin.1 γ h' q
 | rt d=>exact fin.2 d h' q
 | bk d=>exact q.elim
 | ct d=>exact q.elim
theorem z2x{ma:G->M D}(e:ma γ h=.ok (.int n) h1)(hn:n<4611686018427387904):z0k ma γ h=.ok (.con (z1g n)) h1:=by
 unfold z0k;rw[M.bind_ok e];dsimp only;rw[if_pos .(1)];rfl
theorem z57{k:G->M Bool}{body:G->M Out}(I:Nat->G->AH->Prop)(E:G->AH->Prop)(R:D->AH->Prop)
 (z:∀m γ h,I m γ h->W (k γ) h λb h1=>if b=true then ∃m',m=m'+1/\W (body γ) h1 (forW (λγ h=>∃i,i<=m'/\I i γ h) R) else E γ h1):∀(n m:Nat) (γ:G) (h:AH),m<n->I m γ h ->
 W (z32 k body n γ) h (endW E R)
 | 0,m,γ,h,hm,_=>by omega
 | n+1,m,γ,h,hm,q=>by
  unfold z32;rw[j0];refine(z m γ h q).mono λb h1 q1=>?_;cases b with
  | false=>
   rw[if_neg .(0)]at q1 ⊢;exact W_pure.mpr q1
  | true=>
   rw[if_pos rfl]at q1 ⊢;obtain⟨m',rfl,q2⟩:=q1;rw[j0];refine q2.mono λo h2 q3=>?_;cases o with
   | nx γ2=>obtain⟨i,hi,q4⟩:=q3;exact z57 I E R z n i γ2 h2 .(1) q4
   | ct γ2=>obtain⟨i,hi,q4⟩:=q3;exact z57 I E R z n i γ2 h2 .(1) q4
   | bk γ2=>exact q3.elim
   | rt v=>exact W_pure.mpr q3
theorem z4w{g:D->G->M G}{k:G->M Bool}{me:G->M D}{γ:G}{p:D->Bool}{f:D->D}(src:Src)(h0:AH)(hg:∀j,src.good (h0++j)):∀(items:List D) (acc:List D),acc.length+items.length<=1000000 ->
 (∀d∈items,∃γ1,(∀h,g d γ h=.ok γ1 h)/\(∀j,k γ1 (h0++j)=.ok (p d) (h0++j))/\(p d=true->∀j,me γ1 (h0++j)=.ok (f d) (h0++j))) ->
 z52 src g k me h0.length γ items (h0++[.lst acc])=.ok () (h0++[.lst (acc++(items.filter p).map f)])
 | [],acc,hl,hd=>by unfold z52 Src.chk;simp[hg]
 | d::r,acc,hl,hd=>by
  obtain⟨γ1,e1,e2,e3⟩:=hd d K1e;unfold z52;have chk:src.chk (h0++[.lst acc])=.ok () (h0++[.lst acc]):=by unfold Src.chk;simp[hg]
  rw[M.bind_ok chk,M.bind_ok (e1 _),M.bind_ok (e2 _)];simp only[K0d]at hl;have hr:∀d∈r,∃γ1,(∀h,g d γ h=.ok γ1 h)/\(∀j,k γ1 (h0++j)=.ok (p d) (h0++j))/\(p d=true->∀j,me γ1 (h0++j)=.ok (f d) (h0++j)):=λx hx=>hd x (K13 _ hx);cases hp:p d with
  | false=>
   rw[if_neg .(0),z4w src h0 hg r acc .(1) hr,Z1w,hp];rfl
  | true=>
   rw[if_pos rfl,M.bind_ok (e3 hp _)];have ap:k9 h0.length (f d) (h0++[.lst acc])=.ok .non (h0++[.lst (acc++[f d])]):=by
    unfold k9 updL;have g1:(h0++[O.lst acc])[h0.length]?=.(l acc):=by simp
    rw[g1];dsimp only;have hs:(acc++[f d]).length<=sizeLine:=by
     rw[K02,K2x];exact K0z (show acc.length+1<=1000000 by omega) .(0)
    rw[if_pos hs];simp
   rw[M.bind_ok ap,z4w src h0 hg r (acc++[f d]) (by simp;omega) hr,Z1w,hp];simp
theorem z1z{cap:List (Option Nat)}{g:D->G->M G}{k:G->M Bool}{me:G->M D}{src:Src}(p:D->Bool)(f:D->D)(hi:mi γ h=.ok src h)(hg:∀j,src.good (h++j))(hl:src.items.length<=1000000)
 (hd:∀d∈src.items,∃γ1,(∀h,g d (capG cap γ) h=.ok γ1 h)/\(∀j,k γ1 (h++j)=.ok (p d) (h++j))/\(p d=true->∀j,me γ1 (h++j)=.ok (f d) (h++j))) :
 Y7 cap mi g k me γ h=.ok (.ref .(m)) (h++[.lst ((src.items.filter p).map f)]):=by
 have e:=z4w (g:=g) (k:=k) (me:=me) (γ:=capG cap γ) (p:=p) (f:=f) src h hg src.items [] (by simpa using hl) hd;show (mi γ >>= _) h=_;rw[M.bind_ok hi];rw[M.bind_ok (m:=(λh=>Res.ok (Z1y h) (h++[O.lst []]):M Nat)) (h:=h) rfl];rw[M.bind_ok (by simpa using e)];rfl
def Kp(r r':AH):Prop:=∀(n:Nat) (o:O),r[n]?=some o->r'[n]?=some o
class Grow (I:AH->Prop):Prop where
 app:∀h j,I h->I (h++j)
def Pool(gr sm:List Int)(s c:Int)(r:AH):AH:=.lst (gr.map .int)::.lst (sm.map .int)::.lst [.ref 0,.ref 1,.int s,.int c]::r
def PS(h:AH)(k:Int)(r:AH):Prop:=∃gr sm s c,h=Pool gr sm s c r/\0<=s/\s<2147483647/\0<=c/\c<=k/\gr.length<=63/\sm.length<=63
theorem PS.up{k k':Int}(p:PS h k r)(hk:k<=k'):PS h k' r:=by
 obtain⟨gr,sm,s,c,e,h1,h2,h3,h4,h5,h6⟩:=p;exact⟨gr,sm,s,c,e,h1,h2,h3,by omega,h5,h6⟩
theorem PS.app{k:Int}(p:PS h k r)(j:AH):PS (h++j) k (r++j):=by
 obtain⟨gr,sm,s,c,e,q⟩:=p;exact⟨gr,sm,s,c,by rw[e];rfl,q⟩
theorem PS.get{k:Int}(p:PS h k r)(n:Nat):h[n+3]?=r[n]?:=by
 obtain⟨gr,sm,s,c,e,q⟩:=p;rw[e];rfl
theorem PS.len{k:Int}(p:PS h k r):h.length=r.length+3:=by
 obtain⟨gr,sm,s,c,e,q⟩:=p;rw[e];rfl
theorem zX6{k:Int}{Q:List D->AH->Prop}(p:PS h k r)(e:r[n]?=.(l xs))(q:Q xs h):W (getL (n+3)) h Q:=
 ⟨xs,h,by unfold getL;rw[p.get,e],q⟩
theorem z8K{k:Int}{Q:D->AH->Prop}(p:PS h k r)(hl:xs.length<=1000000)(z:∀h',PS h' k (r++[.lst xs])->Q (.ref (r.length+3)) h'):W (newL xs) h Q:=
 ⟨.ref (r.length+3),h++[.lst xs],by unfold newL;rw[if_pos (K0z hl .(0)),p.len],z _ (p.app _)⟩
theorem w4{j:AH}(e:r[n]?=some o):(r++j)[n]?=some o:=by
 rw[K0n (K5.mp e).1,e]
theorem z9J:(r++[o])[r.length]?=some o:=by simp
def z4m(x:Str):Prop:=1<=x.length/\x.length<=8/\(∀c∈x.cps.toList,97<=c/\c<=122) /\
 x∉(["yes","no","not","and","or","step","some","all","next","once","ever","until","unless"]:List Str)
theorem len_str(x:Str):x.length=x.cps.toList.length:=by simp[K9o]
theorem z63(a:Str):∀l:List Str,((l.map D.str).any λz=>eqF z (.str a))=decide (a∈l)
 | []=>by simp
 | b::l=>by
  rw[K0v,K2d,z63 a l];simp only[eqF];rw[K0p];simp only[K3c,beq_iff_eq,decide_eq_true_eq,K0y];constructor
  ·rintro(h|h)
   ·exact .inl h.symm
   ·exact .inr h
  ·rintro(h|h)
   ·exact .inl h.symm
   ·exact .inr h
theorem z3m:∀l:List Str,(l.map D.str).all z0M=true
 | []=>rfl
 | _::l=>by rw[K0v,K4n,z3m l];rfl
def low(x:Str):Prop:=∀c∈x.cps.toList,97<=c/\c<=122
def abc:Str:="abcdefghijklmnopqrstuvwxyz"
theorem zK0:abc.cps.toList=(K7 26).map (·+97):=by decide +kernel
theorem zJ6:abc.length=26:=by decide +kernel
theorem zU2{d:Int}(h0:0<=d)(h1:d<26):fIx (.str abc) (.int d)=pure (.str ⟨#[d.toNat+97]⟩):=by
 unfold fIx;dsimp only;rw[if_pos (by rw[zJ6];decide),zK0];obtain⟨n,rfl⟩:=K26 h0;have hn:n<26:=by omega
 rw[z0p (v:=n+97) (by simp[hn])];simp
theorem z62(x y:Str):(x++y).cps.toList=x.cps.toList++y.cps.toList:=Array.toList_append
theorem len_app(x y:Str):(x++y).length=x.length+y.length:=by rw[len_str,z62,K02,<- len_str,<- len_str]
theorem zV9{y:Str}(h:x.length+y.length<=1000):fAdd (.str x) (.str y)=pure (.str (x++y)):=by
 show (if x.length+y.length<=sizeLine then _ else _)=_;rw[if_pos (K0z h .(0))]
theorem z61(c:Nat):K9o ⟨#[c]⟩=1:=rfl
theorem za8{c:Nat}(h:low x)(h1:97<=c)(h2:c<=122):low (x++⟨#[c]⟩):=by
 intro d hd;rw[z62]at hd;rcases K1c.mp hd with q|q
 ·exact h d q
 ·simp at q;omega
theorem z93{k d:Int}{r:AH}{Q:D->AH->Prop}(h0:0<=d)(h1:d<26)(hx:x.length<=100)(q:Q (.str (x++⟨#[d.toNat+97]⟩)) h):W (fIx (.str abc) (.int d)) h λa h1=>W (fAdd (.str x) a) h1 Q:=by
 rw[zU2 h0 h1,W_pure,zV9 (by rw[z61];omega),W_pure];exact q
def words:List Str:=["yes","no","not","and","or","step","some","all","next","once","ever","until","unless"]
def cand(x:Str)(l:Int)(i:Nat):Str:=x++⟨#[((l+i) % 26).toNat+97]⟩
theorem zq3{l:Int}(h0:0<=l){i j:Nat}(hi:i<26)(hj:j<26)(e:cand x l i=cand x l j):i=j:=by
 have e2:(cand x l i).cps.toList=(cand x l j).cps.toList:=by rw[e]
 unfold cand at e2;rw[z62,z62]at e2;have:=List.append_cancel_left e2;simp at this;omega
theorem zW1{l:Int}(h0:0<=l)(hn:ns.length<=7)(h:∀i:Nat,i<26->cand x l i∈words\/cand x l i∈ns):False:=by
 have nd:((K7 26).map (cand x l)).Nodup:=by
  rw[List.nodup_iff_pairwise_ne,K7f];refine K7p ?_ K4z;intro a b ha hb hne e;exact hne (zq3 h0 (by simpa using ha) (by simpa using hb) e)
 have sub:((K7 26).map (cand x l)) ⊆ words++ns:=by
  intro y hy;obtain⟨i,hi,rfl⟩:=K08.mp hy;exact K1c.mpr (h i (by simpa using hi))
 have:=nd.length_le_of_subset sub;rw[K03,K1u,K02]at this;have w:words.length=13:=rfl;omega
theorem zx0{k:Int}{neg:Bool}(p:PS h k r)(e:r[n]?=.(l (ns.map .str))):fIn neg (.str x) (.ref (n+3)) h=.ok (.bl (decide (x∈ns) != neg)) h:=by
 have g:getL (n+3) h=.ok (ns.map .str) h:=by unfold getL;rw[p.get,e]
 unfold fIn seqD;rw[M.bind_ok g,z63,z3m];rfl
theorem zN0{k:Int}{d:D}{Q:D->AH->Prop}(p:PS h k r)(e:r[n]?=.(l xs))(a:atI xs i=some d)(q:Q d h):W (fIx (.ref (n+3)) (.int i)) h Q:=by
 show W (getL (n+3) >>= λxs=>match atI xs i with|some d=>pure d|none=>bad) h Q;rw[j0];refine zX6 p e ?_;rw[a];exact W_pure.mpr q
theorem zD2:low "":=by
 intro c hc;have:(K01 "").cps.toList=[]:=by decide +kernel
 rw[this]at hc;cases hc
theorem zF7:K9o "" = 0:=by decide +kernel
def stD(l:List Nat):List D:=l.map λ(i:Nat)=>.int i
structure MK(l:List Str):Prop where
 len:l.length<=8
 good:∀x∈l,z4m x
 rise:l.Pairwise λa b=>a.cps.toList<b.cps.toList
structure MA(st:List .(19))(mk:List (List Str)):Prop where
 l1:1<=.(c)
 l2:.(c)<=40
 l3:mk.length=.(c)
 s1:∀l∈st,l.Pairwise (·<·)
 s2:∀l∈st,∀x∈l,x<.(c)
 m1:∀l∈mk,MK l
def stsD(st:List .(19)):List D:=st.map λl=>.tup (stD l)
def mksD(mk:List (List Str)):List D:=mk.map λl=>.tup (l.map .str)
def maD(st:List .(19))(mk:List (List Str)):D:=.tup [.tup (stsD st),.tup (mksD mk)]
def bear(x:Str)(mk:List (List Str))(i:Nat):Bool:=decide (x = "")||decide (x∈(mk[i]?).getD [])
theorem z5R{i:Nat}(hi:i<mk.length):atI (mksD mk) (i:Int)=.(g ((((mk[i]?).getD []).map .str))):=by
 refine z0p ?_;unfold mksD;rw[K04,K2 hi];rfl
theorem z36(ns:List Int)(p:D->Bool):((ns.map D.int).filter p).map (λd=>d)=(ns.filter λi=>p (.int i)).map D.int:=by
 rw[Z13,K8y];rfl
theorem zR4:fPow (.int 10) (.int 18)=pure (.int 1000000000000000000):=rfl
theorem z17(xs:List D):fLen [.tup xs]=pure (.int xs.length):=rfl
theorem ix_tup{d:D}(a:atI xs i=some d):fIx (.tup xs) (.int i)=pure d:=by
 have:fIx (.tup xs) (.int i)=(pure xs >>= λxs=>match atI xs i with|some d=>pure d|none=>bad):=rfl;rw[this];show (match atI xs i with|some d=>pure d|none=>bad)=_;rw[a]
theorem z3V{l:List Nat}{c:Nat}(hc:c<l.length):atI (stD l) (c:Int)=.(i (((l[c]?).getD 0:Nat))):=by
 refine z0p ?_;unfold stD;rw[K04,K2 hc];rfl
theorem Z0Q{f:Addr}{k:Nat}{mb:G->M Out}(F:Fun K x x st f fd)(S:FnScope N ps (j4 st))(hn:ps.length=n)
 (body:∀(cdv:Value) (A:Around) (outer:List Env) (s:Shared) (H:Hp) (E:XK),Room k (A.deeper (envOfC x (j4 st) .(4) f cdv)) ->
  SB (cxOf CX0 P w K mg base N x (j4 st) f cdv A outer s H E).nox EX0 (z0x st) mb):FnOk P w K mg base CX0 (k+1) f fd ps (spB K (runF N.length mb) n):=by
 refine F.ok S (λvs H Q E h=>h.1.trans hn.symm) (λcdv A outer s H vs Q E hr h=>?_);obtain⟨hl,ρ,ds,h,rh,rd,fin⟩:=h;refine⟨_,(body cdv A outer s H E hr).h,ρ,z10 N.length ds,h,⟨z4S rd,rh⟩,?_⟩;refine(Fin.bind fin).mono λo ρ1 h1 H1 p1 e1 r1 f1=>?_;cases o with
 | nx γ=>exact λσ _=>FE.here (d:=.non) (h:=h1) f1 r1 .(C)
 | rt d=>exact λv rv=>f1 ρ1 H1 .(b) .(d) r1 v rv
 | bk γ=>exact(show False from f1).elim
 | ct γ=>exact(show False from f1).elim
theorem bindsTo1{p:Str}{f:Addr}(F:Fun K x x st f fd)
 (h:∀(kV doc pm:Value) (an:Option Addr) (cdv ct u:Value),bindArgs (K3z x x (z3e st) (z0x st) (j4 st) .none kV doc pm an cdv ct) ⟨[u],[]⟩=pure [(p,u)]):∀(s:Shared) (u:Value),Z1c s fd ⟨[u],[]⟩ [(p,u)]:=by
 obtain⟨oc,od,kV,doc,pm,an,cdv,ct,osl,rfl,lk,hcd⟩:=F.ex;exact λs u=>.of_eq (h kV doc pm an cdv ct u)
theorem law_walk{l:Z22}{q:K1a}{loose:List Str}{XP:(Str->Option Value)->Heap->Prop}{YP:World->Heap->Prop}{d:DefRec}{K:Params->K1}{m:List D->M D}{p:Str}{lev:Nat}(hn:l.most=some 63)(hdf:d.params.defaults=[])(hr:Room lev K8h)
 (hY:∀(w:World) (h:Heap),YP w h->(K w.params).In h)
 (F:∀(w:World) (mg:Str->Option Value) (fa:Addr) (h:Heap),(K w.params).In h->h.Ns K1p mg->mg d.name=.(r fa) ->
  ∃fd:K4x,(∀(s:Shared) (u:Value),Z1c s fd ⟨[u],[]⟩ [(p,u)])/\∀base:Heap,(K w.params).In base->base.Ns K1p mg->FnOk l.prog w (K w.params) mg base CX0 lev fa fd [p] (spB (K w.params) m 1))
 (math:∀ns:List Int,ns.length<=63->∃h',m [.fl (ns.map .int)] []=.ok (.bl true) h') :
 Z2f q loose XP YP l.row.toRowW d [] (λf vs=>Z2a f vs):=by
 refine L2.walk_of (n:=63) (k:=lev) (x:=p) (CX:=λ_=>CX0) (sp:=λw=>spB (K w.params) m 1) hn .(0) hdf hr hY F (λw H a ns hl hO hS=>?_) λ_ _ _ _ _ z=>z;obtain⟨h',e⟩:=math ns hl;have sq:SqLP (K w.params) H a (ns.map V.int):=by
  rcases hS with (h|⟨o,h⟩)|h
  ·rcases hO a with z|⟨ob,xs,z⟩<;>rw[h]at z<;>cases z
  ·exact .inl ⟨o,h⟩
  ·exact .inr h
 refine⟨rfl,[],[.fl (ns.map .int)],[],⟨rfl,λi j a h=>by simp at h,λn o a h=>by simp at h⟩,RDs.cons ?_ RDs.nil,?_⟩
 ·simp only[RD];exact⟨a,_,rfl,sq,z5M ns⟩
 ·rw[e];exact λρ' H' _ _ _ v rv=>by simpa [RD] using rv
mutual
def Y8(n:Nat):D->Bool
 | .ref i=>decide (i<n)
 | .tup xs=>J8 n xs
 | .fl xs=>J8 n xs
 | _=>true
def J8(n:Nat):List D->Bool
 | []=>true
 | d::r=>Y8 n d&&J8 n r
end
def refO(n:Nat):O->Bool
 | .lst xs=>J8 n xs
 | .dK kvs=>J8 n (kvs.map (·.2))
 | .dF kvs=>J8 n (kvs.map (·.2))
 | .ins _ fs=>J8 n (fs.map (·.2))
 | _=>true
def Kept(h h1:AH):Prop:=∀(i:Nat) (o:O),i<h.length->h1[i]?=some o->h[i]?=some o\/refO h.length o=true
section
variable{ρ':List Addr}
theorem z6o{i:Nat}(h:i<n):(ρ.take n)[i]?=ρ[i]?:=by rw[K32,if_pos h]
mutual
theorem RD.cut{n:Nat}:∀{d:D}{v:V},Y8 n d=true->RD K ρ H d v->RD K (ρ.take n) H d v
 | .non,v,_,h=>by simpa [RD] using h
 | .bl b,v,_,h=>by simpa [RD] using h
 | .int b,v,_,h=>by simpa [RD] using h
 | .str b,v,_,h=>by simpa [RD] using h
 | .tup ds,v,c,h=>by
  simp only[RD,Y8]at h c ⊢;obtain⟨a,xs,h1,h2,h3⟩:=h;exact⟨a,xs,h1,h2,RDs.cut c h3⟩
 | .fl ds,v,c,h=>by
  simp only[RD,Y8]at h c ⊢;obtain⟨a,xs,h1,h2,h3⟩:=h;exact⟨a,xs,h1,h2,RDs.cut c h3⟩
 | .ref i,v,c,h=>by
  simp only[RD,Y8,decide_eq_true_eq]at h c ⊢;obtain⟨a,h1,h2⟩:=h;exact⟨a,h1,by rw[z6o c];exact h2⟩
theorem RDs.cut{n:Nat}:∀{ds:List D}{xs:List V},J8 n ds=true->RDs K ρ H ds xs->RDs K (ρ.take n) H ds xs
 | [],xs,_,h=>by simpa [RDs] using h
 | d::ds,xs,c,h=>by
  simp only[RDs,J8,K0i]at h c ⊢;obtain⟨x,r,h1,h2,h3⟩:=h;exact⟨x,r,h1,RD.cut c.1 h2,RDs.cut c.2 h3⟩
end
mutual
theorem RD.low:∀{d:D}{v:V},RD K ρ H d v->Y8 ρ.length d=true
 | .non,v,h=>rfl
 | .bl b,v,h=>rfl
 | .int b,v,h=>rfl
 | .str b,v,h=>rfl
 | .tup ds,v,h=>by
  simp only[RD,Y8]at h ⊢;obtain⟨a,xs,h1,h2,h3⟩:=h;exact RDs.low h3
 | .fl ds,v,h=>by
  simp only[RD,Y8]at h ⊢;obtain⟨a,xs,h1,h2,h3⟩:=h;exact RDs.low h3
 | .ref i,v,h=>by
  simp only[RD,Y8,decide_eq_true_eq]at h ⊢;obtain⟨a,h1,h2⟩:=h;exact(K5.mp h2).1
theorem RDs.low:∀{ds:List D}{xs:List V},RDs K ρ H ds xs->J8 ρ.length ds=true
 | [],xs,h=>rfl
 | d::ds,xs,h=>by
  simp only[RDs,J8,K0i]at h ⊢;obtain⟨x,r,h1,h2,h3⟩:=h;exact⟨RD.low h2,RDs.low h3⟩
end
theorem RK.cut{κ:Type}{n:Nat}:∀{kvs:List (κ×D)}{vs:List (κ×V)},J8 n (kvs.map (·.2))=true->RK K ρ H kvs vs->RK K (ρ.take n) H kvs vs
 | _,_,_,.nil=>.nil
 | _,_,c,.cons a b=>by
  simp only[K0v,J8,K0i]at c;exact .cons ⟨a.1,a.2.cut c.1⟩ (RK.cut c.2 b)
theorem RK.low{κ:Type}:∀{kvs:List (κ×D)}{vs:List (κ×V)},RK K ρ H kvs vs->J8 ρ.length (kvs.map (·.2))=true
 | _,_,.nil=>rfl
 | _,_,.cons a b=>by
  simp only[K0v,J8,K0i];exact⟨a.2.low,RK.low b⟩
theorem RO.cut{n:Nat}{o:O}{a:Addr}(c:refO n o=true)(h:RO K ρ H o a):RO K (ρ.take n) H o a:=by
 cases o with
 | lst ds=>obtain⟨xs,h1,h2⟩:=h;exact⟨xs,h1,h2.cut c⟩
 | set ks=>exact h
 | dct=>exact h
 | dK kvs=>obtain⟨vs,h1,h2⟩:=h;exact⟨vs,h1,h2.cut c⟩
 | dF kvs=>obtain⟨ob,vs,h1,h2⟩:=h;exact⟨ob,vs,h1,h2.cut c⟩
 | exc c=>exact h
 | ins c' fs=>obtain⟨C,dx,vs,h1,h2,h3⟩:=h;exact⟨C,dx,vs,h1,h2,h3.cut c⟩
theorem RO.low{o:O}{a:Addr}(h:RO K ρ H o a):refO ρ.length o=true:=by
 cases o with
 | lst ds=>obtain⟨xs,h1,h2⟩:=h;exact h2.low
 | set ks=>rfl
 | dct=>rfl
 | dK kvs=>obtain⟨vs,h1,h2⟩:=h;exact h2.low
 | dF kvs=>obtain⟨ob,vs,h1,h2⟩:=h;exact h2.low
 | exc c=>rfl
 | ins c fs=>obtain⟨C,dx,vs,_,_,h3⟩:=h;exact h3.low
theorem RH.cut{h:AH}{n:Nat}(r:RH K ρ h H)(c:∀o∈h.take n,refO n o=true):RH K (ρ.take n) (h.take n) H:=by
 refine⟨by simp[r.len],λi j a h1 h2=>?_,λm o a h1 h2=>?_⟩
 ·rw[K32]at h1 h2;split at h1
  ·split at h2
   ·exact r.nd i j a h1 h2
   ·cases h2
  ·cases h1
 ·have hm:=K06 h1;rw[K32]at h1 h2;split at h1
  ·rename_i q;rw[if_pos q]at h2;exact(r.obj m o a h1 h2).cut (c o hm)
  ·cases h1
theorem RH.cut1{i:Nat}(r:RH K ρ h H)(c:∀o∈h.take n,refO n o=true)(hn:n<=h.length)(hi:n<=i)(e:h[i]?=some o)(co:refO n o=true):∃a,ρ[i]?=some a/\RH K (ρ.take n++[a]) (h.take n++[o]) H:=by
 obtain⟨a,ea,ra⟩:=r.at e;have r1:=r.cut c;have ln:(ρ.take n).length=n:=by rw[K19,r.len];omega
 have lh:(h.take n).length=n:=by rw[K19];omega
 have ne:∀{m:Nat} {b:Addr},(ρ.take n)[m]?=some b->b≠a:=λ{m b} q z=>by
  have hm:=(K5.mp q).1;rw[ln]at hm;rw[z6o hm,z]at q;have:=r.nd m i a q ea;omega
 refine⟨a,ea,by simp[r1.len],λi j b h1 h2=>?_,λm u b h1 h2=>?_⟩
 ·rw[K41]at h1 h2;split at h1<;>split at h2
  ·exact r1.nd i j b h1 h2
  ·rename_i q1 q2;rw[K1s]at h2;split at h2
   ·cases h2;exact absurd rfl (ne h1)
   ·cases h2
  ·rename_i q1 q2;rw[K1s]at h1;split at h1
   ·cases h1;exact absurd rfl (ne h2)
   ·cases h1
  ·rw[K1s]at h1 h2;split at h1
   ·split at h2
    ·omega
    ·cases h2
   ·cases h1
 ·rw[K41]at h1 h2;rw[ln]at h2;rw[lh]at h1;split at h1
  ·rename_i q;rw[if_pos q]at h2;exact(r1.obj m u b h1 h2).mono (Pre.app _ _) .(d) rfl
  ·rename_i q;rw[if_neg q]at h2;rw[K1s]at h1 h2;split at h1
   ·rename_i q0;rw[if_pos q0]at h2;cases h1;cases h2;exact(ra.cut co).mono (Pre.app _ _) .(d) rfl
   ·cases h1
end
theorem zk0(r:RH K ρ h H)(c:Kept h h1):∀o∈h1.take h.length,refO h.length o=true:=λo ho=>by
 obtain⟨i,hi⟩:=K4w ho;rw[K32]at hi;split at hi
 ·rename_i li;rcases c i o li hi with q|q
  ·obtain⟨a,_,ra⟩:=r.at q;rw[<- r.len];exact ra.low
  ·exact q
 ·cases hi
theorem z8o(h j:AH):Kept h (h++j):=λi o li e=>.inl (by rw[K0n li]at e;exact e)
open Classical in
def cln(m:M D):M D:=λh=>match m h with
 | .ok d h1=>if h.length<=h1.length/\Kept h h1 then
  (if Y8 .(m) d=true then .ok d (h1.take .(m)) else match d with
   | .ref i=>(match h1[i]? with
    | some o=>if refO h.length o=true then .ok .(R) (h1.take h.length++[o]) else .ok d h1
    | none=>.ok d h1)
   | d=>.ok d h1)
  else .ok d h1
 | .err x h1=>.err x h1
 | .bad=>.bad
theorem FE.cln{K:K1}{EX:XX}{ρ:List Addr}{h:AH}{H:Hp}{Q:VK}{m:M D}(r:RH K ρ h H)(f:FE K EX ρ H Q (cln m h)):FE K EX ρ H Q (m h):=by
 unfold FT.cln at f;cases e:m h with
 | bad=>rw[e]at f;exact f
 | err x h1=>rw[e]at f;exact f
 | ok d h1=>
  rw[e]at f;dsimp only at f;split at f
  ·rename_i c;obtain⟨hl,c⟩:=c;have cl:=zk0 r c;have pre:∀{ρ1:List Addr},Pre ρ ρ1->Pre ρ (ρ1.take .(m)):=λ{ρ1} p i a q=>by
    have:=(K5.mp q).1;rw[r.len]at this;rw[z6o this];exact p i a q
   split at f
   ·rename_i cd;exact λρ1 H1 p1 e1 r1 v rv=>f _ H1 (pre p1) e1 (r1.cut cl) v (rv.cut cd)
   ·rename_i nd;split at f
    ·rename_i i;split at f
     ·rename_i o eo;split at f
      ·rename_i co;intro ρ1 H1 p1 e1 r1 v rv;have hi:.(m)<=i:=by
        simp only[Y8,decide_eq_true_eq]at nd;omega
       obtain⟨a,ea,r2⟩:=r1.cut1 cl hl hi eo co;refine f _ H1 ((pre p1).trans (Pre.app _ _)) e1 r2 v ?_;simp only[RD]at rv ⊢;obtain⟨b,h2,h3⟩:=rv;rw[ea]at h3;cases h3;refine⟨a,h2,?_⟩;have ln:(ρ1.take .(m)).length=h.length:=by rw[K19,r1.len];omega
       rw[K1i .(1),ln];simp
      ·exact f
     ·exact f
    ·exact f
  ·exact f
def clE(m:G->M D):G->M D:=λγ=>cln (m γ)
theorem z1p{m:G->M D}(h:SE X EX e m):SE X EX e (clE m):=
 ⟨PE.imp h.h λσ H Q ⟨ρ,γ,h,rel,fin⟩=>⟨ρ,γ,h,rel,FE.cln rel.h fin⟩⟩
open Classical in
def clT(m:G->M Bool):G->M Bool:=λγ h=>match m γ h with
 | .ok d h1=>if h.length<=h1.length/\Kept h h1 then .ok d (h1.take h.length) else .ok d h1
 | .err x h1=>.err x h1
 | .bad=>.bad
theorem RH.cut2{ρ1:List Addr}{H1:Hp}(r:RH K ρ h H)(p1:Pre ρ ρ1)(r1:RH K ρ1 h1 H1)(c:Kept h h1):RH K (ρ1.take h.length) (h1.take h.length) H1/\Pre ρ (ρ1.take h.length):=by
 refine⟨r1.cut (zk0 r c),λi a q=>?_⟩;have:=(K5.mp q).1;rw[r.len]at this;rw[z6o this];exact p1 i a q
theorem zg5{m:G->M Bool}(h:SC X EX e m):SC X EX e (clT m):=
 ⟨PT.imp h.h λσ H Q ⟨ρ,γ,h,rel,fin⟩=>⟨ρ,γ,h,rel,by
  unfold clT at fin;cases e:m γ h with
  | bad=>rw[e]at fin;exact fin
  | err x h1=>rw[e]at fin;exact fin
  | ok d h1=>
   rw[e]at fin;dsimp only at fin;split at fin
   ·rename_i c;exact λρ1 H1 p1 e1 r1=>let ⟨r2,p2⟩:=rel.h.cut2 p1 r1 c.2;fin _ H1 p2 e1 r2
   ·exact fin⟩⟩
theorem Fn.cln{P:K1a}{w:World}{K:K1}{mg:Str->Option Value}{base:Heap}{k:Nat}{x:Str}{n:Nat}{mf:List D->M D}(F:Fn P w K mg base k x n mf):Fn P w K mg base k x n (λds=>cln (mf ds)):=by
 obtain⟨f,fd,ps,h1,h2,h3,h4⟩:=F.ex;exact⟨f,fd,ps,h1.imp λvs H Q E ⟨hl,ρ,ds,h,rh,rd,fin⟩=>⟨hl,ρ,ds,h,rh,rd,FE.cln rh fin⟩,h2,h3,h4⟩
end FT
namespace L2
open PySem PySem.Spec PyProof.Rows PySem.Builtin
theorem z4j:fillsNumberSlot (.type "tuple") "mul" = pure false:=
 PySem.fillsNumberSlot_seq (id:="tuple.__mul__") (r:=some (.builtin "tuple.__rmul__")) K3i.lookup .(2) K7y.lookup .(2)
theorem z7g:seqRepeat? (.type "tuple")=pure (some (.builtin "tuple.__mul__")):=by
 unfold seqRepeat?;rw[Z1p (T:="tuple") (name:="__mul__") (id:="tuple.__mul__") K3i.lookup .(2),Z1p (T:="tuple") (name:="__rmul__") (id:="tuple.__rmul__") K7y.lookup .(2)];rfl
theorem zG6(a:Int)(t:Tok)(l:Addr)(items:Array Value)(n:Nat)(dd:Option Addr)(sl:Array (Option Value)) :
 Meets (Builtin.«int.__rmul__» ⟨[.int a t,.ref l],[]⟩) (λ_ R s=>s.heap.get? l=some { cls:=.type "tuple",dict:=dd,data:=.seq items n,slots:=sl }/\R (.ok (.ret Value.notImplemented)) s):=
 .of_wp λprog w A R s h=>by obtain⟨hp,g,d,tk,os⟩:=s;obtain⟨hl,h⟩:=h;wp_walk;exact⟨_,rfl,h⟩
theorem zW8(l:Addr)(items:Array Value)(n:Nat)(dd:Option Addr)(sl:Array (Option Value))(x:Int)(u:Tok)(h1:-(2 ^ 63)<=x)(h2:x<2 ^ 63)(hc:items.isEmpty=true\/x=1) :
 Meets (Builtin.«tuple.__mul__» ⟨[.ref l,.int x u],[]⟩) (λ_ R s=>s.heap.get? l=some { cls:=.type "tuple",dict:=dd,data:=.seq items n,slots:=sl }/\R (.ok (.ret (K1f l))) s):=
 .of_wp λprog w A R s h=>by
  obtain⟨hp,g,d,tk,os⟩:=s;obtain⟨hl,h⟩:=h;have f1:=K5p;have c1:(decide (x < -(2 ^ 63))||decide (x >= 2 ^ 63))=false:=by simp;omega
  have c2:(items.isEmpty||x==1)=true:=by simpa using hc
  wp_walk using K1o hl
  refine K3d (by rw[c1];rfl) ?_
  wp_walk using K1o hl
  exact⟨_,rfl,h⟩
theorem zO0(l:Addr)(items:Array Value)(n:Nat)(dd:Option Addr)(sl:Array (Option Value))(x:Int)(u:Tok)(h1:-(2 ^ 63)<=x)(h2:x<2 ^ 63)(hc:items.isEmpty=false)(hx:x<=0) :
 Meets (Builtin.«tuple.__mul__» ⟨[.ref l,.int x u],[]⟩) (λ_ R s=>s.heap.get? l=some { cls:=.type "tuple",dict:=dd,data:=.seq items n,slots:=sl }/\R (.ok (.ret (K1f .(4)))) { s with heap:=s.heap.push { cls:=K45 "tuple",data:=Z29 #[] },toks:=s.toks }):=
 .of_wp λprog w A R s h=>by
  obtain⟨hp,g,d,tk,os⟩:=s;obtain⟨hl,h⟩:=h;have f1:=K5p;have c1:(decide (x < -(2 ^ 63))||decide (x >= 2 ^ 63))=false:=by simp;omega
  have c2:(items.isEmpty||x==1)=false:=by rw[hc];simp;omega
  have c3:(decide (x<=0)||items.isEmpty)=true:=by simp[hx]
  wp_walk using K1o hl
  refine K3d (by rw[c1];rfl) ?_
  wp_walk using K1o hl
  refine K3d (by rw[c2];rfl) ?_
  wp_walk using K1o hl
  exact⟨_,rfl,h⟩
theorem zZ9(l:Addr)(items:Array Value)(n:Nat)(dd:Option Addr)(sl:Array (Option Value))(x:Int)(u:Tok)(h1:-(2 ^ 63)<=x)(h2:x<2 ^ 63)(hc:items.isEmpty=false)(hx:1<x)(hz:items.size * x.toNat<=sizeLine) :
 Meets (Builtin.«tuple.__mul__» ⟨[.ref l,.int x u],[]⟩) (λ_ R s=>s.heap.get? l=some { cls:=.type "tuple",dict:=dd,data:=.seq items n,slots:=sl }/\R (.ok (.ret (K1f .(4)))) { s with heap:=s.heap.push { cls:=K45 "tuple",data:=Z29 (K62 (λx1 x2=>x1++x2) #[] (K0c x.toNat items)) },toks:=s.toks }):=
 .of_wp λprog w A R s h=>by
  obtain⟨hp,g,d,tk,os⟩:=s;obtain⟨hl,h⟩:=h;have f1:=K5p;have c1:(decide (x < -(2 ^ 63))||decide (x >= 2 ^ 63))=false:=by simp;omega
  have c2:(items.isEmpty||x==1)=false:=by rw[hc];simp;omega
  have c3:(decide (x<=0)||items.isEmpty)=false:=by rw[hc];simp;omega
  have ez:(items.size:Int) * x=((.(D) * x.toNat:Nat):Int):=by
   rw[Z25,K9g .(1)]
  have sl4:(sizeLine:Nat)<=2 ^ 24:=by decide
  have c4:¬ (items.size:Int) * x > (2 ^ 63 - 1) / 8:=by rw[ez];omega
  have c5:Tuple.tupleTooMany ((items.size:Int) * x)=false:=by
   unfold Tuple.tupleTooMany;rw[ez,decide_eq_false_iff_not];omega
  wp_walk using K1o hl
  refine K3d (by rw[c1];rfl) ?_
  wp_walk using K1o hl
  refine K3d (by rw[c2];rfl) ?_
  wp_walk using K1o hl
  refine K3d (by rw[c3];rfl) ?_
  wp_walk using K1o hl
  rw[if_neg c4]
  wp_walk using K1o hl
  refine K3d (by rw[c5];rfl) ?_
  wp_walk using K1o hl
  have c6:¬ (K62 (λx1 x2=>x1++x2) #[] (K0c x.toNat items)).size > sizeLine:=by
   have f0:=foldl_rep items.toList x.toNat [];rw[K8w]at f0;have:(K62 (λx1 x2=>x1++x2) #[] (K0c x.toNat items))=(K0c x.toNat items.toList).flatten.toArray:=f0;rw[this,K07,len_rep,K18,K6j];omega
  refine K3d (.(y) c6) ?_
  wp_walk using K1o hl
  exact⟨_,rfl,h⟩
def zO5(K:K1):R2:=λx y H Q=>∃a k xs,x=.ref a/\y=.int k/\SqT K H a xs/\-(2 ^ 63)<=k/\k<2 ^ 63/\xs.length * k.toNat<=sizeLine /\
 ((xs=[]\/k=1)->Q (.ref a) H)/\(∀p,H p=none->Q (.ref p) (upd H p (.tup (K0c k.toNat xs).flatten)))
theorem zL5{X:Cx}:OpR X (K3e .Mult) (zO5 X.K):=by
 intro pins s σ H x y v u Q I rx ry h;obtain⟨a,k,xs,rfl,rfl,ha,h1,h2,hz,q1,q2⟩:=h;cases rx;obtain⟨t,rfl⟩:=ry;obtain⟨its,r1,p1,_⟩:=I.tuple ha;obtain⟨⟨cls,dd,data,sl⟩,ho,hc,n,hd⟩:=id p1;simp only at hc hd;subst hc hd;have go:∀(R:Value->Shared->Prop),wpAny .(8) X.A (call (.builtin "tuple.__mul__") [.ref a,.int k t]) R X.xe s->wpAny .(8) X.A (K3e .Mult (.ref a) (.int k t)) R X.xe s:=λR z=>
  K78 (T:="tuple") (U:="int") .(0) ⟨_,ho,rfl⟩ (λs'=>K8j s' k t) z4j PySem.F.fills_int_mul K91 z7g PySem.F.slot_int_index.lookup
   (K4e K91 (K8j s k t) PySem.F.entry_int_rmul (PySem.F.args_int_rmul_2 _ _) (zG6 k t a its.toArray n dd sl) ⟨ho,rfl,⟨_,ho,rfl⟩,z⟩)
 refine go _ ?_;have ln:its.length=xs.length:=r1.length.symm;by_cases c:xs=[]\/k=1
 ·refine K4e K3i ⟨_,ho,rfl⟩ K5k (K58 _ _) (zW8 a its.toArray n dd sl k t h1 h2 ?_) ⟨ho,.ref a,H,I,rfl,q1 c⟩;rcases c with c|c
  ·left;have:its=[]:=r1.nil_iff.mpr c;rw[this];rfl
  ·exact .inr c
 ·have ne:its.toArray.isEmpty=false:=by
   cases its with
   | nil=>exact absurd (.inl (r1.nil_iff.mp rfl)) c
   | cons a r=>rfl
  by_cases k0:k<=0
  ·refine K4e K3i ⟨_,ho,rfl⟩ K5k (K58 _ _) (zO0 a its.toArray n dd sl k t h1 h2 ne k0) ⟨ho,?_⟩;have e0:k.toNat=0:=by omega
   refine⟨.ref .(4),_,I.laid (t':=s.toks) (o:=.tup (K0c k.toNat xs).flatten) (λb ob q=>K8 _ q) (K05 _) ?_,rfl,q2 _ (I.hok.fresh (K05 _))⟩;rw[e0];exact⟨by simp,_,.nil,FT.IsTup0.new _ _⟩
  ·have k2:1<k:=by
    have:k≠1:=λz=>c (.inr z);omega
   refine K4e K3i ⟨_,ho,rfl⟩ K5k (K58 _ _) (zZ9 a its.toArray n dd sl k t h1 h2 ne k2 (by rw[K07,ln];exact hz)) ⟨ho,?_⟩;refine⟨.ref .(4),_,I.laid (t':=s.toks) (o:=.tup (K0c k.toNat xs).flatten) (λb ob q=>K8 _ q) (K05 _) ?_,rfl,q2 _ (I.hok.fresh (K05 _))⟩;refine⟨by rw[len_rep,K6j];exact hz,_,r1.rep k.toNat,?_⟩;have f0:=foldl_rep its k.toNat [];rw[K8w]at f0;have e:(K62 (λx1 x2=>x1++x2) #[] (K0c k.toNat its.toArray))=(K0c k.toNat its).flatten.toArray:=f0;rw[e];exact FT.IsTup0.new _ _
end L2
namespace FT
def z51:D->D->M D
 | .tup x,.int j=>if decide (-(2 ^ 63)<=j)&&decide (j<2 ^ 63)&&decide (j.toNat * x.length<=sizeLine) then pure (.tup (K0c j.toNat x).flatten) else bad
 | x,y=>fMul x y
theorem zF1{X:Cx}{EX:XX}:BR X.K EX (λx y H Q=>(rI CMul (λi j=>.int (i * j)) x y H Q\/rRep x y H Q)\/zO5 X.K x y H Q) z51:=by
 intro ρ h H x y v u Q r rx ry fin;unfold z51 at fin;split at fin
 ·rename_i ds j;simp only[RD]at rx ry;obtain⟨a,xs,rfl,sq,rd⟩:=rx;subst ry;split at fin
  ·rename_i hc;simp only[K0i,decide_eq_true_eq]at hc;have hl:=rd.length;refine .inr ⟨a,j,xs,rfl,rfl,sq,hc.1.1,hc.1.2,by rw[<- hl,K6j];exact hc.2,λc=>?_,λp hp=>FE.tup fin r (rd.flat j.toNat) hp⟩;refine FE.here fin r ?_;simp only[RD];refine⟨a,xs,rfl,sq,?_⟩;rcases c with c|c
   ·subst c;have:ds=[]:=by simpa using hl
    subst this;have:(K0c j.toNat ([]:List D)).flatten=[]:=by simp
    rw[this];exact rd
   ·subst c;have:(K0c (1:Int).toNat ds).flatten=ds:=by simp
    rw[this];exact rd
  ·exact fin.elim
 ·exact .inl (zT2 ρ h H x y v u Q r rx ry fin)
theorem z4Y{X:Cx}{EX:XX}{a b:Expr}{pos:Pos}{ma mb:G->M D}(ha:SE X EX a ma)(hb:SE X EX b mb):SE X EX (.BinOp a .Mult b pos) (e2 z51 ma mb):=z9e ((op_mul.or zO3).or zL5) zF1 ha hb
end FT
namespace L2
open PySem.AutoSeq1 (wpAny_loadPart')
variable{prog:K1a}{w:World}{A:Around}{E:Value->Shared->Prop}{s:Shared}{Q:List Value->Shared->Prop}{r p:Addr}{n:Nat}{acc:Array Value}{pins:List (Addr×Obj)}
theorem z5N{Q:List Value->Shared->Prop}{a b c:Int}{t u v:Tok}{n:Nat}(hh:A.handled=none)(hr:Z1b s.heap r a b c t u v)(hsmall:K55 a b c=true)
 (hn:K37 a b c=n) (hlen:n<=2 ^ 24)
 (hQ:∀h' tk (acc:Array Value),(∀b o,s.heap.get? b=some o->h'.get? b=some o)->K7i (λi v=>∃t,v=.int (a+i * c) t) acc n->Q acc.toList { s with heap:=h',toks:=tk }):wpAny (model prog w) A (Z1a (.ref r)) Q E s:=by
 unfold Z1a;refine K0 (K5w (K2g PySem.F.entry_proto_collect ?_));rw[K1w K6m _];show wpAny _ A.in1 (Z19 [] >>= λl=>again (.builtin "list.__iadd__" ⟨[l,.ref r],[]⟩)) _ _ s;refine K0 (K1b ?_);refine K9 ⟨K57 K2z _,K2g PySem.F.entry_list_iadd ?_⟩;rw[K1w K2z _];show wpAny _ A.in1 (K3h (.ref .(4)) (.ref r) (.ref .(4))) _ _ _;have hS:(s.heap.push { cls:=.type "list",data:=.seq ([]:List Value).toArray }).get? .(4)=some { cls:=.type "list",data:=.seq #[] }:=K0b _ rfl;refine K2i (wpAny_extend_range (A:=A) (R:=λrs s'=>rs=.ok (.ret (.ref .(4)))/\∃h' tk acc' c',s'={ s with heap:=h',toks:=tk }/\(∀b o,s.heap.get? b=some o->h'.get? b=some o)/\h'.get? .(4)=some { cls:=.type "list",dict:=none,data:=.seq acc' c',slots:=#[] }/\K7i (λi v=>∃t,v=.int (a+i * c) t) acc' n)
  hh (K8 _ hr) hsmall hn hlen .(4) (.ref .(4)) _ hS λh' tk acc' c' hk hS' hacc=>⟨rfl,h',tk,acc',c',rfl,λb o e=>hk b o (K0o (K0a e)) (K8 _ e),hS',hacc⟩) (λfin s' h=>?_) (λe s' h=>?_)
 ·have fin':∀s',(∃h' tk acc' c',s'={ s with heap:=h',toks:=tk }/\(∀b o,s.heap.get? b=some o->h'.get? b=some o)/\h'.get? .(4)=some { cls:=.type "list",dict:=none,data:=.seq acc' c',slots:=#[] }/\K7i (λi v=>∃t,v=.int (a+i * c) t) acc' n)->wpAny (model prog w) A (match K1f .(4) with
   | K1f a=>do
    match (<- load a).data with
     | Z29 xs _=>pure xs.toList
     | _=>Z20 "internal:collect"
   | _=>Z20 "internal:collect") Q E s':=λs' ⟨h',tk,acc',c',e,k,hS',hacc⟩=>by
   subst e;show wpAny _ A (load .(4) >>= _) _ _ _;refine K0 (K8i hS' ?_);exact K9 (hQ h' tk acc' k hacc)
  cases fin with
  | done f=>
   obtain⟨e,h⟩:=h;cases e;exact fin' s' h
  | again c'=>exact⟨h.1,K42 h.2 λrs s'' hr=>by obtain⟨rfl,h⟩:=hr;exact fin' s'' h⟩
 ·exact absurd h.1 .(f)
theorem z42(r:Addr)(a b c:Int)(t u v:Tok)(n:Nat)(hsmall:K55 a b c=true)(hn:K37 a b c=n)(hlen:n<=2 ^ 24):
 Meets (Builtin.«tuple.__new__» ⟨[.type "tuple",.ref r],[]⟩)
  (λA R s=>A.handled=none/\Z1b s.heap r a b c t u v/\∀(h':Heap) (tk:Nat) (acc:Array Value),(∀b o',s.heap.get? b=some o'->h'.get? b=some o')->K7i (λi v=>∃t,v=.int (a+i * c) t) acc n->R (.ok (.ret (.ref h'.objs.size))) { s with heap:=h'.push { cls:=.type "tuple",data:=.seq acc },toks:=tk }):=
 .of_wp λprog w A R s h=>by
  obtain⟨hp,g,d,tk,os⟩:=s;obtain⟨hh,hr,h⟩:=h;have hsub:=sub_tuple_self;have hinit:=init_tuple_lookup;have hmh:=madeHere_tuple;have hT:K7m ⟨hp,g,d,tk,os⟩ (.ref r) "range":=⟨_,hr,rfl⟩;have hh1:A.in1.handled=none:=hh
  wp_walk using K1o hr,K5u hT,z5N hh1 hr hsmall hn hlen
  intro h' tk' acc hk hacc;show wpAny _ _ (K2c acc.toList.toArray >>= λv=>ret v) _ _ _;unfold K2c;refine K0 (K1b ?_ (show acc.toList.toArray.size<=sizeLine by simp only[Array.toArray_toList];rw[hacc.1,K7j];omega));refine K9 ⟨_,rfl,?_⟩;have e:acc.toList.toArray=acc:=by simp
  rw[e];exact h h' tk' acc hk hacc
theorem z4n{prog:K1a}{w:World}{E:Value->Shared->Prop}{Q:Value->Shared->Prop}{a b c:Int}{t u v:Tok}{n:Nat}(hh:A.handled=none)(hr:Z1b s.heap r a b c t u v)(hsmall:K55 a b c=true)
 (hn:K37 a b c=n) (hlen:n<=2 ^ 24)
 (h:∀(h':Heap) (tk:Nat) (acc:Array Value),(∀b o',s.heap.get? b=some o'->h'.get? b=some o')->K7i (λi v=>∃t,v=.int (a+i * c) t) acc n->Q (.ref h'.objs.size) { s with heap:=h'.push { cls:=.type "tuple",data:=.seq acc },toks:=tk }) :
 wpAny (model prog w) A (call (.type "tuple") [.ref r]) Q E s:=
 Z1i PySem.F.called_tuple .(0) (PySem.F.typeCall_tuple_1 _) (PySem.F.newCall_tuple_1 _) (λobj=>K4y obj _) PySem.F.entry_tuple_new
  (z42 r a b c t u v n hsmall hn hlen) ⟨hh,hr,λh' tk acc hk hacc=>⟨⟨_,K0b _ rfl,rfl⟩,h h' tk acc hk hacc⟩⟩
def rngO(p:Addr)(n:Int):HO:=.ext λh=>∃t u v,Z1b h p 0 n 1 t u v
theorem zR8{P:K1a}{H:Hp}{h:Heap}{n:Int}{t u v:Tok}(e:Z1b h p 0 n 1 t u v):ObjOk P w H h p (rngO p n):=
 ⟨⟨t,u,v,e⟩,⟨_,e⟩,λh1 h2 ⟨t,u,v,e⟩ k=>⟨t,u,v,k _ e⟩⟩
def z5f(n:Nat):List V:=(K7 n).map λ(i:Nat)=>V.int i
theorem z5y(h:K7i (λi v=>∃t,v=K61 (0+i * 1) t) acc n):Vals (z5f n) acc.toList:=by
 obtain⟨hs,hi⟩:=h;have:∀(xs:List Value) (k:Nat),(∀j v,xs[j]?=some v->∃t,v=K61 (0+((k+j:Nat):Int) * 1) t)->Vals ((Z1x k .(21)).map λ(i:Nat)=>V.int i) xs:=by
  intro xs;induction xs with
  | nil=>intro k _;exact .nil
  | cons x r ih=>
   intro k hk;rw[K0d,K81,K0v];refine .cons ?_ (ih (k+1) λj v e=>?_)
   ·obtain⟨t,rfl⟩:=hk 0 x rfl;exact⟨t,by simp⟩
   ·obtain⟨t,rfl⟩:=hk (j+1) v (by simpa using e);exact⟨t,by congr 3;omega⟩
 have q:=this acc.toList 0 (λj v e=>by
  obtain⟨t,rfl⟩:=hi j v (by simpa using e);exact⟨t,by simp⟩)
 unfold z5f;rw[List.range_eq_range',<- hs];simpa using q
section
variable{X:Cx}
theorem z8Z:z2W X (.type "range") (λxs H Q=>∃j,xs=[.int j]/\∀p,H p=none->Q (.ref p) (upd H p (rngO p j))):=by
 intro pins s σ H xs us Q I r h;obtain⟨j,rfl,q⟩:=h;obtain⟨u,rfl,ru⟩:=vals1 r;obtain⟨t,rfl⟩:=ru;refine call_range_1 ⟨.ref .(4),_,I.laid (o:=rngO .(4) j) (λb ob q=>K8 _ q) (K05 _) (zR8 (K0b _ rfl)),rfl,q _ (I.hok.fresh (K05 _))⟩
theorem zx1{σ:St}{H:Hp}{j:Int}(I:Inv X pins σ H s)(e:H p=some (rngO p j)):∃t u v,Z1b s.heap p 0 j 1 t u v:=(I.hok p _ e).1
theorem zb7{j:Int}(h1:-(2 ^ 62)<=j)(h2:j<2 ^ 62):K55 0 j 1=true:=small_one .(1) .(1) h1 h2
theorem zz1(j:Int):K37 0 j 1=(j.toNat:Int):=by rw[rangeSize_one];split<;>omega
theorem z9b(hc:X.calm=true):z2W X (.type "list") (λxs H Q=>∃p j,xs=[.ref p]/\H p=some (rngO p j)/\-(2 ^ 62)<=j/\j<2 ^ 62/\j.toNat<=sizeLine/\∀l,H l=none->Q (.ref l) (upd H l (.lst (z5f j.toNat)))):=by
 intro pins s σ H xs us Q I r h;obtain⟨p,j,rfl,e,h1,h2,hl,q⟩:=h;obtain⟨u,rfl,ru⟩:=vals1 r;cases ru;obtain⟨t,u,v,hr⟩:=zx1 I e;have l4:(sizeLine:Nat)<=2 ^ 24:=by decide
 refine call_list_range (n:=j.toNat) (I.ok.hd hc) hr (zb7 h1 h2) (zz1 j) .(1) λh' tk acc c' kp e' hacc=>?_;have hv:=z5y hacc;refine⟨.ref s.heap.objs.size,_,I.laid (t':=tk) (o:=.lst (z5f j.toNat)) kp (K05 _) ⟨by unfold z5f;simpa using hl,acc.toList,c',hv,by simpa using e'⟩,rfl,q _ (I.hok.fresh (K05 _))⟩
theorem zj8(hc:X.calm=true):z2W X (.type "tuple") (λxs H Q=>∃p j,xs=[.ref p]/\H p=some (rngO p j)/\-(2 ^ 62)<=j/\j<2 ^ 62/\j.toNat<=sizeLine/\∀l,H l=none->Q (.ref l) (upd H l (.tup (z5f j.toNat)))):=by
 intro pins s σ H xs us Q I r h;obtain⟨p,j,rfl,e,h1,h2,hl,q⟩:=h;obtain⟨u,rfl,ru⟩:=vals1 r;cases ru;obtain⟨t,u,v,hr⟩:=zx1 I e;have l4:(sizeLine:Nat)<=2 ^ 24:=by decide
 refine z4n (n:=j.toNat) (I.ok.hd hc) hr (zb7 h1 h2) (zz1 j) .(1) λh' tk acc kp hacc=>?_;have hv:=z5y hacc;have I1:Inv X pins σ H { s with heap:=h',toks:=tk }:=I.kept kp;refine⟨.ref h'.objs.size,_,I1.laid (t':=tk) (o:=.tup (z5f j.toNat)) (λb ob z=>K8 _ z) (K05 _) ⟨by unfold z5f;simpa using hl,acc.toList,hv,?_⟩,rfl,q _ (I1.hok.fresh (K05 _))⟩;have:acc.toList.toArray=acc:=by simp
 rw[this];exact FT.IsTup0.new _ _
end
end L2
namespace FT
variable{K:K1}{ρ ρ0:List Addr}{H:Hp}{X:Cx}{EX:XX}{a:Addr}{p pos apos cpos spos:Pos}{h j r h1:AH}{xs ds:List D}{v:V}{pins:List (Addr×Obj)}{s:Shared}{A:Around}{u:Value}{its:Array Value}{x n i:Nat}{b neg:Bool}{α ι:Type}{Q:Out->AH->Prop}{m l S row own:List Nat}{γ:G}{cap:List (Option Nat)}{mi:G->M Src}{g:D->G->M G}{me mc mo:G->M D}{src:Src}{mb ms mt body:G->M Out}{y:Str}{st:List (List Nat)}{mk:List (List Str)}{mr:G->M (List D)}{gr sm ns:List Int}{o:O}{kvs:List (Key×D)}{vs:List Value}{e tg iter:Expr}{Z:List (Key×D)->List Addr->AH->Hp->Prop}{E:Value->Shared->Prop}{es ifs1 ifs:List Expr}{kb:G->M Bool}{N':List Str}
def eRng(tup:Bool)(ma:G->M D):G->M D:=λγ=>do
 let x <- ma γ
 match x with
 | .int j=>if decide (-(2 ^ 62)<=j)&&decide (j<2 ^ 62)&&decide (j.toNat<=sizeLine) then (if tup then pure (.tup (z1g j.toNat)) else newL (z1g j.toNat)) else bad
 | _=>bad
theorem zl0{K:K1}{ρ:List Addr}{H:Hp}{ι:Type}{f:ι->D}{g:ι->V}:∀(l:List ι),(∀i,RD K ρ H (f i) (g i))->RDs K ρ H (l.map f) (l.map g)
 | [],_=>RDs.nil
 | x::r,h=>RDs.cons (h x) (zl0 r h)
theorem z7j(n:Nat):RDs K ρ H (z1g n) (z5f n):=by
 unfold z1g z5f;exact zl0 _ λi=>by simp[RD]
section
variable{a:Expr}{p2 pos2:Pos}{ma:G->M D}
theorem zs3(hc:X.calm=true)(hg:Gl X "list")(hm:X.mg "list" = none)(hg2:Gl X "range")(hm2:X.mg "range" = none)(ha:SE X EX a ma)(he:K09 [a] X.env=[(false,eval a X.env)]:=by rfl)
 (he2:K09 [.Call (.Name "range" p2) [a] [] pos2] X.env=[(false,eval (.Call (.Name "range" p2) [a] [] pos2) X.env)]:=by rfl):SE X EX (.Call (.Name "list" p) [.Call (.Name "range" p2) [a] [] pos2] [] pos) (eRng false ma):=
 ⟨PE.imp (z1m (z9b hc) hg hm .(2) (z0P (z1m z8Z hg2 hm2 .(2) (z0P ha.h z2m he) .(0) .(0) he rfl) z2m he2) .(0) .(0) he2 rfl) λσ H Q ⟨ρ,γ,h,rel,fin⟩=>⟨ρ,γ,h,rel,(Fin.bind fin).mono λx ρ1 h1 H1 p1 e1 r1 f1 v rv=>by
  cases x<;>first|exact(show False from f1).elim|skip
  rename_i j;simp only[RD]at rv;subst rv;dsimp only at f1;split at f1
  ·rename_i c;simp only[K0i,decide_eq_true_eq]at c;rw[if_neg .(0)]at f1;refine⟨j,rfl,λq hq=>⟨q,j,rfl,J4,c.1.1,c.1.2,c.2,λl hl=>?_⟩⟩;unfold newL at f1;rw[if_pos (by unfold z1g;simpa using c.2)]at f1;exact FE.lst (Fin.up .(b) (Ext.upd (.inl hq)) f1) (r1.other hq) (z7j _) hl
  ·exact f1.elim⟩⟩
theorem zC4(hc:X.calm=true)(hg:Gl X "tuple")(hm:X.mg "tuple" = none)(hg2:Gl X "range")(hm2:X.mg "range" = none)(ha:SE X EX a ma)(he:K09 [a] X.env=[(false,eval a X.env)]:=by rfl)
 (he2:K09 [.Call (.Name "range" p2) [a] [] pos2] X.env=[(false,eval (.Call (.Name "range" p2) [a] [] pos2) X.env)]:=by rfl):SE X EX (.Call (.Name "tuple" p) [.Call (.Name "range" p2) [a] [] pos2] [] pos) (eRng true ma):=
 ⟨PE.imp (z1m (zj8 hc) hg hm .(2) (z0P (z1m z8Z hg2 hm2 .(2) (z0P ha.h z2m he) .(0) .(0) he rfl) z2m he2) .(0) .(0) he2 rfl) λσ H Q ⟨ρ,γ,h,rel,fin⟩=>⟨ρ,γ,h,rel,(Fin.bind fin).mono λx ρ1 h1 H1 p1 e1 r1 f1 v rv=>by
  cases x<;>first|exact(show False from f1).elim|skip
  rename_i j;simp only[RD]at rv;subst rv;dsimp only at f1;split at f1
  ·rename_i c;simp only[K0i,decide_eq_true_eq]at c;rw[if_pos rfl]at f1;refine⟨j,rfl,λq hq=>⟨q,j,rfl,J4,c.1.1,c.1.2,c.2,λl hl=>?_⟩⟩;exact FE.tup (Fin.up .(b) (Ext.upd (.inl hq)) f1) (r1.other hq) (z7j _) hl
  ·exact f1.elim⟩⟩
end
inductive Vw where
 | flat (d:D)|tup (xs:List D)|lst (xs:List D)|no
def vw(h:AH):D->Vw
 | .tup xs=>.tup xs
 | .fl xs=>.lst xs
 | .ref i=>match h[i]? with
  | .(l xs)=>.lst xs
  | _=>.no
 | d=>.flat d
def eqZ(f:D->D->Option Bool):List D->List D->Option Bool
 | [],[]=>some true
 | x::xs,y::ys=>match f x y,eqZ f xs ys with
  | some a,some b=>some (a&&b)
  | _,_=>none
 | _,_=>some false
def eqN:Nat->AH->D->D->Option Bool
 | 0,_,_,_=>none
 | n+1,h,x,y=>match vw h x,vw h y with
  | .flat a,.flat b=>some (eqF a b)
  | .tup xs,.tup ys=>eqZ (eqN n h) xs ys
  | .lst xs,.lst ys=>eqZ (eqN n h) xs ys
  | .no,_=>none
  | _,.no=>none
  | _,_=>some false
def eqE(f:D->D->Option Bool)(xs ys:List D)(j:Nat):Bool:=(f (xs.getD j .non) (ys.getD j .non)).getD false
theorem z6u{f:D->D->Option Bool}:∀{xs ys:List D}{b:Bool},eqZ f xs ys=some b ->
 (∀j x y,xs[j]?=some x->ys[j]?=some y->f x y=some (eqE f xs ys j))/\b=((K7 (min .(21) ys.length)).all (eqE f xs ys)&&.(21)==ys.length)
 | [],[],b,h=>by
  unfold eqZ at h;cases h;exact⟨λj x y e=>by simp at e,by simp⟩
 | [],y::ys,b,h=>by
  unfold eqZ at h;cases h;exact⟨λj x y e=>by simp at e,by simp⟩
 | x::xs,[],b,h=>by
  unfold eqZ at h;cases h;exact⟨λj x y _ e=>by simp at e,by simp⟩
 | x::xs,y::ys,b,h=>by
  unfold eqZ at h;split at h
  ·rename_i a c e1 e2;cases h;obtain⟨q1,q2⟩:=z6u e2;refine⟨λj p q ep eq=>?_,?_⟩
   ·cases j with
    | zero=>simp at ep eq;subst ep;subst eq;unfold eqE;simp[e1]
    | succ j=>simpa [eqE] using q1 j p q (by simpa using ep) (by simpa using eq)
   ·rw[q2];have:min (x::xs).length (y::ys).length=min xs.length ys.length+1:=by simp
    rw[this,K8n,K4n,List.all_map,<- Bool.and_assoc];congr 1
    ·unfold eqE;simp[e1,Z14]
    ·simp
  ·cases h
theorem z2F{d a:D}(e:vw h d=.flat a):a=d/\z0M d=true:=by
 cases d<;>simp[vw]at e<;>first|(subst e;exact⟨rfl,rfl⟩)|skip
 split at e<;>cases e
theorem z4d{d:D}(e:vw h d=.tup xs)(r:RD K ρ H d v):∃a vs,v=.ref a/\SqT K H a vs/\RDs K ρ H xs vs:=by
 cases d<;>simp[vw]at e
 ·subst e;simpa [RD] using r
 ·split at e<;>cases e
theorem z47{d:D}(rh:RH K ρ h H)(e:vw h d=.lst xs)(r:RD K ρ H d v):∃a vs,v=.ref a/\SqL K H a vs/\RDs K ρ H xs vs:=by
 cases d<;>simp[vw]at e
 ·subst e;simp only[RD]at r;obtain⟨a,vs,h1,h2,h3⟩:=r;exact⟨a,vs,h1,h2.sq,h3⟩
 ·split at e
  ·rename_i i xs' ei;cases e;simp only[RD]at r;obtain⟨a,h1,h2⟩:=r;obtain⟨a',h3,vs,h4,h5⟩:=rh.at ei;rw[h2]at h3;cases h3;exact⟨a,vs,h1,SqL.of h4,h5⟩
  ·cases e
section
variable{σ:L2.St}
theorem z6c:∀{d:D},z0M d=true->RD K ρ H d (.ref a)->False
 | .non,_,r=>by simp[RD]at r
 | .bl _,_,r=>by simp[RD]at r
 | .int _,_,r=>by simp[RD]at r
 | .str _,_,r=>by simp[RD]at r
 | .tup _,f,_=>by cases f
 | .fl _,f,_=>by cases f
 | .ref _,f,_=>by cases f
theorem zm8:∀{d:D},z0M d=true->eqF d d=true
 | .non,_=>rfl
 | .bl _,_=>by simp[eqF]
 | .int _,_=>by simp[eqF]
 | .str _,_=>by simp[eqF]
 | .tup _,f=>by cases f
 | .fl _,f=>by cases f
 | .ref _,f=>by cases f
def flV:D->V
 | .bl b=>.bl b
 | .int i=>.int i
 | .str x=>.str x
 | _=>.non
theorem z5C:∀{d:D}{v:V},z0M d=true->RD K ρ H d v->v=flV d
 | .non,_,_,r=>by simp only[RD]at r;exact r
 | .bl _,_,_,r=>by simp only[RD]at r;exact r
 | .int _,_,_,r=>by simp only[RD]at r;exact r
 | .str _,_,_,r=>by simp only[RD]at r;exact r
 | .tup _,_,f,_=>by cases f
 | .fl _,_,f,_=>by cases f
 | .ref _,_,f,_=>by cases f
theorem zM5:∀{a b:D},z0M a=true->z0M b=true->flV a=flV b->a=b
 | .non,.non,_,_,_=>rfl
 | .bl _,.bl _,_,_,e=>by cases e;rfl
 | .int _,.int _,_,_,e=>by cases e;rfl
 | .str _,.str _,_,_,e=>by cases e;rfl
 | .non,.bl _,_,_,e=>by cases e
 | .non,.int _,_,_,e=>by cases e
 | .non,.str _,_,_,e=>by cases e
 | .bl _,.non,_,_,e=>by cases e
 | .bl _,.int _,_,_,e=>by cases e
 | .bl _,.str _,_,_,e=>by cases e
 | .int _,.non,_,_,e=>by cases e
 | .int _,.bl _,_,_,e=>by cases e
 | .int _,.str _,_,_,e=>by cases e
 | .str _,.non,_,_,e=>by cases e
 | .str _,.bl _,_,_,e=>by cases e
 | .str _,.int _,_,_,e=>by cases e
 | .tup _,_,f,_,_=>by cases f
 | .fl _,_,f,_,_=>by cases f
 | .ref _,_,f,_,_=>by cases f
 | _,.tup _,_,f,_=>by cases f
 | _,.fl _,_,f,_=>by cases f
 | _,.ref _,_,f,_=>by cases f
theorem list_inj{xs ys:List V}(I:Inv X pins σ H s)(h1:SqL X.K H a xs)(h2:SqL X.K H a ys):xs=ys:=by
 obtain⟨its,r,⟨o,n,e,_,_,d⟩,_⟩:=I.list h1;obtain⟨its',r',⟨o',n',e',_,_,d'⟩,_⟩:=I.list h2;rw[e]at e';cases e';rw[d]at d';injection d' with d1 _
 have:its=its':=by simpa using congrArg Z12 d1
 subst this;exact r.inj r'
theorem z8f(I:Inv X pins σ H s)(rh:RH X.K ρ h H):∀(n:Nat) {d1 d2:D}{v:V}{b:Bool},RD X.K ρ H d1 v->RD X.K ρ H d2 v->eqN n h d1 d2=some b->b=true
 | 0,d1,d2,v,b,_,_,e=>by cases e
 | n+1,d1,d2,v,b,r1,r2,e=>by
  have elems:∀{xs ys:List D} {vs:List V},RDs X.K ρ H xs vs->RDs X.K ρ H ys vs->eqZ (eqN n h) xs ys=some b->b=true:=λ{xs ys vs} q1 q2 z=>by
   obtain⟨z1,z2⟩:=z6u z;have l1:=q1.length;have l2:=q2.length;rw[z2,K0i,K1t];refine⟨λj hj=>?_,by simp;omega⟩;have hj':j<xs.length:=by simp at hj;omega
   have e1:xs[j]?=some xs[j]:=K2 hj';have e2:ys[j]?=some ys[j]:=K2 .(1);obtain⟨w1,a1,a2⟩:=q1.get e1;obtain⟨w2,b1,b2⟩:=q2.get e2;rw[a1]at b1;cases b1;exact z8f I rh n a2 b2 (z1 j _ _ e1 e2)
  unfold eqN at e;have nl:∀{a:Addr} {vs ws:List V},SqT X.K H a vs->SqL X.K H a ws->False:=λ{a vs ws} t1 t2=>by
   obtain⟨its,_,p1,_⟩:=I.tuple t1;obtain⟨its2,_,p2,_⟩:=I.list t2;exact SeqAt.ne_of_list_tuple p2.isList (show s.heap.IsTuple a its.toArray from p1) rfl
  cases e1:vw h d1 with
  | no=>rw[e1]at e;cases e2:vw h d2<;>rw[e2]at e<;>cases e
  | flat a=>
   rw[e1]at e;obtain⟨rfl,f1⟩:=z2F e1;cases e2:vw h d2 with
   | no=>rw[e2]at e;cases e
   | flat c=>
    rw[e2]at e;obtain⟨rfl,f2⟩:=z2F e2;cases e;have:=zM5 f1 f2 ((z5C f1 r1).symm.trans (z5C f2 r2));subst this;exact zm8 f1
   | tup ys=>obtain⟨a',vs,rfl,_,_⟩:=z4d e2 r2;exact(z6c f1 r1).elim
   | lst ys=>obtain⟨a',vs,rfl,_,_⟩:=z47 rh e2 r2;exact(z6c f1 r1).elim
  | tup xs=>
   rw[e1]at e;obtain⟨a,vs,rfl,t1,q1⟩:=z4d e1 r1;cases e2:vw h d2 with
   | no=>rw[e2]at e;cases e
   | flat c=>obtain⟨rfl,f2⟩:=z2F e2;exact(z6c f2 r2).elim
   | tup ys=>
    rw[e2]at e;obtain⟨a',ws,ea,t2,q2⟩:=z4d e2 r2;cases ea;have:=I.tuple_inj t1 t2;subst this;exact elems q1 q2 e
   | lst ys=>
    obtain⟨a',ws,ea,t2,q2⟩:=z47 rh e2 r2;cases ea;exact(nl t1 t2).elim
  | lst xs=>
   rw[e1]at e;obtain⟨a,vs,rfl,t1,q1⟩:=z47 rh e1 r1;cases e2:vw h d2 with
   | no=>rw[e2]at e;cases e
   | flat c=>obtain⟨rfl,f2⟩:=z2F e2;exact(z6c f2 r2).elim
   | lst ys=>
    rw[e2]at e;obtain⟨a',ws,ea,t2,q2⟩:=z47 rh e2 r2;cases ea;have:=list_inj I t1 t2;subst this;exact elems q1 q2 e
   | tup ys=>
    obtain⟨a',ws,ea,t2,q2⟩:=z4d e2 r2;cases ea;exact(nl t2 t1).elim
open SeqAt in
theorem mixT{d:D}(f:z0M d=true)(r:RD K ρ H d v)(ru:RelV v u)(p:s.heap.IsTuple a its)(hu:A.units<cLine):EqAt A s u (.ref a) false/\EqAt A s (.ref a) u false/\RcAt A s u (.ref a) false/\RcAt A s (.ref a) u false/\RcNeAt A s u (.ref a) true/\RcNeAt A s (.ref a) u true:=by
 have:=z5C f r;subst this;cases d with
 | non=>cases ru;exact⟨.none_tuple p hu,.tuple_none p hu,.none_tuple p hu,.tuple_none p hu,.none_tuple p hu,.tuple_none p hu⟩
 | bl b=>cases ru;exact⟨.bool_tuple b p hu,.tuple_bool b p hu,.bool_tuple b p hu,.tuple_bool b p hu,.bool_tuple b p hu,.tuple_bool b p hu⟩
 | int i=>obtain⟨t,rfl⟩:=ru;exact⟨.int_tuple i t p hu,.tuple_int i t p hu,.int_tuple i t p hu,.tuple_int i t p hu,.int_tuple i t p hu,.tuple_int i t p hu⟩
 | str x=>obtain⟨t,rfl⟩:=ru;exact⟨.str_tuple x t p hu,.tuple_str x t p hu,.str_tuple x t p hu,.tuple_str x t p hu,.str_tuple x t p hu,.tuple_str x t p hu⟩
 | tup _=>cases f
 | fl _=>cases f
 | ref _=>cases f
open SeqAt in
theorem mixL{d:D}(f:z0M d=true)(r:RD K ρ H d v)(ru:RelV v u)(p:s.heap.IsList a its)(hu:A.units<cLine):EqAt A s u (.ref a) false/\EqAt A s (.ref a) u false/\RcAt A s u (.ref a) false/\RcAt A s (.ref a) u false/\RcNeAt A s u (.ref a) true/\RcNeAt A s (.ref a) u true:=by
 have:=z5C f r;subst this;cases d with
 | non=>cases ru;exact⟨.none_list p hu,.list_none p hu,.none_list p hu,.list_none p hu,.none_list p hu,.list_none p hu⟩
 | bl b=>cases ru;exact⟨.bool_list b p hu,.list_bool b p hu,.bool_list b p hu,.list_bool b p hu,.bool_list b p hu,.list_bool b p hu⟩
 | int i=>obtain⟨t,rfl⟩:=ru;exact⟨.int_list i t p hu,.list_int i t p hu,.int_list i t p hu,.list_int i t p hu,.int_list i t p hu,.list_int i t p hu⟩
 | str x=>obtain⟨t,rfl⟩:=ru;exact⟨.str_list x t p hu,.list_str x t p hu,.str_list x t p hu,.list_str x t p hu,.str_list x t p hu,.list_str x t p hu⟩
 | tup _=>cases f
 | fl _=>cases f
 | ref _=>cases f
open SeqAt in
theorem Z0f{u1 u2:Value}:∀(d1 d2:D),z0M d1=true->z0M d2=true->RelV (flV d1) u1->RelV (flV d2) u2->EqAt A s u1 u2 (eqF d1 d2)/\RcAt A s u1 u2 (eqF d1 d2)/\RcNeAt A s u1 u2 (!(eqF d1 d2))
 | .non,.non,_,_,r1,r2=>by cases r1;cases r2;exact⟨EqAt.same _,RcAt.none_none,RcNeAt.none_none⟩
 | .non,(.bl b),_,_,r1,r2=>by cases r1;cases r2;exact⟨EqAt.none_bool b,RcAt.none_bool b,RcNeAt.none_bool b⟩
 | .non,(.int b),_,_,r1,r2=>by cases r1;obtain⟨t2,rfl⟩:=r2;exact⟨EqAt.none_int b t2,RcAt.none_int b t2,RcNeAt.none_int b t2⟩
 | .non,(.str b),_,_,r1,r2=>by cases r1;obtain⟨t2,rfl⟩:=r2;exact⟨EqAt.none_str b t2,RcAt.none_str b t2,RcNeAt.none_str b t2⟩
 | (.bl a),.non,_,_,r1,r2=>by cases r1;cases r2;exact⟨EqAt.bool_none a,RcAt.bool_none a,RcNeAt.bool_none a⟩
 | (.bl a),(.bl b),_,_,r1,r2=>by cases r1;cases r2;exact⟨EqAt.bool_bool a b,RcAt.bool_bool a b,RcNeAt.bool_bool a b⟩
 | (.bl a),(.int b),_,_,r1,r2=>by cases r1;obtain⟨t2,rfl⟩:=r2;exact⟨EqAt.bool_int a b t2,RcAt.bool_int a b t2,RcNeAt.bool_int a b t2⟩
 | (.bl a),(.str b),_,_,r1,r2=>by cases r1;obtain⟨t2,rfl⟩:=r2;exact⟨EqAt.bool_str a b t2,RcAt.bool_str a b t2,RcNeAt.bool_str a b t2⟩
 | (.int a),.non,_,_,r1,r2=>by obtain⟨t1,rfl⟩:=r1;cases r2;exact⟨EqAt.int_none a t1,RcAt.int_none a t1,RcNeAt.int_none a t1⟩
 | (.int a),(.bl b),_,_,r1,r2=>by obtain⟨t1,rfl⟩:=r1;cases r2;exact⟨EqAt.int_bool a t1 b,RcAt.int_bool a t1 b,RcNeAt.int_bool a t1 b⟩
 | (.int a),(.int b),_,_,r1,r2=>by obtain⟨t1,rfl⟩:=r1;obtain⟨t2,rfl⟩:=r2;exact⟨EqAt.int_int a t1 b t2,RcAt.int_int a t1 b t2,RcNeAt.int_int a t1 b t2⟩
 | (.int a),(.str b),_,_,r1,r2=>by obtain⟨t1,rfl⟩:=r1;obtain⟨t2,rfl⟩:=r2;exact⟨EqAt.int_str a t1 b t2,RcAt.int_str a t1 b t2,RcNeAt.int_str a t1 b t2⟩
 | (.str a),.non,_,_,r1,r2=>by obtain⟨t1,rfl⟩:=r1;cases r2;exact⟨EqAt.str_none a t1,RcAt.str_none a t1,RcNeAt.str_none a t1⟩
 | (.str a),(.bl b),_,_,r1,r2=>by obtain⟨t1,rfl⟩:=r1;cases r2;exact⟨EqAt.str_bool a t1 b,RcAt.str_bool a t1 b,RcNeAt.str_bool a t1 b⟩
 | (.str a),(.int b),_,_,r1,r2=>by obtain⟨t1,rfl⟩:=r1;obtain⟨t2,rfl⟩:=r2;exact⟨EqAt.str_int a t1 b t2,RcAt.str_int a t1 b t2,RcNeAt.str_int a t1 b t2⟩
 | (.str a),(.str b),_,_,r1,r2=>by obtain⟨t1,rfl⟩:=r1;obtain⟨t2,rfl⟩:=r2;exact⟨EqAt.str_str a t1 b t2,RcAt.str_str a t1 b t2,RcNeAt.str_str a t1 b t2⟩
 | .tup _,_,f,_,_,_=>by cases f
 | .fl _,_,f,_,_,_=>by cases f
 | .ref _,_,f,_,_,_=>by cases f
 | _,.tup _,_,f,_,_=>by cases f
 | _,.fl _,_,f,_,_=>by cases f
 | _,.ref _,_,f,_,_=>by cases f
open SeqAt in
theorem deq(I:Inv X pins σ H s)(rh:RH X.K ρ h H):∀(n:Nat) {A:Around}{d1 d2:D}{v1 v2:V}{u1 u2:Value}{b:Bool},A.units+n<cLine->RD X.K ρ H d1 v1->RD X.K ρ H d2 v2->RelV v1 u1->RelV v2 u2->eqN n h d1 d2=some b->EqAt A s u1 u2 b/\RcAt A s u1 u2 b/\RcNeAt A s u1 u2 (!b)
 | 0,A,d1,d2,v1,v2,u1,u2,b,_,_,_,_,_,e=>by cases e
 | n+1,A,d1,d2,v1,v2,u1,u2,b,hA,r1,r2,w1,w2,e=>by
  have hu:A.units<cLine:=by omega
  have e0:=e;unfold eqN at e;have elems:∀{xs ys:List D} {vs ws:List V} {its its2:List Value},RDs X.K ρ H xs vs->RDs X.K ρ H ys ws->Vals vs its->Vals ws its2->eqZ (eqN n h) xs ys=some b ->
   (∀j (h1:j<its.toArray.size) (h2:j<its2.toArray.size),EqAt A.in1 s its.toArray[j] its2.toArray[j] (eqE (eqN n h) xs ys j))/\b=((K7 (min its.toArray.size its2.toArray.size)).all (eqE (eqN n h) xs ys)&&its.toArray.size==its2.toArray.size):=λ{xs ys vs ws its its2} q1 q2 a1 a2 z=>by
   obtain⟨z1,z2⟩:=z6u z;have l1:=q1.length;have l2:=q2.length;have l3:=a1.length;have l4:=a2.length;refine⟨λj h1 h2=>?_,by rw[z2,K07,K07,<- l3,<- l4,<- l1,<- l2]⟩;have j1:j<xs.length:=by rw[K07]at h1;omega
   have j2:j<ys.length:=by rw[K07]at h2;omega
   have e1:xs[j]?=some xs[j]:=K2 j1;have e2:ys[j]?=some ys[j]:=K2 j2;obtain⟨x1,b1,c1⟩:=q1.get e1;obtain⟨x2,b2,c2⟩:=q2.get e2;obtain⟨y1,b3,c3⟩:=a1.get b1;obtain⟨y2,b4,c4⟩:=a2.get b2;have g1:its.toArray[j]=y1:=by
    have:=K2 (l:=its) (i:=j) (by simpa using h1);rw[b3]at this;simpa using(K11 this).symm
   have g2:its2.toArray[j]=y2:=by
    have:=K2 (l:=its2) (i:=j) (by simpa using h2);rw[b4]at this;simpa using(K11 this).symm
   rw[g1,g2];exact(deq I rh n (A:=A.in1) (show A.units+1+n<cLine by omega) c1 c2 c3 c4 (z1 j _ _ e1 e2)).1
  have same:∀{a a':Addr},v1=.ref a->v2=.ref a'->a=a'->b=true:=λ{a a'} x y z=>by
   subst z;rw[x]at r1;rw[y]at r2;exact z8f I rh (n+1) r1 r2 e0
  cases e1:vw h d1 with
  | no=>rw[e1]at e;cases e2:vw h d2<;>rw[e2]at e<;>cases e
  | flat a=>
   rw[e1]at e;obtain⟨rfl,f1⟩:=z2F e1;cases e2:vw h d2 with
   | no=>rw[e2]at e;cases e
   | flat c=>
    rw[e2]at e;obtain⟨rfl,f2⟩:=z2F e2;cases e;rw[z5C f1 r1]at w1;rw[z5C f2 r2]at w2;exact Z0f a c f1 f2 w1 w2
   | tup ys=>
    rw[e2]at e;cases e;obtain⟨a',vs,rfl,t2,_⟩:=z4d e2 r2;cases w2;obtain⟨its,_,p,_⟩:=I.tuple t2;obtain⟨m1,_,m3,_,m5,_⟩:=mixT (s:=s) f1 r1 w1 (show s.heap.IsTuple a' its.toArray from p) hu;exact⟨m1,m3,m5⟩
   | lst ys=>
    rw[e2]at e;cases e;obtain⟨a',vs,rfl,t2,_⟩:=z47 rh e2 r2;cases w2;obtain⟨its,_,p,_⟩:=I.list t2;obtain⟨m1,_,m3,_,m5,_⟩:=mixL (s:=s) f1 r1 w1 p.isList hu;exact⟨m1,m3,m5⟩
  | tup xs=>
   rw[e1]at e;obtain⟨a,vs,rfl,t1,q1⟩:=z4d e1 r1;cases w1;obtain⟨its,x1,p1,_⟩:=I.tuple t1;have p1:s.heap.IsTuple a its.toArray:=p1;cases e2:vw h d2 with
   | no=>rw[e2]at e;cases e
   | flat c=>
    rw[e2]at e;cases e;obtain⟨rfl,f2⟩:=z2F e2;obtain⟨_,m2,_,m4,_,m6⟩:=mixT (s:=s) f2 r2 w2 p1 hu;exact⟨m2,m4,m6⟩
   | tup ys=>
    rw[e2]at e;obtain⟨a',ws,rfl,t2,q2⟩:=z4d e2 r2;cases w2;obtain⟨its2,x2,p2,_⟩:=I.tuple t2;have p2:s.heap.IsTuple a' its2.toArray:=p2;obtain⟨g1,g2⟩:=elems q1 q2 x1 x2 e;have rc:=RcAt.tuples p1 p2 hu g1;have rn:=RcNeAt.tuples p1 p2 hu g1;rw[<- g2]at rc rn;refine⟨?_,rc,rn⟩;by_cases ea:a=a'
    ·rw[same rfl rfl ea];subst ea;exact EqAt.same _
    ·exact EqAt.of_refs ea rc
   | lst ys=>
    rw[e2]at e;cases e;obtain⟨a',ws,rfl,t2,q2⟩:=z47 rh e2 r2;cases w2;obtain⟨its2,x2,p2,_⟩:=I.list t2;exact⟨EqAt.tuple_list p1 p2.isList hu,RcAt.tuple_list p1 p2.isList hu,RcNeAt.tuple_list p1 p2.isList hu⟩
  | lst xs=>
   rw[e1]at e;obtain⟨a,vs,rfl,t1,q1⟩:=z47 rh e1 r1;cases w1;obtain⟨its,x1,p1,_⟩:=I.list t1;cases e2:vw h d2 with
   | no=>rw[e2]at e;cases e
   | flat c=>
    rw[e2]at e;cases e;obtain⟨rfl,f2⟩:=z2F e2;obtain⟨_,m2,_,m4,_,m6⟩:=mixL (s:=s) f2 r2 w2 p1.isList hu;exact⟨m2,m4,m6⟩
   | tup ys=>
    rw[e2]at e;cases e;obtain⟨a',ws,rfl,t2,q2⟩:=z4d e2 r2;cases w2;obtain⟨its2,x2,p2,_⟩:=I.tuple t2;exact⟨EqAt.list_tuple p1.isList p2 hu,RcAt.list_tuple p1.isList p2 hu,RcNeAt.list_tuple p1.isList p2 hu⟩
   | lst ys=>
    rw[e2]at e;obtain⟨a',ws,rfl,t2,q2⟩:=z47 rh e2 r2;cases w2;obtain⟨its2,x2,p2,_⟩:=I.list t2;obtain⟨g1,g2⟩:=elems q1 q2 x1 x2 e;have both:RcAt A s (.ref a) (.ref a') b/\RcNeAt A s (.ref a) (.ref a') (!b):=by
     by_cases hz:its.toArray.size=its2.toArray.size
     ·have:b=(K7 its.toArray.size).all (eqE (eqN n h) xs ys):=by rw[g2,<- hz,Nat.min_self];simp
      rw[this];exact⟨RcAt.lists p1.isList p2.isList hz hu g1,RcNeAt.lists p1.isList p2.isList hz hu g1⟩
     ·have:b=false:=by
       rw[g2,Bool.and_eq_false_iff];right;simpa using hz
      rw[this];exact⟨RcAt.lists_lengths p1.isList p2.isList (by simpa using hz) hu,RcNeAt.lists_lengths p1.isList p2.isList (by simpa using hz) hu⟩
    refine⟨?_,both⟩;by_cases ea:a=a'
    ·rw[same rfl rfl ea];subst ea;exact EqAt.same _
    ·exact EqAt.of_refs ea both.1
end
def fEqX(neg:Bool):D->D->M D:=λx y h=>match eqN 24 h x y with
 | some b=>.ok (.bl (b != neg)) h
 | none=>.bad
def inZ(h:AH)(x:D):List D->Option Bool
 | []=>some false
 | y::ys=>match eqN 24 h y x,inZ h x ys with
  | some a,some b=>some (a||b)
  | _,_=>none
theorem z4q{h:AH}{x:D}:∀{ys:List D}{b:Bool},inZ h x ys=some b->(∀y∈ys,∃a,eqN 24 h y x=some a)/\(b=true↔∃y∈ys,eqN 24 h y x=some true)
 | [],b,e=>by unfold inZ at e;cases e;exact⟨λy hy=>(by simp at hy),by simp⟩
 | y::ys,b,e=>by
  unfold inZ at e;split at e
  ·rename_i a c e1 e2;cases e;obtain⟨q1,q2⟩:=z4q e2;refine⟨λz hz=>?_,?_⟩
   ·rcases K0y.mp hz with q|q
    ·subst q;exact⟨_,e1⟩
    ·exact q1 z q
   ·rw[K3c,q2];constructor
    ·rintro(q|⟨z,hz,q⟩)
     ·exact⟨y,by simp,by rw[e1,q]⟩
     ·exact⟨z,by simp[hz],q⟩
    ·rintro⟨z,hz,q⟩;rcases K0y.mp hz with w|w
     ·subst w;rw[e1]at q;exact .inl (K11 q)
     ·exact .inr ⟨z,w,q⟩
  ·cases e
def rEqX(K:K1)(neg:Bool):R2:=λx y H Q=>∃ρ h d1 d2 b,RH K ρ h H/\RD K ρ H d1 x/\RD K ρ H d2 y/\eqN 24 h d1 d2=some b/\Q (.bl (b != neg)) H
theorem zZ3(hu:X.A.units+30<cLine):OpR X (K22 .Eq) (rEqX X.K false):=by
 intro pins s σ H x y v u Q I rx ry h;obtain⟨ρ,h,d1,d2,b,rh,r1,r2,e,q⟩:=h;rw[K1h]at q;exact(deq I rh 24 (A:=X.A) .(1) r1 r2 rx ry e).2.1 X.prog X.w X.xe (EP X pins σ Q) ⟨.bl b,H,I,rfl,q⟩
theorem zX3(hu:X.A.units+30<cLine):OpR X (K22 .NotEq) (rEqX X.K true):=by
 intro pins s σ H x y v u Q I rx ry h;obtain⟨ρ,h,d1,d2,b,rh,r1,r2,e,q⟩:=h;rw[K7n]at q;exact(deq I rh 24 (A:=X.A) .(1) r1 r2 rx ry e).2.2 X.prog X.w X.xe (EP X pins σ Q) ⟨.bl (!b),H,I,rfl,q⟩
open Classical in
theorem Z09{σ:L2.St}{d:D}{x:V}{v:Value}{xs:List V}{its:List Value}(hu:X.A.units+30<cLine)(I:Inv X pins σ H s)(rh:RH X.K ρ h H)(rx:RD X.K ρ H d x)(wx:RelV x v)(rs:RDs X.K ρ H ds xs)(ws:Vals xs its)(e:inZ h d ds=some b):
 ∃f:Value->Bool,(∀y∈its,K6q X.A.in1 s y v (f y))/\its.any f=b:=by
 obtain⟨q1,q2⟩:=z4q e;have ex:∀y∈its,∃a z w,z∈ds/\RD X.K ρ H z w/\RelV w y/\eqN 24 h z d=some a:=λy hy=>by
  obtain⟨j,hj⟩:=K4w hy;have lj:=(K5.mp hj).1;have a1:xs[j]?=some (xs[j]'(by rw[ws.length];exact lj)):=K2 _;obtain⟨y',c1,a2⟩:=ws.get a1;rw[hj]at c1;cases c1;obtain⟨z,b1,b2⟩:=rs.getV a1;have zm:=K06 b1;obtain⟨a,c⟩:=q1 z zm;exact⟨a,z,_,zm,b2,a2,c⟩
 have key:∀y∈its,∀a,(∃z w,z∈ds/\RD X.K ρ H z w/\RelV w y/\eqN 24 h z d=some a)->K6q X.A.in1 s y v a:=λy hy a ⟨z,w,zm,r1,r2,c⟩=>
  (deq I rh 24 (A:=X.A.in1) (show X.A.units+1+24<cLine by omega) r1 rx r2 wx c).1
 refine⟨λy=>decide (∃z w,z∈ds/\RD X.K ρ H z w/\RelV w y/\eqN 24 h z d=some true),λy hy=>?_,?_⟩
 ·by_cases c:∃z w,z∈ds/\RD X.K ρ H z w/\RelV w y/\eqN 24 h z d=some true
  ·dsimp only;rw[.(s) c];exact key y hy true c
  ·dsimp only;rw[.(y) c];obtain⟨a,z,w,g⟩:=ex y hy;cases a with
   | false=>exact key y hy false ⟨z,w,g⟩
   | true=>exact absurd ⟨z,w,g⟩ c
 ·rw[K0p,q2,K1n];constructor
  ·rintro⟨y,hy,c⟩;obtain⟨z,w,zm,_,_,c⟩:=of_decide_eq_true c;exact⟨z,zm,c⟩
  ·rintro⟨z,zm,c⟩;obtain⟨j,hj⟩:=K4w zm;obtain⟨w,a1,a2⟩:=rs.get hj;obtain⟨y,b1,b2⟩:=ws.get a1;exact⟨y,K06 b1,.(s) ⟨z,w,zm,a2,b2,c⟩⟩
theorem zy4:BR X.K EX (rEqX X.K neg) (fEqX neg):=by
 intro ρ h H x y v u Q r rx ry fin;unfold fEqX at fin;cases e:eqN 24 h x y with
 | none=>rw[e]at fin;exact fin.elim
 | some b=>rw[e]at fin;exact⟨ρ,h,x,y,b,r,rx,ry,e,FE.here fin r .(C)⟩
theorem z1k(hu:X.A.units+30<cLine):CO X EX .Eq (fEqX false):=⟨_,zZ3 hu,zy4⟩
theorem z5b(hu:X.A.units+30<cLine):CO X EX .NotEq (fEqX true):=⟨_,zX3 hu,zy4⟩
theorem hu30{k:Nat}(hr:Room k A):A.units+30<cLine:=K29 (K6g (by decide:30<=64) _) hr.units
variable{β:Type}
theorem Y9(a:α)(f:α->M β):((Z2i a:M α) >>= f)=f a:=by funext h;rfl
theorem W_eq{m:M α}{v:α}{Q:α->AH->Prop}(e:m=pure v)(q:Q v h):W m h Q:=by rw[e,W_pure];exact q
theorem Z0n{Q:D->AH->Prop}(hl:xs.length<=1000000)(q:Q .(R) (h++[.lst xs])):W (newL xs) h Q:=
 ⟨_,_,by unfold newL;rw[if_pos (K0z hl .(0))],q⟩
mutual
theorem z2N{m n:Nat}(h:m<=n):∀{d:D},Y8 m d=true->Y8 n d=true
 | .non,_=>rfl
 | .bl _,_=>rfl
 | .int _,_=>rfl
 | .str _,_=>rfl
 | .tup ds,c=>by simp only[Y8]at c ⊢;exact z3q h c
 | .fl ds,c=>by simp only[Y8]at c ⊢;exact z3q h c
 | .ref i,c=>by simp only[Y8,decide_eq_true_eq]at c ⊢;omega
theorem z3q{m n:Nat}(h:m<=n):∀{d:List D},J8 m d=true->J8 n d=true
 | [],_=>rfl
 | d::r,c=>by simp only[J8,K0i]at c ⊢;exact⟨z2N h c.1,z3q h c.2⟩
end
theorem z22{n:Nat}:∀{xs:List D},(∀x∈xs,Y8 n x=true)->J8 n xs=true
 | [],_=>rfl
 | x::r,h=>by simp only[J8,K0i];exact⟨h x .(f),z22 λy hy=>h y (by simp[hy])⟩
theorem z04{f:ι->D}{l:List ι}(h:∀a,Y8 n (f a)=true):J8 n (l.map f)=true:=z22 λx hx=>by
 obtain⟨a,_,rfl⟩:=K08.mp hx;exact h a
theorem z0m{m:M D}{d:D}(e:m h=.ok d (h++j))(c:Y8 h.length d=true):cln m h=.ok d h:=by
 unfold cln;rw[e];dsimp only;rw[if_pos ⟨by simp,z8o _ _⟩,if_pos c];simp
theorem z1H(d:D):cln (pure d)=pure d:=funext λh=>by
 unfold cln;rw[pureM];dsimp only;rw[if_pos ⟨K05 _,λ_ _ _ e=>.inl e⟩];split
 ·simp
 ·rename_i nd;split
  ·rename_i i;simp only[Y8,decide_eq_true_eq]at nd;rw[K0h .(1)]
  ·rfl
theorem zH5{m:M D}{v:D}(c:Y8 0 v=true)(z:∀h,W m h λa h'=>a=v/\∃j,h'=h++j):cln m=pure v:=funext λh=>by
 obtain⟨a,h',e,rfl,j,rfl⟩:=z h;exact z0m e (z2N (K3k _) c)
theorem zc1{m:G->M Bool}{d:Bool}(e:m γ h=.ok d (h++j)):clT m γ h=.ok d h:=by
 unfold clT;rw[e];dsimp only;rw[if_pos ⟨by simp,z8o _ _⟩];simp
theorem zp3{cap:List (Option Nat)}{g:D->G->M G}{k:G->M Bool}{me:G->M D}(p:D->Bool)(f:D->D)(hi:mi γ h=.ok src h)(hg:∀j,src.good (h++j))(hl:src.items.length<=1000000)
 (hd:∀d∈src.items,∃γ1,g d (capG cap γ)=pure γ1/\k γ1=pure (p d)/\(p d=true->me γ1=pure (f d))):Y7 cap mi g k me γ h=newL ((src.items.filter p).map f) h:=by
 rw[z1z p f hi hg hl λd m=>let ⟨γ1,e1,e2,e3⟩:=hd d m;⟨γ1,λh=>by rw[e1];rfl,λj=>by rw[e2];rfl,λq j=>by rw[e3 q];rfl⟩];unfold newL;rw[if_pos];refine K0z ?_ (show 1000000<=sizeLine by decide);rw[K03];exact K0z (K3u _ _) hl
theorem zL8{cap:List (Option Nat)}{g:D->G->M G}{k:G->M Bool}{me:G->M D}{items:List D}(p:D->Bool)(f:D->D)(hi:mi γ=pure (.con items))(hl:items.length<=1000000)
 (hd:∀d∈items,∃γ1,g d (capG cap γ)=pure γ1/\k γ1=pure (p d)/\(p d=true->me γ1=pure (f d))):Y7 cap mi g k me γ=newL ((items.filter p).map f):=
 funext λh=>zp3 (src:=.con items) p f (by rw[hi];rfl) .(W) hl hd
theorem z81:∀bs:List Bool,blsD (bs.map .bl)=some bs
 | []=>rfl
 | b::r=>by simp[blsD,z81 r]
theorem filter_tt{l:List α}:l.filter (λ_=>true)=l:=by induction l<;>simp_all
theorem z2v{d:D}(e:mb (z10 n ds)=pure (.rt d)):runF n mb ds=pure d:=by unfold runF;rw[e];rfl
theorem ix0{a:D}{r:List D}:fIx (.tup (a::r)) (.int 0)=pure a:=ix_tup (by simp[atI,ixN])
theorem zM0{x:Str}:fEq b (.str x) (.str y)=pure (.bl (decide (x=y) != b)):=rfl
theorem Z0d:((2:Nat)<=sizeLine)=True:=by simp[sizeLine]
structure SQ(st:List .(19)):Prop where
 l1:1<=.(c)
 l2:.(c)<=40
 s2:∀l∈st,∀x∈l,x<.(c)
def nx(st:List .(19))(a:Nat):List Nat:=(st[a]?).getD []
theorem z3o(q:SQ st){a b:Nat}(h:b∈nx st a):b<st.length:=by
 unfold nx at h;cases e:st[a]? with
 | none=>rw[e]at h;cases h
 | some l=>
  rw[e]at h;exact q.s2 l (K06 e) b h
theorem z16(st:List .(19)):(stsD st).length=st.length:=by unfold stsD;simp
theorem zV8{a:Nat}(ha:a<st.length):atI (stsD st) (a:Int)=.(g ((stD (nx st a)))):=by
 refine z0p ?_;unfold stsD nx;rw[K04,K2 ha];rfl
theorem z1c:fIx .(7) (.int 0)=pure (.tup (stsD st)):=ix_tup rfl
theorem z2n:fIx .(7) (.int 1)=pure (.tup (mksD mk)):=ix_tup rfl
theorem z4X{a:Nat}(ha:a<st.length):fIx (.tup (stsD st)) (.int a)=pure (.tup (stD (nx st a))):=ix_tup (zV8 ha)
theorem z7Q:∀l:List Nat,(stD l).all z0M=true
 | []=>rfl
 | _::l=>z7Q l
theorem zb6(x:Nat):∀l:List Nat,((stD l).any λz=>eqF z (.int x))=decide (x∈l)
 | []=>by simp[stD]
 | b::l=>by
  rw[show stD (b::l)=.int b::stD l from rfl,K2d,zb6 x l];simp only[eqF];rw[K0p];simp only[K3c,beq_iff_eq,decide_eq_true_eq,K0y];constructor
  ·rintro(h|h)
   ·left;omega
   ·exact .inr h
  ·rintro(h|h)
   ·left;omega
   ·exact .inr h
theorem zR9:fIn neg (.int x) (.tup (stD l))=pure (.bl (decide (x∈l) != neg)):=by
 unfold fIn seqD;show (if z0M (.int x)&&(stD l).all z0M then _ else _)=_;rw[z7Q,zb6];rfl
theorem J5(l:List Nat):(stD l).length=l.length:=by unfold stD;simp
theorem z2T(hl:l.Pairwise (·<·))(hm:∀x∈l,x<n):l.length<=n:=by
 have nd:l.Nodup:=K9z (λh=>K0o h) hl;have:=nd.length_le_of_subset (l₂:=K7 n) (λx hx=>K0q.mpr (hm x hx));rwa [K1u]at this
def zN(l:List Nat):List Int:=l.map λ(i:Nat)=>(i:Int)
def kN(l:List Nat):List Key:=l.map λ(i:Nat)=>.inl (i:Int)
def z0R(l:List Nat):List Nat:=(sortI (zN l)).map Z2j
theorem z84:∀l:List Nat,z6U (kN l)=some (zN l)
 | []=>rfl
 | a::l=>by
  show (z6U (kN l)).map _=_;rw[z84 l];rfl
theorem z3F:∀l:List Nat,z3H (stD l)=some (zN l)
 | []=>rfl
 | a::l=>by
  show (z3H (stD l)).map _=_;rw[z3F l];rfl
theorem z4G(l:List Nat):(sortI (zN l)).map D.int=stD (z0R l):=by
 unfold z0R stD;rw[K0g];refine K2u λa ha=>?_;have:a∈zN l:=(sortI_perm _).mem_iff.mp ha;obtain⟨i,_,rfl⟩:=K08.mp this;rfl
theorem z3X(l:List Nat):(z0R l).Perm l:=by
 have:=(sortI_perm (zN l)).map Z2j;refine this.trans ?_;unfold zN;rw[K0g];rw[show (Z2j ∘ λ(i:Nat)=>(i:Int))=id from funext λi=>rfl,List.map_id]
theorem z21(nd:l.Nodup):(z0R l).Pairwise (·<·):=by
 have s:(z0R l).Pairwise (·<=·):=by
  unfold z0R;rw[K7f];exact(z8h _).imp λ{a b} h=>by omega
 have n:(z0R l).Nodup:=(z3X l).nodup_iff.mpr nd;exact(List.Pairwise.and s n).imp λ{a b} q=>by omega
theorem sortN_mem:x∈z0R l↔x∈l:=(z3X l).mem_iff
theorem z0D(l:List Nat):(z0R l).length=l.length:=(z3X l).length_eq
theorem kN_mem:(K46 (x:Int):Key)∈kN l↔x∈l:=by
 unfold kN;constructor
 ·intro h;obtain⟨i,hi,e⟩:=K08.mp h;have:i=x:=by have:=Z2k e;omega
  exact this ▸ hi
 ·exact λh=>K08.mpr ⟨x,h,rfl⟩
theorem zx3(l:List Nat):(kN l).length=l.length:=by unfold kN;simp
theorem zY6(h:x∉l):putK (kN l) (.inl (x:Int))=kN (l++[x]):=by
 unfold putK;rw[if_neg (λq=>h (kN_mem.mp q))];unfold kN;simp
theorem zj4(nd:S.Nodup)(hm:∀x∈S,x<n):S.length<=n:=by
 have:=nd.length_le_of_subset (l₂:=K7 n) (λx hx=>K0q.mpr (hm x hx));rwa [K1u]at this
theorem zi1(nd:S.Nodup)(h:x∉S):(S++[x]).Nodup:=by
 rw[K7g];refine⟨nd,by simp,λa ha b hb=>?_⟩;simp at hb;subst hb;exact λe=>h (e ▸ ha)
theorem zD5(l:List Nat)(x:Nat):stD l++[.int x]=stD (l++[x]):=by unfold stD;simp
theorem z4D{d:D}(h:(stD l)[i]?=some d):∃b:Nat,d=.int b/\l[i]?=some b:=by
 unfold stD at h;rw[K04]at h;obtain⟨b,e1,e2⟩:=K15.mp h;exact⟨b,e2.symm,e1⟩
section
variable{ma:G->M D}{k:G->M Bool}{mr:G->M Out}{γ':G}{d:D}
theorem z9u(d:D)(γ':G)(e:ma γ=pure d)(eg:g d γ=pure γ')(z:W (mt γ') h Q):W (Z0 (sAsg ma g) mt γ) h Q:=by
 rw[w_cons];unfold sAsg;rw[e,Y9,eg,Y9,W_pure];exact z
theorem j8(d:D)(γ':G)(e:ma γ h=.ok d h1)(eg:g d γ=pure γ')(z:W (mt γ') h1 Q):W (Z0 (sAsg ma g) mt γ) h Q:=by
 rw[w_cons];unfold sAsg;rw[j0];refine W.of e ?_;rw[eg,Y9,W_pure];exact z
theorem zx2(z:W (ma γ) h λd h1=>W (mt (γ.set i (some d))) h1 Q):W (Z0 (sAsg ma (gN i)) mt γ) h Q:=by
 rw[w_cons];unfold sAsg gN;rw[j0];refine z.mono λd h1 q=>?_;rw[Y9,W_pure];exact q
theorem q_if(b:Bool)(e:k γ=pure b)(z:W (Z0 (if b=true then ms else mr) mt γ) h Q):W (Z0 (sIf k ms mr) mt γ) h Q:=by
 rw[w_cons]at z ⊢;unfold sIf;rw[e,Y9];cases b<;>exact z
theorem Y0(b:Bool)(e:k γ h=.ok b h)(z:W (Z0 (if b=true then ms else mr) mt γ) h Q):W (Z0 (sIf k ms mr) mt γ) h Q:=by
 rw[w_cons]at z ⊢;unfold sIf;rw[j0];refine W.of e ?_;cases b<;>exact z
theorem Z0c(z:W (k γ) h λb h1=>W (Z0 (if b=true then ms else mr) mt γ) h1 Q):W (Z0 (sIf k ms mr) mt γ) h Q:=by
 rw[w_cons];unfold sIf;rw[j0];refine z.mono λb h1 q=>?_;rw[w_cons]at q;cases b<;>exact q
theorem Z0O(d:D)(e:ma γ=pure d)(z:Q (.rt d) h):W (Z0 (sRet ma) mt γ) h Q:=by
 rw[w_cons];unfold sRet;rw[e,Y9,W_pure];exact z
theorem Y5(d:D)(e:ma γ h=.ok d h1)(z:Q (.rt d) h1):W (Z0 (sRet ma) mt γ) h Q:=by
 rw[w_cons];unfold sRet;rw[j0];refine W.of e ?_;rw[W_pure];exact z
theorem zw5(z:W (ma γ) h λd h1=>W (mt γ) h1 Q):W (Z0 (z0E ma) mt γ) h Q:=by
 rw[w_cons];unfold z0E;rw[j0];refine z.mono λd h1 q=>?_;rw[W_pure];exact q
theorem y6(z:W (mt γ) h Q):W (Z0 bNil mt γ) h Q:=by rw[w_cons,zn9];exact z
theorem Y6(z:Q (.nx γ) h):W (bNil γ) h Q:=by rw[zn9];exact z
theorem zx6{l:G->M Bool}(e:k γ h=.ok true h):cOr k l γ h=.ok true h:=by unfold cOr;rw[M.bind_ok e];rfl
theorem z6B(d:D)(e:ma γ=pure d):Z0 (sRet ma) mt γ=pure (.rt d):=by
 unfold Z0 sRet;rw[e,Y9,Y9]
theorem z0v{ms1 ms2:G->M Out}(z:W (Z0 ms1 (Z0 ms2 mt) γ) h Q):W (Z0 (Z0 ms1 ms2) mt γ) h Q:=by
 rw[w_cons]at z ⊢;rw[w_cons];refine z.mono λo h1 q=>?_;cases o with
 | nx γ=>exact w_cons.mp q
 | rt d=>exact q
 | bk d=>exact q
 | ct d=>exact q
end
theorem z8j{i j:Int}:fEqX neg (.int i) (.int j)=pure (.bl (decide (i=j) != neg)):=by
 funext h;show Res.ok (D.bl ((i==j) != neg)) h=_;have:(i==j)=decide (i=j):=by rw[K0p];simp
 rw[this];rfl
theorem zU7{a:Bool}:fEqX neg (.bl a) (.bl b)=pure (.bl ((a==b) != neg)):=by funext h;rfl
theorem zj1(e:mc γ h=newL xs h1)(hl:xs.length<=1000000):e2 (fEqX neg) mc (eLst aNil) γ h=.ok (.bl (xs.isEmpty != neg)) (h1++[.lst xs]++[.lst []]):=by
 have e':mc γ h=.ok (.ref h1.length) (h1++[.lst xs]):=by rw[e];unfold newL;rw[if_pos (K0z hl .(0))]
 show (mc γ >>= _) h=_;rw[M.bind_ok e'];have e2':eLst aNil γ (h1++[.lst xs])=.ok (.ref (h1++[O.lst xs]).length) (h1++[.lst xs]++[.lst []]):=by
  unfold eLst aNil newL;simp
 rw[M.bind_ok e2'];have v1:vw (h1++[O.lst xs]++[O.lst []]) (.ref h1.length)=.lst xs:=by unfold vw;simp
 have v2:vw (h1++[O.lst xs]++[O.lst []]) (.ref (h1++[O.lst xs]).length)=.lst []:=by unfold vw;simp
 unfold fEqX eqN;rw[v1,v2];cases xs<;>rfl
theorem zl3(e:mc γ h=newL xs (h++j))(hl:xs.length<=1000000):clE (e2 (fEqX neg) mc (eLst aNil)) γ h=.ok (.bl (xs.isEmpty != neg)) h:=
 z0m (by rw[zj1 e hl,K0e,K0e]) rfl
theorem zC6(e:mc γ h=newL xs (h++j))(hl:xs.length<=1000000):clT (λγ=>do let d <- e2 (fEqX neg) mc (eLst aNil) γ;asB d) γ h=.ok (xs.isEmpty != neg) h:=
 zc1 (j:=j++([.lst xs]++[.lst []])) (by rw[M.bind_ok (zj1 e hl)];simp[asB])
theorem z7F{x:Str}{l:List Str}:fIn neg (.str x) (.tup (l.map .str))=pure (.bl (decide (x∈l) != neg)):=by
 unfold fIn seqD;show (if z0M (.str x)&&(l.map D.str).all z0M then _ else _)=_;rw[z3m,z63];rfl
theorem zW4(xs:List D)(n:Nat):cutD xs none (some (n:Int))=xs.take n:=by
 unfold cutD;rw[HT.sIx_none,HT.sIx_nat];simp[List.take_take]
theorem zT7(xs:List D)(n:Nat):cutD xs (some (n:Int)) none=xs.drop n:=by
 unfold cutD;rw[HT.sIx_none,HT.sIx_nat];by_cases h:n<=.(21)
 ·rw[show min n .(21)=n by omega,K5y .(f)]
 ·rw[show min n .(21)=.(21) by omega];simp;omega
def rp(n:Nat)(l:List Nat):List Nat:=(K0c n l).flatten
theorem zZ8{a b:Nat}(h:a<=1000000):z51 (.int (a:Nat)) (.int (b:Nat))=pure (.int (a * b:Nat)):=by
 show fMul (.int (a:Nat)) (.int (b:Nat))=_;unfold fMul;dsimp only;rw[if_pos,Z25];simp;left;omega
theorem z9Q{a b:Nat}(hb:0<b):fMod (.int (a:Nat)) (.int (b:Nat))=pure (.int (a % b:Nat)):=by
 rw[zT0 (show (0:Int)<b by omega),Int.natCast_emod]
theorem sl_tup{x:List D}{lo hi:Option Int}:fSl (.tup x) lo hi=pure (.tup (cutD x lo hi)):=rfl
theorem zw9(p r:List Nat):stD p++stD r=stD (p++r):=by unfold stD;simp
def CL(r:AH):Prop:=True
theorem CL.nil:CL []:=trivial
theorem CL.app(a:CL r)(b:CL j):CL (r++j):=trivial
theorem CL.one(h:J8 3 xs=true):CL [.lst xs]:=trivial
theorem CL.put(a:CL r)(h:J8 3 xs=true):CL (r++[.lst xs]):=a.app (.one h)
theorem z7f(l:List Str):J8 n (l.map .str)=true:=z04 λ_=>rfl
theorem z6O(l:List Int):J8 n (l.map .int)=true:=z04 λ_=>rfl
theorem z1w(l:List Nat):J8 n (stD l)=true:=z04 λ_=>rfl
theorem z4H(l:List Nat):Y8 n (.tup (stD l))=true:=by simp only[Y8];exact z1w l
theorem zf3{s c:Int}:(Pool gr sm s c (r++j)).take (r.length+3)=Pool gr sm s c r:=by
 unfold Pool;simp
theorem ze1{gr' sm':List Int}{s c s' c':Int}:Kept (Pool gr sm s c r) (Pool gr' sm' s' c' (r++j)):=λi o li e=>by
 have l3:(Pool gr sm s c r).length=r.length+3:=rfl;rw[l3]at li ⊢
 match i,e with
 | 0,e=>cases e;exact .inr (z6O _)
 | 1,e=>cases e;exact .inr (z6O _)
 | 2,e=>cases e;exact .inr (by simp[refO,J8,Y8])
 | i+3,e=>
  left;have e:(r++j)[i]?=some o:=e;rw[K0n .(1)]at e;exact e
theorem zu4{k k':Int}(p:PS h k r)(q:CL r)(p1:PS h1 k' (r++j)):(h.length<=h1.length/\Kept h h1)/\PS (h1.take h.length) k' r:=by
 have l:=p.len;have l1:=p1.len;obtain⟨gr,sm,s,c,rfl,g⟩:=p1;obtain⟨gr0,sm0,s0,c0,rfl,g0⟩:=p;refine⟨⟨by rw[K02]at l1;omega,ze1⟩,?_⟩;rw[show (Pool gr0 sm0 s0 c0 r).length=r.length+3 from rfl,zf3];exact⟨gr,sm,s,c,rfl,g⟩
theorem zG0{m:M D}{k:Int}{Q:D->AH->Prop}(p:PS h k r)(q:CL r)(z:W m h λd h1=>∃k' j,PS h1 k' (r++j)/\Y8 3 d=true/\∀h2,PS h2 k' r->Q d h2):W (cln m) h Q:=by
 obtain⟨d,h1,e,k',j,p1,rd,f⟩:=z;obtain⟨c1,c2⟩:=zu4 p q p1;refine⟨d,h1.take .(m),?_,f _ c2⟩;unfold cln;rw[e];dsimp only;rw[if_pos c1,if_pos (z2N (by rw[p.len];omega) rd)]
theorem Z0l{m:G->M D}{k:Int}{Q:D->AH->Prop}(p:PS h k r)(q:CL r)(z:W (m γ) h λd h1=>∃k' j,PS h1 k' (r++j)/\Y8 3 d=true/\∀h2,PS h2 k' r->Q d h2):W (clE m γ) h Q:=zG0 p q z
section
variable{k:Int}{l:AH}{v:D}
theorem at_E:(r++l)[r.length+i]?=l[i]?:=by rw[K1i .(1)];congr 1;omega
theorem zK7:(r++l).set (r.length+i) o=r++l.set i o:=by
 rw[K3t _ _ .(1)];congr 2;omega
end
theorem z2t{ma:G->M D}(J:D->AH->Prop)(z:W (ma γ) h J)(f:∀d h1,J d h1->W (mt (γ.set i (some d))) h1 Q):W (Z0 (sAsg ma (gN i)) mt γ) h Q:=zx2 (z.mono f)
def lkD(kvs:List (Key×D))(k:Key):Option D:=(kvs.find? λkv=>decide (kv.1=k)).map (·.2)
def ptD(kvs:List (Key×D))(k:Key)(v:D):List (Key×D):=
 if (kvs.any λkv=>decide (kv.1=k))=true then kvs.map (λkv=>if kv.1=k then (kv.1,v) else kv) else kvs++[(k,v)]
theorem RK.len:∀{kvs:List (Key×D)}{vs:List (Key×V)},RK K ρ H kvs vs->kvs.length=vs.length
 | _,_,.nil=>rfl
 | _,_,.cons _ b=>by simp[RK.len b]
theorem RK.lk(k:Key):∀{kvs:List (Key×D)}{vs:List (Key×V)},RK K ρ H kvs vs->(lkD kvs k=none/\valV vs k=none)\/∃d v,lkD kvs k=some d/\valV vs k=some v/\RD K ρ H d v
 | _,_,.nil=>.inl ⟨rfl,rfl⟩
 | p::kvs,q::vs,.cons a b=>by
  by_cases e:p.1=k
  ·refine .inr ⟨p.2,q.2,by simp[lkD,K1m,e],z4u (a.1.symm.trans e),a.2⟩
  ·rw[z4r (λz=>e (a.1.trans z))];have:lkD (p::kvs) k=lkD kvs k:=by simp[lkD,K1m,e]
   rw[this];exact RK.lk k b
theorem RK.any(k:Key):∀{kvs:List (Key×D)}{vs:List (Key×V)},RK K ρ H kvs vs->(kvs.any λkv=>decide (kv.1=k))=vs.any λkv=>decide (kv.1=k)
 | _,_,.nil=>rfl
 | _,_,.cons a b=>by rw[K2d,K2d,RK.any k b,a.1]
theorem RK.rep(k:Key){d:D}{v:V}(r:RD K ρ H d v):∀{kvs:List (Key×D)}{vs:List (Key×V)},RK K ρ H kvs vs->RK K ρ H (kvs.map (λkv=>if kv.1=k then (kv.1,d) else kv)) (vs.map (λkv=>if kv.1=k then (kv.1,v) else kv))
 | _,_,.nil=>.nil
 | p::kvs,q::vs,.cons a b=>by
  rw[K0v,K0v];refine .cons ?_ (RK.rep k r b);by_cases e:p.1=k
  ·rw[if_pos e,if_pos (a.1.symm.trans e)];exact⟨a.1,r⟩
  ·rw[if_neg e,if_neg (λz=>e (a.1.trans z))];exact a
theorem RK.snoc{k:Key}{d:D}{v:V}(r:RD K ρ H d v):∀{kvs:List (Key×D)}{vs:List (Key×V)},RK K ρ H kvs vs->RK K ρ H (kvs++[(k,d)]) (vs++[(k,v)])
 | _,_,.nil=>.cons ⟨rfl,r⟩ .nil
 | _,_,.cons a b=>.cons a (RK.snoc r b)
theorem RK.put(k:Key){d:D}(r:RD K ρ H d v){vs:List (Key×V)}(q:RK K ρ H kvs vs):RK K ρ H (ptD kvs k d) (L2.putK vs k v):=by
 unfold ptD L2.putK;rw[q.any k];split
 ·exact q.rep k r
 ·exact q.snoc r
theorem zh8{d:D}{k:Key}(e:keyD d=some k)(r:RD K ρ H d v):v=kV k:=by
 cases d<;>simp only[keyD]at e<;>first|(cases e;simp only[RD]at r;exact r)|cases e
def getK(n:Nat):M (List (Key×D)):=λh=>match h[n]? with
 | some (.dK kvs)=>.ok kvs h
 | some (.dF kvs)=>.ok kvs h
 | _=>.bad
def dicD:D->M (List (Key×D))
 | .ref n=>getK n
 | _=>bad
def z2G:D->D->M D:=λx y=>do
 let kvs <- dicD x
 match keyD y with
 | some k=>(match lkD kvs k with
  | some d=>pure d
  | none=>bad)
 | none=>bad
def fInD(neg:Bool):D->D->M D:=λy x=>do
 let kvs <- dicD x
 match keyD y with
 | some k=>pure (.bl ((lkD kvs k).isSome != neg))
 | none=>bad
def z5P:D->D->D->M Unit:=λo i v=>match o with
 | .ref n=>(match keyD i with
  | some k=>λh=>match h[n]? with
   | some (.dK kvs)=>if kvs.length<sizeLine then .ok () (h.set n (.dK (ptD kvs k v))) else .bad
   | _=>.bad
  | none=>bad)
 | _=>bad
def gDx(mo mi:G->M D):D->G->M G:=λv γ=>do
 let o <- mo γ;let i <- mi γ;let _ <- z5P o i v
 pure γ
section
variable{a o i f:Expr}{mi ma mb:G->M D}
theorem z8m{x:D}{u:V}(r:RH K ρ h H)(rx:RD K ρ H x u)(fin:Fin K EX ρ H Z (dicD x h)):∃n a kvs vs,x=.ref n/\u=.ref a/\ρ[n]?=some a/\(h[n]?=some (.dK kvs)\/h[n]?=some (.dF kvs))/\Rd H a (.dK vs)/\RK K ρ H kvs vs/\Z kvs ρ h H:=by
 cases x<;>first|exact(show False from fin).elim|skip
 rename_i n;simp only[RD]at rx;obtain⟨a,rfl,hq⟩:=rx;unfold dicD getK at fin;dsimp only at fin;cases e:h[n]? with
 | none=>rw[e]at fin;exact fin.elim
 | some ob=>
  cases ob with
  | lst xs=>rw[e]at fin;exact fin.elim
  | set xs=>rw[e]at fin;exact fin.elim
  | dct=>rw[e]at fin;exact fin.elim
  | exc c=>rw[e]at fin;exact fin.elim
  | ins _ _=>rw[e]at fin;exact fin.elim
  | dK kvs=>
   rw[e]at fin;obtain⟨a1,n1,vs,o1,d1⟩:=r.at e;rw[hq]at n1;cases n1;exact⟨n,a,kvs,vs,rfl,rfl,hq,.inl e,.inl o1,d1,fin ρ H .(b) .(d) r⟩
  | dF kvs=>
   rw[e]at fin;obtain⟨a1,n1,ob,vs,o1,d1⟩:=r.at e;rw[hq]at n1;cases n1;exact⟨n,a,kvs,vs,rfl,rfl,hq,.inr e,.inr ⟨ob,o1⟩,d1,fin ρ H .(b) .(d) r⟩
theorem z28(hu:X.A.units+1<cLine)(ha:SE X EX o mo)(hb:SE X EX i mi)(hs:NoSl i:=by intro _ _;rfl):SE X EX (.Subscript o i pos) (e2 z2G mo mi):=
 ⟨PE.imp (zE5 hu ha.h hb.h hs) λσ H Q ⟨ρ,γ,h,rel,fin⟩=>⟨ρ,γ,h,rel,(Fin.bind fin).mono λx ρ1 h1 H1 p1 e1 r1 f1 v rv=>⟨ρ1,γ,h1,⟨rel.g.mono p1 e1,r1⟩,(Fin.bind f1).mono λy ρ2 h2 H2 p2 e2 r2 f2 w rw'=>by
  obtain⟨n,ad,kvs,vs,rfl,rfl,hn,hk,hH,rk,f3⟩:=z8m r2 (rv.mono p2 e2) (Fin.bind f2);cases ek:keyD y with
  | none=>rw[ek]at f3;exact f3.elim
  | some k=>
   rw[ek]at f3;have:=zh8 ek rw';subst this;rcases rk.lk k with ⟨z1,_⟩|⟨d,u,z1,z2,rd⟩
   ·dsimp only at f3;rw[z1]at f3;exact f3.elim
   ·dsimp only at f3;rw[z1]at f3;refine⟨ad,u,rfl,?_,FE.here f3 r2 rd⟩;rw[<- z2];exact .inl ⟨vs,k,hH,rfl,rfl⟩⟩⟩⟩
def rInD(neg:Bool):R2:=λy x H Q=>∃ad ov,x=.ref ad/\DGet H ad y ov/\Q (.bl (ov.isSome != neg)) H
theorem zA9(hu:X.A.units+1<cLine):OpR X (K22 .NotIn) (rInD true):=by
 intro pins s σ H x y v u Q I rx ry h;obtain⟨ad,ov,rfl,g,q⟩:=h;cases ry;rw[K7n]at q;exact zB1 hu I g rx λs' I'=>⟨.bl _,H,I',rfl,q⟩
theorem zV0:BR X.K EX (rInD neg) (fInD neg):=by
 intro ρ h H y x w v Q r ry rx fin;obtain⟨n,ad,kvs,vs,rfl,rfl,hn,hk,hH,rk,f3⟩:=z8m r rx (Fin.bind fin);cases ek:keyD y with
 | none=>rw[ek]at f3;exact f3.elim
 | some k=>
  rw[ek]at f3;have:=zh8 ek ry;subst this;refine⟨ad,valV vs k,rfl,.inl ⟨vs,k,hH,rfl,rfl⟩,?_⟩;have:(valV vs k).isSome=(lkD kvs k).isSome:=by
   rcases rk.lk k with ⟨z1,z2⟩|⟨d,u,z1,z2,_⟩<;>rw[z1,z2]<;>rfl
  rw[this];exact FE.here f3 r .(C)
theorem zL4(hu:X.A.units+1<cLine):CO X EX .NotIn (fInD true):=⟨_,zA9 hu,zV0⟩
def Z0a:V->V->V->Hp->(Hp->Prop)->Prop:=λo i v H Q=>∃ad H',o=.ref ad/\DPut H ad i v H'/\Q H'
theorem set_dict(hu:X.A.units+1<cLine):PSet X Z0a:=by
 intro pins s σ H o i v ov iv u Q I ro ri rv h;obtain⟨ad,H',rfl,g,q⟩:=h;cases ro;exact zb3 hu I g ri rv λs' I'=>⟨H',I',q⟩
theorem zT9(hu:X.A.units+1<cLine)(ho:SE X EX o mo)(hi:SE X EX i mi)
 (ha:∀v,assign (.Subscript o i pos) X.env v=(do
  let ov <- K44 [v] (eval o X.env);let iv <- K44 [v,ov] (eval i X.env)
  K4u pos
  K44 [v,ov,iv] (Z27 ov iv v)
  release [v,ov,iv] []):=by intro _;rfl):SG X EX (.Subscript o i pos) (gDx mo mi):=
 ⟨PG.imp (zz4 ho.h hi.h (set_dict hu) ha) λv σ H Q ⟨ρ,γ,h,d,rel,rd,fin⟩=>⟨ρ,γ,h,rel,(Fin.bind fin).mono λod ρ1 h1 H1 p1 e1 r1 f1 ov ro=>⟨ρ1,γ,h1,⟨rel.g.mono p1 e1,r1⟩,(Fin.bind f1).mono λid ρ2 h2 H2 p2 e2 r2 f2 iv ri=>by
  have f3:=Fin.bind f2;cases od<;>first|exact(show False from f3).elim|skip
  rename_i n;unfold z5P at f3;dsimp only at f3;cases ek:keyD id with
  | none=>rw[ek]at f3;exact f3.elim
  | some k=>
   rw[ek]at f3;have:=zh8 ek ri;subst this;simp only[RD]at ro;obtain⟨q,rfl,hq⟩:=ro;have hq2:=p2 n q hq;dsimp only at f3;cases e4:h2[n]? with
   | none=>rw[e4]at f3;exact f3.elim
   | some ob=>
    cases ob with
    | lst xs=>rw[e4]at f3;exact f3.elim
    | set ks=>rw[e4]at f3;exact f3.elim
    | dct=>rw[e4]at f3;exact f3.elim
    | exc c=>rw[e4]at f3;exact f3.elim
    | ins _ _=>rw[e4]at f3;exact f3.elim
    | dF c=>rw[e4]at f3;exact f3.elim
    | dK kvs=>
     rw[e4]at f3;dsimp only at f3;split at f3
     ·rename_i hl;obtain⟨a1,n1,vs,o1,d1⟩:=r2.at e4;rw[hq2]at n1;cases n1;have rv:=(rd.mono p1 e1).mono p2 e2;refine⟨q,_,rfl,DPut.k o1 (by rw[<- d1.len];exact hl),?_⟩;have ext:Ext X.K H2 (upd H2 q (.dK (L2.putK vs k v))):=Ext.upd (.inr ⟨_,o1,trivial⟩);have r3:RH X.K ρ2 (h2.set n (.dK (ptD kvs k d))) (upd H2 q (.dK (L2.putK vs k v))):=r2.setO e4 hq2 ⟨_,J4,(d1.put k rv).mono .(b) ext⟩;exact f3 ρ2 _ .(b) ext r3 ρ2 _ .(b) .(d) r3 σ (((rel.g.mono p1 e1).mono p2 e2).mono .(b) ext)
     ·exact f3.elim⟩⟩⟩
end
def orM(m n:M α):M α:=λh=>match m h with
 | .bad=>n h
 | r=>r
def orE(m n:G->M α):G->M α:=λγ=>orM (m γ) (n γ)
theorem z8L(m n:M α)(h:AH):orM m n h=m h\/orM m n h=n h:=by
 unfold orM;cases m h with
 | bad=>exact .inr rfl
 | ok a b=>exact .inl rfl
 | err a b=>exact .inl rfl
theorem zl1{m n:G->M D}(a:SE X EX e m)(b:SE X EX e n):SE X EX e (orE m n):=
 ⟨λpins s σ H Q I ⟨ρ,γ,h,rel,fin⟩=>by
  rcases z8L (m γ) (n γ) h with z|z<;>rw[show orE m n γ h=orM (m γ) (n γ) h from rfl,z]at fin
  ·exact a.h pins s σ H Q I ⟨ρ,γ,h,rel,fin⟩
  ·exact b.h pins s σ H Q I ⟨ρ,γ,h,rel,fin⟩⟩
theorem z6i{m n:G->M Src}(a:SI X EX tg e m)(b:SI X EX tg e n):SI X EX tg e (orE m n):=
 ⟨λpins s σ H Q I ⟨ρ,γ,h,rel,fin⟩=>by
  rcases z8L (m γ) (n γ) h with z|z<;>rw[show orE m n γ h=orM (m γ) (n γ) h from rfl,z]at fin
  ·exact a.h pins s σ H Q I ⟨ρ,γ,h,rel,fin⟩
  ·exact b.h pins s σ H Q I ⟨ρ,γ,h,rel,fin⟩⟩
theorem or_l{m n:G->M α}{v:α}(e:m γ h=.ok v h1):orE m n γ h=.ok v h1:=by unfold orE orM;rw[e]
theorem or_r{m n:G->M α}(e:m γ h=.bad):orE m n γ h=n γ h:=by unfold orE orM;rw[e]
theorem or_b{m n:G->M α}(e:m γ=bad):orE m n γ=n γ:=funext λh=>or_r (by rw[e];rfl)
theorem W_of{m:M α}{v:α}{Q:α->AH->Prop}(e:m h=.ok v h1)(q:Q v h1):W m h Q:=⟨_,_,e,q⟩
def kvN(l:List Nat):List (Key×D):=l.map λ(i:Nat)=>(.inl (i:Int),.bl true)
def putN(acc:List Nat)(k:Nat):List Nat:=if k∈acc then acc else acc++[k]
def dedN(l:List Nat):List Nat:=l.foldl putN []
theorem zn0{a:List Nat}{k:Nat}:x∈putN a k↔x∈a\/x=k:=by
 unfold putN;split
 ·exact⟨.inl,λh=>h.elim id λe=>by subst e;assumption⟩
 ·simp
theorem zK6{a:List Nat}{k:Nat}(h:a.Nodup):(putN a k).Nodup:=by
 unfold putN;split
 ·exact h
 ·exact zi1 h ‹_›
theorem z8z{x:Nat}:∀{l a:List Nat},x∈l.foldl putN a↔x∈a\/x∈l
 | [],a=>by simp
 | k::l,a=>by rw[K4j,z8z,zn0,K0y];exact or_assoc
theorem za9:∀{l a:List Nat},a.Nodup->(l.foldl putN a).Nodup
 | [],_,h=>h
 | _::l,_,h=>za9 (l:=l) (zK6 h)
theorem dedN_mem:x∈dedN l↔x∈l:=by unfold dedN;rw[z8z];simp
theorem zl2(l:List Nat):(dedN l).Nodup:=za9 Z2d
theorem z9R:∀(l a:List Nat),(kN l).foldl putK (kN a)=kN (l.foldl putN a)
 | [],a=>rfl
 | k::l,a=>by
  have e:putK (kN a) (.inl (k:Int))=kN (putN a k):=by
   unfold putN;split
   ·rename_i h;unfold putK;rw[if_pos (kN_mem.mpr h)]
   ·exact zY6 ‹_›
  show (kN l).foldl putK (putK (kN a) (.inl (k:Int)))=_;rw[e];exact z9R l (putN a k)
theorem zz0(l:List Nat):dedK (kN l)=kN (dedN l):=z9R l []
theorem zl5(h:∀x∈l,x<n):(dedN l).length<=n:=zj4 (zl2 l) λx hx=>h x (dedN_mem.mp hx)
theorem z7S:∀l:List Nat,z5V (stD l)=some (kN l)
 | []=>rfl
 | a::l=>by
  have:z5V (stD (a::l))=(match keyD (.int (a:Int)),z5V (stD l) with
   | some k,some ks=>some (k::ks)
   | _,_=>none):=rfl
  rw[this,z7S l];rfl
def setN(l:List Nat):List Nat:=z0R (dedN l)
theorem z0t:x∈setN l↔x∈l:=by unfold setN;rw[sortN_mem,dedN_mem]
theorem z0X(l:List Nat):(setN l).Pairwise (·<·):=z21 (zl2 l)
theorem z58(h:l.Pairwise (·<·)):l.Nodup:=h.imp λh=>K0o h
theorem z2H(a:l.Pairwise (·<·))(b:m.Pairwise (·<·))(h:∀x,x∈l↔x∈m):l=m:=
 ((K71 (z58 a) (z58 b)).mpr h).eq_of_pairwise (λ_ _ _ _ h1 h2=>absurd h2 (Nat.lt_asymm h1)) a b
theorem zr4(h:∀x,x∈l↔x∈m):setN l=setN m:=z2H (z0X l) (z0X m) λx=>by rw[z0t,z0t];exact h x
theorem z8M(h:∀x∈l,x<n):(setN l).length<=n:=by unfold setN;rw[z0D];exact zl5 h
section
variable{ma:G->M D}{a b:Nat}{v:D}
theorem z6f(e:h[i]?=.(l xs)):z3T (.ref i) h=.ok i h:=by unfold z3T;dsimp only;rw[e]
theorem z8x(e:h[i]?=.(l xs))(hl:xs.length<1000000):k9 i v h=.ok .non (h.set i (.lst (xs++[v]))):=by
 unfold k9 updL;rw[e];dsimp only;rw[if_pos (by simp[sizeLine];omega)]
theorem z0S(ea:γ[a]?=some (.(r i)))(e:h[i]?=.(l xs))(hl:xs.length<1000000)(ev:me γ h=.ok v h)(z:W (mt γ) (h.set i (.lst (xs++[v]))) Q):W (Z0 (z0E (eM1 k9 (eVar a) me)) mt γ) h Q:=by
 refine zw5 ?_;have e1:eVar a γ=pure (.ref i):=by unfold eVar;rw[ea]
 unfold eM1;rw[e1,Y9,j0];refine W_of (z6f e) ?_;rw[j0];exact W_of ev (W_of (z8x e hl) z)
theorem z5i(hl:xs.length<=1000000)(ev:∀h,me γ h=newL xs h)(z:W (mt (γ.set a (.(r h.length)))) (h++[.lst xs]) Q):W (Z0 (sAsg me (gN a)) mt γ) h Q:=by
 refine zx2 ?_;have:me γ=newL xs:=funext ev;rw[this];exact Z0n hl z
theorem j5{f:List D->M D}{d:D}{r:Res D}(e:me γ h=.ok d h1)(e2:f [d] h1=r):Z6 f (z8 me aNil) γ h=r:=by
 have:z8 me aNil γ h=.ok [d] h1:=by
  show (me γ >>= λx=>(do let r <- aNil γ;pure (x::r):M (List D))) h=_;rw[M.bind_ok e];rfl
 show (z8 me aNil γ >>= f) h=_;rw[M.bind_ok this];exact e2
theorem z5d(e:h[i]?=.(l xs)):z0g [.ref i] h=.ok (.tup xs) h:=by
 have ft:z0g [.ref i]=(do let x <- getL i;pure (.tup x)):=rfl;have g:getL i h=.ok xs h:=by unfold getL;rw[e]
 rw[ft,M.bind_ok g];rfl
theorem z5n(e:h[i]?=.(l xs)):fLen [.ref i] h=.ok (.int xs.length) h:=by
 have ft:fLen [.ref i]=(do let x <- getL i;pure (.int x.length)):=rfl;have g:getL i h=.ok xs h:=by unfold getL;rw[e]
 rw[ft,M.bind_ok g];rfl
theorem ix_h{t:Int}{d:D}(e:h[i]?=.(l xs))(a:atI xs t=some d):fIx (.ref i) (.int t) h=.ok d h:=by
 have ft:fIx (.ref i) (.int t)=(do let xs <- getL i;match atI xs t with|some d=>pure d|none=>bad):=rfl;have g:getL i h=.ok xs h:=by unfold getL;rw[e]
 rw[ft,M.bind_ok g,a];rfl
theorem z4N(e:me γ h=.ok .(R) (h++[.lst xs]))(c:J8 0 xs=true):clE (Z6 z0g (z8 me aNil)) γ h=.ok (.tup xs) h:=
 z0m (j:=[.lst xs]) (j5 e (z5d .(f))) (by simp only[Y8];exact z3q (K3k _) c)
theorem cb_h{b:Bool}(e:me γ h=.ok (.bl b) h1):(λγ=>(do let d <- me γ;asB d:M Bool)) γ h=.ok b h1:=by
 dsimp only;rw[M.bind_ok e];rfl
theorem z3P{d:D}(z:W (mb (z10 n ds)) h (runW λa h'=>a=d/\h'=h1)):runF n mb ds h=.ok d h1:=by
 obtain⟨_,_,a,rfl,rfl⟩:=z1V z;exact a
end
theorem z7M{f:D->D->Option Bool}{ι:Type}[DecidableEq ι]{enc:ι->D}(e:∀a b,f (enc a) (enc b)=some (decide (a=b))):∀l m:List ι,eqZ f (l.map enc) (m.map enc)=some (decide (l=m))
 | [],[]=>by simp[eqZ]
 | [],b::m=>by simp[eqZ]
 | a::l,[]=>by simp[eqZ]
 | a::l,b::m=>by
  rw[K0v,K0v];unfold eqZ;rw[e a b,z7M e l m];dsimp only;congr 1;rw[K0p];simp
theorem z12(a b:Nat):eqN (n+1) h (.int a) (.int b)=some (decide (a=b)):=by
 show some ((a:Int)==(b:Int))=_;congr 1;rw[K0p,beq_iff_eq,.(15)];exact Int.ofNat_inj
theorem z5L(a b:Str):eqN (n+1) h (.str a) (.str b)=some (decide (a=b)):=by
 show some (a==b)=_;congr 1
theorem z1Q[DecidableEq ι]{enc:ι->D}(e:∀a b,eqN n h (enc a) (enc b)=some (decide (a=b)))(l m:List ι):eqN (n+1) h (.tup (l.map enc)) (.tup (m.map enc))=some (decide (l=m)):=z7M e l m
theorem zc0[DecidableEq ι]{enc:ι->D}(e:∀a b,eqN n h (enc a) (enc b)=some (decide (a=b))){l m:List ι}{j:Nat}(hi:h[i]?=.(l (l.map enc)))(hj:h[j]?=.(l (m.map enc))):eqN (n+1) h (.ref i) (.ref j)=some (decide (l=m)):=by
 have v1:vw h (.ref i)=.lst (l.map enc):=by unfold vw;dsimp only;rw[hi]
 have v2:vw h (.ref j)=.lst (m.map enc):=by unfold vw;dsimp only;rw[hj]
 unfold eqN;rw[v1,v2];exact z7M e l m
theorem z2q{x y:D}(e:eqN 24 h x y=some b):fEqX neg x y h=.ok (.bl (b != neg)) h:=by
 unfold fEqX;rw[e]
theorem zv3:fEqX neg (.tup (stD l)) (.tup (stD m))=pure (.bl (decide (l=m) != neg)):=funext λh=>z2q (z1Q (enc:=λ(i:Nat)=>.int i) z12 l m)
theorem zL0{j:Nat}(hi:h[i]?=.(l (stD l)))(hj:h[j]?=.(l (stD m))):fEqX neg (.ref i) (.ref j) h=.ok (.bl (decide (l=m) != neg)) h:=z2q (zc0 (enc:=λ(i:Nat)=>.int i) z12 hi hj)
section
variable{ma mb:G->M D}{h2:AH}
theorem e2_h{f:D->D->M D}{x y:D}{r:Res D}(e1:ma γ h=.ok x h1)(e2':mb γ h1=.ok y h2)(e3:f x y h2=r):e2 f ma mb γ h=r:=by
 show (ma γ >>= λx=>(mb γ >>= λy=>f x y)) h=_;rw[M.bind_ok e1,M.bind_ok e2',e3]
theorem fn_h{f:List D->M D}{r:Res D}(e:mr γ h=.ok ds h1)(hn:ds.length=n)(e2:f ds h1=r):eFn n f mr γ h=r:=by
 show (mr γ >>= λxs=>if .(21)=n then f xs else bad) h=_;rw[M.bind_ok e,if_pos hn,e2]
theorem ac_h{d:D}(e:ma γ h=.ok d h1)(e2:mr γ h1=.ok ds h2):z8 ma mr γ h=.ok (d::ds) h2:=by
 show (ma γ >>= λx=>(mr γ >>= λr=>(pure (x::r):M (List D)))) h=_;rw[M.bind_ok e,M.bind_ok e2];rfl
end
section
variable{prog:K1a}{w:World}
theorem z5X:∀{vs:List Value}{ns:List Int},K67 vs ns->∀i (h1:i<vs.length) (h2:i<ns.length),∃t,vs[i]=.int ns[i] t
 | _,_,.nil,i,h1,_=>by simp at h1
 | _,_,.cons n t r,0,_,_=>⟨t,rfl⟩
 | _,_,.cons n t r,i+1,h1,h2=>by simpa using z5X r i (by simpa using h1) (by simpa using h2)
theorem z4k{t:Addr}{k:Int}{tk:Tok}{Q:Value->Shared->Prop}(ht:IsTup s.heap t vs.toArray)(hi:K67 vs ns)(hk:k∈ns)(h:Q (.int (ns.idxOf k:Nat) s.toks) { s with toks:=s.toks+1 }):
 wpAny (model prog w) A (call (.builtin "tuple.index") [.ref t,.int k tk]) Q E s:=by
 have hT:s.heap.IsTuple t vs.toArray:=ht;have hlen:=hi.length;have hj:ns.idxOf k<ns.length:=K0w.mpr hk;obtain⟨o,ho,hc,n,hd⟩:=id hT;refine K20 F.slot_tuple_index ⟨o,ho,hc⟩ F.entry_tuple_index ?_ (F.args_tuple_index_2 _ _);unfold Builtin.«tuple.index»
 wp_walk
 rw[hd];refine K9 ?_;refine K9 ?_;dsimp only;refine K0 (K9 ?_);refine K0 (K9 ?_);refine K0 ?_;rw[Std.Legacy.Range.forIn_eq_forIn_range'];simp only[Std.Legacy.Range.size,Nat.sub_zero,Nat.add_sub_cancel,Nat.div_one,Nat.min_self,K07];refine wpAny_forIn_list _
  (λrest b s'=>s'=s/\b=(none,())/\∃i,rest=Z1x i (vs.length - i)/\i<=ns.idxOf k)
  _ ?_ ?_ _ _ ⟨rfl,rfl,0,by simp,K3k _⟩
 ·rintro x rest b s' ⟨rfl,rfl,i,hr,hle⟩;have hlt:i<vs.length:=by omega
  obtain⟨rfl,hrest⟩:x=i/\rest=Z1x (i+1) (vs.length - (i+1)):=by
   have e:vs.length - i=(vs.length - (i+1))+1:=by omega
   rw[e,K81]at hr;injection hr with h1 h2
   exact⟨h1,h2⟩
  have e1:vs.toArray[x]?=some vs[x]:=by simp[hlt]
  rw[e1];dsimp only;obtain⟨tk2,e2⟩:∃tk2,vs[x]=.int (ns[x]' .(1)) tk2:=z5X hi x hlt .(1);rw[e2];refine K0 (wpAny_eqBool_int ?_);by_cases e3:x=ns.idxOf k
  ·have e4:ns[x]' .(1)=k:=by subst e3;exact K4b hj
   rw[e4,if_pos .(f)];subst e3
   wp_walk
   exact⟨_,rfl,h⟩
  ·have e4:(ns[x]' .(1)==k)=false:=ne_of_lt_idxOf (show x<ns.idxOf k by omega) _;rw[if_neg (by rw[e4];decide)];exact K9 ⟨rfl,rfl,x+1,hrest,by omega⟩
 ·rintro b s' ⟨rfl,rfl,i,hr,hle⟩;have:vs.length - i=0:=by
   cases e:vs.length - i with
   | zero=>rfl
   | succ m=>rw[e,K81]at hr;cases hr
  omega
end
def maxI(ns:List Int):Int:=ns.getD (argBest (λi j=>decide (ns.getD i 0 > ns.getD j 0)) (ns.length - 1)) 0
theorem zp1(h:0<ns.length):maxI ns∈ns:=by
 obtain⟨a,_⟩:=argBest_gt (λi=>ns.getD i 0) (ns.length - 1);unfold maxI;generalize argBest (λi j=>decide (ns.getD i 0 > ns.getD j 0)) (ns.length - 1)=j at a ⊢;have hj:j<ns.length:=by omega
 rw[K3r,K2 hj];exact K3l hj
theorem zC5{x:Int}(h:x∈ns):x<=maxI ns:=by
 obtain⟨i,hi,e⟩:=K2v h;have:=(argBest_gt (λi=>ns.getD i 0) (ns.length - 1)).2 i .(1);rw[K3r,K2 hi,K80,e]at this;exact this
section
variable{a o:Expr}{ma:G->M D}
def zG9(K:K1):V->List V->Hp->VK->Prop:=λx vs H Q=>∃(l:Addr) (ns:List Int) (k:Int),x=.ref l/\vs=[.int k]/\SqL K H l (ns.map V.int)/\ns.length<=100000/\k∈ns/\Q (.int (ns.idxOf k:Nat)) H
def zG5(K:K1):V->List V->Hp->VK->Prop:=λx vs H Q=>∃(l:Addr) (ns:List Int) (k:Int),x=.ref l/\vs=[.int k]/\SqT K H l (ns.map V.int)/\k∈ns/\Q (.int (ns.idxOf k:Nat)) H
theorem zd7:MtR X "tuple.index" (zG5 X.K):=by
 intro pins s σ H x vs v us Q I rx rv h;obtain⟨l,ns,k,rfl,rfl,hq,hk,q⟩:=h;cases rx;obtain⟨u,rfl,ru⟩:=rv.one;obtain⟨t,rfl⟩:=ru;obtain⟨its,r,pl,hz⟩:=I.tuple hq;exact z4k pl (intsAre_of r) hk ⟨.int _,H,I.tok _,⟨_,rfl⟩,q⟩
theorem z7K{A:Around}{E:Value->Shared->Prop}{l:Addr}{k:Int}{t:Tok}{Q:Value->Shared->Prop}(hl:s.heap.IsList l vs.toArray)(hi:K67 vs ns)(hb:ns.length<=100000)(hk:k∈ns)(h:Q (.int (ns.idxOf k:Nat) s.toks) { s with toks:=s.toks+1 }):
 wpAny .(8) A (call (.builtin "list.index") [.ref l,.int k t]) Q E s:=by
 obtain⟨⟨cls,dd,data,sl⟩,ho,hc,n,hd⟩:=id hl;simp only at hc hd;subst hc hd;have hlen:=hi.length;have hj:ns.idxOf k<ns.length:=K0w.mpr hk;refine K4e K48 ⟨_,ho,rfl⟩ K7t (K73 _ _)
  (K7s l vs.toArray n dd sl (.int k t) (isInt k) (ns.idxOf k) (by simpa [hlen] using hj) .(1) ?_ ?_) ⟨ho,λy hy=>(eq_isInt k t hi y (by simpa using hy)).at _ _,h⟩
 ·show isInt k vs[ns.idxOf k]=true;rw[isInt_at k hi _ .(1) hj];simpa using K4b hj
 ·intro j hjs hlt;show isInt k vs[j]=false;rw[isInt_at k hi j (by simpa using hjs) .(1)];exact ne_of_lt_idxOf hlt _
theorem z9S:MtR X "list.index" (zG9 X.K):=by
 intro pins s σ H x vs v us Q I rx rv h;obtain⟨l,ns,k,rfl,rfl,hq,hb,hk,q⟩:=h;cases rx;obtain⟨u,rfl,ru⟩:=rv.one;obtain⟨t,rfl⟩:=ru;obtain⟨its,r,pl,hz⟩:=I.list hq;exact z7K pl.isList (intsAre_of r) hb hk ⟨.int _,H,I.tok _,⟨_,rfl⟩,q⟩
def ixI(xs:List D)(y:D):M D:=match z3H xs,y with
 | some ns,.int k=>if ns.length<=100000/\k∈ns then pure (.int (ns.idxOf k:Nat)) else bad
 | _,_=>bad
def z0w(n:Nat)(y:D):M D:=do
 let xs <- getL n
 ixI xs y
def z18(mo ma:G->M D):G->M D:=λγ=>do
 let o <- mo γ
 match o with
 | .tup xs=>do
  let y <- ma γ
  ixI xs y
 | _=>bad
theorem z9Z{y:D}{vs:List V}{u:V}{Q:VK}(r:RH X.K ρ h H)(rx:RDs X.K ρ H xs vs)(ry:RD X.K ρ H y u)(fin:FE X.K EX ρ H Q (ixI xs y h)):∃(ns:List Int) (k:Int),vs=ns.map V.int/\u=.int k/\ns.length<=100000/\k∈ns/\Q (.int (ns.idxOf k:Nat)) H:=by
 unfold ixI at fin;cases e:z3H xs with
 | none=>rw[e]at fin;exact fin.elim
 | some ns=>
  rw[e]at fin;cases y<;>first|exact(show False from fin).elim|skip
  rename_i k;dsimp only at fin;simp only[RD]at ry;subst ry;by_cases c:ns.length<=100000/\k∈ns
  ·rw[if_pos c]at fin;exact⟨ns,k,z4y e rx,rfl,c.1,c.2,FE.here fin r .(C)⟩
  ·rw[if_neg c]at fin;exact fin.elim
theorem z2u(ho:SE X EX o mo)(ha:SE X EX a ma)
 (hbase:K4r o "index" X.env (eval o X.env)=eval o X.env:=by rfl)
 (hfew:((backTo cpos (K09 [a] X.env)).all (λx=>!x.1)&&(K86 cpos (K5j [] X.env)).all (λx=>x.1.isSome)
 &&decide .(u))=true:=by rfl)
 (hline:(apos.endLine==cpos.line)=true:=by rfl) (hs:K09 [a] X.env=[(false,eval a X.env)]:=by rfl) :
 SE X EX (.Call (.Attribute o "index" apos) [a] [] cpos) (eM1 z0w mo ma):=
 ⟨PE.imp (zq9 K49 K48 K88 z9S ho.h (z0P ha.h z2m hs) hbase hfew hline hs rfl) (zs4 λρ h H n q y u Q r hq ru fin=>by
  have f2:Fin X.K EX ρ H _ _:=Fin.bind (show Fin X.K EX ρ H (λd ρ' _ H'=>∀v,RD X.K ρ' H' d v->Q v H') ((getL n >>= λxs=>ixI xs y) h) from fin);cases e3:getL n h with
  | bad=>rw[e3]at f2;exact f2.elim
  | err z hz=>exact(z11 e3).elim
  | ok xs h3=>
   obtain⟨rfl,q1⟩:=z14 e3;rw[e3]at f2;obtain⟨a1,n1,vs,o1,d1⟩:=r.at q1;rw[hq]at n1;cases n1;obtain⟨ns,k,rfl,rfl,hb,hk,q⟩:=z9Z r d1 ru (f2 ρ H .(b) .(d) r);exact⟨_,ns,k,rfl,rfl,SqL.of o1,hb,hk,q⟩)⟩
def tBMT(K:K1)(r:V->List V->Hp->VK->Prop)(to:TE)(t:TA):TE:=λσ H Q=>to σ H λx H1=>(∃a xs,x=.ref a/\SqT K H1 a xs)/\t σ H1 λvs H2=>r x vs H2 Q
theorem tup_is{σ:L2.St}{a:Addr}{xs:List V}(I:Inv X pins σ H s)(h:SqT X.K H a xs):s.TypeIs (.ref a) "tuple"/\∀b,K1f a=.ref b->∃ob,s.heap.get? b=some ob/\ob.dict=none:=by
 rcases h with h|⟨o,its,n,hk,hc,_⟩
 ·obtain⟨z,its,r,o,e,c,d⟩:=h.ok I.hok;exact⟨⟨o,e,c.1⟩,λb eb=>by cases eb;exact⟨o,e,c.2⟩⟩
 ·exact⟨⟨o,I.kIn a o hk,hc.1⟩,λb eb=>by cases eb;exact⟨o,I.kIn _ o hk,hc.2⟩⟩
theorem zO6{to:TE}{t:TA}{name:Str}{id:String}{r:V->List V->Hp->VK->Prop}(pa:PlainAttrs "tuple")(slot:Slot "tuple" name id)(hty:typeOf (.builtin id)=pure (.type "method_descriptor"))(hm:MtR X id r)(ho:PE X o to)(ha:PA X (e::es) t)
 (hbase:K4r o name X.env (eval o X.env)=eval o X.env:=by rfl)
 (hfew:((backTo cpos (K09 (e::es) X.env)).all (λx=>!x.1)&&(K86 cpos (K5j [] X.env)).all (λx=>x.1.isSome)
 &&decide ((e::es).length+([]:List K52).length+(if ([]:List K52).isEmpty then 0 else 1)<30))=true:=by rfl)
 (hline:(apos.endLine==cpos.line)=true:=by rfl) (hs:K09 (e::es) X.env=(false,eval e X.env)::K09 es X.env:=by rfl) (hplain:(backTo cpos (K09 es X.env)).any (·.1)=false:=by rfl) :
 PE X (.Call (.Attribute o name apos) (e::es) [] cpos) (tBMT X.K r to t):=by
 intro pins s σ H Q I h;refine K8r hbase hfew hline rfl (thn (ho pins s σ H _ I h) λv s1 ⟨x,H1,I1,r1,ty,q1⟩=>?_);obtain⟨a,xs,rfl,hq⟩:=ty;cases r1;obtain⟨h1,h2⟩:=tup_is I1 hq;refine⟨"tuple",id,pa,slot,hty,h1,h2,?_⟩;have hA:=ha cpos pins s1 σ H1 _ I1 q1;rw[hs]at hA ⊢;refine K8m (by show (false||(backTo cpos (K09 es X.env)).any (·.1))=false;rw[hplain]<;>rfl) (K6b ?_);exact thn hA λus s2 ⟨vs,H2,I2,r2,q2⟩=>hm pins s2 σ H2 (.ref a) vs (.ref a) us Q I2 rfl r2 q2
theorem z2C(ho:SE X EX o mo)(ha:SE X EX a ma)
 (hbase:K4r o "index" X.env (eval o X.env)=eval o X.env:=by rfl)
 (hfew:((backTo cpos (K09 [a] X.env)).all (λx=>!x.1)&&(K86 cpos (K5j [] X.env)).all (λx=>x.1.isSome)
 &&decide .(u))=true:=by rfl)
 (hline:(apos.endLine==cpos.line)=true:=by rfl) (hs:K09 [a] X.env=[(false,eval a X.env)]:=by rfl) :
 SE X EX (.Call (.Attribute o "index" apos) [a] [] cpos) (z18 mo ma):=
 ⟨PE.imp (zO6 PySem.F.plainAttrs_tuple PySem.F.slot_tuple_index PySem.F.type_tuple_index zd7 ho.h (z0P ha.h z2m hs) hbase hfew hline hs rfl) λσ H Q ⟨ρ,γ,h,rel,fin⟩=>⟨ρ,γ,h,rel,(Fin.bind fin).mono λx ρ1 h1 H1 p1 e1 r1 f1 v rv=>by
  cases x<;>first|exact(show False from f1).elim|skip
  rename_i xs;simp only[RD]at rv;obtain⟨q,vs,rfl,h2,h3⟩:=rv;exact⟨⟨q,vs,rfl,h2⟩,ρ1,γ,h1,⟨rel.g.mono p1 e1,r1⟩,(Fin.bind f1).mono λy ρ2 h4 H2 p2 e2 r2 f2 u ru=>by
   obtain⟨ns,k,rfl,rfl,hb,hk,q⟩:=z9Z r2 (h3.mono p2 e2) ru f2;exact⟨_,ns,k,rfl,rfl,e2.t _ _ h2,hk,q⟩⟩⟩⟩
theorem zc7(hc:X.calm=true):z2W X (.builtin "max") (λxs H Q=>∃(a:Addr) (ns:List Int),xs=[.ref a]/\SqT X.K H a (ns.map V.int)/\0<ns.length/\Q (.int (maxI ns)) H):=by
 intro pins s σ H xs us Q I rv h;obtain⟨a,ns,rfl,hq,hn,q⟩:=h;obtain⟨u,rfl,ru⟩:=vals1 rv;cases ru;obtain⟨its,r,pl,hz⟩:=I.tuple hq;have pT:s.heap.IsTuple a its.toArray:=pl;have hi:=intsAre_of r;have hlen:=hi.length;have lt:a<s.heap.objs.size:=by obtain⟨o,e,_⟩:=pl;exact K0a e
 refine call_max_walk (K3q pT ?_);refine⟨s.heap.objs.size,[s.heap.objs.size,a],[s.heap.objs.size],its.toArray.size,_,_,λi j=>decide (ns.getD i 0 > ns.getD j 0),rfl,Walks.tuple (A:=X.A.in1) (I.ok.hd hc) s.heap.objs.size a (K0o lt) its.toArray,⟨⟨_,K0b _ rfl,rfl,rfl⟩,pT.push _⟩,λb hb=>?_,by simpa [hlen] using hn,CmpOf.ints_gt (λi=>ns.getD i 0) λi v hv=>?_,λv h' tk hP hk=>?_⟩
 ·show b<(s.heap.push _).objs.size;rw[K1r];simp at hb;rcases hb with rfl|rfl
  ·exact K50 _
  ·exact K2o lt
 ·have hv':its[i]?=some v:=by simpa using hv
  obtain⟨h1,e1⟩:=K5.mp hv';obtain⟨t,e2⟩:=z5X hi i h1 .(1);refine⟨t,?_⟩;rw[K3r,K2 .(1),K80,<- e2,e1]
 ·have hP':its[argBest (λi j=>decide (ns.getD i 0 > ns.getD j 0)) (its.toArray.size - 1)]?=some v:=by simpa using hP
  rw[K07,hlen]at hP';obtain⟨h1,e1⟩:=K5.mp hP';obtain⟨t,e2⟩:=z5X hi _ h1 .(1);refine⟨.int (maxI ns),H,I.kept (t':=tk) λc o e=>hk c o (λz=>?_) (K8 _ e),⟨t,?_⟩,q⟩
  ·have:c=s.heap.objs.size:=by simpa using z
   subst this;exact absurd (K0a e) (K2e _)
  ·rw[<- e1,e2];congr 1;unfold maxI;rw[K3r,K2 .(1),K80]
def z5a:List D->M D
 | [.tup xs]=>match z3H xs with
  | some ns=>if 0<ns.length then pure (.int (maxI ns)) else bad
  | none=>bad
 | _=>bad
theorem zz7:AR X.K EX (λxs H Q=>∃(a:Addr) (ns:List Int),xs=[.ref a]/\SqT X.K H a (ns.map V.int)/\0<ns.length/\Q (.int (maxI ns)) H) z5a:=by
 intro ρ h H ds vs Q r rd fin;unfold z5a at fin;split at fin
 ·rename_i xs;obtain⟨v,rfl,rv⟩:=rds1 rd;simp only[RD]at rv;obtain⟨q,ws,rfl,h2,h3⟩:=rv;cases e:z3H xs with
  | none=>rw[e]at fin;exact fin.elim
  | some ns=>
   rw[e]at fin;dsimp only at fin;split at fin
   ·have:=z4y e h3;subst this;exact⟨q,ns,rfl,h2,‹_›,FE.here fin r .(C)⟩
   ·exact fin.elim
 ·exact fin.elim
theorem z9M(hc:X.calm=true)(hg:Gl X "max")(hm:X.mg "max" = none)(ha:SA X EX [a] mr)(he:K09 [a] X.env=[(false,eval a X.env)]:=by rfl):SE X EX (.Call (.Name "max" p) [a] [] pos) (Z6 z5a mr):=
 z1P (z1I (zc7 hc) hg hm .(2) ha.h .(0) .(0) he rfl) zz7
end
theorem z85(e:h[n]?=.(l (stD l))):fIn neg (.int x) (.ref n) h=.ok (.bl (decide (x∈l) != neg)) h:=by
 have g:getL n h=.ok (stD l) h:=by unfold getL;rw[e]
 unfold fIn seqD;rw[M.bind_ok g,z7Q,zb6];rfl
theorem j9:(h++[o])[h.length]?=some o:=by simp
theorem z33{o':O}:(h++[o]).set h.length o'=h++[o']:=by simp
theorem zN_mem:(x:Int)∈zN l↔x∈l:=by
 unfold zN;constructor
 ·intro h;obtain⟨i,hi,e⟩:=K08.mp h;have:i=x:=by omega
  exact this ▸ hi
 ·exact λh=>K08.mpr ⟨x,h,rfl⟩
theorem zZ0(l:List Nat)(x:Nat):(zN l).idxOf (x:Int)=l.idxOf x:=by
 induction l with
 | nil=>rfl
 | cons a l ih=>
  show ((a:Int)::zN l).idxOf (x:Int)=_;rw[K5a,K5a,ih];by_cases e:a=x
  ·subst e;simp
  ·have h1:((a:Int)==(x:Int))=false:=by
    rw[beq_eq_false_iff_ne];omega
   have h2:(a==x)=false:=by rw[beq_eq_false_iff_ne];exact e
   rw[h1,h2]
theorem zk1(hx:x∈l)(hl:l.length<=100000):ixI (stD l) (.int x)=pure (.int (l.idxOf x:Nat)):=by
 unfold ixI;rw[z3F];dsimp only;rw[if_pos ⟨by unfold zN;simpa using hl,zN_mem.mpr hx⟩,zZ0]
section
variable{ma:G->M D}
theorem zP7{mt:G->M D}(eo:mo γ h=.ok (.ref i) h)(e:h[i]?=.(l (stD l)))(ea:ma γ h=.ok (.int x) h)(hx:x∈l)(hl:l.length<=100000):orE (eM1 z0w mo ma) mt γ h=.ok (.int (l.idxOf x:Nat)) h:=by
 refine or_l ?_;show (mo γ >>= λo=>z3T o >>= λn=>ma γ >>= λy=>z0w n y) h=_;rw[M.bind_ok eo,M.bind_ok (z6f e),M.bind_ok ea];have g:getL i h=.ok (stD l) h:=by unfold getL;rw[e]
 unfold z0w;rw[M.bind_ok g,zk1 hx hl];rfl
theorem za5(eo:mo γ=pure (.tup (stD l)))(ea:ma γ=pure (.int x))(hx:x∈l)(hl:l.length<=100000):orE (eM1 z0w mo ma) (z18 mo ma) γ=pure (.int (l.idxOf x:Nat)):=by
 rw[or_b]
 ·unfold z18;rw[eo,Y9];dsimp only;rw[ea,Y9,zk1 hx hl]
 ·show (mo γ >>= λo=>z3T o >>= λn=>ma γ >>= λy=>z0w n y)=_;rw[eo,Y9];rfl
end
section
variable{ma:G->M D}{a:Nat}
theorem cv_h(e:me γ h=.ok (.bl b) h1):cVal me γ h=.ok b h1:=by
 unfold cVal;rw[M.bind_ok e];rfl
theorem cn_h(e:kb γ h=.ok b h1):cNot kb γ h=.ok (!b) h1:=by
 unfold cNot;rw[M.bind_ok e];rfl
theorem z9{d:D}(e:γ[a]?=some (some d)):eVar a γ h=.ok d h:=by unfold eVar;rw[e];rfl
theorem Z0Z{bs:List Bool}(e:me γ h=.ok .(R) (h++[.lst (bs.map .bl)])):clE (Z6 (fAll false) (z8 me aNil)) γ h=.ok (.bl (bs.all id)) h:=
 z0m (j:=[.lst (bs.map .bl)]) (j5 e (by
  have g:getL h.length (h++[O.lst (bs.map .bl)])=.ok (bs.map .bl) (h++[O.lst (bs.map .bl)]):=by unfold getL;rw[j9]
  unfold fAll;dsimp only;rw[M.bind_ok g,z81];rfl)) rfl
theorem z4b(e:me γ h=.ok (.ref i) h)(q:h[i]?=.(l xs)):z0e me γ h=.ok (.lst i xs) h:=by
 have g:getL i h=.ok xs h:=by unfold getL;rw[q]
 unfold z0e;rw[M.bind_ok e];dsimp only;rw[M.bind_ok g];rfl
theorem z0N(e:me γ h=.ok (.tup xs) h1):x9 me γ h=.ok (.con xs) h1:=by
 unfold x9;rw[M.bind_ok e];rfl
theorem zB3(e:me γ h=.ok (.ref i) h)(q:h[i]?=.(l xs)):orE (x9 me) (z0e me) γ h=.ok (.lst i xs) h:=by
 rw[or_r]
 ·exact z4b e q
 ·unfold x9;rw[M.bind_ok e];rfl
theorem zY9(e:me γ h=.ok (.tup xs) h1):orE (x9 me) (z0e me) γ h=.ok (.con xs) h1:=or_l (z0N e)
theorem z0d{cap:List (Option Nat)}{g:D->G->M G}(p:Nat->Bool)(f:Nat->D)(hi:mi γ h=.ok src h)(hs:src.items=stD l)(hg:∀j,src.good (h++j))(hl:l.length<=1000000)
 (hd:∀x∈l,∃γ1,(∀h,g (.int x) (capG cap γ) h=.ok γ1 h)/\(∀j,kb γ1 (h++j)=.ok (p x) (h++j))/\(p x=true->∀j,me γ1 (h++j)=.ok (f x) (h++j))):Y7 cap mi g kb me γ h=.ok (.ref .(m)) (h++[.lst ((l.filter p).map f)]):=by
 refine(z1z (src:=src) (λd=>match d with|.int t=>p t.toNat|_=>false) (λd=>match d with|.int t=>f t.toNat|_=>.non) hi hg (by rw[hs,J5];exact hl) λd hd'=>?_).trans ?_
 ·rw[hs]at hd';obtain⟨x,hx,rfl⟩:=K08.mp hd';exact hd x hx
 ·rw[hs];unfold stD;rw[K8y,K0g];rfl
end
theorem zC7(a b:List Str)(l m:List Nat):eqN (n+3) h (.tup [.tup (a.map .str),.tup (stD l)]) (.tup [.tup (b.map .str),.tup (stD m)])=some (decide (a=b)&&decide (l=m)):=by
 have e1:eqN (n+2) h (.tup (a.map .str)) (.tup (b.map .str))=some (decide (a=b)):=z1Q z5L a b;have e2:eqN (n+2) h (.tup (stD l)) (.tup (stD m))=some (decide (l=m)):=z1Q (enc:=λ(i:Nat)=>.int i) z12 l m;show eqZ (eqN (n+2) h) _ _=_;unfold eqZ;rw[e1];unfold eqZ;rw[e2];unfold eqZ;simp
theorem Z0x(s t:List .(19))(a b:List (List Str)):eqN (n+4) h (maD s a) (maD t b)=some (decide (s=t)&&decide (a=b)):=by
 have e1:eqN (n+3) h (.tup (stsD s)) (.tup (stsD t))=some (decide (s=t)):=z1Q (enc:=λr=>.tup (stD r)) (z1Q (enc:=λ(i:Nat)=>.int i) z12) s t;have e2:eqN (n+3) h (.tup (mksD a)) (.tup (mksD b))=some (decide (a=b)):=z1Q (enc:=λ(r:List Str)=>.tup (r.map .str)) (z1Q z5L) a b;show eqZ (eqN (n+3) h) _ _=_;unfold eqZ;rw[e1];unfold eqZ;rw[e2];unfold eqZ;simp
theorem zP3{s t:List .(19)}{a b:List (List Str)}:fEqX neg (maD s a) (maD t b)=pure (.bl ((decide (s=t)&&decide (a=b)) != neg)):=funext λh=>z2q (Z0x s t a b)
theorem zf6(st:List .(19))(mk:List (List Str)):Y8 n .(7)=true:=by
 unfold maD stsD mksD;simp only[Y8,J8,K7o,K0i];exact⟨z04 λa=>z4H a,z04 λa=>by simp only[Y8];exact z7f _⟩
theorem z83(mk:List (List Str)):(mksD mk).length=mk.length:=by unfold mksD;simp
theorem z2Y{ma mb:G->M D}{h2:AH}{x y:D}(e1:ma γ h=.ok x h1)(e2':mb γ h1=.ok y h2):eTup (z8 ma (z8 mb aNil)) γ h=.ok (.tup [x,y]) h2:=by
 have e3:z8 ma (z8 mb aNil) γ h=.ok [x,y] h2:=ac_h e1 (ac_h e2' rfl);unfold eTup;rw[M.bind_ok e3];rfl
theorem zi5(n:Nat):z1g n=stD (K7 n):=rfl
theorem zF6{x:D}(e:seqD x h=.ok (stD l) h)(hl:l.length<=2000):z1e [x] h=.ok .(R) (h++[.set (kN (dedN l))]):=by
 unfold z1e;dsimp only;rw[M.bind_ok e,z7S];dsimp only;rw[if_pos (by rw[zx3];omega),zz0];rfl
theorem z9T(e:h[i]?=some (.set (kN l)))(hl:l.length<64):z03 [.ref i] h=.ok .(R) (h++[.lst (stD (z0R l))]):=by
 unfold z03;dsimp only;have g:getS i h=.ok (kN l) h:=by unfold getS;rw[e]
 rw[M.bind_ok g,z84];dsimp only;rw[if_pos (by unfold zN;rw[K03];omega),z4G];unfold newL;rw[if_pos (by rw[J5,z0D];unfold sizeLine;omega)]
theorem zZ1{tup:Bool}{ma:G->M D}(e:ma γ h=.ok (.int (n:Nat)) h1)(hn:n<=1000000):eRng tup ma γ h=(if tup then pure (.tup (z1g n)) else newL (z1g n)) h1:=by
 unfold eRng;rw[M.bind_ok e];have l:n<=sizeLine:=K0z hn .(0);dsimp only;rw[if_pos (by rw[K0k,.(s) l,.(s) (show -(2 ^ 62)<=(n:Int) by omega),.(s) (show (n:Int)<2 ^ 62 by omega)];rfl),K0k]
def rowAt(row:List Nat)(o:Nat):Nat:=(row[o]?).getD 0
def mkAt(mk:List (List Str))(i:Nat):List Str:=(mk[i]?).getD []
theorem zy8:∀{l:List Nat}{i x:Nat},l[i]?=some x->l.idxOf x<=i
 | [],i,x,h=>by simp at h
 | a::l,0,x,h=>by simp at h;subst h;simp[K5a]
 | a::l,i+1,x,h=>by
  have:=zy8 (l:=l) (i:=i) (x:=x) (by simpa using h);rw[K5a];cases (a==x)<;>simp<;>omega
theorem z3k(h:x∈l):l[l.idxOf x]?=some x:=by
 have:=K0w.mpr h;rw[K2 this,K4b this]
theorem z1W(h:x∈l):rowAt l (l.idxOf x)=x:=by unfold rowAt;rw[z3k h];rfl
theorem z0q(h:i<l.length):l[i]?=some (rowAt l i):=by unfold rowAt;rw[K2 h];rfl
theorem z2r(h:i<l.length):rowAt l i∈l:=K06 (z0q h)
theorem z1G(h:l[i]?=some x):rowAt l i=x:=by unfold rowAt;rw[h];rfl
theorem zh0{j:Nat}(nd:l.Nodup)(h:i<l.length)(h2:j<l.length)(e:rowAt l i=rowAt l j):i=j:=by
 unfold rowAt at e;rw[K2 h,K2 h2]at e;exact(K84 nd).mp e
theorem zQ1(nd:l.Nodup)(h:i<l.length):l.idxOf (rowAt l i)=i:=by
 have m:=z2r h;exact zh0 nd (K0w.mpr m) h (z1W m)
theorem z3s{l:List (List Str)}(h:i<l.length):l[i]?=some (mkAt l i):=by unfold mkAt;rw[K2 h];rfl
theorem z98{l:List .(19)}(h:i<l.length):l[i]?=some (nx l i):=by unfold nx;rw[K2 h];rfl
def Canon(row:List Nat):Prop:=∀i v,row[i]?=some v->∀u,u<v->u∈row.take i
def led(st:List .(19))(row:List Nat)(x:Nat):List Nat:=setN ((nx st x).map (rowAt row))
structure Steady(st:List .(19))(mk:List (List Str))(row:List Nat):Prop where
 len:row.length=.(c)
 can:Canon row
 like:∀i,i<row.length->mkAt mk i=mkAt mk (row.idxOf (rowAt row i))/\led st row i=led st row (row.idxOf (rowAt row i))
def qst(n:Nat)(st:List .(19))(row:List Nat):List .(19):=(K7 n).map λh=>led st row (row.idxOf h)
def qmk(n:Nat)(mk:List (List Str))(row:List Nat):List (List Str):=(K7 n).map λh=>mkAt mk (row.idxOf h)
theorem zb2(hn:1<=n)(h:∀u,u∈row↔u<n):maxI (zN row)=((n - 1:Nat):Int):=by
 have m1:n - 1∈row:=(h _).mpr .(1);have l0:0<(zN row).length:=K8o (zN_mem.mpr m1);have a:=zC5 (zN_mem.mpr m1);have b:=zp1 l0;unfold zN at b;obtain⟨u,hu,e⟩:=K08.mp b;have:=(h u).mp hu;unfold zN at a;unfold zN;omega
theorem zZ5(q:∀o∈nx st x,o<row.length)(h:∀u,u∈row↔u<n):∀u∈led st row x,u<n:=by
 intro u hu;unfold led at hu;rw[z0t]at hu;obtain⟨o,ho,rfl⟩:=K08.mp hu;exact(h _).mp (z2r (q o ho))
def rowOf(raw:List Nat):List Nat:=raw.map λx=>raw.idxOf x
section
variable{raw:List Nat}
theorem z4W:(rowOf raw).length=raw.length:=by unfold rowOf;simp
end
theorem z6p{M:Model}{T id:String}{Q:Bool->Shared->Prop}(h:s.TypeIs (.ref a) T)(sl:Slot T (K01 "__iter__") id)(q:Q false s):wpAny M A (notIterableAtAll (.ref a)) Q E s:=by
 unfold notIterableAtAll;refine K0 (K8z h sl.lookup ?_);exact K9 q
def Z0h(K:K1)(ta:TE)(tr:TA):TA:=λσ H Q=>ta σ H λx H1=>∃a xs,x=.ref a/\(SqT K H1 a xs\/SqL K H1 a xs)/\tr σ H1 λys H2=>Q (xs++ys) H2
section
variable{te:TE}{t:TA}{ma:G->M D}
theorem zL6(ha:PE X e te)(hr:PA X es t):PA X (.Starred e p::es) (Z0h X.K te t):=by
 intro pos pins s σ H Q I h;rw[K9a];show wpAny _ _ (Z26 ((true,do let v <- eval e X.env;K4u pos;pure v)::backTo pos (K09 es X.env))) _ _ s;refine K9q (thn .(Z) λu s1 ⟨x,H1,I1,r1,q1⟩=>?_);obtain⟨a,xs,rfl,hq,q⟩:=q1;cases r1;rcases hq with hq|hq
 ·obtain⟨its,rv,pl,hz⟩:=I1.tuple hq;have hl:=rv.length;obtain⟨o,ho,hc,n,hd⟩:=id pl;refine z6p ⟨o,ho,hc⟩ PySem.F.slot_tuple_iter ⟨rfl,wpAny_collect_seq a (.inr rfl) ho hc hd (λh' kp=>?_) (by rw[K07];omega)⟩;have I2:Inv X pins σ H1 { s1 with heap:=h' }:=I1.kept (t':=s1.toks) kp;exact thn (hr pos pins _ σ H1 _ I2 q) λus s3 ⟨ys,H3,I3,r3,q3⟩=>⟨xs++ys,H3,I3,by simpa using rv.append r3,q3⟩
 ·obtain⟨its,rv,pl,hz⟩:=I1.list hq;have hl:=rv.length;obtain⟨o,n,ho,hc,hdd,hd⟩:=id pl;refine z6p ⟨o,ho,hc⟩ PySem.F.slot_list_iter ⟨rfl,wpAny_collect_seq a (.inl rfl) ho hc hd (λh' kp=>?_) (by rw[K07];omega)⟩;have I2:Inv X pins σ H1 { s1 with heap:=h' }:=I1.kept (t':=s1.toks) kp;exact thn (hr pos pins _ σ H1 _ I2 q) λus s3 ⟨ys,H3,I3,r3,q3⟩=>⟨xs++ys,H3,I3,by simpa using rv.append r3,q3⟩
def z9W(ma:G->M D)(mr:G->M (List D)):G->M (List D):=λγ=>do
 let x <- ma γ
 match x with
 | .tup xs=>do
  let r <- mr γ
  pure (xs++r)
 | .ref n=>do
  let xs <- getL n;let r <- mr γ
  pure (xs++r)
 | _=>bad
theorem zM8(ha:SE X EX e ma)(hr:SA X EX es mr):SA X EX (.Starred e p::es) (z9W ma mr):=
 ⟨PA.imp (zL6 ha.h hr.h) λσ H Q ⟨ρ,γ,h,rel,fin⟩=>⟨ρ,γ,h,rel,(Fin.bind fin).mono λx ρ1 h1 H1 p1 e1 r1 f1 v rv=>by
  cases x<;>first|exact(show False from f1).elim|skip
  ·rename_i xs;simp only[RD]at rv;obtain⟨q,vs,rfl,h2,h3⟩:=rv;exact⟨q,vs,rfl,.inl h2,ρ1,γ,h1,⟨rel.g.mono p1 e1,r1⟩,(Fin.bind f1).mono λds ρ2 h4 H2 p2 e2 r2 f2 ws rws=>
    f2 ρ2 H2 .(b) .(d) r2 (vs++ws) ((h3.mono p2 e2).append rws)⟩
  ·rename_i n;simp only[RD]at rv;obtain⟨q,rfl,hq⟩:=rv;have f2:=Fin.bind f1;cases e3:getL n h1 with
   | bad=>rw[e3]at f2;exact f2.elim
   | err z hz=>exact(z11 e3).elim
   | ok xs h3=>
    obtain⟨rfl,q1⟩:=z14 e3;rw[e3]at f2;obtain⟨a1,n1,vs,o1,d1⟩:=r1.at q1;rw[hq]at n1;cases n1;have f3:=f2 ρ1 H1 .(b) .(d) r1;exact⟨_,vs,rfl,.inr (SqL.of o1),ρ1,γ,_,⟨rel.g.mono p1 e1,r1⟩,(Fin.bind f3).mono λds ρ2 h4 H2 p2 e2 r2 f2 ws rws=>
     f2 ρ2 H2 .(b) .(d) r2 (vs++ws) ((d1.mono p2 e2).append rws)⟩⟩⟩
end
section
variable{elt tg1 iter1:Expr}{sc:Scope}{own1:List Nat}{mi1:G->M Src}{g1:D->G->M G}{k:G->M Bool}
def zx7(i:Nat)(cap:List (Option Nat))(mi:G->M Src)(g:D->G->M G)(mi1:G->M Src)(g1:D->G->M G)(k:G->M Bool)(me:G->M D):G->M Out:=sAsg (zi2 cap mi g mi1 g1 k me) (gN i)
theorem zK9(i:Nat){y:Str}{py spos:Pos}(hc:X.calm=true)(S:CS X sc N' cap)(hi:SI X EX tg iter mi)(hg:∀s H fp xe,SGk .(9) EX tg own g)(hi1:∀s H fp xe,SI .(9) EX tg1 iter1 mi1)(hg1:∀s H fp xe,SGk .(9) EX tg1 own1 g1)(ht:∀s H fp xe,SCs .(9) EX ifs1 k)
 (he:∀s H fp xe,SE .(9) EX elt me) (hN:X.N.Nodup) (hy:X.N[i]?=some y:=by rfl) (hl:X.env.scope.names.lookup y=some .local:=by rfl) (hown:∀j∈own,cap[j]?=some none:=by decide) (hown1:∀j∈own1,cap[j]?=some none/\j∉own:=by decide)
 (hsw:K21 .(Q) (some (.Name y py)) spos.line X.env=pure true:=by rfl) (hs:∀x,K14 iter X.env x=pure x:=by intro _;rfl) (hs1:∀env x,K14 iter1 env x=pure x:=by intro _ _;rfl) :
 S1 X EX (.Assign [.Name y py] .(Q) spos) (zx7 i cap mi g mi1 g1 k me):=
 s_cm i (zb4 hc hi1 hg1 ht he hown1 hs1) hc S hi hg .(z) hown hN hy hl hsw hs
end
def cnt(st:List .(19)):Nat->Nat->Nat
 | 0,_=>1
 | n+1,x=>((nx st x).map (cnt st n)).sum
def Z0t(w:List Nat):Nat:=w.getLast?.getD 0
def ext(st:List .(19))(left:Nat)(w:List Nat):List .(19):=((nx st (Z0t w)).filter λy=>decide (0<cnt st left y)).map λy=>w++[y]
theorem Z0g{m:G->M α}{Q:α->AH->Prop}(z:W (m γ) h Q):W (noE m γ) h Q:=by
 obtain⟨a,h1,e,q⟩:=z;exact⟨a,h1,by unfold noE;rw[e],q⟩
theorem Z0u(z:W (Z0 ms mt γ) h Q):W (Z0 (noE ms) mt γ) h Q:=by
 rw[w_cons]at z ⊢;exact Z0g z
theorem Z08{m:G->M α}{a:α}(e:m γ h=.ok a h1):noE m γ h=.ok a h1:=by unfold noE;rw[e]
theorem zT4{a:Nat}{v:D}(ea:γ[a]?=some (.(r i)))(e:h[i]?=.(l xs))(ev:me γ h=.ok v h1)(e1:h1[i]?=.(l xs))(hl:xs.length<1000000)(z:W (mt γ) (h1.set i (.lst (xs++[v]))) Q):W (Z0 (z0E (eM1 k9 (eVar a) me)) mt γ) h Q:=by
 refine zw5 ?_;have e2':eVar a γ=pure (.ref i):=by unfold eVar;rw[ea]
 unfold eM1;rw[e2',Y9,j0];refine W_of (z6f e) ?_;rw[j0];exact W_of ev (W_of (z8x e1 hl) z)
section
variable{ka:G->M Bool}{r:Res Bool}
theorem z5k(e1:ka γ h=.ok false h)(e2':kb γ h=r):cOr ka kb γ h=r:=by
 unfold cOr;rw[M.bind_ok e1,if_neg .(0)];exact e2'
theorem z4c(e1:ka γ h=.ok true h)(e2':kb γ h=r):cAnd ka kb γ h=r:=by
 unfold cAnd;rw[M.bind_ok e1,if_pos rfl];exact e2'
theorem z2o(e1:ka γ h=.ok false h):cAnd ka kb γ h=.ok false h:=by
 unfold cAnd;rw[M.bind_ok e1,if_neg .(0)];rfl
end
theorem z6y(hl:xs.length<=1000000):newL xs h=.ok .(R) (h++[.lst xs]):=by
 unfold newL;rw[if_pos (K0z hl .(0))]
theorem zB5{k:G->M Bool}{body:G->M Out}{mt:G->M Out}{m:Nat}{Q:Out->AH->Prop}(I:Nat->G->AH->Prop)(hm:m<n)(i0:I m γ h)
 (z:∀m γ h,I m γ h->∃b,k γ h=.ok b h/\if b=true then ∃m',m=m'+1/\W (body γ) h (forW (λγ h=>∃i,i<=m'/\I i γ h) λ_ _=>False) else W (mt γ) h Q):W (Z0 (z32 k body n) mt γ) h Q:=by
 rw[w_cons];refine(z57 I (λγ h=>W (mt γ) h Q) (λ_ _=>False) (λm γ h q=>?_) n m γ h hm i0).mono λo h1 q=>?_
 ·obtain⟨b,e,q1⟩:=z m γ h q;exact W_of e q1
 ·cases o with
  | nx γ=>exact q
  | rt d=>exact q.elim
  | bk d=>exact q.elim
  | ct d=>exact q.elim
def z9k(n:Nat)(i v:D):M Unit:=z5P (.ref n) i v
def z2l(src:Src)(g:D->G->M G)(k:G->M Bool)(me mv:G->M D)(n0:Nat)(γ:G):List D->M Unit
 | []=>do
  let _ <- src.chk
  pure ()
 | d::r=>do
  let _ <- src.chk;let γ1 <- g d γ;let t <- k γ1
  if t then do
   let y <- me γ1;let v <- mv γ1;let _ <- z9k n0 y v
   z2l src g k me mv n0 γ r
  else z2l src g k me mv n0 γ r
def ze3(cap:List (Option Nat))(mi:G->M Src)(g:D->G->M G)(k:G->M Bool)(me mv:G->M D):G->M D:=λγ=>do
 let src <- mi γ;let n0 <- (λh=>.ok .(m) (h++[.dK []]):M Nat);let _ <- z2l src g k me mv n0 (capG cap γ) src.items
 pure (.ref n0)
section
variable{elt val c:Expr}{sc:Scope}{k kr:G->M Bool}{mv:G->M D}
theorem zy3{σ0:L2.St}{n0:Nat}{Dd:Addr}(hD:ρ0[n0]?=some Dd):HB X EX own σ0 ρ0 (λγ1 K=>do let y <- me γ1;let v <- mv γ1;let _ <- z9k n0 y v;K) (bPut (tE X.K EX me) (tE X.K EX mv) Dd):=λ{σ γ1 ρ h H P K Z} p0 _ rg rh fin hz=>by
 refine⟨ρ,γ1,h,⟨rg,rh⟩,(Fin.bind fin).mono λyd ρ5 h5 H5 p5 e5 r5 f5 y ry=>⟨ρ5,γ1,h5,⟨rg.mono p5 e5,r5⟩,(Fin.bind f5).mono λd ρ6 h6 H6 p6 e6 r6 f6 v rv=>?_⟩⟩;have hq:ρ6[n0]?=some Dd:=((p0.trans p5).trans p6) _ _ hD;have f7:=Fin.bind f6;unfold z9k z5P at f7;dsimp only at f7;cases ek:keyD yd with
 | none=>rw[ek]at f7;exact f7.elim
 | some kk=>
  rw[ek]at f7;dsimp only at f7;have hy:=zh8 ek ry;cases e7:h6[n0]? with
  | none=>rw[e7]at f7;exact f7.elim
  | some ob=>
   cases ob<;>first|(rw[e7]at f7;exact f7.elim)|skip
   rename_i kvs;rw[e7]at f7;dsimp only at f7;split at f7
   ·rename_i hl;obtain⟨a1,n1,vs,o1,d1⟩:=r6.at e7;rw[hq]at n1;cases n1;have ext2:Ext X.K H6 (upd H6 Dd (.dK (L2.putK vs kk v))):=Ext.upd (.inr (r6.tracked hq e7));have r7:RH X.K ρ6 (h6.set n0 (.dK (ptD kvs kk d))) (upd H6 Dd (.dK (L2.putK vs kk v))):=r6.setO e7 hq ⟨_,J4,(d1.put kk rv).mono .(b) ext2⟩;have hl2:=d1.len;exact⟨kk,vs,hy,o1,by omega,hz ρ6 _ _ (p5.trans p6) ((e5.trans e6).trans ext2) r7 (f7 ρ6 _ .(b) ext2 r7)⟩
   ·exact f7.elim
theorem zs2(he:∀s H fp xe,SE .(9) EX elt me)(hv:∀s H fp xe,SE .(9) EX val mv):CmA X EX (.DictComp elt val [⟨tg,iter,ifs,0⟩] sc pos) sc tg iter ifs N' cap own mi g k (.dK []) (λn0 γ1 K=>do let y <- me γ1;let v <- mv γ1;let _ <- z9k n0 y v;K) (λsrc n0 γ=>z2l src g k me mv n0 γ):=
 ⟨⟨_,_,_,_,bPut (tE X.K EX me) (tE X.K EX mv),zF2,λρ H Dd=>⟨[],J4,.nil⟩,λD s H fp xe=>zd3 (he s H fp xe).h (hv s H fp xe).h,λ_ hD=>zy3 hD⟩,λ_ _ _=>rfl,λ_ _ _ _ _=>rfl⟩
def z7T(i:Nat)(cap:List (Option Nat))(mi:G->M Src)(g:D->G->M G)(k:G->M Bool)(me mv:G->M D):G->M Out:=sAsg (ze3 cap mi g k me mv) (gN i)
theorem zA5(i:Nat){y:Str}{py spos:Pos}(hc:X.calm=true)(S:CS X sc N' cap)(hi:SI X EX tg iter mi)(hg:∀s H fp xe,SGk .(9) EX tg own g)(ht:∀s H fp xe,SCs .(9) EX ifs k)
 (he:∀s H fp xe,SE .(9) EX elt me) (hv:∀s H fp xe,SE .(9) EX val mv) (hN:X.N.Nodup) (hy:X.N[i]?=some y:=by rfl) (hl:X.env.scope.names.lookup y=some .local:=by rfl) (hown:∀j∈own,cap[j]?=some none:=by decide)
 (hsw:K21 (.DictComp elt val [⟨tg,iter,ifs,0⟩] sc pos) (some (.Name y py)) spos.line X.env=pure true:=by rfl) (hs:∀x,K14 iter X.env x=pure x:=by intro _;rfl) :
 S1 X EX (.Assign [.Name y py] (.DictComp elt val [⟨tg,iter,ifs,0⟩] sc pos) spos) (z7T i cap mi g k me mv):=
 s_cm i (zs2 he hv) hc S hi hg ht hown hN hy hl hsw hs
end
end FT
namespace L2
variable{pins:List (Addr×Obj)}{vs:List (Key×V)}{K:K1}{tg:Expr}
theorem zR1{k:Key}{u:Value}(h:z29 k u=true):RelV (kV k) u:=by
 rcases k6 h with ⟨i,t,rfl,rfl⟩|⟨x,t,rfl,rfl⟩
 ·exact⟨t,rfl⟩
 ·exact⟨t,rfl⟩
theorem KV.get:∀{kvs:List (Key×V)}{vs:List (Key×Value)},KV kvs vs->∀{i:Nat}{k:Key}{x:V},kvs[i]?=some (k,x)->∃u,vs[i]?=some (k,u)
 | _,_,.nil,i,k,x,e=>by simp at e
 | p::_,q::_,.cons a b,0,k,x,e=>by
  have e':p=(k,x):=by simpa using e
  subst e';obtain⟨a1,_⟩:=a;refine⟨q.2,?_⟩;show some q=_;rw[show k=q.1 from a1]
 | _::_,_::_,.cons a b,i+1,k,x,e=>KV.get b (by simpa using e)
def Itk(a:Addr)(ob:Obj)(n:Nat):It:=
 ⟨λi H=>∃vs k x,H a=some .(U)/\vs.length=n/\vs[i]?=some (k,x),λi H y H'=>H'=H/\∀vs,H a=some .(U)->∃k x,vs[i]?=some (k,x)/\y=kV k,λi H=>i=n/\∃vs,H a=some .(U)/\vs.length=n⟩
theorem zy1{X:Cx}{σ:St}{H:Hp}{s:Shared}{a:Addr}{ob:Obj}{es:Array Z1v}{ep:Nat}(I:Inv X pins σ H s)(e:H a=some .(U))(hob:ob.data=.dict es ep):
 vs.length<=sizeLine/\∃us,KV vs us/\s.heap.DictAt (J6 X.prog X.w) a us ep:=by
 obtain⟨go,z,hd,us,rel,o,es',ep',ho,r⟩:=(show ObjOk X.prog X.w H s.heap a .(U) from I.hok a _ e);rw[go]at ho;cases ho;obtain⟨r1,r2,r3⟩:=r;have:ep'=ep:=by rw[hob]at r2;cases r2;rfl
 subst this;exact⟨z,us,rel,ob,es',go,r1,r2,r3⟩
theorem z6W{P:K1a}{w:World}(a it:Addr)(ob:Obj)(n ep:Nat){es:Array Z1v}(hob:ob.data=.dict es ep):Turn P w K tg (Itk a ob n) [it] it (λi h=>h.IsKeyIter it a i n ep) where
 mem:=by simp
 obj:=λi h st b hb=>by
  have e:b=it:=by simpa using hb
  subst e;obtain⟨o,e,c,d⟩:=st;exact⟨o,e,λv z=>by rw[d]at z;cases z⟩
 keep:=λi h h' st k=>st.at λo e=>k it .(f) o e
 item:=by
  intro X hP hw hK hc i pins s σ H E I hf st hg;subst hP hw hK;obtain⟨vs,k,x,hq,hl,hx⟩:=hg;obtain⟨z,us,rel,dat⟩:=zy1 I hq hob;obtain⟨u,hu⟩:=rel.get hx;have le:=rel.length;have st':s.heap.IsKeyIter it a i us.length ep:=by rw[<- le,hl];exact st
  obtain⟨f0,f1,f2,f3,f4,f5⟩:=hf it .(f);refine wpAny_pyNext_dict_item st' dat hu λkey h' hkey hit' sb=>?_;have I1:Inv X pins σ H { s with heap:=h' }:=I.turned (t':=s.toks) (λb o hb e=>(sb.2 b hb).trans e) f0 f1 f3 f4 f5;have hit2:h'.IsKeyIter it a (i+1) n ep:=by rw[<- hl,le];exact hit'
  obtain⟨o,e,c,d⟩:=id hit2;exact⟨key,rfl,zu7 (s:={ s with heap:=h' }) e c d .(0) ⟨kV k,H,I1,zR1 hkey,⟨rfl,λys hy=>by rw[hq]at hy;cases hy;exact⟨k,x,hx,rfl⟩⟩,hit2,λb hb=>(hf b hb).1⟩⟩
 done:=by
  intro X hP hw hK hc i pins s σ H E I hf st hg;subst hP hw hK;obtain⟨hi,vs,hq,hl⟩:=hg;obtain⟨z,us,rel,dat⟩:=zy1 I hq hob;have le:=rel.length;have st':s.heap.IsKeyIter it a i us.length ep:=by rw[<- le,hl];exact st
  obtain⟨f0,f1,f2,f3,f4,f5⟩:=hf it .(f);exact wpAny_pyNext_dict_end (I.ok.hd hc) st' dat (K0h .(1)) λh' eb=>⟨rfl,I.turned (t':=s.toks) (λb o hb e=>eb b o hb e) f0 f1 f3 f4 f5⟩
 self:=λ_ _ _ _ _ st h=>wpAny_pyIter_keyiter st h
section
variable{X:Cx}
def Z05(tl:TE):TI:=λσ H R=>tl σ H λx H1=>∃a,x=.ref a/\((∃vs,H1 a=some (.dK vs)/\∀ob,R (Itk a ob vs.length) (upd H1 a .(U)))\/∃ob vs,H1 a=some .(U)/\R (Itk a ob vs.length) H1)
theorem zL9{l:Expr}{tl:TE}(hl:PE X l tl):PI X tg l (Z05 tl):=by
 intro pins s σ H R I h;refine thn (hl pins s σ H _ I h) λv s1 ⟨x,H1,I1,r1,q1⟩=>?_;obtain⟨a,e,q1⟩:=q1;subst e;cases r1;rcases q1 with ⟨vs,hH,q⟩|⟨ob,vs,hH,q⟩
 ·obtain⟨z,hd,us,rel,dd⟩:=z9C I1.hok hH;obtain⟨ob,es,ep,ho,r1,r2,r3⟩:=id dd;have dat:s1.heap.DictAt (J6 X.prog X.w) a us ep:=⟨ob,es,ho,r1,r2,r3⟩;refine wpAny_pyIter_dict hd dat ?_;have le:=rel.length;generalize hp:({ cls:=.type "dict_keyiterator",data:=.fields #[.ref a,.int 0 0,.int us.length 0,.int ep 0] }:Obj)=itO;have I2:Inv X pins σ H1 { s1 with heap:=s1.heap.push itO }:=I1.kept (t':=s1.toks) λb o e=>K8 _ e;have ho2:(s1.heap.push itO).get? a=some ob:=K8 _ ho;have I3:Inv X pins σ (upd H1 a .(U)) { s1 with heap:=s1.heap.push itO }:=z4I (s:={ s1 with heap:=s1.heap.push itO }) (h':=s1.heap.push itO) (t':=s1.toks) I2 (by rw[hH];exact K3b) (K7a _ _) ⟨_,ho2⟩ ⟨ho2,z,hd,us,rel,ob,es,ep,ho2,r1,r2,r3⟩;refine⟨.(k),[.(k)],_,_,_,rfl,I3,z6W a _ ob vs.length ep r2,?_,λb hb=>?_,q ob⟩
  ·refine⟨itO,?_,by rw[<- hp],by rw[<- hp,le];rfl⟩;exact K0b _ (by rw[<- hp];rfl)
  ·have e:b=s1.heap.objs.size:=by simpa using hb
   subst e;refine I1.fpOk (K05 _) ?_;rw[Y1 (K24 (K0a ho))];exact I1.hok.fresh (K05 _)
 ·obtain⟨go,z,hd,us,rel,dd⟩:=(show ObjOk X.prog X.w H1 s1.heap a .(U) from I1.hok a _ hH);obtain⟨ob',es,ep,ho,r1,r2,r3⟩:=id dd;rw[go]at ho;cases ho;have dat:s1.heap.DictAt (J6 X.prog X.w) a us ep:=⟨ob,es,go,r1,r2,r3⟩;refine wpAny_pyIter_dict hd dat ?_;have le:=rel.length;generalize hp:({ cls:=.type "dict_keyiterator",data:=.fields #[.ref a,.int 0 0,.int us.length 0,.int ep 0] }:Obj)=itO;have I2:Inv X pins σ H1 { s1 with heap:=s1.heap.push itO }:=I1.kept (t':=s1.toks) λb o e=>K8 _ e;refine⟨.(k),[.(k)],_,_,_,rfl,I2,z6W a _ ob vs.length ep r2,?_,λb hb=>?_,q⟩
  ·refine⟨itO,?_,by rw[<- hp],by rw[<- hp,le];rfl⟩;exact K0b _ (by rw[<- hp];rfl)
  ·have e:b=s1.heap.objs.size:=by simpa using hb
   subst e;exact I1.fpOk (K05 _) (I1.hok.fresh (K05 _))
end
end L2
namespace FT
variable{K:K1}{ρ:List Addr}{kvs:List (Key×D)}{vs:List (Key×V)}{h j:AH}{o o':O}{ifs1:List Expr}{cap:List (Option Nat)}
def kD:Key->D
 | .inl i=>.int i
 | .inr x=>.str x
theorem zz6{H:Hp}(k:Key):RD K ρ H (kD k) (kV k):=by cases k<;>simp[kD,kV,RD]
def z2d(kvs:List (Key×D)):List D:=kvs.map λkv=>kD kv.1
def iDic(ma:G->M D):G->M Src:=λγ=>do
 let x <- ma γ
 match x with
 | .ref n=>λh=>match h[n]? with
  | some (.dK kvs)=>.ok (.con (z2d kvs)) (h.set n (.dF kvs))
  | some (.dF kvs)=>.ok (.con (z2d kvs)) h
  | _=>.bad
 | _=>bad
theorem RK.get{K:K1}{ρ:List Addr}{H:Hp}:∀{kvs:List (Key×D)}{vs:List (Key×V)},RK K ρ H kvs vs->∀{i:Nat}{d:D},(z2d kvs)[i]?=some d->∃k x,d=kD k/\vs[i]?=some (k,x)
 | _,_,.nil,i,d,e=>by simp[z2d]at e
 | p::_,q::_,.cons a b,0,d,e=>by
  have e':kD p.1=d:=by simpa [z2d] using e
  subst e';exact⟨q.1,q.2,by rw[a.1],rfl⟩
 | _::_,_::_,.cons a b,i+1,d,e=>RK.get b (by simpa [z2d] using e)
theorem z8n{H:Hp}{a:Addr}{ob:Obj}(e:H a=some .(U))(rk:RK K ρ H kvs vs):JOK K (.con (z2d kvs)) ρ H (Itk a ob vs.length):=λi ρ2 h2 H2 p2 e2 r2 _=>by
 have hq:=e2.d _ _ _ e;refine⟨λd hd=>?_,λhi=>?_⟩
 ·obtain⟨k,x,rfl,g⟩:=RK.get rk hd;refine⟨⟨vs,k,x,hq,rfl,g⟩,λy H3 ⟨z1,z2⟩=>?_⟩;subst z1;obtain⟨k',x',g',rfl⟩:=z2 vs hq;rw[g]at g';cases g';exact⟨zz6 k,r2,Ext.refl _ _⟩
 ·refine⟨?_,vs,hq,rfl⟩;have:(z2d kvs).length=i:=hi;unfold z2d at this;rw[K03,RK.len rk]at this;exact this.symm
section
variable{X:Cx}{EX:XX}{a tg:Expr}{ma:G->M D}
theorem zf0(ha:SE X EX a ma):SI X EX tg a (iDic ma):=
 ⟨PI.imp (zL9 ha.h) λσ H R ⟨ρ,γ,h,rel,fin⟩=>⟨ρ,γ,h,rel,(Fin.bind fin).mono λx ρ1 h1 H1 p1 e1 r1 f1 v rv=>by
  cases x<;>first|exact(show False from f1).elim|skip
  rename_i n;simp only[RD]at rv;obtain⟨q,rfl,hq⟩:=rv;refine⟨q,rfl,?_⟩;dsimp only at f1;cases e:h1[n]? with
  | none=>rw[e]at f1;exact f1.elim
  | some ob=>
   cases ob with
   | lst xs=>rw[e]at f1;exact f1.elim
   | set xs=>rw[e]at f1;exact f1.elim
   | dct=>rw[e]at f1;exact f1.elim
   | exc c=>rw[e]at f1;exact f1.elim
   | ins _ _=>rw[e]at f1;exact f1.elim
   | dK kvs=>
    rw[e]at f1;dsimp only at f1;obtain⟨a1,n1,vs,o1,d1⟩:=r1.at e;rw[hq]at n1;cases n1;refine .inl ⟨vs,o1,λob=>?_⟩;have ext:Ext X.K H1 (upd H1 q .(U)):=Ext.upd (.inr ⟨_,o1,trivial⟩);have r2:RH X.K ρ1 (h1.set n (.dF kvs)) (upd H1 q .(U)):=r1.setO e hq ⟨ob,vs,J4,d1.mono .(b) ext⟩;exact f1 ρ1 _ .(b) ext r2 _ (z8n J4 (d1.mono .(b) ext))
   | dF kvs=>
    rw[e]at f1;dsimp only at f1;obtain⟨a1,n1,ob,vs,o1,d1⟩:=r1.at e;rw[hq]at n1;cases n1;exact .inr ⟨ob,vs,o1,f1 ρ1 _ .(b) .(d) r1 _ (z8n o1 d1)⟩⟩⟩
end
structure KS where
 seen:List Nat
 ord:List Nat
 wt:List (Nat×Bool)
theorem am0:(h++o::j)[h.length]?=some o:=by rw[K1i (K05 _),Nat.sub_self];rfl
theorem sm0:(h++o::j).set h.length o'=h++o'::j:=by rw[K3t _ _ (K05 _),Nat.sub_self];rfl
theorem am1:(h++o::o'::j)[h.length+1]?=some o':=by rw[K1i .(1),show h.length+1 - h.length=1 by omega];rfl
theorem sm1{o'':O}:(h++o::o'::j).set (h.length+1) o''=h++o::o''::j:=by rw[K3t _ _ .(1),show h.length+1 - h.length=1 by omega];rfl
def z3f(src:Src)(g:D->G->M G)(mi:G->M Src)(g1:D->G->M G)(k:G->M Bool)(me mv:G->M D)(n0:Nat)(γ:G):List D->M Unit
 | []=>do
  let _ <- src.chk
  pure ()
 | d::r=>do
  let _ <- src.chk;let γ1 <- g d γ;let s1 <- mi γ1;let _ <- z2l s1 g1 k me mv n0 γ1 s1.items
  z3f src g mi g1 k me mv n0 γ r
def z6j(cap:List (Option Nat))(mi:G->M Src)(g:D->G->M G)(mi1:G->M Src)(g1:D->G->M G)(k:G->M Bool)(me mv:G->M D):G->M D:=λγ=>do
 let src <- mi γ;let n0 <- (λh=>.ok .(m) (h++[.dK []]):M Nat);let _ <- z3f src g mi1 g1 k me mv n0 (capG cap γ) src.items
 pure (.ref n0)
section
variable{X:Cx}{EX:XX}{elt val tg iter tg1 iter1:Expr}{sc:Scope}{pos:Pos}{N':List Str}{own own1:List Nat}{mi mi1:G->M Src}{g g1:D->G->M G}{k:G->M Bool}{me mv:G->M D}
theorem z9L(hc:X.calm=true)(hi1:∀s H fp xe,SI .(9) EX tg1 iter1 mi1)(hg1:∀s H fp xe,SGk .(9) EX tg1 own1 g1)(ht:∀s H fp xe,SCs .(9) EX ifs1 k)
 (he:∀s H fp xe,SE .(9) EX elt me) (hv:∀s H fp xe,SE .(9) EX val mv) (hown1:∀j∈own1,cap[j]?=some none/\j∉own) (hs1:∀env x,K14 iter1 env x=pure x) :
 CmA X EX (.DictComp elt val [⟨tg,iter,[],0⟩,⟨tg1,iter1,ifs1,0⟩] sc pos) sc tg iter [] N' cap own mi g .(o) (.dK []) (λn0 γ1 K=>do let s1 <- mi1 γ1;let _ <- z2l s1 g1 k me mv n0 γ1 s1.items;K) (λsrc n0 γ=>z3f src g mi1 g1 k me mv n0 γ):=
 ⟨⟨_,_,_,_,λD=>bIn (tI X.K EX mi1) (tGk X.K EX own1 g1) (tT X.K EX k) (bPut (tE X.K EX me) (tE X.K EX mv) D),zq0,λρ H Dd=>⟨[],J4,.nil⟩,
  λD s H fp xe=>zy9 (.inr ⟨_,_,_,_,_,rfl⟩) rfl (λ_=>rfl) hc (hi1 s H fp xe).h (λxe'=>(hg1 s H fp xe').h) (λxe'=>(ht s H fp xe').h) (λxe'=>zd3 (he s H fp xe').h (hv s H fp xe').h) (hs1 _),
  λnon hD=>zX1 (F1:=λs1 γ1=>z2l s1 g1 k me mv _ γ1) (λ_ _=>rfl) (λ_ _ _ _=>rfl) (λj hj=>⟨(hown1 j hj).2,non j (hown1 j hj).1⟩) λp=>zy3 (p _ _ hD)⟩,λ_ _ _=>rfl,λ_ _ _ _ _=>rfl⟩
theorem zk8(hc:X.calm=true)(S:CS X sc N' cap)(hi:SI X EX tg iter mi)(hg:∀s H fp xe,SGk .(9) EX tg own g)(hi1:∀s H fp xe,SI .(9) EX tg1 iter1 mi1)(hg1:∀s H fp xe,SGk .(9) EX tg1 own1 g1)(ht:∀s H fp xe,SCs .(9) EX ifs1 k)
 (he:∀s H fp xe,SE .(9) EX elt me) (hv:∀s H fp xe,SE .(9) EX val mv) (hown:∀j∈own,cap[j]?=some none:=by decide) (hown1:∀j∈own1,cap[j]?=some none/\j∉own:=by decide) (hs:∀x,K14 iter X.env x=pure x:=by intro _;rfl) (hs1:∀env x,K14 iter1 env x=pure x:=by intro _ _;rfl) :
 SE X EX (.DictComp elt val [⟨tg,iter,[],0⟩,⟨tg1,iter1,ifs1,0⟩] sc pos) (z6j cap mi g mi1 g1 k me mv):=
 zX0 (z9L hc hi1 hg1 ht he hv hown1 hs1) hc S hi hg .(z) hown hs
end
end FT
namespace L2
theorem z2E:∀{vs:List (Key×V)}{us:List (Key×Value)},KV vs us->∀{l:List Value},l.length=us.length->(∀(j:Nat) v,l[j]?=some v->∃k x,us[j]?=some (k,x)/\z29 k v=true)->Vals (vs.map λkv=>kV kv.1) l
 | [],_,.nil,l,hl,h=>by
  cases l with
  | nil=>exact .nil
  | cons a l=>simp at hl
 | p::vs,q::us,.cons a b,l,hl,h=>by
  cases l with
  | nil=>simp at hl
  | cons v l=>
   obtain⟨k,x,e1,e2⟩:=h 0 v rfl;have e1':q=(k,x):=by simpa using e1
   subst e1';refine .cons ?_ (z2E b (by simpa using hl) λj v hv=>by simpa using h (j+1) v (by simpa using hv));have a1:p.1=k:=a.1;show RelV (kV p.1) v;rw[a1];exact zR1 e2
end L2
namespace FT
def z4Q(n:Nat):M (List (Key×D)):=λh=>match h[n]? with
 | some (.dK kvs)=>.ok kvs h
 | some (.dF kvs)=>.ok kvs h
 | _=>.bad
theorem z7n{K:K1}{EX:XX}{ρ:List Addr}{h:AH}{H:Hp}{n:Nat}{q:Addr}{Z:List (Key×D)->List Addr->AH->Hp->Prop}(r:RH K ρ h H)(hq:ρ[n]?=some q)(f:Fin K EX ρ H Z (z4Q n h)) :
 ∃kvs vs,(H q=some (.dK vs)\/∃ob,H q=some .(U))/\RK K ρ H kvs vs/\Z kvs ρ h H:=by
 unfold z4Q at f;cases e:h[n]? with
 | none=>rw[e]at f;exact f.elim
 | some ob=>
  cases ob with
  | lst xs=>rw[e]at f;exact f.elim
  | set xs=>rw[e]at f;exact f.elim
  | dct=>rw[e]at f;exact f.elim
  | exc c=>rw[e]at f;exact f.elim
  | ins _ _=>rw[e]at f;exact f.elim
  | dK kvs=>
   rw[e]at f;obtain⟨a1,n1,vs,o1,d1⟩:=r.at e;rw[hq]at n1;cases n1;exact⟨kvs,vs,.inl o1,d1,f ρ H .(b) .(d) r⟩
  | dF kvs=>
   rw[e]at f;obtain⟨a1,n1,ob,vs,o1,d1⟩:=r.at e;rw[hq]at n1;cases n1;exact⟨kvs,vs,.inr ⟨ob,o1⟩,d1,f ρ H .(b) .(d) r⟩
theorem z4P{K:K1}{ρ:List Addr}{H:Hp}:∀{kvs:List (Key×D)}{vs:List (Key×V)},RK K ρ H kvs vs->RDs K ρ H (z2d kvs) (vs.map λkv=>kV kv.1)
 | _,_,.nil=>RDs.nil
 | p::_,q::_,.cons a b=>by
  refine RDs.cons ?_ (z4P b);have a1:p.1=q.1:=a.1;show RD K ρ H (kD p.1) (kV q.1);rw[a1];exact zz6 q.1
abbrev sg(c:Nat):Str:=⟨#[c]⟩
section
variable{α:Type}{us:List α}
theorem ar1(hl:us.length=1):∃a,us=[a]:=match us,hl with|[a],_=>⟨a,rfl⟩
theorem ar2(hl:us.length=2):∃a b,us=[a,b]:=match us,hl with|[a,b],_=>⟨a,b,rfl⟩
theorem ar3(hl:us.length=3):∃a b c,us=[a,b,c]:=match us,hl with|[a,b,c],_=>⟨a,b,c,rfl⟩
theorem ar4(hl:us.length=4):∃a b c d,us=[a,b,c,d]:=match us,hl with|[a,b,c,d],_=>⟨a,b,c,d,rfl⟩
end
variable{X:Cx}{EX:XX}{v:D}{pos:Pos}{mk:List (List Str)}{mv me mb mo mi mT mx:G->M D}{mr:G->M (List D)}{a b i n c kk y x j k' L:Nat}{γ:G}{h h1 r H h0:AH}{l refs row:List Nat}{ds xs:List D}{s name:Str}{ms mt:G->M Out}{Q:Out->AH->Prop}{w:World}{A:Around}{E:Nat->Nat->Prop}{T:String}{P:K1a}{OK:Heap->Prop}{R:List Value->Shared->Prop}{p:Nat×List Nat}{e:Expr}{es elts:List Expr}{K:K1}{pins:List (Addr×Obj)}{its:List Value}{o:O}{st:List (List Nat)}{m:M D}{kvs:List (Key×D)}{cap:List (Option Nat)}{g:D->G->M G}{kb:G->M Bool}{src:Src}{num:Nat->Nat}{neg:Bool}{mg:Str->Option Value}{base:Heap}{ns:List Str}{cs:List (Nat×D)}{mf:List D->M D}
def putO(n:Nat)(k v:D):M D:=match keyD k with
 | some kk=>λh=>match h[n]? with
  | some (.dK [])=>.ok (.ref n) (h.set n (.dK [(kk,v)]))
  | _=>.bad
 | none=>bad
def z7e(mk mv:G->M D):G->M D:=λγ=>do
 let n <- (λh=>.ok .(m) (h++[.dK []]):M Nat);let k <- mk γ;let v <- mv γ
 putO n k v
section
variable{k v:Expr}{mk:G->M D}
theorem z8B(hk:SE X EX k mk)(hv:SE X EX v mv):SE X EX (.Dict [some k] [v] pos) (z7e mk mv):=
 ⟨PE.imp (zK2 (zq2 hk.h hv.h zD0) rfl rfl .(f) .(f)) λσ H Q ⟨ρ,γ,h,rel,fin⟩ p hp=>by
  have rP:RH X.K (ρ++[p]) (h++[.dK []]) (upd H p (.dK [])):=rel.h.pushO hp ⟨[],J4,.nil⟩;have eP:Ext X.K H (upd H p (.dK [])):=Ext.upd (.inl hp);have at0:(ρ++[p])[h.length]?=some p:=by rw[<- rel.h.len];simp
  have f1:=Fin.bind fin;have f2:=f1 (ρ++[p]) _ (Pre.app _ _) eP rP;refine⟨ρ++[p],γ,h++[.dK []],⟨rel.g.mono (Pre.app _ _) eP,rP⟩,(Fin.bind f2).mono λkd ρ1 h1 H1 p1 e1 r1 f3 kv rk=>⟨ρ1,γ,h1,⟨(rel.g.mono (Pre.app _ _) eP).mono p1 e1,r1⟩,(Fin.bind f3).mono λvd ρ2 h2 H2 p2 e2 r2 f4 vv rv=>?_⟩⟩;have hq:ρ2[.(m)]?=some p:=(p1.trans p2) _ _ at0;unfold putO at f4;cases ek:keyD kd with
  | none=>rw[ek]at f4;exact f4.elim
  | some kk=>
   rw[ek]at f4;dsimp only at f4;cases e7:h2[.(m)]? with
   | none=>rw[e7]at f4;exact f4.elim
   | some ob=>
    cases ob with
    | set ks=>rw[e7]at f4;exact f4.elim
    | dct=>rw[e7]at f4;exact f4.elim
    | lst xs=>rw[e7]at f4;exact f4.elim
    | exc c=>rw[e7]at f4;exact f4.elim
    | ins _ _=>rw[e7]at f4;exact f4.elim
    | dF c=>rw[e7]at f4;exact f4.elim
    | dK kvs=>
     cases kvs with
     | cons a b=>rw[e7]at f4;exact f4.elim
     | nil=>
      rw[e7]at f4;dsimp only at f4;obtain⟨a1,n1,vs,o1,d1⟩:=r2.at e7;rw[hq]at n1;cases n1;cases d1;have hy:=zh8 ek rk;refine⟨o1,[(kk,vv)],by rw[hy];rfl,by simp,?_⟩;have ext2:Ext X.K H2 (upd H2 p (.dK [(kk,vv)])):=Ext.upd (.inr (r2.tracked hq e7));have r7:RH X.K ρ2 (h2.set .(m) (.dK [(kk,vd)])) (upd H2 p (.dK [(kk,vv)])):=r2.setO e7 hq ⟨_,J4,.cons ⟨rfl,rv.mono .(b) ext2⟩ .nil⟩;exact f4 ρ2 _ .(b) ext2 r7 (.ref p) (by simp only[RD];exact⟨p,rfl,hq⟩)⟩
end
def Ths(P:Nat->D->Prop):Nat->List D->Prop
 | _,[]=>True
 | n,x::xs=>∃a b,P a x/\Ths P b xs/\a+b+2<=n
def Th(r:AH)(B:Nat):Nat->Nat->D->Prop
 | 0,_,_=>False
 | _+1,n,.non=>4<=n
 | _+1,n,.bl _=>5<=n
 | _+1,n,.int i=>i.natAbs<=B/\40<=n
 | _+1,n,.str x=>(reprText x).length<=n/\x.length<=1000
 | m+1,n,.tup xs=>∃a,Ths (Th r B m) a xs/\a+4<=n
 | _+1,_,.fl _=>False
 | m+1,n,.ref i=>∃j,i=j+3/\((∃xs a,r[j]?=.(l xs)/\Ths (Th r B m) a xs/\a+4<=n)\/(r[j]?=some (.dK [])\/r[j]?=some (.dK [(.inr "a",.int 1)])/\1<=m)/\40<=n)
theorem z7m(hc:X.calm=true):z2W X (.builtin "max") (λxs H Q=>∃a b:Int,xs=[.int a,.int b]/\Q (.int (if b > a then b else a)) H):=by
 intro pins s σ H xs us Q I rv h;obtain⟨a,b,rfl,q⟩:=h;obtain⟨u,w',rfl,ru,rw'⟩:=vals2 rv;obtain⟨t,rfl⟩:=ru;obtain⟨t',rfl⟩:=rw';refine max_two_ints (I.ok.hd hc) λh' tk hk=>?_;refine⟨.int (if b > a then b else a),H,I.kept (t':=tk) λc o e=>hk c o e,?_,q⟩;split
 ·exact⟨t',rfl⟩
 ·exact⟨t,rfl⟩
def zj9:List D->M D
 | [.int a,.int b]=>pure (.int (max a b))
 | _=>bad
theorem zI6:AR X.K EX (λxs H Q=>∃a b:Int,xs=[.int a,.int b]/\Q (.int (if b > a then b else a)) H) zj9:=by
 intro ρ h H ds vs Q r rd fin;unfold zj9 at fin;split at fin
 ·rename_i a b;obtain⟨v,u,rfl,rv,ru⟩:=rds2 rd;simp only[RD]at rv ru;subst rv;subst ru;refine⟨a,b,rfl,FE.here fin r ?_⟩;simp only[RD];congr 1;omega
 ·exact fin.elim
theorem zI3{a b:Expr}{p pos:_}(hc:X.calm=true)(hg:Gl X "max")(hm:X.mg "max" = none)(ha:SA X EX [a,b] mr)(he:K09 [a,b] X.env=(false,eval a X.env)::K09 [b] X.env:=by rfl)(hb:K09 [b] X.env=[(false,eval b X.env)]:=by rfl):SE X EX (.Call (.Name "max" p) [a,b] [] pos) (Z6 zj9 mr):=
 z1P (z1I (z7m hc) hg hm .(2) ha.h .(0) .(0) he (by rw[hb];rfl)) zI6
theorem ss_h(e:me γ h=.ok (.ref i) h1)(g:h1[i]?=.(l (stD l)))(hl:l.length<=2000)(hd:(setN l).length<64):Z6 z03 (z8 (Z6 z1e (z8 me aNil)) aNil) γ h=.ok (.ref (h1.length+1)) (h1++[.set (kN (dedN l)),.lst (stD (setN l))]):=by
 have dl:(dedN l).length=(setN l).length:=by unfold setN;rw[z0D]
 refine j5 (j5 e (zF6 (l:=l) (by unfold seqD getL;dsimp only;rw[g]) hl)) ?_;rw[z9T j9 .(1),K0e];simp[setN]
theorem zE4{mb:G->M Out}{x:Exn}(e:mb (z10 n ds) h=.err x h1):runF n mb ds h=.err x h1:=by
 unfold runF;rw[M.bind_eq,e]
theorem zr9{k:G->M Bool}{c:Str}(e:k γ h=.ok true h1):Z0 (sIf k (Z0 (z7c c (z8 (λ_=>pure (.str s)) aNil)) bNil) ms) mt γ h=.err ⟨c,[]⟩ h1:=by
 show (sIf _ _ _ _ >>= _) h=_;have:sIf k (Z0 (z7c c (z8 (λ_=>pure (.str s)) aNil)) bNil) ms γ h=.err ⟨c,[]⟩ h1:=by
  show (k γ >>= _) h=_;rw[M.bind_ok e];rfl
 rw[M.bind_eq,this]
theorem zY3{k:G->M Bool}{mr:G->M Out}(b:Bool)(e:k γ h=.ok b h1)(z:W (Z0 (if b=true then ms else mr) mt γ) h1 Q):W (Z0 (sIf k ms mr) mt γ) h Q:=
 Z0c (W_of e z)
section
variable{prog:K1a}{E:Value->Shared->Prop}{s:Shared}
open PySem.W in
theorem z8O{r d:Addr}{P:Nat->Value->Prop}{R:List Value->Shared->Prop}(K:KdlSrc prog w T r d n P OK)(hh:A.handled=none)(ok:OK s.heap)(hn:n<=sizeLine)
 (z:∀(g:Heap) (tk:Nat) (acc:Array Value),(∀b o,s.heap.get? b=some o->g.get? b=some o)->.(4)<=g.objs.size->K7i P acc n->R acc.toList { s with heap:=g,toks:=tk }) :
 wpAny (model prog w) A (Z1a (.ref r)) R E s:=by
 obtain⟨t1,t2⟩:=K.there _ ok;obtain⟨S,hS⟩:∃S,S=s.heap.objs.size:=⟨_,rfl⟩;unfold Z1a;refine K0 (K5w (K2g entry_proto_collect' ?_));rw[K1w K6m _];show wpAny _ A.in1 (Z19 [] >>= λl=>again (.builtin "list.__iadd__" ⟨[l,.ref r],[]⟩)) _ _ s;refine K0 (K1b (K9 ⟨K57 K2z _,K2g entry_list_iadd' ?_⟩));rw[K1w K2z _];obtain⟨o0,h0⟩:∃o0:Obj,o0={ cls:=.type "list",data:=.seq ([]:List Value).toArray }:=⟨_,rfl⟩;rw[<- h0];have at0:(s.heap.push o0).get? S=some { cls:=.type "list",data:=.seq #[] }:=by rw[hS,h0];exact K0b _ rfl
 rw[<- hS];show wpAny _ A.in1 (K3h (.ref S) (.ref r) (.ref S)) _ _ _;have old:∀{b:Addr} {o:Obj},s.heap.get? b=some o->b≠S:=λe=>by rw[hS];exact K0o (K0a e)
 have key:=kdl_extend (A:=A) (s:={ s with heap:=s.heap.push o0 })
  (R:=λ(q:Result) (s':Shared)=>∃(g:Heap) (tk:Nat) (acc:Array Value) (c:Nat),q=.ok (.ret (.ref S))/\s'={ s with heap:=g,toks:=tk }/\(∀b o,s.heap.get? b=some o->g.get? b=some o)/\g.get? S=some { cls:=.type "list",dict:=none,data:=.seq acc c,slots:=#[] }/\K7i P acc n)
  K hh (K.keep _ _ ok λb _ o e=>K8 _ e) S (by rw[hS];exact K24 t1) (by rw[hS];exact K24 t2) (.ref S) 0 at0
  (λg tk acc c kp at1 it=>⟨g,tk,acc,c,rfl,rfl,λb o e=>kp b o (old e) (K8 _ e),at1,it⟩) hn
 have fin:∀(q:Result) (s2:Shared) (h:∃(g:Heap) (tk:Nat) (acc:Array Value) (c:Nat),q=.ok (.ret (.ref S))/\s2={ s with heap:=g,toks:=tk }/\(∀b o,s.heap.get? b=some o->g.get? b=some o)/\g.get? S=some { cls:=.type "list",dict:=none,data:=.seq acc c,slots:=#[] }/\K7i P acc n),q=.ok (.ret (.ref S)):=λq s2 ⟨_,_,_,_,e,_⟩=>e;refine K2i key (λf s2 x=>?_) λe s2 x=>?_
 ·cases f with
  | done f=>
   obtain⟨g,tk,acc,c,e,rfl,kp,at1,it⟩:=x;cases e;show wpAny _ A (load S >>= _) _ _ _;refine K0 (K8i at1 (K9 (z g tk acc kp ?_ it)));rw[<- hS];exact K2f (K0a at1)
  | again c₁=>
   refine⟨x.1,K42 x.2 λq s3 y=>?_⟩;obtain⟨g,tk,acc,c,rfl,rfl,kp,at1,it⟩:=y;show wpAny _ A (load S >>= _) _ _ _;refine K0 (K8i at1 (K9 (z g tk acc kp ?_ it)));rw[<- hS];exact K2f (K0a at1)
 ·obtain⟨_,_,_,_,e',_⟩:=x;cases e'
end
theorem z6x(hc:X.calm=true):z2W X (.builtin "sorted") (λxs H Q=>∃a vs ns,xs=[.ref a]/\(H a=some (.dK vs)\/∃ob,H a=some .(U))/\vs.map (λkv=>kV kv.1)=ns.map V.int/\ns.length<64/\∀q,H q=none->Q (.ref q) (upd H q (.lst ((sortI ns).map V.int)))):=by
 intro pins s σ H xs us Q I r h;obtain⟨a,vs,ns,rfl,hq,hk,h64,q⟩:=h;obtain⟨u,rfl,ru⟩:=vals1 r;cases ru;have vl:vs.length=ns.length:=by have:=congrArg Z1y hk;simpa using this
 have go:∀{us:List (Key×Value)} {ep:Nat},KV vs us->(a==K3p)=false->s.heap.DictAt (J6 X.prog X.w) a us ep->wpAny .(8) X.A (call (.builtin "sorted") [.ref a]) (EP X pins σ Q) X.xe s:=λ{us ep} rel hd dat=>by
  have le:=rel.length;refine K74 kind_sorted plain_sorted entry_sorted (args_sorted1 _) ?_;unfold Builtin.«sorted»;refine K0 (m:=checkCount "sorted" 1 1 _) (K9 ?_);refine K0 (z8O (Z1n hd) (by simp[I.ok.hd hc]) dat (by rw[<- le,vl];exact K2f (K0j h64 .(0))) λh' tk acc kp sz it=>?_);have al:acc.toList.length=ns.length:=by rw[K18,<- vl,le];exact it.1
  have rv:Vals (ns.map V.int) acc.toList:=by
   rw[<- hk];exact z2E rel (by rw[K18];exact it.1) λj v hv=>it.2 j v (by simpa using hv)
  have ia:=intsAre_of rv;refine K0 (wpAny_newList ?_ (by rw[al];exact K2f (K0j h64 .(0))));have gL:(h'.push (seqObj "list" acc.toList.toArray 0)).get? h'.objs.size=some (seqObj "list" acc.toList.toArray 0):=K0b _ rfl;refine K0 (K1z (K20 slot_list_sort ⟨_,gL,rfl⟩ entry_list_sort (list_sort_tree gL ia (by rw[al];exact h64) λout ns' a1 a2 a3=>⟨_,rfl,?_⟩) (args_list_sort _)));refine K9 ⟨_,rfl,?_⟩;obtain⟨e,ge⟩:=sortedHeap_at (out:=out) gL;have es':ns'=sortI ns:=z8U a2 a3;subst es';have un:∀b ob,s.heap.get? b=some ob->(sortedHeap (h'.push (seqObj "list" acc.toList.toArray 0)) h'.objs.size acc.toList out).get? b=some ob:=λb ob eb=>by
   have lt:=K0a (kp b ob eb);rw[sortedHeap_old (K0o lt) (by rw[K1r];exact K2o lt)];exact K8 _ (kp b ob eb)
  have ho:=I.hok.laid (a:=h'.objs.size) (o:=.lst ((sortI ns).map V.int)) un sz ⟨by rw[K03,(sortI_perm ns).length_eq];exact K2f (K0j h64 .(0)),out.toList,e,z8c a1,ge⟩;exact⟨.ref h'.objs.size,_,I.call' (s':={ s with heap:=_,toks:=tk }) (ch:=[]) rfl (Un.laid un sz (I.hok.fresh sz)) ho I.bare (λb z=>absurd z .(f)),rfl,q _ (I.hok.fresh sz)⟩
 rcases hq with hq|⟨ob,hq⟩
 ·obtain⟨z,hd,us,rel,dd⟩:=z9C I.hok hq;obtain⟨ob,es,ep,ho,r1,r2,r3⟩:=id dd;exact go rel hd ⟨ob,es,ho,r1,r2,r3⟩
 ·obtain⟨go',z,hd,us,rel,dd⟩:=(show ObjOk X.prog X.w H s.heap a .(U) from I.hok a _ hq);obtain⟨ob',es,ep,ho,r1,r2,r3⟩:=id dd;exact go rel hd ⟨ob',es,ho,r1,r2,r3⟩
def z0A:List D->M D
 | [.ref n]=>do
  let kvs <- z4Q n
  match z3H (z2d kvs) with
  | some ns=>if ns.length<64 then newL ((sortI ns).map .int) else bad
  | none=>bad
 | _=>bad
theorem z99:AR X.K EX (λxs H Q=>∃a vs ns,xs=[.ref a]/\(H a=some (.dK vs)\/∃ob,H a=some .(U))/\vs.map (λkv=>kV kv.1)=ns.map V.int/\ns.length<64/\∀q,H q=none->Q (.ref q) (upd H q (.lst ((sortI ns).map V.int)))) z0A:=by
 intro ρ h H ds vs Q r rd fin;unfold z0A at fin;split at fin
 ·rename_i n;obtain⟨v,rfl,rv⟩:=rds1 rd;simp only[RD]at rv;obtain⟨q,rfl,hq⟩:=rv;have f2:=Fin.bind fin;obtain⟨kvs,vs,w1,rk,f3⟩:=z7n r hq f2;cases e:z3H (z2d kvs) with
  | none=>rw[e]at f3;exact f3.elim
  | some ns=>
   rw[e]at f3;dsimp only at f3;split at f3
   ·rename_i l64;have rr:=z4y e (z4P rk);refine⟨q,vs,ns,rfl,w1,rr,l64,λq' hq'=>?_⟩;unfold newL at f3;split at f3
    ·exact FE.lst f3 r (z5M _) hq'
    ·exact f3.elim
   ·exact f3.elim
 ·exact fin.elim
theorem z5z{a:Expr}{p:Pos}(hc:X.calm=true)(hg:Gl X "sorted")(hm:X.mg "sorted" = none)(ha:SA X EX [a] mr)(he:K09 [a] X.env=[(false,eval a X.env)]:=by rfl):SE X EX (.Call (.Name "sorted" p) [a] [] pos) (Z6 z0A mr):=
 z1P (z1I (z6x hc) hg hm .(2) ha.h .(0) .(0) he rfl) z99
def zN2(te:TE)(tr:TA):TA:=λσ H Q=>te σ H λx H1=>∃a vs,x=.ref a/\(H1 a=some (.dK vs)\/∃ob,H1 a=some .(U))/\tr σ H1 λys H2=>Q (vs.map (λkv=>kV kv.1)++ys) H2
theorem zl4{te:TE}{t:TA}{p:Pos}(hc:X.calm=true)(ha:PE X e te)(hr:PA X es t):PA X (.Starred e p::es) (zN2 te t):=by
 intro pos pins s σ H Q I h;rw[K9a];show wpAny _ _ (Z26 ((true,do let v <- eval e X.env;K4u pos;pure v)::backTo pos (K09 es X.env))) _ _ s;refine K9q (thn .(Z) λu s1 ⟨x,H1,I1,r1,q1⟩=>?_);obtain⟨a,vs,rfl,hq,q⟩:=q1;cases r1;obtain⟨us,ep,rel,z,hd,dat⟩:∃us ep,KV vs us/\vs.length<=sizeLine/\(a==K3p)=false/\s1.heap.DictAt (J6 X.prog X.w) a us ep:=by
  rcases hq with hq|⟨ob,hq⟩
  ·obtain⟨z,hd,us,rel,dd⟩:=z9C I1.hok hq;obtain⟨ob,es,ep,ho,r1,r2,r3⟩:=id dd;exact⟨us,ep,rel,z,hd,ob,es,ho,r1,r2,r3⟩
  ·obtain⟨go',z,hd,us,rel,dd⟩:=(show ObjOk X.prog X.w H1 s1.heap a .(U) from I1.hok a _ hq);obtain⟨ob',es,ep,ho,r1,r2,r3⟩:=id dd;exact⟨us,ep,rel,z,hd,ob',es,ho,r1,r2,r3⟩
 have le:=rel.length;refine z6p dat.dictOf.typeIs PySem.F.slot_dict_iter ⟨rfl,z8O (Z1n hd) (I1.ok.hd hc) dat (by rw[<- le];exact z) λh' tk acc kp sz it=>?_⟩;have I2:Inv X pins σ H1 { s1 with heap:=h',toks:=tk }:=I1.kept (t':=tk) kp;have rv:Vals (vs.map λkv=>kV kv.1) acc.toList:=z2E rel (by rw[K18];exact it.1) λj v hv=>it.2 j v (by simpa using hv);exact thn (hr pos pins _ σ H1 _ I2 q) λus s3 ⟨ys,H3,I3,r3,q3⟩=>⟨_,H3,I3,rv.append r3,q3⟩
def z5v(ma:G->M D)(mr:G->M (List D)):G->M (List D):=λγ=>do
 let x <- ma γ
 match x with
 | .ref n=>do
  let kvs <- z4Q n;let r <- mr γ
  pure (z2d kvs++r)
 | _=>bad
theorem zu8{p:Pos}{ma:G->M D}(hc:X.calm=true)(ha:SE X EX e ma)(hr:SA X EX es mr):SA X EX (.Starred e p::es) (z5v ma mr):=
 ⟨PA.imp (zl4 hc ha.h hr.h) λσ H Q ⟨ρ,γ,h,rel,fin⟩=>⟨ρ,γ,h,rel,(Fin.bind fin).mono λx ρ1 h1 H1 p1 e1 r1 f1 v rv=>by
  cases x<;>first|exact(show False from f1).elim|skip
  rename_i n;simp only[RD]at rv;obtain⟨q,rfl,hq⟩:=rv;obtain⟨kvs,vs,w1,rk,f2⟩:=z7n r1 hq (Fin.bind f1);exact⟨q,vs,rfl,w1,ρ1,γ,h1,⟨rel.g.mono p1 e1,r1⟩,(Fin.bind f2).mono λds ρ2 h4 H2 p2 e2 r2 f3 ws rws=>
   f3 ρ2 H2 .(b) .(d) r2 _ (((z4P rk).mono p2 e2).append rws)⟩⟩⟩
theorem z9D(t:Addr)(items:Array Value):
 Meets (Builtin.«enumerate.__new__» ⟨[.type "enumerate",.ref t],[]⟩) (λ_ R s=>s.heap.IsList t items /\
  R (.ok (.ret (.ref (s.heap.push { cls:=.type "list_iterator",data:=.fields #[.ref t,.int 0 0] }).objs.size)))
   { s with heap:=(s.heap.push { cls:=.type "list_iterator",data:=.fields #[.ref t,.int 0 0] }).push { cls:=.type "enumerate",data:=.fields #[.none,.bool false,.ref .(4),rawInt 0,.none,.none] } }):=
 .of_wp λprog w A R s h=>by
  obtain⟨hp,g,d,tk,os⟩:=s;obtain⟨q1,h⟩:=h;have hsub:=sub_enumerate;have L1:Heap.IsList (Shared.heap ⟨hp,g,d,tk,os⟩) t items:=q1
  wp_walk
  refine wpAny_stack_any λst=>K9 ?_;split
  ·rename_i c _ _ _ _ _;cases (c==K45 "enumerate")
   ·wp_walk using K39 L1
    exact⟨_,rfl,h⟩
   ·wp_walk using K39 L1
    exact⟨_,rfl,h⟩
  ·wp_walk using K39 L1
   exact⟨_,rfl,h⟩
def ItL(K:K1)(t:Addr):It:=
 ⟨λi H=>∃xs x,SqL K H t xs/\xs[i]?=some x,
  λi H v H'=>∃T x,H T=none/\v=.ref T/\(∀xs,SqL K H t xs->xs[i]?=some x)/\H'=upd H T (.tup [.int i,x]),
  λi H=>∃xs,SqL K H t xs/\.(21)=i⟩
theorem z9x{P:K1a}{w:World}{K:K1}{elts:List Expr}{kk:Nat}{pos:Pos}{e it t:Addr}(d1:e≠it)(d2:t≠it)(d3:e≠t):
 Turn P w K (.Tuple elts kk pos) (ItL K t) [e,it] e (λi h=>(∃old,IsEnum h e it i old)/\h.IsListIter it t i) where
 mem:=by simp
 obj:=λi h st b hb=>by
  obtain⟨⟨old,ee⟩,o,ei,_,di⟩:=st;simp at hb;rcases hb with rfl|rfl
  ·exact⟨_,ee,λv q=>by cases q⟩
  ·exact⟨_,ei,λv q=>by rw[di]at q;cases q⟩
 keep:=λi h h' st k=>by
  obtain⟨⟨old,ee⟩,g⟩:=st;exact⟨⟨old,k e .(f) _ ee⟩,g.at λo q=>k it .(f) o q⟩
 item:=by
  intro X hP hw hK hc i pins s σ H E I hf st hg;subst hP hw hK;obtain⟨xs,x,q1,hx⟩:=hg;obtain⟨its,rv,pl,hz⟩:=I.list q1;obtain⟨u,hu,ru⟩:=rv.get hx;obtain⟨⟨old,ee⟩,g⟩:=st;have hi:i<its.toArray.size:=by
   have:=(K5.mp hu).1;simpa using this
  have pT:s.heap.IsList t its.toArray:=pl.isList;refine K8c (Draws.list (by simp[I.ok.hd hc]) it t d2 its.toArray) ee ⟨g,pT⟩ hi d1 (by simp[d1,d3]) λy h' tk hy eo st' gT sz kp=>?_;have ey:y=u:=by
   have:its.toArray[i]?=some u:=by simpa using hu
   rw[hy]at this;exact K11 this
  subst ey;refine⟨_,rfl,K72 eo λh2 eo2 sb=>?_⟩;have elt:e<s.heap.objs.size:=K0a ee;have ilt:it<s.heap.objs.size:=by obtain⟨o,q,_⟩:=g;exact K0a q
  have hT:IsTup0 h2 .(4) [K61 i tk,y].toArray:=⟨_,(sb.2 _ (K24 elt)).trans gT,⟨rfl,rfl⟩,_,rfl⟩;have J:=zO1 (t:=tk+1) (ch:=[e,it]) (T:=.(4)) (vs:=[.int i,x]) (its:=[.int i tk,y]) (h2:=h2) I hf
   (λb o hb q=>by simp at hb;exact(sb.2 b hb.1).trans (kp b o hb.1 hb.2 q)) (K05 _) hT (.cons ⟨tk,rfl⟩ (.cons ru .nil)) (by show 2<=sizeLine;decide)
  refine⟨.ref .(4),_,J,rfl,⟨_,x,I.hok.fresh (K05 _),rfl,λxs' h'=>by rw[I.list_inj h' q1];exact hx,rfl⟩,?_,λb hb=>?_⟩
  ·exact⟨⟨_,by simpa using eo2⟩,st'.1.at λo q=>(sb.2 _ (K3a d1)).trans q⟩
  ·have:b<s.heap.objs.size:=by
    simp at hb;rcases hb with rfl|rfl
    ·exact elt
    ·exact ilt
   rw[Y1 (K0o this)];exact(hf b hb).1
 done:=by
  intro X hP hw hK hc i pins s σ H E I hf st hg;subst hP hw hK;obtain⟨xs,q1,hl⟩:=hg;obtain⟨its,rv,pl,hz⟩:=I.list q1;obtain⟨⟨old,ee⟩,g⟩:=st;have l1:=rv.length;have pT:s.heap.IsList t its.toArray:=pl.isList;have en:i=its.toArray.size:=by simp;omega
  refine K8q (Draws.list (by simp[I.ok.hd hc]) it t d2 its.toArray) ee ⟨by rw[<- en];exact g,pT⟩ λh' eb=>⟨rfl,?_⟩;have hf':∀b∈[it],FpOk X pins H b:=λb hb=>hf b (by simp at hb;simp[hb]);refine I.step (g':=s.gens) (t':=s.toks) (d':=s.drawn) (ch:=[it]) (λb hb=>⟨(hf' b hb).2.2.2.1,(hf' b hb).2.1,(hf' b hb).2.2.2.2.1,(hf' b hb).2.2.2.2.2⟩) (λb o _ _ hc e _=>?_) (λb o _ _ hc e _=>⟨o.slots,?_⟩)
   (λ_ _ _ _ n=>n) (λb o hc e=>⟨o,?_⟩) (λ_ _ e=>e) (λ_ _ _ e=>e) (λb ps e=>⟨#[],by rw[e];simp⟩) (λm hm=>?_) (λb u e=>?_) I.bare
  ·simp at hc;exact eb b o hc e
  ·simp at hc;exact eb b o hc e
  ·simp at hc;exact eb b o hc e
  ·obtain⟨o,es,ep,q,r⟩:=hm;exact⟨o,es,ep,eb _ o (λy=>(hf' it .(f)).2.1 y.symm) q,r⟩
  ·refine(I.hok b u e).stay (λc v hc q=>?_) (λ_ q=>q) λ_ _ q=>q;refine eb c v (λy=>?_) q;subst y;rcases hc with y|y
   ·rw[<- y,(hf' c .(f)).1]at e;cases e
   ·rw[(hf' c .(f)).1]at y;cases y
 self:=λ_ _ _ _ _ st h=>by
  obtain⟨⟨old,ee⟩,g⟩:=st;exact K5z ee h
section
variable{a:Expr}{p pt:Pos}{ma:G->M D}
def zH1(K:K1)(ta:TA):TI:=λσ H R=>ta σ H λvs H2=>∃t xs,vs=[.ref t]/\SqL K H2 t xs/\R (ItL K t) H2
theorem zq7{ta:TA}(hg:Gl X "enumerate")(hm:X.mg "enumerate" = none)(ha:PA X [a] ta)(hs:K09 [a] X.env=[(false,eval a X.env)]:=by rfl):PI X (.Tuple elts kk pt) (.Call (.Name "enumerate" p) [a] [] pos) (zH1 X.K ta):=by
 intro pins s σ H R I h;refine Call_ (z5B I hg hm boot_enumerate (K3g (thn (ha pos pins s σ H _ I h) λus s1 ⟨vs,H1,I1,r1,q1⟩=>?_) (by rw[hs];rfl) rfl));obtain⟨t,xs,e,q2,q⟩:=q1;subst e;obtain⟨u,rfl,ru⟩:=vals1 r1;cases ru;obtain⟨its,rv,pl,hz⟩:=I1.list q2;have pT:s1.heap.IsList t its.toArray:=pl.isList;have lt:t<s1.heap.objs.size:=by obtain⟨o,n,e,_⟩:=pl;exact K0a e
 refine Z1i K7u .(0) (K6e _) (K6n _) (λobj=>K4y obj _) K6o (z9D t its.toArray) ⟨pT,?_⟩;have y1:(s1.heap.push { cls:=.type "list_iterator",data:=.fields #[.ref t,.int 0 0] }).objs.size=.(k)+1:=K1r ..;have x2:((s1.heap.push { cls:=.type "list_iterator",data:=.fields #[.ref t,.int 0 0] }).push { cls:=.type "enumerate",data:=.fields #[.none,.bool false,.ref .(k),rawInt 0,.none,.none] }).get? (.(k)+1)=some { cls:=.type "enumerate",data:=.fields #[.none,.bool false,.ref .(k),rawInt 0,.none,.none] }:=by rw[<- y1];exact K0b _ rfl
 have x1:((s1.heap.push { cls:=.type "list_iterator",data:=.fields #[.ref t,.int 0 0] }).push { cls:=.type "enumerate",data:=.fields #[.none,.bool false,.ref .(k),rawInt 0,.none,.none] }).get? .(k)=some { cls:=.type "list_iterator",data:=.fields #[.ref t,.int 0 0] }:=K8 _ (K0b _ rfl);show _/\_;rw[y1];refine⟨⟨_,x2,rfl⟩,K5z (e:=.(k)+1) (it:=.(k)) (i:=0) (old:=.none) x2 ?_⟩;refine⟨.(k)+1,_,_,_,H1,rfl,I1.kept (t':=s1.toks) (λc o q=>K8 _ (K8 _ q)),z9x (it:=.(k)) (t:=t) (K24 (K50 _)) (K0o lt) (K24 (K2o lt)),⟨⟨_,x2⟩,⟨_,x1,rfl,rfl⟩⟩,λb hb=>?_,q⟩;have hb':.(k)<=b:=by
  simp at hb;rcases hb with rfl|rfl
  ·exact K68 _
  ·exact K05 _
 exact I1.fpOk hb' (I1.hok.fresh hb')
def z8v(ma:G->M D):G->M Src:=λγ=>do
 let l <- z8 ma aNil γ
 match l with
 | [.ref n]=>do
  let xs <- getL n
  pure (.obj n (.lst xs) (z1C xs))
 | _=>bad
theorem zu9(hc:X.calm=true)(hg:Gl X "enumerate")(hm:X.mg "enumerate" = none)(ha:SE X EX a ma)(hs:K09 [a] X.env=[(false,eval a X.env)]:=by rfl):SI X EX (.Tuple elts kk pt) (.Call (.Name "enumerate" p) [a] [] pos) (z8v ma):=
 ⟨PI.imp (zq7 hg hm (z6 ha Z1 hs).h hs) λσ H R ⟨ρ,γ,h,rel,fin⟩=>⟨ρ,γ,h,rel,(Fin.bind fin).mono λl ρ1 h1 H1 p1 e1 r1 f1 vs rv=>by
  split at f1
  ·rename_i n;simp only[RDs,RD]at rv;obtain⟨_,_,rfl,⟨t,rfl,q1⟩,rfl⟩:=rv;have f3:=Fin.bind f1;cases e3:getL n h1 with
   | bad=>rw[e3]at f3;exact f3.elim
   | err z hz=>exact(z11 e3).elim
   | ok xs h3=>
    obtain⟨rfl,g1⟩:=z14 e3;rw[e3]at f3;obtain⟨a1,n1,us,o1,d1⟩:=r1.at g1;rw[q1]at n1;cases n1;refine⟨t,us,rfl,SqL.of o1,f3 ρ1 H1 .(b) .(d) r1 ρ1 H1 .(b) .(d) r1 _ λi ρ2 h4 H2 p2 e2 r2 gd=>?_⟩;have gd:h4[n]?=.(l xs):=gd;obtain⟨a2,n2,us2,o2,d2⟩:=r2.at gd;rw[p2 n _ q1]at n2;cases n2;refine⟨λd hd=>?_,λhi=>?_⟩
    ·have hd':(z1C xs)[i]?=some d:=hd;obtain⟨x,g1,rfl⟩:=z66 hd';obtain⟨v1,a1,b1⟩:=d2.get g1;refine⟨⟨us2,v1,SqL.of o2,a1⟩,λv H3 ⟨T,x',n1,n2,n3,n5⟩=>?_⟩;have m1:=n3 us2 (SqL.of o2);rw[a1]at m1;cases m1;subst n2;subst n5;have ext:Ext X.K H2 (L2.upd H2 T (.tup [.int i,v1])):=Ext.upd (.inl n1);refine⟨?_,r2.other n1,ext⟩;simp only[RD];exact⟨T,_,rfl,SqT.of J4,RDs.cons .(C) (RDs.cons (b1.mono .(b) ext) RDs.nil)⟩
    ·have hi':(z1C xs).length=i:=hi;unfold z1C at hi';rw[K03,K1u]at hi';have l1:=d2.length;exact⟨us2,SqL.of o2,by omega⟩
  ·exact(show False from f1).elim⟩⟩
end
mutual
def z1a:D->Bool
 | .int _=>true
 | .str _=>true
 | .bl _=>true
 | .non=>true
 | .tup xs=>z0h xs
 | _=>false
def z0h:List D->Bool
 | []=>true
 | d::r=>z1a d&&z0h r
end
theorem z4V{d:D}:∀{ds:List D},z0h ds=true->d∈ds->z1a d=true
 | [],_,h=>by cases h
 | x::r,p,h=>by
  simp only[z0h,K0i]at p;rcases K0y.mp h with rfl|h
  ·exact p.1
  ·exact z4V p.2 h
section
variable{σ:L2.St}{H:Hp}{s:Shared}{ρ:List Addr}
mutual
theorem RD.one(I:Inv X pins σ H s):∀{z z':D}{v:V},z1a z=true->z1a z'=true->RD X.K ρ H z v->RD X.K ρ H z' v->z=z'
 | .non,z',v,_,p,h,h'=>by
  simp only[RD]at h;subst h;cases z'<;>simp_all [RD,z1a]
 | .bl b,z',v,_,p,h,h'=>by
  simp only[RD]at h;subst h;cases z'<;>simp_all [RD,z1a]
 | .int i,z',v,_,p,h,h'=>by
  simp only[RD]at h;subst h;cases z'<;>simp_all [RD,z1a]
 | .str x,z',v,_,p,h,h'=>by
  simp only[RD]at h;subst h;cases z'<;>simp_all [RD,z1a]
 | .tup ds,z',v,q,p,h,h'=>by
  simp only[RD]at h;obtain⟨a,xs,rfl,h2,h3⟩:=h;cases z' with
  | tup ds'=>
   simp only[RD]at h';obtain⟨a',xs',e,h5,h6⟩:=h';cases e;have e2:=I.tuple_inj h5 h2;subst e2;simp only[z1a]at q p;rw[RDs.one I q p h3 h6]
  | non=>simp[RD]at h'
  | bl b=>simp[RD]at h'
  | int b=>simp[RD]at h'
  | str b=>simp[RD]at h'
  | fl b=>simp[z1a]at p
  | ref b=>simp[z1a]at p
 | .fl ds,z',v,q,p,h,h'=>by simp[z1a]at q
 | .ref ds,z',v,q,p,h,h'=>by simp[z1a]at q
theorem RDs.one(I:Inv X pins σ H s):∀{ds ds':List D}{xs:List V},z0h ds=true->z0h ds'=true->RDs X.K ρ H ds xs->RDs X.K ρ H ds' xs->ds=ds'
 | [],ds',xs,_,_,h,h'=>by
  simp only[RDs]at h;subst h;cases ds' with
  | nil=>rfl
  | cons d r=>simp[RDs]at h'
 | d::r,ds',xs,q,p,h,h'=>by
  simp only[RDs]at h;obtain⟨x,xr,rfl,h2,h3⟩:=h;cases ds' with
  | nil=>simp[RDs]at h'
  | cons d' r'=>
   simp only[RDs]at h';obtain⟨x',xr',e,h5,h6⟩:=h';cases e;simp only[z0h,K0i]at q p;rw[RD.one I q.1 p.1 h2 h5,RDs.one I q.2 p.2 h3 h6]
end
theorem zs5{w w':V}{y:Value}(h:L2.RelV w y)(h':L2.RelV w' y):w=w':=by
 cases w<;>cases w'<;>simp only[L2.RelV]at h h'<;>first
  | (subst h;cases h';rfl)
  | (obtain⟨t,rfl⟩:=h;obtain⟨t',e⟩:=h';cases e;rfl)
  | (obtain⟨t,rfl⟩:=h;obtain⟨t',e⟩:=h';cases e;done)
  | (obtain⟨t,rfl⟩:=h;cases h';done)
  | (subst h;obtain⟨t',e⟩:=h';cases e;done)
  | (subst h;cases h';done)
open Classical in
theorem zp2{d:D}{x:V}{v:Value}{xs:List V}{b:Bool}(hu:X.A.units+30<cLine)(I:Inv X pins σ H s)(rh:RH X.K ρ h H)(pd:z0h ds=true)(rx:RD X.K ρ H d x)(wx:RelV x v)(rs:RDs X.K ρ H ds xs)(ws:Vals xs its)(e:inZ h d ds=some b):
 ∃f:Value->Bool,(∀y∈its,K6q X.A.in1 s y v (f y))/\∀(i:Nat) (y:Value) (z:D),its[i]?=some y->ds[i]?=some z->(f y=true↔eqN 24 h z d=some true):=by
 obtain⟨q1,q2⟩:=z4q e;have ex:∀y∈its,∃a z w,z∈ds/\RD X.K ρ H z w/\RelV w y/\eqN 24 h z d=some a:=λy hy=>by
  obtain⟨j,hj⟩:=K4w hy;have lj:=(K5.mp hj).1;have a1:xs[j]?=some (xs[j]'(by rw[ws.length];exact lj)):=K2 _;obtain⟨y',c1,a2⟩:=ws.get a1;rw[hj]at c1;cases c1;obtain⟨z,b1,b2⟩:=rs.getV a1;have zm:=K06 b1;obtain⟨a,c⟩:=q1 z zm;exact⟨a,z,_,zm,b2,a2,c⟩
 have key:∀y∈its,∀a,(∃z w,z∈ds/\RD X.K ρ H z w/\RelV w y/\eqN 24 h z d=some a)->K6q X.A.in1 s y v a:=λy hy a ⟨z,w,zm,r1,r2,c⟩=>
  (deq I rh 24 (A:=X.A.in1) (show X.A.units+1+24<cLine by omega) r1 rx r2 wx c).1
 refine⟨λy=>decide (∃z w,z∈ds/\RD X.K ρ H z w/\RelV w y/\eqN 24 h z d=some true),λy hy=>?_,λi y z hy hz=>?_⟩
 ·by_cases c:∃z w,z∈ds/\RD X.K ρ H z w/\RelV w y/\eqN 24 h z d=some true
  ·dsimp only;rw[.(s) c];exact key y hy true c
  ·dsimp only;rw[.(y) c];obtain⟨a,z,w,g⟩:=ex y hy;cases a with
   | false=>exact key y hy false ⟨z,w,g⟩
   | true=>exact absurd ⟨z,w,g⟩ c
 ·obtain⟨w,a1,a2⟩:=rs.get hz;obtain⟨y',b1,b2⟩:=ws.get a1;rw[hy]at b1;cases b1;have zm:=K06 hz;rw[.(15)];constructor
  ·rintro⟨z',w',zm',r1,r2,c⟩;rw[zs5 r2 b2]at r1;rw[RD.one I (z4V pd zm) (z4V pd zm') a2 r1];exact c
  ·exact λc=>⟨z,w,zm,a2,b2,c⟩
end
section
variable{o a:Expr}{apos cpos:Pos}{ma:G->M D}
def z3I(h:AH)(y:D)(xs:List D):Nat:=xs.findIdx λz=>decide (eqN 24 h z y=some true)
def zH7(K:K1):V->List V->Hp->VK->Prop:=λx vs H Q=>∃ρ h l d ds u xs,x=.ref l/\vs=[u]/\RH K ρ h H/\RD K ρ H d u/\SqL K H l xs/\RDs K ρ H ds xs/\z0h ds=true/\ds.length<=100000/\inZ h d ds=some true/\Q (.int (z3I h d ds:Nat)) H
theorem zd5(hu:X.A.units+40<cLine):MtR X "list.index" (zH7 X.K):=by
 intro pins s σ H x vs v us Q I rx rv h;obtain⟨ρ,h,l,d,ds,u,xs,rfl,rfl,rh,rd,hq,rs,pd,hl,e,q⟩:=h;cases rx;obtain⟨w,rfl,rw'⟩:=rv.one;obtain⟨its,ws,pl,hz⟩:=I.list hq;obtain⟨f,f1,f2⟩:=zp2 .(1) I rh pd rd rw' rs ws e;obtain⟨⟨cls,dd,data,sl⟩,ho,hc,n,hd⟩:=id pl.isList;simp only at hc hd;subst hc hd;have l1:ds.length=its.length:=by rw[rs.length,ws.length]
 have hj:z3I h d ds<ds.length:=by
  obtain⟨_,q2⟩:=z4q e;obtain⟨z,zm,c⟩:=q2.mp rfl;exact List.findIdx_lt_length_of_exists ⟨z,zm,.(s) c⟩
 have at_:∀{m:Nat} (hm:m<its.length) ,f its[m]=decide (eqN 24 h (ds[m]' .(1)) d=some true):=λ{m} hm=>by
  have:=f2 m its[m] (ds[m]' .(1)) (K2 hm) (K2 .(1));rw[K0p,this,.(15)]
 refine K4e K48 ⟨_,ho,rfl⟩ K7t (K73 _ _)
  (K7s l its.toArray n dd sl w f (z3I h d ds) (by simpa [<- l1] using hj) .(1) ?_ ?_) ⟨ho,λy hy=>?_,⟨.int _,H,I.tok _,⟨_,rfl⟩,q⟩⟩
 ·show f its[z3I h d ds]=true;rw[at_ .(1)];exact List.findIdx_getElem (p:=λz=>decide (eqN 24 h z d=some true)) (w:=hj)
 ·intro m hm hlt;show f its[m]=false;rw[at_ (by simpa using hm)];have:=List.not_of_lt_findIdx (p:=λz=>decide (eqN 24 h z d=some true)) (xs:=ds) (i:=m) hlt;simpa using this
 ·exact f1 y (by simpa using hy)
def ixX(xs:List D)(y:D):M D:=λh=>if z0h xs=true/\xs.length<=100000/\inZ h y xs=some true then .ok (.int (z3I h y xs:Nat)) h else .bad
def z4F(n:Nat)(y:D):M D:=do
 let xs <- getL n
 ixX xs y
theorem zf8(hu:X.A.units+40<cLine)(ho:SE X EX o mo)(ha:SE X EX a ma)
 (hbase:K4r o "index" X.env (eval o X.env)=eval o X.env:=by rfl)
 (hfew:((backTo cpos (K09 [a] X.env)).all (λx=>!x.1)&&(K86 cpos (K5j [] X.env)).all (λx=>x.1.isSome)
 &&decide .(u))=true:=by rfl)
 (hline:(apos.endLine==cpos.line)=true:=by rfl) (hs:K09 [a] X.env=[(false,eval a X.env)]:=by rfl) :
 SE X EX (.Call (.Attribute o "index" apos) [a] [] cpos) (eM1 z4F mo ma):=
 ⟨PE.imp (zq9 K49 K48 K88 (zd5 hu) ho.h (z0P ha.h z2m hs) hbase hfew hline hs rfl) (zs4 λρ h H n q y u Q r hq ru fin=>by
  have f2:Fin X.K EX ρ H _ _:=Fin.bind (show Fin X.K EX ρ H (λd ρ' _ H'=>∀v,RD X.K ρ' H' d v->Q v H') ((getL n >>= λxs=>ixX xs y) h) from fin);cases e3:getL n h with
  | bad=>rw[e3]at f2;exact f2.elim
  | err z hz=>exact(z11 e3).elim
  | ok xs h3=>
   obtain⟨rfl,q1⟩:=z14 e3;rw[e3]at f2;obtain⟨a1,n1,vs,o1,d1⟩:=r.at q1;rw[hq]at n1;cases n1;have f3:FE X.K EX ρ H Q (ixX xs y _):=f2 ρ H .(b) .(d) r;unfold ixX at f3;split at f3
   ·rename_i c;exact⟨ρ,_,_,y,xs,u,vs,rfl,rfl,r,ru,SqL.of o1,d1,c.1,c.2.1,c.2.2,FE.here f3 r .(C)⟩
   ·exact f3.elim)⟩
theorem hu40{k:Nat}(hr:Room k A):A.units+40<cLine:=K29 (K6g (by decide:40<=64) _) hr.units
end
abbrev Bl:=List (Nat×List Nat)
def blk(bl:Bl)(k:Nat):List Nat:=((bl.find? λp=>decide (p.1=k)).map (·.2)).getD []
def keyOf(bl:Bl)(x:Nat):Nat:=((bl.find? λp=>decide (x∈p.2)).map (·.1)).getD 0
structure PB(n:Nat)(bl:Bl):Prop where
 hd:∀p∈bl,p.2.head?=some p.1
 rise:∀p∈bl,p.2.Pairwise (·<·)
 cov:∀x,x<n↔∃p∈bl,x∈p.2
 dis:∀p∈bl,∀q∈bl,∀x,x∈p.2->x∈q.2->p=q
 nd:(bl.map (·.1)).Nodup
theorem z3i{k:Nat}(h:l.head?=some k):k∈l:=by
 cases l with
 | nil=>cases h
 | cons a l=>simp at h;simp[h]
theorem z7Z{k:Nat}(h:l.head?=some k)(r:l.Pairwise (·<·)):∀x∈l,k<=x:=λx hx=>by
 cases l with
 | nil=>cases h
 | cons a l=>
  simp at h;subst h;rcases K0y.mp hx with q|q
  ·omega
  ·exact K2f (List.rel_of_pairwise_cons r q)
theorem z9U{k:Nat}(hk:k∈l)(r:l.Pairwise (·<·))(le:∀x∈l,k<=x):l.head?=some k:=by
 cases l with
 | nil=>cases hk
 | cons a l=>
  have a1:=le a .(f);have a2:=z7Z (l:=a::l) rfl r k hk;simp;omega
section
variable{bl:Bl}
theorem PB.bmem(b:PB n bl)(h:p∈bl):p.1∈p.2:=z3i (b.hd p h)
theorem PB.uniq(b:PB n bl){q:Nat×List Nat}(hp:p∈bl)(hq:q∈bl)(e:p.1=q.1):p=q:=b.dis p hp q hq p.1 (b.bmem hp) (by rw[e];exact b.bmem hq)
theorem PB.blk(b:PB n bl){p:Nat×List Nat}(h:p∈bl):FT.blk bl p.1=p.2:=by
 unfold FT.blk;cases e:bl.find? λq=>decide (q.1=p.1) with
 | none=>
  rw[K4c]at e;exact absurd .(f) (e p h)
 | some q=>
  have m:=K76 e;have q1:=Z24 e;rw[b.uniq m h (by simpa using q1)];rfl
theorem PB.of_key(b:PB n bl){k:Nat}(h:k∈bl.map (·.1)):(k,FT.blk bl k)∈bl:=by
 obtain⟨p,hp,rfl⟩:=K08.mp h;rw[b.blk hp];exact hp
theorem PB.key(b:PB n bl)(h:p∈bl)(hx:x∈p.2):keyOf bl x=p.1:=by
 unfold keyOf;cases e:bl.find? λq=>decide (x∈q.2) with
 | none=>
  rw[K4c]at e;exact absurd (by simpa using hx) (e p h)
 | some q=>
  have m:=K76 e;have q1:=Z24 e;rw[b.dis q m p h x (by simpa using q1) hx];rfl
theorem PB.at_(b:PB n bl)(hx:x<n):(keyOf bl x,FT.blk bl (keyOf bl x))∈bl/\x∈FT.blk bl (keyOf bl x):=by
 obtain⟨p,hp,hx⟩:=(b.cov x).mp hx;rw[b.key hp hx,b.blk hp];exact⟨hp,hx⟩
theorem PB.lt(b:PB n bl)(h:p∈bl)(hx:x∈p.2):x<n:=(b.cov x).mpr ⟨p,h,hx⟩
theorem PB.klt(b:PB n bl){k:Nat}(h:k∈bl.map (·.1)):k<n:=by
 obtain⟨p,hp,rfl⟩:=K08.mp h;exact b.lt hp (b.bmem hp)
theorem PB.len(b:PB n bl):bl.length<=n:=by
 have:=b.nd.length_le_of_subset (l₂:=K7 n) λk hk=>K0q.mpr (b.klt hk);simpa using this
theorem PB.in_blk(b:PB n bl){k:Nat}(hk:k∈bl.map (·.1)):x∈FT.blk bl k↔x<n/\keyOf bl x=k:=by
 have m:=b.of_key hk;constructor
 ·intro hx;exact⟨b.lt m hx,b.key m hx⟩
 ·rintro⟨hx,rfl⟩;exact(b.at_ hx).2
theorem PB.keyin(b:PB n bl)(hx:x<n):keyOf bl x∈bl.map (·.1):=K08.mpr ⟨_,(b.at_ hx).1,rfl⟩
theorem PB.keyle(b:PB n bl)(hx:x<n):keyOf bl x<=x:=by
 obtain⟨m,hm⟩:=b.at_ hx;exact z7Z (b.hd _ m) (b.rise _ m) x hm
theorem PB.keyself(b:PB n bl){k:Nat}(hk:k∈bl.map (·.1)):keyOf bl k=k:=by
 have m:=b.of_key hk;exact b.key m (b.bmem m)
theorem z2L(hn:0<n):PB n [(0,K7 n)]:=by
 refine⟨λp hp=>?_,λp hp=>?_,λx=>by simp,λp hp q hq x _ _=>?_,by simp⟩
 ·simp at hp;subst hp;cases n with
  | zero=>omega
  | succ n=>simp[K8n]
 ·simp at hp;subst hp;exact K4f
 ·simp at hp hq;rw[hp,hq]
def putB(bl:Bl)(k:Nat)(b:List Nat):Bl:=if (bl.any λp=>decide (p.1=k)) then bl.map (λp=>if p.1=k then (k,b) else p) else bl++[(k,b)]
def yesL(bl:Bl)(k:Nat)(f:Nat->Bool):List Nat:=(FT.blk bl k).filter f
def noL(bl:Bl)(k:Nat)(f:Nat->Bool):List Nat:=(FT.blk bl k).filter λx=>!f x
def cutB(bl:Bl)(k:Nat)(f:Nat->Bool):Bl:=putB (putB bl ((yesL bl k f).headD 0) (yesL bl k f)) ((noL bl k f).headD 0) (noL bl k f)
theorem z8q{bl:Bl}{k:Nat}{b:List Nat}:p∈putB bl k b↔(p∈bl/\p.1≠k)\/p=(k,b):=by
 unfold putB;split
 ·rename_i h;rw[K1n]at h;obtain⟨q,hq,e⟩:=h;have e:=of_decide_eq_true e;rw[K08];constructor
  ·rintro⟨r,hr,rfl⟩;split
   ·exact .inr rfl
   ·rename_i c;exact .inl ⟨hr,c⟩
  ·rintro(⟨hp,c⟩|rfl)
   ·exact⟨p,hp,by rw[if_neg c]⟩
   ·exact⟨q,hq,by rw[if_pos e]⟩
 ·rename_i h;rw[K1n]at h;rw[K1c,K31];constructor
  ·rintro(hp|rfl)
   ·refine .inl ⟨hp,λe=>h ⟨p,hp,.(s) e⟩⟩
   ·exact .inr rfl
  ·rintro(⟨hp,_⟩|rfl)
   ·exact .inl hp
   ·exact .inr rfl
theorem z4O{bl:Bl}{k:Nat}{b:List Nat}:(putB bl k b).map (·.1)=if k∈bl.map (·.1) then bl.map (·.1) else bl.map (·.1)++[k]:=by
 have e:(bl.any λp=>decide (p.1=k))=decide (k∈bl.map (·.1)):=by
  rw[K0p,K1n,.(15),K08];exact⟨λ⟨p,hp,q⟩=>⟨p,hp,of_decide_eq_true q⟩,λ⟨p,hp,q⟩=>⟨p,hp,.(s) q⟩⟩
 unfold putB;rw[e];by_cases c:k∈bl.map (·.1)
 ·rw[if_pos (.(s) c),if_pos c,K0g];refine K2u λp _=>?_;show (if p.1=k then (k,b) else p).1=p.1;split
  ·rename_i q;exact q.symm
  ·rfl
 ·rw[if_neg (by simpa using c),if_neg c,K2w];rfl
structure Cut(bl:Bl)(k:Nat)(f:Nat->Bool):Prop where
 hk:k∈bl.map (·.1)
 hy:yesL bl k f≠[]
 hn:noL bl k f≠[]
theorem z1E(h:l≠[]):l.head?=some (l.headD 0):=by
 cases l with
 | nil=>exact absurd rfl h
 | cons a l=>rfl
theorem za7(b:PB n bl){k:Nat}{f:Nat->Bool}(c:Cut bl k f):
 ∃a z A Z,((a=(yesL bl k f).headD 0/\A=yesL bl k f/\z=(noL bl k f).headD 0/\Z=noL bl k f)\/(z=(yesL bl k f).headD 0/\Z=yesL bl k f/\a=(noL bl k f).headD 0/\A=noL bl k f))/\a=k/\z∉bl.map (·.1)/\A.head?=some a/\Z.head?=some z:=by
 have m:=b.of_key c.hk;have rs:=b.rise _ m;have km:=b.bmem m;have le:=z7Z (b.hd _ m) rs;have rY:(yesL bl k f).Pairwise (·<·):=K3y _ rs;have rN:(noL bl k f).Pairwise (·<·):=K3y _ rs;have hY:=z1E c.hy;have hN:=z1E c.hn;have other:∀{z:Nat},z∈FT.blk bl k->z≠k->z∉bl.map (·.1):=λ{z} hz ne hk=>by
  have:=b.keyself hk;rw[b.key m hz]at this;exact ne this.symm
 by_cases q:f k=true
 ·have hk:(yesL bl k f).head?=some k:=z9U (K0m.mpr ⟨km,q⟩) rY λx hx=>le x (K0m.mp hx).1;rw[hY]at hk;have hk:=K11 hk;have zm:=K0m.mp (z3i hN);refine⟨_,_,_,_,.inl ⟨rfl,rfl,rfl,rfl⟩,hk,other zm.1 λe=>?_,hY,hN⟩;have:=zm.2;rw[e,q]at this;cases this
 ·have hk:(noL bl k f).head?=some k:=z9U (K0m.mpr ⟨km,by simpa using q⟩) rN λx hx=>le x (K0m.mp hx).1;rw[hN]at hk;have hk:=K11 hk;have zm:=K0m.mp (z3i hY);refine⟨_,_,_,_,.inr ⟨rfl,rfl,rfl,rfl⟩,hk,other zm.1 λe=>?_,hN,hY⟩;have:=zm.2;rw[e]at this;exact q this
theorem z0a(b:PB n bl){k:Nat}{f:Nat->Bool}(c:Cut bl k f):p∈cutB bl k f↔(p∈bl/\p.1≠k)\/p=((yesL bl k f).headD 0,yesL bl k f)\/p=((noL bl k f).headD 0,noL bl k f):=by
 obtain⟨a,z,A,Z,h,hk,hz,_,_⟩:=za7 b c;have za:z≠a:=λe=>hz (by rw[e,hk];exact c.hk);have zb:∀p∈bl,p.1≠z:=λp hp e=>hz (by rw[<- e];exact K08.mpr ⟨p,hp,rfl⟩);unfold cutB;rw[z8q,z8q];rcases h with ⟨e1,e2,e3,e4⟩|⟨e1,e2,e3,e4⟩
 ·rw[<- e1,<- e2,<- e3,<- e4,hk];constructor
  ·rintro(⟨⟨h1,h2⟩|rfl,h3⟩|rfl)
   ·exact .inl ⟨h1,h2⟩
   ·exact .inr (.inl rfl)
   ·exact .inr (.inr rfl)
  ·rintro(⟨h1,h2⟩|rfl|rfl)
   ·exact .inl ⟨.inl ⟨h1,h2⟩,zb _ h1⟩
   ·exact .inl ⟨.inr rfl,λe=>za (by rw[hk];exact e.symm)⟩
   ·exact .inr rfl
 ·rw[<- e1,<- e2,<- e3,<- e4,hk];constructor
  ·rintro(⟨⟨h1,h2⟩|rfl,h3⟩|rfl)
   ·exact .inl ⟨h1,h3⟩
   ·exact .inr (.inl rfl)
   ·exact .inr (.inr rfl)
  ·rintro(⟨h1,h2⟩|rfl|rfl)
   ·exact .inl ⟨.inl ⟨h1,zb _ h1⟩,h2⟩
   ·exact .inl ⟨.inr rfl,λe=>za (by rw[hk];exact e)⟩
   ·exact .inr rfl
theorem z49(b:PB n bl){k:Nat}{f:Nat->Bool}(c:Cut bl k f):PB n (cutB bl k f):=by
 have m:=b.of_key c.hk;have rs:=b.rise _ m;have hY:=z1E c.hy;have hN:=z1E c.hn;have inY:∀{x:Nat},x∈yesL bl k f->x∈FT.blk bl k/\f x=true:=λhx=>K0m.mp hx;have inN:∀{x:Nat},x∈noL bl k f->x∈FT.blk bl k/\f x=false:=λhx=>by
  have:=K0m.mp hx;simpa using this
 refine⟨λp hp=>?_,λp hp=>?_,λx=>?_,λp hp q hq x hx hy=>?_,?_⟩
 ·rcases(z0a b c).mp hp with ⟨h1,_⟩|rfl|rfl
  ·exact b.hd p h1
  ·exact hY
  ·exact hN
 ·rcases(z0a b c).mp hp with ⟨h1,_⟩|rfl|rfl
  ·exact b.rise p h1
  ·exact K3y _ rs
  ·exact K3y _ rs
 ·rw[b.cov];constructor
  ·rintro⟨p,hp,hx⟩;by_cases e:p.1=k
   ·have e2:=b.blk hp;rw[e]at e2;rw[<- e2]at hx;by_cases q:f x=true
    ·exact⟨_,(z0a b c).mpr (.inr (.inl rfl)),K0m.mpr ⟨hx,q⟩⟩
    ·exact⟨_,(z0a b c).mpr (.inr (.inr rfl)),K0m.mpr ⟨hx,by simpa using q⟩⟩
   ·exact⟨p,(z0a b c).mpr (.inl ⟨hp,e⟩),hx⟩
  ·rintro⟨p,hp,hx⟩;rcases(z0a b c).mp hp with ⟨h1,_⟩|rfl|rfl
   ·exact⟨p,h1,hx⟩
   ·exact⟨_,m,(inY hx).1⟩
   ·exact⟨_,m,(inN hx).1⟩
 ·have old:∀{p:Nat×List Nat},p∈bl->p.1≠k->∀x,x∈p.2->x∉FT.blk bl k:=λ{p} hp ne x h1 h2=>ne (by rw[b.dis p hp _ m x h1 h2]);rcases(z0a b c).mp hp with ⟨h1,n1⟩|rfl|rfl<;>rcases(z0a b c).mp hq with ⟨h2,n2⟩|rfl|rfl
  ·exact b.dis p h1 q h2 x hx hy
  ·exact absurd (inY hy).1 (old h1 n1 x hx)
  ·exact absurd (inN hy).1 (old h1 n1 x hx)
  ·exact absurd (inY hx).1 (old h2 n2 x hy)
  ·rfl
  ·have a1:=(inY hx).2;rw[(inN hy).2]at a1;cases a1
  ·exact absurd (inN hx).1 (old h2 n2 x hy)
  ·have a1:=(inY hy).2;rw[(inN hx).2]at a1;cases a1
  ·rfl
 ·unfold cutB;have one:∀{bl:Bl} {k:Nat} {b:List Nat},(bl.map (·.1)).Nodup->((putB bl k b).map (·.1)).Nodup:=λ{bl k b} nd=>by
   rw[z4O];split
   ·exact nd
   ·rename_i h;rw[K7g];exact⟨nd,by simp,λx hx y hy e=>h (by simp at hy;rw[<- hy,<- e];exact hx)⟩
  exact one (one b.nd)
theorem z6n(b:PB n bl){k:Nat}{f:Nat->Bool}(c:Cut bl k f):(cutB bl k f).length=bl.length+1:=by
 obtain⟨a,z,A,Z,h,hk,hz,_,_⟩:=za7 b c;have ka:a∈bl.map (·.1):=by rw[hk];exact c.hk
 have e:((cutB bl k f).map (·.1)).length=(bl.map (·.1)).length+1:=by
  unfold cutB;rw[z4O,z4O];rcases h with ⟨e1,_,e3,_⟩|⟨e1,_,e3,_⟩
  ·rw[<- e1,<- e3,if_pos ka,if_neg hz];simp
  ·rw[<- e1,<- e3,if_neg hz,if_pos (K2j _ ka)];simp
 simpa using e
theorem z8s(b:PB n bl){k:Nat}{f:Nat->Bool}(c:Cut bl k f)(hx:x<n)(hy:y<n):keyOf (cutB bl k f) x=keyOf (cutB bl k f) y↔keyOf bl x=keyOf bl y/\(keyOf bl x=k->f x=f y):=by
 have b':=z49 b c;have m:=b.of_key c.hk;have own:∀{x:Nat},x<n->keyOf bl x=k->(f x=true/\keyOf (cutB bl k f) x=(yesL bl k f).headD 0)\/(f x=false/\keyOf (cutB bl k f) x=(noL bl k f).headD 0):=λ{x} hx e=>by
  have hm:=(b.in_blk c.hk).mpr ⟨hx,e⟩;cases q:f x with
  | true=>exact .inl ⟨rfl,b'.key ((z0a b c).mpr (.inr (.inl rfl))) (K0m.mpr ⟨hm,q⟩)⟩
  | false=>exact .inr ⟨rfl,b'.key ((z0a b c).mpr (.inr (.inr rfl))) (K0m.mpr ⟨hm,by simp[q]⟩)⟩
 have ne:(yesL bl k f).headD 0≠(noL bl k f).headD 0:=λe=>by
  have h1:f ((yesL bl k f).headD 0)=true:=(K0m.mp (z3i (z1E c.hy))).2;have h2:(!f ((noL bl k f).headD 0))=true:=(K0m.mp (z3i (z1E c.hn))).2;rw[<- e,h1]at h2;cases h2
 have out:∀{x:Nat},x<n->keyOf bl x≠k->keyOf (cutB bl k f) x=keyOf bl x:=λ{x} hx e=>by
  obtain⟨h1,h2⟩:=b.at_ hx;exact b'.key ((z0a b c).mpr (.inl ⟨h1,e⟩)) h2
 have blkY:(yesL bl k f).headD 0∈FT.blk bl k:=(K0m.mp (z3i (z1E c.hy))).1;have blkN:(noL bl k f).headD 0∈FT.blk bl k:=(K0m.mp (z3i (z1E c.hn))).1;have alien:∀{x z:Nat},x<n->keyOf bl x≠k->z∈FT.blk bl k->keyOf bl x≠z:=λ{x z} hx e hz q=>by
  have h1:=b.keyself (b.keyin hx);rw[q]at h1;have h2:=b.key m hz;exact e (by rw[q];exact h1.symm.trans h2)
 by_cases ex:keyOf bl x=k
 ·by_cases ey:keyOf bl y=k
  ·rcases own hx ex with ⟨fx,kx⟩|⟨fx,kx⟩<;>rcases own hy ey with ⟨fy,ky⟩|⟨fy,ky⟩<;>rw[kx,ky,ex,ey,fx,fy]
   ·simp
   ·simp only[true_and,reduceCtorEq,imp_false,not_true_eq_false,iff_false];exact ne
   ·simp only[true_and,reduceCtorEq,imp_false,not_true_eq_false,iff_false];exact λe=>ne e.symm
   ·simp
  ·rw[out hy ey,ex];refine⟨λe=>?_,λ⟨e,_⟩=>absurd e.symm ey⟩;rcases own hx ex with ⟨_,kx⟩|⟨_,kx⟩
   ·exact absurd (kx.symm.trans e).symm (alien hy ey blkY)
   ·exact absurd (kx.symm.trans e).symm (alien hy ey blkN)
 ·by_cases ey:keyOf bl y=k
  ·rw[out hx ex,ey];refine⟨λe=>?_,λ⟨e,_⟩=>absurd e ex⟩;rcases own hy ey with ⟨_,ky⟩|⟨_,ky⟩
   ·exact absurd (e.trans ky) (alien hx ex blkY)
   ·exact absurd (e.trans ky) (alien hx ex blkN)
  ·rw[out hx ex,out hy ey];exact⟨λe=>⟨e,λq=>absurd q ex⟩,λe=>e.1⟩
end
theorem z3S(ma:MA st mk):SQ st:=⟨ma.l1,ma.l2,ma.s2⟩
theorem zJ2(a:Str):¬ a.cps.toList<a.cps.toList:=List.lt_irrefl _
theorem z59{l:List Str}(a:l.Pairwise λa b=>a.cps.toList<b.cps.toList):l.Nodup:=K9z (λ{x y} h (e:x=y)=>zJ2 y (by rw[e]at h;exact h)) a
theorem z7z{l m:List Str}(a:l.Pairwise λa b=>a.cps.toList<b.cps.toList)(b:m.Pairwise λa b=>a.cps.toList<b.cps.toList)(h:∀x,x∈l↔x∈m):l=m:=
 ((K71 (z59 a) (z59 b)).mpr h).eq_of_pairwise (λ_ _ _ _ h1 h2=>absurd h2 (List.lt_asymm h1)) a b
def bel(st:List .(19))(mk:List (List Str))(bl:Bl)(by_:D)(x:Nat):Bool:=match by_ with
 | .str s=>bear s mk x
 | .int k=>(nx st x).any λo=>decide (o∈FT.blk bl k.toNat)
 | _=>false
structure Stb(st:List .(19))(mk:List (List Str))(E:Nat->Nat->Prop):Prop where
 lt:∀x y,E x y->x<.(c)/\y<.(c)
 sym:∀x y,E x y->E y x
 marks:∀x y,E x y->mkAt mk x=mkAt mk y
 steps:∀x y,E x y->∀o∈nx st x,∃t∈nx st y,E o t
def ByOk(bl:Bl)(d:D):Prop:=(∃s:Str,d=.str s)\/∃k:Nat,d=.int (k:Nat)/\k∈bl.map (·.1)
theorem zH3{bl:Bl}(b:PB st.length bl)(s:Stb st mk E)(co:∀x y,E x y->keyOf bl x=keyOf bl y){d:D}(ok:ByOk bl d)(e:E x y):bel st mk bl d x=bel st mk bl d y:=by
 rcases ok with ⟨s',rfl⟩|⟨k,rfl,hk⟩
 ·show bear s' mk x=bear s' mk y;unfold bear;have:=s.marks x y e;unfold mkAt at this;rw[this]
 ·show (nx st x).any _=(nx st y).any _;have go:∀x y,E x y->((nx st x).any λo=>decide (o∈FT.blk bl ((k:Nat):Int).toNat))=true->((nx st y).any λo=>decide (o∈FT.blk bl ((k:Nat):Int).toNat))=true:=λx y e h=>by
   rw[K1n]at h ⊢;obtain⟨o,ho,q⟩:=h;have q:=of_decide_eq_true q;obtain⟨t,ht,et⟩:=s.steps x y e o ho;refine⟨t,ht,.(s) ?_⟩;rw[K0k]at q ⊢;rw[b.in_blk hk]at q ⊢;exact⟨(s.lt _ _ et).2,by rw[<- co o t et];exact q.2⟩
  rw[K0p];exact⟨go x y e,go y x (s.sym x y e)⟩
theorem zQ0{bl:Bl}(b:PB st.length bl)(s:Stb st mk E)(co:∀x y,E x y->keyOf bl x=keyOf bl y){d:D}(ok:ByOk bl d){k:Nat}(c:Cut bl k (bel st mk bl d)):∀x y,E x y->keyOf (cutB bl k (bel st mk bl d)) x=keyOf (cutB bl k (bel st mk bl d)) y:=λx y e=>by
 obtain⟨hx,hy⟩:=s.lt x y e;exact(z8s b c hx hy).mpr ⟨co x y e,λ_=>zH3 b s co ok e⟩
def Done(st:List .(19))(mk:List (List Str))(bl:Bl):Prop:=∀p∈bl,∀d,((∃x∈p.2,∃s∈mkAt mk x,d=.str s)\/∃k:Nat,d=.int (k:Nat)/\k∈bl.map (·.1))->¬ Cut bl p.1 (bel st mk bl d)
theorem z7b{bl:Bl}(b:PB st.length bl)(dn:Done st mk bl)(hx:x<st.length)(hy:y<st.length)(e:keyOf bl x=keyOf bl y){d:D}(ok:(∃z∈FT.blk bl (keyOf bl x),∃s∈mkAt mk z,d=.str s)\/∃k:Nat,d=.int (k:Nat)/\k∈bl.map (·.1)):bel st mk bl d x=bel st mk bl d y:=by
 obtain⟨m,hm⟩:=b.at_ hx;obtain⟨m2,hm2⟩:=b.at_ hy;rw[<- e]at hm2;cases q:bel st mk bl d x with
 | true=>
  cases q2:bel st mk bl d y with
  | true=>rfl
  | false=>exact absurd ⟨b.keyin hx,K5e (K0m.mpr ⟨hm,q⟩),K5e (a:=y) (K0m.mpr ⟨hm2,by rw[q2];rfl⟩)⟩ (dn _ m d ok)
 | false=>
  cases q2:bel st mk bl d y with
  | false=>rfl
  | true=>exact absurd ⟨b.keyin hx,K5e (a:=y) (K0m.mpr ⟨hm2,q2⟩),K5e (K0m.mpr ⟨hm,by rw[q];rfl⟩)⟩ (dn _ m d ok)
theorem z8e{bl:Bl}(ma:MA st mk)(b:PB st.length bl)(dn:Done st mk bl):Stb st mk λx y=>x<st.length/\y<st.length/\keyOf bl x=keyOf bl y:=by
 refine⟨λx y h=>⟨h.1,h.2.1⟩,λx y h=>⟨h.2.1,h.1,h.2.2.symm⟩,λx y ⟨hx,hy,e⟩=>?_,λx y ⟨hx,hy,e⟩ o ho=>?_⟩
 ·have l3:=ma.l3;have gx:mkAt mk x∈mk:=K06 (z3s (show x<mk.length by omega));have gy:mkAt mk y∈mk:=K06 (z3s (show y<mk.length by omega));have good:∀{l:List Str},l∈mk->∀s∈l,s≠"":=λhl s hs e=>by
   have:=(ma.m1 _ hl).good s hs;rw[e]at this;exact absurd this.1 .(0)
  have go:∀{x y:Nat},x<.(c)->y<.(c)->keyOf bl x=keyOf bl y->mkAt mk x∈mk->∀s∈mkAt mk x,s∈mkAt mk y:=λ{x y} hx hy e gx s hs=>by
   have h:=z7b b dn hx hy e (d:=.str s) (.inl ⟨x,(b.at_ hx).2,s,hs,rfl⟩);have h:bear s mk x=bear s mk y:=h;unfold bear at h;rw[.(y) (good gx s hs),K4o,K4o]at h;have hs':s∈(mk[x]?).getD []:=hs;rw[.(s) hs']at h;exact of_decide_eq_true h.symm
  exact z7z (ma.m1 _ gx).rise (ma.m1 _ gy).rise λs=>⟨go hx hy e gx s,go hy hx e.symm gy s⟩
 ·have ol:o<st.length:=z3o (z3S ma) ho;have kin:=b.keyin ol;have h:=z7b b dn hx hy e (d:=.int (keyOf bl o:Nat)) (.inr ⟨_,rfl,kin⟩);have h1:bel st mk bl (.int (keyOf bl o:Nat)) x=true:=by
   show (nx st x).any _=true;rw[K1n];exact⟨o,ho,.(s) (by rw[K0k];exact(b.at_ ol).2)⟩
  rw[h1]at h;have h:(nx st y).any (λt=>decide (t∈FT.blk bl ((keyOf bl o:Nat):Int).toNat))=true:=h.symm;rw[K1n]at h;obtain⟨t,ht,q⟩:=h;have q:=of_decide_eq_true q;rw[K0k,b.in_blk kin]at q;exact⟨t,ht,ol,q.1,q.2.symm⟩
def kvB(bl:Bl):List (Key×D):=bl.map λp=>(.inl (p.1:Int),.tup (stD p.2))
theorem zH4(bl:Bl):z2d (kvB bl)=stD (bl.map (·.1)):=by unfold z2d kvB stD;rw[K0g,K0g];rfl
theorem inl_inj:((.inl (a:Int):Key)=.inl (b:Int))↔a=b:=by
 constructor
 ·intro h;injection h with h;omega
 ·rintro rfl;rfl
theorem lkB{bl:Bl}{k:Nat}(h:k∈bl.map (·.1)):lkD (kvB bl) (.inl (k:Int))=.(g ((stD (blk bl k)))):=by
 unfold lkD kvB blk;rw[List.find?_map];have:((λkv:Key×D=>decide (kv.1=.inl (k:Int))) ∘ λp:Nat×List Nat=>((.inl (p.1:Int):Key),D.tup (stD p.2)))=λp=>decide (p.1=k):=by
  funext p;show decide ((.inl (p.1:Int):Key)=.inl (k:Int))=_;rw[decide_eq_decide];exact inl_inj
 rw[this];cases e:bl.find? λp=>decide (p.1=k) with
 | none=>
  rw[K4c]at e;obtain⟨p,hp,q⟩:=K08.mp h;exact absurd (by simpa using q) (e p hp)
 | some q=>rfl
theorem ptB(bl:Bl)(k:Nat)(b:List Nat):ptD (kvB bl) (.inl (k:Int)) (.tup (stD b))=kvB (putB bl k b):=by
 unfold ptD putB kvB;have e:((bl.map λp=>((.inl (p.1:Int):Key),D.tup (stD p.2))).any λkv=>decide (kv.1=.inl (k:Int)))=bl.any λp=>decide (p.1=k):=by
  rw[K8f];congr 1;funext p;show decide ((.inl (p.1:Int):Key)=.inl (k:Int))=_;rw[decide_eq_decide];exact inl_inj
 rw[e];by_cases c:(bl.any λp=>decide (p.1=k))=true
 ·rw[if_pos c,if_pos c,K0g,K0g];refine K2u λp _=>?_;show (if (.inl (p.1:Int):Key)=.inl (k:Int) then _ else _)=_;by_cases q:p.1=k
  ·rw[if_pos (inl_inj.mpr q)];show _=((.inl ((if p.1=k then (k,b) else p).1:Int):Key),D.tup (stD (if p.1=k then (k,b) else p).2));rw[if_pos q];show ((.inl (p.1:Int):Key),D.tup (stD b))=_;rw[q]
  ·rw[if_neg (λz=>q (inl_inj.mp z))];show _=((.inl ((if p.1=k then (k,b) else p).1:Int):Key),D.tup (stD (if p.1=k then (k,b) else p).2));rw[if_neg q]
 ·rw[if_neg c,if_neg c,K2w];rfl
theorem refB(bl:Bl):J8 n ((kvB bl).map (·.2))=true:=by
 unfold kvB;rw[K0g];exact z04 λp=>z4H _
def Dic(h:AH)(b:Nat)(bl:Bl):Prop:=h[b]?=some (.dK (kvB bl))\/h[b]?=some (.dF (kvB bl))
theorem Dic.app{bl:Bl}(d:Dic h b bl)(j:AH):Dic (h++j) b bl:=d.imp (λe=>w4 e) λe=>w4 e
theorem Dic.lt{bl:Bl}(d:Dic h b bl):b<h.length:=by rcases d with d|d<;>exact(K5.mp d).1
theorem Dic.get{bl:Bl}(d:Dic h b bl){k:Nat}(hk:k∈bl.map (·.1)):z2G (.ref b) (.int (k:Nat)) h=.ok (.tup (stD (blk bl k))) h:=by
 have g:getK b h=.ok (kvB bl) h:=by rcases d with d|d<;>(unfold getK;rw[d])
 unfold z2G;show (getK b >>= _) h=_;rw[M.bind_ok g];show (match lkD (kvB bl) (.inl (k:Int)) with|some d=>pure d|none=>bad) h=_;rw[lkB hk];rfl
theorem Dic.dk{bl:Bl}(d:Dic h b bl):z4Q b h=.ok (kvB bl) h:=by rcases d with d|d<;>(unfold z4Q;rw[d])
theorem Dic.walk{bl:Bl}(d:Dic h b bl){ma:G->M D}(e:ma γ h0=.ok (.ref b) h):iDic ma γ h0=.ok (.con (stD (bl.map (·.1)))) (h.set b (.dF (kvB bl))):=by
 unfold iDic;rw[M.bind_ok e];dsimp only;rcases d with d|d
 ·rw[d];dsimp only;rw[zH4]
 ·rw[d];dsimp only;rw[zH4];congr 1;refine K1v λi=>?_;by_cases q:b=i
  ·subst q;rw[K0r (K5.mp d).1,d]
  ·rw[K0f q]
theorem Dic.set{h:AH}{b:Nat}{bl:Bl}(d:Dic h b bl):Dic (h.set b (.dF (kvB bl))) b bl:=.inr (K0r d.lt)
theorem z2g{j:AH}(e:m h=.ok (.ref i) (h0++j))(l0:h0.length=h.length)(kp:Kept h h0)(hi:h.length<=i)(ei:(h0++j)[i]?=some o)(c:refO h.length o=true):cln m h=.ok .(R) (h0++[o]):=by
 have kp':Kept h (h0++j):=λi o li e=>kp i o li (by rw[K0n .(1)]at e;exact e);unfold cln;rw[e];dsimp only;rw[if_pos ⟨by rw[K02];omega,kp'⟩,if_neg (by simp only[Y8,decide_eq_true_eq];omega),ei];dsimp only;rw[if_pos c,<- l0,K8u rfl]
theorem zg2{d:D}{j:AH}(e:m h=.ok d (h0++j))(l0:h0.length=h.length)(kp:Kept h h0)(c:Y8 0 d=true):cln m h=.ok d h0:=by
 have kp':Kept h (h0++j):=λi o li e=>kp i o li (by rw[K0n .(1)]at e;exact e);unfold cln;rw[e];dsimp only;rw[if_pos ⟨by rw[K02];omega,kp'⟩,if_pos (z2N (K3k _) c),<- l0,K8u rfl]
theorem z5K(c:refO h.length o=true):Kept h (h.set b o):=λi u li e=>by
 by_cases q:b=i
 ·subst q;rw[K0r li]at e;cases e;exact .inr c
 ·rw[K0f q]at e;exact .inl e
theorem z2V(h:AH):Kept h h:=λ_ _ _ e=>.inl e
theorem zh2{k:Key}(h:k∉kvs.map (·.1)):ptD kvs k v=kvs++[(k,v)]:=by
 unfold ptD;rw[if_neg];rw[K1n];rintro⟨p,hp,q⟩;exact h (K08.mpr ⟨p,hp,of_decide_eq_true q⟩)
section
variable{mi mi1:G->M Src}{g1:D->G->M G}
theorem zh1{y:D}{k:Key}(e:h[n]?=some (.dK kvs))(hk:keyD y=some k)(hl:kvs.length<1000000)(nk:k∉kvs.map (·.1)):z9k n y v h=.ok () (h.set n (.dK (kvs++[(k,v)]))):=by
 unfold z9k z5P;dsimp only;rw[hk];dsimp only;rw[e];dsimp only;rw[if_pos (K0j hl .(0)),zh2 nk]
theorem z6m{γ':G}(f:D->Key×D)(src:Src)(h1:AH)(hg:∀j,src.good (h1++j)):∀(rest:List D) (kvs:List (Key×D)),(kvs.map (·.1)++rest.map λd=>(f d).1).Nodup->kvs.length+rest.length<=1000 ->
 (∀d∈rest,∃γ1 y,(∀h,g d γ' h=.ok γ1 h)/\(∀h,kb γ1 h=.ok true h)/\keyD y=some (f d).1/\(∀j,me γ1 (h1++j)=.ok y (h1++j))/\∀j,mv γ1 (h1++j)=.ok (f d).2 (h1++j)) ->
 z2l src g kb me mv h1.length γ' rest (h1++[.dK kvs])=.ok () (h1++[.dK (kvs++rest.map f)])
 | [],kvs,nd,hl,hd=>by
  unfold z2l;have c1:src.chk (h1++[.dK kvs])=.ok () (h1++[.dK kvs]):=by unfold Src.chk;rw[if_pos (hg _)]
  rw[M.bind_ok c1];simp
 | d::rest,kvs,nd,hl,hd=>by
  obtain⟨γ1,y,e1,e2,e3,e4,e5⟩:=hd d .(f);have nk:(f d).1∉kvs.map (·.1):=λq=>(K7g.mp nd).2.2 _ q _ .(f) rfl;have c1:src.chk (h1++[.dK kvs])=.ok () (h1++[.dK kvs]):=by unfold Src.chk;rw[if_pos (hg _)]
  have c5:=zh1 (n:=h1.length) (v:=(f d).2) (j9 (h:=h1) (o:=.dK kvs)) e3 (by rw[K0d]at hl;omega) nk;rw[z33]at c5;have ih:=z6m (γ':=γ') f src h1 hg rest (kvs++[f d]) (by rw[K2w,K0e];exact nd) (by rw[K02];simp at hl ⊢;omega) λx hx=>hd x (by simp[hx]);unfold z2l;rw[M.bind_ok c1,M.bind_ok (e1 _),M.bind_ok (e2 _),if_pos rfl,M.bind_ok (e4 _),M.bind_ok (e5 _),M.bind_ok c5,ih];simp
theorem zK5(f:D->Key×D)(hi:mi γ h=.ok src h1)(hg:∀j,src.good (h1++j))(nd:(src.items.map λd=>(f d).1).Nodup)(hl:src.items.length<=1000)
 (hd:∀d∈src.items,∃γ1 y,(∀h,g d (capG cap γ) h=.ok γ1 h)/\(∀h,kb γ1 h=.ok true h)/\keyD y=some (f d).1/\(∀j,me γ1 (h1++j)=.ok y (h1++j))/\∀j,mv γ1 (h1++j)=.ok (f d).2 (h1++j)) :
 ze3 cap mi g kb me mv γ h=.ok (.ref h1.length) (h1++[.dK (src.items.map f)]):=by
 have r:=z6m (γ':=capG cap γ) (kb:=kb) (me:=me) (mv:=mv) (g:=g) f src h1 hg src.items [] (by simpa using nd) (by simpa using hl) hd;unfold ze3;rw[M.bind_ok hi];show (z2l src g kb me mv h1.length (capG cap γ) src.items >>= λ_=>(pure (D.ref h1.length):M D)) (h1++[O.dK []])=_;rw[M.bind_ok r];simp
theorem z6Q{γ':G}(ys:D->List D)(f:D->D->Key×D)(src:Src)(h1:AH)(hg:∀j,src.good (h1++j)):∀(rest:List D) (kvs:List (Key×D)),(kvs.map (·.1)++rest.flatMap λd=>(ys d).map λy=>(f d y).1).Nodup->kvs.length+(rest.flatMap ys).length<=1000 ->
 (∀d∈rest,∃γ1,(∀h,g d γ' h=.ok γ1 h)/\(∀j,mi1 γ1 (h1++j)=.ok (.con (ys d)) (h1++j))/\∀y∈ys d,∃γ2 z,(∀h,g1 y γ1 h=.ok γ2 h)/\(∀h,kb γ2 h=.ok true h)/\keyD z=some (f d y).1/\(∀j,me γ2 (h1++j)=.ok z (h1++j))/\∀j,mv γ2 (h1++j)=.ok (f d y).2 (h1++j)) ->
 z3f src g mi1 g1 kb me mv h1.length γ' rest (h1++[.dK kvs])=.ok () (h1++[.dK (kvs++rest.flatMap λd=>(ys d).map (f d))])
 | [],kvs,nd,hl,hd=>by
  unfold z3f;have c1:src.chk (h1++[.dK kvs])=.ok () (h1++[.dK kvs]):=by unfold Src.chk;rw[if_pos (hg _)]
  rw[M.bind_ok c1];simp
 | d::rest,kvs,nd,hl,hd=>by
  obtain⟨γ1,e1,e2,e3⟩:=hd d .(f);have c1:src.chk (h1++[.dK kvs])=.ok () (h1++[.dK kvs]):=by unfold Src.chk;rw[if_pos (hg _)]
  rw[K2n,<- K0e]at nd;rw[K2n,K02]at hl;have inn:=z6m (γ':=γ1) (g:=g1) (kb:=kb) (me:=me) (mv:=mv) (f d) (.con (ys d)) h1 .(W) (ys d) kvs (List.Nodup.sublist (List.sublist_append_left _ _) nd) .(1) e3;have ih:=z6Q (γ':=γ') ys f src h1 hg rest (kvs++(ys d).map (f d)) (by
   rw[K2w,K0g];exact nd) (by rw[K02,K03];omega) λx hx=>hd x (by simp[hx])
  unfold z3f;rw[M.bind_ok c1,M.bind_ok (e1 _),M.bind_ok (e2 _)];have inn':z2l (Src.con (ys d)) g1 kb me mv h1.length γ1 (Src.con (ys d)).items (h1++[.dK kvs])=_:=inn;rw[M.bind_ok inn',ih,K2n,K0e]
theorem zp8(ys:D->List D)(f:D->D->Key×D)(hi:mi γ h=.ok src h1)(hg:∀j,src.good (h1++j))(nd:(src.items.flatMap λd=>(ys d).map λy=>(f d y).1).Nodup)(hl:(src.items.flatMap ys).length<=1000)
 (hd:∀d∈src.items,∃γ1,(∀h,g d (capG cap γ) h=.ok γ1 h)/\(∀j,mi1 γ1 (h1++j)=.ok (.con (ys d)) (h1++j))/\∀y∈ys d,∃γ2 z,(∀h,g1 y γ1 h=.ok γ2 h)/\(∀h,kb γ2 h=.ok true h)/\keyD z=some (f d y).1/\(∀j,me γ2 (h1++j)=.ok z (h1++j))/\∀j,mv γ2 (h1++j)=.ok (f d y).2 (h1++j)) :
 z6j cap mi g mi1 g1 kb me mv γ h=.ok (.ref h1.length) (h1++[.dK (src.items.flatMap λd=>(ys d).map (f d))]):=by
 have r:=z6Q (γ':=capG cap γ) (mi1:=mi1) (g1:=g1) (kb:=kb) (me:=me) (mv:=mv) (g:=g) ys f src h1 hg src.items [] (by simpa using nd) (by simpa using hl) hd;unfold z6j;rw[M.bind_ok hi];show (z3f src g mi1 g1 kb me mv h1.length (capG cap γ) src.items >>= λ_=>(pure (D.ref h1.length):M D)) (h1++[O.dK []])=_;rw[M.bind_ok r];simp
theorem z8T{γ':G}(ys:D->List D)(src:Src)(h1:AH)(hg:∀j,src.good (h1++j)):∀(rest acc:List D),acc.length+(rest.flatMap ys).length<=1000000 ->
 (∀d∈rest,∃γ1,(∀h,g d γ' h=.ok γ1 h)/\(∀j,mi1 γ1 (h1++j)=.ok (.con (ys d)) (h1++j))/\∀y∈ys d,∃γ2,(∀h,g1 y γ1 h=.ok γ2 h)/\(∀h,kb γ2 h=.ok true h)/\∀j,me γ2 (h1++j)=.ok y (h1++j)) ->
 z4T src g mi1 g1 kb me h1.length γ' rest (h1++[.lst acc])=.ok () (h1++[.lst (acc++rest.flatMap ys)])
 | [],acc,hl,hd=>by unfold z4T Src.chk;simp[hg]
 | d::rest,acc,hl,hd=>by
  obtain⟨γ1,e1,e2,e3⟩:=hd d .(f);rw[K2n,K02]at hl;have chk:src.chk (h1++[.lst acc])=.ok () (h1++[.lst acc]):=by unfold Src.chk;simp[hg]
  unfold z4T;rw[M.bind_ok chk,M.bind_ok (e1 _),M.bind_ok (e2 _)];have q:=z4w (g:=g1) (k:=kb) (me:=me) (γ:=γ1) (p:=λ_=>true) (f:=λy=>y) (.con (ys d)) h1 .(W) (ys d) acc .(1) λy hy=>by
   obtain⟨γ2,a1,a2,a3⟩:=e3 y hy;exact⟨γ2,a1,λj=>a2 _,λ_=>a3⟩
  have q':z52 (Src.con (ys d)) g1 kb me h1.length γ1 (Src.con (ys d)).items (h1++[.lst acc])=_:=q;rw[M.bind_ok q',filter_tt,Z13,z8T ys src h1 hg rest _ (by rw[K02];omega) λy hy=>hd y (by simp[hy]),K2n,K0e]
theorem zH0(ys:D->List D)(hi:mi γ h=.ok src h1)(hg:∀j,src.good (h1++j))(hl:(src.items.flatMap ys).length<=1000000)
 (hd:∀d∈src.items,∃γ1,(∀h,g d (capG cap γ) h=.ok γ1 h)/\(∀j,mi1 γ1 (h1++j)=.ok (.con (ys d)) (h1++j))/\∀y∈ys d,∃γ2,(∀h,g1 y γ1 h=.ok γ2 h)/\(∀h,kb γ2 h=.ok true h)/\∀j,me γ2 (h1++j)=.ok y (h1++j)) :
 zi2 cap mi g mi1 g1 kb me γ h=.ok (.ref h1.length) (h1++[.lst (src.items.flatMap ys)]):=by
 have e:=z8T (γ':=capG cap γ) (g:=g) (mi1:=mi1) (g1:=g1) (kb:=kb) (me:=me) ys src h1 hg src.items [] (by simpa using hl) hd;unfold zi2;rw[M.bind_ok hi];show (z4T src g mi1 g1 kb me h1.length (capG cap γ) src.items >>= λ_=>(pure (D.ref h1.length):M D)) (h1++[.lst []])=_;rw[M.bind_ok e];rfl
end
theorem zw0{d:D}(e:m h=.ok d h)(c:Y8 0 d=true):cln m h=.ok d h:=z0m (j:=[]) (by rw[e,K1d]) (z2N (K3k h.length) c)
theorem z2k{ma:G->M D}{d:D}{b:Bool}(e1:ma γ h=.ok d h)(e2':fIsi T d h=.ok (.bl b) h):eIsi T ma γ h=.ok (.bl b) h:=by
 unfold eIsi;rw[M.bind_ok e1,e2']
theorem Z0q{bs:List Bool}(e:me γ h=.ok .(R) (h++[.lst (bs.map .bl)])):clE (Z6 (fAll true) (z8 me aNil)) γ h=.ok (.bl (bs.any id)) h:=
 z0m (j:=[.lst (bs.map .bl)]) (j5 e (by
  have g:getL h.length (h++[O.lst (bs.map .bl)])=.ok (bs.map .bl) (h++[O.lst (bs.map .bl)]):=by unfold getL;rw[j9]
  unfold fAll;dsimp only;rw[M.bind_ok g,z81];rfl)) rfl
theorem zw6{ma:G->M D}{k:D}{kk:Key}(e1:ma γ (h++[.dK []])=.ok k (h++[.dK []]))(hk:keyD k=some kk)(e2':mv γ (h++[.dK []])=.ok v (h++[.dK []])):z7e ma mv γ h=.ok .(R) (h++[.dK [(kk,v)]]):=by
 unfold z7e;show (ma γ >>= λk=>mv γ >>= λv=>putO .(m) k v) (h++[O.dK []])=_;rw[M.bind_ok e1,M.bind_ok e2'];unfold putO;rw[hk];dsimp only;rw[j9];dsimp only;rw[z33]
theorem z3w{cap:List (Option Nat)}{mi:G->M Src}{g:D->G->M G}{kb:G->M Bool}{me:G->M D}(f:Nat->D)(hi:mi γ h=.ok src h1)(hs:src.items=stD l)(hg:∀j,src.good (h1++j))(hl:l.length<=1000000)
 (hd:∀x∈l,∃γ1,(∀h,g (.int x) (capG cap γ) h=.ok γ1 h)/\(∀j,kb γ1 (h1++j)=.ok true (h1++j))/\∀j,me γ1 (h1++j)=.ok (f x) (h1++j)):Y7 cap mi g kb me γ h=.ok (.ref h1.length) (h1++[.lst (l.map f)]):=by
 have e:=z0d (mi:=λ_=>pure src) (cap:=cap) (g:=g) (kb:=kb) (me:=me) (γ:=γ) (h:=h1) (λ_=>true) f rfl hs hg hl λx hx=>by
  obtain⟨γ1,a1,a2,a3⟩:=hd x hx;exact⟨γ1,a1,a2,λ_=>a3⟩
 rw[filter_tt]at e;rw[<- e];unfold Y7;rw[M.bind_ok hi];rfl
def Sim(st:List .(19))(mk:List (List Str))(x y:Nat):Prop:=∃E,Stb st mk E/\E x y
abbrev Lk:=Nat×List Str×List Nat
def lkH(st:List .(19))(mk:List (List Str))(H:List Nat)(x:Nat):Lk:=(rowAt H x,mkAt mk x,setN ((nx st x).map (rowAt H)))
def lkE(l:Lk):D:=.tup [.int (l.1:Nat),.tup (l.2.1.map .str),.tup (stD l.2.2)]
theorem zy7(a b:Lk):eqN 24 h (lkE a) (lkE b)=some (decide (a=b)):=by
 obtain⟨a1,a2,a3⟩:=a;obtain⟨b1,b2,b3⟩:=b;have e1:eqN 23 h (.int (a1:Nat)) (.int (b1:Nat))=some (decide (a1=b1)):=z12 a1 b1;have e2:eqN 23 h (.tup (a2.map .str)) (.tup (b2.map .str))=some (decide (a2=b2)):=z1Q z5L a2 b2;have e3:eqN 23 h (.tup (stD a3)) (.tup (stD b3))=some (decide (a3=b3)):=z1Q (enc:=λ(i:Nat)=>.int i) z12 a3 b3;show eqZ (eqN 23 h) _ _=_;unfold eqZ;rw[e1];unfold eqZ;rw[e2];unfold eqZ;rw[e3];show some _=_;rw[K7b,K0p];simp only[K0i,decide_eq_true_eq,Prod.mk.injEq,and_true]
def z1B(st:List .(19))(mk:List (List Str))(H:List Nat):List Nat:=(K7 st.length).map λx=>((K7 st.length).map (lkH st mk H)).idxOf (lkH st mk H x)
def y8(st:List .(19))(mk:List (List Str)):Nat->List Nat
 | 0=>K0c st.length 0
 | k+1=>z1B st mk (y8 st mk k)
structure CanH(n:Nat)(H:List Nat):Prop where
 len:H.length=n
 le:∀x,x<n->rowAt H x<=x
 fix:∀x,x<n->rowAt H (rowAt H x)=rowAt H x
theorem z5J{α:Type}[BEq α][LawfulBEq α]:∀{l:List α}{i:Nat}{x:α},l[i]?=some x->l.idxOf x<=i
 | [],i,x,h=>by simp at h
 | y::r,0,x,h=>by simp at h;subst h;simp
 | y::r,i+1,x,h=>by
  rw[K5a];cases e:y==x with
  | true=>simp
  | false=>
   have:=z5J (l:=r) (i:=i) (x:=x) (by simpa using h);simp only[cond_false];omega
section
variable{H:List Nat}
theorem z69(hx:x<st.length):rowAt (z1B st mk H) x=((K7 st.length).map (lkH st mk H)).idxOf (lkH st mk H x):=z1G (by unfold z1B;rw[K04,K16 hx];rfl)
theorem z6k(hx:x<st.length):((K7 st.length).map (lkH st mk H))[x]?=some (lkH st mk H x):=by rw[K04,K16 hx];rfl
theorem z3W(hx:x<st.length):rowAt (z1B st mk H) x<=x:=by rw[z69 hx];exact z5J (z6k hx)
theorem z2D(hx:x<st.length):lkH st mk H (rowAt (z1B st mk H) x)=lkH st mk H x:=by
 have l:=K29 (z3W (mk:=mk) (H:=H) hx) hx;have e:=z6k (mk:=mk) (H:=H) l;rw[z69 hx]at e ⊢;have m:lkH st mk H x∈(K7 .(c)).map (lkH st mk H):=K06 (z6k hx);have il:=K0w.mpr m;rw[K2 il,K4b il]at e;exact(K11 e).symm
theorem z3x(hx:x<st.length)(hy:y<st.length):rowAt (z1B st mk H) x=rowAt (z1B st mk H) y↔lkH st mk H x=lkH st mk H y:=by
 constructor
 ·intro e;rw[<- z2D (H:=H) hx,<- z2D (H:=H) hy,e]
 ·intro e;rw[z69 hx,z69 hy,e]
theorem next_can:CanH st.length (z1B st mk H):=⟨by unfold z1B;simp,λx hx=>z3W hx,λx hx=>(z3x (K29 (z3W hx) hx) hx).mpr (z2D hx)⟩
theorem z23:∀k,CanH st.length (y8 st mk k)
 | 0=>by
  have z:∀x,rowAt (K0c .(c) 0) x=0:=λx=>by
   unfold rowAt;rw[K2k];split<;>rfl
  exact⟨by simp[y8],λx _=>by show rowAt (K0c st.length 0) x<=x;rw[z];omega,λx _=>by show rowAt (K0c st.length 0) _=rowAt (K0c st.length 0) _;rw[z,z]⟩
 | k+1=>next_can
theorem zv5{α:Type}{p q:α->Bool}:∀{l:List α},(∀x∈l,p x=true->q x=true)->(l.filter p).length<=(l.filter q).length/\((l.filter p).length=(l.filter q).length->∀x∈l,q x=true->p x=true)
 | [],_=>⟨K05 _,λ_ x hx=>by cases hx⟩
 | a::l,h=>by
  obtain⟨i1,i2⟩:=zv5 (l:=l) λx hx=>h x (by simp[hx]);have ha:=h a .(f);cases e1:p a with
  | true=>
   have e2:=ha e1;rw[K5m e1,K5m e2];refine⟨by simpa using i1,λe x hx q=>?_⟩;rcases K0y.mp hx with rfl|hx
   ·exact e1
   ·exact i2 (by simpa using e) x hx q
  | false=>
   rw[K8a (by simp[e1])];cases e2:q a with
   | true=>
    rw[K5m e2];refine⟨by rw[K0d];omega,λe=>?_⟩;rw[K0d]at e;omega
   | false=>
    rw[K8a (by simp[e2])];refine⟨i1,λe x hx q=>?_⟩;rcases K0y.mp hx with rfl|hx
    ·rw[e2]at q;cases q
    ·exact i2 e x hx q
def repN(n:Nat)(H:List Nat):Nat:=((K7 n).filter λx=>decide (rowAt H x=x)).length
theorem zl7(c:CanH st.length H):repN st.length H<=repN st.length (z1B st mk H)/\(repN st.length H=repN st.length (z1B st mk H)->z1B st mk H=H):=by
 have mono:∀x∈K7 .(c),decide (rowAt H x=x)=true->decide (rowAt (z1B st mk H) x=x)=true:=λx hx e=>by
  have hx:=K0q.mp hx;have e:=of_decide_eq_true e;have l:=K29 (z3W (mk:=mk) (H:=H) hx) hx;have lk:=congrArg Prod.fst (z2D (mk:=mk) (H:=H) hx);have lk:rowAt H (rowAt (z1B st mk H) x)=rowAt H x:=lk;have a1:=c.le _ l;have a2:=z3W (mk:=mk) (H:=H) hx;exact .(s) .(1)
 obtain⟨h1,h2⟩:=zv5 mono;refine⟨h1,λe=>?_⟩;have back:=h2 e;refine K1v λx=>?_;by_cases hx:x<.(c)
 ·rw[z0q (show x<(z1B st mk H).length by rw[next_can.len];exact hx),z0q (show x<H.length by rw[c.len];exact hx)];congr 1;have l:=K29 (z3W (mk:=mk) (H:=H) hx) hx;have r:=of_decide_eq_true (back _ (K0q.mpr l) (.(s) (next_can.fix x hx)));have lk:rowAt H (rowAt (z1B st mk H) x)=rowAt H x:=congrArg Prod.fst (z2D (mk:=mk) (H:=H) hx);omega
 ·rw[K0h (by rw[next_can.len];omega),K0h (by rw[c.len];omega)]
theorem z5A(hn:1<=st.length):∀k,(∃j,j<k/\y8 st mk (j+1)=y8 st mk j)\/k+1<=repN st.length (y8 st mk k)
 | 0=>.inr (by
  unfold repN;refine K8o (a:=0) (K0m.mpr ⟨K0q.mpr .(1),.(s) ?_⟩);have:=(z23 (st:=st) (mk:=mk) 0).le 0 .(1);omega)
 | k+1=>by
  rcases z5A hn k with ⟨j,hj,e⟩|h
  ·exact .inl ⟨j,by omega,e⟩
  ·obtain⟨h1,h2⟩:=zl7 (mk:=mk) (z23 (st:=st) (mk:=mk) k);by_cases q:repN .(c) (y8 st mk k)=repN .(c) (z1B st mk (y8 st mk k))
   ·exact .inl ⟨k,by omega,h2 q⟩
   ·exact .inr (by show k+1+1<=repN .(c) (z1B st mk (y8 st mk k));omega)
theorem z5x{j:Nat}(e:y8 st mk (j+1)=y8 st mk j):∀i,y8 st mk (j+i)=y8 st mk j
 | 0=>rfl
 | i+1=>by
  show z1B st mk (y8 st mk (j+i))=_;rw[z5x e i];exact e
theorem z72(hn:1<=st.length):z1B st mk (y8 st mk st.length)=y8 st mk st.length:=by
 rcases z5A (mk:=mk) hn .(c) with ⟨j,hj,e⟩|h
 ·have s:=z5x e;have a1:=s (.(c) - j);rw[show j+(.(c) - j)=.(c) by omega]at a1;rw[a1];exact e
 ·have:=K3u (λx=>decide (rowAt (y8 st mk .(c)) x=x)) (K7 .(c));unfold repN at h;rw[K1u]at this;omega
theorem z60{E:Nat->Nat->Prop}(s:Stb st mk E):∀k x y,E x y->rowAt (y8 st mk k) x=rowAt (y8 st mk k) y
 | 0,x,y,e=>by
  obtain⟨hx,hy⟩:=s.lt x y e;have a:=(z23 (st:=st) (mk:=mk) 0);show rowAt (K0c .(c) 0) x=rowAt (K0c .(c) 0) y;unfold rowAt;rw[K2k,K2k,if_pos hx,if_pos hy]
 | k+1,x,y,e=>by
  obtain⟨hx,hy⟩:=s.lt x y e;refine(z3x hx hy).mpr ?_;unfold lkH;rw[z60 s k x y e,s.marks x y e];congr 2;have go:∀x y,E x y->∀u,u∈(nx st x).map (rowAt (y8 st mk k))->u∈(nx st y).map (rowAt (y8 st mk k)):=λx y e u hu=>by
   obtain⟨o,ho,rfl⟩:=K08.mp hu;obtain⟨t,ht,et⟩:=s.steps x y e o ho;exact K08.mpr ⟨t,ht,(z60 s k o t et).symm⟩
  exact zr4 λu=>⟨go x y e u,go y x (s.sym x y e) u⟩
theorem z3L(sq:SQ st)(hx:x<st.length)(hy:y<st.length):rowAt (y8 st mk st.length) x=rowAt (y8 st mk st.length) y↔Sim st mk x y:=by
 constructor
 ·intro e;refine⟨λx y=>x<.(c)/\y<.(c)/\rowAt (y8 st mk .(c)) x=rowAt (y8 st mk .(c)) y,⟨λx y h=>⟨h.1,h.2.1⟩,λx y h=>⟨h.2.1,h.1,h.2.2.symm⟩,λx y ⟨hx,hy,e⟩=>?_,λx y ⟨hx,hy,e⟩ o ho=>?_⟩,hx,hy,e⟩
  ·rw[<- z72 sq.l1]at e;have:=(z3x hx hy).mp e;exact congrArg (λl:Lk=>l.2.1) this
  ·have e':=e;rw[<- z72 sq.l1]at e';have:=congrArg (λl:Lk=>l.2.2) ((z3x hx hy).mp e');have this:setN ((nx st x).map (rowAt (y8 st mk .(c))))=setN ((nx st y).map (rowAt (y8 st mk .(c)))):=this;have m:rowAt (y8 st mk .(c)) o∈setN ((nx st y).map (rowAt (y8 st mk .(c)))):=by
    rw[<- this,z0t];exact K08.mpr ⟨o,ho,rfl⟩
   rw[z0t]at m;obtain⟨t,ht,et⟩:=K08.mp m;exact⟨t,ht,z3o sq ho,z3o sq ht,et.symm⟩
 ·rintro⟨E,s,e⟩;exact z60 s _ x y e
end
theorem z3O{l:List Lk}{a:Lk}(ha:a∈l):inZ h (lkE a) (l.map lkE)=some true/\z3I h (lkE a) (l.map lkE)=l.idxOf a:=by
 have g:∀l:List Lk,inZ h (lkE a) (l.map lkE)=some (decide (a∈l)):=by
  intro l;induction l with
  | nil=>rfl
  | cons b l ih=>
   rw[K0v];unfold inZ;rw[zy7,ih];dsimp only;show some (decide (b=a)||decide (a∈l))=some (decide (a∈b::l));congr 1;rw[K0p,K3c,.(15),.(15),.(15),K0y];constructor
   ·rintro(e|e)
    ·exact .inl e.symm
    ·exact .inr e
   ·rintro(e|e)
    ·exact .inl e.symm
    ·exact .inr e
 refine⟨by rw[g,.(s) ha],?_⟩;unfold z3I List.idxOf;rw[List.findIdx_map];congr 1;funext b;show decide (eqN 24 h (lkE b) (lkE a)=some true)=(b==a);rw[zy7,K0p];simp
theorem z7J(l:List Lk):z0h (l.map lkE)=true:=by
 have ps:∀l:List Str,z0h (l.map .str)=true:=λl=>by
  induction l with
  | nil=>rfl
  | cons a l ih=>simp only[K0v,z0h,z1a,ih,Bool.and_self]
 have pn:∀l:List Nat,z0h (stD l)=true:=λl=>by
  induction l with
  | nil=>rfl
  | cons a l ih=>
   show (z1a (.int (a:Nat))&&z0h (stD l))=true;rw[ih];rfl
 induction l with
 | nil=>rfl
 | cons a l ih=>
  simp only[K0v,z0h,ih,K7o];simp only[lkE,z1a,z0h,ps,pn,Bool.and_self]
inductive Sy where
 | yes
 | mark (s:Str)
 | step (k:Nat)
 | neg (k:Nat)
 | con (a b:Nat)
def Sy.d:Sy->D
 | .yes=>.tup [.str "yes"]
 | .mark s=>.tup [.str "mark",.str s]
 | .step k=>.tup [.str "step",.int k]
 | .neg k=>.tup [.str "not",.int k]
 | .con a b=>.tup [.str "and",.int a,.int b]
def Sy.ok(n:Nat):Sy->Prop
 | .yes=>True
 | .mark s=>z4m s
 | .step k=>k<n
 | .neg k=>k<n
 | .con a b=>a<n/\b<n
abbrev Tru:=List (List Bool)
def tv(T:Tru)(i x:Nat):Bool:=(((T[i]?).getD [])[x]?).getD false
def Sy.f(st:List .(19))(mk:List (List Str))(T:Tru):Sy->Nat->Bool
 | .yes,_=>true
 | .mark s,x=>decide (s∈mkAt mk x)
 | .step k,x=>(nx st x).any (tv T k)
 | .neg k,x=>!tv T k x
 | .con a b,x=>tv T a x&&tv T b x
def Sy.t(st:List .(19))(mk:List (List Str))(T:Tru)(r:Sy):List Bool:=(K7 st.length).map (r.f st mk T)
def trus(st:List .(19))(mk:List (List Str))(R:List Sy):Tru:=R.foldl (λT r=>T++[r.t st mk T]) []
section
variable{R:List Sy}{r:Sy}{T S:Tru}{bl:Bl}
theorem z4B:trus st mk (R++[r])=trus st mk R++[r.t st mk (trus st mk R)]:=by unfold trus;rw[K4t];rfl
theorem z75:∀(R:List Sy) (T:Tru),(R.foldl (λT r=>T++[r.t st mk T]) T).length=T.length+R.length
 | [],T=>rfl
 | r::R,T=>by rw[K4j,z75 R,K02,K0d,K0d,K0l];omega
theorem z3z:(trus st mk R).length=R.length:=by unfold trus;rw[z75];simp
theorem zx9(h:i<T.length):tv (T++S) i x=tv T i x:=by unfold tv;rw[K0n h]
theorem tv_t{k:Nat}(h:T[k]?=some (r.t st mk S))(hx:x<st.length):tv T k x=r.f st mk S x:=by
 unfold tv Sy.t at *;rw[h];show (((K7 .(c)).map (r.f st mk S))[x]?).getD false=_;rw[K04,K16 hx];rfl
theorem z8k(h:i<R.length):tv (trus st mk (R++[r])) i x=tv (trus st mk R) i x:=by rw[z4B];exact zx9 (by rw[z3z];exact h)
theorem z6P(h:i=R.length)(hx:x<st.length):tv (trus st mk (R++[r])) i x=r.f st mk (trus st mk R) x:=by
 subst h;rw[z4B];exact tv_t (by rw[<- z3z (st:=st) (mk:=mk) (R:=R)];simp) hx
theorem z6F:∀(S:List Sy) (T:Tru),∃U,S.foldl (λT r=>T++[r.t st mk T]) T=T++U
 | [],T=>⟨[],by simp⟩
 | r::S,T=>by
  obtain⟨U,e⟩:=z6F S (T++[r.t st mk T]);exact⟨r.t st mk T::U,by rw[K4j,e];simp⟩
theorem zc2(hj:j<i)(hi:i<=R.length):tv (trus st mk (R.take i)) j x=tv (trus st mk R) j x:=by
 have e:trus st mk R=(R.drop i).foldl (λT r=>T++[r.t st mk T]) (trus st mk (R.take i)):=by
  conv=>lhs;rw[<- List.take_append_drop i R]
  unfold trus;rw[K4t]
 obtain⟨U,e2⟩:=z6F (st:=st) (mk:=mk) (R.drop i) (trus st mk (R.take i));rw[e,e2,zx9 (by rw[z3z,K19];omega)]
structure Sg(st:List .(19))(mk:List (List Str))(R:List Sy)(num:Nat->Nat)(bl:Bl):Prop where
 ok:∀(i:Nat) (r:Sy),R[i]?=some r->r.ok i
 lt:∀k∈bl.map (·.1),num k<R.length
 tr:∀k∈bl.map (·.1),∀x,x<.(c)->tv (trus st mk R) (num k) x=decide (keyOf bl x=k)
theorem zp6(h:0<st.length):Sg st mk [.yes] (λ_=>0) [(0,K7 st.length)]:=by
 have pb:=z2L h;refine⟨λi r e=>?_,λk hk=>by simp,λk hk x hx=>?_⟩
 ·cases i with
  | zero=>simp at e;subst e;trivial
  | succ i=>simp at e
 ·simp at hk;subst hk;rw[pb.key (p:=(0,K7 st.length)) .(f) (K0q.mpr hx)];exact z6P (R:=[]) rfl hx
def byR(num:Nat->Nat):D->Sy
 | .str s=>.mark s
 | .int k=>.step (num k.toNat)
 | _=>.yes
def cutR(R:List Sy)(num:Nat->Nat)(k:Nat)(y:D):List Sy:=R++[byR num y]++[.con (num k) R.length]++[.neg R.length]++[.con (num k) (R.length+2)]
def cutN(R:List Sy)(num:Nat->Nat)(bl:Bl)(k:Nat)(f:Nat->Bool)(k':Nat):Nat:=if k'∈bl.map (·.1)/\k'≠k then num k' else if f k'=true then R.length+1 else R.length+3
theorem zq8{k:Nat}{y:D}:(cutR R num k y).length=R.length+4:=by unfold cutR;simp
theorem z64(h:∀(i:Nat) (r:Sy),R[i]?=some r->r.ok i)(hr:r.ok R.length):∀(i:Nat) (q:Sy),(R++[r])[i]?=some q->q.ok i:=λi q e=>by
 by_cases hi:i<R.length
 ·rw[K0n hi]at e;exact h i q e
 ·rw[K1i .(1)]at e;have:i - R.length=0:=by have:=(K5.mp e).1;simpa using this
  rw[this]at e;simp at e;subst e;rw[show i=R.length by omega];exact hr
theorem zn2(b:PB n bl){k:Nat}{f:Nat->Bool}(c:Cut bl k f)(h:k'∈(cutB bl k f).map (·.1))(h2:¬ (k'∈bl.map (·.1)/\k'≠k)):keyOf bl k'=k:=by
 have b':=z49 b c;have hn:=b'.klt h;by_cases e:keyOf bl k'=k
 ·exact e
 ·exfalso;obtain⟨m,hm⟩:=b.at_ hn;have key:=b'.key ((z0a b c).mpr (.inl ⟨m,e⟩)) hm;have self:=b'.keyself h;have:keyOf bl k'=k':=key.symm.trans self;exact h2 ⟨by rw[<- this];exact b.keyin hn,λq=>e (this.trans q)⟩
theorem zH2(b:PB n bl){k:Nat}{f:Nat->Bool}(c:Cut bl k f)(h:k'∈(cutB bl k f).map (·.1))(hx:x<n):keyOf (cutB bl k f) x=k'↔if k'∈bl.map (·.1)/\k'≠k then keyOf bl x=k' else keyOf bl x=k/\f x=f k':=by
 have b':=z49 b c;have hn:=b'.klt h;have self:=b'.keyself h;have cs:=z8s b c hx hn;rw[self]at cs;rw[cs];by_cases q:k'∈bl.map (·.1)/\k'≠k
 ·rw[if_pos q,b.keyself q.1];exact⟨λe=>e.1,λe=>⟨e,λz=>absurd (e.symm.trans z) q.2⟩⟩
 ·rw[if_neg q,zn2 b c h q];exact⟨λ⟨e,z⟩=>⟨e,z e⟩,λ⟨e,z⟩=>⟨e,λ_=>z⟩⟩
theorem zS2{k:Nat}{y:D}(b:PB st.length bl)(sg:Sg st mk R num bl)(g:(∃s,y=.str s/\z4m s)\/∃k':Nat,y=.int (k':Nat)/\k'∈bl.map (·.1))(c:Cut bl k .(V))(nl:∀x,∀o∈nx st x,o<st.length):Sg st mk (cutR R num k y) (cutN R num bl k .(V)) (cutB bl k .(V)):=by
 have nk:=sg.lt k c.hk;have r0:(byR num y).ok R.length:=by
  rcases g with ⟨s,rfl,gs⟩|⟨k',rfl,hk'⟩
  ·exact gs
  ·exact sg.lt k' hk'
 have f0:∀x,x<.(c)->(byR num y).f st mk (trus st mk R) x=bel st mk bl y x:=λx hx=>by
  rcases g with ⟨s,rfl,gs⟩|⟨k',rfl,hk'⟩
  ·show decide (s∈mkAt mk x)=bear s mk x;have:s≠"":=λe=>by
    rw[e]at gs;exact absurd gs.1 .(0)
   unfold bear;rw[.(y) this,K4o];rfl
  ·show (nx st x).any (tv (trus st mk R) (num ((k':Nat):Int).toNat))=(nx st x).any λo=>decide (o∈FT.blk bl ((k':Nat):Int).toNat);rw[K0k,K0p,K1n,K1n];have eq:∀o∈nx st x,tv (trus st mk R) (num k') o=decide (o∈FT.blk bl k'):=λo ho=>by
    have ol:=nl x o ho;rw[sg.tr k' hk' o ol,decide_eq_decide,b.in_blk hk'];exact⟨λe=>⟨ol,e⟩,λe=>e.2⟩
   exact⟨λ⟨o,ho,e⟩=>⟨o,ho,by rw[<- eq o ho];exact e⟩,λ⟨o,ho,e⟩=>⟨o,ho,by rw[eq o ho];exact e⟩⟩
 obtain⟨f,hf⟩:∃f,f=bel st mk bl y:=⟨_,rfl⟩;rw[<- hf]at f0 c ⊢;obtain⟨R1,h1⟩:∃R1,R1=R++[byR num y]:=⟨_,rfl⟩;obtain⟨R2,h2⟩:∃R2,R2=R1++[Sy.con (num k) R.length]:=⟨_,rfl⟩;obtain⟨R3,h3⟩:∃R3,R3=R2++[Sy.neg R.length]:=⟨_,rfl⟩;obtain⟨R4,h4⟩:∃R4,R4=R3++[Sy.con (num k) (R.length+2)]:=⟨_,rfl⟩;have hR:cutR R num k y=R4:=by unfold cutR;rw[h4,h3,h2,h1]
 have l1:R1.length=R.length+1:=by rw[h1];simp
 have l2:R2.length=R.length+2:=by rw[h2,K02,l1];simp
 have l3:R3.length=R.length+3:=by rw[h3,K02,l2];simp
 have l4:R4.length=R.length+4:=by rw[h4,K02,l3];simp
 have t1:∀x,x<.(c)->tv (trus st mk R1) R.length x=f x:=λx hx=>by rw[h1,z6P rfl hx];exact f0 x hx
 have o1:∀i x,i<R.length->tv (trus st mk R1) i x=tv (trus st mk R) i x:=λi x hi=>by rw[h1];exact z8k hi
 have o2:∀i x,i<R1.length->tv (trus st mk R2) i x=tv (trus st mk R1) i x:=λi x hi=>by rw[h2];exact z8k hi
 have o3:∀i x,i<R2.length->tv (trus st mk R3) i x=tv (trus st mk R2) i x:=λi x hi=>by rw[h3];exact z8k hi
 have o4:∀i x,i<R3.length->tv (trus st mk R4) i x=tv (trus st mk R3) i x:=λi x hi=>by rw[h4];exact z8k hi
 have whole:∀x,x<.(c)->tv (trus st mk R) (num k) x=decide (keyOf bl x=k):=sg.tr k c.hk;have t2:∀x,x<.(c)->tv (trus st mk R2) (R.length+1) x=(decide (keyOf bl x=k)&&f x):=λx hx=>by
  rw[h2,z6P l1.symm hx];show (tv (trus st mk R1) (num k) x&&tv (trus st mk R1) R.length x)=_;rw[o1 _ _ nk,whole x hx,t1 x hx]
 have t3:∀x,x<.(c)->tv (trus st mk R3) (R.length+2) x = !f x:=λx hx=>by
  rw[h3,z6P l2.symm hx];show (!tv (trus st mk R2) R.length x)=_;rw[o2 _ _ .(1),t1 x hx]
 have t4:∀x,x<.(c)->tv (trus st mk R4) (R.length+3) x=(decide (keyOf bl x=k)&&!f x):=λx hx=>by
  rw[h4,z6P l3.symm hx];show (tv (trus st mk R3) (num k) x&&tv (trus st mk R3) (R.length+2) x)=_;rw[o3 _ _ .(1),o2 _ _ .(1),o1 _ _ nk,whole x hx,t3 x hx]
 have b':=z49 b c;rw[hR];refine⟨?_,λk' hk'=>?_,λk' hk' x hx=>?_⟩
 ·rw[h4];refine z64 ?_ ⟨by omega,by omega⟩;rw[h3];refine z64 ?_ (by show R.length<_;omega);rw[h2];refine z64 ?_ ⟨by omega,by omega⟩;rw[h1];exact z64 sg.ok r0
 ·unfold cutN;split
  ·rename_i q;have:=sg.lt k' q.1;omega
  ·split<;>omega
 ·rw[K0p,.(15),zH2 b c hk' hx];unfold cutN;by_cases q:k'∈bl.map (·.1)/\k'≠k
  ·rw[if_pos q,if_pos q];have:=sg.lt k' q.1;rw[o4 _ _ .(1),o3 _ _ .(1),o2 _ _ .(1),o1 _ _ .(1),sg.tr k' q.1 x hx,.(15)]
  ·rw[if_neg q,if_neg q];cases e:f k' with
   | true=>
    rw[if_pos rfl,o4 _ _ .(1),o3 _ _ .(1),t2 x hx,K0i,.(15)]
   | false=>
    rw[if_neg .(0),t4 x hx,K0i,.(15),Z1f]
def z2i(n:Nat)(bl:Bl):List Nat:=(K7 n).map λx=>(z0R (bl.map (·.1))).idxOf (keyOf bl x)
theorem za4(b:PB n bl)(hx:x<n)(hy:y<n):rowAt (z2i n bl) x=rowAt (z2i n bl) y↔keyOf bl x=keyOf bl y:=by
 have a:∀x,x<n->rowAt (z2i n bl) x=(z0R (bl.map (·.1))).idxOf (keyOf bl x):=λx hx=>z1G (by unfold z2i;rw[K04,K16 hx];rfl);rw[a x hx,a y hy];have mx:keyOf bl x∈z0R (bl.map (·.1)):=sortN_mem.mpr (b.keyin hx);have my:keyOf bl y∈z0R (bl.map (·.1)):=sortN_mem.mpr (b.keyin hy);constructor
 ·intro e;have a:=z3k mx;rw[e,z3k my]at a;exact(K11 a).symm
 ·intro e;rw[e]
theorem zo3(b:PB n bl)(hx:x<n):(z2i n bl).idxOf (rowAt (z2i n bl) x)=keyOf bl x:=by
 have ln:(z2i n bl).length=n:=by unfold z2i;simp
 have kx:=K29 (b.keyle hx) hx;have self:=b.keyself (b.keyin hx);have m:rowAt (z2i n bl) x∈z2i n bl:=K06 (z0q (by rw[ln];exact hx));have il:=K0w.mpr m;have g:=K4b il;have e1:rowAt (z2i n bl) ((z2i n bl).idxOf (rowAt (z2i n bl) x))=rowAt (z2i n bl) x:=z1G (by rw[K2 il,g]);rw[ln]at il;have e2:=(za4 b il hx).mp e1;have le:=b.keyle il;have e3:rowAt (z2i n bl) (keyOf bl x)=rowAt (z2i n bl) x:=(za4 b kx hx).mpr self;have up:=z5J (l:=z2i n bl) (i:=keyOf bl x) (x:=rowAt (z2i n bl) x) (by rw[z0q (by rw[ln];exact kx),e3]);omega
end
theorem zw2{k k':Key}:lkD (ptD kvs k v) k'=if k'=k then some v else lkD kvs k':=by
 unfold ptD;split
 ·rename_i a;have go:∀kvs:List (Key×D),(kvs.any λkv=>decide (kv.1=k))=true->lkD (kvs.map λkv=>if kv.1=k then (kv.1,v) else kv) k'=if k'=k then some v else lkD kvs k':=by
   intro kvs;induction kvs with
   | nil=>intro h;cases h
   | cons p r ih=>
    intro h;by_cases e:p.1=k
    ·by_cases e2:k'=k
     ·simp[lkD,e,e2]
     ·have ne:¬ p.1=k':=λq=>e2 (q.symm.trans e);have ne2:¬ k=k':=λq=>e2 q.symm;rw[if_neg e2];have keep:∀r:List (Key×D),lkD (r.map λkv=>if kv.1=k then (kv.1,v) else kv) k'=lkD r k':=by
       intro r;induction r with
       | nil=>rfl
       | cons q r ih=>
        by_cases eq:q.1=k
        ·have:¬ q.1=k':=λz=>e2 (z.symm.trans eq);simp only[lkD,K0v,K1m,if_pos eq,decide_eq_false this]at ih ⊢;exact ih
        ·by_cases e3:q.1=k'
         ·simp[lkD,K1m,eq,e3,e2]
         ·simp only[lkD,K0v,K1m,if_neg eq,decide_eq_false e3]at ih ⊢;exact ih
      exact keep _
    ·have h':(r.any λkv=>decide (kv.1=k))=true:=by
      rw[K2d,.(y) e,K4o]at h;exact h
     have ih:=ih h';by_cases e3:p.1=k'
     ·have:¬ k'=k:=λz=>e (e3.trans z);simp[lkD,K1m,e,e3,this]
     ·simp only[lkD,K0v,K1m,if_neg e,decide_eq_false e3]at ih ⊢;exact ih
  exact go kvs a
 ·rename_i a;unfold lkD;rw[List.find?_append];by_cases e:k'=k
  ·subst e;have:kvs.find? (λkv=>decide (kv.1=k'))=none:=by
    rw[K4c];intro p hp z;exact a (K1n.mpr ⟨p,hp,z⟩)
   rw[this,if_pos rfl];simp
  ·rw[if_neg e];have:¬ k=k':=λz=>e z.symm;simp[this]
theorem zW5{k:Key}:(ptD kvs k v).length<=kvs.length+1:=by
 unfold ptD;split<;>simp
theorem zU4{bl:Bl}{k:Nat}(h:k∉bl.map (·.1)):lkD (kvB bl) (.inl (k:Int))=none:=by
 unfold lkD;rw[Option.map_eq_none_iff,K4c];intro p hp z;unfold kvB at hp;obtain⟨q,hq,rfl⟩:=K08.mp hp;exact h (K08.mpr ⟨q,hq,inl_inj.mp (of_decide_eq_true z)⟩)
theorem Dic.inD{bl:Bl}(d:Dic h b bl){k:Nat}:fInD neg (.int (k:Nat)) (.ref b) h=.ok (.bl (decide (k∈bl.map (·.1)) != neg)) h:=by
 have g:getK b h=.ok (kvB bl) h:=by rcases d with d|d<;>(unfold getK;rw[d])
 unfold fInD;show (getK b >>= _) h=_;rw[M.bind_ok g];show Res.ok (D.bl ((lkD (kvB bl) (.inl (k:Int))).isSome != neg)) h=_;by_cases q:k∈bl.map (·.1)
 ·rw[lkB q,.(s) q];rfl
 ·rw[zU4 q,.(y) q];rfl
theorem z9Y{e:Nat}{d y:D}{k:Key}(he:h[e]?=some (.dK kvs))(hy:keyD y=some k)(hk:lkD kvs k=some d):z2G (.ref e) y h=.ok d h:=by
 have g:getK e h=.ok kvs h:=by unfold getK;rw[he]
 unfold z2G;show (getK e >>= _) h=_;rw[M.bind_ok g,hy];dsimp only;rw[hk];rfl
theorem zD1{k:G->M Bool}{ma:G->M D}(b:Bool){r:Res D}(e:k γ h=.ok b h1)(e2':(if b=true then ma γ h1 else mb γ h1)=r):eIf k ma mb γ h=r:=by
 unfold eIf;rw[M.bind_ok e];cases b<;>exact e2'
theorem tk_h{ma:G->M D}(e1:ma γ h=.ok (.ref i) h)(e2':mb γ h=.ok (.int (c:Nat)) h)(e:h[i]?=.(l xs))(hl:xs.length<=1000):z35 ma z5g (z4R mb) γ h=.ok .(R) (h++[.lst (xs.take c)]):=by
 have g:getL i h=.ok xs h:=by unfold getL;rw[e]
 have e3:z4R mb γ h=.ok (some (c:Int)) h:=by unfold z4R;rw[M.bind_ok e2'];rfl
 unfold z35;rw[M.bind_ok e1,M.bind_ok (show z5g γ h=.ok none h from rfl),M.bind_ok e3];show (getL i >>= λxs=>newL (cutD xs none (some (c:Int)))) h=_;rw[M.bind_ok g,zW4];exact z6y (by rw[K19];omega)
theorem Z07{y:D}{k:Key}(ev:me γ h=.ok v h)(ea:γ[a]?=some (.(r i)))(ei:mi γ h=.ok y h)(hy:keyD y=some k)(e:h[i]?=some (.dK kvs))(hl:kvs.length<1000000)(z:W (mt γ) (h.set i (.dK (ptD kvs k v))) Q):W (Z0 (sAsg me (gDx (eVar a) mi)) mt γ) h Q:=by
 rw[w_cons];unfold sAsg;rw[j0];refine W_of ev ?_;rw[j0];have put:gDx (eVar a) mi v γ h=.ok γ (h.set i (.dK (ptD kvs k v))):=by
  unfold gDx;have e3:z5P (.ref i) y v h=.ok () (h.set i (.dK (ptD kvs k v))):=by
   unfold z5P;dsimp only;rw[hy];dsimp only;rw[e];dsimp only;rw[if_pos (K0j hl .(0))]
  rw[M.bind_ok (z9 ea),M.bind_ok ei,M.bind_ok e3];rfl
 refine W_of put ?_;rw[W_pure];exact z
theorem z8b{l:AH}(e:l[i]?=some o):l.set i o=l:=by
 refine K1v λk=>?_;by_cases q:i=k
 ·subst q;rw[K0r (K5.mp e).1,e]
 ·rw[K0f q]
theorem zT3{ma:G->M D}(eo:mo γ h=.ok (.tup (stD l)) h)(ea:ma γ h=.ok (.int x) h)(hx:x∈l)(hl:l.length<=100000):orE (eM1 z0w mo ma) (z18 mo ma) γ h=.ok (.int (l.idxOf x:Nat)) h:=by
 have e1:eM1 z0w mo ma γ h=.bad:=by
  show (mo γ >>= λo=>z3T o >>= λn=>ma γ >>= λy=>z0w n y) h=_;rw[M.bind_ok eo];rfl
 have e2':z18 mo ma γ h=.ok (.int (l.idxOf x:Nat)) h:=by
  unfold z18;rw[M.bind_ok eo];dsimp only;rw[M.bind_ok ea,zk1 hx hl];rfl
 unfold orE orM;rw[e1];exact e2'
abbrev ryD(R:List Sy):List D:=R.map Sy.d
theorem z5U{R:List Sy}{r:Sy}:ryD (R++[r])=ryD R++[r.d]:=by unfold ryD;rw[K2w];rfl
theorem z3y{R:List Sy}:(ryD R).length=R.length:=K03 _
theorem zS1(r:Sy):Y8 n r.d=true:=by cases r<;>rfl
theorem zv9(R:List Sy):J8 n (ryD R)=true:=z22 λd hd=>by
 obtain⟨r,_,rfl⟩:=K08.mp hd;exact zS1 r
theorem zA4(l1:1<=xs.length)(e:xs[xs.length - 1]?=some v):atI xs (-1)=some v:=by
 have h1:.(21) - 1<xs.length:=by omega
 have ev:=(K5.mp e).2;have e2:xs.take (.(21) - 1)++[xs[.(21) - 1]]=xs:=by rw[<- List.take_succ_eq_append_getElem h1,K5y .(1)]
 rw[ev]at e2;rw[<- e2];exact zt9 _ _
abbrev Mx(K:K1)(mg:Str->Option Value)(x:Str):Prop:=∀v,K1x K K1p x=some (some v)->mg x=some v
abbrev Bnd(st:Stmt)(x:Str)(ps:List Str):Prop:=∀(kV doc pm:Value) (an:Option Addr) (cdv ct:Value) (us:List Value),us.length=ps.length->bindArgs (K3z x x (z3e st) (z0x st) (j4 st) .none kV doc pm an cdv ct) ⟨us,[]⟩=pure (ps.zip us)
def scB(N P:List Str)(sc:Scope):Bool:=sc.kind==.function&&!sc.isCoroutine&&!sc.isGenerator&&decide N.Nodup&&decide (P.length<=N.length)&&P.all (λx=>sc.names.lookup x==some .local||sc.names.lookup x==some .cell)&&sc.names.all λy=>y.2 != .free
theorem zn5{N:List Str}{sc:Scope}(h:scB N (N.take n) sc=true):FnScope N (N.take n) sc:=by
 unfold scB at h;simp only[K0i,Z1f,decide_eq_true_eq]at h;obtain⟨⟨⟨⟨⟨⟨h1,h2⟩,h3⟩,h4⟩,h5⟩,h6⟩,h7⟩:=h;refine⟨by simpa using h1,h2,h3,h4,by simp,λx hx=>?_,λy hy=>?_⟩
 ·have:=K1t.mp h6 x hx;rw[K3c]at this;rcases this with z|z
  ·exact .inl (by simpa using z)
  ·exact .inr (by simpa using z)
 ·have:=K1t.mp h7 y hy;simpa using this
section
variable{x:Str}{st:Stmt}{k:Nat}
theorem dfN(N:List Str)(mb:G->M Out)(T:DefAt K x st)(mx:Mx K mg x)(hs:scB N (N.take n) (j4 st)=true)(hn:(N.take n).length=n)(hb:Bnd st x (N.take n))
 (body:∀{f:Addr} {cdv:Value} {A:Around} {outer:List Env} {s:Shared} {H:Hp} {E:XK},K34 K cdv x=true->Room k (A.deeper (envOfC x (j4 st) .(4) f cdv))->N.Nodup ->
  SB (cxOf CX0 P w K mg base N x (j4 st) f cdv A outer s H E).nox EX0 (z0x st) mb):Fn P w K mg base (k+1) x n (runF N.length mb):=by
 obtain⟨f,fd,hf,F⟩:=T;exact zQ9 F (zn5 hs) (F.binds hb) (mx _ hf) hn λ_ _ _ _ _ _ hcd hr=>body hcd hr (zn5 hs).nd
theorem dfC(N:List Str)(mb:G->M Out)(T:DefAt K x st)(mx:Mx K mg x)(hs:scB N (N.take n) (j4 st)=true)(hn:(N.take n).length=n)(hb:Bnd st x (N.take n))
 (body:∀{f:Addr} {cdv:Value} {A:Around} {outer:List Env} {s:Shared} {H:Hp} {E:XK},K34 K cdv x=true->Room k (A.deeper (envOfC x (j4 st) .(4) f cdv))->N.Nodup ->
  SB (cxOf CX0 P w K mg base N x (j4 st) f cdv A outer s H E).nox EX0 (z0x st) mb):Fn P w K mg base (k+1) x n λds=>cln (runF N.length mb ds):=Fn.cln (dfN N mb T mx hs hn hb body)
theorem dfX(N:List Str)(mb:G->M Out)(T:DefAt K x st)(mx:Mx K mg x)(hs:scB N (N.take n) (j4 st)=true)(hn:(N.take n).length=n)(hb:Bnd st x (N.take n))
 (body:∀{f:Addr} {cdv:Value} {A:Around} {outer:List Env} {s:Shared} {H:Hp} {E:XK},K34 K cdv x=true->Room k (A.deeper (envOfC x (j4 st) .(4) f cdv))->N.Nodup ->
  SB (cxOf (CXE P w base) P w K mg base N x (j4 st) f cdv A outer s H E) (EXof K E) (z0x st) mb):FnX P w K mg base (k+1) x n (runF N.length mb):=by
 obtain⟨f,fd,hf,F⟩:=T;exact Z02 F (zn5 hs) (F.binds hb) (mx _ hf) hn λ_ _ _ _ _ _ hcd hr=>body hcd hr (zn5 hs).nd
end
def top (i:Nat):Stmt:=PySem.Challenge.pw_fairtrees_k71_forty_standings.main.body.getD i (.Pass ⟨0,0,0,0⟩)
def h_AreAlike:Str->Bool:=λc=>c=="AreAlike"
def z1t:G->M Out:=
 (Z0 (sRet (eAnd (eIsi "int" .(h)) (eNot (eIsi "bool" .(h))))) bNil)
def z3l:List D->M D:=λds=>cln (runF 1 z1t ds)
def z0c:G->M Out:=
 (Z0 (sRet (eAnd (eFn 1 z3l .(X)) (e3 fLe fLe .(j) .(h) .(w)))) bNil)
def z13:List D->M D:=λds=>cln (runF 3 z0c ds)
def z1X:G->M Out:=
 (Z0 (sRet (eIsi "tuple" .(h))) bNil)
def z46:List D->M D:=λds=>cln (runF 1 z1X ds)
def z0B:G->M Out:=
 (Z0 (sRet (eAnd (eFn 1 z46 .(X)) (e3 fLe fLe .(j) (Z6 fLen .(X)) .(w)))) bNil)
def z2b:List D->M D:=λds=>cln (runF 3 z0B ds)
def z4t:G->M Out:=
 (Z0 (sRet (clE (Z6 z0g (z8 (Z6 z03 (z8 (Z6 z1e .(X)) aNil)) aNil)))) bNil)
def z4z:List D->M D:=λds=>cln (runF 1 z4t ds)
def z65:G->M Out:=
 (Z0 (sRet (eOr (e2 (fEq false) .(w) (λ_=>pure (.str ""))) (e2 (fIn false) .(w) (e2 fIx .(10) .(j))))) bNil)
def z6g:List D->M D:=λds=>cln (runF 3 z65 ds)
def z0r:G->M Out:=
 (Z0 (sRet (z7e .(3) (eRng true (Z6 fLen (z8 .(M) aNil))))) bNil)
def z0U:List D->M D:=λds=>cln (runF 1 z0r ds)
def z3G:G->M Out:=
 (Z0 (sIf (cVal (eIsi "str" (eVar 3))) (Z0 (sRet (eFn 3 z6g (z8 .(h) (z8 .(w) (z8 (eVar 3) aNil))))) bNil) bNil) (Z0 (sRet (clE (Z6 (fAll true) (z8 (Y7 [some 1,some 3,none] (x9 (e2 fIx .(M) .(w))) (gN 2) .(o) (e2 (fIn false) .(w) (e2 z2G .(h) .(j)))) aNil)))) bNil))
def z3A:List D->M D:=λds=>cln (runF 4 z3G ds)
def z3p:G->M Out:=
 (Z0 (sAsg (clE (Z6 z0g (z8 (Y7 [some 0,some 1,some 3,none] (x9 .(w)) (gN 3) (cVal (eFn 4 z3A (z8 .(h) (z8 .(j) (z8 (eVar 3) (z8 .(w) aNil)))))) (eVar 3)) aNil))) (gN 4)) (Z0 (sAsg (clE (Z6 z0g (z8 (Y7 [some 4,none] (x9 .(w)) (gN 1) (λγ=>do let d <- e2 (fIn true) .(j) .(h) γ;asB d) .(j)) aNil))) (gN 5)) (Z0 (sRet (Y7 [none] (x9 (eTup (z8 (eVar 4) .(Y)))) (gN 0) (λγ=>do let d <- e2 fGt (Z6 fLen .(X)) .(3) γ;asB d) .(h))) bNil)))
def z4x:List D->M D:=λds=>cln (runF 6 z3p ds)
def z1i:G->M Out:=
 (Z0 (sFor (iDic .(j)) (gN 2) (Z0 (sAsg (e2 z2G .(j) .(w)) (gN 3)) (Z0 (zx7 4 [some 0,none,none] (x9 (eVar 3)) (gN 1) (x9 (e2 fIx .(10) .(j))) (gN 2) .(o) .(w)) (Z0 (sFor (z0e (eLst (z9W (eVar 4) (z5v .(j) aNil)))) (gN 5) (Z0 (sIf (λγ=>do let d <- e2 (fEq false) (Z6 fLen (z8 (eFn 4 z4x (z8 .(h) (z8 .(j) (z8 (eVar 3) .(Y))))) aNil)) .(B) γ;asB d) (Z0 (sRet (eTup (z8 .(w) .(Y)))) bNil) bNil) bNil)) bNil)))) .(x))
def z2U:List D->M D:=λds=>cln (runF 6 z1i ds)
def z2O:G->M Out:=
 (Z0 (sAsg .(w) (gT 2 (z1b (gN 3) (z1b (gN 4) z67)))) (Z0 (z7T 5 [some 1,none] (iDic .(j)) (gN 1) .(o) .(j) (e2 z2G .(h) .(j))) (Z0 (sFor (z0e (eFn 4 z4x (z8 .(h) (z8 .(j) (z8 (e2 z2G .(j) (eVar 3)) (z8 (eVar 4) aNil)))))) (gN 6) (Z0 (sAsg (eVar 6) (gDx (eVar 5) (e2 fIx (eVar 6) .(3)))) bNil)) (Z0 (sRet (eVar 5)) bNil))))
def z4p:List D->M D:=λds=>cln (runF 7 z2O ds)
def z3r:G->M Out:=
 (Z0 (sAsg (z6j [some 0,none,none,none] (z8v (Z6 z0A .(X))) (gT 2 (z1b (gN 1) (z1b (gN 2) z67))) (x9 (e2 z2G .(h) .(w))) (gN 3) .(o) (eVar 3) .(j)) (gN 1)) (Z0 (sRet (clE (Z6 z0g (z8 (Y7 [some 1,none] (z0e (Z6 z0A .(11))) (gN 1) .(o) (e2 z2G .(h) .(j))) aNil)))) bNil))
def z6s:List D->M D:=λds=>cln (runF 2 z3r ds)
def z1T:G->M Out:=
 (Z0 (sAsg (eFn 1 z0U .(X)) (gN 1)) (Z0 (sAsg (eLst aNil) (gN 2)) (Z0 (sAsg (eFn 2 z2U (z8 .(h) .(11))) (gN 3)) (Z0 (z32 (λγ=>do let d <- e2 (fIs true) (eVar 3) (λ_=>pure .non) γ;asB d) (Z0 (z0E (eM1 k9 .(w) (eVar 3))) (Z0 (sAsg (eFn 3 z4p (z8 .(h) (z8 .(j) (z8 (eVar 3) aNil)))) (gN 1)) (Z0 (sAsg (eFn 2 z2U (z8 .(h) .(11))) (gN 3)) bNil))) 1000000) (Z0 (sRet (eTup (z8 (eFn 1 z6s .(11)) (z8 (Z6 z0g (z8 .(w) aNil)) aNil)))) bNil)))))
def z1Y:List D->M D:=λds=>cln (runF 4 z1T ds)
def z3N:G->M Out:=
 (Z0 (sRet (eFn 1 z4z (z8 (Y7 [some 1,none] (x9 (e2 fIx .(M) .(w))) (gN 1) .(o) (e2 fIx .(h) .(j))) aNil))) bNil)
def z2a:List D->M D:=λds=>cln (runF 3 z3N ds)
def z2h:G->M Out:=
 (Z0 (sAsg (Z6 fLen (z8 .(M) aNil)) (gN 2)) (Z0 (sIf (cNot (cVal (eFn 3 z2b (z8 .(j) (z8 .(w) (z8 .(w) aNil)))))) .(i) bNil) (Z0 (sAsg (eLst aNil) (gN 3)) (Z0 (sFor (z9z .(j)) (gT 2 (z1b (gN 4) (z1b (gN 5) z67))) (Z0 (sIf (cNot (cVal (eFn 3 z13 (z8 (eVar 5) (z8 .(3) (z8 (Z6 fLen (z8 (eVar 3) aNil)) aNil)))))) .(i) bNil) (Z0 (sIf (λγ=>do let d <- e2 (fEqX false) (eVar 5) (Z6 fLen (z8 (eVar 3) aNil)) γ;asB d) (Z0 (z0E (eM1 k9 (eVar 3) (eVar 4))) bNil) bNil) bNil))) (Z0 (sAsg (Y7 [some 0,some 1,none] (z0k .(w)) (gN 2) .(o) (eTup (z8 (e2 fIx .(10) .(w)) (z8 (eFn 3 z2a (z8 .(h) (z8 .(j) (z8 .(w) aNil)))) aNil)))) (gN 6)) (Z0 (sRet (clE (Z6 (fAll false) (z8 (Y7 [some 6,some 3,none,none] (z9z .(j)) (gT 2 (z1b (gN 2) (z1b (gN 3) z67))) .(o) (e2 (fEqX false) (e2 fIx .(h) .(w)) (e2 fIx .(h) (e2 fIx .(j) (eVar 3))))) aNil)))) bNil))))))
def z3g:List D->M D:=λds=>cln (runF 7 z2h ds)
def z6v:G->M Out:=
 (Z0 (sAsg (e2 fIx (eFn 1 z1Y .(X)) .(3)) (gN 3)) (Z0 (sRet (e2 (fEqX false) (e2 fIx (eVar 3) .(j)) (e2 fIx (eVar 3) .(w)))) bNil))
def z5T:List D->M D:=λds=>cln (runF 4 z6v ds)
def z1S:G->M Out:=
 (Z0 (sIf (cNot (cVal (eFn 2 z3g (z8 .(h) .(11))))) (Z0 (λ_=>bad) bNil) bNil) (Z0 (z1L 2 [some 1,none] (z0k (e2 fAdd (Z6 z5a .(11)) .(6))) (gN 1) .(o) (orE (eM1 z0w .(h) .(j)) (z18 .(h) .(j)))) (Z0 (sRet (eTup (z8 (clE (Z6 z0g (z8 (Y7 [some 0,some 1,none] (orE (x9 .(w)) (z0e .(w))) (gN 2) .(o) (eFn 3 z2a (z8 .(h) (z8 .(j) (z8 .(w) aNil))))) aNil))) (z8 (clE (Z6 z0g (z8 (Y7 [some 0,none] (orE (x9 .(w)) (z0e .(w))) (gN 1) .(o) (e2 fIx .(10) .(j))) aNil))) aNil)))) bNil)))
def z41:List D->M D:=λds=>cln (runF 3 z1S ds)
def z1q:G->M Out:=
 (Z0 (sAsg (e2 z2G .(j) .(w)) (gN 4)) (Z0 (sAsg (Z6 fLen .(X)) (gN 5)) (Z0 (z0E (eM1 k9 .(h) (eIf (cVal (eIsi "str" (eVar 3))) (eTup (z8 (λ_=>pure (.str "mark")) (z8 (eVar 3) aNil))) (eTup (z8 (λ_=>pure (.str "step")) (z8 (e2 z2G .(j) (eVar 3)) aNil)))))) (Z0 (z0E (eM1 k9 .(h) (eTup (z8 (λ_=>pure (.str "and")) (z8 (eVar 4) .(Y)))))) (Z0 (z0E (eM1 k9 .(h) (eTup (z8 (λ_=>pure (.str "not")) .(Y))))) (Z0 (z0E (eM1 k9 .(h) (eTup (z8 (λ_=>pure (.str "and")) (z8 (eVar 4) (z8 (e2 fAdd (eVar 5) .(B)) aNil)))))) (Z0 (sRet (eTup (z8 (e2 fAdd (eVar 5) .(6)) (z8 (e2 fAdd (eVar 5) (λ_=>pure (.int 3))) aNil)))) bNil)))))))
def z3j:List D->M D:=λds=>cln (runF 6 z1q ds)
def z0Q:G->M Out:=
 (Z0 (sAsg (eFn 1 z1Y .(X)) (gT 2 (z1b (gN 2) (z1b (gN 3) z67)))) (Z0 (sAsg (eFn 1 z0U .(X)) (gN 4)) (Z0 (sAsg (eLst (z8 (eTup (z8 (λ_=>pure (.str "yes")) aNil)) aNil)) (gN 5)) (Z0 (sAsg (z7e .(3) .(3)) (gN 6)) (Z0 (sFor (x9 (eVar 3)) (gN 7) (Z0 (sAsg (eVar 7) (gT 2 (z1b (gN 8) (z1b (gN 9) z67)))) (Z0 (sAsg (eFn 4 z3j (z8 (eVar 5) (z8 (eVar 6) (z8 (eVar 8) (z8 (eVar 9) aNil))))) (gT 2 (z1b (gN 10) (z1b (gN 11) z67)))) (Z0 (sAsg (eFn 3 z4p (z8 .(h) (z8 (eVar 4) (z8 (eVar 7) aNil)))) (gN 12)) (Z0 (sFor (iDic (eVar 12)) (gN 13) (Z0 (sIf (cOr (λγ=>do let d <- e2 (fInD true) (eVar 13) (eVar 4) γ;asB d) (λγ=>do let d <- e2 (fEqX false) (eVar 13) (eVar 8) γ;asB d)) (Z0 (sAsg (eIf (cVal (eFn 4 z3A (z8 .(h) (z8 (eVar 4) (z8 (eVar 13) (z8 (eVar 9) aNil)))))) (eVar 10) (eVar 11)) (gDx (eVar 6) (eVar 13))) bNil) bNil) bNil)) (Z0 (sAsg (eVar 12) (gN 4)) bNil)))))) (Z0 (sRet (Z6 z0g (z8 (z35 (eVar 5) z5g (z4R (e2 fAdd (e2 z2G (eVar 6) (orE (eM1 z0w .(w) (e2 fIx .(w) .(j))) (z18 .(w) (e2 fIx .(w) .(j))))) .(6)))) aNil))) bNil))))))
def z2c:List D->M D:=λds=>cln (runF 14 z0Q ds)
def z1U:G->M Out:=
 (Z0 (sIf (noE (cVal (eFn 3 z5T (z8 .(h) (z8 .(j) (z8 .(w) aNil)))))) (Z0 (z7c "AreAlike" (z8 (λ_=>pure (.str "alike standings are parted by no saying")) aNil)) bNil) bNil) (Z0 (noE (sRet (eFn 2 z2c (z8 .(h) .(11))))) bNil))
def z3E:List D->M D:=runF 3 z1U
def z24:G->M Out:=
 (Z0 (z1L 1 [none] (z0e .(h)) (gN 0) (λγ=>do let d <- e2 fGe .(h) (e2 fPow (λ_=>pure (.int 10)) (λ_=>pure (.int 18))) γ;asB d) .(h)) (Z0 (sRet (eLst (z8 .(j) (z8 (Y7 [none] (z0e .(h)) (gN 0) (λγ=>do let d <- e2 fLt .(h) (e2 fPow (λ_=>pure (.int 10)) (λ_=>pure (.int 18))) γ;asB d) .(h)) (z8 (λ_=>pure (.int 5)) (z8 .(3) aNil)))))) bNil))
def z38:List D->M D:=runF 2 z24
def z1s:G->M Out:=
 (Z0 (sIf (λγ=>do let d <- e2 fGt (Z6 fLen (z8 .(M) aNil)) .(3) γ;asB d) (Z0 (sAsg (e2 fIx .(M) .(3)) (gN 2)) (Z0 (sAsg (e2 fDiv .(w) .(j)) (gIx .(M) .(3))) (Z0 (sIf (λγ=>do let d <- e2 (fEq false) (e2 fDiv .(w) .(j)) .(3) γ;asB d) (Z0 (z0E (eM1 z5I .(M) .(3))) bNil) bNil) (Z0 (sRet (e2 fMod .(w) .(j))) bNil)))) bNil) (Z0 (sAsg (e2 fAdd (e2 fIx .(h) (λ_=>pure (.int 3))) .(6)) (gIx .(h) (λ_=>pure (.int 3)))) (Z0 (sAsg .(3) (gN 2)) (Z0 (sIf (λγ=>do let d <- e2 fGt (Z6 fLen (z8 .(10) aNil)) .(3) γ;asB d) (Z0 (sAsg (e2 fIx .(10) (e2 fMod (e2 fIx .(h) (λ_=>pure (.int 3))) (Z6 fLen (z8 .(10) aNil)))) (gN 2)) bNil) bNil) (Z0 (sAsg (e2 z51 (e2 fMod .(w) (λ_=>pure (.int 2147483629))) (e2 fAdd (e2 z51 (e2 fIx .(h) (λ_=>pure (.int 3))) (e2 fIx .(h) (λ_=>pure (.int 3)))) .(6))) (gN 2)) (Z0 (sAsg (e2 fMod (e2 fAdd (e2 fAdd (e2 z51 (e2 fIx .(h) .(B)) (λ_=>pure (.int 48271))) .(w)) (e2 z51 (λ_=>pure (.int 97)) (e2 fIx .(h) (λ_=>pure (.int 3))))) (λ_=>pure (.int 2147483647))) (gIx .(h) .(B))) (Z0 (sRet (e2 fMod (e2 fDiv (e2 fMod (e2 fPow (e2 fIx .(h) .(B)) (λ_=>pure (.int 5))) (λ_=>pure (.int 2147483629))) (λ_=>pure (.int 64))) .(j))) bNil)))))))
def Z8:List D->M D:=runF 3 z1s
def z1y:G->M Out:=
 (Z0 (sAsg (λ_=>pure (.str "abcdefghijklmnopqrstuvwxyz")) (gN 3)) (Z0 (sAsg .(j) (gN 4)) (Z0 (sFor (z0k (eFn 2 Z8 (z8 .(h) (z8 (λ_=>pure (.int 4)) aNil)))) (gN 5) (Z0 (sAsg (e2 fAdd (eVar 4) (e2 fIx (eVar 3) (eFn 2 Z8 (z8 .(h) (z8 (λ_=>pure (.int 26)) aNil))))) (gN 4)) bNil)) (Z0 (sAsg (eFn 2 Z8 (z8 .(h) (z8 (λ_=>pure (.int 26)) aNil))) (gN 6)) (Z0 (sAsg .(p) (gN 7)) (Z0 (sFor (z0k (λ_=>pure (.int 26))) (gN 5) (Z0 (sAsg (e2 fAdd (eVar 4) (e2 fIx (eVar 3) (e2 fMod (e2 fAdd (eVar 6) (eVar 5)) (λ_=>pure (.int 26))))) (gN 8)) (Z0 (sIf (cAnd (λγ=>do let d <- e2 (fIn true) (eVar 8) (eVar 7) γ;asB d) (λγ=>do let d <- e2 (fIn true) (eVar 8) .(w) γ;asB d)) (Z0 (sRet (eVar 8)) bNil) bNil) bNil))) (Z0 (sRet (e2 fAdd (eVar 4) (λ_=>pure (.str "x")))) bNil)))))))
def z3c:List D->M D:=λds=>cln (runF 9 z1y ds)
def z0H:G->M Out:=
 (Z0 (sRet (eAnd (eIsi "int" .(h)) (eAnd (eNot (eIsi "bool" .(h))) (e3 fLe fLt .(j) .(h) .(w))))) bNil)
def x6:List D->M D:=λds=>cln (runF 3 z0H ds)
def z0V:G->M Out:=
 (Z0 (sRet (eAnd (eIsi "tuple" .(h)) (e3 fLe fLe .(j) (Z6 fLen .(X)) .(w)))) bNil)
def Z9:List D->M D:=λds=>cln (runF 3 z0V ds)
def z0L:G->M Out:=
 (Z0 (sIf (cNot (cVal (eFn 3 Z9 (z8 .(h) (z8 .(3) .(11)))))) .(i) bNil) (Z0 (sFor (z0k (Z6 fLen .(X))) (gN 2) (Z0 (sIf (cOr (cNot (cVal (eFn 3 x6 (z8 (e2 fIx .(h) .(w)) (z8 .(3) .(11)))))) (cAnd (λγ=>do let d <- e2 fGt .(w) .(3) γ;asB d) (λγ=>do let d <- e2 fGe (e2 fIx .(h) (e2 fSub .(w) .(6))) (e2 fIx .(h) .(w)) γ;asB d))) .(i) bNil) bNil)) (Z0 (sRet (λ_=>pure (.bl true))) bNil)))
def z1r:List D->M D:=λds=>cln (runF 3 z0L ds)
def w8:G->M Out:=
 (Z0 (sAsg .(p) (gN 1)) (Z0 (sIf (cOr (cNot (cVal (eIsi "str" .(h)))) (cOr (λγ=>do let d <- e2 fLt (Z6 fLen .(X)) .(6) γ;asB d) (cOr (λγ=>do let d <- e2 fGt (Z6 fLen .(X)) (λ_=>pure (.int 8)) γ;asB d) (λγ=>do let d <- e2 (fIn false) .(h) .(j) γ;asB d)))) .(i) bNil) (Z0 (sRet (clE (e2 (fEqX false) (Y7 [none] (iStr .(h)) (gN 0) (λγ=>do let d <- e2 (fInT true) .(h) (λ_=>pure (.str "abcdefghijklmnopqrstuvwxyz")) γ;asB d) .(h)) (eLst aNil)))) bNil)))
def z0b:List D->M D:=λds=>cln (runF 2 w8 ds)
def z1K:G->M Out:=
 (Z0 (sRet (eAnd (eIsi "bool" .(h)) (e2 (fEqX false) .(h) .(j)))) bNil)
def z1J:List D->M D:=λds=>cln (runF 2 z1K ds)
def z0y:G->M Out:=
 (Z0 (sAsg (Y7 [none] (x9 .(M)) (gN 0) .(o) .(3)) (gN 1)) (Z0 (sFor (z0k (Z6 fLen .(11))) (gN 2) (Z0 (sAsg (eLst aNil) (gN 3)) (Z0 (sFor (z0k (Z6 fLen .(11))) (gN 4) (Z0 (sAsg (clE (Z6 z0g (z8 (Z6 z03 (z8 (Z6 z1e (z8 (Y7 [some 1,none] (x9 (e2 fIx .(M) (eVar 4))) (gN 1) .(o) (e2 fIx .(h) .(j))) aNil)) aNil)) aNil))) (gN 5)) (Z0 (z0E (eM1 k9 (eVar 3) (eTup (z8 (e2 fIx .(j) (eVar 4)) (z8 (e2 fIx .(10) (eVar 4)) .(Y)))))) bNil))) (Z0 (sAsg (Y7 [some 3,none] (z0e (eVar 3)) (gN 1) .(o) (eM1 z4F .(h) .(j))) (gN 1)) bNil)))) (Z0 (sRet .(j)) bNil)))
def z2y:List D->M D:=λds=>cln (runF 6 z0y ds)
def z0j:G->M Out:=
 (Z0 (sAsg (Z6 z03 (z8 (Z6 z1e .(X)) aNil)) (gN 1)) (Z0 (sRet (clE (Z6 z0g (z8 (Y7 [some 1,none] (z0e .(h)) (gN 1) .(o) (orE (eM1 z0w .(h) .(j)) (z18 .(h) .(j)))) aNil)))) bNil))
def z0F:List D->M D:=λds=>cln (runF 2 z0j ds)
def z1h:G->M Out:=
 (Z0 (sAsg (Z6 fLen (z8 .(M) aNil)) (gN 2)) (Z0 (sIf (cNot (cVal (eFn 3 Z9 (z8 .(j) (z8 .(w) (z8 .(w) aNil)))))) .(i) bNil) (Z0 (sAsg .(3) (gN 3)) (Z0 (sFor (x9 .(j)) (gN 4) (Z0 (sIf (cNot (cVal (eFn 3 x6 (z8 (eVar 4) (z8 .(3) (z8 (e2 fAdd (eVar 3) .(6)) aNil)))))) .(i) bNil) (Z0 (sAsg (Z6 zj9 (z8 (eVar 3) (z8 (e2 fAdd (eVar 4) .(6)) aNil))) (gN 3)) bNil))) (Z0 (sFor (z0k .(w)) (gN 4) (Z0 (sAsg (orE (eM1 z0w .(j) (e2 fIx .(j) (eVar 4))) (z18 .(j) (e2 fIx .(j) (eVar 4)))) (gN 5)) (Z0 (sIf (λγ=>do let d <- e2 (fEqX true) (e2 fIx .(10) (eVar 4)) (e2 fIx .(10) (eVar 5)) γ;asB d) .(i) bNil) (Z0 (sAsg (Z6 z03 (z8 (Z6 z1e (z8 (Y7 [some 1,none] (x9 (e2 fIx .(M) (eVar 4))) (gN 1) .(o) (e2 fIx .(h) .(j))) aNil)) aNil)) (gN 6)) (Z0 (sIf (clT (λγ=>do let d <- e2 (fEqX true) (eVar 6) (Z6 z03 (z8 (Z6 z1e (z8 (Y7 [some 1,none] (x9 (e2 fIx .(M) (eVar 5))) (gN 1) .(o) (e2 fIx .(h) .(j))) aNil)) aNil)) γ;asB d)) .(i) bNil) bNil))))) (Z0 (sRet (λ_=>pure (.bl true))) bNil))))))
def z26:List D->M D:=λds=>cln (runF 7 z1h ds)
def z0J:G->M Out:=
 (Z0 (sAsg (eLst aNil) (gN 4)) (Z0 (sFor (z0k (Z6 fLen .(11))) (gN 5) (Z0 (sIf (cAnd (cVal (eIsi "str" (eVar 3))) (λγ=>do let d <- e2 (fIn false) (eVar 3) (e2 fIx .(10) (eVar 5)) γ;asB d)) (Z0 (z0E (eM1 k9 (eVar 4) (eVar 5))) bNil) bNil) (Z0 (sIf (cAnd (cNot (cVal (eIsi "str" (eVar 3)))) (clT (λγ=>do let d <- e2 (fIn false) (eVar 3) (Y7 [some 1,none] (x9 (e2 fIx .(M) (eVar 5))) (gN 1) .(o) (e2 fIx .(h) .(j))) γ;asB d))) (Z0 (z0E (eM1 k9 (eVar 4) (eVar 5))) bNil) bNil) bNil))) (Z0 (z1L 6 [some 1,some 2,none] (z0k (Z6 fLen .(11))) (gN 2) (λγ=>do let d <- e2 (fEqX false) (e2 fIx .(h) .(w)) .(j) γ;asB d) .(w)) (Z0 (z1L 7 [some 4,none] (z0e (eVar 6)) (gN 1) (λγ=>do let d <- e2 (fIn false) .(j) .(h) γ;asB d) .(j)) (Z0 (z1L 8 [some 4,none] (z0e (eVar 6)) (gN 1) (λγ=>do let d <- e2 (fIn true) .(j) .(h) γ;asB d) .(j)) (Z0 (sIf (cOr (λγ=>do let d <- e2 (fEq false) (Z6 fLen (z8 (eVar 7) aNil)) .(3) γ;asB d) (λγ=>do let d <- e2 (fEq false) (Z6 fLen (z8 (eVar 8) aNil)) .(3) γ;asB d)) .(x) bNil) (Z0 (sAsg (Z6 z9w .(11)) (gN 9)) (Z0 (sFor (z0e (eVar 7)) (gN 5) (Z0 (sAsg (e2 fIx (eVar 7) .(3)) (gIx (eVar 9) (eVar 5))) bNil)) (Z0 (sFor (z0e (eVar 8)) (gN 5) (Z0 (sAsg (e2 fIx (eVar 8) .(3)) (gIx (eVar 9) (eVar 5))) bNil)) (Z0 (sRet (eVar 9)) bNil))))))))))
def z0C:List D->M D:=λds=>cln (runF 10 z0J ds)
def z0l:G->M Out:=
 (Z0 (z1L 2 [none] (x9 .(M)) (gN 0) .(o) .(3)) (Z0 (sIf (cNot (cVal (eIsi "tuple" .(j)))) .(x) bNil) (Z0 (sFor (x9 .(j)) (gN 3) (Z0 (sIf (cOr (cNot (cVal (eFn 3 Z9 (z8 (eVar 3) (z8 .(B) (z8 .(B) aNil)))))) (cNot (cVal (eFn 3 x6 (z8 (e2 fIx (eVar 3) .(3)) (z8 .(3) (z8 (Z6 fLen (z8 .(w) aNil)) aNil))))))) .(x) bNil) (Z0 (sIf (cNot (cVal (eFn 1 z0b (z8 (e2 fIx (eVar 3) .(6)) aNil)))) (Z0 (sIf (cOr (cNot (cVal (eFn 3 x6 (z8 (e2 fIx (eVar 3) .(6)) (z8 .(3) (z8 (Z6 fLen (z8 .(w) aNil)) aNil)))))) (λγ=>do let d <- e2 (fEqX true) (e2 fIx .(w) (e2 fIx (eVar 3) .(6))) (e2 fIx (eVar 3) .(6)) γ;asB d)) .(x) bNil) bNil) bNil) (Z0 (sAsg (eFn 4 z0C (z8 .(h) (z8 .(w) (z8 (e2 fIx (eVar 3) .(3)) (z8 (e2 fIx (eVar 3) .(6)) aNil))))) (gN 2)) (Z0 (sIf (λγ=>do let d <- e2 (fIs false) .(w) (λ_=>pure .non) γ;asB d) .(x) bNil) bNil))))) (Z0 (sRet .(w)) bNil))))
def z1o:List D->M D:=λds=>cln (runF 4 z0l ds)
def z02:G->M Out:=
 (Z0 (sIf (cOr (cNot (cVal (eFn 3 Z9 (z8 .(j) (z8 .(B) (z8 .(B) aNil)))))) (cNot (cVal (eFn 2 z26 (z8 .(h) (z8 (e2 fIx .(j) .(3)) aNil)))))) .(i) bNil) (Z0 (sAsg (eFn 2 z1o (z8 .(h) (z8 (e2 fIx .(j) .(6)) aNil))) (gN 2)) (Z0 (sRet (eAnd (e2 (fIs true) .(w) (λ_=>pure .non)) (e2 (fEqX false) (eFn 1 z0F (z8 .(w) aNil)) (e2 fIx .(j) .(3))))) bNil)))
def z0o:List D->M D:=λds=>cln (runF 3 z02 ds)
def z09:G->M Out:=
 (Z0 (sIf (cOr (cNot (cVal (eFn 3 Z9 (z8 .(h) (z8 .(B) (z8 .(B) aNil)))))) (λγ=>do let d <- e2 (fEqX true) .(h) .(j) γ;asB d)) .(i) bNil) (Z0 (sIf (cOr (cNot (cVal (eFn 3 Z9 (z8 .(M) (z8 .(6) (z8 (λ_=>pure (.int 40)) aNil)))))) (cNot (cVal (eFn 3 Z9 (z8 .(10) (z8 .(6) (z8 (λ_=>pure (.int 40)) aNil))))))) .(i) bNil) (Z0 (sFor (x9 .(M)) (gN 2) (Z0 (sIf (cNot (cVal (eFn 2 z1r (z8 .(w) (z8 (Z6 fLen (z8 .(M) aNil)) aNil))))) .(i) bNil) bNil)) (Z0 (sRet (clE (e2 (fEqX false) (Y7 [none] (x9 .(10)) (gN 0) (cNot (cVal (eIsi "tuple" .(h)))) .(h)) (eLst aNil)))) bNil))))
def z06:List D->M D:=λds=>cln (runF 3 z09 ds)
def J7:G->M Out:=
 (Z0 (sAsg (eLst aNil) (gN 2)) (Z0 (sAsg (eLst aNil) (gN 3)) (Z0 (sFor (z0k (e2 fAdd (Z6 z5a .(11)) .(6))) (gN 4) (Z0 (sAsg (eLst aNil) (gN 5)) (Z0 (sFor (z0k (Z6 fLen .(11))) (gN 6) (Z0 (sIf (λγ=>do let d <- e2 (fEqX false) (e2 fIx .(j) (eVar 6)) (eVar 4) γ;asB d) (Z0 (sAsg (e2 fAdd (eVar 5) (Y7 [some 1,none] (x9 (e2 fIx .(M) (eVar 6))) (gN 1) .(o) (e2 fIx .(h) .(j)))) (gN 5)) bNil) bNil) bNil)) (Z0 (z0E (eM1 k9 .(w) (clE (Z6 z0g (z8 (Z6 z03 (z8 (Z6 z1e .(Y)) aNil)) aNil))))) (Z0 (z0E (eM1 k9 (eVar 3) (e2 fIx .(10) (orE (eM1 z0w .(j) (eVar 4)) (z18 .(j) (eVar 4)))))) bNil))))) (Z0 (sRet (eTup (z8 (Z6 z0g (z8 .(w) aNil)) (z8 (Z6 z0g (z8 (eVar 3) aNil)) aNil)))) bNil))))
def z0G:List D->M D:=λds=>cln (runF 7 J7 ds)
def J2:G->M Out:=
 (Z0 (sIf (cNot (cVal (eFn 3 Z9 (z8 .(j) (z8 .(6) (z8 (λ_=>pure (.int 160)) aNil)))))) .(x) bNil) (Z0 (sAsg (eRng false (Z6 fLen (z8 .(M) aNil))) (gN 2)) (Z0 (sAsg (eLst aNil) (gN 3)) (Z0 (sFor (z0k (Z6 fLen .(11))) (gN 4) (Z0 (sAsg (e2 fIx .(j) (eVar 4)) (gN 5)) (Z0 (sIf (cOr (cNot (cVal (eFn 3 Z9 (z8 (eVar 5) (z8 .(6) (z8 (λ_=>pure (.int 3)) aNil)))))) (cNot (cVal (eIsi "str" (e2 fIx (eVar 5) .(3)))))) .(x) bNil) (Z0 (sIf (cAnd (λγ=>do let d <- e2 (fEq false) (e2 fIx (eVar 5) .(3)) (λ_=>pure (.str "yes")) γ;asB d) (λγ=>do let d <- e2 (fEq false) (Z6 fLen .(Y)) .(6) γ;asB d)) (Z0 (z0E (eM1 k9 (eVar 3) (Y7 [none] (orE (x9 .(w)) (z0e .(w))) (gN 0) .(o) (λ_=>pure (.bl true))))) bNil) (Z0 (sIf (cAnd (λγ=>do let d <- e2 (fEq false) (e2 fIx (eVar 5) .(3)) (λ_=>pure (.str "mark")) γ;asB d) (cAnd (λγ=>do let d <- e2 (fEq false) (Z6 fLen .(Y)) .(B) γ;asB d) (cVal (eFn 1 z0b (z8 (e2 fIx (eVar 5) .(6)) aNil))))) (Z0 (z0E (eM1 k9 (eVar 3) (Y7 [some 5,some 0,none] (orE (x9 .(w)) (z0e .(w))) (gN 2) .(o) (e2 (fIn false) .(10) (e2 fIx (e2 fIx .(j) .(6)) .(w)))))) bNil) (Z0 (sIf (clT (λγ=>do let d <- e2 (fEqX true) (Y7 [some 4,none] (orE (x9 (z35 (eVar 5) (z4R .(6)) z5g)) (z0e (z35 (eVar 5) (z4R .(6)) z5g))) (gN 1) (cNot (cVal (eFn 3 x6 (z8 .(j) (z8 .(3) .(X)))))) .(j)) (eLst aNil) γ;asB d)) .(x) (Z0 (sIf (cAnd (λγ=>do let d <- e2 (fEq false) (e2 fIx (eVar 5) .(3)) (λ_=>pure (.str "not")) γ;asB d) (λγ=>do let d <- e2 (fEq false) (Z6 fLen .(Y)) .(B) γ;asB d)) (Z0 (z0E (eM1 k9 (eVar 3) (Y7 [some 3,some 5,none] (orE (x9 .(w)) (z0e .(w))) (gN 2) .(o) (eNot (e2 fIx (e2 fIx .(h) (e2 fIx .(j) .(6))) .(w)))))) bNil) (Z0 (sIf (cAnd (λγ=>do let d <- e2 (fEq false) (e2 fIx (eVar 5) .(3)) (λ_=>pure (.str "and")) γ;asB d) (λγ=>do let d <- e2 (fEq false) (Z6 fLen .(Y)) (λ_=>pure (.int 3)) γ;asB d)) (Z0 (z0E (eM1 k9 (eVar 3) (Y7 [some 3,some 5,none] (orE (x9 .(w)) (z0e .(w))) (gN 2) .(o) (eAnd (e2 fIx (e2 fIx .(h) (e2 fIx .(j) .(6))) .(w)) (e2 fIx (e2 fIx .(h) (e2 fIx .(j) .(B))) .(w)))))) bNil) (Z0 (sIf (cAnd (λγ=>do let d <- e2 (fEq false) (e2 fIx (eVar 5) .(3)) (λ_=>pure (.str "step")) γ;asB d) (λγ=>do let d <- e2 (fEq false) (Z6 fLen .(Y)) .(B) γ;asB d)) (Z0 (z0E (eM1 k9 (eVar 3) (Y7 [some 0,some 3,some 5,none] (orE (x9 .(w)) (z0e .(w))) (gN 3) .(o) (clE (e2 (fIn false) (λ_=>pure (.bl true)) (Y7 [some 1,some 2,none] (orE (x9 (e2 fIx .(M) (eVar 3))) (z0e (e2 fIx .(M) (eVar 3)))) (gN 2) .(o) (e2 fIx (e2 fIx .(h) (e2 fIx .(j) .(6))) .(w)))))))) bNil) .(x)) bNil)) bNil)) bNil)) bNil)) bNil)) bNil)))) (Z0 (sRet (e2 fIx (eVar 3) (eNeg .(6)))) bNil)))))
def z07:List D->M D:=λds=>cln (runF 6 J2 ds)
def z1f:G->M Out:=
 (Z0 (sAsg (e2 (fEq false) (eFn 2 Z8 (z8 .(h) (z8 (λ_=>pure (.int 6)) aNil))) .(3)) (gN 3)) (Z0 (sAsg (e2 (fEq false) (eFn 2 Z8 (z8 .(h) (z8 .(B) aNil))) .(3)) (gN 4)) (Z0 (sAsg (e2 fAdd .(6) (eFn 2 Z8 (z8 .(h) .(11)))) (gN 5)) (Z0 (sAsg (e2 z51 (eFn 2 Z8 (z8 .(h) (z8 .(B) aNil))) (eFn 2 Z8 (z8 .(h) .(11)))) (gN 6)) (Z0 (sAsg (clE (e2 fIx (eLst (z8 .(j) (z8 (e2 fSub .(3) .(6)) (z8 (eFn 2 Z8 (z8 .(h) .(11))) aNil)))) (eFn 2 Z8 (z8 .(h) (z8 (λ_=>pure (.int 3)) aNil))))) (gN 7)) (Z0 (z1L 8 [none] (z0k .(j)) (gN 0) .(o) (eTup aNil)) (Z0 (z1L 9 [none] (z0k .(j)) (gN 0) .(o) (eTup aNil)) (Z0 (sFor (z0k .(j)) (gN 10) (Z0 (sAsg (e2 fMod (e2 fAdd (eVar 10) (eVar 6)) .(j)) (gN 11)) (Z0 (sIf (cOr (λγ=>do let d <- e2 (fEqX false) (eVar 7) .(j) γ;asB d) (λγ=>do let d <- e2 (fEqX false) (eVar 7) (eVar 10) γ;asB d)) (Z0 (sAsg (eTup (z8 .(w) aNil)) (gIx (eVar 9) (eVar 11))) bNil) bNil) (Z0 .(H) bNil)))) (Z0 (sRet (eTup (z8 (Z6 z0g (z8 (eVar 8) aNil)) (z8 (Z6 z0g (z8 (eVar 9) aNil)) aNil)))) bNil)))))))))
def z2f:List D->M D:=λds=>cln (runF 12 z1f ds)
def z0I:G->M Out:=
 (Z0 (sAsg (λ_=>pure .non) (gN 4)) (Z0 (z7Y 3 4 z3E (z8 .(h) (z8 .(j) (z8 .(w) aNil))) h_AreAlike (Z0 (sAsg (λ_=>pure .non) (gN 4)) bNil)) (Z0 (sIf (λγ=>do let d <- e2 (fEqX false) (e2 fIx (eVar 3) .(j)) (e2 fIx (eVar 3) .(w)) γ;asB d) (Z0 (sRet (e2 (fIs false) (eVar 4) (λ_=>pure .non))) bNil) bNil) (Z0 (sAsg (eFn 2 z07 (z8 .(h) (z8 (eVar 4) aNil))) (gN 5)) (Z0 (sRet (eAnd (e2 (fIs true) (eVar 5) (λ_=>pure .non)) (eAnd (e2 fIx (eVar 5) .(j)) (eNot (e2 fIx (eVar 5) .(w)))))) bNil)))))
def z27:List D->M D:=λds=>cln (runF 6 z0I ds)
def zl6:G->M Out:=
 (Z0 (sAsg (eFn 1 z38 .(X)) (gN 1)) (Z0 (sAsg (eFn 3 z3c (z8 .(j) (z8 (λ_=>pure (.str "")) (z8 (eLst aNil) aNil)))) (gN 2)) (Z0 (sAsg (e2 fIx (eLst (z8 (λ_=>pure (.int 40)) (z8 (e2 fAdd .(B) (eFn 2 Z8 (z8 .(j) (z8 (λ_=>pure (.int 39)) aNil)))) aNil))) (eFn 2 Z8 (z8 .(j) (z8 .(B) aNil)))) (gN 3)) (Z0 (sAsg (eFn 3 z2f (z8 .(j) (z8 (eVar 3) (z8 .(w) aNil)))) (gN 4)) (Z0 (sAsg (eFn 1 z2y (z8 (eVar 4) aNil)) (gN 5)) (Z0 (sAsg (eFn 1 z0F .(Y)) (gN 6)) (Z0 (sAsg (eFn 1 z1Y (z8 (eVar 4) aNil)) (gN 7)) (Z0 (sIf (cOr (cNot (cVal (eFn 2 z0o (z8 (eVar 4) (z8 (eVar 7) aNil))))) (λγ=>do let d <- e2 (fEqX true) (e2 fIx (eVar 7) .(3)) (eVar 6) γ;asB d)) .(i) bNil) (Z0 (sIf (cNot (cVal (eFn 2 z06 (z8 (eFn 2 z41 (z8 (eVar 4) (z8 (eVar 6) aNil))) (z8 (eFn 2 z0G (z8 (eVar 4) (z8 (eVar 6) aNil))) aNil))))) .(i) bNil) (Z0 (sAsg (eFn 2 Z8 (z8 .(j) (z8 (eVar 3) aNil))) (gN 8)) (Z0 (sAsg (eFn 2 Z8 (z8 .(j) (z8 (eVar 3) aNil))) (gN 9)) (Z0 (sIf (cNot (cVal (eFn 2 z1J (z8 (eFn 3 z5T (z8 (eVar 4) (z8 (eVar 8) (z8 (eVar 9) aNil)))) (z8 (e2 (fEqX false) (e2 fIx (eVar 5) (eVar 8)) (e2 fIx (eVar 5) (eVar 9))) aNil))))) .(i) bNil) (Z0 (sIf (λγ=>do let d <- e2 (fEqX true) (eFn 2 z07 (z8 (eVar 4) (z8 (eFn 2 z2c (z8 (eVar 4) (z8 (eVar 8) aNil))) aNil))) (Y7 [some 5,some 8,none] (z0e (eVar 5)) (gN 2) .(o) (e2 (fEqX false) .(w) (e2 fIx .(h) .(j)))) γ;asB d) .(i) bNil) (Z0 (sRet (eFn 4 z27 (z8 (eVar 4) (z8 (eVar 8) (z8 (eVar 9) .(Y)))))) bNil))))))))))))))
def m_law:List D->M D:=runF 10 zl6
section
structure SS(K:K1)(mg:Str->Option Value) where
 Uzz:∀n,Mx K mg n
 Uaa:DefAt K "is_number" (top 5)
 Uab:mg "bool" = none
 Uac:mg "int" = none
 Uad:mg "isinstance" = none
 Uae:DefAt K "is_number_from" (top 6)
 Uaf:DefAt K "is_tuple" (top 7)
 Uag:mg "tuple" = none
 Uah:DefAt K "is_tuple_of" (top 8)
 Uai:mg "len" = none
 Uaj:DefAt K "set_of" (top 10)
 Uak:mg "set" = none
 Ual:mg "sorted" = none
 Uam:DefAt K "bears" (top 12)
 Uan:DefAt K "first_blocks" (top 15)
 Uao:mg "range" = none
 Uap:DefAt K "belongs" (top 18)
 Uaq:mg "any" = none
 Uar:mg "str" = none
 Uas:DefAt K "parted" (top 17)
 Uat:DefAt K "next_cut" (top 16)
 Uau:DefAt K "cut_up" (top 19)
 Uav:DefAt K "row_of" (top 20)
 Uaw:mg "enumerate" = none
 Uax:DefAt K "classes" (top 14)
 Uay:DefAt K "led_to" (top 22)
 Uaz:DefAt K "is_steady" (top 21)
 Uba:mg "all" = none
 Ubb:DefAt K "alike" (top 23)
 Ubc:DefAt K "quotient" (top 24)
 Ubd:mg "max" = none
 Ube:DefAt K "write_cut" (top 27)
 Ubf:DefAt K "saying_of" (top 26)
 Ubg:DefAt K "parting" (top 28)
 Ubh:Addr
 Ubi:List Value
 Ubj:K3 K mg "AreAlike" Ubh Ubi
 Ubk:DefAt K "_law_pool" (top 30)
 Ubl:DefAt K "_law_draw" (top 31)
 Ubm:DefAt K "_law_name" (top 32)
 Ubn:DefAt K "_law_number" (top 33)
 Ubo:DefAt K "_law_tuple" (top 34)
 Ubp:DefAt K "_law_good_set" (top 35)
 Ubq:DefAt K "_law_good_name" (top 36)
 Ubr:DefAt K "_law_truth" (top 37)
 Ubs:DefAt K "_law_homes" (top 38)
 Ubt:DefAt K "_law_numbered" (top 39)
 Ubu:DefAt K "_law_steady" (top 40)
 Ubv:DefAt K "_law_halved" (top 41)
 Ubw:mg "list" = none
 Ubx:DefAt K "_law_cuts_end" (top 42)
 Uby:DefAt K "_law_classes_right" (top 43)
 Ubz:DefAt K "_law_same_machine" (top 44)
 Uca:DefAt K "_law_quotient_of" (top 45)
 Ucb:DefAt K "_law_plain_truths" (top 46)
 Ucc:DefAt K "_law_chains" (top 47)
 Ucd:DefAt K "_law_parted" (top 48)
 Uce:Catch K Ubh h_AreAlike
variable(ZS:SS K mg)
include ZS
theorem z7l:Fn P w K mg base 1 "is_number" 1 z3l:=
 dfC ["thing"] z1t ZS.Uaa (ZS.Uzz _) .(2) rfl .(l) λhcd hr nd=>
  (z7 (j6 (z1n (z1v rfl ZS.Uad rfl ZS.Uac .(2) .(0) (z0 0)) (z34 (z6d (z1v rfl ZS.Uad rfl ZS.Uab .(2) .(0) (z0 0)))))) Z3)
theorem z45:Fn P w K mg base 2 "is_number_from" 3 z13:=
 dfC ["thing","least","most"] z0c ZS.Uae (ZS.Uzz _) .(2) rfl .(g) λhcd hr nd=>
  (z7 (j6 (z1n (Z4 (z7l ZS) .(E) rfl (z6 (z0 0) Z1)) (z34 (zo1 z87 z87 (z0 1) (z0 0) (z0 2))))) Z3)
theorem z7O:Fn P w K mg base 1 "is_tuple" 1 z46:=
 dfC ["thing"] z1X ZS.Uaf (ZS.Uzz _) .(2) rfl .(l) λhcd hr nd=>
  (z7 (j6 (z1v rfl ZS.Uad rfl ZS.Uag .(2) .(0) (z0 0))) Z3)
theorem z5j:Fn P w K mg base 2 "is_tuple_of" 3 z2b:=
 dfC ["thing","least","most"] z0B ZS.Uah (ZS.Uzz _) .(2) rfl .(g) λhcd hr nd=>
  (z7 (j6 (z1n (Z4 (z7O ZS) .(E) rfl (z6 (z0 0) Z1)) (z34 (zo1 z87 z87 (z0 1) (Y3 rfl ZS.Uai (z6 (z0 0) Z1)) (z0 2))))) Z3)
theorem ze7:Fn P w K mg base 1 "set_of" 1 z4z:=
 dfC ["standings"] z4t ZS.Uaj (ZS.Uzz _) .(2) rfl .(l) λhcd hr nd=>
  (z7 (j6 (z1p (z08 rfl ZS.Uag (z6 (z1j rfl rfl ZS.Ual (z6 (z2P rfl rfl ZS.Uak (z6 (z0 0) Z1)) Z1)) Z1)))) Z3)
theorem zu3:Fn P w K mg base 1 "bears" 3 z6g:=
 dfC ["machine","standing","name"] z65 ZS.Uam (ZS.Uzz _) .(2) rfl .(g) λhcd hr nd=>
  (z7 (j6 (zR0 (se_c z2A (z0 2) y4) (z34 (se_c z7r (z0 2) (Z5 .(r) (z0 1)))))) Z3)
theorem z2B:Fn P w K mg base 1 "first_blocks" 1 z0U:=
 dfC ["machine"] z0r ZS.Uan (ZS.Uzz _) .(2) rfl .(l) λhcd hr nd=>
  (z7 (j6 (z8B Z2 (zC4 rfl rfl ZS.Uag rfl ZS.Uao (Y3 rfl ZS.Uai (z6 .(r) Z1))))) Z3)
theorem z5D:Fn P w K mg base 2 "belongs" 4 z3A:=
 dfC ["machine","blocks","standing","by"] z3G ZS.Uap (ZS.Uzz _) .(2) rfl .(T) λhcd hr nd=>
  (z7 (s_if (J0 (z1v rfl ZS.Uad rfl ZS.Uar .(2) .(0) (z0 3))) (z7 (j6 (Z4 (zu3 ZS) .(E) rfl (z6 (z0 0) (z6 (z0 2) (z6 (z0 3) Z1))))) Z3) Z3) (z7 (j6 (z1p (zY8 rfl rfl ZS.Uaq (z6 (w6 (N':=["blocks","by","other"]) (cap:=[some 1,some 3,none]) rfl .(5) (x5 (Z5 .(r) (z0 2))) (λ_ _ _ _=>(Z7 2 (show (["blocks","by","other"]:List Str).Nodup by decide +kernel))) .(z) (λ_ _ _ _=>(se_c z7r (z0 2) (z28 (z4l hr) (z0 0) (z0 1))))) Z1)))) Z3))
theorem z77:Fn P w K mg base 3 "parted" 4 z4x:=
 dfC ["machine","blocks","block","by","yes","no"] z3p ZS.Uas (ZS.Uzz _) .(2) rfl .(T) λhcd hr nd=>
  (z7 (j7 4 nd (z1p (z08 rfl ZS.Uag (z6 (w6 (N':=["machine","blocks","by","standing"]) (cap:=[some 0,some 1,some 3,none]) rfl .(5) (x5 (z0 2)) (λ_ _ _ _=>(Z7 3 (show (["machine","blocks","by","standing"]:List Str).Nodup by decide +kernel))) (λ_ _ _ _=>(z1x (J0 (Z4 (z5D ZS) .(E) rfl (z6 (z0 0) (z6 (z0 1) (z6 (z0 3) (z6 (z0 2) Z1)))))))) (λ_ _ _ _=>(z0 3))) Z1)))) (z7 (j7 5 nd (z1p (z08 rfl ZS.Uag (z6 (w6 (N':=["yes","standing"]) (cap:=[some 4,none]) rfl .(5) (x5 (z0 2)) (λ_ _ _ _=>(Z7 1 (show (["yes","standing"]:List Str).Nodup by decide +kernel))) (λ_ _ _ _=>(z1x (sc_c z4v (z0 1) (z0 0)))) (λ_ _ _ _=>(z0 1))) Z1)))) (z7 (j6 (w6 (N':=["part"]) (cap:=[none]) rfl .(5) (x5 (z0z (z6 (z0 4) (z6 (z0 5) Z1)))) (λ_ _ _ _=>(Z7 0 (show (["part"]:List Str).Nodup by decide +kernel))) (λ_ _ _ _=>(z1x (sc_c z9l (Y3 rfl ZS.Uai (z6 (z0 0) Z1)) Z2))) (λ_ _ _ _=>(z0 0)))) Z3)))
theorem z53:Fn P w K mg base 4 "next_cut" 2 z2U:=
 dfC ["machine","blocks","least","block","names","by"] z1i ZS.Uat (ZS.Uzz _) .(2) rfl .(e) λhcd hr nd=>
  (z7 (z1A K0x rfl (zf0 (z0 1)) (k7 2 nd) (z7 (j7 3 nd (z28 (z4l hr) (z0 1) (z0 2))) (z7 (zK9 4 (N':=["machine","standing","name"]) (cap:=[some 0,none,none]) rfl .(5) (x5 (z0 3)) (λ_ _ _ _=>(Z7 1 (show (["machine","standing","name"]:List Str).Nodup by decide +kernel))) (λ_ _ _ _=>(x5 (Z5 .(r) (z0 1)))) (λ_ _ _ _=>(Z7 2 (show (["machine","standing","name"]:List Str).Nodup by decide +kernel))) .(z) (λ_ _ _ _=>(z0 2)) nd) (z7 (z1A K0x rfl (x8 (z0K (zM8 (z0 4) (zu8 rfl (z0 1) Z1)))) (k7 5 nd) (z7 (s_if (sc_c z2A (Y3 rfl ZS.Uai (z6 (Z4 (z77 ZS) .(E) rfl (z6 (z0 0) (z6 (z0 1) (z6 (z0 3) (z6 (z0 5) Z1))))) Z1)) Z2) (z7 (j6 (z0z (z6 (z0 2) (z6 (z0 5) Z1)))) Z3) Z3) Z3)) Z3)))) (z7 (j6 z0Z) Z3))
theorem z73:Fn P w K mg base 4 "cut_up" 3 z4p:=
 dfC ["machine","blocks","cut","least","by","told","part"] z2O ZS.Uau (ZS.Uzz _) .(2) rfl .(g) λhcd hr nd=>
  (z7 (z3B (z0 2) (z74 rfl (z0T (k7 3 nd) (z0T (k7 4 nd) z4U)))) (z7 (zA5 5 (N':=["blocks","one"]) (cap:=[some 1,none]) rfl .(5) (zf0 (z0 1)) (λ_ _ _ _=>(Z7 1 (show (["blocks","one"]:List Str).Nodup by decide +kernel))) .(z) (λ_ _ _ _=>(z0 1)) (λ_ _ _ _=>(z28 (z4l hr) (z0 0) (z0 1))) nd) (z7 (z1A K0x rfl (x8 (Z4 (z77 ZS) .(E) rfl (z6 (z0 0) (z6 (z0 1) (z6 (z28 (z4l hr) (z0 1) (z0 3)) (z6 (z0 4) Z1)))))) (k7 6 nd) (z7 (z3B (z0 6) (zT9 (z4l hr) (z0 5) (Z5 (z0 6) Z2))) Z3)) (z7 (j6 (z0 5)) Z3))))
theorem zg0:Fn P w K mg base 1 "row_of" 1 z6s:=
 dfC ["blocks","homes"] z3r ZS.Uav (ZS.Uzz _) .(2) rfl .(l) λhcd hr nd=>
  (z7 (j7 1 nd (zk8 (N':=["blocks","home","least","standing"]) (cap:=[some 0,none,none,none]) rfl .(5) (zu9 rfl rfl ZS.Uaw (z5z rfl rfl ZS.Ual (z6 (z0 0) Z1))) (λ_ _ _ _=>(zj0 rfl (z3M (Z7 1 (show (["blocks","home","least","standing"]:List Str).Nodup by decide +kernel)) (z3M (Z7 2 (show (["blocks","home","least","standing"]:List Str).Nodup by decide +kernel)) z97)))) (λ_ _ _ _=>(x5 (z28 (z4l hr) (z0 0) (z0 2)))) (λ_ _ _ _=>(Z7 3 (show (["blocks","home","least","standing"]:List Str).Nodup by decide +kernel))) .(z) (λ_ _ _ _=>(z0 3)) (λ_ _ _ _=>(z0 1)))) (z7 (j6 (z1p (z08 rfl ZS.Uag (z6 (w6 (N':=["homes","standing"]) (cap:=[some 1,none]) rfl .(5) (x8 (z5z rfl rfl ZS.Ual (z6 (z0 1) Z1))) (λ_ _ _ _=>(Z7 1 (show (["homes","standing"]:List Str).Nodup by decide +kernel))) .(z) (λ_ _ _ _=>(z28 (z4l hr) (z0 0) (z0 1)))) Z1)))) Z3))
theorem z3U:Fn P w K mg base 5 "classes" 1 z1Y:=
 dfC ["machine","blocks","cuts","cut"] z1T ZS.Uax (ZS.Uzz _) .(2) rfl .(l) λhcd hr nd=>
  (z7 (j7 1 nd (Z4 (z2B ZS) .(E) rfl (z6 (z0 0) Z1))) (z7 (j7 2 nd (z0K Z1)) (z7 (j7 3 nd (Z4 (z53 ZS) .(E) rfl (z6 (z0 0) (z6 (z0 1) Z1)))) (z7 (zE6 1000000 K0x (sc_c z6l (z0 3) z0Z) (z7 (z0W (J9 (z0 2) (z0 3))) (z7 (j7 1 nd (Z4 (z73 ZS) .(E) rfl (z6 (z0 0) (z6 (z0 1) (z6 (z0 3) Z1))))) (z7 (j7 3 nd (Z4 (z53 ZS) .(E) rfl (z6 (z0 0) (z6 (z0 1) Z1)))) Z3)))) (z7 (j6 (z0z (z6 (Z4 (zg0 ZS) .(E) rfl (z6 (z0 1) Z1)) (z6 (z08 rfl ZS.Uag (z6 (z0 2) Z1)) Z1)))) Z3)))))
theorem z7i:Fn P w K mg base 2 "led_to" 3 z2a:=
 dfC ["machine","row","standing"] z3N ZS.Uay (ZS.Uzz _) .(2) rfl .(g) λhcd hr nd=>
  (z7 (j6 (Z4 (ze7 ZS) .(E) rfl (z6 (w6 (N':=["row","other"]) (cap:=[some 1,none]) rfl .(5) (x5 (Z5 .(r) (z0 2))) (λ_ _ _ _=>(Z7 1 (show (["row","other"]:List Str).Nodup by decide +kernel))) .(z) (λ_ _ _ _=>(Z5 (z0 0) (z0 1)))) Z1))) Z3)
theorem z6R:Fn P w K mg base 3 "is_steady" 2 z3g:=
 dfC ["machine","thing","many","firsts","standing","home","likes"] z2h ZS.Uaz (ZS.Uzz _) .(2) rfl .(e) λhcd hr nd=>
  (z7 (j7 2 nd (Y3 rfl ZS.Uai (z6 .(r) Z1))) (z7 (s_if (z00 (J0 (Z4 (z5j ZS) .(E) rfl (z6 (z0 1) (z6 (z0 2) (z6 (z0 2) Z1)))))) .(20) Z3) (z7 (j7 3 nd (z0K Z1)) (z7 (z1A K0x rfl (zd4 rfl rfl ZS.Uaw (z0 1)) (z74 rfl (z0T (k7 4 nd) (z0T (k7 5 nd) z4U))) (z7 (s_if (z00 (J0 (Z4 (z45 ZS) .(E) rfl (z6 (z0 5) (z6 Z2 (z6 (Y3 rfl ZS.Uai (z6 (z0 3) Z1)) Z1)))))) .(20) Z3) (z7 (s_if (sc_c (z1k (hu30 hr)) (z0 5) (Y3 rfl ZS.Uai (z6 (z0 3) Z1))) (z7 (z0W (J9 (z0 3) (z0 4))) Z3) Z3) Z3))) (z7 (j7 6 nd (w6 (N':=["machine","thing","standing"]) (cap:=[some 0,some 1,none]) rfl .(5) (z01 rfl ZS.Uao (z0 2)) (λ_ _ _ _=>(Z7 2 (show (["machine","thing","standing"]:List Str).Nodup by decide +kernel))) .(z) (λ_ _ _ _=>(z0z (z6 (Z5 .(r) (z0 2)) (z6 (Z4 (z7i ZS) .(E) rfl (z6 (z0 0) (z6 (z0 1) (z6 (z0 2) Z1)))) Z1)))))) (z7 (j6 (z1p (zQ5 rfl rfl ZS.Uba (z6 (w6 (N':=["likes","firsts","standing","home"]) (cap:=[some 6,some 3,none,none]) rfl .(5) (zd4 rfl rfl ZS.Uaw (z0 1)) (λ_ _ _ _=>(zj0 rfl (z3M (Z7 2 (show (["likes","firsts","standing","home"]:List Str).Nodup by decide +kernel)) (z3M (Z7 3 (show (["likes","firsts","standing","home"]:List Str).Nodup by decide +kernel)) z97)))) .(z) (λ_ _ _ _=>(se_c (z1k (hu30 hr)) (Z5 (z0 0) (z0 2)) (Z5 (z0 0) (Z5 (z0 1) (z0 3)))))) Z1)))) Z3))))))
theorem z8w:Fn P w K mg base 6 "alike" 3 z5T:=
 dfC ["machine","one","other","row"] z6v ZS.Ubb (ZS.Uzz _) .(2) rfl .(g) λhcd hr nd=>
  (z7 (j7 3 nd (Z5 (Z4 (z3U ZS) .(E) rfl (z6 (z0 0) Z1)) Z2)) (z7 (j6 (se_c (z1k (hu30 hr)) (Z5 (z0 3) (z0 1)) (Z5 (z0 3) (z0 2)))) Z3))
theorem z7E:Fn P w K mg base 4 "quotient" 2 z41:=
 dfC ["machine","row","firsts"] z1S ZS.Ubc (ZS.Uzz _) .(2) rfl .(e) λhcd hr nd=>
  (z7 (s_if (z00 (J0 (Z4 (z6R ZS) .(E) rfl (z6 (z0 0) (z6 (z0 1) Z1))))) (z7 zM7 Z3) Z3) (z7 (z4f 2 (N':=["row","home"]) (cap:=[some 1,none]) rfl .(5) (z01 rfl ZS.Uao (z0f (z9M rfl rfl ZS.Ubd (z6 (z0 1) Z1)) Z2)) (λ_ _ _ _=>(Z7 1 (show (["row","home"]:List Str).Nodup by decide +kernel))) .(z) (λ_ _ _ _=>(zl1 (z2u (z0 0) (z0 1)) (z2C (z0 0) (z0 1)))) nd) (z7 (j6 (z0z (z6 (z1p (z08 rfl ZS.Uag (z6 (w6 (N':=["machine","row","one"]) (cap:=[some 0,some 1,none]) rfl .(5) (z6i (x5 (z0 2)) (x8 (z0 2))) (λ_ _ _ _=>(Z7 2 (show (["machine","row","one"]:List Str).Nodup by decide +kernel))) .(z) (λ_ _ _ _=>(Z4 (z7i ZS) .(E) rfl (z6 (z0 0) (z6 (z0 1) (z6 (z0 2) Z1)))))) Z1))) (z6 (z1p (z08 rfl ZS.Uag (z6 (w6 (N':=["machine","one"]) (cap:=[some 0,none]) rfl .(5) (z6i (x5 (z0 2)) (x8 (z0 2))) (λ_ _ _ _=>(Z7 1 (show (["machine","one"]:List Str).Nodup by decide +kernel))) .(z) (λ_ _ _ _=>(Z5 .(r) (z0 1)))) Z1))) Z1)))) Z3)))
theorem z7s:Fn P w K mg base 1 "write_cut" 4 z3j:=
 dfC ["rows","numbers","least","by","whole","first"] z1q ZS.Ube (ZS.Uzz _) .(2) rfl .(T) λhcd hr nd=>
  (z7 (j7 4 nd (z28 (z4l hr) (z0 1) (z0 2))) (z7 (j7 5 nd (Y3 rfl ZS.Uai (z6 (z0 0) Z1))) (z7 (z0W (J9 (z0 0) (zT1 (J0 (z1v rfl ZS.Uad rfl ZS.Uar .(2) .(0) (z0 3))) (z0z (z6 y4 (z6 (z0 3) Z1))) (z0z (z6 y4 (z6 (z28 (z4l hr) (z0 1) (z0 3)) Z1)))))) (z7 (z0W (J9 (z0 0) (z0z (z6 y4 (z6 (z0 4) (z6 (z0 5) Z1)))))) (z7 (z0W (J9 (z0 0) (z0z (z6 y4 (z6 (z0 5) Z1))))) (z7 (z0W (J9 (z0 0) (z0z (z6 y4 (z6 (z0 4) (z6 (z0f (z0 5) Z2) Z1)))))) (z7 (j6 (z0z (z6 (z0f (z0 5) Z2) (z6 (z0f (z0 5) Z2) Z1)))) Z3)))))))
theorem z48:Fn P w K mg base 6 "saying_of" 2 z2c:=
 dfC ["machine","standing","row","cuts","blocks","rows","numbers","cut","least","by","yes","no","after","one"] z0Q ZS.Ubf (ZS.Uzz _) .(2) rfl .(e) λhcd hr nd=>
  (z7 (z3B (Z4 (z3U ZS) .(E) rfl (z6 (z0 0) Z1)) (z74 rfl (z0T (k7 2 nd) (z0T (k7 3 nd) z4U)))) (z7 (j7 4 nd (Z4 (z2B ZS) .(E) rfl (z6 (z0 0) Z1))) (z7 (j7 5 nd (z0K (z6 (z0z (z6 y4 Z1)) Z1))) (z7 (j7 6 nd (z8B Z2 Z2)) (z7 (z1A K0x rfl (x5 (z0 3)) (k7 7 nd) (z7 (z3B (z0 7) (z74 rfl (z0T (k7 8 nd) (z0T (k7 9 nd) z4U)))) (z7 (z3B (Z4 (z7s ZS) .(E) rfl (z6 (z0 5) (z6 (z0 6) (z6 (z0 8) (z6 (z0 9) Z1))))) (z74 rfl (z0T (k7 10 nd) (z0T (k7 11 nd) z4U)))) (z7 (j7 12 nd (Z4 (z73 ZS) .(E) rfl (z6 (z0 0) (z6 (z0 4) (z6 (z0 7) Z1))))) (z7 (z1A K0x rfl (zf0 (z0 12)) (k7 13 nd) (z7 (s_if (SW.sc (z3d (sc_c (zL4 (z4l hr)) (z0 13) (z0 4)) (z20 (sc_c (z1k (hu30 hr)) (z0 13) (z0 8))))) (z7 (z3B (zT1 (J0 (Z4 (z5D ZS) .(E) rfl (z6 (z0 0) (z6 (z0 4) (z6 (z0 13) (z6 (z0 9) Z1)))))) (z0 10) (z0 11)) (zT9 (z4l hr) (z0 6) (z0 13))) Z3) Z3) Z3)) (z7 (j7 4 nd (z0 12)) Z3)))))) (z7 (j6 (z08 rfl ZS.Uag (z6 (z6a (z0 5) z82 (z7I (z0f (z28 (z4l hr) (z0 6) (zl1 (z2u (z0 2) (Z5 (z0 2) (z0 1))) (z2C (z0 2) (Z5 (z0 2) (z0 1))))) Z2))) Z1))) Z3))))))
theorem z9h:FnX P w K mg base 7 "parting" 3 z3E:=
 dfX ["machine","one","other"] z1U ZS.Ubg (ZS.Uzz _) .(2) rfl .(g) λhcd hr nd=>
  (z7 (s_if (zQ8 (J0 (Z4 (z8w ZS) .(E) rfl (z6 (z0 0) (z6 (z0 1) (z6 (z0 2) Z1)))))) (z7 (zE8 ZS.Ubj rfl (z6 y4 Z1)) Z3) Z3) (z7 (Z0T (j6 (Z4 (z48 ZS) .(E) rfl (z6 (z0 0) (z6 (z0 1) Z1))))) Z3))
theorem z6C:Fn P w K mg base 1 "_law_pool" 1 z38:=
 dfN ["_law_script","_law_great"] z24 ZS.Ubk (ZS.Uzz _) .(2) rfl .(l) λhcd hr nd=>
  (z7 (z4f 1 (N':=["_law_cell"]) (cap:=[none]) rfl .(5) (x8 (z0 0)) (λ_ _ _ _=>(Z7 0 (show (["_law_cell"]:List Str).Nodup by decide +kernel))) (λ_ _ _ _=>(z1x (sc_c Z01 (z0 0) (zg9 Z2 Z2)))) (λ_ _ _ _=>(z0 0)) nd) (z7 (j6 (z0K (z6 (z0 1) (z6 (w6 (N':=["_law_cell"]) (cap:=[none]) rfl .(5) (x8 (z0 0)) (λ_ _ _ _=>(Z7 0 (show (["_law_cell"]:List Str).Nodup by decide +kernel))) (λ_ _ _ _=>(z1x (sc_c zo5 (z0 0) (zg9 Z2 Z2)))) (λ_ _ _ _=>(z0 0))) (z6 Z2 (z6 Z2 Z1)))))) Z3))
theorem y0:Fn P w K mg base 1 "_law_draw" 2 Z8:=
 dfN ["_law_pool_here","_law_many","_law_cell"] z1s ZS.Ubl (ZS.Uzz _) .(2) rfl .(e) λhcd hr nd=>
  (z7 (s_if (sc_c z9l (Y3 rfl ZS.Uai (z6 .(r) Z1)) Z2) (z7 (j7 2 nd (Z5 .(r) Z2)) (z7 (z3B (zc8 (z0 2) (z0 1)) (z6Y .(r) Z2)) (z7 (s_if (sc_c z2A (zc8 (z0 2) (z0 1)) Z2) (z7 (z0W (zo0 .(r) Z2)) Z3) Z3) (z7 (j6 (z30 (z0 2) (z0 1))) Z3)))) Z3) (z7 (z3B (z0f .(r) Z2) (z6Y (z0 0) Z2)) (z7 (j7 2 nd Z2) (z7 (s_if (sc_c z9l (Y3 rfl ZS.Uai (z6 .(r) Z1)) Z2) (z7 (j7 2 nd (Z5 .(r) (z30 .(r) (Y3 rfl ZS.Uai (z6 .(r) Z1))))) Z3) Z3) (z7 (j7 2 nd (z4Y (z30 (z0 2) Z2) (z0f (z4Y .(r) .(r)) Z2))) (z7 (z3B (z30 (z0f (z0f (z4Y .(r) Z2) (z0 2)) (z4Y Z2 .(r))) Z2) (z6Y (z0 0) Z2)) (z7 (j6 (z30 (zc8 (z30 (zg9 .(r) Z2) Z2) Z2) (z0 1))) Z3)))))))
theorem z6X:Fn P w K mg base 2 "_law_name" 3 z3c:=
 dfC ["_law_pool_here","_law_start","_law_taken","_law_letters","_law_name_here","_law_k","_law_last","_law_words","_law_found"] z1y ZS.Ubm (ZS.Uzz _) .(2) rfl .(g) λhcd hr nd=>
  (z7 (j7 3 nd y4) (z7 (j7 4 nd (z0 1)) (z7 (z1A K0x rfl (z01 rfl ZS.Uao (Z4 (y0 ZS) .(E) rfl (z6 (z0 0) (z6 Z2 Z1)))) (k7 5 nd) (z7 (j7 4 nd (z0f (z0 4) (Z5 (z0 3) (Z4 (y0 ZS) .(E) rfl (z6 (z0 0) (z6 Z2 Z1)))))) Z3)) (z7 (j7 6 nd (Z4 (y0 ZS) .(E) rfl (z6 (z0 0) (z6 Z2 Z1)))) (z7 (j7 7 nd (z0K (z6 y4 (z6 y4 (z6 y4 (z6 y4 (z6 y4 (z6 y4 (z6 y4 (z6 y4 (z6 y4 (z6 y4 (z6 y4 (z6 y4 (z6 y4 Z1))))))))))))))) (z7 (z1A K0x rfl (z01 rfl ZS.Uao Z2) (k7 5 nd) (z7 (j7 8 nd (z0f (z0 4) (Z5 (z0 3) (z30 (z0f (z0 6) (z0 5)) Z2)))) (z7 (s_if (SW.sc (z2z (sc_c z4v (z0 8) (z0 7)) (z1O (sc_c z4v (z0 8) (z0 2))))) (z7 (j6 (z0 8)) Z3) Z3) Z3))) (z7 (j6 (z0f (z0 4) y4)) Z3)))))))
theorem z0s:Fn P w K mg base 1 "_law_number" 3 x6:=
 dfC ["_law_thing","_law_low","_law_high"] z0H ZS.Ubn (ZS.Uzz _) .(2) rfl .(g) λhcd hr nd=>
  (z7 (j6 (z1n (z1v rfl ZS.Uad rfl ZS.Uac .(2) .(0) (z0 0)) (z1n (z6d (z1v rfl ZS.Uad rfl ZS.Uab .(2) .(0) (z0 0))) (z34 (zo1 z87 zo5 (z0 1) (z0 0) (z0 2)))))) Z3)
theorem Y4:Fn P w K mg base 1 "_law_tuple" 3 Z9:=
 dfC ["_law_thing","_law_least","_law_most"] z0V ZS.Ubo (ZS.Uzz _) .(2) rfl .(g) λhcd hr nd=>
  (z7 (j6 (z1n (z1v rfl ZS.Uad rfl ZS.Uag .(2) .(0) (z0 0)) (z34 (zo1 z87 z87 (z0 1) (Y3 rfl ZS.Uai (z6 (z0 0) Z1)) (z0 2))))) Z3)
theorem z4o:Fn P w K mg base 2 "_law_good_set" 2 z1r:=
 dfC ["_law_thing","_law_many","_law_k"] z0L ZS.Ubp (ZS.Uzz _) .(2) rfl .(e) λhcd hr nd=>
  (z7 (s_if (z00 (J0 (Z4 (Y4 ZS) .(E) rfl (z6 (z0 0) (z6 Z2 (z6 (z0 1) Z1)))))) .(20) Z3) (z7 (z1A K0x rfl (z01 rfl ZS.Uao (Y3 rfl ZS.Uai (z6 (z0 0) Z1))) (k7 2 nd) (z7 (s_if (SW.sc (z3d (z00 (J0 (Z4 (z0s ZS) .(E) rfl (z6 (Z5 (z0 0) (z0 2)) (z6 Z2 (z6 (z0 1) Z1)))))) (z20 (SW.sc (z2z (sc_c z9l (z0 2) Z2) (z1O (sc_c Z01 (Z5 (z0 0) (zz2 (z0 2) Z2)) (Z5 (z0 0) (z0 2))))))))) .(20) Z3) Z3)) .(20)))
theorem z1Z:Fn P w K mg base 1 "_law_good_name" 1 z0b:=
 dfC ["_law_thing","_law_words"] w8 ZS.Ubq (ZS.Uzz _) .(2) rfl .(l) λhcd hr nd=>
  (z7 (j7 1 nd (z0K (z6 y4 (z6 y4 (z6 y4 (z6 y4 (z6 y4 (z6 y4 (z6 y4 (z6 y4 (z6 y4 (z6 y4 (z6 y4 (z6 y4 (z6 y4 Z1))))))))))))))) (z7 (s_if (SW.sc (z3d (z00 (J0 (z1v rfl ZS.Uad rfl ZS.Uar .(2) .(0) (z0 0)))) (z3d (sc_c zo5 (Y3 rfl ZS.Uai (z6 (z0 0) Z1)) Z2) (z3d (sc_c z9l (Y3 rfl ZS.Uai (z6 (z0 0) Z1)) Z2) (z20 (sc_c z7r (z0 0) (z0 1))))))) .(20) Z3) (z7 (j6 (z1p (se_c (z1k (hu30 hr)) (w6 (N':=["_law_sign"]) (cap:=[none]) rfl .(5) (zS8 rfl (z0 0)) (λ_ _ _ _=>(Z7 0 (show (["_law_sign"]:List Str).Nodup by decide +kernel))) (λ_ _ _ _=>(z1x (sc_c zM3 (z0 0) y4))) (λ_ _ _ _=>(z0 0))) (z0K Z1)))) Z3)))
theorem z6h:Fn P w K mg base 1 "_law_truth" 2 z1J:=
 dfC ["_law_found","_law_due"] z1K ZS.Ubr (ZS.Uzz _) .(2) rfl .(e) λhcd hr nd=>
  (z7 (j6 (z1n (z1v rfl ZS.Uad rfl ZS.Uab .(2) .(0) (z0 0)) (z34 (se_c (z1k (hu30 hr)) (z0 0) (z0 1))))) Z3)
theorem z6b:Fn P w K mg base 1 "_law_homes" 1 z2y:=
 dfC ["_law_machine","_law_homes_here","_law_k","_law_looks","_law_one","_law_ahead"] z0y ZS.Ubs (ZS.Uzz _) .(2) rfl .(l) λhcd hr nd=>
  (z7 (j7 1 nd (w6 (N':=["_law_one"]) (cap:=[none]) rfl .(5) (x5 .(r)) (λ_ _ _ _=>(Z7 0 (show (["_law_one"]:List Str).Nodup by decide +kernel))) .(z) (λ_ _ _ _=>Z2))) (z7 (z1A K0x rfl .(14) (k7 2 nd) (z7 (j7 3 nd (z0K Z1)) (z7 (z1A K0x rfl .(14) (k7 4 nd) (z7 (j7 5 nd (z1p (z08 rfl ZS.Uag (z6 (z1j rfl rfl ZS.Ual (z6 (z2P rfl rfl ZS.Uak (z6 (w6 (N':=["_law_homes_here","_law_to"]) (cap:=[some 1,none]) rfl .(5) (x5 (Z5 .(r) (z0 4))) (λ_ _ _ _=>(Z7 1 (show (["_law_homes_here","_law_to"]:List Str).Nodup by decide +kernel))) .(z) (λ_ _ _ _=>(Z5 (z0 0) (z0 1)))) Z1)) Z1)) Z1)))) (z7 (z0W (J9 (z0 3) (z0z (z6 (Z5 (z0 1) (z0 4)) (z6 (Z5 .(r) (z0 4)) (z6 (z0 5) Z1)))))) Z3))) (z7 (j7 1 nd (w6 (N':=["_law_looks","_law_look"]) (cap:=[some 3,none]) rfl .(5) (x8 (z0 3)) (λ_ _ _ _=>(Z7 1 (show (["_law_looks","_law_look"]:List Str).Nodup by decide +kernel))) .(z) (λ_ _ _ _=>(zf8 (hu40 hr) (z0 0) (z0 1))))) Z3)))) (z7 (j6 (z0 1)) Z3)))
theorem z2p:Fn P w K mg base 1 "_law_numbered" 1 z0F:=
 dfC ["_law_homes_here","_law_order"] z0j ZS.Ubt (ZS.Uzz _) .(2) rfl .(l) λhcd hr nd=>
  (z7 (j7 1 nd (z1j rfl rfl ZS.Ual (z6 (z2P rfl rfl ZS.Uak (z6 (z0 0) Z1)) Z1))) (z7 (j6 (z1p (z08 rfl ZS.Uag (z6 (w6 (N':=["_law_order","_law_home"]) (cap:=[some 1,none]) rfl .(5) (x8 (z0 0)) (λ_ _ _ _=>(Z7 1 (show (["_law_order","_law_home"]:List Str).Nodup by decide +kernel))) .(z) (λ_ _ _ _=>(zl1 (z2u (z0 0) (z0 1)) (z2C (z0 0) (z0 1))))) Z1)))) Z3))
theorem z5m:Fn P w K mg base 2 "_law_steady" 2 z26:=
 dfC ["_law_machine","_law_thing","_law_many","_law_top","_law_one","_law_first","_law_here"] z1h ZS.Ubu (ZS.Uzz _) .(2) rfl .(e) λhcd hr nd=>
  (z7 (j7 2 nd (Y3 rfl ZS.Uai (z6 .(r) Z1))) (z7 (s_if (z00 (J0 (Z4 (Y4 ZS) .(E) rfl (z6 (z0 1) (z6 (z0 2) (z6 (z0 2) Z1)))))) .(20) Z3) (z7 (j7 3 nd Z2) (z7 (z1A K0x rfl (x5 (z0 1)) (k7 4 nd) (z7 (s_if (z00 (J0 (Z4 (z0s ZS) .(E) rfl (z6 (z0 4) (z6 Z2 (z6 (z0f (z0 3) Z2) Z1)))))) .(20) Z3) (z7 (j7 3 nd (zI3 rfl rfl ZS.Ubd (z6 (z0 3) (z6 (z0f (z0 4) Z2) Z1)))) Z3))) (z7 (z1A K0x rfl (z01 rfl ZS.Uao (z0 2)) (k7 4 nd) (z7 (j7 5 nd (zl1 (z2u (z0 1) (Z5 (z0 1) (z0 4))) (z2C (z0 1) (Z5 (z0 1) (z0 4))))) (z7 (s_if (sc_c (z5b (hu30 hr)) (Z5 .(r) (z0 4)) (Z5 .(r) (z0 5))) .(20) Z3) (z7 (j7 6 nd (z1j rfl rfl ZS.Ual (z6 (z2P rfl rfl ZS.Uak (z6 (w6 (N':=["_law_thing","_law_to"]) (cap:=[some 1,none]) rfl .(5) (x5 (Z5 .(r) (z0 4))) (λ_ _ _ _=>(Z7 1 (show (["_law_thing","_law_to"]:List Str).Nodup by decide +kernel))) .(z) (λ_ _ _ _=>(Z5 (z0 0) (z0 1)))) Z1)) Z1))) (z7 (s_if (zg5 (sc_c (z5b (hu30 hr)) (z0 6) (z1j rfl rfl ZS.Ual (z6 (z2P rfl rfl ZS.Uak (z6 (w6 (N':=["_law_thing","_law_to"]) (cap:=[some 1,none]) rfl .(5) (x5 (Z5 .(r) (z0 5))) (λ_ _ _ _=>(Z7 1 (show (["_law_thing","_law_to"]:List Str).Nodup by decide +kernel))) .(z) (λ_ _ _ _=>(Z5 (z0 0) (z0 1)))) Z1)) Z1)))) .(20) Z3) Z3))))) .(20))))))
theorem z5e:Fn P w K mg base 1 "_law_halved" 4 z0C:=
 dfC ["_law_machine","_law_homes_here","_law_cut","_law_by","_law_chosen","_law_one","_law_block","_law_inner","_law_rest","_law_found"] z0J ZS.Ubv (ZS.Uzz _) .(2) rfl .(T) λhcd hr nd=>
  (z7 (j7 4 nd (z0K Z1)) (z7 (z1A K0x rfl .(14) (k7 5 nd) (z7 (s_if (SW.sc (z2z (J0 (z1v rfl ZS.Uad rfl ZS.Uar .(2) .(0) (z0 3))) (z1O (sc_c z7r (z0 3) (Z5 .(r) (z0 5)))))) (z7 (z0W (J9 (z0 4) (z0 5))) Z3) Z3) (z7 (s_if (SW.sc (z2z (z00 (J0 (z1v rfl ZS.Uad rfl ZS.Uar .(2) .(0) (z0 3)))) (z1O (zg5 (sc_c z7r (z0 3) (w6 (N':=["_law_homes_here","_law_to"]) (cap:=[some 1,none]) rfl .(5) (x5 (Z5 .(r) (z0 5))) (λ_ _ _ _=>(Z7 1 (show (["_law_homes_here","_law_to"]:List Str).Nodup by decide +kernel))) .(z) (λ_ _ _ _=>(Z5 (z0 0) (z0 1))))))))) (z7 (z0W (J9 (z0 4) (z0 5))) Z3) Z3) Z3))) (z7 (z4f 6 (N':=["_law_homes_here","_law_cut","_law_one"]) (cap:=[some 1,some 2,none]) rfl .(5) .(14) (λ_ _ _ _=>(Z7 2 (show (["_law_homes_here","_law_cut","_law_one"]:List Str).Nodup by decide +kernel))) (λ_ _ _ _=>(z1x (sc_c (z1k (hu30 hr)) (Z5 (z0 0) (z0 2)) (z0 1)))) (λ_ _ _ _=>(z0 2)) nd) (z7 (z4f 7 (N':=["_law_chosen","_law_one"]) (cap:=[some 4,none]) rfl .(5) (x8 (z0 6)) (λ_ _ _ _=>(Z7 1 (show (["_law_chosen","_law_one"]:List Str).Nodup by decide +kernel))) (λ_ _ _ _=>(z1x (sc_c z7r (z0 1) (z0 0)))) (λ_ _ _ _=>(z0 1)) nd) (z7 (z4f 8 (N':=["_law_chosen","_law_one"]) (cap:=[some 4,none]) rfl .(5) (x8 (z0 6)) (λ_ _ _ _=>(Z7 1 (show (["_law_chosen","_law_one"]:List Str).Nodup by decide +kernel))) (λ_ _ _ _=>(z1x (sc_c z4v (z0 1) (z0 0)))) (λ_ _ _ _=>(z0 1)) nd) (z7 (s_if (SW.sc (z3d (sc_c z2A (Y3 rfl ZS.Uai (z6 (z0 7) Z1)) Z2) (z20 (sc_c z2A (Y3 rfl ZS.Uai (z6 (z0 8) Z1)) Z2)))) (z7 (j6 z0Z) Z3) Z3) (z7 (j7 9 nd (zI1 rfl ZS.Ubw (z6 (z0 1) Z1))) (z7 (z1A K0x rfl (x8 (z0 7)) (k7 5 nd) (z7 (z3B (Z5 (z0 7) Z2) (z6Y (z0 9) (z0 5))) Z3)) (z7 (z1A K0x rfl (x8 (z0 8)) (k7 5 nd) (z7 (z3B (Z5 (z0 8) Z2) (z6Y (z0 9) (z0 5))) Z3)) (z7 (j6 (z0 9)) Z3))))))))))
theorem z4i:Fn P w K mg base 2 "_law_cuts_end" 2 z1o:=
 dfC ["_law_machine","_law_cuts","_law_homes_here","_law_pair"] z0l ZS.Ubx (ZS.Uzz _) .(2) rfl .(e) λhcd hr nd=>
  (z7 (z4f 2 (N':=["_law_one"]) (cap:=[none]) rfl .(5) (x5 .(r)) (λ_ _ _ _=>(Z7 0 (show (["_law_one"]:List Str).Nodup by decide +kernel))) .(z) (λ_ _ _ _=>Z2) nd) (z7 (s_if (z00 (J0 (z1v rfl ZS.Uad rfl ZS.Uag .(2) .(0) (z0 1)))) (z7 (j6 z0Z) Z3) Z3) (z7 (z1A K0x rfl (x5 (z0 1)) (k7 3 nd) (z7 (s_if (SW.sc (z3d (z00 (J0 (Z4 (Y4 ZS) .(E) rfl (z6 (z0 3) (z6 Z2 (z6 Z2 Z1)))))) (z20 (z00 (J0 (Z4 (z0s ZS) .(E) rfl (z6 (Z5 (z0 3) Z2) (z6 Z2 (z6 (Y3 rfl ZS.Uai (z6 (z0 2) Z1)) Z1))))))))) (z7 (j6 z0Z) Z3) Z3) (z7 (s_if (z00 (J0 (Z4 (z1Z ZS) .(E) rfl (z6 (Z5 (z0 3) Z2) Z1)))) (z7 (s_if (SW.sc (z3d (z00 (J0 (Z4 (z0s ZS) .(E) rfl (z6 (Z5 (z0 3) Z2) (z6 Z2 (z6 (Y3 rfl ZS.Uai (z6 (z0 2) Z1)) Z1)))))) (z20 (sc_c (z5b (hu30 hr)) (Z5 (z0 2) (Z5 (z0 3) Z2)) (Z5 (z0 3) Z2))))) (z7 (j6 z0Z) Z3) Z3) Z3) Z3) (z7 (j7 2 nd (Z4 (z5e ZS) .(E) rfl (z6 (z0 0) (z6 (z0 2) (z6 (Z5 (z0 3) Z2) (z6 (Z5 (z0 3) Z2) Z1)))))) (z7 (s_if (sc_c zX2 (z0 2) z0Z) (z7 (j6 z0Z) Z3) Z3) Z3))))) (z7 (j6 (z0 2)) Z3))))
theorem z2w:Fn P w K mg base 3 "_law_classes_right" 2 z0o:=
 dfC ["_law_machine","_law_thing","_law_homes_here"] z02 ZS.Uby (ZS.Uzz _) .(2) rfl .(e) λhcd hr nd=>
  (z7 (s_if (SW.sc (z3d (z00 (J0 (Z4 (Y4 ZS) .(E) rfl (z6 (z0 1) (z6 Z2 (z6 Z2 Z1)))))) (z20 (z00 (J0 (Z4 (z5m ZS) .(E) rfl (z6 (z0 0) (z6 (Z5 (z0 1) Z2) Z1)))))))) .(20) Z3) (z7 (j7 2 nd (Z4 (z4i ZS) .(E) rfl (z6 (z0 0) (z6 (Z5 (z0 1) Z2) Z1)))) (z7 (j6 (z1n (se_c z6l (z0 2) z0Z) (z34 (se_c (z1k (hu30 hr)) (Z4 (z2p ZS) .(E) rfl (z6 (z0 2) Z1)) (Z5 (z0 1) Z2))))) Z3)))
theorem z2X:Fn P w K mg base 3 "_law_same_machine" 2 z06:=
 dfC ["_law_found","_law_due","_law_ahead"] z09 ZS.Ubz (ZS.Uzz _) .(2) rfl .(e) λhcd hr nd=>
  (z7 (s_if (SW.sc (z3d (z00 (J0 (Z4 (Y4 ZS) .(E) rfl (z6 (z0 0) (z6 Z2 (z6 Z2 Z1)))))) (z20 (sc_c (z5b (hu30 hr)) (z0 0) (z0 1))))) .(20) Z3) (z7 (s_if (SW.sc (z3d (z00 (J0 (Z4 (Y4 ZS) .(E) rfl (z6 .(r) (z6 Z2 (z6 Z2 Z1)))))) (z20 (z00 (J0 (Z4 (Y4 ZS) .(E) rfl (z6 .(r) (z6 Z2 (z6 Z2 Z1))))))))) .(20) Z3) (z7 (z1A K0x rfl (x5 .(r)) (k7 2 nd) (z7 (s_if (z00 (J0 (Z4 (z4o ZS) .(E) rfl (z6 (z0 2) (z6 (Y3 rfl ZS.Uai (z6 .(r) Z1)) Z1))))) .(20) Z3) Z3)) (z7 (j6 (z1p (se_c (z1k (hu30 hr)) (w6 (N':=["_law_names"]) (cap:=[none]) rfl .(5) (x5 .(r)) (λ_ _ _ _=>(Z7 0 (show (["_law_names"]:List Str).Nodup by decide +kernel))) (λ_ _ _ _=>(z1x (z00 (J0 (z1v rfl ZS.Uad rfl ZS.Uag .(2) .(0) (z0 0)))))) (λ_ _ _ _=>(z0 0))) (z0K Z1)))) Z3))))
theorem z3h:Fn P w K mg base 1 "_law_quotient_of" 2 z0G:=
 dfC ["_law_machine","_law_kinds","_law_steps","_law_marks","_law_kind","_law_ahead","_law_one"] J7 ZS.Uca (ZS.Uzz _) .(2) rfl .(e) λhcd hr nd=>
  (z7 (j7 2 nd (z0K Z1)) (z7 (j7 3 nd (z0K Z1)) (z7 (z1A K0x rfl (z01 rfl ZS.Uao (z0f (z9M rfl rfl ZS.Ubd (z6 (z0 1) Z1)) Z2)) (k7 4 nd) (z7 (j7 5 nd (z0K Z1)) (z7 (z1A K0x rfl .(14) (k7 6 nd) (z7 (s_if (sc_c (z1k (hu30 hr)) (Z5 (z0 1) (z0 6)) (z0 4)) (z7 (j7 5 nd (z0f (z0 5) (w6 (N':=["_law_kinds","_law_to"]) (cap:=[some 1,none]) rfl .(5) (x5 (Z5 .(r) (z0 6))) (λ_ _ _ _=>(Z7 1 (show (["_law_kinds","_law_to"]:List Str).Nodup by decide +kernel))) .(z) (λ_ _ _ _=>(Z5 (z0 0) (z0 1)))))) Z3) Z3) Z3)) (z7 (z0W (J9 (z0 2) (z1p (z08 rfl ZS.Uag (z6 (z1j rfl rfl ZS.Ual (z6 (z2P rfl rfl ZS.Uak (z6 (z0 5) Z1)) Z1)) Z1))))) (z7 (z0W (J9 (z0 3) (Z5 .(r) (zl1 (z2u (z0 1) (z0 4)) (z2C (z0 1) (z0 4)))))) Z3))))) (z7 (j6 (z0z (z6 (z08 rfl ZS.Uag (z6 (z0 2) Z1)) (z6 (z08 rfl ZS.Uag (z6 (z0 3) Z1)) Z1)))) Z3))))
theorem z19:Fn P w K mg base 2 "_law_plain_truths" 2 z07:=
 dfC ["_law_machine","_law_saying","_law_every","_law_truths","_law_k","_law_part"] J2 ZS.Ucb (ZS.Uzz _) .(2) rfl .(e) λhcd hr nd=>
  (z7 (s_if (z00 (J0 (Z4 (Y4 ZS) .(E) rfl (z6 (z0 1) (z6 Z2 (z6 Z2 Z1)))))) (z7 (j6 z0Z) Z3) Z3) (z7 (j7 2 nd (zs3 rfl rfl ZS.Ubw rfl ZS.Uao (Y3 rfl ZS.Uai (z6 .(r) Z1)))) (z7 (j7 3 nd (z0K Z1)) (z7 (z1A K0x rfl .(14) (k7 4 nd) (z7 (j7 5 nd (Z5 (z0 1) (z0 4))) (z7 (s_if (SW.sc (z3d (z00 (J0 (Z4 (Y4 ZS) .(E) rfl (z6 (z0 5) (z6 Z2 (z6 Z2 Z1)))))) (z20 (z00 (J0 (z1v rfl ZS.Uad rfl ZS.Uar .(2) .(0) (Z5 (z0 5) Z2))))))) (z7 (j6 z0Z) Z3) Z3) (z7 (s_if .(O) (z7 (z0W (J9 (z0 3) (w6 (N':=["_law_one"]) (cap:=[none]) rfl .(5) (z6i (x5 (z0 2)) (x8 (z0 2))) (λ_ _ _ _=>(Z7 0 (show (["_law_one"]:List Str).Nodup by decide +kernel))) .(z) (λ_ _ _ _=>z1N)))) Z3) (z7 (s_if (SW.sc (z2z (sc_c z2A (Z5 (z0 5) Z2) y4) (z2z (sc_c z2A (Y3 rfl ZS.Uai (z6 (z0 5) Z1)) Z2) (z1O (J0 (Z4 (z1Z ZS) .(E) rfl (z6 (Z5 (z0 5) Z2) Z1))))))) (z7 (z0W (J9 (z0 3) (w6 (N':=["_law_part","_law_machine","_law_one"]) (cap:=[some 5,some 0,none]) rfl .(5) (z6i (x5 (z0 2)) (x8 (z0 2))) (λ_ _ _ _=>(Z7 2 (show (["_law_part","_law_machine","_law_one"]:List Str).Nodup by decide +kernel))) .(z) (λ_ _ _ _=>(se_c z7r .(r) (Z5 (Z5 (z0 1) Z2) (z0 2))))))) Z3) (z7 (s_if (zg5 (sc_c (z5b (hu30 hr)) (w6 (N':=["_law_k","_law_one"]) (cap:=[some 4,none]) rfl .(5) (z6i (x5 (z6a (z0 5) (z7I Z2) z82)) (x8 (z6a (z0 5) (z7I Z2) z82))) (λ_ _ _ _=>(Z7 1 (show (["_law_k","_law_one"]:List Str).Nodup by decide +kernel))) (λ_ _ _ _=>(z1x (z00 (J0 (Z4 (z0s ZS) .(E) rfl (z6 (z0 1) (z6 Z2 (z6 (z0 0) Z1)))))))) (λ_ _ _ _=>(z0 1))) (z0K Z1))) (z7 (j6 z0Z) Z3) (z7 (s_if .(O) (z7 (z0W (J9 (z0 3) (w6 (N':=["_law_truths","_law_part","_law_one"]) (cap:=[some 3,some 5,none]) rfl .(5) (z6i (x5 (z0 2)) (x8 (z0 2))) (λ_ _ _ _=>(Z7 2 (show (["_law_truths","_law_part","_law_one"]:List Str).Nodup by decide +kernel))) .(z) (λ_ _ _ _=>(z6d (Z5 (Z5 (z0 0) (Z5 (z0 1) Z2)) (z0 2))))))) Z3) (z7 (s_if .(O) (z7 (z0W (J9 (z0 3) (w6 (N':=["_law_truths","_law_part","_law_one"]) (cap:=[some 3,some 5,none]) rfl .(5) (z6i (x5 (z0 2)) (x8 (z0 2))) (λ_ _ _ _=>(Z7 2 (show (["_law_truths","_law_part","_law_one"]:List Str).Nodup by decide +kernel))) .(z) (λ_ _ _ _=>(z1n (Z5 (Z5 (z0 0) (Z5 (z0 1) Z2)) (z0 2)) (z34 (Z5 (Z5 (z0 0) (Z5 (z0 1) Z2)) (z0 2)))))))) Z3) (z7 (s_if .(O) (z7 (z0W (J9 (z0 3) (w6 (N':=["_law_machine","_law_truths","_law_part","_law_one"]) (cap:=[some 0,some 3,some 5,none]) rfl .(5) (z6i (x5 (z0 2)) (x8 (z0 2))) (λ_ _ _ _=>(Z7 3 (show (["_law_machine","_law_truths","_law_part","_law_one"]:List Str).Nodup by decide +kernel))) .(z) (λ_ _ _ _=>(z1p (se_c z7r z1N (w6 (N':=["_law_truths","_law_part","_law_to"]) (cap:=[some 1,some 2,none]) rfl .(5) (z6i (x5 (Z5 .(r) (z0 3))) (x8 (Z5 .(r) (z0 3)))) (λ_ _ _ _=>(Z7 2 (show (["_law_truths","_law_part","_law_to"]:List Str).Nodup by decide +kernel))) .(z) (λ_ _ _ _=>(Z5 (Z5 (z0 0) (Z5 (z0 1) Z2)) (z0 2)))))))))) Z3) (z7 (j6 z0Z) Z3)) Z3)) Z3)) Z3)) Z3)) Z3)) Z3)))) (z7 (j6 (Z5 (z0 3) (zV2 Z2))) Z3)))))
theorem z5o:Fn P w K mg base 2 "_law_chains" 3 z2f:=
 dfC ["_law_pool_here","_law_many","_law_name_here","_law_ring","_law_loop","_law_short","_law_turn","_law_worn","_law_steps","_law_marks","_law_k","_law_one"] z1f ZS.Ucc (ZS.Uzz _) .(2) rfl .(g) λhcd hr nd=>
  (z7 (j7 3 nd (se_c z2A (Z4 (y0 ZS) .(E) rfl (z6 (z0 0) (z6 Z2 Z1))) Z2)) (z7 (j7 4 nd (se_c z2A (Z4 (y0 ZS) .(E) rfl (z6 (z0 0) (z6 Z2 Z1))) Z2)) (z7 (j7 5 nd (z0f Z2 (Z4 (y0 ZS) .(E) rfl (z6 (z0 0) (z6 (z0 1) Z1))))) (z7 (j7 6 nd (z4Y (Z4 (y0 ZS) .(E) rfl (z6 (z0 0) (z6 Z2 Z1))) (Z4 (y0 ZS) .(E) rfl (z6 (z0 0) (z6 (z0 1) Z1))))) (z7 (j7 7 nd (z1p (Z5 (z0K (z6 (z0 1) (z6 (zz2 Z2 Z2) (z6 (Z4 (y0 ZS) .(E) rfl (z6 (z0 0) (z6 (z0 1) Z1))) Z1)))) (Z4 (y0 ZS) .(E) rfl (z6 (z0 0) (z6 Z2 Z1)))))) (z7 (z4f 8 (N':=["_law_k"]) (cap:=[none]) rfl .(5) (z01 rfl ZS.Uao (z0 1)) (λ_ _ _ _=>(Z7 0 (show (["_law_k"]:List Str).Nodup by decide +kernel))) .(z) (λ_ _ _ _=>(z0z Z1)) nd) (z7 (z4f 9 (N':=["_law_k"]) (cap:=[none]) rfl .(5) (z01 rfl ZS.Uao (z0 1)) (λ_ _ _ _=>(Z7 0 (show (["_law_k"]:List Str).Nodup by decide +kernel))) .(z) (λ_ _ _ _=>(z0z Z1)) nd) (z7 (z1A K0x rfl (z01 rfl ZS.Uao (z0 1)) (k7 10 nd) (z7 (j7 11 nd (z30 (z0f (z0 10) (z0 6)) (z0 1))) (z7 (s_if (SW.sc (z3d (sc_c (z1k (hu30 hr)) (z0 7) (z0 1)) (z20 (sc_c (z1k (hu30 hr)) (z0 7) (z0 10))))) (z7 (z3B (z0z (z6 (z0 2) Z1)) (z6Y (z0 9) (z0 11))) Z3) Z3) (z7 (s_if (SW.sc (z3d (SW.sc (z2z (sc_c zo5 (z0f (z0 10) Z2) (z0 1)) (z1O (sc_c z9l (z30 (z0f (z0 10) Z2) (z0 5)) Z2)))) (z20 (J0 (z0 3))))) (z7 (z3B (z0z (z6 (z30 (z0f (z0f (z0 10) Z2) (z0 6)) (z0 1)) Z1)) (z6Y (z0 8) (z0 11))) Z3) (z7 (s_if (J0 (z0 4)) (z7 (z3B (z0z (z6 (z0 11) Z1)) (z6Y (z0 8) (z0 11))) Z3) Z3) Z3)) Z3)))) (z7 (j6 (z0z (z6 (z08 rfl ZS.Uag (z6 (z0 8) Z1)) (z6 (z08 rfl ZS.Uag (z6 (z0 9) Z1)) Z1)))) Z3)))))))))
theorem z5h:Fn P w K mg base 8 "_law_parted" 4 z27:=
 dfC ["_law_machine","_law_one","_law_other","_law_homes_here","_law_found","_law_truths"] z0I ZS.Ucd (ZS.Uzz _) .(2) rfl .(T) λhcd hr nd=>
  (z7 (j7 4 nd z0Z) (z7 (zW0 4 (z9h ZS) ZS.Ubj ZS.Uce .(E) rfl rfl (z6 (z0 0) (z6 (z0 1) (z6 (z0 2) Z1))) (λ_=>(z7 (j7 4 nd z0Z) Z3)) rfl rfl nd) (z7 (s_if (sc_c (z1k (hu30 hr)) (Z5 (z0 3) (z0 1)) (Z5 (z0 3) (z0 2))) (z7 (j6 (se_c zX2 (z0 4) z0Z)) Z3) Z3) (z7 (j7 5 nd (Z4 (z19 ZS) .(E) rfl (z6 (z0 0) (z6 (z0 4) Z1)))) (z7 (j6 (z1n (se_c z6l (z0 5) z0Z) (z1n (Z5 (z0 5) (z0 1)) (z34 (z6d (Z5 (z0 5) (z0 2))))))) Z3)))))
end
theorem sc_law:FnScope ["_law_script","_law_pool_here","_law_name_here","_law_many","_law_machine","_law_homes_here","_law_kinds","_law_found","_law_one","_law_other"] ["_law_script"] (j4 (top 49)):=⟨rfl,rfl,rfl,by decide +kernel,rfl,by decide +kernel,by decide +kernel⟩
theorem Z0I(g0:Int)(gr sm:List Int)(s c:Int)(r:AH)(n:Int)(hn:0<n)(hn2:n<1073741824)(hg:gr.length<=63):
 ∃gr',gr'.length<=gr.length+1/\Z8 [.ref 2,.int n] (Pool (g0::gr) sm s c r)=.ok (.int (g0 % n)) (Pool gr' sm s c r):=by
 unfold Z8 runF z1s Pool z10;have hl:gr.length<=sizeLine:=K0z hg .(0);by_cases h0:g0 / n=0
 ·refine⟨gr,by omega,?_⟩;simp[Z0,bNil,sIf,sAsg,sRet,z0E,e2,Z6,z8,aNil,eVar,fIx,seqD,getL,fLen,fGt,fCmp,fI,asB,gIx,gN,fSet,fDiv,fIC,eM1,z3T,z5I,updL,fEq,eqD,fMod,atI,ixN,hn,hn2,h0,K87,hl]
 ·refine⟨g0 / n::gr,by simp,?_⟩;simp[Z0,bNil,sIf,sAsg,sRet,z0E,e2,Z6,z8,aNil,eVar,fIx,seqD,getL,fLen,fGt,fCmp,fI,asB,gIx,gN,fSet,fDiv,fIC,eM1,z3T,z5I,updL,fEq,eqD,fMod,atI,ixN,hn,hn2,h0]
theorem Z0B(sm:List Int)(s c:Int)(r:AH)(n:Int)(hn:0<n)(hn2:n<1073741824)(hs:0<=s)(hs2:s<2147483647)(hc:0<=c)(hc2:c<1000000)(hm:sm.length<=63):
 ∃s' d,Z8 [.ref 2,.int n] (Pool [] sm s c r)=.ok (.int d) (Pool [] sm s' (c+1) r)/\0<=d/\d<n/\0<=s'/\s'<2147483647:=by
 have k1:-18446744073709551616<c+1:=by omega
 have k2:c+1<18446744073709551616:=by omega
 have k3:-18446744073709551616<s:=by omega
 have k4:s<18446744073709551616:=by omega
 have key:∀x:Int,(∃y:Int,Z8 [.ref 2,.int n] (Pool [] sm s c r)=.ok (.int ((((s * 48271+x % 2147483629 * ((c+1) * (c+1)+1)+97 * (c+1)) % 2147483647) ^ 5) % 2147483629 / 64 % n)) (Pool [] sm ((s * 48271+x % 2147483629 * ((c+1) * (c+1)+1)+97 * (c+1)) % 2147483647) (c+1) r)) ->
  ∃s' d,Z8 [.ref 2,.int n] (Pool [] sm s c r)=.ok (.int d) (Pool [] sm s' (c+1) r)/\0<=d/\d<n/\0<=s'/\s'<2147483647:=λx ⟨_,e⟩=>
  ⟨_,_,e,K5b _ .(1),K4d _ hn,K5b _ .(0),K4d _ .(0)⟩
 have p1:∀z:Int,-18446744073709551616<z % 2147483647:=λz=>by omega
 have p2:∀z:Int,z % 2147483647<18446744073709551616:=λz=>by omega
 have p3:∀z:Int,-18446744073709551616<z % 2147483629:=λz=>by omega
 have p4:∀z:Int,z % 2147483629<18446744073709551616:=λz=>by omega
 cases sm with
 | nil=>
  refine key 0 ⟨0,?_⟩;unfold Z8 runF z1s Pool z10;simp[Z0,bNil,sIf,sAsg,sRet,z0E,e2,Z6,z8,aNil,eVar,fIx,seqD,getL,fLen,fGt,fCmp,fI,asB,gIx,gN,fSet,fDiv,fIC,eM1,z3T,z5I,updL,fEq,eqD,fMod,fAdd,fMul,z51,fPow,atI,ixN,hn,hn2,k1,k2,k3,k4,p1,p2,p3,p4]
 | cons m0 sm=>
  have hl:(0:Int)<(sm.length:Int)+1:=by omega
  have hi:0<=(c+1) % ((sm.length:Int)+1):=K5b _ .(1);have hi2:(c+1) % ((sm.length:Int)+1)<(sm.length:Int)+1:=K4d _ hl;obtain⟨x,hx⟩:∃x,(D.int m0::sm.map D.int)[((c+1) % ((sm.length:Int)+1)).toNat]?=.(i x):=by
   have e:(D.int m0::sm.map D.int)=(m0::sm).map D.int:=rfl;rw[e,K04,K2 (by simp;omega)];exact⟨_,rfl⟩
  have hx2:∀hj,(D.int m0::List.map D.int sm)[((c+1) % ((sm.length:Int)+1)).toNat]'hj=D.int x:=λhj=>K11 ((K2 hj).symm.trans hx);refine key x ⟨0,?_⟩;unfold Z8 runF z1s Pool z10;simp[Z0,bNil,sIf,sAsg,sRet,z0E,e2,Z6,z8,aNil,eVar,fIx,seqD,getL,fLen,fGt,fCmp,fI,asB,gIx,gN,fSet,fDiv,fIC,eM1,z3T,z5I,updL,fEq,eqD,fMod,fAdd,fMul,z51,fPow,atI,ixN,hn,hn2,k1,k2,k3,k4,p1,p2,p3,p4,hi,hi2,hl,hx,hx2]
theorem draw{k n:Int}(p:PS h k r)(hk:k<1000000)(hn:0<n)(hn2:n<1073741824):∃d h',Z8 [.ref 2,.int n] h=.ok (.int d) h'/\0<=d/\d<n/\PS h' (k+1) r:=by
 obtain⟨gr,sm,s,c,rfl,h1,h2,h3,h4,h5,h6⟩:=p;cases gr with
 | nil=>
  obtain⟨s',d,e,q1,q2,q3,q4⟩:=Z0B sm s c r n hn hn2 h1 h2 h3 .(1) h6;exact⟨d,_,e,q1,q2,[],sm,s',c+1,rfl,q3,q4,by omega,by omega,by simp,h6⟩
 | cons g0 gr=>
  simp at h5;obtain⟨gr',l,e⟩:=Z0I g0 gr sm s c r n hn hn2 .(1);exact⟨_,_,e,K5b _ .(1),K4d _ hn,gr',sm,s,c,rfl,h1,h2,h3,by omega,by omega,h6⟩
theorem z1M{k n:Int}{Q:D->AH->Prop}(p:PS h k r)(hk:k<1000000)(hn:0<n)(hn2:n<1073741824)(z:∀d h',0<=d->d<n->PS h' (k+1) r->Q (.int d) h'):W (Z8 [.ref 2,.int n]) h Q:=by
 obtain⟨d,h',e,d0,d1,p'⟩:=draw p hk hn hn2;exact⟨_,_,e,z d h' d0 d1 p'⟩
theorem zt1{ns:List Int}(hn:ns.length<=63):W (z38 [.fl (ns.map .int)]) [] (λd h'=>d=.ref 2/\PS h' 0 []):=by
 refine z1V ?_;show W (z24 [some (.fl (ns.map .int)),none]) [] _;unfold z24 z1L;rw[w_cons];simp only[K0u,K0t,j0,W_pure,z0u,e2,eVar,gN,sAsg];have src:∀(γ:G) (h:AH),γ[0]?=some (some (.fl (ns.map .int)))->z0e .(h) γ h=.ok (.con (ns.map .int)) h:=λγ h e=>by
  unfold z0e eVar;rw[e];rfl
 refine W.of (z1z (src:=.con (ns.map .int)) (λd=>match d with|.int t=>decide (1000000000000000000<=t)|_=>false) (λd=>d) (src _ _ rfl) .(W) (by simp[Src.items];omega) λd hd=>?_) ?_
 ·obtain⟨t,ht,rfl⟩:=K08.mp hd;refine⟨[.(i t)],λh=>rfl,λj=>?_,λ_ j=>rfl⟩;simp only[K6,bindM,pureM,zR4,zX7,z0O]
 rw[show (Src.con (ns.map D.int)).items=ns.map D.int from rfl,z36];rw[w_cons];simp only[K00,K6,K0l,j0,W_pure,z8,aNil,z4A,eLst,eVar,sRet];refine W.of (z1z (src:=.con (ns.map .int)) (λd=>match d with|.int t=>decide (t<1000000000000000000)|_=>false) (λd=>d) (src _ _ rfl) .(W) (by simp[Src.items];omega) λd hd=>?_) ?_
 ·obtain⟨t,ht,rfl⟩:=K08.mp hd;refine⟨[.(i t)],λh=>rfl,λj=>?_,λ_ j=>rfl⟩;simp only[K6,bindM,pureM,zR4,zr2,z0O]
 rw[show (Src.con (ns.map D.int)).items=ns.map D.int from rfl,z36];refine W.of (a:=.ref 2) (h':=Pool (ns.filter λi=>decide (1000000000000000000<=i)) (ns.filter λi=>decide (i<1000000000000000000)) 5 0 []) ?_ ?_
 ·unfold newL;rw[if_pos (by simp;decide)];rfl
 ·refine⟨rfl,_,_,5,0,rfl,by decide,by decide,by decide,by decide,?_,?_⟩
  ·exact K0z (K3u _ _) hn
  ·exact K0z (K3u _ _) hn
theorem zh7{k:Int}{start:Str}(p:PS h k r)(hk:k<900000)(lo:low start)(hs:start.length<=4)(e:r[i]?=.(l (ns.map .str)))(hn:ns.length<=7):
 W (runF 9 z1y [.ref 2,.str start,.ref (i+3)]) h (λd h'=>∃x j,d=.str x/\PS h' (k+5) (r++j)/\z4m x/\x∉ns):=by
 refine z1V ?_;show W (z1y [.(r 2),.(s start),.(r (i+3)),none,none,none,none,none,none]) h _;unfold z1y;rw[show ("abcdefghijklmnopqrstuvwxyz":Str)=abc from rfl];rw[w_cons];simp only[K0u,K0t,j0,W_pure,z0u,e2,eVar,gN,sAsg];rw[w_cons];simp only[K00,K6,K0u,K0t,j0,W_pure,z0u,eVar,gN,sAsg];rw[w_cons];refine z0i (λc γ h=>∃x w,γ=[.(r 2),.(s start),.(r (i+3)),.(s abc),.(s x),w,none,none,none]/\PS h (k+1+c) r/\low x/\x.length<=4+c) (λ_ _=>False) ?_;simp only[K6,K0d,K0l,K12,z3u,j0,z39,W_pure,z8,aNil,z0u,z4A,eFn,eVar,if_true];refine z1M p .(1) .(0) .(0) λd h1 d0 d1 p1=>?_;refine⟨d.toNat,by rw[K9g d0],by omega,⟨start,none,rfl,by simpa using p1,lo,by omega⟩,?_,?_,λ_ _ q=>q.elim⟩
 ·rintro c γ h2 hc ⟨x,w,rfl,p2,lx,hx⟩;rw[w_cons];simp only[K00,K6,K0d,K0l,K0u,K0t,K12,z3u,j0,z39,W_pure,z8,aNil,z0u,e2,eFn,eVar,gN,if_true,sAsg,zn9];refine z1M p2 .(1) .(0) .(0) λd h1 d0 d1 p1=>?_;refine z93 (k:=k) (r:=r) d0 d1 .(1) ?_;refine⟨_,_,rfl,p1.up .(1),za8 lx .(1) .(1),by rw[len_app,z61];omega⟩
 rintro γ h2 ⟨x,w,rfl,p2,lx,hx⟩;rw[w_cons];simp only[K6,K0d,K0l,K0u,K0t,K12,z3u,j0,z39,W_pure,z8,aNil,z0u,eFn,eVar,gN,if_true,sAsg];refine z1M (p2.up (show _<=k+4 by omega)) .(1) .(0) .(0) λl h3 l0 l1 p3=>?_;rw[w_cons];simp only[K0u,K0t,j0,W_pure,z8,aNil,z0u,eLst,gN,sAsg];rw[show [D.str "yes",D.str "no",D.str "not",D.str "and",D.str "or",D.str "step",D.str "some",D.str "all",D.str "next",D.str "once",D.str "ever",D.str "until",D.str "unless"]=words.map D.str from rfl];refine z8K p3 .(0) λh4 p4=>?_;rw[w_cons];refine z0i (λc γ h=>∃w w',γ=[.(r 2),.(s start),.(r (i+3)),.(s abc),.(s x),w,.(i l),.(r (r.length+3)),w']/\PS h (k+5) (r++[.lst (words.map .str)])/\∀c':Nat,c'<c->cand x l c'∈words\/cand x l c'∈ns) (λd h=>∃c:Nat,d=.str (cand x l c)/\cand x l c∉words/\cand x l c∉ns/\PS h (k+5) (r++[.lst (words.map .str)])) ?_;rw[W_pure];refine⟨26,rfl,by decide,⟨_,_,rfl,p4.up .(1),λc' hc=>by omega⟩,?_,?_,?_⟩
 ·rintro c γ h5 hc ⟨w,w',rfl,p5,hb⟩;rw[w_cons];simp only[K00,K6,K0u,K0t,j0,W_pure,z1l,z0u,e2,eVar,gN,sAsg];have m1:fMod (.int (l+c)) (.int 26)=pure (.int ((l+c) % 26)):=rfl;rw[m1,W_pure];refine z93 (k:=k) (r:=r) (K5b _ .(0)) (K4d _ .(0)) .(1) ?_;rw[w_cons];simp only[K1y,K00,K6,j0,z39,W_pure,cAnd,z0u,if_false,sIf,zn9];refine W.of (zx0 p5 z9J) ?_;rw[z0O,W_pure];by_cases q1:cand x l c∈words
  ·have:(decide (x++{ cps:=#[((l+(c:Int)) % 26).toNat+97] }∈words) != true)=false:=by
    rw[show decide (x++{ cps:=#[((l+(c:Int)) % 26).toNat+97] }∈words)=true from .(s) q1];rfl
   rw[this];simp only[K1y,if_false];refine⟨_,_,rfl,p5,λc' hc'=>?_⟩;by_cases e':c'=c
   ·subst e';exact .inl q1
   ·exact hb c' .(1)
  ·have:(decide (x++{ cps:=#[((l+(c:Int)) % 26).toNat+97] }∈words) != true)=true:=by
    rw[show decide (x++{ cps:=#[((l+(c:Int)) % 26).toNat+97] }∈words)=false from .(y) q1];rfl
   rw[this];simp only[if_true];refine W.of (zx0 p5 (w4 e)) ?_;by_cases q2:cand x l c∈ns
   ·have:(decide (x++{ cps:=#[((l+(c:Int)) % 26).toNat+97] }∈ns) != true)=false:=by
     rw[show decide (x++{ cps:=#[((l+(c:Int)) % 26).toNat+97] }∈ns)=true from .(s) q2];rfl
    rw[this];simp only[K1y,W_pure,z0O,if_false];refine⟨_,_,rfl,p5,λc' hc'=>?_⟩;by_cases e':c'=c
    ·subst e';exact .inr q2
    ·exact hb c' .(1)
   ·have:(decide (x++{ cps:=#[((l+(c:Int)) % 26).toNat+97] }∈ns) != true)=true:=by
     rw[show decide (x++{ cps:=#[((l+(c:Int)) % 26).toNat+97] }∈ns)=false from .(y) q2];rfl
    rw[this];simp only[W_pure,z0O,if_true];rw[w_cons];simp only[K00,K6,j0,W_pure,z4A,eVar,sRet];exact⟨c,rfl,q1,q2,p5⟩
 ·rintro γ h5 ⟨w,w',rfl,p5,hb⟩;exact(zW1 l0 hn hb).elim
 ·rintro d h5 ⟨c,rfl,q1,q2,p5⟩;refine⟨cand x l c,[.lst (words.map .str)],rfl,p5,⟨?_,?_,?_,q1⟩,q2⟩
  ·unfold cand;rw[len_app,z61];omega
  ·unfold cand;rw[len_app,z61];omega
  ·exact za8 lx .(1) .(1)
theorem zp0{k:Int}{start:Str}(p:PS h k r)(c:CL r)(hk:k<900000)(lo:low start)(hs:start.length<=4)(e:r[i]?=.(l (ns.map .str)))(hn:ns.length<=7):
 W (z3c [.ref 2,.str start,.ref (i+3)]) h (λd h'=>∃x,d=.str x/\PS h' (k+5) r/\z4m x/\x∉ns):=
 zG0 p c ((zh7 p hk lo hs e hn).mono λd h1 ⟨x,j,e,p1,g,n⟩=>⟨_,j,p1,by subst e;rfl,λh2 p2=>⟨x,e,p2,g,n⟩⟩)
theorem zm3{x:D}(e:seqD x h=.ok (stD l) h)(hl:l.length<=2000)(hd:(setN l).length<64):z4z [x] h=.ok (.tup (stD (setN l))) h:=by
 have dl:(dedN l).length=(setN l).length:=by unfold setN;rw[z0D]
 have e1:z1e [x] h=.ok (.ref .(m)) (h++[.set (kN (dedN l))]):=by
  unfold z1e;dsimp only;rw[M.bind_ok e,z7S];dsimp only;rw[if_pos (by rw[zx3];omega),zz0];rfl
 have e2:z03 [.ref .(m)] (h++[.set (kN (dedN l))])=.ok (.ref (.(m)+1)) (h++[.set (kN (dedN l)),.lst (stD (setN l))]):=by
  unfold z03;dsimp only;have g:getS .(m) (h++[.set (kN (dedN l))])=.ok (kN (dedN l)) (h++[.set (kN (dedN l))]):=by
   unfold getS;rw[show (h++[O.set (kN (dedN l))])[h.length]?=some (.set (kN (dedN l))) by simp]
  rw[M.bind_ok g,z84];dsimp only;rw[if_pos (by unfold zN;rw[K03];omega),z4G];unfold newL;rw[if_pos (by rw[J5,z0D];unfold sizeLine;omega)];simp[setN]
 have e3:z0g [.ref (.(m)+1)] (h++[.set (kN (dedN l)),.lst (stD (setN l))])=.ok (.tup (stD (setN l))) (h++[.set (kN (dedN l)),.lst (stD (setN l))]):=by
  have ft:∀i:Nat,z0g [.ref i]=(do let x <- getL i;pure (.tup x)):=λ_=>rfl;rw[ft];have g:getL (.(m)+1) (h++[.set (kN (dedN l)),.lst (stD (setN l))])=.ok (stD (setN l)) (h++[.set (kN (dedN l)),.lst (stD (setN l))]):=by
   unfold getL;rw[show (h++[O.set (kN (dedN l)),O.lst (stD (setN l))])[h.length+1]?=.(l ((stD (setN l)))) by simp]
  rw[M.bind_ok g];rfl
 have e4:clE (Z6 z0g (z8 (Z6 z03 (z8 (Z6 z1e .(X)) aNil)) aNil)) [some x] h=.ok (.tup (stD (setN l))) h:=by
  refine z0m (j:=[.set (kN (dedN l)),.lst (stD (setN l))]) ?_ (by simp only[Y8];exact z04 λ_=>rfl);exact j5 (j5 (j5 (show eVar 0 [some x] h=.ok x h from rfl) e1) e2) e3
 have e5:runF 1 z4t [x] h=.ok (.tup (stD (setN l))) h:=z3P (Y5 (h1:=h) _ e4 ⟨rfl,rfl⟩);show cln (runF 1 z4t [x]) h=_;refine z0m (j:=[]) (by rw[K1d];exact e5) (by simp only[Y8];exact z04 λ_=>rfl)
theorem zn8(e:h[n]?=.(l (stD l)))(hl:l.length<=2000)(hd:(setN l).length<64):z4z [.ref n] h=.ok (.tup (stD (setN l))) h:=zm3 (by unfold seqD getL;dsimp only;rw[e]) hl hd
theorem z2R(h2:i<n):x6 [.int i,.int 0,.int n]=pure (.bl true):=by
 have h1:(0:Int)<=i:=by omega
 have h3:(i:Int)<n:=by omega
 show cln (runF 3 z0H [.int i,.int 0,.int n])=_;rw[z2v (d:=.bl true),z1H];show z0H [.(i i),.(i 0),.(i n)]=_;unfold z0H;refine z6B _ ?_;simp only[K00,K6,z0O,Y9,decide_eq_true h1,decide_eq_true h3,e3,eAnd,eIsi,eNot,eVar,if_true,ze9,zq6,zr2];rfl
theorem z2j{m:Nat}(h0:m<=xs.length)(h1:xs.length<=n):Z9 [.tup xs,.int m,.int n]=pure (.bl true):=by
 have h2:(xs.length:Int)<=n:=by omega
 have h3:(m:Int)<=xs.length:=by omega
 show cln (runF 3 z0V [.tup xs,.int m,.int n])=_;rw[z2v (d:=.bl true),z1H];show z0V [.(g xs),.(i m),.(i n)]=_;unfold z0V;refine z6B _ ?_;simp only[K00,K6,z8,aNil,z0O,Y9,decide_eq_true h2,decide_eq_true h3,e3,eAnd,Z6,eIsi,eVar,if_true,z7C,zq6,z17];rfl
theorem zD4(h1:xs.length<=n):Z9 [.tup xs,.int 0,.int n]=pure (.bl true):=z2j (m:=0) (K3k _) h1
section
variable{bl:Bl}
theorem zG2(hx:x<mk.length):z6g [maD st mk,.int (x:Nat),.str s]=pure (.bl (bear s mk x)):=by
 unfold z6g;rw[z2v,z1H];show z65 [some .(7),.(i (x:Nat)),.(s s)]=_;unfold z65 bear;refine z6B _ ?_;by_cases e:s = ""
 ·subst e;simp only[K1h,K00,K6,z0O,Y9,decide_true,e2,eOr,eVar,zM0,if_true];rfl
 ·simp only[K1h,K1y,K4o,K00,K6,z0O,Y9,bne_self_eq_false,decide_eq_false e,e2,eOr,eVar,zM0,if_false,z7F,z2n,ix_tup (z5R hx)]
theorem zk4(hs:st.length<=40):z0U [maD st mk] h=.ok .(R) (h++[.dK (kvB [(0,K7 st.length)])]):=by
 show cln (runF 1 z0r [maD st mk]) h=_;refine z2g (j:=[.dK (kvB [(0,K7 .(c))])]) (z3P ?_) rfl (z2V h) (K05 _) j9 (refB _);show W (z0r [some .(7)]) h _;unfold z0r;refine Y5 (.ref .(m)) ?_ ⟨rfl,rfl⟩;refine zw6 (kk:=.inl 0) rfl rfl ?_;rw[zZ1 (tup:=true) (n:=.(c)) (h1:=h++[.dK []]) (j5 .(N) (by rw[z17,z16];rfl)) .(1),if_pos rfl,pureM];rfl
theorem z76{d:D}(sq:SQ st)(lm:mk.length=st.length)(dc:Dic h b bl)(hx:x<st.length)(nl:(nx st x).length<=40)(ok:ByOk bl d):z3A [maD st mk,.ref b,.int (x:Nat),d] h=.ok (.bl (bel st mk bl d x)) h:=by
 refine zw0 (z3P ?_) rfl;show W (z3G [some .(7),.(r b),.(i (x:Nat)),some d]) h _;unfold z3G;rcases ok with ⟨s,rfl⟩|⟨k,rfl,hk⟩
 ·refine Y0 true (cv_h (z2k .(a) rfl)) ?_;rw[if_pos rfl];exact z0v (Y5 _ (fn_h (ds:=[maD st mk,.int (x:Nat),.str s]) (ac_h .(a) .(G)) rfl (by rw[zG2 .(1)];rfl)) ⟨rfl,rfl⟩)
 ·refine Y0 false (cv_h (z2k .(a) rfl)) ?_;rw[if_neg .(0)];refine y6 (Y5 (.bl (((nx st x).map λo=>decide (o∈blk bl k)).any id)) (Z0q ?_) ⟨?_,rfl⟩)
  ·refine(z0d (src:=.con (stD (nx st x))) (l:=nx st x) (λ_=>true) (λo=>.bl (decide (o∈blk bl k))) (z0N ?_) rfl .(W) .(1) λo ho=>⟨[.(r b),.(i (k:Nat)),.(i o)],λh=>rfl,λj=>rfl,λ_ j=>?_⟩).trans ?_
   ·exact e2_h .(N) .(a) (by rw[z4X hx];rfl)
   ·exact e2_h .(a) (e2_h .(a) .(a) ((dc.app j).get hk)) (by rw[zR9];simp)
   ·rw[filter_tt,K0g];rfl
  ·rw[K8f];rfl
def prt(l:List Nat)(f:Nat->Bool):List .(19):=[l.filter f,l.filter λx=>!f x].filter λp=>decide (0<p.length)
theorem z8C{d:D}(sq:SQ st)(lm:mk.length=st.length)(dc:Dic h b bl)(hl:∀x∈l,x<st.length)(ll:l.length<=40)(nl:∀x,(nx st x).length<=40)(ok:ByOk bl d):z4x [maD st mk,.ref b,.tup (stD l),d] h=.ok .(R) (h++[.lst (stsD (prt l (bel st mk bl d)))]):=by
 obtain⟨f,hf⟩:∃f,f=bel st mk bl d:=⟨_,rfl⟩;rw[<- hf];show cln (runF 6 z3p [maD st mk,.ref b,.tup (stD l),d]) h=_;refine z2g (j:=[.lst (stsD (prt l f))]) (z3P ?_) rfl (z2V h) (K05 _) j9 (z04 λa=>z4H a);show W (z3p [some .(7),.(r b),.(g (stD l)),some d,none,none]) h _;unfold z3p;refine j8 (.tup (stD (l.filter f))) [some .(7),.(r b),.(g (stD l)),some d,.(g ((stD (l.filter f)))),none] (z4N ?_ (z1w _)) rfl ?_
 ·refine(z0d (src:=.con (stD l)) (l:=l) f (λx=>.int x) (z0N .(a)) rfl .(W) .(1) λx hx=>⟨[some .(7),.(r b),some d,.(i x)],λh=>rfl,λj=>?_,λ_ j=>rfl⟩);rw[hf];exact cv_h (fn_h (ds:=[maD st mk,.ref b,.int x,d]) (ac_h .(a) (ac_h .(a) .(G))) rfl (z76 sq lm (dc.app j) (hl x hx) (nl x) ok))
 refine j8 (.tup (stD (l.filter λx=>!f x))) [some .(7),.(r b),.(g (stD l)),some d,.(g ((stD (l.filter f)))),.(g ((stD (l.filter λx=>!f x))))] (z4N ?_ (z1w _)) rfl ?_
 ·refine(z0d (src:=.con (stD l)) (l:=l) (λx=>!f x) (λx=>.int x) (z0N .(a)) rfl .(W) .(1) λx hx=>⟨[.(g ((stD (l.filter f)))),.(i x)],λh=>rfl,λj=>?_,λ_ j=>rfl⟩);refine(cb_h (e2_h .(a) .(a) (by rw[zR9];rfl))).trans ?_;congr 1;cases q:f x with
  | true=>rw[decide_eq_true (K0m.mpr ⟨hx,q⟩)];rfl
  | false=>rw[decide_eq_false (λz=>by have:=(K0m.mp z).2;rw[q]at this;cases this)];rfl
 have tw:eTup (z8 (eVar 4) .(Y)) [some .(7),.(r b),.(g (stD l)),some d,.(g ((stD (l.filter f)))),.(g ((stD (l.filter λx=>!f x))))] h=.ok (.tup (stsD [l.filter f,l.filter λx=>!f x])) h:=z2Y .(a) .(a);refine Y5 (.ref .(m)) ?_ ⟨rfl,rfl⟩;refine(z1z (src:=.con (stsD [l.filter f,l.filter λx=>!f x])) (λd=>match d with|.tup xs=>decide (0<xs.length)|_=>false) (λd=>d) (z0N tw) .(W) (by simp[Src.items,stsD]) λy hy=>?_).trans (congrArg (λxs=>Res.ok (D.ref h.length) (h++[O.lst xs])) ?_)
 ·obtain⟨q,hq,rfl⟩:=K08.mp hy;refine⟨[.(g (stD q))],λh=>rfl,λj=>(cb_h (e2_h (j5 .(a) (by rw[z17];rfl)) (y:=.int 0) rfl (by rw[zk7];rfl))).trans ?_,λ_ j=>rfl⟩;congr 1;show _=decide (0<(stD q).length);rw[decide_eq_decide];omega
 ·show ((stsD _).filter _).map _=_;unfold stsD prt;rw[K8y,Z13];congr 1;refine K7h λq _=>?_;show decide (0<(stD q).length)=_;rw[J5]
theorem prt_len{f:Nat->Bool}:(prt l f).length=2↔l.filter f≠[]/\(l.filter λx=>!f x)≠[]:=by
 unfold prt;cases e1:l.filter f<;>cases e2:(l.filter λx=>!f x)<;>simp
theorem zI0{f:Nat->Bool}(h1:l.filter f≠[])(h2:(l.filter λx=>!f x)≠[]):prt l f=[l.filter f,l.filter λx=>!f x]:=by
 unfold prt;cases e1:l.filter f<;>cases e2:(l.filter λx=>!f x)<;>simp_all
end
def ByN(mk:List (List Str))(bl:Bl)(k:Nat)(y:D):Prop:=(∃x∈blk bl k,∃s∈mkAt mk x,y=.str s)\/∃k':Nat,y=.int (k':Nat)/\k'∈bl.map (·.1)
theorem ByN.ok{bl:Bl}{k:Nat}{y:D}(h:ByN mk bl k y):ByOk bl y:=by
 rcases h with ⟨_,_,s,_,e⟩|h
 ·exact .inl ⟨s,e⟩
 ·exact .inr h
def z70(mk:List (List Str)):D->List D
 | .int x=>(mkAt mk x.toNat).map .str
 | _=>[]
theorem zv2{mk:List (List Str)}(m8:∀l∈mk,l.length<=8):∀l:List Nat,((stD l).flatMap (z70 mk)).length<=l.length * 8
 | []=>by simp[stD]
 | x::l=>by
  have ih:=zv2 m8 l;show ((D.int (x:Nat)::stD l).flatMap (z70 mk)).length<=_;rw[K2n,K02,K0d];have:(z70 mk (.int (x:Nat))).length<=8:=by
   show ((mkAt mk ((x:Nat):Int).toNat).map D.str).length<=8;rw[K03,K0k];unfold mkAt;by_cases hx:x<mk.length
   ·rw[K2 hx];exact m8 _ (K3l _)
   ·rw[K0h .(1)];simp
  omega
theorem zk5(e:me γ h=.ok (.ref i) h1)(q:h1[i]?=.(l xs)):z0e me γ h=.ok (.lst i xs) h1:=by
 have g:getL i h1=.ok xs h1:=by unfold getL;rw[q]
 unfold z0e;rw[M.bind_ok e];dsimp only;rw[M.bind_ok g];rfl
section
variable{bl:Bl}
theorem zs9(ma:MA st mk)(x:Nat):(nx st x).length<=40:=by
 have l2:=ma.l2;by_cases hx:x<.(c)
 ·have g:=K06 (z98 hx);exact K0z (z2T (ma.s1 _ g) (ma.s2 _ g)) l2
 ·unfold nx;rw[K0h .(1)];simp
theorem z92(pb:PB st.length bl){k:Nat}(hk:k∈bl.map (·.1)):(∀x∈blk bl k,x<st.length)/\(blk bl k).length<=st.length:=by
 have m:=pb.of_key hk;have lt:∀x∈blk bl k,x<st.length:=λx hx=>pb.lt m hx;exact⟨lt,z2T (pb.rise _ m) lt⟩
def cnds(mk:List (List Str))(bl:Bl)(k:Nat):List D:=(stD (blk bl k)).flatMap (z70 mk)++stD (bl.map (·.1))
def Fst(st:List .(19))(mk:List (List Str))(bl:Bl)(k:Nat)(y:D):Prop:=∃c p,bl[c]?=some p/\p.1=k/\(∀q∈bl.take c,∀z,ByN mk bl q.1 z->¬ Cut bl q.1 (bel st mk bl z))/\∃i:Nat,(cnds mk bl k)[i]?=some y/\∀z∈(cnds mk bl k).take i,¬ Cut bl k (bel st mk bl z)
theorem zy0(ma:MA st mk)(pb:PB st.length bl)(dc:Dic h b bl):∃d,z2U [maD st mk,.ref b] h=.ok d (h.set b (.dF (kvB bl)))/\((d=.non/\Done st mk bl)\/∃(k:Nat) (y:D),d=.tup .(q)/\ByN mk bl k y/\Fst st mk bl k y/\Cut bl k .(V)):=by
 have l2:=ma.l2;have lm:=ma.l3;obtain⟨hF,hhF⟩:∃hF,hF=h.set b (.dF (kvB bl)):=⟨_,rfl⟩;have dF:∀j,Dic (hF++j) b bl:=λj=>by rw[hhF];exact dc.set.app j
 have bln:=pb.len;have key:W (runF 6 z1i [maD st mk,.ref b]) h λd h'=>(∃j,h'=hF++j)/\((d=.non/\Done st mk bl)\/∃(k:Nat) (y:D),d=.tup .(q)/\ByN mk bl k y/\Fst st mk bl k y/\Cut bl k .(V)):=by
  refine z1V ?_;show W (z1i [some .(7),.(r b),none,none,none,none]) h _;unfold z1i;rw[w_cons];refine z15 (λc γ h'=>∃a e n y j,γ=[some .(7),.(r b),a,e,n,y]/\h'=hF++j/\∀p∈bl.take c,∀y,ByN mk bl p.1 y->¬ Cut bl p.1 .(V)) (λd h'=>(∃j,h'=hF++j)/\∃(k:Nat) (y:D),d=.tup .(q)/\ByN mk bl k y/\Fst st mk bl k y/\Cut bl k .(V)) ?_;refine W_of (v:=.con (stD (bl.map (·.1)))) (dc.walk .(a)) ?_;refine⟨⟨_,_,_,_,[],rfl,by rw[hhF];simp,by simp⟩,λ_ _ _ _=>trivial,?_,?_,?_⟩
  ·rintro c d γ _ hd ⟨a,e,n,y,j,rfl,rfl,no⟩;obtain⟨k,rfl,ek⟩:=z4D hd;rw[K04]at ek;obtain⟨p,ep,rfl⟩:=K15.mp ek;have hp:=K06 ep;have hk:p.1∈bl.map (·.1):=K08.mpr ⟨p,hp,rfl⟩;obtain⟨blt,bll⟩:=z92 pb hk;refine W_eq (v:=[some .(7),.(r b),.(i (p.1:Nat)),e,n,y]) rfl ?_;refine j8 (.tup (stD (blk bl p.1))) [some .(7),.(r b),.(i (p.1:Nat)),.(g ((stD (blk bl p.1)))),n,y] (e2_h .(a) .(a) ((dF j).get hk)) rfl ?_;obtain⟨nm,hnm⟩:∃nm,nm=(stD (blk bl p.1)).flatMap (z70 mk):=⟨_,rfl⟩;have nml:nm.length<=320:=by
    have:=zv2 (mk:=mk) (λl hl=>(ma.m1 l hl).len) (blk bl p.1);rw[<- hnm]at this;omega
   refine j8 (.ref (hF++j).length) .(J) (h1:=hF++j++[.lst nm]) ?_ rfl ?_
   ·rw[hnm];refine zH0 (src:=.con (stD (blk bl p.1))) (z70 mk) (z0N .(a)) .(W) (by show ((stD (blk bl p.1)).flatMap (z70 mk)).length<=_;rw[<- hnm];omega) λd hd=>?_;obtain⟨x,hx,rfl⟩:=K08.mp (show d∈(blk bl p.1).map _ from hd);have hx':=blt x hx;refine⟨[some .(7),.(i (x:Nat)),none],λh=>rfl,λj'=>?_,λy hy=>⟨[some .(7),.(i (x:Nat)),some y],λh=>rfl,λh=>rfl,λj'=>rfl⟩⟩;refine z0N ?_;refine e2_h .(18) .(a) ?_;rw[ix_tup (z5R (show x<mk.length by omega))];show Res.ok (D.tup (((mk[x]?).getD []).map .str)) _=Res.ok (D.tup (z70 mk (.int (x:Nat)))) _;rfl
   obtain⟨L,hL⟩:∃L,L=nm++stD (bl.map (·.1)):=⟨_,rfl⟩;have Lc:cnds mk bl p.1=L:=by rw[hL,hnm];rfl
   have Ll:L.length<=400:=by rw[hL,K02,J5,K03];omega
   obtain⟨j1,hj1⟩:∃j1,j1=j++[O.lst nm]++[O.lst L]:=⟨_,rfl⟩;have inL:∀y,y∈L↔ByN mk bl p.1 y:=λy=>by
    rw[hL,K1c,hnm,K63];unfold ByN;refine or_congr ⟨?_,?_⟩ ⟨?_,?_⟩
    ·rintro⟨d,hd,hy⟩;obtain⟨x,hx,rfl⟩:=K08.mp (show d∈(blk bl p.1).map _ from hd);obtain⟨s,hs,rfl⟩:=K08.mp (show y∈(mkAt mk ((x:Nat):Int).toNat).map D.str from hy);exact⟨x,hx,s,hs,rfl⟩
    ·rintro⟨x,hx,s,hs,rfl⟩;exact⟨.int (x:Nat),K08.mpr ⟨x,hx,rfl⟩,K08.mpr ⟨s,hs,rfl⟩⟩
    ·intro hy;obtain⟨k',hk',rfl⟩:=K08.mp (show y∈(bl.map (·.1)).map _ from hy);exact⟨k',rfl,hk'⟩
    ·rintro⟨k',rfl,hk'⟩;exact K08.mpr ⟨k',hk',rfl⟩
   refine z2s (λγ h'=>∃y j,γ=[some .(7),.(r b),.(i (p.1:Nat)),.(g ((stD (blk bl p.1)))),.(r ((hF++(j1.take (j1.length - 2))).length)),y]/\h'=hF++j/\∀y∈L,¬ Cut bl p.1 .(V)) ?_ ?_
   ·refine z15 (λc γ h'=>∃y j,γ=[some .(7),.(r b),.(i (p.1:Nat)),.(g ((stD (blk bl p.1)))),.(r ((hF++(j1.take (j1.length - 2))).length)),y]/\h'=hF++(j1++j)/\∀y∈L.take c,¬ Cut bl p.1 .(V)) (λd h'=>(∃j,h'=hF++j)/\∃y,d=.tup [.int (p.1:Nat),y]/\ByN mk bl p.1 y/\(∃i:Nat,(cnds mk bl p.1)[i]?=some y/\∀z∈(cnds mk bl p.1).take i,¬ Cut bl p.1 (bel st mk bl z))/\Cut bl p.1 .(V)) ?_;have jt:j1.take (j1.length - 2)=j:=by rw[hj1];simp
    rw[jt];have srcE:z0e (eLst (z9W (eVar 4) (z5v .(j) aNil))) .(J) (hF++j++[.lst nm])=.ok (.lst (hF++j++[O.lst nm]).length L) (hF++j++[.lst nm]++[.lst L]):=by
     refine zk5 (i:=(hF++j++[O.lst nm]).length) (h1:=hF++j++[O.lst nm]++[O.lst L]) (xs:=L) ?_ j9;unfold eLst;have g1:getL (hF++j).length (hF++j++[O.lst nm])=.ok nm (hF++j++[.lst nm]):=by unfold getL;rw[j9]
     have d1:Dic (hF++j++[O.lst nm]) b bl:=(dF j).app _;have s2:z5v .(j) aNil .(J) (hF++j++[.lst nm])=.ok (stD (bl.map (·.1))) (hF++j++[.lst nm]):=by
      unfold z5v;rw[M.bind_ok (z9 (γ:=.(J)) (a:=1) rfl)];show (z4Q b >>= _) _=_;rw[M.bind_ok d1.dk,zH4];show Res.ok (stD (bl.map (·.1))++[]) _=_;rw[K1d]
     have s1:z9W (eVar 4) (z5v .(j) aNil) .(J) (hF++j++[.lst nm])=.ok L (hF++j++[.lst nm]):=by
      unfold z9W;rw[M.bind_ok (z9 (γ:=.(J)) (a:=4) rfl)];show (getL (hF++j).length >>= _) _=_;rw[M.bind_ok g1,M.bind_ok s2,hL];rfl
     rw[M.bind_ok s1];exact z6y .(1)
    have eqH:hF++j++[O.lst nm]++[O.lst L]=hF++j1:=by rw[hj1];simp
    have atL:∀j',(hF++(j1++j'))[(hF++j++[O.lst nm]).length]?=.(l L):=λj'=>by
     rw[hj1];have:hF++(j++[O.lst nm]++[O.lst L]++j')=hF++j++[O.lst nm]++[O.lst L]++j':=by simp
     rw[this];exact w4 j9
    refine W_of srcE ?_;refine⟨⟨_,[],rfl,by rw[eqH,K1d],by simp⟩,λc γ h' ⟨_,j',_,e,_⟩=>by rw[e];exact atL j',?_,?_,?_⟩
    ·rintro c y2 γ _ hy ⟨y3,j3,rfl,rfl,no2⟩;have hy:L[c]?=some y2:=hy;have okB:=(inL y2).mp (K06 hy);refine W_eq (v:=[some .(7),.(r b),.(i (p.1:Nat)),.(g ((stD (blk bl p.1)))),.(r ((hF++j).length)),some y2]) rfl ?_;have pd:=z8C (d:=y2) (l:=blk bl p.1) (z3S ma) lm (dF (j1++j3)) blt .(1) (zs9 ma) okB.ok;refine zY3 (decide ((prt (blk bl p.1) (bel st mk bl y2)).length=2)) (h1:=hF++(j1++j3)++[.lst (stsD (prt (blk bl p.1) (bel st mk bl y2)))]) ((cb_h (e2_h (j5 (fn_h (ds:=[maD st mk,.ref b,.tup (stD (blk bl p.1)),y2]) (ac_h .(a) (ac_h .(a) .(G))) rfl pd) (z5n j9)) (y:=.int 2) rfl (by rw[zd1];rfl))).trans ?_) ?_
     ·congr 1;rw[K1h,decide_eq_decide];unfold stsD;rw[K03];omega
     by_cases q:(prt (blk bl p.1) (bel st mk bl y2)).length=2
     ·rw[.(s) q,if_pos rfl];obtain⟨q1,q2⟩:=prt_len.mp q;refine z0v (Y5 (.tup [.int (p.1:Nat),y2]) (z2Y .(a) .(a)) ⟨⟨_,by rw[K0e]⟩,y2,rfl,okB,⟨c,by rw[Lc];exact hy,by rw[Lc];exact no2⟩,hk,q1,q2⟩)
     ·rw[.(y) q,if_neg .(0)];refine y6 (Y6 ⟨_,j3++_,rfl,by rw[K0e,K0e],λz hz=>?_⟩);rw[K2m,hy]at hz;rcases K1c.mp hz with hz|hz
      ·exact no2 z hz
      ·simp at hz;subst hz;exact λc=>q (prt_len.mpr ⟨c.hy,c.hn⟩)
    ·rintro γ h' ⟨y3,j3,rfl,rfl,no2⟩;rw[show (Src.lst (hF++j++[O.lst nm]).length L).items.length=L.length from rfl,K1g]at no2;exact⟨_,_,rfl,rfl,no2⟩
    ·rintro d h' ⟨ej,y2,rfl,okB,fi,cc⟩;exact⟨ej,p.1,y2,rfl,okB,⟨c,p,ep,rfl,no,fi⟩,cc⟩
   rintro _ _ ⟨y3,j3,rfl,rfl,no2⟩;refine Y6 ⟨_,_,_,_,j3,rfl,rfl,λr hr y hy=>?_⟩;rw[K2m,ep]at hr;rcases K1c.mp hr with hr|hr
   ·exact no r hr y hy
   ·simp at hr;subst hr;exact no2 y ((inL y).mpr hy)
  ·rintro γ _ ⟨a,e,n,y,j,rfl,rfl,no⟩;rw[show (Src.con (stD (bl.map (·.1)))).items.length=bl.length by show (stD (bl.map (·.1))).length=_;rw[J5,K03],K1g]at no;refine Y5 .non rfl ⟨⟨j,rfl⟩,.inl ⟨rfl,λp hp y hy=>no p hp y ?_⟩⟩;unfold ByN;rw[pb.blk hp];exact hy
  ·rintro d h' ⟨ej,k,y,rfl,okB,cc⟩;exact⟨ej,.inr ⟨k,y,rfl,okB,cc⟩⟩
 obtain⟨d,h',e,⟨j,rfl⟩,r⟩:=key;refine⟨d,?_,r⟩;show cln (runF 6 z1i [maD st mk,.ref b]) h=_;rw[<- hhF];refine zg2 e (by rw[hhF,K2a]) (by rw[hhF];exact z5K (refB _)) ?_;rcases r with ⟨rfl,_⟩|⟨k,y,rfl,okB,_⟩
 ·rfl
 ·rcases okB.ok with ⟨s,rfl⟩|⟨k',rfl,_⟩<;>rfl
theorem zu6{k:Nat}{y y':D}(f:Fst st mk bl k y)(b:ByN mk bl k y)(c:Cut bl k .(V))(f':Fst st mk bl k' y')(b':ByN mk bl k' y')(c':Cut bl k' (bel st mk bl y')):k=k'/\y=y':=by
 obtain⟨n,p,ep,rfl,no,i,ei,ni⟩:=f;obtain⟨n',p',ep',rfl,no',i',ei',ni'⟩:=f';have tk:∀{α:Type} {l:List α} {a b:Nat} {x:α},l[a]?=some x->a<b->x∈l.take b:=λ{α l a b x} e h=>K06 (i:=a) (by rw[K32,if_pos h];exact e);rcases Z1j n n' with h|h|h
 ·exact absurd c (no' p (tk ep h) y b)
 ·subst h;rw[ep]at ep';cases ep';rcases Z1j i i' with h|h|h
  ·exact absurd c (ni' y (tk ei h))
  ·subst h;rw[ei]at ei';cases ei';exact⟨rfl,rfl⟩
  ·exact absurd c' (ni y' (tk ei' h))
 ·exact absurd c' (no p' (tk ep' h) y' b')
end
def blkE(bl:Bl):D->Key×D
 | .int k=>(.inl k,.tup (stD (blk bl k.toNat)))
 | _=>(.inl 0,.non)
theorem zt8{bl:Bl}(pb:PB n bl):(stD (bl.map (·.1))).map (blkE bl)=kvB bl:=by
 unfold stD kvB;rw[K0g,K0g];refine K2u λp hp=>?_;show ((.inl ((p.1:Nat):Int):Key),D.tup (stD (blk bl ((p.1:Nat):Int).toNat)))=_;rw[K0k,pb.blk hp]
theorem zG4(nd:l.Nodup){f:D->Key×D}(hf:∀x:Nat,(f (.int x)).1=.inl (x:Int)):((stD l).map λd=>(f d).1).Nodup:=by
 have e:((stD l).map λd=>(f d).1)=l.map λ(x:Nat)=>(.inl (x:Int):Key):=by
  unfold stD;rw[K0g];exact K2u λx _=>hf x
 rw[e];exact K9y _ (λa b h e=>h (inl_inj.mp e)) nd
section
variable{bl:Bl}
theorem zN1{k:Nat}{y:D}(ma:MA st mk)(pb:PB st.length bl)(dc:Dic h b bl)(ok:ByOk bl y)(ct:Cut bl k .(V)):z4p [maD st mk,.ref b,.tup .(q)] h=.ok .(R) (h.set b (.dF (kvB bl))++[.dK (kvB (cutB bl k .(V)))]):=by
 have l2:=ma.l2;have bln:=pb.len;obtain⟨hF,hhF⟩:∃hF,hF=h.set b (.dF (kvB bl)):=⟨_,rfl⟩;have dF:∀j,Dic (hF++j) b bl:=λj=>by rw[hhF];exact dc.set.app j
 have lF:hF.length=h.length:=by rw[hhF,K2a]
 obtain⟨f,hf⟩:∃f,f=bel st mk bl y:=⟨_,rfl⟩;obtain⟨blt,bll⟩:=z92 pb ct.hk;obtain⟨T,hT⟩:∃T:Nat->Bl,T=λc=>(([yesL bl k f,noL bl k f]:List .(19)).take c).foldl (λacc q=>putB acc (q.headD 0) q) bl:=⟨_,rfl⟩;have key:W (runF 7 z2O [maD st mk,.ref b,.tup .(q)]) h λd h'=>d=.ref hF.length/\∃j,h'=hF++(.dK (kvB (cutB bl k f))::j):=by
  refine z1V ?_;show W (z2O [some .(7),.(r b),.(g .(q)),none,none,none,none]) h _;unfold z2O z7T;refine z9u (.tup .(q)) [some .(7),.(r b),.(g .(q)),.(i (k:Nat)),some y,none,none] rfl rfl ?_;refine j8 (.ref hF.length) [some .(7),.(r b),.(g .(q)),.(i (k:Nat)),some y,.(r hF.length),none] (h1:=hF++[.dK (kvB bl)]) ?_ rfl ?_
  ·have e:=zK5 (cap:=[some 1,none]) (mi:=iDic .(j)) (g:=gN 1) (kb:=λ_=>pure true) (me:=eVar 1) (mv:=e2 z2G .(h) .(j)) (γ:=[some .(7),.(r b),.(g .(q)),.(i (k:Nat)),some y,none,none]) (h:=h) (h1:=hF) (blkE bl) (src:=.con (stD (bl.map (·.1)))) (by rw[hhF];exact dc.walk .(a)) .(W) (zG4 pb.nd λx=>rfl) (by show (stD (bl.map (·.1))).length<=_;rw[J5,K03];omega) λd hd=>by
    obtain⟨x,hx,rfl⟩:=K08.mp (show d∈(bl.map (·.1)).map _ from hd);exact⟨[.(r b),.(i (x:Nat))],.int (x:Nat),λh=>rfl,λh=>rfl,rfl,λj=>rfl,λj=>e2_h .(a) .(a) ((dF j).get hx)⟩
   rw[show (Src.con (stD (bl.map (·.1)))).items=stD (bl.map (·.1)) from rfl,zt8 pb]at e;exact e
  have p2:prt (blk bl k) f=[yesL bl k f,noL bl k f]:=zI0 (by rw[hf];exact ct.hy) (by rw[hf];exact ct.hn);have pd:=z8C (h:=hF++[.dK (kvB bl)]) (d:=y) (l:=blk bl k) (z3S ma) ma.l3 (dF _) blt .(1) (zs9 ma) ok;rw[<- hf,p2]at pd;refine z2s (λγ h'=>∃a j,γ=[some .(7),.(r b),.(g .(q)),.(i (k:Nat)),some y,.(r (hF.length+0)),a]/\h'=hF++(.dK (kvB (T 2))::j)) ?_ ?_
  ·refine z15 (λc γ h'=>∃a,γ=[some .(7),.(r b),.(g .(q)),.(i (k:Nat)),some y,.(r (hF.length+0)),a]/\h'=hF++[.dK (kvB (T c)),.lst (stsD [yesL bl k f,noL bl k f])]) (λ_ _=>False) ?_;refine W_of (v:=.lst (hF++[O.dK (kvB bl)]).length (stsD [yesL bl k f,noL bl k f])) (zk5 (fn_h (ds:=[maD st mk,.ref b,.tup (stD (blk bl k)),y]) (ac_h .(a) (ac_h .(a) (ac_h (e2_h .(a) .(a) ((dF _).get ct.hk)) (ac_h .(a) rfl)))) rfl pd) j9) ?_;refine⟨⟨none,rfl,by rw[hT];simp⟩,λc γ h' ⟨_,_,e⟩=>?_,?_,?_,λ_ _ q=>q.elim⟩
   ·show h'[_]?=_;rw[e];have:(hF++[O.dK (kvB bl)]).length=hF.length+1:=by simp
    rw[this];exact at_E (l:=[_,_])
   ·rintro c d γ _ hd ⟨a,rfl,rfl⟩;obtain⟨q,eq,rfl⟩:∃q,([yesL bl k f,noL bl k f]:List .(19))[c]?=some q/\d=.tup (stD q):=by
     have hd:(stsD [yesL bl k f,noL bl k f])[c]?=some d:=hd;unfold stsD at hd;rw[K04]at hd;obtain⟨q,e1,e2⟩:=K15.mp hd;exact⟨q,e1,e2.symm⟩
    have qm:=K06 eq;have q0:q≠[]:=by
     simp at qm;rcases qm with rfl|rfl
     ·rw[hf];exact ct.hy
     ·rw[hf];exact ct.hn
    obtain⟨x,r,rfl⟩:∃x r,q=x::r:=by cases q with|nil=>exact absurd rfl q0|cons x r=>exact⟨x,r,rfl⟩
    refine W_eq (v:=.(L)) rfl ?_;have tc:T (c+1)=putB (T c) x (x::r):=by
     rw[hT];dsimp only;rw[K2m,eq,K4t];rfl
    have Tl:(T c).length<=100:=by
     have one:∀(bl:Bl) (k:Nat) (b:List Nat),(putB bl k b).length<=bl.length+1:=λbl k b=>by unfold putB;split<;>simp
     have:∀(l:List .(19)) (bl:Bl),(l.foldl (λacc q=>putB acc (q.headD 0) q) bl).length<=bl.length+l.length:=by
      intro l;induction l with
      | nil=>intro bl;simp
      | cons q l ih=>intro bl;have:=ih (putB bl (q.headD 0) q);have:=one bl (q.headD 0) q;simp only[K4j,K0d];omega
     have t1:=this (([yesL bl k f,noL bl k f]:List .(19)).take c) bl;rw[hT];dsimp only;have:(([yesL bl k f,noL bl k f]:List .(19)).take c).length<=2:=by rw[K19];simp;omega
     omega
    have put:gDx (eVar 5) (e2 fIx (eVar 6) .(3)) (.tup (stD (x::r))) .(L) (hF++[.dK (kvB (T c)),.lst (stsD [yesL bl k f,noL bl k f])])=.ok .(L) (hF++[.dK (kvB (T (c+1))),.lst (stsD [yesL bl k f,noL bl k f])]):=by
     unfold gDx;have e1:e2 fIx (eVar 6) .(3) .(L) (hF++[.dK (kvB (T c)),.lst (stsD [yesL bl k f,noL bl k f])])=.ok (.int (x:Nat)) _:=e2_h .(a) (y:=.int 0) rfl (by
      show fIx (.tup (.int (x:Nat)::stD r)) (.int 0) _=_;rw[ix0];rfl)
     rw[M.bind_ok (z9 (γ:=.(L)) (a:=5) rfl),M.bind_ok e1];have e3:z5P (.ref (hF.length+0)) (.int (x:Nat)) (.tup (stD (x::r))) (hF++[.dK (kvB (T c)),.lst (stsD [yesL bl k f,noL bl k f])])=.ok () (hF++[.dK (kvB (T (c+1))),.lst (stsD [yesL bl k f,noL bl k f])]):=by
      unfold z5P;dsimp only;rw[show keyD (.int (x:Nat))=some (.inl (x:Int)) from rfl];dsimp only;rw[at_E (l:=[_,_])];show (if (kvB (T c)).length<sizeLine then _ else _)=_;rw[if_pos (by unfold kvB;rw[K03];exact K29 Tl .(0)),zK7,ptB,<- tc];rfl
     rw[M.bind_ok e3];rfl
    refine(w_cons).mpr ?_;unfold sAsg;rw[j0];refine W_of .(a) ?_;rw[j0];refine W_of put ?_;rw[W_pure];exact Y6 ⟨_,rfl,rfl⟩
   ·rintro _ _ ⟨a,rfl,rfl⟩;exact⟨a,_,rfl,rfl⟩
  rintro _ _ ⟨a,j,rfl,rfl⟩;refine Y5 (.ref hF.length) .(a) ⟨rfl,j,?_⟩;rw[hT];rfl
 obtain⟨d,h',e,rfl,j,rfl⟩:=key;show cln (runF 7 z2O [maD st mk,.ref b,.tup .(q)]) h=_;rw[<- hhF,<- hf];exact z2g e lF (by rw[hhF];exact z5K (refB _)) .(1) (by rw[K1i .(1)];simp) (refB _)
end
def rowB(n:Nat)(bl:Bl):List Nat:=(K7 n).map λx=>(z0R (bl.map (·.1))).idxOf (keyOf bl x)
theorem zV4(nd:(kvs.map (·.1)).Nodup){k:Key}(h:(k,v)∈kvs):lkD kvs k=some v:=by
 induction kvs with
 | nil=>cases h
 | cons p r ih=>
  rw[K0v,K6c]at nd;unfold lkD;rw[K1m];rcases K0y.mp h with rfl|h
  ·rw[.(s) rfl];rfl
  ·have:p.1≠k:=λe=>nd.1 (by rw[e];exact K08.mpr ⟨_,h,rfl⟩);rw[.(y) this];exact ih nd.2 h
theorem zC8(e:kvs.map (·.1)=l.map λ(x:Nat)=>(.inl (x:Int):Key)):z3H (z2d kvs)=some (zN l):=by
 have:z2d kvs=stD l:=by
  unfold z2d stD;have h:=congrArg (List.map kD) e;rw[K0g,K0g]at h;exact h
 rw[this,z3F]
theorem z6I(g:z4Q n h=.ok kvs h)(e:kvs.map (·.1)=l.map λ(x:Nat)=>(.inl (x:Int):Key))(hl:l.length<64):z0A [.ref n] h=.ok .(R) (h++[.lst (stD (z0R l))]):=by
 show (z4Q n >>= _) h=_;rw[M.bind_ok g];show (match z3H (z2d kvs) with|some ns=>if ns.length<64 then newL ((sortI ns).map .int) else bad|none=>bad) h=_;rw[zC8 e];dsimp only;rw[if_pos (by unfold zN;rw[K03];omega),z4G];exact z6y (by rw[J5,z0D];omega)
theorem z2J{α β:Type}{f g:α->List β}:∀{l:List α},(∀x∈l,f x=g x)->l.flatMap f=l.flatMap g
 | [],_=>rfl
 | x::l,h=>by rw[K2n,K2n,h x .(f),z2J λy hy=>h y (by simp[hy])]
def z3n(bl:Bl):D->List D
 | .tup [_,.int k]=>stD (blk bl k.toNat)
 | _=>[]
def z71:D->D->Key×D
 | .tup [.int i,_],.int x=>(.inl x,.int i)
 | _,_=>(.inl 0,.non)
section
variable{bl:Bl}
theorem Z10(pb:PB n bl)(hn:n<=40)(dc:Dic h b bl):z6s [.ref b] h=.ok (.tup (stD (rowB n bl))) h:=by
 obtain⟨ks,hks⟩:∃ks,ks=z0R (bl.map (·.1)):=⟨_,rfl⟩;have bln:=pb.len;have kn:ks.Nodup:=by rw[hks];exact z58 (z21 pb.nd)
 have km:∀k,k∈ks↔k∈bl.map (·.1):=λk=>by rw[hks];exact sortN_mem
 have kl:ks.length=bl.length:=by rw[hks,z0D,K03]
 have keysE:(kvB bl).map (·.1)=(bl.map (·.1)).map λ(x:Nat)=>(.inl (x:Int):Key):=by unfold kvB;rw[K0g,K0g];rfl
 obtain⟨xs,hxs⟩:∃xs,xs=ks.flatMap (blk bl):=⟨_,rfl⟩;have xm:∀x,x∈xs↔x<n:=λx=>by
  rw[hxs,K63];constructor
  ·rintro⟨k,hk,hx⟩;exact((pb.in_blk ((km k).mp hk)).mp hx).1
  ·intro hx;exact⟨keyOf bl x,(km _).mpr (pb.keyin hx),(pb.at_ hx).2⟩
 have xn:xs.Nodup:=by
  rw[hxs];refine List.pairwise_flatMap.mpr ⟨λk hk=>z58 (pb.rise _ (pb.of_key ((km k).mp hk))),?_⟩;refine K7p (λ{k k'} hk hk' ne x hx y hy e=>?_) kn;subst e;have a1:=((pb.in_blk ((km k).mp hk)).mp hx).2;have a2:=((pb.in_blk ((km k').mp hk')).mp hy).2;exact ne (a1.symm.trans a2)
 have xl:.(21)<=40:=by
  have:=xn.length_le_of_subset (l₂:=K7 n) λx hx=>K0q.mpr ((xm x).mp hx);simp at this;omega
 have xs':z0R xs=K7 n:=z2H (z21 xn) K4f λx=>by rw[sortN_mem,xm,K0q]
 obtain⟨it,hit⟩:∃it,it=z1C (stD ks):=⟨_,rfl⟩;have itE:it=(K7 ks.length).map λ(i:Nat)=>D.tup [.int (i:Nat),.int ((ks[i]?).getD 0:Nat)]:=by
  rw[hit];unfold z1C;rw[J5];refine K2u λi hi=>?_;have hi:=K0q.mp hi;have:((stD ks)[i]?).getD .non=.int ((ks[i]?).getD 0:Nat):=by
   unfold stD;rw[K04,K2 hi];rfl
  rw[this]
 have flat:∀(α:Type) (g:Nat->List α),(K7 ks.length).flatMap (λi=>g ((ks[i]?).getD 0))=ks.flatMap g:=λα g=>by
  have e:ks=(K7 ks.length).map λi=>(ks[i]?).getD 0:=by
   refine K1v λi=>?_;rw[K04];by_cases hi:i<ks.length
   ·rw[K16 hi,K2 hi];simp[K2 hi]
   ·rw[K0h .(1),K0h (by simpa using hi)];rfl
  conv=>rhs;rw[e]
  rw[K85]
 have yE:∀i:Nat,z3n bl (.tup [.int (i:Nat),.int ((ks[i]?).getD 0:Nat)])=stD (blk bl ((ks[i]?).getD 0)):=λi=>by
  show stD (blk bl (((ks[i]?).getD 0:Nat):Int).toNat)=_;rw[K0k]
 obtain⟨kv,hkv⟩:∃kv,kv=it.flatMap λd=>(z3n bl d).map (z71 d):=⟨_,rfl⟩;have kvK:kv.map (·.1)=xs.map λ(x:Nat)=>(.inl (x:Int):Key):=by
  rw[hkv,itE,K85,K64,hxs,K64,<- flat];refine z2J λi hi=>?_;rw[yE];unfold stD;rw[K0g,K0g];rfl
 have kvN:(kv.map (·.1)).Nodup:=by
  rw[kvK];exact K9y _ (λa b h e=>h (inl_inj.mp e)) xn
 have len1:(it.flatMap (z3n bl)).length=xs.length:=by
  have e:it.flatMap (z3n bl)=stD xs:=by
   rw[itE,K85,hxs];unfold stD;rw[K64,<- flat];exact z2J λi hi=>yE i
  rw[e,J5]
 show cln (runF 2 z3r [.ref b]) h=_;refine z0m (j:=[.lst (stD ks),.dK kv]) (z3P ?_) (z4H _);show W (z3r [.(r b),none]) h _;unfold z3r;have so:Z6 z0A .(X) [.(r b),none] h=.ok (.ref .(m)) (h++[.lst (stD ks)]):=j5 .(a) (by rw[z6I dc.dk keysE (by rw[K03];omega),hks]);have src:z8v (Z6 z0A .(X)) [.(r b),none] h=.ok (.obj .(m) (.lst (stD ks)) it) (h++[.lst (stD ks)]):=by
  unfold z8v;rw[M.bind_ok (ac_h so rfl:z8 (Z6 z0A .(X)) aNil [.(r b),none] h=.ok [.ref .(m)] _)];have g:getL h.length (h++[O.lst (stD ks)])=.ok (stD ks) (h++[.lst (stD ks)]):=by unfold getL;rw[j9]
  show (getL .(m) >>= λxs=>(pure (Src.obj .(m) (.lst xs) (z1C xs)):M Src)) _=_;rw[M.bind_ok g,hit];rfl
 refine j8 (.ref (h++[O.lst (stD ks)]).length) [.(r b),.(r ((h++[O.lst (stD ks)]).length))] (h1:=h++[.lst (stD ks)]++[.dK kv]) ?_ rfl ?_
 ·rw[hkv];refine zp8 (src:=.obj h.length (.lst (stD ks)) it) (z3n bl) z71 src (λj=>by show (_++j)[h.length]?=_;simp) ?_ ?_ λd hd=>?_
  ·have:=kvN;rw[hkv,K64]at this;have e:(it.flatMap λd=>(z3n bl d).map λy=>(z71 d y).1)=it.flatMap λd=>((z3n bl d).map (z71 d)).map (·.1):=z2J λd _=>by rw[K0g];rfl
   show (it.flatMap λd=>(z3n bl d).map λy=>(z71 d y).1).Nodup;rw[e];exact this
  ·show (it.flatMap (z3n bl)).length<=_;rw[len1];omega
  ·have hd:d∈it:=hd;rw[itE]at hd;obtain⟨i,hi,rfl⟩:=K08.mp hd;have hi:=K0q.mp hi;have hk:(ks[i]?).getD 0∈bl.map (·.1):=by
    rw[K2 hi];exact(km _).mp (K3l hi)
   refine⟨[.(r b),.(i (i:Nat)),.(i (((ks[i]?).getD 0:Nat))),none],λh=>rfl,λj=>z0N (e2_h .(a) .(a) ?_),λy hy=>?_⟩
   ·rw[yE];exact((dc.app _).app j).get hk
   ·rw[yE]at hy;obtain⟨x,hx,rfl⟩:=K08.mp hy;exact⟨[.(r b),.(i (i:Nat)),.(i (((ks[i]?).getD 0:Nat))),.(i (x:Nat))],.int (x:Nat),λh=>rfl,λh=>rfl,rfl,λj=>rfl,λj=>rfl⟩
 obtain⟨H,hH⟩:∃H,H=h++[O.lst (stD ks)]:=⟨_,rfl⟩;rw[<- hH];have gk:∀j:AH,z4Q H.length (H++[O.dK kv]++j)=.ok kv (H++[O.dK kv]++j):=λj=>by unfold z4Q;rw[w4 j9]
 have gk2:∀j:AH,getK H.length (H++[O.dK kv]++j)=.ok kv (H++[O.dK kv]++j):=λj=>by unfold getK;rw[w4 j9]
 refine Y5 (.tup (stD (rowB n bl))) (h1:=H++[.dK kv]) ?_ ⟨rfl,by rw[hH];simp⟩;refine z0m (j:=[.lst (stD (K7 n)),.lst (stD (rowB n bl))]) ?_ (z4H _);have so2:Z6 z0A .(11) [.(r b),.(r H.length)] (H++[O.dK kv])=.ok (.ref (H++[O.dK kv]).length) (H++[O.dK kv]++[.lst (stD (K7 n))]):=j5 .(a) (by
  have:=gk [];rw[K1d]at this;rw[z6I this kvK .(1),xs'])
 refine(j5 (d:=.ref (H++[O.dK kv]++[O.lst (stD (K7 n))]).length) (h1:=H++[O.dK kv]++[.lst (stD (K7 n))]++[.lst (stD (rowB n bl))]) ?_ (z5d j9)).trans .(f);have cs:=z3w (cap:=[some 1,none]) (mi:=z0e (Z6 z0A .(11))) (g:=gN 1) (kb:=λ_=>pure true) (me:=e2 z2G .(h) .(j)) (γ:=[.(r b),.(r H.length)]) (l:=K7 n) (λx=>.int ((z0R (bl.map (·.1))).idxOf (keyOf bl x):Nat)) (zk5 so2 j9) rfl (λj=>by show (_++j)[_]?=_;exact w4 j9) (by simp;omega) λx hx=>⟨[.(r H.length),.(i (x:Nat))],λh=>rfl,λj=>rfl,λj=>by
  have hx:=K0q.mp hx;refine e2_h .(a) .(a) ?_;show (getK H.length >>= _) _=_;rw[K0e,M.bind_ok (gk2 _)];show (match lkD kv (.inl (x:Int)) with|some d=>pure d|none=>bad) _=_;have kin:=(km _).mpr (pb.keyin hx);have il:=K0w.mpr kin;have gi:(ks[ks.idxOf (keyOf bl x)]?).getD 0=keyOf bl x:=by rw[z3k kin];rfl
  rw[zV4 kvN (v:=.int (ks.idxOf (keyOf bl x):Nat)) ?_,hks]
  ·rfl
  ·rw[hkv,itE,K63];refine⟨_,K08.mpr ⟨ks.idxOf (keyOf bl x),K0q.mpr il,rfl⟩,?_⟩;rw[yE,gi];exact K08.mpr ⟨.int (x:Nat),K08.mpr ⟨x,(pb.at_ hx).2,rfl⟩,rfl⟩⟩
 refine cs.trans ?_;congr 3;unfold rowB stD;rw[K0g];rfl
end
section
variable{bl:Bl}
inductive Cuts(st:List .(19))(mk:List (List Str))(bl0:Bl):List (Nat×D)->Bl->Prop
 | nil:Cuts st mk bl0 [] bl0
 | snoc {cs:List (Nat×D)} {bl:Bl} {k:Nat} {y:D}:Cuts st mk bl0 cs bl->ByN mk bl k y->Fst st mk bl k y->Cut bl k .(V)->Cuts st mk bl0 (cs++[(k,y)]) (cutB bl k .(V))
def Y2(cs:List (Nat×D)):List D:=cs.map λc=>.tup [.int (c.1:Nat),c.2]
theorem Cuts.len{bl0:Bl}{bl:Bl}(pb:PB n bl0)(c:Cuts st mk bl0 cs bl):PB n bl/\bl.length=bl0.length+cs.length:=by
 induction c with
 | nil=>exact⟨pb,rfl⟩
 | snoc c b f ct ih=>
  refine⟨z49 ih.1 ct,?_⟩;rw[z6n ih.1 ct,ih.2,K02];rfl
theorem z31{j:AH}(hb:h.length<=b):(h++j).set b o=h++j.set (b - h.length) o:=by rw[K3t _ _ hb]
theorem zK4{bl0 bl:Bl}(c:Cuts st mk bl0 cs bl):J8 n (Y2 cs)=true:=by
 refine z22 λd hd=>?_;obtain⟨p,hp,rfl⟩:=K08.mp hd;have:∀p∈cs,Y8 n p.2=true:=by
  clear hp hd;induction c with
  | nil=>intro p hp;cases hp
  | snoc c b f ct ih=>
   intro p hp;rcases K1c.mp hp with q|q
   ·exact ih p q
   ·simp at q;subst q;rcases b.ok with ⟨s,rfl⟩|⟨k',rfl,_⟩<;>rfl
 simp only[Y8,J8,K7o,Bool.true_and];exact this p hp
theorem z3C(ma:MA st mk):∃bl cs,z1Y [maD st mk] h=.ok (.tup [.tup (stD (rowB st.length bl)),.tup (Y2 cs)]) h/\PB st.length bl/\Done st mk bl/\Cuts st mk [(0,K7 st.length)] cs bl/\∀x y,x<st.length->y<st.length->(keyOf bl x=keyOf bl y↔Sim st mk x y):=by
 have l1:=ma.l1;have l2:=ma.l2;obtain⟨n,hn⟩:∃n,n=st.length:=⟨_,rfl⟩;have pb0:PB .(c) [(0,K7 .(c))]:=z2L .(1);have key:W (runF 4 z1T [maD st mk]) h λd h'=>(∃j,h'=h++j)/\∃bl cs,d=.tup [.tup (stD .(12)),.tup (Y2 cs)]/\PB .(c) bl/\Done st mk bl/\Cuts st mk [(0,K7 .(c))] cs bl/\∀E,Stb st mk E->∀x y,E x y->keyOf bl x=keyOf bl y:=by
  refine z1V ?_;show W (z1T [some .(7),none,none,none]) h _;unfold z1T;refine j8 (.ref .(m)) [some .(7),.(r .(m)),none,none] (fn_h (ds:=[maD st mk]) (ac_h .(a) rfl) rfl (zk4 l2)) rfl ?_;refine z5i (xs:=[]) .(f) (λh=>rfl) ?_;obtain⟨H0,hH0⟩:∃H0,H0=h++[O.dK (kvB [(0,K7 .(c))])]++[O.lst []]:=⟨_,rfl⟩;have d0:Dic H0 .(m) [(0,K7 .(c))]:=by rw[hH0];exact Dic.app (.inl j9) _
  obtain⟨d,ed,dd⟩:=zy0 ma pb0 d0;refine j8 d [some .(7),.(r .(m)),.(r (.(m)+1)),some d] (h1:=H0.set .(m) (.dF (kvB [(0,K7 .(c))]))) ?_ ?_ ?_
  ·rw[<- hH0];exact fn_h (ds:=[maD st mk,.ref .(m)]) .(G) rfl ed
  ·show (pure _:M G)=_;simp
  refine zB5 (m:=n) (λm γ H=>∃bl b c cs d,γ=[some .(7),.(r b),.(r c),some d]/\(∃j,H=h++j)/\.(m)<=b/\.(m)<=c/\Dic H b bl/\H[c]?=.(l (Y2 cs))/\PB .(c) bl/\Cuts st mk [(0,K7 .(c))] cs bl/\(∀E,Stb st mk E->∀x y,E x y->keyOf bl x=keyOf bl y)/\m+bl.length=n+1/\((d=.non/\Done st mk bl)\/∃(k:Nat) (y:D),d=.tup .(q)/\ByN mk bl k y/\Fst st mk bl k y/\Cut bl k .(V))) .(1) ?_ ?_
  ·refine⟨_,h.length,h.length+1,[],d,rfl,⟨[.dF (kvB [(0,K7 st.length)]),.lst []],by rw[hH0];simp⟩,by omega,by omega,d0.set,?_,pb0,.nil,λE s x y e=>?_,by simp,dd⟩
   ·rw[K0f .(1),hH0];simp[Y2]
   ·obtain⟨hx,hy⟩:=s.lt x y e;rw[pb0.key (p:=(0,K7 st.length)) .(f) (K0q.mpr hx),pb0.key (p:=(0,K7 st.length)) .(f) (K0q.mpr hy)]
  ·rintro m _ H ⟨bl,b,c,cs,d,rfl,⟨j,rfl⟩,hb,hc,dc,ec,pb,cu,co,em,dd⟩;rcases dd with ⟨rfl,dn⟩|⟨k,y,rfl,bn,fs,ct⟩
   ·refine⟨false,by rfl,?_⟩;rw[if_neg .(0)];refine Y5 (.tup [.tup (stD .(12)),.tup (Y2 cs)]) (z2Y (fn_h (ds:=[.ref b]) (ac_h .(a) rfl) rfl (Z10 pb l2 dc)) (j5 .(a) (z5d ec))) ⟨⟨j,rfl⟩,bl,cs,rfl,pb,dn,cu,co⟩
   ·refine⟨true,by rfl,?_⟩;rw[if_pos rfl];have pb':=z49 pb ct;have bl':=pb'.len;rw[z6n pb ct]at bl';refine⟨m - 1,by omega,?_⟩;have bnc:b≠c:=λe=>by
     rw[e]at dc;rcases dc with q|q<;>(rw[ec]at q;cases q)
    have csl:=(cu.len pb0).2;refine z0S (a:=2) rfl ec (by unfold Y2;rw[K03];simp at csl;omega) .(a) ?_;have ecs:Y2 cs++[.tup .(q)]=Y2 (cs++[(k,y)]):=by unfold Y2;simp
    rw[ecs,z31 hc];obtain⟨j1,hj1⟩:∃j1,j1=j.set (c - .(m)) (.lst (Y2 (cs++[(k,y)]))):=⟨_,rfl⟩;rw[<- hj1];have e1:h++j1=(h++j).set c (.lst (Y2 (cs++[(k,y)]))):=by rw[hj1,z31 hc]
    have dc1:Dic (h++j1) b bl:=by
     rw[e1];unfold Dic;rw[K0f (K3a bnc)];exact dc
    have ec1:(h++j1)[c]?=.(l ((Y2 (cs++[(k,y)])))):=by rw[e1];exact K0r (K5.mp ec).1
    obtain⟨j2,hj2⟩:∃j2,j2=j1.set (b - .(m)) (.dF (kvB bl))++[.dK (kvB (cutB bl k .(V)))]:=⟨_,rfl⟩;have e2':(h++j1).set b (.dF (kvB bl))++[.dK (kvB (cutB bl k .(V)))]=h++j2:=by rw[hj2,z31 hb,K0e]
    have eu:=zN1 ma pb dc1 bn.ok ct;rw[e2']at eu;refine j8 (.ref (h++j1).length) [some .(7),.(r ((h++j1).length)),.(r c),.(g .(q))] (fn_h (ds:=[maD st mk,.ref b,.tup .(q)]) (ac_h .(a) .(G)) rfl eu) rfl ?_;have dc2:Dic (h++j2) (h++j1).length (cutB bl k .(V)):=by
     rw[<- e2'];refine .inl ?_;rw[show (h++j1).length=((h++j1).set b (O.dF (kvB bl))).length by rw[K2a]];exact j9
    have cl1:=(K5.mp ec1).1;have ec2:(h++j2)[c]?=.(l ((Y2 (cs++[(k,y)])))):=by
     rw[<- e2',K0n (by rw[K2a];exact cl1),K0f bnc];exact ec1
    obtain⟨d',ed',dd'⟩:=zy0 ma pb' dc2;have b2:.(m)<=(h++j1).length:=by rw[K02];omega
    rw[z31 b2]at ed';refine j8 d' [some .(7),.(r ((h++j1).length)),.(r c),some d'] (fn_h (ds:=[maD st mk,.ref (h++j1).length]) .(G) rfl ed') rfl ?_;have dc3:=dc2.set;rw[z31 b2]at dc3;refine Y6 ⟨m - 1,K05 _,_,(h++j1).length,c,cs++[(k,y)],d',rfl,⟨_,rfl⟩,b2,hc,dc3,?_,pb',.snoc cu bn fs ct,λE s=>zQ0 pb s (co E s) bn.ok ct,by rw[z6n pb ct];omega,dd'⟩;rw[<- z31 b2,K0f .(1)];exact ec2
 obtain⟨d,h',e,⟨j,rfl⟩,bl,cs,rfl,pb,dn,cu,co⟩:=key;refine⟨bl,cs,?_,pb,dn,cu,λx y hx hy=>⟨λe=>⟨_,z8e ma pb dn,hx,hy,e⟩,λ⟨E,s,e⟩=>co E s x y e⟩⟩;show cln (runF 4 z1T [maD st mk]) h=_;refine z0m e ?_;simp only[Y8,J8,K7o,K0i];exact⟨z1w _,zK4 cu⟩
theorem z3D{bl0:Bl}{bl:Bl}(c:Cuts st mk bl0 cs bl):∀{cs':List (Nat×D)}{bl':Bl},Cuts st mk bl0 cs' bl'->cs.length=cs'.length->cs=cs'/\bl=bl':=by
 induction c with
 | nil=>
  intro cs' bl' c' e;cases c' with
  | nil=>exact⟨rfl,rfl⟩
  | snoc c b f ct=>simp at e
 | snoc c b f ct ih=>
  intro cs' bl' c' e;cases c' with
  | nil=>simp at e
  | snoc c2 b2 f2 ct2=>
   simp at e;obtain⟨rfl,rfl⟩:=ih c2 e;obtain⟨rfl,rfl⟩:=zu6 f b ct f2 b2 ct2;exact⟨rfl,rfl⟩
theorem z8I{bl0:Bl}{bl:Bl}(c:Cuts st mk bl0 cs bl):∀m,m<cs.length->∃bl1 k y,Cuts st mk bl0 (cs.take m) bl1/\Cuts st mk bl0 (cs.take (m+1)) (cutB bl1 k (bel st mk bl1 y))/\cs[m]?=some (k,y)/\ByN mk bl1 k y/\Cut bl1 k (bel st mk bl1 y):=by
 induction c with
 | nil=>intro m h;cases h
 | @snoc cs bl k y c b f ct ih=>
  intro m h;rw[K02]at h;by_cases e:m<cs.length
  ·obtain⟨bl1,k1,y1,c1,c2,q⟩:=ih m e;refine⟨bl1,k1,y1,?_,?_,?_,q.2⟩
   ·rw[K35 (K2f e)];exact c1
   ·rw[K35 e];exact c2
   ·rw[K0n e];exact q.1
  ·have:m=cs.length:=by simp at h;omega
   subst this;refine⟨bl,k,y,?_,?_,by simp,b,ct⟩
   ·rw[K35 (K05 _),K1g];exact c
   ·rw[K5y .(f)];exact .snoc c b f ct
theorem zJ9{bl:Bl}(pb:PB n bl)(dn:Done st mk bl){k:Nat}{y:D}(b:ByN mk bl k y)(c:Cut bl k .(V)):False:=by
 have hp:=pb.of_key c.hk;refine dn _ hp y ?_ c;exact b
theorem zj7{bl0:Bl}(pb0:PB n bl0){cs':List (Nat×D)}{bl bl':Bl}(c:Cuts st mk bl0 cs bl)(c':Cuts st mk bl0 cs' bl')(dn:Done st mk bl)(dn':Done st mk bl'):cs=cs'/\bl=bl':=by
 have lt:∀{cs cs':List (Nat×D)} {bl bl':Bl},Cuts st mk bl0 cs bl->Cuts st mk bl0 cs' bl'->Done st mk bl->¬ cs.length<cs'.length:=λ{cs cs' bl bl'} c c' dn h=>by
  obtain⟨bl1,k,y,c1,_,_,b,ct⟩:=z8I c' _ h;obtain⟨_,rfl⟩:=z3D c c1 (by simp;omega);exact zJ9 (c.len pb0).1 dn b ct
 have h1:=lt c c' dn;have h2:=lt c' c dn';exact z3D c c' .(1)
theorem zp7(pb:PB n bl)(hx:x<n)(hy:y<n):((rowB n bl)[x]?).getD 0=((rowB n bl)[y]?).getD 0↔keyOf bl x=keyOf bl y:=by
 unfold rowB;rw[K04,K04,K16 hx,K16 hy];show (z0R (bl.map (·.1))).idxOf (keyOf bl x)=(z0R (bl.map (·.1))).idxOf (keyOf bl y)↔_;have mx:keyOf bl x∈z0R (bl.map (·.1)):=sortN_mem.mpr (pb.keyin hx);have my:keyOf bl y∈z0R (bl.map (·.1)):=sortN_mem.mpr (pb.keyin hy);constructor
 ·intro e;have a:=z3k mx;rw[e,z3k my]at a;exact(K11 a).symm
 ·intro e;rw[e]
theorem z1D:(rowB n bl).length=n:=by unfold rowB;simp
end
section
variable{bl:Bl}
open Classical in
theorem z7D(ma:MA st mk)(hx:x<st.length)(hy:y<st.length):z5T [maD st mk,.int (x:Nat),.int (y:Nat)] h=.ok (.bl (decide (Sim st mk x y))) h:=by
 obtain⟨bl,cs,e,pb,dn,cu,co⟩:=z3C (h:=h) ma;refine zw0 (z3P ?_) rfl;show W (z6v [some .(7),.(i (x:Nat)),.(i (y:Nat)),none]) h _;unfold z6v;refine j8 (.tup (stD .(12))) [some .(7),.(i (x:Nat)),.(i (y:Nat)),.(g ((stD .(12))))] (e2_h (fn_h (ds:=[maD st mk]) (ac_h .(a) rfl) rfl e) (y:=.int 0) rfl (by rw[ix0];rfl)) rfl ?_;have at_:∀{z:Nat},z<.(c)->fIx (.tup (stD .(12))) (.int (z:Nat)) h=.ok (.int ((.(12)[z]?).getD 0:Nat)) h:=λ{z} hz=>by rw[ix_tup (z3V (by rw[z1D];exact hz))];rfl
 refine Y5 _ (e2_h (e2_h .(a) .(a) (at_ hx)) (e2_h .(a) .(a) (at_ hy)) (z2q (z12 (n:=23) _ _))) ⟨?_,rfl⟩;rw[K1h];exact congrArg D.bl (decide_eq_decide.mpr ((zp7 pb hx hy).trans (co x y hx hy)))
end
theorem zC1{e k:Nat}{R:List Sy}{y:D}(hc:h[c]?=.(l (ryD R)))(he:h[e]?=some (.dK kvs))(hk:lkD kvs (.inl (k:Int))=.(i (num k:Nat)))
 (hy:(∃s,y=.str s)\/∃k':Nat,y=.int (k':Nat)/\lkD kvs (.inl (k':Int))=.(i (num k':Nat))) (hl:R.length<=1000) :
 z3j [.ref c,.ref e,.int (k:Nat),y] h=.ok (.tup [.int ((R.length+1:Nat):Int),.int ((R.length+3:Nat):Int)]) (h.set c (.lst (ryD (cutR R num k y)))):=by
 have ne:c≠e:=λq=>by rw[q,he]at hc;cases hc
 have hE:∀o,(h.set c o)[e]?=some (.dK kvs):=λo=>by rw[K0f ne];exact he
 have cl:=(K5.mp hc).1;have hC:∀o,(h.set c o)[c]?=some o:=λo=>K0r cl;show cln (runF 6 z1q [.ref c,.ref e,.int (k:Nat),y]) h=_;refine zg2 (h0:=h.set c (.lst (ryD (cutR R num k y)))) (j:=[]) (z3P ?_) (by rw[K2a]) (z5K (zv9 _)) rfl;show W (z1q [.(r c),.(r e),.(i (k:Nat)),some y,none,none]) h _;unfold z1q;refine j8 (.int (num k:Nat)) [.(r c),.(r e),.(i (k:Nat)),some y,.(i (num k:Nat)),none] (e2_h .(a) .(a) (z9Y he rfl hk)) rfl ?_;refine j8 (.int (R.length:Nat)) .(17) (j5 .(a) (by rw[z5n hc,z3y])) rfl ?_;have w0:eIf (cVal (eIsi "str" (eVar 3))) (eTup (z8 (λ_=>pure (.str "mark")) (z8 (eVar 3) aNil))) (eTup (z8 (λ_=>pure (.str "step")) (z8 (e2 z2G .(j) (eVar 3)) aNil))) .(17) h=.ok (byR num y).d h:=by
  rcases hy with ⟨s,rfl⟩|⟨k',rfl,hk'⟩
  ·refine zD1 true (cv_h (z2k .(a) rfl)) ?_;rw[if_pos rfl];exact z2Y (x:=.str "mark") rfl .(a)
  ·refine zD1 false (cv_h (z2k .(a) rfl)) ?_;rw[if_neg .(0)];refine(z2Y (x:=.str "step") rfl (e2_h .(a) .(a) (z9Y he rfl hk'))).trans ?_;show Res.ok (D.tup [.str "step",.int (num k':Nat)]) h=.ok (.tup [.str "step",.int (num ((k':Nat):Int).toNat:Nat)]) h;rw[K0k]
 refine z0S (a:=0) rfl hc (by rw[z3y];omega) w0 ?_;rw[<- z5U];refine z0S (a:=0) (v:=(Sy.con (num k) R.length).d) rfl (hC _) (by rw[z3y];simp;omega) ?_ ?_
 ·unfold eTup;have:z8 (λ_=>pure (.str "and")) (z8 (eVar 4) .(Y)) .(17) (h.set c (.lst (ryD (R++[byR num y]))))=.ok [.str "and",.int (num k:Nat),.int (R.length:Nat)] _:=ac_h (d:=.str "and") rfl .(G);rw[M.bind_ok this];rfl
 rw[<- z5U,K8d];refine z0S (a:=0) (v:=(Sy.neg R.length).d) rfl (hC _) (by rw[z3y];simp;omega) (z2Y (x:=.str "not") rfl .(a)) ?_;rw[<- z5U,K8d];refine z0S (a:=0) (v:=(Sy.con (num k) (R.length+2)).d) rfl (hC _) (by rw[z3y];simp;omega) ?_ ?_
 ·unfold eTup;have:z8 (λ_=>pure (.str "and")) (z8 (eVar 4) (z8 (e2 fAdd (eVar 5) .(B)) aNil)) .(17) (h.set c (.lst (ryD (R++[byR num y]++[.con (num k) R.length]++[.neg R.length]))))=.ok [.str "and",.int (num k:Nat),.int ((R.length+2:Nat):Int)] _:=ac_h (d:=.str "and") rfl (ac_h .(a) (ac_h (e2_h .(a) (y:=.int 2) rfl (by rw[z1l];rfl)) rfl));rw[M.bind_ok this];rfl
 rw[<- z5U,K8d];refine Y5 _ (z2Y (e2_h .(a) (y:=.int 1) rfl (by rw[z1l];rfl)) (e2_h .(a) (y:=.int 3) rfl (by rw[z1l];rfl))) ⟨?_,?_⟩
 ·rfl
 ·rw[K1d];rfl
section
variable{bl0:Bl}
def blOf(st:List .(19))(mk:List (List Str))(bl0:Bl)(cs:List (Nat×D)):Bl:=cs.foldl (λbl c=>cutB bl c.1 (bel st mk bl c.2)) bl0
theorem z6S{p:Nat×D}:blOf st mk bl0 (cs++[p])=cutB (blOf st mk bl0 cs) p.1 (bel st mk (blOf st mk bl0 cs) p.2):=by unfold blOf;rw[K4t];rfl
theorem zD8{bl:Bl}(pb:PB n bl0)(c:Cuts st mk bl0 cs bl):bl=blOf st mk bl0 cs/\∀i p,cs[i]?=some p->PB n (blOf st mk bl0 (cs.take i))/\ByN mk (blOf st mk bl0 (cs.take i)) p.1 p.2/\Cut (blOf st mk bl0 (cs.take i)) p.1 (bel st mk (blOf st mk bl0 (cs.take i)) p.2):=by
 induction c with
 | nil=>exact⟨rfl,λi p e=>by simp at e⟩
 | @snoc cs bl k y c b fs ct ih=>
  obtain⟨e,hh⟩:=ih;refine⟨by rw[z6S,<- e],λi p ep=>?_⟩;by_cases hi:i<cs.length
  ·rw[K0n hi]at ep;rw[K35 .(1)];exact hh i p ep
  ·rw[K1i .(1)]at ep;have i0:i - cs.length=0:=by have:=(K5.mp ep).1;simpa using this
   rw[i0]at ep;simp at ep;subst ep;rw[show i=cs.length by omega,K8u rfl,<- e];exact⟨(c.len pb).1,b,ct⟩
def zA3(kvs:List (Key×D))(num:Nat->Nat)(bl:Bl):Prop:=∀k:Nat,k∈bl.map (·.1)->lkD kvs (.inl (k:Int))=.(i (num k:Nat))
theorem z8g(ma:MA st mk)(hx:x<st.length):∃R:List Sy,z2c [maD st mk,.int (x:Nat)] h=.ok (.tup (ryD R)) h/\1<=R.length/\R.length<=160/\(∀(i:Nat) (r:Sy),R[i]?=some r->r.ok i)/\∀z,z<st.length->(tv (trus st mk R) (R.length - 1) z=true↔Sim st mk z x):=by
 have l1:=ma.l1;have l2:=ma.l2;have sq:=z3S ma;obtain⟨bl,cs,ecl,pb,dn,cu,co⟩:=z3C (h:=h) ma;have pb0:PB .(c) [(0,K7 .(c))]:=z2L .(1);obtain⟨B,hB⟩:∃B:Nat->Bl,B=λi=>blOf st mk [(0,K7 .(c))] (cs.take i):=⟨_,rfl⟩;obtain⟨eb,at0⟩:=zD8 pb0 cu;have at_:∀i p,cs[i]?=some p->PB .(c) (B i)/\ByN mk (B i) p.1 p.2/\Cut (B i) p.1 (bel st mk (B i) p.2):=λi p e=>by rw[hB];exact at0 i p e
 have Bs:∀i p,cs[i]?=some p->B (i+1)=cutB (B i) p.1 (bel st mk (B i) p.2):=λi p e=>by
  rw[hB];dsimp only;rw[K2m,e];exact z6S
 have B0:B 0=[(0,K7 .(c))]:=by rw[hB];rfl
 have Bn:B cs.length=bl:=by rw[hB];dsimp only;rw[K1g,<- eb]
 have csl:cs.length+1<=40:=by
  have:=(cu.len pb0).2;have:=pb.len;simp at *;omega
 have z4W:(rowB .(c) bl).length=st.length:=z1D;obtain⟨row,hrow⟩:∃row,row=rowB .(c) bl:=⟨_,rfl⟩;have rowE:row=z2i .(c) bl:=by rw[hrow];rfl
 rw[<- hrow]at ecl z4W;have key:W (runF 14 z0Q [maD st mk,.int (x:Nat)]) h λd h'=>(∃j,h'=h++j)/\∃R,d=.tup (ryD R)/\1<=R.length/\R.length<=160/\(∀(i:Nat) (r:Sy),R[i]?=some r->r.ok i)/\∀z,z<.(c)->(tv (trus st mk R) (R.length - 1) z=true↔Sim st mk z x):=by
  refine z1V ?_;show W (z0Q [some .(7),.(i (x:Nat)),none,none,none,none,none,none,none,none,none,none,none,none]) h _;unfold z0Q;refine j8 (.tup [.tup .(v),.tup (Y2 cs)]) [some .(7),.(i (x:Nat)),.(g .(v)),.(g (Y2 cs)),none,none,none,none,none,none,none,none,none,none] (fn_h (ds:=[maD st mk]) (ac_h .(a) rfl) rfl ecl) rfl ?_;refine j8 (.ref .(m)) [some .(7),.(i (x:Nat)),.(g .(v)),.(g (Y2 cs)),.(r .(m)),none,none,none,none,none,none,none,none,none] (fn_h (ds:=[maD st mk]) (ac_h .(a) rfl) rfl (zk4 l2)) rfl ?_;obtain⟨g0,hg0⟩:∃g0,g0=h++[O.dK (kvB [(0,K7 .(c))])]:=⟨_,rfl⟩;rw[<- hg0];refine j8 (.ref g0.length) [some .(7),.(i (x:Nat)),.(g .(v)),.(g (Y2 cs)),.(r .(m)),.(r g0.length),none,none,none,none,none,none,none,none] (h1:=g0++[.lst (ryD [.yes])]) ?_ rfl ?_
  ·show eLst _ _ g0=_;rfl
  obtain⟨g1,hg1⟩:∃g1,g1=g0++[O.lst (ryD [.yes])]:=⟨_,rfl⟩;rw[<- hg1];refine j8 (.ref g1.length) [some .(7),.(i (x:Nat)),.(g .(v)),.(g (Y2 cs)),.(r .(m)),.(r g0.length),.(r g1.length),none,none,none,none,none,none,none] (h1:=g1++[.dK [(.inl 0,.int 0)]]) (zw6 (kk:=.inl 0) rfl rfl rfl) rfl ?_;have g0l:g0.length=h.length+1:=by rw[hg0];simp
  have g1l:g1.length=h.length+2:=by rw[hg1,K02,g0l];simp
  obtain⟨G,hG⟩:∃G:Nat->List (Option D)->List (Option D),G=λb t=>[some .(7),.(i (x:Nat)),.(g .(v)),.(g (Y2 cs)),.(r b),.(r g0.length),.(r g1.length)]++t:=⟨_,rfl⟩;refine z2s (λγ h'=>∃b t R num kvs j,t.length=7/\γ=G b t/\h'=h++j/\h'[g0.length]?=.(l (ryD R))/\h'[g1.length]?=some (.dK kvs)/\R.length=1+4 * cs.length/\zA3 kvs num bl/\Sg st mk R num bl) ?_ ?_
  ·refine z15 (λc γ h'=>∃b t R num kvs j,t.length=7/\γ=G b t/\h'=h++j/\.(m)<=b/\b≠g0.length/\b≠g1.length/\Dic h' b (B c)/\h'[g0.length]?=.(l (ryD R))/\h'[g1.length]?=some (.dK kvs)/\R.length=1+4 * c/\kvs.length<=1+40 * c/\zA3 kvs num (B c)/\Sg st mk R num (B c)) (λ_ _=>False) ?_;refine W_of (v:=.con (Y2 cs)) (z0N .(a)) ?_;refine⟨⟨h.length,_,[.yes],λ_=>0,[(.inl 0,.int 0)],[.dK (kvB [(0,K7 st.length)]),.lst (ryD [.yes]),.dK [(.inl 0,.int 0)]],?_,by rw[hG];rfl,by rw[hg1,hg0];simp,K05 _,by omega,by omega,?_,?_,j9,rfl,by simp,?_,?_⟩,λ_ _ _ _=>trivial,?_,?_,λ_ _ q=>q.elim⟩
   ·rfl
   ·rw[B0,hg1,hg0];exact Dic.app (Dic.app (.inl j9) _) _
   ·rw[hg1];exact w4 j9
   ·rw[B0];intro k hk;simp at hk;subst hk;rfl
   ·rw[B0];exact zp6 .(1)
   ·rintro c d γ h' hd ⟨b,t,R,num,kvs,j,ht,rfl,rfl,hb,b0,b1,dc,ec,ee,eR,ek,nk,sg⟩;obtain⟨p,ep,rfl⟩:∃p,cs[c]?=some p/\d=.tup [.int (p.1:Nat),p.2]:=by
     have hd:(Y2 cs)[c]?=some d:=hd;unfold Y2 at hd;rw[K04]at hd;obtain⟨p,e1,e2⟩:=K15.mp hd;exact⟨p,e1,e2.symm⟩
    obtain⟨k,y⟩:=p;obtain⟨pbc,bn,ct⟩:=at_ c _ ep;have eB:=Bs c _ ep;dsimp only at bn ct eB;have hc:=(K5.mp ep).1;obtain⟨f,hf⟩:∃f,f=bel st mk (B c) y:=⟨_,rfl⟩;obtain⟨t0,t1,t2,t3,t4,t5,t6,rfl⟩:∃t0 t1 t2 t3 t4 t5 t6,t=[t0,t1,t2,t3,t4,t5,t6]:=by
     match t,ht with
     | [t0,t1,t2,t3,t4,t5,t6],_=>exact⟨_,_,_,_,_,_,_,rfl⟩
    have RL:R.length<=160:=by omega
    rw[hG];refine W_eq (v:=[some .(7),.(i (x:Nat)),.(g .(v)),.(g (Y2 cs)),.(r b),.(r g0.length),.(r g1.length),.(g .(q)),t1,t2,t3,t4,t5,t6]) rfl ?_;refine j8 (.tup .(q)) [some .(7),.(i (x:Nat)),.(g .(v)),.(g (Y2 cs)),.(r b),.(r g0.length),.(r g1.length),.(g .(q)),.(i (k:Nat)),some y,t3,t4,t5,t6] .(a) rfl ?_;obtain⟨h1,hh1⟩:∃h1,h1=(h++j).set g0.length (.lst (ryD (cutR R num k y))):=⟨_,rfl⟩;have wr:=zC1 (h:=h++j) (c:=g0.length) (e:=g1.length) (k:=k) (y:=y) (num:=num) ec ee (nk k ct.hk) (by
     rcases bn.ok with q|⟨k',e,hk'⟩
     ·exact .inl q
     ·exact .inr ⟨k',e,nk k' hk'⟩) .(1)
    rw[<- hh1]at wr;refine j8 (.tup [.int ((R.length+1:Nat):Int),.int ((R.length+3:Nat):Int)]) [some .(7),.(i (x:Nat)),.(g .(v)),.(g (Y2 cs)),.(r b),.(r g0.length),.(r g1.length),.(g .(q)),.(i (k:Nat)),some y,.(i (((R.length+1:Nat):Int))),.(i (((R.length+3:Nat):Int))),t5,t6] (fn_h (ds:=[.ref g0.length,.ref g1.length,.int (k:Nat),y]) (ac_h .(a) (ac_h .(a) .(G))) rfl wr) rfl ?_;have g0lt:=(K5.mp ec).1;have g1lt:=(K5.mp ee).1;have l1':h1.length=(h++j).length:=by rw[hh1,K2a]
    have ec1:h1[g0.length]?=.(l ((ryD (cutR R num k y)))):=by rw[hh1];exact K0r g0lt
    have ee1:h1[g1.length]?=some (.dK kvs):=by rw[hh1,K0f .(1)];exact ee
    have dc1:Dic h1 b (B c):=by
     unfold Dic;rw[hh1,K0f .(1)];exact dc
    have blt:=dc1.lt;have eu:=zN1 (h:=h1) ma pbc dc1 bn.ok ct;rw[<- hf]at eB;rw[<- hf]at eu;rw[<- eB]at eu;obtain⟨a,ha⟩:∃a,a=h1.length:=⟨_,rfl⟩;obtain⟨h2,hh2⟩:∃h2,h2=h1.set b (.dF (kvB (B c)))++[.dK (kvB (B (c+1)))]:=⟨_,rfl⟩;rw[<- hh2,<- ha]at eu;refine j8 (.ref a) .(K) (fn_h (ds:=[maD st mk,.ref b,.tup .(q)]) (ac_h .(a) .(G)) rfl eu) rfl ?_;have keep:∀i,i<h1.length->i≠b->h2[i]?=h1[i]?:=λi hi ne=>by
     rw[hh2,K0n (by rw[K2a];exact hi),K0f (K3a ne)]
    have ec2:h2[g0.length]?=.(l ((ryD (cutR R num k y)))):=by rw[keep _ .(1) (K3a b0)];exact ec1
    have ee2:h2[g1.length]?=some (.dK kvs):=by rw[keep _ .(1) (K3a b1)];exact ee1
    have dcb:Dic h2 b (B c):=by rw[hh2];exact(dc1.set).app _
    have dca:Dic h2 a (B (c+1)):=by
     rw[hh2,ha];have:=j9 (h:=h1.set b (.dF (kvB (B c)))) (o:=.dK (kvB (B (c+1))));rw[K2a]at this;exact .inl this
    have pbn:PB .(c) (B (c+1)):=by rw[eB,hf];exact z49 pbc ct
    have sgn:=zS2 pbc sg (by
     rcases bn with ⟨z,hz,s,hs,e⟩|q
     ·refine .inl ⟨s,e,?_⟩;have hzl:=((pbc.in_blk ct.hk).mp hz).1;have l3:=ma.l3;exact(ma.m1 _ (K06 (z3s (show z<mk.length by omega)))).good s hs
     ·exact .inr q) ct (λx o ho=>z3o sq ho)
    rw[<- hf,<- eB]at sgn;obtain⟨N,hN⟩:∃N,N=cutN R num (B c) k f:=⟨_,rfl⟩;rw[<- hN]at sgn;have hal:.(m)<=a:=by rw[ha,l1',K02];omega
    obtain⟨ja,eja⟩:∃ja,h1=h++ja:=⟨_,by rw[hh1,z31 .(1)]⟩;obtain⟨jb,ejb⟩:∃jb,h2=h++jb:=⟨_,by rw[hh2,eja,z31 hb,K0e]⟩;have h2l:∃j2,h2.set a (.dF (kvB (B (c+1))))=h++j2:=⟨_,by rw[ejb,z31 hal]⟩;obtain⟨j2,ej2⟩:=h2l;obtain⟨h3,hh3⟩:∃h3,h3=h2.set a (.dF (kvB (B (c+1)))):=⟨_,rfl⟩;have al:g0.length<a/\g1.length<a/\b<a:=by rw[ha];omega
    have ec3:h3[g0.length]?=.(l ((ryD (cutR R num k y)))):=by rw[hh3,K0f .(1)];exact ec2
    have ee3:h3[g1.length]?=some (.dK kvs):=by rw[hh3,K0f .(1)];exact ee2
    have dcb3:Dic h3 b (B c):=by
     unfold Dic;rw[hh3,K0f .(1)];exact dcb
    have dca3:Dic h3 a (B (c+1)):=by rw[hh3];exact dca.set
    rw[<- hh3]at ej2;have g01:g0.length≠g1.length:=by omega
    have bnl:=pbn.len;refine z2s (λγ h'=>∃t6 kvs',γ=.(K)/\h'=h3.set g1.length (.dK kvs')/\kvs'.length<=kvs.length+40/\zA3 kvs' N (B (c+1))) ?_ ?_
    ·refine z15 (λi γ h'=>∃t6 kvs',γ=.(K)/\h'=h3.set g1.length (.dK kvs')/\kvs'.length<=kvs.length+i/\(∀k':Nat,k'∈((B (c+1)).map (·.1)).take i->lkD kvs' (.inl (k':Int))=.(i (N k':Nat)))/\∀k':Nat,k'∉((B (c+1)).map (·.1)).take i->lkD kvs' (.inl (k':Int))=lkD kvs (.inl (k':Int))) (λ_ _=>False) ?_;refine W_of (v:=.con (stD ((B (c+1)).map (·.1)))) (h1:=h3) (by rw[hh3];exact dca.walk .(a)) ?_;refine⟨⟨_,kvs,rfl,?_,by omega,by simp,λk' _=>rfl⟩,λ_ _ _ _=>trivial,?_,?_,λ_ _ q=>q.elim⟩
     ·rw[z8b ee3]
     ·rintro i d γ h' hd ⟨t6,kvs',rfl,rfl,el,e1,e2'⟩;obtain⟨one,rfl,e1k⟩:=z4D hd;have ok1:one∈(B (c+1)).map (·.1):=K06 e1k;have onl:=pbn.klt ok1;have il:=(K5.mp e1k).1;have knd:=pbn.nd;have fresh:one∉((B (c+1)).map (·.1)).take i:=λq=>by
       obtain⟨i',hi',e'⟩:=K2v q;rw[K19]at hi';rw[Z1e]at e';have e3:=(K5.mp e1k).2;have:=(K84 (h₀:=by omega) (h₁:=il) knd).mp (e'.trans e3.symm);omega
      rw[K03]at il;refine W_eq (v:=[some .(7),.(i (x:Nat)),.(g .(v)),.(g (Y2 cs)),.(r b),.(r g0.length),.(r g1.length),.(g .(q)),.(i (k:Nat)),some y,.(i (((R.length+1:Nat):Int))),.(i (((R.length+3:Nat):Int))),.(r a),.(i (one:Nat))]) rfl ?_;have dcb4:Dic (h3.set g1.length (.dK kvs')) b (B c):=by
       unfold Dic;rw[K0f (K3a b1)];exact dcb3
      have g1l3:=(K5.mp ee3).1;have tk:((B (c+1)).map (·.1)).take (i+1)=((B (c+1)).map (·.1)).take i++[one]:=by rw[K2m,e1k];rfl
      have test:cOr (λγ=>do let d <- e2 (fInD true) (eVar 13) (eVar 4) γ;asB d) (λγ=>do let d <- e2 (fEqX false) (eVar 13) (eVar 8) γ;asB d) [some .(7),.(i (x:Nat)),.(g .(v)),.(g (Y2 cs)),.(r b),.(r g0.length),.(r g1.length),.(g .(q)),.(i (k:Nat)),some y,.(i (((R.length+1:Nat):Int))),.(i (((R.length+3:Nat):Int))),.(r a),.(i (one:Nat))] (h3.set g1.length (.dK kvs'))=.ok (!decide (one∈(B c).map (·.1)/\one≠k)) (h3.set g1.length (.dK kvs')):=by
       by_cases q:one∈(B c).map (·.1)
       ·refine(z5k (cb_h (e2_h .(a) .(a) (by rw[dcb4.inD,.(s) q];rfl))) (cb_h (e2_h .(a) .(a) (z2q (z12 (n:=23) _ _))))).trans ?_;refine congrArg (λb=>Res.ok b (h3.set g1.length (.dK kvs'))) ?_;by_cases q2:one=k
        ·rw[.(s) q2,.(y) (λz=>z.2 q2)];rfl
        ·rw[.(y) q2,.(s) ⟨q,q2⟩];rfl
       ·refine(zx6 (cb_h (e2_h .(a) .(a) (by rw[dcb4.inD,.(y) q];rfl)))).trans ?_;rw[.(y) (λz=>q z.1)];rfl
      refine Y0 _ test ?_;by_cases q:one∈(B c).map (·.1)/\one≠k
      ·rw[.(s) q,if_neg .(0)];refine y6 (Y6 ⟨_,kvs',rfl,rfl,by omega,λk' hk'=>?_,λk' hk'=>e2' k' λz=>hk' (by rw[tk];exact K2j _ z)⟩);rw[tk]at hk';rcases K1c.mp hk' with z|z
       ·exact e1 k' z
       ·simp at z;subst z;rw[e2' _ fresh,nk _ q.1,hN];unfold cutN;rw[if_pos q]
      ·rw[.(y) q,if_pos .(0)];have bel1:=z76 (h:=h3.set g1.length (.dK kvs')) (b:=b) (x:=one) (d:=y) sq ma.l3 dcb4 onl (zs9 ma one) bn.ok;rw[<- hf]at bel1;have Nv:N one=if f one=true then R.length+1 else R.length+3:=by rw[hN];unfold cutN;rw[if_neg q]
       refine z0v (Z07 (i:=g1.length) (y:=.int (one:Nat)) (k:=.inl (one:Int)) (kvs:=kvs') (v:=.int (N one:Nat)) (zD1 (f one) (cv_h (fn_h (ds:=[maD st mk,.ref b,.int (one:Nat),y]) (ac_h .(a) (ac_h .(a) .(G))) rfl bel1)) ?_) rfl .(a) rfl (K0r g1l3) .(1) ?_)
       ·cases q3:f one with
        | true=>
         rw[q3,if_pos rfl]at Nv;rw[Nv,if_pos rfl];exact z9 rfl
        | false=>
         rw[q3,if_neg .(0)]at Nv;rw[Nv,if_neg .(0)];exact z9 rfl
       ·rw[K8d];refine y6 (Y6 ⟨_,ptD kvs' (.inl (one:Int)) (.int (N one:Nat)),rfl,rfl,by have:=zW5 (kvs:=kvs') (k:=.inl (one:Int)) (v:=.int (N one:Nat));omega,λk' hk'=>?_,λk' hk'=>?_⟩)
        ·rw[zw2];by_cases z:k'=one
         ·subst z;rw[if_pos rfl]
         ·rw[if_neg (λe=>z (inl_inj.mp e))];rw[tk]at hk';rcases K1c.mp hk' with w|w
          ·exact e1 k' w
          ·simp at w;exact absurd w z
        ·rw[tk]at hk';have ne:k'≠one:=λe=>hk' (by simp[e]);rw[zw2,if_neg (λe=>ne (inl_inj.mp e))];exact e2' k' λz=>hk' (K2j _ z)
     ·rintro γ h' ⟨t6,kvs',rfl,rfl,el,e1,e2'⟩;have ln:(Src.con (stD ((B (c+1)).map (·.1)))).items.length=((B (c+1)).map (·.1)).length:=J5 _;rw[ln]at el e1;rw[K1g]at e1;rw[K03]at el;exact⟨t6,kvs',rfl,rfl,by omega,e1⟩
    ·rintro _ _ ⟨t6,kvs',rfl,rfl,el,nk'⟩;refine j8 (.ref a) [some .(7),.(i (x:Nat)),.(g .(v)),.(g (Y2 cs)),.(r a),.(r g0.length),.(r g1.length),.(g .(q)),.(i (k:Nat)),some y,.(i (((R.length+1:Nat):Int))),.(i (((R.length+3:Nat):Int))),.(r a),t6] .(a) rfl ?_;have g1l3:=(K5.mp ee3).1;refine Y6 ⟨a,[.(g .(q)),.(i (k:Nat)),some y,.(i (((R.length+1:Nat):Int))),.(i (((R.length+3:Nat):Int))),.(r a),t6],cutR R num k y,N,kvs',j2.set (g1.length - .(m)) (.dK kvs'),rfl,rfl,?_,by omega,by omega,by omega,?_,?_,K0r g1l3,by rw[zq8];omega,by omega,nk',sgn⟩
     ·rw[ej2,z31 .(1)]
     ·unfold Dic;rw[K0f .(1)];exact dca3
     ·rw[K0f .(1)];exact ec3
   ·rintro γ h' ⟨b,t,R,num,kvs,j,ht,rfl,rfl,hb,b0,b1,dc,ec,ee,eR,ek,nk,sg⟩;have ln:(Src.con (Y2 cs)).items.length=cs.length:=by show (Y2 cs).length=_;unfold Y2;rw[K03]
    rw[ln]at eR nk sg;rw[Bn]at nk sg;exact⟨b,t,R,num,kvs,j,ht,rfl,rfl,ec,ee,eR,nk,sg⟩
  rintro _ _ ⟨b,t,R,num,kvs,j,ht,rfl,rfl,ec,ee,eR,nk,sg⟩;have kin:=pb.keyin hx;have lt:=sg.lt _ kin;rw[hG];have vals:∀a d,a<7->(.(S):List (Option D))[a]?=some (some d)->eVar a (.(S)++t) (h++j)=.ok d (h++j):=λa d ha e=>z9 (by rw[K0n (by simpa using ha)];exact e);have eix:e2 fIx .(w) .(j) (.(S)++t) (h++j)=.ok (.int (rowAt row x:Nat)) (h++j):=e2_h (vals 2 _ .(1) rfl) (vals 1 _ .(1) rfl) (by rw[ix_tup (z3V (by rw[z4W];exact hx))];rfl);have rin:rowAt row x∈row:=K06 (z0q (by rw[z4W];exact hx));have eidx:orE (eM1 z0w .(w) (e2 fIx .(w) .(j))) (z18 .(w) (e2 fIx .(w) .(j))) (.(S)++t) (h++j)=.ok (.int (keyOf bl x:Nat)) (h++j):=by
   have:=zo3 pb hx;rw[<- rowE]at this;rw[<- this];exact zT3 (vals 2 _ .(1) rfl) eix rin (by rw[z4W];omega)
  refine Y5 (.tup (ryD (R.take (num (keyOf bl x)+1)))) (j5 (tk_h (c:=num (keyOf bl x)+1) (vals 5 _ .(1) rfl) (e2_h (e2_h (vals 6 _ .(1) rfl) eidx (z9Y ee rfl (nk _ kin))) (y:=.int 1) rfl (by rw[z1l];rfl)) ec (by rw[z3y];omega)) (by rw[z5d j9];unfold ryD;rw[List.map_take])) ⟨⟨_,by rw[K0e]⟩,_,rfl,?_,?_,?_,?_⟩
  ·rw[K19];omega
  ·rw[K19];omega
  ·intro i r e;refine sg.ok i r ?_;by_cases hi:i<num (keyOf bl x)+1
   ·rw[K7v hi]at e;exact e
   ·rw[K0h (by rw[K19];omega)]at e;cases e
  ·intro z hz;have tl:(R.take (num (keyOf bl x)+1)).length - 1=num (keyOf bl x):=by rw[K19];omega
   rw[tl,zc2 .(1) .(1),sg.tr _ kin z hz,.(15)];exact co z x hz hx
 obtain⟨d,h',e,⟨j,rfl⟩,R,rfl,r1,r2,r3,r4⟩:=key;refine⟨R,?_,r1,r2,r3,r4⟩;show cln (runF 14 z0Q [maD st mk,.int (x:Nat)]) h=_;refine z0m e ?_;simp only[Y8];exact zv9 R
end
theorem zF4(h1:97<=c)(h2:c<=122):(K25 "abcdefghijklmnopqrstuvwxyz" ⟨#[c]⟩ 0 ("abcdefghijklmnopqrstuvwxyz":Str).length 1).isEmpty=false:=by
 have:∀k,k<26->(K25 "abcdefghijklmnopqrstuvwxyz" ⟨#[k+97]⟩ 0 ("abcdefghijklmnopqrstuvwxyz":Str).length 1).isEmpty=false:=by decide +kernel
 have q:=this (c - 97) .(1);rw[show c - 97+97=c by omega]at q;exact q
theorem zx5(g:z4m s):z0b [.str s] h=.ok (.bl true) h:=by
 obtain⟨g1,g2,g3,g4⟩:=g;obtain⟨ws,hws⟩:∃ws:List Str,ws=(["yes","no","not","and","or","step","some","all","next","once","ever","until","unless"]:List Str):=⟨_,rfl⟩;show cln (runF 2 w8 [.str s]) h=_;refine z0m (j:=[.lst (ws.map .str)]) (z3P ?_) rfl;show W (w8 [.(s s),none]) h _;unfold w8;refine z5i (xs:=ws.map .str) (by rw[hws];simp) (λh=>by rw[hws];rfl) ?_;have ln:Z6 fLen .(X) [.(s s),.(r .(m))] (h++[.lst (ws.map .str)])=.ok (.int s.length) (h++[.lst (ws.map .str)]):=by
  have:s.length<=sizeLine:=K0z g2 .(0);simp[Z6,z8,aNil,eVar,fLen,this]
 have inw:e2 (fIn false) .(h) .(j) [.(s s),.(r .(m))] (h++[.lst (ws.map .str)])=.ok (.bl (decide (s∈ws))) (h++[.lst (ws.map .str)]):=by
  refine e2_h .(a) .(a) ?_;have g:getL h.length (h++[O.lst (ws.map .str)])=.ok (ws.map .str) (h++[.lst (ws.map .str)]):=by unfold getL;rw[j9]
  unfold fIn seqD;rw[M.bind_ok g,z63,z3m];simp[z0M]
 have test:cOr (cNot (cVal (eIsi "str" .(h)))) (cOr (λγ=>do let d <- e2 fLt (Z6 fLen .(X)) .(6) γ;asB d) (cOr (λγ=>do let d <- e2 fGt (Z6 fLen .(X)) (λ_=>pure (.int 8)) γ;asB d) (λγ=>do let d <- e2 (fIn false) .(h) .(j) γ;asB d))) [.(s s),.(r .(m))] (h++[.lst (ws.map .str)])=.ok false (h++[.lst (ws.map .str)]):=by
  refine z5k (cn_h (b:=true) (cv_h (z2k .(a) rfl))) (z5k (cb_h (e2_h ln (y:=.int 1) rfl (by rw[zr2,.(y) .(1)];rfl))) (z5k (cb_h (e2_h ln (y:=.int 8) rfl (by rw[zk7,.(y) .(1)];rfl))) ?_));refine(cb_h inw).trans ?_;rw[.(y) (by rw[hws];exact g4)]
 refine Y0 false test ?_;rw[if_neg .(0)];refine y6 (Y5 (.bl true) ?_ ⟨rfl,rfl⟩);refine(zl3 (xs:=[]) (j:=[]) (neg:=false) ?_ .(f)).trans rfl;rw[K1d];refine(z1z (src:=.con (z37 s)) (λ_=>false) (λd=>d) ?_ .(W) (by unfold z37;show ((s.cps.toList.map _):List D).length<=_;rw[K03,<- len_str];omega) λd hd=>?_).trans ?_
 ·rfl
 ·have hd:d∈z37 s:=hd;unfold z37 at hd;obtain⟨c,hc,rfl⟩:=K08.mp hd;obtain⟨c1,c2⟩:=g3 c hc;refine⟨[.(s (⟨#[c]⟩))],λh=>rfl,λj=>?_,λq=>by cases q⟩;show Res.ok ((!(K25 "abcdefghijklmnopqrstuvwxyz" ⟨#[c]⟩ 0 ("abcdefghijklmnopqrstuvwxyz":Str).length 1).isEmpty) != true) _=_;rw[zF4 c1 c2];rfl
 ·rw[show (Src.con (z37 s)).items.filter (λ_=>false)=[] by simp];exact(z6y .(f)).symm
theorem zs0{bs:List Bool}(e:h[i]?=.(l (bs.map .bl))):fIn neg (.bl true) (.ref i) h=.ok (.bl (bs.any id != neg)) h:=by
 have g:getL i h=.ok (bs.map .bl) h:=by unfold getL;rw[e]
 have f1:(bs.map D.bl).all z0M=true:=K1t.mpr λd hd=>by obtain⟨b,_,rfl⟩:=K08.mp hd;rfl
 have f2:((bs.map D.bl).any λz=>eqF z (.bl true))=bs.any id:=by
  rw[K8f];congr 1;funext b;cases b<;>rfl
 show (getL i >>= λys=>if z0M (.bl true)&&ys.all z0M then pure (.bl ((ys.any λz=>eqF z (.bl true)) != neg)) else bad:M D) h=_;rw[M.bind_ok g,f1,f2];rfl
theorem rd_h{b:Bool}{l:List Bool}(e1:mT γ H=.ok (.ref L) H)(e2':mi γ H=.ok (.int (i:Nat)) H)(e3:mx γ H=.ok (.int (x:Nat)) H)(eL:H[L]?=.(l (refs.map .ref)))(ea:refs[i]?=some a)(el:H[a]?=.(l (l.map .bl)))(ex:l[x]?=some b):e2 fIx (e2 fIx mT mi) mx γ H=.ok (.bl b) H:=
 e2_h (e2_h e1 e2' (ix_h (d:=.ref a) eL (z0p (by rw[K04,ea];rfl)))) e3 (ix_h el (z0p (by rw[K04,ex];rfl)))
theorem zw7{ma:G->M D}{b:Bool}(e1:ma γ h=.ok (.bl b) h):eNot ma γ h=.ok (.bl (!b)) h:=by
 unfold eNot;rw[M.bind_ok e1,z0O];rfl
theorem zP5{ma:G->M D}{b c:Bool}(e1:ma γ h=.ok (.bl b) h)(e2':mb γ h=.ok (.bl c) h):eAnd ma mb γ h=.ok (.bl (b&&c)) h:=by
 unfold eAnd;rw[M.bind_ok e1,z0O];cases b with
 | false=>rfl
 | true=>exact e2'
theorem atI1{a b:D}{r:List D}:fIx (.tup (a::b::r)) (.int 1)=pure b:=ix_tup (z0p (j:=1) rfl)
theorem atI2{a b c:D}{r:List D}:fIx (.tup (a::b::c::r)) (.int 2)=pure c:=ix_tup (z0p (j:=2) rfl)
structure TR(n:Nat)(H:AH)(L:Nat)(refs:List Nat)(T:Tru):Prop where
 eL:H[L]?=.(l (refs.map .ref))
 len:refs.length=T.length
 at_:∀i,i<T.length->∃a l,refs[i]?=some a/\H[a]?=.(l (l.map .bl))/\T[i]?=some l/\l.length=n/\a≠L
theorem TR.app{T:Tru}(t:TR n H L refs T)(j:AH):TR n (H++j) L refs T:=
 ⟨w4 t.eL,t.len,λi hi=>by
  obtain⟨a,l,e1,e2,e3,e4,e5⟩:=t.at_ i hi;exact⟨a,l,e1,w4 e2,e3,e4,e5⟩⟩
theorem TR.rd{T:Tru}(t:TR n H L refs T)(e1:mT γ H=.ok (.ref L) H)(e2':mi γ H=.ok (.int (i:Nat)) H)(e3:mx γ H=.ok (.int (x:Nat)) H)(hi:i<T.length)(hx:x<n):e2 fIx (e2 fIx mT mi) mx γ H=.ok (.bl (tv T i x)) H:=by
 obtain⟨a,l,q1,q2,q3,q4,q5⟩:=t.at_ i hi;refine rd_h e1 e2' e3 t.eL q1 q2 ?_;unfold tv;rw[q3];show l[x]?=some ((l[x]?).getD false);rw[K2 .(1)];rfl
theorem TR.snoc{n:Nat}{H:AH}{L:Nat}{refs:List Nat}{T:Tru}(t:TR n H L refs T){l:List Bool}(hl:l.length=n):TR n ((H++[O.lst (l.map D.bl)]).set L (O.lst ((refs.map D.ref)++[D.ref H.length]))) L (refs++[H.length]) (T++[l]):=by
 have Ll:=(K5.mp t.eL).1;refine⟨?_,by rw[K02,K02,t.len];rfl,λi hi=>?_⟩
 ·rw[K0r (by rw[K02];omega),K2w];rfl
 ·rw[K02]at hi;by_cases q:i<T.length
  ·obtain⟨a,l',q1,q2,q3,q4,q5⟩:=t.at_ i q;refine⟨a,l',?_,?_,?_,q4,q5⟩
   ·rw[K0n (by rw[t.len];exact q)];exact q1
   ·rw[K0f (K3a q5)];exact w4 q2
   ·rw[K0n q];exact q3
  ·have ie:i=T.length:=by simp at hi;omega
   refine⟨H.length,l,?_,?_,?_,hl,by omega⟩
   ·rw[ie,<- t.len];simp
   ·rw[K0f .(1)];exact j9
   ·rw[ie];simp
theorem z1R{cap:List (Option Nat)}{g:D->G->M G}{me:G->M D}{r:Sy}{T:Tru}{E:Nat}(ea:γ[a]?=some (.(r E)))(e:H[E]?=.(l ((stD (K7 st.length)))))(hn:st.length<=40)
 (hd:∀x,x<.(c)->∃γ1,(∀h,g (.int x) (capG cap γ) h=.ok γ1 h)/\∀j,me γ1 (H++j)=.ok (.bl (r.f st mk T x)) (H++j)):Y7 cap (orE (x9 (eVar a)) (z0e (eVar a))) g .(o) me γ H=.ok (.ref H.length) (H++[O.lst ((r.t st mk T).map D.bl)]):=by
 refine(z3w (src:=.lst E (stD (K7 st.length))) (l:=K7 st.length) (λx=>.bl (r.f st mk T x)) (zB3 (z9 ea) e) rfl (λj=>w4 e) (by simp;omega) λx hx=>?_).trans ?_
 ·obtain⟨γ1,a1,a2⟩:=hd x (K0q.mp hx);exact⟨γ1,a1,λj=>rfl,a2⟩
 ·unfold Sy.t;rw[K0g];rfl
section
variable{w:Str}{zs:List D}{a:Str}
theorem z3b(ea:γ[5]?=some (.(g (.str a::zs))))(b:Bool)(hb:decide (a=w)=b):(λγ=>(do let d <- e2 (fEq false) (e2 fIx (eVar 5) .(3)) (λ_=>pure (.str w)) γ;asB d:M Bool)) γ H=.ok b H:=
 cb_h (e2_h (e2_h (z9 ea) (y:=.int 0) rfl (by rw[ix0];rfl)) (y:=.str w) rfl (by rw[zM0,hb,K1h];rfl))
theorem zf9(ea:γ[5]?=some (.(g (.str a::zs))))(hn:zs.length+1=n):(λγ=>(do let d <- e2 (fEq false) (Z6 fLen .(Y)) (λ_=>pure (.int (n:Nat))) γ;asB d:M Bool)) γ H=.ok true H:=
 cb_h (e2_h (j5 (z9 ea) (by rw[z17];rfl)) (y:=.int (n:Nat)) rfl (by
  rw[zd1,.(s) (by rw[K0d];omega)];rfl))
end
theorem zC0{a:Str}(e4:capG [some 4,none] γ=[.(i (c:Nat)),none])(ea:γ[5]?=some (.(g (.str a::stD l))))(hl:∀i∈l,i<c)(l3:l.length<=3):clT (λγ=>do let d <- e2 (fEqX true) (Y7 [some 4,none] (orE (x9 (z35 (eVar 5) (z4R .(6)) z5g)) (z0e (z35 (eVar 5) (z4R .(6)) z5g))) (gN 1) (cNot (cVal (eFn 3 x6 (z8 .(j) (z8 .(3) .(X)))))) .(j)) (eLst aNil) γ;asB d) γ H=.ok false H:=by
 refine(zC6 (xs:=[]) (j:=[]) (neg:=true) ?_ .(f)).trans rfl;rw[K1d];have sl:z35 (eVar 5) (z4R .(6)) z5g γ H=.ok (.tup (stD l)) H:=by
  unfold z35;have e3:z4R .(6) γ H=.ok (some ((1:Nat):Int)) H:=rfl;rw[M.bind_ok (z9 ea),M.bind_ok e3,M.bind_ok (show z5g γ H=.ok none H from rfl),sl_tup,zT7];rfl
 refine(z1z (src:=.con (stD l)) (λ_=>false) (λd=>d) (zY9 sl) .(W) (by show (stD l).length<=_;rw[J5];omega) λd hd=>?_).trans ?_
 ·obtain⟨i,hi,rfl⟩:=K08.mp (show d∈l.map _ from hd);rw[e4];refine⟨[.(i (c:Nat)),.(i (i:Nat))],λh=>rfl,λj=>?_,λq=>by cases q⟩;exact cn_h (b:=true) (cv_h (fn_h (ds:=[.int (i:Nat),.int 0,.int (c:Nat)]) (ac_h .(a) (ac_h (d:=.int 0) rfl (ac_h .(a) rfl))) rfl (by rw[z2R (hl i hi)];rfl)))
 ·rw[show (Src.con (stD l)).items.filter (λ_=>false)=[] by simp];exact(z6y .(f)).symm
theorem z8t(ma:MA st mk){R:List Sy}(r1:1<=R.length)(r2:R.length<=160)(ok:∀(i:Nat) (r:Sy),R[i]?=some r->r.ok i):∃bs:List Bool,z07 [maD st mk,.tup (ryD R)] h=.ok .(R) (h++[.lst (bs.map .bl)])/\bs.length=st.length/\∀x,x<st.length->bs[x]?=some (tv (trus st mk R) (R.length - 1) x):=by
 have l1:=ma.l1;have l2:=ma.l2;have l3:=ma.l3;have sq:=z3S ma;obtain⟨n,hn⟩:∃n,n=st.length:=⟨_,rfl⟩;have key:W (runF 6 J2 [maD st mk,.tup (ryD R)]) h λd h'=>∃(a:Nat) (j:AH) (bs:List Bool),d=.ref a/\.(m)<=a/\h'=h++j/\h'[a]?=.(l (bs.map .bl))/\bs.length=.(c)/\∀x,x<.(c)->bs[x]?=some (tv (trus st mk R) (R.length - 1) x):=by
  refine z1V ?_;show W (J2 [some .(7),.(g (ryD R)),none,none,none,none]) h _;unfold J2;refine Y0 false (cn_h (b:=true) (cv_h (fn_h (ds:=[.tup (ryD R),.int 1,.int 160]) (ac_h .(a) (ac_h (d:=.int 1) rfl (ac_h (d:=.int 160) rfl rfl))) rfl (congrFun (z2j (m:=1) (n:=160) (by rw[z3y];exact r1) (by rw[z3y];exact r2)) _)))) ?_;rw[if_neg .(0)];refine y6 ?_;obtain⟨h1,hh1⟩:∃h1,h1=h++[O.lst (stD (K7 .(c)))]:=⟨_,rfl⟩;have h1l:h1.length=h.length+1:=by rw[hh1];simp
  refine j8 (.ref .(m)) [some .(7),.(g (ryD R)),.(r .(m)),none,none,none] (h1:=h1) ?_ rfl ?_
  ·rw[zZ1 (tup:=false) (n:=.(c)) (h1:=h) (j5 .(N) (by rw[z17,z16];rfl)) .(1),hh1];exact z6y (by rw[zi5,J5];simp;omega)
  refine z5i (xs:=[]) .(f) (λh=>rfl) ?_;have E1:h1[.(m)]?=.(l ((stD (K7 .(c))))):=by rw[hh1];exact j9
  refine z2s (λγ h'=>∃a b refs j,γ=[some .(7),.(g (ryD R)),.(r .(m)),.(r h1.length),a,b]/\h'=h++j/\(∀q∈refs,.(m)<=q)/\TR .(c) h' h1.length refs (trus st mk R)) ?_ ?_
  ·refine z0i (λc γ h'=>∃a b refs j,γ=[some .(7),.(g (ryD R)),.(r .(m)),.(r h1.length),a,b]/\h'=h++j/\(∀q∈refs,.(m)<=q)/\h'[.(m)]?=.(l ((stD (K7 .(c)))))/\TR .(c) h' h1.length refs (trus st mk (R.take c))) (λ_ _=>False) ?_;refine W_of (v:=.int (R.length:Nat)) (j5 .(a) (by rw[z17,z3y];rfl)) ?_;refine⟨R.length,rfl,by omega,⟨none,none,[],_,rfl,by rw[hh1,K0e],by simp,w4 E1,⟨j9,rfl,λi hi=>by cases hi⟩⟩,?_,?_,λ_ _ q=>q.elim⟩
   ·rintro c γ h' hc ⟨a,b,refs,j,rfl,hj,rl,eE,t⟩;have er:R[c]?=some R[c]:=K2 hc;obtain⟨r,hr⟩:∃r,r=R[c]:=⟨_,rfl⟩;rw[<- hr]at er;have rok:=ok c r er;have ts:trus st mk (R.take (c+1))=trus st mk (R.take c)++[r.t st mk (trus st mk (R.take c))]:=by rw[K2m,er];exact z4B
    have tl:(trus st mk (R.take c)).length=c:=by rw[z3z,K19];omega
    obtain⟨T,hT⟩:∃T,T=trus st mk (R.take c):=⟨_,rfl⟩;rw[<- hT]at t ts tl;rw[ts];have eP:fIx (.tup (ryD R)) (.int (c:Nat)) h'=.ok r.d h':=by rw[ix_tup (z0p (by unfold ryD;rw[K04,er];rfl))];rfl
    refine j8 r.d .(I) (e2_h .(a) .(a) eP) rfl ?_;have L0:h1.length≠h.length:=by omega
    have Ll:=(K5.mp t.eL).1;have fin:∀γ':G,γ'=.(I)->forW (λγ h'=>∃a b refs j,γ=[some .(7),.(g (ryD R)),.(r .(m)),.(r h1.length),a,b]/\h'=h++j/\(∀q∈refs,.(m)<=q)/\h'[.(m)]?=.(l ((stD (K7 .(c)))))/\TR .(c) h' h1.length refs (T++[r.t st mk T])) (λ_ _=>False) (.nx γ') ((h'++[O.lst ((r.t st mk T).map D.bl)]).set h1.length (O.lst ((refs.map D.ref)++[D.ref h'.length]))):=by
     rintro _ rfl;refine⟨_,_,refs++[h'.length],j++[O.lst ((r.t st mk T).map D.bl)] |>.set (h1.length - h.length) (O.lst ((refs.map D.ref)++[D.ref h'.length])),rfl,?_,?_,?_,t.snoc (by unfold Sy.t;simp)⟩
     ·rw[hj,K0e,K3t _ _ .(1)]
     ·intro q hq;rcases K1c.mp hq with q1|q1
      ·exact rl q q1
      ·simp at q1;subst q1;rw[hj,K02];omega
     ·rw[K0f L0];exact w4 eE
    have app:∀{me:G->M D} {mt:G->M Out} {Q:Out->AH->Prop},me .(I) h'=.ok (.ref h'.length) (h'++[O.lst ((r.t st mk T).map D.bl)])->W (mt .(I)) ((h'++[O.lst ((r.t st mk T).map D.bl)]).set h1.length (O.lst ((refs.map D.ref)++[D.ref h'.length]))) Q->W (Z0 (z0E (eM1 k9 (eVar 3) me)) mt .(I)) h' Q:=λev z=>
     zT4 rfl t.eL ev (w4 t.eL) (by rw[K03,t.len,tl];omega) z
    have nl:∀x,∀o∈nx st x,o<st.length:=λx o ho=>z3o sq ho;have c0:∀(a:Str) (zs:List D),zs.length<=2->r.d=.tup (.str a::zs)->cOr (cNot (cVal (eFn 3 Z9 (z8 (eVar 5) (z8 .(6) (z8 (λ_=>pure (.int 3)) aNil)))))) (cNot (cVal (eIsi "str" (e2 fIx (eVar 5) .(3))))) .(I) h'=.ok false h':=λa zs hz e=>by
     rw[e];exact z5k (cn_h (b:=true) (cv_h (fn_h (ds:=[.tup (.str a::zs),.int 1,.int 3]) (ac_h .(a) (ac_h (d:=.int 1) rfl (ac_h (d:=.int 3) rfl rfl))) rfl (congrFun (z2j (m:=1) (n:=3) .(f) (by simp;omega)) _)))) (cn_h (b:=true) (cv_h (z2k (e2_h .(a) (y:=.int 0) rfl (by rw[ix0];rfl)) rfl)))
    have C0:cOr (cNot (cVal (eFn 3 Z9 (z8 (eVar 5) (z8 .(6) (z8 (λ_=>pure (.int 3)) aNil)))))) (cNot (cVal (eIsi "str" (e2 fIx (eVar 5) .(3))))) .(I) h'=.ok false h':=by
     cases hrr:r with
     | yes=>rw[<- hrr];exact c0 _ [] .(f) (by rw[hrr];rfl)
     | mark s=>rw[<- hrr];exact c0 _ [.str s] .(f) (by rw[hrr];rfl)
     | step k=>rw[<- hrr];exact c0 _ [.int k] .(f) (by rw[hrr];rfl)
     | neg k=>rw[<- hrr];exact c0 _ [.int k] .(f) (by rw[hrr];rfl)
     | con a b=>rw[<- hrr];exact c0 _ [.int a,.int b] .(f) (by rw[hrr];rfl)
    refine Y0 false C0 ?_;rw[if_neg .(0)];refine y6 ?_;clear C0 c0;cases r with
    | yes=>
     refine Y0 true (z4c (z3b rfl true .(2)) (zf9 (n:=1) rfl rfl)) ?_;rw[if_pos rfl];refine z0v (app (z1R (r:=.yes) rfl eE l2 λx hx=>⟨[.(i (x:Nat))],λh=>rfl,λj=>rfl⟩) ?_);refine y6 (Y6 (fin _ rfl))
    | mark s=>
     refine Y0 false (z2o (z3b rfl false .(2))) ?_;rw[if_neg .(0)];refine z0v (Y0 true (z4c (z3b rfl true .(2)) (z4c (zf9 (n:=2) rfl rfl) (cv_h (fn_h (ds:=[.str s]) (ac_h (e2_h .(a) (y:=.int 1) rfl (by show fIx (.tup [.str "mark",.str s]) (.int 1) _=_;rw[atI1];rfl)) rfl) rfl (zx5 rok))))) ?_);rw[if_pos rfl];refine z0v (app (z1R (r:=.mark s) rfl eE l2 λx hx=>⟨[some (Sy.mark s).d,some .(7),.(i (x:Nat))],λh=>rfl,λj=>?_⟩) ?_)
     ·refine e2_h (e2_h .(a) (y:=.int 1) rfl (by show fIx (.tup [.str "mark",.str s]) (.int 1) _=_;rw[atI1];rfl)) (e2_h .(18) .(a) (by rw[ix_tup (z5R (show x<mk.length by omega))];rfl)) ?_;rw[z7F,K1h];rfl
     ·refine y6 (y6 (Y6 (fin _ rfl)))
    | neg k=>
     have hk:k<c:=rok;refine Y0 false (z2o (z3b rfl false .(2))) ?_;rw[if_neg .(0)];refine z0v (Y0 false (z2o (z3b rfl false .(2))) ?_);rw[if_neg .(0)];refine z0v (Y0 false (zC0 (l:=[k]) rfl rfl (by simpa using hk) .(f)) ?_);rw[if_neg .(0)];refine z0v (Y0 true (z4c (z3b rfl true .(2)) (zf9 (n:=2) rfl rfl)) ?_);rw[if_pos rfl];refine z0v (app (z1R (r:=.neg k) rfl eE l2 λx hx=>⟨[.(r h1.length),some (Sy.neg k).d,.(i (x:Nat))],λh=>rfl,λj=>?_⟩) ?_)
     ·exact zw7 ((t.app j).rd .(a) (e2_h .(a) (y:=.int 1) rfl (by show fIx (.tup [.str "not",.int (k:Nat)]) (.int 1) _=_;rw[atI1];rfl)) .(a) .(1) hx)
     ·refine y6 (y6 (y6 (y6 (Y6 (fin _ rfl)))))
    | con p q=>
     have hp:p<c:=rok.1;have hq:q<c:=rok.2;refine Y0 false (z2o (z3b rfl false .(2))) ?_;rw[if_neg .(0)];refine z0v (Y0 false (z2o (z3b rfl false .(2))) ?_);rw[if_neg .(0)];refine z0v (Y0 false (zC0 (l:=[p,q]) rfl rfl (by simp;omega) .(f)) ?_);rw[if_neg .(0)];refine z0v (Y0 false (z2o (z3b rfl false .(2))) ?_);rw[if_neg .(0)];refine z0v (Y0 true (z4c (z3b rfl true .(2)) (zf9 (n:=3) rfl rfl)) ?_);rw[if_pos rfl];refine z0v (app (z1R (r:=.con p q) rfl eE l2 λx hx=>⟨[.(r h1.length),some (Sy.con p q).d,.(i (x:Nat))],λh=>rfl,λj=>?_⟩) ?_)
     ·exact zP5 ((t.app j).rd .(a) (e2_h .(a) (y:=.int 1) rfl (by show fIx (.tup [.str "and",.int (p:Nat),.int (q:Nat)]) (.int 1) _=_;rw[atI1];rfl)) .(a) .(1) hx) ((t.app j).rd .(a) (e2_h .(a) (y:=.int 2) rfl (by show fIx (.tup [.str "and",.int (p:Nat),.int (q:Nat)]) (.int 2) _=_;rw[atI2];rfl)) .(a) .(1) hx)
     ·refine y6 (y6 (y6 (y6 (y6 (Y6 (fin _ rfl))))))
    | step k=>
     have hk:k<c:=rok;refine Y0 false (z2o (z3b rfl false .(2))) ?_;rw[if_neg .(0)];refine z0v (Y0 false (z2o (z3b rfl false .(2))) ?_);rw[if_neg .(0)];refine z0v (Y0 false (zC0 (l:=[k]) rfl rfl (by simpa using hk) .(f)) ?_);rw[if_neg .(0)];refine z0v (Y0 false (z2o (z3b rfl false .(2))) ?_);rw[if_neg .(0)];refine z0v (Y0 false (z2o (z3b rfl false .(2))) ?_);rw[if_neg .(0)];refine z0v (Y0 true (z4c (z3b rfl true .(2)) (zf9 (n:=2) rfl rfl)) ?_);rw[if_pos rfl];refine z0v (app (z1R (r:=.step k) rfl eE l2 λx hx=>⟨[some .(7),.(r h1.length),some (Sy.step k).d,.(i (x:Nat))],λh=>rfl,λj=>?_⟩) ?_)
     ·have xs:(nx st x).length<=40:=by
       have g:=K06 (z98 hx);exact K0z (z2T (ma.s1 _ g) (ma.s2 _ g)) l2
      refine z0m (j:=[.lst (((nx st x).map (tv T k)).map .bl)]) (e2_h (x:=.bl true) rfl (y:=.ref (h'++j).length) (h2:=h'++j++[O.lst (((nx st x).map (tv T k)).map D.bl)]) ((z3w (src:=.con (stD (nx st x))) (l:=nx st x) (λo=>.bl (tv T k o)) (zY9 (e2_h .(N) .(a) (by rw[z4X hx];rfl))) rfl .(W) .(1) λo ho=>⟨[.(r h1.length),some (Sy.step k).d,.(i (o:Nat))],λh=>rfl,λ_=>rfl,λj2=>?_⟩).trans ?_) ?_) rfl
      ·rw[K0e];exact(t.app _).rd .(a) (e2_h .(a) (y:=.int 1) rfl (by show fIx (.tup [.str "step",.int (k:Nat)]) (.int 1) _=_;rw[atI1];rfl)) .(a) .(1) (nl x o ho)
      ·rw[K0g];rfl
      ·rw[zs0 j9,K1h,K8f];rfl
     ·refine y6 (y6 (y6 (y6 (y6 (y6 (Y6 (fin _ rfl)))))))
   ·rintro γ h' ⟨a,b,refs,j,rfl,hj,rl,eE,t⟩;rw[K1g]at t;exact⟨a,b,refs,j,rfl,hj,rl,t⟩
  ·rintro _ h' ⟨a,b,refs,j,rfl,hj,rl,t⟩;have tl:(trus st mk R).length=R.length:=z3z;obtain⟨q,l,q1,q2,q3,q4,q5⟩:=t.at_ (R.length - 1) .(1);refine Y5 (.ref q) (e2_h .(a) (y:=.int (-1)) rfl (ix_h t.eL ?_)) ⟨q,j,l,rfl,rl q (K06 q1),hj,q2,q4,λx hx=>?_⟩
   ·exact zA4 (by rw[K03,t.len,tl];exact r1) (by rw[K03,t.len,tl,K04,q1];rfl)
   ·unfold tv;rw[q3];show l[x]?=some ((l[x]?).getD false);rw[K2 .(1)];rfl
 obtain⟨d,h',e,a,j,bs,rfl,ha,rfl,ea,hb⟩:=key;refine⟨bs,?_,hb⟩;show cln (runF 6 J2 [maD st mk,.tup (ryD R)]) h=_;refine z2g e rfl (z2V h) ha ea ?_;exact z22 λd hd=>by obtain⟨b,_,rfl⟩:=K08.mp hd;rfl
theorem z6T(k:Nat):(y8 st mk k).length=st.length:=(z23 k).len
theorem zp5{ma:G->M D}{looks:List Lk}{l:Lk}(e1:mo γ H=.ok (.ref b) H)(e2':ma γ H=.ok (lkE l) H)(eb:H[b]?=.(l (looks.map lkE)))(hl:looks.length<=1000)(m:l∈looks):eM1 z4F mo ma γ H=.ok (.int (looks.idxOf l:Nat)) H:=by
 have g:getL b H=.ok (looks.map lkE) H:=by unfold getL;rw[eb]
 obtain⟨i1,i2⟩:=z3O (h:=H) m;show (mo γ >>= λo=>z3T o >>= λn=>ma γ >>= λy=>z4F n y) H=_;rw[M.bind_ok e1,M.bind_ok (z6f eb),M.bind_ok e2'];unfold z4F;rw[M.bind_ok g];unfold ixX;rw[if_pos ⟨z7J _,by rw[K03];omega,i1⟩,i2]
theorem zA2(ma:MA st mk):z2y [maD st mk] h=.ok .(R) (h++[.lst (stD (y8 st mk st.length))]):=by
 have l1:=ma.l1;have l2:=ma.l2;have l3:=ma.l3;have sq:=z3S ma;have key:W (runF 6 z0y [maD st mk]) h λd h'=>∃(a:Nat) (j:AH),d=.ref a/\.(m)<=a/\h'=h++j/\h'[a]?=.(l ((stD (y8 st mk .(c))))):=by
  refine z1V ?_;show W (z0y [some .(7),none,none,none,none,none]) h _;unfold z0y;refine j8 (.ref .(m)) [some .(7),.(r .(m)),none,none,none,none] (h1:=h++[.lst (stD (y8 st mk 0))]) ?_ rfl ?_
  ·refine(z1z (src:=.con (stsD st)) (λ_=>true) (λ_=>.int 0) (z0N .(N)) .(W) (by show (stsD st).length<=_;rw[z16];omega) λd hd=>⟨[some d],λh=>rfl,λj=>rfl,λ_ j=>rfl⟩).trans ?_;rw[filter_tt];show Res.ok (D.ref .(m)) (h++[O.lst ((stsD st).map λ_=>D.int 0)])=.ok (.ref .(m)) (h++[.lst (stD (K0c .(c) 0))]);have:((stsD st).map λ_=>D.int 0)=stD (K0c .(c) 0):=by
    unfold stsD stD;rw[K0g,K5f];exact List.map_eq_replicate_iff.mpr λb hb=>rfl
   rw[this]
  refine z2s (λγ h'=>∃(a:Nat) (j:AH) (b c d e:Option D),γ=[some .(7),.(r a),b,c,d,e]/\.(m)<=a/\h'=h++j/\h'[a]?=.(l ((stD (y8 st mk .(c)))))) ?_ ?_
  ·refine z0i (λk γ h'=>∃(a:Nat) (j:AH) (b c d e:Option D),γ=[some .(7),.(r a),b,c,d,e]/\.(m)<=a/\h'=h++j/\h'[a]?=.(l ((stD (y8 st mk k))))) (λ_ _=>False) ?_;refine W_of (v:=.int (st.length:Nat)) (j5 .(a) (by rw[z5n j9,J5,z6T])) ?_;refine⟨.(c),rfl,by omega,⟨.(m),_,none,none,none,none,rfl,K05 _,rfl,j9⟩,?_,λγ h' q=>q,λ_ _ q=>q.elim⟩;rintro k γ h' hk ⟨a,j,b,c,d,e,rfl,ha,hj,ea⟩;obtain⟨Hk,hHk⟩:∃Hk,Hk=y8 st mk k:=⟨_,rfl⟩;rw[<- hHk]at ea;have hlen:Hk.length=st.length:=by rw[hHk];exact z6T k
   obtain⟨looks,hlk⟩:∃looks,looks=(K7 .(c)).map (lkH st mk Hk):=⟨_,rfl⟩;have lkl:looks.length=st.length:=by rw[hlk];simp
   refine z5i (xs:=[]) .(f) (λh=>rfl) ?_;refine z2s (λγ H=>∃d e,γ=[some .(7),.(r a),.(i (k:Nat)),.(r h'.length),d,e]/\H=h'++[.lst (looks.map lkE)]) ?_ ?_
   ·refine z0i (λi γ H=>∃d e,γ=[some .(7),.(r a),.(i (k:Nat)),.(r h'.length),d,e]/\H=h'++[.lst ((looks.take i).map lkE)]) (λ_ _=>False) ?_;refine W_of (v:=.int (st.length:Nat)) (j5 .(a) (by rw[z5n (w4 ea),J5,hlen])) ?_;refine⟨.(c),rfl,by omega,⟨d,e,rfl,rfl⟩,?_,λγ H q=>by rw[<- lkl,K1g]at q;exact q,λ_ _ q=>q.elim⟩;rintro i γ H hi ⟨d,e,rfl,rfl⟩;obtain⟨H,hH⟩:∃H,H=h'++[O.lst ((looks.take i).map lkE)]:=⟨_,rfl⟩;rw[<- hH];have eaH:H[a]?=.(l (stD Hk)):=by rw[hH];exact w4 ea
    have xs:(nx st i).length<=40:=by
     have g:=K06 (z98 hi);exact K0z (z2T (ma.s1 _ g) (ma.s2 _ g)) l2
    have nlt:∀o∈nx st i,o<Hk.length:=λo ho=>by rw[hlen];exact z3o sq ho
    refine j8 (.tup (stD (setN ((nx st i).map (rowAt Hk))))) [some .(7),.(r a),.(i (k:Nat)),.(r h'.length),.(i (i:Nat)),.(g ((stD (setN ((nx st i).map (rowAt Hk))))))] (h1:=H) ?_ rfl ?_
    ·refine z0m (j:=[.lst (stD ((nx st i).map (rowAt Hk)))]++[.set (kN (dedN ((nx st i).map (rowAt Hk)))),.lst (stD (setN ((nx st i).map (rowAt Hk))))]) (j5 (ss_h (i:=H.length) (h1:=H++[.lst (stD ((nx st i).map (rowAt Hk)))]) (l:=(nx st i).map (rowAt Hk)) ?_ j9 (by rw[K03];omega) ?_) ?_) (by simp only[Y8];exact z1w _)
     ·refine(z3w (src:=.con (stD (nx st i))) (l:=nx st i) (λo=>.int (rowAt Hk o:Nat)) (z0N (e2_h .(N) .(a) (by rw[z4X hi];rfl))) rfl .(W) .(1) λo ho=>⟨[.(r a),.(i (o:Nat))],λh=>rfl,λ_=>rfl,λj2=>e2_h .(a) .(a) (ix_h (w4 eaH) (z3V (nlt o ho)))⟩).trans ?_;unfold stD;rw[K0g];rfl
     ·have:(setN ((nx st i).map (rowAt Hk))).length<=Hk.length:=z8M λu hu=>by
       obtain⟨o,ho,rfl⟩:=K08.mp hu;have:=(z23 (st:=st) (mk:=mk) k).le o (by rw[<- hlen];exact nlt o ho);rw[<- hHk]at this;have:=nlt o ho;omega
      omega
     ·refine(z5d ((at_E (i:=1)).trans rfl)).trans ?_;rw[K0e]
    ·have ei:looks[i]?=some (lkH st mk Hk i):=by rw[hlk,K04,K16 hi];rfl
     have eb:H[h'.length]?=.(l (((looks.take i).map lkE))):=by rw[hH];exact j9
     refine z0S (a:=3) (v:=lkE (lkH st mk Hk i)) rfl eb (by rw[K03,K19];omega) ?_ ?_
     ·unfold eTup;have:z8 (e2 fIx .(j) (eVar 4)) (z8 (e2 fIx .(10) (eVar 4)) .(Y)) [some .(7),.(r a),.(i (k:Nat)),.(r h'.length),.(i (i:Nat)),.(g ((stD (setN ((nx st i).map (rowAt Hk))))))] H=.ok [.int (rowAt Hk i:Nat),.tup ((mkAt mk i).map .str),.tup (stD (setN ((nx st i).map (rowAt Hk))))] H:=
       ac_h (e2_h .(a) .(a) (ix_h eaH (z3V (by rw[hlen];exact hi)))) (ac_h (e2_h .(18) .(a) (by rw[ix_tup (z5R (show i<mk.length by omega))];rfl)) (ac_h .(a) rfl))
      rw[M.bind_ok this];rfl
     ·refine Y6 ⟨_,_,rfl,?_⟩;rw[hH,z33,K2m,ei,K2w];rfl
   ·rintro _ _ ⟨d,e,rfl,rfl⟩;obtain⟨H,hH⟩:∃H,H=h'++[O.lst (looks.map lkE)]:=⟨_,rfl⟩;rw[<- hH];have eb:∀j,(H++j)[h'.length]?=.(l (looks.map lkE)):=λj=>by rw[hH];exact w4 j9
    refine j8 (.ref H.length) [some .(7),.(r H.length),.(i (k:Nat)),.(r h'.length),d,e] (h1:=H++[.lst (stD (y8 st mk (k+1)))]) ?_ rfl ?_
    ·have eb0:=eb [];rw[K1d]at eb0;refine(z1z (src:=.lst h'.length (looks.map lkE)) (λ_=>true) (λd=>.int ((looks.map lkE).findIdx (λz=>decide (eqN 24 h z d=some true)):Nat)) (z4b .(a) eb0) (λj=>eb j) (by show (looks.map lkE).length<=_;rw[K03];omega) λd hd=>?_).trans ?_
     ·obtain⟨l,hl,rfl⟩:=K08.mp (show d∈looks.map lkE from hd);refine⟨[.(r h'.length),some (lkE l)],λh=>rfl,λj=>rfl,λ_ j=>?_⟩;rw[zp5 (b:=h'.length) .(a) .(a) (eb j) .(1) hl];have:=(z3O (h:=h) hl).2;unfold z3I at this;rw[this]
     ·rw[filter_tt];show Res.ok (D.ref H.length) (H++[O.lst ((looks.map lkE).map λd=>D.int ((looks.map lkE).findIdx (λz=>decide (eqN 24 h z d=some true)):Nat))])=_;have:((looks.map lkE).map λd=>D.int ((looks.map lkE).findIdx (λz=>decide (eqN 24 h z d=some true)):Nat))=stD (y8 st mk (k+1)):=by
       show _=stD (z1B st mk (y8 st mk k));unfold z1B stD;rw[<- hHk,<- hlk,K0g,K0g]
       conv=>lhs;arg 2;rw[hlk]
       rw[K0g];refine K2u λx hx=>?_;have m:lkH st mk Hk x∈looks:=by rw[hlk];exact K08.mpr ⟨x,hx,rfl⟩
       have:=(z3O (h:=h) m).2;unfold z3I at this;show D.int ((looks.map lkE).findIdx (λz=>decide (eqN 24 h z (lkE (lkH st mk Hk x))=some true)):Nat)=.int (looks.idxOf (lkH st mk Hk x):Nat);rw[this]
      rw[this]
    ·refine Y6 ⟨H.length,j++[.lst (looks.map lkE)]++[.lst (stD (y8 st mk (k+1)))],_,_,_,_,rfl,?_,?_,j9⟩
     ·rw[hH,hj];simp only[K02];omega
     ·rw[hH,hj];simp only[K0e]
  ·rintro _ h' ⟨a,j,b,c,d,e,rfl,ha,hj,ea⟩;exact Y5 (.ref a) .(a) ⟨a,j,rfl,ha,hj,ea⟩
 obtain⟨d,h',e,a,j,rfl,ha,rfl,ea⟩:=key;show cln (runF 6 z0y [maD st mk]) h=_;exact z2g e rfl (z2V h) ha ea (z1w _)
theorem zr3{a:Int}:z3l [.int a]=pure (.bl true):=by
 show cln (runF 1 z1t [.int a])=_;rw[z2v (d:=.bl true),z1H];show z1t [.(i a)]=_;unfold z1t;refine z6B _ ?_;simp only[K6,z0O,Y9,eAnd,eIsi,eNot,eVar,ze9];rfl
theorem zh9(h:a<=n):z13 [.int a,.int 0,.int n]=pure (.bl true):=by
 have h1:(0:Int)<=a:=by omega
 have h3:(a:Int)<=n:=by omega
 show cln (runF 3 z0c [.int a,.int 0,.int n])=_;rw[z2v (d:=.bl true),z1H];show z0c [.(i a),.(i 0),.(i n)]=_;unfold z0c;refine z6B _ ?_;simp only[K00,K6,K0d,K0l,K12,z8,aNil,z0O,Y9,decide_eq_true h1,decide_eq_true h3,e3,eAnd,eFn,eVar,if_true,zr3,zq6]
theorem zp4:z46 [.tup xs]=pure (.bl true):=by
 show cln (runF 1 z1X [.tup xs])=_;rw[z2v (d:=.bl true),z1H];show z1X [.(g xs)]=_;unfold z1X;refine z6B _ ?_;simp only[K6,Y9,eIsi,eVar,z7C];rfl
theorem zn6(h:xs.length=n):z2b [.tup xs,.int n,.int n]=pure (.bl true):=by
 subst h;show cln (runF 3 z0B [.tup xs,.int .(21),.int .(21)])=_;rw[z2v (d:=.bl true),z1H];show z0B [.(g xs),.(i .(21)),.(i .(21))]=_;unfold z0B;refine z6B _ ?_;simp only[K00,K6,K0d,K0l,K12,z8,aNil,z0O,Y9,decide_eq_true (Int.le_refl _),e3,eAnd,Z6,eFn,eVar,if_true,zp4,zq6,z17]
theorem Z0W(hx:x<st.length)(q:∀o∈nx st x,o<row.length)(lx:(nx st x).length<=1000)(hl:(led st row x).length<64):z2a [maD st mk,.tup .(v),.int x]=pure (.tup (stD (led st row x))):=funext λh=>by
 show cln (runF 3 z3N [maD st mk,.tup .(v),.int x]) h=_;refine z0m (j:=[.lst (stD ((nx st x).map (rowAt row)))]) (z3P ?_) (by simp only[Y8];exact z1w _);show W (z3N [some .(7),.(g .(v)),.(i x)]) h _;unfold z3N;have e1:Y7 [some 1,none] (x9 (e2 fIx .(M) .(w))) (gN 1) .(o) (e2 fIx .(h) .(j)) [some .(7),.(g .(v)),.(i x)] h=.ok (.ref .(m)) (h++[.lst (stD ((nx st x).map (rowAt row)))]):=by
  refine(z0d (src:=.con (stD (nx st x))) (l:=nx st x) (λ_=>true) (λt=>.int (rowAt row t)) (z0N ?_) rfl .(W) .(1) λt ht=>⟨[.(g .(v)),.(i t)],λh=>rfl,λj=>rfl,λ_ j=>?_⟩).trans ?_
  ·have:e2 fIx .(M) .(w) [some .(7),.(g .(v)),.(i x)]=pure (.tup (stD (nx st x))):=by simp only[K00,K6,Y9,e2,eVar,z1c,z4X hx]
   rw[this];rfl
  ·have:e2 fIx .(h) .(j) [.(g .(v)),.(i t)]=pure (.int (rowAt row t)):=by simp only[K00,K6,Y9,e2,eVar,ix_tup (z3V (q t ht))];rfl
   rw[this];rfl
  ·rw[filter_tt];unfold stD;rw[K0g];rfl
 exact Y5 _ (fn_h (ac_h e1 rfl) rfl (zn8 (l:=(nx st x).map (rowAt row)) .(f) (by simp;omega) hl)) ⟨rfl,rfl⟩
theorem take_snoc{v:Nat}(h:row[c]?=some v)(u:Nat):u∈row.take (c+1)↔u∈row.take c\/u=v:=by
 rw[K2m,h];simp
def z9y(st:List .(19))(mk:List (List Str))(row:List Nat)(x:Nat):D:=.tup [.tup ((mkAt mk x).map .str),.tup (stD (led st row x))]
theorem zv4(c:Canon row){v:Nat}(h:row[i]?=some v):v<=i:=by
 have:=(K4z (n:=v)).length_le_of_subset (l₂:=row.take i) (λu hu=>c i v h u (by simpa using hu));simp at this;omega
structure MR(st:List .(19))(mk:List (List Str))(row:List Nat):Prop where
 q:SQ st
 rs:∀l∈st,l.Pairwise (·<·)
 lm:mk.length=.(c)
 s:Steady st mk row
theorem MR.nxl(m:MR st mk row)(hx:x<st.length):(nx st x).length<=40:=
 K0z (z2T (m.rs _ (K06 (z98 hx))) λy hy=>z3o m.q hy) m.q.l2
theorem MR.ledl(m:MR st mk row):(led st row x).length<=40:=by
 refine K0z (z8M (n:=row.length) λu hu=>?_) (by rw[m.s.len];exact m.q.l2);obtain⟨o,ho,rfl⟩:=K08.mp hu;have ol:o<row.length:=by rw[m.s.len];exact z3o m.q ho
 have:=zv4 m.s.can (z0q ol);omega
theorem MR.led(m:MR st mk row){x:Nat}(hx:x<st.length):z2a [maD st mk,.tup .(v),.int x]=pure (.tup (stD (led st row x))):=by
 have:=m.nxl hx;have:=m.ledl (x:=x);exact Z0W hx (λo ho=>by rw[m.s.len];exact z3o m.q ho) .(1) .(1)
theorem zh6{f:Nat->D}(h:c<n):atI ((K7 n).map f) (c:Int)=some (f c):=z0p (by rw[K04,K16 h];rfl)
theorem zs1(m:MR st mk row):z3g [maD st mk,.tup .(v)]=pure (.bl true):=by
 have l2:=m.q.l2;have s:=m.s;have sl:=s.len;have lm:=m.lm;refine zH5 rfl λh=>?_;refine z1V ?_;show W (z2h [some .(7),.(g .(v)),none,none,none,none,none]) h _;unfold z2h;refine z9u (.int st.length) _ (by simp only[K6,z8,aNil,Y9,e2,Z6,eVar,z1c,z17,z16]) rfl ?_;refine q_if false (by simp only[K3j,K00,K6,K0d,K0l,K0u,K0t,K12,z8,aNil,Y9,cNot,cVal,eFn,eVar,if_true,zn6 (xs:=stD row) (n:=st.length) (by rw[J5];exact sl),z25]) ?_;rw[if_neg .(0)];refine y6 ?_;refine z5i (xs:=stD []) (by simp[stD]) (λh=>rfl) ?_;refine z2s (λγ h'=>∃N a b,γ=[some .(7),.(g .(v)),.(i .(c)),.(r .(m)),a,b,none]/\h'=h++[.lst (stD ((K7 N).map λu=>row.idxOf u))]/\∀u,u∈row↔u<N) ?_ ?_
 ·refine z15 (λc γ h'=>∃N a b,γ=[some .(7),.(g .(v)),.(i .(c)),.(r .(m)),a,b,none]/\h'=h++[.lst (stD ((K7 N).map λu=>row.idxOf u))]/\∀u,u∈row.take c↔u<N) (λ_ _=>False) ?_;refine W_eq (v:=.con (z1C .(v))) (by unfold z9z;simp only[K00,K6,K0u,K0t,z8,aNil,Y9,eVar]) ?_;refine⟨⟨0,none,none,rfl,rfl,by simp⟩,λ_ _ _ _=>trivial,?_,?_,λ_ _ q=>q.elim⟩
  ·rintro c d γ _ hd ⟨N,a,b,rfl,rfl,inv⟩;obtain⟨y,hy,rfl⟩:=z66 hd;obtain⟨v,rfl,ev⟩:=z4D hy;have hc:c<row.length:=(K5.mp ev).1;refine W_eq (v:=[some .(7),.(g .(v)),.(i .(c)),.(r .(m)),.(i c),.(i v),none]) rfl ?_;have vN:v<=N:=by
    by_cases z:N<v
    ·have:=(inv N).mp (s.can c v ev N z);omega
    ·omega
   have ll:(stD ((K7 N).map λu=>row.idxOf u)).length=N:=by rw[J5];simp
   refine Y0 false (cn_h (b:=true) (cv_h (fn_h (ds:=[.int v,.int 0,.int N]) (ac_h .(a) (ac_h (d:=.int 0) rfl (ac_h (j5 .(a) (by rw[z5n j9,ll])) rfl))) rfl (by rw[zh9 vN];rfl)))) ?_;rw[if_neg .(0)];refine y6 ?_;refine Y0 (decide (v=N)) ?_ ?_
   ·refine cb_h (e2_h .(a) (j5 .(a) (z5n j9)) ?_);rw[ll,z2q (z12 v N)];simp
   by_cases e:v=N
   ·subst e;rw[.(s) rfl,if_pos rfl];refine z0v ?_;have vi:=zv4 s.can ev;refine z0S (a:=3) rfl j9 (by rw[ll];omega) .(a) ?_;rw[z33,zD5];have nin:v∉row.take c:=λz=>by have:=(inv v).mp z;omega
    have ic:row.idxOf v=c:=by
     have a1:=zy8 ev;have mv:v∈row:=K06 ev;by_cases z:row.idxOf v=c
     ·exact z
     ·refine absurd (K06 (l:=row.take c) (i:=row.idxOf v) (a:=v) ?_) nin;rw[K32,if_pos .(1),z3k mv]
    refine y6 (Y6 ⟨v+1,_,_,rfl,?_,λu=>?_⟩)
    ·rw[K4i,K2w];simp[ic]
    ·rw[take_snoc ev,inv];omega
   ·rw[.(y) e,if_neg .(0)];refine y6 (Y6 ⟨N,_,_,rfl,rfl,λu=>?_⟩);rw[take_snoc ev,inv];omega
  ·rintro γ h2 ⟨N,a,b,rfl,rfl,inv⟩;rw[show (Src.con (z1C .(v))).items.length=row.length by simp[Src.items,z1C,stD],K1g]at inv;exact⟨N,a,b,rfl,rfl,inv⟩
 rintro γ _ ⟨N,a,b,rfl,rfl,inv⟩;refine j8 (.ref (.(m)+1)) _ (h1:=h++[.lst (stD ((K7 N).map λu=>row.idxOf u)),.lst ((K7 .(c)).map (z9y st mk row))]) ?_ rfl ?_
 ·refine(z0d (l:=K7 st.length) (λ_=>true) (z9y st mk row) (z2x .(a) .(1)) rfl .(W) (by simp;omega) λx hx=>⟨[some .(7),.(g .(v)),.(i x)],λh=>rfl,λj=>rfl,λ_ j=>?_⟩).trans ?_
  ·have hx:x<st.length:=by simpa using hx
   have:eTup (z8 (e2 fIx .(10) .(w)) (z8 (eFn 3 z2a (z8 .(h) (z8 .(j) (z8 .(w) aNil)))) aNil)) [some .(7),.(g .(v)),.(i x)]=pure (z9y st mk row x):=by
    simp only[K00,K6,K0d,K0l,K12,z8,aNil,Y9,e2,eFn,eTup,eVar,if_true,z2n,ix_tup (z5R (show x<mk.length by omega)),m.led hx,Z0d];rfl
   rw[this];rfl
  ·rw[filter_tt,K0e];simp
 refine Y5 (.bl (((z1C .(v)).map λ_=>true).all id)) (Z0Z ?_) ?_
 ·refine(z1z (src:=.con (z1C .(v))) (λ_=>true) (λ_=>.bl true) ?_ .(W) ?_ λd hd=>?_).trans ?_
  ·have:z9z .(j) [some .(7),.(g .(v)),.(i st.length),.(r h.length),a,b,.(r (h.length+1))]=pure (.con (z1C .(v))):=by unfold z9z;simp only[K00,K6,z8,aNil,Y9,eVar]
   exact congrFun this _
  ·simp[Src.items,z1C,stD];omega
  ·obtain⟨c,hc,ec⟩:=K2v hd;obtain⟨y,hy,rfl⟩:=z66 (show (z1C .(v))[c]?=some d by rw[<- ec];exact K2 hc);obtain⟨v,rfl,ev⟩:=z4D hy;have hcl:c<row.length:=(K5.mp ev).1;have vN:v<N:=(inv v).mp (K06 ev);have ir:row.idxOf v<row.length:=K0w.mpr (K06 ev);have lk:=s.like c hcl;rw[z1G ev]at lk;refine⟨[.(r (.(m)+1)),.(r .(m)),.(i c),.(i v)],λh=>rfl,λj=>rfl,λ_ j=>?_⟩;have hL:∀j:AH,(h++[O.lst (stD ((K7 N).map λu=>row.idxOf u)),O.lst ((K7 st.length).map (z9y st mk row))]++j)[h.length+1]?=.(l (((K7 st.length).map (z9y st mk row)))):=λj=>by simp
   have hF:∀j:AH,(h++[O.lst (stD ((K7 N).map λu=>row.idxOf u)),O.lst ((K7 st.length).map (z9y st mk row))]++j)[h.length]?=.(l ((stD ((K7 N).map λu=>row.idxOf u)))):=λj=>by simp
   refine e2_h (e2_h .(a) .(a) (ix_h (hL j) (zh6 .(1)))) (e2_h .(a) (e2_h .(a) .(a) (ix_h (d:=.int (row.idxOf v:Nat)) (hF j) ?_)) (ix_h (hL j) (zh6 .(1)))) ?_
   ·unfold stD;rw[K0g];exact zh6 (f:=(λ(i:Nat)=>D.int i) ∘ λu=>row.idxOf u) vN
   ·refine(z2q (zC7 (n:=21) (mkAt mk c) (mkAt mk (row.idxOf v)) (led st row c) (led st row (row.idxOf v)))).trans ?_;rw[.(s) lk.1,.(s) lk.2];rfl
  ·rw[filter_tt,K0g];rfl
 ·have:((z1C .(v)).map λ_=>true).all id=true:=by simp
  rw[this];exact⟨rfl,_,rfl⟩
theorem z9B(m:MR st mk row)(hn:1<=n)(inv:∀u,u∈row↔u<n):z41 [maD st mk,.tup .(v)]=pure (maD (qst n st row) (qmk n mk row)):=funext λh=>by
 have l2:=m.q.l2;have sl:=m.s.len;have lm:=m.lm;have nn:n<=row.length:=by
  have h2:=(K4z (n:=n)).length_le_of_subset (l₂:=row) (λx hx=>(inv x).mpr (by simpa using hx));simpa using h2
 show cln (runF 3 z1S [maD st mk,.tup .(v)]) h=_;refine z0m (j:=[.lst (stD ((K7 n).map λu=>row.idxOf u))]) (z3P ?_) (zf6 _ _);show W (z1S [some .(7),.(g .(v)),none]) h _;unfold z1S z1L;refine q_if false (by simp only[K3j,K00,K6,K0d,K0l,K12,z8,aNil,Y9,cNot,cVal,eFn,eVar,if_true,zs1 m,z25]) ?_;rw[if_neg .(0)];refine y6 ?_;refine j8 (.ref .(m)) _ (h1:=h++[.lst (stD ((K7 n).map λu=>row.idxOf u))]) ?_ rfl ?_
 ·refine(z0d (l:=K7 n) (λ_=>true) (λu=>.int (row.idxOf u:Nat)) (z2x (n:=n) ?_ .(1)) rfl .(W) (by simp;omega) λu hu=>⟨[.(g .(v)),.(i u)],λh=>rfl,λj=>rfl,λ_ j=>?_⟩).trans ?_
  ·have e1:z5a [.tup .(v)]=pure (.int ((n - 1:Nat):Int)):=by
    unfold z5a;dsimp only;rw[z3F];dsimp only;rw[if_pos (by unfold zN;rw[K03];omega),zb2 hn inv]
   have:e2 fAdd (Z6 z5a .(11)) .(6) [some .(7),.(g .(v)),none]=pure (.int n):=by
    simp only[K00,K6,z8,aNil,z1l,Y9,e1,e2,Z6,eVar];rw[show ((n - 1:Nat):Int)+1=(n:Int) by omega]
   rw[this];rfl
  ·have hu:u∈row:=(inv u).mpr (by simpa using hu);rw[za5 (l:=row) (x:=u) rfl rfl hu .(1)];rfl
  ·rw[filter_tt];unfold stD;rw[K0g];rfl
 have il:∀x∈(K7 n).map λu=>row.idxOf u,x<st.length:=λx hx=>by
  obtain⟨u,hu,rfl⟩:=K08.mp hx;rw[<- sl];exact K0w.mpr ((inv u).mpr (by simpa using hu))
 refine Y5 _ (h1:=h++[.lst (stD ((K7 n).map λu=>row.idxOf u))]) (z2Y (z4N (xs:=stsD (qst n st row)) ?_ ?_) (z4N (xs:=mksD (qmk n mk row)) ?_ ?_)) ⟨rfl,rfl⟩
 ·refine(z0d (l:=(K7 n).map λu=>row.idxOf u) (λ_=>true) (λx=>.tup (stD (led st row x))) (zB3 .(a) j9) rfl (λj=>by show (_++j)[h.length]?=_;simp) (by simp;omega) λx hx=>⟨[some .(7),.(g .(v)),.(i x)],λh=>rfl,λj=>rfl,λ_ j=>?_⟩).trans ?_
  ·have:eFn 3 z2a (z8 .(h) (z8 .(j) (z8 .(w) aNil))) [some .(7),.(g .(v)),.(i x)]=pure (.tup (stD (led st row x))):=by simp only[K00,K6,K0d,K0l,K12,z8,aNil,Y9,eFn,eVar,if_true,m.led (il x hx)]
   rw[this];rfl
  ·have:((K7 n).map λu=>row.idxOf u).map (λx=>D.tup (stD (led st row x)))=stsD (qst n st row):=by
    unfold stsD qst;rw[K0g,K0g];rfl
   rw[filter_tt,this];rfl
 ·unfold stsD;exact z04 λa=>z4H a
 ·refine(z0d (l:=(K7 n).map λu=>row.idxOf u) (λ_=>true) (λx=>.tup ((mkAt mk x).map .str)) (zB3 .(a) j9) rfl (λj=>by show (_++j)[h.length]?=_;simp) (by simp;omega) λx hx=>⟨[some .(7),.(i x)],λh=>rfl,λj=>rfl,λ_ j=>?_⟩).trans ?_
  ·have hx:=il x hx;have:e2 fIx .(10) .(j) [some .(7),.(i x)]=pure (.tup ((mkAt mk x).map .str)):=by
    simp only[K00,K6,Y9,e2,eVar,z2n,ix_tup (z5R (show x<mk.length by omega))];rfl
   rw[this];rfl
  ·have:((K7 n).map λu=>row.idxOf u).map (λx=>D.tup ((mkAt mk x).map .str))=mksD (qmk n mk row):=by
    unfold mksD qmk;rw[K0g,K0g];rfl
   rw[filter_tt,this];rfl
 ·unfold mksD;exact z04 λa=>by simp only[Y8];exact z7f _
theorem zz3{d:D}(c:Y8 0 d=true)(z:W m h λv h'=>v=d/\∃j,h'=h++j):cln m h=.ok d h:=by
 obtain⟨v,h',e,rfl,j,rfl⟩:=z;exact z0m e (z2N (K3k _) c)
theorem zy2{h:AH}(m:MR st mk row)(hx:x<st.length)(e0:γ[0]?=some (some .(7)))(e1:γ[1]?=some (.(g .(v))))(ea:γ[a]?=some (.(i (x:Nat)))):
 Z6 z03 (z8 (Z6 z1e (z8 (Y7 [some 1,none] (x9 (e2 fIx .(M) (eVar a))) (gN 1) .(o) (e2 fIx .(h) .(j))) aNil)) aNil) γ h=.ok (.ref (.(m)+2)) (h++[.lst (stD ((nx st x).map (rowAt row))),.set (kN (dedN ((nx st x).map (rowAt row)))),.lst (stD (FT.led st row x))]):=by
 have nl:=m.nxl hx;have ll:=m.ledl (x:=x);refine(ss_h (i:=h.length) (h1:=h++[.lst (stD ((nx st x).map (rowAt row)))]) (l:=(nx st x).map (rowAt row)) ?_ j9 (by simp;omega) (by show (FT.led st row x).length<64;omega)).trans ?_
 ·refine(z0d (src:=.con (stD (nx st x))) (l:=nx st x) (λ_=>true) (λt=>.int (rowAt row t)) (z0N ?_) rfl .(W) .(1) λt ht=>⟨[.(g .(v)),.(i t)],λh=>by simp only[capG,K0v,K6i,e1,Option.join_some];rfl,λj=>rfl,λ_ j=>?_⟩).trans ?_
  ·exact e2_h (e2_h (z9 e0) (y:=.int 0) rfl (by rw[z1c];rfl)) (z9 ea) (by rw[z4X hx];rfl)
  ·exact e2_h .(a) .(a) (by rw[ix_tup (z3V (by rw[m.s.len];exact z3o m.q ht))];rfl)
  ·rw[filter_tt];unfold stD;rw[K0g];rfl
 ·simp[FT.led]
theorem Z0r{ma:G->M D}(e1:ma γ h=.ok (.int (a:Nat)) h)(e2':mb γ h=.ok (.int (b:Nat)) h):Z6 zj9 (z8 ma (z8 mb aNil)) γ h=.ok (.int ((max a b:Nat):Int)) h:=by
 have e3':z8 ma (z8 mb aNil) γ h=.ok [.int (a:Nat),.int (b:Nat)] h:=ac_h e1 (ac_h e2' rfl);unfold Z6;rw[M.bind_ok e3'];show Res.ok (D.int (max (a:Int) (b:Int))) h=_;congr 2;omega
theorem zw4{ma:G->M D}(e1:ma γ h=.ok (.int (a:Nat)) h):e2 fAdd ma .(6) γ h=.ok (.int ((a+1:Nat):Int)) h:=e2_h e1 rfl (by rw[z1l];rfl)
theorem zc6{N v:Nat}(cr:Canon row)(hc:row[c]?=some v)(inv:∀u,u∈row.take c↔u<N):v<=N:=by
 by_cases h:v<=N
 ·exact h
 ·have:=(inv N).mp (cr c v hc N .(1));omega
theorem zd0(m:MR st mk row):z26 [maD st mk,.tup .(v)] h=.ok (.bl true) h:=by
 have l2:=m.q.l2;have sl:=m.s.len;refine zz3 rfl (z1V ?_);show W (z1h [some .(7),.(g .(v)),none,none,none,none,none]) h _;unfold z1h;refine z9u (.int st.length) [some .(7),.(g .(v)),.(i st.length),none,none,none,none] (by simp only[K6,z8,aNil,Y9,e2,Z6,eVar,z1c,z17,z16]) rfl ?_;refine Y0 (!true) (cn_h (cv_h (fn_h (ds:=[.tup .(v),.int .(c),.int .(c)]) (ac_h .(a) .(G)) rfl (by rw[z2j (by rw[J5];omega) (by rw[J5];omega)];rfl)))) ?_;rw[if_neg .(0)];refine y6 (z9u (.int (0:Nat)) [some .(7),.(g .(v)),.(i .(c)),.(i (0:Nat)),none,none,none] rfl rfl ?_);refine z2s (λγ h'=>∃N a,(∀u,u∈row↔u<N)/\γ=[some .(7),.(g .(v)),.(i .(c)),.(i (N:Nat)),a,none,none]/\h=h') ?_ ?_
 ·refine z15 (λc γ h'=>∃N a,(∀u,u∈row.take c↔u<N)/\γ=[some .(7),.(g .(v)),.(i .(c)),.(i (N:Nat)),a,none,none]/\h=h') (λd h'=>False) ?_;refine W_of (v:=.con .(v)) (z0N .(a)) ?_;refine⟨⟨0,none,by simp,rfl,rfl⟩,λ_ _ _ _=>trivial,?_,?_,λ_ _ q=>q.elim⟩
  ·rintro c y γ _ hy ⟨N,a,inv,rfl,rfl⟩;obtain⟨v,rfl,ev⟩:=z4D (show .(v)[c]?=some y from hy);have vN:=zc6 m.s.can ev inv;refine W_eq (v:=[some .(7),.(g .(v)),.(i .(c)),.(i (N:Nat)),.(i (v:Nat)),none,none]) rfl ?_;refine Y0 (!true) (cn_h (cv_h (fn_h (ds:=[.int (v:Nat),.int 0,.int (N+1:Nat)]) (ac_h .(a) (ac_h (d:=.int 0) rfl (ac_h (zw4 .(a)) rfl))) rfl (by rw[z2R .(1)];rfl)))) ?_;rw[if_neg .(0)];refine y6 (j8 (.int ((max N (v+1):Nat):Int)) [some .(7),.(g .(v)),.(i .(c)),.(i (((max N (v+1):Nat):Int))),.(i (v:Nat)),none,none] (Z0r .(a) (zw4 .(a))) rfl ?_);refine Y6 ⟨max N (v+1),_,λu=>?_,rfl,rfl⟩;rw[take_snoc ev,inv];omega
  ·rintro γ h2 ⟨N,a,inv,rfl,rfl⟩;rw[show (Src.con .(v)).items.length=row.length by show (stD row).length=_;rw[J5],K1g]at inv;exact⟨N,a,inv,rfl,rfl⟩
 rintro γ _ ⟨N,a,inv,rfl,rfl⟩;rw[w_cons];refine z0i (λc γ h'=>∃a b e,γ=[some .(7),.(g .(v)),.(i .(c)),.(i (N:Nat)),a,b,e]/\∃j,h'=h++j) (λ_ _=>False) ?_;refine W_of (v:=.int st.length) .(a) ⟨st.length,rfl,by omega,⟨_,_,_,rfl,⟨[],by simp⟩⟩,?_,?_,λ_ _ q=>q.elim⟩
 ·rintro c _ _ hc ⟨a,b,e,rfl,⟨j,rfl⟩⟩;have cm:=z2r (show c<row.length by omega);obtain⟨f,hf⟩:∃f,f=row.idxOf (rowAt row c):=⟨_,rfl⟩;have fl:f<st.length:=by rw[hf,<- sl];exact K0w.mpr cm
  have lk:=m.s.like c .(1);rw[<- hf]at lk;show W (Z0 _ _ [some .(7),.(g .(v)),.(i .(c)),.(i (N:Nat)),.(i (c:Nat)),b,e]) _ _;refine z9u (.int (f:Nat)) [some .(7),.(g .(v)),.(i .(c)),.(i (N:Nat)),.(i (c:Nat)),.(i (f:Nat)),e] ?_ rfl ?_
  ·rw[hf];refine za5 rfl ?_ cm .(1);simp only[K00,K6,Y9,e2,eVar,ix_tup (z3V (l:=row) (c:=c) .(1))];rfl
  have e1:fEqX true (.tup ((mkAt mk c).map .str)) (.tup ((mkAt mk f).map .str)) (h++j)=.ok (.bl (decide (mkAt mk c=mkAt mk f) != true)) (h++j):=z2q (z1Q z5L _ _);have mi:∀{x:Nat},x<.(c)->atI (mksD mk) (x:Int)=.(g (((mkAt mk x).map .str))):=λ{x} hx=>z5R (by rw[m.lm];exact hx);refine Y0 (decide (mkAt mk c=mkAt mk f) != true) (cb_h (e2_h (e2_h .(18) .(a) (by rw[ix_tup (mi (show c<.(c) by omega))];rfl)) (e2_h .(18) .(a) (by rw[ix_tup (mi fl)];rfl)) e1)) ?_;rw[.(s) lk.1,if_neg .(0)];refine y6 (j8 (.ref ((h++j).length+2)) [some .(7),.(g .(v)),.(i .(c)),.(i (N:Nat)),.(i (c:Nat)),.(i (f:Nat)),.(r (((h++j).length+2)))] (zy2 m .(1) rfl rfl rfl) rfl ?_);obtain⟨H,hH⟩:∃H,H=h++j++[.lst (stD ((nx st c).map (rowAt row))),.set (kN (dedN ((nx st c).map (rowAt row)))),.lst (stD (FT.led st row c))]:=⟨_,rfl⟩;rw[<- hH];have g1:H[(h++j).length+2]?=.(l ((stD (FT.led st row c)))):=by rw[hH];exact at_E (l:=[_,_,_])
  refine Y0 (decide (FT.led st row c=FT.led st row f) != true) ?_ ?_
  ·exact zc1 (cb_h (e2_h .(a) (zy2 (a:=5) (h:=H) m fl rfl rfl rfl) (zL0 (w4 g1) (at_E (l:=[_,_,_])))))
  rw[.(s) lk.2,if_neg .(0)];exact y6 (Y6 ⟨_,_,_,rfl,⟨j++_,by rw[hH,K0e]⟩⟩)
 ·rintro _ _ ⟨a,b,e,rfl,ej⟩;exact Y5 (.bl true) rfl ⟨rfl,ej⟩
def numL(l:List Nat):List Nat:=l.map λx=>(setN l).idxOf x
theorem z5H(e:h[i]?=.(l (stD l)))(hl:l.length<=1000)(hd:(setN l).length<64):z0F [.ref i] h=.ok (.tup (stD (numL l))) h:=by
 have il:=(K5.mp e).1;show cln (runF 2 z0j [.ref i]) h=_;refine z0m (j:=[.set (kN (dedN l)),.lst (stD (setN l))]) (z3P ?_) (by simp only[Y8];exact z1w _);show W (z0j [.(r i),none]) h _;unfold z0j;refine j8 (.ref (.(m)+1)) [.(r i),.(r (.(m)+1))] (ss_h .(a) e .(1) hd) rfl ?_;have e':∀j:AH,(h++j)[i]?=.(l (stD l)):=λj=>by rw[K0n il];exact e
 have g:∀j:AH,(h++[O.set (kN (dedN l)),O.lst (stD (setN l))]++j)[h.length+1]?=.(l ((stD (setN l)))):=λj=>by simp
 refine Y5 (.tup (stD (numL l))) (z4N ?_ (z1w _)) ⟨rfl,rfl⟩;refine(z0d (l:=l) (λ_=>true) (λx=>.int ((setN l).idxOf x:Nat)) (z4b .(a) (e' _)) rfl (λj=>by show (_++j)[i]?=_;rw[K0e];exact e' _) .(1) λx hx=>⟨[.(r (.(m)+1)),.(i x)],λh=>rfl,λj=>rfl,λ_ j=>?_⟩).trans ?_
 ·exact zP7 .(a) (g j) .(a) (by rw[z0t];exact hx) .(1)
 ·rw[filter_tt];unfold numL stD;rw[K0g];rfl
def hmB(n:Nat)(bl:Bl):List Nat:=(K7 n).map (keyOf bl)
theorem z1u{bl:Bl}:(hmB n bl).length=n:=by unfold hmB;simp
theorem z5q{bl:Bl}(h:x<n):(hmB n bl)[x]?=some (keyOf bl x):=by unfold hmB;rw[K04,K16 h];rfl
theorem zW2{t:G->M Bool}{mt:G->M Out}{b:Bool}{Q:Out->AH->Prop}(et:t γ h=.ok b h)(ea:γ[a]?=some (.(r i)))(e:h[i]?=.(l xs))(hl:xs.length<1000000)(ev:me γ h=.ok v h)
 (z:W (mt γ) (h.set i (.lst (if b=true then xs++[v] else xs))) Q):W (Z0 (sIf t (Z0 (z0E (eM1 k9 (eVar a) me)) bNil) bNil) mt γ) h Q:=by
 refine Y0 b et ?_;cases b with
 | true=>
  rw[if_pos rfl]at z ⊢;exact z0v (z0S ea e hl ev (y6 z))
 | false=>
  rw[if_neg .(0)]at z ⊢;refine y6 ?_;have:h.set i (.lst xs)=h:=by
   refine K1v λn=>?_;by_cases q:i=n
   ·subst q;rw[K0r (K5.mp e).1,e]
   ·rw[K0f q]
  rw[this]at z;exact z
theorem z5Z{t:G->M Bool}{mt:G->M Out}{b:Bool}{Q:Out->AH->Prop}(et:t γ h=.ok b h)(ea:γ[a]?=some (.(r i)))(e:h[i]?=.(l (stD l)))(hl:l.length<1000000)(ev:me γ h=.ok (.int (x:Nat)) h)
 (z:W (mt γ) (h.set i (.lst (stD (if b=true then l++[x] else l)))) Q):W (Z0 (sIf t (Z0 (z0E (eM1 k9 (eVar a) me)) bNil) bNil) mt γ) h Q:=by
 refine zW2 et ea e (by rw[J5];exact hl) ev ?_;have:(if b=true then stD l++[D.int (x:Nat)] else stD l)=stD (if b=true then l++[x] else l):=by cases b<;>simp[stD]
 rw[this];exact z
theorem z9X{ma:G->M D}{mt:G->M Out}{t:Nat}{Q:Out->AH->Prop}(ev:ma γ h=.ok v h)(ea:γ[a]?=some (.(r i)))(eb:γ[b]?=some (.(i (t:Nat))))(e:h[i]?=.(l xs))(ht:t<xs.length)
 (z:W (mt γ) (h.set i (.lst (xs.set t v))) Q):W (Z0 (sAsg ma (gIx (eVar a) (eVar b))) mt γ) h Q:=by
 have e1:gIx (eVar a) (eVar b) v γ h=.ok γ (h.set i (.lst (xs.set t v))):=by
  unfold gIx;rw[M.bind_ok (z9 ea),M.bind_ok (z9 eb)];have:fSet (.ref i) (.int (t:Nat)) v h=.ok () (h.set i (.lst (xs.set t v))):=by
   unfold fSet;dsimp only;rw[e];dsimp only;rw[show ixN xs.length (t:Int)=some t by unfold ixN;rw[if_pos .(1),if_pos .(1)];rfl]
  rw[M.bind_ok this];rfl
 obtain⟨o,h',e2,q⟩:=z;refine⟨o,h',?_,q⟩;unfold Z0 sAsg;rw[M.bind_ok (show (do let d <- ma γ;let γ1 <- gIx (eVar a) (eVar b) d γ;pure (.nx γ1):M Out) h=.ok (.nx γ) _ by rw[M.bind_ok ev,M.bind_ok e1];rfl)];exact e2
def setA(l xs:List Nat)(v:Nat):List Nat:=xs.foldl (λa x=>a.set x v) l
theorem z2I{xs:List Nat}{v:Nat}:∀{l:List Nat},(setA l xs v).length=l.length:=by
 induction xs with
 | nil=>intro l;rfl
 | cons x xs ih=>intro l;exact(ih (l:=l.set x v)).trans .(f)
theorem zc4{xs:List Nat}{v:Nat}:∀{l:List Nat},y<l.length->(setA l xs v)[y]?=if y∈xs then some v else l[y]?:=by
 induction xs with
 | nil=>intro l h;rw[if_neg .(f)];rfl
 | cons x xs ih=>
  intro l h;have:=ih (l:=l.set x v) (by simpa using h);rw[show setA l (x::xs) v=setA (l.set x v) xs v from rfl,this];by_cases q:y∈xs
  ·rw[if_pos q,if_pos (by simp[q])]
  ·rw[if_neg q];by_cases e:x=y
   ·subst e;rw[K0r h,if_pos .(f)]
   ·rw[K0f e,if_neg (by simp only[K0y,not_or];exact⟨λz=>e z.symm,q⟩)]
theorem zw1(l:List Nat)(t v:Nat):(stD l).set t (.int (v:Nat))=stD (l.set t v):=by unfold stD;rw[K8e]
theorem z6V{xs:List Nat}{v:Nat}(h:xs[c]?=some x):(setA l (xs.take c) v).set x v=setA l (xs.take (c+1)) v:=by
 unfold setA;rw[K2m,h];simp
theorem z4h(f:Nat->Bool)(c:Nat):(K7 (c+1)).filter f=if f c=true then (K7 c).filter f++[c] else (K7 c).filter f:=by
 rw[K4i,K9v];cases e:f c<;>simp[e]
section
variable{bl:Bl}
theorem zW7{k:Nat}(pb:PB n bl)(hk:k∈bl.map (·.1)):((K7 n).filter λx=>decide (keyOf bl x=k))=blk bl k:=by
 refine z2H (K3y _ K4f) (pb.rise _ (pb.of_key hk)) λx=>?_;rw[pb.in_blk hk,K0m,K0q];simp
theorem zQ2{k:Nat}{f:Nat->Bool}(pb:PB n bl)(ct:Cut bl k f):setA (setA (hmB n bl) (yesL bl k f) ((yesL bl k f).headD 0)) (noL bl k f) ((noL bl k f).headD 0)=hmB n (cutB bl k f):=by
 have pb':=z49 pb ct;refine K1v λx=>?_;by_cases hx:x<n
 ·rw[zc4 (by rw[z2I,z1u];exact hx),zc4 (by rw[z1u];exact hx),z5q hx,z5q hx];by_cases q:x∈noL bl k f
  ·rw[if_pos q,pb'.key ((z0a pb ct).mpr (.inr (.inr rfl))) q]
  ·rw[if_neg q];by_cases r:x∈yesL bl k f
   ·rw[if_pos r,pb'.key ((z0a pb ct).mpr (.inr (.inl rfl))) r]
   ·rw[if_neg r];obtain⟨hp,hm⟩:=pb.at_ hx;have ne:keyOf bl x≠k:=λe=>by
     rw[e]at hm;cases e2:f x with
     | true=>exact r (K0m.mpr ⟨hm,e2⟩)
     | false=>exact q (K0m.mpr ⟨hm,by simp[e2]⟩)
    rw[pb'.key ((z0a pb ct).mpr (.inl ⟨hp,ne⟩)) hm]
 ·rw[K0h (by rw[z2I,z2I,z1u];omega),K0h (by rw[z1u];omega)]
theorem zK8(g:z4m s):bel st mk bl (.str s) x=decide (s∈mkAt mk x):=by
 show bear s mk x=_;unfold bear;rw[.(y) (λe=>by rw[e]at g;exact absurd g.1 .(0)),K4o];rfl
theorem zE9{k:Nat}(pb:PB n bl)(hk:k∈bl.map (·.1))(hn:∀o∈nx st x,o<n):bel st mk bl (.int (k:Nat)) x=decide (k∈(nx st x).map (keyOf bl)):=by
 show ((nx st x).any λo=>decide (o∈blk bl ((k:Nat):Int).toNat))=_;rw[K0p,K1n,.(15),K08];constructor
 ·rintro⟨o,ho,e⟩;exact⟨o,ho,((pb.in_blk hk).mp (of_decide_eq_true e)).2⟩
 ·rintro⟨o,ho,e⟩;exact⟨o,ho,.(s) ((pb.in_blk hk).mpr ⟨hn o ho,e⟩)⟩
theorem zP8(e:h[i]?=.(l xs))(hl:xs.length<=1000000):z9w [.ref i] h=.ok .(R) (h++[.lst xs]):=by
 have s:seqD (.ref i) h=.ok xs h:=by unfold seqD getL;dsimp only;rw[e]
 unfold z9w;show (seqD (.ref i) >>= _) h=_;rw[M.bind_ok s];exact z6y hl
theorem zv8(ea:γ[a]?=some (.(r i)))(e:h[i]?=.(l (stD l)))(hn:l≠[]):(λγ=>do let d <- FT.e2 (fEq false) (Z6 fLen (z8 (eVar a) aNil)) .(3) γ;asB d:G->M Bool) γ h=.ok false h:=by
 refine cb_h (e2_h (j5 (z9 ea) (z5n e)) (y:=.int 0) rfl ?_);rw[zd1,.(y)]
 ·rfl
 ·have:=List.length_pos_iff.mpr hn;rw[J5];omega
theorem zv0(ea:γ[a]?=some (.(r i)))(e:h[i]?=.(l (stD l)))(hn:l≠[]):FT.e2 fIx (eVar a) .(3) γ h=.ok (.int (l.headD 0:Nat)) h:=by
 refine e2_h (z9 ea) (y:=.int 0) rfl (ix_h e ?_);cases l with
 | nil=>exact absurd rfl hn
 | cons x l=>exact z0p (j:=0) rfl
theorem zo9{k:Nat}{y:D}(ma:MA st mk)(pb:PB st.length bl)(bn:ByN mk bl k y)(ct:Cut bl k .(V))(e:h[i]?=.(l ((stD (hmB st.length bl))))):z0C [maD st mk,.ref i,.int (k:Nat),y] h=.ok .(R) (h++[.lst (stD (hmB st.length (cutB bl k .(V))))]):=by
 have l2:=ma.l2;have l3:=ma.l3;have good:∀x s,s∈mkAt mk x->z4m s:=λx s hs=>by
  by_cases q:x<mk.length
  ·exact(ma.m1 _ (K06 (z3s q))).good s hs
  ·unfold mkAt at hs;rw[K0h .(1)]at hs;cases hs
 obtain⟨f,hf⟩:∃f,f=bel st mk bl y:=⟨_,rfl⟩;rw[<- hf]at ct ⊢;obtain⟨Hm,hHm⟩:∃Hm,Hm=hmB .(c) bl:=⟨_,rfl⟩;rw[<- hHm]at e;have Hl:Hm.length=st.length:=by rw[hHm,z1u]
 have Ha:∀{x:Nat},x<.(c)->atI (stD Hm) (x:Int)=.(i (keyOf bl x:Nat)):=λ{x} hx=>by
  rw[z3V .(1),hHm,z5q hx];rfl
 obtain⟨blt,bll⟩:=z92 pb ct.hk;have key:W (runF 10 z0J [maD st mk,.ref i,.int (k:Nat),y]) h λd h'=>∃j p,d=.ref p/\h'=h++j/\.(m)<=p/\h'[p]?=.(l ((stD (hmB .(c) (cutB bl k f))))):=by
  refine z1V ?_;show W (z0J [some .(7),.(r i),.(i (k:Nat)),some y,none,none,none,none,none,none]) h _;unfold z0J z1L;refine z5i (xs:=[]) .(f) (λh=>rfl) ?_;refine z2s (λγ h'=>∃a,γ=[some .(7),.(r i),.(i (k:Nat)),some y,.(r .(m)),a,none,none,none,none]/\h'=h++[.lst (stD ((K7 .(c)).filter f))]) ?_ ?_
  ·refine z0i (λc γ h'=>∃a,γ=[some .(7),.(r i),.(i (k:Nat)),some y,.(r .(m)),a,none,none,none,none]/\h'=h++[.lst (stD ((K7 c).filter f))]) (λ_ _=>False) ?_;refine W_of (v:=.int (st.length:Nat)) (j5 .(a) (by rw[z5n (w4 e),J5,Hl])) ?_;refine⟨.(c),rfl,by omega,⟨none,rfl,rfl⟩,?_,λ_ _ q=>q,λ_ _ q=>q.elim⟩;rintro c _ _ hc ⟨a,rfl,rfl⟩;obtain⟨γ,hγ⟩:∃γ:G,γ=[some .(7),.(r i),.(i (k:Nat)),some y,.(r .(m)),.(i (c:Nat)),none,none,none,none]:=⟨_,rfl⟩;show W (Z0 _ _ [some .(7),.(r i),.(i (k:Nat)),some y,.(r .(m)),.(i (c:Nat)),none,none,none,none]) _ _;rw[<- hγ];have g0:γ[0]?=some (some .(7)):=by rw[hγ];rfl
   have g3:γ[3]?=some (some y):=by rw[hγ];rfl
   have g4:γ[4]?=some (.(r .(m))):=by rw[hγ];rfl
   have g5:γ[5]?=some (.(i (c:Nat))):=by rw[hγ];rfl
   have cl:((K7 c).filter f).length<=c:=by
    have:=K3u f (K7 c);simpa using this
   rcases bn with ⟨x,hx,s,hs,rfl⟩|⟨k',rfl,hk'⟩
   ·have gs:=good x s hs;have fc:f c=decide (s∈mkAt mk c):=by rw[hf];exact zK8 gs
    refine z5Z (b:=f c) (x:=c) (z4c (cv_h (z2k (z9 g3) rfl)) (cb_h (e2_h (z9 g3) (e2_h (e2_h (z9 g0) (y:=.int 1) rfl (by rw[z2n];rfl)) (z9 g5) (by rw[ix_tup (z5R (show c<mk.length by omega))];rfl)) (by rw[z7F,fc,K1h];rfl)))) g4 j9 .(1) (z9 g5) ?_;rw[z33];refine z5Z (b:=false) (x:=c) (z2o (cn_h (b:=true) (cv_h (z2k (z9 g3) rfl)))) g4 j9 (by split<;>(try rw[K02,K2x])<;>omega) (z9 g5) ?_;refine Y6 ⟨_,hγ,?_⟩;rw[z33,z4h];rfl
   ·have fc:f c=decide (k'∈(nx st c).map (keyOf bl)):=by rw[hf];exact zE9 pb hk' λo ho=>z3o (z3S ma) ho
    have nl:=zs9 ma c;refine z5Z (b:=false) (x:=c) (z2o (cv_h (z2k (z9 g3) rfl))) g4 j9 .(1) (z9 g5) ?_;rw[z33];refine z5Z (b:=f c) (x:=c) (z4c (cn_h (b:=false) (cv_h (z2k (z9 g3) rfl))) (zc1 (j:=[.lst (stD ((nx st c).map (keyOf bl)))]) (cb_h (e2_h (y:=.ref (h++[O.lst (stD ((K7 c).filter f))]).length) (h2:=h++[O.lst (stD ((K7 c).filter f))]++[.lst (stD ((nx st c).map (keyOf bl)))]) (z9 g3) ?c1 ?c2)))) g4 j9 (by simpa using(by omega:((K7 c).filter f).length<1000000)) (z9 g5) ?c3
    case c1=>
     refine(z0d (src:=.con (stD (nx st c))) (l:=nx st c) (λ_=>true) (λt=>.int (keyOf bl t:Nat)) (z0N (e2_h (e2_h (z9 g0) (y:=.int 0) rfl (by rw[z1c];rfl)) (z9 g5) (by rw[z4X (show c<.(c) from hc)];rfl))) rfl .(W) .(1) λt ht=>⟨[.(r i),.(i (t:Nat))],λh=>by rw[hγ];rfl,λj=>rfl,λ_ j=>e2_h .(a) .(a) (ix_h (w4 (w4 e)) (Ha (z3o (z3S ma) ht)))⟩).trans ?_;rw[filter_tt];show Res.ok _ (_++[O.lst (((nx st c).map λt=>D.int (keyOf bl t:Nat)))])=_;rw[show ((nx st c).map λt=>D.int (keyOf bl t:Nat))=stD ((nx st c).map (keyOf bl)) by unfold stD;rw[K0g];rfl];rfl
    case c2=>
     rw[z85 j9,fc,K1h];rfl
    case c3=>
     refine Y6 ⟨_,hγ,?_⟩;rw[z33,z4h];rfl
  rintro _ _ ⟨a,rfl,rfl⟩;obtain⟨Ch,hCh⟩:∃Ch,Ch=(K7 .(c)).filter f:=⟨_,rfl⟩;rw[<- hCh];obtain⟨H0,hH0⟩:∃H0,H0=h++[O.lst (stD Ch)]:=⟨_,rfl⟩;have eC:∀j,(H0++j)[.(m)]?=.(l (stD Ch)):=λj=>by rw[hH0];exact w4 j9
  have e0:∀j,(H0++j)[i]?=.(l (stD Hm)):=λj=>by rw[hH0];exact w4 (w4 e)
  rw[<- hH0];obtain⟨B,hB⟩:∃B,B=blk bl k:=⟨_,rfl⟩;have Bl':B.length<=40:=by rw[hB];omega
  have c1:Y7 [some 1,some 2,none] (z0k (Z6 fLen .(11))) (gN 2) (λγ=>do let d <- FT.e2 (fEqX false) (FT.e2 fIx .(h) .(w)) .(j) γ;asB d) .(w) [some .(7),.(r i),.(i (k:Nat)),some y,.(r .(m)),a,none,none,none,none] H0=.ok (.ref H0.length) (H0++[.lst (stD B)]):=by
   refine(z0d (src:=.con (z1g st.length)) (l:=K7 st.length) (λx=>decide (keyOf bl x=k)) (λx=>.int (x:Nat)) (z2x (j5 .(a) (by have:=e0 [];rw[K1d]at this;rw[z5n this,J5,Hl])) .(1)) rfl .(W) (by simp;omega) λx hx=>⟨[.(r i),.(i (k:Nat)),.(i (x:Nat))],λh=>rfl,λj=>?_,λ_ j=>z9 rfl⟩).trans ?_
   ·refine cb_h (e2_h (e2_h .(a) .(a) (ix_h (e0 j) (Ha (K0q.mp hx)))) .(a) ?_);rw[z2q (z12 (n:=23) _ _),K1h]
   ·rw[hB,<- zW7 pb ct.hk];rfl
  refine j8 (.ref H0.length) [some .(7),.(r i),.(i (k:Nat)),some y,.(r .(m)),a,.(r H0.length),none,none,none] c1 rfl ?_;have inC:∀x∈B,decide (x∈Ch)=f x:=λx hx=>by
   have:=blt x (by rw[<- hB];exact hx);rw[hCh,K0p,.(15),K0m,K0q];exact⟨λz=>z.2,λz=>⟨this,z⟩⟩
  have c2:Y7 [some 4,none] (z0e (eVar 6)) (gN 1) (λγ=>do let d <- FT.e2 (fIn false) .(j) .(h) γ;asB d) .(j) [some .(7),.(r i),.(i (k:Nat)),some y,.(r .(m)),a,.(r H0.length),none,none,none] (H0++[.lst (stD B)])=.ok (.ref (H0++[O.lst (stD B)]).length) (H0++[.lst (stD B)]++[.lst (stD (yesL bl k f))]):=by
   refine(z0d (l:=B) (λx=>decide (x∈Ch)) (λx=>.int (x:Nat)) (z4b .(a) j9) rfl (λj=>w4 j9) .(1) λx hx=>⟨[.(r .(m)),.(i (x:Nat))],λh=>rfl,λj=>?_,λ_ j=>z9 rfl⟩).trans ?_
   ·refine cb_h (e2_h .(a) .(a) ?_);rw[z85 (l:=Ch) (by rw[K0e];exact eC _),K1h]
   ·rw[K7h inC,hB];rfl
  refine j8 (.ref (H0++[O.lst (stD B)]).length) [some .(7),.(r i),.(i (k:Nat)),some y,.(r .(m)),a,.(r H0.length),.(r ((H0++[O.lst (stD B)]).length)),none,none] c2 rfl ?_;have eB:∀j,(H0++[O.lst (stD B)]++j)[H0.length]?=.(l (stD B)):=λj=>w4 j9;obtain⟨H1,hH1⟩:∃H1,H1=H0++[O.lst (stD B)]:=⟨_,rfl⟩;rw[<- hH1]at eB ⊢;have c3:Y7 [some 4,none] (z0e (eVar 6)) (gN 1) (λγ=>do let d <- FT.e2 (fIn true) .(j) .(h) γ;asB d) .(j) [some .(7),.(r i),.(i (k:Nat)),some y,.(r .(m)),a,.(r H0.length),.(r H1.length),none,none] (H1++[.lst (stD (yesL bl k f))])=.ok (.ref (H1++[O.lst (stD (yesL bl k f))]).length) (H1++[.lst (stD (yesL bl k f))]++[.lst (stD (noL bl k f))]):=by
   refine(z0d (l:=B) (λx=>!decide (x∈Ch)) (λx=>.int (x:Nat)) (z4b .(a) (eB _)) rfl (λj=>by show (_++j)[H0.length]?=_;rw[K0e];exact eB _) .(1) λx hx=>⟨[.(r .(m)),.(i (x:Nat))],λh=>rfl,λj=>?_,λ_ j=>z9 rfl⟩).trans ?_
   ·refine cb_h (e2_h .(a) .(a) ?_);rw[z85 (l:=Ch) (by rw[K0e,hH1,K0e];exact eC _),K7n]
   ·rw[K7h (q:=λx=>!f x) λx hx=>by rw[inC x hx],hB];rfl
  refine j8 (.ref (H1++[O.lst (stD (yesL bl k f))]).length) [some .(7),.(r i),.(i (k:Nat)),some y,.(r .(m)),a,.(r H0.length),.(r H1.length),.(r ((H1++[O.lst (stD (yesL bl k f))]).length)),none] c3 rfl ?_;obtain⟨Y,hY⟩:∃Y,Y=yesL bl k f:=⟨_,rfl⟩;obtain⟨N,hN⟩:∃N,N=noL bl k f:=⟨_,rfl⟩;have hy:Y≠[]:=by rw[hY];exact ct.hy
  have hn:N≠[]:=by rw[hN];exact ct.hn
  have subB:∀{x:Nat},x∈Y\/x∈N->x<st.length:=λ{x} z=>by
   rw[hY,hN]at z;refine blt x ?_;rcases z with z|z<;>exact(K0m.mp z).1
  rw[<- hY,<- hN];obtain⟨H2,hH2⟩:∃H2,H2=H1++[O.lst (stD Y)]++[O.lst (stD N)]:=⟨_,rfl⟩;have eY:∀j,(H2++j)[H1.length]?=.(l (stD Y)):=λj=>by rw[hH2];exact w4 (w4 j9)
  have eN:∀j,(H2++j)[(H1++[O.lst (stD Y)]).length]?=.(l (stD N)):=λj=>by rw[hH2];exact w4 j9
  have eH:H2[i]?=.(l (stD Hm)):=by rw[hH2,hH1,K0e,K0e];exact e0 _
  have eY0:=eY [];have eN0:=eN [];rw[K1d]at eY0 eN0;rw[<- hH2];refine Y0 false (z5k (zv8 rfl eY0 hy) (zv8 rfl eN0 hn)) ?_;rw[if_neg .(0)];refine y6 (j8 (.ref H2.length) .(F) (j5 .(a) (zP8 eH (by rw[J5];omega))) rfl ?_);obtain⟨u,hu⟩:∃u,u=Y.headD 0:=⟨_,rfl⟩;obtain⟨v,hv⟩:∃v,v=N.headD 0:=⟨_,rfl⟩;refine z2s (λγ h'=>∃a,γ=.(F)/\h'=H2++[.lst (stD (setA Hm Y u))]) ?_ ?_
  ·refine z15 (λc γ h'=>∃a,γ=.(F)/\h'=H2++[.lst (stD (setA Hm (Y.take c) u))]) (λ_ _=>False) ?_;refine W_of (v:=.lst H1.length (stD Y)) (z4b .(a) (eY _)) ?_;refine⟨⟨a,rfl,rfl⟩,λc γ h' ⟨_,_,q⟩=>by rw[q];exact eY _,?_,?_,λ_ _ q=>q.elim⟩
   ·rintro c d γ _ hd ⟨a,rfl,rfl⟩;obtain⟨x,rfl,ex⟩:=z4D (show (stD Y)[c]?=some d from hd);refine W_eq (v:=[some .(7),.(r i),.(i (k:Nat)),some y,.(r .(m)),.(i (x:Nat)),.(r H0.length),.(r H1.length),.(r ((H1++[O.lst (stD Y)]).length)),.(r H2.length)]) rfl ?_;refine z9X (zv0 rfl (eY _) hy) rfl rfl j9 (by rw[J5,z2I,Hl];exact subB (.inl (K06 ex))) ?_;refine Y6 ⟨_,rfl,?_⟩;rw[z33,zw1,<- hu,z6V ex]
   ·rintro γ _ ⟨a,rfl,rfl⟩;rw[show (Src.lst H1.length (stD Y)).items.length=Y.length from J5 Y,K1g];exact⟨a,rfl,rfl⟩
  rintro _ _ ⟨a,rfl,rfl⟩;refine z2s (λγ h'=>∃a,γ=.(F)/\h'=H2++[.lst (stD (setA (setA Hm Y u) N v))]) ?_ ?_
  ·refine z15 (λc γ h'=>∃a,γ=.(F)/\h'=H2++[.lst (stD (setA (setA Hm Y u) (N.take c) v))]) (λ_ _=>False) ?_;refine W_of (v:=.lst (H1++[O.lst (stD Y)]).length (stD N)) (z4b .(a) (eN _)) ?_;refine⟨⟨a,rfl,rfl⟩,λc γ h' ⟨_,_,q⟩=>by rw[q];exact eN _,?_,?_,λ_ _ q=>q.elim⟩
   ·rintro c d γ _ hd ⟨a,rfl,rfl⟩;obtain⟨x,rfl,ex⟩:=z4D (show (stD N)[c]?=some d from hd);refine W_eq (v:=[some .(7),.(r i),.(i (k:Nat)),some y,.(r .(m)),.(i (x:Nat)),.(r H0.length),.(r H1.length),.(r ((H1++[O.lst (stD Y)]).length)),.(r H2.length)]) rfl ?_;refine z9X (zv0 rfl (eN _) hn) rfl rfl j9 (by rw[J5,z2I,z2I,Hl];exact subB (.inr (K06 ex))) ?_;refine Y6 ⟨_,rfl,?_⟩;rw[z33,zw1,<- hv,z6V ex]
   ·rintro γ _ ⟨a,rfl,rfl⟩;rw[show (Src.lst (H1++[O.lst (stD Y)]).length (stD N)).items.length=N.length from J5 N,K1g];exact⟨a,rfl,rfl⟩
  rintro _ _ ⟨a,rfl,rfl⟩;have fe:=zQ2 pb ct;rw[<- hY,<- hN,<- hHm,<- hu,<- hv]at fe;rw[fe];refine Y5 (.ref H2.length) .(a) ⟨[.lst (stD Ch),.lst (stD B),.lst (stD Y),.lst (stD N),.lst (stD (hmB .(c) (cutB bl k f)))],H2.length,rfl,?_,?_,j9⟩
  ·rw[hH2,hH1,hH0];simp
  ·rw[hH2,hH1,hH0];simp only[K02];omega
 obtain⟨d,h',e',j,p,rfl,rfl,hp,ep⟩:=key;exact z2g e' rfl (z2V h) hp ep (z1w _)
theorem zA7(i:Int):z0b [.int i] h=.ok (.bl false) h:=by
 show cln (runF 2 w8 [.int i]) h=_;refine z0m (j:=[.lst ((["yes","no","not","and","or","step","some","all","next","once","ever","until","unless"]:List Str).map D.str)]) (z3P ?_) rfl;show W (w8 [.(i i),none]) h _;unfold w8;refine z5i (xs:=(["yes","no","not","and","or","step","some","all","next","once","ever","until","unless"]:List Str).map D.str) .(0) (λh=>rfl) ?_;refine Y0 true (zx6 (cn_h (b:=false) (cv_h (z2k .(a) rfl)))) ?_;rw[if_pos rfl];exact z0v (Y5 (.bl false) rfl ⟨rfl,rfl⟩)
theorem zt5(hn:0<n):hmB n [(0,K7 n)]=K0c n 0:=by
 have pb:=z2L hn;refine K1v λx=>?_;by_cases hx:x<n
 ·rw[z5q hx,pb.key (p:=(0,K7 n)) .(f) (K0q.mpr hx),K2k,if_pos hx]
 ·rw[K0h (by rw[z1u];omega),K0h (by simp;omega)]
theorem zO2(ma:MA st mk)(cu:Cuts st mk [(0,K7 st.length)] cs bl):z1o [maD st mk,.tup (Y2 cs)] h=.ok .(R) (h++[.lst (stD (hmB st.length bl))]):=by
 have l1:=ma.l1;have l2:=ma.l2;have l3:=ma.l3;have pb0:PB .(c) [(0,K7 .(c))]:=z2L .(1);obtain⟨C,hC⟩:∃C,C=D.tup (Y2 cs):=⟨_,rfl⟩;rw[<- hC];have key:W (runF 4 z0l [maD st mk,C]) h λd h'=>∃j p,d=.ref p/\h'=h++j/\.(m)<=p/\h'[p]?=.(l ((stD (hmB .(c) bl)))):=by
  refine z1V ?_;show W (z0l [some .(7),some C,none,none]) h _;unfold z0l z1L;have c0:Y7 [none] (x9 (FT.e2 fIx .(h) .(3))) (gN 0) .(o) .(3) [some .(7),some C,none,none] h=.ok (.ref .(m)) (h++[.lst (stD (hmB .(c) [(0,K7 .(c))]))]):=by
   refine(z1z (src:=.con (stsD st)) (λ_=>true) (λ_=>.int ((0:Nat):Int)) (z0N .(N)) .(W) (by show (stsD st).length<=_;rw[z16];omega) λd hd=>⟨[some d],λh=>rfl,λj=>rfl,λ_ j=>rfl⟩).trans ?_;rw[filter_tt,zt5 .(1)];show Res.ok _ (h++[O.lst ((stsD st).map λ_=>D.int ((0:Nat):Int))])=_;rw[Z23,z16];unfold stD;rw[K5f]
  refine j8 (.ref .(m)) [some .(7),some C,.(r .(m)),none] c0 rfl ?_;refine Y0 (!true) (cn_h (cv_h (z2k .(a) (by rw[hC];rfl)))) ?_;rw[if_neg .(0)];refine y6 ?_;refine z2s (λγ h'=>∃a j p,γ=[some .(7),some C,.(r p),a]/\h'=h++j/\.(m)<=p/\h'[p]?=.(l ((stD (hmB .(c) bl))))) ?_ ?_
  ·refine z15 (λc γ h'=>∃a j p bl1,γ=[some .(7),some C,.(r p),a]/\h'=h++j/\.(m)<=p/\h'[p]?=.(l ((stD (hmB .(c) bl1))))/\Cuts st mk [(0,K7 .(c))] (cs.take c) bl1) (λ_ _=>False) ?_;refine W_of (v:=.con (Y2 cs)) (z0N (by rw[hC];exact z9 rfl)) ?_;refine⟨⟨none,_,.(m),_,rfl,rfl,K05 _,j9,.nil⟩,λ_ _ _ _=>trivial,?_,?_,λ_ _ q=>q.elim⟩
   ·rintro c d γ _ hd ⟨a,j,p,bl1,rfl,rfl,hp,ep,c1⟩;obtain⟨q,eq,rfl⟩:∃q,cs[c]?=some q/\d=.tup [.int (q.1:Nat),q.2]:=by
     have h:=show (Y2 cs)[c]?=some d from hd;unfold Y2 at h;rw[K04]at h;obtain⟨q,eq,rfl⟩:=K15.mp h;exact⟨q,eq,rfl⟩
    obtain⟨bl2,k,y,c2,c3,ec,bn,ct⟩:=z8I cu c (K5.mp eq).1;obtain⟨_,rfl⟩:=z3D c1 c2 rfl;rw[eq]at ec;injection ec with ec
    subst ec;have pb:=(c1.len pb0).1;have kl:=pb.klt ct.hk;obtain⟨γ,hγ⟩:∃γ:G,γ=[some .(7),some C,.(r p),.(g .(q))]:=⟨_,rfl⟩;refine W_eq (v:=γ) (by rw[hγ];rfl) ?_;have g0:γ[0]?=some (some .(7)):=by rw[hγ];rfl
    have g2:γ[2]?=some (.(r p)):=by rw[hγ];rfl
    have g3:γ[3]?=some (.(g .(q))):=by rw[hγ];rfl
    have ln:Z6 fLen (z8 .(w) aNil) γ (h++j)=.ok (.int (st.length:Nat)) (h++j):=j5 (z9 g2) (by rw[z5n ep,J5,z1u]);have i0:FT.e2 fIx (eVar 3) .(3) γ (h++j)=.ok (.int (k:Nat)) (h++j):=e2_h (z9 g3) (y:=.int 0) rfl rfl;have i1:FT.e2 fIx (eVar 3) .(6) γ (h++j)=.ok y (h++j):=e2_h (z9 g3) (y:=.int 1) rfl rfl;refine Y0 false (z5k (cn_h (b:=true) (cv_h (fn_h (ds:=[.tup .(q),.int 2,.int 2]) (ac_h (z9 g3) (ac_h (d:=.int 2) rfl (ac_h (d:=.int 2) rfl rfl))) rfl (congrFun (z2j (m:=2) (n:=2) .(f) .(f)) _)))) (cn_h (b:=true) (cv_h (fn_h (ds:=[.int (k:Nat),.int 0,.int (st.length:Nat)]) (ac_h i0 (ac_h (d:=.int 0) rfl (ac_h ln rfl))) rfl (congrFun (z2R kl) _))))) ?_;rw[if_neg .(0)];refine y6 ?_;have rest:∀{Q:Out->AH->Prop},(∀j',Q (.nx (γ.set 2 (.(r ((h++j).length))))) (h++j++[.lst (stD (hmB .(c) (cutB bl1 k (bel st mk bl1 y))))]))->W .(13) (h++j) Q:=λ{Q} z=>by
     refine j8 (.ref (h++j).length) (γ.set 2 (.(r ((h++j).length)))) (fn_h (ds:=[maD st mk,.ref p,.int (k:Nat),y]) (ac_h (z9 g0) (ac_h (z9 g2) (ac_h i0 (ac_h i1 rfl)))) rfl (zo9 ma pb bn ct ep)) rfl ?_;refine Y0 false (cb_h (e2_h (x:=.ref (h++j).length) (z9 (by rw[hγ];rfl)) (y:=.non) rfl rfl)) ?_;rw[if_neg .(0)];exact y6 (Y6 (z 0))
    have fin:W .(13) (h++j) (forW (λγ h'=>∃a j p bl1,γ=[some .(7),some C,.(r p),a]/\h'=h++j/\.(m)<=p/\h'[p]?=.(l ((stD (hmB .(c) bl1))))/\Cuts st mk [(0,K7 .(c))] (cs.take (c+1)) bl1) λ_ _=>False):=
     rest λ_=>⟨_,j++[.lst (stD (hmB .(c) (cutB bl1 k (bel st mk bl1 y))))],(h++j).length,_,by rw[hγ];rfl,by rw[K0e],by rw[K02];omega,j9,c3⟩
    rcases bn with ⟨x,hx,s,hs,rfl⟩|⟨k',rfl,hk'⟩
    ·have gs:z4m s:=by
      have:mkAt mk x∈mk:=K06 (z3s (by have:=(z92 pb ct.hk).1 x hx;omega));exact(ma.m1 _ this).good s hs
     refine Y0 (!true) (cn_h (cv_h (fn_h (ds:=[.str s]) (ac_h i1 rfl) rfl (zx5 gs)))) ?_;rw[if_neg .(0)];exact y6 fin
    ·have kl':=pb.klt hk';refine Y0 (!false) (cn_h (cv_h (fn_h (ds:=[.int (k':Nat)]) (ac_h i1 rfl) rfl (zA7 _)))) ?_;rw[if_pos (by rfl)];refine z0v (Y0 false (z5k (cn_h (b:=true) (cv_h (fn_h (ds:=[.int (k':Nat),.int 0,.int (st.length:Nat)]) (ac_h i1 (ac_h (d:=.int 0) rfl (ac_h ln rfl))) rfl (congrFun (z2R kl') _)))) (cb_h (e2_h (e2_h (z9 g2) i1 (ix_h ep (d:=.int (k':Nat)) (by rw[z3V (by rw[z1u];exact kl'),z5q kl',pb.keyself hk'];rfl))) i1 (by rw[z8j,.(s) rfl];rfl)))) ?_);rw[if_neg .(0)];exact y6 (y6 fin)
   ·rintro γ h' ⟨a,j,p,bl1,rfl,rfl,hp,ep,c1⟩;rw[show (Src.con (Y2 cs)).items.length=cs.length by show (Y2 cs).length=_;unfold Y2;rw[K03],K1g]at c1;obtain⟨_,rfl⟩:=z3D c1 cu rfl;exact⟨a,j,p,rfl,rfl,hp,ep⟩
  rintro _ _ ⟨a,j,p,rfl,rfl,hp,ep⟩;exact Y5 (.ref p) .(a) ⟨j,p,rfl,rfl,hp,ep⟩
 obtain⟨d,h',e',j,p,rfl,rfl,hp,ep⟩:=key;exact z2g e' rfl (z2V h) hp ep (z1w _)
end
theorem Z00(hn:n<=1000)(hl:l.Pairwise (·<·))(hm:∀x∈l,x<n):z1r [.tup (stD l),.int n]=pure (.bl true):=by
 have len:=z2T hl hm;refine zH5 rfl λh=>?_;refine z1V ?_;show W (z0L [.(g (stD l)),.(i n),none]) h _;unfold z0L;refine q_if false ?_ ?_
 ·simp only[K3j,K00,K6,K0d,K0l,K12,z8,aNil,Y9,cNot,cVal,eFn,eVar,if_true,z25,zD4 (xs:=stD l) (n:=n) (by rw[J5];omega)]
 rw[if_neg .(0)];refine y6 ?_;rw[w_cons];refine z0i (λc γ h'=>∃w,γ=[.(g (stD l)),.(i n),w]/\h'=h) (λ_ _=>False) ?_;simp only[K6,j0,W_pure,z8,aNil,z0u,z4A,e2,Z6,eVar,z17];refine⟨l.length,by rw[J5],by omega,⟨_,rfl,trivial⟩,?_,?_,λ_ _ q=>q.elim⟩
 ·rintro c γ h2 hc ⟨w,rfl,rfl⟩;have mc:(l[c]?).getD 0=l[c]:=by rw[K2 hc];rfl
  have lt:=hm _ (K3l hc);refine q_if false ?_ ?_
  ·have e1:fIx (.tup (stD l)) (.int c)=pure (.int (l[c]:Nat)):=by rw[ix_tup (z3V hc),mc]
   by_cases c0:(0:Int)<c
   ·have e2':((c:Int) - 1)=((c - 1:Nat):Int):=by omega
    have hc1:c - 1<l.length:=by omega
    have lt2:=K53.mp hl (c - 1) c hc1 hc .(1);have mc1:(l[c - 1]?).getD 0=l[c - 1]:=by rw[K2 hc1];rfl
    have e3:fIx (.tup (stD l)) (.int ((c:Int) - 1))=pure (.int (l[c - 1]:Nat)):=by rw[e2',ix_tup (z3V hc1),mc1]
    simp only[K1y,K3j,K00,K6,K0d,K0l,K0u,K0t,K12,z8,aNil,z0O,Y9,cAnd,cNot,cOr,cVal,decide_eq_false (show ¬((l[c - 1]:Nat):Int) >= (l[c]:Nat) by omega),decide_eq_true c0,e1,e2,e3,eFn,eVar,zX7,zk7,if_false,if_true,z2R lt,zc5,z25]
   ·simp only[K1y,K3j,K00,K6,K0d,K0l,K0u,K0t,K12,z8,aNil,z0O,Y9,cAnd,cNot,cOr,cVal,decide_eq_false c0,e1,e2,eFn,eVar,zk7,if_false,if_true,z2R lt,zc5,z25]
  rw[if_neg .(0)];exact y6 (Y6 ⟨_,rfl,rfl⟩)
 ·rintro γ h2 ⟨w,rfl,rfl⟩;exact Z0O _ rfl ⟨rfl,[],by simp⟩
theorem zU1(l1:1<=st.length)(l2:st.length<=40)(lm:mk.length=st.length)(rs:∀l∈st,l.Pairwise (·<·))(lt:∀l∈st,∀x∈l,x<st.length):z06 [maD st mk,maD st mk]=pure (.bl true):=by
 refine zH5 rfl λh=>?_;refine z1V ?_;show W (z09 [some .(7),some .(7),none]) h _;unfold z09;refine q_if false ?_ ?_
 ·have e1:Z9 [maD st mk,.int 2,.int 2]=pure (.bl true):=z2j (m:=2) (n:=2) (xs:=[.tup (stsD st),.tup (mksD mk)]) .(f) .(f);simp only[K7n,K1y,K3j,K00,K6,K0d,K0l,K12,z8,aNil,z0O,Y9,cNot,cOr,cVal,decide_true,e1,e2,eFn,eVar,zP3,if_false,if_true,z25];simp
 rw[if_neg .(0)];refine y6 ?_;refine q_if false ?_ ?_
 ·have e1:Z9 [.tup (stsD st),.int 1,.int 40]=pure (.bl true):=z2j (m:=1) (n:=40) (by rw[z16];omega) (by rw[z16];omega);have e2':Z9 [.tup (mksD mk),.int 1,.int 40]=pure (.bl true):=z2j (m:=1) (n:=40) (by rw[z83];omega) (by rw[z83];omega);simp only[K1y,K3j,K6,K0d,K0l,K12,z8,aNil,Y9,cNot,cOr,cVal,e1,e2,e2',eFn,eVar,if_false,if_true,z1c,z2n,z25]
 rw[if_neg .(0)];refine y6 ?_;refine z2s (λγ h'=>∃w,γ=[some .(7),some .(7),w]/\h'=h) ?_ ?_
 ·refine z15 (λc γ h'=>∃w,γ=[some .(7),some .(7),w]/\h'=h) (λ_ _=>False) ?_;refine W_eq (v:=.con (stsD st)) (by unfold x9;simp only[K6,Y9,e2,eVar,z1c]) ?_;refine⟨⟨none,rfl,rfl⟩,λ_ _ _ _=>trivial,?_,?_,λ_ _ q=>q.elim⟩
  ·rintro c d γ _ hd ⟨w,rfl,rfl⟩;have hd':(stsD st)[c]?=some d:=hd;unfold stsD at hd';rw[K04]at hd';obtain⟨l,el,rfl⟩:=K15.mp hd';have ml:=K06 el;refine W_eq (v:=[some .(7),some .(7),.(g (stD l))]) rfl ?_;refine q_if false ?_ ?_
   ·simp only[K3j,K00,K6,K0d,K0l,K12,z8,aNil,Y9,cNot,cVal,e2,Z6,eFn,eVar,Z00 (l:=l) (n:=st.length) .(1) (rs l ml) (lt l ml),if_true,z1c,z17,z16,z25]
   rw[if_neg .(0)];exact y6 (Y6 ⟨_,rfl,rfl⟩)
  ·exact λγ h2 z=>z
 rintro γ _ ⟨w,rfl,rfl⟩;refine Y5 (.bl (([]:List D).isEmpty != false)) (zl3 (j:=[]) ?_ .(f)) ⟨rfl,[],by simp⟩;rw[zL8 (items:=mksD mk) (λ_=>false) (λd=>d) (by unfold x9;simp only[K6,Y9,e2,eVar,z2n]) (by rw[z83];omega) ?_]
 ·rw[K1d];congr 1;simp
 ·intro d hd;unfold mksD at hd;obtain⟨l,_,rfl⟩:=K08.mp hd;refine⟨[.(g (l.map .str))],rfl,?_,λz=>by cases z⟩;simp only[K6,Y9,cNot,cVal,eIsi,eVar,z7C,z25];rfl
theorem zF5{ys:List D}(e1:h[i]?=.(l xs))(e2':h[j]?=.(l ys))(hl:xs.length+ys.length<=100000):fAdd (.ref i) (.ref j) h=.ok .(R) (h++[.lst (xs++ys)]):=by
 have g1:getL i h=.ok xs h:=by unfold getL;rw[e1]
 have g2:getL j h=.ok ys h:=by unfold getL;rw[e2']
 show (getL i >>= λx=>getL j >>= λy=>newL (x++y)) h=_;rw[M.bind_ok g1,M.bind_ok g2];exact z6y (by rw[K02];omega)
def z1d(st:List .(19))(row:List Nat)(k o:Nat):List Nat:=((K7 o).filter λx=>decide (rowAt row x=k)).flatMap λx=>(nx st x).map (rowAt row)
theorem z2K(k o:Nat):z1d st row k (o+1)=if rowAt row o=k then z1d st row k o++(nx st o).map (rowAt row) else z1d st row k o:=by
 unfold z1d;rw[K4i,K9v];by_cases q:rowAt row o=k<;>simp[q]
theorem zi3{k o:Nat}:x∈z1d st row k o↔∃y,y<o/\rowAt row y=k/\x∈(nx st y).map (rowAt row):=by
 unfold z1d;simp only[K63,K0m,K0q,decide_eq_true_eq,and_assoc]
theorem z54(m:MR st mk row)(k:Nat):∀o,o<=row.length->(z1d st row k o).length<=o * 40
 | 0,_=>by simp[z1d]
 | o+1,h=>by
  rw[z2K];have ih:=z54 m k o .(1);have:=m.nxl (x:=o) (by rw[<- m.s.len];omega);split
  ·rw[K02,K03];omega
  ·omega
theorem zg1(m:MR st mk row){k:Nat}(hk:k∈row):setN (z1d st row k row.length)=FT.led st row (row.idxOf k):=by
 have il:=K0w.mpr hk;refine z2H (z0X _) (z0X _) λx=>?_;rw[z0t,zi3];have ll:∀y,y<row.length->rowAt row y=k->FT.led st row y=FT.led st row (row.idxOf k):=λy hy e=>by
  have:=(m.s.like y hy).2;rw[e]at this;exact this
 constructor
 ·rintro⟨y,hy,e,hx⟩;have:x∈FT.led st row y:=by unfold FT.led;rw[z0t];exact hx
  rw[ll y hy e]at this;exact this
 ·intro hx;have hx:x∈FT.led st row (row.idxOf k):=hx;refine⟨row.idxOf k,il,z1W hk,?_⟩;unfold FT.led at hx;rwa [z0t]at hx
theorem zm7(m:MR st mk row)(hn:1<=n)(inv:∀u,u∈row↔u<n):z0G [maD st mk,.tup .(v)] h=.ok (maD (qst n st row) (qmk n mk row)) h:=by
 have l2:=m.q.l2;have sl:=m.s.len;have lm:=m.lm;have nn:n<=row.length:=by
  have h2:=(K4z (n:=n)).length_le_of_subset (l₂:=row) (λx hx=>(inv x).mpr (by simpa using hx));simpa using h2
 show cln (runF 7 J7 [maD st mk,.tup .(v)]) h=_;obtain⟨v,h',e,rfl,j,rfl⟩:W (runF 7 J7 [maD st mk,.tup .(v)]) h λv h'=>v=maD (qst n st row) (qmk n mk row)/\∃j,h'=h++j:=by
  refine z1V ?_;show W (J7 [some .(7),.(g .(v)),none,none,none,none,none]) h _;unfold J7;refine z5i (xs:=[]) .(f) (λh=>rfl) ?_;refine z5i (xs:=[]) .(f) (λh=>rfl) ?_;refine z2s (λγ h'=>∃a b e j,γ=[some .(7),.(g .(v)),.(r (.(m)+0)),.(r (.(m)+1)),a,b,e]/\h'=h++(.lst (stsD (qst n st row))::.lst (mksD (qmk n mk row))::j)) ?_ ?_
  ·refine z0i (λc γ h'=>∃a b e j,γ=[some .(7),.(g .(v)),.(r (.(m)+0)),.(r (.(m)+1)),a,b,e]/\h'=h++(.lst (stsD (qst c st row))::.lst (mksD (qmk c mk row))::j)) (λ_ _=>False) ?_;have e1:z5a [.tup .(v)]=pure (.int ((n - 1:Nat):Int)):=by
    unfold z5a;dsimp only;rw[z3F];dsimp only;rw[if_pos (by unfold zN;rw[K03];omega),zb2 hn inv]
   refine W_eq (v:=.int (n:Nat)) ?_ ⟨n,rfl,by omega,⟨none,none,none,[],?_,?_⟩,?_,?_,λ_ _ q=>q.elim⟩
   ·show e2 fAdd (Z6 z5a .(11)) .(6) [some .(7),.(g .(v)),.(r .(m)),.(r ((h++[O.lst []]).length)),none,none,none]=_;simp only[K00,K6,z8,aNil,z1l,Y9,e1,e2,Z6,eVar];rw[show ((n - 1:Nat):Int)+1=(n:Int) by omega]
   ·simp
   ·simp[qst,qmk,stsD,mksD]
   ·rintro c _ _ hc ⟨a,b,e,j,rfl,rfl⟩;have cm:c∈row:=(inv c).mpr hc;have il:=K0w.mpr cm;show W (Z0 _ _ [some .(7),.(g .(v)),.(r (.(m)+0)),.(r (.(m)+1)),.(i (c:Nat)),b,e]) _ _;refine z5i (xs:=stD []) (by simp[stD]) (λh=>rfl) ?_;refine z2s (λγ h'=>∃i e j,γ=[some .(7),.(g .(v)),.(r (.(m)+0)),.(r (.(m)+1)),.(i (c:Nat)),.(r i),e]/\h'=h++(.lst (stsD (qst c st row))::.lst (mksD (qmk c mk row))::j)/\h'[i]?=.(l ((stD (z1d st row c row.length))))) ?_ ?_
    ·refine z0i (λo γ h'=>∃i e j,γ=[some .(7),.(g .(v)),.(r (.(m)+0)),.(r (.(m)+1)),.(i (c:Nat)),.(r i),e]/\h'=h++(.lst (stsD (qst c st row))::.lst (mksD (qmk c mk row))::j)/\h'[i]?=.(l ((stD (z1d st row c o))))) (λ_ _=>False) ?_;refine W_of (v:=.int (row.length:Nat)) (j5 .(a) (by rw[z17,J5];rfl)) ⟨row.length,rfl,by omega,⟨_,_,j++[.lst (stD (z1d st row c 0))],rfl,by simp[z1d],(j9 (o:=.lst (stD (z1d st row c 0))))⟩,?_,?_,λ_ _ q=>q.elim⟩
     ·rintro o _ _ ho ⟨i,e,j,rfl,rfl,gi⟩;have al:=z54 m c o .(1);have nl:=m.nxl (x:=o) .(1);show W (Z0 _ _ [some .(7),.(g .(v)),.(r (.(m)+0)),.(r (.(m)+1)),.(i (c:Nat)),.(r i),.(i (o:Nat))]) _ _;refine Y0 (decide (rowAt row o=c)) (cb_h (e2_h (e2_h .(a) .(a) (by rw[ix_tup (z3V (l:=row) (c:=o) ho)];rfl)) .(a) ((z2q (z12 (n:=23) (rowAt row o) c)).trans (by rw[K1h])))) ?_;by_cases q:rowAt row o=c
      ·rw[.(s) q,if_pos rfl];refine z0v ?_;obtain⟨H,hH⟩:∃H,H=h++(O.lst (stsD (qst c st row))::.lst (mksD (qmk c mk row))::j):=⟨_,rfl⟩;rw[<- hH]at gi ⊢;have e3:Y7 [some 1,none] (x9 (e2 fIx .(M) (eVar 6))) (gN 1) .(o) (e2 fIx .(h) .(j)) [some .(7),.(g .(v)),.(r (.(m)+0)),.(r (.(m)+1)),.(i (c:Nat)),.(r i),.(i (o:Nat))] H=.ok (.ref H.length) (H++[.lst (stD ((nx st o).map (rowAt row)))]):=by
        refine(z0d (src:=.con (stD (nx st o))) (l:=nx st o) (λ_=>true) (λt=>.int (rowAt row t)) (z0N ?_) rfl .(W) .(1) λt ht=>⟨[.(g .(v)),.(i t)],λh=>rfl,λj=>rfl,λ_ j=>?_⟩).trans ?_
        ·exact e2_h .(N) .(a) (by rw[z4X (show o<.(c) by omega)];rfl)
        ·exact e2_h .(a) .(a) (by rw[ix_tup (z3V (by rw[m.s.len];exact z3o m.q ht))];rfl)
        ·rw[filter_tt];unfold stD;rw[K0g];rfl
       have e4:=zF5 (w4 (j:=[.lst (stD ((nx st o).map (rowAt row)))]) gi) (j9 (h:=H) (o:=.lst (stD ((nx st o).map (rowAt row))))) (by rw[J5,J5,K03];omega);refine j8 (.ref (H++[O.lst (stD ((nx st o).map (rowAt row)))]).length) [some .(7),.(g .(v)),.(r (.(m)+0)),.(r (.(m)+1)),.(i (c:Nat)),.(r ((H++[O.lst (stD ((nx st o).map (rowAt row)))]).length)),.(i (o:Nat))] (e2_h .(a) e3 e4) rfl ?_;refine y6 (Y6 ⟨_,_,j++[.lst (stD ((nx st o).map (rowAt row))),.lst (stD (z1d st row c (o+1)))],rfl,?_,?_⟩)
       ·rw[z2K,if_pos q,zw9,hH];simp
       ·rw[z2K,if_pos q,zw9];exact j9
      ·rw[.(y) q,if_neg .(0)];refine y6 (Y6 ⟨_,_,j,rfl,rfl,?_⟩);rw[z2K,if_neg q];exact gi
     ·rintro _ _ ⟨i,e,j,rfl,rfl,gi⟩;exact⟨i,e,j,rfl,rfl,gi⟩
    rintro _ _ ⟨i,e,j,rfl,rfl,gi⟩;have al:=z54 m c row.length (K05 _);have al2:row.length * 40<=40 * 40:=Nat.mul_le_mul_right _ .(1);have ld:=m.ledl (x:=row.idxOf c);have sa:=zg1 m cm;refine z0S (a:=2) (i:=h.length+0) (xs:=stsD (qst c st row)) rfl (at_E (l:=_::_)) (by unfold stsD qst;simp;omega) (v:=.tup (stD (FT.led st row (row.idxOf c)))) ?_ ?_
    ·rw[<- sa];have e5:=ss_h (γ:=[some .(7),.(g .(v)),.(r (.(m)+0)),.(r (.(m)+1)),.(i (c:Nat)),.(r i),e]) (me:=eVar 5) .(a) gi .(1) (by rw[sa];omega);refine z0m (j:=_) ((j5 e5 (z5d (xs:=stD (setN (z1d st row c row.length))) ?_)).trans rfl) (z4H _);exact at_E (l:=[_,_])
    rw[zK7,K0t];have e6:stsD (qst c st row)++[.tup (stD (FT.led st row (row.idxOf c)))]=stsD (qst (c+1) st row):=by
     unfold stsD qst;rw[K4i];simp
    have e7:mksD (qmk c mk row)++[.tup ((mkAt mk (row.idxOf c)).map .str)]=mksD (qmk (c+1) mk row):=by
     unfold mksD qmk;rw[K4i];simp
    rw[e6];refine z0S (a:=3) (i:=h.length+1) (xs:=mksD (qmk c mk row)) rfl (at_E (l:=_::_::_)) (by unfold mksD qmk;simp;omega) (v:=.tup ((mkAt mk (row.idxOf c)).map .str)) ?_ ?_
    ·refine e2_h .(18) (y:=.int (row.idxOf c:Nat)) (congrFun (za5 (l:=row) (x:=c) rfl rfl cm .(1)) _) ?_;rw[ix_tup (z5R (show row.idxOf c<mk.length by omega))];rfl
    rw[zK7,K0u,K0t,e7];exact Y6 ⟨_,_,_,j,rfl,rfl⟩
   ·rintro _ _ ⟨a,b,e,j,rfl,rfl⟩;exact⟨a,b,e,j,rfl,rfl⟩
  rintro _ _ ⟨a,b,e,j,rfl,rfl⟩;exact Y5 (maD (qst n st row) (qmk n mk row)) (z2Y (j5 .(a) (z5d (at_E (l:=_::_)))) (j5 .(a) (z5d (at_E (l:=_::_::_))))) ⟨rfl,_,rfl⟩
 exact z0m e (zf6 _ _)
theorem zV1{ma:G->M D}{r:Res D}(e1:ma γ h=.ok (.bl true) h1)(e2':mb γ h1=r):eAnd ma mb γ h=r:=by
 unfold eAnd;rw[M.bind_ok e1];exact e2'
theorem zq4{b c:Bool}:z1J [.bl b,.bl c]=pure (.bl (b==c)):=by
 unfold z1J;rw[z2v (d:=.bl (b==c)),z1H];show z1K [some (.bl b),some (.bl c)]=_;unfold z1K;refine z6B _ ?_;simp only[K1h,K00,K6,z0O,Y9,e2,eAnd,eIsi,eVar,zU7,zV5];cases b<;>cases c<;>rfl
section
variable{bl:Bl}
theorem zh3(pb:PB n bl):setN (hmB n bl)=z0R (bl.map (·.1)):=by
 refine z2H (z0X _) (z21 pb.nd) λx=>?_;rw[z0t,sortN_mem];unfold hmB;rw[K08];constructor
 ·rintro⟨y,hy,rfl⟩;exact pb.keyin (K0q.mp hy)
 ·intro h;exact⟨x,K0q.mpr (pb.klt h),pb.keyself h⟩
theorem zy6(pb:PB n bl):numL (hmB n bl)=rowB n bl:=by
 unfold numL;rw[zh3 pb];unfold hmB rowB;rw[K0g];rfl
theorem zu2(sq:SQ st)(pb:PB st.length bl)(co:∀x y,x<st.length->y<st.length->(keyOf bl x=keyOf bl y↔Sim st mk x y)):y8 st mk st.length=hmB st.length bl:=by
 obtain⟨H,hH⟩:∃H,H=y8 st mk st.length:=⟨_,rfl⟩;have c:CanH .(c) H:=by rw[hH];exact z23 _
 have sim:∀{x y:Nat},x<.(c)->y<.(c)->(rowAt H x=rowAt H y↔Sim st mk x y):=λhx hy=>by rw[hH];exact z3L sq hx hy
 rw[<- hH];refine K1v λx=>?_;by_cases hx:x<.(c)
 ·rw[z5q hx,z0q (by rw[c.len];exact hx)];have a1:=c.le x hx;have a2:=pb.keyle hx;have s1:=(co (rowAt H x) x .(1) hx).mpr ((sim .(1) hx).mp (c.fix x hx));have b1:=pb.keyle (show rowAt H x<.(c) by omega);have s2:=(sim (show keyOf bl x<.(c) by omega) hx).mpr ((co _ x .(1) hx).mp (pb.keyself (pb.keyin hx)));have b2:=c.le _ (show keyOf bl x<.(c) by omega);rw[show rowAt H x=keyOf bl x by omega]
 ·rw[K0h (by rw[c.len];omega),K0h (by rw[z1u];omega)]
theorem zk9(hx:x∈l)(hy:y∈l):l.idxOf x=l.idxOf y↔x=y:=
 ⟨λe=>by rw[<- z1W hx,e,z1W hy],λe=>by rw[e]⟩
theorem z40(hx:x<n):rowAt (rowB n bl) x=(z0R (bl.map (·.1))).idxOf (keyOf bl x):=z1G (by unfold rowB;rw[K04,K16 hx];rfl)
theorem ze8(pb:PB n bl):Canon (rowB n bl):=λi v e u hu=>by
 have hi:i<n:=by have:=(K5.mp e).1;rwa [z1D]at this
 obtain⟨K,hK⟩:∃K,K=z0R (bl.map (·.1)):=⟨_,rfl⟩;have rise:K.Pairwise (·<·):=by rw[hK];exact z21 pb.nd
 have ev:v=K.idxOf (keyOf bl i):=by rw[<- z1G e,z40 hi,hK]
 have mk:∀x,x∈K↔x∈bl.map (·.1):=λx=>by rw[hK,sortN_mem]
 have ki:keyOf bl i∈K:=(mk _).mpr (pb.keyin hi);have vl:v<K.length:=by rw[ev];exact K0w.mpr ki
 have ul:u<K.length:=by omega
 have um:rowAt K u∈bl.map (·.1):=(mk _).mp (z2r ul);have lt:rowAt K u<keyOf bl i:=by
  have:=K53.mp rise u v ul vl hu;have e1:K[u]=rowAt K u:=(z1G (K2 ul)).symm;have e2:K[v]=keyOf bl i:=by
   rw[<- z1W ki,<- ev];exact(z1G (K2 vl)).symm
  rw[e1,e2]at this;exact this
 have kle:=pb.keyle hi;have ku:=pb.keyself um;have kl:=pb.klt um;refine K06 (i:=rowAt K u) ?_;rw[K32,if_pos .(1),z0q (by rw[z1D];exact kl),z40 kl,ku,<- hK];rw[zQ1 (z58 rise) ul]
theorem Z04(ma:MA st mk)(pb:PB st.length bl)(dn:Done st mk bl):MR st mk (rowB st.length bl):=by
 have sb:=z8e ma pb dn;have sq:=z3S ma;refine⟨sq,ma.s1,ma.l3,z1D,ze8 pb,λi hi=>?_⟩;rw[z1D]at hi;obtain⟨j,hj⟩:∃j,j=(rowB .(c) bl).idxOf (rowAt .(12) i):=⟨_,rfl⟩;rw[<- hj];have im:rowAt .(12) i∈rowB .(c) bl:=z2r (by rw[z1D];exact hi);have jl:j<st.length:=by have:=K0w.mpr im;rw[z1D]at this;omega
 have re:rowAt .(12) j=rowAt .(12) i:=by rw[hj];exact z1W im
 have ke:keyOf bl i=keyOf bl j:=by
  rw[z40 jl,z40 hi]at re;exact((zk9 (by rw[sortN_mem];exact pb.keyin jl) (by rw[sortN_mem];exact pb.keyin hi)).mp re).symm
 have e1:i<.(c)/\j<.(c)/\keyOf bl i=keyOf bl j:=⟨hi,jl,ke⟩;have sub:∀{x y:Nat},(x<.(c)/\y<.(c)/\keyOf bl x=keyOf bl y)->∀u,u∈(nx st x).map (rowAt .(12))->u∈(nx st y).map (rowAt .(12)):=λ{x y} e u hu=>by
  obtain⟨o,ho,rfl⟩:=K08.mp hu;obtain⟨t,ht,q1,q2,q3⟩:=sb.steps x y e o ho;refine K08.mpr ⟨t,ht,?_⟩;rw[z40 q2,z40 q1,q3]
 refine⟨sb.marks i j e1,z2H (z0X _) (z0X _) λu=>?_⟩;show u∈setN _↔u∈setN _;rw[z0t,z0t];exact⟨sub e1 u,sub ⟨e1.2.1,e1.1,e1.2.2.symm⟩ u⟩
theorem zs6(ma:MA st mk)(pb:PB st.length bl)(m:MR st mk (rowB st.length bl))(cu:Cuts st mk [(0,K7 st.length)] cs bl):z0o [maD st mk,.tup [.tup (stD (rowB st.length bl)),.tup (Y2 cs)]] h=.ok (.bl true) h:=by
 have l2:=ma.l2;have bln:=pb.len;obtain⟨R,hR⟩:∃R,R=D.tup (stD .(12)):=⟨_,rfl⟩;obtain⟨C,hC⟩:∃C,C=D.tup (Y2 cs):=⟨_,rfl⟩;rw[<- hR,<- hC];refine zz3 rfl (z1V ?_);show W (z02 [some .(7),.(g [R,C]),none]) h _;unfold z02;refine Y0 false (z5k (cn_h (b:=true) (cv_h (fn_h (ds:=[.tup [R,C],.int 2,.int 2]) (ac_h .(a) (ac_h (d:=.int 2) rfl (ac_h (d:=.int 2) rfl rfl))) rfl (congrFun (z2j (m:=2) (n:=2) .(f) .(f)) _)))) (cn_h (b:=true) (cv_h (fn_h (ds:=[maD st mk,R]) (ac_h .(a) (ac_h (e2_h .(a) (y:=.int 0) rfl rfl) rfl)) rfl (by rw[hR];exact zd0 m))))) ?_;rw[if_neg .(0)];refine y6 (j8 (.ref .(m)) [some .(7),.(g [R,C]),.(r .(m))] (fn_h (ds:=[maD st mk,C]) (ac_h .(a) (ac_h (e2_h .(a) (y:=.int 1) rfl rfl) rfl)) rfl (by rw[hC];exact zO2 ma cu)) rfl ?_);have nm:=z5H (h:=h++[.lst (stD (hmB .(c) bl))]) (i:=.(m)) (l:=hmB .(c) bl) j9 (by rw[z1u];omega) (by rw[zh3 pb,z0D,K03];omega);rw[zy6 pb]at nm;refine Y5 (.bl true) (h1:=h++[.lst (stD (hmB .(c) bl))]) (zV1 (e2_h (x:=.ref .(m)) .(a) (y:=.non) rfl rfl) (e2_h (fn_h (ds:=[.ref .(m)]) (ac_h .(a) rfl) rfl nm) (e2_h .(a) (y:=.int 0) rfl rfl) ?_)) ⟨rfl,_,rfl⟩;rw[hR,zv3,.(s) rfl];rfl
end
theorem z9g(ma:MA st mk)(hx:x<st.length)(hy:y<st.length)(s:Sim st mk x y):z3E [maD st mk,.int (x:Nat),.int (y:Nat)] h=.err ⟨"AreAlike",[]⟩ h:=by
 have al:=z7D (h:=h) ma hx hy;rw[@decide_eq_true _ (K47 _) s]at al;refine zE4 ?_;show z1U [some .(7),.(i (x:Nat)),.(i (y:Nat))] h=_;unfold z1U;exact zr9 (Z08 (cv_h (fn_h (ds:=[maD st mk,.int (x:Nat),.int (y:Nat)]) (ac_h .(a) .(G)) rfl al)))
theorem z9r(ma:MA st mk)(hx:x<st.length)(hy:y<st.length)(s:¬ Sim st mk x y):∃R:List Sy,z3E [maD st mk,.int (x:Nat),.int (y:Nat)] h=.ok (.tup (ryD R)) h/\1<=R.length/\R.length<=160/\(∀(i:Nat) (r:Sy),R[i]?=some r->r.ok i)/\∀z,z<st.length->(tv (trus st mk R) (R.length - 1) z=true↔Sim st mk z x):=by
 have al:=z7D (h:=h) ma hx hy;rw[@decide_eq_false _ (K47 _) s]at al;obtain⟨R,e,q⟩:=z8g (h:=h) ma hx;refine⟨R,z3P ?_,q⟩;show W (z1U [some .(7),.(i (x:Nat)),.(i (y:Nat))]) h _;unfold z1U;refine Y0 false (Z08 (cv_h (fn_h (ds:=[maD st mk,.int (x:Nat),.int (y:Nat)]) (ac_h .(a) .(G)) rfl al))) ?_;rw[if_neg .(0)];exact y6 (Z0u (Y5 _ (fn_h (ds:=[maD st mk,.int (x:Nat)]) .(G) rfl e) ⟨rfl,rfl⟩))
theorem zo6{N v:Nat}(inv:∀u,u∈row↔u<N)(h:v<=N):∀u,u∈row++[v]↔u<max N (v+1):=λu=>by
 rw[K1c,inv,K31];omega
theorem zU0(m:MR st mk row)(hn:1<=n)(hn2:n<=40)(inv:∀u,u∈row↔u<n):z06 [maD (qst n st row) (qmk n mk row),maD (qst n st row) (qmk n mk row)]=pure (.bl true):=by
 have l:(qst n st row).length=n:=by unfold qst;simp
 refine zU1 (by rw[l];exact hn) (by rw[l];exact hn2) (by rw[l];unfold qmk;simp) (λq hq=>?_) (λq hq x hx=>?_)
 ·unfold qst at hq;obtain⟨u,_,rfl⟩:=K08.mp hq;exact z0X _
 ·rw[l];unfold qst at hq;obtain⟨u,_,rfl⟩:=K08.mp hq;exact zZ5 (λo ho=>by rw[m.s.len];exact z3o m.q ho) inv x hx
theorem zi9(c:Canon row):∃N,∀u,u∈row↔u<N:=by
 have:∀i,i<=row.length->∃N,∀u,u∈row.take i↔u<N:=by
  intro i;induction i with
  | zero=>exact λ_=>⟨0,by simp⟩
  | succ i ih=>
   intro h;obtain⟨N,inv⟩:=ih .(1);have e:=z0q (l:=row) (i:=i) .(1);have vN:=zc6 c e inv;refine⟨max N (rowAt row i+1),λu=>?_⟩;rw[K2m,e];exact zo6 inv vN u
 obtain⟨N,h⟩:=this row.length (K05 _);rw[K1g]at h;exact⟨N,h⟩
theorem zU3{k l:G->M Bool}{b c:Bool}(e:k γ h=.ok b h)(f:l γ h=.ok c h):cOr k l γ h=.ok (b||c) h:=by
 unfold cOr;rw[M.bind_ok e];cases b
 ·exact f
 ·rfl
theorem zS5{k l:G->M Bool}{b c:Bool}(e:k γ h=.ok b h)(f:l γ h=.ok c h):cAnd k l γ h=.ok (b&&c) h:=by
 unfold cAnd;rw[M.bind_ok e];cases b
 ·rfl
 ·exact f
theorem zi6{d:D}(e:me γ h=.ok d h):eTup (z8 me aNil) γ h=.ok (.tup [d]) h:=by
 unfold eTup;rw[M.bind_ok (ac_h e rfl)];rfl
theorem zM2{ma:G->M D}(e:ma γ h=.ok v h)(eb:mo γ h=.ok (.ref i) h)(ec:mi γ h=.ok (.int (y:Nat)) h)(ei:h[i]?=.(l xs))(hy:y<xs.length)(z:W (mt γ) (h.set i (.lst (xs.set y v))) Q):W (Z0 (sAsg ma (gIx mo mi)) mt γ) h Q:=by
 rw[w_cons];unfold sAsg gIx;rw[j0];refine W_of e ?_;rw[j0,j0];refine W_of eb ?_;rw[j0];refine W_of ec ?_;rw[j0];have f1:fSet (.ref i) (.int (y:Nat)) v h=.ok () (h.set i (.lst (xs.set y v))):=by
  unfold fSet;dsimp only;rw[ei];dsimp only;have:ixN .(21) (y:Int)=some y:=by
   unfold ixN;simp[hy]
  rw[this]
 refine W_of f1 ?_;rw[W_pure,W_pure];exact z
theorem zc3(g1:γ[1]?=some (.(i (n:Nat))))(hn:n<=40):Y7 [none] (z0k .(j)) (gN 0) .(o) (eTup aNil) γ h=.ok .(R) (h++[.lst (K0c n (.tup []))]):=by
 refine(z0d (src:=.con (z1g n)) (l:=K7 n) (λ_=>true) (λ_=>.tup []) (z2x (z9 g1) .(1)) (zi5 _) .(W) (by simp;omega) λx hx=>⟨[.(i x)],λ_=>rfl,λ_=>rfl,λ_ _=>rfl⟩).trans ?_;rw[filter_tt,show (K7 n).map (λ_=>D.tup [])=K0c n (D.tup []) by simp[Z23]]
structure CH(n:Nat)(name:Str)(st:List .(19))(mk:List (List Str)):Prop where
 sl:.(c)=n
 ml:mk.length=n
 s:∀l∈st,l=[]\/∃x,x<n/\l=[x]
 m:∀l∈mk,l=[]\/l=[name]
theorem CH.ma(c:CH n name st mk)(h1:1<=n)(h2:n<=40)(g:z4m name):MA st mk:=by
 refine⟨by rw[c.sl];exact h1,by rw[c.sl];exact h2,by rw[c.ml,c.sl],λl hl=>?_,λl hl x hx=>?_,λl hl=>?_⟩
 ·rcases c.s l hl with rfl|⟨x,_,rfl⟩<;>simp
 ·rw[c.sl];rcases c.s l hl with rfl|⟨y,hy,rfl⟩
  ·cases hx
  ·rw[K31]at hx;exact hx ▸ hy
 ·rcases c.m l hl with rfl|rfl
  ·exact⟨by simp,by simp,by simp⟩
  ·exact⟨by simp,λx hx=>by rw[K31]at hx;exact hx ▸ g,by simp⟩
theorem zu5{k:Int}(p:PS h k r)(cl:CL r)(hk:k<300000)(n1:1<=n)(n40:n<=40)(g:z4m name){Q:D->AH->Prop}(fin:∀st mk h',MA st mk->st.length=n->PS h' (k+20) r->Q .(7) h'):W (z2f [.ref 2,.int (n:Nat),.str name]) h Q:=by
 refine zG0 p cl ?_;refine z1V ?_;show W (z1f [.(r 2),.(i (n:Nat)),.(s name),none,none,none,none,none,none,none,none,none]) h _;unfold z1f z1L;refine z2t (λd h1=>∃b,d=.bl b/\PS h1 (k+1) r) ?_ ?_
 ·simp only[K6,K0d,K0l,K12,z3u,j0,z39,W_pure,z8,aNil,e2,eFn,eVar,if_true];refine z1M p .(1) .(0) .(0) λu h2 u0 u1 p2=>?_;rw[zd1,W_pure];exact⟨_,rfl,p2⟩
 rintro _ h1 ⟨ring,rfl,p1⟩;refine z2t (λd h1=>∃b,d=.bl b/\PS h1 (k+2) r) ?_ ?_
 ·simp only[K6,K0d,K0l,K0u,K0t,K12,z3u,j0,z39,W_pure,z8,aNil,e2,eFn,eVar,if_true];refine z1M p1 .(1) .(0) .(0) λu h2 u0 u1 p2=>?_;rw[zd1,W_pure];exact⟨_,rfl,p2.up .(1)⟩
 rintro _ h2 ⟨loop,rfl,p2⟩;refine z2t (λd h1=>∃z:Nat,1<=z/\z<=n/\d=.int (z:Nat)/\PS h1 (k+3) r) ?_ ?_
 ·simp only[K00,K6,K0d,K0l,K0u,K0t,K12,z3u,j0,z39,W_pure,z8,aNil,e2,eFn,eVar,if_true];refine z1M p2 .(1) .(1) .(1) λu h2 u0 u1 p2=>?_;obtain⟨u,rfl⟩:=K26 u0;rw[z1l,W_pure,show (1:Int)+(u:Int)=((u+1:Nat):Int) by omega];exact⟨u+1,by omega,by omega,rfl,p2.up .(1)⟩
 rintro _ h3 ⟨sh,s1,s2,rfl,p3⟩;refine z2t (λd h1=>∃z:Nat,z<n/\d=.int (z:Nat)/\PS h1 (k+5) r) ?_ ?_
 ·simp only[K00,K6,K0d,K0l,K0u,K0t,K12,z3u,j0,z39,W_pure,z8,aNil,e2,eFn,eVar,if_true];refine z1M p3 .(1) .(0) .(0) λu h2 u0 u1 p2=>?_;refine z1M p2 .(1) .(1) .(1) λv h2 v0 v1 p3=>?_;obtain⟨u,rfl⟩:=K26 u0;obtain⟨v,rfl⟩:=K26 v0;rw[zZ8 (a:=u) (b:=v) .(1),W_pure];refine⟨u * v,?_,rfl,p3.up .(1)⟩;obtain rfl|rfl:u=0\/u=1:=by omega
  ·omega
  ·omega
 rintro _ h4 ⟨tu,t1,rfl,p4⟩;refine z2t (λd h1=>∃w:Int,d=.int w/\PS h1 (k+7) r) ?_ ?_
 ·refine Z0l p4 cl ?_;simp only[K00,K6,K0d,K0l,K0u,K0t,K12,z3u,j0,z39,W_pure,z8,aNil,e2,eFn,eLst,eVar,if_true,zc5];refine z1M p4 .(1) .(1) .(1) λu h2 u0 u1 p2=>?_;refine z8K p2 .(f) λh3 p3=>?_;refine z1M p3 .(1) .(0) .(0) λv h4 v0 v1 p4=>?_;obtain⟨w,ew⟩:∃w:Int,atI [D.int (n:Nat),D.int (0 - 1),D.int u] v=.(i w):=by
   have:v=0\/v=1\/v=2:=by omega
   rcases this with rfl|rfl|rfl
   ·exact⟨_,rfl⟩
   ·exact⟨_,rfl⟩
   ·exact⟨_,rfl⟩
  refine zN0 p4 z9J ew ?_;exact⟨_,_,p4,rfl,λh5 p5=>⟨w,rfl,p5.up .(1)⟩⟩
 rintro _ H ⟨w,rfl,p5⟩;refine j8 (.ref H.length) [.(r 2),.(i (n:Nat)),.(s name),some (.bl ring),some (.bl loop),.(i (sh:Nat)),.(i (tu:Nat)),.(i w),.(r H.length),none,none,none] (zc3 rfl n40) rfl ?_;refine j8 (.ref (H.length+1)) [.(r 2),.(i (n:Nat)),.(s name),some (.bl ring),some (.bl loop),.(i (sh:Nat)),.(i (tu:Nat)),.(i w),.(r H.length),.(r (H.length+1)),none,none] (h1:=H++(.lst (stsD (K0c n []))::.lst (mksD (K0c n []))::[])) ((zc3 rfl n40).trans (by
  rw[K02,K2x,K0e];unfold stsD mksD;rw[K5f,K5f];rfl)) rfl ?_
 refine z2s .(n) ?_ ?_
 ·refine z15 (λc γ h1=>∃st mk v10 v11,γ=[.(r 2),.(i (n:Nat)),.(s name),some (.bl ring),some (.bl loop),.(i (sh:Nat)),.(i (tu:Nat)),.(i w),.(r H.length),.(r (H.length+1)),v10,v11]/\h1=H++(.lst (stsD st)::.lst (mksD mk)::[])/\CH n name st mk) (λ_ _=>False) ?_;refine W_of (z2x (n:=n) .(a) .(1)) ⟨⟨K0c n [],K0c n [],_,_,rfl,rfl,by simp,by simp,λl hl=>.inl (K7w hl),λl hl=>.inl (K7w hl)⟩,λ_ _ _ _=>trivial,?_,?_,λ_ _ f=>f.elim⟩
  ·rintro c d γ h1 hd ⟨st,mk,v10,v11,rfl,rfl,ch⟩;obtain⟨rfl,hc⟩:=z6G (show (z1g n)[c]?=some d from hd);have sl:=ch.sl;have ml:=ch.ml;have om:(c+tu) % n<n:=K9p _ .(1);refine W.of (a:=[.(r 2),.(i (n:Nat)),.(s name),some (.bl ring),some (.bl loop),.(i (sh:Nat)),.(i (tu:Nat)),.(i w),.(r H.length),.(r (H.length+1)),.(i (c:Nat)),v11]) rfl ?_;obtain⟨γ',eγ⟩:∃γ':G,γ'=[.(r 2),.(i (n:Nat)),.(s name),some (.bl ring),some (.bl loop),.(i (sh:Nat)),.(i (tu:Nat)),.(i w),.(r H.length),.(r (H.length+1)),.(i (c:Nat)),.(i (((c+tu) % n:Nat)))]:=⟨_,rfl⟩;refine j8 (.int ((c+tu) % n:Nat)) γ' (e2_h (e2_h .(a) .(a) (by rw[z1l];rfl)) .(a) (by
    rw[show fMod (.int (((c:Nat):Int)+((tu:Nat):Int))) (.int (n:Nat))=fMod (.int ((c+tu:Nat):Int)) (.int (n:Nat)) by rw[show (((c:Nat):Int)+((tu:Nat):Int))=((c+tu:Nat):Int) by omega],z9Q .(1)];rfl)) (by rw[eγ];rfl) ?_
   have v3:γ'[3]?=some (some (.bl ring)):=by rw[eγ];rfl
   have v4:γ'[4]?=some (some (.bl loop)):=by rw[eγ];rfl
   have v1:γ'[1]?=some (.(i (n:Nat))):=by rw[eγ];rfl
   have v2:γ'[2]?=some (.(s name)):=by rw[eγ];rfl
   have v5:γ'[5]?=some (.(i (sh:Nat))):=by rw[eγ];rfl
   have v6:γ'[6]?=some (.(i (tu:Nat))):=by rw[eγ];rfl
   have v7:γ'[7]?=some (.(i w)):=by rw[eγ];rfl
   have v8:γ'[8]?=some (.(r H.length)):=by rw[eγ];rfl
   have v9:γ'[9]?=some (.(r (H.length+1))):=by rw[eγ];rfl
   have v10:γ'[10]?=some (.(i (c:Nat))):=by rw[eγ];rfl
   have v11':γ'[11]?=some (.(i (((c+tu) % n:Nat)))):=by rw[eγ];rfl
   have done:∀{st mk},CH n name st mk->forW .(n) (λ_ _=>False) (.nx γ') (H++(.lst (stsD st)::.lst (mksD mk)::[])):=λ{st mk} ch=>⟨st,mk,_,_,eγ,rfl,ch⟩;have rows:∀mk',CH n name st mk'->W (Z0 .(H) bNil γ') (H++(.lst (stsD st)::.lst (mksD mk')::[])) (forW .(n) (λ_ _=>False)):=by
    intro mk' ch';have put:∀x,x<n->CH n name (st.set ((c+tu) % n) [x]) mk':=λx hx=>⟨by rw[K2a];exact sl,ch'.ml,λl hl=>by
     rcases K75 hl with a|a
     ·exact ch'.s l a
     ·exact .inr ⟨x,hx,a⟩,ch'.m⟩
    have md:∀{a:Nat},fMod (.int (a:Nat)) (.int (sh:Nat))=pure (.int (a % sh:Nat)):=λ{a}=>z9Q .(1);have c1:=zU3 (γ:=γ') (h:=H++(.lst (stsD st)::.lst (mksD mk')::[])) (zS5 (k:=λγ=>do let d <- e2 fLt (e2 fAdd (eVar 10) .(6)) .(j) γ;asB d) (l:=λγ=>do let d <- e2 fGt (e2 fMod (e2 fAdd (eVar 10) .(6)) (eVar 5)) .(3) γ;asB d) (cb_h (e2_h (e2_h (z9 v10) (y:=.int (1:Nat)) rfl (by rw[z1l];rfl)) (z9 v1) (by rw[zr2];rfl))) (cb_h (e2_h (e2_h (e2_h (z9 v10) (y:=.int (1:Nat)) rfl (by rw[z1l,show (((c:Nat):Int)+((1:Nat):Int))=((c+1:Nat):Int) by omega];rfl)) (z9 v5) (by rw[md];rfl)) (y:=.int (0:Nat)) rfl (by rw[zk7];rfl)))) (cv_h (b:=ring) (z9 v3));refine Y0 _ c1 ?_;split
    ·refine z0v (zM2 (i:=H.length) (y:=(c+tu) % n) (v:=.tup (stD [(c+1+tu) % n])) ?_ (z9 v8) (z9 v11') am0 (by rw[z16];omega) ?_)
     ·have:e2 fMod (e2 fAdd (e2 fAdd (eVar 10) .(6)) (eVar 6)) .(j) γ' (H++(.lst (stsD st)::.lst (mksD mk')::[]))=.ok (.int ((c+1+tu) % n:Nat)) (H++(.lst (stsD st)::.lst (mksD mk')::[])):=e2_h (e2_h (e2_h (z9 v10) (y:=.int (1:Nat)) rfl (by rw[z1l];rfl)) (z9 v6) (by rw[z1l,show ((((c:Nat):Int)+((1:Nat):Int))+((tu:Nat):Int))=((c+1+tu:Nat):Int) by omega];rfl)) (z9 v1) (by rw[z9Q .(1)];rfl);exact zi6 this
     ·rw[sm0,show (stsD st).set ((c+tu) % n) (.tup (stD [(c+1+tu) % n]))=stsD (st.set ((c+tu) % n) [(c+1+tu) % n]) by unfold stsD;rw[K8e]];exact y6 (Y6 (done (put _ (K9p _ .(1)))))
    ·refine z0v (Y0 loop (cv_h (z9 v4)) ?_);split
     ·refine z0v (zM2 (i:=H.length) (y:=(c+tu) % n) (v:=.tup (stD [(c+tu) % n])) (zi6 (z9 v11')) (z9 v8) (z9 v11') am0 (by rw[z16];omega) ?_);rw[sm0,show (stsD st).set ((c+tu) % n) (.tup (stD [(c+tu) % n]))=stsD (st.set ((c+tu) % n) [(c+tu) % n]) by unfold stsD;rw[K8e]];exact y6 (y6 (Y6 (done (put _ om))))
     ·exact y6 (y6 (Y6 (done ch')))
   refine Y0 _ (zU3 (cb_h (e2_h (z9 v7) (z9 v1) (by rw[z8j];rfl))) (cb_h (e2_h (z9 v7) (z9 v10) (by rw[z8j];rfl)))) ?_;split
   ·refine z0v (zM2 (i:=H.length+1) (y:=(c+tu) % n) (v:=.tup (([name]:List Str).map .str)) (zi6 (z9 v2)) (z9 v9) (z9 v11') am1 (by unfold mksD;rw[K03];omega) ?_);rw[sm1,show (mksD mk).set ((c+tu) % n) (.tup (([name]:List Str).map .str))=mksD (mk.set ((c+tu) % n) [name]) by unfold mksD;rw[K8e]];exact y6 (rows _ ⟨sl,by rw[K2a];exact ml,ch.s,λl hl=>by
     rcases K75 hl with a|a
     ·exact ch.m l a
     ·exact .inr a⟩)
   ·exact y6 (rows _ ch)
  ·rintro γ h1 ⟨st,mk,v10,v11,rfl,rfl,ch⟩;exact⟨st,mk,v10,v11,rfl,rfl,ch⟩
 rintro γ h1 ⟨st,mk,v10,v11,rfl,rfl,ch⟩;have ma:=ch.ma n1 n40 g;refine Y5 .(7) (z2Y (j5 .(a) (z5d am0)) (j5 .(a) (z5d am1))) ⟨k+20,[.lst (stsD st),.lst (mksD mk)],(p5.app _).up .(1),zf6 _ _,λh2 p2=>fin st mk h2 ma ch.sl p2⟩
theorem zP1{ok:Str->Bool}{h2:AH}{d:D}(e1:mr γ h=.ok xs h1)(hn:xs.length=n)(e2:mf xs h1=.ok d h2)(z:W (mt (γ.set i (some d))) h2 Q):W (Z0 (z7Y n i mf mr ok ms) mt γ) h Q:=by
 rw[w_cons];refine W_of (v:=Out.nx (γ.set i (some d))) (h1:=h2) ?_ (by rw[z0u];exact z);unfold z7Y;rw[e1];dsimp only;rw[if_pos hn,e2]
theorem zR6{ok:Str->Bool}{γ':G}{h2 h3:AH}{x:Exn}(e1:mr γ h=.ok xs h1)(hn:xs.length=n)(e2:mf xs h1=.err x h2)(hx:ok x.cls=true)(e3:ms γ h2=.ok (.nx γ') h3)(z:W (mt γ') h3 Q):W (Z0 (z7Y n i mf mr ok ms) mt γ) h Q:=by
 rw[w_cons];refine W_of (v:=Out.nx γ') (h1:=h3) ?_ (by rw[z0u];exact z);unfold z7Y;rw[e1];dsimp only;rw[if_pos hn,e2];dsimp only;rw[if_pos hx,e3]
theorem zi8{ma:G->M D}{r:Res D}(e1:ma γ h=.ok (.bl true) h1)(e2':mb γ h1=r):eAnd ma mb γ h=r:=by
 unfold eAnd;rw[M.bind_ok e1];exact e2'
theorem zf7{hm:List Nat}(ma:MA st mk)(hx:x<st.length)(hy:y<st.length)(e:h[i]?=.(l (stD hm)))(ea:hm[x]?=some a)(eb:hm[y]?=some b)(sim:a=b↔Sim st mk x y):z27 [maD st mk,.int (x:Nat),.int (y:Nat),.ref i] h=.ok (.bl true) h:=by
 have hom:∀(γ:G) (k:AH),γ[1]?=some (.(i (x:Nat)))->γ[2]?=some (.(i (y:Nat)))->γ[3]?=some (.(r i))->(λγ=>do let d <- e2 (fEqX false) (e2 fIx (eVar 3) .(j)) (e2 fIx (eVar 3) .(w)) γ;asB d:G->M Bool) γ h=.ok (decide (a=b)) h:=λγ k g1 g2 g3=>cb_h (e2_h (e2_h (z9 g3) (z9 g1) (ix_h e (z0p (by unfold stD;rw[K04,ea];rfl)))) (e2_h (z9 g3) (z9 g2) (ix_h e (z0p (by unfold stD;rw[K04,eb];rfl)))) (by
  rw[z8j,K1h];show Res.ok _ _=_;congr 2;rw[K0p,.(15),.(15)];exact Int.ofNat_inj))
 have key:W (runF 6 z0I [maD st mk,.int (x:Nat),.int (y:Nat),.ref i]) h λd h1=>d=.bl true/\∃j,h1=h++j:=by
  refine z1V ?_;show W (z0I [some .(7),.(i (x:Nat)),.(i (y:Nat)),.(r i),none,none]) h _;unfold z0I;refine z9u .non [some .(7),.(i (x:Nat)),.(i (y:Nat)),.(r i),some .non,none] rfl rfl ?_;by_cases s:Sim st mk x y
  ·refine zR6 (xs:=[maD st mk,.int (x:Nat),.int (y:Nat)]) (γ':=[some .(7),.(i (x:Nat)),.(i (y:Nat)),.(r i),some .non,none]) (h3:=h) (ac_h .(a) .(G)) rfl (z9g ma hx hy s) (show h_AreAlike "AreAlike" = true by decide +kernel) rfl ?_;refine Y0 (decide (a=b)) (hom _ h rfl rfl rfl) ?_;rw[.(s) (sim.mpr s),if_pos rfl];exact z0v (Y5 (.bl true) (e2_h .(a) (y:=.non) rfl rfl) ⟨rfl,[],by simp⟩)
  ·obtain⟨R,eR,r1,r2,ok,tr⟩:=z9r (h:=h) ma hx hy s;refine zP1 (xs:=[maD st mk,.int (x:Nat),.int (y:Nat)]) (ac_h .(a) .(G)) rfl eR ?_;refine Y0 (decide (a=b)) (hom _ h rfl rfl rfl) ?_;rw[.(y) λz=>s (sim.mp z),if_neg .(0)];obtain⟨bs,eB,_,hb⟩:=z8t (h:=h) ma r1 r2 ok;refine y6 (j8 (.ref .(m)) [some .(7),.(i (x:Nat)),.(i (y:Nat)),.(r i),.(g (ryD R)),.(r .(m))] (fn_h (ds:=[maD st mk,.tup (ryD R)]) .(G) rfl eB) rfl ?_);have bx:∀{z:Nat},z<.(c)->fIx (.ref .(m)) (.int (z:Nat)) (h++[.lst (bs.map .bl)])=.ok (.bl (tv (trus st mk R) (R.length - 1) z)) (h++[.lst (bs.map .bl)]):=λ{z} hz=>ix_h j9 (z0p (by rw[K04,hb z hz];rfl));have tx:tv (trus st mk R) (R.length - 1) x=true:=(tr x hx).mpr ((z3L (z3S ma) hx hx).mp rfl);have ty:tv (trus st mk R) (R.length - 1) y=false:=Bool.eq_false_iff.mpr λz=>s ((z3L (z3S ma) hx hy).mp ((z3L (z3S ma) hy hx).mpr ((tr y hy).mp z)).symm);refine Y5 (h1:=h++[.lst (bs.map .bl)]) (.bl true) (zi8 (e2_h .(a) (y:=.non) rfl rfl) (zi8 (e2_h .(a) .(a) (by rw[bx hx,tx])) ?_)) ⟨rfl,_,rfl⟩;exact zw7 (ma:=e2 fIx (eVar 5) .(w)) (b:=false) (e2_h (x:=.ref .(m)) (y:=.int (y:Nat)) .(a) .(a) (by rw[bx hy,ty]))
 obtain⟨d,h1,e',rfl,j,rfl⟩:=key;exact z0m e' rfl
theorem Z06(a b:Bool):eqN (n+1) h (.bl a) (.bl b)=some (decide (a=b)):=by
 cases a<;>cases b<;>rfl
theorem zB8{l m:List Bool}(hi:h[i]?=.(l (l.map .bl)))(hj:h[j]?=.(l (m.map .bl))):fEqX neg (.ref i) (.ref j) h=.ok (.bl (decide (l=m) != neg)) h:=z2q (zc0 (enc:=λ(b:Bool)=>.bl b) Z06 hi hj)
theorem math:∀ns:List Int,ns.length<=63->∃h',m_law [.fl (ns.map .int)] []=.ok (.bl true) h':=by
 intro ns hn;have key:W (m_law [.fl (ns.map .int)]) [] λd _=>d=.bl true:=by
  refine z1V ?_;show W (zl6 [some (.fl (ns.map .int)),none,none,none,none,none,none,none,none,none]) [] _;unfold zl6;refine z2t (λd h1=>d=.ref 2/\PS h1 0 []) ?_ ?_
  ·simp only[K6,K0d,K0l,K12,z3u,j0,z39,W_pure,z8,aNil,eFn,eVar,if_true];exact zt1 hn
  rintro _ h1 ⟨rfl,p1⟩;refine z2t (λd h2=>∃name r,d=.str name/\z4m name/\CL r/\PS h2 100 r) ?_ ?_
  ·simp only[K00,K6,K0d,K0l,K0u,K0t,K12,z3u,j0,z39,W_pure,z8,aNil,eFn,eLst,eVar,if_true];refine z8K p1 .(0) λh2 p2=>?_;exact(zp0 (i:=0) (ns:=[]) p2 (CL.nil.put rfl) .(1) zD2 (by rw[zF7];omega) rfl .(0)).mono λd h3 ⟨x,e,p3,g,_⟩=>⟨x,_,e,g,CL.nil.put rfl,p3.up .(1)⟩
  rintro _ h2 ⟨name,r,rfl,g,cl,p2⟩;refine z2t (λd h3=>∃(n:Nat) (r:AH),d=.int (n:Nat)/\2<=n/\n<=40/\CL r/\PS h3 200 r) ?_ ?_
  ·simp only[K00,K6,K0d,K0l,K0u,K0t,K12,z3u,j0,z39,W_pure,z8,aNil,e2,eFn,eLst,eVar,if_true];refine z1M p2 .(1) .(0) .(0) λu h3 u0 u1 p3=>?_;rw[z1l,W_pure];refine z8K p3 .(f) λh4 p4=>?_;refine z1M p4 .(1) .(0) .(0) λv h5 v0 v1 p5=>?_;obtain⟨u,rfl⟩:=K26 u0;obtain⟨n,e,n2,n40⟩:∃n:Nat,atI [D.int 40,D.int (2+(u:Int))] v=.(i (n:Nat))/\2<=n/\n<=40:=by
    have:v=0\/v=1:=by omega
    rcases this with rfl|rfl
    ·exact⟨40,rfl,by omega,by omega⟩
    ·exact⟨2+u,by show some (D.int (2+(u:Int)))=_;congr 2,by omega,by omega⟩
   refine zN0 p5 z9J e ?_;exact⟨n,_,rfl,n2,n40,cl.put rfl,p5.up .(1)⟩
  clear p2 cl;rintro _ h3 ⟨n,r,rfl,n2,n40,cl,p3⟩;refine z2t (λd h4=>∃st mk,d=maD st mk/\MA st mk/\.(c)=n/\PS h4 300 r) ?_ ?_
  ·simp only[K00,K6,K0d,K0l,K0u,K0t,K12,z3u,j0,z39,W_pure,z8,aNil,eFn,eVar,if_true];exact zu5 p3 cl .(1) .(1) n40 g λst mk h' ma l ps=>⟨st,mk,rfl,ma,l,ps.up .(1)⟩
  rintro _ h4 ⟨st,mk,rfl,ma,sl,p4⟩;obtain⟨bl,cs,_,pb,dn,cu,co⟩:=z3C (h:=[]) ma;have m:=Z04 ma pb dn;have hh:=zA2 (h:=h4) ma;rw[zu2 (z3S ma) pb co]at hh;have hml:(hmB .(c) bl).length=st.length:=z1u;obtain⟨F,hF⟩:∃F,F=D.tup [.tup (stD .(12)),.tup (Y2 cs)]:=⟨_,rfl⟩;have ecl:∀h:AH,z1Y [maD st mk] h=.ok F h:=λh=>by
   obtain⟨bl',cs',ec',pb',dn',cu',co'⟩:=z3C (h:=h) ma;obtain⟨rfl,rfl⟩:=zj7 (z2L (by have:=ma.l1;omega)) cu' cu dn' dn;rw[ec',hF]
  have p5:=p4.app [.lst (stD (hmB .(c) bl))];obtain⟨k5,e5⟩:∃k5,k5=h4++[O.lst (stD (hmB .(c) bl))]:=⟨_,rfl⟩;rw[<- e5]at hh p5;have g5:k5[h4.length]?=.(l ((stD (hmB .(c) bl)))):=by rw[e5];exact j9
  refine j8 (.ref h4.length) [some (.fl (ns.map .int)),.(r 2),.(s name),.(i (n:Nat)),some .(7),.(r h4.length),none,none,none,none] (fn_h (ds:=[maD st mk]) (ac_h .(a) rfl) rfl hh) rfl ?_;have nm:=z5H (h:=k5) (i:=h4.length) (l:=hmB .(c) bl) g5 (by rw[hml];omega) (by rw[zh3 pb,z0D,K03];have:=pb.len;omega);rw[zy6 pb]at nm;refine j8 (.tup (stD .(12))) [some (.fl (ns.map .int)),.(r 2),.(s name),.(i (n:Nat)),some .(7),.(r h4.length),.(g ((stD .(12)))),none,none,none] (fn_h (ds:=[.ref h4.length]) (ac_h .(a) rfl) rfl nm) rfl ?_;refine j8 F [some (.fl (ns.map .int)),.(r 2),.(s name),.(i (n:Nat)),some .(7),.(r h4.length),.(g ((stD .(12)))),some F,none,none] (fn_h (ds:=[maD st mk]) (ac_h .(a) rfl) rfl (ecl k5)) rfl ?_;refine Y0 false (z5k (cn_h (b:=true) (cv_h (fn_h (ds:=[maD st mk,F]) .(G) rfl (by rw[hF];exact zs6 ma pb m cu)))) (cb_h (e2_h (e2_h .(a) (y:=.int 0) rfl (by rw[hF];rfl)) .(a) (by rw[zv3,.(s) rfl];rfl)))) ?_;rw[if_neg .(0)];obtain⟨N,inv⟩:=zi9 m.s.can;have rl:(rowB .(c) bl).length=st.length:=m.s.len;have N1:1<=N:=by
   have:.(12)[0]?≠none:=by rw[ne_eq,List.getElem?_eq_none_iff];have:=ma.l1;omega
   obtain⟨v,ev⟩:=Option.ne_none_iff_exists'.mp this;have:=(inv v).mp (K06 ev);omega
  have N40:N<=40:=by
   have h2:=(K4z (n:=N)).length_le_of_subset (l₂:=rowB st.length bl) (λx hx=>(inv x).mpr (by simpa using hx));rw[K1u]at h2;omega
  refine y6 (Y0 false (cn_h (b:=true) (cv_h (fn_h (ds:=[maD (qst N st .(12)) (qmk N mk .(12)),maD (qst N st .(12)) (qmk N mk .(12))]) (ac_h (fn_h (ds:=[maD st mk,.tup (stD .(12))]) .(G) rfl (by rw[z9B m N1 inv];rfl)) (ac_h (fn_h (ds:=[maD st mk,.tup (stD .(12))]) .(G) rfl (zm7 m N1 inv)) rfl)) rfl (by rw[zU0 m N1 N40 inv];rfl)))) ?_);rw[if_neg .(0)];refine y6 (z2t (λd h6=>∃x:Nat,x<.(c)/\d=.int (x:Nat)/\h6[h4.length]?=.(l ((stD (hmB .(c) bl))))/\PS h6 310 (r++[.lst (stD (hmB .(c) bl))])) ?_ ?_)
  ·simp only[K00,K6,K0d,K0l,K12,z3u,j0,z39,W_pure,z8,aNil,eFn,eVar,if_true];refine z1M p5 .(1) .(1) .(1) λu h3 u0 u1 p3=>?_;obtain⟨u,rfl⟩:=K26 u0;exact⟨u,by omega,rfl,by rw[p4.len,p3.get];exact j9,p3.up .(1)⟩
  rintro _ h6 ⟨x,hx,rfl,_,p6⟩;refine z2t (λd h6=>∃x:Nat,x<.(c)/\d=.int (x:Nat)/\h6[h4.length]?=.(l ((stD (hmB .(c) bl))))) ?_ ?_
  ·simp only[K00,K6,K0d,K0l,K0u,K0t,K12,z3u,j0,z39,W_pure,z8,aNil,eFn,eVar,if_true];refine z1M p6 .(1) .(1) .(1) λu h3 u0 u1 p3=>?_;obtain⟨u,rfl⟩:=K26 u0;exact⟨u,by omega,rfl,by rw[p4.len,p3.get];exact j9⟩
  rintro _ H ⟨y,hy,rfl,gH⟩;have hat:∀{z:Nat},z<st.length->(hmB st.length bl)[z]?=some (keyOf bl z):=λ{z} hz=>by unfold hmB;rw[K04,K16 hz];rfl
  have hix:∀{z:Nat} {J:AH},z<st.length->fIx (.ref h4.length) (.int (z:Nat)) (H++J)=.ok (.int (keyOf bl z:Nat)) (H++J):=λ{z J} hz=>ix_h (w4 gH) (z0p (by unfold stD;rw[K04,hat hz];rfl));have hix0:∀{z:Nat},z<st.length->fIx (.ref h4.length) (.int (z:Nat)) H=.ok (.int (keyOf bl z:Nat)) H:=λ{z} hz=>ix_h gH (z0p (by unfold stD;rw[K04,hat hz];rfl));have sd:@decide (Sim st mk x y) (K47 _)=decide (keyOf bl x=keyOf bl y):=by
   rw[K0p,@decide_eq_true_eq _ (K47 _),.(15)];exact(co x y hx hy).symm
  have eqk:∀{a b:Nat} {h:AH},fEqX false (.int (a:Nat)) (.int (b:Nat)) h=.ok (.bl (decide (a=b))) h:=λ{a b h}=>(z2q (z12 (n:=23) a b)).trans (by rw[K1h]);have al:=z7D (h:=H) ma hx hy;rw[sd]at al;refine Y0 false (cn_h (b:=true) (cv_h (fn_h (ds:=[.bl (decide (keyOf bl x=keyOf bl y)),.bl (decide (keyOf bl x=keyOf bl y))]) (ac_h (fn_h (ds:=[maD st mk,.int (x:Nat),.int (y:Nat)]) (ac_h .(a) .(G)) rfl al) (ac_h (e2_h (e2_h .(a) .(a) (hix0 hx)) (e2_h .(a) .(a) (hix0 hy)) eqk) rfl)) rfl (by rw[zq4,beq_self_eq_true];rfl)))) ?_;rw[if_neg .(0)];obtain⟨R,eR,r1,r2,ok,tr⟩:=z8g (h:=H) ma hx;obtain⟨bs,eB,bl',hb⟩:=z8t (h:=H) ma r1 r2 ok;have bse:bs=(K7 .(c)).map λz=>decide (keyOf bl z=keyOf bl x):=by
   refine K1v λz=>?_;rcases Nat.lt_or_ge z st.length with hz|hz
   ·rw[hb z hz,K04,K16 hz];refine congrArg some ?_;rw[K0p,tr z hz,.(15)];exact(co z x hz hx).symm
   ·rw[K0h .(1),K0h (by simp;omega)]
  obtain⟨γ,eγ⟩:∃γ:G,γ=[some (.fl (ns.map .int)),.(r 2),.(s name),.(i (n:Nat)),some .(7),.(r h4.length),.(g ((stD .(12)))),some F,.(i (x:Nat)),.(i (y:Nat))]:=⟨_,rfl⟩;have cmp:=z0d (cap:=[some 5,some 8,none]) (mi:=z0e (eVar 5)) (g:=gN 2) (kb:=λ_=>pure true) (me:=e2 (fEqX false) .(w) (e2 fIx .(h) .(j))) (γ:=γ) (h:=H++[.lst (bs.map .bl)]) (src:=.lst h4.length (stD (hmB .(c) bl))) (l:=hmB .(c) bl) (λ_=>true) (λk=>.bl (decide (k=keyOf bl x))) (z4b (z9 (by rw[eγ];rfl)) (w4 gH)) rfl (λj=>w4 (w4 gH)) (by rw[hml];omega) λk hk=>⟨[.(r h4.length),.(i (x:Nat)),.(i (k:Nat))],λ_=>by rw[eγ];rfl,λ_=>rfl,λ_ j=>e2_h .(a) (e2_h .(a) .(a) (by rw[K0e];exact hix hx)) eqk⟩;rw[filter_tt,show (hmB st.length bl).map (λk=>D.bl (decide (k=keyOf bl x)))=bs.map .bl by rw[bse];unfold hmB;rw[K0g,K0g];rfl]at cmp;subst eγ;refine y6 (zY3 false (h1:=H++[.lst (bs.map .bl)]++[.lst (bs.map .bl)]) (cb_h (e2_h (fn_h (ds:=[maD st mk,.tup (ryD R)]) (ac_h .(a) (ac_h (fn_h (ds:=[maD st mk,.int (x:Nat)]) .(G) rfl eR) rfl)) rfl eB) cmp (by rw[zB8 (w4 j9) j9,.(s) rfl];rfl))) ?_);rw[if_neg .(0)];refine y6 (Y5 (h1:=H++[.lst (bs.map .bl)]++[.lst (bs.map .bl)]) (.bl true) (fn_h (ds:=[maD st mk,.int (x:Nat),.int (y:Nat),.ref h4.length]) (ac_h .(a) (ac_h .(a) .(G))) rfl (zf7 ma hx hy (w4 (w4 gH)) (hat hx) (hat hy) (co x y hx hy))) rfl)
 obtain⟨d,h',e,rfl⟩:=key;exact⟨h',e⟩
variable(ZS:SS K mg)
include ZS
theorem okL_law{f:Addr}{fd:K4x}(F:Fun K "law" "law" (top 49) f fd):FnOk P w K mg base CX0 9 f fd ["_law_script"] (spB K m_law 1):=
 Z0Q F sc_law rfl λcdv A outer s H E hr=>(show SB (cxOf CX0 P w K mg base ["_law_script","_law_pool_here","_law_name_here","_law_many","_law_machine","_law_homes_here","_law_kinds","_law_found","_law_one","_law_other"] "law" (j4 (top 49)) f cdv A outer s H E).nox EX0 (z0x (top 49)) zl6 from
  have nd:(["_law_script","_law_pool_here","_law_name_here","_law_many","_law_machine","_law_homes_here","_law_kinds","_law_found","_law_one","_law_other"]:List Str).Nodup:=sc_law.nd
  (z7 (j7 1 nd (Z4 (z6C ZS) .(E) rfl (z6 (z0 0) Z1))) (z7 (j7 2 nd (Z4 (z6X ZS) .(E) rfl (z6 (z0 1) (z6 y4 (z6 (z0K Z1) Z1))))) (z7 (j7 3 nd (Z5 (z0K (z6 Z2 (z6 (z0f Z2 (Z4 (y0 ZS) .(E) rfl (z6 (z0 1) (z6 Z2 Z1)))) Z1))) (Z4 (y0 ZS) .(E) rfl (z6 (z0 1) (z6 Z2 Z1))))) (z7 (j7 4 nd (Z4 (z5o ZS) .(E) rfl (z6 (z0 1) (z6 (z0 3) (z6 (z0 2) Z1))))) (z7 (j7 5 nd (Z4 (z6b ZS) .(E) rfl (z6 (z0 4) Z1))) (z7 (j7 6 nd (Z4 (z2p ZS) .(E) rfl (z6 (z0 5) Z1))) (z7 (j7 7 nd (Z4 (z3U ZS) .(E) rfl (z6 (z0 4) Z1))) (z7 (s_if (SW.sc (z3d (z00 (J0 (Z4 (z2w ZS) .(E) rfl (z6 (z0 4) (z6 (z0 7) Z1))))) (z20 (sc_c (z5b (hu30 hr)) (Z5 (z0 7) Z2) (z0 6))))) .(20) Z3) (z7 (s_if (z00 (J0 (Z4 (z2X ZS) .(E) rfl (z6 (Z4 (z7E ZS) .(E) rfl (z6 (z0 4) (z6 (z0 6) Z1))) (z6 (Z4 (z3h ZS) .(E) rfl (z6 (z0 4) (z6 (z0 6) Z1))) Z1))))) .(20) Z3) (z7 (j7 8 nd (Z4 (y0 ZS) .(E) rfl (z6 (z0 1) (z6 (z0 3) Z1)))) (z7 (j7 9 nd (Z4 (y0 ZS) .(E) rfl (z6 (z0 1) (z6 (z0 3) Z1)))) (z7 (s_if (z00 (J0 (Z4 (z6h ZS) .(E) rfl (z6 (Z4 (z8w ZS) .(E) rfl (z6 (z0 4) (z6 (z0 8) (z6 (z0 9) Z1)))) (z6 (se_c (z1k (hu30 hr)) (Z5 (z0 5) (z0 8)) (Z5 (z0 5) (z0 9))) Z1))))) .(20) Z3) (z7 (s_if (sc_c (z5b (hu30 hr)) (Z4 (z19 ZS) .(E) rfl (z6 (z0 4) (z6 (Z4 (z48 ZS) .(E) rfl (z6 (z0 4) (z6 (z0 8) Z1))) Z1))) (w6 (N':=["_law_homes_here","_law_one","_law_home"]) (cap:=[some 5,some 8,none]) rfl .(5) (x8 (z0 5)) (λ_ _ _ _=>(Z7 2 (show (["_law_homes_here","_law_one","_law_home"]:List Str).Nodup by decide +kernel))) .(z) (λ_ _ _ _=>(se_c (z1k (hu30 hr)) (z0 2) (Z5 (z0 0) (z0 1)))))) .(20) Z3) (z7 (j6 (Z4 (z5h ZS) .(E) rfl (z6 (z0 4) (z6 (z0 8) (z6 (z0 9) (z6 (z0 5) Z1)))))) Z3)))))))))))))))
end FT
open PySem PySem.W PyProof.Rows
set_option maxRecDepth 100000 in
theorem PySem.Challenge.cw_fairtrees_k71_forty_standings_holds : PySem.Challenge.rw_fairtrees_k71_forty_standings.Holds := by
 refine FT.pack.2 ?_;unfold FT.pack;dsimp only
 k_fill
 refine FT.law_walk (l:=PySem.Challenge.rw_fairtrees_k71_forty_standings) (lev:=9) (p:="_law_script") (m:=FT.m_law) rfl rfl ⟨rfl,by decide,by decide,rfl⟩ (λw h Y=>PySem.W.kIn_of Y) ?F FT.math
 case F=>
  intro w mg fa h KX G hmg;have F03:FT.DefAt (L2.KOf KX) "law" (FT.top 49):=by
   dsimp only[L2.KOf];refine' FT.defAt_mk ?a ?l ?c ?k;(case a=>k_is);(case l=>k_is);(case c=>k_is);(case k=>k_is)
  obtain⟨F01,F00,F05,F02⟩:∃F01 F00,L2.K3 (L2.KOf KX) mg "TreeError" F01 L2.bmV/\L2.K3 (L2.KOf KX) mg "AreAlike" F00 (.ref F01::L2.bmV):=by
   dsimp only[L2.KOf]
   refine' ⟨_,_,L2.k3_of ?a0 (K66 KX G ?b0) ?l0 ?m0 ?h0 ?n0 ?o0 ?p0 ?s0 ?t0 ?r0,L2.k3_of ?a1 (K66 KX G ?b1) ?l1 ?m1 ?h1 ?n1 ?o1 ?p1 ?s1 ?t1 ?r1⟩;(case a0=>k_is);(case b0=>k_is);(case l0=>k_is);(case m0=>k_is);(case h0=>rfl);(case n0=>k_is);(case o0=>k_is);(case p0=>k_is);(case s0=>k_is);(case r0=>decide +kernel);(case t0=>exact λ_ _=>⟨.base,.base⟩);(case a1=>k_is);(case b1=>k_is);(case l1=>k_is);(case m1=>k_is);(case h1=>rfl);(case n1=>k_is);(case o1=>k_is);(case p1=>k_is);(case s1=>k_is);(case r1=>decide +kernel);(case t1=>exact λh X=>L2.K3.up (L2.k3_of (c:="TreeError") (mg:=mg) (by k_is) (K66 KX G (by k_is)) (by k_is) (by k_is) (by rfl) (by k_is) (by k_is) (by k_is) (by k_is) (λ_ _=>⟨.base,.base⟩) .(2)) h X)
  have F04:FT.Catch (L2.KOf KX) F00 FT.h_AreAlike:=FT.catch_of F02 .(f);have S:FT.SS (L2.KOf KX) mg:=by
   refine⟨λn v e=>K66 KX G e,?_,?_,?_,?_,?_,?_,?_,?_,?_,?_,?_,?_,?_,?_,?_,?_,?_,?_,?_,?_,?_,?_,?_,?_,?_,?_,?_,?_,?_,?_,?_,?_,?_,F00,_,F02,?_,?_,?_,?_,?_,?_,?_,?_,?_,?_,?_,?_,?_,?_,?_,?_,?_,?_,?_,?_,F04⟩
   all_goals first|exact PySem.W.mg_none_of KX G (by k_is)|(dsimp only[L2.KOf];refine' FT.defAt_mk ?a ?l ?c ?k;(case a=>k_is);(case l=>k_is);(case c=>k_is);(case k=>k_is))
  obtain⟨f,fd,hf,F⟩:=F03;have e:=hmg.symm.trans (K66 KX G hf);cases e;refine⟨fd,FT.bindsTo1 F (λ_ _ _ _ _ _ _=>rfl),λbase _ _=>?_⟩;exact FT.okL_law S F
end
