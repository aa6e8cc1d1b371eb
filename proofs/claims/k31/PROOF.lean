import PyProof.Rows.All
import Wide.All
import OpenK.AllK
import Wide.FinOn
import PySem.Challenge.RW_fairtrees_k31_whole_fair_run
import Lean
import PyProof.EqAt
import PyProof.EqKinds
import PyProof.TupleCall
import PyProof.DictCompW
import PyProof.NeKinds
import PyProof.ListRange
import PyProof.TupleOfSeq
import PyProof.SeqI3
import PyProof.DictWalks
import PyProof.SetNew
import PyProof.ReprReads
import PyProof.StrHeap
import PyProof.ReprLen
import PyProof.WalkInts
import KE.KDictSum
import PyProof.Draws
import KE.KDictOf
import PyProof.AttrMissHeap
set_option maxHeartbeats 4000000
set_option Elab.async false
set_option linter.all false
set_option maxRecDepth 100000
set_option maxHeartbeats 4000000
noncomputable section
namespace L2
end L2
open PySem renaming wpAny_bind->K0,wpAny_pure->K4,starEach->K0k,foldedSetIterable->K1b,wpAny_holding->K1h,Program->K1i,wpAny_loadPart'->K1l,wpAny_newObj_type->K1v,compareOp->K1w,wpAny_askSetting->K20,mainGlobals->K23,wpAny_call_entry->K2a,assignEach->K2c,mem_of_lookup->K2j,wpAny_setState_of->K2k,swapsWith->K2n,binaryOp->K2r,wpAny_callSpecial?_slot->K2v,keywordEach->K37,wpAny_setField->K3e,wpAny_truthy_bool->K3h,wpAny_ite_false->K3j,codeAny_builtin->K3k,wpAny_standAt->K3o,call_meets->K3r,holding->K3t,wpAny_passesOwn->K3x,codeAny_mono->K44,wpAny_mono->K49,attributeBase->K4a,wpAny_setEntries_of->K4d,sysModules->K4m,wpAny_pyIter_tuple->K4o,backToKw->K4s,behindInMarks->K4u,wpAny_pyIter_list->K4x,fits_of_scanBound->K4y,FuncData->K53,wpAny_typeOf->K58,bootBuiltins->K59,standAt->K5a,Keyword->K5b,codeAny->K5q,letOwnedTupleGo->K5s,codeAny_of_tree->K5t,wpAny_rule->K5u,wpAny_Call_Name_kw->K5w,tupleKind_room_in1->K5x,wpAny_field->K60,sliceBounds->K61,NameKind->K6a,isSubtype_type->K6i,setsByText->K6p,wpAny_isInstance->K6q,plainId_quiet->K6t,relayAll->K6v,getItem->K75,wpAny_seqItems->K7l,firstArgMember->K7m,wpAny_binaryOp_repeat_ref->K7t,wpAny_of_eq->K82,wpAny_storeSet_of->K83,wpAny_setEpoch_of->K84,wpAny_comprehension_free->K8b,SetTable->K8i,seqIndex?->K8j,noFill_tuple_add->K8n,setNext->K8s,callerA->K8t,BindsTo->K8u,typeIs_int->K8v,sub_set_self->K8w,wpAny_pyNext_list_item->K90,wpAny_specialOf->K96,wpAny_execs_nil->K97,wpAny_pyNext_list_end->K9e,weight_type_call_type->K9f,builtinLookup_eq_fast->K9g,subscripted->K9l,wpAny_runValue->K9m,entryFor_alias->K9n,wpAny_loadName_local->K9p,codeAny_call_builtin->K9q,valueAt->K9u,tupleKind->K9v,wpAny_loadName_cell->Z1f,signature?_of->Z1l,setWalkUnseen->Z1m,seq_tuple_add->Z1n,wpAny_call->Z1t,slot_list_getitem->Z1x,notedBy->Z26,Operator->Z27,GenState->Z28,setAddHashed->Z2f,seqIndex_neg->Z2g,concat_meets->Z2h,seqSlot_of->Z2p,seqItems?->Z2q,pickOrder->Z2r,PassesOwn->Z2s,wpAny_alloc->Z31,sizeLine_eq->Z32,seqIndex_of->Z33,setItem->Z38,call->Z3b,Fin->Z3i
open List renaming getElem?_cons_zero->K1,getElem?_cons_succ->K2,length_append->K3,length_cons->K6,append_assoc->K7,getElem?_eq_getElem->K8,mem_append->K00,getElem?_eq_some_iff->K02,set_cons_zero->K04,set_cons_succ->K05,length_nil->K06,size_toArray->K07,mem_filter->K08,mem_append_left->K09,getElem?_map->K0a,range->K0b,length_map->K0c,mem_of_getElem?->K0d,getElem?_append_right->K0i,mem_cons->K0l,map_cons->K0p,mem_singleton->K0q,mem_append_right->K0r,getElem?_append_left->K0s,replicate->K0t,length_singleton->K0v,length_filter_le->K0w,mem_range->K13,mem_cons_of_mem->K14,flatten_cons->K15,set_append_right->K16,append_nil->K17,mem_cons_self->K18,mem_map->K1a,nodup_append->K1c,length_take->K1e,length_range->K1f,take_length->K1g,getElem?_eq_none->K1j,getElem_of_mem->K1o,getElem?_set_self->K1p,map_map->K1q,all_eq_true->K1t,map_nil->K1u,getElem?_singleton->K1z,getElem?_set_ne->K22,take_append_of_le_length->K24,drop_eq_getElem_cons->K25,cons_append->K28,length_reverse->K2b,take_succ_eq_append_getElem->K2d,length_eq_zero_iff->K2e,dropLast_concat->K2f,any_cons->K2g,eq_nil_or_concat->K2l,concat_eq_append->K2m,find?_cons->K2s,not_mem_nil->K2u,take_add_one->K31,take_of_length_le->K32,replicate_succ->K34,getElem?_range->K35,map_append->K36,lookup_cons->K3a,flatten_nil->K3p,filter_map->K3w,reverse_cons->K40,getLast?_append->K42,getElem?_append->K43,mergeSort_perm->K4b,filterMap_cons->K4c,nodup_nil->K4f,length_drop->K4g,getElem_mem->K4h,getElem?_take->K4k,pairwise_lt_range->K4n,nodup_cons->K4p,foldl_cons->K4q,length_filter_lt_length_iff_exists->K4z,not_lt->K51,reverse_reverse->K52,any_eq_true->K5c,map_congr_left->K5e,flatten_append->K5f,all_cons->K5j,length_set->K5p,pairwise_mergeSort->K64,findIdx?_eq_some_iff_getElem->K66,pairwise_map->K6f,foldl_append->K6g,eraseIdxIfInBounds_toArray->K6j,take_append_drop->K6k,foldl->K6m,filter_cons->K6o,range'->K6u,set_append_left->K6w,pairwise_append->K6x,idxOf_lt_length_of_mem->K77,drop_zero->K7d,filter_append->K7i,filterMap_map->K7j,perm_ext_iff_of_nodup->K7o,nodup_iff_pairwise_ne->K7p,pairwise_iff_getElem->K7r,findIdx?_eq_none_iff->K7s,flatMap_cons->K80,nodup_range->K8g,isEmpty_nil->K8h,getElem?_replicate->K8o,drop_eq_nil_of_le->K8z,of_mem_zip->K93,nil_append->K94,forIn_cons->K95,perm_append_comm->K9c,dropLast_eq_take->K9d,forIn_nil->K9j,getD->K9r,filter_eq_self->K9x,reverse_append->K9y,map_take->Z1h,all_eq_false->Z1y,any_map->Z24,take_sublist->Z2a,getElem_take->Z2b,filter_congr->Z2c,ext_getElem?->Z2d,any_eq_false->Z2e,mem_flatten->Z2t,map_reverse->Z2u,le_antisymm->Z2v,getElem_inj->Z2w,append_inj'->Z2x,map_id->Z2y,length->Z2z,range_succ->Z35,idxOf_cons->Z36,all_append->Z37
open PySem.W renaming Frag->K5,kia_one->K1s,fnOf->K2i,keepIn->K2o,codeIn->K2y,nsIn->K3z,kitOne->K69,methodObj->K7x,kitx_list->K7y,kitx_dict->K7z,cellsFrom_some->K8x,instObj->K92,lookIn->K9h,findIn->K9i,kitx_tuple->Z1r,plainGet->Z2n,OpenLaw->Z34,mg_of->Z3f,WalkO->Z3g
open PySem.Heap renaming get?_push_of_some->K9,lt_size->K0f,get?_push_size->K0j,SameBut->K1y,size_push->K2q,get?_update_other->K3m,get?_update_self->K3s,ExtBut->Z30
open Nat renaming le_refl->K01,reduceAdd->K0g,le_trans->K0h,ne_of_lt->K0x,lt_of_lt_of_le->K10,lt_irrefl->K2x,ne_of_gt->K30,sub_self->K3l,zero_le->K4j,testBit_and->K4r,lt_succ_of_lt->K4w,eq_of_testBit_eq->K54,lt_or_ge->K55,le_of_lt->K56,le_succ->K5z,le_of_eq->K6b,testBit_or->K6e,pow_le_pow_right->K6y,exists_testBit_of_ne_zero->K6z,zero_add->K72,mul_comm->K73,lt_of_le_of_lt->K7k,zero_testBit->K8k,lt_succ_self->K8l,le_add_right->K8m,succ_mul->K8r,mul_le_mul->K9k,pos_iff_ne_zero->K9w,add_le_add_left->K9z,lt_trans->Z25,le_of_succ_le->Z2i
open PySem.Str renaming ofString->K03,length->Z1q
open Bool renaming and_eq_true->K0e,false_ne_true->K0m,eq_iff_iff->K0n,false_eq_true->K1k,bne_false->K27,or_eq_true->K2h,not_eq_true'->K41,bne_true->K5k,and_true->K5l,not_false->K6c,not_true->K6s,and_false->K7e,false_or->K87,true_and->Z1i,decide_or->Z3d
open PySem.PassesOwn renaming never->K0o
open Int renaming toNat_natCast->K0u,eq_ofNat_of_zero_le->K1r,emod_lt_of_pos->K4l,toNat_of_nonneg->K5g,ofNat_inj->K5m,emod_nonneg->K5r,fdiv_eq_ediv_of_nonneg->K7q,toNat->K9t
open Option.some renaming inj->K0y,injEq->K7v
open PySem.SetTable renaming below->K0z,grown->K3c,Probe->Z3c,laid->Z3e
open Option renaming map_eq_some_iff->K11,join_some->K2t,isSome_map->K6d,join_none->K8f,getD_none->Z2o
open PySem.Builtin renaming bitAnd->K12,bitNot->K4e,bitOr->K6r
open List.Nodup renaming length_le_of_subset->K19
open Array renaming length_toList->K1d,getElem?_eq_getElem->K1m,getElem?_toList->K38,getElem?_eq_some_iff->K3q,toList->Z23,toList_push->Z29
open PySem.Heap.SameBut renaming update->K1n,refl->K3y
open PyProof.Rows renaming slot_tuple_getitem->K1x,callWith_type1->K2w,AllBare->K76,IntsAre->K81,subscriptTail_builtinR->K91,entry_tuple_getitem->Z1g,subscriptTail->Z1k
open Sum renaming inl->K21,inr->K9s
open PySem.F renaming called_set->K26,slot_tuple_iterator_next->K33,plainAttrs_list->K3g,slot_tuple_mul->K3n,args_tuple_mul_2->K5n,args_tuple_add_2->K5o,args_tuple_iterator_next_1->K5y,entry_tuple_mul->K62,entry_tuple_add->K63,entry_tuple_iterator_next->K67,slot_tuple_add->K6h,plain_set_new->K71,slot_tuple_rmul->K8c,type_list_pop->K99,slot_list_pop->K9a,slot_int_rmul->K9b,args_list_extend_2->K9o,entry_list_extend->Z1e,slot_list_extend->Z1w,plain_list_iadd->Z2j,entry_type_call->Z2k
open PySem.Value renaming ref->K29,none->K2z,type->K46,int->K78,bool->K79,str->Z2l,isStrOf->Z3h
open PySem.Builtin.List renaming listTooLong->K2p,listExtendWith->K74,listSameRef->K89
open False renaming elim->K39
open PySem.Paired renaming length->K3b
open PySem.Around renaming under_plainId->K3d,under_plain->Z1s
open PySem.SetTable.below renaming go->K3f
open ForInStep renaming yield->K3i
open PySem.Builtin.SmallTypes renaming nextOf->K3u
open PySem.Builtin.Slice renaming slicePlaces->K3v,sliceAdjust->K5d,sliceApplied->K7h
open PySem.Builtin.Tuple renaming tupleExact->K45,tupleItemsOf->K7f,tupleIsExact->K7g
open True renaming intro->K47
open PySem.Obj renaming mapSeq->K48,data_mapFields->K5v,isFreed_of_fields->K6l,putSet->K7c,mapFields->Z1j
open Classical renaming propDecidable->K4i
open PySem.NameKind renaming free->K4t
open PySem.Builtin.Frozenset renaming unchanged->K4v,sizeOf->K5h,intersection->K6n,updateFrom->K70,newClass->K7a,isAnySet->K7b,baseOf->K85,addrOf->K86,slot1->K8d
open List.Pairwise renaming filter->K50,imp_of_mem->K88,nil->Z20,and->Z21
open Ne renaming symm->K57
open PySem.Shared renaming TypeIs->K5i
open PyProof.Rows.F renaming plain_set_update_loop->K65,entry_set_update_loop->K8p
open PySem.AutoSeq1 renaming idx_int->K68
open PySem.Calls renaming Name_function_global->K7n,callWith_builtin->K8y
open PySem.SetTable.probe renaming go->K7u
open Function renaming comp_def->K7w
open List.Perm renaming eq_of_pairwise->K8a,append_left->K98,cons->Z39
open PySem.Builtin.Range renaming rangeSize->K8e
open PUnit renaming unit->K8q
open PySem.SeqAt.EqAt renaming str_int->Z1o,int_str->Z1p
open LawfulMonad renaming bind_assoc->Z1u
open PySem.Code renaming quiet_builtin->Z1v
open PySem.pickOrder renaming go->Z1z
open List.Sublist renaming refl->Z22
open And renaming intro->Z2m
open PySem.Data renaming seq->Z3a
open Pure renaming pure->Z3j
open Iff renaming rfl->Z3k
open Sum.inl renaming inj->Z3l
open PySem PySem.Spec PyProof.Rows L2
set_option hygiene false
local macro_rules
|`(.(r $t))=>`(some (.ref $t))
|`(.(i $t))=>`(some (.int $t))
|`(.(g $t))=>`(some (.tup $t))
|`(.(l $t))=>`(some (.lst $t))
|`(.(s $t))=>`(some (.str $t))
|`(.(p $t))=>`((fun _=>pure (.int $t)))
|`(.(0))=>`((by omega))
|`(.(1))=>`((by decide))
|`(.(2))=>`((λ_=>pure (.int 1)))
|`(.(3))=>`(s.heap.objs.size)
|`(.(4))=>`((λ_ _ _ _ _ _ us hl=>(by obtain⟨_,_,_,rfl⟩:=ar3 hl;rfl)))
|`(.(5))=>`((by decide +kernel))
|`(.(6))=>`((model X.prog X.w))
|`(.(7))=>`((X.comp N' sc s H fp xe))
|`(.(8))=>`((λ_=>pure (.int 0)))
|`(.(9))=>`((z0E (by first|rfl|kernel_rfl!)))
|`(.(a))=>`((maD st mk))
|`(.(b))=>`((Ext.refl _ _))
|`(.(c))=>`((Pre.refl _))
|`(.(d))=>`((Z2 rfl))
|`(.(e))=>`((by simp))
|`(.(f))=>`((λ_ _ _ _ _ _ us hl=>(by obtain⟨_,_,rfl⟩:=ar2 hl;rfl)))
|`(.(g))=>`((eVar 0))
|`(.(h))=>`(h.length)
|`(.(i))=>`(decide_eq_true_eq)
|`(.(j))=>`([.tup (stD p),.tup (stD ring)])
|`(.(k))=>`(decide_eq_false)
|`(.(l))=>`((eVar 1))
|`(.(m))=>`((z7 (λ_=>pure (.int 2)) (z7 (λ_=>pure (.int 4)) (z7 (λ_=>pure (.int 8)) (z7 (λ_=>pure (.int 16)) (z7 (λ_=>pure (.int 32)) aNil))))))
|`(.(n))=>`(st.length)
|`(.(o))=>`(⟨λ⟨_,_,z,_⟩=>(by cases z),λ⟨_,_,z,_⟩=>(by cases z)⟩)
|`(.(p))=>`((List Nat))
|`(.(q))=>`(s1.heap.objs.size)
|`(.(r))=>`((λ_ _ _ _ _ _ us hl=>(by obtain⟨_,rfl⟩:=ar1 hl;rfl)))
|`(.(s))=>`((by simp[RD]))
|`(.(t))=>`((eVar 2))
|`(.(u))=>`((Addr×Obj))
|`(.(v))=>`((z6 (z0 0) (z6 Z1 Z0)))
|`(.(w))=>`(items.size)
|`(.(x))=>`((model P w))
set_option hygiene true
namespace FT
def zH7:List Bool->List PySem.Stmt->List PySem.Stmt
 | true::r,x::xs=>x::zH7 r xs
 | false::r,_::xs=>zH7 r xs
 | _,_=>[]
def qv:PySem.Program:={ PySem.Challenge.pw_fairtrees_k31_whole_fair_run with main:={ PySem.Challenge.pw_fairtrees_k31_whole_fair_run.main with body:=zH7 [false,false,false,false,false,false,false,false,false,false,false,false,false,false,false,false,false,false,false,false,false,false,false,false,false,false,false,false,false,false,false,false,false,false,false,false,false,false,false,false,false,false,false,false,false,false,false,false,true] PySem.Challenge.pw_fairtrees_k31_whole_fair_run.main.body } }
def looseQ:List PySem.Str:=[K03 "FREE",K03 "set_of",K03 "common",K03 "knots",K03 "turned",K03 "ending_order",K03 "take_from",K03 "is_round",K03 "bears",K03 "is_borne",K03 "bearers",K03 "strong_parts",K03 "steps_inside",K03 "failed_wish",K03 "not_bearing",K03 "fair_parts",K03 "fair_run",K03 "ring_from",K03 "walk_to",K03 "walk_back",K03 "_law_pool",K03 "_law_draw",K03 "_law_name",K03 "_law_names",K03 "_law_machine",K03 "_law_wishes",K03 "_law_great_machine",K03 "_law_number",K03 "_law_tuple",K03 "_law_some",K03 "_law_mask",K03 "_law_set",K03 "_law_lead",K03 "_law_near",K03 "_law_round",K03 "_law_rounds",K03 "_law_ever",K03 "_law_bears",K03 "_law_borne",K03 "_law_met",K03 "_law_right",K03 "_law_laid",K03 "_law_due"]
end FT
section
open PySem PySem.W PyProof.Rows
local macro_rules | `(tactic| o_head $H)=>`(tactic| (refine holds_open (q:=FT.qv) (loose:=FT.looseQ) (Xt:=fun s=>xlAt FT.qv [] s && recOk (RowW.records (OpenRow.toRowW (OpenLaw.row PySem.Challenge.rw_fairtrees_k31_whole_fair_run))) s) (XP:=XL FT.qv []) (Yf:=Hook.obs $H) (Ya:=Hook.val $H) (YP:=Hook.says $H) (N:=30000) ?_ (Hook.of $H) (Hook.keeps $H) (fun s e=>xl_of s (Bool.and_eq_true_iff.mp e).1) XL.keeps (by rfl) (by rfl) (by rfl) (fun s e=>recFacts_of (Bool.and_eq_true_iff.mp e).2) (by rfl) (by first | assumption | decide +kernel) (by decide +kernel) ⟨rfl,rfl,rfl,rfl,rfl,by decide +kernel⟩ ?_ ?_))
set_option maxRecDepth 100000 in
noncomputable def FT.pack:PSigma fun P:Prop=>P->PySem.Challenge.rw_fairtrees_k31_whole_fair_run.Holds:=by
 refine⟨?P,λh=>?_⟩
 rotate_left
 ·w_on;o_law;k_head
  next=>exact λw=>by kernel_rfl
  next=>w_witness2
  exact h
end
namespace L2
abbrev Key:=Sum Int Str
def z1N:Key->Value->Bool
 | .inl k,v=>Value.isInt k v
 | .inr x,v=>Z3h x v
def keyH(w:World):Key->Int
 | .inl k=>hashInt k
 | .inr x=>hashStr w x
theorem y8:∀{k:Key}{v:Value},z1N k v=true->(∃i t,k=K21 i/\v=K78 i t)\/(∃x t,k=K9s x/\v=Z2l x t)
 | .inl i,v,h=>by
  obtain⟨t,e⟩:=Value.isInt_shape (k:=i) (v:=v) h;exact .inl ⟨i,t,rfl,e⟩
 | .inr x,v,h=>by
  obtain⟨t,e⟩:=Value.isStrOf_shape (x:=x) (v:=v) h;exact .inr ⟨x,t,rfl,e⟩
theorem z6V(i:Int)(t:Tok):z1N (.inl i) (.int i t)=true:=by simp[z1N,Value.isInt]
theorem z5U(x:Str)(t:Tok):z1N (.inr x) (.str x t)=true:=by simp[z1N,Z3h]
theorem zO0(a b:Int):decide ((K21 a:Key)=K21 b)=(a==b):=by
 by_cases e:a=b
 ·subst e;simp
 ·have h:¬ (K21 a:Key)=K21 b:=λq=>e (Z3l q);rw[.(k) h];exact(beq_eq_false_iff_ne.mpr e).symm
theorem zP3(a b:Str):decide ((K9s a:Key)=K9s b)=decide (a=b):=by
 by_cases e:a=b
 ·subst e;simp
 ·have h:¬ (K9s a:Key)=K9s b:=λq=>e (K9s.inj q);rw[.(k) h,.(k) e]
theorem zT4(a:Int)(b:Str):decide ((K21 a:Key)=K9s b)=false:=decide_eq_false (λq=>nomatch q)
theorem zY3(a:Str)(b:Int):decide ((K9s a:Key)=K21 b)=false:=decide_eq_false (λq=>nomatch q)
def Y0(prog:K1i)(w:World):PySem.KeyKind prog w Key where
 is:=z1N
 hash:=keyH w
 inj:=λv a b ha hb=>by
  rcases y8 ha with ⟨i,t,rfl,rfl⟩|⟨x,t,rfl,rfl⟩
  ·rcases y8 hb with ⟨j,u,rfl,e⟩|⟨y,u,rfl,e⟩
   ·injection e with e1 _;rw[e1]
   ·exact nomatch e
  ·rcases y8 hb with ⟨j,u,rfl,e⟩|⟨y,u,rfl,e⟩
   ·exact nomatch e
   ·injection e with e1 _;rw[e1]
 byValue:=λk v h=>by
  rcases y8 h with ⟨i,t,rfl,rfl⟩|⟨x,t,rfl,rfl⟩<;>rfl
 pyHash:=λhv h=>by
  rcases y8 hv with ⟨i,t,rfl,rfl⟩|⟨x,t,rfl,rfl⟩
  ·exact wpAny_pyHash_int h
  ·exact wpAny_pyHash_str h
 eqBool:=λhu hv h=>by
  rcases y8 hu with ⟨i,t,rfl,rfl⟩|⟨x,t,rfl,rfl⟩
  ·rcases y8 hv with ⟨j,u,rfl,rfl⟩|⟨y,u,rfl,rfl⟩
   ·rw[zO0]at h;exact wpAny_eqBool_int h
   ·rw[zT4]at h;exact Z1p i t y u _ _ _ _ h
  ·rcases y8 hv with ⟨j,u,rfl,rfl⟩|⟨y,u,rfl,rfl⟩
   ·rw[zY3]at h;exact Z1o x t j u _ _ _ _ h
   ·rw[zP3]at h;exact wpAny_eqBool_str h
 «strs»:=λk x t v h=>by
  rcases y8 h with ⟨i,u,rfl,e⟩|⟨y,u,rfl,e⟩
  ·exact nomatch e
  ·injection e with e1 _
   subst e1;cases v<;>rfl
theorem z6Z(prog:K1i)(w:World)(i:Int)(t:Tok):(Y0 prog w).is (.inl i) (.int i t)=true:=z6V i t
theorem z7j(prog:K1i)(w:World)(x:Str)(t:Tok):(Y0 prog w).is (.inr x) (.str x t)=true:=z5U x t
end L2
namespace FT
abbrev Rise(xs:Array Nat):Prop:=xs.toList.Pairwise (·<·)
instance keyMem(k:Key)(ks:List Key):Decidable (k∈ks):=@List.instDecidableMemOfLawfulBEq Key instBEqOfDecidableEq inferInstance k ks
section
variable(w:World)
def KE(k:Key)(e:Int×Value):Prop:=z1N k e.2=true/\e.1=keyH w k
def SetAt(h:Heap)(a:Addr)(ks:List Key):Prop:=
 ∃o es ep t ks',h.get? a=some o/\o.ExactSet/\o.data=.set es ep t/\Paired (KE w) ks' es.toList/\ks'.Perm ks/\ks.Nodup/\es.size<scanBound/\t.fits es.size=true/\Rise t.place /\
  (t.led=true\/w.params.followText "set-order" = true)
end
def IsTup0(h:Heap)(a:Addr)(items:Array Value):Prop:=∃o,h.get? a=some o/\(o.cls=.type "tuple"/\o.dict=none)/\∃n,o.data=.seq items n
theorem IsTup0.new(h:Heap)(items:Array Value):IsTup0 (h.push { cls:=.type "tuple",data:=.seq items }) h.objs.size items:=⟨_,K0j _ rfl,⟨rfl,rfl⟩,_,rfl⟩
theorem IsTup0.tup{h:Heap}{a:Addr}{items:Array Value}(x:IsTup0 h a items):IsTup h a items:=let ⟨o,e,c,d⟩:=x;⟨o,e,c.1,d⟩
theorem IsTup0.lt{h:Heap}{a:Addr}{items:Array Value}(x:IsTup0 h a items):a<h.objs.size:=let ⟨_,e,_⟩:=x;K0f e
end FT
namespace L2
variable{κ:Type}{a b it C dx:Addr}{u:Value}{P:K1i}{w:World}{h h' base:Heap}{x qual:Str}{e c tg l:Expr}{pins pins':List (Addr×Obj)}{s s':Shared}{t' i n:Nat}{g':Array Z28}{ch fp:List Addr}{N ps:List Str}{A:Around}{E Q:Value->Shared->Prop}{pos pos' p apos:Pos}{K:K5}{es:List Expr}{g:List Value->List Value->List Value}{body:List Stmt}{lo:Int}{f:Value->Value->Sem Value}{its us ds:List Value}{mA mg:Str->Option Value}{fd:K53}{kws:List K5b}{nm:Option Str}{scope:Scope}{outer:List Env}
inductive V where
 | non|bl (b:Bool)|int (i:Int)|str (x:Str)|byt (b:Array UInt8)|flt (b:UInt64)|ref (a:Addr)|ty (n:String)
 deriving DecidableEq
variable{σ':List (Option V)}{v:V}{xs vs:List V}{gV:List V->List V->List V}
def RelV:V->Value->Prop
 | .non,u=>u=K2z
 | .bl b,u=>u=K79 b
 | .int i,u=>∃t,u=K78 i t
 | .str x,u=>∃t,u=Z2l x t
 | .byt b,u=>∃t,u=Value.bytes b t
 | .flt b,u=>∃t,u=Value.float b t
 | .ref a,u=>u=K29 a
 | .ty n,u=>u=K46 n
abbrev Vals:List V->List Value->Prop:=Paired RelV
theorem Vals.length{xs:List V}{us:List Value}(r:Vals xs us):xs.length=us.length:=K3b r
theorem Vals.get:∀{xs:List V}{us:List Value}{i:Nat}{x:V},Vals xs us->xs[i]?=some x->∃u,us[i]?=some u/\RelV x u
 | _,_,_,_,.nil,e=>by simp at e
 | _,_,0,_,.cons r _,e=>by simp at e;subst e;exact⟨_,rfl,r⟩
 | _,_,i+1,x,.cons _ t,e=>by
  obtain⟨u,h1,h2⟩:=Vals.get (i:=i) (x:=x) t (by simpa using e);exact⟨u,by simpa using h1,h2⟩
theorem Vals.set{x:V}{u:Value}(r:RelV x u):∀{xs:List V}{us:List Value}(i:Nat),Vals xs us->Vals (xs.set i x) (us.set i u)
 | _,_,_,.nil=>.nil
 | _,_,0,.cons _ t=>.cons r t
 | _,_,i+1,.cons q t=>.cons q (Vals.set r i t)
theorem Vals.append:∀{xs ys:List V}{us ws:List Value},Vals xs us->Vals ys ws->Vals (xs++ys) (us++ws)
 | _,_,_,_,.nil,s=>s
 | _,_,_,_,.cons r t,s=>.cons r (Vals.append t s)
theorem Vals.take:∀{xs:List V}{us:List Value}(n:Nat),Vals xs us->Vals (xs.take n) (us.take n)
 | _,_,0,_=>.nil
 | _,_,_+1,.nil=>.nil
 | _,_,n+1,.cons r t=>.cons r (Vals.take n t)
theorem Vals.drop:∀{xs:List V}{us:List Value}(n:Nat),Vals xs us->Vals (xs.drop n) (us.drop n)
 | _,_,0,r=>r
 | _,_,_+1,.nil=>.nil
 | _,_,n+1,.cons _ t=>Vals.drop n t
def RelO:Option V->Option Value->Prop
 | some v,some u=>RelV v u
 | none,none=>True
 | _,_=>False
def KV:List (κ×V)->List (κ×Value)->Prop:=Paired λ(p:κ×V) (q:κ×Value)=>p.1=q.1/\RelV p.2 q.2
def kV:Key->V
 | .inl i=>.int i
 | .inr x=>.str x
inductive HO where
 | lst (xs:List V)
 | tup (xs:List V)
 | dK (kvs:List (Key×V))|dT (kvs:List (List Key×V))
 | set (ks:List Key)
 | ins (C dx:Addr) (fs:List (Str×V))
 | own (x:Addr)
 | xd (fs:List (Str×V))
 | met (f x:Addr)
 | rng (lo hi:Int)
 | frz (o:Obj) (u:HO)
 | tbl (ps:Array Value)
 | ext (φ:Heap->Prop)
variable{o:HO}
abbrev Hp:=Addr->Option HO
variable{H H':Hp}{R:V->V->Hp->Prop}
def upd(H:Hp)(a:Addr)(o:HO):Hp:=λb=>if b=a then some o else H b
theorem Y9:upd H a o a=some o:=by unfold upd;rw[if_pos rfl]
theorem Y5(h:b≠a):upd H a o b=H b:=by unfold upd;rw[if_neg h]
theorem Z14{u:HO}(h:H a=some o)(h':H b=some u)(d:o≠u):a≠b:=by
 intro e;subst e;rw[h]at h';exact d (K0y h')
theorem x5(h:H a=some o)(h':H b=none):a≠b:=by
 intro e;subst e;rw[h]at h';cases h'
section
variable(P:K1i)(w:World)
def ObjOk(H:Hp)(h:Heap)(a:Addr):HO->Prop
 | .lst xs=>xs.length<=sizeLine/\∃(its:List Value) (n:Nat),Vals xs its/\h.get? a=some { cls:=.type "list",data:=.seq its.toArray n }
 | .tup xs=>xs.length<=sizeLine/\∃its:List Value,Vals xs its/\FT.IsTup0 h a its.toArray
 | .dK kvs=>kvs.length<=sizeLine/\(a==K4m)=false/\∃vs,KV kvs vs/\h.DictOf (Y0 P w) a vs
 | .dT kvs=>kvs.length<=sizeLine/\(a==K4m)=false/\∃xs:List (List Key×Addr×Value),
  Paired (λ(p:List Key×V) (q:List Key×Addr×Value)=>p.1=q.1/\H q.2.1=.(g (p.1.map kV))/\RelV p.2 q.2.2) kvs xs /\
  ∃o es ep,h.get? a=some o/\o.ExactDict/\o.data=.dict es ep/\es.toList=xs.map (entryOfKey (K9v (Y0 P w)))/\(xs.map (·.1)).Nodup
 | .set ks=>FT.SetAt w h a ks
 | .ins C dx fs=>H dx=some (.own a)/\fs.length<=1000/\dx≠a/\h.get? a=some (K92 C dx) /\
  ∃mA,h.Ns1 dx mA/\(∀f,RelO (fs.lookup f) (mA f))/\PySem.Within mA (fs.map (·.1))
 | .own _=>∃o,h.get? a=some o
 | .xd fs=>∃mA,h.Ns1 a mA/\∀f,RelO (fs.lookup f) (mA f)
 | .rng lo hi=>∃t u v,h.get? a=some { cls:=.type "range",data:=.fields #[.int lo t,.int hi u,.int 1 v] }
 | .frz o u=>h.get? a=some o/\ObjOk H h a u
 | .tbl ps=>h.get? a=some { cls:=.none,data:=.fields ps }
 | .met f x=>h.get? a=some (K7x (.ref f) (.ref x))
 | .ext φ=>φ h/\(∃o,h.get? a=some o)/\∀h1 h2:Heap,φ h1->(∀o,h1.get? a=some o->h2.get? a=some o)->φ h2
def HOk(H:Hp)(h:Heap):Prop:=∀a o,H a=some o->ObjOk P w H h a o
end
theorem ObjOk.lt(x:ObjOk P w H h a o):a<h.objs.size:=by
 cases o with
 | lst xs=>obtain⟨_,_,_,_,e⟩:=x;exact K0f e
 | tup xs=>obtain⟨_,_,_,p⟩:=x;exact p.lt
 | dK kvs=>obtain⟨_,_,_,_,o,_,_,e,_⟩:=x;exact K0f e
 | dT kvs=>obtain⟨_,_,_,_,o,_,_,e,_⟩:=x;exact K0f e
 | set ks=>obtain⟨o,_,_,_,_,e,_⟩:=x;exact K0f e
 | ins C dx fs=>obtain⟨_,_,_,e,_⟩:=x;exact K0f e
 | own y=>obtain⟨_,e⟩:=x;exact K0f e
 | xd fs=>obtain⟨_,⟨_,_,_,e,_⟩,_⟩:=x;exact K0f e
 | rng lo hi=>obtain⟨_,_,_,e⟩:=x;exact K0f e
 | frz ob u=>obtain⟨e,_⟩:=x;exact K0f e
 | tbl ps=>exact K0f (show h.get? a=some _ from x)
 | met f y=>exact K0f (show h.get? a=some _ from x)
 | ext φ=>obtain⟨_,⟨_,e⟩,_⟩:=x;exact K0f e
theorem Paired.mapP{α β:Type}{F G:α->β->Prop}:∀{l₁:List α}{l₂:List β},Paired F l₁ l₂->(∀a b,F a b->G a b)->Paired G l₁ l₂
 | _,_,.nil,_=>.nil
 | _,_,.cons r t,f=>.cons (f _ _ r) (Paired.mapP t f)
theorem ObjOk.stay(x:ObjOk P w H h a o)(k:∀b u,(b=a\/H b=some (.own a))->h.get? b=some u->h'.get? b=some u)
 (ho:∀b,H b=some (.own a)->H' b=some (.own a)) (ht:∀b xs,H b=.(g xs)->H' b=.(g xs)):ObjOk P w H' h' a o:=by
 induction o with
 | lst xs=>obtain⟨z,its,n,r,e⟩:=x;exact⟨z,its,n,r,k _ _ (.inl rfl) e⟩
 | tup xs=>obtain⟨z,its,r,ob,e,c⟩:=x;exact⟨z,its,r,ob,k _ _ (.inl rfl) e,c⟩
 | dK kvs=>obtain⟨z,y,vs,r,ob,es,ep,e,c⟩:=x;exact⟨z,y,vs,r,ob,es,ep,k _ _ (.inl rfl) e,c⟩
 | dT kvs=>
  obtain⟨z,y,xs,r,ob,es,ep,e,c⟩:=x;exact⟨z,y,xs,Paired.mapP r λp q z=>⟨z.1,ht _ _ z.2.1,z.2.2⟩,ob,es,ep,k _ _ (.inl rfl) e,c⟩
 | set ks=>obtain⟨ob,es,ep,t,k',e,c⟩:=x;exact⟨ob,es,ep,t,k',k _ _ (.inl rfl) e,c⟩
 | ins C dx fs=>
  obtain⟨d,z,ne,e,mA,⟨od,es,ep,e2,c⟩,r⟩:=x;exact⟨ho _ d,z,ne,k _ _ (.inl rfl) e,mA,⟨od,es,ep,k _ _ (.inr d) e2,c⟩,r⟩
 | own y=>obtain⟨ob,e⟩:=x;exact⟨ob,k _ _ (.inl rfl) e⟩
 | xd fs=>obtain⟨mA,⟨od,es,ep,e,c⟩,r⟩:=x;exact⟨mA,⟨od,es,ep,k _ _ (.inl rfl) e,c⟩,r⟩
 | rng lo hi=>obtain⟨t,u,v,e⟩:=x;exact⟨t,u,v,k _ _ (.inl rfl) e⟩
 | frz ob u ih=>obtain⟨e,q⟩:=x;exact⟨k _ _ (.inl rfl) e,ih q⟩
 | tbl ps=>
  have e:h.get? a=some { cls:=.none,data:=.fields ps }:=x;show h'.get? a=some { cls:=.none,data:=.fields ps };exact k a _ (.inl rfl) e
 | met f y=>
  have e:h.get? a=some (K7x (.ref f) (.ref y)):=x;show h'.get? a=some (K7x (.ref f) (.ref y));exact k a _ (.inl rfl) e
 | ext φ=>obtain⟨p,⟨o,e⟩,st⟩:=x;exact⟨st _ _ p λo q=>k _ _ (.inl rfl) q,⟨o,k _ _ (.inl rfl) e⟩,st⟩
theorem HOk.lt(x:HOk P w H h)(e:H a=some o):a<h.objs.size:=(x a o e).lt
theorem HOk.fresh(x:HOk P w H h)(e:h.objs.size<=a):H a=none:=by
 cases q:H a with
 | none=>rfl
 | some u=>exact absurd (K10 (x.lt q) e) (K2x _)
theorem HOk.kept(x:HOk P w H h)(k:∀b u,h.get? b=some u->h'.get? b=some u):HOk P w H h':=λa o e=>
 (x a o e).stay (λb u _ q=>k b u q) (λ_ q=>q) λ_ _ q=>q
theorem HOk.laid(x:HOk P w H h)(k:∀b u,h.get? b=some u->h'.get? b=some u)(hp:h.objs.size<=a)(new:ObjOk P w (upd H a o) h' a o):HOk P w (upd H a o) h':=λb u e=>by
 have hn:=x.fresh hp;by_cases hb:b=a
 ·subst hb;rw[Y9]at e;cases e;exact new
 ·rw[Y5 hb]at e;exact(x b u e).stay (λc v _ q=>k c v q) (λc q=>by rw[Y5 (x5 q hn)];exact q) λc xs q=>by rw[Y5 (x5 q hn)];exact q
def Rd(H:Hp)(a:Addr)(u:HO):Prop:=H a=some u\/∃o,H a=some (.frz o u)
theorem Rd.ok{u:HO}(r:Rd H a u)(x:HOk P w H h):ObjOk P w H h a u:=by
 rcases r with r|⟨o,r⟩
 ·exact x a u r
 ·obtain⟨_,q⟩:=x a _ r;exact q
def Mut:Option HO->Prop
 | .(l _)=>True
 | some (.dK _)=>True
 | some (.dT _)=>True
 | some (.set _)=>True
 | some (.ins _ _ _)=>True
 | some (.ext _)=>True
 | _=>False
section
variable{x e:Addr}{o':HO}
theorem HOk.write(ok:HOk P w H h)(mu:Mut (H x))(he:e=x\/H e=some (.own x))(k:∀b u,b≠e->h.get? b=some u->h'.get? b=some u)(heo:∃u,h'.get? e=some u)
 (new:ObjOk P w (upd H x o') h' x o'):HOk P w (upd H x o') h':=λb u q=>by
 have nown:∀c y,H c=some (.own y)->c≠x:=λc y r z=>by subst z;rw[r]at mu;exact mu
 have ntup:∀c xs,H c=.(g xs)->c≠x:=λc xs r z=>by subst z;rw[r]at mu;exact mu
 by_cases hb:b=x
 ·subst hb;rw[Y9]at q;cases q;exact new
 ·rw[Y5 hb]at q;by_cases hbe:b=e
  ·have q':H b=some (.own x):=by
    rcases he with z|z
    ·exact absurd (hbe.trans z) hb
    ·rw[hbe];exact z
   rw[q]at q';cases q';obtain⟨v,hv⟩:=heo;exact⟨v,by rw[hbe];exact hv⟩
  ·refine(ok b u q).stay (λc v hc r=>k c v ?_ r) (λc r=>by rw[Y5 (nown c b r)];exact r) λc xs r=>by rw[Y5 (ntup c xs r)];exact r
   rcases hc with rfl|hc
   ·exact hbe
   ·rintro rfl;rcases he with z|z
    ·exact nown c b hc z
    ·rw[hc]at z;cases z;exact hb rfl
end
structure Un(fs ex:List Addr)(H H':Hp)(h h':Heap):Prop where
 keep:∀b o,h.get? b=some o->H b=none->b∉fs->b∉ex->h'.get? b=some o
 slot:∀b o,h.get? b=some o->H b=none->b∈fs->b∉ex->∃sl,h'.get? b=some { o with slots:=sl }
 free:∀b o,h.get? b=some o->H b=none->b∉ex->H' b=none
 there:∀b o,h.get? b=some o->b∉ex->∃o',h'.get? b=some o'
 tups:∀b xs,H b=.(g xs)->H' b=.(g xs)
 frzs:∀b o u,H b=some (.frz o u)->H' b=some (.frz o u)
 tbls:∀b ps,H b=some (.tbl ps)->∃more,H' b=some (.tbl (ps++more))
section
variable{fs fs' ex ex':List Addr}{H1 H2:Hp}{h1 h2:Heap}{x e:Addr}
theorem Un.any(u:Un fs ex H H1 h h1){ob:Obj}(q:h.get? b=some ob)(n:H b=none)(hx:b∉ex):∃sl,h1.get? b=some { ob with slots:=sl }:=by
 by_cases hb:b∈fs
 ·exact u.slot b ob q n hb hx
 ·exact⟨ob.slots,u.keep b ob q n hb hx⟩
theorem Un.kept(k:∀b u,h.get? b=some u->h'.get? b=some u):Un fs ex H H h h':=
 ⟨λb ob q _ _ _=>k b ob q,λb ob q _ _ _=>⟨ob.slots,k b ob q⟩,λ_ _ _ n _=>n,λb ob q _=>⟨ob,k b ob q⟩,λ_ _ q=>q,λ_ _ _ q=>q,λ_ ps q=>⟨#[],by rw[q];simp⟩⟩
theorem Un.refl:Un fs ex H H h h:=Un.kept λ_ _ q=>q
theorem Un.laid(k:∀b u,h.get? b=some u->h'.get? b=some u)(hp:h.objs.size<=a)(hn:H a=none):Un fs ex H (upd H a o) h h' where
 keep:=λb u q _ _ _=>k b u q
 slot:=λb u q _ _ _=>⟨u.slots,k b u q⟩
 free:=λb u q n _=>by rw[Y5 (K0x (K10 (K0f q) hp))];exact n
 there:=λb u q _=>⟨u,k b u q⟩
 tups:=λb xs q=>by rw[Y5 (x5 q hn)];exact q
 frzs:=λb u xs q=>by rw[Y5 (x5 q hn)];exact q
 tbls:=λb ps q=>⟨#[],by rw[Y5 (x5 q hn),q];simp⟩
theorem Un.write(mu:Mut (H x))(he:e=x\/H e=some (.own x))(k:∀b u,b≠e->h.get? b=some u->h'.get? b=some u)(heo:∃u,h'.get? e=some u):Un fs ex H (upd H x o) h h':=by
 have hx:∀b,H b=none->b≠x:=λb n z=>by subst z;rw[n]at mu;exact mu
 have hb:∀b,H b=none->b≠e:=λb n z=>by
  subst z;rcases he with r|r
  ·exact hx b n r
  ·rw[n]at r;cases r
 have hm:∀b u,H b=some u->¬ Mut (some u)->b≠x:=λb u q nm z=>by subst z;rw[q]at mu;exact nm mu
 refine⟨λb u q n _ _=>k b u (hb b n) q,λb u q n _ _=>⟨u.slots,k b u (hb b n) q⟩,λb u q n _=>by rw[Y5 (hx b n)];exact n,λb u q _=>?_,
  λb xs q=>by rw[Y5 (hm b _ q λz=>z)];exact q,λb u xs q=>by rw[Y5 (hm b _ q λz=>z)];exact q,λb ps q=>⟨#[],by rw[Y5 (hm b _ q λz=>z),q];simp⟩⟩
 by_cases hbe:b=e
 ·subst hbe;exact heo
 ·exact⟨u,k b u hbe q⟩
end
def trk(h:Heap)(H:Hp):List Addr:=(K0b h.objs.size).filter λa=>(H a).isSome
def hidT(h:Heap)(H:Hp):Heap:=PySem.W.hideAll h (trk h H)
theorem zg7(h:Heap)(H:Hp):(hidT h H).objs.size=h.objs.size:=PySem.W.hideAll_size _ _
theorem zl1{o:Obj}(e:h.get? b=some o)(n:H b=none):(hidT h H).get? b=some o:=
 PySem.W.hideAll_get _ e λhm=>by
  have q:(H b).isSome=true:=(K08.mp hm).2;rw[n]at q;simp at q
theorem zK6{o:Obj}(e:(hidT h H).get? b=some o):h.get? b=some o/\H b=none:=by
 have e':h.get? b=some o:=PySem.W.of_hideAll (trk h H) e;refine⟨e',?_⟩;cases q:H b with
 | none=>rfl
 | some x=>
  have hm:b∈trk h H:=K08.mpr ⟨K13.mpr (K0f e'),by simp[q]⟩;have z:(hidT h H).get? b=none:=PySem.W.hideAll_none (trk h H) hm;rw[z]at e;cases e
def zB1(g h:Heap)(L:Addr):List .(u):=(K0b h.objs.size).filterMap λa=>if a=L\/(g.get? a).isSome=true then none else (h.get? a).map λo=>(a,o)
def rest(g h:Heap)(L d:Addr):List .(u):=(zB1 g h L).filter λp=>decide (p.1≠d)
structure Mod(K:K5)(mg:Str->Option Value)(base:Heap):Prop where
 kin:K.In base
 glob:base.Ns K23 mg
 blt:∃mb,base.Ns builtinsNs mb/\∀x:Str,x≠"__name__"->mb x=K59 x
 nolimit:base.NoLimit
structure Cx where
 prog:K1i
 w:World
 K:K5
 mg:Str->Option Value
 base:Heap
 A:Around
 N:List Str
 s₀:Shared
 H₀:Hp
 env:Env
 outer:List Env
 stack:List Env
 ex:List Addr
 fn:Str->Bool
 calm:Bool
 pn:List .(u)
 xe:Value->Shared->Prop
variable{X:Cx}
def frs(l:List Env):List Addr:=l.filterMap (·.frame)
abbrev Cx.fs(X:Cx):List Addr:=frs X.outer
def Vis(sc:Scope)(x:Str):Prop:=sc.names.lookup x=some .local\/sc.names.lookup x=some .cell\/sc.names.lookup x=some .free
def Loc(sc:Scope)(x:Str):Prop:=sc.names.lookup x=some .local\/sc.names.lookup x=some .cell
def Look(env:Env)(h:Heap)(m:Str->Option Value)(x:Str)(u:Value):Prop:=
 (env.kindOf x=some .local/\m x=some u)\/((env.kindOf x=some .cell\/env.kindOf x=some .free)/\∃c,env.cells.lookup x=some c/\h.IsCell c (some u))
structure Cx.Ok(X:Cx):Prop where
 mod:Mod X.K X.mg X.base
 kind:X.env.scope.kind=.function
 glob:X.env.globals=K23
 blt:X.env.builtins=builtinsNs
 above:X.s₀.heap.objs.size<=X.env.locals
 inj:∀x y c,X.env.cells.lookup x=some c->X.env.cells.lookup y=some c->x=y
 has:∀x,(X.env.kindOf x=some .cell\/X.env.kindOf x=some .free)->∃c,X.env.cells.lookup x=some c
 cab:∀x c,X.fn x=true->X.env.cells.lookup x=some c->X.s₀.heap.objs.size<=c
 hd:X.calm=true->X.A.handled=none
 frames:X.A.frames=some X.stack
 stk:X.stack=X.outer\/(X.stack=X.env::X.outer/\X.env.frame=some X.env.locals)
 exf:∀b∈X.ex,b≠X.env.locals/\∀x c,X.env.cells.lookup x=some c->c≠b
 bs:∀b o,X.base.get? b=some o->X.s₀.heap.get? b=some o/\X.H₀ b=none
 bsz:X.base.objs.size<=X.s₀.heap.objs.size
 noex:∀b o,X.base.get? b=some o->b∉X.ex
 exfs:∀b∈X.ex,b∉X.fs
 funs:X.s₀.heap.FunFrames X.base X.outer
 frf:∀b∈X.fs,X.H₀ b=none
structure Inv(X:Cx)(pins:List .(u))(σ:List (Option V))(H:Hp)(s:Shared):Prop where
 ok:X.Ok
 os:s.os=X.s₀.os
 bare:K76 s.gens
 base:Un X.fs X.ex X.H₀ H X.s₀.heap s.heap
 loc:∃m,s.heap.Ns X.env.locals m/\∀(i:Nat) (x:Str) (v:V),X.N[i]?=some x->σ[i]?=some (some v)->Vis X.env.scope x->∃u,RelV v u/\Look X.env s.heap m x u
 cell:∀x c,X.env.cells.lookup x=some c->∃v,s.heap.IsCell c v
 free:H X.env.locals=none
 freeC:∀x c,X.env.cells.lookup x=some c->H c=none
 pin:∀p∈X.pn++pins,s.heap.get? p.1=some p.2/\H p.1=none/\p.1≠X.env.locals/\p.1∉X.fs/\∀v,p.2.data≠.cell v
 hok:HOk X.prog X.w H s.heap
 len:σ.length=X.N.length
section
variable{σ:List (Option V)}
theorem Cx.Ok.nofr(ok:X.Ok){o:Obj}(e:X.base.get? b=some o):b∉X.fs:=λhb=>by
 have:=(ok.funs.mem hb).1;rw[e]at this;cases this
theorem Inv.bs(I:Inv X pins σ H s):∀b o,X.base.get? b=some o->s.heap.get? b=some o/\H b=none:=λb o e=>
 ⟨I.base.keep b o (I.ok.bs b o e).1 (I.ok.bs b o e).2 (I.ok.nofr e) (I.ok.noex b o e),I.base.free b o (I.ok.bs b o e).1 (I.ok.bs b o e).2 (I.ok.noex b o e)⟩
theorem Inv.bk(I:Inv X pins σ H s):∀b o,X.base.get? b=some o->s.heap.get? b=some o:=λb o e=>(I.bs b o e).1
theorem Inv.mod(I:Inv X pins σ H s):Mod X.K X.mg X.base:=I.ok.mod
theorem Inv.kIn(I:Inv X pins σ H s):X.K.In s.heap:=I.ok.mod.kin.keeps I.bk
theorem Inv.fr(I:Inv X pins σ H s):∃m,Fr X.base X.env.locals s.heap m:=
 let ⟨m,hn,_⟩:=I.loc
 ⟨m,hn,I.bk,K0h I.ok.bsz I.ok.above⟩
theorem Inv.lt(I:Inv X pins σ H s):X.env.locals<s.heap.objs.size:=let ⟨_,hn,_⟩:=I.loc;hn.lt
theorem Inv.sz(I:Inv X pins σ H s):X.s₀.heap.objs.size<=s.heap.objs.size:=K0h I.ok.above (K56 I.lt)
theorem Inv.nofs(I:Inv X pins σ H s)(h:s.heap.objs.size<=a):a∉X.fs:=λhb=>by
 obtain⟨_,o,ho,_⟩:=I.ok.funs.mem hb;exact absurd (K10 (K0f ho) (K0h I.sz h)) (K2x _)
theorem Inv.cne(I:Inv X pins σ H s):∀x c,X.env.cells.lookup x=some c->c≠X.env.locals:=λx c e z=>by
 obtain⟨v,o,ho,hd⟩:=I.cell x c e;obtain⟨m,⟨o',es,ep,ho',hd',_⟩,_⟩:=I.loc;rw[z,ho']at ho;cases ho;rw[hd']at hd;cases hd
theorem Inv.funs(I:Inv X pins σ H s):s.heap.FunFrames X.base X.outer:=by
 have all:∀(l:List Env),(∀b∈frs l,b∈X.fs)->X.s₀.heap.FunFrames X.base l->s.heap.FunFrames X.base l:=by
  intro l;induction l with
  | nil=>intro _ _;trivial
  | cons env r ih=>
   intro hs hl;obtain⟨hk,⟨L,o,hf,hn,ho,hd⟩,hr⟩:=hl;have hL:L∈X.fs:=hs L (by unfold frs;rw[K4c,hf];exact K18);obtain⟨sl,e⟩:=I.base.slot L o ho (I.ok.frf L hL) hL λz=>I.ok.exfs L z hL;exact⟨hk,⟨L,_,hf,hn,e,hd⟩,ih (λb hb=>hs b (by unfold frs;rw[K4c,hf];exact K14 _ hb)) hr⟩
 exact all X.outer (λ_ hb=>hb) I.ok.funs
theorem Inv.stack(I:Inv X pins σ H s):s.heap.FunFrames X.base X.stack:=by
 rcases I.ok.stk with e|⟨e,hf⟩
 ·rw[e];exact I.funs
 ·rw[e];obtain⟨m,hn,_⟩:=I.loc;refine .cons (by rw[I.ok.kind];decide) hf hn ?_ I.funs;exact Heap.get?_none_of_le (K0h I.ok.bsz I.ok.above)
theorem Inv.stkSub(I:Inv X pins σ H s):∀b∈frs X.stack,b∈X.env.locals::X.fs:=λb hb=>by
 rcases I.ok.stk with e|⟨e,hf⟩
 ·rw[e]at hb;exact K14 _ hb
 ·rw[e]at hb;unfold frs at hb;rw[K4c,hf]at hb;exact hb
theorem Inv.stkFree(I:Inv X pins σ H s):∀b∈frs X.stack,H b=none:=λb hb=>by
 rcases K0l.mp (I.stkSub b hb) with e|hb
 ·rw[e];exact I.free
 ·obtain⟨_,o,ho,_⟩:=I.ok.funs.mem hb;exact I.base.free b o ho (I.ok.frf b hb) λz=>I.ok.exfs b z hb
theorem Inv.step{g':Array Z28}{t':Nat}{d':Drawn}{ch:List Addr}(I:Inv X pins σ H s)
 (hch:∀b∈ch,(b∈X.ex\/X.s₀.heap.objs.size<=b)/\b≠X.env.locals/\(∀x c,X.env.cells.lookup x=some c->c≠b)/\∀p∈X.pn++pins,p.1≠b)
 (keep:∀b o,b≠X.env.locals->b∉X.fs->b∉ch->s.heap.get? b=some o->H b=none->h'.get? b=some o)
 (slot:∀b o,b≠X.env.locals->b∈X.fs->b∉ch->s.heap.get? b=some o->H b=none->∃sl,h'.get? b=some { o with slots:=sl }) (free:∀b o,b∉ch->s.heap.get? b=some o->H b=none->H' b=none)
 (there:∀b o,b∉ch->s.heap.get? b=some o->∃o',h'.get? b=some o')
 (tups:∀b xs,H b=.(g xs)->H' b=.(g xs)) (frzs:∀b o u,H b=some (.frz o u)->H' b=some (.frz o u)) (tbls:∀b ps,H b=some (.tbl ps)->∃more,H' b=some (.tbl (ps++more)))
 (ns:∀m,s.heap.Ns X.env.locals m->h'.Ns X.env.locals m) (hok:HOk X.prog X.w H' h') (hg:K76 g') :
 Inv X pins σ H' { s with heap:=h',gens:=g',drawn:=d',toks:=t' }:=by
 have neL:∀b o,X.s₀.heap.get? b=some o->b≠X.env.locals:=λb o e=>K0x (K10 (K0f e) I.ok.above);have neC:∀b o,X.s₀.heap.get? b=some o->b∉X.ex->b∉ch:=λb o e hx hb=>by
  rcases(hch b hb).1 with z|z
  ·exact hx z
  ·exact absurd (K10 (K0f e) z) (K2x _)
 have cellK:∀x c,X.env.cells.lookup x=some c->∀v,s.heap.IsCell c v->h'.IsCell c v:=λx c e v ⟨o,ho,hd⟩=>by
  have nch:c∉ch:=λz=>(hch c z).2.2.1 x c e rfl;by_cases hc:c∈X.fs
  ·obtain⟨sl,q⟩:=slot c o (I.cne x c e) hc nch ho (I.freeC x c e);exact⟨_,q,hd⟩
  ·exact⟨o,keep c o (I.cne x c e) hc nch ho (I.freeC x c e),hd⟩
 refine⟨I.ok,I.os,hg,⟨λb o e n hb hx=>?_,λb o e n hb hx=>?_,λb o e n hx=>?_,λb o e hx=>?_,λb xs e=>tups b xs (I.base.tups b xs e),λb o xs e=>frzs b o xs (I.base.frzs b o xs e),λb ps e=>?_⟩,?_,λx c e=>?_,?_,λx c e=>?_,λp hp=>?_,hok,I.len⟩
 ·exact keep b o (neL b o e) hb (neC b o e hx) (I.base.keep b o e n hb hx) (I.base.free b o e n hx)
 ·obtain⟨sl,e1⟩:=I.base.slot b o e n hb hx;obtain⟨sl',e2⟩:=slot b _ (neL b o e) hb (neC b o e hx) e1 (I.base.free b o e n hx);exact⟨sl',e2⟩
 ·obtain⟨o',e1⟩:=I.base.there b o e hx;exact free b o' (neC b o e hx) e1 (I.base.free b o e n hx)
 ·obtain⟨o',e1⟩:=I.base.there b o e hx;exact there b o' (neC b o e hx) e1
 ·obtain⟨m1,e1⟩:=I.base.tbls b ps e;obtain⟨m2,e2⟩:=tbls b _ e1;exact⟨m1++m2,by rw[e2,Array.append_assoc]⟩
 ·obtain⟨m,hn,hl⟩:=I.loc;refine⟨m,ns m hn,λi x v e1 e2 e3=>?_⟩;obtain⟨u,r,l⟩:=hl i x v e1 e2 e3;refine⟨u,r,?_⟩;rcases l with l|⟨k,c,e,z⟩
  ·exact .inl l
  ·exact .inr ⟨k,c,e,cellK x c e _ z⟩
 ·obtain⟨v,z⟩:=I.cell x c e;exact⟨v,cellK x c e v z⟩
 ·obtain⟨m,⟨o,_,_,ho,_⟩,_⟩:=I.loc;exact free _ o (λz=>(hch _ z).2.1 rfl) ho I.free
 ·obtain⟨v,o,ho,hd⟩:=I.cell x c e;exact free c o (λz=>(hch c z).2.2.1 x c e rfl) ho (I.freeC x c e)
 ·obtain⟨e,n,ne,nf,d⟩:=I.pin p hp;have nch:p.1∉ch:=λz=>(hch p.1 z).2.2.2 p hp rfl;exact⟨keep p.1 p.2 ne nf nch e n,free p.1 p.2 nch e n,ne,nf,d⟩
theorem Inv.un(I:Inv X pins σ H s)(u:Un X.fs [] H H' s.heap h')(hok:HOk X.prog X.w H' h'):Inv X pins σ H' { s with heap:=h',toks:=t' }:=by
 obtain⟨m,⟨o,es,ep,ho,r⟩,_⟩:=id I.loc;obtain⟨sl,hL⟩:=u.any ho I.free .(e);exact I.step (g':=s.gens) (d':=s.drawn) (ch:=[]) (λ_ z=>nomatch z) (λb o _ hb _ e n=>u.keep b o e n hb .(e)) (λb o _ hb _ e n=>u.slot b o e n hb .(e)) (λb o _ e n=>u.free b o e n .(e)) (λb o _ e=>u.there b o e .(e)) u.tups u.frzs u.tbls (λm' hm=>by
  obtain⟨o',es',ep',ho',r'⟩:=hm;rw[ho]at ho';cases ho';exact⟨_,es',ep',hL,r'⟩) hok I.bare
theorem Inv.call{t':Nat}{d':Drawn}(I:Inv X pins σ H s)(u:Un (frs X.stack) ch H H' s.heap h')(hok:HOk X.prog X.w H' h')(hg:K76 g')
 (hch:∀b∈ch,(b∈X.ex\/X.s₀.heap.objs.size<=b)/\b≠X.env.locals/\(∀x c,X.env.cells.lookup x=some c->c≠b)/\∀p∈X.pn++pins,p.1≠b) :
 Inv X pins σ H' { s with heap:=h',gens:=g',drawn:=d',toks:=t' }:=by
 obtain⟨m,⟨o,es,ep,ho,r⟩,_⟩:=id I.loc;obtain⟨sl,hL⟩:=u.any ho I.free λz=>(hch _ z).2.1 rfl;exact I.step (ch:=ch) hch (λb o hL hb hc e n=>u.keep b o e n (λz=>(K0l.mp (I.stkSub b z)).elim hL hb) hc) (λb o _ _ hc e n=>u.any e n hc) (λb o hc e n=>u.free b o e n hc) (λb o hc e=>u.there b o e hc) u.tups u.frzs u.tbls (λm' hm=>by
  obtain⟨o',es',ep',ho',r'⟩:=hm;rw[ho]at ho';cases ho';exact⟨_,es',ep',hL,r'⟩) hok hg
theorem Inv.turned{t':Nat}(I:Inv X pins σ H s)(k:∀b o,b≠it->s.heap.get? b=some o->h'.get? b=some o)(hn:H it=none)(hL:it≠X.env.locals)
 (h1:it∈X.ex\/X.s₀.heap.objs.size<=it) (h2:∀x c,X.env.cells.lookup x=some c->c≠it) (h3:∀p∈X.pn++pins,p.1≠it):Inv X pins σ H { s with heap:=h',toks:=t' }:=by
 have nit:∀b u,H b=some u->b≠it:=λb u e z=>by rw[z,hn]at e;cases e
 refine I.step (g':=s.gens) (d':=s.drawn) (ch:=[it]) (λb hb=>?_) (λb o _ _ hc e _=>k b o (λz=>hc (by simp[z])) e) (λb o _ _ hc e _=>⟨o.slots,k b o (λz=>hc (by simp[z])) e⟩) (λ_ _ _ _ n=>n)
  (λb o hc e=>⟨o,k b o (λz=>hc (by simp[z])) e⟩) (λ_ _ e=>e) (λ_ _ _ e=>e) (λb ps e=>⟨#[],by rw[e];simp⟩) (λm hm=>?_) (λb u e=>?_) I.bare
 ·have e:b=it:=by simpa using hb
  subst e;exact⟨h1,hL,h2,h3⟩
 ·obtain⟨o,es,ep,ho,r⟩:=hm;exact⟨o,es,ep,k _ o (K57 hL) ho,r⟩
 ·refine(I.hok b u e).stay (λc v hc q=>k c v ?_ q) (λ_ q=>q) λ_ _ q=>q;rcases hc with z|z
  ·rw[z];exact nit b u e
  ·exact nit c _ z
theorem Inv.tok(I:Inv X pins σ H s)(t:Nat):Inv X pins σ H { s with toks:=t }:=I.un (h':=s.heap) (t':=t) Un.refl I.hok
theorem Inv.kept{t':Nat}(I:Inv X pins σ H s)(k:∀b u,s.heap.get? b=some u->h'.get? b=some u):Inv X pins σ H { s with heap:=h',toks:=t' }:=I.un (Un.kept k) (I.hok.kept k)
theorem Inv.laid{a:Addr}{o:HO}{t':Nat}(I:Inv X pins σ H s)(k:∀b u,s.heap.get? b=some u->h'.get? b=some u)(hp:s.heap.objs.size<=a)(new:ObjOk X.prog X.w (upd H a o) h' a o) :
 Inv X pins σ (upd H a o) { s with heap:=h',toks:=t' }:=I.un (Un.laid k hp (I.hok.fresh hp)) (I.hok.laid k hp new)
theorem Inv.write{x e:Addr}{o:HO}{t':Nat}(I:Inv X pins σ H s)(mu:Mut (H x))(he:e=x\/H e=some (.own x))(k:∀b u,b≠e->s.heap.get? b=some u->h'.get? b=some u)(heo:∃u,h'.get? e=some u)
 (new:ObjOk X.prog X.w (upd H x o) h' x o):Inv X pins σ (upd H x o) { s with heap:=h',toks:=t' }:=I.un (Un.write mu he k heo) (I.hok.write mu he k heo new)
theorem Inv.weak(I:Inv X pins σ H s)(hl:σ'.length=σ.length)(w:∀(i:Nat) v,σ'[i]?=some (some v)->σ[i]?=some (some v)):Inv X pins σ' H s:=
 ⟨I.ok,I.os,I.bare,I.base,let ⟨m,hn,hl'⟩:=I.loc;⟨m,hn,λi x v e1 e2 e3=>hl' i x v e1 (w i v e2) e3⟩,I.cell,I.free,I.freeC,I.pin,I.hok,hl.trans I.len⟩
theorem Inv.pins_of(I:Inv X pins σ H s)(h:∀p∈pins',s.heap.get? p.1=some p.2/\H p.1=none/\p.1≠X.env.locals/\p.1∉X.fs/\∀v,p.2.data≠.cell v):Inv X pins' σ H s:=
 ⟨I.ok,I.os,I.bare,I.base,I.loc,I.cell,I.free,I.freeC,λp hp=>(K00.mp hp).elim (λz=>I.pin p (K09 _ z)) (h p),I.hok,I.len⟩
theorem z7S(hN:N.Nodup){j:Nat}(a:N[i]?=some x)(b:N[j]?=some x):i=j:=by
 obtain⟨h1,e1⟩:=K02.mp a;obtain⟨h2,e2⟩:=K02.mp b;exact(Z2w hN).mp (e1.trans e2.symm)
theorem z9O{M:Model}{A:Around}{E:Value->Shared->Prop}{Q:Unit->Shared->Prop}(I:Inv X pins σ H s)(hN:X.N.Nodup)(hi:X.N[i]?=some x)(hx:Loc X.env.scope x)(r:RelV v u)
 (h:∀s',Inv X pins (σ.set i (some v)) H s'->(∃a,K1y a s.heap s'.heap/\(a=X.env.locals\/X.env.cells.lookup x=some a))->Q () s') (hf:X.fn x=true\/X.env.scope.names.lookup x=some .local:=by first|exact .inl rfl|exact .inr rfl|assumption):wpAny M A (storeName X.env x u) Q E s:=by
 obtain⟨m,hn,hl⟩:=id I.loc;have hcls:(X.env.scope.kind==.class||(X.env.scope.kind==.module&&X.env.locals != X.env.globals))=false:=by rw[I.ok.kind];rfl
 have hiσ:i<σ.length:=by rw[I.len];exact(K02.mp hi).1
 have cne:=I.cne;have tracked:∀{a:Addr} {h':Heap},(∃o,s.heap.get? a=some o/\H a=none)->K1y a s.heap h'->HOk X.prog X.w H h':=λ{a h'} ha hs b ob e=>by
  obtain⟨_,_,hfree⟩:=ha;refine(I.hok b ob e).stay (λc w' hc q=>(hs.2 c ?_).trans q) (λ_ q=>q) λ_ _ q=>q;rintro rfl;rcases hc with rfl|hc
  ·rw[hfree]at e;cases e
  ·rw[hfree]at hc;cases hc
 rcases hx with hk|hk
 ·refine wpAny_storeName_local hk hn (λh' hn' hs=>?_) hcls;obtain⟨oL,_,_,hoL,_⟩:=id hn;refine h _ ⟨I.ok,I.os,I.bare,⟨λb o e n hb hx=>?_,λb o e n hb hx=>?_,I.base.free,λb o e hx=>?_,I.base.tups,I.base.frzs,I.base.tbls⟩,⟨_,hn',λj y v' e1 e2 e3=>?_⟩,λy c e=>?_,I.free,I.freeC,λp hp=>?_,tracked ⟨oL,hoL,I.free⟩ hs,by simpa using I.len⟩ ⟨_,hs,.inl rfl⟩
  ·exact(hs.2 b (K0x (K10 (K0f e) I.ok.above))).trans (I.base.keep b o e n hb hx)
  ·obtain⟨sl,e1⟩:=I.base.slot b o e n hb hx;exact⟨sl,(hs.2 b (K0x (K10 (K0f e) I.ok.above))).trans e1⟩
  ·obtain⟨o',e1⟩:=I.base.there b o e hx;exact⟨o',(hs.2 b (K0x (K10 (K0f e) I.ok.above))).trans e1⟩
  ·by_cases hj:j=i
   ·subst hj;rw[hi]at e1;cases e1;rw[K1p hiσ]at e2;cases e2;exact⟨u,r,.inl ⟨hk,by simp⟩⟩
   ·rw[K22 (K57 hj)]at e2;obtain⟨u',r',q⟩:=hl j y v' e1 e2 e3;refine⟨u',r',?_⟩;rcases q with ⟨k,e⟩|⟨k,c,e,z⟩
    ·refine .inl ⟨k,?_⟩;have:y≠x:=λe=>hj (z7S hN e1 (e ▸ hi));simp[this,e]
    ·exact .inr ⟨k,c,e,z.sameBut hs (cne y c e)⟩
  ·obtain⟨w',z⟩:=I.cell y c e;exact⟨w',z.sameBut hs (cne y c e)⟩
  ·obtain⟨e,n,ne,nf,d⟩:=I.pin p hp;exact⟨(hs.2 p.1 ne).trans e,n,ne,nf,d⟩
 ·have hfn:X.fn x=true:=by
   rcases hf with z|z
   ·exact z
   ·rw[z]at hk;cases hk
  obtain⟨c,hc⟩:=I.ok.has x (.inl hk);obtain⟨w',z⟩:=I.cell x c hc;refine wpAny_storeName_cell I.ok.kind hk hc z (λh' hc' hs=>?_);obtain⟨oc,hoc,hocd⟩:=id z;refine h { s with heap:=h' } ⟨I.ok,I.os,I.bare,⟨λb o e n hb hx=>?_,λb o e n hb hx=>?_,I.base.free,λb o e hx=>?_,I.base.tups,I.base.frzs,I.base.tbls⟩,⟨m,hn.sameBut hs (K57 (cne x c hc)),λj y v' e1 e2 e3=>?_⟩,λy c' e=>?_,I.free,I.freeC,λp hp=>?_,tracked ⟨oc,hoc,I.freeC x c hc⟩ hs,by simpa using I.len⟩ ⟨c,hs,.inr hc⟩
  ·exact(hs.2 b (K0x (K10 (K0f e) (I.ok.cab x c hfn hc)))).trans (I.base.keep b o e n hb hx)
  ·obtain⟨sl,e1⟩:=I.base.slot b o e n hb hx;exact⟨sl,(hs.2 b (K0x (K10 (K0f e) (I.ok.cab x c hfn hc)))).trans e1⟩
  ·obtain⟨o',e1⟩:=I.base.there b o e hx;exact⟨o',(hs.2 b (K0x (K10 (K0f e) (I.ok.cab x c hfn hc)))).trans e1⟩
  ·by_cases hj:j=i
   ·subst hj;rw[hi]at e1;cases e1;rw[K1p hiσ]at e2;cases e2;exact⟨u,r,.inr ⟨.inl hk,c,hc,hc'⟩⟩
   ·rw[K22 (K57 hj)]at e2;obtain⟨u',r',q⟩:=hl j y v' e1 e2 e3;refine⟨u',r',?_⟩;rcases q with q|⟨k,c',e,z'⟩
    ·exact .inl q
    ·refine .inr ⟨k,c',e,z'.sameBut hs ?_⟩;rintro rfl;exact hj (z7S hN e1 (I.ok.inj _ _ _ e hc ▸ hi))
  ·by_cases hcc:c'=c
   ·subst hcc;exact⟨_,hc'⟩
   ·obtain⟨w2,z2⟩:=I.cell y c' e;exact⟨w2,z2.sameBut hs hcc⟩
  ·obtain⟨e,n,ne,nf,d⟩:=I.pin p hp;refine⟨(hs.2 p.1 ?_).trans e,n,ne,nf,d⟩;intro q;rw[q,hoc]at e;have q':oc=p.2:=K0y e;exact d w' (by rw[<- q'];exact hocd)
theorem z5n{M:Model}{A:Around}{E:Value->Shared->Prop}{Q:Unit->Shared->Prop}(I:Inv X pins σ H s)(hN:X.N.Nodup)(hi:X.N[i]?=some x)(hx:Loc X.env.scope x)(r:RelV v u)
 (h:∀s',Inv X pins (σ.set i (some v)) H s'->Q () s') (hf:X.fn x=true\/X.env.scope.names.lookup x=some .local:=by first|exact .inl rfl|exact .inr rfl|assumption):wpAny M A (storeName X.env x u) Q E s:=
 z9O I hN hi hx r (λs' I' _=>h s' I') hf
theorem Inv.call'(I:Inv X pins σ H s)(ho:s'.os=s.os)(u:Un (frs X.stack) ch H H' s.heap s'.heap)(hok:HOk X.prog X.w H' s'.heap)(hg:K76 s'.gens)
 (hch:∀b∈ch,(b∈X.ex\/X.s₀.heap.objs.size<=b)/\b≠X.env.locals/\(∀x c,X.env.cells.lookup x=some c->c≠b)/\∀p∈X.pn++pins,p.1≠b):Inv X pins σ H' s':=by
 obtain⟨h',g',d',t',o'⟩:=s';have e:o'=s.os:=ho;subst e;exact I.call (g':=g') (t':=t') (d':=d') u hok hg hch
end
abbrev XK:=Value->Option Addr->Hp->Prop
abbrev St:=List (Option V)
variable{σ:St}
abbrev VK:=V->Hp->Prop
variable{r:List V->Hp->VK->Prop}
abbrev TE:=St->Hp->VK->Prop
variable{ta te:TE}
abbrev TT:=St->Hp->(Bool->Hp->Prop)->Prop
abbrev TA:=St->Hp->(List V->Hp->Prop)->Prop
variable{t:TA}
structure Ends where
 nx:St->Hp->Prop
 rt:VK
 bk:St->Hp->Prop:=λ_ _=>False
 ct:St->Hp->Prop:=λ_ _=>False
abbrev TS:=Ends->St->Hp->Prop
variable{tb:TS}
def EP(X:Cx)(pins:List .(u))(σ:St)(Q:VK)(u:Value)(s':Shared):Prop:=∃v H',Inv X pins σ H' s'/\RelV v u/\Q v H'
def TP(X:Cx)(pins:List .(u))(σ:St)(Q:Bool->Hp->Prop)(b:Bool)(s':Shared):Prop:=∃H',Inv X pins σ H' s'/\Q b H'
def AP(X:Cx)(pins:List .(u))(σ:St)(Q:List V->Hp->Prop)(us:List Value)(s':Shared):Prop:=∃vs H',Inv X pins σ H' s'/\Vals vs us/\Q vs H'
def SP(X:Cx)(pins:List .(u))(D:Ends)(f:Flow)(s':Shared):Prop:=
 match f with
 | .next=>∃σ' H',Inv X pins σ' H' s'/\D.nx σ' H'
 | .brk=>∃σ' H',Inv X pins σ' H' s'/\D.bk σ' H'
 | .cont=>∃σ' H',Inv X pins σ' H' s'/\D.ct σ' H'
 | .ret u=>∃v σ' H',Inv X pins σ' H' s'/\RelV v u/\D.rt v H'
def PE(X:Cx)(e:Expr)(t:TE):Prop:=
 ∀(pins:List .(u)) (s:Shared) (σ:St) (H:Hp) (Q:VK),Inv X pins σ H s->t σ H Q->wpAny .(6) X.A (eval e X.env) (EP X pins σ Q) X.xe s
def PT(X:Cx)(e:Expr)(t:TT):Prop:=
 ∀(pins:List .(u)) (s:Shared) (σ:St) (H:Hp) (Q:Bool->Hp->Prop),Inv X pins σ H s->t σ H Q->wpAny .(6) X.A (isTrue e X.env (eval e X.env)) (TP X pins σ Q) X.xe s
def PW(X:Cx)(e:Expr)(t:TT):Prop:=
 ∀(whole:Sem Value) (pins:List .(u)) (s:Shared) (σ:St) (H:Hp) (Q:Bool->Hp->Prop),Inv X pins σ H s->t σ H Q->wpAny .(6) X.A (isTrue e X.env whole) (TP X pins σ Q) X.xe s
theorem PW.pt{t:TT}(h:PW X e t):PT X e t:=h _
def PA(X:Cx)(es:List Expr)(t:TA):Prop:=
 ∀(pos:Pos) (pins:List .(u)) (s:Shared) (σ:St) (H:Hp) (Q:List V->Hp->Prop),Inv X pins σ H s->t σ H Q->wpAny .(6) X.A (spliced (backTo pos (K0k es X.env))) (AP X pins σ Q) X.xe s
def PS(X:Cx)(st:Stmt)(t:TS):Prop:=
 ∀(pins:List .(u)) (s:Shared) (σ:St) (H:Hp) (D:Ends),Inv X pins σ H s->t D σ H->wpAny .(6) X.A (exec st X.env) (SP X pins D) X.xe s
def PSs(X:Cx)(st:List Stmt)(t:TS):Prop:=
 ∀(pins:List .(u)) (s:Shared) (σ:St) (H:Hp) (D:Ends),Inv X pins σ H s->t D σ H->wpAny .(6) X.A (execs st X.env) (SP X pins D) X.xe s
theorem thn{α:Type}{t:Sem α}{Q Q':α->Shared->Prop}{M:Model}(h:wpAny M A t Q E s)(hQ:∀a s,Q a s->Q' a s):wpAny M A t Q' E s:=K49 h hQ λ_ _ x=>x
section
def tVar(i:Nat):TE:=λσ H Q=>∃v,σ[i]?=some (some v)/\Q v H
def tC(v:V):TE:=λ_ H Q=>Q v H
theorem zT9(hN:X.N[i]?=some x)(hv:Vis X.env.scope x)(hd:(x==("__debug__":Str))=false:=by decide)(hcd:(x==("__classdict__":Str))=false:=by decide):PE X (.Name x pos) (tVar i):=by
 intro pins s σ H Q I h;obtain⟨v,e,h⟩:=h;obtain⟨m,hn,hl⟩:=I.loc;obtain⟨u,r,l⟩:=hl i x v hN e hv;have fin:EP X pins σ Q u s:=⟨v,H,I,r,h⟩;rcases l with ⟨hk,hm⟩|⟨hk,c,hc,hcell⟩
 ·exact wpAny_Name (K9p I.ok.kind hk hn hm fin) hd
 ·rcases hk with hk|hk
  ·exact wpAny_Name (Z1f I.ok.kind hk hc hcell fin) hd
  ·exact wpAny_Name (wpAny_loadName_free I.ok.kind hk hc hcell fin hcd) hd
theorem zX6{i j pos}:PE X (.Constant (.int i) j pos) (tC (.int i)):=λ_ _ _ H _ I h=>wpAny_Constant_int ⟨.int i,H,I.tok _,⟨_,rfl⟩,h⟩
theorem Z0R{b j pos}:PE X (.Constant (.bool b) j pos) (tC (.bl b)):=λ_ _ _ H _ I h=>Constant_bool ⟨.bl b,H,I,rfl,h⟩
theorem zU0{j pos}:PE X (.Constant .none j pos) (tC .non):=λ_ _ _ H _ I h=>Constant_none ⟨.non,H,I,rfl,h⟩
theorem zY9{x j pos}:PE X (.Constant (.str x) j pos) (tC (.str x)):=λ_ _ _ H _ I h=>Calls.Constant_str ⟨.str x,H,I.tok _,⟨_,rfl⟩,h⟩
def Gl(X:Cx)(x:Str):Prop:=X.env.kindOf x=some .globalImplicit
theorem zc4{E:Value->Shared->Prop}{pos:Pos}(I:Inv X pins σ H s)(hg:Gl X x)(hm:X.mg x=some u)(h:Q u s)
 (hd:(x==("__debug__":Str))=false:=by decide):wpAny .(6) X.A (eval (.Name x pos) X.env) Q E s:=
 K7n I.ok.kind hg (Calls.loadGlobal_global (by rw[I.ok.glob];exact I.mod.glob.keeps I.bk) hm h) hd
theorem z3W{E:Value->Shared->Prop}{pos:Pos}(I:Inv X pins σ H s)(hg:Gl X x)(hm:X.mg x=none)(hv:K59 x=some u)(h:Q u s)
 (hn:x≠"__name__":=by decide) (hd:(x==("__debug__":Str))=false:=by decide):wpAny .(6) X.A (eval (.Name x pos) X.env) Q E s:=by
 obtain⟨mb,h1,h2⟩:=I.mod.blt;exact K7n I.ok.kind hg (Calls.loadGlobal_builtin (by rw[I.ok.glob];exact I.mod.glob.keeps I.bk) hm (by rw[I.ok.blt];exact h1.keeps I.bk) ((h2 x hn).trans hv) h) hd
theorem zJ5(hg:Gl X x)(hm:X.mg x=none)(hv:K59 x=some u)(r:RelV v u)(hn:x≠"__name__":=by decide)(hd:(x==("__debug__":Str))=false:=by decide):PE X (.Name x pos) (tC v):=
 λ_ _ _ H _ I h=>z3W I hg hm hv ⟨v,H,I,r,h⟩ hn hd
variable{a b:Expr}{tb:TE}
def tB(t:TE):TT:=λσ H Q=>t σ H λx H1=>∃c,x=.bl c/\Q c H1
variable{tA tB':TT}{rest:List Expr}
def tAnd(t u:TT):TT:=λσ H Q=>t σ H λc H1=>if c=true then u σ H1 Q else Q false H1
def tOr(t u:TT):TT:=λσ H Q=>t σ H λc H1=>if c=true then Q true H1 else u σ H1 Q
def tNot(t:TT):TT:=λσ H Q=>t σ H λc H1=>Q (!c) H1
theorem zF0(ha:PT X a tA):PW X (.BoolOp .And [a] pos) tA:=by
 intro wh pins s σ H Q I h;refine isTrue_and (thn (ha pins s σ H Q I h) λc s1 e=>?_);cases c with
 | true=>exact isTrue_and_nil e
 | false=>exact e
theorem Z01(ha:PT X a tA):PW X (.BoolOp .Or [a] pos) tA:=by
 intro wh pins s σ H Q I h;refine isTrue_or (thn (ha pins s σ H Q I h) λc s1 e=>?_);cases c with
 | false=>exact isTrue_or_nil e
 | true=>exact e
theorem zO2(ha:PT X a tA)(hb:PW X (.BoolOp .And (b::rest) pos) tB'):PW X (.BoolOp .And (a::b::rest) pos) (tAnd tA tB'):=by
 intro wh pins s σ H Q I h;refine isTrue_and (thn (ha pins s σ H _ I h) λc s1 ⟨H1,I1,q1⟩=>?_);cases c with
 | true=>exact hb wh pins s1 σ H1 Q I1 q1
 | false=>exact⟨H1,I1,q1⟩
theorem Z0J(ha:PT X a tA)(hb:PW X (.BoolOp .Or (b::rest) pos) tB'):PW X (.BoolOp .Or (a::b::rest) pos) (tOr tA tB'):=by
 intro wh pins s σ H Q I h;refine isTrue_or (thn (ha pins s σ H _ I h) λc s1 ⟨H1,I1,q1⟩=>?_);cases c with
 | true=>exact⟨H1,I1,q1⟩
 | false=>exact hb wh pins s1 σ H1 Q I1 q1
theorem zN3(ha:PT X a tA):PT X (.UnaryOp .Not a pos) (tNot tA):=by
 intro pins s σ H Q I h;exact isTrue_not (ha pins s σ H (λc H1=>Q (!c) H1) I h)
def Z0d(ta tb:TE):TE:=λσ H Q=>ta σ H λx H1=>∃c,x=.bl c/\if c=true then tb σ H1 Q else Q (.bl false) H1
def tOrV(ta tb:TE):TE:=λσ H Q=>ta σ H λx H1=>∃c,x=.bl c/\if c=true then Q (.bl true) H1 else tb σ H1 Q
def Z0N(ta:TE):TE:=λσ H Q=>ta σ H λx H1=>∃c,x=.bl c/\Q (.bl (!c)) H1
theorem zU2{op}{t:TE}(h:PE X a t):PE X (.BoolOp op [a] pos) t:=λpins s σ H Q I hw=>BoolOp_one (h pins s σ H Q I hw)
theorem zO5(ha:PE X a ta)(hb:PE X (.BoolOp .And (b::rest) pos) tb):PE X (.BoolOp .And (a::b::rest) pos) (Z0d ta tb):=by
 intro pins s σ H Q I h;refine BoolOp_and (thn (ha pins s σ H _ I h) λv s1 ⟨x,H1,I1,r1,q1⟩=>?_);obtain⟨c,rfl,q1⟩:=q1;cases r1;refine K3h ?_;cases c with
 | true=>exact hb pins s1 σ H1 Q I1 q1
 | false=>exact⟨.bl false,H1,I1,rfl,q1⟩
theorem Z0k(ha:PE X a ta)(hb:PE X (.BoolOp .Or (b::rest) pos) tb):PE X (.BoolOp .Or (a::b::rest) pos) (tOrV ta tb):=by
 intro pins s σ H Q I h;refine BoolOp_or (thn (ha pins s σ H _ I h) λv s1 ⟨x,H1,I1,r1,q1⟩=>?_);obtain⟨c,rfl,q1⟩:=q1;cases r1;refine K3h ?_;cases c with
 | false=>exact hb pins s1 σ H1 Q I1 q1
 | true=>exact⟨.bl true,H1,I1,rfl,q1⟩
theorem zM0(ha:PE X a ta):PE X (.UnaryOp .Not a pos) (Z0N ta):=by
 intro pins s σ H Q I h;refine UnaryOp_ (thn (ha pins s σ H _ I h) λv s1 ⟨x,H1,I1,r1,q1⟩=>?_);obtain⟨c,rfl,q1⟩:=q1;cases r1;exact not_of (K3h ⟨.bl (!c),H1,I1,rfl,q1⟩)
def tIf(t:TT)(ta tb:TE):TE:=λσ H Q=>t σ H λc H1=>if c=true then ta σ H1 Q else tb σ H1 Q
theorem zs4(hc:PT X c tA)(ha:PE X a ta)(hb:PE X b tb):PE X (.IfExp c a b pos) (tIf tA ta tb):=by
 intro pins s σ H Q I h;refine wpAny_IfExp (thn (hc pins s σ H _ I h) λd s1 ⟨H1,I1,q1⟩=>?_);cases d with
 | true=>exact ha pins s1 σ H1 Q I1 q1
 | false=>exact hb pins s1 σ H1 Q I1 q1
end
def SqL(K:K5)(H:Hp)(a:Addr)(xs:List V):Prop:=
 Rd H a (.lst xs) \/
  ∃(o:Obj) (its:Array Value) (n:Nat),K.lookup a=some o/\o.cls=.type "list"/\o.dict=none/\o.data=.seq its n/\its.size<=sizeLine/\Vals xs its.toList
def SqT(K:K5)(H:Hp)(a:Addr)(xs:List V):Prop:=
 Rd H a (.tup xs) \/
  ∃(o:Obj) (its:Array Value) (n:Nat),K.lookup a=some o/\(o.cls=.type "tuple"/\o.dict=none)/\o.data=.seq its n/\its.size<=sizeLine/\Vals xs its.toList
def absV:Value->Option V
 | .none=>some .non
 | .bool b=>some (.bl b)
 | .int i _=>some (.int i)
 | .str x _=>some (.str x)
 | .bytes b _=>some (.byt b)
 | .float b _=>some (.flt b)
 | .ref a=>some (.ref a)
 | .type n=>some (.ty n)
 | _=>none
theorem RelV.abs{x:V}(r:RelV x u):absV u=some x:=by
 cases x with
 | non=>cases r;rfl
 | bl _=>cases r;rfl
 | int _=>obtain⟨t,rfl⟩:=r;rfl
 | str _=>obtain⟨t,rfl⟩:=r;rfl
 | byt _=>obtain⟨t,rfl⟩:=r;rfl
 | flt _=>obtain⟨t,rfl⟩:=r;rfl
 | ref _=>cases r;rfl
 | ty _=>cases r;rfl
theorem RelV.inj{x y:V}{u:Value}(r:RelV x u)(q:RelV y u):x=y:=K0y (r.abs.symm.trans q.abs)
theorem Vals.inj:∀{xs ys:List V}{us:List Value},Vals xs us->Vals ys us->xs=ys
 | _,_,_,.nil,.nil=>rfl
 | _,_,_,.cons r t,.cons r' t'=>by rw[r.inj r',Vals.inj t t']
section
variable{ys:List V}
theorem SqL.of(h:H a=.(l xs)):SqL K H a xs:=.inl (.inl h)
theorem SqT.of(h:H a=.(g xs)):SqT K H a xs:=.inl (.inl h)
theorem Inv.list(I:Inv X pins σ H s)(h:SqL X.K H a xs):∃its:List Value,Vals xs its/\PlainL s.heap a its.toArray/\xs.length<=sizeLine:=by
 rcases h with h|⟨o,its,n,hk,hc,hd,hs,hz,r⟩
 ·obtain⟨z,its,n,r,e⟩:=h.ok I.hok;exact⟨its,r,⟨_,n,e,rfl,rfl,rfl⟩,z⟩
 ·refine⟨its.toList,r,⟨o,n,I.kIn a o hk,hc,hd,by simpa using hs⟩,?_⟩;have e:=r.length;simp only[K1d]at e;omega
theorem Inv.tuple(I:Inv X pins σ H s)(h:SqT X.K H a xs):∃its:List Value,Vals xs its/\IsTup s.heap a its.toArray/\xs.length<=sizeLine:=by
 rcases h with h|⟨o,its,n,hk,hc,hs,hz,r⟩
 ·obtain⟨z,its,r,p⟩:=h.ok I.hok;exact⟨its,r,p.tup,z⟩
 ·refine⟨its.toList,r,⟨o,I.kIn a o hk,hc.1,n,by simpa using hs⟩,?_⟩;have e:=r.length;simp only[K1d]at e;omega
theorem Inv.list_inj(I:Inv X pins σ H s)(h:SqL X.K H a xs)(h':SqL X.K H a ys):xs=ys:=by
 obtain⟨its,r,⟨o,n,e,_,_,d⟩,_⟩:=I.list h;obtain⟨its',r',⟨o',n',e',_,_,d'⟩,_⟩:=I.list h';rw[e]at e';cases e';rw[d]at d';injection d' with d1 _
 have:its=its':=by simpa using congrArg Z23 d1
 subst this;exact r.inj r'
theorem Inv.tuple_inj(I:Inv X pins σ H s)(h:SqT X.K H a xs)(h':SqT X.K H a ys):xs=ys:=by
 obtain⟨its,r,⟨o,e,_,n,d⟩,_⟩:=I.tuple h;obtain⟨its',r',⟨o',e',_,n',d'⟩,_⟩:=I.tuple h';rw[e]at e';cases e';rw[d]at d';injection d' with d1 _
 have:its=its':=by simpa using congrArg Z23 d1
 subst this;exact r.inj r'
end
abbrev Cx.wish(X:Cx)(E:Value->Shared->Prop):Cx:={ X with xe:=E }
abbrev Cx.nox(X:Cx):Cx:=X.wish λ_ _=>False
theorem Cx.Ok.wish{X:Cx}(ok:X.Ok)(E:Value->Shared->Prop):(X.wish E).Ok:=
 ⟨ok.mod,ok.kind,ok.glob,ok.blt,ok.above,ok.inj,ok.has,ok.cab,ok.hd,ok.frames,ok.stk,ok.exf,ok.bs,ok.bsz,ok.noex,ok.exfs,ok.funs,ok.frf⟩
theorem Cx.Ok.unwish(ok:(X.wish E).Ok):X.Ok:=
 ⟨ok.mod,ok.kind,ok.glob,ok.blt,ok.above,ok.inj,ok.has,ok.cab,ok.hd,ok.frames,ok.stk,ok.exf,ok.bs,ok.bsz,ok.noex,ok.exfs,ok.funs,ok.frf⟩
theorem Inv.wish(I:Inv X pins σ H s)(E:Value->Shared->Prop):Inv (X.wish E) pins σ H s:=⟨I.ok.wish E,I.os,I.bare,I.base,I.loc,I.cell,I.free,I.freeC,I.pin,I.hok,I.len⟩
theorem Inv.unwish(I:Inv (X.wish E) pins σ H s):Inv X pins σ H s:=⟨I.ok.unwish,I.os,I.bare,I.base,I.loc,I.cell,I.free,I.freeC,I.pin,I.hok,I.len⟩
theorem SP.unwish{D:Ends}{f:Flow}{s':Shared}(h:SP (X.wish E) pins D f s'):SP X pins D f s':=by
 cases f with
 | next=>obtain⟨σ',H',I,q⟩:=h;exact⟨σ',H',I.unwish,q⟩
 | brk=>obtain⟨σ',H',I,q⟩:=h;exact⟨σ',H',I.unwish,q⟩
 | cont=>obtain⟨σ',H',I,q⟩:=h;exact⟨σ',H',I.unwish,q⟩
 | ret u=>obtain⟨v,σ',H',I,r,q⟩:=h;exact⟨v,σ',H',I.unwish,r,q⟩
theorem PSs.nox{st:List Stmt}{t:TS}(h:PSs X.nox st t):PSs X st t:=λpins s σ H D I hw=>
 K49 (h pins s σ H D (I.wish _) hw) (λ_ _ q=>q.unwish) λ_ _ z=>K39 z
section
variable{st:Stmt}{rest:List Stmt}{t u:TS}
def Z18:TS:=λD σ H=>D.nx σ H
def tSeq(t u:TS):TS:=λD σ H=>t { D with nx:=u D } σ H
theorem zz7:PSs X [] Z18:=λ_ _ σ H _ I h=>K97 ⟨σ,H,I,h⟩
theorem zl2(h1:PS X st t)(h2:PSs X rest u):PSs X (st::rest) (tSeq t u):=by
 intro pins s σ H D I h;refine wpAny_execs_cons (thn (h1 pins s σ H { D with nx:=u D } I h) λf s1 q=>?_);cases f with
 | next=>
  obtain⟨σ',H',I',q⟩:=q;exact h2 pins s1 σ' H' D I' q
 | ret v=>exact q
 | brk=>exact q
 | cont=>exact q
theorem Inv.quiet(I:Inv X pins σ H s):interactive X.env=false:=by simp[interactive,I.ok.kind]
def Z0x(te:TE):TS:=λD σ H=>te σ H λ_ H1=>D.nx σ H1
theorem zL6(he:PE X e te)(hs:K2n e none pos.line X.env=pure false:=by rfl):PS X (.Expr e pos) (Z0x te):=by
 intro pins s σ H D I h;exact wpAny_Expr_any (thn (he pins s σ H _ I h) λv s1 ⟨x,H1,I1,r1,q1⟩=>⟨σ,H1,I1,q1⟩) I.quiet hs
def tRet(te:TE):TS:=λD σ H=>te σ H D.rt
theorem zU8(he:PE X e te):PS X (.Return (some e) pos) (tRet te):=by
 intro pins s σ H D I h;exact wpAny_Return_some (thn (he pins s σ H _ I h) λv s1 ⟨x,H1,I1,r1,q1⟩=>⟨x,σ,H1,I1,r1,q1⟩)
def tIfS(c:TT)(t u:TS):TS:=λD σ H=>c σ H λb H1=>if b=true then t D σ H1 else u D σ H1
theorem Z0T{a b:List Stmt}{tc:TT}(hc:PT X c tc)(ha:PSs X a t)(hb:PSs X b u):PS X (.If c a b pos) (tIfS tc t u):=by
 intro pins s σ H D I h;refine wpAny_If (thn (hc pins s σ H _ I h) λd s1 ⟨H1,I1,q1⟩=>?_);cases d with
 | true=>exact ha pins s1 σ H1 D I1 q1
 | false=>exact hb pins s1 σ H1 D I1 q1
end
abbrev TG:=V->St->Hp->(St->Hp->Prop)->Prop
abbrev TGs:=List V->St->Hp->(St->Hp->Prop)->Prop
def PG(X:Cx)(target:Expr)(t:TG):Prop:=
 ∀(pins:List .(u)) (s:Shared) (σ:St) (H:Hp) (v:V) (u:Value) (Q:St->Hp->Prop),Inv X pins σ H s->RelV v u->t v σ H Q ->
  wpAny .(6) X.A (assign target X.env u) (λ_ s'=>∃σ' H',Inv X pins σ' H' s'/\Q σ' H') X.xe s
def PGs(X:Cx)(ts:List Expr)(t:TGs):Prop:=
 ∀(pins:List .(u)) (s:Shared) (σ:St) (H:Hp) (vs:List V) (us:List Value) (Q:St->Hp->Prop),Inv X pins σ H s->Vals vs us->t vs σ H Q ->
  wpAny .(6) X.A (assignInOrder ((K2c ts X.env).map (·.2)) us) (λ_ s'=>∃σ' H',Inv X pins σ' H' s'/\Q σ' H') X.xe s
abbrev TSet:=V->V->V->Hp->(Hp->Prop)->Prop
def PSet(X:Cx)(t:TSet):Prop:=
 ∀(pins:List .(u)) (s:Shared) (σ:St) (H:Hp) (o i v:V) (ov iv u:Value) (Q:Hp->Prop),Inv X pins σ H s->RelV o ov->RelV i iv->RelV v u->t o i v H Q ->
  wpAny .(6) X.A (Z38 ov iv u) (λ_ s'=>∃H',Inv X pins σ H' s'/\Q H') X.xe s
abbrev TIp:=V->V->Hp->VK->Prop
def PIp(X:Cx)(op:Z27)(t:TIp):Prop:=
 ∀(pins:List .(u)) (s:Shared) (σ:St) (H:Hp) (x y:V) (v u:Value) (Q:VK),Inv X pins σ H s->RelV x v->RelV y u->t x y H Q ->
  wpAny .(6) X.A (inplaceOp op v u) (EP X pins σ Q) X.xe s
def zM9(i:Nat):TG:=λv σ H Q=>Q (σ.set i (some v)) H
theorem z7C(hN:X.N.Nodup)(hi:X.N[i]?=some x)(hx:Loc X.env.scope x)(hf:X.fn x=true\/X.env.scope.names.lookup x=some .local:=by first|exact .inl rfl|exact .inr rfl|assumption):PG X (.Name x pos) (zM9 i):=by
 intro pins s σ H v u Q I r h;exact wpAny_assign_Name (z5n I hN hi hx r (λs' I'=>⟨_,H,I',h⟩) hf)
def gNil:TGs:=λvs σ H Q=>vs=[]/\Q σ H
def Z0q(t:TG)(u:TGs):TGs:=λvs σ H Q=>∃v r,vs=v::r/\t v σ H λσ' H'=>u r σ' H' Q
theorem z9Y:PGs X [] gNil:=by
 intro pins s σ H vs us Q I r h;obtain⟨e,h⟩:=h;subst e;cases r;exact assignInOrder_nil ⟨σ,H,I,h⟩
theorem z8A{t:TG}{u:TGs}(h1:PG X e t)(h2:PGs X es u)
 (hs:(K2c (e::es) X.env).map (·.2)=assign e X.env::(K2c es X.env).map (·.2):=by rfl):PGs X (e::es) (Z0q t u):=by
 intro pins s σ H vs us Q I r h;obtain⟨v,vr,e1,h⟩:=h;subst e1;cases r with
 | cons r rr=>
  rw[hs];refine assignInOrder_cons (thn (h1 pins s σ H _ _ _ I r h) λ_ s1 ⟨σ1,H1,I1,q1⟩=>?_);exact h2 pins s1 σ1 H1 _ _ Q I1 rr q1
def gTup(K:K5)(n:Nat)(t:TGs):TG:=λv σ H Q=>∃a xs,v=.ref a/\SqT K H a xs/\xs.length=n/\t xs σ H Q
theorem zy1{k:Nat}{t:TGs}{n:Nat}(hc:X.calm=true)(h:PGs X es t)
 (hn:(K2c es X.env).length=n:=by rfl) (hst:(K2c es X.env).findIdx? (·.1)=none:=by rfl):PG X (.Tuple es k pos) (gTup X.K n t):=by
 intro pins s σ H v u Q I r hw;obtain⟨a,xs,e1,hq,hl,hw⟩:=hw;subst e1;cases r;obtain⟨its,rv,ht,hz⟩:=I.tuple hq;refine assign_Tuple_tuple (I.ok.hd hc) ht (by simp[hn,<- hl,rv.length]) hst λh' hx=>?_;have I1:Inv X pins σ H { s with heap:=h' }:=I.kept (t':=s.toks) λb o e=>hx b o (K0x (K0f e)) e;exact h pins _ σ H xs _ Q I1 (by simpa using rv) hw
def gSub(to ti:TE)(t:TSet):TG:=λv σ H Q=>to σ H λo H1=>ti σ H1 λi H2=>t o i v H2 λH3=>Q σ H3
theorem zv9{o i:Expr}{to ti:TE}{t:TSet}(ho:PE X o to)(hi:PE X i ti)(hs:PSet X t)
 (ha:∀v,assign (.Subscript o i pos) X.env v=(do
  let ov <- K3t [v] (eval o X.env);let iv <- K3t [v,ov] (eval i X.env)
  K5a pos
  K3t [v,ov,iv] (Z38 ov iv v)
  release [v,ov,iv] []):=by intro _;rfl):PG X (.Subscript o i pos) (gSub to ti t):=by
 intro pins s σ H v u Q I r h;rw[ha];refine K0 (K1h (thn (ho pins s σ H _ I h) λov s1 ⟨x,H1,I1,r1,q1⟩=>?_));refine K0 (K1h (thn (hi pins s1 σ H1 _ I1 q1) λiv s2 ⟨y,H2,I2,r2,q2⟩=>?_));refine K0 (K3o (K0 (K1h (thn (hs pins s2 σ H2 x y v ov iv u _ I2 r1 r2 r q2) λ_ s3 ⟨H3,I3,q3⟩=>?_))));exact wpAny_release ⟨σ,H3,I3,q3⟩
def tAsg(te:TE)(g:TG):TS:=λD σ H=>te σ H λx H1=>g x σ H1 D.nx
theorem zU7{g:TG}(he:PE X e te)(hg:PG X tg g)(hs:swapsWithSole [tg] e pos.line X.env=pure false:=by rfl)(hw:swappedStores [tg] e X.env=pure none:=by rfl)
 (h1:(K2c [tg] X.env).map (·.2)=[assign tg X.env]:=by rfl):PS X (.Assign [tg] e pos) (tAsg te g):=by
 intro pins s σ H D I h;refine wpAny_Assign_stores (thn (he pins s σ H _ I h) λv s1 ⟨x,H1,I1,r1,q1⟩=>?_) hs hw;rw[h1];exact thn (hg pins s1 σ H1 x v _ I1 r1 q1) λ_ s2 q=>q
theorem zM5(hN:X.N.Nodup)(hi:X.N[i]?=some x)(hx:Loc X.env.scope x)(he:PE X e te)(hs:K2n e (some (.Name x pos')) pos.line X.env=pure false:=by rfl)(hf:X.fn x=true\/X.env.scope.names.lookup x=some .local:=by first|exact .inl rfl|exact .inr rfl|assumption):
 PS X (.Assign [.Name x pos'] e pos) (tAsg te (zM9 i)):=by
 intro pins s σ H D I h;refine wpAny_Assign_Name (thn (he pins s σ H _ I h) λv s1 ⟨y,H1,I1,r1,q1⟩=>?_) hs;exact z5n I1 hN hi hx r1 (λs2 I2=>⟨_,H1,I2,q1⟩) hf
def tAug(i:Nat)(te:TE)(ti:TIp):TS:=λD σ H=>∃x,σ[i]?=some (some x)/\te σ H λy H1=>ti x y H1 λz H2=>D.nx (σ.set i (some z)) H2
theorem zQ2{op:Z27}{ti:TIp}{pos':Pos}(hN:X.N.Nodup)(hi:X.N[i]?=some x)(hx:Loc X.env.scope x)(he:PE X e te)(ho:PIp X op ti)(hf:X.fn x=true\/X.env.scope.names.lookup x=some .local:=by first|exact .inl rfl|exact .inr rfl|assumption):
 PS X (.AugAssign (.Name x pos') op e pos) (tAug i te ti):=by
 intro pins s σ H D I h;obtain⟨v,e1,h⟩:=h;obtain⟨m,hn,hl⟩:=I.loc;have vis:Vis X.env.scope x:=by rcases hx with k|k;exact .inl k;exact .inr (.inl k)
 obtain⟨u,r,l⟩:=hl i x v hi e1 vis;refine wpAny_AugAssign_Name ?_;have go:wpAny .(6) X.A (eval e X.env) (λw s₂=>wpAny .(6) X.A (inplaceOp op u w) (λr s₃=>wpAny .(6) X.A (storeName X.env x r) (λ_=>SP X pins D .next) X.xe s₃) X.xe s₂) X.xe s:=by
  refine thn (he pins s σ H _ I h) λw s1 ⟨y,H1,I1,r1,q1⟩=>?_;refine thn (ho pins s1 σ H1 v y u w _ I1 r r1 q1) λz s2 ⟨zv,H2,I2,r2,q2⟩=>?_;exact z5n I2 hN hi hx r2 (λs3 I3=>⟨_,H2,I3,q2⟩) hf
 rcases l with ⟨hk,hm⟩|⟨hk,c,hc,hcell⟩
 ·exact K9p I.ok.kind hk hn hm go
 ·rcases hk with hk|hk
  ·exact Z1f I.ok.kind hk hc hcell go
  ·rcases hx with k|k
   ·have:X.env.scope.names.lookup x=some .free:=hk;rw[k]at this;cases this
   ·have:X.env.scope.names.lookup x=some .free:=hk;rw[k]at this;cases this
def ipI(f:Int->Int->Int):TIp:=λx y H Q=>∃i j,x=.int i/\y=.int j/\Q (.int (f i j)) H
theorem zZ9:PIp X .Add (ipI λi j=>i+j):=by
 intro pins s σ H x y v u Q I r1 r2 h;obtain⟨i,j,e1,e2,q⟩:=h;subst e1;subst e2;obtain⟨t,rfl⟩:=r1;obtain⟨t',rfl⟩:=r2;exact iadd_int ⟨.int _,H,I.tok _,⟨_,rfl⟩,q⟩
def zP4(c:TT)(tb:TS):TS:=λD σ H=>∃W:Nat->St->Hp->Prop,(∃m,W m σ H)/\∀m σ H,W m σ H ->
 c σ H λb H1=>if b=true then ∃N:St->Hp->Prop,(∀σ' H',N σ' H'->∃m',m'<m/\W m' σ' H')/\tb { D with nx:=N,ct:=N,bk:=D.nx } σ H1 else D.nx σ H1
theorem zm7{tc:TT}(hp:Z2s .(6) X.A X.env X.xe)(hc:PT X c tc)(hb:PSs X body tb):PS X (.While c body [] pos) (zP4 tc tb):=by
 intro pins s σ H D I h;obtain⟨W,⟨m0,w0⟩,turn⟩:=h;refine wpAny_While (codeAny_whileLoop (λn s'=>∃σ' H',Inv X pins σ' H' s'/\W n σ' H') ?_ m0 ⟨σ,H,I,w0⟩);rintro n s1 ⟨σ1,H1,I1,w1⟩;refine K3x hp (thn (hc pins s1 σ1 H1 _ I1 (turn n σ1 H1 w1)) λb s2 ⟨H2,I2,q2⟩=>?_);cases b with
 | true=>
  obtain⟨N,hN,q2⟩:=q2;rw[if_pos rfl];refine K3x hp (thn (hb pins s2 σ1 H2 _ I2 q2) λf s3 q3=>?_);cases f with
  | next=>
   obtain⟨σ3,H3,I3,n3⟩:=q3;obtain⟨m',hm,w3⟩:=hN σ3 H3 n3;exact⟨m',hm,σ3,H3,I3,w3⟩
  | cont=>
   obtain⟨σ3,H3,I3,n3⟩:=q3;obtain⟨m',hm,w3⟩:=hN σ3 H3 n3;exact⟨m',hm,σ3,H3,I3,w3⟩
  | brk=>exact q3
  | ret v=>exact q3
 | false=>
  rw[if_neg K0m];exact K97 ⟨σ1,H2,I2,q2⟩
structure It where
 go:Nat->Hp->Prop
 yld:Nat->Hp->V->Hp->Prop
 stop:Nat->Hp->Prop
def FpOk(X:Cx)(pins:List .(u))(H:Hp)(b:Addr):Prop:=
 H b=none/\b≠X.env.locals/\b∉X.fs/\(b∈X.ex\/X.s₀.heap.objs.size<=b)/\(∀x c,X.env.cells.lookup x=some c->c≠b)/\∀p∈X.pn++pins,p.1≠b
theorem Inv.fpOk(I:Inv X pins σ H s)(hb:s.heap.objs.size<=b)(hn:H' b=none):FpOk X pins H' b:=by
 refine⟨hn,K30 (K10 I.lt hb),I.nofs hb,.inr (K0h I.sz hb),λx c e z=>?_,λp hp z=>?_⟩
 ·obtain⟨v,q⟩:=I.cell x c e;exact absurd (K10 q.lt (by rw[z];exact hb)) (K2x _)
 ·exact absurd (K10 (K0f (I.pin p hp).1) (by rw[z];exact hb)) (K2x _)
structure Turn(P:K1i)(w:World)(K:K5)(tg:Expr)(J:It)(fp:List Addr)(it:Addr)(tn:Nat->Heap->Prop):Prop where
 mem:it∈fp
 obj:∀i h,tn i h->∀b∈fp,∃o,h.get? b=some o/\∀v,o.data≠.cell v
 keep:∀i h h',tn i h->(∀b∈fp,∀o,h.get? b=some o->h'.get? b=some o)->tn i h'
 item:∀(X:Cx),X.prog=P->X.w=w->X.K=K->X.calm=true->∀(i:Nat) (pins:List .(u)) (s:Shared) (σ:St) (H:Hp) (E:Value->Shared->Prop),Inv X pins σ H s->(∀b∈fp,FpOk X pins H b)->tn i s.heap->J.go i H ->
  wpAny .(x) X.A (pyNext (.ref it)) (λr s1=>∃u,r=some u /\
   wpAny .(x) X.A (K5s tg (.ref it) u) (λ_ s2=>∃x H',Inv X pins σ H' s2/\RelV x u/\J.yld i H x H'/\tn (i+1) s2.heap/\∀b∈fp,H' b=none) E s1) E s
 done:∀(X:Cx),X.prog=P->X.w=w->X.K=K->X.calm=true->∀(i:Nat) (pins:List .(u)) (s:Shared) (σ:St) (H:Hp) (E:Value->Shared->Prop),Inv X pins σ H s->(∀b∈fp,FpOk X pins H b)->tn i s.heap->J.stop i H ->
  wpAny .(x) X.A (pyNext (.ref it)) (λr s1=>r=none/\Inv X pins σ H s1) E s
 self:∀(A:Around) (i:Nat) (s:Shared) (Q:Value->Shared->Prop) (E:Value->Shared->Prop),tn i s.heap->Q (.ref it) s->wpAny .(x) A (pyIter (.ref it)) Q E s
abbrev TI:=St->Hp->(It->Hp->Prop)->Prop
def PIE(X:Cx)(pins:List .(u))(σ:St)(tg:Expr)(R:It->Hp->Prop)(itv:Value)(s2:Shared):Prop:=
 ∃(it:Addr) (fp:List Addr) (tn:Nat->Heap->Prop) (J:It) (H':Hp),itv=.ref it/\Inv X pins σ H' s2/\Turn X.prog X.w X.K tg J fp it tn/\tn 0 s2.heap/\(∀b∈fp,FpOk X pins H' b)/\R J H'
def PI(X:Cx)(tg iter:Expr)(wi:TI):Prop:=
 ∀(pins:List .(u)) (s:Shared) (σ:St) (H:Hp) (R:It->Hp->Prop),Inv X pins σ H s->wi σ H R ->
  wpAny .(6) X.A (eval iter X.env) (λv s1=>wpAny .(6) X.A (pyIter v) (PIE X pins σ tg R) X.xe s1) X.xe s
theorem z9S{M:Model}{A:Around}{E:Value->Shared->Prop}{tg:Expr}{u:Value}{o:Obj}{n:String}{vs:Array Value}{Q:Unit->Shared->Prop}(ho:s.heap.get? it=some o)(hc:o.cls=.type n)(hd:o.data=.fields vs)
 (hn:["enumerate","zip","dict_itemiterator","dict_reverseitemiterator","odict_iterator","itertools.zip_longest","itertools.pairwise"].contains n=false) (hQ:Q () s):wpAny M A (K5s tg (.ref it) u) Q E s:=by
 unfold K5s;cases tg<;>first
  | exact K4 hQ
  | (cases u<;>first
      | exact K4 hQ
      | (refine K0 (wpAny_load ho ?_)
         rw[hc,hd];show wpAny M A (if (["enumerate","zip","dict_itemiterator","dict_reverseitemiterator","odict_iterator","itertools.zip_longest","itertools.pairwise"].contains n&&vs[0]?==some (rawInt _))=true then _ else _) Q E s;rw[if_neg (by intro h;rw[hn,Bool.false_and]at h;cases h)];exact K4 hQ))
def Itl(K:K5)(a:Addr):It:=
 ⟨λi H=>∃xs x,SqL K H a xs/\xs[i]?=some x,λi H x H'=>H'=H/\∀xs,SqL K H a xs->xs[i]?=some x,λi H=>∃xs,SqL K H a xs/\xs.length<=i⟩
def Itt(K:K5)(a:Addr):It:=
 ⟨λi H=>∃xs x,SqT K H a xs/\xs[i]?=some x,λi H x H'=>H'=H/\∀xs,SqT K H a xs->xs[i]?=some x,λi H=>∃xs,SqT K H a xs/\xs.length<=i⟩
def Itr(lo:Int)(n:Nat):It:=⟨λi _=>i<n,λi H x H'=>H'=H/\x=.int (lo+i),λi _=>n<=i⟩
theorem zk3(a it:Addr):Turn P w K tg (Itl K a) [it] it (λi h=>h.IsListIter it a i) where
 mem:=by simp
 obj:=λi h st b hb=>by
  have e:b=it:=by simpa using hb
  subst e;obtain⟨o,e,c,d⟩:=st;exact⟨o,e,λv z=>by rw[d]at z;cases z⟩
 keep:=λi h h' st k=>st.at λo e=>k it .(e) o e
 item:=by
  intro X hP hw hK hc i pins s σ H E I hf st hg;subst hP hw hK;obtain⟨xs,x,hq,hx⟩:=hg;obtain⟨its,rv,p,hz⟩:=I.list hq;obtain⟨u,hu,ru⟩:=rv.get hx;obtain⟨f0,f1,f2,f3,f4,f5⟩:=hf it .(e);refine K90 st p.isList (x:=u) (by simpa using hu) λh' st' sb=>?_;have I1:Inv X pins σ H { s with heap:=h' }:=I.turned (t':=s.toks) (λb o hb e=>(sb.2 b hb).trans e) f0 f1 f3 f4 f5;obtain⟨o,e,c,d⟩:=id st';exact⟨u,rfl,z9S (s:={ s with heap:=h' }) e c d .(1) ⟨x,H,I1,ru,⟨rfl,λys hy=>by rw[I.list_inj hy hq];exact hx⟩,st',λb hb=>(hf b hb).1⟩⟩
 done:=by
  intro X hP hw hK hc i pins s σ H E I hf st hg;subst hP hw hK;obtain⟨xs,hq,hx⟩:=hg;obtain⟨its,rv,p,hz⟩:=I.list hq;obtain⟨f0,f1,f2,f3,f4,f5⟩:=hf it .(e);have hl:=rv.length;exact K9e (I.ok.hd hc) st p.isList (by simp;omega) λh' eb=>⟨rfl,I.turned (t':=s.toks) (λb o hb e=>eb b o hb e) f0 f1 f3 f4 f5⟩
 self:=λ_ _ _ _ _ st h=>wpAny_pyIter_listiter st h
theorem z91(a it:Addr):Turn P w K tg (Itt K a) [it] it (λi h=>h.IsTupleIter it a i) where
 mem:=by simp
 obj:=λi h st b hb=>by
  have e:b=it:=by simpa using hb
  subst e;obtain⟨o,e,c,d⟩:=st;exact⟨o,e,λv z=>by rw[d]at z;cases z⟩
 keep:=λi h h' st k=>st.at λo e=>k it .(e) o e
 item:=by
  intro X hP hw hK hc i pins s σ H E I hf st hg;subst hP hw hK;obtain⟨xs,x,hq,hx⟩:=hg;obtain⟨its,rv,p,hz⟩:=I.tuple hq;obtain⟨u,hu,ru⟩:=rv.get hx;obtain⟨f0,f1,f2,f3,f4,f5⟩:=hf it .(e);refine wpAny_pyNext_tuple_item st (show s.heap.IsTuple a its.toArray from p) (x:=u) (by simpa using hu) λh' st' sb=>?_;have I1:Inv X pins σ H { s with heap:=h' }:=I.turned (t':=s.toks) (λb o hb e=>(sb.2 b hb).trans e) f0 f1 f3 f4 f5;obtain⟨o,e,c,d⟩:=id st';exact⟨u,rfl,z9S (s:={ s with heap:=h' }) e c d .(1) ⟨x,H,I1,ru,⟨rfl,λys hy=>by rw[I.tuple_inj hy hq];exact hx⟩,st',λb hb=>(hf b hb).1⟩⟩
 done:=by
  intro X hP hw hK hc i pins s σ H E I hf st hg;subst hP hw hK;obtain⟨xs,hq,hx⟩:=hg;obtain⟨its,rv,p,hz⟩:=I.tuple hq;obtain⟨f0,f1,f2,f3,f4,f5⟩:=hf it .(e);have hl:=rv.length;exact wpAny_pyNext_tuple_end (I.ok.hd hc) st (show s.heap.IsTuple a its.toArray from p) (by simp;omega) λh' eb=>⟨rfl,I.turned (t':=s.toks) (λb o hb e=>eb b o hb e) f0 f1 f3 f4 f5⟩
 self:=λ_ _ _ _ _ st h=>wpAny_pyIter_tupleiter st h
theorem z90(it:Addr)(lo:Int)(n:Nat):Turn P w K tg (Itr lo n) [it] it (λi h=>IsRangeIter h it (lo+(i:Nat) * 1) ((n:Int) - (i:Nat)) 1) where
 mem:=by simp
 obj:=λi h st b hb=>by
  have e:b=it:=by simpa using hb
  subst e;exact⟨_,st,λv z=>by
   have z':Data.fields _=Data.cell v:=z;cases z'⟩
 keep:=λi h h' st k=>k it .(e) _ st
 item:=by
  intro X hP hw hK hc i pins s σ H E I hf st hg;subst hP hw hK;obtain⟨f0,f1,f2,f3,f4,f5⟩:=hf it .(e);have W:=Walks.range (prog:=X.prog) (w:=X.w) (I.ok.hd hc) it lo 1 n;refine W.item i s _ _ hg st λv h' tk hv st' kk=>?_;obtain⟨t,rfl⟩:=hv;have I1:Inv X pins σ H { s with heap:=h',toks:=tk }:=I.turned (λb o hb e=>kk b o (by simpa using hb) e) f0 f1 f3 f4 f5;refine⟨_,rfl,z9S (s:={ s with heap:=h',toks:=tk }) (n:="range_iterator") st' rfl rfl .(1) ⟨.int (lo+i),H,I1,⟨t,?_⟩,⟨rfl,rfl⟩,st',λb hb=>(hf b hb).1⟩⟩;rw[Int.mul_one]
 done:=by
  intro X hP hw hK hc i pins s σ H E I hf st hg;subst hP hw hK;obtain⟨f0,f1,f2,f3,f4,f5⟩:=hf it .(e);exact wpAny_pyNext_range_end (I.ok.hd hc) st (by have:n<=i:=hg;omega) λh' eb=>⟨rfl,I.turned (t':=s.toks) (λb o hb e=>eb b o hb e) f0 f1 f3 f4 f5⟩
 self:=λ_ _ _ _ _ st h=>wpAny_pyIter_rangeiter st h
def Z0M(K:K5)(tl:TE):TI:=λσ H R=>tl σ H λx H1=>∃a,x=.ref a/\(∃xs,SqL K H1 a xs)/\R (Itl K a) H1
def iTup(K:K5)(tl:TE):TI:=λσ H R=>tl σ H λx H1=>∃a,x=.ref a/\(∃xs,SqT K H1 a xs)/\R (Itt K a) H1
theorem zz3{tl:TE}(hl:PE X l tl):PI X tg l (Z0M X.K tl):=by
 intro pins s σ H R I h;refine thn (hl pins s σ H _ I h) λv s1 ⟨x,H1,I1,r1,q1⟩=>?_;obtain⟨a,e,⟨xs,hq⟩,q⟩:=q1;subst e;cases r1;obtain⟨its,rv,p,hz⟩:=I1.list hq;refine K4x p.isList ?_;refine⟨.(q),[.(q)],_,_,H1,rfl,I1.kept (t':=s1.toks) λb o e=>K9 _ e,zk3 a _,⟨_,K0j _ rfl,rfl,rfl⟩,λb hb=>?_,q⟩;have e:b=s1.heap.objs.size:=by simpa using hb
 subst e;exact I1.fpOk (K01 _) (I1.hok.fresh (K01 _))
theorem zU5{tl:TE}(hl:PE X l tl):PI X tg l (iTup X.K tl):=by
 intro pins s σ H R I h;refine thn (hl pins s σ H _ I h) λv s1 ⟨x,H1,I1,r1,q1⟩=>?_;obtain⟨a,e,⟨xs,hq⟩,q⟩:=q1;subst e;cases r1;obtain⟨its,rv,p,hz⟩:=I1.tuple hq;refine K4o (show s1.heap.IsTuple a its.toArray from p) ?_;refine⟨.(q),[.(q)],_,_,H1,rfl,I1.kept (t':=s1.toks) λb o e=>K9 _ e,z91 a _,⟨_,K0j _ rfl,rfl,rfl⟩,λb hb=>?_,q⟩;have e:b=s1.heap.objs.size:=by simpa using hb
 subst e;exact I1.fpOk (K01 _) (I1.hok.fresh (K01 _))
theorem z8Q{R:It->Hp->Prop}{E:Value->Shared->Prop}{hi:Int}{t u v:Tok}{tk:Nat}(I:Inv X pins σ H s)(h1:-(2 ^ 62)<=lo)(h2:lo<2 ^ 62)(h3:-(2 ^ 62)<=hi)(h4:hi<2 ^ 62)
 (q:R (Itr lo (hi - lo).toNat) H):wpAny .(6) X.A (pyIter (.ref .(3))) (PIE X pins σ tg R) E { s with heap:=s.heap.push { cls:=.type "range",data:=.fields #[.int lo t,.int hi u,.int 1 v] },toks:=tk }:=by
 refine wpAny_pyIter_range (IsRange.new ..) (small_one h1 h2 h3 h4) ?_;have I1:Inv X pins σ H { s with heap:=s.heap.push { cls:=.type "range",data:=.fields #[.int lo t,.int hi u,.int 1 v] },toks:=tk }:=I.kept λb o e=>K9 _ e;refine⟨(s.heap.push { cls:=.type "range",data:=.fields #[.int lo t,.int hi u,.int 1 v] }).objs.size,[(s.heap.push { cls:=.type "range",data:=.fields #[.int lo t,.int hi u,.int 1 v] }).objs.size],_,_,H,rfl,
  I1.kept (t':=tk) λb o e=>K9 _ e,z90 _ lo (hi - lo).toNat,?_,λb hb=>?_,q⟩
 ·have e1:lo+((0:Nat):Int) * 1=lo:=by simp
  have e2:(((hi - lo).toNat:Nat):Int) - ((0:Nat):Int)=K8e lo hi 1:=by rw[rangeSize_one];split<;>omega
  show IsRangeIter _ _ (lo+((0:Nat):Int) * 1) ((((hi - lo).toNat:Nat):Int) - ((0:Nat):Int)) 1;rw[e1,e2];exact K0j _ rfl
 ·have e:b=(s.heap.push { cls:=.type "range",data:=.fields #[.int lo t,.int hi u,.int 1 v] }).objs.size:=by simpa using hb
  subst e;exact I1.fpOk (K01 _) (I1.hok.fresh (K01 _))
def Z0P(ta:TA):TI:=λσ H R=>ta σ H λvs H1=>∃j:Int,vs=[.int j]/\-(2 ^ 62)<=j/\j<2 ^ 62/\R (Itr 0 j.toNat) H1
def Z0r(ta:TA):TI:=λσ H R=>ta σ H λvs H1=>∃i j:Int,vs=[.int i,.int j]/\(-(2 ^ 62)<=i/\i<2 ^ 62/\-(2 ^ 62)<=j/\j<2 ^ 62)/\R (Itr i (j - i).toNat) H1
theorem zc0{a:Expr}{ta:TA}(hg:Gl X "range")(hm:X.mg "range" = none)(ha:PA X [a] ta)(hs:K0k [a] X.env=[(false,eval a X.env)]:=by rfl):PI X tg (.Call (.Name "range" p) [a] [] pos) (Z0P ta):=by
 intro pins s σ H R I h;refine Call_ (z3W I hg hm boot_range (K2w (thn (ha pos pins s σ H _ I h) λus s1 ⟨vs,H1,I1,r1,q1⟩=>?_) hs rfl));obtain⟨j,e,q1,q2,q⟩:=q1;subst e;cases r1 with
 | cons r rr=>
  cases rr;obtain⟨t,rfl⟩:=r;exact call_range_1 (z8Q I1 .(0) .(0) q1 q2 (by simpa using q))
theorem ze6{a b:Expr}{ta:TA}{p pos:Pos}(hg:Gl X "range")(hm:X.mg "range" = none)(ha:PA X [a,b] ta)(hs:K0k [a,b] X.env=[(false,eval a X.env),(false,eval b X.env)]:=by rfl)(hs2:K0k [b] X.env=[(false,eval b X.env)]:=by rfl):
 PI X tg (.Call (.Name "range" p) [a,b] [] pos) (Z0r ta):=by
 intro pins s σ H R I h;refine Call_ (z3W I hg hm boot_range (K2w (thn (ha pos pins s σ H _ I h) λus s1 ⟨vs,H1,I1,r1,q1⟩=>?_) (by rw[hs,hs2]) (by rw[hs2];rfl)));obtain⟨i,j,e,⟨q1,q2,q3,q4⟩,q⟩:=q1;subst e;cases r1 with
 | cons r rr=>
  cases rr with
  | cons r' rr=>
   cases rr;obtain⟨t,rfl⟩:=r;obtain⟨t',rfl⟩:=r';exact call_range_2 (z8Q I1 q1 q2 q3 q4 q)
def tFor(wi:TI)(g:TG)(tb:TS):TS:=λD σ H=>wi σ H λJ H1=>∃W:Nat->Nat->St->Hp->Prop,(∃m,W 0 m σ H1)/\∀i m σ H,W i m σ H ->
 (J.stop i H/\D.nx σ H)\/(J.go i H/\∃N:St->Hp->Prop,(∀σ' H',N σ' H'->∃m',m'<m/\W (i+1) m' σ' H')/\∀x H',J.yld i H x H'->g x σ H' λσ2 H2=>tb { D with nx:=N,ct:=N,bk:=D.nx } σ2 H2)
def z6h(fp:List Addr)(h:Heap):List .(u):=fp.filterMap λb=>(h.get? b).map λo=>(b,o)
theorem z2C{o:Obj}(hb:b∈fp)(e:h.get? b=some o):(b,o)∈z6h fp h:=List.mem_filterMap.mpr ⟨b,hb,by rw[e];rfl⟩
theorem zi2{p:Addr×Obj}(hp:p∈z6h fp h):p.1∈fp/\h.get? p.1=some p.2:=by
 obtain⟨b,hb,e⟩:=List.mem_filterMap.mp hp;cases q:h.get? b with
 | none=>rw[q]at e;cases e
 | some o=>
  rw[q]at e;have e':(b,o)=p:=K0y e;subst e';exact⟨hb,q⟩
theorem Inv.pinned(I:Inv X pins σ H s)(hf:∀b∈fp,FpOk X pins H b)(ho:∀b∈fp,∃o,s.heap.get? b=some o/\∀v,o.data≠.cell v):Inv X (pins++z6h fp s.heap) σ H s:=
 I.pins_of λp hp=>(K00.mp hp).elim (λz=>I.pin p (K0r _ z)) λz=>by
  obtain⟨hb,e⟩:=zi2 z;obtain⟨f0,f1,f2,_⟩:=hf p.1 hb;obtain⟨o,e',d⟩:=ho p.1 hb;rw[e]at e';cases e';exact⟨e,f0,f1,f2,d⟩
theorem Inv.unpinned{pl:List .(u)}(I:Inv X (pins++pl) σ H s):Inv X pins σ H s:=I.pins_of λp hp=>I.pin p (K0r _ (K09 _ hp))
theorem zM7{iter:Expr}{wi:TI}{g:TG}{pos:Pos}(hp:Z2s .(6) X.A X.env X.xe)(hc:X.calm=true)(hi:PI X tg iter wi)(hg:PG X tg g)(hb:PSs X body tb)
 (hs:∀x,K1b iter X.env x=pure x:=by intro _;rfl):PS X (.For tg iter body [] pos) (tFor wi g tb):=by
 intro pins s σ H D I h;refine wpAny_For (thn (hi pins s σ H _ I h) λv s1 h1=>thn h1 λitv s2 h2=>?_) hs;obtain⟨it,fp,tn,J,H2,e,I2,T,st2,f2,W,⟨m0,w0⟩,turn⟩:=h2;subst e;have stat:∀{H':Hp},(∀b∈fp,H' b=none)->∀b∈fp,FpOk X pins H' b:=λhn b hb=>⟨hn b hb,(f2 b hb).2⟩;refine codeAny_forLoop_any (λn s'=>∃i σ' H',Inv X pins σ' H' s'/\tn i s'.heap/\(∀b∈fp,H' b=none)/\W i n σ' H') ?_ m0 ⟨0,σ,H2,I2,st2,λb hb=>(f2 b hb).1,w0⟩;rintro n s3 ⟨i,σ3,H3,I3,st3,fr3,w3⟩;rcases turn i n σ3 H3 w3 with ⟨stop,qn⟩|⟨go,N,hN,step⟩
 ·refine K3x hp (thn (T.done X rfl rfl rfl hc i pins s3 σ3 H3 X.xe I3 (stat fr3) st3 stop) λr s4 ⟨hr,I4⟩=>?_);subst hr;exact K97 ⟨σ3,H3,I4,qn⟩
 ·refine K3x hp (thn (T.item X rfl rfl rfl hc i pins s3 σ3 H3 X.xe I3 (stat fr3) st3 go) λr s4 ⟨u,hr,h4⟩=>?_);subst hr;refine K3x hp (thn h4 λ_ s5 ⟨x,H5,I5,r5,y5,st5,fr5⟩=>?_);have I5':=I5.pinned (stat fr5) (T.obj _ _ st5);refine K3x hp (thn (hg _ s5 σ3 H5 x u _ I5' r5 (step x H5 y5)) λ_ s6 ⟨σ6,H6,I6,q6⟩=>?_);refine K3x hp (thn (hb _ s6 σ6 H6 _ I6 q6) λf s7 q7=>?_);have again:∀{σ7:St} {H7:Hp},Inv X (pins++z6h fp s5.heap) σ7 H7 s7->N σ7 H7->∃m,m<n/\∃i σ' H',Inv X pins σ' H' s7/\tn i s7.heap/\(∀b∈fp,H' b=none)/\W i m σ' H':=λ{σ7 H7} I7 n7=>by
   obtain⟨m',hm,w7⟩:=hN σ7 H7 n7;refine⟨m',hm,i+1,σ7,H7,I7.unpinned,T.keep _ _ _ st5 λb hb o e=>(I7.pin (b,o) (K0r _ (K0r _ (z2C hb e)))).1,λb hb=>?_,w7⟩;obtain⟨o,e,d⟩:=T.obj _ _ st5 b hb;exact(I7.pin (b,o) (K0r _ (K0r _ (z2C hb e)))).2.1
  cases f with
  | next=>obtain⟨σ7,H7,I7,n7⟩:=q7;exact again I7 n7
  | cont=>obtain⟨σ7,H7,I7,n7⟩:=q7;exact again I7 n7
  | brk=>obtain⟨σ7,H7,I7,q7⟩:=q7;exact⟨σ7,H7,I7.unpinned,q7⟩
  | ret v=>obtain⟨x7,σ7,H7,I7,r7,q7⟩:=q7;exact⟨x7,σ7,H7,I7.unpinned,r7,q7⟩
theorem z0X{lo:Int}{n:Nat}{g:TG}{tb:TS}{D:Ends}(Pv:Nat->St->Hp->Prop)(h0:Pv 0 σ H)
 (hs:∀i σ H,i<n->Pv i σ H->g (.int (lo+i)) σ H λσ2 H2=>tb { D with nx:=Pv (i+1),ct:=Pv (i+1),bk:=D.nx } σ2 H2) (hd:∀σ H,Pv n σ H->D.nx σ H) :
 ∃W:Nat->Nat->St->Hp->Prop,(∃m,W 0 m σ H)/\∀i m σ H,W i m σ H ->
  ((Itr lo n).stop i H/\D.nx σ H)\/((Itr lo n).go i H/\∃N:St->Hp->Prop,(∀σ' H',N σ' H'->∃m',m'<m/\W (i+1) m' σ' H')/\∀x H',(Itr lo n).yld i H x H'->g x σ H' λσ2 H2=>tb { D with nx:=N,ct:=N,bk:=D.nx } σ2 H2):=by
 refine⟨λi m σ H=>m=n - i/\i<=n/\Pv i σ H,⟨n,by simp,K4j _,h0⟩,?_⟩;rintro i m σ H ⟨rfl,hi,p⟩;by_cases hlt:i<n
 ·refine .inr ⟨hlt,Pv (i+1),λσ' H' p'=>⟨n - (i+1),by omega,rfl,hlt,p'⟩,λx H' y=>?_⟩;obtain⟨e,y⟩:=y;subst e y;exact hs i σ _ hlt p
 ·have e:i=n:=by omega
  subst e;exact .inl ⟨K01 _,hd σ H p⟩
abbrev R2:=V->V->Hp->VK->Prop
def OpR(X:Cx)(f:Value->Value->Sem Value)(r:R2):Prop:=
 ∀(pins:List .(u)) (s:Shared) (σ:St) (H:Hp) (x y:V) (v u:Value) (Q:VK),Inv X pins σ H s->RelV x v->RelV y u->r x y H Q ->
  wpAny .(6) X.A (f v u) (EP X pins σ Q) X.xe s
def UnR(X:Cx)(f:Value->Sem Value)(r:V->Hp->VK->Prop):Prop:=
 ∀(pins:List .(u)) (s:Shared) (σ:St) (H:Hp) (x:V) (v:Value) (Q:VK),Inv X pins σ H s->RelV x v->r x H Q ->
  wpAny .(6) X.A (f v) (EP X pins σ Q) X.xe s
def z43(X:Cx)(f:Value)(r:List V->Hp->VK->Prop):Prop:=
 ∀(pins:List .(u)) (s:Shared) (σ:St) (H:Hp) (xs:List V) (us:List Value) (Q:VK),Inv X pins σ H s->Vals xs us->r xs H Q ->
  wpAny .(6) X.A (call f us) (EP X pins σ Q) X.xe s
def TruR(X:Cx)(r:V->Hp->(Bool->Hp->Prop)->Prop):Prop:=
 ∀(pins:List .(u)) (s:Shared) (σ:St) (H:Hp) (x:V) (v:Value) (Q:Bool->Hp->Prop),Inv X pins σ H s->RelV x v->r x H Q ->
  wpAny .(6) X.A (truthy v) (TP X pins σ Q) X.xe s
def tOp(r:R2)(ta tb:TE):TE:=λσ H Q=>ta σ H λx H1=>tb σ H1 λy H2=>r x y H2 Q
def tUn(r:V->Hp->VK->Prop)(ta:TE):TE:=λσ H Q=>ta σ H λx H1=>r x H1 Q
def rI(C:Int->Int->Prop)(g:Int->Int->V):R2:=λx y H Q=>∃i j,x=.int i/\y=.int j/\C i j/\Q (g i j) H
def rI0(g:Int->Int->V):R2:=λx y H Q=>∃i j,x=.int i/\y=.int j/\Q (g i j) H
def rU(g:Int->V):V->Hp->VK->Prop:=λx H Q=>∃i,x=.int i/\Q (g i) H
section
variable{a b:Expr}{tb tc:TE}
theorem binT(ha:PE X a ta)(hb:PE X b tb){R:V->V->Hp->Prop}(I:Inv X pins σ H s)
 (h:ta σ H λx H1=>tb σ H1 λy H2=>R x y H2) {Q:Value->Shared->Prop} {f:Value->Value->Sem Value}
 (hf:∀v u s2 x y H2,Inv X pins σ H2 s2->RelV x v->RelV y u->R x y H2->wpAny .(6) X.A (f v u) Q X.xe s2) :
 wpAny .(6) X.A (eval a X.env) (λv s₁=>wpAny .(6) X.A (eval b X.env) (λu s₂=>wpAny .(6) X.A (f v u) Q X.xe s₂) X.xe s₁) X.xe s:=by
 refine thn (ha pins s σ H _ I h) λv s1 ⟨x,H1,I1,r1,q1⟩=>?_;refine thn (hb pins s1 σ H1 _ I1 q1) λu s2 ⟨y,H2,I2,r2,q2⟩=>?_;exact hf v u s2 x y H2 I2 r1 r2 q2
theorem Z15{op:Z27}{r:R2}(ho:OpR X (K2r op) r)(ha:PE X a ta)(hb:PE X b tb):PE X (.BinOp a op b pos) (tOp r ta tb):=by
 intro pins s σ H Q I h;exact wpAny_BinOp (binT ha hb I h λv u s2 x y H2 I2 rx ry q=>ho pins s2 σ H2 x y v u Q I2 rx ry q)
theorem Z0c{op:UnaryOp}{r:V->Hp->VK->Prop}(ho:UnR X (unaryOp op) r)(ha:PE X a ta):PE X (.UnaryOp op a pos) (tUn r ta):=by
 intro pins s σ H Q I h;exact UnaryOp_ (thn (ha pins s σ H _ I h) λv s1 ⟨x,H1,I1,r1,q1⟩=>ho pins s1 σ H1 x v Q I1 r1 q1)
theorem opI{f:Value->Value->Sem Value}{C:Int->Int->Prop}{g:Int->Int->Int}
 (rule:∀(i j:Int) (t u:Tok) (s:Shared) (Q:Value->Shared->Prop) (E:Value->Shared->Prop),C i j->Q (.int (g i j) s.toks) { s with toks:=s.toks+1 }->wpAny .(6) X.A (f (.int i t) (.int j u)) Q E s) :
 OpR X f (rI C λi j=>.int (g i j)):=by
 intro pins s σ H x y v u Q I rx ry h;obtain⟨i,j,rfl,rfl,hc,q⟩:=h;obtain⟨t,rfl⟩:=rx;obtain⟨t',rfl⟩:=ry;exact rule i j t t' s _ _ hc ⟨.int (g i j),H,I.tok _,⟨_,rfl⟩,q⟩
theorem opI0{f:Value->Value->Sem Value}{g:Int->Int->Int}
 (rule:∀(i j:Int) (t u:Tok) (s:Shared) (Q:Value->Shared->Prop) (E:Value->Shared->Prop),Q (.int (g i j) s.toks) { s with toks:=s.toks+1 }->wpAny .(6) X.A (f (.int i t) (.int j u)) Q E s) :
 OpR X f (rI0 λi j=>.int (g i j)):=by
 intro pins s σ H x y v u Q I rx ry h;obtain⟨i,j,rfl,rfl,q⟩:=h;obtain⟨t,rfl⟩:=rx;obtain⟨t',rfl⟩:=ry;exact rule i j t t' s _ _ ⟨.int (g i j),H,I.tok _,⟨_,rfl⟩,q⟩
theorem opB0{f:Value->Value->Sem Value}{g:Int->Int->Bool}
 (rule:∀(i j:Int) (t u:Tok) (s:Shared) (Q:Value->Shared->Prop) (E:Value->Shared->Prop),Q (.bool (g i j)) s->wpAny .(6) X.A (f (.int i t) (.int j u)) Q E s) :
 OpR X f (rI0 λi j=>.bl (g i j)):=by
 intro pins s σ H x y v u Q I rx ry h;obtain⟨i,j,rfl,rfl,q⟩:=h;obtain⟨t,rfl⟩:=rx;obtain⟨t',rfl⟩:=ry;exact rule i j t t' s _ _ ⟨.bl (g i j),H,I,rfl,q⟩
def CDiv(i j:Int):Prop:=0<j/\j<1073741824
def CPow(i j:Int):Prop:=0<=j/\j<=1000000/\i.natAbs<2 ^ 64
def CMul(i j:Int):Prop:=(-(2 ^ 64)<i/\i<2 ^ 64)\/(-(2 ^ 64)<j/\j<2 ^ 64)
theorem CMul.ok{i j:Int}(h:CMul i j):IntMulOk i j:=by
 rcases h with ⟨h1,h2⟩|⟨h1,h2⟩
 ·exact .of_left (intBits_le_64 h1 h2)
 ·exact .of_right (intBits_le_64 h1 h2)
theorem z98(k:Nat):(0:Int)<=2 ^ k:=by
 rw[two_pow_cast];exact Int.natCast_nonneg _
theorem op_add:OpR X (K2r .Add) (rI0 λi j=>.int (i+j)):=opI0 λ_ _ _ _ _ _ _ q=>add_int q
theorem zX2:OpR X (K2r .Sub) (rI0 λi j=>.int (i - j)):=opI0 λ_ _ _ _ _ _ _ q=>sub_int q
theorem op_mul:OpR X (K2r .Mult) (rI CMul λi j=>.int (i * j)):=opI λ_ _ _ _ _ _ _ hc q=>mul_int q hc.ok
theorem zG0:OpR X (K2r .FloorDiv) (rI CDiv λi j=>.int (i / j)):=opI λi j _ _ _ _ _ hc q=>by
 have h1:(0:Int)<j:=hc.1;have h2:j<1073741824:=hc.2;exact floordiv_int .(0) (by rw[K7q i .(0)];exact q) (.inl (PyProof.noPylong_small .(0)))
theorem zN1:OpR X (K2r .Mod) (rI (λ_ j=>0<j) λi j=>.int (i % j)):=opI λi j _ _ _ _ _ hc q=>by
 have h1:(0:Int)<j:=hc;exact mod_int' .(0) (by rw[Int.fmod_eq_emod_of_nonneg i .(0)];exact q)
theorem zQ0:OpR X (K2r .Pow) (rI CPow λi j=>.int (i ^ j.toNat)):=opI λ_ _ _ _ _ _ _ hc q=>pow_int_small hc.1 hc.2.1 hc.2.2 q
theorem zT2:OpR X (K2r .RShift) (rI (λ_ j=>0<=j) λi j=>.int (i / 2 ^ j.toNat)):=opI λi j _ _ _ _ _ hc q=>
 rshift_int hc (by rw[K7q i (z98 _)];exact q)
theorem zY4:OpR X (K2r .BitAnd) (rI0 λi j=>.int (K12 i j)):=opI0 λ_ _ _ _ _ _ _ q=>and_int q
theorem unI{f:Value->Sem Value}{g:Int->Int}
 (rule:∀(i:Int) (t:Tok) (s:Shared) (Q:Value->Shared->Prop) (E:Value->Shared->Prop),Q (.int (g i) s.toks) { s with toks:=s.toks+1 }->wpAny .(6) X.A (f (.int i t)) Q E s) :
 UnR X f (rU λi=>.int (g i)):=by
 intro pins s σ H x v Q I rx h;obtain⟨i,rfl,q⟩:=h;obtain⟨t,rfl⟩:=rx;exact rule i t s _ _ ⟨.int (g i),H,I.tok _,⟨_,rfl⟩,q⟩
theorem zV3:UnR X (unaryOp .USub) (rU λi=>.int (-i)):=unI λ_ _ _ _ _ q=>neg_int q
end
def scal:V->V->Bool
 | .non,.non=>true|.non,.int _=>true|.int _,.non=>true|.non,.bl _=>true|.bl _,.non=>true|.non,.str _=>true|.str _,.non=>true
 | .int _,.int _=>true|.bl _,.bl _=>true|.str _,.str _=>true|.byt _,.byt _=>true
 | .int _,.str _=>true|.str _,.int _=>true|.bl _,.str _=>true|.str _,.bl _=>true
 | _,_=>false
def rEq:R2:=λx y H Q=>scal x y=true/\Q (.bl (decide (x=y))) H
def rNe:R2:=λx y H Q=>scal x y=true/\Q (.bl (!decide (x=y))) H
theorem z9T{i j:Int}:decide (V.int i=V.int j)=(i==j):=by
 rw[K0n];simp
theorem zu5{i j:Bool}:decide (V.bl i=V.bl j)=(i==j):=by
 rw[K0n];simp
theorem ze2{i j:Str}:decide (V.str i=V.str j)=(i==j):=by
 rw[K0n];simp
theorem zi1{i j:Array UInt8}:decide (V.byt i=V.byt j)=(i.toList==j.toList):=by
 rw[K0n];cases i;cases j;simp
section
variable{a b:Expr}{tb tc:TE}
theorem Y6{Q:VK}{k k':Bool}(I:Inv X pins σ H s)(q:Q (.bl k) H)(e:k=k'):EP X pins σ Q (.bool k') s:=by
 subst e;exact⟨.bl k,H,I,rfl,q⟩
theorem Z0C:OpR X (K1w .Eq) rEq:=by
 intro pins s σ H x y v u Q I rx ry h;obtain⟨hs,q⟩:=h;cases x with
 | non=>
  cases rx;cases y with
  | non=>cases ry;exact PySem.EqNone.eq_none_none (Y6 I q .(e))
  | bl j=>cases ry;exact PySem.EqNone.eq_none_bool (Y6 I q .(e))
  | int j=>obtain⟨t',rfl⟩:=ry;exact PySem.EqNone.eq_none_int (Y6 I q .(e))
  | str j=>obtain⟨t',rfl⟩:=ry;exact PySem.EqNone.eq_none_str (Y6 I q .(e))
  | _=>exact absurd (show false=true from hs) K0m
 | bl i=>
  cases rx;cases y with
  | non=>cases ry;exact PySem.EqNone.eq_bool_none (Y6 I q .(e))
  | bl j=>cases ry;exact eq_bool (Y6 I q zu5)
  | str j=>obtain⟨t',rfl⟩:=ry;exact PySem.EqMixed.eq_bool_str (Y6 I q .(e))
  | _=>exact absurd (show false=true from hs) K0m
 | int i=>
  obtain⟨t,rfl⟩:=rx;cases y with
  | non=>cases ry;exact PySem.EqNone.eq_int_none (Y6 I q .(e))
  | int j=>obtain⟨t',rfl⟩:=ry;exact eq_int (Y6 I q z9T)
  | str j=>obtain⟨t',rfl⟩:=ry;exact PySem.EqMixed.eq_int_str (Y6 I q .(e))
  | _=>exact absurd (show false=true from hs) K0m
 | str i=>
  obtain⟨t,rfl⟩:=rx;cases y with
  | non=>cases ry;exact PySem.EqNone.eq_str_none (Y6 I q .(e))
  | bl j=>cases ry;exact PySem.EqMixed.eq_str_bool (Y6 I q .(e))
  | int j=>obtain⟨t',rfl⟩:=ry;exact PySem.EqMixed.eq_str_int (Y6 I q .(e))
  | str j=>obtain⟨t',rfl⟩:=ry;exact eq_str (Y6 I q ze2)
  | _=>exact absurd (show false=true from hs) K0m
 | byt i=>
  obtain⟨t,rfl⟩:=rx;cases y with
  | byt j=>obtain⟨t',rfl⟩:=ry;exact PySem.W.eq_bytes (Y6 I q zi1)
  | _=>exact absurd (show false=true from hs) K0m
 | _=>cases y<;>exact absurd (show false=true from hs) K0m
theorem Z0o:OpR X (K1w .NotEq) rNe:=by
 intro pins s σ H x y v u Q I rx ry h;obtain⟨hs,q⟩:=h;cases x with
 | non=>
  cases rx;cases y with
  | non=>cases ry;exact PySem.EqNone.ne_none_none (Y6 I q .(e))
  | bl j=>cases ry;exact PySem.EqNone.ne_none_bool (Y6 I q .(e))
  | int j=>obtain⟨t',rfl⟩:=ry;exact PySem.EqNone.ne_none_int (Y6 I q .(e))
  | str j=>obtain⟨t',rfl⟩:=ry;exact PySem.EqNone.ne_none_str (Y6 I q .(e))
  | _=>exact absurd (show false=true from hs) K0m
 | bl i=>
  cases rx;cases y with
  | non=>cases ry;exact PySem.EqNone.ne_bool_none (Y6 I q .(e))
  | bl j=>cases ry;exact ne_bool (Y6 I q (congrArg not zu5))
  | str j=>obtain⟨t',rfl⟩:=ry;exact PySem.EqMixed.ne_bool_str (Y6 I q .(e))
  | _=>exact absurd (show false=true from hs) K0m
 | int i=>
  obtain⟨t,rfl⟩:=rx;cases y with
  | non=>cases ry;exact PySem.EqNone.ne_int_none (Y6 I q .(e))
  | int j=>obtain⟨t',rfl⟩:=ry;exact ne_int (Y6 I q (congrArg not z9T))
  | str j=>obtain⟨t',rfl⟩:=ry;exact PySem.EqMixed.ne_int_str (Y6 I q .(e))
  | _=>exact absurd (show false=true from hs) K0m
 | str i=>
  obtain⟨t,rfl⟩:=rx;cases y with
  | non=>cases ry;exact PySem.EqNone.ne_str_none (Y6 I q .(e))
  | bl j=>cases ry;exact PySem.EqMixed.ne_str_bool (Y6 I q .(e))
  | int j=>obtain⟨t',rfl⟩:=ry;exact PySem.EqMixed.ne_str_int (Y6 I q .(e))
  | str j=>obtain⟨t',rfl⟩:=ry;exact ne_str (Y6 I q (congrArg not ze2))
  | _=>exact absurd (show false=true from hs) K0m
 | byt i=>
  obtain⟨t,rfl⟩:=rx;cases y with
  | byt j=>obtain⟨t',rfl⟩:=ry;exact PySem.W.ne_bytes (Y6 I q (congrArg not zi1))
  | _=>exact absurd (show false=true from hs) K0m
 | _=>cases y<;>exact absurd (show false=true from hs) K0m
theorem op_lt:OpR X (K1w .Lt) (rI0 λi j=>.bl (decide (i<j))):=opB0 λ_ _ _ _ _ _ _ q=>lt_int q
theorem op_le:OpR X (K1w .LtE) (rI0 λi j=>.bl (decide (i<=j))):=opB0 λ_ _ _ _ _ _ _ q=>le_int q
theorem Z0S:OpR X (K1w .Gt) (rI0 λi j=>.bl (decide (j<i))):=opB0 λ_ _ _ _ _ _ _ q=>gt_int q
theorem Z0v:OpR X (K1w .GtE) (rI0 λi j=>.bl (decide (j<=i))):=opB0 λ_ _ _ _ _ _ _ q=>ge_int q
theorem za4:OpR X (K1w .Lt) (λx y H Q=>∃i j,x=.str i/\y=.str j/\Q (.bl (decide (i.cps.toList<j.cps.toList))) H):=by
 intro pins s σ H x y v u Q I rx ry h;obtain⟨i,j,rfl,rfl,q⟩:=h;obtain⟨t,rfl⟩:=rx;obtain⟨t',rfl⟩:=ry;exact lt_str (Y6 I q rfl)
theorem OpR.or{r r':R2}(h:OpR X f r)(h':OpR X f r'):OpR X f (λx y H Q=>r x y H Q\/r' x y H Q):=by
 intro pins s σ H x y v u Q I rx ry q;rcases q with q|q
 ·exact h pins s σ H x y v u Q I rx ry q
 ·exact h' pins s σ H x y v u Q I rx ry q
theorem zw2(b:Expr){op:CmpOp}(h:op≠.In:=by decide)(h2:op≠.NotIn:=by decide):K4u op b=false:=by
 have e1:(op==CmpOp.In)=false:=by cases op<;>first|rfl|exact absurd rfl h
 have e2:(op==CmpOp.NotIn)=false:=by cases op<;>first|rfl|exact absurd rfl h2
 cases b<;>simp[K4u,e1,e2]
theorem zL7{op:CmpOp}{r:R2}(ho:OpR X (K1w op) r)(ha:PE X a ta)(hb:PE X b tb)(hm:K4u op b=false):PE X (.Compare a [op] [b] pos) (tOp r ta tb):=by
 intro pins s σ H Q I h;exact wpAny_Compare1 (binT ha hb I h λv u s2 x y H2 I2 rx ry q=>ho pins s2 σ H2 x y v u Q I2 rx ry q) hm
def zT0(t:TE):TT:=λσ H Q=>t σ H λx H'=>∃k,x=.bl k/\Q k H'
theorem zE7{op:CmpOp}{r:R2}(ho:OpR X (K1w op) r)(ha:PE X a ta)(hb:PE X b tb)(hm:K4u op b=false):PT X (.Compare a [op] [b] pos) (zT0 (tOp r ta tb)):=by
 intro pins s σ H Q I h;refine wpAny_isTrue_Compare1 (thn (ha pins s σ H _ I h) λv s1 ⟨x,H1,I1,r1,q1⟩=>thn (hb pins s1 σ H1 _ I1 q1) λu s2 ⟨y,H2,I2,r2,q2⟩=>
  thn (ho pins s2 σ H2 x y v u _ I2 r1 r2 q2) λc s3 ⟨z,H3,I3,r3,k,e,q3⟩=>?_) hm
 subst e;cases r3;exact K3h ⟨H3,I3,q3⟩
def zy0(r r':R2)(ta tb tc:TE):TE:=λσ H Q=>ta σ H λx H1=>tb σ H1 λy H2=>r x y H2 λz H3=>∃k,z=.bl k /\
 (if k=true then tc σ H3 λw' H4=>r' y w' H4 Q else Q (.bl false) H3)
theorem zt2{op op':CmpOp}{r r':R2}(ho:OpR X (K1w op) r)(ho':OpR X (K1w op') r')(ha:PE X a ta)(hb:PE X b tb)(hc:PE X c tc)
 (hm:lastMarks [op,op'] [b,c]=false:=by with_unfolding_all rfl):PE X (.Compare a [op,op'] [b,c] pos) (zy0 r r' ta tb tc):=by
 intro pins s σ H Q I h;refine Compare_chain (thn (ha pins s σ H _ I h) λv s1 ⟨x,H1,I1,r1,q1⟩=>chain_link (thn (hb pins s1 σ H1 _ I1 q1) λu s2 ⟨y,H2,I2,r2,q2⟩=>
  thn (ho pins s2 σ H2 x y v u _ I2 r1 r2 q2) λd s3 ⟨z,H3,I3,r3,k,e,q3⟩=>?_)) hm
 subst e;cases r3;refine K3h ?_;cases k with
 | false=>exact ite_ff ⟨.bl false,H3,I3,rfl,q3⟩
 | true=>exact ite_tt (chain_last (thn (hc pins s3 σ H3 _ I3 q3) λw' s4 ⟨z',H4,I4,r4,q4⟩=>ho' pins s4 σ H4 y z' u w' Q I4 r2 r4 q4))
def TruV(K:K5)(x:V)(H:Hp)(k:Bool):Prop:=
 match x with
 | .non=>k=false
 | .bl b=>k=b
 | .int i=>k=(i != 0)
 | .str y=>y.length<=sizeLine/\k=((y.length:Int) != 0)
 | .byt y=>y.size<=sizeLine/\k=((y.size:Int) != 0)
 | .ref p=>(∃xs,SqL K H p xs/\k = !xs.isEmpty)\/(∃xs,SqT K H p xs/\k = !xs.isEmpty)\/∃kvs,H p=some (.dK kvs)/\k = !kvs.isEmpty
 | _=>False
theorem z9i{kvs:List (κ×V)}{vs:List (κ×Value)}(r:KV kvs vs):(!vs.isEmpty) = !kvs.isEmpty:=by
 cases r<;>rfl
theorem z4W(r:Vals xs its):(!its.toArray.isEmpty) = !xs.isEmpty:=by
 cases r<;>simp
theorem z4Z:(sizeLine:Nat)<2 ^ 63:=by rw[Z32];decide
theorem zT6:TruR X (λx H Q=>∃k,TruV X.K x H k/\Q k H):=by
 intro pins s σ H x v Q I rx h;obtain⟨k,e,q⟩:=h;have hl:=z4Z;have hs:sizeLine=16777216:=Z32;cases x with
 | non=>
  cases rx;have e':k=false:=e;subst e';exact truthy_none ⟨H,I,q⟩
 | bl b=>
  cases rx;have e':k=b:=e;subst e';exact K3h ⟨H,I,q⟩
 | int i=>
  obtain⟨t,rfl⟩:=rx;have e':k=(i != 0):=e;subst e';exact PySem.P.truthy_int ⟨H,I,q⟩
 | str y=>
  obtain⟨t,rfl⟩:=rx;obtain⟨hy,e'⟩:y.length<=sizeLine/\k=((y.length:Int) != 0):=e;subst e';exact PySem.P.truthy_str .(0) ⟨H,I.tok _,q⟩
 | byt y=>
  obtain⟨t,rfl⟩:=rx;obtain⟨hy,e'⟩:y.size<=sizeLine/\k=((y.size:Int) != 0):=e;subst e';exact PySem.W.truthy_bytes .(0) ⟨H,I.tok _,q⟩
 | ref p=>
  cases rx;have e':(∃xs,SqL X.K H p xs/\k = !xs.isEmpty)\/(∃xs,SqT X.K H p xs/\k = !xs.isEmpty)\/∃kvs,H p=some (.dK kvs)/\k = !kvs.isEmpty:=e;rcases e' with ⟨xs,hx,e'⟩|⟨xs,hx,e'⟩|⟨kvs,hx,e'⟩
  ·subst e';obtain⟨its,r,pl,hz⟩:=I.list hx;have hlen:=r.length;exact wpAny_truthy_list pl.isList (by simp only[K07];omega) ⟨H,I.tok _,by rw[z4W r];exact q⟩
  ·subst e';obtain⟨its,r,pl,hz⟩:=I.tuple hx;have hlen:=r.length;exact truthy_tuple pl (by simp only[K07];omega) ⟨H,I.tok _,by rw[z4W r];exact q⟩
  ·subst e';obtain⟨hz,hS,vs,r,m⟩:kvs.length<=sizeLine/\(p==K4m)=false/\∃vs,KV kvs vs/\s.heap.DictOf (Y0 X.prog X.w) p vs:=I.hok p _ hx;have hlen:kvs.length=vs.length:=K3b r;exact wpAny_truthy_dict hS m .(0) ⟨H,I.tok _,by rw[z9i r];exact q⟩
 | _=>exact(show False from e).elim
theorem zo3(ha:PE X a ta)(he:∀whole,isTrue a X.env whole=(do let v <- whole;K5a a.pos;K3t [v] (truthy v))):
 PT X a (λσ H Q=>ta σ H λx H'=>∃k,TruV X.K x H' k/\Q k H'):=by
 intro pins s σ H Q I h;exact isTrue_plain (thn (ha pins s σ H _ I h) λv s1 ⟨x,H1,I1,r1,q1⟩=>zT6 pins s1 σ H1 x v Q I1 r1 q1) (he _)
theorem op_add_str:OpR X (K2r .Add) (λx y H Q=>∃i j,x=.str i/\y=.str j/\i.length+j.length<=sizeLine/\Q (.str (i++j)) H):=by
 intro pins s σ H x y v u Q I rx ry h;obtain⟨i,j,rfl,rfl,hz,q⟩:=h;obtain⟨t,rfl⟩:=rx;obtain⟨t',rfl⟩:=ry;exact add_str (λt' tk=>⟨.str (i++j),H,I.tok _,⟨_,rfl⟩,q⟩) hz
theorem vals1{x:V}(r:Vals [x] us):∃u,us=[u]/\RelV x u:=by
 cases r with
 | cons r1 r2=>cases r2;exact⟨_,rfl,r1⟩
theorem vals2{x y:V}(r:Vals [x,y] us):∃u w',us=[u,w']/\RelV x u/\RelV y w':=by
 cases r with
 | cons r1 r2=>
  cases r2 with
  | cons r3 r4=>cases r4;exact⟨_,_,rfl,r1,r3⟩
def LenV(K:K5)(x:V)(H:Hp)(n:Nat):Prop:=
 match x with
 | .str y=>y.length<=sizeLine/\n=y.length
 | .byt y=>y.size<=sizeLine/\n=y.size
 | .ref p=>(∃xs,SqL K H p xs/\n=xs.length)\/∃xs,SqT K H p xs/\n=xs.length
 | _=>False
theorem zm2:z43 X (.builtin "len") (λxs H Q=>∃x n,xs=[x]/\LenV X.K x H n/\Q (.int n) H):=by
 intro pins s σ H xs us Q I r h;obtain⟨x,n,rfl,e,q⟩:=h;obtain⟨u,rfl,rx⟩:=vals1 r;have hl:=z4Z;have hs:sizeLine=16777216:=Z32;cases x with
 | str y=>
  obtain⟨t,rfl⟩:=rx;obtain⟨hy,e'⟩:y.length<=sizeLine/\n=y.length:=e;subst e';exact len_str .(0) ⟨.int _,H,I.tok _,⟨_,rfl⟩,q⟩
 | byt y=>
  obtain⟨t,rfl⟩:=rx;obtain⟨hy,e'⟩:y.size<=sizeLine/\n=y.size:=e;subst e';exact PySem.W.len_bytes .(0) ⟨.int _,H,I.tok _,⟨_,rfl⟩,q⟩
 | ref p=>
  cases rx;have e':(∃xs,SqL X.K H p xs/\n=xs.length)\/∃xs,SqT X.K H p xs/\n=xs.length:=e;rcases e' with ⟨xs,hx,e'⟩|⟨xs,hx,e'⟩
  ·subst e';obtain⟨its,r',pl,hz⟩:=I.list hx;have hlen:=r'.length;exact Calls.call_len_list pl.isList (by simp only[K07];omega) ⟨.int xs.length,H,I.tok _,⟨_,by simp only[K07];rw[hlen]⟩,q⟩
  ·subst e';obtain⟨its,r',pl,hz⟩:=I.tuple hx;have hlen:=r'.length;exact len_tuple pl (by simp only[K07];omega) ⟨.int xs.length,H,I.tok _,⟨_,by simp only[K07];rw[hlen]⟩,q⟩
 | _=>exact(show False from e).elim
end
structure ObjM(h:Heap)(x dx C:Addr)(mA:Str->Option Value):Prop where
 obj:h.get? x=some (K92 C dx)
 ns:h.Ns1 dx mA
 ne:dx≠x
theorem zb7(n:h.Ns1 dx mA):∃od,h.get? dx=some od/\∀name,K9h name od=some (mA name):=by
 obtain⟨o,es,ep,ho,hd,hk,_,hm⟩:=n;refine⟨o,ho,λname=>?_⟩;have e:=hm name;unfold nsFind findBy at e;rw[<- Array.find?_toList]at e;unfold K9h;rw[hd];dsimp only;split
 ·rename_i y q;rw[q]at e;exact congrArg some e
 ·rename_i q;rw[q]at e;have a:es.toList.any (·.refKey)=false:=by
   rw[Z2e];intro y hy;obtain⟨z,t,hkey⟩:=hk y (Array.mem_toList_iff.mp hy);simp[DictEntry.refKey,hkey]
  have a':¬ es.toList.any (·.refKey)=true:=by rw[a];exact K0m
  rw[if_neg a'];exact congrArg some e
theorem ObjM.look{x:Addr}(I:ObjM h x dx C mA):∃od,PySem.W.InstAt h x (K92 C dx) C (some od)/\∀name,K9h name od=some (mA name):=
 let ⟨od,ho,hl⟩:=zb7 I.ns
 ⟨od,⟨I.obj,rfl,rfl,ho⟩,hl⟩
theorem RelO.some_of{o:Option Value}(r:RelO (some v) o):∃u,o=some u/\RelV v u:=by
 cases o with
 | none=>exact(show False from r).elim
 | some u=>exact⟨u,rfl,r⟩
section
variable{fs fs':List (Str×V)}
theorem zB9(hok:HOk P w H h)(e:H a=some (.ins C dx fs)):∃mA,ObjM h a dx C mA/\(∀f,RelO (fs.lookup f) (mA f))/\PySem.Within mA (fs.map (·.1))/\fs.length<=1000/\H dx=some (.own a):=by
 obtain⟨d,z,ne,ob,mA,n,r,q⟩:=(show ObjOk P w H h a (.ins C dx fs) from hok a _ e);exact⟨mA,⟨ob,n,ne⟩,r,q,z,d⟩
end
structure Cls(K:K5)(C:Addr):Prop where
 pg:Z2n K C Str.empty=true
 hd:PySem.W.hasDictIn K C=true
 po:PySem.W.plainOver K C=true
 sa:K9i K (.ref C) "__setattr__" = some (some (.builtin "object.__setattr__"))
theorem Cls.get(c:Cls K C)(f:Str):Z2n K C f=true:=c.pg
structure Meth(K:K5)(C:Addr)(m:Str)(f:Addr):Prop where
 at_:K9i K (.ref C) m=some (.(r f))
 fn:PySem.W.isFn K (.ref f)=true
 kp:K2o K (.ref f)=true
section
variable{c:Value}{b:Bool}
inductive TyOf(K:K5)(H:Hp):V->Value->Prop where
 | non:TyOf K H .non (.type "NoneType")
 | bl (x:Bool):TyOf K H (.bl x) (.type "bool")
 | int (i:Int):TyOf K H (.int i) (.type "int")
 | str (x:Str):TyOf K H (.str x) (.type "str")
 | flt (x:UInt64):TyOf K H (.flt x) (.type "float")
 | lst {a:Addr} {xs:List V} (e:H a=.(l xs)):TyOf K H (.ref a) (.type "list")
 | frz {a:Addr} {o:Obj} {xs:List V} (e:H a=some (.frz o (.lst xs))):TyOf K H (.ref a) (.type "list")
 | tup {a:Addr} {xs:List V} (e:H a=.(g xs)):TyOf K H (.ref a) (.type "tuple")
 | dK {a:Addr} {kvs:List (Key×V)} (e:H a=some (.dK kvs)):TyOf K H (.ref a) (.type "dict")
 | dT {a:Addr} {kvs:List (List Key×V)} (e:H a=some (.dT kvs)):TyOf K H (.ref a) (.type "dict")
 | ins {a C dx:Addr} {fs:List (Str×V)} (e:H a=some (.ins C dx fs)) (cl:Cls K C) (ha:K9i K (.ref C) "__class__" = some (some (.builtin "object.__class__")))
  (hn:PySem.W.specialIn K (.builtin "object.__class__") "__get__" = some (some (.builtin "getset_descriptor.__get__"))) (htk:PySem.W.takesIn K (.builtin "object.__class__")=some true)
  (hm:PySem.W.mroIn K C (.type "object")=some true):TyOf K H (.ref a) (.ref C)
theorem z9B{x:V}{t:Value}(I:Inv X pins σ H s)(rx:RelV x u)(ty:TyOf X.K H x t)(e:K69 X.K t c=some b)(h:∀tk,Q (.bool b) { s with toks:=tk }):
 wpAny .(6) A (call (.builtin "isinstance") [u,c]) Q E s:=by
 cases ty with
 | non=>cases (show u=K2z from rx);exact K1s PySem.W.kitx_none I.kIn K47 e (λz=>nomatch z) h
 | bl y=>cases (show u=K79 y from rx);exact K1s PySem.W.kitx_bool I.kIn K47 e (λz=>nomatch z) h
 | int i=>obtain⟨t,q⟩:=(show ∃t,u=K78 i t from rx);cases q;exact K1s PySem.W.kitx_int I.kIn K47 e (λz=>nomatch z) h
 | str y=>obtain⟨t,q⟩:=(show ∃t,u=Z2l y t from rx);cases q;exact K1s PySem.W.kitx_str I.kIn K47 e (λz=>nomatch z) h
 | flt y=>obtain⟨t,q⟩:=(show ∃t,u=Value.float y t from rx);cases q;exact K1s PySem.W.kitx_float I.kIn K47 e (λz=>nomatch z) h
 | @lst a xs ea=>
  cases (show u=K29 a from rx);obtain⟨_,_,n,_,h1⟩:=(show ObjOk X.prog X.w H s.heap a (.lst xs) from I.hok a _ ea);exact K1s K7y I.kIn ⟨_,h1,rfl⟩ e (λz=>nomatch z) h
 | @frz a ob xs ea=>
  cases (show u=K29 a from rx);obtain⟨_,_,_,n,_,h1⟩:=(show ObjOk X.prog X.w H s.heap a (.frz ob (.lst xs)) from I.hok a _ ea);exact K1s K7y I.kIn ⟨_,h1,rfl⟩ e (λz=>nomatch z) h
 | @tup a xs ea=>
  cases (show u=K29 a from rx);obtain⟨_,_,_,p⟩:=(show ObjOk X.prog X.w H s.heap a (.tup xs) from I.hok a _ ea);obtain⟨o,h1,h2,_⟩:=p;exact K1s Z1r I.kIn ⟨o,h1,h2.1⟩ e (λz=>nomatch z) h
 | @dK a kvs ea=>
  cases (show u=K29 a from rx);obtain⟨_,_,vs,_,p⟩:=(show ObjOk X.prog X.w H s.heap a (.dK kvs) from I.hok a _ ea);obtain⟨o,es,ep,h1,h2,_⟩:=p;exact K1s K7z I.kIn ⟨o,h1,h2.1⟩ e (λz=>nomatch z) h
 | @dT a kvs ea=>
  cases (show u=K29 a from rx);obtain⟨_,_,xs,_,o,es,ep,h1,h2,_⟩:=(show ObjOk X.prog X.w H s.heap a (.dT kvs) from I.hok a _ ea);exact K1s K7z I.kIn ⟨o,h1,h2.1⟩ e (λz=>nomatch z) h
 | @ins a C dx fs ea cl ha hn htk hm=>
  cases (show u=K29 a from rx);obtain⟨mA,O,_⟩:=zB9 I.hok ea;obtain⟨od,J,_⟩:=O.look;exact K1s (PySem.W.kitx_own (cl.get _) cl.hd ha hn htk hm) I.kIn J e (λz=>nomatch z) h
end
structure Room(k:Nat)(A:Around):Prop where
 hd:A.handled=none
 dp:A.depth+3 * k+5<recursionLimit
 un:A.units+16 * k+200<cLine
 gd:A.guards=some []
theorem Room.mono{j k:Nat}(r:Room k A)(h:j<=k):Room j A:=⟨r.hd,by have:=r.dp;omega,by have:=r.un;omega,r.gd⟩
theorem Room.deeper{k:Nat}{A:Around}(r:Room (k+1) A)(env:Env):Room k (A.deeper env):=
 ⟨r.hd,by have:=r.dp;show A.depth+1+3 * k+5<_;omega,by have:=r.un;show A.units+3+16 * k+200<_;omega,r.gd⟩
theorem Room.depth{k:Nat}{A:Around}(r:Room k A):A.depth<recursionLimit:=by have:=r.dp;omega
theorem Room.units{k:Nat}{A:Around}(r:Room k A):A.units+64<cLine:=by have:=r.un;omega
def tNil:TA:=λ_ H Q=>Q [] H
def zg3(ta:TE)(tr:TA):TA:=λσ H Q=>ta σ H λx H1=>tr σ H1 λxs H2=>Q (x::xs) H2
theorem z2l:PA X [] tNil:=λ_ _ _ _ H Q I h=>Calls.spliced_nil ⟨[],H,I,.nil,h⟩
theorem z0N(ha:PE X e te)(hr:PA X es t)(hs:K0k (e::es) X.env=(false,eval e X.env)::K0k es X.env:=by rfl):PA X (e::es) (zg3 te t):=by
 intro pos pins s σ H Q I h;rw[hs];show wpAny _ _ (spliced ((false,eval e X.env)::backTo pos (K0k es X.env))) _ _ s;refine Calls.spliced_cons (thn (ha pins s σ H _ I h) λu s1 ⟨x,H1,I1,r1,q1⟩=>?_);exact thn (hr pos pins s1 σ H1 _ I1 q1) λus s2 ⟨xs,H2,I2,r2,q2⟩=>⟨x::xs,H2,I2,.cons r1 r2,q2⟩
def tTup(t:TA):TE:=λσ H Q=>t σ H λxs H1=>xs.length<=sizeLine/\∀p,H1 p=none->Q (.ref p) (upd H1 p (.tup xs))
def tLst(t:TA):TE:=λσ H Q=>t σ H λxs H1=>xs.length<=sizeLine/\∀p,H1 p=none->Q (.ref p) (upd H1 p (.lst xs))
theorem zP5{x1}(h:PA X es t):PE X (.Tuple es x1 pos) (tTup t):=by
 intro pins s σ H Q I hq;refine wpAny_Tuple_spliced (thn (h pos pins s σ H _ I hq) λus s1 ⟨xs,H1,I1,r,z,q⟩=>⟨by rw[<- r.length];exact z,?_⟩);have hf:H1 .(q)=none:=I1.hok.fresh (K01 _);refine⟨.ref .(q),upd H1 .(q) (.tup xs),I1.laid (t':=s1.toks) (λb u e=>K9 _ e) (K01 _) ?_,rfl,q _ hf⟩;exact⟨z,us,r,⟨_,K0j _ rfl,⟨rfl,rfl⟩,_,rfl⟩⟩
theorem zV7(h:PA X es t):PE X (.List es pos) (tLst t):=by
 intro pins s σ H Q I hq;refine wpAny_List_spliced (thn (h pos pins s σ H _ I hq) λus s1 ⟨xs,H1,I1,r,z,q⟩=>⟨by rw[<- r.length];exact z,?_⟩);have hf:H1 .(q)=none:=I1.hok.fresh (K01 _);refine⟨.ref .(q),upd H1 .(q) (.lst xs),I1.laid (t':=s1.toks) (λb u e=>K9 _ e) (K01 _) ?_,rfl,q _ hf⟩;exact⟨z,us,0,r,K0j _ rfl⟩
abbrev Sp:=List V->Hp->VK->XK->Prop
variable{sp:Sp}
abbrev CXT:=List Env->Hp->Shared->XK->Value->Shared->Prop
variable{CX:CXT}
structure Env0(P:K1i)(w:World)(K:K5)(mg:Str->Option Value)(base:Heap)(A:Around)(outer:List Env)(s:Shared)(H:Hp):Prop where
 frames:A.frames=some outer
 mod:Mod K mg base
 bs:∀b o,base.get? b=some o->s.heap.get? b=some o/\H b=none
 bsz:base.objs.size<=.(3)
 funs:s.heap.FunFrames base outer
 frf:∀b∈frs outer,H b=none
 hok:HOk P w H s.heap
 bare:K76 s.gens
def CE(outer:List Env)(P:K1i)(w:World)(H:Hp)(s:Shared)(Q:VK)(u:Value)(s':Shared):Prop:=
 ∃v H',s'.os=s.os/\K76 s'.gens/\Un (frs outer) [] H H' s.heap s'.heap/\HOk P w H' s'.heap/\RelV v u/\Q v H'
def CR(CX:CXT)(outer:List Env)(P:K1i)(w:World)(H:Hp)(s:Shared)(Q:VK)(E:XK)(r:Result)(s':Shared):Prop:=
 match r with
 | .ok (.ret u)=>CE outer P w H s Q u s'
 | .ok _=>False
 | .error e=>CX outer H s E e s'
structure FnOk(P:K1i)(w:World)(K:K5)(mg:Str->Option Value)(base:Heap)(CX:CXT)(k:Nat)(f:Addr)(fd:K53)(ps:List Str)(sp:Sp):Prop where
 len:∀vs H Q E,sp vs H Q E->vs.length=ps.length
 run:∀(A:Around) (outer:List Env) (s:Shared) (H:Hp) (args:Args) (us:List Value) (vs:List V) (Q:VK) (E:XK),Room k A->Env0 P w K mg base A outer s H->K8u s fd args (ps.zip us)->Vals vs us->sp vs H Q E ->
  K5q .(x) A (.call (.ref f) args) (CR CX outer P w H s Q E) s
theorem FnOk.imp{k:Nat}{f:Addr}{sp':Sp}(F:FnOk P w K mg base CX k f fd ps sp)
 (h:∀vs H Q E,sp' vs H Q E->sp vs H Q E):FnOk P w K mg base CX k f fd ps sp':=
 ⟨λvs H Q E q=>F.len vs H Q E (h _ _ _ _ q),λA outer s H args us vs Q E hr he hb hv hs=>F.run A outer s H args us vs Q E hr he hb hv (h _ _ _ _ hs)⟩
theorem Inv.env0(I:Inv X pins σ H s):Env0 X.prog X.w X.K X.mg X.base X.A X.stack s H:=
 ⟨I.ok.frames,I.ok.mod,I.bs,K0h I.ok.bsz I.sz,I.stack,I.stkFree,I.hok,I.bare⟩
theorem Inv.after{Q:VK}(I:Inv X pins σ H s)(h:CE X.stack X.prog X.w H s Q u s'):EP X pins σ Q u s':=by
 obtain⟨v,H',os,bare,un,hok,r,q⟩:=h;obtain⟨hh,g,d,t,os'⟩:=s';obtain rfl:os'=s.os:=os;exact⟨v,H',I.call (h':=hh) (g':=g) (d':=d) (t':=t) (ch:=[]) un hok bare (λb z=>absurd z .(e)),r,q⟩
def Z1b(sp:Sp)(dvs:List V)(E:XK)(t:TA):TE:=λσ H Q=>t σ H λvs H1=>sp (vs++dvs) H1 Q E
def Binds(K:K5)(fd:K53)(ps:List Str)(ds:List Value):Prop:=
 ∀(s:Shared) (us:List Value),K.In s.heap->(us++ds).length=ps.length->K8u s fd ⟨us,[]⟩ (ps.zip (us++ds))
theorem Binds.all(h:∀us:List Value,us.length=ps.length->bindArgs fd ⟨us,[]⟩=pure (ps.zip us)):Binds K fd ps []:=λs us _ hl=>by
 rw[K17]at hl ⊢;exact .of_eq (h us hl)
def z6b(CX:CXT)(X:Cx)(E:XK):Prop:=∀(pins:List .(u)) (σ:St) (H:Hp) (s:Shared) (e:Value) (s':Shared),Inv X pins σ H s->CX X.stack H s E e s'->X.xe e s'
section
variable{k:Nat}{f:Addr}{dvs:List V}{E:XK}{m:Str}{o:Expr}
theorem zN7{pins:List .(u)}{σ:St}{H:Hp}{s:Shared}{Q:VK}{us:List Value}{vs:List V}(F:FnOk X.prog X.w X.K X.mg X.base CX k f fd ps sp)(hr:Room k X.A)(hb:Binds X.K fd ps ds)(hd:Vals dvs ds)(hx:z6b CX X E)
 (I:Inv X pins σ H s) (r:Vals vs us) (h:sp (vs++dvs) H Q E):wpAny .(6) X.A (call (.ref f) us) (EP X pins σ Q) X.xe s:=by
 have r2:Vals (vs++dvs) (us++ds):=r.append hd;have hl:(us++ds).length=ps.length:=by rw[<- r2.length];exact F.len _ _ _ _ h
 refine Z1t (K44 (F.run X.A X.stack s H ⟨us,[]⟩ (us++ds) (vs++dvs) Q E hr I.env0 (hb s us I.kIn hl) r2 h) λr s' hq=>?_);cases r with
 | error e=>exact hx pins σ H s e s' I hq
 | ok fl=>
  cases fl with
  | ret u=>exact I.after hq
  | next=>exact K39 hq
  | brk=>exact K39 hq
  | cont=>exact K39 hq
theorem zE1(F:FnOk X.prog X.w X.K X.mg X.base CX k f fd ps sp)(hr:Room k X.A)(hg:Gl X x)(hm:X.mg x=.(r f))(hk:K2o X.K (.ref f)=true)(hb:Binds X.K fd ps ds)(hd:Vals dvs ds)(hx:z6b CX X E)
 (ha:PA X (e::es) t) (hdb:(x==("__debug__":Str))=false:=by decide) (he:K0k (e::es) X.env=(false,eval e X.env)::K0k es X.env:=by rfl) (hpl:(backTo pos (K0k es X.env)).any (·.1)=false:=by rfl) :
 PE X (.Call (.Name x p) (e::es) [] pos) (Z1b sp dvs E t):=by
 intro pins s σ H Q I h;refine K5w (zc4 I hg hm ?_ hdb);refine PySem.W.callWith_K (h₀:=X.base) I.ok.mod.kin hk (thn (ha pos pins s σ H _ I h) λus s1 ⟨vs,H1,I1,r,q⟩=>⟨I1.kIn,?_⟩) he hpl;exact zN7 F hr hb hd hx I1 r q
end
def PK(X:Cx)(kws:List K5b)(t:TA):Prop:=
 ∀(pos:Pos) (pins:List .(u)) (s:Shared) (σ:St) (H:Hp) (Q:List V->Hp->Prop),Inv X pins σ H s->t σ H Q->wpAny .(6) X.A (evalAll ((K4s pos (K37 kws X.env)).map (·.2))) (AP X pins σ Q) X.xe s
section
variable{k:Nat}{f:Addr}{ks:List Str}{E:XK}{m:Str}{kpos:Pos}{o:Expr}{tk:TA}
theorem zS2:PK X [] tNil:=λ_ _ _ _ H Q I h=>wpAny_evalAll_nil ⟨[],H,I,.nil,h⟩
theorem zJ9(ha:PE X e te)(hr:PK X kws t):PK X (⟨nm,e,kpos⟩::kws) (zg3 te t):=by
 intro pos pins s σ H Q I h;show wpAny _ _ (evalAll ((do let v <- eval e X.env;K5a pos;pure v)::(K4s pos (K37 kws X.env)).map (·.2))) _ _ s;refine wpAny_evalAll_cons (K0 (thn (ha pins s σ H _ I h) λu s1 ⟨x,H1,I1,r1,q1⟩=>K0 (K3o (K4 ?_))));exact thn (hr pos pins s1 σ H1 _ I1 q1) λus s2 ⟨xs,H2,I2,r2,q2⟩=>⟨x::xs,H2,I2,.cons r1 r2,q2⟩
structure KBinds(K:K5)(fd:K53)(ps ks:List Str)(g:List Value->List Value->List Value)(gV:List V->List V->List V):Prop where
 to:∀(s:Shared) (us ws:List Value),K.In s.heap->(g us ws).length=ps.length->K8u s fd ⟨us,ks.zip ws⟩ (ps.zip (g us ws))
 rel:∀{vs:List V} {us:List Value} {zs:List V} {ws:List Value},Vals vs us->Vals zs ws->Vals (gV vs zs) (g us ws)
def zV2(sp:Sp)(gV:List V->List V->List V)(E:XK)(t tk:TA):TE:=λσ H Q=>t σ H λvs H1=>tk σ H1 λzs H2=>sp (gV vs zs) H2 Q E
theorem zI3{pins:List .(u)}{σ:St}{H:Hp}{s:Shared}{Q:VK}{us ws:List Value}{vs zs:List V}(F:FnOk X.prog X.w X.K X.mg X.base CX k f fd ps sp)(hr:Room k X.A)(hb:KBinds X.K fd ps ks g gV)(hx:z6b CX X E)
 (I:Inv X pins σ H s) (r:Vals vs us) (rz:Vals zs ws) (h:sp (gV vs zs) H Q E):wpAny .(6) X.A (call (.ref f) us (ks.zip ws)) (EP X pins σ Q) X.xe s:=by
 have r2:=hb.rel r rz;have hl:(g us ws).length=ps.length:=by rw[<- r2.length];exact F.len _ _ _ _ h
 refine Z1t (K44 (F.run X.A X.stack s H ⟨us,ks.zip ws⟩ (g us ws) (gV vs zs) Q E hr I.env0 (hb.to s us ws I.kIn hl) r2 h) λr s' hq=>?_);cases r with
 | error e=>exact hx pins σ H s e s' I hq
 | ok fl=>
  cases fl with
  | ret u=>exact I.after hq
  | next=>exact K39 hq
  | brk=>exact K39 hq
  | cont=>exact K39 hq
theorem zr0(F:FnOk X.prog X.w X.K X.mg X.base CX k f fd ps sp)(hr:Room k X.A)(hg:Gl X x)(hm:X.mg x=.(r f))(hk:K2o X.K (.ref f)=true)(hb:KBinds X.K fd ps ks g gV)(hx:z6b CX X E)
 (ha:PA X (e::es) t) (hkw:PK X kws tk) (hall:(K4s pos (K37 kws X.env)).all (·.1.isSome)=true:=by rfl) (hks:(K4s pos (K37 kws X.env)).filterMap (·.1)=ks:=by rfl)
 (hdb:(x==("__debug__":Str))=false:=by decide) (he:K0k (e::es) X.env=(false,eval e X.env)::K0k es X.env:=by rfl)
 (hpl:((backTo pos (K0k (e::es) X.env)).any (·.1)||(K4s pos (K37 kws X.env)).any (·.1.isNone))=false:=by rfl) :
 PE X (.Call (.Name x p) (e::es) kws pos) (zV2 sp gV E t tk):=by
 intro pins s σ H Q I h;refine K5w (zc4 I hg hm ?_ hdb);refine PySem.W.callWith_KW (h₀:=X.base) I.ok.mod.kin hk hall (thn (ha pos pins s σ H _ I h) λus s1 ⟨vs,H1,I1,r,q⟩=>?_) hpl he;refine thn (hkw pos pins s1 σ H1 _ I1 q) λws s2 ⟨zs,H2,I2,rz,q2⟩=>⟨I2.kIn,?_⟩;rw[hks];exact zI3 F hr hb hx I2 r rz q2
end
structure FnScope(N P:List Str)(sc:Scope):Prop where
 kind:sc.kind=.function
 co:sc.isCoroutine=false
 gen:sc.isGenerator=false
 nd:N.Nodup
 pre:N.take P.length=P
 par:∀x∈P,sc.names.lookup x=some .local\/sc.names.lookup x=some .cell
 nofree:∀y∈sc.names,y.2≠.free
theorem z65{kindOf:Str->Option K6a}{x:Str}:∀{binds:List (Str×Value)}{m:Str->Option Value},(∀v,(x,v)∉binds)->bindL kindOf binds m x=m x
 | [],_,_=>rfl
 | (n,v)::r,m,h=>by
  unfold bindL;rw[z65 λw hw=>h w (K14 _ hw)];split
  ·have:x≠n:=by rintro rfl;exact h v K18
   simp[this]
  ·rfl
theorem z6s{kindOf:Str->Option K6a}{x:Str}:∀{binds:List (Str×Value)}{m:Str->Option Value},(∀v,(x,v)∉binds)->bindC kindOf binds m x=m x
 | [],_,_=>rfl
 | (n,v)::r,m,h=>by
  unfold bindC;rw[z6s λw hw=>h w (K14 _ hw)];split
  ·rfl
  ·have:x≠n:=by rintro rfl;exact h v K18
   simp[this]
theorem z6T{kindOf:Str->Option K6a}{x:Str}{v:Value}:∀{P:List Str}{vs:List Value}{i:Nat}{m:Str->Option Value},P.Nodup->P[i]?=some x->vs[i]?=some v->kindOf x=some .local ->
 bindL kindOf (P.zip vs) m x=some v
 | [],_,_,_,_,h,_,_=>by simp at h
 | _::_,[],_,_,_,_,h,_=>by simp at h
 | p::P,w::vs,0,m,nd,h1,h2,hk=>by
  simp at h1 h2;subst h1;subst h2;show bindL kindOf ((p,w)::P.zip vs) m p=_;unfold bindL;rw[z65 λv hv=>(K4p.mp nd).1 (K93 hv).1,if_pos hk];simp
 | p::P,w::vs,i+1,m,nd,h1,h2,hk=>by
  show bindL kindOf ((p,w)::P.zip vs) m x=_;unfold bindL;exact z6T (i:=i) (K4p.mp nd).2 (by simpa using h1) (by simpa using h2) hk
theorem z6d{kindOf:Str->Option K6a}{x:Str}{v:Value}:∀{P:List Str}{vs:List Value}{i:Nat}{m:Str->Option Value},P.Nodup->P[i]?=some x->vs[i]?=some v->kindOf x≠some .local ->
 bindC kindOf (P.zip vs) m x=some v
 | [],_,_,_,_,h,_,_=>by simp at h
 | _::_,[],_,_,_,_,h,_=>by simp at h
 | p::P,w::vs,0,m,nd,h1,h2,hk=>by
  simp at h1 h2;subst h1;subst h2;show bindC kindOf ((p,w)::P.zip vs) m p=_;unfold bindC;rw[z6s λv hv=>(K4p.mp nd).1 (K93 hv).1,if_neg hk];simp
 | p::P,w::vs,i+1,m,nd,h1,h2,hk=>by
  show bindC kindOf ((p,w)::P.zip vs) m x=_;unfold bindC;exact z6d (i:=i) (K4p.mp nd).2 (by simpa using h1) (by simpa using h2) hk
def start(N:List Str)(vs:List V):St:=vs.map some++K0t (N.length - vs.length) none
def cxOf(CX:CXT)(P:K1i)(w:World)(K:K5)(mg:Str->Option Value)(base:Heap)(N:List Str)(qual:Str)(scope:Scope)(f:Addr)(cd:Value)(A:Around)(outer:List Env)(s:Shared)(H:Hp)(E:XK):Cx where
 prog:=P
 w:=w
 K:=K
 mg:=mg
 base:=base
 A:=A.deeper (envOfC qual scope .(3) f cd)
 N:=N
 s₀:=s
 H₀:=H
 env:=envOfC qual scope .(3) f cd
 outer:=outer
 stack:=envOfC qual scope .(3) f cd::outer
 ex:=[]
 calm:=true
 fn:=λ_=>true
 pn:=[]
 xe:=λe s'=>wpAny .(x) (A.deeper (envOfC qual scope .(3) f cd)) (leaving (envOfC qual scope .(3) f cd) e) (λ_ s''=>CX outer H s E e s'') (λe' s''=>CX outer H s E e' s'') s'
theorem z7T{sc:Scope}(h:sc.names.lookup x=some .cell):∃c,(cellsFrom n sc.names []).lookup x=some c:=by
 have q:=K8x sc.names n [] (.inl h);exact Option.isSome_iff_exists.mp q
theorem zd1{CX:CXT}{P:K1i}{w:World}{K:K5}{mg:Str->Option Value}{base:Heap}{N ps:List Str}{qual:Str}{scope:Scope}{f:Addr}{cd:Value}{A:Around}{outer:List Env}{s s1:Shared}{H:Hp}{E:XK}{us:List Value}{vs:List V}
 (S:FnScope N ps scope) (hd:A.handled=none) (e0:Env0 P w K mg base A outer s H) (hl:vs.length=ps.length) (r:Vals vs us)
 (x:InCallC s s.heap.objs.size (bindL (envOfC qual scope s.heap.objs.size f cd).kindOf (ps.zip us) λ_=>none) (cellsFrom (s.heap.objs.size+1) scope.names []) (bindC (envOfC qual scope s.heap.objs.size f cd).kindOf (ps.zip us) λ_=>none) s1) :
 Inv (cxOf CX P w K mg base N qual scope f cd A outer s H E) [] (start N vs) H s1:=by
 have hpl:ps.length<=N.length:=by have:=congrArg Z2z S.pre;rw[K1e]at this;omega
 obtain⟨h1,tk,rfl,hk⟩:=x.done;have noA:∀b:Addr,b∉(cxOf CX P w K mg base N qual scope f cd A outer s H E).ex:=λb z=>absurd (show b∈([]:List Addr) from z) .(e);refine⟨⟨e0.mod,S.kind,rfl,rfl,K01 _,λy z c h1 h2=>?_,λy hy=>?_,λy c _ h=>?_,λ_=>hd,Around.frames_deeper e0.frames,.inr ⟨rfl,rfl⟩,λb z=>absurd z (noA b),e0.bs,e0.bsz,λb _ _=>noA b,λb z=>absurd z (noA b),e0.funs,e0.frf⟩,
  rfl,e0.bare,Un.kept hk,⟨_,x.toInCall.ns,λi y v h1 h2 h3=>?_⟩,λy c h=>⟨_,x.cell y c h⟩,e0.hok.fresh (K01 _),λy c h=>?_,λp hp=>absurd (show p∈([]:List .(u)) from hp) .(e),e0.hok.kept hk,?_⟩
 ·exact name_of_addr x.apart (K2j h1) (K2j h2)
 ·have hy:scope.names.lookup y=some .cell\/scope.names.lookup y=some .free:=hy;rcases hy with hy|hy
  ·exact z7T hy
  ·exact absurd rfl (S.nofree _ (K2j hy))
 ·exact K56 (x.above y c (K2j h))
 ·have hi:i<vs.length:=by
   unfold start at h2;by_cases hi:i<vs.length
   ·exact hi
   ·rw[K0i (by simpa using hi)]at h2;rw[K8o]at h2;split at h2<;>cases h2
  have ha:vs[i]?=some v:=by
   unfold start at h2;rw[K0s (by simpa using hi),K0a]at h2;cases e:vs[i]? with
   | none=>rw[e]at h2;cases h2
   | some a=>rw[e]at h2;cases h2;rfl
  obtain⟨u,hu,rv⟩:=r.get ha;have hp:ps[i]?=some y:=by
   rw[<- S.pre,List.getElem?_take_of_lt .(0)];exact h1
  have ndP:ps.Nodup:=by rw[<- S.pre];exact S.nd.sublist (Z2a _ _)
  refine⟨u,rv,?_⟩;rcases S.par y (K0d hp) with k|k
  ·exact .inl ⟨k,z6T ndP hp hu k⟩
  ·obtain⟨c,e⟩:=z7T (n:=.(3)+1) k;refine .inr ⟨.inl k,c,e,?_⟩;have q:=x.cell y c e;rw[z6d ndP hp hu (by show scope.names.lookup y≠_;rw[k];decide)]at q;exact q
 ·exact e0.hok.fresh (K56 (x.above y c (K2j h)))
 ·unfold start;show _=N.length;rw[K3,K0c,List.length_replicate];omega
theorem zz5{CX:CXT}{P:K1i}{w:World}{K:K5}{mg:Str->Option Value}{base:Heap}{k:Nat}{f:Addr}{name qual:Str}{params:Arguments}{body:List Stmt}{scope:Scope}{dV kV doc pm cdv ct oc:Value}{an od:Option Addr}
 {osl:Array (Option Value)} {N ps:List Str} {sp:Sp} (lk:K.lookup f=some ⟨oc,od,.func (K2i name qual params body scope dV kV doc pm an cdv ct),osl⟩) (hcd:K2y K cdv qual=true) (S:FnScope N ps scope)
 (len:∀vs H Q E,sp vs H Q E->vs.length=ps.length)
 (hbody:∀(A:Around) (outer:List Env) (s:Shared) (H:Hp) (vs:List V) (Q:VK) (E:XK),Room k (A.deeper (envOfC qual scope .(3) f cdv))->sp vs H Q E ->
  ∃t,PSs (cxOf CX P w K mg base N qual scope f cdv A outer s H E) body t/\t { nx:=λ_ H'=>Q .non H',rt:=Q } (start N vs) H) :
 FnOk P w K mg base CX (k+1) f (K2i name qual params body scope dV kV doc pm an cdv ct) ps sp:=by
 refine⟨len,λA outer s H args us vs Q E hr e0 hb r hsp=>?_⟩;have hl:=len _ _ _ _ hsp;have KX:K.In s.heap:=e0.mod.kin.keeps λb o e=>(e0.bs b o e).1;have lim:s.heap.NoLimit:=e0.mod.nolimit.keeps λb o e=>(e0.bs b o e).1;have hkind:∀y∈ps.zip us,scope.names.lookup y.1=some .local\/(scope.names.lookup y.1=some .cell/\((cellsFrom (s.heap.objs.size+1) scope.names []).lookup y.1).isSome=true):=λ⟨n,v⟩ hy=>by
  rcases S.par n (K93 hy).1 with q|q
  ·exact .inl q
  ·exact .inr ⟨q,K8x _ _ _ (.inl q)⟩
 refine codeAny_call_function hr.depth (KX _ _ lk) rfl S.co S.gen rfl (PySem.W.codeRec_of KX hcd) (hb _ _ _ _ ?_);refine wpAny_newFunctionEnv_cells S.kind hkind λenv he s1 x=>?_;subst he;refine⟨lim.keeps x.toInCall.keep,codeAny_func ?_⟩;obtain⟨t,ht,hq⟩:=hbody A outer s H vs Q E (hr.deeper _) hsp;have I:Inv (cxOf CX P w K mg base N qual scope f cdv A outer s H E) [] (start N vs) H s1:=zd1 S hr.hd e0 hl r x;refine K49 (ht [] s1 (start N vs) H _ I hq) (λfl s' hs=>?_) λe s' hs=>hs;have fin:∀{σ':St} {H':Hp} {v:V} {u:Value},Inv (cxOf CX P w K mg base N qual scope f cdv A outer s H E) [] σ' H' s'->RelV v u->Q v H'->CE outer P w H s Q u s':=
  λ{σ' H' v u} J rv q=>⟨v,H',J.os,J.bare,J.base,J.hok,rv,q⟩
 cases fl with
 | ret u=>
  obtain⟨v,σ',H',J,rv,q⟩:=hs;exact fin J rv q
 | next=>
  obtain⟨σ',H',J,q⟩:=hs;exact fin (v:=V.non) (u:=K2z) J rfl q
 | brk=>
  obtain⟨_,_,_,q⟩:=hs;exact K39 q
 | cont=>
  obtain⟨_,_,_,q⟩:=hs;exact K39 q
section
variable{id T:String}
def tCB(r:List V->Hp->VK->Prop)(t:TA):TE:=λσ H Q=>t σ H λvs H1=>r vs H1 Q
theorem z3k(hc:z43 X (.builtin id) r)(hg:Gl X x)(hm:X.mg x=none)(hv:K59 x=some (.builtin id))(ha:PA X (e::es) t)(hn:x≠"__name__":=by decide)(hdb:(x==("__debug__":Str))=false:=by decide)
 (he:K0k (e::es) X.env=(false,eval e X.env)::K0k es X.env:=by rfl) (hpl:(backTo pos (K0k es X.env)).any (·.1)=false:=by rfl):PE X (.Call (.Name x p) (e::es) [] pos) (tCB r t):=by
 intro pins s σ H Q I h;refine K5w (z3W I hg hm hv ?_ hn hdb);exact PyProof.Rows.callWith_builtin1 (thn (ha pos pins s σ H _ I h) λus s1 ⟨vs,H1,I1,r1,q1⟩=>hc pins s1 σ H1 vs us Q I1 r1 q1) he hpl
theorem z2n(hc:z43 X (.type T) r)(hg:Gl X x)(hm:X.mg x=none)(hv:K59 x=some (.type T))(ha:PA X (e::es) t)(hn:x≠"__name__":=by decide)(hdb:(x==("__debug__":Str))=false:=by decide)
 (he:K0k (e::es) X.env=(false,eval e X.env)::K0k es X.env:=by rfl) (hpl:(backTo pos (K0k es X.env)).any (·.1)=false:=by rfl):PE X (.Call (.Name x p) (e::es) [] pos) (tCB r t):=by
 intro pins s σ H Q I h;refine K5w (z3W I hg hm hv ?_ hn hdb);exact K2w (thn (ha pos pins s σ H _ I h) λus s1 ⟨vs,H1,I1,r1,q1⟩=>hc pins s1 σ H1 vs us Q I1 r1 q1) he hpl
end
end L2
namespace HT
open PySem PyProof.Rows
variable{E Q:Value->Shared->Prop}{sl:Addr}{vl vu:Value}{lo hi:Option Int}
section
variable{prog:K1i}{w:World}{A:Around}{s:Shared}
theorem cat_tup{t b:Addr}{vs ws:List Value}{Q:Value->Shared->Prop}(ht:IsTup s.heap t vs.toArray)(hb:IsTup s.heap b ws.toArray)(hv:vs≠[])
 (h1:ws=[]->Q (.ref t) s) (h2:ws≠[]->Q (.ref .(3)) { s with heap:=s.heap.push { cls:=.type "tuple",data:=.seq (vs++ws).toArray } })
 (hsz:vs.length+ws.length<=sizeLine):wpAny (model prog w) A (K2r .Add (.ref t) (.ref b)) Q E s:=by
 obtain⟨⟨cls,dd,data,sl⟩,ho,hc,n,hd⟩:=id ht;obtain⟨⟨cls2,dd2,data2,sl2⟩,ho2,hc2,n2,hd2⟩:=id hb;simp only at hc hd hc2 hd2;subst hc hd hc2 hd2;have e:vs.toArray++ws.toArray=(vs++ws).toArray:=by simp
 by_cases hw:ws=[]
 ·exact Z2h ⟨_,ho,rfl⟩ ⟨_,ho2,rfl⟩ K8n Z1n K6h K63 (K5o _ _)
   (tuple_addW1 t b vs.toArray ws.toArray n n2 dd dd2 sl sl2 (by simpa using hv) (by simp[hw])) ⟨ho,ho2,h1 hw⟩
 ·refine Z2h ⟨_,ho,rfl⟩ ⟨_,ho2,rfl⟩ K8n Z1n K6h K63 (K5o _ _)
   (tuple_addW2 t b vs.toArray ws.toArray n n2 dd dd2 sl sl2 (by simpa using hv) (by simpa using hw) (by rw[K07,K07];exact hsz)) ⟨ho,ho2,?_⟩
  rw[e];exact h2 hw
def sIx(n d:Nat):Option Int->Nat
 | none=>d
 | some v=>if v<0 then (v+(n:Int)).toNat else min v.toNat n
theorem sIx_none(n d:Nat):sIx n d none=d:=rfl
theorem sIx_nat(n d k:Nat):sIx n d (some (k:Int))=min k n:=by
 show (if (k:Int)<0 then ((k:Int)+(n:Int)).toNat else min (k:Int).toNat n)=min k n;rw[if_neg .(0),K0u]
theorem zN8(n d:Nat)(hd:d<=n)(o:Option Int):sIx n d o<=n:=by
 cases o with
 | none=>exact hd
 | some v=>
  show (if v<0 then (v+(n:Int)).toNat else min v.toNat n)<=n;by_cases hv:v<0
  ·rw[if_pos hv];omega
  ·rw[if_neg hv];exact Nat.min_le_right _ _
theorem z9N(v:Int)(n d:Nat):(if v<0 then max (v+(n:Int)) 0 else min v (n:Int))=((sIx n d (some v):Nat):Int):=by
 show (if v<0 then max (v+(n:Int)) 0 else min v (n:Int))=(((if v<0 then (v+(n:Int)).toNat else min v.toNat n):Nat):Int);by_cases hv:v<0
 ·simp only[if_pos hv];omega
 ·simp only[if_neg hv];omega
theorem z9j(lo hi:Option Int)(n:Nat):K5d lo hi 1 (n:Int)=(((sIx n 0 lo:Nat):Int),((sIx n n hi:Nat):Int)):=by
 have h1:¬ ((1:Int)<0):=by omega
 unfold K5d;simp only[h1,if_false];refine Prod.ext ?_ ?_
 ·cases lo with
  | none=>rfl
  | some v=>exact z9N v n 0
 ·cases hi with
  | none=>rfl
  | some v=>exact z9N v n n
theorem z92(i j:Nat):K3v (i:Int) (j:Int) 1=j - i:=by
 unfold K3v;have h1:(1:Int) > 0:=by omega
 simp only[h1,if_true,Int.ediv_one];split<;>omega
theorem z57{v:Value}{o:Option Int}{Q:Option Int->Shared->Prop}(p:IsPart v o)(h:Q o s):wpAny (model prog w) A (Builtin.Slice.slicePartIndex v) Q E s:=by
 cases p with
 | none=>exact slicePart_none h
 | int i t=>exact slicePart_int h
theorem sliceApplied_gen{n:Nat}{Q:Int×Int×Nat->Shared->Prop}(hs:s.heap.IsSliceOf sl vl vu .none)(pl:IsPart vl lo)(pu:IsPart vu hi)
 (h:Q (((sIx n 0 lo:Nat):Int),1,sIx n n hi - sIx n 0 lo) s):wpAny (model prog w) A (K7h (.ref sl) (pure (n:Int))) Q E s:=by
 obtain⟨os,hos,hcs,hds⟩:=id hs;unfold K7h Builtin.Slice.sliceFields;refine K0 (K0 (K60 hos hds (x:=vl) rfl (K0 (K60 hos hds (x:=vu) rfl (K0 (K60 hos hds (x:=.none) rfl (K4 ?_)))))));refine K0 (slicePart_none ?_);show wpAny _ _ (if ((1:Int)==0)=true then _ else _) _ _ s;rw[if_neg .(1)];refine K0 (z57 pl (K0 (z57 pu (K0 (K4 ?_)))));show wpAny _ _ (match K5d lo hi 1 (n:Int) with|(lo,hi)=>pure (lo,(1:Int),K3v lo hi 1)) _ _ s;rw[z9j lo hi n];show wpAny _ _ (pure (((sIx n 0 lo:Nat):Int),(1:Int),K3v ((sIx n 0 lo:Nat):Int) ((sIx n n hi:Nat):Int) 1)) _ _ s;rw[z92];exact K4 h
theorem zo5(xs:Array Value)(i k:Nat):((K0b k).filterMap λ(m:Nat)=>xs[((i:Int)+(m:Int) * 1).toNat]?).toArray=((xs.toList.drop i).take k).toArray:=by
 have e:(λ(m:Nat)=>xs[((i:Int)+(m:Int) * 1).toNat]?)=λm=>xs[i+m]?:=by
  funext m;have:((i:Int)+(m:Int) * 1).toNat=i+m:=by omega
  rw[this]
 rw[e];have:=pick_run xs i k;rw[K7j]at this;have e2:((λx=>xs[x]?) ∘ λx=>i+x)=λm=>xs[i+m]?:=rfl;rw[e2]at this;rw[this]
theorem getItem_tuple_cut{t:Addr}{items:Array Value}{Q:Value->Shared->Prop}(ht:IsTup s.heap t items)(hs:s.heap.IsSliceOf sl vl vu .none)(pl:IsPart vl lo)(pu:IsPart vu hi)
 (hw:¬ (sIx .(w) 0 lo=0/\sIx .(w) .(w) hi=.(w)))
 (h:Q (.ref .(3)) { s with heap:=s.heap.push { cls:=.type "tuple",data:=.seq ((items.toList.drop (sIx .(w) 0 lo)).take (sIx .(w) .(w) hi - sIx .(w) 0 lo)).toArray } })
 (hsz:.(w)<=sizeLine):wpAny (model prog w) A (K75 (.ref t) (.ref sl)) Q E s:=by
 have htake:sizeOk (.seq ((items.toList.drop (sIx .(w) 0 lo)).take (sIx .(w) .(w) hi - sIx .(w) 0 lo)).toArray):=by
  show ((items.toList.drop (sIx .(w) 0 lo)).take (sIx .(w) .(w) hi - sIx .(w) 0 lo)).toArray.size<=sizeLine;rw[K07,K1e,K4g,K1d];omega
 have hj:sIx .(w) .(w) hi<=items.size:=zN8 _ _ (K01 _) hi;obtain⟨os,hos,hcs,hds⟩:=id hs;have hTs:s.TypeIs (.ref sl) "slice":=⟨os,hos,hcs⟩;unfold K75
 try with_reducible refine K1h ?_
 first|refine K0 (K4 ?_)|skip
 refine K0 (wpAny_sequenceKey ht.typeIs .(1) ?_);refine K0 (K2v (name:=K03 "__getitem__") ht.typeIs K1x
  (K2a K1x ht.typeIs Z1g ?_ (args_tuple_getitem _ _)))
 show wpAny _ _ (K7f (.ref t) >>= _) _ _ s;refine K0 (tupleItemsOf_ ht ?_);refine K0 (K58 hTs ?_);rw[if_pos .(1)];refine K0 (sliceApplied_gen hs pl pu ?_);have hno:¬ ((((sIx .(w) 0 lo:Nat):Int)==0&&(1:Int)==1&&(sIx .(w) .(w) hi - sIx .(w) 0 lo)==.(w))=true):=by
  intro q;rw[K0e,K0e]at q;have q1:((sIx .(w) 0 lo:Nat):Int)=0:=eq_of_beq q.1.1;have q2:sIx .(w) .(w) hi - sIx .(w) 0 lo=items.size:=eq_of_beq q.2;exact hw ⟨by omega,by omega⟩
 show wpAny _ _ (if (((sIx .(w) 0 lo:Nat):Int)==0&&(1:Int)==1&&(sIx .(w) .(w) hi - sIx .(w) 0 lo)==.(w))=true then _ else _) _ _ s;rw[if_neg hno,zo5]
 first
  | exact K0 (m:=K45 _) (K1v (K4 ⟨_,rfl,K4 h⟩) htake)
  | exact K0 (m:=K45 _) (K1v (K0 (K4 (K4 ⟨_,rfl,K4 h⟩))) htake)
  | exact K0 (K0 (m:=K45 _) (K1v (K4 (K4 ⟨_,rfl,K4 h⟩)) htake))
  | exact K0 (K0 (m:=K45 _) (K1v (K4 ⟨_,rfl,K4 h⟩) htake))
end
end HT
namespace L2
variable{X:Cx}{pos:Pos}{r r':V->Option Int->Option Int->Hp->VK->Prop}{xs ys:List V}{us its its':List Value}{α:Type}{n t':Nat}{pins:List (Addr×Obj)}{σ:St}{H:Hp}{s:Shared}{f:Array Value->Array Value}{u v:Value}{T:String}
abbrev TO:=St->Hp->(Option Int->Hp->Prop)->Prop
def PO(X:Cx)(e:Option Expr)(t:TO):Prop:=
 ∀(pins:List .(u)) (s:Shared) (σ:St) (H:Hp) (Q:Option Int->Hp->Prop),Inv X pins σ H s->t σ H Q ->
  wpAny .(6) X.A (evalPart e X.env) (λu s'=>∃o H',Inv X pins σ H' s'/\IsPart u o/\Q o H') X.xe s
def zB2:TO:=λ_ H Q=>Q none H
def Z0j(t:TE):TO:=λσ H Q=>t σ H λx H1=>∃i,x=.int i/\Q (some i) H1
theorem intsAre_of{ns:List Int}:∀{us:List Value},Vals (ns.map V.int) us->K81 us ns:=by
 induction ns with
 | nil=>intro us r;rw[K1u]at r;cases r;exact .nil
 | cons n ns ih=>
  intro us r;rw[K0p]at r;cases r with
  | cons r1 r2=>
   obtain⟨t,e⟩:=r1;subst e;exact .cons n t (ih r2)
section
variable{e:Expr}{te:TE}{lo hi:Option Expr}{tl th:TO}{p2:Pos}
theorem zC3:PO X none zB2:=by
 intro pins s σ H Q I h;rw[evalPart_none];exact K4 ⟨none,H,I,.none,h⟩
theorem zH9(h:PE X e te):PO X (some e) (Z0j te):=by
 intro pins s σ H Q I hw;rw[evalPart_some];refine thn (h pins s σ H _ I hw) λu s1 ⟨x,H1,I1,r1,q1⟩=>?_;obtain⟨i,rfl,q⟩:=q1;obtain⟨t,rfl⟩:=r1;exact⟨some i,H1,I1,.int i t,q⟩
def SlR(X:Cx)(r:V->Option Int->Option Int->Hp->VK->Prop):Prop:=
 ∀(pins:List .(u)) (s:Shared) (σ:St) (H:Hp) (x:V) (v vl vu:Value) (lo hi:Option Int) (sl:Addr) (Q:VK),Inv X pins σ H s->RelV x v->s.heap.IsSliceOf sl vl vu .none->IsPart vl lo->IsPart vu hi->r x lo hi H Q ->
  ∃T id,typeLookup (.type T) "__getitem__" = pure (some (.builtin id))/\s.TypeIs v T/\wpAny .(6) X.A (K75 v (.ref sl)) (EP X pins σ Q) X.xe s
theorem SlR.or(h:SlR X r)(h':SlR X r'):SlR X (λx lo hi H Q=>r x lo hi H Q\/r' x lo hi H Q):=by
 intro pins s σ H x v vl vu lo hi sl Q I rx hs pl pu q;rcases q with q|q
 ·exact h pins s σ H x v vl vu lo hi sl Q I rx hs pl pu q
 ·exact h' pins s σ H x v vl vu lo hi sl Q I rx hs pl pu q
def tSl(r:V->Option Int->Option Int->Hp->VK->Prop)(te:TE)(tl th:TO):TE:=λσ H Q=>te σ H λx H1=>tl σ H1 λl H2=>th σ H2 λu H3=>r x l u H3 Q
theorem zn5(hr:SlR X r)(he:PE X e te)(hl:PO X lo tl)(hu:PO X hi th):PE X (.Subscript e (.Slice lo hi none p2) pos) (tSl r te tl th):=by
 intro pins s σ H Q I h;refine Subscript_ (thn (he pins s σ H _ I h) λv s1 ⟨x,H1,I1,r1,q1⟩=>?_);refine wpAny_Slice (thn (hl pins s1 σ H1 _ I1 q1) λvl s2 ⟨l,H2,I2,pl,q2⟩=>thn (hu pins s2 σ H2 _ I2 q2) λvu s3 ⟨u,H3,I3,pu,q3⟩=>?_);rw[evalPart_none];refine K4 ?_;have I4:Inv X pins σ H3 { s3 with heap:=s3.heap.push { cls:=.type "slice",data:=.fields #[vl,vu,.none] } }:=I3.kept (t':=s3.toks) λb ob q=>K9 _ q;obtain⟨T,id,hT,ht,hg⟩:=hr pins { s3 with heap:=s3.heap.push { cls:=.type "slice",data:=.fields #[vl,vu,.none] } } σ H3 x v vl vu l u s3.heap.objs.size Q I4 r1 (Heap.IsSliceOf.new ..) pl pu q3;show wpAny .(6) X.A (Z1k e (.Slice lo hi none p2) v (.ref s3.heap.objs.size)) (EP X pins σ Q) X.xe { s3 with heap:=s3.heap.push { cls:=.type "slice",data:=.fields #[vl,vu,.none] } };exact tail_any (ops:=[.ref s3.heap.objs.size,v]) ht hT hg (by with_unfolding_all rfl)
def cutV(xs:List V)(lo hi:Option Int):List V:=(xs.drop (HT.sIx xs.length 0 lo)).take (HT.sIx xs.length xs.length hi - HT.sIx xs.length 0 lo)
theorem z4B(xs:List V)(lo hi:Option Int):(cutV xs lo hi).length<=xs.length:=by
 unfold cutV;rw[K1e,K4g];omega
def rSlT(K:K5):V->Option Int->Option Int->Hp->VK->Prop:=λx lo hi H Q=>∃a xs,x=.ref a/\SqT K H a xs /\
 ¬ (HT.sIx xs.length 0 lo=0/\HT.sIx xs.length xs.length hi=xs.length)/\∀p,H p=none->Q (.ref p) (upd H p (.tup (cutV xs lo hi)))
theorem sl_tup:SlR X (rSlT X.K):=by
 intro pins s σ H x v vl vu lo hi sl Q I rx hs pl pu h;obtain⟨a,xs,rfl,hx,hw,q⟩:=h;cases rx;obtain⟨its,r,ht,hz⟩:=I.tuple hx;have hlen:its.toArray.size=xs.length:=by rw[K07];exact r.length.symm
 refine⟨"tuple",_,K1x.lookup,ht.typeIs,?_⟩;refine HT.getItem_tuple_cut ht hs pl pu (by rw[hlen];exact hw) ?_ (by rw[hlen];exact hz);rw[hlen];refine⟨.ref .(3),_,I.laid (t':=s.toks) (o:=.tup (cutV xs lo hi)) (λb ob q=>K9 _ q) (K01 _) ?_,rfl,q _ (I.hok.fresh (K01 _))⟩;exact⟨K0h (z4B xs lo hi) hz,_,(r.drop (HT.sIx xs.length 0 lo)).take (HT.sIx xs.length xs.length hi - HT.sIx xs.length 0 lo),FT.IsTup0.new _ _⟩
def zI8(K:K5):R2:=λx y H Q=>∃a b xs ys,x=.ref a/\y=.ref b/\SqT K H a xs/\SqT K H b ys/\xs≠[]/\xs.length+ys.length<=sizeLine /\
 (ys=[]->Q (.ref a) H)/\(ys≠[]->∀p,H p=none->Q (.ref p) (upd H p (.tup (xs++ys))))
theorem Vals.nil_iff(r:Vals xs us):us=[]↔xs=[]:=by
 cases r with
 | nil=>simp
 | cons _ _=>simp
theorem op_catT:OpR X (K2r .Add) (zI8 X.K):=by
 intro pins s σ H x y v u Q I rx ry h;obtain⟨a,b,xs,ys,rfl,rfl,ha,hb,hx,hz,q1,q2⟩:=h;cases rx;cases ry;obtain⟨its,r1,p1,_⟩:=I.tuple ha;obtain⟨its2,r2,p2,_⟩:=I.tuple hb;refine HT.cat_tup p1 p2 (λz=>hx (r1.nil_iff.mp z)) (λz=>⟨.ref a,H,I,rfl,q1 (r2.nil_iff.mp z)⟩) (λz=>?_) (by rw[<- r1.length,<- r2.length];exact hz);refine⟨.ref .(3),_,I.laid (t':=s.toks) (o:=.tup (xs++ys)) (λb ob q=>K9 _ q) (K01 _) ?_,rfl,q2 (λw=>z (r2.nil_iff.mpr w)) _ (I.hok.fresh (K01 _))⟩;exact⟨by rw[K3];exact hz,_,r1.append r2,FT.IsTup0.new _ _⟩
end
def ixN(n:Nat)(i:Int):Option Nat:=if 0<=i then (if i<n then some i.toNat else none) else if -(n:Int)<=i then some (i+n).toNat else none
def atI(xs:List α)(i:Int):Option α:=(ixN xs.length i).bind λj=>xs[j]?
theorem zf5{i:Int}{j:Nat}(h:ixN n i=some j):K8j i n=some j/\j<n/\-(n:Int)<=i/\i<n:=by
 unfold ixN at h;by_cases h0:0<=i
 ·rw[if_pos h0]at h;by_cases h1:i<n
  ·rw[if_pos h1]at h;have e:i.toNat=j:=K0y h;exact⟨by rw[Z33 h0 h1,e],by omega,by omega,h1⟩
  ·rw[if_neg h1]at h;cases h
 ·rw[if_neg h0]at h;by_cases h1:-(n:Int)<=i
  ·rw[if_pos h1]at h;have e:(i+n).toNat=j:=K0y h;exact⟨by rw[Z2g .(0) h1,e],by omega,h1,by omega⟩
  ·rw[if_neg h1]at h;cases h
theorem z7z{xs:List α}{i:Int}{v:α}(h:atI xs i=some v):∃j,K8j i xs.length=some j/\xs[j]?=some v/\j<xs.length/\-(xs.length:Int)<=i/\i<xs.length:=by
 unfold atI at h;cases e:ixN xs.length i with
 | none=>rw[e]at h;cases h
 | some j=>
  rw[e]at h;obtain⟨h1,h2,h3,h4⟩:=zf5 e;exact⟨j,h1,h,h2,h3,h4⟩
theorem z0w{xs:List α}{j:Nat}{v:α}(h:xs[j]?=some v):atI xs (j:Int)=some v:=by
 have hj:j<xs.length:=(K02.mp h).1;have e:ixN xs.length (j:Int)=some j:=by
  unfold ixN;rw[if_pos .(0),if_pos .(0)];simp
 unfold atI;rw[e];exact h
theorem zt7(xs:List α)(v:α):atI (xs++[v]) (-1)=some v:=by
 have hl:(xs++[v]).length=xs.length+1:=by simp
 have e:ixN (xs++[v]).length (-1)=some xs.length:=by
  unfold ixN;rw[hl,if_neg .(1),if_pos .(0)];congr 1;omega
 unfold atI;rw[e];show (xs++[v])[xs.length]?=some v;simp
def zd5(b:Expr):Prop:=∀o i,K9l b false o i=operate [o,i] (K75 o i)
def IxR(X:Cx)(r:R2):Prop:=
 ∀(value slice:Expr) (pins:List .(u)) (s:Shared) (σ:St) (H:Hp) (x y:V) (v u:Value) (Q:VK),Inv X pins σ H s->RelV x v->RelV y u->r x y H Q ->
  K9l slice false v u=operate [v,u] (K75 v u)->wpAny .(6) X.A (Z1k value slice v u) (EP X pins σ Q) X.xe s
def MtR(X:Cx)(id:String)(r:V->List V->Hp->VK->Prop):Prop:=
 ∀(pins:List .(u)) (s:Shared) (σ:St) (H:Hp) (x:V) (xs:List V) (v:Value) (us:List Value) (Q:VK),Inv X pins σ H s->RelV x v->Vals xs us->r x xs H Q ->
  wpAny .(6) X.A (call (.builtin id) (v::us)) (EP X pins σ Q) X.xe s
section
variable{a b:Expr}{ta tb:TE}
theorem IxR.or{r r':R2}(h:IxR X r)(h':IxR X r'):IxR X (λx y H Q=>r x y H Q\/r' x y H Q):=by
 intro value slice pins s σ H x y v u Q I rx ry q hs;rcases q with q|q
 ·exact h value slice pins s σ H x y v u Q I rx ry q hs
 ·exact h' value slice pins s σ H x y v u Q I rx ry q hs
theorem Z0n{r:R2}(hr:IxR X r)(ha:PE X a ta)(hb:PE X b tb)(hs:zd5 b):PE X (.Subscript a b pos) (tOp r ta tb):=by
 intro pins s σ H Q I h;exact Subscript_ (binT ha hb I h λv u s2 x y H2 I2 rx ry q=>hr a b pins s2 σ H2 x y v u Q I2 rx ry q (hs _ _))
def rIxL(K:K5):R2:=λx y H Q=>∃p xs i v,x=.ref p/\y=.int i/\SqL K H p xs/\atI xs i=some v/\Q v H
def rIxT(K:K5):R2:=λx y H Q=>∃p xs i v,x=.ref p/\y=.int i/\SqT K H p xs/\atI xs i=some v/\Q v H
def rIxS:R2:=λx y H Q=>∃z i c,x=.str z/\y=.int i/\z.length<=sizeLine/\atI z.cps.toList i=some c/\Q (.str ⟨#[c]⟩) H
theorem ix_list:IxR X (rIxL X.K):=by
 intro value slice pins s σ H x y v u Q I rx ry h hs;obtain⟨p,xs,i,z,rfl,rfl,hq,he,q⟩:=h;cases rx;obtain⟨t,rfl⟩:=ry;obtain⟨its,r,pl,hz⟩:=I.list hq;obtain⟨j,h1,h2,h3,h4,h5⟩:=z7z he;obtain⟨w,ew,rw'⟩:=r.get h2;have hl:=r.length;have hn:=z4Z;have fin:EP X pins σ Q w s:=⟨z,H,I,rw',q⟩;by_cases h0:0<=i
 ·have hj:i.toNat=j:=by
   rw[Z33 h0 h5]at h1;exact K0y h1
  exact item_listR pl.isList h0 .(0) (by rw[hj];simpa using ew) fin hs
 ·have hj:(i+(its.toArray.size:Int)).toNat=j:=by
   rw[Z2g .(0) h4]at h1;rw[K07,<- hl];exact K0y h1
  exact K91 (x:=w) pl.isList.typeIs Z1x.lookup
   (wpAny_getItem_list_neg (Q:=λr s'=>r=w/\EP X pins σ Q r s') pl.isList .(0) (by rw[K07]<;>omega) .(0) (by rw[hj];simpa using ew) ⟨rfl,fin⟩) hs
theorem ix_tup:IxR X (rIxT X.K):=by
 intro value slice pins s σ H x y v u Q I rx ry h hs;obtain⟨p,xs,i,z,rfl,rfl,hq,he,q⟩:=h;cases rx;obtain⟨t,rfl⟩:=ry;obtain⟨its,r,pl,hz⟩:=I.tuple hq;obtain⟨j,h1,h2,h3,h4,h5⟩:=z7z he;obtain⟨w,ew,rw'⟩:=r.get h2;have hl:=r.length;have hn:=z4Z;have fin:EP X pins σ Q w s:=⟨z,H,I,rw',q⟩;exact K91 (x:=w) pl.typeIs slot_tuple_getitem.lookup
  (getItem_tuple (j:=j) (Q:=λr s'=>r=w/\EP X pins σ Q r s') pl .(0) .(0) (by rw[K07,<- hl];exact h1) (by simpa using ew) ⟨rfl,fin⟩) hs
theorem zY6:IxR X rIxS:=by
 intro value slice pins s σ H x y v u Q I rx ry h hs;obtain⟨z,i,c,rfl,rfl,hz,he,q⟩:=h;obtain⟨t,rfl⟩:=rx;obtain⟨t',rfl⟩:=ry;obtain⟨j,h1,h2,h3,h4,h5⟩:=z7z he;have hl:z.cps.toList.length=z.length:=by simp[Z1q]
 rw[hl]at h1 h4 h5;have hn:=z4Z;exact tail_any (typeIs_str s z t) slot_str_getitem.lookup (getItem_str (c:=c) (by
  have e1:decide (i < -(2 ^ 63:Int))=false:=.(k) .(0);have e2:decide (i >= 2 ^ 63)=false:=.(k) .(0);rw[e1,e2,Bool.or_false]) (by rw[h1];simpa using h2) ⟨.str ⟨#[c]⟩,H,I.tok _,⟨_,rfl⟩,q⟩) hs
def rIx(K:K5):R2:=λx y H Q=>rIxL K x y H Q\/rIxT K x y H Q\/rIxS x y H Q
theorem zR3:IxR X (rIx X.K):=ix_list.or (ix_tup.or zY6)
theorem z9s(its:List Value)(n j:Nat)(u:Value):K48 (·.setIfInBounds j u) { cls:=.type "list",data:=.seq its.toArray n }={ cls:=.type "list",data:=.seq (its.set j u).toArray n }:=by
 simp[K48]
theorem Inv.lst{pins:List .(u)}{σ:St}{H:Hp}{s:Shared}{p:Addr}{xs:List V}(I:Inv X pins σ H s)(h:H p=.(l xs)) :
 ∃(its:List Value) (n:Nat),Vals xs its/\s.heap.get? p=some { cls:=.type "list",data:=.seq its.toArray n }/\xs.length<=sizeLine:=by
 obtain⟨z,its,n,r,e⟩:=I.hok p _ h;exact⟨its,n,r,e,z⟩
theorem Inv.lstUpd{p:Addr}{ys:List V}{its its':List Value}{n n':Nat}{f:Obj->Obj}(I:Inv X pins σ H s)(h:H p=.(l xs))
 (ho:s.heap.get? p=some { cls:=.type "list",data:=.seq its.toArray n }) (hf:f { cls:=.type "list",data:=.seq its.toArray n }={ cls:=.type "list",data:=.seq its'.toArray n' }) (r:Vals ys its') (hz:ys.length<=sizeLine) (t:Nat) :
 Inv X pins σ (upd H p (.lst ys)) { s with heap:=s.heap.update p f,toks:=t }:=by
 have e:(s.heap.update p f).get? p=some { cls:=.type "list",data:=.seq its'.toArray n' }:=by
  rw[K3s f ho (by rw[hf]<;>rfl),hf]
 refine I.write (x:=p) (e:=p) (by rw[h];trivial) (.inl rfl) (λb u hb q=>(K3m _ _ (K57 hb)).trans q) ⟨_,e⟩ ?_;exact⟨hz,its',n',r,e⟩
def Z0Q:V->V->V->Hp->(Hp->Prop)->Prop:=λo i v H Q=>∃p xs k j,o=.ref p/\i=.int k/\H p=.(l xs)/\ixN xs.length k=some j/\Q (upd H p (.lst (xs.set j v)))
theorem set_list:PSet X Z0Q:=by
 intro pins s σ H o i v ov iv u Q I ro ri rv h;obtain⟨p,xs,k,j,rfl,rfl,hp,hj,q⟩:=h;cases ro;obtain⟨t,rfl⟩:=ri;obtain⟨its,n,r,ho,hz⟩:=I.lst hp;obtain⟨h1,h2,h3,h4⟩:=zf5 hj;have hl:=r.length;have hn:=z4Z;have I':Inv X pins σ (upd H p (.lst (xs.set j v))) { s with heap:=s.heap.update p (K48 (·.setIfInBounds j u)) }:=
  I.lstUpd hp ho (z9s its n j u) (r.set rv j) (by rw[K5p];exact hz) s.toks
 by_cases h0:0<=k
 ·have hk:k.toNat=j:=by
   rw[Z33 h0 h4]at h1;exact K0y h1
  exact PySem.W.ki_setAt ho h0 .(0) (by rw[K07,<- hl];exact h4) (by rw[hk];exact⟨_,I',q⟩)
 ·have hk:(k+(its.toArray.size:Int)).toNat=j:=by
   rw[Z2g .(0) h3]at h1;rw[K07,<- hl];exact K0y h1
  exact PySem.W.ki_setBack ho .(0) (by rw[K07,<- hl];exact h3) .(0) (by rw[hk];exact⟨_,I',q⟩)
theorem z6j(lo hi:Option Int)(n:Nat):(K61 lo hi none n).1=((HT.sIx n 0 lo:Nat):Int)/\(K61 lo hi none n).2.1=((HT.sIx n n hi:Nat):Int)/\(K61 lo hi none n).2.2=1:=by
 refine⟨?_,?_,rfl⟩
 ·cases lo with
  | none=>simp[K61,HT.sIx]
  | some i=>
   simp only[K61,HT.sIx,Z2o,show (1:Int) > 0 by decide,if_true];by_cases h:i<0
   ·simp only[h,if_true]<;>omega
   ·simp only[h,if_false]<;>omega
 ·cases hi with
  | none=>simp[K61,HT.sIx]
  | some i=>
   simp only[K61,HT.sIx,Z2o,show (1:Int) > 0 by decide,if_true];by_cases h:i<0
   ·simp only[h,if_true]<;>omega
   ·simp only[h,if_false]<;>omega
theorem z5E(its:List Value)(lo hi:Option Int):slicePick its.toArray lo hi none=((its.drop (HT.sIx its.length 0 lo)).take (HT.sIx its.length its.length hi - HT.sIx its.length 0 lo)).toArray:=by
 obtain⟨h1,h2,h3⟩:=z6j lo hi its.toArray.size;unfold slicePick;rw[h1,h2,h3];simp only[sliceRange_one,pick_run,K07]<;>rfl
def rSlL(K:K5):V->Option Int->Option Int->Hp->VK->Prop:=λx lo hi H Q=>∃a xs,x=.ref a/\SqL K H a xs/\∀p,H p=none->Q (.ref p) (upd H p (.lst (cutV xs lo hi)))
theorem sl_list:SlR X (rSlL X.K):=by
 intro pins s σ H x v vl vu lo hi sl Q I rx hs pl pu h;obtain⟨a,xs,rfl,hx,q⟩:=h;cases rx;obtain⟨its,r,ht,hz⟩:=I.list hx;have hlen:=r.length;refine⟨"list",_,Z1x.lookup,ht.isList.typeIs,?_⟩;refine wpAny_getItem_list_slice ht.isList hs pl pu .none .(e) ?_ (by rw[K07]<;>omega);rw[z5E,<- hlen];refine⟨.ref .(3),_,I.laid (t':=s.toks) (o:=.lst (cutV xs lo hi)) (λb ob q=>K9 _ q) (K01 _) ?_,rfl,q _ (I.hok.fresh (K01 _))⟩;exact⟨K0h (z4B xs lo hi) hz,_,0,(r.drop (HT.sIx xs.length 0 lo)).take (HT.sIx xs.length xs.length hi - HT.sIx xs.length 0 lo),K0j _ rfl⟩
def z4U:V->Bool
 | .non=>true
 | .bl _=>true
 | .int _=>true
 | .str _=>true
 | _=>false
def eqV:V->V->Bool
 | .non,.non=>true
 | .bl a,.bl b=>a==b
 | .bl a,.int b=>(if a then 1 else 0)==b
 | .int a,.bl b=>a==(if b then 1 else 0)
 | .int a,.int b=>a==b
 | .str a,.str b=>a==b
 | _,_=>false
theorem zQ6{A:Around}{y x:V}(ry:RelV y u)(rx:RelV x v)(fy:z4U y=true)(fx:z4U x=true):SeqAt.EqAt A s u v (eqV y x):=by
 cases y with
 | non=>
  cases ry;cases x with
  | non=>cases rx;exact SeqAt.EqAt.same _
  | bl b=>cases rx;exact SeqAt.EqAt.none_bool b
  | int b=>obtain⟨t,rfl⟩:=rx;exact SeqAt.EqAt.none_int b t
  | str b=>obtain⟨t,rfl⟩:=rx;exact SeqAt.EqAt.none_str b t
  | _=>exact absurd (show false=true from fx) K0m
 | bl a=>
  cases ry;cases x with
  | non=>cases rx;exact SeqAt.EqAt.bool_none a
  | bl b=>cases rx;exact SeqAt.EqAt.bool_bool a b
  | int b=>obtain⟨t,rfl⟩:=rx;exact SeqAt.EqAt.bool_int a b t
  | str b=>obtain⟨t,rfl⟩:=rx;exact SeqAt.EqAt.bool_str a b t
  | _=>exact absurd (show false=true from fx) K0m
 | int a=>
  obtain⟨t',rfl⟩:=ry;cases x with
  | non=>cases rx;exact SeqAt.EqAt.int_none a t'
  | bl b=>cases rx;exact SeqAt.EqAt.int_bool a t' b
  | int b=>obtain⟨t,rfl⟩:=rx;exact SeqAt.EqAt.int_int a t' b t
  | str b=>obtain⟨t,rfl⟩:=rx;exact Z1p a t' b t
  | _=>exact absurd (show false=true from fx) K0m
 | str a=>
  obtain⟨t',rfl⟩:=ry;cases x with
  | non=>cases rx;exact SeqAt.EqAt.str_none a t'
  | bl b=>cases rx;exact SeqAt.EqAt.str_bool a t' b
  | int b=>obtain⟨t,rfl⟩:=rx;exact Z1o a t' b t
  | str b=>obtain⟨t,rfl⟩:=rx;exact SeqAt.EqAt.str_str a t' b t
  | _=>exact absurd (show false=true from fx) K0m
 | _=>exact absurd (show false=true from fy) K0m
def eqU(x:V)(u:Value):Bool:=match u with
 | .none=>eqV .non x
 | .bool b=>eqV (.bl b) x
 | .int i _=>eqV (.int i) x
 | .str z _=>eqV (.str z) x
 | _=>false
theorem zx2{x y:V}(r:RelV y u)(f:z4U y=true):eqU x u=eqV y x:=by
 cases y with
 | non=>cases r;rfl
 | bl b=>cases r;rfl
 | int i=>obtain⟨t,rfl⟩:=r;rfl
 | str z=>obtain⟨t,rfl⟩:=r;rfl
 | _=>exact absurd (show false=true from f) K0m
theorem z4k{x:V}:∀{xs:List V}{us:List Value},Vals xs us->xs.all z4U=true->us.any (eqU x)=xs.any λy=>eqV y x
 | _,_,.nil,_=>rfl
 | y::xs,u::us,.cons r t,f=>by
  rw[K5j,K0e]at f;rw[K2g,K2g,zx2 r f.1,z4k t f.2]
theorem z37{A:Around}{s:Shared}{x:V}{v:Value}(rx:RelV x v)(fx:z4U x=true):∀{xs:List V}{us:List Value},Vals xs us->xs.all z4U=true->∀u∈us,SeqAt.EqAt A s u v (eqU x u)
 | _,_,.nil,_=>λu hu=>by cases hu
 | y::xs,u::us,.cons r t,f=>λu' hu=>by
  rw[K5j,K0e]at f;rcases K0l.mp hu with rfl|hu
  ·rw[zx2 r f.1];exact zQ6 r rx f.1 fx
  ·exact z37 rx fx t f.2 u' hu
def inV(x:V)(xs:List V):Bool:=xs.any λy=>eqV y x
def rIn(K:K5)(neg:Bool):R2:=λx y H Q=>∃p xs,y=.ref p/\(SqL K H p xs\/SqT K H p xs)/\z4U x=true/\xs.all z4U=true/\Q (.bl (if neg then !inV x xs else inV x xs)) H
theorem zj9:OpR X (K1w .In) (rIn X.K false):=by
 intro pins s σ H x y v u Q I rx ry h;obtain⟨p,xs,rfl,hq,fx,fs,q⟩:=h;cases ry;rcases hq with hq|hq
 ·obtain⟨its,r,pl,hz⟩:=I.list hq;refine SeqAt.in_listAt (eqU x) pl.isList (λw hw=>z37 rx fx r fs w (by simpa using hw)) ⟨.bl _,H,I,rfl,?_⟩;rw[show its.toArray.any (eqU x)=its.any (eqU x) by simp,z4k r fs];exact q
 ·obtain⟨its,r,pl,hz⟩:=I.tuple hq;refine SeqAt.in_tupleAt (eqU x) pl (λw hw=>z37 rx fx r fs w (by simpa using hw)) ⟨.bl _,H,I,rfl,?_⟩;rw[show its.toArray.any (eqU x)=its.any (eqU x) by simp,z4k r fs];exact q
theorem z6z:OpR X (K1w .NotIn) (rIn X.K true):=by
 intro pins s σ H x y v u Q I rx ry h;obtain⟨p,xs,rfl,hq,fx,fs,q⟩:=h;cases ry;rcases hq with hq|hq
 ·obtain⟨its,r,pl,hz⟩:=I.list hq;refine SeqAt.notIn_listAt (eqU x) pl.isList (λw hw=>z37 rx fx r fs w (by simpa using hw)) ⟨.bl _,H,I,rfl,?_⟩;rw[show its.toArray.any (eqU x)=its.any (eqU x) by simp,z4k r fs];exact q
 ·obtain⟨its,r,pl,hz⟩:=I.tuple hq;refine SeqAt.notIn_tupleAt (eqU x) pl (λw hw=>z37 rx fx r fs w (by simpa using hw)) ⟨.bl _,H,I,rfl,?_⟩;rw[show its.toArray.any (eqU x)=its.any (eqU x) by simp,z4k r fs];exact q
theorem z64:z43 X (.type "list") (λxs H Q=>∃p ys,xs=[.ref p]/\(SqL X.K H p ys\/SqT X.K H p ys)/\∀l,H l=none->Q (.ref l) (upd H l (.lst ys))):=by
 intro pins s σ H xs us Q I r h;obtain⟨p,ys,rfl,hq,q⟩:=h;obtain⟨u,rfl,rx⟩:=vals1 r;cases rx;have fin:∀(its:List Value),Vals ys its->ys.length<=sizeLine->∀(h':Heap) (c':Nat),(∀b o',s.heap.get? b=some o'->h'.get? b=some o') ->
  h'.get? .(3)=some { cls:=.type "list",dict:=none,data:=.seq its.toArray c',slots:=#[] }->EP X pins σ Q (.ref .(3)) { s with heap:=h' }:=λits r' hz h' c' kp e=>
  ⟨.ref .(3),_,I.laid (t':=s.toks) kp (K01 _) (show ObjOk X.prog X.w _ h' _ (.lst ys) from⟨hz,its,c',r',e⟩),rfl,q _ (I.hok.fresh (K01 _))⟩
 rcases hq with hq|hq
 ·obtain⟨its,r',pl,hz⟩:=I.list hq;have hlen:=r'.length;obtain⟨o,ho,hc,n,hd⟩:=pl.isList;exact call_list_seq p (.inl rfl) ho hc hd (λh' c' kp e=>fin its r' hz h' c' kp e) (by simp only[K07]<;>omega)
 ·obtain⟨its,r',pl,hz⟩:=I.tuple hq;have hlen:=r'.length;obtain⟨o,ho,hc,n,hd⟩:=pl;exact call_list_seq p (.inr rfl) ho hc hd (λh' c' kp e=>fin its r' hz h' c' kp e) (by simp only[K07]<;>omega)
theorem z5A:z43 X (.type "tuple") (λxs H Q=>∃p ys,xs=[.ref p]/\((SqL X.K H p ys/\∀l,H l=none->Q (.ref l) (upd H l (.tup ys)))\/(SqT X.K H p ys/\Q (.ref p) H))):=by
 intro pins s σ H xs us Q I r h;obtain⟨p,ys,rfl,h⟩:=h;obtain⟨u,rfl,rx⟩:=vals1 r;cases rx;rcases h with ⟨hq,q⟩|⟨hq,q⟩
 ·obtain⟨its,r',pl,hz⟩:=I.list hq;have hlen:=r'.length;refine call_tuple_list pl.isList (λh' kp=>?_) (by simp only[K07]<;>omega);have I1:Inv X pins σ H { s with heap:=h' }:=I.kept (t':=s.toks) kp;have I2:Inv X pins σ (upd H h'.objs.size (.tup ys)) { s with heap:=h'.push { cls:=.type "tuple",data:=.seq its.toArray } }:=
   I1.laid (t':=s.toks) (λb o e=>K9 _ e) (K01 _) (show ObjOk X.prog X.w _ _ _ (.tup ys) from⟨hz,its,r',FT.IsTup0.new _ _⟩)
  exact⟨.ref h'.objs.size,_,I2,rfl,q _ (I1.hok.fresh (K01 _))⟩
 ·obtain⟨its,r',pl,hz⟩:=I.tuple hq;exact call_tuple_same pl ⟨.ref p,H,I,rfl,q⟩
def tyV(K:K5)(T:String)(x:V)(H:Hp):Prop:=match x with
 | .str _=>T = "str"
 | .int _=>T = "int"
 | .ref p=>(T = "list"/\∃xs,SqL K H p xs)\/(T = "tuple"/\∃o,K.lookup p=some o/\o.cls=.type "tuple"/\o.dict=none) \/
  (T = "dict"/\((∃kvs,H p=some (.dK kvs))\/∃kvs,H p=some (.dT kvs)))\/(T = "set"/\∃ks,H p=some (.set ks))
 | _=>False
theorem zw8{x:V}(I:Inv X pins σ H s)(r:RelV x v)(ty:tyV X.K T x H):
 s.TypeIs v T/\∀a,v=.ref a->∃ob,s.heap.get? a=some ob/\ob.dict=none:=by
 cases x with
 | str z=>
  obtain⟨t,rfl⟩:=r;cases (show T = "str" from ty);exact⟨typeIs_str s z t,λ_ e=>nomatch e⟩
 | int i=>
  obtain⟨t,rfl⟩:=r;cases (show T = "int" from ty);exact⟨K8v s i t,λ_ e=>nomatch e⟩
 | ref p=>
  cases r;rcases ty with ⟨rfl,xs,hq⟩|⟨rfl,o,hk,hc,hd⟩|⟨rfl,hk⟩|⟨rfl,ks,hk⟩
  ·obtain⟨its,_,pl,_⟩:=I.list hq;refine⟨pl.isList.typeIs,λa e=>?_⟩;cases e;obtain⟨o,n,e,c,hd,_⟩:=pl;exact⟨o,e,hd⟩
  ·refine⟨⟨o,I.kIn p o hk,hc⟩,λa e=>?_⟩;cases e;exact⟨o,I.kIn _ o hk,hd⟩
  ·have z:∃o,s.heap.get? p=some o/\o.ExactDict:=by
    rcases hk with ⟨kvs,hk⟩|⟨kvs,hk⟩
    ·obtain⟨_,_,_,_,o,_,_,e,ex,_⟩:=I.hok p _ hk;exact⟨o,e,ex⟩
    ·obtain⟨_,_,_,_,o,_,_,e,ex,_⟩:=I.hok p _ hk;exact⟨o,e,ex⟩
   obtain⟨o,e,ex⟩:=z;refine⟨⟨o,e,ex.1⟩,λa e2=>?_⟩;cases e2;exact⟨o,e,ex.2.1⟩
  ·obtain⟨o,_,_,_,_,e,ex,_⟩:=I.hok p _ hk;refine⟨⟨o,e,ex.1⟩,λa e2=>?_⟩;cases e2;exact⟨o,e,ex.2.1⟩
 | _=>exact K39 ty
def tBM0(K:K5)(T:String)(r:V->List V->Hp->VK->Prop)(to:TE):TE:=λσ H Q=>to σ H λx H1=>tyV K T x H1/\r x [] H1 Q
def tBM(K:K5)(T:String)(r:V->List V->Hp->VK->Prop)(to:TE)(t:TA):TE:=λσ H Q=>to σ H λx H1=>tyV K T x H1/\t σ H1 λxs H2=>r x xs H2 Q
variable{o e:Expr}{es:List Expr}{to:TE}{t:TA}{name:Str}{apos cpos:Pos}{id:String}{r:V->List V->Hp->VK->Prop}
theorem zv8(pa:PlainAttrs T)(slot:Slot T name id)(hty:typeOf (.builtin id)=pure (.type "method_descriptor"))(hm:MtR X id r)(ho:PE X o to)
 (hbase:K4a o name X.env (eval o X.env)=eval o X.env:=by rfl) (hline:(apos.endLine==cpos.line)=true:=by rfl):PE X (.Call (.Attribute o name apos) [] [] cpos) (tBM0 X.K T r to):=by
 intro pins s σ H Q I h;refine wpAny_Call_method0_late hbase hline (thn (ho pins s σ H _ I h) λv s1 ⟨x,H1,I1,r1,ty,q1⟩=>?_);obtain⟨h1,h2⟩:=zw8 I1 r1 ty;exact⟨T,id,pa,slot,hty,h1,h2,K8y rfl (PySem.evalArgs_none (hm pins s1 σ H1 x [] v [] Q I1 r1 .nil q1))⟩
theorem zs2(pa:PlainAttrs T)(slot:Slot T name id)(hty:typeOf (.builtin id)=pure (.type "method_descriptor"))(hm:MtR X id r)(ho:PE X o to)(ha:PA X (e::es) t)
 (hbase:K4a o name X.env (eval o X.env)=eval o X.env:=by rfl)
 (hfew:((backTo cpos (K0k (e::es) X.env)).all (λx=>!x.1)&&(K4s cpos (K37 [] X.env)).all (λx=>x.1.isSome)
 &&decide ((e::es).length+([]:List K5b).length+(if ([]:List K5b).isEmpty then 0 else 1)<30))=true:=by rfl)
 (hline:(apos.endLine==cpos.line)=true:=by rfl) (hs:K0k (e::es) X.env=(false,eval e X.env)::K0k es X.env:=by rfl) (hplain:(backTo cpos (K0k es X.env)).any (·.1)=false:=by rfl) :
 PE X (.Call (.Attribute o name apos) (e::es) [] cpos) (tBM X.K T r to t):=by
 intro pins s σ H Q I h;refine wpAny_Call_method_late hbase hfew hline rfl (thn (ho pins s σ H _ I h) λv s1 ⟨x,H1,I1,r1,ty,q1⟩=>?_);obtain⟨h1,h2⟩:=zw8 I1 r1 ty;refine⟨T,id,pa,slot,hty,h1,h2,?_⟩;have hA:=ha cpos pins s1 σ H1 _ I1 q1;rw[hs]at hA ⊢;refine K8y (by show (false||(backTo cpos (K0k es X.env)).any (·.1))=false;rw[hplain]<;>rfl) (Calls.evalArgs_plain ?_);exact thn hA λus s2 ⟨vs,H2,I2,r2,q2⟩=>hm pins s2 σ H2 x vs v us Q I2 r1 r2 q2
end
def MtM(X:Cx)(id:String)(r:V->List V->Hp->VK->Prop):Prop:=
 ∀(pins:List .(u)) (s:Shared) (σ:St) (H:Hp) (x:V) (xs:List V) (v:Value) (us:List Value) (Q:VK),Inv X pins σ H s->RelV x v->Vals xs us->r x xs H Q ->
  wpAny .(6) X.A (call (.builtin id) (v::us)) (EP X pins σ Q) X.xe s
theorem Vals.one:∀{x:V}{us:List Value},Vals [x] us->∃u,us=[u]/\RelV x u
 | _,_,.cons r .nil=>⟨_,rfl,r⟩
theorem Vals.zero:∀{us:List Value},Vals [] us->us=[]
 | _,.nil=>rfl
theorem Vals.dropLast{xs:List V}{us:List Value}(h:Vals xs us):Vals xs.dropLast us.dropLast:=by
 induction h with
 | nil=>exact .nil
 | cons r t ih=>
  cases t with
  | nil=>exact .nil
  | cons q t'=>exact .cons r ih
theorem Vals.eraseIdx:∀{xs:List V}{us:List Value}(i:Nat),Vals xs us->Vals (xs.eraseIdx i) (us.eraseIdx i)
 | _,_,_,.nil=>.nil
 | _,_,0,.cons _ t=>t
 | _,_,i+1,.cons r t=>.cons r (Vals.eraseIdx i t)
theorem Vals.reverse{xs:List V}{us:List Value}(h:Vals xs us):Vals xs.reverse us.reverse:=by
 induction h with
 | nil=>exact .nil
 | cons r t ih=>rw[K40,K40];exact Vals.append ih (.cons r .nil)
theorem Vals.rep{xs:List V}{us:List Value}(h:Vals xs us):∀k:Nat,Vals (K0t k xs).flatten (K0t k us).flatten
 | 0=>.nil
 | k+1=>by
  rw[K34,K34,K15,K15];exact Vals.append h (Vals.rep h k)
theorem z9c(l:List α):l.eraseIdx (l.length - 1)=l.dropLast:=by
 induction l with
 | nil=>rfl
 | cons a r ih=>
  cases r with
  | nil=>rfl
  | cons b r=>
   have e:(a::b::r).length - 1=((b::r).length - 1)+1:=by
    have h1:(a::b::r).length=r.length+2:=rfl;have h2:(b::r).length=r.length+1:=rfl;omega
   rw[e,List.eraseIdx_cons_succ,ih]
   all_goals rfl
theorem z6Q{α:Type}:∀(l:List α) (i:Nat),(l.eraseIdx i).length<=l.length
 | [],_=>K01 _
 | _::_,0=>K5z _
 | _::r,i+1=>Nat.succ_le_succ (z6Q r i)
theorem foldl_rep(its:List Value):∀(k:Nat) (acc:List Value),
 K6m (λx1 x2=>x1++x2) acc.toArray (K0t k its.toArray)=(acc++(K0t k its).flatten).toArray
 | 0,acc=>by simp
 | k+1,acc=>by
  have e:acc.toArray++its.toArray=(acc++its).toArray:=by simp
  have e2:(acc++its)++(K0t k its).flatten=acc++(K0t (k+1) its).flatten:=by
   rw[K34,K15,K7]
  rw[<- e2,<- foldl_rep its k (acc++its),<- e,K34,K4q]
section
variable{l b:Addr}{zs:List V}
theorem Inv.lset{its its':List Value}{n:Nat}{f:Array Value->Array Value}{t':Nat}(I:Inv X pins σ H s)(hH:H l=.(l xs))
 (e:s.heap.get? l=some { cls:=.type "list",data:=.seq its.toArray n }) (hf:f its.toArray=its'.toArray) (hv:Vals ys its') (hz:ys.length<=sizeLine) :
 Inv X pins σ (upd H l (.lst ys)) { s with heap:=s.heap.update l (K48 f),toks:=t' }:=by
 have q:=PySem.IsL.update e f;rw[hf]at q;refine I.write (x:=l) (e:=l) (by rw[hH];exact trivial) (.inl rfl) (λb' u hb hu=>(K3m s.heap (K48 f) (K57 hb)).trans hu) ⟨_,q⟩ ?_;exact⟨hz,its',_,hv,q⟩
theorem Inv.lnew{t':Nat}(I:Inv X pins σ H s)(hv:Vals ys its)(hz:ys.length<=sizeLine):
 Inv X pins σ (upd H .(3) (.lst ys)) { s with heap:=s.heap.push { cls:=.type "list",data:=.seq its.toArray },toks:=t' }:=
 I.laid (λ_ _ q=>K9 _ q) (K01 _) ⟨hz,its,0,hv,K0j _ rfl⟩
theorem Inv.fresh(I:Inv X pins σ H s):H s.heap.objs.size=none:=I.hok.fresh (K01 _)
theorem Inv.lstM(I:Inv X pins σ H s)(hH:H l=.(l xs)):xs.length<=sizeLine/\∃(its:List Value) (n:Nat),Vals xs its/\xs.length=its.length/\s.heap.get? l=some { cls:=.type "list",data:=.seq its.toArray n }:=by
 obtain⟨z,its,n,r,e⟩:=I.hok l _ hH;exact⟨z,its,n,r,r.length,e⟩
theorem z5J(h:n<=sizeLine):K2p n=false:=by
 unfold K2p;exact .(k) .(0)
end
def zy6:V->List V->Hp->VK->Prop:=λx vs H Q=>∃l xs y,x=.ref l/\vs=[y]/\H l=.(l xs)/\xs.length<sizeLine/\Q .non (upd H l (.lst (xs++[y])))
theorem z62:MtM X "list.append" zy6:=by
 intro pins s σ H x vs v us Q I rx rv h;obtain⟨l,xs,y,rfl,rfl,hH,hz,q⟩:=h;cases rx;obtain⟨u,rfl,ru⟩:=rv.one;obtain⟨z,its,n,r,hl,e⟩:=I.lstM hH;refine K3r F.slot_list_append ⟨_,e,rfl⟩ F.entry_list_append (F.args_list_append_2 _ _) (PySem.list_append l its.toArray n u (by rw[K07];omega)) ⟨e,?_⟩;refine⟨.non,_,I.lset (its':=its++[u]) hH e .(e) (r.append (.cons ru .nil)) ?_,rfl,q⟩;rw[K3,K0v];omega
def zg6:V->List V->Hp->VK->Prop:=λx vs H Q=>∃l b xs zs,x=.ref l/\vs=[.ref b]/\H l=.(l xs)/\H b=.(l zs)/\xs.length+zs.length<=sizeLine/\Q .non (upd H l (.lst (xs++zs)))
theorem zf2:MtM X "list.extend" zg6:=by
 intro pins s σ H x vs v us Q I rx rv h;obtain⟨l,b,xs,zs,rfl,rfl,hH,hB,hz,q⟩:=h;cases rx;obtain⟨u,rfl,ru⟩:=rv.one;cases ru;obtain⟨z,its,n,r,hl,e⟩:=I.lstM hH;obtain⟨z2,its2,n2,r2,hl2,e2⟩:=I.lstM hB;have hsz:its.toArray.size+its2.toArray.size<=sizeLine:=by rw[K07,K07];omega
 have hlong:¬ (!its.toArray.isEmpty&&K2p (its.toArray.size+its2.toArray.size))=true:=by
  rw[z5J hsz,K7e];exact K0m
 refine K3r Z1w ⟨_,e,rfl⟩ Z1e (K9o _ _)
  (AutoSeq1.list_extend_list_list_0 l its.toArray n b its2.toArray n2 hlong (by rw[K07];omega) .(0)) ⟨e,e2,?_⟩
 refine⟨.non,_,I.lset (its':=its++its2) hH e .(e) (r.append r2) ?_,rfl,q⟩;rw[K3];omega
def rPop:V->List V->Hp->VK->Prop:=λx vs H Q=>∃l xs y,x=.ref l/\vs=[]/\H l=.(l xs)/\xs[xs.length - 1]?=some y/\Q y (upd H l (.lst xs.dropLast))
theorem zP1:MtM X "list.pop" rPop:=by
 intro pins s σ H x vs v us Q I rx rv h;obtain⟨l,xs,y,rfl,rfl,hH,hy,q⟩:=h;cases rx;have hus:=rv.zero;subst hus;obtain⟨z,its,n,r,hl,e⟩:=I.lstM hH;obtain⟨u,hu,ru⟩:=r.get hy;have hy':its.toArray[its.toArray.size - 1]?=some u:=by
  show its.toArray[its.length - 1]?=some u;rw[<- K38,<- hl];exact hu
 refine K3r F.slot_list_pop ⟨_,e,rfl⟩ F.entry_list_pop (F.args_list_pop_1 _) (MeetsSeq.list_pop_last l its.toArray n u hy' (by rw[K07];omega)) ⟨e,?_⟩;refine⟨y,_,I.lset (its':=its.dropLast) hH e ?_ r.dropLast ?_,ru,q⟩
 ·show its.toArray.eraseIdxIfInBounds (its.toArray.size - 1)=its.dropLast.toArray;rw[K07,K6j,z9c]
 ·rw[List.length_dropLast];omega
def zS9:V->List V->Hp->VK->Prop:=λx vs H Q=>∃l xs i k y,x=.ref l/\vs=[.int i]/\H l=.(l xs)/\-(2 ^ 63)<=i/\i<2 ^ 63/\K8j i xs.length=some k/\xs[k]?=some y/\Q y (upd H l (.lst (xs.eraseIdx k)))
theorem zm3:MtM X "list.pop" zS9:=by
 intro pins s σ H x vs v us Q I rx rv h;obtain⟨l,xs,i,k,y,rfl,rfl,hH,h1,h2,hk,hy,q⟩:=h;cases rx;obtain⟨u,rfl,ru⟩:=rv.one;obtain⟨t,rfl⟩:=ru;obtain⟨z,its,n,r,hl,e⟩:=I.lstM hH;obtain⟨w,hw,rw'⟩:=r.get hy;refine K3r F.slot_list_pop ⟨_,e,rfl⟩ F.entry_list_pop (F.args_list_pop_2 _ _)
  (MeetsSeq.list_pop_at l its.toArray n i t k w (fitsIndex_both h1 h2) (by rw[K07,<- hl];exact hk) (by rw[<- K38];exact hw) (by rw[K07];omega)) ⟨e,?_⟩
 refine⟨y,_,I.lset (its':=its.eraseIdx k) hH e ?_ (r.eraseIdx k) ?_,rw',q⟩
 ·show its.toArray.eraseIdxIfInBounds k=(its.eraseIdx k).toArray;rw[K6j]
 ·have:=z6Q xs k;omega
def zq6:V->List V->Hp->VK->Prop:=λx vs H Q=>∃l xs,x=.ref l/\vs=[]/\H l=.(l xs)/\Q .non (upd H l (.lst xs.reverse))
theorem z9g:MtM X "list.reverse" zq6:=by
 intro pins s σ H x vs v us Q I rx rv h;obtain⟨l,xs,rfl,rfl,hH,q⟩:=h;cases rx;have hus:=rv.zero;subst hus;obtain⟨z,its,n,r,hl,e⟩:=I.lstM hH;refine K3r F.slot_list_reverse ⟨_,e,rfl⟩ F.entry_list_reverse (F.args_list_reverse_1 _) (AutoSeq1.list_reverse_list_0 l its.toArray n (by rw[K07];omega)) ⟨e,?_⟩;refine⟨.non,_,I.lset (its':=its.reverse) hH e .(e) r.reverse ?_,rfl,q⟩;rw[K2b];omega
def rCat:R2:=λx y H Q=>∃l b xs zs,x=.ref l/\y=.ref b/\H l=.(l xs)/\H b=.(l zs)/\xs.length+zs.length<=sizeLine/\∀p,H p=none->Q (.ref p) (upd H p (.lst (xs++zs)))
theorem op_cat:OpR X (K2r .Add) rCat:=by
 intro pins s σ H x y v u Q I rx ry h;obtain⟨l,b,xs,zs,rfl,rfl,hH,hB,hz,q⟩:=h;cases rx;cases ry;obtain⟨z,its,n,r,hl,e⟩:=I.lstM hH;obtain⟨z2,its2,n2,r2,hl2,e2⟩:=I.lstM hB;refine PySem.P.add_list e e2 ?_ (by rw[K07,K07];omega);have ea:its.toArray++its2.toArray=(its++its2).toArray:=by simp
 rw[ea];exact⟨.ref _,_,I.lnew (t':=s.toks) (r.append r2) (by rw[K3];omega),rfl,q _ I.fresh⟩
def rRep:R2:=λx y H Q=>∃l k xs,x=.ref l/\y=.int k/\H l=.(l xs)/\-(2 ^ 63)<=k/\k<2 ^ 63/\xs.length * k.toNat<=sizeLine /\
 ∀p,H p=none->Q (.ref p) (upd H p (.lst (K0t k.toNat xs).flatten))
theorem len_rep(xs:List α)(k:Nat):(K0t k xs).flatten.length=k * xs.length:=by
 induction k with
 | zero=>simp
 | succ k ih=>rw[K34,K15,K3,ih,K8r,Nat.add_comm]
theorem zN2:OpR X (K2r .Mult) rRep:=by
 intro pins s σ H x y v u Q I rx ry h;obtain⟨l,k,xs,rfl,rfl,hH,h1,h2,hz,q⟩:=h;cases rx;obtain⟨t,rfl⟩:=ry;obtain⟨z,its,n,r,hl,e⟩:=I.lstM hH;have hlen:its.toArray.size * k.toNat<=sizeLine:=by rw[K07,<- hl];exact hz
 have hcap:¬ its.toArray.size * k.toNat > (2 ^ 63 - 1) / 8:=by
  have:(sizeLine:Nat)<=(2 ^ 63 - 1) / 8:=by decide
  omega
 have hfit:¬ (!Builtin.List.listFitsIndex k)=true:=by
  rw[fitsIndex_both h1 h2];exact K0m
 have hlong:¬ K2p (its.toArray.size * k.toNat)=true:=by
  rw[z5J hlen];exact K0m
 have hnew:K6m (λx1 x2=>x1++x2) #[] (K0t (if its.toArray.isEmpty=true then 0 else k.toNat) its.toArray)=(K0t k.toNat its).flatten.toArray:=by
  have f0:∀m:Nat,K6m (λx1 x2=>x1++x2) #[] (K0t m its.toArray)=(K0t m its).flatten.toArray:=λm=>by
   have:=foldl_rep its m [];rw[K94]at this;exact this
  rw[f0];cases its with
  | nil=>simp
  | cons a r'=>rw[if_neg .(e)]
 refine K7t (T:="list") (U:="int") .(1) ⟨_,e,rfl⟩ (λs'=>K8v s' k t) noFill_list_mul F.fills_int_mul F.slot_int_rmul repeat_list F.slot_int_index.lookup
  (K3r F.slot_int_rmul (K8v s k t) F.entry_int_rmul (F.args_int_rmul_2 _ _) (int___rmul___int_list k t l its.toArray n)
   ⟨e,rfl,⟨_,e,rfl⟩,K3r F.slot_list_mul ⟨_,e,rfl⟩ F.entry_list_mul (F.args_list_mul_2 _ _) (AutoListH.list___mul___list_int_3 l its.toArray n k t hfit hcap hlong) ⟨e,?_⟩⟩)
 rw[hnew];exact⟨.ref _,_,I.lnew (t':=s.toks) (r.rep k.toNat) (by rw[len_rep,K73];exact hz),rfl,q _ I.fresh⟩
end L2
namespace Att
open PySem PySem.W PySem.Calls PyProof.Rows
theorem z4j{P:Params}{h:Heap}:∀(ns:List Int) (vs:List Value),WellAll P h vs (ns.map WData.int)->K81 vs ns:=by
 intro ns;induction ns with
 | nil=>
  intro vs w;rw[K1u]at w;cases w;exact .nil
 | cons n ns ih=>
  intro vs w;rw[K0p]at w;cases w with
  | cons a b=>
   cases a;exact .cons _ _ (ih _ b)
theorem z9I{l:OpenLaw}{n:Nat}(hn:l.most=some n){P:Params}{h:Heap}{args:List WData}{vals:List Value}
 (hpre:l.row.toRowW.claim.pre args=true) (hwl:WellAll P h vals args) :
 ∃a vs ns,vals=[K29 a]/\args=[WData.list (ns.map WData.int)]/\h.get? a=some { cls:=.type "list",data:=.seq vs.toArray }/\K81 vs ns/\ns.length<=n:=by
 have hsh:WShape.hasAll [] args [.list .int]=true:=(pre_splitW hpre).1;have hc:l.pre.holds [] { args:=args }=true:=(pre_splitW hpre).2;obtain⟨d,r,rfl,h1,h2⟩:=hasAllW_cons hsh;obtain rfl:=hasAllW_nil h2;obtain⟨xs,rfl,h3⟩:=hasW_list h1;obtain⟨ns,rfl⟩:=items_int h3;have hlen:ns.length<=n:=by
  unfold OpenLaw.pre at hc;have h4:(WTm.not (.lt (.lit (.int (n:Int))) (.len (.arg 0)))).holds [] { args:=[.list (ns.map .int)] }=true:=by
   have h4:=(holds_andW hc).1;rw[hn]at h4;exact h4
  have h5:=condW_of h4 (w_not (w_lt w_lit (w_len_list (w_arg rfl))));rw[K0c]at h5;refine Nat.le_of_not_lt λq=>?_;have q':(n:Int)<((ns.length:Nat):Int):=by omega
  first
   | (rw[decide_eq_true q']at h5;exact absurd h5 .(1))
   | (simp at h5;omega)
 cases hwl with
 | cons w1 w2=>
  cases w2;cases w1 with
  | list ho hall=>exact⟨_,_,ns,rfl,rfl,ho,z4j ns _ hall,hlen⟩
theorem zk5(l:OpenLaw)(args:List WData):l.row.toRowW.claim.post args (.bool true) args=true:=
 postW_of (r:=l.row.toRowW) (X:=(true==true))
  (show WShape.has [] (.bool true) .bool=true by first|rfl|decide|simp[WShape.has,WShape.arms,WShape.armsAll])
  (show (WTm.eq .res (.lit (.bool true))).value [] { args:=args,res:=some (.bool true),after:=args }=some (.bool (true==true)) from w_eq_bool (w_res rfl) w_lit) rfl
theorem attach_call{l:OpenLaw}{n:Nat}{q:K1i}{loose:List Str}{XP:(Str->Option Value)->Heap->Prop}{YP:World->Heap->Prop}{d:DefRec}
 (hn:l.most=some n) (hdf:d.params.defaults=[])
 (call:∀(w:World) (s₀ s₁:Shared) (mg mb:Str->Option Value) (fa:Addr) (o:Obj) (pm cd doc:Value) (a:Addr) (vs:List Value) (ns:List Int),
  Ground q loose [] XP w s₀ mg mb s₁.heap->YP w s₁.heap ->
  s₁.heap.get? fa=some o->o.data=.func (docDef d.name d.params d.body d.scope pm cd doc)->s₁.heap.CodeRec cd d.name->mg d.name=.(r fa) ->
  s₁.heap.get? a=some { cls:=.type "list",data:=.seq vs.toArray }->K81 vs ns->ns.length<=n->s₁.gens = #[] ->
  K5q (model l.prog w) K8t (.call (.ref fa) ⟨[.ref a],[]⟩) (λr s'=>r=.ok (.ret (.bool true))/\OldK s₁.heap s'.heap/\s'.os=s₁.os/\K76 s'.gens) s₁) :
 WalkO q loose XP YP l.row.toRowW d [] (λf vs=>Z3b f vs):=by
 intro w s₀ s₁ mg mb G Y fa o pm cd doc dV kV ho hd hcd hD hmg hg args vals as hpre hlay hrd hwl hlo;obtain rfl:dV=.none:=Dflts.none hD hdf;obtain rfl:kV=.none:=Dflts.noKw hD;obtain⟨a,vs,ns,rfl,rfl,hobj,hints,hlen⟩:=z9I hn hpre hwl;refine enter_call (K44 (call w s₀ s₁ mg mb fa o pm cd doc a vs ns G Y ho (fd_plain hd) hcd hmg hobj hints hlen hg) λr s' hq=>?_);obtain⟨rfl,h2,h3,h4⟩:=hq;exact⟨.inl ⟨.bool true,.bool true,[],rfl,λ_=>rfl,.bool true,zk5 l _,λ_=>⟨Z20,λ_ hm=>(nomatch hm)⟩⟩,h2,h3,h4⟩
end Att
namespace L2
variable{P prog:K1i}{w:World}{K:K5}{mg:Str->Option Value}{CX:World->CXT}{a f it:Addr}{fd:K53}{x qual:Str}{sp:World->Sp}{vs:List (Key×Value)}{h h':Heap}{loose ps N':List Str}{XP:(Str->Option Value)->Heap->Prop}{YP:World->Heap->Prop}{X:Cx}{st:Stmt}{osl:Array (Option Value)}{A:Around}{o:Option V}{u acc:Value}{y:V}{H H':Hp}{kvs:List (List Key×V)}{xs:List (List Key×Addr×Value)}{pins pins':List (Addr×Obj)}{σ:St}{s s2:Shared}{E Q xe:Value->Shared->Prop}{env:Env}{value elt tg iter tg1 iter1:Expr}{pos:Pos}{cap:List (Option Nat)}{fp:List Addr}{ifs ifs1:List Expr}{tn:Nat->Heap->Prop}{R:Result->Shared->Prop}{bd:Addr->Env->Sem Unit}{RR:Value->Addr->Result->Shared->Prop}
theorem z4t:∀{vs:List Value}{ns:List Int},K81 vs ns->Vals (ns.map V.int) vs
 | _,_,.nil=>.nil
 | _,_,.cons n t h=>.cons ⟨t,rfl⟩ (z4t h)
def Only(H:Hp):Prop:=∀b,H b=none\/∃o xs,H b=some (.frz o (.lst xs))
theorem zp9{P:K1i}{w:World}{K:K5}{mg mb:Str->Option Value}{CX:CXT}{k:Nat}{fa a:Addr}{fd:K53}{x:Str}{sp:Sp}{s₁:Shared}{vs:List Value}{ns:List Int}
 (KX:K.In s₁.heap) (hns:s₁.heap.Ns K23 mg) (hb:s₁.heap.Ns builtinsNs mb) (hbb:∀x:Str,x≠"__name__"->mb x=K59 x) (hlim:s₁.heap.NoLimit) (hg:s₁.gens = #[])
 (ha:s₁.heap.get? a=some { cls:=.type "list",data:=.seq vs.toArray }) (hi:K81 vs ns) (hl:ns.length<=sizeLine) (hr:Room k K8t)
 (F:∀base:Heap,K.In base->base.Ns K23 mg->FnOk P w K mg base CX k fa fd [x] sp) (hbind:∀(s:Shared) (u:Value),K8u s fd ⟨[u],[]⟩ [(x,u)])
 (hsp:∀H:Hp,Only H->SqL K H a (ns.map V.int)->sp [.ref a] H (λv _=>v=.bl true) λ_ _ _=>False)
 (hCX:∀H e s',CX [] H s₁ (λ_ _ _=>False) e s'->False) :
 K5q .(x) K8t (.call (.ref fa) ⟨[.ref a],[]⟩) (λr s'=>r=.ok (.ret (.bool true))/\OldK s₁.heap s'.heap/\s'.os=s₁.os/\K76 s'.gens) s₁:=by
 have rv:=z4t hi;have lenV:=hi.length;have core:∀H:Hp,Only H->SqL K H a (ns.map V.int)->HOk P w H s₁.heap->(∀b,H b≠none->b=a)->(H a≠none->K.lookup a=none) ->
  K5q .(x) K8t (.call (.ref fa) ⟨[.ref a],[]⟩) (λr s'=>r=.ok (.ret (.bool true))/\OldK s₁.heap s'.heap/\s'.os=s₁.os/\K76 s'.gens) s₁:=by
  intro H hO hS hok hA hK;have base_of:∀{b:Addr} {o:Obj},s₁.heap.get? b=some o->H b=none->(hidT s₁.heap H).get? b=some o:=λe n=>zl1 e n;have noA:∀{b:Addr} {o:Obj} {es:Array DictEntry} {ep:Nat},s₁.heap.get? b=some o->o.data=.dict es ep->H b=none:=λ{b o es ep} e d=>by
   cases q:H b with
   | none=>rfl
   | some u=>
    have e':b=a:=hA b (by rw[q];simp);subst e';rw[ha]at e;cases e;have d':Z3a vs.toArray _=Data.dict es ep:=d;cases d'
  have nsK:∀{b:Addr} {m:Str->Option Value},s₁.heap.Ns b m->(hidT s₁.heap H).Ns b m:=λ{b m} ⟨o,es,ep,e,d,r⟩=>⟨o,es,ep,base_of e (noA e d),d,r⟩;have hKb:K.In (hidT s₁.heap H):=λb o e=>base_of (KX b o e) (by
   cases q:H b with
   | none=>rfl
   | some u=>
    have e':b=a:=hA b (by rw[q];simp);subst e';rw[hK (by rw[q];simp)]at e;cases e)
  have hM:Mod K mg (hidT s₁.heap H):=⟨hKb,nsK hns,⟨mb,nsK hb,hbb⟩,let ⟨mc,h1,h2⟩:=hlim;⟨mc,nsK h1,h2⟩⟩;have e0:Env0 P w K mg (hidT s₁.heap H) K8t [] s₁ H:=⟨rfl,hM,λb o e=>zK6 e,K6b (zg7 _ _),trivial,λb hb=>absurd (show b∈([]:List Addr) from hb) .(e),hok,.of_eq hg⟩;refine K44 ((F _ hKb (nsK hns)).run K8t [] s₁ H ⟨[.ref a],[]⟩ [.ref a] [.ref a] _ _ hr e0 (hbind s₁ (.ref a)) (.cons rfl .nil) (hsp H hO hS)) λr s' h=>?_;cases r with
  | error e=>exact(hCX H e s' h).elim
  | ok fl=>
   cases fl with
   | next=>exact K39 h
   | brk=>exact K39 h
   | cont=>exact K39 h
   | ret u=>
    obtain⟨v,H',os,bare,un,hok',r',q⟩:=h;have q':v=.bl true:=q;subst q';obtain rfl:u=K79 true:=r';refine⟨rfl,OldK.of_keep λb o e=>?_,os,bare⟩;cases q:H b with
    | none=>exact un.keep b o e q (by intro z;exact absurd (show b∈([]:List Addr) from z) .(e)) .(e)
    | some u=>
     rcases hO b with z|⟨ob,xs,z⟩
     ·rw[q]at z;cases z
     ·have z2:=un.frzs b ob _ z;obtain⟨e1,_⟩:=hok b _ z;obtain⟨e2,_⟩:=hok' b _ z2;rw[e]at e1;cases e1;exact e2
 cases hk:K.lookup a with
 | some o=>
  have e:=KX a o hk;rw[ha]at e;cases e;refine core (λ_=>none) (λ_=>.inl rfl) (.inr ⟨_,vs.toArray,_,hk,rfl,rfl,rfl,by rw[K07,lenV];exact hl,by simpa using rv⟩) (λb u z=>by have z':(none:Option HO)=some u:=z;cases z') (λb z=>absurd rfl z) λz=>absurd rfl z
 | none=>
  refine core (λb=>if b=a then some (.frz { cls:=.type "list",data:=.seq vs.toArray } (.lst (ns.map V.int))) else none) (λb=>?_) (.inl (.inr ⟨{ cls:=.type "list",data:=.seq vs.toArray },if_pos rfl⟩)) (λb u z=>?_) (λb z=>?_) λ_=>hk
  ·by_cases hb:b=a
   ·exact .inr ⟨_,_,if_pos hb⟩
   ·exact .inl (if_neg hb)
  ·by_cases hb:b=a
   ·have z':=(if_pos hb).symm.trans z;cases z';subst hb;exact⟨ha,by rw[K0c];exact hl,vs,_,rv,ha⟩
   ·have z':=(if_neg hb).symm.trans z;cases z'
  ·by_cases hb:b=a
   ·exact hb
   ·exact absurd (if_neg hb) z
abbrev KOf(_:K.In h):K5:=K
theorem walk_of{l:Z34}{n k:Nat}{q:K1i}{loose:List Str}{XP:(Str->Option Value)->Heap->Prop}{YP:World->Heap->Prop}{d:DefRec}{K:Params->K5}{CX:World->CXT}{sp:World->Sp}{x:Str}
 (hn:l.most=some n) (hn2:n<=sizeLine) (hdf:d.params.defaults=[]) (hr:Room k K8t)
 (hY:∀(w:World) (h:Heap),YP w h->(K w.params).In h)
 (F:∀(w:World) (mg:Str->Option Value) (fa:Addr) (h:Heap),(K w.params).In h->h.Ns K23 mg->mg d.name=.(r fa) ->
  ∃fd:K53,(∀(s:Shared) (u:Value),K8u s fd ⟨[u],[]⟩ [(x,u)]) /\
   ∀base:Heap,(K w.params).In base->base.Ns K23 mg->FnOk l.prog w (K w.params) mg base (CX w) k fa fd [x] (sp w))
 (hsp:∀(w:World) (H:Hp) (a:Addr) (ns:List Int),ns.length<=n->Only H->SqL (K w.params) H a (ns.map V.int)->sp w [.ref a] H (λv _=>v=.bl true) λ_ _ _=>False)
 (hCX:∀(w:World) (H:Hp) (s:Shared) (e:Value) (s':Shared),CX w [] H s (λ_ _ _=>False) e s'->False) :
 Z3g q loose XP YP l.row.toRowW d [] (λf vs=>Z3b f vs):=by
 refine Att.attach_call hn hdf λw s₀ s₁ mg mb fa o pm cd doc a vs ns G Y ho hd hcd hmg hobj hints hlen hg=>?_;have KX:=hY w _ Y;obtain⟨fd,hb,hF⟩:=F w mg fa _ KX G.T.g hmg;exact zp9 KX G.T.g G.T.b G.T.builtins G.T.nolimit hg hobj hints (K0h hlen hn2) hr hF hb (λH hO hS=>hsp w H a ns hlen hO hS) λH e s'=>hCX w H s₁ e s'
def z13(s:Stmt):Arguments:=match s with
 | .FunctionDef _ a _ _ _ _ _ _ _ _=>a
 | _=>{ posonlyargs:=[],args:=[],vararg:=none,kwonlyargs:=[],kw_defaults:=[],kwarg:=none,defaults:=[] }
def z03(s:Stmt):List Stmt:=match s with
 | .FunctionDef _ _ b _ _ _ _ _ _ _=>b
 | _=>[]
def j3(s:Stmt):Scope:=match s with
 | .FunctionDef _ _ _ _ _ _ sc _ _ _=>sc
 | _=>{ kind:=.function,names:=[],isGenerator:=false,isCoroutine:=false }
abbrev CX0:CXT:=λ_ _ _ _ _ _=>False
abbrev E0:XK:=λ_ _ _=>False
theorem zS1:z6b CX0 X E0:=λ_ _ _ _ _ _ _ h=>h.elim
structure Fun(K:K5)(x qual:Str)(st:Stmt)(f:Addr)(fd:K53):Prop where
 ex:∃(oc:Value) (od:Option Addr) (kV doc pm:Value) (an:Option Addr) (cdv ct:Value) (osl:Array (Option Value)),
  fd=K2i x qual (z13 st) (z03 st) (j3 st) .none kV doc pm an cdv ct/\K.lookup f=some ⟨oc,od,.func fd,osl⟩/\K2y K cdv qual=true
 kp:K2o K (.ref f)=true
section
variable{base:Heap}
theorem Fun.ok{N:List Str}{k:Nat}{sp:Sp}(F:Fun K x qual st f fd)(S:FnScope N ps (j3 st))(len:∀vs H Q E,sp vs H Q E->vs.length=ps.length)
 (hbody:∀(cdv:Value) (A:Around) (outer:List Env) (s:Shared) (H:Hp) (vs:List V) (Q:VK) (E:XK),Room k (A.deeper (envOfC qual (j3 st) .(3) f cdv))->sp vs H Q E ->
  ∃t,PSs (cxOf CX0 P w K mg base N qual (j3 st) f cdv A outer s H E).nox (z03 st) t/\t { nx:=λ_ H'=>Q .non H',rt:=Q } (start N vs) H):FnOk P w K mg base CX0 (k+1) f fd ps sp:=by
 obtain⟨oc,od,kV,doc,pm,an,cdv,ct,osl,rfl,lk,hcd⟩:=F.ex;refine zz5 lk hcd S len λA outer s H vs Q E hr hsp=>?_;obtain⟨t,h,q⟩:=hbody cdv A outer s H vs Q E hr hsp;exact⟨t,h.nox,q⟩
theorem Fun.binds{ps:List Str}(F:Fun K x qual st f fd)
 (h:∀(kV doc pm:Value) (an:Option Addr) (cdv ct:Value) (us:List Value),us.length=ps.length->bindArgs (K2i x qual (z13 st) (z03 st) (j3 st) .none kV doc pm an cdv ct) ⟨us,[]⟩=pure (ps.zip us)):Binds K fd ps []:=by
 obtain⟨oc,od,kV,doc,pm,an,cdv,ct,osl,rfl,lk,hcd⟩:=F.ex;exact .all (h kV doc pm an cdv ct)
theorem zX0{oc:Value}{od an:Option Addr}{kV doc pm cdv ct:Value}(l:K.lookup f=some ⟨oc,od,.func (K2i x qual (z13 st) (z03 st) (j3 st) .none kV doc pm an cdv ct),osl⟩)
 (c:K2y K cdv qual=true) (k:K2o K (.ref f)=true):Fun K x qual st f (K2i x qual (z13 st) (z03 st) (j3 st) .none kV doc pm an cdv ct):=⟨⟨oc,od,kV,doc,pm,an,cdv,ct,osl,rfl,l,c⟩,k⟩
end
theorem z3f{k:Nat}(hr:Room k A):A.units+1<cLine:=K7k (K9z (by decide:1<=64) _) hr.units
section
variable{κ:Type}[DecidableEq κ]
def valV(kvs:List (κ×V))(k:κ):Option V:=(kvs.find? λkv=>decide (kv.1=k)).map (·.2)
def putK(kvs:List (κ×V))(k:κ)(v:V):List (κ×V):=
 if (kvs.any λkv=>decide (kv.1=k))=true then kvs.map (λkv=>if kv.1=k then (kv.1,v) else kv) else kvs++[(k,v)]
theorem z49{p:κ×V}{r:List (κ×V)}{k:κ}(e:p.1=k):valV (p::r) k=some p.2:=by simp[valV,K2s,e]
theorem z4i{p:κ×V}{r:List (κ×V)}{k:κ}(e:¬ p.1=k):valV (p::r) k=valV r k:=by simp[valV,K2s,e]
theorem z87(k:κ):∀kvs:List (κ×V),(kvs.any λkv=>decide (kv.1=k))=(valV kvs k).isSome
 | []=>rfl
 | p::r=>by
  rw[K2g];by_cases e:p.1=k
  ·simp only[z49 e,decide_eq_true e,Bool.true_or,Option.isSome_some]
  ·rw[z4i e,.(k) e,K87];exact z87 k r
theorem z2P(kvs:List (κ×V))(k:κ)(v:V):(putK kvs k v).length<=kvs.length+1:=by
 unfold putK;split
 ·rw[K0c];omega
 ·rw[K3,K6,K06];omega
theorem RelO.isSome_eq{u:Option Value}(r:RelO o u):o.isSome=u.isSome:=by
 cases o with
 | none=>cases u with
  | none=>rfl
  | some _=>exact(show False from r).elim
 | some _=>cases u with
  | none=>exact(show False from r).elim
  | some _=>rfl
theorem KV.val{kvs:List (κ×V)}{vs:List (κ×Value)}(r:KV kvs vs)(k:κ):RelO (valV kvs k) (K9u vs k):=by
 unfold KV at r;induction r with
 | nil=>exact K47
 | @cons p q ps qs h t ih=>
  obtain⟨h1,h2⟩:=h;by_cases e:p.1=k
  ·have e':q.1=k:=h1.symm.trans e;have b:K9u (q::qs) k=some q.2:=by simp[K9u,K2s,e']
   rw[z49 e,b];exact h2
  ·have e':¬ q.1=k:=λz=>e (h1.trans z);have b:K9u (q::qs) k=K9u qs k:=by simp[K9u,K2s,e']
   rw[z4i e,b];exact ih
theorem KV.any{kvs:List (κ×V)}{vs:List (κ×Value)}(r:KV kvs vs)(k:κ):(kvs.any λkv=>decide (kv.1=k))=vs.any λkv=>decide (kv.1=k):=by
 unfold KV at r;induction r with
 | nil=>rfl
 | cons h t ih=>rw[K2g,K2g,ih,h.1]
theorem KV.repl{kvs:List (κ×V)}{vs:List (κ×Value)}(r:KV kvs vs)(k:κ)(ry:RelV y u):
 KV (kvs.map λkv=>if kv.1=k then (kv.1,y) else kv) (vs.map λkv=>if kv.1=k then (kv.1,u) else kv):=by
 unfold KV at r ⊢;induction r with
 | nil=>exact .nil
 | @cons p q ps qs h t ih=>
  rw[K0p,K0p];refine .cons ?_ ih;obtain⟨h1,h2⟩:=h;by_cases e:p.1=k
  ·rw[if_pos e,if_pos (h1.symm.trans e)];exact⟨h1,ry⟩
  ·rw[if_neg e,if_neg (λz=>e (h1.trans z))];exact⟨h1,h2⟩
theorem KV.put{kvs:List (κ×V)}{vs:List (κ×Value)}(r:KV kvs vs)(k:κ)(ry:RelV y u):KV (putK kvs k y) (stored vs k u):=by
 unfold putK stored;rw[r.any k];by_cases e:(vs.any λkv=>decide (kv.1=k))=true
 ·rw[if_pos e,if_pos e];exact r.repl k ry
 ·rw[if_neg e,if_neg e];exact Paired.snoc r ⟨rfl,ry⟩
theorem KV.length{kvs:List (κ×V)}{vs:List (κ×Value)}(r:KV kvs vs):kvs.length=vs.length:=K3b r
end
theorem z9f{k:Key}(r:RelV (kV k) u):(Y0 P w).is k u=true:=by
 cases k with
 | inl i=>obtain⟨t,e⟩:=(show ∃t,u=K78 i t from r);subst e;exact z6Z P w i t
 | inr x=>obtain⟨t,e⟩:=(show ∃t,u=Z2l x t from r);subst e;exact z7j P w x t
theorem z6u{P:K1i}{w:World}:∀{ks:List Key}{us:List Value},Vals (ks.map kV) us->ItemsAre (Y0 P w) ks us
 | [],_,r=>by rw[K1u]at r;cases r;exact .nil
 | k::ks,_,r=>by
  rw[K0p]at r;cases r with
  | cons h t=>exact .cons (z9f h) (z6u t)
abbrev KT(H:Hp):List (List Key×V)->List (List Key×Addr×Value)->Prop:=Paired λp q=>p.1=q.1/\H q.2.1=.(g (p.1.map kV))/\RelV p.2 q.2.2
theorem KT.val(r:KT H kvs xs)(k:List Key):RelO (valV kvs k) ((atKey xs k).map (·.2)):=by
 induction r with
 | nil=>exact K47
 | @cons p q ps qs h t ih=>
  obtain⟨h1,_,h2⟩:=h;by_cases e:p.1=k
  ·have e':q.1=k:=h1.symm.trans e;have b:atKey (q::qs) k=some q.2:=by simp[atKey,K2s,e']
   rw[z49 e,b];exact h2
  ·have e':¬ q.1=k:=λz=>e (h1.trans z);have b:atKey (q::qs) k=atKey qs k:=by simp[atKey,K2s,e']
   rw[z4i e,b];exact ih
theorem KT.repl(r:KT H kvs xs)(k:List Key)(ry:RelV y u):
 KT H (kvs.map λkv=>if kv.1=k then (kv.1,y) else kv) (xs.map (putAt k u)):=by
 induction r with
 | nil=>exact .nil
 | @cons p q ps qs h t ih=>
  rw[K0p,K0p];refine .cons ?_ ih;obtain⟨h1,h2,h3⟩:=h;unfold putAt;by_cases e:p.1=k
  ·rw[if_pos e,if_pos (h1.symm.trans e)];exact⟨h1,h2,ry⟩
  ·rw[if_neg e,if_neg (λz=>e (h1.trans z))];exact⟨h1,h2,h3⟩
theorem KT.put(r:KT H kvs xs)(k:List Key){b:Addr}(hb:H b=.(g (k.map kV)))(ry:RelV y u):
 KT H (putK kvs k y) (storedH xs k b u):=by
 have e:(kvs.any λkv=>decide (kv.1=k))=(atKey xs k).isSome:=by
  rw[z87,(r.val k).isSome_eq,K6d]
 unfold putK storedH;rw[e];by_cases q:(atKey xs k).isSome=true
 ·rw[if_pos q,if_pos q];exact r.repl k ry
 ·rw[if_neg q,if_neg q];exact Paired.snoc r ⟨rfl,hb,ry⟩
theorem KT.keeps(r:KT H kvs xs)(ht:∀b ys,H b=.(g ys)->H' b=.(g ys)):KT H' kvs xs:=
 Paired.mapP r λ_ _ z=>⟨z.1,ht _ _ z.2.1,z.2.2⟩
theorem zR6{u:HO}(ok:HOk P w H h)(e:Rd H a u):ObjOk P w H h a u:=e.ok ok
theorem zj0{kvs:List (Key×V)}(ok:HOk P w H h)(e:Rd H a (.dK kvs)):kvs.length<=sizeLine/\(a==K4m)=false/\∃vs,KV kvs vs/\h.DictOf (Y0 P w) a vs:=
 show ObjOk P w H h a (.dK kvs) from zR6 ok e
theorem zy8{kvs:List (Key×V)}(ok:HOk P w H h)(e:H a=some (.dK kvs)):kvs.length<=sizeLine/\(a==K4m)=false/\∃vs,KV kvs vs/\h.DictOf (Y0 P w) a vs:=zj0 ok (.inl e)
theorem z6c{ks:List Key}(ok:HOk P w H h)(e:H a=.(g (ks.map kV))):(K9v (Y0 P w)).is h ks a:=by
 obtain⟨_,its,r,o,h1,h2,n,h3⟩:=(show ObjOk P w H h a (.tup (ks.map kV)) from ok a _ e);exact⟨o,its.toArray,n,h1,h2.1,h3,by simpa using z6u r⟩
theorem z9C(ok:HOk P w H h)(e:Rd H a (.dT kvs)):kvs.length<=sizeLine/\(a==K4m)=false /\
 ∃xs,KT H kvs xs/\h.DictOfH (K9v (Y0 P w)) a xs:=by
 obtain⟨z,y,xs,r,o,es,ep,h1,h2,h3,h4,h5⟩:=(show ObjOk P w H h a (.dT kvs) from zR6 ok e);refine⟨z,y,xs,r,o,es,ep,h1,h2,h3,h4,λx hx=>?_,h5⟩;have all:∀{l:List (List Key×V)} {m:List (List Key×Addr×Value)},KT H l m->∀x∈m,(K9v (Y0 P w)).is h x.1 x.2.1:=by
  intro l m q;induction q with
  | nil=>intro x hx;exact nomatch hx
  | @cons p q ps qs hq t ih=>
   intro x hx;rcases K0l.mp hx with e|hx
   ·subst e;exact z6c ok (by rw[<- hq.1];exact hq.2.1)
   ·exact ih x hx
 exact all r x hx
theorem Z08(ok:HOk P w H h)(e:H a=some (.dT kvs)):kvs.length<=sizeLine/\(a==K4m)=false /\
 ∃xs,KT H kvs xs/\h.DictOfH (K9v (Y0 P w)) a xs:=z9C ok (.inl e)
def DGet(H:Hp)(a:Addr)(y:V)(r:Option V):Prop:=
 (∃kvs k,Rd H a (.dK kvs)/\y=kV k/\r=valV kvs k)\/∃kvs k b,Rd H a (.dT kvs)/\y=.ref b/\H b=.(g (k.map kV))/\r=valV kvs k
def DPut(H:Hp)(a:Addr)(y v:V)(H':Hp):Prop:=
 (∃kvs k,H a=some (.dK kvs)/\y=kV k/\kvs.length<sizeLine/\H'=upd H a (.dK (putK kvs k v))) \/
 ∃kvs k b,H a=some (.dT kvs)/\y=.ref b/\H b=.(g (k.map kV))/\kvs.length<sizeLine/\H'=upd H a (.dT (putK kvs k v))
theorem DPut.k{H:Hp}{a:Addr}{kvs:List (Key×V)}{k:Key}{v:V}(e:H a=some (.dK kvs))(hl:kvs.length<sizeLine):DPut H a (kV k) v (upd H a (.dK (putK kvs k v))):=.inl ⟨kvs,k,e,rfl,hl,rfl⟩
section
variable{v:V}{r:Value}
theorem Inv.big(I:Inv X pins σ H s):K4m<s.heap.objs.size:=by
 have h:K23<s.heap.objs.size:=(I.mod.glob.keeps I.bk).lt;exact Z25 .(1) h
theorem zd7(hu:A.units+1<cLine)(I:Inv X pins σ H s)(g:DGet H a y (some v))(ry:RelV y u)(h:∀w' s',Inv X pins σ H s'->RelV v w'->Q w' s'):
 wpAny .(6) A (K75 (.ref a) u) Q E s:=by
 rcases g with ⟨kvs,k,e,ey,l⟩|⟨kvs,k,b,e,ey,eb,l⟩
 ·subst ey;obtain⟨z,hd,vs,rel,dd⟩:=zj0 I.hok e;obtain⟨w',hw,rw'⟩:=RelO.some_of (v:=v) (o:=K9u vs k) (by rw[l];exact rel.val k);exact wpAny_getItem_of (z9f ry) dd.mapOf hw (h w' _ (I.tok _) rw')
 ·subst ey;cases (show u=K29 b from ry);obtain⟨z,hd,xs,rel,dd⟩:=z9C I.hok e;obtain⟨w',hw,rw'⟩:=RelO.some_of (v:=v) (o:=(atKey xs k).map (·.2)) (by rw[l];exact rel.val k);obtain⟨p,hp,hp2⟩:=K11.mp hw;refine wpAny_getItem_heap (K5x hu) (z6c I.hok eb) dd hp ?_;rw[hp2];exact h w' _ (I.tok _) rw'
theorem d_in(hu:A.units+1<cLine)(I:Inv X pins σ H s)(g:DGet H a y o)(ry:RelV y u)(h:∀s',Inv X pins σ H s'->Q (.bool o.isSome) s'):
 wpAny .(6) A (K1w .In u (.ref a)) Q E s:=by
 rcases g with ⟨kvs,k,e,ey,l⟩|⟨kvs,k,b,e,ey,eb,l⟩
 ·subst ey;obtain⟨z,hd,vs,rel,dd⟩:=zj0 I.hok e;refine wpAny_in_of (z9f ry) hd dd.mapOf ?_;rw[<- (rel.val k).isSome_eq,<- l];exact h _ (I.tok _)
 ·subst ey;cases (show u=K29 b from ry);obtain⟨z,hd,xs,rel,dd⟩:=z9C I.hok e;refine wpAny_in_heap (K5x hu) (z6c I.hok eb) hd dd ?_;have q:=(rel.val k).isSome_eq;rw[K6d]at q;rw[<- q,<- l];exact h _ (I.tok _)
theorem zD8(hu:A.units+1<cLine)(I:Inv X pins σ H s)(g:DGet H a y o)(ry:RelV y u)(h:∀s',Inv X pins σ H s'->Q (.bool (!o.isSome)) s'):
 wpAny .(6) A (K1w .NotIn u (.ref a)) Q E s:=by
 rcases g with ⟨kvs,k,e,ey,l⟩|⟨kvs,k,b,e,ey,eb,l⟩
 ·subst ey;obtain⟨z,hd,vs,rel,dd⟩:=zj0 I.hok e;refine wpAny_notIn_of (z9f ry) hd dd.mapOf ?_;rw[<- (rel.val k).isSome_eq,<- l];exact h _ (I.tok _)
 ·subst ey;cases (show u=K29 b from ry);obtain⟨z,hd,xs,rel,dd⟩:=z9C I.hok e;refine wpAny_notIn_heap (K5x hu) (z6c I.hok eb) hd dd ?_;have q:=(rel.val k).isSome_eq;rw[K6d]at q;rw[<- q,<- l];exact h _ (I.tok _)
theorem z5I{t':Nat}{ob:HO}(I:Inv X pins σ H s)(mu:Mut (H a))(hs:K1y a s.heap h')(he:∃q,h'.get? a=some q)(new:ObjOk X.prog X.w (upd H a ob) h' a ob):
 Inv X pins σ (upd H a ob) { s with heap:=h',toks:=t' }:=
 I.write (x:=a) (e:=a) mu (.inl rfl) (λb q hb z=>(hs.2 b hb).trans z) he new
theorem zu1{H':Hp}{kvs:List (Key×V)}(z:kvs.length<=sizeLine)(hd:(a==K4m)=false)(rel:KV kvs vs)(dd:h'.DictOf (Y0 P w) a vs):
 ObjOk P w H' h' a (.dK kvs):=⟨z,hd,vs,rel,dd⟩
theorem zg4{Q:Unit->Shared->Prop}(hu:A.units+1<cLine)(I:Inv X pins σ H s)(g:DPut H a y v H')(ry:RelV y u)(rv:RelV v r)(h:∀s',Inv X pins σ H' s'->Q () s'):
 wpAny .(6) A (Z38 (.ref a) u r) Q E s:=by
 rcases g with ⟨kvs,k,e,ey,l,eH⟩|⟨kvs,k,b,e,ey,eb,l,eH⟩
 ·subst ey eH;obtain⟨z,hd,vs,rel,dd⟩:=zy8 I.hok e;have hz:vs.length<=sizeLine:=by rw[<- rel.length];exact z
  have hl:(putK kvs k v).length<=sizeLine:=by have:=z2P kvs k v;omega
  refine wpAny_setItem_pairs (hsz:=hz) (z9f ry) dd λh' dd' hs=>h _ ?_;have he:∃q,h'.get? a=some q:=let ⟨q,_,_,hq,_⟩:=dd';⟨q,hq⟩;exact z5I I (by rw[e];exact K47) hs he (zu1 hl hd (rel.put k rv) dd')
 ·subst ey eH;cases (show u=K29 b from ry);obtain⟨z,hd,xs,rel,dd⟩:=Z08 I.hok e;have hz:xs.length<=sizeLine:=by rw[<- K3b rel];exact z
  have hl:(putK kvs k v).length<=sizeLine:=by have:=z2P kvs k v;omega
  refine wpAny_setItem_heap (hsz:=hz) (K5x hu) (z6c I.hok eb) dd λh' dd' hs=>h _ ?_;obtain⟨q,es,ep,hq,h2,h3,h4,_,h5⟩:=dd';refine z5I I (by rw[e];exact K47) hs ⟨q,hq⟩ ⟨hl,hd,_,(rel.put k eb rv).keeps λc ys ec=>?_,q,es,ep,hq,h2,h3,h4,h5⟩;rw[Y5 (Z14 ec e (λz=>nomatch z))];exact ec
end
def NoSl(i:Expr):Prop:=∀ov iv,K9l i false ov iv=operate [ov,iv] (K75 ov iv)
theorem zI4{prog:K1i}{w:World}{A:Around}{E:Value->Shared->Prop}{s:Shared}{env:Env}{value slice:Expr}{pos:Pos}{T id:String}{Q:Value->Shared->Prop}
 (hl:typeLookup (.type T) "__getitem__" = pure (some (.builtin id))) (hs:NoSl slice)
 (h:wpAny (model prog w) A (eval value env) (λo s₁=>wpAny (model prog w) A (eval slice env) (λi s₂=>s₂.TypeIs o T/\wpAny (model prog w) A (K75 o i) Q E s₂) E s₁) E s) :
 wpAny (model prog w) A (eval (.Subscript value slice pos) env) Q E s:=by
 refine Subscript_ (K49 h (λo s₁ h₁=>K49 h₁ (λi s₂ h₂=>?_) λ_ _ x=>x) λ_ _ x=>x);obtain⟨hT,h₂⟩:=h₂;unfold Z1k;refine K0 ?_;rw[getitemInPython_of_ne hT.not_modules];refine K0 (K96 hT hl ?_);have fin:wpAny (model prog w) A (K9l slice false o i) (λr s₃=>wpAny (model prog w) A (letTemporaryGo value o r >>= λ_=>pure r) Q E s₃) E s₂:=by
  rw[hs o i];exact wpAny_operating (K49 h₂ (λr s₃ h₃=>K0 (wpAny_letTemporaryGo (K4 h₃))) λ_ _ x=>x)
 first
  | exact K4 (K0 fin)
  | exact K0 (K4 (K0 fin))
  | exact K0 fin
theorem z71(I:Inv X pins σ H s)(g:DGet H a y o):s.TypeIs (.ref a) "dict":=by
 rcases g with ⟨kvs,k,e,_,_⟩|⟨kvs,k,b,e,_,_,_⟩
 ·obtain⟨_,_,vs,_,dd⟩:=zj0 I.hok e;exact dd.typeIs
 ·obtain⟨_,_,xs,_,dd⟩:=z9C I.hok e;exact dd.typeIs
def Z1c(td ty:TE):TE:=λσ H Q=>td σ H λx H1=>ty σ H1 λy H2=>∃a v,x=.ref a/\DGet H2 a y (some v)/\Q v H2
section
variable{o i e:Expr}{pos' tpos:Pos}{td ty tv:TE}
theorem zD5(hu:X.A.units+1<cLine)(ho:PE X o td)(hi:PE X i ty)(hs:NoSl i):PE X (.Subscript o i pos) (Z1c td ty):=by
 intro pins s σ H Q I h;refine zI4 PySem.F.slot_dict_getitem.lookup hs (thn (ho pins s σ H _ I h) λu s1 ⟨x,H1,I1,rx,q1⟩=>thn (hi pins s1 σ H1 _ I1 q1) λiv s2 ⟨y,H2,I2,ry,a,v,ex,g,q2⟩=>?_);subst ex;obtain rfl:u=K29 a:=rx;exact⟨z71 I2 g,zd7 hu I2 g ry λw' s3 I3 rw'=>⟨v,H2,I3,rw',q2⟩⟩
end
theorem z82(h:Heap)(hb:K4m<h.objs.size):ObjOk P w H (h.push { cls:=.type "dict",data:=.dict #[] }) h.objs.size (.dK []):=
 ⟨K4j _,beq_eq_false_iff_ne.mpr (K57 (K0x hb)),[],.nil,Heap.DictOf.new h⟩
def zM3:TE:=λ_ H Q=>∀p,H p=none->Q (.ref p) (upd H p (.dK []))
theorem zo9:PE X (.Dict [] [] pos) zM3:=λpins s σ H Q I h=>
 wpAny_Dict_empty ⟨.ref .(3),_,I.laid (a:=.(3)) (o:=.dK []) (t':=s.toks) (λ_ _ q=>K9 _ q) (K01 _) (z82 s.heap I.big),rfl,h _ (I.hok.fresh (K01 _))⟩
abbrev z4J(ifs:List Expr)(env:Env):Sem Bool:=
 forIn ifs true λc r=>if r=true then do { let ok <- isTrue c env (eval c env);pure (K3i ok) } else pure (K3i r)
def z0s(env:Env):List (Str×K6a)->List (Str×Addr)->List (Str×Addr)
 | [],acc=>acc
 | (n,k)::r,acc=>z0s env r (if k==.free then match env.cells.lookup n with|some c=>(n,c)::acc|none=>acc else acc)
theorem z3H{env:Env}:∀(names:List (Str×K6a)) (acc:List (Str×Addr)),(∀x∈names,x.2=.free->∃c,env.cells.lookup x.1=some c) ->
 (forIn names acc λ(x:Str×K6a) (r:List (Str×Addr))=>(if (x.2==K4t)=true then do { let c <- cellOf env x.1;pure (K3i ((x.1,c)::r)) } else pure (K3i r):Sem (ForInStep (List (Str×Addr)))))=(pure (z0s env names acc):Sem _)
 | [],acc,_=>by rw[K9j];rfl
 | (n,k)::r,acc,h=>by
  rw[K95];have hr:∀x∈r,x.2=.free->∃c,env.cells.lookup x.1=some c:=λx hx=>h x (K14 _ hx);by_cases hk:k=.free
  ·subst hk;obtain⟨c,hc⟩:=h (n,.free) K18 rfl;have hc':env.cells.lookup n=some c:=hc;simp only[z0s,beq_self_eq_true,if_true,cellOf,hc',pure_bind];exact z3H r _ hr
  ·have hb:(k==K4t)=false:=by simpa using hk
   simp only[z0s,hb,K1k,if_false,pure_bind];exact z3H r _ hr
theorem z3g{scope:Scope}(h:∀x∈scope.names,x.2=.free->∃c,env.cells.lookup x.1=some c):
 closureFor scope env=pure (z0s env scope.names []):=by
 unfold closureFor;exact congrArg (λm:Sem (List (Str×Addr))=>m >>= λz=>pure z) (z3H scope.names [] h)
theorem z8L{env:Env}:∀(names:List (Str×K6a)) (acc:List (Str×Addr)) {x:Str}{c:Addr},(z0s env names acc).lookup x=some c ->
 env.cells.lookup x=some c\/acc.lookup x=some c
 | [],acc,x,c,h=>.inr h
 | (n,k)::r,acc,x,c,h=>by
  rcases z8L r _ h with q|q
  ·exact .inl q
  ·by_cases hk:(k==K4t)=true
   ·rw[if_pos hk]at q;cases e:env.cells.lookup n with
    | none=>rw[e]at q;exact .inr q
    | some c'=>
     rw[e]at q;simp only[K3a]at q;cases hx:x==n with
     | true=>
      rw[hx]at q;cases q;have:x=n:=by simpa using hx
      subst this;exact .inl e
     | false=>rw[hx]at q;exact .inr q
   ·rw[if_neg hk]at q;exact .inr q
theorem z81{env:Env}{x:Str}{c:Addr}(hc:env.cells.lookup x=some c):∀(names:List (Str×K6a)) (acc:List (Str×Addr)),
 acc.lookup x=some c->(z0s env names acc).lookup x=some c
 | [],acc,h=>h
 | (n,k)::r,acc,h=>by
  refine z81 hc r _ ?_;by_cases hk:(k==K4t)=true
  ·rw[if_pos hk];cases e:env.cells.lookup n with
   | none=>exact h
   | some c'=>
    simp only[K3a];cases hx:x==n with
    | true=>
     have:x=n:=by simpa using hx
     subst this;rw[hc]at e;exact e.symm
    | false=>exact h
  ·rw[if_neg hk];exact h
theorem z7k{env:Env}{x:Str}{c:Addr}(hc:env.cells.lookup x=some c):∀(names:List (Str×K6a)) (acc:List (Str×Addr)),
 (x,K4t)∈names->(z0s env names acc).lookup x=some c
 | [],_,h=>absurd h .(e)
 | (n,k)::r,acc,h=>by
  rcases K0l.mp h with e|h
  ·cases e;refine z81 hc r _ ?_;rw[if_pos .(e),hc];simp[K3a]
  ·exact z7k hc r _ h
theorem z2N{sc:Scope}{k:NameKind}(h:(relabel sc env).names.lookup x=some k):
 ∃k0,sc.names.lookup x=some k0/\(k=k0\/(k=.cell/\k0=.free)):=by
 unfold relabel at h;dsimp only at h;generalize sc.names=ns at h ⊢;induction ns with
 | nil=>simp at h
 | cons a r ih=>
  obtain⟨n,k1⟩:=a;simp only[K0p]at h;by_cases hc:(k1==K4t&&env.scope.kind==.function&&env.kindOf n==some .cell)=true
  ·rw[if_pos hc]at h;simp only[K3a]at h ⊢;cases hx:x==n with
   | true=>
    rw[hx]at h;cases h;refine⟨k1,rfl,.inr ⟨rfl,?_⟩⟩;simp only[K0e]at hc;simpa using hc.1.1
   | false=>rw[hx]at h;exact ih h
  ·rw[if_neg hc]at h;simp only[K3a]at h ⊢;cases hx:x==n with
   | true=>rw[hx]at h;cases h;exact⟨_,rfl,.inl rfl⟩
   | false=>rw[hx]at h;exact ih h
theorem z6g{sc:Scope}{env:Env}(h:sc.names.lookup x=some .free):
 (relabel sc env).names.lookup x=some .cell\/(relabel sc env).names.lookup x=some .free:=by
 unfold relabel;dsimp only;generalize sc.names=ns at h ⊢;induction ns with
 | nil=>simp at h
 | cons a r ih=>
  obtain⟨n,k1⟩:=a;simp only[K0p];simp only[K3a]at h;by_cases hc:(k1==K4t&&env.scope.kind==.function&&env.kindOf n==some .cell)=true
  ·rw[if_pos hc];simp only[K3a];cases hx:x==n with
   | true=>exact .inl rfl
   | false=>rw[hx]at h;exact ih h
  ·rw[if_neg hc];simp only[K3a];cases hx:x==n with
   | true=>rw[hx]at h;exact .inr h
   | false=>rw[hx]at h;exact ih h
structure CS(X:Cx)(sc:Scope)(N':List Str)(cap:List (Option Nat)):Prop where
 kind:sc.kind=.function
 nocell:∀y∈sc.names,y.2≠.cell
 loc:∀x∈sc.names,x.2=.local->sc.names.lookup x.1=some .local
 fr:∀x∈sc.names,x.2=.free->X.env.kindOf x.1=some .cell\/X.env.kindOf x.1=some .free
 len:cap.length=N'.length
 capt:∀(i j:Nat),cap[i]?=some (some j)->∃x,N'[i]?=some x/\X.N[j]?=some x/\sc.names.lookup x=some .free
def z4K(cap:List (Option Nat))(σ:St):St:=cap.map λo=>match o with|some j=>(σ[j]?).join|none=>none
def Cx.comp(X:Cx)(N':List Str)(sc:Scope)(s:Shared)(H:Hp)(fp:List Addr)(xe:Value->Shared->Prop):Cx:=
 { X with N:=N',s₀:=s,H₀:=H,env:=compEnvC sc (z0s X.env sc.names []) s.heap.objs.size X.env,outer:=X.stack,stack:=X.stack,ex:=fp,fn:=λ_=>false,pn:=[],xe:=xe }
section
variable{sc:Scope}
theorem CS.cells(S:CS X sc N' cap)(I:Inv X pins σ H s):∀x∈sc.names,x.2=.free->∃c,X.env.cells.lookup x.1=some c:=λx hx hf=>
 I.ok.has x.1 (S.fr x hx hf)
theorem Inv.compIn{t:Nat}(I:Inv X pins σ H s)(S:CS X sc N' cap)(hf:∀b∈fp,FpOk X pins H b)(hlt:∀b∈fp,b<s.heap.objs.size)
 (hns:h'.Ns .(3) λ_=>none) (hk:∀b o,s.heap.get? b=some o->h'.get? b=some o) :
 Inv .(7) [] (z4K cap σ) H { s with heap:=h',toks:=t }:=by
 have hfrom:∀{x c},(z0s X.env sc.names []).lookup x=some c->X.env.cells.lookup x=some c:=λ{x c} q=>by
  rcases z8L _ _ q with z|z
  ·exact z
  ·simp at z
 have hlook:∀ {x},((relabel sc X.env).names.lookup x=some .cell\/(relabel sc X.env).names.lookup x=some .free)->sc.names.lookup x=some .free:=fun {x} q=>by
  rcases q with q|q
  ·obtain⟨k0,e,z⟩:=z2N q;rcases z with z|z
   ·subst z;exact absurd rfl (S.nocell _ (K2j e))
   ·rw[e,z.2]
  ·obtain⟨k0,e,z⟩:=z2N q;rcases z with z|z
   ·rw[e,z]
   ·cases z.1
 refine⟨⟨I.ok.mod,?_,I.ok.glob,I.ok.blt,K01 _,λx y c h1 h2=>I.ok.inj x y c (hfrom h1) (hfrom h2),λx hx=>?_,λx c q=>absurd (show false=true from q) .(1),I.ok.hd,I.ok.frames,.inl rfl,λb hb=>⟨?_,λx c q=>?_⟩,
  I.bs,K0h I.ok.bsz I.sz,λb o e hb=>?_,λb hb hz=>?_,I.stack,I.stkFree⟩,
  rfl,I.bare,Un.kept hk,⟨_,hns,λi x v h1 h2 h3=>?_⟩,λx c q=>?_,I.hok.fresh (K01 _),λx c q=>I.freeC x c (hfrom q),λp hp=>absurd (show p∈([]:List .(u)) from hp) .(e),I.hok.kept hk,?_⟩
 ·exact S.kind
 ·have e:=hlook hx;have e2:=K2j e;obtain⟨c,hc⟩:=I.ok.has x (S.fr _ e2 rfl);exact⟨c,z7k hc _ _ e2⟩
 ·exact K0x (hlt b hb)
 ·exact(hf b hb).2.2.2.2.1 x c (hfrom q)
 ·rcases(hf b hb).2.2.2.1 with z|z
  ·exact I.ok.noex b o e z
  ·exact absurd (K10 (K0f e) (K0h I.ok.bsz z)) (K2x _)
 ·rcases K0l.mp (I.stkSub b hz) with z|z
  ·exact(hf b hb).2.1 z
  ·exact(hf b hb).2.2.1 z
 ·have h2':(cap.map λo=>match o with|some j=>(σ[j]?).join|none=>none)[i]?=some (some v):=h2;rw[K0a]at h2';cases e:cap[i]? with
  | none=>rw[e]at h2';cases h2'
  | some o=>
   rw[e]at h2';cases o with
   | none=>simp at h2'
   | some j=>
    have hj:σ[j]?=some (some v):=by
     have h4:(σ[j]?).join=some v:=by simpa using h2'
     cases e2:σ[j]? with
     | none=>rw[e2]at h4;simp at h4
     | some o2=>rw[e2]at h4;simp at h4;rw[h4]
    obtain⟨y,n1,n2,n3⟩:=S.capt i j e;have ey:y=x:=by
     have h1':N'[i]?=some x:=h1;rw[n1]at h1';exact K0y h1'
    subst ey;have hm:=K2j n3;have hkind:=S.fr _ hm rfl;obtain⟨m,hn,hl⟩:=I.loc;have vis:Vis X.env.scope y:=by
     rcases hkind with z|z
     ·exact .inr (.inl z)
     ·exact .inr (.inr z)
    obtain⟨u,r,l⟩:=hl j y v n2 hj vis;refine⟨u,r,.inr ?_⟩;rcases l with ⟨z,_⟩|⟨_,c,hc,hcell⟩
    ·have z':X.env.kindOf y=some .local:=z;rcases hkind with q|q<;>(have q':X.env.kindOf y=_:=q;rw[z']at q';cases q')
    ·obtain⟨o,ho,hd⟩:=hcell;exact⟨z6g n3,c,z7k hc _ _ hm,o,hk c o ho,hd⟩
 ·obtain⟨v,o,ho,hd⟩:=I.cell x c (hfrom q);exact⟨v,o,hk c o ho,hd⟩
 ·show (cap.map _).length=N'.length;rw[K0c];exact S.len
theorem Inv.compOut{pins':List .(u)}{σ':St}{H':Hp}{s':Shared}(I:Inv X pins σ H s)(hf:∀b∈fp,FpOk X pins H b)
 (J:Inv .(7) pins' σ' H' s') (hs:K1y .(3) s'.heap h'):Inv X pins σ H' { s' with heap:=h' }:=by
 have hu:Un (frs X.stack) fp H H' s.heap s'.heap:=J.base;have hC:H' .(3)=none:=J.free;have lt:∀{b:Addr} {o:Obj},s.heap.get? b=some o->b≠s.heap.objs.size:=λe=>K0x (K0f e);refine I.call' (s':={ s' with heap:=h' }) (ch:=fp) J.os ⟨λb o e n h1 h2=>?_,λb o e n h1 h2=>?_,hu.free,λb o e h1=>?_,hu.tups,hu.frzs,hu.tbls⟩ (λb u e=>?_) J.bare (λb hb=>⟨(hf b hb).2.2.2.1,(hf b hb).2.1,(hf b hb).2.2.2.2.1,(hf b hb).2.2.2.2.2⟩)
 ·exact(hs.2 b (lt e)).trans (hu.keep b o e n h1 h2)
 ·obtain⟨sl,q⟩:=hu.slot b o e n h1 h2;exact⟨sl,(hs.2 b (lt e)).trans q⟩
 ·obtain⟨o',q⟩:=hu.there b o e h1;exact⟨o',(hs.2 b (lt e)).trans q⟩
 ·refine(J.hok b u e).stay (λc v hc q=>?_) (λ_ q=>q) λ_ _ q=>q;have ne:c≠s.heap.objs.size:=by
   rintro rfl;rcases hc with z|z
   ·rw[<- z,hC]at e;cases e
   ·rw[hC]at z;cases z
  exact(hs.2 c ne).trans q
end
def PTs(X:Cx)(ifs:List Expr)(t:TT):Prop:=
 ∀(pins:List .(u)) (s:Shared) (σ:St) (H:Hp) (Q:Bool->Hp->Prop),Inv X pins σ H s->t σ H Q->wpAny .(6) X.A (z4J ifs X.env) (TP X pins σ Q) X.xe s
def zB0:TT:=λ_ H Q=>Q true H
def zT5(t r:TT):TT:=λσ H Q=>t σ H λb H1=>if b=true then r σ H1 Q else Q false H1
theorem z6x{X:Cx}{E:Value->Shared->Prop}{Q:Bool->Shared->Prop}:∀{ifs:List Expr}{s:Shared},Q false s ->
 wpAny .(6) X.A (forIn ifs false λc r=>if r=true then do { let ok <- isTrue c X.env (eval c X.env);pure (K3i ok) } else pure (K3i r)) Q E s
 | [],s,h=>by rw[K9j];exact K4 h
 | c::r,s,h=>by
  rw[K95];refine K0 ?_;rw[if_neg .(1)];exact K4 (z6x h)
theorem zj3:PTs X [] zB0:=λpins s σ H Q I h=>by
 unfold z4J;rw[K9j];exact K4 ⟨H,I,h⟩
theorem zt4{c:Expr}{r:List Expr}{t u:TT}(h1:PT X c t)(h2:PTs X r u):PTs X (c::r) (zT5 t u):=λpins s σ H Q I h=>by
 unfold z4J;rw[K95];refine K0 ?_;rw[if_pos rfl];refine K0 (thn (h1 pins s σ H _ I h) λb s1 ⟨H1,I1,q1⟩=>K4 ?_);cases b with
 | true=>exact h2 pins s1 σ H1 Q I1 (by simpa using q1)
 | false=>exact z6x ⟨H1,I1,by simpa using q1⟩
def z4X(p:Pos)(tg:Expr)(ifs:List Expr)(it:Value)(env:Env)(b:Sem Unit)(c:Code):Sem Fin:=do
 K5a p
 match <- pyNext it with
 | none=>pure (.done .next)
 | some v=>
  K5s tg it v
  assign tg env v
  let ok <- z4J ifs env
  if ok then b
  again c
abbrev TB:=St->Hp->(Hp->Prop)->Prop
variable{tbd:Addr->TB}
def Kp(σ σ':St):Prop:=∀(j:Nat) v,σ[j]?=some (some v)->σ'[j]?=some (some v)
def PBd(X:Cx)(b:Sem Unit)(t:TB):Prop:=
 ∀(pins:List .(u)) (s:Shared) (σ:St) (H:Hp) (Q:Hp->Prop),Inv X pins σ H s->t σ H Q->wpAny .(6) X.A b (λ_ s'=>∃σ' H',Inv X pins σ' H' s'/\Kp σ σ'/\Q H') X.xe s
def runG(g:TG)(ti:TT)(tb:TB)(σ:St)(J:It)(Q:Hp->Prop)(H:Hp):Prop:=
 ∃W:Nat->Nat->Hp->Prop,(∃m,W 0 m H)/\∀i m H,W i m H ->
  (J.stop i H/\Q H)\/(J.go i H/\∀x H1,J.yld i H x H1->g x σ H1 λσ2 H2=>Kp σ σ2 /\
   ti σ2 H2 λok H3=>if ok=true then tb σ2 H3 λH4=>∃m',m'<m/\W (i+1) m' H4 else ∃m',m'<m/\W (i+1) m' H3)
def CK(ce:Expr):Prop:=(∃elt gens sc pos,ce=.ListComp elt gens sc pos)\/∃k v gens sc pos,ce=.DictComp k v gens sc pos
section
variable{ce val:Expr}{sc:Scope}{p:Pos}{g g1:TG}{wi wi1:TI}{ti ti1:TT}{te tv:TE}{tb:TB}{b:Sem Unit}{D:Addr}
theorem zS7{pins:List .(u)}{σ0:St}{H2:Hp}{s2:Shared}{it:Addr}{fp:List Addr}{tn:Nat->Heap->Prop}{J:It}{R:Result->Shared->Prop}{Q:Hp->Prop}{k:Nat}{acc:Value}
 (htn:compTurn ce k (.ref it) acc X.env=z4X p tg ifs (.ref it) X.env b (.compLoop ce k (.ref it) acc X.env)) (hce:CK ce) (hc:X.calm=true)
 (hg:PG (X.wish (Z26 .(6) X.A X.env λe s'=>R (.error e) s')) tg g) (ht:PTs (X.wish (Z26 .(6) X.A X.env λe s'=>R (.error e) s')) ifs ti) (hb:PBd (X.wish (Z26 .(6) X.A X.env λe s'=>R (.error e) s')) b tb)
 (I2:Inv X pins σ0 H2 s2) (T:Turn X.prog X.w X.K tg J fp it tn) (st2:tn 0 s2.heap) (f2:∀b∈fp,FpOk X pins H2 b)
 (hq:runG g ti tb σ0 J Q H2) (hR:∀s' H',Inv X pins σ0 H' s'->Q H'->R (.ok .next) s') :
 K5q .(6) X.A (.compLoop ce k (.ref it) acc X.env) R s2:=by
 have stat:∀{H':Hp},(∀b∈fp,H' b=none)->∀b∈fp,FpOk X pins H' b:=λhn b hb=>⟨hn b hb,(f2 b hb).2⟩;obtain⟨W,⟨m0,w0⟩,turn⟩:=hq;refine codeAny_loop rfl (λn s'=>∃i H',Inv X pins σ0 H' s'/\tn i s'.heap/\(∀b∈fp,H' b=none)/\W i n H') (λn s5 hI=>?_) m0 ⟨0,H2,I2,st2,λb hb=>(f2 b hb).1,w0⟩;obtain⟨i,H5,I5,st5,fr5,w5⟩:=hI;have hu:X.A.under (.compLoop ce k (.ref it) acc X.env)=X.A/\(model X.prog X.w).den (.compLoop ce k (.ref it) acc X.env)=(compTurn ce k (.ref it) acc X.env).onRaise (λx=>do noteFrame x X.env;theTreesLotGoes x):=by
  rcases hce with ⟨_,_,_,_,rfl⟩|⟨_,_,_,_,_,rfl⟩<;>exact⟨rfl,rfl⟩
 rw[hu.1,hu.2];refine wpAny_noted ?_;rw[htn];unfold z4X;refine K0 (K3o (K0 ?_));rcases turn i n H5 w5 with ⟨stop,qn⟩|⟨go,step⟩
 ·refine thn (T.done X rfl rfl rfl hc i pins s5 _ H5 _ I5 (stat fr5) st5 stop) λr s6 ⟨hr,I6⟩=>?_;subst hr;exact K4 (hR s6 H5 I6 qn)
 ·refine thn (T.item X rfl rfl rfl hc i pins s5 _ H5 _ I5 (stat fr5) st5 go) λr s6 ⟨u,hr,h6⟩=>?_;subst hr;refine K0 (thn h6 λ_ s7 ⟨x,H7,I7,r7,y7,st7,fr7⟩=>?_);have I7':=I7.pinned (stat fr7) (T.obj _ _ st7);refine K0 (thn (hg _ s7 _ H7 x u _ (I7'.wish _) r7 (step x H7 y7)) λ_ s8 ⟨σ8,H8,I8,k8,q8⟩=>?_);refine K0 (thn (ht _ s8 σ8 H8 _ I8 q8) λok s9 ⟨H9,I9,q9⟩=>?_);have again:∀{σa:St} {Ha:Hp} {sa:Shared},Inv (X.wish (Z26 .(6) X.A X.env λe s'=>R (.error e) s')) (pins++z6h fp s7.heap) σa Ha sa->Kp σ0 σa ->
   Inv X pins σ0 Ha sa/\tn (i+1) sa.heap/\∀b∈fp,Ha b=none:=λ{σa Ha sa} Iw ka=>by
   have Ia:=Iw.unwish;refine⟨Ia.unpinned.weak (I5.len.trans Ia.len.symm) ka,T.keep _ _ _ st7 λb hb o e=>(Ia.pin (b,o) (K0r _ (K0r _ (z2C hb e)))).1,λb hb=>?_⟩;obtain⟨o,e,d⟩:=T.obj _ _ st7 b hb;exact(Ia.pin (b,o) (K0r _ (K0r _ (z2C hb e)))).2.1
  cases ok with
  | false=>
   have q9':∃m',m'<n/\W (i+1) m' H9:=by simpa using q9
   obtain⟨m',hm,w9⟩:=q9';obtain⟨a1,a2,a3⟩:=again I9 k8;exact K4 ⟨rfl,m',hm,i+1,H9,a1,a2,a3,w9⟩
  | true=>
   rw[if_pos rfl]at q9;refine K0 (thn (hb _ s9 σ8 H9 _ I9 q9) λ_ sa ⟨σa,Ha,Ia,ka,m',hm,wa⟩=>?_);obtain⟨a1,a2,a3⟩:=again Ia λj v h=>ka j v (k8 j v h);exact K4 ⟨rfl,m',hm,i+1,Ha,a1,a2,a3,wa⟩
theorem z1b{k:Nat}{it:Value}(hce:CK ce)(hcl:(clausesOf ce)[k]?=some ⟨tg,iter,ifs,0⟩)(h0:K5q (model prog w) A (.compLoop ce k it acc env) R s)
 (h:wpAny (model prog w) A (pyIter it) (λit' s'=>K5q (model prog w) A (.compLoop ce k it' acc env) R s')
  (Z26 (model prog w) A env λx s'=>R (.error x) s') s) :
 K5q (model prog w) A (.compStart ce k it acc env) R s:=by
 refine K5t ?_;have hu:A.under (.compStart ce k it acc env)=A/\(model prog w).den (.compStart ce k it acc env)=(compStart ce k it acc env).onRaise (λx=>do noteFrame x env;K5a theWindowsPlace):=by
  rcases hce with ⟨_,_,_,_,rfl⟩|⟨_,_,_,_,_,rfl⟩<;>exact⟨rfl,rfl⟩
 rw[hu.1,hu.2];refine wpAny_notedAt ?_;unfold compStart;rw[hcl];show wpAny _ _ (ask >>= _) _ _ s;refine K0 (K20 (wpAny_ite ?_));split
 ·first
   | exact K0 (K4 (K4 (Z2m rfl h0)))
   | exact K4 (Z2m rfl h0)
 ·first
   | exact K0 (K5u (K0 (K3o (K0 (K49 h (λit' s' h'=>K4 (Z2m rfl h')) λ_ _ x=>x)))))
   | (refine K0 (K5u ?_);show wpAny _ _ (K5a iter.pos >>= _) _ _ s;exact K0 (K3o (K0 (K49 h (λit' s' h'=>K4 (Z2m rfl h')) λ_ _ x=>x))))
end
def MkO(mk:Sem Value)(o0:HO):Prop:=∀(X:Cx) (pins:List .(u)) (σ:St) (H:Hp) (s:Shared) (E:Value->Shared->Prop) (Q:Value->Shared->Prop),Inv X pins σ H s ->
 (∀s',Inv X pins σ (upd H .(3) o0) s'->(∀b o,s.heap.get? b=some o->s'.heap.get? b=some o)->Q (.ref .(3)) s')->wpAny .(6) X.A mk Q E s
theorem zi7:MkO (newList []) (.lst []):=λX pins σ H s E Q I h=>by
 refine K1v ?_;exact h _ (I.lnew (ys:=[]) (its:=[]) (t':=s.toks) .nil (K4j _)) λb o e=>K9 _ e
theorem zK5:MkO newDict (.dK []):=λX pins σ H s E Q I h=>by
 refine K1v ?_;exact h _ (I.laid (a:=.(3)) (o:=.dK []) (t':=s.toks) (h':=s.heap.push { cls:=.type "dict",dict:=none,data:=.dict #[] }) (λ_ _ q=>K9 _ q) (K01 _) (z82 s.heap I.big)) λb o e=>K9 _ e
structure CmE(ce:Expr)(sc:Scope)(tg iter:Expr)(ifs:List Expr)(mk:Sem Value)(o0:HO)(bd:Addr->Env->Sem Unit)(p:Pos):Prop where
 ck:CK ce
 cl:∃gs,clausesOf ce=⟨tg,iter,ifs,0⟩::gs
 tn:∀it D env,compTurn ce 0 (.ref it) (.ref D) env=z4X p tg ifs (.ref it) env (bd D env) (.compLoop ce 0 (.ref it) (.ref D) env)
 nw:MkO mk o0
 ev:∀env,∃pp,eval ce env=comprehension ce sc env pp mk false (eval iter env) none
 us:∀env f,∃pp,evalThenUse ce env f=(comprehension ce sc env pp mk false (eval iter env) (some f) >>= λ_=>pure ())
section
variable{ce val:Expr}{sc:Scope}{p p1:Pos}{g g1:TG}{wi wi1:TI}{ti ti1:TT}{te tv:TE}{tb tb1:TB}{b1:Sem Unit}{D:Addr}{mk:Sem Value}{o0:HO}
theorem zO1{pins:List .(u)}{σ:St}{H2:Hp}{s2:Shared}{it:Addr}{fp:List Addr}{tn:Nat->Heap->Prop}{J:It}{E:Value->Shared->Prop}{RR:Value->Addr->Result->Shared->Prop}{Q:Addr->Hp->Prop}
 (C:CmE ce sc tg iter ifs mk o0 bd p) (hc:X.calm=true) (S:CS X sc N' cap) (hg:∀s H fp xe,PG .(7) tg g) (ht:∀s H fp xe,PTs .(7) ifs ti) (hb:∀D s H fp xe,PBd .(7) (bd D (X.comp N' sc s H fp xe).env) (tbd D))
 (I2:Inv X pins σ H2 s2) (T:Turn X.prog X.w X.K tg J fp it tn) (st2:tn 0 s2.heap) (f2:∀b∈fp,FpOk X pins H2 b)
 (hq:∀D,H2 D=none->runG g ti (tbd D) (z4K cap σ) J (Q D) (upd H2 D o0))
 (hRR:∀(D:Addr) (s3:Shared) (H3:Hp) (xe:Value->Shared->Prop) (H':Hp) (pins':List .(u)) (σ':St) (s':Shared),Inv X pins σ H3 s3->(∀b∈fp,FpOk X pins H3 b)->Inv (X.comp N' sc s3 H3 fp xe) pins' σ' H' s'->Q D H'->RR (.ref D) s3.heap.objs.size (.ok .next) s') :
 wpAny .(6) X.A mk (λacc s3=>wpAny .(6) X.A (newFunctionEnv sc X.env.globals (z0s X.env sc.names []) [] X.env.qual none .none (some X.env)) (λcenv s4=>
  codeAny (model X.prog X.w) X.A (.compStart ce 0 (.ref it) acc { cenv with scope:=relabel sc X.env }) (RR acc cenv.locals) s4) E s3) E s2:=by
 refine C.nw X pins σ H2 s2 E _ I2 λs3 I3 kp3=>?_;have hfr:H2 s2.heap.objs.size=none:=I2.fresh;have lt2:∀b∈fp,b<s2.heap.objs.size:=λb hb=>by
  obtain⟨o,e,_⟩:=T.obj _ _ st2 b hb;exact K0f e
 generalize s2.heap.objs.size=D at I3 hfr lt2 ⊢;have r0:=hq D hfr;have f3:∀b∈fp,FpOk X pins (upd H2 D o0) b:=λb hb=>⟨by rw[Y5 (K0x (lt2 b hb))];exact(f2 b hb).1,(f2 b hb).2⟩;have st3:tn 0 s3.heap:=T.keep _ _ _ st2 λb hb o e=>kp3 b o e;have lt3:∀b∈fp,b<s3.heap.objs.size:=λb hb=>by
  obtain⟨o,e,_⟩:=T.obj _ _ st3 b hb;exact K0f e
 generalize upd H2 D o0=H3 at I3 r0 f3;refine wpAny_newFunctionEnv S.nocell (λx hx=>absurd hx .(e)) (λh1 hns hsb=>?_) S.kind;have kp4:∀b o,s3.heap.get? b=some o->h1.get? b=some o:=λb o e=>by
  rw[hsb.2 b (K0x (K0f e))];exact K9 _ e
 have hns':h1.Ns s3.heap.objs.size λ_=>none:=hns;have st4:tn 0 h1:=T.keep _ _ _ st3 λb hb o e=>kp4 b o e;have loop:K5q .(6) X.A (.compLoop ce 0 (.ref it) (.ref D) (compEnvC sc (z0s X.env sc.names []) s3.heap.objs.size X.env))
  (RR (.ref D) s3.heap.objs.size) { s3 with heap:=h1,toks:=s3.toks+([]:List (Str×Value)).length }:=by
  let xe:Value->Shared->Prop:=Z26 .(6) X.A (compEnvC sc (z0s X.env sc.names []) s3.heap.objs.size X.env) λe s'=>RR (.ref D) s3.heap.objs.size (.error e) s';have I4:Inv (X.comp N' sc s3 H3 fp xe) [] (z4K cap σ) H3 { s3 with heap:=h1,toks:=s3.toks+([]:List (Str×Value)).length }:=I3.compIn S f3 lt3 hns' kp4;exact zS7 (X:=X.comp N' sc s3 H3 fp xe) (C.tn _ _ _) C.ck hc (hg s3 H3 fp _) (ht s3 H3 fp _) (hb D s3 H3 fp _) I4 T st4 (λb hb=>by
   obtain⟨q1,q2⟩:=I4.ok.exf b hb;exact⟨(f3 b hb).1,q1,I4.ok.exfs b hb,.inl hb,q2,λp hp=>absurd (show p∈([]:List .(u)) from hp) .(e)⟩) r0 λs' H' I' q=>hRR D s3 H3 xe H' [] _ s' I3 f3 I' q
 obtain⟨gs,cl⟩:=C.cl;exact z1b C.ck (by rw[cl];rfl) loop (T.self _ 0 _ _ _ st4 loop)
def tCm(o0:HO)(cap:List (Option Nat))(wi:TI)(g:TG)(ti:TT)(tbd:Addr->TB):TE:=λσ H Q=>wi σ H λJ H1=>∀D,H1 D=none->runG g ti (tbd D) (z4K cap σ) J (λH'=>Q (.ref D) H') (upd H1 D o0)
theorem Z0w(C:CmE ce sc tg iter ifs mk o0 bd p)(hc:X.calm=true)(S:CS X sc N' cap)(hi:PI X tg iter wi)(hg:∀s H fp xe,PG .(7) tg g)(ht:∀s H fp xe,PTs .(7) ifs ti)
 (hb:∀D s H fp xe,PBd .(7) (bd D (X.comp N' sc s H fp xe).env) (tbd D)) (hs:∀x,K1b iter X.env x=pure x):PE X ce (tCm o0 cap wi g ti tbd):=by
 intro pins s σ H Q I h;obtain⟨pp,ev⟩:=C.ev X.env;obtain⟨gs,cl⟩:=C.cl;rw[ev];refine K8b (use:=none) cl hs (z3g (S.cells I)) S.kind S.loc (thn (hi pins s σ H _ I h) λv s1 h1=>thn h1 λitv s2 h2=>?_);obtain⟨it,fp,tn,J,H2,e,I2,T,st2,f2,rq⟩:=h2;subst e;refine zO1 (RR:=λacc C=>compPost .(6) X.A X.xe none (EP X pins σ Q) acc C) (Q:=λD H'=>Q (.ref D) H') C hc S hg ht hb I2 T st2 f2 rq ?_;intro D s3 H3 xe H' pins' σ' s' I3 f3 J3 q;obtain⟨m,hn,_⟩:=id J3.loc;exact⟨m,hn,λh' hs=>⟨.ref D,H',I3.compOut f3 J3 hs,rfl,q⟩⟩
def sCm(o0:HO)(cap:List (Option Nat))(wi:TI)(g:TG)(ti:TT)(tbd:Addr->TB)(i:Nat):TS:=λD σ H=>wi σ H λJ H1=>∀d,H1 d=none->runG g ti (tbd d) (z4K cap σ) J (λH'=>D.nx (σ.set i (.(r d))) H') (upd H1 d o0)
theorem Z0e{y:Str}{py spos:Pos}{i:Nat}(C:CmE ce sc tg iter ifs mk o0 bd p)(hc:X.calm=true)(S:CS X sc N' cap)(hi:PI X tg iter wi)(hg:∀s H fp xe,PG .(7) tg g)(ht:∀s H fp xe,PTs .(7) ifs ti)
 (hb:∀D s H fp xe,PBd .(7) (bd D (X.comp N' sc s H fp xe).env) (tbd D)) (hN:X.N.Nodup) (hy:X.N[i]?=some y) (hl:X.env.scope.names.lookup y=some .local)
 (hsw:K2n ce (some (.Name y py)) spos.line X.env=pure true) (hs:∀x,K1b iter X.env x=pure x):PS X (.Assign [.Name y py] ce spos) (sCm o0 cap wi g ti tbd i):=by
 intro pins s σ H D I h;rw[exec_Assign_Name_used _ _ _ _ hsw];obtain⟨pp,us⟩:=C.us X.env (assign (.Name y py) X.env);obtain⟨gs,cl⟩:=C.cl;rw[us];refine K0 (K3o (K0 ?_));refine K0 (K49 (K8b (use:=some (assign (.Name y py) X.env)) (Q:=λ_ s'=>SP X pins D .next s') cl hs (z3g (S.cells I)) S.kind S.loc
  (thn (hi pins s σ H _ I h) λv s1 h1=>thn h1 λitv s2 h2=>?_)) (λ_ s' hq=>K4 (K4 hq)) λ_ _ z=>z)
 obtain⟨it,fp,tn,J,H2,e,I2,T,st2,f2,rq⟩:=h2;subst e;refine zO1 (RR:=λacc C=>compPost .(6) X.A X.xe (some (assign (.Name y py) X.env)) (λ_ s'=>SP X pins D .next s') acc C) (Q:=λd H'=>D.nx (σ.set i (.(r d))) H') C hc S hg ht hb I2 T st2 f2 rq ?_;intro d s3 H3 xe H' pins' σ' s' I3 f3 J3 q;obtain⟨m,hn,_⟩:=id J3.loc;have Is:Inv X pins σ H' s':=I3.compOut (h':=s'.heap) f3 J3 (K3y _ _);obtain⟨oC,es,ep,hoC,hdC,hrC⟩:=id hn;have hC:H' s3.heap.objs.size=none:=J3.free;have neL:s3.heap.objs.size≠X.env.locals:=K30 I3.lt;have nfs:s3.heap.objs.size∉X.fs:=I3.nofs (K01 _);have Ip:Inv X (pins++[(s3.heap.objs.size,oC)]) σ H' s':=Is.pins_of λp hp=>by
  rcases K00.mp hp with z|z
  ·exact Is.pin p (K0r _ z)
  ·obtain rfl:p=(s3.heap.objs.size,oC):=by simpa using z
   exact⟨hoC,hC,neL,nfs,λv hv=>by have hdC':oC.data=_:=hdC;rw[hdC']at hv;cases hv⟩
 show wpAny _ X.A (assign (.Name y py) X.env (.ref d)) _ _ s';refine thn (z7C (X:=X) (i:=i) hN hy (.inl hl) (.inr hl) _ s' σ H' (.ref d) (.ref d) (λσ2 H2=>D.nx σ2 H2) Ip rfl q) λ_ s4 ⟨σ4,H4,I4,q4⟩=>?_;have pn:=I4.pin (s3.heap.objs.size,oC) (K0r _ (K0r _ .(e)));refine⟨m,⟨oC,es,ep,pn.1,hdC,hrC⟩,λh' hs=>⟨σ4,H4,?_,q4⟩⟩;have I4u:Inv X pins σ4 H4 s4:=I4.unpinned;have st:=I4u.step (g':=s4.gens) (t':=s4.toks) (d':=s4.drawn) (h':=h') (H':=H4) (ch:=[s3.heap.objs.size]) (λb hb=>?_) (λb o _ _ hc e _=>(hs.2 b (by simpa using hc)).trans e)
  (λb o _ _ hc e _=>⟨o.slots,(hs.2 b (by simpa using hc)).trans e⟩) (λ_ _ _ _ n=>n) (λb o hc e=>⟨o,(hs.2 b (by simpa using hc)).trans e⟩) (λ_ _ e=>e) (λ_ _ _ e=>e) (λb ps e=>⟨#[],by rw[e];simp⟩) (λm hm=>?_) (λb u e=>?_) I4u.bare
 ·exact st
 ·have e:b=s3.heap.objs.size:=by simpa using hb
  subst e;refine⟨.inr I3.sz,neL,λx c e2 z=>?_,λp hp z=>?_⟩
  ·obtain⟨v,q2⟩:=I3.cell x c e2;exact absurd q2.lt (by rw[z];exact K2x _)
  ·have e3:=(I3.pin p hp).1;exact absurd (K0f e3) (by rw[z];exact K2x _)
 ·obtain⟨o,es',ep',ho',r'⟩:=hm;exact⟨o,es',ep',(hs.2 _ (K57 neL)).trans ho',r'⟩
 ·refine(I4u.hok b u e).stay (λc v hc q=>?_) (λ_ q=>q) λ_ _ q=>q;have n4:H4 s3.heap.objs.size=none:=pn.2.1;have ne:c≠s3.heap.objs.size:=by
   rintro rfl;rcases hc with z|z
   ·rw[<- z,n4]at e;cases e
   ·rw[n4]at z;cases z
  exact(hs.2 c ne).trans q
def bApp(te:TE)(D:Addr):TB:=λσ H Q=>te σ H λv H4=>∃acc,H4 D=.(l acc)/\acc.length<sizeLine/\Q (upd H4 D (.lst (acc++[v])))
theorem zk6(he:PE X elt te):PBd X (do let _ <- call (.builtin "list.append") [.ref D,<- eval elt X.env]) (bApp te D):=λpins s σ H Q I h=>by
 refine K0 (thn (he pins s σ H _ I h) λv sa ⟨y,Ha,Ia,ra,acc,ea,za,q⟩=>?_);refine K0 (thn (z62 (X:=X) _ sa σ Ha (.ref D) [y] (.ref D) [v] (λ_ H'=>H'=upd Ha D (.lst (acc++[y]))) Ia rfl (.cons ra .nil) ⟨D,acc,y,rfl,rfl,ea,za,rfl⟩) λ_ sb ⟨_,Hb,Ib,_,eb⟩=>K4 ?_);subst eb;exact⟨σ,_,Ib,λ_ _ h=>h,q⟩
theorem zd9{pins:List .(u)}{σ:St}{H:Hp}{s:Shared}{a:Addr}{kvs:List (Key×V)}{k:Key}{v:V}{u r:Value}{A:Around}{E:Value->Shared->Prop}{Q:Unit->Shared->Prop}
 (I:Inv X pins σ H s) (e:H a=some (.dK kvs)) (l:kvs.length<sizeLine) (ry:RelV (kV k) u) (rv:RelV v r) (h:∀s',Inv X pins σ (upd H a (.dK (putK kvs k v))) s'->Q () s') :
 wpAny .(6) A (dictSet a u r) Q E s:=by
 obtain⟨z,hd,vs,rel,dd⟩:=zy8 I.hok e;have hz:vs.length<=sizeLine:=by rw[<- rel.length];exact z
 have hl:(putK kvs k v).length<=sizeLine:=by have:=z2P kvs k v;omega
 refine wpAny_dictSet_pairs (hsz:=hz) (z9f ry) dd λh' dd' hs=>h _ ?_;have he:∃q,h'.get? a=some q:=let ⟨q,_,_,hq,_⟩:=dd';⟨q,hq⟩;exact z5I I (by rw[e];exact K47) hs he (zu1 hl hd (rel.put k rv) dd')
def bPut(te tv:TE)(D:Addr):TB:=λσ H Q=>te σ H λy H4=>tv σ H4 λv H5=>∃k kvs,y=kV k/\H5 D=some (.dK kvs)/\kvs.length<sizeLine/\Q (upd H5 D (.dK (putK kvs k v)))
theorem zE4(he:PE X elt te)(hv:PE X val tv):PBd X (do
 let kv <- eval elt X.env;let vv <- K3t [kv] (eval val X.env)
 K5a { elt.pos with endLine:=val.pos.endLine,endCol:=val.pos.endCol }
 K3t [kv,vv] (dictSet D kv vv)) (bPut te tv D):=λpins s σ H Q I h=>by
 refine K0 (thn (he pins s σ H _ I h) λkv sa ⟨y,Ha,Ia,ra,qa⟩=>?_);refine K0 (K1h (thn (hv pins sa σ Ha _ Ia qa) λvv sb ⟨z,Hb,Ib,rb,kk,kvs,ey,eb,zb,q⟩=>?_));subst ey;exact K0 (K3o (K1h (zd9 Ib eb zb ra rb λs' I'=>⟨σ,_,I',λ_ _ h=>h,q⟩)))
def bIn(wi1:TI)(g1:TG)(ti1:TT)(tb1:TB):TB:=λσ H Q=>wi1 σ H λJ1 H3=>runG g1 ti1 tb1 σ J1 Q H3
def inner(ce iter1:Expr)(D:Addr)(env:Env):Sem Unit:=do
 let x <- eval iter1 env
 K5a iter1.pos
 let x <- K1b iter1 env x;let _ <- runOwn (.compStart ce 1 (<- K3t [x] (pyIter x)) (.ref D) env) env
theorem zU3{gs:List Comprehension}{c0:Comprehension}(hce:CK ce)(hcl:clausesOf ce=c0::⟨tg1,iter1,ifs1,0⟩::gs)(htn:∀it,compTurn ce 1 (.ref it) (.ref D) X.env=z4X p1 tg1 ifs1 (.ref it) X.env b1 (.compLoop ce 1 (.ref it) (.ref D) X.env))(hc:X.calm=true)
 (hi1:PI X tg1 iter1 wi1) (hg1:∀xe,PG (X.wish xe) tg1 g1) (ht1:∀xe,PTs (X.wish xe) ifs1 ti1) (hb1:∀xe,PBd (X.wish xe) b1 tb1) (hs1:∀x,K1b iter1 X.env x=pure x):PBd X (inner ce iter1 D X.env) (bIn wi1 g1 ti1 tb1):=λpins s σ H Q I h=>by
 unfold inner;refine K0 (thn (hi1 pins s σ H _ I h) λv9 s9 h9=>?_);refine K0 (K3o (K0 (K82 (hs1 v9) (K0 (K1h (thn h9 λitv sa ha=>?_))))));obtain⟨it1,fp1,tn1,J1,Ha,e,Ia,T1,sta,fa,rq⟩:=ha;subst e;have st:K5q .(6) X.A (.compStart ce 1 (.ref it1) (.ref D) X.env) (λr s'=>match r with
  | .ok _=>∃σ' H',Inv X pins σ' H' s'/\Kp σ σ'/\Q H'
  | .error e=>cameBackBy .(6) X.A X.env X.xe e s') sa:=by
  have loop:=zS7 (R:=λr s'=>match r with
   | .ok _=>∃σ' H',Inv X pins σ' H' s'/\Kp σ σ'/\Q H'
   | .error e=>cameBackBy .(6) X.A X.env X.xe e s') (htn it1) hce hc (hg1 _) (ht1 _) (hb1 _) Ia T1 sta fa rq λs' H' I' q=>⟨σ,H',I',λ_ _ h=>h,q⟩
  exact z1b hce (by rw[hcl];rfl) loop (T1.self _ 0 _ _ _ sta loop)
 refine K0 (wpAny_runOwn (K44 st λr s' hr=>?_));cases r with
 | ok f=>exact K4 hr
 | error e=>exact hr
end
theorem zC6{sc:Scope}:CmE (.ListComp elt [⟨tg,iter,ifs,0⟩] sc pos) sc tg iter ifs (newList []) (.lst []) (λD env=>do let _ <- call (.builtin "list.append") [.ref D,<- eval elt env]) iter.pos:=
 ⟨.inl ⟨_,_,_,_,rfl⟩,⟨_,rfl⟩,λ_ _ _=>rfl,zi7,λ_=>⟨_,rfl⟩,λ_ _=>⟨_,rfl⟩⟩
theorem zA1{val:Expr}{sc:Scope}:CmE (.DictComp elt val [⟨tg,iter,ifs,0⟩] sc pos) sc tg iter ifs newDict (.dK []) (λD env=>do
 let kv <- eval elt env;let vv <- K3t [kv] (eval val env)
 K5a { elt.pos with endLine:=val.pos.endLine,endCol:=val.pos.endCol }
 K3t [kv,vv] (dictSet D kv vv)) iter.pos:=
 ⟨.inr ⟨_,_,_,_,_,rfl⟩,⟨_,rfl⟩,λ_ _ _=>rfl,zK5,λ_=>⟨_,rfl⟩,λ_ _=>⟨_,rfl⟩⟩
theorem tn2{ce tg iter iter1:Expr}{it D:Addr}{env:Env}{m:Sem Fin}(h:m=(do
 K5a iter.pos
 match <- pyNext (.ref it) with
 | none=>pure (.done .next)
 | some v=>
  K5s tg (.ref it) v
  assign tg env v
  let ok <- z4J [] env
  if ok then
   let x <- eval iter1 env
   K5a iter1.pos
   let x <- K1b iter1 env x;let _ <- runOwn (.compStart ce 1 (<- K3t [x] (pyIter x)) (.ref D) env) env
  again (.compLoop ce 0 (.ref it) (.ref D) env))):m=z4X iter.pos tg [] (.ref it) env (inner ce iter1 D env) (.compLoop ce 0 (.ref it) (.ref D) env):=by
 rw[h];unfold z4X inner;refine congrArg _ (funext λ_=>congrArg _ (funext λr=>?_));cases r with
 | none=>rfl
 | some v=>
  dsimp only;refine congrArg _ (funext λ_=>congrArg _ (funext λ_=>?_));show (z4J [] env >>= _)=(z4J [] env >>= _);refine congrArg _ (funext λok=>?_);cases ok with
  | false=>rfl
  | true=>
   simp only[if_true,Z1u,pure_bind]
theorem zl3{sc:Scope}:CmE (.ListComp elt [⟨tg,iter,[],0⟩,⟨tg1,iter1,ifs1,0⟩] sc pos) sc tg iter [] (newList []) (.lst []) (λD env=>inner (.ListComp elt [⟨tg,iter,[],0⟩,⟨tg1,iter1,ifs1,0⟩] sc pos) iter1 D env) iter.pos:=
 ⟨.inl ⟨_,_,_,_,rfl⟩,⟨_,rfl⟩,λ_ _ _=>tn2 rfl,zi7,λ_=>⟨_,rfl⟩,λ_ _=>⟨_,rfl⟩⟩
open PySem
def excO(a C:Addr):HO:=.ext λh=>∃o,h.get? a=some o/\o.cls=.ref C
def dctO(a:Addr):HO:=.ext λh=>∃o,h.get? a=some o/\o.cls=.type "dict"
end L2
namespace FT
variable{α β:Type}{K:K5}{H:Hp}{a q Dd it I S:Addr}{xs vs:List V}{c e tg iter ce:Expr}{ρ ρ0:List Addr}{i n j ep kk:Nat}{o:Obj}{p pos p2 cpos apos spos:Pos}{ks:List Key}{X:Cx}{t:K8i}{t':TT}{Q E:Value->Shared->Prop}{v:V}{x:Str}{g':Int->Int->V}{C:Int->Int->Bool}{C':Int->Int->Prop}{env:Env}{es es' es1:Array (Int×Value)}{r:V->List V->Hp->VK->Prop}{T:String}{pins:List (Addr×Obj)}{s:Shared}{P:K1i}{w:World}{mg:Str->Option Value}{base:Heap}{N N':List Str}{l ord:List (Int×Value)}{st:Stmt}{sts sts':List Stmt}{own own1:List Nat}{ifs elts ifs1:List Expr}{cap:List (Option Nat)}{tbd:Addr->TB}{sl:Array (Option Value)}{A:Around}{its:List Value}{lo hi:Option Int}{hx:Int}{gw:Bool->Sem Unit}{R:Option Bool->Shared->Prop}{PV:Nat->Value->Prop}{key:Nat->Key}
inductive D where
 | non|bl (b:Bool)|int (i:Int)|str (x:Str)|tup (xs:List D)|fl (xs:List D)|ref (n:Nat)
variable{ds:List D}{d y:D}
inductive O where
 | lst (xs:List D)
 | set (ks:List Key)
 | dct
 | dK (kvs:List (Key×D))
 | dF (kvs:List (Key×D))
 | exc (c:Str)
 | ins (c:Str) (fs:List (Str×D))
variable{oo:O}
abbrev AH:=List O
variable{h h1:AH}{Z:Nat->List Addr->AH->Hp->Prop}
abbrev G:=List (Option D)
variable{γ:G}
structure Exn where
 cls:Str
 fs:List (Str×D)
inductive Res(α:Type) where
 | ok (a:α) (h:AH)|err (x:Exn) (h:AH)|bad
abbrev M(α:Type):=AH->Res α
variable{b:Nat->G->M Unit->M Unit}{ma mb mc mo me:G->M D}{f:D->D->M D}{g g1:D->G->M G}{m:List D->G->M G}{ka kb kc k1:G->M Bool}{mr:G->M (List D)}{mf:List D->M D}{b1:G->M Unit->M Unit}
def M.pure(a:α):M α:=λh=>.ok a h
def M.bind(m:M α)(f:α->M β):M β:=λh=>match m h with
 | .ok a h1=>f a h1
 | .err x h1=>.err x h1
 | .bad=>.bad
instance:Monad M where
 pure:=M.pure
 bind:=M.bind
def bad{α:Type}:M α:=λ_=>.bad
theorem M.bind_eq(m:M α)(f:α->M β)(h:AH):(m >>= f) h=match m h with
 | .ok a h1=>f a h1
 | .err x h1=>.err x h1
 | .bad=>.bad:=rfl
theorem M.bind_ok{m:M α}{f:α->M β}{a:α}(e:m h=.ok a h1):(m >>= f) h=f a h1:=by rw[M.bind_eq,e]
def SqLP(K:K5)(H:Hp)(a:Addr)(xs:List V):Prop:=
 (∃o,H a=some (.frz o (.lst xs))) \/
  ∃(o:Obj) (its:Array Value) (n:Nat),K.lookup a=some o/\o.cls=.type "list"/\o.dict=none/\o.data=.seq its n/\its.size<=sizeLine/\Vals xs its.toList
theorem SqLP.sq(h:SqLP K H a xs):SqL K H a xs:=by
 rcases h with ⟨o,h⟩|h
 ·exact .inl (.inr ⟨o,h⟩)
 ·exact .inr h
mutual
def RD(K:K5)(ρ:List Addr)(H:Hp):D->V->Prop
 | .non,v=>v=.non
 | .bl b,v=>v=.bl b
 | .int i,v=>v=.int i
 | .str x,v=>v=.str x
 | .tup ds,v=>∃a xs,v=.ref a/\SqT K H a xs/\RDs K ρ H ds xs
 | .fl ds,v=>∃a xs,v=.ref a/\SqLP K H a xs/\RDs K ρ H ds xs
 | .ref n,v=>∃a,v=.ref a/\ρ[n]?=some a
def RDs(K:K5)(ρ:List Addr)(H:Hp):List D->List V->Prop
 | [],xs=>xs=[]
 | d::ds,xs=>∃x r,xs=x::r/\RD K ρ H d x/\RDs K ρ H ds r
end
def Pre(ρ ρ':List Addr):Prop:=∀(n:Nat) a,ρ[n]?=some a->ρ'[n]?=some a
theorem Pre.refl(ρ:List Addr):Pre ρ ρ:=λ_ _ h=>h
theorem Pre.trans{a b c:List Addr}(x:Pre a b)(y:Pre b c):Pre a c:=λn z h=>y n z (x n z h)
theorem Pre.app(ρ r:List Addr):Pre ρ (ρ++r):=λn a h=>by
 rw[K0s (K02.mp h).1];exact h
structure Ext(K:K5)(H H':Hp):Prop where
 t:∀a xs,SqT K H a xs->SqT K H' a xs
 l:∀a xs,SqLP K H a xs->SqLP K H' a xs
 d:∀a o vs,H a=some (.frz o (.dK vs))->H' a=some (.frz o (.dK vs))
theorem Ext.refl(K:K5)(H:Hp):Ext K H H:=⟨λ_ _ h=>h,λ_ _ h=>h,λ_ _ _ h=>h⟩
theorem Ext.trans{a b c:Hp}(x:Ext K a b)(y:Ext K b c):Ext K a c:=⟨λz xs h=>y.t z xs (x.t z xs h),λz xs h=>y.l z xs (x.l z xs h),λz o vs h=>y.d z o vs (x.d z o vs h)⟩
def Trk:HO->Prop
 | .lst _=>True
 | .set _=>True
 | .ext _=>True
 | .dK _=>True
 | .ins _ _ _=>True
 | _=>False
theorem Ext.upd{K:K5}{H:Hp}{p:Addr}{o:HO}(h:H p=none\/∃u,H p=some u/\Trk u):Ext K H (upd H p o):=by
 have ne:∀{b:Addr} {u:HO},H b=some u->¬ Trk u->b≠p:=λ{b u} e n z=>by
  subst z;rcases h with h|⟨u',h,tr⟩
  ·rw[h]at e;cases e
  ·rw[h]at e;cases e;exact n tr
 refine⟨λa xs q=>?_,λa xs q=>?_,λa o vs q=>by rw[Y5 (ne q (λz=>z))];exact q⟩
 ·rcases q with (q|⟨u,q⟩)|q
  ·exact .inl (.inl (by rw[Y5 (ne q (λz=>z))];exact q))
  ·exact .inl (.inr ⟨u,by rw[Y5 (ne q (λz=>z))];exact q⟩)
  ·exact .inr q
 ·rcases q with ⟨u,q⟩|q
  ·exact .inl ⟨u,by rw[Y5 (ne q (λz=>z))];exact q⟩
  ·exact .inr q
section
variable{ρ':List Addr}{H':Hp}
mutual
theorem RD.mono(p:Pre ρ ρ')(e:Ext K H H'):∀{d:D}{v:V},RD K ρ H d v->RD K ρ' H' d v
 | .non,v,h=>by simpa [RD] using h
 | .bl b,v,h=>by simpa [RD] using h
 | .int b,v,h=>by simpa [RD] using h
 | .str b,v,h=>by simpa [RD] using h
 | .tup ds,v,h=>by
  simp only[RD]at h ⊢;obtain⟨a,xs,h1,h2,h3⟩:=h;exact⟨a,xs,h1,e.t a xs h2,RDs.mono p e h3⟩
 | .fl ds,v,h=>by
  simp only[RD]at h ⊢;obtain⟨a,xs,h1,h2,h3⟩:=h;exact⟨a,xs,h1,e.l a xs h2,RDs.mono p e h3⟩
 | .ref n,v,h=>by
  simp only[RD]at h ⊢;obtain⟨a,h1,h2⟩:=h;exact⟨a,h1,p n a h2⟩
theorem RDs.mono(p:Pre ρ ρ')(e:Ext K H H'):∀{ds:List D}{xs:List V},RDs K ρ H ds xs->RDs K ρ' H' ds xs
 | [],xs,h=>by simpa [RDs] using h
 | d::ds,xs,h=>by
  simp only[RDs]at h ⊢;obtain⟨x,r,h1,h2,h3⟩:=h;exact⟨x,r,h1,RD.mono p e h2,RDs.mono p e h3⟩
end
theorem RDs.nil:RDs K ρ H [] []:=by simp[RDs]
theorem RDs.cons{d:D}{ds:List D}{x:V}{xs:List V}(h:RD K ρ H d x)(t:RDs K ρ H ds xs):RDs K ρ H (d::ds) (x::xs):=by
 simp only[RDs];exact⟨x,xs,rfl,h,t⟩
theorem RDs.pair:∀{ds:List D}{xs:List V},RDs K ρ H ds xs->Paired (RD K ρ H) ds xs
 | [],xs,h=>by simp only[RDs]at h;subst h;exact .nil
 | d::ds,xs,h=>by
  simp only[RDs]at h;obtain⟨x,r,rfl,h2,h3⟩:=h;exact .cons h2 h3.pair
theorem RDs.length{ds:List D}{xs:List V}(h:RDs K ρ H ds xs):ds.length=xs.length:=K3b h.pair
theorem RDs.append{a b:List D}{ys:List V}(h:RDs K ρ H a xs)(t:RDs K ρ H b ys):RDs K ρ H (a++b) (xs++ys):=by
 induction a generalizing xs with
 | nil=>simp only[RDs]at h;subst h;exact t
 | cons d ds ih=>
  simp only[RDs]at h;obtain⟨x,r,rfl,h2,h3⟩:=h;exact RDs.cons h2 (ih h3)
theorem RDs.get(h:RDs K ρ H ds xs)(e:ds[i]?=some d):∃x,xs[i]?=some x/\RD K ρ H d x:=by
 induction ds generalizing xs i with
 | nil=>simp at e
 | cons a ds ih=>
  simp only[RDs]at h;obtain⟨x,r,rfl,h2,h3⟩:=h;cases i with
  | zero=>simp at e;subst e;exact⟨x,rfl,h2⟩
  | succ i=>
   obtain⟨y,h4,h5⟩:=ih h3 (by simpa using e);exact⟨y,by simpa using h4,h5⟩
theorem RDs.drop{ds:List D}{xs:List V}(n:Nat)(h:RDs K ρ H ds xs):RDs K ρ H (ds.drop n) (xs.drop n):=by
 induction n generalizing ds xs with
 | zero=>exact h
 | succ n ih=>cases ds with
  | nil=>simp only[RDs]at h;subst h;exact RDs.nil
  | cons d ds=>simp only[RDs]at h;obtain⟨x,r,rfl,h2,h3⟩:=h;exact ih h3
theorem RDs.take{ds:List D}{xs:List V}(n:Nat)(h:RDs K ρ H ds xs):RDs K ρ H (ds.take n) (xs.take n):=by
 induction n generalizing ds xs with
 | zero=>exact RDs.nil
 | succ n ih=>cases ds with
  | nil=>simp only[RDs]at h;subst h;exact RDs.nil
  | cons d ds=>simp only[RDs]at h;obtain⟨x,r,rfl,h2,h3⟩:=h;exact RDs.cons h2 (ih h3)
theorem RDs.set{ds:List D}{xs:List V}{d:D}{x:V}(n:Nat)(h:RDs K ρ H ds xs)(hd:RD K ρ H d x):RDs K ρ H (ds.set n d) (xs.set n x):=by
 induction n generalizing ds xs with
 | zero=>cases ds with
  | nil=>simp only[RDs]at h;subst h;exact RDs.nil
  | cons a ds=>simp only[RDs]at h;obtain⟨y,r,rfl,h2,h3⟩:=h;exact RDs.cons hd h3
 | succ n ih=>cases ds with
  | nil=>simp only[RDs]at h;subst h;exact RDs.nil
  | cons a ds=>simp only[RDs]at h;obtain⟨y,r,rfl,h2,h3⟩:=h;exact RDs.cons h2 (ih h3)
theorem RDs.eraseIdx{ds:List D}{xs:List V}(n:Nat)(h:RDs K ρ H ds xs):RDs K ρ H (ds.eraseIdx n) (xs.eraseIdx n):=by
 induction n generalizing ds xs with
 | zero=>cases ds with
  | nil=>simp only[RDs]at h;subst h;exact RDs.nil
  | cons a ds=>simp only[RDs]at h;obtain⟨y,r,rfl,h2,h3⟩:=h;exact h3
 | succ n ih=>cases ds with
  | nil=>simp only[RDs]at h;subst h;exact RDs.nil
  | cons a ds=>simp only[RDs]at h;obtain⟨y,r,rfl,h2,h3⟩:=h;exact RDs.cons h2 (ih h3)
theorem RDs.flat(n:Nat)(h:RDs K ρ H ds xs):RDs K ρ H (K0t n ds).flatten (K0t n xs).flatten:=by
 induction n with
 | zero=>exact RDs.nil
 | succ n ih=>rw[K34,K15,K34,K15];exact h.append ih
def RK(K:K5)(ρ:List Addr)(H:Hp){κ:Type}:List (κ×D)->List (κ×V)->Prop:=Paired λp q=>p.1=q.1/\RD K ρ H p.2 q.2
theorem RK.imp{α β:Type}{P Q:α->β->Prop}(f:∀a b,P a b->Q a b):∀{xs:List α}{ys:List β},Paired P xs ys->Paired Q xs ys
 | _,_,.nil=>.nil
 | _,_,.cons a b=>.cons (f _ _ a) (RK.imp f b)
theorem RK.mono{κ:Type}{kvs:List (κ×D)}{vs:List (κ×V)}(p:Pre ρ ρ')(e:Ext K H H')(r:RK K ρ H kvs vs):RK K ρ' H' kvs vs:=RK.imp (λ_ _ h=>⟨h.1,h.2.mono p e⟩) r
def RO(K:K5)(ρ:List Addr)(H:Hp)(o:O)(a:Addr):Prop:=match o with
 | .lst ds=>∃xs,H a=.(l xs)/\RDs K ρ H ds xs
 | .set ks=>H a=some (.set ks)
 | .dct=>H a=some (dctO a)
 | .dK kvs=>∃vs,H a=some (.dK vs)/\RK K ρ H kvs vs
 | .dF kvs=>∃ob vs,H a=some (.frz ob (.dK vs))/\RK K ρ H kvs vs
 | .exc c=>∃C,K3z K K23 c=some (.(r C))/\H a=some (excO a C)
 | .ins c fs=>∃C dx vs,K3z K K23 c=some (.(r C))/\H a=some (.ins C dx vs)/\RK K ρ H fs vs
structure RH(K:K5)(ρ:List Addr)(h:AH)(H:Hp):Prop where
 len:ρ.length=.(h)
 nd:∀(i j:Nat) a,ρ[i]?=some a->ρ[j]?=some a->i=j
 obj:∀(n:Nat) o a,h[n]?=some o->ρ[n]?=some a->RO K ρ H o a
theorem RH.at(r:RH K ρ h H){o:O}(e:h[n]?=some o):∃a,ρ[n]?=some a/\RO K ρ H o a:=by
 have hi:=(K02.mp e).1;have hj:n<ρ.length:=by rw[r.len];exact hi
 have q:ρ[n]?=some ρ[n]:=K8 hj;exact⟨_,q,r.obj n o _ e q⟩
def O.fz:O->Bool
 | .dF _=>true
 | _=>false
theorem RO.there{o:O}(z:RO K ρ H o a):∃u,H a=some u/\(o.fz=false->Trk u):=by
 cases o with
 | lst ds=>obtain⟨xs,z,_⟩:=z;exact⟨_,z,λ_=>trivial⟩
 | set ks=>exact⟨_,z,λ_=>trivial⟩
 | dct=>exact⟨_,z,λ_=>trivial⟩
 | dK kvs=>obtain⟨vs,z,_⟩:=z;exact⟨_,z,λ_=>trivial⟩
 | dF kvs=>obtain⟨ob,vs,z,_⟩:=z;exact⟨_,z,λq=>by cases q⟩
 | exc c=>obtain⟨C,_,z⟩:=z;exact⟨_,z,λ_=>trivial⟩
 | ins c fs=>obtain⟨C,dx,vs,_,z,_⟩:=z;exact⟨_,z,λ_=>trivial⟩
theorem RH.there{h:AH}(r:RH K ρ h H){n:Nat}{a:Addr}(e:ρ[n]?=some a):∃u,H a=some u:=by
 have hi:=(K02.mp e).1;have hj:n<h.length:=by rw[<- r.len];exact hi
 obtain⟨u,z,_⟩:=(r.obj n _ a (K8 hj) e).there;exact⟨u,z⟩
theorem RH.tracked(r:RH K ρ h H){o:O}(e:ρ[n]?=some a)(eo:h[n]?=some o)(nf:o.fz=false:=by rfl):∃u,H a=some u/\Trk u:=by
 obtain⟨u,z,q⟩:=(r.obj n _ a eo e).there;exact⟨u,z,q nf⟩
theorem RO.mono{o:O}{a:Addr}(p:Pre ρ ρ')(e:Ext K H H')(hs:H' a=H a)(r:RO K ρ H o a):RO K ρ' H' o a:=by
 cases o with
 | lst ds=>obtain⟨xs,h1,h2⟩:=r;exact⟨xs,hs.trans h1,h2.mono p e⟩
 | set ks=>exact hs.trans r
 | dct=>exact hs.trans r
 | dK kvs=>obtain⟨vs,h1,h2⟩:=r;exact⟨vs,hs.trans h1,h2.mono p e⟩
 | dF kvs=>obtain⟨ob,vs,h1,h2⟩:=r;exact⟨ob,vs,hs.trans h1,h2.mono p e⟩
 | exc c=>obtain⟨C,h1,h2⟩:=r;exact⟨C,h1,hs.trans h2⟩
 | ins c fs=>obtain⟨C,dx,vs,h1,h2,h3⟩:=r;exact⟨C,dx,vs,h1,hs.trans h2,h3.mono p e⟩
theorem RH.other{p:Addr}{o:HO}(r:RH K ρ h H)(hp:H p=none):RH K ρ h (upd H p o):=
 ⟨r.len,r.nd,λn u a h1 h2=>(r.obj n u a h1 h2).mono .(c) (Ext.upd (.inl hp)) (by
  obtain⟨u,q⟩:=r.there h2;exact Y5 (x5 q hp))⟩
theorem RH.pushO{p:Addr}{o':O}{u:HO}(r:RH K ρ h H)(hp:H p=none)(hd:RO K (ρ++[p]) (upd H p u) o' p):RH K (ρ++[p]) (h++[o']) (upd H p u):=by
 have ne:∀{n:Nat} {a:Addr},ρ[n]?=some a->a≠p:=λe=>by
  obtain⟨xs,q⟩:=r.there e;exact x5 q hp
 have ext:Ext K H (L2.upd H p u):=Ext.upd (.inl hp);refine⟨by simp[r.len],λi j a h1 h2=>?_,λn o a h1 h2=>?_⟩
 ·rw[K43]at h1 h2;split at h1<;>split at h2
  ·exact r.nd i j a h1 h2
  ·rename_i hi hj;rw[K1z]at h2;split at h2
   ·cases h2;exact absurd rfl (ne h1)
   ·cases h2
  ·rename_i hi hj;rw[K1z]at h1;split at h1
   ·cases h1;exact absurd rfl (ne h2)
   ·cases h1
  ·rename_i hi hj;rw[K1z]at h1 h2;split at h1
   ·split at h2
    ·omega
    ·cases h2
   ·cases h1
 ·rw[K43]at h1 h2;rw[r.len]at h2;split at h1
  ·rename_i hn;rw[if_pos hn]at h2;exact(r.obj n o a h1 h2).mono (Pre.app _ _) ext (Y5 (ne h2))
  ·rename_i hn;rw[if_neg hn]at h2;rw[K1z]at h1 h2;split at h1
   ·rename_i h0;rw[if_pos h0]at h2;cases h1;cases h2;exact hd
   ·cases h1
theorem RH.push{p:Addr}(r:RH K ρ h H)(hp:H p=none)(hd:RDs K ρ H ds xs):RH K (ρ++[p]) (h++[.lst ds]) (upd H p (.lst xs)):=
 r.pushO hp ⟨xs,Y9,hd.mono (Pre.app _ _) (Ext.upd (.inl hp))⟩
theorem RH.pushS{p:Addr}(r:RH K ρ h H)(hp:H p=none):RH K (ρ++[p]) (h++[.set ks]) (upd H p (.set ks)):=r.pushO hp Y9
theorem RH.setO{o0 o':O}{u:HO}(r:RH K ρ h H)(e:h[n]?=some o0)(ea:ρ[n]?=some a)(hd:RO K ρ (upd H a u) o' a)(nf:o0.fz=false:=by rfl):RH K ρ (h.set n o') (upd H a u):=by
 have ext:Ext K H (L2.upd H a u):=Ext.upd (.inr (r.tracked ea e nf));refine⟨by simp[r.len],r.nd,λm o b h1 h2=>?_⟩;by_cases hm:m=n
 ·subst hm;rw[ea]at h2;cases h2;have hi:=(K02.mp e).1;rw[K1p hi]at h1;cases h1;exact hd
 ·rw[K22 (λz=>hm z.symm)]at h1;exact(r.obj m o b h1 h2).mono .(c) ext (Y5 λz=>hm (r.nd m n b h2 (by rw[z];exact ea)))
theorem RH.set{h:AH}{n:Nat}{a:Addr}{ds0 ds:List D}{xs:List V}(r:RH K ρ h H)(e:h[n]?=.(l ds0))(ea:ρ[n]?=some a)(hd:RDs K ρ H ds xs):RH K ρ (h.set n (.lst ds)) (upd H a (.lst xs)):=
 r.setO e ea ⟨xs,Y9,hd.mono .(c) (Ext.upd (.inr (r.tracked ea e)))⟩
theorem RH.setS{o0:O}(r:RH K ρ h H)(e:h[n]?=some o0)(ea:ρ[n]?=some a)(nf:o0.fz=false:=by rfl):RH K ρ (h.set n (.set ks)) (upd H a (.set ks)):=r.setO e ea Y9 nf
structure RG(K:K5)(ρ:List Addr)(H:Hp)(γ:G)(σ:L2.St):Prop where
 len:γ.length=σ.length
 var:∀(i:Nat) d,γ[i]?=some (some d)->∃v,σ[i]?=some (some v)/\RD K ρ H d v
theorem RG.mono{γ:G}{σ:L2.St}(p:Pre ρ ρ')(e:Ext K H H')(r:RG K ρ H γ σ):RG K ρ' H' γ σ:=
 ⟨r.len,λi d h=>let ⟨v,h1,h2⟩:=r.var i d h;⟨v,h1,h2.mono p e⟩⟩
theorem RG.set{γ:G}{σ:L2.St}{d:D}{v:V}(r:RG K ρ H γ σ)(i:Nat)(hd:RD K ρ H d v):RG K ρ H (γ.set i (some d)) (σ.set i (some v)):=by
 refine⟨by simp[r.len],λj d' h=>?_⟩;by_cases hj:i=j
 ·subst hj;have hi:i<γ.length:=by
   have:=(K02.mp h).1;simpa using this
  rw[K1p hi]at h;cases h;exact⟨v,K1p (by rw[<- r.len];exact hi),hd⟩
 ·rw[K22 hj]at h ⊢;exact r.var j d' h
structure Rel(K:K5)(ρ:List Addr)(γ:G)(h:AH)(σ:L2.St)(H:Hp):Prop where
 g:RG K ρ H γ σ
 h:RH K ρ h H
abbrev XX:=Exn->List Addr->AH->Hp->Prop
def Fin(K:K5)(EX:XX)(ρ:List Addr)(H:Hp)(P:α->List Addr->AH->Hp->Prop):Res α->Prop
 | .ok a h'=>∀ρ' H',Pre ρ ρ'->Ext K H H'->RH K ρ' h' H'->P a ρ' h' H'
 | .err x h'=>∀ρ' H',Pre ρ ρ'->Ext K H H'->RH K ρ' h' H'->EX x ρ' h' H'
 | .bad=>False
variable{EX:XX}
theorem Fin.up{P:α->List Addr->AH->Hp->Prop}{r:Res α}(p:Pre ρ ρ')(e:Ext K H H')(f:Fin K EX ρ H P r):Fin K EX ρ' H' P r:=by
 cases r with
 | ok a h=>exact λρ2 H2 p2 e2 r2=>f ρ2 H2 (p.trans p2) (e.trans e2) r2
 | err x h=>exact λρ2 H2 p2 e2 r2=>f ρ2 H2 (p.trans p2) (e.trans e2) r2
 | bad=>exact f
theorem Fin.mono{P P':α->List Addr->AH->Hp->Prop}{r:Res α}(f:Fin K EX ρ H P r)(h:∀a ρ' h' H',Pre ρ ρ'->Ext K H H'->RH K ρ' h' H'->P a ρ' h' H'->P' a ρ' h' H'):Fin K EX ρ H P' r:=by
 cases r with
 | ok a h1=>exact λρ2 H2 p2 e2 r2=>h a ρ2 h1 H2 p2 e2 r2 (f ρ2 H2 p2 e2 r2)
 | err x h1=>exact f
 | bad=>exact f
theorem Fin.bind{P:β->List Addr->AH->Hp->Prop}{m:M α}{f:α->M β}(z:Fin K EX ρ H P ((m >>= f) h)):Fin K EX ρ H (λa ρ1 h1 H1=>Fin K EX ρ1 H1 P (f a h1)) (m h):=by
 rw[M.bind_eq]at z;cases e:m h with
 | ok a h1=>rw[e]at z;exact λρ2 H2 p2 e2 r2=>Fin.up p2 e2 z
 | err x h1=>rw[e]at z;exact z
 | bad=>rw[e]at z;exact z
end
variable{EX:XX}
def tE(K:K5)(EX:XX)(m:G->M D):TE:=λσ H Q=>∃ρ γ h,Rel K ρ γ h σ H/\Fin K EX ρ H (λd ρ' _ H'=>∀v,RD K ρ' H' d v->Q v H') (m γ h)
def tT(K:K5)(EX:XX)(m:G->M Bool):TT:=λσ H Q=>∃ρ γ h,Rel K ρ γ h σ H/\Fin K EX ρ H (λb _ _ H'=>Q b H') (m γ h)
def tL(K:K5)(EX:XX)(m:G->M (List D)):TA:=λσ H Q=>∃ρ γ h,Rel K ρ γ h σ H/\Fin K EX ρ H (λds ρ' _ H'=>∀vs,RDs K ρ' H' ds vs->Q vs H') (m γ h)
inductive Out where
 | nx (γ:G)|rt (d:D)|bk (γ:G)|ct (γ:G)
def OutP(K:K5)(D:Ends)(o:Out)(ρ:List Addr)(H:Hp):Prop:=match o with
 | .nx γ=>∀σ,RG K ρ H γ σ->D.nx σ H
 | .rt d=>∀v,RD K ρ H d v->D.rt v H
 | .bk γ=>∀σ,RG K ρ H γ σ->D.bk σ H
 | .ct γ=>∀σ,RG K ρ H γ σ->D.ct σ H
def tB(K:K5)(EX:XX)(m:G->M Out):TS:=λD σ H=>∃ρ γ h,Rel K ρ γ h σ H/\Fin K EX ρ H (λo ρ' _ H'=>OutP K D o ρ' H') (m γ h)
structure SE(X:Cx)(EX:XX)(e:Expr)(m:G->M D):Prop where
 h:PE X e (tE X.K EX m)
structure SC(X:Cx)(EX:XX)(e:Expr)(m:G->M Bool):Prop where
 h:PT X e (tT X.K EX m)
structure SA(X:Cx)(EX:XX)(es:List Expr)(m:G->M (List D)):Prop where
 h:PA X es (tL X.K EX m)
structure S1(X:Cx)(EX:XX)(st:Stmt)(m:G->M Out):Prop where
 h:PS X st (tB X.K EX m)
structure SB(X:Cx)(EX:XX)(st:List Stmt)(m:G->M Out):Prop where
 h:PSs X st (tB X.K EX m)
theorem PE.imp{t t':TE}(h:PE X e t)(f:∀σ H Q,t' σ H Q->t σ H Q):PE X e t':=λpins s σ H Q I z=>h pins s σ H Q I (f σ H Q z)
theorem PT.imp{t:TT}(h:PT X e t)(f:∀σ H Q,t' σ H Q->t σ H Q):PT X e t':=λpins s σ H Q I z=>h pins s σ H Q I (f σ H Q z)
theorem PA.imp{e:List Expr}{t t':TA}(h:PA X e t)(f:∀σ H Q,t' σ H Q->t σ H Q):PA X e t':=λpos pins s σ H Q I z=>h pos pins s σ H Q I (f σ H Q z)
theorem PS.imp{e:Stmt}{t t':TS}(h:PS X e t)(f:∀σ H Q,t' Q σ H->t Q σ H):PS X e t':=λpins s σ H Q I z=>h pins s σ H Q I (f σ H Q z)
theorem PSs.imp{e:List Stmt}{t t':TS}(h:PSs X e t)(f:∀σ H Q,t' Q σ H->t Q σ H):PSs X e t':=λpins s σ H Q I z=>h pins s σ H Q I (f σ H Q z)
abbrev FE(K:K5)(EX:XX)(ρ:List Addr)(H:Hp)(Q:VK)(r:Res D):Prop:=Fin K EX ρ H (λd ρ' _ H'=>∀v,RD K ρ' H' d v->Q v H') r
theorem FE.here{Q:VK}(f:FE K EX ρ H Q (.ok d h))(r:RH K ρ h H)(rd:RD K ρ H d v):Q v H:=f ρ H .(c) .(b) r v rd
theorem FE.tup{K:K5}{EX:XX}{ρ:List Addr}{H:Hp}{Q:VK}{ds:List D}{xs:List V}{h:AH}{p:Addr}(f:FE K EX ρ H Q (.ok (.tup ds) h))(r:RH K ρ h H)(hd:RDs K ρ H ds xs)(hp:H p=none):Q (.ref p) (upd H p (.tup xs)):=by
 have e:Ext K H (L2.upd H p (.tup xs)):=Ext.upd (.inl hp);refine f ρ _ .(c) e (r.other hp) _ ?_;simp only[RD];exact⟨p,xs,rfl,SqT.of Y9,hd.mono .(c) e⟩
theorem FE.lst{K:K5}{EX:XX}{ρ:List Addr}{H:Hp}{Q:VK}{ds:List D}{xs:List V}{h:AH}{p:Addr}(f:FE K EX ρ H Q (.ok (.ref h.length) (h++[.lst ds])))(r:RH K ρ h H)(hd:RDs K ρ H ds xs)(hp:H p=none):Q (.ref p) (upd H p (.lst xs)):=by
 refine f (ρ++[p]) _ (Pre.app _ _) (Ext.upd (.inl hp)) (r.push hp hd) _ ?_;simp only[RD];refine⟨p,rfl,?_⟩;rw[<- r.len];simp
def getL(n:Nat):M (List D):=λh=>match h[n]? with
 | .(l xs)=>.ok xs h
 | _=>.bad
def newL(xs:List D):M D:=λh=>if xs.length<=sizeLine then .ok (.ref h.length) (h++[.lst xs]) else .bad
section
variable{a b:Expr}
def eVar(i:Nat):G->M D:=λγ=>match γ[i]? with
 | some (some d)=>pure d
 | _=>bad
theorem z0(i:Nat)(hN:X.N[i]?=some x:=by rfl)(hv:Vis X.env.scope x:=by first|exact Or.inl rfl|exact Or.inr (Or.inl rfl)|exact Or.inr (Or.inr rfl))
 (hd:(x==("__debug__":Str))=false:=by decide) (hcd:(x==("__classdict__":Str))=false:=by decide):SE X EX (.Name x pos) (eVar i):=
 ⟨PE.imp (zT9 hN hv hd hcd) λσ H Q ⟨ρ,γ,h,rel,f⟩=>by
  have f':FE X.K EX ρ H Q (eVar i γ h):=f;unfold eVar at f';cases e:γ[i]? with
  | none=>rw[e]at f';exact f'.elim
  | some o=>cases o with
   | none=>rw[e]at f';exact f'.elim
   | some d=>
    rw[e]at f';obtain⟨v,h1,h2⟩:=rel.g.var i d e;exact⟨v,h1,FE.here f' rel.h h2⟩⟩
theorem z4g(h:PE X e (tC v))(r:∀ρ H,RD X.K ρ H d v):SE X EX e (λ_=>pure d):=
 ⟨PE.imp h λσ H Q ⟨ρ,γ,h,rel,f⟩=>FE.here f rel.h (r ρ H)⟩
theorem Z1{i:Int}:SE X EX (.Constant (.int i) j pos) (λ_=>pure (.int i)):=z4g zX6 λ_ _=>by simp[RD]
theorem z2Z{i:Bool}:SE X EX (.Constant (.bool i) j pos) (λ_=>pure (.bl i)):=z4g Z0R λ_ _=>by simp[RD]
theorem zd4:SE X EX (.Constant .none j pos) (λ_=>pure .non):=z4g zU0 λ_ _=>by simp[RD]
theorem z0m{i:Str}:SE X EX (.Constant (.str i) j pos) (λ_=>pure (.str i)):=z4g zY9 λ_ _=>by simp[RD]
def BR(K:K5)(EX:XX)(r:R2)(f:D->D->M D):Prop:=∀ρ h H x y v u Q,RH K ρ h H->RD K ρ H x v->RD K ρ H y u->FE K EX ρ H Q (f x y h)->r v u H Q
def e2(f:D->D->M D)(ma mb:G->M D):G->M D:=λγ=>do
 let x <- ma γ;let y <- mb γ
 f x y
theorem z9D{r:R2}{ta tb:TE}(h:PE X e (tOp r (tE X.K EX ma) (tE X.K EX mb)))(hr:BR X.K EX r f):SE X EX e (e2 f ma mb):=
 ⟨PE.imp h λσ H Q ⟨ρ,γ,h,rel,fin⟩=>⟨ρ,γ,h,rel,(Fin.bind fin).mono λx ρ1 h1 H1 p1 e1 r1 f1 v rv=>⟨ρ1,γ,h1,⟨rel.g.mono p1 e1,r1⟩,(Fin.bind f1).mono λy ρ2 h2 H2 p2 e2 r2 f2 u ru=>
  hr ρ2 h2 H2 x y v u Q r2 (rv.mono p2 e2) ru f2⟩⟩⟩
theorem z4V{op:Z27}{r:R2}(ho:OpR X (K2r op) r)(hr:BR X.K EX r f)(ha:SE X EX a ma)(hb:SE X EX b mb):SE X EX (.BinOp a op b pos) (e2 f ma mb):=
 z9D (ta:=tE X.K EX ma) (tb:=tE X.K EX mb) (Z15 ho ha.h hb.h) hr
theorem zZ7{op:CmpOp}{r:R2}(ho:OpR X (K1w op) r)(hr:BR X.K EX r f)(ha:SE X EX a ma)(hb:SE X EX b mb)(hm:K4u op b=false):SE X EX (.Compare a [op] [b] pos) (e2 f ma mb):=
 z9D (ta:=tE X.K EX ma) (tb:=tE X.K EX mb) (zL7 ho ha.h hb.h hm) hr
def fI(g:Int->Int->D):D->D->M D
 | .int i,.int j=>pure (g i j)
 | _,_=>bad
theorem zj2{g:Int->Int->D}(hg:∀i j ρ H,RD K ρ H (g i j) (g' i j)):BR K EX (rI0 g') (fI g):=by
 intro ρ h H x y v u Q r rx ry fin;unfold fI at fin;split at fin
 ·simp only[RD]at rx ry;subst rx;subst ry;exact⟨_,_,rfl,rfl,FE.here fin r (hg _ _ _ _)⟩
 ·exact fin.elim
def fIC(C:Int->Int->Bool)(g:Int->Int->D):D->D->M D
 | .int i,.int j=>if C i j then pure (g i j) else bad
 | _,_=>bad
theorem zn9{g:Int->Int->D}(hc:∀i j,C i j=true->C' i j)(hg:∀i j ρ H,RD K ρ H (g i j) (g' i j)):BR K EX (rI C' g') (fIC C g):=by
 intro ρ h H x y v u Q r rx ry fin;unfold fIC at fin;split at fin
 ·simp only[RD]at rx ry;subst rx;subst ry;split at fin
  ·rename_i hC;exact⟨_,_,rfl,rfl,hc _ _ hC,FE.here fin r (hg _ _ _ _)⟩
  ·exact fin.elim
 ·exact fin.elim
def fSub:=fI λi j=>.int (i - j)
def fDiv:=fIC (λ_ j=>decide (0<j)&&decide (j<1073741824)) λi j=>.int (i / j)
def fMod:=fIC (λ_ j=>decide (0<j)) λi j=>.int (i % j)
def fPow:=fIC (λi j=>decide (0<=j)&&decide (j<=1000)&&decide (-(2 ^ 64)<i)&&decide (i<2 ^ 64)) λi j=>.int (i ^ j.toNat)
def fShr:=fIC (λ_ j=>decide (0<=j)) λi j=>.int (i / 2 ^ j.toNat)
def fAnd:=fI λi j=>.int (K12 i j)
theorem z8N(ha:SE X EX a ma)(hb:SE X EX b mb):SE X EX (.BinOp a .Sub b pos) (e2 fSub ma mb):=z4V zX2 (zj2 λi j ρ H=>by simp[RD]) ha hb
theorem z6r(ha:SE X EX a ma)(hb:SE X EX b mb):SE X EX (.BinOp a .FloorDiv b pos) (e2 fDiv ma mb):=z4V zG0 (zn9 (λi j h=>by simp at h;exact h) λi j ρ H=>by simp[RD]) ha hb
theorem z3s(ha:SE X EX a ma)(hb:SE X EX b mb):SE X EX (.BinOp a .Mod b pos) (e2 fMod ma mb):=z4V zN1 (zn9 (λi j h=>by simpa using h) λi j ρ H=>by simp[RD]) ha hb
theorem za2(ha:SE X EX a ma)(hb:SE X EX b mb):SE X EX (.BinOp a .Pow b pos) (e2 fPow ma mb):=z4V zQ0 (zn9 (λi j h=>by
 simp at h;refine⟨h.1.1.1,by omega,?_⟩;have h1:=h.1.2;have h2:=h.2;omega) λi j ρ H=>by simp[RD]) ha hb
theorem zw9(ha:SE X EX a ma)(hb:SE X EX b mb):SE X EX (.BinOp a .RShift b pos) (e2 fShr ma mb):=z4V zT2 (zn9 (λi j h=>by simpa using h) λi j ρ H=>by simp[RD]) ha hb
theorem z2J(ha:SE X EX a ma)(hb:SE X EX b mb):SE X EX (.BinOp a .BitAnd b pos) (e2 fAnd ma mb):=z4V zY4 (zj2 λi j ρ H=>by simp[RD]) ha hb
def fAdd:D->D->M D
 | .int i,.int j=>pure (.int (i+j))
 | .str i,.str j=>if i.length+j.length<=sizeLine then pure (.str (i++j)) else bad
 | .ref i,.ref j=>do
  let x <- getL i;let y <- getL j
  newL (x++y)
 | .tup x,.tup y=>if !decide (x.length+y.length<=sizeLine) then bad else pure (.tup (x++y))
 | _,_=>bad
theorem z12{xs:List D}(e:getL n h=.ok xs h1):h1=h/\h[n]?=.(l xs):=by
 unfold getL at e;split at e
 ·rename_i q;cases e;exact⟨rfl,q⟩
 ·cases e
theorem z14{x:Exn}(e:getL n h=.err x h1):False:=by
 unfold getL at e;split at e<;>cases e
def zF4(K:K5):R2:=λx y H Q=>∃a b ys,x=.ref a/\y=.ref b/\SqT K H a []/\SqT K H b ys/\Q (.ref b) H
theorem zJ1:OpR X (K2r .Add) (zF4 X.K):=by
 intro pins s σ H x y v u Q I rx ry h;obtain⟨a,b,ys,rfl,rfl,ha,hb,q⟩:=h;cases rx;cases ry;obtain⟨its,r1,p1,_⟩:=I.tuple ha;obtain⟨its2,r2,p2,_⟩:=I.tuple hb;have e:its=[]:=(r1.nil_iff).mpr rfl;subst e;obtain⟨⟨cls,dd,data,sl⟩,ho,hc,n,hd⟩:=id p1;obtain⟨⟨cls2,dd2,data2,sl2⟩,ho2,hc2,n2,hd2⟩:=id p2;simp only at hc hd hc2 hd2;subst hc hd hc2 hd2;exact Z2h ⟨_,ho,rfl⟩ ⟨_,ho2,rfl⟩ K8n Z1n K6h K63 (K5o _ _) (tuple_addW0 a b _ _ n n2 dd dd2 sl sl2 rfl) ⟨ho,ho2,.ref b,H,I,rfl,q⟩
theorem zH4:OpR X (K2r .Add) (λx y H Q=>rI0 (λi j=>.int (i+j)) x y H Q\/(∃i j,x=.str i/\y=.str j/\i.length+j.length<=sizeLine/\Q (.str (i++j)) H)\/rCat x y H Q\/zI8 X.K x y H Q\/zF4 X.K x y H Q):=
 op_add.or (op_add_str.or (op_cat.or (op_catT.or zJ1)))
theorem zJ7:BR X.K EX (λx y H Q=>rI0 (λi j=>.int (i+j)) x y H Q\/(∃i j,x=.str i/\y=.str j/\i.length+j.length<=sizeLine/\Q (.str (i++j)) H)\/rCat x y H Q\/zI8 X.K x y H Q\/zF4 X.K x y H Q) fAdd:=by
 intro ρ h H x y v u Q r rx ry fin;unfold fAdd at fin;split at fin
 ·simp only[RD]at rx ry;subst rx;subst ry;exact .inl ⟨_,_,rfl,rfl,FE.here fin r .(s)⟩
 ·simp only[RD]at rx ry;subst rx;subst ry;split at fin
  ·rename_i hl;exact .inr (.inl ⟨_,_,rfl,rfl,hl,FE.here fin r .(s)⟩)
  ·exact fin.elim
 ·rename_i i j;simp only[RD]at rx ry;obtain⟨ai,rfl,hi⟩:=rx;obtain⟨aj,rfl,hj⟩:=ry;have f1:=Fin.bind fin;cases e:getL i h with
  | bad=>rw[e]at f1;exact f1.elim
  | err z hz=>exact(z14 e).elim
  | ok xs h1=>
   obtain⟨rfl,q1⟩:=z12 e;rw[e]at f1;have f2:=Fin.bind (f1 ρ H .(c) .(b) r);cases e3:getL j h1 with
   | bad=>rw[e3]at f2;exact f2.elim
   | err z hz=>exact(z14 e3).elim
   | ok ys h2=>
    obtain⟨rfl,q2⟩:=z12 e3;rw[e3]at f2;have f3:=f2 ρ H .(c) .(b) r;dsimp only at f3;unfold newL at f3;split at f3
    ·rename_i hl;obtain⟨a1,n1,xs1,o1,d1⟩:=r.at q1;obtain⟨a2,n2,xs2,o2,d2⟩:=r.at q2;rw[hi]at n1;cases n1;rw[hj]at n2;cases n2;refine .inr (.inr (.inl ⟨_,_,_,_,rfl,rfl,o1,o2,?_,λp hp=>FE.lst f3 r (d1.append d2) hp⟩));rw[<- d1.length,<- d2.length,<- K3];exact hl
    ·exact f3.elim
 ·rename_i x y;simp only[RD]at rx ry;obtain⟨ax,xs,rfl,hx,dx⟩:=rx;obtain⟨ay,ys,rfl,hy,dy⟩:=ry;split at fin
  ·exact fin.elim
  ·rename_i hc;simp at hc;have l1:=dx.length;have l2:=dy.length;by_cases hxe:xs=[]
   ·subst hxe;have xe:x=[]:=by simpa using l1
    subst xe;refine .inr (.inr (.inr (.inr ⟨ax,ay,ys,rfl,rfl,hx,hy,FE.here fin r ?_⟩)));simp only[RD];exact⟨ay,ys,rfl,hy,by simpa using dy⟩
   refine .inr (.inr (.inr (.inl ⟨ax,ay,xs,ys,rfl,rfl,hx,hy,hxe,by omega,λe=>?_,λe p hp=>FE.tup fin r (dx.append dy) hp⟩)))
   ·subst e;refine FE.here fin r ?_;simp only[RD];have:y=[]:=by simpa using l2
    subst this;exact⟨ax,xs,rfl,hx,by simpa using dx⟩
 ·exact fin.elim
theorem z0c(ha:SE X EX a ma)(hb:SE X EX b mb):SE X EX (.BinOp a .Add b pos) (e2 fAdd ma mb):=z4V zH4 zJ7 ha hb
def fMul:D->D->M D
 | .int i,.int j=>if (decide (-(2 ^ 64)<i)&&decide (i<2 ^ 64))||(decide (-(2 ^ 64)<j)&&decide (j<2 ^ 64)) then pure (.int (i * j)) else bad
 | .ref i,.int j=>do
  let x <- getL i
  if decide (-(2 ^ 63)<=j)&&decide (j<2 ^ 63) then newL (K0t j.toNat x).flatten else bad
 | _,_=>bad
theorem zY2:BR X.K EX (λx y H Q=>rI CMul (λi j=>.int (i * j)) x y H Q\/rRep x y H Q) fMul:=by
 intro ρ h H x y v u Q r rx ry fin;unfold fMul at fin;split at fin
 ·simp only[RD]at rx ry;subst rx;subst ry;split at fin
  ·rename_i hc;refine .inl ⟨_,_,rfl,rfl,?_,FE.here fin r .(s)⟩;simp only[K2h,K0e,decide_eq_true_eq]at hc;exact hc
  ·exact fin.elim
 ·rename_i i j;simp only[RD]at rx ry;obtain⟨ai,rfl,hi⟩:=rx;subst ry;have f1:=Fin.bind fin;cases e:getL i h with
  | bad=>rw[e]at f1;exact f1.elim
  | err z hz=>exact(z14 e).elim
  | ok xs h1=>
   obtain⟨rfl,q1⟩:=z12 e;rw[e]at f1;have f2:=f1 ρ H .(c) .(b) r;dsimp only at f2;split at f2
   ·rename_i hb;simp only[K0e,decide_eq_true_eq]at hb;unfold newL at f2;split at f2
    ·rename_i hl;obtain⟨a1,n1,xs1,o1,d1⟩:=r.at q1;rw[hi]at n1;cases n1;refine .inr ⟨_,_,_,rfl,rfl,o1,hb.1,hb.2,?_,λp hp=>FE.lst f2 r (d1.flat j.toNat) hp⟩;rw[L2.len_rep,d1.length]at hl;rw[K73];exact hl
    ·exact f2.elim
   ·exact f2.elim
 ·exact fin.elim
def fCmp(g:Int->Int->Bool):D->D->M D:=fI λi j=>.bl (g i j)
def fLt:D->D->M D
 | .int i,.int j=>pure (.bl (decide (i<j)))
 | .str i,.str j=>pure (.bl (decide (i.cps.toList<j.cps.toList)))
 | _,_=>bad
def fLe:D->D->M D
 | .int i,.int j=>pure (.bl (decide (i<=j)))
 | .str i,.str j=>pure (.bl (!decide (j.cps.toList<i.cps.toList)))
 | _,_=>bad
def fGt:D->D->M D:=fCmp λi j=>decide (j<i)
def fGe:D->D->M D:=fCmp λi j=>decide (j<=i)
theorem z9M:OpR X (K1w .LtE) (λx y H Q=>∃i j,x=.str i/\y=.str j/\Q (.bl (!decide (j.cps.toList<i.cps.toList))) H):=by
 intro pins s σ H x y v u Q I rx ry h;obtain⟨i,j,rfl,rfl,q⟩:=h;obtain⟨t,rfl⟩:=rx;obtain⟨t',rfl⟩:=ry;exact PySem.P.le_str ⟨.bl _,H,I,rfl,q⟩
theorem Z1a:BR K EX (λx y H Q=>rI0 (λi j=>.bl (decide (i<j))) x y H Q\/∃i j,x=.str i/\y=.str j/\Q (.bl (decide (i.cps.toList<j.cps.toList))) H) fLt:=by
 intro ρ h H x y v u Q r rx ry fin;unfold fLt at fin;split at fin
 ·simp only[RD]at rx ry;subst rx;subst ry;exact .inl ⟨_,_,rfl,rfl,FE.here fin r .(s)⟩
 ·simp only[RD]at rx ry;subst rx;subst ry;exact .inr ⟨_,_,rfl,rfl,FE.here fin r .(s)⟩
 ·exact fin.elim
theorem Z0f:BR K EX (λx y H Q=>rI0 (λi j=>.bl (decide (i<=j))) x y H Q\/∃i j,x=.str i/\y=.str j/\Q (.bl (!decide (j.cps.toList<i.cps.toList))) H) fLe:=by
 intro ρ h H x y v u Q r rx ry fin;unfold fLe at fin;split at fin
 ·simp only[RD]at rx ry;subst rx;subst ry;exact .inl ⟨_,_,rfl,rfl,FE.here fin r .(s)⟩
 ·simp only[RD]at rx ry;subst rx;subst ry;exact .inr ⟨_,_,rfl,rfl,FE.here fin r .(s)⟩
 ·exact fin.elim
def eqD:D->D->Option Bool
 | .int i,.int j=>some (decide (i=j))
 | .str i,.str j=>some (decide (i=j))
 | .bl i,.bl j=>some (decide (i=j))
 | .non,.non=>some true
 | .int _,.str _=>some false
 | .str _,.int _=>some false
 | .non,.int _=>some false
 | .int _,.non=>some false
 | .non,.str _=>some false
 | .str _,.non=>some false
 | _,_=>none
def fEq(neg:Bool):D->D->M D:=λx y=>match eqD x y with
 | some b=>pure (.bl (b != neg))
 | none=>bad
theorem zh0{x:D}{u:V}{k:Bool}(e:eqD x y=some k)(rx:RD K ρ H x v)(ry:RD K ρ H y u):scal v u=true/\decide (v=u)=k:=by
 cases x<;>cases y<;>first
  | (have e':none=some k:=e
     exact nomatch e')
  | (simp only[eqD]at e
     simp only[RD]at rx ry;subst rx;subst ry;cases e;exact⟨rfl,by simp⟩)
theorem Z11:BR K EX rEq (fEq false):=by
 intro ρ h H x y v u Q r rx ry fin;unfold fEq at fin;cases hk:eqD x y with
 | none=>rw[hk]at fin;exact fin.elim
 | some k=>
  rw[hk]at fin;obtain⟨h1,h2⟩:=zh0 hk rx ry;refine⟨h1,?_⟩;rw[h2];refine FE.here fin r ?_;cases k<;>simp[RD]
theorem Z17:BR K EX rNe (fEq true):=by
 intro ρ h H x y v u Q r rx ry fin;unfold fEq at fin;cases hk:eqD x y with
 | none=>rw[hk]at fin;exact fin.elim
 | some k=>
  rw[hk]at fin;obtain⟨h1,h2⟩:=zh0 hk rx ry;refine⟨h1,?_⟩;rw[h2];refine FE.here fin r ?_;cases k<;>simp[RD]
def z17:D->Bool
 | .non=>true
 | .bl _=>true
 | .int _=>true
 | .str _=>true
 | _=>false
def eqF:D->D->Bool
 | .non,.non=>true
 | .bl a,.bl b=>a==b
 | .bl a,.int b=>(if a then 1 else 0)==b
 | .int a,.bl b=>a==(if b then 1 else 0)
 | .int a,.int b=>a==b
 | .str a,.str b=>a==b
 | _,_=>false
def seqD:D->M (List D)
 | .tup xs=>pure xs
 | .fl xs=>pure xs
 | .ref n=>getL n
 | _=>bad
def fIn(neg:Bool):D->D->M D:=λx y=>do
 let ys <- seqD y
 if z17 x&&ys.all z17 then pure (.bl ((ys.any λz=>eqF z x) != neg)) else bad
theorem z8U{x:D}(f:z17 x=true)(r:RD K ρ H x v):z4U v=true:=by
 cases x<;>simp only[RD]at r<;>first|(subst r;rfl)|cases f
theorem zy7{x:D}{u:V}(f:z17 x=true)(f':z17 y=true)(r:RD K ρ H x v)(r':RD K ρ H y u):eqV v u=eqF x y:=by
 cases x with
 | non=>simp only[RD]at r;subst r;cases y<;>first|(simp only[RD]at r';subst r';rfl)|cases f'
 | bl b=>simp only[RD]at r;subst r;cases y<;>first|(simp only[RD]at r';subst r';rfl)|cases f'
 | int b=>simp only[RD]at r;subst r;cases y<;>first|(simp only[RD]at r';subst r';rfl)|cases f'
 | str b=>simp only[RD]at r;subst r;cases y<;>first|(simp only[RD]at r';subst r';rfl)|cases f'
 | tup b=>cases f
 | fl b=>cases f
 | ref b=>cases f
theorem z6a{K:K5}{ρ:List Addr}{H:Hp}:∀{xs:List D}{vs:List V},RDs K ρ H xs vs->xs.all z17=true->vs.all z4U=true
 | [],vs,r,_=>by simp only[RDs]at r;subst r;rfl
 | x::xs,vs,r,f=>by
  simp only[RDs]at r;obtain⟨v,r2,rfl,h1,h2⟩:=r;rw[K5j,K0e]at f ⊢;exact⟨z8U f.1 h1,z6a h2 f.2⟩
theorem zc6{K:K5}{ρ:List Addr}{H:Hp}{x:D}{v:V}(f:z17 x=true)(r:RD K ρ H x v):∀{xs:List D}{vs:List V},RDs K ρ H xs vs->xs.all z17=true->(vs.any λy=>eqV y v)=xs.any λz=>eqF z x
 | [],vs,rs,_=>by simp only[RDs]at rs;subst rs;rfl
 | y::xs,vs,rs,fs=>by
  simp only[RDs]at rs;obtain⟨u,r2,rfl,h1,h2⟩:=rs;rw[K5j,K0e]at fs;rw[K2g,K2g,zy7 fs.1 f h1 r,zc6 f r h2 fs.2]
theorem z2D{u:V}{ys:List D}(r:RH K ρ h H)(ry:RD K ρ H y u)(e:seqD y h=.ok ys h1):h1=h/\∃p xs,u=.ref p/\(SqL K H p xs\/SqT K H p xs)/\RDs K ρ H ys xs:=by
 unfold seqD at e;split at e
 ·cases e;simp only[RD]at ry;obtain⟨p,xs,rfl,h2,h3⟩:=ry;exact⟨rfl,p,xs,rfl,.inr h2,h3⟩
 ·cases e;simp only[RD]at ry;obtain⟨p,xs,rfl,h2,h3⟩:=ry;exact⟨rfl,p,xs,rfl,.inl h2.sq,h3⟩
 ·obtain⟨rfl,q⟩:=z12 e;simp only[RD]at ry;obtain⟨p,rfl,h2⟩:=ry;obtain⟨a,n1,xs,o1,d1⟩:=r.at q;rw[h2]at n1;cases n1;exact⟨rfl,p,xs,rfl,.inl (SqL.of o1),d1⟩
 ·cases e
theorem z3L{x:Exn}(e:seqD y h=.err x h1):False:=by
 unfold seqD at e;split at e
 ·cases e
 ·cases e
 ·exact z14 e
 ·cases e
theorem zZ0{neg:Bool}:BR K EX (rIn K neg) (fIn neg):=by
 intro ρ h H x y v u Q r rx ry fin;have f1:=Fin.bind fin;cases e:seqD y h with
 | bad=>rw[e]at f1;exact f1.elim
 | err z hz=>exact(z3L e).elim
 | ok ys h1=>
  obtain⟨rfl,p,xs,rfl,hs,hd⟩:=z2D r ry e;rw[e]at f1;have f2:=f1 ρ H .(c) .(b) r;dsimp only at f2;split at f2
  ·rename_i hc;rw[K0e]at hc;refine⟨p,xs,rfl,hs,z8U hc.1 rx,z6a hd hc.2,?_⟩;refine FE.here f2 r ?_;unfold inV;rw[zc6 hc.1 rx hd hc.2];cases neg<;>simp[RD]
  ·exact f2.elim
end
section
variable{es:List Expr}
theorem z7F{c k p}:K0k (.Constant c k p::es) env=(false,eval (.Constant c k p) env)::K0k es env:=rfl
theorem zL2{c p}:K0k (.Name c p::es) env=(false,eval (.Name c p) env)::K0k es env:=rfl
theorem zA6{a b c p}:K0k (.Call a b c p::es) env=(false,eval (.Call a b c p) env)::K0k es env:=rfl
theorem zs8{a b c p}:K0k (.BinOp a b c p::es) env=(false,eval (.BinOp a b c p) env)::K0k es env:=rfl
theorem z9r{a b c p}:K0k (.Compare a b c p::es) env=(false,eval (.Compare a b c p) env)::K0k es env:=rfl
theorem z6w{a b p}:K0k (.Subscript a b p::es) env=(false,eval (.Subscript a b p) env)::K0k es env:=rfl
theorem zq0{a b p}:K0k (.Tuple a b p::es) env=(false,eval (.Tuple a b p) env)::K0k es env:=rfl
theorem zI9{a p}:K0k (.List a p::es) env=(false,eval (.List a p) env)::K0k es env:=rfl
theorem z9y{a b p}:K0k (.UnaryOp a b p::es) env=(false,eval (.UnaryOp a b p) env)::K0k es env:=rfl
theorem z7o{a b c p}:K0k (.ListComp a b c p::es) env=(false,eval (.ListComp a b c p) env)::K0k es env:=rfl
end
section
variable{a b:Expr}
def CO(X:Cx)(EX:XX)(op:CmpOp)(f:D->D->M D):Prop:=∃r,OpR X (K1w op) r/\BR X.K EX r f
theorem zc1:CO X EX .Lt fLt:=⟨_,op_lt.or za4,Z1a⟩
theorem zm4:CO X EX .LtE fLe:=⟨_,op_le.or z9M,Z0f⟩
theorem z7y:CO X EX .Gt fGt:=⟨_,Z0S,zj2 λi j ρ H=>by simp[RD]⟩
theorem Z0D:CO X EX .GtE fGe:=⟨_,Z0v,zj2 λi j ρ H=>by simp[RD]⟩
theorem z3K:CO X EX .Eq (fEq false):=⟨_,Z0C,Z11⟩
theorem Z0h:CO X EX .NotEq (fEq true):=⟨_,Z0o,Z17⟩
theorem z7Q:CO X EX .In (fIn false):=⟨_,zj9,zZ0⟩
theorem z21:CO X EX .NotIn (fIn true):=⟨_,z6z,zZ0⟩
def fIs(neg:Bool):D->D->M D:=λx y=>match y with
 | .non=>(match x with
  | .non=>pure (.bl (true != neg))
  | .bl _=>pure (.bl (false != neg))
  | .int _=>pure (.bl (false != neg))
  | .str _=>pure (.bl (false != neg))
  | .tup _=>pure (.bl (false != neg))
  | .ref _=>pure (.bl (false != neg))
  | .fl _=>pure (.bl (false != neg)))
 | .bl k=>(match x with
  | .bl j=>pure (.bl ((j==k) != neg))
  | .non=>pure (.bl (false != neg))
  | .int _=>pure (.bl (false != neg))
  | .str _=>pure (.bl (false != neg))
  | .tup _=>pure (.bl (false != neg))
  | .ref _=>pure (.bl (false != neg))
  | .fl _=>pure (.bl (false != neg)))
 | _=>bad
theorem zr3(neg:Bool):OpR X (K1w (if neg then .IsNot else .Is)) (λx y H Q=>(y=.non/\Q (.bl ((decide (x=.non)) != neg)) H)\/∃k,y=.bl k/\Q (.bl ((decide (x=.bl k)) != neg)) H):=by
 intro pins s σ H x y v u Q I rx ry h;have pl:∀{a b:Value},plainIs a b=true->EP X pins σ Q (.bool ((a==b) != neg)) s->wpAny .(6) X.A (K1w (if neg then .IsNot else .Is) a b) (EP X pins σ Q) X.xe s:=λ{a b} hp hq=>by
  cases neg with
  | false=>exact wpAny_is_plain hp (by simpa using hq)
  | true=>exact wpAny_isNot_plain hp (by simpa using hq)
 rcases h with ⟨rfl,q⟩|⟨k,rfl,q⟩
 ·cases ry;have fin:∀{a:Value} {w:Bool},w=decide (x=.non)->(a==K2z)=w->EP X pins σ Q (.bool ((a==K2z) != neg)) s:=λ{a w} e1 e2=>by
   rw[e2,e1];exact⟨.bl _,H,I,rfl,q⟩
  cases x with
  | non=>cases rx;exact pl rfl (fin (w:=true) .(e) rfl)
  | bl j=>cases rx;exact pl rfl (fin (w:=false) .(e) rfl)
  | int j=>obtain⟨t,rfl⟩:=rx;exact pl rfl (fin (w:=false) .(e) rfl)
  | str j=>obtain⟨t,rfl⟩:=rx;exact pl rfl (fin (w:=false) .(e) rfl)
  | byt j=>obtain⟨t,rfl⟩:=rx;exact pl rfl (fin (w:=false) .(e) rfl)
  | flt j=>obtain⟨t,rfl⟩:=rx;exact pl rfl (fin (w:=false) .(e) rfl)
  | ref j=>cases rx;exact pl rfl (fin (w:=false) .(e) rfl)
  | ty j=>cases rx;exact pl rfl (fin (w:=false) .(e) rfl)
 ·cases ry;have fin:∀{a:Value} {w:Bool},w=decide (x=.bl k)->(a==K79 k)=w->EP X pins σ Q (.bool ((a==K79 k) != neg)) s:=λ{a w} e1 e2=>by
   rw[e2,e1];exact⟨.bl _,H,I,rfl,q⟩
  cases x with
  | non=>cases rx;exact pl rfl (fin (w:=false) .(e) rfl)
  | bl j=>cases rx;exact pl rfl (fin (w:=(j==k)) (by rw[K0n];simp) (by cases j<;>cases k<;>rfl))
  | int j=>obtain⟨t,rfl⟩:=rx;exact pl rfl (fin (w:=false) .(e) rfl)
  | str j=>obtain⟨t,rfl⟩:=rx;exact pl rfl (fin (w:=false) .(e) rfl)
  | byt j=>obtain⟨t,rfl⟩:=rx;exact pl rfl (fin (w:=false) .(e) rfl)
  | flt j=>obtain⟨t,rfl⟩:=rx;exact pl rfl (fin (w:=false) .(e) rfl)
  | ref j=>cases rx;exact pl rfl (fin (w:=false) .(e) rfl)
  | ty j=>cases rx;exact pl rfl (fin (w:=false) .(e) rfl)
theorem zh1{x:D}(rx:RD K ρ H x v):decide (v=.non)=(match x with|.non=>true|_=>false):=by
 cases x<;>simp only[RD]at rx
 case non=>subst rx;simp
 case bl=>subst rx;simp
 case int=>subst rx;simp
 case str=>subst rx;simp
 case tup=>obtain⟨a,xs,rfl,_⟩:=rx;simp
 case fl=>obtain⟨a,xs,rfl,_⟩:=rx;simp
 case ref=>obtain⟨a,rfl,_⟩:=rx;simp
theorem zl0{x:D}{k:Bool}(rx:RD K ρ H x v):decide (v=.bl k)=(match x with|.bl j=>j==k|_=>false):=by
 cases x<;>simp only[RD]at rx
 case non=>subst rx;simp
 case bl j=>subst rx;cases j<;>cases k<;>rfl
 case int=>subst rx;simp
 case str=>subst rx;simp
 case tup=>obtain⟨a,xs,rfl,_⟩:=rx;simp
 case fl=>obtain⟨a,xs,rfl,_⟩:=rx;simp
 case ref=>obtain⟨a,rfl,_⟩:=rx;simp
theorem Z19(neg:Bool):BR K EX (λx y H Q=>(y=.non/\Q (.bl ((decide (x=.non)) != neg)) H)\/∃k,y=.bl k/\Q (.bl ((decide (x=.bl k)) != neg)) H) (fIs neg):=by
 intro ρ h H x y v u Q r rx ry fin;cases y with
 | non=>
  simp only[RD]at ry;refine .inl ⟨ry,?_⟩;rw[zh1 rx];cases x<;>first|exact(show False from fin).elim|exact FE.here fin r .(s)
 | bl k=>
  simp only[RD]at ry;refine .inr ⟨k,ry,?_⟩;rw[zl0 rx];cases x<;>first|exact(show False from fin).elim|exact FE.here fin r .(s)
 | _=>exact(show False from fin).elim
theorem Z12:CO X EX .Is (fIs false):=⟨_,zr3 false,Z19 false⟩
theorem se_c{op:CmpOp}(h:CO X EX op f)(ha:SE X EX a ma)(hb:SE X EX b mb)(hm:K4u op b=false:=by first|exact zw2 _|with_unfolding_all rfl):SE X EX (.Compare a [op] [b] pos) (e2 f ma mb):=by
 obtain⟨r,h1,h2⟩:=h;exact zZ7 h1 h2 ha hb hm
def asB:D->M Bool
 | .bl b=>pure b
 | _=>bad
theorem Z0B{t:TE}{m:G->M D}(h:∀σ H Q,tE X.K EX m σ H Q->t σ H Q):∀σ H Q,tT X.K EX (λγ=>do let d <- m γ;asB d) σ H Q->zT0 t σ H Q:=by
 intro σ H Q ⟨ρ,γ,h0,rel,fin⟩;refine h σ H _ ⟨ρ,γ,h0,rel,(Fin.bind fin).mono λd ρ1 h1 H1 p1 e1 r1 f1 v rv=>?_⟩;cases d<;>first|exact(show False from f1).elim|skip
 rename_i b;simp only[RD]at rv;exact⟨b,rv,f1 ρ1 H1 .(c) .(b) r1⟩
theorem sc_c{op:CmpOp}(h:CO X EX op f)(ha:SE X EX a ma)(hb:SE X EX b mb)(hm:K4u op b=false:=by first|exact zw2 _|with_unfolding_all rfl):SC X EX (.Compare a [op] [b] pos) (λγ=>do let d <- e2 f ma mb γ;asB d):=by
 constructor;obtain⟨r,h1,h2⟩:=h;refine PT.imp (zE7 h1 ha.h hb.h hm) (Z0B λσ H Q ⟨ρ,γ,h,rel,fin⟩=>?_);exact⟨ρ,γ,h,rel,(Fin.bind fin).mono λx ρ1 h1 H1 p1 e1 r1 f1 v rv=>⟨ρ1,γ,h1,⟨rel.g.mono p1 e1,r1⟩,(Fin.bind f1).mono λy ρ2 h3 H2 p2 e2 r2 f2 u ru=>
  h2 ρ2 h3 H2 x y v u Q r2 (rv.mono p2 e2) ru f2⟩⟩
def e3(f g:D->D->M D)(ma mb mc:G->M D):G->M D:=λγ=>do
 let x <- ma γ;let y <- mb γ;let k <- f x y;let t <- asB k
 if t then do
  let z <- mc γ
  g y z
 else pure (.bl false)
theorem zp1{r r':R2}{g:D->D->M D}(h2:BR X.K EX r f)(h4:BR X.K EX r' g):∀σ H Q,tE X.K EX (e3 f g ma mb mc) σ H Q->zy0 r r' (tE X.K EX ma) (tE X.K EX mb) (tE X.K EX mc) σ H Q:=by
 intro σ H Q ⟨ρ,γ,h,rel,fin⟩;refine⟨ρ,γ,h,rel,(Fin.bind fin).mono λx ρ1 h1 H1 p1 e1 r1 f1 v rv=>⟨ρ1,γ,h1,⟨rel.g.mono p1 e1,r1⟩,(Fin.bind f1).mono λy ρ2 h3 H2 p2 e2 r2 f2 u ru=>?_⟩⟩;refine h2 ρ2 h3 H2 x y v u _ r2 (rv.mono p2 e2) ru ((Fin.bind f2).mono λk ρ3 h5 H3 p3 e3 r3 f3 z rz=>?_);cases k<;>first|exact(show False from f3).elim|skip
 rename_i t;simp only[RD]at rz;refine⟨t,rz,?_⟩;cases t with
 | false=>
  rw[if_neg .(1)];exact FE.here (d:=.bl false) (h:=h5) (ρ:=ρ3) f3 r3 .(s)
 | true=>
  rw[if_pos rfl];have f4:Fin X.K EX ρ3 H3 (λd ρ' _ H'=>∀v,RD X.K ρ' H' d v->Q v H') ((mc γ >>= λz=>g y z) h5):=f3;exact⟨ρ3,γ,h5,⟨((rel.g.mono p1 e1).mono p2 e2).mono p3 e3,r3⟩,(Fin.bind f4).mono λw ρ4 h6 H4 p4 e4 r4 f5 q rq=>h4 ρ4 h6 H4 y w u q Q r4 ((ru.mono p3 e3).mono p4 e4) rq f5⟩
theorem zS5{op op':CmpOp}{g:D->D->M D}(h:CO X EX op f)(h':CO X EX op' g)(ha:SE X EX a ma)(hb:SE X EX b mb)(hc:SE X EX c mc)(hm:lastMarks [op,op'] [b,c]=false:=by with_unfolding_all rfl):SE X EX (.Compare a [op,op'] [b,c] pos) (e3 f g ma mb mc):=by
 constructor;obtain⟨r,h1,h2⟩:=h;obtain⟨r',h3,h4⟩:=h';exact PE.imp (zt2 h1 h3 ha.h hb.h hc.h hm) (zp1 h2 h4)
def eAnd(ma mb:G->M D):G->M D:=λγ=>do
 let x <- ma γ;let t <- asB x
 if t then mb γ else pure (.bl false)
def eOr(ma mb:G->M D):G->M D:=λγ=>do
 let x <- ma γ;let t <- asB x
 if t then pure (.bl true) else mb γ
def eNot(ma:G->M D):G->M D:=λγ=>do
 let x <- ma γ;let t <- asB x
 pure (.bl (!t))
variable{rest:List Expr}
theorem z51{op:PySem.BoolOp}(ha:SE X EX a ma):SE X EX (.BoolOp op [a] pos) ma:=⟨zU2 ha.h⟩
theorem z7M(ha:SE X EX a ma)(hb:SE X EX (.BoolOp .And (b::rest) pos) mb):SE X EX (.BoolOp .And (a::b::rest) pos) (eAnd ma mb):=
 ⟨PE.imp (zO5 ha.h hb.h) λσ H Q ⟨ρ,γ,h,rel,fin⟩=>⟨ρ,γ,h,rel,(Fin.bind fin).mono λx ρ1 h1 H1 p1 e1 r1 f1 v rv=>by
  cases x<;>first|exact(show False from f1).elim|skip
  rename_i t;simp only[RD]at rv;refine⟨t,rv,?_⟩;cases t with
  | true=>exact⟨ρ1,γ,h1,⟨rel.g.mono p1 e1,r1⟩,f1⟩
  | false=>exact FE.here (d:=.bl false) (h:=h1) (ρ:=ρ1) f1 r1 .(s)⟩⟩
theorem z80(ha:SE X EX a ma)(hb:SE X EX (.BoolOp .Or (b::rest) pos) mb):SE X EX (.BoolOp .Or (a::b::rest) pos) (eOr ma mb):=
 ⟨PE.imp (Z0k ha.h hb.h) λσ H Q ⟨ρ,γ,h,rel,fin⟩=>⟨ρ,γ,h,rel,(Fin.bind fin).mono λx ρ1 h1 H1 p1 e1 r1 f1 v rv=>by
  cases x<;>first|exact(show False from f1).elim|skip
  rename_i t;simp only[RD]at rv;refine⟨t,rv,?_⟩;cases t with
  | false=>exact⟨ρ1,γ,h1,⟨rel.g.mono p1 e1,r1⟩,f1⟩
  | true=>exact FE.here (d:=.bl true) (h:=h1) (ρ:=ρ1) f1 r1 .(s)⟩⟩
theorem zK3(ha:SE X EX a ma):SE X EX (.UnaryOp .Not a pos) (eNot ma):=
 ⟨PE.imp (zM0 ha.h) λσ H Q ⟨ρ,γ,h,rel,fin⟩=>⟨ρ,γ,h,rel,(Fin.bind fin).mono λx ρ1 h1 H1 p1 e1 r1 f1 v rv=>by
  cases x<;>first|exact(show False from f1).elim|skip
  rename_i t;simp only[RD]at rv;exact⟨t,rv,FE.here (d:=.bl (!t)) (h:=h1) (ρ:=ρ1) f1 r1 .(s)⟩⟩⟩
structure SW(X:Cx)(EX:XX)(e:Expr)(m:G->M Bool):Prop where
 h:PW X e (tT X.K EX m)
theorem PW.imp{t:TT}(h:PW X e t)(f:∀σ H Q,t' σ H Q->t σ H Q):PW X e t':=λw pins s σ H Q I z=>h w pins s σ H Q I (f σ H Q z)
def cAnd(ka kb:G->M Bool):G->M Bool:=λγ=>do
 let t <- ka γ
 if t then kb γ else pure false
def cOr(ka kb:G->M Bool):G->M Bool:=λγ=>do
 let t <- ka γ
 if t then pure true else kb γ
def cNot(ka:G->M Bool):G->M Bool:=λγ=>do
 let t <- ka γ
 pure (!t)
theorem z4D(ha:SC X EX a ka):SW X EX (.BoolOp .And [a] pos) ka:=⟨zF0 ha.h⟩
theorem z6o(ha:SC X EX a ka):SW X EX (.BoolOp .Or [a] pos) ka:=⟨Z01 ha.h⟩
theorem z6A(ha:SC X EX a ka)(hb:SW X EX (.BoolOp .And (b::rest) pos) kb):SW X EX (.BoolOp .And (a::b::rest) pos) (cAnd ka kb):=
 ⟨PW.imp (zO2 ha.h hb.h) λσ H Q ⟨ρ,γ,h,rel,fin⟩=>⟨ρ,γ,h,rel,(Fin.bind fin).mono λt ρ1 h1 H1 p1 e1 r1 f1=>by
  cases t with
  | true=>exact⟨ρ1,γ,h1,⟨rel.g.mono p1 e1,r1⟩,f1⟩
  | false=>exact f1 ρ1 H1 .(c) .(b) r1⟩⟩
theorem z94(ha:SC X EX a ka)(hb:SW X EX (.BoolOp .Or (b::rest) pos) kb):SW X EX (.BoolOp .Or (a::b::rest) pos) (cOr ka kb):=
 ⟨PW.imp (Z0J ha.h hb.h) λσ H Q ⟨ρ,γ,h,rel,fin⟩=>⟨ρ,γ,h,rel,(Fin.bind fin).mono λt ρ1 h1 H1 p1 e1 r1 f1=>by
  cases t with
  | false=>exact⟨ρ1,γ,h1,⟨rel.g.mono p1 e1,r1⟩,f1⟩
  | true=>exact f1 ρ1 H1 .(c) .(b) r1⟩⟩
theorem SW.sc(h:SW X EX e ka):SC X EX e ka:=⟨PW.pt h.h⟩
theorem z3i(ha:SC X EX a ka):SC X EX (.UnaryOp .Not a pos) (cNot ka):=
 ⟨PT.imp (zN3 ha.h) λσ H Q ⟨ρ,γ,h,rel,fin⟩=>⟨ρ,γ,h,rel,(Fin.bind fin).mono λt ρ1 h1 H1 p1 e1 r1 f1=>f1 ρ1 H1 .(c) .(b) r1⟩⟩
def truD:D->M Bool
 | .non=>pure false
 | .bl b=>pure b
 | .int i=>pure (i != 0)
 | .str y=>if y.length<=sizeLine then pure (decide (y.length≠0)) else bad
 | .tup xs=>pure (!xs.isEmpty)
 | .fl xs=>pure (!xs.isEmpty)
 | .ref n=>do
  let xs <- getL n
  pure (!xs.isEmpty)
def cVal(ma:G->M D):G->M Bool:=λγ=>do
 let x <- ma γ
 truD x
theorem isE(h:RDs K ρ H ds xs):ds.isEmpty=xs.isEmpty:=by
 have:=.(h);cases ds<;>cases xs<;>simp at this ⊢
theorem zL4{x:D}{Q:Bool->Hp->Prop}(r:RH X.K ρ h H)(rx:RD X.K ρ H x v)(f:Fin X.K EX ρ H (λb _ _ H'=>Q b H') (truD x h)):∃k,TruV X.K v H k/\Q k H:=by
 cases x with
 | non=>simp only[RD]at rx;subst rx;exact⟨false,rfl,f ρ H .(c) .(b) r⟩
 | bl b=>simp only[RD]at rx;subst rx;exact⟨b,rfl,f ρ H .(c) .(b) r⟩
 | int b=>simp only[RD]at rx;subst rx;exact⟨_,rfl,f ρ H .(c) .(b) r⟩
 | str y=>
  simp only[RD]at rx;subst rx;have f':Fin X.K EX ρ H (λb _ _ H'=>Q b H') ((if y.length<=sizeLine then pure (decide (y.length≠0)) else bad:M Bool) h):=f;by_cases hl:y.length<=sizeLine
  ·rw[if_pos hl]at f';refine⟨decide (y.length≠0),⟨hl,?_⟩,f' ρ H .(c) .(b) r⟩;rw[K0n];simp
  ·rw[if_neg hl]at f';exact f'.elim
 | tup xs=>
  simp only[RD]at rx;obtain⟨a,vs,rfl,h1,h2⟩:=rx;exact⟨!xs.isEmpty,.inr (.inl ⟨vs,h1,by rw[isE h2]⟩),f ρ H .(c) .(b) r⟩
 | fl xs=>
  simp only[RD]at rx;obtain⟨a,vs,rfl,h1,h2⟩:=rx;exact⟨!xs.isEmpty,.inl ⟨vs,h1.sq,by rw[isE h2]⟩,f ρ H .(c) .(b) r⟩
 | ref n=>
  have f1:=Fin.bind f;cases e:getL n h with
  | bad=>rw[e]at f1;exact f1.elim
  | err z hz=>exact(z14 e).elim
  | ok xs h1=>
   obtain⟨rfl,q1⟩:=z12 e;rw[e]at f1;have f2:=f1 ρ H .(c) .(b) r;simp only[RD]at rx;obtain⟨a,rfl,h2⟩:=rx;obtain⟨a1,n1,vs,o1,d1⟩:=r.at q1;rw[h2]at n1;cases n1;exact⟨!xs.isEmpty,.inl ⟨vs,SqL.of o1,by rw[isE d1]⟩,f2 ρ H .(c) .(b) r⟩
theorem z0k(ha:SE X EX a ma)(he:∀whole,isTrue a X.env whole=(do let v <- whole;K5a a.pos;K3t [v] (truthy v)):=by intro _;rfl):SC X EX a (cVal ma):=
 ⟨PT.imp (zo3 ha.h he) λσ H Q ⟨ρ,γ,h,rel,fin⟩=>⟨ρ,γ,h,rel,(Fin.bind fin).mono λx ρ1 h1 H1 p1 e1 r1 f1 v rv=>zL4 r1 rv f1⟩⟩
def eIf(k:G->M Bool)(ma mb:G->M D):G->M D:=λγ=>do
 let t <- k γ
 if t then ma γ else mb γ
theorem Z09(hc:SC X EX c kc)(ha:SE X EX a ma)(hb:SE X EX b mb):SE X EX (.IfExp c a b pos) (eIf kc ma mb):=
 ⟨PE.imp (zs4 hc.h ha.h hb.h) λσ H Q ⟨ρ,γ,h,rel,fin⟩=>⟨ρ,γ,h,rel,(Fin.bind fin).mono λt ρ1 h1 H1 p1 e1 r1 f1=>by
  cases t with
  | true=>exact⟨ρ1,γ,h1,⟨rel.g.mono p1 e1,r1⟩,f1⟩
  | false=>exact⟨ρ1,γ,h1,⟨rel.g.mono p1 e1,r1⟩,f1⟩⟩⟩
def aNil:G->M (List D):=λ_=>pure []
def z7(ma:G->M D)(mr:G->M (List D)):G->M (List D):=λγ=>do
 let x <- ma γ;let r <- mr γ
 pure (x::r)
variable{es:List Expr}
theorem Z0:SA X EX [] aNil:=⟨PA.imp z2l λσ H Q ⟨ρ,γ,h,rel,fin⟩=>fin ρ H .(c) .(b) rel.h [] RDs.nil⟩
theorem z6(ha:SE X EX a ma)(hr:SA X EX es mr)(hs:K0k (a::es) X.env=(false,eval a X.env)::K0k es X.env:=by first|exact z7F|exact zL2|exact zA6|exact zs8|exact z9r|exact z6w|exact zq0|exact zI9|exact z9y|exact z7o|rfl):SA X EX (a::es) (z7 ma mr):=
 ⟨PA.imp (z0N ha.h hr.h hs) λσ H Q ⟨ρ,γ,h,rel,fin⟩=>⟨ρ,γ,h,rel,(Fin.bind fin).mono λx ρ1 h1 H1 p1 e1 r1 f1 v rv=>⟨ρ1,γ,h1,⟨rel.g.mono p1 e1,r1⟩,(Fin.bind f1).mono λds ρ2 h2 H2 p2 e2 r2 f2 vs rvs=>
  f2 ρ2 H2 .(c) .(b) r2 (v::vs) (RDs.cons (rv.mono p2 e2) rvs)⟩⟩⟩
def eTup(mr:G->M (List D)):G->M D:=λγ=>do
 let xs <- mr γ
 if xs.length<=sizeLine then pure (.tup xs) else bad
def eLst(mr:G->M (List D)):G->M D:=λγ=>do
 let xs <- mr γ
 newL xs
theorem z2L{k:Nat}(h:SA X EX es mr):SE X EX (.Tuple es k pos) (eTup mr):=
 ⟨PE.imp (zP5 h.h) λσ H Q ⟨ρ,γ,h,rel,fin⟩=>⟨ρ,γ,h,rel,(Fin.bind fin).mono λxs ρ1 h1 H1 p1 e1 r1 f1 vs rvs=>by
  by_cases hl:xs.length<=sizeLine
  ·rw[if_pos hl]at f1;exact⟨by rw[<- rvs.length];exact hl,λp hp=>FE.tup (h:=h1) f1 r1 rvs hp⟩
  ·rw[if_neg hl]at f1;exact(show False from f1).elim⟩⟩
theorem Y1(h:SA X EX es mr):SE X EX (.List es pos) (eLst mr):=
 ⟨PE.imp (zV7 h.h) λσ H Q ⟨ρ,γ,h,rel,fin⟩=>⟨ρ,γ,h,rel,(Fin.bind fin).mono λxs ρ1 h1 H1 p1 e1 r1 f1 vs rvs=>by
  unfold newL at f1;split at f1
  ·rename_i hl;exact⟨by rw[<- rvs.length];exact hl,λp hp=>FE.lst (h:=h1) f1 r1 rvs hp⟩
  ·exact(show False from f1).elim⟩⟩
def fIx:D->D->M D
 | .str z,.int i=>if z.length<=sizeLine then (match atI z.cps.toList i with
  | some c=>pure (.str ⟨#[c]⟩)
  | none=>bad) else bad
 | x,.int i=>do
  let xs <- seqD x
  match atI xs i with
  | some d=>pure d
  | none=>bad
 | _,_=>bad
theorem zK0{i:Int}(h:RDs K ρ H ds xs)(e:atI ds i=some d):∃x,atI xs i=some x/\RD K ρ H d x:=by
 unfold atI at e ⊢;rw[<- .(h)];cases q:ixN ds.length i with
 | none=>rw[q]at e;cases e
 | some j=>rw[q]at e;exact h.get e
theorem Z0U:BR X.K EX (rIx X.K) fIx:=by
 intro ρ h H x y v u Q r rx ry fin;unfold fIx at fin;split at fin
 ·simp only[RD]at rx ry;subst rx;subst ry;rename_i z i;by_cases hl:z.length<=sizeLine
  ·rw[if_pos hl]at fin;cases hc:atI z.cps.toList i with
   | none=>rw[hc]at fin;exact fin.elim
   | some c=>
    rw[hc]at fin;exact .inr (.inr ⟨_,_,c,rfl,rfl,hl,hc,FE.here fin r .(s)⟩)
  ·rw[if_neg hl]at fin;exact fin.elim
 ·rename_i i _;simp only[RD]at ry;subst ry;have f1:=Fin.bind fin;cases e:seqD x h with
  | bad=>rw[e]at f1;exact f1.elim
  | err z hz=>exact(z3L e).elim
  | ok ys h1=>
   obtain⟨rfl,p,xs,rfl,hs,hd⟩:=z2D r rx e;rw[e]at f1;have f2:=f1 ρ H .(c) .(b) r;dsimp only at f2;cases q:atI ys i with
   | none=>rw[q]at f2;exact f2.elim
   | some d=>
    rw[q]at f2;obtain⟨w,h2,h3⟩:=zK0 hd q;rcases hs with hs|hs
    ·exact .inl ⟨p,xs,i,w,rfl,rfl,hs,h2,FE.here f2 r h3⟩
    ·exact .inr (.inl ⟨p,xs,i,w,rfl,rfl,hs,h2,FE.here f2 r h3⟩)
 ·exact fin.elim
theorem j6(ha:SE X EX a ma)(hb:SE X EX b mb)(hs:zd5 b:=by intro _ _;rfl):SE X EX (.Subscript a b pos) (e2 fIx ma mb):=
 z9D (ta:=tE X.K EX ma) (tb:=tE X.K EX mb) (Z0n zR3 ha.h hb.h hs) Z0U
end
section
variable{a b:Expr}{es:List Expr}
def AR(K:K5)(EX:XX)(r:List V->Hp->VK->Prop)(f:List D->M D):Prop:=∀ρ h H ds vs Q,RH K ρ h H->RDs K ρ H ds vs->FE K EX ρ H Q (f ds h)->r vs H Q
def Z8(f:List D->M D)(mr:G->M (List D)):G->M D:=λγ=>do
 let xs <- mr γ
 f xs
theorem z2O{r:List V->Hp->VK->Prop}{f:List D->M D}(h:PE X e (tCB r (tL X.K EX mr)))(hr:AR X.K EX r f):SE X EX e (Z8 f mr):=
 ⟨PE.imp h λσ H Q ⟨ρ,γ,h,rel,fin⟩=>⟨ρ,γ,h,rel,(Fin.bind fin).mono λxs ρ1 h1 H1 p1 e1 r1 f1 vs rvs=>hr ρ1 h1 H1 xs vs Q r1 rvs f1⟩⟩
theorem rds1(h:RDs K ρ H [d] vs):∃v,vs=[v]/\RD K ρ H d v:=by
 simp only[RDs]at h;obtain⟨x,r,rfl,h2,rfl⟩:=h;exact⟨x,rfl,h2⟩
def fLen:List D->M D
 | [.str z]=>if z.length<=sizeLine then pure (.int z.length) else bad
 | [x]=>do
  let xs <- seqD x
  pure (.int xs.length)
 | _=>bad
theorem zR9:AR X.K EX (λxs H Q=>∃x n,xs=[x]/\LenV X.K x H n/\Q (.int n) H) fLen:=by
 intro ρ h H ds vs Q r rd fin;unfold fLen at fin;split at fin
 ·rename_i z;obtain⟨v,rfl,rv⟩:=rds1 rd;simp only[RD]at rv;subst rv;by_cases hl:z.length<=sizeLine
  ·rw[if_pos hl]at fin;exact⟨_,z.length,rfl,⟨hl,rfl⟩,FE.here fin r .(s)⟩
  ·rw[if_neg hl]at fin;exact fin.elim
 ·rename_i x _;obtain⟨v,rfl,rv⟩:=rds1 rd;have f1:=Fin.bind fin;cases e:seqD x h with
  | bad=>rw[e]at f1;exact f1.elim
  | err z hz=>exact(z3L e).elim
  | ok ys h1=>
   obtain⟨rfl,p,xs,rfl,hs,hd⟩:=z2D r rv e;rw[e]at f1;have f2:=f1 ρ H .(c) .(b) r;refine⟨_,ys.length,rfl,?_,FE.here f2 r .(s)⟩;rw[hd.length];rcases hs with hs|hs
   ·exact .inl ⟨xs,hs,rfl⟩
   ·exact .inr ⟨xs,hs,rfl⟩
 ·exact fin.elim
theorem z0D(hg:Gl X "len")(hm:X.mg "len" = none)(ha:SA X EX [a] mr)(he:K0k [a] X.env=[(false,eval a X.env)]:=by rfl):SE X EX (.Call (.Name "len" p) [a] [] pos) (Z8 fLen mr):=
 z2O (z3k zm2 hg hm PySem.boot_len ha.h .(1) .(1) he rfl) zR9
def y3:List D->M D
 | [.tup xs]=>pure (.tup xs)
 | [x]=>do
  let xs <- seqD x
  pure (.tup xs)
 | _=>bad
theorem zm1:AR X.K EX (λxs H Q=>∃p ys,xs=[.ref p]/\((SqL X.K H p ys/\∀l,H l=none->Q (.ref l) (upd H l (.tup ys)))\/(SqT X.K H p ys/\Q (.ref p) H))) y3:=by
 intro ρ h H ds vs Q r rd fin;unfold y3 at fin;split at fin
 ·obtain⟨v,rfl,rv⟩:=rds1 rd;have rv':=rv;simp only[RD]at rv;obtain⟨q,xs,rfl,h1,h2⟩:=rv;exact⟨q,xs,rfl,.inr ⟨h1,FE.here fin r rv'⟩⟩
 ·rename_i x hx;obtain⟨v,rfl,rv⟩:=rds1 rd;have f1:=Fin.bind fin;cases e:seqD x h with
  | bad=>rw[e]at f1;exact f1.elim
  | err z hz=>exact(z3L e).elim
  | ok ys h1=>
   obtain⟨rfl,q,xs,rfl,hs,hd⟩:=z2D r rv e;rw[e]at f1;have f2:=f1 ρ H .(c) .(b) r;refine⟨q,xs,rfl,?_⟩;rcases hs with hs|hs
   ·exact .inl ⟨hs,λl hl=>FE.tup f2 r hd hl⟩
   ·refine .inr ⟨hs,FE.here f2 r ?_⟩;simp only[RD];exact⟨q,xs,rfl,hs,hd⟩
 ·exact fin.elim
theorem J4(hg:Gl X "tuple")(hm:X.mg "tuple" = none)(ha:SA X EX [a] mr)(he:K0k [a] X.env=[(false,eval a X.env)]:=by rfl):SE X EX (.Call (.Name "tuple" p) [a] [] pos) (Z8 y3 mr):=
 z2O (z2n z5A hg hm .(5) ha.h .(1) .(1) he rfl) zm1
def z5Q:List D->M D
 | [x]=>do
  let xs <- seqD x
  newL xs
 | _=>bad
theorem zH3:AR X.K EX (λxs H Q=>∃p ys,xs=[.ref p]/\(SqL X.K H p ys\/SqT X.K H p ys)/\∀l,H l=none->Q (.ref l) (upd H l (.lst ys))) z5Q:=by
 intro ρ h H ds vs Q r rd fin;unfold z5Q at fin;split at fin
 ·rename_i x;obtain⟨v,rfl,rv⟩:=rds1 rd;have f1:=Fin.bind fin;cases e:seqD x h with
  | bad=>rw[e]at f1;exact f1.elim
  | err z hz=>exact(z3L e).elim
  | ok ys h1=>
   obtain⟨rfl,q,xs,rfl,hs,hd⟩:=z2D r rv e;rw[e]at f1;have f2:=f1 ρ H .(c) .(b) r;unfold newL at f2;dsimp only at f2;split at f2
   ·exact⟨q,xs,rfl,hs,λl hl=>FE.lst f2 r hd hl⟩
   ·exact f2.elim
 ·exact fin.elim
theorem zd3(hg:Gl X "list")(hm:X.mg "list" = none)(ha:SA X EX [a] mr)(he:K0k [a] X.env=[(false,eval a X.env)]:=by rfl):SE X EX (.Call (.Name "list" p) [a] [] pos) (Z8 z5Q mr):=
 z2O (z2n z64 hg hm .(5) ha.h .(1) .(1) he rfl) zH3
def tyD:D->M String
 | .non=>pure "NoneType"
 | .bl _=>pure "bool"
 | .int _=>pure "int"
 | .str _=>pure "str"
 | .tup _=>pure "tuple"
 | .fl _=>pure "list"
 | .ref n=>λh=>match h[n]? with
  | .(l _)=>.ok "list" h
  | some .dct=>.ok "dict" h
  | some (.dK _)=>.ok "dict" h
  | _=>.bad
def subT(t T:String):Bool:=t==T||(t=="bool"&&T=="int")
def tyNames:List String:=["NoneType","bool","int","str","tuple","list","dict"]
def tyAsked:List String:=["bool","int","str","tuple","list","dict"]
theorem zD0:tyNames.all (λt=>tyAsked.all λT=>decide (K69 [] (.type t) (.type T)=some (subT t T)))=true:=by decide +kernel
theorem z8K{t:String}(h1:t∈tyNames)(h2:T∈tyAsked):K69 K (.type t) (.type T)=some (subT t T):=by
 have q:=zD0;rw[K1t]at q;have q2:=q t h1;rw[K1t]at q2;have q3:=q2 T h2;exact of_decide_eq_true q3
def fIsi(T:String):D->M D:=λx=>do
 let t <- tyD x
 pure (.bl (subT t T))
theorem zB6{σ:L2.St}{E:Value->Shared->Prop}{c:Value}{k:Bool}(I:Inv X pins σ H s)(h:SqT X.K H q xs)(e:K69 X.K (.type "tuple") c=some k)(hQ:∀tk,Q (.bool k) { s with toks:=tk }):
 wpAny .(6) X.A (call (.builtin "isinstance") [.ref q,c]) Q E s:=by
 obtain⟨its,_,ht,_⟩:=I.tuple h;obtain⟨o,h1,h2,_⟩:=ht;exact K1s Z1r I.kIn ⟨o,h1,h2⟩ e (λz=>nomatch z) hQ
theorem zL3{σ:L2.St}{E:Value->Shared->Prop}{c:Value}{k:Bool}(I:Inv X pins σ H s)(h:SqL X.K H q xs)(e:K69 X.K (.type "list") c=some k)(hQ:∀tk,Q (.bool k) { s with toks:=tk }):
 wpAny .(6) X.A (call (.builtin "isinstance") [.ref q,c]) Q E s:=by
 obtain⟨its,_,ht,_⟩:=I.list h;obtain⟨o,n,h1,h2,_⟩:=ht;exact K1s K7y I.kIn ⟨o,h1,h2⟩ e (λz=>nomatch z) hQ
def TyV(K:K5)(H:Hp)(v:V)(t:String):Prop:=match v with
 | .non=>t = "NoneType"
 | .bl _=>t = "bool"
 | .int _=>t = "int"
 | .str _=>t = "str"
 | .ref q=>(t = "tuple"/\∃xs,SqT K H q xs)\/(t = "list"/\∃xs,SqL K H q xs)\/(t = "dict"/\(H q=some (dctO q)\/∃kvs,H q=some (.dK kvs)))
 | _=>False
theorem zr8(hT:T∈tyAsked):z43 X (.builtin "isinstance") (λxs H Q=>∃x t,xs=[x,.ty T]/\TyV X.K H x t/\Q (.bl (subT t T)) H):=by
 intro pins s σ H xs us Q I r h;obtain⟨x,t,rfl,ty,q⟩:=h;obtain⟨u,w',rfl,rx,rt⟩:=vals2 r;cases rt;have fin:∀tk,EP X pins σ Q (.bool (subT t T)) { s with toks:=tk }:=λtk=>⟨.bl _,H,I.tok tk,rfl,q⟩;have tb:∀{z:V} {t':Value},z=x->TyOf X.K H z t'->t'=.type t->t∈tyNames->wpAny .(6) X.A (call (.builtin "isinstance") [u,.type T]) (EP X pins σ Q) X.xe s:=λ{z t'} e1 ty' e2 hn=>by
  subst e1;subst e2;exact z9B I rx ty' (z8K hn hT) fin
 cases x with
 | non=>exact tb rfl .non (by rw[show t = "NoneType" from ty]) (by rw[show t = "NoneType" from ty];decide)
 | bl y=>exact tb rfl (.bl y) (by rw[show t = "bool" from ty]) (by rw[show t = "bool" from ty];decide)
 | int y=>exact tb rfl (.int y) (by rw[show t = "int" from ty]) (by rw[show t = "int" from ty];decide)
 | str y=>exact tb rfl (.str y) (by rw[show t = "str" from ty]) (by rw[show t = "str" from ty];decide)
 | ref y=>
  cases rx;rcases(show (t = "tuple"/\∃xs,SqT X.K H y xs)\/(t = "list"/\∃xs,SqL X.K H y xs)\/(t = "dict"/\(H y=some (dctO y)\/∃kvs,H y=some (.dK kvs))) from ty) with ⟨rfl,xs,hs⟩|⟨rfl,xs,hs⟩|⟨rfl,hs|⟨kvs,hs⟩⟩
  ·exact zB6 I hs (z8K .(1) hT) fin
  ·exact zL3 I hs (z8K .(1) hT) fin
  ·exact K1s K7z I.kIn (I.hok y _ hs).1 (z8K .(1) hT) (λz=>nomatch z) fin
  ·exact tb rfl (.dK hs) rfl .(1)
 | byt y=>exact(show False from ty).elim
 | flt y=>exact(show False from ty).elim
 | ty y=>exact(show False from ty).elim
theorem zE2{x:D}{t:String}(r:RH K ρ h H)(rx:RD K ρ H x v)(e:tyD x h=.ok t h1):h1=h/\TyV K H v t:=by
 cases x with
 | non=>cases e;simp only[RD]at rx;subst rx;exact⟨rfl,rfl⟩
 | bl y=>cases e;simp only[RD]at rx;subst rx;exact⟨rfl,rfl⟩
 | int y=>cases e;simp only[RD]at rx;subst rx;exact⟨rfl,rfl⟩
 | str y=>cases e;simp only[RD]at rx;subst rx;exact⟨rfl,rfl⟩
 | tup y=>cases e;simp only[RD]at rx;obtain⟨q,xs,rfl,h2,_⟩:=rx;exact⟨rfl,.inl ⟨rfl,xs,h2⟩⟩
 | fl y=>cases e;simp only[RD]at rx;obtain⟨q,xs,rfl,h2,_⟩:=rx;exact⟨rfl,.inr (.inl ⟨rfl,xs,h2.sq⟩)⟩
 | ref n=>
  simp only[RD]at rx;obtain⟨q,rfl,h2⟩:=rx;unfold tyD at e;dsimp only at e;cases q1:h[n]? with
  | none=>rw[q1]at e;cases e
  | some ob=>
   rw[q1]at e;cases ob with
   | set ks=>cases e
   | dK kvs=>
    cases e;obtain⟨a1,n1,vs,o1,d1⟩:=r.at q1;rw[h2]at n1;cases n1;exact⟨rfl,.inr (.inr ⟨rfl,.inr ⟨_,o1⟩⟩)⟩
   | dF kvs=>cases e
   | exc c=>cases e
   | ins _ _=>cases e
   | lst ds=>
    cases e;obtain⟨a1,n1,vs,o1,d1⟩:=r.at q1;rw[h2]at n1;cases n1;exact⟨rfl,.inr (.inl ⟨rfl,vs,SqL.of o1⟩)⟩
   | dct=>
    cases e;obtain⟨a1,n1,o1⟩:=r.at q1;rw[h2]at n1;cases n1;exact⟨rfl,.inr (.inr ⟨rfl,.inl o1⟩)⟩
theorem zZ6{x:D}{z:Exn}(e:tyD x h=.err z h1):False:=by
 cases x with
 | ref n=>
  unfold tyD at e;dsimp only at e;split at e<;>cases e
 | _=>cases e
def eIsi(T:String)(ma:G->M D):G->M D:=λγ=>do
 let x <- ma γ
 fIsi T x
theorem zi5{T:Str}{T':String}(hg:Gl X "isinstance")(hm:X.mg "isinstance" = none)(hgT:Gl X T)(hmT:X.mg T=none)(hv:K59 T=some (.type T'))(hT:T'∈tyAsked)(ha:SE X EX a ma)(hn:T≠"__name__":=by decide)(hd:(T==("__debug__":Str))=false:=by decide)
 (he:K0k [a,.Name T p2] X.env=[(false,eval a X.env),(false,eval (.Name T p2) X.env)]:=by rfl) (he2:K0k [.Name T p2] X.env=[(false,eval (.Name T p2) X.env)]:=by rfl):SE X EX (.Call (.Name "isinstance" p) [a,.Name T p2] [] pos) (eIsi T' ma):=by
 constructor;have hA:PA X [a,.Name T p2] (zg3 (tE X.K EX ma) (zg3 (tC (.ty T')) tNil)):=z0N ha.h (z0N (zJ5 hgT hmT hv rfl hn hd) z2l he2) (by rw[he,he2]);refine PE.imp (z3k (zr8 hT) hg hm .(5) hA .(1) .(1) (by rw[he,he2]) (by rw[he2];rfl)) λσ H Q ⟨ρ,γ,h,rel,fin⟩=>⟨ρ,γ,h,rel,(Fin.bind fin).mono λx ρ1 h1 H1 p1 e1 r1 f1 v rv=>?_⟩;have f2:=Fin.bind f1;cases e:tyD x h1 with
 | bad=>rw[e]at f2;exact f2.elim
 | err z hz=>exact(zZ6 e).elim
 | ok t h2=>
  obtain⟨rfl,ty⟩:=zE2 r1 rv e;rw[e]at f2;have f3:=f2 ρ1 H1 .(c) .(b) r1;exact⟨v,t,rfl,ty,FE.here f3 r1 .(s)⟩
def blsD:List D->Option (List Bool)
 | []=>some []
 | .bl b::r=>(blsD r).map (b::·)
 | _::_=>none
def fAll(any:Bool):List D->M D
 | [.ref n]=>do
  let xs <- getL n
  match blsD xs with
  | some bs=>pure (.bl (if any then bs.any id else bs.all id))
  | none=>bad
 | _=>bad
theorem zf0{K:K5}{ρ:List Addr}{H:Hp}:∀{xs:List D}{bs:List Bool}{vs:List V},blsD xs=some bs->RDs K ρ H xs vs->vs=bs.map V.bl
 | [],bs,vs,e,r=>by simp only[RDs]at r;cases e;subst r;rfl
 | x::xs,bs,vs,e,r=>by
  simp only[RDs]at r;obtain⟨v,r2,rfl,h1,h2⟩:=r;cases x<;>first|(simp only[blsD]at e;cases e;done)|skip
  rename_i b;simp only[blsD]at e;obtain⟨bs',e1,rfl⟩:=K11.mp e;simp only[RD]at h1;subst h1;rw[zf0 e1 h2];rfl
theorem z8W:∀{bs:List Bool}{us:List Value},Vals (bs.map V.bl) us->us=bs.map K79
 | [],us,h=>by cases h;rfl
 | b::bs,us,h=>by
  cases h with
  | cons h1 h2=>cases h1;rw[z8W h2];rfl
theorem range_all{bs:List Bool}:((K0b bs.length).all λi=>bs.getD i false)=bs.all id:=by
 rw[K0n,K1t,K1t];constructor
 ·intro h x hx;obtain⟨i,hi,rfl⟩:=K1o hx;have:=h i (K13.mpr hi);simpa [K9r,hi] using this
 ·intro h i hi;have hi':=K13.mp hi;have:=h bs[i] (K4h hi');simpa [K9r,hi'] using this
theorem range_any{bs:List Bool}:((K0b bs.length).any λi=>bs.getD i false)=bs.any id:=by
 rw[K0n,K5c,K5c];constructor
 ·rintro⟨i,hi,h⟩;have hi':=K13.mp hi;refine⟨bs[i],K4h hi',?_⟩;simpa [K9r,hi'] using h
 ·rintro⟨x,hx,h⟩;obtain⟨i,hi,rfl⟩:=K1o hx;exact⟨i,K13.mpr hi,by simpa [K9r,hi] using h⟩
theorem z70(any:Bool)(hc:X.calm=true):z43 X (.builtin (if any then "any" else "all")) (λxs H Q=>∃(q:Addr) (bs:List Bool),xs=[.ref q]/\SqL X.K H q (bs.map V.bl)/\Q (.bl (if any then bs.any id else bs.all id)) H):=by
 intro pins s σ H xs us Q I r h;obtain⟨q,bs,rfl,hq,hQ⟩:=h;obtain⟨u,rfl,ru⟩:=vals1 r;cases ru;obtain⟨its,rv,pl,hz⟩:=I.list hq;have ei:=z8W rv;have ne:q≠s.heap.objs.size:=K0x (by obtain⟨o,n,e,_⟩:=pl;exact K0f e);have pl':=pl.isList;have hwalk:=Walks.list (prog:=X.prog) (w:=X.w) (A:=X.A.in1) (show X.A.in1.handled=none from I.ok.hd hc) .(3) q ne its.toArray;have len:its.toArray.size=bs.length:=by rw[ei];simp
 have st0:(s.heap.push { cls:=.type "list_iterator",data:=.fields #[.ref q,.int 0 0] }).IsListIter .(3) q 0/\(s.heap.push { cls:=.type "list_iterator",data:=.fields #[.ref q,.int 0 0] }).IsList q its.toArray:=
  ⟨⟨_,K0j _ rfl,rfl,rfl⟩,pl'.at λo e=>K9 _ e⟩
 have tr:TruthOf X.prog X.w X.A.in1 (λi v=>its.toArray[i]?=some v) λi=>bs.getD i false:=λi v s' Q' E' hv hq'=>by
  have hv':its[i]?=some v:=by simpa using hv
  rw[ei,K0a]at hv';cases eb:bs[i]? with
  | none=>rw[eb]at hv';cases hv'
  | some b=>
   rw[eb]at hv';cases hv';have:bs.getD i false=b:=by simp[K9r,eb]
   dsimp only at hq';rw[this]at hq';exact K3h hq'
 have fin:∀k,k=(if any then bs.any id else bs.all id)->∀h' tk,(∀b o,b∉[.(3)]->(s.heap.push { cls:=.type "list_iterator",data:=.fields #[.ref q,.int 0 0] }).get? b=some o->h'.get? b=some o) ->
  EP X pins σ Q (.bool k) { s with heap:=h',toks:=tk }:=λk ek h' tk hk=>by
  subst ek;refine⟨.bl _,H,I.kept λb o e=>hk b o ?_ (K9 _ e),rfl,hQ⟩;intro z;have:b=s.heap.objs.size:=by simpa using z
  exact absurd (K0f e) (by rw[this];exact K2x _)
 cases any with
 | false=>
  refine call_all_walk (K4x pl' ⟨_,_,_,_,_,_,_,rfl,hwalk,st0,tr,λh' tk hk=>?_⟩);exact fin _ (by rw[len];exact range_all) h' tk hk
 | true=>
  refine call_any_walk (K4x pl' ⟨_,_,_,_,_,_,_,rfl,hwalk,st0,tr,λh' tk hk=>?_⟩);exact fin _ (by rw[len];exact range_any) h' tk hk
theorem zN4{any:Bool}:AR X.K EX (λxs H Q=>∃(q:Addr) (bs:List Bool),xs=[.ref q]/\SqL X.K H q (bs.map V.bl)/\Q (.bl (if any then bs.any id else bs.all id)) H) (fAll any):=by
 intro ρ h H ds vs Q r rd fin;unfold fAll at fin;split at fin
 ·rename_i n;obtain⟨v,rfl,rv⟩:=rds1 rd;have f1:=Fin.bind fin;cases e:getL n h with
  | bad=>rw[e]at f1;exact f1.elim
  | err z hz=>exact(z14 e).elim
  | ok xs h1=>
   obtain⟨rfl,q1⟩:=z12 e;rw[e]at f1;have f2:=f1 ρ H .(c) .(b) r;dsimp only at f2;cases eb:blsD xs with
   | none=>rw[eb]at f2;exact f2.elim
   | some bs=>
    rw[eb]at f2;simp only[RD]at rv;obtain⟨q,rfl,h2⟩:=rv;obtain⟨a1,n1,vs,o1,d1⟩:=r.at q1;rw[h2]at n1;cases n1;have ev:=zf0 eb d1;subst ev;exact⟨q,bs,rfl,SqL.of o1,FE.here f2 r .(s)⟩
 ·exact fin.elim
theorem zU6(hc:X.calm=true)(hg:Gl X "any")(hm:X.mg "any" = none)(ha:SA X EX [a] mr)(he:K0k [a] X.env=[(false,eval a X.env)]:=by rfl):SE X EX (.Call (.Name "any" p) [a] [] pos) (Z8 (fAll true) mr):=
 z2O (z3k (z70 true hc) hg hm .(5) ha.h .(1) .(1) he rfl) zN4
end
abbrev EX0:XX:=λ_ _ _ _=>False
def spB(K:K5)(mf:List D->M D)(n:Nat):Sp:=λvs H Q _=>vs.length=n/\∃ρ ds h,RH K ρ h H/\RDs K ρ H ds vs/\FE K EX0 ρ H Q (mf ds h)
structure Fn(P:K1i)(w:World)(K:K5)(mg:Str->Option Value)(base:Heap)(k:Nat)(x:Str)(n:Nat)(mf:List D->M D):Prop where
 ex:∃f fd ps,FnOk P w K mg base CX0 k f fd ps (spB K mf n)/\Binds K fd ps []/\K2o K (.ref f)=true/\mg x=.(r f)
def eFn(n:Nat)(mf:List D->M D)(mr:G->M (List D)):G->M D:=λγ=>do
 let xs <- mr γ
 if xs.length=n then mf xs else bad
section
variable{a b:Expr}{es:List Expr}{k:Nat}
theorem Z5(F:Fn X.prog X.w X.K X.mg X.base k x n mf)(hr:Room k X.A)(hg:Gl X x)(ha:SA X EX0 (a::es) mr)(hdb:(x==("__debug__":Str))=false:=by decide)
 (he:K0k (a::es) X.env=(false,eval a X.env)::K0k es X.env:=by rfl) (hpl:(backTo pos (K0k es X.env)).any (·.1)=false:=by rfl):SE X EX0 (.Call (.Name x p) (a::es) [] pos) (eFn n mf mr):=by
 constructor;obtain⟨f,fd,ps,h1,h2,h3,h4⟩:=F.ex;refine PE.imp (zE1 h1 hr hg h4 h3 h2 .nil zS1 ha.h hdb he hpl) λσ H Q ⟨ρ,γ,h,rel,fin⟩=>⟨ρ,γ,h,rel,(Fin.bind fin).mono λxs ρ1 h1 H1 p1 e1 r1 f1 vs rvs=>?_⟩;show spB X.K mf n (vs++[]) H1 Q E0;rw[K17];by_cases hl:xs.length=n
 ·rw[if_pos hl]at f1;exact⟨by rw[<- rvs.length];exact hl,ρ1,xs,h1,r1,rvs,f1⟩
 ·rw[if_neg hl]at f1;exact(show False from f1).elim
end
def z1b(n:Nat)(ds:List D):G:=ds.map some++K0t (n - ds.length) none
def runF(n:Nat)(mb:G->M Out)(ds:List D):M D:=do
 let o <- mb (z1b n ds)
 match o with
 | .nx _=>pure .non
 | .rt d=>pure d
 | _=>bad
theorem z4n(h:RDs K ρ H ds vs):RG K ρ H (z1b N.length ds) (L2.start N vs):=by
 have hl:=.(h);refine⟨by unfold z1b L2.start;simp[hl],λi d e=>?_⟩;unfold z1b at e;unfold L2.start;rw[K43]at e ⊢;rw[K0c]at e ⊢;rw[<- hl];split at e
 ·rename_i hi;rw[if_pos hi];rw[K0a]at e ⊢;cases q:ds[i]? with
  | none=>rw[q]at e;cases e
  | some d'=>
   rw[q]at e;cases e;obtain⟨v,h1,h2⟩:=h.get q;exact⟨v,by rw[h1];rfl,h2⟩
 ·rw[K8o]at e;split at e<;>cases e
section
variable{t:Option Expr}{l:Nat}{tg:List Expr}
theorem zh6{a p}:K2n (.List a p) t l env=pure false:=rfl
theorem z8j{a b p}:K2n (.Tuple a b p) t l env=pure false:=rfl
theorem z4u{c k p}:K2n (.Constant c k p) t l env=pure false:=rfl
theorem z9Q{c p}:K2n (.Name c p) t l env=pure false:=rfl
theorem zi8{a b c p}:K2n (.Call a b c p) t l env=pure false:=rfl
theorem z7R{a b c p}:K2n (.BinOp a b c p) t l env=pure false:=rfl
theorem z50{a b c p}:K2n (.Compare a b c p) t l env=pure false:=rfl
theorem z3Q{a b p}:K2n (.Subscript a b p) t l env=pure false:=rfl
theorem z58{a b p}:K2n (.UnaryOp a b p) t l env=pure false:=rfl
theorem z5V{a b p}:K2n (.BoolOp a b p) t l env=pure false:=rfl
theorem z8I{a b c p}:K2n (.IfExp a b c p) t l env=pure false:=rfl
end
section
variable{a b:Expr}{ms mt:G->M Out}
def bNil:G->M Out:=λγ=>pure (.nx γ)
def z9(ms mt:G->M Out):G->M Out:=λγ=>do
 let o <- ms γ
 match o with
 | .nx γ'=>mt γ'
 | o=>pure o
theorem Z3:SB X EX [] bNil:=⟨PSs.imp zz7 λσ H D ⟨ρ,γ,h,rel,fin⟩=>fin ρ H .(c) .(b) rel.h σ rel.g⟩
theorem z8(h1:S1 X EX st ms)(h2:SB X EX sts mt):SB X EX (st::sts) (z9 ms mt):=
 ⟨PSs.imp (zl2 h1.h h2.h) λσ H D ⟨ρ,γ,h,rel,fin⟩=>⟨ρ,γ,h,rel,(Fin.bind fin).mono λo ρ1 h1 H1 p1 e1 r1 f1=>by
  cases o with
  | nx γ'=>exact λσ' rg=>⟨ρ1,γ',h1,⟨rg,r1⟩,f1⟩
  | rt d=>exact f1 ρ1 H1 .(c) .(b) r1
  | bk γ'=>exact f1 ρ1 H1 .(c) .(b) r1
  | ct γ'=>exact f1 ρ1 H1 .(c) .(b) r1⟩⟩
def sRet(ma:G->M D):G->M Out:=λγ=>do
 let d <- ma γ
 pure (.rt d)
theorem J5(ha:SE X EX a ma):S1 X EX (.Return (some a) pos) (sRet ma):=
 ⟨PS.imp (zU8 ha.h) λσ H D ⟨ρ,γ,h,rel,fin⟩=>⟨ρ,γ,h,rel,(Fin.bind fin).mono λd ρ1 h1 H1 p1 e1 r1 f1 v rv=>f1 ρ1 H1 .(c) .(b) r1 v rv⟩⟩
def z04(ma:G->M D):G->M Out:=λγ=>do
 let _ <- ma γ
 pure (.nx γ)
theorem z0l(ha:SE X EX a ma)(hs:K2n a none pos.line X.env=pure false:=by first|exact zh6|exact z8j|exact z4u|exact z9Q|exact zi8|exact z7R|exact z50|exact z3Q|exact z58|exact z5V|exact z8I|rfl):S1 X EX (.Expr a pos) (z04 ma):=
 ⟨PS.imp (zL6 ha.h hs) λσ H D ⟨ρ,γ,h,rel,fin⟩=>⟨ρ,γ,h,rel,(Fin.bind fin).mono λd ρ1 h1 H1 p1 e1 r1 f1 v rv=>f1 ρ1 H1 .(c) .(b) r1 σ (rel.g.mono p1 e1)⟩⟩
def sIf(k:G->M Bool)(ms mt:G->M Out):G->M Out:=λγ=>do
 let t <- k γ
 if t then ms γ else mt γ
theorem s_if(hc:SC X EX c kc)(h1:SB X EX sts ms)(h2:SB X EX sts' mt):S1 X EX (.If c sts sts' pos) (sIf kc ms mt):=
 ⟨PS.imp (Z0T hc.h h1.h h2.h) λσ H D ⟨ρ,γ,h,rel,fin⟩=>⟨ρ,γ,h,rel,(Fin.bind fin).mono λt ρ1 h1 H1 p1 e1 r1 f1=>by
  cases t with
  | true=>exact⟨ρ1,γ,h1,⟨rel.g.mono p1 e1,r1⟩,f1⟩
  | false=>exact⟨ρ1,γ,h1,⟨rel.g.mono p1 e1,r1⟩,f1⟩⟩⟩
def tG(K:K5)(EX:XX)(m:D->G->M G):TG:=λv σ H Q=>∃ρ γ h d,Rel K ρ γ h σ H/\RD K ρ H d v/\Fin K EX ρ H (λγ' ρ' _ H'=>∀σ',RG K ρ' H' γ' σ'->Q σ' H') (m d γ h)
def tGs(K:K5)(EX:XX)(m:List D->G->M G):TGs:=λvs σ H Q=>∃ρ γ h ds,Rel K ρ γ h σ H/\RDs K ρ H ds vs/\Fin K EX ρ H (λγ' ρ' _ H'=>∀σ',RG K ρ' H' γ' σ'->Q σ' H') (m ds γ h)
structure SG(X:Cx)(EX:XX)(tg:Expr)(m:D->G->M G):Prop where
 h:PG X tg (tG X.K EX m)
structure SGs(X:Cx)(EX:XX)(tg:List Expr)(m:List D->G->M G):Prop where
 h:PGs X tg (tGs X.K EX m)
theorem PG.imp{t t':TG}(h:PG X e t)(f:∀v σ H Q,t' v σ H Q->t v σ H Q):PG X e t':=λpins s σ H v u Q I r z=>h pins s σ H v u Q I r (f v σ H Q z)
theorem PGs.imp{e:List Expr}{t t':TGs}(h:PGs X e t)(f:∀v σ H Q,t' v σ H Q->t v σ H Q):PGs X e t':=λpins s σ H v u Q I r z=>h pins s σ H v u Q I r (f v σ H Q z)
def tGk(K:K5)(EX:XX)(own:List Nat)(m:D->G->M G):TG:=λv σ H Q=>∃ρ γ h d,Rel K ρ γ h σ H/\RD K ρ H d v/\Fin K EX ρ H (λγ' ρ' _ H'=>∀σ',RG K ρ' H' γ' σ'->(∀j:Nat,j∉own->σ'[j]?=σ[j]?)->Q σ' H') (m d γ h)
def tGks(K:K5)(EX:XX)(own:List Nat)(m:List D->G->M G):TGs:=λvs σ H Q=>∃ρ γ h ds,Rel K ρ γ h σ H/\RDs K ρ H ds vs/\Fin K EX ρ H (λγ' ρ' _ H'=>∀σ',RG K ρ' H' γ' σ'->(∀j:Nat,j∉own->σ'[j]?=σ[j]?)->Q σ' H') (m ds γ h)
structure SGk(X:Cx)(EX:XX)(tg:Expr)(own:List Nat)(m:D->G->M G):Prop where
 h:PG X tg (tGk X.K EX own m)
structure SGks(X:Cx)(EX:XX)(tg:List Expr)(own:List Nat)(m:List D->G->M G):Prop where
 h:PGs X tg (tGks X.K EX own m)
def gN(i:Nat):D->G->M G:=λd γ=>pure (γ.set i (some d))
theorem y4(i:Nat)(hN:X.N.Nodup)(hi:X.N[i]?=some x:=by rfl)(hx:Loc X.env.scope x:=by first|exact Or.inl rfl|exact Or.inr rfl)(hf:X.fn x=true\/X.env.scope.names.lookup x=some .local:=by first|exact .inl rfl|exact .inr rfl|assumption):SG X EX (.Name x pos) (gN i):=
 ⟨PG.imp (z7C hN hi hx hf) λv σ H Q ⟨ρ,γ,h,d,rel,rd,fin⟩=>fin ρ H .(c) .(b) rel.h _ (rel.g.set i rd)⟩
theorem j8(i:Nat)(hN:X.N.Nodup)(hi:X.N[i]?=some x:=by rfl)(hx:Loc X.env.scope x:=by first|exact Or.inl rfl|exact Or.inr rfl)(hf:X.fn x=true\/X.env.scope.names.lookup x=some .local:=by first|exact .inl rfl|exact .inr rfl|assumption):SGk X EX (.Name x pos) [i] (gN i):=
 ⟨PG.imp (z7C hN hi hx hf) λv σ H Q ⟨ρ,γ,h,d,rel,rd,fin⟩=>fin ρ H .(c) .(b) rel.h _ (rel.g.set i rd) λj hj=>K22 (λz=>hj (by simp[z]))⟩
def z3x:List D->G->M G:=λds γ=>match ds with
 | []=>pure γ
 | _=>bad
def z0y(m:D->G->M G)(ms:List D->G->M G):List D->G->M G:=λds γ=>match ds with
 | []=>bad
 | d::r=>do
  let γ1 <- m d γ
  ms r γ1
theorem z3A:SGs X EX [] z3x:=⟨PGs.imp z9Y λv σ H Q ⟨ρ,γ,h,ds,rel,rd,fin⟩=>by
 cases ds with
 | nil=>simp only[RDs]at rd;exact⟨rd,fin ρ H .(c) .(b) rel.h σ rel.g⟩
 | cons d r=>exact(show False from fin).elim⟩
theorem z0t{es:List Expr}{m:D->G->M G}{mr:List D->G->M G}(h1:SG X EX e m)(h2:SGs X EX es mr)(hs:(K2c (e::es) X.env).map (·.2)=assign e X.env::(K2c es X.env).map (·.2):=by rfl):SGs X EX (e::es) (z0y m mr):=
 ⟨PGs.imp (z8A h1.h h2.h hs) λvs σ H Q ⟨ρ,γ,h,ds,rel,rd,fin⟩=>by
  cases ds with
  | nil=>exact(show False from fin).elim
  | cons d r=>
   simp only[RDs]at rd;obtain⟨v,vr,rfl,h3,h4⟩:=rd;have fin':Fin X.K EX ρ H (λγ' ρ' _ H'=>∀σ',RG X.K ρ' H' γ' σ'->Q σ' H') ((m d γ >>= λγ1=>mr r γ1) h):=fin;exact⟨v,vr,rfl,ρ,γ,h,d,rel,h3,(Fin.bind fin').mono λγ1 ρ1 h1 H1 p1 e1 r1 f1 σ1 g1=>⟨ρ1,γ1,h1,r,⟨g1,r1⟩,h4.mono p1 e1,f1⟩⟩⟩
theorem zs0:SGks X EX [] [] z3x:=⟨PGs.imp z9Y λv σ H Q ⟨ρ,γ,h,ds,rel,rd,fin⟩=>by
 cases ds with
 | nil=>simp only[RDs]at rd;exact⟨rd,fin ρ H .(c) .(b) rel.h σ rel.g λ_ _=>rfl⟩
 | cons d r=>exact(show False from fin).elim⟩
theorem z6B{es:List Expr}{o1 o2:List Nat}{m:D->G->M G}{mr:List D->G->M G}(h1:SGk X EX e o1 m)(h2:SGks X EX es o2 mr)(hs:(K2c (e::es) X.env).map (·.2)=assign e X.env::(K2c es X.env).map (·.2):=by rfl):SGks X EX (e::es) (o1++o2) (z0y m mr):=
 ⟨PGs.imp (z8A h1.h h2.h hs) λvs σ H Q ⟨ρ,γ,h,ds,rel,rd,fin⟩=>by
  cases ds with
  | nil=>exact(show False from fin).elim
  | cons d r=>
   simp only[RDs]at rd;obtain⟨v,vr,rfl,h3,h4⟩:=rd;have fin':Fin X.K EX ρ H (λγ' ρ' _ H'=>∀σ',RG X.K ρ' H' γ' σ'->(∀j:Nat,j∉o1++o2->σ'[j]?=σ[j]?)->Q σ' H') ((m d γ >>= λγ1=>mr r γ1) h):=fin;refine⟨v,vr,rfl,ρ,γ,h,d,rel,h3,(Fin.bind fin').mono λγ1 ρ1 h1 H1 p1 e1 r1 f1 σ1 g1 k1=>⟨ρ1,γ1,h1,r,⟨g1,r1⟩,h4.mono p1 e1,f1.mono λγ2 ρ2 h2 H2 p2 e2 r2 f2 σ2 g2 k2=>f2 σ2 g2 λj hj=>?_⟩⟩;rw[K00,not_or]at hj;rw[k2 j hj.2,k1 j hj.1]⟩
def gT(n:Nat)(m:List D->G->M G):D->G->M G:=λd γ=>match d with
 | .tup xs=>if xs.length=n then m xs γ else bad
 | _=>bad
theorem z6P{es:List Expr}{k:Nat}(hc:X.calm=true)(h:SGs X EX es m)(hn:(K2c es X.env).length=n:=by rfl)(hst:(K2c es X.env).findIdx? (·.1)=none:=by rfl):SG X EX (.Tuple es k pos) (gT n m):=
 ⟨PG.imp (zy1 hc h.h hn hst) λv σ H Q ⟨ρ,γ,h,d,rel,rd,fin⟩=>by
  cases d<;>first|exact(show False from fin).elim|skip
  rename_i xs;simp only[RD]at rd;obtain⟨q,vs,rfl,h1,h2⟩:=rd;have fin':Fin X.K EX ρ H (λγ' ρ' _ H'=>∀σ',RG X.K ρ' H' γ' σ'->Q σ' H') ((if xs.length=n then m xs γ else bad) h):=fin;by_cases hl:xs.length=n
  ·rw[if_pos hl]at fin';exact⟨q,vs,rfl,h1,by rw[<- h2.length];exact hl,ρ,γ,h,xs,rel,h2,fin'⟩
  ·rw[if_neg hl]at fin';exact(show False from fin').elim⟩
theorem zG6{es:List Expr}{k:Nat}(hc:X.calm=true)(h:SGks X EX es own m)(hn:(K2c es X.env).length=n:=by rfl)(hst:(K2c es X.env).findIdx? (·.1)=none:=by rfl):SGk X EX (.Tuple es k pos) own (gT n m):=
 ⟨PG.imp (zy1 hc h.h hn hst) λv σ H Q ⟨ρ,γ,h,d,rel,rd,fin⟩=>by
  cases d<;>first|exact(show False from fin).elim|skip
  rename_i xs;simp only[RD]at rd;obtain⟨q,vs,rfl,h1,h2⟩:=rd;have fin':Fin X.K EX ρ H (λγ' ρ' _ H'=>∀σ',RG X.K ρ' H' γ' σ'->(∀j:Nat,j∉own->σ'[j]?=σ[j]?)->Q σ' H') ((if xs.length=n then m xs γ else bad) h):=fin;by_cases hl:xs.length=n
  ·rw[if_pos hl]at fin';exact⟨q,vs,rfl,h1,by rw[<- h2.length];exact hl,ρ,γ,h,xs,rel,h2,fin'⟩
  ·rw[if_neg hl]at fin';exact(show False from fin').elim⟩
def fSet:D->D->D->M Unit:=λo i v=>match o,i with
 | .ref n,.int k=>λh=>match h[n]? with
  | .(l xs)=>(match ixN xs.length k with
   | some j=>.ok () (h.set n (.lst (xs.set j v)))
   | none=>.bad)
  | _=>.bad
 | _,_=>bad
def gIx(mo mi:G->M D):D->G->M G:=λv γ=>do
 let o <- mo γ;let i <- mi γ;let _ <- fSet o i v
 pure γ
theorem zs1{o i:Expr}{mi:G->M D}(ho:SE X EX o mo)(hi:SE X EX i mi)
 (ha:∀v,assign (.Subscript o i pos) X.env v=(do
  let ov <- K3t [v] (eval o X.env);let iv <- K3t [v,ov] (eval i X.env)
  K5a pos
  K3t [v,ov,iv] (Z38 ov iv v)
  release [v,ov,iv] []):=by intro _;rfl):SG X EX (.Subscript o i pos) (gIx mo mi):=
 ⟨PG.imp (zv9 ho.h hi.h set_list ha) λv σ H Q ⟨ρ,γ,h,d,rel,rd,fin⟩=>⟨ρ,γ,h,rel,(Fin.bind fin).mono λod ρ1 h1 H1 p1 e1 r1 f1 ov ro=>⟨ρ1,γ,h1,⟨rel.g.mono p1 e1,r1⟩,(Fin.bind f1).mono λid ρ2 h2 H2 p2 e2 r2 f2 iv ri=>by
  have f3:=Fin.bind f2;cases od<;>first|exact(show False from f3).elim|skip
  rename_i n;cases id<;>first|exact(show False from f3).elim|skip
  rename_i k;simp only[RD]at ro ri;obtain⟨q,rfl,hq⟩:=ro;subst ri;have hq2:=p2 n q hq;unfold fSet at f3;dsimp only at f3;cases e4:h2[n]? with
  | none=>rw[e4]at f3;exact(show False from f3).elim
  | some ob=>
   cases ob with
   | set ks=>rw[e4]at f3;exact(show False from f3).elim
   | dct=>rw[e4]at f3;exact(show False from f3).elim
   | dK kvs=>rw[e4]at f3;exact(show False from f3).elim
   | dF kvs=>rw[e4]at f3;exact(show False from f3).elim
   | exc c=>rw[e4]at f3;exact(show False from f3).elim
   | ins _ _=>rw[e4]at f3;exact(show False from f3).elim
   | lst xs=>
    rw[e4]at f3;dsimp only at f3;cases e5:ixN xs.length k with
    | none=>rw[e5]at f3;exact(show False from f3).elim
    | some j=>
     rw[e5]at f3;obtain⟨a1,n1,vs,o1,d1⟩:=r2.at e4;rw[hq2]at n1;cases n1;have rd2:=(rd.mono p1 e1).mono p2 e2;have dd:=d1.set j rd2;refine⟨q,vs,k,j,rfl,rfl,o1,by rw[<- d1.length];exact e5,?_⟩;have ext:Ext X.K H2 (upd H2 q (.lst (vs.set j v))):=Ext.upd (.inr ⟨_,o1,trivial⟩);have f4:=f3 ρ2 _ .(c) ext (r2.set e4 hq2 dd);exact f4 ρ2 _ .(c) .(b) (r2.set e4 hq2 dd) σ (((rel.g.mono p1 e1).mono p2 e2).mono .(c) ext)⟩⟩⟩
def sAsg(ma:G->M D)(g:D->G->M G):G->M Out:=λγ=>do
 let d <- ma γ;let γ1 <- g d γ
 pure (.nx γ1)
theorem z5K(ha:SE X EX a ma)(hg:SG X EX tg g)(hs:swapsWithSole [tg] a pos.line X.env=pure false:=by rfl)(hw:swappedStores [tg] a X.env=pure none:=by rfl)
 (h1:(K2c [tg] X.env).map (·.2)=[assign tg X.env]:=by rfl):S1 X EX (.Assign [tg] a pos) (sAsg ma g):=
 ⟨PS.imp (zU7 ha.h hg.h hs hw h1) λσ H D ⟨ρ,γ,h,rel,fin⟩=>⟨ρ,γ,h,rel,(Fin.bind fin).mono λd ρ1 h1 H1 p1 e1 r1 f1 v rv=>⟨ρ1,γ,h1,d,⟨rel.g.mono p1 e1,r1⟩,rv,(Fin.bind f1).mono λγ1 ρ2 h2 H2 p2 e2 r2 f2 σ2 g2=>
  f2 ρ2 H2 .(c) .(b) r2 σ2 g2⟩⟩⟩
theorem j7(i:Nat)(hN:X.N.Nodup)(ha:SE X EX a ma)(hi:X.N[i]?=some x:=by rfl)(hx:Loc X.env.scope x:=by first|exact Or.inl rfl|exact Or.inr rfl)(hs:K2n a (some (.Name x p)) pos.line X.env=pure false:=by first|exact zh6|exact z8j|exact z4u|exact z9Q|exact zi8|exact z7R|exact z50|exact z3Q|exact z58|exact z5V|exact z8I|rfl)
 (hf:X.fn x=true\/X.env.scope.names.lookup x=some .local:=by first|exact .inl rfl|exact .inr rfl|assumption):S1 X EX (.Assign [.Name x p] a pos) (sAsg ma (gN i)):=
 ⟨PS.imp (zM5 hN hi hx ha.h hs hf) λσ H D ⟨ρ,γ,h,rel,fin⟩=>⟨ρ,γ,h,rel,(Fin.bind fin).mono λd ρ1 h1 H1 p1 e1 r1 f1 v rv=>f1 ρ1 H1 .(c) .(b) r1 _ ((rel.g.mono p1 e1).set i rv)⟩⟩
end
section
variable{a o:Expr}
def updL(n:Nat)(f:List D->Option (D×List D)):M D:=λh=>match h[n]? with
 | .(l xs)=>(match f xs with
  | some (d,ys)=>if ys.length<=sizeLine then .ok d (h.set n (.lst ys)) else .bad
  | none=>.bad)
 | _=>.bad
def z3F:D->M Nat
 | .ref n=>λh=>match h[n]? with
  | .(l _)=>.ok n h
  | _=>.bad
 | _=>bad
def y0(n:Nat)(v:D):M D:=updL n λxs=>some (.non,xs++[v])
def fPop(n:Nat):M D:=updL n λxs=>(xs[xs.length - 1]?).map λd=>(d,xs.dropLast)
def z56(n:Nat)(i:D):M D:=match i with
 | .int k=>updL n λxs=>if -(2 ^ 63)<=k/\k<2 ^ 63 then (match K8j k xs.length with
  | some j=>(xs[j]?).map λd=>(d,xs.eraseIdx j)
  | none=>none) else none
 | _=>bad
def eM1(f:Nat->D->M D)(mo ma:G->M D):G->M D:=λγ=>do
 let o <- mo γ;let n <- z3F o;let v <- ma γ
 f n v
def eM0(f:Nat->M D)(mo:G->M D):G->M D:=λγ=>do
 let o <- mo γ;let n <- z3F o
 f n
theorem z2A{Q:VK}{f:List D->Option (D×List D)}(r:RH K ρ h H)(hq:ρ[n]?=some q)(fin:FE K EX ρ H Q (updL n f h)):
 ∃xs d ys vs,f xs=some (d,ys)/\ys.length<=sizeLine/\H q=.(l vs)/\RDs K ρ H xs vs/\∀v ws,RD K ρ H d v->RDs K ρ H ys ws->Q v (upd H q (.lst ws)):=by
 unfold updL at fin;cases e:h[n]? with
 | none=>rw[e]at fin;exact fin.elim
 | some ob=>
  cases ob with
  | set ks=>rw[e]at fin;exact fin.elim
  | dct=>rw[e]at fin;exact fin.elim
  | dK kvs=>rw[e]at fin;exact fin.elim
  | dF kvs=>rw[e]at fin;exact fin.elim
  | exc c=>rw[e]at fin;exact fin.elim
  | ins _ _=>rw[e]at fin;exact fin.elim
  | lst xs=>
   rw[e]at fin;dsimp only at fin;cases e2:f xs with
   | none=>rw[e2]at fin;exact fin.elim
   | some dy=>
    obtain⟨d,ys⟩:=dy;rw[e2]at fin;dsimp only at fin;split at fin
    ·rename_i hl;obtain⟨a1,n1,vs,o1,d1⟩:=r.at e;rw[hq]at n1;cases n1;refine⟨xs,d,ys,vs,e2,hl,o1,d1,λv ws rv rw'=>?_⟩;have ext:Ext K H (upd H q (.lst ws)):=Ext.upd (.inr ⟨_,o1,trivial⟩);exact fin ρ _ .(c) ext (r.set e hq rw') v (rv.mono .(c) ext)
    ·exact fin.elim
theorem zh7(r:RH K ρ h H)(hq:ρ[n]?=some q)(f:Fin K EX ρ H Z (z3F (.ref n) h)):tyV K "list" (.ref q) H/\Z n ρ h H:=by
 unfold z3F at f;dsimp only at f;cases e:h[n]? with
 | none=>rw[e]at f;exact f.elim
 | some ob=>
  cases ob with
  | set ks=>rw[e]at f;exact f.elim
  | dct=>rw[e]at f;exact f.elim
  | dK kvs=>rw[e]at f;exact f.elim
  | dF kvs=>rw[e]at f;exact f.elim
  | exc c=>rw[e]at f;exact f.elim
  | ins _ _=>rw[e]at f;exact f.elim
  | lst xs=>
   rw[e]at f;obtain⟨a1,n1,vs,o1,d1⟩:=r.at e;rw[hq]at n1;cases n1;exact⟨.inl ⟨rfl,vs,SqL.of o1⟩,f ρ H .(c) .(b) r⟩
theorem zH6{f:Nat->D->M D}(hr:∀ρ h H n q y u Q,RH X.K ρ h H->ρ[n]?=some q->RD X.K ρ H y u->FE X.K EX ρ H Q (f n y h)->r (.ref q) [u] H Q):
 ∀σ H Q,tE X.K EX (eM1 f mo ma) σ H Q->tBM X.K "list" r (tE X.K EX mo) (zg3 (tE X.K EX ma) tNil) σ H Q:=λσ H Q ⟨ρ,γ,h,rel,fin⟩=>⟨ρ,γ,h,rel,(Fin.bind fin).mono λx ρ1 h1 H1 p1 e1 r1 f1 v rv=>by
 have f2:=Fin.bind f1;cases x<;>first|exact(show False from f2).elim|skip
 rename_i n;simp only[RD]at rv;obtain⟨q,rfl,hq⟩:=rv;obtain⟨lt,f3⟩:=zh7 r1 hq f2;exact⟨lt,ρ1,γ,h1,⟨rel.g.mono p1 e1,r1⟩,(Fin.bind f3).mono λy ρ2 h2 H2 p2 e2 r2 f4 u ru=>hr ρ2 h2 H2 n q y u Q r2 (p2 n q hq) ru f4⟩⟩
theorem zZ3{f:Nat->M D}(hr:∀ρ h H n q Q,RH X.K ρ h H->ρ[n]?=some q->FE X.K EX ρ H Q (f n h)->r (.ref q) [] H Q):
 ∀σ H Q,tE X.K EX (eM0 f mo) σ H Q->tBM0 X.K "list" r (tE X.K EX mo) σ H Q:=λσ H Q ⟨ρ,γ,h,rel,fin⟩=>⟨ρ,γ,h,rel,(Fin.bind fin).mono λx ρ1 h1 H1 p1 e1 r1 f1 v rv=>by
 have f2:=Fin.bind f1;cases x<;>first|exact(show False from f2).elim|skip
 rename_i n;simp only[RD]at rv;obtain⟨q,rfl,hq⟩:=rv;obtain⟨lt,f3⟩:=zh7 r1 hq f2;exact⟨lt,hr ρ1 h1 H1 n q Q r1 hq f3⟩⟩
theorem J7(ho:SE X EX o mo)(ha:SE X EX a ma)
 (hbase:K4a o "append" X.env (eval o X.env)=eval o X.env:=by rfl)
 (hfew:((backTo cpos (K0k [a] X.env)).all (λx=>!x.1)&&(K4s cpos (K37 [] X.env)).all (λx=>x.1.isSome)
 &&decide (([a]:List Expr).length+([]:List K5b).length+(if ([]:List K5b).isEmpty then 0 else 1)<30))=true:=by rfl)
 (hline:(apos.endLine==cpos.line)=true:=by rfl) (hs:K0k [a] X.env=[(false,eval a X.env)]:=by rfl) :
 SE X EX (.Call (.Attribute o "append" apos) [a] [] cpos) (eM1 y0 mo ma):=
 ⟨PE.imp (zs2 K3g PySem.F.slot_list_append PySem.F.type_list_append z62 ho.h (z0N ha.h z2l hs) hbase hfew hline hs rfl) (zH6 λρ h H n q y u Q r hq ru fin=>by
  obtain⟨xs,d,ys,vs,g1,g2,g3,g4,g5⟩:=z2A r hq fin;cases g1;have hl:=g4.length;rw[K3,K0v]at g2;exact⟨q,vs,u,rfl,rfl,g3,by omega,g5 _ _ .(s) (g4.append (RDs.cons ru RDs.nil))⟩)⟩
theorem RDs.dropLast{K:K5}{ρ:List Addr}{H:Hp}{ds:List D}{xs:List V}(h:RDs K ρ H ds xs):RDs K ρ H ds.dropLast xs.dropLast:=by
 rw[K9d,K9d,.(h)];exact h.take _
theorem ze5(ho:SE X EX o mo)(hbase:K4a o "pop" X.env (eval o X.env)=eval o X.env:=by rfl)(hline:(apos.endLine==cpos.line)=true:=by rfl):
 SE X EX (.Call (.Attribute o "pop" apos) [] [] cpos) (eM0 fPop mo):=
 ⟨PE.imp (zv8 K3g K9a K99 zP1 ho.h hbase hline) (zZ3 λρ h H n q Q r hq fin=>by
  obtain⟨xs,d,ys,vs,g1,g2,g3,g4,g5⟩:=z2A r hq fin;obtain⟨d',e1,e2⟩:=K11.mp g1;cases e2;obtain⟨v,e3,e4⟩:=g4.get e1;rw[g4.length]at e3;exact⟨q,vs,v,rfl,rfl,g3,e3,g5 _ _ e4 g4.dropLast⟩)⟩
theorem zr9(ho:SE X EX o mo)(ha:SE X EX a ma)
 (hbase:K4a o "pop" X.env (eval o X.env)=eval o X.env:=by rfl)
 (hfew:((backTo cpos (K0k [a] X.env)).all (λx=>!x.1)&&(K4s cpos (K37 [] X.env)).all (λx=>x.1.isSome)
 &&decide (([a]:List Expr).length+([]:List K5b).length+(if ([]:List K5b).isEmpty then 0 else 1)<30))=true:=by rfl)
 (hline:(apos.endLine==cpos.line)=true:=by rfl) (hs:K0k [a] X.env=[(false,eval a X.env)]:=by rfl) :
 SE X EX (.Call (.Attribute o "pop" apos) [a] [] cpos) (eM1 z56 mo ma):=
 ⟨PE.imp (zs2 K3g K9a K99 zm3 ho.h (z0N ha.h z2l hs) hbase hfew hline hs rfl) (zH6 λρ h H n q y u Q r hq ru fin=>by
  cases y<;>first|exact(show False from fin).elim|skip
  rename_i k;simp only[RD]at ru;subst ru;obtain⟨xs,d,ys,vs,g1,g2,g3,g4,g5⟩:=z2A r hq fin;split at g1
  ·rename_i hk;cases e5:K8j k xs.length with
   | none=>rw[e5]at g1;cases g1
   | some j=>
    rw[e5]at g1;obtain⟨d',e1,e2⟩:=K11.mp g1;cases e2;obtain⟨v,e3,e4⟩:=g4.get e1;exact⟨q,vs,k,j,v,rfl,rfl,g3,hk.1,hk.2,by rw[<- g4.length];exact e5,e3,g5 _ _ e4 (g4.eraseIdx j)⟩
  ·cases g1)⟩
end
inductive Src where
 | con (xs:List D)
 | lst (n:Nat) (xs:List D)
 | obj (n:Nat) (o:O) (xs:List D)
variable{mi mi1:G->M Src}{src:Src}{F:Src->Nat->G->List D->M Unit}{F1:Src->G->List D->M Unit}
def Src.items:Src->List D
 | .con xs=>xs
 | .lst _ xs=>xs
 | .obj _ _ xs=>xs
def Src.good:Src->AH->Prop
 | .con _,_=>True
 | .lst n xs,h=>h[n]?=.(l xs)
 | .obj n o _,h=>h[n]?=some o
open Classical in
def Src.chk(s:Src):M Unit:=λh=>if s.good h then .ok () h else .bad
def JOK(K:K5)(src:Src)(ρ:List Addr)(H:Hp)(J:It):Prop:=∀i ρ1 h1 H1,Pre ρ ρ1->Ext K H H1->RH K ρ1 h1 H1->src.good h1 ->
 (∀d,src.items[i]?=some d->J.go i H1/\∀x H2,J.yld i H1 x H2->RD K ρ1 H2 d x/\RH K ρ1 h1 H2/\Ext K H1 H2)/\(src.items.length=i->J.stop i H1)
def tI(K:K5)(EX:XX)(m:G->M Src):TI:=λσ H R=>∃ρ γ h,Rel K ρ γ h σ H/\Fin K EX ρ H (λsrc ρ' _ H'=>∀J,JOK K src ρ' H' J->R J H') (m γ h)
structure SI(X:Cx)(EX:XX)(tg iter:Expr)(m:G->M Src):Prop where
 h:PI X tg iter (tI X.K EX m)
theorem PI.imp{t t':TI}(h:PI X tg e t)(f:∀σ H R,t' σ H R->t σ H R):PI X tg e t':=λpins s σ H R I z=>h pins s σ H R I (f σ H R z)
section
variable{a o:Expr}
def z0p(ma:G->M D):G->M Src:=λγ=>do
 let x <- ma γ
 match x with
 | .fl xs=>pure (.con xs)
 | .ref n=>do
  let xs <- getL n
  pure (.lst n xs)
 | _=>bad
theorem z0C(ha:SE X EX a ma):SI X EX tg a (z0p ma):=
 ⟨PI.imp (zz3 ha.h) λσ H R ⟨ρ,γ,h,rel,fin⟩=>⟨ρ,γ,h,rel,(Fin.bind fin).mono λx ρ1 h1 H1 p1 e1 r1 f1 v rv=>by
  cases x<;>first|exact(show False from f1).elim|skip
  case fl xs=>
   simp only[RD]at rv;obtain⟨q,vs,rfl,h2,h3⟩:=rv;refine⟨q,rfl,⟨vs,h2.sq⟩,f1 ρ1 H1 .(c) .(b) r1 _ λi ρ2 h4 H2 p2 e2 r2 _=>⟨λd hd=>?_,λhi=>?_⟩⟩
   ·have h3':=h3.mono p2 e2;obtain⟨x,g1,g2⟩:=h3'.get hd;refine⟨⟨vs,x,(e2.l _ _ h2).sq,g1⟩,λy H3 ⟨z1,z2⟩=>?_⟩;subst z1;have:=z2 vs (e2.l _ _ h2).sq;rw[g1]at this;cases this;exact⟨g2,r2,Ext.refl _ _⟩
   ·exact⟨vs,(e2.l _ _ h2).sq,by rw[<- h3.length];exact K6b hi⟩
  case ref n=>
   have f2:Fin X.K EX ρ1 H1 (λsrc ρ' _ H'=>∀J,JOK X.K src ρ' H' J->R J H') ((getL n >>= λxs=>(pure (.lst n xs):M Src)) h1):=f1;have f3:=Fin.bind f2;cases e3:getL n h1 with
   | bad=>rw[e3]at f3;exact f3.elim
   | err z hz=>exact(z14 e3).elim
   | ok xs h3=>
    obtain⟨rfl,q1⟩:=z12 e3;rw[e3]at f3;simp only[RD]at rv;obtain⟨q,rfl,hq⟩:=rv;obtain⟨a1,n1,vs,o1,d1⟩:=r1.at q1;rw[hq]at n1;cases n1;have f4:=f3 ρ1 H1 .(c) .(b) r1;refine⟨q,rfl,⟨vs,SqL.of o1⟩,f4 ρ1 H1 .(c) .(b) r1 _ λi ρ2 h4 H2 p2 e2 r2 g=>?_⟩;have g':h4[n]?=.(l xs):=g;obtain⟨a2,n2,vs2,o2,d2⟩:=r2.at g';rw[p2 n q hq]at n2;cases n2;refine⟨λd hd=>?_,λhi=>⟨vs2,SqL.of o2,by rw[<- d2.length];exact K6b hi⟩⟩;obtain⟨x,g1,g2⟩:=d2.get hd;refine⟨⟨vs2,x,SqL.of o2,g1⟩,λy H3 ⟨z1,z2⟩=>?_⟩;subst z1;have:=z2 vs2 (SqL.of o2);rw[g1]at this;cases this;exact⟨g2,r2,Ext.refl _ _⟩⟩⟩
def z0o(ma:G->M D):G->M Src:=λγ=>do
 let x <- ma γ
 match x with
 | .tup xs=>pure (.con xs)
 | _=>bad
theorem z0Z(ha:SE X EX a ma):SI X EX tg a (z0o ma):=
 ⟨PI.imp (zU5 ha.h) λσ H R ⟨ρ,γ,h,rel,fin⟩=>⟨ρ,γ,h,rel,(Fin.bind fin).mono λx ρ1 h1 H1 p1 e1 r1 f1 v rv=>by
  cases x<;>first|exact(show False from f1).elim|skip
  rename_i xs;simp only[RD]at rv;obtain⟨q,vs,rfl,h2,h3⟩:=rv;refine⟨q,rfl,⟨vs,h2⟩,f1 ρ1 H1 .(c) .(b) r1 _ λi ρ2 h4 H2 p2 e2 r2 _=>⟨λd hd=>?_,λhi=>?_⟩⟩
  ·have h3':=h3.mono p2 e2;obtain⟨x,g1,g2⟩:=h3'.get hd;refine⟨⟨vs,x,e2.t _ _ h2,g1⟩,λy H3 ⟨z1,z2⟩=>?_⟩;subst z1;have:=z2 vs (e2.t _ _ h2);rw[g1]at this;cases this;exact⟨g2,r2,Ext.refl _ _⟩
  ·exact⟨vs,e2.t _ _ h2,by rw[<- h3.length];exact K6b hi⟩⟩⟩
def J9(n:Nat):List D:=(K0b n).map λ(i:Nat)=>.int i
def Y4(ma:G->M D):G->M Src:=λγ=>do
 let x <- ma γ
 match x with
 | .int j=>if -(2 ^ 62)<=j/\j<2 ^ 62 then pure (.con (J9 j.toNat)) else bad
 | _=>bad
theorem Y3(hg:Gl X "range")(hm:X.mg "range" = none)(ha:SE X EX a ma)(hs:K0k [a] X.env=[(false,eval a X.env)]:=by rfl):SI X EX tg (.Call (.Name "range" p) [a] [] pos) (Y4 ma):=
 ⟨PI.imp (zc0 hg hm (z0N ha.h z2l hs) hs) λσ H R ⟨ρ,γ,h,rel,fin⟩=>⟨ρ,γ,h,rel,(Fin.bind fin).mono λx ρ1 h1 H1 p1 e1 r1 f1 v rv=>by
  cases x<;>first|exact(show False from f1).elim|skip
  rename_i j;simp only[RD]at rv;subst rv;have f2:Fin X.K EX ρ1 H1 (λsrc ρ' _ H'=>∀J,JOK X.K src ρ' H' J->R J H') ((if -(2 ^ 62)<=j/\j<2 ^ 62 then pure (.con (J9 j.toNat)) else bad:M Src) h1):=f1;by_cases hj:-(2 ^ 62)<=j/\j<2 ^ 62
  ·rw[if_pos hj]at f2;refine⟨j,rfl,hj.1,hj.2,f2 ρ1 H1 .(c) .(b) r1 _ λi ρ2 h4 H2 p2 e2 r2 _=>⟨λd hd=>?_,λhi=>?_⟩⟩
   ·have hd':(J9 j.toNat)[i]?=some d:=hd;unfold J9 at hd';rw[K0a]at hd';have hi:i<j.toNat:=by
     by_cases hi:i<j.toNat
     ·exact hi
     ·rw[K1j (by simpa using hi)]at hd';cases hd'
    rw[K35 hi]at hd';cases hd';refine⟨hi,λy H3 ⟨z1,z2⟩=>?_⟩;subst z1;subst z2;exact⟨by simp[RD],r2,Ext.refl _ _⟩
   ·have hi':(J9 j.toNat).length=i:=hi;unfold J9 at hi';rw[K0c,K1f]at hi';exact K6b hi'
  ·rw[if_neg hj]at f2;exact f2.elim⟩⟩
end
def forR(src:Src)(g:D->G->M G)(body:G->M Out):List D->G->M Out
 | [],γ=>do
  let _ <- src.chk
  pure (.nx γ)
 | d::r,γ=>do
  let _ <- src.chk;let γ1 <- g d γ;let o <- body γ1
  match o with
  | .nx γ2=>forR src g body r γ2
  | .ct γ2=>forR src g body r γ2
  | .bk γ2=>pure (.nx γ2)
  | .rt v=>pure (.rt v)
def sFor(mi:G->M Src)(g:D->G->M G)(body:G->M Out):G->M Out:=λγ=>do
 let src <- mi γ
 forR src g body src.items γ
theorem z7W{P:α->List Addr->AH->Hp->Prop}{f:Unit->M α}(fin:Fin K EX ρ H P ((src.chk >>= f) h))(r:RH K ρ h H):src.good h/\Fin K EX ρ H P (f () h):=by
 have f1:=Fin.bind fin;unfold Src.chk at f1;split at f1
 ·rename_i hg;exact⟨hg,f1 ρ H .(c) .(b) r⟩
 ·exact f1.elim
section
variable{a o:Expr}{mb:G->M Out}
theorem z19(hp:Z2s .(6) X.A X.env X.xe)(hc:X.calm=true)(hi:SI X EX tg e mi)(hg:SG X EX tg g)(hb:SB X EX sts mb)(hs:∀x,K1b e X.env x=pure x:=by intro _;rfl):S1 X EX (.For tg e sts [] pos) (sFor mi g mb):=
 ⟨PS.imp (zM7 hp hc hi.h hg.h hb.h hs) λσ H D ⟨ρ,γ,h,rel,fin⟩=>⟨ρ,γ,h,rel,(Fin.bind fin).mono λsrc ρ0 h0 H0 p0 e0 r0 f0 J hJ=>by
  refine⟨λi m σ H=>m+i=src.items.length/\∃ρ γ h,Pre ρ0 ρ/\Ext X.K H0 H/\Rel X.K ρ γ h σ H/\Fin X.K EX ρ H (λo ρ' _ H'=>OutP X.K D o ρ' H') (forR src g mb (src.items.drop i) γ h),
   ⟨src.items.length,rfl,ρ0,γ,h0,Pre.refl _,Ext.refl _ _,⟨rel.g.mono p0 e0,r0⟩,f0⟩,?_⟩
  rintro i m σ1 H1 ⟨hm,ρ1,γ1,h1,p1,e1,rel1,f1⟩;by_cases hi:i<src.items.length
  ·have hd:src.items.drop i=src.items[i]::src.items.drop (i+1):=K25 hi;rw[hd]at f1;unfold forR at f1;obtain⟨good,f2⟩:=z7W f1 rel1.h;obtain⟨j1,j2⟩:=hJ i ρ1 h1 H1 p1 e1 rel1.h good;obtain⟨go,yld⟩:=j1 src.items[i] (K8 hi);refine .inr ⟨go,λσ' H'=>∃ρ γ h,Pre ρ0 ρ/\Ext X.K H0 H'/\Rel X.K ρ γ h σ' H'/\Fin X.K EX ρ H' (λo ρ' _ H'=>OutP X.K D o ρ' H') (forR src g mb (src.items.drop (i+1)) γ h),λσ' H' z=>⟨m - 1,by omega,by omega,z⟩,λx H2 y=>?_⟩;obtain⟨rd,rh,ext⟩:=yld x H2 y;refine⟨ρ1,γ1,h1,_,⟨rel1.g.mono .(c) ext,rh⟩,rd,(Fin.bind (Fin.up .(c) ext f2)).mono λγ2 ρ3 h3 H3 p3 e3 r3 f3 σ3 g3=>⟨ρ3,γ2,h3,⟨g3,r3⟩,(Fin.bind f3).mono λo ρ4 h4 H4 p4 e4 r4 f4=>?_⟩⟩;have pp:Pre ρ0 ρ4:=(p1.trans p3).trans p4;have ee:Ext X.K H0 H4:=((e1.trans ext).trans e3).trans e4;cases o with
   | nx γ5=>exact λσ5 g5=>⟨ρ4,γ5,h4,pp,ee,⟨g5,r4⟩,f4⟩
   | ct γ5=>exact λσ5 g5=>⟨ρ4,γ5,h4,pp,ee,⟨g5,r4⟩,f4⟩
   | bk γ5=>exact λσ5 g5=>f4 ρ4 H4 .(c) .(b) r4 σ5 g5
   | rt d=>exact λv rv=>f4 ρ4 H4 .(c) .(b) r4 v rv
  ·have hd:src.items.drop i=[]:=K8z .(0);rw[hd]at f1;unfold forR at f1;obtain⟨good,f2⟩:=z7W f1 rel1.h;obtain⟨j1,j2⟩:=hJ i ρ1 h1 H1 p1 e1 rel1.h good;exact .inl ⟨j2 .(0),f2 ρ1 H1 .(c) .(b) rel1.h σ1 rel1.g⟩⟩⟩
def z1C(k:G->M Bool)(body:G->M Out):Nat->G->M Out
 | 0,_=>bad
 | n+1,γ=>do
  let t <- k γ
  if t then do
   let o <- body γ
   match o with
   | .nx γ2=>z1C k body n γ2
   | .ct γ2=>z1C k body n γ2
   | .bk γ2=>pure (.nx γ2)
   | .rt v=>pure (.rt v)
  else pure (.nx γ)
theorem z4z(n:Nat)(hp:Z2s .(6) X.A X.env X.xe)(hc:SC X EX c kc)(hb:SB X EX sts mb):S1 X EX (.While c sts [] pos) (z1C kc mb n):=
 ⟨PS.imp (zm7 hp hc.h hb.h) λσ H D ⟨ρ,γ,h,rel,fin⟩=>by
  refine⟨λm σ H=>∃ρ γ h,Rel X.K ρ γ h σ H/\Fin X.K EX ρ H (λo ρ' _ H'=>OutP X.K D o ρ' H') (z1C kc mb m γ h),⟨n,ρ,γ,h,rel,fin⟩,?_⟩;rintro m σ1 H1 ⟨ρ1,γ1,h1,rel1,f1⟩;cases m with
  | zero=>exact(show False from f1).elim
  | succ m=>
   unfold z1C at f1;refine⟨ρ1,γ1,h1,rel1,(Fin.bind f1).mono λt ρ2 h2 H2 p2 e2 r2 f2=>?_⟩;cases t with
   | false=>exact f2 ρ2 H2 .(c) .(b) r2 σ1 (rel1.g.mono p2 e2)
   | true=>
    rw[if_pos rfl]at f2 ⊢;refine⟨λσ' H'=>∃ρ γ h,Rel X.K ρ γ h σ' H'/\Fin X.K EX ρ H' (λo ρ' _ H'=>OutP X.K D o ρ' H') (z1C kc mb m γ h),λσ' H' z=>⟨m,by omega,z⟩,ρ2,γ1,h2,⟨rel1.g.mono p2 e2,r2⟩,(Fin.bind f2).mono λo ρ4 h4 H4 p4 e4 r4 f4=>?_⟩;cases o with
    | nx γ5=>exact λσ5 g5=>⟨ρ4,γ5,h4,⟨g5,r4⟩,f4⟩
    | ct γ5=>exact λσ5 g5=>⟨ρ4,γ5,h4,⟨g5,r4⟩,f4⟩
    | bk γ5=>exact λσ5 g5=>f4 ρ4 H4 .(c) .(b) r4 σ5 g5
    | rt d=>exact λv rv=>f4 ρ4 H4 .(c) .(b) r4 v rv⟩
end
def capG(cap:List (Option Nat))(γ:G):G:=cap.map λo=>match o with|some j=>(γ[j]?).join|none=>none
theorem zF5{σ:L2.St}(cap:List (Option Nat))(r:RG K ρ H γ σ):RG K ρ H (capG cap γ) (z4K cap σ):=by
 refine⟨by simp[capG,z4K],λi d e=>?_⟩;unfold capG at e;unfold z4K;rw[K0a]at e ⊢;cases q:cap[i]? with
 | none=>rw[q]at e;cases e
 | some o=>
  rw[q]at e;cases o with
  | none=>simp at e
  | some j=>
   have e2:(γ[j]?).join=some d:=by simpa using e
   have e3:γ[j]?=some (some d):=by
    cases q2:γ[j]? with
    | none=>rw[q2]at e2;simp at e2
    | some o2=>rw[q2]at e2;simp at e2;rw[e2]
   obtain⟨v,h1,h2⟩:=r.var j d e3;exact⟨v,by simp[h1],h2⟩
def z3p(src:Src)(g:D->G->M G)(k:G->M Bool)(me:G->M D)(n0:Nat)(γ:G):List D->M Unit
 | []=>do
  let _ <- src.chk
  pure ()
 | d::r=>do
  let _ <- src.chk;let γ1 <- g d γ;let t <- k γ1
  if t then do
   let v <- me γ1;let _ <- y0 n0 v
   z3p src g k me n0 γ r
  else z3p src g k me n0 γ r
def z00(cap:List (Option Nat))(mi:G->M Src)(g:D->G->M G)(k:G->M Bool)(me:G->M D):G->M D:=λγ=>do
 let src <- mi γ;let n0 <- (λh=>.ok .(h) (h++[.lst []]):M Nat);let _ <- z3p src g k me n0 (capG cap γ) src.items
 pure (.ref n0)
structure SCs(X:Cx)(EX:XX)(ifs:List Expr)(m:G->M Bool):Prop where
 h:PTs X ifs (tT X.K EX m)
theorem PTs.imp{e:List Expr}{t:TT}(h:PTs X e t)(f:∀σ H Q,t' σ H Q->t σ H Q):PTs X e t':=λpins s σ H Q I z=>h pins s σ H Q I (f σ H Q z)
section
variable{elt:Expr}{sc:Scope}{k kr:G->M Bool}
theorem z18:SCs X EX [] (λ_=>pure true):=⟨PTs.imp zj3 λσ H Q ⟨ρ,γ,h,rel,fin⟩=>fin ρ H .(c) .(b) rel.h⟩
theorem z0j(h:SC X EX c k):SCs X EX [c] k:=⟨PTs.imp (zt4 h.h zj3) λσ H Q ⟨ρ,γ,h,rel,fin⟩=>⟨ρ,γ,h,rel,fin.mono λt ρ1 h1 H1 p1 e1 r1 f1=>by
 cases t with
 | true=>exact f1
 | false=>exact f1⟩⟩
def HB(X:Cx)(EX:XX)(own:List Nat)(σ0:L2.St)(ρ0:List Addr)(b:G->M Unit->M Unit)(tb:TB):Prop:=
 ∀{σ:L2.St} {γ1:G} {ρ:List Addr} {h:AH} {H:Hp} {P:Unit->List Addr->AH->Hp->Prop} {K:M Unit} {Z:Hp->Prop},Pre ρ0 ρ->(∀j,j∉own->σ[j]?=σ0[j]?)->RG X.K ρ H γ1 σ->RH X.K ρ h H->Fin X.K EX ρ H P (b γ1 K h) ->
  (∀ρ' h' H',Pre ρ ρ'->Ext X.K H H'->RH X.K ρ' h' H'->Fin X.K EX ρ' H' P (K h')->Z H')->tb σ H Z
theorem zv3{F:List D->M Unit}{b:G->M Unit->M Unit}{tb:TB}{σ0:L2.St}{H0:Hp}{ρ0:List Addr}{h0:AH}{γ:G}{src:Src}{J:It}{P:Hp->Prop}
 (hnil:F []=(do let _ <- src.chk;pure ())) (hcons:∀d r,F (d::r)=(do let _ <- src.chk;let γ1 <- g d γ;let t <- k γ1;if t then b γ1 (F r) else F r))
 (r0:RH X.K ρ0 h0 H0) (rg:RG X.K ρ0 H0 γ σ0) (hJ:JOK X.K src ρ0 H0 J) (hown:∀j∈own,∀v,σ0[j]?≠some (some v)) (hb:HB X EX own σ0 ρ0 b tb)
 (fin:Fin X.K EX ρ0 H0 (λ_ ρ' h' H'=>RH X.K ρ' h' H'->Ext X.K H0 H'->Pre ρ0 ρ'->P H') (F src.items h0)):runG (tGk X.K EX own g) (tT X.K EX k) tb σ0 J P H0:=by
 refine⟨λi m H=>m+i=src.items.length/\∃ρ h,Pre ρ0 ρ/\Ext X.K H0 H/\RH X.K ρ h H /\
  Fin X.K EX ρ H (λ_ ρ' h' H'=>RH X.K ρ' h' H'->Ext X.K H0 H'->Pre ρ0 ρ'->P H') (F (src.items.drop i) h),
  ⟨src.items.length,rfl,_,_,Pre.refl _,Ext.refl _ _,r0,fin⟩,?_⟩
 rintro i m H1 ⟨hm,ρ1,h1,p1,e1,r1,f1⟩;by_cases hi:i<src.items.length
 ·rw[show src.items.drop i=src.items[i]::src.items.drop (i+1) from K25 hi,hcons]at f1;obtain⟨good,f2⟩:=z7W f1 r1;obtain⟨j1,j2⟩:=hJ i ρ1 h1 H1 p1 e1 r1 good;obtain⟨go,yld⟩:=j1 src.items[i] (K8 hi);refine .inr ⟨go,λx H2 y=>?_⟩;obtain⟨rd,rh,ext⟩:=yld x H2 y;refine⟨ρ1,_,h1,_,⟨rg.mono p1 (e1.trans ext),rh⟩,rd,(Fin.bind (Fin.up .(c) ext f2)).mono λγ2 ρ3 h3 H3 p3 e3 r3 f3 σ3 g3 k3=>⟨λj v hv=>?_,ρ3,γ2,h3,⟨g3,r3⟩,(Fin.bind f3).mono λt ρ4 h4 H4 p4 e4 r4 f4=>?_⟩⟩
  ·rw[k3 j λhj=>hown j hj v hv];exact hv
  ·have pp:Pre ρ0 ρ4:=(p1.trans p3).trans p4;have ee:Ext X.K H0 H4:=((e1.trans ext).trans e3).trans e4;cases t with
   | false=>
    rw[if_neg .(1)]at f4;dsimp only;rw[if_neg .(1)];exact⟨m - 1,by omega,by omega,ρ4,h4,pp,ee,r4,f4⟩
   | true=>
    rw[if_pos rfl]at f4;dsimp only;rw[if_pos rfl];exact hb pp k3 (g3.mono p4 e4) r4 f4 λρ5 h5 H5 p5 e5 r5 f5=>⟨m - 1,by omega,by omega,ρ5,h5,pp.trans p5,ee.trans e5,r5,f5⟩
 ·rw[show src.items.drop i=[] from K8z .(0),hnil]at f1;obtain⟨good,f2⟩:=z7W f1 r1;obtain⟨j1,j2⟩:=hJ i ρ1 h1 H1 p1 e1 r1 good;exact .inl ⟨j2 .(0),f2 ρ1 H1 .(c) .(b) r1 r1 e1 p1⟩
theorem zx7{σ0:L2.St}{n0:Nat}(hD:ρ0[n0]?=some Dd):HB X EX own σ0 ρ0 (λγ1 K=>do let v <- me γ1;let _ <- y0 n0 v;K) (bApp (tE X.K EX me) Dd):=λ{σ γ1 ρ h H P K Z} p0 _ rg rh fin hz=>by
 refine⟨ρ,γ1,h,⟨rg,rh⟩,(Fin.bind fin).mono λd ρ5 h5 H5 p5 e5 r5 f5 v rv=>?_⟩;have hq:ρ5[n0]?=some Dd:=(p0.trans p5) _ _ hD;have f6:=Fin.bind f5;unfold y0 updL at f6;cases e7:h5[n0]? with
 | none=>rw[e7]at f6;exact f6.elim
 | some ob=>
  cases ob<;>first|(rw[e7]at f6;exact f6.elim)|skip
  rename_i xs;rw[e7]at f6;dsimp only at f6;split at f6
  ·rename_i hl;obtain⟨a1,n1,vs,o1,d1⟩:=r5.at e7;rw[hq]at n1;cases n1;have ext2:Ext X.K H5 (upd H5 Dd (.lst (vs++[v]))):=Ext.upd (.inr ⟨_,o1,trivial⟩);have r6:=r5.set e7 hq (d1.append (RDs.cons rv RDs.nil));rw[K3,K0v]at hl;have hl2:=d1.length;exact⟨vs,o1,by omega,hz ρ5 _ _ p5 (e5.trans ext2) r6 (f6 ρ5 _ .(c) ext2 r6)⟩
  ·exact f6.elim
theorem Z0W{mi1:G->M Src}{g1:D->G->M G}{k1:G->M Bool}{own1:List Nat}{F1:Src->G->List D->M Unit}{b1:G->M Unit->M Unit}{tb1:TB}{σ0:L2.St}{ρ0:List Addr}
 (hnil:∀src γ,F1 src γ []=(do let _ <- src.chk;pure ())) (hcons:∀src γ d r,F1 src γ (d::r)=(do let _ <- src.chk;let γ1 <- g1 d γ;let t <- k1 γ1;if t then b1 γ1 (F1 src γ r) else F1 src γ r))
 (hown1:∀j∈own1,j∉own/\∀v,σ0[j]?≠some (some v)) (hb1:∀{σ1:L2.St} {ρ1:List Addr},Pre ρ0 ρ1->HB X EX own1 σ1 ρ1 b1 tb1) :
 HB X EX own σ0 ρ0 (λγ1 K=>do let s1 <- mi1 γ1;let _ <- F1 s1 γ1 s1.items;K) (bIn (tI X.K EX mi1) (tGk X.K EX own1 g1) (tT X.K EX k1) tb1):=λ{σ γ1 ρ h H P K Z} p0 k0 rg rh fin hz=>by
 refine⟨ρ,γ1,h,⟨rg,rh⟩,(Fin.bind fin).mono λs1 ρ4 h4 H4 p4 e4 r4 f4 J1 hJ1=>?_⟩;refine zv3 (hnil s1 γ1) (hcons s1 γ1) r4 (rg.mono p4 e4) hJ1 (λj hj v hv=>?_) (hb1 (p0.trans p4)) ((Fin.bind f4).mono λ_ ρ5 h5 H5 p5 e5 r5 f5 rr ex pr=>hz ρ5 h5 H5 (p4.trans p5) (e4.trans e5) r5 f5);rw[k0 j (hown1 j hj).1]at hv;exact(hown1 j hj).2 v hv
structure CmA(X:Cx)(EX:XX)(ce:Expr)(sc:Scope)(tg iter:Expr)(ifs:List Expr)(N':List Str)(cap:List (Option Nat))(own:List Nat)(mi:G->M Src)(g:D->G->M G)(k:G->M Bool)(oo:O)(b:Nat->G->M Unit->M Unit)(F:Src->Nat->G->List D->M Unit):Prop where
 ex:∃(mk:Sem Value) (o0:HO) (bd:Addr->Env->Sem Unit) (p:Pos) (tbd:Addr->L2.TB),CmE ce sc tg iter ifs mk o0 bd p/\(∀(ρ:List Addr) (H:Hp) (Dd:Addr),RO X.K ρ (upd H Dd o0) oo Dd)/\(∀D s H fp xe,PBd .(7) (bd D (X.comp N' sc s H fp xe).env) (tbd D)) /\
  ∀{σ0:L2.St} {ρ0:List Addr} {n0:Nat} {Dd:Addr},(∀(j:Nat),cap[j]?=some none->∀v,σ0[j]?≠some (some v))->ρ0[n0]?=some Dd->HB X EX own σ0 ρ0 (b n0) (tbd Dd)
 nil:∀src n0 γ,F src n0 γ []=(do let _ <- src.chk;pure ())
 cons:∀src n0 γ d r,F src n0 γ (d::r)=(do let _ <- src.chk;let γ1 <- g d γ;let t <- k γ1;if t then b n0 γ1 (F src n0 γ r) else F src n0 γ r)
def eCm(cap:List (Option Nat))(mi:G->M Src)(oo:O)(F:Src->Nat->G->List D->M Unit):G->M D:=λγ=>do
 let src <- mi γ;let n0 <- (λh=>.ok .(h) (h++[oo]):M Nat);let _ <- F src n0 (capG cap γ) src.items
 pure (.ref n0)
theorem zv6{ce:Expr}{oo:O}{b:Nat->G->M Unit->M Unit}{F:Src->Nat->G->List D->M Unit}{o0:HO}{tbd:Addr->TB}{σ:L2.St}{γ:G}{src:Src}{ρ0:List Addr}{h0:AH}{H0:Hp}{J:It}{Dd:Addr}{Q:Hp->Prop}
 (A:CmA X EX ce sc tg iter ifs N' cap own mi g k oo b F) (ho:∀(ρ:List Addr) (H:Hp) (Dd:Addr),RO X.K ρ (upd H Dd o0) oo Dd) (hb:∀{σ0:L2.St} {ρ0:List Addr} {n0:Nat} {Dd:Addr},(∀(j:Nat),cap[j]?=some none->∀v,σ0[j]?≠some (some v))->ρ0[n0]?=some Dd->HB X EX own σ0 ρ0 (b n0) (tbd Dd))
 (hown:∀j∈own,cap[j]?=some none) (r0:RH X.K ρ0 h0 H0) (rg:RG X.K ρ0 H0 γ σ) (hJ:JOK X.K src ρ0 H0 J) (hD:H0 Dd=none) {R:D->List Addr->AH->Hp->Prop}
 (fin:Fin X.K EX ρ0 H0 R ((do let n0 <- (λh=>.ok .(h) (h++[oo]):M Nat);let _ <- F src n0 (capG cap γ) src.items;pure (.ref n0):M D) h0))
 (z:∀ρ' h' H',Pre ρ0 ρ'->Ext X.K H0 H'->RH X.K ρ' h' H'->R (.ref h0.length) ρ' h' H'->RD X.K ρ' H' (.ref h0.length) (.ref Dd)->Q H') :
 runG (tGk X.K EX own g) (tT X.K EX k) (tbd Dd) (z4K cap σ) J Q (upd H0 Dd o0):=by
 have rP:RH X.K (ρ0++[Dd]) (h0++[oo]) (upd H0 Dd o0):=r0.pushO hD (ho _ _ _);have eP:Ext X.K H0 (upd H0 Dd o0):=Ext.upd (.inl hD);have f2:=(Fin.bind fin) (ρ0++[Dd]) _ (Pre.app _ _) eP rP;have at0:(ρ0++[Dd])[h0.length]?=some Dd:=by rw[<- r0.len];simp
 have non:∀(j:Nat),cap[j]?=some none->∀v,(z4K cap σ)[j]?≠some (some v):=λj e v hv=>by
  unfold z4K at hv;rw[K0a,e]at hv;simp at hv
 refine zv3 (A.nil src h0.length (capG cap γ)) (A.cons src h0.length (capG cap γ)) rP ((zF5 cap rg).mono (Pre.app _ _) eP) (λi ρ1 h1 H1 p e r good=>hJ i ρ1 h1 H1 ((Pre.app _ _).trans p) (eP.trans e) r good) (λj hj=>non j (hown j hj)) (hb non at0) ((Fin.bind f2).mono λ_ ρ5 h5 H5 p5 e5 r5 f5 rr ee pp=>?_);refine z ρ5 h5 H5 ((Pre.app _ _).trans pp) (eP.trans ee) rr (f5 ρ5 H5 .(c) .(b) rr) ?_;simp only[RD];exact⟨Dd,rfl,pp _ _ at0⟩
theorem zD7(A:CmA X EX ce sc tg iter ifs N' cap own mi g k oo b F)(hc:X.calm=true)(S:CS X sc N' cap)(hi:SI X EX tg iter mi)(hg:∀s H fp xe,SGk .(7) EX tg own g)(ht:∀s H fp xe,SCs .(7) EX ifs k)
 (hown:∀j∈own,cap[j]?=some none) (hs:∀x,K1b iter X.env x=pure x):SE X EX ce (eCm cap mi oo F):=by
 obtain⟨mk,o0,bd,p,tbd,C,ho,hbd,hb⟩:=A.ex;exact⟨PE.imp (Z0w (g:=tGk X.K EX own g) (ti:=tT X.K EX k) C hc S hi.h (λs H fp xe=>(hg s H fp xe).h) (λs H fp xe=>(ht s H fp xe).h) hbd hs) λσ H Q ⟨ρ,γ,h,rel,fin⟩=>⟨ρ,γ,h,rel,(Fin.bind fin).mono λsrc ρ0 h0 H0 p0 e0 r0 f0 J hJ Dd hD=>
  zv6 A ho hb hown r0 (rel.g.mono p0 e0) hJ hD f0 λρ' h' H' p' e' r' q rd=>q _ rd⟩⟩
theorem s_cm(i:Nat){y:Str}{py spos:Pos}(A:CmA X EX ce sc tg iter ifs N' cap own mi g k oo b F)(hc:X.calm=true)(S:CS X sc N' cap)(hi:SI X EX tg iter mi)(hg:∀s H fp xe,SGk .(7) EX tg own g)(ht:∀s H fp xe,SCs .(7) EX ifs k)
 (hown:∀j∈own,cap[j]?=some none) (hN:X.N.Nodup) (hy:X.N[i]?=some y) (hl:X.env.scope.names.lookup y=some .local) (hsw:K2n ce (some (.Name y py)) spos.line X.env=pure true) (hs:∀x,K1b iter X.env x=pure x) :
 S1 X EX (.Assign [.Name y py] ce spos) (sAsg (eCm cap mi oo F) (gN i)):=by
 obtain⟨mk,o0,bd,p,tbd,C,ho,hbd,hb⟩:=A.ex;exact⟨PS.imp (Z0e (g:=tGk X.K EX own g) (ti:=tT X.K EX k) C hc S hi.h (λs H fp xe=>(hg s H fp xe).h) (λs H fp xe=>(ht s H fp xe).h) hbd hN hy hl hsw hs) λσ H D ⟨ρ,γ,h,rel,fin⟩=>⟨ρ,γ,h,rel,(Fin.bind (Fin.bind fin)).mono λsrc ρ0 h0 H0 p0 e0 r0 f0 J hJ Dd hD=>
  zv6 A ho hb hown r0 (rel.g.mono p0 e0) hJ hD f0 λρ' h' H' p' e' r' q rd=>(q ρ' H' .(c) .(b) r') _ (((rel.g.mono p0 e0).mono p' e').set i rd)⟩⟩
theorem z8z(he:∀s H fp xe,SE .(7) EX elt me):CmA X EX (.ListComp elt [⟨tg,iter,ifs,0⟩] sc pos) sc tg iter ifs N' cap own mi g k (.lst []) (λn0 γ1 K=>do let v <- me γ1;let _ <- y0 n0 v;K) (λsrc n0 γ=>z3p src g k me n0 γ):=
 ⟨⟨_,_,_,_,bApp (tE X.K EX me),zC6,λρ H Dd=>⟨[],Y9,RDs.nil⟩,λD s H fp xe=>zk6 (he s H fp xe).h,λ_ hD=>zx7 hD⟩,λ_ _ _=>rfl,λ_ _ _ _ _=>rfl⟩
theorem z06(hc:X.calm=true)(S:CS X sc N' cap)(hi:SI X EX tg iter mi)(hg:∀s H fp xe,SGk .(7) EX tg own g)(ht:∀s H fp xe,SCs .(7) EX ifs k)
 (he:∀s H fp xe,SE .(7) EX elt me) (hown:∀j∈own,cap[j]?=some none:=by decide) (hs:∀x,K1b iter X.env x=pure x:=by intro _;rfl):SE X EX (.ListComp elt [⟨tg,iter,ifs,0⟩] sc pos) (z00 cap mi g k me):=
 zD7 (z8z he) hc S hi hg ht hown hs
def z2a(i:Nat)(cap:List (Option Nat))(mi:G->M Src)(g:D->G->M G)(k:G->M Bool)(me:G->M D):G->M Out:=sAsg (z00 cap mi g k me) (gN i)
theorem z54(i:Nat){y:Str}{py spos:Pos}(hc:X.calm=true)(S:CS X sc N' cap)(hi:SI X EX tg iter mi)(hg:∀s H fp xe,SGk .(7) EX tg own g)(ht:∀s H fp xe,SCs .(7) EX ifs k)
 (he:∀s H fp xe,SE .(7) EX elt me) (hN:X.N.Nodup) (hy:X.N[i]?=some y:=by rfl) (hl:X.env.scope.names.lookup y=some .local:=by rfl) (hown:∀j∈own,cap[j]?=some none:=by decide)
 (hsw:K2n (.ListComp elt [⟨tg,iter,ifs,0⟩] sc pos) (some (.Name y py)) spos.line X.env=pure true:=by rfl) (hs:∀x,K1b iter X.env x=pure x:=by intro _;rfl) :
 S1 X EX (.Assign [.Name y py] (.ListComp elt [⟨tg,iter,ifs,0⟩] sc pos) spos) (z2a i cap mi g k me):=
 s_cm i (z8z he) hc S hi hg ht hown hN hy hl hsw hs
end
def csOk(osc:Scope)(N:List Str)(sc:Scope)(N':List Str)(cap:List (Option Nat)):Bool:=
 (sc.kind==.function)&&sc.names.all (λy=>y.2 != .cell)&&sc.names.all (λx=>x.2 != .local||sc.names.lookup x.1==some .local) &&
 sc.names.all (λx=>x.2 != .free||(osc.names.lookup x.1==some .cell||osc.names.lookup x.1==some .free))&&(cap.length==N'.length) &&
 (K0b cap.length).all λi=>match cap[i]? with
  | some (some j)=>(match N'[i]?,N[j]? with
   | some x,some y=>x==y&&sc.names.lookup x==some .free
   | _,_=>false)
  | _=>true
theorem z0E{sc:Scope}(h:csOk X.env.scope X.N sc N' cap=true):CS X sc N' cap:=by
 unfold csOk at h;simp only[K0e]at h;obtain⟨⟨⟨⟨⟨h1,h2⟩,h3⟩,h4⟩,h5⟩,h6⟩:=h;refine⟨by simpa using h1,λy hy=>?_,λx hx hl=>?_,λx hx hf=>?_,by simpa using h5,λi j e=>?_⟩
 ·have:=K1t.mp h2 y hy;simpa using this
 ·have:=K1t.mp h3 x hx;simpa [hl] using this
 ·have:=K1t.mp h4 x hx;have:(X.env.scope.names.lookup x.1==some .cell||X.env.scope.names.lookup x.1==some .free)=true:=by simpa [hf] using this
  rw[K2h]at this;rcases this with z|z
  ·exact .inl (show X.env.scope.names.lookup x.1=_ by simpa using z)
  ·exact .inr (show X.env.scope.names.lookup x.1=_ by simpa using z)
 ·have hi:i<cap.length:=(K02.mp e).1;have:=K1t.mp h6 i (K13.mpr hi);rw[e]at this;dsimp only at this;cases e1:N'[i]? with
  | none=>rw[e1]at this;cases this
  | some x=>
   cases e2:X.N[j]? with
   | none=>rw[e1,e2]at this;cases this
   | some y=>
    rw[e1,e2]at this;simp only[K0e]at this;have exy:x=y:=by simpa using this.1
    subst exy;exact⟨x,rfl,rfl,by simpa using this.2⟩
def DefAt(K:K5)(x:Str)(st:Stmt):Prop:=∃f fd,K3z K K23 x=some (.(r f))/\Fun K x x st f fd
theorem defAt_mk{st:Stmt}{f:Addr}{oc:Value}{od an:Option Addr}{sl:Array (Option Value)}{kV dc pm cd ct:Value}(a:K3z K K23 x=some (.(r f)))
 (l:K.lookup f=some ⟨oc,od,.func (K2i x x (z13 st) (z03 st) (j3 st) .none kV dc pm an cd ct),sl⟩) (c:K2y K cd x=true) (k:K2o K (.ref f)=true):DefAt K x st:=
 ⟨f,_,a,zX0 l c k⟩
section
variable{prog:K1i}
theorem zL5{t:Addr}{items:Array Value}{x:Value}{Q:Value->Shared->Prop}(hit:s.heap.IsTupleIter it t i)(ht:s.heap.IsTuple t items)(hx:items[i]?=some x)
 (hQ:∀h',h'.IsTupleIter it t (i+1)->K1y it s.heap h'->Q x { s with heap:=h' }):wpAny (model prog w) A (K3u (.ref it)) Q E s:=by
 obtain⟨oi,e1,c1,d1⟩:=id hit;obtain⟨ot,e2,_,nt,d2⟩:=ht;unfold K3u;refine K0 (K2v (name:=K03 "__next__") hit.typeIs K33
  (K2a K33 hit.typeIs K67 ?_ (K5y _)))
 show wpAny _ _ (field (.ref it) 0 >>= _) _ _ s;refine K0 (K60 e1 d1 (x:=.ref t) rfl ?_);show wpAny _ _ (if (K29 t==K2z)=true then _ else _) _ _ s;have nn:¬ (K29 t==K2z)=true:=K0m;rw[if_neg nn];show wpAny _ _ (field (.ref it) 1 >>= _) _ _ s;refine K0 (K60 e1 d1 (x:=.int i 0) rfl ?_);show wpAny _ _ (Z2q (.ref t) >>= _) _ _ s;refine K0 (K7l e2 d2 ?_);simp only[K0u,hx];refine K0 (K3e e1 d1 .(e) (K4 ⟨x,rfl,K4 (hQ _ ?_ (K1n ..))⟩));exact⟨_,K3s _ e1 (K6l (K5v d1 _)),(Obj.cls_mapFields ..).trans c1,by
  rw[K5v d1];simp[rawInt]⟩
theorem zQ1{t:Addr}{items:Array Value}{Q:Value->Shared->Prop}(hh:A.handled=none)(hit:s.heap.IsTupleIter it t i)(ht:s.heap.IsTuple t items)(hx:items[i]?=none)
 (hE:∀h' e,Z30 it s.heap h'->(∃o,h'.get? e=some o/\o.cls=.type "StopIteration")->E (.ref e) { s with heap:=h' }):wpAny (model prog w) A (K3u (.ref it)) Q E s:=by
 obtain⟨oi,e1,c1,d1⟩:=id hit;obtain⟨ot,e2,_,nt,d2⟩:=ht;unfold K3u;refine K0 (K2v (name:=K03 "__next__") hit.typeIs K33
  (K2a K33 hit.typeIs K67 ?_ (K5y _)))
 show wpAny _ _ (field (.ref it) 0 >>= _) _ _ s;refine K0 (K60 e1 d1 (x:=.ref t) rfl ?_);show wpAny _ _ (if (K29 t==K2z)=true then _ else _) _ _ s;have nn:¬ (K29 t==K2z)=true:=K0m;rw[if_neg nn];show wpAny _ _ (field (.ref it) 1 >>= _) _ _ s;refine K0 (K60 e1 d1 (x:=.int i 0) rfl ?_);show wpAny _ _ (Z2q (.ref t) >>= _) _ _ s;refine K0 (K7l e2 d2 ?_);simp only[K0u,hx];refine K0 (K5u (K0 (K3e e1 d1 .(e) ?_)));show wpAny _ _ (newExc (.type "StopIteration") [] >>= _) _ _ _;refine K0 ?_;simp only[newExc,newTuple];refine K0 (K1v ?_ (by size_fits));refine K0 (m:=K7m _ _) (K82 (a:=K2z) (by first|rfl|(simp only[K7m];rfl)) ?_);refine K1v ?_ (by size_fits);simp only[raiseNew];refine K0 (wpAny_handled ?_)
 first|rw[show A.in1.handled=none from hh]|rw[hh]
 refine K0 (K4 (wpAny_throw ?_));exact hE _ _ (((K1n ..).extBut.push _).push _) ⟨_,K0j _ rfl,rfl⟩
end
theorem Z16{σ:L2.St}{ch:List Addr}{T:Addr}{vs:List V}{its:List Value}{h2:Heap}{t:Nat}(I:L2.Inv X pins σ H s)
 (hf:∀b∈ch,FpOk X pins H b) (kp:∀b o,b∉ch->s.heap.get? b=some o->h2.get? b=some o) (hT:.(3)<=T) (tup:IsTup0 h2 T its.toArray) (rv:Vals vs its) (hz:vs.length<=sizeLine) :
 L2.Inv X pins σ (upd H T (.tup vs)) { s with heap:=h2,toks:=t }:=by
 have hn:H T=none:=I.hok.fresh hT;have ne:∀{b:Addr} {o:Obj},s.heap.get? b=some o->b≠T:=λe=>K0x (K10 (K0f e) hT);refine I.step (g':=s.gens) (d':=s.drawn) (ch:=ch) (λb hb=>⟨(hf b hb).2.2.2.1,(hf b hb).2.1,(hf b hb).2.2.2.2.1,(hf b hb).2.2.2.2.2⟩) (λb o _ _ hc e _=>kp b o hc e) (λb o _ _ hc e _=>⟨o.slots,kp b o hc e⟩)
  (λb o _ e n=>by rw[Y5 (ne e)];exact n) (λb o hc e=>⟨o,kp b o hc e⟩) (λb xs e=>by rw[Y5 (x5 e hn)];exact e) (λb o u e=>by rw[Y5 (x5 e hn)];exact e)
  (λb ps e=>⟨#[],by rw[Y5 (x5 e hn),e];simp⟩) (λm hm=>?_) (λb u e=>?_) I.bare
 ·obtain⟨o,es,ep,q,r⟩:=hm;exact⟨o,es,ep,kp _ o (λz=>(hf _ z).2.1 rfl) q,r⟩
 ·by_cases hb:b=T
  ·subst hb;rw[Y9]at e;cases e;exact⟨hz,its,rv,tup⟩
  ·rw[Y5 hb]at e;refine(I.hok b u e).stay (λc v hc q=>kp c v (λz=>?_) q) (λc q=>?_) λc xs q=>?_
   ·rcases hc with y|y
    ·rw[y]at z;rw[(hf b z).1]at e;cases e
    ·rw[(hf c z).1]at y;cases y
   ·rw[Y5 (x5 q hn)];exact q
   ·rw[Y5 (x5 q hn)];exact q
section
variable{a b:Expr}
theorem zd0{A:Around}{E:Value->Shared->Prop}{t sl:Addr}{items:Array Value}{vl vu:Value}{Q:Value->Shared->Prop}(ht:IsTup s.heap t items)(hs:s.heap.IsSliceOf sl vl vu .none)(pl:IsPart vl lo)(pu:IsPart vu hi)
 (hw:HT.sIx .(w) 0 lo=0/\HT.sIx .(w) .(w) hi=.(w)) (h:Q (.ref t) s):wpAny .(6) A (K75 (.ref t) (.ref sl)) Q E s:=by
 obtain⟨os,hos,hcs,hds⟩:=id hs;have hTs:s.TypeIs (.ref sl) "slice":=⟨os,hos,hcs⟩;unfold K75
 try with_reducible refine K1h ?_
 first|refine K0 (K4 ?_)|skip
 refine K0 (wpAny_sequenceKey ht.typeIs .(1) ?_);refine K0 (K2v (name:=K03 "__getitem__") ht.typeIs K1x
  (K2a K1x ht.typeIs Z1g ?_ (args_tuple_getitem _ _)))
 show wpAny _ _ (K7f (.ref t) >>= _) _ _ s;refine K0 (tupleItemsOf_ ht ?_);refine K0 (K58 hTs ?_);rw[if_pos .(1)];refine K0 (HT.sliceApplied_gen hs pl pu ?_);have yes:((((HT.sIx .(w) 0 lo:Nat):Int)==0&&(1:Int)==1&&(HT.sIx .(w) .(w) hi - HT.sIx .(w) 0 lo)==.(w))=true):=by
  rw[hw.1,hw.2];simp
 show wpAny _ _ (if (((HT.sIx .(w) 0 lo:Nat):Int)==0&&(1:Int)==1&&(HT.sIx .(w) .(w) hi - HT.sIx .(w) 0 lo)==.(w))=true then _ else _) _ _ s;rw[if_pos yes];refine K0 (m:=K7g (.ref t)) ?_;unfold K7g;refine K0 (K58 ht.typeIs (K4 ?_));rw[if_pos .(1)];exact K0 (K5u (K4 ⟨_,rfl,K4 h⟩))
def rSlW(K:K5):V->Option Int->Option Int->Hp->VK->Prop:=λx lo hi H Q=>∃a xs,x=.ref a/\SqT K H a xs/\(HT.sIx xs.length 0 lo=0/\HT.sIx xs.length xs.length hi=xs.length)/\Q (.ref a) H
theorem zt8:SlR X (rSlW X.K):=by
 intro pins s σ H x v vl vu lo hi sl Q I rx hs pl pu h;obtain⟨a,xs,rfl,hx,hw,q⟩:=h;cases rx;obtain⟨its,r,ht,hz⟩:=I.tuple hx;have hlen:its.toArray.size=xs.length:=by rw[K07];exact r.length.symm
 exact⟨"tuple",_,K1x.lookup,ht.typeIs,zd0 ht hs pl pu (by rw[hlen];exact hw) ⟨.ref a,H,I,rfl,q⟩⟩
def cutD(xs:List D)(lo hi:Option Int):List D:=(xs.drop (HT.sIx xs.length 0 lo)).take (HT.sIx xs.length xs.length hi - HT.sIx xs.length 0 lo)
theorem z74(h:RDs K ρ H ds xs)(lo hi:Option Int):RDs K ρ H (cutD ds lo hi) (cutV xs lo hi):=by
 unfold cutD cutV;rw[.(h)];exact(h.drop _).take _
def fSl:D->Option Int->Option Int->M D
 | .tup xs,lo,hi=>pure (.tup (cutD xs lo hi))
 | .fl xs,lo,hi=>newL (cutD xs lo hi)
 | .ref n,lo,hi=>do
  let xs <- getL n
  newL (cutD xs lo hi)
 | _,_,_=>bad
def tO(K:K5)(EX:XX)(m:G->M (Option Int)):TO:=λσ H Q=>∃ρ γ h,Rel K ρ γ h σ H/\Fin K EX ρ H (λo _ _ H'=>Q o H') (m γ h)
structure SO(X:Cx)(EX:XX)(e:Option Expr)(m:G->M (Option Int)):Prop where
 h:PO X e (tO X.K EX m)
theorem PO.imp{e:Option Expr}{t t':TO}(h:PO X e t)(f:∀σ H Q,t' σ H Q->t σ H Q):PO X e t':=λpins s σ H Q I z=>h pins s σ H Q I (f σ H Q z)
def z3I:G->M (Option Int):=λ_=>pure none
def z2F(ma:G->M D):G->M (Option Int):=λγ=>do
 let x <- ma γ
 match x with
 | .int i=>pure (some i)
 | _=>bad
theorem z3u:SO X EX none z3I:=⟨PO.imp zC3 λσ H Q ⟨ρ,γ,h,rel,fin⟩=>fin ρ H .(c) .(b) rel.h⟩
theorem z3N(ha:SE X EX a ma):SO X EX (some a) (z2F ma):=⟨PO.imp (zH9 ha.h) λσ H Q ⟨ρ,γ,h,rel,fin⟩=>⟨ρ,γ,h,rel,(Fin.bind fin).mono λx ρ1 h1 H1 p1 e1 r1 f1 v rv=>by
 cases x<;>first|exact(show False from f1).elim|skip
 rename_i i;simp only[RD]at rv;exact⟨i,rv,f1 ρ1 H1 .(c) .(b) r1⟩⟩⟩
def z1u(ma:G->M D)(ml mh:G->M (Option Int)):G->M D:=λγ=>do
 let x <- ma γ;let lo <- ml γ;let hi <- mh γ
 fSl x lo hi
theorem zO3{x:D}{Q:VK}(r:RH X.K ρ h H)(rx:RD X.K ρ H x v)(fin:FE X.K EX ρ H Q (fSl x lo hi h)):rSlL X.K v lo hi H Q\/rSlT X.K v lo hi H Q\/rSlW X.K v lo hi H Q:=by
 cases x<;>first|exact(show False from fin).elim|skip
 case tup xs=>
  have rx':=rx;simp only[RD]at rx;obtain⟨q,vs,rfl,h1,h2⟩:=rx;have fin':FE X.K EX ρ H Q (.ok (.tup (cutD xs lo hi)) h):=fin;by_cases hw:HT.sIx vs.length 0 lo=0/\HT.sIx vs.length vs.length hi=vs.length
  ·refine .inr (.inr ⟨q,vs,rfl,h1,hw,FE.here fin' r ?_⟩);have e:cutD xs lo hi=xs:=by
    unfold cutD;rw[h2.length,hw.1,hw.2,K7d,Nat.sub_zero,<- h2.length,K1g]
   rw[e];exact rx'
  ·exact .inr (.inl ⟨q,vs,rfl,h1,hw,λp hp=>FE.tup fin' r (z74 h2 lo hi) hp⟩)
 case fl xs=>
  simp only[RD]at rx;obtain⟨q,vs,rfl,h1,h2⟩:=rx;have fin':FE X.K EX ρ H Q (newL (cutD xs lo hi) h):=fin;unfold newL at fin';split at fin'
  ·exact .inl ⟨q,vs,rfl,h1.sq,λp hp=>FE.lst fin' r (z74 h2 lo hi) hp⟩
  ·exact fin'.elim
 case ref n=>
  simp only[RD]at rx;obtain⟨q,rfl,h1⟩:=rx;have fin':FE X.K EX ρ H Q ((getL n >>= λxs=>newL (cutD xs lo hi)) h):=fin;have f1:=Fin.bind fin';cases e:getL n h with
  | bad=>rw[e]at f1;exact f1.elim
  | err z hz=>exact(z14 e).elim
  | ok xs h2=>
   obtain⟨rfl,q1⟩:=z12 e;rw[e]at f1;have f2:=f1 ρ H .(c) .(b) r;dsimp only at f2;unfold newL at f2;split at f2
   ·obtain⟨a1,n1,vs,o1,d1⟩:=r.at q1;rw[h1]at n1;cases n1;exact .inl ⟨q,vs,rfl,SqL.of o1,λp hp=>FE.lst f2 r (z74 d1 lo hi) hp⟩
   ·exact f2.elim
theorem z2t{lo hi:Option Expr}{ml mh:G->M (Option Int)}(ha:SE X EX a ma)(hl:SO X EX lo ml)(hh:SO X EX hi mh):SE X EX (.Subscript a (.Slice lo hi none p2) pos) (z1u ma ml mh):=
 ⟨PE.imp (zn5 (sl_list.or (sl_tup.or zt8)) ha.h hl.h hh.h) λσ H Q ⟨ρ,γ,h,rel,fin⟩=>⟨ρ,γ,h,rel,(Fin.bind fin).mono λx ρ1 h1 H1 p1 e1 r1 f1 v rv=>⟨ρ1,γ,h1,⟨rel.g.mono p1 e1,r1⟩,(Fin.bind f1).mono λl ρ2 h2 H2 p2 e2 r2 f2=>
  ⟨ρ2,γ,h2,⟨(rel.g.mono p1 e1).mono p2 e2,r2⟩,(Fin.bind f2).mono λu ρ3 h3 H3 p3 e3 r3 f3=>zO3 r3 ((rv.mono p2 e2).mono p3 e3) f3⟩⟩⟩⟩
end
def leS(a b:Str):Bool:=!decide (b.cps.toList<a.cps.toList)
theorem z69{a b c:Str}(h1:leS a b=true)(h2:leS b c=true):leS a c=true:=by
 simp only[leS,K41,decide_eq_false_iff_not]at *;exact K51.mpr (List.le_trans (K51.mp h1) (K51.mp h2))
theorem zb4(a b:Str):(leS a b||leS b a)=true:=by
 simp only[leS,K2h,K41,decide_eq_false_iff_not];rcases List.le_total a.cps.toList b.cps.toList with h|h
 ·exact .inl (K51.mpr h)
 ·exact .inr (K51.mpr h)
theorem z9J{a b:Str}(h:a.cps.toList=b.cps.toList):a=b:=by
 cases a;cases b;congr 1;exact Array.toList_inj.mp h
theorem zn1{a b:Str}(h1:leS a b=true)(h2:leS b a=true):a=b:=by
 simp only[leS,K41,decide_eq_false_iff_not]at *;exact z9J (Z2v (K51.mp h1) (K51.mp h2))
def Y7(l:List Str):List Str:=l.mergeSort leS
theorem z9l(l:List Str):(Y7 l).Perm l:=K4b l leS
theorem zl9(l:List Str):(Y7 l).Pairwise (λa b=>leS a b=true):=K64 (le:=leS) (λa b c h1 h2=>z69 h1 h2) zb4 l
theorem z6m:∀(p:Str) (l:List Str),risingS p l=true->(p::l).Pairwise (λa b=>leS a b=true)
 | p,[],_=>by simp
 | p,x::r,h=>by
  have h':(!ltCps x.cps.toList p.cps.toList&&risingS x r)=true:=h;rw[K0e,ltCps_eq]at h';have ih:=z6m x r h'.2;have px:leS p x=true:=h'.1;refine List.pairwise_cons.mpr ⟨λy hy=>?_,ih⟩;rcases K0l.mp hy with rfl|hy
  ·exact px
  ·exact z69 px ((List.pairwise_cons.mp ih).1 y hy)
theorem zp5{l l':List Str}(p:l'.Perm l)(h:sortedS l'=true):l'=Y7 l:=by
 have pw:l'.Pairwise (λa b=>leS a b=true):=by
  cases l' with
  | nil=>exact .nil
  | cons x r=>exact z6m x r h
 exact K8a (λa b _ _=>zn1) pw (zl9 l) (p.trans (z9l l).symm)
def leI(a b:Int):Bool:=decide (a<=b)
def sortI(l:List Int):List Int:=l.mergeSort leI
theorem sortI_perm(l:List Int):(sortI l).Perm l:=K4b l leI
theorem z8a(l:List Int):(sortI l).Pairwise (λa b=>a<=b):=by
 have:=K64 (le:=leI) (λa b c h1 h2=>by simp only[leI,decide_eq_true_eq]at *;omega) (λa b=>by simp only[leI,K2h,decide_eq_true_eq];omega) l;exact this.imp λh=>by simpa [leI] using h
theorem z8C{l l':List Int}(p:l'.Perm l)(h:l'.Pairwise (·<=·)):l'=sortI l:=
 K8a (λa b _ _ h1 h2=>Int.le_antisymm h1 h2) h (z8a l) (p.trans (sortI_perm l).symm)
def z42:List D->Option (List Str)
 | []=>some []
 | .str b::r=>(z42 r).map (b::·)
 | _::_=>none
def z4G:List D->Option (List Int)
 | []=>some []
 | .int b::r=>(z4G r).map (b::·)
 | _::_=>none
def z0f:List D->M D
 | [.ref n]=>do
  let xs <- getL n
  if xs.length<64 then (match z42 xs with
   | some ss=>newL ((Y7 ss).map .str)
   | none=>(match z4G xs with
    | some ns=>newL ((sortI ns).map .int)
    | none=>bad)) else bad
 | _=>bad
theorem z8l{K:K5}{ρ:List Addr}{H:Hp}:∀{xs:List D}{bs:List Str}{vs:List V},z42 xs=some bs->RDs K ρ H xs vs->vs=bs.map V.str
 | [],bs,vs,e,r=>by simp only[RDs]at r;cases e;subst r;rfl
 | x::xs,bs,vs,e,r=>by
  simp only[RDs]at r;obtain⟨v,r2,rfl,h1,h2⟩:=r;cases x<;>first|(simp only[z42]at e;cases e;done)|skip
  rename_i b;simp only[z42]at e;obtain⟨bs',e1,rfl⟩:=K11.mp e;simp only[RD]at h1;subst h1;rw[z8l e1 h2];rfl
theorem z8r{K:K5}{ρ:List Addr}{H:Hp}:∀{xs:List D}{bs:List Int}{vs:List V},z4G xs=some bs->RDs K ρ H xs vs->vs=bs.map V.int
 | [],bs,vs,e,r=>by simp only[RDs]at r;cases e;subst r;rfl
 | x::xs,bs,vs,e,r=>by
  simp only[RDs]at r;obtain⟨v,r2,rfl,h1,h2⟩:=r;cases x<;>first|(simp only[z4G]at e;cases e;done)|skip
  rename_i b;simp only[z4G]at e;obtain⟨bs',e1,rfl⟩:=K11.mp e;simp only[RD]at h1;subst h1;rw[z8r e1 h2];rfl
theorem z8R:∀{bs:List Str}{us:List Value},Vals (bs.map V.str) us->StrsAre us bs
 | [],us,h=>by cases h;exact .nil
 | b::bs,us,h=>by
  cases h with
  | cons h1 h2=>obtain⟨t,rfl⟩:=h1;exact .cons b t (z8R h2)
theorem z8c:∀{us:List Value}{bs:List Str},StrsAre us bs->Vals (bs.map V.str) us
 | _,_,.nil=>.nil
 | _,_,.cons y t r=>.cons ⟨t,rfl⟩ (z8c r)
theorem z8s:∀{us:List Value}{bs:List Int},K81 us bs->Vals (bs.map V.int) us:=λh=>z4t h
section
variable{a:Expr}
theorem z7f:z43 X (.builtin "sorted") (λxs H Q=>∃l ys,xs=[.ref l]/\SqL X.K H l ys/\ys.length<64 /\
 ((∃ss,ys=ss.map V.str/\∀q,H q=none->Q (.ref q) (upd H q (.lst ((Y7 ss).map V.str))))\/(∃ns,ys=ns.map V.int/\∀q,H q=none->Q (.ref q) (upd H q (.lst ((sortI ns).map V.int)))))):=by
 intro pins s σ H xs us Q I r h;obtain⟨l,ys,rfl,hq,h64,h⟩:=h;obtain⟨u,rfl,ru⟩:=vals1 r;cases ru;obtain⟨its,rv,pl,hz⟩:=I.list hq;have hl:=rv.length;have fin:∀(out:Array Value) (zs:List V),Vals zs out.toList->zs.length=ys.length->(∀q,H q=none->Q (.ref q) (upd H q (.lst zs)))->EP X pins σ Q (.ref (.(3)+1)) { s with heap:=sortedAll s.heap its out }:=λout zs h1 h2 h3=>by
  obtain⟨e,he⟩:=sortedAll_at s.heap its out;refine⟨.ref (.(3)+1),_,I.laid (t':=s.toks) (o:=.lst zs) (λb o q=>sortedAll_old q) (K5z _) ⟨by omega,out.toList,e,h1,?_⟩,rfl,h3 _ (I.hok.fresh (K5z _))⟩;rw[he]
 rcases h with ⟨ss,rfl,h⟩|⟨ns,rfl,h⟩
 ·refine sorted_strs pl.isList (z8R rv) .(0) λout ss' h1 h2 h3=>?_;have e:=zp5 h2 h3;subst e;exact fin out _ (z8c h1) (by rw[K0c,K0c,h2.length_eq]) h
 ·have hi:K81 its ns:=L2.intsAre_of rv;refine sorted_ints pl.isList hi .(0) λout ns' h1 h2 h3=>?_;have e:=z8C h2 h3;subst e;exact fin out _ (z8s h1) (by rw[K0c,K0c,h2.length_eq]) h
theorem z7X{K:K5}{ρ:List Addr}{H:Hp}:∀(l:List Str),RDs K ρ H (l.map .str) (l.map V.str)
 | []=>RDs.nil
 | x::r=>RDs.cons .(s) (z7X r)
theorem z5O{K:K5}{ρ:List Addr}{H:Hp}:∀(l:List Int),RDs K ρ H (l.map .int) (l.map V.int)
 | []=>RDs.nil
 | x::r=>RDs.cons .(s) (z5O r)
theorem zk7:AR X.K EX (λxs H Q=>∃l ys,xs=[.ref l]/\SqL X.K H l ys/\ys.length<64 /\
 ((∃ss,ys=ss.map V.str/\∀q,H q=none->Q (.ref q) (upd H q (.lst ((Y7 ss).map V.str))))\/(∃ns,ys=ns.map V.int/\∀q,H q=none->Q (.ref q) (upd H q (.lst ((sortI ns).map V.int)))))) z0f:=by
 intro ρ h H ds vs Q r rd fin;unfold z0f at fin;split at fin
 ·rename_i n;obtain⟨v,rfl,rv⟩:=rds1 rd;have f1:=Fin.bind fin;cases e:getL n h with
  | bad=>rw[e]at f1;exact f1.elim
  | err z hz=>exact(z14 e).elim
  | ok xs h1=>
   obtain⟨rfl,q1⟩:=z12 e;rw[e]at f1;have f2:=f1 ρ H .(c) .(b) r;dsimp only at f2;simp only[RD]at rv;obtain⟨q,rfl,h2⟩:=rv;obtain⟨a1,n1,ws,o1,d1⟩:=r.at q1;rw[h2]at n1;cases n1;by_cases hl:xs.length<64
   ·rw[if_pos hl]at f2;refine⟨q,ws,rfl,SqL.of o1,by rw[<- d1.length];exact hl,?_⟩;cases eb:z42 xs with
    | some ss=>
     rw[eb]at f2;have f3:FE X.K EX ρ H Q (newL ((Y7 ss).map .str) h1):=f2;unfold newL at f3;split at f3
     ·exact .inl ⟨ss,z8l eb d1,λp hp=>FE.lst f3 r (z7X _) hp⟩
     ·exact f3.elim
    | none=>
     rw[eb]at f2;cases en:z4G xs with
     | some ns=>
      rw[en]at f2;have f3:FE X.K EX ρ H Q (newL ((sortI ns).map .int) h1):=f2;unfold newL at f3;split at f3
      ·exact .inr ⟨ns,z8r en d1,λp hp=>FE.lst f3 r (z5O _) hp⟩
      ·exact f3.elim
     | none=>rw[en]at f2;exact(show False from f2).elim
   ·rw[if_neg hl]at f2;exact(show False from f2).elim
 ·exact fin.elim
theorem z2j(hc:X.calm=true)(hg:Gl X "sorted")(hm:X.mg "sorted" = none)(ha:SA X EX [a] mr)(he:K0k [a] X.env=[(false,eval a X.env)]:=by rfl):SE X EX (.Call (.Name "sorted" p) [a] [] pos) (Z8 z0f mr):=
 z2O (z3k z7f hg hm boot_sorted ha.h .(1) .(1) he rfl) zk7
end
@[simp] theorem bindM(m:M α)(f:α->M β)(h:AH):(m >>= f) h=match m h with
 | .ok a h1=>f a h1
 | .err x h1=>.err x h1
 | .bad=>.bad:=rfl
@[simp] theorem pureM(a:α)(h:AH):(Z3j a:M α) h=.ok a h:=rfl
theorem Rise.lt{xs:Array Nat}(h:Rise xs){a b:Nat}(ha:xs[i]?=some a)(hb:xs[j]?=some b)(hij:i<j):a<b:=by
 obtain⟨h1,e1⟩:=K3q.mp ha;obtain⟨h2,e2⟩:=K3q.mp hb;have:=K7r.mp h i j (by simpa using h1) (by simpa using h2) hij;simp only[Array.getElem_toList]at this;rw[e1,e2]at this;exact this
theorem z5D{xs:Array Nat}(h:Rise xs)(j:Nat):∀(fuel lo hi:Nat),hi - lo<=fuel->lo<=hi->hi<=xs.size->(∀(i:Nat) a,i<lo->xs[i]?=some a->a<j)->(∀(i:Nat) a,hi<=i->xs[i]?=some a->j<=a) ->
 (K3f xs j fuel lo hi)<=xs.size/\(∀(i:Nat) a,i<K3f xs j fuel lo hi->xs[i]?=some a->a<j)/\∀(i:Nat) a,K3f xs j fuel lo hi<=i->xs[i]?=some a->j<=a
 | 0,lo,hi,hf,hl,hs,h1,h2=>by
  have:hi=lo:=by omega
  subst this;exact⟨by simp only[K3f];omega,by simpa only[K3f] using h1,by simpa only[K3f] using h2⟩
 | fuel+1,lo,hi,hf,hl,hs,h1,h2=>by
  rw[K3f];split
  ·rename_i hlt;have hm:(lo+hi) / 2<xs.size:=by omega
   have e:xs[(lo+hi) / 2]?=some xs[(lo+hi) / 2]:=K1m hm;have ed:xs.getD ((lo+hi) / 2) j=xs[(lo+hi) / 2]:=by rw[Array.getD_eq_getD_getElem?,e];rfl
   dsimp only;rw[ed];split
   ·rename_i q;refine z5D h j fuel _ hi .(0) .(0) hs (λi a hi' ha=>?_) h2;by_cases z:i=(lo+hi) / 2
    ·subst z;rw[e]at ha;cases ha;exact q
    ·exact Z25 (h.lt ha e .(0)) q
   ·rename_i q;refine z5D h j fuel lo _ .(0) .(0) .(0) h1 (λi a hi' ha=>?_);by_cases z:i=(lo+hi) / 2
    ·subst z;rw[e]at ha;cases ha;omega
    ·have:=h.lt e ha .(0);omega
  ·exact⟨by omega,h1,λi a hi' ha=>h2 i a .(0) ha⟩
theorem z3C{xs:Array Nat}(h:Rise xs)(j:Nat):K0z xs j<=xs.size/\(∀(i:Nat) a,i<K0z xs j->xs[i]?=some a->a<j)/\∀(i:Nat) a,K0z xs j<=i->xs[i]?=some a->j<=a:=by
 unfold K0z;refine z5D h j xs.size 0 xs.size .(0) .(0) .(0) (λi a hi=>by omega) (λi a hi ha=>?_);have:=(K3q.mp ha).1;omega
theorem z9h{xs:Array Nat}(h:Rise xs)(e:xs[i]?=some j):K0z xs (j+1)=i+1:=by
 obtain⟨b1,b2,b3⟩:=z3C h (j+1);have hi:=(K3q.mp e).1;have l1:i<K0z xs (j+1):=by
  by_cases q:i<K0z xs (j+1)
  ·exact q
  ·have:=b3 i j .(0) e;omega
 by_cases q:K0z xs (j+1)=i+1
 ·exact q
 ·have hlt:i+1<xs.size:=by omega
  have e2:xs[i+1]?=some xs[i+1]:=K1m hlt;have a1:=b2 (i+1) _ .(0) e2;have a2:=h.lt e e2 .(0);omega
theorem z99{xs:Array Nat}(h:Rise xs):K0z xs 0=0:=by
 obtain⟨b1,b2,b3⟩:=z3C h 0;by_cases q:K0z xs 0=0
 ·exact q
 ·have hlt:0<xs.size:=by omega
  have e2:xs[0]?=some xs[0]:=K1m hlt;have:=b2 0 _ .(0) e2;omega
theorem zn2(h:Rise t.place)(hj:t.place[K0z t.place j]?≠some j):Rise (t.put j).1.place:=by
 obtain⟨b1,b2,b3⟩:=z3C h j;show (K8i.insertAt t.place (K0z t.place j) j).toList.Pairwise _;rw[K8i.toList_insertAt];have tk:∀a∈t.place.toList.take (K0z t.place j),a<j:=λa ha=>by
  obtain⟨i,hi,e⟩:=K1o ha;rw[Z2b]at e;have hi2:i<K0z t.place j:=by
   rw[K1e]at hi;omega
  have hi3:i<t.place.size:=by omega
  exact b2 i a hi2 (by rw[K1m hi3];simpa using e)
 have dr:∀a∈t.place.toList.drop (K0z t.place j),j<a:=λa ha=>by
  obtain⟨i,hi,e⟩:=K1o ha;rw[List.getElem_drop]at e;have hi3:K0z t.place j+i<t.place.size:=by
   rw[K4g]at hi;simp at hi;omega
  have e2:t.place[K0z t.place j+i]?=some a:=by rw[K1m hi3];simpa using e
  have:=b3 _ a .(0) e2;by_cases q:a=j
  ·subst q;cases i with
   | zero=>exact absurd e2 hj
   | succ i=>
    have hlt:K0z t.place a<t.place.size:=by omega
    have e3:t.place[K0z t.place a]?=some t.place[K0z t.place a]:=K1m hlt;have a1:=b3 _ _ (K01 _) e3;have a2:=h.lt e3 e2 .(0);omega
  ·omega
 have p1:=List.Pairwise.take (i:=K0z t.place j) h;have p2:=List.Pairwise.drop (i:=K0z t.place j) h;simp only[K6x,List.pairwise_cons]
 first
  | (refine⟨p1,⟨dr,p2⟩,λa ha b hb=>?_⟩
     rcases K0l.mp hb with rfl|hb
     ·exact tk a ha
     ·exact Z25 (tk a ha) (dr b hb))
  | skip
theorem z8d(h:∀i,t.slot j≠.live i):t.place[K0z t.place j]?≠some j:=λe=>by
 refine h (K0z t.place j) ?_;unfold K8i.slot;dsimp only;rw[e,if_pos .(e)]
theorem z5P{t:K8i}{ha:Nat->Int}{hx:Int}:∀(fuel:Nat) (p:Z3c) (j:Nat) (dm:Option Nat),(∀d,p.dummy=some d->t.slot d=.dummy)->K7u t ha hx fuel p=some (.empty j dm)->t.slot j=.empty/\∀d,dm=some d->t.slot d=.dummy
 | 0,p,j,dm,hd,e=>by simp[K7u]at e
 | fuel+1,p,j,dm,hd,e=>by
  rw[K7u]at e;have adv:∀q:Z3c,(t.advance q).dummy=q.dummy:=λq=>by
   unfold K8i.advance;split<;>rfl
  split at e
  ·rename_i hs;cases e;exact⟨hs,hd⟩
  ·rename_i hs;refine z5P fuel _ j dm (λd z=>?_) e;rw[adv]at z;cases z;exact hs
  ·split at e
   ·cases e
   ·refine z5P fuel _ j dm (λd z=>?_) e;rw[adv]at z;exact hd d z
theorem zn3{b:Bool}(e:t.freeSlot hx=some (j,b)):t.place[K0z t.place j]?≠some j:=by
 unfold K8i.freeSlot K8i.probe at e;split at e
 ·rename_i j' dm hp;obtain⟨s1,s2⟩:=z5P _ _ j' dm (λd z=>by simp[K8i.probeStart]at z) hp;cases dm with
  | none=>cases e;exact z8d (λi z=>by rw[show t.slot (none.getD j')=_ from s1]at z;cases z)
  | some d=>cases e;exact z8d (λi z=>by rw[show t.slot ((some d).getD j')=_ from s2 d rfl]at z;cases z)
 ·cases e
theorem z2B(n:Nat):Rise (Array.range n):=by
 show (Array.range n).toList.Pairwise _;rw[Array.toList_range];exact K4n
theorem z7K{x:Value}(h:Rise t.place):Rise (layNew t es hx x).2.1.place/\(layNew t es hx x).2.1.led=t.led:=by
 unfold layNew;split
 ·rename_i sl wd e;dsimp only;unfold K8i.orStandIn;split
  ·exact⟨zn2 h (zn3 e),rfl⟩
  ·exact⟨z2B _,rfl⟩
 ·exact⟨z2B _,rfl⟩
theorem z9E{mask finger moves:Nat}{led plain:Bool}{hs:Array Int}{o:Array Nat}(e:Z3e mask finger moves led plain hs=some (t,o)):Rise t.place/\t.led=led:=by
 unfold Z3e at e;cases hl:K8i.layClean mask hs with
 | none=>rw[hl]at e;cases e
 | some ow=>
  rw[hl]at e;cases e;refine⟨?_,rfl⟩;unfold Rise;dsimp only;rw[K6f,List.pairwise_filterMap];refine K4n.imp λ{a b} hab c hc d hd=>?_;cases h1:ow.getD a none with
  | none=>rw[h1]at hc;cases hc
  | some u=>
   cases h2:ow.getD b none with
   | none=>rw[h2]at hd;cases hd
   | some v=>
    rw[h1]at hc;rw[h2]at hd;cases hc;cases hd;exact hab
theorem z9e:Rise (K6v t es n).2.1.place/\(K6v t es n).2.1.led=t.led:=by
 unfold K6v;split
 ·rename_i t' o e;obtain⟨r1,r2⟩:=z9E e;dsimp only;split
  ·exact⟨r1,r2⟩
  ·exact⟨z2B _,rfl⟩
 ·exact⟨z2B _,rfl⟩
theorem z23{R:α->β->Prop}{l' l:List β}(p:l'.Perm l):∀{ks:List α},Paired R ks l->∃ks',ks'.Perm ks/\Paired R ks' l':=by
 induction p with
 | nil=>intro ks h;exact⟨ks,.refl _,h⟩
 | cons x _ ih=>
  intro ks h;cases h with
  | cons a b=>
   obtain⟨ks',q1,q2⟩:=ih b;exact⟨_::ks',.cons _ q1,.cons a q2⟩
 | swap x y l=>
  intro ks h;cases h with
  | cons a b=>
   cases b with
   | cons c d=>exact⟨_::_::_,.swap _ _ _,.cons c (.cons a d)⟩
 | trans _ _ ih1 ih2=>
  intro ks h;obtain⟨k1,a1,a2⟩:=ih2 h;obtain⟨k2,b1,b2⟩:=ih1 a2;exact⟨k2,b1.trans a1,b2⟩
theorem z4w{α β:Type}{R:α->β->Prop}:∀{ks:List α}{l:List β}{k:α}{x:β},Paired R ks l->R k x->Paired R (ks++[k]) (l++[x])
 | _,_,_,_,.nil,h=>.cons h .nil
 | _,_,_,_,.cons a b,h=>.cons a (z4w b h)
theorem z2z{α β:Type}{R:α->β->Prop}:∀{ks:List α}{l:List β}{x:β},Paired R ks l->x∈l->∃k∈ks,R k x
 | _,_,_,.cons a b,h=>by
  rcases K0l.mp h with rfl|h
  ·exact⟨_,K18,a⟩
  ·obtain⟨k,h1,h2⟩:=z2z b h;exact⟨k,K14 _ h1,h2⟩
theorem z4m{α β:Type}{R:α->β->Prop}:∀{ks:List α}{l:List β}{k:α},Paired R ks l->k∈ks->∃x∈l,R k x
 | _,_,_,.cons a b,h=>by
  rcases K0l.mp h with rfl|h
  ·exact⟨_,K18,a⟩
  ·obtain⟨k,h1,h2⟩:=z4m b h;exact⟨k,K14 _ h1,h2⟩
theorem z4h{k:Key}{v:Value}(h:z1N k v=true):v.scannable=true:=by
 rcases y8 h with ⟨i,t,rfl,rfl⟩|⟨x,t,rfl,rfl⟩<;>rfl
theorem z8n(h:Paired (KE w) ks l):ElemsOf (Y0 P w) l:=λe he=>by
 obtain⟨k,_,h1,h2⟩:=z2z h he;exact⟨⟨k,h1,h2⟩,z4h h1⟩
theorem zE5{k k':Key}{v:Value}(h:z1N k v=true)(h':z1N k' v=true):k=k':=by
 rcases y8 h with ⟨i,t,rfl,rfl⟩|⟨x,t,rfl,rfl⟩
 ·rcases y8 h' with ⟨j,u,rfl,e⟩|⟨y,u,rfl,e⟩
  ·cases e;rfl
  ·cases e
 ·rcases y8 h' with ⟨j,u,rfl,e⟩|⟨y,u,rfl,e⟩
  ·cases e
  ·cases e;rfl
theorem mem_of(h:Paired (KE w) ks l)(k:Key):k∈ks↔∃e∈l,z1N k e.2=true:=by
 constructor
 ·intro hk;obtain⟨e,h1,h2,_⟩:=z4m h hk;exact⟨e,h1,h2⟩
 ·rintro⟨e,h1,h2⟩;obtain⟨k',h3,h4,_⟩:=z2z h h1;exact zE5 h2 h4 ▸ h3
theorem SetAt.setOf{h:Heap}(x:SetAt w h a ks):h.SetOf (Y0 P w) a (λk=>decide (k∈ks)) ks.length:=by
 obtain⟨o,es,ep,t,ks',h1,h2,h3,h4,h5,h6,h7,h8,h9,_⟩:=x;refine⟨o,es,ep,t,h1,h2,h3,z8n h4,λk=>?_,h7,h8,?_⟩
 ·rw[.(i),<- h5.mem_iff];exact mem_of h4 k
 ·rw[<- h5.length_eq,K3b h4,K1d]
theorem SetAt.stay{h h':Heap}(x:SetAt w h a ks)(k:∀o,h.get? a=some o->h'.get? a=some o):SetAt w h' a ks:=by
 obtain⟨o,es,ep,t,ks',h1,h2⟩:=x;exact⟨o,es,ep,t,ks',k o h1,h2⟩
theorem SetAt.perm{h:Heap}{ks2:List Key}(x:SetAt w h a ks)(p:ks.Perm ks2):SetAt w h a ks2:=by
 obtain⟨o,es,ep,t,ks',h1,h2,h3,h4,h5,h6,h7⟩:=x;exact⟨o,es,ep,t,ks',h1,h2,h3,h4,h5.trans p,p.nodup_iff.mp h6,h7⟩
theorem zf1{h:Heap}{led:Bool}(hl:led=true\/w.params.followText "set-order" = true):SetAt w (h.push { cls:=.type "set",dict:=none,data:=.set #[] 0 (.fresh 0 0 led) }) h.objs.size []:=
 ⟨_,#[],0,_,[],K0j _ rfl,⟨rfl,rfl,rfl⟩,rfl,.nil,.refl _,K4f,by decide,by rfl,by show ([]:List Nat).Pairwise _;exact .nil,hl⟩
theorem z5y{t':K8i}{ks':List Key}{h:Heap}(ho:h.get? a=some o)(hex:o.ExactSet)(hd:o.data=.set es ep t)(h4:Paired (KE w) ks' es'.toList)(h5:ks'.Perm ks)(h6:ks.Nodup)
 (hb:es'.size<scanBound) (hf:t'.fits es'.size=true) (hr:Rise t'.place) (hl:t'.led=true\/w.params.followText "set-order" = true) :
 SetAt w (h.update a (K7c es' t')) a ks/\∃o',(h.update a (K7c es' t')).get? a=some o'/\o'.ExactSet/\o'.data=.set es' (ep+1) t':=by
 have g:(h.update a (K7c es' t')).get? a=some { o with data:=.set es' (ep+1) t' }:=by
  have:=K3s (K7c es' t') ho (by rw[putSet_of es' t' hd];rfl);rw[putSet_of es' t' hd]at this;exact this
 exact⟨⟨_,es',ep+1,t',ks',g,hex,rfl,h4,h5,h6,hb,hf,hr,hl⟩,_,g,hex,rfl⟩
theorem tail_at{ks ks1:List Key}{o:Obj}{es es1:Array (Int×Value)}{ep:Nat}{t t2:K8i}{wd:Bool}{R:Option Bool->Shared->Prop}(hG:∀(g:Bool) (s1:Shared) (Z:Unit->Shared->Prop),Z () s1->wpAny .(x) A (gw g) Z E s1)
 (ho:s.heap.get? a=some o) (hex:o.ExactSet) (hd:o.data=.set es ep t) (h4:Paired (KE w) ks1 es1.toList) (h5:ks1.Perm ks) (h6:ks.Nodup) (hb:es1.size<scanBound) (hf:t2.fits es1.size=true) (hr:Rise t2.place) (hl:t2.led=true\/w.params.followText "set-order" = true)
 (h:∀h',K1y a s.heap h'->SetAt w h' a ks->R (some true) { s with heap:=h' }) :
 wpAny .(x) A (storeSet a es1 t2 >>= λ_=>if (!wd&&t2.tooFull)=true then (gw (K6v t2 es1 (K3c es1.size)).2.2 >>= λ_=>storeSet a (K6v t2 es1 (K3c es1.size)).1 (K6v t2 es1 (K3c es1.size)).2.1 >>= λ_=>pure (some true)) else pure (some true)) R E s:=by
 obtain⟨S1,o1,g1,x1,d1⟩:=z5y (h:=s.heap) (t':=t2) ho hex hd h4 h5 h6 hb hf hr hl;have sb:=K1n s.heap a (K7c es1 t2);refine K0 (K83 ho hd ?_ (K4y hb));split
 ·have rp:=relayAll_perm t2 es1 (K3c es1.size);have rf:=relayAll_fits t2 es1 (K3c es1.size);have rr:=z9e (t:=t2) (es:=es1) (n:=K3c es1.size);obtain⟨ks2,p1,p2⟩:=z23 rp h4;have sz:(K6v t2 es1 (K3c es1.size)).1.size=es1.size:=by rw[<- K1d,rp.length_eq,K1d]
  have b2:(K6v t2 es1 (K3c es1.size)).1.size<scanBound:=by rw[sz];exact hb
  refine K0 (hG _ _ _ (K0 (K83 g1 d1 (K4 ?_) (K4y b2))));obtain⟨S2,_⟩:=z5y (h:=s.heap.update a (K7c es1 t2)) (t':=(K6v t2 es1 (K3c es1.size)).2.1) g1 x1 d1 p2 (p1.trans h5) h6 b2 rf rr.1 (by rw[rr.2];exact hl);exact h _ (sb.trans (K1n _ a _)) S2
 ·exact K4 (h _ sb S1)
theorem zx0{k:Key}{x:Value}{Q:Bool->Shared->Prop}(hk:z1N k x=true)(hS:SetAt w s.heap a ks)(hroom:ks.length+1<scanBound)
 (h:∀h' b,K1y a s.heap h'->SetAt w h' a (if k∈ks then ks else ks++[k])->Q b { s with heap:=h' }) :
 wpAny .(x) A (Z2f a x (keyH w k)) Q E s:=by
 obtain⟨o,es,ep,t,ks',ho,hex,hd,h4,h5,h6,h7,h8,h9,h0⟩:=hS;have el:=z8n (P:=P) h4;have sc:=z4h hk;have hn:es.size=ks.length:=by rw[<- h5.length_eq,K3b h4,K1d]
 unfold Z2f setAddHashedIn;refine K1h (K0 (K2k ho hd h8 ?_));dsimp only;rw[byScan_of sc h7 el,if_pos rfl];unfold setAddByScan;refine K0 (K0 (K5u (K0 (wpAny_setScan_of (knd:=Y0 P w) (k:=k) hk ho hd h8 el ?_))));cases hr:List.findIdx? (λe=>(Y0 P w).is k e.2) es.toList with
 | some j=>
  dsimp only;obtain⟨hj,hp,_⟩:=K66.mp hr;have hm:k∈ks:=h5.mem_iff.mp ((mem_of h4 k).mpr ⟨_,K4h hj,hp⟩);have:=h s.heap false (K3y a s.heap) (by rw[if_pos hm];exact⟨o,es,ep,t,ks',ho,hex,hd,h4,h5,h6,h7,h8,h9,h0⟩);exact K4 (K4 this)
 | none=>
  dsimp only;have hm:k∉ks:=λz=>by
   obtain⟨e,he,hp⟩:=(mem_of h4 k).mp (h5.mem_iff.mpr z);have:=K7s.mp hr e he;rw[show (Y0 P w).is k e.2=true from hp]at this;cases this
  rw[if_neg hm]at h;have np:=layNew_perm t es (keyH w k) x;have nf:=layNew_fits t es (keyH w k) x;have nr:=z7K (t:=t) (es:=es) (hx:=keyH w k) (x:=x) h9;have hG:∀(g:Bool) (s1:Shared) (R:Unit->Shared->Prop),R () s1->wpAny .(x) A (match g with|true=>rule "set.scan.the-table-gave-way" | false=>pure ()) R E s1:=
   λg s1 R q=>by cases g<;>first|exact K4 q|exact K5u q
  generalize hL:layNew t es (keyH w k) x=L at np nf nr ⊢;obtain⟨es1,t1,wd,gv⟩:=L;dsimp only at np nf nr ⊢;rw[Z29]at np;obtain⟨ks1,p1,p2⟩:=z23 np (z4w h4 (show KE w k (keyH w k,x) from⟨hk,rfl⟩));have nd:(ks++[k]).Nodup:=by
   rw[K1c];exact⟨h6,by simp,λu hu v hv=>by simp at hv;subst hv;exact λz=>hm (z ▸ hu)⟩
  have b1:es1.size<scanBound:=by
   rw[<- K1d,np.length_eq,K3,K1d];simpa [hn] using hroom
  have p3:ks1.Perm (ks++[k]):=p1.trans (h5.append_right [k]);have l1:t1.led=true\/w.params.followText "set-order" = true:=by rw[nr.2];exact h0
  refine K0 (hG _ _ _ ?_);split
  ·rw[hashByValue_scannable 8 sc];refine K0 (K4 ?_);refine tail_at (t2:=if plainKind x=true then t1 else { t1 with plain:=false }) hG ho hex hd p2 p3 nd b1 ?_ ?_ ?_ λh' sb S=>K4 (h h' true sb S)
   ·split
    ·exact nf
    ·exact K8i.fits_plain_off nf
   ·split
    ·exact nr.1
    ·exact nr.1
   ·split
    ·exact l1
    ·exact l1
  ·refine K0 (K4 ?_);simp only[if_pos];exact tail_at hG ho hex hd p2 p3 nd b1 nf nr.1 l1 λh' sb S=>K4 (h h' true sb S)
def putK(acc:List Key)(k:Key):List Key:=if k∈acc then acc else acc++[k]
def dedK(ks:List Key):List Key:=ks.foldl putK []
theorem zn0(acc:List Key)(k:Key):(putK acc k).length<=acc.length+1:=by
 unfold putK;split
 ·omega
 ·simp
theorem z6I:∀(ks acc:List Key),(ks.foldl putK acc).length<=acc.length+ks.length
 | [],acc=>by simp
 | k::ks,acc=>by
  have h1:=z6I ks (putK acc k);have h2:=zn0 acc k;simp only[K4q,K6];omega
theorem zm6(ks:List Key):(dedK ks).length<=ks.length:=by
 have:=z6I ks [];simpa [dedK] using this
theorem zb5(ks:List Key)(k:Key):dedK (ks++[k])=putK (dedK ks) k:=by
 unfold dedK;rw[K6g];rfl
theorem SetAt.typeIs{ks:List Key}(x:SetAt w s.heap a ks):s.TypeIs (.ref a) "set":=(x.setOf (P:=default)).typeIs
theorem z6S{k:Key}{x:Value}{Q:Bool->Shared->Prop}(hk:z1N k x=true)(hS:SetAt w s.heap a ks)(hroom:ks.length+1<scanBound)
 (h:∀h' b,K1y a s.heap h'->SetAt w h' a (putK ks k)->Q b { s with heap:=h',toks:=s.toks+1 }):wpAny .(x) A (setAdd a x) Q E s:=by
 unfold setAdd;refine K1h (K0 ((Y0 P w).pyHash (k:=k) hk ?_));exact zx0 (s:={ s with toks:=s.toks+1 }) hk hS hroom λh' b sb S=>h h' b sb S
theorem zr5{k:Key}{x:Value}{Q:Value->Shared->Prop}(hk:z1N k x=true)(hS:SetAt w s.heap a ks)(hroom:ks.length+1<scanBound)
 (h:∀h',K1y a s.heap h'->SetAt w h' a (putK ks k)->Q .none { s with heap:=h',toks:=s.toks+1 }):wpAny .(x) A (call (.builtin "set.add") [.ref a,x]) Q E s:=by
 refine K2a F.slot_set_add hS.typeIs F.entry_set_add ?_ (F.args_set_add_2 _ _);unfold Builtin.«set.add» Builtin.Frozenset.oneOther;simp only[K8h,Z1u];unfold K86;refine K0 (K4 ?_)
 try dsimp only
 refine K0 (K4 ?_)
 try dsimp only
 refine K0 (z6S hk hS hroom λh' b sb S=>?_);show wpAny _ _ (ret K2z) _ _ _;exact K4 ⟨_,rfl,h h' sb S⟩
section
variable{R:Result->Shared->Prop}{fp wr:List Addr}{G:Array Z28->Array Z28->Prop}{St:Nat->Shared->Prop}
theorem z60(W:WalksS P w A.in1 I fp wr G n PV St)(S:Addr)(hSf:S∉fp)(key:Nat->Key)(hv:∀i v,PV i v->z1N (key i) v=true)(hb:n+1<scanBound):
 ∀(k i:Nat) (s:Shared),i+k=n->St i s->SetAt w s.heap S (dedK ((K0b i).map key)) ->
  (∀s',Moved (S::wr) G s s'->SetAt w s'.heap S (dedK ((K0b n).map key))->R (.ok (.ret .none)) s') ->
  K5q .(x) A (.builtin "set.update.loop" ⟨[.ref S,.ref I],[]⟩) R s:=by
 have nw:S∉wr:=λh=>hSf (W.sub _ h);have up:∀b∈wr,b∈S::wr:=λb hb=>K14 _ hb;intro k;induction k with
 | zero=>
  intro i s hk st hS hR;obtain rfl:i=n:=by omega
  refine K3k K8p ?_;rw[K3d K65 _];show wpAny _ A.in1 (pyNext (.ref I) >>= _) _ _ s;refine K0 (W.done s _ _ st λs' hm=>?_);show wpAny _ A.in1 (ret K2z) _ _ s';exact K4 (hR s' (hm.mono up) (hS.stay λo e=>hm.heap S o nw e))
 | succ k ih=>
  intro i s hk st hS hR;refine K3k K8p ?_;rw[K3d K65 _];show wpAny _ A.in1 (pyNext (.ref I) >>= _) _ _ s;refine K0 (W.item i s _ _ .(0) st λv s' hP st' hm=>?_);show wpAny _ A.in1 (K3t [v] (setAdd S v) >>= _) _ _ s';have room:(dedK ((K0b i).map key)).length+1<scanBound:=by
   have:=zm6 ((K0b i).map key);rw[K0c,K1f]at this;omega
  refine K0 (K1h (z6S (hv i v hP) (hS.stay λo e=>hm.heap S o nw e) room λh' b sb S2=>?_));have nx:dedK ((K0b (i+1)).map key)=putK (dedK ((K0b i).map key)) (key i):=by
   rw[Z35,K36];exact zb5 _ _
  refine K4 ⟨K6t K65 _,ih (i+1) _ .(0) (W.frame _ s' _ _ st' (K5z _) λb hb o e=>?_) (by rw[nx];exact S2) λs'' hm'' S3=>?_⟩
  ·rw[sb.2 b (λz:b=S=>hSf (z ▸ hb))];exact e
  ·refine hR s'' (Moved.trans W.gtrans ((hm.mono up).then_heap (K5z _) λb o hb e=>?_) hm'') S3;rw[sb.2 b (λz:b=S=>hb (by rw[z];exact K18))];exact e
end
theorem z9m:isSubtype (.type "tuple") (.type "set")=pure false:=by rw[K6i];kernel_rfl
theorem z7J:isSubtype (.type "tuple") (.type "frozenset")=pure false:=by rw[K6i];kernel_rfl
abbrev x4(w:World):Obj:={ cls:=.type "set",dict:=none,data:=.set #[] 0 (.fresh 0 0 (!w.params.followText "set-order")) }
theorem zV8(w:World):(!w.params.followText "set-order")=true\/w.params.followText "set-order" = true:=by
 cases w.params.followText "set-order"<;>simp
theorem fresh_at{h:Heap}:SetAt w (h.push (x4 w)) h.objs.size []:=zf1 (zV8 w)
theorem newS(h:Q (.ref s.heap.objs.size) { s with heap:=s.heap.push (x4 w) }):wpAny .(x) A (newSet (.type "set")) Q E s:=by
 unfold newSet K6p;refine K0 (K0 (K20 (K4 ?_)));dsimp only;simp only[newObj];exact K0 (Z31 (K4 h))
theorem newCode(a:Value)(h:Q (.ref s.heap.objs.size) { s with heap:=s.heap.push (x4 w) }):
 K5q .(x) A (.call (.builtin "set.__new__") ⟨[.type "set",a],[]⟩) (wants Q E) s:=by
 refine K5t (show wpAny _ A.in1 (do checkBuiltinCall "set.__new__" ⟨[.type "set",a],[]⟩;again (.builtin "set.__new__" ⟨[.type "set",a],[]⟩)) _ _ s from ?_);refine K0 (K82 (F.newCall_set_1 a) (K4 ⟨K6t K71 _,K3k F.entry_set_new ?_⟩));rw[K3d K71 _];unfold Builtin.«set.__new__» K7a;have hz:=K8w;obtain⟨hp,g,d,tk,os⟩:=s;dsimp only
 wp_walk
 refine K20 (K4 ?_);dsimp only;simp only[newObj];refine K0 (Z31 (K4 ?_));exact K4 h
theorem zc9{l:Addr}{items:Array Value}{key:Nat->Key}{Q:Value->Shared->Prop}(hT:T = "list"\/T = "tuple")(hh:A.handled=none)(hl:∃o,s.heap.get? l=some o/\o.cls=.type T/\∃n,o.data=.seq items n)
 (hv:∀(i:Nat) v,items[i]?=some v->z1N (key i) v=true) (hb:.(w)+1<scanBound)
 (h:∀h' tk,SetAt w h' .(3) (dedK ((K0b .(w)).map key))->(∀b o,s.heap.get? b=some o->h'.get? b=some o)->Q (.ref .(3)) { s with heap:=h',toks:=tk }) :
 wpAny .(x) A (call (.type "set") [.ref l]) Q E s:=by
 obtain⟨c,tl,hmro⟩:=K26.mro;have z1:=K26.made;have z2:=K26.sub;have z3:=K26.notType;have z4:=K26.canCreate;have z5:=F.typeCall_set_1 (.ref l);obtain⟨ol,hol,hcl,nl,hdl⟩:=hl;obtain⟨ocls,odict,odata,oslots⟩:=ol;simp only at hcl hdl;subst hcl;subst hdl;refine Z1t (K5t (show wpAny _ _ (callAny (.type "set") _) _ _ _ from ?_));refine K4 ⟨Z1v _ .(5),K3k Z2k ?_⟩;rw[Z1s (K9f "set" [.ref l] []) rfl]
 repeat (any_goals (first|assumption|wp_step))
 refine K44 (newCode (.ref l) (E:=E) (Q:=λobj s1=>obj=.ref .(3)/\s1={ s with heap:=s.heap.push (x4 w) }) ⟨rfl,rfl⟩) λr s1 hr=>?_;cases r with
 | error e=>exact hr
 | ok fl=>
  cases fl with
  | next=>exact hr.elim
  | brk=>exact hr.elim
  | cont=>exact hr.elim
  | ret obj=>
   obtain⟨rfl,rfl⟩:=hr;have gS:(s.heap.push (x4 w)).get? .(3)=some (x4 w):=K0j _ rfl;have tS:K5i { s with heap:=s.heap.push (x4 w) } (.ref .(3)) "set":=⟨_,gS,rfl⟩;have y1:=K26.init.lookup;have y2:=K26.init.bind (.ref .(3))
   repeat (any_goals (first|assumption|wp_step))
   refine K44 (K9q (R:=wants (λr s2=>r=.none/\∃h' tk,s2={ s with heap:=h',toks:=tk }/\SetAt w h' .(3) (dedK ((K0b .(w)).map key))/\∀b o,s.heap.get? b=some o->h'.get? b=some o) E) K26.init.plain F.entry_set_init (check_set_init_1 tS ?_)) λr2 s2 hr2=>?_
   ·have gl:(s.heap.push (x4 w)).get? l=some { cls:=.type T,dict:=odict,data:=.seq items nl,slots:=oslots }:=K9 _ hol;have hll:l<s.heap.objs.size:=K0f hol;have h3:A.in1.in1.in1.handled=none:=by simp[hh]
    have neI:l≠(s.heap.push (x4 w)).objs.size:=by rw[K2q];exact K0x (K4w hll)
    have nf:.(3)∉[(s.heap.push (x4 w)).objs.size,l]:=by
     rw[K2q];simp only[K0l,K0q,K2u,or_false,not_or];exact⟨K0x (K8l _),K30 hll⟩
    have start:∀ob:Obj,SetAt w ((s.heap.push (x4 w)).push ob) .(3) (dedK ((K0b 0).map key)):=λob=>fresh_at.stay λo e=>K9 _ e;have fin:∀(ob:Obj) s',Moved [.(3),(s.heap.push (x4 w)).objs.size] (λg g'=>g'=g) { s with heap:=(s.heap.push (x4 w)).push ob } s'->SetAt w s'.heap .(3) (dedK ((K0b .(w)).map key)) ->
     ∃h' tk,s'={ s with heap:=h',toks:=tk }/\SetAt w h' .(3) (dedK ((K0b .(w)).map key))/\∀b o,s.heap.get? b=some o->h'.get? b=some o:=λob s' hm S2=>by
     obtain⟨h',g',d',tk',os'⟩:=s';have e1:g'=s.gens:=hm.gens;have e2:d'=s.drawn:=hm.drawn;have e3:os'=s.os:=hm.os;subst e1;subst e2;subst e3;refine⟨h',tk',rfl,S2,λb o e=>hm.heap b o ?_ (K9 _ (K9 _ e))⟩;have:=K0f e;rw[K2q];simp only[K0l,K0q,K2u,or_false,not_or];exact⟨K0x this,K0x (K4w this)⟩
    rcases hT with rfl|rfl
    ·have x1:=F.sub_list_set;have x2:=F.sub_list_frozenset;have x3:(K46 "list"==K46 "dict")=false:=by decide
     have il:(s.heap.push (x4 w)).IsList l items:=⟨_,gl,rfl,nl,rfl⟩;unfold Builtin.«set.__init__» noKeywords K70;generalize hPI:pyIter=PI
     wp_walk
     subst hPI;refine K4x il (K0 (K9m ?_));refine z60 ((Walks.list h3 _ l neI items).toS) .(3) nf key (λi v e=>hv i v e) hb .(w) 0 _ .(0) ⟨⟨_,K0j _ rfl,rfl,rfl⟩,il.push _⟩ (start _) λs' hm S2=>?_;obtain⟨h',tk,rfl,q1,q2⟩:=fin _ s' hm S2;exact K4 (show wpAny _ _ (ret K2z) _ _ _ from K4 ⟨rfl,h',tk,rfl,q1,q2⟩)
    ·have x1:=z9m;have x2:=z7J;have x3:(K46 "tuple"==K46 "dict")=false:=by decide
     have il:(s.heap.push (x4 w)).IsTuple l items:=⟨_,gl,rfl,nl,rfl⟩;unfold Builtin.«set.__init__» noKeywords K70;generalize hPI:pyIter=PI
     wp_walk
     subst hPI;refine K4o il (K0 (K9m ?_));refine z60 ((Walks.tuple h3 _ l neI items).toS) .(3) nf key (λi v e=>hv i v e) hb .(w) 0 _ .(0) ⟨⟨_,K0j _ rfl,rfl,rfl⟩,⟨_,K9 _ gl,rfl,nl,rfl⟩⟩ (start _) λs' hm S2=>?_;obtain⟨h',tk,rfl,q1,q2⟩:=fin _ s' hm S2;exact K4 (show wpAny _ _ (ret K2z) _ _ _ from K4 ⟨rfl,h',tk,rfl,q1,q2⟩)
   ·cases r2 with
    | error e=>exact hr2
    | ok f2=>
     cases f2 with
     | next=>exact hr2.elim
     | brk=>exact hr2.elim
     | cont=>exact hr2.elim
     | ret r=>
      obtain⟨rfl,h',tk,rfl,q1,q2⟩:=hr2
      repeat (any_goals (first|assumption|wp_step))
      exact h _ _ q1 q2
theorem z3w{α:Type}:∀(l:List α) (i:Nat) (h:i<l.length),(l[i]::l.eraseIdx i).Perm l
 | [],i,h=>by simp at h
 | a::l,0,h=>.refl _
 | a::l,i+1,h=>by
  have:=z3w l i (by simpa using h);exact(List.Perm.swap a _ _).trans (Z39 a this)
theorem z6N{l:List α}(h:i<l.length)(e:l.length=n+1):(l.eraseIdx i).length=n:=by
 rw[List.length_eraseIdx,if_pos h,e];rfl
theorem zb1{α:Type}(f:Nat->Nat):∀(n k:Nat) (left:List α) (out:Array α),left.length=n->(Z1z f n k left out).toList.Perm (out.toList++left)
 | 0,k,left,out,h=>by
  have:left=[]:=K2e.mp h;subst this;simp[Z1z]
 | n+1,k,left,out,h=>by
  have hl:f k % left.length<left.length:=Nat.mod_lt _ .(0);rw[Z1z,K8 hl];dsimp only;refine(zb1 f n (k+1) _ _ (z6N hl h)).trans ?_;rw[Z29,K7];refine K98 _ ?_;exact z3w left _ hl
theorem z6E(f:Nat->Nat)(xs:Array α):(Z2r f xs).toList.Perm xs.toList:=by
 unfold Z2r;have:=zb1 f xs.size 0 xs.toList #[] .(e);simpa using this
theorem slot_si_next:Slot "set_iterator" "__next__" "set_iterator.__next__":=
 .of (owner:="set_iterator") (n:="__next__") (by rw[typeLookup_type,K9g];kernel_rfl) .(5) .(5) .(5) (by first|exact .inl .(5)|exact .inr .(5)) (by rw[K6i];kernel_rfl)
theorem z3r:entryFor table "set_iterator.__next__" = some Builtin.«set_iterator.__next__»:=entryFor_of_tree (by kernel_rfl)
theorem z8u:Manifest.owners.lookup (String.ofList ['r','o','t','a','r','e','t','i','_','t','e','s'].reverse)=some Manifest.sig_set_iterator:=by kernel_rfl
theorem z3R(a:Value):argsOk "set_iterator.__next__" ⟨[a],[]⟩:=by
 unfold argsOk;rw[Z1l (id:="set_iterator.__next__") (n:=['_','_','t','x','e','n','_','_']) (o:=['r','o','t','a','r','e','t','i','_','t','e','s']) (by kernel_rfl) z8u];kernel_rfl
theorem z3U:Slot "set_iterator" "__iter__" "set_iterator.__iter__":=
 .of (owner:="set_iterator") (n:="__iter__") (by rw[typeLookup_type,K9g];kernel_rfl) .(5) .(5) .(5) (by first|exact .inl .(5)|exact .inr .(5)) (by rw[K6i];kernel_rfl)
theorem z6t:entryFor table "set.__iter__" = some Builtin.«frozenset.__iter__»:=
 K9n (id':="frozenset.__iter__") (by kernel_rfl) rfl .(5) (by kernel_rfl)
theorem z72(a:Value):argsOk "set.__iter__" ⟨[a],[]⟩:=by
 unfold argsOk;rw[Z1l (id:="set.__iter__") (n:=['_','_','r','e','t','i','_','_']) (o:=['t','e','s']) (by kernel_rfl) F.owner_set];kernel_rfl
theorem z3J{α:Type}:∀(n:Nat) (xs:List α) (s:Shared) (Q:List α->Shared->Prop),xs.length=n->(∀ys d',ys.Perm xs->Q ys { s with drawn:=d' })->wpAny .(x) A (drawOrder n xs) Q E s
 | 0,xs,s,Q,h,hq=>by
  have:xs=[]:=K2e.mp h;subst this;exact K4 (hq [] s.drawn (.refl _))
 | n+1,xs,s,Q,h,hq=>by
  cases xs with
  | nil=>simp at h
  | cons x xs=>
   rw[drawOrder.eq_3 _ _ (λz=>by cases z)];refine K0 ?_;refine λΓ p _=>⟨by simp,?_⟩;generalize hi:(model P w).w.draws .order (s.drawn.get .order) % (x::xs).length=i;have il:i<(x::xs).length:=by rw[<- hi];exact Nat.mod_lt _ .(e)
   show wpAny .(x) A (match (x::xs)[i]? with|some x_1=>(do return x_1::(<- drawOrder n ((x::xs).eraseIdx i)))|none=>unsupported "internal:drawOrder") Q E { s with drawn:=s.drawn.bump .order };rw[K8 il];dsimp only;refine K0 (z3J n _ _ _ (z6N il h) λys d' pm=>K4 ?_);exact hq _ d' ((Z39 _ pm).trans (z3w _ i il))
theorem z5u:entryFor table "set_iterator.__iter__" = some Builtin.«dict_keyiterator.__iter__»:=
 K9n (id':="dict_keyiterator.__iter__") (by kernel_rfl) rfl .(5) (by kernel_rfl)
theorem z6p(a:Value):argsOk "set_iterator.__iter__" ⟨[a],[]⟩:=by
 unfold argsOk;rw[Z1l (id:="set_iterator.__iter__") (n:=['_','_','r','e','t','i','_','_']) (o:=['r','o','t','a','r','e','t','i','_','t','e','s']) (by kernel_rfl) z8u];kernel_rfl
abbrev z7h(first:Value)(i:Nat)(S:Addr)(n ep:Nat):Obj:={ cls:=.type "set_iterator",data:=.fields #[first,rawInt i,.ref S,rawInt n,rawInt ep] }
section
variable(w:World)(S:Addr)(es:Array (Int×Value))(ep:Nat)(t:K8i)
inductive Stand(h:Heap)(i:Nat):Value->List (Int×Value)->Prop where
 | txt (b:w.params.followText "set-order" = true):Stand h i (rawInt 0) (Z2r (w.params.setOrder S ep) es).toList
 | drw (T:Addr) (pl:List Nat) (b:w.params.followText "set-order" = false) (hT:∃o n,h.get? T=some o/\o.data=.seq (pl.map λ(j:Nat)=>rawInt j).toArray n) (hp:pl.Perm (K0b es.size)):Stand h i (.ref T) (pl.filterMap λj=>es[j]?)
 | slo (sl:Nat) (b:w.params.followText "set-order" = false) (c:(!t.plain&&decide (es.size > 1))=false) (l:t.led=true) (e:K0z t.place sl=i):Stand h i (rawInt sl) es.toList
end
theorem z55{α:Type}{es:Array α}:∀{pl:List Nat},(∀j∈pl,j<es.size)->∀(i:Nat),(pl.filterMap λj=>es[j]?)[i]?=(pl[i]?).bind λj=>es[j]?
 | [],h,i=>by simp
 | a::pl,h,i=>by
  have hb:=h a K18;have ha:es[a]?=some es[a]:=K1m hb;rw[K4c,ha];cases i with
  | zero=>simp[ha]
  | succ i=>simpa using z55 (λj hj=>h j (K14 _ hj)) i
theorem Stand.perm{h:Heap}{f:Value}(x:Stand w S es ep t h i f ord):ord.Perm es.toList:=by
 cases x with
 | txt b=>exact z6E _ _
 | drw T pl b hT hp=>
  refine(hp.filterMap _).trans ?_;rw[filterMap_getElem?_range]
 | slo sl b c l e=>exact .refl _
section
variable{f:Value}
theorem z8w{sl:Nat}{Q:Option (Value×Nat)->Shared->Prop}(ho:s.heap.get? S=some o)(hd:o.data=.set es ep t)(hf:t.fits es.size=true)(b:w.params.followText "set-order" = true)
 (h:Q (((Z2r (w.params.setOrder S ep) es)[i]?).map λe=>(e.2,sl)) s):wpAny .(x) A (K8s S sl i ep) Q E s:=by
 unfold K8s K6p;refine K0 (K2k ho hd hf (K0 (K0 (K20 (K4 ?_)))));dsimp only;rw[show (model P w).w.params.followText "set-order" = true from b,if_pos rfl,if_neg .(e)];unfold setWalk K6p;refine K0 (K0 (K2k ho hd hf (K0 (K0 (K20 (K4 ?_))))));dsimp only;rw[show (model P w).w.params.followText "set-order" = true from b,if_pos rfl];refine K0 (K20 (K4 (K4 ?_)));exact h
theorem z8f{sl:Nat}{Q:Option (Value×Nat)->Shared->Prop}(ho:s.heap.get? S=some o)(hd:o.data=.set es ep t)(hf:t.fits es.size=true)(b:w.params.followText "set-order" = false)
 (c:(!t.plain&&decide (es.size > 1))=false) (l:t.led=true) (h:Q (match es[K0z t.place sl]?,t.place[K0z t.place sl]? with|some (_,x),some j=>some (x,j+1)|_,_=>none) s):wpAny .(x) A (K8s S sl i ep) Q E s:=by
 unfold K8s K6p;refine K0 (K2k ho hd hf (K0 (K0 (K20 (K4 ?_)))));dsimp only;rw[show (model P w).w.params.followText "set-order" = false from b,if_neg .(1)];rw[if_neg (by show ¬ ((!t.plain&&decide (es.size > 1))=true);rw[c];decide)];refine K0 ?_;show wpAny _ _ (if (!t.led&&!es.isEmpty)=true then _ else _) _ _ _;rw[if_neg (by rw[l];simp)];exact K4 (K4 h)
theorem zC7{e:Int×Value}{Q:Option Value->Shared->Prop}(ho:s.heap.get? S=some o)(hd:o.data=.set es ep t)(hf:t.fits es.size=true)(hr:Rise t.place)(hI:s.heap.get? I=some (z7h f i S es.size ep))(st:Stand w S es ep t s.heap i f ord)(he:ord[i]?=some e)(hSI:S≠I)
 (hQ:∀h' f',K1y I s.heap h'->h'.get? I=some (z7h f' (i+1) S es.size ep)->Stand w S es ep t h' (i+1) f' ord->(∀T,f'=.ref T->f=.ref T)->Q (some e.2) { s with heap:=h' }):wpAny .(x) A (pyNext (.ref I)) Q E s:=by
 have hT:s.TypeIs (.ref I) "set_iterator":=⟨_,hI,rfl⟩;unfold pyNext;refine K0 (wpAny_attempt (K2v (name:=K03 "__next__") hT slot_si_next (K2a slot_si_next hT z3r ?_ (z3R _))));show wpAny _ _ (fieldsOf (.ref I) >>= _) _ _ s;refine K0 (wpAny_fieldsOf hI rfl ?_);show wpAny _ _ (setEntries S >>= _) _ _ s;refine K0 (K4d ho hd hf ?_);rw[if_neg .(e)];have upd:∀(h0:Heap) (vs:Array Value) (j:Nat) (v:Value),h0.get? I=some { cls:=.type "set_iterator",data:=.fields vs }->(h0.update I (Z1j (·.setIfInBounds j v))).get? I=some { cls:=.type "set_iterator",data:=.fields (vs.setIfInBounds j v) }:=λh0 vs j v e=>by
  have:=K3s (Z1j (·.setIfInBounds j v)) e (K6l (K5v rfl _));exact this
 have fin:∀(f':Value) (j:Nat) (R:Z3i->Shared->Prop) (R2:Value->Shared->Prop),(∀h',K1y I s.heap h'->h'.get? I=some (z7h f' (i+1) S es.size ep)->R (.done (.ret e.2)) { s with heap:=h' }) ->
  wpAny .(x) A.in1 (setField (.ref I) 0 f' >>= λ_=>setField (.ref I) 1 (rawInt ((i:Int)+1)) >>= λ_=>ret e.2) R R2 s:=λf' j R R2 q=>by
  have u1:=upd s.heap _ 0 f' hI;refine K0 (K3e hI rfl .(e) (K0 (K3e u1 rfl .(e) (K4 (q _ ((K1n ..).trans (K1n ..)) ?_)))));rw[upd _ _ 1 _ u1];simp[rawInt]
 cases st with
 | txt b=>
  show wpAny _ _ (K8s S (0:Int).toNat (i:Int).toNat (ep:Int).toNat >>= _) _ _ _;rw[K0u,K0u];refine K0 (z8w ho hd hf b ?_);rw[<- K38,he];exact fin (rawInt 0) 0 _ _ λh' sb q=>⟨_,rfl,K4 (hQ h' _ sb q (.txt b) λT z=>by cases z)⟩
 | slo sl b c l e2=>
  have hi:i<es.size:=by simpa using(K02.mp he).1
  have he2:es[i]?=some e:=by rw[<- K38];exact he
  have sz:t.place.size=es.size:=by
   unfold K8i.fits at hf;simp at hf;exact hf.1
  have hp:t.place[i]?=some (t.place[i]' .(0)):=K1m .(0);show wpAny _ _ (K8s S (sl:Int).toNat (i:Int).toNat (ep:Int).toNat >>= _) _ _ _;rw[K0u,K0u,K0u];refine K0 (z8f ho hd hf b c l ?_);rw[e2,he2,hp];refine fin (rawInt ((t.place[i]' .(0)+1:Nat):Int)) 0 _ _ λh' sb q=>⟨_,rfl,K4 (hQ h' _ sb q (.slo _ b c l (z9h hr hp)) λT z=>by cases z)⟩
 | drw T pl b hT hp=>
  obtain⟨oT,nT,gT,dT⟩:=hT;have hb:∀j∈pl,j<es.size:=λj hj=>by simpa using hp.mem_iff.mp hj
  rw[z55 hb]at he;cases hpi:pl[i]? with
  | none=>rw[hpi]at he;cases he
  | some j=>
   rw[hpi]at he;have hej:es[j]?=some e:=he;have hTI:T≠I:=λz=>by
    subst z;rw[hI]at gT;cases gT;cases dT
   show wpAny _ _ (Z2q (.ref T) >>= _) _ _ _;refine K0 (K7l gT dT ?_);dsimp only;rw[K0u,show ((pl.map λ(j:Nat)=>rawInt j).toArray)[i]?=some (rawInt j) by simp[hpi]];show wpAny _ _ (setNextDrawn S (j:Int).toNat (ep:Int).toNat >>= _) _ _ _;rw[K0u,K0u];unfold setNextDrawn;refine K0 (K0 (K2k ho hd hf ?_));dsimp only;rw[if_neg .(e),hej];refine K4 ?_;have u1:=upd s.heap _ 1 (rawInt ((i:Int)+1)) hI;refine K0 (K3e hI rfl .(e) (K4 ⟨_,rfl,K4 (hQ _ (.ref T) (K1n ..) ?_ (.drw T pl b ⟨oT,nT,?_,dT⟩ hp) λ_ z=>z)⟩))
   ·rw[u1];simp[rawInt]
   ·rw[K3m _ _ (K57 hTI)];exact gT
theorem zF9{Q:Option Value->Shared->Prop}(hh:A.handled=none)(ho:s.heap.get? S=some o)(hd:o.data=.set es ep t)(hf:t.fits es.size=true)(hI:s.heap.get? I=some (z7h f es.size S es.size ep))(st:Stand w S es ep t s.heap es.size f ord)
 (hQ:∀h',Z30 I s.heap h'->Q none { s with heap:=h' }):wpAny .(x) A (pyNext (.ref I)) Q E s:=by
 have hT:s.TypeIs (.ref I) "set_iterator":=⟨_,hI,rfl⟩;have hl:ord.length=es.size:=by rw[st.perm.length_eq,K1d]
 unfold pyNext;refine K0 (wpAny_attempt (K2v (name:=K03 "__next__") hT slot_si_next (K2a slot_si_next hT z3r ?_ (z3R _))));show wpAny _ _ (fieldsOf (.ref I) >>= _) _ _ s;refine K0 (wpAny_fieldsOf hI rfl ?_);show wpAny _ _ (setEntries S >>= _) _ _ s;refine K0 (K4d ho hd hf ?_);rw[if_neg .(e)];have stop:∀(h1:Heap) (Z:Z3i->Shared->Prop),Z30 I s.heap h1->wpAny .(x) A.in1 (newExc (.type "StopIteration") [] >>= λx=>(raiseNew x:Sem Z3i)) Z (λe s'=>wpAny .(x) A (do let __do_lift <- isInstance e (K46 "StopIteration");if __do_lift=true then pure none else throw e) Q E s') { s with heap:=h1 }:=λh1 Z eb=>by
  refine K0 ?_;simp only[newExc,newTuple];refine K0 (K1v ?_ (by size_fits));refine K0 (m:=K7m _ _) (K82 (a:=K2z) (by first|rfl|(simp only[K7m];rfl)) ?_);refine K1v ?_ (by size_fits);simp only[raiseNew];refine K0 (wpAny_handled ?_);rw[show A.in1.handled=none by simp[hh]];refine K0 (K4 (wpAny_throw ?_));refine K0 (K6q (T:="StopIteration") (b:=true) ⟨_,K0j _ rfl,rfl⟩ isSubtype_stop ?_);exact K4 (hQ _ ((eb.push _).push _))
 cases st with
 | txt b=>
  show wpAny _ _ (K8s S (0:Int).toNat (es.size:Int).toNat (ep:Int).toNat >>= _) _ _ _;rw[K0u,K0u];refine K0 (z8w ho hd hf b ?_);rw[<- K38,K1j .(0)];exact K0 (K3e hI rfl .(e) (stop _ _ (K1n ..).extBut))
 | slo sl b c l e2=>
  show wpAny _ _ (K8s S (sl:Int).toNat (es.size:Int).toNat (ep:Int).toNat >>= _) _ _ _;rw[K0u,K0u,K0u];refine K0 (z8f ho hd hf b c l ?_);rw[e2,Array.getElem?_eq_none (K01 _)];exact K0 (K3e hI rfl .(e) (stop _ _ (K1n ..).extBut))
 | drw T pl b hT hp=>
  obtain⟨oT,nT,gT,dT⟩:=hT;have lp:pl.length=es.size:=by rw[hp.length_eq,K1f]
  show wpAny _ _ (Z2q (.ref T) >>= _) _ _ _;refine K0 (K7l gT dT ?_);dsimp only;rw[K0u,show ((pl.map λ(j:Nat)=>rawInt j).toArray)[es.size]?=none by simp[lp]];have u1:(s.heap.update I (Z1j (·.setIfInBounds 0 (rawInt 0)))).get? I=some { cls:=.type "set_iterator",data:=.fields (#[.ref T,rawInt es.size,.ref S,rawInt es.size,rawInt ep].setIfInBounds 0 (rawInt 0)) }:=
   K3s _ hI (K6l (K5v rfl _))
  exact K0 (K3e hI rfl .(e) (K0 (K3e u1 rfl .(e) (stop _ _ ((K1n ..).trans (K1n ..)).extBut))))
end
theorem zr2{P:K1i}{w:World}{tl:List Addr}(hh:A.handled=none)(hd:o.data=.set es ep t)(hf:t.fits es.size=true)(hr:Rise t.place)(hSI:S≠I)(hl:ord.length=es.size)(htl:I∉tl):
 Walks P w A I (I::S::tl) [I] es.size (λi v=>∃e,ord[i]?=some e/\v=e.2) (λi h=>h.get? S=some o/\∃f,(∀T,f=.ref T->T∈tl)/\h.get? I=some (z7h f i S es.size ep)/\Stand w S es ep t h i f ord) where
 sub:=λb hb=>by simp at hb;simp[hb]
 frame:=λi h h' st hk=>by
  obtain⟨q1,f,q2,q3,q4⟩:=st;refine⟨hk S .(e) _ q1,f,q2,hk I .(e) _ q3,?_⟩;cases q4 with
  | txt b=>exact .txt b
  | slo sl b c l e2=>exact .slo sl b c l e2
  | drw T pl b hT hp=>
   obtain⟨oT,nT,gT,dT⟩:=hT;exact .drw T pl b ⟨oT,nT,hk T (by simp[q2 T rfl]) _ gT,dT⟩ hp
 item:=λi s Q E hi st hQ=>by
  obtain⟨q1,f,q2,q3,q4⟩:=st;have he:ord[i]?=some (ord[i]' .(0)):=K8 .(0);refine zC7 q1 hd hf hr q3 q4 he hSI λh' f' sb g st' tt=>?_;refine hQ _ h' s.toks ⟨_,he,rfl⟩ ⟨?_,f',λT z=>q2 T (tt T z),g,st'⟩ λb ob hb e=>?_
  ·rw[sb.2 S hSI];exact q1
  ·rw[sb.2 b (λz=>hb (by simp[z]))];exact e
 done:=λs Q E st hQ=>by
  obtain⟨q1,f,q2,q3,q4⟩:=st;exact zF9 hh q1 hd hf q3 q4 λh' eb=>hQ h' s.toks λb ob hb e=>eb b ob (λz=>hb (by simp[z])) e
 self:=λi s Q E st hQ=>by
  obtain⟨q1,f,q2,q3,q4⟩:=st;have hT:s.TypeIs (.ref I) "set_iterator":=⟨_,q3,rfl⟩;refine wpAny_pyIter_slot hT z3U (K2a z3U hT z5u ?_ (z6p _));show wpAny _ _ (ret (.ref I)) _ _ s;exact K4 ⟨_,rfl,"set_iterator",_,hT,slot_si_next.lookup,hQ⟩
theorem zl6{Q:Value->Shared->Prop}(ho:s.heap.get? S=some o)(hc:o.ExactSet)(hd:o.data=.set es ep t)(hf:t.fits es.size=true)(hr:Rise t.place)(hb:es.size<scanBound)(hl:t.led=true\/w.params.followText "set-order" = true)
 (hQ:∀(h':Heap) (d':Drawn) (I:Addr) (f:Value) (ord:List (Int×Value)) (tl:List Addr),(∀b ob,s.heap.get? b=some ob->h'.get? b=some ob)->.(3)<=I->h'.get? I=some (z7h f 0 S es.size ep)->(∀T,f=.ref T->T∈tl)->(∀T∈tl,.(3)<=T/\T<h'.objs.size/\T≠I)->Stand w S es ep t h' 0 f ord->Q (.ref I) { s with heap:=h',drawn:=d' }) :
 wpAny .(x) A (pyIter (.ref S)) Q E s:=by
 have hT:s.TypeIs (.ref S) "set":=⟨o,ho,hc.1⟩;refine wpAny_pyIter_slot hT F.slot_set_iter (K2a F.slot_set_iter hT z6t ?_ (z72 _));unfold Builtin.«frozenset.__iter__» Builtin.Frozenset.slot0 slotArgs;simp only[K8h,K6s,K1k,↓reduceIte,Z1u,K06,bne_self_eq_false];unfold K86 K5h;refine K0 (K4 ?_)
 try dsimp only
 refine K0 (K4 ?_);refine K0 (K0 (K4d ho hd hf (K4 ?_)));unfold setDrawn K6p;refine K0 (K0 (K2k ho hd hf (K0 (K0 (K20 (K4 (K4 ?_)))))));dsimp only;have tailW:∀(h0:Heap) (d0:Drawn) (first:Value) (ord:List (Int×Value)) (tl:List Addr),(∀b ob,s.heap.get? b=some ob->h0.get? b=some ob)->.(3)<=h0.objs.size->(∀T,first=.ref T->T∈tl)->(∀T∈tl,.(3)<=T/\T<h0.objs.size) ->
  (∀h',(∀b ob,h0.get? b=some ob->h'.get? b=some ob)->Stand w S es ep t h' 0 first ord) ->
  wpAny .(x) A.in1 (setEpoch S >>= λe=>newFields "set_iterator" [first,rawInt 0,.ref S,rawInt es.size,rawInt e] >>= λv=>ret v) (λfin s'=>∃v,fin=.done (.ret v)/\∃T' r,s'.TypeIs v T'/\typeLookup (K46 T') (K03 "__next__")=pure (some r)/\Q v s') E { s with heap:=h0,drawn:=d0 }:=λh0 d0 first ord tl k1 k2 k3 k4 k5=>by
  refine K0 (K84 (s:={ s with heap:=h0,drawn:=d0 }) (k1 S o ho) hd hf ?_);refine K0 (K1v (K4 ⟨_,rfl,"set_iterator",_,⟨_,K0j _ rfl,rfl⟩,slot_si_next.lookup,?_⟩));refine hQ _ d0 h0.objs.size first ord tl (λb ob e=>K9 _ (k1 b ob e)) k2 (K0j _ rfl) k3 (λT hT=>?_) (k5 _ λb ob e=>K9 _ e)
  obtain⟨z1,z2⟩:=k4 T hT;exact⟨z1,by rw[K2q];exact K4w z2,K0x z2⟩
 cases hb':w.params.followText "set-order" with
 | true=>
  rw[show (model P w).w.params.followText "set-order" = true from hb',if_neg .(e)];refine K0 (K4 ?_);exact tailW s.heap s.drawn (rawInt 0) _ [] (λ_ _ e=>e) (K01 _) (λT z=>by cases z) (λT z=>by cases z) λh' _=>.txt hb'
 | false=>
  rw[show (model P w).w.params.followText "set-order" = false from hb'];have led:t.led=true:=by
   rcases hl with hl|hl
   ·exact hl
   ·rw[hb']at hl;cases hl
  show wpAny _ _ (if (!false&&(!t.plain&&decide (es.size > 1)))=true then _ else _) _ _ _;rw[K6c,Z1i];cases hdr:(!t.plain&&decide (es.size > 1)) with
  | false=>
   rw[if_neg .(1)];refine K0 (K4 ?_);exact tailW s.heap s.drawn (rawInt 0) _ [] (λ_ _ e=>e) (K01 _) (λT z=>by cases z) (λT z=>by cases z) λh' _=>.slo 0 hb' hdr led (z99 hr)
  | true=>
   rw[if_pos rfl];refine K0 (z3J es.size (K0b es.size) s _ .(e) λys d' pm=>?_);have ly:(ys.map λ(i:Nat)=>rawInt i).length<=sizeLine:=by
    rw[K0c,pm.length_eq,K1f];exact K4y hb
   refine K0 (wpAny_newTuple ?_ ly);refine tailW (s.heap.push { cls:=.type "tuple",data:=.seq (ys.map λ(i:Nat)=>rawInt i).toArray }) d' (.ref .(3)) _ [.(3)] (λb ob e=>K9 _ e) (by rw[K2q];exact K5z _)
    (λT z=>by cases z;exact K0q.mpr rfl) (λT z=>?_) λh' k=>.drw .(3) ys hb' ⟨_,_,k _ _ (K0j _ rfl),rfl⟩ pm
   have:=K0q.mp z;subst this;exact⟨K01 _,by rw[K2q];exact K8l _⟩
theorem z7P{Q:List Value->Shared->Prop}(hh:A.handled=none)(ho:s.heap.get? S=some o)(hc:o.ExactSet)(hd:o.data=.set es ep t)(hf:t.fits es.size=true)(hr:Rise t.place)(hb:es.size<scanBound)(hl:t.led=true\/w.params.followText "set-order" = true)
 (hQ:∀(h':Heap) (d':Drawn) (tk:Nat) (ord:List (Int×Value)),(∀b ob,s.heap.get? b=some ob->h'.get? b=some ob)->.(3)<=h'.objs.size->ord.Perm es.toList->Q (ord.map (·.2)) { s with heap:=h',drawn:=d',toks:=tk }) :
 wpAny .(x) A (collect (.ref S)) Q E s:=by
 have hS:S<s.heap.objs.size:=K0f ho;unfold collect;refine K0 (K9m (K3k F.entry_proto_collect ?_));rw[K3d F.plain_proto_collect _];show wpAny _ A.in1 (newList [] >>= λl=>again (.builtin "list.__iadd__" ⟨[l,.ref S],[]⟩)) _ _ s;refine K0 (K1v (K4 ⟨K6t Z2j _,K3k F.entry_list_iadd ?_⟩));rw[K3d Z2j _];show wpAny _ A.in1 (K74 (.ref .(3)) (.ref S) (.ref .(3))) _ _ _;unfold K74;have g1:(s.heap.push { cls:=.type "list",data:=.seq ([]:List Value).toArray }).get? S=some o:=K9 _ ho;have tS:K5i { s with heap:=s.heap.push { cls:=.type "list",data:=.seq ([]:List Value).toArray } } (.ref S) "set":=⟨o,g1,hc.1⟩;refine K0 (K58 tS ?_);have n1:K89 (.ref .(3)) (.ref S)=false:=by
  simp only[K89];exact beq_eq_false_iff_ne.mpr (K30 hS)
 rw[if_neg (by rw[n1];decide)];refine K0 (zl6 (s:={ s with heap:=s.heap.push { cls:=.type "list",data:=.seq ([]:List Value).toArray } }) g1 hc hd hf hr hb hl λh1 d1 I f ord tl k1 k2 k3 k4 k5 st=>?_);have g2:h1.get? S=some o:=k1 S o g1;have gL:h1.get? .(3)=some { cls:=.type "list",data:=.seq ([]:List Value).toArray }:=k1 _ _ (K0j _ rfl);have tS2:K5i { s with heap:=h1,drawn:=d1 } (.ref S) "set":=⟨o,g2,hc.1⟩;refine K0 (K1h ?_);unfold Builtin.List.listLengthHint;refine K0 (K96 tS2 F.slot_set_len.lookup ?_);have sp:splitId "set.__len__" = some ("set","__len__"):=by decide +kernel
 dsimp only;rw[sp];dsimp only;refine K0 (K6q (b:=true) tS2 (by rw[K6i];kernel_rfl) ?_);rw[if_neg .(1),if_pos .(5)];refine K0 (K58 tS2 (K4 ?_));rw[if_pos .(5)];have u1:=get?_update_seq (c:="list") (xs:=([]:List Value).toArray) (n:=0) gL (·.push .none);have u2:=get?_update_seq u1 (·.pop);refine K0 (K5u ?_);unfold Builtin.List.listTouch;refine K0 (K0 (listUpdate_at (s:={ s with heap:=h1,drawn:=d1 }) gL rfl (listUpdate_at (s:={ s with heap:=h1.update .(3) (K48 (·.push .none)),drawn:=d1 }) u1 rfl ?_)));generalize hh2:(h1.update .(3) (K48 (·.push .none))).update .(3) (K48 (·.pop))=h2 at u2 ⊢;have keep2:∀b ob,b≠.(3)->h1.get? b=some ob->h2.get? b=some ob:=λb ob hb e=>by
  rw[<- hh2,K3m _ _ (K57 hb),K3m _ _ (K57 hb)];exact e
 have hIs:.(3)+1<=I:=by rw[K2q]at k2;exact k2
 have hSI:S≠I:=K0x (K10 hS (Z2i hIs));have lo:ord.length=es.size:=by rw[st.perm.length_eq,K1d]
 have W:=zr2 (P:=P) (w:=w) (A:=A.in1) (S:=S) (I:=I) (ord:=ord) (o:=o) (tl:=tl) (by simp[hh]) hd hf hr hSI lo (λz=>(k5 I z).2.2 rfl);have hLf:.(3)∉I::S::tl:=by
  simp only[K0l,not_or];refine⟨K0x hIs,K30 hS,λz=>?_⟩;have:=(k5 _ z).1;rw[K2q]at this;exact K2x _ this
 have st0:(λi (h:Heap)=>h.get? S=some o/\∃f,(∀T,f=.ref T->T∈tl)/\h.get? I=some (z7h f i S es.size ep)/\Stand w S es ep t h i f ord) 0 h2:=by
  refine⟨keep2 S o (K0x hS) g2,f,k4,keep2 I _ (K30 hIs) k3,?_⟩;cases st with
  | txt b=>exact .txt b
  | slo sl b c l e2=>exact .slo sl b c l e2
  | drw T pl b hT hp=>
   obtain⟨oT,nT,gT,dT⟩:=hT;refine .drw T pl b ⟨oT,nT,keep2 T oT (λz=>?_) gT,dT⟩ hp;have:=(k5 T (k4 T rfl)).1;rw[K2q,z]at this;exact K2x _ this
 refine K4 ⟨K6t F.plain_extend_loop _,codeAny_extend_loopS W.toS (K4y hb) s.heap.objs.size hLf _ es.size 0 { s with heap:=h2,drawn:=d1 } #[] 2 .(0) (K4j _) st0 (by simpa [seqObj] using u2) (ItemsOf.nil _) λs' acc c' hm gS' hacc=>?_⟩;show wpAny _ A (load .(3) >>= _) _ _ s';refine K0 (wpAny_load gS' (K4 ?_));have ea:acc.toList=ord.map (·.2):=by
  refine Z2d λj=>?_;rw[K0a,K38];cases hj:acc[j]? with
  | none=>
   have h1:=Array.getElem?_eq_none_iff.mp hj;rw[hacc.1]at h1;rw[K1j .(0)];rfl
  | some v=>
   obtain⟨e,h1,h2⟩:=hacc.2 j v hj;rw[h1,h2];rfl
 rw[ea];obtain⟨h',g',d',tk',os'⟩:=s';have e1:g'=s.gens:=hm.gens;have e2:d'=d1:=hm.drawn;have e3:os'=s.os:=hm.os;subst e1;subst e2;subst e3;refine hQ h' d' tk' ord (λb ob e=>?_) ?_ st.perm
 ·have hb2:b≠s.heap.objs.size:=K0x (K0f e);refine hm.heap b ob ?_ (keep2 b ob hb2 (k1 b ob (K9 _ e)));simp only[K0l,K0q,K2u,or_false,not_or];exact⟨hb2,K0x (K10 (K0f e) (Z2i hIs))⟩
 ·exact K56 (K0f gS')
theorem z7s{k:Key}{u:Value}(r:RelV (kV k) u):z1N k u=true:=by
 cases k with
 | inl i=>obtain⟨t,rfl⟩:=r;exact z6V i t
 | inr x=>obtain⟨t,rfl⟩:=r;exact z5U x t
theorem z6H:∀{ks:List Key}{us:List Value},Vals (ks.map kV) us->∀(i:Nat) u,us[i]?=some u->∃k,ks[i]?=some k/\z1N k u=true
 | [],_,h,i,u,e=>by cases h;simp at e
 | k::ks,_,.cons h1 h2,0,u,e=>by simp at e;subst e;exact⟨k,rfl,z7s h1⟩
 | k::ks,_,.cons h1 h2,i+1,u,e=>by
  obtain⟨k',q1,q2⟩:=z6H h2 i u (by simpa using e);exact⟨k',by simpa using q1,q2⟩
theorem z9x(ks:List Key):(K0b ks.length).map (λi=>(ks[i]?).getD (.inl 0))=ks:=by
 refine Z2d λi=>?_;rw[K0a];by_cases h:i<ks.length
 ·rw[K35 h,K8 h];simp[K8 h]
 ·rw[K1j (by simpa using h),K1j .(0)];rfl
theorem zh3(hc:X.calm=true):z43 X (.type "set") (λxs H Q=>∃l ks,xs=[.ref l]/\(SqL X.K H l (ks.map kV)\/SqT X.K H l (ks.map kV))/\ks.length+1<scanBound/\∀q,H q=none->Q (.ref q) (upd H q (.set (dedK ks)))):=by
 intro pins s σ H xs us Q I r h;obtain⟨l,ks,rfl,hq,hb,q⟩:=h;obtain⟨u,rfl,ru⟩:=vals1 r;cases ru;have hh:=I.ok.hd hc;have go:∀{its:List Value} {T:String},T = "list"\/T = "tuple"->Vals (ks.map kV) its->(∃o,s.heap.get? l=some o/\o.cls=.type T/\∃n,o.data=.seq its.toArray n)->wpAny .(6) X.A (call (.type "set") [.ref l]) (EP X pins σ Q) X.xe s:=λ{its T} hT rv hl=>by
  have le:its.length=ks.length:=by rw[<- rv.length,K0c]
  refine zc9 (key:=λi=>(ks[i]?).getD (.inl 0)) hT hh hl (λi v e=>?_) (by rw[K07,le];exact hb) λh' tk S2 kp=>?_
  ·obtain⟨k,e1,e2⟩:=z6H rv i v (by simpa using e);rw[e1];exact e2
  ·rw[show its.toArray.size=ks.length by rw[K07,le],z9x]at S2;exact⟨.ref .(3),_,I.laid (t':=tk) (o:=.set (dedK ks)) kp (K01 _) S2,rfl,q _ I.fresh⟩
 rcases hq with hq|hq
 ·obtain⟨its,r',pl,hz⟩:=I.list hq;exact go (.inl rfl) r' pl.isList
 ·obtain⟨its,r',pl,hz⟩:=I.tuple hq;exact go (.inr rfl) r' pl
theorem z4M{σ:L2.St}(I:L2.Inv X pins σ H s)(h:H a=some (.set ks)):SetAt X.w s.heap a ks:=I.hok a _ h
theorem zK8:OpR X (K1w .NotIn) (λx y H Q=>∃k a ks,x=kV k/\y=.ref a/\H a=some (.set ks)/\Q (.bl (!decide (k∈ks))) H):=by
 intro pins s σ H x y v u Q I rx ry h;obtain⟨k,a,ks,rfl,rfl,hH,q⟩:=h;cases ry;have hk:=z7s rx;exact wpAny_notInSet_of (knd:=Y0 X.prog X.w) hk (z4h hk) (z4M I hH).setOf ⟨.bl _,H,I.tok _,rfl,q⟩
theorem zz9:MtR X "set.add" (λx vs H Q=>∃a ks k,x=.ref a/\vs=[kV k]/\H a=some (.set ks)/\ks.length+1<scanBound/\Q .non (upd H a (.set (putK ks k)))):=by
 intro pins s σ H x vs v us Q I rx rv h;obtain⟨a,ks,k,rfl,rfl,hH,hb,q⟩:=h;cases rx;obtain⟨u,rfl,ru⟩:=rv.one;refine zr5 (z7s ru) (z4M I hH) hb λh' sb S2=>?_;obtain⟨o2,_,_,_,_,g2,_⟩:=id S2;exact⟨.non,_,I.write (x:=a) (e:=a) (o:=.set (putK ks k)) (t':=s.toks+1) (by rw[hH];trivial) (.inl rfl) (λb ob hb e=>by rw[sb.2 b hb];exact e) ⟨o2,g2⟩ S2,rfl,q⟩
theorem ze4:∀{ns:List Int}{l:List (Int×Value)}{w:World}{ks:List Key},ks=ns.map K21->Paired (KE w) ks l->K81 (l.map (·.2)) ns
 | [],l,w,ks,e,h=>by subst e;cases h;exact .nil
 | n::ns,l,w,ks,e,h=>by
  subst e;cases h with
  | cons h1 h2=>
   rcases y8 h1.1 with ⟨i,t,e1,e2⟩|⟨x,t,e1,e2⟩
   ·cases e1;rw[K0p,e2];exact .cons _ t (ze4 rfl h2)
   ·cases e1
theorem zp2{ns:List Int}:∀{ks:List Key},ks.Perm (ns.map K21)->∃ms:List Int,ks=ms.map K21/\ms.Perm ns:=λ{ks} p=>by
 have:∀k∈ks,∃i:Int,k=K21 i:=λk hk=>by
  obtain⟨i,_,e⟩:=K1a.mp (p.mem_iff.mp hk);exact⟨i,e.symm⟩
 have e:ks=(ks.filterMap λk=>match k with|.inl i=>some i|.inr _=>none).map K21:=by
  clear p;induction ks with
  | nil=>rfl
  | cons k ks ih=>
   obtain⟨i,rfl⟩:=this k K18;rw[K4c];dsimp only;rw[K0p,<- ih λk hk=>this k (K14 _ hk)]
 refine⟨_,e,?_⟩;have q:=p.filterMap λk=>match k with|.inl i=>some i|.inr _=>none
 refine q.trans ?_;rw[K7j];have:(List.filterMap ((λk:Key=>match k with|.inl i=>some i|.inr _=>none) ∘ K21) ns)=ns:=by
  induction ns with
  | nil=>rfl
  | cons n ns ih=>simp[K7w]
 rw[this]
theorem z5W(hc:X.calm=true):z43 X (.builtin "sorted") (λxs H Q=>∃a ns,xs=[.ref a]/\H a=some (.set (ns.map K21))/\ns.length<64/\∀q,H q=none->Q (.ref q) (upd H q (.lst ((sortI ns).map V.int)))):=by
 intro pins s σ H xs us Q I r h;obtain⟨a,ns,rfl,hH,h64,q⟩:=h;obtain⟨u,rfl,ru⟩:=vals1 r;cases ru;obtain⟨o,es,ep,t,ks',h1,h2,h3,h4,h5,h6,h7,h8,h9,h0⟩:=z4M I hH;refine Calls.call_function_entry kind_sorted plain_sorted entry_sorted (args_sorted1 _) ?_;unfold Builtin.«sorted»;refine K0 (m:=checkCount "sorted" 1 1 _) (K4 ?_);refine K0 (z7P (by simp[I.ok.hd hc]) h1 h2 h3 h8 h9 h7 h0 λh' d' tk ord kp sz pm=>?_);obtain⟨k2,p1,p2⟩:=z23 pm h4;obtain⟨ms,rfl,pm2⟩:=zp2 (p1.trans h5);have ia:=ze4 rfl p2;have l1:(ord.map (·.2)).length=ns.length:=by rw[<- pm2.length_eq,K0c,<- K3b p2,K0c]
 refine K0 (wpAny_newList ?_ (by rw[l1];exact K56 (K10 h64 .(1))));have gL:(h'.push (seqObj "list" (ord.map (·.2)).toArray 0)).get? h'.objs.size=some (seqObj "list" (ord.map (·.2)).toArray 0):=K0j _ rfl;refine K0 (K1h (K2a slot_list_sort ⟨_,gL,rfl⟩ entry_list_sort (list_sort_tree gL ia (by rw[l1];exact h64) λout ns' a1 a2 a3=>⟨_,rfl,?_⟩) (args_list_sort _)));refine K4 ⟨_,rfl,?_⟩;obtain⟨e,ge⟩:=sortedHeap_at (out:=out) gL;have es':ns'=sortI ns:=z8C (a2.trans pm2) a3;subst es';have un:∀b ob,s.heap.get? b=some ob->(sortedHeap (h'.push (seqObj "list" (ord.map (·.2)).toArray 0)) h'.objs.size (ord.map (·.2)) out).get? b=some ob:=λb ob eb=>by
  have lt:=K0f (kp b ob eb);rw[sortedHeap_old (K0x lt) (by rw[K2q];exact K4w lt)];exact K9 _ (kp b ob eb)
 have ho:=I.hok.laid (a:=h'.objs.size) (o:=.lst ((sortI ns).map V.int)) un sz ⟨by rw[K0c,(sortI_perm ns).length_eq];exact K56 (K10 h64 .(1)),out.toList,e,z8s a1,ge⟩;exact⟨.ref h'.objs.size,_,I.call' (s':={ s with heap:=_,drawn:=d',toks:=tk }) (ch:=[]) rfl (Un.laid un sz (I.hok.fresh sz)) ho I.bare (λb z=>absurd z .(e)),rfl,q _ (I.hok.fresh sz)⟩
def keyD:D->Option Key
 | .int i=>some (.inl i)
 | .str x=>some (.inr x)
 | _=>none
def z5m:List D->Option (List Key)
 | []=>some []
 | d::r=>match keyD d,z5m r with
  | some k,some ks=>some (k::ks)
  | _,_=>none
theorem z7q{k:Key}(e:keyD d=some k)(r:RD K ρ H d v):v=kV k:=by
 cases d<;>first|(simp only[keyD]at e;cases e;done)|skip
 ·simp only[keyD,K7v]at e;subst e;simp only[RD]at r;exact r
 ·simp only[keyD,K7v]at e;subst e;simp only[RD]at r;exact r
theorem z8E{K:K5}{ρ:List Addr}{H:Hp}:∀{ds:List D}{ks:List Key}{vs:List V},z5m ds=some ks->RDs K ρ H ds vs->vs=ks.map kV
 | [],ks,vs,e,r=>by simp only[RDs]at r;cases e;subst r;rfl
 | d::ds,ks,vs,e,r=>by
  simp only[RDs]at r;obtain⟨v,r2,rfl,h1,h2⟩:=r;rw[z5m]at e;cases e1:keyD d with
  | none=>rw[e1]at e;cases e
  | some k=>
   rw[e1]at e;cases e2:z5m ds with
   | none=>rw[e2]at e;cases e
   | some ks'=>
    rw[e2]at e;cases e;rw[z7q e1 h1,z8E e2 h2];rfl
def getS(n:Nat):M (List Key):=λh=>match h[n]? with
 | some (.set ks)=>.ok ks h
 | _=>.bad
def newSet(ks:List Key):M D:=λh=>.ok (.ref h.length) (h++[.set ks])
def z1H:List D->M D
 | [x]=>do
  let xs <- seqD x
  match z5m xs with
  | some ks=>if ks.length+1<4096 then newSet (dedK ks) else bad
  | none=>bad
 | _=>bad
def fInS(neg:Bool):D->D->M D:=λx y=>match y with
 | .ref n=>do
  let ks <- getS n
  match keyD x with
  | some k=>pure (.bl (decide (k∈ks) != neg))
  | none=>bad
 | _=>bad
def z68:List Key->Option (List Int)
 | []=>some []
 | .inl i::r=>(z68 r).map (i::·)
 | .inr _::_=>none
theorem z8V:∀{ks:List Key}{ns:List Int},z68 ks=some ns->ks=ns.map K21
 | [],ns,e=>by cases e;rfl
 | .inl i::r,ns,e=>by
  rw[z68]at e;obtain⟨ms,e1,rfl⟩:=K11.mp e;rw[z8V e1];rfl
 | .inr _::_,ns,e=>by rw[z68]at e;cases e
def z0Q:List D->M D
 | [.ref n]=>do
  let ks <- getS n
  match z68 ks with
  | some ns=>if ns.length<64 then newL ((sortI ns).map .int) else bad
  | none=>bad
 | _=>bad
def zc7:D->M Nat
 | .ref n=>λh=>match h[n]? with
  | some (.set _)=>.ok n h
  | _=>.bad
 | _=>bad
def z96(n:Nat)(v:D):M D:=λh=>match h[n]? with
 | some (.set ks)=>(match keyD v with
  | some k=>if ks.length+1<4096 then .ok .non (h.set n (.set (putK ks k))) else .bad
  | none=>.bad)
 | _=>.bad
def eMS(f:Nat->D->M D)(mo ma:G->M D):G->M D:=λγ=>do
 let o <- mo γ;let n <- zc7 o;let v <- ma γ
 f n v
section
variable{a o:Expr}
theorem z4b{Z:List Key->List Addr->AH->Hp->Prop}(r:RH K ρ h H)(hq:ρ[n]?=some q)(f:Fin K EX ρ H Z (getS n h)):∃ks,H q=some (.set ks)/\Z ks ρ h H:=by
 unfold getS at f;cases e:h[n]? with
 | none=>rw[e]at f;exact f.elim
 | some ob=>
  cases ob with
  | lst xs=>rw[e]at f;exact f.elim
  | dct=>rw[e]at f;exact f.elim
  | dK kvs=>rw[e]at f;exact f.elim
  | dF kvs=>rw[e]at f;exact f.elim
  | exc c=>rw[e]at f;exact f.elim
  | ins _ _=>rw[e]at f;exact f.elim
  | set ks=>
   rw[e]at f;obtain⟨a1,n1,o1⟩:=r.at e;rw[hq]at n1;cases n1;exact⟨ks,o1,f ρ H .(c) .(b) r⟩
theorem z3B{Q:VK}(r:RH K ρ h H)(hq:H q=none)(f:FE K EX ρ H Q (newSet ks h)):Q (.ref q) (upd H q (.set ks)):=by
 refine f (ρ++[q]) _ (Pre.app _ _) (Ext.upd (.inl hq)) (r.pushS hq) (.ref q) ?_;simp only[RD];exact⟨q,rfl,by rw[<- r.len];simp⟩
theorem zP8:AR X.K EX (λxs H Q=>∃l ks,xs=[.ref l]/\(SqL X.K H l (ks.map kV)\/SqT X.K H l (ks.map kV))/\ks.length+1<scanBound/\∀q,H q=none->Q (.ref q) (upd H q (.set (dedK ks)))) z1H:=by
 intro ρ h H ds vs Q r rd fin;unfold z1H at fin;split at fin
 ·rename_i x;obtain⟨v,rfl,rv⟩:=rds1 rd;have f1:=Fin.bind fin;cases e:seqD x h with
  | bad=>rw[e]at f1;exact f1.elim
  | err z hz=>exact(z3L e).elim
  | ok ys h1=>
   obtain⟨rfl,p,xs,rfl,hs,hd⟩:=z2D r rv e;rw[e]at f1;have f2:=f1 ρ H .(c) .(b) r;dsimp only at f2;cases e2:z5m ys with
   | none=>rw[e2]at f2;exact f2.elim
   | some ks=>
    rw[e2]at f2;dsimp only at f2;split at f2
    ·rename_i hl;have ek:=z8E e2 hd;subst ek;exact⟨p,ks,rfl,hs,hl,λq hq=>z3B r hq f2⟩
    ·exact f2.elim
 ·exact fin.elim
theorem z5g(hc:X.calm=true)(hg:Gl X "set")(hm:X.mg "set" = none)(ha:SA X EX [a] mr)(he:K0k [a] X.env=[(false,eval a X.env)]:=by rfl):SE X EX (.Call (.Name "set" p) [a] [] pos) (Z8 z1H mr):=
 z2O (z2n (zh3 hc) hg hm .(5) ha.h .(1) .(1) he rfl) zP8
theorem zL0:BR K EX (λx y H Q=>∃k a ks,x=kV k/\y=.ref a/\H a=some (.set ks)/\Q (.bl (!decide (k∈ks))) H) (fInS true):=by
 intro ρ h H x y v u Q r rx ry fin;cases y<;>first|exact(show False from fin).elim|skip
 rename_i n;simp only[RD]at ry;obtain⟨q,rfl,hq⟩:=ry;obtain⟨ks,h1,f2⟩:=z4b r hq (Fin.bind fin);cases e:keyD x with
 | none=>rw[e]at f2;exact f2.elim
 | some k=>
  rw[e]at f2;refine⟨k,q,ks,z7q e rx,rfl,h1,?_⟩;have:=f2 ρ H .(c) .(b) r (.bl (decide (k∈ks) != true)) .(s);simpa using this
theorem zF1:CO X EX .NotIn (fInS true):=⟨_,zK8,zL0⟩
theorem z97:AR X.K EX (λxs H Q=>∃a ns,xs=[.ref a]/\H a=some (.set (ns.map K21))/\ns.length<64/\∀q,H q=none->Q (.ref q) (upd H q (.lst ((sortI ns).map V.int)))) z0Q:=by
 intro ρ h H ds vs Q r rd fin;unfold z0Q at fin;split at fin
 ·rename_i n;obtain⟨v,rfl,rv⟩:=rds1 rd;simp only[RD]at rv;obtain⟨q,rfl,hq⟩:=rv;obtain⟨ks,h1,f2⟩:=z4b r hq (Fin.bind fin);cases e:z68 ks with
  | none=>rw[e]at f2;exact f2.elim
  | some ns=>
   rw[e]at f2;dsimp only at f2;split at f2
   ·rename_i hl;refine⟨q,ns,rfl,by rw[h1,z8V e],hl,λl hl2=>?_⟩;unfold newL at f2;split at f2
    ·refine f2 (ρ++[l]) _ (Pre.app _ _) (Ext.upd (.inl hl2)) (r.push hl2 ?_) (.ref l) ?_
     ·have:∀ms:List Int,RDs X.K ρ H (ms.map D.int) (ms.map V.int):=λms=>by
       induction ms with
       | nil=>exact RDs.nil
       | cons m ms ih=>exact RDs.cons .(s) ih
      exact this _
     ·simp only[RD];exact⟨l,rfl,by rw[<- r.len];simp⟩
    ·exact f2.elim
   ·exact f2.elim
 ·exact fin.elim
theorem z5b(hc:X.calm=true)(hg:Gl X "sorted")(hm:X.mg "sorted" = none)(ha:SA X EX [a] mr)(he:K0k [a] X.env=[(false,eval a X.env)]:=by rfl):SE X EX (.Call (.Name "sorted" p) [a] [] pos) (Z8 z0Q mr):=
 z2O (z3k (z5W hc) hg hm boot_sorted ha.h .(1) .(1) he rfl) z97
theorem zY0(r:RH K ρ h H)(hq:ρ[n]?=some q)(f:Fin K EX ρ H Z (zc7 (.ref n) h)):tyV K "set" (.ref q) H/\Z n ρ h H:=by
 unfold zc7 at f;dsimp only at f;cases e:h[n]? with
 | none=>rw[e]at f;exact f.elim
 | some ob=>
  cases ob with
  | lst xs=>rw[e]at f;exact f.elim
  | dct=>rw[e]at f;exact f.elim
  | dK kvs=>rw[e]at f;exact f.elim
  | dF kvs=>rw[e]at f;exact f.elim
  | exc c=>rw[e]at f;exact f.elim
  | ins _ _=>rw[e]at f;exact f.elim
  | set ks=>
   rw[e]at f;obtain⟨a1,n1,o1⟩:=r.at e;rw[hq]at n1;cases n1;exact⟨.inr (.inr (.inr ⟨rfl,ks,o1⟩)),f ρ H .(c) .(b) r⟩
theorem zA3(ho:SE X EX o mo)(ha:SE X EX a ma)
 (hbase:K4a o "add" X.env (eval o X.env)=eval o X.env:=by rfl)
 (hfew:((backTo cpos (K0k [a] X.env)).all (λx=>!x.1)&&(K4s cpos (K37 [] X.env)).all (λx=>x.1.isSome)
 &&decide (([a]:List Expr).length+([]:List K5b).length+(if ([]:List K5b).isEmpty then 0 else 1)<30))=true:=by rfl)
 (hline:(apos.endLine==cpos.line)=true:=by rfl) (hs:K0k [a] X.env=[(false,eval a X.env)]:=by rfl) :
 SE X EX (.Call (.Attribute o "add" apos) [a] [] cpos) (eMS z96 mo ma):=
 ⟨PE.imp (zs2 PySem.F.plainAttrs_set PySem.F.slot_set_add PySem.F.type_set_add zz9 ho.h (z0N ha.h z2l hs) hbase hfew hline hs rfl) λσ H Q ⟨ρ,γ,h,rel,fin⟩=>⟨ρ,γ,h,rel,(Fin.bind fin).mono λx ρ1 h1 H1 p1 e1 r1 f1 v rv=>by
  have f2:=Fin.bind f1;cases x<;>first|exact(show False from f2).elim|skip
  rename_i n;simp only[RD]at rv;obtain⟨q,rfl,hq⟩:=rv;obtain⟨lt,f3⟩:=zY0 r1 hq f2;refine⟨lt,ρ1,γ,h1,⟨rel.g.mono p1 e1,r1⟩,(Fin.bind f3).mono λy ρ2 h2 H2 p2 e2 r2 f4 u ru=>?_⟩;unfold z96 at f4;cases e:h2[n]? with
  | none=>rw[e]at f4;exact f4.elim
  | some ob=>
   cases ob with
   | lst xs=>rw[e]at f4;exact f4.elim
   | dct=>rw[e]at f4;exact f4.elim
   | dK kvs=>rw[e]at f4;exact f4.elim
   | dF kvs=>rw[e]at f4;exact f4.elim
   | exc c=>rw[e]at f4;exact f4.elim
   | ins _ _=>rw[e]at f4;exact f4.elim
   | set ks=>
    rw[e]at f4;dsimp only at f4;obtain⟨a1,n1,o1⟩:=r2.at e;rw[p2 n q hq]at n1;cases n1;cases e3:keyD y with
    | none=>rw[e3]at f4;exact f4.elim
    | some k=>
     rw[e3]at f4;dsimp only at f4;split at f4
     ·rename_i hl;refine⟨q,ks,k,rfl,by rw[z7q e3 ru],o1,hl,?_⟩;exact f4 ρ2 _ .(c) (Ext.upd (.inr ⟨_,o1,trivial⟩)) (r2.setS e (p2 n q hq)) .non .(s)
     ·exact f4.elim⟩⟩
end
theorem zN5{P:K1i}{w:World}{base:Heap}{f:Addr}{fd:K53}{ps:List Str}{k:Nat}{mb:G->M Out}(F:Fun K x x st f fd)(S:FnScope N ps (j3 st))(hb:Binds K fd ps [])(mx:mg x=.(r f))(hn:ps.length=n)
 (body:∀(cdv:Value) (A:Around) (outer:List Env) (s:Shared) (H:Hp) (E:XK),K2y K cdv x=true->Room k (A.deeper (envOfC x (j3 st) .(3) f cdv)) ->
  SB (cxOf CX0 P w K mg base N x (j3 st) f cdv A outer s H E).nox EX0 (z03 st) mb):Fn P w K mg base (k+1) x n (runF N.length mb):=by
 refine⟨f,fd,ps,?_,hb,F.kp,mx⟩;obtain⟨oc,od,kV,doc,pm,an,cdv,ct,osl,rfl,lk,hcd⟩:=F.ex;refine zz5 lk hcd S (λvs H Q E h=>h.1.trans hn.symm) λA outer s H vs Q E hr h=>?_;obtain⟨hl,ρ,ds,h,rh,rd,fin⟩:=h;refine⟨_,(body cdv A outer s H E hcd hr).h.nox,ρ,z1b N.length ds,h,⟨z4n rd,rh⟩,?_⟩;refine(Fin.bind fin).mono λo ρ1 h1 H1 p1 e1 r1 f1=>?_;cases o with
 | nx γ=>exact λσ _=>FE.here (d:=.non) (h:=h1) f1 r1 .(s)
 | rt d=>exact λv rv=>f1 ρ1 H1 .(c) .(b) r1 v rv
 | bk γ=>exact(show False from f1).elim
 | ct γ=>exact(show False from f1).elim
theorem zf6(t:Addr)(items:Array Value):
 Meets (Builtin.«enumerate.__new__» ⟨[.type "enumerate",.ref t],[]⟩) (λ_ R s=>s.heap.IsTuple t items /\
  R (.ok (.ret (.ref (s.heap.push { cls:=.type "tuple_iterator",data:=.fields #[.ref t,.int 0 0] }).objs.size)))
   { s with heap:=(s.heap.push { cls:=.type "tuple_iterator",data:=.fields #[.ref t,.int 0 0] }).push { cls:=.type "enumerate",data:=.fields #[.none,.bool false,.ref .(3),rawInt 0,.none,.none] } }):=
 .of_wp λprog w A R s h=>by
  obtain⟨hp,g,d,tk,os⟩:=s;obtain⟨q1,h⟩:=h;have hsub:=sub_enumerate;have L1:Heap.IsTuple (Shared.heap ⟨hp,g,d,tk,os⟩) t items:=q1
  wp_walk
  refine wpAny_stack_any λst=>K4 ?_;split
  ·rename_i c _ _ _ _ _;cases (c==K46 "enumerate")
   ·wp_walk using K4o L1
    exact⟨_,rfl,h⟩
   ·wp_walk using K4o L1
    exact⟨_,rfl,h⟩
  ·wp_walk using K4o L1
   exact⟨_,rfl,h⟩
theorem zx5{P:K1i}{w:World}(hh:A.handled=none)(it t:Addr)(hne:t≠it)(items:Array Value):
 Draws P w A it [it,t] .(w) (λi v=>items[i]?=some v) (λi h=>h.IsTupleIter it t i/\h.IsTuple t items) where
 live:=λ_ _ st=>let ⟨o,ho,_⟩:=st.1;⟨o,ho⟩
 frame:=λ_ _ _ st hk=>⟨st.1.at λo e=>hk it .(e) o e,st.2.at λo e=>hk t .(e) o e⟩
 item:=λi s Q E hi st hQ=>zL5 st.1 st.2 (x:=items[i]) (by simp[hi]) λh' hit sb=>hQ _ h' s.toks (by simp[hi]) ⟨hit,st.2.extBut sb.extBut hne⟩ sb
 done:=λs Q E st hE=>zQ1 hh st.1 st.2 .(e) hE
def Ite(K:K5)(t:Addr):It:=
 ⟨λi H=>∃xs x,SqT K H t xs/\xs[i]?=some x,
  λi H v H'=>∃T x,H T=none/\v=.ref T/\(∀xs,SqT K H t xs->xs[i]?=some x)/\H'=upd H T (.tup [.int i,x]),
  λi H=>∃xs,SqT K H t xs/\xs.length=i⟩
theorem ze3{P:K1i}{w:World}{K:K5}{elts:List Expr}{kk:Nat}{pos:Pos}{e t:Addr}(d1:e≠it)(d2:t≠it)(d3:e≠t):
 Turn P w K (.Tuple elts kk pos) (Ite K t) [e,it] e (λi h=>(∃old,IsEnum h e it i old)/\h.IsTupleIter it t i) where
 mem:=by simp
 obj:=λi h st b hb=>by
  obtain⟨⟨old,ee⟩,o,ei,_,di⟩:=st;simp at hb;rcases hb with rfl|rfl
  ·exact⟨_,ee,λv q=>by cases q⟩
  ·exact⟨_,ei,λv q=>by rw[di]at q;cases q⟩
 keep:=λi h h' st k=>by
  obtain⟨⟨old,ee⟩,g⟩:=st;exact⟨⟨old,k e .(e) _ ee⟩,g.at λo q=>k it .(e) o q⟩
 item:=by
  intro X hP hw hK hc i pins s σ H E I hf st hg;subst hP hw hK;obtain⟨xs,x,q1,hx⟩:=hg;obtain⟨its,rv,pl,hz⟩:=I.tuple q1;obtain⟨u,hu,ru⟩:=rv.get hx;obtain⟨⟨old,ee⟩,g⟩:=st;have hi:i<its.toArray.size:=by
   have:=(K02.mp hu).1;simpa using this
  have pT:s.heap.IsTuple t its.toArray:=pl;refine wpAny_pyNext_enum_itemD (zx5 (by simp[I.ok.hd hc]) it t d2 its.toArray) ee ⟨g,pT⟩ hi d1 (by simp[d1,d3]) λy h' tk hy eo st' gT sz kp=>?_;have ey:y=u:=by
   have:its.toArray[i]?=some u:=by simpa using hu
   rw[hy]at this;exact K0y this
  subst ey;refine⟨_,rfl,wpAny_letOwnedTupleGo_enum eo λh2 eo2 sb=>?_⟩;have elt:e<s.heap.objs.size:=K0f ee;have ilt:it<s.heap.objs.size:=by obtain⟨o,q,_⟩:=g;exact K0f q
  have hT:IsTup0 h2 .(3) [K78 i tk,y].toArray:=⟨_,(sb.2 _ (K30 elt)).trans gT,⟨rfl,rfl⟩,_,rfl⟩;have J:=Z16 (t:=tk+1) (ch:=[e,it]) (T:=.(3)) (vs:=[.int i,x]) (its:=[.int i tk,y]) (h2:=h2) I hf
   (λb o hb q=>by simp at hb;exact(sb.2 b hb.1).trans (kp b o hb.1 hb.2 q)) (K01 _) hT (.cons ⟨tk,rfl⟩ (.cons ru .nil)) (by show 2<=sizeLine;decide)
  refine⟨.ref .(3),_,J,rfl,⟨_,x,I.hok.fresh (K01 _),rfl,λxs' h'=>by rw[I.tuple_inj h' q1];exact hx,rfl⟩,?_,λb hb=>?_⟩
  ·exact⟨⟨_,by simpa using eo2⟩,st'.1.at λo q=>(sb.2 _ (K57 d1)).trans q⟩
  ·have:b<s.heap.objs.size:=by
    simp at hb;rcases hb with rfl|rfl
    ·exact elt
    ·exact ilt
   rw[Y5 (K0x this)];exact(hf b hb).1
 done:=by
  intro X hP hw hK hc i pins s σ H E I hf st hg;subst hP hw hK;obtain⟨xs,q1,hl⟩:=hg;obtain⟨its,rv,pl,hz⟩:=I.tuple q1;obtain⟨⟨old,ee⟩,g⟩:=st;have l1:=rv.length;have pT:s.heap.IsTuple t its.toArray:=pl;have en:i=its.toArray.size:=by simp;omega
  refine wpAny_pyNext_enum_endD (zx5 (by simp[I.ok.hd hc]) it t d2 its.toArray) ee ⟨by rw[<- en];exact g,pT⟩ λh' eb=>⟨rfl,?_⟩;have hf':∀b∈[it],FpOk X pins H b:=λb hb=>hf b (by simp at hb;simp[hb]);refine I.step (g':=s.gens) (t':=s.toks) (d':=s.drawn) (ch:=[it]) (λb hb=>⟨(hf' b hb).2.2.2.1,(hf' b hb).2.1,(hf' b hb).2.2.2.2.1,(hf' b hb).2.2.2.2.2⟩) (λb o _ _ hc e _=>?_) (λb o _ _ hc e _=>⟨o.slots,?_⟩)
   (λ_ _ _ _ n=>n) (λb o hc e=>⟨o,?_⟩) (λ_ _ e=>e) (λ_ _ _ e=>e) (λb ps e=>⟨#[],by rw[e];simp⟩) (λm hm=>?_) (λb u e=>?_) I.bare
  ·simp at hc;exact eb b o hc e
  ·simp at hc;exact eb b o hc e
  ·simp at hc;exact eb b o hc e
  ·obtain⟨o,es,ep,q,r⟩:=hm;exact⟨o,es,ep,eb _ o (λy=>(hf' it .(e)).2.1 y.symm) q,r⟩
  ·refine(I.hok b u e).stay (λc v hc q=>?_) (λ_ q=>q) λ_ _ q=>q;refine eb c v (λy=>?_) q;subst y;rcases hc with y|y
   ·rw[<- y,(hf' c .(e)).1]at e;cases e
   ·rw[(hf' c .(e)).1]at y;cases y
 self:=λ_ _ _ _ _ st h=>by
  obtain⟨⟨old,ee⟩,g⟩:=st;exact wpAny_pyIter_enum ee h
section
variable{a:Expr}{pt:Pos}
def zU9(K:K5)(ta:TA):TI:=λσ H R=>ta σ H λvs H2=>∃t xs,vs=[.ref t]/\SqT K H2 t xs/\R (Ite K t) H2
theorem zC4{ta:TA}(hg:Gl X "enumerate")(hm:X.mg "enumerate" = none)(ha:PA X [a] ta)(hs:K0k [a] X.env=[(false,eval a X.env)]:=by rfl):PI X (.Tuple elts kk pt) (.Call (.Name "enumerate" p) [a] [] pos) (zU9 X.K ta):=by
 intro pins s σ H R I h;refine Call_ (z3W I hg hm boot_enumerate (K2w (thn (ha pos pins s σ H _ I h) λus s1 ⟨vs,H1,I1,r1,q1⟩=>?_) (by rw[hs];rfl) rfl));obtain⟨t,xs,e,q2,q⟩:=q1;subst e;obtain⟨u,rfl,ru⟩:=vals1 r1;cases ru;obtain⟨its,rv,pl,hz⟩:=I1.tuple q2;have pT:s1.heap.IsTuple t its.toArray:=pl;have lt:t<s1.heap.objs.size:=by obtain⟨o,e,_⟩:=pl;exact K0f e
 refine callType_new PySem.F.called_enumerate .(1) (PySem.F.typeCall_enumerate_1 _) (PySem.F.newCall_enumerate_1 _) (λobj=>PySem.F.args_object_init_2 obj _) PySem.F.entry_enumerate_new (zf6 t its.toArray) ⟨pT,?_⟩;have y1:(s1.heap.push { cls:=.type "tuple_iterator",data:=.fields #[.ref t,.int 0 0] }).objs.size=.(q)+1:=K2q ..;have x2:((s1.heap.push { cls:=.type "tuple_iterator",data:=.fields #[.ref t,.int 0 0] }).push { cls:=.type "enumerate",data:=.fields #[.none,.bool false,.ref .(q),rawInt 0,.none,.none] }).get? (.(q)+1)=some { cls:=.type "enumerate",data:=.fields #[.none,.bool false,.ref .(q),rawInt 0,.none,.none] }:=by rw[<- y1];exact K0j _ rfl
 have x1:((s1.heap.push { cls:=.type "tuple_iterator",data:=.fields #[.ref t,.int 0 0] }).push { cls:=.type "enumerate",data:=.fields #[.none,.bool false,.ref .(q),rawInt 0,.none,.none] }).get? .(q)=some { cls:=.type "tuple_iterator",data:=.fields #[.ref t,.int 0 0] }:=K9 _ (K0j _ rfl);show _/\_;rw[y1];refine⟨⟨_,x2,rfl⟩,wpAny_pyIter_enum (e:=.(q)+1) (it:=.(q)) (i:=0) (old:=.none) x2 ?_⟩;refine⟨.(q)+1,_,_,_,H1,rfl,I1.kept (t':=s1.toks) (λc o q=>K9 _ (K9 _ q)),ze3 (it:=.(q)) (t:=t) (K30 (K8l _)) (K0x lt) (K30 (K4w lt)),⟨⟨_,x2⟩,⟨_,x1,rfl,rfl⟩⟩,λb hb=>?_,q⟩;have hb':.(q)<=b:=by
  simp at hb;rcases hb with rfl|rfl
  ·exact K5z _
  ·exact K01 _
 exact I1.fpOk hb' (I1.hok.fresh hb')
def z4P(xs:List D):List D:=(K0b xs.length).map λ(i:Nat)=>.tup [.int i,(xs[i]?).getD .non]
def zW5(ma:G->M D):G->M Src:=λγ=>do
 let l <- z7 ma aNil γ
 match l with
 | [.tup xs]=>pure (.con (z4P xs))
 | _=>bad
theorem zI1{xs:List D}(h:(z4P xs)[i]?=some d):∃x,xs[i]?=some x/\d=.tup [.int i,x]:=by
 unfold z4P at h;rw[K0a]at h;obtain⟨j,e1,e2⟩:=K11.mp h;obtain⟨h1,h2⟩:=K02.mp e1;simp at h1 h2;subst h2;rw[K8 h1]at e2;exact⟨_,K8 h1,e2.symm⟩
theorem zF6(hc:X.calm=true)(hg:Gl X "enumerate")(hm:X.mg "enumerate" = none)(ha:SE X EX a ma)(hs:K0k [a] X.env=[(false,eval a X.env)]:=by rfl):SI X EX (.Tuple elts kk pt) (.Call (.Name "enumerate" p) [a] [] pos) (zW5 ma):=
 ⟨PI.imp (zC4 hg hm (z6 ha Z0 hs).h hs) λσ H R ⟨ρ,γ,h,rel,fin⟩=>⟨ρ,γ,h,rel,(Fin.bind fin).mono λl ρ1 h1 H1 p1 e1 r1 f1 vs rv=>by
  split at f1
  ·rename_i xs;simp only[RDs,RD]at rv;obtain⟨_,_,rfl,⟨t,us,rfl,q1,d1⟩,rfl⟩:=rv;refine⟨t,us,rfl,q1,f1 ρ1 H1 .(c) .(b) r1 _ λi ρ2 h4 H2 p2 e2 r2 _=>⟨λd hd=>?_,λhi=>?_⟩⟩
   ·have hd':(z4P xs)[i]?=some d:=hd;obtain⟨x,g1,rfl⟩:=zI1 hd';obtain⟨v1,a1,b1⟩:=(d1.mono p2 e2).get g1;refine⟨⟨us,v1,e2.t _ _ q1,a1⟩,λv H3 ⟨T,x',n1,n2,n3,n5⟩=>?_⟩;have m1:=n3 us (e2.t _ _ q1);rw[a1]at m1;cases m1;subst n2;subst n5;have ext:Ext X.K H2 (L2.upd H2 T (.tup [.int i,v1])):=Ext.upd (.inl n1);refine⟨?_,r2.other n1,ext⟩;simp only[RD];exact⟨T,_,rfl,SqT.of Y9,RDs.cons .(s) (RDs.cons (b1.mono .(c) ext) RDs.nil)⟩
   ·have hi':(z4P xs).length=i:=hi;unfold z4P at hi';rw[K0c,K1f]at hi';have l1:=d1.length;exact⟨us,e2.t _ _ q1,by omega⟩
  ·exact(show False from f1).elim⟩⟩
end
def z3T(src:Src)(g:D->G->M G)(mi:G->M Src)(g1:D->G->M G)(k:G->M Bool)(me:G->M D)(n0:Nat)(γ:G):List D->M Unit
 | []=>do
  let _ <- src.chk
  pure ()
 | d::r=>do
  let _ <- src.chk;let γ1 <- g d γ;let s1 <- mi γ1;let _ <- z3p s1 g1 k me n0 γ1 s1.items
  z3T src g mi g1 k me n0 γ r
def z6q(cap:List (Option Nat))(mi:G->M Src)(g:D->G->M G)(mi1:G->M Src)(g1:D->G->M G)(k:G->M Bool)(me:G->M D):G->M D:=λγ=>do
 let src <- mi γ;let n0 <- (λh=>.ok .(h) (h++[.lst []]):M Nat);let _ <- z3T src g mi1 g1 k me n0 (capG cap γ) src.items
 pure (.ref n0)
section
variable{elt tg1 iter1:Expr}{sc:Scope}{k:G->M Bool}
theorem zg1(hc:X.calm=true)(hi1:∀s H fp xe,SI .(7) EX tg1 iter1 mi1)(hg1:∀s H fp xe,SGk .(7) EX tg1 own1 g1)(ht:∀s H fp xe,SCs .(7) EX ifs1 k)
 (he:∀s H fp xe,SE .(7) EX elt me) (hown1:∀j∈own1,cap[j]?=some none/\j∉own) (hs1:∀env x,K1b iter1 env x=pure x) :
 CmA X EX (.ListComp elt [⟨tg,iter,[],0⟩,⟨tg1,iter1,ifs1,0⟩] sc pos) sc tg iter [] N' cap own mi g (λ_=>pure true) (.lst []) (λn0 γ1 K=>do let s1 <- mi1 γ1;let _ <- z3p s1 g1 k me n0 γ1 s1.items;K) (λsrc n0 γ=>z3T src g mi1 g1 k me n0 γ):=
 ⟨⟨_,_,_,_,λD=>bIn (tI X.K EX mi1) (tGk X.K EX own1 g1) (tT X.K EX k) (bApp (tE X.K EX me) D),zl3,λρ H Dd=>⟨[],Y9,RDs.nil⟩,
  λD s H fp xe=>zU3 (.inl ⟨_,_,_,_,rfl⟩) rfl (λ_=>rfl) hc (hi1 s H fp xe).h (λxe'=>(hg1 s H fp xe').h) (λxe'=>(ht s H fp xe').h) (λxe'=>zk6 (he s H fp xe').h) (hs1 _),
  λnon hD=>Z0W (F1:=λs1 γ1=>z3p s1 g1 k me _ γ1) (λ_ _=>rfl) (λ_ _ _ _=>rfl) (λj hj=>⟨(hown1 j hj).2,non j (hown1 j hj).1⟩) λp=>zx7 (p _ _ hD)⟩,λ_ _ _=>rfl,λ_ _ _ _ _=>rfl⟩
theorem zp7(hc:X.calm=true)(S:CS X sc N' cap)(hi:SI X EX tg iter mi)(hg:∀s H fp xe,SGk .(7) EX tg own g)(hi1:∀s H fp xe,SI .(7) EX tg1 iter1 mi1)(hg1:∀s H fp xe,SGk .(7) EX tg1 own1 g1)(ht:∀s H fp xe,SCs .(7) EX ifs1 k)
 (he:∀s H fp xe,SE .(7) EX elt me) (hown:∀j∈own,cap[j]?=some none:=by decide) (hown1:∀j∈own1,cap[j]?=some none/\j∉own:=by decide) (hs:∀x,K1b iter X.env x=pure x:=by intro _;rfl) (hs1:∀env x,K1b iter1 env x=pure x:=by intro _ _;rfl) :
 SE X EX (.ListComp elt [⟨tg,iter,[],0⟩,⟨tg1,iter1,ifs1,0⟩] sc pos) (z6q cap mi g mi1 g1 k me):=
 zD7 (zg1 hc hi1 hg1 ht he hown1 hs1) hc S hi hg (λ_ _ _ _=>z18) hown hs
end
end FT
namespace L2
theorem range_all{α:Type}(r:List α):(K0b r.length).filterMap (λm=>r[m]?)=r:=by
 have:=pick_run r.toArray 0 r.length;rw[K7j]at this;have e:((λx=>r.toArray[x]?) ∘ λx=>0+x)=λm=>r[m]?:=by funext m;simp
 rw[e]at this;rw[this];simp
end L2
namespace FT
theorem RDs.reverse{K:K5}{ρ:List Addr}{H:Hp}:∀{ds:List D}{vs:List V},RDs K ρ H ds vs->RDs K ρ H ds.reverse vs.reverse
 | [],vs,h=>by
  simp only[RDs]at h;subst h;exact RDs.nil
 | d::ds,vs,h=>by
  simp only[RDs]at h;obtain⟨x,r,rfl,h2,h3⟩:=h;rw[K40,K40];exact(RDs.reverse h3).append (RDs.cons h2 RDs.nil)
def eNeg(ma:G->M D):G->M D:=λγ=>do
 let x <- ma γ
 match x with
 | .int i=>pure (.int (-i))
 | _=>bad
section
variable{X:Cx}{EX:XX}{a b st:Expr}{pos p p2:Pos}{ma ms:G->M D}{mr:G->M (List D)}
theorem z2H(ha:SE X EX a ma):SE X EX (.UnaryOp .USub a pos) (eNeg ma):=
 ⟨PE.imp (Z0c zV3 ha.h) λσ H Q ⟨ρ,γ,h,rel,fin⟩=>⟨ρ,γ,h,rel,(Fin.bind fin).mono λx ρ1 h1 H1 p1 e1 r1 f1 v rv=>by
  cases x<;>first|exact(show False from f1).elim|skip
  rename_i t;simp only[RD]at rv;exact⟨t,rv,FE.here (d:=.int (-t)) (h:=h1) (ρ:=ρ1) f1 r1 .(s)⟩⟩⟩
end
end FT
namespace L2
variable{E EE:Value->Shared->Prop}{g:Array Z28}{Ch:Addr}{Q:Bool->Shared->Prop}{pins:List (Addr×Obj)}{bmH:List Value}{suite:List Stmt}
structure Fly(base:Heap)(l:List Env)(e T:Addr)(cls:Value)(h:Heap):Prop where
 stays:base.StaysIn h
 ne:base.get? e=none
 nT:base.get? T=none
 fr:h.FunFrames base l
 tr:∃a0 oe vs oT ts,h.get? e=some oe/\(oe.cls=cls/\vs[0]?=some a0)/\oe.data=.fields vs/\vs[1]?=.(r T)/\T≠e/\h.get? T=some oT/\oT.data=.fields ts/\ts[3]?=some .none
structure Kept(l:List Env)(e T:Addr)(h h':Heap):Prop where
 keep:∀b o,h.get? b=some o->b∉frs l->b≠e->b≠T->h'.get? b=some o
 slot:∀b o,h.get? b=some o->b∈frs l->∃sl,h'.get? b=some { o with slots:=sl }
def CXE(P:K1i)(w:World)(base:Heap):CXT:=λouter H s E e s'=>∃a T C H',e=.ref a/\Fly base outer a T (.ref C) s'.heap/\s.heap.get? a=none/\s.heap.get? T=none/\H' a=none/\H' T=none/\s'.os=s.os/\K76 s'.gens /\
 Un (frs outer) [] H H' s.heap s'.heap/\HOk P w H' s'.heap/\E (.ref C) none H'
section
variable{M:Model}{A:Around}{h:Heap}{d:Drawn}{t:Nat}{os:OsState}{C e:Addr}{oe:Obj}{b:Bool}
 {nm q:Str} {N:Addr} {bs bm:List Value} {hdct:Bool} {sn:List Str} {sub:List Value} {ab:Bool} {col:Option Bool} {dd:Option Addr} {k0 k1 k2 k3 k5:Option Value} {newId:String}
 {nm' q':Str} {N':Addr} {bs' bm':List Value} {hdct':Bool} {sn':List Str} {sub':List Value} {ab':Bool} {col':Option Bool} {dd':Option Addr} {k0' k1' k2' k3' k5':Option Value} {newId':String}
end
section
variable{X:Cx}{σ:St}{H1:Hp}{s1 s':Shared}{e:Value}{E:XK}{cn n:Str}{np hpos:Pos}{b₀:Stmt}{D:Ends}{ts:TS}
theorem back{u:Value}(I1:Inv X pins σ H1 s1)(c:CXE X.prog X.w X.base X.stack H1 s1 E u s'):∃a T C H',u=.ref a/\Fly X.base X.stack a T (.ref C) s'.heap/\s1.heap.get? a=none/\s1.heap.get? T=none/\H' a=none/\H' T=none/\Inv X pins σ H' s'/\E (.ref C) none H':=by
 obtain⟨a,T,C,H',rfl,F,n1,n2,u1,u2,os,bare,un,hok,hE⟩:=c;obtain⟨hh,g,d,t,os'⟩:=s';obtain rfl:os'=s1.os:=os;exact⟨a,T,C,H',rfl,F,n1,n2,u1,u2,I1.call (h':=hh) (g':=g) (d':=d) (t':=t) (ch:=[]) un hok bare (λb z=>absurd z .(e)),hE⟩
end
end L2
namespace FT
variable{P:K1i}{w:World}{K:K5}{mg:Str->Option Value}{base:Heap}{N l ns loose:List Str}{f:Addr}{outer:List Env}{H:Hp}{bm:List Value}{h r:AH}{γ:G}{Q:Out->AH->Prop}{mt ms mb body:G->M Out}{d:D}{n:Nat}{i j:Int}{b:Bool}{t:String}{ma me:G->M D}{mi:G->M Src}{g:D->G->M G}{cap:List (Option Nat)}{xs:List D}{o:O}{x:Str}{mk:List (List Str)}{st:List (List Nat)}{fd:K53}{XP:(Str->Option Value)->Heap->Prop}{YP:World->Heap->Prop}{m:List D->M D}{ρ:List Addr}
section
variable{qual c:Str}{scope:Scope}{C:Addr}{cd:Value}{A:Around}{s:Shared}{E:XK}
 {e₀:Expr} {rest:List Expr} {mr:G->M (List D)} {np cpos pos:Pos}
end
variable{α β:Type}
def W(m:M α)(h:AH)(Q:α->AH->Prop):Prop:=∃a h',m h=.ok a h'/\Q a h'
theorem Z4{m:M α}{f:α->M β}{Q:β->AH->Prop}:W (m >>= f) h Q↔W m h λa h1=>W (f a) h1 Q:=by
 constructor
 ·rintro⟨b,h2,e,q⟩;rw[bindM]at e;cases em:m h with
  | ok a h1=>rw[em]at e;exact⟨a,h1,em,b,h2,e,q⟩
  | err x h1=>rw[em]at e;cases e
  | bad=>rw[em]at e;cases e
 ·rintro⟨a,h1,e,b,h2,e',q⟩;exact⟨b,h2,by rw[M.bind_ok e,e'],q⟩
theorem W_pure{a:α}{Q:α->AH->Prop}:W (Z3j a:M α) h Q↔Q a h:=by
 constructor
 ·rintro⟨b,h2,e,q⟩;cases e;exact q
 ·exact λq=>⟨a,h,rfl,q⟩
theorem z0h{Q:α->AH->Prop}:W (bad:M α) h Q↔False:=by
 constructor
 ·rintro⟨b,h2,e,q⟩;cases e
 ·exact K39
theorem z0a{c:Prop}[Decidable c]{m n:M α}{Q:α->AH->Prop}:W (if c then m else n) h Q↔if c then W m h Q else W n h Q:=by
 split<;>exact Z3k
theorem W.mono{m:M α}{Q Q':α->AH->Prop}(z:W m h Q)(f:∀a h',Q a h'->Q' a h'):W m h Q':=let ⟨a,h',e,q⟩:=z;⟨a,h',e,f a h' q⟩
theorem W.of{m:M α}{h':AH}{a:α}{Q:α->AH->Prop}(e:m h=.ok a h')(q:Q a h'):W m h Q:=⟨a,h',e,q⟩
theorem z3t:W (bNil γ) h Q↔Q (.nx γ) h:=W_pure
def zH5(mt:G->M Out)(Q:Out->AH->Prop):Out->AH->Prop:=λo h=>match o with
 | .nx γ=>W (mt γ) h Q
 | o=>Q o h
theorem Y8:zH5 mt Q (.nx γ) h↔W (mt γ) h Q:=Z3k
theorem z1U:zH5 mt Q (.rt d) h↔Q (.rt d) h:=Z3k
theorem w_cons:W (z9 ms mt γ) h Q↔W (ms γ) h (zH5 mt Q):=by
 unfold z9;rw[Z4];constructor
 ·rintro⟨o,h1,e,q⟩;refine⟨o,h1,e,?_⟩;cases o with
  | nx γ=>exact q
  | rt d=>exact(W_pure (a:=Out.rt d) (Q:=Q)).mp q
  | bk d=>exact(W_pure (a:=Out.bk d) (Q:=Q)).mp q
  | ct d=>exact(W_pure (a:=Out.ct d) (Q:=Q)).mp q
 ·rintro⟨o,h1,e,q⟩;refine⟨o,h1,e,?_⟩;cases o with
  | nx γ=>exact q
  | rt d=>exact W_pure.mpr q
  | bk d=>exact W_pure.mpr q
  | ct d=>exact W_pure.mpr q
def runW(Q:D->AH->Prop):Out->AH->Prop:=λo h=>match o with
 | .nx _=>Q .non h
 | .rt d=>Q d h
 | _=>False
theorem z1L{ds:List D}{Q:D->AH->Prop}(z:W (mb (z1b n ds)) h (runW Q)):W (runF n mb ds) h Q:=by
 unfold runF;rw[Z4];refine z.mono λo h1 q=>?_;cases o with
 | nx γ=>exact W_pure.mpr q
 | rt d=>exact W_pure.mpr q
 | bk d=>exact q.elim
 | ct d=>exact q.elim
theorem z1O:fAdd (.int i) (.int j)=pure (.int (i+j)):=rfl
theorem z8X:fSub (.int i) (.int j)=pure (.int (i - j)):=rfl
theorem z7O:fGt (.int i) (.int j)=pure (.bl (decide (j<i))):=rfl
theorem zV0:fGe (.int i) (.int j)=pure (.bl (decide (j<=i))):=rfl
theorem z9a:fLt (.int i) (.int j)=pure (.bl (decide (i<j))):=rfl
theorem zt1:fLe (.int i) (.int j)=pure (.bl (decide (i<=j))):=rfl
theorem z4C:fEq b (.int i) (.int j)=pure (.bl (decide (i=j) != b)):=rfl
theorem zy2(h:0<=j):fShr (.int i) (.int j)=pure (.int (i / 2 ^ j.toNat)):=by
 unfold fShr fIC;dsimp only;rw[if_pos (decide_eq_true h)]
theorem zQ3(h:0<j):fMod (.int i) (.int j)=pure (.int (i % j)):=by
 unfold fMod fIC;dsimp only;rw[if_pos (decide_eq_true h)]
theorem div_ii(h:0<j)(h2:j<1073741824):fDiv (.int i) (.int j)=pure (.int (i / j)):=by
 unfold fDiv fIC;dsimp only;rw[if_pos (by rw[decide_eq_true h,decide_eq_true h2];rfl)]
theorem z0A:asB (.bl b)=pure b:=rfl
theorem z5j:truD (.bl b)=pure b:=rfl
theorem z5w{Q:Nat->AH->Prop}:W (z3F (.ref n)) h Q↔W (getL n) h λ_ h1=>Q n h1:=by
 unfold W z3F getL;dsimp only;cases e:h[n]? with
 | none=>exact .(o)
 | some o=>
  cases o with
  | set ks=>exact .(o)
  | dct=>exact .(o)
  | dK kvs=>exact .(o)
  | dF kvs=>exact .(o)
  | exc c=>exact .(o)
  | ins _ _=>exact .(o)
  | lst xs=>exact⟨λ⟨_,_,z,q⟩=>(by cases z;exact⟨xs,h,rfl,q⟩),λ⟨_,_,z,q⟩=>(by cases z;exact⟨n,h,rfl,q⟩)⟩
theorem zW6:fIsi t (.bl b)=pure (.bl (subT "bool" t)):=rfl
theorem z9L{b:Int}:fIsi t (.int b)=pure (.bl (subT "int" t)):=rfl
theorem zA0{b:Str}:fIsi t (.str b)=pure (.bl (subT "str" t)):=rfl
theorem zi6{b:List D}:fIsi t (.tup b)=pure (.bl (subT "tuple" t)):=rfl
def forW(J:G->AH->Prop)(R:D->AH->Prop):Out->AH->Prop:=λo h=>match o with
 | .nx γ=>J γ h
 | .ct γ=>J γ h
 | .bk _=>False
 | .rt d=>R d h
def endW(J:G->AH->Prop)(R:D->AH->Prop):Out->AH->Prop:=λo h=>match o with
 | .nx γ=>J γ h
 | .ct _=>False
 | .bk _=>False
 | .rt d=>R d h
theorem z6Y{src:Src}{g:D->G->M G}{body:G->M Out}(I:Nat->G->AH->Prop)(R:D->AH->Prop)(good:∀i γ h,I i γ h->src.good h):∀(items:List D) (n:Nat) (γ:G) (h:AH),
 (∀i d γ h,items[i]?=some d->I (n+i) γ h->W (g d γ) h λγ1 h1=>W (body γ1) h1 (forW (I (n+i+1)) R))->I n γ h ->
 W (forR src g body items γ) h (endW (I (n+items.length)) R)
 | [],n,γ,h,_,q=>⟨.nx γ,h,by unfold forR Src.chk;simp[good _ _ _ q],q⟩
 | d::r,n,γ,h,z,q=>by
  unfold forR;rw[Z4];refine W.of (a:=()) (h':=h) (by unfold Src.chk;simp[good _ _ _ q]) ?_;rw[Z4];refine(z 0 d γ h rfl q).mono λγ1 h1 q1=>?_;rw[Z4];refine q1.mono λo h2 q2=>?_;have step:∀γ2,I (n+0+1) γ2 h2->W (forR src g body r γ2) h2 (endW (I (n+(d::r).length)) R):=λγ2 w=>by
   have:=z6Y (src:=src) I R good r (n+1) γ2 h2 (λi d γ h e q=>by
    have:=z (i+1) d γ h (by simpa using e) (by rw[show n+(i+1)=n+1+i by omega];exact q);rw[show n+(i+1)+1=n+1+i+1 by omega]at this;exact this) (by simpa using w)
   rw[show n+1+r.length=n+(d::r).length by simp;omega]at this;exact this
  cases o with
  | nx γ2=>exact step γ2 q2
  | ct γ2=>exact step γ2 q2
  | bk γ2=>exact q2.elim
  | rt v=>exact W_pure.mpr q2
theorem z1r(J:G->AH->Prop)(z:W (ms γ) h (endW J λd h=>Q (.rt d) h))(k:∀γ h,J γ h->W (mt γ) h Q):W (z9 ms mt γ) h Q:=by
 rw[w_cons];refine z.mono λo h1 q=>?_;cases o with
 | nx γ=>exact k γ h1 q
 | rt d=>exact q
 | bk d=>exact q.elim
 | ct d=>exact q.elim
theorem z4L(n:Nat)(p:D->Bool)(f:D->D):((J9 n).filter p).map f=((K0b n).filter λ(i:Nat)=>p (.int i)).map λ(i:Nat)=>f (.int i):=by
 unfold J9;rw[K3w,K1q];rfl
theorem z0V{i:Nat}(e:(J9 n)[i]?=some d):d=.int i/\i<n:=by
 unfold J9 at e;rw[K0a]at e;obtain⟨j,e1,e2⟩:=K11.mp e;obtain⟨h1,h2⟩:=K02.mp e1;simp at h1 h2;subst h2;exact⟨e2.symm,h1⟩
theorem z0X{ma:G->M D}{i:Nat}{body:G->M Out}{γ:G}{h:AH}(I:Nat->G->AH->Prop)(R:D->AH->Prop){Q:Out->AH->Prop}
 (hs:W (ma γ) h λd h1=>∃n:Nat,d=.int n/\n<4611686018427387904/\I 0 γ h1/\(∀k γ h,k<n->I k γ h->W (body (γ.set i (.(i k)))) h (forW (I (k+1)) R))/\(∀γ h',I n γ h'->Q (.nx γ) h')/\∀d h',R d h'->Q (.rt d) h') :
 W (sFor (Y4 ma) (gN i) body γ) h Q:=by
 unfold sFor Y4;rw[Z4,Z4];refine hs.mono λd h1 ⟨n,e,hn,i0,st,fin⟩=>?_;subst e;dsimp only;rw[if_pos .(0),W_pure];have:=z6Y (src:=.con (J9 (n:Int).toNat)) (g:=gN i) (body:=body) I R (λ_ _ _ _=>trivial) (J9 (n:Int).toNat) 0 γ h1 (λk d γ h e q=>by
  obtain⟨rfl,hk⟩:=z0V e;rw[K72]at q ⊢;exact W_pure.mpr (st k γ h (by simpa using hk) q)) i0
 rw[show 0+(J9 (n:Int).toNat).length=n by unfold J9;simp]at this;refine this.mono λo h' q=>?_;cases o with
 | nx γ=>exact fin.1 γ h' q
 | rt d=>exact fin.2 d h' q
 | bk d=>exact q.elim
 | ct d=>exact q.elim
theorem z0g{mi:G->M Src}{g:D->G->M G}{body:G->M Out}{γ:G}{h:AH}(I:Nat->G->AH->Prop)(R:D->AH->Prop){Q:Out->AH->Prop}
 (hs:W (mi γ) h λsrc h1=>I 0 γ h1/\(∀i γ h,I i γ h->src.good h)/\(∀i d γ h,src.items[i]?=some d->I i γ h->W (g d γ) h λγ1 h1=>W (body γ1) h1 (forW (I (i+1)) R))/\(∀γ h',I src.items.length γ h'->Q (.nx γ) h')/\∀d h',R d h'->Q (.rt d) h') :
 W (sFor mi g body γ) h Q:=by
 unfold sFor;rw[Z4];refine hs.mono λsrc h1 ⟨i0,good,st,fin⟩=>?_;have:=z6Y (src:=src) (g:=g) (body:=body) I R good src.items 0 γ h1 (λk d γ h e q=>by
  rw[K72]at q ⊢;exact st k d γ h e q) i0
 rw[K72]at this;refine this.mono λo h' q=>?_;cases o with
 | nx γ=>exact fin.1 γ h' q
 | rt d=>exact fin.2 d h' q
 | bk d=>exact q.elim
 | ct d=>exact q.elim
theorem z0b{h1:AH}(e:ma γ h=.ok (.int n) h1)(hn:n<4611686018427387904):Y4 ma γ h=.ok (.con (J9 n)) h1:=by
 unfold Y4;rw[M.bind_ok e];dsimp only;rw[if_pos .(0)];rfl
theorem z1m{k:G->M Bool}{body:G->M Out}(I:Nat->G->AH->Prop)(E:G->AH->Prop)(R:D->AH->Prop)
 (z:∀m γ h,I m γ h->W (k γ) h λb h1=>if b=true then ∃m',m=m'+1/\W (body γ) h1 (forW (λγ h=>∃i,i<=m'/\I i γ h) R) else E γ h1):∀(n m:Nat) (γ:G) (h:AH),m<n->I m γ h ->
 W (z1C k body n γ) h (endW E R)
 | 0,m,γ,h,hm,_=>by omega
 | n+1,m,γ,h,hm,q=>by
  unfold z1C;rw[Z4];refine(z m γ h q).mono λb h1 q1=>?_;cases b with
  | false=>
   rw[if_neg .(1)]at q1 ⊢;exact W_pure.mpr q1
  | true=>
   rw[if_pos rfl]at q1 ⊢;obtain⟨m',rfl,q2⟩:=q1;rw[Z4];refine q2.mono λo h2 q3=>?_;cases o with
   | nx γ2=>obtain⟨i,hi,q4⟩:=q3;exact z1m I E R z n i γ2 h2 .(0) q4
   | ct γ2=>obtain⟨i,hi,q4⟩:=q3;exact z1m I E R z n i γ2 h2 .(0) q4
   | bk γ2=>exact q3.elim
   | rt v=>exact W_pure.mpr q3
theorem z45{g:D->G->M G}{k:G->M Bool}{me:G->M D}{γ:G}{p:D->Bool}{f:D->D}(src:Src)(h0:AH)(hg:∀j,src.good (h0++j)):∀(items:List D) (acc:List D),acc.length+items.length<=1000000 ->
 (∀d∈items,∃γ1,(∀h,g d γ h=.ok γ1 h)/\(∀j,k γ1 (h0++j)=.ok (p d) (h0++j))/\(p d=true->∀j,me γ1 (h0++j)=.ok (f d) (h0++j))) ->
 z3p src g k me h0.length γ items (h0++[.lst acc])=.ok () (h0++[.lst (acc++(items.filter p).map f)])
 | [],acc,hl,hd=>by unfold z3p Src.chk;simp[hg]
 | d::r,acc,hl,hd=>by
  obtain⟨γ1,e1,e2,e3⟩:=hd d K18;unfold z3p;have chk:src.chk (h0++[.lst acc])=.ok () (h0++[.lst acc]):=by unfold Src.chk;simp[hg]
  rw[M.bind_ok chk,M.bind_ok (e1 _),M.bind_ok (e2 _)];simp only[K6]at hl;have hr:∀d∈r,∃γ1,(∀h,g d γ h=.ok γ1 h)/\(∀j,k γ1 (h0++j)=.ok (p d) (h0++j))/\(p d=true->∀j,me γ1 (h0++j)=.ok (f d) (h0++j)):=λx hx=>hd x (K14 _ hx);cases hp:p d with
  | false=>
   rw[if_neg .(1),z45 src h0 hg r acc .(0) hr,K6o,hp];rfl
  | true=>
   rw[if_pos rfl,M.bind_ok (e3 hp _)];have ap:y0 h0.length (f d) (h0++[.lst acc])=.ok .non (h0++[.lst (acc++[f d])]):=by
    unfold y0 updL;have g1:(h0++[O.lst acc])[h0.length]?=.(l acc):=by simp
    rw[g1];dsimp only;have hs:(acc++[f d]).length<=sizeLine:=by
     rw[K3,K0v];exact K0h (show acc.length+1<=1000000 by omega) .(1)
    rw[if_pos hs];simp
   rw[M.bind_ok ap,z45 src h0 hg r (acc++[f d]) (by simp;omega) hr,K6o,hp];simp
theorem z2U{cap:List (Option Nat)}{g:D->G->M G}{k:G->M Bool}{me:G->M D}{src:Src}(p:D->Bool)(f:D->D)(hi:mi γ h=.ok src h)(hg:∀j,src.good (h++j))(hl:src.items.length<=1000000)
 (hd:∀d∈src.items,∃γ1,(∀h,g d (capG cap γ) h=.ok γ1 h)/\(∀j,k γ1 (h++j)=.ok (p d) (h++j))/\(p d=true->∀j,me γ1 (h++j)=.ok (f d) (h++j))) :
 z00 cap mi g k me γ h=.ok (.ref .(h)) (h++[.lst ((src.items.filter p).map f)]):=by
 have e:=z45 (g:=g) (k:=k) (me:=me) (γ:=capG cap γ) (p:=p) (f:=f) src h hg src.items [] (by simpa using hl) hd;show (mi γ >>= _) h=_;rw[M.bind_ok hi];rw[M.bind_ok (m:=(λh=>Res.ok (Z2z h) (h++[O.lst []]):M Nat)) (h:=h) rfl];rw[M.bind_ok (by simpa using e)];rfl
def Kp(r r':AH):Prop:=∀(n:Nat) (o:O),r[n]?=some o->r'[n]?=some o
theorem zg5{src:Src}{g:D->G->M G}{k:G->M Bool}{me:G->M D}{n0:Nat}{γ:G}(I:Nat->AH->Prop)(good:∀i h,I i h->src.good h):∀(items:List D) (n:Nat) (h:AH),
 (∀i d h,items[i]?=some d->I (n+i) h->W (g d γ) h λγ1 h1=>W (k γ1) h1 λt h2=>if t=true then W (me γ1) h2 λv h3=>W (y0 n0 v) h3 λ_ h4=>I (n+i+1) h4 else I (n+i+1) h2)->I n h ->
 W (z3p src g k me n0 γ items) h λ_ h'=>I (n+items.length) h'
 | [],n,h,_,q=>⟨(),h,by unfold z3p Src.chk;simp[good _ _ q],q⟩
 | d::r,n,h,z,q=>by
  have more:∀h2,I (n+0+1) h2->W (z3p src g k me n0 γ r) h2 λ_ h'=>I (n+(d::r).length) h':=λh2 q2=>by
   have:=zg5 (src:=src) (g:=g) (k:=k) (me:=me) (n0:=n0) (γ:=γ) I good r (n+1) h2 (λi d h e q=>by
    have:=z (i+1) d h (by simpa using e) (by rw[show n+(i+1)=n+1+i by omega];exact q);rw[show n+(i+1)+1=n+1+i+1 by omega]at this;exact this) (by simpa using q2)
   rw[show n+1+r.length=n+(d::r).length by simp;omega]at this;exact this
  unfold z3p;rw[Z4];refine W.of (a:=()) (h':=h) (by unfold Src.chk;simp[good _ _ q]) ?_;rw[Z4];refine(z 0 d h rfl q).mono λγ1 h1 q1=>?_;rw[Z4];refine q1.mono λt h2 q2=>?_;cases t with
  | false=>rw[if_neg .(1)]at q2 ⊢;exact more h2 q2
  | true=>
   rw[if_pos rfl]at q2 ⊢;rw[Z4];refine q2.mono λv h3 q3=>?_;rw[Z4];exact q3.mono λ_ h4 q4=>more h4 q4
theorem zw6{cap:List (Option Nat)}{mi:G->M Src}{g:D->G->M G}{k:G->M Bool}{me:G->M D}{γ:G}{h:AH}{Q:D->AH->Prop}
 (hs:W (mi γ) h λsrc h1=>∃I:Nat->AH->Prop,I 0 (h1++[.lst []])/\(∀i h,I i h->src.good h) /\
  (∀i d h,src.items[i]?=some d->I i h->W (g d (capG cap γ)) h λγ1 h1'=>W (k γ1) h1' λt h2=>if t=true then W (me γ1) h2 λv h3=>W (y0 h1.length v) h3 λ_ h4=>I (i+1) h4 else I (i+1) h2) /\
  ∀h',I src.items.length h'->Q (.ref h1.length) h'):W (z00 cap mi g k me γ) h Q:=by
 unfold z00;rw[Z4];refine hs.mono λsrc h1 ⟨I,i0,good,st,fin⟩=>?_;rw[Z4];refine W.of (a:=h1.length) (h':=h1++[.lst []]) rfl ?_;rw[Z4];have:=zg5 (src:=src) (g:=g) (k:=k) (me:=me) (n0:=h1.length) (γ:=capG cap γ) I good src.items 0 (h1++[.lst []]) (λi d h e q=>by
  rw[K72]at q ⊢;exact st i d h e q) i0
 rw[K72]at this;refine this.mono λ_ h' q=>?_;rw[W_pure];exact fin h' q
class Grow (I:AH->Prop):Prop where
 app:∀h j,I h->I (h++j)
def Pool(gr sm:List Int)(s c:Int)(r:AH):AH:=.lst (gr.map .int)::.lst (sm.map .int)::.lst [.ref 0,.ref 1,.int s,.int c]::r
def PS(h:AH)(k:Int)(r:AH):Prop:=∃gr sm s c,h=Pool gr sm s c r/\0<=s/\s<2147483647/\0<=c/\c<=k/\gr.length<=63/\sm.length<=63
theorem PS.up{k k':Int}(p:PS h k r)(hk:k<=k'):PS h k' r:=by
 obtain⟨gr,sm,s,c,e,h1,h2,h3,h4,h5,h6⟩:=p;exact⟨gr,sm,s,c,e,h1,h2,h3,by omega,h5,h6⟩
theorem PS.app{k:Int}(p:PS h k r)(j:AH):PS (h++j) k (r++j):=by
 obtain⟨gr,sm,s,c,e,q⟩:=p;exact⟨gr,sm,s,c,by rw[e];rfl,q⟩
theorem PS.get{k:Int}(p:PS h k r)(n:Nat):h[n+3]?=r[n]?:=by
 obtain⟨gr,sm,s,c,e,q⟩:=p;rw[e];rfl
theorem PS.len{k:Int}(p:PS h k r):h.length=r.length+3:=by
 obtain⟨gr,sm,s,c,e,q⟩:=p;rw[e];rfl
theorem PS.set{h:AH}{k:Int}{r:AH}(p:PS h k r)(n:Nat)(o:O):PS (h.set (n+3) o) k (r.set n o):=by
 obtain⟨gr,sm,s,c,e,q⟩:=p;exact⟨gr,sm,s,c,by rw[e];rfl,q⟩
theorem z66{k:Int}{Q:List D->AH->Prop}(p:PS h k r)(e:r[n]?=.(l xs))(q:Q xs h):W (getL (n+3)) h Q:=
 ⟨xs,h,by unfold getL;rw[p.get,e],q⟩
theorem z2I{k:Int}{Q:D->AH->Prop}(p:PS h k r)(hl:xs.length<=1000000)(z:∀h',PS h' k (r++[.lst xs])->Q (.ref (r.length+3)) h'):W (newL xs) h Q:=
 ⟨.ref (r.length+3),h++[.lst xs],by unfold newL;rw[if_pos (K0h hl .(1)),p.len],z _ (p.app _)⟩
theorem z8Y{k:Int}{v:D}{Q:D->AH->Prop}(p:PS h k r)(e:r[n]?=.(l xs))(hl:xs.length<1000000)(z:∀h',PS h' k (r.set n (.lst (xs++[v])))->Q .non h'):W (y0 (n+3) v) h Q:=
 ⟨.non,h.set (n+3) (.lst (xs++[v])),by
  unfold y0 updL;rw[p.get,e];dsimp only;rw[if_pos (K0h (by simp;omega:(xs++[v]).length<=1000000) .(1))],z _ (p.set _ _)⟩
theorem j9{j:AH}(e:r[n]?=some o):(r++j)[n]?=some o:=by
 rw[K0s (K02.mp e).1,e]
theorem z5d:(r++[o])[r.length]?=some o:=by simp
def zt6(x:Str):Prop:=1<=x.length/\x.length<=8/\(∀c∈x.cps.toList,97<=c/\c<=122) /\
 x∉(["yes","no","not","and","or","step","some","all","next","once","ever","until","unless"]:List Str)
theorem len_str(x:Str):x.length=x.cps.toList.length:=by simp[Z1q]
theorem z5x(a:Str):∀l:List Str,((l.map D.str).any λz=>eqF z (.str a))=decide (a∈l)
 | []=>by simp
 | b::l=>by
  rw[K0p,K2g,z5x a l];simp only[eqF];rw[K0n];simp only[K2h,beq_iff_eq,decide_eq_true_eq,K0l];constructor
  ·rintro(h|h)
   ·exact .inl h.symm
   ·exact .inr h
  ·rintro(h|h)
   ·exact .inl h.symm
   ·exact .inr h
theorem z3c:∀l:List Str,(l.map D.str).all z17=true
 | []=>rfl
 | _::l=>by rw[K0p,K5j,z3c l];rfl
def low(x:Str):Prop:=∀c∈x.cps.toList,97<=c/\c<=122
def abc:Str:="abcdefghijklmnopqrstuvwxyz"
theorem zH0:abc.cps.toList=(K0b 26).map (·+97):=by decide +kernel
theorem zG8:abc.length=26:=by decide +kernel
theorem zW8{d:Int}(h0:0<=d)(h1:d<26):fIx (.str abc) (.int d)=pure (.str ⟨#[d.toNat+97]⟩):=by
 unfold fIx;dsimp only;rw[if_pos (by rw[zG8];decide),zH0];obtain⟨n,rfl⟩:=K1r h0;have hn:n<26:=by omega
 rw[z0w (v:=n+97) (by simp[hn])];simp
theorem z5v(x y:Str):(x++y).cps.toList=x.cps.toList++y.cps.toList:=Array.toList_append
theorem len_app(x y:Str):(x++y).length=x.length+y.length:=by rw[len_str,z5v,K3,<- len_str,<- len_str]
theorem zM1{y:Str}(h:x.length+y.length<=1000):fAdd (.str x) (.str y)=pure (.str (x++y)):=by
 show (if x.length+y.length<=sizeLine then _ else _)=_;rw[if_pos (K0h h .(1))]
theorem z4q(c:Nat):Z1q ⟨#[c]⟩=1:=rfl
theorem z7u{c:Nat}(h:low x)(h1:97<=c)(h2:c<=122):low (x++⟨#[c]⟩):=by
 intro d hd;rw[z5v]at hd;rcases K00.mp hd with q|q
 ·exact h d q
 ·simp at q;omega
theorem z5r{k d:Int}{r:AH}{Q:D->AH->Prop}(h0:0<=d)(h1:d<26)(hx:x.length<=100)(q:Q (.str (x++⟨#[d.toNat+97]⟩)) h):W (fIx (.str abc) (.int d)) h λa h1=>W (fAdd (.str x) a) h1 Q:=by
 rw[zW8 h0 h1,W_pure,zM1 (by rw[z4q];omega),W_pure];exact q
def words:List Str:=["yes","no","not","and","or","step","some","all","next","once","ever","until","unless"]
def cand(x:Str)(l:Int)(i:Nat):Str:=x++⟨#[((l+i) % 26).toNat+97]⟩
theorem zm5{l:Int}(h0:0<=l){i j:Nat}(hi:i<26)(hj:j<26)(e:cand x l i=cand x l j):i=j:=by
 have e2:(cand x l i).cps.toList=(cand x l j).cps.toList:=by rw[e]
 unfold cand at e2;rw[z5v,z5v]at e2;have:=List.append_cancel_left e2;simp at this;omega
theorem zT7{l:Int}(h0:0<=l)(hn:ns.length<=7)(h:∀i:Nat,i<26->cand x l i∈words\/cand x l i∈ns):False:=by
 have nd:((K0b 26).map (cand x l)).Nodup:=by
  rw[K7p,K6f];refine K88 ?_ K8g;intro a b ha hb hne e;exact hne (zm5 h0 (by simpa using ha) (by simpa using hb) e)
 have sub:((K0b 26).map (cand x l)) ⊆ words++ns:=by
  intro y hy;obtain⟨i,hi,rfl⟩:=K1a.mp hy;exact K00.mpr (h i (by simpa using hi))
 have:=nd.length_le_of_subset sub;rw[K0c,K1f,K3]at this;have w:words.length=13:=rfl;omega
theorem zv4{k:Int}{neg:Bool}(p:PS h k r)(e:r[n]?=.(l (ns.map .str))):fIn neg (.str x) (.ref (n+3)) h=.ok (.bl (decide (x∈ns) != neg)) h:=by
 have g:getL (n+3) h=.ok (ns.map .str) h:=by unfold getL;rw[p.get,e]
 unfold fIn seqD;rw[M.bind_ok g,z5x,z3c];rfl
theorem zp0{k:Int}{Q:D->AH->Prop}(p:PS h k r)(e:r[n]?=.(l xs))(a:atI xs i=some d)(q:Q d h):W (fIx (.ref (n+3)) (.int i)) h Q:=by
 show W (getL (n+3) >>= λxs=>match atI xs i with|some d=>pure d|none=>bad) h Q;rw[Z4];refine z66 p e ?_;rw[a];exact W_pure.mpr q
theorem zR7{k:Int}{Q:D->AH->Prop}(p:PS h k r)(e:r[n]?=.(l xs))(q:Q (.int xs.length) h):W (fLen [.ref (n+3)]) h Q:=by
 show W (getL (n+3) >>= λxs=>pure (.int xs.length)) h Q;rw[Z4];refine z66 p e ?_;exact W_pure.mpr q
theorem zI5:low "":=by
 intro c hc;have:(K03 "").cps.toList=[]:=by decide +kernel
 rw[this]at hc;cases hc
theorem zF2:Z1q "" = 0:=by decide +kernel
def NS(ns:List Str):Prop:=ns.Nodup/\∀x∈ns,zt6 x
def stD(l:List Nat):List D:=l.map λ(i:Nat)=>.int i
structure MK(l:List Str):Prop where
 len:l.length<=8
 good:∀x∈l,zt6 x
 rise:l.Pairwise λa b=>a.cps.toList<b.cps.toList
structure MA(st:List .(p))(mk:List (List Str)):Prop where
 l1:1<=.(n)
 l2:.(n)<=40
 l3:mk.length=.(n)
 s1:∀l∈st,l.Pairwise (·<·)
 s2:∀l∈st,∀x∈l,x<.(n)
 m1:∀l∈mk,MK l
def stsD(st:List .(p)):List D:=st.map λl=>.tup (stD l)
def mksD(mk:List (List Str)):List D:=mk.map λl=>.tup (l.map .str)
def maD(st:List .(p))(mk:List (List Str)):D:=.tup [.tup (stsD st),.tup (mksD mk)]
def bear(x:Str)(mk:List (List Str))(i:Nat):Bool:=decide (x = "")||decide (x∈(mk[i]?).getD [])
theorem zK4{i:Nat}(hi:i<mk.length):atI (mksD mk) (i:Int)=.(g ((((mk[i]?).getD []).map .str))):=by
 refine z0w ?_;unfold mksD;rw[K0a,K8 hi];rfl
theorem Z0E{i:Nat}(hi:i<mk.length)(γ:G)(a b c:Nat)(h:AH)(ha:γ[a]?=some (.(s x)))(hb:γ[b]?=some (some .(a)))(hc:γ[c]?=some (.(i i))):
 e2 (fIn false) (eVar a) (e2 fIx (e2 fIx (eVar b) .(2)) (eVar c)) γ h=.ok (.bl (decide (x∈(mk[i]?).getD []))) h:=by
 have z:atI [D.tup (stsD st),D.tup (mksD mk)] (1:Int)=some (D.tup (mksD mk)):=rfl;simp[e2,eVar,ha,hb,hc,maD,fIx,seqD,z,zK4 hi,fIn,z3c,z17];rw[<- Z24,z5x]
theorem z5c(a b:Str):leS a b=true↔a.cps.toList<=b.cps.toList:=by
 unfold leS;simp[K51]
theorem z59(h:l.Nodup):(Y7 l).Pairwise λa b=>a.cps.toList<b.cps.toList:=by
 have s:(Y7 l).Pairwise λa b=>leS a b=true:=K64 (λa b c h1 h2=>(z5c a c).mpr (List.le_trans ((z5c a b).mp h1) ((z5c b c).mp h2)))
  (λa b=>by
   rw[K2h,z5c,z5c];exact List.le_total _ _) l
 have n:(Y7 l).Nodup:=(K4b l leS).nodup_iff.mpr h;refine(Z21 s n).imp λ{a b} q=>?_;obtain⟨q1,q2⟩:=q;have q3:=(z5c a b).mp q1;by_cases lt:a.cps.toList<b.cps.toList
 ·exact lt
 ·exact absurd (z9J (Z2v q3 (K51.mp lt))) q2
theorem sortS_mem:x∈Y7 l↔x∈l:=(K4b l leS).mem_iff
theorem z3n(l:List Str):(Y7 l).length=l.length:=(K4b l leS).length_eq
theorem strs_map:∀l:List Str,z42 (l.map .str)=some l
 | []=>rfl
 | a::l=>by simp[z42,strs_map l]
def pick(ns:List Str)(p:Nat->Bool):List Str:=((K0b ns.length).filter p).map λi=>(ns[i]?).getD ""
theorem zB7(hn:NS ns)(hl:ns.length<=8)(p:Nat->Bool):MK (Y7 (pick ns p)):=by
 have nd:(pick ns p).Nodup:=by
  unfold pick;rw[K7p,K6f];refine K88 ?_ (K50 p K8g);intro a b ha hb hne e;have la:a<ns.length:=by simpa using(K08.mp ha).1
  have lb:b<ns.length:=by simpa using(K08.mp hb).1
  rw[K8 la,K8 lb]at e;simp at e;exact hne ((Z2w hn.1).mp e)
 have le:(pick ns p).length<=ns.length:=by
  unfold pick;rw[K0c];refine K0h (K0w _ _) ?_;simp
 refine⟨by rw[z3n];omega,λx hx=>?_,z59 nd⟩;rw[sortS_mem]at hx;unfold pick at hx;obtain⟨i,hi,rfl⟩:=K1a.mp hx;have la:i<ns.length:=by simpa using(K08.mp hi).1
 rw[K8 la];exact hn.2 _ (K4h la)
theorem zo4(ns:List Str)(p:Nat->Bool):(pick ns p).length<=ns.length:=by
 unfold pick;rw[K0c];refine K0h (K0w _ _) ?_;simp
def AM(st:List .(p))(mk:List (List Str))(n:Nat):Prop:=(∀l∈st,l.Pairwise (·<·))/\(∀l∈st,∀x∈l,x<n)/\∀l∈mk,MK l
theorem zq2{i:Nat}(e:r[i]?=some o):i<r.length:=(K02.mp e).1
theorem z2M(ns:List Int)(p:D->Bool):((ns.map D.int).filter p).map (λd=>d)=(ns.filter λi=>p (.int i)).map D.int:=by
 rw[List.map_id',K3w];rfl
theorem zY1:fPow (.int 10) (.int 18)=pure (.int 1000000000000000000):=rfl
theorem z1D(xs:List D):fLen [.tup xs]=pure (.int xs.length):=rfl
theorem ix_tup(a:atI xs i=some d):fIx (.tup xs) (.int i)=pure d:=by
 have:fIx (.tup xs) (.int i)=(pure xs >>= λxs=>match atI xs i with|some d=>pure d|none=>bad):=rfl;rw[this];show (match atI xs i with|some d=>pure d|none=>bad)=_;rw[a]
theorem zw7{x y:List D}(h:x.length+y.length<=1000000):fAdd (.tup x) (.tup y)=pure (.tup (x++y)):=by
 show (if !decide (x.length+y.length<=sizeLine) then _ else _)=_;rw[decide_eq_true (K0h h .(1))];rfl
theorem Z0z{st:Stmt}{ps:List Str}{k:Nat}{mb:G->M Out}(F:Fun K x x st f fd)(S:FnScope N ps (j3 st))(hn:ps.length=n)
 (body:∀(cdv:Value) (A:Around) (outer:List Env) (s:Shared) (H:Hp) (E:XK),Room k (A.deeper (envOfC x (j3 st) .(3) f cdv)) ->
  SB (cxOf CX0 P w K mg base N x (j3 st) f cdv A outer s H E).nox EX0 (z03 st) mb):FnOk P w K mg base CX0 (k+1) f fd ps (spB K (runF N.length mb) n):=by
 refine F.ok S (λvs H Q E h=>h.1.trans hn.symm) (λcdv A outer s H vs Q E hr h=>?_);obtain⟨hl,ρ,ds,h,rh,rd,fin⟩:=h;refine⟨_,(body cdv A outer s H E hr).h,ρ,z1b N.length ds,h,⟨z4n rd,rh⟩,?_⟩;refine(Fin.bind fin).mono λo ρ1 h1 H1 p1 e1 r1 f1=>?_;cases o with
 | nx γ=>exact λσ _=>FE.here (d:=.non) (h:=h1) f1 r1 .(s)
 | rt d=>exact λv rv=>f1 ρ1 H1 .(c) .(b) r1 v rv
 | bk γ=>exact(show False from f1).elim
 | ct γ=>exact(show False from f1).elim
theorem bindsTo1{p:Str}{st:Stmt}(F:Fun K x x st f fd)
 (h:∀(kV doc pm:Value) (an:Option Addr) (cdv ct u:Value),bindArgs (K2i x x (z13 st) (z03 st) (j3 st) .none kV doc pm an cdv ct) ⟨[u],[]⟩=pure [(p,u)]):∀(s:Shared) (u:Value),K8u s fd ⟨[u],[]⟩ [(p,u)]:=by
 obtain⟨oc,od,kV,doc,pm,an,cdv,ct,osl,rfl,lk,hcd⟩:=F.ex;exact λs u=>.of_eq (h kV doc pm an cdv ct u)
theorem law_walk{l:Z34}{q:K1i}{loose:List Str}{XP:(Str->Option Value)->Heap->Prop}{YP:World->Heap->Prop}{d:DefRec}{K:Params->K5}{m:List D->M D}{p:Str}{lev:Nat}(hn:l.most=some 63)(hdf:d.params.defaults=[])(hr:Room lev K8t)
 (hY:∀(w:World) (h:Heap),YP w h->(K w.params).In h)
 (F:∀(w:World) (mg:Str->Option Value) (fa:Addr) (h:Heap),(K w.params).In h->h.Ns K23 mg->mg d.name=.(r fa) ->
  ∃fd:K53,(∀(s:Shared) (u:Value),K8u s fd ⟨[u],[]⟩ [(p,u)])/\∀base:Heap,(K w.params).In base->base.Ns K23 mg->FnOk l.prog w (K w.params) mg base CX0 lev fa fd [p] (spB (K w.params) m 1))
 (math:∀ns:List Int,ns.length<=63->∃h',m [.fl (ns.map .int)] []=.ok (.bl true) h') :
 Z3g q loose XP YP l.row.toRowW d [] (λf vs=>Z3b f vs):=by
 refine L2.walk_of (n:=63) (k:=lev) (x:=p) (CX:=λ_=>CX0) (sp:=λw=>spB (K w.params) m 1) hn .(1) hdf hr hY F (λw H a ns hl hO hS=>?_) λ_ _ _ _ _ z=>z;obtain⟨h',e⟩:=math ns hl;have sq:SqLP (K w.params) H a (ns.map V.int):=by
  rcases hS with (h|⟨o,h⟩)|h
  ·rcases hO a with z|⟨ob,xs,z⟩<;>rw[h]at z<;>cases z
  ·exact .inl ⟨o,h⟩
  ·exact .inr h
 refine⟨rfl,[],[.fl (ns.map .int)],[],⟨rfl,λi j a h=>by simp at h,λn o a h=>by simp at h⟩,RDs.cons ?_ RDs.nil,?_⟩
 ·simp only[RD];exact⟨a,_,rfl,sq,z5O ns⟩
 ·rw[e];exact λρ' H' _ _ _ v rv=>by simpa [RD] using rv
mutual
def J2(n:Nat):D->Bool
 | .ref i=>decide (i<n)
 | .tup xs=>k7 n xs
 | .fl xs=>k7 n xs
 | _=>true
def k7(n:Nat):List D->Bool
 | []=>true
 | d::r=>J2 n d&&k7 n r
end
def refO(n:Nat):O->Bool
 | .lst xs=>k7 n xs
 | .dK kvs=>k7 n (kvs.map (·.2))
 | .dF kvs=>k7 n (kvs.map (·.2))
 | .ins _ fs=>k7 n (fs.map (·.2))
 | _=>true
def Kept(h h1:AH):Prop:=∀(i:Nat) (o:O),i<h.length->h1[i]?=some o->h[i]?=some o\/refO h.length o=true
section
variable{ρ':List Addr}
theorem z7d{i:Nat}(h:i<n):(ρ.take n)[i]?=ρ[i]?:=by rw[K4k,if_pos h]
mutual
theorem RD.cut{n:Nat}:∀{d:D}{v:V},J2 n d=true->RD K ρ H d v->RD K (ρ.take n) H d v
 | .non,v,_,h=>by simpa [RD] using h
 | .bl b,v,_,h=>by simpa [RD] using h
 | .int b,v,_,h=>by simpa [RD] using h
 | .str b,v,_,h=>by simpa [RD] using h
 | .tup ds,v,c,h=>by
  simp only[RD,J2]at h c ⊢;obtain⟨a,xs,h1,h2,h3⟩:=h;exact⟨a,xs,h1,h2,RDs.cut c h3⟩
 | .fl ds,v,c,h=>by
  simp only[RD,J2]at h c ⊢;obtain⟨a,xs,h1,h2,h3⟩:=h;exact⟨a,xs,h1,h2,RDs.cut c h3⟩
 | .ref i,v,c,h=>by
  simp only[RD,J2,decide_eq_true_eq]at h c ⊢;obtain⟨a,h1,h2⟩:=h;exact⟨a,h1,by rw[z7d c];exact h2⟩
theorem RDs.cut{n:Nat}:∀{ds:List D}{xs:List V},k7 n ds=true->RDs K ρ H ds xs->RDs K (ρ.take n) H ds xs
 | [],xs,_,h=>by simpa [RDs] using h
 | d::ds,xs,c,h=>by
  simp only[RDs,k7,K0e]at h c ⊢;obtain⟨x,r,h1,h2,h3⟩:=h;exact⟨x,r,h1,RD.cut c.1 h2,RDs.cut c.2 h3⟩
end
mutual
theorem RD.low:∀{d:D}{v:V},RD K ρ H d v->J2 ρ.length d=true
 | .non,v,h=>rfl
 | .bl b,v,h=>rfl
 | .int b,v,h=>rfl
 | .str b,v,h=>rfl
 | .tup ds,v,h=>by
  simp only[RD,J2]at h ⊢;obtain⟨a,xs,h1,h2,h3⟩:=h;exact RDs.low h3
 | .fl ds,v,h=>by
  simp only[RD,J2]at h ⊢;obtain⟨a,xs,h1,h2,h3⟩:=h;exact RDs.low h3
 | .ref i,v,h=>by
  simp only[RD,J2,decide_eq_true_eq]at h ⊢;obtain⟨a,h1,h2⟩:=h;exact(K02.mp h2).1
theorem RDs.low:∀{ds:List D}{xs:List V},RDs K ρ H ds xs->k7 ρ.length ds=true
 | [],xs,h=>rfl
 | d::ds,xs,h=>by
  simp only[RDs,k7,K0e]at h ⊢;obtain⟨x,r,h1,h2,h3⟩:=h;exact⟨RD.low h2,RDs.low h3⟩
end
theorem RK.cut{κ:Type}{n:Nat}:∀{kvs:List (κ×D)}{vs:List (κ×V)},k7 n (kvs.map (·.2))=true->RK K ρ H kvs vs->RK K (ρ.take n) H kvs vs
 | _,_,_,.nil=>.nil
 | _,_,c,.cons a b=>by
  simp only[K0p,k7,K0e]at c;exact .cons ⟨a.1,a.2.cut c.1⟩ (RK.cut c.2 b)
theorem RK.low{κ:Type}:∀{kvs:List (κ×D)}{vs:List (κ×V)},RK K ρ H kvs vs->k7 ρ.length (kvs.map (·.2))=true
 | _,_,.nil=>rfl
 | _,_,.cons a b=>by
  simp only[K0p,k7,K0e];exact⟨a.2.low,RK.low b⟩
theorem RO.cut{n:Nat}{o:O}{a:Addr}(c:refO n o=true)(h:RO K ρ H o a):RO K (ρ.take n) H o a:=by
 cases o with
 | lst ds=>obtain⟨xs,h1,h2⟩:=h;exact⟨xs,h1,h2.cut c⟩
 | set ks=>exact h
 | dct=>exact h
 | dK kvs=>obtain⟨vs,h1,h2⟩:=h;exact⟨vs,h1,h2.cut c⟩
 | dF kvs=>obtain⟨ob,vs,h1,h2⟩:=h;exact⟨ob,vs,h1,h2.cut c⟩
 | exc c=>exact h
 | ins c' fs=>obtain⟨C,dx,vs,h1,h2,h3⟩:=h;exact⟨C,dx,vs,h1,h2,h3.cut c⟩
theorem RO.low{o:O}{a:Addr}(h:RO K ρ H o a):refO ρ.length o=true:=by
 cases o with
 | lst ds=>obtain⟨xs,h1,h2⟩:=h;exact h2.low
 | set ks=>rfl
 | dct=>rfl
 | dK kvs=>obtain⟨vs,h1,h2⟩:=h;exact h2.low
 | dF kvs=>obtain⟨ob,vs,h1,h2⟩:=h;exact h2.low
 | exc c=>rfl
 | ins c fs=>obtain⟨C,dx,vs,_,_,h3⟩:=h;exact h3.low
theorem RH.cut{h:AH}{n:Nat}(r:RH K ρ h H)(c:∀o∈h.take n,refO n o=true):RH K (ρ.take n) (h.take n) H:=by
 refine⟨by simp[r.len],λi j a h1 h2=>?_,λm o a h1 h2=>?_⟩
 ·rw[K4k]at h1 h2;split at h1
  ·split at h2
   ·exact r.nd i j a h1 h2
   ·cases h2
  ·cases h1
 ·have hm:=K0d h1;rw[K4k]at h1 h2;split at h1
  ·rename_i q;rw[if_pos q]at h2;exact(r.obj m o a h1 h2).cut (c o hm)
  ·cases h1
theorem RH.cut1{i:Nat}(r:RH K ρ h H)(c:∀o∈h.take n,refO n o=true)(hn:n<=h.length)(hi:n<=i)(e:h[i]?=some o)(co:refO n o=true):∃a,ρ[i]?=some a/\RH K (ρ.take n++[a]) (h.take n++[o]) H:=by
 obtain⟨a,ea,ra⟩:=r.at e;have r1:=r.cut c;have ln:(ρ.take n).length=n:=by rw[K1e,r.len];omega
 have lh:(h.take n).length=n:=by rw[K1e];omega
 have ne:∀{m:Nat} {b:Addr},(ρ.take n)[m]?=some b->b≠a:=λ{m b} q z=>by
  have hm:=(K02.mp q).1;rw[ln]at hm;rw[z7d hm,z]at q;have:=r.nd m i a q ea;omega
 refine⟨a,ea,by simp[r1.len],λi j b h1 h2=>?_,λm u b h1 h2=>?_⟩
 ·rw[K43]at h1 h2;split at h1<;>split at h2
  ·exact r1.nd i j b h1 h2
  ·rename_i q1 q2;rw[K1z]at h2;split at h2
   ·cases h2;exact absurd rfl (ne h1)
   ·cases h2
  ·rename_i q1 q2;rw[K1z]at h1;split at h1
   ·cases h1;exact absurd rfl (ne h2)
   ·cases h1
  ·rw[K1z]at h1 h2;split at h1
   ·split at h2
    ·omega
    ·cases h2
   ·cases h1
 ·rw[K43]at h1 h2;rw[ln]at h2;rw[lh]at h1;split at h1
  ·rename_i q;rw[if_pos q]at h2;exact(r1.obj m u b h1 h2).mono (Pre.app _ _) .(b) rfl
  ·rename_i q;rw[if_neg q]at h2;rw[K1z]at h1 h2;split at h1
   ·rename_i q0;rw[if_pos q0]at h2;cases h1;cases h2;exact(ra.cut co).mono (Pre.app _ _) .(b) rfl
   ·cases h1
end
theorem zA2{h1:AH}(r:RH K ρ h H)(c:Kept h h1):∀o∈h1.take h.length,refO h.length o=true:=λo ho=>by
 obtain⟨i,hi⟩:=List.getElem?_of_mem ho;rw[K4k]at hi;split at hi
 ·rename_i li;rcases c i o li hi with q|q
  ·obtain⟨a,_,ra⟩:=r.at q;rw[<- r.len];exact ra.low
  ·exact q
 ·cases hi
theorem z5H(h j:AH):Kept h (h++j):=λi o li e=>.inl (by rw[K0s li]at e;exact e)
open Classical in
def cln(m:M D):M D:=λh=>match m h with
 | .ok d h1=>if h.length<=h1.length/\Kept h h1 then
  (if J2 .(h) d=true then .ok d (h1.take .(h)) else match d with
   | .ref i=>(match h1[i]? with
    | some o=>if refO h.length o=true then .ok (.ref h.length) (h1.take h.length++[o]) else .ok d h1
    | none=>.ok d h1)
   | d=>.ok d h1)
  else .ok d h1
 | .err x h1=>.err x h1
 | .bad=>.bad
theorem FE.cln{K:K5}{EX:XX}{ρ:List Addr}{h:AH}{H:Hp}{Q:VK}{m:M D}(r:RH K ρ h H)(f:FE K EX ρ H Q (cln m h)):FE K EX ρ H Q (m h):=by
 unfold FT.cln at f;cases e:m h with
 | bad=>rw[e]at f;exact f
 | err x h1=>rw[e]at f;exact f
 | ok d h1=>
  rw[e]at f;dsimp only at f;split at f
  ·rename_i c;obtain⟨hl,c⟩:=c;have cl:=zA2 r c;have pre:∀{ρ1:List Addr},Pre ρ ρ1->Pre ρ (ρ1.take .(h)):=λ{ρ1} p i a q=>by
    have:=(K02.mp q).1;rw[r.len]at this;rw[z7d this];exact p i a q
   split at f
   ·rename_i cd;exact λρ1 H1 p1 e1 r1 v rv=>f _ H1 (pre p1) e1 (r1.cut cl) v (rv.cut cd)
   ·rename_i nd;split at f
    ·rename_i i;split at f
     ·rename_i o eo;split at f
      ·rename_i co;intro ρ1 H1 p1 e1 r1 v rv;have hi:.(h)<=i:=by
        simp only[J2,decide_eq_true_eq]at nd;omega
       obtain⟨a,ea,r2⟩:=r1.cut1 cl hl hi eo co;refine f _ H1 ((pre p1).trans (Pre.app _ _)) e1 r2 v ?_;simp only[RD]at rv ⊢;obtain⟨b,h2,h3⟩:=rv;rw[ea]at h3;cases h3;refine⟨a,h2,?_⟩;have ln:(ρ1.take .(h)).length=h.length:=by rw[K1e,r1.len];omega
       rw[K0i .(0),ln];simp
      ·exact f
     ·exact f
    ·exact f
  ·exact f
def clE(m:G->M D):G->M D:=λγ=>cln (m γ)
theorem z0n{X:Cx}{EX:XX}{e:Expr}{m:G->M D}(h:SE X EX e m):SE X EX e (clE m):=
 ⟨PE.imp h.h λσ H Q ⟨ρ,γ,h,rel,fin⟩=>⟨ρ,γ,h,rel,FE.cln rel.h fin⟩⟩
theorem Fn.cln{P:K1i}{w:World}{K:K5}{mg:Str->Option Value}{base:Heap}{k:Nat}{x:Str}{n:Nat}{mf:List D->M D}(F:Fn P w K mg base k x n mf):Fn P w K mg base k x n (λds=>cln (mf ds)):=by
 obtain⟨f,fd,ps,h1,h2,h3,h4⟩:=F.ex;exact⟨f,fd,ps,h1.imp λvs H Q E ⟨hl,ρ,ds,h,rh,rd,fin⟩=>⟨hl,ρ,ds,h,rh,rd,FE.cln rh fin⟩,h2,h3,h4⟩
end FT
namespace L2
open PySem PySem.Spec PyProof.Rows PySem.Builtin
theorem z41:fillsNumberSlot (.type "tuple") "mul" = pure false:=
 PySem.fillsNumberSlot_seq (id:="tuple.__mul__") (r:=some (.builtin "tuple.__rmul__")) K3n.lookup .(5) K8c.lookup .(5)
theorem z6W:seqRepeat? (.type "tuple")=pure (some (.builtin "tuple.__mul__")):=by
 unfold seqRepeat?;rw[Z2p (T:="tuple") (name:="__mul__") (id:="tuple.__mul__") K3n.lookup .(5),Z2p (T:="tuple") (name:="__rmul__") (id:="tuple.__rmul__") K8c.lookup .(5)];rfl
theorem zC9(a:Int)(t:Tok)(l:Addr)(items:Array Value)(n:Nat)(dd:Option Addr)(sl:Array (Option Value)) :
 Meets (Builtin.«int.__rmul__» ⟨[.int a t,.ref l],[]⟩) (λ_ R s=>s.heap.get? l=some { cls:=.type "tuple",dict:=dd,data:=.seq items n,slots:=sl }/\R (.ok (.ret Value.notImplemented)) s):=
 .of_wp λprog w A R s h=>by obtain⟨hp,g,d,tk,os⟩:=s;obtain⟨hl,h⟩:=h;wp_walk;exact⟨_,rfl,h⟩
theorem zW4(l:Addr)(items:Array Value)(n:Nat)(dd:Option Addr)(sl:Array (Option Value))(x:Int)(u:Tok)(h1:-(2 ^ 63)<=x)(h2:x<2 ^ 63)(hc:items.isEmpty=true\/x=1) :
 Meets (Builtin.«tuple.__mul__» ⟨[.ref l,.int x u],[]⟩) (λ_ R s=>s.heap.get? l=some { cls:=.type "tuple",dict:=dd,data:=.seq items n,slots:=sl }/\R (.ok (.ret (K29 l))) s):=
 .of_wp λprog w A R s h=>by
  obtain⟨hp,g,d,tk,os⟩:=s;obtain⟨hl,h⟩:=h;have f1:=K68;have c1:(decide (x < -(2 ^ 63))||decide (x >= 2 ^ 63))=false:=by simp;omega
  have c2:(items.isEmpty||x==1)=true:=by simpa using hc
  wp_walk using K1l hl
  refine K3j (by rw[c1];rfl) ?_
  wp_walk using K1l hl
  exact⟨_,rfl,h⟩
theorem zR5(l:Addr)(items:Array Value)(n:Nat)(dd:Option Addr)(sl:Array (Option Value))(x:Int)(u:Tok)(h1:-(2 ^ 63)<=x)(h2:x<2 ^ 63)(hc:items.isEmpty=false)(hx:x<=0) :
 Meets (Builtin.«tuple.__mul__» ⟨[.ref l,.int x u],[]⟩) (λ_ R s=>s.heap.get? l=some { cls:=.type "tuple",dict:=dd,data:=.seq items n,slots:=sl }/\R (.ok (.ret (K29 .(3)))) { s with heap:=s.heap.push { cls:=K46 "tuple",data:=Z3a #[] },toks:=s.toks }):=
 .of_wp λprog w A R s h=>by
  obtain⟨hp,g,d,tk,os⟩:=s;obtain⟨hl,h⟩:=h;have f1:=K68;have c1:(decide (x < -(2 ^ 63))||decide (x >= 2 ^ 63))=false:=by simp;omega
  have c2:(items.isEmpty||x==1)=false:=by rw[hc];simp;omega
  have c3:(decide (x<=0)||items.isEmpty)=true:=by simp[hx]
  wp_walk using K1l hl
  refine K3j (by rw[c1];rfl) ?_
  wp_walk using K1l hl
  refine K3j (by rw[c2];rfl) ?_
  wp_walk using K1l hl
  exact⟨_,rfl,h⟩
theorem zP2(l:Addr)(items:Array Value)(n:Nat)(dd:Option Addr)(sl:Array (Option Value))(x:Int)(u:Tok)(h1:-(2 ^ 63)<=x)(h2:x<2 ^ 63)(hc:items.isEmpty=false)(hx:1<x)(hz:items.size * x.toNat<=sizeLine) :
 Meets (Builtin.«tuple.__mul__» ⟨[.ref l,.int x u],[]⟩) (λ_ R s=>s.heap.get? l=some { cls:=.type "tuple",dict:=dd,data:=.seq items n,slots:=sl }/\R (.ok (.ret (K29 .(3)))) { s with heap:=s.heap.push { cls:=K46 "tuple",data:=Z3a (K6m (λx1 x2=>x1++x2) #[] (K0t x.toNat items)) },toks:=s.toks }):=
 .of_wp λprog w A R s h=>by
  obtain⟨hp,g,d,tk,os⟩:=s;obtain⟨hl,h⟩:=h;have f1:=K68;have c1:(decide (x < -(2 ^ 63))||decide (x >= 2 ^ 63))=false:=by simp;omega
  have c2:(items.isEmpty||x==1)=false:=by rw[hc];simp;omega
  have c3:(decide (x<=0)||items.isEmpty)=false:=by rw[hc];simp;omega
  have ez:(items.size:Int) * x=((.(w) * x.toNat:Nat):Int):=by
   rw[Int.natCast_mul,K5g .(0)]
  have sl4:(sizeLine:Nat)<=2 ^ 24:=by decide
  have c4:¬ (items.size:Int) * x > (2 ^ 63 - 1) / 8:=by rw[ez];omega
  have c5:Tuple.tupleTooMany ((items.size:Int) * x)=false:=by
   unfold Tuple.tupleTooMany;rw[ez,decide_eq_false_iff_not];omega
  wp_walk using K1l hl
  refine K3j (by rw[c1];rfl) ?_
  wp_walk using K1l hl
  refine K3j (by rw[c2];rfl) ?_
  wp_walk using K1l hl
  refine K3j (by rw[c3];rfl) ?_
  wp_walk using K1l hl
  rw[if_neg c4]
  wp_walk using K1l hl
  refine K3j (by rw[c5];rfl) ?_
  wp_walk using K1l hl
  have c6:¬ (K6m (λx1 x2=>x1++x2) #[] (K0t x.toNat items)).size > sizeLine:=by
   have f0:=foldl_rep items.toList x.toNat [];rw[K94]at f0;have:(K6m (λx1 x2=>x1++x2) #[] (K0t x.toNat items))=(K0t x.toNat items.toList).flatten.toArray:=f0;rw[this,K07,len_rep,K1d,K73];omega
  refine K3j (.(k) c6) ?_
  wp_walk using K1l hl
  exact⟨_,rfl,h⟩
def zS6(K:K5):R2:=λx y H Q=>∃a k xs,x=.ref a/\y=.int k/\SqT K H a xs/\-(2 ^ 63)<=k/\k<2 ^ 63/\xs.length * k.toNat<=sizeLine /\
 ((xs=[]\/k=1)->Q (.ref a) H)/\(∀p,H p=none->Q (.ref p) (upd H p (.tup (K0t k.toNat xs).flatten)))
theorem zD9{X:Cx}:OpR X (K2r .Mult) (zS6 X.K):=by
 intro pins s σ H x y v u Q I rx ry h;obtain⟨a,k,xs,rfl,rfl,ha,h1,h2,hz,q1,q2⟩:=h;cases rx;obtain⟨t,rfl⟩:=ry;obtain⟨its,r1,p1,_⟩:=I.tuple ha;obtain⟨⟨cls,dd,data,sl⟩,ho,hc,n,hd⟩:=id p1;simp only at hc hd;subst hc hd;have go:∀(R:Value->Shared->Prop),wpAny .(6) X.A (call (.builtin "tuple.__mul__") [.ref a,.int k t]) R X.xe s->wpAny .(6) X.A (K2r .Mult (.ref a) (.int k t)) R X.xe s:=λR z=>
  K7t (T:="tuple") (U:="int") .(1) ⟨_,ho,rfl⟩ (λs'=>K8v s' k t) z41 PySem.F.fills_int_mul K9b z6W PySem.F.slot_int_index.lookup
   (K3r K9b (K8v s k t) PySem.F.entry_int_rmul (PySem.F.args_int_rmul_2 _ _) (zC9 k t a its.toArray n dd sl) ⟨ho,rfl,⟨_,ho,rfl⟩,z⟩)
 refine go _ ?_;have ln:its.length=xs.length:=r1.length.symm;by_cases c:xs=[]\/k=1
 ·refine K3r K3n ⟨_,ho,rfl⟩ K62 (K5n _ _) (zW4 a its.toArray n dd sl k t h1 h2 ?_) ⟨ho,.ref a,H,I,rfl,q1 c⟩;rcases c with c|c
  ·left;have:its=[]:=r1.nil_iff.mpr c;rw[this];rfl
  ·exact .inr c
 ·have ne:its.toArray.isEmpty=false:=by
   cases its with
   | nil=>exact absurd (.inl (r1.nil_iff.mp rfl)) c
   | cons a r=>rfl
  by_cases k0:k<=0
  ·refine K3r K3n ⟨_,ho,rfl⟩ K62 (K5n _ _) (zR5 a its.toArray n dd sl k t h1 h2 ne k0) ⟨ho,?_⟩;have e0:k.toNat=0:=by omega
   refine⟨.ref .(3),_,I.laid (t':=s.toks) (o:=.tup (K0t k.toNat xs).flatten) (λb ob q=>K9 _ q) (K01 _) ?_,rfl,q2 _ (I.hok.fresh (K01 _))⟩;rw[e0];exact⟨by simp,_,.nil,FT.IsTup0.new _ _⟩
  ·have k2:1<k:=by
    have:k≠1:=λz=>c (.inr z);omega
   refine K3r K3n ⟨_,ho,rfl⟩ K62 (K5n _ _) (zP2 a its.toArray n dd sl k t h1 h2 ne k2 (by rw[K07,ln];exact hz)) ⟨ho,?_⟩;refine⟨.ref .(3),_,I.laid (t':=s.toks) (o:=.tup (K0t k.toNat xs).flatten) (λb ob q=>K9 _ q) (K01 _) ?_,rfl,q2 _ (I.hok.fresh (K01 _))⟩;refine⟨by rw[len_rep,K73];exact hz,_,r1.rep k.toNat,?_⟩;have f0:=foldl_rep its k.toNat [];rw[K94]at f0;have e:(K6m (λx1 x2=>x1++x2) #[] (K0t k.toNat its.toArray))=(K0t k.toNat its).flatten.toArray:=f0;rw[e];exact FT.IsTup0.new _ _
end L2
namespace FT
variable{X:Cx}{EX:XX}{pos:Pos}{ma:G->M D}{K:K5}{x:Str}{st:Stmt}{dk:Addr}{sl:Array (Option Value)}{P:K1i}{w:World}{mg:Str->Option Value}{base:Heap}{ps:List Str}{mf:List D->M D}{d1 d2:List D}{e kws:List K5b}{nm:Option Str}
def z5o:D->D->M D
 | .tup x,.int j=>if decide (-(2 ^ 63)<=j)&&decide (j<2 ^ 63)&&decide (j.toNat * x.length<=sizeLine) then pure (.tup (K0t j.toNat x).flatten) else bad
 | x,y=>fMul x y
theorem zB8:BR X.K EX (λx y H Q=>(rI CMul (λi j=>.int (i * j)) x y H Q\/rRep x y H Q)\/zS6 X.K x y H Q) z5o:=by
 intro ρ h H x y v u Q r rx ry fin;unfold z5o at fin;split at fin
 ·rename_i ds j;simp only[RD]at rx ry;obtain⟨a,xs,rfl,sq,rd⟩:=rx;subst ry;split at fin
  ·rename_i hc;simp only[K0e,decide_eq_true_eq]at hc;have hl:=rd.length;refine .inr ⟨a,j,xs,rfl,rfl,sq,hc.1.1,hc.1.2,by rw[<- hl,K73];exact hc.2,λc=>?_,λp hp=>FE.tup fin r (rd.flat j.toNat) hp⟩;refine FE.here fin r ?_;simp only[RD];refine⟨a,xs,rfl,sq,?_⟩;rcases c with c|c
   ·subst c;have:ds=[]:=by simpa using hl
    subst this;have:(K0t j.toNat ([]:List D)).flatten=[]:=by simp
    rw[this];exact rd
   ·subst c;have:(K0t (1:Int).toNat ds).flatten=ds:=by simp
    rw[this];exact rd
  ·exact fin.elim
 ·exact .inl (zY2 ρ h H x y v u Q r rx ry fin)
theorem z5f{a b:Expr}{mb:G->M D}(ha:SE X EX a ma)(hb:SE X EX b mb):SE X EX (.BinOp a .Mult b pos) (e2 z5o ma mb):=z4V ((op_mul.or zN2).or zD9) zB8 ha hb
def DefK(K:K5)(x:Str)(st:Stmt)(dk:Addr):Prop:=∃(f:Addr) (oc:Value) (od:Option Addr) (doc pm:Value) (an:Option Addr) (cdv ct:Value) (osl:Array (Option Value)),K3z K K23 x=some (.(r f)) /\
 K.lookup f=some ⟨oc,od,.func (K2i x x (z13 st) (z03 st) (j3 st) .none (.ref dk) doc pm an cdv ct),osl⟩/\K2y K cdv x=true/\K2o K (.ref f)=true
theorem defK_mk{st:Stmt}{f dk:Addr}{oc:Value}{od an:Option Addr}{sl:Array (Option Value)}{dc pm cd ct:Value}(a:K3z K K23 x=some (.(r f)))
 (l:K.lookup f=some ⟨oc,od,.func (K2i x x (z13 st) (z03 st) (j3 st) .none (.ref dk) dc pm an cd ct),sl⟩) (c:K2y K cd x=true) (k:K2o K (.ref f)=true):DefK K x st dk:=⟨f,oc,od,dc,pm,an,cd,ct,sl,a,l,c,k⟩
structure FnR(P:K1i)(w:World)(K:K5)(mg:Str->Option Value)(base:Heap)(k:Nat)(x:Str)(st:Stmt)(dk:Addr)(ps:List Str)(mf:List D->M D):Prop where
 ex:∃(f:Addr) (doc pm:Value) (an:Option Addr) (cdv ct:Value),FnOk P w K mg base CX0 k f (K2i x x (z13 st) (z03 st) (j3 st) .none (.ref dk) doc pm an cdv ct) ps (spB K mf ps.length)/\K2o K (.ref f)=true/\mg x=.(r f)
theorem FnR.cln{P:K1i}{w:World}{K:K5}{mg:Str->Option Value}{base:Heap}{k:Nat}{x:Str}{st:Stmt}{dk:Addr}{ps:List Str}{mf:List D->M D}(F:FnR P w K mg base k x st dk ps mf):FnR P w K mg base k x st dk ps (λds=>FT.cln (mf ds)):=by
 obtain⟨f,doc,pm,an,cdv,ct,h1,h2,h3⟩:=F.ex;exact⟨f,doc,pm,an,cdv,ct,h1.imp λvs H Q E ⟨hl,ρ,ds,h,rh,rd,fin⟩=>⟨hl,ρ,ds,h,rh,rd,FE.cln rh fin⟩,h2,h3⟩
theorem zV9{P:K1i}{w:World}{base:Heap}{N:List Str}{k:Nat}{mb:G->M Out}(T:DefK K x st dk)(mx:∀v,K3z K K23 x=some (some v)->mg x=some v)(S:FnScope N ps (j3 st))
 (body:∀(f:Addr) (cdv:Value) (A:Around) (outer:List Env) (s:Shared) (H:Hp) (E:XK),K2y K cdv x=true->Room k (A.deeper (envOfC x (j3 st) .(3) f cdv)) ->
  SB (cxOf CX0 P w K mg base N x (j3 st) f cdv A outer s H E).nox EX0 (z03 st) mb):FnR P w K mg base (k+1) x st dk ps (runF N.length mb):=by
 obtain⟨f,oc,od,doc,pm,an,cdv,ct,osl,hf,lk,hcd,kp⟩:=T;refine⟨f,doc,pm,an,cdv,ct,?_,kp,mx _ hf⟩;refine zz5 lk hcd S (λvs H Q E h=>h.1) λA outer s H vs Q E hr h=>?_;obtain⟨hl,ρ,ds,h,rh,rd,fin⟩:=h;refine⟨_,(body f cdv A outer s H E hcd hr).h.nox,ρ,z1b N.length ds,h,⟨z4n rd,rh⟩,?_⟩;refine(Fin.bind fin).mono λo ρ1 h1 H1 p1 e1 r1 f1=>?_;cases o with
 | nx γ=>exact λσ _=>FE.here (d:=.non) (h:=h1) f1 r1 .(s)
 | rt d=>exact λv rv=>f1 ρ1 H1 .(c) .(b) r1 v rv
 | bk γ=>exact(show False from f1).elim
 | ct γ=>exact(show False from f1).elim
structure FnP(P:K1i)(w:World)(K:K5)(mg:Str->Option Value)(base:Heap)(k:Nat)(x:Str)(n:Nat)(ks:List Str)(d1 d2:List D)(mf:List D->M D):Prop where
 ex:∃f fd ps g gV v1 v2,FnOk P w K mg base CX0 k f fd ps (spB K mf ps.length)/\KBinds K fd ps ks g gV/\K2o K (.ref f)=true/\mg x=.(r f)/\(∀vs zs:List V,vs.length=n->zs.length=ks.length->gV vs zs=vs++(v1++zs++v2)/\(gV vs zs).length=ps.length) /\
  ∀ρ H,RDs K ρ H d1 v1/\RDs K ρ H d2 v2
theorem FnR.pat{k:Nat}(F:FnR P w K mg base k x st dk ps mf)(n:Nat)(ks:List Str){d1 d2:List D}{v1 v2:List V}{u1 u2:List Value}
 (r1:Vals v1 u1) (r2:Vals v2 u2) (e1:∀ρ H,RDs K ρ H d1 v1) (e2:∀ρ H,RDs K ρ H d2 v2) (hp:0<ps.length) (hl:n+(u1.length+ks.length+u2.length)=ps.length)
 (hB:∀(doc pm:Value) (an:Option Addr) (cdv ct:Value) (s:Shared) (us ws:List Value),K.In s.heap->us.length=n->ws.length=ks.length->K8u s (K2i x x (z13 st) (z03 st) (j3 st) .none (.ref dk) doc pm an cdv ct) ⟨us,ks.zip ws⟩ (ps.zip (us++(u1++ws++u2)))):FnP P w K mg base k x n ks d1 d2 mf:=by
 obtain⟨f,doc,pm,an,cdv,ct,h1,h2,h3⟩:=F.ex;refine⟨f,_,ps,λus ws=>if us.length=n/\ws.length=ks.length then us++(u1++ws++u2) else [],λus ws=>if us.length=n/\ws.length=ks.length then us++(v1++ws++v2) else [],v1,v2,h1,⟨λs us ws X q=>?_,λ{vs us zs ws} a b=>?_⟩,h2,h3,λvs zs a b=>?_,λρ H=>⟨e1 ρ H,e2 ρ H⟩⟩
 ·split at q
  ·rename_i c;rw[if_pos c];exact hB doc pm an cdv ct s us ws X c.1 c.2
  ·rw[K06]at q;omega
 ·rw[a.length,b.length];split
  ·exact a.append ((r1.append b).append r2)
  ·exact .nil
 ·dsimp only;rw[if_pos ⟨a,b⟩];refine⟨rfl,?_⟩;simp only[K3,r1.length,r2.length];omega
structure SK(X:Cx)(EX:XX)(kws:List K5b)(m:G->M (List D)):Prop where
 h:PK X kws (tL X.K EX m)
theorem PK.imp{t t':TA}(h:PK X e t)(f:∀σ H Q,t' σ H Q->t σ H Q):PK X e t':=λpos pins s σ H Q I z=>h pos pins s σ H Q I (f σ H Q z)
section
variable{a e:Expr}{es:List Expr}{p kpos:Pos}{mr mk:G->M (List D)}
theorem zu0:SK X EX [] aNil:=⟨PK.imp zS2 λσ H Q ⟨ρ,γ,h,rel,fin⟩=>fin ρ H .(c) .(b) rel.h [] RDs.nil⟩
theorem zi4(ha:SE X EX e ma)(hr:SK X EX kws mr):SK X EX (⟨nm,e,kpos⟩::kws) (z7 ma mr):=
 ⟨PK.imp (zJ9 ha.h hr.h) λσ H Q ⟨ρ,γ,h,rel,fin⟩=>⟨ρ,γ,h,rel,(Fin.bind fin).mono λx ρ1 h1 H1 p1 e1 r1 f1 v rv=>⟨ρ1,γ,h1,⟨rel.g.mono p1 e1,r1⟩,(Fin.bind f1).mono λxs ρ2 h2 H2 p2 e2 r2 f2 vs rvs=>
  f2 ρ2 H2 .(c) .(b) r2 (v::vs) (RDs.cons (rv.mono p2 e2) rvs)⟩⟩⟩
def eFnP(n q:Nat)(d1 d2:List D)(mf:List D->M D)(mr mk:G->M (List D)):G->M D:=λγ=>do
 let xs <- mr γ;let zs <- mk γ
 if xs.length=n/\zs.length=q then mf (xs++(d1++zs++d2)) else bad
theorem z84{k n q:Nat}{ks:List Str}(F:FnP X.prog X.w X.K X.mg X.base k x n ks d1 d2 mf)(hr:Room k X.A)(hg:Gl X x)(ha:SA X EX0 (a::es) mr)(hk:SK X EX0 kws mk)
 (hall:(K4s pos (K37 kws X.env)).all (·.1.isSome)=true:=by rfl) (hks:(K4s pos (K37 kws X.env)).filterMap (·.1)=ks:=by rfl)
 (hdb:(x==("__debug__":Str))=false:=by decide) (he:K0k (a::es) X.env=(false,eval a X.env)::K0k es X.env:=by rfl)
 (hpl:((backTo pos (K0k (a::es) X.env)).any (·.1)||(K4s pos (K37 kws X.env)).any (·.1.isNone))=false:=by rfl) (hq:ks.length=q:=by rfl):SE X EX0 (.Call (.Name x p) (a::es) kws pos) (eFnP n q d1 d2 mf mr mk):=by
 subst hq;constructor;obtain⟨f,fd,ps,g,gV,v1,v2,h1,h2,h3,h4,h5,h6⟩:=F.ex;refine PE.imp (zr0 h1 hr hg h4 h3 h2 zS1 ha.h hk.h hall hks hdb he hpl) λσ H Q ⟨ρ,γ,h,rel,fin⟩=>⟨ρ,γ,h,rel,(Fin.bind fin).mono λxs ρ1 h1 H1 p1 e1 r1 f1 vs rvs=>⟨ρ1,γ,h1,⟨rel.g.mono p1 e1,r1⟩,(Fin.bind f1).mono λzs ρ2 h2 H2 p2 e2 r2 f2 us rus=>?_⟩⟩;show spB X.K mf ps.length (gV vs us) H2 Q E0;by_cases c:xs.length=n/\zs.length=ks.length
 ·rw[if_pos c]at f2;have l1:=rvs.length;have l2:=rus.length;obtain⟨q1,q2⟩:=h5 vs us .(0) .(0);refine⟨q2,ρ2,_,h2,r2,?_,f2⟩;rw[q1];exact(rvs.mono p2 e2).append (((h6 ρ2 H2).1.append rus).append (h6 ρ2 H2).2)
 ·rw[if_neg c]at f2;exact(show False from f2).elim
end
theorem z8T:∀ρ H,RDs K ρ H [] []:=λ_ _=>RDs.nil
end FT
namespace L2
open PySem.AutoSeq1 (wpAny_loadPart')
variable{p:Addr}{acc:Array Value}{pins:List (Addr×Obj)}
def rngO(p:Addr)(n:Int):HO:=.ext λh=>∃t u v,IsRange h p 0 n 1 t u v
theorem zZ1{P:K1i}{w:World}{H:Hp}{h:Heap}{n:Int}{t u v:Tok}(e:IsRange h p 0 n 1 t u v):ObjOk P w H h p (rngO p n):=
 ⟨⟨t,u,v,e⟩,⟨_,e⟩,λh1 h2 ⟨t,u,v,e⟩ k=>⟨t,u,v,k _ e⟩⟩
def z75(n:Nat):List V:=(K0b n).map λ(i:Nat)=>V.int i
theorem z9z{n:Nat}(h:ItemsOf (λi v=>∃t,v=K78 (0+i * 1) t) acc n):Vals (z75 n) acc.toList:=by
 obtain⟨hs,hi⟩:=h;have:∀(xs:List Value) (k:Nat),(∀j v,xs[j]?=some v->∃t,v=K78 (0+((k+j:Nat):Int) * 1) t)->Vals ((K6u k xs.length).map λ(i:Nat)=>V.int i) xs:=by
  intro xs;induction xs with
  | nil=>intro k _;exact .nil
  | cons x r ih=>
   intro k hk;rw[K6,List.range'_succ,K0p];refine .cons ?_ (ih (k+1) λj v e=>?_)
   ·obtain⟨t,rfl⟩:=hk 0 x rfl;exact⟨t,by simp⟩
   ·obtain⟨t,rfl⟩:=hk (j+1) v (by simpa using e);exact⟨t,by congr 3;omega⟩
 have q:=this acc.toList 0 (λj v e=>by
  obtain⟨t,rfl⟩:=hi j v (by simpa using e);exact⟨t,by simp⟩)
 unfold z75;rw[List.range_eq_range',<- hs];simpa using q
section
variable{X:Cx}
theorem zr7:z43 X (.type "range") (λxs H Q=>∃j,xs=[.int j]/\∀p,H p=none->Q (.ref p) (upd H p (rngO p j))):=by
 intro pins s σ H xs us Q I r h;obtain⟨j,rfl,q⟩:=h;obtain⟨u,rfl,ru⟩:=vals1 r;obtain⟨t,rfl⟩:=ru;refine call_range_1 ⟨.ref .(3),_,I.laid (o:=rngO .(3) j) (λb ob q=>K9 _ q) (K01 _) (zZ1 (K0j _ rfl)),rfl,q _ (I.hok.fresh (K01 _))⟩
theorem zV5{σ:St}{H:Hp}{s:Shared}{j:Int}(I:Inv X pins σ H s)(e:H p=some (rngO p j)):∃t u v,IsRange s.heap p 0 j 1 t u v:=(I.hok p _ e).1
theorem zL1{j:Int}(h1:-(2 ^ 62)<=j)(h2:j<2 ^ 62):Builtin.Range.small 0 j 1=true:=small_one .(0) .(0) h1 h2
theorem zS4(j:Int):K8e 0 j 1=(j.toNat:Int):=by rw[rangeSize_one];split<;>omega
theorem z9u(hc:X.calm=true):z43 X (.type "list") (λxs H Q=>∃p j,xs=[.ref p]/\H p=some (rngO p j)/\-(2 ^ 62)<=j/\j<2 ^ 62/\j.toNat<=sizeLine/\∀l,H l=none->Q (.ref l) (upd H l (.lst (z75 j.toNat)))):=by
 intro pins s σ H xs us Q I r h;obtain⟨p,j,rfl,e,h1,h2,hl,q⟩:=h;obtain⟨u,rfl,ru⟩:=vals1 r;cases ru;obtain⟨t,u,v,hr⟩:=zV5 I e;have l4:(sizeLine:Nat)<=2 ^ 24:=by decide
 refine call_list_range (n:=j.toNat) (I.ok.hd hc) hr (zL1 h1 h2) (zS4 j) .(0) λh' tk acc c' kp e' hacc=>?_;have hv:=z9z hacc;refine⟨.ref s.heap.objs.size,_,I.laid (t':=tk) (o:=.lst (z75 j.toNat)) kp (K01 _) ⟨by unfold z75;simpa using hl,acc.toList,c',hv,by simpa using e'⟩,rfl,q _ (I.hok.fresh (K01 _))⟩
end
end L2
namespace FT
variable{K:K5}{ρ:List Addr}{H:Hp}{X:Cx}{EX:XX}{a n i x:Nat}{p pos pos2 apos cpos:Pos}{ma m me mb mo:G->M D}{h j r h1:AH}{d:D}{xs ys ds:List D}{v:V}{pins:List (Addr×Obj)}{A:Around}{u:Value}{its:Array Value}{neg b:Bool}{α ι:Type}{Q:D->AH->Prop}{γ:G}{cap:List (Option Nat)}{mi:G->M Src}{g:D->G->M G}{src:Src}{f:List D->M D}{st:List (List Nat)}{mk:List (List Str)}{l S T:List Nat}{mr:G->M (List D)}{mt:G->M Out}{gr sm:List Int}{o:O}{kk kb:G->M Bool}{kvs:List (Key×D)}{vs:List (Key×V)}{e:Expr}{Z:List (Key×D)->List Addr->AH->Hp->Prop}
def eRng(tup:Bool)(ma:G->M D):G->M D:=λγ=>do
 let x <- ma γ
 match x with
 | .int j=>if decide (-(2 ^ 62)<=j)&&decide (j<2 ^ 62)&&decide (j.toNat<=sizeLine) then (if tup then pure (.tup (J9 j.toNat)) else newL (J9 j.toNat)) else bad
 | _=>bad
theorem ze7{K:K5}{ρ:List Addr}{H:Hp}{ι:Type}{f:ι->D}{g:ι->V}:∀(l:List ι),(∀i,RD K ρ H (f i) (g i))->RDs K ρ H (l.map f) (l.map g)
 | [],_=>RDs.nil
 | x::r,h=>RDs.cons (h x) (ze7 r h)
theorem za1(n:Nat):RDs K ρ H (J9 n) (z75 n):=by
 unfold J9 z75;exact ze7 _ λi=>by simp[RD]
section
variable{a:Expr}{p2:Pos}
theorem zp6(hc:X.calm=true)(hg:Gl X "list")(hm:X.mg "list" = none)(hg2:Gl X "range")(hm2:X.mg "range" = none)(ha:SE X EX a ma)(he:K0k [a] X.env=[(false,eval a X.env)]:=by rfl)
 (he2:K0k [.Call (.Name "range" p2) [a] [] pos2] X.env=[(false,eval (.Call (.Name "range" p2) [a] [] pos2) X.env)]:=by rfl):SE X EX (.Call (.Name "list" p) [.Call (.Name "range" p2) [a] [] pos2] [] pos) (eRng false ma):=
 ⟨PE.imp (z2n (z9u hc) hg hm .(5) (z0N (z2n zr7 hg2 hm2 .(5) (z0N ha.h z2l he) .(1) .(1) he rfl) z2l he2) .(1) .(1) he2 rfl) λσ H Q ⟨ρ,γ,h,rel,fin⟩=>⟨ρ,γ,h,rel,(Fin.bind fin).mono λx ρ1 h1 H1 p1 e1 r1 f1 v rv=>by
  cases x<;>first|exact(show False from f1).elim|skip
  rename_i j;simp only[RD]at rv;subst rv;dsimp only at f1;split at f1
  ·rename_i c;simp only[K0e,decide_eq_true_eq]at c;rw[if_neg .(1)]at f1;refine⟨j,rfl,λq hq=>⟨q,j,rfl,Y9,c.1.1,c.1.2,c.2,λl hl=>?_⟩⟩;unfold newL at f1;rw[if_pos (by unfold J9;simpa using c.2)]at f1;exact FE.lst (Fin.up .(c) (Ext.upd (.inl hq)) f1) (r1.other hq) (za1 _) hl
  ·exact f1.elim⟩⟩
end
inductive Vw where
 | flat (d:D)|tup (xs:List D)|lst (xs:List D)|no
def vw(h:AH):D->Vw
 | .tup xs=>.tup xs
 | .fl xs=>.lst xs
 | .ref i=>match h[i]? with
  | .(l xs)=>.lst xs
  | _=>.no
 | d=>.flat d
def eqZ(f:D->D->Option Bool):List D->List D->Option Bool
 | [],[]=>some true
 | x::xs,y::ys=>match f x y,eqZ f xs ys with
  | some a,some b=>some (a&&b)
  | _,_=>none
 | _,_=>some false
def eqN:Nat->AH->D->D->Option Bool
 | 0,_,_,_=>none
 | n+1,h,x,y=>match vw h x,vw h y with
  | .flat a,.flat b=>some (eqF a b)
  | .tup xs,.tup ys=>eqZ (eqN n h) xs ys
  | .lst xs,.lst ys=>eqZ (eqN n h) xs ys
  | .no,_=>none
  | _,.no=>none
  | _,_=>some false
def eqE(f:D->D->Option Bool)(xs ys:List D)(j:Nat):Bool:=(f (xs.getD j .non) (ys.getD j .non)).getD false
theorem z5s{f:D->D->Option Bool}:∀{xs ys:List D}{b:Bool},eqZ f xs ys=some b ->
 (∀j x y,xs[j]?=some x->ys[j]?=some y->f x y=some (eqE f xs ys j))/\b=((K0b (min xs.length ys.length)).all (eqE f xs ys)&&xs.length==ys.length)
 | [],[],b,h=>by
  unfold eqZ at h;cases h;exact⟨λj x y e=>by simp at e,by simp⟩
 | [],y::ys,b,h=>by
  unfold eqZ at h;cases h;exact⟨λj x y e=>by simp at e,by simp⟩
 | x::xs,[],b,h=>by
  unfold eqZ at h;cases h;exact⟨λj x y _ e=>by simp at e,by simp⟩
 | x::xs,y::ys,b,h=>by
  unfold eqZ at h;split at h
  ·rename_i a c e1 e2;cases h;obtain⟨q1,q2⟩:=z5s e2;refine⟨λj p q ep eq=>?_,?_⟩
   ·cases j with
    | zero=>simp at ep eq;subst ep;subst eq;unfold eqE;simp[e1]
    | succ j=>simpa [eqE] using q1 j p q (by simpa using ep) (by simpa using eq)
   ·rw[q2];have:min (x::xs).length (y::ys).length=min xs.length ys.length+1:=by simp
    rw[this,List.range_succ_eq_map,K5j,List.all_map,<- Bool.and_assoc];congr 1
    ·unfold eqE;simp[e1,K7w]
    ·simp
  ·cases h
theorem z2i{a:D}(e:vw h d=.flat a):a=d/\z17 d=true:=by
 cases d<;>simp[vw]at e<;>first|(subst e;exact⟨rfl,rfl⟩)|skip
 split at e<;>cases e
theorem z3P(e:vw h d=.tup xs)(r:RD K ρ H d v):∃a vs,v=.ref a/\SqT K H a vs/\RDs K ρ H xs vs:=by
 cases d<;>simp[vw]at e
 ·subst e;simpa [RD] using r
 ·split at e<;>cases e
theorem z3Z(rh:RH K ρ h H)(e:vw h d=.lst xs)(r:RD K ρ H d v):∃a vs,v=.ref a/\SqL K H a vs/\RDs K ρ H xs vs:=by
 cases d<;>simp[vw]at e
 ·subst e;simp only[RD]at r;obtain⟨a,vs,h1,h2,h3⟩:=r;exact⟨a,vs,h1,h2.sq,h3⟩
 ·split at e
  ·rename_i i xs' ei;cases e;simp only[RD]at r;obtain⟨a,h1,h2⟩:=r;obtain⟨a',h3,vs,h4,h5⟩:=rh.at ei;rw[h2]at h3;cases h3;exact⟨a,vs,h1,SqL.of h4,h5⟩
  ·cases e
section
variable{σ:L2.St}{s:Shared}
theorem z5i{a:Addr}:∀{d:D},z17 d=true->RD K ρ H d (.ref a)->False
 | .non,_,r=>by simp[RD]at r
 | .bl _,_,r=>by simp[RD]at r
 | .int _,_,r=>by simp[RD]at r
 | .str _,_,r=>by simp[RD]at r
 | .tup _,f,_=>by cases f
 | .fl _,f,_=>by cases f
 | .ref _,f,_=>by cases f
theorem zr4:∀{d:D},z17 d=true->eqF d d=true
 | .non,_=>rfl
 | .bl _,_=>by simp[eqF]
 | .int _,_=>by simp[eqF]
 | .str _,_=>by simp[eqF]
 | .tup _,f=>by cases f
 | .fl _,f=>by cases f
 | .ref _,f=>by cases f
def flV:D->V
 | .bl b=>.bl b
 | .int i=>.int i
 | .str x=>.str x
 | _=>.non
theorem z4Y:∀{d:D}{v:V},z17 d=true->RD K ρ H d v->v=flV d
 | .non,_,_,r=>by simp only[RD]at r;exact r
 | .bl _,_,_,r=>by simp only[RD]at r;exact r
 | .int _,_,_,r=>by simp only[RD]at r;exact r
 | .str _,_,_,r=>by simp only[RD]at r;exact r
 | .tup _,_,f,_=>by cases f
 | .fl _,_,f,_=>by cases f
 | .ref _,_,f,_=>by cases f
theorem zD1:∀{a b:D},z17 a=true->z17 b=true->flV a=flV b->a=b
 | .non,.non,_,_,_=>rfl
 | .bl _,.bl _,_,_,e=>by cases e;rfl
 | .int _,.int _,_,_,e=>by cases e;rfl
 | .str _,.str _,_,_,e=>by cases e;rfl
 | .non,.bl _,_,_,e=>by cases e
 | .non,.int _,_,_,e=>by cases e
 | .non,.str _,_,_,e=>by cases e
 | .bl _,.non,_,_,e=>by cases e
 | .bl _,.int _,_,_,e=>by cases e
 | .bl _,.str _,_,_,e=>by cases e
 | .int _,.non,_,_,e=>by cases e
 | .int _,.bl _,_,_,e=>by cases e
 | .int _,.str _,_,_,e=>by cases e
 | .str _,.non,_,_,e=>by cases e
 | .str _,.bl _,_,_,e=>by cases e
 | .str _,.int _,_,_,e=>by cases e
 | .tup _,_,f,_,_=>by cases f
 | .fl _,_,f,_,_=>by cases f
 | .ref _,_,f,_,_=>by cases f
 | _,.tup _,_,f,_=>by cases f
 | _,.fl _,_,f,_=>by cases f
 | _,.ref _,_,f,_=>by cases f
theorem list_inj{a:Addr}{xs ys:List V}(I:Inv X pins σ H s)(h1:SqL X.K H a xs)(h2:SqL X.K H a ys):xs=ys:=by
 obtain⟨its,r,⟨o,n,e,_,_,d⟩,_⟩:=I.list h1;obtain⟨its',r',⟨o',n',e',_,_,d'⟩,_⟩:=I.list h2;rw[e]at e';cases e';rw[d]at d';injection d' with d1 _
 have:its=its':=by simpa using congrArg Z23 d1
 subst this;exact r.inj r'
theorem z88(I:Inv X pins σ H s)(rh:RH X.K ρ h H):∀(n:Nat) {d1 d2:D}{v:V}{b:Bool},RD X.K ρ H d1 v->RD X.K ρ H d2 v->eqN n h d1 d2=some b->b=true
 | 0,d1,d2,v,b,_,_,e=>by cases e
 | n+1,d1,d2,v,b,r1,r2,e=>by
  have elems:∀{xs ys:List D} {vs:List V},RDs X.K ρ H xs vs->RDs X.K ρ H ys vs->eqZ (eqN n h) xs ys=some b->b=true:=λ{xs ys vs} q1 q2 z=>by
   obtain⟨z1,z2⟩:=z5s z;have l1:=q1.length;have l2:=q2.length;rw[z2,K0e,K1t];refine⟨λj hj=>?_,by simp;omega⟩;have hj':j<xs.length:=by simp at hj;omega
   have e1:xs[j]?=some xs[j]:=K8 hj';have e2:ys[j]?=some ys[j]:=K8 .(0);obtain⟨w1,a1,a2⟩:=q1.get e1;obtain⟨w2,b1,b2⟩:=q2.get e2;rw[a1]at b1;cases b1;exact z88 I rh n a2 b2 (z1 j _ _ e1 e2)
  unfold eqN at e;have nl:∀{a:Addr} {vs ws:List V},SqT X.K H a vs->SqL X.K H a ws->False:=λ{a vs ws} t1 t2=>by
   obtain⟨its,_,p1,_⟩:=I.tuple t1;obtain⟨its2,_,p2,_⟩:=I.list t2;exact SeqAt.ne_of_list_tuple p2.isList (show s.heap.IsTuple a its.toArray from p1) rfl
  cases e1:vw h d1 with
  | no=>rw[e1]at e;cases e2:vw h d2<;>rw[e2]at e<;>cases e
  | flat a=>
   rw[e1]at e;obtain⟨rfl,f1⟩:=z2i e1;cases e2:vw h d2 with
   | no=>rw[e2]at e;cases e
   | flat c=>
    rw[e2]at e;obtain⟨rfl,f2⟩:=z2i e2;cases e;have:=zD1 f1 f2 ((z4Y f1 r1).symm.trans (z4Y f2 r2));subst this;exact zr4 f1
   | tup ys=>obtain⟨a',vs,rfl,_,_⟩:=z3P e2 r2;exact(z5i f1 r1).elim
   | lst ys=>obtain⟨a',vs,rfl,_,_⟩:=z3Z rh e2 r2;exact(z5i f1 r1).elim
  | tup xs=>
   rw[e1]at e;obtain⟨a,vs,rfl,t1,q1⟩:=z3P e1 r1;cases e2:vw h d2 with
   | no=>rw[e2]at e;cases e
   | flat c=>obtain⟨rfl,f2⟩:=z2i e2;exact(z5i f2 r2).elim
   | tup ys=>
    rw[e2]at e;obtain⟨a',ws,ea,t2,q2⟩:=z3P e2 r2;cases ea;have:=I.tuple_inj t1 t2;subst this;exact elems q1 q2 e
   | lst ys=>
    obtain⟨a',ws,ea,t2,q2⟩:=z3Z rh e2 r2;cases ea;exact(nl t1 t2).elim
  | lst xs=>
   rw[e1]at e;obtain⟨a,vs,rfl,t1,q1⟩:=z3Z rh e1 r1;cases e2:vw h d2 with
   | no=>rw[e2]at e;cases e
   | flat c=>obtain⟨rfl,f2⟩:=z2i e2;exact(z5i f2 r2).elim
   | lst ys=>
    rw[e2]at e;obtain⟨a',ws,ea,t2,q2⟩:=z3Z rh e2 r2;cases ea;have:=list_inj I t1 t2;subst this;exact elems q1 q2 e
   | tup ys=>
    obtain⟨a',ws,ea,t2,q2⟩:=z3P e2 r2;cases ea;exact(nl t2 t1).elim
open SeqAt in
theorem mixT{a:Addr}(f:z17 d=true)(r:RD K ρ H d v)(ru:RelV v u)(p:s.heap.IsTuple a its)(hu:A.units<cLine):EqAt A s u (.ref a) false/\EqAt A s (.ref a) u false/\RcAt A s u (.ref a) false/\RcAt A s (.ref a) u false/\RcNeAt A s u (.ref a) true/\RcNeAt A s (.ref a) u true:=by
 have:=z4Y f r;subst this;cases d with
 | non=>cases ru;exact⟨.none_tuple p hu,.tuple_none p hu,.none_tuple p hu,.tuple_none p hu,.none_tuple p hu,.tuple_none p hu⟩
 | bl b=>cases ru;exact⟨.bool_tuple b p hu,.tuple_bool b p hu,.bool_tuple b p hu,.tuple_bool b p hu,.bool_tuple b p hu,.tuple_bool b p hu⟩
 | int i=>obtain⟨t,rfl⟩:=ru;exact⟨.int_tuple i t p hu,.tuple_int i t p hu,.int_tuple i t p hu,.tuple_int i t p hu,.int_tuple i t p hu,.tuple_int i t p hu⟩
 | str x=>obtain⟨t,rfl⟩:=ru;exact⟨.str_tuple x t p hu,.tuple_str x t p hu,.str_tuple x t p hu,.tuple_str x t p hu,.str_tuple x t p hu,.tuple_str x t p hu⟩
 | tup _=>cases f
 | fl _=>cases f
 | ref _=>cases f
open SeqAt in
theorem mixL{a:Addr}(f:z17 d=true)(r:RD K ρ H d v)(ru:RelV v u)(p:s.heap.IsList a its)(hu:A.units<cLine):EqAt A s u (.ref a) false/\EqAt A s (.ref a) u false/\RcAt A s u (.ref a) false/\RcAt A s (.ref a) u false/\RcNeAt A s u (.ref a) true/\RcNeAt A s (.ref a) u true:=by
 have:=z4Y f r;subst this;cases d with
 | non=>cases ru;exact⟨.none_list p hu,.list_none p hu,.none_list p hu,.list_none p hu,.none_list p hu,.list_none p hu⟩
 | bl b=>cases ru;exact⟨.bool_list b p hu,.list_bool b p hu,.bool_list b p hu,.list_bool b p hu,.bool_list b p hu,.list_bool b p hu⟩
 | int i=>obtain⟨t,rfl⟩:=ru;exact⟨.int_list i t p hu,.list_int i t p hu,.int_list i t p hu,.list_int i t p hu,.int_list i t p hu,.list_int i t p hu⟩
 | str x=>obtain⟨t,rfl⟩:=ru;exact⟨.str_list x t p hu,.list_str x t p hu,.str_list x t p hu,.list_str x t p hu,.str_list x t p hu,.list_str x t p hu⟩
 | tup _=>cases f
 | fl _=>cases f
 | ref _=>cases f
open SeqAt in
theorem Z02{u1 u2:Value}:∀(d1 d2:D),z17 d1=true->z17 d2=true->RelV (flV d1) u1->RelV (flV d2) u2->EqAt A s u1 u2 (eqF d1 d2)/\RcAt A s u1 u2 (eqF d1 d2)/\RcNeAt A s u1 u2 (!(eqF d1 d2))
 | .non,.non,_,_,r1,r2=>by cases r1;cases r2;exact⟨EqAt.same _,RcAt.none_none,RcNeAt.none_none⟩
 | .non,(.bl b),_,_,r1,r2=>by cases r1;cases r2;exact⟨EqAt.none_bool b,RcAt.none_bool b,RcNeAt.none_bool b⟩
 | .non,(.int b),_,_,r1,r2=>by cases r1;obtain⟨t2,rfl⟩:=r2;exact⟨EqAt.none_int b t2,RcAt.none_int b t2,RcNeAt.none_int b t2⟩
 | .non,(.str b),_,_,r1,r2=>by cases r1;obtain⟨t2,rfl⟩:=r2;exact⟨EqAt.none_str b t2,RcAt.none_str b t2,RcNeAt.none_str b t2⟩
 | (.bl a),.non,_,_,r1,r2=>by cases r1;cases r2;exact⟨EqAt.bool_none a,RcAt.bool_none a,RcNeAt.bool_none a⟩
 | (.bl a),(.bl b),_,_,r1,r2=>by cases r1;cases r2;exact⟨EqAt.bool_bool a b,RcAt.bool_bool a b,RcNeAt.bool_bool a b⟩
 | (.bl a),(.int b),_,_,r1,r2=>by cases r1;obtain⟨t2,rfl⟩:=r2;exact⟨EqAt.bool_int a b t2,RcAt.bool_int a b t2,RcNeAt.bool_int a b t2⟩
 | (.bl a),(.str b),_,_,r1,r2=>by cases r1;obtain⟨t2,rfl⟩:=r2;exact⟨EqAt.bool_str a b t2,RcAt.bool_str a b t2,RcNeAt.bool_str a b t2⟩
 | (.int a),.non,_,_,r1,r2=>by obtain⟨t1,rfl⟩:=r1;cases r2;exact⟨EqAt.int_none a t1,RcAt.int_none a t1,RcNeAt.int_none a t1⟩
 | (.int a),(.bl b),_,_,r1,r2=>by obtain⟨t1,rfl⟩:=r1;cases r2;exact⟨EqAt.int_bool a t1 b,RcAt.int_bool a t1 b,RcNeAt.int_bool a t1 b⟩
 | (.int a),(.int b),_,_,r1,r2=>by obtain⟨t1,rfl⟩:=r1;obtain⟨t2,rfl⟩:=r2;exact⟨EqAt.int_int a t1 b t2,RcAt.int_int a t1 b t2,RcNeAt.int_int a t1 b t2⟩
 | (.int a),(.str b),_,_,r1,r2=>by obtain⟨t1,rfl⟩:=r1;obtain⟨t2,rfl⟩:=r2;exact⟨EqAt.int_str a t1 b t2,RcAt.int_str a t1 b t2,RcNeAt.int_str a t1 b t2⟩
 | (.str a),.non,_,_,r1,r2=>by obtain⟨t1,rfl⟩:=r1;cases r2;exact⟨EqAt.str_none a t1,RcAt.str_none a t1,RcNeAt.str_none a t1⟩
 | (.str a),(.bl b),_,_,r1,r2=>by obtain⟨t1,rfl⟩:=r1;cases r2;exact⟨EqAt.str_bool a t1 b,RcAt.str_bool a t1 b,RcNeAt.str_bool a t1 b⟩
 | (.str a),(.int b),_,_,r1,r2=>by obtain⟨t1,rfl⟩:=r1;obtain⟨t2,rfl⟩:=r2;exact⟨EqAt.str_int a t1 b t2,RcAt.str_int a t1 b t2,RcNeAt.str_int a t1 b t2⟩
 | (.str a),(.str b),_,_,r1,r2=>by obtain⟨t1,rfl⟩:=r1;obtain⟨t2,rfl⟩:=r2;exact⟨EqAt.str_str a t1 b t2,RcAt.str_str a t1 b t2,RcNeAt.str_str a t1 b t2⟩
 | .tup _,_,f,_,_,_=>by cases f
 | .fl _,_,f,_,_,_=>by cases f
 | .ref _,_,f,_,_,_=>by cases f
 | _,.tup _,_,f,_,_=>by cases f
 | _,.fl _,_,f,_,_=>by cases f
 | _,.ref _,_,f,_,_=>by cases f
open SeqAt in
theorem deq(I:Inv X pins σ H s)(rh:RH X.K ρ h H):∀(n:Nat) {A:Around}{d1 d2:D}{v1 v2:V}{u1 u2:Value}{b:Bool},A.units+n<cLine->RD X.K ρ H d1 v1->RD X.K ρ H d2 v2->RelV v1 u1->RelV v2 u2->eqN n h d1 d2=some b->EqAt A s u1 u2 b/\RcAt A s u1 u2 b/\RcNeAt A s u1 u2 (!b)
 | 0,A,d1,d2,v1,v2,u1,u2,b,_,_,_,_,_,e=>by cases e
 | n+1,A,d1,d2,v1,v2,u1,u2,b,hA,r1,r2,w1,w2,e=>by
  have hu:A.units<cLine:=by omega
  have e0:=e;unfold eqN at e;have elems:∀{xs ys:List D} {vs ws:List V} {its its2:List Value},RDs X.K ρ H xs vs->RDs X.K ρ H ys ws->Vals vs its->Vals ws its2->eqZ (eqN n h) xs ys=some b ->
   (∀j (h1:j<its.toArray.size) (h2:j<its2.toArray.size),EqAt A.in1 s its.toArray[j] its2.toArray[j] (eqE (eqN n h) xs ys j))/\b=((K0b (min its.toArray.size its2.toArray.size)).all (eqE (eqN n h) xs ys)&&its.toArray.size==its2.toArray.size):=λ{xs ys vs ws its its2} q1 q2 a1 a2 z=>by
   obtain⟨z1,z2⟩:=z5s z;have l1:=q1.length;have l2:=q2.length;have l3:=a1.length;have l4:=a2.length;refine⟨λj h1 h2=>?_,by rw[z2,K07,K07,<- l3,<- l4,<- l1,<- l2]⟩;have j1:j<xs.length:=by rw[K07]at h1;omega
   have j2:j<ys.length:=by rw[K07]at h2;omega
   have e1:xs[j]?=some xs[j]:=K8 j1;have e2:ys[j]?=some ys[j]:=K8 j2;obtain⟨x1,b1,c1⟩:=q1.get e1;obtain⟨x2,b2,c2⟩:=q2.get e2;obtain⟨y1,b3,c3⟩:=a1.get b1;obtain⟨y2,b4,c4⟩:=a2.get b2;have g1:its.toArray[j]=y1:=by
    have:=K8 (l:=its) (i:=j) (by simpa using h1);rw[b3]at this;simpa using(K0y this).symm
   have g2:its2.toArray[j]=y2:=by
    have:=K8 (l:=its2) (i:=j) (by simpa using h2);rw[b4]at this;simpa using(K0y this).symm
   rw[g1,g2];exact(deq I rh n (A:=A.in1) (show A.units+1+n<cLine by omega) c1 c2 c3 c4 (z1 j _ _ e1 e2)).1
  have same:∀{a a':Addr},v1=.ref a->v2=.ref a'->a=a'->b=true:=λ{a a'} x y z=>by
   subst z;rw[x]at r1;rw[y]at r2;exact z88 I rh (n+1) r1 r2 e0
  cases e1:vw h d1 with
  | no=>rw[e1]at e;cases e2:vw h d2<;>rw[e2]at e<;>cases e
  | flat a=>
   rw[e1]at e;obtain⟨rfl,f1⟩:=z2i e1;cases e2:vw h d2 with
   | no=>rw[e2]at e;cases e
   | flat c=>
    rw[e2]at e;obtain⟨rfl,f2⟩:=z2i e2;cases e;rw[z4Y f1 r1]at w1;rw[z4Y f2 r2]at w2;exact Z02 a c f1 f2 w1 w2
   | tup ys=>
    rw[e2]at e;cases e;obtain⟨a',vs,rfl,t2,_⟩:=z3P e2 r2;cases w2;obtain⟨its,_,p,_⟩:=I.tuple t2;obtain⟨m1,_,m3,_,m5,_⟩:=mixT (s:=s) f1 r1 w1 (show s.heap.IsTuple a' its.toArray from p) hu;exact⟨m1,m3,m5⟩
   | lst ys=>
    rw[e2]at e;cases e;obtain⟨a',vs,rfl,t2,_⟩:=z3Z rh e2 r2;cases w2;obtain⟨its,_,p,_⟩:=I.list t2;obtain⟨m1,_,m3,_,m5,_⟩:=mixL (s:=s) f1 r1 w1 p.isList hu;exact⟨m1,m3,m5⟩
  | tup xs=>
   rw[e1]at e;obtain⟨a,vs,rfl,t1,q1⟩:=z3P e1 r1;cases w1;obtain⟨its,x1,p1,_⟩:=I.tuple t1;have p1:s.heap.IsTuple a its.toArray:=p1;cases e2:vw h d2 with
   | no=>rw[e2]at e;cases e
   | flat c=>
    rw[e2]at e;cases e;obtain⟨rfl,f2⟩:=z2i e2;obtain⟨_,m2,_,m4,_,m6⟩:=mixT (s:=s) f2 r2 w2 p1 hu;exact⟨m2,m4,m6⟩
   | tup ys=>
    rw[e2]at e;obtain⟨a',ws,rfl,t2,q2⟩:=z3P e2 r2;cases w2;obtain⟨its2,x2,p2,_⟩:=I.tuple t2;have p2:s.heap.IsTuple a' its2.toArray:=p2;obtain⟨g1,g2⟩:=elems q1 q2 x1 x2 e;have rc:=RcAt.tuples p1 p2 hu g1;have rn:=RcNeAt.tuples p1 p2 hu g1;rw[<- g2]at rc rn;refine⟨?_,rc,rn⟩;by_cases ea:a=a'
    ·rw[same rfl rfl ea];subst ea;exact EqAt.same _
    ·exact EqAt.of_refs ea rc
   | lst ys=>
    rw[e2]at e;cases e;obtain⟨a',ws,rfl,t2,q2⟩:=z3Z rh e2 r2;cases w2;obtain⟨its2,x2,p2,_⟩:=I.list t2;exact⟨EqAt.tuple_list p1 p2.isList hu,RcAt.tuple_list p1 p2.isList hu,RcNeAt.tuple_list p1 p2.isList hu⟩
  | lst xs=>
   rw[e1]at e;obtain⟨a,vs,rfl,t1,q1⟩:=z3Z rh e1 r1;cases w1;obtain⟨its,x1,p1,_⟩:=I.list t1;cases e2:vw h d2 with
   | no=>rw[e2]at e;cases e
   | flat c=>
    rw[e2]at e;cases e;obtain⟨rfl,f2⟩:=z2i e2;obtain⟨_,m2,_,m4,_,m6⟩:=mixL (s:=s) f2 r2 w2 p1.isList hu;exact⟨m2,m4,m6⟩
   | tup ys=>
    rw[e2]at e;cases e;obtain⟨a',ws,rfl,t2,q2⟩:=z3P e2 r2;cases w2;obtain⟨its2,x2,p2,_⟩:=I.tuple t2;exact⟨EqAt.list_tuple p1.isList p2 hu,RcAt.list_tuple p1.isList p2 hu,RcNeAt.list_tuple p1.isList p2 hu⟩
   | lst ys=>
    rw[e2]at e;obtain⟨a',ws,rfl,t2,q2⟩:=z3Z rh e2 r2;cases w2;obtain⟨its2,x2,p2,_⟩:=I.list t2;obtain⟨g1,g2⟩:=elems q1 q2 x1 x2 e;have both:RcAt A s (.ref a) (.ref a') b/\RcNeAt A s (.ref a) (.ref a') (!b):=by
     by_cases hz:its.toArray.size=its2.toArray.size
     ·have:b=(K0b its.toArray.size).all (eqE (eqN n h) xs ys):=by rw[g2,<- hz,Nat.min_self];simp
      rw[this];exact⟨RcAt.lists p1.isList p2.isList hz hu g1,RcNeAt.lists p1.isList p2.isList hz hu g1⟩
     ·have:b=false:=by
       rw[g2,Bool.and_eq_false_iff];right;simpa using hz
      rw[this];exact⟨RcAt.lists_lengths p1.isList p2.isList (by simpa using hz) hu,RcNeAt.lists_lengths p1.isList p2.isList (by simpa using hz) hu⟩
    refine⟨?_,both⟩;by_cases ea:a=a'
    ·rw[same rfl rfl ea];subst ea;exact EqAt.same _
    ·exact EqAt.of_refs ea both.1
end
def fEqX(neg:Bool):D->D->M D:=λx y h=>match eqN 24 h x y with
 | some b=>.ok (.bl (b != neg)) h
 | none=>.bad
def rEqX(K:K5)(neg:Bool):R2:=λx y H Q=>∃ρ h d1 d2 b,RH K ρ h H/\RD K ρ H d1 x/\RD K ρ H d2 y/\eqN 24 h d1 d2=some b/\Q (.bl (b != neg)) H
theorem zS0(hu:X.A.units+30<cLine):OpR X (K1w .Eq) (rEqX X.K false):=by
 intro pins s σ H x y v u Q I rx ry h;obtain⟨ρ,h,d1,d2,b,rh,r1,r2,e,q⟩:=h;rw[K27]at q;exact(deq I rh 24 (A:=X.A) .(0) r1 r2 rx ry e).2.1 X.prog X.w X.xe (EP X pins σ Q) ⟨.bl b,H,I,rfl,q⟩
theorem zY5(hu:X.A.units+30<cLine):OpR X (K1w .NotEq) (rEqX X.K true):=by
 intro pins s σ H x y v u Q I rx ry h;obtain⟨ρ,h,d1,d2,b,rh,r1,r2,e,q⟩:=h;rw[K5k]at q;exact(deq I rh 24 (A:=X.A) .(0) r1 r2 rx ry e).2.2 X.prog X.w X.xe (EP X pins σ Q) ⟨.bl (!b),H,I,rfl,q⟩
theorem zw4:BR X.K EX (rEqX X.K neg) (fEqX neg):=by
 intro ρ h H x y v u Q r rx ry fin;unfold fEqX at fin;cases e:eqN 24 h x y with
 | none=>rw[e]at fin;exact fin.elim
 | some b=>rw[e]at fin;exact⟨ρ,h,x,y,b,r,rx,ry,e,FE.here fin r .(s)⟩
theorem z8t(hu:X.A.units+30<cLine):CO X EX .Eq (fEqX false):=⟨_,zS0 hu,zw4⟩
theorem z8x(hu:X.A.units+30<cLine):CO X EX .NotEq (fEqX true):=⟨_,zY5 hu,zw4⟩
theorem hu30{k:Nat}(hr:Room k A):A.units+30<cLine:=K7k (K9z (by decide:30<=64) _) hr.units
variable{β:Type}
theorem z08(a:α)(f:α->M β):((Z3j a:M α) >>= f)=f a:=by funext h;rfl
theorem W_eq{m:M α}{v:α}{Q:α->AH->Prop}(e:m=pure v)(q:Q v h):W m h Q:=by rw[e,W_pure];exact q
theorem zP6(hl:xs.length<=1000000)(q:Q (.ref h.length) (h++[.lst xs])):W (newL xs) h Q:=
 ⟨_,_,by unfold newL;rw[if_pos (K0h hl .(1))],q⟩
mutual
theorem z47{m n:Nat}(h:m<=n):∀{d:D},J2 m d=true->J2 n d=true
 | .non,_=>rfl
 | .bl _,_=>rfl
 | .int _,_=>rfl
 | .str _,_=>rfl
 | .tup ds,c=>by simp only[J2]at c ⊢;exact z2g h c
 | .fl ds,c=>by simp only[J2]at c ⊢;exact z2g h c
 | .ref i,c=>by simp only[J2,decide_eq_true_eq]at c ⊢;omega
theorem z2g{m n:Nat}(h:m<=n):∀{d:List D},k7 m d=true->k7 n d=true
 | [],_=>rfl
 | d::r,c=>by simp only[k7,K0e]at c ⊢;exact⟨z47 h c.1,z2g h c.2⟩
end
theorem z52{n:Nat}:∀{xs:List D},(∀x∈xs,J2 n x=true)->k7 n xs=true
 | [],_=>rfl
 | x::r,h=>by simp only[k7,K0e];exact⟨h x .(e),z52 λy hy=>h y (by simp[hy])⟩
theorem y6{f:ι->D}{l:List ι}(h:∀a,J2 n (f a)=true):k7 n (l.map f)=true:=z52 λx hx=>by
 obtain⟨a,_,rfl⟩:=K1a.mp hx;exact h a
theorem z05{m:M D}(e:m h=.ok d (h++j))(c:J2 h.length d=true):cln m h=.ok d h:=by
 unfold cln;rw[e];dsimp only;rw[if_pos ⟨by simp,z5H _ _⟩,if_pos c];simp
theorem z4I{m:M D}(e:m h=.ok (.ref i) (h++j))(hi:h.length<=i)(ei:(h++j)[i]?=.(l xs))(c:k7 h.length xs=true):cln m h=.ok (.ref h.length) (h++[.lst xs]):=by
 unfold cln;rw[e];dsimp only;rw[if_pos ⟨by simp,z5H _ _⟩,if_neg (by simp only[J2,decide_eq_true_eq];omega),ei];dsimp only;rw[if_pos (show refO .(h) (.lst xs)=true from c)];simp
theorem z1w(d:D):cln (pure d)=pure d:=funext λh=>by
 unfold cln;rw[pureM];dsimp only;rw[if_pos ⟨K01 _,λ_ _ _ e=>.inl e⟩];split
 ·simp
 ·rename_i nd;split
  ·rename_i i;simp only[J2,decide_eq_true_eq]at nd;rw[K1j .(0)]
  ·rfl
theorem Z0F{m:M D}{v:D}(c:J2 0 v=true)(z:∀h,W m h λa h'=>a=v/\∃j,h'=h++j):cln m=pure v:=funext λh=>by
 obtain⟨a,h',e,rfl,j,rfl⟩:=z h;exact z05 e (z47 (K4j _) c)
theorem Z04{v:D}(c:J2 0 v=true)(z:∀h,W (m γ) h λa h'=>a=v/\∃j,h'=h++j):clE m γ=pure v:=Z0F c z
theorem z8i{cap:List (Option Nat)}{g:D->G->M G}{k:G->M Bool}{me:G->M D}(p:D->Bool)(f:D->D)(hi:mi γ h=.ok src h)(hg:∀j,src.good (h++j))(hl:src.items.length<=1000000)
 (hd:∀d∈src.items,∃γ1,g d (capG cap γ)=pure γ1/\k γ1=pure (p d)/\(p d=true->me γ1=pure (f d))):z00 cap mi g k me γ h=newL ((src.items.filter p).map f) h:=by
 rw[z2U p f hi hg hl λd m=>let ⟨γ1,e1,e2,e3⟩:=hd d m;⟨γ1,λh=>by rw[e1];rfl,λj=>by rw[e2];rfl,λq j=>by rw[e3 q];rfl⟩];unfold newL;rw[if_pos];refine K0h ?_ (show 1000000<=sizeLine by decide);rw[K0c];exact K0h (K0w _ _) hl
theorem za8{cap:List (Option Nat)}{g:D->G->M G}{k:G->M Bool}{me:G->M D}{items:List D}(p:D->Bool)(f:D->D)(hi:mi γ=pure (.con items))(hl:items.length<=1000000)
 (hd:∀d∈items,∃γ1,g d (capG cap γ)=pure γ1/\k γ1=pure (p d)/\(p d=true->me γ1=pure (f d))):z00 cap mi g k me γ=newL ((items.filter p).map f):=
 funext λh=>z8i (src:=.con items) p f (by rw[hi];rfl) (λ_=>trivial) hl hd
theorem z9R{v:D}(e:m γ=newL xs)(hl:xs.length<=1000000)(c:J2 0 v=true)(q:∀n h,h[n]?=.(l xs)->f [.ref n] h=.ok v h):clE (Z8 f (z7 m aNil)) γ=pure v:=Z04 c λh=>by
 simp only[Z4,W_pure,z0h,z0a,z3t,Y8,z1U,sAsg,z04,sRet,sIf,FT.e2,FT.e3,eVar,gN,gIx,eFn,z7,aNil,Z8,eTup,eLst,eM1,eM0,eMS,z5w,eIsi,zW6,z9L,zA0,zi6,z0A,z5j,cVal,cNot,cAnd,cOr,eAnd,eOr,eNot,eIf,z2F,z3I,z1u,K2,K1,K05,K04,K6,K06,K0g,if_true,if_false,K6s,K6c,ite_true,ite_false,reduceIte,K1k,reduceCtorEq,z1O,z8X,z7O,zV0,z9a,zt1,z4C,e];refine zP6 hl ?_;exact W.of (q _ _ .(e)) ⟨rfl,_,rfl⟩
theorem zO7(e:m γ=newL xs)(hl:xs.length<=1000000)(c:k7 0 xs=true):clE (Z8 y3 (z7 m aNil)) γ=pure (.tup xs):=
 z9R e hl (by simp only[J2];exact c) λn h q=>by unfold y3 seqD getL;simp[q]
theorem z7l:∀bs:List Bool,blsD (bs.map .bl)=some bs
 | []=>rfl
 | b::r=>by simp[blsD,z7l r]
theorem zP9{bs:List Bool}(any:Bool)(e:m γ=newL (bs.map .bl))(hl:bs.length<=1000000):clE (Z8 (fAll any) (z7 m aNil)) γ=pure (.bl (if any then bs.any id else bs.all id)):=
 z9R e (by simpa using hl) rfl λn h q=>by unfold fAll getL;simp[q,z7l]
theorem zB3{cap:List (Option Nat)}{g:D->G->M G}{k:G->M Bool}{me:G->M D}{items:List D}(any:Bool)(p:D->Bool)(f:D->Bool)(hi:mi γ=pure (.con items))(hl:items.length<=1000000)
 (hd:∀d∈items,∃γ1,g d (capG cap γ)=pure γ1/\k γ1=pure (p d)/\(p d=true->me γ1=pure (.bl (f d)))):clE (Z8 (fAll any) (z7 (z00 cap mi g k me) aNil)) γ=pure (.bl (if any then (items.filter p).any f else (items.filter p).all f)):=by
 rw[zP9 (bs:=(items.filter p).map f) any (by rw[za8 p (λd=>.bl (f d)) hi hl hd,K1q];rfl) (by rw[K0c];exact K0h (K0w _ _) hl)];cases any<;>simp[K7w]
theorem zh2{cap:List (Option Nat)}{g:D->G->M G}{k:G->M Bool}{me:G->M D}{items:List D}(p:D->Bool)(f:D->D)(hi:mi γ=pure (.con items))(hl:items.length<=1000000)
 (hd:∀d∈items,∃γ1,g d (capG cap γ)=pure γ1/\k γ1=pure (p d)/\(p d=true->me γ1=pure (f d))) (c:k7 0 ((items.filter p).map f)=true):clE (Z8 y3 (z7 (z00 cap mi g k me) aNil)) γ=pure (.tup ((items.filter p).map f)):=
 zO7 (za8 p f hi hl hd) (by rw[K0c];exact K0h (K0w _ _) hl) c
theorem filter_tt{l:List α}:l.filter (λ_=>true)=l:=by induction l<;>simp_all
theorem z2m{mb:G->M Out}(e:mb (z1b n ds)=pure (.rt d)):runF n mb ds=pure d:=by unfold runF;rw[e];rfl
theorem ix0{a:D}{r:List D}:fIx (.tup (a::r)) (.int 0)=pure a:=ix_tup (by simp[atI,ixN])
theorem ix1{a b:D}{r:List D}:fIx (.tup (a::b::r)) (.int 1)=pure b:=ix_tup (z0w (j:=1) rfl)
theorem z9n{x y:Str}:fEq b (.str x) (.str y)=pure (.bl (decide (x=y) != b)):=rfl
theorem zW2:((2:Nat)<=sizeLine)=True:=by simp[sizeLine]
structure SQ(st:List .(p)):Prop where
 l1:1<=.(n)
 l2:.(n)<=40
 s2:∀l∈st,∀x∈l,x<.(n)
def nx(st:List .(p))(a:Nat):List Nat:=(st[a]?).getD []
inductive Rch(st:List .(p))(x:Nat):Nat->Prop
 | here:Rch st x x
 | step {a b:Nat}:Rch st x a->b∈nx st a->Rch st x b
theorem Z0a(q:SQ st){b:Nat}(h:b∈nx st a):b<st.length:=by
 unfold nx at h;cases e:st[a]? with
 | none=>rw[e]at h;cases h
 | some l=>
  rw[e]at h;exact q.s2 l (K0d e) b h
theorem z16(st:List .(p)):(stsD st).length=st.length:=by unfold stsD;simp
theorem zZ8(ha:a<st.length):atI (stsD st) (a:Int)=.(g ((stD (nx st a)))):=by
 refine z0w ?_;unfold stsD nx;rw[K0a,K8 ha];rfl
theorem z36:fIx .(a) (.int 0)=pure (.tup (stsD st)):=ix_tup rfl
theorem zj5:fIx .(a) (.int 1)=pure (.tup (mksD mk)):=ix_tup rfl
theorem z9X(ha:a<st.length):fIx (.tup (stsD st)) (.int a)=pure (.tup (stD (nx st a))):=ix_tup (zZ8 ha)
theorem z6X:∀l:List Nat,(stD l).all z17=true
 | []=>rfl
 | _::l=>z6X l
theorem zh5(x:Nat):∀l:List Nat,((stD l).any λz=>eqF z (.int x))=decide (x∈l)
 | []=>by simp[stD]
 | b::l=>by
  rw[show stD (b::l)=.int b::stD l from rfl,K2g,zh5 x l];simp only[eqF];rw[K0n];simp only[K2h,beq_iff_eq,decide_eq_true_eq,K0l];constructor
  ·rintro(h|h)
   ·left;omega
   ·exact .inr h
  ·rintro(h|h)
   ·left;omega
   ·exact .inr h
theorem z6J:fIn neg (.int x) (.tup (stD l))=pure (.bl (decide (x∈l) != neg)):=by
 unfold fIn seqD;show (if z17 (.int x)&&(stD l).all z17 then _ else _)=_;rw[z6X,zh5];rfl
theorem Z9(l:List Nat):(stD l).length=l.length:=by unfold stD;simp
theorem z5h(hl:l.Pairwise (·<·))(hm:∀x∈l,x<n):l.length<=n:=by
 have nd:l.Nodup:=List.Pairwise.imp (λh=>K0x h) hl;have:=nd.length_le_of_subset (l₂:=K0b n) (λx hx=>K13.mpr (hm x hx));rwa [K1f]at this
def zN(l:List Nat):List Int:=l.map λ(i:Nat)=>(i:Int)
def kN(l:List Nat):List Key:=l.map λ(i:Nat)=>.inl (i:Int)
def x9(l:List Nat):List Nat:=(sortI (zN l)).map K9t
theorem z7v:∀l:List Nat,z68 (kN l)=some (zN l)
 | []=>rfl
 | a::l=>by
  show (z68 (kN l)).map _=_;rw[z7v l];rfl
theorem z4c:∀l:List Nat,z4G (stD l)=some (zN l)
 | []=>rfl
 | a::l=>by
  show (z4G (stD l)).map _=_;rw[z4c l];rfl
theorem z4H(l:List Nat):(sortI (zN l)).map D.int=stD (x9 l):=by
 unfold x9 stD;rw[K1q];refine K5e λa ha=>?_;have:a∈zN l:=(sortI_perm _).mem_iff.mp ha;obtain⟨i,_,rfl⟩:=K1a.mp this;rfl
theorem z3y(l:List Nat):(x9 l).Perm l:=by
 have:=(sortI_perm (zN l)).map K9t;refine this.trans ?_;unfold zN;rw[K1q];rw[show (K9t ∘ λ(i:Nat)=>(i:Int))=id from funext λi=>rfl,Z2y]
theorem z1I(nd:l.Nodup):(x9 l).Pairwise (·<·):=by
 have s:(x9 l).Pairwise (·<=·):=by
  unfold x9;rw[K6f];exact(z8a _).imp λ{a b} h=>by omega
 have n:(x9 l).Nodup:=(z3y l).nodup_iff.mpr nd;exact(Z21 s n).imp λ{a b} q=>by omega
theorem sortN_mem:x∈x9 l↔x∈l:=(z3y l).mem_iff
theorem z1k(l:List Nat):(x9 l).length=l.length:=(z3y l).length_eq
theorem kN_mem:(K21 (x:Int):Key)∈kN l↔x∈l:=by
 unfold kN;constructor
 ·intro h;obtain⟨i,hi,e⟩:=K1a.mp h;have:i=x:=by have:=Z3l e;omega
  exact this ▸ hi
 ·exact λh=>K1a.mpr ⟨x,h,rfl⟩
theorem zb8(l:List Nat):(kN l).length=l.length:=by unfold kN;simp
theorem zv7(h:x∉l):putK (kN l) (.inl (x:Int))=kN (l++[x]):=by
 unfold putK;rw[if_neg (λq=>h (kN_mem.mp q))];unfold kN;simp
theorem z0q(nd:S.Nodup)(hm:∀x∈S,x<n):S.length<=n:=by
 have:=nd.length_le_of_subset (l₂:=K0b n) (λx hx=>K13.mpr (hm x hx));rwa [K1f]at this
theorem z3a(nd:S.Nodup)(h:x∉S):(S++[x]).Nodup:=by
 rw[K1c];refine⟨nd,by simp,λa ha b hb=>?_⟩;simp at hb;subst hb;exact λe=>h (e ▸ ha)
theorem z0I(l:List Nat)(x:Nat):stD l++[.int x]=stD (l++[x]):=by unfold stD;simp
theorem z3b(h:(stD l)[i]?=some d):∃b:Nat,d=.int b/\l[i]?=some b:=by
 unfold stD at h;rw[K0a]at h;obtain⟨b,e1,e2⟩:=K11.mp h;exact⟨b,e2.symm,e1⟩
theorem zn6{cap:List (Option Nat)}{g:D->G->M G}{k:G->M Bool}{me:G->M D}(p:D->Bool)(f:D->D)(hi:mi γ h=.ok src h1)(hg:∀j,src.good (h1++j))(hl:src.items.length<=1000000)
 (hd:∀d∈src.items,∃γ1,g d (capG cap γ)=pure γ1/\k γ1=pure (p d)/\(p d=true->me γ1=pure (f d))):z00 cap mi g k me γ h=newL ((src.items.filter p).map f) h1:=by
 rw[<- z8i (mi:=λ_=>pure src) (cap:=cap) (γ:=γ) p f rfl hg hl hd];unfold z00;rw[M.bind_ok hi];rfl
section
variable{k:G->M Bool}{ms mr:G->M Out}{γ':G}{Q:Out->AH->Prop}
theorem z9w(d:D)(γ':G)(e:ma γ=pure d)(eg:g d γ=pure γ')(z:W (mt γ') h Q):W (z9 (sAsg ma g) mt γ) h Q:=by
 rw[w_cons];unfold sAsg;rw[e,z08,eg,z08,W_pure];exact z
theorem J8(d:D)(γ':G)(e:ma γ h=.ok d h1)(eg:g d γ=pure γ')(z:W (mt γ') h1 Q):W (z9 (sAsg ma g) mt γ) h Q:=by
 rw[w_cons];unfold sAsg;rw[Z4];refine W.of e ?_;rw[eg,z08,W_pure];exact z
theorem z4r(z:W (ma γ) h λd h1=>W (mt (γ.set i (some d))) h1 Q):W (z9 (sAsg ma (gN i)) mt γ) h Q:=by
 rw[w_cons];unfold sAsg gN;rw[Z4];refine z.mono λd h1 q=>?_;rw[z08,W_pure];exact q
theorem q_if(b:Bool)(e:k γ=pure b)(z:W (z9 (if b=true then ms else mr) mt γ) h Q):W (z9 (sIf k ms mr) mt γ) h Q:=by
 rw[w_cons]at z ⊢;unfold sIf;rw[e,z08];cases b<;>exact z
theorem z1j(b:Bool)(e:k γ h=.ok b h)(z:W (z9 (if b=true then ms else mr) mt γ) h Q):W (z9 (sIf k ms mr) mt γ) h Q:=by
 rw[w_cons]at z ⊢;unfold sIf;rw[Z4];refine W.of e ?_;cases b<;>exact z
theorem Z0K(z:W (k γ) h λb h1=>W (z9 (if b=true then ms else mr) mt γ) h1 Q):W (z9 (sIf k ms mr) mt γ) h Q:=by
 rw[w_cons];unfold sIf;rw[Z4];refine z.mono λb h1 q=>?_;rw[w_cons]at q;cases b<;>exact q
theorem zF3(d:D)(e:ma γ=pure d)(z:Q (.rt d) h):W (z9 (sRet ma) mt γ) h Q:=by
 rw[w_cons];unfold sRet;rw[e,z08,W_pure];exact z
theorem Y2(d:D)(e:ma γ h=.ok d h1)(z:Q (.rt d) h1):W (z9 (sRet ma) mt γ) h Q:=by
 rw[w_cons];unfold sRet;rw[Z4];refine W.of e ?_;rw[W_pure];exact z
theorem zy4(z:W (ma γ) h λd h1=>Q (.rt d) h1):W (z9 (sRet ma) mt γ) h Q:=by
 rw[w_cons];unfold sRet;rw[Z4];refine z.mono λd h1 q=>?_;rw[W_pure];exact q
theorem z39(z:W (ma γ) h λd h1=>W (mt γ) h1 Q):W (z9 (z04 ma) mt γ) h Q:=by
 rw[w_cons];unfold z04;rw[Z4];refine z.mono λd h1 q=>?_;rw[W_pure];exact q
theorem z0i(z:W (mt γ) h Q):W (z9 bNil mt γ) h Q:=by rw[w_cons,z3t];exact z
theorem w6(z:Q (.nx γ) h):W (bNil γ) h Q:=by rw[z3t];exact z
theorem z7A{l:G->M Bool}(e:k γ h=.ok true h):cAnd k l γ h=l γ h:=by unfold cAnd;rw[M.bind_ok e];rfl
theorem z7r{l:G->M Bool}(e:k γ h=.ok false h):cAnd k l γ h=.ok false h:=by unfold cAnd;rw[M.bind_ok e];rfl
theorem zP0{l:G->M Bool}(e:k γ h=.ok true h):cOr k l γ h=.ok true h:=by unfold cOr;rw[M.bind_ok e];rfl
theorem zV4{l:G->M Bool}(e:k γ h=.ok false h):cOr k l γ h=l γ h:=by unfold cOr;rw[M.bind_ok e];rfl
theorem za3(d:D)(e:ma γ=pure d):z9 (sRet ma) mt γ=pure (.rt d):=by
 unfold z9 sRet;rw[e,z08,z08]
theorem z0M{ms1 ms2:G->M Out}(z:W (z9 ms1 (z9 ms2 mt) γ) h Q):W (z9 (z9 ms1 ms2) mt γ) h Q:=by
 rw[w_cons]at z ⊢;rw[w_cons];refine z.mono λo h1 q=>?_;cases o with
 | nx γ=>exact w_cons.mp q
 | rt d=>exact q
 | bk d=>exact q
 | ct d=>exact q
end
theorem z8k{i j:Int}:fEqX neg (.int i) (.int j)=pure (.bl (decide (i=j) != neg)):=by
 funext h;show Res.ok (D.bl ((i==j) != neg)) h=_;have:(i==j)=decide (i=j):=by rw[K0n];simp
 rw[this];rfl
theorem zj1{x:Str}{l:List Str}:fIn neg (.str x) (.tup (l.map .str))=pure (.bl (decide (x∈l) != neg)):=by
 unfold fIn seqD;show (if z17 (.str x)&&(l.map D.str).all z17 then _ else _)=_;rw[z3c,z5x];rfl
theorem zk8(xs:List D)(n:Nat):cutD xs none (some (n:Int))=xs.take n:=by
 unfold cutD;rw[HT.sIx_none,HT.sIx_nat];simp[List.take_take]
theorem zP7(xs:List D)(n:Nat):cutD xs (some (n:Int)) none=xs.drop n:=by
 unfold cutD;rw[HT.sIx_none,HT.sIx_nat];by_cases h:n<=xs.length
 ·rw[show min n xs.length=n by omega,K32 .(e)]
 ·rw[show min n xs.length=xs.length by omega];simp;omega
def rp(n:Nat)(l:List Nat):List Nat:=(K0t n l).flatten
theorem zW1{b:Nat}(hb:0<b)(h:b<=1000000):fDiv (.int (a:Nat)) (.int (b:Nat))=pure (.int (a / b:Nat)):=by
 rw[div_ii (show (0:Int)<b by omega) (show (b:Int)<1073741824 by omega),Int.natCast_ediv]
theorem zR1{b:Nat}(hb:0<b):fMod (.int (a:Nat)) (.int (b:Nat))=pure (.int (a % b:Nat)):=by
 rw[zQ3 (show (0:Int)<b by omega),Int.natCast_emod]
theorem sl_tup{x:List D}{lo hi:Option Int}:fSl (.tup x) lo hi=pure (.tup (cutD x lo hi)):=rfl
theorem z3X(p r:List Nat):stD p++stD r=stD (p++r):=by unfold stD;simp
theorem zb2(h:d∈stD l):∃x,x∈l/\d=.int (x:Nat):=by
 obtain⟨x,hx,rfl⟩:=K1a.mp h;exact⟨x,hx,rfl⟩
def numD:D->Nat
 | .int i=>i.toNat
 | _=>0
theorem zJ3(l:List Nat)(f:Nat->Bool):(stD l).any (λd=>f (numD d))=l.any f:=by unfold stD;rw[Z24];rfl
theorem z5q(l:List Nat)(f:Nat->Bool):((stD l).filter (λd=>f (numD d))).map (λd=>d)=stD (l.filter f):=by
 unfold stD;rw[K3w,List.map_id'];rfl
def CL(r:AH):Prop:=True
theorem CL.nil:CL []:=trivial
theorem CL.app(a:CL r)(b:CL j):CL (r++j):=trivial
theorem CL.one(h:k7 3 xs=true):CL [.lst xs]:=trivial
theorem CL.put(a:CL r)(h:k7 3 xs=true):CL (r++[.lst xs]):=a.app (.one h)
theorem z0z(l:List Str):k7 n (l.map .str)=true:=y6 λ_=>rfl
theorem z6i(l:List Int):k7 n (l.map .int)=true:=y6 λ_=>rfl
theorem z15(l:List Nat):k7 n (stD l)=true:=y6 λ_=>rfl
theorem z0K(l:List Nat):J2 n (.tup (stD l))=true:=by simp only[J2];exact z15 l
theorem zc8{s c:Int}:(Pool gr sm s c (r++j)).take (r.length+3)=Pool gr sm s c r:=by
 unfold Pool;simp
theorem zd2{gr' sm':List Int}{s c s' c':Int}:Kept (Pool gr sm s c r) (Pool gr' sm' s' c' (r++j)):=λi o li e=>by
 have l3:(Pool gr sm s c r).length=r.length+3:=rfl;rw[l3]at li ⊢
 match i,e with
 | 0,e=>cases e;exact .inr (z6i _)
 | 1,e=>cases e;exact .inr (z6i _)
 | 2,e=>cases e;exact .inr (by simp[refO,k7,J2])
 | i+3,e=>
  left;have e:(r++j)[i]?=some o:=e;rw[K0s .(0)]at e;exact e
theorem z7V{k k':Int}(p:PS h k r)(q:CL r)(p1:PS h1 k' (r++j)):(h.length<=h1.length/\Kept h h1)/\PS (h1.take h.length) k' r:=by
 have l:=p.len;have l1:=p1.len;obtain⟨gr,sm,s,c,rfl,g⟩:=p1;obtain⟨gr0,sm0,s0,c0,rfl,g0⟩:=p;refine⟨⟨by rw[K3]at l1;omega,zd2⟩,?_⟩;rw[show (Pool gr0 sm0 s0 c0 r).length=r.length+3 from rfl,zc8];exact⟨gr,sm,s,c,rfl,g⟩
theorem z9t{m:M D}{k:Int}(p:PS h k r)(q:CL r)(z:W m h λd h1=>∃k' j,PS h1 k' (r++j)/\J2 3 d=true/\∀h2,PS h2 k' r->Q d h2):W (cln m) h Q:=by
 obtain⟨d,h1,e,k',j,p1,rd,f⟩:=z;obtain⟨c1,c2⟩:=z7V p q p1;refine⟨d,h1.take .(h),?_,f _ c2⟩;unfold cln;rw[e];dsimp only;rw[if_pos c1,if_pos (z47 (by rw[p.len];omega) rd)]
theorem zu4{m:M D}{k:Int}(p:PS h k r)(q:CL r)(z:W m h λd h1=>∃k' j i xs,d=.ref (i+3)/\PS h1 k' (r++j)/\r.length<=i/\(r++j)[i]?=.(l xs)/\k7 3 xs=true/\∀h2,PS h2 k' (r++[.lst xs])->Q (.ref (r.length+3)) h2):W (cln m) h Q:=by
 obtain⟨d,h1,e,k',j,i,xs,rfl,p1,hi,ei,rd,f⟩:=z;obtain⟨c1,c2⟩:=z7V p q p1;have l:=p.len;refine⟨.ref (r.length+3),h1.take .(h)++[.lst xs],?_,f _ (c2.app _)⟩;unfold cln;rw[e];dsimp only;rw[if_pos c1,if_neg (by simp only[J2,decide_eq_true_eq];omega),p1.get,ei];dsimp only;rw[if_pos (show refO .(h) (.lst xs)=true from z2g .(0) rd),l]
theorem zr1{k:Int}(p:PS h k r)(q:CL r)(z:W (m γ) h λd h1=>∃k' j,PS h1 k' (r++j)/\J2 3 d=true/\∀h2,PS h2 k' r->Q d h2):W (clE m γ) h Q:=z9t p q z
section
variable{k:Int}{l:AH}{v:D}
theorem at_E:(r++l)[r.length+i]?=l[i]?:=by rw[K0i .(0)];congr 1;omega
theorem Z0p:(r++l).set (r.length+i) o=r++l.set i o:=by
 rw[K16 _ _ .(0)];congr 2;omega
theorem z8O{Q:List D->AH->Prop}(p:PS h k (r++l))(e:l[i]?=.(l xs))(q:Q xs h):W (getL (r.length+i+3)) h Q:=z66 p (by rw[at_E];exact e) q
theorem zk0(p:PS h k (r++l))(hl:xs.length<=1000000)(z:∀h',PS h' k (r++(l++[.lst xs]))->Q (.ref (r.length+l.length+3)) h'):W (newL xs) h Q:=
 z2I p hl λh' p'=>by rw[K7]at p';have:=z h' p';rwa [K3]
theorem ze8(p:PS h k (r++l))(e:l[i]?=.(l xs))(hl:xs.length<1000000)(z:∀h',PS h' k (r++l.set i (.lst (xs++[v])))->Q .non h'):W (y0 (r.length+i+3) v) h Q:=
 z8Y p (by rw[at_E];exact e) hl λh' p'=>z h' (by rw[Z0p]at p';exact p')
theorem zZ5{j:Int}(p:PS h k (r++l))(e:l[i]?=.(l xs))(a:atI xs j=some d)(q:Q d h):W (fIx (.ref (r.length+i+3)) (.int j)) h Q:=zp0 p (by rw[at_E];exact e) a q
theorem zw1(p:PS h k (r++l))(e:l[i]?=.(l xs))(q:Q (.int xs.length) h):W (fLen [.ref (r.length+i+3)]) h Q:=zR7 p (by rw[at_E];exact e) q
theorem z3V(p:PS h k (r++l))(e:l[i]?=.(l xs))(q:Q (.tup xs) h):W (y3 [.ref (r.length+i+3)]) h Q:=by
 have ft:∀i:Nat,y3 [.ref i]=(do let x <- getL i;pure (.tup x)):=λ_=>rfl;rw[ft,Z4];refine z8O p e ?_;rw[W_pure];exact q
theorem zs9{Q:Nat->AH->Prop}(p:PS h k (r++l))(e:l[i]?=.(l xs))(q:Q (r.length+i+3) h):W (z3F (.ref (r.length+i+3))) h Q:=by
 rw[z5w];exact z8O p e q
theorem zO4{j:Nat}(p:PS h k (r++l))(e:l[i]?=.(l xs))(e2:(r++l)[j]?=.(l ys))(hl:xs.length+ys.length<=1000000)(z:∀h',PS h' k (r++(l++[.lst (xs++ys)]))->Q (.ref (r.length+l.length+3)) h'):W (fAdd (.ref (r.length+i+3)) (.ref (j+3))) h Q:=by
 show W (getL _ >>= λx=>getL _ >>= λy=>newL (x++y)) h Q;rw[Z4];refine z8O p e ?_;rw[Z4];refine z66 p e2 ?_;exact zk0 p (by simpa using hl) z
end
theorem z0r{Q:Out->AH->Prop}(J:D->AH->Prop)(z:W (ma γ) h J)(f:∀d h1,J d h1->W (mt (γ.set i (some d))) h1 Q):W (z9 (sAsg ma (gN i)) mt γ) h Q:=z4r (z.mono f)
theorem zf9{Q:Out->AH->Prop}(J:D->AH->Prop)(z:W (ma γ) h J)(f:∀d h1,J d h1->Q (.rt d) h1):W (z9 (sRet ma) mt γ) h Q:=zy4 (z.mono f)
theorem z8S{me:G->M D}{mt:G->M Out}{k:Int}{l:AH}{Q:Out->AH->Prop}(ea:γ[a]?=some (.(r (r.length+i+3))))(p:PS h k (r++l))(e:l[i]?=.(l xs))(hl:xs.length<1000000)(J:D->Int->Prop)
 (z:W (me γ) h λv h1=>∃k',PS h1 k' (r++l)/\J v k') (f:∀v k' h2,J v k'->PS h2 k' (r++l.set i (.lst (xs++[v])))->W (mt γ) h2 Q):W (z9 (z04 (eM1 y0 (eVar a) me)) mt γ) h Q:=by
 refine z39 ?_;unfold eM1;rw[Z4];refine W_eq (v:=.ref (r.length+i+3)) (by unfold eVar;rw[ea]) ?_;rw[Z4];refine zs9 p e ?_;rw[Z4];refine z.mono λv h1 ⟨k',p1,j⟩=>?_;exact ze8 p1 e hl λh2 p2=>f v k' h2 j p2
theorem zk2{cap:List (Option Nat)}{mi:G->M Src}{g:D->G->M G}{kk:G->M Bool}{me:G->M D}{γ:G}{h:AH}{r l:AH}{Q:D->AH->Prop}(J:Nat->List D->Int->Prop)
 (hs:W (mi γ) h λsrc h1=>∃k,PS h1 k (r++l)/\J 0 [] k/\(∀h k xs,PS h k (r++(l++[.lst xs]))->src.good h) /\
  (∀i d h k xs,src.items[i]?=some d->J i xs k->PS h k (r++(l++[.lst xs]))->W (g d (capG cap γ)) h λγ1 h1'=>W (kk γ1) h1' λt h2=>if t=true then W (me γ1) h2 λv h3=>∃k',PS h3 k' (r++(l++[.lst xs]))/\xs.length<1000000/\J (i+1) (xs++[v]) k' else ∃k',PS h2 k' (r++(l++[.lst xs]))/\J (i+1) xs k') /\
  ∀h' xs k,J src.items.length xs k->PS h' k (r++(l++[.lst xs]))->Q (.ref (r.length+l.length+3)) h'):W (z00 cap mi g kk me γ) h Q:=by
 refine zw6 ?_;refine hs.mono λsrc h1 ⟨k,p1,j0,good,st,fin⟩=>?_;have l1:h1.length=r.length+l.length+3:=by rw[p1.len,K3]
 refine⟨λi h'=>∃xs k,J i xs k/\PS h' k (r++(l++[.lst xs])),⟨[],k,j0,by rw[<- K7];exact p1.app _⟩,λi h' ⟨xs,k,_,p⟩=>good h' k xs p,?_,?_⟩
 ·rintro i d h2 hd ⟨xs,k,jx,p2⟩;refine(st i d h2 k xs hd jx p2).mono λγ1 h3 w3=>w3.mono λt h4 w4=>?_;cases t with
  | false=>rw[if_neg .(1)]at w4 ⊢;obtain⟨k',p4,j4⟩:=w4;exact⟨xs,k',j4,p4⟩
  | true=>
   rw[if_pos rfl]at w4 ⊢;refine w4.mono λv h5 ⟨k',p5,lx,j5⟩=>?_;rw[l1,show r.length+l.length+3=r.length+l.length+3 from rfl];refine ze8 (i:=l.length) p5 .(e) lx λh6 p6=>?_;refine⟨_,k',j5,?_⟩;rw[K16 _ _ (K01 _),K3l]at p6;exact p6
 ·rintro h2 ⟨xs,k,jx,p2⟩;rw[l1];exact fin h2 xs k jx p2
def lkD(kvs:List (Key×D))(k:Key):Option D:=(kvs.find? λkv=>decide (kv.1=k)).map (·.2)
def ptD(kvs:List (Key×D))(k:Key)(v:D):List (Key×D):=
 if (kvs.any λkv=>decide (kv.1=k))=true then kvs.map (λkv=>if kv.1=k then (kv.1,v) else kv) else kvs++[(k,v)]
theorem RK.len:∀{kvs:List (Key×D)}{vs:List (Key×V)},RK K ρ H kvs vs->kvs.length=vs.length
 | _,_,.nil=>rfl
 | _,_,.cons _ b=>by simp[RK.len b]
theorem RK.lk(k:Key):∀{kvs:List (Key×D)}{vs:List (Key×V)},RK K ρ H kvs vs->(lkD kvs k=none/\valV vs k=none)\/∃d v,lkD kvs k=some d/\valV vs k=some v/\RD K ρ H d v
 | _,_,.nil=>.inl ⟨rfl,rfl⟩
 | p::kvs,q::vs,.cons a b=>by
  by_cases e:p.1=k
  ·refine .inr ⟨p.2,q.2,by simp[lkD,K2s,e],z49 (a.1.symm.trans e),a.2⟩
  ·rw[z4i (λz=>e (a.1.trans z))];have:lkD (p::kvs) k=lkD kvs k:=by simp[lkD,K2s,e]
   rw[this];exact RK.lk k b
theorem RK.any(k:Key):∀{kvs:List (Key×D)}{vs:List (Key×V)},RK K ρ H kvs vs->(kvs.any λkv=>decide (kv.1=k))=vs.any λkv=>decide (kv.1=k)
 | _,_,.nil=>rfl
 | _,_,.cons a b=>by rw[K2g,K2g,RK.any k b,a.1]
theorem RK.rep(k:Key){d:D}{v:V}(r:RD K ρ H d v):∀{kvs:List (Key×D)}{vs:List (Key×V)},RK K ρ H kvs vs->RK K ρ H (kvs.map (λkv=>if kv.1=k then (kv.1,d) else kv)) (vs.map (λkv=>if kv.1=k then (kv.1,v) else kv))
 | _,_,.nil=>.nil
 | p::kvs,q::vs,.cons a b=>by
  rw[K0p,K0p];refine .cons ?_ (RK.rep k r b);by_cases e:p.1=k
  ·rw[if_pos e,if_pos (a.1.symm.trans e)];exact⟨a.1,r⟩
  ·rw[if_neg e,if_neg (λz=>e (a.1.trans z))];exact a
theorem RK.snoc{k:Key}{d:D}{v:V}(r:RD K ρ H d v):∀{kvs:List (Key×D)}{vs:List (Key×V)},RK K ρ H kvs vs->RK K ρ H (kvs++[(k,d)]) (vs++[(k,v)])
 | _,_,.nil=>.cons ⟨rfl,r⟩ .nil
 | _,_,.cons a b=>.cons a (RK.snoc r b)
theorem RK.put(k:Key)(r:RD K ρ H d v)(q:RK K ρ H kvs vs):RK K ρ H (ptD kvs k d) (L2.putK vs k v):=by
 unfold ptD L2.putK;rw[q.any k];split
 ·exact q.rep k r
 ·exact q.snoc r
theorem zp8{k:Key}(e:keyD d=some k)(r:RD K ρ H d v):v=kV k:=by
 cases d<;>simp only[keyD]at e<;>first|(cases e;simp only[RD]at r;exact r)|cases e
def getK(n:Nat):M (List (Key×D)):=λh=>match h[n]? with
 | some (.dK kvs)=>.ok kvs h
 | some (.dF kvs)=>.ok kvs h
 | _=>.bad
def newK(kvs:List (Key×D)):M D:=λh=>if kvs.length<=sizeLine then .ok (.ref h.length) (h++[.dK kvs]) else .bad
def dicD:D->M (List (Key×D))
 | .ref n=>getK n
 | _=>bad
def z2R:D->D->M D:=λx y=>do
 let kvs <- dicD x
 match keyD y with
 | some k=>(match lkD kvs k with
  | some d=>pure d
  | none=>bad)
 | none=>bad
def fInD(neg:Bool):D->D->M D:=λy x=>do
 let kvs <- dicD x
 match keyD y with
 | some k=>pure (.bl ((lkD kvs k).isSome != neg))
 | none=>bad
def z5M:D->D->D->M Unit:=λo i v=>match o with
 | .ref n=>(match keyD i with
  | some k=>λh=>match h[n]? with
   | some (.dK kvs)=>if kvs.length<sizeLine then .ok () (h.set n (.dK (ptD kvs k v))) else .bad
   | _=>.bad
  | none=>bad)
 | _=>bad
def gDx(mo mi:G->M D):D->G->M G:=λv γ=>do
 let o <- mo γ;let i <- mi γ;let _ <- z5M o i v
 pure γ
section
variable{a o i f:Expr}{mi:G->M D}
theorem z8b{x:D}{u:V}(r:RH K ρ h H)(rx:RD K ρ H x u)(fin:Fin K EX ρ H Z (dicD x h)):∃n a kvs vs,x=.ref n/\u=.ref a/\ρ[n]?=some a/\(h[n]?=some (.dK kvs)\/h[n]?=some (.dF kvs))/\Rd H a (.dK vs)/\RK K ρ H kvs vs/\Z kvs ρ h H:=by
 cases x<;>first|exact(show False from fin).elim|skip
 rename_i n;simp only[RD]at rx;obtain⟨a,rfl,hq⟩:=rx;unfold dicD getK at fin;dsimp only at fin;cases e:h[n]? with
 | none=>rw[e]at fin;exact fin.elim
 | some ob=>
  cases ob with
  | lst xs=>rw[e]at fin;exact fin.elim
  | set xs=>rw[e]at fin;exact fin.elim
  | dct=>rw[e]at fin;exact fin.elim
  | exc c=>rw[e]at fin;exact fin.elim
  | ins _ _=>rw[e]at fin;exact fin.elim
  | dK kvs=>
   rw[e]at fin;obtain⟨a1,n1,vs,o1,d1⟩:=r.at e;rw[hq]at n1;cases n1;exact⟨n,a,kvs,vs,rfl,rfl,hq,.inl e,.inl o1,d1,fin ρ H .(c) .(b) r⟩
  | dF kvs=>
   rw[e]at fin;obtain⟨a1,n1,ob,vs,o1,d1⟩:=r.at e;rw[hq]at n1;cases n1;exact⟨n,a,kvs,vs,rfl,rfl,hq,.inr e,.inr ⟨ob,o1⟩,d1,fin ρ H .(c) .(b) r⟩
theorem zu3:SE X EX (.Dict [] [] pos) (λ_=>newK []):=
 ⟨PE.imp zo9 λσ H Q ⟨ρ,γ,h,rel,fin⟩ p hp=>by
  unfold newK at fin;dsimp only at fin;rw[if_pos (show ([]:List (Key×D)).length<=sizeLine from K4j _)]at fin;refine fin (ρ++[p]) _ (Pre.app _ _) (Ext.upd (.inl hp)) (rel.h.pushO hp ⟨[],Y9,.nil⟩) _ ?_;simp only[RD];refine⟨p,rfl,?_⟩;rw[<- rel.h.len];simp⟩
theorem z33(hu:X.A.units+1<cLine)(ha:SE X EX o mo)(hb:SE X EX i mi)(hs:NoSl i:=by intro _ _;rfl):SE X EX (.Subscript o i pos) (e2 z2R mo mi):=
 ⟨PE.imp (zD5 hu ha.h hb.h hs) λσ H Q ⟨ρ,γ,h,rel,fin⟩=>⟨ρ,γ,h,rel,(Fin.bind fin).mono λx ρ1 h1 H1 p1 e1 r1 f1 v rv=>⟨ρ1,γ,h1,⟨rel.g.mono p1 e1,r1⟩,(Fin.bind f1).mono λy ρ2 h2 H2 p2 e2 r2 f2 w rw'=>by
  obtain⟨n,ad,kvs,vs,rfl,rfl,hn,hk,hH,rk,f3⟩:=z8b r2 (rv.mono p2 e2) (Fin.bind f2);cases ek:keyD y with
  | none=>rw[ek]at f3;exact f3.elim
  | some k=>
   rw[ek]at f3;have:=zp8 ek rw';subst this;rcases rk.lk k with ⟨z1,_⟩|⟨d,u,z1,z2,rd⟩
   ·dsimp only at f3;rw[z1]at f3;exact f3.elim
   ·dsimp only at f3;rw[z1]at f3;refine⟨ad,u,rfl,?_,FE.here f3 r2 rd⟩;rw[<- z2];exact .inl ⟨vs,k,hH,rfl,rfl⟩⟩⟩⟩
def rInD(neg:Bool):R2:=λy x H Q=>∃ad ov,x=.ref ad/\DGet H ad y ov/\Q (.bl (ov.isSome != neg)) H
theorem zO8(hu:X.A.units+1<cLine):OpR X (K1w .In) (rInD false):=by
 intro pins s σ H x y v u Q I rx ry h;obtain⟨ad,ov,rfl,g,q⟩:=h;cases ry;rw[K27]at q;exact d_in hu I g rx λs' I'=>⟨.bl _,H,I',rfl,q⟩
theorem zz6(hu:X.A.units+1<cLine):OpR X (K1w .NotIn) (rInD true):=by
 intro pins s σ H x y v u Q I rx ry h;obtain⟨ad,ov,rfl,g,q⟩:=h;cases ry;rw[K5k]at q;exact zD8 hu I g rx λs' I'=>⟨.bl _,H,I',rfl,q⟩
theorem zw5:BR X.K EX (rInD neg) (fInD neg):=by
 intro ρ h H y x w v Q r ry rx fin;obtain⟨n,ad,kvs,vs,rfl,rfl,hn,hk,hH,rk,f3⟩:=z8b r rx (Fin.bind fin);cases ek:keyD y with
 | none=>rw[ek]at f3;exact f3.elim
 | some k=>
  rw[ek]at f3;have:=zp8 ek ry;subst this;refine⟨ad,valV vs k,rfl,.inl ⟨vs,k,hH,rfl,rfl⟩,?_⟩;have:(valV vs k).isSome=(lkD kvs k).isSome:=by
   rcases rk.lk k with ⟨z1,z2⟩|⟨d,u,z1,z2,_⟩<;>rw[z1,z2]<;>rfl
  rw[this];exact FE.here f3 r .(s)
theorem zZ4(hu:X.A.units+1<cLine):CO X EX .In (fInD false):=⟨_,zO8 hu,zw5⟩
theorem z7n(hu:X.A.units+1<cLine):CO X EX .NotIn (fInD true):=⟨_,zz6 hu,zw5⟩
def Z06:V->V->V->Hp->(Hp->Prop)->Prop:=λo i v H Q=>∃ad H',o=.ref ad/\DPut H ad i v H'/\Q H'
theorem set_dict(hu:X.A.units+1<cLine):PSet X Z06:=by
 intro pins s σ H o i v ov iv u Q I ro ri rv h;obtain⟨ad,H',rfl,g,q⟩:=h;cases ro;exact zg4 hu I g ri rv λs' I'=>⟨H',I',q⟩
theorem zK2(hu:X.A.units+1<cLine)(ho:SE X EX o mo)(hi:SE X EX i mi)
 (ha:∀v,assign (.Subscript o i pos) X.env v=(do
  let ov <- K3t [v] (eval o X.env);let iv <- K3t [v,ov] (eval i X.env)
  K5a pos
  K3t [v,ov,iv] (Z38 ov iv v)
  release [v,ov,iv] []):=by intro _;rfl):SG X EX (.Subscript o i pos) (gDx mo mi):=
 ⟨PG.imp (zv9 ho.h hi.h (set_dict hu) ha) λv σ H Q ⟨ρ,γ,h,d,rel,rd,fin⟩=>⟨ρ,γ,h,rel,(Fin.bind fin).mono λod ρ1 h1 H1 p1 e1 r1 f1 ov ro=>⟨ρ1,γ,h1,⟨rel.g.mono p1 e1,r1⟩,(Fin.bind f1).mono λid ρ2 h2 H2 p2 e2 r2 f2 iv ri=>by
  have f3:=Fin.bind f2;cases od<;>first|exact(show False from f3).elim|skip
  rename_i n;unfold z5M at f3;dsimp only at f3;cases ek:keyD id with
  | none=>rw[ek]at f3;exact f3.elim
  | some k=>
   rw[ek]at f3;have:=zp8 ek ri;subst this;simp only[RD]at ro;obtain⟨q,rfl,hq⟩:=ro;have hq2:=p2 n q hq;dsimp only at f3;cases e4:h2[n]? with
   | none=>rw[e4]at f3;exact f3.elim
   | some ob=>
    cases ob with
    | lst xs=>rw[e4]at f3;exact f3.elim
    | set ks=>rw[e4]at f3;exact f3.elim
    | dct=>rw[e4]at f3;exact f3.elim
    | exc c=>rw[e4]at f3;exact f3.elim
    | ins _ _=>rw[e4]at f3;exact f3.elim
    | dF c=>rw[e4]at f3;exact f3.elim
    | dK kvs=>
     rw[e4]at f3;dsimp only at f3;split at f3
     ·rename_i hl;obtain⟨a1,n1,vs,o1,d1⟩:=r2.at e4;rw[hq2]at n1;cases n1;have rv:=(rd.mono p1 e1).mono p2 e2;refine⟨q,_,rfl,DPut.k o1 (by rw[<- d1.len];exact hl),?_⟩;have ext:Ext X.K H2 (upd H2 q (.dK (L2.putK vs k v))):=Ext.upd (.inr ⟨_,o1,trivial⟩);have r3:RH X.K ρ2 (h2.set n (.dK (ptD kvs k d))) (upd H2 q (.dK (L2.putK vs k v))):=r2.setO e4 hq2 ⟨_,Y9,(d1.put k rv).mono .(c) ext⟩;exact f3 ρ2 _ .(c) ext r3 ρ2 _ .(c) .(b) r3 σ (((rel.g.mono p1 e1).mono p2 e2).mono .(c) ext)
     ·exact f3.elim⟩⟩⟩
end
def orM(m n:M α):M α:=λh=>match m h with
 | .bad=>n h
 | r=>r
def orE(m n:G->M α):G->M α:=λγ=>orM (m γ) (n γ)
section
variable{tg:Expr}
theorem zq9(m n:M α)(h:AH):orM m n h=m h\/orM m n h=n h:=by
 unfold orM;cases m h with
 | bad=>exact .inr rfl
 | ok a b=>exact .inl rfl
 | err a b=>exact .inl rfl
theorem zZ2{m n:G->M Src}(a:SI X EX tg e m)(b:SI X EX tg e n):SI X EX tg e (orE m n):=
 ⟨λpins s σ H Q I ⟨ρ,γ,h,rel,fin⟩=>by
  rcases zq9 (m γ) (n γ) h with z|z<;>rw[show orE m n γ h=orM (m γ) (n γ) h from rfl,z]at fin
  ·exact a.h pins s σ H Q I ⟨ρ,γ,h,rel,fin⟩
  ·exact b.h pins s σ H Q I ⟨ρ,γ,h,rel,fin⟩⟩
end
theorem or_l{m n:G->M α}{v:α}(e:m γ h=.ok v h1):orE m n γ h=.ok v h1:=by unfold orE orM;rw[e]
theorem or_r{m n:G->M α}(e:m γ h=.bad):orE m n γ h=n γ h:=by unfold orE orM;rw[e]
theorem W_of{m:M α}{v:α}{Q:α->AH->Prop}(e:m h=.ok v h1)(q:Q v h1):W m h Q:=⟨_,_,e,q⟩
def kvN(l:List Nat):List (Key×D):=l.map λ(i:Nat)=>(.inl (i:Int),.bl true)
theorem zI0(l:List Nat):(kvN l).length=l.length:=by unfold kvN;simp
theorem zb3(l:List Nat)(x:Nat):((kvN l).any λkv=>decide (kv.1=.inl (x:Int)))=decide (x∈l):=by
 induction l with
 | nil=>rfl
 | cons a l ih=>
  have:kvN (a::l)=(.inl (a:Int),.bl true)::kvN l:=rfl;rw[this,K2g,ih];by_cases e:a=x
  ·subst e;simp
  ·have h1:¬ (K21 (a:Int):Key)=.inl (x:Int):=λz=>e (by injection z with z;exact_mod_cast z);simp[h1,show ¬ x=a from λz=>e z.symm]
theorem zQ5(l:List Nat)(x:Nat):(lkD (kvN l) (.inl (x:Int))).isSome=decide (x∈l):=by
 unfold lkD;rw[K6d,List.isSome_find?];exact zb3 l x
theorem zz1(l:List Nat)(h:x∉l):ptD (kvN l) (.inl (x:Int)) (.bl true)=kvN (l++[x]):=by
 unfold ptD;rw[zb3,.(k) h];simp[kvN]
theorem zJ8(e:h[n]?=some (.dK (kvN l))):fInD neg (.int x) (.ref n) h=.ok (.bl (decide (x∈l) != neg)) h:=by
 have e1:dicD (.ref n) h=.ok (kvN l) h:=by unfold dicD getK;dsimp only;rw[e]
 unfold fInD;rw[M.bind_ok e1];have:keyD (.int x)=some (.inl (x:Int)):=rfl;rw[this];show Res.ok (D.bl ((lkD (kvN l) (.inl (x:Int))).isSome != neg)) h=_;rw[zQ5]
theorem zv2(e:h[n]?=some (.dK (kvN l)))(hx:x∉l)(hl:l.length<1000):z5M (.ref n) (.int x) (.bl true) h=.ok () (h.set n (.dK (kvN (l++[x])))):=by
 have:keyD (.int x)=some (.inl (x:Int)):=rfl;unfold z5M;dsimp only;rw[this];dsimp only;rw[e];dsimp only;rw[if_pos (by rw[zI0];unfold sizeLine;omega),zz1 l hx]
def putN(acc:List Nat)(k:Nat):List Nat:=if k∈acc then acc else acc++[k]
def dedN(l:List Nat):List Nat:=l.foldl putN []
theorem zn8{a:List Nat}{k:Nat}:x∈putN a k↔x∈a\/x=k:=by
 unfold putN;split
 ·exact⟨.inl,λh=>h.elim id λe=>by subst e;assumption⟩
 ·simp
theorem zC5{a:List Nat}{k:Nat}(h:a.Nodup):(putN a k).Nodup:=by
 unfold putN;split
 ·exact h
 ·exact z3a h ‹_›
theorem z83{x:Nat}:∀{l a:List Nat},x∈l.foldl putN a↔x∈a\/x∈l
 | [],a=>by simp
 | k::l,a=>by rw[K4q,z83,zn8,K0l];exact or_assoc
theorem zi0:∀{l a:List Nat},a.Nodup->(l.foldl putN a).Nodup
 | [],_,h=>h
 | _::l,_,h=>zi0 (l:=l) (zC5 h)
theorem dedN_mem:x∈dedN l↔x∈l:=by unfold dedN;rw[z83];simp
theorem z5k(l:List Nat):(dedN l).Nodup:=zi0 K4f
theorem za6:∀(l a:List Nat),(kN l).foldl putK (kN a)=kN (l.foldl putN a)
 | [],a=>rfl
 | k::l,a=>by
  have e:putK (kN a) (.inl (k:Int))=kN (putN a k):=by
   unfold putN;split
   ·rename_i h;unfold putK;rw[if_pos (kN_mem.mpr h)]
   ·exact zv7 ‹_›
  show (kN l).foldl putK (putK (kN a) (.inl (k:Int)))=_;rw[e];exact za6 l (putN a k)
theorem zv1(l:List Nat):dedK (kN l)=kN (dedN l):=za6 l []
theorem zq4(h:∀x∈l,x<n):(dedN l).length<=n:=z0q (z5k l) λx hx=>h x (dedN_mem.mp hx)
theorem z7a:∀l:List Nat,z5m (stD l)=some (kN l)
 | []=>rfl
 | a::l=>by
  have:z5m (stD (a::l))=(match keyD (.int (a:Int)),z5m (stD l) with
   | some k,some ks=>some (k::ks)
   | _,_=>none):=rfl
  rw[this,z7a l];rfl
def setN(l:List Nat):List Nat:=x9 (dedN l)
theorem z34:x∈setN l↔x∈l:=by unfold setN;rw[sortN_mem,dedN_mem]
theorem z38(l:List Nat):(setN l).Pairwise (·<·):=z1I (z5k l)
theorem z0G(h:l.Pairwise (·<·)):l.Nodup:=h.imp λh=>K0x h
theorem z3j{m:List Nat}(a:l.Pairwise (·<·))(b:m.Pairwise (·<·))(h:∀x,x∈l↔x∈m):l=m:=
 ((K7o (z0G a) (z0G b)).mpr h).eq_of_pairwise (λ_ _ _ _ h1 h2=>absurd h2 (Nat.lt_asymm h1)) a b
theorem zm0{m:List Nat}(h:∀x,x∈l↔x∈m):setN l=setN m:=z3j (z38 l) (z38 m) λx=>by rw[z34,z34];exact h x
theorem zo0(h:∀x∈l,x<n):(setN l).length<=n:=by unfold setN;rw[z1k];exact zq4 h
inductive RchT(st:List .(p))(T:List Nat)(x:Nat):Nat->Prop
 | here:RchT st T x x
 | step {a b:Nat}:RchT st T x a->b∈nx st a->b∉T->RchT st T x b
theorem zd8(q:∀a,∀b∈nx st a,b<n)(hx:x<n)(h:RchT st T x a):a<n:=by
 induction h with
 | here=>exact hx
 | step _ b _ _=>exact q _ _ b
theorem zD6(hx:x∈S)(cl:∀a∈S,∀b∈nx st a,b∈S\/b∈T)(h:RchT st T x a):a∈S:=by
 induction h with
 | here=>exact hx
 | step _ b c ih=>exact(cl _ ih _ b).resolve_right c
structure FndT(st:List .(p))(T:List Nat)(x:Nat)(S:List Nat):Prop where
 nd:S.Nodup
 rc:∀a∈S,RchT st T x a
 hx:x∈S
 nt:∀a∈S,a∉T
theorem FndT.put{b:Nat}(f:FndT st T x S)(ha:a∈S)(hb:b∈nx st a)(nb:b∉S)(nt:b∉T):FndT st T x (S++[b]):=
 ⟨z3a f.nd nb,λc hc=>by
  rcases K00.mp hc with q|q
  ·exact f.rc c q
  ·simp at q;subst q;exact .step (f.rc a ha) hb nt,K09 _ f.hx,λc hc=>by
  rcases K00.mp hc with q|q
  ·exact f.nt c q
  ·simp at q;subst q;exact nt⟩
theorem FndT.one(h:x∉T):FndT st T x [x]:=⟨by simp,λa ha=>by simp at ha;subst ha;exact .here,by simp,λa ha=>by simp at ha;subst ha;exact h⟩
section
variable{b:Nat}{v:D}{Q:Out->AH->Prop}
theorem z2o(e:h[i]?=.(l xs)):z3F (.ref i) h=.ok i h:=by unfold z3F;dsimp only;rw[e]
theorem z3e(e:h[i]?=.(l xs))(hl:xs.length<1000000):y0 i v h=.ok .non (h.set i (.lst (xs++[v]))):=by
 unfold y0 updL;rw[e];dsimp only;rw[if_pos (by simp[sizeLine];omega)]
theorem zU4(e:h[i]?=.(l (xs++[v])))(hl:xs.length<1000000):fPop i h=.ok v (h.set i (.lst xs)):=by
 unfold fPop updL;rw[e];dsimp only;rw[show (xs++[v])[(xs++[v]).length - 1]?=some v by simp,Option.map_some];dsimp only;rw[if_pos (by simp[sizeLine];omega),K2f]
theorem z1A(ea:γ[a]?=some (.(r i)))(e:h[i]?=.(l xs))(hl:xs.length<1000000)(ev:me γ h=.ok v h)(z:W (mt γ) (h.set i (.lst (xs++[v]))) Q):W (z9 (z04 (eM1 y0 (eVar a) me)) mt γ) h Q:=by
 refine z39 ?_;have e1:eVar a γ=pure (.ref i):=by unfold eVar;rw[ea]
 unfold eM1;rw[e1,z08,Z4];refine W_of (z2o e) ?_;rw[Z4];exact W_of ev (W_of (z3e e hl) z)
theorem Z00(ea:γ[a]?=some (.(r i)))(e:h[i]?=.(l (xs++[v])))(hl:xs.length<1000000)(z:W (mt (γ.set b (some v))) (h.set i (.lst xs)) Q):W (z9 (sAsg (eM0 fPop (eVar a)) (gN b)) mt γ) h Q:=by
 refine z4r ?_;have e1:eVar a γ=pure (.ref i):=by unfold eVar;rw[ea]
 unfold eM0;rw[e1,z08,Z4];exact W_of (z2o e) (W_of (zU4 e hl) z)
theorem zx8(ea:γ[a]?=some (.(r i)))(eb:γ[b]?=some (.(i x)))(e:h[i]?=some (.dK (kvN l)))(hx:x∉l)(hl:l.length<1000)(z:W (mt γ) (h.set i (.dK (kvN (l++[x])))) Q):W (z9 (sAsg (λ_=>pure (.bl true)) (gDx (eVar a) (eVar b))) mt γ) h Q:=by
 have e1:eVar a γ=pure (.ref i):=by unfold eVar;rw[ea]
 have e2:eVar b γ=pure (.int x):=by unfold eVar;rw[eb]
 rw[w_cons];unfold sAsg gDx;rw[z08,e1,z08,e2,z08];rw[Z4,Z4];refine W_of (zv2 e hx hl) ?_;rw[W_pure,W_pure];exact z
theorem zo2(hl:xs.length<=1000000)(ev:∀h,me γ h=newL xs h)(z:W (mt (γ.set a (.(r h.length)))) (h++[.lst xs]) Q):W (z9 (sAsg me (gN a)) mt γ) h Q:=by
 refine z4r ?_;have:me γ=newL xs:=funext ev;rw[this];exact zP6 hl z
theorem zc5(ea:γ[a]?=some (.(r i)))(e:h[i]?=.(l xs)):cVal (eVar a) γ h=.ok (!xs.isEmpty) h:=by
 have e1:eVar a γ=pure (.ref i):=by unfold eVar;rw[ea]
 unfold cVal;rw[e1,z08];unfold truD;dsimp only;have e2:getL i h=.ok xs h:=by unfold getL;rw[e]
 rw[M.bind_ok e2];rfl
theorem y9{r:Res D}(e:me γ h=.ok d h1)(e2:f [d] h1=r):Z8 f (z7 me aNil) γ h=r:=by
 have:z7 me aNil γ h=.ok [d] h1:=by
  show (me γ >>= λx=>(do let r <- aNil γ;pure (x::r):M (List D))) h=_;rw[M.bind_ok e];rfl
 show (z7 me aNil γ >>= f) h=_;rw[M.bind_ok this];exact e2
theorem z6v(e:h[i]?=.(l xs)):y3 [.ref i] h=.ok (.tup xs) h:=by
 have ft:y3 [.ref i]=(do let x <- getL i;pure (.tup x)):=rfl;have g:getL i h=.ok xs h:=by unfold getL;rw[e]
 rw[ft,M.bind_ok g];rfl
theorem zJ2(e:h[i]?=.(l xs)):fLen [.ref i] h=.ok (.int xs.length) h:=by
 have ft:fLen [.ref i]=(do let x <- getL i;pure (.int x.length)):=rfl;have g:getL i h=.ok xs h:=by unfold getL;rw[e]
 rw[ft,M.bind_ok g];rfl
theorem ix_h{t:Int}(e:h[i]?=.(l xs))(a:atI xs t=some d):fIx (.ref i) (.int t) h=.ok d h:=by
 have ft:fIx (.ref i) (.int t)=(do let xs <- getL i;match atI xs t with|some d=>pure d|none=>bad):=rfl;have g:getL i h=.ok xs h:=by unfold getL;rw[e]
 rw[ft,M.bind_ok g,a];rfl
theorem z7p{ss:List Str}(e:h[i]?=.(l (ss.map .str)))(hl:ss.length<64):z0f [.ref i] h=.ok (.ref h.length) (h++[.lst ((Y7 ss).map .str)]):=by
 have fs:z0f [.ref i]=(do
  let xs <- getL i
  if xs.length<64 then (match z42 xs with
   | some ss=>newL ((Y7 ss).map .str)
   | none=>(match z4G xs with
    | some ns=>newL ((sortI ns).map .int)
    | none=>bad)) else bad):=rfl
 have g:getL i h=.ok (ss.map .str) h:=by unfold getL;rw[e]
 rw[fs,M.bind_ok g,if_pos (by simpa using hl),strs_map];dsimp only;unfold newL;rw[if_pos (by rw[K0c,z3n];unfold sizeLine;omega)]
theorem z5T(e:me γ h=.ok (.ref h.length) (h++[.lst xs]))(c:k7 0 xs=true):clE (Z8 y3 (z7 me aNil)) γ h=.ok (.tup xs) h:=
 z05 (j:=[.lst xs]) (y9 e (z6v .(e))) (by simp only[J2];exact z2g (K4j _) c)
theorem cb_h{b:Bool}(e:me γ h=.ok (.bl b) h1):(λγ=>(do let d <- me γ;asB d:M Bool)) γ h=.ok b h1:=by
 dsimp only;rw[M.bind_ok e];rfl
theorem z2G{mb:G->M Out}(z:W (mb (z1b n ds)) h (runW λa h'=>a=d/\h'=h1)):runF n mb ds h=.ok d h1:=by
 obtain⟨_,_,a,rfl,rfl⟩:=z1L z;exact a
end
theorem z78{f:D->D->Option Bool}{ι:Type}[DecidableEq ι]{enc:ι->D}(e:∀a b,f (enc a) (enc b)=some (decide (a=b))):∀l m:List ι,eqZ f (l.map enc) (m.map enc)=some (decide (l=m))
 | [],[]=>by simp[eqZ]
 | [],b::m=>by simp[eqZ]
 | a::l,[]=>by simp[eqZ]
 | a::l,b::m=>by
  rw[K0p,K0p];unfold eqZ;rw[e a b,z78 e l m];dsimp only;congr 1;rw[K0n];simp
theorem ze1(a b:Nat):eqN (n+1) h (.int a) (.int b)=some (decide (a=b)):=by
 show some ((a:Int)==(b:Int))=_;congr 1;rw[K0n,beq_iff_eq,.(i)];exact K5m
theorem zf7[DecidableEq ι]{enc:ι->D}(e:∀a b,eqN n h (enc a) (enc b)=some (decide (a=b)))(l m:List ι):eqN (n+1) h (.tup (l.map enc)) (.tup (m.map enc))=some (decide (l=m)):=z78 e l m
theorem zC8[DecidableEq ι]{enc:ι->D}(e:∀a b,eqN n h (enc a) (enc b)=some (decide (a=b))){l m:List ι}{j:Nat}(hi:h[i]?=.(l (l.map enc)))(hj:h[j]?=.(l (m.map enc))):eqN (n+1) h (.ref i) (.ref j)=some (decide (l=m)):=by
 have v1:vw h (.ref i)=.lst (l.map enc):=by unfold vw;dsimp only;rw[hi]
 have v2:vw h (.ref j)=.lst (m.map enc):=by unfold vw;dsimp only;rw[hj]
 unfold eqN;rw[v1,v2];exact z78 e l m
theorem zu9{x y:D}(e:eqN 24 h x y=some b):fEqX neg x y h=.ok (.bl (b != neg)) h:=by
 unfold fEqX;rw[e]
theorem z73{m:List Nat}{j:Nat}(hi:h[i]?=.(l (stD l)))(hj:h[j]?=.(l (stD m))):fEqX neg (.ref i) (.ref j) h=.ok (.bl (decide (l=m) != neg)) h:=zu9 (zC8 (enc:=λ(i:Nat)=>.int i) ze1 hi hj)
theorem zD3{l m:List .(p)}:fEqX neg (.tup (stsD l)) (.tup (stsD m))=pure (.bl (decide (l=m) != neg)):=funext λh=>zu9 (zf7 (enc:=λr=>.tup (stD r)) (zf7 (enc:=λ(i:Nat)=>.int i) ze1) l m)
section
variable{h2:AH}
theorem e2_h{f:D->D->M D}{x y:D}{r:Res D}(e1:ma γ h=.ok x h1)(e2':mb γ h1=.ok y h2)(e3:f x y h2=r):e2 f ma mb γ h=r:=by
 show (ma γ >>= λx=>(mb γ >>= λy=>f x y)) h=_;rw[M.bind_ok e1,M.bind_ok e2',e3]
theorem fn_h{r:Res D}(e:mr γ h=.ok ds h1)(hn:ds.length=n)(e2:f ds h1=r):eFn n f mr γ h=r:=by
 show (mr γ >>= λxs=>if xs.length=n then f xs else bad) h=_;rw[M.bind_ok e,if_pos hn,e2]
theorem ac_h(e:ma γ h=.ok d h1)(e2:mr γ h1=.ok ds h2):z7 ma mr γ h=.ok (d::ds) h2:=by
 show (ma γ >>= λx=>(mr γ >>= λr=>(pure (x::r):M (List D)))) h=_;rw[M.bind_ok e,M.bind_ok e2];rfl
end
theorem zz2(e:h[n]?=.(l (stD l))):fIn neg (.int x) (.ref n) h=.ok (.bl (decide (x∈l) != neg)) h:=by
 have g:getL n h=.ok (stD l) h:=by unfold getL;rw[e]
 unfold fIn seqD;rw[M.bind_ok g,z6X,zh5];rfl
theorem J6:(h++[o])[h.length]?=some o:=by simp
theorem z8y{o':O}:(h++[o]).set h.length o'=h++[o']:=by simp
theorem zh4(hl:S.length<64)(e:h[i]?=.(l (stD S))):z0f [.ref i] h=.ok (.ref h.length) (h++[.lst (stD (x9 S))]):=by
 have fs:z0f [.ref i]=(do
  let xs <- getL i
  if xs.length<64 then (match z42 xs with
   | some ss=>newL ((Y7 ss).map .str)
   | none=>(match z4G xs with
    | some ns=>newL ((sortI ns).map .int)
    | none=>bad)) else bad):=rfl
 have g:getL i h=.ok (stD S) h:=by unfold getL;rw[e]
 cases S with
 | nil=>
  rw[fs,M.bind_ok g,if_pos (by rw[Z9];exact hl)];have e1:z42 (stD [])=some []:=rfl;have e2:(Y7 []).map D.str=stD (x9 []):=by
   have a:Y7 []=[]:=K2e.mp (by rw[z3n];rfl);have b:x9 []=[]:=K2e.mp (by rw[z1k];rfl);rw[a,b];rfl
  rw[e1];dsimp only;rw[e2];unfold newL;rw[if_pos (by rw[Z9,z1k];unfold sizeLine;simp)]
 | cons a S=>
  have sn:z42 (stD (a::S))=none:=rfl;rw[fs,M.bind_ok g,if_pos (by rw[Z9];exact hl),sn,z4c];dsimp only;rw[z4H];unfold newL;rw[if_pos (by rw[Z9,z1k];unfold sizeLine;omega)]
theorem cv_h(e:me γ h=.ok (.bl b) h1):cVal me γ h=.ok b h1:=by
 unfold cVal;rw[M.bind_ok e];rfl
theorem cn_h(e:kb γ h=.ok b h1):cNot kb γ h=.ok (!b) h1:=by
 unfold cNot;rw[M.bind_ok e];rfl
theorem Z2(e:γ[a]?=some (some d)):eVar a γ h=.ok d h:=by unfold eVar;rw[e];rfl
theorem z2K(e:me γ h=.ok (.ref i) h)(q:h[i]?=.(l xs)):z0p me γ h=.ok (.lst i xs) h:=by
 have g:getL i h=.ok xs h:=by unfold getL;rw[q]
 unfold z0p;rw[M.bind_ok e];dsimp only;rw[M.bind_ok g];rfl
theorem z1v(e:me γ h=.ok (.tup xs) h1):z0o me γ h=.ok (.con xs) h1:=by
 unfold z0o;rw[M.bind_ok e];rfl
theorem zN0(e:me γ h=.ok (.ref i) h)(q:h[i]?=.(l xs)):orE (z0o me) (z0p me) γ h=.ok (.lst i xs) h:=by
 rw[or_r]
 ·exact z2K e q
 ·unfold z0o;rw[M.bind_ok e];rfl
theorem Z0i(e:me γ h=.ok (.tup xs) h1):orE (z0o me) (z0p me) γ h=.ok (.con xs) h1:=or_l (z1v e)
theorem z25{cap:List (Option Nat)}{g:D->G->M G}(p:Nat->Bool)(f:Nat->D)(hi:mi γ h=.ok src h)(hs:src.items=stD l)(hg:∀j,src.good (h++j))(hl:l.length<=1000000)
 (hd:∀x∈l,∃γ1,(∀h,g (.int x) (capG cap γ) h=.ok γ1 h)/\(∀j,kb γ1 (h++j)=.ok (p x) (h++j))/\(p x=true->∀j,me γ1 (h++j)=.ok (f x) (h++j))):z00 cap mi g kb me γ h=.ok (.ref .(h)) (h++[.lst ((l.filter p).map f)]):=by
 refine(z2U (src:=src) (λd=>match d with|.int t=>p t.toNat|_=>false) (λd=>match d with|.int t=>f t.toNat|_=>.non) hi hg (by rw[hs,Z9];exact hl) λd hd'=>?_).trans ?_
 ·rw[hs]at hd';obtain⟨x,hx,rfl⟩:=K1a.mp hd';exact hd x hx
 ·rw[hs];unfold stD;rw[K3w,K1q];rfl
theorem zY7(st:List .(p))(mk:List (List Str)):J2 n .(a)=true:=by
 unfold maD stsD mksD;simp only[J2,k7,K5l,K0e];exact⟨y6 λa=>z0K a,y6 λa=>by simp only[J2];exact z0z _⟩
theorem z9P(mk:List (List Str)):(mksD mk).length=mk.length:=by unfold mksD;simp
theorem z7Z{h2:AH}{x y:D}(e1:ma γ h=.ok x h1)(e2':mb γ h1=.ok y h2):eTup (z7 ma (z7 mb aNil)) γ h=.ok (.tup [x,y]) h2:=by
 have e3:z7 ma (z7 mb aNil) γ h=.ok [x,y] h2:=ac_h e1 (ac_h e2' rfl);unfold eTup;rw[M.bind_ok e3];rfl
theorem z7I(n:Nat):J9 n=stD (K0b n):=rfl
theorem zx3{f:List D->Option (D×List D)}(e:h[n]?=.(l xs))(ef:f xs=some (d,ys))(l:ys.length<=sizeLine):updL n f h=.ok d (h.set n (.lst ys)):=by
 unfold updL;rw[e];dsimp only;rw[ef];dsimp only;rw[if_pos l]
theorem zj4{x:D}(e:seqD x h=.ok (stD l) h)(hl:l.length<=2000):z1H [x] h=.ok (.ref h.length) (h++[.set (kN (dedN l))]):=by
 unfold z1H;dsimp only;rw[M.bind_ok e,z7a];dsimp only;rw[if_pos (by rw[zb8];omega),zv1];rfl
theorem z9H(e:h[i]?=some (.set (kN l)))(hl:l.length<64):z0Q [.ref i] h=.ok (.ref h.length) (h++[.lst (stD (x9 l))]):=by
 unfold z0Q;dsimp only;have g:getS i h=.ok (kN l) h:=by unfold getS;rw[e]
 rw[M.bind_ok g,z7v];dsimp only;rw[if_pos (by unfold zN;rw[K0c];omega),z4H];unfold newL;rw[if_pos (by rw[Z9,z1k];unfold sizeLine;omega)]
theorem Z0y{tup:Bool}(e:ma γ h=.ok (.int (n:Nat)) h1)(hn:n<=1000000):eRng tup ma γ h=(if tup then pure (.tup (J9 n)) else newL (J9 n)) h1:=by
 unfold eRng;rw[M.bind_ok e];have l:n<=sizeLine:=K0h hn .(1);dsimp only;rw[if_pos (by rw[K0u,decide_eq_true l,decide_eq_true (show -(2 ^ 62)<=(n:Int) by omega),decide_eq_true (show (n:Int)<2 ^ 62 by omega)];rfl),K0u]
theorem zM8{Q:Out->AH->Prop}(J:D->AH->Prop)(z:W (ma γ) h J)(f:∀d h1,J d h1->∃γ',g d γ=pure γ'/\W (mt γ') h1 Q):W (z9 (sAsg ma g) mt γ) h Q:=by
 rw[w_cons];unfold sAsg;rw[Z4];refine z.mono λd h1 q=>?_;obtain⟨γ',e,w⟩:=f d h1 q;rw[e,z08,W_pure];exact w
def rowAt(row:List Nat)(o:Nat):Nat:=(row[o]?).getD 0
theorem zt9{l:List .(p)}(h:i<l.length):l[i]?=some (nx l i):=by unfold nx;rw[K8 h];rfl
def led(st:List .(p))(row:List Nat)(x:Nat):List Nat:=setN ((nx st x).map (rowAt row))
section
variable{es:List Expr}{te:TE}{t:TA}
def z48(n:Nat):M D:=updL n λxs=>some (.non,xs.reverse)
theorem z9q{o:Expr}(ho:SE X EX o mo)(hbase:K4a o "reverse" X.env (eval o X.env)=eval o X.env:=by rfl)(hline:(apos.endLine==cpos.line)=true:=by rfl):
 SE X EX (.Call (.Attribute o "reverse" apos) [] [] cpos) (eM0 z48 mo):=
 ⟨PE.imp (zv8 K3g PySem.F.slot_list_reverse PySem.F.type_list_reverse z9g ho.h hbase hline) (zZ3 λρ h H n q Q r hq fin=>by
  obtain⟨xs,d,ys,vs,g1,g2,g3,g4,g5⟩:=z2A r hq fin;cases g1;exact⟨q,vs,rfl,rfl,g3,g5 _ _ .(s) (RDs.reverse g4)⟩)⟩
end
def zG7(a:Int)(n:Nat):List D:=(K0b n).map λ(k:Nat)=>.int (a+k)
def okR(i j:Int):Bool:=decide (-(2 ^ 62)<=i)&&decide (i<2 ^ 62)&&(decide (-(2 ^ 62)<=j)&&decide (j<2 ^ 62))
def z4p(ma mb:G->M D):G->M Src:=λγ=>do
 let x <- ma γ;let y <- mb γ
 match x,y with
 | .int i,.int j=>if okR i j=true then pure (.con (zG7 i (j - i).toNat)) else bad
 | _,_=>bad
theorem zL8{J:It}{f:Nat->D}{g:Nat->V}(hg:∀i H,J.go i H↔i<n)(hy:∀i H x H',J.yld i H x H'->H'=H/\x=g i)(hs:∀i H,n<=i->J.stop i H)(hr:∀ρ H i,RD K ρ H (f i) (g i)):JOK K (.con ((K0b n).map f)) ρ H J:=λi ρ2 h4 H2 p2 e2 r2 _=>⟨λd hd=>by
 have hd':((K0b n).map f)[i]?=some d:=hd;rw[K0a]at hd';have hi:i<n:=by
  by_cases hi:i<n
  ·exact hi
  ·rw[K1j (by simpa using hi)]at hd';cases hd'
 rw[K35 hi]at hd';cases hd';refine⟨(hg i H2).mpr hi,λy H3 z=>?_⟩;obtain⟨z1,z2⟩:=hy i H2 y H3 z;subst z1;subst z2;exact⟨hr _ _ _,r2,Ext.refl _ _⟩,λhi=>by
 have hi':((K0b n).map f).length=i:=hi;rw[K0c,K1f]at hi';exact hs i H2 (K6b hi')⟩
section
variable{a b c tg:Expr}{p2:Pos}{mc:G->M D}
theorem za9(hg:Gl X "range")(hm:X.mg "range" = none)(ha:SE X EX a ma)(hb:SE X EX b mb)(hs:K0k [a,b] X.env=[(false,eval a X.env),(false,eval b X.env)]:=by rfl)(hs2:K0k [b] X.env=[(false,eval b X.env)]:=by rfl):SI X EX tg (.Call (.Name "range" p) [a,b] [] pos) (z4p ma mb):=
 ⟨PI.imp (ze6 hg hm (z0N ha.h (z0N hb.h z2l hs2) (by rw[hs,hs2])) hs hs2) λσ H R ⟨ρ,γ,h,rel,fin⟩=>⟨ρ,γ,h,rel,(Fin.bind fin).mono λx ρ1 h1 H1 p1 e1 r1 f1 v rv=>⟨ρ1,γ,h1,⟨rel.g.mono p1 e1,r1⟩,(Fin.bind f1).mono λy ρ2 h2 H2 p2 e2 r2 f2 u ru=>by
  cases x<;>first|exact(show False from f2).elim|skip
  rename_i i;cases y<;>first|exact(show False from f2).elim|skip
  rename_i j;simp only[RD]at rv ru;subst rv;subst ru;dsimp only at f2;split at f2
  ·rename_i c;unfold okR at c;simp only[K0e,decide_eq_true_eq]at c;exact⟨i,j,rfl,⟨c.1.1,c.1.2,c.2.1,c.2.2⟩,f2 ρ2 H2 .(c) .(b) r2 _ (zL8 (g:=λk=>.int (i+k)) (λ_ _=>Z3k) (λ_ _ _ _ z=>z) (λ_ _ z=>z) λ_ _ _=>by simp[RD])⟩
  ·exact f2.elim⟩⟩⟩
end
def cnt(st:List .(p)):Nat->Nat->Nat
 | 0,_=>1
 | n+1,x=>((nx st x).map (cnt st n)).sum
def wk(st:List .(p)):Nat->Nat->List .(p)
 | 0,x=>[[x]]
 | n+1,x=>(nx st x).flatMap λy=>(wk st n y).map (x::·)
def Z0l(w:List Nat):Nat:=w.getLast?.getD 0
def ext(st:List .(p))(left:Nat)(w:List Nat):List .(p):=((nx st (Z0l w)).filter λy=>decide (0<cnt st left y)).map λy=>w++[y]
open Classical in
theorem z3l{cap:List (Option Nat)}{g:D->G->M G}{kb:G->M Bool}{me:G->M D}{h1:AH}{l:List ι}(enc:ι->D)(inj:∀x y,enc x=enc y->x=y)(p:ι->Bool)(f:ι->D)(hi:mi γ h=.ok src h)(hs:src.items=l.map enc)(hg:∀j,src.good (h++j))(hl:l.length<=1000000)
 (hd:∀x∈l,∃γ1,(∀h,g (enc x) (capG cap γ) h=.ok γ1 h)/\(∀j,kb γ1 (h++j)=.ok (p x) (h++j))/\(p x=true->∀j,me γ1 (h++j)=.ok (f x) (h++j))):z00 cap mi g kb me γ h=.ok (.ref .(h)) (h++[.lst ((l.filter p).map f)]):=by
 let p':D->Bool:=λd=>if e:∃x,enc x=d then p e.choose else false
 let f':D->D:=λd=>if e:∃x,enc x=d then f e.choose else .non
 have ep:∀x,p' (enc x)=p x:=λx=>by
  have e:∃y,enc y=enc x:=⟨x,rfl⟩;show (if e:∃y,enc y=enc x then p e.choose else false)=_;rw[dif_pos e,inj _ _ e.choose_spec]
 have ef:∀x,f' (enc x)=f x:=λx=>by
  have e:∃y,enc y=enc x:=⟨x,rfl⟩;show (if e:∃y,enc y=enc x then f e.choose else .non)=_;rw[dif_pos e,inj _ _ e.choose_spec]
 refine(z2U (src:=src) p' f' hi hg (by rw[hs,K0c];exact hl) λd hd'=>?_).trans ?_
 ·rw[hs]at hd';obtain⟨x,hx,rfl⟩:=K1a.mp hd';rw[ep,ef];exact hd x hx
 ·rw[hs,K3w,K1q];rw[show (p' ∘ enc)=p from funext ep,show (f' ∘ enc)=f from funext ef]
theorem z7U{ι:Type}{g:D->G->M G}{mi:G->M Src}{g1:D->G->M G}{k:G->M Bool}{me:G->M D}{γ:G}(enc:ι->D)(ls:ι->List Nat)(p:ι->Nat->Bool)(f:ι->Nat->D)(src:Src)(h0:AH)(hg:∀j,src.good (h0++j)):∀(items:List ι) (acc:List D),acc.length+(items.flatMap ls).length<=1000000 ->
 (∀x∈items,∃γ1 s1,(∀h,g (enc x) γ h=.ok γ1 h)/\(∀j,mi γ1 (h0++j)=.ok s1 (h0++j))/\s1.items=stD (ls x)/\(∀j,s1.good (h0++j))/\∀y∈ls x,∃γ2,(∀h,g1 (.int y) γ1 h=.ok γ2 h)/\(∀j,k γ2 (h0++j)=.ok (p x y) (h0++j))/\(p x y=true->∀j,me γ2 (h0++j)=.ok (f x y) (h0++j))) ->
 z3T src g mi g1 k me h0.length γ (items.map enc) (h0++[.lst acc])=.ok () (h0++[.lst (acc++items.flatMap λx=>((ls x).filter (p x)).map (f x))])
 | [],acc,hl,hd=>by unfold z3T Src.chk;simp[hg]
 | x::r,acc,hl,hd=>by
  obtain⟨γ1,s1,e1,e2,e3,e4,e5⟩:=hd x K18;rw[K0p];unfold z3T;have chk:src.chk (h0++[.lst acc])=.ok () (h0++[.lst acc]):=by unfold Src.chk;simp[hg]
  rw[K80,K3]at hl;rw[M.bind_ok chk,M.bind_ok (e1 _),M.bind_ok (e2 _)];have q:=z45 (g:=g1) (k:=k) (me:=me) (γ:=γ1) (p:=λd=>match d with|.int t=>p x t.toNat|_=>false) (f:=λd=>match d with|.int t=>f x t.toNat|_=>.non) s1 h0 e4 s1.items acc (by rw[e3,Z9];omega) λd hd'=>by
   rw[e3]at hd';obtain⟨y,hy,rfl⟩:=K1a.mp hd';exact e5 y hy
  rw[M.bind_ok q];have ee:(s1.items.filter (λd=>match d with|.int t=>p x t.toNat|_=>false)).map (λd=>match d with|.int t=>f x t.toNat|_=>.non)=((ls x).filter (p x)).map (f x):=by
   rw[e3];unfold stD;rw[K3w,K1q];rfl
  rw[ee,z7U enc ls p f src h0 hg r _ (by
   have:=K0w (p x) (ls x);rw[K3,K0c];omega) λy hy=>hd y (K14 _ hy),K80,K7]
theorem zJ0{cap:List (Option Nat)}{mi1:G->M Src}{g g1:D->G->M G}{k:G->M Bool}{me:G->M D}{l:List ι}(enc:ι->D)(ls:ι->List Nat)(p:ι->Nat->Bool)(f:ι->Nat->D)(hi:mi γ h=.ok src h)(hs:src.items=l.map enc)(hg:∀j,src.good (h++j))(hl:(l.flatMap ls).length<=1000000)
 (hd:∀x∈l,∃γ1 s1,(∀h,g (enc x) (capG cap γ) h=.ok γ1 h)/\(∀j,mi1 γ1 (h++j)=.ok s1 (h++j))/\s1.items=stD (ls x)/\(∀j,s1.good (h++j))/\∀y∈ls x,∃γ2,(∀h,g1 (.int y) γ1 h=.ok γ2 h)/\(∀j,k γ2 (h++j)=.ok (p x y) (h++j))/\(p x y=true->∀j,me γ2 (h++j)=.ok (f x y) (h++j))) :
 z6q cap mi g mi1 g1 k me γ h=.ok (.ref .(h)) (h++[.lst (l.flatMap λx=>((ls x).filter (p x)).map (f x))]):=by
 have e:=z7U (g:=g) (mi:=mi1) (g1:=g1) (k:=k) (me:=me) (γ:=capG cap γ) enc ls p f src h hg l [] (by simpa using hl) hd;unfold z6q;rw[M.bind_ok hi];show ((λh=>.ok .(h) (h++[.lst []]):M Nat) >>= λn0=>z3T src g mi1 g1 k me n0 (capG cap γ) src.items >>= λ_=>pure (D.ref n0)) h=_;show (z3T src g mi1 g1 k me .(h) (capG cap γ) src.items >>= λ_=>(pure (D.ref .(h)):M D)) (h++[.lst []])=_;rw[hs,M.bind_ok e];rfl
end FT
namespace L2
open PySem.AutoSeq1 (wpAny_loadPart')
theorem z9v(l:Addr)(items:Array Value)(n:Nat)(b:Addr)(items2:Array Value)(n2:Nat)(dd:Option Addr)(sl:Array (Option Value))(h1:¬(!items.isEmpty&&K2p (items.size+items2.size))=true)(h2:items.size<=sizeLine)(h3:items.size+items2.size<=sizeLine+1) :
 Meets (Builtin.«list.extend» ⟨[.ref l,.ref b],[]⟩) (λA R s=>s.heap.get? l=some { cls:=.type "list",data:=.seq items n }/\s.heap.get? b=some { cls:=.type "tuple",dict:=dd,data:=.seq items2 n2,slots:=sl }/\R (.ok (.ret .none)) { s with heap:=s.heap.update l (K48 λx=>x++items2) }):=
 .of_wp λprog w A R s h=>by
  obtain⟨hp,g,d,tk,os⟩:=s;obtain⟨hl,hb,h⟩:=h;have hT:K5i ⟨hp,g,d,tk,os⟩ (.ref b) "tuple":=⟨_,hb,rfl⟩;have hT2:K5i ⟨hp,g,d,tk,os⟩ (.ref l) "list":=⟨_,hl,rfl⟩
  wp_walk using K1l hl,K1l hb,K58 hT,K58 hT2
  have e:(K48 (λx=>x++items2) { cls:=K46 "list",data:=Z3a items n }).data.pastItsLine=none:=by
   unfold Data.pastItsLine K48;simp;omega
  rw[e];exact K4 (K4 ⟨_,rfl,h⟩)
section
variable{X:Cx}
def Z0t(K:K5):V->List V->Hp->VK->Prop:=λx vs H Q=>∃l b xs zs,x=.ref l/\vs=[.ref b]/\H l=.(l xs)/\SqT K H b zs/\xs.length+zs.length<=sizeLine/\Q .non (upd H l (.lst (xs++zs)))
theorem zH2:MtM X "list.extend" (λx vs H Q=>zg6 x vs H Q\/Z0t X.K x vs H Q):=by
 intro pins s σ H x vs v us Q I rx rv h;rcases h with h|h
 ·exact zf2 pins s σ H x vs v us Q I rx rv h
 obtain⟨l,b,xs,zs,rfl,rfl,hH,hB,hz,q⟩:=h;cases rx;obtain⟨u,rfl,ru⟩:=rv.one;cases ru;obtain⟨z,its,n,r,hl,e⟩:=I.lstM hH;obtain⟨its2,r2,p2,z2⟩:=I.tuple hB;have hl2:=r2.length;obtain⟨⟨oc,od,odt,osl⟩,ho,hc,n2,hd⟩:=p2;dsimp only at hc hd;subst hc hd;have hsz:its.toArray.size+its2.toArray.size<=sizeLine:=by rw[K07,K07];omega
 have hlong:¬ (!its.toArray.isEmpty&&K2p (its.toArray.size+its2.toArray.size))=true:=by
  rw[z5J hsz,K7e];exact K0m
 refine K3r Z1w ⟨_,e,rfl⟩ Z1e (K9o _ _)
  (z9v l its.toArray n b its2.toArray n2 _ _ hlong (by rw[K07];omega) .(0)) ⟨e,ho,?_⟩
 refine⟨.non,_,I.lset (its':=its++its2) hH e .(e) (r.append r2) ?_,rfl,q⟩;rw[K3];omega
end
end L2
namespace FT
variable{me:G->M D}{mt body:G->M Out}{γ:G}{h:AH}{i:Nat}{xs ys:List D}{Q:Out->AH->Prop}{ifs:List Expr}{cap:List (Option Nat)}{g:D->G->M G}{ρ0:List Addr}
def z1Q(n:Nat)(y:D):M D:=match y with
 | .tup ys=>updL n λxs=>some (.non,xs++ys)
 | .ref m=>do
  let ys <- getL m
  updL n λxs=>some (.non,xs++ys)
 | _=>bad
section
variable{X:Cx}{EX:XX}{a o:Expr}{cpos apos:Pos}{ma mo:G->M D}
theorem z35(ho:SE X EX o mo)(ha:SE X EX a ma)
 (hbase:K4a o "extend" X.env (eval o X.env)=eval o X.env:=by rfl)
 (hfew:((backTo cpos (K0k [a] X.env)).all (λx=>!x.1)&&(K4s cpos (K37 [] X.env)).all (λx=>x.1.isSome)
 &&decide (([a]:List Expr).length+([]:List K5b).length+(if ([]:List K5b).isEmpty then 0 else 1)<30))=true:=by rfl)
 (hline:(apos.endLine==cpos.line)=true:=by rfl) (hs:K0k [a] X.env=[(false,eval a X.env)]:=by rfl) :
 SE X EX (.Call (.Attribute o "extend" apos) [a] [] cpos) (eM1 z1Q mo ma):=
 ⟨PE.imp (zs2 K3g PySem.F.slot_list_extend PySem.F.type_list_extend zH2 ho.h (z0N ha.h z2l hs) hbase hfew hline hs rfl) (zH6 λρ h H n q y u Q r hq ru fin=>by
  cases y<;>first|exact(show False from fin).elim|skip
  ·rename_i zs;obtain⟨xs,d,ys,vs,g1,g2,g3,g4,g5⟩:=z2A r hq (show FE X.K EX ρ H Q (updL n (λxs=>some (.non,xs++zs)) h) from fin);cases g1;simp only[RD]at ru;obtain⟨b,us,rfl,k2,k3⟩:=ru;have hl:=g4.length;have hl2:=k3.length;rw[K3]at g2;exact .inr ⟨q,b,vs,us,rfl,rfl,g3,k2,by omega,g5 _ _ .(s) (g4.append k3)⟩
  ·rename_i m;simp only[RD]at ru;obtain⟨b,rfl,hb⟩:=ru;have f2:Fin X.K EX ρ H _ _:=Fin.bind (show Fin X.K EX ρ H (λd ρ' _ H'=>∀v,RD X.K ρ' H' d v->Q v H') ((getL m >>= λys=>updL n λxs=>some (.non,xs++ys)) h) from fin);cases e3:getL m h with
   | bad=>rw[e3]at f2;exact f2.elim
   | err z hz=>exact(z14 e3).elim
   | ok zs h3=>
    obtain⟨rfl,q1⟩:=z12 e3;rw[e3]at f2;obtain⟨a1,n1,us,o1,d1⟩:=r.at q1;rw[hb]at n1;cases n1;obtain⟨xs,d,ys,vs,g1,g2,g3,g4,g5⟩:=z2A r hq (f2 ρ H .(c) .(b) r);cases g1;have hl:=g4.length;have hl2:=d1.length;rw[K3]at g2;exact .inl ⟨q,_,vs,us,rfl,rfl,g3,o1,by omega,g5 _ _ .(s) (g4.append d1)⟩)⟩
end
theorem zX7{h1:AH}{a:Nat}{v:D}(ea:γ[a]?=some (.(r i)))(e:h[i]?=.(l xs))(ev:me γ h=.ok v h1)(e1:h1[i]?=.(l xs))(hl:xs.length<1000000)(z:W (mt γ) (h1.set i (.lst (xs++[v]))) Q):W (z9 (z04 (eM1 y0 (eVar a) me)) mt γ) h Q:=by
 refine z39 ?_;have e2':eVar a γ=pure (.ref i):=by unfold eVar;rw[ea]
 unfold eM1;rw[e2',z08,Z4];refine W_of (z2o e) ?_;rw[Z4];exact W_of ev (W_of (z3e e1 hl) z)
section
variable{ka kb:G->M Bool}{r:Res Bool}
theorem z9A(e1:ka γ h=.ok false h)(e2':kb γ h=r):cOr ka kb γ h=r:=by
 unfold cOr;rw[M.bind_ok e1,if_neg .(1)];exact e2'
end
theorem z61(hl:xs.length<=1000000):newL xs h=.ok (.ref h.length) (h++[.lst xs]):=by
 unfold newL;rw[if_pos (K0h hl .(1))]
theorem Z0b{y:D}(e:h[i]?=.(l xs))(hy:y=.tup ys\/∃j,y=.ref j/\h[j]?=.(l ys))(hl:xs.length+ys.length<=1000000):z1Q i y h=.ok .non (h.set i (.lst (xs++ys))):=by
 have l:(xs++ys).length<=sizeLine:=K0h (by rw[K3];exact hl) (show 1000000<=sizeLine by decide);rcases hy with rfl|⟨j,rfl,ej⟩
 ·unfold z1Q;exact zx3 e rfl l
 ·have g:getL j h=.ok ys h:=by unfold getL;rw[ej]
  unfold z1Q;dsimp only;rw[M.bind_ok g];exact zx3 e rfl l
theorem zk9{h1:AH}{a:Nat}{y:D}(ea:γ[a]?=some (.(r i)))(e:h[i]?=.(l xs))(ev:me γ h=.ok y h1)(e1:h1[i]?=.(l xs))(hy:y=.tup ys\/∃j,y=.ref j/\h1[j]?=.(l ys))(hl:xs.length+ys.length<=1000000)(z:W (mt γ) (h1.set i (.lst (xs++ys))) Q):W (z9 (z04 (eM1 z1Q (eVar a) me)) mt γ) h Q:=by
 refine z39 ?_;have e2:eVar a γ=pure (.ref i):=by unfold eVar;rw[ea]
 unfold eM1;rw[e2,z08,Z4];refine W_of (z2o e) ?_;rw[Z4];exact W_of ev (W_of (Z0b e1 hy hl) z)
theorem zA9{k:G->M Bool}{body:G->M Out}{mt:G->M Out}{n m:Nat}{Q:Out->AH->Prop}(I:Nat->G->AH->Prop)(hm:m<n)(i0:I m γ h)
 (z:∀m γ h,I m γ h->∃b,k γ h=.ok b h/\if b=true then ∃m',m=m'+1/\W (body γ) h (forW (λγ h=>∃i,i<=m'/\I i γ h) λ_ _=>False) else W (mt γ) h Q):W (z9 (z1C k body n) mt γ) h Q:=by
 rw[w_cons];refine(z1m I (λγ h=>W (mt γ) h Q) (λ_ _=>False) (λm γ h q=>?_) n m γ h hm i0).mono λo h1 q=>?_
 ·obtain⟨b,e,q1⟩:=z m γ h q;exact W_of e q1
 ·cases o with
  | nx γ=>exact q
  | rt d=>exact q.elim
  | bk d=>exact q.elim
  | ct d=>exact q.elim
def z6y(n:Nat)(i v:D):M Unit:=z5M (.ref n) i v
def z1c(src:Src)(g:D->G->M G)(k:G->M Bool)(me mv:G->M D)(n0:Nat)(γ:G):List D->M Unit
 | []=>do
  let _ <- src.chk
  pure ()
 | d::r=>do
  let _ <- src.chk;let γ1 <- g d γ;let t <- k γ1
  if t then do
   let y <- me γ1;let v <- mv γ1;let _ <- z6y n0 y v
   z1c src g k me mv n0 γ r
  else z1c src g k me mv n0 γ r
def z3Y(cap:List (Option Nat))(mi:G->M Src)(g:D->G->M G)(k:G->M Bool)(me mv:G->M D):G->M D:=λγ=>do
 let src <- mi γ;let n0 <- (λh=>.ok .(h) (h++[.dK []]):M Nat);let _ <- z1c src g k me mv n0 (capG cap γ) src.items
 pure (.ref n0)
section
variable{X:Cx}{EX:XX}{elt val tg iter c:Expr}{sc:Scope}{pos:Pos}{N':List Str}{own:List Nat}{mi:G->M Src}{k kr:G->M Bool}{mv:G->M D}
theorem zY8{σ0:L2.St}{n0:Nat}{Dd:Addr}(hD:ρ0[n0]?=some Dd):HB X EX own σ0 ρ0 (λγ1 K=>do let y <- me γ1;let v <- mv γ1;let _ <- z6y n0 y v;K) (bPut (tE X.K EX me) (tE X.K EX mv) Dd):=λ{σ γ1 ρ h H P K Z} p0 _ rg rh fin hz=>by
 refine⟨ρ,γ1,h,⟨rg,rh⟩,(Fin.bind fin).mono λyd ρ5 h5 H5 p5 e5 r5 f5 y ry=>⟨ρ5,γ1,h5,⟨rg.mono p5 e5,r5⟩,(Fin.bind f5).mono λd ρ6 h6 H6 p6 e6 r6 f6 v rv=>?_⟩⟩;have hq:ρ6[n0]?=some Dd:=((p0.trans p5).trans p6) _ _ hD;have f7:=Fin.bind f6;unfold z6y z5M at f7;dsimp only at f7;cases ek:keyD yd with
 | none=>rw[ek]at f7;exact f7.elim
 | some kk=>
  rw[ek]at f7;dsimp only at f7;have hy:=zp8 ek ry;cases e7:h6[n0]? with
  | none=>rw[e7]at f7;exact f7.elim
  | some ob=>
   cases ob<;>first|(rw[e7]at f7;exact f7.elim)|skip
   rename_i kvs;rw[e7]at f7;dsimp only at f7;split at f7
   ·rename_i hl;obtain⟨a1,n1,vs,o1,d1⟩:=r6.at e7;rw[hq]at n1;cases n1;have ext2:Ext X.K H6 (upd H6 Dd (.dK (L2.putK vs kk v))):=Ext.upd (.inr (r6.tracked hq e7));have r7:RH X.K ρ6 (h6.set n0 (.dK (ptD kvs kk d))) (upd H6 Dd (.dK (L2.putK vs kk v))):=r6.setO e7 hq ⟨_,Y9,(d1.put kk rv).mono .(c) ext2⟩;have hl2:=d1.len;exact⟨kk,vs,hy,o1,by omega,hz ρ6 _ _ (p5.trans p6) ((e5.trans e6).trans ext2) r7 (f7 ρ6 _ .(c) ext2 r7)⟩
   ·exact f7.elim
theorem z8v(he:∀s H fp xe,SE .(7) EX elt me)(hv:∀s H fp xe,SE .(7) EX val mv):CmA X EX (.DictComp elt val [⟨tg,iter,ifs,0⟩] sc pos) sc tg iter ifs N' cap own mi g k (.dK []) (λn0 γ1 K=>do let y <- me γ1;let v <- mv γ1;let _ <- z6y n0 y v;K) (λsrc n0 γ=>z1c src g k me mv n0 γ):=
 ⟨⟨_,_,_,_,bPut (tE X.K EX me) (tE X.K EX mv),zA1,λρ H Dd=>⟨[],Y9,.nil⟩,λD s H fp xe=>zE4 (he s H fp xe).h (hv s H fp xe).h,λ_ hD=>zY8 hD⟩,λ_ _ _=>rfl,λ_ _ _ _ _=>rfl⟩
theorem z8F(hc:X.calm=true)(S:CS X sc N' cap)(hi:SI X EX tg iter mi)(hg:∀s H fp xe,SGk .(7) EX tg own g)(ht:∀s H fp xe,SCs .(7) EX ifs k)
 (he:∀s H fp xe,SE .(7) EX elt me) (hv:∀s H fp xe,SE .(7) EX val mv) (hown:∀j∈own,cap[j]?=some none:=by decide) (hs:∀x,K1b iter X.env x=pure x:=by intro _;rfl):SE X EX (.DictComp elt val [⟨tg,iter,ifs,0⟩] sc pos) (z3Y cap mi g k me mv):=
 zD7 (z8v he hv) hc S hi hg ht hown hs
def z7D(i:Nat)(cap:List (Option Nat))(mi:G->M Src)(g:D->G->M G)(k:G->M Bool)(me mv:G->M D):G->M Out:=sAsg (z3Y cap mi g k me mv) (gN i)
theorem zI2(i:Nat){y:Str}{py spos:Pos}(hc:X.calm=true)(S:CS X sc N' cap)(hi:SI X EX tg iter mi)(hg:∀s H fp xe,SGk .(7) EX tg own g)(ht:∀s H fp xe,SCs .(7) EX ifs k)
 (he:∀s H fp xe,SE .(7) EX elt me) (hv:∀s H fp xe,SE .(7) EX val mv) (hN:X.N.Nodup) (hy:X.N[i]?=some y:=by rfl) (hl:X.env.scope.names.lookup y=some .local:=by rfl) (hown:∀j∈own,cap[j]?=some none:=by decide)
 (hsw:K2n (.DictComp elt val [⟨tg,iter,ifs,0⟩] sc pos) (some (.Name y py)) spos.line X.env=pure true:=by rfl) (hs:∀x,K1b iter X.env x=pure x:=by intro _;rfl) :
 S1 X EX (.Assign [.Name y py] (.DictComp elt val [⟨tg,iter,ifs,0⟩] sc pos) spos) (z7D i cap mi g k me mv):=
 s_cm i (z8v he hv) hc S hi hg ht hown hN hy hl hsw hs
end
end FT
namespace L2
variable{pins:List (Addr×Obj)}{vs:List (Key×V)}{K:K5}{tg:Expr}
theorem Z13{k:Key}{u:Value}(h:z1N k u=true):RelV (kV k) u:=by
 rcases y8 h with ⟨i,t,rfl,rfl⟩|⟨x,t,rfl,rfl⟩
 ·exact⟨t,rfl⟩
 ·exact⟨t,rfl⟩
theorem KV.get:∀{kvs:List (Key×V)}{vs:List (Key×Value)},KV kvs vs->∀{i:Nat}{k:Key}{x:V},kvs[i]?=some (k,x)->∃u,vs[i]?=some (k,u)
 | _,_,.nil,i,k,x,e=>by simp at e
 | p::_,q::_,.cons a b,0,k,x,e=>by
  have e':p=(k,x):=by simpa using e
  subst e';obtain⟨a1,_⟩:=a;refine⟨q.2,?_⟩;show some q=_;rw[show k=q.1 from a1]
 | _::_,_::_,.cons a b,i+1,k,x,e=>KV.get b (by simpa using e)
def Itk(a:Addr)(ob:Obj)(n:Nat):It:=
 ⟨λi H=>∃vs k x,H a=some (.frz ob (.dK vs))/\vs.length=n/\vs[i]?=some (k,x),λi H y H'=>H'=H/\∀vs,H a=some (.frz ob (.dK vs))->∃k x,vs[i]?=some (k,x)/\y=kV k,λi H=>i=n/\∃vs,H a=some (.frz ob (.dK vs))/\vs.length=n⟩
theorem zx1{X:Cx}{σ:St}{H:Hp}{s:Shared}{a:Addr}{ob:Obj}{es:Array DictEntry}{ep:Nat}(I:Inv X pins σ H s)(e:H a=some (.frz ob (.dK vs)))(hob:ob.data=.dict es ep):
 vs.length<=sizeLine/\∃us,KV vs us/\s.heap.DictAt (Y0 X.prog X.w) a us ep:=by
 obtain⟨go,z,hd,us,rel,o,es',ep',ho,r⟩:=(show ObjOk X.prog X.w H s.heap a (.frz ob (.dK vs)) from I.hok a _ e);rw[go]at ho;cases ho;obtain⟨r1,r2,r3⟩:=r;have:ep'=ep:=by rw[hob]at r2;cases r2;rfl
 subst this;exact⟨z,us,rel,ob,es',go,r1,r2,r3⟩
theorem z6C{P:K1i}{w:World}(a it:Addr)(ob:Obj)(n ep:Nat){es:Array DictEntry}(hob:ob.data=.dict es ep):Turn P w K tg (Itk a ob n) [it] it (λi h=>h.IsKeyIter it a i n ep) where
 mem:=by simp
 obj:=λi h st b hb=>by
  have e:b=it:=by simpa using hb
  subst e;obtain⟨o,e,c,d⟩:=st;exact⟨o,e,λv z=>by rw[d]at z;cases z⟩
 keep:=λi h h' st k=>st.at λo e=>k it .(e) o e
 item:=by
  intro X hP hw hK hc i pins s σ H E I hf st hg;subst hP hw hK;obtain⟨vs,k,x,hq,hl,hx⟩:=hg;obtain⟨z,us,rel,dat⟩:=zx1 I hq hob;obtain⟨u,hu⟩:=rel.get hx;have le:=rel.length;have st':s.heap.IsKeyIter it a i us.length ep:=by rw[<- le,hl];exact st
  obtain⟨f0,f1,f2,f3,f4,f5⟩:=hf it .(e);refine wpAny_pyNext_dict_item st' dat hu λkey h' hkey hit' sb=>?_;have I1:Inv X pins σ H { s with heap:=h' }:=I.turned (t':=s.toks) (λb o hb e=>(sb.2 b hb).trans e) f0 f1 f3 f4 f5;have hit2:h'.IsKeyIter it a (i+1) n ep:=by rw[<- hl,le];exact hit'
  obtain⟨o,e,c,d⟩:=id hit2;exact⟨key,rfl,z9S (s:={ s with heap:=h' }) e c d .(1) ⟨kV k,H,I1,Z13 hkey,⟨rfl,λys hy=>by rw[hq]at hy;cases hy;exact⟨k,x,hx,rfl⟩⟩,hit2,λb hb=>(hf b hb).1⟩⟩
 done:=by
  intro X hP hw hK hc i pins s σ H E I hf st hg;subst hP hw hK;obtain⟨hi,vs,hq,hl⟩:=hg;obtain⟨z,us,rel,dat⟩:=zx1 I hq hob;have le:=rel.length;have st':s.heap.IsKeyIter it a i us.length ep:=by rw[<- le,hl];exact st
  obtain⟨f0,f1,f2,f3,f4,f5⟩:=hf it .(e);exact wpAny_pyNext_dict_end (I.ok.hd hc) st' dat (K1j .(0)) λh' eb=>⟨rfl,I.turned (t':=s.toks) (λb o hb e=>eb b o hb e) f0 f1 f3 f4 f5⟩
 self:=λ_ _ _ _ _ st h=>wpAny_pyIter_keyiter st h
section
variable{X:Cx}
def zX8(tl:TE):TI:=λσ H R=>tl σ H λx H1=>∃a,x=.ref a/\((∃vs,H1 a=some (.dK vs)/\∀ob,R (Itk a ob vs.length) (upd H1 a (.frz ob (.dK vs))))\/∃ob vs,H1 a=some (.frz ob (.dK vs))/\R (Itk a ob vs.length) H1)
theorem zC0{l:Expr}{tl:TE}(hl:PE X l tl):PI X tg l (zX8 tl):=by
 intro pins s σ H R I h;refine thn (hl pins s σ H _ I h) λv s1 ⟨x,H1,I1,r1,q1⟩=>?_;obtain⟨a,e,q1⟩:=q1;subst e;cases r1;rcases q1 with ⟨vs,hH,q⟩|⟨ob,vs,hH,q⟩
 ·obtain⟨z,hd,us,rel,dd⟩:=zy8 I1.hok hH;obtain⟨ob,es,ep,ho,r1,r2,r3⟩:=id dd;have dat:s1.heap.DictAt (Y0 X.prog X.w) a us ep:=⟨ob,es,ho,r1,r2,r3⟩;refine wpAny_pyIter_dict hd dat ?_;have le:=rel.length;generalize hp:({ cls:=.type "dict_keyiterator",data:=.fields #[.ref a,.int 0 0,.int us.length 0,.int ep 0] }:Obj)=itO;have I2:Inv X pins σ H1 { s1 with heap:=s1.heap.push itO }:=I1.kept (t':=s1.toks) λb o e=>K9 _ e;have ho2:(s1.heap.push itO).get? a=some ob:=K9 _ ho;have I3:Inv X pins σ (upd H1 a (.frz ob (.dK vs))) { s1 with heap:=s1.heap.push itO }:=z5I (s:={ s1 with heap:=s1.heap.push itO }) (h':=s1.heap.push itO) (t':=s1.toks) I2 (by rw[hH];exact K47) (K3y _ _) ⟨_,ho2⟩ ⟨ho2,z,hd,us,rel,ob,es,ep,ho2,r1,r2,r3⟩;refine⟨.(q),[.(q)],_,_,_,rfl,I3,z6C a _ ob vs.length ep r2,?_,λb hb=>?_,q ob⟩
  ·refine⟨itO,?_,by rw[<- hp],by rw[<- hp,le];rfl⟩;exact K0j _ (by rw[<- hp];rfl)
  ·have e:b=s1.heap.objs.size:=by simpa using hb
   subst e;refine I1.fpOk (K01 _) ?_;rw[Y5 (K30 (K0f ho))];exact I1.hok.fresh (K01 _)
 ·obtain⟨go,z,hd,us,rel,dd⟩:=(show ObjOk X.prog X.w H1 s1.heap a (.frz ob (.dK vs)) from I1.hok a _ hH);obtain⟨ob',es,ep,ho,r1,r2,r3⟩:=id dd;rw[go]at ho;cases ho;have dat:s1.heap.DictAt (Y0 X.prog X.w) a us ep:=⟨ob,es,go,r1,r2,r3⟩;refine wpAny_pyIter_dict hd dat ?_;have le:=rel.length;generalize hp:({ cls:=.type "dict_keyiterator",data:=.fields #[.ref a,.int 0 0,.int us.length 0,.int ep 0] }:Obj)=itO;have I2:Inv X pins σ H1 { s1 with heap:=s1.heap.push itO }:=I1.kept (t':=s1.toks) λb o e=>K9 _ e;refine⟨.(q),[.(q)],_,_,_,rfl,I2,z6C a _ ob vs.length ep r2,?_,λb hb=>?_,q⟩
  ·refine⟨itO,?_,by rw[<- hp],by rw[<- hp,le];rfl⟩;exact K0j _ (by rw[<- hp];rfl)
  ·have e:b=s1.heap.objs.size:=by simpa using hb
   subst e;exact I1.fpOk (K01 _) (I1.hok.fresh (K01 _))
end
end L2
namespace FT
variable{K:K5}{ρ:List Addr}{kvs:List (Key×D)}{vs:List (Key×V)}
def kD:Key->D
 | .inl i=>.int i
 | .inr x=>.str x
theorem zX4{H:Hp}(k:Key):RD K ρ H (kD k) (kV k):=by cases k<;>simp[kD,kV,RD]
def z4l(kvs:List (Key×D)):List D:=kvs.map λkv=>kD kv.1
def iDic(ma:G->M D):G->M Src:=λγ=>do
 let x <- ma γ
 match x with
 | .ref n=>λh=>match h[n]? with
  | some (.dK kvs)=>.ok (.con (z4l kvs)) (h.set n (.dF kvs))
  | some (.dF kvs)=>.ok (.con (z4l kvs)) h
  | _=>.bad
 | _=>bad
theorem RK.get{K:K5}{ρ:List Addr}{H:Hp}:∀{kvs:List (Key×D)}{vs:List (Key×V)},RK K ρ H kvs vs->∀{i:Nat}{d:D},(z4l kvs)[i]?=some d->∃k x,d=kD k/\vs[i]?=some (k,x)
 | _,_,.nil,i,d,e=>by simp[z4l]at e
 | p::_,q::_,.cons a b,0,d,e=>by
  have e':kD p.1=d:=by simpa [z4l] using e
  subst e';exact⟨q.1,q.2,by rw[a.1],rfl⟩
 | _::_,_::_,.cons a b,i+1,d,e=>RK.get b (by simpa [z4l] using e)
theorem z8M{H:Hp}{a:Addr}{ob:Obj}(e:H a=some (.frz ob (.dK vs)))(rk:RK K ρ H kvs vs):JOK K (.con (z4l kvs)) ρ H (Itk a ob vs.length):=λi ρ2 h2 H2 p2 e2 r2 _=>by
 have hq:=e2.d _ _ _ e;refine⟨λd hd=>?_,λhi=>?_⟩
 ·obtain⟨k,x,rfl,g⟩:=RK.get rk hd;refine⟨⟨vs,k,x,hq,rfl,g⟩,λy H3 ⟨z1,z2⟩=>?_⟩;subst z1;obtain⟨k',x',g',rfl⟩:=z2 vs hq;rw[g]at g';cases g';exact⟨zX4 k,r2,Ext.refl _ _⟩
 ·refine⟨?_,vs,hq,rfl⟩;have:(z4l kvs).length=i:=hi;unfold z4l at this;rw[K0c,RK.len rk]at this;exact this.symm
section
variable{X:Cx}{EX:XX}{a tg:Expr}{ma:G->M D}
theorem z9F(ha:SE X EX a ma):SI X EX tg a (iDic ma):=
 ⟨PI.imp (zC0 ha.h) λσ H R ⟨ρ,γ,h,rel,fin⟩=>⟨ρ,γ,h,rel,(Fin.bind fin).mono λx ρ1 h1 H1 p1 e1 r1 f1 v rv=>by
  cases x<;>first|exact(show False from f1).elim|skip
  rename_i n;simp only[RD]at rv;obtain⟨q,rfl,hq⟩:=rv;refine⟨q,rfl,?_⟩;dsimp only at f1;cases e:h1[n]? with
  | none=>rw[e]at f1;exact f1.elim
  | some ob=>
   cases ob with
   | lst xs=>rw[e]at f1;exact f1.elim
   | set xs=>rw[e]at f1;exact f1.elim
   | dct=>rw[e]at f1;exact f1.elim
   | exc c=>rw[e]at f1;exact f1.elim
   | ins _ _=>rw[e]at f1;exact f1.elim
   | dK kvs=>
    rw[e]at f1;dsimp only at f1;obtain⟨a1,n1,vs,o1,d1⟩:=r1.at e;rw[hq]at n1;cases n1;refine .inl ⟨vs,o1,λob=>?_⟩;have ext:Ext X.K H1 (upd H1 q (.frz ob (.dK vs))):=Ext.upd (.inr ⟨_,o1,trivial⟩);have r2:RH X.K ρ1 (h1.set n (.dF kvs)) (upd H1 q (.frz ob (.dK vs))):=r1.setO e hq ⟨ob,vs,Y9,d1.mono .(c) ext⟩;exact f1 ρ1 _ .(c) ext r2 _ (z8M Y9 (d1.mono .(c) ext))
   | dF kvs=>
    rw[e]at f1;dsimp only at f1;obtain⟨a1,n1,ob,vs,o1,d1⟩:=r1.at e;rw[hq]at n1;cases n1;exact .inr ⟨ob,vs,o1,f1 ρ1 _ .(c) .(b) r1 _ (z8M o1 d1)⟩⟩⟩
end
end FT
namespace L2
variable{K:K5}{tg:Expr}
def Itw(K:K5)(a:Addr)(n:Nat):It:=
 ⟨λi H=>∃xs x,SqL K H a xs/\xs.length=n/\i<n/\xs[n - 1 - i]?=some x,λi H x H'=>H'=H/\∀xs,SqL K H a xs->xs[n - 1 - i]?=some x,λi H=>i=n⟩
theorem zs6{P:K1i}{w:World}(a it:Addr)(n:Nat):Turn P w K tg (Itw K a n) [it] it (λi h=>h.IsRevIter it a ((n:Int) - 1 - i)) where
 mem:=by simp
 obj:=λi h st b hb=>by
  have e:b=it:=by simpa using hb
  subst e;obtain⟨o,e,c,d⟩:=st;exact⟨o,e,λv z=>by rw[d]at z;cases z⟩
 keep:=λi h h' st k=>st.at λo e=>k it .(e) o e
 item:=by
  intro X hP hw hK hc i pins s σ H E I hf st hg;subst hP hw hK;obtain⟨xs,x,hq,hl,hi,hx⟩:=hg;obtain⟨its,rv,p,hz⟩:=I.list hq;obtain⟨u,hu,ru⟩:=rv.get hx;have le:=rv.length;obtain⟨f0,f1,f2,f3,f4,f5⟩:=hf it .(e);have st':s.heap.IsRevIter it a ((n - 1 - i:Nat):Int):=by
   have e:((n - 1 - i:Nat):Int)=(n:Int) - 1 - i:=by omega
   rw[e];exact st
  refine wpAny_pyNext_rev_item st' p.isList (x:=u) (by simpa using hu) λh' e' sb=>?_;have I1:Inv X pins σ H { s with heap:=h' }:=I.turned (t':=s.toks) (λb o hb e=>(sb.2 b hb).trans e) f0 f1 f3 f4 f5;have e2:h'.IsRevIter it a ((n:Int) - 1 - (i+1:Nat)):=by
   have e:((n - 1 - i:Nat):Int) - 1=(n:Int) - 1 - (i+1:Nat):=by omega
   rw[<- e];exact e'
  obtain⟨o,eo,c,d⟩:=id e2;exact⟨u,rfl,z9S (s:={ s with heap:=h' }) eo c d .(1) ⟨x,H,I1,ru,⟨rfl,λys hy=>by rw[I.list_inj hy hq];exact hx⟩,e2,λb hb=>(hf b hb).1⟩⟩
 done:=by
  intro X hP hw hK hc i pins s σ H E I hf st hg;subst hP hw hK;have hg:i=n:=hg;subst hg;obtain⟨f0,f1,f2,f3,f4,f5⟩:=hf it .(e);have st':s.heap.IsRevIter it a (-1):=by
   have e:(i:Int) - 1 - i=-1:=by omega
   rw[<- e];exact st
  exact wpAny_pyNext_rev_end (I.ok.hd hc) st' λh' eb=>⟨rfl,I.turned (t':=s.toks) (λb o hb e=>eb b o hb e) f0 f1 f3 f4 f5⟩
 self:=λ_ _ _ _ _ st h=>wpAny_pyIter_revIter st h
section
variable{X:Cx}
def iRvL(K:K5)(ta:TA):TI:=λσ H R=>ta σ H λvs H1=>∃a xs,vs=[.ref a]/\SqL K H1 a xs/\R (Itw K a xs.length) H1
theorem zR2{e:Expr}{ta:TA}{p pos:Pos}(hg:Gl X "reversed")(hm:X.mg "reversed" = none)(ha:PA X [e] ta)(hs:K0k [e] X.env=[(false,eval e X.env)]:=by rfl):PI X tg (.Call (.Name "reversed" p) [e] [] pos) (iRvL X.K ta):=by
 intro pins s σ H R I h;refine Call_ (z3W I hg hm boot_reversed (K2w (thn (ha pos pins s σ H _ I h) λus s1 ⟨vs,H1,I1,r1,q1⟩=>?_) hs rfl));obtain⟨a,xs,e,hq,q⟩:=q1;subst e;obtain⟨u,rfl,ru⟩:=vals1 r1;cases ru;obtain⟨its,rv,pl,hz⟩:=I1.list hq;have le:=rv.length;refine call_reversed_list pl.isList ?_;have I2:Inv X pins σ H1 { s1 with heap:=s1.heap.push (revObj a ((its.toArray.size:Int) - 1)) }:=I1.kept (t':=s1.toks) λb o e=>K9 _ e;have gt:(s1.heap.push (revObj a ((its.toArray.size:Int) - 1))).IsRevIter .(q) a ((xs.length:Int) - 1 - (0:Nat)):=by
  refine⟨_,K0j _ rfl,rfl,?_⟩;have e:((its.toArray.size:Nat):Int) - 1=(xs.length:Int) - 1 - (0:Nat):=by rw[K07,le];omega
  rw[<- e];rfl
 have T:=zs6 (P:=X.prog) (w:=X.w) (K:=X.K) (tg:=tg) a .(q) xs.length;refine T.self X.A 0 _ _ _ gt ?_;refine⟨.(q),[.(q)],_,_,H1,rfl,I2,T,gt,λb hb=>?_,q⟩;have e:b=s1.heap.objs.size:=by simpa using hb
 subst e;exact I1.fpOk (K01 _) (I1.hok.fresh (K01 _))
end
end L2
namespace FT
variable{pos:Pos}{ma:G->M D}{w wt:List (Nat×Bool)}{E Q:Value->Shared->Prop}{st:List (List Nat)}{x y n c:Nat}{l done T:List Nat}{h h1 j:AH}{f:Nat->List Nat}{cap:List (Option Nat)}{g:D->G->M G}{kb:G->M Bool}{src:Src}{o o':O}
def zq7(ma:G->M D):G->M Src:=λγ=>do
 let x <- ma γ
 match x with
 | .ref n=>do
  let xs <- getL n
  pure (.obj n (.lst xs) xs.reverse)
 | _=>bad
section
variable{X:Cx}{EX:XX}{a tg:Expr}{p:Pos}
theorem zA7(hg:Gl X "reversed")(hm:X.mg "reversed" = none)(ha:SE X EX a ma)(hs:K0k [a] X.env=[(false,eval a X.env)]:=by rfl):SI X EX tg (.Call (.Name "reversed" p) [a] [] pos) (zq7 ma):=
 ⟨PI.imp (zR2 hg hm (z0N ha.h z2l hs) hs) λσ H R ⟨ρ,γ,h,rel,fin⟩=>⟨ρ,γ,h,rel,(Fin.bind fin).mono λx ρ1 h1 H1 p1 e1 r1 f1 v rv=>by
  cases x<;>first|exact(show False from f1).elim|skip
  rename_i n;simp only[RD]at rv;obtain⟨q,rfl,hq⟩:=rv;have f2:=Fin.bind (show Fin X.K EX ρ1 H1 (λsrc ρ' _ H'=>∀J,JOK X.K src ρ' H' J->R J H') ((getL n >>= λxs=>(pure (.obj n (.lst xs) xs.reverse):M Src)) h1) from f1);cases e3:getL n h1 with
  | bad=>rw[e3]at f2;exact f2.elim
  | err z hz=>exact(z14 e3).elim
  | ok xs h3=>
   obtain⟨rfl,q1⟩:=z12 e3;rw[e3]at f2;obtain⟨a1,n1,vs,o1,d1⟩:=r1.at q1;rw[hq]at n1;cases n1;have f3:=f2 ρ1 H1 .(c) .(b) r1;have f4:=f3 ρ1 H1 .(c) .(b) r1;have hl:=d1.length;refine⟨q,vs,rfl,SqL.of o1,f4 _ λi ρ2 h4 H2 p2 e2 r2 good=>?_⟩;have good:h4[n]?=.(l xs):=good;obtain⟨a2,n2,us,o2,d2⟩:=r2.at good;rw[p2 _ _ hq]at n2;cases n2;have hl2:=d2.length;refine⟨λd hd=>?_,λhi=>?_⟩
   ·have hd':xs.reverse[i]?=some d:=hd;have hi:=(K02.mp hd').1;rw[K2b]at hi;rw[List.getElem?_reverse hi]at hd';obtain⟨x,g1,g2⟩:=d2.get hd';refine⟨⟨us,x,SqL.of o2,by omega,by omega,by rw[<- hl];exact g1⟩,λy H3 ⟨z1,z2⟩=>?_⟩;subst z1;have:=z2 us (SqL.of o2);rw[<- hl,g1]at this;cases this;exact⟨g2,r2,Ext.refl _ _⟩
   ·have hi':xs.reverse.length=i:=hi;rw[K2b]at hi';show i=vs.length;omega⟩⟩
end
section
variable{P:K1i}{w:World}{A:Around}{s:Shared}
theorem zo8(h:Q (.ref s.heap.objs.size) { s with heap:=s.heap.push (x4 w) }):
 K5q .(x) A (.call (.builtin "set.__new__") ⟨[.type "set"],[]⟩) (wants Q E) s:=by
 refine K5t (show wpAny _ A.in1 (do checkBuiltinCall "set.__new__" ⟨[.type "set"],[]⟩;again (.builtin "set.__new__" ⟨[.type "set"],[]⟩)) _ _ s from ?_);refine K0 (K82 F.newCall_set_0 (K4 ⟨K6t K71 _,K3k F.entry_set_new ?_⟩));rw[K3d K71 _];unfold Builtin.«set.__new__» K7a;have hz:=K8w;obtain⟨hp,g,d,tk,os⟩:=s;dsimp only
 wp_walk
 refine K20 (K4 ?_);dsimp only;simp only[newObj];refine K0 (Z31 (K4 ?_));exact K4 h
theorem zi3(h:Q (.ref s.heap.objs.size) { s with heap:=s.heap.push (x4 w) }):wpAny .(x) A (call (.type "set") []) Q E s:=by
 obtain⟨c,tl,hmro⟩:=K26.mro;have hmade:=K26.made;have hsub:=K26.sub;refine Z1t (K5t ?_);show wpAny _ _ (callAny (.type "set") _) _ _ _;refine K4 ⟨Z1v _ .(5),K3k Z2k ?_⟩;rw[Z1s (K9f "set" [] []) rfl];have h1:=K26.notType;have h2:=K26.canCreate;have hct:=F.typeCall_set_0
 repeat (any_goals (first|assumption|wp_step))
 refine K44 (zo8 (E:=E) (Q:=λobj s₁=>obj=.ref .(3)/\s₁={ s with heap:=s.heap.push (x4 w) }) ⟨rfl,rfl⟩) λr s₁ hr=>?_;cases r with
 | error e=>exact hr
 | ok fl=>
  cases fl with
  | next=>exact hr.elim
  | brk=>exact hr.elim
  | cont=>exact hr.elim
  | ret obj=>
   obtain⟨rfl,rfl⟩:=hr;have gS:(s.heap.push (x4 w)).get? .(3)=some (x4 w):=K0j _ rfl;have tS:K5i { s with heap:=s.heap.push (x4 w) } (.ref .(3)) "set":=⟨_,gS,rfl⟩;have y1:=K26.init.lookup;have y2:=K26.init.bind (.ref .(3))
   repeat (any_goals (first|assumption|wp_step))
   refine K44 (K9q (R:=wants (λr s₂=>r=.none/\Q (.ref .(3)) s₂) E) K26.init.plain F.entry_set_init (check_set_init tS ?_)) λr₂ s₂ hr₂=>?_
   ·unfold Builtin.«set.__init__» noKeywords
    wp_walk
    exact⟨rfl,h⟩
   ·cases r₂ with
    | error e=>exact hr₂
    | ok fl₂=>
     cases fl₂ with
     | ret r=>
      obtain⟨rfl,hq⟩:=hr₂
      repeat (any_goals (first|assumption|wp_step))
     | _=>exact hr₂.elim
end
section
variable{X:Cx}{EX:XX}{p:Pos}
def Z0G:TE:=λ_ H Q=>∀q,H q=none->Q (.ref q) (upd H q (.set []))
theorem zK7(hg:Gl X "set")(hm:X.mg "set" = none):PE X (.Call (.Name "set" p) [] [] pos) Z0G:=by
 intro pins s σ H Q I h;refine Call_ (z3W I hg hm .(5) (PyProof.Rows.callWith_type0 (zi3 ?_)));exact⟨.ref .(3),_,I.laid (t':=s.toks) (o:=.set []) (λ_ _ e=>K9 _ e) (K01 _) fresh_at,rfl,h _ I.fresh⟩
theorem zA5(hg:Gl X "set")(hm:X.mg "set" = none):SE X EX (.Call (.Name "set" p) [] [] pos) (λ_=>newSet []):=
 ⟨PE.imp (zK7 hg hm) λσ H Q ⟨ρ,γ,h,rel,fin⟩ q hq=>z3B rel.h hq fin⟩
end
def Mut2(st:List .(p))(x y:Nat):Prop:=Rch st x y/\Rch st y x
section
variable{z:Nat}
theorem Rch.trans(a:Rch st x y)(b:Rch st y z):Rch st x z:=by
 induction b with
 | here=>exact a
 | step _ h ih=>exact ih.step h
theorem Mut2.refl:Mut2 st x x:=⟨.here,.here⟩
theorem Mut2.symm(a:Mut2 st x y):Mut2 st y x:=⟨a.2,a.1⟩
theorem Mut2.trans(a:Mut2 st x y)(b:Mut2 st y z):Mut2 st x z:=⟨a.1.trans b.1,b.2.trans a.2⟩
theorem Rch.leaves{F:List Nat}(h:Rch st x y)(hx:x∈F)(hy:y∉F):∃a b,a∈F/\b∉F/\b∈nx st a/\Rch st x a/\Rch st b y:=by
 induction h with
 | here=>exact(hy hx).elim
 | @step a b h1 h2 ih=>
  by_cases ha:a∈F
  ·exact⟨a,b,ha,hy,h2,h1,.here⟩
  ·obtain⟨c,d,q1,q2,q3,q4,q5⟩:=ih ha;exact⟨c,d,q1,q2,q3,q4,q5.step h2⟩
end
structure KS where
 seen:List Nat
 ord:List Nat
 wt:List (Nat×Bool)
def z40(L:Nat->List Nat)(s:KS):KS:=
 match s.wt.getLast? with
 | none=>s
 | some (x,true)=>⟨s.seen,s.ord++[x],s.wt.dropLast⟩
 | some (x,false)=>if x∈s.seen then ⟨s.seen,s.ord,s.wt.dropLast⟩ else ⟨s.seen++[x],s.ord,s.wt.dropLast++[(x,true)]++(L x).map λy=>(y,false)⟩
def opens(wt:List (Nat×Bool)):List Nat:=(wt.filter λp=>p.2).map (·.1)
structure KI(st:List .(p))(V:List Nat)(s:KS):Prop where
 nd:s.seen.Nodup
 sub:∀x∈s.seen,x∈V
 wv:∀p∈s.wt,p.1∈V
 so:∀x,x∈s.seen↔x∈s.ord\/x∈opens s.wt
 on:(s.ord++opens s.wt).Nodup
 root:∀x∈V,x∈s.seen\/(x,false)∈s.wt
 nxo:∀l r x,s.wt=l++(x,true)::r->∀y∈nx st x,y∈s.seen\/(y,false)∈r
 nxf:∀x∈s.ord,∀y∈nx st x,y∈s.seen
 ch:∀l r x,s.wt=l++(x,true)::r->∀p∈r,Rch st x p.1
 q:∀y∈s.ord,∀v,v∉s.ord->Rch st y v->∃z,z∉s.ord/\Mut2 st z y
 k:∀l x r,s.ord=l++x::r->∀y∈l,Rch st y x->∃z,z∉l/\Mut2 st z y
theorem z2f(a b:List (Nat×Bool)):opens (a++b)=opens a++opens b:=by unfold opens;rw[K7i,K36]
theorem z7g(l:List Nat):opens (l.map λy=>(y,false))=[]:=by
 induction l with
 | nil=>rfl
 | cons a l ih=>exact ih
theorem mem_opens:x∈opens wt↔(x,true)∈wt:=by
 unfold opens;rw[K1a];constructor
 ·rintro⟨⟨a,b⟩,h,rfl⟩;obtain⟨h1,h2⟩:=K08.mp h;have:b=true:=h2;subst this;exact h1
 ·exact λh=>⟨(x,true),K08.mpr ⟨h,rfl⟩,rfl⟩
theorem z5S{α:Type}{w:List α}{p a:α}{l r:List α}(e:w++[p]=l++a::r):(r=[]/\l=w/\a=p)\/∃r',r=r'++[p]/\w=l++a::r':=by
 rcases K2l r with rfl|⟨r',q,rfl⟩
 ·have e2:=Z2x e rfl;exact .inl ⟨rfl,e2.1.symm,by have:=e2.2;simpa using this.symm⟩
 ·rw[K2m]at e ⊢;rw[<- K28,<- K7]at e;have e2:=Z2x e rfl;exact .inr ⟨r',by have:=e2.2;simp at this;rw[this],e2.1⟩
theorem cutF{w l:List (Nat×Bool)}{x a:Nat}:∀(n:Nat) (N:List Nat),N.length=n->∀r,w++[(x,true)]++N.map (λy=>(y,false))=l++(a,true)::r->(a=x/\r=N.map λy=>(y,false))\/∃r',w=l++(a,true)::r'/\r=r'++[(x,true)]++N.map λy=>(y,false)
 | 0,N,hn,r,e2=>by
  have:N=[]:=K2e.mp hn;subst this;rw[K1u,K17]at e2;rcases z5S e2 with ⟨rfl,rfl,h⟩|⟨r',rfl,e3⟩
  ·exact .inl ⟨by injection h,rfl⟩
  ·exact .inr ⟨r',e3,by simp⟩
 | n+1,N,hn,r,e2=>by
  rcases K2l N with rfl|⟨N,y,rfl⟩
  ·simp at hn
  ·rw[K2m]at *;rw[K36,K0p,K1u,<- K7]at e2;rcases z5S e2 with ⟨_,_,h⟩|⟨r',rfl,e3⟩
   ·injection h with _ h;cases h
   ·rcases cutF n N (by simpa using hn) r' e3 with ⟨q1,q2⟩|⟨r2,q1,q2⟩
    ·exact .inl ⟨q1,by rw[q2];simp⟩
    ·exact .inr ⟨r2,q1,by rw[q2];simp⟩
section
variable{V:List Nat}{s:KS}
theorem zV1(i:KI st V s)(e:s.wt=w++[(x,true)]):KI st V ⟨s.seen,s.ord++[x],w⟩:=by
 have eo:opens s.wt=opens w++[x]:=by rw[e,z2f];rfl
 have nxx:∀y∈nx st x,y∈s.seen:=λy hy=>by
  rcases i.nxo w [] x (by rw[e]) y hy with z|z
  ·exact z
  ·cases z
 have xn:x∉s.ord:=λq=>by
  have:=i.on;rw[eo]at this;exact(K1c.mp this).2.2 x q x .(e) rfl
 have so':∀a,a∈s.seen↔a∈s.ord++[x]\/a∈opens w:=λa=>by
  rw[i.so a,eo];simp only[K00,K0q];constructor
  ·rintro(q|q|q)
   ·exact .inl (.inl q)
   ·exact .inr q
   ·exact .inl (.inr q)
  ·rintro((q|q)|q)
   ·exact .inl q
   ·exact .inr (.inr q)
   ·exact .inr (.inl q)
 have below:∀b∈opens w,Rch st b x:=λb hb=>by
  obtain⟨l,r,e2⟩:=List.append_of_mem (mem_opens.mp hb);exact i.ch l (r++[(x,true)]) b (by rw[e,e2];simp) (x,true) .(e)
 have qx:∀v,v∉s.ord++[x]->Rch st x v->∃z,z∉s.ord++[x]/\Mut2 st z x:=λv hv h=>by
  obtain⟨a,b,q1,q2,q3,q4,_⟩:=h.leaves (F:=s.ord++[x]) .(e) hv;have bs:b∈s.seen:=by
   rcases K00.mp q1 with z|z
   ·exact i.nxf a z b q3
   ·simp at z;subst z;exact nxx b q3
  rcases(so' b).mp bs with z|z
  ·exact(q2 z).elim
  ·exact⟨b,q2,below b z,q4.step q3⟩
 refine⟨i.nd,i.sub,λp hp=>i.wv p (by rw[e];exact K09 _ hp),so',?_,λa ha=>?_,λl r a e2 y hy=>?_,λa ha y hy=>?_,λl r a e2 p hp=>?_,λy hy v hv h=>?_,λl a r e2 y hy h=>?_⟩
 ·have:=i.on;rw[eo]at this;show (s.ord++[x]++opens w).Nodup;refine(List.Perm.nodup_iff ?_).mp this;rw[K7];exact K98 _ K9c
 ·rcases i.root a ha with z|z
  ·exact .inl z
  ·rw[e]at z;rcases K00.mp z with z|z
   ·exact .inr z
   ·simp at z
 ·have e2:w=l++(a,true)::r:=e2;rcases i.nxo l (r++[(x,true)]) a (by rw[e,e2];simp) y hy with z|z
  ·exact .inl z
  ·rcases K00.mp z with z|z
   ·exact .inr z
   ·simp at z
 ·rcases K00.mp ha with z|z
  ·exact i.nxf a z y hy
  ·simp at z;subst z;exact nxx y hy
 ·have e2:w=l++(a,true)::r:=e2;exact i.ch l (r++[(x,true)]) a (by rw[e,e2];simp) p (K09 _ hp)
 ·rcases K00.mp hy with z|z
  ·obtain⟨u,u1,u2⟩:=i.q y z v (λt=>hv (K09 _ t)) h;by_cases ux:u=x
   ·subst ux;obtain⟨t,t1,t2⟩:=qx v hv (u2.1.trans h);exact⟨t,t1,t2.trans u2⟩
   ·exact⟨u,λt=>by rcases K00.mp t with t|t;exact u1 t;simp at t;exact ux t,u2⟩
  ·simp at z;subst z;exact qx v hv h
 ·have e2:s.ord++[x]=l++a::r:=e2;rcases z5S e2 with ⟨rfl,rfl,rfl⟩|⟨r',rfl,e3⟩
  ·exact i.q y hy a xn h
  ·exact i.k l a r' e3 y hy h
theorem zE0(i:KI st V s)(e:s.wt=w++[(x,false)])(hx:x∈s.seen):KI st V ⟨s.seen,s.ord,w⟩:=by
 have eo:opens s.wt=opens w:=by rw[e,z2f];simp[opens]
 refine⟨i.nd,i.sub,λp hp=>i.wv p (by rw[e];exact K09 _ hp),λa=>by rw[i.so a,eo],by have:=i.on;rw[eo]at this;exact this,λa ha=>?_,λl r a e2 y hy=>?_,i.nxf,λl r a e2 p hp=>?_,i.q,i.k⟩
 ·rcases i.root a ha with z|z
  ·exact .inl z
  ·rw[e]at z;rcases K00.mp z with z|z
   ·exact .inr z
   ·simp at z;subst z;exact .inl hx
 ·have e2:w=l++(a,true)::r:=e2;rcases i.nxo l (r++[(x,false)]) a (by rw[e,e2];simp) y hy with z|z
  ·exact .inl z
  ·rcases K00.mp z with z|z
   ·exact .inr z
   ·simp at z;subst z;exact .inl hx
 ·have e2:w=l++(a,true)::r:=e2;exact i.ch l (r++[(x,false)]) a (by rw[e,e2];simp) p (K09 _ hp)
theorem zG9(i:KI st V s)(nv:∀y∈nx st x,y∈V)(e:s.wt=w++[(x,false)])(hx:x∉s.seen):KI st V ⟨s.seen++[x],s.ord,w++[(x,true)]++(nx st x).map λy=>(y,false)⟩:=by
 have eo:opens s.wt=opens w:=by rw[e,z2f];simp[opens]
 have en:opens (w++[(x,true)]++(nx st x).map λy=>(y,false))=opens w++[x]:=by rw[z2f,z2f,z7g,K17];rfl
 have xo:x∉s.ord++opens w:=λq=>hx ((i.so x).mpr (by rw[eo];exact K00.mp q));have xv:x∈V:=i.wv (x,false) (by rw[e];simp);have cut:∀{l r:List (Nat×Bool)} {a:Nat},w++[(x,true)]++(nx st x).map (λy=>(y,false))=l++(a,true)::r->(a=x/\r=(nx st x).map λy=>(y,false))\/∃r',w=l++(a,true)::r'/\r=r'++[(x,true)]++(nx st x).map λy=>(y,false):=λ{l r a} e2=>cutF _ _ rfl r e2;refine⟨?_,λa ha=>?_,λp hp=>?_,λa=>?_,?_,λa ha=>?_,λl r a e2 y hy=>?_,λa ha y hy=>K09 _ (i.nxf a ha y hy),λl r a e2 p hp=>?_,i.q,i.k⟩
 ·rw[K1c];exact⟨i.nd,by simp,λa ha b hb h=>hx (by simp at hb;subst hb;exact h ▸ ha)⟩
 ·rcases K00.mp ha with z|z
  ·exact i.sub a z
  ·simp at z;subst z;exact xv
 ·have hp:p∈w++[(x,true)]++(nx st x).map λy=>(y,false):=hp;rcases K00.mp hp with z|z
  ·rcases K00.mp z with z|z
   ·exact i.wv p (by rw[e];exact K09 _ z)
   ·simp at z;subst z;exact xv
  ·obtain⟨y,hy,rfl⟩:=K1a.mp z;exact nv y hy
 ·show a∈s.seen++[x]↔a∈s.ord\/a∈opens (w++[(x,true)]++(nx st x).map λy=>(y,false));rw[en,K00,i.so a,eo,K00,or_assoc]
 ·show (s.ord++opens (w++[(x,true)]++(nx st x).map λy=>(y,false))).Nodup;rw[en,<- K7,K1c];have:=i.on;rw[eo]at this;exact⟨this,by simp,λa ha b hb h=>by simp at hb;subst hb;exact xo (h ▸ ha)⟩
 ·show a∈s.seen++[x]\/(a,false)∈w++[(x,true)]++(nx st x).map λy=>(y,false);rcases i.root a ha with z|z
  ·exact .inl (K09 _ z)
  ·rw[e]at z;rcases K00.mp z with z|z
   ·exact .inr (K09 _ (K09 _ z))
   ·simp at z;subst z;exact .inl .(e)
 ·rcases cut e2 with ⟨rfl,rfl⟩|⟨r',e3,rfl⟩
  ·exact .inr (K1a.mpr ⟨y,hy,rfl⟩)
  ·rcases i.nxo l (r'++[(x,false)]) a (by rw[e,e3];simp) y hy with z|z
   ·exact .inl (K09 _ z)
   ·rcases K00.mp z with z|z
    ·exact .inr (K09 _ (K09 _ z))
    ·simp at z;subst z;exact .inl .(e)
 ·rcases cut e2 with ⟨rfl,rfl⟩|⟨r',e3,rfl⟩
  ·obtain⟨y,hy,rfl⟩:=K1a.mp hp;exact Rch.here.step hy
  ·have ax:Rch st a x:=i.ch l (r'++[(x,false)]) a (by rw[e,e3];simp) (x,false) .(e);rcases K00.mp hp with z|z
   ·rcases K00.mp z with z|z
    ·exact i.ch l (r'++[(x,false)]) a (by rw[e,e3];simp) p (K09 _ z)
    ·simp at z;subst z;exact ax
   ·obtain⟨y,hy,rfl⟩:=K1a.mp z;exact ax.step hy
end
section
variable{V:List Nat}{s:KS}
theorem zB4(hv:∀x∈V,∀y∈nx st x,y∈V)(i:KI st V s):KI st V (z40 (nx st) s):=by
 unfold z40;rcases K2l s.wt with e|⟨w,⟨x,b⟩,e⟩
 ·rw[e];exact i
 ·rw[K2m]at e;rw[e,K42];cases b with
  | true=>
   show KI st V ⟨s.seen,s.ord++[x],(w++[(x,true)]).dropLast⟩;rw[K2f];exact zV1 i e
  | false=>
   show KI st V (if x∈s.seen then ⟨s.seen,s.ord,(w++[(x,false)]).dropLast⟩ else ⟨s.seen++[x],s.ord,(w++[(x,false)]).dropLast++[(x,true)]++(nx st x).map λy=>(y,false)⟩);rw[K2f];split
   ·rename_i h;exact zE0 i e h
   ·rename_i h;exact zG9 i (hv x (i.wv (x,false) (by rw[e];simp))) e h
def z4T(V:List Nat):KS:=⟨[],[],V.map λx=>(x,false)⟩
theorem z9K{l r:List (Nat×Bool)}(e:V.map (λx=>(x,false))=l++(x,true)::r):False:=by
 have:(x,true)∈V.map λx=>(x,false):=by rw[e];simp
 obtain⟨_,_,h⟩:=K1a.mp this;injection h with _ h
 cases h
theorem zz8:KI st V (z4T V) where
 nd:=K4f
 sub:=λx hx=>by cases hx
 wv:=λp hp=>by
  obtain⟨x,hx,rfl⟩:=K1a.mp hp;exact hx
 so:=λx=>by
  show x∈[]↔x∈[]\/x∈opens (V.map λx=>(x,false));rw[z7g];simp
 on:=by
  show ([]++opens (V.map λx=>(x,false))).Nodup;rw[z7g];exact K4f
 root:=λx hx=>.inr (K1a.mpr ⟨x,hx,rfl⟩)
 nxo:=λl r x e=>(z9K e).elim
 nxf:=λx hx=>by cases hx
 ch:=λl r x e=>(z9K e).elim
 q:=λx hx=>by cases hx
 k:=λl x r e=>by
  have e:([]:List Nat)=l++x::r:=e;cases l<;>cases e
def kRun(st:List .(p))(V:List Nat):Nat->KS
 | 0=>z4T V
 | n+1=>z40 (nx st) (kRun st V n)
theorem z89(hv:∀x∈V,∀y∈nx st x,y∈V):∀n,KI st V (kRun st V n)
 | 0=>zz8
 | n+1=>zB4 hv (z89 hv n)
theorem z6F{n:Nat}(h:(kRun st V n).wt=[]):∀m,kRun st V (n+m)=kRun st V n
 | 0=>rfl
 | m+1=>by
  show z40 (nx st) (kRun st V (n+m))=_;rw[z6F h m];unfold z40;rw[h];rfl
def kMu(V:List Nat)(s:KS):Nat:=s.wt.length+41 * (V.length - s.seen.length)
def kEnd(st:List .(p))(V:List Nat):List Nat:=(kRun st V 3000).ord
theorem za0(h:(kRun st V n).wt=[])(hn:n<=3000):kEnd st V=(kRun st V n).ord:=by
 have:=z6F h (3000 - n);unfold kEnd;rw[<- this,show n+(3000 - n)=3000 by omega]
structure KEnd(st:List .(p))(V O:List Nat):Prop where
 nd:O.Nodup
 mem:∀x,x∈O↔x∈V
 k:∀l x r,O=l++x::r->∀y∈l,Rch st y x->∃z,z∉l/\Mut2 st z y
theorem Z05(i:KI st V s)(h:s.wt=[]):KEnd st V s.ord:=by
 have so:∀x,x∈s.seen↔x∈s.ord:=λx=>by rw[i.so x,h];simp[opens]
 refine⟨(K1c.mp i.on).1,λx=>⟨λq=>i.sub x ((so x).mpr q),λq=>?_⟩,i.k⟩;rcases i.root x q with z|z
 ·exact(so x).mp z
 ·rw[h]at z;cases z
end
open Classical in
def scc(st:List .(p))(V:List Nat)(x:Nat):List Nat:=V.filter λa=>decide (Mut2 st x a)
theorem scc_mem{V:List Nat}{a:Nat}:a∈scc st V x↔a∈V/\Mut2 st x a:=by unfold scc;simp
def addP(st:List .(p))(V:List Nat)(P:List .(p))(x:Nat):List .(p):=if x∈P.flatten then P else P++[scc st V x]
def partsOf(st:List .(p))(V R:List Nat):List .(p):=R.foldl (addP st V) []
theorem z3v{V R:List Nat}:partsOf st V (R++[x])=addP st V (partsOf st V R) x:=by unfold partsOf;rw[K6g];rfl
def Trn(s1 s2:List .(p)):Prop:=∀x y,y∈nx s2 x↔x∈nx s1 y
section
variable{s1 s2:List (List Nat)}{V:List Nat}
theorem Rch.turn(t:Trn s1 s2)(h:Rch s2 x y):Rch s1 y x:=by
 induction h with
 | here=>exact .here
 | step _ h2 ih=>exact(Rch.here.step ((t _ _).mp h2)).trans ih
theorem Rch.back(t:Trn s1 s2)(h:Rch s1 x y):Rch s2 y x:=by
 induction h with
 | here=>exact .here
 | step _ h2 ih=>exact(Rch.here.step ((t _ _).mpr h2)).trans ih
theorem Rch.inV(hv:∀x∈V,∀y∈nx st x,y∈V)(h:Rch st x y)(hx:x∈V):y∈V:=by
 induction h with
 | here=>exact hx
 | step _ h2 ih=>exact hv _ ih _ h2
structure MI(s1:List .(p))(V done T:List Nat):Prop where
 cl:∀a∈T,∀b∈nx s1 a,b∈T
 dn:∀a∈done,a∈T
 tv:∀a∈T,a∈V
theorem MI.rch(m:MI s1 V done T){a b:Nat}(ha:a∈T)(h:Rch s1 a b):b∈T:=by
 induction h with
 | here=>exact ha
 | step _ h2 ih=>exact m.cl _ ih _ h2
theorem z7b{O S:List Nat}(hv:∀x∈V,∀y∈nx s1 x,y∈V)(t:Trn s1 s2)(ke:KEnd s2 V O)(e:O=l++x::done)(m:MI s1 V done T)(hx:x∉T)(f:FndT s1 T x S)(c:∀a∈S,∀b∈nx s1 a,b∈S\/b∈T)(a:Nat):a∈S↔a∈scc s1 V x:=by
 have xV:x∈V:=(ke.mem x).mp (by rw[e];simp);have hv2:∀x∈V,∀y∈nx s2 x,Rch s2 x y:=λx _ y hy=>Rch.here.step hy;have plain:∀{b},RchT s1 T x b->Rch s1 x b:=λh=>by
  induction h with
  | here=>exact .here
  | step _ h2 _ ih=>exact ih.step h2
 rw[scc_mem];constructor
 ·intro ha;have r1:=plain (f.rc a ha);have aV:=r1.inV hv xV;refine⟨aV,?_⟩;have aT:=f.nt a ha;have aO:=(ke.mem a).mpr aV;rw[e]at aO;rcases K00.mp aO with q|q
  ·obtain⟨z,z1,z2⟩:=ke.k l x done e a q (r1.back t);have z3:Rch s1 a z:=z2.1.turn t;have zV:z∈V:=z3.inV hv aV;have zO:=(ke.mem z).mpr zV;rw[e]at zO;rcases K00.mp zO with u|u
   ·exact(z1 u).elim
   ·rcases K0l.mp u with u|u
    ·subst u;exact⟨r1,z3⟩
    ·exact(aT (m.rch (m.dn z u) (z2.2.turn t))).elim
  ·rcases K0l.mp q with q|q
   ·subst q;exact Mut2.refl
   ·exact(aT (m.dn a q)).elim
 ·rintro⟨aV,h⟩;have aT:a∉T:=λq=>hx (m.rch q h.2);have av:∀{b},Rch s1 x b->b∉T->RchT s1 T x b:=λh=>by
   induction h with
   | here=>exact λ_=>.here
   | step h1 h2 ih=>exact λq=>(ih λz=>q (m.cl _ z _ h2)).step h2 q
  exact zD6 f.hx (λa ha b hb=>c a ha b hb) (av h.1 aT)
theorem zw3{O S:List Nat}(hv:∀x∈V,∀y∈nx s1 x,y∈V)(t:Trn s1 s2)(ke:KEnd s2 V O)(e:O=l++x::done)(m:MI s1 V done T)(hx:x∉T)(f:FndT s1 T x S)(c:∀a∈S,∀b∈nx s1 a,b∈S\/b∈T):MI s1 V (x::done) (T++S):=by
 refine⟨λa ha b hb=>?_,λa ha=>?_,λa ha=>?_⟩
 ·rcases K00.mp ha with q|q
  ·exact K09 _ (m.cl a q b hb)
  ·rcases c a q b hb with z|z
   ·exact K0r _ z
   ·exact K09 _ z
 ·rcases K0l.mp ha with q|q
  ·subst q;exact K0r _ f.hx
  ·exact K09 _ (m.dn a q)
 ·rcases K00.mp ha with q|q
  ·exact m.tv a q
  ·exact(scc_mem.mp ((z7b hv t ke e m hx f c a).mp q)).1
theorem zh9(m:MI s1 V done T)(hx:x∈T):MI s1 V (x::done) T:=
 ⟨m.cl,λa ha=>by rcases K0l.mp ha with q|q;subst q;exact hx;exact m.dn a q,m.tv⟩
end
section
variable{V:List Nat}{s:KS}
theorem zn4(hv:∀x∈V,(nx st x).length<=40/\∀y∈nx st x,y∈V)(i:KI st V s)(h:s.wt≠[]):kMu V (z40 (nx st) s)+1<=kMu V s:=by
 have sl:s.seen.length<=V.length:=K19 i.nd λx hx=>i.sub x hx;unfold z40;rcases K2l s.wt with e|⟨w,⟨x,b⟩,e⟩
 ·exact(h e).elim
 ·rw[K2m]at e;have wl:s.wt.length=w.length+1:=by rw[e];simp
  rw[e,K42];cases b with
  | true=>
   show kMu V ⟨s.seen,s.ord++[x],(w++[(x,true)]).dropLast⟩+1<=_;rw[K2f];unfold kMu;dsimp only;omega
  | false=>
   show kMu V (if x∈s.seen then ⟨s.seen,s.ord,(w++[(x,false)]).dropLast⟩ else ⟨s.seen++[x],s.ord,(w++[(x,false)]).dropLast++[(x,true)]++(nx st x).map λy=>(y,false)⟩)+1<=_;rw[K2f];split
   ·unfold kMu;dsimp only;omega
   ·rename_i q;have xV:x∈V:=i.wv (x,false) (by rw[e];simp);have sl2:s.seen.length+1<=V.length:=by
     have:=K19 (l₁:=s.seen++[x]) (l₂:=V) (z3a i.nd q) λy hy=>by
      rcases K00.mp hy with z|z
      ·exact i.sub y z
      ·simp at z;subst z;exact xV
     simpa using this
    have:=(hv x xV).1;unfold kMu;simp only[K3,K0c,K6,K06];omega
theorem z5Y(hv:∀x∈V,(nx st x).length<=40/\∀y∈nx st x,y∈V):∀(m n:Nat),kMu V (kRun st V n)<=m->∃k,k<=n+m/\(kRun st V k).wt=[]
 | 0,n,h=>by
  refine⟨n,by omega,?_⟩;unfold kMu at h;exact K2e.mp .(0)
 | m+1,n,h=>by
  by_cases e:(kRun st V n).wt=[]
  ·exact⟨n,by omega,e⟩
  ·have:=zn4 hv (z89 (λx hx=>(hv x hx).2) n) e;obtain⟨k,h1,h2⟩:=z5Y hv m (n+1) (by show kMu V (z40 (nx st) (kRun st V n))<=m;omega);exact⟨k,by omega,h2⟩
theorem z7e(hv:∀x∈V,(nx st x).length<=40/\∀y∈nx st x,y∈V)(vl:V.length<=40):KEnd st V (kEnd st V):=by
 obtain⟨k,h1,h2⟩:=z5Y hv (kMu V (z4T V)) 0 (K01 _);have:kMu V (z4T V)<=3000:=by unfold kMu z4T;simp;omega
 rw[za0 h2 .(0)];exact Z05 (z89 (λx hx=>(hv x hx).2) k) h2
theorem zq3(R:List Nat):∀P:List .(p),(R.foldl (addP st V) P).length<=P.length+R.length:=by
 induction R with
 | nil=>intro P;exact K01 _
 | cons x R ih=>
  intro P;rw[K4q];have h1:=ih (addP st V P x);have h2:(addP st V P x).length<=P.length+1:=by unfold addP;split<;>simp
  rw[K6];omega
theorem z6f(R:List Nat):(partsOf st V R).length<=R.length:=by
 have:=zq3 (st:=st) (V:=V) R [];simpa [partsOf] using this
end
def kvF(c:Nat):List Nat->List (Key×D)
 | []=>[]
 | x::r=>(.inl (x:Int),.ref c)::kvF (c+1) r
theorem zk1:∀(l:List Nat) (c:Nat),(kvF c l).length=l.length
 | [],c=>rfl
 | x::r,c=>by show (kvF (c+1) r).length+1=_;rw[zk1 r];rfl
theorem z8B(x:Nat):∀(l:List Nat) (c:Nat),kvF c (l++[x])=kvF c l++[(.inl (x:Int),.ref (c+l.length))]
 | [],c=>rfl
 | y::r,c=>by
  show (_,_)::kvF (c+1) (r++[x])=(_,_)::(kvF (c+1) r++_);rw[z8B x r,show c+1+r.length=c+(y::r).length by simp;omega]
theorem z9G(x:Nat):∀(l:List Nat) (c:Nat),((kvF c l).any λkv=>decide (kv.1=.inl (x:Int)))=decide (x∈l)
 | [],c=>rfl
 | y::r,c=>by
  show (decide (K21 (y:Int)=(K21 (x:Int):Key))||((kvF (c+1) r).any λkv=>decide (kv.1=.inl (x:Int))))=_;rw[z9G x r];have:decide (K21 (y:Int)=(K21 (x:Int):Key))=decide (x=y):=by
   rw[K0n,.(i),.(i)];constructor
   ·intro h;injection h with h;omega
   ·intro h;subst h;rfl
  rw[this];simp[K0l,Z3d]
theorem zz0(h:x∉l):ptD (kvF c l) (.inl (x:Int)) (.ref (c+l.length))=kvF c (l++[x]):=by
 unfold ptD;rw[z9G,.(k) h,z8B];simp
theorem zv0{x:Nat}:∀{l:List Nat}{c:Nat},x∈l->lkD (kvF c l) (.inl (x:Int))=.(r (c+l.idxOf x))
 | [],c,h=>by cases h
 | y::r,c,h=>by
  unfold lkD kvF;rw[K2s];by_cases e:y=x
  ·subst e;rw[decide_eq_true (show ((K21 (y:Int):Key),D.ref c).1=K21 (y:Int) from rfl)];simp
  ·have n:decide (((K21 (y:Int):Key),D.ref c).1=K21 (x:Int))=false:=.(k) λh=>e (by
    have h:(K21 (y:Int):Key)=K21 (x:Int):=h;injection h with h;omega)
   rw[n];have hr:x∈r:=by
    cases h with
    | head=>exact(e rfl).elim
    | tail _ h=>exact h
   have:=zv0 (c:=c+1) hr;unfold lkD at this;dsimp only;rw[this,Z36,show (y==x)=false from beq_eq_false_iff_ne.mpr e];simp only[cond_false,K7v,D.ref.injEq];omega
theorem zT3(l:List Nat):∀c:Nat,z4l (kvF c l)=stD l:=by
 induction l with
 | nil=>intro c;rfl
 | cons x r ih=>
  intro c;show D.int x::z4l (kvF (c+1) r)=_;rw[ih];rfl
theorem z5Z(e:h[n]?=some (.dK (kvF c l))\/h[n]?=some (.dF (kvF c l)))(hx:x∈l):z2R (.ref n) (.int (x:Nat)) h=.ok (.ref (c+l.idxOf x)) h:=by
 have e1:dicD (.ref n) h=.ok (kvF c l) h:=by
  unfold dicD getK;dsimp only;rcases e with e|e<;>rw[e]
 unfold z2R;rw[M.bind_ok e1];have:keyD (.int (x:Nat))=some (.inl (x:Int)):=rfl;rw[this];dsimp only;rw[zv0 hx];rfl
def z0u(f:Nat->List Nat)(V:List Nat):AH:=V.map λx=>.lst (stD (f x))
theorem zl4{V:List Nat}(hx:x∈V):(z0u f V)[V.idxOf x]?=.(l ((stD (f x)))):=by
 have hi:=K77 hx;unfold z0u;rw[K0a,K8 hi,List.getElem_idxOf hi];rfl
section
variable{mi:G->M Src}{me mv:G->M D}{γ:G}
theorem z8P{γ':G}(f:Nat->List Nat)(src:Src)(h1:AH)(hg:∀j,src.good (h1++j)):∀(rest pre:List Nat),(pre++rest).Nodup->(pre++rest).length<=1000 ->
 (∀x∈rest,∃γ1,(∀h,g (.int x) γ' h=.ok γ1 h)/\(∀h,kb γ1 h=.ok true h)/\(∀h,me γ1 h=.ok (.int x) h)/\∀j,mv γ1 (h1++j)=.ok (.ref (h1++j).length) (h1++j++[.lst (stD (f x))])) ->
 z1c src g kb me mv h1.length γ' (stD rest) (h1++(.dK (kvF (h1.length+1) pre)::z0u f pre))=.ok () (h1++(.dK (kvF (h1.length+1) (pre++rest))::z0u f (pre++rest)))
 | [],pre,nd,hl,hd=>by
  unfold stD;rw[K1u];unfold z1c;rw[K17];have c1:src.chk (h1++(.dK (kvF (h1.length+1) pre)::z0u f pre))=.ok () (h1++(.dK (kvF (h1.length+1) pre)::z0u f pre)):=by unfold Src.chk;rw[if_pos (hg _)]
  rw[M.bind_ok c1];rfl
 | x::rest,pre,nd,hl,hd=>by
  obtain⟨γ1,e1,e2,e3,e4⟩:=hd x .(e);have xp:x∉pre:=λq=>(K1c.mp nd).2.2 x q x .(e) rfl;have ih:=z8P (γ':=γ') f src h1 hg rest (pre++[x]) (by rw[K7];exact nd) (by rw[K7];exact hl) λy hy=>hd y (by simp[hy]);have c1:src.chk (h1++(.dK (kvF (h1.length+1) pre)::z0u f pre))=.ok () (h1++(.dK (kvF (h1.length+1) pre)::z0u f pre)):=by unfold Src.chk;rw[if_pos (hg _)]
  have len:(h1++(O.dK (kvF (h1.length+1) pre)::z0u f pre)).length=h1.length+1+pre.length:=by simp[z0u];omega
  have c5:z6y h1.length (.int x) (.ref (h1.length+1+pre.length)) (h1++(.dK (kvF (h1.length+1) pre)::z0u f pre)++[.lst (stD (f x))])=.ok () (h1++(.dK (kvF (h1.length+1) (pre++[x]))::z0u f (pre++[x]))):=by
   unfold z6y z5M;dsimp only;have:keyD (.int (x:Nat))=some (.inl (x:Int)):=rfl;rw[this];dsimp only;rw[K7,K28,K0i (K01 _),K3l,K1];dsimp only;rw[if_pos (by rw[zk1];exact K7k (K0h (K8m _ _) (by rw[<- K3];exact hl)) .(1)),zz0 xp,K16 _ _ (K01 _),K3l,K04];unfold z0u;rw[K36];rfl
  show z1c src g kb me mv h1.length γ' (.int x::stD rest) _=_;unfold z1c;rw[M.bind_ok c1,M.bind_ok (e1 _),M.bind_ok (e2 _),if_pos rfl,M.bind_ok (e3 _),M.bind_ok (e4 _),len,M.bind_ok c5,ih,K7];rfl
theorem z9W{V:List Nat}(f:Nat->List Nat)(hi:mi γ h=.ok src h1)(hs:src.items=stD V)(hg:∀j,src.good (h1++j))(nd:V.Nodup)(hl:V.length<=1000)
 (hd:∀x∈V,∃γ1,(∀h,g (.int x) (capG cap γ) h=.ok γ1 h)/\(∀h,kb γ1 h=.ok true h)/\(∀h,me γ1 h=.ok (.int x) h)/\∀j,mv γ1 (h1++j)=.ok (.ref (h1++j).length) (h1++j++[.lst (stD (f x))])) :
 z3Y cap mi g kb me mv γ h=.ok (.ref h1.length) (h1++(.dK (kvF (h1.length+1) V)::z0u f V)):=by
 have r:=z8P (γ':=capG cap γ) (kb:=kb) (me:=me) (mv:=mv) (g:=g) f src h1 hg V [] nd hl hd;unfold z3Y;rw[M.bind_ok hi];show (z1c src g kb me mv h1.length (capG cap γ) src.items >>= λ_=>(pure (D.ref h1.length):M D)) (h1++[O.dK []])=_;rw[hs];have r':z1c src g kb me mv h1.length (capG cap γ) (stD V) (h1++[.dK []])=_:=r;rw[M.bind_ok r'];rfl
theorem z7Y{γ':G}(src:Src)(h1:AH)(hg:∀j,src.good (h1++j)):∀(rest pre:List Nat),(pre++rest).Nodup->(pre++rest).length<=1000 ->
 (∀x∈rest,∃γ1,(∀h,g (.int x) γ' h=.ok γ1 h)/\(∀h,kb γ1 h=.ok true h)/\(∀h,me γ1 h=.ok (.int x) h)/\∀h,mv γ1 h=.ok (.bl true) h) ->
 z1c src g kb me mv h1.length γ' (stD rest) (h1++[.dK (kvN pre)])=.ok () (h1++[.dK (kvN (pre++rest))])
 | [],pre,nd,hl,hd=>by
  unfold stD;rw[K1u];unfold z1c;rw[K17];have c1:src.chk (h1++[.dK (kvN pre)])=.ok () (h1++[.dK (kvN pre)]):=by unfold Src.chk;rw[if_pos (hg _)]
  rw[M.bind_ok c1];rfl
 | x::rest,pre,nd,hl,hd=>by
  obtain⟨γ1,e1,e2,e3,e4⟩:=hd x .(e);have xp:x∉pre:=λq=>(K1c.mp nd).2.2 x q x .(e) rfl;have ih:=z7Y (γ':=γ') src h1 hg rest (pre++[x]) (by rw[K7];exact nd) (by rw[K7];exact hl) λy hy=>hd y (by simp[hy]);have c1:src.chk (h1++[.dK (kvN pre)])=.ok () (h1++[.dK (kvN pre)]):=by unfold Src.chk;rw[if_pos (hg _)]
  have c5:z6y h1.length (.int x) (.bl true) (h1++[.dK (kvN pre)])=.ok () (h1++[.dK (kvN (pre++[x]))]):=by
   unfold z6y;rw[zv2 (l:=pre) J6 xp (by rw[K3,K6]at hl;omega),z8y]
  show z1c src g kb me mv h1.length γ' (.int x::stD rest) _=_;unfold z1c;rw[M.bind_ok c1,M.bind_ok (e1 _),M.bind_ok (e2 _),if_pos rfl,M.bind_ok (e3 _),M.bind_ok (e4 _),M.bind_ok c5,ih,K7];rfl
theorem zG2{V:List Nat}(hi:mi γ h=.ok src h1)(hs:src.items=stD V)(hg:∀j,src.good (h1++j))(nd:V.Nodup)(hl:V.length<=1000)
 (hd:∀x∈V,∃γ1,(∀h,g (.int x) (capG cap γ) h=.ok γ1 h)/\(∀h,kb γ1 h=.ok true h)/\(∀h,me γ1 h=.ok (.int x) h)/\∀h,mv γ1 h=.ok (.bl true) h) :
 z3Y cap mi g kb me mv γ h=.ok (.ref h1.length) (h1++[.dK (kvN V)]):=by
 have r:=z7Y (γ':=capG cap γ) (kb:=kb) (me:=me) (mv:=mv) (g:=g) src h1 hg V [] nd hl hd;unfold z3Y;rw[M.bind_ok hi];show (z1c src g kb me mv h1.length (capG cap γ) src.items >>= λ_=>(pure (D.ref h1.length):M D)) (h1++[O.dK []])=_;rw[hs];have r':z1c src g kb me mv h1.length (capG cap γ) (stD V) (h1++[.dK []])=_:=r;rw[M.bind_ok r'];rfl
theorem zx6{V:List Nat}(e:ma γ h=.ok (.ref n) h1)(q:h1[n]?=some (.dK (kvF c V))):iDic ma γ h=.ok (.con (stD V)) (h1.set n (.dF (kvF c V))):=by
 unfold iDic;rw[M.bind_ok e];dsimp only;rw[q];dsimp only;rw[zT3]
theorem zQ4{V:List Nat}(e:ma γ h=.ok (.ref n) h1)(q:h1[n]?=some (.dF (kvF c V))):iDic ma γ h=.ok (.con (stD V)) h1:=by
 unfold iDic;rw[M.bind_ok e];dsimp only;rw[q];dsimp only;rw[zT3]
end
theorem am0:(h++o::j)[h.length]?=some o:=by rw[K0i (K01 _),K3l];rfl
theorem sm0:(h++o::j).set h.length o'=h++o'::j:=by rw[K16 _ _ (K01 _),K3l];rfl
theorem am1:(h++o::o'::j)[h.length+1]?=some o':=by rw[K0i .(0),show h.length+1 - h.length=1 by omega];rfl
theorem sm1{o'':O}:(h++o::o'::j).set (h.length+1) o''=h++o::o''::j:=by rw[K16 _ _ .(0),show h.length+1 - h.length=1 by omega];rfl
abbrev sg(c:Nat):Str:=⟨#[c]⟩
def nS(i:Nat):Str:=toString (i:Int)
section
variable{α:Type}{us:List α}
theorem ar1(hl:us.length=1):∃a,us=[a]:=match us,hl with|[a],_=>⟨a,rfl⟩
theorem ar2(hl:us.length=2):∃a b,us=[a,b]:=match us,hl with|[a,b],_=>⟨a,b,rfl⟩
theorem ar3(hl:us.length=3):∃a b c,us=[a,b,c]:=match us,hl with|[a,b,c],_=>⟨a,b,c,rfl⟩
theorem ar4(hl:us.length=4):∃a b c d,us=[a,b,c,d]:=match us,hl with|[a,b,c,d],_=>⟨a,b,c,d,rfl⟩
theorem ar5(hl:us.length=5):∃a b c d e,us=[a,b,c,d,e]:=match us,hl with|[a,b,c,d,e],_=>⟨a,b,c,d,e,rfl⟩
end
variable{X:Cx}{pins:List (Addr×Obj)}{H h r j:AH}{s m N n x a ep b i y z c:Nat}{d:D}{P:K1i}{w:World}{K:K5}{mg:Str->Option Value}{base:Heap}{st B:List (List Nat)}{EX:XX}{me ma mb mo:G->M D}{f:Nat->List Nat}{pos:Pos}{A l p T g L ring:List Nat}{E:Value->Shared->Prop}{Q:D->AH->Prop}{es:Array (Int×Value)}{t:K8i}{kb ks ka:List Key}{mr:G->M (List D)}{v:Nat->D}{kvs:List (Key×D)}{neg:Bool}{targets:List (Bool×(Value->Sem Unit))}{ns:List Str}{S:Nat->Prop}{γ:G}{xs ys:List D}{mk:List (List Str)}{mt ms:G->M Out}{ws:List (Str×Str)}{par:Nat->Nat}{kk:G->M Bool}{mf:List D->M D}
def Ths(P:Nat->D->Prop):Nat->List D->Prop
 | _,[]=>True
 | n,x::xs=>∃a b,P a x/\Ths P b xs/\a+b+2<=n
def Th(r:AH)(B:Nat):Nat->Nat->D->Prop
 | 0,_,_=>False
 | _+1,n,.non=>4<=n
 | _+1,n,.bl _=>5<=n
 | _+1,n,.int i=>i.natAbs<=B/\40<=n
 | _+1,n,.str x=>(reprText x).length<=n/\x.length<=1000
 | m+1,n,.tup xs=>∃a,Ths (Th r B m) a xs/\a+4<=n
 | _+1,_,.fl _=>False
 | m+1,n,.ref i=>∃j,i=j+3/\((∃xs a,r[j]?=.(l xs)/\Ths (Th r B m) a xs/\a+4<=n)\/(r[j]?=some (.dK [])\/r[j]?=some (.dK [(.inr "a",.int 1)])/\1<=m)/\40<=n)
mutual
def z2b:D->Bool
 | .int _=>true
 | .str _=>true
 | .bl _=>true
 | .non=>true
 | .tup xs=>z4v xs
 | _=>false
def z4v:List D->Bool
 | []=>true
 | d::r=>z2b d&&z4v r
end
section
variable{σ:L2.St}{H:Hp}{s:Shared}{ρ:List Addr}
mutual
theorem RD.one(I:Inv X pins σ H s):∀{z z':D}{v:V},z2b z=true->z2b z'=true->RD X.K ρ H z v->RD X.K ρ H z' v->z=z'
 | .non,z',v,_,p,h,h'=>by
  simp only[RD]at h;subst h;cases z'<;>simp_all [RD,z2b]
 | .bl b,z',v,_,p,h,h'=>by
  simp only[RD]at h;subst h;cases z'<;>simp_all [RD,z2b]
 | .int i,z',v,_,p,h,h'=>by
  simp only[RD]at h;subst h;cases z'<;>simp_all [RD,z2b]
 | .str x,z',v,_,p,h,h'=>by
  simp only[RD]at h;subst h;cases z'<;>simp_all [RD,z2b]
 | .tup ds,z',v,q,p,h,h'=>by
  simp only[RD]at h;obtain⟨a,xs,rfl,h2,h3⟩:=h;cases z' with
  | tup ds'=>
   simp only[RD]at h';obtain⟨a',xs',e,h5,h6⟩:=h';cases e;have e2:=I.tuple_inj h5 h2;subst e2;simp only[z2b]at q p;rw[RDs.one I q p h3 h6]
  | non=>simp[RD]at h'
  | bl b=>simp[RD]at h'
  | int b=>simp[RD]at h'
  | str b=>simp[RD]at h'
  | fl b=>simp[z2b]at p
  | ref b=>simp[z2b]at p
 | .fl ds,z',v,q,p,h,h'=>by simp[z2b]at q
 | .ref ds,z',v,q,p,h,h'=>by simp[z2b]at q
theorem RDs.one(I:Inv X pins σ H s):∀{ds ds':List D}{xs:List V},z4v ds=true->z4v ds'=true->RDs X.K ρ H ds xs->RDs X.K ρ H ds' xs->ds=ds'
 | [],ds',xs,_,_,h,h'=>by
  simp only[RDs]at h;subst h;cases ds' with
  | nil=>rfl
  | cons d r=>simp[RDs]at h'
 | d::r,ds',xs,q,p,h,h'=>by
  simp only[RDs]at h;obtain⟨x,xr,rfl,h2,h3⟩:=h;cases ds' with
  | nil=>simp[RDs]at h'
  | cons d' r'=>
   simp only[RDs]at h';obtain⟨x',xr',e,h5,h6⟩:=h';cases e;simp only[z4v,K0e]at q p;rw[RD.one I q.1 p.1 h2 h5,RDs.one I q.2 p.2 h3 h6]
end
end
abbrev Bl:=List (Nat×List Nat)
theorem z53{m:M D}(e:m h=.ok d h)(c:J2 0 d=true):cln m h=.ok d h:=z05 (j:=[]) (by rw[e,K17]) (z47 (K4j h.length) c)
inductive Sy where
 | yes
 | mark (s:Str)
 | step (k:Nat)
 | neg (k:Nat)
 | con (a b:Nat)
abbrev Tru:=List (List Bool)
def tv(T:Tru)(i x:Nat):Bool:=(((T[i]?).getD [])[x]?).getD false
abbrev Mx(K:K5)(mg:Str->Option Value)(x:Str):Prop:=∀v,K3z K K23 x=some (some v)->mg x=some v
abbrev Bnd(st:Stmt)(x:Str)(ps:List Str):Prop:=∀(kV doc pm:Value) (an:Option Addr) (cdv ct:Value) (us:List Value),us.length=ps.length->bindArgs (K2i x x (z13 st) (z03 st) (j3 st) .none kV doc pm an cdv ct) ⟨us,[]⟩=pure (ps.zip us)
def scB(N P:List Str)(sc:Scope):Bool:=sc.kind==.function&&!sc.isCoroutine&&!sc.isGenerator&&decide N.Nodup&&decide (P.length<=N.length)&&P.all (λx=>sc.names.lookup x==some .local||sc.names.lookup x==some .cell)&&sc.names.all λy=>y.2 != .free
theorem zQ8{N:List Str}{sc:Scope}(h:scB N (N.take n) sc=true):FnScope N (N.take n) sc:=by
 unfold scB at h;simp only[K0e,K41,decide_eq_true_eq]at h;obtain⟨⟨⟨⟨⟨⟨h1,h2⟩,h3⟩,h4⟩,h5⟩,h6⟩,h7⟩:=h;refine⟨by simpa using h1,h2,h3,h4,by simp,λx hx=>?_,λy hy=>?_⟩
 ·have:=K1t.mp h6 x hx;rw[K2h]at this;rcases this with z|z
  ·exact .inl (by simpa using z)
  ·exact .inr (by simpa using z)
 ·have:=K1t.mp h7 y hy;simpa using this
section
variable{x:Str}{st:Stmt}{k:Nat}
theorem dfN(N:List Str)(mb:G->M Out)(T:DefAt K x st)(mx:Mx K mg x)(hs:scB N (N.take n) (j3 st)=true)(hn:(N.take n).length=n)(hb:Bnd st x (N.take n))
 (body:∀{f:Addr} {cdv:Value} {A:Around} {outer:List Env} {s:Shared} {H:Hp} {E:XK},K2y K cdv x=true->Room k (A.deeper (envOfC x (j3 st) .(3) f cdv))->N.Nodup ->
  SB (cxOf CX0 P w K mg base N x (j3 st) f cdv A outer s H E).nox EX0 (z03 st) mb):Fn P w K mg base (k+1) x n (runF N.length mb):=by
 obtain⟨f,fd,hf,F⟩:=T;exact zN5 F (zQ8 hs) (F.binds hb) (mx _ hf) hn λ_ _ _ _ _ _ hcd hr=>body hcd hr (zQ8 hs).nd
theorem dfC(N:List Str)(mb:G->M Out)(T:DefAt K x st)(mx:Mx K mg x)(hs:scB N (N.take n) (j3 st)=true)(hn:(N.take n).length=n)(hb:Bnd st x (N.take n))
 (body:∀{f:Addr} {cdv:Value} {A:Around} {outer:List Env} {s:Shared} {H:Hp} {E:XK},K2y K cdv x=true->Room k (A.deeper (envOfC x (j3 st) .(3) f cdv))->N.Nodup ->
  SB (cxOf CX0 P w K mg base N x (j3 st) f cdv A outer s H E).nox EX0 (z03 st) mb):Fn P w K mg base (k+1) x n λds=>cln (runF N.length mb ds):=Fn.cln (dfN N mb T mx hs hn hb body)
end
structure OwC(K:K5)(c:Str)(C:Addr):Prop where
 ns:K3z K K23 c=some (.(r C))
 cl:Cls K C
def sAug(i:Nat)(f:Int->Int->Int)(me:G->M D):G->M Out:=λγ=>match γ[i]? with
 | some (.(i a))=>do
  let y <- me γ
  match y with
  | .int b=>pure (.nx (γ.set i (.(i (f a b)))))
  | _=>bad
 | _=>bad
theorem Z03{x:Str}{e:Expr}{op:Z27}{f:Int->Int->Int}{pos pos':Pos}(i:Nat)(hN:X.N.Nodup)(ho:PIp X op (ipI f))(ha:SE X EX e me)(hi:X.N[i]?=some x:=by rfl)(hx:Loc X.env.scope x:=by first|exact Or.inl rfl|exact Or.inr rfl)
 (hf:X.fn x=true\/X.env.scope.names.lookup x=some .local:=by first|exact .inl rfl|exact .inr rfl|assumption):S1 X EX (.AugAssign (.Name x pos') op e pos) (sAug i f me):=
 ⟨PS.imp (zQ2 hN hi hx ha.h ho hf) λσ H D ⟨ρ,γ,h,rel,fin⟩=>by
  unfold sAug at fin;cases eg:γ[i]? with
  | none=>rw[eg]at fin;exact(show False from fin).elim
  | some o=>
   rw[eg]at fin;cases o<;>first|exact(show False from fin).elim|skip
   rename_i d0;cases d0<;>first|exact(show False from fin).elim|skip
   rename_i a;obtain⟨v,ev,rv⟩:=rel.g.var i _ eg;simp only[RD]at rv;subst rv;refine⟨.int a,ev,ρ,γ,h,rel,(Fin.bind fin).mono λd ρ1 h1 H1 p1 e1 r1 f1 w rw'=>?_⟩;cases d<;>first|exact(show False from f1).elim|skip
   simp only[RD]at rw';subst rw';exact⟨a,_,rfl,rfl,f1 ρ1 H1 .(c) .(b) r1 _ ((rel.g.mono p1 e1).set i .(s))⟩⟩
theorem z5C:entryFor table "set.__and__" = some Builtin.«frozenset.__and__»:=
 K9n (id':="frozenset.__and__") (by kernel_rfl) rfl .(5) (by kernel_rfl)
section
variable{A:Around}{s:Shared}
theorem z9b{l:List Addr}{Q:Bool->Shared->Prop}(hl:∀a∈l,∃ks,SetAt w s.heap a ks)(h:Q true s):wpAny .(x) A (setsQuiet l) Q E s:=by
 unfold setsQuiet;refine K0 (K49 (wpAny_forIn_list _ (λrest b s'=>b.1=none/\s'=s/\∀a∈rest,a∈l) (λb s'=>b.1=none/\s'=s) ?_ (λb s' hI=>⟨hI.1,hI.2.1⟩) _ _ ⟨rfl,rfl,λa h=>h⟩) ?_ λ_ _ x=>x)
 ·rintro a rest b s' ⟨hb,rfl,hr⟩;obtain⟨ks,o,es,ep,t,ks',h1,h2,h3,h4,h5,h6,h7,h8,_⟩:=hl a (hr a K18);refine K0 (K4d h1 h3 h8 ?_);refine K0 (K49 (wpAny_forIn_array' _ (λrest b s2=>b.1=none/\s2=s'/\∀e∈rest,e∈es.toList) (λb s2=>b.1=none/\s2=s') ?_ (λb s2 hJ=>⟨hJ.1,hJ.2.1⟩) _ _ ⟨rfl,rfl,λe h=>h⟩) ?_ λ_ _ x=>x)
  ·rintro e rest b s2 ⟨q1,rfl,q2⟩;obtain⟨k,_,hk,_⟩:=z2z h4 (q2 e K18);have q3:∀e∈rest,e∈es.toList:=λe h=>q2 e (K14 _ h);obtain⟨hx,x⟩:=e;rcases y8 hk with ⟨i,t,e1,e2⟩|⟨y,t,e1,e2⟩<;>(simp only at e2;subst e2;exact K4 ⟨rfl,rfl,q3⟩)
  ·rintro⟨b21,b22⟩ s2 ⟨q1,rfl⟩;simp only at q1;subst q1;exact K4 ⟨rfl,rfl,λa h=>hr a (K14 _ h)⟩
 ·rintro⟨b21,b22⟩ s2 ⟨q1,rfl⟩;simp only at q1;subst q1;exact K4 h
theorem walk_of{a:Addr}{o:Obj}{Q:Array (Int×Value)->Shared->Prop}(h1:s.heap.get? a=some o)(h3:o.data=.set es ep t)(h8:t.fits es.size=true)(h0:t.led=true\/w.params.followText "set-order" = true)
 (h:∀d' ord,ord.toList.Perm es.toList->Q ord { s with drawn:=d' }):wpAny .(x) A (setWalk a) Q E s:=by
 unfold setWalk K6p;refine K0 (K2k h1 h3 h8 (K0 (K0 (K20 (K4 ?_)))));dsimp only;cases hb:w.params.followText "set-order" with
 | true=>
  rw[show (model P w).w.params.followText "set-order" = true from hb,if_pos rfl];refine K0 (K20 (K4 ?_));exact h s.drawn _ (z6E _ _)
 | false=>
  rw[show (model P w).w.params.followText "set-order" = false from hb,if_neg .(1)];have led:t.led=true:=by
   rcases h0 with h|h
   ·exact h
   ·rw[hb]at h;cases h
  show wpAny _ _ (if (!t.plain&&decide (es.size > 1))=true then _ else _) _ _ _;split
  ·refine K0 (z3J es.size es.toList s _ .(e) λys d' pm=>K4 ?_);exact h d' _ (by simpa using pm)
  ·show wpAny _ _ ((if (!t.led&&decide (es.size > 1))=true then _ else _) >>= _) _ _ _;rw[if_neg (by rw[led];simp)];exact K0 (K4 (K4 (h s.drawn _ (.refl _))))
theorem z7x{a b r:Addr}{o:Obj}{kb:List Key}{Q:Array (Int×Value)->Shared->Prop}(h1:s.heap.get? a=some o)(h3:o.data=.set es ep t)(h8:t.fits es.size=true)(h0:t.led=true\/w.params.followText "set-order" = true)
 {ka kr:List Key} (hA:SetAt w s.heap a ka) (hB:SetAt w s.heap b kb) (hR:SetAt w s.heap r kr) (h:∀h' d' ord,K1y r s.heap h'->SetAt w h' r kr->ord.toList.Perm es.toList->Q ord { s with heap:=h',drawn:=d' }) :
 wpAny .(x) A (Z1m a [b,r] (some r)) Q E s:=by
 unfold Z1m K6p;refine K0 (K2k h1 h3 h8 (K0 (K0 (K20 (K4 ?_)))));dsimp only;split
 ·exact walk_of h1 h3 h8 h0 λd' ord pm=>h s.heap d' ord (K3y r s.heap) hR pm
 ·rename_i hc;refine K0 (z9b (λx hx=>?_) ?_)
  ·simp only[K0l,K2u,or_false]at hx;rcases hx with rfl|rfl|rfl
   ·exact⟨_,hA⟩
   ·exact⟨_,hB⟩
   ·exact⟨_,hR⟩
  rw[if_neg .(1)];refine K0 (K5u ?_);obtain⟨o2,es2,ep2,t2,ks2,g1,g2,g3,g4,g5,g6,g7,g8,g9,g0⟩:=hR;refine K0 (K2k g1 g3 g8 ?_);dsimp only;split
  ·refine K0 (K83 g1 g3 (K4 ?_) (K4y g7));have f2:({ t2 with led:=t2.led&&t.led,plain:=t2.plain&&t.plain }:K8i).fits es2.size=true:=g8;obtain⟨S,_⟩:=z5y (h:=s.heap) (t':={ t2 with led:=t2.led&&t.led,plain:=t2.plain&&t.plain }) g1 g2 g3 g4 g5 g6 g7 f2 g9 (by
    rcases g0 with g0|g0
    ·rcases h0 with h0|h0
     ·exact .inl (by show (t2.led&&t.led)=true;rw[g0,h0];rfl)
     ·exact .inr h0
    ·exact .inr g0)
   exact h _ s.drawn es (K1n s.heap r _) S (.refl _)
  ·refine K4 ?_;exact h s.heap s.drawn es (K3y r s.heap) ⟨o2,es2,ep2,t2,ks2,g1,g2,g3,g4,g5,g6,g7,g8,g9,g0⟩ (.refl _)
theorem SetAt.nodup{h:Heap}{a:Addr}(x:SetAt w h a ks):ks.Nodup:=let ⟨_,_,_,_,_,_,_,_,_,_,n,_⟩:=x;n
theorem zq5{a:Addr}{Q:Value->Shared->Prop}(hA:SetAt w s.heap a ks)(h:Q (.type "set") s):wpAny .(x) A (K85 a) Q E s:=by
 unfold K85;exact K0 (K6q (b:=true) hA.typeIs K8w (K4 h))
theorem z7m{a:Addr}{Q:Bool->Shared->Prop}(hA:SetAt w s.heap a ks)(h:Q true s):wpAny .(x) A (K7b (.ref a)) Q E s:=by
 unfold K7b;exact K0 (K6q (b:=true) hA.typeIs K8w (K4 h))
theorem size_set{a:Addr}{Q:Nat->Shared->Prop}(hA:SetAt w s.heap a ks)(h:Q ks.length s):wpAny .(x) A (K5h a) Q E s:=by
 obtain⟨o,es,ep,t,ks',h1,h2,h3,h4,h5,h6,h7,h8,_⟩:=hA;unfold K5h;refine K0 (K4d h1 h3 h8 (K4 ?_));have:es.size=ks.length:=by rw[<- h5.length_eq,K3b h4,K1d]
 rw[this];exact h
theorem zB5{a:Addr}{k:Key}{x:Value}{Q:Option Nat->Shared->Prop}(hk:z1N k x=true)(hA:SetAt w s.heap a ks)(h:∀r:Option Nat,r.isSome=decide (k∈ks)->Q r s):wpAny .(x) A (setFind a x (keyH w k)) Q E s:=
 wpAny_setFind_of (knd:=Y0 P w) hk (z4h hk) hA.setOf h
theorem z7c{p:Key->Bool}{a b:List Key}(h:a.Perm b):(a.filter p).Perm (b.filter p):=h.filter p
theorem z5e{id:String}{wk ak r:Addr}{kw kq:List Key}{Q:PUnit->Shared->Prop}(hw:r≠wk)(hq:r≠ak)(hW:SetAt w s.heap wk kw)(hK:SetAt w s.heap ak kq)(hR:SetAt w s.heap r [])
 (h:∀h' d' tk,K1y r s.heap h'->SetAt w h' r (kw.filter λk=>decide (k∈kq))->Q K8q { s with heap:=h',drawn:=d',toks:=tk }) :
 wpAny .(x) A (do
  let was <- setEpoch wk;let l <- Z1m wk [ak,r] (some r)
  forIn l K8q λx __s=>
   match x with
   | (h,x)=>do
    K3t [x] do
     let __do_lift <- setFind ak x h
     if __do_lift.isSome=true then do
      let _ <- Z2f r x h
      pure ()
      else pure ()
    K4v id wk was
    pure (K3i K8q)
  pure ()) Q E s:=by
 obtain⟨o,es,ep,t,ks',h1,h2,h3,h4,h5,h6,h7,h8,h9,h0⟩:=(show SetAt w s.heap wk kw from hW);refine K0 (K84 h1 h3 h8 ?_);refine K0 (z7x h1 h3 h8 h0 hW hK hR λhp1 d1 ord sb1 hR1 pm=>?_);obtain⟨k2,p1,p2⟩:=z23 pm h4;have pk:k2.Perm kw:=p1.trans h5;refine K0 (wpAny_forIn_array' _ (λrest _ s'=>∃hp' d' tk kd kr,s'={ s with heap:=hp',drawn:=d',toks:=tk }/\K1y r s.heap hp'/\SetAt w hp' r (kd.filter λk=>decide (k∈kq))/\Paired (KE w) kr rest/\k2=kd++kr) _ ?_ ?_ _ _ ⟨hp1,d1,s.toks,[],k2,rfl,sb1,hR1,p2,rfl⟩)
 ·rintro⟨hx,x⟩ rest _ s' ⟨hp',d',tk,kd,kr,rfl,sb,S,pr,ek⟩;cases pr with
  | cons e pr=>
   rename_i k kr;obtain⟨hk,rfl⟩:=e;have nd:k2.Nodup:=pk.nodup_iff.mpr hW.nodup;have hK':SetAt w hp' ak kq:=hK.stay λo e=>by rw[sb.2 ak hq.symm];exact e
   have gW:hp'.get? wk=some o:=by rw[sb.2 wk hw.symm];exact h1
   have len:(kd.filter λk=>decide (k∈kq)).length+1<scanBound:=by
    have l1:=K0w (λk=>decide (k∈kq)) kd;have l2:k2.length=es.size:=by rw[pk.length_eq,<- h5.length_eq,K3b h4,K1d]
    rw[ek,K3,K6]at l2;omega
   refine K0 (K1h ?_);refine K0 (zB5 (s:={ s with heap:=hp',drawn:=d',toks:=tk }) hk hK' λq eq=>?_);have tl:∀(h2:Heap) (tk:Nat) (Z:ForInStep PUnit->Shared->Prop),K1y r s.heap h2->Z (.yield K8q) { s with heap:=h2,drawn:=d',toks:=tk }->wpAny .(x) A (K4v id wk ep >>= λ_=>pure (K3i K8q)) Z E { s with heap:=h2,drawn:=d',toks:=tk }:=λh2 tk Z sb2 z=>by
    unfold K4v;refine K0 (K0 (K84 (s:={ s with heap:=h2,drawn:=d',toks:=tk }) (by show h2.get? wk=some o;rw[sb2.2 wk hw.symm];exact h1) h3 h8 ?_));rw[if_neg .(e)];exact K4 (K4 z)
   have ef:(kd++[k]).filter (λk=>decide (k∈kq))=(kd.filter λk=>decide (k∈kq))++(if k∈kq then [k] else []):=by
    rw[K7i];by_cases z:k∈kq<;>simp[z]
   by_cases z:k∈kq
   ·rw[eq,if_pos (by simpa using z)];refine K0 (zx0 (s:={ s with heap:=hp',drawn:=d',toks:=tk }) hk S len λh2 b sb2 S2=>K4 ?_);have nk:k∉kd.filter λk=>decide (k∈kq):=λm=>by
     rw[ek]at nd;exact(K1c.mp nd).2.2 k (K08.mp m).1 k K18 rfl
    rw[if_neg nk]at S2;exact tl h2 tk _ (sb.trans sb2) ⟨h2,d',tk,kd++[k],kr,rfl,sb.trans sb2,by rw[ef,if_pos z];exact S2,pr,by rw[ek];simp⟩
   ·rw[eq,if_neg (by simpa using z)];exact K4 (tl hp' tk _ sb ⟨hp',d',tk,kd++[k],kr,rfl,sb,by rw[ef,if_neg z,K17];exact S,pr,by rw[ek];simp⟩)
 ·rintro _ s' ⟨hp',d',tk,kd,kr,rfl,sb,S,pr,ek⟩;cases pr;rw[K17]at ek;subst ek;exact K4 (h hp' d' tk sb (S.perm (z7c pk)))
theorem zt5{id:String}{a b:Addr}{Q:Value->Shared->Prop}(hab:b≠a)(hA:SetAt w s.heap a ka)(hB:SetAt w s.heap b kb)
 (h:∀h' d' tk,(∀x o,s.heap.get? x=some o->h'.get? x=some o)->SetAt w h' .(3) (ka.filter λk=>decide (k∈kb))->Q (.ref .(3)) { s with heap:=h',drawn:=d',toks:=tk }) :
 wpAny .(x) A (K6n id a (.ref b)) Q E s:=by
 have la:a<s.heap.objs.size:=let ⟨o,_,_,_,_,e,_⟩:=hA;K0f e;have lb:b<s.heap.objs.size:=let ⟨o,_,_,_,_,e,_⟩:=hB;K0f e;unfold K6n;rw[if_neg (by simpa using hab)];refine K0 (zq5 hA (K0 (newS (K0 (K4 ?_)))));have hA1:SetAt w (s.heap.push (x4 w)) a ka:=hA.stay λo e=>K9 _ e;have hB1:SetAt w (s.heap.push (x4 w)) b kb:=hB.stay λo e=>K9 _ e;refine K0 (K1h (K0 (z7m (s:={ s with heap:=s.heap.push (x4 w) }) hB1 ?_)));rw[if_pos rfl];refine K0 (K4 (K0 (size_set (s:={ s with heap:=s.heap.push (x4 w) }) hB1 (K0 (size_set (s:={ s with heap:=s.heap.push (x4 w) }) hA1 ?_)))));have lr:SetAt w (s.heap.push (x4 w)) .(3) []:=fresh_at;have na:=K30 la;have nb:=K30 lb;have old:∀h':Heap,K1y .(3) (s.heap.push (x4 w)) h'->∀x o,s.heap.get? x=some o->h'.get? x=some o:=λh' sb x o e=>by
  rw[sb.2 x (K0x (K0f e))];exact K9 _ e
 split
 ·rename_i eq;split at eq
  ·cases eq;refine z5e (Q:=λ_ s'=>wpAny .(x) A (pure (K29 .(3))) Q E s') (s:={ s with heap:=s.heap.push (x4 w) }) na nb hA1 hB1 lr λh' d' tk sb S=>K4 (h h' d' tk (old h' sb) S)
  ·cases eq;refine z5e (Q:=λ_ s'=>wpAny .(x) A (pure (K29 .(3))) Q E s') (s:={ s with heap:=s.heap.push (x4 w) }) nb na hB1 hA1 lr λh' d' tk sb S=>K4 (h h' d' tk (old h' sb) (S.perm ?_));refine(K7o (hB.nodup.filter _) (hA.nodup.filter _)).mpr λk=>?_;simp only[K08,decide_eq_true_eq];exact And.comm
theorem zo7{a b:Addr}{Q:Value->Shared->Prop}(hab:b≠a)(hA:SetAt w s.heap a ka)(hB:SetAt w s.heap b kb)
 (h:∀h' d' tk,(∀x o,s.heap.get? x=some o->h'.get? x=some o)->SetAt w h' .(3) (ka.filter λk=>decide (k∈kb))->Q (.ref .(3)) { s with heap:=h',drawn:=d',toks:=tk }) :
 wpAny .(x) A (K2r .BitAnd (.ref a) (.ref b)) Q E s:=by
 refine wpAny_binaryOp_same (T:="set") hA.typeIs hB.typeIs F.fills_set_and F.slot_set_and (K2a F.slot_set_and hA.typeIs z5C ?_ (F.args_set_and_2 _ _));unfold Builtin.«frozenset.__and__»;show wpAny _ A.in1 (K8d "__and__" ⟨[.ref a,.ref b],[]⟩ >>= _) _ _ _;unfold K8d slotArgs;simp only[K8h,K6s,K1k,↓reduceIte,Z1u,K6,K06,bne_self_eq_false];refine K0 (K4 (K0 (K4 (K0 (K0 (z7m hA ?_))))));refine z7m hB ?_;rw[if_neg .(1)];refine K0 (K4 (K0 (zt5 hab hA hB λh' d' tk k S=>?_)));exact K4 ⟨_,rfl,by simp,h h' d' tk k S⟩
end
theorem zG1:OpR X (K2r .BitAnd) (λx y H Q=>∃a b ka kb,x=.ref a/\y=.ref b/\b≠a/\H a=some (.set ka)/\H b=some (.set kb)/\∀q,H q=none->Q (.ref q) (upd H q (.set (ka.filter λk=>decide (k∈kb))))):=by
 intro pins s σ H x y v u Q I rx ry h;obtain⟨a,b,ka,kb,rfl,rfl,hab,ha,hb,q⟩:=h;cases rx;cases ry;refine zo7 hab (z4M I ha) (z4M I hb) λh' d' tk kp S=>?_;have sz:.(3)<=h'.objs.size:=by
  obtain⟨o,_,_,_,_,e,_⟩:=S;exact K56 (K0f e)
 have ho:=I.hok.laid (a:=.(3)) (o:=.set (ka.filter λk=>decide (k∈kb))) kp (K01 _) S;exact⟨.ref s.heap.objs.size,_,I.call' (s':={ s with heap:=h',drawn:=d',toks:=tk }) (ch:=[]) rfl (Un.laid kp (K01 _) I.fresh) ho I.bare (λb z=>absurd z .(e)),rfl,q _ I.fresh⟩
def z8Z:D->D->M D
 | .ref a,.ref b=>if a=b then bad else do
  let ka <- getS a;let kb <- getS b
  newSet (ka.filter λk=>decide (k∈kb))
 | _,_=>bad
def fBor:=fI λi j=>.int (K6r i j)
section
variable{a b:Expr}{p:Pos}
theorem zD4:BR K EX (λx y H Q=>∃a b ka kb,x=.ref a/\y=.ref b/\b≠a/\H a=some (.set ka)/\H b=some (.set kb)/\∀q,H q=none->Q (.ref q) (upd H q (.set (ka.filter λk=>decide (k∈kb))))) z8Z:=by
 intro ρ h H x y v u Q r rx ry fin;unfold z8Z at fin;split at fin
 ·rename_i a b;split at fin
  ·exact fin.elim
  ·rename_i ne;simp only[RD]at rx ry;obtain⟨qa,rfl,ha⟩:=rx;obtain⟨qb,rfl,hb⟩:=ry;obtain⟨ka,h1,f2⟩:=z4b r ha (Fin.bind fin);obtain⟨kb,h2,f3⟩:=z4b r hb (Fin.bind f2);exact⟨qa,qb,ka,kb,rfl,rfl,λz=>ne (r.nd a b qa ha (z ▸ hb)),h1,h2,λq hq=>z3B r hq f3⟩
 ·exact fin.elim
theorem zE6(ha:SE X EX a ma)(hb:SE X EX b mb):SE X EX (.BinOp a .BitAnd b pos) (e2 z8Z ma mb):=z4V zG1 zD4 ha hb
theorem zU1:OpR X (K2r .BitOr) (rI0 λi j=>.int (K6r i j)):=opI0 λ_ _ _ _ _ _ _ q=>or_int q
theorem z5R(ha:SE X EX a ma)(hb:SE X EX b mb):SE X EX (.BinOp a .BitOr b pos) (e2 fBor ma mb):=z4V zU1 (zj2 λi j ρ H=>by simp[RD]) ha hb
end
structure MtR(P:K1i)(w:World)(K:K5)(mg:Str->Option Value)(base:Heap)(k:Nat)(c m q:Str)(st:Stmt)(dk:Addr)(ps:List Str)(mf:List D->M D):Prop where
 ex:∃(C f:Addr) (doc pm:Value) (an:Option Addr) (cdv ct:Value),OwC K c C/\Meth K C m f/\FnOk P w K mg base CX0 k f (K2i m q (z13 st) (z03 st) (j3 st) .none (.ref dk) doc pm an cdv ct) ps (spB K mf ps.length)
def kvG(v:Nat->D)(l:List Nat):List (Key×D):=l.map λ(x:Nat)=>(.inl (x:Int),v x)
theorem zI7:(kvG v l).length=l.length:=by unfold kvG;simp
theorem zc3:((kvG v l).any λkv=>decide (kv.1=.inl (x:Int)))=decide (x∈l):=by
 unfold kvG;induction l with
 | nil=>rfl
 | cons a l ih=>
  rw[K0p,K2g,ih];have:decide (((.inl (a:Int),v a):Key×D).1=.inl (x:Int))=decide (x=a):=by
   rw[K0n,.(i),.(i)];exact⟨λh=>by injection h with h;omega,λh=>by subst h;rfl⟩
  rw[this];simp[K0l,Z3d]
theorem zw0(h:x∈l):lkD (kvG v l) (.inl (x:Int))=some (v x):=by
 unfold lkD kvG;induction l with
 | nil=>cases h
 | cons a l ih=>
  rw[K0p,K2s];by_cases e:a=x
  ·subst e;simp
  ·have n:decide (((.inl (a:Int),v a):Key×D).1=.inl (x:Int))=false:=.(k) λq=>e (by
    have q:(K21 (a:Int):Key)=K21 (x:Int):=q;injection q with q;omega)
   rw[n];exact ih (by
    cases h with
    | head=>exact(e rfl).elim
    | tail _ h=>exact h)
theorem zW0(h:x∉l):lkD (kvG v l) (.inl (x:Int))=none:=by
 have:=zc3 (v:=v) (l:=l) (x:=x);rw[.(k) h]at this;unfold lkD;rw[List.find?_eq_none.mpr]
 ·rfl
 ·intro kv hk z;rw[Z2e]at this;exact this kv hk z
theorem zn7(h:x∉l):ptD (kvG v l) (.inl (x:Int)) (v x)=kvG v (l++[x]):=by
 unfold ptD;rw[zc3,.(k) h];unfold kvG;simp
theorem zg2{v':Nat->D}(h:∀x∈l,v x=v' x):kvG v l=kvG v' l:=by
 unfold kvG;exact K5e λa ha=>by rw[h a ha]
def DAt(h:AH)(n:Nat)(kvs:List (Key×D)):Prop:=h[n]?=some (.dK kvs)\/h[n]?=some (.dF kvs)
theorem DAt.app(e:DAt h n kvs):DAt (h++j) n kvs:=by
 rcases e with e|e
 ·exact .inl (j9 e)
 ·exact .inr (j9 e)
theorem z9U(e:DAt h n kvs):getK n h=.ok kvs h:=by
 unfold getK;rcases e with e|e<;>rw[e]
theorem Z1d(e:DAt h n (kvG v l)):fInD neg (.int (x:Nat)) (.ref n) h=.ok (.bl (decide (x∈l) != neg)) h:=by
 show (getK n >>= λkvs=>_) h=_;rw[M.bind_ok (z9U e)];show (pure (D.bl ((lkD (kvG v l) (.inl (x:Int))).isSome != neg)):M D) h=_;by_cases c:x∈l
 ·rw[zw0 c,decide_eq_true c];rfl
 ·rw[zW0 c,.(k) c];rfl
theorem zM4(e:DAt h n (kvG v l))(hx:x∈l):z2R (.ref n) (.int (x:Nat)) h=.ok (v x) h:=by
 show (getK n >>= λkvs=>_) h=_;rw[M.bind_ok (z9U e)];show (match lkD (kvG v l) (.inl (x:Int)) with|some d=>pure d|none=>bad:M D) h=_;rw[zw0 hx];rfl
section
variable{prog:K1i}{A:Around}
theorem zC1{s:Shared}{l:Addr}{items:Array Value}{Q:Bool->Shared->Prop}(L:s.heap.IsList l items)(z:Q false s):wpAny (model prog w) A (notIterableAtAll (.ref l)) Q E s:=by
 unfold notIterableAtAll;refine K0 (K96 (T:="list") L.typeIs PySem.F.slot_list_iter.lookup ?_);exact K4 z
theorem z6e{it l:Addr}{items:Array Value}(ne:l≠it):∀(n i:Nat) (s:Shared) (Q:List Value->Shared->Prop),s.heap.IsListIter it l i->s.heap.IsList l items->i+n<=items.size ->
 (∀h':Heap,h'.IsListIter it l (i+n)->K1y it s.heap h'->Q ((items.toList.drop i).take n) { s with heap:=h' })->wpAny (model prog w) A (draw (.ref it) n) Q E s
 | 0,i,s,Q,hi,hl,hn,z=>by
  unfold draw;have:=z s.heap hi (K3y _ _);rw[List.take_zero]at this;exact K4 this
 | n+1,i,s,Q,hi,hl,hn,z=>by
  have lt:i<items.size:=by omega
  unfold draw;refine K0 (K90 hi hl (K1m lt) λh' hi' sb=>?_);dsimp only;refine K0 (K1h (z6e ne n (i+1) _ _ hi' (hl.extBut sb.extBut ne) .(0) λh2 hi2 sb2=>K4 ?_));have:=z h2 (by rw[show i+(n+1)=i+1+n by omega];exact hi2) (sb.trans sb2);rw[K25 (by simpa using lt)]at this;exact this
theorem z7w{s:Shared}{l:Addr}{items:Array Value}{Q:Unit->Shared->Prop}(hd:A.handled=none)(L:s.heap.IsList l items)(hn:targets.length=items.size)(hst:targets.findIdx? (·.1)=none)
 (z:∀h':Heap,(∀b o,s.heap.get? b=some o->h'.get? b=some o)->wpAny (model prog w) A (assignInOrder (targets.map (·.2)) items.toList) Q E { s with heap:=h' }):wpAny (model prog w) A (unpack (.ref l) targets) Q E s:=by
 unfold unpack;rw[hst,hn];refine K0 (K1h ?_);unfold unpackItems;refine K0 (zC1 L ?_);rw[if_neg .(1)];refine K0 (K1h (K4x L ?_));dsimp only;obtain⟨o,eo,ec,m,ed⟩:=L;have ll:l<s.heap.objs.size:=K0f eo;have ne:l≠s.heap.objs.size:=K0x ll;have L1:(s.heap.push { cls:=.type "list_iterator",data:=.fields #[.ref l,.int 0 0] }).IsList l items:=Heap.IsList.push ⟨o,eo,ec,m,ed⟩ _;refine K0 (K1h (z6e ne .(w) 0 _ _ ⟨_,K0j s.heap rfl,rfl,rfl⟩ L1 .(0) λh' hi sb=>?_));rw[show (items.toList.drop 0).take .(w)=items.toList by rw[K7d];exact K32 .(e)];dsimp only;rw[if_neg .(e)];refine K0 (K1h (K9e hd hi (L1.extBut sb.extBut ne) .(e) λh2 eb=>?_));rw[if_neg .(e)];refine K4 (z h2 λb ob hb=>?_);have hl:b<s.heap.objs.size:=K0f hb;have nb:b≠s.heap.objs.size:=K0x hl;refine eb b ob nb ?_;rw[sb.2 b nb];exact K9 _ hb
end
section
variable{X:L2.Cx}
def Z0V(K:K5)(n:Nat)(t:TGs):TG:=λv σ H Q=>∃a xs,v=.ref a/\SqL K H a xs/\xs.length=n/\t xs σ H Q
theorem zJ4{es:List Expr}{k:Nat}{t:TGs}{n:Nat}{pos:Pos}(hc:X.calm=true)(h:PGs X es t)
 (hn:(K2c es X.env).length=n:=by rfl) (hst:(K2c es X.env).findIdx? (·.1)=none:=by rfl):PG X (.Tuple es k pos) (Z0V X.K n t):=by
 intro pins s σ H v u Q I r hw;obtain⟨a,xs,e1,hq,hl,hw⟩:=hw;subst e1;cases r;obtain⟨its,rv,pl,hz⟩:=I.list hq;rw[assign_Tuple];refine K0 (K3o ?_);refine z7w (I.ok.hd hc) pl.isList (by simp[hn,<- hl,rv.length]) hst λh' hx=>?_;have I1:Inv X pins σ H { s with heap:=h' }:=I.kept (t':=s.toks) λb o e=>hx b o e;exact h pins _ σ H xs _ Q I1 (by simpa using rv) hw
def gTL(n:Nat)(m:List D->G->M G):D->G->M G:=λd γ=>match d with
 | .ref k=>do
  let xs <- getL k
  if xs.length=n then m xs γ else bad
 | _=>bad
theorem zH1{es:List Expr}{k:Nat}{m:List D->G->M G}(hc:X.calm=true)(h:SGs X EX es m)(hn:(K2c es X.env).length=n:=by rfl)(hst:(K2c es X.env).findIdx? (·.1)=none:=by rfl):SG X EX (.Tuple es k pos) (gTL n m):=
 ⟨PG.imp (zJ4 hc h.h hn hst) λv σ H Q ⟨ρ,γ,h,d,rel,rd,fin⟩=>by
  cases d<;>first|exact(show False from fin).elim|skip
  rename_i i;simp only[RD]at rd;obtain⟨b,rfl,hb⟩:=rd;have f2:=Fin.bind (show Fin X.K EX ρ H (λγ' ρ' _ H'=>∀σ',RG X.K ρ' H' γ' σ'->Q σ' H') ((getL i >>= λxs=>if xs.length=n then m xs γ else bad) h) from fin);cases e3:getL i h with
  | bad=>rw[e3]at f2;exact f2.elim
  | err z hz=>exact(z14 e3).elim
  | ok xs h1=>
   obtain⟨rfl,q1⟩:=z12 e3;rw[e3]at f2;obtain⟨a1,n1,us,o1,d1⟩:=rel.h.at q1;rw[hb]at n1;cases n1;have f3:=f2 ρ H .(c) .(b) rel.h;dsimp only at f3;by_cases hl:xs.length=n
   ·rw[if_pos hl]at f3;exact⟨b,us,rfl,.inl (.inl o1),by rw[<- d1.length];exact hl,ρ,γ,h1,xs,rel,d1,f3⟩
   ·rw[if_neg hl]at f3;exact(show False from f3).elim⟩
end
def top (i:Nat):Stmt:=PySem.Challenge.pw_fairtrees_k31_whole_fair_run.main.body.getD i (.Pass ⟨0,0,0,0⟩)
def z46:G->M Out:=
 (z9 (sRet (clE (Z8 y3 (z7 (Z8 z0Q (z7 (Z8 z1H (z7 .(g) aNil)) aNil)) aNil)))) bNil)
def z28:List D->M D:=λds=>cln (runF 1 z46 ds)
def z44:G->M Out:=
 (z9 (sRet (clE (Z8 y3 (z7 (Z8 z0Q (z7 (e2 z8Z (Z8 z1H (z7 .(g) aNil)) (Z8 z1H (z7 .(l) aNil))) aNil)) aNil)))) bNil)
def z4f:List D->M D:=λds=>cln (runF 2 z44 ds)
def z0d:G->M Out:=
 (z9 (sAsg (λ_=>newSet []) (gN 1)) (z9 (sAsg (eLst aNil) (gN 2)) (z9 (z2a 3 [none] (iDic .(g)) (gN 0) (λ_=>pure true) (eTup (z7 .(g) (z7 (λ_=>pure (.bl false)) aNil)))) (z9 (z1C (cVal (eVar 3)) (z9 (sAsg (eM0 fPop (eVar 3)) (gT 2 (z0y (gN 4) (z0y (gN 5) z3x)))) (z9 (sIf (cVal (eVar 5)) (z9 (z04 (eM1 y0 .(t) (eVar 4))) bNil) (z9 (sIf (λγ=>do let d <- e2 (fInS true) (eVar 4) .(l) γ;asB d) (z9 (z04 (eMS z96 .(l) (eVar 4))) (z9 (z04 (eM1 y0 (eVar 3) (eTup (z7 (eVar 4) (z7 (λ_=>pure (.bl true)) aNil))))) (z9 (z04 (eM1 z1Q (eVar 3) (z00 [none] (z0p (e2 z2R .(g) (eVar 4))) (gN 0) (λ_=>pure true) (eTup (z7 .(g) (z7 (λ_=>pure (.bl false)) aNil)))))) bNil))) bNil) bNil)) bNil)) 1000000) (z9 (sRet .(t)) bNil)))))
def z0B:List D->M D:=λds=>cln (runF 6 z0d ds)
def z4d:G->M Out:=
 (z9 (z7D 1 [none] (iDic .(g)) (gN 0) (λ_=>pure true) .(g) (eLst aNil)) (z9 (sFor (iDic .(g)) (gN 2) (z9 (sFor (z0p (e2 z2R .(g) .(t))) (gN 3) (z9 (z04 (eM1 y0 (e2 z2R .(l) (eVar 3)) .(t))) bNil)) bNil)) (z9 (sRet .(l)) bNil)))
def z3h:List D->M D:=λds=>cln (runF 4 z4d ds)
def z0L:G->M Out:=
 (z9 (sAsg (λ_=>pure (.bl true)) (gDx .(t) .(l))) (z9 (sAsg (eLst aNil) (gN 3)) (z9 (sAsg (eLst (z7 .(l) aNil)) (gN 4)) (z9 (z1C (cVal (eVar 4)) (z9 (sAsg (eM0 fPop (eVar 4)) (gN 5)) (z9 (z04 (eM1 y0 (eVar 3) (eVar 5))) (z9 (sFor (z0p (e2 z2R .(g) (eVar 5))) (gN 6) (z9 (sIf (λγ=>do let d <- e2 (fInD true) (eVar 6) .(t) γ;asB d) (z9 (sAsg (λ_=>pure (.bl true)) (gDx .(t) (eVar 6))) (z9 (z04 (eM1 y0 (eVar 4) (eVar 6))) bNil)) bNil) bNil)) bNil))) 1000000) (z9 (sRet (eFn 1 z28 (z7 (eVar 3) aNil))) bNil)))))
def z2X:List D->M D:=λds=>cln (runF 7 z0L ds)
def z3D:G->M Out:=
 (z9 (sAsg (λ_=>newK []) (gN 1)) (z9 (sAsg (eLst aNil) (gN 2)) (z9 (sFor (zq7 (eFn 1 z0B (z7 (eFn 1 z3h (z7 .(g) aNil)) aNil))) (gN 3) (z9 (sIf (λγ=>do let d <- e2 (fInD true) (eVar 3) .(l) γ;asB d) (z9 (z04 (eM1 y0 .(t) (eFn 3 z2X (z7 .(g) (z7 (eVar 3) (z7 .(l) aNil)))))) bNil) bNil) bNil)) (z9 (sRet .(t)) bNil))))
def z7L:List D->M D:=λds=>cln (runF 4 z3D ds)
def z2s:G->M Out:=
 (z9 (sRet (eOr (e2 fGt (Z8 fLen (z7 .(l) aNil)) .(2)) (e2 (fIn false) (e2 fIx .(l) .(8)) (e2 fIx .(g) (e2 fIx .(l) .(8)))))) bNil)
def z2x:List D->M D:=λds=>cln (runF 2 z2s ds)
def z5t:G->M Out:=
 (z9 (sRet (eOr (e2 (fEq false) .(t) (λ_=>pure (.str ""))) (e2 (fIn false) .(t) (e2 fIx (e2 fIx .(g) .(2)) .(l))))) bNil)
def z1G:List D->M D:=λds=>cln (runF 3 z5t ds)
def z1i:G->M Out:=
 (z9 (sRet (clE (Z8 (fAll true) (z7 (z00 [some 0,some 2,none] (orE (z0o .(l)) (z0p .(l))) (gN 2) (λ_=>pure true) (eFn 3 z1G (z7 .(g) (z7 .(t) (z7 .(l) aNil))))) aNil)))) bNil)
def z0e:List D->M D:=λds=>cln (runF 3 z1i ds)
def z3q:G->M Out:=
 (z9 (sRet (clE (Z8 y3 (z7 (z00 [some 0,some 1,none] (Y4 (Z8 fLen (z7 (e2 fIx .(g) .(2)) aNil))) (gN 2) (cVal (eFn 3 z1G (z7 .(g) (z7 .(t) (z7 .(l) aNil))))) .(t)) aNil)))) bNil)
def z2h:List D->M D:=λds=>cln (runF 2 z3q ds)
def z0P:G->M Out:=
 (z9 (sAsg (z3Y [none] (z0o .(l)) (gN 0) (λ_=>pure true) .(g) (λ_=>pure (.bl true))) (gN 2)) (z9 (sRet (z3Y [some 0,some 2,none] (z0o .(l)) (gN 2) (λ_=>pure true) .(t) (z00 [some 1,none] (z0o (e2 fIx (e2 fIx .(g) .(8)) .(t))) (gN 1) (λγ=>do let d <- e2 (fInD false) .(l) .(g) γ;asB d) .(l)))) bNil))
def z0T:List D->M D:=λds=>cln (runF 3 z0P ds)
def z0O:G->M Out:=
 (z9 (sRet (eFn 1 z7L (z7 (eFn 2 z0T (z7 .(g) (z7 .(l) aNil))) aNil))) bNil)
def z0x:List D->M D:=λds=>cln (runF 2 z0O ds)
def z0H:G->M Out:=
 (z9 (sFor (zW5 .(t)) (gT 2 (z0y (gN 3) (z0y (gT 2 (z0y (gN 4) (z0y (gN 5) z3x))) z3x))) (z9 (sIf (cAnd (cVal (eFn 3 z0e (z7 .(g) (z7 .(l) (z7 (eVar 4) aNil))))) (cNot (cVal (eFn 3 z0e (z7 .(g) (z7 .(l) (z7 (eVar 5) aNil))))))) (z9 (sRet (eVar 3)) bNil) bNil) bNil)) (z9 (sRet (eNeg .(2))) bNil))
def z26:List D->M D:=λds=>cln (runF 6 z0H ds)
def z1g:G->M Out:=
 (z9 (sRet (clE (Z8 y3 (z7 (z00 [some 0,some 2,none] (z0o .(l)) (gN 2) (cNot (cVal (eFn 3 z1G (z7 .(g) (z7 .(t) (z7 .(l) aNil)))))) .(t)) aNil)))) bNil)
def z1d:List D->M D:=λds=>cln (runF 3 z1g ds)
def z0W:G->M Out:=
 (z9 (sAsg (eLst aNil) (gN 3)) (z9 (sAsg (eLst (z7 .(l) aNil)) (gN 4)) (z9 (z1C (cVal (eVar 4)) (z9 (sAsg (eM0 fPop (eVar 4)) (gN 5)) (z9 (sFor (z0p (eFn 2 z0x (z7 .(g) (z7 (eVar 5) aNil)))) (gN 6) (z9 (sIf (cVal (eFn 2 z2x (z7 (e2 fIx .(g) .(8)) (z7 (eVar 6) aNil)))) (z9 (sAsg (eFn 3 z26 (z7 .(g) (z7 (eVar 6) (z7 .(t) aNil)))) (gN 7)) (z9 (sIf (λγ=>do let d <- e2 (fEq false) (eVar 7) (eNeg .(2)) γ;asB d) (z9 (z04 (eM1 y0 (eVar 3) (eVar 6))) bNil) (z9 (z04 (eM1 y0 (eVar 4) (eFn 3 z1d (z7 .(g) (z7 (eVar 6) (z7 (e2 fIx (e2 fIx .(t) (eVar 7)) .(8)) aNil)))))) bNil)) bNil)) bNil) bNil)) bNil)) 1000000) (z9 (sRet (eVar 3)) bNil))))
def z2k:List D->M D:=λds=>cln (runF 8 z0W ds)
def z1o:G->M Out:=
 (z9 (sAsg (eLst (z7 .(t) aNil)) (gN 3)) (z9 (z1C (λγ=>do let d <- e2 (fEqX true) (e2 z2R .(g) (e2 fIx (eVar 3) (eNeg .(2)))) .(l) γ;asB d) (z9 (z04 (eM1 y0 (eVar 3) (e2 z2R .(g) (e2 fIx (eVar 3) (eNeg .(2)))))) bNil) 1000000) (z9 (z04 (eM0 z48 (eVar 3))) (z9 (sRet (eVar 3)) bNil))))
def z2W:List D->M D:=λds=>cln (runF 4 z1o ds)
def z2c:G->M Out:=
 (z9 (sAsg (eFn 2 z0T (z7 .(g) (z7 .(t) aNil))) (gN 4)) (z9 (sAsg (λ_=>newK []) (gN 5)) (z9 (sAsg (eLst (z7 .(l) aNil)) (gN 6)) (z9 (sAsg .(8) (gN 7)) (z9 (z1C (λγ=>do let d <- e2 fLt (eVar 7) (Z8 fLen (z7 (eVar 6) aNil)) γ;asB d) (z9 (sAsg (e2 fIx (eVar 6) (eVar 7)) (gN 8)) (z9 (sAug 7 (λi j=>i+j) .(2)) (z9 (sFor (z0p (e2 z2R (eVar 4) (eVar 8))) (gN 9) (z9 (sIf (λγ=>do let d <- e2 (fInD true) (eVar 9) (eVar 5) γ;asB d) (z9 (sAsg (eVar 8) (gDx (eVar 5) (eVar 9))) (z9 (sIf (λγ=>do let d <- e2 (fIn false) (eVar 9) (eVar 3) γ;asB d) (z9 (sRet (eFn 3 z2W (z7 (eVar 5) (z7 .(l) (z7 (eVar 9) aNil))))) bNil) bNil) (z9 (z04 (eM1 y0 (eVar 6) (eVar 9))) bNil))) bNil) bNil)) bNil))) 1000000) (z9 (sRet (eLst aNil)) bNil))))))
def z1M:List D->M D:=λds=>cln (runF 10 z2c ds)
def z1l:G->M Out:=
 (z9 (sAsg (eLst (z7 .(l) aNil)) (gN 4)) (z9 (sFor (z0o (eVar 3)) (gT 2 (z0y (gN 5) (z0y (gN 6) z3x))) (z9 (sIf (cAnd (cVal (eFn 3 z0e (z7 .(g) (z7 .(t) (z7 (eVar 5) aNil))))) (cNot (cVal (eFn 3 z0e (z7 .(g) (z7 (eVar 4) (z7 (eVar 6) aNil))))))) (z9 (z04 (eM1 z1Q (eVar 4) (eFn 4 z1M (z7 .(g) (z7 (e2 fIx (eVar 4) (eNeg .(2))) (z7 .(t) (z7 (eFn 2 z4f (z7 .(t) (z7 (eFn 2 z2h (z7 .(g) (z7 (eVar 6) aNil))) aNil))) aNil))))))) bNil) bNil) bNil)) (z9 (z04 (eM1 z1Q (eVar 4) (eFn 4 z1M (z7 .(g) (z7 (e2 fIx (eVar 4) (eNeg .(2))) (z7 .(t) (z7 (eTup (z7 .(l) aNil)) aNil))))))) (z9 (sRet (clE (Z8 y3 (z7 (z1u (eVar 4) z3I (z2F (eNeg .(2)))) aNil)))) bNil))))
def z2S:List D->M D:=λds=>cln (runF 7 z1l ds)
def z1J:G->M Out:=
 (z9 (sIf (λγ=>do let d <- e2 (fIn true) .(l) .(t) γ;asB d) (z9 (sRet (λ_=>pure .non)) bNil) bNil) (z9 (sAsg (eFn 3 z2k (z7 .(g) (z7 .(t) (z7 (eVar 3) aNil)))) (gN 4)) (z9 (sAsg (eFn 1 z28 (z7 (z6q [none,none] (z0p (eVar 4)) (gN 0) (z0o .(g)) (gN 1) (λ_=>pure true) .(l)) aNil)) (gN 5)) (z9 (sAsg (eLst (z7 .(l) aNil)) (gN 6)) (z9 (sIf (λγ=>do let d <- e2 (fIn true) .(l) (eVar 5) γ;asB d) (z9 (z04 (eM1 z1Q (eVar 6) (eFn 4 z1M (z7 .(g) (z7 .(l) (z7 .(t) (z7 (eVar 5) aNil))))))) bNil) bNil) (z9 (sFor (z0p (eVar 4)) (gN 7) (z9 (sIf (λγ=>do let d <- e2 (fIn false) (e2 fIx (eVar 6) (eNeg .(2))) (eVar 7) γ;asB d) (z9 (sRet (eTup (z7 (clE (Z8 y3 (z7 (z1u (eVar 6) z3I (z2F (eNeg .(2)))) aNil))) (z7 (eFn 4 z2S (z7 .(g) (z7 (e2 fIx (eVar 6) (eNeg .(2))) (z7 (eVar 7) (z7 (eVar 3) aNil))))) aNil)))) bNil) bNil) bNil)) (z9 (sRet (λ_=>pure .non)) bNil)))))))
def z1h:List D->M D:=λds=>cln (runF 8 z1J ds)
theorem sc_fair_run:FnScope ["machine","standing","within","wishes","parts","goal","walk","part"] ["machine","standing","within","wishes"] (j3 (top 20)):=⟨rfl,rfl,rfl,by decide +kernel,rfl,by decide +kernel,by decide +kernel⟩
def z20:G->M Out:=
 (z9 (z2a 1 [none] (z0p .(g)) (gN 0) (λγ=>do let d <- e2 fGe .(g) (e2 fPow (λ_=>pure (.int 10)) (λ_=>pure (.int 18))) γ;asB d) .(g)) (z9 (sRet (eLst (z7 .(l) (z7 (z00 [none] (z0p .(g)) (gN 0) (λγ=>do let d <- e2 fLt .(g) (e2 fPow (λ_=>pure (.int 10)) (λ_=>pure (.int 18))) γ;asB d) .(g)) (z7 (λ_=>pure (.int 5)) (z7 .(8) aNil)))))) bNil))
def z2Y:List D->M D:=runF 2 z20
def z1q:G->M Out:=
 (z9 (sIf (λγ=>do let d <- e2 fGt (Z8 fLen (z7 (e2 fIx .(g) .(8)) aNil)) .(8) γ;asB d) (z9 (sAsg (e2 fIx (e2 fIx .(g) .(8)) .(8)) (gN 2)) (z9 (sAsg (e2 fDiv .(t) .(l)) (gIx (e2 fIx .(g) .(8)) .(8))) (z9 (sIf (λγ=>do let d <- e2 (fEq false) (e2 fDiv .(t) .(l)) .(8) γ;asB d) (z9 (z04 (eM1 z56 (e2 fIx .(g) .(8)) .(8))) bNil) bNil) (z9 (sRet (e2 fMod .(t) .(l))) bNil)))) bNil) (z9 (sAsg (e2 fAdd (e2 fIx .(g) (λ_=>pure (.int 3))) .(2)) (gIx .(g) (λ_=>pure (.int 3)))) (z9 (sAsg .(8) (gN 2)) (z9 (sIf (λγ=>do let d <- e2 fGt (Z8 fLen (z7 (e2 fIx .(g) .(2)) aNil)) .(8) γ;asB d) (z9 (sAsg (e2 fIx (e2 fIx .(g) .(2)) (e2 fMod (e2 fIx .(g) (λ_=>pure (.int 3))) (Z8 fLen (z7 (e2 fIx .(g) .(2)) aNil)))) (gN 2)) bNil) bNil) (z9 (sAsg (e2 z5o (e2 fMod .(t) (λ_=>pure (.int 2147483629))) (e2 fAdd (e2 z5o (e2 fIx .(g) (λ_=>pure (.int 3))) (e2 fIx .(g) (λ_=>pure (.int 3)))) .(2))) (gN 2)) (z9 (sAsg (e2 fMod (e2 fAdd (e2 fAdd (e2 z5o (e2 fIx .(g) (λ_=>pure (.int 2))) (λ_=>pure (.int 48271))) .(t)) (e2 z5o (λ_=>pure (.int 97)) (e2 fIx .(g) (λ_=>pure (.int 3))))) (λ_=>pure (.int 2147483647))) (gIx .(g) (λ_=>pure (.int 2)))) (z9 (sRet (e2 fMod (e2 fDiv (e2 fMod (e2 fPow (e2 fIx .(g) (λ_=>pure (.int 2))) (λ_=>pure (.int 5))) (λ_=>pure (.int 2147483629))) (λ_=>pure (.int 64))) .(l))) bNil)))))))
def Z6:List D->M D:=runF 3 z1q
def z1p:G->M Out:=
 (z9 (sAsg (λ_=>pure (.str "abcdefghijklmnopqrstuvwxyz")) (gN 3)) (z9 (sAsg .(l) (gN 4)) (z9 (sFor (Y4 (eFn 2 Z6 (z7 .(g) (z7 (λ_=>pure (.int 4)) aNil)))) (gN 5) (z9 (sAsg (e2 fAdd (eVar 4) (e2 fIx (eVar 3) (eFn 2 Z6 (z7 .(g) (z7 (λ_=>pure (.int 26)) aNil))))) (gN 4)) bNil)) (z9 (sAsg (eFn 2 Z6 (z7 .(g) (z7 (λ_=>pure (.int 26)) aNil))) (gN 6)) (z9 (sAsg (eLst (z7 (λ_=>pure (.str "yes")) (z7 (λ_=>pure (.str "no")) (z7 (λ_=>pure (.str "not")) (z7 (λ_=>pure (.str "and")) (z7 (λ_=>pure (.str "or")) (z7 (λ_=>pure (.str "step")) (z7 (λ_=>pure (.str "some")) (z7 (λ_=>pure (.str "all")) (z7 (λ_=>pure (.str "next")) (z7 (λ_=>pure (.str "once")) (z7 (λ_=>pure (.str "ever")) (z7 (λ_=>pure (.str "until")) (z7 (λ_=>pure (.str "unless")) aNil)))))))))))))) (gN 7)) (z9 (sFor (Y4 (λ_=>pure (.int 26))) (gN 5) (z9 (sAsg (e2 fAdd (eVar 4) (e2 fIx (eVar 3) (e2 fMod (e2 fAdd (eVar 6) (eVar 5)) (λ_=>pure (.int 26))))) (gN 8)) (z9 (sIf (cAnd (λγ=>do let d <- e2 (fIn true) (eVar 8) (eVar 7) γ;asB d) (λγ=>do let d <- e2 (fIn true) (eVar 8) .(t) γ;asB d)) (z9 (sRet (eVar 8)) bNil) bNil) bNil))) (z9 (sRet (e2 fAdd (eVar 4) (λ_=>pure (.str "x")))) bNil)))))))
def z30:List D->M D:=λds=>cln (runF 9 z1p ds)
def z1y:G->M Out:=
 (z9 (sAsg (λ_=>pure (.str "abcdefghijklmnopqrstuvwxyz")) (gN 2)) (z9 (sAsg (λ_=>pure (.str "")) (gN 3)) (z9 (sFor (Y4 (clE (e2 fIx (eLst (z7 .(8) (z7 .(8) (z7 .(2) (z7 (λ_=>pure (.int 4)) aNil))))) (eFn 2 Z6 (z7 .(g) (z7 (λ_=>pure (.int 4)) aNil)))))) (gN 4) (z9 (sAsg (e2 fAdd (eVar 3) (e2 fIx .(t) (eFn 2 Z6 (z7 .(g) (z7 (λ_=>pure (.int 26)) aNil))))) (gN 3)) bNil)) (z9 (sAsg (eLst aNil) (gN 5)) (z9 (sFor (Y4 .(l)) (gN 4) (z9 (z04 (eM1 y0 (eVar 5) (eFn 3 z30 (z7 .(g) (z7 (eVar 3) (z7 (eVar 5) aNil)))))) bNil)) (z9 (sRet (eVar 5)) bNil))))))
def z2e:List D->M D:=λds=>cln (runF 6 z1y ds)
def z0R:G->M Out:=
 (z9 (sAsg (e2 fAdd .(2) (eFn 2 Z6 (z7 .(g) (z7 .(t) aNil)))) (gN 3)) (z9 (sAsg (e2 fAdd .(2) (eFn 2 Z6 (z7 .(g) (z7 (λ_=>pure (.int 4)) aNil)))) (gN 4)) (z9 (sAsg (eLst aNil) (gN 5)) (z9 (sAsg (eLst aNil) (gN 6)) (z9 (sFor (Y4 (eVar 3)) (gN 7) (z9 (z04 (eM1 y0 (eVar 5) (clE (Z8 y3 (z7 (z00 [some 0,some 4,none] (Y4 (eVar 3)) (gN 2) (λγ=>do let d <- e2 fLt (eFn 2 Z6 (z7 .(g) (z7 (λ_=>pure (.int 6)) aNil))) .(l) γ;asB d) .(t)) aNil))))) (z9 (z04 (eM1 y0 (eVar 6) (clE (Z8 y3 (z7 (Z8 z0f (z7 (z00 [some 0,none] (z0p .(l)) (gN 1) (λγ=>do let d <- e2 (fEq false) (eFn 2 Z6 (z7 .(g) (z7 (λ_=>pure (.int 2)) aNil))) .(2) γ;asB d) .(l)) aNil)) aNil))))) bNil))) (z9 (sRet (eTup (z7 (Z8 y3 (z7 (eVar 5) aNil)) (z7 (Z8 y3 (z7 (eVar 6) aNil)) aNil)))) bNil))))))
def z1F:List D->M D:=λds=>cln (runF 8 z0R ds)
def z1f:G->M Out:=
 (z9 (sAsg (e2 fAdd (eLst (z7 (λ_=>pure (.str "")) (z7 (λ_=>pure (.str "")) (z7 (λ_=>pure (.str "unborne")) aNil)))) .(l)) (gN 3)) (z9 (sAsg (eLst aNil) (gN 4)) (z9 (sFor (Y4 (eFn 2 Z6 (z7 .(g) (z7 (e2 fAdd .(t) .(2)) aNil)))) (gN 5) (z9 (sAsg (e2 fIx (eVar 3) (eFn 2 Z6 (z7 .(g) (z7 (Z8 fLen (z7 (eVar 3) aNil)) aNil)))) (gN 6)) (z9 (z04 (eM1 y0 (eVar 4) (eTup (z7 (eVar 6) (z7 (e2 fIx (eVar 3) (e2 fAdd (λ_=>pure (.int 2)) (eFn 2 Z6 (z7 .(g) (z7 (e2 fSub (Z8 fLen (z7 (eVar 3) aNil)) (λ_=>pure (.int 2))) aNil))))) aNil))))) bNil))) (z9 (sRet (Z8 y3 (z7 (eVar 4) aNil))) bNil))))
def z1T:List D->M D:=λds=>cln (runF 7 z1f ds)
def z02:G->M Out:=
 (z9 (sAsg (e2 fAdd .(2) (eFn 2 Z6 (z7 .(g) (z7 (λ_=>pure (.int 40)) aNil)))) (gN 2)) (z9 (sIf (λγ=>do let d <- e2 (fEq false) (eFn 2 Z6 (z7 .(g) (z7 (λ_=>pure (.int 4)) aNil))) .(8) γ;asB d) (z9 (sAsg (λ_=>pure (.int 40)) (gN 2)) bNil) bNil) (z9 (sAsg (eFn 2 Z6 (z7 .(g) (z7 (λ_=>pure (.int 3)) aNil))) (gN 3)) (z9 (sAsg (eLst aNil) (gN 4)) (z9 (sAsg (eLst aNil) (gN 5)) (z9 (sFor (Y4 .(t)) (gN 6) (z9 (sAsg (eLst (z7 (eFn 2 Z6 (z7 .(g) (z7 (λ_=>pure (.int 1048576)) aNil))) (z7 (eFn 2 Z6 (z7 .(g) (z7 (λ_=>pure (.int 1048576)) aNil))) aNil))) (gN 7)) (z9 (sIf (λγ=>do let d <- e2 fGt (eVar 3) .(8) γ;asB d) (z9 (sAsg (eLst (z7 (e2 fAnd (e2 fIx (eVar 7) .(8)) (eFn 2 Z6 (z7 .(g) (z7 (λ_=>pure (.int 1048576)) aNil)))) (z7 (e2 fAnd (e2 fIx (eVar 7) .(2)) (eFn 2 Z6 (z7 .(g) (z7 (λ_=>pure (.int 1048576)) aNil)))) aNil))) (gN 7)) bNil) bNil) (z9 (z04 (eM1 y0 (eVar 4) (clE (Z8 y3 (z7 (z00 [some 7,none] (Y4 .(t)) (gN 1) (λγ=>do let d <- e2 (fEq false) (e2 fAnd (e2 fShr (e2 fIx .(g) (e2 fDiv .(l) (λ_=>pure (.int 20)))) (e2 fMod .(l) (λ_=>pure (.int 20)))) .(2)) .(2) γ;asB d) .(l)) aNil))))) (z9 (sAsg (eFn 2 Z6 (z7 .(g) (z7 (λ_=>pure (.int 256)) aNil))) (gN 8)) (z9 (z04 (eM1 y0 (eVar 5) (clE (Z8 y3 (z7 (Z8 z0f (z7 (z00 [some 1,some 8,none] (Y4 (Z8 fLen (z7 .(l) aNil))) (gN 2) (λγ=>do let d <- e2 (fEq false) (e2 fAnd (e2 fShr .(l) .(t)) .(2)) .(2) γ;asB d) (e2 fIx .(g) .(t))) aNil)) aNil))))) bNil)))))) (z9 (sRet (eTup (z7 (Z8 y3 (z7 (eVar 4) aNil)) (z7 (Z8 y3 (z7 (eVar 5) aNil)) aNil)))) bNil)))))))
def z0v:List D->M D:=λds=>cln (runF 9 z02 ds)
def z0F:G->M Out:=
 (z9 (sRet (eAnd (eIsi "int" .(g)) (eAnd (eNot (eIsi "bool" .(g))) (e3 fLe fLt .(l) .(g) .(t))))) bNil)
def z1S:List D->M D:=λds=>cln (runF 3 z0F ds)
def z10:G->M Out:=
 (z9 (sRet (eAnd (eIsi "tuple" .(g)) (e3 fLe fLe .(l) (Z8 fLen (z7 .(g) aNil)) .(t)))) bNil)
def z11:List D->M D:=λds=>cln (runF 3 z10 ds)
def z1W:G->M Out:=
 (z9 (sAsg (eFn 2 Z6 (z7 .(g) (z7 (λ_=>pure (.int 4)) aNil))) (gN 2)) (z9 (sRet (clE (Z8 y3 (z7 (z00 [some 0,some 2,none] (Y4 .(l)) (gN 2) (λγ=>do let d <- e2 fLe (eFn 2 Z6 (z7 .(g) (z7 (λ_=>pure (.int 4)) aNil))) .(l) γ;asB d) .(t)) aNil)))) bNil))
def z2T:List D->M D:=λds=>cln (runF 3 z1W ds)
def z27:G->M Out:=
 (z9 (sAsg .(8) (gN 1)) (z9 (sFor (orE (z0o .(g)) (z0p .(g))) (gN 2) (z9 (sAsg (e2 fBor .(l) (clE (e2 fIx (eLst (z7 .(2) .(m))) .(t)))) (gN 1)) bNil)) (z9 (sRet .(l)) bNil)))
def z09:List D->M D:=λds=>cln (runF 3 z27 ds)
def z2y:G->M Out:=
 (z9 (sRet (clE (Z8 y3 (z7 (z00 [some 0,none] (Y4 (λ_=>pure (.int 6))) (gN 1) (λγ=>do let d <- e2 (fEq false) (e2 fMod (e2 fDiv .(g) (clE (e2 fIx (eLst (z7 .(2) .(m))) .(l)))) (λ_=>pure (.int 2))) .(2) γ;asB d) .(l)) aNil)))) bNil)
def z2u:List D->M D:=λds=>cln (runF 1 z2y ds)
def z1V:G->M Out:=
 (z9 (sRet (eFn 1 z09 (z7 (z00 [some 0,some 1,none] (Y4 (Z8 fLen (z7 .(g) aNil))) (gN 2) (λγ=>do let d <- e2 fGt (e2 fAnd (e2 fIx .(g) .(t)) .(l)) .(8) γ;asB d) .(t)) aNil))) bNil)
def z24:List D->M D:=λds=>cln (runF 2 z1V ds)
def z29:G->M Out:=
 (z9 (sAsg .(t) (gN 3)) (z9 (sFor (Y4 (Z8 fLen (z7 .(g) aNil))) (gN 4) (z9 (sAsg (e2 fBor (eVar 3) (e2 fAnd .(l) (eFn 2 z24 (z7 .(g) (z7 (eVar 3) aNil))))) (gN 3)) bNil)) (z9 (sRet (eVar 3)) bNil)))
def z1R:List D->M D:=λds=>cln (runF 5 z29 ds)
def z0Y:G->M Out:=
 (z9 (sFor (z0o (eFn 1 z2u (z7 .(l) aNil))) (gN 3) (z9 (sIf (λγ=>do let d <- e2 (fEqX true) (eFn 3 z1R (z7 .(g) (z7 .(l) (z7 (e2 fAnd .(l) (eFn 2 z24 (z7 .(g) (z7 (eFn 1 z09 (z7 (eLst (z7 (eVar 3) aNil)) aNil)) aNil)))) aNil)))) .(l) γ;asB d) (z9 (sRet (λ_=>pure (.bl false))) bNil) bNil) bNil)) (z9 (sFor (z0p .(t)) (gT 2 (z0y (gN 4) (z0y (gN 5) z3x))) (z9 (sIf (cAnd (λγ=>do let d <- e2 fGt (e2 fAnd .(l) (eVar 4)) .(8) γ;asB d) (λγ=>do let d <- e2 (fEq false) (e2 fAnd .(l) (eVar 5)) .(8) γ;asB d)) (z9 (sRet (λ_=>pure (.bl false))) bNil) bNil) bNil)) (z9 (sRet (λ_=>pure (.bl true))) bNil)))
def z1x:List D->M D:=λds=>cln (runF 6 z0Y ds)
def z1e:G->M Out:=
 (z9 (sAsg (clE (e2 fIx (eLst (z7 (λ_=>pure (.int 2)) (z7 (λ_=>pure (.int 4)) (z7 (λ_=>pure (.int 8)) (z7 (λ_=>pure (.int 16)) (z7 (λ_=>pure (.int 32)) (z7 (λ_=>pure (.int 64)) aNil))))))) (e2 fSub (Z8 fLen (z7 .(g) aNil)) .(2)))) (gN 2)) (z9 (sRet (z00 [some 0,some 1,none] (z4p .(2) .(t)) (gN 2) (cVal (eFn 3 z1x (z7 .(g) (z7 .(t) (z7 .(l) aNil))))) .(t))) bNil))
def z22:List D->M D:=λds=>cln (runF 3 z1e ds)
def z1P:G->M Out:=
 (z9 (sAsg .(8) (gN 3)) (z9 (sFor (z0p .(l)) (gN 4) (z9 (sIf (λγ=>do let d <- e2 (fEqX false) (e2 fAnd (eVar 4) .(t)) (eVar 4) γ;asB d) (z9 (sAsg (e2 fBor (eVar 3) (eVar 4)) (gN 3)) bNil) bNil) bNil)) (z9 (sRet (eFn 3 z1R (z7 .(g) (z7 .(t) (z7 (eVar 3) aNil))))) bNil)))
def z2V:List D->M D:=λds=>cln (runF 5 z1P ds)
def z1t:G->M Out:=
 (z9 (sRet (eFn 1 z09 (z7 (z00 [some 1,some 0,none] (Y4 (Z8 fLen (z7 (e2 fIx .(g) .(2)) aNil))) (gN 2) (cOr (λγ=>do let d <- e2 (fEq false) .(g) (λ_=>pure (.str "")) γ;asB d) (λγ=>do let d <- e2 (fIn false) .(g) (e2 fIx (e2 fIx .(l) .(2)) .(t)) γ;asB d)) .(t)) aNil))) bNil)
def z1s:List D->M D:=λds=>cln (runF 2 z1t ds)
def z1z:G->M Out:=
 (z9 (sRet (eOr (e2 (fEq false) .(t) (λ_=>pure (.str ""))) (e2 (fIn false) .(t) (e2 fIx (e2 fIx .(g) .(2)) .(l))))) bNil)
def x8:List D->M D:=λds=>cln (runF 3 z1z ds)
def z2v:G->M Out:=
 (z9 (z2a 3 [some 0,some 2,none] (z0o .(l)) (gN 2) (cVal (eFn 3 x8 (z7 .(g) (z7 .(t) (z7 (e2 fIx .(l) .(8)) aNil))))) .(t)) (z9 (sRet (eOr (clE (e2 (fEqX false) (eVar 3) (eLst aNil))) (clE (e2 (fEqX true) (z00 [some 0,some 2,none] (z0o .(l)) (gN 2) (cVal (eFn 3 x8 (z7 .(g) (z7 .(t) (z7 (e2 fIx .(l) .(2)) aNil))))) .(t)) (eLst aNil))))) bNil))
def z2w:List D->M D:=λds=>cln (runF 4 z2v ds)
def z1B:G->M Out:=
 (z9 (sIf (cOr (cNot (cVal (eFn 3 z11 (z7 (eVar 4) (z7 (λ_=>pure (.int 2)) (z7 (λ_=>pure (.int 2)) aNil)))))) (cOr (cNot (cVal (eFn 3 z11 (z7 (e2 fIx (eVar 4) .(8)) (z7 .(8) (z7 (λ_=>pure (.int 399)) aNil)))))) (cNot (cVal (eFn 3 z11 (z7 (e2 fIx (eVar 4) .(2)) (z7 .(2) (z7 (λ_=>pure (.int 400)) aNil)))))))) (z9 (sRet (λ_=>pure (.bl false))) bNil) bNil) (z9 (sAsg (e2 fAdd (e2 fIx (eVar 4) .(8)) (e2 fIx (eVar 4) .(2))) (gN 5)) (z9 (sIf (cOr (λγ=>do let d <- e2 fGt (Z8 fLen (z7 (eVar 5) aNil)) (λ_=>pure (.int 400)) γ;asB d) (λγ=>do let d <- e2 (fEqX true) (e2 fIx (eVar 5) .(8)) (eVar 3) γ;asB d)) (z9 (sRet (λ_=>pure (.bl false))) bNil) bNil) (z9 (sFor (z0o (eVar 5)) (gN 6) (z9 (sIf (cOr (cNot (cVal (eFn 3 z1S (z7 (eVar 6) (z7 .(8) (z7 (Z8 fLen (z7 (e2 fIx .(g) .(8)) aNil)) aNil)))))) (λγ=>do let d <- e2 (fIn true) (eVar 6) .(l) γ;asB d)) (z9 (sRet (λ_=>pure (.bl false))) bNil) bNil) bNil)) (z9 (sAsg (e2 fAdd (eVar 5) (z1u (e2 fIx (eVar 4) .(2)) z3I (z2F .(2)))) (gN 5)) (z9 (sFor (Y4 (e2 fSub (Z8 fLen (z7 (eVar 5) aNil)) .(2))) (gN 7) (z9 (sIf (λγ=>do let d <- e2 (fIn true) (e2 fIx (eVar 5) (e2 fAdd (eVar 7) .(2))) (e2 fIx (e2 fIx .(g) .(8)) (e2 fIx (eVar 5) (eVar 7))) γ;asB d) (z9 (sRet (λ_=>pure (.bl false))) bNil) bNil) bNil)) (z9 (sRet (clE (e2 (fEqX false) (z00 [some 0,some 4,none] (z0o .(t)) (gN 2) (cNot (cVal (eFn 3 z2w (z7 .(g) (z7 (e2 fIx .(l) .(2)) (z7 .(t) aNil)))))) .(t)) (eLst aNil)))) bNil)))))))
def z2p:List D->M D:=λds=>cln (runF 8 z1B ds)
def z1Y:G->M Out:=
 (z9 (sAsg (Z8 fLen (z7 (e2 fIx .(l) .(8)) aNil)) (gN 3)) (z9 (sAsg (eRng false (eVar 3)) (gN 4)) (z9 (sFor (Y4 (eVar 3)) (gN 5) (z9 (sAsg (eFn 2 Z6 (z7 .(g) (z7 (e2 fSub (eVar 3) (eVar 5)) aNil))) (gN 6)) (z9 (sAsg (e2 fAdd (e2 fAdd (z1u (eVar 4) z3I (z2F (eVar 6))) (z1u (eVar 4) (z2F (e2 fAdd (eVar 6) .(2))) z3I)) (eLst (z7 (e2 fIx (eVar 4) (eVar 6)) aNil))) (gN 4)) bNil))) (z9 (sAsg (e2 fAdd .(2) (eFn 2 Z6 (z7 .(g) (z7 (eVar 3) aNil)))) (gN 7)) (z9 (sAsg (clE (Z8 y3 (z7 (Z8 z0f (z7 (z1u (eVar 4) z3I (z2F (eVar 7))) aNil)) aNil))) (gN 8)) (z9 (sAsg (eFn 2 Z6 (z7 .(g) (z7 (eVar 7) aNil))) (gN 9)) (z9 (z2a 10 [none] (z0o (e2 fIx .(l) .(8))) (gN 0) (λ_=>pure true) (Z8 z5Q (z7 .(g) aNil))) (z9 (sFor (Y4 (eVar 7)) (gN 5) (z9 (sAsg (eIf (λγ=>do let d <- e2 fLt (e2 fAdd (eVar 5) .(2)) (eVar 7) γ;asB d) (e2 fIx (eVar 4) (e2 fAdd (eVar 5) .(2))) (e2 fIx (eVar 4) (eVar 9))) (gN 11)) (z9 (sIf (λγ=>do let d <- e2 (fIn true) (eVar 11) (e2 fIx (eVar 10) (e2 fIx (eVar 4) (eVar 5))) γ;asB d) (z9 (z04 (eM1 y0 (e2 fIx (eVar 10) (e2 fIx (eVar 4) (eVar 5))) (eVar 11))) bNil) bNil) bNil))) (z9 (sAsg (Z8 z5Q (z7 (e2 fIx .(l) .(2)) aNil)) (gN 12)) (z9 (sAsg (clE (Z8 y3 (z7 (Z8 z0f (z7 .(t) aNil)) aNil))) (gIx (eVar 12) (e2 fIx (eVar 4) (eVar 9)))) (z9 (sRet (eLst (z7 (eTup (z7 (clE (Z8 y3 (z7 (z00 [none] (z0p (eVar 10)) (gN 0) (λ_=>pure true) (clE (Z8 y3 (z7 (Z8 z0f (z7 .(g) aNil)) aNil)))) aNil))) (z7 (Z8 y3 (z7 (eVar 12) aNil)) aNil))) (z7 (eVar 8) (z7 (e2 fIx (eVar 4) .(8)) aNil))))) bNil)))))))))))
def z32:List D->M D:=λds=>cln (runF 13 z1Y ds)
def z2r:G->M Out:=
 (z9 (z2a 3 [none] (z0o (e2 fIx .(g) .(8))) (gN 0) (λ_=>pure true) (eFn 1 z09 (z7 .(g) aNil))) (z9 (z2a 4 [some 0,none,none] (z0o .(t)) (gT 2 (z0y (gN 1) (z0y (gN 2) z3x))) (λ_=>pure true) (eTup (z7 (eFn 2 z1s (z7 .(g) (z7 .(l) aNil))) (z7 (eFn 2 z1s (z7 .(g) (z7 .(t) aNil))) aNil)))) (z9 (sRet (eFn 1 z2u (z7 (eFn 3 z2V (z7 (eVar 3) (z7 (eFn 2 z22 (z7 (eVar 3) (z7 (eVar 4) aNil))) (z7 (eFn 1 z09 (z7 .(l) aNil)) aNil)))) aNil))) bNil)))
def z3E:List D->M D:=λds=>cln (runF 5 z2r ds)
def zs7:G->M Out:=
 (z9 (sAsg (eFn 1 z2Y (z7 .(g) aNil)) (gN 1)) (z9 (sAsg (e2 (fEq false) (eFn 2 Z6 (z7 .(l) (z7 (λ_=>pure (.int 3)) aNil))) .(8)) (gN 2)) (z9 (sAsg (e2 (fEq false) (eFn 2 Z6 (z7 .(l) (z7 (λ_=>pure (.int 2)) aNil))) .(8)) (gN 3)) (z9 (sAsg (eFn 2 z2e (z7 .(l) (z7 (e2 fAdd .(2) (eFn 2 Z6 (z7 .(l) (z7 (λ_=>pure (.int 3)) aNil)))) aNil))) (gN 4)) (z9 (sIf (cVal (eVar 3)) (z9 (sAsg (eFn 3 z1F (z7 .(l) (z7 (eVar 4) (z7 (λ_=>pure (.int 5)) aNil)))) (gN 5)) bNil) (z9 (sAsg (eFn 2 z0v (z7 .(l) (z7 (eVar 4) aNil))) (gN 5)) bNil)) (z9 (sAsg (eFn 3 z1T (z7 .(l) (z7 (eVar 4) (z7 (λ_=>pure (.int 3)) aNil)))) (gN 6)) (z9 (sAsg (eFn 2 z2T (z7 .(l) (z7 (Z8 fLen (z7 (e2 fIx (eVar 5) .(8)) aNil)) aNil))) (gN 7)) (z9 (sAsg (eFn 2 Z6 (z7 .(l) (z7 (Z8 fLen (z7 (e2 fIx (eVar 5) .(8)) aNil)) aNil))) (gN 8)) (z9 (sIf (cVal .(t)) (z9 (sAsg (Z8 y3 (z7 (z00 [none] (z0o (eVar 6)) (gN 0) (λγ=>do let d <- e2 (fEq true) (e2 fIx .(g) .(2)) (λ_=>pure (.str "unborne")) γ;asB d) .(g)) aNil)) (gN 6)) (z9 (sAsg (eFn 3 z32 (z7 .(l) (z7 (eVar 5) (z7 (eVar 4) aNil)))) (gTL 3 (z0y (gN 5) (z0y (gN 7) (z0y (gN 8) z3x))))) bNil)) bNil) (z9 (sAsg (eFnP 3 1 [] [] z1h (z7 (eVar 5) (z7 (eVar 8) (z7 (eVar 7) aNil))) (z7 (eVar 6) aNil)) (gN 9)) (z9 (sIf (λγ=>do let d <- e2 (fIs false) (eVar 9) (λ_=>pure .non) γ;asB d) (z9 (sIf (cOr (cVal .(t)) (cAnd (cVal (eVar 3)) (λγ=>do let d <- e2 (fIn false) (eVar 8) (eFn 3 z3E (z7 (eVar 5) (z7 (eVar 7) (z7 (eVar 6) aNil)))) γ;asB d))) (z9 (sRet (λ_=>pure (.bl false))) bNil) bNil) bNil) (z9 (sIf (cNot (cVal (eFn 5 z2p (z7 (eVar 5) (z7 (eVar 7) (z7 (eVar 6) (z7 (eVar 8) (z7 (eVar 9) aNil)))))))) (z9 (sRet (λ_=>pure (.bl false))) bNil) bNil) bNil)) (z9 (sRet (e2 (fEqX false) (eFnP 3 1 [] [] z1h (z7 (eVar 5) (z7 (eVar 8) (z7 (eVar 7) aNil))) (z7 (eVar 6) aNil)) (eVar 9))) bNil))))))))))))
def m_law:List D->M D:=runF 10 zs7
section
structure SS(K:K5)(mg:Str->Option Value) where
 Uzz:∀n,Mx K mg n
 Uaa:DefAt K "set_of" (top 2)
 Uab:mg "set" = none
 Uac:mg "sorted" = none
 Uad:mg "tuple" = none
 Uae:DefAt K "common" (top 3)
 Uaf:DefAt K "ending_order" (top 7)
 Uag:DefAt K "turned" (top 6)
 Uah:DefAt K "take_from" (top 8)
 Uai:DefAt K "knots" (top 5)
 Uaj:mg "reversed" = none
 Uak:DefAt K "is_round" (top 9)
 Ual:mg "len" = none
 Uam:DefAt K "bears" (top 11)
 Uan:DefAt K "is_borne" (top 12)
 Uao:mg "any" = none
 Uap:DefAt K "bearers" (top 13)
 Uaq:mg "range" = none
 Uar:DefAt K "steps_inside" (top 16)
 Uas:DefAt K "strong_parts" (top 15)
 Uat:DefAt K "failed_wish" (top 17)
 Uau:mg "enumerate" = none
 Uav:DefAt K "not_bearing" (top 18)
 Uaw:DefAt K "fair_parts" (top 19)
 Uax:DefAt K "walk_back" (top 23)
 Uay:DefAt K "walk_to" (top 22)
 Uaz:DefAt K "ring_from" (top 21)
 Uba:Addr
 Ubb:DefK K "fair_run" (top 20) Uba
 Ubc:DefAt K "_law_pool" (top 25)
 Ubd:DefAt K "_law_draw" (top 26)
 Ube:DefAt K "_law_name" (top 27)
 Ubf:DefAt K "_law_names" (top 28)
 Ubg:DefAt K "_law_machine" (top 29)
 Ubh:DefAt K "_law_wishes" (top 30)
 Ubi:DefAt K "_law_great_machine" (top 31)
 Ubj:DefAt K "_law_number" (top 32)
 Ubk:mg "bool" = none
 Ubl:mg "int" = none
 Ubm:mg "isinstance" = none
 Ubn:DefAt K "_law_tuple" (top 33)
 Ubo:DefAt K "_law_some" (top 34)
 Ubp:DefAt K "_law_mask" (top 35)
 Ubq:DefAt K "_law_set" (top 36)
 Ubr:DefAt K "_law_lead" (top 37)
 Ubs:DefAt K "_law_near" (top 38)
 Ubt:DefAt K "_law_round" (top 39)
 Ubu:DefAt K "_law_rounds" (top 40)
 Ubv:DefAt K "_law_ever" (top 41)
 Ubw:DefAt K "_law_bears" (top 42)
 Ubx:DefAt K "_law_borne" (top 43)
 Uby:DefAt K "_law_met" (top 44)
 Ubz:DefAt K "_law_right" (top 45)
 Uca:DefAt K "_law_laid" (top 46)
 Ucb:mg "list" = none
 Ucc:DefAt K "_law_due" (top 47)
variable(ZS:SS K mg)
include ZS
theorem z67:Fn P w K mg base 1 "set_of" 1 z28:=
 dfC ["standings"] z46 ZS.Uaa (ZS.Uzz _) .(5) rfl .(r) λhcd hr nd=>
  (z8 (J5 (z0n (J4 rfl ZS.Uad (z6 (z5b rfl rfl ZS.Uac (z6 (z5g rfl rfl ZS.Uab (z6 (z0 0) Z0)) Z0)) Z0)))) Z3)
theorem zg8:Fn P w K mg base 1 "common" 2 z4f:=
 dfC ["one","other"] z44 ZS.Uae (ZS.Uzz _) .(5) rfl .(f) λhcd hr nd=>
  (z8 (J5 (z0n (J4 rfl ZS.Uad (z6 (z5b rfl rfl ZS.Uac (z6 (zE6 (z5g rfl rfl ZS.Uab (z6 (z0 0) Z0)) (z5g rfl rfl ZS.Uab (z6 (z0 1) Z0))) Z0)) Z0)))) Z3)
theorem z4E:Fn P w K mg base 1 "ending_order" 1 z0B:=
 dfC ["leads","seen","order","waiting","one","done"] z0d ZS.Uaf (ZS.Uzz _) .(5) rfl .(r) λhcd hr nd=>
  (z8 (j7 1 nd (zA5 rfl ZS.Uab)) (z8 (j7 2 nd (Y1 Z0)) (z8 (z54 3 (N':=["one"]) (cap:=[none]) rfl .(9) (z9F (z0 0)) (λ_ _ _ _=>(j8 0 (show (["one"]:List Str).Nodup by decide +kernel))) (λ_ _ _ _=>z18) (λ_ _ _ _=>(z2L (z6 (z0 0) (z6 z2Z Z0)))) nd) (z8 (z4z 1000000 K0o (z0k (z0 3)) (z8 (z5K (ze5 (z0 3)) (z6P rfl (z0t (y4 4 nd) (z0t (y4 5 nd) z3A)))) (z8 (s_if (z0k (z0 5)) (z8 (z0l (J7 (z0 2) (z0 4))) Z3) (z8 (s_if (sc_c zF1 (z0 4) (z0 1)) (z8 (z0l (zA3 (z0 1) (z0 4))) (z8 (z0l (J7 (z0 3) (z2L (z6 (z0 4) (z6 z2Z Z0))))) (z8 (z0l (z35 (z0 3) (z06 (N':=["other"]) (cap:=[none]) rfl .(9) (z0C (z33 (z3f hr) (z0 0) (z0 4))) (λ_ _ _ _=>(j8 0 (show (["other"]:List Str).Nodup by decide +kernel))) (λ_ _ _ _=>z18) (λ_ _ _ _=>(z2L (z6 (z0 0) (z6 z2Z Z0))))))) Z3))) Z3) Z3)) Z3))) (z8 (J5 (z0 2)) Z3)))))
theorem zg9:Fn P w K mg base 1 "turned" 1 z3h:=
 dfC ["leads","told","one","other"] z4d ZS.Uag (ZS.Uzz _) .(5) rfl .(r) λhcd hr nd=>
  (z8 (zI2 1 (N':=["one"]) (cap:=[none]) rfl .(9) (z9F (z0 0)) (λ_ _ _ _=>(j8 0 (show (["one"]:List Str).Nodup by decide +kernel))) (λ_ _ _ _=>z18) (λ_ _ _ _=>(z0 0)) (λ_ _ _ _=>(Y1 Z0)) nd) (z8 (z19 K0o rfl (z9F (z0 0)) (y4 2 nd) (z8 (z19 K0o rfl (z0C (z33 (z3f hr) (z0 0) (z0 2))) (y4 3 nd) (z8 (z0l (J7 (z33 (z3f hr) (z0 1) (z0 3)) (z0 2))) Z3)) Z3)) (z8 (J5 (z0 1)) Z3)))
theorem z6M:Fn P w K mg base 2 "take_from" 3 z2X:=
 dfC ["leads","start","taken","part","waiting","one","other"] z0L ZS.Uah (ZS.Uzz _) .(5) rfl .(4) λhcd hr nd=>
  (z8 (z5K z2Z (zK2 (z3f hr) (z0 2) (z0 1))) (z8 (j7 3 nd (Y1 Z0)) (z8 (j7 4 nd (Y1 (z6 (z0 1) Z0))) (z8 (z4z 1000000 K0o (z0k (z0 4)) (z8 (j7 5 nd (ze5 (z0 4))) (z8 (z0l (J7 (z0 3) (z0 5))) (z8 (z19 K0o rfl (z0C (z33 (z3f hr) (z0 0) (z0 5))) (y4 6 nd) (z8 (s_if (sc_c (z7n (z3f hr)) (z0 6) (z0 2)) (z8 (z5K z2Z (zK2 (z3f hr) (z0 2) (z0 6))) (z8 (z0l (J7 (z0 4) (z0 6))) Z3)) Z3) Z3)) Z3)))) (z8 (J5 (Z5 (z67 ZS) (hr.mono .(1)) rfl (z6 (z0 3) Z0))) Z3)))))
theorem zt0:Fn P w K mg base 3 "knots" 1 z7L:=
 dfC ["leads","taken","told","one"] z3D ZS.Uai (ZS.Uzz _) .(5) rfl .(r) λhcd hr nd=>
  (z8 (j7 1 nd zu3) (z8 (j7 2 nd (Y1 Z0)) (z8 (z19 K0o rfl (zA7 rfl ZS.Uaj (Z5 (z4E ZS) (hr.mono .(1)) rfl (z6 (Z5 (zg9 ZS) (hr.mono .(1)) rfl (z6 (z0 0) Z0)) Z0))) (y4 3 nd) (z8 (s_if (sc_c (z7n (z3f hr)) (z0 3) (z0 1)) (z8 (z0l (J7 (z0 2) (Z5 (z6M ZS) (hr.mono .(1)) rfl (z6 (z0 0) (z6 (z0 3) (z6 (z0 1) Z0)))))) Z3) Z3) Z3)) (z8 (J5 (z0 2)) Z3))))
theorem z7B:Fn P w K mg base 1 "is_round" 2 z2x:=
 dfC ["leads","knot"] z2s ZS.Uak (ZS.Uzz _) .(5) rfl .(f) λhcd hr nd=>
  (z8 (J5 (z80 (se_c z7y (z0D rfl ZS.Ual (z6 (z0 1) Z0)) Z1) (z51 (se_c z7Q (j6 (z0 1) Z1) (j6 (z0 0) (j6 (z0 1) Z1)))))) Z3)
theorem z5p:Fn P w K mg base 1 "bears" 3 z1G:=
 dfC ["machine","standing","name"] z5t ZS.Uam (ZS.Uzz _) .(5) rfl .(4) λhcd hr nd=>
  (z8 (J5 (z80 (se_c z3K (z0 2) z0m) (z51 (se_c z7Q (z0 2) (j6 (j6 (z0 0) Z1) (z0 1)))))) Z3)
theorem z1Z:Fn P w K mg base 2 "is_borne" 3 z0e:=
 dfC ["machine","standings","name"] z1i ZS.Uan (ZS.Uzz _) .(5) rfl .(4) λhcd hr nd=>
  (z8 (J5 (z0n (zU6 rfl rfl ZS.Uao (z6 (z06 (N':=["machine","name","standing"]) (cap:=[some 0,some 2,none]) rfl .(9) (zZ2 (z0Z (z0 1)) (z0C (z0 1))) (λ_ _ _ _=>(j8 2 (show (["machine","name","standing"]:List Str).Nodup by decide +kernel))) (λ_ _ _ _=>z18) (λ_ _ _ _=>(Z5 (z5p ZS) (hr.mono .(1)) rfl (z6 (z0 0) (z6 (z0 2) (z6 (z0 1) Z0)))))) Z0)))) Z3)
theorem z9o:Fn P w K mg base 2 "bearers" 2 z2h:=
 dfC ["machine","name"] z3q ZS.Uap (ZS.Uzz _) .(5) rfl .(f) λhcd hr nd=>
  (z8 (J5 (z0n (J4 rfl ZS.Uad (z6 (z06 (N':=["machine","name","standing"]) (cap:=[some 0,some 1,none]) rfl .(9) (Y3 rfl ZS.Uaq (z0D rfl ZS.Ual (z6 (j6 (z0 0) Z1) Z0))) (λ_ _ _ _=>(j8 2 (show (["machine","name","standing"]:List Str).Nodup by decide +kernel))) (λ_ _ _ _=>(z0j (z0k (Z5 (z5p ZS) (hr.mono .(1)) rfl (z6 (z0 0) (z6 (z0 2) (z6 (z0 1) Z0))))))) (λ_ _ _ _=>(z0 2))) Z0)))) Z3)
theorem z2q:Fn P w K mg base 1 "steps_inside" 2 z0T:=
 dfC ["machine","within","inside"] z0P ZS.Uar (ZS.Uzz _) .(5) rfl .(f) λhcd hr nd=>
  (z8 (j7 2 nd (z8F (N':=["standing"]) (cap:=[none]) rfl .(9) (z0Z (z0 1)) (λ_ _ _ _=>(j8 0 (show (["standing"]:List Str).Nodup by decide +kernel))) (λ_ _ _ _=>z18) (λ_ _ _ _=>(z0 0)) (λ_ _ _ _=>z2Z))) (z8 (J5 (z8F (N':=["machine","inside","standing"]) (cap:=[some 0,some 2,none]) rfl .(9) (z0Z (z0 1)) (λ_ _ _ _=>(j8 2 (show (["machine","inside","standing"]:List Str).Nodup by decide +kernel))) (λ_ _ _ _=>z18) (λ_ _ _ _=>(z0 2)) (λ_ _ _ _=>(z06 (N':=["inside","other"]) (cap:=[some 1,none]) rfl .(9) (z0Z (j6 (j6 (z0 0) Z1) (z0 2))) (λ_ _ _ _=>(j8 1 (show (["inside","other"]:List Str).Nodup by decide +kernel))) (λ_ _ _ _=>(z0j (sc_c (zZ4 (z3f hr)) (z0 1) (z0 0)))) (λ_ _ _ _=>(z0 1)))))) Z3))
theorem z4y:Fn P w K mg base 4 "strong_parts" 2 z0x:=
 dfC ["machine","within"] z0O ZS.Uas (ZS.Uzz _) .(5) rfl .(f) λhcd hr nd=>
  (z8 (J5 (Z5 (zt0 ZS) (hr.mono .(1)) rfl (z6 (Z5 (z2q ZS) (hr.mono .(1)) rfl (z6 (z0 0) (z6 (z0 1) Z0))) Z0))) Z3)
theorem z4R:Fn P w K mg base 3 "failed_wish" 3 z26:=
 dfC ["machine","part","wishes","number","when","then"] z0H ZS.Uat (ZS.Uzz _) .(5) rfl .(4) λhcd hr nd=>
  (z8 (z19 K0o rfl (zF6 rfl rfl ZS.Uau (z0 2)) (z6P rfl (z0t (y4 3 nd) (z0t (z6P rfl (z0t (y4 4 nd) (z0t (y4 5 nd) z3A))) z3A))) (z8 (s_if (SW.sc (z6A (z0k (Z5 (z1Z ZS) (hr.mono .(1)) rfl (z6 (z0 0) (z6 (z0 1) (z6 (z0 4) Z0))))) (z4D (z3i (z0k (Z5 (z1Z ZS) (hr.mono .(1)) rfl (z6 (z0 0) (z6 (z0 1) (z6 (z0 5) Z0))))))))) (z8 (J5 (z0 3)) Z3) Z3) Z3)) (z8 (J5 (z2H Z1)) Z3))
theorem z4O:Fn P w K mg base 2 "not_bearing" 3 z1d:=
 dfC ["machine","part","name"] z1g ZS.Uav (ZS.Uzz _) .(5) rfl .(4) λhcd hr nd=>
  (z8 (J5 (z0n (J4 rfl ZS.Uad (z6 (z06 (N':=["machine","name","standing"]) (cap:=[some 0,some 2,none]) rfl .(9) (z0Z (z0 1)) (λ_ _ _ _=>(j8 2 (show (["machine","name","standing"]:List Str).Nodup by decide +kernel))) (λ_ _ _ _=>(z0j (z3i (z0k (Z5 (z5p ZS) (hr.mono .(1)) rfl (z6 (z0 0) (z6 (z0 2) (z6 (z0 1) Z0)))))))) (λ_ _ _ _=>(z0 2))) Z0)))) Z3)
theorem z5z:Fn P w K mg base 5 "fair_parts" 3 z2k:=
 dfC ["machine","within","wishes","told","waiting","whole","part","failed"] z0W ZS.Uaw (ZS.Uzz _) .(5) rfl .(4) λhcd hr nd=>
  (z8 (j7 3 nd (Y1 Z0)) (z8 (j7 4 nd (Y1 (z6 (z0 1) Z0))) (z8 (z4z 1000000 K0o (z0k (z0 4)) (z8 (j7 5 nd (ze5 (z0 4))) (z8 (z19 K0o rfl (z0C (Z5 (z4y ZS) (hr.mono .(1)) rfl (z6 (z0 0) (z6 (z0 5) Z0)))) (y4 6 nd) (z8 (s_if (z0k (Z5 (z7B ZS) (hr.mono .(1)) rfl (z6 (j6 (z0 0) Z1) (z6 (z0 6) Z0)))) (z8 (j7 7 nd (Z5 (z4R ZS) (hr.mono .(1)) rfl (z6 (z0 0) (z6 (z0 6) (z6 (z0 2) Z0))))) (z8 (s_if (sc_c z3K (z0 7) (z2H Z1)) (z8 (z0l (J7 (z0 3) (z0 6))) Z3) (z8 (z0l (J7 (z0 4) (Z5 (z4O ZS) (hr.mono .(1)) rfl (z6 (z0 0) (z6 (z0 6) (z6 (j6 (j6 (z0 2) (z0 7)) Z1) Z0)))))) Z3)) Z3)) Z3) Z3)) Z3))) (z8 (J5 (z0 3)) Z3))))
theorem z6G:Fn P w K mg base 1 "walk_back" 3 z2W:=
 dfC ["ahead","start","end","walk"] z1o ZS.Uax (ZS.Uzz _) .(5) rfl .(4) λhcd hr nd=>
  (z8 (j7 3 nd (Y1 (z6 (z0 2) Z0))) (z8 (z4z 1000000 K0o (sc_c (z8x (hu30 hr)) (z33 (z3f hr) (z0 0) (j6 (z0 3) (z2H Z1))) (z0 1)) (z8 (z0l (J7 (z0 3) (z33 (z3f hr) (z0 0) (j6 (z0 3) (z2H Z1))))) Z3)) (z8 (z0l (z9q (z0 3))) (z8 (J5 (z0 3)) Z3))))
theorem z3z:Fn P w K mg base 2 "walk_to" 4 z1M:=
 dfC ["machine","start","within","goal","leads","ahead","waiting","looked","standing","other"] z2c ZS.Uay (ZS.Uzz _) .(5) rfl (λ_ _ _ _ _ _ us hl=>(by obtain⟨_,_,_,_,rfl⟩:=ar4 hl;rfl)) λhcd hr nd=>
  (z8 (j7 4 nd (Z5 (z2q ZS) (hr.mono .(1)) rfl (z6 (z0 0) (z6 (z0 2) Z0)))) (z8 (j7 5 nd zu3) (z8 (j7 6 nd (Y1 (z6 (z0 1) Z0))) (z8 (j7 7 nd Z1) (z8 (z4z 1000000 K0o (sc_c zc1 (z0 7) (z0D rfl ZS.Ual (z6 (z0 6) Z0))) (z8 (j7 8 nd (j6 (z0 6) (z0 7))) (z8 (Z03 7 nd zZ9 Z1) (z8 (z19 K0o rfl (z0C (z33 (z3f hr) (z0 4) (z0 8))) (y4 9 nd) (z8 (s_if (sc_c (z7n (z3f hr)) (z0 9) (z0 5)) (z8 (z5K (z0 8) (zK2 (z3f hr) (z0 5) (z0 9))) (z8 (s_if (sc_c z7Q (z0 9) (z0 3)) (z8 (J5 (Z5 (z6G ZS) (hr.mono .(1)) rfl (z6 (z0 5) (z6 (z0 1) (z6 (z0 9) Z0))))) Z3) Z3) (z8 (z0l (J7 (z0 6) (z0 9))) Z3))) Z3) Z3)) Z3)))) (z8 (J5 (Y1 Z0)) Z3))))))
theorem z5X:Fn P w K mg base 3 "ring_from" 4 z2S:=
 dfC ["machine","start","part","wishes","ring","when","then"] z1l ZS.Uaz (ZS.Uzz _) .(5) rfl (λ_ _ _ _ _ _ us hl=>(by obtain⟨_,_,_,_,rfl⟩:=ar4 hl;rfl)) λhcd hr nd=>
  (z8 (j7 4 nd (Y1 (z6 (z0 1) Z0))) (z8 (z19 K0o rfl (z0Z (z0 3)) (z6P rfl (z0t (y4 5 nd) (z0t (y4 6 nd) z3A))) (z8 (s_if (SW.sc (z6A (z0k (Z5 (z1Z ZS) (hr.mono .(1)) rfl (z6 (z0 0) (z6 (z0 2) (z6 (z0 5) Z0))))) (z4D (z3i (z0k (Z5 (z1Z ZS) (hr.mono .(1)) rfl (z6 (z0 0) (z6 (z0 4) (z6 (z0 6) Z0))))))))) (z8 (z0l (z35 (z0 4) (Z5 (z3z ZS) (hr.mono .(1)) rfl (z6 (z0 0) (z6 (j6 (z0 4) (z2H Z1)) (z6 (z0 2) (z6 (Z5 (zg8 ZS) (hr.mono .(1)) rfl (z6 (z0 2) (z6 (Z5 (z9o ZS) (hr.mono .(1)) rfl (z6 (z0 0) (z6 (z0 6) Z0))) Z0))) Z0))))))) Z3) Z3) Z3)) (z8 (z0l (z35 (z0 4) (Z5 (z3z ZS) (hr.mono .(1)) rfl (z6 (z0 0) (z6 (j6 (z0 4) (z2H Z1)) (z6 (z0 2) (z6 (z2L (z6 (z0 1) Z0)) Z0))))))) (z8 (J5 (z0n (J4 rfl ZS.Uad (z6 (z2t (z0 4) z3u (z3N (z2H Z1))) Z0)))) Z3))))
theorem z7H:FnR P w K mg base 6 "fair_run" (top 20) ZS.Uba ["machine","standing","within","wishes"] z1h:=
 FnR.cln <| zV9 ZS.Ubb (ZS.Uzz _) sc_fair_run λf cdv A outer s H E hcd hr=>(show SB (cxOf CX0 P w K mg base ["machine","standing","within","wishes","parts","goal","walk","part"] "fair_run" (j3 (top 20)) f cdv A outer s H E).nox EX0 (z03 (top 20)) z1J from
  have nd:(["machine","standing","within","wishes","parts","goal","walk","part"]:List Str).Nodup:=sc_fair_run.nd
  (z8 (s_if (sc_c z21 (z0 1) (z0 2)) (z8 (J5 zd4) Z3) Z3) (z8 (j7 4 nd (Z5 (z5z ZS) (hr.mono .(1)) rfl (z6 (z0 0) (z6 (z0 2) (z6 (z0 3) Z0))))) (z8 (j7 5 nd (Z5 (z67 ZS) (hr.mono .(1)) rfl (z6 (zp7 (N':=["part","one"]) (cap:=[none,none]) rfl .(9) (z0C (z0 4)) (λ_ _ _ _=>(j8 0 (show (["part","one"]:List Str).Nodup by decide +kernel))) (λ_ _ _ _=>(z0Z (z0 0))) (λ_ _ _ _=>(j8 1 (show (["part","one"]:List Str).Nodup by decide +kernel))) (λ_ _ _ _=>z18) (λ_ _ _ _=>(z0 1))) Z0))) (z8 (j7 6 nd (Y1 (z6 (z0 1) Z0))) (z8 (s_if (sc_c z21 (z0 1) (z0 5)) (z8 (z0l (z35 (z0 6) (Z5 (z3z ZS) (hr.mono .(1)) rfl (z6 (z0 0) (z6 (z0 1) (z6 (z0 2) (z6 (z0 5) Z0))))))) Z3) Z3) (z8 (z19 K0o rfl (z0C (z0 4)) (y4 7 nd) (z8 (s_if (sc_c z7Q (j6 (z0 6) (z2H Z1)) (z0 7)) (z8 (J5 (z2L (z6 (z0n (J4 rfl ZS.Uad (z6 (z2t (z0 6) z3u (z3N (z2H Z1))) Z0))) (z6 (Z5 (z5X ZS) (hr.mono .(1)) rfl (z6 (z0 0) (z6 (j6 (z0 6) (z2H Z1)) (z6 (z0 7) (z6 (z0 3) Z0))))) Z0)))) Z3) Z3) Z3)) (z8 (J5 zd4) Z3))))))))
theorem z1a:FnP P w K mg base 6 "fair_run" 3 ["wishes"] [] [] z1h:=
 (z7H ZS).pat 3 ["wishes"] .nil .nil z8T z8T .(1) rfl λdoc pm an cdv ct s us ws X h1 h2=>match us,h1,ws,h2 with|[_,_,_],_,[_],_=>.of_eq rfl
theorem z6n:Fn P w K mg base 1 "_law_pool" 1 z2Y:=
 dfN ["_law_script","_law_great"] z20 ZS.Ubc (ZS.Uzz _) .(5) rfl .(r) λhcd hr nd=>
  (z8 (z54 1 (N':=["_law_cell"]) (cap:=[none]) rfl .(9) (z0C (z0 0)) (λ_ _ _ _=>(j8 0 (show (["_law_cell"]:List Str).Nodup by decide +kernel))) (λ_ _ _ _=>(z0j (sc_c Z0D (z0 0) (za2 Z1 Z1)))) (λ_ _ _ _=>(z0 0)) nd) (z8 (J5 (Y1 (z6 (z0 1) (z6 (z06 (N':=["_law_cell"]) (cap:=[none]) rfl .(9) (z0C (z0 0)) (λ_ _ _ _=>(j8 0 (show (["_law_cell"]:List Str).Nodup by decide +kernel))) (λ_ _ _ _=>(z0j (sc_c zc1 (z0 0) (za2 Z1 Z1)))) (λ_ _ _ _=>(z0 0))) (z6 Z1 (z6 Z1 Z0)))))) Z3))
theorem Z7:Fn P w K mg base 1 "_law_draw" 2 Z6:=
 dfN ["_law_pool_here","_law_many","_law_cell"] z1q ZS.Ubd (ZS.Uzz _) .(5) rfl .(f) λhcd hr nd=>
  (z8 (s_if (sc_c z7y (z0D rfl ZS.Ual (z6 (j6 (z0 0) Z1) Z0)) Z1) (z8 (j7 2 nd (j6 (j6 (z0 0) Z1) Z1)) (z8 (z5K (z6r (z0 2) (z0 1)) (zs1 (j6 (z0 0) Z1) Z1)) (z8 (s_if (sc_c z3K (z6r (z0 2) (z0 1)) Z1) (z8 (z0l (zr9 (j6 (z0 0) Z1) Z1)) Z3) Z3) (z8 (J5 (z3s (z0 2) (z0 1))) Z3)))) Z3) (z8 (z5K (z0c (j6 (z0 0) Z1) Z1) (zs1 (z0 0) Z1)) (z8 (j7 2 nd Z1) (z8 (s_if (sc_c z7y (z0D rfl ZS.Ual (z6 (j6 (z0 0) Z1) Z0)) Z1) (z8 (j7 2 nd (j6 (j6 (z0 0) Z1) (z3s (j6 (z0 0) Z1) (z0D rfl ZS.Ual (z6 (j6 (z0 0) Z1) Z0))))) Z3) Z3) (z8 (j7 2 nd (z5f (z3s (z0 2) Z1) (z0c (z5f (j6 (z0 0) Z1) (j6 (z0 0) Z1)) Z1))) (z8 (z5K (z3s (z0c (z0c (z5f (j6 (z0 0) Z1) Z1) (z0 2)) (z5f Z1 (j6 (z0 0) Z1))) Z1) (zs1 (z0 0) Z1)) (z8 (J5 (z3s (z6r (z3s (za2 (j6 (z0 0) Z1) Z1) Z1) Z1) (z0 1))) Z3)))))))
theorem z6L:Fn P w K mg base 2 "_law_name" 3 z30:=
 dfC ["_law_pool_here","_law_start","_law_taken","_law_letters","_law_name_here","_law_k","_law_last","_law_words","_law_found"] z1p ZS.Ube (ZS.Uzz _) .(5) rfl .(4) λhcd hr nd=>
  (z8 (j7 3 nd z0m) (z8 (j7 4 nd (z0 1)) (z8 (z19 K0o rfl (Y3 rfl ZS.Uaq (Z5 (Z7 ZS) (hr.mono .(1)) rfl .(v))) (y4 5 nd) (z8 (j7 4 nd (z0c (z0 4) (j6 (z0 3) (Z5 (Z7 ZS) (hr.mono .(1)) rfl .(v))))) Z3)) (z8 (j7 6 nd (Z5 (Z7 ZS) (hr.mono .(1)) rfl .(v))) (z8 (j7 7 nd (Y1 (z6 z0m (z6 z0m (z6 z0m (z6 z0m (z6 z0m (z6 z0m (z6 z0m (z6 z0m (z6 z0m (z6 z0m (z6 z0m (z6 z0m (z6 z0m Z0))))))))))))))) (z8 (z19 K0o rfl (Y3 rfl ZS.Uaq Z1) (y4 5 nd) (z8 (j7 8 nd (z0c (z0 4) (j6 (z0 3) (z3s (z0c (z0 6) (z0 5)) Z1)))) (z8 (s_if (SW.sc (z6A (sc_c z21 (z0 8) (z0 7)) (z4D (sc_c z21 (z0 8) (z0 2))))) (z8 (J5 (z0 8)) Z3) Z3) Z3))) (z8 (J5 (z0c (z0 4) z0m)) Z3)))))))
theorem z5N:Fn P w K mg base 3 "_law_names" 2 z2e:=
 dfC ["_law_pool_here","_law_many","_law_letters","_law_start","_law_k","_law_names_here"] z1y ZS.Ubf (ZS.Uzz _) .(5) rfl .(f) λhcd hr nd=>
  (z8 (j7 2 nd z0m) (z8 (j7 3 nd z0m) (z8 (z19 K0o rfl (Y3 rfl ZS.Uaq (z0n (j6 (Y1 (z6 Z1 (z6 Z1 (z6 Z1 (z6 Z1 Z0))))) (Z5 (Z7 ZS) (hr.mono .(1)) rfl .(v))))) (y4 4 nd) (z8 (j7 3 nd (z0c (z0 3) (j6 (z0 2) (Z5 (Z7 ZS) (hr.mono .(1)) rfl .(v))))) Z3)) (z8 (j7 5 nd (Y1 Z0)) (z8 (z19 K0o rfl (Y3 rfl ZS.Uaq (z0 1)) (y4 4 nd) (z8 (z0l (J7 (z0 5) (Z5 (z6L ZS) (hr.mono .(1)) rfl (z6 (z0 0) (z6 (z0 3) (z6 (z0 5) Z0)))))) Z3)) (z8 (J5 (z0 5)) Z3))))))
theorem z4F:Fn P w K mg base 2 "_law_machine" 3 z1F:=
 dfC ["_law_pool_here","_law_names_here","_law_most","_law_many","_law_dense","_law_steps","_law_marks","_law_k"] z0R ZS.Ubg (ZS.Uzz _) .(5) rfl .(4) λhcd hr nd=>
  (z8 (j7 3 nd (z0c Z1 (Z5 (Z7 ZS) (hr.mono .(1)) rfl (z6 (z0 0) (z6 (z0 2) Z0))))) (z8 (j7 4 nd (z0c Z1 (Z5 (Z7 ZS) (hr.mono .(1)) rfl .(v)))) (z8 (j7 5 nd (Y1 Z0)) (z8 (j7 6 nd (Y1 Z0)) (z8 (z19 K0o rfl (Y3 rfl ZS.Uaq (z0 3)) (y4 7 nd) (z8 (z0l (J7 (z0 5) (z0n (J4 rfl ZS.Uad (z6 (z06 (N':=["_law_pool_here","_law_dense","_law_to"]) (cap:=[some 0,some 4,none]) rfl .(9) (Y3 rfl ZS.Uaq (z0 3)) (λ_ _ _ _=>(j8 2 (show (["_law_pool_here","_law_dense","_law_to"]:List Str).Nodup by decide +kernel))) (λ_ _ _ _=>(z0j (sc_c zc1 (Z5 (Z7 ZS) (hr.mono .(1)) rfl .(v)) (z0 1)))) (λ_ _ _ _=>(z0 2))) Z0))))) (z8 (z0l (J7 (z0 6) (z0n (J4 rfl ZS.Uad (z6 (z2j rfl rfl ZS.Uac (z6 (z06 (N':=["_law_pool_here","_law_name_here"]) (cap:=[some 0,none]) rfl .(9) (z0C (z0 1)) (λ_ _ _ _=>(j8 1 (show (["_law_pool_here","_law_name_here"]:List Str).Nodup by decide +kernel))) (λ_ _ _ _=>(z0j (sc_c z3K (Z5 (Z7 ZS) (hr.mono .(1)) rfl .(v)) Z1))) (λ_ _ _ _=>(z0 1))) Z0)) Z0))))) Z3))) (z8 (J5 (z2L (z6 (J4 rfl ZS.Uad (z6 (z0 5) Z0)) (z6 (J4 rfl ZS.Uad (z6 (z0 6) Z0)) Z0)))) Z3))))))
theorem z4S:Fn P w K mg base 2 "_law_wishes" 3 z1T:=
 dfC ["_law_pool_here","_law_names_here","_law_most","_law_some_here","_law_wants","_law_k","_law_when"] z1f ZS.Ubh (ZS.Uzz _) .(5) rfl .(4) λhcd hr nd=>
  (z8 (j7 3 nd (z0c (Y1 (z6 z0m (z6 z0m (z6 z0m Z0)))) (z0 1))) (z8 (j7 4 nd (Y1 Z0)) (z8 (z19 K0o rfl (Y3 rfl ZS.Uaq (Z5 (Z7 ZS) (hr.mono .(1)) rfl (z6 (z0 0) (z6 (z0c (z0 2) Z1) Z0)))) (y4 5 nd) (z8 (j7 6 nd (j6 (z0 3) (Z5 (Z7 ZS) (hr.mono .(1)) rfl (z6 (z0 0) (z6 (z0D rfl ZS.Ual (z6 (z0 3) Z0)) Z0))))) (z8 (z0l (J7 (z0 4) (z2L (z6 (z0 6) (z6 (j6 (z0 3) (z0c Z1 (Z5 (Z7 ZS) (hr.mono .(1)) rfl (z6 (z0 0) (z6 (z8N (z0D rfl ZS.Ual (z6 (z0 3) Z0)) Z1) Z0))))) Z0))))) Z3))) (z8 (J5 (J4 rfl ZS.Uad (z6 (z0 4) Z0))) Z3))))
theorem z2d:Fn P w K mg base 2 "_law_great_machine" 2 z0v:=
 dfC ["_law_pool_here","_law_names_here","_law_many","_law_dense","_law_steps","_law_marks","_law_k","_law_bits","_law_worn"] z02 ZS.Ubi (ZS.Uzz _) .(5) rfl .(f) λhcd hr nd=>
  (z8 (j7 2 nd (z0c Z1 (Z5 (Z7 ZS) (hr.mono .(1)) rfl .(v)))) (z8 (s_if (sc_c z3K (Z5 (Z7 ZS) (hr.mono .(1)) rfl .(v)) Z1) (z8 (j7 2 nd Z1) Z3) Z3) (z8 (j7 3 nd (Z5 (Z7 ZS) (hr.mono .(1)) rfl .(v))) (z8 (j7 4 nd (Y1 Z0)) (z8 (j7 5 nd (Y1 Z0)) (z8 (z19 K0o rfl (Y3 rfl ZS.Uaq (z0 2)) (y4 6 nd) (z8 (j7 7 nd (Y1 (z6 (Z5 (Z7 ZS) (hr.mono .(1)) rfl .(v)) (z6 (Z5 (Z7 ZS) (hr.mono .(1)) rfl .(v)) Z0)))) (z8 (s_if (sc_c z7y (z0 3) Z1) (z8 (j7 7 nd (Y1 (z6 (z2J (j6 (z0 7) Z1) (Z5 (Z7 ZS) (hr.mono .(1)) rfl .(v))) (z6 (z2J (j6 (z0 7) Z1) (Z5 (Z7 ZS) (hr.mono .(1)) rfl .(v))) Z0)))) Z3) Z3) (z8 (z0l (J7 (z0 4) (z0n (J4 rfl ZS.Uad (z6 (z06 (N':=["_law_bits","_law_to"]) (cap:=[some 7,none]) rfl .(9) (Y3 rfl ZS.Uaq (z0 2)) (λ_ _ _ _=>(j8 1 (show (["_law_bits","_law_to"]:List Str).Nodup by decide +kernel))) (λ_ _ _ _=>(z0j (sc_c z3K (z2J (zw9 (j6 (z0 0) (z6r (z0 1) Z1)) (z3s (z0 1) Z1)) Z1) Z1))) (λ_ _ _ _=>(z0 1))) Z0))))) (z8 (j7 8 nd (Z5 (Z7 ZS) (hr.mono .(1)) rfl .(v))) (z8 (z0l (J7 (z0 5) (z0n (J4 rfl ZS.Uad (z6 (z2j rfl rfl ZS.Uac (z6 (z06 (N':=["_law_names_here","_law_worn","_law_j"]) (cap:=[some 1,some 8,none]) rfl .(9) (Y3 rfl ZS.Uaq (z0D rfl ZS.Ual (z6 (z0 1) Z0))) (λ_ _ _ _=>(j8 2 (show (["_law_names_here","_law_worn","_law_j"]:List Str).Nodup by decide +kernel))) (λ_ _ _ _=>(z0j (sc_c z3K (z2J (zw9 (z0 1) (z0 2)) Z1) Z1))) (λ_ _ _ _=>(j6 (z0 0) (z0 2)))) Z0)) Z0))))) Z3)))))) (z8 (J5 (z2L (z6 (J4 rfl ZS.Uad (z6 (z0 4) Z0)) (z6 (J4 rfl ZS.Uad (z6 (z0 5) Z0)) Z0)))) Z3)))))))
theorem z4N:Fn P w K mg base 1 "_law_number" 3 z1S:=
 dfC ["_law_thing","_law_low","_law_high"] z0F ZS.Ubj (ZS.Uzz _) .(5) rfl .(4) λhcd hr nd=>
  (z8 (J5 (z7M (zi5 rfl ZS.Ubm rfl ZS.Ubl .(5) .(1) (z0 0)) (z7M (zK3 (zi5 rfl ZS.Ubm rfl ZS.Ubk .(5) .(1) (z0 0))) (z51 (zS5 zm4 zc1 (z0 1) (z0 0) (z0 2)))))) Z3)
theorem z1X:Fn P w K mg base 1 "_law_tuple" 3 z11:=
 dfC ["_law_thing","_law_least","_law_most"] z10 ZS.Ubn (ZS.Uzz _) .(5) rfl .(4) λhcd hr nd=>
  (z8 (J5 (z7M (zi5 rfl ZS.Ubm rfl ZS.Uad .(5) .(1) (z0 0)) (z51 (zS5 zm4 zm4 (z0 1) (z0D rfl ZS.Ual (z6 (z0 0) Z0)) (z0 2))))) Z3)
theorem z6D:Fn P w K mg base 2 "_law_some" 2 z2T:=
 dfC ["_law_pool_here","_law_many","_law_dense"] z1W ZS.Ubo (ZS.Uzz _) .(5) rfl .(f) λhcd hr nd=>
  (z8 (j7 2 nd (Z5 (Z7 ZS) (hr.mono .(1)) rfl .(v))) (z8 (J5 (z0n (J4 rfl ZS.Uad (z6 (z06 (N':=["_law_pool_here","_law_dense","_law_one"]) (cap:=[some 0,some 2,none]) rfl .(9) (Y3 rfl ZS.Uaq (z0 1)) (λ_ _ _ _=>(j8 2 (show (["_law_pool_here","_law_dense","_law_one"]:List Str).Nodup by decide +kernel))) (λ_ _ _ _=>(z0j (sc_c zm4 (Z5 (Z7 ZS) (hr.mono .(1)) rfl .(v)) (z0 1)))) (λ_ _ _ _=>(z0 2))) Z0)))) Z3))
theorem z0U:Fn P w K mg base 1 "_law_mask" 1 z09:=
 dfC ["_law_standings","_law_mask_here","_law_one"] z27 ZS.Ubp (ZS.Uzz _) .(5) rfl .(r) λhcd hr nd=>
  (z8 (j7 1 nd Z1) (z8 (z19 K0o rfl (zZ2 (z0Z (z0 0)) (z0C (z0 0))) (y4 2 nd) (z8 (j7 1 nd (z5R (z0 1) (z0n (j6 (Y1 (z6 Z1 (z6 Z1 (z6 Z1 (z6 Z1 (z6 Z1 (z6 Z1 Z0))))))) (z0 2))))) Z3)) (z8 (J5 (z0 1)) Z3)))
theorem z4x:Fn P w K mg base 1 "_law_set" 1 z2u:=
 dfC ["_law_mask_here"] z2y ZS.Ubq (ZS.Uzz _) .(5) rfl .(r) λhcd hr nd=>
  (z8 (J5 (z0n (J4 rfl ZS.Uad (z6 (z06 (N':=["_law_mask_here","_law_k"]) (cap:=[some 0,none]) rfl .(9) (Y3 rfl ZS.Uaq Z1) (λ_ _ _ _=>(j8 1 (show (["_law_mask_here","_law_k"]:List Str).Nodup by decide +kernel))) (λ_ _ _ _=>(z0j (sc_c z3K (z3s (z6r (z0 0) (z0n (j6 (Y1 (z6 Z1 (z6 Z1 (z6 Z1 (z6 Z1 (z6 Z1 (z6 Z1 Z0))))))) (z0 1)))) Z1) Z1))) (λ_ _ _ _=>(z0 1))) Z0)))) Z3)
theorem z3S:Fn P w K mg base 2 "_law_lead" 2 z24:=
 dfC ["_law_ahead","_law_goal"] z1V ZS.Ubr (ZS.Uzz _) .(5) rfl .(f) λhcd hr nd=>
  (z8 (J5 (Z5 (z0U ZS) (hr.mono .(1)) rfl (z6 (z06 (N':=["_law_ahead","_law_goal","_law_k"]) (cap:=[some 0,some 1,none]) rfl .(9) (Y3 rfl ZS.Uaq (z0D rfl ZS.Ual (z6 (z0 0) Z0))) (λ_ _ _ _=>(j8 2 (show (["_law_ahead","_law_goal","_law_k"]:List Str).Nodup by decide +kernel))) (λ_ _ _ _=>(z0j (sc_c z7y (z2J (j6 (z0 0) (z0 2)) (z0 1)) Z1))) (λ_ _ _ _=>(z0 2))) Z0))) Z3)
theorem z3O:Fn P w K mg base 3 "_law_near" 3 z1R:=
 dfC ["_law_ahead","_law_within","_law_goal","_law_found","_law_k"] z29 ZS.Ubs (ZS.Uzz _) .(5) rfl .(4) λhcd hr nd=>
  (z8 (j7 3 nd (z0 2)) (z8 (z19 K0o rfl (Y3 rfl ZS.Uaq (z0D rfl ZS.Ual (z6 (z0 0) Z0))) (y4 4 nd) (z8 (j7 3 nd (z5R (z0 3) (z2J (z0 1) (Z5 (z3S ZS) (hr.mono .(1)) rfl (z6 (z0 0) (z6 (z0 3) Z0)))))) Z3)) (z8 (J5 (z0 3)) Z3)))
theorem z5l:Fn P w K mg base 4 "_law_round" 3 z1x:=
 dfC ["_law_ahead","_law_some_here","_law_wants","_law_one","_law_when","_law_then"] z0Y ZS.Ubt (ZS.Uzz _) .(5) rfl .(4) λhcd hr nd=>
  (z8 (z19 K0o rfl (z0Z (Z5 (z4x ZS) (hr.mono .(1)) rfl (z6 (z0 1) Z0))) (y4 3 nd) (z8 (s_if (sc_c (z8x (hu30 hr)) (Z5 (z3O ZS) (hr.mono .(1)) rfl (z6 (z0 0) (z6 (z0 1) (z6 (z2J (z0 1) (Z5 (z3S ZS) (hr.mono .(1)) rfl (z6 (z0 0) (z6 (Z5 (z0U ZS) (hr.mono .(1)) rfl (z6 (Y1 (z6 (z0 3) Z0)) Z0)) Z0)))) Z0)))) (z0 1)) (z8 (J5 z2Z) Z3) Z3) Z3)) (z8 (z19 K0o rfl (z0C (z0 2)) (z6P rfl (z0t (y4 4 nd) (z0t (y4 5 nd) z3A))) (z8 (s_if (SW.sc (z6A (sc_c z7y (z2J (z0 1) (z0 4)) Z1) (z4D (sc_c z3K (z2J (z0 1) (z0 5)) Z1)))) (z8 (J5 z2Z) Z3) Z3) Z3)) (z8 (J5 z2Z) Z3)))
theorem z4Q:Fn P w K mg base 5 "_law_rounds" 2 z22:=
 dfC ["_law_ahead","_law_wants","_law_most"] z1e ZS.Ubu (ZS.Uzz _) .(5) rfl .(f) λhcd hr nd=>
  (z8 (j7 2 nd (z0n (j6 (Y1 (z6 Z1 (z6 Z1 (z6 Z1 (z6 Z1 (z6 Z1 (z6 Z1 Z0))))))) (z8N (z0D rfl ZS.Ual (z6 (z0 0) Z0)) Z1)))) (z8 (J5 (z06 (N':=["_law_ahead","_law_wants","_law_some_here"]) (cap:=[some 0,some 1,none]) rfl .(9) (za9 rfl ZS.Uaq Z1 (z0 2)) (λ_ _ _ _=>(j8 2 (show (["_law_ahead","_law_wants","_law_some_here"]:List Str).Nodup by decide +kernel))) (λ_ _ _ _=>(z0j (z0k (Z5 (z5l ZS) (hr.mono .(1)) rfl (z6 (z0 0) (z6 (z0 2) (z6 (z0 1) Z0))))))) (λ_ _ _ _=>(z0 2)))) Z3))
theorem z63:Fn P w K mg base 4 "_law_ever" 3 z2V:=
 dfC ["_law_ahead","_law_rounds_here","_law_within","_law_goal","_law_some_here"] z1P ZS.Ubv (ZS.Uzz _) .(5) rfl .(4) λhcd hr nd=>
  (z8 (j7 3 nd Z1) (z8 (z19 K0o rfl (z0C (z0 1)) (y4 4 nd) (z8 (s_if (sc_c (z8t (hu30 hr)) (z2J (z0 4) (z0 2)) (z0 4)) (z8 (j7 3 nd (z5R (z0 3) (z0 4))) Z3) Z3) Z3)) (z8 (J5 (Z5 (z3O ZS) (hr.mono .(1)) rfl (z6 (z0 0) (z6 (z0 2) (z6 (z0 3) Z0))))) Z3)))
theorem z3m:Fn P w K mg base 2 "_law_bears" 2 z1s:=
 dfC ["_law_machine_here","_law_name_here"] z1t ZS.Ubw (ZS.Uzz _) .(5) rfl .(f) λhcd hr nd=>
  (z8 (J5 (Z5 (z0U ZS) (hr.mono .(1)) rfl (z6 (z06 (N':=["_law_name_here","_law_machine_here","_law_k"]) (cap:=[some 1,some 0,none]) rfl .(9) (Y3 rfl ZS.Uaq (z0D rfl ZS.Ual (z6 (j6 (z0 0) Z1) Z0))) (λ_ _ _ _=>(j8 2 (show (["_law_name_here","_law_machine_here","_law_k"]:List Str).Nodup by decide +kernel))) (λ_ _ _ _=>(z0j (SW.sc (z94 (sc_c z3K (z0 0) z0m) (z6o (sc_c z7Q (z0 0) (j6 (j6 (z0 1) Z1) (z0 2)))))))) (λ_ _ _ _=>(z0 2))) Z0))) Z3)
theorem z3o:Fn P w K mg base 1 "_law_borne" 3 x8:=
 dfC ["_law_machine_here","_law_one","_law_name_here"] z1z ZS.Ubx (ZS.Uzz _) .(5) rfl .(4) λhcd hr nd=>
  (z8 (J5 (z80 (se_c z3K (z0 2) z0m) (z51 (se_c z7Q (z0 2) (j6 (j6 (z0 0) Z1) (z0 1)))))) Z3)
theorem z76:Fn P w K mg base 2 "_law_met" 3 z2w:=
 dfC ["_law_machine_here","_law_ring","_law_wish","_law_when"] z2v ZS.Uby (ZS.Uzz _) .(5) rfl .(4) λhcd hr nd=>
  (z8 (z54 3 (N':=["_law_machine_here","_law_wish","_law_one"]) (cap:=[some 0,some 2,none]) rfl .(9) (z0Z (z0 1)) (λ_ _ _ _=>(j8 2 (show (["_law_machine_here","_law_wish","_law_one"]:List Str).Nodup by decide +kernel))) (λ_ _ _ _=>(z0j (z0k (Z5 (z3o ZS) (hr.mono .(1)) rfl (z6 (z0 0) (z6 (z0 2) (z6 (j6 (z0 1) Z1) Z0))))))) (λ_ _ _ _=>(z0 2)) nd) (z8 (J5 (z80 (z0n (se_c (z8t (hu30 hr)) (z0 3) (Y1 Z0))) (z51 (z0n (se_c (z8x (hu30 hr)) (z06 (N':=["_law_machine_here","_law_wish","_law_one"]) (cap:=[some 0,some 2,none]) rfl .(9) (z0Z (z0 1)) (λ_ _ _ _=>(j8 2 (show (["_law_machine_here","_law_wish","_law_one"]:List Str).Nodup by decide +kernel))) (λ_ _ _ _=>(z0j (z0k (Z5 (z3o ZS) (hr.mono .(1)) rfl (z6 (z0 0) (z6 (z0 2) (z6 (j6 (z0 1) Z1) Z0))))))) (λ_ _ _ _=>(z0 2))) (Y1 Z0)))))) Z3))
theorem z5L:Fn P w K mg base 3 "_law_right" 5 z2p:=
 dfC ["_law_machine_here","_law_within","_law_wants","_law_one","_law_found","_law_trail","_law_at","_law_k"] z1B ZS.Ubz (ZS.Uzz _) .(5) rfl (λ_ _ _ _ _ _ us hl=>(by obtain⟨_,_,_,_,_,rfl⟩:=ar5 hl;rfl)) λhcd hr nd=>
  (z8 (s_if (SW.sc (z94 (z3i (z0k (Z5 (z1X ZS) (hr.mono .(1)) rfl (z6 (z0 4) (z6 Z1 (z6 Z1 Z0)))))) (z94 (z3i (z0k (Z5 (z1X ZS) (hr.mono .(1)) rfl (z6 (j6 (z0 4) Z1) (z6 Z1 (z6 Z1 Z0)))))) (z6o (z3i (z0k (Z5 (z1X ZS) (hr.mono .(1)) rfl (z6 (j6 (z0 4) Z1) (z6 Z1 (z6 Z1 Z0)))))))))) (z8 (J5 z2Z) Z3) Z3) (z8 (j7 5 nd (z0c (j6 (z0 4) Z1) (j6 (z0 4) Z1))) (z8 (s_if (SW.sc (z94 (sc_c z7y (z0D rfl ZS.Ual (z6 (z0 5) Z0)) Z1) (z6o (sc_c (z8x (hu30 hr)) (j6 (z0 5) Z1) (z0 3))))) (z8 (J5 z2Z) Z3) Z3) (z8 (z19 K0o rfl (z0Z (z0 5)) (y4 6 nd) (z8 (s_if (SW.sc (z94 (z3i (z0k (Z5 (z4N ZS) (hr.mono .(1)) rfl (z6 (z0 6) (z6 Z1 (z6 (z0D rfl ZS.Ual (z6 (j6 (z0 0) Z1) Z0)) Z0)))))) (z6o (sc_c z21 (z0 6) (z0 1))))) (z8 (J5 z2Z) Z3) Z3) Z3)) (z8 (j7 5 nd (z0c (z0 5) (z2t (j6 (z0 4) Z1) z3u (z3N Z1)))) (z8 (z19 K0o rfl (Y3 rfl ZS.Uaq (z8N (z0D rfl ZS.Ual (z6 (z0 5) Z0)) Z1)) (y4 7 nd) (z8 (s_if (sc_c z21 (j6 (z0 5) (z0c (z0 7) Z1)) (j6 (j6 (z0 0) Z1) (j6 (z0 5) (z0 7)))) (z8 (J5 z2Z) Z3) Z3) Z3)) (z8 (J5 (z0n (se_c (z8t (hu30 hr)) (z06 (N':=["_law_machine_here","_law_found","_law_wish"]) (cap:=[some 0,some 4,none]) rfl .(9) (z0Z (z0 2)) (λ_ _ _ _=>(j8 2 (show (["_law_machine_here","_law_found","_law_wish"]:List Str).Nodup by decide +kernel))) (λ_ _ _ _=>(z0j (z3i (z0k (Z5 (z76 ZS) (hr.mono .(1)) rfl (z6 (z0 0) (z6 (j6 (z0 1) Z1) (z6 (z0 2) Z0)))))))) (λ_ _ _ _=>(z0 2))) (Y1 Z0)))) Z3)))))))
theorem z6R:Fn P w K mg base 2 "_law_laid" 3 z32:=
 dfC ["_law_pool_here","_law_machine_here","_law_names_here","_law_many","_law_order","_law_k","_law_at","_law_size","_law_within","_law_turn","_law_steps","_law_to","_law_marks"] z1Y ZS.Uca (ZS.Uzz _) .(5) rfl .(4) λhcd hr nd=>
  (z8 (j7 3 nd (z0D rfl ZS.Ual (z6 (j6 (z0 1) Z1) Z0))) (z8 (j7 4 nd (zp6 rfl rfl ZS.Ucb rfl ZS.Uaq (z0 3))) (z8 (z19 K0o rfl (Y3 rfl ZS.Uaq (z0 3)) (y4 5 nd) (z8 (j7 6 nd (Z5 (Z7 ZS) (hr.mono .(1)) rfl (z6 (z0 0) (z6 (z8N (z0 3) (z0 5)) Z0)))) (z8 (j7 4 nd (z0c (z0c (z2t (z0 4) z3u (z3N (z0 6))) (z2t (z0 4) (z3N (z0c (z0 6) Z1)) z3u)) (Y1 (z6 (j6 (z0 4) (z0 6)) Z0)))) Z3))) (z8 (j7 7 nd (z0c Z1 (Z5 (Z7 ZS) (hr.mono .(1)) rfl (z6 (z0 0) (z6 (z0 3) Z0))))) (z8 (j7 8 nd (z0n (J4 rfl ZS.Uad (z6 (z2j rfl rfl ZS.Uac (z6 (z2t (z0 4) z3u (z3N (z0 7))) Z0)) Z0)))) (z8 (j7 9 nd (Z5 (Z7 ZS) (hr.mono .(1)) rfl (z6 (z0 0) (z6 (z0 7) Z0)))) (z8 (z54 10 (N':=["_law_ahead"]) (cap:=[none]) rfl .(9) (z0Z (j6 (z0 1) Z1)) (λ_ _ _ _=>(j8 0 (show (["_law_ahead"]:List Str).Nodup by decide +kernel))) (λ_ _ _ _=>z18) (λ_ _ _ _=>(zd3 rfl ZS.Ucb (z6 (z0 0) Z0))) nd) (z8 (z19 K0o rfl (Y3 rfl ZS.Uaq (z0 7)) (y4 5 nd) (z8 (j7 11 nd (Z09 (sc_c zc1 (z0c (z0 5) Z1) (z0 7)) (j6 (z0 4) (z0c (z0 5) Z1)) (j6 (z0 4) (z0 9)))) (z8 (s_if (sc_c z21 (z0 11) (j6 (z0 10) (j6 (z0 4) (z0 5)))) (z8 (z0l (J7 (j6 (z0 10) (j6 (z0 4) (z0 5))) (z0 11))) Z3) Z3) Z3))) (z8 (j7 12 nd (zd3 rfl ZS.Ucb (z6 (j6 (z0 1) Z1) Z0))) (z8 (z5K (z0n (J4 rfl ZS.Uad (z6 (z2j rfl rfl ZS.Uac (z6 (z0 2) Z0)) Z0))) (zs1 (z0 12) (j6 (z0 4) (z0 9)))) (z8 (J5 (Y1 (z6 (z2L (z6 (z0n (J4 rfl ZS.Uad (z6 (z06 (N':=["_law_ahead"]) (cap:=[none]) rfl .(9) (z0C (z0 10)) (λ_ _ _ _=>(j8 0 (show (["_law_ahead"]:List Str).Nodup by decide +kernel))) (λ_ _ _ _=>z18) (λ_ _ _ _=>(z0n (J4 rfl ZS.Uad (z6 (z2j rfl rfl ZS.Uac (z6 (z0 0) Z0)) Z0))))) Z0))) (z6 (J4 rfl ZS.Uad (z6 (z0 12) Z0)) Z0))) (z6 (z0 8) (z6 (j6 (z0 4) Z1) Z0))))) Z3)))))))))))
theorem z7N:Fn P w K mg base 6 "_law_due" 3 z3E:=
 dfC ["_law_machine_here","_law_within","_law_wants","_law_ahead","_law_pairs"] z2r ZS.Ucc (ZS.Uzz _) .(5) rfl .(4) λhcd hr nd=>
  (z8 (z54 3 (N':=["_law_steps"]) (cap:=[none]) rfl .(9) (z0Z (j6 (z0 0) Z1)) (λ_ _ _ _=>(j8 0 (show (["_law_steps"]:List Str).Nodup by decide +kernel))) (λ_ _ _ _=>z18) (λ_ _ _ _=>(Z5 (z0U ZS) (hr.mono .(1)) rfl (z6 (z0 0) Z0))) nd) (z8 (z54 4 (N':=["_law_machine_here","_law_when","_law_then"]) (cap:=[some 0,none,none]) rfl .(9) (z0Z (z0 2)) (λ_ _ _ _=>(zG6 rfl (z6B (j8 1 (show (["_law_machine_here","_law_when","_law_then"]:List Str).Nodup by decide +kernel)) (z6B (j8 2 (show (["_law_machine_here","_law_when","_law_then"]:List Str).Nodup by decide +kernel)) zs0)))) (λ_ _ _ _=>z18) (λ_ _ _ _=>(z2L (z6 (Z5 (z3m ZS) (hr.mono .(1)) rfl (z6 (z0 0) (z6 (z0 1) Z0))) (z6 (Z5 (z3m ZS) (hr.mono .(1)) rfl (z6 (z0 0) (z6 (z0 2) Z0))) Z0)))) nd) (z8 (J5 (Z5 (z4x ZS) (hr.mono .(1)) rfl (z6 (Z5 (z63 ZS) (hr.mono .(1)) rfl (z6 (z0 3) (z6 (Z5 (z4Q ZS) (hr.mono .(1)) rfl (z6 (z0 3) (z6 (z0 4) Z0))) (z6 (Z5 (z0U ZS) (hr.mono .(1)) rfl (z6 (z0 1) Z0)) Z0)))) Z0))) Z3)))
end
theorem sc_law:FnScope ["_law_script","_law_pool_here","_law_planned","_law_small","_law_names_here","_law_machine_here","_law_wants","_law_within","_law_one","_law_found"] ["_law_script"] (j3 (top 48)):=⟨rfl,rfl,rfl,by decide +kernel,rfl,by decide +kernel,by decide +kernel⟩
theorem Z0O(g0:Int)(gr sm:List Int)(s c:Int)(r:AH)(n:Int)(hn:0<n)(hn2:n<1073741824)(hg:gr.length<=63):
 ∃gr',gr'.length<=gr.length+1/\Z6 [.ref 2,.int n] (Pool (g0::gr) sm s c r)=.ok (.int (g0 % n)) (Pool gr' sm s c r):=by
 unfold Z6 runF z1q Pool z1b;have hl:gr.length<=sizeLine:=K0h hg .(1);by_cases h0:g0 / n=0
 ·refine⟨gr,by omega,?_⟩;simp[z9,bNil,sIf,sAsg,sRet,z04,e2,Z8,z7,aNil,eVar,fIx,seqD,getL,fLen,fGt,fCmp,fI,asB,gIx,gN,fSet,fDiv,fIC,eM1,z3F,z56,updL,fEq,eqD,fMod,atI,ixN,hn,hn2,h0,K8j,hl]
 ·refine⟨g0 / n::gr,by simp,?_⟩;simp[z9,bNil,sIf,sAsg,sRet,z04,e2,Z8,z7,aNil,eVar,fIx,seqD,getL,fLen,fGt,fCmp,fI,asB,gIx,gN,fSet,fDiv,fIC,eM1,z3F,z56,updL,fEq,eqD,fMod,atI,ixN,hn,hn2,h0]
theorem Z0X(sm:List Int)(s c:Int)(r:AH)(n:Int)(hn:0<n)(hn2:n<1073741824)(hs:0<=s)(hs2:s<2147483647)(hc:0<=c)(hc2:c<1000000)(hm:sm.length<=63):
 ∃s' d,Z6 [.ref 2,.int n] (Pool [] sm s c r)=.ok (.int d) (Pool [] sm s' (c+1) r)/\0<=d/\d<n/\0<=s'/\s'<2147483647:=by
 have k1:-18446744073709551616<c+1:=by omega
 have k2:c+1<18446744073709551616:=by omega
 have k3:-18446744073709551616<s:=by omega
 have k4:s<18446744073709551616:=by omega
 have key:∀x:Int,(∃y:Int,Z6 [.ref 2,.int n] (Pool [] sm s c r)=.ok (.int ((((s * 48271+x % 2147483629 * ((c+1) * (c+1)+1)+97 * (c+1)) % 2147483647) ^ 5) % 2147483629 / 64 % n)) (Pool [] sm ((s * 48271+x % 2147483629 * ((c+1) * (c+1)+1)+97 * (c+1)) % 2147483647) (c+1) r)) ->
  ∃s' d,Z6 [.ref 2,.int n] (Pool [] sm s c r)=.ok (.int d) (Pool [] sm s' (c+1) r)/\0<=d/\d<n/\0<=s'/\s'<2147483647:=λx ⟨_,e⟩=>
  ⟨_,_,e,K5r _ .(0),K4l _ hn,K5r _ .(1),K4l _ .(1)⟩
 have p1:∀z:Int,-18446744073709551616<z % 2147483647:=λz=>by omega
 have p2:∀z:Int,z % 2147483647<18446744073709551616:=λz=>by omega
 have p3:∀z:Int,-18446744073709551616<z % 2147483629:=λz=>by omega
 have p4:∀z:Int,z % 2147483629<18446744073709551616:=λz=>by omega
 cases sm with
 | nil=>
  refine key 0 ⟨0,?_⟩;unfold Z6 runF z1q Pool z1b;simp[z9,bNil,sIf,sAsg,sRet,z04,e2,Z8,z7,aNil,eVar,fIx,seqD,getL,fLen,fGt,fCmp,fI,asB,gIx,gN,fSet,fDiv,fIC,eM1,z3F,z56,updL,fEq,eqD,fMod,fAdd,fMul,z5o,fPow,atI,ixN,hn,hn2,k1,k2,k3,k4,p1,p2,p3,p4]
 | cons m0 sm=>
  have hl:(0:Int)<(sm.length:Int)+1:=by omega
  have hi:0<=(c+1) % ((sm.length:Int)+1):=K5r _ .(0);have hi2:(c+1) % ((sm.length:Int)+1)<(sm.length:Int)+1:=K4l _ hl;obtain⟨x,hx⟩:∃x,(D.int m0::sm.map D.int)[((c+1) % ((sm.length:Int)+1)).toNat]?=.(i x):=by
   have e:(D.int m0::sm.map D.int)=(m0::sm).map D.int:=rfl;rw[e,K0a,K8 (by simp;omega)];exact⟨_,rfl⟩
  have hx2:∀hj,(D.int m0::List.map D.int sm)[((c+1) % ((sm.length:Int)+1)).toNat]'hj=D.int x:=λhj=>K0y ((K8 hj).symm.trans hx);refine key x ⟨0,?_⟩;unfold Z6 runF z1q Pool z1b;simp[z9,bNil,sIf,sAsg,sRet,z04,e2,Z8,z7,aNil,eVar,fIx,seqD,getL,fLen,fGt,fCmp,fI,asB,gIx,gN,fSet,fDiv,fIC,eM1,z3F,z56,updL,fEq,eqD,fMod,fAdd,fMul,z5o,fPow,atI,ixN,hn,hn2,k1,k2,k3,k4,p1,p2,p3,p4,hi,hi2,hl,hx,hx2]
theorem draw{k n:Int}(p:PS h k r)(hk:k<1000000)(hn:0<n)(hn2:n<1073741824):∃d h',Z6 [.ref 2,.int n] h=.ok (.int d) h'/\0<=d/\d<n/\PS h' (k+1) r:=by
 obtain⟨gr,sm,s,c,rfl,h1,h2,h3,h4,h5,h6⟩:=p;cases gr with
 | nil=>
  obtain⟨s',d,e,q1,q2,q3,q4⟩:=Z0X sm s c r n hn hn2 h1 h2 h3 .(0) h6;exact⟨d,_,e,q1,q2,[],sm,s',c+1,rfl,q3,q4,by omega,by omega,by simp,h6⟩
 | cons g0 gr=>
  simp at h5;obtain⟨gr',l,e⟩:=Z0O g0 gr sm s c r n hn hn2 .(0);exact⟨_,_,e,K5r _ .(0),K4l _ hn,gr',sm,s,c,rfl,h1,h2,h3,by omega,by omega,h6⟩
theorem x6{k n:Int}(p:PS h k r)(hk:k<1000000)(hn:0<n)(hn2:n<1073741824)(z:∀d h',0<=d->d<n->PS h' (k+1) r->Q (.int d) h'):W (Z6 [.ref 2,.int n]) h Q:=by
 obtain⟨d,h',e,d0,d1,p'⟩:=draw p hk hn hn2;exact⟨_,_,e,z d h' d0 d1 p'⟩
theorem zm8{ns:List Int}(hn:ns.length<=63):W (z2Y [.fl (ns.map .int)]) [] (λd h'=>d=.ref 2/\PS h' 0 []):=by
 refine z1L ?_;show W (z20 [some (.fl (ns.map .int)),none]) [] _;unfold z20 z2a;rw[w_cons];simp only[K05,K04,Z4,W_pure,Y8,e2,eVar,gN,sAsg];have src:∀(γ:G) (h:AH),γ[0]?=some (some (.fl (ns.map .int)))->z0p .(g) γ h=.ok (.con (ns.map .int)) h:=λγ h e=>by
  unfold z0p eVar;rw[e];rfl
 refine W.of (z2U (src:=.con (ns.map .int)) (λd=>match d with|.int t=>decide (1000000000000000000<=t)|_=>false) (λd=>d) (src _ _ rfl) (λ_=>trivial) (by simp[Src.items];omega) λd hd=>?_) ?_
 ·obtain⟨t,ht,rfl⟩:=K1a.mp hd;refine⟨[.(i t)],λh=>rfl,λj=>?_,λ_ j=>rfl⟩;simp only[K1,bindM,pureM,zY1,zV0,z0A]
 rw[show (Src.con (ns.map D.int)).items=ns.map D.int from rfl,z2M];rw[w_cons];simp only[K2,K1,K06,Z4,W_pure,z7,aNil,z1U,eLst,eVar,sRet];refine W.of (z2U (src:=.con (ns.map .int)) (λd=>match d with|.int t=>decide (t<1000000000000000000)|_=>false) (λd=>d) (src _ _ rfl) (λ_=>trivial) (by simp[Src.items];omega) λd hd=>?_) ?_
 ·obtain⟨t,ht,rfl⟩:=K1a.mp hd;refine⟨[.(i t)],λh=>rfl,λj=>?_,λ_ j=>rfl⟩;simp only[K1,bindM,pureM,zY1,z9a,z0A]
 rw[show (Src.con (ns.map D.int)).items=ns.map D.int from rfl,z2M];refine W.of (a:=.ref 2) (h':=Pool (ns.filter λi=>decide (1000000000000000000<=i)) (ns.filter λi=>decide (i<1000000000000000000)) 5 0 []) ?_ ?_
 ·unfold newL;rw[if_pos (by simp;decide)];rfl
 ·refine⟨rfl,_,_,5,0,rfl,by decide,by decide,by decide,by decide,?_,?_⟩
  ·exact K0h (K0w _ _) hn
  ·exact K0h (K0w _ _) hn
theorem zb9{k:Int}{start:Str}(p:PS h k r)(hk:k<900000)(lo:low start)(hs:start.length<=4)(e:r[i]?=.(l (ns.map .str)))(hn:ns.length<=7):
 W (runF 9 z1p [.ref 2,.str start,.ref (i+3)]) h (λd h'=>∃x j,d=.str x/\PS h' (k+5) (r++j)/\zt6 x/\x∉ns):=by
 refine z1L ?_;show W (z1p [.(r 2),.(s start),.(r (i+3)),none,none,none,none,none,none]) h _;unfold z1p;rw[show ("abcdefghijklmnopqrstuvwxyz":Str)=abc from rfl];rw[w_cons];simp only[K05,K04,Z4,W_pure,Y8,e2,eVar,gN,sAsg];rw[w_cons];simp only[K2,K1,K05,K04,Z4,W_pure,Y8,eVar,gN,sAsg];rw[w_cons];refine z0X (λc γ h=>∃x w,γ=[.(r 2),.(s start),.(r (i+3)),.(s abc),.(s x),w,none,none,none]/\PS h (k+1+c) r/\low x/\x.length<=4+c) (λ_ _=>False) ?_;simp only[K1,K6,K06,K0g,z0h,Z4,z0a,W_pure,z7,aNil,Y8,z1U,eFn,eVar,if_true];refine x6 p .(0) .(1) .(1) λd h1 d0 d1 p1=>?_;refine⟨d.toNat,by rw[K5g d0],by omega,⟨start,none,rfl,by simpa using p1,lo,by omega⟩,?_,?_,λ_ _ q=>q.elim⟩
 ·rintro c γ h2 hc ⟨x,w,rfl,p2,lx,hx⟩;rw[w_cons];simp only[K2,K1,K6,K06,K05,K04,K0g,z0h,Z4,z0a,W_pure,z7,aNil,Y8,e2,eFn,eVar,gN,if_true,sAsg,z3t];refine x6 p2 .(0) .(1) .(1) λd h1 d0 d1 p1=>?_;refine z5r (k:=k) (r:=r) d0 d1 .(0) ?_;refine⟨_,_,rfl,p1.up .(0),z7u lx .(0) .(0),by rw[len_app,z4q];omega⟩
 rintro γ h2 ⟨x,w,rfl,p2,lx,hx⟩;rw[w_cons];simp only[K1,K6,K06,K05,K04,K0g,z0h,Z4,z0a,W_pure,z7,aNil,Y8,eFn,eVar,gN,if_true,sAsg];refine x6 (p2.up (show _<=k+4 by omega)) .(0) .(1) .(1) λl h3 l0 l1 p3=>?_;rw[w_cons];simp only[K05,K04,Z4,W_pure,z7,aNil,Y8,eLst,gN,sAsg];rw[show [D.str "yes",D.str "no",D.str "not",D.str "and",D.str "or",D.str "step",D.str "some",D.str "all",D.str "next",D.str "once",D.str "ever",D.str "until",D.str "unless"]=words.map D.str from rfl];refine z2I p3 .(1) λh4 p4=>?_;rw[w_cons];refine z0X (λc γ h=>∃w w',γ=[.(r 2),.(s start),.(r (i+3)),.(s abc),.(s x),w,.(i l),.(r (r.length+3)),w']/\PS h (k+5) (r++[.lst (words.map .str)])/\∀c':Nat,c'<c->cand x l c'∈words\/cand x l c'∈ns) (λd h=>∃c:Nat,d=.str (cand x l c)/\cand x l c∉words/\cand x l c∉ns/\PS h (k+5) (r++[.lst (words.map .str)])) ?_;rw[W_pure];refine⟨26,rfl,by decide,⟨_,_,rfl,p4.up .(0),λc' hc=>by omega⟩,?_,?_,?_⟩
 ·rintro c γ h5 hc ⟨w,w',rfl,p5,hb⟩;rw[w_cons];simp only[K2,K1,K05,K04,Z4,W_pure,z1O,Y8,e2,eVar,gN,sAsg];have m1:fMod (.int (l+c)) (.int 26)=pure (.int ((l+c) % 26)):=rfl;rw[m1,W_pure];refine z5r (k:=k) (r:=r) (K5r _ .(1)) (K4l _ .(1)) .(0) ?_;rw[w_cons];simp only[K1k,K2,K1,Z4,z0a,W_pure,cAnd,Y8,if_false,sIf,z3t];refine W.of (zv4 p5 z5d) ?_;rw[z0A,W_pure];by_cases q1:cand x l c∈words
  ·have:(decide (x++{ cps:=#[((l+(c:Int)) % 26).toNat+97] }∈words) != true)=false:=by
    rw[show decide (x++{ cps:=#[((l+(c:Int)) % 26).toNat+97] }∈words)=true from decide_eq_true q1];rfl
   rw[this];simp only[K1k,if_false];refine⟨_,_,rfl,p5,λc' hc'=>?_⟩;by_cases e':c'=c
   ·subst e';exact .inl q1
   ·exact hb c' .(0)
  ·have:(decide (x++{ cps:=#[((l+(c:Int)) % 26).toNat+97] }∈words) != true)=true:=by
    rw[show decide (x++{ cps:=#[((l+(c:Int)) % 26).toNat+97] }∈words)=false from .(k) q1];rfl
   rw[this];simp only[if_true];refine W.of (zv4 p5 (j9 e)) ?_;by_cases q2:cand x l c∈ns
   ·have:(decide (x++{ cps:=#[((l+(c:Int)) % 26).toNat+97] }∈ns) != true)=false:=by
     rw[show decide (x++{ cps:=#[((l+(c:Int)) % 26).toNat+97] }∈ns)=true from decide_eq_true q2];rfl
    rw[this];simp only[K1k,W_pure,z0A,if_false];refine⟨_,_,rfl,p5,λc' hc'=>?_⟩;by_cases e':c'=c
    ·subst e';exact .inr q2
    ·exact hb c' .(0)
   ·have:(decide (x++{ cps:=#[((l+(c:Int)) % 26).toNat+97] }∈ns) != true)=true:=by
     rw[show decide (x++{ cps:=#[((l+(c:Int)) % 26).toNat+97] }∈ns)=false from .(k) q2];rfl
    rw[this];simp only[W_pure,z0A,if_true];rw[w_cons];simp only[K2,K1,Z4,W_pure,z1U,eVar,sRet];exact⟨c,rfl,q1,q2,p5⟩
 ·rintro γ h5 ⟨w,w',rfl,p5,hb⟩;exact(zT7 l0 hn hb).elim
 ·rintro d h5 ⟨c,rfl,q1,q2,p5⟩;refine⟨cand x l c,[.lst (words.map .str)],rfl,p5,⟨?_,?_,?_,q1⟩,q2⟩
  ·unfold cand;rw[len_app,z4q];omega
  ·unfold cand;rw[len_app,z4q];omega
  ·exact z7u lx .(0) .(0)
theorem zq8{k:Int}{start:Str}(p:PS h k r)(c:CL r)(hk:k<900000)(lo:low start)(hs:start.length<=4)(e:r[i]?=.(l (ns.map .str)))(hn:ns.length<=7):
 W (z30 [.ref 2,.str start,.ref (i+3)]) h (λd h'=>∃x,d=.str x/\PS h' (k+5) r/\zt6 x/\x∉ns):=
 z9t p c ((zb9 p hk lo hs e hn).mono λd h1 ⟨x,j,e,p1,g,n⟩=>⟨_,j,p1,by subst e;rfl,λh2 p2=>⟨x,e,p2,g,n⟩⟩)
theorem ze9{k:Int}(p:PS h k r)(cl:CL r)(hk:k<800000)(hn:n<=8)(z:∀ns h',ns.length=n->NS ns->PS h' (k+45) (r++[.lst (ns.map .str)])->Q (.ref (r.length+3)) h'):
 W (z2e [.ref 2,.int n]) h Q:=by
 refine zu4 p cl ?_;refine z1L ?_;show W (z1y [.(r 2),.(i n),none,none,none,none]) h _;unfold z1y;rw[show ("abcdefghijklmnopqrstuvwxyz":Str)=abc from rfl];refine z9w (.str abc) _ rfl rfl ?_;refine z9w (.str "") _ rfl rfl ?_;rw[w_cons];refine z0X (λc γ h=>∃x w,γ=[.(r 2),.(i n),.(s abc),.(s x),w,none]/\PS h (k+1+c) r/\low x/\x.length<=c) (λ_ _=>False) ?_;refine zr1 p cl ?_;simp only[K1,K6,K06,K05,K04,K0g,z0h,Z4,z0a,W_pure,z7,aNil,Y8,z1U,e2,eFn,eLst,eVar,if_true];refine z2I p .(1) λh1 p1=>?_;refine x6 p1 .(0) .(1) .(1) λd h2 d0 d1 p2=>?_;obtain⟨v,hv,ea⟩:∃v:Nat,v<=4/\atI [D.int 0,D.int 0,D.int 1,D.int 4] d=.(i v):=by
  have:d=0\/d=1\/d=2\/d=3:=by omega
  rcases this with rfl|rfl|rfl|rfl
  ·exact⟨0,by decide,rfl⟩
  ·exact⟨0,by decide,rfl⟩
  ·exact⟨1,by decide,rfl⟩
  ·exact⟨4,by decide,rfl⟩
 refine zp0 p2 z5d ea ?_;refine⟨_,_,p2,rfl,λh2 p2=>⟨v,rfl,by omega,⟨_,none,rfl,by simpa using p2,zI5,by rw[zF2];omega⟩,?_,?_,λ_ _ q=>q.elim⟩⟩
 ·rintro c γ h3 hc ⟨x,w,rfl,p3,lx,hx⟩;rw[w_cons];simp only[K2,K1,K6,K06,K05,K04,K0g,z0h,Z4,z0a,W_pure,z7,aNil,Y8,e2,eFn,eVar,gN,if_true,sAsg,z3t];refine x6 p3 .(0) .(1) .(1) λd h1 d0 d1 p1=>?_;refine z5r (k:=k) (r:=r) d0 d1 .(0) ?_;refine⟨_,_,rfl,p1.up .(0),z7u lx .(0) .(0),by rw[len_app,z4q];omega⟩
 rintro γ h3 ⟨x,w,rfl,p3,lx,hx⟩;refine z4r ?_;simp only[K05,K04,Z4,W_pure,aNil,eLst];refine z2I p3 .(1) λh4 p4=>?_;rw[w_cons];refine z0X (λc γ h=>∃ns w,γ=[.(r 2),.(i n),.(s abc),.(s x),w,.(r (r.length+3))]/\PS h (k+5+5 * c) (r++[.lst (ns.map .str)])/\ns.length=c/\NS ns) (λ_ _=>False) ?_;simp only[K2,K1,W_pure,Y8,z1U,eVar];refine⟨n,rfl,by omega,⟨[],_,rfl,p4.up .(0),rfl,⟨K4f,by simp⟩⟩,?_,?_,λ_ _ q=>q.elim⟩
 ·rintro c γ h5 hc ⟨ns,w,rfl,p5,l5,n5⟩;rw[w_cons];simp only[K2,K1,K6,K06,K05,K04,K0g,z5w,z0h,Z4,z0a,W_pure,z7,aNil,Y8,eFn,eM1,eVar,if_true,z04,z3t];refine z66 p5 z5d ?_;refine(zq8 p5 (cl.put (z0z ns)) .(0) lx .(0) z5d .(0)).mono λy h6 ⟨z,ey,p6,gz,nz⟩=>?_;subst ey;refine z8Y p6 z5d (by simp;omega) λh7 p7=>?_;refine⟨ns++[z],_,rfl,?_,by simp[l5],⟨?_,?_⟩⟩
  ·have:=p7.up (k':=k+5+5 * ((c+1:Nat):Int)) .(0);simpa using this
  ·rw[K1c];refine⟨n5.1,by simp,λa ha b hb=>?_⟩;simp at hb;subst hb;exact λe=>nz (e ▸ ha)
  ·intro y hy;rcases K00.mp hy with q|q
   ·exact n5.2 y q
   ·simp at q;subst q;exact gz
 ·rintro γ h5 ⟨ns,w,rfl,p5,l5,n5⟩;exact zF3 _ rfl ⟨k+45,_,r.length,_,rfl,p5.up .(0),K01 _,z5d,z0z ns,λh2 p2=>z ns h2 l5 n5 p2⟩
theorem zq1{x:D}(e:seqD x h=.ok (stD l) h)(hl:l.length<=2000)(hd:(setN l).length<64):z28 [x] h=.ok (.tup (stD (setN l))) h:=by
 have dl:(dedN l).length=(setN l).length:=by unfold setN;rw[z1k]
 have e1:z1H [x] h=.ok (.ref .(h)) (h++[.set (kN (dedN l))]):=by
  unfold z1H;dsimp only;rw[M.bind_ok e,z7a];dsimp only;rw[if_pos (by rw[zb8];omega),zv1];rfl
 have e2:z0Q [.ref .(h)] (h++[.set (kN (dedN l))])=.ok (.ref (.(h)+1)) (h++[.set (kN (dedN l)),.lst (stD (setN l))]):=by
  unfold z0Q;dsimp only;have g:getS .(h) (h++[.set (kN (dedN l))])=.ok (kN (dedN l)) (h++[.set (kN (dedN l))]):=by
   unfold getS;rw[show (h++[O.set (kN (dedN l))])[h.length]?=some (.set (kN (dedN l))) by simp]
  rw[M.bind_ok g,z7v];dsimp only;rw[if_pos (by unfold zN;rw[K0c];omega),z4H];unfold newL;rw[if_pos (by rw[Z9,z1k];unfold sizeLine;omega)];simp[setN]
 have e3:y3 [.ref (.(h)+1)] (h++[.set (kN (dedN l)),.lst (stD (setN l))])=.ok (.tup (stD (setN l))) (h++[.set (kN (dedN l)),.lst (stD (setN l))]):=by
  have ft:∀i:Nat,y3 [.ref i]=(do let x <- getL i;pure (.tup x)):=λ_=>rfl;rw[ft];have g:getL (.(h)+1) (h++[.set (kN (dedN l)),.lst (stD (setN l))])=.ok (stD (setN l)) (h++[.set (kN (dedN l)),.lst (stD (setN l))]):=by
   unfold getL;rw[show (h++[O.set (kN (dedN l)),O.lst (stD (setN l))])[h.length+1]?=.(l ((stD (setN l)))) by simp]
  rw[M.bind_ok g];rfl
 have e4:clE (Z8 y3 (z7 (Z8 z0Q (z7 (Z8 z1H (z7 .(g) aNil)) aNil)) aNil)) [some x] h=.ok (.tup (stD (setN l))) h:=by
  refine z05 (j:=[.set (kN (dedN l)),.lst (stD (setN l))]) ?_ (by simp only[J2];exact y6 λ_=>rfl);exact y9 (y9 (y9 (show eVar 0 [some x] h=.ok x h from rfl) e1) e2) e3
 have e5:runF 1 z46 [x] h=.ok (.tup (stD (setN l))) h:=z2G (Y2 (h1:=h) _ e4 ⟨rfl,rfl⟩);show cln (runF 1 z46 [x]) h=_;refine z05 (j:=[]) (by rw[K17];exact e5) (by simp only[J2];exact y6 λ_=>rfl)
theorem z8G(e:h[n]?=.(l (stD l)))(hl:l.length<=2000)(hd:(setN l).length<64):z28 [.ref n] h=.ok (.tup (stD (setN l))) h:=zq1 (by unfold seqD getL;dsimp only;rw[e]) hl hd
def rowI:G->M Src:=z0p (e2 z2R .(g) (eVar 5))
def tkH(h:AH)(n:Nat)(T S P wt:List Nat):AH:=h.set n (.dK (kvN (T++S)))++[.lst (stD P),.lst (stD wt)]
section
variable{S P wt:List Nat}(hn:n<h.length)
include hn
theorem tk_n:(tkH h n T S P wt)[n]?=some (.dK (kvN (T++S))):=by
 unfold tkH;rw[K0s (by simpa using hn),K1p hn]
omit hn in
theorem tk_p:(tkH h n T S P wt)[h.length]?=.(l (stD P)):=by
 unfold tkH;rw[K0i .(e)];simp
omit hn in
theorem tk_w:(tkH h n T S P wt)[h.length+1]?=.(l (stD wt)):=by
 unfold tkH;rw[K0i .(e)];simp
theorem zG5:(tkH h n T S P wt).set n (.dK (kvN (T++S++[x])))=tkH h n T (S++[x]) P wt:=by
 unfold tkH;rw[K6w _ _ (by simpa using hn),List.set_set,K7]
omit hn in
theorem zG4{P':List Nat}:(tkH h n T S P wt).set h.length (.lst (stD P'))=tkH h n T S P' wt:=by
 unfold tkH;rw[K16 _ _ .(e)];simp
omit hn in
theorem zb6{wt':List Nat}:(tkH h n T S P wt).set (h.length+1) (.lst (stD wt'))=tkH h n T S P wt':=by
 unfold tkH;rw[K16 _ _ .(e)];simp
omit hn in
theorem zj8(hi:i<h.length)(ne:i≠n):(tkH h n T S P wt)[i]?=h[i]?:=by
 unfold tkH;rw[K0s (by simpa using hi),K22 (K57 ne)]
end
theorem zR4{ld:D}(hT:h[n]?=some (.dK (kvN T)))(xT:x∉T)(nT:T.Nodup)(lT:∀a∈T,a<N)(hN:N<=60)(ln:∀a,∀b∈nx st a,b<N)(hx:x<N)
 (hrow:∀h1:AH,(∀i,i<.(h)->i≠n->h1[i]?=h[i]?)->∀a,RchT st T x a->∀p w b,∃src,rowI [some ld,.(i x),.(r n),p,w,.(i a),b] h1=.ok src h1/\src.items=stD (nx st a)/\∀h2:AH,(∀i,i<.(h)->i≠n->h2[i]?=h[i]?)->src.good h2) :
 ∃S,z2X [ld,.int x,.ref n] h=.ok (.tup (stD (setN S))) (h.set n (.dK (kvN (T++S))))/\FndT st T x S/\∀a∈S,∀b∈nx st a,b∈S\/b∈T:=by
 have hn:n<h.length:=by
  by_cases q:n<.(h)
  ·exact q
  ·rw[K1j .(0)]at hT;cases hT
 have lT':T.length<=N:=z0q nT lT;have lS:∀{S},FndT st T x S->S.length<=N:=λf=>z0q f.nd λa ha=>zd8 ln hx (f.rc a ha)
 suffices z:W (runF 7 z0L [ld,.int x,.ref n]) h λd h1=>∃S P,d=.tup (stD (setN S))/\h1=tkH h n T S P []/\FndT st T x S/\∀a∈S,∀b∈nx st a,b∈S\/b∈T by
  obtain⟨d,h1,e,S,P,rfl,rfl,f,c⟩:=z;refine⟨S,?_,f,c⟩;show cln (runF 7 z0L [ld,.int x,.ref n]) h=_;unfold cln;rw[e];have kp:.(h)<=(tkH h n T S P []).length/\Kept h (tkH h n T S P []):=by
   refine⟨by unfold tkH;simp,λi o li eo=>?_⟩;by_cases q:i=n
   ·subst q;rw[tk_n hn]at eo;cases eo;refine .inr ?_;simp only[refO];unfold kvN;rw[K1q];exact y6 λ_=>rfl
   ·rw[zj8 li q]at eo;exact .inl eo
  dsimp only;rw[if_pos kp];have r1:J2 h.length (.tup (stD (setN S)))=true:=by simp only[J2];exact y6 λ_=>rfl
  rw[if_pos r1];congr 1;unfold tkH;rw[K24 .(e),K32 .(e)]
 refine z1L ?_;show W (z0L [some ld,.(i x),.(r n),none,none,none,none]) h _;unfold z0L;refine zx8 rfl rfl hT xT .(0) ?_;refine zo2 (xs:=[]) .(e) (λh=>rfl) ?_;refine zo2 (xs:=[.int x]) .(e) (λh=>rfl) ?_;rw[show h.set n (O.dK (kvN (T++[x])))++[O.lst []]++[O.lst [D.int x]]=tkH h n T [x] [] [x] by unfold tkH;rw[K7];rfl];rw[show (h.set n (O.dK (kvN (T++[x])))++[O.lst []]).length=h.length+1 by simp,show (h.set n (O.dK (kvN (T++[x])))).length=h.length by simp];refine z1r (λγ h'=>∃S P a b,γ=[some ld,.(i x),.(r n),.(r .(h)),.(r (.(h)+1)),a,b]/\h'=tkH h n T S P []/\FndT st T x S/\(∀a,a∈S↔a∈P)/\P.length=S.length/\∀a∈S,∀b∈nx st a,b∈S\/b∈T) ?_ ?_
 ·refine z1m (λm γ h'=>∃S P wt a b,γ=[some ld,.(i x),.(r n),.(r h.length),.(r (h.length+1)),a,b]/\h'=tkH h n T S P wt/\FndT st T x S/\(∀a,a∈S↔a∈P\/a∈wt)/\P.length+wt.length=S.length/\(∀a∈S,a∈wt\/∀b∈nx st a,b∈S\/b∈T)/\m+P.length=N) _ _ ?_ 1000000 N _ _ .(0) ⟨[x],[],[x],none,none,rfl,rfl,FndT.one xT,by simp,rfl,by simp,by simp⟩;rintro m γ h4 ⟨S,P,wt,a,b,rfl,rfl,fn,mem,len,cl,me⟩;have sl:=lS fn;refine W_of (zc5 rfl tk_w) ?_;cases hw:wt.reverse with
  | nil=>
   have:wt=[]:=by simpa using hw
   subst this;rw[if_neg (by simp[stD])];exact⟨S,P,a,b,rfl,rfl,fn,λa=>by simpa using mem a,by simpa using len,λa ha=>by simpa using cl a ha⟩
  | cons y yr=>
   obtain⟨wr,rfl⟩:∃wr,wt=wr++[y]:=⟨yr.reverse,by rw[<- K52 wt,hw];simp⟩;rw[if_pos (by simp[stD])];simp at len;have yS:y∈S:=(mem y).mpr (.inr .(e));refine⟨m - 1,by omega,?_⟩;refine Z00 (i:=.(h)+1) (xs:=stD wr) (v:=.int y) rfl (by rw[z0I];exact tk_w) (by rw[Z9];omega) ?_;rw[zb6];refine z1A (i:=.(h)) (xs:=stD P) (v:=.int y) rfl tk_p (by rw[Z9];omega) rfl ?_;rw[z0I,zG4];refine z1r (λγ h'=>∃S wt b,γ=[some ld,.(i x),.(r n),.(r .(h)),.(r (.(h)+1)),.(i y),b]/\h'=tkH h n T S (P++[y]) wt/\FndT st T x S/\(∀a,a∈S↔a∈P++[y]\/a∈wt)/\P.length+1+wt.length=S.length/\(∀a∈S,a∈wt\/a=y\/∀b∈nx st a,b∈S\/b∈T)/\∀b∈nx st y,b∈S\/b∈T) ?_ ?_
   ·refine z0g (λc γ h'=>∃S wt b,γ=[some ld,.(i x),.(r n),.(r .(h)),.(r (.(h)+1)),.(i y),b]/\h'=tkH h n T S (P++[y]) wt/\FndT st T x S/\(∀a,a∈S↔a∈P++[y]\/a∈wt)/\P.length+1+wt.length=S.length/\(∀a∈S,a∈wt\/a=y\/∀b∈nx st a,b∈S\/b∈T)/\∀i b,i<c->(nx st y)[i]?=some b->b∈S\/b∈T) (λ_ _=>False) ?_;obtain⟨src,e1,e2,e3⟩:=hrow (tkH h n T S (P++[y]) wr) (λi hi ne=>zj8 hi ne) y (fn.rc y yS) (.(r .(h))) (.(r (.(h)+1))) b;refine W_of e1 ?_;rw[e2];refine⟨⟨S,wr,b,rfl,rfl,fn,λa=>?_,by omega,λa ha=>?_,λi b hi=>by omega⟩,?_,?_,?_,λ_ _ q=>q.elim⟩
    ·rw[mem a];simp only[K00,K0q];constructor
     ·rintro(q|q|q)
      ·exact .inl (.inl q)
      ·exact .inr q
      ·exact .inl (.inr q)
     ·rintro((q|q)|q)
      ·exact .inl q
      ·exact .inr (.inr q)
      ·exact .inr (.inl q)
    ·rcases cl a ha with q|q
     ·rcases K00.mp q with q|q
      ·exact .inl q
      ·simp at q;exact .inr (.inl q)
     ·exact .inr (.inr q)
    ·rintro i γ h' ⟨S,wt,b,rfl,rfl,_⟩;exact e3 _ λi hi ne=>zj8 hi ne
    ·rintro c d γ h6 hd ⟨S,wt,b,rfl,rfl,fn,mem,len,cl,hc⟩;obtain⟨e,rfl,he⟩:=z3b hd;have en:e∈nx st y:=K0d he;have yS:y∈S:=(mem y).mpr (.inl .(e));have sl:=lS fn;refine W_of (show gN 6 (.int e) [some ld,.(i x),.(r n),.(r .(h)),.(r (.(h)+1)),.(i y),b] _=.ok [some ld,.(i x),.(r n),.(r .(h)),.(r (.(h)+1)),.(i y),.(i e)] _ from rfl) ?_;have f1:FT.e2 (fInD true) (eVar 6) .(t) [some ld,.(i x),.(r n),.(r .(h)),.(r (.(h)+1)),.(i y),.(i (e:Int))] (tkH h n T S (P++[y]) wt)=.ok (.bl (decide (e∈T++S) != true)) (tkH h n T S (P++[y]) wt):=by
      exact zJ8 (tk_n hn)
     refine z1j _ (cb_h f1) ?_;by_cases eS:e∈T++S
     ·rw[decide_eq_true eS];rw[if_neg .(1)];refine z0i (w6 ⟨S,wt,_,rfl,rfl,fn,mem,len,cl,λi b hi hb=>?_⟩);by_cases ic:i=c
      ·subst ic;rw[he]at hb;cases hb;exact(K00.mp eS).symm
      ·exact hc i b .(0) hb
     ·rw[.(k) eS];rw[if_pos .(1)];have eT:e∉T:=λq=>eS (K09 _ q);have eS':e∉S:=λq=>eS (K0r _ q);have fn2:=fn.put yS en eS' eT;have sl2:=lS fn2;simp at sl2;refine z0M ?_;refine zx8 (l:=T++S) (x:=e) rfl rfl (tk_n hn) eS (by simp;omega) ?_;rw[zG5 hn];refine z0M ?_;refine z1A (i:=.(h)+1) (xs:=stD wt) (v:=.int e) rfl tk_w (by rw[Z9];omega) rfl ?_;rw[z0I,zb6];refine z0i (w6 ⟨S++[e],wt++[e],_,rfl,rfl,fn2,λa=>?_,by simp;omega,λa ha=>?_,λi b hi hb=>?_⟩)
      ·rw[K00,mem a,K00 (s:=wt)];exact or_assoc
      ·rcases K00.mp ha with q|q
       ·rcases cl a q with q|q|q
        ·exact .inl (K09 _ q)
        ·exact .inr (.inl q)
        ·exact .inr (.inr λb hb=>(q b hb).imp (K09 _) id)
       ·exact .inl (K0r _ q)
      ·by_cases ic:i=c
       ·subst ic;rw[he]at hb;cases hb;exact .inl .(e)
       ·exact(hc i b .(0) hb).imp (K09 _) id
    ·rintro γ h6 ⟨S,wt,b,rfl,rfl,fn,mem,len,cl,hc⟩;refine⟨S,wt,b,rfl,rfl,fn,mem,len,cl,λb hb=>?_⟩;obtain⟨i,hi,e⟩:=K1o hb;exact hc i b (by simpa [Z9] using hi) (by rw[<- e];exact K8 hi)
   ·rintro γ h6 ⟨S,wt,b,rfl,rfl,fn,mem,len,cl,all⟩;have sl:=lS fn;refine w6 ⟨m - 1,K01 _,S,P++[y],wt,_,_,rfl,rfl,fn,mem,by simp;omega,λa ha=>?_,by simp;omega⟩;rcases cl a ha with q|q|q
    ·exact .inl q
    ·subst q;exact .inr all
    ·exact .inr q
 ·rintro γ h4 ⟨S,P,a,b,rfl,rfl,fn,mem,len,cl⟩;have sl:=lS fn;have sz:setN P=setN S:=zm0 λx=>(mem x).symm;have lz:(setN S).length<=N:=zo0 λa ha=>zd8 ln hx (fn.rc a ha);refine Y2 (h1:=tkH h n T S P []) (.tup (stD (setN S))) ?_ ⟨S,P,rfl,rfl,fn,cl⟩;have e1:z28 [.ref .(h)] (tkH h n T S P [])=.ok (.tup (stD (setN P))) (tkH h n T S P []):=z8G tk_p .(0) (by rw[sz];omega);rw[sz]at e1;simp only[K2,K1,K6,K06,K0g,z7,aNil,z08,eFn,eVar,if_true];exact e1
theorem zy3{ss:List Str}(hn:NS ns)(hl:ns.length<=8)(s:ss.Sublist ns):MK (Y7 ss):=
 ⟨by rw[z3n];exact K0h s.length_le hl,λx hx=>hn.2 _ (s.subset (sortS_mem.mp hx)),z59 (s.nodup hn.1)⟩
theorem z9k{k:Int}{dn:Int}(p:PS h k r)(hk:k<900000)(hm:m<=40)(e0:γ[0]?=some (.(r 2)))(e3:γ[3]?=some (.(i m)))(e4:γ[4]?=some (.(i dn)))(z:∀l h',l.Pairwise (·<·)->(∀x∈l,x<m)->PS h' (k+m) r->Q (.tup (stD l)) h'):
 W (clE (Z8 y3 (z7 (z00 [some 0,some 4,none] (Y4 (eVar 3)) (gN 2) (λγ=>do let d <- e2 fLt (eFn 2 Z6 (z7 .(g) (z7 (λ_=>pure (.int 6)) aNil))) .(l) γ;asB d) .(t)) aNil)) γ) h Q:=by
 refine zr1 p trivial ?_;simp only[Z4,W_pure,z7,aNil,e2,Z8,eFn,eVar];refine zk2 (r:=r) (l:=[]) (λc xs k'=>∃l:List Nat,xs=stD l/\l.Pairwise (·<·)/\(∀x∈l,x<c)/\l.length<=c/\k'=k+c) ?_;refine W.of (z0b (n:=m) (by dsimp only[eVar];rw[e3];rfl) .(0)) ?_;refine⟨_,by simpa using p,⟨[],rfl,by simp,by simp,by simp,by simp⟩,λ_ _ _ _=>trivial,?_,?_⟩
 ·rintro c d h6 k6 xs hd ⟨l,rfl,l1,l2,l3,rfl⟩ p6;obtain⟨rfl,hc⟩:=z0V hd;simp only[capG,K0p,K1u,e0,e4,K2t,K8f];simp only[K2,K1,K6,K06,K05,K04,K0g,z0h,Z4,z0a,W_pure,eVar,gN,if_true];refine x6 p6 .(0) .(1) .(1) λt h7 t0 t1 p7=>?_;simp only[W_pure,z0A,z9a];by_cases q:t<dn
  ·rw[decide_eq_true q];simp only[if_true];refine⟨_,p7,by rw[Z9];omega,l++[c],(z0I _ _),?_,?_,by simp;omega,by omega⟩
   ·rw[K6x];exact⟨l1,by simp,λa ha b hb=>by simp at hb;subst hb;exact l2 a ha⟩
   ·intro x hx;rcases K00.mp hx with q|q
    ·have:=l2 x q;omega
    ·simp at q;omega
  ·rw[.(k) q];simp only[K1k,if_false];exact⟨_,p7,l,rfl,l1,λx hx=>by have:=l2 x hx;omega,by omega,by omega⟩
 rintro h6 xs k6 ⟨l,rfl,l1,l2,l3,rfl⟩ p6;rw[show (Src.con (J9 m)).items.length=m by simp[Src.items,J9]]at l2 p6;exact z3V (i:=0) p6 rfl ⟨_,_,p6,z0K l,λh7 p7=>z l h7 l1 l2 p7⟩
theorem z93{k:Int}(p:PS h k r)(hk:k<900000)(e:r[i]?=.(l (ns.map .str)))(hn:ns.length<=8)(hg:NS ns)(e0:γ[0]?=some (.(r 2)))(e1:γ[1]?=some (.(r (i+3))))(z:∀ss h',MK ss->PS h' (k+ns.length) r->Q (.tup (ss.map .str)) h'):
 W (clE (Z8 y3 (z7 (Z8 z0f (z7 (z00 [some 0,none] (z0p .(l)) (gN 1) (λγ=>do let d <- e2 (fEq false) (eFn 2 Z6 (z7 .(g) (z7 (λ_=>pure (.int 2)) aNil))) .(2) γ;asB d) .(l)) aNil)) aNil)) γ) h Q:=by
 refine zr1 p trivial ?_;simp only[Z4,W_pure,z7,aNil,e2,Z8,eFn,eVar];refine zk2 (r:=r) (l:=[]) (λc xs k'=>∃ss:List Str,xs=ss.map .str/\ss.Sublist (ns.take c)/\k'=k+c) ?_;have sr:z0p .(l) γ h=.ok (.lst (i+3) (ns.map .str)) h:=by
  have g:getL (i+3) h=.ok (ns.map .str) h:=by unfold getL;rw[p.get,e]
  unfold z0p eVar;rw[e1];show (getL (i+3) >>= λxs=>pure (Src.lst (i+3) xs)) h=_;rw[M.bind_ok g];rfl
 refine W.of sr ?_;refine⟨_,by simpa using p,⟨[],rfl,by simp,by simp⟩,λh' k' xs' ph=>?_,?_,?_⟩
 ·show h'[i+3]?=_;rw[ph.get,j9 e]
 ·rintro c d h9 k9 xs' hd ⟨ss,rfl,ls,rfl⟩ p9;have hd':(ns.map D.str)[c]?=some d:=hd;rw[K0a]at hd';obtain⟨y,ey,rfl⟩:=K11.mp hd';obtain⟨lc,ey'⟩:=K02.mp ey;have tk:ns.take (c+1)=ns.take c++[y]:=by rw[<- ey',K2d lc]
  have l8:ss.length<=8:=K0h ls.length_le (by rw[K1e];omega);simp only[capG,K0p,K1u,e0,e1,K2t,K8f];simp only[K2,K1,K6,K06,K05,K04,K0g,z0h,Z4,z0a,W_pure,eVar,gN,if_true];refine x6 p9 .(0) .(1) .(1) λt h10 t0 t1 p10=>?_;simp only[W_pure,z0A,z4C];by_cases q:t=1
  ·rw[decide_eq_true q];simp only[K6c,Bool.true_bne,if_true];exact⟨_,p10,by simp;omega,ss++[y],by simp,by rw[tk];exact ls.append (Z22 _),by omega⟩
  ·rw[.(k) q];simp only[Bool.false_bne,K1k,if_false];exact⟨_,p10,ss,rfl,by rw[tk];exact ls.trans (List.sublist_append_left _ _),by omega⟩
 rintro h9 xs' k9 ⟨ss,rfl,ls,rfl⟩ p9;rw[show (Src.lst (i+3) (ns.map D.str)).items.length=ns.length by simp[Src.items]]at ls p9;rw[K1g]at ls;have l8:ss.length<=8:=K0h ls.length_le hn;refine W_of (z7p (ss:=ss) (h:=h9) (by rw[p9.get,show r.length+([]:AH).length=r.length+0 from rfl,at_E];rfl) .(0)) ?_;have p11:=p9.app [.lst ((Y7 ss).map .str)];rw[K7]at p11;rw[show h9.length=r.length+1+3 by rw[p9.len];simp];exact z3V (i:=1) p11 rfl ⟨_,_,p11,by simp only[J2];exact z0z _,λh12 p12=>z (Y7 ss) h12 (zy3 hg hn ls) p12⟩
theorem zb0{k:Int}{most:Nat}(p:PS h k r)(hk:k<700000)(hm0:1<=most)(hm:most<=40)(e:r[i]?=.(l (ns.map .str)))(hn:ns.length<=8)(hg:NS ns)(z:∀st mk h',MA st mk->st.length<=most->PS h' (k+2000) r->Q .(a) h'):
 W (z1F [.ref 2,.ref (i+3),.int most]) h Q:=by
 refine z9t p trivial ?_;refine z1L ?_;show W (z0R [.(r 2),.(r (i+3)),.(i most),none,none,none,none,none]) h _;unfold z0R;refine z0r (λd h1=>∃m:Nat,1<=m/\m<=most/\d=.int m/\PS h1 (k+1) r) ?_ ?_
 ·simp only[K2,K1,K6,K06,K0g,z0h,Z4,z0a,W_pure,z7,aNil,e2,eFn,eVar,if_true];refine x6 p .(0) .(0) .(0) λd h1 d0 d1 p1=>?_;rw[z1O,W_pure];exact⟨(1+d).toNat,by omega,by omega,by rw[K5g .(0)],p1⟩
 rintro _ h1 ⟨m,m1,m2,rfl,p1⟩;refine z0r (λd h1=>∃t:Int,d=.int t/\PS h1 (k+2) r) ?_ ?_
 ·simp only[K1,K6,K06,K05,K04,K0g,z0h,Z4,z0a,W_pure,z7,aNil,e2,eFn,eVar,if_true];refine x6 p1 .(0) .(1) .(1) λd h1 d0 d1 p1=>?_;rw[z1O,W_pure];exact⟨_,rfl,p1.up .(0)⟩
 rintro _ h3 ⟨dn,rfl,p3⟩;refine z0r (λd h1=>d=.ref (r.length+3)/\PS h1 (k+2) (r++[.lst (stsD [])])) ?_ ?_
 ·simp only[Z4,W_pure,aNil,eLst];exact z2I p3 .(1) λh4 p4=>⟨rfl,p4⟩
 rintro _ h4 ⟨rfl,p4⟩;refine z0r (λd h1=>d=.ref (r.length+1+3)/\PS h1 (k+2) (r++[.lst (stsD []),.lst (mksD [])])) ?_ ?_
 ·simp only[Z4,W_pure,aNil,eLst];exact z2I p4 .(1) λh5 p5=>⟨by simp,by rw[K7]at p5;exact p5⟩
 rintro _ h5 ⟨rfl,p5⟩;refine z1r (λγ h=>∃st mk w,γ=[.(r 2),.(r (i+3)),.(i most),.(i m),.(i dn),.(r (r.length+0+3)),.(r (r.length+1+3)),w]/\PS h (k+2000) (r++[.lst (stsD st),.lst (mksD mk)])/\.(n)=m/\mk.length=m/\AM st mk m) ?_ ?_
 ·refine z0X (λc γ h=>∃st mk w,γ=[.(r 2),.(r (i+3)),.(i most),.(i m),.(i dn),.(r (r.length+0+3)),.(r (r.length+1+3)),w]/\PS h (k+2+48 * c) (r++[.lst (stsD st),.lst (mksD mk)])/\.(n)=c/\mk.length=c/\AM st mk m) (λ_ _=>False) ?_;simp only[K2,K1,K05,K04,W_pure,z7,aNil,e2,eFn,eVar];refine⟨m,rfl,by omega,⟨[],[],_,rfl,p5.up .(0),rfl,rfl,by simp,by simp,by simp⟩,?_,?_,λ_ _ q=>q.elim⟩
  ·rintro c γ h6 hc ⟨st,mk,w,rfl,p6,l1,l2,am⟩;refine z8S (i:=0) rfl p6 rfl (by simp[stsD];omega) (λv k'=>∃l:List Nat,v=.tup (stD l)/\l.Pairwise (·<·)/\(∀x∈l,x<m)/\k'=k+2+48 * c+m) ?_ ?_
   ·exact z9k p6 .(0) .(0) rfl rfl rfl λl h' q1 q2 p7=>⟨_,p7,l,rfl,q1,q2,rfl⟩
   rintro _ _ h7 ⟨l,rfl,q1,q2,rfl⟩ p7;rw[K04,show stsD st++[D.tup (stD l)]=stsD (st++[l]) by simp[stsD]]at p7;refine z8S (i:=1) rfl p7 rfl (by simp[mksD];omega) (λv k'=>∃ss:List Str,v=.tup (ss.map .str)/\MK ss/\k'=k+2+48 * c+m+ns.length) ?_ ?_
   ·exact z93 p7 .(0) (j9 e) hn hg rfl rfl λss h' q1 p8=>⟨_,p8,ss,rfl,q1,rfl⟩
   rintro _ _ h8 ⟨ss,rfl,q3,rfl⟩ p8;rw[K05,K04,show mksD mk++[D.tup (ss.map .str)]=mksD (mk++[ss]) by simp[mksD]]at p8;refine w6 ⟨_,_,_,rfl,p8.up .(0),by simp[l1],by simp[l2],?_,?_,?_⟩
   ·intro l hl;rcases K00.mp hl with q|q
    ·exact am.1 l q
    ·simp at q;subst q;exact q1
   ·intro l hl;rcases K00.mp hl with q|q
    ·exact am.2.1 l q
    ·simp at q;subst q;exact q2
   ·intro l hl;rcases K00.mp hl with q|q
    ·exact am.2.2 l q
    ·simp at q;subst q;exact q3
  ·rintro γ h6 ⟨st,mk,w,rfl,p6,l1,l2,am⟩;exact⟨st,mk,w,rfl,p6.up .(0),l1,l2,am⟩
 ·rintro γ h6 ⟨st,mk,w,rfl,p6,l1,l2,am⟩;refine zf9 (λd h1=>d=maD st mk/\h1=h6) ?_ ?_
  ·simp only[K2,K1,K6,K06,K0g,z0h,Z4,z0a,W_pure,z7,aNil,Z8,eTup,eVar];refine z3V (i:=0) p6 rfl ?_;refine z3V (i:=1) p6 rfl ?_;rw[if_pos .(1)];exact⟨rfl,rfl⟩
  rintro _ _ ⟨rfl,rfl⟩;refine⟨_,_,p6,?_,λh2 q2=>z st mk h2 ⟨by omega,by omega,by omega,am.1,by rw[l1];exact am.2.1,am.2.2⟩ .(0) q2⟩;unfold maD stsD mksD;simp only[J2,k7,K5l,K0e];exact⟨y6 λa=>z0K a,y6 λa=>by simp only[J2];exact z0z _⟩
theorem zp3(h2:i<n):z1S [.int i,.int 0,.int n]=pure (.bl true):=by
 have h1:(0:Int)<=i:=by omega
 have h3:(i:Int)<n:=by omega
 show cln (runF 3 z0F [.int i,.int 0,.int n])=_;rw[z2m (d:=.bl true),z1w];show z0F [.(i i),.(i 0),.(i n)]=_;unfold z0F;refine za3 _ ?_;simp only[K2,K1,z0A,z08,decide_eq_true h1,decide_eq_true h3,e3,eAnd,eIsi,eNot,eVar,if_true,z9L,zt1,z9a];rfl
theorem z79(h0:m<=xs.length)(h1:xs.length<=n):z11 [.tup xs,.int m,.int n]=pure (.bl true):=by
 have h2:(xs.length:Int)<=n:=by omega
 have h3:(m:Int)<=xs.length:=by omega
 show cln (runF 3 z10 [.tup xs,.int m,.int n])=_;rw[z2m (d:=.bl true),z1w];show z10 [.(g xs),.(i m),.(i n)]=_;unfold z10;refine za3 _ ?_;simp only[K2,K1,z7,aNil,z0A,z08,decide_eq_true h2,decide_eq_true h3,e3,eAnd,Z8,eIsi,eVar,if_true,zi6,zt1,z1D];rfl
theorem zO6{k:Int}(p:PS h k r)(hk:k<800000)(hm:m<=40)(z:∀l h',l.Pairwise (·<·)->(∀x∈l,x<m)->PS h' (k+50) r->Q (.tup (stD l)) h'):W (z2T [.ref 2,.int (m:Nat)]) h Q:=by
 refine z9t p trivial ?_;refine z1L ?_;show W (z1W [.(r 2),.(i (m:Nat)),none]) h _;unfold z1W;refine z0r (λd h1=>∃t:Int,d=.int t/\PS h1 (k+1) r) ?_ ?_
 ·simp only[K1,K6,K06,K0g,z0h,Z4,z0a,W_pure,z7,aNil,eFn,eVar,if_true];exact x6 p .(0) .(1) .(1) λd h2 d0 d1 p2=>⟨d,rfl,p2⟩
 rintro _ h1 ⟨dn,rfl,p1⟩;refine zf9 (λd h'=>∃l,d=.tup (stD l)/\l.Pairwise (·<·)/\(∀x∈l,x<m)/\PS h' (k+50) r) ?_ ?_
 ·refine zr1 p1 trivial ?_;simp only[K05,K04,Z4,W_pure,z7,aNil,e2,Z8,eFn,eVar];refine zk2 (r:=r) (l:=[]) (λc xs k'=>∃l:List Nat,xs=stD l/\l.Pairwise (·<·)/\(∀x∈l,x<c)/\l.length<=c/\k'=k+1+c) ?_;refine W.of (z0b (n:=m) rfl .(0)) ?_;refine⟨_,by simpa using p1,⟨[],rfl,by simp,by simp,by simp,by simp⟩,λ_ _ _ _=>trivial,?_,?_⟩
  ·rintro c d h6 k6 xs hd ⟨l,rfl,l1,l2,l3,rfl⟩ p6;obtain⟨rfl,hc⟩:=z0V hd;simp only[capG,K0p,K1u,K05,K04,K2,K1,K2t,K8f];simp only[K2,K1,K6,K06,K05,K04,K0g,z0h,Z4,z0a,W_pure,eVar,gN,if_true];refine x6 p6 .(0) .(1) .(1) λt h7 t0 t1 p7=>?_;simp only[W_pure,z0A,zt1];by_cases q:t<=dn
   ·rw[decide_eq_true q];simp only[if_true];refine⟨_,p7,by rw[Z9];omega,l++[c],(z0I _ _),?_,?_,by simp;omega,by omega⟩
    ·rw[K6x];exact⟨l1,by simp,λa ha b hb=>by simp at hb;subst hb;exact l2 a ha⟩
    ·intro x hx;rcases K00.mp hx with q|q
     ·have:=l2 x q;omega
     ·simp at q;omega
   ·rw[.(k) q];simp only[K1k,if_false];exact⟨_,p7,l,rfl,l1,λx hx=>by have:=l2 x hx;omega,by omega,by omega⟩
  rintro h6 xs k6 ⟨l,rfl,l1,l2,l3,rfl⟩ p6;rw[show (Src.con (J9 m)).items.length=m by simp[Src.items,J9]]at l2 p6;exact z3V (i:=0) p6 rfl ⟨_,_,p6,z0K l,λh7 p7=>⟨l,rfl,l1,l2,p7.up .(0)⟩⟩
 ·rintro _ h2 ⟨l,rfl,l1,l2,p2⟩;exact⟨_,[],by rw[K17];exact p2,z0K l,λh3 p3=>z l h3 l1 l2 p3⟩
inductive Ub(st:List .(p))(W g:List Nat):Nat->Prop
 | goal {x:Nat}:x∈g->Ub st W g x
 | step {x y:Nat}:x∈W->y∈nx st x->Ub st W g y->Ub st W g x
structure UL(st:List .(p))(W g u:List Nat):Prop where
 nd:u.Nodup
 iff:∀x,x∈u↔Ub st W g x
theorem z7E(nd:T.Nodup)(l:∀x∈T,x<N):T.length<=N:=z0q nd l
theorem zW3{W:List Nat}(hW:∀x∈W,x<N)(hg:∀x∈g,x<N)(u:Ub st W g x):x<N:=by
 cases u with
 | goal h=>exact hg _ h
 | step a _ _=>exact hW _ a
theorem zG3(q:MA st mk):SQ st:=⟨q.l1,q.l2,q.s2⟩
theorem zT8(q:MA st mk)(x:Nat):(nx st x).Pairwise (·<·):=by
 unfold nx;cases e:st[x]? with
 | none=>exact Z20
 | some l=>exact q.s1 l (K0d e)
section
variable{Q:Out->AH->Prop}
theorem zN9{bs:List Bool}(e:me γ h=.ok (.ref h.length) (h++[.lst (bs.map .bl)])):clE (Z8 (fAll true) (z7 me aNil)) γ h=.ok (.bl (bs.any id)) h:=
 z05 (j:=[.lst (bs.map .bl)]) (y9 e (by
  have g:getL h.length (h++[O.lst (bs.map .bl)])=.ok (bs.map .bl) (h++[O.lst (bs.map .bl)]):=by unfold getL;rw[J6]
  unfold fAll;dsimp only;rw[M.bind_ok g,z7l];rfl)) rfl
theorem Z07(ea:ma γ h=.ok .(a) h)(eb:mb γ h=.ok (.int x) h)(hx:x<st.length):e2 fIx (e2 fIx ma .(8)) mb γ h=.ok (.tup (stD (nx st x))) h:=
 e2_h (e2_h ea (y:=.int 0) rfl (by rw[z36];rfl)) eb (by rw[z9X hx];rfl)
end
inductive Pt(st:List .(p))(S:Nat->Prop):Nat->Nat->Prop
 | one {x y:Nat}:S x->S y->y∈nx st x->Pt st S x y
 | cons {x y z:Nat}:S x->z∈nx st x->Pt st S z y->Pt st S x y
section
variable{T:Nat->Prop}
theorem Pt.fst(p:Pt st S x y):S x:=by cases p<;>assumption
theorem Pt.trans(p:Pt st S x y)(q:Pt st S y z):Pt st S x z:=by
 induction p with
 | one a b c=>exact .cons a c q
 | cons a b _ ih=>exact .cons a b (ih q)
theorem Pt.next(p:Pt st S x y):∃z,z∈nx st x/\S z:=by
 cases p with
 | one a b c=>exact⟨_,c,b⟩
 | cons a b q=>exact⟨_,b,q.fst⟩
theorem Ub.path{W:List Nat}(hg:∀x∈g,x∈W)(u:Ub st W g x):x∈g\/∃y∈g,Pt st (·∈W) x y:=by
 induction u with
 | goal h=>exact .inl h
 | step a b _ ih=>
  right;rcases ih with h|⟨y,h1,h2⟩
  ·exact⟨_,h,.one a (hg _ h) b⟩
  ·exact⟨y,h1,.cons a b h2⟩
theorem Ub.mono{W g':List Nat}(h:∀x∈g,x∈g')(u:Ub st W g x):Ub st W g' x:=by
 induction u with
 | goal a=>exact .goal (h _ a)
 | step a b _ ih=>exact .step a b ih
end
structure GR(st:List .(p))(mk:List (List Str))(ws:List (Str×Str))(S:Nat->Prop):Prop where
 ne:∃x,S x
 rn:∀x y,S x->S y->Pt st S x y
 wi:∀w∈ws,(∃x,S x/\bear w.1 mk x=true)->∃y,S y/\bear w.2 mk y=true
section
variable{V K:List Nat}
def Goal(st:List .(p))(mk:List (List Str))(ws:List (Str×Str))(V:List Nat)(x:Nat):Prop:=∃S:Nat->Prop,GR st mk ws S/\(∀y,S y->y∈V)/\S x
def gl(st:List .(p))(mk:List (List Str))(ws:List (Str×Str))(V:List Nat):List Nat:=V.filter λx=>@decide (Goal st mk ws V x) (K4i _)
theorem gl_mem:x∈gl st mk ws V↔Goal st mk ws V x:=by
 unfold gl;rw[K08,@decide_eq_true_eq _ (K4i _)];exact⟨λh=>h.2,λh=>⟨by obtain⟨S,_,h2,h3⟩:=h;exact h2 _ h3,h⟩⟩
end
structure GH(h:AH)(b c:Nat)(V:List Nat)(f:Nat->List Nat):Prop where
 d:h[b]?=some (.dK (kvF c V))
 r:∀x∈V,h[c+V.idxOf x]?=.(l ((stD (f x))))
 bc:b<c
 cl:c<=.(h)
structure GF(h:AH)(b c:Nat)(V:List Nat)(f:Nat->List Nat):Prop where
 d:h[b]?=some (.dF (kvF c V))
 r:∀x∈V,h[c+V.idxOf x]?=.(l ((stD (f x))))
 bc:b<c
 cl:c<=.(h)
theorem GH.lt{V:List Nat}(g:GH h b c V f):b<h.length:=(K02.mp g.d).1
theorem GH.frz{h:AH}{b c:Nat}{V:List Nat}{f:Nat->List Nat}(g:GH h b c V f):GF (h.set b (.dF (kvF c V))) b c V f:=
 ⟨K1p g.lt,λx hx=>by rw[K22 (by have:=g.bc;omega)];exact g.r x hx,g.bc,by rw[K5p];exact g.cl⟩
theorem GH.app{V:List Nat}(g:GH h b c V f):GH (h++j) b c V f:=⟨j9 g.d,λx hx=>j9 (g.r x hx),g.bc,by rw[K3];exact K0h g.cl (K8m _ _)⟩
theorem GF.app{V:List Nat}(g:GF h b c V f):GF (h++j) b c V f:=⟨j9 g.d,λx hx=>j9 (g.r x hx),g.bc,by rw[K3];exact K0h g.cl (K8m _ _)⟩
theorem z8H(h:AH)(V:List Nat)(f:Nat->List Nat):GH (h++(.dK (kvF (h.length+1) V)::z0u f V)) h.length (h.length+1) V f:=by
 refine⟨?_,λx hx=>?_,by omega,by simp⟩
 ·rw[K0i (K01 _),K3l];rfl
 ·rw[K0i .(0),show .(h)+1+V.idxOf x - .(h)=V.idxOf x+1 by omega,K2];exact zl4 hx
theorem z85{m:M D}{h0:AH}{V:List Nat}(e:m h=.ok (.ref (h0++j).length) (h0++j++(.dK (kvF ((h0++j).length+1) V)::z0u f V)))(hl:h0.length=h.length)(kp:Kept h (h0++j++(.dK (kvF ((h0++j).length+1) V)::z0u f V))):
 ∃b c k,cln m h=.ok (.ref b) (h0++k)/\GH (h0++k) b c V f/\.(h)<=b:=by
 have hk:h.length<=(h0++j++(O.dK (kvF ((h0++j).length+1) V)::z0u f V)).length/\Kept h (h0++j++(O.dK (kvF ((h0++j).length+1) V)::z0u f V)):=⟨by simp;omega,kp⟩;have at0:(h0++j++(O.dK (kvF ((h0++j).length+1) V)::z0u f V))[(h0++j).length]?=some (O.dK (kvF ((h0++j).length+1) V)):=(z8H (h0++j) V f).d;cases V with
 | nil=>
  refine⟨.(h),.(h)+1,[.dK (kvF (.(h)+1) [])],?_,?_,K01 _⟩
  ·unfold cln;rw[e];dsimp only;rw[if_pos hk];have r1:J2 h.length (.ref (h0++j).length)=false:=by simp[J2];omega
   rw[if_neg (by rw[r1];decide)];rw[at0];dsimp only;rw[if_pos (by simp[kvF,refO,k7])];congr 1;rw[K7,<- hl,K24 (K01 _),K1g];rfl
  ·rw[<- hl];exact z8H h0 [] f
 | cons x V=>
  refine⟨(h0++j).length,(h0++j).length+1,j++(.dK (kvF ((h0++j).length+1) (x::V))::z0u f (x::V)),?_,?_,by simp;omega⟩
  ·unfold cln;rw[e];dsimp only;rw[if_pos hk];have r1:J2 h.length (.ref (h0++j).length)=false:=by simp[J2];omega
   rw[if_neg (by rw[r1];decide)];rw[at0];dsimp only;rw[if_neg (by simp[kvF,refO,k7,J2];omega),K7]
  ·rw[<- K7];exact z8H (h0++j) (x::V) f
def inV(st:List .(p))(V:List Nat)(x:Nat):List Nat:=(nx st x).filter λy=>decide (y∈V)
theorem z8D{mk:List (List Str)}{V:List Nat}{h:AH}(q:SQ st)(rl:∀l∈st,l.length<=1000)(nd:V.Nodup)(hV:∀x∈V,x<st.length):
 ∃b c k,z0T [maD st mk,.tup (stD V)] h=.ok (.ref b) (h++k)/\GH (h++k) b c V (inV st V)/\.(h)<=b:=by
 have vl:V.length<=1000:=K0h (z0q nd hV) (by have:=q.l2;omega);refine z85 (j:=[.dK (kvN V)]) (h0:=h) ?_ rfl (by rw[K7];exact z5H _ _);refine z2G ?_;show W (z0P [some .(a),.(g (stD V)),none]) h _;unfold z0P;refine J8 (.ref .(h)) [some .(a),.(g (stD V)),.(r .(h))] (h1:=h++[.dK (kvN V)]) (zG2 (src:=.con (stD V)) (z1v .(d)) rfl (λ_=>trivial) nd vl λx hx=>⟨[.(i x)],λ_=>rfl,λ_=>rfl,λ_=>rfl,λ_=>rfl⟩) rfl ?_;refine Y2 (.ref (h++[O.dK (kvN V)]).length) (z9W (src:=.con (stD V)) (h1:=h++[.dK (kvN V)]) (inV st V) (z1v .(d)) rfl (λ_=>trivial) nd vl λx hx=>⟨[some .(a),.(r .(h)),.(i x)],λ_=>rfl,λ_=>rfl,λ_=>rfl,λj=>?_⟩) ⟨rfl,rfl⟩;have xl:=hV x hx;have nl:(nx st x).length<=1000:=rl _ (K0d (zt9 xl));refine(z25 (l:=nx st x) (src:=.con (stD (nx st x))) (λy=>decide (y∈V)) (λy=>.int y) (z1v (e2_h (e2_h .(d) (y:=.int 0) rfl (by rw[z36];rfl)) .(d) (by rw[z9X xl];rfl))) rfl (λ_=>trivial) .(0) λy hy=>⟨[.(r .(h)),.(i y)],λ_=>rfl,λk=>?_,λ_ _=>rfl⟩).trans ?_
 ·refine(cb_h (e2_h .(d) .(d) (zJ8 (l:=V) (by rw[K7,K7,K0i (K01 _),K3l];rfl)))).trans ?_;simp
 ·rfl
theorem zL9{v:D}{Q:Out->AH->Prop}(eo:mo γ h=.ok (.ref i) h)(e:h[i]?=.(l xs))(ev:me γ h=.ok v h)(hl:xs.length<1000000)(z:W (mt γ) (h.set i (.lst (xs++[v]))) Q):W (z9 (z04 (eM1 y0 mo me)) mt γ) h Q:=by
 refine z39 ?_;unfold eM1;rw[Z4];refine W_of eo ?_;rw[Z4];refine W_of (z2o e) ?_;rw[Z4];exact W_of ev (W_of (z3e e hl) z)
theorem z2Q{g:Nat->List Nat}{V:List Nat}(h:∀x∈V,f x=g x):z0u f V=z0u g V:=by
 unfold z0u;exact K5e λx hx=>by rw[h x hx]
theorem z6l{f:Nat->List Nat}{y:Nat}{l:List Nat}:∀{V:List Nat},V.Nodup->y∈V->(z0u f V).set (V.idxOf y) (.lst (stD l))=z0u (λx=>if x=y then l else f x) V
 | [],_,h=>by cases h
 | a::V,nd,h=>by
  obtain⟨n1,n2⟩:=K4p.mp nd;rw[Z36];by_cases e:a=y
  ·subst e;simp only[beq_self_eq_true,cond_true];show O.lst (stD l)::z0u f V=O.lst (stD (if a=a then l else f a))::z0u _ V;rw[if_pos rfl];congr 1;exact z2Q λx hx=>by rw[if_neg (show ¬ x=a from λz=>n1 (by rw[<- z];exact hx))]
  ·rw[show (a==y)=false from beq_eq_false_iff_ne.mpr e];have hy:y∈V:=by
    cases h with
    | head=>exact(e rfl).elim
    | tail _ h=>exact h
   show O.lst (stD (f a))::(z0u f V).set (V.idxOf y) _=O.lst (stD (if a=y then l else f a))::z0u _ V;rw[if_neg e,z6l n2 hy]
theorem z8h{n:Nat}:∀{V:List Nat}{c:Nat},c+V.length<=n->k7 n ((kvF c V).map (·.2))=true
 | [],c,h=>rfl
 | x::V,c,h=>by
  show (J2 n (.ref c)&&k7 n ((kvF (c+1) V).map (·.2)))=true;rw[z8h (by simp at h;omega),K5l];simp[J2];simp at h;omega
theorem zi9{V:List Nat}(nd:V.Nodup)(hc:c<=h.length)(r:∀x∈V,h[c+V.idxOf x]?=.(l ((stD (f x))))):c+V.length<=h.length:=by
 rcases K2l V with rfl|⟨W',a,rfl⟩
 ·simpa using hc
 ·rw[K2m]at *;have:=(K02.mp (r a .(e))).1;have na:a∉W':=λq=>(K1c.mp nd).2.2 a q a .(e) rfl;rw[List.idxOf_append,if_neg na]at this;simp at this ⊢;omega
theorem GH.kept{V:List Nat}(g:GH H b c V f)(nd:V.Nodup)(hc:c<=H.length)(k:AH):Kept H (H.set b (.dF (kvF c V))++k):=by
 intro i o li e;rw[K0s (by simpa using li)]at e;by_cases ib:i=b
 ·subst ib;rw[K1p li]at e;cases e;exact .inr (z8h (zi9 nd hc g.r))
 ·rw[K22 (K57 ib)]at e;exact .inl e
def trn(V:List Nat)(f:Nat->List Nat)(x:Nat):List Nat:=V.filter λone=>decide (x∈f one)
theorem zt3{V:List Nat}(g:GH H b c V f)(hc:c<=H.length)(nd:V.Nodup)(vl:V.length<=100)(fv:∀x∈V,(f x).Nodup/\∀y∈f x,y∈V):
 ∃b2 c2 k,z3h [.ref b] H=.ok (.ref b2) (H.set b (.dF (kvF c V))++k)/\GH (H.set b (.dF (kvF c V))++k) b2 c2 V (trn V f)/\H.length<=b2:=by
 refine z85 (j:=[]) (h0:=H.set b (.dF (kvF c V))) ?_ .(e) (by rw[K17];exact g.kept nd hc _);rw[K17];refine z2G ?_;show W (z4d [.(r b),none,none,none]) H _;unfold z4d z7D;have gf:=g.frz;have lH:(H.set b (.dF (kvF c V))).length=H.length:=by simp
 generalize hH1:H.set b (.dF (kvF c V))=H1 at *;have e1:=z9W (cap:=[none]) (g:=gN 0) (kb:=λ_=>pure true) (me:=eVar 0) (mv:=eLst aNil) (γ:=[.(r b),none,none,none]) (h:=H) (h1:=H1) (src:=.con (stD V)) (V:=V) (mi:=iDic .(g)) (λ_=>[]) (by rw[<- hH1];exact zx6 .(d) g.d) rfl (λ_=>trivial) nd .(0) λx hx=>⟨[.(i x)],λ_=>rfl,λ_=>rfl,λ_=>rfl,λj=>rfl⟩;refine J8 (.ref H1.length) [.(r b),.(r H1.length),none,none] e1 rfl ?_;rw[w_cons];refine z0g (λi γ h'=>∃w2 w3,γ=[.(r b),.(r H1.length),w2,w3]/\h'=H1++(.dK (kvF (H1.length+1) V)::z0u (λx=>(V.take i).filter λone=>decide (x∈f one)) V)) (λ_ _=>False) ?_;refine W_of (zQ4 .(d) gf.app.d) ⟨⟨none,none,rfl,rfl⟩,λ_ _ _ _=>trivial,?_,?_,λ_ _ q=>q.elim⟩
 ·rintro i d _ _ ed ⟨w2,w3,rfl,rfl⟩;obtain⟨one,rfl,eo⟩:=z3b ed;have oV:=K0d eo;have hi:=(K02.mp eo).1;have io:=(K02.mp eo).2;obtain⟨fnd,fsub⟩:=fv one oV;refine W_of (v:=[.(r b),.(r H1.length),.(i one),w3]) rfl ?_;rw[w_cons];have src:∀(a:Nat->List Nat) (γ:G),γ[0]?=some (.(r b))->γ[2]?=some (.(i (one:Nat)))->z0p (e2 z2R .(g) .(t)) γ (H1++(.dK (kvF (H1.length+1) V)::z0u a V))=.ok (.lst (c+V.idxOf one) (stD (f one))) (H1++(.dK (kvF (H1.length+1) V)::z0u a V)):=λa γ g0 g2=>z2K (e2_h (Z2 g0) (Z2 g2) (z5Z (.inr gf.app.d) oV)) (gf.app.r one oV);refine z0g (λe γ h'=>∃w3,γ=[.(r b),.(r H1.length),.(i one),w3]/\h'=H1++(.dK (kvF (H1.length+1) V)::z0u (λx=>((V.take i).filter λone=>decide (x∈f one))++if x∈(f one).take e then [one] else []) V)) (λ_ _=>False) ?_;refine W_of (src _ _ rfl rfl) ⟨⟨w3,rfl,?_⟩,?_,?_,?_,λ_ _ q=>q.elim⟩
  ·simp
  ·rintro e _ _ ⟨w,rfl,rfl⟩;exact gf.app.r one oV
  ·rintro e d _ _ ed ⟨w,rfl,rfl⟩;obtain⟨y,rfl,ey⟩:=z3b ed;have yV:=fsub y (K0d ey);obtain⟨he,ye⟩:=K02.mp ey;have yn:y∉(f one).take e:=λq=>by
    obtain⟨t,ht,et⟩:=K1o q;rw[K1e]at ht;rw[Z2b]at et;exact(K7r.mp fnd t e .(0) he .(0)) (et.trans ye.symm)
   refine W_of (v:=[.(r b),.(r H1.length),.(i one),.(i y)]) rfl ?_;have gn:=z8H H1 V (λx=>((V.take i).filter λone=>decide (x∈f one))++if x∈(f one).take e then [one] else []);refine zL9 (i:=H1.length+1+V.idxOf y) (e2_h .(d) .(d) (z5Z (.inl gn.d) yV)) (gn.r y yV) .(d) ?_ ?_
   ·rw[Z9,K3];have h1:=K0w (λone=>decide (y∈f one)) (V.take i);have h2:(V.take i).length<=100:=by rw[K1e];omega
    split<;>simp<;>omega
   ·refine w6 ⟨_,rfl,?_⟩;rw[z0I,K16 _ _ .(0),show H1.length+1+V.idxOf y - H1.length=V.idxOf y+1 by omega,K05,z6l nd yV];congr 2;refine z2Q λx hx=>?_;rw[K2d he,ye];by_cases xy:x=y
    ·subst xy;rw[if_pos rfl,if_neg yn,if_pos .(e)];simp
    ·rw[if_neg xy];congr 1;simp[xy]
  ·rintro _ _ ⟨w,rfl,rfl⟩;refine w6 ⟨_,_,rfl,?_⟩;congr 2;refine z2Q λx hx=>?_;rw[show (Src.lst (c+V.idxOf one) (stD (f one))).items.length=(f one).length from Z9 _,K1g,K2d hi,io,K7i];congr 1;by_cases q:x∈f one
   ·rw[if_pos q,K6o,if_pos (by simpa using q)];rfl
   ·rw[if_neg q,K6o,if_neg (by simpa using q)];rfl
 ·rintro _ _ ⟨w2,w3,rfl,rfl⟩;refine Y2 (.ref H1.length) .(d) ⟨rfl,?_⟩;rw[show (Src.con (stD V)).items.length=V.length from Z9 _,K1g];rfl
theorem Z0Y(e:h[n]?=some (.set (kN l))):fInS neg (.int (x:Nat)) (.ref n) h=.ok (.bl (decide (x∈l) != neg)) h:=by
 have g:getS n h=.ok (kN l) h:=by unfold getS;rw[e]
 unfold fInS;dsimp only;rw[M.bind_ok g];show Res.ok (D.bl (decide ((K21 (x:Int):Key)∈kN l) != neg)) h=_;congr 3;rw[K0n,.(i),.(i)];exact kN_mem
theorem zV6{Q:Out->AH->Prop}(ea:γ[a]?=some (.(r i)))(e:h[i]?=some (.set (kN l)))(ev:me γ h=.ok (.int (x:Nat)) h)(hx:x∉l)(hl:l.length<1000)(z:W (mt γ) (h.set i (.set (kN (l++[x])))) Q):W (z9 (z04 (eMS z96 (eVar a) me)) mt γ) h Q:=by
 refine z39 ?_;unfold eMS;rw[Z4];refine W_of (Z2 ea) ?_;rw[Z4];have s1:zc7 (.ref i) h=.ok i h:=by unfold zc7;dsimp only;rw[e]
 refine W_of s1 ?_;rw[Z4];refine W_of ev ?_;have f1:z96 i (.int (x:Nat)) h=.ok .non (h.set i (.set (kN (l++[x])))):=by
  unfold z96;rw[e];dsimp only;have:keyD (.int (x:Nat))=some (.inl (x:Int)):=rfl;rw[this];dsimp only;rw[if_pos (by rw[zb8];omega),zv7 hx]
 exact W_of f1 z
def wtD(wt:List (Nat×Bool)):List D:=wt.map λp=>.tup [.int p.1,.bl p.2]
theorem z4s(wt:List (Nat×Bool)):(wtD wt).length=wt.length:=by unfold wtD;simp
theorem z8e(wt:List (Nat×Bool))(x:Nat)(b:Bool):wtD wt++[.tup [.int x,.bl b]]=wtD (wt++[(x,b)]):=by unfold wtD;rw[K36];rfl
theorem zD2(a b:List (Nat×Bool)):wtD a++wtD b=wtD (a++b):=by unfold wtD;rw[K36]
theorem zR8{x y:D}(e1:ma γ h=.ok x h)(e2':mb γ h=.ok y h):eTup (z7 ma (z7 mb aNil)) γ h=.ok (.tup [x,y]) h:=z7Z e1 e2'
def ordH(H1:AH)(s:KS)(j:AH):AH:=H1++(.set (kN s.seen)::.lst (stD s.ord)::.lst (wtD s.wt)::j)
section
variable{H1:AH}{s:KS}
theorem oh0:(ordH H1 s j)[H1.length]?=some (.set (kN s.seen)):=by unfold ordH;rw[K0i (K01 _),K3l];rfl
theorem oh1:(ordH H1 s j)[H1.length+1]?=.(l (stD s.ord)):=by unfold ordH;rw[K0i .(0),show H1.length+1 - H1.length=1 by omega];rfl
theorem oh2:(ordH H1 s j)[H1.length+2]?=.(l (wtD s.wt)):=by unfold ordH;rw[K0i .(0),show H1.length+2 - H1.length=2 by omega];rfl
theorem os0:(ordH H1 s j).set H1.length (.set (kN l))=ordH H1 ⟨l,s.ord,s.wt⟩ j:=by unfold ordH;rw[K16 _ _ (K01 _),K3l];rfl
theorem os1:(ordH H1 s j).set (H1.length+1) (.lst (stD l))=ordH H1 ⟨s.seen,l,s.wt⟩ j:=by unfold ordH;rw[K16 _ _ .(0),show H1.length+1 - H1.length=1 by omega];rfl
theorem os2{l:List (Nat×Bool)}:(ordH H1 s j).set (H1.length+2) (.lst (wtD l))=ordH H1 ⟨s.seen,s.ord,l⟩ j:=by unfold ordH;rw[K16 _ _ .(0),show H1.length+2 - H1.length=2 by omega];rfl
theorem zS3{k:AH}:ordH H1 s j++k=ordH H1 s (j++k):=by unfold ordH;simp
end
theorem zK1{V:List Nat}(g:GH H b c V f)(hc:c<=H.length)(nd:V.Nodup)(vl:V.length<=40)(fs:∀x∈V,f x=nx st x)(fv:∀x∈V,(nx st x).length<=40/\∀y∈nx st x,y∈V):
 z0B [.ref b] H=.ok (.ref H.length) (H.set b (.dF (kvF c V))++[.lst (stD (kEnd st V))]):=by
 have gf:=g.frz;have lH:(H.set b (.dF (kvF c V))).length=H.length:=by simp
 have kp:=g.kept nd hc;generalize hH1:H.set b (.dF (kvF c V))=H1 at *;have hv:∀x∈V,∀y∈nx st x,y∈V:=λx hx=>(fv x hx).2
 suffices z:W (runF 6 z0d [.ref b]) H λd h'=>d=.ref (H1.length+1)/\∃s j,h'=ordH H1 s j/\s.ord=kEnd st V by
  obtain⟨d,h',e,rfl,s,j,rfl,es⟩:=z;show cln (runF 6 z0d [.ref b]) H=_;unfold cln;rw[e];dsimp only;rw[if_pos ⟨by unfold ordH;simp;omega,kp _⟩];have r1:J2 H.length (.ref (H1.length+1))=false:=by simp[J2];omega
  rw[if_neg (by rw[r1];decide),oh1];dsimp only;rw[if_pos (by simp only[refO];exact z15 _),es];congr 1;unfold ordH;rw[<- lH,K24 (K01 _),K1g]
 refine z1L ?_;show W (z0d [.(r b),none,none,none,none,none]) H _;unfold z0d z2a;have n1:newSet [] H=.ok (.ref H.length) (H++[.set []]):=rfl;refine J8 (.ref H.length) [.(r b),.(r H.length),none,none,none,none] n1 rfl ?_;refine zo2 (xs:=[]) .(e) (λh=>rfl) ?_;have l2:(H++[O.set []]).length=H.length+1:=by simp
 rw[l2];have c1:z00 [none] (iDic .(g)) (gN 0) (λ_=>pure true) (eTup (z7 .(g) (z7 (λ_=>pure (.bl false)) aNil))) [.(r b),.(r H.length),.(r (H.length+1)),none,none,none] (H++[.set []]++[.lst []])=.ok (.ref (H.length+2)) (ordH H1 (z4T V) []):=by
  have i1:iDic .(g) [.(r b),.(r H.length),.(r (H.length+1)),none,none,none] (H++[.set []]++[.lst []])=.ok (.con (stD V)) (H1++[.set [],.lst []]):=by
   have:=zx6 (γ:=[.(r b),.(r H.length),.(r (H.length+1)),none,none,none]) (ma:=eVar 0) (h:=H++[.set []]++[.lst []]) (h1:=H++[.set []]++[.lst []]) (n:=b) .(d) g.app.app.d;rw[this,K7,K6w _ _ g.lt,hH1];rfl
  have e:=zn6 (cap:=[none]) (g:=gN 0) (k:=λ_=>pure true) (me:=eTup (z7 .(g) (z7 (λ_=>pure (.bl false)) aNil))) (λ_=>true) (λd=>.tup [d,.bl false]) i1 (λ_=>trivial) (by show (stD V).length<=_;rw[Z9];omega) λd hd=>⟨[some d],rfl,rfl,λ_=>by
   unfold eTup;simp only[K1,K6,K06,K0g,z7,aNil,z08,eVar,if_true,zW2]⟩
  rw[e,K9x.mpr .(e),show (Src.con (stD V)).items=stD V from rfl];have e2:(stD V).map (λd=>D.tup [d,.bl false])=wtD (V.map λx=>(x,false)):=by
   unfold stD wtD;rw[K1q,K1q];rfl
  rw[e2,z61 (by rw[z4s,K0c];omega)];have l3:(H1++[O.set [],O.lst []]).length=H.length+2:=by simp;omega
  rw[l3];congr 1;unfold ordH z4T;rw[K7];rfl
 refine J8 (.ref (H.length+2)) [.(r b),.(r H.length),.(r (H.length+1)),.(r (H.length+2)),none,none] c1 rfl ?_;rw[<- lH];refine zA9 (m:=kMu V (z4T V)) (λm γ h'=>∃n s j w4 w5,γ=[.(r b),.(r H1.length),.(r (H1.length+1)),.(r (H1.length+2)),w4,w5]/\h'=ordH H1 s j/\s=kRun st V n/\n+m<=3000/\kMu V s<=m) ?_ ⟨0,_,[],none,none,rfl,rfl,rfl,?_,K01 _⟩ ?_
 ·unfold kMu z4T;simp;omega
 ·unfold kMu z4T;simp;omega
 ·rintro m _ _ ⟨n,s,j,w4,w5,rfl,rfl,hs,hn,hm⟩;have ki:KI st V s:=by rw[hs];exact z89 hv n
  have sl:s.seen.length<=V.length:=(K19 ki.nd λx hx=>ki.sub x hx);refine⟨_,zc5 (i:=H1.length+2) (xs:=wtD s.wt) rfl oh2,?_⟩;rcases K2l s.wt with e|⟨w,⟨x,bb⟩,e⟩
  ·rw[e,if_neg (by simp[wtD])];refine Y2 (.ref (H1.length+1)) .(d) ⟨rfl,s,j,rfl,?_⟩;rw[hs]at e ⊢;exact(za0 e .(0)).symm
  ·rw[K2m]at e;rw[e,if_pos (by simp[wtD])];have wl:s.wt.length=w.length+1:=by rw[e];simp
   have xV:x∈V:=ki.wv (x,bb) (by rw[e];simp);have sn:z40 (nx st) s=kRun st V (n+1):=by rw[hs];rfl
   have m1:1<=kMu V s:=by unfold kMu;omega
   have wb:w.length<=3000:=by unfold kMu at hm;omega
   refine⟨m - 1,by omega,?_⟩;have pp:W (eM0 fPop (eVar 3) [.(r b),.(r H1.length),.(r (H1.length+1)),.(r (H1.length+2)),w4,w5]) (ordH H1 s j) λd h'=>d=.tup [.int x,.bl bb]/\h'=ordH H1 ⟨s.seen,s.ord,w⟩ j:=by
    have e1:eVar 3 [.(r b),.(r H1.length),.(r (H1.length+1)),.(r (H1.length+2)),w4,w5]=pure (.ref (H1.length+2)):=rfl;unfold eM0;rw[e1,z08,Z4];refine W_of (z2o oh2) (W_of (zU4 (xs:=wtD w) (v:=.tup [.int x,.bl bb]) ?_ (by rw[z4s];omega)) ⟨rfl,os2⟩);rw[z8e,<- e];exact oh2
   refine zM8 _ pp ?_;rintro _ _ ⟨rfl,rfl⟩;refine⟨[.(r b),.(r H1.length),.(r (H1.length+1)),.(r (H1.length+2)),.(i x),some (.bl bb)],rfl,?_⟩;refine z1j bb (cv_h .(d)) ?_;cases bb with
   | true=>
    rw[if_pos rfl];refine z0M ?_;refine z1A (a:=2) (i:=H1.length+1) (xs:=stD s.ord) (v:=.int x) rfl oh1 ?_ .(d) ?_
    ·rw[Z9];have:=K19 (K1c.mp ki.on).1 λy hy=>ki.sub y ((ki.so y).mpr (.inl hy));omega
    ·rw[z0I,os1];refine z0i (w6 ⟨m - 1,K01 _,n+1,⟨s.seen,s.ord++[x],w⟩,j,_,_,rfl,rfl,?_,by omega,?_⟩)
     ·rw[<- sn];unfold z40;rw[e,K42,K2f];rfl
     ·unfold kMu at hm ⊢;dsimp only;omega
   | false=>
    rw[if_neg .(1)];refine z0M ?_;refine z1j (decide (x∉s.seen)) ?_ ?_
    ·refine(cb_h (e2_h .(d) .(d) (Z0Y (h:=ordH H1 ⟨s.seen,s.ord,w⟩ j) (n:=H1.length) (x:=x) (neg:=true) (l:=s.seen) oh0))).trans ?_;by_cases q:x∈s.seen<;>simp[q]
    by_cases q:x∈s.seen
    ·rw[.(k) (λz=>z q),if_neg .(1)];refine z0i (z0i (w6 ⟨m - 1,K01 _,n+1,⟨s.seen,s.ord,w⟩,j,_,_,rfl,rfl,?_,by omega,?_⟩))
     ·rw[<- sn];unfold z40;rw[e,K42,K2f];show _=if x∈s.seen then _ else _
      rw[if_pos q]
     ·unfold kMu at hm ⊢;dsimp only;omega
    ·rw[decide_eq_true q,if_pos rfl];have sl2:s.seen.length+1<=V.length:=by
      have:=K19 (l₁:=s.seen++[x]) (l₂:=V) (z3a ki.nd q) λy hy=>by
       rcases K00.mp hy with z|z
       ·exact ki.sub y z
       ·simp at z;subst z;exact xV
      simpa using this
     obtain⟨nl,_⟩:=fv x xV;refine z0M ?_;refine zV6 (a:=1) (i:=H1.length) (l:=s.seen) (x:=x) rfl oh0 .(d) q .(0) ?_;rw[os0];refine z0M ?_;refine z1A (a:=3) (i:=H1.length+2) (xs:=wtD w) (v:=.tup [.int x,.bl true]) rfl oh2 (by rw[z4s];omega) (zR8 .(d) rfl) ?_;rw[z8e,os2];refine z0M ?_;generalize hX:ordH H1 ⟨s.seen++[x],s.ord,w++[(x,true)]⟩ j=X;have x2:X[H1.length+2]?=.(l ((wtD (w++[(x,true)])))):=by rw[<- hX];exact oh2
     have xg:GF X b c V f:=by rw[<- hX];exact gf.app
     have c2:z00 [none] (z0p (e2 z2R .(g) (eVar 4))) (gN 0) (λ_=>pure true) (eTup (z7 .(g) (z7 (λ_=>pure (.bl false)) aNil))) [.(r b),.(r H1.length),.(r (H1.length+1)),.(r (H1.length+2)),.(i x),some (.bl false)] X=.ok (.ref X.length) (X++[.lst (wtD ((nx st x).map λy=>(y,false)))]):=by
      refine(z25 (l:=nx st x) (src:=.lst (c+V.idxOf x) (stD (nx st x))) (λ_=>true) (λy=>.tup [.int y,.bl false]) (z2K (e2_h .(d) .(d) (z5Z (.inr xg.d) xV)) (by rw[xg.r x xV,fs x xV])) rfl (λk=>j9 (by rw[xg.r x xV,fs x xV])) .(0) λy hy=>⟨[.(i y)],λ_=>rfl,λ_=>rfl,λ_ k=>zR8 .(d) rfl⟩).trans ?_;rw[K9x.mpr .(e)];unfold wtD;rw[K1q];rfl
     refine zk9 (a:=3) (i:=H1.length+2) (xs:=wtD (w++[(x,true)])) (ys:=wtD ((nx st x).map λy=>(y,false))) (y:=.ref X.length) (h1:=X++[.lst (wtD ((nx st x).map λy=>(y,false)))]) rfl x2 c2 (j9 x2) (.inr ⟨_,rfl,J6⟩) (by rw[z4s,z4s];simp;omega) ?_;rw[zD2,<- hX,zS3,os2];refine z0i (z0i (w6 ⟨m - 1,K01 _,n+1,⟨s.seen++[x],s.ord,w++[(x,true)]++(nx st x).map λy=>(y,false)⟩,_,_,_,rfl,rfl,?_,by omega,?_⟩))
     ·rw[<- sn];unfold z40;rw[e,K42,K2f];show _=if x∈s.seen then _ else _
      rw[if_neg q]
     ·unfold kMu at hm ⊢;simp only[K3,K0c,K6,K06];omega
def gS(n:Nat)(V:List Nat)(f:Nat->List Nat):List .(p):=(K0b n).map λx=>if x∈V then f x else []
section
variable{V:List Nat}
theorem z6K(hV:∀x∈V,x<n)(x:Nat):nx (gS n V f) x=if x∈V then f x else []:=by
 unfold nx gS;by_cases hx:x<n
 ·rw[K0a,K35 hx];rfl
 ·rw[K1j (by simpa using hx),if_neg λq=>hx (hV x q)];rfl
theorem zd6(hV:∀x∈V,x<n)(fv:∀x∈V,∀y∈f x,y∈V)(h:y∈nx (gS n V f) x):x∈V/\y∈V/\y∈f x:=by
 rw[z6K hV]at h;split at h
 ·rename_i hx;exact⟨hx,fv x hx y h,h⟩
 ·cases h
theorem zx9(hV:∀x∈V,x<n)(fv:∀x∈V,∀y∈f x,y∈V):Trn (gS n V f) (gS n V (trn V f)):=by
 intro x y;rw[z6K hV,z6K hV];constructor
 ·intro h;split at h
  ·unfold trn at h;obtain⟨h1,h2⟩:=K08.mp h;rw[if_pos h1];simpa using h2
  ·cases h
 ·intro h;split at h
  ·rename_i hy;rw[if_pos (fv y hy x h)];unfold trn;exact K08.mpr ⟨hy,by simpa using h⟩
  ·cases h
end
def prts(n:Nat)(V:List Nat)(f:Nat->List Nat):List .(p):=partsOf (gS n V f) V (kEnd (gS n V (trn V f)) V).reverse
theorem z4e(l:List .(p))(r:List Nat):stsD l++[.tup (stD r)]=stsD (l++[r]):=by unfold stsD;rw[K36];rfl
theorem zE8{V:List Nat}(g:GH H b c V f)(rs:V.Pairwise (·<·))(hV:∀x∈V,x<n)(hn:n<=40)(fv:∀x∈V,(f x).Nodup/\∀y∈f x,y∈V):
 z7L [.ref b] H=.ok (.ref H.length) (H.set b (.dF (kvF c V))++[.lst (stsD (prts n V f))]):=by
 have nd:=z0G rs;have vl:V.length<=40:=K0h (z0q nd hV) hn;have fv2:∀x∈V,∀y∈f x,y∈V:=λx hx=>(fv x hx).2;have gf:=g.frz;have lH:(H.set b (.dF (kvF c V))).length=H.length:=by simp
 have kp:=g.kept nd g.cl;have rl:c+V.length<=H.length:=zi9 nd g.cl g.r;have hv1:∀x∈V,∀y∈nx (gS n V f) x,y∈V:=λx hx y hy=>(zd6 hV fv2 hy).2.1;have tv:∀x∈V,∀y∈trn V f x,y∈V:=λx hx y hy=>(K08.mp hy).1;have t12:Trn (gS n V f) (gS n V (trn V f)):=zx9 hV fv2
 suffices z:W (runF 4 z3D [.ref b]) H λd h'=>d=.ref (H.length+1)/\∃T k,h'=H.set b (.dF (kvF c V))++(.dK (kvN T)::.lst (stsD (prts n V f))::k) by
  obtain⟨d,h',e,rfl,T,k,rfl⟩:=z;show cln (runF 4 z3D [.ref b]) H=_;unfold cln;rw[e];dsimp only;rw[if_pos ⟨by simp,kp _⟩];have r1:J2 H.length (.ref (H.length+1))=false:=by simp[J2]
  rw[if_neg (by rw[r1];decide)];have a1:=am1 (h:=H.set b (.dF (kvF c V))) (o:=.dK (kvN T)) (o':=.lst (stsD (prts n V f))) (j:=k);rw[lH]at a1;rw[a1];dsimp only;rw[if_pos (by simp only[refO];exact y6 λa=>z0K a)];congr 1;rw[<- lH,K24 (K01 _),K1g]
 refine z1L ?_;show W (z3D [.(r b),none,none,none]) H _;unfold z3D;have n1:newK [] H=.ok (.ref H.length) (H++[.dK (kvN [])]):=rfl;refine J8 (.ref H.length) [.(r b),.(r H.length),none,none] n1 rfl ?_;refine zo2 (xs:=[]) .(e) (λh=>rfl) ?_;rw[show (H++[O.dK (kvN [])]).length=H.length+1 by simp];have g0:GH (H++[.dK (kvN [])]++[.lst []]) b c V f:=g.app.app;obtain⟨b2,c2,k,e1,g2,lb⟩:=zt3 g0 g0.cl nd .(0) fv;have s0:(H++[O.dK (kvN [])]++[O.lst []]).set b (.dF (kvF c V))=H.set b (.dF (kvF c V))++[.dK (kvN []),.lst []]:=by rw[K7,K6w _ _ g.lt];rfl
 rw[s0]at e1 g2;have lb':H.length+2<=b2:=by simpa using lb
 have ke0:∀x∈V,trn V f x=nx (gS n V (trn V f)) x:=λx hx=>by rw[z6K hV,if_pos hx]
 have e2':=zK1 (st:=gS n V (trn V f)) g2 g2.cl nd vl ke0 λx hx=>by
  rw[<- ke0 x hx];exact⟨K0h (K0w _ _) vl,tv x hx⟩
 have ke:KEnd (gS n V (trn V f)) V (kEnd (gS n V (trn V f)) V):=z7e (λx hx=>by
  rw[<- ke0 x hx];exact⟨K0h (K0w _ _) vl,tv x hx⟩) vl
 generalize hO:kEnd (gS n V (trn V f)) V=O' at *;generalize hH1:H.set b (.dF (kvF c V))=H1 at *;have s2:(H1++[O.dK (kvN []),O.lst []]++k).set b2 (.dF (kvF c2 V))++[O.lst (stD O')]=H1++(.dK (kvN [])::.lst (stsD [])::(k.set (b2 - (H.length+2)) (.dF (kvF c2 V))++[.lst (stD O')])):=by
  rw[K7,K16 _ _ .(0),K16 _ _ (by simp;omega),K7,K7];congr 1;show [O.dK (kvN []),O.lst []]++_=[O.dK (kvN []),O.lst []]++_;congr 3;simp;omega
 rw[s2]at e2';have li:(H1++[O.dK (kvN []),O.lst []]++k).length=H.length+2+k.length:=by simp;omega
 rw[li]at e2';generalize hk3:k.set (b2 - (H.length+2)) (.dF (kvF c2 V))++[O.lst (stD O')]=k3 at *;have k3i:k3[k.length]?=.(l (stD O')):=by rw[<- hk3,K0i .(e)];simp
 have atO:∀(o o':O),(H1++(o::o'::k3))[H.length+2+k.length]?=.(l (stD O')):=λo o'=>by
  rw[K0i .(0),show H.length+2+k.length - H1.length=k.length+2 by omega];exact k3i
 have src:zq7 (eFn 1 z0B (z7 (eFn 1 z3h (z7 .(g) aNil)) aNil)) [.(r b),.(r H.length),.(r (H.length+1)),none] (H++[.dK (kvN [])]++[.lst []])=.ok (.obj (H.length+2+k.length) (.lst (stD O')) (stD O').reverse) (H1++(.dK (kvN [])::.lst (stsD [])::k3)):=by
  have a1:=fn_h (n:=1) (f:=z0B) (γ:=[.(r b),.(r H.length),.(r (H.length+1)),none]) (mr:=z7 (eFn 1 z3h (z7 .(g) aNil)) aNil) (h:=H++[.dK (kvN [])]++[.lst []]) (ac_h (fn_h (ds:=[.ref b]) (ac_h .(d) rfl) rfl e1) rfl) rfl e2';have gl:getL (H.length+2+k.length) (H1++(.dK (kvN [])::.lst (stsD [])::k3))=.ok (stD O') (H1++(.dK (kvN [])::.lst (stsD [])::k3)):=by unfold getL;rw[atO]
  unfold zq7;rw[M.bind_ok a1];dsimp only;rw[M.bind_ok gl];rfl
 rw[w_cons];refine z0g (λt γ h'=>∃T w3,γ=[.(r b),.(r H.length),.(r (H.length+1)),w3]/\h'=H1++(.dK (kvN T)::.lst (stsD (partsOf (gS n V f) V (O'.reverse.take t)))::k3)/\MI (gS n V f) V (O'.reverse.take t).reverse T/\T.Nodup/\∀a,a∈T↔a∈(partsOf (gS n V f) V (O'.reverse.take t)).flatten) (λ_ _=>False) ?_;refine W_of src ⟨⟨[],none,rfl,rfl,⟨(λa ha=>by cases ha),(λa ha=>by simp at ha),(λa ha=>by cases ha)⟩,K4f,λa=>by simp[partsOf]⟩,?_,?_,?_,λ_ _ q=>q.elim⟩
 ·rintro t _ _ ⟨T,w3,rfl,rfl,_⟩;exact atO _ _
 ·rintro t d _ _ ed ⟨T,w3,rfl,rfl,mi,tn,tm⟩;have ed:(stD O').reverse[t]?=some d:=ed;rw[show (stD O').reverse=stD O'.reverse by unfold stD;rw[Z2u]]at ed;obtain⟨x,rfl,ex⟩:=z3b ed;obtain⟨ht,xt⟩:=K02.mp ex;have xO:x∈O':=by have:=K0d ex;simpa using this
  have xV:=(ke.mem x).mp xO;have cut:O'=(O'.reverse.drop (t+1)).reverse++x::(O'.reverse.take t).reverse:=by
   conv=>lhs;rw[<- K52 O',<- K6k t O'.reverse,K25 ht,xt]
   simp
  have nxt:O'.reverse.take (t+1)=O'.reverse.take t++[x]:=by rw[K2d ht,xt]
  have rv:(O'.reverse.take (t+1)).reverse=x::(O'.reverse.take t).reverse:=by rw[nxt,K9y];rfl
  refine W_of (v:=[.(r b),.(r H.length),.(r (H.length+1)),.(i x)]) rfl ?_;have aT:∀T P,(H1++(O.dK (kvN T)::O.lst P::k3))[H.length]?=some (.dK (kvN T)):=λT P=>by rw[<- lH];exact am0
  have aP:∀T P,(H1++(O.dK (kvN T)::O.lst P::k3))[H.length+1]?=.(l P):=λT P=>by rw[<- lH];exact am1
  refine z1j (decide (x∉T)) ?_ ?_
  ·refine(cb_h (e2_h .(d) .(d) (zJ8 (n:=H.length) (x:=x) (neg:=true) (l:=T) (aT _ _)))).trans ?_;by_cases q:x∈T<;>simp[q]
  by_cases q:x∈T
  ·rw[.(k) (λz=>z q),if_neg .(1)];have ep:partsOf (gS n V f) V (O'.reverse.take (t+1))=partsOf (gS n V f) V (O'.reverse.take t):=by
    rw[nxt,z3v];unfold addP;rw[if_pos ((tm x).mp q)]
   refine z0i (w6 ⟨T,_,rfl,by rw[ep],by rw[rv];exact zh9 mi q,tn,λa=>by rw[ep];exact tm a⟩)
  ·rw[decide_eq_true q,if_pos rfl];have tk:=zR4 (st:=gS n V f) (ld:=.ref b) (T:=T) (x:=x) (n:=H.length) (N:=n) (h:=H1++(.dK (kvN T)::.lst (stsD (partsOf (gS n V f) V (O'.reverse.take t)))::k3)) (aT _ _) q tn (λa ha=>hV a (mi.tv a ha)) .(0) (λa b hb=>hV b (zd6 hV fv2 hb).2.1) (hV x xV) (λh1 ag a ra p w bb=>by
    have aV:a∈V:=by
     have:∀{y},RchT (gS n V f) T x y->y∈V:=λh=>by
      induction h with
      | here=>exact xV
      | step _ h2 _ _=>exact(zd6 hV fv2 h2).2.1
     exact this ra
    have ia:=K77 aV;have d1:∀h2:AH,(∀i,i<(H1++(O.dK (kvN T)::O.lst (stsD (partsOf (gS n V f) V (O'.reverse.take t)))::k3)).length->i≠H.length->h2[i]?=(H1++(O.dK (kvN T)::O.lst (stsD (partsOf (gS n V f) V (O'.reverse.take t)))::k3))[i]?)->h2[b]?=some (.dF (kvF c V))/\h2[c+V.idxOf a]?=.(l ((stD (f a)))):=λh2 ag=>by
     have bl:=g.lt;refine⟨?_,?_⟩
     ·rw[ag b (by simp;omega) .(0)];exact gf.app.d
     ·rw[ag _ (by simp;omega) .(0)];exact gf.app.r a aV
    refine⟨.lst (c+V.idxOf a) (stD (f a)),z2K (e2_h .(d) .(d) (z5Z (.inr (d1 h1 ag).1) aV)) (d1 h1 ag).2,?_,λh2 ag2=>(d1 h2 ag2).2⟩;rw[z6K hV,if_pos aV];rfl)
   obtain⟨S,et,fs,cs⟩:=tk;have pi:=z7b hv1 t12 ke cut mi q fs cs;have es:setN S=scc (gS n V f) V x:=z3j (z38 S) (by unfold scc;exact rs.filter _) λa=>by rw[z34];exact pi a
   rw[es,<- lH,sm0,lH]at et;have ep:partsOf (gS n V f) V (O'.reverse.take (t+1))=partsOf (gS n V f) V (O'.reverse.take t)++[scc (gS n V f) V x]:=by
    rw[nxt,z3v];unfold addP;rw[if_neg λz=>q ((tm x).mpr z)]
   refine z0M ?_;refine zX7 (a:=2) (i:=H.length+1) (xs:=stsD (partsOf (gS n V f) V (O'.reverse.take t))) rfl (aP _ _) (fn_h (ds:=[.ref b,.int x,.ref H.length]) (ac_h .(d) (ac_h .(d) (ac_h .(d) rfl))) rfl et) (aP _ _) ?_ ?_
   ·rw[z16];have h1:=z6f (st:=gS n V f) (V:=V) (O'.reverse.take t);rw[K1e,K2b]at h1;have h2:=K19 ke.nd λy hy=>(ke.mem y).mp hy;omega
   ·rw[z4e,<- ep,<- lH,sm1,lH];refine z0i (w6 ⟨T++S,_,rfl,rfl,by rw[rv];exact zw3 hv1 t12 ke cut mi q fs cs,?_,λa=>?_⟩)
    ·rw[K1c];exact⟨tn,fs.nd,λa ha b hb h=>fs.nt b hb (h ▸ ha)⟩
    ·rw[ep,K5f,K00,K00,tm a];simp only[K15,K3p,K17];rw[pi a]
 ·rintro _ _ ⟨T,w3,rfl,rfl,mi,tn,tm⟩;refine Y2 (.ref (H.length+1)) .(d) ⟨rfl,T,k3,?_⟩;rw[show (Src.obj (H.length+2+k.length) (O.lst (stD O')) (stD O').reverse).items.length=O'.reverse.length by show (stD O').reverse.length=_;simp[Z9],K1g];unfold prts;rw[hO]
structure PF(s1:List .(p))(V:List Nat)(P:List .(p)):Prop where
 nd:P.flatten.Nodup
 is:∀p∈P,∃x∈V,p=scc s1 V x
 cl:∀k a b,a∈(P.take k).flatten->b∈nx s1 a->b∈(P.take k).flatten
section
variable{s1 s2:List (List Nat)}{V:List Nat}
open Classical in
theorem zH8{O done:List Nat}(nd:V.Nodup)(hv:∀x∈V,∀y∈nx s1 x,y∈V)(t:Trn s1 s2)(ke:KEnd s2 V O)(e:O=l++x::done)(m:MI s1 V done T)(hx:x∉T):∃S,FndT s1 T x S/\∀a∈S,∀b∈nx s1 a,b∈S\/b∈T:=by
 have xV:x∈V:=(ke.mem x).mp (by rw[e];simp);have inV:∀{y},RchT s1 T x y->y∈V:=λh=>by
  induction h with
  | here=>exact xV
  | step _ h2 _ ih=>exact hv _ ih _ h2
 have nt:∀{y},RchT s1 T x y->y∉T:=λh=>by
  cases h with
  | here=>exact hx
  | step _ _ h3=>exact h3
 refine⟨V.filter λa=>decide (RchT s1 T x a),⟨nd.filter _,λa ha=>?_,?_,λa ha=>?_⟩,λa ha b hb=>?_⟩
 ·simpa using(K08.mp ha).2
 ·exact K08.mpr ⟨xV,by simpa using RchT.here⟩
 ·exact nt (by simpa using(K08.mp ha).2)
 ·have ra:RchT s1 T x a:=by simpa using(K08.mp ha).2
  by_cases q:b∈T
  ·exact .inr q
  ·exact .inl (K08.mpr ⟨hv a (inV ra) b hb,by simpa using ra.step hb q⟩)
theorem zu2{O:List Nat}(nd:V.Nodup)(hv:∀x∈V,∀y∈nx s1 x,y∈V)(t:Trn s1 s2)(ke:KEnd s2 V O):∀k,k<=O.length->∃T,MI s1 V (O.reverse.take k).reverse T/\(∀a,a∈T↔a∈(partsOf s1 V (O.reverse.take k)).flatten)/\PF s1 V (partsOf s1 V (O.reverse.take k))
 | 0,_=>⟨[],⟨(λa ha=>by cases ha),(λa ha=>by simp at ha),(λa ha=>by cases ha)⟩,λa=>by simp[partsOf],⟨by simp[partsOf],by simp[partsOf],by simp[partsOf]⟩⟩
 | k+1,hk=>by
  obtain⟨T,mi,tm,pf⟩:=zu2 nd hv t ke k .(0);have ht:k<O.reverse.length:=by rw[K2b];omega
  obtain⟨x,xt⟩:∃x,O.reverse[k]=x:=⟨_,rfl⟩;have cut:O=(O.reverse.drop (k+1)).reverse++x::(O.reverse.take k).reverse:=by
   conv=>lhs;rw[<- K52 O,<- K6k k O.reverse,K25 ht,xt]
   simp
  have nxt:O.reverse.take (k+1)=O.reverse.take k++[x]:=by rw[K2d ht,xt]
  have rv:(O.reverse.take (k+1)).reverse=x::(O.reverse.take k).reverse:=by rw[nxt,K9y];rfl
  have xV:x∈V:=(ke.mem x).mp (by rw[cut];simp);rw[rv,nxt,z3v];by_cases q:x∈T
  ·unfold addP;rw[if_pos ((tm x).mp q)];exact⟨T,zh9 mi q,tm,pf⟩
  ·unfold addP;rw[if_neg λz=>q ((tm x).mpr z)];obtain⟨S,fs,cs⟩:=zH8 nd hv t ke cut mi q;have pi:=z7b hv t ke cut mi q fs cs;have mi2:=zw3 hv t ke cut mi q fs cs;have tm2:∀a,a∈T++S↔a∈(partsOf s1 V (O.reverse.take k)++[scc s1 V x]).flatten:=λa=>by
    rw[K5f,K00,K00,tm a];simp only[K15,K3p,K17];rw[pi a]
   refine⟨T++S,mi2,tm2,⟨?_,λp hp=>?_,λj a b ha hb=>?_⟩⟩
   ·rw[K5f,K1c];refine⟨pf.nd,by simp only[K15,K3p,K17];exact nd.filter _,λa ha b hb h=>?_⟩;simp only[K15,K3p,K17]at hb;exact fs.nt b ((pi b).mpr hb) ((tm b).mpr (h ▸ ha))
   ·rcases K00.mp hp with z|z
    ·exact pf.is p z
    ·simp at z;subst z;exact⟨x,xV,rfl⟩
   ·by_cases hj:j<=(partsOf s1 V (O.reverse.take k)).length
    ·rw[K24 hj]at ha ⊢;exact pf.cl j a b ha hb
    ·rw[K32 (by simp;omega)]at ha ⊢;exact(tm2 b).mp (mi2.cl a ((tm2 a).mpr ha) b hb)
end
theorem zA8{V:List Nat}(nd:V.Nodup)(hV:∀x∈V,x<n)(hn:n<=40)(fv:∀x∈V,∀y∈f x,y∈V):PF (gS n V f) V (prts n V f)/\∀a,a∈(prts n V f).flatten↔a∈V:=by
 have vl:V.length<=40:=K0h (z0q nd hV) hn;have hv1:∀x∈V,∀y∈nx (gS n V f) x,y∈V:=λx hx y hy=>(zd6 hV fv hy).2.1;have tv:∀x∈V,∀y∈trn V f x,y∈V:=λx hx y hy=>(K08.mp hy).1;have ke:KEnd (gS n V (trn V f)) V (kEnd (gS n V (trn V f)) V):=z7e (λx hx=>by
  rw[z6K hV,if_pos hx];exact⟨K0h (K0w _ _) vl,tv x hx⟩) vl
 obtain⟨T,mi,tm,pf⟩:=zu2 nd hv1 (zx9 hV fv) ke _ (K01 _);rw[K32 .(e)]at mi tm pf;refine⟨pf,λa=>?_⟩;show a∈(partsOf (gS n V f) V (kEnd (gS n V (trn V f)) V).reverse).flatten↔_;rw[<- tm a];exact⟨λh=>mi.tv a h,λh=>mi.dn a (by simpa using(ke.mem a).mpr h)⟩
theorem zp4{V:List Nat}(q:SQ st)(sr:∀l∈st,l.Pairwise (·<·))(rs:V.Pairwise (·<·))(hV:∀x∈V,x<st.length):z0x [maD st mk,.tup (stD V)]=newL (stsD (prts st.length V (inV st V))):=by
 have rl:∀l∈st,l.length<=1000:=λl hl=>K0h (z5h (sr l hl) (q.s2 l hl)) (by have:=q.l2;omega);have nd:=z0G rs;have vl:V.length<=40:=K0h (z0q nd hV) q.l2;have fv:∀x∈V,(inV st V x).Nodup/\∀y∈inV st V x,y∈V:=λx hx=>⟨(z0G (sr _ (K0d (zt9 (hV x hx))))).filter _,λy hy=>by simpa using(K08.mp hy).2⟩;have pl:(stsD (prts .(n) V (inV st V))).length<=1000000:=by
  rw[z16];have h1:=z6f (st:=gS .(n) V (inV st V)) (V:=V) (kEnd (gS .(n) V (trn V (inV st V))) V).reverse;have h2:(kEnd (gS .(n) V (trn V (inV st V))) V).length<=V.length:=by
   have tv:∀x∈V,∀y∈trn V (inV st V) x,y∈V:=λx hx y hy=>(K08.mp hy).1;have ke:KEnd (gS .(n) V (trn V (inV st V))) V (kEnd (gS .(n) V (trn V (inV st V))) V):=z7e (λx hx=>by
    rw[z6K hV,if_pos hx];exact⟨K0h (K0w _ _) vl,tv x hx⟩) vl
   exact K19 ke.nd λy hy=>(ke.mem y).mp hy
  rw[K2b]at h1;unfold prts;omega
 refine funext λh=>?_;obtain⟨b,c,k,e1,g,lb⟩:=z8D (mk:=mk) (h:=h) q rl nd hV;have e2':=zE8 (n:=.(n)) g rs hV q.l2 fv;have bl:=g.lt;rw[z61 pl];refine z4I (i:=(h++k).length) (xs:=stsD (prts .(n) V (inV st V))) (j:=k.set (b - .(h)) (.dF (kvF c V))++[.lst (stsD (prts .(n) V (inV st V)))]) ?_ .(e) ?_ (y6 λa=>z0K a)
 ·refine z2G ?_;show W (z0O [some .(a),.(g (stD V))]) h _;unfold z0O;refine Y2 (.ref (h++k).length) (fn_h (ds:=[.ref b]) (ac_h (fn_h (ds:=[maD st mk,.tup (stD V)]) (ac_h .(d) (ac_h .(d) rfl)) rfl e1) rfl) rfl e2') ⟨rfl,?_⟩;rw[K16 _ _ lb,K7]
 ·rw[<- K7,K0i .(e)];simp
def wD(w:Str×Str):D:=.tup [.str w.1,.str w.2]
theorem z4a{n:Str}(hi:i<mk.length):z1G [maD st mk,.int (i:Nat),.str n]=pure (.bl (bear n mk i)):=by
 unfold z1G;rw[z2m,z1w];show z5t [some .(a),.(i (i:Nat)),.(s n)]=_;unfold z5t maD bear;by_cases h:n = ""
 ·subst h;simp only[K27,K2,K1,z0A,z9,bNil,z08,decide_true,e2,eOr,eVar,z9n,if_true,ix1,sRet];rfl
 ·simp only[K27,K1k,K2,K1,z0A,z9,bNil,z08,bne_self_eq_false,decide_eq_false h,e2,eOr,eVar,z9n,if_false,zj1,ix1,ix_tup (zK4 hi),sRet];simp
def z1n(mk:List (List Str))(l:List Nat)(n:Str):Bool:=l.any λi=>bear n mk i
theorem z8p{n:Str}(hl:l.length<=1000000)(hi:∀x∈l,x<mk.length):z0e [maD st mk,.tup (stD l),.str n]=pure (.bl (z1n mk l n)):=by
 unfold z0e;rw[z2m,z1w];show z1i [some .(a),.(g (stD l)),.(s n)]=_;unfold z1i;have e:=zB3 (γ:=[some .(a),.(g (stD l)),.(s n)]) (cap:=[some 0,some 2,none]) (mi:=orE (z0o .(l)) (z0p .(l))) (g:=gN 2) (k:=λ_=>pure true) (me:=eFn 3 z1G (z7 .(g) (z7 .(t) (z7 .(l) aNil)))) (items:=stD l) true (λ_=>true) (λd=>bear n mk (numD d)) rfl (by rw[Z9];exact hl) λd hd=>?_
 ·rw[za3 _ e,filter_tt,if_pos rfl,zJ3 _ (λx=>bear n mk x)];rfl
 ·obtain⟨x,hx,rfl⟩:=zb2 hd;refine⟨[some .(a),.(s n),.(i (x:Nat))],?_,rfl,λ_=>?_⟩
  ·simp only[K2,K1,K0p,K1u,K05,K04,K2t,capG,gN]
  ·simp only[K2,K1,K6,K06,K0g,z7,aNil,z4a (hi x hx),z08,eFn,eVar,if_true];rfl
theorem zz4{n:Str}(hl:l.length<=1000000)(hi:∀x∈l,x<mk.length):z1d [maD st mk,.tup (stD l),.str n]=pure (.tup (stD (l.filter λx=>!bear n mk x))):=by
 unfold z1d;rw[z2m,z1w];show z1g [some .(a),.(g (stD l)),.(s n)]=_;unfold z1g;have e:=zh2 (γ:=[some .(a),.(g (stD l)),.(s n)]) (cap:=[some 0,some 2,none]) (mi:=z0o .(l)) (g:=gN 2) (k:=cNot (cVal (eFn 3 z1G (z7 .(g) (z7 .(t) (z7 .(l) aNil)))))) (me:=eVar 2) (items:=stD l) (λd=>!bear n mk (numD d)) (λd=>d) rfl (by rw[Z9];exact hl) (λd hd=>?_)
 ·rw[za3 _ (e ?_),z5q l λx=>!bear n mk x];rw[z5q l λx=>!bear n mk x];exact z15 _
 ·obtain⟨x,hx,rfl⟩:=zb2 hd;refine⟨[some .(a),.(s n),.(i (x:Nat))],?_,?_,λ_=>rfl⟩
  ·simp only[K2,K1,K0p,K1u,K05,K04,K2t,capG,gN]
  ·simp only[K2,K1,K6,K06,K0g,z7,aNil,z4a (hi x hx),z08,cNot,cVal,eFn,eVar,if_true,z5j];rfl
theorem z95{n:Str}(hm:mk.length<=1000):z2h [maD st mk,.str n]=pure (.tup (stD ((K0b mk.length).filter λx=>bear n mk x))):=by
 unfold z2h;rw[z2m,z1w];show z3q [some .(a),.(s n),none]=_;unfold z3q;have e:=zh2 (γ:=[some .(a),.(s n),none]) (cap:=[some 0,some 1,none]) (mi:=Y4 (Z8 fLen (z7 (e2 fIx .(g) .(2)) aNil))) (g:=gN 2) (k:=cVal (eFn 3 z1G (z7 .(g) (z7 .(t) (z7 .(l) aNil))))) (me:=eVar 2) (items:=stD (K0b mk.length)) (λd=>bear n mk (numD d)) (λd=>d) ?_ (by rw[Z9,K1f];omega) (λd hd=>?_)
 ·rw[za3 _ (e ?_),z5q _ λx=>bear n mk x];rw[z5q _ λx=>bear n mk x];exact z15 _
 ·exact funext λh=>z0b (y9 (e2_h .(d) (y:=.int 1) rfl (by rw[zj5];rfl)) (by rw[z1D,z9P];rfl)) .(0)
 ·obtain⟨x,hx,rfl⟩:=zb2 hd;rw[K13]at hx;refine⟨[some .(a),.(s n),.(i (x:Nat))],?_,?_,λ_=>rfl⟩
  ·simp only[K2,K1,K0p,K1u,K05,K04,K2t,capG,gN]
  ·simp only[K2,K1,K6,K06,K0g,z7,aNil,z4a hx,z08,cVal,eFn,eVar,if_true,z5j];rfl
theorem zo1(hy:y<st.length):z2x [.tup (stsD st),.tup (stD (y::p))]=pure (.bl (decide (1<(y::p).length)||decide (y∈nx st y))):=by
 unfold z2x;rw[z2m,z1w];show z2s [.(g (stsD st)),.(g ((stD (y::p))))]=_;unfold z2s;have f0:fIx (.tup (stD (y::p))) (.int 0)=pure (.int (y:Nat)):=ix0;obtain⟨n,hn⟩:∃n,n=(y::p).length:=⟨_,rfl⟩;have l:fLen [.tup (stD (y::p))]=pure (.int (n:Nat)):=by rw[z1D,Z9,hn]
 rw[<- hn];by_cases c:1<n
 ·simp only[K2,K1,z7,aNil,z0A,z9,bNil,z08,decide_eq_true (show (1:Int)<(n:Nat) by omega),decide_eq_true c,e2,Z8,eOr,eVar,z7O,if_true,l,sRet];rfl
 ·simp only[K27,K1k,K2,K1,z7,aNil,z0A,z9,bNil,z08,decide_eq_false (show ¬(1:Int)<(n:Nat) by omega),decide_eq_false c,e2,Z8,eOr,eVar,f0,z7O,if_false,z6J,z9X hy,l,sRet];simp
def badW(mk:List (List Str))(p:List Nat)(w:Str×Str):Bool:=z1n mk p w.1&&!z1n mk p w.2
theorem z9V(hl:l.length<=1000)(hi:∀x∈l,x<mk.length)(hw:ws.length<=1000):
 ∃d,z26 [maD st mk,.tup (stD l),.tup (ws.map wD)]=pure d/\((d=.int (-1)/\∀w∈ws,badW mk l w=false)\/∃i w,d=.int (i:Nat)/\ws[i]?=some w/\badW mk l w=true):=by
 have key:∀h:AH,W (runF 6 z0H [maD st mk,.tup (stD l),.tup (ws.map wD)]) h λd h1=>h1=h/\d=match ws.findIdx? (badW mk l) with|none=>.int (-1)|some i=>.int (i:Nat):=λh=>by
  refine z1L ?_;show W (z0H [some .(a),.(g (stD l)),.(g (ws.map wD)),none,none,none]) h _;unfold z0H;rw[w_cons];refine z0g (λc γ h'=>∃v1 v2 v3,γ=[some .(a),.(g (stD l)),.(g (ws.map wD)),v1,v2,v3]/\h'=h/\∀i w,i<c->ws[i]?=some w->badW mk l w=false) (λd h'=>h'=h/\∃i:Nat,d=.int i/\ws.findIdx? (badW mk l)=some i) ?_;refine W_of (v:=Src.con (z4P (ws.map wD))) rfl ⟨⟨none,none,none,rfl,rfl,λi w hi=>by omega⟩,λ_ _ _ _=>trivial,?_,?_,?_⟩
  ·rintro c d γ h' hd ⟨v1,v2,v3,rfl,rfl,no⟩;obtain⟨⟨a,b⟩,ew,rfl⟩:∃w,ws[c]?=some w/\d=.tup [.int (c:Nat),wD w]:=by
    have hd:(z4P (ws.map wD))[c]?=some d:=hd;unfold z4P at hd;rw[K0a,K0c]at hd;have hc:c<ws.length:=by
     by_cases z:c<ws.length
     ·exact z
     ·rw[K1j (by simpa using z)]at hd;cases hd
    rw[K35 hc]at hd;refine⟨ws[c],K8 hc,?_⟩;have hd:=(K0y hd).symm;dsimp only at hd;rw[K0a,K8 hc]at hd;exact hd
   refine W_eq (v:=[some .(a),.(g (stD l)),.(g (ws.map wD)),.(i (c:Nat)),.(s a),.(s b)]) (by unfold wD;simp only[K6,K06,K05,K04,K0g,z08,z0y,gN,z3x,gT,if_true]) ?_;refine q_if (badW mk l (a,b)) (by
    simp only[K2,K1,K6,K06,K0g,z7,aNil,z08,z8p (st:=st) .(0) hi,cAnd,cNot,cVal,eFn,eVar,if_true,z5j];unfold badW;cases z1n mk l a<;>simp) ?_
   cases c1:badW mk l (a,b) with
   | true=>
    rw[if_pos rfl];refine z0M (zF3 (.int (c:Nat)) rfl ⟨rfl,c,rfl,?_⟩);obtain⟨hc,ec⟩:=K02.mp ew;refine K66.mpr ⟨hc,by rw[ec];exact c1,λj hj=>?_⟩;rw[no j ws[j] hj (K8 .(0))];decide
   | false=>
    rw[if_neg .(1)];refine z0i (w6 ⟨_,_,_,rfl,rfl,λi w hi hw'=>?_⟩);by_cases z:i<c
    ·exact no i w z hw'
    ·obtain rfl:i=c:=by omega
     rw[ew]at hw';cases hw';exact c1
  ·rintro γ h' ⟨v1,v2,v3,rfl,rfl,no⟩;refine zF3 (.int (-1)) rfl ⟨rfl,?_⟩;have:ws.findIdx? (badW mk l)=none:=K7s.mpr λw hw=>by
    obtain⟨i,hi,e⟩:=K1o hw;exact no i w (by simp[Src.items,z4P];exact hi) (by rw[K8 hi,e])
   rw[this]
  ·rintro d h' ⟨rfl,i,rfl,e⟩;exact⟨rfl,by rw[e]⟩
 cases e:ws.findIdx? (badW mk l) with
 | none=>
  refine⟨.int (-1),funext λh=>?_,.inl ⟨rfl,λw hw=>?_⟩⟩
  ·obtain⟨d,h1,e1,rfl,e2⟩:=key h;rw[e]at e2;subst e2;exact z05 (j:=[]) (by rw[K17];exact e1) rfl
  ·have:=K7s.mp e w hw;simpa using this
 | some i=>
  obtain⟨hi',hp,_⟩:=K66.mp e;refine⟨.int (i:Nat),funext λh=>?_,.inr ⟨i,ws[i],rfl,K8 hi',hp⟩⟩;obtain⟨d,h1,e1,rfl,e2⟩:=key h;rw[e]at e2;subst e2;exact z05 (j:=[]) (by rw[K17];exact e1) rfl
def rndB(st:List .(p))(y:Nat)(r:List Nat):Bool:=decide (1<(y::r).length)||decide (y∈nx st y)
section
variable{V:List Nat}
theorem zs5{r:List Nat}(g:GR st mk ws S)(h:∀x,S x->x∈y::r):rndB st y r=true:=by
 obtain⟨x,hx⟩:=g.ne;obtain⟨z,z1,z2⟩:=(g.rn x x hx hx).next;unfold rndB;cases r with
 | cons a r=>simp
 | nil=>
  have e1:=K0q.mp (h x hx);have e2:=K0q.mp (h z z2);subst e1;subst e2;simp[z1]
structure SP(st:List .(p))(V:List Nat)(p:List Nat):Prop where
 r:p.Pairwise (·<·)
 v:∀x∈p,x∈V
 ne:p≠[]
 go:∀y r,p=y::r->rndB st y r=true->∀a b,a∈p->b∈p->Pt st (·∈p) a b
theorem zX3(q:MA st mk)(Vr:V.Pairwise (·<·))(Vl:∀x∈V,x<st.length):
 (∀p∈prts .(n) V (inV st V),SP st V p)/\(prts .(n) V (inV st V)).flatten.length<=V.length/\(prts .(n) V (inV st V)).length<=V.length /\
  ∀S,GR st mk ws S->(∀x,S x->x∈V)->∃p∈prts .(n) V (inV st V),∀x,S x->x∈p:=by
 have fv:∀x∈V,∀y∈inV st V x,y∈V:=λx hx y hy=>by simpa using(K08.mp hy).2
 obtain⟨pf,pm⟩:=zA8 (z0G Vr) Vl q.l2 fv;have nxG:∀{x y:Nat},y∈nx (gS .(n) V (inV st V)) x->x∈V/\y∈V/\y∈nx st x:=λh=>by
  obtain⟨a,b,c⟩:=zd6 Vl fv h;exact⟨a,b,(K08.mp c).1⟩
 have Gnx:∀{x y:Nat},x∈V->y∈V->y∈nx st x->y∈nx (gS .(n) V (inV st V)) x:=λhx hy h=>by
  rw[z6K Vl,if_pos hx];exact K08.mpr ⟨h,by simpa using hy⟩
 have all:∀p∈prts .(n) V (inV st V),SP st V p:=λp hp=>by
  obtain⟨x,xV,rfl⟩:=pf.is p hp;have inv:∀{a b:Nat},a∈scc (gS .(n) V (inV st V)) V x->b∈scc (gS .(n) V (inV st V)) V x->a=b\/Pt st (·∈scc (gS .(n) V (inV st V)) V x) a b:=λ{a b} ha hb=>by
   obtain⟨aV,ma⟩:=scc_mem.mp ha;have ab:Rch (gS .(n) V (inV st V)) a b:=(ma.symm.trans (scc_mem.mp hb).2).1;revert hb;induction ab with
   | here=>exact λ_=>.inl rfl
   | step r e ih=>
    rename_i c b;intro hb;obtain⟨cV,bV,cb⟩:=nxG e;have hc:c∈scc (gS .(n) V (inV st V)) V x:=scc_mem.mpr ⟨cV,ma.1.trans r,(Rch.step .here e).trans (scc_mem.mp hb).2.2⟩;right;rcases ih hc with rfl|p
    ·exact .one hc hb cb
    ·exact p.trans (.one hc hb cb)
  have rr:(scc (gS st.length V (inV st V)) V x).Pairwise (·<·):=by unfold scc;exact Vr.filter _
  refine⟨rr,λy hy=>(scc_mem.mp hy).1,λe=>?_,λy r e rd a b ha hb=>?_⟩
  ·have:x∈scc (gS .(n) V (inV st V)) V x:=scc_mem.mpr ⟨xV,Mut2.refl⟩;rw[e]at this;cases this
  ·rcases inv ha hb with rfl|p
   ·have self:∃c∈scc (gS .(n) V (inV st V)) V x,c≠a\/a∈nx st a:=by
     cases r with
     | nil=>
      rw[e,K0q]at ha;subst ha;unfold rndB at rd;exact⟨a,hb,.inr (by simpa using rd)⟩
     | cons z r=>
      have nd:=z0G rr;rw[e]at nd;have yz:y≠z:=λh=>(K4p.mp nd).1 (by rw[h];simp);by_cases c:y=a
      ·exact⟨z,by rw[e];simp,.inl λh=>yz (c.trans h.symm)⟩
      ·exact⟨y,by rw[e];simp,.inl c⟩
    obtain⟨c,hc,k|k⟩:=self
    ·rcases inv ha hc with e1|p1
     ·exact absurd e1.symm k
     ·rcases inv hc ha with e2|p2
      ·exact absurd e2 k
      ·exact p1.trans p2
    ·exact .one ha ha k
   ·exact p
 have fl:=K19 pf.nd λa ha=>(pm a).mp ha;refine⟨all,fl,?_,λS g hS=>?_⟩
 ·have:∀L:List .(p),(∀p∈L,p≠[])->L.length<=L.flatten.length:=λL=>by
   induction L with
   | nil=>intro _;simp
   | cons a L ih=>
    intro h;have h1:=ih λp hp=>h p (by simp[hp]);have h2:1<=a.length:=Nat.pos_of_ne_zero λe=>h a .(e) (K2e.mp e);rw[K15,K3,K6];omega
  have:=this _ λp hp=>(all p hp).ne;omega
 ·obtain⟨x,hx⟩:=g.ne;obtain⟨p,hp,xp⟩:=Z2t.mp ((pm x).mpr (hS x hx));refine⟨p,hp,λy hy=>?_⟩;obtain⟨z,zV,rfl⟩:=pf.is p hp;have rch:∀{a b:Nat},Pt st S a b->Rch (gS .(n) V (inV st V)) a b:=λp=>by
   induction p with
   | one a b c=>exact .step .here (Gnx (hS _ a) (hS _ b) c)
   | cons a b q ih=>exact(Rch.step .here (Gnx (hS _ a) (hS _ q.fst) b)).trans ih
  exact scc_mem.mpr ⟨hS y hy,(scc_mem.mp xp).2.trans ⟨rch (g.rn x y hx hy),rch (g.rn y x hy hx)⟩⟩
end
def wsum(W:List .(p)):Nat:=(W.map λv=>2 * v.length+1).sum
theorem wsum_snoc(W:List .(p))(v:List Nat):wsum (W++[v])=wsum W+(2 * v.length+1):=by unfold wsum;simp
theorem z8J(W:List .(p)):W.length<=wsum W:=by
 unfold wsum;induction W with
 | nil=>simp
 | cons a W ih=>rw[K6,K0p,List.sum_cons];omega
structure FI(st:List .(p))(mk:List (List Str))(ws:List (Str×Str))(L:List Nat)(P W R:List .(p))(b c:Nat):Prop where
 ok:∀p∈P,p.Pairwise (·<·)/\GR st mk ws (·∈p)/\∀x∈p,x∈L
 wr:∀v∈W,v.Pairwise (·<·)/\∀x∈v,x∈L
 cov:∀S,GR st mk ws S->(∀y,S y->y∈L)->(∃p∈P,∀x,S x->x∈p)\/(∃v∈W,∀x,S x->x∈v)\/∃p∈R,∀x,S x->x∈p
 pot:P.length+P.flatten.length+wsum W+2 * R.flatten.length<=b
 wm:wsum W+2 * R.flatten.length<=c
section
variable{P W R:List (List Nat)}{r:List Nat}
theorem FI.skip(f:FI st mk ws L P W ((y::r)::R) b c)(h:rndB st y r=false):FI st mk ws L P W R b c:=by
 refine⟨f.ok,f.wr,λS hS hL=>?_,by have:=f.pot;rw[K15,K3]at this;omega,by have:=f.wm;rw[K15,K3]at this;omega⟩;rcases f.cov S hS hL with a|a|⟨p,hp,a⟩
 ·exact .inl a
 ·exact .inr (.inl a)
 ·rcases K0l.mp hp with rfl|hp
  ·rw[zs5 hS a]at h;cases h
  ·exact .inr (.inr ⟨p,hp,a⟩)
theorem FI.keep{V:List Nat}(f:FI st mk ws L P W ((y::r)::R) b c)(sp:SP st V (y::r))(vl:∀x∈V,x∈L)(h:rndB st y r=true)(no:∀w∈ws,badW mk (y::r) w=false):FI st mk ws L (P++[y::r]) W R b c:=by
 refine⟨λp hp=>?_,f.wr,λS hS hL=>?_,by have:=f.pot;rw[K15,K3,K6]at this;rw[K3,K0v,K5f,K3,K15,K3p,K17,K6];omega,by have:=f.wm;rw[K15,K3]at this;omega⟩
 ·rcases K00.mp hp with hp|hp
  ·exact f.ok p hp
  ·rw[K0q]at hp;subst hp;refine⟨sp.r,⟨⟨y,by simp⟩,λa b ha hb=>sp.go y r rfl h a b ha hb,λw hw ⟨x,hx,bx⟩=>?_⟩,λx hx=>vl x (sp.v x hx)⟩;have:=no w hw;unfold badW at this;have b1:z1n mk (y::r) w.1=true:=by unfold z1n;exact K5c.mpr ⟨x,hx,bx⟩
   rw[b1]at this;have b2:z1n mk (y::r) w.2=true:=by simpa using this
   unfold z1n at b2;obtain⟨z,z1,z2⟩:=K5c.mp b2;exact⟨z,z1,z2⟩
 ·rcases f.cov S hS hL with ⟨p,hp,a⟩|a|⟨p,hp,a⟩
  ·exact .inl ⟨p,by simp[hp],a⟩
  ·exact .inr (.inl a)
  ·rcases K0l.mp hp with rfl|hp
   ·exact .inl ⟨_,by simp,a⟩
   ·exact .inr (.inr ⟨p,hp,a⟩)
theorem FI.cut{V:List Nat}{w:Str×Str}(f:FI st mk ws L P W ((y::r)::R) b c)(sp:SP st V (y::r))(vl:∀x∈V,x∈L)(hw:w∈ws)(bd:badW mk (y::r) w=true):FI st mk ws L P (W++[(y::r).filter λx=>!bear w.1 mk x]) R b c:=by
 unfold badW at bd;rw[K0e,K41]at bd;obtain⟨b1,b2⟩:=bd;unfold z1n at b1 b2;have lt:((y::r).filter λx=>!bear w.1 mk x).length<(y::r).length:=by
  obtain⟨z,z1,z2⟩:=K5c.mp b1;exact K4z.mpr ⟨z,z1,by simp[z2]⟩
 refine⟨f.ok,λv hv=>?_,λS hS hL=>?_,?_,?_⟩
 ·rcases K00.mp hv with hv|hv
  ·exact f.wr v hv
  ·rw[K0q]at hv;subst hv;exact⟨sp.r.filter _,λx hx=>vl x (sp.v x (K08.mp hx).1)⟩
 ·rcases f.cov S hS hL with a|⟨v,hv,a⟩|⟨p,hp,a⟩
  ·exact .inl a
  ·exact .inr (.inl ⟨v,by simp[hv],a⟩)
  ·rcases K0l.mp hp with rfl|hp
   ·refine .inr (.inl ⟨(y::r).filter λx=>!bear w.1 mk x,K00.mpr (.inr (K0q.mpr rfl)),λx hx=>K08.mpr ⟨a x hx,?_⟩⟩);cases k:bear w.1 mk x with
    | false=>rfl
    | true=>
     obtain⟨z,z1,z2⟩:=hS.wi w hw ⟨x,hx,k⟩;have:=Z2e.mp b2 z (a z z1);exact absurd z2 this
   ·exact .inr (.inr ⟨p,hp,a⟩)
 ·have:=f.pot;rw[K15,K3]at this;rw[wsum_snoc];omega
 ·have:=f.wm;rw[K15,K3]at this;rw[wsum_snoc];omega
end
def FHp(h:AH)(P W:List .(p))(j:AH):AH:=h++(.lst (stsD P)::.lst (stsD W)::j)
section
variable{P W P':List (List Nat)}
theorem fh0:(FHp h P W j)[h.length]?=.(l (stsD P)):=am0
theorem fh1:(FHp h P W j)[h.length+1]?=.(l (stsD W)):=am1
theorem fs0:(FHp h P W j).set h.length (.lst (stsD P'))=FHp h P' W j:=sm0
theorem fs1:(FHp h P W j).set (h.length+1) (.lst (stsD P'))=FHp h P P' j:=sm1
theorem zu8{k:AH}:FHp h P W j++k=FHp h P W (j++k):=by unfold FHp;simp
theorem zu6:(FHp h P W j).length=h.length+2+j.length:=by unfold FHp;rw[K3,K6,K6];omega
theorem zX9{o:O}:(FHp h P W (j++[o]))[h.length+2+j.length]?=some o:=by
 rw[<- zu8,<- zu6 (P:=P) (W:=W)];exact J6
end
theorem zM6{h:AH}(q:MA st mk)(Lr:L.Pairwise (·<·))(Ll:∀x∈L,x<st.length)(hw:ws.length<=1000):
 ∃P,FI st mk ws L P [] [] 81 81/\z2k [maD st mk,.tup (stD L),.tup (ws.map wD)] h=.ok (.ref .(h)) (h++[.lst (stsD P)]):=by
 have n40:=q.l2;have Lle:L.length<=st.length:=z7E (z0G Lr) Ll;have w1:wsum [L]=2 * L.length+1:=by unfold wsum;simp
 have key:W (runF 8 z0W [maD st mk,.tup (stD L),.tup (ws.map wD)]) h λd h1=>d=.ref .(h)/\∃P j,FI st mk ws L P [] [] 81 81/\h1=FHp h P [] j:=by
  refine z1L ?_;show W (z0W [some .(a),.(g (stD L)),.(g (ws.map wD)),none,none,none,none,none]) h _;unfold z0W;refine J8 (.ref .(h)) [some .(a),.(g (stD L)),.(g (ws.map wD)),.(r .(h)),none,none,none,none] (h1:=h++[.lst []]) rfl rfl ?_;refine J8 (.ref (.(h)+1)) [some .(a),.(g (stD L)),.(g (ws.map wD)),.(r .(h)),.(r (.(h)+1)),none,none,none] (h1:=FHp h [] [L] []) (by
   show Res.ok (D.ref (h++[O.lst []]).length) (h++[O.lst []]++[O.lst [D.tup (stD L)]])=_;rw[K3,K0v,K7];rfl) rfl ?_
  refine z1r (λγ h1=>∃P j v5 v6 v7,γ=[some .(a),.(g (stD L)),.(g (ws.map wD)),.(r .(h)),.(r (.(h)+1)),v5,v6,v7]/\h1=FHp h P [] j/\FI st mk ws L P [] [] 81 81) ?_ ?_
  ·refine z1m (λm γ h1=>∃P W j v5 v6 v7,γ=[some .(a),.(g (stD L)),.(g (ws.map wD)),.(r h.length),.(r (h.length+1)),v5,v6,v7]/\h1=FHp h P W j/\FI st mk ws L P W [] 81 81/\m=wsum W) _ _ ?_ 1000000 (wsum [L]) _ _ (by rw[w1];omega) ⟨[],[L],[],none,none,none,rfl,rfl,⟨λp hp=>absurd hp K2u,λv hv=>?_,λS hS hL=>.inr (.inl ⟨L,by simp,hL⟩),?_,?_⟩,rfl⟩
   ·rintro m γ h1 ⟨P,W,j,v5,v6,v7,rfl,rfl,fi,hm⟩;refine FT.W.of (a:=!(stsD W).isEmpty) (h':=FHp h P W j) (zc5 rfl fh1) ?_;rcases K2l W with rfl|⟨W,V,rfl⟩
    ·exact⟨P,j,v5,v6,v7,rfl,rfl,fi⟩
    ·rw[K2m]at *;rw[show (!(stsD (W++[V])).isEmpty)=true by unfold stsD;simp,if_pos rfl];have pot:=fi.pot;have wmm:=fi.wm;have wl:=z8J W;rw[wsum_snoc]at pot wmm hm;rw[K3p,K06]at pot wmm;refine⟨wsum W+2 * V.length,by omega,?_⟩;refine Z00 (i:=.(h)+1) (xs:=stsD W) (v:=.tup (stD V)) rfl (by rw[z4e];exact fh1) (by rw[z16];omega) ?_;rw[fs1];show FT.W _ _ _;obtain⟨Vr,VL⟩:=fi.wr V .(e);have Vl:∀x∈V,x<st.length:=λx hx=>Ll x (VL x hx);obtain⟨sp,fl,pl,cv⟩:=zX3 (ws:=ws) q Vr Vl;obtain⟨A,eA⟩:∃A,A=prts .(n) V (inV st V):=⟨_,rfl⟩;have str:=zp4 (mk:=mk) (zG3 q) q.s1 Vr Vl;rw[<- eA]at sp fl pl cv str;have Vle:V.length<=st.length:=z7E (z0G Vr) Vl;have f0:FI st mk ws L P W A 81 (wsum W+2 * V.length):=⟨fi.ok,λv hv=>fi.wr v (by simp[hv]),λS hS hL=>by
      rcases fi.cov S hS hL with a|⟨v,hv,a⟩|⟨p,hp,_⟩
      ·exact .inl a
      ·rcases K00.mp hv with hv|hv
       ·exact .inr (.inl ⟨v,hv,a⟩)
       ·rw[K0q]at hv;subst hv;exact .inr (.inr (cv S hS a))
      ·exact absurd hp K2u,by omega,by omega⟩
     obtain⟨k,ek⟩:∃k,k=j++[O.lst (stsD A)]:=⟨_,rfl⟩;have src:z0p (eFn 2 z0x (z7 .(g) (z7 (eVar 5) aNil))) [some .(a),.(g (stD L)),.(g (ws.map wD)),.(r .(h)),.(r (.(h)+1)),.(g (stD V)),v6,v7] (FHp h P W j)=.ok (.lst (.(h)+2+j.length) (stsD A)) (FHp h P W k):=by
      have e1:eFn 2 z0x (z7 .(g) (z7 (eVar 5) aNil)) [some .(a),.(g (stD L)),.(g (ws.map wD)),.(r .(h)),.(r (.(h)+1)),.(g (stD V)),v6,v7] (FHp h P W j)=.ok (.ref (.(h)+2+j.length)) (FHp h P W k):=
       fn_h (ds:=[maD st mk,.tup (stD V)]) (ac_h .(d) (ac_h .(d) rfl)) rfl (by rw[str,z61 (by rw[z16];omega),zu8,zu6,ek])
      have g:getL (h.length+2+j.length) (FHp h P W k)=.ok (stsD A) (FHp h P W k):=by unfold getL;rw[ek,zX9]
      unfold z0p;rw[M.bind_ok e1];dsimp only;rw[M.bind_ok g];rfl
     refine z1r (λγ h2=>∃P' W' v6 v7,γ=[some .(a),.(g (stD L)),.(g (ws.map wD)),.(r .(h)),.(r (.(h)+1)),.(g (stD V)),v6,v7]/\h2=FHp h P' W' k/\FI st mk ws L P' W' [] 81 (wsum W+2 * V.length)) ?_ ?_
     ·refine z0g (λt γ h2=>∃P' W' v6 v7,γ=[some .(a),.(g (stD L)),.(g (ws.map wD)),.(r .(h)),.(r (.(h)+1)),.(g (stD V)),v6,v7]/\h2=FHp h P' W' k/\FI st mk ws L P' W' (A.drop t) 81 (wsum W+2 * V.length)) (λ_ _=>False) ?_;refine W_of src ⟨⟨P,W,v6,v7,rfl,rfl,by rw[K7d];exact f0⟩,?_,?_,?_,λ_ _ f=>f.elim⟩
      ·rintro t γ h2 ⟨P',W',v6,v7,rfl,rfl,_⟩;show (FHp h P' W' k)[.(h)+2+j.length]?=_;rw[ek];exact zX9
      ·rintro t d γ h2 hd ⟨P',W',v6,v7,rfl,rfl,f⟩;have hd:(stsD A)[t]?=some d:=hd;unfold stsD at hd;rw[K0a]at hd;obtain⟨p,ep,rfl⟩:=K11.mp hd;have hp:=K0d ep;have spp:=sp p hp;obtain⟨ht,et⟩:=K02.mp ep;rw[K25 ht,et]at f;cases p with
       | nil=>exact absurd rfl spp.ne
       | cons y r=>
        have yl:y<st.length:=Vl y (spp.v y .(e));have ple:(y::r).length<=st.length:=z7E (z0G spp.r) λx hx=>Vl x (spp.v x hx);have pml:∀x∈y::r,x<mk.length:=λx hx=>by rw[q.l3];exact Vl x (spp.v x hx)
        refine FT.W.of (a:=[some .(a),.(g (stD L)),.(g (ws.map wD)),.(r .(h)),.(r (.(h)+1)),.(g (stD V)),.(g ((stD (y::r)))),v7]) rfl ?_;refine z1j (rndB st y r) (cv_h (fn_h (ds:=[.tup (stsD st),.tup (stD (y::r))]) (ac_h (e2_h .(d) (y:=.int 0) rfl (by rw[z36];rfl)) (ac_h .(d) rfl)) rfl (by rw[zo1 yl];rfl))) ?_;cases rb:rndB st y r with
        | false=>
         rw[if_neg .(1)];exact z0i (w6 ⟨P',W',_,_,rfl,rfl,f.skip rb⟩)
        | true=>
         rw[if_pos rfl];obtain⟨d,ed,cs⟩:=z9V (st:=st) (mk:=mk) (l:=y::r) (ws:=ws) .(0) pml hw;refine z0M (J8 d [some .(a),.(g (stD L)),.(g (ws.map wD)),.(r .(h)),.(r (.(h)+1)),.(g (stD V)),.(g ((stD (y::r)))),some d] (h1:=FHp h P' W' k) (fn_h (ds:=[maD st mk,.tup (stD (y::r)),.tup (ws.map wD)]) (ac_h .(d) (ac_h .(d) (ac_h .(d) rfl))) rfl (by rw[ed];rfl)) rfl ?_);have pt:=f.pot;have wl':=z8J W';rcases cs with ⟨rfl,no⟩|⟨i,w,rfl,ew,bd⟩
         ·refine z0M (z1j true (cb_h (e2_h .(d) (y:=.int (-1)) rfl (by rw[z4C];rfl))) ?_);rw[if_pos rfl];refine z0M (z1A (i:=.(h)) rfl fh0 (by rw[z16];omega) .(d) ?_);rw[z4e,fs0];exact z0i (z0i (w6 ⟨P'++[y::r],W',_,_,rfl,rfl,f.keep spp VL rb no⟩))
         ·refine z0M (z1j false (cb_h (e2_h .(d) (y:=.int (-1)) rfl (by
           rw[z4C,.(k) (show ¬ (i:Int)=-1 by omega)];rfl))) ?_)
          rw[if_neg .(1)];have eix:e2 fIx (e2 fIx .(t) (eVar 7)) .(8) [some .(a),.(g (stD L)),.(g (ws.map wD)),.(r .(h)),.(r (.(h)+1)),.(g (stD V)),.(g ((stD (y::r)))),.(i (i:Nat))] (FHp h P' W' k)=.ok (.str w.1) (FHp h P' W' k):=
           e2_h (e2_h .(d) .(d) (by rw[ix_tup (d:=wD w) (z0w (by rw[K0a,ew];rfl))];rfl)) (y:=.int 0) rfl rfl
          refine z0M (z1A (i:=.(h)+1) (v:=.tup (stD ((y::r).filter λx=>!bear w.1 mk x))) rfl fh1 (by rw[z16];omega) (fn_h (ds:=[maD st mk,.tup (stD (y::r)),.str w.1]) (ac_h .(d) (ac_h .(d) (ac_h eix rfl))) rfl (by rw[zz4 .(0) pml];rfl)) ?_);rw[z4e,fs1];exact z0i (z0i (w6 ⟨P',W'++[(y::r).filter λx=>!bear w.1 mk x],_,_,rfl,rfl,f.cut spp VL (K0d ew) bd⟩))
      ·rintro γ h2 ⟨P',W',v6,v7,rfl,rfl,f⟩;refine⟨P',W',v6,v7,rfl,rfl,?_⟩;rw[show (Src.lst (.(h)+2+j.length) (stsD A)).items.length=A.length from z16 A,List.drop_length]at f;exact f
     ·rintro γ h2 ⟨P',W',v6,v7,rfl,rfl,f⟩;have wm:=f.wm;rw[K3p,K06]at wm;exact w6 ⟨wsum W',by omega,P',W',k,_,v6,v7,rfl,rfl,⟨f.ok,f.wr,f.cov,f.pot,by have:=f.pot;omega⟩,rfl⟩
   ·rw[K0q]at hv;subst hv;exact⟨Lr,λx hx=>hx⟩
   ·rw[w1];simp;omega
   ·rw[w1];simp;omega
  ·rintro γ h1 ⟨P,j,v5,v6,v7,rfl,rfl,fi⟩;exact Y2 (.ref .(h)) .(d) ⟨rfl,P,j,fi,rfl⟩
 obtain⟨d,h1,e,rfl,P,j,fi,rfl⟩:=key;refine⟨P,fi,z4I (i:=.(h)) (j:=.lst (stsD P)::.lst (stsD [])::j) e (K01 _) am0 (y6 λa=>z0K a)⟩
theorem zK9(a b:Nat):K6r (a:Int) (b:Int)=((a ||| b:Nat):Int):=by
 have n1:K4e (a:Int)=-((a:Int)+1):=by unfold K4e;omega
 have n2:K4e (b:Int)=-((b:Int)+1):=by unfold K4e;omega
 have k:∀c:Nat,K4e (-((c:Int)+1))=(c:Int):=λc=>by unfold K4e;omega
 unfold K6r K12;rw[n1,n2,k,k,.(k) (show ¬ (0:Int)<=-((a:Int)+1) by omega),.(k) (show ¬ (0:Int)<=-((b:Int)+1) by omega)];dsimp only;rw[K0u,K0u];unfold K4e;omega
theorem zr6(a b:Nat):K12 (a:Int) (b:Int)=((a &&& b:Nat):Int):=by
 unfold K12;rw[decide_eq_true (show (0:Int)<=(a:Int) by omega),decide_eq_true (show (0:Int)<=(b:Int) by omega)];dsimp only;rw[K0u,K0u]
def z07(l:List Nat):Nat:=l.foldl (λm x=>m ||| 2 ^ x) 0
theorem zj6(l:List Nat)(x:Nat):z07 (l++[x])=z07 l ||| 2 ^ x:=by unfold z07;rw[K6g];rfl
theorem za5(i:Nat):∀(l:List Nat) (m:Nat),(l.foldl (λm x=>m ||| 2 ^ x) m).testBit i=(m.testBit i||decide (i∈l))
 | [],m=>by simp
 | a::l,m=>by
  rw[K4q,za5 i l,K6e,Nat.testBit_two_pow];rw[K0n];simp only[K2h,decide_eq_true_eq,K0l];constructor
  ·rintro((h|h)|h)
   ·exact .inl h
   ·exact .inr (.inl h.symm)
   ·exact .inr (.inr h)
  ·rintro(h|h|h)
   ·exact .inl (.inl h)
   ·exact .inl (.inr h.symm)
   ·exact .inr h
theorem z0S(l:List Nat)(i:Nat):(z07 l).testBit i=decide (i∈l):=by unfold z07;rw[za5];simp
theorem and_ne:a &&& b≠0↔∃i,a.testBit i=true/\b.testBit i=true:=by
 constructor
 ·intro h;obtain⟨i,hi⟩:=K6z h;rw[K4r,K0e]at hi;exact⟨i,hi⟩
 ·rintro⟨i,h1,h2⟩ z;have:=congrArg (λm=>m.testBit i) z;simp only[K4r,h1,h2,Bool.and_self,K8k]at this;cases this
def z31(A:List Nat)(g:Nat):Nat:=z07 ((K0b A.length).filter λk=>decide (0<(A[k]?).getD 0 &&& g))
def z01(A:List Nat)(w g:Nat):Nat->Nat
 | 0=>g
 | k+1=>z01 A w g k ||| (w &&& z31 A (z01 A w g k))
def z4o(A:List Nat)(w g:Nat):Nat:=z01 A w g A.length
def J0(st:List .(p)):List Nat:=st.map z07
def z1K(n m:Nat):List Nat:=(K0b n).filter λx=>m.testBit x
theorem bits_mem:x∈z1K n m↔x<n/\m.testBit x=true:=by unfold z1K;rw[K08,K13]
section
variable{w g:Nat}
theorem z8q{F:Nat}:(z31 (J0 st) F).testBit x=true↔x<st.length/\∃y∈nx st x,F.testBit y=true:=by
 unfold z31;rw[z0S,decide_eq_true_eq,K08,K13,decide_eq_true_eq,show (J0 st).length=st.length by unfold J0;simp];refine and_congr_right λhx=>?_;have e:((J0 st)[x]?).getD 0=z07 (nx st x):=by
  unfold J0 nx;rw[K0a,K8 hx];rfl
 rw[e,K9w,and_ne];constructor
 ·rintro⟨y,h1,h2⟩;rw[z0S,.(i)]at h1;exact⟨y,h1,h2⟩
 ·rintro⟨y,h1,h2⟩;exact⟨y,by rw[z0S,.(i)];exact h1,h2⟩
theorem near_step{F:Nat}:(F ||| (w &&& z31 (J0 st) F)).testBit x=true↔F.testBit x=true\/w.testBit x=true/\x<st.length/\∃y∈nx st x,F.testBit y=true:=by
 rw[K6e,K4r,K2h,K0e,z8q]
theorem z5G(hg:∀x,g.testBit x=true->x<st.length):∀k x,(z01 (J0 st) w g k).testBit x=true->x<st.length
 | 0,x,h=>hg x h
 | k+1,x,h=>by
  unfold z01 at h;rcases near_step.mp h with h|⟨_,h,_⟩
  ·exact z5G hg k x h
  ·exact h
theorem z3M(hg:∀x,g.testBit x=true->x<st.length):∀k x,(z01 (J0 st) w g k).testBit x=true->Ub st (z1K st.length w) (z1K st.length g) x
 | 0,x,h=>.goal (bits_mem.mpr ⟨hg x h,h⟩)
 | k+1,x,h=>by
  unfold z01 at h;rcases near_step.mp h with h|⟨h1,h2,y,h3,h4⟩
  ·exact z3M hg k x h
  ·exact .step (bits_mem.mpr ⟨h2,h1⟩) h3 (z3M hg k y h4)
theorem z86(hg:∀x,g.testBit x=true->x<st.length):∀k,(∀x,(z01 (J0 st) w g (k+1)).testBit x=true->(z01 (J0 st) w g k).testBit x=true)\/k<=(z1K st.length (z01 (J0 st) w g k)).length
 | 0=>.inr (K4j _)
 | k+1=>by
  rcases z86 hg k with h|h
  ·left;have e:z01 (J0 st) w g (k+1)=z01 (J0 st) w g k:=by
    refine K54 λx=>?_;rw[K0n];exact⟨h x,λz=>by unfold z01;exact near_step.mpr (.inl z)⟩
   intro x hx;rw[e];unfold z01 at hx;rw[e]at hx;have:(z01 (J0 st) w g (k+1)).testBit x=true:=by unfold z01;exact hx
   rwa [e]at this
  ·by_cases c:∀x,(z01 (J0 st) w g (k+1)).testBit x=true->(z01 (J0 st) w g k).testBit x=true
   ·left;have e:z01 (J0 st) w g (k+1)=z01 (J0 st) w g k:=by
     refine K54 λx=>?_;rw[K0n];exact⟨c x,λz=>by unfold z01;exact near_step.mpr (.inl z)⟩
    intro x hx;rw[e];unfold z01 at hx;rw[e]at hx;have:(z01 (J0 st) w g (k+1)).testBit x=true:=by unfold z01;exact hx
    rwa [e]at this
   ·right;obtain⟨x,hx⟩:=Classical.not_forall.mp c;obtain⟨x1,x2⟩:=Classical.not_imp.mp hx;have e:z1K .(n) (z01 (J0 st) w g k)=(z1K .(n) (z01 (J0 st) w g (k+1))).filter λx=>(z01 (J0 st) w g k).testBit x:=by
     unfold z1K;rw[List.filter_filter];refine Z2c λy _=>?_;rw[K0n,K0e];exact⟨λz=>⟨z,by unfold z01;exact near_step.mpr (.inl z)⟩,λz=>z.1⟩
    have lt:(z1K .(n) (z01 (J0 st) w g k)).length<(z1K .(n) (z01 (J0 st) w g (k+1))).length:=by
     rw[e];exact K4z.mpr ⟨x,bits_mem.mpr ⟨z5G hg _ x x1,x1⟩,x2⟩
    omega
theorem z5F(hg:∀x,g.testBit x=true->x<st.length):(z4o (J0 st) w g).testBit x=true↔Ub st (z1K st.length w) (z1K st.length g) x:=by
 have ln:(J0 st).length=st.length:=by unfold J0;simp
 have stab:∀x,(z01 (J0 st) w g (.(n)+1)).testBit x=true->(z01 (J0 st) w g .(n)).testBit x=true:=by
  rcases z86 (w:=w) hg .(n) with h|h
  ·exact h
  ·intro x hx;have e:z1K .(n) (z01 (J0 st) w g .(n))=K0b st.length:=by
    unfold z1K at h ⊢;exact List.filter_sublist.eq_of_length (by have:=K0w (λx=>(z01 (J0 st) w g .(n)).testBit x) (K0b .(n));rw[K1f]at this ⊢;omega)
   have:x∈z1K .(n) (z01 (J0 st) w g .(n)):=by rw[e];exact K13.mpr (z5G hg _ x hx)
   exact(bits_mem.mp this).2
 unfold z4o;rw[ln];refine⟨z3M hg _ x,λu=>?_⟩;induction u with
 | goal h=>
  have:∀k,(z01 (J0 st) w g k).testBit _=true:=λk=>by
   induction k with
   | zero=>exact(bits_mem.mp h).2
   | succ k ih=>unfold z01;exact near_step.mpr (.inl ih)
  exact this _
 | step a b _ ih=>
  refine stab _ ?_;unfold z01;obtain⟨a1,a2⟩:=bits_mem.mp a;exact near_step.mpr (.inr ⟨a2,a1,_,b,ih⟩)
end
def z3d(A:List Nat)(B:List (Nat×Nat))(S:Nat):Bool:=((K0b 6).filter λk=>S.testBit k).all (λone=>decide (z4o A S (S &&& z31 A (z07 [one]))=S))&&B.all λp=>!(decide (0<S &&& p.1)&&decide (S &&& p.2=0))
def z3G(mk:List (List Str))(s:Str):Nat:=z07 ((K0b mk.length).filter λk=>bear s mk k)
def z0J(mk:List (List Str))(ws:List (Str×Str)):List (Nat×Nat):=ws.map λw=>(z3G mk w.1,z3G mk w.2)
def z1E(A:List Nat)(B:List (Nat×Nat))(most:Nat):List Nat:=(K6u 1 (most - 1)).filter (z3d A B)
def z2E(R:List Nat)(V:Nat):Nat:=R.foldl (λg S=>if S &&& V=S then g ||| S else g) 0
theorem zf3{V x:Nat}:∀{R:List Nat}{g:Nat},(R.foldl (λg S=>if S &&& V=S then g ||| S else g) g).testBit x=true↔g.testBit x=true\/∃S∈R,S &&& V=S/\S.testBit x=true
 | [],g=>by simp
 | a::R,g=>by
  rw[K4q,zf3];constructor
  ·rintro(h|⟨S,h1,h2⟩)
   ·split at h
    ·rename_i e;rw[K6e,K2h]at h;rcases h with h|h
     ·exact .inl h
     ·exact .inr ⟨a,by simp,e,h⟩
    ·exact .inl h
   ·exact .inr ⟨S,by simp[h1],h2⟩
  ·rintro(h|⟨S,h1,h2,h3⟩)
   ·left;split
    ·rw[K6e,h];rfl
    ·exact h
   ·rcases K0l.mp h1 with rfl|h1
    ·left;rw[if_pos h2,K6e,h3,Bool.or_true]
    ·exact .inr ⟨S,h1,h2,h3⟩
theorem sub_and{S V:Nat}:S &&& V=S↔∀x,S.testBit x=true->V.testBit x=true:=by
 constructor
 ·intro h x hx;rw[<- h,K4r,K0e]at hx;exact hx.2
 ·intro h;refine K54 λx=>?_;rw[K4r,K0n,K0e];exact⟨λz=>z.1,λz=>⟨z,h x z⟩⟩
theorem bear_bit{s:Str}{k:Nat}:(z3G mk s).testBit k=true↔k<mk.length/\bear s mk k=true:=by
 unfold z3G;rw[z0S,.(i),K08,K13]
section
variable{S:Nat}
theorem z6U(l3:mk.length=st.length)(n5:st.length<=5)(hS:∀x,S.testBit x=true->x<st.length)(pos:0<S):z3d (J0 st) (z0J mk ws) S=true↔GR st mk ws λx=>S.testBit x=true:=by
 have go:∀one,S.testBit one=true->((z4o (J0 st) S (S &&& z31 (J0 st) (z07 [one]))=S)↔∀x,S.testBit x=true->Pt st (λx=>S.testBit x=true) x one):=λone h1=>by
  have gb:∀x,(S &&& z31 (J0 st) (z07 [one])).testBit x=true↔S.testBit x=true/\one∈nx st x:=λx=>by
   rw[K4r,K0e,z8q];constructor
   ·rintro⟨a,_,y,b,c⟩;rw[z0S,.(i),K0q]at c;exact⟨a,c ▸ b⟩
   ·rintro⟨a,b⟩;exact⟨a,hS x a,one,b,by rw[z0S];simp⟩
  have hg:∀x,(S &&& z31 (J0 st) (z07 [one])).testBit x=true->x<st.length:=λx hx=>hS x ((gb x).mp hx).1;have to:∀x,Ub st (z1K .(n) S) (z1K .(n) (S &&& z31 (J0 st) (z07 [one]))) x->Pt st (λx=>S.testBit x=true) x one:=λx u=>by
   induction u with
   | goal h=>
    obtain⟨a,b⟩:=(gb _).mp (bits_mem.mp h).2;exact .one a h1 b
   | step a b _ ih=>exact .cons (bits_mem.mp a).2 b ih
  have back:∀x,Pt st (λx=>S.testBit x=true) x one->Ub st (z1K .(n) S) (z1K .(n) (S &&& z31 (J0 st) (z07 [one]))) x:=λx p=>by
   induction p with
   | one a b c=>exact .goal (bits_mem.mpr ⟨hS _ a,(gb _).mpr ⟨a,c⟩⟩)
   | cons a b _ ih=>exact .step (bits_mem.mpr ⟨hS _ a,a⟩) b (ih h1 gb hg to)
  constructor
  ·intro e x hx;rw[<- e]at hx;exact to x ((z5F hg).mp hx)
  ·intro h;refine K54 λx=>?_;rw[K0n,z5F hg];exact⟨λu=>(to x u).fst,λhx=>back x (h x hx)⟩
 unfold z3d;rw[K0e,K1t,K1t];constructor
 ·rintro⟨h1,h2⟩;refine⟨K6z .(0),λx y hx hy=>?_,λw hw ⟨x,hx,bx⟩=>?_⟩
  ·have:=h1 y (K08.mpr ⟨K13.mpr (by have:=hS y hy;omega),hy⟩);rw[.(i)]at this;exact(go y hy).mp this x hx
  ·have:=h2 (z3G mk w.1,z3G mk w.2) (K1a.mpr ⟨w,hw,rfl⟩);have p1:0<S &&& z3G mk w.1:=K9w.mpr (and_ne.mpr ⟨x,hx,bear_bit.mpr ⟨by rw[l3];exact hS x hx,bx⟩⟩);rw[decide_eq_true p1,Z1i,K41,decide_eq_false_iff_not]at this;obtain⟨y,y1,y2⟩:=and_ne.mp this;exact⟨y,y1,(bear_bit.mp y2).2⟩
 ·intro g;refine⟨λone h=>?_,λp hp=>?_⟩
  ·have h1:=(K08.mp h).2;rw[.(i)];exact(go one h1).mpr λx hx=>g.rn x one hx h1
  ·obtain⟨w,hw,rfl⟩:=K1a.mp hp;by_cases c:0<S &&& z3G mk w.1
   ·obtain⟨x,x1,x2⟩:=and_ne.mp (K9w.mp c);obtain⟨y,y1,y2⟩:=g.wi w hw ⟨x,x1,(bear_bit.mp x2).2⟩;have:S &&& z3G mk w.2≠0:=and_ne.mpr ⟨y,y1,bear_bit.mpr ⟨by rw[l3];exact hS y y1,y2⟩⟩;rw[.(k) this,K7e];rfl
   ·rw[.(k) c];rfl
theorem zm9{V:List Nat}(l3:mk.length=st.length)(n5:st.length<=5)(Vr:V.Pairwise (·<·))(Vl:∀x∈V,x<st.length){x:Nat}:
 (z4o (J0 st) (z07 V) (z2E (z1E (J0 st) (z0J mk ws) (2 ^ .(n))) (z07 V))).testBit x=true↔Ub st V (gl st mk ws V) x:=by
 have low:∀{S:Nat},S<2 ^ .(n)->∀x,S.testBit x=true->x<st.length:=λ{S} hS x hx=>by
  rcases K55 x st.length with h|h
  ·exact h
  ·rw[Nat.testBit_lt_two_pow (K10 hS (K6y .(1) h))]at hx;cases hx
 have gb:∀x,(z2E (z1E (J0 st) (z0J mk ws) (2 ^ .(n))) (z07 V)).testBit x=true↔Goal st mk ws V x:=λx=>by
  unfold z2E;rw[zf3,K8k];constructor
  ·rintro(h|⟨S,h1,h2,h3⟩)
   ·cases h
   ·obtain⟨a,b⟩:=K08.mp h1;rw[List.mem_range'_1]at a;have hS:S<2 ^ st.length:=by omega
    refine⟨λx=>S.testBit x=true,(z6U l3 n5 (low hS) .(0)).mp b,λy hy=>?_,h3⟩;have:=sub_and.mp h2 y hy;rwa [z0S,.(i)]at this
  ·rintro⟨T,g,hV,hx⟩;right;obtain⟨S,eS⟩:∃S,S=z07 (V.filter λx=>@decide (T x) (K4i _)):=⟨_,rfl⟩;have bt:∀y,S.testBit y=true↔T y:=λy=>by
    rw[eS,z0S,.(i),K08,@decide_eq_true_eq _ (K4i _)];exact⟨λz=>z.2,λz=>⟨hV y z,z⟩⟩
   have e:(λx=>S.testBit x=true)=T:=funext λy=>propext (bt y);have lowS:∀y,S.testBit y=true->y<st.length:=λy hy=>Vl y (hV y ((bt y).mp hy));have lt:S<2 ^ st.length:=Nat.lt_pow_two_of_testBit _ λi hi=>by
    cases c:S.testBit i with
    | false=>rfl
    | true=>have:=lowS i c;omega
   have pos:0<S:=K9w.mpr λz=>by
    have:=(bt x).mpr hx;rw[z,K8k]at this;cases this
   refine⟨S,K08.mpr ⟨List.mem_range'_1.mpr .(0),(z6U l3 n5 lowS pos).mpr (by rw[e];exact g)⟩,sub_and.mpr λy hy=>?_,(bt x).mpr hx⟩;rw[z0S,.(i)];exact hV y ((bt y).mp hy)
 have hg:∀x,(z2E (z1E (J0 st) (z0J mk ws) (2 ^ .(n))) (z07 V)).testBit x=true->x<st.length:=λx hx=>by
  obtain⟨T,_,hV,h⟩:=(gb x).mp hx;exact Vl x (hV x h)
 rw[z5F hg];have e1:z1K .(n) (z07 V)=V:=z3j (K50 _ K4n) Vr λy=>by
  rw[bits_mem,z0S,.(i)];exact⟨λz=>z.2,λz=>⟨Vl y z,z⟩⟩
 rw[e1];exact⟨Ub.mono λy hy=>gl_mem.mpr ((gb y).mp (bits_mem.mp hy).2),Ub.mono λy hy=>bits_mem.mpr ⟨hg y ((gb y).mpr (gl_mem.mp hy)),(gb y).mpr (gl_mem.mp hy)⟩⟩
end
theorem zC2(a n:Nat):zG7 (a:Nat) n=stD (K6u a n):=by
 unfold zG7 stD;rw[List.range'_eq_map_range,K1q];refine K5e λk _=>?_;simp
theorem Z0m(ea:ma γ h=.ok (.int (a:Nat)) h)(eb:mb γ h=.ok (.int (b:Nat)) h)(ha:a<=1000)(hb:b<=1000):z4p ma mb γ h=.ok (.con (stD (K6u a (b - a)))) h:=by
 unfold z4p;rw[M.bind_ok ea,M.bind_ok eb];dsimp only;rw[if_pos (by unfold okR;rw[decide_eq_true (show -(2 ^ 62)<=((a:Nat):Int) by omega),decide_eq_true (show ((a:Nat):Int)<2 ^ 62 by omega),decide_eq_true (show -(2 ^ 62)<=((b:Nat):Int) by omega),decide_eq_true (show ((b:Nat):Int)<2 ^ 62 by omega)];rfl)];rw[show ((b:Int) - (a:Int)).toNat=b - a by omega];rw[zC2];rfl
theorem zS8(e:me γ=pure (.int (x:Nat)))(hx:x<6):clE (e2 fIx (eLst (z7 .(2) .(m))) me) γ h=.ok (.int ((2 ^ x:Nat):Int)) h:=by
 refine z05 (j:=[.lst [.int 1,.int 2,.int 4,.int 8,.int 16,.int 32]]) (e2_h (h1:=h++[.lst [.int 1,.int 2,.int 4,.int 8,.int 16,.int 32]]) (x:=.ref .(h)) rfl (by rw[e];rfl) (ix_h J6 (z0w ?_))) rfl;obtain rfl|rfl|rfl|rfl|rfl|rfl:x=0\/x=1\/x=2\/x=3\/x=4\/x=5:=by omega
 all_goals rfl
theorem Z0A(e:me γ (h++[.lst [.int 2,.int 4,.int 8,.int 16,.int 32,.int 64]])=.ok (.int (x:Nat)) (h++[.lst [.int 2,.int 4,.int 8,.int 16,.int 32,.int 64]]))(hx:x<6):clE (e2 fIx (eLst (z7 (λ_=>pure (.int 2)) (z7 (λ_=>pure (.int 4)) (z7 (λ_=>pure (.int 8)) (z7 (λ_=>pure (.int 16)) (z7 (λ_=>pure (.int 32)) (z7 (λ_=>pure (.int 64)) aNil))))))) me) γ h=.ok (.int ((2 ^ (x+1):Nat):Int)) h:=by
 refine z05 (j:=[.lst [.int 2,.int 4,.int 8,.int 16,.int 32,.int 64]]) (e2_h (h1:=h++[.lst [.int 2,.int 4,.int 8,.int 16,.int 32,.int 64]]) (x:=.ref .(h)) rfl e (ix_h J6 (z0w ?_))) rfl;obtain rfl|rfl|rfl|rfl|rfl|rfl:x=0\/x=1\/x=2\/x=3\/x=4\/x=5:=by omega
 all_goals rfl
theorem z5a:fAnd (.int (a:Nat)) (.int (b:Nat))=pure (.int ((a &&& b:Nat):Int)):=by
 show pure (D.int (K12 (a:Int) (b:Int)))=_;rw[zr6]
theorem zE9:fBor (.int (a:Nat)) (.int (b:Nat))=pure (.int ((a ||| b:Nat):Int)):=by
 show pure (D.int (K6r (a:Int) (b:Int)))=_;rw[zK9]
theorem z6O(hd:d=.tup (stD l)\/∃i,d=.ref i/\h[i]?=.(l (stD l)))(hl:∀x∈l,x<6):z09 [d] h=.ok (.int (z07 l:Nat)) h:=by
 refine z53 (z2G ?_) rfl;show W (z27 [some d,none,none]) h _;unfold z27;refine z9w (.int (0:Nat)) [some d,.(i (0:Nat)),none] rfl rfl ?_;obtain⟨src,es,ei,eg⟩:∃src:Src,orE (z0o .(g)) (z0p .(g)) [some d,.(i (0:Nat)),none] h=.ok src h/\src.items=stD l/\src.good h:=by
  rcases hd with rfl|⟨i,rfl,e⟩
  ·exact⟨_,Z0i .(d),rfl,trivial⟩
  ·exact⟨_,zN0 .(d) e,rfl,e⟩
 refine z1r (λγ h1=>∃w,γ=[some d,.(i (z07 l:Nat)),w]/\h1=h) ?_ ?_
 ·refine z0g (λc γ h1=>∃w,γ=[some d,.(i ((z07 (l.take c):Nat))),w]/\h1=h) (λ_ _=>False) ?_;refine W_of es ⟨⟨none,rfl,rfl⟩,λ_ _ _ ⟨_,_,e⟩=>e ▸ eg,?_,?_,λ_ _ f=>f.elim⟩
  ·rintro c d' γ h1 hd' ⟨w,rfl,rfl⟩;rw[ei]at hd';obtain⟨x,rfl,ex⟩:=z3b hd';refine W.of (a:=[some d,.(i ((z07 (l.take c):Nat))),.(i (x:Nat))]) rfl ?_;refine J8 (.int (z07 (l.take (c+1)):Nat)) [some d,.(i ((z07 (l.take (c+1)):Nat))),.(i (x:Nat))] (e2_h .(d) (zS8 (x:=x) rfl (hl x (K0d ex))) (by
    rw[zE9,K31,ex];show _=Res.ok (D.int (z07 (l.take c++[x]):Nat)) _;rw[zj6];rfl)) rfl (w6 ⟨_,rfl,rfl⟩)
  ·rintro γ h1 ⟨w,rfl,rfl⟩;exact⟨w,by rw[ei,Z9,K1g],rfl⟩
 ·rintro γ h1 ⟨w,rfl,rfl⟩;exact Y2 (.int (z07 l:Nat)) .(d) ⟨rfl,rfl⟩
theorem set_h:z2u [.int (m:Nat)] h=.ok (.tup (stD ((K0b 6).filter λk=>m.testBit k))) h:=by
 refine z53 (z2G ?_) (z0K _);show W (z2y [.(i (m:Nat)),none]) h _;unfold z2y;have c:=z25 (cap:=[some 0,none]) (mi:=Y4 (λ_=>pure (.int 6))) (g:=gN 1) (kb:=λγ=>do let d <- e2 (fEq false) (e2 fMod (e2 fDiv .(g) (clE (e2 fIx (eLst (z7 .(2) .(m))) .(l)))) (λ_=>pure (.int 2))) .(2) γ;asB d) (me:=eVar 1) (γ:=[.(i (m:Nat)),none]) (h:=h) (src:=.con (J9 6)) (l:=K0b 6) (λk=>m.testBit k) (λk=>.int k) (z0b rfl .(0)) (z7I 6) (λ_=>trivial) .(e) λx hx=>⟨[.(i (m:Nat)),.(i (x:Nat))],λ_=>rfl,λj=>by
  rw[K13]at hx;have px:0<2 ^ x:=Nat.pow_pos .(1);have p6:2 ^ x<=2 ^ 6:=K6y .(1) .(0);refine cb_h (e2_h (e2_h (e2_h .(d) (zS8 (x:=x) rfl hx) (by rw[zW1 px .(0)];rfl)) (y:=.int (2:Nat)) rfl (by rw[zR1 .(1)];rfl)) (y:=.int (1:Nat)) rfl ?_);rw[z4C,Nat.testBit_eq_decide_div_mod_eq];show Res.ok _ _=_;congr 2;rw[K27,K0n,.(i),.(i)];exact K5m,λ_ j=>rfl⟩
 exact Y2 _ (z5T c (z15 _)) ⟨rfl,rfl⟩
theorem zJ6(e:h[a]?=.(l (stD A))):fLen [.ref a] h=.ok (.int (A.length:Nat)) h:=by rw[zJ2 e,Z9]
theorem zc2{g:Nat}(e:h[a]?=.(l (stD A)))(l6:A.length<=6):z24 [.ref a,.int (g:Nat)] h=.ok (.int (z31 A g:Nat)) h:=by
 have c:=z25 (cap:=[some 0,some 1,none]) (mi:=Y4 (Z8 fLen (z7 .(g) aNil))) (g:=gN 2) (kb:=λγ=>do let d <- e2 fGt (e2 fAnd (e2 fIx .(g) .(t)) .(l)) .(8) γ;asB d) (me:=eVar 2) (γ:=[.(r a),.(i (g:Nat))]) (h:=h) (src:=.con (J9 A.length)) (l:=K0b A.length) (λk=>decide (0<(A[k]?).getD 0 &&& g)) (λk=>.int k) (z0b (y9 .(d) (zJ6 e)) .(0)) (z7I _) (λ_=>trivial) (by simp;omega) λx hx=>⟨[.(r a),.(i (g:Nat)),.(i (x:Nat))],λ_=>rfl,λj=>by
  rw[K13]at hx;refine cb_h (e2_h (e2_h (e2_h .(d) .(d) (ix_h (d:=.int ((A[x]?).getD 0:Nat)) (j9 e) (z0w (by unfold stD;rw[K0a,K8 hx];rfl)))) .(d) (by rw[z5a];rfl)) (y:=.int (0:Nat)) rfl ?_);rw[z7O];show Res.ok _ _=_;congr 2;rw[K0n,.(i),.(i)];exact Int.ofNat_lt,λ_ j=>rfl⟩
 refine z05 (j:=[.lst (stD ((K0b A.length).filter λk=>decide (0<(A[k]?).getD 0 &&& g)))]) (z2G ?_) rfl;show W (z1V [.(r a),.(i (g:Nat))]) h _;unfold z1V;exact Y2 (.int (z31 A g:Nat)) (fn_h (ds:=[.ref .(h)]) (ac_h c rfl) rfl (z6O (.inr ⟨_,rfl,J6⟩) λx hx=>by have:=K13.mp (K08.mp hx).1;omega)) ⟨rfl,rfl⟩
theorem zx4{w g:Nat}(e:h[a]?=.(l (stD A)))(l6:A.length<=6):z1R [.ref a,.int (w:Nat),.int (g:Nat)] h=.ok (.int (z4o A w g:Nat)) h:=by
 refine z53 (z2G ?_) rfl;show W (z29 [.(r a),.(i (w:Nat)),.(i (g:Nat)),none,none]) h _;unfold z29;refine z9w (.int (g:Nat)) [.(r a),.(i (w:Nat)),.(i (g:Nat)),.(i (g:Nat)),none] rfl rfl ?_;refine z1r (λγ h1=>∃v,γ=[.(r a),.(i (w:Nat)),.(i (g:Nat)),.(i (z4o A w g:Nat)),v]/\h1=h) ?_ ?_
 ·refine z0g (λc γ h1=>∃v,γ=[.(r a),.(i (w:Nat)),.(i (g:Nat)),.(i (z01 A w g c:Nat)),v]/\h1=h) (λ_ _=>False) ?_;refine W_of (z0b (y9 .(d) (zJ6 e)) .(0)) ⟨⟨none,rfl,rfl⟩,λ_ _ _ _=>trivial,?_,?_,λ_ _ f=>f.elim⟩
  ·rintro c d γ h1 hd ⟨v,rfl,rfl⟩;refine W.of (a:=[.(r a),.(i (w:Nat)),.(i (g:Nat)),.(i (z01 A w g c:Nat)),some d]) rfl ?_;exact J8 (.int (z01 A w g (c+1):Nat)) [.(r a),.(i (w:Nat)),.(i (g:Nat)),.(i ((z01 A w g (c+1):Nat))),some d] (e2_h .(d) (e2_h .(d) (fn_h (ds:=[.ref a,.int (z01 A w g c:Nat)]) (ac_h .(d) (ac_h .(d) rfl)) rfl (zc2 e l6)) (by rw[z5a];rfl)) (by rw[zE9];rfl)) rfl (w6 ⟨_,rfl,rfl⟩)
  ·rintro γ h1 ⟨v,rfl,rfl⟩;exact⟨v,by rw[show (Src.con (J9 A.length)).items.length=A.length by simp[Src.items,J9]];rfl,rfl⟩
 ·rintro γ h1 ⟨v,rfl,rfl⟩;exact Y2 _ .(d) ⟨rfl,rfl⟩
def pD(p:Nat×Nat):D:=.tup [.int (p.1:Nat),.int (p.2:Nat)]
section
variable{B:List (Nat×Nat)}
theorem zA4{S:Nat}(ea:h[a]?=.(l (stD A)))(eb:h[b]?=.(l (B.map pD)))(l6:A.length<=6):z1x [.ref a,.int (S:Nat),.ref b] h=.ok (.bl (z3d A B S)) h:=by
 have key:W (runF 6 z0Y [.ref a,.int (S:Nat),.ref b]) h λd h1=>d=.bl (z3d A B S)/\∃j,h1=h++j:=by
  refine z1L ?_;show W (z0Y [.(r a),.(i (S:Nat)),.(r b),none,none,none]) h _;unfold z0Y;obtain⟨L,eL⟩:∃L,L=(K0b 6).filter λk=>S.testBit k:=⟨_,rfl⟩;have l6L:∀x∈L,x<6:=λx hx=>by rw[eL]at hx;exact K13.mp (K08.mp hx).1
  let f:Nat->Bool:=λone=>decide (z4o A S (S &&& z31 A (z07 [one]))=S);let g:Nat×Nat->Bool:=λp=>!(decide (0<S &&& p.1)&&decide (S &&& p.2=0));have rb:z3d A B S=(L.all f&&B.all g):=by rw[eL];rfl
  rw[w_cons];refine z0g (λc γ h1=>∃v,γ=[.(r a),.(i (S:Nat)),.(r b),v,none,none]/\(∃j,h1=h++j)/\(L.take c).all f=true) (λd h1=>d=.bl (z3d A B S)/\∃j,h1=h++j) ?_;refine W_of (z1v (xs:=stD L) (fn_h (ds:=[.int (S:Nat)]) (ac_h .(d) rfl) rfl (by rw[set_h,eL]))) ⟨⟨none,rfl,⟨[],by simp⟩,rfl⟩,λ_ _ _ _=>trivial,?_,?_,λ_ _ z=>z⟩
  ·rintro c d γ h1 hd ⟨v,rfl,⟨j,rfl⟩,al⟩;obtain⟨x,rfl,ex⟩:=z3b (show (stD L)[c]?=some d from hd);refine W.of (a:=[.(r a),.(i (S:Nat)),.(r b),.(i (x:Nat)),none,none]) rfl ?_;have m1:eFn 1 z09 (z7 (eLst (z7 (eVar 3) aNil)) aNil) [.(r a),.(i (S:Nat)),.(r b),.(i (x:Nat)),none,none] (h++j)=.ok (.int (z07 [x]:Nat)) (h++j++[.lst (stD [x])]):=
    fn_h (h1:=h++j++[.lst (stD [x])]) (ds:=[.ref (h++j).length]) rfl rfl (z6O (.inr ⟨_,rfl,J6⟩) λy hy=>by rw[K0q]at hy;rw[hy];exact l6L x (K0d ex))
   have e1:(h++j++[O.lst (stD [x])])[a]?=.(l (stD A)):=j9 (j9 ea);refine Z0K (W_of (v:=!f x) (h1:=h++j++[.lst (stD [x])]) (cb_h (e2_h (fn_h (ds:=[.ref a,.int (S:Nat),.int (S &&& z31 A (z07 [x]):Nat)]) (ac_h .(d) (ac_h .(d) (ac_h (e2_h .(d) (fn_h (ds:=[.ref a,.int (z07 [x]:Nat)]) (ac_h .(d) (ac_h m1 rfl)) rfl (zc2 e1 l6)) (by rw[z5a];rfl)) rfl))) rfl (zx4 e1 l6)) .(d) (by
    rw[z8k,K5k];show Res.ok _ _=Res.ok (D.bl (!decide (z4o A S (S &&& z31 A (z07 [x]))=S))) _;congr 3;rw[K0n,.(i),.(i)];exact K5m))) ?_)
   cases fx:f x with
   | true=>
    rw[K6s,if_neg .(1)];refine z0i (w6 ⟨_,rfl,⟨_,by rw[K7]⟩,?_⟩);rw[K31,ex,Z37,al];simp[fx]
   | false=>
    rw[K6c,if_pos rfl];refine z0M (Y2 (.bl false) rfl ⟨?_,_,by rw[K7]⟩);have:L.all f=false:=Z1y.mpr ⟨x,K0d ex,by rw[fx];decide⟩;rw[rb,this];rfl
  ·rintro γ h1 ⟨v,rfl,⟨j,rfl⟩,al⟩;rw[show (Src.con (stD L)).items.length=L.length from Z9 L,K1g]at al;show W _ _ _;rw[w_cons];refine z0g (λc γ h1=>∃v5 v6,γ=[.(r a),.(i (S:Nat)),.(r b),v,v5,v6]/\h1=h++j/\(B.take c).all g=true) (λd h1=>d=.bl (z3d A B S)/\∃j,h1=h++j) ?_;refine W_of (z2K .(d) (j9 eb)) ⟨⟨_,_,rfl,rfl,rfl⟩,?_,?_,?_,λ_ _ z=>z⟩
   ·rintro c γ h1 ⟨v5,v6,rfl,rfl,_⟩;exact j9 eb
   ·rintro c d γ h1 hd ⟨v5,v6,rfl,rfl,al2⟩;have hd:(B.map pD)[c]?=some d:=hd;rw[K0a]at hd;obtain⟨⟨x,y⟩,ep,rfl⟩:=K11.mp hd;refine W_eq (v:=[.(r a),.(i (S:Nat)),.(r b),v,.(i (x:Nat)),.(i (y:Nat))]) (by unfold pD;simp only[K6,K06,K05,K04,K0g,z08,z0y,gN,z3x,gT,if_true]) ?_;have c1:(λγ=>do let d <- e2 fGt (e2 fAnd .(l) (eVar 4)) .(8) γ;asB d:G->M Bool) [.(r a),.(i (S:Nat)),.(r b),v,.(i (x:Nat)),.(i (y:Nat))] (h++j)=.ok (decide (0<S &&& x)) (h++j):=cb_h (e2_h (e2_h .(d) .(d) (by rw[z5a];rfl)) (y:=.int (0:Nat)) rfl (by
     rw[z7O];show Res.ok _ _=_;congr 2;rw[K0n,.(i),.(i)];exact Int.ofNat_lt))
    have c2:(λγ=>do let d <- e2 (fEq false) (e2 fAnd .(l) (eVar 5)) .(8) γ;asB d:G->M Bool) [.(r a),.(i (S:Nat)),.(r b),v,.(i (x:Nat)),.(i (y:Nat))] (h++j)=.ok (decide (S &&& y=0)) (h++j):=cb_h (e2_h (e2_h .(d) .(d) (by rw[z5a];rfl)) (y:=.int (0:Nat)) rfl (by
     rw[z4C,K27];show Res.ok _ _=_;congr 2;rw[K0n,.(i),.(i)];exact K5m))
    refine z1j (decide (0<S &&& x)&&decide (S &&& y=0)) (by
     cases k:decide (0<S &&& x) with
     | true=>rw[k]at c1;rw[z7A c1];exact c2
     | false=>rw[k]at c1;exact z7r c1) ?_
    cases k:(decide (0<S &&& x)&&decide (S &&& y=0)) with
    | true=>
     rw[if_pos rfl];refine z0M (Y2 (.bl false) rfl ⟨?_,_,rfl⟩);have:B.all g=false:=Z1y.mpr ⟨(x,y),K0d ep,by show ¬ (!(decide (0<S &&& x)&&decide (S &&& y=0)))=true;rw[k];decide⟩;rw[rb,this,K7e]
    | false=>
     rw[if_neg .(1)];refine z0i (w6 ⟨_,_,rfl,rfl,?_⟩);rw[K31,ep,Z37,al2];show (true&&((!(decide (0<S &&& x)&&decide (S &&& y=0)))&&true))=true;rw[k];rfl
   ·rintro γ h1 ⟨v5,v6,rfl,rfl,al2⟩;rw[show (Src.lst b (B.map pD)).items.length=B.length by simp[Src.items],K1g]at al2;exact Y2 (.bl true) rfl ⟨by rw[rb,al,al2];rfl,_,rfl⟩
 obtain⟨d,h1,e,rfl,j,rfl⟩:=key;exact z05 e rfl
theorem zf4(ea:h[a]?=.(l (stD A)))(eb:h[b]?=.(l (B.map pD)))(l1:1<=A.length)(l6:A.length<=6):z22 [.ref a,.ref b] h=.ok (.ref h.length) (h++[.lst (stD (z1E A B (2 ^ A.length)))]):=by
 have p6:2 ^ A.length<=2 ^ 6:=K6y .(1) l6;have p0:0<2 ^ A.length:=Nat.pow_pos .(1);have two:=Z0A (h:=h) (γ:=[.(r a),.(r b),none]) (me:=e2 fSub (Z8 fLen (z7 .(g) aNil)) .(2)) (x:=A.length - 1) (e2_h (y9 .(d) (zJ6 (j9 ea))) (y:=.int (1:Nat)) rfl (by
  show Res.ok (D.int (((A.length:Nat):Int) - ((1:Nat):Int))) _=_;congr 2;omega)) .(0)
 rw[show A.length - 1+1=A.length by omega]at two;generalize 2 ^ A.length=N at *;refine z4I (i:=.(h)) (j:=[.lst (stD (z1E A B N))]) (z2G ?_) (K01 _) J6 (z15 _);show W (z1e [.(r a),.(r b),none]) h _;unfold z1e;refine J8 (.int (N:Nat)) [.(r a),.(r b),.(i (N:Nat))] (h1:=h) two rfl ?_;have c:=z25 (cap:=[some 0,some 1,none]) (mi:=z4p .(2) .(t)) (g:=gN 2) (kb:=cVal (eFn 3 z1x (z7 .(g) (z7 .(t) (z7 .(l) aNil))))) (me:=eVar 2) (γ:=[.(r a),.(r b),.(i (N:Nat))]) (h:=h) (src:=.con (stD (K6u 1 (N - 1)))) (l:=K6u 1 (N - 1)) (z3d A B) (λk=>.int k) (Z0m (a:=1) (b:=N) rfl rfl .(1) .(0)) rfl (λ_=>trivial) (by rw[List.length_range'];omega) λx hx=>⟨[.(r a),.(r b),.(i (x:Nat))],λ_=>rfl,λj=>cv_h (fn_h (ds:=[.ref a,.int (x:Nat),.ref b]) (ac_h .(d) (ac_h .(d) (ac_h .(d) rfl))) rfl (zA4 (j9 ea) (j9 eb) l6)),λ_ j=>rfl⟩;exact Y2 (.ref .(h)) c ⟨rfl,rfl⟩
theorem zT1{r V:Nat}{R:List Nat}(ea:h[a]?=.(l (stD A)))(er:h[r]?=.(l (stD R)))(l6:A.length<=6):z2V [.ref a,.ref r,.int (V:Nat)] h=.ok (.int (z4o A V (z2E R V):Nat)) h:=by
 refine z53 (z2G ?_) rfl;show W (z1P [.(r a),.(r r),.(i (V:Nat)),none,none]) h _;unfold z1P;refine z9w (.int (0:Nat)) [.(r a),.(r r),.(i (V:Nat)),.(i (0:Nat)),none] rfl rfl ?_;refine z1r (λγ h1=>∃v,γ=[.(r a),.(r r),.(i (V:Nat)),.(i (z2E R V:Nat)),v]/\h1=h) ?_ ?_
 ·refine z0g (λc γ h1=>∃v,γ=[.(r a),.(r r),.(i (V:Nat)),.(i ((z2E (R.take c) V:Nat))),v]/\h1=h) (λ_ _=>False) ?_;refine W_of (z2K .(d) er) ⟨⟨none,rfl,rfl⟩,λ_ _ _ ⟨_,_,e⟩=>e ▸ er,?_,?_,λ_ _ f=>f.elim⟩
  ·rintro c d γ h1 hd ⟨v,rfl,rfl⟩;obtain⟨x,rfl,ex⟩:=z3b (show (stD R)[c]?=some d from hd);refine W.of (a:=[.(r a),.(r r),.(i (V:Nat)),.(i ((z2E (R.take c) V:Nat))),.(i (x:Nat))]) rfl ?_;have nxt:z2E (R.take (c+1)) V=if x &&& V=x then z2E (R.take c) V ||| x else z2E (R.take c) V:=by
    rw[K31,ex];unfold z2E;rw[K6g];rfl
   refine z1j (decide (x &&& V=x)) (cb_h (e2_h (e2_h .(d) .(d) (by rw[z5a];rfl)) .(d) (by
    rw[z8k,K27];show Res.ok _ _=_;congr 2;rw[K0n,.(i),.(i)];exact K5m))) ?_
   by_cases k:x &&& V=x
   ·rw[decide_eq_true k,if_pos rfl];rw[if_pos k]at nxt;refine z0M (J8 (.int (z2E (R.take (c+1)) V:Nat)) [.(r a),.(r r),.(i (V:Nat)),.(i ((z2E (R.take (c+1)) V:Nat))),.(i (x:Nat))] (e2_h .(d) .(d) (by rw[zE9,nxt];rfl)) rfl (z0i (w6 ⟨_,rfl,rfl⟩)))
   ·rw[.(k) k,if_neg .(1)];rw[if_neg k]at nxt;rw[nxt];exact z0i (w6 ⟨_,rfl,rfl⟩)
  ·rintro γ h1 ⟨v,rfl,rfl⟩;exact⟨v,by rw[show (Src.lst r (stD R)).items.length=R.length from Z9 R,K1g],rfl⟩
 ·rintro γ h1 ⟨v,rfl,rfl⟩;exact Y2 _ (fn_h (ds:=[.ref a,.int (V:Nat),.int (z2E R V:Nat)]) (ac_h .(d) (ac_h .(d) (ac_h .(d) rfl))) rfl (zx4 ea l6)) ⟨rfl,rfl⟩
theorem z8m{s:Str}(m6:mk.length<=6):z1s [maD st mk,.str s] h=.ok (.int (z3G mk s:Nat)) h:=by
 have c:=z25 (cap:=[some 1,some 0,none]) (mi:=Y4 (Z8 fLen (z7 (e2 fIx .(g) .(2)) aNil))) (g:=gN 2) (kb:=cOr (λγ=>do let d <- e2 (fEq false) .(g) (λ_=>pure (.str "")) γ;asB d) (λγ=>do let d <- e2 (fIn false) .(g) (e2 fIx (e2 fIx .(l) .(2)) .(t)) γ;asB d)) (me:=eVar 2) (γ:=[some .(a),.(s s)]) (h:=h) (src:=.con (J9 mk.length)) (l:=K0b mk.length) (λk=>bear s mk k) (λk=>.int k) (z0b (y9 (e2_h .(d) (y:=.int 1) rfl (by rw[zj5];rfl)) (by rw[z1D,z9P];rfl)) .(0)) (z7I _) (λ_=>trivial) (by simp;omega) λx hx=>⟨[.(s s),some .(a),.(i (x:Nat))],λ_=>rfl,λj=>by
  rw[K13]at hx;by_cases q:s = ""
  ·subst q;exact zP0 rfl
  ·have c1:(λγ=>do let d <- e2 (fEq false) .(g) (λ_=>pure (.str "")) γ;asB d:G->M Bool) [.(s s),some .(a),.(i (x:Nat))] (h++j)=.ok false (h++j):=cb_h (e2_h .(d) (y:=.str "") rfl (by rw[z9n,.(k) q];rfl));rw[zV4 c1];refine cb_h (Z0E hx _ 0 1 2 _ rfl rfl rfl |>.trans ?_);unfold bear;rw[.(k) q,K87],λ_ j=>rfl⟩
 refine z05 (j:=[.lst (stD ((K0b mk.length).filter λk=>bear s mk k))]) (z2G ?_) rfl;show W (z1t [some .(a),.(s s)]) h _;unfold z1t;exact Y2 (.int (z3G mk s:Nat)) (fn_h (ds:=[.ref .(h)]) (ac_h c rfl) rfl (z6O (.inr ⟨_,rfl,J6⟩) λx hx=>by have:=K13.mp (K08.mp hx).1;omega)) ⟨rfl,rfl⟩
end
theorem zI6:∀x y:List Nat,D.tup (stD x)=D.tup (stD y)->x=y:=λx y e=>by
 have e1:stD x=stD y:=by injection e
 have:=congrArg z4G e1;rw[z4c,z4c]at this;have e2:zN x=zN y:=K0y this;have e3:=congrArg (List.map K9t) e2;unfold zN at e3;rw[K1q,K1q,show (K9t ∘ λ(i:Nat)=>(i:Int))=id from funext λi=>rfl,Z2y,Z2y]at e3;exact e3
theorem zy5:∀v w,wD v=wD w->v=w:=by
 rintro⟨a,b⟩ ⟨c,d⟩ e;cases e;rfl
theorem Z0I{h:AH}{V u:List Nat}(q:MA st mk)(n5:st.length<=5)(Vr:V.Pairwise (·<·))(Vl:∀x∈V,x<st.length)(hw:ws.length<=1000)(ul:UL st V (gl st mk ws V) u):
 z3E [maD st mk,.tup (stD V),.tup (ws.map wD)] h=.ok (.tup (stD (x9 u))) h:=by
 have l3:=q.l3;have l1:=q.l1;refine z05 (j:=[.lst (stD (J0 st)),.lst ((z0J mk ws).map pD),.lst (stD (z1E (J0 st) (z0J mk ws) (2 ^ (J0 st).length)))]) (z2G ?_) (z0K _);show W (z2r [some .(a),.(g (stD V)),.(g (ws.map wD)),none,none]) h _;unfold z2r z2a;have rl:(J0 st).length=st.length:=by unfold J0;rw[K0c]
 obtain⟨k,ek⟩:∃k,k=h++[O.lst (stD (J0 st))]:=⟨_,rfl⟩;refine J8 (.ref h.length) [some .(a),.(g (stD V)),.(g (ws.map wD)),.(r h.length),none] (h1:=k) ((z3l (l:=st) (src:=.con (stsD st)) (h1:=h) (λr=>.tup (stD r)) zI6 (λ_=>true) (λr=>.int (z07 r:Nat)) (z1v (e2_h .(d) (y:=.int 0) rfl (by rw[z36];rfl))) rfl (λ_=>trivial) .(0) λr hr=>⟨[.(g (stD r))],λ_=>rfl,λ_=>rfl,λ_ j=>fn_h (ds:=[.tup (stD r)]) (ac_h .(d) rfl) rfl (z6O (.inl rfl) λx hx=>by have:=q.s2 r hr x hx;omega)⟩).trans (by rw[filter_tt,ek];unfold J0 stD;rw[K1q];rfl)) rfl ?_;have ea:k[.(h)]?=.(l ((stD (J0 st)))):=by rw[ek];exact J6
 have kl:k.length=h.length+1:=by rw[ek];simp
 refine J8 (.ref k.length) [some .(a),.(g (stD V)),.(g (ws.map wD)),.(r h.length),.(r k.length)] (h1:=k++[.lst ((z0J mk ws).map pD)]) ((z3l (l:=ws) (src:=.con (ws.map wD)) (h1:=k) wD zy5 (λ_=>true) (λw=>pD (z3G mk w.1,z3G mk w.2)) (z1v .(d)) rfl (λ_=>trivial) .(0) λw hw=>⟨[some .(a),.(s w.1),.(s w.2)],λ_=>by unfold wD;simp only[K1,K6,K06,K0p,K1u,K05,K04,K0g,K2t,z08,capG,z0y,gN,z3x,gT,reduceIte];rfl,λ_=>rfl,λ_ j=>z7Z (fn_h (ds:=[maD st mk,.str w.1]) (ac_h .(d) (ac_h .(d) rfl)) rfl (z8m .(0))) (fn_h (ds:=[maD st mk,.str w.2]) (ac_h .(d) (ac_h .(d) rfl)) rfl (z8m .(0)))⟩).trans (by rw[filter_tt];unfold z0J;rw[K1q];rfl)) rfl ?_;have e1:(k++[O.lst ((z0J mk ws).map pD)])[.(h)]?=.(l ((stD (J0 st)))):=j9 ea;have mk1:eFn 1 z09 (z7 .(l) aNil) [some .(a),.(g (stD V)),.(g (ws.map wD)),.(r .(h)),.(r k.length)] (k++[O.lst ((z0J mk ws).map pD)]++[.lst (stD (z1E (J0 st) (z0J mk ws) (2 ^ (J0 st).length)))])=.ok (.int (z07 V:Nat)) (k++[O.lst ((z0J mk ws).map pD)]++[.lst (stD (z1E (J0 st) (z0J mk ws) (2 ^ (J0 st).length)))]):=fn_h (ds:=[.tup (stD V)]) (ac_h .(d) rfl) rfl (z6O (.inl rfl) λx hx=>by have:=Vl x hx;omega);have ro:=fn_h (γ:=[some .(a),.(g (stD V)),.(g (ws.map wD)),.(r .(h)),.(r k.length)]) (h:=k++[O.lst ((z0J mk ws).map pD)]) (n:=2) (mr:=z7 (eVar 3) (z7 (eVar 4) aNil)) (ds:=[.ref .(h),.ref k.length]) (ac_h .(d) (ac_h .(d) rfl)) rfl (zf4 e1 J6 .(0) .(0));refine Y2 (h1:=k++[O.lst ((z0J mk ws).map pD)]++[.lst (stD (z1E (J0 st) (z0J mk ws) (2 ^ (J0 st).length)))]) (.tup (stD (x9 u))) (fn_h (ds:=[.int (z4o (J0 st) (z07 V) (z2E (z1E (J0 st) (z0J mk ws) (2 ^ (J0 st).length)) (z07 V)):Nat)]) (ac_h (fn_h (ds:=[.ref h.length,.ref (k++[O.lst ((z0J mk ws).map pD)]).length,.int (z07 V:Nat)]) (ac_h .(d) (ac_h ro (ac_h mk1 rfl))) rfl (zT1 (j9 e1) J6 .(0))) rfl) rfl (set_h.trans ?_)) ⟨rfl,by rw[ek];simp⟩;rw[rl];congr 4;refine z3j (K50 _ K4n) (z1I ul.nd) λy=>?_;rw[K08,K13,zm9 l3 n5 Vr Vl,sortN_mem,ul.iff];refine⟨λz=>z.2,λz=>⟨?_,z⟩⟩;have:=zW3 Vl (λx hx=>?_) z
 ·omega
 ·obtain⟨S,_,hV,hx⟩:=gl_mem.mp hx;exact Vl x (hV x hx)
def ze0(b0 b1:Int)(m:Nat):List Nat:=(K0b m).filter λ(i:Nat)=>decide (K12 ((if (i:Int) / 20=0 then b0 else b1) / 2 ^ ((i:Int) % 20).toNat) 1=1)
theorem zX5{b0 b1:Int}(e2':γ[2]?=some (.(i m)))(e7:γ[7]?=some (.(r z)))(hz:h[z]?=.(l [.int b0,.int b1]))(hm:m<=40):
 clE (Z8 y3 (z7 (z00 [some 7,none] (Y4 .(t)) (gN 1) (λγ=>do let d <- e2 (fEq false) (e2 fAnd (e2 fShr (e2 fIx .(g) (e2 fDiv .(l) (λ_=>pure (.int 20)))) (e2 fMod .(l) (λ_=>pure (.int 20)))) .(2)) .(2) γ;asB d) .(l)) aNil)) γ h=.ok (.tup (stD (ze0 b0 b1 m))) h:=by
 refine z5T ?_ (z15 _);refine(z2U (src:=.con (J9 m)) (λd=>match d with|.int t=>decide (K12 ((if t / 20=0 then b0 else b1) / 2 ^ (t % 20).toNat) 1=1)|_=>false) (λd=>d) (z0b (by unfold eVar;rw[e2'];rfl) .(0)) (λ_=>trivial) (by simp[Src.items,J9];omega) λd hd=>?_).trans ?_
 ·obtain⟨t,ht,et⟩:=K1o hd;obtain⟨e5,e6⟩:=z0V (show (J9 m)[t]?=some d by rw[<- et];exact K8 ht);subst e5;refine⟨[.(r z),.(i t)],λh=>by simp only[capG,K0p,K1u,e7,K2t];rfl,λj=>?_,λ_ j=>rfl⟩;have q2:atI [D.int b0,D.int b1] ((t:Int) / 20)=.(i ((if (t:Int) / 20=0 then b0 else b1))):=by
   have:(t:Int) / 20=0\/(t:Int) / 20=1:=by omega
   rcases this with q|q
   ·rw[q];rfl
   ·rw[q];rfl
  have q1:fIx (.ref z) (.int ((t:Int) / 20)) (h++j)=.ok (.int (if (t:Int) / 20=0 then b0 else b1)) (h++j):=ix_h (by rw[K0s (K02.mp hz).1];exact hz) q2;have q3:fDiv (.int t) (.int 20)=pure (.int ((t:Int) / 20)):=rfl;have q4:fMod (.int t) (.int 20)=pure (.int ((t:Int) % 20)):=rfl;have q5:∀x:Int,fShr (.int x) (.int ((t:Int) % 20))=pure (.int (x / 2 ^ ((t:Int) % 20).toNat)):=λx=>zy2 .(0);have an:∀x y:Int,fAnd (.int x) (.int y)=pure (.int (K12 x y)):=λ_ _=>rfl;simp only[FT.e2,eVar,K1,K2,bindM,pureM,q3,q1,q4,q5,an,z4C,z0A];simp
 ·rw[show (Src.con (J9 m)).items=J9 m from rfl,z4L];rfl
theorem zM2{wo:Int}(e1:γ[1]?=some (.(r i)))(e8:γ[8]?=some (.(i wo)))(hi:h[i]?=.(l (ns.map .str)))(hn:ns.length<=8):
 clE (Z8 y3 (z7 (Z8 z0f (z7 (z00 [some 1,some 8,none] (Y4 (Z8 fLen (z7 .(l) aNil))) (gN 2) (λγ=>do let d <- e2 (fEq false) (e2 fAnd (e2 fShr .(l) .(t)) .(2)) .(2) γ;asB d) (e2 fIx .(g) .(t))) aNil)) aNil)) γ h=.ok (.tup ((Y7 (pick ns λt=>decide (K12 (wo / 2 ^ t) 1=1))).map .str)) h:=by
 have pe:(((J9 ns.length).filter λd=>match d with|.int t=>decide (K12 (wo / 2 ^ t.toNat) 1=1)|_=>false).map λd=>match d with|.int t=>D.str ((ns[t.toNat]?).getD "")|_=>.non)=(pick ns λt=>decide (K12 (wo / 2 ^ t) 1=1)).map .str:=by
  rw[z4L];unfold pick;rw[K1q];rfl
 have lp:=zo4 ns λt=>decide (K12 (wo / 2 ^ t) 1=1);have c1:z00 [some 1,some 8,none] (Y4 (Z8 fLen (z7 .(l) aNil))) (gN 2) (λγ=>do let d <- e2 (fEq false) (e2 fAnd (e2 fShr .(l) .(t)) .(2)) .(2) γ;asB d) (e2 fIx .(g) .(t)) γ h=.ok (.ref .(h)) (h++[.lst ((pick ns λt=>decide (K12 (wo / 2 ^ t) 1=1)).map .str)]):=by
  refine(z2U (src:=.con (J9 ns.length)) (λd=>match d with|.int t=>decide (K12 (wo / 2 ^ t.toNat) 1=1)|_=>false) (λd=>match d with|.int t=>.str ((ns[t.toNat]?).getD "")|_=>.non) (z0b ?_ .(0)) (λ_=>trivial) (by simp[Src.items,J9];omega) λd hd=>?_).trans ?_
  ·refine y9 (d:=.ref i) (h1:=h) (by unfold eVar;rw[e1];rfl) ?_;rw[zJ2 hi,K0c]
  ·obtain⟨t,ht,et⟩:=K1o hd;obtain⟨e5,e6⟩:=z0V (show (J9 ns.length)[t]?=some d by rw[<- et];exact K8 ht);subst e5;refine⟨[.(r i),.(i wo),.(i t)],λh=>by simp only[capG,K0p,K1u,e1,e8,K2t];rfl,λj=>?_,λ_ j=>?_⟩
   ·have q5:fShr (.int wo) (.int t)=pure (.int (wo / 2 ^ (t:Int).toNat)):=zy2 .(0);have an:∀x y:Int,fAnd (.int x) (.int y)=pure (.int (K12 x y)):=λ_ _=>rfl;simp only[FT.e2,eVar,K1,K2,bindM,pureM,q5,an,z4C,z0A];simp
   ·have q2:atI (ns.map D.str) (t:Int)=.(s (((ns[t]?).getD ""))):=by
     refine z0w ?_;rw[K0a,K8 e6];rfl
    exact ix_h (by rw[K0s (K02.mp hi).1];exact hi) q2
  ·rw[show (Src.con (J9 ns.length)).items=J9 ns.length from rfl,pe]
 refine z05 (j:=[.lst ((pick ns λt=>decide (K12 (wo / 2 ^ t) 1=1)).map .str),.lst ((Y7 (pick ns λt=>decide (K12 (wo / 2 ^ t) 1=1))).map .str)]) ?_ (by simp only[J2];exact z0z _);refine y9 (y9 c1 (z7p (ss:=pick ns λt=>decide (K12 (wo / 2 ^ t) 1=1)) .(e) .(0))) ?_;rw[K7];exact z6v .(e)
theorem z77{k:Int}(p:PS h k r)(hk:k<700000)(e:r[i]?=.(l (ns.map .str)))(hn:ns.length<=8)(hg:NS ns)(z:∀st mk h',MA st mk->PS h' (k+203) r->Q .(a) h'):
 W (z0v [.ref 2,.ref (i+3)]) h Q:=by
 refine z9t p trivial ?_;refine z1L ?_;show W (z02 [.(r 2),.(r (i+3)),none,none,none,none,none,none,none]) h _;unfold z02;have i3:i<r.length:=zq2 e;refine z0r (λd h1=>∃t:Int,0<=t/\t<40/\d=.int (1+t)/\PS h1 (k+1) r) ?_ ?_
 ·simp only[K1,K6,K06,K0g,z0h,Z4,z0a,W_pure,z7,aNil,e2,eFn,eVar,if_true];refine x6 p .(0) .(1) .(1) λd h1 d0 d1 p1=>?_;rw[z1O,W_pure];exact⟨d,d0,d1,rfl,p1⟩
 rintro _ h1 ⟨t,t0,t1,rfl,p1⟩;refine z1r (λγ h=>∃m:Nat,1<=m/\m<=40/\γ=[.(r 2),.(r (i+3)),.(i m),none,none,none,none,none,none]/\PS h (k+2) r) ?_ ?_
 ·simp only[K1,K6,K06,K05,K04,K0g,z0h,Z4,z0a,W_pure,z7,aNil,e2,eFn,eVar,if_true,sIf,z3t];refine x6 p1 .(0) .(1) .(1) λd' h2 d0' d1' p2=>?_;rw[z4C,W_pure,z0A,W_pure];split
  ·rw[w_cons];simp only[K05,K04,Z4,W_pure,Y8,gN,sAsg,z3t];exact⟨40,by omega,by omega,rfl,p2.up .(0)⟩
  ·exact⟨(1+t).toNat,by omega,by omega,by rw[K5g .(0)],p2.up .(0)⟩
 rintro γ h2 ⟨m,m1,m2,rfl,p2⟩;refine z0r (λd h1=>∃t:Int,d=.int t/\PS h1 (k+3) r) ?_ ?_
 ·simp only[K1,K6,K06,K0g,z0h,Z4,z0a,W_pure,z7,aNil,eFn,eVar,if_true];refine x6 p2 .(0) .(1) .(1) λd h1 d0 d1 p1=>?_;exact⟨d,rfl,p1.up .(0)⟩
 rintro _ h3 ⟨dn,rfl,p3⟩;refine z0r (λd h1=>d=.ref (r.length+3)/\PS h1 (k+3) (r++[.lst (stsD [])])) ?_ ?_
 ·simp only[Z4,W_pure,aNil,eLst];exact z2I p3 .(1) λh4 p4=>⟨rfl,p4⟩
 rintro _ h4 ⟨rfl,p4⟩;refine z0r (λd h1=>d=.ref (r.length+1+3)/\PS h1 (k+3) (r++[.lst (stsD []),.lst (mksD [])])) ?_ ?_
 ·simp only[Z4,W_pure,aNil,eLst];exact z2I p4 .(1) λh5 p5=>⟨by simp,by rw[K7]at p5;exact p5⟩
 rintro _ h5 ⟨rfl,p5⟩;refine z1r (λγ h=>∃st mk w w7 w8 j,γ=[.(r 2),.(r (i+3)),.(i m),.(i dn),.(r (r.length+0+3)),.(r (r.length+1+3)),w,w7,w8]/\PS h (k+203) (r++(.lst (stsD st)::.lst (mksD mk)::j))/\.(n)=m/\mk.length=m/\AM st mk m) ?_ ?_
 ·refine z0X (λc γ h=>∃st mk w w7 w8 j,γ=[.(r 2),.(r (i+3)),.(i m),.(i dn),.(r (r.length+0+3)),.(r (r.length+1+3)),w,w7,w8]/\PS h (k+3+5 * c) (r++(.lst (stsD st)::.lst (mksD mk)::j))/\.(n)=c/\mk.length=c/\AM st mk m) (λ_ _=>False) ?_;simp only[K2,K1,K05,K04,W_pure,e2,eVar];refine⟨m,rfl,by omega,⟨[],[],_,_,_,[],rfl,p5.up .(0),rfl,rfl,by simp,by simp,by simp⟩,?_,?_,λ_ _ q=>q.elim⟩
  ·rintro c γ h6 hc ⟨st,mk,w,w7,w8,j,rfl,p6,l1,l2,am⟩;refine z0r (λd h1=>∃b0 b1:Int,d=.ref (r.length+(j.length+2)+3)/\PS h1 (k+3+5 * c+2) (r++(.lst (stsD st)::.lst (mksD mk)::(j++[.lst [.int b0,.int b1]])))) ?_ ?_
   ·simp only[K1,K6,K06,K05,K04,K0g,z0h,Z4,z0a,W_pure,z7,aNil,eFn,eLst,eVar,if_true];refine x6 p6 .(0) .(1) .(1) λb0 h7 b00 b01 p7=>?_;refine x6 p7 .(0) .(1) .(1) λb1 h8 b10 b11 p8=>?_;exact z2I p8 .(e) λh9 p9=>⟨b0,b1,by simp only[K3,K6],by rw[K7]at p9;exact p9.up .(0)⟩
   rintro _ h9 ⟨b0,b1,rfl,p9⟩;refine z1r (λγ h=>∃b0 b1 z j',γ=[.(r 2),.(r (i+3)),.(i m),.(i dn),.(r (r.length+0+3)),.(r (r.length+1+3)),.(i c),.(r (z+3)),w8]/\PS h (k+3+5 * c+4) (r++(.lst (stsD st)::.lst (mksD mk)::j'))/\(∀st',(r++(.lst st'::.lst (mksD mk)::j'))[z]?=.(l [.int b0,.int b1]))) ?_ ?_
   ·have eb:∀b0 b1:Int,∀o1 o2:O,∀j:AH,(r++(o1::o2::(j++[.lst [.int b0,.int b1]])))[r.length+(j.length+2)]?=.(l [.int b0,.int b1]):=λb0 b1 o1 o2 j=>by
     rw[K0i .(0),show r.length+(j.length+2) - r.length=j.length+2 by omega];simp
    simp only[K2,K1,K05,K04,Z4,z0a,W_pure,z0A,z7O,sIf,z3t];split
    ·rw[w_cons];simp only[K2,K1,K6,K06,K05,K04,K0g,z0h,Z4,z0a,W_pure,z7,aNil,Y8,e2,eFn,eLst,eVar,gN,if_true,sAsg,z3t];refine zp0 p9 (eb _ _ _ _ _) (show atI [D.int b0,D.int b1] 0=.(i b0) from rfl) ?_;refine x6 p9 .(0) .(1) .(1) λb2 h10 _ _ p10=>?_;have an:∀x y:Int,fAnd (.int x) (.int y)=pure (.int (K12 x y)):=λ_ _=>rfl;rw[an,W_pure];refine zp0 p10 (eb _ _ _ _ _) (show atI [D.int b0,D.int b1] 1=.(i b1) from rfl) ?_;refine x6 p10 .(0) .(1) .(1) λb3 h11 _ _ p11=>?_;rw[an,W_pure];refine z2I p11 .(e) λh12 p12=>?_;refine⟨_,_,r.length+((j++[O.lst [D.int b0,D.int b1]]).length+2),(j++[O.lst [D.int b0,D.int b1]])++[.lst [.int (K12 b0 b2),.int (K12 b1 b3)]],by simp,?_,λst'=>eb _ _ _ _ _⟩;have:=p12.up (k':=k+3+5 * c+4) .(0);simpa using this
    ·exact⟨b0,b1,_,_,rfl,p9.up .(0),λst'=>eb _ _ _ _ _⟩
   rintro γ h10 ⟨b0,b1,z,j',rfl,p10,f4⟩;refine z8S (i:=0) rfl p10 rfl (by simp[stsD];omega) (λv k'=>v=.tup (stD (ze0 b0 b1 m))/\k'=k+3+5 * c+4) ?_ ?_
   ·exact W_of (zX5 rfl rfl (by rw[p10.get];exact f4 _) m2) ⟨_,p10,rfl,rfl⟩
   rintro _ _ h11 ⟨rfl,rfl⟩ p11;rw[K04,show stsD st++[D.tup (stD (ze0 b0 b1 m))]=stsD (st++[ze0 b0 b1 m]) by simp[stsD]]at p11;refine z0r (λd h1=>∃t:Int,d=.int t/\PS h1 (k+3+5 * c+5) (r++(.lst (stsD (st++[ze0 b0 b1 m]))::.lst (mksD mk)::j'))) ?_ ?_
   ·simp only[K1,K6,K06,K0g,z0h,Z4,z0a,W_pure,z7,aNil,eFn,eVar,if_true];refine x6 p11 .(0) .(1) .(1) λwo h12 wo0 wo1 p12=>?_;exact⟨wo,rfl,p12.up .(0)⟩
   rintro _ h12 ⟨wo,rfl,p12⟩;refine z8S (i:=1) rfl p12 rfl (by simp[mksD];omega) (λv k'=>v=.tup ((Y7 (pick ns λt=>decide (K12 (wo / 2 ^ t) 1=1))).map .str)/\k'=k+3+5 * c+5) ?_ ?_
   ·exact W_of (zM2 rfl rfl (by rw[p12.get];exact j9 e) hn) ⟨_,p12,rfl,rfl⟩
   rintro _ _ h13 ⟨rfl,rfl⟩ p13;have mp:MK (Y7 (pick ns λt=>decide (K12 (wo / 2 ^ t) 1=1))):=zB7 hg hn _;rw[K05,K04]at p13;generalize Y7 (pick ns λt=>decide (K12 (wo / 2 ^ t) 1=1))=pk at p13 mp;rw[show mksD mk++[D.tup (pk.map .str)]=mksD (mk++[pk]) by simp[mksD]]at p13;refine w6 ⟨_,_,_,_,_,_,rfl,p13.up .(0),by simp[l1],by simp[l2],?_,?_,?_⟩
   ·intro l hl;rcases K00.mp hl with q|q
    ·exact am.1 l q
    ·simp at q;subst q;exact K50 _ K4n
   ·intro l hl;rcases K00.mp hl with q|q
    ·exact am.2.1 l q
    ·simp at q;subst q;intro x hx;simpa using(K08.mp hx).1
   ·intro l hl;rcases K00.mp hl with q|q
    ·exact am.2.2 l q
    ·simp at q;subst q;exact mp
  ·rintro γ h6 ⟨st,mk,w,w7,w8,j,rfl,p6,l1,l2,am⟩;exact⟨st,mk,w,w7,w8,j,rfl,p6.up .(0),l1,l2,am⟩
 ·rintro γ h6 ⟨st,mk,w,w7,w8,j,rfl,p6,l1,l2,am⟩;refine zf9 (λd h1=>d=maD st mk/\h1=h6) ?_ ?_
  ·simp only[K2,K1,K6,K06,K0g,z0h,Z4,z0a,W_pure,z7,aNil,Z8,eTup,eVar];refine z3V (i:=0) p6 rfl ?_;refine z3V (i:=1) p6 rfl ?_;rw[if_pos .(1)];exact⟨rfl,rfl⟩
  rintro _ _ ⟨rfl,rfl⟩;refine⟨_,_,p6,?_,λh2 q2=>z st mk h2 ⟨by omega,by omega,by omega,am.1,by rw[l1];exact am.2.1,am.2.2⟩ q2⟩;unfold maD stsD mksD;simp only[J2,k7,K5l,K0e];exact⟨y6 λa=>z0K a,y6 λa=>by simp only[J2];exact z0z _⟩
theorem za7{l:List Str}{t:Nat}(h:t<l.length):atI (l.map D.str) (t:Int)=.(s (l[t])):=z0w (by rw[K0a,K8 h];rfl)
theorem zl8{k:Int}{Q:D->AH->Prop}(p:PS h k r)(cl:CL r)(hk:k<500000)(e:r[i]?=.(l (ns.map .str)))(hn:ns.length<=8)(hg:NS ns){mo:Nat}(hmo:mo<=4)
 (z:∀(wl:List (Str×Str)) h',wl.length<=4->(∀w∈wl,w.2 = "unborne"\/w.2∈ns)->PS h' (k+20) r->Q (.tup (wl.map wD)) h'):W (z1T [.ref 2,.ref (i+3),.int (mo:Nat)]) h Q:=by
 refine z9t p cl ?_;refine z1L ?_;show W (z1f [.(r 2),.(r (i+3)),.(i (mo:Nat)),none,none,none,none]) h _;unfold z1f;have p0:PS h k (r++[]):=by simpa using p
 let so:List Str:=""::""::"unborne"::ns;refine z4r ?_;simp only[K2,K1,K05,K04,Z4,W_pure,z7,aNil,e2,eLst,eVar];refine zk0 p0 .(1) λh1 p1=>?_;refine zO4 (i:=0) p1 rfl (j9 e) (by simp;omega) λh2 p2=>?_;rw[show [D.str "",D.str "",D.str "unborne"]++ns.map D.str=so.map D.str from rfl]at p2;refine z4r ?_;simp only[K05,K04,Z4,W_pure,aNil,eLst];refine zk0 p2 .(1) λh3 p3=>?_;rw[w_cons];refine z0X (λc γ h=>∃(wl:List (Str×Str)) (x y:Option D),γ=[.(r 2),.(r (i+3)),.(i (mo:Nat)),.(r (r.length+1+3)),.(r (r.length+2+3)),x,y]/\PS h (k+1+2 * c) (r++[.lst [.str "",.str "",.str "unborne"],.lst (so.map D.str),.lst (wl.map wD)])/\wl.length=c/\∀w∈wl,w.2 = "unborne"\/w.2∈ns) (λ_ _=>False) ?_;simp only[K2,K1,K6,K06,K0g,z0h,Z4,z0a,W_pure,z7,aNil,z1O,Y8,z1U,e2,eFn,eVar,if_true];refine x6 p3 .(0) .(0) .(0) λd h4 d0 d1 p4=>?_;obtain⟨d,rfl⟩:=K1r d0;have sl:so.length=ns.length+3:=rfl;refine⟨d,rfl,by omega,⟨[],_,_,rfl,by simpa using p4,rfl,by simp⟩,?_,?_,λ_ _ q=>q.elim⟩
 ·rintro c γ h5 hc ⟨wl,x,y,rfl,p5,l5,n5⟩;refine z4r ?_;simp only[K2,K1,K6,K06,K05,K04,K0g,z0h,Z4,z0a,W_pure,z7,aNil,e2,Z8,eFn,eVar,if_true];refine zw1 (i:=1) p5 rfl ?_;rw[K0c];refine x6 p5 .(0) .(0) .(0) λt h6 t0 t1 p6=>?_;obtain⟨t,rfl⟩:=K1r t0;refine zZ5 (i:=1) p6 rfl (za7 .(0)) ?_;refine z39 ?_;simp only[K2,K1,K6,K06,K0g,z5w,z0h,Z4,z0a,W_pure,z7,aNil,e2,Z8,eFn,eM1,eTup,eVar,if_true,z3t];refine z8O (i:=2) p6 rfl ?_;refine zw1 (i:=1) p6 rfl ?_;rw[K0c,z8X,W_pure];refine x6 p6 .(0) .(0) .(0) λu h7 u0 u1 p7=>?_;obtain⟨u,rfl⟩:=K1r u0;rw[z1O,W_pure,show (2:Int)+(u:Int)=((u+2:Nat):Int) by omega];refine zZ5 (i:=1) p7 rfl (za7 .(0)) ?_;simp only[if_true,zW2];refine ze8 (i:=2) p7 rfl (by simp;omega) λh8 p8=>?_;refine⟨wl++[(so[t],so[u+2])],_,_,rfl,?_,by simp[l5],?_⟩
  ·have:=p8.up (k':=k+1+2 * ((c+1:Nat):Int)) .(0);simpa [wD] using this
  ·intro w hw;rcases K00.mp hw with q|q
   ·exact n5 w q
   ·simp at q;subst q;show so[u+2] = "unborne"\/so[u+2]∈ns;have e':so[u+2]=(K03 "unborne"::ns)[u]'(by simp;omega):=rfl;rw[e'];exact K0l.mp (K4h (l:=K03 "unborne"::ns) (n:=u) (by simp;omega))
 ·rintro γ h5 ⟨wl,x,y,rfl,p5,l5,n5⟩;refine zy4 ?_;simp only[K2,K1,Z4,W_pure,z7,aNil,Z8,eVar];refine z3V (i:=2) p5 rfl ⟨k+20,_,p5.up .(0),?_,λh2 p2=>z wl h2 .(0) n5 p2⟩;simp only[J2];exact y6 λw=>rfl
theorem zh8(a b:List Nat):(kN a).filter (λk=>decide (k∈kN b))=kN (a.filter λx=>decide (x∈b)):=by
 unfold kN;rw[K3w];congr 1;refine Z2c λx _=>?_;show decide ((K21 (x:Int):Key)∈b.map λ(i:Nat)=>K21 (i:Int))=decide (x∈b);rw[K0n,.(i),.(i),K1a];exact⟨λ⟨y,hy,e⟩=>by injection e with e;have:y=x:=.(0);exact this ▸ hy,λhx=>⟨x,hx,rfl⟩⟩
section
variable{k:AH}
theorem zl7{a b:List Nat}(ra:a.Pairwise (·<·))(la:a.length<64)(lb:b.length<=2000):z4f [.tup (stD a),.tup (stD b)] h=.ok (.tup (stD (a.filter λx=>decide (x∈b)))) h:=by
 refine z53 ?_ (z0K _);refine z2G ?_;show W (z44 [.(g (stD a)),.(g (stD b))]) h _;unfold z44;have s1:Z8 z1H (z7 .(g) aNil) [.(g (stD a)),.(g (stD b))] h=.ok (.ref .(h)) (h++[.set (kN (dedN a))]):=y9 .(d) (zj4 rfl .(0));have s2:Z8 z1H (z7 .(l) aNil) [.(g (stD a)),.(g (stD b))] (h++[O.set (kN (dedN a))])=.ok (.ref (.(h)+1)) (h++[.set (kN (dedN a))]++[.set (kN (dedN b))]):=y9 .(d) (by rw[zj4 (l:=b) rfl lb,K3,K0v]);have g1:(h++[O.set (kN (dedN a))]++[O.set (kN (dedN b))])[h.length]?=some (.set (kN (dedN a))):=by simp
 have g2:(h++[O.set (kN (dedN a))]++[O.set (kN (dedN b))])[.(h)+1]?=some (.set (kN (dedN b))):=by
  have:=J6 (h:=h++[O.set (kN (dedN a))]) (o:=.set (kN (dedN b)));rw[K3,K0v]at this;exact this
 have s3:z8Z (.ref .(h)) (.ref (.(h)+1)) (h++[O.set (kN (dedN a))]++[O.set (kN (dedN b))])=.ok (.ref (.(h)+2)) (h++[.set (kN (dedN a))]++[.set (kN (dedN b))]++[.set (kN ((dedN a).filter λx=>decide (x∈dedN b)))]):=by
  have q1:getS h.length (h++[O.set (kN (dedN a))]++[O.set (kN (dedN b))])=.ok (kN (dedN a)) (h++[O.set (kN (dedN a))]++[O.set (kN (dedN b))]):=by unfold getS;rw[g1]
  have q2:getS (h.length+1) (h++[O.set (kN (dedN a))]++[O.set (kN (dedN b))])=.ok (kN (dedN b)) (h++[O.set (kN (dedN a))]++[O.set (kN (dedN b))]):=by unfold getS;rw[g2]
  unfold z8Z;dsimp only;rw[if_neg .(0),M.bind_ok q1,M.bind_ok q2];show Res.ok _ _=_;rw[zh8,K3,K3,K0v,K0v]
 have el:x9 ((dedN a).filter λx=>decide (x∈dedN b))=a.filter λx=>decide (x∈b):=z3j (z1I ((z5k a).filter _)) (ra.filter _) λx=>by
  rw[sortN_mem,K08,K08,dedN_mem,.(i),.(i),dedN_mem]
 have fl:((dedN a).filter λx=>decide (x∈dedN b)).length<64:=by
  have l1:=K0w (λx=>decide (x∈dedN b)) (dedN a);have l2:=K19 (z5k a) λx hx=>dedN_mem.mp hx;omega
 have s4:=y9 (e2_h s1 s2 s3) (z9H (i:=.(h)+2) (by
  have:=J6 (h:=h++[O.set (kN (dedN a))]++[O.set (kN (dedN b))]) (o:=.set (kN ((dedN a).filter λx=>decide (x∈dedN b))));rw[K3,K3,K0v,K0v]at this;exact this) fl)
 rw[el]at s4;have s5:=y9 (f:=y3) s4 (z6v J6);rw[K7,K7,K7]at s5;exact Y2 (.tup (stD (a.filter λx=>decide (x∈b)))) (z05 s5 (z0K _)) ⟨rfl,rfl⟩
end
def Trl(st:List .(p))(V:List Nat):Nat->List Nat->Prop
 | _,[]=>True
 | x,y::r=>y∈nx st x/\y∈V/\Trl st V y r
section
variable{mv:G->M D}{Q:Out->AH->Prop}
theorem q_dG(ev:mv γ h=.ok d h)(ea:γ[a]?=some (.(r i)))(eb:γ[b]?=some (.(i (x:Nat))))(e:h[i]?=some (.dK (kvG v l)))(hx:x∉l)(hl:l.length<1000)(z:W (mt γ) (h.set i (.dK (kvG (λy=>if y=x then d else v y) (l++[x])))) Q):W (z9 (sAsg mv (gDx (eVar a) (eVar b))) mt γ) h Q:=by
 have e1:eVar a γ=pure (.ref i):=by unfold eVar;rw[ea]
 have e2:eVar b γ=pure (.int (x:Nat)):=by unfold eVar;rw[eb]
 have e3:z5M (.ref i) (.int (x:Nat)) d h=.ok () (h.set i (.dK (kvG (λy=>if y=x then d else v y) (l++[x])))):=by
  have:keyD (.int (x:Nat))=some (.inl (x:Int)):=rfl;unfold z5M;dsimp only;rw[this];dsimp only;rw[e];dsimp only;rw[if_pos (by rw[zI7];unfold sizeLine;omega),zg2 (v':=λy=>if y=x then d else v y) (l:=l) λy hy=>(if_neg λz:y=x=>hx (z ▸ hy)).symm];have:=zn7 (v:=λy=>if y=x then d else v y) hx;rw[if_pos rfl]at this;rw[this]
 rw[w_cons];unfold sAsg gDx;rw[Z4];refine W_of ev ?_;rw[e1,z08,e2,z08,Z4,Z4];refine W_of e3 ?_;rw[W_pure,W_pure];exact z
theorem Z0L(e:h[i]?=.(l xs))(hl:xs.length<=1000000):z48 i h=.ok .non (h.set i (.lst xs.reverse)):=by
 unfold z48 updL;dsimp only;rw[e];dsimp only;rw[if_pos (by rw[K2b];unfold sizeLine;omega)]
theorem zk4(e:h[i]?=.(l (xs++[d]))):fIx (.ref i) (.int (-1)) h=.ok d h:=ix_h e (zt7 _ _)
theorem Trl.mono{st:List .(p)}{V V':List Nat}(hv:∀x∈V,x∈V'):∀{x:Nat}{w:List Nat},Trl st V x w->Trl st V' x w
 | _,[],_=>trivial
 | _,_::_,⟨a,b,c⟩=>⟨a,hv _ b,c.mono hv⟩
theorem Trl.app{st:List .(p)}{V:List Nat}:∀{x:Nat}{w u:List Nat},Trl st V x w->Trl st V ((x::w).getLast .(e)) u->Trl st V x (w++u)
 | _,[],_,_,t=>t
 | _,y::r,_,⟨a,b,c⟩,t=>⟨a,b,c.app (by rw[List.getLast_cons .(e)]at t;exact t)⟩
end
structure TI(st:List .(p))(V:List Nat)(s:Nat)(A:List Nat)(par:Nat->Nat):Prop where
 nd:A.Nodup
 v:∀x∈A,x∈V
 ed:∀x∈A,x∈nx st (par x)
 up:∀(i:Nat) x,A[i]?=some x->par x=s\/∃j,j<i/\A[j]?=some (par x)
section
variable{V:List Nat}
theorem TI.add{p:Nat}(t:TI st V s A par)(hx:x∉A)(hv:x∈V)(he:x∈nx st p)(hp:p=s\/p∈A):TI st V s (A++[x]) λy=>if y=x then p else par y:=by
 refine⟨?_,?_,?_,?_⟩
 ·rw[K1c];exact⟨t.nd,by simp,λa ha b hb=>by rw[K0q]at hb;exact λz=>hx (hb ▸ z ▸ ha)⟩
 ·intro y hy;rcases K00.mp hy with q|q
  ·exact t.v y q
  ·rw[K0q]at q;exact q ▸ hv
 ·intro y hy;rcases K00.mp hy with q|q
  ·rw[if_neg λz:y=x=>hx (z ▸ q)];exact t.ed y q
  ·rw[K0q]at q;rw[if_pos q,q];exact he
 ·intro i y hy;rcases K55 i A.length with q|q
  ·rw[K0s q]at hy;rw[if_neg λz:y=x=>hx (z ▸ K0d hy)];rcases t.up i y hy with a|⟨j,hj,a⟩
   ·exact .inl a
   ·exact .inr ⟨j,hj,by rw[K0s .(0)];exact a⟩
  ·have hi:i=A.length:=by
    have:=(K02.mp hy).1;rw[K3,K0v]at this;omega
   subst hi;rw[K0i (K01 _),K3l]at hy;rw[if_pos (K0y hy).symm];rcases hp with a|a
   ·exact .inl a
   ·obtain⟨j,hj,e⟩:=K1o a;exact .inr ⟨j,hj,by rw[K0s hj,K8 hj,e]⟩
theorem z7G{e:Nat}(t:TI st V s A par)(dt:DAt h n (kvG (λx=>.int (par x:Nat)) A))(he:e∈A)(hl:A.length<=1000):
 ∃r,Trl st V s (r++[e])/\(r++[e]).length<=A.length/\z2W [.ref n,.int (s:Nat),.int (e:Nat)] h=.ok (.ref .(h)) (h++[.lst (stD (r++[e]))]):=by
 have key:W (runF 4 z1o [.ref n,.int (s:Nat),.int (e:Nat)]) h λd h1=>∃r,Trl st V s (r++[e])/\(r++[e]).length<=A.length/\d=.ref .(h)/\h1=h++[.lst (stD (r++[e]))]:=by
  refine z1L ?_;show W (z1o [.(r n),.(i (s:Nat)),.(i (e:Nat)),none]) h _;unfold z1o;refine J8 (.ref .(h)) [.(r n),.(i (s:Nat)),.(i (e:Nat)),.(r .(h))] (h1:=h++[.lst (stD [e])]) rfl rfl ?_;refine z1r (λγ h1=>∃x r,γ=[.(r n),.(i (s:Nat)),.(i (e:Nat)),.(r .(h))]/\h1=h++[.lst (stD ((x::r).reverse))]/\Trl st V s (x::r)/\(x::r).length<=A.length/\∃r',x::r=r'++[e]) ?_ ?_
  ·obtain⟨i0,hi0,ei0⟩:=K1o he;refine z1m (λm γ h1=>∃x r,γ=[.(r n),.(i (s:Nat)),.(i (e:Nat)),.(r .(h))]/\h1=h++[.lst (stD ((x::r).reverse))]/\Trl st V x r/\(m+(x::r).length<=A.length)/\(∃r',x::r=r'++[e])/\A[m]?=some x) _ _ ?_ 1000000 i0 _ _ .(0) ⟨e,[],rfl,rfl,trivial,by show i0+1<=A.length;omega,⟨[],rfl⟩,by rw[K8 hi0,ei0]⟩;rintro m γ h1 ⟨x,r,rfl,rfl,tr,le,⟨r',er⟩,ex⟩;have hx:=K0d ex;have d1:e2 z2R .(g) (e2 fIx (eVar 3) (eNeg .(2))) [.(r n),.(i (s:Nat)),.(i (e:Nat)),.(r .(h))] (h++[.lst (stD ((x::r).reverse))])=.ok (.int (par x:Nat)) (h++[.lst (stD ((x::r).reverse))]):=by
    refine e2_h .(d) (e2_h .(d) (y:=.int (-1)) rfl (zk4 (xs:=stD r.reverse) (d:=.int (x:Nat)) ?_)) (zM4 (v:=λx=>.int (par x:Nat)) dt.app hx);rw[J6,K40,<- z0I]
   refine W.of (a:=!decide (par x=s)) (h':=h++[.lst (stD ((x::r).reverse))]) (cb_h (e2_h d1 .(d) (by
    rw[z8k,K5k];show Res.ok _ _=_;congr 3;rw[K0n,.(i),.(i)];exact K5m))) ?_
   by_cases c:par x=s
   ·rw[decide_eq_true c,K6s,if_neg .(1)];exact⟨x,r,rfl,rfl,⟨c ▸ t.ed x hx,t.v x hx,tr⟩,by omega,r',er⟩
   ·rw[.(k) c,K6c,if_pos rfl];rcases t.up m x ex with z|⟨j,hj,ej⟩
    ·exact absurd z c
    ·refine⟨m - 1,by omega,?_⟩;refine z1A (i:=.(h)) rfl J6 (by rw[Z9,K2b];omega) d1 (z0i (w6 ⟨j,by omega,par x,x::r,rfl,?_,⟨t.ed x hx,t.v x hx,tr⟩,by rw[K6];omega,⟨par x::r',by rw[er];rfl⟩,ej⟩));rw[z8y,z0I,K40 (a:=par x)]
  ·rintro γ h1 ⟨x,r,rfl,rfl,tr,le,r',er⟩;refine z39 ?_;have e1:eVar 3 [.(r n),.(i (s:Nat)),.(i (e:Nat)),.(r .(h))]=pure (.ref .(h)):=rfl;unfold eM0;rw[e1,z08,Z4];refine W_of (z2o J6) (W_of (Z0L J6 (by rw[Z9,K2b];omega)) ?_);refine Y2 (.ref .(h)) .(d) ⟨r',er ▸ tr,er ▸ le,rfl,?_⟩;rw[z8y,<- er];show h++[O.lst (stD ((x::r).reverse)).reverse]=_;unfold stD;rw[<- Z2u,K52]
 obtain⟨d,h1,e1,r,tr,le,rfl,rfl⟩:=key;exact⟨r,tr,le,z4I e1 (K01 _) J6 (z15 _)⟩
end
def WT(st:List .(p))(V:List Nat)(s:Nat)(g w:List Nat):Prop:=(w=[]/\∀y∈g,¬ Pt st (·∈V) s y)\/∃r e,w=r++[e]/\e∈g/\Trl st V s w/\w.length<=st.length
def WH(h:AH)(s:Nat)(A:List Nat)(par:Nat->Nat):AH:=h++[.dK (kvG (λx=>.int (par x:Nat)) A),.lst (stD (s::A))]
theorem Z10{a b:Int}{f:Int->Int->Int}{Q:Out->AH->Prop}(e:γ[i]?=some (.(i a)))(em:me γ h=.ok (.int b) h)(z:W (mt (γ.set i (.(i (f a b))))) h Q):W (z9 (sAug i f me) mt γ) h Q:=by
 rw[w_cons];unfold sAug;rw[e];dsimp only;rw[Z4];refine W_of em ?_;rw[W_pure];exact z
theorem z9p{V:List Nat}(c:∀z,z=s\/z∈A->∀y∈inV st V z,y∈A)(p:Pt st (·∈V) a b)(h:a=s\/a∈A):b∈A:=by
 induction p with
 | one _ v e=>exact c _ h _ (by unfold inV;simpa using⟨e,v⟩)
 | cons _ e p ih=>exact ih (.inr (c _ h _ (by unfold inV;simpa using⟨e,p.fst⟩)))
theorem z6k{h:AH}{V g:List Nat}(q:MA st mk)(Vn:V.Nodup)(Vl:∀x∈V,x<st.length)(hs:s∈V):
 ∃w,WT st V s g w/\z1M [maD st mk,.int (s:Nat),.tup (stD V),.tup (stD g)] h=.ok (.ref .(h)) (h++[.lst (stD w)]):=by
 have n40:=q.l2;have Vle:V.length<=st.length:=z7E Vn Vl;have rl:∀l∈st,l.length<=1000:=λl hl=>by have:=z5h (q.s1 l hl) (q.s2 l hl);omega
 have key:W (runF 10 z2c [maD st mk,.int (s:Nat),.tup (stD V),.tup (stD g)]) h λd h1=>∃w i j,WT st V s g w/\d=.ref i/\h1=h++j/\.(h)<=i/\(h++j)[i]?=.(l (stD w)):=by
  refine z1L ?_;show W (z2c [some .(a),.(i (s:Nat)),.(g (stD V)),.(g (stD g)),none,none,none,none,none,none]) h _;unfold z2c;obtain⟨b,c,k,ei,gh,hb⟩:=z8D (mk:=mk) (h:=h) (zG3 q) rl Vn Vl;obtain⟨h1,eh⟩:∃h1,h1=h++k:=⟨_,rfl⟩;rw[<- eh]at ei gh;have hk:h1.length=.(h)+k.length:=by rw[eh,K3]
  refine J8 (.ref b) [some .(a),.(i (s:Nat)),.(g (stD V)),.(g (stD g)),.(r b),none,none,none,none,none] (fn_h (ds:=[maD st mk,.tup (stD V)]) (ac_h .(d) (ac_h .(d) rfl)) rfl ei) rfl ?_;refine J8 (.ref h1.length) [some .(a),.(i (s:Nat)),.(g (stD V)),.(g (stD g)),.(r b),.(r h1.length),none,none,none,none] (h1:=h1++[.dK []]) rfl rfl ?_;refine J8 (.ref (h1.length+1)) [some .(a),.(i (s:Nat)),.(g (stD V)),.(g (stD g)),.(r b),.(r h1.length),.(r (h1.length+1)),none,none,none] (h1:=WH h1 s [] id) (by
   show Res.ok (D.ref (h1++[O.dK []]).length) (h1++[O.dK []]++[O.lst [D.int (s:Nat)]])=_;rw[K3,K0v,K7];rfl) rfl ?_
  refine z9w (.int (0:Nat)) [some .(a),.(i (s:Nat)),.(g (stD V)),.(g (stD g)),.(r b),.(r h1.length),.(r (h1.length+1)),.(i (0:Nat)),none,none] rfl rfl ?_;have al:∀{A par},TI st V s A par->A.length<=st.length:=λt=>z0q t.nd λx hx=>Vl x (t.v x hx);have mem:∀{A:List Nat} {t x:Nat},(s::A)[t]?=some x->x=s\/x∈A:=λ{A t x} e=>by
   have:=K0d e;exact K0l.mp this
  refine z1r (λγ h2=>∃A par v7 v8 v9,γ=[some .(a),.(i (s:Nat)),.(g (stD V)),.(g (stD g)),.(r b),.(r h1.length),.(r (h1.length+1)),v7,v8,v9]/\h2=WH h1 s A par/\TI st V s A par/\(∀x∈A,x∉g)/\∀x,x=s\/x∈A->∀y∈inV st V x,y∈A) ?_ ?_
  ·refine z1m (λm γ h2=>∃A par t v8 v9,γ=[some .(a),.(i (s:Nat)),.(g (stD V)),.(g (stD g)),.(r b),.(r h1.length),.(r (h1.length+1)),.(i (t:Nat)),v8,v9]/\h2=WH h1 s A par/\TI st V s A par/\(∀x∈A,x∉g)/\t<=A.length+1/\(∀j x,j<t->(s::A)[j]?=some x->∀y∈inV st V x,y∈A)/\m=st.length+1 - t) _ _ ?_ 1000000 (st.length+1) _ _ .(0) ⟨[],id,0,_,_,rfl,rfl,⟨K4f,by simp,by simp,by simp⟩,by simp,by omega,λj x hj=>by omega,by omega⟩;rintro m γ h2 ⟨A,par,t,v8,v9,rfl,rfl,ti,ng,ht,dn,hm⟩;have ale:=al ti;have lw:fLen [.ref (h1.length+1)] (WH h1 s A par)=.ok (.int (A.length+1:Nat)) (WH h1 s A par):=(zJ2 am1).trans (by rw[Z9];rfl);refine W.of (a:=decide ((t:Int)<((A.length+1:Nat):Int))) (h':=WH h1 s A par) (cb_h (e2_h .(d) (y9 .(d) lw) (by rw[z9a];rfl))) ?_;by_cases e:(t:Int)<((A.length+1:Nat):Int)
   ·rw[decide_eq_true e,if_pos rfl];refine⟨.(n) - t,by omega,?_⟩;have tl:t<(s::A).length:=by rw[K6];omega
    obtain⟨x,ex⟩:∃x,(s::A)[t]?=some x:=⟨_,K8 tl⟩;have xA:=mem ex;have xV:x∈V:=xA.elim (λz=>z ▸ hs) (ti.v x);refine J8 (.int (x:Nat)) [some .(a),.(i (s:Nat)),.(g (stD V)),.(g (stD g)),.(r b),.(r h1.length),.(r (h1.length+1)),.(i (t:Nat)),.(i (x:Nat)),v9] (e2_h .(d) .(d) (ix_h (h:=WH h1 s A par) am1 (z0w (by unfold stD;rw[K0a,ex];rfl)))) rfl ?_;refine Z10 (a:=(t:Nat)) (b:=1) rfl rfl ?_;refine z1r (λγ h2=>∃A' par' v9,γ=[some .(a),.(i (s:Nat)),.(g (stD V)),.(g (stD g)),.(r b),.(r h1.length),.(r (h1.length+1)),.(i (t+1:Nat)),.(i (x:Nat)),v9]/\h2=WH h1 s A' par'/\TI st V s A' par'/\(∀x∈A',x∉g)/\(∃e,A'=A++e)/\∀y∈inV st V x,y∈A') ?_ ?_
    ·refine z0g (λi γ h2=>∃A' par' v9,γ=[some .(a),.(i (s:Nat)),.(g (stD V)),.(g (stD g)),.(r b),.(r h1.length),.(r (h1.length+1)),.(i (t+1:Nat)),.(i (x:Nat)),v9]/\h2=WH h1 s A' par'/\TI st V s A' par'/\(∀x∈A',x∉g)/\(∃e,A'=A++e)/\∀y∈(inV st V x).take i,y∈A') (λd h1=>∃w i j,WT st V s g w/\d=.ref i/\h1=h++j/\.(h)<=i/\(h++j)[i]?=.(l (stD w))) ?_;have gx:∀A' par',(WH h1 s A' par')[c+V.idxOf x]?=.(l ((stD (inV st V x)))):=λA' par'=>j9 (gh.r x xV);refine W_of (z2K (e2_h .(d) .(d) (z5Z (.inl (j9 gh.d)) xV)) (gx A par)) ⟨⟨A,par,v9,rfl,rfl,ti,ng,⟨[],by simp⟩,by simp⟩,?_,?_,?_,λ_ _ z=>z⟩
     ·rintro i γ h2 ⟨A',par',v,rfl,rfl,_⟩;exact gx A' par'
     ·rintro i d γ h2 hd ⟨A',par',v,rfl,rfl,ti',ng',⟨ex',rfl⟩,tk⟩;obtain⟨y,rfl,ey⟩:=z3b (show (stD (inV st V x))[i]?=some d from hd);have yi:=K0d ey;have yV:y∈V:=by unfold inV at yi;simpa using(K08.mp yi).2
      have yn:y∈nx st x:=(K08.mp yi).1;have ale':=al ti';have xA':x=s\/x∈A++ex':=xA.imp id λz=>K09 _ z;have tk':∀{A2:List Nat},(∀z∈A++ex',z∈A2)->y∈A2->∀z∈(inV st V x).take (i+1),z∈A2:=λhA hy z hz=>by
       rw[K31,ey]at hz;rcases K00.mp hz with a|a
       ·exact hA z (tk z a)
       ·simp at a;exact a ▸ hy
      refine W.of (a:=[some .(a),.(i (s:Nat)),.(g (stD V)),.(g (stD g)),.(r b),.(r h1.length),.(r (h1.length+1)),.(i (t+1:Nat)),.(i (x:Nat)),.(i (y:Nat))]) rfl ?_;refine z1j (decide (y∈A++ex') != true) (cb_h (e2_h .(d) .(d) (Z1d (.inl am0)))) ?_;by_cases hy:y∈A++ex'
      ·rw[decide_eq_true hy,show (true != true)=false from rfl,if_neg .(1)];exact z0i (w6 ⟨_,par',_,rfl,rfl,ti',ng',⟨ex',rfl⟩,tk' (λz hz=>hz) hy⟩)
      ·rw[.(k) hy,show (false != true)=true from rfl,if_pos rfl];have ti2:=ti'.add hy yV yn xA';have fe:(λz=>if z=y then D.int (x:Nat) else D.int (par' z:Nat))=λz=>D.int ((if z=y then x else par' z:Nat):Nat):=funext λz=>by split<;>rfl
       refine z0M (q_dG (i:=h1.length) (x:=y) (v:=λz=>.int (par' z:Nat)) (l:=A++ex') (d:=.int (x:Nat)) .(d) rfl rfl am0 hy .(0) ?_);unfold WH;rw[sm0,fe];refine z0M (z1j (decide (y∈g)) (cb_h (e2_h .(d) .(d) (by rw[z6J,K27];rfl))) ?_);by_cases hg:y∈g
       ·rw[decide_eq_true hg,if_pos rfl];obtain⟨r,tr,le,ew⟩:=z7G (h:=h1++[O.dK (kvG (λz=>.int ((if z=y then x else par' z:Nat):Nat)) (A++ex'++[y])),O.lst (stD (s::(A++ex')))]) (n:=h1.length) (e:=y) ti2 (.inl am0) .(e) (by have:=al ti2;omega);refine z0M (Y2 (.ref (h1++[O.dK (kvG (λz=>.int ((if z=y then x else par' z:Nat):Nat)) (A++ex'++[y])),O.lst (stD (s::(A++ex')))]).length) (fn_h (ds:=[.ref h1.length,.int (s:Nat),.int (y:Nat)]) (ac_h .(d) (ac_h .(d) (ac_h .(d) rfl))) rfl ew) ⟨r++[y],_,_,.inr ⟨r,y,rfl,hg,tr,K0h le (al ti2)⟩,rfl,by rw[eh,K7,K7],by rw[K3];omega,?_⟩);rw[<- K7,<- K7,<- eh];exact J6
       ·rw[.(k) hg,if_neg .(1)];refine z0i (z0M (z1A (i:=h1.length+1) (v:=.int (y:Nat)) rfl am1 (by rw[Z9,K6];omega) .(d) ?_));rw[sm1];refine z0i (w6 ⟨A++ex'++[y],_,_,rfl,?_,ti2,λz hz=>?_,⟨ex'++[y],by rw[K7]⟩,tk' (λz hz=>K09 _ hz) .(e)⟩)
        ·rw[z0I,K28]
        ·rcases K00.mp hz with a|a
         ·exact ng' z a
         ·rw[K0q]at a;exact a ▸ hg
     ·rintro γ h2 ⟨A',par',v,rfl,rfl,ti',ng',⟨ex',rfl⟩,tk⟩;rw[show (Src.lst (c+V.idxOf x) (stD (inV st V x))).items.length=(inV st V x).length from Z9 _,K1g]at tk;exact⟨_,par',v,rfl,rfl,ti',ng',⟨ex',rfl⟩,tk⟩
    ·rintro γ h2 ⟨A',par',v,rfl,rfl,ti',ng',⟨ex',rfl⟩,tk⟩;refine w6 ⟨.(n) - t,by omega,A++ex',par',t+1,_,_,rfl,rfl,ti',ng',by rw[K3];omega,λj z hj ez y hy=>?_,by omega⟩;rcases K55 j t with l|l
     ·refine K09 _ (dn j z l ?_ y hy);rwa [<- K28,K0s .(0)]at ez
     ·have:j=t:=by omega
      subst this;rw[<- K28,K0s .(0),ex]at ez;exact tk y (K0y ez ▸ hy)
   ·rw[.(k) e,if_neg .(1)];refine⟨A,par,_,_,_,rfl,rfl,ti,ng,λx hx y hy=>?_⟩;obtain⟨j,hj,ej⟩:=K1o (K0l.mpr hx:x∈s::A);exact dn j x (by rw[K6]at hj;omega) (by rw[K8 hj,ej]) y hy
  ·rintro γ h2 ⟨A,par,v7,v8,v9,rfl,rfl,ti,ng,cl⟩;refine Y2 (.ref (WH h1 s A par).length) (h1:=WH h1 s A par++[.lst []]) rfl ⟨[],_,_,.inl ⟨rfl,λy hy p=>ng y (z9p cl p (.inl rfl)) hy⟩,rfl,by unfold WH;rw[eh,K7,K7],by unfold WH;rw[K3];omega,?_⟩;rw[<- K7,<- K7,<- eh];exact J6
 obtain⟨d,h1,e1,w,i,j,wt,rfl,rfl,hi,ei⟩:=key;exact⟨w,wt,z4I e1 hi ei (z15 _)⟩
structure RgF(st:List .(p))(mk:List (List Str))(ws:List (Str×Str))(P:List Nat)(s:Nat)(ring:List Nat):Prop where
 hd:∃u,ring=s::u/\Trl st P s (u++[s])
 ln:ring.length<=(ws.length+1) * .(n)+1
 wi:∀w∈ws,(∃x∈ring,bear w.1 mk x=true)->∃y∈ring,bear w.2 mk y=true
theorem Trl.mem{st:List .(p)}{V:List Nat}:∀{x:Nat}{w:List Nat},Trl st V x w->∀y∈w,y∈V
 | _,[],_,_,h=>absurd h K2u
 | _,_::_,⟨_,b,c⟩,y,h=>by
  rcases K0l.mp h with rfl|h
  ·exact b
  ·exact c.mem y h
theorem zs3{n:Str}(e:h[i]?=.(l (stD l)))(hl:l.length<=1000000)(hi:∀x∈l,x<mk.length):z0e [maD st mk,.ref i,.str n] h=.ok (.bl (z1n mk l n)) h:=by
 refine z53 (z2G ?_) rfl;show W (z1i [some .(a),.(r i),.(s n)]) h _;unfold z1i;have c:=z25 (cap:=[some 0,some 2,none]) (mi:=orE (z0o .(l)) (z0p .(l))) (g:=gN 2) (kb:=λ_=>pure true) (me:=eFn 3 z1G (z7 .(g) (z7 .(t) (z7 .(l) aNil)))) (γ:=[some .(a),.(r i),.(s n)]) (h:=h) (src:=.lst i (stD l)) (l:=l) (λ_=>true) (λx=>.bl (bear n mk x)) (zN0 .(d) e) rfl (λ_=>j9 e) hl λx hx=>⟨[some .(a),.(s n),.(i (x:Nat))],λ_=>rfl,λ_=>rfl,λ_ j=>fn_h (ds:=[maD st mk,.int (x:Nat),.str n]) (ac_h .(d) (ac_h .(d) (ac_h .(d) rfl))) rfl (by rw[z4a (hi x hx)];rfl)⟩;rw[filter_tt,show l.map (λx=>D.bl (bear n mk x))=(l.map λx=>bear n mk x).map .bl by rw[K1q];rfl]at c;refine Y2 _ (zN9 c) ⟨?_,rfl⟩;unfold z1n;rw[Z24];rfl
theorem zo6(xs:List D)(h0:0<xs.length):cutD xs none (some (-1))=xs.take (xs.length - 1):=by
 unfold cutD;rw[HT.sIx_none];have e:HT.sIx xs.length xs.length (some (-1))=xs.length - 1:=by
  unfold HT.sIx;dsimp only;rw[if_pos .(1)];omega
 rw[e,K7d,Nat.sub_zero]
theorem z8g(ea:γ[a]?=some (.(r i)))(e:h[i]?=.(l ((stD (l++[x])))))(hl:l.length<1000000):clE (Z8 y3 (z7 (z1u (eVar a) z3I (z2F (eNeg .(2)))) aNil)) γ h=.ok (.tup (stD l)) h:=by
 refine z5T ?_ (z15 _);unfold z1u;rw[M.bind_ok (Z2 ea),M.bind_ok (show z3I γ h=.ok none h from rfl),M.bind_ok (show z2F (eNeg λ_=>pure (.int 1)) γ h=.ok (some (-1)) h from rfl)];unfold fSl;dsimp only;have g:getL i h=.ok (stD (l++[x])) h:=by unfold getL;rw[e]
 rw[M.bind_ok g,zo6 _ (by rw[Z9];simp),Z9,show (l++[x]).length - 1=l.length by simp,show (stD (l++[x])).take l.length=stD l by rw[<- z0I,K24 (by rw[Z9];omega),K32 (by rw[Z9];omega)]];exact z61 (by rw[Z9];omega)
theorem zX1{h:AH}{P:List Nat}(q:MA st mk)(Pr:P.Pairwise (·<·))(Pl:∀x∈P,x<st.length)(hs:s∈P)(gr:GR st mk ws (·∈P))(hw:ws.length<=1000):
 ∃ring,RgF st mk ws P s ring/\z2S [maD st mk,.int (s:Nat),.tup (stD P),.tup (ws.map wD)] h=.ok (.tup (stD ring)) h:=by
 have n40:=q.l2;have l3:=q.l3;have Pn:=z0G Pr;have Ple:P.length<=st.length:=z7E Pn Pl;have key:W (runF 7 z1l [maD st mk,.int (s:Nat),.tup (stD P),.tup (ws.map wD)]) h λd h1=>(∃ring,RgF st mk ws P s ring/\d=.tup (stD ring))/\∃j,h1=h++j:=by
  refine z1L ?_;show W (z1l [some .(a),.(i (s:Nat)),.(g (stD P)),.(g (ws.map wD)),none,none,none]) h _;unfold z1l;refine J8 (.ref .(h)) [some .(a),.(i (s:Nat)),.(g (stD P)),.(g (ws.map wD)),.(r .(h)),none,none] (h1:=h++[.lst (stD [s])]) rfl rfl ?_;have lastP:∀{u},Trl st P s u->(s::u).getLast .(e)∈P:=λ{u} t=>by
   rcases K0l.mp (List.getLast_mem (l:=s::u) .(e)) with e|e
   ·rw[e];exact hs
   ·exact t.mem _ e
  have step:∀(γ:G) (g u:List Nat) (j:AH) (m4:G->M D),γ[0]?=some (some .(a))->γ[2]?=some (.(g (stD P)))->γ[4]?=some (.(r .(h)))->m4 γ (h++.lst (stD (s::u))::j)=.ok (.tup (stD g)) (h++.lst (stD (s::u))::j)->(∃y∈g,y∈P)->Trl st P s u ->
   ∃r e,e∈g/\Trl st P s (u++(r++[e]))/\(r++[e]).length<=.(n)/\eFn 4 z1M (z7 .(g) (z7 (e2 fIx (eVar 4) (eNeg .(2))) (z7 .(t) (z7 m4 aNil)))) γ (h++.lst (stD (s::u))::j)=.ok (.ref (h++.lst (stD (s::u))::j).length) (h++.lst (stD (s::u))::j++[.lst (stD (r++[e]))]):=by
   intro γ g u j m4 g0 g2 g4 e4 ⟨y,yg,yP⟩ t;have lP:=lastP t;obtain⟨w,wt,ew⟩:=z6k (h:=h++.lst (stD (s::u))::j) (g:=g) q Pn Pl lP;rcases wt with ⟨rfl,no⟩|⟨r,e,rfl,he,tr,le⟩
   ·exact absurd (gr.rn _ _ lP yP) (no y yg)
   ·refine⟨r,e,he,t.app tr,le,fn_h (ds:=[maD st mk,.int ((s::u).getLast .(e):Nat),.tup (stD P),.tup (stD g)]) (ac_h (Z2 g0) (ac_h (e2_h (Z2 g4) (y:=.int (-1)) rfl (zk4 (xs:=stD (s::u).dropLast) ?_)) (ac_h (Z2 g2) (ac_h e4 rfl)))) rfl ew⟩;rw[am0,z0I,List.dropLast_concat_getLast]
  refine z1r (λγ h1=>∃u j v5 v6,γ=[some .(a),.(i (s:Nat)),.(g (stD P)),.(g (ws.map wD)),.(r .(h)),v5,v6]/\h1=h++.lst (stD (s::u))::j/\Trl st P s u/\u.length<=ws.length * .(n)/\∀w∈ws,(∃x∈P,bear w.1 mk x=true)->∃y∈s::u,bear w.2 mk y=true) ?_ ?_
  ·refine z0g (λc γ h1=>∃u j v5 v6,γ=[some .(a),.(i (s:Nat)),.(g (stD P)),.(g (ws.map wD)),.(r .(h)),v5,v6]/\h1=h++.lst (stD (s::u))::j/\Trl st P s u/\u.length<=c * .(n)/\∀w∈ws.take c,(∃x∈P,bear w.1 mk x=true)->∃y∈s::u,bear w.2 mk y=true) (λ_ _=>False) ?_;refine W_of (v:=Src.con (ws.map wD)) rfl ⟨⟨[],[],_,_,rfl,rfl,trivial,by simp,by simp⟩,λ_ _ _ _=>trivial,?_,?_,λ_ _ f=>f.elim⟩
   ·rintro c d γ h1 hd ⟨u,j,v5,v6,rfl,rfl,t,lu,met⟩;have hd:(ws.map wD)[c]?=some d:=hd;rw[K0a]at hd;obtain⟨⟨wh,th⟩,ew,rfl⟩:=K11.mp hd;have cw:=(K02.mp ew).1;have wm:=K0d ew;have lu':u.length<=(c+1) * st.length:=by rw[K8r];omega
    have ub:u.length<=40000:=K0h lu (K9k (show c<=1000 by omega) n40);have uP:∀x∈s::u,x<mk.length:=λx hx=>by
     rw[l3];rcases K0l.mp hx with e|e
     ·exact e ▸ Pl s hs
     ·exact Pl x (t.mem x e)
    refine W_eq (v:=[some .(a),.(i (s:Nat)),.(g (stD P)),.(g (ws.map wD)),.(r h.length),.(s wh),.(s th)]) (by unfold wD;simp only[K6,K06,K05,K04,K0g,z08,z0y,gN,z3x,gT,if_true]) ?_;have c1:cVal (eFn 3 z0e (z7 .(g) (z7 .(t) (z7 (eVar 5) aNil)))) [some .(a),.(i (s:Nat)),.(g (stD P)),.(g (ws.map wD)),.(r .(h)),.(s wh),.(s th)] (h++.lst (stD (s::u))::j)=.ok (z1n mk P wh) (h++.lst (stD (s::u))::j):=cv_h (fn_h (ds:=[maD st mk,.tup (stD P),.str wh]) (ac_h .(d) (ac_h .(d) (ac_h .(d) rfl))) rfl (by rw[z8p .(0) λx hx=>by rw[l3];exact Pl x hx];rfl));have c2:cVal (eFn 3 z0e (z7 .(g) (z7 (eVar 4) (z7 (eVar 6) aNil)))) [some .(a),.(i (s:Nat)),.(g (stD P)),.(g (ws.map wD)),.(r .(h)),.(s wh),.(s th)] (h++.lst (stD (s::u))::j)=.ok (z1n mk (s::u) th) (h++.lst (stD (s::u))::j):=cv_h (fn_h (ds:=[maD st mk,.ref .(h),.str th]) (ac_h .(d) (ac_h .(d) (ac_h .(d) rfl))) rfl (zs3 am0 (by rw[K6];omega) uP));have brn:∀{l:List Nat} {n:Str},z1n mk l n=true↔∃x∈l,bear n mk x=true:=λ{l n}=>by unfold z1n;rw[K5c]
    have met':∀{u':List Nat},(∀x∈s::u,x∈s::u')->((∃x∈P,bear wh mk x=true)->∃y∈s::u',bear th mk y=true)->∀w∈ws.take (c+1),(∃x∈P,bear w.1 mk x=true)->∃y∈s::u',bear w.2 mk y=true:=λ{u'} sub new w hw hx=>by
     rw[K31,ew]at hw;rcases K00.mp hw with a|a
     ·obtain⟨y,hy,b⟩:=met w a hx;exact⟨y,sub y hy,b⟩
     ·simp at a;subst a;exact new hx
    refine z1j (z1n mk P wh&&!z1n mk (s::u) th) (by
     cases k:z1n mk P wh with
     | true=>rw[k]at c1;rw[z7A c1];exact cn_h c2
     | false=>rw[k]at c1;exact z7r c1) ?_
    cases k:(z1n mk P wh&&!z1n mk (s::u) th) with
    | false=>
     rw[if_neg .(1)];refine z0i (w6 ⟨u,j,_,_,rfl,rfl,t,lu',met' (λx hx=>hx) λhx=>?_⟩);rw[brn.mpr hx,Z1i]at k;exact brn.mp (by cases z:z1n mk (s::u) th with|true=>rfl|false=>rw[z]at k;cases k)
    | true=>
     rw[if_pos rfl];have kp:z1n mk P wh=true:=by cases z:z1n mk P wh with|true=>rfl|false=>rw[z]at k;cases k
     obtain⟨y,yP,yb⟩:=gr.wi _ wm (brn.mp kp);have eg:eFn 2 z4f (z7 .(t) (z7 (eFn 2 z2h (z7 .(g) (z7 (eVar 6) aNil))) aNil)) [some .(a),.(i (s:Nat)),.(g (stD P)),.(g (ws.map wD)),.(r .(h)),.(s wh),.(s th)] (h++.lst (stD (s::u))::j)=.ok (.tup (stD (P.filter λx=>decide (x∈(K0b mk.length).filter λx=>bear th mk x)))) (h++.lst (stD (s::u))::j):=by
      have lr:((K0b mk.length).filter λx=>bear th mk x).length<=2000:=by
       have:=K0w (λx=>bear th mk x) (K0b mk.length);rw[K1f]at this;omega
      refine fn_h (ds:=[.tup (stD P),.tup (stD ((K0b mk.length).filter λx=>bear th mk x))]) (ac_h .(d) (ac_h (fn_h (ds:=[maD st mk,.str th]) (ac_h .(d) (ac_h .(d) rfl)) rfl (by rw[z95 .(0)];rfl)) rfl)) rfl (zl7 Pr .(0) lr)
     have gm:∀{x:Nat},x∈(P.filter λx=>decide (x∈(K0b mk.length).filter λx=>bear th mk x))↔x∈P/\bear th mk x=true:=λ{x}=>by
      rw[K08,.(i),K08,K13,l3];exact⟨λz=>⟨z.1,z.2.2⟩,λz=>⟨z.1,Pl x z.1,z.2⟩⟩
     obtain⟨r,e,he,tr,le,ew'⟩:=step [some .(a),.(i (s:Nat)),.(g (stD P)),.(g (ws.map wD)),.(r .(h)),.(s wh),.(s th)] _ u j _ rfl rfl rfl eg ⟨y,gm.mpr ⟨yP,yb⟩,yP⟩ t;refine z0M (zk9 (i:=h.length) (xs:=stD (s::u)) (ys:=stD (r++[e])) rfl am0 ew' (j9 am0) (.inr ⟨_,rfl,J6⟩) (by rw[Z9,Z9,K6];omega) (z0i (w6 ⟨u++(r++[e]),j++[.lst (stD (r++[e]))],_,_,rfl,?_,tr,by rw[K3,K8r];omega,met' (λx hx=>?_) λ_=>⟨e,by simp,(gm.mp he).2⟩⟩)))
     ·rw[K7,K28,sm0,z3X,K28]
     ·rcases K0l.mp hx with a|a
      ·exact a ▸ K18
      ·exact K14 _ (K09 _ a)
   ·rintro γ h1 ⟨u,j,v5,v6,rfl,rfl,t,lu,met⟩;rw[show (Src.con (ws.map wD)).items.length=ws.length by simp[Src.items]]at lu met;rw[K1g]at met;exact⟨u,j,_,_,rfl,rfl,t,lu,met⟩
  ·rintro γ h1 ⟨u,j,v5,v6,rfl,rfl,t,lu,met⟩;have ub:u.length<=40000:=K0h lu (K9k hw n40);obtain⟨r,e,he,tr,le,ew⟩:=step [some .(a),.(i (s:Nat)),.(g (stD P)),.(g (ws.map wD)),.(r h.length),v5,v6] [s] u j (eTup (z7 .(l) aNil)) rfl rfl rfl rfl ⟨s,by simp,hs⟩ t;obtain rfl:=K0q.mp he;refine zk9 (i:=.(h)) (xs:=stD (e::u)) (ys:=stD (r++[e])) rfl am0 ew (j9 am0) (.inr ⟨_,rfl,J6⟩) (by rw[Z9,Z9,K6];omega) ?_;rw[K7,K28,sm0,z3X,K28,<- K7,<- K28];refine Y2 (.tup (stD (e::(u++r)))) (z8g (i:=.(h)) (x:=e) rfl am0 (by rw[K3]at le;rw[K6,K3];omega)) ⟨⟨_,⟨⟨_,rfl,by rw[K7];exact tr⟩,?_,λw hw' ⟨x,hx,bx⟩=>?_⟩,rfl⟩,_,rfl⟩
   ·rw[K3,K0v]at le;rw[K6,K3,K8r];omega
   ·have xP:x∈P:=by
     rcases K0l.mp hx with a|a
     ·exact a ▸ hs
     ·refine tr.mem x ?_;rcases K00.mp a with a|a
      ·exact K09 _ a
      ·exact K0r _ (K09 _ a)
    obtain⟨y,hy,yb⟩:=met w hw' ⟨x,xP,bx⟩;refine⟨y,?_,yb⟩;rcases K0l.mp hy with a|a
    ·exact a ▸ K18
    ·exact K14 _ (K09 _ a)
 obtain⟨d,h1,e,⟨ring,hr,rfl⟩,j,rfl⟩:=key;exact⟨ring,hr,z05 e (z0K _)⟩
structure FR(st:List .(p))(mk:List (List Str))(ws:List (Str×Str))(V:List Nat)(s:Nat)(p ring:List Nat):Prop where
 sv:s∈V
 tr:∃t e u,ring=e::u/\p++ring++[e]=s::t/\Trl st V s t
 lp:p.length<=.(n)
 lr:ring.length<=(ws.length+1) * .(n)+1
 wi:∀w∈ws,(∃x∈ring,bear w.1 mk x=true)->∃y∈ring,bear w.2 mk y=true
theorem zl5(P:List .(p)):(P.flatMap λp=>((p).filter λ_=>true).map λ(y:Nat)=>D.int y)=stD P.flatten:=by
 induction P with
 | nil=>rfl
 | cons a P ih=>rw[K80,ih,filter_tt,K15,<- z3X];rfl
theorem if_W{mr:G->M Out}{Q:Out->AH->Prop}(z:W (kk γ) h λb h1=>W ((if b=true then ms else mr) γ) h1 Q):W (sIf kk ms mr γ) h Q:=by
 unfold sIf;rw[Z4];exact z.mono λb h1 w=>by cases b<;>exact w
theorem if_w{mr:G->M Out}{b:Bool}{Q:Out->AH->Prop}(e:kk γ h=.ok b h)(z:W ((if b=true then ms else mr) γ) h Q):W (sIf kk ms mr γ) h Q:=if_W (W_of e z)
theorem z9d{V:List Nat}{s:Nat}{h:AH}(q:MA st mk)(Vr:V.Pairwise (·<·))(Vl:∀x∈V,x<st.length)(hw:ws.length<=1000):
 ∃d,z1h [maD st mk,.int (s:Nat),.tup (stD V),.tup (ws.map wD)] h=.ok d h/\((d=.non/\¬ Ub st V (gl st mk ws V) s)\/∃p ring,d=.tup .(j)/\FR st mk ws V s p ring):=by
 have n40:=q.l2;have Vn:=z0G Vr;have Vle:V.length<=st.length:=z7E Vn Vl;have key:W (runF 8 z1J [maD st mk,.int (s:Nat),.tup (stD V),.tup (ws.map wD)]) h λd h1=>((d=.non/\¬ Ub st V (gl st mk ws V) s)\/∃p ring,d=.tup .(j)/\FR st mk ws V s p ring)/\∃j,h1=h++j:=by
  refine z1L ?_;show W (z1J [some .(a),.(i (s:Nat)),.(g (stD V)),.(g (ws.map wD)),none,none,none,none]) h _;unfold z1J;refine z1j (decide (s∈V) != true) (cb_h (e2_h .(d) .(d) (by rw[z6J];rfl))) ?_;by_cases sv:s∈V
  ·rw[decide_eq_true sv,show (true != true)=false from rfl,if_neg .(1)];obtain⟨P,fi,ef⟩:=zM6 (ws:=ws) (h:=h) q Vr Vl hw;have pot:=fi.pot;refine z0i (J8 (.ref .(h)) [some .(a),.(i (s:Nat)),.(g (stD V)),.(g (ws.map wD)),.(r .(h)),none,none,none] (fn_h (ds:=[maD st mk,.tup (stD V),.tup (ws.map wD)]) (ac_h .(d) (ac_h .(d) (ac_h .(d) rfl))) rfl ef) rfl ?_);have c:=zJ0 (cap:=[none,none]) (mi:=z0p (eVar 4)) (mi1:=z0o .(g)) (g:=gN 0) (g1:=gN 1) (k:=λ_=>pure true) (me:=eVar 1) (γ:=[some .(a),.(i (s:Nat)),.(g (stD V)),.(g (ws.map wD)),.(r .(h)),none,none,none]) (h:=h++[.lst (stsD P)]) (src:=.lst .(h) (stsD P)) (l:=P) (λp=>.tup (stD p)) (λp=>p) (λ_ _=>true) (λ_ y=>.int y) (z2K .(d) J6) rfl (λj=>j9 J6) (by
    have:(P.flatMap λp=>p)=P.flatten:=by simp[List.flatMap]
    rw[this];omega) λp hp=>⟨[.(g (stD p)),none],.con (stD p),λ_=>rfl,λj=>z1v .(d),rfl,λ_=>trivial,λy hy=>⟨[.(g (stD p)),.(i y)],λ_=>rfl,λ_=>rfl,λ_ _=>rfl⟩⟩
   rw[zl5]at c;have mem:∀x,x∈setN P.flatten↔Goal st mk ws V x:=λx=>by
    rw[z34,Z2t];constructor
    ·rintro⟨p,hp,hx⟩;obtain⟨_,g,hL⟩:=fi.ok p hp;exact⟨(·∈p),g,λy hy=>hL y hy,hx⟩
    ·rintro⟨S,g,hV,hx⟩;rcases fi.cov S g hV with ⟨p,hp,a⟩|⟨v,hv,_⟩|⟨v,hv,_⟩
     ·exact⟨p,hp,a x hx⟩
     ·exact absurd hv K2u
     ·exact absurd hv K2u
   have ml:∀x∈setN P.flatten,x<st.length:=λx hx=>by
    obtain⟨S,_,hV,hx⟩:=(mem x).mp hx;exact Vl x (hV x hx)
   have sl:=z7E (z0G (z38 P.flatten)) ml;obtain⟨T,eT⟩:∃T,T=setN P.flatten:=⟨_,rfl⟩;obtain⟨k,ek⟩:∃k,k=h++[O.lst (stsD P)]++[O.lst (stD P.flatten)]:=⟨_,rfl⟩;have so:eFn 1 z28 (z7 (z6q [none,none] (z0p (eVar 4)) (gN 0) (z0o .(g)) (gN 1) (λ_=>pure true) .(l)) aNil) [some .(a),.(i (s:Nat)),.(g (stD V)),.(g (ws.map wD)),.(r .(h)),none,none,none] (h++[.lst (stsD P)])=.ok (.tup (stD T)) k:=by
    rw[ek,eT];exact fn_h (ds:=[.ref (h++[O.lst (stsD P)]).length]) (ac_h c rfl) rfl (z8G J6 .(0) .(0))
   rw[<- eT]at mem ml sl;have kp:k[.(h)]?=.(l (stsD P)):=by rw[ek];exact j9 J6
   have kh:∀j,∃j',k++j=h++j':=λj=>⟨_,by rw[ek,K7,K7]⟩;refine J8 (.tup (stD T)) [some .(a),.(i (s:Nat)),.(g (stD V)),.(g (ws.map wD)),.(r .(h)),.(g (stD T)),none,none] so rfl ?_;refine J8 (.ref k.length) [some .(a),.(i (s:Nat)),.(g (stD V)),.(g (ws.map wD)),.(r .(h)),.(g (stD T)),.(r k.length),none] (h1:=k++[.lst (stD [s])]) rfl rfl ?_;refine z1r (λγ h1=>∃pre e t j,γ=[some .(a),.(i (s:Nat)),.(g (stD V)),.(g (ws.map wD)),.(r .(h)),.(g (stD T)),.(r k.length),none]/\h1=k++.lst (stD (pre++[e]))::j/\pre++[e]=s::t/\Trl st V s t/\pre.length<=.(n)/\(e∈T\/e∉T/\¬ Ub st V (gl st mk ws V) s)) ?_ ?_
   ·refine if_w (b:=decide (s∈T) != true) (cb_h (e2_h .(d) .(d) (by rw[z6J];rfl))) ?_;by_cases sg:s∈T
    ·rw[decide_eq_true sg,show (true != true)=false from rfl,if_neg .(1)];exact w6 ⟨[],s,[],[],rfl,rfl,rfl,trivial,by simp,.inl sg⟩
    ·rw[.(k) sg,show (false != true)=true from rfl,if_pos rfl];obtain⟨w,wt,ew⟩:=z6k (h:=k++[.lst (stD [s])]) (g:=T) q Vn Vl sv;have wl:w.length<=st.length:=by
      rcases wt with ⟨rfl,_⟩|⟨r,e,rfl,_,_,le⟩
      ·simp
      ·exact le
     refine(zk9 (i:=k.length) (xs:=stD [s]) (ys:=stD w) rfl J6 (fn_h (ds:=[maD st mk,.int (s:Nat),.tup (stD V),.tup (stD T)]) (ac_h .(d) (ac_h .(d) (ac_h .(d) (ac_h .(d) rfl)))) rfl ew) (j9 J6) (.inr ⟨_,rfl,J6⟩) (by rw[Z9,Z9];simp;omega) ?_);rw[K7,List.singleton_append,sm0,z3X];rcases wt with ⟨rfl,no⟩|⟨r,e,rfl,he,tr,le⟩
     ·refine w6 ⟨[],s,[],_,rfl,rfl,rfl,trivial,by simp,.inr ⟨sg,λub=>?_⟩⟩;rcases ub.path (λx hx=>by obtain⟨S,_,hV,hx⟩:=gl_mem.mp hx;exact hV x hx) with a|⟨y,hy,p⟩
      ·exact sg ((mem s).mpr (gl_mem.mp a))
      ·exact no y ((mem y).mpr (gl_mem.mp hy)) p
     ·refine w6 ⟨s::r,e,r++[e],_,rfl,rfl,rfl,tr,?_,.inl he⟩;rw[K3,K0v]at le;rw[K6];exact le
   ·rintro γ h1 ⟨pre,e,t,j,rfl,rfl,et,tr,lp,hd⟩;have li:fIx (.ref k.length) (.int (-1)) (k++.lst (stD (pre++[e]))::j)=.ok (.int (e:Nat)) (k++.lst (stD (pre++[e]))::j):=zk4 (xs:=stD pre) (d:=.int (e:Nat)) (by rw[am0,z0I]);have lv:∀(γ:G),γ[6]?=some (.(r k.length))->e2 fIx (eVar 6) (eNeg .(2)) γ (k++.lst (stD (pre++[e]))::j)=.ok (.int (e:Nat)) (k++.lst (stD (pre++[e]))::j):=λγ g6=>e2_h (Z2 g6) (y:=.int (-1)) rfl li;rw[w_cons];refine z0g (λc γ h1=>∃v,γ=[some .(a),.(i (s:Nat)),.(g (stD V)),.(g (ws.map wD)),.(r .(h)),.(g (stD T)),.(r k.length),v]/\h1=k++.lst (stD (pre++[e]))::j/\∀p∈P.take c,e∉p) (λd h1=>((d=.non/\¬ Ub st V (gl st mk ws V) s)\/∃p ring,d=.tup .(j)/\FR st mk ws V s p ring)/\∃j,h1=h++j) ?_;refine W_of (z2K .(d) (j9 kp)) ⟨⟨none,rfl,rfl,by simp⟩,?_,?_,?_,λ_ _ z=>z⟩
    ·rintro c γ h1 ⟨v,rfl,rfl,_⟩;exact j9 kp
    ·rintro c d γ h1 hd' ⟨v,rfl,rfl,no⟩;have hd':(stsD P)[c]?=some d:=hd';unfold stsD at hd';rw[K0a]at hd';obtain⟨p,ep,rfl⟩:=K11.mp hd';have pP:=K0d ep;refine W.of (a:=[some .(a),.(i (s:Nat)),.(g (stD V)),.(g (ws.map wD)),.(r .(h)),.(g (stD T)),.(r k.length),.(g (stD p))]) rfl ?_;refine z1j (decide (e∈p)) (cb_h (e2_h (lv _ rfl) .(d) (by rw[z6J,K27];rfl))) ?_;by_cases he:e∈p
     ·rw[decide_eq_true he,if_pos rfl];obtain⟨pr,gr,pV⟩:=fi.ok p pP;obtain⟨ring,rg,er⟩:=zX1 (h:=k++.lst (stD (pre++[e]))::j) (ws:=ws) q pr (λx hx=>Vl x (pV x hx)) he gr hw;refine z0M (Y2 (.tup [.tup (stD pre),.tup (stD ring)]) (h1:=k++.lst (stD (pre++[e]))::j) (z7Z (z8g (i:=k.length) (x:=e) rfl am0 .(0)) (fn_h (ds:=[maD st mk,.int (e:Nat),.tup (stD p),.tup (ws.map wD)]) (ac_h .(d) (ac_h (lv _ rfl) (ac_h .(d) (ac_h .(d) rfl)))) rfl er)) ⟨.inr ⟨pre,ring,rfl,⟨sv,?_,lp,rg.ln,rg.wi⟩⟩,kh _⟩);obtain⟨u,eu,tu⟩:=rg.hd;refine⟨t++(u++[e]),e,u,eu,?_,tr.app ?_⟩
      ·rw[eu,show s::(t++(u++[e]))=(s::t)++(u++[e]) from rfl,<- et];simp
      ·have:∀(l:List Nat) (hl:l≠[]),l=pre++[e]->l.getLast hl=e:=λl hl el=>by subst el;exact List.getLast_concat
       rw[this (s::t) .(e) et.symm];exact tu.mono pV
     ·rw[.(k) he,if_neg .(1)];refine z0i (w6 ⟨_,rfl,rfl,λp' hp'=>?_⟩);rw[K31,ep]at hp';rcases K00.mp hp' with a|a
      ·exact no p' a
      ·simp at a;exact a ▸ he
    ·rintro γ h1 ⟨v,rfl,rfl,no⟩;rw[show (Src.lst h.length (stsD P)).items.length=P.length by simp[Src.items,stsD],K1g]at no;refine Y2 .non rfl ⟨.inl ⟨rfl,?_⟩,kh _⟩;rcases hd with a|a
     ·rw[eT,z34,Z2t]at a;obtain⟨p,hp,he⟩:=a;exact absurd he (no p hp)
     ·exact a.2
  ·rw[.(k) sv,show (false != true)=true from rfl,if_pos rfl];refine z0M (Y2 .non rfl ⟨.inl ⟨rfl,λub=>?_⟩,[],by simp⟩);cases ub with
   | goal a=>obtain⟨S,_,hV,hx⟩:=gl_mem.mp a;exact sv (hV s hx)
   | step a _ _=>exact sv a
 obtain⟨d,h1,e,hd,j,rfl⟩:=key;refine⟨d,z05 e ?_,hd⟩;rcases hd with ⟨rfl,_⟩|⟨p,ring,rfl,_⟩
 ·rfl
 ·simp only[J2,k7,K5l,K0e];exact⟨z15 _,z15 _⟩
theorem Trl.at{st:List .(p)}{V:List Nat}:∀{x:Nat}{w:List Nat},Trl st V x w->∀(k:Nat) (a b:Nat),(x::w)[k]?=some a->(x::w)[k+1]?=some b->b∈nx st a
 | _,[],_,k,a,b,_,h=>by simp at h
 | _,y::r,⟨c,_,t⟩,0,a,b,h1,h2=>by
  rw[K1]at h1;rw[K2,K1]at h2;exact K0y h1 ▸ K0y h2 ▸ c
 | _,y::r,⟨_,_,t⟩,k+1,a,b,h1,h2=>t.at k a b h1 h2
theorem zj7:eLst aNil γ h=.ok (.ref h.length) (h++[.lst (stD [])]):=rfl
theorem zg0{n:Str}(hi:i<mk.length):x8 [maD st mk,.int (i:Nat),.str n]=pure (.bl (bear n mk i)):=by
 unfold x8;rw[z2m,z1w];show z1z [some .(a),.(i (i:Nat)),.(s n)]=_;unfold z1z maD bear;by_cases h:n = ""
 ·subst h;simp only[K27,K2,K1,z0A,z9,bNil,z08,decide_true,e2,eOr,eVar,z9n,if_true,ix1,sRet];rfl
 ·simp only[K27,K1k,K2,K1,z0A,z9,bNil,z08,bne_self_eq_false,decide_eq_false h,e2,eOr,eVar,z9n,if_false,zj1,ix1,ix_tup (zK4 hi),sRet];simp
theorem Z0u(e1:ma γ h=.ok (.tup (stD l)) h)(e2':mb γ h=.ok (.int (m:Nat)) h):z1u ma z3I (z2F mb) γ h=.ok (.tup (stD (l.take m))) h:=by
 have e3:z2F mb γ h=.ok (some (m:Int)) h:=by
  unfold z2F;rw[M.bind_ok e2'];rfl
 unfold z1u;rw[M.bind_ok e1,M.bind_ok (show z3I γ h=.ok none h from rfl),M.bind_ok e3,sl_tup,zk8];unfold stD;rw[Z1h];rfl
def metB(mk:List (List Str))(ring:List Nat)(w:Str×Str):Bool:=decide ((ring.filter λx=>bear w.1 mk x)=[])||!decide ((ring.filter λx=>bear w.2 mk x)=[])
theorem Z0Z{w:Str×Str}(hl:ring.length<=1000)(hr:∀x∈ring,x<mk.length):z2w [maD st mk,.tup (stD ring),wD w] h=.ok (.bl (metB mk ring w)) h:=by
 have bo:∀(γ:G) (k:AH) (x:Nat) (n:Str) (mw:G->M D),x∈ring->γ[0]?=some (some .(a))->γ[2]?=some (.(i (x:Nat)))->mw γ k=.ok (.str n) k->cVal (eFn 3 x8 (z7 .(g) (z7 .(t) (z7 mw aNil)))) γ k=.ok (bear n mk x) k:=λγ k x n mw hx g0 g2 e=>cv_h (fn_h (ds:=[maD st mk,.int (x:Nat),.str n]) (ac_h (Z2 g0) (ac_h (Z2 g2) (ac_h e rfl))) rfl (by rw[zg0 (hr x hx)];rfl));have c1:=z25 (cap:=[some 0,some 2,none]) (mi:=z0o .(l)) (g:=gN 2) (kb:=cVal (eFn 3 x8 (z7 .(g) (z7 .(t) (z7 (e2 fIx .(l) .(8)) aNil))))) (me:=eVar 2) (γ:=[some .(a),.(g (stD ring)),some (wD w),none]) (h:=h) (src:=.con (stD ring)) (l:=ring) (λx=>bear w.1 mk x) (λx=>.int x) (z1v .(d)) rfl (λ_=>trivial) .(0) λx hx=>⟨[some .(a),some (wD w),.(i (x:Nat))],λ_=>rfl,λj=>bo _ _ x w.1 _ hx rfl rfl rfl,λ_ j=>rfl⟩;obtain⟨k,ek⟩:∃k,k=h++[O.lst (stD (ring.filter λx=>bear w.1 mk x))]:=⟨_,rfl⟩;rw[show (ring.filter λx=>bear w.1 mk x).map (λ(x:Nat)=>D.int x)=stD (ring.filter λx=>bear w.1 mk x) from rfl,<- ek]at c1;have ke:k[.(h)]?=.(l ((stD (ring.filter λx=>bear w.1 mk x)))):=by rw[ek];exact J6
 refine z05 (j:=[.lst (stD (ring.filter λx=>bear w.1 mk x))]) (z2G ?_) rfl;show W (z2v [some .(a),.(g (stD ring)),some (wD w),none]) h _;unfold z2v z2a;refine J8 (.ref .(h)) [some .(a),.(g (stD ring)),some (wD w),.(r .(h))] c1 rfl ?_;have c2:=z25 (cap:=[some 0,some 2,none]) (mi:=z0o .(l)) (g:=gN 2) (kb:=cVal (eFn 3 x8 (z7 .(g) (z7 .(t) (z7 (e2 fIx .(l) .(2)) aNil))))) (me:=eVar 2) (γ:=[some .(a),.(g (stD ring)),some (wD w),.(r .(h))]) (h:=k) (src:=.con (stD ring)) (l:=ring) (λx=>bear w.2 mk x) (λx=>.int x) (z1v .(d)) rfl (λ_=>trivial) .(0) λx hx=>⟨[some .(a),some (wD w),.(i (x:Nat))],λ_=>rfl,λj=>bo _ _ x w.2 _ hx rfl rfl rfl,λ_ j=>rfl⟩;rw[show (ring.filter λx=>bear w.2 mk x).map (λ(x:Nat)=>D.int x)=stD (ring.filter λx=>bear w.2 mk x) from rfl]at c2;have f1:clE (e2 (fEqX false) (eVar 3) (eLst aNil)) [some .(a),.(g (stD ring)),some (wD w),.(r .(h))] k=.ok (.bl (decide ((ring.filter λx=>bear w.1 mk x)=[]))) k:=by
  have:=e2_h (f:=fEqX false) (ma:=eVar 3) (γ:=[some .(a),.(g (stD ring)),some (wD w),.(r .(h))]) .(d) (zj7 (h:=k)) (z73 (l:=ring.filter λx=>bear w.1 mk x) (m:=[]) (neg:=false) (j9 ke) J6);rw[K27]at this;exact z05 this rfl
 have f2:clE (e2 (fEqX true) (z00 [some 0,some 2,none] (z0o .(l)) (gN 2) (cVal (eFn 3 x8 (z7 .(g) (z7 .(t) (z7 (e2 fIx .(l) .(2)) aNil))))) .(t)) (eLst aNil)) [some .(a),.(g (stD ring)),some (wD w),.(r .(h))] k=.ok (.bl (!decide ((ring.filter λx=>bear w.2 mk x)=[]))) k:=by
  have:=e2_h (f:=fEqX true) c2 zj7 (z73 (l:=ring.filter λx=>bear w.2 mk x) (m:=[]) (neg:=true) (j9 J6) J6);rw[K5k,K7]at this;exact z05 this rfl
 refine Y2 (h1:=k) (.bl (metB mk ring w)) ?_ ⟨rfl,ek⟩;unfold eOr metB;rw[M.bind_ok f1];cases z:decide ((ring.filter λx=>bear w.1 mk x)=[]) with
 | true=>rfl
 | false=>rw[K87];exact f2
theorem z7t{V:List Nat}(q:MA st mk)(fr:FR st mk ws V s p ring)(Vl:∀x∈V,x<st.length)(hw:ws.length<=4):z2p [maD st mk,.tup (stD V),.tup (ws.map wD),.int (s:Nat),.tup .(j)] h=.ok (.bl true) h:=by
 have n40:=q.l2;have l3:=q.l3;obtain⟨t,e,u,er,et,tr⟩:=fr.tr;have lp:=fr.lp;have lr:ring.length<=201:=K0h fr.lr (by have:(ws.length+1) * .(n)<=5 * 40:=K9k .(0) n40;omega);have r1:1<=ring.length:=by rw[er];simp
 have inV:∀x∈p++ring,x∈V:=λx hx=>by
  have:x∈s::t:=by rw[<- et];exact K09 _ hx
  rcases K0l.mp this with a|a
  ·exact a ▸ fr.sv
  ·exact tr.mem x a
 have hd:(p++ring)[0]?=some s:=by
  have:(p++ring++[e])[0]?=some s:=by rw[et];rfl
  rwa [K0s (by rw[K3];omega)]at this
 have lt:t.length=(p++ring).length:=by
  have:=congrArg Z2z et;rw[K3,K0v,K6]at this;omega
 have la:(p++ring).length<=241:=by rw[K3];omega
 have rV:∀x∈ring,x<mk.length:=λx hx=>by rw[l3];exact Vl x (inV x (K0r _ hx))
 refine z05 (j:=[]) (z2G ?_) rfl;show W (z1B [some .(a),.(g (stD V)),.(g (ws.map wD)),.(i (s:Nat)),.(g .(j)),none,none,none]) h _;unfold z1B;refine z1j false (z9A (cn_h (b:=true) (cv_h (fn_h (ds:=[.tup .(j),.int (2:Nat),.int (2:Nat)]) (ac_h .(d) (ac_h rfl (ac_h rfl rfl))) rfl (by rw[z79 (K01 2) (K01 2)];rfl)))) (z9A (cn_h (b:=true) (cv_h (fn_h (ds:=[.tup (stD p),.int (0:Nat),.int (399:Nat)]) (ac_h (e2_h .(d) (y:=.int 0) rfl rfl) (ac_h rfl (ac_h rfl rfl))) rfl (by rw[z79 .(0) (by rw[Z9];omega)];rfl)))) (cn_h (b:=true) (cv_h (fn_h (ds:=[.tup (stD ring),.int (1:Nat),.int (400:Nat)]) (ac_h (e2_h .(d) (y:=.int 1) rfl rfl) (ac_h rfl (ac_h rfl rfl))) rfl (by rw[z79 (by rw[Z9];omega) (by rw[Z9];omega)];rfl)))))) ?_;rw[if_neg .(1)];refine z0i (J8 (.tup (stD (p++ring))) [some .(a),.(g (stD V)),.(g (ws.map wD)),.(i (s:Nat)),.(g .(j)),.(g ((stD (p++ring)))),none,none] (e2_h (e2_h .(d) (y:=.int 0) rfl rfl) (e2_h .(d) (y:=.int 1) rfl rfl) (by rw[zw7 (by rw[Z9,Z9];rw[K3]at la;omega),z3X];rfl)) rfl ?_);refine z1j false (z9A (cb_h (e2_h (y9 .(d) (by rw[z1D,Z9];rfl)) (y:=.int (400:Nat)) rfl (by
  rw[z7O];show Res.ok (D.bl (decide (((400:Nat):Int)<((p++ring).length:Nat)))) _=_;rw[decide_eq_false .(0)]))) (cb_h (e2_h (e2_h .(d) (y:=.int (0:Nat)) rfl (by rw[show fIx (.tup (stD (p++ring))) (.int (0:Nat))=pure (.int (s:Nat)) from ix_tup (z0w (by unfold stD;rw[K0a,hd];rfl))];rfl)) .(d) (by rw[z8k,decide_eq_true rfl];rfl)))) ?_
 rw[if_neg .(1)];refine z0i (z1r (λγ h1=>∃v,γ=[some .(a),.(g (stD V)),.(g (ws.map wD)),.(i (s:Nat)),.(g .(j)),.(g ((stD (p++ring)))),v,none]/\h1=h) ?_ ?_)
 ·refine z0g (λc γ h1=>∃v,γ=[some .(a),.(g (stD V)),.(g (ws.map wD)),.(i (s:Nat)),.(g .(j)),.(g ((stD (p++ring)))),v,none]/\h1=h) (λ_ _=>False) ?_;refine W_of (z1v (xs:=stD (p++ring)) .(d)) ⟨⟨none,rfl,rfl⟩,λ_ _ _ _=>trivial,?_,?_,λ_ _ z=>z.elim⟩
  ·rintro c d γ h1 hd' ⟨v,rfl,rfl⟩;obtain⟨x,rfl,ex⟩:=z3b (show (stD (p++ring))[c]?=some d from hd');have xV:=inV x (K0d ex);refine W.of (a:=[some .(a),.(g (stD V)),.(g (ws.map wD)),.(i (s:Nat)),.(g .(j)),.(g ((stD (p++ring)))),.(i (x:Nat)),none]) rfl ?_;refine z1j false (z9A (cn_h (b:=true) (cv_h (fn_h (ds:=[.int (x:Nat),.int 0,.int (st.length:Nat)]) (ac_h .(d) (ac_h rfl (ac_h (y9 (e2_h .(d) (y:=.int 0) rfl (by rw[z36];rfl)) (by rw[z1D,z16];rfl)) rfl))) rfl (by rw[zp3 (Vl x xV)];rfl)))) (cb_h (e2_h .(d) .(d) (by rw[z6J,decide_eq_true xV];rfl)))) ?_;rw[if_neg .(1)];exact z0i (w6 ⟨_,rfl,rfl⟩)
  ·rintro γ h1 ⟨v,rfl,rfl⟩;exact⟨v,rfl,rfl⟩
 ·rintro γ h1 ⟨v,rfl,rfl⟩;refine J8 (.tup (stD (s::t))) [some .(a),.(g (stD V)),.(g (ws.map wD)),.(i (s:Nat)),.(g .(j)),.(g ((stD (s::t)))),v,none] (e2_h .(d) (Z0u (l:=ring) (m:=1) (e2_h .(d) (y:=.int 1) rfl rfl) rfl) (by rw[zw7 (by rw[Z9,Z9,K1e];omega),z3X,show ring.take 1=[e] by rw[er];rfl,et];rfl)) rfl ?_;refine z1r (λγ h2=>∃v',γ=[some .(a),.(g (stD V)),.(g (ws.map wD)),.(i (s:Nat)),.(g .(j)),.(g ((stD (s::t)))),v,v']/\h2=h1) ?_ ?_
  ·refine z0g (λc γ h2=>∃v',γ=[some .(a),.(g (stD V)),.(g (ws.map wD)),.(i (s:Nat)),.(g .(j)),.(g ((stD (s::t)))),v,v']/\h2=h1) (λ_ _=>False) ?_;refine W_of (z0b (n:=t.length) (e2_h (y9 .(d) (by rw[z1D,Z9];rfl)) (y:=.int (1:Nat)) rfl (by
    rw[z8X];show Res.ok (D.int ((((s::t).length:Nat):Int) - ((1:Nat):Int))) _=_;rw[K6];congr 2;omega)) .(0)) ⟨⟨none,rfl,rfl⟩,λ_ _ _ _=>trivial,?_,?_,λ_ _ z=>z.elim⟩
   ·rintro c d γ h2 hd' ⟨v',rfl,rfl⟩;obtain⟨rfl,hc⟩:=z0V (show (J9 t.length)[c]?=some d from hd');obtain⟨a,ea⟩:∃a,(s::t)[c]?=some a:=⟨_,K8 (by rw[K6];omega)⟩;obtain⟨b,eb⟩:∃b,(s::t)[c+1]?=some b:=⟨_,K8 (by rw[K6];omega)⟩;have al:a<st.length:=by
     rcases K0l.mp (K0d ea) with z|z
     ·exact z ▸ Vl s fr.sv
     ·exact Vl a (tr.mem a z)
    have ixk:∀{k x:Nat},(s::t)[k]?=some x->fIx (.tup (stD (s::t))) (.int (k:Nat))=pure (.int (x:Nat)):=λ{k x} ek=>ix_tup (z0w (by unfold stD;rw[K0a,ek];rfl));refine W.of (a:=[some .(a),.(g (stD V)),.(g (ws.map wD)),.(i (s:Nat)),.(g .(j)),.(g ((stD (s::t)))),v,.(i (c:Nat))]) rfl ?_;refine z1j false (cb_h (e2_h (e2_h .(d) (e2_h .(d) (y:=.int (1:Nat)) rfl (by rw[z1O];rfl)) (by rw[show (((c:Nat):Int)+((1:Nat):Int))=((c+1:Nat):Int) by omega,ixk eb];rfl)) (Z07 .(d) (e2_h .(d) .(d) (by rw[ixk ea];rfl)) al) (by rw[z6J,decide_eq_true (tr.at c a b ea eb)];rfl))) ?_;rw[if_neg .(1)];exact z0i (w6 ⟨_,rfl,rfl⟩)
   ·rintro γ h2 ⟨v',rfl,rfl⟩;exact⟨v',rfl,rfl⟩
  ·rintro γ h2 ⟨v',rfl,rfl⟩;have cw:=z3l (cap:=[some 0,some 4,none]) (mi:=z0o .(t)) (g:=gN 2) (kb:=cNot (cVal (eFn 3 z2w (z7 .(g) (z7 (e2 fIx .(l) .(2)) (z7 .(t) aNil)))))) (me:=eVar 2) (γ:=[some .(a),.(g (stD V)),.(g (ws.map wD)),.(i (s:Nat)),.(g .(j)),.(g ((stD (s::t)))),v,v']) (h:=h2) (h1:=h2) (l:=ws) (src:=.con (ws.map wD)) wD (by rintro⟨a,b⟩ ⟨c,d⟩ e;cases e;rfl) (λw=>!metB mk ring w) wD (z1v .(d)) rfl (λ_=>trivial) .(0) λw hw=>⟨[some .(a),.(g .(j)),some (wD w)],λ_=>rfl,λj=>cn_h (cv_h (fn_h (ds:=[maD st mk,.tup (stD ring),wD w]) (ac_h .(d) (ac_h (e2_h .(d) (y:=.int 1) rfl rfl) (ac_h .(d) rfl))) rfl (Z0Z .(0) rV))),λ_ j=>rfl⟩;have none:ws.filter (λw=>!metB mk ring w)=[]:=List.filter_eq_nil_iff.mpr λw hw=>by
    rw[Bool.not_eq_true,Bool.not_eq_false'];unfold metB;by_cases z:(ring.filter λx=>bear w.1 mk x)=[]
    ·rw[decide_eq_true z];rfl
    ·rw[.(k) z,K87];obtain⟨x,hx⟩:=List.exists_mem_of_ne_nil _ z;obtain⟨a,b⟩:=K08.mp hx;obtain⟨y,hy,by'⟩:=fr.wi w hw ⟨x,a,b⟩;rw[.(k) λz=>List.ne_nil_of_mem (K08.mpr ⟨hy,by'⟩) z];rfl
   rw[none,K1u]at cw;refine Y2 (h1:=h2) (.bl true) ?_ ⟨rfl,by simp⟩;have:=e2_h (f:=fEqX false) cw zj7 (z73 (l:=[]) (m:=[]) (neg:=false) (j9 J6) J6);rw[K7]at this;exact z05 this rfl
def bAt(B:List .(p))(y:Nat):List Nat:=(B[y]?).getD []
theorem z7i{b:List Nat}(hy:y<B.length):bAt (B.set y b) z=if z=y then b else bAt B z:=by
 unfold bAt;by_cases e:z=y
 ·subst e;rw[if_pos rfl,K1p hy];rfl
 ·rw[if_neg e,K22 (λq=>e q.symm)]
structure OD(n:Nat)(O:List Nat):Prop where
 nd:O.Nodup
 len:O.length=n
 lt:∀x∈O,x<n
def toN(O:List Nat)(z t k:Nat):Nat:=if k+1<z then (O[k+1]?).getD 0 else (O[t]?).getD 0
structure LB(st:List .(p))(O:List Nat)(z t k:Nat)(B:List .(p)):Prop where
 len:B.length=.(n)
 nd:∀i,(bAt B i).Nodup
 lt:∀i x,x∈bAt B i->x<.(n)
 got:∀j x,j<k->O[j]?=some x->toN O z t j∈bAt B x
section
variable{O:List Nat}{t k:Nat}
theorem OD.get(o:OD st.length O)(hk:k<st.length):∃x,O[k]?=some x/\x<st.length:=⟨_,K8 (by rw[o.len];exact hk),o.lt _ (K4h _)⟩
theorem zO9(o:OD st.length O)(hz:z<=st.length)(ht:t<z):toN O z t k<st.length:=by
 unfold toN;split
 ·obtain⟨x,e,l⟩:=o.get (k:=k+1) .(0);rw[e];exact l
 ·obtain⟨x,e,l⟩:=o.get (k:=t) .(0);rw[e];exact l
theorem LB.keep(b:LB st O z t k B)(ex:O[k]?=some x)(h:toN O z t k∈bAt B x):LB st O z t (k+1) B:=
 ⟨b.len,b.nd,b.lt,λj y hj ey=>by
  rcases K55 j k with l|l
  ·exact b.got j y l ey
  ·obtain rfl:j=k:=by omega
   rw[ex]at ey;exact K0y ey ▸ h⟩
theorem LB.add(o:OD st.length O)(hz:z<=st.length)(ht:t<z)(b:LB st O z t k B)(ex:O[k]?=some x)(h:toN O z t k∉bAt B x):LB st O z t (k+1) (B.set x (bAt B x++[toN O z t k])):=by
 have xl:x<B.length:=by rw[b.len];exact o.lt x (K0d ex)
 refine⟨by rw[K5p];exact b.len,λi=>?_,λi y hy=>?_,λj y hj ey=>?_⟩
 ·rw[z7i xl];split
  ·rw[K1c];exact⟨b.nd x,by simp,λa ha c hc=>by rw[K0q]at hc;exact λe=>h (hc ▸ e ▸ ha)⟩
  ·exact b.nd i
 ·rw[z7i xl]at hy;split at hy
  ·rcases K00.mp hy with a|a
   ·exact b.lt x y a
   ·rw[K0q]at a;exact a ▸ zO9 o hz ht
  ·exact b.lt i y hy
 ·rw[z7i xl];rcases K55 j k with l|l
  ·split
   ·rename_i e;exact K09 _ (e ▸ b.got j y l ey)
   ·exact b.got j y l ey
  ·obtain rfl:j=k:=by omega
   rw[ex]at ey;rw[if_pos (K0y ey).symm];exact K0r _ .(e)
def stN(n:Nat)(B:List .(p)):List .(p):=(K0b n).map λi=>x9 (bAt B i)
theorem zv5(hx:x<n):nx (stN n B) x=x9 (bAt B x):=by
 unfold nx stN;rw[K0a,K35 hx];rfl
theorem zF8(q:MA st mk)(b:LB st O z t k B)(m:MK (Y7 ns)):MA (stN st.length B) (mk.set x (Y7 ns)):=by
 have e:(stN st.length B).length=st.length:=by unfold stN;simp
 refine⟨by rw[e];exact q.l1,by rw[e];exact q.l2,by rw[e,K5p];exact q.l3,λl hl=>?_,λl hl y hy=>?_,λl hl=>?_⟩
 ·unfold stN at hl;obtain⟨i,_,rfl⟩:=K1a.mp hl;exact z1I (b.nd i)
 ·rw[e];unfold stN at hl;obtain⟨i,_,rfl⟩:=K1a.mp hl;exact b.lt i y (sortN_mem.mp hy)
 ·rcases List.mem_or_eq_of_mem_set hl with a|a
  ·exact q.m1 l a
  ·exact a ▸ m
theorem z4A(o:OD st.length O)(b:LB st O z t z B){j:Nat}(hj:j+1<z)(ex:O[j]?=some x)(ey:O[j+1]?=some y):y∈nx (stN st.length B) x:=by
 rw[zv5 (o.lt x (K0d ex)),sortN_mem];have:=b.got j x .(0) ex;unfold toN at this;rw[if_pos hj,ey]at this;exact this
theorem z9Z(o:OD st.length O)(b:LB st O z t z B)(ht:t<z)(ex:O[z - 1]?=some x)(ey:O[t]?=some y):y∈nx (stN st.length B) x:=by
 rw[zv5 (o.lt x (K0d ex)),sortN_mem];have:=b.got (z - 1) x .(0) ex;unfold toN at this;rw[if_neg .(0),ey]at this;exact this
theorem zy9(o:OD st.length O)(hz:z<=st.length)(ht:t<z)(b:LB st O z t z B)(l3:mk.length=st.length)(hc:O[t]?=some c)(hs:O[0]?=some s)(hw:∀w∈ws,w.2∈ns):
 Ub (stN .(n) B) (x9 (O.take z)) (gl (stN .(n) B) (mk.set c (Y7 ns)) ws (x9 (O.take z))) s:=by
 let S:Nat->Prop:=λx=>∃j,t<=j/\j<z/\O[j]?=some x;have gt:∀j,j<z->∃x,O[j]?=some x:=λj hj=>by obtain⟨x,e,_⟩:=o.get (k:=j) .(0);exact⟨x,e⟩
 have fw:∀(n i j x y:Nat),t<=i->j<z->j=i+(n+1)->O[i]?=some x->O[j]?=some y->Pt (stN .(n) B) S x y:=by
  intro n;induction n with
  | zero=>intro i j x y hi hj e ex ey;exact .one ⟨i,hi,by omega,ex⟩ ⟨j,by omega,hj,ey⟩ (z4A o b .(0) ex (by rw[<- e];exact ey))
  | succ n ih=>
   intro i j x y hi hj e ex ey;obtain⟨m,em⟩:=gt (i+1) .(0);exact .cons ⟨i,hi,by omega,ex⟩ (z4A o b .(0) ex em) (ih (i+1) j m y .(0) hj .(0) em ey)
 obtain⟨l,el⟩:=gt (z - 1) .(0);have bk:Pt (stN .(n) B) S l c:=.one ⟨z - 1,by omega,by omega,el⟩ ⟨t,K01 _,ht,hc⟩ (z9Z o b ht el hc);have gr:GR (stN .(n) B) (mk.set c (Y7 ns)) ws S:=by
  refine⟨⟨c,t,K01 _,ht,hc⟩,?_,λw hw' _=>⟨c,⟨t,K01 _,ht,hc⟩,?_⟩⟩
  ·rintro x y ⟨i,hi,hi2,ex⟩ ⟨j,hj,hj2,ey⟩;have p1:Pt (stN .(n) B) S x c:=by
    rcases K55 i (z - 1) with a|a
    ·exact(fw (z - 1 - i - 1) i (z - 1) x l hi .(0) .(0) ex el).trans bk
    ·obtain rfl:i=z - 1:=by omega
     rw[el]at ex;exact K0y ex ▸ bk
   rcases K55 t j with a|a
   ·exact p1.trans (fw (j - t - 1) t j c y (K01 _) hj2 .(0) hc ey)
   ·obtain rfl:j=t:=by omega
    rw[hc]at ey;exact K0y ey ▸ p1
  ·unfold bear;rw[K1p (by rw[l3];exact o.lt c (K0d hc)),Option.getD_some,decide_eq_true (sortS_mem.mpr (hw w hw')),Bool.or_true]
 have inV:∀j x,j<z->O[j]?=some x->x∈x9 (O.take z):=λj x hj ex=>sortN_mem.mpr (K0d (i:=j) (by rw[K4k,if_pos hj];exact ex));have cg:Ub (stN .(n) B) (x9 (O.take z)) (gl (stN .(n) B) (mk.set c (Y7 ns)) ws (x9 (O.take z))) c:=.goal (gl_mem.mpr ⟨S,gr,λy ⟨j,_,hj,ey⟩=>inV j y hj ey,⟨t,K01 _,ht,hc⟩⟩);have up:∀(n k x:Nat),k+n=t->O[k]?=some x->Ub (stN .(n) B) (x9 (O.take z)) (gl (stN .(n) B) (mk.set c (Y7 ns)) ws (x9 (O.take z))) x:=by
  intro n;induction n with
  | zero=>
   intro k x hk ex;obtain rfl:k=t:=by omega
   rw[hc]at ex;exact K0y ex ▸ cg
  | succ n ih=>
   intro k x hk ex;obtain⟨m,em⟩:=gt (k+1) .(0);exact .step (inV k x .(0) ex) (z4A o b .(0) ex em) (ih (k+1) m .(0) em)
 exact up t 0 s .(0) hs
end
def z5B(L n:Nat):List D:=(K0b n).map λi=>.ref (L+1+i)
def bkH(h:AH)(B:List .(p)):AH:=h++(.lst (z5B h.length B.length)::B.map λb=>.lst (stD b))
section
variable{Q:Out->AH->Prop}
theorem z8o:(bkH h B)[h.length]?=.(l (z5B h.length B.length)):=am0
theorem zf8(hy:y<B.length):(bkH h B)[h.length+1+y]?=.(l ((stD (bAt B y)))):=by
 unfold bkH;rw[K0i .(0),show .(h)+1+y - .(h)=y+1 by omega,K2,K0a];unfold bAt;rw[K8 hy];rfl
theorem zW9{b:List Nat}:(bkH h B).set (h.length+1+y) (.lst (stD b))=bkH h (B.set y b):=by
 unfold bkH;rw[K16 _ _ .(0),show .(h)+1+y - .(h)=y+1 by omega,K05,K5p,List.map_set]
theorem zE3{L:Nat}(hy:y<n):atI (z5B L n) (y:Int)=.(r (L+1+y)):=by
 refine z0w ?_;unfold z5B;rw[K0a,K35 hy];rfl
theorem zW7:(bkH h B).length=h.length+1+B.length:=by
 unfold bkH;rw[K3,K6,K0c];omega
theorem zR0(g1:γ[1]?=some (some .(a)))(hs:st.length<=1000)(hr:∀l∈st,l.length<=1000):z00 [none] (z0o (e2 fIx .(l) .(8))) (gN 0) (λ_=>pure true) (Z8 z5Q (z7 .(g) aNil)) γ h=.ok (.ref h.length) (bkH h st):=by
 have:W (z00 [none] (z0o (e2 fIx .(l) .(8))) (gN 0) (λ_=>pure true) (Z8 z5Q (z7 .(g) aNil)) γ) h λd h'=>d=.ref .(h)/\h'=bkH h st:=by
  refine zw6 ?_;refine W_of (z1v (xs:=stsD st) (e2_h (Z2 g1) (y:=.int 0) rfl (by rw[z36];rfl))) ⟨λi h'=>h'=bkH h (st.take i),by simp[bkH,z5B],λ_ _ _=>trivial,?_,?_⟩
  ·rintro i d _ e rfl;have e:(stsD st)[i]?=some d:=e;unfold stsD at e;rw[K0a]at e;obtain⟨l,el,rfl⟩:=K11.mp e;have hi:=(K02.mp el).1;have ti:(st.take i).length=i:=by rw[K1e];omega
   refine W.of (a:=[.(g (stD l))]) rfl (W.of (a:=true) rfl ?_);rw[if_pos rfl];refine W_of (y9 .(d) (show z5Q [.tup (stD l)] (bkH h (st.take i))=.ok (.ref (bkH h (st.take i)).length) (bkH h (st.take i)++[.lst (stD l)]) from z61 (by rw[Z9];have:=hr l (K0d el);omega))) ?_;refine W_of (z3e (i:=h.length) (xs:=z5B h.length (st.take i).length) (j9 z8o) (by unfold z5B;rw[K0c,K1f];omega)) ?_;rw[zW7,ti];unfold bkH;rw[K7,K28,sm0];dsimp only;rw[K31,el,K36];simp only[Option.toList_some,K3,K0v,ti,K0p,K1u];congr 2;unfold z5B;rw[Z35,K36];rfl
  ·rintro _ rfl;rw[show (Src.con (stsD st)).items.length=.(n) from z16 st,K1g];exact⟨rfl,rfl⟩
 obtain⟨d,h',e,rfl,rfl⟩:=this;exact e
theorem zu7{j:Nat}(ei:h[i]?=.(l xs))(ej:h[j]?=.(l ys))(l:xs.length+ys.length<=100000):fAdd (.ref i) (.ref j) h=.ok (.ref h.length) (h++[.lst (xs++ys)]):=by
 have g1:getL i h=.ok xs h:=by unfold getL;rw[ei]
 have g2:getL j h=.ok ys h:=by unfold getL;rw[ej]
 show ((getL i >>= λx=>getL j >>= λy=>newL (x++y)):M D) h=_;rw[M.bind_ok g1,M.bind_ok g2];unfold newL;rw[if_pos (K0h (by rw[K3];exact l) .(1))]
theorem zF7{ml mh:G->M (Option Int)}{lo hi:Option Int}(e1:ma γ h=.ok (.ref i) h)(e:h[i]?=.(l xs))(el:ml γ h=.ok lo h)(eh:mh γ h=.ok hi h)(ec:cutD xs lo hi=ys)(hl:ys.length<=1000000):z1u ma ml mh γ h=.ok (.ref h.length) (h++[.lst ys]):=by
 unfold z1u;rw[M.bind_ok e1,M.bind_ok el,M.bind_ok eh];unfold fSl;dsimp only;have g:getL i h=.ok xs h:=by unfold getL;rw[e]
 rw[M.bind_ok g,ec];exact z61 hl
theorem oS_h(e:mb γ h=.ok (.int (n:Nat)) h):z2F mb γ h=.ok (some (n:Int)) h:=by
 unfold z2F;rw[M.bind_ok e];rfl
theorem zQ9{v:D}(eo:mo γ h=.ok (.ref i) h)(e:h[i]?=.(l xs))(hl:xs.length<1000000)(ev:me γ h=.ok v h)(z:W (mt γ) (h.set i (.lst (xs++[v]))) Q):W (z9 (z04 (eM1 y0 mo me)) mt γ) h Q:=by
 refine z39 ?_;unfold eM1;rw[Z4];refine W_of eo ?_;rw[Z4];refine W_of (z2o e) ?_;rw[Z4];exact W_of ev (W_of (z3e e hl) z)
theorem Z0s{mi:G->M D}{v:D}(e:ma γ h=.ok v h)(eb:mo γ h=.ok (.ref i) h)(ec:mi γ h=.ok (.int (y:Nat)) h)(ei:h[i]?=.(l xs))(hy:y<xs.length)(z:W (mt γ) (h.set i (.lst (xs.set y v))) Q):W (z9 (sAsg ma (gIx mo mi)) mt γ) h Q:=by
 rw[w_cons];unfold sAsg gIx;rw[Z4];refine W_of e ?_;rw[Z4,Z4];refine W_of eb ?_;rw[Z4];refine W_of ec ?_;rw[Z4];have f1:fSet (.ref i) (.int (y:Nat)) v h=.ok () (h.set i (.lst (xs.set y v))):=by
  unfold fSet;dsimp only;rw[ei];dsimp only;have:ixN xs.length (y:Int)=some y:=by
   unfold ixN;simp[hy]
  rw[this]
 refine W_of f1 ?_;rw[W_pure,W_pure];exact z
theorem if_h{k:G->M Bool}{b:Bool}{r:Res D}(e:k γ h=.ok b h)(z:(if b=true then ma γ h else mb γ h)=r):eIf k ma mb γ h=r:=by
 unfold eIf;rw[M.bind_ok e];cases b<;>exact z
end
theorem zQ7(e:me γ h=.ok d h):eLst (z7 me aNil) γ h=.ok (.ref h.length) (h++[.lst [d]]):=by
 unfold eLst;rw[M.bind_ok (ac_h e rfl)];rfl
theorem zN6{k:Int}(p:PS h k r)(cl:CL r)(hk:k<300000)(e:r[i]?=.(l (ns.map .str)))(hn:ns.length<=8)(hg:NS ns)(q:MA st mk)(hw:∀w∈ws,w.2∈ns){Q:D->AH->Prop}
 (fin:∀st' mk' V s h',MA st' mk'->V.Pairwise (·<·)->(∀x∈V,x<st'.length)->s<st'.length->Ub st' V (gl st' mk' ws V) s->PS h' (k+500) (r++[.lst [maD st' mk',.tup (stD V),.int (s:Nat)]])->Q (.ref (r.length+3)) h') :
 W (z32 [.ref 2,maD st mk,.ref (i+3)]) h Q:=by
 have n40:=q.l2;have n1:=q.l1;have l3:=q.l3;have hl:=p.len;refine zu4 p cl ?_;refine z1L ?_;show W (z1Y [.(r 2),some .(a),.(r (i+3)),none,none,none,none,none,none,none,none,none,none]) h _;unfold z1Y z2a;refine J8 (.int (st.length:Nat)) [.(r 2),some .(a),.(r (i+3)),.(i (st.length:Nat)),none,none,none,none,none,none,none,none,none] (y9 (e2_h .(d) (y:=.int 0) rfl (by rw[z36];rfl)) (by rw[z1D,z16];rfl)) rfl ?_;refine J8 (.ref (r.length+3)) [.(r 2),some .(a),.(r (i+3)),.(i (st.length:Nat)),.(r (r.length+3)),none,none,none,none,none,none,none,none] (h1:=h++[.lst (stD (K0b .(n)))]) ((Z0y (tup:=false) (n:=.(n)) .(d) .(0)).trans (by
  show newL (J9 .(n)) h=_;rw[z61 (by simp[J9];omega),hl];rfl)) rfl ?_
 refine z1r (λγ h1=>∃O a j v5 v6,γ=[.(r 2),some .(a),.(r (i+3)),.(i (st.length:Nat)),.(r (a+3)),v5,v6,none,none,none,none,none,none]/\PS h1 (k+50) (r++j)/\(r++j)[a]?=.(l (stD O))/\OD .(n) O) ?_ ?_
 ·refine z0g (λc γ h1=>∃O a j v5 v6,γ=[.(r 2),some .(a),.(r (i+3)),.(i (st.length:Nat)),.(r (a+3)),v5,v6,none,none,none,none,none,none]/\PS h1 (k+c) (r++j)/\(r++j)[a]?=.(l (stD O))/\OD .(n) O) (λ_ _=>False) ?_;refine W_of (z0b (n:=st.length) .(d) .(0)) ⟨⟨K0b st.length,r.length,[.lst (stD (K0b st.length))],none,none,rfl,by simpa using p.app [.lst (stD (K0b st.length))],J6,⟨K8g,K1f,λx hx=>K13.mp hx⟩⟩,λ_ _ _ _=>trivial,?_,?_,λ_ _ f=>f.elim⟩
  ·rintro c d γ h1 hd ⟨O,a,j,v5,v6,rfl,p1,ea,od⟩;obtain⟨rfl,hc⟩:=z0V (show (J9 .(n))[c]?=some d from hd);refine W.of (a:=[.(r 2),some .(a),.(r (i+3)),.(i (st.length:Nat)),.(r (a+3)),.(i (c:Nat)),v6,none,none,none,none,none,none]) rfl ?_;refine z0r (λd h2=>∃t:Nat,t<.(n)/\d=.int (t:Nat)/\PS h2 (k+(c+1:Nat)) (r++j)) ?_ ?_
   ·simp only[K2,K1,K6,K06,K0g,z0h,Z4,z0a,W_pure,z7,aNil,e2,eFn,eVar,if_true,z8X];refine x6 p1 .(0) .(0) .(0) λt h2 t0 t1 p2=>?_;obtain⟨t,rfl⟩:=K1r t0;exact⟨t,by omega,rfl,p2.up .(0)⟩
   rintro _ h2 ⟨t,ht,rfl,p2⟩;have eh:h2[a+3]?=.(l (stD O)):=by rw[p2.get];exact ea
   obtain⟨x,ex,_⟩:=od.get ht;have ol:=od.len;have q4:=((p2.app [.lst (stD (O.take t))]).app [.lst (stD (O.drop (t+1)))]).app [.lst (stD (O.take t++O.drop (t+1)))] |>.app [.lst (stD [x])]
   have q5:=q4.app [.lst (stD (O.take t++O.drop (t+1)++[x]))];have l4:=q4.len;refine J8 (.ref (h2++[FT.O.lst (stD (O.take t))]++[FT.O.lst (stD (O.drop (t+1)))]++[FT.O.lst (stD (O.take t++O.drop (t+1)))]++[FT.O.lst (stD [x])]).length) [.(r 2),some .(a),.(r (i+3)),.(i (st.length:Nat)),.(r ((h2++[FT.O.lst (stD (O.take t))]++[FT.O.lst (stD (O.drop (t+1)))]++[FT.O.lst (stD (O.take t++O.drop (t+1)))]++[FT.O.lst (stD [x])]).length)),.(i (c:Nat)),.(i (t:Nat)),none,none,none,none,none,none] (h1:=h2++[.lst (stD (O.take t))]++[.lst (stD (O.drop (t+1)))]++[.lst (stD (O.take t++O.drop (t+1)))]++[.lst (stD [x])]++[.lst (stD (O.take t++O.drop (t+1)++[x]))]) ?_ rfl ?_
   ·refine e2_h (e2_h (zF7 (ys:=stD (O.take t)) .(d) eh rfl (oS_h (n:=t) .(d)) (by rw[zk8];unfold stD;rw[Z1h]) (by rw[Z9,K1e];omega)) (zF7 (ys:=stD (O.drop (t+1))) .(d) (j9 eh) (oS_h (n:=t+1) (e2_h .(d) (y:=.int (1:Nat)) rfl (by rw[z1O];rfl))) rfl (by rw[zP7];unfold stD;rw[List.map_drop]) (by rw[Z9,K4g];omega)) (zu7 (j9 J6) J6 (by rw[Z9,Z9,K1e,K4g];omega))) (zQ7 (d:=.int (x:Nat)) (e2_h .(d) .(d) (ix_h (j9 (j9 (j9 eh))) (z0w (by unfold stD;rw[K0a,ex];rfl))))) ?_;rw[z3X];refine(zu7 (xs:=stD (O.take t++O.drop (t+1))) (ys:=stD [x]) (j9 ?_) J6 (by rw[Z9,Z9,K3,K1e,K4g];simp;omega)).trans ?_
    ·exact J6
    ·rw[z3X]
   ·refine w6 ⟨O.take t++O.drop (t+1)++[x],_,j++([.lst (stD (O.take t))]++([.lst (stD (O.drop (t+1)))]++([.lst (stD (O.take t++O.drop (t+1)))]++([.lst (stD [x])]++[.lst (stD (O.take t++O.drop (t+1)++[x]))])))),_,_,by rw[l4],by simpa only[K7] using q5,?_,?_⟩
    ·have:=J6 (h:=r++j++[FT.O.lst (stD (O.take t))]++[FT.O.lst (stD (O.drop (t+1)))]++[FT.O.lst (stD (O.take t++O.drop (t+1)))]++[FT.O.lst (stD [x])]) (o:=.lst (stD (O.take t++O.drop (t+1)++[x])));simpa only[K7] using this
    ·have dc:O.drop t=x::O.drop (t+1):=by
      obtain⟨hx,e⟩:=K02.mp ex;rw[K25 hx,e]
     have pm:(O.take t++O.drop (t+1)++[x]).Perm O:=by
      rw[K7];have:=(K9c (l₁:=O.drop (t+1)) (l₂:=[x])).append_left (O.take t);rw[show [x]++O.drop (t+1)=O.drop t from dc.symm,K6k]at this;exact this
     exact⟨pm.nodup_iff.mpr od.nd,pm.length_eq.trans ol,λy hy=>od.lt y (pm.mem_iff.mp hy)⟩
  ·rintro γ h1 ⟨O,a,j,v5,v6,rfl,p1,ea,od⟩;rw[show (Src.con (J9 st.length)).items.length=st.length by simp[Src.items,J9]]at p1;exact⟨O,a,j,v5,v6,rfl,p1.up .(0),ea,od⟩
 rintro γ h1 ⟨O,a,j,v5,v6,rfl,p1,ea,od⟩;have ol:=od.len;refine z0r (λd h2=>∃z:Nat,1<=z/\z<=.(n)/\d=.int (z:Nat)/\PS h2 (k+60) (r++j)) ?_ ?_
 ·simp only[K2,K1,K6,K06,K0g,z0h,Z4,z0a,W_pure,z7,aNil,e2,eFn,eVar,if_true];refine x6 p1 .(0) .(0) .(0) λt h2 t0 t1 p2=>?_;obtain⟨t,rfl⟩:=K1r t0;rw[z1O,W_pure,show (1:Int)+(t:Int)=((t+1:Nat):Int) by omega];exact⟨t+1,by omega,by omega,rfl,p2.up .(0)⟩
 rintro _ h2 ⟨z,z1,z2,rfl,p2⟩;have eh2:h2[a+3]?=.(l (stD O)):=by rw[p2.get];exact ea
 have tl:(O.take z).length=z:=by rw[K1e];omega
 refine J8 (.tup (stD (x9 (O.take z)))) [.(r 2),some .(a),.(r (i+3)),.(i (st.length:Nat)),.(r (a+3)),v5,v6,.(i (z:Nat)),.(g ((stD (x9 (O.take z))))),none,none,none,none] (h1:=h2) (by
  have:=y9 (f:=y3) (y9 (f:=z0f) (zF7 (γ:=[.(r 2),some .(a),.(r (i+3)),.(i (st.length:Nat)),.(r (a+3)),v5,v6,.(i (z:Nat)),none,none,none,none,none]) (ma:=eVar 4) (ml:=z3I) (mh:=z2F (eVar 7)) (ys:=stD (O.take z)) .(d) eh2 rfl (oS_h (n:=z) .(d)) (by rw[zk8];unfold stD;rw[Z1h]) (by rw[Z9];omega)) (zh4 .(0) J6)) (z6v J6);rw[K7]at this;exact z05 this (z0K _)) rfl ?_
 refine z0r (λd h3=>∃t:Nat,t<z/\d=.int (t:Nat)/\PS h3 (k+70) (r++j)) ?_ ?_
 ·simp only[K2,K1,K6,K06,K0g,z0h,Z4,z0a,W_pure,z7,aNil,eFn,eVar,if_true];refine x6 p2 .(0) .(0) .(0) λt h3 t0 t1 p3=>?_;obtain⟨t,rfl⟩:=K1r t0;exact⟨t,by omega,rfl,p3.up .(0)⟩
 rintro _ H ⟨t,ht,rfl,p3⟩;have eh:H[a+3]?=.(l (stD O)):=by rw[p3.get];exact ea
 have en:H[i+3]?=.(l (ns.map .str)):=by rw[p3.get];exact j9 e
 have ixO:∀{m x:Nat} {J:AH},O[m]?=some x->fIx (.ref (a+3)) (.int (m:Nat)) (H++J)=.ok (.int (x:Nat)) (H++J):=λ{m x J} ex=>ix_h (j9 eh) (z0w (by unfold stD;rw[K0a,ex];rfl));refine J8 (.ref H.length) [.(r 2),some .(a),.(r (i+3)),.(i (st.length:Nat)),.(r (a+3)),v5,v6,.(i (z:Nat)),.(g ((stD (x9 (O.take z))))),.(i (t:Nat)),.(r H.length),none,none] (zR0 rfl .(0) λl hl=>by have:=z5h (q.s1 l hl) (q.s2 l hl);omega) rfl ?_;refine z1r (λγ h4=>∃B v5 v11,γ=[.(r 2),some .(a),.(r (i+3)),.(i (st.length:Nat)),.(r (a+3)),v5,v6,.(i (z:Nat)),.(g ((stD (x9 (O.take z))))),.(i (t:Nat)),.(r H.length),v11,none]/\h4=bkH H B/\LB st O z t z B) ?_ ?_
 ·refine z0g (λc γ h4=>∃B v5 v11,γ=[.(r 2),some .(a),.(r (i+3)),.(i (st.length:Nat)),.(r (a+3)),v5,v6,.(i (z:Nat)),.(g ((stD (x9 (O.take z))))),.(i (t:Nat)),.(r H.length),v11,none]/\h4=bkH H B/\LB st O z t c B) (λ_ _=>False) ?_;refine W_of (z0b (n:=z) .(d) .(0)) ⟨⟨st,v5,none,rfl,rfl,⟨rfl,λy=>?_,λy x hx=>?_,λj x hj=>by omega⟩⟩,λ_ _ _ _=>trivial,?_,?_,λ_ _ f=>f.elim⟩
  ·exact z0G (zT8 q y)
  ·exact Z0a (zG3 q) hx
  ·rintro c d γ h4 hd ⟨B,v5,v11,rfl,rfl,lb⟩;obtain⟨rfl,hc⟩:=z0V (show (J9 z)[c]?=some d from hd);obtain⟨x,ex,xl⟩:=od.get (k:=c) .(0);have bl:=lb.len;refine W.of (a:=[.(r 2),some .(a),.(r (i+3)),.(i (st.length:Nat)),.(r (a+3)),.(i (c:Nat)),v6,.(i (z:Nat)),.(g ((stD (x9 (O.take z))))),.(i (t:Nat)),.(r H.length),v11,none]) rfl ?_;have c1:(λγ=>do let d <- e2 fLt (e2 fAdd (eVar 5) .(2)) (eVar 7) γ;asB d:G->M Bool) [.(r 2),some .(a),.(r (i+3)),.(i (st.length:Nat)),.(r (a+3)),.(i (c:Nat)),v6,.(i (z:Nat)),.(g ((stD (x9 (O.take z))))),.(i (t:Nat)),.(r H.length),v11,none] (bkH H B)=.ok (decide (c+1<z)) (bkH H B):=cb_h (e2_h (e2_h .(d) (y:=.int (1:Nat)) rfl (by rw[z1O];rfl)) .(d) (by
    rw[z9a];show Res.ok _ _=_;congr 2;rw[K0n,.(i),.(i)];omega))
   refine J8 (.int (toN O z t c:Nat)) [.(r 2),some .(a),.(r (i+3)),.(i (st.length:Nat)),.(r (a+3)),.(i (c:Nat)),v6,.(i (z:Nat)),.(g ((stD (x9 (O.take z))))),.(i (t:Nat)),.(r H.length),.(i (toN O z t c:Nat)),none] (h1:=bkH H B) (if_h c1 (by
    unfold toN;by_cases cz:c+1<z
    ·obtain⟨y,ey,_⟩:=od.get (k:=c+1) .(0);rw[decide_eq_true cz,if_pos rfl,if_pos cz,ey];exact e2_h .(d) (e2_h .(d) (y:=.int (1:Nat)) rfl (by rw[z1O];rfl)) (ixO ey)
    ·obtain⟨y,ey,_⟩:=od.get (k:=t) .(0);rw[.(k) cz,if_neg .(1),if_neg cz,ey];exact e2_h .(d) .(d) (ixO ey))) rfl ?_
   have rw1:∀(γ:G),γ[10]?=some (.(r H.length))->γ[4]?=some (.(r (a+3)))->γ[5]?=some (.(i (c:Nat)))->e2 fIx (eVar 10) (e2 fIx (eVar 4) (eVar 5)) γ (bkH H B)=.ok (.ref (H.length+1+x)) (bkH H B):=λγ g10 g4 g5=>e2_h (Z2 g10) (e2_h (Z2 g4) (Z2 g5) (ixO ex)) (ix_h z8o (zE3 .(0)));refine z1j (decide (toN O z t c∈bAt B x) != true) (cb_h (e2_h .(d) (rw1 _ rfl rfl rfl) (zz2 (zf8 .(0))))) ?_;by_cases ti:toN O z t c∈bAt B x
   ·rw[decide_eq_true ti,show (true != true)=false from rfl,if_neg .(1)];exact z0i (w6 ⟨B,_,_,rfl,rfl,lb.keep ex ti⟩)
   ·rw[.(k) ti,show (false != true)=true from rfl,if_pos rfl];have sz:=z0q (lb.nd x) (lb.lt x);refine z0M (zQ9 (i:=H.length+1+x) (v:=.int (toN O z t c:Nat)) (rw1 _ rfl rfl rfl) (zf8 .(0)) (by rw[Z9];omega) .(d) ?_);rw[z0I,zW9];exact z0i (w6 ⟨_,_,_,rfl,rfl,lb.add od z2 ht ex ti⟩)
  ·rintro γ h4 ⟨B,v5,v11,rfl,rfl,lb⟩;rw[show (Src.con (J9 z)).items.length=z by simp[Src.items,J9]]at lb;exact⟨B,v5,v11,rfl,rfl,lb⟩
 rintro γ h4 ⟨B,v5,v11,rfl,rfl,lb⟩;obtain⟨c,ec,cL⟩:=od.get (k:=t) .(0);obtain⟨s,es',sL⟩:=od.get (k:=0) .(0);have bl:=lb.len;obtain⟨X,eX⟩:∃X,bkH H B=H++X:=⟨_,rfl⟩;have ixB:∀{m x:Nat} {J:AH},O[m]?=some x->fIx (.ref (a+3)) (.int (m:Nat)) (bkH H B++J)=.ok (.int (x:Nat)) (bkH H B++J):=λ{m x J} ex=>by rw[eX,K7];exact ixO ex
 refine J8 (.ref (bkH H B).length) [.(r 2),some .(a),.(r (i+3)),.(i (st.length:Nat)),.(r (a+3)),v5,v6,.(i (z:Nat)),.(g ((stD (x9 (O.take z))))),.(i (t:Nat)),.(r H.length),v11,.(r ((bkH H B).length))] (h1:=bkH H B++[.lst (mksD mk)]) (y9 (f:=z5Q) (d:=.tup (mksD mk)) (e2_h .(d) (y:=.int 1) rfl (by rw[zj5];rfl)) (show newL (mksD mk) (bkH H B)=_ from z61 (by unfold mksD;rw[K0c];omega))) rfl ?_;have enB:(bkH H B++[FT.O.lst (mksD mk)])[i+3]?=.(l (ns.map .str)):=j9 (by rw[eX];exact j9 en);refine Z0s (i:=(bkH H B).length) (y:=c) (v:=.tup ((Y7 ns).map .str)) (by
  have:=y9 (f:=y3) (y9 (f:=z0f) (me:=eVar 2) (γ:=[.(r 2),some .(a),.(r (i+3)),.(i (st.length:Nat)),.(r (a+3)),v5,v6,.(i (z:Nat)),.(g ((stD (x9 (O.take z))))),.(i (t:Nat)),.(r H.length),v11,.(r ((bkH H B).length))]) .(d) (z7p enB .(0))) (z6v J6);exact z05 this (by simp only[J2];exact z0z _)) .(d) (e2_h .(d) .(d) (ixB ec)) J6 (by unfold mksD;rw[K0c];omega) ?_
 rw[z8y,show (mksD mk).set c (.tup ((Y7 ns).map .str))=mksD (mk.set c (Y7 ns)) by unfold mksD;rw[List.map_set]];have cT:=z3l (ι:=Nat) (cap:=[none]) (mi:=z0p (eVar 10)) (g:=gN 0) (kb:=λ_=>pure true) (me:=clE (Z8 y3 (z7 (Z8 z0f (z7 .(g) aNil)) aNil))) (γ:=[.(r 2),some .(a),.(r (i+3)),.(i (st.length:Nat)),.(r (a+3)),v5,v6,.(i (z:Nat)),.(g ((stD (x9 (O.take z))))),.(i (t:Nat)),.(r H.length),v11,.(r ((bkH H B).length))]) (h:=bkH H B++[.lst (mksD (mk.set c (Y7 ns)))]) (h1:=H) (src:=.lst H.length (z5B H.length B.length)) (l:=K0b B.length) (λy=>.ref (H.length+1+y)) (λx y e=>by injection e with e;omega) (λ_=>true) (λy=>.tup (stD (x9 (bAt B y)))) (z2K .(d) (j9 z8o)) rfl (λj=>j9 (j9 z8o)) (by rw[K1f];omega) λy hy=>⟨[.(r (H.length+1+y))],λ_=>rfl,λ_=>rfl,λ_ j=>by
  have yl:=K13.mp hy;have sz:=z0q (lb.nd y) (lb.lt y);have:=y9 (f:=y3) (y9 (f:=z0f) (me:=eVar 0) (γ:=[.(r (H.length+1+y))]) .(d) (zh4 (h:=bkH H B++[.lst (mksD (mk.set c (Y7 ns)))]++j) (S:=bAt B y) .(0) (j9 (j9 (zf8 yl))))) (z6v J6);exact z05 this (z0K _)⟩
 rw[filter_tt,show (K0b B.length).map (λy=>D.tup (stD (x9 (bAt B y))))=stsD (stN st.length B) by unfold stsD stN;rw[K1q,bl];rfl]at cT;have cM:=z5T cT (by unfold stsD;exact y6 λl=>z0K l);have pf:=p3.app (X++[.lst (mksD (mk.set c (Y7 ns)))]);rw[<- K7,<- eX]at pf;have pl:=pf.len;have mq:=zF8 (x:=c) q lb (zy3 hg hn (Z22 ns));have e':(stN st.length B).length=st.length:=by unfold stN;simp
 refine Y2 (.ref (bkH H B++[FT.O.lst (mksD (mk.set c (Y7 ns)))]).length) (h1:=bkH H B++[.lst (mksD (mk.set c (Y7 ns)))]++[.lst [maD (stN .(n) B) (mk.set c (Y7 ns)),.tup (stD (x9 (O.take z))),.int (s:Nat)]]) ?_ ?_
 ·unfold eLst;rw[M.bind_ok (ac_h (z7Z cM (y9 .(d) (z6v J6))) (ac_h .(d) (ac_h (e2_h .(d) (y:=.int (0:Nat)) rfl (ixB es')) rfl)))];rfl
 ·refine⟨k+500,j++X++[FT.O.lst (mksD (mk.set c (Y7 ns)))]++[FT.O.lst [maD (stN .(n) B) (mk.set c (Y7 ns)),.tup (stD (x9 (O.take z))),.int (s:Nat)]],(r++j++(X++[FT.O.lst (mksD (mk.set c (Y7 ns)))])).length,_,by rw[pl],?_,?_,?_,?_,λh2 p2=>fin _ _ _ _ h2 mq (z1I (od.nd.sublist (Z2a z O))) (λx hx=>by rw[e'];exact od.lt x (List.mem_of_mem_take (sortN_mem.mp hx))) (by rw[e'];exact sL) (zy9 od z2 ht lb l3 ec es' hw) p2⟩
  ·have:=(pf.app [FT.O.lst [maD (stN .(n) B) (mk.set c (Y7 ns)),.tup (stD (x9 (O.take z))),.int (s:Nat)]]).up (k':=k+500) .(0);simpa only[K7] using this
  ·rw[K7,K3];omega
  ·have:=J6 (h:=r++j++(X++[FT.O.lst (mksD (mk.set c (Y7 ns)))])) (o:=.lst [maD (stN .(n) B) (mk.set c (Y7 ns)),.tup (stD (x9 (O.take z))),.int (s:Nat)]);simpa only[K7] using this
  ·simp only[k7,K5l,K0e];exact⟨zY7 _ _,z0K _,rfl⟩
theorem Z0H{V:List Nat}(Vl:∀x∈V,x<st.length):∃u,UL st V (gl st mk ws V) u:=by
 classical
 refine⟨(K0b .(n)).filter λx=>decide (Ub st V (gl st mk ws V) x),K8g.filter _,λx=>?_⟩;rw[K08,K13,.(i)];refine⟨λz=>z.2,λz=>⟨zW3 Vl (λy hy=>?_) z,z⟩⟩;obtain⟨S,_,hV,hx⟩:=gl_mem.mp hy;exact Vl y (hV y hx)
def notU(w:Str×Str):Bool:=!decide (w.2=("unborne":Str))
theorem Z0g{m4:G->M (List D)}{x y z w:D}(em:mr γ h=.ok [x,y,z] h)(e4:m4 γ h=.ok [w] h)(f:mf [x,y,z,w] h=.ok d h):eFnP 3 1 [] [] mf mr m4 γ h=.ok d h:=by
 unfold eFnP;rw[M.bind_ok em,M.bind_ok e4,if_pos ⟨rfl,rfl⟩];exact f
theorem math:∀ns:List Int,ns.length<=63->∃h',m_law [.fl (ns.map .int)] []=.ok (.bl true) h':=by
 intro ns hn;have key:W (m_law [.fl (ns.map .int)]) [] λd _=>d=.bl true:=by
  refine z1L ?_;show W (zs7 [some (.fl (ns.map .int)),none,none,none,none,none,none,none,none,none]) [] _;unfold zs7;refine z0r (λd h1=>d=.ref 2/\PS h1 0 []) ?_ ?_
  ·simp only[K1,K6,K06,K0g,z0h,Z4,z0a,W_pure,z7,aNil,eFn,eVar,if_true];exact zm8 hn
  rintro _ h1 ⟨rfl,p1⟩;refine z0r (λd h2=>∃b,d=.bl b/\PS h2 1 []) ?_ ?_
  ·simp only[K2,K1,K6,K06,K05,K04,K0g,z0h,Z4,z0a,W_pure,z7,aNil,e2,eFn,eVar,if_true];refine x6 p1 .(0) .(1) .(1) λu h2 u0 u1 p2=>?_;rw[z4C,W_pure];exact⟨_,rfl,p2⟩
  rintro _ h2 ⟨pl,rfl,p2⟩;refine z0r (λd h3=>∃b,d=.bl b/\PS h3 2 []) ?_ ?_
  ·simp only[K2,K1,K6,K06,K05,K04,K0g,z0h,Z4,z0a,W_pure,z7,aNil,e2,eFn,eVar,if_true];refine x6 p2 .(0) .(1) .(1) λu h2 u0 u1 p2=>?_;rw[z4C,W_pure];exact⟨_,rfl,p2⟩
  rintro _ h3 ⟨sm,rfl,p3⟩;refine z0r (λd h2=>∃nn:List Str,d=.ref (0+3)/\nn.length<=8/\NS nn/\PS h2 1000 [.lst (nn.map .str)]) ?_ ?_
  ·simp only[K2,K1,K6,K06,K05,K04,K0g,z0h,Z4,z0a,W_pure,z7,aNil,e2,eFn,eVar,if_true];refine x6 p3 .(0) .(1) .(1) λd h2 d0 d1 p2=>?_;obtain⟨d,rfl⟩:=K1r d0;rw[z1O,W_pure,show (1:Int)+(d:Int)=((d+1:Nat):Int) by omega];exact ze9 p2 .nil .(0) .(0) λnn h3 ln nS p3=>⟨nn,rfl,by omega,nS,p3.up .(0)⟩
  rintro _ h4 ⟨nn,rfl,ln,nS,p4⟩;refine z1r (λγ h5=>∃st mk,γ=[some (.fl (ns.map .int)),.(r 2),some (.bl pl),some (.bl sm),.(r (0+3)),some .(a),none,none,none,none]/\MA st mk/\(sm=true->.(n)<=5)/\PS h5 5000 [.lst (nn.map .str)]) ?_ ?_
  ·refine if_w (b:=sm) (cv_h .(d)) ?_;cases sm with
   | true=>
    rw[if_pos rfl];refine z0r (λd h5=>∃st mk,d=maD st mk/\MA st mk/\.(n)<=5/\PS h5 5000 [.lst (nn.map .str)]) ?_ ?_
    ·simp only[K2,K1,K6,K06,K05,K04,K0g,z0h,Z4,z0a,W_pure,z7,aNil,eFn,eVar,if_true];exact zb0 (i:=0) (most:=5) p4 .(0) .(1) .(1) rfl ln nS λst mk h3 ma l5 p3=>⟨st,mk,rfl,ma,l5,p3.up .(0)⟩
    ·rintro _ h5 ⟨st,mk,rfl,ma,l5,p5⟩;exact w6 ⟨st,mk,rfl,ma,λ_=>l5,p5⟩
   | false=>
    rw[if_neg .(1)];refine z0r (λd h5=>∃st mk,d=maD st mk/\MA st mk/\PS h5 5000 [.lst (nn.map .str)]) ?_ ?_
    ·simp only[K2,K1,K6,K06,K05,K04,K0g,z0h,Z4,z0a,W_pure,z7,aNil,eFn,eVar,if_true];exact z77 (i:=0) p4 .(0) rfl ln nS λst mk h3 ma p3=>⟨st,mk,rfl,ma,p3.up .(0)⟩
    ·rintro _ h5 ⟨st,mk,rfl,ma,p5⟩;exact w6 ⟨st,mk,rfl,ma,(λz=>by cases z),p5⟩
  rintro γ h5 ⟨st,mk,rfl,ma,l5,p5⟩;have n40:=ma.l2;refine z0r (λd h6=>∃wl:List (Str×Str),d=.tup (wl.map wD)/\wl.length<=4/\(∀w∈wl,w.2 = "unborne"\/w.2∈nn)/\PS h6 6000 [.lst (nn.map .str)]) ?_ ?_
  ·simp only[K2,K1,K6,K06,K0g,z0h,Z4,z0a,W_pure,z7,aNil,eFn,eVar,if_true];exact zl8 (i:=0) (mo:=3) p5 (CL.nil.put (z0z nn)) .(0) rfl ln nS .(1) λwl h4 l4 wn p4=>⟨wl,rfl,l4,wn,p4.up .(0)⟩
  rintro _ h6 ⟨wl,rfl,l4,wn,p6⟩;refine z0r (λd h7=>∃V,d=.tup (stD V)/\V.Pairwise (·<·)/\(∀x∈V,x<.(n))/\PS h7 7000 [.lst (nn.map .str)]) ?_ ?_
  ·simp only[K2,K1,K6,K06,K05,K04,K0g,z0h,Z4,z0a,W_pure,z7,aNil,e2,Z8,eFn,eVar,if_true];rw[z36,W_pure,z1D,W_pure,z16];exact zO6 p6 .(0) .(0) λl h' a b ps=>⟨l,rfl,a,b,ps.up .(0)⟩
  rintro _ h7 ⟨V,rfl,Vr,Vl,p7⟩;have l1:=ma.l1;refine z0r (λd h8=>∃s:Nat,d=.int (s:Nat)/\PS h8 8000 [.lst (nn.map .str)]) ?_ ?_
  ·simp only[K2,K1,K6,K06,K05,K04,K0g,z0h,Z4,z0a,W_pure,z7,aNil,e2,Z8,eFn,eVar,if_true];rw[z36,W_pure,z1D,W_pure,z16];refine x6 p7 .(0) .(0) .(0) λd h2 d0 d1 p2=>?_;obtain⟨d,rfl⟩:=K1r d0;exact⟨d,rfl,p2.up .(0)⟩
  rintro _ h8 ⟨s,rfl,p8⟩;refine z1r (λγ h9=>∃st mk V s wl,γ=[some (.fl (ns.map .int)),.(r 2),some (.bl pl),some (.bl sm),.(r (0+3)),some .(a),.(g (wl.map wD)),.(g (stD V)),.(i (s:Nat)),none]/\MA st mk/\V.Pairwise (·<·)/\(∀x∈V,x<.(n))/\wl.length<=4/\(pl=true->Ub st V (gl st mk wl V) s)/\(pl=false->sm=true->.(n)<=5)) ?_ ?_
  ·refine if_w (b:=pl) (cv_h .(d)) ?_;cases pl with
   | false=>
    rw[if_neg .(1)];exact w6 ⟨st,mk,V,s,wl,rfl,ma,Vr,Vl,l4,(λz=>by cases z),λ_=>l5⟩
   | true=>
    rw[if_pos rfl];have cw:=z3l (cap:=[none]) (mi:=z0o (eVar 6)) (g:=gN 0) (kb:=λγ=>do let d <- e2 (fEq true) (e2 fIx .(g) .(2)) (λ_=>pure (.str "unborne")) γ;asB d) (me:=eVar 0) (γ:=[some (.fl (ns.map .int)),.(r 2),some (.bl true),some (.bl sm),.(r (0+3)),some .(a),.(g (wl.map wD)),.(g (stD V)),.(i (s:Nat)),none]) (h:=h8) (h1:=h8) (l:=wl) (src:=.con (wl.map wD)) wD zy5 notU wD (z1v .(d)) rfl (λ_=>trivial) .(0) λw hw=>⟨[some (wD w)],λ_=>rfl,λj=>cb_h (e2_h (e2_h .(d) (y:=.int 1) rfl rfl) (y:=.str "unborne") rfl (by rw[z9n,K5k];rfl)),λ_ j=>rfl⟩;refine J8 (.tup ((wl.filter notU).map wD)) [some (.fl (ns.map .int)),.(r 2),some (.bl true),some (.bl sm),.(r (0+3)),some .(a),.(g (((wl.filter notU).map wD))),.(g (stD V)),.(i (s:Nat)),none] (y9 cw (z6v J6)) rfl ?_;have p9:=p8.app [.lst ((wl.filter notU).map wD)];have wn':∀w∈wl.filter notU,w.2∈nn:=λw hw=>by
     obtain⟨a,b⟩:=K08.mp hw;rcases wn w a with c|c
     ·unfold notU at b;rw[decide_eq_true c]at b;cases b
     ·exact c
    have c9:CL ([.lst (nn.map .str)]++[.lst ((wl.filter notU).map wD)]):=(CL.nil.put (z0z nn)).put (y6 λw=>rfl);rw[w_cons];unfold sAsg;rw[Z4];simp only[K2,K1,K6,K06,K0g,z0h,Z4,z0a,W_pure,z7,aNil,Y8,eFn,eVar,if_true,reduceCtorEq,z3t];refine zN6 (i:=0) p9 c9 .(0) rfl ln nS ma wn' λst' mk' V' s' h' ma' Vr' Vl' sl' ub ps=>?_;have g9:=ps.get ([.lst (nn.map .str)]++[.lst ((wl.filter notU).map wD)]:AH).length;rw[J6]at g9;have gl:getL (([.lst (nn.map .str)]++[.lst ((wl.filter notU).map wD)]:AH).length+3) h'=.ok [maD st' mk',.tup (stD V'),.int (s':Nat)] h':=by unfold getL;rw[g9]
    unfold gTL;dsimp only;rw[Z4];refine W_of gl ?_;rw[if_pos (show ([maD st' mk',.tup (stD V'),.int (s':Nat)]:List D).length=3 from rfl)];exact W.of (a:=[some (.fl (ns.map .int)),.(r 2),some (.bl true),some (.bl sm),.(r 3),some (maD st' mk'),.(g (((wl.filter notU).map wD))),.(g (stD V')),.(i (s':Nat)),none]) rfl ⟨st',mk',V',s',_,rfl,ma',Vr',Vl',K0h (K0w _ _) l4,λ_=>ub,λz=>z.elim⟩
  clear p8 p7 p6 p5 Vr Vl ma l5 n40 l1 l4 wn;rintro γ h ⟨st,mk,V,s,wl,rfl,ma,Vr,Vl,l4,ub,l5⟩;obtain⟨d,ef,hd⟩:=z9d (ws:=wl) (h:=h) (s:=s) ma Vr Vl .(0);have e1:∀(γ:G),γ[5]?=some (some .(a))->γ[8]?=some (.(i (s:Nat)))->γ[7]?=some (.(g (stD V)))->γ[6]?=some (.(g (wl.map wD)))->eFnP 3 1 [] [] z1h (z7 (eVar 5) (z7 (eVar 8) (z7 (eVar 7) aNil))) (z7 (eVar 6) aNil) γ h=.ok d h:=λγ g5 g8 g7 g6=>Z0g (ac_h (Z2 g5) (ac_h (Z2 g8) (ac_h (Z2 g7) rfl))) (ac_h (Z2 g6) rfl) ef;refine J8 d [some (.fl (ns.map .int)),.(r 2),some (.bl pl),some (.bl sm),.(r (0+3)),some .(a),.(g (wl.map wD)),.(g (stD V)),.(i (s:Nat)),some d] (e1 _ rfl rfl rfl rfl) rfl ?_;rcases hd with ⟨rfl,nu⟩|⟨p,ring,rfl,fr⟩
  ·have pf:pl=false:=by cases pl with|true=>exact absurd (ub rfl) nu|false=>rfl
   subst pf;refine z1j true (cb_h (e2_h .(d) (y:=.non) rfl rfl)) ?_;rw[if_pos rfl];refine z0M (z1j false ?_ ?_)
   ·refine z9A (cv_h .(d)) ?_;cases sm with
    | false=>exact z7r (cv_h .(d))
    | true=>
     obtain⟨u,ul⟩:=Z0H (mk:=mk) (ws:=wl) Vl;rw[z7A (cv_h .(d))];refine cb_h (e2_h .(d) (fn_h (ds:=[maD st mk,.tup (stD V),.tup (wl.map wD)]) (ac_h .(d) (ac_h .(d) (ac_h .(d) rfl))) rfl (Z0I ma (l5 rfl rfl) Vr Vl .(0) ul)) ?_);rw[z6J,.(k) λz=>nu ((ul.iff s).mp (sortN_mem.mp z))];rfl
   rw[if_neg .(1)];exact z0i (z0i (Y2 (.bl true) (e2_h (e1 _ rfl rfl rfl rfl) .(d) rfl) rfl))
  ·refine z1j false (cb_h (e2_h .(d) (y:=.non) rfl rfl)) ?_;rw[if_neg .(1)];refine z0M (z1j false (cn_h (b:=true) (cv_h (fn_h (ds:=[maD st mk,.tup (stD V),.tup (wl.map wD),.int (s:Nat),.tup .(j)]) (ac_h .(d) (ac_h .(d) (ac_h .(d) (ac_h .(d) (ac_h .(d) rfl))))) rfl (z7t ma fr Vl .(0))))) ?_);rw[if_neg .(1)];refine z0i (z0i (Y2 (h1:=h) (.bl true) (e2_h (e1 _ rfl rfl rfl rfl) .(d) ?_) rfl));rw[show D.tup .(j)=.tup (stsD [p,ring]) from rfl,zD3,decide_eq_true rfl];rfl
 obtain⟨d,h',e,rfl⟩:=key;exact⟨h',e⟩
variable(ZS:SS K mg)
include ZS
theorem okL_law{f:Addr}{fd:K53}(F:Fun K "law" "law" (top 48) f fd):FnOk P w K mg base CX0 7 f fd ["_law_script"] (spB K m_law 1):=
 Z0z F sc_law rfl λcdv A outer s H E hr=>(show SB (cxOf CX0 P w K mg base ["_law_script","_law_pool_here","_law_planned","_law_small","_law_names_here","_law_machine_here","_law_wants","_law_within","_law_one","_law_found"] "law" (j3 (top 48)) f cdv A outer s H E).nox EX0 (z03 (top 48)) zs7 from
  have nd:(["_law_script","_law_pool_here","_law_planned","_law_small","_law_names_here","_law_machine_here","_law_wants","_law_within","_law_one","_law_found"]:List Str).Nodup:=sc_law.nd
  (z8 (j7 1 nd (Z5 (z6n ZS) (hr.mono .(1)) rfl (z6 (z0 0) Z0))) (z8 (j7 2 nd (se_c z3K (Z5 (Z7 ZS) (hr.mono .(1)) rfl (z6 (z0 1) (z6 Z1 Z0))) Z1)) (z8 (j7 3 nd (se_c z3K (Z5 (Z7 ZS) (hr.mono .(1)) rfl (z6 (z0 1) (z6 Z1 Z0))) Z1)) (z8 (j7 4 nd (Z5 (z5N ZS) (hr.mono .(1)) rfl (z6 (z0 1) (z6 (z0c Z1 (Z5 (Z7 ZS) (hr.mono .(1)) rfl (z6 (z0 1) (z6 Z1 Z0)))) Z0)))) (z8 (s_if (z0k (z0 3)) (z8 (j7 5 nd (Z5 (z4F ZS) (hr.mono .(1)) rfl (z6 (z0 1) (z6 (z0 4) (z6 Z1 Z0))))) Z3) (z8 (j7 5 nd (Z5 (z2d ZS) (hr.mono .(1)) rfl (z6 (z0 1) (z6 (z0 4) Z0)))) Z3)) (z8 (j7 6 nd (Z5 (z4S ZS) (hr.mono .(1)) rfl (z6 (z0 1) (z6 (z0 4) (z6 Z1 Z0))))) (z8 (j7 7 nd (Z5 (z6D ZS) (hr.mono .(1)) rfl (z6 (z0 1) (z6 (z0D rfl ZS.Ual (z6 (j6 (z0 5) Z1) Z0)) Z0)))) (z8 (j7 8 nd (Z5 (Z7 ZS) (hr.mono .(1)) rfl (z6 (z0 1) (z6 (z0D rfl ZS.Ual (z6 (j6 (z0 5) Z1) Z0)) Z0)))) (z8 (s_if (z0k (z0 2)) (z8 (j7 6 nd (J4 rfl ZS.Uad (z6 (z06 (N':=["_law_wish"]) (cap:=[none]) rfl .(9) (z0Z (z0 6)) (λ_ _ _ _=>(j8 0 (show (["_law_wish"]:List Str).Nodup by decide +kernel))) (λ_ _ _ _=>(z0j (sc_c Z0h (j6 (z0 0) Z1) z0m))) (λ_ _ _ _=>(z0 0))) Z0))) (z8 (z5K (Z5 (z6R ZS) (hr.mono .(1)) rfl (z6 (z0 1) (z6 (z0 5) (z6 (z0 4) Z0)))) (zH1 rfl (z0t (y4 5 nd) (z0t (y4 7 nd) (z0t (y4 8 nd) z3A))))) Z3)) Z3) (z8 (j7 9 nd (z84 (z1a ZS) (hr.mono .(1)) rfl (z6 (z0 5) (z6 (z0 8) (z6 (z0 7) Z0))) (zi4 (z0 6) zu0))) (z8 (s_if (sc_c Z12 (z0 9) zd4) (z8 (s_if (SW.sc (z94 (z0k (z0 2)) (z6o (SW.sc (z6A (z0k (z0 3)) (z4D (sc_c z7Q (z0 8) (Z5 (z7N ZS) (hr.mono .(1)) rfl (z6 (z0 5) (z6 (z0 7) (z6 (z0 6) Z0))))))))))) (z8 (J5 z2Z) Z3) Z3) Z3) (z8 (s_if (z3i (z0k (Z5 (z5L ZS) (hr.mono .(1)) rfl (z6 (z0 5) (z6 (z0 7) (z6 (z0 6) (z6 (z0 8) (z6 (z0 9) Z0)))))))) (z8 (J5 z2Z) Z3) Z3) Z3)) (z8 (J5 (se_c (z8t (hu30 hr)) (z84 (z1a ZS) (hr.mono .(1)) rfl (z6 (z0 5) (z6 (z0 8) (z6 (z0 7) Z0))) (zi4 (z0 6) zu0)) (z0 9))) Z3)))))))))))))
end FT
open PySem PySem.W PyProof.Rows
set_option maxRecDepth 100000 in
theorem PySem.Challenge.cw_fairtrees_k31_whole_fair_run_holds : PySem.Challenge.rw_fairtrees_k31_whole_fair_run.Holds := by
 refine FT.pack.2 ?_;unfold FT.pack;dsimp only
 k_fill
 refine FT.law_walk (l:=PySem.Challenge.rw_fairtrees_k31_whole_fair_run) (lev:=7) (p:="_law_script") (m:=FT.m_law) rfl rfl ⟨rfl,by decide,by decide,rfl⟩ (λw h Y=>PySem.W.kIn_of Y) ?F FT.math
 case F=>
  intro w mg fa h KX G hmg;obtain⟨dk_fair_run,F00⟩:∃dk,FT.DefK (L2.KOf KX) "fair_run" (FT.top 20) dk:=by
   dsimp only[L2.KOf]
   refine' ⟨_,FT.defK_mk ?qa ?ql ?qc ?qk⟩;(case qa=>k_is);(case ql=>k_is);(case qc=>k_is);(case qk=>k_is)
  have F01:FT.DefAt (L2.KOf KX) "law" (FT.top 48):=by
   dsimp only[L2.KOf];refine' FT.defAt_mk ?a ?l ?c ?k;(case a=>k_is);(case l=>k_is);(case c=>k_is);(case k=>k_is)
  have S:FT.SS (L2.KOf KX) mg:=by
   refine⟨λn v e=>Z3f KX G e,?_,?_,?_,?_,?_,?_,?_,?_,?_,?_,?_,?_,?_,?_,?_,?_,?_,?_,?_,?_,?_,?_,?_,?_,?_,?_,dk_fair_run,F00,?_,?_,?_,?_,?_,?_,?_,?_,?_,?_,?_,?_,?_,?_,?_,?_,?_,?_,?_,?_,?_,?_,?_,?_,?_,?_,?_⟩
   all_goals first|exact PySem.W.mg_none_of KX G (by k_is)|(dsimp only[L2.KOf];refine' FT.defAt_mk ?a ?l ?c ?k;(case a=>k_is);(case l=>k_is);(case c=>k_is);(case k=>k_is))
  obtain⟨f,fd,hf,F⟩:=F01;have e:=hmg.symm.trans (Z3f KX G hf);cases e;refine⟨fd,FT.bindsTo1 F (λ_ _ _ _ _ _ _=>rfl),λbase _ _=>?_⟩;exact FT.okL_law S F
end
