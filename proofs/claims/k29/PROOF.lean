import PyProof.Rows.All
import Wide.All
import OpenK.AllK
import Wide.FinOn
import PySem.Challenge.RW_fairtrees_k29_whole_ever_both_ways
import Lean
import PyProof.EqAt
import PyProof.EqKinds
import PyProof.TupleCall
import PyProof.DictCompW
import PyProof.NeKinds
import PyProof.ListRange
import PyProof.TupleOfSeq
import PyProof.SeqI3
import PyProof.DictWalks
import PyProof.SetNew
import PyProof.ReprReads
import PyProof.StrHeap
import PyProof.ReprLen
import PyProof.WalkInts
import KE.KDictSum
import PyProof.Draws
import KE.KDictOf
import PyProof.AttrMissHeap
set_option maxHeartbeats 4000000
set_option Elab.async false
set_option linter.all false
set_option maxRecDepth 100000
set_option maxHeartbeats 4000000
namespace L2
end L2
open PySem renaming wpAny_bind->K2,wpAny_pure->K6,starEach->K0h,foldedSetIterable->K1b,Program->K1d,wpAny_loadPart'->K1s,wpAny_askSetting->K27,wpAny_holding->K2e,compareOp->K2f,wpAny_newObj_type->K2h,mainGlobals->K2m,codeAny_builtin->K2p,wpAny_call_entry->K2s,mem_of_lookup->K2t,wpAny_setState_of->K2u,swapsWith->K2w,binaryOp->K2z,assignEach->K34,holding->K36,keywordEach->K39,wpAny_setField->K3k,wpAny_truthy_bool->K3n,wpAny_ite_false->K3s,codeAny_mono->K3v,wpAny_mono->K44,sysModules->K45,wpAny_passesOwn->K49,call_meets->K4i,wpAny_standAt->K4j,standAt->K4o,wpAny_setEntries_of->K4p,wpAny_callSpecial?_slot->K4u,codeAny->K4w,Keyword->K4z,wpAny_pyIter_tuple->K50,backToKw->K55,codeAny_of_tree->K56,plainId_quiet->K59,behindInMarks->K5a,attributeBase->K5b,fits_of_scanBound->K5f,FuncData->K5j,bootBuiltins->K5n,letOwnedTupleGo->K5w,wpAny_Call_Name_kw->K5z,tupleKind_room_in1->K60,NameKind->K6b,isSubtype_type->K6j,wpAny_pyIter_list->K6m,wpAny_rule->K6t,setsByText->K6u,wpAny_isInstance->K6v,relayAll->K6y,wpAny_of_eq->K6z,codeAny_call_builtin->K73,wpAny_typeOf->K7d,wpAny_seqItems->K7m,wpAny_runValue->K7n,firstArgMember->K7o,wpAny_binaryOp_repeat_ref->K7u,wpAny_storeSet_of->K87,wpAny_setEpoch_of->K88,wpAny_comprehension_free->K8f,SetTable->K8k,seqIndex?->K8l,noFill_tuple_add->K8p,checkBuiltinCall->K8q,setNext->K8u,callerA->K8v,BindsTo->K8w,wpAny_call->K8x,typeIs_int->K8y,sub_set_self->K8z,wpAny_execs_nil->K96,weight_type_call_type->K9e,builtinLookup_eq_fast->K9f,wpAny_field->K9j,subscripted->K9k,sizeLine_eq->K9l,entryFor_alias->K9n,valueAt->K9u,setItem->K9v,tupleKind->K9w,getMethod->K9x,signature?_of->Z16,setWalkUnseen->Z17,seq_tuple_add->Z18,wpAny_load->Z1h,notedBy->Z1x,getItem->Z1y,bindArgs->Z1z,Operator->Z20,GenState->Z21,setAddHashed->Z25,seqIndex_neg->Z26,concat_meets->Z27,seqSlot_of->Z2d,seqItems?->Z2e,pickOrder->Z2f,PassesOwn->Z2g,wpAny_alloc->Z2n,seqIndex_of->Z2o,release->Z2t,newList->Z2u,ItemsOf->Z2v,call->Z2y,Fin->Z36
open List renaming length_append->K3,getElem?_cons_zero->K4,getElem?_cons_succ->K7,getElem?_eq_getElem->K9,mem_append->K00,length_cons->K01,getElem?_eq_some_iff->K02,append_assoc->K05,mem_filter->K06,set_cons_zero->K07,set_cons_succ->K08,length_singleton->K09,size_toArray->K0a,length_nil->K0b,length_map->K0d,getElem?_append_right->K0e,replicate->K0g,getElem?_map->K0i,mem_singleton->K0j,mem_append_left->K0l,range->K0m,mem_of_getElem?->K0s,set_append_right->K0t,map_cons->K0v,mem_cons->K0y,mem_append_right->K0z,length_filter_le->K10,getElem?_append_left->K11,append_nil->K13,flatten_cons->K15,mem_range->K18,mem_cons_of_mem->K1a,nodup_append->K1c,mem_cons_self->K1e,mem_map->K1g,map_map->K1h,getElem?_eq_none->K1i,getElem_of_mem->K1m,getElem?_set_self->K1o,length_range->K1q,take_length->K1v,all_eq_true->K1w,eq_nil_or_concat->K21,concat_eq_append->K22,not_mem_nil->K25,getElem?_singleton->K26,getElem?_set_ne->K29,map_nil->K2a,length_take->K2d,take_succ_eq_append_getElem->K2i,length_eq_zero_iff->K2j,dropLast_concat->K2l,any_cons->K2n,lookup_cons->K2q,take_append_of_le_length->K2v,find?_cons->K2y,replicate_succ->K37,map_append->K38,drop_eq_getElem_cons->K3a,length_replicate->K3c,length_filter_lt_length_iff_exists->K3f,getElem?_replicate->K3m,nodup_cons->K3p,map_congr_left->K3t,getElem?_range->K3u,flatten_nil->K3z,filter_cons->K40,nodup_nil->K43,pairwise_iff_getElem->K47,take_add_one->K4a,set_append_left->K4d,getLast?_append->K4e,getElem?_append->K4f,filter_sublist->K4k,mergeSort_perm->K4l,length_reverse->K4m,filterMap_cons->K4n,foldl_cons->K52,filter_map->K53,not_lt->K5i,any_eq_true->K5o,flatten_append->K5p,all_cons->K5s,getElem?_take->K5x,pairwise_mergeSort->K64,findIdx?_eq_some_iff_getElem->K66,take_zero->K6c,getElem_take->K6f,foldl_append->K6g,filter_congr->K6h,take_of_length_le->K6k,pairwise_lt_range->K6l,eraseIdxIfInBounds_toArray->K6n,foldl->K6p,getElem_mem->K6s,reverse_reverse->K70,pairwise_append->K71,nil_append->K76,length_set->K77,idxOf_lt_length_of_mem->K7e,filter_append->K7k,perm_ext_iff_of_nodup->K7r,findIdx?_eq_none_iff->K7s,range'->K7y,length->K7z,pairwise_map->K84,flatMap_cons->K85,isEmpty_nil->K8j,any_map->K8t,drop_eq_nil_of_le->K92,of_mem_zip->K94,forIn_cons->K95,take_append_drop->K9c,dropLast_eq_take->K9d,forIn_nil->K9i,getD->K9q,filter_eq_self->K9z,reverse_append->Z11,filter_filter->Z1k,filterMap_map->Z1l,all_eq_false->Z1o,ext_getElem?->Z23,any_eq_false->Z24,le_antisymm->Z2h,getElem_inj->Z2i,cons_append->Z2j,append_inj'->Z2k,map_id->Z2l,range_succ->Z2q,idxOf_cons->Z2r,all_append->Z2s
open PySem.W renaming Frag->K5,emptyDict->K1p,kia_one->K1u,findIn->K1x,instObj->K23,keepIn->K24,fnOf->K2g,codeIn->K2k,nsIn->K3g,makesIn->K51,isFn->K68,kitOne->K6a,plainGet->K6q,lookIn->K7f,methodObj->K81,kitx_list->K82,kitx_dict->K83,mg_of->K8b,cellsFrom_some->K90,methodCall_KW->K98,plainGet_of->Z10,Looks->Z14,kitx_tuple->Z1d,callWith_K->Z1e,plainOver->Z1v,hasDictIn->Z1w,makes_of->Z2b,kdl_dict->Z2c,OpenLaw->Z2p,KdlSrc->Z30,WalkO->Z34
open PySem.Heap renaming get?_push_of_some->K8,lt_size->K0c,get?_push_size->K0f,size_push->K1y,SameBut->K2b,get?_update_other->K3w,get?_update_self->K46,ExtBut->Z2m
open PySem.Str renaming ofString->K03,length->Z1c
open Nat renaming le_refl->K04,reduceAdd->K0p,le_trans->K0q,lt_of_lt_of_le->K0r,ne_of_lt->K0u,ne_of_gt->K2r,lt_irrefl->K31,sub_self->K32,le_of_lt->K33,zero_le->K3y,lt_succ_of_lt->K4c,le_of_eq->K4v,testBit_and->K54,le_succ->K5h,eq_of_testBit_eq->K5k,lt_succ_self->K5m,testBit_or->K6e,pow_le_pow_right->K72,exists_testBit_of_ne_zero->K74,zero_add->K7a,mul_comm->K7b,lt_of_le_of_lt->K7l,zero_testBit->K8m,le_add_right->K8n,pos_iff_ne_zero->K9y,add_le_add_left->Z12,lt_trans->Z1u,le_of_succ_le->Z28
open Bool renaming and_eq_true->K0k,eq_iff_iff->K0o,false_ne_true->K12,false_eq_true->K1f,bne_false->K1z,or_eq_true->K2o,not_true->K3i,not_eq_true'->K4b,not_false->K4r,bne_true->K58,and_false->K7j,false_and->Z31,decide_or->Z32
open PySem.PassesOwn renaming never->K0n
open List.Nodup renaming length_le_of_subset->K0w
open PySem.SetTable renaming below->K0x,grown->K3j,Probe->Z2z,laid->Z33
open Int renaming toNat_natCast->K14,eq_ofNat_of_zero_le->K3o,emod_lt_of_pos->K4x,emod_nonneg->K5v,ofNat_inj->K6x,toNat_of_nonneg->K79,toNat->K9s
open Option renaming map_eq_some_iff->K16,join_some->K3d,isSome_map->K6d,join_none->K8i,toList_some->Z1f
open Array renaming length_toList->K17,getElem?_eq_getElem->K1t,getElem?_toList->K3b,getElem?_eq_some_iff->K41,toArray_toList->K9m,find?_toList->Z1j,toList->Z1t,toList_push->Z22
open Option.some renaming inj->K19,injEq->K7x
open Sum renaming inl->K1j,inr->K9r
open PySem.Heap.SameBut renaming update->K1k,refl->K5c
open PySem.Value renaming ref->K20,none->K3r,type->K4g,int->K9p,bool->Z19,str->Z2a,isStrOf->Z35
open PySem.Around renaming under_plainId->K28,under_plain->Z1g
open PySem.F renaming called_set->K2c,slot_tuple_iterator_next->K35,slot_tuple_mul->K3x,plainAttrs_list->K4t,plain_list_iadd->K5l,args_tuple_mul_2->K5t,args_tuple_add_2->K5u,args_tuple_iterator_next_1->K61,entry_tuple_mul->K62,entry_tuple_add->K63,entry_tuple_iterator_next->K67,slot_tuple_add->K6i,plain_set_new->K78,args_object_init_2->K7p,slot_tuple_rmul->K8g,plain_tuple_new->K8o,type_list_pop->K99,slot_list_pop->K9a,slot_int_rmul->K9b,args_list_extend_2->K9o,entry_list_extend->Z13,slot_list_extend->Z1n,entry_type_call->Z29
open PySem.Builtin.List renaming listTooLong->K2x,listExtendWith->K5e,listSameRef->K8d
open PyProof.Rows renaming callWith_type1->K30,AllBare->K7c,IntsAre->K86,subscriptTail_builtinR->K93
open False renaming elim->K3e
open PySem.Paired renaming length->K3h
open PySem.SetTable.below renaming go->K3l
open ForInStep renaming yield->K3q
open True renaming intro->K42
open PySem.Builtin.SmallTypes renaming nextOf->K48
open PySem.Obj renaming mapSeq->K4h,data_mapFields->K5y,isFreed_of_fields->K6o,putSet->K7i,mapFields->Z15
open PySem.Builtin renaming bitNot->K4q,bitAnd->K5g,bitOr->K6w
open Classical renaming propDecidable->K4s,not_forall->K9g,not_imp->Z1p
open Ne renaming symm->K4y
open PySem.NameKind renaming free->K57
open PySem.Builtin.Frozenset renaming unchanged->K5d,sizeOf->K5q,intersection->K6r,updateFrom->K75,newClass->K7g,isAnySet->K7h,baseOf->K89,addrOf->K8a,slot1->K8h
open PySem.Shared renaming TypeIs->K5r
open PyProof.Rows.F renaming plain_set_update_loop->K65,entry_set_update_loop->K8r
open PySem.AutoSeq1 renaming idx_int->K69
open PySem.Calls renaming Name_function_global->K7q,call_function_entry->K7t,callWith_builtin->K91
open PySem.SetTable.probe renaming go->K7v
open List.Sublist renaming refl->K7w
open Function renaming comp_def->K80
open PySem.Builtin.Tuple renaming tupleExact->K8c
open List.Perm renaming eq_of_pairwise->K8e,append_left->K97,cons->Z2w
open PUnit renaming unit->K8s
open List.Pairwise renaming filter->K9h,nil->Z1r,and->Z1s
open And renaming intro->K9t
open PySem.SeqAt.EqAt renaming str_int->Z1a,int_str->Z1b
open LawfulMonad renaming bind_assoc->Z1i
open PySem.Code renaming quiet_builtin->Z1m
open PySem.pickOrder renaming go->Z1q
open PySem.Data renaming seq->Z2x
open Pure renaming pure->Z37
open Iff renaming rfl->Z38
open Sum.inl renaming inj->Z39
open PySem PySem.Spec PyProof.Rows L2
set_option hygiene false
local macro_rules
|`(.(r $t))=>`(some (.ref $t))
|`(.(i $t))=>`(some (.int $t))
|`(.(g $t))=>`(some (.tup $t))
|`(.(l $t))=>`(some (.lst $t))
|`(.(s $t))=>`(some (.str $t))
|`(.(p $t))=>`((fun _=>pure (.int $t)))
|`(.(0))=>`((hr.mono (by decide)))
|`(.(1))=>`((by omega))
|`(.(2))=>`(s.heap.objs.size)
|`(.(3))=>`((by decide +kernel))
|`(.(4))=>`((model X.prog X.w))
|`(.(5))=>`((λ_ _ _ _ _ _ us hl=>(by obtain⟨_,_,_,rfl⟩:=ar3 hl;rfl)))
|`(.(6))=>`((z0m (by first|rfl|kernel_rfl!)))
|`(.(7))=>`((maD st mk))
|`(.(8))=>`((X.comp N' sc s H fp xe))
|`(.(9))=>`((Pre.refl _))
|`(.(a))=>`((Ext.refl _ _))
|`(.(b))=>`((λ_ _ _ _ _ _ us hl=>(by obtain⟨_,_,rfl⟩:=ar2 hl;rfl)))
|`(.(c))=>`((λ_=>pure (.int 0)))
|`(.(d))=>`((Z1 rfl))
|`(.(e))=>`((λ_=>pure (.int 1)))
|`(.(f))=>`((by simp))
|`(.(g))=>`(h.length)
|`(.(h))=>`(decide_eq_true_eq)
|`(.(i))=>`((eVar 0))
|`(.(j))=>`((eVar 1))
|`(.(k))=>`((z7 (λ_=>pure (.int 2)) (z7 (λ_=>pure (.int 4)) (z7 (λ_=>pure (.int 8)) (z7 (λ_=>pure (.int 16)) (z7 (λ_=>pure (.int 32)) aNil))))))
|`(.(l))=>`((λ_ _ _ _ _ _ us hl=>(by obtain⟨_,rfl⟩:=ar1 hl;rfl)))
|`(.(m))=>`(decide_eq_false)
|`(.(n))=>`(⟨λ⟨_,_,z,_⟩=>(by cases z),λ⟨_,_,z,_⟩=>(by cases z)⟩)
set_option hygiene true
namespace FT
def zF2:List Bool->List PySem.Stmt->List PySem.Stmt
 | true::r,x::xs=>x::zF2 r xs
 | false::r,_::xs=>zF2 r xs
 | _,_=>[]
def qv:PySem.Program:={ PySem.Challenge.pw_fairtrees_k29_whole_ever_both_ways with main:={ PySem.Challenge.pw_fairtrees_k29_whole_ever_both_ways.main with body:=zF2 [false,false,false,false,false,false,false,false,false,false,false,false,false,false,false,false,false,false,false,false,false,false,false,false,false,false,false,false,false,false,false,false,false,false,false,false,false,false,false,false,false,false,false,false,false,false,false,false,false,false,false,false,false,true] PySem.Challenge.pw_fairtrees_k29_whole_ever_both_ways.main.body } }
def looseQ:List PySem.Str:=[K03 "FREE",K03 "TreeError",K03 "NoWay",K03 "set_of",K03 "joined",K03 "common",K03 "knots",K03 "turned",K03 "ending_order",K03 "take_from",K03 "is_round",K03 "bears",K03 "is_borne",K03 "bearers",K03 "back_rows",K03 "strong_parts",K03 "steps_inside",K03 "failed_wish",K03 "not_bearing",K03 "fair_parts",K03 "Way",K03 "Rounds",K03 "Worklist",K03 "leads_into",K03 "leading_on",K03 "lasting",K03 "_law_pool",K03 "_law_draw",K03 "_law_name",K03 "_law_names",K03 "_law_machine",K03 "_law_wishes",K03 "_law_number",K03 "_law_tuple",K03 "_law_good_set",K03 "_law_some",K03 "_law_mask",K03 "_law_set",K03 "_law_lead",K03 "_law_near",K03 "_law_round",K03 "_law_rounds",K03 "_law_ever",K03 "_law_bears",K03 "_law_due",K03 "_law_alike"]
end FT
section
open PySem PySem.W PyProof.Rows
local macro_rules | `(tactic| o_head $H)=>`(tactic| (refine holds_open (q:=FT.qv) (loose:=FT.looseQ) (Xt:=fun s=>xlAt FT.qv [] s && recOk (RowW.records (OpenRow.toRowW (OpenLaw.row PySem.Challenge.rw_fairtrees_k29_whole_ever_both_ways))) s) (XP:=XL FT.qv []) (Yf:=Hook.obs $H) (Ya:=Hook.val $H) (YP:=Hook.says $H) (N:=30000) ?_ (Hook.of $H) (Hook.keeps $H) (fun s e=>xl_of s (Bool.and_eq_true_iff.mp e).1) XL.keeps (by rfl) (by rfl) (by rfl) (fun s e=>recFacts_of (Bool.and_eq_true_iff.mp e).2) (by rfl) (by first | assumption | decide +kernel) (by decide +kernel) ⟨rfl,rfl,rfl,rfl,rfl,by decide +kernel⟩ ?_ ?_))
set_option maxRecDepth 100000 in
noncomputable def FT.pack:PSigma fun P:Prop=>P->PySem.Challenge.rw_fairtrees_k29_whole_ever_both_ways.Holds:=by
 refine⟨?P,λh=>?_⟩
 rotate_left
 ·w_on;o_law;k_head
  next=>exact λw=>by kernel_rfl
  next=>w_witness2
  exact h
end
namespace L2
abbrev Key:=Sum Int Str
def z1P:Key->Value->Bool
 | .inl k,v=>Value.isInt k v
 | .inr x,v=>Z35 x v
def keyH (w:World):Key->Int
 | .inl k=>hashInt k
 | .inr x=>hashStr w x
theorem j7:∀{k:Key}{v:Value},z1P k v=true->(∃i t,k=K1j i/\v=K9p i t)\/(∃x t,k=K9r x/\v=Z2a x t)
 | .inl i,v,h=>by
  obtain⟨t,e⟩:=Value.isInt_shape (k:=i) (v:=v) h;exact .inl ⟨i,t,rfl,e⟩
 | .inr x,v,h=>by
  obtain⟨t,e⟩:=Value.isStrOf_shape (x:=x) (v:=v) h;exact .inr ⟨x,t,rfl,e⟩
theorem z6R (i:Int) (t:Tok):z1P (.inl i) (.int i t)=true:=by simp[z1P,Value.isInt]
theorem z71 (x:Str) (t:Tok):z1P (.inr x) (.str x t)=true:=by simp[z1P,Z35]
theorem zM4 (a b:Int):decide ((K1j a:Key)=K1j b)=(a==b):=by
 by_cases e:a=b
 ·subst e;simp
 ·have h:¬ (K1j a:Key)=K1j b:=λq=>e (Z39 q);rw[.(m) h];exact(beq_eq_false_iff_ne.mpr e).symm
theorem zT8 (a b:Str):decide ((K9r a:Key)=K9r b)=decide (a=b):=by
 by_cases e:a=b
 ·subst e;simp
 ·have h:¬ (K9r a:Key)=K9r b:=λq=>e (K9r.inj q);rw[.(m) h,.(m) e]
theorem zM7 (a:Int) (b:Str):decide ((K1j a:Key)=K9r b)=false:=decide_eq_false (λq=>nomatch q)
theorem zR2 (a:Str) (b:Int):decide ((K9r a:Key)=K1j b)=false:=decide_eq_false (λq=>nomatch q)
def y9 (prog:K1d) (w:World):PySem.KeyKind prog w Key where
 is:=z1P
 hash:=keyH w
 inj:=λv a b ha hb=>by
  rcases j7 ha with ⟨i,t,rfl,rfl⟩|⟨x,t,rfl,rfl⟩
  ·rcases j7 hb with ⟨j,u,rfl,e⟩|⟨y,u,rfl,e⟩
   ·injection e with e1 _;rw[e1]
   ·exact nomatch e
  ·rcases j7 hb with ⟨j,u,rfl,e⟩|⟨y,u,rfl,e⟩
   ·exact nomatch e
   ·injection e with e1 _;rw[e1]
 byValue:=λk v h=>by
  rcases j7 h with ⟨i,t,rfl,rfl⟩|⟨x,t,rfl,rfl⟩<;>rfl
 pyHash:=λhv h=>by
  rcases j7 hv with ⟨i,t,rfl,rfl⟩|⟨x,t,rfl,rfl⟩
  ·exact wpAny_pyHash_int h
  ·exact wpAny_pyHash_str h
 eqBool:=λhu hv h=>by
  rcases j7 hu with ⟨i,t,rfl,rfl⟩|⟨x,t,rfl,rfl⟩
  ·rcases j7 hv with ⟨j,u,rfl,rfl⟩|⟨y,u,rfl,rfl⟩
   ·rw[zM4]at h;exact wpAny_eqBool_int h
   ·rw[zM7]at h;exact Z1b i t y u _ _ _ _ h
  ·rcases j7 hv with ⟨j,u,rfl,rfl⟩|⟨y,u,rfl,rfl⟩
   ·rw[zR2]at h;exact Z1a x t j u _ _ _ _ h
   ·rw[zT8]at h;exact wpAny_eqBool_str h
 «strs»:=λk x t v h=>by
  rcases j7 h with ⟨i,u,rfl,e⟩|⟨y,u,rfl,e⟩
  ·exact nomatch e
  ·injection e with e1 _
   subst e1;cases v<;>rfl
theorem z7A (prog:K1d) (w:World) (i:Int) (t:Tok):(y9 prog w).is (.inl i) (.int i t)=true:=z6R i t
theorem z7S (prog:K1d) (w:World) (x:Str) (t:Tok):(y9 prog w).is (.inr x) (.str x t)=true:=z71 x t
end L2
namespace FT
abbrev Rise (xs:Array Nat):Prop:=xs.toList.Pairwise (·<·)
instance keyMem (k:Key) (ks:List Key):Decidable (k∈ks):=@List.instDecidableMemOfLawfulBEq Key instBEqOfDecidableEq inferInstance k ks
section
variable (w:World)
def KE (k:Key) (e:Int×Value):Prop:=z1P k e.2=true/\e.1=keyH w k
def SetAt (h:Heap) (a:Addr) (ks:List Key):Prop :=
 ∃o es ep t ks',h.get? a=some o/\o.ExactSet/\o.data=.set es ep t/\Paired (KE w) ks' es.toList/\ks'.Perm ks/\ks.Nodup/\es.size<scanBound/\t.fits es.size=true/\Rise t.place /\
  (t.led=true\/w.params.followText "set-order" = true)
end
def IsTup0 (h:Heap) (a:Addr) (items:Array Value):Prop:=∃o,h.get? a=some o/\(o.cls=.type "tuple"/\o.dict=none)/\∃n,o.data=.seq items n
theorem IsTup0.new (h:Heap) (items:Array Value):IsTup0 (h.push { cls:=.type "tuple",data:=.seq items }) h.objs.size items:=⟨_,K0f _ rfl,⟨rfl,rfl⟩,_,rfl⟩
theorem IsTup0.tup {h:Heap}{a:Addr}{items:Array Value}(x:IsTup0 h a items):IsTup h a items:=let ⟨o,e,c,d⟩:=x;⟨o,e,c.1,d⟩
theorem IsTup0.lt {h:Heap}{a:Addr}{items:Array Value}(x:IsTup0 h a items):a<h.objs.size:=let ⟨_,e,_⟩:=x;K0c e
end FT
namespace L2
variable{κ:Type}{a b it C dx:Addr}{u:Value}{P:K1d}{w:World}{h h' base:Heap}{x name m qual:Str}{e c tg l:Expr}{pins pins':List (Addr×Obj)}{s s':Shared}{t' i n:Nat}{g':Array Z21}{ch fp:List Addr}{N ps:List Str}{A:Around}{E:Value->Shared->Prop}{Q:Value×List Value->Shared->Prop}{pos p apos:Pos}{K:K5}{es:List Expr}{g:List Value->List Value->List Value}{body:List Stmt}{lo:Int}{pl:Sem Bool}{R:Result->Shared->Prop}{f:Value->Value->Sem Value}{its us ds:List Value}{mA mg:Str->Option Value}{fd:K5j}{kws:List K4z}{nm:Option Str}{scope:Scope}{outer:List Env}
inductive V where
 | non|bl (b:Bool)|int (i:Int)|str (x:Str)|byt (b:Array UInt8)|flt (b:UInt64)|ref (a:Addr)|ty (n:String)
 deriving DecidableEq
variable{σ':List (Option V)}{v:V}{xs vs:List V}{gV:List V->List V->List V}
def RelV:V->Value->Prop
 | .non,u=>u=K3r
 | .bl b,u=>u=Z19 b
 | .int i,u=>∃t,u=K9p i t
 | .str x,u=>∃t,u=Z2a x t
 | .byt b,u=>∃t,u=Value.bytes b t
 | .flt b,u=>∃t,u=Value.float b t
 | .ref a,u=>u=K20 a
 | .ty n,u=>u=K4g n
abbrev Vals:List V->List Value->Prop:=Paired RelV
theorem Vals.length {xs:List V}{us:List Value}(r:Vals xs us):xs.length=us.length:=K3h r
theorem Vals.get:∀{xs:List V}{us:List Value}{i:Nat}{x:V},Vals xs us->xs[i]?=some x->∃u,us[i]?=some u/\RelV x u
 | _,_,_,_,.nil,e=>by simp at e
 | _,_,0,_,.cons r _,e=>by simp at e;subst e;exact⟨_,rfl,r⟩
 | _,_,i+1,x,.cons _ t,e=>by
  obtain⟨u,h1,h2⟩:=Vals.get (i:=i) (x:=x) t (by simpa using e);exact⟨u,by simpa using h1,h2⟩
theorem Vals.set {x:V}{u:Value}(r:RelV x u):∀{xs:List V}{us:List Value}(i:Nat),Vals xs us->Vals (xs.set i x) (us.set i u)
 | _,_,_,.nil=>.nil
 | _,_,0,.cons _ t=>.cons r t
 | _,_,i+1,.cons q t=>.cons q (Vals.set r i t)
theorem Vals.append:∀{xs ys:List V}{us ws:List Value},Vals xs us->Vals ys ws->Vals (xs++ys) (us++ws)
 | _,_,_,_,.nil,s=>s
 | _,_,_,_,.cons r t,s=>.cons r (Vals.append t s)
def RelO:Option V->Option Value->Prop
 | some v,some u=>RelV v u
 | none,none=>True
 | _,_=>False
def KV:List (κ×V)->List (κ×Value)->Prop:=Paired λ(p:κ×V) (q:κ×Value)=>p.1=q.1/\RelV p.2 q.2
def kV:Key->V
 | .inl i=>.int i
 | .inr x=>.str x
inductive HO where
 | lst (xs:List V)
 | tup (xs:List V)
 | dK (kvs:List (Key×V))|dT (kvs:List (List Key×V))
 | set (ks:List Key)
 | ins (C dx:Addr) (fs:List (Str×V))
 | own (x:Addr)
 | xd (fs:List (Str×V))
 | met (f x:Addr)
 | rng (lo hi:Int)
 | frz (o:Obj) (u:HO)
 | tbl (ps:Array Value)
 | ext (φ:Heap->Prop)
variable{o:HO}
abbrev Hp:=Addr->Option HO
variable{H H':Hp}
def upd (H:Hp) (a:Addr) (o:HO):Hp:=λb=>if b=a then some o else H b
theorem J6:upd H a o a=some o:=by unfold upd;rw[if_pos rfl]
theorem J5 (h:b≠a):upd H a o b=H b:=by unfold upd;rw[if_neg h]
theorem Z0a {u:HO}(h:H a=some o) (h':H b=some u) (d:o≠u):a≠b:=by
 intro e;subst e;rw[h]at h';exact d (K19 h')
theorem Y6 (h:H a=some o) (h':H b=none):a≠b:=by
 intro e;subst e;rw[h]at h';cases h'
section
variable (P:K1d) (w:World)
def ObjOk (H:Hp) (h:Heap) (a:Addr):HO->Prop
 | .lst xs=>xs.length<=sizeLine/\∃(its:List Value) (n:Nat),Vals xs its/\h.get? a=some { cls:=.type "list",data:=.seq its.toArray n }
 | .tup xs=>xs.length<=sizeLine/\∃its:List Value,Vals xs its/\FT.IsTup0 h a its.toArray
 | .dK kvs=>kvs.length<=sizeLine/\(a==K45)=false/\∃vs,KV kvs vs/\h.DictOf (y9 P w) a vs
 | .dT kvs=>kvs.length<=sizeLine/\(a==K45)=false/\∃xs:List (List Key×Addr×Value),
  Paired (λ(p:List Key×V) (q:List Key×Addr×Value)=>p.1=q.1/\H q.2.1=.(g (p.1.map kV))/\RelV p.2 q.2.2) kvs xs /\
  ∃o es ep,h.get? a=some o/\o.ExactDict/\o.data=.dict es ep/\es.toList=xs.map (entryOfKey (K9w (y9 P w)))/\(xs.map (·.1)).Nodup
 | .set ks=>FT.SetAt w h a ks
 | .ins C dx fs=>H dx=some (.own a)/\fs.length<=1000/\dx≠a/\h.get? a=some (K23 C dx) /\
  ∃mA,h.Ns1 dx mA/\(∀f,RelO (fs.lookup f) (mA f))/\PySem.Within mA (fs.map (·.1))
 | .own _=>∃o,h.get? a=some o
 | .xd fs=>∃mA,h.Ns1 a mA/\∀f,RelO (fs.lookup f) (mA f)
 | .rng lo hi=>∃t u v,h.get? a=some { cls:=.type "range",data:=.fields #[.int lo t,.int hi u,.int 1 v] }
 | .frz o u=>h.get? a=some o/\ObjOk H h a u
 | .tbl ps=>h.get? a=some { cls:=.none,data:=.fields ps }
 | .met f x=>h.get? a=some (K81 (.ref f) (.ref x))
 | .ext φ=>φ h/\(∃o,h.get? a=some o)/\∀h1 h2:Heap,φ h1->(∀o,h1.get? a=some o->h2.get? a=some o)->φ h2
def HOk (H:Hp) (h:Heap):Prop:=∀a o,H a=some o->ObjOk P w H h a o
end
theorem ObjOk.lt (x:ObjOk P w H h a o):a<h.objs.size:=by
 cases o with
 | lst xs=>obtain⟨_,_,_,_,e⟩:=x;exact K0c e
 | tup xs=>obtain⟨_,_,_,p⟩:=x;exact p.lt
 | dK kvs=>obtain⟨_,_,_,_,o,_,_,e,_⟩:=x;exact K0c e
 | dT kvs=>obtain⟨_,_,_,_,o,_,_,e,_⟩:=x;exact K0c e
 | set ks=>obtain⟨o,_,_,_,_,e,_⟩:=x;exact K0c e
 | ins C dx fs=>obtain⟨_,_,_,e,_⟩:=x;exact K0c e
 | own y=>obtain⟨_,e⟩:=x;exact K0c e
 | xd fs=>obtain⟨_,⟨_,_,_,e,_⟩,_⟩:=x;exact K0c e
 | rng lo hi=>obtain⟨_,_,_,e⟩:=x;exact K0c e
 | frz ob u=>obtain⟨e,_⟩:=x;exact K0c e
 | tbl ps=>exact K0c (show h.get? a=some _ from x)
 | met f y=>exact K0c (show h.get? a=some _ from x)
 | ext φ=>obtain⟨_,⟨_,e⟩,_⟩:=x;exact K0c e
theorem Paired.mapP {α β:Type}{F G:α->β->Prop}:∀{l₁:List α}{l₂:List β},Paired F l₁ l₂->(∀a b,F a b->G a b)->Paired G l₁ l₂
 | _,_,.nil,_=>.nil
 | _,_,.cons r t,f=>.cons (f _ _ r) (Paired.mapP t f)
theorem ObjOk.stay (x:ObjOk P w H h a o) (k:∀b u,(b=a\/H b=some (.own a))->h.get? b=some u->h'.get? b=some u)
 (ho:∀b,H b=some (.own a)->H' b=some (.own a)) (ht:∀b xs,H b=.(g xs)->H' b=.(g xs)):ObjOk P w H' h' a o:=by
 induction o with
 | lst xs=>obtain⟨z,its,n,r,e⟩:=x;exact⟨z,its,n,r,k _ _ (.inl rfl) e⟩
 | tup xs=>obtain⟨z,its,r,ob,e,c⟩:=x;exact⟨z,its,r,ob,k _ _ (.inl rfl) e,c⟩
 | dK kvs=>obtain⟨z,y,vs,r,ob,es,ep,e,c⟩:=x;exact⟨z,y,vs,r,ob,es,ep,k _ _ (.inl rfl) e,c⟩
 | dT kvs =>
  obtain⟨z,y,xs,r,ob,es,ep,e,c⟩:=x;exact⟨z,y,xs,Paired.mapP r λp q z=>⟨z.1,ht _ _ z.2.1,z.2.2⟩,ob,es,ep,k _ _ (.inl rfl) e,c⟩
 | set ks=>obtain⟨ob,es,ep,t,k',e,c⟩:=x;exact⟨ob,es,ep,t,k',k _ _ (.inl rfl) e,c⟩
 | ins C dx fs =>
  obtain⟨d,z,ne,e,mA,⟨od,es,ep,e2,c⟩,r⟩:=x;exact⟨ho _ d,z,ne,k _ _ (.inl rfl) e,mA,⟨od,es,ep,k _ _ (.inr d) e2,c⟩,r⟩
 | own y=>obtain⟨ob,e⟩:=x;exact⟨ob,k _ _ (.inl rfl) e⟩
 | xd fs=>obtain⟨mA,⟨od,es,ep,e,c⟩,r⟩:=x;exact⟨mA,⟨od,es,ep,k _ _ (.inl rfl) e,c⟩,r⟩
 | rng lo hi=>obtain⟨t,u,v,e⟩:=x;exact⟨t,u,v,k _ _ (.inl rfl) e⟩
 | frz ob u ih=>obtain⟨e,q⟩:=x;exact⟨k _ _ (.inl rfl) e,ih q⟩
 | tbl ps =>
  have e:h.get? a=some { cls:=.none,data:=.fields ps }:=x;show h'.get? a=some { cls:=.none,data:=.fields ps };exact k a _ (.inl rfl) e
 | met f y =>
  have e:h.get? a=some (K81 (.ref f) (.ref y)):=x;show h'.get? a=some (K81 (.ref f) (.ref y));exact k a _ (.inl rfl) e
 | ext φ=>obtain⟨p,⟨o,e⟩,st⟩:=x;exact⟨st _ _ p λo q=>k _ _ (.inl rfl) q,⟨o,k _ _ (.inl rfl) e⟩,st⟩
theorem HOk.lt (x:HOk P w H h) (e:H a=some o):a<h.objs.size:=(x a o e).lt
theorem HOk.fresh (x:HOk P w H h) (e:h.objs.size<=a):H a=none:=by
 cases q:H a with
 | none=>rfl
 | some u=>exact absurd (K0r (x.lt q) e) (K31 _)
theorem HOk.kept (x:HOk P w H h) (k:∀b u,h.get? b=some u->h'.get? b=some u):HOk P w H h':=λa o e =>
 (x a o e).stay (λb u _ q=>k b u q) (λ_ q=>q) λ_ _ q=>q
theorem HOk.laid (x:HOk P w H h) (k:∀b u,h.get? b=some u->h'.get? b=some u) (hp:h.objs.size<=a) (new:ObjOk P w (upd H a o) h' a o):HOk P w (upd H a o) h':=λb u e=>by
 have hn:=x.fresh hp;by_cases hb:b=a
 ·subst hb;rw[J6]at e;cases e;exact new
 ·rw[J5 hb]at e;exact(x b u e).stay (λc v _ q=>k c v q) (λc q=>by rw[J5 (Y6 q hn)];exact q) λc xs q=>by rw[J5 (Y6 q hn)];exact q
def Rd (H:Hp) (a:Addr) (u:HO):Prop:=H a=some u\/∃o,H a=some (.frz o u)
theorem Rd.ok {u:HO}(r:Rd H a u) (x:HOk P w H h):ObjOk P w H h a u:=by
 rcases r with r|⟨o,r⟩
 ·exact x a u r
 ·obtain⟨_,q⟩:=x a _ r;exact q
def Mut:Option HO->Prop
 | .(l _)=>True
 | some (.dK _)=>True
 | some (.dT _)=>True
 | some (.set _)=>True
 | some (.ins _ _ _)=>True
 | some (.ext _)=>True
 | _=>False
section
variable {x e:Addr}{o':HO}
theorem HOk.write (ok:HOk P w H h) (mu:Mut (H x)) (he:e=x\/H e=some (.own x)) (k:∀b u,b≠e->h.get? b=some u->h'.get? b=some u) (heo:∃u,h'.get? e=some u)
 (new:ObjOk P w (upd H x o') h' x o'):HOk P w (upd H x o') h':=λb u q=>by
 have nown:∀c y,H c=some (.own y)->c≠x:=λc y r z=>by subst z;rw[r]at mu;exact mu
 have ntup:∀c xs,H c=.(g xs)->c≠x:=λc xs r z=>by subst z;rw[r]at mu;exact mu
 by_cases hb:b=x
 ·subst hb;rw[J6]at q;cases q;exact new
 ·rw[J5 hb]at q;by_cases hbe:b=e
  ·have q':H b=some (.own x):=by
    rcases he with z|z
    ·exact absurd (hbe.trans z) hb
    ·rw[hbe];exact z
   rw[q]at q';cases q';obtain⟨v,hv⟩:=heo;exact⟨v,by rw[hbe];exact hv⟩
  ·refine(ok b u q).stay (λc v hc r=>k c v ?_ r) (λc r=>by rw[J5 (nown c b r)];exact r) λc xs r=>by rw[J5 (ntup c xs r)];exact r
   rcases hc with rfl|hc
   ·exact hbe
   ·rintro rfl;rcases he with z|z
    ·exact nown c b hc z
    ·rw[hc]at z;cases z;exact hb rfl
end
structure Un (fs ex:List Addr) (H H':Hp) (h h':Heap):Prop where
 keep:∀b o,h.get? b=some o->H b=none->b∉fs->b∉ex->h'.get? b=some o
 slot:∀b o,h.get? b=some o->H b=none->b∈fs->b∉ex->∃sl,h'.get? b=some { o with slots:=sl }
 free:∀b o,h.get? b=some o->H b=none->b∉ex->H' b=none
 there:∀b o,h.get? b=some o->b∉ex->∃o',h'.get? b=some o'
 tups:∀b xs,H b=.(g xs)->H' b=.(g xs)
 frzs:∀b o u,H b=some (.frz o u)->H' b=some (.frz o u)
 tbls:∀b ps,H b=some (.tbl ps)->∃more,H' b=some (.tbl (ps++more))
section
variable {fs fs' ex ex':List Addr}{H1 H2:Hp}{h1 h2:Heap}{x e:Addr}
theorem Un.any (u:Un fs ex H H1 h h1){ob:Obj}(q:h.get? b=some ob) (n:H b=none) (hx:b∉ex):∃sl,h1.get? b=some { ob with slots:=sl }:=by
 by_cases hb:b∈fs
 ·exact u.slot b ob q n hb hx
 ·exact⟨ob.slots,u.keep b ob q n hb hx⟩
theorem Un.kept (k:∀b u,h.get? b=some u->h'.get? b=some u):Un fs ex H H h h' :=
 ⟨λb ob q _ _ _=>k b ob q,λb ob q _ _ _=>⟨ob.slots,k b ob q⟩,λ_ _ _ n _=>n,λb ob q _=>⟨ob,k b ob q⟩,λ_ _ q=>q,λ_ _ _ q=>q,λ_ ps q=>⟨#[],by rw[q];simp⟩⟩
theorem Un.refl:Un fs ex H H h h:=Un.kept λ_ _ q=>q
theorem Un.laid (k:∀b u,h.get? b=some u->h'.get? b=some u) (hp:h.objs.size<=a) (hn:H a=none):Un fs ex H (upd H a o) h h' where
 keep:=λb u q _ _ _=>k b u q
 slot:=λb u q _ _ _=>⟨u.slots,k b u q⟩
 free:=λb u q n _=>by rw[J5 (K0u (K0r (K0c q) hp))];exact n
 there:=λb u q _=>⟨u,k b u q⟩
 tups:=λb xs q=>by rw[J5 (Y6 q hn)];exact q
 frzs:=λb u xs q=>by rw[J5 (Y6 q hn)];exact q
 tbls:=λb ps q=>⟨#[],by rw[J5 (Y6 q hn),q];simp⟩
theorem Un.write (mu:Mut (H x)) (he:e=x\/H e=some (.own x)) (k:∀b u,b≠e->h.get? b=some u->h'.get? b=some u) (heo:∃u,h'.get? e=some u):Un fs ex H (upd H x o) h h':=by
 have hx:∀b,H b=none->b≠x:=λb n z=>by subst z;rw[n]at mu;exact mu
 have hb:∀b,H b=none->b≠e:=λb n z=>by
  subst z;rcases he with r|r
  ·exact hx b n r
  ·rw[n]at r;cases r
 have hm:∀b u,H b=some u->¬ Mut (some u)->b≠x:=λb u q nm z=>by subst z;rw[q]at mu;exact nm mu
 refine⟨λb u q n _ _=>k b u (hb b n) q,λb u q n _ _=>⟨u.slots,k b u (hb b n) q⟩,λb u q n _=>by rw[J5 (hx b n)];exact n,λb u q _=>?_,
  λb xs q=>by rw[J5 (hm b _ q λz=>z)];exact q,λb u xs q=>by rw[J5 (hm b _ q λz=>z)];exact q,λb ps q=>⟨#[],by rw[J5 (hm b _ q λz=>z),q];simp⟩⟩
 by_cases hbe:b=e
 ·subst hbe;exact heo
 ·exact⟨u,k b u hbe q⟩
end
def trk (h:Heap) (H:Hp):List Addr:=(K0m h.objs.size).filter λa=>(H a).isSome
def hidT (h:Heap) (H:Hp):Heap:=PySem.W.hideAll h (trk h H)
theorem za6 (h:Heap) (H:Hp):(hidT h H).objs.size=h.objs.size:=PySem.W.hideAll_size _ _
theorem zo1 {o:Obj}(e:h.get? b=some o) (n:H b=none):(hidT h H).get? b=some o :=
 PySem.W.hideAll_get _ e λhm=>by
  have q:(H b).isSome=true:=(K06.mp hm).2;rw[n]at q;simp at q
theorem zE8 {o:Obj}(e:(hidT h H).get? b=some o):h.get? b=some o/\H b=none:=by
 have e':h.get? b=some o:=PySem.W.of_hideAll (trk h H) e;refine⟨e',?_⟩;cases q:H b with
 | none=>rfl
 | some x =>
  have hm:b∈trk h H:=K06.mpr ⟨K18.mpr (K0c e'),by simp[q]⟩;have z:(hidT h H).get? b=none:=PySem.W.hideAll_none (trk h H) hm;rw[z]at e;cases e
def zA6 (g h:Heap) (L:Addr):List (Addr×Obj):=(K0m h.objs.size).filterMap λa=>if a=L\/(g.get? a).isSome=true then none else (h.get? a).map λo=>(a,o)
def rest (g h:Heap) (L d:Addr):List (Addr×Obj):=(zA6 g h L).filter λp=>decide (p.1≠d)
structure Mod (K:K5) (mg:Str->Option Value) (base:Heap):Prop where
 kin:K.In base
 glob:base.Ns K2m mg
 blt:∃mb,base.Ns builtinsNs mb/\∀x:Str,x≠"__name__"->mb x=K5n x
 nolimit:base.NoLimit
structure Cx where
 prog:K1d
 w:World
 K:K5
 mg:Str->Option Value
 base:Heap
 A:Around
 N:List Str
 s₀:Shared
 H₀:Hp
 env:Env
 outer:List Env
 stack:List Env
 ex:List Addr
 fn:Str->Bool
 calm:Bool
 pn:List (Addr×Obj)
 xe:Value->Shared->Prop
variable{X:Cx}
def frs (l:List Env):List Addr:=l.filterMap (·.frame)
abbrev Cx.fs (X:Cx):List Addr:=frs X.outer
def Vis (sc:Scope) (x:Str):Prop:=sc.names.lookup x=some .local\/sc.names.lookup x=some .cell\/sc.names.lookup x=some .free
def Loc (sc:Scope) (x:Str):Prop:=sc.names.lookup x=some .local\/sc.names.lookup x=some .cell
def Look (env:Env) (h:Heap) (m:Str->Option Value) (x:Str) (u:Value):Prop :=
 (env.kindOf x=some .local/\m x=some u)\/((env.kindOf x=some .cell\/env.kindOf x=some .free)/\∃c,env.cells.lookup x=some c/\h.IsCell c (some u))
structure Cx.Ok (X:Cx):Prop where
 mod:Mod X.K X.mg X.base
 kind:X.env.scope.kind=.function
 glob:X.env.globals=K2m
 blt:X.env.builtins=builtinsNs
 above:X.s₀.heap.objs.size<=X.env.locals
 inj:∀x y c,X.env.cells.lookup x=some c->X.env.cells.lookup y=some c->x=y
 has:∀x,(X.env.kindOf x=some .cell\/X.env.kindOf x=some .free)->∃c,X.env.cells.lookup x=some c
 cab:∀x c,X.fn x=true->X.env.cells.lookup x=some c->X.s₀.heap.objs.size<=c
 hd:X.calm=true->X.A.handled=none
 frames:X.A.frames=some X.stack
 stk:X.stack=X.outer\/(X.stack=X.env::X.outer/\X.env.frame=some X.env.locals)
 exf:∀b∈X.ex,b≠X.env.locals/\∀x c,X.env.cells.lookup x=some c->c≠b
 bs:∀b o,X.base.get? b=some o->X.s₀.heap.get? b=some o/\X.H₀ b=none
 bsz:X.base.objs.size<=X.s₀.heap.objs.size
 noex:∀b o,X.base.get? b=some o->b∉X.ex
 exfs:∀b∈X.ex,b∉X.fs
 funs:X.s₀.heap.FunFrames X.base X.outer
 frf:∀b∈X.fs,X.H₀ b=none
structure Inv (X:Cx) (pins:List (Addr×Obj)) (σ:List (Option V)) (H:Hp) (s:Shared):Prop where
 ok:X.Ok
 os:s.os=X.s₀.os
 bare:K7c s.gens
 base:Un X.fs X.ex X.H₀ H X.s₀.heap s.heap
 loc:∃m,s.heap.Ns X.env.locals m/\∀(i:Nat) (x:Str) (v:V),X.N[i]?=some x->σ[i]?=some (some v)->Vis X.env.scope x->∃u,RelV v u/\Look X.env s.heap m x u
 cell:∀x c,X.env.cells.lookup x=some c->∃v,s.heap.IsCell c v
 free:H X.env.locals=none
 freeC:∀x c,X.env.cells.lookup x=some c->H c=none
 pin:∀p∈X.pn++pins,s.heap.get? p.1=some p.2/\H p.1=none/\p.1≠X.env.locals/\p.1∉X.fs/\∀v,p.2.data≠.cell v
 hok:HOk X.prog X.w H s.heap
 len:σ.length=X.N.length
section
variable {σ:List (Option V)}
theorem Cx.Ok.nofr (ok:X.Ok){o:Obj}(e:X.base.get? b=some o):b∉X.fs:=λhb=>by
 have:=(ok.funs.mem hb).1;rw[e]at this;cases this
theorem Inv.bs (I:Inv X pins σ H s):∀b o,X.base.get? b=some o->s.heap.get? b=some o/\H b=none:=λb o e =>
 ⟨I.base.keep b o (I.ok.bs b o e).1 (I.ok.bs b o e).2 (I.ok.nofr e) (I.ok.noex b o e),I.base.free b o (I.ok.bs b o e).1 (I.ok.bs b o e).2 (I.ok.noex b o e)⟩
theorem Inv.bk (I:Inv X pins σ H s):∀b o,X.base.get? b=some o->s.heap.get? b=some o:=λb o e=>(I.bs b o e).1
theorem Inv.mod (I:Inv X pins σ H s):Mod X.K X.mg X.base:=I.ok.mod
theorem Inv.kIn (I:Inv X pins σ H s):X.K.In s.heap:=I.ok.mod.kin.keeps I.bk
theorem Inv.fr (I:Inv X pins σ H s):∃m,Fr X.base X.env.locals s.heap m :=
 let ⟨m,hn,_⟩:=I.loc
 ⟨m,hn,I.bk,K0q I.ok.bsz I.ok.above⟩
theorem Inv.lt (I:Inv X pins σ H s):X.env.locals<s.heap.objs.size:=let ⟨_,hn,_⟩:=I.loc;hn.lt
theorem Inv.sz (I:Inv X pins σ H s):X.s₀.heap.objs.size<=s.heap.objs.size:=K0q I.ok.above (K33 I.lt)
theorem Inv.nofs (I:Inv X pins σ H s) (h:s.heap.objs.size<=a):a∉X.fs:=λhb=>by
 obtain⟨_,o,ho,_⟩:=I.ok.funs.mem hb;exact absurd (K0r (K0c ho) (K0q I.sz h)) (K31 _)
theorem Inv.cne (I:Inv X pins σ H s):∀x c,X.env.cells.lookup x=some c->c≠X.env.locals:=λx c e z=>by
 obtain⟨v,o,ho,hd⟩:=I.cell x c e;obtain⟨m,⟨o',es,ep,ho',hd',_⟩,_⟩:=I.loc;rw[z,ho']at ho;cases ho;rw[hd']at hd;cases hd
theorem Inv.funs (I:Inv X pins σ H s):s.heap.FunFrames X.base X.outer:=by
 have all:∀(l:List Env),(∀b∈frs l,b∈X.fs)->X.s₀.heap.FunFrames X.base l->s.heap.FunFrames X.base l:=by
  intro l;induction l with
  | nil=>intro _ _;trivial
  | cons env r ih =>
   intro hs hl;obtain⟨hk,⟨L,o,hf,hn,ho,hd⟩,hr⟩:=hl;have hL:L∈X.fs:=hs L (by unfold frs;rw[K4n,hf];exact K1e);obtain⟨sl,e⟩:=I.base.slot L o ho (I.ok.frf L hL) hL λz=>I.ok.exfs L z hL;exact⟨hk,⟨L,_,hf,hn,e,hd⟩,ih (λb hb=>hs b (by unfold frs;rw[K4n,hf];exact K1a _ hb)) hr⟩
 exact all X.outer (λ_ hb=>hb) I.ok.funs
theorem Inv.stack (I:Inv X pins σ H s):s.heap.FunFrames X.base X.stack:=by
 rcases I.ok.stk with e|⟨e,hf⟩
 ·rw[e];exact I.funs
 ·rw[e];obtain⟨m,hn,_⟩:=I.loc;refine .cons (by rw[I.ok.kind];decide) hf hn ?_ I.funs;exact Heap.get?_none_of_le (K0q I.ok.bsz I.ok.above)
theorem Inv.stkSub (I:Inv X pins σ H s):∀b∈frs X.stack,b∈X.env.locals::X.fs:=λb hb=>by
 rcases I.ok.stk with e|⟨e,hf⟩
 ·rw[e]at hb;exact K1a _ hb
 ·rw[e]at hb;unfold frs at hb;rw[K4n,hf]at hb;exact hb
theorem Inv.stkFree (I:Inv X pins σ H s):∀b∈frs X.stack,H b=none:=λb hb=>by
 rcases K0y.mp (I.stkSub b hb) with e|hb
 ·rw[e];exact I.free
 ·obtain⟨_,o,ho,_⟩:=I.ok.funs.mem hb;exact I.base.free b o ho (I.ok.frf b hb) λz=>I.ok.exfs b z hb
theorem Inv.step {g':Array Z21}{t':Nat}{d':Drawn}{ch:List Addr}(I:Inv X pins σ H s)
 (hch:∀b∈ch,(b∈X.ex\/X.s₀.heap.objs.size<=b)/\b≠X.env.locals/\(∀x c,X.env.cells.lookup x=some c->c≠b)/\∀p∈X.pn++pins,p.1≠b)
 (keep:∀b o,b≠X.env.locals->b∉X.fs->b∉ch->s.heap.get? b=some o->H b=none->h'.get? b=some o)
 (slot:∀b o,b≠X.env.locals->b∈X.fs->b∉ch->s.heap.get? b=some o->H b=none->∃sl,h'.get? b=some { o with slots:=sl }) (free:∀b o,b∉ch->s.heap.get? b=some o->H b=none->H' b=none)
 (there:∀b o,b∉ch->s.heap.get? b=some o->∃o',h'.get? b=some o')
 (tups:∀b xs,H b=.(g xs)->H' b=.(g xs)) (frzs:∀b o u,H b=some (.frz o u)->H' b=some (.frz o u)) (tbls:∀b ps,H b=some (.tbl ps)->∃more,H' b=some (.tbl (ps++more)))
 (ns:∀m,s.heap.Ns X.env.locals m->h'.Ns X.env.locals m) (hok:HOk X.prog X.w H' h') (hg:K7c g') :
 Inv X pins σ H' { s with heap:=h',gens:=g',drawn:=d',toks:=t' }:=by
 have neL:∀b o,X.s₀.heap.get? b=some o->b≠X.env.locals:=λb o e=>K0u (K0r (K0c e) I.ok.above);have neC:∀b o,X.s₀.heap.get? b=some o->b∉X.ex->b∉ch:=λb o e hx hb=>by
  rcases(hch b hb).1 with z|z
  ·exact hx z
  ·exact absurd (K0r (K0c e) z) (K31 _)
 have cellK:∀x c,X.env.cells.lookup x=some c->∀v,s.heap.IsCell c v->h'.IsCell c v:=λx c e v ⟨o,ho,hd⟩=>by
  have nch:c∉ch:=λz=>(hch c z).2.2.1 x c e rfl;by_cases hc:c∈X.fs
  ·obtain⟨sl,q⟩:=slot c o (I.cne x c e) hc nch ho (I.freeC x c e);exact⟨_,q,hd⟩
  ·exact⟨o,keep c o (I.cne x c e) hc nch ho (I.freeC x c e),hd⟩
 refine⟨I.ok,I.os,hg,⟨λb o e n hb hx=>?_,λb o e n hb hx=>?_,λb o e n hx=>?_,λb o e hx=>?_,λb xs e=>tups b xs (I.base.tups b xs e),λb o xs e=>frzs b o xs (I.base.frzs b o xs e),λb ps e=>?_⟩,?_,λx c e=>?_,?_,λx c e=>?_,λp hp=>?_,hok,I.len⟩
 ·exact keep b o (neL b o e) hb (neC b o e hx) (I.base.keep b o e n hb hx) (I.base.free b o e n hx)
 ·obtain⟨sl,e1⟩:=I.base.slot b o e n hb hx;obtain⟨sl',e2⟩:=slot b _ (neL b o e) hb (neC b o e hx) e1 (I.base.free b o e n hx);exact⟨sl',e2⟩
 ·obtain⟨o',e1⟩:=I.base.there b o e hx;exact free b o' (neC b o e hx) e1 (I.base.free b o e n hx)
 ·obtain⟨o',e1⟩:=I.base.there b o e hx;exact there b o' (neC b o e hx) e1
 ·obtain⟨m1,e1⟩:=I.base.tbls b ps e;obtain⟨m2,e2⟩:=tbls b _ e1;exact⟨m1++m2,by rw[e2,Array.append_assoc]⟩
 ·obtain⟨m,hn,hl⟩:=I.loc;refine⟨m,ns m hn,λi x v e1 e2 e3=>?_⟩;obtain⟨u,r,l⟩:=hl i x v e1 e2 e3;refine⟨u,r,?_⟩;rcases l with l|⟨k,c,e,z⟩
  ·exact .inl l
  ·exact .inr ⟨k,c,e,cellK x c e _ z⟩
 ·obtain⟨v,z⟩:=I.cell x c e;exact⟨v,cellK x c e v z⟩
 ·obtain⟨m,⟨o,_,_,ho,_⟩,_⟩:=I.loc;exact free _ o (λz=>(hch _ z).2.1 rfl) ho I.free
 ·obtain⟨v,o,ho,hd⟩:=I.cell x c e;exact free c o (λz=>(hch c z).2.2.1 x c e rfl) ho (I.freeC x c e)
 ·obtain⟨e,n,ne,nf,d⟩:=I.pin p hp;have nch:p.1∉ch:=λz=>(hch p.1 z).2.2.2 p hp rfl;exact⟨keep p.1 p.2 ne nf nch e n,free p.1 p.2 nch e n,ne,nf,d⟩
theorem Inv.un (I:Inv X pins σ H s) (u:Un X.fs [] H H' s.heap h') (hok:HOk X.prog X.w H' h'):Inv X pins σ H' { s with heap:=h',toks:=t' }:=by
 obtain⟨m,⟨o,es,ep,ho,r⟩,_⟩:=id I.loc;obtain⟨sl,hL⟩:=u.any ho I.free .(f);exact I.step (g':=s.gens) (d':=s.drawn) (ch:=[]) (λ_ z=>nomatch z) (λb o _ hb _ e n=>u.keep b o e n hb .(f)) (λb o _ hb _ e n=>u.slot b o e n hb .(f)) (λb o _ e n=>u.free b o e n .(f)) (λb o _ e=>u.there b o e .(f)) u.tups u.frzs u.tbls (λm' hm=>by
  obtain⟨o',es',ep',ho',r'⟩:=hm;rw[ho]at ho';cases ho';exact⟨_,es',ep',hL,r'⟩) hok I.bare
theorem Inv.call {t':Nat}{d':Drawn}(I:Inv X pins σ H s) (u:Un (frs X.stack) ch H H' s.heap h') (hok:HOk X.prog X.w H' h') (hg:K7c g')
 (hch:∀b∈ch,(b∈X.ex\/X.s₀.heap.objs.size<=b)/\b≠X.env.locals/\(∀x c,X.env.cells.lookup x=some c->c≠b)/\∀p∈X.pn++pins,p.1≠b) :
 Inv X pins σ H' { s with heap:=h',gens:=g',drawn:=d',toks:=t' }:=by
 obtain⟨m,⟨o,es,ep,ho,r⟩,_⟩:=id I.loc;obtain⟨sl,hL⟩:=u.any ho I.free λz=>(hch _ z).2.1 rfl;exact I.step (ch:=ch) hch (λb o hL hb hc e n=>u.keep b o e n (λz=>(K0y.mp (I.stkSub b z)).elim hL hb) hc) (λb o _ _ hc e n=>u.any e n hc) (λb o hc e n=>u.free b o e n hc) (λb o hc e=>u.there b o e hc) u.tups u.frzs u.tbls (λm' hm=>by
  obtain⟨o',es',ep',ho',r'⟩:=hm;rw[ho]at ho';cases ho';exact⟨_,es',ep',hL,r'⟩) hok hg
theorem Inv.turned {t':Nat}(I:Inv X pins σ H s) (k:∀b o,b≠it->s.heap.get? b=some o->h'.get? b=some o) (hn:H it=none) (hL:it≠X.env.locals)
 (h1:it∈X.ex\/X.s₀.heap.objs.size<=it) (h2:∀x c,X.env.cells.lookup x=some c->c≠it) (h3:∀p∈X.pn++pins,p.1≠it):Inv X pins σ H { s with heap:=h',toks:=t' }:=by
 have nit:∀b u,H b=some u->b≠it:=λb u e z=>by rw[z,hn]at e;cases e
 refine I.step (g':=s.gens) (d':=s.drawn) (ch:=[it]) (λb hb=>?_) (λb o _ _ hc e _=>k b o (λz=>hc (by simp[z])) e) (λb o _ _ hc e _=>⟨o.slots,k b o (λz=>hc (by simp[z])) e⟩) (λ_ _ _ _ n=>n)
  (λb o hc e=>⟨o,k b o (λz=>hc (by simp[z])) e⟩) (λ_ _ e=>e) (λ_ _ _ e=>e) (λb ps e=>⟨#[],by rw[e];simp⟩) (λm hm=>?_) (λb u e=>?_) I.bare
 ·have e:b=it:=by simpa using hb
  subst e;exact⟨h1,hL,h2,h3⟩
 ·obtain⟨o,es,ep,ho,r⟩:=hm;exact⟨o,es,ep,k _ o (K4y hL) ho,r⟩
 ·refine(I.hok b u e).stay (λc v hc q=>k c v ?_ q) (λ_ q=>q) λ_ _ q=>q;rcases hc with z|z
  ·rw[z];exact nit b u e
  ·exact nit c _ z
theorem Inv.tok (I:Inv X pins σ H s) (t:Nat):Inv X pins σ H { s with toks:=t }:=I.un (h':=s.heap) (t':=t) Un.refl I.hok
theorem Inv.kept {t':Nat}(I:Inv X pins σ H s) (k:∀b u,s.heap.get? b=some u->h'.get? b=some u):Inv X pins σ H { s with heap:=h',toks:=t' }:=I.un (Un.kept k) (I.hok.kept k)
theorem Inv.laid {a:Addr}{o:HO}{t':Nat}(I:Inv X pins σ H s) (k:∀b u,s.heap.get? b=some u->h'.get? b=some u) (hp:s.heap.objs.size<=a) (new:ObjOk X.prog X.w (upd H a o) h' a o) :
 Inv X pins σ (upd H a o) { s with heap:=h',toks:=t' }:=I.un (Un.laid k hp (I.hok.fresh hp)) (I.hok.laid k hp new)
theorem Inv.write {x e:Addr}{o:HO}{t':Nat}(I:Inv X pins σ H s) (mu:Mut (H x)) (he:e=x\/H e=some (.own x)) (k:∀b u,b≠e->s.heap.get? b=some u->h'.get? b=some u) (heo:∃u,h'.get? e=some u)
 (new:ObjOk X.prog X.w (upd H x o) h' x o):Inv X pins σ (upd H x o) { s with heap:=h',toks:=t' }:=I.un (Un.write mu he k heo) (I.hok.write mu he k heo new)
theorem Inv.weak (I:Inv X pins σ H s) (hl:σ'.length=σ.length) (w:∀(i:Nat) v,σ'[i]?=some (some v)->σ[i]?=some (some v)):Inv X pins σ' H s :=
 ⟨I.ok,I.os,I.bare,I.base,let ⟨m,hn,hl'⟩:=I.loc;⟨m,hn,λi x v e1 e2 e3=>hl' i x v e1 (w i v e2) e3⟩,I.cell,I.free,I.freeC,I.pin,I.hok,hl.trans I.len⟩
theorem Inv.pins_of (I:Inv X pins σ H s) (h:∀p∈pins',s.heap.get? p.1=some p.2/\H p.1=none/\p.1≠X.env.locals/\p.1∉X.fs/\∀v,p.2.data≠.cell v):Inv X pins' σ H s :=
 ⟨I.ok,I.os,I.bare,I.base,I.loc,I.cell,I.free,I.freeC,λp hp=>(K00.mp hp).elim (λz=>I.pin p (K0l _ z)) (h p),I.hok,I.len⟩
theorem z8q (hN:N.Nodup){j:Nat}(a:N[i]?=some x) (b:N[j]?=some x):i=j:=by
 obtain⟨h1,e1⟩:=K02.mp a;obtain⟨h2,e2⟩:=K02.mp b;exact(Z2i hN).mp (e1.trans e2.symm)
theorem zi5 {M:Model}{A:Around}{E:Value->Shared->Prop}{Q:Unit->Shared->Prop}(I:Inv X pins σ H s) (hN:X.N.Nodup) (hi:X.N[i]?=some x) (hx:Loc X.env.scope x) (r:RelV v u)
 (h:∀s',Inv X pins (σ.set i (some v)) H s'->(∃a,K2b a s.heap s'.heap/\(a=X.env.locals\/X.env.cells.lookup x=some a))->Q () s') (hf:X.fn x=true\/X.env.scope.names.lookup x=some .local:=by first|exact .inl rfl|exact .inr rfl|assumption):wpAny M A (storeName X.env x u) Q E s:=by
 obtain⟨m,hn,hl⟩:=id I.loc;have hcls:(X.env.scope.kind==.class||(X.env.scope.kind==.module&&X.env.locals != X.env.globals))=false:=by rw[I.ok.kind];rfl
 have hiσ:i<σ.length:=by rw[I.len];exact(K02.mp hi).1
 have cne:=I.cne;have tracked:∀{a:Addr} {h':Heap},(∃o,s.heap.get? a=some o/\H a=none)->K2b a s.heap h'->HOk X.prog X.w H h':=λ{a h'} ha hs b ob e=>by
  obtain⟨_,_,hfree⟩:=ha;refine(I.hok b ob e).stay (λc w' hc q=>(hs.2 c ?_).trans q) (λ_ q=>q) λ_ _ q=>q;rintro rfl;rcases hc with rfl|hc
  ·rw[hfree]at e;cases e
  ·rw[hfree]at hc;cases hc
 rcases hx with hk|hk
 ·refine wpAny_storeName_local hk hn (λh' hn' hs=>?_) hcls;obtain⟨oL,_,_,hoL,_⟩:=id hn;refine h _ ⟨I.ok,I.os,I.bare,⟨λb o e n hb hx=>?_,λb o e n hb hx=>?_,I.base.free,λb o e hx=>?_,I.base.tups,I.base.frzs,I.base.tbls⟩,⟨_,hn',λj y v' e1 e2 e3=>?_⟩,λy c e=>?_,I.free,I.freeC,λp hp=>?_,tracked ⟨oL,hoL,I.free⟩ hs,by simpa using I.len⟩ ⟨_,hs,.inl rfl⟩
  ·exact(hs.2 b (K0u (K0r (K0c e) I.ok.above))).trans (I.base.keep b o e n hb hx)
  ·obtain⟨sl,e1⟩:=I.base.slot b o e n hb hx;exact⟨sl,(hs.2 b (K0u (K0r (K0c e) I.ok.above))).trans e1⟩
  ·obtain⟨o',e1⟩:=I.base.there b o e hx;exact⟨o',(hs.2 b (K0u (K0r (K0c e) I.ok.above))).trans e1⟩
  ·by_cases hj:j=i
   ·subst hj;rw[hi]at e1;cases e1;rw[K1o hiσ]at e2;cases e2;exact⟨u,r,.inl ⟨hk,by simp⟩⟩
   ·rw[K29 (K4y hj)]at e2;obtain⟨u',r',q⟩:=hl j y v' e1 e2 e3;refine⟨u',r',?_⟩;rcases q with ⟨k,e⟩|⟨k,c,e,z⟩
    ·refine .inl ⟨k,?_⟩;have:y≠x:=λe=>hj (z8q hN e1 (e ▸ hi));simp[this,e]
    ·exact .inr ⟨k,c,e,z.sameBut hs (cne y c e)⟩
  ·obtain⟨w',z⟩:=I.cell y c e;exact⟨w',z.sameBut hs (cne y c e)⟩
  ·obtain⟨e,n,ne,nf,d⟩:=I.pin p hp;exact⟨(hs.2 p.1 ne).trans e,n,ne,nf,d⟩
 ·have hfn:X.fn x=true:=by
   rcases hf with z|z
   ·exact z
   ·rw[z]at hk;cases hk
  obtain⟨c,hc⟩:=I.ok.has x (.inl hk);obtain⟨w',z⟩:=I.cell x c hc;refine wpAny_storeName_cell I.ok.kind hk hc z (λh' hc' hs=>?_);obtain⟨oc,hoc,hocd⟩:=id z;refine h { s with heap:=h' } ⟨I.ok,I.os,I.bare,⟨λb o e n hb hx=>?_,λb o e n hb hx=>?_,I.base.free,λb o e hx=>?_,I.base.tups,I.base.frzs,I.base.tbls⟩,⟨m,hn.sameBut hs (K4y (cne x c hc)),λj y v' e1 e2 e3=>?_⟩,λy c' e=>?_,I.free,I.freeC,λp hp=>?_,tracked ⟨oc,hoc,I.freeC x c hc⟩ hs,by simpa using I.len⟩ ⟨c,hs,.inr hc⟩
  ·exact(hs.2 b (K0u (K0r (K0c e) (I.ok.cab x c hfn hc)))).trans (I.base.keep b o e n hb hx)
  ·obtain⟨sl,e1⟩:=I.base.slot b o e n hb hx;exact⟨sl,(hs.2 b (K0u (K0r (K0c e) (I.ok.cab x c hfn hc)))).trans e1⟩
  ·obtain⟨o',e1⟩:=I.base.there b o e hx;exact⟨o',(hs.2 b (K0u (K0r (K0c e) (I.ok.cab x c hfn hc)))).trans e1⟩
  ·by_cases hj:j=i
   ·subst hj;rw[hi]at e1;cases e1;rw[K1o hiσ]at e2;cases e2;exact⟨u,r,.inr ⟨.inl hk,c,hc,hc'⟩⟩
   ·rw[K29 (K4y hj)]at e2;obtain⟨u',r',q⟩:=hl j y v' e1 e2 e3;refine⟨u',r',?_⟩;rcases q with q|⟨k,c',e,z'⟩
    ·exact .inl q
    ·refine .inr ⟨k,c',e,z'.sameBut hs ?_⟩;rintro rfl;exact hj (z8q hN e1 (I.ok.inj _ _ _ e hc ▸ hi))
  ·by_cases hcc:c'=c
   ·subst hcc;exact⟨_,hc'⟩
   ·obtain⟨w2,z2⟩:=I.cell y c' e;exact⟨w2,z2.sameBut hs hcc⟩
  ·obtain⟨e,n,ne,nf,d⟩:=I.pin p hp;refine⟨(hs.2 p.1 ?_).trans e,n,ne,nf,d⟩;intro q;rw[q,hoc]at e;have q':oc=p.2:=K19 e;exact d w' (by rw[<- q'];exact hocd)
theorem z8Q {M:Model}{A:Around}{E:Value->Shared->Prop}{Q:Unit->Shared->Prop}(I:Inv X pins σ H s) (hN:X.N.Nodup) (hi:X.N[i]?=some x) (hx:Loc X.env.scope x) (r:RelV v u)
 (h:∀s',Inv X pins (σ.set i (some v)) H s'->Q () s') (hf:X.fn x=true\/X.env.scope.names.lookup x=some .local:=by first|exact .inl rfl|exact .inr rfl|assumption):wpAny M A (storeName X.env x u) Q E s :=
 zi5 I hN hi hx r (λs' I' _=>h s' I') hf
theorem Inv.call' (I:Inv X pins σ H s) (ho:s'.os=s.os) (u:Un (frs X.stack) ch H H' s.heap s'.heap) (hok:HOk X.prog X.w H' s'.heap) (hg:K7c s'.gens)
 (hch:∀b∈ch,(b∈X.ex\/X.s₀.heap.objs.size<=b)/\b≠X.env.locals/\(∀x c,X.env.cells.lookup x=some c->c≠b)/\∀p∈X.pn++pins,p.1≠b):Inv X pins σ H' s':=by
 obtain⟨h',g',d',t',o'⟩:=s';have e:o'=s.os:=ho;subst e;exact I.call (g':=g') (t':=t') (d':=d') u hok hg hch
end
abbrev XK:=Value->Option Addr->Hp->Prop
abbrev St:=List (Option V)
variable{σ:St}
abbrev VK:=V->Hp->Prop
variable{tget:V->V->Hp->VK->Prop}{r:List V->Hp->VK->Prop}
abbrev TE:=St->Hp->VK->Prop
variable{ta te:TE}
abbrev TT:=St->Hp->(Bool->Hp->Prop)->Prop
abbrev TA:=St->Hp->(List V->Hp->Prop)->Prop
variable{t:TA}
structure Ends where
 nx:St->Hp->Prop
 rt:VK
 bk:St->Hp->Prop:=λ_ _=>False
 ct:St->Hp->Prop:=λ_ _=>False
abbrev TS:=Ends->St->Hp->Prop
variable{tb:TS}
def EP (X:Cx) (pins:List (Addr×Obj)) (σ:St) (Q:VK) (u:Value) (s':Shared):Prop:=∃v H',Inv X pins σ H' s'/\RelV v u/\Q v H'
def TP (X:Cx) (pins:List (Addr×Obj)) (σ:St) (Q:Bool->Hp->Prop) (b:Bool) (s':Shared):Prop:=∃H',Inv X pins σ H' s'/\Q b H'
def AP (X:Cx) (pins:List (Addr×Obj)) (σ:St) (Q:List V->Hp->Prop) (us:List Value) (s':Shared):Prop:=∃vs H',Inv X pins σ H' s'/\Vals vs us/\Q vs H'
def SP (X:Cx) (pins:List (Addr×Obj)) (D:Ends) (f:Flow) (s':Shared):Prop :=
 match f with
 | .next=>∃σ' H',Inv X pins σ' H' s'/\D.nx σ' H'
 | .brk=>∃σ' H',Inv X pins σ' H' s'/\D.bk σ' H'
 | .cont=>∃σ' H',Inv X pins σ' H' s'/\D.ct σ' H'
 | .ret u=>∃v σ' H',Inv X pins σ' H' s'/\RelV v u/\D.rt v H'
def PE (X:Cx) (e:Expr) (t:TE):Prop :=
 ∀(pins:List (Addr×Obj)) (s:Shared) (σ:St) (H:Hp) (Q:VK),Inv X pins σ H s->t σ H Q->wpAny .(4) X.A (eval e X.env) (EP X pins σ Q) X.xe s
def PT (X:Cx) (e:Expr) (t:TT):Prop :=
 ∀(pins:List (Addr×Obj)) (s:Shared) (σ:St) (H:Hp) (Q:Bool->Hp->Prop),Inv X pins σ H s->t σ H Q->wpAny .(4) X.A (isTrue e X.env (eval e X.env)) (TP X pins σ Q) X.xe s
def PW (X:Cx) (e:Expr) (t:TT):Prop :=
 ∀(whole:Sem Value) (pins:List (Addr×Obj)) (s:Shared) (σ:St) (H:Hp) (Q:Bool->Hp->Prop),Inv X pins σ H s->t σ H Q->wpAny .(4) X.A (isTrue e X.env whole) (TP X pins σ Q) X.xe s
theorem PW.pt {t:TT}(h:PW X e t):PT X e t:=h _
def PA (X:Cx) (es:List Expr) (t:TA):Prop :=
 ∀(pos:Pos) (pins:List (Addr×Obj)) (s:Shared) (σ:St) (H:Hp) (Q:List V->Hp->Prop),Inv X pins σ H s->t σ H Q->wpAny .(4) X.A (spliced (backTo pos (K0h es X.env))) (AP X pins σ Q) X.xe s
def PS (X:Cx) (st:Stmt) (t:TS):Prop :=
 ∀(pins:List (Addr×Obj)) (s:Shared) (σ:St) (H:Hp) (D:Ends),Inv X pins σ H s->t D σ H->wpAny .(4) X.A (exec st X.env) (SP X pins D) X.xe s
def PSs (X:Cx) (st:List Stmt) (t:TS):Prop :=
 ∀(pins:List (Addr×Obj)) (s:Shared) (σ:St) (H:Hp) (D:Ends),Inv X pins σ H s->t D σ H->wpAny .(4) X.A (execs st X.env) (SP X pins D) X.xe s
theorem thn {α:Type}{t:Sem α}{Q Q':α->Shared->Prop}{M:Model}(h:wpAny M A t Q E s) (hQ:∀a s,Q a s->Q' a s):wpAny M A t Q' E s:=K44 h hQ λ_ _ x=>x
section
def tVar (i:Nat):TE:=λσ H Q=>∃v,σ[i]?=some (some v)/\Q v H
def tC (v:V):TE:=λ_ H Q=>Q v H
theorem zW5 (hN:X.N[i]?=some x) (hv:Vis X.env.scope x) (hd:(x==("__debug__":Str))=false:=by decide) (hcd:(x==("__classdict__":Str))=false:=by decide):PE X (.Name x pos) (tVar i):=by
 intro pins s σ H Q I h;obtain⟨v,e,h⟩:=h;obtain⟨m,hn,hl⟩:=I.loc;obtain⟨u,r,l⟩:=hl i x v hN e hv;have fin:EP X pins σ Q u s:=⟨v,H,I,r,h⟩;rcases l with ⟨hk,hm⟩|⟨hk,c,hc,hcell⟩
 ·exact wpAny_Name (wpAny_loadName_local I.ok.kind hk hn hm fin) hd
 ·rcases hk with hk|hk
  ·exact wpAny_Name (wpAny_loadName_cell I.ok.kind hk hc hcell fin) hd
  ·exact wpAny_Name (wpAny_loadName_free I.ok.kind hk hc hcell fin hcd) hd
theorem zT6 {i j pos}:PE X (.Constant (.int i) j pos) (tC (.int i)):=λ_ _ _ H _ I h=>wpAny_Constant_int ⟨.int i,H,I.tok _,⟨_,rfl⟩,h⟩
theorem Z0y {b j pos}:PE X (.Constant (.bool b) j pos) (tC (.bl b)):=λ_ _ _ H _ I h=>Constant_bool ⟨.bl b,H,I,rfl,h⟩
theorem zW2 {x j pos}:PE X (.Constant (.str x) j pos) (tC (.str x)):=λ_ _ _ H _ I h=>Calls.Constant_str ⟨.str x,H,I.tok _,⟨_,rfl⟩,h⟩
def Gl (X:Cx) (x:Str):Prop:=X.env.kindOf x=some .globalImplicit
theorem zh9 {E:Value->Shared->Prop}{pos:Pos}{Q:Value->Shared->Prop}(I:Inv X pins σ H s) (hg:Gl X x) (hm:X.mg x=some u) (h:Q u s)
 (hd:(x==("__debug__":Str))=false:=by decide):wpAny .(4) X.A (eval (.Name x pos) X.env) Q E s :=
 K7q I.ok.kind hg (Calls.loadGlobal_global (by rw[I.ok.glob];exact I.mod.glob.keeps I.bk) hm h) hd
theorem z3V {E:Value->Shared->Prop}{pos:Pos}{Q:Value->Shared->Prop}(I:Inv X pins σ H s) (hg:Gl X x) (hm:X.mg x=none) (hv:K5n x=some u) (h:Q u s)
 (hn:x≠"__name__":=by decide) (hd:(x==("__debug__":Str))=false:=by decide):wpAny .(4) X.A (eval (.Name x pos) X.env) Q E s:=by
 obtain⟨mb,h1,h2⟩:=I.mod.blt;exact K7q I.ok.kind hg (Calls.loadGlobal_builtin (by rw[I.ok.glob];exact I.mod.glob.keeps I.bk) hm (by rw[I.ok.blt];exact h1.keeps I.bk) ((h2 x hn).trans hv) h) hd
theorem zE4 (hg:Gl X x) (hm:X.mg x=none) (hv:K5n x=some u) (r:RelV v u) (hn:x≠"__name__":=by decide) (hd:(x==("__debug__":Str))=false:=by decide):PE X (.Name x pos) (tC v) :=
 λ_ _ _ H _ I h=>z3V I hg hm hv ⟨v,H,I,r,h⟩ hn hd
variable {a b:Expr}{tb:TE}
def tB (t:TE):TT:=λσ H Q=>t σ H λx H1=>∃c,x=.bl c/\Q c H1
variable {tA tB':TT}{rest:List Expr}
def tAnd (t u:TT):TT:=λσ H Q=>t σ H λc H1=>if c=true then u σ H1 Q else Q false H1
def tOr (t u:TT):TT:=λσ H Q=>t σ H λc H1=>if c=true then Q true H1 else u σ H1 Q
def tNot (t:TT):TT:=λσ H Q=>t σ H λc H1=>Q (!c) H1
theorem zJ8 (ha:PT X a tA):PW X (.BoolOp .And [a] pos) tA:=by
 intro wh pins s σ H Q I h;refine isTrue_and (thn (ha pins s σ H Q I h) λc s1 e=>?_);cases c with
 | true=>exact isTrue_and_nil e
 | false=>exact e
theorem zN6 (ha:PT X a tA):PW X (.BoolOp .Or [a] pos) tA:=by
 intro wh pins s σ H Q I h;refine isTrue_or (thn (ha pins s σ H Q I h) λc s1 e=>?_);cases c with
 | false=>exact isTrue_or_nil e
 | true=>exact e
theorem zO6 (ha:PT X a tA) (hb:PW X (.BoolOp .And (b::rest) pos) tB'):PW X (.BoolOp .And (a::b::rest) pos) (tAnd tA tB'):=by
 intro wh pins s σ H Q I h;refine isTrue_and (thn (ha pins s σ H _ I h) λc s1 ⟨H1,I1,q1⟩=>?_);cases c with
 | true=>exact hb wh pins s1 σ H1 Q I1 q1
 | false=>exact⟨H1,I1,q1⟩
theorem zZ9 (ha:PT X a tA) (hb:PW X (.BoolOp .Or (b::rest) pos) tB'):PW X (.BoolOp .Or (a::b::rest) pos) (tOr tA tB'):=by
 intro wh pins s σ H Q I h;refine isTrue_or (thn (ha pins s σ H _ I h) λc s1 ⟨H1,I1,q1⟩=>?_);cases c with
 | true=>exact⟨H1,I1,q1⟩
 | false=>exact hb wh pins s1 σ H1 Q I1 q1
theorem zL8 (ha:PT X a tA):PT X (.UnaryOp .Not a pos) (tNot tA):=by
 intro pins s σ H Q I h;exact isTrue_not (ha pins s σ H (λc H1=>Q (!c) H1) I h)
def Z0B (ta tb:TE):TE:=λσ H Q=>ta σ H λx H1=>∃c,x=.bl c/\if c=true then tb σ H1 Q else Q (.bl false) H1
def tOrV (ta tb:TE):TE:=λσ H Q=>ta σ H λx H1=>∃c,x=.bl c/\if c=true then Q (.bl true) H1 else tb σ H1 Q
def Z0d (ta:TE):TE:=λσ H Q=>ta σ H λx H1=>∃c,x=.bl c/\Q (.bl (!c)) H1
theorem zS2 {op}{t:TE}(h:PE X a t):PE X (.BoolOp op [a] pos) t:=λpins s σ H Q I hw=>BoolOp_one (h pins s σ H Q I hw)
theorem zM0 (ha:PE X a ta) (hb:PE X (.BoolOp .And (b::rest) pos) tb):PE X (.BoolOp .And (a::b::rest) pos) (Z0B ta tb):=by
 intro pins s σ H Q I h;refine BoolOp_and (thn (ha pins s σ H _ I h) λv s1 ⟨x,H1,I1,r1,q1⟩=>?_);obtain⟨c,rfl,q1⟩:=q1;cases r1;refine K3n ?_;cases c with
 | true=>exact hb pins s1 σ H1 Q I1 q1
 | false=>exact⟨.bl false,H1,I1,rfl,q1⟩
theorem Z0D (ha:PE X a ta) (hb:PE X (.BoolOp .Or (b::rest) pos) tb):PE X (.BoolOp .Or (a::b::rest) pos) (tOrV ta tb):=by
 intro pins s σ H Q I h;refine BoolOp_or (thn (ha pins s σ H _ I h) λv s1 ⟨x,H1,I1,r1,q1⟩=>?_);obtain⟨c,rfl,q1⟩:=q1;cases r1;refine K3n ?_;cases c with
 | false=>exact hb pins s1 σ H1 Q I1 q1
 | true=>exact⟨.bl true,H1,I1,rfl,q1⟩
theorem zV0 (ha:PE X a ta):PE X (.UnaryOp .Not a pos) (Z0d ta):=by
 intro pins s σ H Q I h;refine UnaryOp_ (thn (ha pins s σ H _ I h) λv s1 ⟨x,H1,I1,r1,q1⟩=>?_);obtain⟨c,rfl,q1⟩:=q1;cases r1;exact not_of (K3n ⟨.bl (!c),H1,I1,rfl,q1⟩)
end
def SqL (K:K5) (H:Hp) (a:Addr) (xs:List V):Prop :=
 Rd H a (.lst xs) \/
  ∃(o:Obj) (its:Array Value) (n:Nat),K.lookup a=some o/\o.cls=.type "list"/\o.dict=none/\o.data=.seq its n/\its.size<=sizeLine/\Vals xs its.toList
def SqT (K:K5) (H:Hp) (a:Addr) (xs:List V):Prop :=
 Rd H a (.tup xs) \/
  ∃(o:Obj) (its:Array Value) (n:Nat),K.lookup a=some o/\(o.cls=.type "tuple"/\o.dict=none)/\o.data=.seq its n/\its.size<=sizeLine/\Vals xs its.toList
def absV:Value->Option V
 | .none=>some .non
 | .bool b=>some (.bl b)
 | .int i _=>some (.int i)
 | .str x _=>some (.str x)
 | .bytes b _=>some (.byt b)
 | .float b _=>some (.flt b)
 | .ref a=>some (.ref a)
 | .type n=>some (.ty n)
 | _=>none
theorem RelV.abs {x:V}(r:RelV x u):absV u=some x:=by
 cases x with
 | non=>cases r;rfl
 | bl _=>cases r;rfl
 | int _=>obtain⟨t,rfl⟩:=r;rfl
 | str _=>obtain⟨t,rfl⟩:=r;rfl
 | byt _=>obtain⟨t,rfl⟩:=r;rfl
 | flt _=>obtain⟨t,rfl⟩:=r;rfl
 | ref _=>cases r;rfl
 | ty _=>cases r;rfl
theorem RelV.inj {x y:V}{u:Value}(r:RelV x u) (q:RelV y u):x=y:=K19 (r.abs.symm.trans q.abs)
theorem Vals.inj:∀{xs ys:List V}{us:List Value},Vals xs us->Vals ys us->xs=ys
 | _,_,_,.nil,.nil=>rfl
 | _,_,_,.cons r t,.cons r' t'=>by rw[r.inj r',Vals.inj t t']
section
variable {ys:List V}
theorem SqL.of (h:H a=.(l xs)):SqL K H a xs:=.inl (.inl h)
theorem SqT.of (h:H a=.(g xs)):SqT K H a xs:=.inl (.inl h)
theorem Inv.list (I:Inv X pins σ H s) (h:SqL X.K H a xs):∃its:List Value,Vals xs its/\PlainL s.heap a its.toArray/\xs.length<=sizeLine:=by
 rcases h with h|⟨o,its,n,hk,hc,hd,hs,hz,r⟩
 ·obtain⟨z,its,n,r,e⟩:=h.ok I.hok;exact⟨its,r,⟨_,n,e,rfl,rfl,rfl⟩,z⟩
 ·refine⟨its.toList,r,⟨o,n,I.kIn a o hk,hc,hd,by simpa using hs⟩,?_⟩;have e:=r.length;simp only[K17]at e;omega
theorem Inv.tuple (I:Inv X pins σ H s) (h:SqT X.K H a xs):∃its:List Value,Vals xs its/\IsTup s.heap a its.toArray/\xs.length<=sizeLine:=by
 rcases h with h|⟨o,its,n,hk,hc,hs,hz,r⟩
 ·obtain⟨z,its,r,p⟩:=h.ok I.hok;exact⟨its,r,p.tup,z⟩
 ·refine⟨its.toList,r,⟨o,I.kIn a o hk,hc.1,n,by simpa using hs⟩,?_⟩;have e:=r.length;simp only[K17]at e;omega
theorem Inv.list_inj (I:Inv X pins σ H s) (h:SqL X.K H a xs) (h':SqL X.K H a ys):xs=ys:=by
 obtain⟨its,r,⟨o,n,e,_,_,d⟩,_⟩:=I.list h;obtain⟨its',r',⟨o',n',e',_,_,d'⟩,_⟩:=I.list h';rw[e]at e';cases e';rw[d]at d';injection d' with d1 _
 have:its=its':=by simpa using congrArg Z1t d1
 subst this;exact r.inj r'
theorem Inv.tuple_inj (I:Inv X pins σ H s) (h:SqT X.K H a xs) (h':SqT X.K H a ys):xs=ys:=by
 obtain⟨its,r,⟨o,e,_,n,d⟩,_⟩:=I.tuple h;obtain⟨its',r',⟨o',e',_,n',d'⟩,_⟩:=I.tuple h';rw[e]at e';cases e';rw[d]at d';injection d' with d1 _
 have:its=its':=by simpa using congrArg Z1t d1
 subst this;exact r.inj r'
end
abbrev Cx.wish (X:Cx) (E:Value->Shared->Prop):Cx:={ X with xe:=E }
abbrev Cx.nox (X:Cx):Cx:=X.wish λ_ _=>False
theorem Cx.Ok.wish {X:Cx}(ok:X.Ok) (E:Value->Shared->Prop):(X.wish E).Ok :=
 ⟨ok.mod,ok.kind,ok.glob,ok.blt,ok.above,ok.inj,ok.has,ok.cab,ok.hd,ok.frames,ok.stk,ok.exf,ok.bs,ok.bsz,ok.noex,ok.exfs,ok.funs,ok.frf⟩
theorem Cx.Ok.unwish (ok:(X.wish E).Ok):X.Ok :=
 ⟨ok.mod,ok.kind,ok.glob,ok.blt,ok.above,ok.inj,ok.has,ok.cab,ok.hd,ok.frames,ok.stk,ok.exf,ok.bs,ok.bsz,ok.noex,ok.exfs,ok.funs,ok.frf⟩
theorem Inv.wish (I:Inv X pins σ H s) (E:Value->Shared->Prop):Inv (X.wish E) pins σ H s:=⟨I.ok.wish E,I.os,I.bare,I.base,I.loc,I.cell,I.free,I.freeC,I.pin,I.hok,I.len⟩
theorem Inv.unwish (I:Inv (X.wish E) pins σ H s):Inv X pins σ H s:=⟨I.ok.unwish,I.os,I.bare,I.base,I.loc,I.cell,I.free,I.freeC,I.pin,I.hok,I.len⟩
theorem SP.unwish {D:Ends}{f:Flow}{s':Shared}(h:SP (X.wish E) pins D f s'):SP X pins D f s':=by
 cases f with
 | next=>obtain⟨σ',H',I,q⟩:=h;exact⟨σ',H',I.unwish,q⟩
 | brk=>obtain⟨σ',H',I,q⟩:=h;exact⟨σ',H',I.unwish,q⟩
 | cont=>obtain⟨σ',H',I,q⟩:=h;exact⟨σ',H',I.unwish,q⟩
 | ret u=>obtain⟨v,σ',H',I,r,q⟩:=h;exact⟨v,σ',H',I.unwish,r,q⟩
theorem PSs.nox {st:List Stmt}{t:TS}(h:PSs X.nox st t):PSs X st t:=λpins s σ H D I hw =>
 K44 (h pins s σ H D (I.wish _) hw) (λ_ _ q=>q.unwish) λ_ _ z=>K3e z
section
variable {st:Stmt}{rest:List Stmt}{t u:TS}
def Z0P:TS:=λD σ H=>D.nx σ H
def tSeq (t u:TS):TS:=λD σ H=>t { D with nx:=u D } σ H
theorem zF3:PSs X [] Z0P:=λ_ _ σ H _ I h=>K96 ⟨σ,H,I,h⟩
theorem zn1 (h1:PS X st t) (h2:PSs X rest u):PSs X (st::rest) (tSeq t u):=by
 intro pins s σ H D I h;refine wpAny_execs_cons (thn (h1 pins s σ H { D with nx:=u D } I h) λf s1 q=>?_);cases f with
 | next =>
  obtain⟨σ',H',I',q⟩:=q;exact h2 pins s1 σ' H' D I' q
 | ret v=>exact q
 | brk=>exact q
 | cont=>exact q
theorem Inv.quiet (I:Inv X pins σ H s):interactive X.env=false:=by simp[interactive,I.ok.kind]
def Z0H (te:TE):TS:=λD σ H=>te σ H λ_ H1=>D.nx σ H1
theorem zy3 (he:PE X e te) (hs:K2w e none pos.line X.env=pure false:=by rfl):PS X (.Expr e pos) (Z0H te):=by
 intro pins s σ H D I h;exact wpAny_Expr_any (thn (he pins s σ H _ I h) λv s1 ⟨x,H1,I1,r1,q1⟩=>⟨σ,H1,I1,q1⟩) I.quiet hs
def tRet (te:TE):TS:=λD σ H=>te σ H D.rt
theorem zS6 (he:PE X e te):PS X (.Return (some e) pos) (tRet te):=by
 intro pins s σ H D I h;exact wpAny_Return_some (thn (he pins s σ H _ I h) λv s1 ⟨x,H1,I1,r1,q1⟩=>⟨x,σ,H1,I1,r1,q1⟩)
def tIfS (c:TT) (t u:TS):TS:=λD σ H=>c σ H λb H1=>if b=true then t D σ H1 else u D σ H1
theorem Z0A {a b:List Stmt}{tc:TT}(hc:PT X c tc) (ha:PSs X a t) (hb:PSs X b u):PS X (.If c a b pos) (tIfS tc t u):=by
 intro pins s σ H D I h;refine wpAny_If (thn (hc pins s σ H _ I h) λd s1 ⟨H1,I1,q1⟩=>?_);cases d with
 | true=>exact ha pins s1 σ H1 D I1 q1
 | false=>exact hb pins s1 σ H1 D I1 q1
end
abbrev TG:=V->St->Hp->(St->Hp->Prop)->Prop
abbrev TGs:=List V->St->Hp->(St->Hp->Prop)->Prop
def PG (X:Cx) (target:Expr) (t:TG):Prop :=
 ∀(pins:List (Addr×Obj)) (s:Shared) (σ:St) (H:Hp) (v:V) (u:Value) (Q:St->Hp->Prop),Inv X pins σ H s->RelV v u->t v σ H Q ->
  wpAny .(4) X.A (assign target X.env u) (λ_ s'=>∃σ' H',Inv X pins σ' H' s'/\Q σ' H') X.xe s
def PGs (X:Cx) (ts:List Expr) (t:TGs):Prop :=
 ∀(pins:List (Addr×Obj)) (s:Shared) (σ:St) (H:Hp) (vs:List V) (us:List Value) (Q:St->Hp->Prop),Inv X pins σ H s->Vals vs us->t vs σ H Q ->
  wpAny .(4) X.A (assignInOrder ((K34 ts X.env).map (·.2)) us) (λ_ s'=>∃σ' H',Inv X pins σ' H' s'/\Q σ' H') X.xe s
abbrev TSet:=V->V->V->Hp->(Hp->Prop)->Prop
def PSet (X:Cx) (t:TSet):Prop :=
 ∀(pins:List (Addr×Obj)) (s:Shared) (σ:St) (H:Hp) (o i v:V) (ov iv u:Value) (Q:Hp->Prop),Inv X pins σ H s->RelV o ov->RelV i iv->RelV v u->t o i v H Q ->
  wpAny .(4) X.A (K9v ov iv u) (λ_ s'=>∃H',Inv X pins σ H' s'/\Q H') X.xe s
abbrev TIp:=V->V->Hp->VK->Prop
def PIp (X:Cx) (op:Z20) (t:TIp):Prop :=
 ∀(pins:List (Addr×Obj)) (s:Shared) (σ:St) (H:Hp) (x y:V) (v u:Value) (Q:VK),Inv X pins σ H s->RelV x v->RelV y u->t x y H Q ->
  wpAny .(4) X.A (inplaceOp op v u) (EP X pins σ Q) X.xe s
def zX6 (i:Nat):TG:=λv σ H Q=>Q (σ.set i (some v)) H
theorem z7E (hN:X.N.Nodup) (hi:X.N[i]?=some x) (hx:Loc X.env.scope x) (hf:X.fn x=true\/X.env.scope.names.lookup x=some .local:=by first|exact .inl rfl|exact .inr rfl|assumption):PG X (.Name x pos) (zX6 i):=by
 intro pins s σ H v u Q I r h;exact wpAny_assign_Name (z8Q I hN hi hx r (λs' I'=>⟨_,H,I',h⟩) hf)
def gNil:TGs:=λvs σ H Q=>vs=[]/\Q σ H
def zZ7 (t:TG) (u:TGs):TGs:=λvs σ H Q=>∃v r,vs=v::r/\t v σ H λσ' H'=>u r σ' H' Q
theorem za9:PGs X [] gNil:=by
 intro pins s σ H vs us Q I r h;obtain⟨e,h⟩:=h;subst e;cases r;exact assignInOrder_nil ⟨σ,H,I,h⟩
theorem z8y {t:TG}{u:TGs}(h1:PG X e t) (h2:PGs X es u)
 (hs:(K34 (e::es) X.env).map (·.2)=assign e X.env::(K34 es X.env).map (·.2):=by rfl):PGs X (e::es) (zZ7 t u):=by
 intro pins s σ H vs us Q I r h;obtain⟨v,vr,e1,h⟩:=h;subst e1;cases r with
 | cons r rr =>
  rw[hs];refine assignInOrder_cons (thn (h1 pins s σ H _ _ _ I r h) λ_ s1 ⟨σ1,H1,I1,q1⟩=>?_);exact h2 pins s1 σ1 H1 _ _ Q I1 rr q1
def gTup (K:K5) (n:Nat) (t:TGs):TG:=λv σ H Q=>∃a xs,v=.ref a/\SqT K H a xs/\xs.length=n/\t xs σ H Q
theorem zv8 {k:Nat}{t:TGs}{n:Nat}(hc:X.calm=true) (h:PGs X es t)
 (hn:(K34 es X.env).length=n:=by rfl) (hst:(K34 es X.env).findIdx? (·.1)=none:=by rfl):PG X (.Tuple es k pos) (gTup X.K n t):=by
 intro pins s σ H v u Q I r hw;obtain⟨a,xs,e1,hq,hl,hw⟩:=hw;subst e1;cases r;obtain⟨its,rv,ht,hz⟩:=I.tuple hq;refine assign_Tuple_tuple (I.ok.hd hc) ht (by simp[hn,<- hl,rv.length]) hst λh' hx=>?_;have I1:Inv X pins σ H { s with heap:=h' }:=I.kept (t':=s.toks) λb o e=>hx b o (K0u (K0c e)) e;exact h pins _ σ H xs _ Q I1 (by simpa using rv) hw
def gSub (to ti:TE) (t:TSet):TG:=λv σ H Q=>to σ H λo H1=>ti σ H1 λi H2=>t o i v H2 λH3=>Q σ H3
theorem zt9 {o i:Expr}{to ti:TE}{t:TSet}(ho:PE X o to) (hi:PE X i ti) (hs:PSet X t)
 (ha:∀v,assign (.Subscript o i pos) X.env v=(do
  let ov <- K36 [v] (eval o X.env);let iv <- K36 [v,ov] (eval i X.env)
  K4o pos
  K36 [v,ov,iv] (K9v ov iv v)
  Z2t [v,ov,iv] []):=by intro _;rfl):PG X (.Subscript o i pos) (gSub to ti t):=by
 intro pins s σ H v u Q I r h;rw[ha];refine K2 (K2e (thn (ho pins s σ H _ I h) λov s1 ⟨x,H1,I1,r1,q1⟩=>?_));refine K2 (K2e (thn (hi pins s1 σ H1 _ I1 q1) λiv s2 ⟨y,H2,I2,r2,q2⟩=>?_));refine K2 (K4j (K2 (K2e (thn (hs pins s2 σ H2 x y v ov iv u _ I2 r1 r2 r q2) λ_ s3 ⟨H3,I3,q3⟩=>?_))));exact wpAny_release ⟨σ,H3,I3,q3⟩
def tAsg (te:TE) (g:TG):TS:=λD σ H=>te σ H λx H1=>g x σ H1 D.nx
theorem zP7 {g:TG}(he:PE X e te) (hg:PG X tg g) (hs:swapsWithSole [tg] e pos.line X.env=pure false:=by rfl) (hw:swappedStores [tg] e X.env=pure none:=by rfl)
 (h1:(K34 [tg] X.env).map (·.2)=[assign tg X.env]:=by rfl):PS X (.Assign [tg] e pos) (tAsg te g):=by
 intro pins s σ H D I h;refine wpAny_Assign_stores (thn (he pins s σ H _ I h) λv s1 ⟨x,H1,I1,r1,q1⟩=>?_) hs hw;rw[h1];exact thn (hg pins s1 σ H1 x v _ I1 r1 q1) λ_ s2 q=>q
theorem zS4 {pos':Pos}(hN:X.N.Nodup) (hi:X.N[i]?=some x) (hx:Loc X.env.scope x) (he:PE X e te) (hs:K2w e (some (.Name x pos')) pos.line X.env=pure false:=by rfl) (hf:X.fn x=true\/X.env.scope.names.lookup x=some .local:=by first|exact .inl rfl|exact .inr rfl|assumption):
 PS X (.Assign [.Name x pos'] e pos) (tAsg te (zX6 i)):=by
 intro pins s σ H D I h;refine wpAny_Assign_Name (thn (he pins s σ H _ I h) λv s1 ⟨y,H1,I1,r1,q1⟩=>?_) hs;exact z8Q I1 hN hi hx r1 (λs2 I2=>⟨_,H1,I2,q1⟩) hf
def Z0M (to ti te:TE) (tget:V->V->Hp->VK->Prop) (tip:TIp) (tset:TSet):TS:=λD σ H=>to σ H λo H1=>ti σ H1 λi H2=>tget o i H2 λx H3=>te σ H3 λy H4=>tip x y H4 λz H5=>tset o i z H5 λH6=>D.nx σ H6
def PGet (X:Cx) (t:V->V->Hp->VK->Prop):Prop :=
 ∀(pins:List (Addr×Obj)) (s:Shared) (σ:St) (H:Hp) (o i:V) (ov iv:Value) (Q:VK),Inv X pins σ H s->RelV o ov->RelV i iv->t o i H Q ->
  wpAny .(4) X.A (Z1y ov iv) (EP X pins σ Q) X.xe s
theorem zK0 {o i:Expr}{to ti:TE}{tip:TIp}{tset:TSet}{op:Z20}{tpos:Pos}(ho:PE X o to) (hi:PE X i ti) (hg:PGet X tget) (he:PE X e te) (hp:PIp X op tip) (hs:PSet X tset)
 (ha:∀ov iv new,augStore i ov iv new=(do K36 [new,ov,iv] (K9v ov iv new);Z2t [new,ov,iv] [];pure .next):=by intros;rfl):PS X (.AugAssign (.Subscript o i tpos) op e pos) (Z0M to ti te tget tip tset):=by
 intro pins s σ H D I h;refine wpAny_AugAssign_SubscriptAny (thn (ho pins s σ H _ I h) λov s1 ⟨x1,H1,I1,r1,q1⟩=>?_) ha;refine thn (hi pins s1 σ H1 _ I1 q1) λiv s2 ⟨x2,H2,I2,r2,q2⟩=>?_;refine thn (hg pins s2 σ H2 x1 x2 ov iv _ I2 r1 r2 q2) λold s3 ⟨x3,H3,I3,r3,q3⟩=>?_;refine thn (he pins s3 σ H3 _ I3 q3) λv s4 ⟨x4,H4,I4,r4,q4⟩=>?_;refine thn (hp pins s4 σ H4 x3 x4 old v _ I4 r3 r4 q4) λnew s5 ⟨x5,H5,I5,r5,q5⟩=>?_;exact thn (hs pins s5 σ H5 x1 x2 x5 ov iv new _ I5 r1 r2 r5 q5) λ_ s6 ⟨H6,I6,q6⟩=>⟨σ,H6,I6,q6⟩
def ipI (f:Int->Int->Int):TIp:=λx y H Q=>∃i j,x=.int i/\y=.int j/\Q (.int (f i j)) H
theorem zL9:PIp X .Sub (ipI λi j=>i - j):=by
 intro pins s σ H x y v u Q I r1 r2 h;obtain⟨i,j,e1,e2,q⟩:=h;subst e1;subst e2;obtain⟨t,rfl⟩:=r1;obtain⟨t',rfl⟩:=r2;exact isub_int ⟨.int _,H,I.tok _,⟨_,rfl⟩,q⟩
def zV8 (c:TT) (tb:TS):TS:=λD σ H=>∃W:Nat->St->Hp->Prop,(∃m,W m σ H)/\∀m σ H,W m σ H ->
 c σ H λb H1=>if b=true then ∃N:St->Hp->Prop,(∀σ' H',N σ' H'->∃m',m'<m/\W m' σ' H')/\tb { D with nx:=N,ct:=N,bk:=D.nx } σ H1 else D.nx σ H1
theorem zo6 {tc:TT}(hp:Z2g .(4) X.A X.env X.xe) (hc:PT X c tc) (hb:PSs X body tb):PS X (.While c body [] pos) (zV8 tc tb):=by
 intro pins s σ H D I h;obtain⟨W,⟨m0,w0⟩,turn⟩:=h;refine wpAny_While (codeAny_whileLoop (λn s'=>∃σ' H',Inv X pins σ' H' s'/\W n σ' H') ?_ m0 ⟨σ,H,I,w0⟩);rintro n s1 ⟨σ1,H1,I1,w1⟩;refine K49 hp (thn (hc pins s1 σ1 H1 _ I1 (turn n σ1 H1 w1)) λb s2 ⟨H2,I2,q2⟩=>?_);cases b with
 | true =>
  obtain⟨N,hN,q2⟩:=q2;rw[if_pos rfl];refine K49 hp (thn (hb pins s2 σ1 H2 _ I2 q2) λf s3 q3=>?_);cases f with
  | next =>
   obtain⟨σ3,H3,I3,n3⟩:=q3;obtain⟨m',hm,w3⟩:=hN σ3 H3 n3;exact⟨m',hm,σ3,H3,I3,w3⟩
  | cont =>
   obtain⟨σ3,H3,I3,n3⟩:=q3;obtain⟨m',hm,w3⟩:=hN σ3 H3 n3;exact⟨m',hm,σ3,H3,I3,w3⟩
  | brk=>exact q3
  | ret v=>exact q3
 | false =>
  rw[if_neg K12];exact K96 ⟨σ1,H2,I2,q2⟩
structure It where
 go:Nat->Hp->Prop
 yld:Nat->Hp->V->Hp->Prop
 stop:Nat->Hp->Prop
def FpOk (X:Cx) (pins:List (Addr×Obj)) (H:Hp) (b:Addr):Prop :=
 H b=none/\b≠X.env.locals/\b∉X.fs/\(b∈X.ex\/X.s₀.heap.objs.size<=b)/\(∀x c,X.env.cells.lookup x=some c->c≠b)/\∀p∈X.pn++pins,p.1≠b
theorem Inv.fpOk (I:Inv X pins σ H s) (hb:s.heap.objs.size<=b) (hn:H' b=none):FpOk X pins H' b:=by
 refine⟨hn,K2r (K0r I.lt hb),I.nofs hb,.inr (K0q I.sz hb),λx c e z=>?_,λp hp z=>?_⟩
 ·obtain⟨v,q⟩:=I.cell x c e;exact absurd (K0r q.lt (by rw[z];exact hb)) (K31 _)
 ·exact absurd (K0r (K0c (I.pin p hp).1) (by rw[z];exact hb)) (K31 _)
structure Turn (P:K1d) (w:World) (K:K5) (tg:Expr) (J:It) (fp:List Addr) (it:Addr) (tn:Nat->Heap->Prop):Prop where
 mem:it∈fp
 obj:∀i h,tn i h->∀b∈fp,∃o,h.get? b=some o/\∀v,o.data≠.cell v
 keep:∀i h h',tn i h->(∀b∈fp,∀o,h.get? b=some o->h'.get? b=some o)->tn i h'
 item:∀(X:Cx),X.prog=P->X.w=w->X.K=K->X.calm=true->∀(i:Nat) (pins:List (Addr×Obj)) (s:Shared) (σ:St) (H:Hp) (E:Value->Shared->Prop),Inv X pins σ H s->(∀b∈fp,FpOk X pins H b)->tn i s.heap->J.go i H ->
  wpAny (model P w) X.A (pyNext (.ref it)) (λr s1=>∃u,r=some u /\
   wpAny (model P w) X.A (K5w tg (.ref it) u) (λ_ s2=>∃x H',Inv X pins σ H' s2/\RelV x u/\J.yld i H x H'/\tn (i+1) s2.heap/\∀b∈fp,H' b=none) E s1) E s
 done:∀(X:Cx),X.prog=P->X.w=w->X.K=K->X.calm=true->∀(i:Nat) (pins:List (Addr×Obj)) (s:Shared) (σ:St) (H:Hp) (E:Value->Shared->Prop),Inv X pins σ H s->(∀b∈fp,FpOk X pins H b)->tn i s.heap->J.stop i H ->
  wpAny (model P w) X.A (pyNext (.ref it)) (λr s1=>r=none/\Inv X pins σ H s1) E s
 self:∀(A:Around) (i:Nat) (s:Shared) (Q:Value->Shared->Prop) (E:Value->Shared->Prop),tn i s.heap->Q (.ref it) s->wpAny (model P w) A (pyIter (.ref it)) Q E s
abbrev TI:=St->Hp->(It->Hp->Prop)->Prop
def PIE (X:Cx) (pins:List (Addr×Obj)) (σ:St) (tg:Expr) (R:It->Hp->Prop) (itv:Value) (s2:Shared):Prop :=
 ∃(it:Addr) (fp:List Addr) (tn:Nat->Heap->Prop) (J:It) (H':Hp),itv=.ref it/\Inv X pins σ H' s2/\Turn X.prog X.w X.K tg J fp it tn/\tn 0 s2.heap/\(∀b∈fp,FpOk X pins H' b)/\R J H'
def PI (X:Cx) (tg iter:Expr) (wi:TI):Prop :=
 ∀(pins:List (Addr×Obj)) (s:Shared) (σ:St) (H:Hp) (R:It->Hp->Prop),Inv X pins σ H s->wi σ H R ->
  wpAny .(4) X.A (eval iter X.env) (λv s1=>wpAny .(4) X.A (pyIter v) (PIE X pins σ tg R) X.xe s1) X.xe s
theorem ze3 {M:Model}{A:Around}{E:Value->Shared->Prop}{tg:Expr}{u:Value}{o:Obj}{n:String}{vs:Array Value}{Q:Unit->Shared->Prop}(ho:s.heap.get? it=some o) (hc:o.cls=.type n) (hd:o.data=.fields vs)
 (hn:["enumerate","zip","dict_itemiterator","dict_reverseitemiterator","odict_iterator","itertools.zip_longest","itertools.pairwise"].contains n=false) (hQ:Q () s):wpAny M A (K5w tg (.ref it) u) Q E s:=by
 unfold K5w;cases tg<;>first
  | exact K6 hQ
  | (cases u<;>first
      | exact K6 hQ
      | (refine K2 (Z1h ho ?_)
         rw[hc,hd];show wpAny M A (if (["enumerate","zip","dict_itemiterator","dict_reverseitemiterator","odict_iterator","itertools.zip_longest","itertools.pairwise"].contains n&&vs[0]?==some (rawInt _))=true then _ else _) Q E s;rw[if_neg (by intro h;rw[hn,Z31]at h;cases h)];exact K6 hQ))
def Itl (K:K5) (a:Addr):It :=
 ⟨λi H=>∃xs x,SqL K H a xs/\xs[i]?=some x,λi H x H'=>H'=H/\∀xs,SqL K H a xs->xs[i]?=some x,λi H=>∃xs,SqL K H a xs/\xs.length<=i⟩
def Itt (K:K5) (a:Addr):It :=
 ⟨λi H=>∃xs x,SqT K H a xs/\xs[i]?=some x,λi H x H'=>H'=H/\∀xs,SqT K H a xs->xs[i]?=some x,λi H=>∃xs,SqT K H a xs/\xs.length<=i⟩
def Itr (lo:Int) (n:Nat):It:=⟨λi _=>i<n,λi H x H'=>H'=H/\x=.int (lo+i),λi _=>n<=i⟩
theorem zi9 (a it:Addr):Turn P w K tg (Itl K a) [it] it (λi h=>h.IsListIter it a i) where
 mem:=by simp
 obj:=λi h st b hb=>by
  have e:b=it:=by simpa using hb
  subst e;obtain⟨o,e,c,d⟩:=st;exact⟨o,e,λv z=>by rw[d]at z;cases z⟩
 keep:=λi h h' st k=>st.at λo e=>k it .(f) o e
 item:=by
  intro X hP hw hK hc i pins s σ H E I hf st hg;subst hP hw hK;obtain⟨xs,x,hq,hx⟩:=hg;obtain⟨its,rv,p,hz⟩:=I.list hq;obtain⟨u,hu,ru⟩:=rv.get hx;obtain⟨f0,f1,f2,f3,f4,f5⟩:=hf it .(f);refine wpAny_pyNext_list_item st p.isList (x:=u) (by simpa using hu) λh' st' sb=>?_;have I1:Inv X pins σ H { s with heap:=h' }:=I.turned (t':=s.toks) (λb o hb e=>(sb.2 b hb).trans e) f0 f1 f3 f4 f5;obtain⟨o,e,c,d⟩:=id st';exact⟨u,rfl,ze3 (s:={ s with heap:=h' }) e c d (by decide) ⟨x,H,I1,ru,⟨rfl,λys hy=>by rw[I.list_inj hy hq];exact hx⟩,st',λb hb=>(hf b hb).1⟩⟩
 done:=by
  intro X hP hw hK hc i pins s σ H E I hf st hg;subst hP hw hK;obtain⟨xs,hq,hx⟩:=hg;obtain⟨its,rv,p,hz⟩:=I.list hq;obtain⟨f0,f1,f2,f3,f4,f5⟩:=hf it .(f);have hl:=rv.length;exact wpAny_pyNext_list_end (I.ok.hd hc) st p.isList (by simp;omega) λh' eb=>⟨rfl,I.turned (t':=s.toks) (λb o hb e=>eb b o hb e) f0 f1 f3 f4 f5⟩
 self:=λ_ _ _ _ _ st h=>wpAny_pyIter_listiter st h
theorem z9l (a it:Addr):Turn P w K tg (Itt K a) [it] it (λi h=>h.IsTupleIter it a i) where
 mem:=by simp
 obj:=λi h st b hb=>by
  have e:b=it:=by simpa using hb
  subst e;obtain⟨o,e,c,d⟩:=st;exact⟨o,e,λv z=>by rw[d]at z;cases z⟩
 keep:=λi h h' st k=>st.at λo e=>k it .(f) o e
 item:=by
  intro X hP hw hK hc i pins s σ H E I hf st hg;subst hP hw hK;obtain⟨xs,x,hq,hx⟩:=hg;obtain⟨its,rv,p,hz⟩:=I.tuple hq;obtain⟨u,hu,ru⟩:=rv.get hx;obtain⟨f0,f1,f2,f3,f4,f5⟩:=hf it .(f);refine wpAny_pyNext_tuple_item st (show s.heap.IsTuple a its.toArray from p) (x:=u) (by simpa using hu) λh' st' sb=>?_;have I1:Inv X pins σ H { s with heap:=h' }:=I.turned (t':=s.toks) (λb o hb e=>(sb.2 b hb).trans e) f0 f1 f3 f4 f5;obtain⟨o,e,c,d⟩:=id st';exact⟨u,rfl,ze3 (s:={ s with heap:=h' }) e c d (by decide) ⟨x,H,I1,ru,⟨rfl,λys hy=>by rw[I.tuple_inj hy hq];exact hx⟩,st',λb hb=>(hf b hb).1⟩⟩
 done:=by
  intro X hP hw hK hc i pins s σ H E I hf st hg;subst hP hw hK;obtain⟨xs,hq,hx⟩:=hg;obtain⟨its,rv,p,hz⟩:=I.tuple hq;obtain⟨f0,f1,f2,f3,f4,f5⟩:=hf it .(f);have hl:=rv.length;exact wpAny_pyNext_tuple_end (I.ok.hd hc) st (show s.heap.IsTuple a its.toArray from p) (by simp;omega) λh' eb=>⟨rfl,I.turned (t':=s.toks) (λb o hb e=>eb b o hb e) f0 f1 f3 f4 f5⟩
 self:=λ_ _ _ _ _ st h=>wpAny_pyIter_tupleiter st h
theorem z9o (it:Addr) (lo:Int) (n:Nat):Turn P w K tg (Itr lo n) [it] it (λi h=>IsRangeIter h it (lo+(i:Nat) * 1) ((n:Int) - (i:Nat)) 1) where
 mem:=by simp
 obj:=λi h st b hb=>by
  have e:b=it:=by simpa using hb
  subst e;exact⟨_,st,λv z=>by
   have z':Data.fields _=Data.cell v:=z;cases z'⟩
 keep:=λi h h' st k=>k it .(f) _ st
 item:=by
  intro X hP hw hK hc i pins s σ H E I hf st hg;subst hP hw hK;obtain⟨f0,f1,f2,f3,f4,f5⟩:=hf it .(f);have W:=Walks.range (prog:=X.prog) (w:=X.w) (I.ok.hd hc) it lo 1 n;refine W.item i s _ _ hg st λv h' tk hv st' kk=>?_;obtain⟨t,rfl⟩:=hv;have I1:Inv X pins σ H { s with heap:=h',toks:=tk }:=I.turned (λb o hb e=>kk b o (by simpa using hb) e) f0 f1 f3 f4 f5;refine⟨_,rfl,ze3 (s:={ s with heap:=h',toks:=tk }) (n:="range_iterator") st' rfl rfl (by decide) ⟨.int (lo+i),H,I1,⟨t,?_⟩,⟨rfl,rfl⟩,st',λb hb=>(hf b hb).1⟩⟩;rw[Int.mul_one]
 done:=by
  intro X hP hw hK hc i pins s σ H E I hf st hg;subst hP hw hK;obtain⟨f0,f1,f2,f3,f4,f5⟩:=hf it .(f);exact wpAny_pyNext_range_end (I.ok.hd hc) st (by have:n<=i:=hg;omega) λh' eb=>⟨rfl,I.turned (t':=s.toks) (λb o hb e=>eb b o hb e) f0 f1 f3 f4 f5⟩
 self:=λ_ _ _ _ _ st h=>wpAny_pyIter_rangeiter st h
def Z0n (K:K5) (tl:TE):TI:=λσ H R=>tl σ H λx H1=>∃a,x=.ref a/\(∃xs,SqL K H1 a xs)/\R (Itl K a) H1
def iTup (K:K5) (tl:TE):TI:=λσ H R=>tl σ H λx H1=>∃a,x=.ref a/\(∃xs,SqT K H1 a xs)/\R (Itt K a) H1
theorem zF7 {tl:TE}(hl:PE X l tl):PI X tg l (Z0n X.K tl):=by
 intro pins s σ H R I h;refine thn (hl pins s σ H _ I h) λv s1 ⟨x,H1,I1,r1,q1⟩=>?_;obtain⟨a,e,⟨xs,hq⟩,q⟩:=q1;subst e;cases r1;obtain⟨its,rv,p,hz⟩:=I1.list hq;refine K6m p.isList ?_;refine⟨s1.heap.objs.size,[s1.heap.objs.size],_,_,H1,rfl,I1.kept (t':=s1.toks) λb o e=>K8 _ e,zi9 a _,⟨_,K0f _ rfl,rfl,rfl⟩,λb hb=>?_,q⟩;have e:b=s1.heap.objs.size:=by simpa using hb
 subst e;exact I1.fpOk (K04 _) (I1.hok.fresh (K04 _))
theorem zO8 {tl:TE}(hl:PE X l tl):PI X tg l (iTup X.K tl):=by
 intro pins s σ H R I h;refine thn (hl pins s σ H _ I h) λv s1 ⟨x,H1,I1,r1,q1⟩=>?_;obtain⟨a,e,⟨xs,hq⟩,q⟩:=q1;subst e;cases r1;obtain⟨its,rv,p,hz⟩:=I1.tuple hq;refine K50 (show s1.heap.IsTuple a its.toArray from p) ?_;refine⟨s1.heap.objs.size,[s1.heap.objs.size],_,_,H1,rfl,I1.kept (t':=s1.toks) λb o e=>K8 _ e,z9l a _,⟨_,K0f _ rfl,rfl,rfl⟩,λb hb=>?_,q⟩;have e:b=s1.heap.objs.size:=by simpa using hb
 subst e;exact I1.fpOk (K04 _) (I1.hok.fresh (K04 _))
theorem z82 {R:It->Hp->Prop}{E:Value->Shared->Prop}{hi:Int}{t u v:Tok}{tk:Nat}(I:Inv X pins σ H s) (h1:-(2 ^ 62)<=lo) (h2:lo<2 ^ 62) (h3:-(2 ^ 62)<=hi) (h4:hi<2 ^ 62)
 (q:R (Itr lo (hi - lo).toNat) H):wpAny .(4) X.A (pyIter (.ref .(2))) (PIE X pins σ tg R) E { s with heap:=s.heap.push { cls:=.type "range",data:=.fields #[.int lo t,.int hi u,.int 1 v] },toks:=tk }:=by
 refine wpAny_pyIter_range (IsRange.new ..) (small_one h1 h2 h3 h4) ?_;have I1:Inv X pins σ H { s with heap:=s.heap.push { cls:=.type "range",data:=.fields #[.int lo t,.int hi u,.int 1 v] },toks:=tk }:=I.kept λb o e=>K8 _ e;refine⟨(s.heap.push { cls:=.type "range",data:=.fields #[.int lo t,.int hi u,.int 1 v] }).objs.size,[(s.heap.push { cls:=.type "range",data:=.fields #[.int lo t,.int hi u,.int 1 v] }).objs.size],_,_,H,rfl,
  I1.kept (t':=tk) λb o e=>K8 _ e,z9o _ lo (hi - lo).toNat,?_,λb hb=>?_,q⟩
 ·have e1:lo+((0:Nat):Int) * 1=lo:=by simp
  have e2:(((hi - lo).toNat:Nat):Int) - ((0:Nat):Int)=Builtin.Range.rangeSize lo hi 1:=by rw[rangeSize_one];split<;>omega
  show IsRangeIter _ _ (lo+((0:Nat):Int) * 1) ((((hi - lo).toNat:Nat):Int) - ((0:Nat):Int)) 1;rw[e1,e2];exact K0f _ rfl
 ·have e:b=(s.heap.push { cls:=.type "range",data:=.fields #[.int lo t,.int hi u,.int 1 v] }).objs.size:=by simpa using hb
  subst e;exact I1.fpOk (K04 _) (I1.hok.fresh (K04 _))
def Z09 (ta:TA):TI:=λσ H R=>ta σ H λvs H1=>∃j:Int,vs=[.int j]/\-(2 ^ 62)<=j/\j<2 ^ 62/\R (Itr 0 j.toNat) H1
def Z0t (ta:TA):TI:=λσ H R=>ta σ H λvs H1=>∃i j:Int,vs=[.int i,.int j]/\(-(2 ^ 62)<=i/\i<2 ^ 62/\-(2 ^ 62)<=j/\j<2 ^ 62)/\R (Itr i (j - i).toNat) H1
theorem zf3 {a:Expr}{ta:TA}(hg:Gl X "range") (hm:X.mg "range" = none) (ha:PA X [a] ta) (hs:K0h [a] X.env=[(false,eval a X.env)]:=by rfl):PI X tg (.Call (.Name "range" p) [a] [] pos) (Z09 ta):=by
 intro pins s σ H R I h;refine Call_ (z3V I hg hm boot_range (K30 (thn (ha pos pins s σ H _ I h) λus s1 ⟨vs,H1,I1,r1,q1⟩=>?_) hs rfl));obtain⟨j,e,q1,q2,q⟩:=q1;subst e;cases r1 with
 | cons r rr =>
  cases rr;obtain⟨t,rfl⟩:=r;exact call_range_1 (z82 I1 .(1) .(1) q1 q2 (by simpa using q))
theorem zb6 {a b:Expr}{ta:TA}{p pos:Pos}(hg:Gl X "range") (hm:X.mg "range" = none) (ha:PA X [a,b] ta) (hs:K0h [a,b] X.env=[(false,eval a X.env),(false,eval b X.env)]:=by rfl) (hs2:K0h [b] X.env=[(false,eval b X.env)]:=by rfl):
 PI X tg (.Call (.Name "range" p) [a,b] [] pos) (Z0t ta):=by
 intro pins s σ H R I h;refine Call_ (z3V I hg hm boot_range (K30 (thn (ha pos pins s σ H _ I h) λus s1 ⟨vs,H1,I1,r1,q1⟩=>?_) (by rw[hs,hs2]) (by rw[hs2];rfl)));obtain⟨i,j,e,⟨q1,q2,q3,q4⟩,q⟩:=q1;subst e;cases r1 with
 | cons r rr =>
  cases rr with
  | cons r' rr =>
   cases rr;obtain⟨t,rfl⟩:=r;obtain⟨t',rfl⟩:=r';exact call_range_2 (z82 I1 q1 q2 q3 q4 q)
def tFor (wi:TI) (g:TG) (tb:TS):TS:=λD σ H=>wi σ H λJ H1=>∃W:Nat->Nat->St->Hp->Prop,(∃m,W 0 m σ H1)/\∀i m σ H,W i m σ H ->
 (J.stop i H/\D.nx σ H)\/(J.go i H/\∃N:St->Hp->Prop,(∀σ' H',N σ' H'->∃m',m'<m/\W (i+1) m' σ' H')/\∀x H',J.yld i H x H'->g x σ H' λσ2 H2=>tb { D with nx:=N,ct:=N,bk:=D.nx } σ2 H2)
def z6i (fp:List Addr) (h:Heap):List (Addr×Obj):=fp.filterMap λb=>(h.get? b).map λo=>(b,o)
theorem z2S {o:Obj}(hb:b∈fp) (e:h.get? b=some o):(b,o)∈z6i fp h:=List.mem_filterMap.mpr ⟨b,hb,by rw[e];rfl⟩
theorem zh2 {p:Addr×Obj}(hp:p∈z6i fp h):p.1∈fp/\h.get? p.1=some p.2:=by
 obtain⟨b,hb,e⟩:=List.mem_filterMap.mp hp;cases q:h.get? b with
 | none=>rw[q]at e;cases e
 | some o =>
  rw[q]at e;have e':(b,o)=p:=K19 e;subst e';exact⟨hb,q⟩
theorem Inv.pinned (I:Inv X pins σ H s) (hf:∀b∈fp,FpOk X pins H b) (ho:∀b∈fp,∃o,s.heap.get? b=some o/\∀v,o.data≠.cell v):Inv X (pins++z6i fp s.heap) σ H s :=
 I.pins_of λp hp=>(K00.mp hp).elim (λz=>I.pin p (K0z _ z)) λz=>by
  obtain⟨hb,e⟩:=zh2 z;obtain⟨f0,f1,f2,_⟩:=hf p.1 hb;obtain⟨o,e',d⟩:=ho p.1 hb;rw[e]at e';cases e';exact⟨e,f0,f1,f2,d⟩
theorem Inv.unpinned {pl:List (Addr×Obj)}(I:Inv X (pins++pl) σ H s):Inv X pins σ H s:=I.pins_of λp hp=>I.pin p (K0z _ (K0l _ hp))
theorem zR8 {iter:Expr}{wi:TI}{g:TG}{pos:Pos}(hp:Z2g .(4) X.A X.env X.xe) (hc:X.calm=true) (hi:PI X tg iter wi) (hg:PG X tg g) (hb:PSs X body tb)
 (hs:∀x,K1b iter X.env x=pure x:=by intro _;rfl):PS X (.For tg iter body [] pos) (tFor wi g tb):=by
 intro pins s σ H D I h;refine wpAny_For (thn (hi pins s σ H _ I h) λv s1 h1=>thn h1 λitv s2 h2=>?_) hs;obtain⟨it,fp,tn,J,H2,e,I2,T,st2,f2,W,⟨m0,w0⟩,turn⟩:=h2;subst e;have stat:∀{H':Hp},(∀b∈fp,H' b=none)->∀b∈fp,FpOk X pins H' b:=λhn b hb=>⟨hn b hb,(f2 b hb).2⟩;refine codeAny_forLoop_any (λn s'=>∃i σ' H',Inv X pins σ' H' s'/\tn i s'.heap/\(∀b∈fp,H' b=none)/\W i n σ' H') ?_ m0 ⟨0,σ,H2,I2,st2,λb hb=>(f2 b hb).1,w0⟩;rintro n s3 ⟨i,σ3,H3,I3,st3,fr3,w3⟩;rcases turn i n σ3 H3 w3 with ⟨stop,qn⟩|⟨go,N,hN,step⟩
 ·refine K49 hp (thn (T.done X rfl rfl rfl hc i pins s3 σ3 H3 X.xe I3 (stat fr3) st3 stop) λr s4 ⟨hr,I4⟩=>?_);subst hr;exact K96 ⟨σ3,H3,I4,qn⟩
 ·refine K49 hp (thn (T.item X rfl rfl rfl hc i pins s3 σ3 H3 X.xe I3 (stat fr3) st3 go) λr s4 ⟨u,hr,h4⟩=>?_);subst hr;refine K49 hp (thn h4 λ_ s5 ⟨x,H5,I5,r5,y5,st5,fr5⟩=>?_);have I5':=I5.pinned (stat fr5) (T.obj _ _ st5);refine K49 hp (thn (hg _ s5 σ3 H5 x u _ I5' r5 (step x H5 y5)) λ_ s6 ⟨σ6,H6,I6,q6⟩=>?_);refine K49 hp (thn (hb _ s6 σ6 H6 _ I6 q6) λf s7 q7=>?_);have again:∀{σ7:St} {H7:Hp},Inv X (pins++z6i fp s5.heap) σ7 H7 s7->N σ7 H7->∃m,m<n/\∃i σ' H',Inv X pins σ' H' s7/\tn i s7.heap/\(∀b∈fp,H' b=none)/\W i m σ' H':=λ{σ7 H7} I7 n7=>by
   obtain⟨m',hm,w7⟩:=hN σ7 H7 n7;refine⟨m',hm,i+1,σ7,H7,I7.unpinned,T.keep _ _ _ st5 λb hb o e=>(I7.pin (b,o) (K0z _ (K0z _ (z2S hb e)))).1,λb hb=>?_,w7⟩;obtain⟨o,e,d⟩:=T.obj _ _ st5 b hb;exact(I7.pin (b,o) (K0z _ (K0z _ (z2S hb e)))).2.1
  cases f with
  | next=>obtain⟨σ7,H7,I7,n7⟩:=q7;exact again I7 n7
  | cont=>obtain⟨σ7,H7,I7,n7⟩:=q7;exact again I7 n7
  | brk=>obtain⟨σ7,H7,I7,q7⟩:=q7;exact⟨σ7,H7,I7.unpinned,q7⟩
  | ret v=>obtain⟨x7,σ7,H7,I7,r7,q7⟩:=q7;exact⟨x7,σ7,H7,I7.unpinned,r7,q7⟩
theorem z13 {lo:Int}{n:Nat}{g:TG}{tb:TS}{D:Ends}(Pv:Nat->St->Hp->Prop) (h0:Pv 0 σ H)
 (hs:∀i σ H,i<n->Pv i σ H->g (.int (lo+i)) σ H λσ2 H2=>tb { D with nx:=Pv (i+1),ct:=Pv (i+1),bk:=D.nx } σ2 H2) (hd:∀σ H,Pv n σ H->D.nx σ H) :
 ∃W:Nat->Nat->St->Hp->Prop,(∃m,W 0 m σ H)/\∀i m σ H,W i m σ H ->
  ((Itr lo n).stop i H/\D.nx σ H)\/((Itr lo n).go i H/\∃N:St->Hp->Prop,(∀σ' H',N σ' H'->∃m',m'<m/\W (i+1) m' σ' H')/\∀x H',(Itr lo n).yld i H x H'->g x σ H' λσ2 H2=>tb { D with nx:=N,ct:=N,bk:=D.nx } σ2 H2):=by
 refine⟨λi m σ H=>m=n - i/\i<=n/\Pv i σ H,⟨n,by simp,K3y _,h0⟩,?_⟩;rintro i m σ H ⟨rfl,hi,p⟩;by_cases hlt:i<n
 ·refine .inr ⟨hlt,Pv (i+1),λσ' H' p'=>⟨n - (i+1),by omega,rfl,hlt,p'⟩,λx H' y=>?_⟩;obtain⟨e,y⟩:=y;subst e y;exact hs i σ _ hlt p
 ·have e:i=n:=by omega
  subst e;exact .inl ⟨K04 _,hd σ H p⟩
abbrev R2:=V->V->Hp->VK->Prop
def OpR (X:Cx) (f:Value->Value->Sem Value) (r:R2):Prop :=
 ∀(pins:List (Addr×Obj)) (s:Shared) (σ:St) (H:Hp) (x y:V) (v u:Value) (Q:VK),Inv X pins σ H s->RelV x v->RelV y u->r x y H Q ->
  wpAny .(4) X.A (f v u) (EP X pins σ Q) X.xe s
def UnR (X:Cx) (f:Value->Sem Value) (r:V->Hp->VK->Prop):Prop :=
 ∀(pins:List (Addr×Obj)) (s:Shared) (σ:St) (H:Hp) (x:V) (v:Value) (Q:VK),Inv X pins σ H s->RelV x v->r x H Q ->
  wpAny .(4) X.A (f v) (EP X pins σ Q) X.xe s
def z3F (X:Cx) (f:Value) (r:List V->Hp->VK->Prop):Prop :=
 ∀(pins:List (Addr×Obj)) (s:Shared) (σ:St) (H:Hp) (xs:List V) (us:List Value) (Q:VK),Inv X pins σ H s->Vals xs us->r xs H Q ->
  wpAny .(4) X.A (call f us) (EP X pins σ Q) X.xe s
def TruR (X:Cx) (r:V->Hp->(Bool->Hp->Prop)->Prop):Prop :=
 ∀(pins:List (Addr×Obj)) (s:Shared) (σ:St) (H:Hp) (x:V) (v:Value) (Q:Bool->Hp->Prop),Inv X pins σ H s->RelV x v->r x H Q ->
  wpAny .(4) X.A (truthy v) (TP X pins σ Q) X.xe s
def tOp (r:R2) (ta tb:TE):TE:=λσ H Q=>ta σ H λx H1=>tb σ H1 λy H2=>r x y H2 Q
def tUn (r:V->Hp->VK->Prop) (ta:TE):TE:=λσ H Q=>ta σ H λx H1=>r x H1 Q
def rI (C:Int->Int->Prop) (g:Int->Int->V):R2:=λx y H Q=>∃i j,x=.int i/\y=.int j/\C i j/\Q (g i j) H
def rI0 (g:Int->Int->V):R2:=λx y H Q=>∃i j,x=.int i/\y=.int j/\Q (g i j) H
def rU (g:Int->V):V->Hp->VK->Prop:=λx H Q=>∃i,x=.int i/\Q (g i) H
section
variable {a b:Expr}{tb tc:TE}
theorem binT (ha:PE X a ta) (hb:PE X b tb){R:V->V->Hp->Prop}(I:Inv X pins σ H s)
 (h:ta σ H λx H1=>tb σ H1 λy H2=>R x y H2) {Q:Value->Shared->Prop} {f:Value->Value->Sem Value}
 (hf:∀v u s2 x y H2,Inv X pins σ H2 s2->RelV x v->RelV y u->R x y H2->wpAny .(4) X.A (f v u) Q X.xe s2) :
 wpAny .(4) X.A (eval a X.env) (λv s₁=>wpAny .(4) X.A (eval b X.env) (λu s₂=>wpAny .(4) X.A (f v u) Q X.xe s₂) X.xe s₁) X.xe s:=by
 refine thn (ha pins s σ H _ I h) λv s1 ⟨x,H1,I1,r1,q1⟩=>?_;refine thn (hb pins s1 σ H1 _ I1 q1) λu s2 ⟨y,H2,I2,r2,q2⟩=>?_;exact hf v u s2 x y H2 I2 r1 r2 q2
theorem Z0r {op:Z20}{r:R2}(ho:OpR X (K2z op) r) (ha:PE X a ta) (hb:PE X b tb):PE X (.BinOp a op b pos) (tOp r ta tb):=by
 intro pins s σ H Q I h;exact wpAny_BinOp (binT ha hb I h λv u s2 x y H2 I2 rx ry q=>ho pins s2 σ H2 x y v u Q I2 rx ry q)
theorem Z0o {op:UnaryOp}{r:V->Hp->VK->Prop}(ho:UnR X (unaryOp op) r) (ha:PE X a ta):PE X (.UnaryOp op a pos) (tUn r ta):=by
 intro pins s σ H Q I h;exact UnaryOp_ (thn (ha pins s σ H _ I h) λv s1 ⟨x,H1,I1,r1,q1⟩=>ho pins s1 σ H1 x v Q I1 r1 q1)
theorem opI {f:Value->Value->Sem Value}{C:Int->Int->Prop}{g:Int->Int->Int}
 (rule:∀(i j:Int) (t u:Tok) (s:Shared) (Q:Value->Shared->Prop) (E:Value->Shared->Prop),C i j->Q (.int (g i j) s.toks) { s with toks:=s.toks+1 }->wpAny .(4) X.A (f (.int i t) (.int j u)) Q E s) :
 OpR X f (rI C λi j=>.int (g i j)):=by
 intro pins s σ H x y v u Q I rx ry h;obtain⟨i,j,rfl,rfl,hc,q⟩:=h;obtain⟨t,rfl⟩:=rx;obtain⟨t',rfl⟩:=ry;exact rule i j t t' s _ _ hc ⟨.int (g i j),H,I.tok _,⟨_,rfl⟩,q⟩
theorem opI0 {f:Value->Value->Sem Value}{g:Int->Int->Int}
 (rule:∀(i j:Int) (t u:Tok) (s:Shared) (Q:Value->Shared->Prop) (E:Value->Shared->Prop),Q (.int (g i j) s.toks) { s with toks:=s.toks+1 }->wpAny .(4) X.A (f (.int i t) (.int j u)) Q E s) :
 OpR X f (rI0 λi j=>.int (g i j)):=by
 intro pins s σ H x y v u Q I rx ry h;obtain⟨i,j,rfl,rfl,q⟩:=h;obtain⟨t,rfl⟩:=rx;obtain⟨t',rfl⟩:=ry;exact rule i j t t' s _ _ ⟨.int (g i j),H,I.tok _,⟨_,rfl⟩,q⟩
theorem opB0 {f:Value->Value->Sem Value}{g:Int->Int->Bool}
 (rule:∀(i j:Int) (t u:Tok) (s:Shared) (Q:Value->Shared->Prop) (E:Value->Shared->Prop),Q (.bool (g i j)) s->wpAny .(4) X.A (f (.int i t) (.int j u)) Q E s) :
 OpR X f (rI0 λi j=>.bl (g i j)):=by
 intro pins s σ H x y v u Q I rx ry h;obtain⟨i,j,rfl,rfl,q⟩:=h;obtain⟨t,rfl⟩:=rx;obtain⟨t',rfl⟩:=ry;exact rule i j t t' s _ _ ⟨.bl (g i j),H,I,rfl,q⟩
def CDiv (i j:Int):Prop:=0<j/\j<1073741824
def CPow (i j:Int):Prop:=0<=j/\j<=1000000/\i.natAbs<2 ^ 64
def CMul (i j:Int):Prop:=(-(2 ^ 64)<i/\i<2 ^ 64)\/(-(2 ^ 64)<j/\j<2 ^ 64)
theorem CMul.ok {i j:Int}(h:CMul i j):IntMulOk i j:=by
 rcases h with ⟨h1,h2⟩|⟨h1,h2⟩
 ·exact .of_left (intBits_le_64 h1 h2)
 ·exact .of_right (intBits_le_64 h1 h2)
theorem op_add:OpR X (K2z .Add) (rI0 λi j=>.int (i+j)):=opI0 λ_ _ _ _ _ _ _ q=>add_int q
theorem zX2:OpR X (K2z .Sub) (rI0 λi j=>.int (i - j)):=opI0 λ_ _ _ _ _ _ _ q=>sub_int q
theorem op_mul:OpR X (K2z .Mult) (rI CMul λi j=>.int (i * j)):=opI λ_ _ _ _ _ _ _ hc q=>mul_int q hc.ok
theorem zB6:OpR X (K2z .FloorDiv) (rI CDiv λi j=>.int (i / j)):=opI λi j _ _ _ _ _ hc q=>by
 have h1:(0:Int)<j:=hc.1;have h2:j<1073741824:=hc.2;exact floordiv_int .(1) (by rw[Int.fdiv_eq_ediv_of_nonneg i .(1)];exact q) (.inl (PyProof.noPylong_small .(1)))
theorem zQ4:OpR X (K2z .Mod) (rI (λ_ j=>0<j) λi j=>.int (i % j)):=opI λi j _ _ _ _ _ hc q=>by
 have h1:(0:Int)<j:=hc;exact mod_int' .(1) (by rw[Int.fmod_eq_emod_of_nonneg i .(1)];exact q)
theorem zX4:OpR X (K2z .Pow) (rI CPow λi j=>.int (i ^ j.toNat)):=opI λ_ _ _ _ _ _ _ hc q=>pow_int_small hc.1 hc.2.1 hc.2.2 q
theorem zY3:OpR X (K2z .BitAnd) (rI0 λi j=>.int (K5g i j)):=opI0 λ_ _ _ _ _ _ _ q=>and_int q
theorem unI {f:Value->Sem Value}{g:Int->Int}
 (rule:∀(i:Int) (t:Tok) (s:Shared) (Q:Value->Shared->Prop) (E:Value->Shared->Prop),Q (.int (g i) s.toks) { s with toks:=s.toks+1 }->wpAny .(4) X.A (f (.int i t)) Q E s) :
 UnR X f (rU λi=>.int (g i)):=by
 intro pins s σ H x v Q I rx h;obtain⟨i,rfl,q⟩:=h;obtain⟨t,rfl⟩:=rx;exact rule i t s _ _ ⟨.int (g i),H,I.tok _,⟨_,rfl⟩,q⟩
theorem zN3:UnR X (unaryOp .USub) (rU λi=>.int (-i)):=unI λ_ _ _ _ _ q=>neg_int q
end
def scal:V->V->Bool
 | .non,.non=>true|.non,.int _=>true|.int _,.non=>true|.non,.bl _=>true|.bl _,.non=>true|.non,.str _=>true|.str _,.non=>true
 | .int _,.int _=>true|.bl _,.bl _=>true|.str _,.str _=>true|.byt _,.byt _=>true
 | .int _,.str _=>true|.str _,.int _=>true|.bl _,.str _=>true|.str _,.bl _=>true
 | _,_=>false
def rEq:R2:=λx y H Q=>scal x y=true/\Q (.bl (decide (x=y))) H
theorem zA8 {i j:Int}:decide (V.int i=V.int j)=(i==j):=by
 rw[K0o];simp
theorem zU7 {i j:Bool}:decide (V.bl i=V.bl j)=(i==j):=by
 rw[K0o];simp
theorem zG2 {i j:Str}:decide (V.str i=V.str j)=(i==j):=by
 rw[K0o];simp
theorem zA1 {i j:Array UInt8}:decide (V.byt i=V.byt j)=(i.toList==j.toList):=by
 rw[K0o];cases i;cases j;simp
section
variable {a b:Expr}{tb tc:TE}
theorem z1c {Q:VK}{k k':Bool}(I:Inv X pins σ H s) (q:Q (.bl k) H) (e:k=k'):EP X pins σ Q (.bool k') s:=by
 subst e;exact⟨.bl k,H,I,rfl,q⟩
theorem Z0R:OpR X (K2f .Eq) rEq:=by
 intro pins s σ H x y v u Q I rx ry h;obtain⟨hs,q⟩:=h;cases x with
 | non =>
  cases rx;cases y with
  | non=>cases ry;exact PySem.EqNone.eq_none_none (z1c I q .(f))
  | bl j=>cases ry;exact PySem.EqNone.eq_none_bool (z1c I q .(f))
  | int j=>obtain⟨t',rfl⟩:=ry;exact PySem.EqNone.eq_none_int (z1c I q .(f))
  | str j=>obtain⟨t',rfl⟩:=ry;exact PySem.EqNone.eq_none_str (z1c I q .(f))
  | _=>exact absurd (show false=true from hs) K12
 | bl i =>
  cases rx;cases y with
  | non=>cases ry;exact PySem.EqNone.eq_bool_none (z1c I q .(f))
  | bl j=>cases ry;exact eq_bool (z1c I q zU7)
  | str j=>obtain⟨t',rfl⟩:=ry;exact PySem.EqMixed.eq_bool_str (z1c I q .(f))
  | _=>exact absurd (show false=true from hs) K12
 | int i =>
  obtain⟨t,rfl⟩:=rx;cases y with
  | non=>cases ry;exact PySem.EqNone.eq_int_none (z1c I q .(f))
  | int j=>obtain⟨t',rfl⟩:=ry;exact eq_int (z1c I q zA8)
  | str j=>obtain⟨t',rfl⟩:=ry;exact PySem.EqMixed.eq_int_str (z1c I q .(f))
  | _=>exact absurd (show false=true from hs) K12
 | str i =>
  obtain⟨t,rfl⟩:=rx;cases y with
  | non=>cases ry;exact PySem.EqNone.eq_str_none (z1c I q .(f))
  | bl j=>cases ry;exact PySem.EqMixed.eq_str_bool (z1c I q .(f))
  | int j=>obtain⟨t',rfl⟩:=ry;exact PySem.EqMixed.eq_str_int (z1c I q .(f))
  | str j=>obtain⟨t',rfl⟩:=ry;exact eq_str (z1c I q zG2)
  | _=>exact absurd (show false=true from hs) K12
 | byt i =>
  obtain⟨t,rfl⟩:=rx;cases y with
  | byt j=>obtain⟨t',rfl⟩:=ry;exact PySem.W.eq_bytes (z1c I q zA1)
  | _=>exact absurd (show false=true from hs) K12
 | _=>cases y<;>exact absurd (show false=true from hs) K12
theorem op_lt:OpR X (K2f .Lt) (rI0 λi j=>.bl (decide (i<j))):=opB0 λ_ _ _ _ _ _ _ q=>lt_int q
theorem op_le:OpR X (K2f .LtE) (rI0 λi j=>.bl (decide (i<=j))):=opB0 λ_ _ _ _ _ _ _ q=>le_int q
theorem Z0s:OpR X (K2f .Gt) (rI0 λi j=>.bl (decide (j<i))):=opB0 λ_ _ _ _ _ _ _ q=>gt_int q
theorem Z0F:OpR X (K2f .GtE) (rI0 λi j=>.bl (decide (j<=i))):=opB0 λ_ _ _ _ _ _ _ q=>ge_int q
theorem zf7:OpR X (K2f .Lt) (λx y H Q=>∃i j,x=.str i/\y=.str j/\Q (.bl (decide (i.cps.toList<j.cps.toList))) H):=by
 intro pins s σ H x y v u Q I rx ry h;obtain⟨i,j,rfl,rfl,q⟩:=h;obtain⟨t,rfl⟩:=rx;obtain⟨t',rfl⟩:=ry;exact lt_str (z1c I q rfl)
theorem OpR.or {r r':R2}(h:OpR X f r) (h':OpR X f r'):OpR X f (λx y H Q=>r x y H Q\/r' x y H Q):=by
 intro pins s σ H x y v u Q I rx ry q;rcases q with q|q
 ·exact h pins s σ H x y v u Q I rx ry q
 ·exact h' pins s σ H x y v u Q I rx ry q
theorem zv1 (b:Expr){op:CmpOp}(h:op≠.In:=by decide) (h2:op≠.NotIn:=by decide):K5a op b=false:=by
 have e1:(op==CmpOp.In)=false:=by cases op<;>first|rfl|exact absurd rfl h
 have e2:(op==CmpOp.NotIn)=false:=by cases op<;>first|rfl|exact absurd rfl h2
 cases b<;>simp[K5a,e1,e2]
theorem zD0 {op:CmpOp}{r:R2}(ho:OpR X (K2f op) r) (ha:PE X a ta) (hb:PE X b tb) (hm:K5a op b=false):PE X (.Compare a [op] [b] pos) (tOp r ta tb):=by
 intro pins s σ H Q I h;exact wpAny_Compare1 (binT ha hb I h λv u s2 x y H2 I2 rx ry q=>ho pins s2 σ H2 x y v u Q I2 rx ry q) hm
def zU0 (t:TE):TT:=λσ H Q=>t σ H λx H'=>∃k,x=.bl k/\Q k H'
theorem zH4 {op:CmpOp}{r:R2}(ho:OpR X (K2f op) r) (ha:PE X a ta) (hb:PE X b tb) (hm:K5a op b=false):PT X (.Compare a [op] [b] pos) (zU0 (tOp r ta tb)):=by
 intro pins s σ H Q I h;refine wpAny_isTrue_Compare1 (thn (ha pins s σ H _ I h) λv s1 ⟨x,H1,I1,r1,q1⟩=>thn (hb pins s1 σ H1 _ I1 q1) λu s2 ⟨y,H2,I2,r2,q2⟩ =>
  thn (ho pins s2 σ H2 x y v u _ I2 r1 r2 q2) λc s3 ⟨z,H3,I3,r3,k,e,q3⟩=>?_) hm
 subst e;cases r3;exact K3n ⟨H3,I3,q3⟩
def zu5 (r r':R2) (ta tb tc:TE):TE:=λσ H Q=>ta σ H λx H1=>tb σ H1 λy H2=>r x y H2 λz H3=>∃k,z=.bl k /\
 (if k=true then tc σ H3 λw' H4=>r' y w' H4 Q else Q (.bl false) H3)
theorem zr5 {op op':CmpOp}{r r':R2}(ho:OpR X (K2f op) r) (ho':OpR X (K2f op') r') (ha:PE X a ta) (hb:PE X b tb) (hc:PE X c tc)
 (hm:lastMarks [op,op'] [b,c]=false:=by with_unfolding_all rfl):PE X (.Compare a [op,op'] [b,c] pos) (zu5 r r' ta tb tc):=by
 intro pins s σ H Q I h;refine Compare_chain (thn (ha pins s σ H _ I h) λv s1 ⟨x,H1,I1,r1,q1⟩=>chain_link (thn (hb pins s1 σ H1 _ I1 q1) λu s2 ⟨y,H2,I2,r2,q2⟩ =>
  thn (ho pins s2 σ H2 x y v u _ I2 r1 r2 q2) λd s3 ⟨z,H3,I3,r3,k,e,q3⟩=>?_)) hm
 subst e;cases r3;refine K3n ?_;cases k with
 | false=>exact ite_ff ⟨.bl false,H3,I3,rfl,q3⟩
 | true=>exact ite_tt (chain_last (thn (hc pins s3 σ H3 _ I3 q3) λw' s4 ⟨z',H4,I4,r4,q4⟩=>ho' pins s4 σ H4 y z' u w' Q I4 r2 r4 q4))
def TruV (K:K5) (x:V) (H:Hp) (k:Bool):Prop :=
 match x with
 | .non=>k=false
 | .bl b=>k=b
 | .int i=>k=(i != 0)
 | .str y=>y.length<=sizeLine/\k=((y.length:Int) != 0)
 | .byt y=>y.size<=sizeLine/\k=((y.size:Int) != 0)
 | .ref p=>(∃xs,SqL K H p xs/\k = !xs.isEmpty)\/(∃xs,SqT K H p xs/\k = !xs.isEmpty)\/∃kvs,H p=some (.dK kvs)/\k = !kvs.isEmpty
 | _=>False
theorem z9e {kvs:List (κ×V)}{vs:List (κ×Value)}(r:KV kvs vs):(!vs.isEmpty) = !kvs.isEmpty:=by
 cases r<;>rfl
theorem z5j (r:Vals xs its):(!its.toArray.isEmpty) = !xs.isEmpty:=by
 cases r<;>simp
theorem z5n:(sizeLine:Nat)<2 ^ 63:=by rw[K9l];decide
theorem zX7:TruR X (λx H Q=>∃k,TruV X.K x H k/\Q k H):=by
 intro pins s σ H x v Q I rx h;obtain⟨k,e,q⟩:=h;have hl:=z5n;have hs:sizeLine=16777216:=K9l;cases x with
 | non =>
  cases rx;have e':k=false:=e;subst e';exact truthy_none ⟨H,I,q⟩
 | bl b =>
  cases rx;have e':k=b:=e;subst e';exact K3n ⟨H,I,q⟩
 | int i =>
  obtain⟨t,rfl⟩:=rx;have e':k=(i != 0):=e;subst e';exact PySem.P.truthy_int ⟨H,I,q⟩
 | str y =>
  obtain⟨t,rfl⟩:=rx;obtain⟨hy,e'⟩:y.length<=sizeLine/\k=((y.length:Int) != 0):=e;subst e';exact PySem.P.truthy_str .(1) ⟨H,I.tok _,q⟩
 | byt y =>
  obtain⟨t,rfl⟩:=rx;obtain⟨hy,e'⟩:y.size<=sizeLine/\k=((y.size:Int) != 0):=e;subst e';exact PySem.W.truthy_bytes .(1) ⟨H,I.tok _,q⟩
 | ref p =>
  cases rx;have e':(∃xs,SqL X.K H p xs/\k = !xs.isEmpty)\/(∃xs,SqT X.K H p xs/\k = !xs.isEmpty)\/∃kvs,H p=some (.dK kvs)/\k = !kvs.isEmpty:=e;rcases e' with ⟨xs,hx,e'⟩|⟨xs,hx,e'⟩|⟨kvs,hx,e'⟩
  ·subst e';obtain⟨its,r,pl,hz⟩:=I.list hx;have hlen:=r.length;exact wpAny_truthy_list pl.isList (by simp only[K0a];omega) ⟨H,I.tok _,by rw[z5j r];exact q⟩
  ·subst e';obtain⟨its,r,pl,hz⟩:=I.tuple hx;have hlen:=r.length;exact truthy_tuple pl (by simp only[K0a];omega) ⟨H,I.tok _,by rw[z5j r];exact q⟩
  ·subst e';obtain⟨hz,hS,vs,r,m⟩:kvs.length<=sizeLine/\(p==K45)=false/\∃vs,KV kvs vs/\s.heap.DictOf (y9 X.prog X.w) p vs:=I.hok p _ hx;have hlen:kvs.length=vs.length:=K3h r;exact wpAny_truthy_dict hS m .(1) ⟨H,I.tok _,by rw[z9e r];exact q⟩
 | _=>exact(show False from e).elim
theorem zp7 (ha:PE X a ta) (he:∀whole,isTrue a X.env whole=(do let v <- whole;K4o a.pos;K36 [v] (truthy v))):
 PT X a (λσ H Q=>ta σ H λx H'=>∃k,TruV X.K x H' k/\Q k H'):=by
 intro pins s σ H Q I h;exact isTrue_plain (thn (ha pins s σ H _ I h) λv s1 ⟨x,H1,I1,r1,q1⟩=>zX7 pins s1 σ H1 x v Q I1 r1 q1) (he _)
theorem op_add_str:OpR X (K2z .Add) (λx y H Q=>∃i j,x=.str i/\y=.str j/\i.length+j.length<=sizeLine/\Q (.str (i++j)) H):=by
 intro pins s σ H x y v u Q I rx ry h;obtain⟨i,j,rfl,rfl,hz,q⟩:=h;obtain⟨t,rfl⟩:=rx;obtain⟨t',rfl⟩:=ry;exact add_str (λt' tk=>⟨.str (i++j),H,I.tok _,⟨_,rfl⟩,q⟩) hz
theorem vals1 {x:V}(r:Vals [x] us):∃u,us=[u]/\RelV x u:=by
 cases r with
 | cons r1 r2=>cases r2;exact⟨_,rfl,r1⟩
theorem vals2 {x y:V}(r:Vals [x,y] us):∃u w',us=[u,w']/\RelV x u/\RelV y w':=by
 cases r with
 | cons r1 r2 =>
  cases r2 with
  | cons r3 r4=>cases r4;exact⟨_,_,rfl,r1,r3⟩
def LenV (K:K5) (x:V) (H:Hp) (n:Nat):Prop :=
 match x with
 | .str y=>y.length<=sizeLine/\n=y.length
 | .byt y=>y.size<=sizeLine/\n=y.size
 | .ref p=>(∃xs,SqL K H p xs/\n=xs.length)\/∃xs,SqT K H p xs/\n=xs.length
 | _=>False
theorem zs0:z3F X (.builtin "len") (λxs H Q=>∃x n,xs=[x]/\LenV X.K x H n/\Q (.int n) H):=by
 intro pins s σ H xs us Q I r h;obtain⟨x,n,rfl,e,q⟩:=h;obtain⟨u,rfl,rx⟩:=vals1 r;have hl:=z5n;have hs:sizeLine=16777216:=K9l;cases x with
 | str y =>
  obtain⟨t,rfl⟩:=rx;obtain⟨hy,e'⟩:y.length<=sizeLine/\n=y.length:=e;subst e';exact len_str .(1) ⟨.int _,H,I.tok _,⟨_,rfl⟩,q⟩
 | byt y =>
  obtain⟨t,rfl⟩:=rx;obtain⟨hy,e'⟩:y.size<=sizeLine/\n=y.size:=e;subst e';exact PySem.W.len_bytes .(1) ⟨.int _,H,I.tok _,⟨_,rfl⟩,q⟩
 | ref p =>
  cases rx;have e':(∃xs,SqL X.K H p xs/\n=xs.length)\/∃xs,SqT X.K H p xs/\n=xs.length:=e;rcases e' with ⟨xs,hx,e'⟩|⟨xs,hx,e'⟩
  ·subst e';obtain⟨its,r',pl,hz⟩:=I.list hx;have hlen:=r'.length;exact Calls.call_len_list pl.isList (by simp only[K0a];omega) ⟨.int xs.length,H,I.tok _,⟨_,by simp only[K0a];rw[hlen]⟩,q⟩
  ·subst e';obtain⟨its,r',pl,hz⟩:=I.tuple hx;have hlen:=r'.length;exact len_tuple pl (by simp only[K0a];omega) ⟨.int xs.length,H,I.tok _,⟨_,by simp only[K0a];rw[hlen]⟩,q⟩
 | _=>exact(show False from e).elim
end
structure ObjM (h:Heap) (x dx C:Addr) (mA:Str->Option Value):Prop where
 obj:h.get? x=some (K23 C dx)
 ns:h.Ns1 dx mA
 ne:dx≠x
theorem zf0 (n:h.Ns1 dx mA):∃od,h.get? dx=some od/\∀name,K7f name od=some (mA name):=by
 obtain⟨o,es,ep,ho,hd,hk,_,hm⟩:=n;refine⟨o,ho,λname=>?_⟩;have e:=hm name;unfold nsFind findBy at e;rw[<- Z1j]at e;unfold K7f;rw[hd];dsimp only;split
 ·rename_i y q;rw[q]at e;exact congrArg some e
 ·rename_i q;rw[q]at e;have a:es.toList.any (·.refKey)=false:=by
   rw[Z24];intro y hy;obtain⟨z,t,hkey⟩:=hk y (Array.mem_toList_iff.mp hy);simp[DictEntry.refKey,hkey]
  have a':¬ es.toList.any (·.refKey)=true:=by rw[a];exact K12
  rw[if_neg a'];exact congrArg some e
theorem ObjM.look {x:Addr}(I:ObjM h x dx C mA):∃od,PySem.W.InstAt h x (K23 C dx) C (some od)/\∀name,K7f name od=some (mA name) :=
 let ⟨od,ho,hl⟩:=zf0 I.ns
 ⟨od,⟨I.obj,rfl,rfl,ho⟩,hl⟩
section
variable {prog:K1d}{x f:Addr}{v:Value}
theorem zm8 {pl:Sem Bool}{Q:Value×List Value->Shared->Prop}(X:K.In s.heap) (I:ObjM s.heap x dx C mA) (hg:K6q K C name=true)
 (hf:K1x K (.ref C) name=some (.(r f))) (ht:K68 K (.ref f)=true) (hv:mA name=none) (h:Q (.ref f,[.ref x]) s) :
 wpAny (model prog w) A (K9x (.ref x) name pl) Q E s:=by
 obtain⟨od,J,hl⟩:=I.look;exact PySem.W.method_fn X J (Z10 hg).1 (Z10 hg).2 hf (beq_iff_eq.mp ht) (by show (K7f name od).map (·.isSome)=some false;rw[hl,hv];rfl) h
theorem zf5 {R:Result->Shared->Prop}(X:K.In s.heap) (hm:K51 K C=true)
 (hi:K1x K (.ref C) "__init__" = some (some (.builtin "object.__init__")))
 (hb:∀self,Z14 (model prog w) s.heap (bindSpecial (.builtin "object.__init__") self) (.builtin "object.__init__",[self]))
 (h:K4w (model prog w) (A.under (.builtin "type.__call__" ⟨[.ref C],[]⟩)) (.call (.builtin "object.__init__") ⟨[.ref (.(2)+1)],[]⟩) (PySem.W.InitBack (.(2)+1) R)
  { s with heap:=(s.heap.push K1p).push (K23 C .(2)) }) :
 K4w (model prog w) A (.call (.ref C) ⟨[],[]⟩) R s:=by
 obtain⟨hh,g,d,t,os⟩:=s;exact PySem.W.make_core (Z2b X hm) (PySem.W.looks_findIn X hi) hb (.inr ⟨rfl,rfl⟩) h
end
theorem RelO.some_of {o:Option Value}(r:RelO (some v) o):∃u,o=some u/\RelV v u:=by
 cases o with
 | none=>exact(show False from r).elim
 | some u=>exact⟨u,rfl,r⟩
theorem RelO.none_of {o:Option Value}(r:RelO none o):o=none:=by
 cases o with
 | none=>rfl
 | some u=>exact(show False from r).elim
section
variable {fs fs':List (Str×V)}
theorem zc4 (hok:HOk P w H h) (e:H a=some (.ins C dx fs)):∃mA,ObjM h a dx C mA/\(∀f,RelO (fs.lookup f) (mA f))/\PySem.Within mA (fs.map (·.1))/\fs.length<=1000/\H dx=some (.own a):=by
 obtain⟨d,z,ne,ob,mA,n,r,q⟩:=(show ObjOk P w H h a (.ins C dx fs) from hok a _ e);exact⟨mA,⟨ob,n,ne⟩,r,q,z,d⟩
end
structure Cls (K:K5) (C:Addr):Prop where
 pg:K6q K C Str.empty=true
 hd:Z1w K C=true
 po:Z1v K C=true
 sa:K1x K (.ref C) "__setattr__" = some (some (.builtin "object.__setattr__"))
theorem Cls.get (c:Cls K C) (f:Str):K6q K C f=true:=c.pg
structure Meth (K:K5) (C:Addr) (m:Str) (f:Addr):Prop where
 at_:K1x K (.ref C) m=some (.(r f))
 fn:K68 K (.ref f)=true
 kp:K24 K (.ref f)=true
section
variable {fs:List (Str×V)}{f:Str}
theorem z5r {g:Addr}{pl:Sem Bool}{Q:Value×List Value->Shared->Prop}(I:Inv X pins σ H s) (e:H a=some (.ins C dx fs)) (c:Cls X.K C) (k:Meth X.K C m g) (l:fs.lookup m=none)
 (h:Q (.ref g,[.ref a]) s):wpAny .(4) A (K9x (.ref a) m pl) Q E s:=by
 obtain⟨mA,O,r,_,_,_⟩:=zc4 I.hok e;have hn:mA m=none:=RelO.none_of (by rw[<- l];exact r m);exact zm8 I.kIn O (c.get m) k.at_ k.fn hn h
theorem Inv.made (I:Inv X pins σ H s):Inv X pins σ (upd (upd H s.heap.objs.size (.own (s.heap.objs.size+1))) (s.heap.objs.size+1) (.ins C s.heap.objs.size []))
 { s with heap:=(s.heap.push K1p).push (K23 C .(2)) }:=by
 have e1:(s.heap.push K1p).get? .(2)=some K1p:=K0f s.heap rfl;have e2:((s.heap.push K1p).push (K23 C .(2))).get? (.(2)+1)=some (K23 C .(2)):=by
  have:=K0f (s.heap.push K1p) (o:=K23 C .(2)) rfl;rwa [K1y]at this
 have e3:(s.heap.push K1p).Ns s.heap.objs.size (λ_=>none):=⟨K1p,#[],_,e1,rfl,(λe he=>absurd he .(f)),λ_=>rfl⟩;have I1:=I.laid (a:=.(2)) (o:=.own (.(2)+1)) (h':=s.heap.push K1p) (t':=s.toks) (λb u q=>K8 _ q) (K04 _) ⟨_,e1⟩;refine I1.laid (a:=.(2)+1) (o:=.ins C .(2) []) (t':=s.toks) (λb u q=>K8 _ q) (K4v (K1y _ _)) ?_;have ne:.(2)≠.(2)+1:=K0u (K5m _);refine⟨by rw[J5 ne,J6],K3y _,ne,e2,λ_=>none,(Heap.Ns1.of_empty e3).at λo q=>K8 _ q,λ_=>K42,λy hy=>absurd rfl hy⟩
end
section
variable {Q:Value->Shared->Prop}{c:Value}{b:Bool}
inductive TyOf (K:K5) (H:Hp):V->Value->Prop where
 | non:TyOf K H .non (.type "NoneType")
 | bl (x:Bool):TyOf K H (.bl x) (.type "bool")
 | int (i:Int):TyOf K H (.int i) (.type "int")
 | str (x:Str):TyOf K H (.str x) (.type "str")
 | flt (x:UInt64):TyOf K H (.flt x) (.type "float")
 | lst {a:Addr} {xs:List V} (e:H a=.(l xs)):TyOf K H (.ref a) (.type "list")
 | frz {a:Addr} {o:Obj} {xs:List V} (e:H a=some (.frz o (.lst xs))):TyOf K H (.ref a) (.type "list")
 | tup {a:Addr} {xs:List V} (e:H a=.(g xs)):TyOf K H (.ref a) (.type "tuple")
 | dK {a:Addr} {kvs:List (Key×V)} (e:H a=some (.dK kvs)):TyOf K H (.ref a) (.type "dict")
 | dT {a:Addr} {kvs:List (List Key×V)} (e:H a=some (.dT kvs)):TyOf K H (.ref a) (.type "dict")
 | ins {a C dx:Addr} {fs:List (Str×V)} (e:H a=some (.ins C dx fs)) (cl:Cls K C) (ha:K1x K (.ref C) "__class__" = some (some (.builtin "object.__class__")))
  (hn:PySem.W.specialIn K (.builtin "object.__class__") "__get__" = some (some (.builtin "getset_descriptor.__get__"))) (htk:PySem.W.takesIn K (.builtin "object.__class__")=some true)
  (hm:PySem.W.mroIn K C (.type "object")=some true):TyOf K H (.ref a) (.ref C)
theorem z9Y {x:V}{t:Value}(I:Inv X pins σ H s) (rx:RelV x u) (ty:TyOf X.K H x t) (e:K6a X.K t c=some b) (h:∀tk,Q (.bool b) { s with toks:=tk }):
 wpAny .(4) A (call (.builtin "isinstance") [u,c]) Q E s:=by
 cases ty with
 | non=>cases (show u=K3r from rx);exact K1u PySem.W.kitx_none I.kIn K42 e (λz=>nomatch z) h
 | bl y=>cases (show u=Z19 y from rx);exact K1u PySem.W.kitx_bool I.kIn K42 e (λz=>nomatch z) h
 | int i=>obtain⟨t,q⟩:=(show ∃t,u=K9p i t from rx);cases q;exact K1u PySem.W.kitx_int I.kIn K42 e (λz=>nomatch z) h
 | str y=>obtain⟨t,q⟩:=(show ∃t,u=Z2a y t from rx);cases q;exact K1u PySem.W.kitx_str I.kIn K42 e (λz=>nomatch z) h
 | flt y=>obtain⟨t,q⟩:=(show ∃t,u=Value.float y t from rx);cases q;exact K1u PySem.W.kitx_float I.kIn K42 e (λz=>nomatch z) h
 | @lst a xs ea =>
  cases (show u=K20 a from rx);obtain⟨_,_,n,_,h1⟩:=(show ObjOk X.prog X.w H s.heap a (.lst xs) from I.hok a _ ea);exact K1u K82 I.kIn ⟨_,h1,rfl⟩ e (λz=>nomatch z) h
 | @frz a ob xs ea =>
  cases (show u=K20 a from rx);obtain⟨_,_,_,n,_,h1⟩:=(show ObjOk X.prog X.w H s.heap a (.frz ob (.lst xs)) from I.hok a _ ea);exact K1u K82 I.kIn ⟨_,h1,rfl⟩ e (λz=>nomatch z) h
 | @tup a xs ea =>
  cases (show u=K20 a from rx);obtain⟨_,_,_,p⟩:=(show ObjOk X.prog X.w H s.heap a (.tup xs) from I.hok a _ ea);obtain⟨o,h1,h2,_⟩:=p;exact K1u Z1d I.kIn ⟨o,h1,h2.1⟩ e (λz=>nomatch z) h
 | @dK a kvs ea =>
  cases (show u=K20 a from rx);obtain⟨_,_,vs,_,p⟩:=(show ObjOk X.prog X.w H s.heap a (.dK kvs) from I.hok a _ ea);obtain⟨o,es,ep,h1,h2,_⟩:=p;exact K1u K83 I.kIn ⟨o,h1,h2.1⟩ e (λz=>nomatch z) h
 | @dT a kvs ea =>
  cases (show u=K20 a from rx);obtain⟨_,_,xs,_,o,es,ep,h1,h2,_⟩:=(show ObjOk X.prog X.w H s.heap a (.dT kvs) from I.hok a _ ea);exact K1u K83 I.kIn ⟨o,h1,h2.1⟩ e (λz=>nomatch z) h
 | @ins a C dx fs ea cl ha hn htk hm =>
  cases (show u=K20 a from rx);obtain⟨mA,O,_⟩:=zc4 I.hok ea;obtain⟨od,J,_⟩:=O.look;exact K1u (PySem.W.kitx_own (cl.get _) cl.hd ha hn htk hm) I.kIn J e (λz=>nomatch z) h
end
structure Room (k:Nat) (A:Around):Prop where
 hd:A.handled=none
 dp:A.depth+3 * k+5<recursionLimit
 un:A.units+16 * k+200<cLine
 gd:A.guards=some []
theorem Room.mono {j k:Nat}(r:Room k A) (h:j<=k):Room j A:=⟨r.hd,by have:=r.dp;omega,by have:=r.un;omega,r.gd⟩
theorem Room.deeper {k:Nat}{A:Around}(r:Room (k+1) A) (env:Env):Room k (A.deeper env) :=
 ⟨r.hd,by have:=r.dp;show A.depth+1+3 * k+5<_;omega,by have:=r.un;show A.units+3+16 * k+200<_;omega,r.gd⟩
theorem Room.depth {k:Nat}{A:Around}(r:Room k A):A.depth<recursionLimit:=by have:=r.dp;omega
theorem Room.units {k:Nat}{A:Around}(r:Room k A):A.units+64<cLine:=by have:=r.un;omega
def tNil:TA:=λ_ H Q=>Q [] H
def za2 (ta:TE) (tr:TA):TA:=λσ H Q=>ta σ H λx H1=>tr σ H1 λxs H2=>Q (x::xs) H2
theorem z3a:PA X [] tNil:=λ_ _ _ _ H Q I h=>Calls.spliced_nil ⟨[],H,I,.nil,h⟩
theorem z1p (ha:PE X e te) (hr:PA X es t) (hs:K0h (e::es) X.env=(false,eval e X.env)::K0h es X.env:=by rfl):PA X (e::es) (za2 te t):=by
 intro pos pins s σ H Q I h;rw[hs];show wpAny _ _ (spliced ((false,eval e X.env)::backTo pos (K0h es X.env))) _ _ s;refine Calls.spliced_cons (thn (ha pins s σ H _ I h) λu s1 ⟨x,H1,I1,r1,q1⟩=>?_);exact thn (hr pos pins s1 σ H1 _ I1 q1) λus s2 ⟨xs,H2,I2,r2,q2⟩=>⟨x::xs,H2,I2,.cons r1 r2,q2⟩
def tTup (t:TA):TE:=λσ H Q=>t σ H λxs H1=>xs.length<=sizeLine/\∀p,H1 p=none->Q (.ref p) (upd H1 p (.tup xs))
def tLst (t:TA):TE:=λσ H Q=>t σ H λxs H1=>xs.length<=sizeLine/\∀p,H1 p=none->Q (.ref p) (upd H1 p (.lst xs))
theorem zS7 {x1}(h:PA X es t):PE X (.Tuple es x1 pos) (tTup t):=by
 intro pins s σ H Q I hq;refine wpAny_Tuple_spliced (thn (h pos pins s σ H _ I hq) λus s1 ⟨xs,H1,I1,r,z,q⟩=>⟨by rw[<- r.length];exact z,?_⟩);have hf:H1 s1.heap.objs.size=none:=I1.hok.fresh (K04 _);refine⟨.ref s1.heap.objs.size,upd H1 s1.heap.objs.size (.tup xs),I1.laid (t':=s1.toks) (λb u e=>K8 _ e) (K04 _) ?_,rfl,q _ hf⟩;exact⟨z,us,r,⟨_,K0f _ rfl,⟨rfl,rfl⟩,_,rfl⟩⟩
theorem zV7 (h:PA X es t):PE X (.List es pos) (tLst t):=by
 intro pins s σ H Q I hq;refine wpAny_List_spliced (thn (h pos pins s σ H _ I hq) λus s1 ⟨xs,H1,I1,r,z,q⟩=>⟨by rw[<- r.length];exact z,?_⟩);have hf:H1 s1.heap.objs.size=none:=I1.hok.fresh (K04 _);refine⟨.ref s1.heap.objs.size,upd H1 s1.heap.objs.size (.lst xs),I1.laid (t':=s1.toks) (λb u e=>K8 _ e) (K04 _) ?_,rfl,q _ hf⟩;exact⟨z,us,0,r,K0f _ rfl⟩
abbrev Sp:=List V->Hp->VK->XK->Prop
variable{sp:Sp}
abbrev CXT:=List Env->Hp->Shared->XK->Value->Shared->Prop
variable{CX:CXT}
structure Env0 (P:K1d) (w:World) (K:K5) (mg:Str->Option Value) (base:Heap) (A:Around) (outer:List Env) (s:Shared) (H:Hp):Prop where
 frames:A.frames=some outer
 mod:Mod K mg base
 bs:∀b o,base.get? b=some o->s.heap.get? b=some o/\H b=none
 bsz:base.objs.size<=.(2)
 funs:s.heap.FunFrames base outer
 frf:∀b∈frs outer,H b=none
 hok:HOk P w H s.heap
 bare:K7c s.gens
def CE (outer:List Env) (P:K1d) (w:World) (H:Hp) (s:Shared) (Q:VK) (u:Value) (s':Shared):Prop :=
 ∃v H',s'.os=s.os/\K7c s'.gens/\Un (frs outer) [] H H' s.heap s'.heap/\HOk P w H' s'.heap/\RelV v u/\Q v H'
def CR (CX:CXT) (outer:List Env) (P:K1d) (w:World) (H:Hp) (s:Shared) (Q:VK) (E:XK) (r:Result) (s':Shared):Prop :=
 match r with
 | .ok (.ret u)=>CE outer P w H s Q u s'
 | .ok _=>False
 | .error e=>CX outer H s E e s'
structure FnOk (P:K1d) (w:World) (K:K5) (mg:Str->Option Value) (base:Heap) (CX:CXT) (k:Nat) (f:Addr) (fd:K5j) (ps:List Str) (sp:Sp):Prop where
 len:∀vs H Q E,sp vs H Q E->vs.length=ps.length
 run:∀(A:Around) (outer:List Env) (s:Shared) (H:Hp) (args:Args) (us:List Value) (vs:List V) (Q:VK) (E:XK),Room k A->Env0 P w K mg base A outer s H->K8w s fd args (ps.zip us)->Vals vs us->sp vs H Q E ->
  K4w (model P w) A (.call (.ref f) args) (CR CX outer P w H s Q E) s
theorem FnOk.imp {k:Nat}{f:Addr}{sp':Sp}(F:FnOk P w K mg base CX k f fd ps sp)
 (h:∀vs H Q E,sp' vs H Q E->sp vs H Q E):FnOk P w K mg base CX k f fd ps sp' :=
 ⟨λvs H Q E q=>F.len vs H Q E (h _ _ _ _ q),λA outer s H args us vs Q E hr he hb hv hs=>F.run A outer s H args us vs Q E hr he hb hv (h _ _ _ _ hs)⟩
theorem Inv.env0 (I:Inv X pins σ H s):Env0 X.prog X.w X.K X.mg X.base X.A X.stack s H :=
 ⟨I.ok.frames,I.ok.mod,I.bs,K0q I.ok.bsz I.sz,I.stack,I.stkFree,I.hok,I.bare⟩
theorem Inv.after {Q:VK}(I:Inv X pins σ H s) (h:CE X.stack X.prog X.w H s Q u s'):EP X pins σ Q u s':=by
 obtain⟨v,H',os,bare,un,hok,r,q⟩:=h;obtain⟨hh,g,d,t,os'⟩:=s';obtain rfl:os'=s.os:=os;exact⟨v,H',I.call (h':=hh) (g':=g) (d':=d) (t':=t) (ch:=[]) un hok bare (λb z=>absurd z .(f)),r,q⟩
def Z05 (sp:Sp) (dvs:List V) (E:XK) (t:TA):TE:=λσ H Q=>t σ H λvs H1=>sp (vs++dvs) H1 Q E
def Z03 (C:Addr) (m:Str) (sp:Sp) (dvs:List V) (E:XK) (ta:TE) (t:TA):TE:=λσ H Q=>ta σ H λx H1=>∃a dx fs,x=.ref a/\H1 a=some (.ins C dx fs)/\fs.lookup m=none /\
 t σ H1 λvs H2=>sp (x::(vs++dvs)) H2 Q E
def Binds (K:K5) (fd:K5j) (ps:List Str) (ds:List Value):Prop :=
 ∀(s:Shared) (us:List Value),K.In s.heap->(us++ds).length=ps.length->K8w s fd ⟨us,[]⟩ (ps.zip (us++ds))
theorem Binds.all (h:∀us:List Value,us.length=ps.length->Z1z fd ⟨us,[]⟩=pure (ps.zip us)):Binds K fd ps []:=λs us _ hl=>by
 rw[K13]at hl ⊢;exact .of_eq (h us hl)
def z6M (CX:CXT) (X:Cx) (E:XK):Prop:=∀(pins:List (Addr×Obj)) (σ:St) (H:Hp) (s:Shared) (e:Value) (s':Shared),Inv X pins σ H s->CX X.stack H s E e s'->X.xe e s'
section
variable {k:Nat}{f:Addr}{dvs:List V}{E:XK}{o:Expr}
theorem zw6 {pins:List (Addr×Obj)}{σ:St}{H:Hp}{s:Shared}{Q:VK}{us:List Value}{vs:List V}(F:FnOk X.prog X.w X.K X.mg X.base CX k f fd ps sp) (hr:Room k X.A) (hb:Binds X.K fd ps ds) (hd:Vals dvs ds) (hx:z6M CX X E)
 (I:Inv X pins σ H s) (r:Vals vs us) (h:sp (vs++dvs) H Q E):wpAny .(4) X.A (call (.ref f) us) (EP X pins σ Q) X.xe s:=by
 have r2:Vals (vs++dvs) (us++ds):=r.append hd;have hl:(us++ds).length=ps.length:=by rw[<- r2.length];exact F.len _ _ _ _ h
 refine K8x (K3v (F.run X.A X.stack s H ⟨us,[]⟩ (us++ds) (vs++dvs) Q E hr I.env0 (hb s us I.kIn hl) r2 h) λr s' hq=>?_);cases r with
 | error e=>exact hx pins σ H s e s' I hq
 | ok fl =>
  cases fl with
  | ret u=>exact I.after hq
  | next=>exact K3e hq
  | brk=>exact K3e hq
  | cont=>exact K3e hq
theorem zL0 (F:FnOk X.prog X.w X.K X.mg X.base CX k f fd ps sp) (hr:Room k X.A) (hg:Gl X x) (hm:X.mg x=.(r f)) (hk:K24 X.K (.ref f)=true) (hb:Binds X.K fd ps ds) (hd:Vals dvs ds) (hx:z6M CX X E)
 (ha:PA X (e::es) t) (hdb:(x==("__debug__":Str))=false:=by decide) (he:K0h (e::es) X.env=(false,eval e X.env)::K0h es X.env:=by rfl) (hpl:(backTo pos (K0h es X.env)).any (·.1)=false:=by rfl) :
 PE X (.Call (.Name x p) (e::es) [] pos) (Z05 sp dvs E t):=by
 intro pins s σ H Q I h;refine K5z (zh9 I hg hm ?_ hdb);refine Z1e (h₀:=X.base) I.ok.mod.kin hk (thn (ha pos pins s σ H _ I h) λus s1 ⟨vs,H1,I1,r,q⟩=>⟨I1.kIn,?_⟩) he hpl;exact zw6 F hr hb hd hx I1 r q
theorem zy9 {pl:Sem Bool}(he:PE X o ta) (c:Cls X.K C) (hm:Meth X.K C m f) (F:FnOk X.prog X.w X.K X.mg X.base CX k f fd ps sp) (hr:Room k X.A) (hb:Binds X.K fd ps ds) (hd:Vals dvs ds) (hx:z6M CX X E) (ha:PA X (e::es) t)
 (hst:K0h (e::es) X.env=(false,eval e X.env)::K0h es X.env:=by rfl) (hpl:(backTo pos (K0h es X.env)).any (·.1)=false:=by rfl)
 (ht:eval (.Call (.Attribute o m apos) (e::es) [] pos) X.env=(do
  let ov <- eval o X.env
  K4o apos.atName
  let (f,first) <- K36 [ov] (K9x ov m pl)
  callWith pos f first (backTo pos (K0h (e::es) X.env)) (K55 pos (K39 [] X.env))):=by rfl) :
 PE X (.Call (.Attribute o m apos) (e::es) [] pos) (Z03 C m sp dvs E ta t):=by
 intro pins s σ H Q I h;refine K98 (pl:=pl) (thn (he pins s σ H _ I h) λu s1 ⟨x,H1,I1,rx,a,dx,fs,ex,ea,l,q⟩=>?_) ht;subst ex;obtain rfl:u=K20 a:=rx;refine z5r I1 ea c hm l ?_;refine Z1e (first:=[.ref a]) (h₀:=X.base) I.ok.mod.kin hm.kp (thn (ha pos pins s1 σ H1 _ I1 q) λus s2 ⟨vs,H2,I2,r,q2⟩=>⟨I2.kIn,?_⟩) hst hpl;exact zw6 (us:=.ref a::us) (vs:=.ref a::vs) F hr hb hd hx I2 (.cons rfl r) q2
end
def PK (X:Cx) (kws:List K4z) (t:TA):Prop :=
 ∀(pos:Pos) (pins:List (Addr×Obj)) (s:Shared) (σ:St) (H:Hp) (Q:List V->Hp->Prop),Inv X pins σ H s->t σ H Q->wpAny .(4) X.A (evalAll ((K55 pos (K39 kws X.env)).map (·.2))) (AP X pins σ Q) X.xe s
section
variable {k:Nat}{f:Addr}{ks:List Str}{E:XK}{kpos:Pos}{o:Expr}{tk:TA}
theorem zW8:PK X [] tNil:=λ_ _ _ _ H Q I h=>wpAny_evalAll_nil ⟨[],H,I,.nil,h⟩
theorem zD4 (ha:PE X e te) (hr:PK X kws t):PK X (⟨nm,e,kpos⟩::kws) (za2 te t):=by
 intro pos pins s σ H Q I h;show wpAny _ _ (evalAll ((do let v <- eval e X.env;K4o pos;pure v)::(K55 pos (K39 kws X.env)).map (·.2))) _ _ s;refine wpAny_evalAll_cons (K2 (thn (ha pins s σ H _ I h) λu s1 ⟨x,H1,I1,r1,q1⟩=>K2 (K4j (K6 ?_))));exact thn (hr pos pins s1 σ H1 _ I1 q1) λus s2 ⟨xs,H2,I2,r2,q2⟩=>⟨x::xs,H2,I2,.cons r1 r2,q2⟩
structure KBinds (K:K5) (fd:K5j) (ps ks:List Str) (g:List Value->List Value->List Value) (gV:List V->List V->List V):Prop where
 to:∀(s:Shared) (us ws:List Value),K.In s.heap->(g us ws).length=ps.length->K8w s fd ⟨us,ks.zip ws⟩ (ps.zip (g us ws))
 rel:∀{vs:List V} {us:List Value} {zs:List V} {ws:List Value},Vals vs us->Vals zs ws->Vals (gV vs zs) (g us ws)
theorem zG5 {pins:List (Addr×Obj)}{σ:St}{H:Hp}{s:Shared}{Q:VK}{us ws:List Value}{vs zs:List V}(F:FnOk X.prog X.w X.K X.mg X.base CX k f fd ps sp) (hr:Room k X.A) (hb:KBinds X.K fd ps ks g gV) (hx:z6M CX X E)
 (I:Inv X pins σ H s) (r:Vals vs us) (rz:Vals zs ws) (h:sp (gV vs zs) H Q E):wpAny .(4) X.A (call (.ref f) us (ks.zip ws)) (EP X pins σ Q) X.xe s:=by
 have r2:=hb.rel r rz;have hl:(g us ws).length=ps.length:=by rw[<- r2.length];exact F.len _ _ _ _ h
 refine K8x (K3v (F.run X.A X.stack s H ⟨us,ks.zip ws⟩ (g us ws) (gV vs zs) Q E hr I.env0 (hb.to s us ws I.kIn hl) r2 h) λr s' hq=>?_);cases r with
 | error e=>exact hx pins σ H s e s' I hq
 | ok fl =>
  cases fl with
  | ret u=>exact I.after hq
  | next=>exact K3e hq
  | brk=>exact K3e hq
  | cont=>exact K3e hq
end
structure FnScope (N P:List Str) (sc:Scope):Prop where
 kind:sc.kind=.function
 co:sc.isCoroutine=false
 gen:sc.isGenerator=false
 nd:N.Nodup
 pre:N.take P.length=P
 par:∀x∈P,sc.names.lookup x=some .local\/sc.names.lookup x=some .cell
 nofree:∀y∈sc.names,y.2≠.free
theorem z6D {kindOf:Str->Option K6b}{x:Str}:∀{binds:List (Str×Value)}{m:Str->Option Value},(∀v,(x,v)∉binds)->bindL kindOf binds m x=m x
 | [],_,_=>rfl
 | (n,v)::r,m,h=>by
  unfold bindL;rw[z6D λw hw=>h w (K1a _ hw)];split
  ·have:x≠n:=by rintro rfl;exact h v K1e
   simp[this]
  ·rfl
theorem z6k {kindOf:Str->Option K6b}{x:Str}:∀{binds:List (Str×Value)}{m:Str->Option Value},(∀v,(x,v)∉binds)->bindC kindOf binds m x=m x
 | [],_,_=>rfl
 | (n,v)::r,m,h=>by
  unfold bindC;rw[z6k λw hw=>h w (K1a _ hw)];split
  ·rfl
  ·have:x≠n:=by rintro rfl;exact h v K1e
   simp[this]
theorem z6A {kindOf:Str->Option K6b}{x:Str}{v:Value}:∀{P:List Str}{vs:List Value}{i:Nat}{m:Str->Option Value},P.Nodup->P[i]?=some x->vs[i]?=some v->kindOf x=some .local ->
 bindL kindOf (P.zip vs) m x=some v
 | [],_,_,_,_,h,_,_=>by simp at h
 | _::_,[],_,_,_,_,h,_=>by simp at h
 | p::P,w::vs,0,m,nd,h1,h2,hk=>by
  simp at h1 h2;subst h1;subst h2;show bindL kindOf ((p,w)::P.zip vs) m p=_;unfold bindL;rw[z6D λv hv=>(K3p.mp nd).1 (K94 hv).1,if_pos hk];simp
 | p::P,w::vs,i+1,m,nd,h1,h2,hk=>by
  show bindL kindOf ((p,w)::P.zip vs) m x=_;unfold bindL;exact z6A (i:=i) (K3p.mp nd).2 (by simpa using h1) (by simpa using h2) hk
theorem z6N {kindOf:Str->Option K6b}{x:Str}{v:Value}:∀{P:List Str}{vs:List Value}{i:Nat}{m:Str->Option Value},P.Nodup->P[i]?=some x->vs[i]?=some v->kindOf x≠some .local ->
 bindC kindOf (P.zip vs) m x=some v
 | [],_,_,_,_,h,_,_=>by simp at h
 | _::_,[],_,_,_,_,h,_=>by simp at h
 | p::P,w::vs,0,m,nd,h1,h2,hk=>by
  simp at h1 h2;subst h1;subst h2;show bindC kindOf ((p,w)::P.zip vs) m p=_;unfold bindC;rw[z6k λv hv=>(K3p.mp nd).1 (K94 hv).1,if_neg hk];simp
 | p::P,w::vs,i+1,m,nd,h1,h2,hk=>by
  show bindC kindOf ((p,w)::P.zip vs) m x=_;unfold bindC;exact z6N (i:=i) (K3p.mp nd).2 (by simpa using h1) (by simpa using h2) hk
def start (N:List Str) (vs:List V):St:=vs.map some++K0g (N.length - vs.length) none
def cxOf (CX:CXT) (P:K1d) (w:World) (K:K5) (mg:Str->Option Value) (base:Heap) (N:List Str) (qual:Str) (scope:Scope) (f:Addr) (cd:Value) (A:Around) (outer:List Env) (s:Shared) (H:Hp) (E:XK):Cx where
 prog:=P
 w:=w
 K:=K
 mg:=mg
 base:=base
 A:=A.deeper (envOfC qual scope .(2) f cd)
 N:=N
 s₀:=s
 H₀:=H
 env:=envOfC qual scope .(2) f cd
 outer:=outer
 stack:=envOfC qual scope .(2) f cd::outer
 ex:=[]
 calm:=true
 fn:=λ_=>true
 pn:=[]
 xe:=λe s'=>wpAny (model P w) (A.deeper (envOfC qual scope .(2) f cd)) (leaving (envOfC qual scope .(2) f cd) e) (λ_ s''=>CX outer H s E e s'') (λe' s''=>CX outer H s E e' s'') s'
theorem z89 {sc:Scope}(h:sc.names.lookup x=some .cell):∃c,(cellsFrom n sc.names []).lookup x=some c:=by
 have q:=K90 sc.names n [] (.inl h);exact Option.isSome_iff_exists.mp q
theorem ze7 {CX:CXT}{P:K1d}{w:World}{K:K5}{mg:Str->Option Value}{base:Heap}{N ps:List Str}{qual:Str}{scope:Scope}{f:Addr}{cd:Value}{A:Around}{outer:List Env}{s s1:Shared}{H:Hp}{E:XK}{us:List Value}{vs:List V}
 (S:FnScope N ps scope) (hd:A.handled=none) (e0:Env0 P w K mg base A outer s H) (hl:vs.length=ps.length) (r:Vals vs us)
 (x:InCallC s s.heap.objs.size (bindL (envOfC qual scope s.heap.objs.size f cd).kindOf (ps.zip us) λ_=>none) (cellsFrom (s.heap.objs.size+1) scope.names []) (bindC (envOfC qual scope s.heap.objs.size f cd).kindOf (ps.zip us) λ_=>none) s1) :
 Inv (cxOf CX P w K mg base N qual scope f cd A outer s H E) [] (start N vs) H s1:=by
 have hpl:ps.length<=N.length:=by have:=congrArg K7z S.pre;rw[K2d]at this;omega
 obtain⟨h1,tk,rfl,hk⟩:=x.done;have noA:∀b:Addr,b∉(cxOf CX P w K mg base N qual scope f cd A outer s H E).ex:=λb z=>absurd (show b∈([]:List Addr) from z) .(f);refine⟨⟨e0.mod,S.kind,rfl,rfl,K04 _,λy z c h1 h2=>?_,λy hy=>?_,λy c _ h=>?_,λ_=>hd,Around.frames_deeper e0.frames,.inr ⟨rfl,rfl⟩,λb z=>absurd z (noA b),e0.bs,e0.bsz,λb _ _=>noA b,λb z=>absurd z (noA b),e0.funs,e0.frf⟩,
  rfl,e0.bare,Un.kept hk,⟨_,x.toInCall.ns,λi y v h1 h2 h3=>?_⟩,λy c h=>⟨_,x.cell y c h⟩,e0.hok.fresh (K04 _),λy c h=>?_,λp hp=>absurd (show p∈([]:List (Addr×Obj)) from hp) .(f),e0.hok.kept hk,?_⟩
 ·exact name_of_addr x.apart (K2t h1) (K2t h2)
 ·have hy:scope.names.lookup y=some .cell\/scope.names.lookup y=some .free:=hy;rcases hy with hy|hy
  ·exact z89 hy
  ·exact absurd rfl (S.nofree _ (K2t hy))
 ·exact K33 (x.above y c (K2t h))
 ·have hi:i<vs.length:=by
   unfold start at h2;by_cases hi:i<vs.length
   ·exact hi
   ·rw[K0e (by simpa using hi)]at h2;rw[K3m]at h2;split at h2<;>cases h2
  have ha:vs[i]?=some v:=by
   unfold start at h2;rw[K11 (by simpa using hi),K0i]at h2;cases e:vs[i]? with
   | none=>rw[e]at h2;cases h2
   | some a=>rw[e]at h2;cases h2;rfl
  obtain⟨u,hu,rv⟩:=r.get ha;have hp:ps[i]?=some y:=by
   rw[<- S.pre,List.getElem?_take_of_lt .(1)];exact h1
  have ndP:ps.Nodup:=by rw[<- S.pre];exact S.nd.sublist (List.take_sublist _ _)
  refine⟨u,rv,?_⟩;rcases S.par y (K0s hp) with k|k
  ·exact .inl ⟨k,z6A ndP hp hu k⟩
  ·obtain⟨c,e⟩:=z89 (n:=.(2)+1) k;refine .inr ⟨.inl k,c,e,?_⟩;have q:=x.cell y c e;rw[z6N ndP hp hu (by show scope.names.lookup y≠_;rw[k];decide)]at q;exact q
 ·exact e0.hok.fresh (K33 (x.above y c (K2t h)))
 ·unfold start;show _=N.length;rw[K3,K0d,K3c];omega
theorem zn2 {CX:CXT}{P:K1d}{w:World}{K:K5}{mg:Str->Option Value}{base:Heap}{k:Nat}{f:Addr}{name qual:Str}{params:Arguments}{body:List Stmt}{scope:Scope}{dV kV doc pm cdv ct oc:Value}{an od:Option Addr}
 {osl:Array (Option Value)} {N ps:List Str} {sp:Sp} (lk:K.lookup f=some ⟨oc,od,.func (K2g name qual params body scope dV kV doc pm an cdv ct),osl⟩) (hcd:K2k K cdv qual=true) (S:FnScope N ps scope)
 (len:∀vs H Q E,sp vs H Q E->vs.length=ps.length)
 (hbody:∀(A:Around) (outer:List Env) (s:Shared) (H:Hp) (vs:List V) (Q:VK) (E:XK),Room k (A.deeper (envOfC qual scope .(2) f cdv))->sp vs H Q E ->
  ∃t,PSs (cxOf CX P w K mg base N qual scope f cdv A outer s H E) body t/\t { nx:=λ_ H'=>Q .non H',rt:=Q } (start N vs) H) :
 FnOk P w K mg base CX (k+1) f (K2g name qual params body scope dV kV doc pm an cdv ct) ps sp:=by
 refine⟨len,λA outer s H args us vs Q E hr e0 hb r hsp=>?_⟩;have hl:=len _ _ _ _ hsp;have KX:K.In s.heap:=e0.mod.kin.keeps λb o e=>(e0.bs b o e).1;have lim:s.heap.NoLimit:=e0.mod.nolimit.keeps λb o e=>(e0.bs b o e).1;have hkind:∀y∈ps.zip us,scope.names.lookup y.1=some .local\/(scope.names.lookup y.1=some .cell/\((cellsFrom (s.heap.objs.size+1) scope.names []).lookup y.1).isSome=true):=λ⟨n,v⟩ hy=>by
  rcases S.par n (K94 hy).1 with q|q
  ·exact .inl q
  ·exact .inr ⟨q,K90 _ _ _ (.inl q)⟩
 refine codeAny_call_function hr.depth (KX _ _ lk) rfl S.co S.gen rfl (PySem.W.codeRec_of KX hcd) (hb _ _ _ _ ?_);refine wpAny_newFunctionEnv_cells S.kind hkind λenv he s1 x=>?_;subst he;refine⟨lim.keeps x.toInCall.keep,codeAny_func ?_⟩;obtain⟨t,ht,hq⟩:=hbody A outer s H vs Q E (hr.deeper _) hsp;have I:Inv (cxOf CX P w K mg base N qual scope f cdv A outer s H E) [] (start N vs) H s1:=ze7 S hr.hd e0 hl r x;refine K44 (ht [] s1 (start N vs) H _ I hq) (λfl s' hs=>?_) λe s' hs=>hs;have fin:∀{σ':St} {H':Hp} {v:V} {u:Value},Inv (cxOf CX P w K mg base N qual scope f cdv A outer s H E) [] σ' H' s'->RelV v u->Q v H'->CE outer P w H s Q u s' :=
  λ{σ' H' v u} J rv q=>⟨v,H',J.os,J.bare,J.base,J.hok,rv,q⟩
 cases fl with
 | ret u =>
  obtain⟨v,σ',H',J,rv,q⟩:=hs;exact fin J rv q
 | next =>
  obtain⟨σ',H',J,q⟩:=hs;exact fin (v:=V.non) (u:=K3r) J rfl q
 | brk =>
  obtain⟨_,_,_,q⟩:=hs;exact K3e q
 | cont =>
  obtain⟨_,_,_,q⟩:=hs;exact K3e q
section
variable {id T:String}
def tCB (r:List V->Hp->VK->Prop) (t:TA):TE:=λσ H Q=>t σ H λvs H1=>r vs H1 Q
theorem z24 (hc:z3F X (.builtin id) r) (hg:Gl X x) (hm:X.mg x=none) (hv:K5n x=some (.builtin id)) (ha:PA X (e::es) t) (hn:x≠"__name__":=by decide) (hdb:(x==("__debug__":Str))=false:=by decide)
 (he:K0h (e::es) X.env=(false,eval e X.env)::K0h es X.env:=by rfl) (hpl:(backTo pos (K0h es X.env)).any (·.1)=false:=by rfl):PE X (.Call (.Name x p) (e::es) [] pos) (tCB r t):=by
 intro pins s σ H Q I h;refine K5z (z3V I hg hm hv ?_ hn hdb);exact PyProof.Rows.callWith_builtin1 (thn (ha pos pins s σ H _ I h) λus s1 ⟨vs,H1,I1,r1,q1⟩=>hc pins s1 σ H1 vs us Q I1 r1 q1) he hpl
theorem z3q (hc:z3F X (.type T) r) (hg:Gl X x) (hm:X.mg x=none) (hv:K5n x=some (.type T)) (ha:PA X (e::es) t) (hn:x≠"__name__":=by decide) (hdb:(x==("__debug__":Str))=false:=by decide)
 (he:K0h (e::es) X.env=(false,eval e X.env)::K0h es X.env:=by rfl) (hpl:(backTo pos (K0h es X.env)).any (·.1)=false:=by rfl):PE X (.Call (.Name x p) (e::es) [] pos) (tCB r t):=by
 intro pins s σ H Q I h;refine K5z (z3V I hg hm hv ?_ hn hdb);exact K30 (thn (ha pos pins s σ H _ I h) λus s1 ⟨vs,H1,I1,r1,q1⟩=>hc pins s1 σ H1 vs us Q I1 r1 q1) he hpl
end
end L2
namespace HT
open PySem PyProof.Rows
section
variable {prog:K1d}{w:World}{A:Around}{E:Value->Shared->Prop}{s:Shared}
theorem cat_tup {t b:Addr}{vs ws:List Value}{Q:Value->Shared->Prop}(ht:IsTup s.heap t vs.toArray) (hb:IsTup s.heap b ws.toArray) (hv:vs≠[])
 (h1:ws=[]->Q (.ref t) s) (h2:ws≠[]->Q (.ref .(2)) { s with heap:=s.heap.push { cls:=.type "tuple",data:=.seq (vs++ws).toArray } })
 (hsz:vs.length+ws.length<=sizeLine):wpAny (model prog w) A (K2z .Add (.ref t) (.ref b)) Q E s:=by
 obtain⟨⟨cls,dd,data,sl⟩,ho,hc,n,hd⟩:=id ht;obtain⟨⟨cls2,dd2,data2,sl2⟩,ho2,hc2,n2,hd2⟩:=id hb;simp only at hc hd hc2 hd2;subst hc hd hc2 hd2;have e:vs.toArray++ws.toArray=(vs++ws).toArray:=by simp
 by_cases hw:ws=[]
 ·exact Z27 ⟨_,ho,rfl⟩ ⟨_,ho2,rfl⟩ K8p Z18 K6i K63 (K5u _ _)
   (tuple_addW1 t b vs.toArray ws.toArray n n2 dd dd2 sl sl2 (by simpa using hv) (by simp[hw])) ⟨ho,ho2,h1 hw⟩
 ·refine Z27 ⟨_,ho,rfl⟩ ⟨_,ho2,rfl⟩ K8p Z18 K6i K63 (K5u _ _)
   (tuple_addW2 t b vs.toArray ws.toArray n n2 dd dd2 sl sl2 (by simpa using hv) (by simpa using hw) (by rw[K0a,K0a];exact hsz)) ⟨ho,ho2,?_⟩
  rw[e];exact h2 hw
def sIx (n d:Nat):Option Int->Nat
 | none=>d
 | some v=>if v<0 then (v+(n:Int)).toNat else min v.toNat n
end
end HT
namespace L2
variable{X:Cx}{pos:Pos}{xs ys:List V}{us its its':List Value}{α:Type}{n t':Nat}{pins:List (Addr×Obj)}{σ:St}{H:Hp}{s:Shared}{f:Array Value->Array Value}{u v:Value}{T:String}{r:V->List V->Hp->VK->Prop}
abbrev TO:=St->Hp->(Option Int->Hp->Prop)->Prop
theorem intsAre_of {ns:List Int}:∀{us:List Value},Vals (ns.map V.int) us->K86 us ns:=by
 induction ns with
 | nil=>intro us r;rw[K2a]at r;cases r;exact .nil
 | cons n ns ih =>
  intro us r;rw[K0v]at r;cases r with
  | cons r1 r2 =>
   obtain⟨t,e⟩:=r1;subst e;exact .cons n t (ih r2)
section
variable {e:Expr}{te:TE}{lo hi:Option Expr}{tl th:TO}{p2:Pos}
def zE0 (K:K5):R2:=λx y H Q=>∃a b xs ys,x=.ref a/\y=.ref b/\SqT K H a xs/\SqT K H b ys/\xs≠[]/\xs.length+ys.length<=sizeLine /\
 (ys=[]->Q (.ref a) H)/\(ys≠[]->∀p,H p=none->Q (.ref p) (upd H p (.tup (xs++ys))))
theorem Vals.nil_iff (r:Vals xs us):us=[]↔xs=[]:=by
 cases r with
 | nil=>simp
 | cons _ _=>simp
theorem op_catT:OpR X (K2z .Add) (zE0 X.K):=by
 intro pins s σ H x y v u Q I rx ry h;obtain⟨a,b,xs,ys,rfl,rfl,ha,hb,hx,hz,q1,q2⟩:=h;cases rx;cases ry;obtain⟨its,r1,p1,_⟩:=I.tuple ha;obtain⟨its2,r2,p2,_⟩:=I.tuple hb;refine HT.cat_tup p1 p2 (λz=>hx (r1.nil_iff.mp z)) (λz=>⟨.ref a,H,I,rfl,q1 (r2.nil_iff.mp z)⟩) (λz=>?_) (by rw[<- r1.length,<- r2.length];exact hz);refine⟨.ref .(2),_,I.laid (t':=s.toks) (o:=.tup (xs++ys)) (λb ob q=>K8 _ q) (K04 _) ?_,rfl,q2 (λw=>z (r2.nil_iff.mpr w)) _ (I.hok.fresh (K04 _))⟩;exact⟨by rw[K3];exact hz,_,r1.append r2,FT.IsTup0.new _ _⟩
end
def ixN (n:Nat) (i:Int):Option Nat:=if 0<=i then (if i<n then some i.toNat else none) else if -(n:Int)<=i then some (i+n).toNat else none
def atI (xs:List α) (i:Int):Option α:=(ixN xs.length i).bind λj=>xs[j]?
theorem z9U {i:Int}{j:Nat}(h:ixN n i=some j):K8l i n=some j/\j<n/\-(n:Int)<=i/\i<n:=by
 unfold ixN at h;by_cases h0:0<=i
 ·rw[if_pos h0]at h;by_cases h1:i<n
  ·rw[if_pos h1]at h;have e:i.toNat=j:=K19 h;exact⟨by rw[Z2o h0 h1,e],by omega,by omega,h1⟩
  ·rw[if_neg h1]at h;cases h
 ·rw[if_neg h0]at h;by_cases h1:-(n:Int)<=i
  ·rw[if_pos h1]at h;have e:(i+n).toNat=j:=K19 h;exact⟨by rw[Z26 .(1) h1,e],by omega,h1,by omega⟩
  ·rw[if_neg h1]at h;cases h
theorem z7y {xs:List α}{i:Int}{v:α}(h:atI xs i=some v):∃j,K8l i xs.length=some j/\xs[j]?=some v/\j<xs.length/\-(xs.length:Int)<=i/\i<xs.length:=by
 unfold atI at h;cases e:ixN xs.length i with
 | none=>rw[e]at h;cases h
 | some j =>
  rw[e]at h;obtain⟨h1,h2,h3,h4⟩:=z9U e;exact⟨j,h1,h,h2,h3,h4⟩
theorem z1n {xs:List α}{j:Nat}{v:α}(h:xs[j]?=some v):atI xs (j:Int)=some v:=by
 have hj:j<xs.length:=(K02.mp h).1;have e:ixN xs.length (j:Int)=some j:=by
  unfold ixN;rw[if_pos .(1),if_pos .(1)];simp
 unfold atI;rw[e];exact h
def za4 (b:Expr):Prop:=∀o i,K9k b false o i=operate [o,i] (Z1y o i)
def IxR (X:Cx) (r:R2):Prop :=
 ∀(value slice:Expr) (pins:List (Addr×Obj)) (s:Shared) (σ:St) (H:Hp) (x y:V) (v u:Value) (Q:VK),Inv X pins σ H s->RelV x v->RelV y u->r x y H Q ->
  K9k slice false v u=operate [v,u] (Z1y v u)->wpAny .(4) X.A (subscriptTail value slice v u) (EP X pins σ Q) X.xe s
def MtR (X:Cx) (id:String) (r:V->List V->Hp->VK->Prop):Prop :=
 ∀(pins:List (Addr×Obj)) (s:Shared) (σ:St) (H:Hp) (x:V) (xs:List V) (v:Value) (us:List Value) (Q:VK),Inv X pins σ H s->RelV x v->Vals xs us->r x xs H Q ->
  wpAny .(4) X.A (call (.builtin id) (v::us)) (EP X pins σ Q) X.xe s
section
variable {a b:Expr}{ta tb:TE}
theorem IxR.or {r r':R2}(h:IxR X r) (h':IxR X r'):IxR X (λx y H Q=>r x y H Q\/r' x y H Q):=by
 intro value slice pins s σ H x y v u Q I rx ry q hs;rcases q with q|q
 ·exact h value slice pins s σ H x y v u Q I rx ry q hs
 ·exact h' value slice pins s σ H x y v u Q I rx ry q hs
theorem zZ3 {r:R2}(hr:IxR X r) (ha:PE X a ta) (hb:PE X b tb) (hs:za4 b):PE X (.Subscript a b pos) (tOp r ta tb):=by
 intro pins s σ H Q I h;exact Subscript_ (binT ha hb I h λv u s2 x y H2 I2 rx ry q=>hr a b pins s2 σ H2 x y v u Q I2 rx ry q (hs _ _))
def rIxL (K:K5):R2:=λx y H Q=>∃p xs i v,x=.ref p/\y=.int i/\SqL K H p xs/\atI xs i=some v/\Q v H
def rIxT (K:K5):R2:=λx y H Q=>∃p xs i v,x=.ref p/\y=.int i/\SqT K H p xs/\atI xs i=some v/\Q v H
def rIxS:R2:=λx y H Q=>∃z i c,x=.str z/\y=.int i/\z.length<=sizeLine/\atI z.cps.toList i=some c/\Q (.str ⟨#[c]⟩) H
theorem ix_list:IxR X (rIxL X.K):=by
 intro value slice pins s σ H x y v u Q I rx ry h hs;obtain⟨p,xs,i,z,rfl,rfl,hq,he,q⟩:=h;cases rx;obtain⟨t,rfl⟩:=ry;obtain⟨its,r,pl,hz⟩:=I.list hq;obtain⟨j,h1,h2,h3,h4,h5⟩:=z7y he;obtain⟨w,ew,rw'⟩:=r.get h2;have hl:=r.length;have hn:=z5n;have fin:EP X pins σ Q w s:=⟨z,H,I,rw',q⟩;by_cases h0:0<=i
 ·have hj:i.toNat=j:=by
   rw[Z2o h0 h5]at h1;exact K19 h1
  exact item_listR pl.isList h0 .(1) (by rw[hj];simpa using ew) fin hs
 ·have hj:(i+(its.toArray.size:Int)).toNat=j:=by
   rw[Z26 .(1) h4]at h1;rw[K0a,<- hl];exact K19 h1
  exact K93 (x:=w) pl.isList.typeIs slot_list_getitem.lookup
   (wpAny_getItem_list_neg (Q:=λr s'=>r=w/\EP X pins σ Q r s') pl.isList .(1) (by rw[K0a]<;>omega) .(1) (by rw[hj];simpa using ew) ⟨rfl,fin⟩) hs
theorem ix_tup:IxR X (rIxT X.K):=by
 intro value slice pins s σ H x y v u Q I rx ry h hs;obtain⟨p,xs,i,z,rfl,rfl,hq,he,q⟩:=h;cases rx;obtain⟨t,rfl⟩:=ry;obtain⟨its,r,pl,hz⟩:=I.tuple hq;obtain⟨j,h1,h2,h3,h4,h5⟩:=z7y he;obtain⟨w,ew,rw'⟩:=r.get h2;have hl:=r.length;have hn:=z5n;have fin:EP X pins σ Q w s:=⟨z,H,I,rw',q⟩;exact K93 (x:=w) pl.typeIs slot_tuple_getitem.lookup
  (getItem_tuple (j:=j) (Q:=λr s'=>r=w/\EP X pins σ Q r s') pl .(1) .(1) (by rw[K0a,<- hl];exact h1) (by simpa using ew) ⟨rfl,fin⟩) hs
theorem zV3:IxR X rIxS:=by
 intro value slice pins s σ H x y v u Q I rx ry h hs;obtain⟨z,i,c,rfl,rfl,hz,he,q⟩:=h;obtain⟨t,rfl⟩:=rx;obtain⟨t',rfl⟩:=ry;obtain⟨j,h1,h2,h3,h4,h5⟩:=z7y he;have hl:z.cps.toList.length=z.length:=by simp[Z1c]
 rw[hl]at h1 h4 h5;have hn:=z5n;exact tail_any (typeIs_str s z t) slot_str_getitem.lookup (getItem_str (c:=c) (by
  have e1:decide (i < -(2 ^ 63:Int))=false:=.(m) .(1);have e2:decide (i >= 2 ^ 63)=false:=.(m) .(1);rw[e1,e2,Bool.or_false]) (by rw[h1];simpa using h2) ⟨.str ⟨#[c]⟩,H,I.tok _,⟨_,rfl⟩,q⟩) hs
def rIx (K:K5):R2:=λx y H Q=>rIxL K x y H Q\/rIxT K x y H Q\/rIxS x y H Q
theorem zR3:IxR X (rIx X.K):=ix_list.or (ix_tup.or zV3)
theorem z9C (its:List Value) (n j:Nat) (u:Value):K4h (·.setIfInBounds j u) { cls:=.type "list",data:=.seq its.toArray n }={ cls:=.type "list",data:=.seq (its.set j u).toArray n }:=by
 simp[K4h]
theorem Inv.lst {pins:List (Addr×Obj)}{σ:St}{H:Hp}{s:Shared}{p:Addr}{xs:List V}(I:Inv X pins σ H s) (h:H p=.(l xs)) :
 ∃(its:List Value) (n:Nat),Vals xs its/\s.heap.get? p=some { cls:=.type "list",data:=.seq its.toArray n }/\xs.length<=sizeLine:=by
 obtain⟨z,its,n,r,e⟩:=I.hok p _ h;exact⟨its,n,r,e,z⟩
theorem Inv.lstUpd {p:Addr}{ys:List V}{its its':List Value}{n n':Nat}{f:Obj->Obj}(I:Inv X pins σ H s) (h:H p=.(l xs))
 (ho:s.heap.get? p=some { cls:=.type "list",data:=.seq its.toArray n }) (hf:f { cls:=.type "list",data:=.seq its.toArray n }={ cls:=.type "list",data:=.seq its'.toArray n' }) (r:Vals ys its') (hz:ys.length<=sizeLine) (t:Nat) :
 Inv X pins σ (upd H p (.lst ys)) { s with heap:=s.heap.update p f,toks:=t }:=by
 have e:(s.heap.update p f).get? p=some { cls:=.type "list",data:=.seq its'.toArray n' }:=by
  rw[K46 f ho (by rw[hf]<;>rfl),hf]
 refine I.write (x:=p) (e:=p) (by rw[h];trivial) (.inl rfl) (λb u hb q=>(K3w _ _ (K4y hb)).trans q) ⟨_,e⟩ ?_;exact⟨hz,its',n',r,e⟩
def Z0g:V->V->V->Hp->(Hp->Prop)->Prop:=λo i v H Q=>∃p xs k j,o=.ref p/\i=.int k/\H p=.(l xs)/\ixN xs.length k=some j/\Q (upd H p (.lst (xs.set j v)))
theorem set_list:PSet X Z0g:=by
 intro pins s σ H o i v ov iv u Q I ro ri rv h;obtain⟨p,xs,k,j,rfl,rfl,hp,hj,q⟩:=h;cases ro;obtain⟨t,rfl⟩:=ri;obtain⟨its,n,r,ho,hz⟩:=I.lst hp;obtain⟨h1,h2,h3,h4⟩:=z9U hj;have hl:=r.length;have hn:=z5n;have I':Inv X pins σ (upd H p (.lst (xs.set j v))) { s with heap:=s.heap.update p (K4h (·.setIfInBounds j u)) } :=
  I.lstUpd hp ho (z9C its n j u) (r.set rv j) (by rw[K77];exact hz) s.toks
 by_cases h0:0<=k
 ·have hk:k.toNat=j:=by
   rw[Z2o h0 h4]at h1;exact K19 h1
  exact PySem.W.ki_setAt ho h0 .(1) (by rw[K0a,<- hl];exact h4) (by rw[hk];exact⟨_,I',q⟩)
 ·have hk:(k+(its.toArray.size:Int)).toNat=j:=by
   rw[Z26 .(1) h3]at h1;rw[K0a,<- hl];exact K19 h1
  exact PySem.W.ki_setBack ho .(1) (by rw[K0a,<- hl];exact h3) .(1) (by rw[hk];exact⟨_,I',q⟩)
def z51:V->Bool
 | .non=>true
 | .bl _=>true
 | .int _=>true
 | .str _=>true
 | _=>false
def eqV:V->V->Bool
 | .non,.non=>true
 | .bl a,.bl b=>a==b
 | .bl a,.int b=>(if a then 1 else 0)==b
 | .int a,.bl b=>a==(if b then 1 else 0)
 | .int a,.int b=>a==b
 | .str a,.str b=>a==b
 | _,_=>false
theorem zY4 {A:Around}{y x:V}(ry:RelV y u) (rx:RelV x v) (fy:z51 y=true) (fx:z51 x=true):SeqAt.EqAt A s u v (eqV y x):=by
 cases y with
 | non =>
  cases ry;cases x with
  | non=>cases rx;exact SeqAt.EqAt.same _
  | bl b=>cases rx;exact SeqAt.EqAt.none_bool b
  | int b=>obtain⟨t,rfl⟩:=rx;exact SeqAt.EqAt.none_int b t
  | str b=>obtain⟨t,rfl⟩:=rx;exact SeqAt.EqAt.none_str b t
  | _=>exact absurd (show false=true from fx) K12
 | bl a =>
  cases ry;cases x with
  | non=>cases rx;exact SeqAt.EqAt.bool_none a
  | bl b=>cases rx;exact SeqAt.EqAt.bool_bool a b
  | int b=>obtain⟨t,rfl⟩:=rx;exact SeqAt.EqAt.bool_int a b t
  | str b=>obtain⟨t,rfl⟩:=rx;exact SeqAt.EqAt.bool_str a b t
  | _=>exact absurd (show false=true from fx) K12
 | int a =>
  obtain⟨t',rfl⟩:=ry;cases x with
  | non=>cases rx;exact SeqAt.EqAt.int_none a t'
  | bl b=>cases rx;exact SeqAt.EqAt.int_bool a t' b
  | int b=>obtain⟨t,rfl⟩:=rx;exact SeqAt.EqAt.int_int a t' b t
  | str b=>obtain⟨t,rfl⟩:=rx;exact Z1b a t' b t
  | _=>exact absurd (show false=true from fx) K12
 | str a =>
  obtain⟨t',rfl⟩:=ry;cases x with
  | non=>cases rx;exact SeqAt.EqAt.str_none a t'
  | bl b=>cases rx;exact SeqAt.EqAt.str_bool a t' b
  | int b=>obtain⟨t,rfl⟩:=rx;exact Z1a a t' b t
  | str b=>obtain⟨t,rfl⟩:=rx;exact SeqAt.EqAt.str_str a t' b t
  | _=>exact absurd (show false=true from fx) K12
 | _=>exact absurd (show false=true from fy) K12
def eqU (x:V) (u:Value):Bool:=match u with
 | .none=>eqV .non x
 | .bool b=>eqV (.bl b) x
 | .int i _=>eqV (.int i) x
 | .str z _=>eqV (.str z) x
 | _=>false
theorem zw1 {x y:V}(r:RelV y u) (f:z51 y=true):eqU x u=eqV y x:=by
 cases y with
 | non=>cases r;rfl
 | bl b=>cases r;rfl
 | int i=>obtain⟨t,rfl⟩:=r;rfl
 | str z=>obtain⟨t,rfl⟩:=r;rfl
 | _=>exact absurd (show false=true from f) K12
theorem z4V {x:V}:∀{xs:List V}{us:List Value},Vals xs us->xs.all z51=true->us.any (eqU x)=xs.any λy=>eqV y x
 | _,_,.nil,_=>rfl
 | y::xs,u::us,.cons r t,f=>by
  rw[K5s,K0k]at f;rw[K2n,K2n,zw1 r f.1,z4V t f.2]
theorem z3s {A:Around}{s:Shared}{x:V}{v:Value}(rx:RelV x v) (fx:z51 x=true):∀{xs:List V}{us:List Value},Vals xs us->xs.all z51=true->∀u∈us,SeqAt.EqAt A s u v (eqU x u)
 | _,_,.nil,_=>λu hu=>by cases hu
 | y::xs,u::us,.cons r t,f=>λu' hu=>by
  rw[K5s,K0k]at f;rcases K0y.mp hu with rfl|hu
  ·rw[zw1 r f.1];exact zY4 r rx f.1 fx
  ·exact z3s rx fx t f.2 u' hu
def inV (x:V) (xs:List V):Bool:=xs.any λy=>eqV y x
def rIn (K:K5) (neg:Bool):R2:=λx y H Q=>∃p xs,y=.ref p/\(SqL K H p xs\/SqT K H p xs)/\z51 x=true/\xs.all z51=true/\Q (.bl (if neg then !inV x xs else inV x xs)) H
theorem z9N:OpR X (K2f .In) (rIn X.K false):=by
 intro pins s σ H x y v u Q I rx ry h;obtain⟨p,xs,rfl,hq,fx,fs,q⟩:=h;cases ry;rcases hq with hq|hq
 ·obtain⟨its,r,pl,hz⟩:=I.list hq;refine SeqAt.in_listAt (eqU x) pl.isList (λw hw=>z3s rx fx r fs w (by simpa using hw)) ⟨.bl _,H,I,rfl,?_⟩;rw[show its.toArray.any (eqU x)=its.any (eqU x) by simp,z4V r fs];exact q
 ·obtain⟨its,r,pl,hz⟩:=I.tuple hq;refine SeqAt.in_tupleAt (eqU x) pl (λw hw=>z3s rx fx r fs w (by simpa using hw)) ⟨.bl _,H,I,rfl,?_⟩;rw[show its.toArray.any (eqU x)=its.any (eqU x) by simp,z4V r fs];exact q
theorem z6H:OpR X (K2f .NotIn) (rIn X.K true):=by
 intro pins s σ H x y v u Q I rx ry h;obtain⟨p,xs,rfl,hq,fx,fs,q⟩:=h;cases ry;rcases hq with hq|hq
 ·obtain⟨its,r,pl,hz⟩:=I.list hq;refine SeqAt.notIn_listAt (eqU x) pl.isList (λw hw=>z3s rx fx r fs w (by simpa using hw)) ⟨.bl _,H,I,rfl,?_⟩;rw[show its.toArray.any (eqU x)=its.any (eqU x) by simp,z4V r fs];exact q
 ·obtain⟨its,r,pl,hz⟩:=I.tuple hq;refine SeqAt.notIn_tupleAt (eqU x) pl (λw hw=>z3s rx fx r fs w (by simpa using hw)) ⟨.bl _,H,I,rfl,?_⟩;rw[show its.toArray.any (eqU x)=its.any (eqU x) by simp,z4V r fs];exact q
theorem z6T:z3F X (.type "list") (λxs H Q=>∃p ys,xs=[.ref p]/\(SqL X.K H p ys\/SqT X.K H p ys)/\∀l,H l=none->Q (.ref l) (upd H l (.lst ys))):=by
 intro pins s σ H xs us Q I r h;obtain⟨p,ys,rfl,hq,q⟩:=h;obtain⟨u,rfl,rx⟩:=vals1 r;cases rx;have fin:∀(its:List Value),Vals ys its->ys.length<=sizeLine->∀(h':Heap) (c':Nat),(∀b o',s.heap.get? b=some o'->h'.get? b=some o') ->
  h'.get? .(2)=some { cls:=.type "list",dict:=none,data:=.seq its.toArray c',slots:=#[] }->EP X pins σ Q (.ref .(2)) { s with heap:=h' }:=λits r' hz h' c' kp e =>
  ⟨.ref .(2),_,I.laid (t':=s.toks) kp (K04 _) (show ObjOk X.prog X.w _ h' _ (.lst ys) from⟨hz,its,c',r',e⟩),rfl,q _ (I.hok.fresh (K04 _))⟩
 rcases hq with hq|hq
 ·obtain⟨its,r',pl,hz⟩:=I.list hq;have hlen:=r'.length;obtain⟨o,ho,hc,n,hd⟩:=pl.isList;exact call_list_seq p (.inl rfl) ho hc hd (λh' c' kp e=>fin its r' hz h' c' kp e) (by simp only[K0a]<;>omega)
 ·obtain⟨its,r',pl,hz⟩:=I.tuple hq;have hlen:=r'.length;obtain⟨o,ho,hc,n,hd⟩:=pl;exact call_list_seq p (.inr rfl) ho hc hd (λh' c' kp e=>fin its r' hz h' c' kp e) (by simp only[K0a]<;>omega)
theorem z5v:z3F X (.type "tuple") (λxs H Q=>∃p ys,xs=[.ref p]/\((SqL X.K H p ys/\∀l,H l=none->Q (.ref l) (upd H l (.tup ys)))\/(SqT X.K H p ys/\Q (.ref p) H))):=by
 intro pins s σ H xs us Q I r h;obtain⟨p,ys,rfl,h⟩:=h;obtain⟨u,rfl,rx⟩:=vals1 r;cases rx;rcases h with ⟨hq,q⟩|⟨hq,q⟩
 ·obtain⟨its,r',pl,hz⟩:=I.list hq;have hlen:=r'.length;refine call_tuple_list pl.isList (λh' kp=>?_) (by simp only[K0a]<;>omega);have I1:Inv X pins σ H { s with heap:=h' }:=I.kept (t':=s.toks) kp;have I2:Inv X pins σ (upd H h'.objs.size (.tup ys)) { s with heap:=h'.push { cls:=.type "tuple",data:=.seq its.toArray } } :=
   I1.laid (t':=s.toks) (λb o e=>K8 _ e) (K04 _) (show ObjOk X.prog X.w _ _ _ (.tup ys) from⟨hz,its,r',FT.IsTup0.new _ _⟩)
  exact⟨.ref h'.objs.size,_,I2,rfl,q _ (I1.hok.fresh (K04 _))⟩
 ·obtain⟨its,r',pl,hz⟩:=I.tuple hq;exact call_tuple_same pl ⟨.ref p,H,I,rfl,q⟩
def tyV (K:K5) (T:String) (x:V) (H:Hp):Prop:=match x with
 | .str _=>T = "str"
 | .int _=>T = "int"
 | .ref p=>(T = "list"/\∃xs,SqL K H p xs)\/(T = "tuple"/\∃o,K.lookup p=some o/\o.cls=.type "tuple"/\o.dict=none) \/
  (T = "dict"/\((∃kvs,H p=some (.dK kvs))\/∃kvs,H p=some (.dT kvs)))\/(T = "set"/\∃ks,H p=some (.set ks))
 | _=>False
theorem zw8 {x:V}(I:Inv X pins σ H s) (r:RelV x v) (ty:tyV X.K T x H):
 s.TypeIs v T/\∀a,v=.ref a->∃ob,s.heap.get? a=some ob/\ob.dict=none:=by
 cases x with
 | str z =>
  obtain⟨t,rfl⟩:=r;cases (show T = "str" from ty);exact⟨typeIs_str s z t,λ_ e=>nomatch e⟩
 | int i =>
  obtain⟨t,rfl⟩:=r;cases (show T = "int" from ty);exact⟨K8y s i t,λ_ e=>nomatch e⟩
 | ref p =>
  cases r;rcases ty with ⟨rfl,xs,hq⟩|⟨rfl,o,hk,hc,hd⟩|⟨rfl,hk⟩|⟨rfl,ks,hk⟩
  ·obtain⟨its,_,pl,_⟩:=I.list hq;refine⟨pl.isList.typeIs,λa e=>?_⟩;cases e;obtain⟨o,n,e,c,hd,_⟩:=pl;exact⟨o,e,hd⟩
  ·refine⟨⟨o,I.kIn p o hk,hc⟩,λa e=>?_⟩;cases e;exact⟨o,I.kIn _ o hk,hd⟩
  ·have z:∃o,s.heap.get? p=some o/\o.ExactDict:=by
    rcases hk with ⟨kvs,hk⟩|⟨kvs,hk⟩
    ·obtain⟨_,_,_,_,o,_,_,e,ex,_⟩:=I.hok p _ hk;exact⟨o,e,ex⟩
    ·obtain⟨_,_,_,_,o,_,_,e,ex,_⟩:=I.hok p _ hk;exact⟨o,e,ex⟩
   obtain⟨o,e,ex⟩:=z;refine⟨⟨o,e,ex.1⟩,λa e2=>?_⟩;cases e2;exact⟨o,e,ex.2.1⟩
  ·obtain⟨o,_,_,_,_,e,ex,_⟩:=I.hok p _ hk;refine⟨⟨o,e,ex.1⟩,λa e2=>?_⟩;cases e2;exact⟨o,e,ex.2.1⟩
 | _=>exact K3e ty
def tBM0 (K:K5) (T:String) (r:V->List V->Hp->VK->Prop) (to:TE):TE:=λσ H Q=>to σ H λx H1=>tyV K T x H1/\r x [] H1 Q
def tBM (K:K5) (T:String) (r:V->List V->Hp->VK->Prop) (to:TE) (t:TA):TE:=λσ H Q=>to σ H λx H1=>tyV K T x H1/\t σ H1 λxs H2=>r x xs H2 Q
variable {o e:Expr}{es:List Expr}{to:TE}{t:TA}{name:Str}{apos cpos:Pos}{id:String}
theorem zS1 (pa:PlainAttrs T) (slot:Slot T name id) (hty:typeOf (.builtin id)=pure (.type "method_descriptor")) (hm:MtR X id r) (ho:PE X o to)
 (hbase:K5b o name X.env (eval o X.env)=eval o X.env:=by rfl) (hline:(apos.endLine==cpos.line)=true:=by rfl):PE X (.Call (.Attribute o name apos) [] [] cpos) (tBM0 X.K T r to):=by
 intro pins s σ H Q I h;refine wpAny_Call_method0_late hbase hline (thn (ho pins s σ H _ I h) λv s1 ⟨x,H1,I1,r1,ty,q1⟩=>?_);obtain⟨h1,h2⟩:=zw8 I1 r1 ty;exact⟨T,id,pa,slot,hty,h1,h2,K91 rfl (PySem.evalArgs_none (hm pins s1 σ H1 x [] v [] Q I1 r1 .nil q1))⟩
theorem zm1 (pa:PlainAttrs T) (slot:Slot T name id) (hty:typeOf (.builtin id)=pure (.type "method_descriptor")) (hm:MtR X id r) (ho:PE X o to) (ha:PA X (e::es) t)
 (hbase:K5b o name X.env (eval o X.env)=eval o X.env:=by rfl)
 (hfew:((backTo cpos (K0h (e::es) X.env)).all (λx=>!x.1)&&(K55 cpos (K39 [] X.env)).all (λx=>x.1.isSome)
 &&decide ((e::es).length+([]:List K4z).length+(if ([]:List K4z).isEmpty then 0 else 1)<30))=true:=by rfl)
 (hline:(apos.endLine==cpos.line)=true:=by rfl) (hs:K0h (e::es) X.env=(false,eval e X.env)::K0h es X.env:=by rfl) (hplain:(backTo cpos (K0h es X.env)).any (·.1)=false:=by rfl) :
 PE X (.Call (.Attribute o name apos) (e::es) [] cpos) (tBM X.K T r to t):=by
 intro pins s σ H Q I h;refine wpAny_Call_method_late hbase hfew hline rfl (thn (ho pins s σ H _ I h) λv s1 ⟨x,H1,I1,r1,ty,q1⟩=>?_);obtain⟨h1,h2⟩:=zw8 I1 r1 ty;refine⟨T,id,pa,slot,hty,h1,h2,?_⟩;have hA:=ha cpos pins s1 σ H1 _ I1 q1;rw[hs]at hA ⊢;refine K91 (by show (false||(backTo cpos (K0h es X.env)).any (·.1))=false;rw[hplain]<;>rfl) (Calls.evalArgs_plain ?_);exact thn hA λus s2 ⟨vs,H2,I2,r2,q2⟩=>hm pins s2 σ H2 x vs v us Q I2 r1 r2 q2
end
def MtM (X:Cx) (id:String) (r:V->List V->Hp->VK->Prop):Prop :=
 ∀(pins:List (Addr×Obj)) (s:Shared) (σ:St) (H:Hp) (x:V) (xs:List V) (v:Value) (us:List Value) (Q:VK),Inv X pins σ H s->RelV x v->Vals xs us->r x xs H Q ->
  wpAny .(4) X.A (call (.builtin id) (v::us)) (EP X pins σ Q) X.xe s
theorem Vals.one:∀{x:V}{us:List Value},Vals [x] us->∃u,us=[u]/\RelV x u
 | _,_,.cons r .nil=>⟨_,rfl,r⟩
theorem Vals.zero:∀{us:List Value},Vals [] us->us=[]
 | _,.nil=>rfl
theorem Vals.dropLast {xs:List V}{us:List Value}(h:Vals xs us):Vals xs.dropLast us.dropLast:=by
 induction h with
 | nil=>exact .nil
 | cons r t ih =>
  cases t with
  | nil=>exact .nil
  | cons q t'=>exact .cons r ih
theorem Vals.eraseIdx:∀{xs:List V}{us:List Value}(i:Nat),Vals xs us->Vals (xs.eraseIdx i) (us.eraseIdx i)
 | _,_,_,.nil=>.nil
 | _,_,0,.cons _ t=>t
 | _,_,i+1,.cons r t=>.cons r (Vals.eraseIdx i t)
theorem Vals.rep {xs:List V}{us:List Value}(h:Vals xs us):∀k:Nat,Vals (K0g k xs).flatten (K0g k us).flatten
 | 0=>.nil
 | k+1=>by
  rw[K37,K37,K15,K15];exact Vals.append h (Vals.rep h k)
theorem z9b (l:List α):l.eraseIdx (l.length - 1)=l.dropLast:=by
 induction l with
 | nil=>rfl
 | cons a r ih =>
  cases r with
  | nil=>rfl
  | cons b r =>
   have e:(a::b::r).length - 1=((b::r).length - 1)+1:=by
    have h1:(a::b::r).length=r.length+2:=rfl;have h2:(b::r).length=r.length+1:=rfl;omega
   rw[e,List.eraseIdx_cons_succ,ih]
   all_goals rfl
theorem z6n {α:Type}:∀(l:List α) (i:Nat),(l.eraseIdx i).length<=l.length
 | [],_=>K04 _
 | _::_,0=>K5h _
 | _::r,i+1=>Nat.succ_le_succ (z6n r i)
theorem foldl_rep (its:List Value):∀(k:Nat) (acc:List Value),
 K6p (λx1 x2=>x1++x2) acc.toArray (K0g k its.toArray)=(acc++(K0g k its).flatten).toArray
 | 0,acc=>by simp
 | k+1,acc=>by
  have e:acc.toArray++its.toArray=(acc++its).toArray:=by simp
  have e2:(acc++its)++(K0g k its).flatten=acc++(K0g (k+1) its).flatten:=by
   rw[K37,K15,K05]
  rw[<- e2,<- foldl_rep its k (acc++its),<- e,K37,K52]
section
variable {l b:Addr}{zs:List V}
theorem Inv.lset {its its':List Value}{n:Nat}{f:Array Value->Array Value}{t':Nat}(I:Inv X pins σ H s) (hH:H l=.(l xs))
 (e:s.heap.get? l=some { cls:=.type "list",data:=.seq its.toArray n }) (hf:f its.toArray=its'.toArray) (hv:Vals ys its') (hz:ys.length<=sizeLine) :
 Inv X pins σ (upd H l (.lst ys)) { s with heap:=s.heap.update l (K4h f),toks:=t' }:=by
 have q:=PySem.IsL.update e f;rw[hf]at q;refine I.write (x:=l) (e:=l) (by rw[hH];exact trivial) (.inl rfl) (λb' u hb hu=>(K3w s.heap (K4h f) (K4y hb)).trans hu) ⟨_,q⟩ ?_;exact⟨hz,its',_,hv,q⟩
theorem Inv.lnew {t':Nat}(I:Inv X pins σ H s) (hv:Vals ys its) (hz:ys.length<=sizeLine):
 Inv X pins σ (upd H .(2) (.lst ys)) { s with heap:=s.heap.push { cls:=.type "list",data:=.seq its.toArray },toks:=t' } :=
 I.laid (λ_ _ q=>K8 _ q) (K04 _) ⟨hz,its,0,hv,K0f _ rfl⟩
theorem Inv.fresh (I:Inv X pins σ H s):H s.heap.objs.size=none:=I.hok.fresh (K04 _)
theorem Inv.lstM (I:Inv X pins σ H s) (hH:H l=.(l xs)):xs.length<=sizeLine/\∃(its:List Value) (n:Nat),Vals xs its/\xs.length=its.length/\s.heap.get? l=some { cls:=.type "list",data:=.seq its.toArray n }:=by
 obtain⟨z,its,n,r,e⟩:=I.hok l _ hH;exact⟨z,its,n,r,r.length,e⟩
theorem z5A (h:n<=sizeLine):K2x n=false:=by
 unfold K2x;exact .(m) .(1)
end
def zK1:V->List V->Hp->VK->Prop:=λx vs H Q=>∃l xs y,x=.ref l/\vs=[y]/\H l=.(l xs)/\xs.length<sizeLine/\Q .non (upd H l (.lst (xs++[y])))
theorem z70:MtM X "list.append" zK1:=by
 intro pins s σ H x vs v us Q I rx rv h;obtain⟨l,xs,y,rfl,rfl,hH,hz,q⟩:=h;cases rx;obtain⟨u,rfl,ru⟩:=rv.one;obtain⟨z,its,n,r,hl,e⟩:=I.lstM hH;refine K4i F.slot_list_append ⟨_,e,rfl⟩ F.entry_list_append (F.args_list_append_2 _ _) (PySem.list_append l its.toArray n u (by rw[K0a];omega)) ⟨e,?_⟩;refine⟨.non,_,I.lset (its':=its++[u]) hH e .(f) (r.append (.cons ru .nil)) ?_,rfl,q⟩;rw[K3,K09];omega
def zd5:V->List V->Hp->VK->Prop:=λx vs H Q=>∃l b xs zs,x=.ref l/\vs=[.ref b]/\H l=.(l xs)/\H b=.(l zs)/\xs.length+zs.length<=sizeLine/\Q .non (upd H l (.lst (xs++zs)))
theorem zd4:MtM X "list.extend" zd5:=by
 intro pins s σ H x vs v us Q I rx rv h;obtain⟨l,b,xs,zs,rfl,rfl,hH,hB,hz,q⟩:=h;cases rx;obtain⟨u,rfl,ru⟩:=rv.one;cases ru;obtain⟨z,its,n,r,hl,e⟩:=I.lstM hH;obtain⟨z2,its2,n2,r2,hl2,e2⟩:=I.lstM hB;have hsz:its.toArray.size+its2.toArray.size<=sizeLine:=by rw[K0a,K0a];omega
 have hlong:¬ (!its.toArray.isEmpty&&K2x (its.toArray.size+its2.toArray.size))=true:=by
  rw[z5A hsz,K7j];exact K12
 refine K4i Z1n ⟨_,e,rfl⟩ Z13 (K9o _ _)
  (AutoSeq1.list_extend_list_list_0 l its.toArray n b its2.toArray n2 hlong (by rw[K0a];omega) .(1)) ⟨e,e2,?_⟩
 refine⟨.non,_,I.lset (its':=its++its2) hH e .(f) (r.append r2) ?_,rfl,q⟩;rw[K3];omega
def rPop:V->List V->Hp->VK->Prop:=λx vs H Q=>∃l xs y,x=.ref l/\vs=[]/\H l=.(l xs)/\xs[xs.length - 1]?=some y/\Q y (upd H l (.lst xs.dropLast))
theorem zM6:MtM X "list.pop" rPop:=by
 intro pins s σ H x vs v us Q I rx rv h;obtain⟨l,xs,y,rfl,rfl,hH,hy,q⟩:=h;cases rx;have hus:=rv.zero;subst hus;obtain⟨z,its,n,r,hl,e⟩:=I.lstM hH;obtain⟨u,hu,ru⟩:=r.get hy;have hy':its.toArray[its.toArray.size - 1]?=some u:=by
  show its.toArray[its.length - 1]?=some u;rw[<- K3b,<- hl];exact hu
 refine K4i F.slot_list_pop ⟨_,e,rfl⟩ F.entry_list_pop (F.args_list_pop_1 _) (MeetsSeq.list_pop_last l its.toArray n u hy' (by rw[K0a];omega)) ⟨e,?_⟩;refine⟨y,_,I.lset (its':=its.dropLast) hH e ?_ r.dropLast ?_,ru,q⟩
 ·show its.toArray.eraseIdxIfInBounds (its.toArray.size - 1)=its.dropLast.toArray;rw[K0a,K6n,z9b]
 ·rw[List.length_dropLast];omega
def zU8:V->List V->Hp->VK->Prop:=λx vs H Q=>∃l xs i k y,x=.ref l/\vs=[.int i]/\H l=.(l xs)/\-(2 ^ 63)<=i/\i<2 ^ 63/\K8l i xs.length=some k/\xs[k]?=some y/\Q y (upd H l (.lst (xs.eraseIdx k)))
theorem zq2:MtM X "list.pop" zU8:=by
 intro pins s σ H x vs v us Q I rx rv h;obtain⟨l,xs,i,k,y,rfl,rfl,hH,h1,h2,hk,hy,q⟩:=h;cases rx;obtain⟨u,rfl,ru⟩:=rv.one;obtain⟨t,rfl⟩:=ru;obtain⟨z,its,n,r,hl,e⟩:=I.lstM hH;obtain⟨w,hw,rw'⟩:=r.get hy;refine K4i F.slot_list_pop ⟨_,e,rfl⟩ F.entry_list_pop (F.args_list_pop_2 _ _)
  (MeetsSeq.list_pop_at l its.toArray n i t k w (fitsIndex_both h1 h2) (by rw[K0a,<- hl];exact hk) (by rw[<- K3b];exact hw) (by rw[K0a];omega)) ⟨e,?_⟩
 refine⟨y,_,I.lset (its':=its.eraseIdx k) hH e ?_ (r.eraseIdx k) ?_,rw',q⟩
 ·show its.toArray.eraseIdxIfInBounds k=(its.eraseIdx k).toArray;rw[K6n]
 ·have:=z6n xs k;omega
def rCat:R2:=λx y H Q=>∃l b xs zs,x=.ref l/\y=.ref b/\H l=.(l xs)/\H b=.(l zs)/\xs.length+zs.length<=sizeLine/\∀p,H p=none->Q (.ref p) (upd H p (.lst (xs++zs)))
theorem op_cat:OpR X (K2z .Add) rCat:=by
 intro pins s σ H x y v u Q I rx ry h;obtain⟨l,b,xs,zs,rfl,rfl,hH,hB,hz,q⟩:=h;cases rx;cases ry;obtain⟨z,its,n,r,hl,e⟩:=I.lstM hH;obtain⟨z2,its2,n2,r2,hl2,e2⟩:=I.lstM hB;refine PySem.P.add_list e e2 ?_ (by rw[K0a,K0a];omega);have ea:its.toArray++its2.toArray=(its++its2).toArray:=by simp
 rw[ea];exact⟨.ref _,_,I.lnew (t':=s.toks) (r.append r2) (by rw[K3];omega),rfl,q _ I.fresh⟩
def rRep:R2:=λx y H Q=>∃l k xs,x=.ref l/\y=.int k/\H l=.(l xs)/\-(2 ^ 63)<=k/\k<2 ^ 63/\xs.length * k.toNat<=sizeLine /\
 ∀p,H p=none->Q (.ref p) (upd H p (.lst (K0g k.toNat xs).flatten))
theorem len_rep (xs:List α) (k:Nat):(K0g k xs).flatten.length=k * xs.length:=by
 induction k with
 | zero=>simp
 | succ k ih=>rw[K37,K15,K3,ih,Nat.succ_mul,Nat.add_comm]
theorem zW1:OpR X (K2z .Mult) rRep:=by
 intro pins s σ H x y v u Q I rx ry h;obtain⟨l,k,xs,rfl,rfl,hH,h1,h2,hz,q⟩:=h;cases rx;obtain⟨t,rfl⟩:=ry;obtain⟨z,its,n,r,hl,e⟩:=I.lstM hH;have hlen:its.toArray.size * k.toNat<=sizeLine:=by rw[K0a,<- hl];exact hz
 have hcap:¬ its.toArray.size * k.toNat > (2 ^ 63 - 1) / 8:=by
  have:(sizeLine:Nat)<=(2 ^ 63 - 1) / 8:=by decide
  omega
 have hfit:¬ (!Builtin.List.listFitsIndex k)=true:=by
  rw[fitsIndex_both h1 h2];exact K12
 have hlong:¬ K2x (its.toArray.size * k.toNat)=true:=by
  rw[z5A hlen];exact K12
 have hnew:K6p (λx1 x2=>x1++x2) #[] (K0g (if its.toArray.isEmpty=true then 0 else k.toNat) its.toArray)=(K0g k.toNat its).flatten.toArray:=by
  have f0:∀m:Nat,K6p (λx1 x2=>x1++x2) #[] (K0g m its.toArray)=(K0g m its).flatten.toArray:=λm=>by
   have:=foldl_rep its m [];rw[K76]at this;exact this
  rw[f0];cases its with
  | nil=>simp
  | cons a r'=>rw[if_neg .(f)]
 refine K7u (T:="list") (U:="int") (by decide) ⟨_,e,rfl⟩ (λs'=>K8y s' k t) noFill_list_mul F.fills_int_mul F.slot_int_rmul repeat_list F.slot_int_index.lookup
  (K4i F.slot_int_rmul (K8y s k t) F.entry_int_rmul (F.args_int_rmul_2 _ _) (int___rmul___int_list k t l its.toArray n)
   ⟨e,rfl,⟨_,e,rfl⟩,K4i F.slot_list_mul ⟨_,e,rfl⟩ F.entry_list_mul (F.args_list_mul_2 _ _) (AutoListH.list___mul___list_int_3 l its.toArray n k t hfit hcap hlong) ⟨e,?_⟩⟩)
 rw[hnew];exact⟨.ref _,_,I.lnew (t':=s.toks) (r.rep k.toNat) (by rw[len_rep,K7b];exact hz),rfl,q _ I.fresh⟩
end L2
namespace Att
open PySem PySem.W PySem.Calls PyProof.Rows
theorem z4J {P:Params}{h:Heap}:∀(ns:List Int) (vs:List Value),WellAll P h vs (ns.map WData.int)->K86 vs ns:=by
 intro ns;induction ns with
 | nil =>
  intro vs w;rw[K2a]at w;cases w;exact .nil
 | cons n ns ih =>
  intro vs w;rw[K0v]at w;cases w with
  | cons a b =>
   cases a;exact .cons _ _ (ih _ b)
theorem z9K {l:OpenLaw}{n:Nat}(hn:l.most=some n) {P:Params}{h:Heap}{args:List WData}{vals:List Value}
 (hpre:l.row.toRowW.claim.pre args=true) (hwl:WellAll P h vals args) :
 ∃a vs ns,vals=[K20 a]/\args=[WData.list (ns.map WData.int)]/\h.get? a=some { cls:=.type "list",data:=.seq vs.toArray }/\K86 vs ns/\ns.length<=n:=by
 have hsh:WShape.hasAll [] args [.list .int]=true:=(pre_splitW hpre).1;have hc:l.pre.holds [] { args:=args }=true:=(pre_splitW hpre).2;obtain⟨d,r,rfl,h1,h2⟩:=hasAllW_cons hsh;obtain rfl:=hasAllW_nil h2;obtain⟨xs,rfl,h3⟩:=hasW_list h1;obtain⟨ns,rfl⟩:=items_int h3;have hlen:ns.length<=n:=by
  unfold OpenLaw.pre at hc;have h4:(WTm.not (.lt (.lit (.int (n:Int))) (.len (.arg 0)))).holds [] { args:=[.list (ns.map .int)] }=true:=by
   have h4:=(holds_andW hc).1;rw[hn]at h4;exact h4
  have h5:=condW_of h4 (w_not (w_lt w_lit (w_len_list (w_arg rfl))));rw[K0d]at h5;refine Nat.le_of_not_lt λq=>?_;have q':(n:Int)<((ns.length:Nat):Int):=by omega
  first
   | (rw[decide_eq_true q']at h5;exact absurd h5 (by decide))
   | (simp at h5;omega)
 cases hwl with
 | cons w1 w2 =>
  cases w2;cases w1 with
  | list ho hall=>exact⟨_,_,ns,rfl,rfl,ho,z4J ns _ hall,hlen⟩
theorem z9L (l:OpenLaw) (args:List WData):l.row.toRowW.claim.post args (.bool true) args=true :=
 postW_of (r:=l.row.toRowW) (X:=(true==true))
  (show WShape.has [] (.bool true) .bool=true by first|rfl|decide|simp[WShape.has,WShape.arms,WShape.armsAll])
  (show (WTm.eq .res (.lit (.bool true))).value [] { args:=args,res:=some (.bool true),after:=args }=some (.bool (true==true)) from w_eq_bool (w_res rfl) w_lit) rfl
theorem attach_call {l:OpenLaw}{n:Nat}{q:K1d}{loose:List Str}{XP:(Str->Option Value)->Heap->Prop}{YP:World->Heap->Prop}{d:DefRec}
 (hn:l.most=some n) (hdf:d.params.defaults=[])
 (call:∀(w:World) (s₀ s₁:Shared) (mg mb:Str->Option Value) (fa:Addr) (o:Obj) (pm cd doc:Value) (a:Addr) (vs:List Value) (ns:List Int),
  Ground q loose [] XP w s₀ mg mb s₁.heap->YP w s₁.heap ->
  s₁.heap.get? fa=some o->o.data=.func (docDef d.name d.params d.body d.scope pm cd doc)->s₁.heap.CodeRec cd d.name->mg d.name=.(r fa) ->
  s₁.heap.get? a=some { cls:=.type "list",data:=.seq vs.toArray }->K86 vs ns->ns.length<=n->s₁.gens = #[] ->
  K4w (model l.prog w) K8v (.call (.ref fa) ⟨[.ref a],[]⟩) (λr s'=>r=.ok (.ret (.bool true))/\OldK s₁.heap s'.heap/\s'.os=s₁.os/\K7c s'.gens) s₁) :
 WalkO q loose XP YP l.row.toRowW d [] (λf vs=>Z2y f vs):=by
 intro w s₀ s₁ mg mb G Y fa o pm cd doc dV kV ho hd hcd hD hmg hg args vals as hpre hlay hrd hwl hlo;obtain rfl:dV=.none:=Dflts.none hD hdf;obtain rfl:kV=.none:=Dflts.noKw hD;obtain⟨a,vs,ns,rfl,rfl,hobj,hints,hlen⟩:=z9K hn hpre hwl;refine enter_call (K3v (call w s₀ s₁ mg mb fa o pm cd doc a vs ns G Y ho (fd_plain hd) hcd hmg hobj hints hlen hg) λr s' hq=>?_);obtain⟨rfl,h2,h3,h4⟩:=hq;exact⟨.inl ⟨.bool true,.bool true,[],rfl,λ_=>rfl,.bool true,z9L l _,λ_=>⟨Z1r,λ_ hm=>(nomatch hm)⟩⟩,h2,h3,h4⟩
end Att
namespace L2
variable{P prog:K1d}{w:World}{K:K5}{mg:Str->Option Value}{CX:World->CXT}{a f it:Addr}{fd:K5j}{x qual:Str}{sp:World->Sp}{vs:List (Key×Value)}{h h':Heap}{loose ps N':List Str}{XP:(Str->Option Value)->Heap->Prop}{YP:World->Heap->Prop}{X:Cx}{st:Stmt}{osl:Array (Option Value)}{A:Around}{o:Option V}{u acc:Value}{y:V}{H H':Hp}{kvs:List (List Key×V)}{xs:List (List Key×Addr×Value)}{pins pins':List (Addr×Obj)}{σ:St}{s s2:Shared}{E Q xe:Value->Shared->Prop}{env:Env}{value elt tg iter tg1 iter1:Expr}{pos:Pos}{cap:List (Option Nat)}{fp:List Addr}{ifs ifs1:List Expr}{tn:Nat->Heap->Prop}{R:Result->Shared->Prop}{bd:Addr->Env->Sem Unit}{RR:Value->Addr->Result->Shared->Prop}
theorem z4r:∀{vs:List Value}{ns:List Int},K86 vs ns->Vals (ns.map V.int) vs
 | _,_,.nil=>.nil
 | _,_,.cons n t h=>.cons ⟨t,rfl⟩ (z4r h)
def Only (H:Hp):Prop:=∀b,H b=none\/∃o xs,H b=some (.frz o (.lst xs))
theorem zo9 {P:K1d}{w:World}{K:K5}{mg mb:Str->Option Value}{CX:CXT}{k:Nat}{fa a:Addr}{fd:K5j}{x:Str}{sp:Sp}{s₁:Shared}{vs:List Value}{ns:List Int}
 (KX:K.In s₁.heap) (hns:s₁.heap.Ns K2m mg) (hb:s₁.heap.Ns builtinsNs mb) (hbb:∀x:Str,x≠"__name__"->mb x=K5n x) (hlim:s₁.heap.NoLimit) (hg:s₁.gens = #[])
 (ha:s₁.heap.get? a=some { cls:=.type "list",data:=.seq vs.toArray }) (hi:K86 vs ns) (hl:ns.length<=sizeLine) (hr:Room k K8v)
 (F:∀base:Heap,K.In base->base.Ns K2m mg->FnOk P w K mg base CX k fa fd [x] sp) (hbind:∀(s:Shared) (u:Value),K8w s fd ⟨[u],[]⟩ [(x,u)])
 (hsp:∀H:Hp,Only H->SqL K H a (ns.map V.int)->sp [.ref a] H (λv _=>v=.bl true) λ_ _ _=>False)
 (hCX:∀H e s',CX [] H s₁ (λ_ _ _=>False) e s'->False) :
 K4w (model P w) K8v (.call (.ref fa) ⟨[.ref a],[]⟩) (λr s'=>r=.ok (.ret (.bool true))/\OldK s₁.heap s'.heap/\s'.os=s₁.os/\K7c s'.gens) s₁:=by
 have rv:=z4r hi;have lenV:=hi.length;have core:∀H:Hp,Only H->SqL K H a (ns.map V.int)->HOk P w H s₁.heap->(∀b,H b≠none->b=a)->(H a≠none->K.lookup a=none) ->
  K4w (model P w) K8v (.call (.ref fa) ⟨[.ref a],[]⟩) (λr s'=>r=.ok (.ret (.bool true))/\OldK s₁.heap s'.heap/\s'.os=s₁.os/\K7c s'.gens) s₁:=by
  intro H hO hS hok hA hK;have base_of:∀{b:Addr} {o:Obj},s₁.heap.get? b=some o->H b=none->(hidT s₁.heap H).get? b=some o:=λe n=>zo1 e n;have noA:∀{b:Addr} {o:Obj} {es:Array DictEntry} {ep:Nat},s₁.heap.get? b=some o->o.data=.dict es ep->H b=none:=λ{b o es ep} e d=>by
   cases q:H b with
   | none=>rfl
   | some u =>
    have e':b=a:=hA b (by rw[q];simp);subst e';rw[ha]at e;cases e;have d':Z2x vs.toArray _=Data.dict es ep:=d;cases d'
  have nsK:∀{b:Addr} {m:Str->Option Value},s₁.heap.Ns b m->(hidT s₁.heap H).Ns b m:=λ{b m} ⟨o,es,ep,e,d,r⟩=>⟨o,es,ep,base_of e (noA e d),d,r⟩;have hKb:K.In (hidT s₁.heap H):=λb o e=>base_of (KX b o e) (by
   cases q:H b with
   | none=>rfl
   | some u =>
    have e':b=a:=hA b (by rw[q];simp);subst e';rw[hK (by rw[q];simp)]at e;cases e)
  have hM:Mod K mg (hidT s₁.heap H):=⟨hKb,nsK hns,⟨mb,nsK hb,hbb⟩,let ⟨mc,h1,h2⟩:=hlim;⟨mc,nsK h1,h2⟩⟩;have e0:Env0 P w K mg (hidT s₁.heap H) K8v [] s₁ H:=⟨rfl,hM,λb o e=>zE8 e,K4v (za6 _ _),trivial,λb hb=>absurd (show b∈([]:List Addr) from hb) .(f),hok,.of_eq hg⟩;refine K3v ((F _ hKb (nsK hns)).run K8v [] s₁ H ⟨[.ref a],[]⟩ [.ref a] [.ref a] _ _ hr e0 (hbind s₁ (.ref a)) (.cons rfl .nil) (hsp H hO hS)) λr s' h=>?_;cases r with
  | error e=>exact(hCX H e s' h).elim
  | ok fl =>
   cases fl with
   | next=>exact K3e h
   | brk=>exact K3e h
   | cont=>exact K3e h
   | ret u =>
    obtain⟨v,H',os,bare,un,hok',r',q⟩:=h;have q':v=.bl true:=q;subst q';obtain rfl:u=Z19 true:=r';refine⟨rfl,OldK.of_keep λb o e=>?_,os,bare⟩;cases q:H b with
    | none=>exact un.keep b o e q (by intro z;exact absurd (show b∈([]:List Addr) from z) .(f)) .(f)
    | some u =>
     rcases hO b with z|⟨ob,xs,z⟩
     ·rw[q]at z;cases z
     ·have z2:=un.frzs b ob _ z;obtain⟨e1,_⟩:=hok b _ z;obtain⟨e2,_⟩:=hok' b _ z2;rw[e]at e1;cases e1;exact e2
 cases hk:K.lookup a with
 | some o =>
  have e:=KX a o hk;rw[ha]at e;cases e;refine core (λ_=>none) (λ_=>.inl rfl) (.inr ⟨_,vs.toArray,_,hk,rfl,rfl,rfl,by rw[K0a,lenV];exact hl,by simpa using rv⟩) (λb u z=>by have z':(none:Option HO)=some u:=z;cases z') (λb z=>absurd rfl z) λz=>absurd rfl z
 | none =>
  refine core (λb=>if b=a then some (.frz { cls:=.type "list",data:=.seq vs.toArray } (.lst (ns.map V.int))) else none) (λb=>?_) (.inl (.inr ⟨{ cls:=.type "list",data:=.seq vs.toArray },if_pos rfl⟩)) (λb u z=>?_) (λb z=>?_) λ_=>hk
  ·by_cases hb:b=a
   ·exact .inr ⟨_,_,if_pos hb⟩
   ·exact .inl (if_neg hb)
  ·by_cases hb:b=a
   ·have z':=(if_pos hb).symm.trans z;cases z';subst hb;exact⟨ha,by rw[K0d];exact hl,vs,_,rv,ha⟩
   ·have z':=(if_neg hb).symm.trans z;cases z'
  ·by_cases hb:b=a
   ·exact hb
   ·exact absurd (if_neg hb) z
abbrev KOf (_:K.In h):K5:=K
theorem walk_of {l:Z2p}{n k:Nat}{q:K1d}{loose:List Str}{XP:(Str->Option Value)->Heap->Prop}{YP:World->Heap->Prop}{d:DefRec}{K:Params->K5}{CX:World->CXT}{sp:World->Sp}{x:Str}
 (hn:l.most=some n) (hn2:n<=sizeLine) (hdf:d.params.defaults=[]) (hr:Room k K8v)
 (hY:∀(w:World) (h:Heap),YP w h->(K w.params).In h)
 (F:∀(w:World) (mg:Str->Option Value) (fa:Addr) (h:Heap),(K w.params).In h->h.Ns K2m mg->mg d.name=.(r fa) ->
  ∃fd:K5j,(∀(s:Shared) (u:Value),K8w s fd ⟨[u],[]⟩ [(x,u)]) /\
   ∀base:Heap,(K w.params).In base->base.Ns K2m mg->FnOk l.prog w (K w.params) mg base (CX w) k fa fd [x] (sp w))
 (hsp:∀(w:World) (H:Hp) (a:Addr) (ns:List Int),ns.length<=n->Only H->SqL (K w.params) H a (ns.map V.int)->sp w [.ref a] H (λv _=>v=.bl true) λ_ _ _=>False)
 (hCX:∀(w:World) (H:Hp) (s:Shared) (e:Value) (s':Shared),CX w [] H s (λ_ _ _=>False) e s'->False) :
 Z34 q loose XP YP l.row.toRowW d [] (λf vs=>Z2y f vs):=by
 refine Att.attach_call hn hdf λw s₀ s₁ mg mb fa o pm cd doc a vs ns G Y ho hd hcd hmg hobj hints hlen hg=>?_;have KX:=hY w _ Y;obtain⟨fd,hb,hF⟩:=F w mg fa _ KX G.T.g hmg;exact zo9 KX G.T.g G.T.b G.T.builtins G.T.nolimit hg hobj hints (K0q hlen hn2) hr hF hb (λH hO hS=>hsp w H a ns hlen hO hS) λH e s'=>hCX w H s₁ e s'
def inClass (s:Stmt) (j:Nat):Stmt:=match s with
 | .ClassDef _ _ _ body _ _ _ _ _ _ _=>body.getD j (.Pass ⟨0,0,0,0⟩)
 | _=>.Pass ⟨0,0,0,0⟩
def z0O (s:Stmt):Arguments:=match s with
 | .FunctionDef _ a _ _ _ _ _ _ _ _=>a
 | _=>{ posonlyargs:=[],args:=[],vararg:=none,kwonlyargs:=[],kw_defaults:=[],kwarg:=none,defaults:=[] }
def Y9 (s:Stmt):List Stmt:=match s with
 | .FunctionDef _ _ b _ _ _ _ _ _ _=>b
 | _=>[]
def Z8 (s:Stmt):Scope:=match s with
 | .FunctionDef _ _ _ _ _ _ sc _ _ _=>sc
 | _=>{ kind:=.function,names:=[],isGenerator:=false,isCoroutine:=false }
abbrev CX0:CXT:=λ_ _ _ _ _ _=>False
abbrev E0:XK:=λ_ _ _=>False
theorem zK9:z6M CX0 X E0:=λ_ _ _ _ _ _ _ h=>h.elim
structure Fun (K:K5) (x qual:Str) (st:Stmt) (f:Addr) (fd:K5j):Prop where
 ex:∃(oc:Value) (od:Option Addr) (kV doc pm:Value) (an:Option Addr) (cdv ct:Value) (osl:Array (Option Value)),
  fd=K2g x qual (z0O st) (Y9 st) (Z8 st) .none kV doc pm an cdv ct/\K.lookup f=some ⟨oc,od,.func fd,osl⟩/\K2k K cdv qual=true
 kp:K24 K (.ref f)=true
section
variable {base:Heap}
theorem Fun.ok {N:List Str}{k:Nat}{sp:Sp}(F:Fun K x qual st f fd) (S:FnScope N ps (Z8 st)) (len:∀vs H Q E,sp vs H Q E->vs.length=ps.length)
 (hbody:∀(cdv:Value) (A:Around) (outer:List Env) (s:Shared) (H:Hp) (vs:List V) (Q:VK) (E:XK),Room k (A.deeper (envOfC qual (Z8 st) .(2) f cdv))->sp vs H Q E ->
  ∃t,PSs (cxOf CX0 P w K mg base N qual (Z8 st) f cdv A outer s H E).nox (Y9 st) t/\t { nx:=λ_ H'=>Q .non H',rt:=Q } (start N vs) H):FnOk P w K mg base CX0 (k+1) f fd ps sp:=by
 obtain⟨oc,od,kV,doc,pm,an,cdv,ct,osl,rfl,lk,hcd⟩:=F.ex;refine zn2 lk hcd S len λA outer s H vs Q E hr hsp=>?_;obtain⟨t,h,q⟩:=hbody cdv A outer s H vs Q E hr hsp;exact⟨t,h.nox,q⟩
theorem Fun.binds {ps:List Str}(F:Fun K x qual st f fd)
 (h:∀(kV doc pm:Value) (an:Option Addr) (cdv ct:Value) (us:List Value),us.length=ps.length->Z1z (K2g x qual (z0O st) (Y9 st) (Z8 st) .none kV doc pm an cdv ct) ⟨us,[]⟩=pure (ps.zip us)):Binds K fd ps []:=by
 obtain⟨oc,od,kV,doc,pm,an,cdv,ct,osl,rfl,lk,hcd⟩:=F.ex;exact .all (h kV doc pm an cdv ct)
theorem zu9 {oc:Value}{od an:Option Addr}{kV doc pm cdv ct:Value}(l:K.lookup f=some ⟨oc,od,.func (K2g x qual (z0O st) (Y9 st) (Z8 st) .none kV doc pm an cdv ct),osl⟩)
 (c:K2k K cdv qual=true) (k:K24 K (.ref f)=true):Fun K x qual st f (K2g x qual (z0O st) (Y9 st) (Z8 st) .none kV doc pm an cdv ct):=⟨⟨oc,od,kV,doc,pm,an,cdv,ct,osl,rfl,l,c⟩,k⟩
end
theorem z1U {k:Nat}(hr:Room k A):A.units+1<cLine:=K7l (Z12 (by decide:1<=64) _) hr.units
section
variable {κ:Type} [DecidableEq κ]
def valV (kvs:List (κ×V)) (k:κ):Option V:=(kvs.find? λkv=>decide (kv.1=k)).map (·.2)
def putK (kvs:List (κ×V)) (k:κ) (v:V):List (κ×V) :=
 if (kvs.any λkv=>decide (kv.1=k))=true then kvs.map (λkv=>if kv.1=k then (kv.1,v) else kv) else kvs++[(k,v)]
theorem z47 {p:κ×V}{r:List (κ×V)}{k:κ}(e:p.1=k):valV (p::r) k=some p.2:=by simp[valV,K2y,e]
theorem z4g {p:κ×V}{r:List (κ×V)}{k:κ}(e:¬ p.1=k):valV (p::r) k=valV r k:=by simp[valV,K2y,e]
theorem z8o (k:κ):∀kvs:List (κ×V),(kvs.any λkv=>decide (kv.1=k))=(valV kvs k).isSome
 | []=>rfl
 | p::r=>by
  rw[K2n];by_cases e:p.1=k
  ·simp only[z47 e,decide_eq_true e,Bool.true_or,Option.isSome_some]
  ·rw[z4g e,.(m) e,Bool.false_or];exact z8o k r
theorem z34 (kvs:List (κ×V)) (k:κ) (v:V):(putK kvs k v).length<=kvs.length+1:=by
 unfold putK;split
 ·rw[K0d];omega
 ·rw[K3,K01,K0b];omega
theorem RelO.isSome_eq {u:Option Value}(r:RelO o u):o.isSome=u.isSome:=by
 cases o with
 | none=>cases u with
  | none=>rfl
  | some _=>exact(show False from r).elim
 | some _=>cases u with
  | none=>exact(show False from r).elim
  | some _=>rfl
theorem KV.val {kvs:List (κ×V)}{vs:List (κ×Value)}(r:KV kvs vs) (k:κ):RelO (valV kvs k) (K9u vs k):=by
 unfold KV at r;induction r with
 | nil=>exact K42
 | @cons p q ps qs h t ih =>
  obtain⟨h1,h2⟩:=h;by_cases e:p.1=k
  ·have e':q.1=k:=h1.symm.trans e;have b:K9u (q::qs) k=some q.2:=by simp[K9u,K2y,e']
   rw[z47 e,b];exact h2
  ·have e':¬ q.1=k:=λz=>e (h1.trans z);have b:K9u (q::qs) k=K9u qs k:=by simp[K9u,K2y,e']
   rw[z4g e,b];exact ih
theorem KV.any {kvs:List (κ×V)}{vs:List (κ×Value)}(r:KV kvs vs) (k:κ):(kvs.any λkv=>decide (kv.1=k))=vs.any λkv=>decide (kv.1=k):=by
 unfold KV at r;induction r with
 | nil=>rfl
 | cons h t ih=>rw[K2n,K2n,ih,h.1]
theorem KV.repl {kvs:List (κ×V)}{vs:List (κ×Value)}(r:KV kvs vs) (k:κ) (ry:RelV y u):
 KV (kvs.map λkv=>if kv.1=k then (kv.1,y) else kv) (vs.map λkv=>if kv.1=k then (kv.1,u) else kv):=by
 unfold KV at r ⊢;induction r with
 | nil=>exact .nil
 | @cons p q ps qs h t ih =>
  rw[K0v,K0v];refine .cons ?_ ih;obtain⟨h1,h2⟩:=h;by_cases e:p.1=k
  ·rw[if_pos e,if_pos (h1.symm.trans e)];exact⟨h1,ry⟩
  ·rw[if_neg e,if_neg (λz=>e (h1.trans z))];exact⟨h1,h2⟩
theorem KV.put {kvs:List (κ×V)}{vs:List (κ×Value)}(r:KV kvs vs) (k:κ) (ry:RelV y u):KV (putK kvs k y) (stored vs k u):=by
 unfold putK stored;rw[r.any k];by_cases e:(vs.any λkv=>decide (kv.1=k))=true
 ·rw[if_pos e,if_pos e];exact r.repl k ry
 ·rw[if_neg e,if_neg e];exact Paired.snoc r ⟨rfl,ry⟩
theorem KV.length {kvs:List (κ×V)}{vs:List (κ×Value)}(r:KV kvs vs):kvs.length=vs.length:=K3h r
end
theorem z9p {k:Key}(r:RelV (kV k) u):(y9 P w).is k u=true:=by
 cases k with
 | inl i=>obtain⟨t,e⟩:=(show ∃t,u=K9p i t from r);subst e;exact z7A P w i t
 | inr x=>obtain⟨t,e⟩:=(show ∃t,u=Z2a x t from r);subst e;exact z7S P w x t
theorem z76 {P:K1d}{w:World}:∀{ks:List Key}{us:List Value},Vals (ks.map kV) us->ItemsAre (y9 P w) ks us
 | [],_,r=>by rw[K2a]at r;cases r;exact .nil
 | k::ks,_,r=>by
  rw[K0v]at r;cases r with
  | cons h t=>exact .cons (z9p h) (z76 t)
abbrev KT (H:Hp):List (List Key×V)->List (List Key×Addr×Value)->Prop:=Paired λp q=>p.1=q.1/\H q.2.1=.(g (p.1.map kV))/\RelV p.2 q.2.2
theorem KT.val (r:KT H kvs xs) (k:List Key):RelO (valV kvs k) ((atKey xs k).map (·.2)):=by
 induction r with
 | nil=>exact K42
 | @cons p q ps qs h t ih =>
  obtain⟨h1,_,h2⟩:=h;by_cases e:p.1=k
  ·have e':q.1=k:=h1.symm.trans e;have b:atKey (q::qs) k=some q.2:=by simp[atKey,K2y,e']
   rw[z47 e,b];exact h2
  ·have e':¬ q.1=k:=λz=>e (h1.trans z);have b:atKey (q::qs) k=atKey qs k:=by simp[atKey,K2y,e']
   rw[z4g e,b];exact ih
theorem KT.repl (r:KT H kvs xs) (k:List Key) (ry:RelV y u):
 KT H (kvs.map λkv=>if kv.1=k then (kv.1,y) else kv) (xs.map (putAt k u)):=by
 induction r with
 | nil=>exact .nil
 | @cons p q ps qs h t ih =>
  rw[K0v,K0v];refine .cons ?_ ih;obtain⟨h1,h2,h3⟩:=h;unfold putAt;by_cases e:p.1=k
  ·rw[if_pos e,if_pos (h1.symm.trans e)];exact⟨h1,h2,ry⟩
  ·rw[if_neg e,if_neg (λz=>e (h1.trans z))];exact⟨h1,h2,h3⟩
theorem KT.put (r:KT H kvs xs) (k:List Key){b:Addr}(hb:H b=.(g (k.map kV))) (ry:RelV y u):
 KT H (putK kvs k y) (storedH xs k b u):=by
 have e:(kvs.any λkv=>decide (kv.1=k))=(atKey xs k).isSome:=by
  rw[z8o,(r.val k).isSome_eq,K6d]
 unfold putK storedH;rw[e];by_cases q:(atKey xs k).isSome=true
 ·rw[if_pos q,if_pos q];exact r.repl k ry
 ·rw[if_neg q,if_neg q];exact Paired.snoc r ⟨rfl,hb,ry⟩
theorem KT.keeps (r:KT H kvs xs) (ht:∀b ys,H b=.(g ys)->H' b=.(g ys)):KT H' kvs xs :=
 Paired.mapP r λ_ _ z=>⟨z.1,ht _ _ z.2.1,z.2.2⟩
theorem zP1 {u:HO}(ok:HOk P w H h) (e:Rd H a u):ObjOk P w H h a u:=e.ok ok
theorem z9f {kvs:List (Key×V)}(ok:HOk P w H h) (e:Rd H a (.dK kvs)):kvs.length<=sizeLine/\(a==K45)=false/\∃vs,KV kvs vs/\h.DictOf (y9 P w) a vs :=
 show ObjOk P w H h a (.dK kvs) from zP1 ok e
theorem ze1 {kvs:List (Key×V)}(ok:HOk P w H h) (e:H a=some (.dK kvs)):kvs.length<=sizeLine/\(a==K45)=false/\∃vs,KV kvs vs/\h.DictOf (y9 P w) a vs:=z9f ok (.inl e)
theorem z6Y {ks:List Key}(ok:HOk P w H h) (e:H a=.(g (ks.map kV))):(K9w (y9 P w)).is h ks a:=by
 obtain⟨_,its,r,o,h1,h2,n,h3⟩:=(show ObjOk P w H h a (.tup (ks.map kV)) from ok a _ e);exact⟨o,its.toArray,n,h1,h2.1,h3,by simpa using z76 r⟩
theorem ze4 (ok:HOk P w H h) (e:Rd H a (.dT kvs)):kvs.length<=sizeLine/\(a==K45)=false /\
 ∃xs,KT H kvs xs/\h.DictOfH (K9w (y9 P w)) a xs:=by
 obtain⟨z,y,xs,r,o,es,ep,h1,h2,h3,h4,h5⟩:=(show ObjOk P w H h a (.dT kvs) from zP1 ok e);refine⟨z,y,xs,r,o,es,ep,h1,h2,h3,h4,λx hx=>?_,h5⟩;have all:∀{l:List (List Key×V)} {m:List (List Key×Addr×Value)},KT H l m->∀x∈m,(K9w (y9 P w)).is h x.1 x.2.1:=by
  intro l m q;induction q with
  | nil=>intro x hx;exact nomatch hx
  | @cons p q ps qs hq t ih =>
   intro x hx;rcases K0y.mp hx with e|hx
   ·subst e;exact z6Y ok (by rw[<- hq.1];exact hq.2.1)
   ·exact ih x hx
 exact all r x hx
theorem Z01 (ok:HOk P w H h) (e:H a=some (.dT kvs)):kvs.length<=sizeLine/\(a==K45)=false /\
 ∃xs,KT H kvs xs/\h.DictOfH (K9w (y9 P w)) a xs:=ze4 ok (.inl e)
def DGet (H:Hp) (a:Addr) (y:V) (r:Option V):Prop :=
 (∃kvs k,Rd H a (.dK kvs)/\y=kV k/\r=valV kvs k)\/∃kvs k b,Rd H a (.dT kvs)/\y=.ref b/\H b=.(g (k.map kV))/\r=valV kvs k
def DPut (H:Hp) (a:Addr) (y v:V) (H':Hp):Prop :=
 (∃kvs k,H a=some (.dK kvs)/\y=kV k/\kvs.length<sizeLine/\H'=upd H a (.dK (putK kvs k v))) \/
 ∃kvs k b,H a=some (.dT kvs)/\y=.ref b/\H b=.(g (k.map kV))/\kvs.length<sizeLine/\H'=upd H a (.dT (putK kvs k v))
theorem DPut.k {H:Hp}{a:Addr}{kvs:List (Key×V)}{k:Key}{v:V}(e:H a=some (.dK kvs)) (hl:kvs.length<sizeLine):DPut H a (kV k) v (upd H a (.dK (putK kvs k v))):=.inl ⟨kvs,k,e,rfl,hl,rfl⟩
section
variable {v:V}{r:Value}
theorem Inv.big (I:Inv X pins σ H s):K45<s.heap.objs.size:=by
 have h:K2m<s.heap.objs.size:=(I.mod.glob.keeps I.bk).lt;exact Z1u (by decide) h
theorem z6G (hu:A.units+1<cLine) (I:Inv X pins σ H s) (g:DGet H a y (some v)) (ry:RelV y u) (h:∀w' s',Inv X pins σ H s'->RelV v w'->Q w' s'):
 wpAny .(4) A (Z1y (.ref a) u) Q E s:=by
 rcases g with ⟨kvs,k,e,ey,l⟩|⟨kvs,k,b,e,ey,eb,l⟩
 ·subst ey;obtain⟨z,hd,vs,rel,dd⟩:=z9f I.hok e;obtain⟨w',hw,rw'⟩:=RelO.some_of (v:=v) (o:=K9u vs k) (by rw[l];exact rel.val k);exact wpAny_getItem_of (z9p ry) dd.mapOf hw (h w' _ (I.tok _) rw')
 ·subst ey;cases (show u=K20 b from ry);obtain⟨z,hd,xs,rel,dd⟩:=ze4 I.hok e;obtain⟨w',hw,rw'⟩:=RelO.some_of (v:=v) (o:=(atKey xs k).map (·.2)) (by rw[l];exact rel.val k);obtain⟨p,hp,hp2⟩:=K16.mp hw;refine wpAny_getItem_heap (K60 hu) (z6Y I.hok eb) dd hp ?_;rw[hp2];exact h w' _ (I.tok _) rw'
theorem d_in (hu:A.units+1<cLine) (I:Inv X pins σ H s) (g:DGet H a y o) (ry:RelV y u) (h:∀s',Inv X pins σ H s'->Q (.bool o.isSome) s'):
 wpAny .(4) A (K2f .In u (.ref a)) Q E s:=by
 rcases g with ⟨kvs,k,e,ey,l⟩|⟨kvs,k,b,e,ey,eb,l⟩
 ·subst ey;obtain⟨z,hd,vs,rel,dd⟩:=z9f I.hok e;refine wpAny_in_of (z9p ry) hd dd.mapOf ?_;rw[<- (rel.val k).isSome_eq,<- l];exact h _ (I.tok _)
 ·subst ey;cases (show u=K20 b from ry);obtain⟨z,hd,xs,rel,dd⟩:=ze4 I.hok e;refine wpAny_in_heap (K60 hu) (z6Y I.hok eb) hd dd ?_;have q:=(rel.val k).isSome_eq;rw[K6d]at q;rw[<- q,<- l];exact h _ (I.tok _)
theorem zE9 (hu:A.units+1<cLine) (I:Inv X pins σ H s) (g:DGet H a y o) (ry:RelV y u) (h:∀s',Inv X pins σ H s'->Q (.bool (!o.isSome)) s'):
 wpAny .(4) A (K2f .NotIn u (.ref a)) Q E s:=by
 rcases g with ⟨kvs,k,e,ey,l⟩|⟨kvs,k,b,e,ey,eb,l⟩
 ·subst ey;obtain⟨z,hd,vs,rel,dd⟩:=z9f I.hok e;refine wpAny_notIn_of (z9p ry) hd dd.mapOf ?_;rw[<- (rel.val k).isSome_eq,<- l];exact h _ (I.tok _)
 ·subst ey;cases (show u=K20 b from ry);obtain⟨z,hd,xs,rel,dd⟩:=ze4 I.hok e;refine wpAny_notIn_heap (K60 hu) (z6Y I.hok eb) hd dd ?_;have q:=(rel.val k).isSome_eq;rw[K6d]at q;rw[<- q,<- l];exact h _ (I.tok _)
theorem z65 {t':Nat}{ob:HO}(I:Inv X pins σ H s) (mu:Mut (H a)) (hs:K2b a s.heap h') (he:∃q,h'.get? a=some q) (new:ObjOk X.prog X.w (upd H a ob) h' a ob):
 Inv X pins σ (upd H a ob) { s with heap:=h',toks:=t' } :=
 I.write (x:=a) (e:=a) mu (.inl rfl) (λb q hb z=>(hs.2 b hb).trans z) he new
theorem zw4 {H':Hp}{kvs:List (Key×V)}(z:kvs.length<=sizeLine) (hd:(a==K45)=false) (rel:KV kvs vs) (dd:h'.DictOf (y9 P w) a vs):
 ObjOk P w H' h' a (.dK kvs):=⟨z,hd,vs,rel,dd⟩
theorem z9T {Q:Unit->Shared->Prop}(hu:A.units+1<cLine) (I:Inv X pins σ H s) (g:DPut H a y v H') (ry:RelV y u) (rv:RelV v r) (h:∀s',Inv X pins σ H' s'->Q () s'):
 wpAny .(4) A (K9v (.ref a) u r) Q E s:=by
 rcases g with ⟨kvs,k,e,ey,l,eH⟩|⟨kvs,k,b,e,ey,eb,l,eH⟩
 ·subst ey eH;obtain⟨z,hd,vs,rel,dd⟩:=ze1 I.hok e;have hz:vs.length<=sizeLine:=by rw[<- rel.length];exact z
  have hl:(putK kvs k v).length<=sizeLine:=by have:=z34 kvs k v;omega
  refine wpAny_setItem_pairs (hsz:=hz) (z9p ry) dd λh' dd' hs=>h _ ?_;have he:∃q,h'.get? a=some q:=let ⟨q,_,_,hq,_⟩:=dd';⟨q,hq⟩;exact z65 I (by rw[e];exact K42) hs he (zw4 hl hd (rel.put k rv) dd')
 ·subst ey eH;cases (show u=K20 b from ry);obtain⟨z,hd,xs,rel,dd⟩:=Z01 I.hok e;have hz:xs.length<=sizeLine:=by rw[<- K3h rel];exact z
  have hl:(putK kvs k v).length<=sizeLine:=by have:=z34 kvs k v;omega
  refine wpAny_setItem_heap (hsz:=hz) (K60 hu) (z6Y I.hok eb) dd λh' dd' hs=>h _ ?_;obtain⟨q,es,ep,hq,h2,h3,h4,_,h5⟩:=dd';refine z65 I (by rw[e];exact K42) hs ⟨q,hq⟩ ⟨hl,hd,_,(rel.put k eb rv).keeps λc ys ec=>?_,q,es,ep,hq,h2,h3,h4,h5⟩;rw[J5 (Z0a ec e (λz=>nomatch z))];exact ec
end
section
variable {kvs:List (Key×V)}{k:Key}
theorem zZ5 (I:Inv X pins σ H s) (e:Rd H a (.dK kvs)) (h:∀t s',Inv X pins σ H s'->Q (.int kvs.length t) s'):wpAny .(4) A (call (.builtin "len") [.ref a]) Q E s:=by
 obtain⟨z,hd,vs,rel,dd⟩:=z9f I.hok e;refine call_len_dict hd dd (by rw[<- rel.length];rw[K9l]at z;omega) ?_;rw[<- rel.length];exact h _ _ (I.tok _)
end
def NoSl (i:Expr):Prop:=∀ov iv,K9k i false ov iv=operate [ov,iv] (Z1y ov iv)
theorem zL3 {prog:K1d}{w:World}{A:Around}{E:Value->Shared->Prop}{s:Shared}{env:Env}{value slice:Expr}{pos:Pos}{T id:String}{Q:Value->Shared->Prop}
 (hl:typeLookup (.type T) "__getitem__" = pure (some (.builtin id))) (hs:NoSl slice)
 (h:wpAny (model prog w) A (eval value env) (λo s₁=>wpAny (model prog w) A (eval slice env) (λi s₂=>s₂.TypeIs o T/\wpAny (model prog w) A (Z1y o i) Q E s₂) E s₁) E s) :
 wpAny (model prog w) A (eval (.Subscript value slice pos) env) Q E s:=by
 refine Subscript_ (K44 h (λo s₁ h₁=>K44 h₁ (λi s₂ h₂=>?_) λ_ _ x=>x) λ_ _ x=>x);obtain⟨hT,h₂⟩:=h₂;unfold subscriptTail;refine K2 ?_;rw[getitemInPython_of_ne hT.not_modules];refine K2 (wpAny_specialOf hT hl ?_);have fin:wpAny (model prog w) A (K9k slice false o i) (λr s₃=>wpAny (model prog w) A (letTemporaryGo value o r >>= λ_=>pure r) Q E s₃) E s₂:=by
  rw[hs o i];exact wpAny_operating (K44 h₂ (λr s₃ h₃=>K2 (wpAny_letTemporaryGo (K6 h₃))) λ_ _ x=>x)
 first
  | exact K6 (K2 fin)
  | exact K2 (K6 (K2 fin))
  | exact K2 fin
theorem z7z (I:Inv X pins σ H s) (g:DGet H a y o):s.TypeIs (.ref a) "dict":=by
 rcases g with ⟨kvs,k,e,_,_⟩|⟨kvs,k,b,e,_,_,_⟩
 ·obtain⟨_,_,vs,_,dd⟩:=z9f I.hok e;exact dd.typeIs
 ·obtain⟨_,_,xs,_,dd⟩:=ze4 I.hok e;exact dd.typeIs
def Z0K (td ty:TE):TE:=λσ H Q=>td σ H λx H1=>ty σ H1 λy H2=>∃a v,x=.ref a/\DGet H2 a y (some v)/\Q v H2
section
variable {o i e:Expr}{pos' tpos:Pos}{td ty tv:TE}
theorem zC2 (hu:X.A.units+1<cLine) (ho:PE X o td) (hi:PE X i ty) (hs:NoSl i):PE X (.Subscript o i pos) (Z0K td ty):=by
 intro pins s σ H Q I h;refine zL3 PySem.F.slot_dict_getitem.lookup hs (thn (ho pins s σ H _ I h) λu s1 ⟨x,H1,I1,rx,q1⟩=>thn (hi pins s1 σ H1 _ I1 q1) λiv s2 ⟨y,H2,I2,ry,a,v,ex,g,q2⟩=>?_);subst ex;obtain rfl:u=K20 a:=rx;exact⟨z7z I2 g,z6G hu I2 g ry λw' s3 I3 rw'=>⟨v,H2,I3,rw',q2⟩⟩
end
theorem z8Y (h:Heap) (hb:K45<h.objs.size):ObjOk P w H (h.push { cls:=.type "dict",data:=.dict #[] }) h.objs.size (.dK []) :=
 ⟨K3y _,beq_eq_false_iff_ne.mpr (K4y (K0u hb)),[],.nil,Heap.DictOf.new h⟩
def zN9:TE:=λ_ H Q=>∀p,H p=none->Q (.ref p) (upd H p (.dK []))
theorem zs6:PE X (.Dict [] [] pos) zN9:=λpins s σ H Q I h =>
 wpAny_Dict_empty ⟨.ref .(2),_,I.laid (a:=.(2)) (o:=.dK []) (t':=s.toks) (λ_ _ q=>K8 _ q) (K04 _) (z8Y s.heap I.big),rfl,h _ (I.hok.fresh (K04 _))⟩
abbrev z4K (ifs:List Expr) (env:Env):Sem Bool :=
 forIn ifs true λc r=>if r=true then do { let ok <- isTrue c env (eval c env);pure (K3q ok) } else pure (K3q r)
def z0i (env:Env):List (Str×K6b)->List (Str×Addr)->List (Str×Addr)
 | [],acc=>acc
 | (n,k)::r,acc=>z0i env r (if k==.free then match env.cells.lookup n with|some c=>(n,c)::acc|none=>acc else acc)
theorem z3I {env:Env}:∀(names:List (Str×K6b)) (acc:List (Str×Addr)),(∀x∈names,x.2=.free->∃c,env.cells.lookup x.1=some c) ->
 (forIn names acc λ(x:Str×K6b) (r:List (Str×Addr))=>(if (x.2==K57)=true then do { let c <- cellOf env x.1;pure (K3q ((x.1,c)::r)) } else pure (K3q r):Sem (ForInStep (List (Str×Addr)))))=(pure (z0i env names acc):Sem _)
 | [],acc,_=>by rw[K9i];rfl
 | (n,k)::r,acc,h=>by
  rw[K95];have hr:∀x∈r,x.2=.free->∃c,env.cells.lookup x.1=some c:=λx hx=>h x (K1a _ hx);by_cases hk:k=.free
  ·subst hk;obtain⟨c,hc⟩:=h (n,.free) K1e rfl;have hc':env.cells.lookup n=some c:=hc;simp only[z0i,beq_self_eq_true,if_true,cellOf,hc',pure_bind];exact z3I r _ hr
  ·have hb:(k==K57)=false:=by simpa using hk
   simp only[z0i,hb,K1f,if_false,pure_bind];exact z3I r _ hr
theorem z3f {scope:Scope}(h:∀x∈scope.names,x.2=.free->∃c,env.cells.lookup x.1=some c):
 closureFor scope env=pure (z0i env scope.names []):=by
 unfold closureFor;exact congrArg (λm:Sem (List (Str×Addr))=>m >>= λz=>pure z) (z3I scope.names [] h)
theorem z91 {env:Env}:∀(names:List (Str×K6b)) (acc:List (Str×Addr)) {x:Str}{c:Addr},(z0i env names acc).lookup x=some c ->
 env.cells.lookup x=some c\/acc.lookup x=some c
 | [],acc,x,c,h=>.inr h
 | (n,k)::r,acc,x,c,h=>by
  rcases z91 r _ h with q|q
  ·exact .inl q
  ·by_cases hk:(k==K57)=true
   ·rw[if_pos hk]at q;cases e:env.cells.lookup n with
    | none=>rw[e]at q;exact .inr q
    | some c' =>
     rw[e]at q;simp only[K2q]at q;cases hx:x==n with
     | true =>
      rw[hx]at q;cases q;have:x=n:=by simpa using hx
      subst this;exact .inl e
     | false=>rw[hx]at q;exact .inr q
   ·rw[if_neg hk]at q;exact .inr q
theorem z8I {env:Env}{x:Str}{c:Addr}(hc:env.cells.lookup x=some c):∀(names:List (Str×K6b)) (acc:List (Str×Addr)),
 acc.lookup x=some c->(z0i env names acc).lookup x=some c
 | [],acc,h=>h
 | (n,k)::r,acc,h=>by
  refine z8I hc r _ ?_;by_cases hk:(k==K57)=true
  ·rw[if_pos hk];cases e:env.cells.lookup n with
   | none=>exact h
   | some c' =>
    simp only[K2q];cases hx:x==n with
    | true =>
     have:x=n:=by simpa using hx
     subst this;rw[hc]at e;exact e.symm
    | false=>exact h
  ·rw[if_neg hk];exact h
theorem z7H {env:Env}{x:Str}{c:Addr}(hc:env.cells.lookup x=some c):∀(names:List (Str×K6b)) (acc:List (Str×Addr)),
 (x,K57)∈names->(z0i env names acc).lookup x=some c
 | [],_,h=>absurd h .(f)
 | (n,k)::r,acc,h=>by
  rcases K0y.mp h with e|h
  ·cases e;refine z8I hc r _ ?_;rw[if_pos .(f),hc];simp[K2q]
  ·exact z7H hc r _ h
theorem z2X {sc:Scope}{k:NameKind}(h:(relabel sc env).names.lookup x=some k):
 ∃k0,sc.names.lookup x=some k0/\(k=k0\/(k=.cell/\k0=.free)):=by
 unfold relabel at h;dsimp only at h;generalize sc.names=ns at h ⊢;induction ns with
 | nil=>simp at h
 | cons a r ih =>
  obtain⟨n,k1⟩:=a;simp only[K0v]at h;by_cases hc:(k1==K57&&env.scope.kind==.function&&env.kindOf n==some .cell)=true
  ·rw[if_pos hc]at h;simp only[K2q]at h ⊢;cases hx:x==n with
   | true =>
    rw[hx]at h;cases h;refine⟨k1,rfl,.inr ⟨rfl,?_⟩⟩;simp only[K0k]at hc;simpa using hc.1.1
   | false=>rw[hx]at h;exact ih h
  ·rw[if_neg hc]at h;simp only[K2q]at h ⊢;cases hx:x==n with
   | true=>rw[hx]at h;cases h;exact⟨_,rfl,.inl rfl⟩
   | false=>rw[hx]at h;exact ih h
theorem z7a {sc:Scope}{env:Env}(h:sc.names.lookup x=some .free):
 (relabel sc env).names.lookup x=some .cell\/(relabel sc env).names.lookup x=some .free:=by
 unfold relabel;dsimp only;generalize sc.names=ns at h ⊢;induction ns with
 | nil=>simp at h
 | cons a r ih =>
  obtain⟨n,k1⟩:=a;simp only[K0v];simp only[K2q]at h;by_cases hc:(k1==K57&&env.scope.kind==.function&&env.kindOf n==some .cell)=true
  ·rw[if_pos hc];simp only[K2q];cases hx:x==n with
   | true=>exact .inl rfl
   | false=>rw[hx]at h;exact ih h
  ·rw[if_neg hc];simp only[K2q];cases hx:x==n with
   | true=>rw[hx]at h;exact .inr h
   | false=>rw[hx]at h;exact ih h
structure CS (X:Cx) (sc:Scope) (N':List Str) (cap:List (Option Nat)):Prop where
 kind:sc.kind=.function
 nocell:∀y∈sc.names,y.2≠.cell
 loc:∀x∈sc.names,x.2=.local->sc.names.lookup x.1=some .local
 fr:∀x∈sc.names,x.2=.free->X.env.kindOf x.1=some .cell\/X.env.kindOf x.1=some .free
 len:cap.length=N'.length
 capt:∀(i j:Nat),cap[i]?=some (some j)->∃x,N'[i]?=some x/\X.N[j]?=some x/\sc.names.lookup x=some .free
def z4I (cap:List (Option Nat)) (σ:St):St:=cap.map λo=>match o with|some j=>(σ[j]?).join|none=>none
def Cx.comp (X:Cx) (N':List Str) (sc:Scope) (s:Shared) (H:Hp) (fp:List Addr) (xe:Value->Shared->Prop):Cx :=
 { X with N:=N',s₀:=s,H₀:=H,env:=compEnvC sc (z0i X.env sc.names []) s.heap.objs.size X.env,outer:=X.stack,stack:=X.stack,ex:=fp,fn:=λ_=>false,pn:=[],xe:=xe }
section
variable {sc:Scope}
theorem CS.cells (S:CS X sc N' cap) (I:Inv X pins σ H s):∀x∈sc.names,x.2=.free->∃c,X.env.cells.lookup x.1=some c:=λx hx hf =>
 I.ok.has x.1 (S.fr x hx hf)
theorem Inv.compIn {t:Nat}(I:Inv X pins σ H s) (S:CS X sc N' cap) (hf:∀b∈fp,FpOk X pins H b) (hlt:∀b∈fp,b<s.heap.objs.size)
 (hns:h'.Ns .(2) λ_=>none) (hk:∀b o,s.heap.get? b=some o->h'.get? b=some o) :
 Inv .(8) [] (z4I cap σ) H { s with heap:=h',toks:=t }:=by
 have hfrom:∀{x c},(z0i X.env sc.names []).lookup x=some c->X.env.cells.lookup x=some c:=λ{x c} q=>by
  rcases z91 _ _ q with z|z
  ·exact z
  ·simp at z
 have hlook:∀ {x},((relabel sc X.env).names.lookup x=some .cell\/(relabel sc X.env).names.lookup x=some .free)->sc.names.lookup x=some .free:=fun {x} q=>by
  rcases q with q|q
  ·obtain⟨k0,e,z⟩:=z2X q;rcases z with z|z
   ·subst z;exact absurd rfl (S.nocell _ (K2t e))
   ·rw[e,z.2]
  ·obtain⟨k0,e,z⟩:=z2X q;rcases z with z|z
   ·rw[e,z]
   ·cases z.1
 refine⟨⟨I.ok.mod,?_,I.ok.glob,I.ok.blt,K04 _,λx y c h1 h2=>I.ok.inj x y c (hfrom h1) (hfrom h2),λx hx=>?_,λx c q=>absurd (show false=true from q) (by decide),I.ok.hd,I.ok.frames,.inl rfl,λb hb=>⟨?_,λx c q=>?_⟩,
  I.bs,K0q I.ok.bsz I.sz,λb o e hb=>?_,λb hb hz=>?_,I.stack,I.stkFree⟩,
  rfl,I.bare,Un.kept hk,⟨_,hns,λi x v h1 h2 h3=>?_⟩,λx c q=>?_,I.hok.fresh (K04 _),λx c q=>I.freeC x c (hfrom q),λp hp=>absurd (show p∈([]:List (Addr×Obj)) from hp) .(f),I.hok.kept hk,?_⟩
 ·exact S.kind
 ·have e:=hlook hx;have e2:=K2t e;obtain⟨c,hc⟩:=I.ok.has x (S.fr _ e2 rfl);exact⟨c,z7H hc _ _ e2⟩
 ·exact K0u (hlt b hb)
 ·exact(hf b hb).2.2.2.2.1 x c (hfrom q)
 ·rcases(hf b hb).2.2.2.1 with z|z
  ·exact I.ok.noex b o e z
  ·exact absurd (K0r (K0c e) (K0q I.ok.bsz z)) (K31 _)
 ·rcases K0y.mp (I.stkSub b hz) with z|z
  ·exact(hf b hb).2.1 z
  ·exact(hf b hb).2.2.1 z
 ·have h2':(cap.map λo=>match o with|some j=>(σ[j]?).join|none=>none)[i]?=some (some v):=h2;rw[K0i]at h2';cases e:cap[i]? with
  | none=>rw[e]at h2';cases h2'
  | some o =>
   rw[e]at h2';cases o with
   | none=>simp at h2'
   | some j =>
    have hj:σ[j]?=some (some v):=by
     have h4:(σ[j]?).join=some v:=by simpa using h2'
     cases e2:σ[j]? with
     | none=>rw[e2]at h4;simp at h4
     | some o2=>rw[e2]at h4;simp at h4;rw[h4]
    obtain⟨y,n1,n2,n3⟩:=S.capt i j e;have ey:y=x:=by
     have h1':N'[i]?=some x:=h1;rw[n1]at h1';exact K19 h1'
    subst ey;have hm:=K2t n3;have hkind:=S.fr _ hm rfl;obtain⟨m,hn,hl⟩:=I.loc;have vis:Vis X.env.scope y:=by
     rcases hkind with z|z
     ·exact .inr (.inl z)
     ·exact .inr (.inr z)
    obtain⟨u,r,l⟩:=hl j y v n2 hj vis;refine⟨u,r,.inr ?_⟩;rcases l with ⟨z,_⟩|⟨_,c,hc,hcell⟩
    ·have z':X.env.kindOf y=some .local:=z;rcases hkind with q|q<;>(have q':X.env.kindOf y=_:=q;rw[z']at q';cases q')
    ·obtain⟨o,ho,hd⟩:=hcell;exact⟨z7a n3,c,z7H hc _ _ hm,o,hk c o ho,hd⟩
 ·obtain⟨v,o,ho,hd⟩:=I.cell x c (hfrom q);exact⟨v,o,hk c o ho,hd⟩
 ·show (cap.map _).length=N'.length;rw[K0d];exact S.len
theorem Inv.compOut {pins':List (Addr×Obj)}{σ':St}{H':Hp}{s':Shared}(I:Inv X pins σ H s) (hf:∀b∈fp,FpOk X pins H b)
 (J:Inv .(8) pins' σ' H' s') (hs:K2b .(2) s'.heap h'):Inv X pins σ H' { s' with heap:=h' }:=by
 have hu:Un (frs X.stack) fp H H' s.heap s'.heap:=J.base;have hC:H' .(2)=none:=J.free;have lt:∀{b:Addr} {o:Obj},s.heap.get? b=some o->b≠s.heap.objs.size:=λe=>K0u (K0c e);refine I.call' (s':={ s' with heap:=h' }) (ch:=fp) J.os ⟨λb o e n h1 h2=>?_,λb o e n h1 h2=>?_,hu.free,λb o e h1=>?_,hu.tups,hu.frzs,hu.tbls⟩ (λb u e=>?_) J.bare (λb hb=>⟨(hf b hb).2.2.2.1,(hf b hb).2.1,(hf b hb).2.2.2.2.1,(hf b hb).2.2.2.2.2⟩)
 ·exact(hs.2 b (lt e)).trans (hu.keep b o e n h1 h2)
 ·obtain⟨sl,q⟩:=hu.slot b o e n h1 h2;exact⟨sl,(hs.2 b (lt e)).trans q⟩
 ·obtain⟨o',q⟩:=hu.there b o e h1;exact⟨o',(hs.2 b (lt e)).trans q⟩
 ·refine(J.hok b u e).stay (λc v hc q=>?_) (λ_ q=>q) λ_ _ q=>q;have ne:c≠s.heap.objs.size:=by
   rintro rfl;rcases hc with z|z
   ·rw[<- z,hC]at e;cases e
   ·rw[hC]at z;cases z
  exact(hs.2 c ne).trans q
end
def PTs (X:Cx) (ifs:List Expr) (t:TT):Prop :=
 ∀(pins:List (Addr×Obj)) (s:Shared) (σ:St) (H:Hp) (Q:Bool->Hp->Prop),Inv X pins σ H s->t σ H Q->wpAny .(4) X.A (z4K ifs X.env) (TP X pins σ Q) X.xe s
def zz8:TT:=λ_ H Q=>Q true H
def zQ8 (t r:TT):TT:=λσ H Q=>t σ H λb H1=>if b=true then r σ H1 Q else Q false H1
theorem z6v {X:Cx}{E:Value->Shared->Prop}{Q:Bool->Shared->Prop}:∀{ifs:List Expr}{s:Shared},Q false s ->
 wpAny .(4) X.A (forIn ifs false λc r=>if r=true then do { let ok <- isTrue c X.env (eval c X.env);pure (K3q ok) } else pure (K3q r)) Q E s
 | [],s,h=>by rw[K9i];exact K6 h
 | c::r,s,h=>by
  rw[K95];refine K2 ?_;rw[if_neg (by decide)];exact K6 (z6v h)
theorem za7:PTs X [] zz8:=λpins s σ H Q I h=>by
 unfold z4K;rw[K9i];exact K6 ⟨H,I,h⟩
theorem zp4 {c:Expr}{r:List Expr}{t u:TT}(h1:PT X c t) (h2:PTs X r u):PTs X (c::r) (zQ8 t u):=λpins s σ H Q I h=>by
 unfold z4K;rw[K95];refine K2 ?_;rw[if_pos rfl];refine K2 (thn (h1 pins s σ H _ I h) λb s1 ⟨H1,I1,q1⟩=>K6 ?_);cases b with
 | true=>exact h2 pins s1 σ H1 Q I1 (by simpa using q1)
 | false=>exact z6v ⟨H1,I1,by simpa using q1⟩
def z5g (p:Pos) (tg:Expr) (ifs:List Expr) (it:Value) (env:Env) (b:Sem Unit) (c:Code):Sem Fin:=do
 K4o p
 match <- pyNext it with
 | none=>pure (.done .next)
 | some v =>
  K5w tg it v
  assign tg env v
  let ok <- z4K ifs env
  if ok then b
  again c
abbrev TB:=St->Hp->(Hp->Prop)->Prop
variable{tbd:Addr->TB}
def Kp (σ σ':St):Prop:=∀(j:Nat) v,σ[j]?=some (some v)->σ'[j]?=some (some v)
def PBd (X:Cx) (b:Sem Unit) (t:TB):Prop :=
 ∀(pins:List (Addr×Obj)) (s:Shared) (σ:St) (H:Hp) (Q:Hp->Prop),Inv X pins σ H s->t σ H Q->wpAny .(4) X.A b (λ_ s'=>∃σ' H',Inv X pins σ' H' s'/\Kp σ σ'/\Q H') X.xe s
def runG (g:TG) (ti:TT) (tb:TB) (σ:St) (J:It) (Q:Hp->Prop) (H:Hp):Prop :=
 ∃W:Nat->Nat->Hp->Prop,(∃m,W 0 m H)/\∀i m H,W i m H ->
  (J.stop i H/\Q H)\/(J.go i H/\∀x H1,J.yld i H x H1->g x σ H1 λσ2 H2=>Kp σ σ2 /\
   ti σ2 H2 λok H3=>if ok=true then tb σ2 H3 λH4=>∃m',m'<m/\W (i+1) m' H4 else ∃m',m'<m/\W (i+1) m' H3)
def CK (ce:Expr):Prop:=(∃elt gens sc pos,ce=.ListComp elt gens sc pos)\/∃k v gens sc pos,ce=.DictComp k v gens sc pos
section
variable {ce val:Expr}{sc:Scope}{p:Pos}{g g1:TG}{wi wi1:TI}{ti ti1:TT}{te tv:TE}{tb:TB}{b:Sem Unit}{D:Addr}
theorem zR0 {pins:List (Addr×Obj)}{σ0:St}{H2:Hp}{s2:Shared}{it:Addr}{fp:List Addr}{tn:Nat->Heap->Prop}{J:It}{R:Result->Shared->Prop}{Q:Hp->Prop}{k:Nat}{acc:Value}
 (htn:compTurn ce k (.ref it) acc X.env=z5g p tg ifs (.ref it) X.env b (.compLoop ce k (.ref it) acc X.env)) (hce:CK ce) (hc:X.calm=true)
 (hg:PG (X.wish (Z1x .(4) X.A X.env λe s'=>R (.error e) s')) tg g) (ht:PTs (X.wish (Z1x .(4) X.A X.env λe s'=>R (.error e) s')) ifs ti) (hb:PBd (X.wish (Z1x .(4) X.A X.env λe s'=>R (.error e) s')) b tb)
 (I2:Inv X pins σ0 H2 s2) (T:Turn X.prog X.w X.K tg J fp it tn) (st2:tn 0 s2.heap) (f2:∀b∈fp,FpOk X pins H2 b)
 (hq:runG g ti tb σ0 J Q H2) (hR:∀s' H',Inv X pins σ0 H' s'->Q H'->R (.ok .next) s') :
 K4w .(4) X.A (.compLoop ce k (.ref it) acc X.env) R s2:=by
 have stat:∀{H':Hp},(∀b∈fp,H' b=none)->∀b∈fp,FpOk X pins H' b:=λhn b hb=>⟨hn b hb,(f2 b hb).2⟩;obtain⟨W,⟨m0,w0⟩,turn⟩:=hq;refine codeAny_loop rfl (λn s'=>∃i H',Inv X pins σ0 H' s'/\tn i s'.heap/\(∀b∈fp,H' b=none)/\W i n H') (λn s5 hI=>?_) m0 ⟨0,H2,I2,st2,λb hb=>(f2 b hb).1,w0⟩;obtain⟨i,H5,I5,st5,fr5,w5⟩:=hI;have hu:X.A.under (.compLoop ce k (.ref it) acc X.env)=X.A/\(model X.prog X.w).den (.compLoop ce k (.ref it) acc X.env)=(compTurn ce k (.ref it) acc X.env).onRaise (λx=>do noteFrame x X.env;theTreesLotGoes x):=by
  rcases hce with ⟨_,_,_,_,rfl⟩|⟨_,_,_,_,_,rfl⟩<;>exact⟨rfl,rfl⟩
 rw[hu.1,hu.2];refine wpAny_noted ?_;rw[htn];unfold z5g;refine K2 (K4j (K2 ?_));rcases turn i n H5 w5 with ⟨stop,qn⟩|⟨go,step⟩
 ·refine thn (T.done X rfl rfl rfl hc i pins s5 _ H5 _ I5 (stat fr5) st5 stop) λr s6 ⟨hr,I6⟩=>?_;subst hr;exact K6 (hR s6 H5 I6 qn)
 ·refine thn (T.item X rfl rfl rfl hc i pins s5 _ H5 _ I5 (stat fr5) st5 go) λr s6 ⟨u,hr,h6⟩=>?_;subst hr;refine K2 (thn h6 λ_ s7 ⟨x,H7,I7,r7,y7,st7,fr7⟩=>?_);have I7':=I7.pinned (stat fr7) (T.obj _ _ st7);refine K2 (thn (hg _ s7 _ H7 x u _ (I7'.wish _) r7 (step x H7 y7)) λ_ s8 ⟨σ8,H8,I8,k8,q8⟩=>?_);refine K2 (thn (ht _ s8 σ8 H8 _ I8 q8) λok s9 ⟨H9,I9,q9⟩=>?_);have again:∀{σa:St} {Ha:Hp} {sa:Shared},Inv (X.wish (Z1x .(4) X.A X.env λe s'=>R (.error e) s')) (pins++z6i fp s7.heap) σa Ha sa->Kp σ0 σa ->
   Inv X pins σ0 Ha sa/\tn (i+1) sa.heap/\∀b∈fp,Ha b=none:=λ{σa Ha sa} Iw ka=>by
   have Ia:=Iw.unwish;refine⟨Ia.unpinned.weak (I5.len.trans Ia.len.symm) ka,T.keep _ _ _ st7 λb hb o e=>(Ia.pin (b,o) (K0z _ (K0z _ (z2S hb e)))).1,λb hb=>?_⟩;obtain⟨o,e,d⟩:=T.obj _ _ st7 b hb;exact(Ia.pin (b,o) (K0z _ (K0z _ (z2S hb e)))).2.1
  cases ok with
  | false =>
   have q9':∃m',m'<n/\W (i+1) m' H9:=by simpa using q9
   obtain⟨m',hm,w9⟩:=q9';obtain⟨a1,a2,a3⟩:=again I9 k8;exact K6 ⟨rfl,m',hm,i+1,H9,a1,a2,a3,w9⟩
  | true =>
   rw[if_pos rfl]at q9;refine K2 (thn (hb _ s9 σ8 H9 _ I9 q9) λ_ sa ⟨σa,Ha,Ia,ka,m',hm,wa⟩=>?_);obtain⟨a1,a2,a3⟩:=again Ia λj v h=>ka j v (k8 j v h);exact K6 ⟨rfl,m',hm,i+1,Ha,a1,a2,a3,wa⟩
theorem z16 {k:Nat}{it:Value}(hce:CK ce) (hcl:(clausesOf ce)[k]?=some ⟨tg,iter,ifs,0⟩) (h0:K4w (model prog w) A (.compLoop ce k it acc env) R s)
 (h:wpAny (model prog w) A (pyIter it) (λit' s'=>K4w (model prog w) A (.compLoop ce k it' acc env) R s')
  (Z1x (model prog w) A env λx s'=>R (.error x) s') s) :
 K4w (model prog w) A (.compStart ce k it acc env) R s:=by
 refine K56 ?_;have hu:A.under (.compStart ce k it acc env)=A/\(model prog w).den (.compStart ce k it acc env)=(compStart ce k it acc env).onRaise (λx=>do noteFrame x env;K4o theWindowsPlace):=by
  rcases hce with ⟨_,_,_,_,rfl⟩|⟨_,_,_,_,_,rfl⟩<;>exact⟨rfl,rfl⟩
 rw[hu.1,hu.2];refine wpAny_notedAt ?_;unfold compStart;rw[hcl];show wpAny _ _ (ask >>= _) _ _ s;refine K2 (K27 (wpAny_ite ?_));split
 ·first
   | exact K2 (K6 (K6 (K9t rfl h0)))
   | exact K6 (K9t rfl h0)
 ·first
   | exact K2 (K6t (K2 (K4j (K2 (K44 h (λit' s' h'=>K6 (K9t rfl h')) λ_ _ x=>x)))))
   | (refine K2 (K6t ?_);show wpAny _ _ (K4o iter.pos >>= _) _ _ s;exact K2 (K4j (K2 (K44 h (λit' s' h'=>K6 (K9t rfl h')) λ_ _ x=>x))))
end
def MkO (mk:Sem Value) (o0:HO):Prop:=∀(X:Cx) (pins:List (Addr×Obj)) (σ:St) (H:Hp) (s:Shared) (E:Value->Shared->Prop) (Q:Value->Shared->Prop),Inv X pins σ H s ->
 (∀s',Inv X pins σ (upd H .(2) o0) s'->(∀b o,s.heap.get? b=some o->s'.heap.get? b=some o)->Q (.ref .(2)) s')->wpAny .(4) X.A mk Q E s
theorem zh8:MkO (Z2u []) (.lst []):=λX pins σ H s E Q I h=>by
 refine K2h ?_;exact h _ (I.lnew (ys:=[]) (its:=[]) (t':=s.toks) .nil (K3y _)) λb o e=>K8 _ e
theorem zG1:MkO newDict (.dK []):=λX pins σ H s E Q I h=>by
 refine K2h ?_;exact h _ (I.laid (a:=.(2)) (o:=.dK []) (t':=s.toks) (h':=s.heap.push { cls:=.type "dict",dict:=none,data:=.dict #[] }) (λ_ _ q=>K8 _ q) (K04 _) (z8Y s.heap I.big)) λb o e=>K8 _ e
structure CmE (ce:Expr) (sc:Scope) (tg iter:Expr) (ifs:List Expr) (mk:Sem Value) (o0:HO) (bd:Addr->Env->Sem Unit) (p:Pos):Prop where
 ck:CK ce
 cl:∃gs,clausesOf ce=⟨tg,iter,ifs,0⟩::gs
 tn:∀it D env,compTurn ce 0 (.ref it) (.ref D) env=z5g p tg ifs (.ref it) env (bd D env) (.compLoop ce 0 (.ref it) (.ref D) env)
 nw:MkO mk o0
 ev:∀env,∃pp,eval ce env=comprehension ce sc env pp mk false (eval iter env) none
 us:∀env f,∃pp,evalThenUse ce env f=(comprehension ce sc env pp mk false (eval iter env) (some f) >>= λ_=>pure ())
section
variable {ce val:Expr}{sc:Scope}{p p1:Pos}{g g1:TG}{wi wi1:TI}{ti ti1:TT}{te tv:TE}{tb tb1:TB}{b1:Sem Unit}{D:Addr}{mk:Sem Value}{o0:HO}
theorem zN1 {pins:List (Addr×Obj)}{σ:St}{H2:Hp}{s2:Shared}{it:Addr}{fp:List Addr}{tn:Nat->Heap->Prop}{J:It}{E:Value->Shared->Prop}{RR:Value->Addr->Result->Shared->Prop}{Q:Addr->Hp->Prop}
 (C:CmE ce sc tg iter ifs mk o0 bd p) (hc:X.calm=true) (S:CS X sc N' cap) (hg:∀s H fp xe,PG .(8) tg g) (ht:∀s H fp xe,PTs .(8) ifs ti) (hb:∀D s H fp xe,PBd .(8) (bd D (X.comp N' sc s H fp xe).env) (tbd D))
 (I2:Inv X pins σ H2 s2) (T:Turn X.prog X.w X.K tg J fp it tn) (st2:tn 0 s2.heap) (f2:∀b∈fp,FpOk X pins H2 b)
 (hq:∀D,H2 D=none->runG g ti (tbd D) (z4I cap σ) J (Q D) (upd H2 D o0))
 (hRR:∀(D:Addr) (s3:Shared) (H3:Hp) (xe:Value->Shared->Prop) (H':Hp) (pins':List (Addr×Obj)) (σ':St) (s':Shared),Inv X pins σ H3 s3->(∀b∈fp,FpOk X pins H3 b)->Inv (X.comp N' sc s3 H3 fp xe) pins' σ' H' s'->Q D H'->RR (.ref D) s3.heap.objs.size (.ok .next) s') :
 wpAny .(4) X.A mk (λacc s3=>wpAny .(4) X.A (newFunctionEnv sc X.env.globals (z0i X.env sc.names []) [] X.env.qual none .none (some X.env)) (λcenv s4 =>
  codeAny (model X.prog X.w) X.A (.compStart ce 0 (.ref it) acc { cenv with scope:=relabel sc X.env }) (RR acc cenv.locals) s4) E s3) E s2:=by
 refine C.nw X pins σ H2 s2 E _ I2 λs3 I3 kp3=>?_;have hfr:H2 s2.heap.objs.size=none:=I2.fresh;have lt2:∀b∈fp,b<s2.heap.objs.size:=λb hb=>by
  obtain⟨o,e,_⟩:=T.obj _ _ st2 b hb;exact K0c e
 generalize s2.heap.objs.size=D at I3 hfr lt2 ⊢;have r0:=hq D hfr;have f3:∀b∈fp,FpOk X pins (upd H2 D o0) b:=λb hb=>⟨by rw[J5 (K0u (lt2 b hb))];exact(f2 b hb).1,(f2 b hb).2⟩;have st3:tn 0 s3.heap:=T.keep _ _ _ st2 λb hb o e=>kp3 b o e;have lt3:∀b∈fp,b<s3.heap.objs.size:=λb hb=>by
  obtain⟨o,e,_⟩:=T.obj _ _ st3 b hb;exact K0c e
 generalize upd H2 D o0=H3 at I3 r0 f3;refine wpAny_newFunctionEnv S.nocell (λx hx=>absurd hx .(f)) (λh1 hns hsb=>?_) S.kind;have kp4:∀b o,s3.heap.get? b=some o->h1.get? b=some o:=λb o e=>by
  rw[hsb.2 b (K0u (K0c e))];exact K8 _ e
 have hns':h1.Ns s3.heap.objs.size λ_=>none:=hns;have st4:tn 0 h1:=T.keep _ _ _ st3 λb hb o e=>kp4 b o e;have loop:K4w .(4) X.A (.compLoop ce 0 (.ref it) (.ref D) (compEnvC sc (z0i X.env sc.names []) s3.heap.objs.size X.env))
  (RR (.ref D) s3.heap.objs.size) { s3 with heap:=h1,toks:=s3.toks+([]:List (Str×Value)).length }:=by
  let xe:Value->Shared->Prop:=Z1x .(4) X.A (compEnvC sc (z0i X.env sc.names []) s3.heap.objs.size X.env) λe s'=>RR (.ref D) s3.heap.objs.size (.error e) s';have I4:Inv (X.comp N' sc s3 H3 fp xe) [] (z4I cap σ) H3 { s3 with heap:=h1,toks:=s3.toks+([]:List (Str×Value)).length }:=I3.compIn S f3 lt3 hns' kp4;exact zR0 (X:=X.comp N' sc s3 H3 fp xe) (C.tn _ _ _) C.ck hc (hg s3 H3 fp _) (ht s3 H3 fp _) (hb D s3 H3 fp _) I4 T st4 (λb hb=>by
   obtain⟨q1,q2⟩:=I4.ok.exf b hb;exact⟨(f3 b hb).1,q1,I4.ok.exfs b hb,.inl hb,q2,λp hp=>absurd (show p∈([]:List (Addr×Obj)) from hp) .(f)⟩) r0 λs' H' I' q=>hRR D s3 H3 xe H' [] _ s' I3 f3 I' q
 obtain⟨gs,cl⟩:=C.cl;exact z16 C.ck (by rw[cl];rfl) loop (T.self _ 0 _ _ _ st4 loop)
def tCm (o0:HO) (cap:List (Option Nat)) (wi:TI) (g:TG) (ti:TT) (tbd:Addr->TB):TE:=λσ H Q=>wi σ H λJ H1=>∀D,H1 D=none->runG g ti (tbd D) (z4I cap σ) J (λH'=>Q (.ref D) H') (upd H1 D o0)
theorem Z0i (C:CmE ce sc tg iter ifs mk o0 bd p) (hc:X.calm=true) (S:CS X sc N' cap) (hi:PI X tg iter wi) (hg:∀s H fp xe,PG .(8) tg g) (ht:∀s H fp xe,PTs .(8) ifs ti)
 (hb:∀D s H fp xe,PBd .(8) (bd D (X.comp N' sc s H fp xe).env) (tbd D)) (hs:∀x,K1b iter X.env x=pure x):PE X ce (tCm o0 cap wi g ti tbd):=by
 intro pins s σ H Q I h;obtain⟨pp,ev⟩:=C.ev X.env;obtain⟨gs,cl⟩:=C.cl;rw[ev];refine K8f (use:=none) cl hs (z3f (S.cells I)) S.kind S.loc (thn (hi pins s σ H _ I h) λv s1 h1=>thn h1 λitv s2 h2=>?_);obtain⟨it,fp,tn,J,H2,e,I2,T,st2,f2,rq⟩:=h2;subst e;refine zN1 (RR:=λacc C=>compPost .(4) X.A X.xe none (EP X pins σ Q) acc C) (Q:=λD H'=>Q (.ref D) H') C hc S hg ht hb I2 T st2 f2 rq ?_;intro D s3 H3 xe H' pins' σ' s' I3 f3 J3 q;obtain⟨m,hn,_⟩:=id J3.loc;exact⟨m,hn,λh' hs=>⟨.ref D,H',I3.compOut f3 J3 hs,rfl,q⟩⟩
def sCm (o0:HO) (cap:List (Option Nat)) (wi:TI) (g:TG) (ti:TT) (tbd:Addr->TB) (i:Nat):TS:=λD σ H=>wi σ H λJ H1=>∀d,H1 d=none->runG g ti (tbd d) (z4I cap σ) J (λH'=>D.nx (σ.set i (.(r d))) H') (upd H1 d o0)
theorem zZ6 {y:Str}{py spos:Pos}{i:Nat}(C:CmE ce sc tg iter ifs mk o0 bd p) (hc:X.calm=true) (S:CS X sc N' cap) (hi:PI X tg iter wi) (hg:∀s H fp xe,PG .(8) tg g) (ht:∀s H fp xe,PTs .(8) ifs ti)
 (hb:∀D s H fp xe,PBd .(8) (bd D (X.comp N' sc s H fp xe).env) (tbd D)) (hN:X.N.Nodup) (hy:X.N[i]?=some y) (hl:X.env.scope.names.lookup y=some .local)
 (hsw:K2w ce (some (.Name y py)) spos.line X.env=pure true) (hs:∀x,K1b iter X.env x=pure x):PS X (.Assign [.Name y py] ce spos) (sCm o0 cap wi g ti tbd i):=by
 intro pins s σ H D I h;rw[exec_Assign_Name_used _ _ _ _ hsw];obtain⟨pp,us⟩:=C.us X.env (assign (.Name y py) X.env);obtain⟨gs,cl⟩:=C.cl;rw[us];refine K2 (K4j (K2 ?_));refine K2 (K44 (K8f (use:=some (assign (.Name y py) X.env)) (Q:=λ_ s'=>SP X pins D .next s') cl hs (z3f (S.cells I)) S.kind S.loc
  (thn (hi pins s σ H _ I h) λv s1 h1=>thn h1 λitv s2 h2=>?_)) (λ_ s' hq=>K6 (K6 hq)) λ_ _ z=>z)
 obtain⟨it,fp,tn,J,H2,e,I2,T,st2,f2,rq⟩:=h2;subst e;refine zN1 (RR:=λacc C=>compPost .(4) X.A X.xe (some (assign (.Name y py) X.env)) (λ_ s'=>SP X pins D .next s') acc C) (Q:=λd H'=>D.nx (σ.set i (.(r d))) H') C hc S hg ht hb I2 T st2 f2 rq ?_;intro d s3 H3 xe H' pins' σ' s' I3 f3 J3 q;obtain⟨m,hn,_⟩:=id J3.loc;have Is:Inv X pins σ H' s':=I3.compOut (h':=s'.heap) f3 J3 (K5c _ _);obtain⟨oC,es,ep,hoC,hdC,hrC⟩:=id hn;have hC:H' s3.heap.objs.size=none:=J3.free;have neL:s3.heap.objs.size≠X.env.locals:=K2r I3.lt;have nfs:s3.heap.objs.size∉X.fs:=I3.nofs (K04 _);have Ip:Inv X (pins++[(s3.heap.objs.size,oC)]) σ H' s':=Is.pins_of λp hp=>by
  rcases K00.mp hp with z|z
  ·exact Is.pin p (K0z _ z)
  ·obtain rfl:p=(s3.heap.objs.size,oC):=by simpa using z
   exact⟨hoC,hC,neL,nfs,λv hv=>by have hdC':oC.data=_:=hdC;rw[hdC']at hv;cases hv⟩
 show wpAny _ X.A (assign (.Name y py) X.env (.ref d)) _ _ s';refine thn (z7E (X:=X) (i:=i) hN hy (.inl hl) (.inr hl) _ s' σ H' (.ref d) (.ref d) (λσ2 H2=>D.nx σ2 H2) Ip rfl q) λ_ s4 ⟨σ4,H4,I4,q4⟩=>?_;have pn:=I4.pin (s3.heap.objs.size,oC) (K0z _ (K0z _ .(f)));refine⟨m,⟨oC,es,ep,pn.1,hdC,hrC⟩,λh' hs=>⟨σ4,H4,?_,q4⟩⟩;have I4u:Inv X pins σ4 H4 s4:=I4.unpinned;have st:=I4u.step (g':=s4.gens) (t':=s4.toks) (d':=s4.drawn) (h':=h') (H':=H4) (ch:=[s3.heap.objs.size]) (λb hb=>?_) (λb o _ _ hc e _=>(hs.2 b (by simpa using hc)).trans e)
  (λb o _ _ hc e _=>⟨o.slots,(hs.2 b (by simpa using hc)).trans e⟩) (λ_ _ _ _ n=>n) (λb o hc e=>⟨o,(hs.2 b (by simpa using hc)).trans e⟩) (λ_ _ e=>e) (λ_ _ _ e=>e) (λb ps e=>⟨#[],by rw[e];simp⟩) (λm hm=>?_) (λb u e=>?_) I4u.bare
 ·exact st
 ·have e:b=s3.heap.objs.size:=by simpa using hb
  subst e;refine⟨.inr I3.sz,neL,λx c e2 z=>?_,λp hp z=>?_⟩
  ·obtain⟨v,q2⟩:=I3.cell x c e2;exact absurd q2.lt (by rw[z];exact K31 _)
  ·have e3:=(I3.pin p hp).1;exact absurd (K0c e3) (by rw[z];exact K31 _)
 ·obtain⟨o,es',ep',ho',r'⟩:=hm;exact⟨o,es',ep',(hs.2 _ (K4y neL)).trans ho',r'⟩
 ·refine(I4u.hok b u e).stay (λc v hc q=>?_) (λ_ q=>q) λ_ _ q=>q;have n4:H4 s3.heap.objs.size=none:=pn.2.1;have ne:c≠s3.heap.objs.size:=by
   rintro rfl;rcases hc with z|z
   ·rw[<- z,n4]at e;cases e
   ·rw[n4]at z;cases z
  exact(hs.2 c ne).trans q
def bApp (te:TE) (D:Addr):TB:=λσ H Q=>te σ H λv H4=>∃acc,H4 D=.(l acc)/\acc.length<sizeLine/\Q (upd H4 D (.lst (acc++[v])))
theorem zc0 (he:PE X elt te):PBd X (do let _ <- call (.builtin "list.append") [.ref D,<- eval elt X.env]) (bApp te D):=λpins s σ H Q I h=>by
 refine K2 (thn (he pins s σ H _ I h) λv sa ⟨y,Ha,Ia,ra,acc,ea,za,q⟩=>?_);refine K2 (thn (z70 (X:=X) _ sa σ Ha (.ref D) [y] (.ref D) [v] (λ_ H'=>H'=upd Ha D (.lst (acc++[y]))) Ia rfl (.cons ra .nil) ⟨D,acc,y,rfl,rfl,ea,za,rfl⟩) λ_ sb ⟨_,Hb,Ib,_,eb⟩=>K6 ?_);subst eb;exact⟨σ,_,Ib,λ_ _ h=>h,q⟩
theorem z9Z {pins:List (Addr×Obj)}{σ:St}{H:Hp}{s:Shared}{a:Addr}{kvs:List (Key×V)}{k:Key}{v:V}{u r:Value}{A:Around}{E:Value->Shared->Prop}{Q:Unit->Shared->Prop}
 (I:Inv X pins σ H s) (e:H a=some (.dK kvs)) (l:kvs.length<sizeLine) (ry:RelV (kV k) u) (rv:RelV v r) (h:∀s',Inv X pins σ (upd H a (.dK (putK kvs k v))) s'->Q () s') :
 wpAny .(4) A (dictSet a u r) Q E s:=by
 obtain⟨z,hd,vs,rel,dd⟩:=ze1 I.hok e;have hz:vs.length<=sizeLine:=by rw[<- rel.length];exact z
 have hl:(putK kvs k v).length<=sizeLine:=by have:=z34 kvs k v;omega
 refine wpAny_dictSet_pairs (hsz:=hz) (z9p ry) dd λh' dd' hs=>h _ ?_;have he:∃q,h'.get? a=some q:=let ⟨q,_,_,hq,_⟩:=dd';⟨q,hq⟩;exact z65 I (by rw[e];exact K42) hs he (zw4 hl hd (rel.put k rv) dd')
def bPut (te tv:TE) (D:Addr):TB:=λσ H Q=>te σ H λy H4=>tv σ H4 λv H5=>∃k kvs,y=kV k/\H5 D=some (.dK kvs)/\kvs.length<sizeLine/\Q (upd H5 D (.dK (putK kvs k v)))
theorem zE1 (he:PE X elt te) (hv:PE X val tv):PBd X (do
 let kv <- eval elt X.env;let vv <- K36 [kv] (eval val X.env)
 K4o { elt.pos with endLine:=val.pos.endLine,endCol:=val.pos.endCol }
 K36 [kv,vv] (dictSet D kv vv)) (bPut te tv D):=λpins s σ H Q I h=>by
 refine K2 (thn (he pins s σ H _ I h) λkv sa ⟨y,Ha,Ia,ra,qa⟩=>?_);refine K2 (K2e (thn (hv pins sa σ Ha _ Ia qa) λvv sb ⟨z,Hb,Ib,rb,kk,kvs,ey,eb,zb,q⟩=>?_));subst ey;exact K2 (K4j (K2e (z9Z Ib eb zb ra rb λs' I'=>⟨σ,_,I',λ_ _ h=>h,q⟩)))
def bIn (wi1:TI) (g1:TG) (ti1:TT) (tb1:TB):TB:=λσ H Q=>wi1 σ H λJ1 H3=>runG g1 ti1 tb1 σ J1 Q H3
def inner (ce iter1:Expr) (D:Addr) (env:Env):Sem Unit:=do
 let x <- eval iter1 env
 K4o iter1.pos
 let x <- K1b iter1 env x;let _ <- runOwn (.compStart ce 1 (<- K36 [x] (pyIter x)) (.ref D) env) env
theorem zV6 {gs:List Comprehension}{c0:Comprehension}(hce:CK ce) (hcl:clausesOf ce=c0::⟨tg1,iter1,ifs1,0⟩::gs) (htn:∀it,compTurn ce 1 (.ref it) (.ref D) X.env=z5g p1 tg1 ifs1 (.ref it) X.env b1 (.compLoop ce 1 (.ref it) (.ref D) X.env)) (hc:X.calm=true)
 (hi1:PI X tg1 iter1 wi1) (hg1:∀xe,PG (X.wish xe) tg1 g1) (ht1:∀xe,PTs (X.wish xe) ifs1 ti1) (hb1:∀xe,PBd (X.wish xe) b1 tb1) (hs1:∀x,K1b iter1 X.env x=pure x):PBd X (inner ce iter1 D X.env) (bIn wi1 g1 ti1 tb1):=λpins s σ H Q I h=>by
 unfold inner;refine K2 (thn (hi1 pins s σ H _ I h) λv9 s9 h9=>?_);refine K2 (K4j (K2 (K6z (hs1 v9) (K2 (K2e (thn h9 λitv sa ha=>?_))))));obtain⟨it1,fp1,tn1,J1,Ha,e,Ia,T1,sta,fa,rq⟩:=ha;subst e;have st:K4w .(4) X.A (.compStart ce 1 (.ref it1) (.ref D) X.env) (λr s'=>match r with
  | .ok _=>∃σ' H',Inv X pins σ' H' s'/\Kp σ σ'/\Q H'
  | .error e=>cameBackBy .(4) X.A X.env X.xe e s') sa:=by
  have loop:=zR0 (R:=λr s'=>match r with
   | .ok _=>∃σ' H',Inv X pins σ' H' s'/\Kp σ σ'/\Q H'
   | .error e=>cameBackBy .(4) X.A X.env X.xe e s') (htn it1) hce hc (hg1 _) (ht1 _) (hb1 _) Ia T1 sta fa rq λs' H' I' q=>⟨σ,H',I',λ_ _ h=>h,q⟩
  exact z16 hce (by rw[hcl];rfl) loop (T1.self _ 0 _ _ _ sta loop)
 refine K2 (wpAny_runOwn (K3v st λr s' hr=>?_));cases r with
 | ok f=>exact K6 hr
 | error e=>exact hr
end
theorem zJ3 {sc:Scope}:CmE (.ListComp elt [⟨tg,iter,ifs,0⟩] sc pos) sc tg iter ifs (Z2u []) (.lst []) (λD env=>do let _ <- call (.builtin "list.append") [.ref D,<- eval elt env]) iter.pos :=
 ⟨.inl ⟨_,_,_,_,rfl⟩,⟨_,rfl⟩,λ_ _ _=>rfl,zh8,λ_=>⟨_,rfl⟩,λ_ _=>⟨_,rfl⟩⟩
theorem zI4 {val:Expr}{sc:Scope}:CmE (.DictComp elt val [⟨tg,iter,ifs,0⟩] sc pos) sc tg iter ifs newDict (.dK []) (λD env=>do
 let kv <- eval elt env;let vv <- K36 [kv] (eval val env)
 K4o { elt.pos with endLine:=val.pos.endLine,endCol:=val.pos.endCol }
 K36 [kv,vv] (dictSet D kv vv)) iter.pos :=
 ⟨.inr ⟨_,_,_,_,_,rfl⟩,⟨_,rfl⟩,λ_ _ _=>rfl,zG1,λ_=>⟨_,rfl⟩,λ_ _=>⟨_,rfl⟩⟩
theorem tn2 {ce tg iter iter1:Expr}{it D:Addr}{env:Env}{m:Sem Fin}(h:m=(do
 K4o iter.pos
 match <- pyNext (.ref it) with
 | none=>pure (.done .next)
 | some v =>
  K5w tg (.ref it) v
  assign tg env v
  let ok <- z4K [] env
  if ok then
   let x <- eval iter1 env
   K4o iter1.pos
   let x <- K1b iter1 env x;let _ <- runOwn (.compStart ce 1 (<- K36 [x] (pyIter x)) (.ref D) env) env
  again (.compLoop ce 0 (.ref it) (.ref D) env))):m=z5g iter.pos tg [] (.ref it) env (inner ce iter1 D env) (.compLoop ce 0 (.ref it) (.ref D) env):=by
 rw[h];unfold z5g inner;refine congrArg _ (funext λ_=>congrArg _ (funext λr=>?_));cases r with
 | none=>rfl
 | some v =>
  dsimp only;refine congrArg _ (funext λ_=>congrArg _ (funext λ_=>?_));show (z4K [] env >>= _)=(z4K [] env >>= _);refine congrArg _ (funext λok=>?_);cases ok with
  | false=>rfl
  | true =>
   simp only[if_true,Z1i,pure_bind]
theorem zr3 {sc:Scope}:CmE (.ListComp elt [⟨tg,iter,[],0⟩,⟨tg1,iter1,ifs1,0⟩] sc pos) sc tg iter [] (Z2u []) (.lst []) (λD env=>inner (.ListComp elt [⟨tg,iter,[],0⟩,⟨tg1,iter1,ifs1,0⟩] sc pos) iter1 D env) iter.pos :=
 ⟨.inl ⟨_,_,_,_,rfl⟩,⟨_,rfl⟩,λ_ _ _=>tn2 rfl,zh8,λ_=>⟨_,rfl⟩,λ_ _=>⟨_,rfl⟩⟩
open PySem
def excO (a C:Addr):HO:=.ext λh=>∃o,h.get? a=some o/\o.cls=.ref C
def dctO (a:Addr):HO:=.ext λh=>∃o,h.get? a=some o/\o.cls=.type "dict"
end L2
namespace FT
variable{α β:Type}{K:K5}{H:Hp}{a q Dd it I S:Addr}{xs vs:List V}{c e tg iter ce:Expr}{ρ ρ0:List Addr}{i n j ep kk:Nat}{o:Obj}{p pos p2 cpos apos spos:Pos}{u:Value}{ks:List Key}{X:Cx}{t:K8k}{t':TT}{Q E:Value->Shared->Prop}{v:V}{x:Str}{g':Int->Int->V}{C:Int->Int->Bool}{C':Int->Int->Prop}{env:Env}{es es' es1:Array (Int×Value)}{r:V->List V->Hp->VK->Prop}{T:String}{pins:List (Addr×Obj)}{s:Shared}{P:K1d}{w:World}{mg:Str->Option Value}{base:Heap}{N N':List Str}{l ord:List (Int×Value)}{st:Stmt}{sts sts':List Stmt}{own own1:List Nat}{ifs elts ifs1:List Expr}{cap:List (Option Nat)}{tbd:Addr->TB}{sl:Array (Option Value)}{A:Around}{its:List Value}{hx:Int}{gw:Bool->Sem Unit}{R:Option Bool->Shared->Prop}{PV:Nat->Value->Prop}{key:Nat->Key}
inductive D where
 | non|bl (b:Bool)|int (i:Int)|str (x:Str)|tup (xs:List D)|fl (xs:List D)|ref (n:Nat)
variable{ds:List D}{d y:D}
inductive O where
 | lst (xs:List D)
 | set (ks:List Key)
 | dct
 | dK (kvs:List (Key×D))
 | dF (kvs:List (Key×D))
 | exc (c:Str)
 | ins (c:Str) (fs:List (Str×D))
variable{oo:O}
abbrev AH:=List O
variable{h h1:AH}{Z:Nat->List Addr->AH->Hp->Prop}
abbrev G:=List (Option D)
variable{γ:G}
structure Exn where
 cls:Str
 fs:List (Str×D)
inductive Res (α:Type) where
 | ok (a:α) (h:AH)|err (x:Exn) (h:AH)|bad
abbrev M (α:Type):=AH->Res α
variable{b:Nat->G->M Unit->M Unit}{ma mb mc mo me:G->M D}{f:D->D->M D}{g g1:D->G->M G}{m:List D->G->M G}{ka kb kc k1:G->M Bool}{mr:G->M (List D)}{mf:List D->M D}{b1:G->M Unit->M Unit}
def M.pure (a:α):M α:=λh=>.ok a h
def M.bind (m:M α) (f:α->M β):M β:=λh=>match m h with
 | .ok a h1=>f a h1
 | .err x h1=>.err x h1
 | .bad=>.bad
instance:Monad M where
 pure:=M.pure
 bind:=M.bind
def bad {α:Type}:M α:=λ_=>.bad
theorem M.bind_eq (m:M α) (f:α->M β) (h:AH):(m >>= f) h=match m h with
 | .ok a h1=>f a h1
 | .err x h1=>.err x h1
 | .bad=>.bad:=rfl
theorem M.bind_ok {m:M α}{f:α->M β}{a:α}(e:m h=.ok a h1):(m >>= f) h=f a h1:=by rw[M.bind_eq,e]
def SqLP (K:K5) (H:Hp) (a:Addr) (xs:List V):Prop :=
 (∃o,H a=some (.frz o (.lst xs))) \/
  ∃(o:Obj) (its:Array Value) (n:Nat),K.lookup a=some o/\o.cls=.type "list"/\o.dict=none/\o.data=.seq its n/\its.size<=sizeLine/\Vals xs its.toList
theorem SqLP.sq (h:SqLP K H a xs):SqL K H a xs:=by
 rcases h with ⟨o,h⟩|h
 ·exact .inl (.inr ⟨o,h⟩)
 ·exact .inr h
mutual
def RD (K:K5) (ρ:List Addr) (H:Hp):D->V->Prop
 | .non,v=>v=.non
 | .bl b,v=>v=.bl b
 | .int i,v=>v=.int i
 | .str x,v=>v=.str x
 | .tup ds,v=>∃a xs,v=.ref a/\SqT K H a xs/\RDs K ρ H ds xs
 | .fl ds,v=>∃a xs,v=.ref a/\SqLP K H a xs/\RDs K ρ H ds xs
 | .ref n,v=>∃a,v=.ref a/\ρ[n]?=some a
def RDs (K:K5) (ρ:List Addr) (H:Hp):List D->List V->Prop
 | [],xs=>xs=[]
 | d::ds,xs=>∃x r,xs=x::r/\RD K ρ H d x/\RDs K ρ H ds r
end
def Pre (ρ ρ':List Addr):Prop:=∀(n:Nat) a,ρ[n]?=some a->ρ'[n]?=some a
theorem Pre.refl (ρ:List Addr):Pre ρ ρ:=λ_ _ h=>h
theorem Pre.trans {a b c:List Addr}(x:Pre a b) (y:Pre b c):Pre a c:=λn z h=>y n z (x n z h)
theorem Pre.app (ρ r:List Addr):Pre ρ (ρ++r):=λn a h=>by
 rw[K11 (K02.mp h).1];exact h
structure Ext (K:K5) (H H':Hp):Prop where
 t:∀a xs,SqT K H a xs->SqT K H' a xs
 l:∀a xs,SqLP K H a xs->SqLP K H' a xs
 d:∀a o vs,H a=some (.frz o (.dK vs))->H' a=some (.frz o (.dK vs))
theorem Ext.refl (K:K5) (H:Hp):Ext K H H:=⟨λ_ _ h=>h,λ_ _ h=>h,λ_ _ _ h=>h⟩
theorem Ext.trans {a b c:Hp}(x:Ext K a b) (y:Ext K b c):Ext K a c:=⟨λz xs h=>y.t z xs (x.t z xs h),λz xs h=>y.l z xs (x.l z xs h),λz o vs h=>y.d z o vs (x.d z o vs h)⟩
def Trk:HO->Prop
 | .lst _=>True
 | .set _=>True
 | .ext _=>True
 | .dK _=>True
 | .ins _ _ _=>True
 | _=>False
theorem Ext.upd {K:K5}{H:Hp}{p:Addr}{o:HO}(h:H p=none\/∃u,H p=some u/\Trk u):Ext K H (upd H p o):=by
 have ne:∀{b:Addr} {u:HO},H b=some u->¬ Trk u->b≠p:=λ{b u} e n z=>by
  subst z;rcases h with h|⟨u',h,tr⟩
  ·rw[h]at e;cases e
  ·rw[h]at e;cases e;exact n tr
 refine⟨λa xs q=>?_,λa xs q=>?_,λa o vs q=>by rw[J5 (ne q (λz=>z))];exact q⟩
 ·rcases q with (q|⟨u,q⟩)|q
  ·exact .inl (.inl (by rw[J5 (ne q (λz=>z))];exact q))
  ·exact .inl (.inr ⟨u,by rw[J5 (ne q (λz=>z))];exact q⟩)
  ·exact .inr q
 ·rcases q with ⟨u,q⟩|q
  ·exact .inl ⟨u,by rw[J5 (ne q (λz=>z))];exact q⟩
  ·exact .inr q
section
variable {ρ':List Addr}{H':Hp}
mutual
theorem RD.mono (p:Pre ρ ρ') (e:Ext K H H'):∀{d:D}{v:V},RD K ρ H d v->RD K ρ' H' d v
 | .non,v,h=>by simpa [RD] using h
 | .bl b,v,h=>by simpa [RD] using h
 | .int b,v,h=>by simpa [RD] using h
 | .str b,v,h=>by simpa [RD] using h
 | .tup ds,v,h=>by
  simp only[RD]at h ⊢;obtain⟨a,xs,h1,h2,h3⟩:=h;exact⟨a,xs,h1,e.t a xs h2,RDs.mono p e h3⟩
 | .fl ds,v,h=>by
  simp only[RD]at h ⊢;obtain⟨a,xs,h1,h2,h3⟩:=h;exact⟨a,xs,h1,e.l a xs h2,RDs.mono p e h3⟩
 | .ref n,v,h=>by
  simp only[RD]at h ⊢;obtain⟨a,h1,h2⟩:=h;exact⟨a,h1,p n a h2⟩
theorem RDs.mono (p:Pre ρ ρ') (e:Ext K H H'):∀{ds:List D}{xs:List V},RDs K ρ H ds xs->RDs K ρ' H' ds xs
 | [],xs,h=>by simpa [RDs] using h
 | d::ds,xs,h=>by
  simp only[RDs]at h ⊢;obtain⟨x,r,h1,h2,h3⟩:=h;exact⟨x,r,h1,RD.mono p e h2,RDs.mono p e h3⟩
end
theorem RDs.nil:RDs K ρ H [] []:=by simp[RDs]
theorem RDs.cons {d:D}{ds:List D}{x:V}{xs:List V}(h:RD K ρ H d x) (t:RDs K ρ H ds xs):RDs K ρ H (d::ds) (x::xs):=by
 simp only[RDs];exact⟨x,xs,rfl,h,t⟩
theorem RDs.pair:∀{ds:List D}{xs:List V},RDs K ρ H ds xs->Paired (RD K ρ H) ds xs
 | [],xs,h=>by simp only[RDs]at h;subst h;exact .nil
 | d::ds,xs,h=>by
  simp only[RDs]at h;obtain⟨x,r,rfl,h2,h3⟩:=h;exact .cons h2 h3.pair
theorem RDs.length {ds:List D}{xs:List V}(h:RDs K ρ H ds xs):ds.length=xs.length:=K3h h.pair
theorem RDs.append {a b:List D}{ys:List V}(h:RDs K ρ H a xs) (t:RDs K ρ H b ys):RDs K ρ H (a++b) (xs++ys):=by
 induction a generalizing xs with
 | nil=>simp only[RDs]at h;subst h;exact t
 | cons d ds ih =>
  simp only[RDs]at h;obtain⟨x,r,rfl,h2,h3⟩:=h;exact RDs.cons h2 (ih h3)
theorem RDs.get (h:RDs K ρ H ds xs) (e:ds[i]?=some d):∃x,xs[i]?=some x/\RD K ρ H d x:=by
 induction ds generalizing xs i with
 | nil=>simp at e
 | cons a ds ih =>
  simp only[RDs]at h;obtain⟨x,r,rfl,h2,h3⟩:=h;cases i with
  | zero=>simp at e;subst e;exact⟨x,rfl,h2⟩
  | succ i =>
   obtain⟨y,h4,h5⟩:=ih h3 (by simpa using e);exact⟨y,by simpa using h4,h5⟩
theorem RDs.take {ds:List D}{xs:List V}(n:Nat) (h:RDs K ρ H ds xs):RDs K ρ H (ds.take n) (xs.take n):=by
 induction n generalizing ds xs with
 | zero=>exact RDs.nil
 | succ n ih=>cases ds with
  | nil=>simp only[RDs]at h;subst h;exact RDs.nil
  | cons d ds=>simp only[RDs]at h;obtain⟨x,r,rfl,h2,h3⟩:=h;exact RDs.cons h2 (ih h3)
theorem RDs.set {ds:List D}{xs:List V}{d:D}{x:V}(n:Nat) (h:RDs K ρ H ds xs) (hd:RD K ρ H d x):RDs K ρ H (ds.set n d) (xs.set n x):=by
 induction n generalizing ds xs with
 | zero=>cases ds with
  | nil=>simp only[RDs]at h;subst h;exact RDs.nil
  | cons a ds=>simp only[RDs]at h;obtain⟨y,r,rfl,h2,h3⟩:=h;exact RDs.cons hd h3
 | succ n ih=>cases ds with
  | nil=>simp only[RDs]at h;subst h;exact RDs.nil
  | cons a ds=>simp only[RDs]at h;obtain⟨y,r,rfl,h2,h3⟩:=h;exact RDs.cons h2 (ih h3)
theorem RDs.eraseIdx {ds:List D}{xs:List V}(n:Nat) (h:RDs K ρ H ds xs):RDs K ρ H (ds.eraseIdx n) (xs.eraseIdx n):=by
 induction n generalizing ds xs with
 | zero=>cases ds with
  | nil=>simp only[RDs]at h;subst h;exact RDs.nil
  | cons a ds=>simp only[RDs]at h;obtain⟨y,r,rfl,h2,h3⟩:=h;exact h3
 | succ n ih=>cases ds with
  | nil=>simp only[RDs]at h;subst h;exact RDs.nil
  | cons a ds=>simp only[RDs]at h;obtain⟨y,r,rfl,h2,h3⟩:=h;exact RDs.cons h2 (ih h3)
theorem RDs.flat (n:Nat) (h:RDs K ρ H ds xs):RDs K ρ H (K0g n ds).flatten (K0g n xs).flatten:=by
 induction n with
 | zero=>exact RDs.nil
 | succ n ih=>rw[K37,K15,K37,K15];exact h.append ih
def RK (K:K5) (ρ:List Addr) (H:Hp){κ:Type}:List (κ×D)->List (κ×V)->Prop:=Paired λp q=>p.1=q.1/\RD K ρ H p.2 q.2
theorem RK.imp {α β:Type}{P Q:α->β->Prop}(f:∀a b,P a b->Q a b):∀{xs:List α}{ys:List β},Paired P xs ys->Paired Q xs ys
 | _,_,.nil=>.nil
 | _,_,.cons a b=>.cons (f _ _ a) (RK.imp f b)
theorem RK.mono {κ:Type}{kvs:List (κ×D)}{vs:List (κ×V)}(p:Pre ρ ρ') (e:Ext K H H') (r:RK K ρ H kvs vs):RK K ρ' H' kvs vs:=RK.imp (λ_ _ h=>⟨h.1,h.2.mono p e⟩) r
def RO (K:K5) (ρ:List Addr) (H:Hp) (o:O) (a:Addr):Prop:=match o with
 | .lst ds=>∃xs,H a=.(l xs)/\RDs K ρ H ds xs
 | .set ks=>H a=some (.set ks)
 | .dct=>H a=some (dctO a)
 | .dK kvs=>∃vs,H a=some (.dK vs)/\RK K ρ H kvs vs
 | .dF kvs=>∃ob vs,H a=some (.frz ob (.dK vs))/\RK K ρ H kvs vs
 | .exc c=>∃C,K3g K K2m c=some (.(r C))/\H a=some (excO a C)
 | .ins c fs=>∃C dx vs,K3g K K2m c=some (.(r C))/\H a=some (.ins C dx vs)/\RK K ρ H fs vs
structure RH (K:K5) (ρ:List Addr) (h:AH) (H:Hp):Prop where
 len:ρ.length=.(g)
 nd:∀(i j:Nat) a,ρ[i]?=some a->ρ[j]?=some a->i=j
 obj:∀(n:Nat) o a,h[n]?=some o->ρ[n]?=some a->RO K ρ H o a
theorem RH.at (r:RH K ρ h H){o:O}(e:h[n]?=some o):∃a,ρ[n]?=some a/\RO K ρ H o a:=by
 have hi:=(K02.mp e).1;have hj:n<ρ.length:=by rw[r.len];exact hi
 have q:ρ[n]?=some ρ[n]:=K9 hj;exact⟨_,q,r.obj n o _ e q⟩
def O.fz:O->Bool
 | .dF _=>true
 | _=>false
theorem RO.there {o:O}(z:RO K ρ H o a):∃u,H a=some u/\(o.fz=false->Trk u):=by
 cases o with
 | lst ds=>obtain⟨xs,z,_⟩:=z;exact⟨_,z,λ_=>trivial⟩
 | set ks=>exact⟨_,z,λ_=>trivial⟩
 | dct=>exact⟨_,z,λ_=>trivial⟩
 | dK kvs=>obtain⟨vs,z,_⟩:=z;exact⟨_,z,λ_=>trivial⟩
 | dF kvs=>obtain⟨ob,vs,z,_⟩:=z;exact⟨_,z,λq=>by cases q⟩
 | exc c=>obtain⟨C,_,z⟩:=z;exact⟨_,z,λ_=>trivial⟩
 | ins c fs=>obtain⟨C,dx,vs,_,z,_⟩:=z;exact⟨_,z,λ_=>trivial⟩
theorem RH.there {h:AH}(r:RH K ρ h H) {n:Nat}{a:Addr}(e:ρ[n]?=some a):∃u,H a=some u:=by
 have hi:=(K02.mp e).1;have hj:n<h.length:=by rw[<- r.len];exact hi
 obtain⟨u,z,_⟩:=(r.obj n _ a (K9 hj) e).there;exact⟨u,z⟩
theorem RH.tracked (r:RH K ρ h H){o:O}(e:ρ[n]?=some a) (eo:h[n]?=some o) (nf:o.fz=false:=by rfl):∃u,H a=some u/\Trk u:=by
 obtain⟨u,z,q⟩:=(r.obj n _ a eo e).there;exact⟨u,z,q nf⟩
theorem RO.mono {o:O}{a:Addr}(p:Pre ρ ρ') (e:Ext K H H') (hs:H' a=H a) (r:RO K ρ H o a):RO K ρ' H' o a:=by
 cases o with
 | lst ds=>obtain⟨xs,h1,h2⟩:=r;exact⟨xs,hs.trans h1,h2.mono p e⟩
 | set ks=>exact hs.trans r
 | dct=>exact hs.trans r
 | dK kvs=>obtain⟨vs,h1,h2⟩:=r;exact⟨vs,hs.trans h1,h2.mono p e⟩
 | dF kvs=>obtain⟨ob,vs,h1,h2⟩:=r;exact⟨ob,vs,hs.trans h1,h2.mono p e⟩
 | exc c=>obtain⟨C,h1,h2⟩:=r;exact⟨C,h1,hs.trans h2⟩
 | ins c fs=>obtain⟨C,dx,vs,h1,h2,h3⟩:=r;exact⟨C,dx,vs,h1,hs.trans h2,h3.mono p e⟩
theorem RH.other {p:Addr}{o:HO}(r:RH K ρ h H) (hp:H p=none):RH K ρ h (upd H p o) :=
 ⟨r.len,r.nd,λn u a h1 h2=>(r.obj n u a h1 h2).mono .(9) (Ext.upd (.inl hp)) (by
  obtain⟨u,q⟩:=r.there h2;exact J5 (Y6 q hp))⟩
theorem RH.pushO {p:Addr}{o':O}{u:HO}(r:RH K ρ h H) (hp:H p=none) (hd:RO K (ρ++[p]) (upd H p u) o' p):RH K (ρ++[p]) (h++[o']) (upd H p u):=by
 have ne:∀{n:Nat} {a:Addr},ρ[n]?=some a->a≠p:=λe=>by
  obtain⟨xs,q⟩:=r.there e;exact Y6 q hp
 have ext:Ext K H (L2.upd H p u):=Ext.upd (.inl hp);refine⟨by simp[r.len],λi j a h1 h2=>?_,λn o a h1 h2=>?_⟩
 ·rw[K4f]at h1 h2;split at h1<;>split at h2
  ·exact r.nd i j a h1 h2
  ·rename_i hi hj;rw[K26]at h2;split at h2
   ·cases h2;exact absurd rfl (ne h1)
   ·cases h2
  ·rename_i hi hj;rw[K26]at h1;split at h1
   ·cases h1;exact absurd rfl (ne h2)
   ·cases h1
  ·rename_i hi hj;rw[K26]at h1 h2;split at h1
   ·split at h2
    ·omega
    ·cases h2
   ·cases h1
 ·rw[K4f]at h1 h2;rw[r.len]at h2;split at h1
  ·rename_i hn;rw[if_pos hn]at h2;exact(r.obj n o a h1 h2).mono (Pre.app _ _) ext (J5 (ne h2))
  ·rename_i hn;rw[if_neg hn]at h2;rw[K26]at h1 h2;split at h1
   ·rename_i h0;rw[if_pos h0]at h2;cases h1;cases h2;exact hd
   ·cases h1
theorem RH.push {p:Addr}(r:RH K ρ h H) (hp:H p=none) (hd:RDs K ρ H ds xs):RH K (ρ++[p]) (h++[.lst ds]) (upd H p (.lst xs)) :=
 r.pushO hp ⟨xs,J6,hd.mono (Pre.app _ _) (Ext.upd (.inl hp))⟩
theorem RH.pushS {p:Addr}(r:RH K ρ h H) (hp:H p=none):RH K (ρ++[p]) (h++[.set ks]) (upd H p (.set ks)):=r.pushO hp J6
theorem RH.setO {o0 o':O}{u:HO}(r:RH K ρ h H) (e:h[n]?=some o0) (ea:ρ[n]?=some a) (hd:RO K ρ (upd H a u) o' a) (nf:o0.fz=false:=by rfl):RH K ρ (h.set n o') (upd H a u):=by
 have ext:Ext K H (L2.upd H a u):=Ext.upd (.inr (r.tracked ea e nf));refine⟨by simp[r.len],r.nd,λm o b h1 h2=>?_⟩;by_cases hm:m=n
 ·subst hm;rw[ea]at h2;cases h2;have hi:=(K02.mp e).1;rw[K1o hi]at h1;cases h1;exact hd
 ·rw[K29 (λz=>hm z.symm)]at h1;exact(r.obj m o b h1 h2).mono .(9) ext (J5 λz=>hm (r.nd m n b h2 (by rw[z];exact ea)))
theorem RH.set {h:AH}{n:Nat}{a:Addr}{ds0 ds:List D}{xs:List V}(r:RH K ρ h H) (e:h[n]?=.(l ds0)) (ea:ρ[n]?=some a) (hd:RDs K ρ H ds xs):RH K ρ (h.set n (.lst ds)) (upd H a (.lst xs)) :=
 r.setO e ea ⟨xs,J6,hd.mono .(9) (Ext.upd (.inr (r.tracked ea e)))⟩
theorem RH.setS {o0:O}(r:RH K ρ h H) (e:h[n]?=some o0) (ea:ρ[n]?=some a) (nf:o0.fz=false:=by rfl):RH K ρ (h.set n (.set ks)) (upd H a (.set ks)):=r.setO e ea J6 nf
structure RG (K:K5) (ρ:List Addr) (H:Hp) (γ:G) (σ:L2.St):Prop where
 len:γ.length=σ.length
 var:∀(i:Nat) d,γ[i]?=some (some d)->∃v,σ[i]?=some (some v)/\RD K ρ H d v
theorem RG.mono {γ:G}{σ:L2.St}(p:Pre ρ ρ') (e:Ext K H H') (r:RG K ρ H γ σ):RG K ρ' H' γ σ :=
 ⟨r.len,λi d h=>let ⟨v,h1,h2⟩:=r.var i d h;⟨v,h1,h2.mono p e⟩⟩
theorem RG.set {γ:G}{σ:L2.St}{d:D}{v:V}(r:RG K ρ H γ σ) (i:Nat) (hd:RD K ρ H d v):RG K ρ H (γ.set i (some d)) (σ.set i (some v)):=by
 refine⟨by simp[r.len],λj d' h=>?_⟩;by_cases hj:i=j
 ·subst hj;have hi:i<γ.length:=by
   have:=(K02.mp h).1;simpa using this
  rw[K1o hi]at h;cases h;exact⟨v,K1o (by rw[<- r.len];exact hi),hd⟩
 ·rw[K29 hj]at h ⊢;exact r.var j d' h
structure Rel (K:K5) (ρ:List Addr) (γ:G) (h:AH) (σ:L2.St) (H:Hp):Prop where
 g:RG K ρ H γ σ
 h:RH K ρ h H
abbrev XX:=Exn->List Addr->AH->Hp->Prop
def Fin (K:K5) (EX:XX) (ρ:List Addr) (H:Hp) (P:α->List Addr->AH->Hp->Prop):Res α->Prop
 | .ok a h'=>∀ρ' H',Pre ρ ρ'->Ext K H H'->RH K ρ' h' H'->P a ρ' h' H'
 | .err x h'=>∀ρ' H',Pre ρ ρ'->Ext K H H'->RH K ρ' h' H'->EX x ρ' h' H'
 | .bad=>False
variable {EX:XX}
theorem Fin.up {P:α->List Addr->AH->Hp->Prop}{r:Res α}(p:Pre ρ ρ') (e:Ext K H H') (f:Fin K EX ρ H P r):Fin K EX ρ' H' P r:=by
 cases r with
 | ok a h=>exact λρ2 H2 p2 e2 r2=>f ρ2 H2 (p.trans p2) (e.trans e2) r2
 | err x h=>exact λρ2 H2 p2 e2 r2=>f ρ2 H2 (p.trans p2) (e.trans e2) r2
 | bad=>exact f
theorem Fin.mono {P P':α->List Addr->AH->Hp->Prop}{r:Res α}(f:Fin K EX ρ H P r) (h:∀a ρ' h' H',Pre ρ ρ'->Ext K H H'->RH K ρ' h' H'->P a ρ' h' H'->P' a ρ' h' H'):Fin K EX ρ H P' r:=by
 cases r with
 | ok a h1=>exact λρ2 H2 p2 e2 r2=>h a ρ2 h1 H2 p2 e2 r2 (f ρ2 H2 p2 e2 r2)
 | err x h1=>exact f
 | bad=>exact f
theorem Fin.bind {P:β->List Addr->AH->Hp->Prop}{m:M α}{f:α->M β}(z:Fin K EX ρ H P ((m >>= f) h)):Fin K EX ρ H (λa ρ1 h1 H1=>Fin K EX ρ1 H1 P (f a h1)) (m h):=by
 rw[M.bind_eq]at z;cases e:m h with
 | ok a h1=>rw[e]at z;exact λρ2 H2 p2 e2 r2=>Fin.up p2 e2 z
 | err x h1=>rw[e]at z;exact z
 | bad=>rw[e]at z;exact z
end
variable{EX:XX}
def tE (K:K5) (EX:XX) (m:G->M D):TE:=λσ H Q=>∃ρ γ h,Rel K ρ γ h σ H/\Fin K EX ρ H (λd ρ' _ H'=>∀v,RD K ρ' H' d v->Q v H') (m γ h)
def tT (K:K5) (EX:XX) (m:G->M Bool):TT:=λσ H Q=>∃ρ γ h,Rel K ρ γ h σ H/\Fin K EX ρ H (λb _ _ H'=>Q b H') (m γ h)
def tL (K:K5) (EX:XX) (m:G->M (List D)):TA:=λσ H Q=>∃ρ γ h,Rel K ρ γ h σ H/\Fin K EX ρ H (λds ρ' _ H'=>∀vs,RDs K ρ' H' ds vs->Q vs H') (m γ h)
inductive Out where
 | nx (γ:G)|rt (d:D)|bk (γ:G)|ct (γ:G)
def OutP (K:K5) (D:Ends) (o:Out) (ρ:List Addr) (H:Hp):Prop:=match o with
 | .nx γ=>∀σ,RG K ρ H γ σ->D.nx σ H
 | .rt d=>∀v,RD K ρ H d v->D.rt v H
 | .bk γ=>∀σ,RG K ρ H γ σ->D.bk σ H
 | .ct γ=>∀σ,RG K ρ H γ σ->D.ct σ H
def tB (K:K5) (EX:XX) (m:G->M Out):TS:=λD σ H=>∃ρ γ h,Rel K ρ γ h σ H/\Fin K EX ρ H (λo ρ' _ H'=>OutP K D o ρ' H') (m γ h)
structure SE (X:Cx) (EX:XX) (e:Expr) (m:G->M D):Prop where
 h:PE X e (tE X.K EX m)
structure SC (X:Cx) (EX:XX) (e:Expr) (m:G->M Bool):Prop where
 h:PT X e (tT X.K EX m)
structure SA (X:Cx) (EX:XX) (es:List Expr) (m:G->M (List D)):Prop where
 h:PA X es (tL X.K EX m)
structure S1 (X:Cx) (EX:XX) (st:Stmt) (m:G->M Out):Prop where
 h:PS X st (tB X.K EX m)
structure SB (X:Cx) (EX:XX) (st:List Stmt) (m:G->M Out):Prop where
 h:PSs X st (tB X.K EX m)
theorem PE.imp {t t':TE}(h:PE X e t) (f:∀σ H Q,t' σ H Q->t σ H Q):PE X e t':=λpins s σ H Q I z=>h pins s σ H Q I (f σ H Q z)
theorem PT.imp {t:TT}(h:PT X e t) (f:∀σ H Q,t' σ H Q->t σ H Q):PT X e t':=λpins s σ H Q I z=>h pins s σ H Q I (f σ H Q z)
theorem PA.imp {e:List Expr}{t t':TA}(h:PA X e t) (f:∀σ H Q,t' σ H Q->t σ H Q):PA X e t':=λpos pins s σ H Q I z=>h pos pins s σ H Q I (f σ H Q z)
theorem PS.imp {e:Stmt}{t t':TS}(h:PS X e t) (f:∀σ H Q,t' Q σ H->t Q σ H):PS X e t':=λpins s σ H Q I z=>h pins s σ H Q I (f σ H Q z)
theorem PSs.imp {e:List Stmt}{t t':TS}(h:PSs X e t) (f:∀σ H Q,t' Q σ H->t Q σ H):PSs X e t':=λpins s σ H Q I z=>h pins s σ H Q I (f σ H Q z)
abbrev FE (K:K5) (EX:XX) (ρ:List Addr) (H:Hp) (Q:VK) (r:Res D):Prop:=Fin K EX ρ H (λd ρ' _ H'=>∀v,RD K ρ' H' d v->Q v H') r
theorem FE.here {Q:VK}(f:FE K EX ρ H Q (.ok d h)) (r:RH K ρ h H) (rd:RD K ρ H d v):Q v H:=f ρ H .(9) .(a) r v rd
theorem FE.tup {K:K5}{EX:XX}{ρ:List Addr}{H:Hp}{Q:VK}{ds:List D}{xs:List V}{h:AH}{p:Addr}(f:FE K EX ρ H Q (.ok (.tup ds) h)) (r:RH K ρ h H) (hd:RDs K ρ H ds xs) (hp:H p=none):Q (.ref p) (upd H p (.tup xs)):=by
 have e:Ext K H (L2.upd H p (.tup xs)):=Ext.upd (.inl hp);refine f ρ _ .(9) e (r.other hp) _ ?_;simp only[RD];exact⟨p,xs,rfl,SqT.of J6,hd.mono .(9) e⟩
theorem FE.lst {K:K5}{EX:XX}{ρ:List Addr}{H:Hp}{Q:VK}{ds:List D}{xs:List V}{h:AH}{p:Addr}(f:FE K EX ρ H Q (.ok (.ref h.length) (h++[.lst ds]))) (r:RH K ρ h H) (hd:RDs K ρ H ds xs) (hp:H p=none):Q (.ref p) (upd H p (.lst xs)):=by
 refine f (ρ++[p]) _ (Pre.app _ _) (Ext.upd (.inl hp)) (r.push hp hd) _ ?_;simp only[RD];refine⟨p,rfl,?_⟩;rw[<- r.len];simp
def getL (n:Nat):M (List D):=λh=>match h[n]? with
 | .(l xs)=>.ok xs h
 | _=>.bad
def newL (xs:List D):M D:=λh=>if xs.length<=sizeLine then .ok (.ref h.length) (h++[.lst xs]) else .bad
section
variable {a b:Expr}
def eVar (i:Nat):G->M D:=λγ=>match γ[i]? with
 | some (some d)=>pure d
 | _=>bad
theorem z0 (i:Nat) (hN:X.N[i]?=some x:=by rfl) (hv:Vis X.env.scope x:=by first|exact Or.inl rfl|exact Or.inr (Or.inl rfl)|exact Or.inr (Or.inr rfl))
 (hd:(x==("__debug__":Str))=false:=by decide) (hcd:(x==("__classdict__":Str))=false:=by decide):SE X EX (.Name x pos) (eVar i) :=
 ⟨PE.imp (zW5 hN hv hd hcd) λσ H Q ⟨ρ,γ,h,rel,f⟩=>by
  have f':FE X.K EX ρ H Q (eVar i γ h):=f;unfold eVar at f';cases e:γ[i]? with
  | none=>rw[e]at f';exact f'.elim
  | some o=>cases o with
   | none=>rw[e]at f';exact f'.elim
   | some d =>
    rw[e]at f';obtain⟨v,h1,h2⟩:=rel.g.var i d e;exact⟨v,h1,FE.here f' rel.h h2⟩⟩
theorem z62 (h:PE X e (tC v)) (r:∀ρ H,RD X.K ρ H d v):SE X EX e (λ_=>pure d) :=
 ⟨PE.imp h λσ H Q ⟨ρ,γ,h,rel,f⟩=>FE.here f rel.h (r ρ H)⟩
theorem Z3 {i:Int}:SE X EX (.Constant (.int i) j pos) (λ_=>pure (.int i)):=z62 zT6 λ_ _=>by simp[RD]
theorem z1e {i:Bool}:SE X EX (.Constant (.bool i) j pos) (λ_=>pure (.bl i)):=z62 Z0y λ_ _=>by simp[RD]
theorem z0l {i:Str}:SE X EX (.Constant (.str i) j pos) (λ_=>pure (.str i)):=z62 zW2 λ_ _=>by simp[RD]
def BR (K:K5) (EX:XX) (r:R2) (f:D->D->M D):Prop:=∀ρ h H x y v u Q,RH K ρ h H->RD K ρ H x v->RD K ρ H y u->FE K EX ρ H Q (f x y h)->r v u H Q
def e2 (f:D->D->M D) (ma mb:G->M D):G->M D:=λγ=>do
 let x <- ma γ;let y <- mb γ
 f x y
theorem zd2 {r:R2}{ta tb:TE}(h:PE X e (tOp r (tE X.K EX ma) (tE X.K EX mb))) (hr:BR X.K EX r f):SE X EX e (e2 f ma mb) :=
 ⟨PE.imp h λσ H Q ⟨ρ,γ,h,rel,fin⟩=>⟨ρ,γ,h,rel,(Fin.bind fin).mono λx ρ1 h1 H1 p1 e1 r1 f1 v rv=>⟨ρ1,γ,h1,⟨rel.g.mono p1 e1,r1⟩,(Fin.bind f1).mono λy ρ2 h2 H2 p2 e2 r2 f2 u ru =>
  hr ρ2 h2 H2 x y v u Q r2 (rv.mono p2 e2) ru f2⟩⟩⟩
theorem z5J {op:Z20}{r:R2}(ho:OpR X (K2z op) r) (hr:BR X.K EX r f) (ha:SE X EX a ma) (hb:SE X EX b mb):SE X EX (.BinOp a op b pos) (e2 f ma mb) :=
 zd2 (ta:=tE X.K EX ma) (tb:=tE X.K EX mb) (Z0r ho ha.h hb.h) hr
theorem zR6 {op:CmpOp}{r:R2}(ho:OpR X (K2f op) r) (hr:BR X.K EX r f) (ha:SE X EX a ma) (hb:SE X EX b mb) (hm:K5a op b=false):SE X EX (.Compare a [op] [b] pos) (e2 f ma mb) :=
 zd2 (ta:=tE X.K EX ma) (tb:=tE X.K EX mb) (zD0 ho ha.h hb.h hm) hr
def fI (g:Int->Int->D):D->D->M D
 | .int i,.int j=>pure (g i j)
 | _,_=>bad
theorem ze0 {g:Int->Int->D}(hg:∀i j ρ H,RD K ρ H (g i j) (g' i j)):BR K EX (rI0 g') (fI g):=by
 intro ρ h H x y v u Q r rx ry fin;unfold fI at fin;split at fin
 ·simp only[RD]at rx ry;subst rx;subst ry;exact⟨_,_,rfl,rfl,FE.here fin r (hg _ _ _ _)⟩
 ·exact fin.elim
def fIC (C:Int->Int->Bool) (g:Int->Int->D):D->D->M D
 | .int i,.int j=>if C i j then pure (g i j) else bad
 | _,_=>bad
theorem zI5 {g:Int->Int->D}(hc:∀i j,C i j=true->C' i j) (hg:∀i j ρ H,RD K ρ H (g i j) (g' i j)):BR K EX (rI C' g') (fIC C g):=by
 intro ρ h H x y v u Q r rx ry fin;unfold fIC at fin;split at fin
 ·simp only[RD]at rx ry;subst rx;subst ry;split at fin
  ·rename_i hC;exact⟨_,_,rfl,rfl,hc _ _ hC,FE.here fin r (hg _ _ _ _)⟩
  ·exact fin.elim
 ·exact fin.elim
def fSub:=fI λi j=>.int (i - j)
def fDiv:=fIC (λ_ j=>decide (0<j)&&decide (j<1073741824)) λi j=>.int (i / j)
def fMod:=fIC (λ_ j=>decide (0<j)) λi j=>.int (i % j)
def fPow:=fIC (λi j=>decide (0<=j)&&decide (j<=1000)&&decide (-(2 ^ 64)<i)&&decide (i<2 ^ 64)) λi j=>.int (i ^ j.toNat)
def fAnd:=fI λi j=>.int (K5g i j)
theorem z9E (ha:SE X EX a ma) (hb:SE X EX b mb):SE X EX (.BinOp a .Sub b pos) (e2 fSub ma mb):=z5J zX2 (ze0 λi j ρ H=>by simp[RD]) ha hb
theorem z7X (ha:SE X EX a ma) (hb:SE X EX b mb):SE X EX (.BinOp a .FloorDiv b pos) (e2 fDiv ma mb):=z5J zB6 (zI5 (λi j h=>by simp at h;exact h) λi j ρ H=>by simp[RD]) ha hb
theorem z3U (ha:SE X EX a ma) (hb:SE X EX b mb):SE X EX (.BinOp a .Mod b pos) (e2 fMod ma mb):=z5J zQ4 (zI5 (λi j h=>by simpa using h) λi j ρ H=>by simp[RD]) ha hb
theorem zg8 (ha:SE X EX a ma) (hb:SE X EX b mb):SE X EX (.BinOp a .Pow b pos) (e2 fPow ma mb):=z5J zX4 (zI5 (λi j h=>by
 simp at h;refine⟨h.1.1.1,by omega,?_⟩;have h1:=h.1.2;have h2:=h.2;omega) λi j ρ H=>by simp[RD]) ha hb
theorem z57 (ha:SE X EX a ma) (hb:SE X EX b mb):SE X EX (.BinOp a .BitAnd b pos) (e2 fAnd ma mb):=z5J zY3 (ze0 λi j ρ H=>by simp[RD]) ha hb
def fAdd:D->D->M D
 | .int i,.int j=>pure (.int (i+j))
 | .str i,.str j=>if i.length+j.length<=sizeLine then pure (.str (i++j)) else bad
 | .ref i,.ref j=>do
  let x <- getL i;let y <- getL j
  newL (x++y)
 | .tup x,.tup y=>if !decide (x.length+y.length<=sizeLine) then bad else pure (.tup (x++y))
 | _,_=>bad
theorem z1M {xs:List D}(e:getL n h=.ok xs h1):h1=h/\h[n]?=.(l xs):=by
 unfold getL at e;split at e
 ·rename_i q;cases e;exact⟨rfl,q⟩
 ·cases e
theorem z1J {x:Exn}(e:getL n h=.err x h1):False:=by
 unfold getL at e;split at e<;>cases e
def zH3 (K:K5):R2:=λx y H Q=>∃a b ys,x=.ref a/\y=.ref b/\SqT K H a []/\SqT K H b ys/\Q (.ref b) H
theorem zE7:OpR X (K2z .Add) (zH3 X.K):=by
 intro pins s σ H x y v u Q I rx ry h;obtain⟨a,b,ys,rfl,rfl,ha,hb,q⟩:=h;cases rx;cases ry;obtain⟨its,r1,p1,_⟩:=I.tuple ha;obtain⟨its2,r2,p2,_⟩:=I.tuple hb;have e:its=[]:=(r1.nil_iff).mpr rfl;subst e;obtain⟨⟨cls,dd,data,sl⟩,ho,hc,n,hd⟩:=id p1;obtain⟨⟨cls2,dd2,data2,sl2⟩,ho2,hc2,n2,hd2⟩:=id p2;simp only at hc hd hc2 hd2;subst hc hd hc2 hd2;exact Z27 ⟨_,ho,rfl⟩ ⟨_,ho2,rfl⟩ K8p Z18 K6i K63 (K5u _ _) (tuple_addW0 a b _ _ n n2 dd dd2 sl sl2 rfl) ⟨ho,ho2,.ref b,H,I,rfl,q⟩
theorem zA0:OpR X (K2z .Add) (λx y H Q=>rI0 (λi j=>.int (i+j)) x y H Q\/(∃i j,x=.str i/\y=.str j/\i.length+j.length<=sizeLine/\Q (.str (i++j)) H)\/rCat x y H Q\/zE0 X.K x y H Q\/zH3 X.K x y H Q) :=
 op_add.or (op_add_str.or (op_cat.or (op_catT.or zE7)))
theorem zH2:BR X.K EX (λx y H Q=>rI0 (λi j=>.int (i+j)) x y H Q\/(∃i j,x=.str i/\y=.str j/\i.length+j.length<=sizeLine/\Q (.str (i++j)) H)\/rCat x y H Q\/zE0 X.K x y H Q\/zH3 X.K x y H Q) fAdd:=by
 intro ρ h H x y v u Q r rx ry fin;unfold fAdd at fin;split at fin
 ·simp only[RD]at rx ry;subst rx;subst ry;exact .inl ⟨_,_,rfl,rfl,FE.here fin r (by simp[RD])⟩
 ·simp only[RD]at rx ry;subst rx;subst ry;split at fin
  ·rename_i hl;exact .inr (.inl ⟨_,_,rfl,rfl,hl,FE.here fin r (by simp[RD])⟩)
  ·exact fin.elim
 ·rename_i i j;simp only[RD]at rx ry;obtain⟨ai,rfl,hi⟩:=rx;obtain⟨aj,rfl,hj⟩:=ry;have f1:=Fin.bind fin;cases e:getL i h with
  | bad=>rw[e]at f1;exact f1.elim
  | err z hz=>exact(z1J e).elim
  | ok xs h1 =>
   obtain⟨rfl,q1⟩:=z1M e;rw[e]at f1;have f2:=Fin.bind (f1 ρ H .(9) .(a) r);cases e3:getL j h1 with
   | bad=>rw[e3]at f2;exact f2.elim
   | err z hz=>exact(z1J e3).elim
   | ok ys h2 =>
    obtain⟨rfl,q2⟩:=z1M e3;rw[e3]at f2;have f3:=f2 ρ H .(9) .(a) r;dsimp only at f3;unfold newL at f3;split at f3
    ·rename_i hl;obtain⟨a1,n1,xs1,o1,d1⟩:=r.at q1;obtain⟨a2,n2,xs2,o2,d2⟩:=r.at q2;rw[hi]at n1;cases n1;rw[hj]at n2;cases n2;refine .inr (.inr (.inl ⟨_,_,_,_,rfl,rfl,o1,o2,?_,λp hp=>FE.lst f3 r (d1.append d2) hp⟩));rw[<- d1.length,<- d2.length,<- K3];exact hl
    ·exact f3.elim
 ·rename_i x y;simp only[RD]at rx ry;obtain⟨ax,xs,rfl,hx,dx⟩:=rx;obtain⟨ay,ys,rfl,hy,dy⟩:=ry;split at fin
  ·exact fin.elim
  ·rename_i hc;simp at hc;have l1:=dx.length;have l2:=dy.length;by_cases hxe:xs=[]
   ·subst hxe;have xe:x=[]:=by simpa using l1
    subst xe;refine .inr (.inr (.inr (.inr ⟨ax,ay,ys,rfl,rfl,hx,hy,FE.here fin r ?_⟩)));simp only[RD];exact⟨ay,ys,rfl,hy,by simpa using dy⟩
   refine .inr (.inr (.inr (.inl ⟨ax,ay,xs,ys,rfl,rfl,hx,hy,hxe,by omega,λe=>?_,λe p hp=>FE.tup fin r (dx.append dy) hp⟩)))
   ·subst e;refine FE.here fin r ?_;simp only[RD];have:y=[]:=by simpa using l2
    subst this;exact⟨ax,xs,rfl,hx,by simpa using dx⟩
 ·exact fin.elim
theorem z1y (ha:SE X EX a ma) (hb:SE X EX b mb):SE X EX (.BinOp a .Add b pos) (e2 fAdd ma mb):=z5J zA0 zH2 ha hb
def fMul:D->D->M D
 | .int i,.int j=>if (decide (-(2 ^ 64)<i)&&decide (i<2 ^ 64))||(decide (-(2 ^ 64)<j)&&decide (j<2 ^ 64)) then pure (.int (i * j)) else bad
 | .ref i,.int j=>do
  let x <- getL i
  if decide (-(2 ^ 63)<=j)&&decide (j<2 ^ 63) then newL (K0g j.toNat x).flatten else bad
 | _,_=>bad
theorem zP6:BR X.K EX (λx y H Q=>rI CMul (λi j=>.int (i * j)) x y H Q\/rRep x y H Q) fMul:=by
 intro ρ h H x y v u Q r rx ry fin;unfold fMul at fin;split at fin
 ·simp only[RD]at rx ry;subst rx;subst ry;split at fin
  ·rename_i hc;refine .inl ⟨_,_,rfl,rfl,?_,FE.here fin r (by simp[RD])⟩;simp only[K2o,K0k,decide_eq_true_eq]at hc;exact hc
  ·exact fin.elim
 ·rename_i i j;simp only[RD]at rx ry;obtain⟨ai,rfl,hi⟩:=rx;subst ry;have f1:=Fin.bind fin;cases e:getL i h with
  | bad=>rw[e]at f1;exact f1.elim
  | err z hz=>exact(z1J e).elim
  | ok xs h1 =>
   obtain⟨rfl,q1⟩:=z1M e;rw[e]at f1;have f2:=f1 ρ H .(9) .(a) r;dsimp only at f2;split at f2
   ·rename_i hb;simp only[K0k,decide_eq_true_eq]at hb;unfold newL at f2;split at f2
    ·rename_i hl;obtain⟨a1,n1,xs1,o1,d1⟩:=r.at q1;rw[hi]at n1;cases n1;refine .inr ⟨_,_,_,rfl,rfl,o1,hb.1,hb.2,?_,λp hp=>FE.lst f2 r (d1.flat j.toNat) hp⟩;rw[L2.len_rep,d1.length]at hl;rw[K7b];exact hl
    ·exact f2.elim
   ·exact f2.elim
 ·exact fin.elim
def fCmp (g:Int->Int->Bool):D->D->M D:=fI λi j=>.bl (g i j)
def fLt:D->D->M D
 | .int i,.int j=>pure (.bl (decide (i<j)))
 | .str i,.str j=>pure (.bl (decide (i.cps.toList<j.cps.toList)))
 | _,_=>bad
def fLe:D->D->M D
 | .int i,.int j=>pure (.bl (decide (i<=j)))
 | .str i,.str j=>pure (.bl (!decide (j.cps.toList<i.cps.toList)))
 | _,_=>bad
def fGt:D->D->M D:=fCmp λi j=>decide (j<i)
def fGe:D->D->M D:=fCmp λi j=>decide (j<=i)
theorem zb2:OpR X (K2f .LtE) (λx y H Q=>∃i j,x=.str i/\y=.str j/\Q (.bl (!decide (j.cps.toList<i.cps.toList))) H):=by
 intro pins s σ H x y v u Q I rx ry h;obtain⟨i,j,rfl,rfl,q⟩:=h;obtain⟨t,rfl⟩:=rx;obtain⟨t',rfl⟩:=ry;exact PySem.P.le_str ⟨.bl _,H,I,rfl,q⟩
theorem Z04:BR K EX (λx y H Q=>rI0 (λi j=>.bl (decide (i<j))) x y H Q\/∃i j,x=.str i/\y=.str j/\Q (.bl (decide (i.cps.toList<j.cps.toList))) H) fLt:=by
 intro ρ h H x y v u Q r rx ry fin;unfold fLt at fin;split at fin
 ·simp only[RD]at rx ry;subst rx;subst ry;exact .inl ⟨_,_,rfl,rfl,FE.here fin r (by simp[RD])⟩
 ·simp only[RD]at rx ry;subst rx;subst ry;exact .inr ⟨_,_,rfl,rfl,FE.here fin r (by simp[RD])⟩
 ·exact fin.elim
theorem Z0m:BR K EX (λx y H Q=>rI0 (λi j=>.bl (decide (i<=j))) x y H Q\/∃i j,x=.str i/\y=.str j/\Q (.bl (!decide (j.cps.toList<i.cps.toList))) H) fLe:=by
 intro ρ h H x y v u Q r rx ry fin;unfold fLe at fin;split at fin
 ·simp only[RD]at rx ry;subst rx;subst ry;exact .inl ⟨_,_,rfl,rfl,FE.here fin r (by simp[RD])⟩
 ·simp only[RD]at rx ry;subst rx;subst ry;exact .inr ⟨_,_,rfl,rfl,FE.here fin r (by simp[RD])⟩
 ·exact fin.elim
def eqD:D->D->Option Bool
 | .int i,.int j=>some (decide (i=j))
 | .str i,.str j=>some (decide (i=j))
 | .bl i,.bl j=>some (decide (i=j))
 | .non,.non=>some true
 | .int _,.str _=>some false
 | .str _,.int _=>some false
 | .non,.int _=>some false
 | .int _,.non=>some false
 | .non,.str _=>some false
 | .str _,.non=>some false
 | _,_=>none
def fEq (neg:Bool):D->D->M D:=λx y=>match eqD x y with
 | some b=>pure (.bl (b != neg))
 | none=>bad
theorem zI7 {x:D}{u:V}{k:Bool}(e:eqD x y=some k) (rx:RD K ρ H x v) (ry:RD K ρ H y u):scal v u=true/\decide (v=u)=k:=by
 cases x<;>cases y<;>first
  | (have e':none=some k:=e
     exact nomatch e')
  | (simp only[eqD]at e
     simp only[RD]at rx ry;subst rx;subst ry;cases e;exact⟨rfl,by simp⟩)
theorem Z0v:BR K EX rEq (fEq false):=by
 intro ρ h H x y v u Q r rx ry fin;unfold fEq at fin;cases hk:eqD x y with
 | none=>rw[hk]at fin;exact fin.elim
 | some k =>
  rw[hk]at fin;obtain⟨h1,h2⟩:=zI7 hk rx ry;refine⟨h1,?_⟩;rw[h2];refine FE.here fin r ?_;cases k<;>simp[RD]
def z1a:D->Bool
 | .non=>true
 | .bl _=>true
 | .int _=>true
 | .str _=>true
 | _=>false
def eqF:D->D->Bool
 | .non,.non=>true
 | .bl a,.bl b=>a==b
 | .bl a,.int b=>(if a then 1 else 0)==b
 | .int a,.bl b=>a==(if b then 1 else 0)
 | .int a,.int b=>a==b
 | .str a,.str b=>a==b
 | _,_=>false
def seqD:D->M (List D)
 | .tup xs=>pure xs
 | .fl xs=>pure xs
 | .ref n=>getL n
 | _=>bad
def fIn (neg:Bool):D->D->M D:=λx y=>do
 let ys <- seqD y
 if z1a x&&ys.all z1a then pure (.bl ((ys.any λz=>eqF z x) != neg)) else bad
theorem z87 {x:D}(f:z1a x=true) (r:RD K ρ H x v):z51 v=true:=by
 cases x<;>simp only[RD]at r<;>first|(subst r;rfl)|cases f
theorem zy4 {x:D}{u:V}(f:z1a x=true) (f':z1a y=true) (r:RD K ρ H x v) (r':RD K ρ H y u):eqV v u=eqF x y:=by
 cases x with
 | non=>simp only[RD]at r;subst r;cases y<;>first|(simp only[RD]at r';subst r';rfl)|cases f'
 | bl b=>simp only[RD]at r;subst r;cases y<;>first|(simp only[RD]at r';subst r';rfl)|cases f'
 | int b=>simp only[RD]at r;subst r;cases y<;>first|(simp only[RD]at r';subst r';rfl)|cases f'
 | str b=>simp only[RD]at r;subst r;cases y<;>first|(simp only[RD]at r';subst r';rfl)|cases f'
 | tup b=>cases f
 | fl b=>cases f
 | ref b=>cases f
theorem z6q {K:K5}{ρ:List Addr}{H:Hp}:∀{xs:List D}{vs:List V},RDs K ρ H xs vs->xs.all z1a=true->vs.all z51=true
 | [],vs,r,_=>by simp only[RDs]at r;subst r;rfl
 | x::xs,vs,r,f=>by
  simp only[RDs]at r;obtain⟨v,r2,rfl,h1,h2⟩:=r;rw[K5s,K0k]at f ⊢;exact⟨z87 f.1 h1,z6q h2 f.2⟩
theorem zi7 {K:K5}{ρ:List Addr}{H:Hp}{x:D}{v:V}(f:z1a x=true) (r:RD K ρ H x v):∀{xs:List D}{vs:List V},RDs K ρ H xs vs->xs.all z1a=true->(vs.any λy=>eqV y v)=xs.any λz=>eqF z x
 | [],vs,rs,_=>by simp only[RDs]at rs;subst rs;rfl
 | y::xs,vs,rs,fs=>by
  simp only[RDs]at rs;obtain⟨u,r2,rfl,h1,h2⟩:=rs;rw[K5s,K0k]at fs;rw[K2n,K2n,zy4 fs.1 f h1 r,zi7 f r h2 fs.2]
theorem z2I {u:V}{ys:List D}(r:RH K ρ h H) (ry:RD K ρ H y u) (e:seqD y h=.ok ys h1):h1=h/\∃p xs,u=.ref p/\(SqL K H p xs\/SqT K H p xs)/\RDs K ρ H ys xs:=by
 unfold seqD at e;split at e
 ·cases e;simp only[RD]at ry;obtain⟨p,xs,rfl,h2,h3⟩:=ry;exact⟨rfl,p,xs,rfl,.inr h2,h3⟩
 ·cases e;simp only[RD]at ry;obtain⟨p,xs,rfl,h2,h3⟩:=ry;exact⟨rfl,p,xs,rfl,.inl h2.sq,h3⟩
 ·obtain⟨rfl,q⟩:=z1M e;simp only[RD]at ry;obtain⟨p,rfl,h2⟩:=ry;obtain⟨a,n1,xs,o1,d1⟩:=r.at q;rw[h2]at n1;cases n1;exact⟨rfl,p,xs,rfl,.inl (SqL.of o1),d1⟩
 ·cases e
theorem z3w {x:Exn}(e:seqD y h=.err x h1):False:=by
 unfold seqD at e;split at e
 ·cases e
 ·cases e
 ·exact z1J e
 ·cases e
theorem zU4 {neg:Bool}:BR K EX (rIn K neg) (fIn neg):=by
 intro ρ h H x y v u Q r rx ry fin;have f1:=Fin.bind fin;cases e:seqD y h with
 | bad=>rw[e]at f1;exact f1.elim
 | err z hz=>exact(z3w e).elim
 | ok ys h1 =>
  obtain⟨rfl,p,xs,rfl,hs,hd⟩:=z2I r ry e;rw[e]at f1;have f2:=f1 ρ H .(9) .(a) r;dsimp only at f2;split at f2
  ·rename_i hc;rw[K0k]at hc;refine⟨p,xs,rfl,hs,z87 hc.1 rx,z6q hd hc.2,?_⟩;refine FE.here f2 r ?_;unfold inV;rw[zi7 hc.1 rx hd hc.2];cases neg<;>simp[RD]
  ·exact f2.elim
end
section
variable {es:List Expr}
theorem z7L {c k p}:K0h (.Constant c k p::es) env=(false,eval (.Constant c k p) env)::K0h es env:=rfl
theorem zK8 {c p}:K0h (.Name c p::es) env=(false,eval (.Name c p) env)::K0h es env:=rfl
theorem zz0 {a b c p}:K0h (.Call a b c p::es) env=(false,eval (.Call a b c p) env)::K0h es env:=rfl
theorem zk5 {a b c p}:K0h (.BinOp a b c p::es) env=(false,eval (.BinOp a b c p) env)::K0h es env:=rfl
theorem z9n {a b c p}:K0h (.Compare a b c p::es) env=(false,eval (.Compare a b c p) env)::K0h es env:=rfl
theorem z6z {a b p}:K0h (.Subscript a b p::es) env=(false,eval (.Subscript a b p) env)::K0h es env:=rfl
theorem zp8 {a b p}:K0h (.Tuple a b p::es) env=(false,eval (.Tuple a b p) env)::K0h es env:=rfl
theorem zJ9 {a p}:K0h (.List a p::es) env=(false,eval (.List a p) env)::K0h es env:=rfl
theorem z9x {a b p}:K0h (.UnaryOp a b p::es) env=(false,eval (.UnaryOp a b p) env)::K0h es env:=rfl
theorem z7q {a b c p}:K0h (.ListComp a b c p::es) env=(false,eval (.ListComp a b c p) env)::K0h es env:=rfl
end
section
variable {a b:Expr}
def CO (X:Cx) (EX:XX) (op:CmpOp) (f:D->D->M D):Prop:=∃r,OpR X (K2f op) r/\BR X.K EX r f
theorem zI6:CO X EX .Lt fLt:=⟨_,op_lt.or zf7,Z04⟩
theorem zl5:CO X EX .LtE fLe:=⟨_,op_le.or zb2,Z0m⟩
theorem z7O:CO X EX .Gt fGt:=⟨_,Z0s,ze0 λi j ρ H=>by simp[RD]⟩
theorem zP3:CO X EX .GtE fGe:=⟨_,Z0F,ze0 λi j ρ H=>by simp[RD]⟩
theorem z5S:CO X EX .Eq (fEq false):=⟨_,Z0R,Z0v⟩
theorem zr4:CO X EX .In (fIn false):=⟨_,z9N,zU4⟩
theorem z83:CO X EX .NotIn (fIn true):=⟨_,z6H,zU4⟩
theorem se_c {op:CmpOp}(h:CO X EX op f) (ha:SE X EX a ma) (hb:SE X EX b mb) (hm:K5a op b=false:=by first|exact zv1 _|with_unfolding_all rfl):SE X EX (.Compare a [op] [b] pos) (e2 f ma mb):=by
 obtain⟨r,h1,h2⟩:=h;exact zR6 h1 h2 ha hb hm
def asB:D->M Bool
 | .bl b=>pure b
 | _=>bad
theorem Z0u {t:TE}{m:G->M D}(h:∀σ H Q,tE X.K EX m σ H Q->t σ H Q):∀σ H Q,tT X.K EX (λγ=>do let d <- m γ;asB d) σ H Q->zU0 t σ H Q:=by
 intro σ H Q ⟨ρ,γ,h0,rel,fin⟩;refine h σ H _ ⟨ρ,γ,h0,rel,(Fin.bind fin).mono λd ρ1 h1 H1 p1 e1 r1 f1 v rv=>?_⟩;cases d<;>first|exact(show False from f1).elim|skip
 rename_i b;simp only[RD]at rv;exact⟨b,rv,f1 ρ1 H1 .(9) .(a) r1⟩
theorem sc_c {op:CmpOp}(h:CO X EX op f) (ha:SE X EX a ma) (hb:SE X EX b mb) (hm:K5a op b=false:=by first|exact zv1 _|with_unfolding_all rfl):SC X EX (.Compare a [op] [b] pos) (λγ=>do let d <- e2 f ma mb γ;asB d):=by
 constructor;obtain⟨r,h1,h2⟩:=h;refine PT.imp (zH4 h1 ha.h hb.h hm) (Z0u λσ H Q ⟨ρ,γ,h,rel,fin⟩=>?_);exact⟨ρ,γ,h,rel,(Fin.bind fin).mono λx ρ1 h1 H1 p1 e1 r1 f1 v rv=>⟨ρ1,γ,h1,⟨rel.g.mono p1 e1,r1⟩,(Fin.bind f1).mono λy ρ2 h3 H2 p2 e2 r2 f2 u ru =>
  h2 ρ2 h3 H2 x y v u Q r2 (rv.mono p2 e2) ru f2⟩⟩
def e3 (f g:D->D->M D) (ma mb mc:G->M D):G->M D:=λγ=>do
 let x <- ma γ;let y <- mb γ;let k <- f x y;let t <- asB k
 if t then do
  let z <- mc γ
  g y z
 else pure (.bl false)
theorem zl6 {r r':R2}{g:D->D->M D}(h2:BR X.K EX r f) (h4:BR X.K EX r' g):∀σ H Q,tE X.K EX (e3 f g ma mb mc) σ H Q->zu5 r r' (tE X.K EX ma) (tE X.K EX mb) (tE X.K EX mc) σ H Q:=by
 intro σ H Q ⟨ρ,γ,h,rel,fin⟩;refine⟨ρ,γ,h,rel,(Fin.bind fin).mono λx ρ1 h1 H1 p1 e1 r1 f1 v rv=>⟨ρ1,γ,h1,⟨rel.g.mono p1 e1,r1⟩,(Fin.bind f1).mono λy ρ2 h3 H2 p2 e2 r2 f2 u ru=>?_⟩⟩;refine h2 ρ2 h3 H2 x y v u _ r2 (rv.mono p2 e2) ru ((Fin.bind f2).mono λk ρ3 h5 H3 p3 e3 r3 f3 z rz=>?_);cases k<;>first|exact(show False from f3).elim|skip
 rename_i t;simp only[RD]at rz;refine⟨t,rz,?_⟩;cases t with
 | false =>
  rw[if_neg (by decide)];exact FE.here (d:=.bl false) (h:=h5) (ρ:=ρ3) f3 r3 (by simp[RD])
 | true =>
  rw[if_pos rfl];have f4:Fin X.K EX ρ3 H3 (λd ρ' _ H'=>∀v,RD X.K ρ' H' d v->Q v H') ((mc γ >>= λz=>g y z) h5):=f3;exact⟨ρ3,γ,h5,⟨((rel.g.mono p1 e1).mono p2 e2).mono p3 e3,r3⟩,(Fin.bind f4).mono λw ρ4 h6 H4 p4 e4 r4 f5 q rq=>h4 ρ4 h6 H4 y w u q Q r4 ((ru.mono p3 e3).mono p4 e4) rq f5⟩
theorem zU6 {op op':CmpOp}{g:D->D->M D}(h:CO X EX op f) (h':CO X EX op' g) (ha:SE X EX a ma) (hb:SE X EX b mb) (hc:SE X EX c mc) (hm:lastMarks [op,op'] [b,c]=false:=by with_unfolding_all rfl):SE X EX (.Compare a [op,op'] [b,c] pos) (e3 f g ma mb mc):=by
 constructor;obtain⟨r,h1,h2⟩:=h;obtain⟨r',h3,h4⟩:=h';exact PE.imp (zr5 h1 h3 ha.h hb.h hc.h hm) (zl6 h2 h4)
def eAnd (ma mb:G->M D):G->M D:=λγ=>do
 let x <- ma γ;let t <- asB x
 if t then mb γ else pure (.bl false)
def eOr (ma mb:G->M D):G->M D:=λγ=>do
 let x <- ma γ;let t <- asB x
 if t then pure (.bl true) else mb γ
def eNot (ma:G->M D):G->M D:=λγ=>do
 let x <- ma γ;let t <- asB x
 pure (.bl (!t))
variable {rest:List Expr}
theorem z6t {op:PySem.BoolOp}(ha:SE X EX a ma):SE X EX (.BoolOp op [a] pos) ma:=⟨zS2 ha.h⟩
theorem z5R (ha:SE X EX a ma) (hb:SE X EX (.BoolOp .And (b::rest) pos) mb):SE X EX (.BoolOp .And (a::b::rest) pos) (eAnd ma mb) :=
 ⟨PE.imp (zM0 ha.h hb.h) λσ H Q ⟨ρ,γ,h,rel,fin⟩=>⟨ρ,γ,h,rel,(Fin.bind fin).mono λx ρ1 h1 H1 p1 e1 r1 f1 v rv=>by
  cases x<;>first|exact(show False from f1).elim|skip
  rename_i t;simp only[RD]at rv;refine⟨t,rv,?_⟩;cases t with
  | true=>exact⟨ρ1,γ,h1,⟨rel.g.mono p1 e1,r1⟩,f1⟩
  | false=>exact FE.here (d:=.bl false) (h:=h1) (ρ:=ρ1) f1 r1 (by simp[RD])⟩⟩
theorem zv9 (ha:SE X EX a ma) (hb:SE X EX (.BoolOp .Or (b::rest) pos) mb):SE X EX (.BoolOp .Or (a::b::rest) pos) (eOr ma mb) :=
 ⟨PE.imp (Z0D ha.h hb.h) λσ H Q ⟨ρ,γ,h,rel,fin⟩=>⟨ρ,γ,h,rel,(Fin.bind fin).mono λx ρ1 h1 H1 p1 e1 r1 f1 v rv=>by
  cases x<;>first|exact(show False from f1).elim|skip
  rename_i t;simp only[RD]at rv;refine⟨t,rv,?_⟩;cases t with
  | false=>exact⟨ρ1,γ,h1,⟨rel.g.mono p1 e1,r1⟩,f1⟩
  | true=>exact FE.here (d:=.bl true) (h:=h1) (ρ:=ρ1) f1 r1 (by simp[RD])⟩⟩
theorem zB5 (ha:SE X EX a ma):SE X EX (.UnaryOp .Not a pos) (eNot ma) :=
 ⟨PE.imp (zV0 ha.h) λσ H Q ⟨ρ,γ,h,rel,fin⟩=>⟨ρ,γ,h,rel,(Fin.bind fin).mono λx ρ1 h1 H1 p1 e1 r1 f1 v rv=>by
  cases x<;>first|exact(show False from f1).elim|skip
  rename_i t;simp only[RD]at rv;exact⟨t,rv,FE.here (d:=.bl (!t)) (h:=h1) (ρ:=ρ1) f1 r1 (by simp[RD])⟩⟩⟩
structure SW (X:Cx) (EX:XX) (e:Expr) (m:G->M Bool):Prop where
 h:PW X e (tT X.K EX m)
theorem PW.imp {t:TT}(h:PW X e t) (f:∀σ H Q,t' σ H Q->t σ H Q):PW X e t':=λw pins s σ H Q I z=>h w pins s σ H Q I (f σ H Q z)
def cAnd (ka kb:G->M Bool):G->M Bool:=λγ=>do
 let t <- ka γ
 if t then kb γ else pure false
def cOr (ka kb:G->M Bool):G->M Bool:=λγ=>do
 let t <- ka γ
 if t then pure true else kb γ
def cNot (ka:G->M Bool):G->M Bool:=λγ=>do
 let t <- ka γ
 pure (!t)
theorem z4q (ha:SC X EX a ka):SW X EX (.BoolOp .And [a] pos) ka:=⟨zJ8 ha.h⟩
theorem zg9 (ha:SC X EX a ka):SW X EX (.BoolOp .Or [a] pos) ka:=⟨zN6 ha.h⟩
theorem z6d (ha:SC X EX a ka) (hb:SW X EX (.BoolOp .And (b::rest) pos) kb):SW X EX (.BoolOp .And (a::b::rest) pos) (cAnd ka kb) :=
 ⟨PW.imp (zO6 ha.h hb.h) λσ H Q ⟨ρ,γ,h,rel,fin⟩=>⟨ρ,γ,h,rel,(Fin.bind fin).mono λt ρ1 h1 H1 p1 e1 r1 f1=>by
  cases t with
  | true=>exact⟨ρ1,γ,h1,⟨rel.g.mono p1 e1,r1⟩,f1⟩
  | false=>exact f1 ρ1 H1 .(9) .(a) r1⟩⟩
theorem zL4 (ha:SC X EX a ka) (hb:SW X EX (.BoolOp .Or (b::rest) pos) kb):SW X EX (.BoolOp .Or (a::b::rest) pos) (cOr ka kb) :=
 ⟨PW.imp (zZ9 ha.h hb.h) λσ H Q ⟨ρ,γ,h,rel,fin⟩=>⟨ρ,γ,h,rel,(Fin.bind fin).mono λt ρ1 h1 H1 p1 e1 r1 f1=>by
  cases t with
  | false=>exact⟨ρ1,γ,h1,⟨rel.g.mono p1 e1,r1⟩,f1⟩
  | true=>exact f1 ρ1 H1 .(9) .(a) r1⟩⟩
theorem SW.sc (h:SW X EX e ka):SC X EX e ka:=⟨PW.pt h.h⟩
theorem z3e (ha:SC X EX a ka):SC X EX (.UnaryOp .Not a pos) (cNot ka) :=
 ⟨PT.imp (zL8 ha.h) λσ H Q ⟨ρ,γ,h,rel,fin⟩=>⟨ρ,γ,h,rel,(Fin.bind fin).mono λt ρ1 h1 H1 p1 e1 r1 f1=>f1 ρ1 H1 .(9) .(a) r1⟩⟩
def truD:D->M Bool
 | .non=>pure false
 | .bl b=>pure b
 | .int i=>pure (i != 0)
 | .str y=>if y.length<=sizeLine then pure (decide (y.length≠0)) else bad
 | .tup xs=>pure (!xs.isEmpty)
 | .fl xs=>pure (!xs.isEmpty)
 | .ref n=>do
  let xs <- getL n
  pure (!xs.isEmpty)
def cVal (ma:G->M D):G->M Bool:=λγ=>do
 let x <- ma γ
 truD x
theorem isE (h:RDs K ρ H ds xs):ds.isEmpty=xs.isEmpty:=by
 have:=.(g);cases ds<;>cases xs<;>simp at this ⊢
theorem zD9 {x:D}{Q:Bool->Hp->Prop}(r:RH X.K ρ h H) (rx:RD X.K ρ H x v) (f:Fin X.K EX ρ H (λb _ _ H'=>Q b H') (truD x h)):∃k,TruV X.K v H k/\Q k H:=by
 cases x with
 | non=>simp only[RD]at rx;subst rx;exact⟨false,rfl,f ρ H .(9) .(a) r⟩
 | bl b=>simp only[RD]at rx;subst rx;exact⟨b,rfl,f ρ H .(9) .(a) r⟩
 | int b=>simp only[RD]at rx;subst rx;exact⟨_,rfl,f ρ H .(9) .(a) r⟩
 | str y =>
  simp only[RD]at rx;subst rx;have f':Fin X.K EX ρ H (λb _ _ H'=>Q b H') ((if y.length<=sizeLine then pure (decide (y.length≠0)) else bad:M Bool) h):=f;by_cases hl:y.length<=sizeLine
  ·rw[if_pos hl]at f';refine⟨decide (y.length≠0),⟨hl,?_⟩,f' ρ H .(9) .(a) r⟩;rw[K0o];simp
  ·rw[if_neg hl]at f';exact f'.elim
 | tup xs =>
  simp only[RD]at rx;obtain⟨a,vs,rfl,h1,h2⟩:=rx;exact⟨!xs.isEmpty,.inr (.inl ⟨vs,h1,by rw[isE h2]⟩),f ρ H .(9) .(a) r⟩
 | fl xs =>
  simp only[RD]at rx;obtain⟨a,vs,rfl,h1,h2⟩:=rx;exact⟨!xs.isEmpty,.inl ⟨vs,h1.sq,by rw[isE h2]⟩,f ρ H .(9) .(a) r⟩
 | ref n =>
  have f1:=Fin.bind f;cases e:getL n h with
  | bad=>rw[e]at f1;exact f1.elim
  | err z hz=>exact(z1J e).elim
  | ok xs h1 =>
   obtain⟨rfl,q1⟩:=z1M e;rw[e]at f1;have f2:=f1 ρ H .(9) .(a) r;simp only[RD]at rx;obtain⟨a,rfl,h2⟩:=rx;obtain⟨a1,n1,vs,o1,d1⟩:=r.at q1;rw[h2]at n1;cases n1;exact⟨!xs.isEmpty,.inl ⟨vs,SqL.of o1,by rw[isE d1]⟩,f2 ρ H .(9) .(a) r⟩
theorem z0s (ha:SE X EX a ma) (he:∀whole,isTrue a X.env whole=(do let v <- whole;K4o a.pos;K36 [v] (truthy v)):=by intro _;rfl):SC X EX a (cVal ma) :=
 ⟨PT.imp (zp7 ha.h he) λσ H Q ⟨ρ,γ,h,rel,fin⟩=>⟨ρ,γ,h,rel,(Fin.bind fin).mono λx ρ1 h1 H1 p1 e1 r1 f1 v rv=>zD9 r1 rv f1⟩⟩
def eIf (k:G->M Bool) (ma mb:G->M D):G->M D:=λγ=>do
 let t <- k γ
 if t then ma γ else mb γ
def aNil:G->M (List D):=λ_=>pure []
def z7 (ma:G->M D) (mr:G->M (List D)):G->M (List D):=λγ=>do
 let x <- ma γ;let r <- mr γ
 pure (x::r)
variable {es:List Expr}
theorem Z0:SA X EX [] aNil:=⟨PA.imp z3a λσ H Q ⟨ρ,γ,h,rel,fin⟩=>fin ρ H .(9) .(a) rel.h [] RDs.nil⟩
theorem z6 (ha:SE X EX a ma) (hr:SA X EX es mr) (hs:K0h (a::es) X.env=(false,eval a X.env)::K0h es X.env:=by first|exact z7L|exact zK8|exact zz0|exact zk5|exact z9n|exact z6z|exact zp8|exact zJ9|exact z9x|exact z7q|rfl):SA X EX (a::es) (z7 ma mr) :=
 ⟨PA.imp (z1p ha.h hr.h hs) λσ H Q ⟨ρ,γ,h,rel,fin⟩=>⟨ρ,γ,h,rel,(Fin.bind fin).mono λx ρ1 h1 H1 p1 e1 r1 f1 v rv=>⟨ρ1,γ,h1,⟨rel.g.mono p1 e1,r1⟩,(Fin.bind f1).mono λds ρ2 h2 H2 p2 e2 r2 f2 vs rvs =>
  f2 ρ2 H2 .(9) .(a) r2 (v::vs) (RDs.cons (rv.mono p2 e2) rvs)⟩⟩⟩
def eTup (mr:G->M (List D)):G->M D:=λγ=>do
 let xs <- mr γ
 if xs.length<=sizeLine then pure (.tup xs) else bad
def eLst (mr:G->M (List D)):G->M D:=λγ=>do
 let xs <- mr γ
 newL xs
theorem z4y {k:Nat}(h:SA X EX es mr):SE X EX (.Tuple es k pos) (eTup mr) :=
 ⟨PE.imp (zS7 h.h) λσ H Q ⟨ρ,γ,h,rel,fin⟩=>⟨ρ,γ,h,rel,(Fin.bind fin).mono λxs ρ1 h1 H1 p1 e1 r1 f1 vs rvs=>by
  by_cases hl:xs.length<=sizeLine
  ·rw[if_pos hl]at f1;exact⟨by rw[<- rvs.length];exact hl,λp hp=>FE.tup (h:=h1) f1 r1 rvs hp⟩
  ·rw[if_neg hl]at f1;exact(show False from f1).elim⟩⟩
theorem z0q (h:SA X EX es mr):SE X EX (.List es pos) (eLst mr) :=
 ⟨PE.imp (zV7 h.h) λσ H Q ⟨ρ,γ,h,rel,fin⟩=>⟨ρ,γ,h,rel,(Fin.bind fin).mono λxs ρ1 h1 H1 p1 e1 r1 f1 vs rvs=>by
  unfold newL at f1;split at f1
  ·rename_i hl;exact⟨by rw[<- rvs.length];exact hl,λp hp=>FE.lst (h:=h1) f1 r1 rvs hp⟩
  ·exact(show False from f1).elim⟩⟩
def fIx:D->D->M D
 | .str z,.int i=>if z.length<=sizeLine then (match atI z.cps.toList i with
  | some c=>pure (.str ⟨#[c]⟩)
  | none=>bad) else bad
 | x,.int i=>do
  let xs <- seqD x
  match atI xs i with
  | some d=>pure d
  | none=>bad
 | _,_=>bad
theorem zF6 {i:Int}(h:RDs K ρ H ds xs) (e:atI ds i=some d):∃x,atI xs i=some x/\RD K ρ H d x:=by
 unfold atI at e ⊢;rw[<- .(g)];cases q:ixN ds.length i with
 | none=>rw[q]at e;cases e
 | some j=>rw[q]at e;exact h.get e
theorem Z0J:BR X.K EX (rIx X.K) fIx:=by
 intro ρ h H x y v u Q r rx ry fin;unfold fIx at fin;split at fin
 ·simp only[RD]at rx ry;subst rx;subst ry;rename_i z i;by_cases hl:z.length<=sizeLine
  ·rw[if_pos hl]at fin;cases hc:atI z.cps.toList i with
   | none=>rw[hc]at fin;exact fin.elim
   | some c =>
    rw[hc]at fin;exact .inr (.inr ⟨_,_,c,rfl,rfl,hl,hc,FE.here fin r (by simp[RD])⟩)
  ·rw[if_neg hl]at fin;exact fin.elim
 ·rename_i i _;simp only[RD]at ry;subst ry;have f1:=Fin.bind fin;cases e:seqD x h with
  | bad=>rw[e]at f1;exact f1.elim
  | err z hz=>exact(z3w e).elim
  | ok ys h1 =>
   obtain⟨rfl,p,xs,rfl,hs,hd⟩:=z2I r rx e;rw[e]at f1;have f2:=f1 ρ H .(9) .(a) r;dsimp only at f2;cases q:atI ys i with
   | none=>rw[q]at f2;exact f2.elim
   | some d =>
    rw[q]at f2;obtain⟨w,h2,h3⟩:=zF6 hd q;rcases hs with hs|hs
    ·exact .inl ⟨p,xs,i,w,rfl,rfl,hs,h2,FE.here f2 r h3⟩
    ·exact .inr (.inl ⟨p,xs,i,w,rfl,rfl,hs,h2,FE.here f2 r h3⟩)
 ·exact fin.elim
theorem J4 (ha:SE X EX a ma) (hb:SE X EX b mb) (hs:za4 b:=by intro _ _;rfl):SE X EX (.Subscript a b pos) (e2 fIx ma mb) :=
 zd2 (ta:=tE X.K EX ma) (tb:=tE X.K EX mb) (zZ3 zR3 ha.h hb.h hs) Z0J
end
section
variable {a b:Expr}{es:List Expr}
def AR (K:K5) (EX:XX) (r:List V->Hp->VK->Prop) (f:List D->M D):Prop:=∀ρ h H ds vs Q,RH K ρ h H->RDs K ρ H ds vs->FE K EX ρ H Q (f ds h)->r vs H Q
def Z7 (f:List D->M D) (mr:G->M (List D)):G->M D:=λγ=>do
 let xs <- mr γ
 f xs
theorem z1L {r:List V->Hp->VK->Prop}{f:List D->M D}(h:PE X e (tCB r (tL X.K EX mr))) (hr:AR X.K EX r f):SE X EX e (Z7 f mr) :=
 ⟨PE.imp h λσ H Q ⟨ρ,γ,h,rel,fin⟩=>⟨ρ,γ,h,rel,(Fin.bind fin).mono λxs ρ1 h1 H1 p1 e1 r1 f1 vs rvs=>hr ρ1 h1 H1 xs vs Q r1 rvs f1⟩⟩
theorem rds1 (h:RDs K ρ H [d] vs):∃v,vs=[v]/\RD K ρ H d v:=by
 simp only[RDs]at h;obtain⟨x,r,rfl,h2,rfl⟩:=h;exact⟨x,rfl,h2⟩
def fLen:List D->M D
 | [.str z]=>if z.length<=sizeLine then pure (.int z.length) else bad
 | [x]=>do
  let xs <- seqD x
  pure (.int xs.length)
 | _=>bad
theorem zP4:AR X.K EX (λxs H Q=>∃x n,xs=[x]/\LenV X.K x H n/\Q (.int n) H) fLen:=by
 intro ρ h H ds vs Q r rd fin;unfold fLen at fin;split at fin
 ·rename_i z;obtain⟨v,rfl,rv⟩:=rds1 rd;simp only[RD]at rv;subst rv;by_cases hl:z.length<=sizeLine
  ·rw[if_pos hl]at fin;exact⟨_,z.length,rfl,⟨hl,rfl⟩,FE.here fin r (by simp[RD])⟩
  ·rw[if_neg hl]at fin;exact fin.elim
 ·rename_i x _;obtain⟨v,rfl,rv⟩:=rds1 rd;have f1:=Fin.bind fin;cases e:seqD x h with
  | bad=>rw[e]at f1;exact f1.elim
  | err z hz=>exact(z3w e).elim
  | ok ys h1 =>
   obtain⟨rfl,p,xs,rfl,hs,hd⟩:=z2I r rv e;rw[e]at f1;have f2:=f1 ρ H .(9) .(a) r;refine⟨_,ys.length,rfl,?_,FE.here f2 r (by simp[RD])⟩;rw[hd.length];rcases hs with hs|hs
   ·exact .inl ⟨xs,hs,rfl⟩
   ·exact .inr ⟨xs,hs,rfl⟩
 ·exact fin.elim
theorem z0W (hg:Gl X "len") (hm:X.mg "len" = none) (ha:SA X EX [a] mr) (he:K0h [a] X.env=[(false,eval a X.env)]:=by rfl):SE X EX (.Call (.Name "len" p) [a] [] pos) (Z7 fLen mr) :=
 z1L (z24 zs0 hg hm PySem.boot_len ha.h (by decide) (by decide) he rfl) zP4
def J7:List D->M D
 | [.tup xs]=>pure (.tup xs)
 | [x]=>do
  let xs <- seqD x
  pure (.tup xs)
 | _=>bad
theorem zm9:AR X.K EX (λxs H Q=>∃p ys,xs=[.ref p]/\((SqL X.K H p ys/\∀l,H l=none->Q (.ref l) (upd H l (.tup ys)))\/(SqT X.K H p ys/\Q (.ref p) H))) J7:=by
 intro ρ h H ds vs Q r rd fin;unfold J7 at fin;split at fin
 ·obtain⟨v,rfl,rv⟩:=rds1 rd;have rv':=rv;simp only[RD]at rv;obtain⟨q,xs,rfl,h1,h2⟩:=rv;exact⟨q,xs,rfl,.inr ⟨h1,FE.here fin r rv'⟩⟩
 ·rename_i x hx;obtain⟨v,rfl,rv⟩:=rds1 rd;have f1:=Fin.bind fin;cases e:seqD x h with
  | bad=>rw[e]at f1;exact f1.elim
  | err z hz=>exact(z3w e).elim
  | ok ys h1 =>
   obtain⟨rfl,q,xs,rfl,hs,hd⟩:=z2I r rv e;rw[e]at f1;have f2:=f1 ρ H .(9) .(a) r;refine⟨q,xs,rfl,?_⟩;rcases hs with hs|hs
   ·exact .inl ⟨hs,λl hl=>FE.tup f2 r hd hl⟩
   ·refine .inr ⟨hs,FE.here f2 r ?_⟩;simp only[RD];exact⟨q,xs,rfl,hs,hd⟩
 ·exact fin.elim
theorem z03 (hg:Gl X "tuple") (hm:X.mg "tuple" = none) (ha:SA X EX [a] mr) (he:K0h [a] X.env=[(false,eval a X.env)]:=by rfl):SE X EX (.Call (.Name "tuple" p) [a] [] pos) (Z7 J7 mr) :=
 z1L (z3q z5v hg hm .(3) ha.h (by decide) (by decide) he rfl) zm9
def zl9:List D->M D
 | [x]=>do
  let xs <- seqD x
  newL xs
 | _=>bad
theorem zK4:AR X.K EX (λxs H Q=>∃p ys,xs=[.ref p]/\(SqL X.K H p ys\/SqT X.K H p ys)/\∀l,H l=none->Q (.ref l) (upd H l (.lst ys))) zl9:=by
 intro ρ h H ds vs Q r rd fin;unfold zl9 at fin;split at fin
 ·rename_i x;obtain⟨v,rfl,rv⟩:=rds1 rd;have f1:=Fin.bind fin;cases e:seqD x h with
  | bad=>rw[e]at f1;exact f1.elim
  | err z hz=>exact(z3w e).elim
  | ok ys h1 =>
   obtain⟨rfl,q,xs,rfl,hs,hd⟩:=z2I r rv e;rw[e]at f1;have f2:=f1 ρ H .(9) .(a) r;unfold newL at f2;dsimp only at f2;split at f2
   ·exact⟨q,xs,rfl,hs,λl hl=>FE.lst f2 r hd hl⟩
   ·exact f2.elim
 ·exact fin.elim
theorem zy7 (hg:Gl X "list") (hm:X.mg "list" = none) (ha:SA X EX [a] mr) (he:K0h [a] X.env=[(false,eval a X.env)]:=by rfl):SE X EX (.Call (.Name "list" p) [a] [] pos) (Z7 zl9 mr) :=
 z1L (z3q z6T hg hm .(3) ha.h (by decide) (by decide) he rfl) zK4
def tyD:D->M String
 | .non=>pure "NoneType"
 | .bl _=>pure "bool"
 | .int _=>pure "int"
 | .str _=>pure "str"
 | .tup _=>pure "tuple"
 | .fl _=>pure "list"
 | .ref n=>λh=>match h[n]? with
  | .(l _)=>.ok "list" h
  | some .dct=>.ok "dict" h
  | some (.dK _)=>.ok "dict" h
  | _=>.bad
def subT (t T:String):Bool:=t==T||(t=="bool"&&T=="int")
def tyNames:List String:=["NoneType","bool","int","str","tuple","list","dict"]
def tyAsked:List String:=["bool","int","str","tuple","list","dict"]
theorem zF4:tyNames.all (λt=>tyAsked.all λT=>decide (K6a [] (.type t) (.type T)=some (subT t T)))=true:=by decide +kernel
theorem z8k {t:String}(h1:t∈tyNames) (h2:T∈tyAsked):K6a K (.type t) (.type T)=some (subT t T):=by
 have q:=zF4;rw[K1w]at q;have q2:=q t h1;rw[K1w]at q2;have q3:=q2 T h2;exact of_decide_eq_true q3
def fIsi (T:String):D->M D:=λx=>do
 let t <- tyD x
 pure (.bl (subT t T))
theorem zx9 {σ:L2.St}{E:Value->Shared->Prop}{c:Value}{k:Bool}(I:Inv X pins σ H s) (h:SqT X.K H q xs) (e:K6a X.K (.type "tuple") c=some k) (hQ:∀tk,Q (.bool k) { s with toks:=tk }):
 wpAny .(4) X.A (call (.builtin "isinstance") [.ref q,c]) Q E s:=by
 obtain⟨its,_,ht,_⟩:=I.tuple h;obtain⟨o,h1,h2,_⟩:=ht;exact K1u Z1d I.kIn ⟨o,h1,h2⟩ e (λz=>nomatch z) hQ
theorem zF8 {σ:L2.St}{E:Value->Shared->Prop}{c:Value}{k:Bool}(I:Inv X pins σ H s) (h:SqL X.K H q xs) (e:K6a X.K (.type "list") c=some k) (hQ:∀tk,Q (.bool k) { s with toks:=tk }):
 wpAny .(4) X.A (call (.builtin "isinstance") [.ref q,c]) Q E s:=by
 obtain⟨its,_,ht,_⟩:=I.list h;obtain⟨o,n,h1,h2,_⟩:=ht;exact K1u K82 I.kIn ⟨o,h1,h2⟩ e (λz=>nomatch z) hQ
def TyV (K:K5) (H:Hp) (v:V) (t:String):Prop:=match v with
 | .non=>t = "NoneType"
 | .bl _=>t = "bool"
 | .int _=>t = "int"
 | .str _=>t = "str"
 | .ref q=>(t = "tuple"/\∃xs,SqT K H q xs)\/(t = "list"/\∃xs,SqL K H q xs)\/(t = "dict"/\(H q=some (dctO q)\/∃kvs,H q=some (.dK kvs)))
 | _=>False
theorem zo5 (hT:T∈tyAsked):z3F X (.builtin "isinstance") (λxs H Q=>∃x t,xs=[x,.ty T]/\TyV X.K H x t/\Q (.bl (subT t T)) H):=by
 intro pins s σ H xs us Q I r h;obtain⟨x,t,rfl,ty,q⟩:=h;obtain⟨u,w',rfl,rx,rt⟩:=vals2 r;cases rt;have fin:∀tk,EP X pins σ Q (.bool (subT t T)) { s with toks:=tk }:=λtk=>⟨.bl _,H,I.tok tk,rfl,q⟩;have tb:∀{z:V} {t':Value},z=x->TyOf X.K H z t'->t'=.type t->t∈tyNames->wpAny .(4) X.A (call (.builtin "isinstance") [u,.type T]) (EP X pins σ Q) X.xe s:=λ{z t'} e1 ty' e2 hn=>by
  subst e1;subst e2;exact z9Y I rx ty' (z8k hn hT) fin
 cases x with
 | non=>exact tb rfl .non (by rw[show t = "NoneType" from ty]) (by rw[show t = "NoneType" from ty];decide)
 | bl y=>exact tb rfl (.bl y) (by rw[show t = "bool" from ty]) (by rw[show t = "bool" from ty];decide)
 | int y=>exact tb rfl (.int y) (by rw[show t = "int" from ty]) (by rw[show t = "int" from ty];decide)
 | str y=>exact tb rfl (.str y) (by rw[show t = "str" from ty]) (by rw[show t = "str" from ty];decide)
 | ref y =>
  cases rx;rcases(show (t = "tuple"/\∃xs,SqT X.K H y xs)\/(t = "list"/\∃xs,SqL X.K H y xs)\/(t = "dict"/\(H y=some (dctO y)\/∃kvs,H y=some (.dK kvs))) from ty) with ⟨rfl,xs,hs⟩|⟨rfl,xs,hs⟩|⟨rfl,hs|⟨kvs,hs⟩⟩
  ·exact zx9 I hs (z8k (by decide) hT) fin
  ·exact zF8 I hs (z8k (by decide) hT) fin
  ·exact K1u K83 I.kIn (I.hok y _ hs).1 (z8k (by decide) hT) (λz=>nomatch z) fin
  ·exact tb rfl (.dK hs) rfl (by decide)
 | byt y=>exact(show False from ty).elim
 | flt y=>exact(show False from ty).elim
 | ty y=>exact(show False from ty).elim
theorem zG0 {x:D}{t:String}(r:RH K ρ h H) (rx:RD K ρ H x v) (e:tyD x h=.ok t h1):h1=h/\TyV K H v t:=by
 cases x with
 | non=>cases e;simp only[RD]at rx;subst rx;exact⟨rfl,rfl⟩
 | bl y=>cases e;simp only[RD]at rx;subst rx;exact⟨rfl,rfl⟩
 | int y=>cases e;simp only[RD]at rx;subst rx;exact⟨rfl,rfl⟩
 | str y=>cases e;simp only[RD]at rx;subst rx;exact⟨rfl,rfl⟩
 | tup y=>cases e;simp only[RD]at rx;obtain⟨q,xs,rfl,h2,_⟩:=rx;exact⟨rfl,.inl ⟨rfl,xs,h2⟩⟩
 | fl y=>cases e;simp only[RD]at rx;obtain⟨q,xs,rfl,h2,_⟩:=rx;exact⟨rfl,.inr (.inl ⟨rfl,xs,h2.sq⟩)⟩
 | ref n =>
  simp only[RD]at rx;obtain⟨q,rfl,h2⟩:=rx;unfold tyD at e;dsimp only at e;cases q1:h[n]? with
  | none=>rw[q1]at e;cases e
  | some ob =>
   rw[q1]at e;cases ob with
   | set ks=>cases e
   | dK kvs =>
    cases e;obtain⟨a1,n1,vs,o1,d1⟩:=r.at q1;rw[h2]at n1;cases n1;exact⟨rfl,.inr (.inr ⟨rfl,.inr ⟨_,o1⟩⟩)⟩
   | dF kvs=>cases e
   | exc c=>cases e
   | ins _ _=>cases e
   | lst ds =>
    cases e;obtain⟨a1,n1,vs,o1,d1⟩:=r.at q1;rw[h2]at n1;cases n1;exact⟨rfl,.inr (.inl ⟨rfl,vs,SqL.of o1⟩)⟩
   | dct =>
    cases e;obtain⟨a1,n1,o1⟩:=r.at q1;rw[h2]at n1;cases n1;exact⟨rfl,.inr (.inr ⟨rfl,.inl o1⟩)⟩
theorem zO2 {x:D}{z:Exn}(e:tyD x h=.err z h1):False:=by
 cases x with
 | ref n =>
  unfold tyD at e;dsimp only at e;split at e<;>cases e
 | _=>cases e
def eIsi (T:String) (ma:G->M D):G->M D:=λγ=>do
 let x <- ma γ
 fIsi T x
theorem za8 {T:Str}{T':String}(hg:Gl X "isinstance") (hm:X.mg "isinstance" = none) (hgT:Gl X T) (hmT:X.mg T=none) (hv:K5n T=some (.type T')) (hT:T'∈tyAsked) (ha:SE X EX a ma) (hn:T≠"__name__":=by decide) (hd:(T==("__debug__":Str))=false:=by decide)
 (he:K0h [a,.Name T p2] X.env=[(false,eval a X.env),(false,eval (.Name T p2) X.env)]:=by rfl) (he2:K0h [.Name T p2] X.env=[(false,eval (.Name T p2) X.env)]:=by rfl):SE X EX (.Call (.Name "isinstance" p) [a,.Name T p2] [] pos) (eIsi T' ma):=by
 constructor;have hA:PA X [a,.Name T p2] (za2 (tE X.K EX ma) (za2 (tC (.ty T')) tNil)):=z1p ha.h (z1p (zE4 hgT hmT hv rfl hn hd) z3a he2) (by rw[he,he2]);refine PE.imp (z24 (zo5 hT) hg hm .(3) hA (by decide) (by decide) (by rw[he,he2]) (by rw[he2];rfl)) λσ H Q ⟨ρ,γ,h,rel,fin⟩=>⟨ρ,γ,h,rel,(Fin.bind fin).mono λx ρ1 h1 H1 p1 e1 r1 f1 v rv=>?_⟩;have f2:=Fin.bind f1;cases e:tyD x h1 with
 | bad=>rw[e]at f2;exact f2.elim
 | err z hz=>exact(zO2 e).elim
 | ok t h2 =>
  obtain⟨rfl,ty⟩:=zG0 r1 rv e;rw[e]at f2;have f3:=f2 ρ1 H1 .(9) .(a) r1;exact⟨v,t,rfl,ty,FE.here f3 r1 (by simp[RD])⟩
def blsD:List D->Option (List Bool)
 | []=>some []
 | .bl b::r=>(blsD r).map (b::·)
 | _::_=>none
def fAll (any:Bool):List D->M D
 | [.ref n]=>do
  let xs <- getL n
  match blsD xs with
  | some bs=>pure (.bl (if any then bs.any id else bs.all id))
  | none=>bad
 | _=>bad
theorem ze2 {K:K5}{ρ:List Addr}{H:Hp}:∀{xs:List D}{bs:List Bool}{vs:List V},blsD xs=some bs->RDs K ρ H xs vs->vs=bs.map V.bl
 | [],bs,vs,e,r=>by simp only[RDs]at r;cases e;subst r;rfl
 | x::xs,bs,vs,e,r=>by
  simp only[RDs]at r;obtain⟨v,r2,rfl,h1,h2⟩:=r;cases x<;>first|(simp only[blsD]at e;cases e;done)|skip
  rename_i b;simp only[blsD]at e;obtain⟨bs',e1,rfl⟩:=K16.mp e;simp only[RD]at h1;subst h1;rw[ze2 e1 h2];rfl
theorem z8A:∀{bs:List Bool}{us:List Value},Vals (bs.map V.bl) us->us=bs.map Z19
 | [],us,h=>by cases h;rfl
 | b::bs,us,h=>by
  cases h with
  | cons h1 h2=>cases h1;rw[z8A h2];rfl
theorem range_all {bs:List Bool}:((K0m bs.length).all λi=>bs.getD i false)=bs.all id:=by
 rw[K0o,K1w,K1w];constructor
 ·intro h x hx;obtain⟨i,hi,rfl⟩:=K1m hx;have:=h i (K18.mpr hi);simpa [K9q,hi] using this
 ·intro h i hi;have hi':=K18.mp hi;have:=h bs[i] (K6s hi');simpa [K9q,hi'] using this
theorem range_any {bs:List Bool}:((K0m bs.length).any λi=>bs.getD i false)=bs.any id:=by
 rw[K0o,K5o,K5o];constructor
 ·rintro⟨i,hi,h⟩;have hi':=K18.mp hi;refine⟨bs[i],K6s hi',?_⟩;simpa [K9q,hi'] using h
 ·rintro⟨x,hx,h⟩;obtain⟨i,hi,rfl⟩:=K1m hx;exact⟨i,K18.mpr hi,by simpa [K9q,hi] using h⟩
theorem z7s (any:Bool) (hc:X.calm=true):z3F X (.builtin (if any then "any" else "all")) (λxs H Q=>∃(q:Addr) (bs:List Bool),xs=[.ref q]/\SqL X.K H q (bs.map V.bl)/\Q (.bl (if any then bs.any id else bs.all id)) H):=by
 intro pins s σ H xs us Q I r h;obtain⟨q,bs,rfl,hq,hQ⟩:=h;obtain⟨u,rfl,ru⟩:=vals1 r;cases ru;obtain⟨its,rv,pl,hz⟩:=I.list hq;have ei:=z8A rv;have ne:q≠s.heap.objs.size:=K0u (by obtain⟨o,n,e,_⟩:=pl;exact K0c e);have pl':=pl.isList;have hwalk:=Walks.list (prog:=X.prog) (w:=X.w) (A:=X.A.in1) (show X.A.in1.handled=none from I.ok.hd hc) .(2) q ne its.toArray;have len:its.toArray.size=bs.length:=by rw[ei];simp
 have st0:(s.heap.push { cls:=.type "list_iterator",data:=.fields #[.ref q,.int 0 0] }).IsListIter .(2) q 0/\(s.heap.push { cls:=.type "list_iterator",data:=.fields #[.ref q,.int 0 0] }).IsList q its.toArray :=
  ⟨⟨_,K0f _ rfl,rfl,rfl⟩,pl'.at λo e=>K8 _ e⟩
 have tr:TruthOf X.prog X.w X.A.in1 (λi v=>its.toArray[i]?=some v) λi=>bs.getD i false:=λi v s' Q' E' hv hq'=>by
  have hv':its[i]?=some v:=by simpa using hv
  rw[ei,K0i]at hv';cases eb:bs[i]? with
  | none=>rw[eb]at hv';cases hv'
  | some b =>
   rw[eb]at hv';cases hv';have:bs.getD i false=b:=by simp[K9q,eb]
   dsimp only at hq';rw[this]at hq';exact K3n hq'
 have fin:∀k,k=(if any then bs.any id else bs.all id)->∀h' tk,(∀b o,b∉[.(2)]->(s.heap.push { cls:=.type "list_iterator",data:=.fields #[.ref q,.int 0 0] }).get? b=some o->h'.get? b=some o) ->
  EP X pins σ Q (.bool k) { s with heap:=h',toks:=tk }:=λk ek h' tk hk=>by
  subst ek;refine⟨.bl _,H,I.kept λb o e=>hk b o ?_ (K8 _ e),rfl,hQ⟩;intro z;have:b=s.heap.objs.size:=by simpa using z
  exact absurd (K0c e) (by rw[this];exact K31 _)
 cases any with
 | false =>
  refine call_all_walk (K6m pl' ⟨_,_,_,_,_,_,_,rfl,hwalk,st0,tr,λh' tk hk=>?_⟩);exact fin _ (by rw[len];exact range_all) h' tk hk
 | true =>
  refine call_any_walk (K6m pl' ⟨_,_,_,_,_,_,_,rfl,hwalk,st0,tr,λh' tk hk=>?_⟩);exact fin _ (by rw[len];exact range_any) h' tk hk
theorem zW6 {any:Bool}:AR X.K EX (λxs H Q=>∃(q:Addr) (bs:List Bool),xs=[.ref q]/\SqL X.K H q (bs.map V.bl)/\Q (.bl (if any then bs.any id else bs.all id)) H) (fAll any):=by
 intro ρ h H ds vs Q r rd fin;unfold fAll at fin;split at fin
 ·rename_i n;obtain⟨v,rfl,rv⟩:=rds1 rd;have f1:=Fin.bind fin;cases e:getL n h with
  | bad=>rw[e]at f1;exact f1.elim
  | err z hz=>exact(z1J e).elim
  | ok xs h1 =>
   obtain⟨rfl,q1⟩:=z1M e;rw[e]at f1;have f2:=f1 ρ H .(9) .(a) r;dsimp only at f2;cases eb:blsD xs with
   | none=>rw[eb]at f2;exact f2.elim
   | some bs =>
    rw[eb]at f2;simp only[RD]at rv;obtain⟨q,rfl,h2⟩:=rv;obtain⟨a1,n1,vs,o1,d1⟩:=r.at q1;rw[h2]at n1;cases n1;have ev:=ze2 eb d1;subst ev;exact⟨q,bs,rfl,SqL.of o1,FE.here f2 r (by simp[RD])⟩
 ·exact fin.elim
theorem zx3 (hc:X.calm=true) (hg:Gl X "any") (hm:X.mg "any" = none) (ha:SA X EX [a] mr) (he:K0h [a] X.env=[(false,eval a X.env)]:=by rfl):SE X EX (.Call (.Name "any" p) [a] [] pos) (Z7 (fAll true) mr) :=
 z1L (z24 (z7s true hc) hg hm .(3) ha.h (by decide) (by decide) he rfl) zW6
end
abbrev EX0:XX:=λ_ _ _ _=>False
def spB (K:K5) (mf:List D->M D) (n:Nat):Sp:=λvs H Q _=>vs.length=n/\∃ρ ds h,RH K ρ h H/\RDs K ρ H ds vs/\FE K EX0 ρ H Q (mf ds h)
structure Fn (P:K1d) (w:World) (K:K5) (mg:Str->Option Value) (base:Heap) (k:Nat) (x:Str) (n:Nat) (mf:List D->M D):Prop where
 ex:∃f fd ps,FnOk P w K mg base CX0 k f fd ps (spB K mf n)/\Binds K fd ps []/\K24 K (.ref f)=true/\mg x=.(r f)
def eFn (n:Nat) (mf:List D->M D) (mr:G->M (List D)):G->M D:=λγ=>do
 let xs <- mr γ
 if xs.length=n then mf xs else bad
section
variable {a b:Expr}{es:List Expr}{k:Nat}
theorem Z4 (F:Fn X.prog X.w X.K X.mg X.base k x n mf) (hr:Room k X.A) (hg:Gl X x) (ha:SA X EX0 (a::es) mr) (hdb:(x==("__debug__":Str))=false:=by decide)
 (he:K0h (a::es) X.env=(false,eval a X.env)::K0h es X.env:=by rfl) (hpl:(backTo pos (K0h es X.env)).any (·.1)=false:=by rfl):SE X EX0 (.Call (.Name x p) (a::es) [] pos) (eFn n mf mr):=by
 constructor;obtain⟨f,fd,ps,h1,h2,h3,h4⟩:=F.ex;refine PE.imp (zL0 h1 hr hg h4 h3 h2 .nil zK9 ha.h hdb he hpl) λσ H Q ⟨ρ,γ,h,rel,fin⟩=>⟨ρ,γ,h,rel,(Fin.bind fin).mono λxs ρ1 h1 H1 p1 e1 r1 f1 vs rvs=>?_⟩;show spB X.K mf n (vs++[]) H1 Q E0;rw[K13];by_cases hl:xs.length=n
 ·rw[if_pos hl]at f1;exact⟨by rw[<- rvs.length];exact hl,ρ1,xs,h1,r1,rvs,f1⟩
 ·rw[if_neg hl]at f1;exact(show False from f1).elim
end
def z16 (n:Nat) (ds:List D):G:=ds.map some++K0g (n - ds.length) none
def runF (n:Nat) (mb:G->M Out) (ds:List D):M D:=do
 let o <- mb (z16 n ds)
 match o with
 | .nx _=>pure .non
 | .rt d=>pure d
 | _=>bad
theorem z3k (h:RDs K ρ H ds vs):RG K ρ H (z16 N.length ds) (L2.start N vs):=by
 have hl:=.(g);refine⟨by unfold z16 L2.start;simp[hl],λi d e=>?_⟩;unfold z16 at e;unfold L2.start;rw[K4f]at e ⊢;rw[K0d]at e ⊢;rw[<- hl];split at e
 ·rename_i hi;rw[if_pos hi];rw[K0i]at e ⊢;cases q:ds[i]? with
  | none=>rw[q]at e;cases e
  | some d' =>
   rw[q]at e;cases e;obtain⟨v,h1,h2⟩:=h.get q;exact⟨v,by rw[h1];rfl,h2⟩
 ·rw[K3m]at e;split at e<;>cases e
section
variable {t:Option Expr}{l:Nat}{tg:List Expr}
theorem ze6 {a p}:K2w (.List a p) t l env=pure false:=rfl
theorem z84 {a b p}:K2w (.Tuple a b p) t l env=pure false:=rfl
theorem z4C {c k p}:K2w (.Constant c k p) t l env=pure false:=rfl
theorem zg6 {c p}:K2w (.Name c p) t l env=pure false:=rfl
theorem za1 {a b c p}:K2w (.Call a b c p) t l env=pure false:=rfl
theorem z85 {a b c p}:K2w (.BinOp a b c p) t l env=pure false:=rfl
theorem z5d {a b c p}:K2w (.Compare a b c p) t l env=pure false:=rfl
theorem z3S {a b p}:K2w (.Subscript a b p) t l env=pure false:=rfl
theorem z5h {a b p}:K2w (.UnaryOp a b p) t l env=pure false:=rfl
theorem z6P {a b p}:K2w (.BoolOp a b p) t l env=pure false:=rfl
theorem z8e {a b c p}:K2w (.IfExp a b c p) t l env=pure false:=rfl
end
section
variable {a b:Expr}{ms mt:G->M Out}
def bNil:G->M Out:=λγ=>pure (.nx γ)
def z9 (ms mt:G->M Out):G->M Out:=λγ=>do
 let o <- ms γ
 match o with
 | .nx γ'=>mt γ'
 | o=>pure o
theorem Z2:SB X EX [] bNil:=⟨PSs.imp zF3 λσ H D ⟨ρ,γ,h,rel,fin⟩=>fin ρ H .(9) .(a) rel.h σ rel.g⟩
theorem z8 (h1:S1 X EX st ms) (h2:SB X EX sts mt):SB X EX (st::sts) (z9 ms mt) :=
 ⟨PSs.imp (zn1 h1.h h2.h) λσ H D ⟨ρ,γ,h,rel,fin⟩=>⟨ρ,γ,h,rel,(Fin.bind fin).mono λo ρ1 h1 H1 p1 e1 r1 f1=>by
  cases o with
  | nx γ'=>exact λσ' rg=>⟨ρ1,γ',h1,⟨rg,r1⟩,f1⟩
  | rt d=>exact f1 ρ1 H1 .(9) .(a) r1
  | bk γ'=>exact f1 ρ1 H1 .(9) .(a) r1
  | ct γ'=>exact f1 ρ1 H1 .(9) .(a) r1⟩⟩
def sRet (ma:G->M D):G->M Out:=λγ=>do
 let d <- ma γ
 pure (.rt d)
theorem k7 (ha:SE X EX a ma):S1 X EX (.Return (some a) pos) (sRet ma) :=
 ⟨PS.imp (zS6 ha.h) λσ H D ⟨ρ,γ,h,rel,fin⟩=>⟨ρ,γ,h,rel,(Fin.bind fin).mono λd ρ1 h1 H1 p1 e1 r1 f1 v rv=>f1 ρ1 H1 .(9) .(a) r1 v rv⟩⟩
def z0p (ma:G->M D):G->M Out:=λγ=>do
 let _ <- ma γ
 pure (.nx γ)
theorem z0N (ha:SE X EX a ma) (hs:K2w a none pos.line X.env=pure false:=by first|exact ze6|exact z84|exact z4C|exact zg6|exact za1|exact z85|exact z5d|exact z3S|exact z5h|exact z6P|exact z8e|rfl):S1 X EX (.Expr a pos) (z0p ma) :=
 ⟨PS.imp (zy3 ha.h hs) λσ H D ⟨ρ,γ,h,rel,fin⟩=>⟨ρ,γ,h,rel,(Fin.bind fin).mono λd ρ1 h1 H1 p1 e1 r1 f1 v rv=>f1 ρ1 H1 .(9) .(a) r1 σ (rel.g.mono p1 e1)⟩⟩
def sIf (k:G->M Bool) (ms mt:G->M Out):G->M Out:=λγ=>do
 let t <- k γ
 if t then ms γ else mt γ
theorem s_if (hc:SC X EX c kc) (h1:SB X EX sts ms) (h2:SB X EX sts' mt):S1 X EX (.If c sts sts' pos) (sIf kc ms mt) :=
 ⟨PS.imp (Z0A hc.h h1.h h2.h) λσ H D ⟨ρ,γ,h,rel,fin⟩=>⟨ρ,γ,h,rel,(Fin.bind fin).mono λt ρ1 h1 H1 p1 e1 r1 f1=>by
  cases t with
  | true=>exact⟨ρ1,γ,h1,⟨rel.g.mono p1 e1,r1⟩,f1⟩
  | false=>exact⟨ρ1,γ,h1,⟨rel.g.mono p1 e1,r1⟩,f1⟩⟩⟩
def tG (K:K5) (EX:XX) (m:D->G->M G):TG:=λv σ H Q=>∃ρ γ h d,Rel K ρ γ h σ H/\RD K ρ H d v/\Fin K EX ρ H (λγ' ρ' _ H'=>∀σ',RG K ρ' H' γ' σ'->Q σ' H') (m d γ h)
def tGs (K:K5) (EX:XX) (m:List D->G->M G):TGs:=λvs σ H Q=>∃ρ γ h ds,Rel K ρ γ h σ H/\RDs K ρ H ds vs/\Fin K EX ρ H (λγ' ρ' _ H'=>∀σ',RG K ρ' H' γ' σ'->Q σ' H') (m ds γ h)
structure SG (X:Cx) (EX:XX) (tg:Expr) (m:D->G->M G):Prop where
 h:PG X tg (tG X.K EX m)
structure SGs (X:Cx) (EX:XX) (tg:List Expr) (m:List D->G->M G):Prop where
 h:PGs X tg (tGs X.K EX m)
theorem PG.imp {t t':TG}(h:PG X e t) (f:∀v σ H Q,t' v σ H Q->t v σ H Q):PG X e t':=λpins s σ H v u Q I r z=>h pins s σ H v u Q I r (f v σ H Q z)
theorem PGs.imp {e:List Expr}{t t':TGs}(h:PGs X e t) (f:∀v σ H Q,t' v σ H Q->t v σ H Q):PGs X e t':=λpins s σ H v u Q I r z=>h pins s σ H v u Q I r (f v σ H Q z)
def tGk (K:K5) (EX:XX) (own:List Nat) (m:D->G->M G):TG:=λv σ H Q=>∃ρ γ h d,Rel K ρ γ h σ H/\RD K ρ H d v/\Fin K EX ρ H (λγ' ρ' _ H'=>∀σ',RG K ρ' H' γ' σ'->(∀j:Nat,j∉own->σ'[j]?=σ[j]?)->Q σ' H') (m d γ h)
def tGks (K:K5) (EX:XX) (own:List Nat) (m:List D->G->M G):TGs:=λvs σ H Q=>∃ρ γ h ds,Rel K ρ γ h σ H/\RDs K ρ H ds vs/\Fin K EX ρ H (λγ' ρ' _ H'=>∀σ',RG K ρ' H' γ' σ'->(∀j:Nat,j∉own->σ'[j]?=σ[j]?)->Q σ' H') (m ds γ h)
structure SGk (X:Cx) (EX:XX) (tg:Expr) (own:List Nat) (m:D->G->M G):Prop where
 h:PG X tg (tGk X.K EX own m)
structure SGks (X:Cx) (EX:XX) (tg:List Expr) (own:List Nat) (m:List D->G->M G):Prop where
 h:PGs X tg (tGks X.K EX own m)
def gN (i:Nat):D->G->M G:=λd γ=>pure (γ.set i (some d))
theorem j9 (i:Nat) (hN:X.N.Nodup) (hi:X.N[i]?=some x:=by rfl) (hx:Loc X.env.scope x:=by first|exact Or.inl rfl|exact Or.inr rfl) (hf:X.fn x=true\/X.env.scope.names.lookup x=some .local:=by first|exact .inl rfl|exact .inr rfl|assumption):SG X EX (.Name x pos) (gN i) :=
 ⟨PG.imp (z7E hN hi hx hf) λv σ H Q ⟨ρ,γ,h,d,rel,rd,fin⟩=>fin ρ H .(9) .(a) rel.h _ (rel.g.set i rd)⟩
theorem Z9 (i:Nat) (hN:X.N.Nodup) (hi:X.N[i]?=some x:=by rfl) (hx:Loc X.env.scope x:=by first|exact Or.inl rfl|exact Or.inr rfl) (hf:X.fn x=true\/X.env.scope.names.lookup x=some .local:=by first|exact .inl rfl|exact .inr rfl|assumption):SGk X EX (.Name x pos) [i] (gN i) :=
 ⟨PG.imp (z7E hN hi hx hf) λv σ H Q ⟨ρ,γ,h,d,rel,rd,fin⟩=>fin ρ H .(9) .(a) rel.h _ (rel.g.set i rd) λj hj=>K29 (λz=>hj (by simp[z]))⟩
def z3o:List D->G->M G:=λds γ=>match ds with
 | []=>pure γ
 | _=>bad
def z0r (m:D->G->M G) (ms:List D->G->M G):List D->G->M G:=λds γ=>match ds with
 | []=>bad
 | d::r=>do
  let γ1 <- m d γ
  ms r γ1
theorem z3z:SGs X EX [] z3o:=⟨PGs.imp za9 λv σ H Q ⟨ρ,γ,h,ds,rel,rd,fin⟩=>by
 cases ds with
 | nil=>simp only[RDs]at rd;exact⟨rd,fin ρ H .(9) .(a) rel.h σ rel.g⟩
 | cons d r=>exact(show False from fin).elim⟩
theorem z0y {es:List Expr}{m:D->G->M G}{mr:List D->G->M G}(h1:SG X EX e m) (h2:SGs X EX es mr) (hs:(K34 (e::es) X.env).map (·.2)=assign e X.env::(K34 es X.env).map (·.2):=by rfl):SGs X EX (e::es) (z0r m mr) :=
 ⟨PGs.imp (z8y h1.h h2.h hs) λvs σ H Q ⟨ρ,γ,h,ds,rel,rd,fin⟩=>by
  cases ds with
  | nil=>exact(show False from fin).elim
  | cons d r =>
   simp only[RDs]at rd;obtain⟨v,vr,rfl,h3,h4⟩:=rd;have fin':Fin X.K EX ρ H (λγ' ρ' _ H'=>∀σ',RG X.K ρ' H' γ' σ'->Q σ' H') ((m d γ >>= λγ1=>mr r γ1) h):=fin;exact⟨v,vr,rfl,ρ,γ,h,d,rel,h3,(Fin.bind fin').mono λγ1 ρ1 h1 H1 p1 e1 r1 f1 σ1 g1=>⟨ρ1,γ1,h1,r,⟨g1,r1⟩,h4.mono p1 e1,f1⟩⟩⟩
theorem zr2:SGks X EX [] [] z3o:=⟨PGs.imp za9 λv σ H Q ⟨ρ,γ,h,ds,rel,rd,fin⟩=>by
 cases ds with
 | nil=>simp only[RDs]at rd;exact⟨rd,fin ρ H .(9) .(a) rel.h σ rel.g λ_ _=>rfl⟩
 | cons d r=>exact(show False from fin).elim⟩
theorem z6x {es:List Expr}{o1 o2:List Nat}{m:D->G->M G}{mr:List D->G->M G}(h1:SGk X EX e o1 m) (h2:SGks X EX es o2 mr) (hs:(K34 (e::es) X.env).map (·.2)=assign e X.env::(K34 es X.env).map (·.2):=by rfl):SGks X EX (e::es) (o1++o2) (z0r m mr) :=
 ⟨PGs.imp (z8y h1.h h2.h hs) λvs σ H Q ⟨ρ,γ,h,ds,rel,rd,fin⟩=>by
  cases ds with
  | nil=>exact(show False from fin).elim
  | cons d r =>
   simp only[RDs]at rd;obtain⟨v,vr,rfl,h3,h4⟩:=rd;have fin':Fin X.K EX ρ H (λγ' ρ' _ H'=>∀σ',RG X.K ρ' H' γ' σ'->(∀j:Nat,j∉o1++o2->σ'[j]?=σ[j]?)->Q σ' H') ((m d γ >>= λγ1=>mr r γ1) h):=fin;refine⟨v,vr,rfl,ρ,γ,h,d,rel,h3,(Fin.bind fin').mono λγ1 ρ1 h1 H1 p1 e1 r1 f1 σ1 g1 k1=>⟨ρ1,γ1,h1,r,⟨g1,r1⟩,h4.mono p1 e1,f1.mono λγ2 ρ2 h2 H2 p2 e2 r2 f2 σ2 g2 k2=>f2 σ2 g2 λj hj=>?_⟩⟩;rw[K00,not_or]at hj;rw[k2 j hj.2,k1 j hj.1]⟩
def gT (n:Nat) (m:List D->G->M G):D->G->M G:=λd γ=>match d with
 | .tup xs=>if xs.length=n then m xs γ else bad
 | _=>bad
theorem z5a {es:List Expr}{k:Nat}(hc:X.calm=true) (h:SGs X EX es m) (hn:(K34 es X.env).length=n:=by rfl) (hst:(K34 es X.env).findIdx? (·.1)=none:=by rfl):SG X EX (.Tuple es k pos) (gT n m) :=
 ⟨PG.imp (zv8 hc h.h hn hst) λv σ H Q ⟨ρ,γ,h,d,rel,rd,fin⟩=>by
  cases d<;>first|exact(show False from fin).elim|skip
  rename_i xs;simp only[RD]at rd;obtain⟨q,vs,rfl,h1,h2⟩:=rd;have fin':Fin X.K EX ρ H (λγ' ρ' _ H'=>∀σ',RG X.K ρ' H' γ' σ'->Q σ' H') ((if xs.length=n then m xs γ else bad) h):=fin;by_cases hl:xs.length=n
  ·rw[if_pos hl]at fin';exact⟨q,vs,rfl,h1,by rw[<- h2.length];exact hl,ρ,γ,h,xs,rel,h2,fin'⟩
  ·rw[if_neg hl]at fin';exact(show False from fin').elim⟩
theorem zA5 {es:List Expr}{k:Nat}(hc:X.calm=true) (h:SGks X EX es own m) (hn:(K34 es X.env).length=n:=by rfl) (hst:(K34 es X.env).findIdx? (·.1)=none:=by rfl):SGk X EX (.Tuple es k pos) own (gT n m) :=
 ⟨PG.imp (zv8 hc h.h hn hst) λv σ H Q ⟨ρ,γ,h,d,rel,rd,fin⟩=>by
  cases d<;>first|exact(show False from fin).elim|skip
  rename_i xs;simp only[RD]at rd;obtain⟨q,vs,rfl,h1,h2⟩:=rd;have fin':Fin X.K EX ρ H (λγ' ρ' _ H'=>∀σ',RG X.K ρ' H' γ' σ'->(∀j:Nat,j∉own->σ'[j]?=σ[j]?)->Q σ' H') ((if xs.length=n then m xs γ else bad) h):=fin;by_cases hl:xs.length=n
  ·rw[if_pos hl]at fin';exact⟨q,vs,rfl,h1,by rw[<- h2.length];exact hl,ρ,γ,h,xs,rel,h2,fin'⟩
  ·rw[if_neg hl]at fin';exact(show False from fin').elim⟩
def fSet:D->D->D->M Unit:=λo i v=>match o,i with
 | .ref n,.int k=>λh=>match h[n]? with
  | .(l xs)=>(match ixN xs.length k with
   | some j=>.ok () (h.set n (.lst (xs.set j v)))
   | none=>.bad)
  | _=>.bad
 | _,_=>bad
def gIx (mo mi:G->M D):D->G->M G:=λv γ=>do
 let o <- mo γ;let i <- mi γ;let _ <- fSet o i v
 pure γ
theorem zD5 {o i:Expr}{mi:G->M D}(ho:SE X EX o mo) (hi:SE X EX i mi)
 (ha:∀v,assign (.Subscript o i pos) X.env v=(do
  let ov <- K36 [v] (eval o X.env);let iv <- K36 [v,ov] (eval i X.env)
  K4o pos
  K36 [v,ov,iv] (K9v ov iv v)
  Z2t [v,ov,iv] []):=by intro _;rfl):SG X EX (.Subscript o i pos) (gIx mo mi) :=
 ⟨PG.imp (zt9 ho.h hi.h set_list ha) λv σ H Q ⟨ρ,γ,h,d,rel,rd,fin⟩=>⟨ρ,γ,h,rel,(Fin.bind fin).mono λod ρ1 h1 H1 p1 e1 r1 f1 ov ro=>⟨ρ1,γ,h1,⟨rel.g.mono p1 e1,r1⟩,(Fin.bind f1).mono λid ρ2 h2 H2 p2 e2 r2 f2 iv ri=>by
  have f3:=Fin.bind f2;cases od<;>first|exact(show False from f3).elim|skip
  rename_i n;cases id<;>first|exact(show False from f3).elim|skip
  rename_i k;simp only[RD]at ro ri;obtain⟨q,rfl,hq⟩:=ro;subst ri;have hq2:=p2 n q hq;unfold fSet at f3;dsimp only at f3;cases e4:h2[n]? with
  | none=>rw[e4]at f3;exact(show False from f3).elim
  | some ob =>
   cases ob with
   | set ks=>rw[e4]at f3;exact(show False from f3).elim
   | dct=>rw[e4]at f3;exact(show False from f3).elim
   | dK kvs=>rw[e4]at f3;exact(show False from f3).elim
   | dF kvs=>rw[e4]at f3;exact(show False from f3).elim
   | exc c=>rw[e4]at f3;exact(show False from f3).elim
   | ins _ _=>rw[e4]at f3;exact(show False from f3).elim
   | lst xs =>
    rw[e4]at f3;dsimp only at f3;cases e5:ixN xs.length k with
    | none=>rw[e5]at f3;exact(show False from f3).elim
    | some j =>
     rw[e5]at f3;obtain⟨a1,n1,vs,o1,d1⟩:=r2.at e4;rw[hq2]at n1;cases n1;have rd2:=(rd.mono p1 e1).mono p2 e2;have dd:=d1.set j rd2;refine⟨q,vs,k,j,rfl,rfl,o1,by rw[<- d1.length];exact e5,?_⟩;have ext:Ext X.K H2 (upd H2 q (.lst (vs.set j v))):=Ext.upd (.inr ⟨_,o1,trivial⟩);have f4:=f3 ρ2 _ .(9) ext (r2.set e4 hq2 dd);exact f4 ρ2 _ .(9) .(a) (r2.set e4 hq2 dd) σ (((rel.g.mono p1 e1).mono p2 e2).mono .(9) ext)⟩⟩⟩
def sAsg (ma:G->M D) (g:D->G->M G):G->M Out:=λγ=>do
 let d <- ma γ;let γ1 <- g d γ
 pure (.nx γ1)
theorem z74 (ha:SE X EX a ma) (hg:SG X EX tg g) (hs:swapsWithSole [tg] a pos.line X.env=pure false:=by rfl) (hw:swappedStores [tg] a X.env=pure none:=by rfl)
 (h1:(K34 [tg] X.env).map (·.2)=[assign tg X.env]:=by rfl):S1 X EX (.Assign [tg] a pos) (sAsg ma g) :=
 ⟨PS.imp (zP7 ha.h hg.h hs hw h1) λσ H D ⟨ρ,γ,h,rel,fin⟩=>⟨ρ,γ,h,rel,(Fin.bind fin).mono λd ρ1 h1 H1 p1 e1 r1 f1 v rv=>⟨ρ1,γ,h1,d,⟨rel.g.mono p1 e1,r1⟩,rv,(Fin.bind f1).mono λγ1 ρ2 h2 H2 p2 e2 r2 f2 σ2 g2 =>
  f2 ρ2 H2 .(9) .(a) r2 σ2 g2⟩⟩⟩
theorem j6 (i:Nat) (hN:X.N.Nodup) (ha:SE X EX a ma) (hi:X.N[i]?=some x:=by rfl) (hx:Loc X.env.scope x:=by first|exact Or.inl rfl|exact Or.inr rfl) (hs:K2w a (some (.Name x p)) pos.line X.env=pure false:=by first|exact ze6|exact z84|exact z4C|exact zg6|exact za1|exact z85|exact z5d|exact z3S|exact z5h|exact z6P|exact z8e|rfl)
 (hf:X.fn x=true\/X.env.scope.names.lookup x=some .local:=by first|exact .inl rfl|exact .inr rfl|assumption):S1 X EX (.Assign [.Name x p] a pos) (sAsg ma (gN i)) :=
 ⟨PS.imp (zS4 hN hi hx ha.h hs hf) λσ H D ⟨ρ,γ,h,rel,fin⟩=>⟨ρ,γ,h,rel,(Fin.bind fin).mono λd ρ1 h1 H1 p1 e1 r1 f1 v rv=>f1 ρ1 H1 .(9) .(a) r1 _ ((rel.g.mono p1 e1).set i rv)⟩⟩
end
section
variable {a o:Expr}
def updL (n:Nat) (f:List D->Option (D×List D)):M D:=λh=>match h[n]? with
 | .(l xs)=>(match f xs with
  | some (d,ys)=>if ys.length<=sizeLine then .ok d (h.set n (.lst ys)) else .bad
  | none=>.bad)
 | _=>.bad
def z3H:D->M Nat
 | .ref n=>λh=>match h[n]? with
  | .(l _)=>.ok n h
  | _=>.bad
 | _=>bad
def j8 (n:Nat) (v:D):M D:=updL n λxs=>some (.non,xs++[v])
def fPop (n:Nat):M D:=updL n λxs=>(xs[xs.length - 1]?).map λd=>(d,xs.dropLast)
def z5e (n:Nat) (i:D):M D:=match i with
 | .int k=>updL n λxs=>if -(2 ^ 63)<=k/\k<2 ^ 63 then (match K8l k xs.length with
  | some j=>(xs[j]?).map λd=>(d,xs.eraseIdx j)
  | none=>none) else none
 | _=>bad
def eM1 (f:Nat->D->M D) (mo ma:G->M D):G->M D:=λγ=>do
 let o <- mo γ;let n <- z3H o;let v <- ma γ
 f n v
def eM0 (f:Nat->M D) (mo:G->M D):G->M D:=λγ=>do
 let o <- mo γ;let n <- z3H o
 f n
theorem z3g {Q:VK}{f:List D->Option (D×List D)}(r:RH K ρ h H) (hq:ρ[n]?=some q) (fin:FE K EX ρ H Q (updL n f h)):
 ∃xs d ys vs,f xs=some (d,ys)/\ys.length<=sizeLine/\H q=.(l vs)/\RDs K ρ H xs vs/\∀v ws,RD K ρ H d v->RDs K ρ H ys ws->Q v (upd H q (.lst ws)):=by
 unfold updL at fin;cases e:h[n]? with
 | none=>rw[e]at fin;exact fin.elim
 | some ob =>
  cases ob with
  | set ks=>rw[e]at fin;exact fin.elim
  | dct=>rw[e]at fin;exact fin.elim
  | dK kvs=>rw[e]at fin;exact fin.elim
  | dF kvs=>rw[e]at fin;exact fin.elim
  | exc c=>rw[e]at fin;exact fin.elim
  | ins _ _=>rw[e]at fin;exact fin.elim
  | lst xs =>
   rw[e]at fin;dsimp only at fin;cases e2:f xs with
   | none=>rw[e2]at fin;exact fin.elim
   | some dy =>
    obtain⟨d,ys⟩:=dy;rw[e2]at fin;dsimp only at fin;split at fin
    ·rename_i hl;obtain⟨a1,n1,vs,o1,d1⟩:=r.at e;rw[hq]at n1;cases n1;refine⟨xs,d,ys,vs,e2,hl,o1,d1,λv ws rv rw'=>?_⟩;have ext:Ext K H (upd H q (.lst ws)):=Ext.upd (.inr ⟨_,o1,trivial⟩);exact fin ρ _ .(9) ext (r.set e hq rw') v (rv.mono .(9) ext)
    ·exact fin.elim
theorem zg5 (r:RH K ρ h H) (hq:ρ[n]?=some q) (f:Fin K EX ρ H Z (z3H (.ref n) h)):tyV K "list" (.ref q) H/\Z n ρ h H:=by
 unfold z3H at f;dsimp only at f;cases e:h[n]? with
 | none=>rw[e]at f;exact f.elim
 | some ob =>
  cases ob with
  | set ks=>rw[e]at f;exact f.elim
  | dct=>rw[e]at f;exact f.elim
  | dK kvs=>rw[e]at f;exact f.elim
  | dF kvs=>rw[e]at f;exact f.elim
  | exc c=>rw[e]at f;exact f.elim
  | ins _ _=>rw[e]at f;exact f.elim
  | lst xs =>
   rw[e]at f;obtain⟨a1,n1,vs,o1,d1⟩:=r.at e;rw[hq]at n1;cases n1;exact⟨.inl ⟨rfl,vs,SqL.of o1⟩,f ρ H .(9) .(a) r⟩
theorem zK7 {f:Nat->D->M D}(hr:∀ρ h H n q y u Q,RH X.K ρ h H->ρ[n]?=some q->RD X.K ρ H y u->FE X.K EX ρ H Q (f n y h)->r (.ref q) [u] H Q):
 ∀σ H Q,tE X.K EX (eM1 f mo ma) σ H Q->tBM X.K "list" r (tE X.K EX mo) (za2 (tE X.K EX ma) tNil) σ H Q:=λσ H Q ⟨ρ,γ,h,rel,fin⟩=>⟨ρ,γ,h,rel,(Fin.bind fin).mono λx ρ1 h1 H1 p1 e1 r1 f1 v rv=>by
 have f2:=Fin.bind f1;cases x<;>first|exact(show False from f2).elim|skip
 rename_i n;simp only[RD]at rv;obtain⟨q,rfl,hq⟩:=rv;obtain⟨lt,f3⟩:=zg5 r1 hq f2;exact⟨lt,ρ1,γ,h1,⟨rel.g.mono p1 e1,r1⟩,(Fin.bind f3).mono λy ρ2 h2 H2 p2 e2 r2 f4 u ru=>hr ρ2 h2 H2 n q y u Q r2 (p2 n q hq) ru f4⟩⟩
theorem Z0h {f:Nat->M D}(hr:∀ρ h H n q Q,RH X.K ρ h H->ρ[n]?=some q->FE X.K EX ρ H Q (f n h)->r (.ref q) [] H Q):
 ∀σ H Q,tE X.K EX (eM0 f mo) σ H Q->tBM0 X.K "list" r (tE X.K EX mo) σ H Q:=λσ H Q ⟨ρ,γ,h,rel,fin⟩=>⟨ρ,γ,h,rel,(Fin.bind fin).mono λx ρ1 h1 H1 p1 e1 r1 f1 v rv=>by
 have f2:=Fin.bind f1;cases x<;>first|exact(show False from f2).elim|skip
 rename_i n;simp only[RD]at rv;obtain⟨q,rfl,hq⟩:=rv;obtain⟨lt,f3⟩:=zg5 r1 hq f2;exact⟨lt,hr ρ1 h1 H1 n q Q r1 hq f3⟩⟩
theorem Y3 (ho:SE X EX o mo) (ha:SE X EX a ma)
 (hbase:K5b o "append" X.env (eval o X.env)=eval o X.env:=by rfl)
 (hfew:((backTo cpos (K0h [a] X.env)).all (λx=>!x.1)&&(K55 cpos (K39 [] X.env)).all (λx=>x.1.isSome)
 &&decide (([a]:List Expr).length+([]:List K4z).length+(if ([]:List K4z).isEmpty then 0 else 1)<30))=true:=by rfl)
 (hline:(apos.endLine==cpos.line)=true:=by rfl) (hs:K0h [a] X.env=[(false,eval a X.env)]:=by rfl) :
 SE X EX (.Call (.Attribute o "append" apos) [a] [] cpos) (eM1 j8 mo ma) :=
 ⟨PE.imp (zm1 K4t PySem.F.slot_list_append PySem.F.type_list_append z70 ho.h (z1p ha.h z3a hs) hbase hfew hline hs rfl) (zK7 λρ h H n q y u Q r hq ru fin=>by
  obtain⟨xs,d,ys,vs,g1,g2,g3,g4,g5⟩:=z3g r hq fin;cases g1;have hl:=g4.length;rw[K3,K09]at g2;exact⟨q,vs,u,rfl,rfl,g3,by omega,g5 _ _ (by simp[RD]) (g4.append (RDs.cons ru RDs.nil))⟩)⟩
theorem RDs.dropLast {K:K5}{ρ:List Addr}{H:Hp}{ds:List D}{xs:List V}(h:RDs K ρ H ds xs):RDs K ρ H ds.dropLast xs.dropLast:=by
 rw[K9d,K9d,.(g)];exact h.take _
theorem z6j (ho:SE X EX o mo) (hbase:K5b o "pop" X.env (eval o X.env)=eval o X.env:=by rfl) (hline:(apos.endLine==cpos.line)=true:=by rfl):
 SE X EX (.Call (.Attribute o "pop" apos) [] [] cpos) (eM0 fPop mo) :=
 ⟨PE.imp (zS1 K4t K9a K99 zM6 ho.h hbase hline) (Z0h λρ h H n q Q r hq fin=>by
  obtain⟨xs,d,ys,vs,g1,g2,g3,g4,g5⟩:=z3g r hq fin;obtain⟨d',e1,e2⟩:=K16.mp g1;cases e2;obtain⟨v,e3,e4⟩:=g4.get e1;rw[g4.length]at e3;exact⟨q,vs,v,rfl,rfl,g3,e3,g5 _ _ e4 g4.dropLast⟩)⟩
theorem zk8 (ho:SE X EX o mo) (ha:SE X EX a ma)
 (hbase:K5b o "pop" X.env (eval o X.env)=eval o X.env:=by rfl)
 (hfew:((backTo cpos (K0h [a] X.env)).all (λx=>!x.1)&&(K55 cpos (K39 [] X.env)).all (λx=>x.1.isSome)
 &&decide (([a]:List Expr).length+([]:List K4z).length+(if ([]:List K4z).isEmpty then 0 else 1)<30))=true:=by rfl)
 (hline:(apos.endLine==cpos.line)=true:=by rfl) (hs:K0h [a] X.env=[(false,eval a X.env)]:=by rfl) :
 SE X EX (.Call (.Attribute o "pop" apos) [a] [] cpos) (eM1 z5e mo ma) :=
 ⟨PE.imp (zm1 K4t K9a K99 zq2 ho.h (z1p ha.h z3a hs) hbase hfew hline hs rfl) (zK7 λρ h H n q y u Q r hq ru fin=>by
  cases y<;>first|exact(show False from fin).elim|skip
  rename_i k;simp only[RD]at ru;subst ru;obtain⟨xs,d,ys,vs,g1,g2,g3,g4,g5⟩:=z3g r hq fin;split at g1
  ·rename_i hk;cases e5:K8l k xs.length with
   | none=>rw[e5]at g1;cases g1
   | some j =>
    rw[e5]at g1;obtain⟨d',e1,e2⟩:=K16.mp g1;cases e2;obtain⟨v,e3,e4⟩:=g4.get e1;exact⟨q,vs,k,j,v,rfl,rfl,g3,hk.1,hk.2,by rw[<- g4.length];exact e5,e3,g5 _ _ e4 (g4.eraseIdx j)⟩
  ·cases g1)⟩
end
inductive Src where
 | con (xs:List D)
 | lst (n:Nat) (xs:List D)
 | obj (n:Nat) (o:O) (xs:List D)
variable{mi mi1:G->M Src}{src:Src}{F:Src->Nat->G->List D->M Unit}{F1:Src->G->List D->M Unit}
def Src.items:Src->List D
 | .con xs=>xs
 | .lst _ xs=>xs
 | .obj _ _ xs=>xs
def Src.good:Src->AH->Prop
 | .con _,_=>True
 | .lst n xs,h=>h[n]?=.(l xs)
 | .obj n o _,h=>h[n]?=some o
open Classical in
noncomputable def Src.chk (s:Src):M Unit:=λh=>if s.good h then .ok () h else .bad
def JOK (K:K5) (src:Src) (ρ:List Addr) (H:Hp) (J:It):Prop:=∀i ρ1 h1 H1,Pre ρ ρ1->Ext K H H1->RH K ρ1 h1 H1->src.good h1 ->
 (∀d,src.items[i]?=some d->J.go i H1/\∀x H2,J.yld i H1 x H2->RD K ρ1 H2 d x/\RH K ρ1 h1 H2/\Ext K H1 H2)/\(src.items.length=i->J.stop i H1)
def tI (K:K5) (EX:XX) (m:G->M Src):TI:=λσ H R=>∃ρ γ h,Rel K ρ γ h σ H/\Fin K EX ρ H (λsrc ρ' _ H'=>∀J,JOK K src ρ' H' J->R J H') (m γ h)
structure SI (X:Cx) (EX:XX) (tg iter:Expr) (m:G->M Src):Prop where
 h:PI X tg iter (tI X.K EX m)
theorem PI.imp {t t':TI}(h:PI X tg e t) (f:∀σ H R,t' σ H R->t σ H R):PI X tg e t':=λpins s σ H R I z=>h pins s σ H R I (f σ H R z)
section
variable {a o:Expr}
def z0c (ma:G->M D):G->M Src:=λγ=>do
 let x <- ma γ
 match x with
 | .fl xs=>pure (.con xs)
 | .ref n=>do
  let xs <- getL n
  pure (.lst n xs)
 | _=>bad
theorem z0z (ha:SE X EX a ma):SI X EX tg a (z0c ma) :=
 ⟨PI.imp (zF7 ha.h) λσ H R ⟨ρ,γ,h,rel,fin⟩=>⟨ρ,γ,h,rel,(Fin.bind fin).mono λx ρ1 h1 H1 p1 e1 r1 f1 v rv=>by
  cases x<;>first|exact(show False from f1).elim|skip
  case fl xs =>
   simp only[RD]at rv;obtain⟨q,vs,rfl,h2,h3⟩:=rv;refine⟨q,rfl,⟨vs,h2.sq⟩,f1 ρ1 H1 .(9) .(a) r1 _ λi ρ2 h4 H2 p2 e2 r2 _=>⟨λd hd=>?_,λhi=>?_⟩⟩
   ·have h3':=h3.mono p2 e2;obtain⟨x,g1,g2⟩:=h3'.get hd;refine⟨⟨vs,x,(e2.l _ _ h2).sq,g1⟩,λy H3 ⟨z1,z2⟩=>?_⟩;subst z1;have:=z2 vs (e2.l _ _ h2).sq;rw[g1]at this;cases this;exact⟨g2,r2,Ext.refl _ _⟩
   ·exact⟨vs,(e2.l _ _ h2).sq,by rw[<- h3.length];exact K4v hi⟩
  case ref n =>
   have f2:Fin X.K EX ρ1 H1 (λsrc ρ' _ H'=>∀J,JOK X.K src ρ' H' J->R J H') ((getL n >>= λxs=>(pure (.lst n xs):M Src)) h1):=f1;have f3:=Fin.bind f2;cases e3:getL n h1 with
   | bad=>rw[e3]at f3;exact f3.elim
   | err z hz=>exact(z1J e3).elim
   | ok xs h3 =>
    obtain⟨rfl,q1⟩:=z1M e3;rw[e3]at f3;simp only[RD]at rv;obtain⟨q,rfl,hq⟩:=rv;obtain⟨a1,n1,vs,o1,d1⟩:=r1.at q1;rw[hq]at n1;cases n1;have f4:=f3 ρ1 H1 .(9) .(a) r1;refine⟨q,rfl,⟨vs,SqL.of o1⟩,f4 ρ1 H1 .(9) .(a) r1 _ λi ρ2 h4 H2 p2 e2 r2 g=>?_⟩;have g':h4[n]?=.(l xs):=g;obtain⟨a2,n2,vs2,o2,d2⟩:=r2.at g';rw[p2 n q hq]at n2;cases n2;refine⟨λd hd=>?_,λhi=>⟨vs2,SqL.of o2,by rw[<- d2.length];exact K4v hi⟩⟩;obtain⟨x,g1,g2⟩:=d2.get hd;refine⟨⟨vs2,x,SqL.of o2,g1⟩,λy H3 ⟨z1,z2⟩=>?_⟩;subst z1;have:=z2 vs2 (SqL.of o2);rw[g1]at this;cases this;exact⟨g2,r2,Ext.refl _ _⟩⟩⟩
def Y7 (ma:G->M D):G->M Src:=λγ=>do
 let x <- ma γ
 match x with
 | .tup xs=>pure (.con xs)
 | _=>bad
theorem z09 (ha:SE X EX a ma):SI X EX tg a (Y7 ma) :=
 ⟨PI.imp (zO8 ha.h) λσ H R ⟨ρ,γ,h,rel,fin⟩=>⟨ρ,γ,h,rel,(Fin.bind fin).mono λx ρ1 h1 H1 p1 e1 r1 f1 v rv=>by
  cases x<;>first|exact(show False from f1).elim|skip
  rename_i xs;simp only[RD]at rv;obtain⟨q,vs,rfl,h2,h3⟩:=rv;refine⟨q,rfl,⟨vs,h2⟩,f1 ρ1 H1 .(9) .(a) r1 _ λi ρ2 h4 H2 p2 e2 r2 _=>⟨λd hd=>?_,λhi=>?_⟩⟩
  ·have h3':=h3.mono p2 e2;obtain⟨x,g1,g2⟩:=h3'.get hd;refine⟨⟨vs,x,e2.t _ _ h2,g1⟩,λy H3 ⟨z1,z2⟩=>?_⟩;subst z1;have:=z2 vs (e2.t _ _ h2);rw[g1]at this;cases this;exact⟨g2,r2,Ext.refl _ _⟩
  ·exact⟨vs,e2.t _ _ h2,by rw[<- h3.length];exact K4v hi⟩⟩⟩
def z1q (n:Nat):List D:=(K0m n).map λ(i:Nat)=>.int i
def z0b (ma:G->M D):G->M Src:=λγ=>do
 let x <- ma γ
 match x with
 | .int j=>if -(2 ^ 62)<=j/\j<2 ^ 62 then pure (.con (z1q j.toNat)) else bad
 | _=>bad
theorem z0a (hg:Gl X "range") (hm:X.mg "range" = none) (ha:SE X EX a ma) (hs:K0h [a] X.env=[(false,eval a X.env)]:=by rfl):SI X EX tg (.Call (.Name "range" p) [a] [] pos) (z0b ma) :=
 ⟨PI.imp (zf3 hg hm (z1p ha.h z3a hs) hs) λσ H R ⟨ρ,γ,h,rel,fin⟩=>⟨ρ,γ,h,rel,(Fin.bind fin).mono λx ρ1 h1 H1 p1 e1 r1 f1 v rv=>by
  cases x<;>first|exact(show False from f1).elim|skip
  rename_i j;simp only[RD]at rv;subst rv;have f2:Fin X.K EX ρ1 H1 (λsrc ρ' _ H'=>∀J,JOK X.K src ρ' H' J->R J H') ((if -(2 ^ 62)<=j/\j<2 ^ 62 then pure (.con (z1q j.toNat)) else bad:M Src) h1):=f1;by_cases hj:-(2 ^ 62)<=j/\j<2 ^ 62
  ·rw[if_pos hj]at f2;refine⟨j,rfl,hj.1,hj.2,f2 ρ1 H1 .(9) .(a) r1 _ λi ρ2 h4 H2 p2 e2 r2 _=>⟨λd hd=>?_,λhi=>?_⟩⟩
   ·have hd':(z1q j.toNat)[i]?=some d:=hd;unfold z1q at hd';rw[K0i]at hd';have hi:i<j.toNat:=by
     by_cases hi:i<j.toNat
     ·exact hi
     ·rw[K1i (by simpa using hi)]at hd';cases hd'
    rw[K3u hi]at hd';cases hd';refine⟨hi,λy H3 ⟨z1,z2⟩=>?_⟩;subst z1;subst z2;exact⟨by simp[RD],r2,Ext.refl _ _⟩
   ·have hi':(z1q j.toNat).length=i:=hi;unfold z1q at hi';rw[K0d,K1q]at hi';exact K4v hi'
  ·rw[if_neg hj]at f2;exact f2.elim⟩⟩
end
noncomputable def forR (src:Src) (g:D->G->M G) (body:G->M Out):List D->G->M Out
 | [],γ=>do
  let _ <- src.chk
  pure (.nx γ)
 | d::r,γ=>do
  let _ <- src.chk;let γ1 <- g d γ;let o <- body γ1
  match o with
  | .nx γ2=>forR src g body r γ2
  | .ct γ2=>forR src g body r γ2
  | .bk γ2=>pure (.nx γ2)
  | .rt v=>pure (.rt v)
noncomputable def sFor (mi:G->M Src) (g:D->G->M G) (body:G->M Out):G->M Out:=λγ=>do
 let src <- mi γ
 forR src g body src.items γ
theorem z98 {P:α->List Addr->AH->Hp->Prop}{f:Unit->M α}(fin:Fin K EX ρ H P ((src.chk >>= f) h)) (r:RH K ρ h H):src.good h/\Fin K EX ρ H P (f () h):=by
 have f1:=Fin.bind fin;unfold Src.chk at f1;split at f1
 ·rename_i hg;exact⟨hg,f1 ρ H .(9) .(a) r⟩
 ·exact f1.elim
section
variable {a o:Expr}{mb:G->M Out}
theorem z1b (hp:Z2g .(4) X.A X.env X.xe) (hc:X.calm=true) (hi:SI X EX tg e mi) (hg:SG X EX tg g) (hb:SB X EX sts mb) (hs:∀x,K1b e X.env x=pure x:=by intro _;rfl):S1 X EX (.For tg e sts [] pos) (sFor mi g mb) :=
 ⟨PS.imp (zR8 hp hc hi.h hg.h hb.h hs) λσ H D ⟨ρ,γ,h,rel,fin⟩=>⟨ρ,γ,h,rel,(Fin.bind fin).mono λsrc ρ0 h0 H0 p0 e0 r0 f0 J hJ=>by
  refine⟨λi m σ H=>m+i=src.items.length/\∃ρ γ h,Pre ρ0 ρ/\Ext X.K H0 H/\Rel X.K ρ γ h σ H/\Fin X.K EX ρ H (λo ρ' _ H'=>OutP X.K D o ρ' H') (forR src g mb (src.items.drop i) γ h),
   ⟨src.items.length,rfl,ρ0,γ,h0,Pre.refl _,Ext.refl _ _,⟨rel.g.mono p0 e0,r0⟩,f0⟩,?_⟩
  rintro i m σ1 H1 ⟨hm,ρ1,γ1,h1,p1,e1,rel1,f1⟩;by_cases hi:i<src.items.length
  ·have hd:src.items.drop i=src.items[i]::src.items.drop (i+1):=K3a hi;rw[hd]at f1;unfold forR at f1;obtain⟨good,f2⟩:=z98 f1 rel1.h;obtain⟨j1,j2⟩:=hJ i ρ1 h1 H1 p1 e1 rel1.h good;obtain⟨go,yld⟩:=j1 src.items[i] (K9 hi);refine .inr ⟨go,λσ' H'=>∃ρ γ h,Pre ρ0 ρ/\Ext X.K H0 H'/\Rel X.K ρ γ h σ' H'/\Fin X.K EX ρ H' (λo ρ' _ H'=>OutP X.K D o ρ' H') (forR src g mb (src.items.drop (i+1)) γ h),λσ' H' z=>⟨m - 1,by omega,by omega,z⟩,λx H2 y=>?_⟩;obtain⟨rd,rh,ext⟩:=yld x H2 y;refine⟨ρ1,γ1,h1,_,⟨rel1.g.mono .(9) ext,rh⟩,rd,(Fin.bind (Fin.up .(9) ext f2)).mono λγ2 ρ3 h3 H3 p3 e3 r3 f3 σ3 g3=>⟨ρ3,γ2,h3,⟨g3,r3⟩,(Fin.bind f3).mono λo ρ4 h4 H4 p4 e4 r4 f4=>?_⟩⟩;have pp:Pre ρ0 ρ4:=(p1.trans p3).trans p4;have ee:Ext X.K H0 H4:=((e1.trans ext).trans e3).trans e4;cases o with
   | nx γ5=>exact λσ5 g5=>⟨ρ4,γ5,h4,pp,ee,⟨g5,r4⟩,f4⟩
   | ct γ5=>exact λσ5 g5=>⟨ρ4,γ5,h4,pp,ee,⟨g5,r4⟩,f4⟩
   | bk γ5=>exact λσ5 g5=>f4 ρ4 H4 .(9) .(a) r4 σ5 g5
   | rt d=>exact λv rv=>f4 ρ4 H4 .(9) .(a) r4 v rv
  ·have hd:src.items.drop i=[]:=K92 .(1);rw[hd]at f1;unfold forR at f1;obtain⟨good,f2⟩:=z98 f1 rel1.h;obtain⟨j1,j2⟩:=hJ i ρ1 h1 H1 p1 e1 rel1.h good;exact .inl ⟨j2 .(1),f2 ρ1 H1 .(9) .(a) rel1.h σ1 rel1.g⟩⟩⟩
def z11 (k:G->M Bool) (body:G->M Out):Nat->G->M Out
 | 0,_=>bad
 | n+1,γ=>do
  let t <- k γ
  if t then do
   let o <- body γ
   match o with
   | .nx γ2=>z11 k body n γ2
   | .ct γ2=>z11 k body n γ2
   | .bk γ2=>pure (.nx γ2)
   | .rt v=>pure (.rt v)
  else pure (.nx γ)
theorem z2E (n:Nat) (hp:Z2g .(4) X.A X.env X.xe) (hc:SC X EX c kc) (hb:SB X EX sts mb):S1 X EX (.While c sts [] pos) (z11 kc mb n) :=
 ⟨PS.imp (zo6 hp hc.h hb.h) λσ H D ⟨ρ,γ,h,rel,fin⟩=>by
  refine⟨λm σ H=>∃ρ γ h,Rel X.K ρ γ h σ H/\Fin X.K EX ρ H (λo ρ' _ H'=>OutP X.K D o ρ' H') (z11 kc mb m γ h),⟨n,ρ,γ,h,rel,fin⟩,?_⟩;rintro m σ1 H1 ⟨ρ1,γ1,h1,rel1,f1⟩;cases m with
  | zero=>exact(show False from f1).elim
  | succ m =>
   unfold z11 at f1;refine⟨ρ1,γ1,h1,rel1,(Fin.bind f1).mono λt ρ2 h2 H2 p2 e2 r2 f2=>?_⟩;cases t with
   | false=>exact f2 ρ2 H2 .(9) .(a) r2 σ1 (rel1.g.mono p2 e2)
   | true =>
    rw[if_pos rfl]at f2 ⊢;refine⟨λσ' H'=>∃ρ γ h,Rel X.K ρ γ h σ' H'/\Fin X.K EX ρ H' (λo ρ' _ H'=>OutP X.K D o ρ' H') (z11 kc mb m γ h),λσ' H' z=>⟨m,by omega,z⟩,ρ2,γ1,h2,⟨rel1.g.mono p2 e2,r2⟩,(Fin.bind f2).mono λo ρ4 h4 H4 p4 e4 r4 f4=>?_⟩;cases o with
    | nx γ5=>exact λσ5 g5=>⟨ρ4,γ5,h4,⟨g5,r4⟩,f4⟩
    | ct γ5=>exact λσ5 g5=>⟨ρ4,γ5,h4,⟨g5,r4⟩,f4⟩
    | bk γ5=>exact λσ5 g5=>f4 ρ4 H4 .(9) .(a) r4 σ5 g5
    | rt d=>exact λv rv=>f4 ρ4 H4 .(9) .(a) r4 v rv⟩
end
def capG (cap:List (Option Nat)) (γ:G):G:=cap.map λo=>match o with|some j=>(γ[j]?).join|none=>none
theorem zG6 {σ:L2.St}(cap:List (Option Nat)) (r:RG K ρ H γ σ):RG K ρ H (capG cap γ) (z4I cap σ):=by
 refine⟨by simp[capG,z4I],λi d e=>?_⟩;unfold capG at e;unfold z4I;rw[K0i]at e ⊢;cases q:cap[i]? with
 | none=>rw[q]at e;cases e
 | some o =>
  rw[q]at e;cases o with
  | none=>simp at e
  | some j =>
   have e2:(γ[j]?).join=some d:=by simpa using e
   have e3:γ[j]?=some (some d):=by
    cases q2:γ[j]? with
    | none=>rw[q2]at e2;simp at e2
    | some o2=>rw[q2]at e2;simp at e2;rw[e2]
   obtain⟨v,h1,h2⟩:=r.var j d e3;exact⟨v,by simp[h1],h2⟩
noncomputable def z3h (src:Src) (g:D->G->M G) (k:G->M Bool) (me:G->M D) (n0:Nat) (γ:G):List D->M Unit
 | []=>do
  let _ <- src.chk
  pure ()
 | d::r=>do
  let _ <- src.chk;let γ1 <- g d γ;let t <- k γ1
  if t then do
   let v <- me γ1;let _ <- j8 n0 v
   z3h src g k me n0 γ r
  else z3h src g k me n0 γ r
noncomputable def z0j (cap:List (Option Nat)) (mi:G->M Src) (g:D->G->M G) (k:G->M Bool) (me:G->M D):G->M D:=λγ=>do
 let src <- mi γ;let n0 <- (λh=>.ok .(g) (h++[.lst []]):M Nat);let _ <- z3h src g k me n0 (capG cap γ) src.items
 pure (.ref n0)
structure SCs (X:Cx) (EX:XX) (ifs:List Expr) (m:G->M Bool):Prop where
 h:PTs X ifs (tT X.K EX m)
theorem PTs.imp {e:List Expr}{t:TT}(h:PTs X e t) (f:∀σ H Q,t' σ H Q->t σ H Q):PTs X e t':=λpins s σ H Q I z=>h pins s σ H Q I (f σ H Q z)
section
variable {elt:Expr}{sc:Scope}{k kr:G->M Bool}
theorem z08:SCs X EX [] (λ_=>pure true):=⟨PTs.imp za7 λσ H Q ⟨ρ,γ,h,rel,fin⟩=>fin ρ H .(9) .(a) rel.h⟩
theorem z0n (h:SC X EX c k):SCs X EX [c] k:=⟨PTs.imp (zp4 h.h za7) λσ H Q ⟨ρ,γ,h,rel,fin⟩=>⟨ρ,γ,h,rel,fin.mono λt ρ1 h1 H1 p1 e1 r1 f1=>by
 cases t with
 | true=>exact f1
 | false=>exact f1⟩⟩
def HB (X:Cx) (EX:XX) (own:List Nat) (σ0:L2.St) (ρ0:List Addr) (b:G->M Unit->M Unit) (tb:TB):Prop :=
 ∀{σ:L2.St} {γ1:G} {ρ:List Addr} {h:AH} {H:Hp} {P:Unit->List Addr->AH->Hp->Prop} {K:M Unit} {Z:Hp->Prop},Pre ρ0 ρ->(∀j,j∉own->σ[j]?=σ0[j]?)->RG X.K ρ H γ1 σ->RH X.K ρ h H->Fin X.K EX ρ H P (b γ1 K h) ->
  (∀ρ' h' H',Pre ρ ρ'->Ext X.K H H'->RH X.K ρ' h' H'->Fin X.K EX ρ' H' P (K h')->Z H')->tb σ H Z
theorem zu3 {F:List D->M Unit}{b:G->M Unit->M Unit}{tb:TB}{σ0:L2.St}{H0:Hp}{ρ0:List Addr}{h0:AH}{γ:G}{src:Src}{J:It}{P:Hp->Prop}
 (hnil:F []=(do let _ <- src.chk;pure ())) (hcons:∀d r,F (d::r)=(do let _ <- src.chk;let γ1 <- g d γ;let t <- k γ1;if t then b γ1 (F r) else F r))
 (r0:RH X.K ρ0 h0 H0) (rg:RG X.K ρ0 H0 γ σ0) (hJ:JOK X.K src ρ0 H0 J) (hown:∀j∈own,∀v,σ0[j]?≠some (some v)) (hb:HB X EX own σ0 ρ0 b tb)
 (fin:Fin X.K EX ρ0 H0 (λ_ ρ' h' H'=>RH X.K ρ' h' H'->Ext X.K H0 H'->Pre ρ0 ρ'->P H') (F src.items h0)):runG (tGk X.K EX own g) (tT X.K EX k) tb σ0 J P H0:=by
 refine⟨λi m H=>m+i=src.items.length/\∃ρ h,Pre ρ0 ρ/\Ext X.K H0 H/\RH X.K ρ h H /\
  Fin X.K EX ρ H (λ_ ρ' h' H'=>RH X.K ρ' h' H'->Ext X.K H0 H'->Pre ρ0 ρ'->P H') (F (src.items.drop i) h),
  ⟨src.items.length,rfl,_,_,Pre.refl _,Ext.refl _ _,r0,fin⟩,?_⟩
 rintro i m H1 ⟨hm,ρ1,h1,p1,e1,r1,f1⟩;by_cases hi:i<src.items.length
 ·rw[show src.items.drop i=src.items[i]::src.items.drop (i+1) from K3a hi,hcons]at f1;obtain⟨good,f2⟩:=z98 f1 r1;obtain⟨j1,j2⟩:=hJ i ρ1 h1 H1 p1 e1 r1 good;obtain⟨go,yld⟩:=j1 src.items[i] (K9 hi);refine .inr ⟨go,λx H2 y=>?_⟩;obtain⟨rd,rh,ext⟩:=yld x H2 y;refine⟨ρ1,_,h1,_,⟨rg.mono p1 (e1.trans ext),rh⟩,rd,(Fin.bind (Fin.up .(9) ext f2)).mono λγ2 ρ3 h3 H3 p3 e3 r3 f3 σ3 g3 k3=>⟨λj v hv=>?_,ρ3,γ2,h3,⟨g3,r3⟩,(Fin.bind f3).mono λt ρ4 h4 H4 p4 e4 r4 f4=>?_⟩⟩
  ·rw[k3 j λhj=>hown j hj v hv];exact hv
  ·have pp:Pre ρ0 ρ4:=(p1.trans p3).trans p4;have ee:Ext X.K H0 H4:=((e1.trans ext).trans e3).trans e4;cases t with
   | false =>
    rw[if_neg (by decide)]at f4;dsimp only;rw[if_neg (by decide)];exact⟨m - 1,by omega,by omega,ρ4,h4,pp,ee,r4,f4⟩
   | true =>
    rw[if_pos rfl]at f4;dsimp only;rw[if_pos rfl];exact hb pp k3 (g3.mono p4 e4) r4 f4 λρ5 h5 H5 p5 e5 r5 f5=>⟨m - 1,by omega,by omega,ρ5,h5,pp.trans p5,ee.trans e5,r5,f5⟩
 ·rw[show src.items.drop i=[] from K92 .(1),hnil]at f1;obtain⟨good,f2⟩:=z98 f1 r1;obtain⟨j1,j2⟩:=hJ i ρ1 h1 H1 p1 e1 r1 good;exact .inl ⟨j2 .(1),f2 ρ1 H1 .(9) .(a) r1 r1 e1 p1⟩
theorem zv4 {σ0:L2.St}{n0:Nat}(hD:ρ0[n0]?=some Dd):HB X EX own σ0 ρ0 (λγ1 K=>do let v <- me γ1;let _ <- j8 n0 v;K) (bApp (tE X.K EX me) Dd):=λ{σ γ1 ρ h H P K Z} p0 _ rg rh fin hz=>by
 refine⟨ρ,γ1,h,⟨rg,rh⟩,(Fin.bind fin).mono λd ρ5 h5 H5 p5 e5 r5 f5 v rv=>?_⟩;have hq:ρ5[n0]?=some Dd:=(p0.trans p5) _ _ hD;have f6:=Fin.bind f5;unfold j8 updL at f6;cases e7:h5[n0]? with
 | none=>rw[e7]at f6;exact f6.elim
 | some ob =>
  cases ob<;>first|(rw[e7]at f6;exact f6.elim)|skip
  rename_i xs;rw[e7]at f6;dsimp only at f6;split at f6
  ·rename_i hl;obtain⟨a1,n1,vs,o1,d1⟩:=r5.at e7;rw[hq]at n1;cases n1;have ext2:Ext X.K H5 (upd H5 Dd (.lst (vs++[v]))):=Ext.upd (.inr ⟨_,o1,trivial⟩);have r6:=r5.set e7 hq (d1.append (RDs.cons rv RDs.nil));rw[K3,K09]at hl;have hl2:=d1.length;exact⟨vs,o1,by omega,hz ρ5 _ _ p5 (e5.trans ext2) r6 (f6 ρ5 _ .(9) ext2 r6)⟩
  ·exact f6.elim
theorem Z07 {mi1:G->M Src}{g1:D->G->M G}{k1:G->M Bool}{own1:List Nat}{F1:Src->G->List D->M Unit}{b1:G->M Unit->M Unit}{tb1:TB}{σ0:L2.St}{ρ0:List Addr}
 (hnil:∀src γ,F1 src γ []=(do let _ <- src.chk;pure ())) (hcons:∀src γ d r,F1 src γ (d::r)=(do let _ <- src.chk;let γ1 <- g1 d γ;let t <- k1 γ1;if t then b1 γ1 (F1 src γ r) else F1 src γ r))
 (hown1:∀j∈own1,j∉own/\∀v,σ0[j]?≠some (some v)) (hb1:∀{σ1:L2.St} {ρ1:List Addr},Pre ρ0 ρ1->HB X EX own1 σ1 ρ1 b1 tb1) :
 HB X EX own σ0 ρ0 (λγ1 K=>do let s1 <- mi1 γ1;let _ <- F1 s1 γ1 s1.items;K) (bIn (tI X.K EX mi1) (tGk X.K EX own1 g1) (tT X.K EX k1) tb1):=λ{σ γ1 ρ h H P K Z} p0 k0 rg rh fin hz=>by
 refine⟨ρ,γ1,h,⟨rg,rh⟩,(Fin.bind fin).mono λs1 ρ4 h4 H4 p4 e4 r4 f4 J1 hJ1=>?_⟩;refine zu3 (hnil s1 γ1) (hcons s1 γ1) r4 (rg.mono p4 e4) hJ1 (λj hj v hv=>?_) (hb1 (p0.trans p4)) ((Fin.bind f4).mono λ_ ρ5 h5 H5 p5 e5 r5 f5 rr ex pr=>hz ρ5 h5 H5 (p4.trans p5) (e4.trans e5) r5 f5);rw[k0 j (hown1 j hj).1]at hv;exact(hown1 j hj).2 v hv
structure CmA (X:Cx) (EX:XX) (ce:Expr) (sc:Scope) (tg iter:Expr) (ifs:List Expr) (N':List Str) (cap:List (Option Nat)) (own:List Nat) (mi:G->M Src) (g:D->G->M G) (k:G->M Bool) (oo:O) (b:Nat->G->M Unit->M Unit) (F:Src->Nat->G->List D->M Unit):Prop where
 ex:∃(mk:Sem Value) (o0:HO) (bd:Addr->Env->Sem Unit) (p:Pos) (tbd:Addr->L2.TB),CmE ce sc tg iter ifs mk o0 bd p/\(∀(ρ:List Addr) (H:Hp) (Dd:Addr),RO X.K ρ (upd H Dd o0) oo Dd)/\(∀D s H fp xe,PBd .(8) (bd D (X.comp N' sc s H fp xe).env) (tbd D)) /\
  ∀{σ0:L2.St} {ρ0:List Addr} {n0:Nat} {Dd:Addr},(∀(j:Nat),cap[j]?=some none->∀v,σ0[j]?≠some (some v))->ρ0[n0]?=some Dd->HB X EX own σ0 ρ0 (b n0) (tbd Dd)
 nil:∀src n0 γ,F src n0 γ []=(do let _ <- src.chk;pure ())
 cons:∀src n0 γ d r,F src n0 γ (d::r)=(do let _ <- src.chk;let γ1 <- g d γ;let t <- k γ1;if t then b n0 γ1 (F src n0 γ r) else F src n0 γ r)
noncomputable def eCm (cap:List (Option Nat)) (mi:G->M Src) (oo:O) (F:Src->Nat->G->List D->M Unit):G->M D:=λγ=>do
 let src <- mi γ;let n0 <- (λh=>.ok .(g) (h++[oo]):M Nat);let _ <- F src n0 (capG cap γ) src.items
 pure (.ref n0)
theorem zv0 {ce:Expr}{oo:O}{b:Nat->G->M Unit->M Unit}{F:Src->Nat->G->List D->M Unit}{o0:HO}{tbd:Addr->TB}{σ:L2.St}{γ:G}{src:Src}{ρ0:List Addr}{h0:AH}{H0:Hp}{J:It}{Dd:Addr}{Q:Hp->Prop}
 (A:CmA X EX ce sc tg iter ifs N' cap own mi g k oo b F) (ho:∀(ρ:List Addr) (H:Hp) (Dd:Addr),RO X.K ρ (upd H Dd o0) oo Dd) (hb:∀{σ0:L2.St} {ρ0:List Addr} {n0:Nat} {Dd:Addr},(∀(j:Nat),cap[j]?=some none->∀v,σ0[j]?≠some (some v))->ρ0[n0]?=some Dd->HB X EX own σ0 ρ0 (b n0) (tbd Dd))
 (hown:∀j∈own,cap[j]?=some none) (r0:RH X.K ρ0 h0 H0) (rg:RG X.K ρ0 H0 γ σ) (hJ:JOK X.K src ρ0 H0 J) (hD:H0 Dd=none) {R:D->List Addr->AH->Hp->Prop}
 (fin:Fin X.K EX ρ0 H0 R ((do let n0 <- (λh=>.ok .(g) (h++[oo]):M Nat);let _ <- F src n0 (capG cap γ) src.items;pure (.ref n0):M D) h0))
 (z:∀ρ' h' H',Pre ρ0 ρ'->Ext X.K H0 H'->RH X.K ρ' h' H'->R (.ref h0.length) ρ' h' H'->RD X.K ρ' H' (.ref h0.length) (.ref Dd)->Q H') :
 runG (tGk X.K EX own g) (tT X.K EX k) (tbd Dd) (z4I cap σ) J Q (upd H0 Dd o0):=by
 have rP:RH X.K (ρ0++[Dd]) (h0++[oo]) (upd H0 Dd o0):=r0.pushO hD (ho _ _ _);have eP:Ext X.K H0 (upd H0 Dd o0):=Ext.upd (.inl hD);have f2:=(Fin.bind fin) (ρ0++[Dd]) _ (Pre.app _ _) eP rP;have at0:(ρ0++[Dd])[h0.length]?=some Dd:=by rw[<- r0.len];simp
 have non:∀(j:Nat),cap[j]?=some none->∀v,(z4I cap σ)[j]?≠some (some v):=λj e v hv=>by
  unfold z4I at hv;rw[K0i,e]at hv;simp at hv
 refine zu3 (A.nil src h0.length (capG cap γ)) (A.cons src h0.length (capG cap γ)) rP ((zG6 cap rg).mono (Pre.app _ _) eP) (λi ρ1 h1 H1 p e r good=>hJ i ρ1 h1 H1 ((Pre.app _ _).trans p) (eP.trans e) r good) (λj hj=>non j (hown j hj)) (hb non at0) ((Fin.bind f2).mono λ_ ρ5 h5 H5 p5 e5 r5 f5 rr ee pp=>?_);refine z ρ5 h5 H5 ((Pre.app _ _).trans pp) (eP.trans ee) rr (f5 ρ5 H5 .(9) .(a) rr) ?_;simp only[RD];exact⟨Dd,rfl,pp _ _ at0⟩
theorem zI1 (A:CmA X EX ce sc tg iter ifs N' cap own mi g k oo b F) (hc:X.calm=true) (S:CS X sc N' cap) (hi:SI X EX tg iter mi) (hg:∀s H fp xe,SGk .(8) EX tg own g) (ht:∀s H fp xe,SCs .(8) EX ifs k)
 (hown:∀j∈own,cap[j]?=some none) (hs:∀x,K1b iter X.env x=pure x):SE X EX ce (eCm cap mi oo F):=by
 obtain⟨mk,o0,bd,p,tbd,C,ho,hbd,hb⟩:=A.ex;exact⟨PE.imp (Z0i (g:=tGk X.K EX own g) (ti:=tT X.K EX k) C hc S hi.h (λs H fp xe=>(hg s H fp xe).h) (λs H fp xe=>(ht s H fp xe).h) hbd hs) λσ H Q ⟨ρ,γ,h,rel,fin⟩=>⟨ρ,γ,h,rel,(Fin.bind fin).mono λsrc ρ0 h0 H0 p0 e0 r0 f0 J hJ Dd hD =>
  zv0 A ho hb hown r0 (rel.g.mono p0 e0) hJ hD f0 λρ' h' H' p' e' r' q rd=>q _ rd⟩⟩
theorem s_cm (i:Nat){y:Str}{py spos:Pos}(A:CmA X EX ce sc tg iter ifs N' cap own mi g k oo b F) (hc:X.calm=true) (S:CS X sc N' cap) (hi:SI X EX tg iter mi) (hg:∀s H fp xe,SGk .(8) EX tg own g) (ht:∀s H fp xe,SCs .(8) EX ifs k)
 (hown:∀j∈own,cap[j]?=some none) (hN:X.N.Nodup) (hy:X.N[i]?=some y) (hl:X.env.scope.names.lookup y=some .local) (hsw:K2w ce (some (.Name y py)) spos.line X.env=pure true) (hs:∀x,K1b iter X.env x=pure x) :
 S1 X EX (.Assign [.Name y py] ce spos) (sAsg (eCm cap mi oo F) (gN i)):=by
 obtain⟨mk,o0,bd,p,tbd,C,ho,hbd,hb⟩:=A.ex;exact⟨PS.imp (zZ6 (g:=tGk X.K EX own g) (ti:=tT X.K EX k) C hc S hi.h (λs H fp xe=>(hg s H fp xe).h) (λs H fp xe=>(ht s H fp xe).h) hbd hN hy hl hsw hs) λσ H D ⟨ρ,γ,h,rel,fin⟩=>⟨ρ,γ,h,rel,(Fin.bind (Fin.bind fin)).mono λsrc ρ0 h0 H0 p0 e0 r0 f0 J hJ Dd hD =>
  zv0 A ho hb hown r0 (rel.g.mono p0 e0) hJ hD f0 λρ' h' H' p' e' r' q rd=>(q ρ' H' .(9) .(a) r') _ (((rel.g.mono p0 e0).mono p' e').set i rd)⟩⟩
theorem z8c (he:∀s H fp xe,SE .(8) EX elt me):CmA X EX (.ListComp elt [⟨tg,iter,ifs,0⟩] sc pos) sc tg iter ifs N' cap own mi g k (.lst []) (λn0 γ1 K=>do let v <- me γ1;let _ <- j8 n0 v;K) (λsrc n0 γ=>z3h src g k me n0 γ) :=
 ⟨⟨_,_,_,_,bApp (tE X.K EX me),zJ3,λρ H Dd=>⟨[],J6,RDs.nil⟩,λD s H fp xe=>zc0 (he s H fp xe).h,λ_ hD=>zv4 hD⟩,λ_ _ _=>rfl,λ_ _ _ _ _=>rfl⟩
theorem z0o (hc:X.calm=true) (S:CS X sc N' cap) (hi:SI X EX tg iter mi) (hg:∀s H fp xe,SGk .(8) EX tg own g) (ht:∀s H fp xe,SCs .(8) EX ifs k)
 (he:∀s H fp xe,SE .(8) EX elt me) (hown:∀j∈own,cap[j]?=some none:=by decide) (hs:∀x,K1b iter X.env x=pure x:=by intro _;rfl):SE X EX (.ListComp elt [⟨tg,iter,ifs,0⟩] sc pos) (z0j cap mi g k me) :=
 zI1 (z8c he) hc S hi hg ht hown hs
noncomputable def z2k (i:Nat) (cap:List (Option Nat)) (mi:G->M Src) (g:D->G->M G) (k:G->M Bool) (me:G->M D):G->M Out:=sAsg (z0j cap mi g k me) (gN i)
theorem z5m (i:Nat){y:Str}{py spos:Pos}(hc:X.calm=true) (S:CS X sc N' cap) (hi:SI X EX tg iter mi) (hg:∀s H fp xe,SGk .(8) EX tg own g) (ht:∀s H fp xe,SCs .(8) EX ifs k)
 (he:∀s H fp xe,SE .(8) EX elt me) (hN:X.N.Nodup) (hy:X.N[i]?=some y:=by rfl) (hl:X.env.scope.names.lookup y=some .local:=by rfl) (hown:∀j∈own,cap[j]?=some none:=by decide)
 (hsw:K2w (.ListComp elt [⟨tg,iter,ifs,0⟩] sc pos) (some (.Name y py)) spos.line X.env=pure true:=by rfl) (hs:∀x,K1b iter X.env x=pure x:=by intro _;rfl) :
 S1 X EX (.Assign [.Name y py] (.ListComp elt [⟨tg,iter,ifs,0⟩] sc pos) spos) (z2k i cap mi g k me) :=
 s_cm i (z8c he) hc S hi hg ht hown hN hy hl hsw hs
end
def csOk (osc:Scope) (N:List Str) (sc:Scope) (N':List Str) (cap:List (Option Nat)):Bool :=
 (sc.kind==.function)&&sc.names.all (λy=>y.2 != .cell)&&sc.names.all (λx=>x.2 != .local||sc.names.lookup x.1==some .local) &&
 sc.names.all (λx=>x.2 != .free||(osc.names.lookup x.1==some .cell||osc.names.lookup x.1==some .free))&&(cap.length==N'.length) &&
 (K0m cap.length).all λi=>match cap[i]? with
  | some (some j)=>(match N'[i]?,N[j]? with
   | some x,some y=>x==y&&sc.names.lookup x==some .free
   | _,_=>false)
  | _=>true
theorem z0m {sc:Scope}(h:csOk X.env.scope X.N sc N' cap=true):CS X sc N' cap:=by
 unfold csOk at h;simp only[K0k]at h;obtain⟨⟨⟨⟨⟨h1,h2⟩,h3⟩,h4⟩,h5⟩,h6⟩:=h;refine⟨by simpa using h1,λy hy=>?_,λx hx hl=>?_,λx hx hf=>?_,by simpa using h5,λi j e=>?_⟩
 ·have:=K1w.mp h2 y hy;simpa using this
 ·have:=K1w.mp h3 x hx;simpa [hl] using this
 ·have:=K1w.mp h4 x hx;have:(X.env.scope.names.lookup x.1==some .cell||X.env.scope.names.lookup x.1==some .free)=true:=by simpa [hf] using this
  rw[K2o]at this;rcases this with z|z
  ·exact .inl (show X.env.scope.names.lookup x.1=_ by simpa using z)
  ·exact .inr (show X.env.scope.names.lookup x.1=_ by simpa using z)
 ·have hi:i<cap.length:=(K02.mp e).1;have:=K1w.mp h6 i (K18.mpr hi);rw[e]at this;dsimp only at this;cases e1:N'[i]? with
  | none=>rw[e1]at this;cases this
  | some x =>
   cases e2:X.N[j]? with
   | none=>rw[e1,e2]at this;cases this
   | some y =>
    rw[e1,e2]at this;simp only[K0k]at this;have exy:x=y:=by simpa using this.1
    subst exy;exact⟨x,rfl,rfl,by simpa using this.2⟩
def DefAt (K:K5) (x:Str) (st:Stmt):Prop:=∃f fd,K3g K K2m x=some (.(r f))/\Fun K x x st f fd
theorem defAt_mk {st:Stmt}{f:Addr}{oc:Value}{od an:Option Addr}{sl:Array (Option Value)}{kV dc pm cd ct:Value}(a:K3g K K2m x=some (.(r f)))
 (l:K.lookup f=some ⟨oc,od,.func (K2g x x (z0O st) (Y9 st) (Z8 st) .none kV dc pm an cd ct),sl⟩) (c:K2k K cd x=true) (k:K24 K (.ref f)=true):DefAt K x st :=
 ⟨f,_,a,zu9 l c k⟩
def relF:D->Value->Bool
 | .non,.none=>true
 | .bl a,.bool b=>a==b
 | .int a,.int b _=>a==b
 | .str a,.str b _=>a==b
 | _,_=>false
def zl4:List D->List Value->Bool
 | [],[]=>true
 | d::ds,u::us=>relF d u&&zl4 ds us
 | _,_=>false
def toV:D->V
 | .non=>.non
 | .bl b=>.bl b
 | .int i=>.int i
 | .str x=>.str x
 | _=>.non
theorem zx7 (h:relF d u=true):RelV (toV d) u/\RD K ρ H d (toV d):=by
 cases d<;>cases u<;>first
  | (have h':false=true:=h;cases h')
  | skip
 case non.none=>exact⟨rfl,by simp[RD,toV]⟩
 case bl.bool a b =>
  have:a=b:=by simpa [relF] using h
  subst this;exact⟨rfl,by simp[RD,toV]⟩
 case int.int a b t =>
  have:a=b:=by simpa [relF] using h
  subst this;exact⟨⟨t,rfl⟩,by simp[RD,toV]⟩
 case str.str a b t =>
  have:a=b:=by simpa [relF] using h
  subst this;exact⟨⟨t,rfl⟩,by simp[RD,toV]⟩
theorem z8B {K:K5}{ρ:List Addr}{H:Hp}:∀{ds:List D}{us:List Value},zl4 ds us=true->Vals (ds.map toV) us/\RDs K ρ H ds (ds.map toV)
 | [],[],_=>⟨.nil,RDs.nil⟩
 | [],_::_,h=>by cases h
 | _::_,[],h=>by cases h
 | d::ds,u::us,h=>by
  have h':(relF d u&&zl4 ds us)=true:=h;rw[K0k]at h';obtain⟨a1,a2⟩:=zx7 (K:=K) (ρ:=ρ) (H:=H) h'.1;obtain⟨b1,b2⟩:=z8B (K:=K) (ρ:=ρ) (H:=H) h'.2;exact⟨.cons a1 b1,RDs.cons a2 b2⟩
section
variable {prog:K1d}
theorem zH5 {t:Addr}{items:Array Value}{x:Value}{Q:Value->Shared->Prop}(hit:s.heap.IsTupleIter it t i) (ht:s.heap.IsTuple t items) (hx:items[i]?=some x)
 (hQ:∀h',h'.IsTupleIter it t (i+1)->K2b it s.heap h'->Q x { s with heap:=h' }):wpAny (model prog w) A (K48 (.ref it)) Q E s:=by
 obtain⟨oi,e1,c1,d1⟩:=id hit;obtain⟨ot,e2,_,nt,d2⟩:=ht;unfold K48;refine K2 (K4u (name:=K03 "__next__") hit.typeIs K35
  (K2s K35 hit.typeIs K67 ?_ (K61 _)))
 show wpAny _ _ (field (.ref it) 0 >>= _) _ _ s;refine K2 (K9j e1 d1 (x:=.ref t) rfl ?_);show wpAny _ _ (if (K20 t==K3r)=true then _ else _) _ _ s;have nn:¬ (K20 t==K3r)=true:=K12;rw[if_neg nn];show wpAny _ _ (field (.ref it) 1 >>= _) _ _ s;refine K2 (K9j e1 d1 (x:=.int i 0) rfl ?_);show wpAny _ _ (Z2e (.ref t) >>= _) _ _ s;refine K2 (K7m e2 d2 ?_);simp only[K14,hx];refine K2 (K3k e1 d1 .(f) (K6 ⟨x,rfl,K6 (hQ _ ?_ (K1k ..))⟩));exact⟨_,K46 _ e1 (K6o (K5y d1 _)),(Obj.cls_mapFields ..).trans c1,by
  rw[K5y d1];simp[rawInt]⟩
theorem zR9 {t:Addr}{items:Array Value}{Q:Value->Shared->Prop}(hh:A.handled=none) (hit:s.heap.IsTupleIter it t i) (ht:s.heap.IsTuple t items) (hx:items[i]?=none)
 (hE:∀h' e,Z2m it s.heap h'->(∃o,h'.get? e=some o/\o.cls=.type "StopIteration")->E (.ref e) { s with heap:=h' }):wpAny (model prog w) A (K48 (.ref it)) Q E s:=by
 obtain⟨oi,e1,c1,d1⟩:=id hit;obtain⟨ot,e2,_,nt,d2⟩:=ht;unfold K48;refine K2 (K4u (name:=K03 "__next__") hit.typeIs K35
  (K2s K35 hit.typeIs K67 ?_ (K61 _)))
 show wpAny _ _ (field (.ref it) 0 >>= _) _ _ s;refine K2 (K9j e1 d1 (x:=.ref t) rfl ?_);show wpAny _ _ (if (K20 t==K3r)=true then _ else _) _ _ s;have nn:¬ (K20 t==K3r)=true:=K12;rw[if_neg nn];show wpAny _ _ (field (.ref it) 1 >>= _) _ _ s;refine K2 (K9j e1 d1 (x:=.int i 0) rfl ?_);show wpAny _ _ (Z2e (.ref t) >>= _) _ _ s;refine K2 (K7m e2 d2 ?_);simp only[K14,hx];refine K2 (K6t (K2 (K3k e1 d1 .(f) ?_)));show wpAny _ _ (newExc (.type "StopIteration") [] >>= _) _ _ _;refine K2 ?_;simp only[newExc,newTuple];refine K2 (K2h ?_ (by size_fits));refine K2 (m:=K7o _ _) (K6z (a:=K3r) (by first|rfl|(simp only[K7o];rfl)) ?_);refine K2h ?_ (by size_fits);simp only[raiseNew];refine K2 (wpAny_handled ?_)
 first|rw[show A.in1.handled=none from hh]|rw[hh]
 refine K2 (K6 (wpAny_throw ?_));exact hE _ _ (((K1k ..).extBut.push _).push _) ⟨_,K0f _ rfl,rfl⟩
end
theorem zZ1 {σ:L2.St}{ch:List Addr}{T:Addr}{vs:List V}{its:List Value}{h2:Heap}{t:Nat}(I:L2.Inv X pins σ H s)
 (hf:∀b∈ch,FpOk X pins H b) (kp:∀b o,b∉ch->s.heap.get? b=some o->h2.get? b=some o) (hT:.(2)<=T) (tup:IsTup0 h2 T its.toArray) (rv:Vals vs its) (hz:vs.length<=sizeLine) :
 L2.Inv X pins σ (upd H T (.tup vs)) { s with heap:=h2,toks:=t }:=by
 have hn:H T=none:=I.hok.fresh hT;have ne:∀{b:Addr} {o:Obj},s.heap.get? b=some o->b≠T:=λe=>K0u (K0r (K0c e) hT);refine I.step (g':=s.gens) (d':=s.drawn) (ch:=ch) (λb hb=>⟨(hf b hb).2.2.2.1,(hf b hb).2.1,(hf b hb).2.2.2.2.1,(hf b hb).2.2.2.2.2⟩) (λb o _ _ hc e _=>kp b o hc e) (λb o _ _ hc e _=>⟨o.slots,kp b o hc e⟩)
  (λb o _ e n=>by rw[J5 (ne e)];exact n) (λb o hc e=>⟨o,kp b o hc e⟩) (λb xs e=>by rw[J5 (Y6 e hn)];exact e) (λb o u e=>by rw[J5 (Y6 e hn)];exact e)
  (λb ps e=>⟨#[],by rw[J5 (Y6 e hn),e];simp⟩) (λm hm=>?_) (λb u e=>?_) I.bare
 ·obtain⟨o,es,ep,q,r⟩:=hm;exact⟨o,es,ep,kp _ o (λz=>(hf _ z).2.1 rfl) q,r⟩
 ·by_cases hb:b=T
  ·subst hb;rw[J6]at e;cases e;exact⟨hz,its,rv,tup⟩
  ·rw[J5 hb]at e;refine(I.hok b u e).stay (λc v hc q=>kp c v (λz=>?_) q) (λc q=>?_) λc xs q=>?_
   ·rcases hc with y|y
    ·rw[y]at z;rw[(hf b z).1]at e;cases e
    ·rw[(hf c z).1]at y;cases y
   ·rw[J5 (Y6 q hn)];exact q
   ·rw[J5 (Y6 q hn)];exact q
section
variable {a b:Expr}
def cutD (xs:List D) (lo hi:Option Int):List D:=(xs.drop (HT.sIx xs.length 0 lo)).take (HT.sIx xs.length xs.length hi - HT.sIx xs.length 0 lo)
def fSl:D->Option Int->Option Int->M D
 | .tup xs,lo,hi=>pure (.tup (cutD xs lo hi))
 | .fl xs,lo,hi=>newL (cutD xs lo hi)
 | .ref n,lo,hi=>do
  let xs <- getL n
  newL (cutD xs lo hi)
 | _,_,_=>bad
def Z0I:G->M (Option Int):=λ_=>pure none
def Z0Q (ma:G->M D):G->M (Option Int):=λγ=>do
 let x <- ma γ
 match x with
 | .int i=>pure (some i)
 | _=>bad
def zN7 (ma:G->M D) (ml mh:G->M (Option Int)):G->M D:=λγ=>do
 let x <- ma γ;let lo <- ml γ;let hi <- mh γ
 fSl x lo hi
end
def leS (a b:Str):Bool:=!decide (b.cps.toList<a.cps.toList)
theorem z6m {a b c:Str}(h1:leS a b=true) (h2:leS b c=true):leS a c=true:=by
 simp only[leS,K4b,decide_eq_false_iff_not]at *;exact K5i.mpr (List.le_trans (K5i.mp h1) (K5i.mp h2))
theorem zi2 (a b:Str):(leS a b||leS b a)=true:=by
 simp only[leS,K2o,K4b,decide_eq_false_iff_not];rcases List.le_total a.cps.toList b.cps.toList with h|h
 ·exact .inl (K5i.mpr h)
 ·exact .inr (K5i.mpr h)
theorem z9S {a b:Str}(h:a.cps.toList=b.cps.toList):a=b:=by
 cases a;cases b;congr 1;exact Array.toList_inj.mp h
theorem zn8 {a b:Str}(h1:leS a b=true) (h2:leS b a=true):a=b:=by
 simp only[leS,K4b,decide_eq_false_iff_not]at *;exact z9S (Z2h (K5i.mp h1) (K5i.mp h2))
def z2n (l:List Str):List Str:=l.mergeSort leS
theorem z99 (l:List Str):(z2n l).Perm l:=K4l l leS
theorem zp9 (l:List Str):(z2n l).Pairwise (λa b=>leS a b=true):=K64 (le:=leS) (λa b c h1 h2=>z6m h1 h2) zi2 l
theorem z6U:∀(p:Str) (l:List Str),risingS p l=true->(p::l).Pairwise (λa b=>leS a b=true)
 | p,[],_=>by simp
 | p,x::r,h=>by
  have h':(!ltCps x.cps.toList p.cps.toList&&risingS x r)=true:=h;rw[K0k,ltCps_eq]at h';have ih:=z6U x r h'.2;have px:leS p x=true:=h'.1;refine List.pairwise_cons.mpr ⟨λy hy=>?_,ih⟩;rcases K0y.mp hy with rfl|hy
  ·exact px
  ·exact z6m px ((List.pairwise_cons.mp ih).1 y hy)
theorem zr8 {l l':List Str}(p:l'.Perm l) (h:sortedS l'=true):l'=z2n l:=by
 have pw:l'.Pairwise (λa b=>leS a b=true):=by
  cases l' with
  | nil=>exact .nil
  | cons x r=>exact z6U x r h
 exact K8e (λa b _ _=>zn8) pw (zp9 l) (p.trans (z99 l).symm)
def leI (a b:Int):Bool:=decide (a<=b)
def sortI (l:List Int):List Int:=l.mergeSort leI
theorem sortI_perm (l:List Int):(sortI l).Perm l:=K4l l leI
theorem z8d (l:List Int):(sortI l).Pairwise (λa b=>a<=b):=by
 have:=K64 (le:=leI) (λa b c h1 h2=>by simp only[leI,decide_eq_true_eq]at *;omega) (λa b=>by simp only[leI,K2o,decide_eq_true_eq];omega) l;exact this.imp λh=>by simpa [leI] using h
theorem z6a {l l':List Int}(p:l'.Perm l) (h:l'.Pairwise (·<=·)):l'=sortI l :=
 K8e (λa b _ _ h1 h2=>Int.le_antisymm h1 h2) h (z8d l) (p.trans (sortI_perm l).symm)
def z5K:List D->Option (List Str)
 | []=>some []
 | .str b::r=>(z5K r).map (b::·)
 | _::_=>none
def z43:List D->Option (List Int)
 | []=>some []
 | .int b::r=>(z43 r).map (b::·)
 | _::_=>none
def z38:List D->M D
 | [.ref n]=>do
  let xs <- getL n
  if xs.length<64 then (match z5K xs with
   | some ss=>newL ((z2n ss).map .str)
   | none=>(match z43 xs with
    | some ns=>newL ((sortI ns).map .int)
    | none=>bad)) else bad
 | _=>bad
theorem z8h {K:K5}{ρ:List Addr}{H:Hp}:∀{xs:List D}{bs:List Str}{vs:List V},z5K xs=some bs->RDs K ρ H xs vs->vs=bs.map V.str
 | [],bs,vs,e,r=>by simp only[RDs]at r;cases e;subst r;rfl
 | x::xs,bs,vs,e,r=>by
  simp only[RDs]at r;obtain⟨v,r2,rfl,h1,h2⟩:=r;cases x<;>first|(simp only[z5K]at e;cases e;done)|skip
  rename_i b;simp only[z5K]at e;obtain⟨bs',e1,rfl⟩:=K16.mp e;simp only[RD]at h1;subst h1;rw[z8h e1 h2];rfl
theorem z64 {K:K5}{ρ:List Addr}{H:Hp}:∀{xs:List D}{bs:List Int}{vs:List V},z43 xs=some bs->RDs K ρ H xs vs->vs=bs.map V.int
 | [],bs,vs,e,r=>by simp only[RDs]at r;cases e;subst r;rfl
 | x::xs,bs,vs,e,r=>by
  simp only[RDs]at r;obtain⟨v,r2,rfl,h1,h2⟩:=r;cases x<;>first|(simp only[z43]at e;cases e;done)|skip
  rename_i b;simp only[z43]at e;obtain⟨bs',e1,rfl⟩:=K16.mp e;simp only[RD]at h1;subst h1;rw[z64 e1 h2];rfl
theorem z86:∀{bs:List Str}{us:List Value},Vals (bs.map V.str) us->StrsAre us bs
 | [],us,h=>by cases h;exact .nil
 | b::bs,us,h=>by
  cases h with
  | cons h1 h2=>obtain⟨t,rfl⟩:=h1;exact .cons b t (z86 h2)
theorem z8b:∀{us:List Value}{bs:List Str},StrsAre us bs->Vals (bs.map V.str) us
 | _,_,.nil=>.nil
 | _,_,.cons y t r=>.cons ⟨t,rfl⟩ (z8b r)
theorem z5P:∀{us:List Value}{bs:List Int},K86 us bs->Vals (bs.map V.int) us:=λh=>z4r h
section
variable {a:Expr}
theorem z7W:z3F X (.builtin "sorted") (λxs H Q=>∃l ys,xs=[.ref l]/\SqL X.K H l ys/\ys.length<64 /\
 ((∃ss,ys=ss.map V.str/\∀q,H q=none->Q (.ref q) (upd H q (.lst ((z2n ss).map V.str))))\/(∃ns,ys=ns.map V.int/\∀q,H q=none->Q (.ref q) (upd H q (.lst ((sortI ns).map V.int)))))):=by
 intro pins s σ H xs us Q I r h;obtain⟨l,ys,rfl,hq,h64,h⟩:=h;obtain⟨u,rfl,ru⟩:=vals1 r;cases ru;obtain⟨its,rv,pl,hz⟩:=I.list hq;have hl:=rv.length;have fin:∀(out:Array Value) (zs:List V),Vals zs out.toList->zs.length=ys.length->(∀q,H q=none->Q (.ref q) (upd H q (.lst zs)))->EP X pins σ Q (.ref (.(2)+1)) { s with heap:=sortedAll s.heap its out }:=λout zs h1 h2 h3=>by
  obtain⟨e,he⟩:=sortedAll_at s.heap its out;refine⟨.ref (.(2)+1),_,I.laid (t':=s.toks) (o:=.lst zs) (λb o q=>sortedAll_old q) (K5h _) ⟨by omega,out.toList,e,h1,?_⟩,rfl,h3 _ (I.hok.fresh (K5h _))⟩;rw[he]
 rcases h with ⟨ss,rfl,h⟩|⟨ns,rfl,h⟩
 ·refine sorted_strs pl.isList (z86 rv) .(1) λout ss' h1 h2 h3=>?_;have e:=zr8 h2 h3;subst e;exact fin out _ (z8b h1) (by rw[K0d,K0d,h2.length_eq]) h
 ·have hi:K86 its ns:=L2.intsAre_of rv;refine sorted_ints pl.isList hi .(1) λout ns' h1 h2 h3=>?_;have e:=z6a h2 h3;subst e;exact fin out _ (z5P h1) (by rw[K0d,K0d,h2.length_eq]) h
theorem z97 {K:K5}{ρ:List Addr}{H:Hp}:∀(l:List Str),RDs K ρ H (l.map .str) (l.map V.str)
 | []=>RDs.nil
 | x::r=>RDs.cons (by simp[RD]) (z97 r)
theorem z4h {K:K5}{ρ:List Addr}{H:Hp}:∀(l:List Int),RDs K ρ H (l.map .int) (l.map V.int)
 | []=>RDs.nil
 | x::r=>RDs.cons (by simp[RD]) (z4h r)
theorem z9X:AR X.K EX (λxs H Q=>∃l ys,xs=[.ref l]/\SqL X.K H l ys/\ys.length<64 /\
 ((∃ss,ys=ss.map V.str/\∀q,H q=none->Q (.ref q) (upd H q (.lst ((z2n ss).map V.str))))\/(∃ns,ys=ns.map V.int/\∀q,H q=none->Q (.ref q) (upd H q (.lst ((sortI ns).map V.int)))))) z38:=by
 intro ρ h H ds vs Q r rd fin;unfold z38 at fin;split at fin
 ·rename_i n;obtain⟨v,rfl,rv⟩:=rds1 rd;have f1:=Fin.bind fin;cases e:getL n h with
  | bad=>rw[e]at f1;exact f1.elim
  | err z hz=>exact(z1J e).elim
  | ok xs h1 =>
   obtain⟨rfl,q1⟩:=z1M e;rw[e]at f1;have f2:=f1 ρ H .(9) .(a) r;dsimp only at f2;simp only[RD]at rv;obtain⟨q,rfl,h2⟩:=rv;obtain⟨a1,n1,ws,o1,d1⟩:=r.at q1;rw[h2]at n1;cases n1;by_cases hl:xs.length<64
   ·rw[if_pos hl]at f2;refine⟨q,ws,rfl,SqL.of o1,by rw[<- d1.length];exact hl,?_⟩;cases eb:z5K xs with
    | some ss =>
     rw[eb]at f2;have f3:FE X.K EX ρ H Q (newL ((z2n ss).map .str) h1):=f2;unfold newL at f3;split at f3
     ·exact .inl ⟨ss,z8h eb d1,λp hp=>FE.lst f3 r (z97 _) hp⟩
     ·exact f3.elim
    | none =>
     rw[eb]at f2;cases en:z43 xs with
     | some ns =>
      rw[en]at f2;have f3:FE X.K EX ρ H Q (newL ((sortI ns).map .int) h1):=f2;unfold newL at f3;split at f3
      ·exact .inr ⟨ns,z64 en d1,λp hp=>FE.lst f3 r (z4h _) hp⟩
      ·exact f3.elim
     | none=>rw[en]at f2;exact(show False from f2).elim
   ·rw[if_neg hl]at f2;exact(show False from f2).elim
 ·exact fin.elim
theorem zj6 (hc:X.calm=true) (hg:Gl X "sorted") (hm:X.mg "sorted" = none) (ha:SA X EX [a] mr) (he:K0h [a] X.env=[(false,eval a X.env)]:=by rfl):SE X EX (.Call (.Name "sorted" p) [a] [] pos) (Z7 z38 mr) :=
 z1L (z24 z7W hg hm boot_sorted ha.h (by decide) (by decide) he rfl) z9X
end
@[simp] theorem bindM (m:M α) (f:α->M β) (h:AH):(m >>= f) h=match m h with
 | .ok a h1=>f a h1
 | .err x h1=>.err x h1
 | .bad=>.bad:=rfl
@[simp] theorem pureM (a:α) (h:AH):(Z37 a:M α) h=.ok a h:=rfl
theorem Rise.lt {xs:Array Nat}(h:Rise xs){a b:Nat}(ha:xs[i]?=some a) (hb:xs[j]?=some b) (hij:i<j):a<b:=by
 obtain⟨h1,e1⟩:=K41.mp ha;obtain⟨h2,e2⟩:=K41.mp hb;have:=K47.mp h i j (by simpa using h1) (by simpa using h2) hij;simp only[Array.getElem_toList]at this;rw[e1,e2]at this;exact this
theorem z5F {xs:Array Nat}(h:Rise xs) (j:Nat):∀(fuel lo hi:Nat),hi - lo<=fuel->lo<=hi->hi<=xs.size->(∀(i:Nat) a,i<lo->xs[i]?=some a->a<j)->(∀(i:Nat) a,hi<=i->xs[i]?=some a->j<=a) ->
 (K3l xs j fuel lo hi)<=xs.size/\(∀(i:Nat) a,i<K3l xs j fuel lo hi->xs[i]?=some a->a<j)/\∀(i:Nat) a,K3l xs j fuel lo hi<=i->xs[i]?=some a->j<=a
 | 0,lo,hi,hf,hl,hs,h1,h2=>by
  have:hi=lo:=by omega
  subst this;exact⟨by simp only[K3l];omega,by simpa only[K3l] using h1,by simpa only[K3l] using h2⟩
 | fuel+1,lo,hi,hf,hl,hs,h1,h2=>by
  rw[K3l];split
  ·rename_i hlt;have hm:(lo+hi) / 2<xs.size:=by omega
   have e:xs[(lo+hi) / 2]?=some xs[(lo+hi) / 2]:=K1t hm;have ed:xs.getD ((lo+hi) / 2) j=xs[(lo+hi) / 2]:=by rw[Array.getD_eq_getD_getElem?,e];rfl
   dsimp only;rw[ed];split
   ·rename_i q;refine z5F h j fuel _ hi .(1) .(1) hs (λi a hi' ha=>?_) h2;by_cases z:i=(lo+hi) / 2
    ·subst z;rw[e]at ha;cases ha;exact q
    ·exact Z1u (h.lt ha e .(1)) q
   ·rename_i q;refine z5F h j fuel lo _ .(1) .(1) .(1) h1 (λi a hi' ha=>?_);by_cases z:i=(lo+hi) / 2
    ·subst z;rw[e]at ha;cases ha;omega
    ·have:=h.lt e ha .(1);omega
  ·exact⟨by omega,h1,λi a hi' ha=>h2 i a .(1) ha⟩
theorem z3J {xs:Array Nat}(h:Rise xs) (j:Nat):K0x xs j<=xs.size/\(∀(i:Nat) a,i<K0x xs j->xs[i]?=some a->a<j)/\∀(i:Nat) a,K0x xs j<=i->xs[i]?=some a->j<=a:=by
 unfold K0x;refine z5F h j xs.size 0 xs.size .(1) .(1) .(1) (λi a hi=>by omega) (λi a hi ha=>?_);have:=(K41.mp ha).1;omega
theorem z9u {xs:Array Nat}(h:Rise xs) (e:xs[i]?=some j):K0x xs (j+1)=i+1:=by
 obtain⟨b1,b2,b3⟩:=z3J h (j+1);have hi:=(K41.mp e).1;have l1:i<K0x xs (j+1):=by
  by_cases q:i<K0x xs (j+1)
  ·exact q
  ·have:=b3 i j .(1) e;omega
 by_cases q:K0x xs (j+1)=i+1
 ·exact q
 ·have hlt:i+1<xs.size:=by omega
  have e2:xs[i+1]?=some xs[i+1]:=K1t hlt;have a1:=b2 (i+1) _ .(1) e2;have a2:=h.lt e e2 .(1);omega
theorem z9w {xs:Array Nat}(h:Rise xs):K0x xs 0=0:=by
 obtain⟨b1,b2,b3⟩:=z3J h 0;by_cases q:K0x xs 0=0
 ·exact q
 ·have hlt:0<xs.size:=by omega
  have e2:xs[0]?=some xs[0]:=K1t hlt;have:=b2 0 _ .(1) e2;omega
theorem zn5 (h:Rise t.place) (hj:t.place[K0x t.place j]?≠some j):Rise (t.put j).1.place:=by
 obtain⟨b1,b2,b3⟩:=z3J h j;show (K8k.insertAt t.place (K0x t.place j) j).toList.Pairwise _;rw[K8k.toList_insertAt];have tk:∀a∈t.place.toList.take (K0x t.place j),a<j:=λa ha=>by
  obtain⟨i,hi,e⟩:=K1m ha;rw[K6f]at e;have hi2:i<K0x t.place j:=by
   rw[K2d]at hi;omega
  have hi3:i<t.place.size:=by omega
  exact b2 i a hi2 (by rw[K1t hi3];simpa using e)
 have dr:∀a∈t.place.toList.drop (K0x t.place j),j<a:=λa ha=>by
  obtain⟨i,hi,e⟩:=K1m ha;rw[List.getElem_drop]at e;have hi3:K0x t.place j+i<t.place.size:=by
   rw[List.length_drop]at hi;simp at hi;omega
  have e2:t.place[K0x t.place j+i]?=some a:=by rw[K1t hi3];simpa using e
  have:=b3 _ a .(1) e2;by_cases q:a=j
  ·subst q;cases i with
   | zero=>exact absurd e2 hj
   | succ i =>
    have hlt:K0x t.place a<t.place.size:=by omega
    have e3:t.place[K0x t.place a]?=some t.place[K0x t.place a]:=K1t hlt;have a1:=b3 _ _ (K04 _) e3;have a2:=h.lt e3 e2 .(1);omega
  ·omega
 have p1:=List.Pairwise.take (i:=K0x t.place j) h;have p2:=List.Pairwise.drop (i:=K0x t.place j) h;simp only[K71,List.pairwise_cons]
 first
  | (refine⟨p1,⟨dr,p2⟩,λa ha b hb=>?_⟩
     rcases K0y.mp hb with rfl|hb
     ·exact tk a ha
     ·exact Z1u (tk a ha) (dr b hb))
  | skip
theorem z8L (h:∀i,t.slot j≠.live i):t.place[K0x t.place j]?≠some j:=λe=>by
 refine h (K0x t.place j) ?_;unfold K8k.slot;dsimp only;rw[e,if_pos .(f)]
theorem z5X {t:K8k}{ha:Nat->Int}{hx:Int}:∀(fuel:Nat) (p:Z2z) (j:Nat) (dm:Option Nat),(∀d,p.dummy=some d->t.slot d=.dummy)->K7v t ha hx fuel p=some (.empty j dm)->t.slot j=.empty/\∀d,dm=some d->t.slot d=.dummy
 | 0,p,j,dm,hd,e=>by simp[K7v]at e
 | fuel+1,p,j,dm,hd,e=>by
  rw[K7v]at e;have adv:∀q:Z2z,(t.advance q).dummy=q.dummy:=λq=>by
   unfold K8k.advance;split<;>rfl
  split at e
  ·rename_i hs;cases e;exact⟨hs,hd⟩
  ·rename_i hs;refine z5X fuel _ j dm (λd z=>?_) e;rw[adv]at z;cases z;exact hs
  ·split at e
   ·cases e
   ·refine z5X fuel _ j dm (λd z=>?_) e;rw[adv]at z;exact hd d z
theorem zp2 {b:Bool}(e:t.freeSlot hx=some (j,b)):t.place[K0x t.place j]?≠some j:=by
 unfold K8k.freeSlot K8k.probe at e;split at e
 ·rename_i j' dm hp;obtain⟨s1,s2⟩:=z5X _ _ j' dm (λd z=>by simp[K8k.probeStart]at z) hp;cases dm with
  | none=>cases e;exact z8L (λi z=>by rw[show t.slot (none.getD j')=_ from s1]at z;cases z)
  | some d=>cases e;exact z8L (λi z=>by rw[show t.slot ((some d).getD j')=_ from s2 d rfl]at z;cases z)
 ·cases e
theorem z2P (n:Nat):Rise (Array.range n):=by
 show (Array.range n).toList.Pairwise _;rw[Array.toList_range];exact K6l
theorem z7u {x:Value}(h:Rise t.place):Rise (layNew t es hx x).2.1.place/\(layNew t es hx x).2.1.led=t.led:=by
 unfold layNew;split
 ·rename_i sl wd e;dsimp only;unfold K8k.orStandIn;split
  ·exact⟨zn5 h (zp2 e),rfl⟩
  ·exact⟨z2P _,rfl⟩
 ·exact⟨z2P _,rfl⟩
theorem zc2 {mask finger moves:Nat}{led plain:Bool}{hs:Array Int}{o:Array Nat}(e:Z33 mask finger moves led plain hs=some (t,o)):Rise t.place/\t.led=led:=by
 unfold Z33 at e;cases hl:K8k.layClean mask hs with
 | none=>rw[hl]at e;cases e
 | some ow =>
  rw[hl]at e;cases e;refine⟨?_,rfl⟩;unfold Rise;dsimp only;rw[K84,List.pairwise_filterMap];refine K6l.imp λ{a b} hab c hc d hd=>?_;cases h1:ow.getD a none with
  | none=>rw[h1]at hc;cases hc
  | some u =>
   cases h2:ow.getD b none with
   | none=>rw[h2]at hd;cases hd
   | some v =>
    rw[h1]at hc;rw[h2]at hd;cases hc;cases hd;exact hab
theorem z9i:Rise (K6y t es n).2.1.place/\(K6y t es n).2.1.led=t.led:=by
 unfold K6y;split
 ·rename_i t' o e;obtain⟨r1,r2⟩:=zc2 e;dsimp only;split
  ·exact⟨r1,r2⟩
  ·exact⟨z2P _,rfl⟩
 ·exact⟨z2P _,rfl⟩
theorem z1Y {R:α->β->Prop}{l' l:List β}(p:l'.Perm l):∀{ks:List α},Paired R ks l->∃ks',ks'.Perm ks/\Paired R ks' l':=by
 induction p with
 | nil=>intro ks h;exact⟨ks,.refl _,h⟩
 | cons x _ ih =>
  intro ks h;cases h with
  | cons a b =>
   obtain⟨ks',q1,q2⟩:=ih b;exact⟨_::ks',.cons _ q1,.cons a q2⟩
 | swap x y l =>
  intro ks h;cases h with
  | cons a b =>
   cases b with
   | cons c d=>exact⟨_::_::_,.swap _ _ _,.cons c (.cons a d)⟩
 | trans _ _ ih1 ih2 =>
  intro ks h;obtain⟨k1,a1,a2⟩:=ih2 h;obtain⟨k2,b1,b2⟩:=ih1 a2;exact⟨k2,b1.trans a1,b2⟩
theorem z4O {α β:Type}{R:α->β->Prop}:∀{ks:List α}{l:List β}{k:α}{x:β},Paired R ks l->R k x->Paired R (ks++[k]) (l++[x])
 | _,_,_,_,.nil,h=>.cons h .nil
 | _,_,_,_,.cons a b,h=>.cons a (z4O b h)
theorem z2M {α β:Type}{R:α->β->Prop}:∀{ks:List α}{l:List β}{x:β},Paired R ks l->x∈l->∃k∈ks,R k x
 | _,_,_,.cons a b,h=>by
  rcases K0y.mp h with rfl|h
  ·exact⟨_,K1e,a⟩
  ·obtain⟨k,h1,h2⟩:=z2M b h;exact⟨k,K1a _ h1,h2⟩
theorem z4M {α β:Type}{R:α->β->Prop}:∀{ks:List α}{l:List β}{k:α},Paired R ks l->k∈ks->∃x∈l,R k x
 | _,_,_,.cons a b,h=>by
  rcases K0y.mp h with rfl|h
  ·exact⟨_,K1e,a⟩
  ·obtain⟨k,h1,h2⟩:=z4M b h;exact⟨k,K1a _ h1,h2⟩
theorem z4e {k:Key}{v:Value}(h:z1P k v=true):v.scannable=true:=by
 rcases j7 h with ⟨i,t,rfl,rfl⟩|⟨x,t,rfl,rfl⟩<;>rfl
theorem z8x (h:Paired (KE w) ks l):ElemsOf (y9 P w) l:=λe he=>by
 obtain⟨k,_,h1,h2⟩:=z2M h he;exact⟨⟨k,h1,h2⟩,z4e h1⟩
theorem zJ5 {k k':Key}{v:Value}(h:z1P k v=true) (h':z1P k' v=true):k=k':=by
 rcases j7 h with ⟨i,t,rfl,rfl⟩|⟨x,t,rfl,rfl⟩
 ·rcases j7 h' with ⟨j,u,rfl,e⟩|⟨y,u,rfl,e⟩
  ·cases e;rfl
  ·cases e
 ·rcases j7 h' with ⟨j,u,rfl,e⟩|⟨y,u,rfl,e⟩
  ·cases e
  ·cases e;rfl
theorem mem_of (h:Paired (KE w) ks l) (k:Key):k∈ks↔∃e∈l,z1P k e.2=true:=by
 constructor
 ·intro hk;obtain⟨e,h1,h2,_⟩:=z4M h hk;exact⟨e,h1,h2⟩
 ·rintro⟨e,h1,h2⟩;obtain⟨k',h3,h4,_⟩:=z2M h h1;exact zJ5 h2 h4 ▸ h3
theorem SetAt.setOf {h:Heap}(x:SetAt w h a ks):h.SetOf (y9 P w) a (λk=>decide (k∈ks)) ks.length:=by
 obtain⟨o,es,ep,t,ks',h1,h2,h3,h4,h5,h6,h7,h8,h9,_⟩:=x;refine⟨o,es,ep,t,h1,h2,h3,z8x h4,λk=>?_,h7,h8,?_⟩
 ·rw[.(h),<- h5.mem_iff];exact mem_of h4 k
 ·rw[<- h5.length_eq,K3h h4,K17]
theorem SetAt.stay {h h':Heap}(x:SetAt w h a ks) (k:∀o,h.get? a=some o->h'.get? a=some o):SetAt w h' a ks:=by
 obtain⟨o,es,ep,t,ks',h1,h2⟩:=x;exact⟨o,es,ep,t,ks',k o h1,h2⟩
theorem SetAt.perm {h:Heap}{ks2:List Key}(x:SetAt w h a ks) (p:ks.Perm ks2):SetAt w h a ks2:=by
 obtain⟨o,es,ep,t,ks',h1,h2,h3,h4,h5,h6,h7⟩:=x;exact⟨o,es,ep,t,ks',h1,h2,h3,h4,h5.trans p,p.nodup_iff.mp h6,h7⟩
theorem za5 {h:Heap}{led:Bool}(hl:led=true\/w.params.followText "set-order" = true):SetAt w (h.push { cls:=.type "set",dict:=none,data:=.set #[] 0 (.fresh 0 0 led) }) h.objs.size [] :=
 ⟨_,#[],0,_,[],K0f _ rfl,⟨rfl,rfl,rfl⟩,rfl,.nil,.refl _,K43,by decide,by rfl,by show ([]:List Nat).Pairwise _;exact .nil,hl⟩
theorem z5z {t':K8k}{ks':List Key}{h:Heap}(ho:h.get? a=some o) (hex:o.ExactSet) (hd:o.data=.set es ep t) (h4:Paired (KE w) ks' es'.toList) (h5:ks'.Perm ks) (h6:ks.Nodup)
 (hb:es'.size<scanBound) (hf:t'.fits es'.size=true) (hr:Rise t'.place) (hl:t'.led=true\/w.params.followText "set-order" = true) :
 SetAt w (h.update a (K7i es' t')) a ks/\∃o',(h.update a (K7i es' t')).get? a=some o'/\o'.ExactSet/\o'.data=.set es' (ep+1) t':=by
 have g:(h.update a (K7i es' t')).get? a=some { o with data:=.set es' (ep+1) t' }:=by
  have:=K46 (K7i es' t') ho (by rw[putSet_of es' t' hd];rfl);rw[putSet_of es' t' hd]at this;exact this
 exact⟨⟨_,es',ep+1,t',ks',g,hex,rfl,h4,h5,h6,hb,hf,hr,hl⟩,_,g,hex,rfl⟩
theorem tail_at {ks ks1:List Key}{o:Obj}{es es1:Array (Int×Value)}{ep:Nat}{t t2:K8k}{wd:Bool}{R:Option Bool->Shared->Prop}(hG:∀(g:Bool) (s1:Shared) (Z:Unit->Shared->Prop),Z () s1->wpAny (model P w) A (gw g) Z E s1)
 (ho:s.heap.get? a=some o) (hex:o.ExactSet) (hd:o.data=.set es ep t) (h4:Paired (KE w) ks1 es1.toList) (h5:ks1.Perm ks) (h6:ks.Nodup) (hb:es1.size<scanBound) (hf:t2.fits es1.size=true) (hr:Rise t2.place) (hl:t2.led=true\/w.params.followText "set-order" = true)
 (h:∀h',K2b a s.heap h'->SetAt w h' a ks->R (some true) { s with heap:=h' }) :
 wpAny (model P w) A (storeSet a es1 t2 >>= λ_=>if (!wd&&t2.tooFull)=true then (gw (K6y t2 es1 (K3j es1.size)).2.2 >>= λ_=>storeSet a (K6y t2 es1 (K3j es1.size)).1 (K6y t2 es1 (K3j es1.size)).2.1 >>= λ_=>pure (some true)) else pure (some true)) R E s:=by
 obtain⟨S1,o1,g1,x1,d1⟩:=z5z (h:=s.heap) (t':=t2) ho hex hd h4 h5 h6 hb hf hr hl;have sb:=K1k s.heap a (K7i es1 t2);refine K2 (K87 ho hd ?_ (K5f hb));split
 ·have rp:=relayAll_perm t2 es1 (K3j es1.size);have rf:=relayAll_fits t2 es1 (K3j es1.size);have rr:=z9i (t:=t2) (es:=es1) (n:=K3j es1.size);obtain⟨ks2,p1,p2⟩:=z1Y rp h4;have sz:(K6y t2 es1 (K3j es1.size)).1.size=es1.size:=by rw[<- K17,rp.length_eq,K17]
  have b2:(K6y t2 es1 (K3j es1.size)).1.size<scanBound:=by rw[sz];exact hb
  refine K2 (hG _ _ _ (K2 (K87 g1 d1 (K6 ?_) (K5f b2))));obtain⟨S2,_⟩:=z5z (h:=s.heap.update a (K7i es1 t2)) (t':=(K6y t2 es1 (K3j es1.size)).2.1) g1 x1 d1 p2 (p1.trans h5) h6 b2 rf rr.1 (by rw[rr.2];exact hl);exact h _ (sb.trans (K1k _ a _)) S2
 ·exact K6 (h _ sb S1)
theorem zt7 {k:Key}{x:Value}{Q:Bool->Shared->Prop}(hk:z1P k x=true) (hS:SetAt w s.heap a ks) (hroom:ks.length+1<scanBound)
 (h:∀h' b,K2b a s.heap h'->SetAt w h' a (if k∈ks then ks else ks++[k])->Q b { s with heap:=h' }) :
 wpAny (model P w) A (Z25 a x (keyH w k)) Q E s:=by
 obtain⟨o,es,ep,t,ks',ho,hex,hd,h4,h5,h6,h7,h8,h9,h0⟩:=hS;have el:=z8x (P:=P) h4;have sc:=z4e hk;have hn:es.size=ks.length:=by rw[<- h5.length_eq,K3h h4,K17]
 unfold Z25 setAddHashedIn;refine K2e (K2 (K2u ho hd h8 ?_));dsimp only;rw[byScan_of sc h7 el,if_pos rfl];unfold setAddByScan;refine K2 (K2 (K6t (K2 (wpAny_setScan_of (knd:=y9 P w) (k:=k) hk ho hd h8 el ?_))));cases hr:List.findIdx? (λe=>(y9 P w).is k e.2) es.toList with
 | some j =>
  dsimp only;obtain⟨hj,hp,_⟩:=K66.mp hr;have hm:k∈ks:=h5.mem_iff.mp ((mem_of h4 k).mpr ⟨_,K6s hj,hp⟩);have:=h s.heap false (K5c a s.heap) (by rw[if_pos hm];exact⟨o,es,ep,t,ks',ho,hex,hd,h4,h5,h6,h7,h8,h9,h0⟩);exact K6 (K6 this)
 | none =>
  dsimp only;have hm:k∉ks:=λz=>by
   obtain⟨e,he,hp⟩:=(mem_of h4 k).mp (h5.mem_iff.mpr z);have:=K7s.mp hr e he;rw[show (y9 P w).is k e.2=true from hp]at this;cases this
  rw[if_neg hm]at h;have np:=layNew_perm t es (keyH w k) x;have nf:=layNew_fits t es (keyH w k) x;have nr:=z7u (t:=t) (es:=es) (hx:=keyH w k) (x:=x) h9;have hG:∀(g:Bool) (s1:Shared) (R:Unit->Shared->Prop),R () s1->wpAny (model P w) A (match g with|true=>rule "set.scan.the-table-gave-way" | false=>pure ()) R E s1 :=
   λg s1 R q=>by cases g<;>first|exact K6 q|exact K6t q
  generalize hL:layNew t es (keyH w k) x=L at np nf nr ⊢;obtain⟨es1,t1,wd,gv⟩:=L;dsimp only at np nf nr ⊢;rw[Z22]at np;obtain⟨ks1,p1,p2⟩:=z1Y np (z4O h4 (show KE w k (keyH w k,x) from⟨hk,rfl⟩));have nd:(ks++[k]).Nodup:=by
   rw[K1c];exact⟨h6,by simp,λu hu v hv=>by simp at hv;subst hv;exact λz=>hm (z ▸ hu)⟩
  have b1:es1.size<scanBound:=by
   rw[<- K17,np.length_eq,K3,K17];simpa [hn] using hroom
  have p3:ks1.Perm (ks++[k]):=p1.trans (h5.append_right [k]);have l1:t1.led=true\/w.params.followText "set-order" = true:=by rw[nr.2];exact h0
  refine K2 (hG _ _ _ ?_);split
  ·rw[hashByValue_scannable 8 sc];refine K2 (K6 ?_);refine tail_at (t2:=if plainKind x=true then t1 else { t1 with plain:=false }) hG ho hex hd p2 p3 nd b1 ?_ ?_ ?_ λh' sb S=>K6 (h h' true sb S)
   ·split
    ·exact nf
    ·exact K8k.fits_plain_off nf
   ·split
    ·exact nr.1
    ·exact nr.1
   ·split
    ·exact l1
    ·exact l1
  ·refine K2 (K6 ?_);simp only[if_pos];exact tail_at hG ho hex hd p2 p3 nd b1 nf nr.1 l1 λh' sb S=>K6 (h h' true sb S)
def putK (acc:List Key) (k:Key):List Key:=if k∈acc then acc else acc++[k]
def dedK (ks:List Key):List Key:=ks.foldl putK []
theorem zq6 (acc:List Key) (k:Key):(putK acc k).length<=acc.length+1:=by
 unfold putK;split
 ·omega
 ·simp
theorem z6J:∀(ks acc:List Key),(ks.foldl putK acc).length<=acc.length+ks.length
 | [],acc=>by simp
 | k::ks,acc=>by
  have h1:=z6J ks (putK acc k);have h2:=zq6 acc k;simp only[K52,K01];omega
theorem zq8 (ks:List Key):(dedK ks).length<=ks.length:=by
 have:=z6J ks [];simpa [dedK] using this
theorem zb8 (ks:List Key) (k:Key):dedK (ks++[k])=putK (dedK ks) k:=by
 unfold dedK;rw[K6g];rfl
theorem SetAt.typeIs {ks:List Key}(x:SetAt w s.heap a ks):s.TypeIs (.ref a) "set":=(x.setOf (P:=default)).typeIs
theorem z75 {k:Key}{x:Value}{Q:Bool->Shared->Prop}(hk:z1P k x=true) (hS:SetAt w s.heap a ks) (hroom:ks.length+1<scanBound)
 (h:∀h' b,K2b a s.heap h'->SetAt w h' a (putK ks k)->Q b { s with heap:=h',toks:=s.toks+1 }):wpAny (model P w) A (setAdd a x) Q E s:=by
 unfold setAdd;refine K2e (K2 ((y9 P w).pyHash (k:=k) hk ?_));exact zt7 (s:={ s with toks:=s.toks+1 }) hk hS hroom λh' b sb S=>h h' b sb S
theorem zk3 {k:Key}{x:Value}{Q:Value->Shared->Prop}(hk:z1P k x=true) (hS:SetAt w s.heap a ks) (hroom:ks.length+1<scanBound)
 (h:∀h',K2b a s.heap h'->SetAt w h' a (putK ks k)->Q .none { s with heap:=h',toks:=s.toks+1 }):wpAny (model P w) A (call (.builtin "set.add") [.ref a,x]) Q E s:=by
 refine K2s F.slot_set_add hS.typeIs F.entry_set_add ?_ (F.args_set_add_2 _ _);unfold Builtin.«set.add» Builtin.Frozenset.oneOther;simp only[K8j,Z1i];unfold K8a;refine K2 (K6 ?_)
 try dsimp only
 refine K2 (K6 ?_)
 try dsimp only
 refine K2 (z75 hk hS hroom λh' b sb S=>?_);show wpAny _ _ (ret K3r) _ _ _;exact K6 ⟨_,rfl,h h' sb S⟩
section
variable {R:Result->Shared->Prop}{fp wr:List Addr}{G:Array Z21->Array Z21->Prop}{St:Nat->Shared->Prop}
theorem z6u (W:WalksS P w A.in1 I fp wr G n PV St) (S:Addr) (hSf:S∉fp) (key:Nat->Key) (hv:∀i v,PV i v->z1P (key i) v=true) (hb:n+1<scanBound):
 ∀(k i:Nat) (s:Shared),i+k=n->St i s->SetAt w s.heap S (dedK ((K0m i).map key)) ->
  (∀s',Moved (S::wr) G s s'->SetAt w s'.heap S (dedK ((K0m n).map key))->R (.ok (.ret .none)) s') ->
  K4w (model P w) A (.builtin "set.update.loop" ⟨[.ref S,.ref I],[]⟩) R s:=by
 have nw:S∉wr:=λh=>hSf (W.sub _ h);have up:∀b∈wr,b∈S::wr:=λb hb=>K1a _ hb;intro k;induction k with
 | zero =>
  intro i s hk st hS hR;obtain rfl:i=n:=by omega
  refine K2p K8r ?_;rw[K28 K65 _];show wpAny _ A.in1 (pyNext (.ref I) >>= _) _ _ s;refine K2 (W.done s _ _ st λs' hm=>?_);show wpAny _ A.in1 (ret K3r) _ _ s';exact K6 (hR s' (hm.mono up) (hS.stay λo e=>hm.heap S o nw e))
 | succ k ih =>
  intro i s hk st hS hR;refine K2p K8r ?_;rw[K28 K65 _];show wpAny _ A.in1 (pyNext (.ref I) >>= _) _ _ s;refine K2 (W.item i s _ _ .(1) st λv s' hP st' hm=>?_);show wpAny _ A.in1 (K36 [v] (setAdd S v) >>= _) _ _ s';have room:(dedK ((K0m i).map key)).length+1<scanBound:=by
   have:=zq8 ((K0m i).map key);rw[K0d,K1q]at this;omega
  refine K2 (K2e (z75 (hv i v hP) (hS.stay λo e=>hm.heap S o nw e) room λh' b sb S2=>?_));have nx:dedK ((K0m (i+1)).map key)=putK (dedK ((K0m i).map key)) (key i):=by
   rw[Z2q,K38];exact zb8 _ _
  refine K6 ⟨K59 K65 _,ih (i+1) _ .(1) (W.frame _ s' _ _ st' (K5h _) λb hb o e=>?_) (by rw[nx];exact S2) λs'' hm'' S3=>?_⟩
  ·rw[sb.2 b (λz:b=S=>hSf (z ▸ hb))];exact e
  ·refine hR s'' (Moved.trans W.gtrans ((hm.mono up).then_heap (K5h _) λb o hb e=>?_) hm'') S3;rw[sb.2 b (λz:b=S=>hb (by rw[z];exact K1e))];exact e
end
theorem z9y:isSubtype (.type "tuple") (.type "set")=pure false:=by rw[K6j];kernel_rfl
theorem z7D:isSubtype (.type "tuple") (.type "frozenset")=pure false:=by rw[K6j];kernel_rfl
abbrev Y4 (w:World):Obj:={ cls:=.type "set",dict:=none,data:=.set #[] 0 (.fresh 0 0 (!w.params.followText "set-order")) }
theorem zV9 (w:World):(!w.params.followText "set-order")=true\/w.params.followText "set-order" = true:=by
 cases w.params.followText "set-order"<;>simp
theorem fresh_at {h:Heap}:SetAt w (h.push (Y4 w)) h.objs.size []:=za5 (zV9 w)
theorem newS (h:Q (.ref s.heap.objs.size) { s with heap:=s.heap.push (Y4 w) }):wpAny (model P w) A (newSet (.type "set")) Q E s:=by
 unfold newSet K6u;refine K2 (K2 (K27 (K6 ?_)));dsimp only;simp only[newObj];exact K2 (Z2n (K6 h))
theorem newCode (a:Value) (h:Q (.ref s.heap.objs.size) { s with heap:=s.heap.push (Y4 w) }):
 K4w (model P w) A (.call (.builtin "set.__new__") ⟨[.type "set",a],[]⟩) (wants Q E) s:=by
 refine K56 (show wpAny _ A.in1 (do K8q "set.__new__" ⟨[.type "set",a],[]⟩;again (.builtin "set.__new__" ⟨[.type "set",a],[]⟩)) _ _ s from ?_);refine K2 (K6z (F.newCall_set_1 a) (K6 ⟨K59 K78 _,K2p F.entry_set_new ?_⟩));rw[K28 K78 _];unfold Builtin.«set.__new__» K7g;have hz:=K8z;obtain⟨hp,g,d,tk,os⟩:=s;dsimp only
 wp_walk
 refine K27 (K6 ?_);dsimp only;simp only[newObj];refine K2 (Z2n (K6 ?_));exact K6 h
theorem ze9 {l:Addr}{items:Array Value}{key:Nat->Key}{Q:Value->Shared->Prop}(hT:T = "list"\/T = "tuple") (hh:A.handled=none) (hl:∃o,s.heap.get? l=some o/\o.cls=.type T/\∃n,o.data=.seq items n)
 (hv:∀(i:Nat) v,items[i]?=some v->z1P (key i) v=true) (hb:items.size+1<scanBound)
 (h:∀h' tk,SetAt w h' .(2) (dedK ((K0m items.size).map key))->(∀b o,s.heap.get? b=some o->h'.get? b=some o)->Q (.ref .(2)) { s with heap:=h',toks:=tk }) :
 wpAny (model P w) A (call (.type "set") [.ref l]) Q E s:=by
 obtain⟨c,tl,hmro⟩:=K2c.mro;have z1:=K2c.made;have z2:=K2c.sub;have z3:=K2c.notType;have z4:=K2c.canCreate;have z5:=F.typeCall_set_1 (.ref l);obtain⟨ol,hol,hcl,nl,hdl⟩:=hl;obtain⟨ocls,odict,odata,oslots⟩:=ol;simp only at hcl hdl;subst hcl;subst hdl;refine K8x (K56 (show wpAny _ _ (callAny (.type "set") _) _ _ _ from ?_));refine K6 ⟨Z1m _ .(3),K2p Z29 ?_⟩;rw[Z1g (K9e "set" [.ref l] []) rfl]
 repeat (any_goals (first|assumption|wp_step))
 refine K3v (newCode (.ref l) (E:=E) (Q:=λobj s1=>obj=.ref .(2)/\s1={ s with heap:=s.heap.push (Y4 w) }) ⟨rfl,rfl⟩) λr s1 hr=>?_;cases r with
 | error e=>exact hr
 | ok fl =>
  cases fl with
  | next=>exact hr.elim
  | brk=>exact hr.elim
  | cont=>exact hr.elim
  | ret obj =>
   obtain⟨rfl,rfl⟩:=hr;have gS:(s.heap.push (Y4 w)).get? .(2)=some (Y4 w):=K0f _ rfl;have tS:K5r { s with heap:=s.heap.push (Y4 w) } (.ref .(2)) "set":=⟨_,gS,rfl⟩;have y1:=K2c.init.lookup;have y2:=K2c.init.bind (.ref .(2))
   repeat (any_goals (first|assumption|wp_step))
   refine K3v (K73 (R:=wants (λr s2=>r=.none/\∃h' tk,s2={ s with heap:=h',toks:=tk }/\SetAt w h' .(2) (dedK ((K0m items.size).map key))/\∀b o,s.heap.get? b=some o->h'.get? b=some o) E) K2c.init.plain F.entry_set_init (check_set_init_1 tS ?_)) λr2 s2 hr2=>?_
   ·have gl:(s.heap.push (Y4 w)).get? l=some { cls:=.type T,dict:=odict,data:=.seq items nl,slots:=oslots }:=K8 _ hol;have hll:l<s.heap.objs.size:=K0c hol;have h3:A.in1.in1.in1.handled=none:=by simp[hh]
    have neI:l≠(s.heap.push (Y4 w)).objs.size:=by rw[K1y];exact K0u (K4c hll)
    have nf:.(2)∉[(s.heap.push (Y4 w)).objs.size,l]:=by
     rw[K1y];simp only[K0y,K0j,K25,or_false,not_or];exact⟨K0u (K5m _),K2r hll⟩
    have start:∀ob:Obj,SetAt w ((s.heap.push (Y4 w)).push ob) .(2) (dedK ((K0m 0).map key)):=λob=>fresh_at.stay λo e=>K8 _ e;have fin:∀(ob:Obj) s',Moved [.(2),(s.heap.push (Y4 w)).objs.size] (λg g'=>g'=g) { s with heap:=(s.heap.push (Y4 w)).push ob } s'->SetAt w s'.heap .(2) (dedK ((K0m items.size).map key)) ->
     ∃h' tk,s'={ s with heap:=h',toks:=tk }/\SetAt w h' .(2) (dedK ((K0m items.size).map key))/\∀b o,s.heap.get? b=some o->h'.get? b=some o:=λob s' hm S2=>by
     obtain⟨h',g',d',tk',os'⟩:=s';have e1:g'=s.gens:=hm.gens;have e2:d'=s.drawn:=hm.drawn;have e3:os'=s.os:=hm.os;subst e1;subst e2;subst e3;refine⟨h',tk',rfl,S2,λb o e=>hm.heap b o ?_ (K8 _ (K8 _ e))⟩;have:=K0c e;rw[K1y];simp only[K0y,K0j,K25,or_false,not_or];exact⟨K0u this,K0u (K4c this)⟩
    rcases hT with rfl|rfl
    ·have x1:=F.sub_list_set;have x2:=F.sub_list_frozenset;have x3:(K4g "list"==K4g "dict")=false:=by decide
     have il:(s.heap.push (Y4 w)).IsList l items:=⟨_,gl,rfl,nl,rfl⟩;unfold Builtin.«set.__init__» noKeywords K75;generalize hPI:pyIter=PI
     wp_walk
     subst hPI;refine K6m il (K2 (K7n ?_));refine z6u ((Walks.list h3 _ l neI items).toS) .(2) nf key (λi v e=>hv i v e) hb items.size 0 _ .(1) ⟨⟨_,K0f _ rfl,rfl,rfl⟩,il.push _⟩ (start _) λs' hm S2=>?_;obtain⟨h',tk,rfl,q1,q2⟩:=fin _ s' hm S2;exact K6 (show wpAny _ _ (ret K3r) _ _ _ from K6 ⟨rfl,h',tk,rfl,q1,q2⟩)
    ·have x1:=z9y;have x2:=z7D;have x3:(K4g "tuple"==K4g "dict")=false:=by decide
     have il:(s.heap.push (Y4 w)).IsTuple l items:=⟨_,gl,rfl,nl,rfl⟩;unfold Builtin.«set.__init__» noKeywords K75;generalize hPI:pyIter=PI
     wp_walk
     subst hPI;refine K50 il (K2 (K7n ?_));refine z6u ((Walks.tuple h3 _ l neI items).toS) .(2) nf key (λi v e=>hv i v e) hb items.size 0 _ .(1) ⟨⟨_,K0f _ rfl,rfl,rfl⟩,⟨_,K8 _ gl,rfl,nl,rfl⟩⟩ (start _) λs' hm S2=>?_;obtain⟨h',tk,rfl,q1,q2⟩:=fin _ s' hm S2;exact K6 (show wpAny _ _ (ret K3r) _ _ _ from K6 ⟨rfl,h',tk,rfl,q1,q2⟩)
   ·cases r2 with
    | error e=>exact hr2
    | ok f2 =>
     cases f2 with
     | next=>exact hr2.elim
     | brk=>exact hr2.elim
     | cont=>exact hr2.elim
     | ret r =>
      obtain⟨rfl,h',tk,rfl,q1,q2⟩:=hr2
      repeat (any_goals (first|assumption|wp_step))
      exact h _ _ q1 q2
theorem z3A {α:Type}:∀(l:List α) (i:Nat) (h:i<l.length),(l[i]::l.eraseIdx i).Perm l
 | [],i,h=>by simp at h
 | a::l,0,h=>.refl _
 | a::l,i+1,h=>by
  have:=z3A l i (by simpa using h);exact(List.Perm.swap a _ _).trans (Z2w a this)
theorem z6w {l:List α}(h:i<l.length) (e:l.length=n+1):(l.eraseIdx i).length=n:=by
 rw[List.length_eraseIdx,if_pos h,e];rfl
theorem z9I {α:Type}(f:Nat->Nat):∀(n k:Nat) (left:List α) (out:Array α),left.length=n->(Z1q f n k left out).toList.Perm (out.toList++left)
 | 0,k,left,out,h=>by
  have:left=[]:=K2j.mp h;subst this;simp[Z1q]
 | n+1,k,left,out,h=>by
  have hl:f k % left.length<left.length:=Nat.mod_lt _ .(1);rw[Z1q,K9 hl];dsimp only;refine(z9I f n (k+1) _ _ (z6w hl h)).trans ?_;rw[Z22,K05];refine K97 _ ?_;exact z3A left _ hl
theorem z6l (f:Nat->Nat) (xs:Array α):(Z2f f xs).toList.Perm xs.toList:=by
 unfold Z2f;have:=z9I f xs.size 0 xs.toList #[] .(f);simpa using this
theorem slot_si_next:Slot "set_iterator" "__next__" "set_iterator.__next__" :=
 .of (owner:="set_iterator") (n:="__next__") (by rw[typeLookup_type,K9f];kernel_rfl) .(3) .(3) .(3) (by first|exact .inl .(3)|exact .inr .(3)) (by rw[K6j];kernel_rfl)
theorem z3j:entryFor table "set_iterator.__next__" = some Builtin.«set_iterator.__next__»:=entryFor_of_tree (by kernel_rfl)
theorem z8U:Manifest.owners.lookup (String.ofList ['r','o','t','a','r','e','t','i','_','t','e','s'].reverse)=some Manifest.sig_set_iterator:=by kernel_rfl
theorem z3X (a:Value):argsOk "set_iterator.__next__" ⟨[a],[]⟩:=by
 unfold argsOk;rw[Z16 (id:="set_iterator.__next__") (n:=['_','_','t','x','e','n','_','_']) (o:=['r','o','t','a','r','e','t','i','_','t','e','s']) (by kernel_rfl) z8U];kernel_rfl
theorem z40:Slot "set_iterator" "__iter__" "set_iterator.__iter__" :=
 .of (owner:="set_iterator") (n:="__iter__") (by rw[typeLookup_type,K9f];kernel_rfl) .(3) .(3) .(3) (by first|exact .inl .(3)|exact .inr .(3)) (by rw[K6j];kernel_rfl)
theorem z6r:entryFor table "set.__iter__" = some Builtin.«frozenset.__iter__» :=
 K9n (id':="frozenset.__iter__") (by kernel_rfl) rfl .(3) (by kernel_rfl)
theorem z7h (a:Value):argsOk "set.__iter__" ⟨[a],[]⟩:=by
 unfold argsOk;rw[Z16 (id:="set.__iter__") (n:=['_','_','r','e','t','i','_','_']) (o:=['t','e','s']) (by kernel_rfl) F.owner_set];kernel_rfl
theorem z3D {α:Type}:∀(n:Nat) (xs:List α) (s:Shared) (Q:List α->Shared->Prop),xs.length=n->(∀ys d',ys.Perm xs->Q ys { s with drawn:=d' })->wpAny (model P w) A (drawOrder n xs) Q E s
 | 0,xs,s,Q,h,hq=>by
  have:xs=[]:=K2j.mp h;subst this;exact K6 (hq [] s.drawn (.refl _))
 | n+1,xs,s,Q,h,hq=>by
  cases xs with
  | nil=>simp at h
  | cons x xs =>
   rw[drawOrder.eq_3 _ _ (λz=>by cases z)];refine K2 ?_;refine λΓ p _=>⟨by simp,?_⟩;generalize hi:(model P w).w.draws .order (s.drawn.get .order) % (x::xs).length=i;have il:i<(x::xs).length:=by rw[<- hi];exact Nat.mod_lt _ .(f)
   show wpAny (model P w) A (match (x::xs)[i]? with|some x_1=>(do return x_1::(<- drawOrder n ((x::xs).eraseIdx i)))|none=>unsupported "internal:drawOrder") Q E { s with drawn:=s.drawn.bump .order };rw[K9 il];dsimp only;refine K2 (z3D n _ _ _ (z6w il h) λys d' pm=>K6 ?_);exact hq _ d' ((Z2w _ pm).trans (z3A _ i il))
theorem z69:entryFor table "set_iterator.__iter__" = some Builtin.«dict_keyiterator.__iter__» :=
 K9n (id':="dict_keyiterator.__iter__") (by kernel_rfl) rfl .(3) (by kernel_rfl)
theorem z72 (a:Value):argsOk "set_iterator.__iter__" ⟨[a],[]⟩:=by
 unfold argsOk;rw[Z16 (id:="set_iterator.__iter__") (n:=['_','_','r','e','t','i','_','_']) (o:=['r','o','t','a','r','e','t','i','_','t','e','s']) (by kernel_rfl) z8U];kernel_rfl
abbrev z7K (first:Value) (i:Nat) (S:Addr) (n ep:Nat):Obj:={ cls:=.type "set_iterator",data:=.fields #[first,rawInt i,.ref S,rawInt n,rawInt ep] }
section
variable (w:World) (S:Addr) (es:Array (Int×Value)) (ep:Nat) (t:K8k)
inductive Stand (h:Heap) (i:Nat):Value->List (Int×Value)->Prop where
 | txt (b:w.params.followText "set-order" = true):Stand h i (rawInt 0) (Z2f (w.params.setOrder S ep) es).toList
 | drw (T:Addr) (pl:List Nat) (b:w.params.followText "set-order" = false) (hT:∃o n,h.get? T=some o/\o.data=.seq (pl.map λ(j:Nat)=>rawInt j).toArray n) (hp:pl.Perm (K0m es.size)):Stand h i (.ref T) (pl.filterMap λj=>es[j]?)
 | slo (sl:Nat) (b:w.params.followText "set-order" = false) (c:(!t.plain&&decide (es.size > 1))=false) (l:t.led=true) (e:K0x t.place sl=i):Stand h i (rawInt sl) es.toList
end
theorem z5i {α:Type}{es:Array α}:∀{pl:List Nat},(∀j∈pl,j<es.size)->∀(i:Nat),(pl.filterMap λj=>es[j]?)[i]?=(pl[i]?).bind λj=>es[j]?
 | [],h,i=>by simp
 | a::pl,h,i=>by
  have hb:=h a K1e;have ha:es[a]?=some es[a]:=K1t hb;rw[K4n,ha];cases i with
  | zero=>simp[ha]
  | succ i=>simpa using z5i (λj hj=>h j (K1a _ hj)) i
theorem Stand.perm {h:Heap}{f:Value}(x:Stand w S es ep t h i f ord):ord.Perm es.toList:=by
 cases x with
 | txt b=>exact z6l _ _
 | drw T pl b hT hp =>
  refine(hp.filterMap _).trans ?_;rw[filterMap_getElem?_range]
 | slo sl b c l e=>exact .refl _
section
variable {f:Value}
theorem z8V {sl:Nat}{Q:Option (Value×Nat)->Shared->Prop}(ho:s.heap.get? S=some o) (hd:o.data=.set es ep t) (hf:t.fits es.size=true) (b:w.params.followText "set-order" = true)
 (h:Q (((Z2f (w.params.setOrder S ep) es)[i]?).map λe=>(e.2,sl)) s):wpAny (model P w) A (K8u S sl i ep) Q E s:=by
 unfold K8u K6u;refine K2 (K2u ho hd hf (K2 (K2 (K27 (K6 ?_)))));dsimp only;rw[show (model P w).w.params.followText "set-order" = true from b,if_pos rfl,if_neg .(f)];unfold setWalk K6u;refine K2 (K2 (K2u ho hd hf (K2 (K2 (K27 (K6 ?_))))));dsimp only;rw[show (model P w).w.params.followText "set-order" = true from b,if_pos rfl];refine K2 (K27 (K6 (K6 ?_)));exact h
theorem z7Y {sl:Nat}{Q:Option (Value×Nat)->Shared->Prop}(ho:s.heap.get? S=some o) (hd:o.data=.set es ep t) (hf:t.fits es.size=true) (b:w.params.followText "set-order" = false)
 (c:(!t.plain&&decide (es.size > 1))=false) (l:t.led=true) (h:Q (match es[K0x t.place sl]?,t.place[K0x t.place sl]? with|some (_,x),some j=>some (x,j+1)|_,_=>none) s):wpAny (model P w) A (K8u S sl i ep) Q E s:=by
 unfold K8u K6u;refine K2 (K2u ho hd hf (K2 (K2 (K27 (K6 ?_)))));dsimp only;rw[show (model P w).w.params.followText "set-order" = false from b,if_neg (by decide)];rw[if_neg (by show ¬ ((!t.plain&&decide (es.size > 1))=true);rw[c];decide)];refine K2 ?_;show wpAny _ _ (if (!t.led&&!es.isEmpty)=true then _ else _) _ _ _;rw[if_neg (by rw[l];simp)];exact K6 (K6 h)
theorem zC3 {e:Int×Value}{Q:Option Value->Shared->Prop}(ho:s.heap.get? S=some o) (hd:o.data=.set es ep t) (hf:t.fits es.size=true) (hr:Rise t.place) (hI:s.heap.get? I=some (z7K f i S es.size ep)) (st:Stand w S es ep t s.heap i f ord) (he:ord[i]?=some e) (hSI:S≠I)
 (hQ:∀h' f',K2b I s.heap h'->h'.get? I=some (z7K f' (i+1) S es.size ep)->Stand w S es ep t h' (i+1) f' ord->(∀T,f'=.ref T->f=.ref T)->Q (some e.2) { s with heap:=h' }):wpAny (model P w) A (pyNext (.ref I)) Q E s:=by
 have hT:s.TypeIs (.ref I) "set_iterator":=⟨_,hI,rfl⟩;unfold pyNext;refine K2 (wpAny_attempt (K4u (name:=K03 "__next__") hT slot_si_next (K2s slot_si_next hT z3j ?_ (z3X _))));show wpAny _ _ (fieldsOf (.ref I) >>= _) _ _ s;refine K2 (wpAny_fieldsOf hI rfl ?_);show wpAny _ _ (setEntries S >>= _) _ _ s;refine K2 (K4p ho hd hf ?_);rw[if_neg .(f)];have upd:∀(h0:Heap) (vs:Array Value) (j:Nat) (v:Value),h0.get? I=some { cls:=.type "set_iterator",data:=.fields vs }->(h0.update I (Z15 (·.setIfInBounds j v))).get? I=some { cls:=.type "set_iterator",data:=.fields (vs.setIfInBounds j v) }:=λh0 vs j v e=>by
  have:=K46 (Z15 (·.setIfInBounds j v)) e (K6o (K5y rfl _));exact this
 have fin:∀(f':Value) (j:Nat) (R:Z36->Shared->Prop) (R2:Value->Shared->Prop),(∀h',K2b I s.heap h'->h'.get? I=some (z7K f' (i+1) S es.size ep)->R (.done (.ret e.2)) { s with heap:=h' }) ->
  wpAny (model P w) A.in1 (setField (.ref I) 0 f' >>= λ_=>setField (.ref I) 1 (rawInt ((i:Int)+1)) >>= λ_=>ret e.2) R R2 s:=λf' j R R2 q=>by
  have u1:=upd s.heap _ 0 f' hI;refine K2 (K3k hI rfl .(f) (K2 (K3k u1 rfl .(f) (K6 (q _ ((K1k ..).trans (K1k ..)) ?_)))));rw[upd _ _ 1 _ u1];simp[rawInt]
 cases st with
 | txt b =>
  show wpAny _ _ (K8u S (0:Int).toNat (i:Int).toNat (ep:Int).toNat >>= _) _ _ _;rw[K14,K14];refine K2 (z8V ho hd hf b ?_);rw[<- K3b,he];exact fin (rawInt 0) 0 _ _ λh' sb q=>⟨_,rfl,K6 (hQ h' _ sb q (.txt b) λT z=>by cases z)⟩
 | slo sl b c l e2 =>
  have hi:i<es.size:=by simpa using(K02.mp he).1
  have he2:es[i]?=some e:=by rw[<- K3b];exact he
  have sz:t.place.size=es.size:=by
   unfold K8k.fits at hf;simp at hf;exact hf.1
  have hp:t.place[i]?=some (t.place[i]' .(1)):=K1t .(1);show wpAny _ _ (K8u S (sl:Int).toNat (i:Int).toNat (ep:Int).toNat >>= _) _ _ _;rw[K14,K14,K14];refine K2 (z7Y ho hd hf b c l ?_);rw[e2,he2,hp];refine fin (rawInt ((t.place[i]' .(1)+1:Nat):Int)) 0 _ _ λh' sb q=>⟨_,rfl,K6 (hQ h' _ sb q (.slo _ b c l (z9u hr hp)) λT z=>by cases z)⟩
 | drw T pl b hT hp =>
  obtain⟨oT,nT,gT,dT⟩:=hT;have hb:∀j∈pl,j<es.size:=λj hj=>by simpa using hp.mem_iff.mp hj
  rw[z5i hb]at he;cases hpi:pl[i]? with
  | none=>rw[hpi]at he;cases he
  | some j =>
   rw[hpi]at he;have hej:es[j]?=some e:=he;have hTI:T≠I:=λz=>by
    subst z;rw[hI]at gT;cases gT;cases dT
   show wpAny _ _ (Z2e (.ref T) >>= _) _ _ _;refine K2 (K7m gT dT ?_);dsimp only;rw[K14,show ((pl.map λ(j:Nat)=>rawInt j).toArray)[i]?=some (rawInt j) by simp[hpi]];show wpAny _ _ (setNextDrawn S (j:Int).toNat (ep:Int).toNat >>= _) _ _ _;rw[K14,K14];unfold setNextDrawn;refine K2 (K2 (K2u ho hd hf ?_));dsimp only;rw[if_neg .(f),hej];refine K6 ?_;have u1:=upd s.heap _ 1 (rawInt ((i:Int)+1)) hI;refine K2 (K3k hI rfl .(f) (K6 ⟨_,rfl,K6 (hQ _ (.ref T) (K1k ..) ?_ (.drw T pl b ⟨oT,nT,?_,dT⟩ hp) λ_ z=>z)⟩))
   ·rw[u1];simp[rawInt]
   ·rw[K3w _ _ (K4y hTI)];exact gT
theorem zy2 {Q:Option Value->Shared->Prop}(hh:A.handled=none) (ho:s.heap.get? S=some o) (hd:o.data=.set es ep t) (hf:t.fits es.size=true) (hI:s.heap.get? I=some (z7K f es.size S es.size ep)) (st:Stand w S es ep t s.heap es.size f ord)
 (hQ:∀h',Z2m I s.heap h'->Q none { s with heap:=h' }):wpAny (model P w) A (pyNext (.ref I)) Q E s:=by
 have hT:s.TypeIs (.ref I) "set_iterator":=⟨_,hI,rfl⟩;have hl:ord.length=es.size:=by rw[st.perm.length_eq,K17]
 unfold pyNext;refine K2 (wpAny_attempt (K4u (name:=K03 "__next__") hT slot_si_next (K2s slot_si_next hT z3j ?_ (z3X _))));show wpAny _ _ (fieldsOf (.ref I) >>= _) _ _ s;refine K2 (wpAny_fieldsOf hI rfl ?_);show wpAny _ _ (setEntries S >>= _) _ _ s;refine K2 (K4p ho hd hf ?_);rw[if_neg .(f)];have stop:∀(h1:Heap) (Z:Z36->Shared->Prop),Z2m I s.heap h1->wpAny (model P w) A.in1 (newExc (.type "StopIteration") [] >>= λx=>(raiseNew x:Sem Z36)) Z (λe s'=>wpAny (model P w) A (do let __do_lift <- isInstance e (K4g "StopIteration");if __do_lift=true then pure none else throw e) Q E s') { s with heap:=h1 }:=λh1 Z eb=>by
  refine K2 ?_;simp only[newExc,newTuple];refine K2 (K2h ?_ (by size_fits));refine K2 (m:=K7o _ _) (K6z (a:=K3r) (by first|rfl|(simp only[K7o];rfl)) ?_);refine K2h ?_ (by size_fits);simp only[raiseNew];refine K2 (wpAny_handled ?_);rw[show A.in1.handled=none by simp[hh]];refine K2 (K6 (wpAny_throw ?_));refine K2 (K6v (T:="StopIteration") (b:=true) ⟨_,K0f _ rfl,rfl⟩ isSubtype_stop ?_);exact K6 (hQ _ ((eb.push _).push _))
 cases st with
 | txt b =>
  show wpAny _ _ (K8u S (0:Int).toNat (es.size:Int).toNat (ep:Int).toNat >>= _) _ _ _;rw[K14,K14];refine K2 (z8V ho hd hf b ?_);rw[<- K3b,K1i .(1)];exact K2 (K3k hI rfl .(f) (stop _ _ (K1k ..).extBut))
 | slo sl b c l e2 =>
  show wpAny _ _ (K8u S (sl:Int).toNat (es.size:Int).toNat (ep:Int).toNat >>= _) _ _ _;rw[K14,K14,K14];refine K2 (z7Y ho hd hf b c l ?_);rw[e2,Array.getElem?_eq_none (K04 _)];exact K2 (K3k hI rfl .(f) (stop _ _ (K1k ..).extBut))
 | drw T pl b hT hp =>
  obtain⟨oT,nT,gT,dT⟩:=hT;have lp:pl.length=es.size:=by rw[hp.length_eq,K1q]
  show wpAny _ _ (Z2e (.ref T) >>= _) _ _ _;refine K2 (K7m gT dT ?_);dsimp only;rw[K14,show ((pl.map λ(j:Nat)=>rawInt j).toArray)[es.size]?=none by simp[lp]];have u1:(s.heap.update I (Z15 (·.setIfInBounds 0 (rawInt 0)))).get? I=some { cls:=.type "set_iterator",data:=.fields (#[.ref T,rawInt es.size,.ref S,rawInt es.size,rawInt ep].setIfInBounds 0 (rawInt 0)) } :=
   K46 _ hI (K6o (K5y rfl _))
  exact K2 (K3k hI rfl .(f) (K2 (K3k u1 rfl .(f) (stop _ _ ((K1k ..).trans (K1k ..)).extBut))))
end
theorem zn0 {P:K1d}{w:World}{tl:List Addr}(hh:A.handled=none) (hd:o.data=.set es ep t) (hf:t.fits es.size=true) (hr:Rise t.place) (hSI:S≠I) (hl:ord.length=es.size) (htl:I∉tl):
 Walks P w A I (I::S::tl) [I] es.size (λi v=>∃e,ord[i]?=some e/\v=e.2) (λi h=>h.get? S=some o/\∃f,(∀T,f=.ref T->T∈tl)/\h.get? I=some (z7K f i S es.size ep)/\Stand w S es ep t h i f ord) where
 sub:=λb hb=>by simp at hb;simp[hb]
 frame:=λi h h' st hk=>by
  obtain⟨q1,f,q2,q3,q4⟩:=st;refine⟨hk S .(f) _ q1,f,q2,hk I .(f) _ q3,?_⟩;cases q4 with
  | txt b=>exact .txt b
  | slo sl b c l e2=>exact .slo sl b c l e2
  | drw T pl b hT hp =>
   obtain⟨oT,nT,gT,dT⟩:=hT;exact .drw T pl b ⟨oT,nT,hk T (by simp[q2 T rfl]) _ gT,dT⟩ hp
 item:=λi s Q E hi st hQ=>by
  obtain⟨q1,f,q2,q3,q4⟩:=st;have he:ord[i]?=some (ord[i]' .(1)):=K9 .(1);refine zC3 q1 hd hf hr q3 q4 he hSI λh' f' sb g st' tt=>?_;refine hQ _ h' s.toks ⟨_,he,rfl⟩ ⟨?_,f',λT z=>q2 T (tt T z),g,st'⟩ λb ob hb e=>?_
  ·rw[sb.2 S hSI];exact q1
  ·rw[sb.2 b (λz=>hb (by simp[z]))];exact e
 done:=λs Q E st hQ=>by
  obtain⟨q1,f,q2,q3,q4⟩:=st;exact zy2 hh q1 hd hf q3 q4 λh' eb=>hQ h' s.toks λb ob hb e=>eb b ob (λz=>hb (by simp[z])) e
 self:=λi s Q E st hQ=>by
  obtain⟨q1,f,q2,q3,q4⟩:=st;have hT:s.TypeIs (.ref I) "set_iterator":=⟨_,q3,rfl⟩;refine wpAny_pyIter_slot hT z40 (K2s z40 hT z69 ?_ (z72 _));show wpAny _ _ (ret (.ref I)) _ _ s;exact K6 ⟨_,rfl,"set_iterator",_,hT,slot_si_next.lookup,hQ⟩
theorem zn4 {Q:Value->Shared->Prop}(ho:s.heap.get? S=some o) (hc:o.ExactSet) (hd:o.data=.set es ep t) (hf:t.fits es.size=true) (hr:Rise t.place) (hb:es.size<scanBound) (hl:t.led=true\/w.params.followText "set-order" = true)
 (hQ:∀(h':Heap) (d':Drawn) (I:Addr) (f:Value) (ord:List (Int×Value)) (tl:List Addr),(∀b ob,s.heap.get? b=some ob->h'.get? b=some ob)->.(2)<=I->h'.get? I=some (z7K f 0 S es.size ep)->(∀T,f=.ref T->T∈tl)->(∀T∈tl,.(2)<=T/\T<h'.objs.size/\T≠I)->Stand w S es ep t h' 0 f ord->Q (.ref I) { s with heap:=h',drawn:=d' }) :
 wpAny (model P w) A (pyIter (.ref S)) Q E s:=by
 have hT:s.TypeIs (.ref S) "set":=⟨o,ho,hc.1⟩;refine wpAny_pyIter_slot hT F.slot_set_iter (K2s F.slot_set_iter hT z6r ?_ (z7h _));unfold Builtin.«frozenset.__iter__» Builtin.Frozenset.slot0 slotArgs;simp only[K8j,K3i,K1f,↓reduceIte,Z1i,K0b,bne_self_eq_false];unfold K8a K5q;refine K2 (K6 ?_)
 try dsimp only
 refine K2 (K6 ?_);refine K2 (K2 (K4p ho hd hf (K6 ?_)));unfold setDrawn K6u;refine K2 (K2 (K2u ho hd hf (K2 (K2 (K27 (K6 (K6 ?_)))))));dsimp only;have tailW:∀(h0:Heap) (d0:Drawn) (first:Value) (ord:List (Int×Value)) (tl:List Addr),(∀b ob,s.heap.get? b=some ob->h0.get? b=some ob)->.(2)<=h0.objs.size->(∀T,first=.ref T->T∈tl)->(∀T∈tl,.(2)<=T/\T<h0.objs.size) ->
  (∀h',(∀b ob,h0.get? b=some ob->h'.get? b=some ob)->Stand w S es ep t h' 0 first ord) ->
  wpAny (model P w) A.in1 (setEpoch S >>= λe=>newFields "set_iterator" [first,rawInt 0,.ref S,rawInt es.size,rawInt e] >>= λv=>ret v) (λfin s'=>∃v,fin=.done (.ret v)/\∃T' r,s'.TypeIs v T'/\typeLookup (K4g T') (K03 "__next__")=pure (some r)/\Q v s') E { s with heap:=h0,drawn:=d0 }:=λh0 d0 first ord tl k1 k2 k3 k4 k5=>by
  refine K2 (K88 (s:={ s with heap:=h0,drawn:=d0 }) (k1 S o ho) hd hf ?_);refine K2 (K2h (K6 ⟨_,rfl,"set_iterator",_,⟨_,K0f _ rfl,rfl⟩,slot_si_next.lookup,?_⟩));refine hQ _ d0 h0.objs.size first ord tl (λb ob e=>K8 _ (k1 b ob e)) k2 (K0f _ rfl) k3 (λT hT=>?_) (k5 _ λb ob e=>K8 _ e)
  obtain⟨z1,z2⟩:=k4 T hT;exact⟨z1,by rw[K1y];exact K4c z2,K0u z2⟩
 cases hb':w.params.followText "set-order" with
 | true =>
  rw[show (model P w).w.params.followText "set-order" = true from hb',if_neg .(f)];refine K2 (K6 ?_);exact tailW s.heap s.drawn (rawInt 0) _ [] (λ_ _ e=>e) (K04 _) (λT z=>by cases z) (λT z=>by cases z) λh' _=>.txt hb'
 | false =>
  rw[show (model P w).w.params.followText "set-order" = false from hb'];have led:t.led=true:=by
   rcases hl with hl|hl
   ·exact hl
   ·rw[hb']at hl;cases hl
  show wpAny _ _ (if (!false&&(!t.plain&&decide (es.size > 1)))=true then _ else _) _ _ _;rw[K4r,Bool.true_and];cases hdr:(!t.plain&&decide (es.size > 1)) with
  | false =>
   rw[if_neg (by decide)];refine K2 (K6 ?_);exact tailW s.heap s.drawn (rawInt 0) _ [] (λ_ _ e=>e) (K04 _) (λT z=>by cases z) (λT z=>by cases z) λh' _=>.slo 0 hb' hdr led (z9w hr)
  | true =>
   rw[if_pos rfl];refine K2 (z3D es.size (K0m es.size) s _ .(f) λys d' pm=>?_);have ly:(ys.map λ(i:Nat)=>rawInt i).length<=sizeLine:=by
    rw[K0d,pm.length_eq,K1q];exact K5f hb
   refine K2 (wpAny_newTuple ?_ ly);refine tailW (s.heap.push { cls:=.type "tuple",data:=.seq (ys.map λ(i:Nat)=>rawInt i).toArray }) d' (.ref .(2)) _ [.(2)] (λb ob e=>K8 _ e) (by rw[K1y];exact K5h _)
    (λT z=>by cases z;exact K0j.mpr rfl) (λT z=>?_) λh' k=>.drw .(2) ys hb' ⟨_,_,k _ _ (K0f _ rfl),rfl⟩ pm
   have:=K0j.mp z;subst this;exact⟨K04 _,by rw[K1y];exact K5m _⟩
theorem z7Q {Q:List Value->Shared->Prop}(hh:A.handled=none) (ho:s.heap.get? S=some o) (hc:o.ExactSet) (hd:o.data=.set es ep t) (hf:t.fits es.size=true) (hr:Rise t.place) (hb:es.size<scanBound) (hl:t.led=true\/w.params.followText "set-order" = true)
 (hQ:∀(h':Heap) (d':Drawn) (tk:Nat) (ord:List (Int×Value)),(∀b ob,s.heap.get? b=some ob->h'.get? b=some ob)->.(2)<=h'.objs.size->ord.Perm es.toList->Q (ord.map (·.2)) { s with heap:=h',drawn:=d',toks:=tk }) :
 wpAny (model P w) A (collect (.ref S)) Q E s:=by
 have hS:S<s.heap.objs.size:=K0c ho;unfold collect;refine K2 (K7n (K2p F.entry_proto_collect ?_));rw[K28 F.plain_proto_collect _];show wpAny _ A.in1 (Z2u [] >>= λl=>again (.builtin "list.__iadd__" ⟨[l,.ref S],[]⟩)) _ _ s;refine K2 (K2h (K6 ⟨K59 K5l _,K2p F.entry_list_iadd ?_⟩));rw[K28 K5l _];show wpAny _ A.in1 (K5e (.ref .(2)) (.ref S) (.ref .(2))) _ _ _;unfold K5e;have g1:(s.heap.push { cls:=.type "list",data:=.seq ([]:List Value).toArray }).get? S=some o:=K8 _ ho;have tS:K5r { s with heap:=s.heap.push { cls:=.type "list",data:=.seq ([]:List Value).toArray } } (.ref S) "set":=⟨o,g1,hc.1⟩;refine K2 (K7d tS ?_);have n1:K8d (.ref .(2)) (.ref S)=false:=by
  simp only[K8d];exact beq_eq_false_iff_ne.mpr (K2r hS)
 rw[if_neg (by rw[n1];decide)];refine K2 (zn4 (s:={ s with heap:=s.heap.push { cls:=.type "list",data:=.seq ([]:List Value).toArray } }) g1 hc hd hf hr hb hl λh1 d1 I f ord tl k1 k2 k3 k4 k5 st=>?_);have g2:h1.get? S=some o:=k1 S o g1;have gL:h1.get? .(2)=some { cls:=.type "list",data:=.seq ([]:List Value).toArray }:=k1 _ _ (K0f _ rfl);have tS2:K5r { s with heap:=h1,drawn:=d1 } (.ref S) "set":=⟨o,g2,hc.1⟩;refine K2 (K2e ?_);unfold Builtin.List.listLengthHint;refine K2 (wpAny_specialOf tS2 F.slot_set_len.lookup ?_);have sp:splitId "set.__len__" = some ("set","__len__"):=by decide +kernel
 dsimp only;rw[sp];dsimp only;refine K2 (K6v (b:=true) tS2 (by rw[K6j];kernel_rfl) ?_);rw[if_neg (by decide),if_pos .(3)];refine K2 (K7d tS2 (K6 ?_));rw[if_pos .(3)];have u1:=get?_update_seq (c:="list") (xs:=([]:List Value).toArray) (n:=0) gL (·.push .none);have u2:=get?_update_seq u1 (·.pop);refine K2 (K6t ?_);unfold Builtin.List.listTouch;refine K2 (K2 (listUpdate_at (s:={ s with heap:=h1,drawn:=d1 }) gL rfl (listUpdate_at (s:={ s with heap:=h1.update .(2) (K4h (·.push .none)),drawn:=d1 }) u1 rfl ?_)));generalize hh2:(h1.update .(2) (K4h (·.push .none))).update .(2) (K4h (·.pop))=h2 at u2 ⊢;have keep2:∀b ob,b≠.(2)->h1.get? b=some ob->h2.get? b=some ob:=λb ob hb e=>by
  rw[<- hh2,K3w _ _ (K4y hb),K3w _ _ (K4y hb)];exact e
 have hIs:.(2)+1<=I:=by rw[K1y]at k2;exact k2
 have hSI:S≠I:=K0u (K0r hS (Z28 hIs));have lo:ord.length=es.size:=by rw[st.perm.length_eq,K17]
 have W:=zn0 (P:=P) (w:=w) (A:=A.in1) (S:=S) (I:=I) (ord:=ord) (o:=o) (tl:=tl) (by simp[hh]) hd hf hr hSI lo (λz=>(k5 I z).2.2 rfl);have hLf:.(2)∉I::S::tl:=by
  simp only[K0y,not_or];refine⟨K0u hIs,K2r hS,λz=>?_⟩;have:=(k5 _ z).1;rw[K1y]at this;exact K31 _ this
 have st0:(λi (h:Heap)=>h.get? S=some o/\∃f,(∀T,f=.ref T->T∈tl)/\h.get? I=some (z7K f i S es.size ep)/\Stand w S es ep t h i f ord) 0 h2:=by
  refine⟨keep2 S o (K0u hS) g2,f,k4,keep2 I _ (K2r hIs) k3,?_⟩;cases st with
  | txt b=>exact .txt b
  | slo sl b c l e2=>exact .slo sl b c l e2
  | drw T pl b hT hp =>
   obtain⟨oT,nT,gT,dT⟩:=hT;refine .drw T pl b ⟨oT,nT,keep2 T oT (λz=>?_) gT,dT⟩ hp;have:=(k5 T (k4 T rfl)).1;rw[K1y,z]at this;exact K31 _ this
 refine K6 ⟨K59 F.plain_extend_loop _,codeAny_extend_loopS W.toS (K5f hb) s.heap.objs.size hLf _ es.size 0 { s with heap:=h2,drawn:=d1 } #[] 2 .(1) (K3y _) st0 (by simpa [seqObj] using u2) (Z2v.nil _) λs' acc c' hm gS' hacc=>?_⟩;show wpAny _ A (load .(2) >>= _) _ _ s';refine K2 (Z1h gS' (K6 ?_));have ea:acc.toList=ord.map (·.2):=by
  refine Z23 λj=>?_;rw[K0i,K3b];cases hj:acc[j]? with
  | none =>
   have h1:=Array.getElem?_eq_none_iff.mp hj;rw[hacc.1]at h1;rw[K1i .(1)];rfl
  | some v =>
   obtain⟨e,h1,h2⟩:=hacc.2 j v hj;rw[h1,h2];rfl
 rw[ea];obtain⟨h',g',d',tk',os'⟩:=s';have e1:g'=s.gens:=hm.gens;have e2:d'=d1:=hm.drawn;have e3:os'=s.os:=hm.os;subst e1;subst e2;subst e3;refine hQ h' d' tk' ord (λb ob e=>?_) ?_ st.perm
 ·have hb2:b≠s.heap.objs.size:=K0u (K0c e);refine hm.heap b ob ?_ (keep2 b ob hb2 (k1 b ob (K8 _ e)));simp only[K0y,K0j,K25,or_false,not_or];exact⟨hb2,K0u (K0r (K0c e) (Z28 hIs))⟩
 ·exact K33 (K0c gS')
theorem z7m {k:Key}(r:RelV (kV k) u):z1P k u=true:=by
 cases k with
 | inl i=>obtain⟨t,rfl⟩:=r;exact z6R i t
 | inr x=>obtain⟨t,rfl⟩:=r;exact z71 x t
theorem z79:∀{ks:List Key}{us:List Value},Vals (ks.map kV) us->∀(i:Nat) u,us[i]?=some u->∃k,ks[i]?=some k/\z1P k u=true
 | [],_,h,i,u,e=>by cases h;simp at e
 | k::ks,_,.cons h1 h2,0,u,e=>by simp at e;subst e;exact⟨k,rfl,z7m h1⟩
 | k::ks,_,.cons h1 h2,i+1,u,e=>by
  obtain⟨k',q1,q2⟩:=z79 h2 i u (by simpa using e);exact⟨k',by simpa using q1,q2⟩
theorem z9s (ks:List Key):(K0m ks.length).map (λi=>(ks[i]?).getD (.inl 0))=ks:=by
 refine Z23 λi=>?_;rw[K0i];by_cases h:i<ks.length
 ·rw[K3u h,K9 h];simp[K9 h]
 ·rw[K1i (by simpa using h),K1i .(1)];rfl
theorem zi3 (hc:X.calm=true):z3F X (.type "set") (λxs H Q=>∃l ks,xs=[.ref l]/\(SqL X.K H l (ks.map kV)\/SqT X.K H l (ks.map kV))/\ks.length+1<scanBound/\∀q,H q=none->Q (.ref q) (upd H q (.set (dedK ks)))):=by
 intro pins s σ H xs us Q I r h;obtain⟨l,ks,rfl,hq,hb,q⟩:=h;obtain⟨u,rfl,ru⟩:=vals1 r;cases ru;have hh:=I.ok.hd hc;have go:∀{its:List Value} {T:String},T = "list"\/T = "tuple"->Vals (ks.map kV) its->(∃o,s.heap.get? l=some o/\o.cls=.type T/\∃n,o.data=.seq its.toArray n)->wpAny .(4) X.A (call (.type "set") [.ref l]) (EP X pins σ Q) X.xe s:=λ{its T} hT rv hl=>by
  have le:its.length=ks.length:=by rw[<- rv.length,K0d]
  refine ze9 (key:=λi=>(ks[i]?).getD (.inl 0)) hT hh hl (λi v e=>?_) (by rw[K0a,le];exact hb) λh' tk S2 kp=>?_
  ·obtain⟨k,e1,e2⟩:=z79 rv i v (by simpa using e);rw[e1];exact e2
  ·rw[show its.toArray.size=ks.length by rw[K0a,le],z9s]at S2;exact⟨.ref .(2),_,I.laid (t':=tk) (o:=.set (dedK ks)) kp (K04 _) S2,rfl,q _ I.fresh⟩
 rcases hq with hq|hq
 ·obtain⟨its,r',pl,hz⟩:=I.list hq;exact go (.inl rfl) r' pl.isList
 ·obtain⟨its,r',pl,hz⟩:=I.tuple hq;exact go (.inr rfl) r' pl
theorem z4X {σ:L2.St}(I:L2.Inv X pins σ H s) (h:H a=some (.set ks)):SetAt X.w s.heap a ks:=I.hok a _ h
theorem zz9:OpR X (K2f .NotIn) (λx y H Q=>∃k a ks,x=kV k/\y=.ref a/\H a=some (.set ks)/\Q (.bl (!decide (k∈ks))) H):=by
 intro pins s σ H x y v u Q I rx ry h;obtain⟨k,a,ks,rfl,rfl,hH,q⟩:=h;cases ry;have hk:=z7m rx;exact wpAny_notInSet_of (knd:=y9 X.prog X.w) hk (z4e hk) (z4X I hH).setOf ⟨.bl _,H,I.tok _,rfl,q⟩
theorem zB0:MtR X "set.add" (λx vs H Q=>∃a ks k,x=.ref a/\vs=[kV k]/\H a=some (.set ks)/\ks.length+1<scanBound/\Q .non (upd H a (.set (putK ks k)))):=by
 intro pins s σ H x vs v us Q I rx rv h;obtain⟨a,ks,k,rfl,rfl,hH,hb,q⟩:=h;cases rx;obtain⟨u,rfl,ru⟩:=rv.one;refine zk3 (z7m ru) (z4X I hH) hb λh' sb S2=>?_;obtain⟨o2,_,_,_,_,g2,_⟩:=id S2;exact⟨.non,_,I.write (x:=a) (e:=a) (o:=.set (putK ks k)) (t':=s.toks+1) (by rw[hH];trivial) (.inl rfl) (λb ob hb e=>by rw[sb.2 b hb];exact e) ⟨o2,g2⟩ S2,rfl,q⟩
theorem zf9:∀{ns:List Int}{l:List (Int×Value)}{w:World}{ks:List Key},ks=ns.map K1j->Paired (KE w) ks l->K86 (l.map (·.2)) ns
 | [],l,w,ks,e,h=>by subst e;cases h;exact .nil
 | n::ns,l,w,ks,e,h=>by
  subst e;cases h with
  | cons h1 h2 =>
   rcases j7 h1.1 with ⟨i,t,e1,e2⟩|⟨x,t,e1,e2⟩
   ·cases e1;rw[K0v,e2];exact .cons _ t (zf9 rfl h2)
   ·cases e1
theorem zq0 {ns:List Int}:∀{ks:List Key},ks.Perm (ns.map K1j)->∃ms:List Int,ks=ms.map K1j/\ms.Perm ns:=λ{ks} p=>by
 have:∀k∈ks,∃i:Int,k=K1j i:=λk hk=>by
  obtain⟨i,_,e⟩:=K1g.mp (p.mem_iff.mp hk);exact⟨i,e.symm⟩
 have e:ks=(ks.filterMap λk=>match k with|.inl i=>some i|.inr _=>none).map K1j:=by
  clear p;induction ks with
  | nil=>rfl
  | cons k ks ih =>
   obtain⟨i,rfl⟩:=this k K1e;rw[K4n];dsimp only;rw[K0v,<- ih λk hk=>this k (K1a _ hk)]
 refine⟨_,e,?_⟩;have q:=p.filterMap λk=>match k with|.inl i=>some i|.inr _=>none
 refine q.trans ?_;rw[Z1l];have:(List.filterMap ((λk:Key=>match k with|.inl i=>some i|.inr _=>none) ∘ K1j) ns)=ns:=by
  induction ns with
  | nil=>rfl
  | cons n ns ih=>simp[K80]
 rw[this]
theorem z6h (hc:X.calm=true):z3F X (.builtin "sorted") (λxs H Q=>∃a ns,xs=[.ref a]/\H a=some (.set (ns.map K1j))/\ns.length<64/\∀q,H q=none->Q (.ref q) (upd H q (.lst ((sortI ns).map V.int)))):=by
 intro pins s σ H xs us Q I r h;obtain⟨a,ns,rfl,hH,h64,q⟩:=h;obtain⟨u,rfl,ru⟩:=vals1 r;cases ru;obtain⟨o,es,ep,t,ks',h1,h2,h3,h4,h5,h6,h7,h8,h9,h0⟩:=z4X I hH;refine K7t kind_sorted plain_sorted entry_sorted (args_sorted1 _) ?_;unfold Builtin.«sorted»;refine K2 (m:=checkCount "sorted" 1 1 _) (K6 ?_);refine K2 (z7Q (by simp[I.ok.hd hc]) h1 h2 h3 h8 h9 h7 h0 λh' d' tk ord kp sz pm=>?_);obtain⟨k2,p1,p2⟩:=z1Y pm h4;obtain⟨ms,rfl,pm2⟩:=zq0 (p1.trans h5);have ia:=zf9 rfl p2;have l1:(ord.map (·.2)).length=ns.length:=by rw[<- pm2.length_eq,K0d,<- K3h p2,K0d]
 refine K2 (wpAny_newList ?_ (by rw[l1];exact K33 (K0r h64 (by decide))));have gL:(h'.push (seqObj "list" (ord.map (·.2)).toArray 0)).get? h'.objs.size=some (seqObj "list" (ord.map (·.2)).toArray 0):=K0f _ rfl;refine K2 (K2e (K2s slot_list_sort ⟨_,gL,rfl⟩ entry_list_sort (list_sort_tree gL ia (by rw[l1];exact h64) λout ns' a1 a2 a3=>⟨_,rfl,?_⟩) (args_list_sort _)));refine K6 ⟨_,rfl,?_⟩;obtain⟨e,ge⟩:=sortedHeap_at (out:=out) gL;have es':ns'=sortI ns:=z6a (a2.trans pm2) a3;subst es';have un:∀b ob,s.heap.get? b=some ob->(sortedHeap (h'.push (seqObj "list" (ord.map (·.2)).toArray 0)) h'.objs.size (ord.map (·.2)) out).get? b=some ob:=λb ob eb=>by
  have lt:=K0c (kp b ob eb);rw[sortedHeap_old (K0u lt) (by rw[K1y];exact K4c lt)];exact K8 _ (kp b ob eb)
 have ho:=I.hok.laid (a:=h'.objs.size) (o:=.lst ((sortI ns).map V.int)) un sz ⟨by rw[K0d,(sortI_perm ns).length_eq];exact K33 (K0r h64 (by decide)),out.toList,e,z5P a1,ge⟩;exact⟨.ref h'.objs.size,_,I.call' (s':={ s with heap:=_,drawn:=d',toks:=tk }) (ch:=[]) rfl (Un.laid un sz (I.hok.fresh sz)) ho I.bare (λb z=>absurd z .(f)),rfl,q _ (I.hok.fresh sz)⟩
def keyD:D->Option Key
 | .int i=>some (.inl i)
 | .str x=>some (.inr x)
 | _=>none
def z5Z:List D->Option (List Key)
 | []=>some []
 | d::r=>match keyD d,z5Z r with
  | some k,some ks=>some (k::ks)
  | _,_=>none
theorem z7U {k:Key}(e:keyD d=some k) (r:RD K ρ H d v):v=kV k:=by
 cases d<;>first|(simp only[keyD]at e;cases e;done)|skip
 ·simp only[keyD,K7x]at e;subst e;simp only[RD]at r;exact r
 ·simp only[keyD,K7x]at e;subst e;simp only[RD]at r;exact r
theorem z8X {K:K5}{ρ:List Addr}{H:Hp}:∀{ds:List D}{ks:List Key}{vs:List V},z5Z ds=some ks->RDs K ρ H ds vs->vs=ks.map kV
 | [],ks,vs,e,r=>by simp only[RDs]at r;cases e;subst r;rfl
 | d::ds,ks,vs,e,r=>by
  simp only[RDs]at r;obtain⟨v,r2,rfl,h1,h2⟩:=r;rw[z5Z]at e;cases e1:keyD d with
  | none=>rw[e1]at e;cases e
  | some k =>
   rw[e1]at e;cases e2:z5Z ds with
   | none=>rw[e2]at e;cases e
   | some ks' =>
    rw[e2]at e;cases e;rw[z7U e1 h1,z8X e2 h2];rfl
def getS (n:Nat):M (List Key):=λh=>match h[n]? with
 | some (.set ks)=>.ok ks h
 | _=>.bad
def newSet (ks:List Key):M D:=λh=>.ok (.ref h.length) (h++[.set ks])
def z1X:List D->M D
 | [x]=>do
  let xs <- seqD x
  match z5Z xs with
  | some ks=>if ks.length+1<4096 then newSet (dedK ks) else bad
  | none=>bad
 | _=>bad
def fInS (neg:Bool):D->D->M D:=λx y=>match y with
 | .ref n=>do
  let ks <- getS n
  match keyD x with
  | some k=>pure (.bl (decide (k∈ks) != neg))
  | none=>bad
 | _=>bad
def z6E:List Key->Option (List Int)
 | []=>some []
 | .inl i::r=>(z6E r).map (i::·)
 | .inr _::_=>none
theorem z8f:∀{ks:List Key}{ns:List Int},z6E ks=some ns->ks=ns.map K1j
 | [],ns,e=>by cases e;rfl
 | .inl i::r,ns,e=>by
  rw[z6E]at e;obtain⟨ms,e1,rfl⟩:=K16.mp e;rw[z8f e1];rfl
 | .inr _::_,ns,e=>by rw[z6E]at e;cases e
def z0R:List D->M D
 | [.ref n]=>do
  let ks <- getS n
  match z6E ks with
  | some ns=>if ns.length<64 then newL ((sortI ns).map .int) else bad
  | none=>bad
 | _=>bad
def zc7:D->M Nat
 | .ref n=>λh=>match h[n]? with
  | some (.set _)=>.ok n h
  | _=>.bad
 | _=>bad
def z9r (n:Nat) (v:D):M D:=λh=>match h[n]? with
 | some (.set ks)=>(match keyD v with
  | some k=>if ks.length+1<4096 then .ok .non (h.set n (.set (putK ks k))) else .bad
  | none=>.bad)
 | _=>.bad
def eMS (f:Nat->D->M D) (mo ma:G->M D):G->M D:=λγ=>do
 let o <- mo γ;let n <- zc7 o;let v <- ma γ
 f n v
section
variable {a o:Expr}
theorem z49 {Z:List Key->List Addr->AH->Hp->Prop}(r:RH K ρ h H) (hq:ρ[n]?=some q) (f:Fin K EX ρ H Z (getS n h)):∃ks,H q=some (.set ks)/\Z ks ρ h H:=by
 unfold getS at f;cases e:h[n]? with
 | none=>rw[e]at f;exact f.elim
 | some ob =>
  cases ob with
  | lst xs=>rw[e]at f;exact f.elim
  | dct=>rw[e]at f;exact f.elim
  | dK kvs=>rw[e]at f;exact f.elim
  | dF kvs=>rw[e]at f;exact f.elim
  | exc c=>rw[e]at f;exact f.elim
  | ins _ _=>rw[e]at f;exact f.elim
  | set ks =>
   rw[e]at f;obtain⟨a1,n1,o1⟩:=r.at e;rw[hq]at n1;cases n1;exact⟨ks,o1,f ρ H .(9) .(a) r⟩
theorem z3x {Q:VK}(r:RH K ρ h H) (hq:H q=none) (f:FE K EX ρ H Q (newSet ks h)):Q (.ref q) (upd H q (.set ks)):=by
 refine f (ρ++[q]) _ (Pre.app _ _) (Ext.upd (.inl hq)) (r.pushS hq) (.ref q) ?_;simp only[RD];exact⟨q,rfl,by rw[<- r.len];simp⟩
theorem zV4:AR X.K EX (λxs H Q=>∃l ks,xs=[.ref l]/\(SqL X.K H l (ks.map kV)\/SqT X.K H l (ks.map kV))/\ks.length+1<scanBound/\∀q,H q=none->Q (.ref q) (upd H q (.set (dedK ks)))) z1X:=by
 intro ρ h H ds vs Q r rd fin;unfold z1X at fin;split at fin
 ·rename_i x;obtain⟨v,rfl,rv⟩:=rds1 rd;have f1:=Fin.bind fin;cases e:seqD x h with
  | bad=>rw[e]at f1;exact f1.elim
  | err z hz=>exact(z3w e).elim
  | ok ys h1 =>
   obtain⟨rfl,p,xs,rfl,hs,hd⟩:=z2I r rv e;rw[e]at f1;have f2:=f1 ρ H .(9) .(a) r;dsimp only at f2;cases e2:z5Z ys with
   | none=>rw[e2]at f2;exact f2.elim
   | some ks =>
    rw[e2]at f2;dsimp only at f2;split at f2
    ·rename_i hl;have ek:=z8X e2 hd;subst ek;exact⟨p,ks,rfl,hs,hl,λq hq=>z3x r hq f2⟩
    ·exact f2.elim
 ·exact fin.elim
theorem z5t (hc:X.calm=true) (hg:Gl X "set") (hm:X.mg "set" = none) (ha:SA X EX [a] mr) (he:K0h [a] X.env=[(false,eval a X.env)]:=by rfl):SE X EX (.Call (.Name "set" p) [a] [] pos) (Z7 z1X mr) :=
 z1L (z3q (zi3 hc) hg hm .(3) ha.h (by decide) (by decide) he rfl) zV4
theorem zH1:BR K EX (λx y H Q=>∃k a ks,x=kV k/\y=.ref a/\H a=some (.set ks)/\Q (.bl (!decide (k∈ks))) H) (fInS true):=by
 intro ρ h H x y v u Q r rx ry fin;cases y<;>first|exact(show False from fin).elim|skip
 rename_i n;simp only[RD]at ry;obtain⟨q,rfl,hq⟩:=ry;obtain⟨ks,h1,f2⟩:=z49 r hq (Fin.bind fin);cases e:keyD x with
 | none=>rw[e]at f2;exact f2.elim
 | some k =>
  rw[e]at f2;refine⟨k,q,ks,z7U e rx,rfl,h1,?_⟩;have:=f2 ρ H .(9) .(a) r (.bl (decide (k∈ks) != true)) (by simp[RD]);simpa using this
theorem zG8:CO X EX .NotIn (fInS true):=⟨_,zz9,zH1⟩
theorem z9h:AR X.K EX (λxs H Q=>∃a ns,xs=[.ref a]/\H a=some (.set (ns.map K1j))/\ns.length<64/\∀q,H q=none->Q (.ref q) (upd H q (.lst ((sortI ns).map V.int)))) z0R:=by
 intro ρ h H ds vs Q r rd fin;unfold z0R at fin;split at fin
 ·rename_i n;obtain⟨v,rfl,rv⟩:=rds1 rd;simp only[RD]at rv;obtain⟨q,rfl,hq⟩:=rv;obtain⟨ks,h1,f2⟩:=z49 r hq (Fin.bind fin);cases e:z6E ks with
  | none=>rw[e]at f2;exact f2.elim
  | some ns =>
   rw[e]at f2;dsimp only at f2;split at f2
   ·rename_i hl;refine⟨q,ns,rfl,by rw[h1,z8f e],hl,λl hl2=>?_⟩;unfold newL at f2;split at f2
    ·refine f2 (ρ++[l]) _ (Pre.app _ _) (Ext.upd (.inl hl2)) (r.push hl2 ?_) (.ref l) ?_
     ·have:∀ms:List Int,RDs X.K ρ H (ms.map D.int) (ms.map V.int):=λms=>by
       induction ms with
       | nil=>exact RDs.nil
       | cons m ms ih=>exact RDs.cons (by simp[RD]) ih
      exact this _
     ·simp only[RD];exact⟨l,rfl,by rw[<- r.len];simp⟩
    ·exact f2.elim
   ·exact f2.elim
 ·exact fin.elim
theorem z5k (hc:X.calm=true) (hg:Gl X "sorted") (hm:X.mg "sorted" = none) (ha:SA X EX [a] mr) (he:K0h [a] X.env=[(false,eval a X.env)]:=by rfl):SE X EX (.Call (.Name "sorted" p) [a] [] pos) (Z7 z0R mr) :=
 z1L (z24 (z6h hc) hg hm boot_sorted ha.h (by decide) (by decide) he rfl) z9h
theorem zT7 (r:RH K ρ h H) (hq:ρ[n]?=some q) (f:Fin K EX ρ H Z (zc7 (.ref n) h)):tyV K "set" (.ref q) H/\Z n ρ h H:=by
 unfold zc7 at f;dsimp only at f;cases e:h[n]? with
 | none=>rw[e]at f;exact f.elim
 | some ob =>
  cases ob with
  | lst xs=>rw[e]at f;exact f.elim
  | dct=>rw[e]at f;exact f.elim
  | dK kvs=>rw[e]at f;exact f.elim
  | dF kvs=>rw[e]at f;exact f.elim
  | exc c=>rw[e]at f;exact f.elim
  | ins _ _=>rw[e]at f;exact f.elim
  | set ks =>
   rw[e]at f;obtain⟨a1,n1,o1⟩:=r.at e;rw[hq]at n1;cases n1;exact⟨.inr (.inr (.inr ⟨rfl,ks,o1⟩)),f ρ H .(9) .(a) r⟩
theorem zG7 (ho:SE X EX o mo) (ha:SE X EX a ma)
 (hbase:K5b o "add" X.env (eval o X.env)=eval o X.env:=by rfl)
 (hfew:((backTo cpos (K0h [a] X.env)).all (λx=>!x.1)&&(K55 cpos (K39 [] X.env)).all (λx=>x.1.isSome)
 &&decide (([a]:List Expr).length+([]:List K4z).length+(if ([]:List K4z).isEmpty then 0 else 1)<30))=true:=by rfl)
 (hline:(apos.endLine==cpos.line)=true:=by rfl) (hs:K0h [a] X.env=[(false,eval a X.env)]:=by rfl) :
 SE X EX (.Call (.Attribute o "add" apos) [a] [] cpos) (eMS z9r mo ma) :=
 ⟨PE.imp (zm1 PySem.F.plainAttrs_set PySem.F.slot_set_add PySem.F.type_set_add zB0 ho.h (z1p ha.h z3a hs) hbase hfew hline hs rfl) λσ H Q ⟨ρ,γ,h,rel,fin⟩=>⟨ρ,γ,h,rel,(Fin.bind fin).mono λx ρ1 h1 H1 p1 e1 r1 f1 v rv=>by
  have f2:=Fin.bind f1;cases x<;>first|exact(show False from f2).elim|skip
  rename_i n;simp only[RD]at rv;obtain⟨q,rfl,hq⟩:=rv;obtain⟨lt,f3⟩:=zT7 r1 hq f2;refine⟨lt,ρ1,γ,h1,⟨rel.g.mono p1 e1,r1⟩,(Fin.bind f3).mono λy ρ2 h2 H2 p2 e2 r2 f4 u ru=>?_⟩;unfold z9r at f4;cases e:h2[n]? with
  | none=>rw[e]at f4;exact f4.elim
  | some ob =>
   cases ob with
   | lst xs=>rw[e]at f4;exact f4.elim
   | dct=>rw[e]at f4;exact f4.elim
   | dK kvs=>rw[e]at f4;exact f4.elim
   | dF kvs=>rw[e]at f4;exact f4.elim
   | exc c=>rw[e]at f4;exact f4.elim
   | ins _ _=>rw[e]at f4;exact f4.elim
   | set ks =>
    rw[e]at f4;dsimp only at f4;obtain⟨a1,n1,o1⟩:=r2.at e;rw[p2 n q hq]at n1;cases n1;cases e3:keyD y with
    | none=>rw[e3]at f4;exact f4.elim
    | some k =>
     rw[e3]at f4;dsimp only at f4;split at f4
     ·rename_i hl;refine⟨q,ks,k,rfl,by rw[z7U e3 ru],o1,hl,?_⟩;exact f4 ρ2 _ .(9) (Ext.upd (.inr ⟨_,o1,trivial⟩)) (r2.setS e (p2 n q hq)) .non (by simp[RD])
     ·exact f4.elim⟩⟩
end
theorem zM8 {P:K1d}{w:World}{base:Heap}{f:Addr}{fd:K5j}{ps:List Str}{k:Nat}{mb:G->M Out}(F:Fun K x x st f fd) (S:FnScope N ps (Z8 st)) (hb:Binds K fd ps []) (mx:mg x=.(r f)) (hn:ps.length=n)
 (body:∀(cdv:Value) (A:Around) (outer:List Env) (s:Shared) (H:Hp) (E:XK),K2k K cdv x=true->Room k (A.deeper (envOfC x (Z8 st) .(2) f cdv)) ->
  SB (cxOf CX0 P w K mg base N x (Z8 st) f cdv A outer s H E).nox EX0 (Y9 st) mb):Fn P w K mg base (k+1) x n (runF N.length mb):=by
 refine⟨f,fd,ps,?_,hb,F.kp,mx⟩;obtain⟨oc,od,kV,doc,pm,an,cdv,ct,osl,rfl,lk,hcd⟩:=F.ex;refine zn2 lk hcd S (λvs H Q E h=>h.1.trans hn.symm) λA outer s H vs Q E hr h=>?_;obtain⟨hl,ρ,ds,h,rh,rd,fin⟩:=h;refine⟨_,(body cdv A outer s H E hcd hr).h.nox,ρ,z16 N.length ds,h,⟨z3k rd,rh⟩,?_⟩;refine(Fin.bind fin).mono λo ρ1 h1 H1 p1 e1 r1 f1=>?_;cases o with
 | nx γ=>exact λσ _=>FE.here (d:=.non) (h:=h1) f1 r1 (by simp[RD])
 | rt d=>exact λv rv=>f1 ρ1 H1 .(9) .(a) r1 v rv
 | bk γ=>exact(show False from f1).elim
 | ct γ=>exact(show False from f1).elim
theorem zj3 (t:Addr) (items:Array Value):
 Meets (Builtin.«enumerate.__new__» ⟨[.type "enumerate",.ref t],[]⟩) (λ_ R s=>s.heap.IsTuple t items /\
  R (.ok (.ret (.ref (s.heap.push { cls:=.type "tuple_iterator",data:=.fields #[.ref t,.int 0 0] }).objs.size)))
   { s with heap:=(s.heap.push { cls:=.type "tuple_iterator",data:=.fields #[.ref t,.int 0 0] }).push { cls:=.type "enumerate",data:=.fields #[.none,.bool false,.ref .(2),rawInt 0,.none,.none] } }) :=
 .of_wp λprog w A R s h=>by
  obtain⟨hp,g,d,tk,os⟩:=s;obtain⟨q1,h⟩:=h;have hsub:=sub_enumerate;have L1:Heap.IsTuple (Shared.heap ⟨hp,g,d,tk,os⟩) t items:=q1
  wp_walk
  refine wpAny_stack_any λst=>K6 ?_;split
  ·rename_i c _ _ _ _ _;cases (c==K4g "enumerate")
   ·wp_walk using K50 L1
    exact⟨_,rfl,h⟩
   ·wp_walk using K50 L1
    exact⟨_,rfl,h⟩
  ·wp_walk using K50 L1
   exact⟨_,rfl,h⟩
theorem zw2 {P:K1d}{w:World}(hh:A.handled=none) (it t:Addr) (hne:t≠it) (items:Array Value):
 Draws P w A it [it,t] items.size (λi v=>items[i]?=some v) (λi h=>h.IsTupleIter it t i/\h.IsTuple t items) where
 live:=λ_ _ st=>let ⟨o,ho,_⟩:=st.1;⟨o,ho⟩
 frame:=λ_ _ _ st hk=>⟨st.1.at λo e=>hk it .(f) o e,st.2.at λo e=>hk t .(f) o e⟩
 item:=λi s Q E hi st hQ=>zH5 st.1 st.2 (x:=items[i]) (by simp[hi]) λh' hit sb=>hQ _ h' s.toks (by simp[hi]) ⟨hit,st.2.extBut sb.extBut hne⟩ sb
 done:=λs Q E st hE=>zR9 hh st.1 st.2 .(f) hE
def Ite (K:K5) (t:Addr):It :=
 ⟨λi H=>∃xs x,SqT K H t xs/\xs[i]?=some x,
  λi H v H'=>∃T x,H T=none/\v=.ref T/\(∀xs,SqT K H t xs->xs[i]?=some x)/\H'=upd H T (.tup [.int i,x]),
  λi H=>∃xs,SqT K H t xs/\xs.length=i⟩
theorem zi0 {P:K1d}{w:World}{K:K5}{elts:List Expr}{kk:Nat}{pos:Pos}{e t:Addr}(d1:e≠it) (d2:t≠it) (d3:e≠t):
 Turn P w K (.Tuple elts kk pos) (Ite K t) [e,it] e (λi h=>(∃old,IsEnum h e it i old)/\h.IsTupleIter it t i) where
 mem:=by simp
 obj:=λi h st b hb=>by
  obtain⟨⟨old,ee⟩,o,ei,_,di⟩:=st;simp at hb;rcases hb with rfl|rfl
  ·exact⟨_,ee,λv q=>by cases q⟩
  ·exact⟨_,ei,λv q=>by rw[di]at q;cases q⟩
 keep:=λi h h' st k=>by
  obtain⟨⟨old,ee⟩,g⟩:=st;exact⟨⟨old,k e .(f) _ ee⟩,g.at λo q=>k it .(f) o q⟩
 item:=by
  intro X hP hw hK hc i pins s σ H E I hf st hg;subst hP hw hK;obtain⟨xs,x,q1,hx⟩:=hg;obtain⟨its,rv,pl,hz⟩:=I.tuple q1;obtain⟨u,hu,ru⟩:=rv.get hx;obtain⟨⟨old,ee⟩,g⟩:=st;have hi:i<its.toArray.size:=by
   have:=(K02.mp hu).1;simpa using this
  have pT:s.heap.IsTuple t its.toArray:=pl;refine wpAny_pyNext_enum_itemD (zw2 (by simp[I.ok.hd hc]) it t d2 its.toArray) ee ⟨g,pT⟩ hi d1 (by simp[d1,d3]) λy h' tk hy eo st' gT sz kp=>?_;have ey:y=u:=by
   have:its.toArray[i]?=some u:=by simpa using hu
   rw[hy]at this;exact K19 this
  subst ey;refine⟨_,rfl,wpAny_letOwnedTupleGo_enum eo λh2 eo2 sb=>?_⟩;have elt:e<s.heap.objs.size:=K0c ee;have ilt:it<s.heap.objs.size:=by obtain⟨o,q,_⟩:=g;exact K0c q
  have hT:IsTup0 h2 .(2) [K9p i tk,y].toArray:=⟨_,(sb.2 _ (K2r elt)).trans gT,⟨rfl,rfl⟩,_,rfl⟩;have J:=zZ1 (t:=tk+1) (ch:=[e,it]) (T:=.(2)) (vs:=[.int i,x]) (its:=[.int i tk,y]) (h2:=h2) I hf
   (λb o hb q=>by simp at hb;exact(sb.2 b hb.1).trans (kp b o hb.1 hb.2 q)) (K04 _) hT (.cons ⟨tk,rfl⟩ (.cons ru .nil)) (by show 2<=sizeLine;decide)
  refine⟨.ref .(2),_,J,rfl,⟨_,x,I.hok.fresh (K04 _),rfl,λxs' h'=>by rw[I.tuple_inj h' q1];exact hx,rfl⟩,?_,λb hb=>?_⟩
  ·exact⟨⟨_,by simpa using eo2⟩,st'.1.at λo q=>(sb.2 _ (K4y d1)).trans q⟩
  ·have:b<s.heap.objs.size:=by
    simp at hb;rcases hb with rfl|rfl
    ·exact elt
    ·exact ilt
   rw[J5 (K0u this)];exact(hf b hb).1
 done:=by
  intro X hP hw hK hc i pins s σ H E I hf st hg;subst hP hw hK;obtain⟨xs,q1,hl⟩:=hg;obtain⟨its,rv,pl,hz⟩:=I.tuple q1;obtain⟨⟨old,ee⟩,g⟩:=st;have l1:=rv.length;have pT:s.heap.IsTuple t its.toArray:=pl;have en:i=its.toArray.size:=by simp;omega
  refine wpAny_pyNext_enum_endD (zw2 (by simp[I.ok.hd hc]) it t d2 its.toArray) ee ⟨by rw[<- en];exact g,pT⟩ λh' eb=>⟨rfl,?_⟩;have hf':∀b∈[it],FpOk X pins H b:=λb hb=>hf b (by simp at hb;simp[hb]);refine I.step (g':=s.gens) (t':=s.toks) (d':=s.drawn) (ch:=[it]) (λb hb=>⟨(hf' b hb).2.2.2.1,(hf' b hb).2.1,(hf' b hb).2.2.2.2.1,(hf' b hb).2.2.2.2.2⟩) (λb o _ _ hc e _=>?_) (λb o _ _ hc e _=>⟨o.slots,?_⟩)
   (λ_ _ _ _ n=>n) (λb o hc e=>⟨o,?_⟩) (λ_ _ e=>e) (λ_ _ _ e=>e) (λb ps e=>⟨#[],by rw[e];simp⟩) (λm hm=>?_) (λb u e=>?_) I.bare
  ·simp at hc;exact eb b o hc e
  ·simp at hc;exact eb b o hc e
  ·simp at hc;exact eb b o hc e
  ·obtain⟨o,es,ep,q,r⟩:=hm;exact⟨o,es,ep,eb _ o (λy=>(hf' it .(f)).2.1 y.symm) q,r⟩
  ·refine(I.hok b u e).stay (λc v hc q=>?_) (λ_ q=>q) λ_ _ q=>q;refine eb c v (λy=>?_) q;subst y;rcases hc with y|y
   ·rw[<- y,(hf' c .(f)).1]at e;cases e
   ·rw[(hf' c .(f)).1]at y;cases y
 self:=λ_ _ _ _ _ st h=>by
  obtain⟨⟨old,ee⟩,g⟩:=st;exact wpAny_pyIter_enum ee h
section
variable {a:Expr}{pt:Pos}
def zO1 (K:K5) (ta:TA):TI:=λσ H R=>ta σ H λvs H2=>∃t xs,vs=[.ref t]/\SqT K H2 t xs/\R (Ite K t) H2
theorem zG9 {ta:TA}(hg:Gl X "enumerate") (hm:X.mg "enumerate" = none) (ha:PA X [a] ta) (hs:K0h [a] X.env=[(false,eval a X.env)]:=by rfl):PI X (.Tuple elts kk pt) (.Call (.Name "enumerate" p) [a] [] pos) (zO1 X.K ta):=by
 intro pins s σ H R I h;refine Call_ (z3V I hg hm boot_enumerate (K30 (thn (ha pos pins s σ H _ I h) λus s1 ⟨vs,H1,I1,r1,q1⟩=>?_) (by rw[hs];rfl) rfl));obtain⟨t,xs,e,q2,q⟩:=q1;subst e;obtain⟨u,rfl,ru⟩:=vals1 r1;cases ru;obtain⟨its,rv,pl,hz⟩:=I1.tuple q2;have pT:s1.heap.IsTuple t its.toArray:=pl;have lt:t<s1.heap.objs.size:=by obtain⟨o,e,_⟩:=pl;exact K0c e
 refine callType_new PySem.F.called_enumerate (by decide) (PySem.F.typeCall_enumerate_1 _) (PySem.F.newCall_enumerate_1 _) (λobj=>K7p obj _) PySem.F.entry_enumerate_new (zj3 t its.toArray) ⟨pT,?_⟩;have y1:(s1.heap.push { cls:=.type "tuple_iterator",data:=.fields #[.ref t,.int 0 0] }).objs.size=s1.heap.objs.size+1:=K1y ..;have x2:((s1.heap.push { cls:=.type "tuple_iterator",data:=.fields #[.ref t,.int 0 0] }).push { cls:=.type "enumerate",data:=.fields #[.none,.bool false,.ref s1.heap.objs.size,rawInt 0,.none,.none] }).get? (s1.heap.objs.size+1)=some { cls:=.type "enumerate",data:=.fields #[.none,.bool false,.ref s1.heap.objs.size,rawInt 0,.none,.none] }:=by rw[<- y1];exact K0f _ rfl
 have x1:((s1.heap.push { cls:=.type "tuple_iterator",data:=.fields #[.ref t,.int 0 0] }).push { cls:=.type "enumerate",data:=.fields #[.none,.bool false,.ref s1.heap.objs.size,rawInt 0,.none,.none] }).get? s1.heap.objs.size=some { cls:=.type "tuple_iterator",data:=.fields #[.ref t,.int 0 0] }:=K8 _ (K0f _ rfl);show _/\_;rw[y1];refine⟨⟨_,x2,rfl⟩,wpAny_pyIter_enum (e:=s1.heap.objs.size+1) (it:=s1.heap.objs.size) (i:=0) (old:=.none) x2 ?_⟩;refine⟨s1.heap.objs.size+1,_,_,_,H1,rfl,I1.kept (t':=s1.toks) (λc o q=>K8 _ (K8 _ q)),zi0 (it:=s1.heap.objs.size) (t:=t) (K2r (K5m _)) (K0u lt) (K2r (K4c lt)),⟨⟨_,x2⟩,⟨_,x1,rfl,rfl⟩⟩,λb hb=>?_,q⟩;have hb':s1.heap.objs.size<=b:=by
  simp at hb;rcases hb with rfl|rfl
  ·exact K5h _
  ·exact K04 _
 exact I1.fpOk hb' (I1.hok.fresh hb')
def z3n (xs:List D):List D:=(K0m xs.length).map λ(i:Nat)=>.tup [.int i,(xs[i]?).getD .non]
def z9G (ma:G->M D):G->M Src:=λγ=>do
 let l <- z7 ma aNil γ
 match l with
 | [.tup xs]=>pure (.con (z3n xs))
 | _=>bad
theorem zf1 {xs:List D}(h:(z3n xs)[i]?=some d):∃x,xs[i]?=some x/\d=.tup [.int i,x]:=by
 unfold z3n at h;rw[K0i]at h;obtain⟨j,e1,e2⟩:=K16.mp h;obtain⟨h1,h2⟩:=K02.mp e1;simp at h1 h2;subst h2;rw[K9 h1]at e2;exact⟨_,K9 h1,e2.symm⟩
theorem zh3 (hc:X.calm=true) (hg:Gl X "enumerate") (hm:X.mg "enumerate" = none) (ha:SE X EX a ma) (hs:K0h [a] X.env=[(false,eval a X.env)]:=by rfl):SI X EX (.Tuple elts kk pt) (.Call (.Name "enumerate" p) [a] [] pos) (z9G ma) :=
 ⟨PI.imp (zG9 hg hm (z6 ha Z0 hs).h hs) λσ H R ⟨ρ,γ,h,rel,fin⟩=>⟨ρ,γ,h,rel,(Fin.bind fin).mono λl ρ1 h1 H1 p1 e1 r1 f1 vs rv=>by
  split at f1
  ·rename_i xs;simp only[RDs,RD]at rv;obtain⟨_,_,rfl,⟨t,us,rfl,q1,d1⟩,rfl⟩:=rv;refine⟨t,us,rfl,q1,f1 ρ1 H1 .(9) .(a) r1 _ λi ρ2 h4 H2 p2 e2 r2 _=>⟨λd hd=>?_,λhi=>?_⟩⟩
   ·have hd':(z3n xs)[i]?=some d:=hd;obtain⟨x,g1,rfl⟩:=zf1 hd';obtain⟨v1,a1,b1⟩:=(d1.mono p2 e2).get g1;refine⟨⟨us,v1,e2.t _ _ q1,a1⟩,λv H3 ⟨T,x',n1,n2,n3,n5⟩=>?_⟩;have m1:=n3 us (e2.t _ _ q1);rw[a1]at m1;cases m1;subst n2;subst n5;have ext:Ext X.K H2 (L2.upd H2 T (.tup [.int i,v1])):=Ext.upd (.inl n1);refine⟨?_,r2.other n1,ext⟩;simp only[RD];exact⟨T,_,rfl,SqT.of J6,RDs.cons (by simp[RD]) (RDs.cons (b1.mono .(9) ext) RDs.nil)⟩
   ·have hi':(z3n xs).length=i:=hi;unfold z3n at hi';rw[K0d,K1q]at hi';have l1:=d1.length;exact⟨us,e2.t _ _ q1,by omega⟩
  ·exact(show False from f1).elim⟩⟩
end
noncomputable def z3Z (src:Src) (g:D->G->M G) (mi:G->M Src) (g1:D->G->M G) (k:G->M Bool) (me:G->M D) (n0:Nat) (γ:G):List D->M Unit
 | []=>do
  let _ <- src.chk
  pure ()
 | d::r=>do
  let _ <- src.chk;let γ1 <- g d γ;let s1 <- mi γ1;let _ <- z3h s1 g1 k me n0 γ1 s1.items
  z3Z src g mi g1 k me n0 γ r
noncomputable def z4W (cap:List (Option Nat)) (mi:G->M Src) (g:D->G->M G) (mi1:G->M Src) (g1:D->G->M G) (k:G->M Bool) (me:G->M D):G->M D:=λγ=>do
 let src <- mi γ;let n0 <- (λh=>.ok .(g) (h++[.lst []]):M Nat);let _ <- z3Z src g mi1 g1 k me n0 (capG cap γ) src.items
 pure (.ref n0)
section
variable {elt tg1 iter1:Expr}{sc:Scope}{k:G->M Bool}
theorem z9F (hc:X.calm=true) (hi1:∀s H fp xe,SI .(8) EX tg1 iter1 mi1) (hg1:∀s H fp xe,SGk .(8) EX tg1 own1 g1) (ht:∀s H fp xe,SCs .(8) EX ifs1 k)
 (he:∀s H fp xe,SE .(8) EX elt me) (hown1:∀j∈own1,cap[j]?=some none/\j∉own) (hs1:∀env x,K1b iter1 env x=pure x) :
 CmA X EX (.ListComp elt [⟨tg,iter,[],0⟩,⟨tg1,iter1,ifs1,0⟩] sc pos) sc tg iter [] N' cap own mi g (λ_=>pure true) (.lst []) (λn0 γ1 K=>do let s1 <- mi1 γ1;let _ <- z3h s1 g1 k me n0 γ1 s1.items;K) (λsrc n0 γ=>z3Z src g mi1 g1 k me n0 γ) :=
 ⟨⟨_,_,_,_,λD=>bIn (tI X.K EX mi1) (tGk X.K EX own1 g1) (tT X.K EX k) (bApp (tE X.K EX me) D),zr3,λρ H Dd=>⟨[],J6,RDs.nil⟩,
  λD s H fp xe=>zV6 (.inl ⟨_,_,_,_,rfl⟩) rfl (λ_=>rfl) hc (hi1 s H fp xe).h (λxe'=>(hg1 s H fp xe').h) (λxe'=>(ht s H fp xe').h) (λxe'=>zc0 (he s H fp xe').h) (hs1 _),
  λnon hD=>Z07 (F1:=λs1 γ1=>z3h s1 g1 k me _ γ1) (λ_ _=>rfl) (λ_ _ _ _=>rfl) (λj hj=>⟨(hown1 j hj).2,non j (hown1 j hj).1⟩) λp=>zv4 (p _ _ hD)⟩,λ_ _ _=>rfl,λ_ _ _ _ _=>rfl⟩
theorem z8l (hc:X.calm=true) (S:CS X sc N' cap) (hi:SI X EX tg iter mi) (hg:∀s H fp xe,SGk .(8) EX tg own g) (hi1:∀s H fp xe,SI .(8) EX tg1 iter1 mi1) (hg1:∀s H fp xe,SGk .(8) EX tg1 own1 g1) (ht:∀s H fp xe,SCs .(8) EX ifs1 k)
 (he:∀s H fp xe,SE .(8) EX elt me) (hown:∀j∈own,cap[j]?=some none:=by decide) (hown1:∀j∈own1,cap[j]?=some none/\j∉own:=by decide) (hs:∀x,K1b iter X.env x=pure x:=by intro _;rfl) (hs1:∀env x,K1b iter1 env x=pure x:=by intro _ _;rfl) :
 SE X EX (.ListComp elt [⟨tg,iter,[],0⟩,⟨tg1,iter1,ifs1,0⟩] sc pos) (z4W cap mi g mi1 g1 k me) :=
 zI1 (z9F hc hi1 hg1 ht he hown1 hs1) hc S hi hg (λ_ _ _ _=>z08) hown hs
end
end FT
namespace L2
theorem range_all {α:Type}(r:List α):(K0m r.length).filterMap (λm=>r[m]?)=r:=by
 have:=pick_run r.toArray 0 r.length;rw[Z1l]at this;have e:((λx=>r.toArray[x]?) ∘ λx=>0+x)=λm=>r[m]?:=by funext m;simp
 rw[e]at this;rw[this];simp
end L2
namespace FT
def eNeg (ma:G->M D):G->M D:=λγ=>do
 let x <- ma γ
 match x with
 | .int i=>pure (.int (-i))
 | _=>bad
section
variable {X:Cx}{EX:XX}{a b st:Expr}{pos p p2:Pos}{ma ms:G->M D}{mr:G->M (List D)}
theorem z73 (ha:SE X EX a ma):SE X EX (.UnaryOp .USub a pos) (eNeg ma) :=
 ⟨PE.imp (Z0o zN3 ha.h) λσ H Q ⟨ρ,γ,h,rel,fin⟩=>⟨ρ,γ,h,rel,(Fin.bind fin).mono λx ρ1 h1 H1 p1 e1 r1 f1 v rv=>by
  cases x<;>first|exact(show False from f1).elim|skip
  rename_i t;simp only[RD]at rv;exact⟨t,rv,FE.here (d:=.int (-t)) (h:=h1) (ρ:=ρ1) f1 r1 (by simp[RD])⟩⟩⟩
end
end FT
namespace L2
variable{E EE:Value->Shared->Prop}{g:Array Z21}{Ch:Addr}{Q:Bool->Shared->Prop}{pins:List (Addr×Obj)}{bmH:List Value}{suite:List Stmt}
structure Fly (base:Heap) (l:List Env) (e T:Addr) (cls:Value) (h:Heap):Prop where
 stays:base.StaysIn h
 ne:base.get? e=none
 nT:base.get? T=none
 fr:h.FunFrames base l
 tr:∃a0 oe vs oT ts,h.get? e=some oe/\(oe.cls=cls/\vs[0]?=some a0)/\oe.data=.fields vs/\vs[1]?=.(r T)/\T≠e/\h.get? T=some oT/\oT.data=.fields ts/\ts[3]?=some .none
structure Kept (l:List Env) (e T:Addr) (h h':Heap):Prop where
 keep:∀b o,h.get? b=some o->b∉frs l->b≠e->b≠T->h'.get? b=some o
 slot:∀b o,h.get? b=some o->b∈frs l->∃sl,h'.get? b=some { o with slots:=sl }
def CXE (P:K1d) (w:World) (base:Heap):CXT:=λouter H s E e s'=>∃a T C H',e=.ref a/\Fly base outer a T (.ref C) s'.heap/\s.heap.get? a=none/\s.heap.get? T=none/\H' a=none/\H' T=none/\s'.os=s.os/\K7c s'.gens /\
 Un (frs outer) [] H H' s.heap s'.heap/\HOk P w H' s'.heap/\E (.ref C) none H'
section
variable {M:Model}{A:Around}{h:Heap}{d:Drawn}{t:Nat}{os:OsState}{C e:Addr}{oe:Obj}{b:Bool}
 {nm q:Str} {N:Addr} {bs bm:List Value} {hdct:Bool} {sn:List Str} {sub:List Value} {ab:Bool} {col:Option Bool} {dd:Option Addr} {k0 k1 k2 k3 k5:Option Value} {newId:String}
 {nm' q':Str} {N':Addr} {bs' bm':List Value} {hdct':Bool} {sn':List Str} {sub':List Value} {ab':Bool} {col':Option Bool} {dd':Option Addr} {k0' k1' k2' k3' k5':Option Value} {newId':String}
end
section
variable {X:Cx}{σ:St}{H1:Hp}{s1 s':Shared}{e:Value}{E:XK}{cn n:Str}{np hpos:Pos}{b₀:Stmt}{D:Ends}{ts:TS}
theorem back {u:Value}(I1:Inv X pins σ H1 s1) (c:CXE X.prog X.w X.base X.stack H1 s1 E u s'):∃a T C H',u=.ref a/\Fly X.base X.stack a T (.ref C) s'.heap/\s1.heap.get? a=none/\s1.heap.get? T=none/\H' a=none/\H' T=none/\Inv X pins σ H' s'/\E (.ref C) none H':=by
 obtain⟨a,T,C,H',rfl,F,n1,n2,u1,u2,os,bare,un,hok,hE⟩:=c;obtain⟨hh,g,d,t,os'⟩:=s';obtain rfl:os'=s1.os:=os;exact⟨a,T,C,H',rfl,F,n1,n2,u1,u2,I1.call (h':=hh) (g':=g) (d':=d) (t':=t) (ch:=[]) un hok bare (λb z=>absurd z .(f)),hE⟩
end
end L2
namespace FT
variable{P:K1d}{w:World}{K:K5}{mg:Str->Option Value}{base:Heap}{N l ns loose:List Str}{f:Addr}{outer:List Env}{H:Hp}{bm:List Value}{h r:AH}{γ:G}{Q:Out->AH->Prop}{mt ms mb body:G->M Out}{d:D}{n:Nat}{i j:Int}{b:Bool}{t:String}{ma me:G->M D}{mi:G->M Src}{g:D->G->M G}{cap:List (Option Nat)}{xs:List D}{o:O}{x:Str}{mk:List (List Str)}{st:List (List Nat)}{fd:K5j}{XP:(Str->Option Value)->Heap->Prop}{YP:World->Heap->Prop}{m:List D->M D}{ρ:List Addr}
section
variable {qual c:Str}{scope:Scope}{C:Addr}{cd:Value}{A:Around}{s:Shared}{E:XK}
 {e₀:Expr} {rest:List Expr} {mr:G->M (List D)} {np cpos pos:Pos}
end
variable {α β:Type}
def W (m:M α) (h:AH) (Q:α->AH->Prop):Prop:=∃a h',m h=.ok a h'/\Q a h'
theorem Z5 {m:M α}{f:α->M β}{Q:β->AH->Prop}:W (m >>= f) h Q↔W m h λa h1=>W (f a) h1 Q:=by
 constructor
 ·rintro⟨b,h2,e,q⟩;rw[bindM]at e;cases em:m h with
  | ok a h1=>rw[em]at e;exact⟨a,h1,em,b,h2,e,q⟩
  | err x h1=>rw[em]at e;cases e
  | bad=>rw[em]at e;cases e
 ·rintro⟨a,h1,e,b,h2,e',q⟩;exact⟨b,h2,by rw[M.bind_ok e,e'],q⟩
theorem W_pure {a:α}{Q:α->AH->Prop}:W (Z37 a:M α) h Q↔Q a h:=by
 constructor
 ·rintro⟨b,h2,e,q⟩;cases e;exact q
 ·exact λq=>⟨a,h,rfl,q⟩
theorem z1o {Q:α->AH->Prop}:W (bad:M α) h Q↔False:=by
 constructor
 ·rintro⟨b,h2,e,q⟩;cases e
 ·exact K3e
theorem z1k {c:Prop}[Decidable c]{m n:M α}{Q:α->AH->Prop}:W (if c then m else n) h Q↔if c then W m h Q else W n h Q:=by
 split<;>exact Z38
theorem W.mono {m:M α}{Q Q':α->AH->Prop}(z:W m h Q) (f:∀a h',Q a h'->Q' a h'):W m h Q':=let ⟨a,h',e,q⟩:=z;⟨a,h',e,f a h' q⟩
theorem W.of {m:M α}{h':AH}{a:α}{Q:α->AH->Prop}(e:m h=.ok a h') (q:Q a h'):W m h Q:=⟨a,h',e,q⟩
theorem z78:W (bNil γ) h Q↔Q (.nx γ) h:=W_pure
def zH6 (mt:G->M Out) (Q:Out->AH->Prop):Out->AH->Prop:=λo h=>match o with
 | .nx γ=>W (mt γ) h Q
 | o=>Q o h
theorem x8:zH6 mt Q (.nx γ) h↔W (mt γ) h Q:=Z38
theorem z1F:zH6 mt Q (.rt d) h↔Q (.rt d) h:=Z38
theorem w_cons:W (z9 ms mt γ) h Q↔W (ms γ) h (zH6 mt Q):=by
 unfold z9;rw[Z5];constructor
 ·rintro⟨o,h1,e,q⟩;refine⟨o,h1,e,?_⟩;cases o with
  | nx γ=>exact q
  | rt d=>exact(W_pure (a:=Out.rt d) (Q:=Q)).mp q
  | bk d=>exact(W_pure (a:=Out.bk d) (Q:=Q)).mp q
  | ct d=>exact(W_pure (a:=Out.ct d) (Q:=Q)).mp q
 ·rintro⟨o,h1,e,q⟩;refine⟨o,h1,e,?_⟩;cases o with
  | nx γ=>exact q
  | rt d=>exact W_pure.mpr q
  | bk d=>exact W_pure.mpr q
  | ct d=>exact W_pure.mpr q
def runW (Q:D->AH->Prop):Out->AH->Prop:=λo h=>match o with
 | .nx _=>Q .non h
 | .rt d=>Q d h
 | _=>False
theorem z1z {ds:List D}{Q:D->AH->Prop}(z:W (mb (z16 n ds)) h (runW Q)):W (runF n mb ds) h Q:=by
 unfold runF;rw[Z5];refine z.mono λo h1 q=>?_;cases o with
 | nx γ=>exact W_pure.mpr q
 | rt d=>exact W_pure.mpr q
 | bk d=>exact q.elim
 | ct d=>exact q.elim
theorem z4x:fAdd (.int i) (.int j)=pure (.int (i+j)):=rfl
theorem z8a:fSub (.int i) (.int j)=pure (.int (i - j)):=rfl
theorem z6I:fGt (.int i) (.int j)=pure (.bl (decide (j<i))):=rfl
theorem zB8:fGe (.int i) (.int j)=pure (.bl (decide (j<=i))):=rfl
theorem zr9:fLt (.int i) (.int j)=pure (.bl (decide (i<j))):=rfl
theorem zo4:fLe (.int i) (.int j)=pure (.bl (decide (i<=j))):=rfl
theorem z6C:fEq b (.int i) (.int j)=pure (.bl (decide (i=j) != b)):=rfl
theorem zY0 (h:0<j):fMod (.int i) (.int j)=pure (.int (i % j)):=by
 unfold fMod fIC;dsimp only;rw[if_pos (decide_eq_true h)]
theorem div_ii (h:0<j) (h2:j<1073741824):fDiv (.int i) (.int j)=pure (.int (i / j)):=by
 unfold fDiv fIC;dsimp only;rw[if_pos (by rw[decide_eq_true h,decide_eq_true h2];rfl)]
theorem z0L:asB (.bl b)=pure b:=rfl
theorem z2D:truD (.bl b)=pure b:=rfl
theorem z5B {Q:Nat->AH->Prop}:W (z3H (.ref n)) h Q↔W (getL n) h λ_ h1=>Q n h1:=by
 unfold W z3H getL;dsimp only;cases e:h[n]? with
 | none=>exact .(n)
 | some o =>
  cases o with
  | set ks=>exact .(n)
  | dct=>exact .(n)
  | dK kvs=>exact .(n)
  | dF kvs=>exact .(n)
  | exc c=>exact .(n)
  | ins _ _=>exact .(n)
  | lst xs=>exact⟨λ⟨_,_,z,q⟩=>(by cases z;exact⟨xs,h,rfl,q⟩),λ⟨_,_,z,q⟩=>(by cases z;exact⟨n,h,rfl,q⟩)⟩
theorem zX8:fIsi t (.bl b)=pure (.bl (subT "bool" t)):=rfl
theorem zj4 {b:Int}:fIsi t (.int b)=pure (.bl (subT "int" t)):=rfl
theorem zC1 {b:Str}:fIsi t (.str b)=pure (.bl (subT "str" t)):=rfl
theorem z9R {b:List D}:fIsi t (.tup b)=pure (.bl (subT "tuple" t)):=rfl
def forW (J:G->AH->Prop) (R:D->AH->Prop):Out->AH->Prop:=λo h=>match o with
 | .nx γ=>J γ h
 | .ct γ=>J γ h
 | .bk _=>False
 | .rt d=>R d h
def endW (J:G->AH->Prop) (R:D->AH->Prop):Out->AH->Prop:=λo h=>match o with
 | .nx γ=>J γ h
 | .ct _=>False
 | .bk _=>False
 | .rt d=>R d h
theorem z7F {src:Src}{g:D->G->M G}{body:G->M Out}(I:Nat->G->AH->Prop) (R:D->AH->Prop) (good:∀i γ h,I i γ h->src.good h):∀(items:List D) (n:Nat) (γ:G) (h:AH),
 (∀i d γ h,items[i]?=some d->I (n+i) γ h->W (g d γ) h λγ1 h1=>W (body γ1) h1 (forW (I (n+i+1)) R))->I n γ h ->
 W (forR src g body items γ) h (endW (I (n+items.length)) R)
 | [],n,γ,h,_,q=>⟨.nx γ,h,by unfold forR Src.chk;simp[good _ _ _ q],q⟩
 | d::r,n,γ,h,z,q=>by
  unfold forR;rw[Z5];refine W.of (a:=()) (h':=h) (by unfold Src.chk;simp[good _ _ _ q]) ?_;rw[Z5];refine(z 0 d γ h rfl q).mono λγ1 h1 q1=>?_;rw[Z5];refine q1.mono λo h2 q2=>?_;have step:∀γ2,I (n+0+1) γ2 h2->W (forR src g body r γ2) h2 (endW (I (n+(d::r).length)) R):=λγ2 w=>by
   have:=z7F (src:=src) I R good r (n+1) γ2 h2 (λi d γ h e q=>by
    have:=z (i+1) d γ h (by simpa using e) (by rw[show n+(i+1)=n+1+i by omega];exact q);rw[show n+(i+1)+1=n+1+i+1 by omega]at this;exact this) (by simpa using w)
   rw[show n+1+r.length=n+(d::r).length by simp;omega]at this;exact this
  cases o with
  | nx γ2=>exact step γ2 q2
  | ct γ2=>exact step γ2 q2
  | bk γ2=>exact q2.elim
  | rt v=>exact W_pure.mpr q2
theorem z23 (J:G->AH->Prop) (z:W (ms γ) h (endW J λd h=>Q (.rt d) h)) (k:∀γ h,J γ h->W (mt γ) h Q):W (z9 ms mt γ) h Q:=by
 rw[w_cons];refine z.mono λo h1 q=>?_;cases o with
 | nx γ=>exact k γ h1 q
 | rt d=>exact q
 | bk d=>exact q.elim
 | ct d=>exact q.elim
theorem z4E {i:Nat}(e:(z1q n)[i]?=some d):d=.int i/\i<n:=by
 unfold z1q at e;rw[K0i]at e;obtain⟨j,e1,e2⟩:=K16.mp e;obtain⟨h1,h2⟩:=K02.mp e1;simp at h1 h2;subst h2;exact⟨e2.symm,h1⟩
theorem z13 {ma:G->M D}{i:Nat}{body:G->M Out}{γ:G}{h:AH}(I:Nat->G->AH->Prop) (R:D->AH->Prop){Q:Out->AH->Prop}
 (hs:W (ma γ) h λd h1=>∃n:Nat,d=.int n/\n<4611686018427387904/\I 0 γ h1/\(∀k γ h,k<n->I k γ h->W (body (γ.set i (.(i k)))) h (forW (I (k+1)) R))/\(∀γ h',I n γ h'->Q (.nx γ) h')/\∀d h',R d h'->Q (.rt d) h') :
 W (sFor (z0b ma) (gN i) body γ) h Q:=by
 unfold sFor z0b;rw[Z5,Z5];refine hs.mono λd h1 ⟨n,e,hn,i0,st,fin⟩=>?_;subst e;dsimp only;rw[if_pos .(1),W_pure];have:=z7F (src:=.con (z1q (n:Int).toNat)) (g:=gN i) (body:=body) I R (λ_ _ _ _=>trivial) (z1q (n:Int).toNat) 0 γ h1 (λk d γ h e q=>by
  obtain⟨rfl,hk⟩:=z4E e;rw[K7a]at q ⊢;exact W_pure.mpr (st k γ h (by simpa using hk) q)) i0
 rw[show 0+(z1q (n:Int).toNat).length=n by unfold z1q;simp]at this;refine this.mono λo h' q=>?_;cases o with
 | nx γ=>exact fin.1 γ h' q
 | rt d=>exact fin.2 d h' q
 | bk d=>exact q.elim
 | ct d=>exact q.elim
theorem z07 {mi:G->M Src}{g:D->G->M G}{body:G->M Out}{γ:G}{h:AH}(I:Nat->G->AH->Prop) (R:D->AH->Prop){Q:Out->AH->Prop}
 (hs:W (mi γ) h λsrc h1=>I 0 γ h1/\(∀i γ h,I i γ h->src.good h)/\(∀i d γ h,src.items[i]?=some d->I i γ h->W (g d γ) h λγ1 h1=>W (body γ1) h1 (forW (I (i+1)) R))/\(∀γ h',I src.items.length γ h'->Q (.nx γ) h')/\∀d h',R d h'->Q (.rt d) h') :
 W (sFor mi g body γ) h Q:=by
 unfold sFor;rw[Z5];refine hs.mono λsrc h1 ⟨i0,good,st,fin⟩=>?_;have:=z7F (src:=src) (g:=g) (body:=body) I R good src.items 0 γ h1 (λk d γ h e q=>by
  rw[K7a]at q ⊢;exact st k d γ h e q) i0
 rw[K7a]at this;refine this.mono λo h' q=>?_;cases o with
 | nx γ=>exact fin.1 γ h' q
 | rt d=>exact fin.2 d h' q
 | bk d=>exact q.elim
 | ct d=>exact q.elim
theorem z1t {h1:AH}(e:ma γ h=.ok (.int n) h1) (hn:n<4611686018427387904):z0b ma γ h=.ok (.con (z1q n)) h1:=by
 unfold z0b;rw[M.bind_ok e];dsimp only;rw[if_pos .(1)];rfl
theorem z0v {k:G->M Bool}{body:G->M Out}(I:Nat->G->AH->Prop) (E:G->AH->Prop) (R:D->AH->Prop)
 (z:∀m γ h,I m γ h->W (k γ) h λb h1=>if b=true then ∃m',m=m'+1/\W (body γ) h1 (forW (λγ h=>∃i,i<=m'/\I i γ h) R) else E γ h1):∀(n m:Nat) (γ:G) (h:AH),m<n->I m γ h ->
 W (z11 k body n γ) h (endW E R)
 | 0,m,γ,h,hm,_=>by omega
 | n+1,m,γ,h,hm,q=>by
  unfold z11;rw[Z5];refine(z m γ h q).mono λb h1 q1=>?_;cases b with
  | false =>
   rw[if_neg (by decide)]at q1 ⊢;exact W_pure.mpr q1
  | true =>
   rw[if_pos rfl]at q1 ⊢;obtain⟨m',rfl,q2⟩:=q1;rw[Z5];refine q2.mono λo h2 q3=>?_;cases o with
   | nx γ2=>obtain⟨i,hi,q4⟩:=q3;exact z0v I E R z n i γ2 h2 .(1) q4
   | ct γ2=>obtain⟨i,hi,q4⟩:=q3;exact z0v I E R z n i γ2 h2 .(1) q4
   | bk γ2=>exact q3.elim
   | rt v=>exact W_pure.mpr q3
theorem z4c {g:D->G->M G}{k:G->M Bool}{me:G->M D}{γ:G}{p:D->Bool}{f:D->D}(src:Src) (h0:AH) (hg:∀j,src.good (h0++j)):∀(items:List D) (acc:List D),acc.length+items.length<=1000000 ->
 (∀d∈items,∃γ1,(∀h,g d γ h=.ok γ1 h)/\(∀j,k γ1 (h0++j)=.ok (p d) (h0++j))/\(p d=true->∀j,me γ1 (h0++j)=.ok (f d) (h0++j))) ->
 z3h src g k me h0.length γ items (h0++[.lst acc])=.ok () (h0++[.lst (acc++(items.filter p).map f)])
 | [],acc,hl,hd=>by unfold z3h Src.chk;simp[hg]
 | d::r,acc,hl,hd=>by
  obtain⟨γ1,e1,e2,e3⟩:=hd d K1e;unfold z3h;have chk:src.chk (h0++[.lst acc])=.ok () (h0++[.lst acc]):=by unfold Src.chk;simp[hg]
  rw[M.bind_ok chk,M.bind_ok (e1 _),M.bind_ok (e2 _)];simp only[K01]at hl;have hr:∀d∈r,∃γ1,(∀h,g d γ h=.ok γ1 h)/\(∀j,k γ1 (h0++j)=.ok (p d) (h0++j))/\(p d=true->∀j,me γ1 (h0++j)=.ok (f d) (h0++j)):=λx hx=>hd x (K1a _ hx);cases hp:p d with
  | false =>
   rw[if_neg (by decide),z4c src h0 hg r acc .(1) hr,K40,hp];rfl
  | true =>
   rw[if_pos rfl,M.bind_ok (e3 hp _)];have ap:j8 h0.length (f d) (h0++[.lst acc])=.ok .non (h0++[.lst (acc++[f d])]):=by
    unfold j8 updL;have g1:(h0++[O.lst acc])[h0.length]?=.(l acc):=by simp
    rw[g1];dsimp only;have hs:(acc++[f d]).length<=sizeLine:=by
     rw[K3,K09];exact K0q (show acc.length+1<=1000000 by omega) (by decide)
    rw[if_pos hs];simp
   rw[M.bind_ok ap,z4c src h0 hg r (acc++[f d]) (by simp;omega) hr,K40,hp];simp
theorem z4z {cap:List (Option Nat)}{g:D->G->M G}{k:G->M Bool}{me:G->M D}{src:Src}(p:D->Bool) (f:D->D) (hi:mi γ h=.ok src h) (hg:∀j,src.good (h++j)) (hl:src.items.length<=1000000)
 (hd:∀d∈src.items,∃γ1,(∀h,g d (capG cap γ) h=.ok γ1 h)/\(∀j,k γ1 (h++j)=.ok (p d) (h++j))/\(p d=true->∀j,me γ1 (h++j)=.ok (f d) (h++j))) :
 z0j cap mi g k me γ h=.ok (.ref .(g)) (h++[.lst ((src.items.filter p).map f)]):=by
 have e:=z4c (g:=g) (k:=k) (me:=me) (γ:=capG cap γ) (p:=p) (f:=f) src h hg src.items [] (by simpa using hl) hd;show (mi γ >>= _) h=_;rw[M.bind_ok hi];rw[M.bind_ok (m:=(λh=>Res.ok (K7z h) (h++[O.lst []]):M Nat)) (h:=h) rfl];rw[M.bind_ok (by simpa using e)];rfl
def Kp (r r':AH):Prop:=∀(n:Nat) (o:O),r[n]?=some o->r'[n]?=some o
theorem zi1 {src:Src}{g:D->G->M G}{k:G->M Bool}{me:G->M D}{n0:Nat}{γ:G}(I:Nat->AH->Prop) (good:∀i h,I i h->src.good h):∀(items:List D) (n:Nat) (h:AH),
 (∀i d h,items[i]?=some d->I (n+i) h->W (g d γ) h λγ1 h1=>W (k γ1) h1 λt h2=>if t=true then W (me γ1) h2 λv h3=>W (j8 n0 v) h3 λ_ h4=>I (n+i+1) h4 else I (n+i+1) h2)->I n h ->
 W (z3h src g k me n0 γ items) h λ_ h'=>I (n+items.length) h'
 | [],n,h,_,q=>⟨(),h,by unfold z3h Src.chk;simp[good _ _ q],q⟩
 | d::r,n,h,z,q=>by
  have more:∀h2,I (n+0+1) h2->W (z3h src g k me n0 γ r) h2 λ_ h'=>I (n+(d::r).length) h':=λh2 q2=>by
   have:=zi1 (src:=src) (g:=g) (k:=k) (me:=me) (n0:=n0) (γ:=γ) I good r (n+1) h2 (λi d h e q=>by
    have:=z (i+1) d h (by simpa using e) (by rw[show n+(i+1)=n+1+i by omega];exact q);rw[show n+(i+1)+1=n+1+i+1 by omega]at this;exact this) (by simpa using q2)
   rw[show n+1+r.length=n+(d::r).length by simp;omega]at this;exact this
  unfold z3h;rw[Z5];refine W.of (a:=()) (h':=h) (by unfold Src.chk;simp[good _ _ q]) ?_;rw[Z5];refine(z 0 d h rfl q).mono λγ1 h1 q1=>?_;rw[Z5];refine q1.mono λt h2 q2=>?_;cases t with
  | false=>rw[if_neg (by decide)]at q2 ⊢;exact more h2 q2
  | true =>
   rw[if_pos rfl]at q2 ⊢;rw[Z5];refine q2.mono λv h3 q3=>?_;rw[Z5];exact q3.mono λ_ h4 q4=>more h4 q4
theorem zv6 {cap:List (Option Nat)}{mi:G->M Src}{g:D->G->M G}{k:G->M Bool}{me:G->M D}{γ:G}{h:AH}{Q:D->AH->Prop}
 (hs:W (mi γ) h λsrc h1=>∃I:Nat->AH->Prop,I 0 (h1++[.lst []])/\(∀i h,I i h->src.good h) /\
  (∀i d h,src.items[i]?=some d->I i h->W (g d (capG cap γ)) h λγ1 h1'=>W (k γ1) h1' λt h2=>if t=true then W (me γ1) h2 λv h3=>W (j8 h1.length v) h3 λ_ h4=>I (i+1) h4 else I (i+1) h2) /\
  ∀h',I src.items.length h'->Q (.ref h1.length) h'):W (z0j cap mi g k me γ) h Q:=by
 unfold z0j;rw[Z5];refine hs.mono λsrc h1 ⟨I,i0,good,st,fin⟩=>?_;rw[Z5];refine W.of (a:=h1.length) (h':=h1++[.lst []]) rfl ?_;rw[Z5];have:=zi1 (src:=src) (g:=g) (k:=k) (me:=me) (n0:=h1.length) (γ:=capG cap γ) I good src.items 0 (h1++[.lst []]) (λi d h e q=>by
  rw[K7a]at q ⊢;exact st i d h e q) i0
 rw[K7a]at this;refine this.mono λ_ h' q=>?_;rw[W_pure];exact fin h' q
class Grow (I:AH->Prop):Prop where
 app:∀h j,I h->I (h++j)
def Pool (gr sm:List Int) (s c:Int) (r:AH):AH:=.lst (gr.map .int)::.lst (sm.map .int)::.lst [.ref 0,.ref 1,.int s,.int c]::r
def PS (h:AH) (k:Int) (r:AH):Prop:=∃gr sm s c,h=Pool gr sm s c r/\0<=s/\s<2147483647/\0<=c/\c<=k/\gr.length<=63/\sm.length<=63
theorem PS.up {k k':Int}(p:PS h k r) (hk:k<=k'):PS h k' r:=by
 obtain⟨gr,sm,s,c,e,h1,h2,h3,h4,h5,h6⟩:=p;exact⟨gr,sm,s,c,e,h1,h2,h3,by omega,h5,h6⟩
theorem PS.app {k:Int}(p:PS h k r) (j:AH):PS (h++j) k (r++j):=by
 obtain⟨gr,sm,s,c,e,q⟩:=p;exact⟨gr,sm,s,c,by rw[e];rfl,q⟩
theorem PS.get {k:Int}(p:PS h k r) (n:Nat):h[n+3]?=r[n]?:=by
 obtain⟨gr,sm,s,c,e,q⟩:=p;rw[e];rfl
theorem PS.len {k:Int}(p:PS h k r):h.length=r.length+3:=by
 obtain⟨gr,sm,s,c,e,q⟩:=p;rw[e];rfl
theorem PS.set {h:AH}{k:Int}{r:AH}(p:PS h k r) (n:Nat) (o:O):PS (h.set (n+3) o) k (r.set n o):=by
 obtain⟨gr,sm,s,c,e,q⟩:=p;exact⟨gr,sm,s,c,by rw[e];rfl,q⟩
theorem z6e {k:Int}{Q:List D->AH->Prop}(p:PS h k r) (e:r[n]?=.(l xs)) (q:Q xs h):W (getL (n+3)) h Q :=
 ⟨xs,h,by unfold getL;rw[p.get,e],q⟩
theorem z5c {k:Int}{Q:D->AH->Prop}(p:PS h k r) (hl:xs.length<=1000000) (z:∀h',PS h' k (r++[.lst xs])->Q (.ref (r.length+3)) h'):W (newL xs) h Q :=
 ⟨.ref (r.length+3),h++[.lst xs],by unfold newL;rw[if_pos (K0q hl (by decide)),p.len],z _ (p.app _)⟩
theorem z80 {k:Int}{v:D}{Q:D->AH->Prop}(p:PS h k r) (e:r[n]?=.(l xs)) (hl:xs.length<1000000) (z:∀h',PS h' k (r.set n (.lst (xs++[v])))->Q .non h'):W (j8 (n+3) v) h Q :=
 ⟨.non,h.set (n+3) (.lst (xs++[v])),by
  unfold j8 updL;rw[p.get,e];dsimp only;rw[if_pos (K0q (by simp;omega:(xs++[v]).length<=1000000) (by decide))],z _ (p.set _ _)⟩
theorem J8 {j:AH}(e:r[n]?=some o):(r++j)[n]?=some o:=by
 rw[K11 (K02.mp e).1,e]
theorem z5o:(r++[o])[r.length]?=some o:=by simp
def zm2 (x:Str):Prop:=1<=x.length/\x.length<=8/\(∀c∈x.cps.toList,97<=c/\c<=122) /\
 x∉(["yes","no","not","and","or","step","some","all","next","once","ever","until","unless"]:List Str)
theorem len_str (x:Str):x.length=x.cps.toList.length:=by simp[Z1c]
theorem z5x (a:Str):∀l:List Str,((l.map D.str).any λz=>eqF z (.str a))=decide (a∈l)
 | []=>by simp
 | b::l=>by
  rw[K0v,K2n,z5x a l];simp only[eqF];rw[K0o];simp only[K2o,beq_iff_eq,decide_eq_true_eq,K0y];constructor
  ·rintro(h|h)
   ·exact .inl h.symm
   ·exact .inr h
  ·rintro(h|h)
   ·exact .inl h.symm
   ·exact .inr h
theorem z3r:∀l:List Str,(l.map D.str).all z1a=true
 | []=>rfl
 | _::l=>by rw[K0v,K5s,z3r l];rfl
def low (x:Str):Prop:=∀c∈x.cps.toList,97<=c/\c<=122
def abc:Str:="abcdefghijklmnopqrstuvwxyz"
theorem zI9:abc.cps.toList=(K0m 26).map (·+97):=by decide +kernel
theorem zJ6:abc.length=26:=by decide +kernel
theorem zQ1 {d:Int}(h0:0<=d) (h1:d<26):fIx (.str abc) (.int d)=pure (.str ⟨#[d.toNat+97]⟩):=by
 unfold fIx;dsimp only;rw[if_pos (by rw[zJ6];decide),zI9];obtain⟨n,rfl⟩:=K3o h0;have hn:n<26:=by omega
 rw[z1n (v:=n+97) (by simp[hn])];simp
theorem z5Y (x y:Str):(x++y).cps.toList=x.cps.toList++y.cps.toList:=Array.toList_append
theorem len_app (x y:Str):(x++y).length=x.length+y.length:=by rw[len_str,z5Y,K3,<- len_str,<- len_str]
theorem zY7 {y:Str}(h:x.length+y.length<=1000):fAdd (.str x) (.str y)=pure (.str (x++y)):=by
 show (if x.length+y.length<=sizeLine then _ else _)=_;rw[if_pos (K0q h (by decide))]
theorem z4B (c:Nat):Z1c ⟨#[c]⟩=1:=rfl
theorem z7i {c:Nat}(h:low x) (h1:97<=c) (h2:c<=122):low (x++⟨#[c]⟩):=by
 intro d hd;rw[z5Y]at hd;rcases K00.mp hd with q|q
 ·exact h d q
 ·simp at q;omega
theorem z5O {k d:Int}{r:AH}{Q:D->AH->Prop}(h0:0<=d) (h1:d<26) (hx:x.length<=100) (q:Q (.str (x++⟨#[d.toNat+97]⟩)) h):W (fIx (.str abc) (.int d)) h λa h1=>W (fAdd (.str x) a) h1 Q:=by
 rw[zQ1 h0 h1,W_pure,zY7 (by rw[z4B];omega),W_pure];exact q
def words:List Str:=["yes","no","not","and","or","step","some","all","next","once","ever","until","unless"]
def cand (x:Str) (l:Int) (i:Nat):Str:=x++⟨#[((l+i) % 26).toNat+97]⟩
theorem zl2 {l:Int}(h0:0<=l){i j:Nat}(hi:i<26) (hj:j<26) (e:cand x l i=cand x l j):i=j:=by
 have e2:(cand x l i).cps.toList=(cand x l j).cps.toList:=by rw[e]
 unfold cand at e2;rw[z5Y,z5Y]at e2;have:=List.append_cancel_left e2;simp at this;omega
theorem zU5 {l:Int}(h0:0<=l) (hn:ns.length<=7) (h:∀i:Nat,i<26->cand x l i∈words\/cand x l i∈ns):False:=by
 have nd:((K0m 26).map (cand x l)).Nodup:=by
  rw[List.nodup_iff_pairwise_ne,K84];refine List.Pairwise.imp_of_mem ?_ List.nodup_range;intro a b ha hb hne e;exact hne (zl2 h0 (by simpa using ha) (by simpa using hb) e)
 have sub:((K0m 26).map (cand x l)) ⊆ words++ns:=by
  intro y hy;obtain⟨i,hi,rfl⟩:=K1g.mp hy;exact K00.mpr (h i (by simpa using hi))
 have:=nd.length_le_of_subset sub;rw[K0d,K1q,K3]at this;have w:words.length=13:=rfl;omega
theorem zw0 {k:Int}{neg:Bool}(p:PS h k r) (e:r[n]?=.(l (ns.map .str))):fIn neg (.str x) (.ref (n+3)) h=.ok (.bl (decide (x∈ns) != neg)) h:=by
 have g:getL (n+3) h=.ok (ns.map .str) h:=by unfold getL;rw[p.get,e]
 unfold fIn seqD;rw[M.bind_ok g,z5x,z3r];rfl
theorem zO7 {k:Int}{Q:D->AH->Prop}(p:PS h k r) (e:r[n]?=.(l xs)) (a:atI xs i=some d) (q:Q d h):W (fIx (.ref (n+3)) (.int i)) h Q:=by
 show W (getL (n+3) >>= λxs=>match atI xs i with|some d=>pure d|none=>bad) h Q;rw[Z5];refine z6e p e ?_;rw[a];exact W_pure.mpr q
theorem zO3 {k:Int}{Q:D->AH->Prop}(p:PS h k r) (e:r[n]?=.(l xs)) (q:Q (.int xs.length) h):W (fLen [.ref (n+3)]) h Q:=by
 show W (getL (n+3) >>= λxs=>pure (.int xs.length)) h Q;rw[Z5];refine z6e p e ?_;exact W_pure.mpr q
theorem zy1:low "":=by
 intro c hc;have:(K03 "").cps.toList=[]:=by decide +kernel
 rw[this]at hc;cases hc
theorem zF5:Z1c "" = 0:=by decide +kernel
def NS (ns:List Str):Prop:=ns.Nodup/\∀x∈ns,zm2 x
def stD (l:List Nat):List D:=l.map λ(i:Nat)=>.int i
structure MK (l:List Str):Prop where
 len:l.length<=8
 good:∀x∈l,zm2 x
 rise:l.Pairwise λa b=>a.cps.toList<b.cps.toList
structure MA (st:List (List Nat)) (mk:List (List Str)):Prop where
 l1:1<=st.length
 l2:st.length<=40
 l3:mk.length=st.length
 s1:∀l∈st,l.Pairwise (·<·)
 s2:∀l∈st,∀x∈l,x<st.length
 m1:∀l∈mk,MK l
def stsD (st:List (List Nat)):List D:=st.map λl=>.tup (stD l)
def mksD (mk:List (List Str)):List D:=mk.map λl=>.tup (l.map .str)
def maD (st:List (List Nat)) (mk:List (List Str)):D:=.tup [.tup (stsD st),.tup (mksD mk)]
def bear (x:Str) (mk:List (List Str)) (i:Nat):Bool:=decide (x = "")||decide (x∈(mk[i]?).getD [])
theorem zP8 {i:Nat}(hi:i<mk.length):atI (mksD mk) (i:Int)=.(g ((((mk[i]?).getD []).map .str))):=by
 refine z1n ?_;unfold mksD;rw[K0i,K9 hi];rfl
theorem Z0p {i:Nat}(hi:i<mk.length) (γ:G) (a b c:Nat) (h:AH) (ha:γ[a]?=some (.(s x))) (hb:γ[b]?=some (some .(7))) (hc:γ[c]?=some (.(i i))):
 e2 (fIn false) (eVar a) (e2 fIx (e2 fIx (eVar b) .(e)) (eVar c)) γ h=.ok (.bl (decide (x∈(mk[i]?).getD []))) h:=by
 have z:atI [D.tup (stsD st),D.tup (mksD mk)] (1:Int)=some (D.tup (mksD mk)):=rfl;simp[e2,eVar,ha,hb,hc,maD,fIx,seqD,z,zP8 hi,fIn,z3r,z1a];rw[<- K8t,z5x]
theorem z5p (a b:Str):leS a b=true↔a.cps.toList<=b.cps.toList:=by
 unfold leS;simp[K5i]
theorem z9j (h:l.Nodup):(z2n l).Pairwise λa b=>a.cps.toList<b.cps.toList:=by
 have s:(z2n l).Pairwise λa b=>leS a b=true:=K64 (λa b c h1 h2=>(z5p a c).mpr (List.le_trans ((z5p a b).mp h1) ((z5p b c).mp h2)))
  (λa b=>by
   rw[K2o,z5p,z5p];exact List.le_total _ _) l
 have n:(z2n l).Nodup:=(K4l l leS).nodup_iff.mpr h;refine(Z1s s n).imp λ{a b} q=>?_;obtain⟨q1,q2⟩:=q;have q3:=(z5p a b).mp q1;by_cases lt:a.cps.toList<b.cps.toList
 ·exact lt
 ·exact absurd (z9S (Z2h q3 (K5i.mp lt))) q2
theorem sortS_mem:x∈z2n l↔x∈l:=(K4l l leS).mem_iff
theorem z6c (l:List Str):(z2n l).length=l.length:=(K4l l leS).length_eq
theorem strs_map:∀l:List Str,z5K (l.map .str)=some l
 | []=>rfl
 | a::l=>by simp[z5K,strs_map l]
def AM (st:List (List Nat)) (mk:List (List Str)) (n:Nat):Prop:=(∀l∈st,l.Pairwise (·<·))/\(∀l∈st,∀x∈l,x<n)/\∀l∈mk,MK l
theorem z2W (ns:List Int) (p:D->Bool):((ns.map D.int).filter p).map (λd=>d)=(ns.filter λi=>p (.int i)).map D.int:=by
 rw[List.map_id',K53];rfl
theorem zL5:fPow (.int 10) (.int 18)=pure (.int 1000000000000000000):=rfl
theorem z33 (xs:List D):fLen [.tup xs]=pure (.int xs.length):=rfl
theorem ix_tup (a:atI xs i=some d):fIx (.tup xs) (.int i)=pure d:=by
 have:fIx (.tup xs) (.int i)=(pure xs >>= λxs=>match atI xs i with|some d=>pure d|none=>bad):=rfl;rw[this];show (match atI xs i with|some d=>pure d|none=>bad)=_;rw[a]
theorem zS9 {l:List Nat}{c:Nat}(hc:c<l.length):atI (stD l) (c:Int)=.(i (((l[c]?).getD 0:Nat))):=by
 refine z1n ?_;unfold stD;rw[K0i,K9 hc];rfl
theorem zZ4 {st:Stmt}{ps:List Str}{k:Nat}{mb:G->M Out}(F:Fun K x x st f fd) (S:FnScope N ps (Z8 st)) (hn:ps.length=n)
 (body:∀(cdv:Value) (A:Around) (outer:List Env) (s:Shared) (H:Hp) (E:XK),Room k (A.deeper (envOfC x (Z8 st) .(2) f cdv)) ->
  SB (cxOf CX0 P w K mg base N x (Z8 st) f cdv A outer s H E).nox EX0 (Y9 st) mb):FnOk P w K mg base CX0 (k+1) f fd ps (spB K (runF N.length mb) n):=by
 refine F.ok S (λvs H Q E h=>h.1.trans hn.symm) (λcdv A outer s H vs Q E hr h=>?_);obtain⟨hl,ρ,ds,h,rh,rd,fin⟩:=h;refine⟨_,(body cdv A outer s H E hr).h,ρ,z16 N.length ds,h,⟨z3k rd,rh⟩,?_⟩;refine(Fin.bind fin).mono λo ρ1 h1 H1 p1 e1 r1 f1=>?_;cases o with
 | nx γ=>exact λσ _=>FE.here (d:=.non) (h:=h1) f1 r1 (by simp[RD])
 | rt d=>exact λv rv=>f1 ρ1 H1 .(9) .(a) r1 v rv
 | bk γ=>exact(show False from f1).elim
 | ct γ=>exact(show False from f1).elim
theorem bindsTo1 {p:Str}{st:Stmt}(F:Fun K x x st f fd)
 (h:∀(kV doc pm:Value) (an:Option Addr) (cdv ct u:Value),Z1z (K2g x x (z0O st) (Y9 st) (Z8 st) .none kV doc pm an cdv ct) ⟨[u],[]⟩=pure [(p,u)]):∀(s:Shared) (u:Value),K8w s fd ⟨[u],[]⟩ [(p,u)]:=by
 obtain⟨oc,od,kV,doc,pm,an,cdv,ct,osl,rfl,lk,hcd⟩:=F.ex;exact λs u=>.of_eq (h kV doc pm an cdv ct u)
theorem law_walk {l:Z2p}{q:K1d}{loose:List Str}{XP:(Str->Option Value)->Heap->Prop}{YP:World->Heap->Prop}{d:DefRec}{K:Params->K5}{m:List D->M D}{p:Str}{lev:Nat}(hn:l.most=some 63) (hdf:d.params.defaults=[]) (hr:Room lev K8v)
 (hY:∀(w:World) (h:Heap),YP w h->(K w.params).In h)
 (F:∀(w:World) (mg:Str->Option Value) (fa:Addr) (h:Heap),(K w.params).In h->h.Ns K2m mg->mg d.name=.(r fa) ->
  ∃fd:K5j,(∀(s:Shared) (u:Value),K8w s fd ⟨[u],[]⟩ [(p,u)])/\∀base:Heap,(K w.params).In base->base.Ns K2m mg->FnOk l.prog w (K w.params) mg base CX0 lev fa fd [p] (spB (K w.params) m 1))
 (math:∀ns:List Int,ns.length<=63->∃h',m [.fl (ns.map .int)] []=.ok (.bl true) h') :
 Z34 q loose XP YP l.row.toRowW d [] (λf vs=>Z2y f vs):=by
 refine L2.walk_of (n:=63) (k:=lev) (x:=p) (CX:=λ_=>CX0) (sp:=λw=>spB (K w.params) m 1) hn (by decide) hdf hr hY F (λw H a ns hl hO hS=>?_) λ_ _ _ _ _ z=>z;obtain⟨h',e⟩:=math ns hl;have sq:SqLP (K w.params) H a (ns.map V.int):=by
  rcases hS with (h|⟨o,h⟩)|h
  ·rcases hO a with z|⟨ob,xs,z⟩<;>rw[h]at z<;>cases z
  ·exact .inl ⟨o,h⟩
  ·exact .inr h
 refine⟨rfl,[],[.fl (ns.map .int)],[],⟨rfl,λi j a h=>by simp at h,λn o a h=>by simp at h⟩,RDs.cons ?_ RDs.nil,?_⟩
 ·simp only[RD];exact⟨a,_,rfl,sq,z4h ns⟩
 ·rw[e];exact λρ' H' _ _ _ v rv=>by simpa [RD] using rv
mutual
def J2 (n:Nat):D->Bool
 | .ref i=>decide (i<n)
 | .tup xs=>y8 n xs
 | .fl xs=>y8 n xs
 | _=>true
def y8 (n:Nat):List D->Bool
 | []=>true
 | d::r=>J2 n d&&y8 n r
end
def refO (n:Nat):O->Bool
 | .lst xs=>y8 n xs
 | .dK kvs=>y8 n (kvs.map (·.2))
 | .dF kvs=>y8 n (kvs.map (·.2))
 | .ins _ fs=>y8 n (fs.map (·.2))
 | _=>true
def Kept (h h1:AH):Prop:=∀(i:Nat) (o:O),i<h.length->h1[i]?=some o->h[i]?=some o\/refO h.length o=true
section
variable {ρ':List Addr}
theorem z7x {i:Nat}(h:i<n):(ρ.take n)[i]?=ρ[i]?:=by rw[K5x,if_pos h]
mutual
theorem RD.cut {n:Nat}:∀{d:D}{v:V},J2 n d=true->RD K ρ H d v->RD K (ρ.take n) H d v
 | .non,v,_,h=>by simpa [RD] using h
 | .bl b,v,_,h=>by simpa [RD] using h
 | .int b,v,_,h=>by simpa [RD] using h
 | .str b,v,_,h=>by simpa [RD] using h
 | .tup ds,v,c,h=>by
  simp only[RD,J2]at h c ⊢;obtain⟨a,xs,h1,h2,h3⟩:=h;exact⟨a,xs,h1,h2,RDs.cut c h3⟩
 | .fl ds,v,c,h=>by
  simp only[RD,J2]at h c ⊢;obtain⟨a,xs,h1,h2,h3⟩:=h;exact⟨a,xs,h1,h2,RDs.cut c h3⟩
 | .ref i,v,c,h=>by
  simp only[RD,J2,decide_eq_true_eq]at h c ⊢;obtain⟨a,h1,h2⟩:=h;exact⟨a,h1,by rw[z7x c];exact h2⟩
theorem RDs.cut {n:Nat}:∀{ds:List D}{xs:List V},y8 n ds=true->RDs K ρ H ds xs->RDs K (ρ.take n) H ds xs
 | [],xs,_,h=>by simpa [RDs] using h
 | d::ds,xs,c,h=>by
  simp only[RDs,y8,K0k]at h c ⊢;obtain⟨x,r,h1,h2,h3⟩:=h;exact⟨x,r,h1,RD.cut c.1 h2,RDs.cut c.2 h3⟩
end
mutual
theorem RD.low:∀{d:D}{v:V},RD K ρ H d v->J2 ρ.length d=true
 | .non,v,h=>rfl
 | .bl b,v,h=>rfl
 | .int b,v,h=>rfl
 | .str b,v,h=>rfl
 | .tup ds,v,h=>by
  simp only[RD,J2]at h ⊢;obtain⟨a,xs,h1,h2,h3⟩:=h;exact RDs.low h3
 | .fl ds,v,h=>by
  simp only[RD,J2]at h ⊢;obtain⟨a,xs,h1,h2,h3⟩:=h;exact RDs.low h3
 | .ref i,v,h=>by
  simp only[RD,J2,decide_eq_true_eq]at h ⊢;obtain⟨a,h1,h2⟩:=h;exact(K02.mp h2).1
theorem RDs.low:∀{ds:List D}{xs:List V},RDs K ρ H ds xs->y8 ρ.length ds=true
 | [],xs,h=>rfl
 | d::ds,xs,h=>by
  simp only[RDs,y8,K0k]at h ⊢;obtain⟨x,r,h1,h2,h3⟩:=h;exact⟨RD.low h2,RDs.low h3⟩
end
theorem RK.cut {κ:Type}{n:Nat}:∀{kvs:List (κ×D)}{vs:List (κ×V)},y8 n (kvs.map (·.2))=true->RK K ρ H kvs vs->RK K (ρ.take n) H kvs vs
 | _,_,_,.nil=>.nil
 | _,_,c,.cons a b=>by
  simp only[K0v,y8,K0k]at c;exact .cons ⟨a.1,a.2.cut c.1⟩ (RK.cut c.2 b)
theorem RK.low {κ:Type}:∀{kvs:List (κ×D)}{vs:List (κ×V)},RK K ρ H kvs vs->y8 ρ.length (kvs.map (·.2))=true
 | _,_,.nil=>rfl
 | _,_,.cons a b=>by
  simp only[K0v,y8,K0k];exact⟨a.2.low,RK.low b⟩
theorem RO.cut {n:Nat}{o:O}{a:Addr}(c:refO n o=true) (h:RO K ρ H o a):RO K (ρ.take n) H o a:=by
 cases o with
 | lst ds=>obtain⟨xs,h1,h2⟩:=h;exact⟨xs,h1,h2.cut c⟩
 | set ks=>exact h
 | dct=>exact h
 | dK kvs=>obtain⟨vs,h1,h2⟩:=h;exact⟨vs,h1,h2.cut c⟩
 | dF kvs=>obtain⟨ob,vs,h1,h2⟩:=h;exact⟨ob,vs,h1,h2.cut c⟩
 | exc c=>exact h
 | ins c' fs=>obtain⟨C,dx,vs,h1,h2,h3⟩:=h;exact⟨C,dx,vs,h1,h2,h3.cut c⟩
theorem RO.low {o:O}{a:Addr}(h:RO K ρ H o a):refO ρ.length o=true:=by
 cases o with
 | lst ds=>obtain⟨xs,h1,h2⟩:=h;exact h2.low
 | set ks=>rfl
 | dct=>rfl
 | dK kvs=>obtain⟨vs,h1,h2⟩:=h;exact h2.low
 | dF kvs=>obtain⟨ob,vs,h1,h2⟩:=h;exact h2.low
 | exc c=>rfl
 | ins c fs=>obtain⟨C,dx,vs,_,_,h3⟩:=h;exact h3.low
theorem RH.cut {h:AH}{n:Nat}(r:RH K ρ h H) (c:∀o∈h.take n,refO n o=true):RH K (ρ.take n) (h.take n) H:=by
 refine⟨by simp[r.len],λi j a h1 h2=>?_,λm o a h1 h2=>?_⟩
 ·rw[K5x]at h1 h2;split at h1
  ·split at h2
   ·exact r.nd i j a h1 h2
   ·cases h2
  ·cases h1
 ·have hm:=K0s h1;rw[K5x]at h1 h2;split at h1
  ·rename_i q;rw[if_pos q]at h2;exact(r.obj m o a h1 h2).cut (c o hm)
  ·cases h1
theorem RH.cut1 {i:Nat}(r:RH K ρ h H) (c:∀o∈h.take n,refO n o=true) (hn:n<=h.length) (hi:n<=i) (e:h[i]?=some o) (co:refO n o=true):∃a,ρ[i]?=some a/\RH K (ρ.take n++[a]) (h.take n++[o]) H:=by
 obtain⟨a,ea,ra⟩:=r.at e;have r1:=r.cut c;have ln:(ρ.take n).length=n:=by rw[K2d,r.len];omega
 have lh:(h.take n).length=n:=by rw[K2d];omega
 have ne:∀{m:Nat} {b:Addr},(ρ.take n)[m]?=some b->b≠a:=λ{m b} q z=>by
  have hm:=(K02.mp q).1;rw[ln]at hm;rw[z7x hm,z]at q;have:=r.nd m i a q ea;omega
 refine⟨a,ea,by simp[r1.len],λi j b h1 h2=>?_,λm u b h1 h2=>?_⟩
 ·rw[K4f]at h1 h2;split at h1<;>split at h2
  ·exact r1.nd i j b h1 h2
  ·rename_i q1 q2;rw[K26]at h2;split at h2
   ·cases h2;exact absurd rfl (ne h1)
   ·cases h2
  ·rename_i q1 q2;rw[K26]at h1;split at h1
   ·cases h1;exact absurd rfl (ne h2)
   ·cases h1
  ·rw[K26]at h1 h2;split at h1
   ·split at h2
    ·omega
    ·cases h2
   ·cases h1
 ·rw[K4f]at h1 h2;rw[ln]at h2;rw[lh]at h1;split at h1
  ·rename_i q;rw[if_pos q]at h2;exact(r1.obj m u b h1 h2).mono (Pre.app _ _) .(a) rfl
  ·rename_i q;rw[if_neg q]at h2;rw[K26]at h1 h2;split at h1
   ·rename_i q0;rw[if_pos q0]at h2;cases h1;cases h2;exact(ra.cut co).mono (Pre.app _ _) .(a) rfl
   ·cases h1
end
theorem zz1 {h1:AH}(r:RH K ρ h H) (c:Kept h h1):∀o∈h1.take h.length,refO h.length o=true:=λo ho=>by
 obtain⟨i,hi⟩:=List.getElem?_of_mem ho;rw[K5x]at hi;split at hi
 ·rename_i li;rcases c i o li hi with q|q
  ·obtain⟨a,_,ra⟩:=r.at q;rw[<- r.len];exact ra.low
  ·exact q
 ·cases hi
theorem z66 (h j:AH):Kept h (h++j):=λi o li e=>.inl (by rw[K11 li]at e;exact e)
open Classical in
noncomputable def cln (m:M D):M D:=λh=>match m h with
 | .ok d h1=>if h.length<=h1.length/\Kept h h1 then
  (if J2 .(g) d=true then .ok d (h1.take .(g)) else match d with
   | .ref i=>(match h1[i]? with
    | some o=>if refO h.length o=true then .ok (.ref h.length) (h1.take h.length++[o]) else .ok d h1
    | none=>.ok d h1)
   | d=>.ok d h1)
  else .ok d h1
 | .err x h1=>.err x h1
 | .bad=>.bad
theorem FE.cln {K:K5}{EX:XX}{ρ:List Addr}{h:AH}{H:Hp}{Q:VK}{m:M D}(r:RH K ρ h H) (f:FE K EX ρ H Q (cln m h)):FE K EX ρ H Q (m h):=by
 unfold FT.cln at f;cases e:m h with
 | bad=>rw[e]at f;exact f
 | err x h1=>rw[e]at f;exact f
 | ok d h1 =>
  rw[e]at f;dsimp only at f;split at f
  ·rename_i c;obtain⟨hl,c⟩:=c;have cl:=zz1 r c;have pre:∀{ρ1:List Addr},Pre ρ ρ1->Pre ρ (ρ1.take .(g)):=λ{ρ1} p i a q=>by
    have:=(K02.mp q).1;rw[r.len]at this;rw[z7x this];exact p i a q
   split at f
   ·rename_i cd;exact λρ1 H1 p1 e1 r1 v rv=>f _ H1 (pre p1) e1 (r1.cut cl) v (rv.cut cd)
   ·rename_i nd;split at f
    ·rename_i i;split at f
     ·rename_i o eo;split at f
      ·rename_i co;intro ρ1 H1 p1 e1 r1 v rv;have hi:.(g)<=i:=by
        simp only[J2,decide_eq_true_eq]at nd;omega
       obtain⟨a,ea,r2⟩:=r1.cut1 cl hl hi eo co;refine f _ H1 ((pre p1).trans (Pre.app _ _)) e1 r2 v ?_;simp only[RD]at rv ⊢;obtain⟨b,h2,h3⟩:=rv;rw[ea]at h3;cases h3;refine⟨a,h2,?_⟩;have ln:(ρ1.take .(g)).length=h.length:=by rw[K2d,r1.len];omega
       rw[K0e .(1),ln];simp
      ·exact f
     ·exact f
    ·exact f
  ·exact f
noncomputable def clE (m:G->M D):G->M D:=λγ=>cln (m γ)
theorem z0M {X:Cx}{EX:XX}{e:Expr}{m:G->M D}(h:SE X EX e m):SE X EX e (clE m) :=
 ⟨PE.imp h.h λσ H Q ⟨ρ,γ,h,rel,fin⟩=>⟨ρ,γ,h,rel,FE.cln rel.h fin⟩⟩
theorem Fn.cln {P:K1d}{w:World}{K:K5}{mg:Str->Option Value}{base:Heap}{k:Nat}{x:Str}{n:Nat}{mf:List D->M D}(F:Fn P w K mg base k x n mf):Fn P w K mg base k x n (λds=>cln (mf ds)):=by
 obtain⟨f,fd,ps,h1,h2,h3,h4⟩:=F.ex;exact⟨f,fd,ps,h1.imp λvs H Q E ⟨hl,ρ,ds,h,rh,rd,fin⟩=>⟨hl,ρ,ds,h,rh,rd,FE.cln rh fin⟩,h2,h3,h4⟩
end FT
namespace L2
open PySem PySem.Spec PyProof.Rows PySem.Builtin
theorem z44:fillsNumberSlot (.type "tuple") "mul" = pure false :=
 PySem.fillsNumberSlot_seq (id:="tuple.__mul__") (r:=some (.builtin "tuple.__rmul__")) K3x.lookup .(3) K8g.lookup .(3)
theorem z6p:seqRepeat? (.type "tuple")=pure (some (.builtin "tuple.__mul__")):=by
 unfold seqRepeat?;rw[Z2d (T:="tuple") (name:="__mul__") (id:="tuple.__mul__") K3x.lookup .(3),Z2d (T:="tuple") (name:="__rmul__") (id:="tuple.__rmul__") K8g.lookup .(3)];rfl
theorem zI8 (a:Int) (t:Tok) (l:Addr) (items:Array Value) (n:Nat) (dd:Option Addr) (sl:Array (Option Value)) :
 Meets (Builtin.«int.__rmul__» ⟨[.int a t,.ref l],[]⟩) (λ_ R s=>s.heap.get? l=some { cls:=.type "tuple",dict:=dd,data:=.seq items n,slots:=sl }/\R (.ok (.ret Value.notImplemented)) s) :=
 .of_wp λprog w A R s h=>by obtain⟨hp,g,d,tk,os⟩:=s;obtain⟨hl,h⟩:=h;wp_walk;exact⟨_,rfl,h⟩
theorem zX1 (l:Addr) (items:Array Value) (n:Nat) (dd:Option Addr) (sl:Array (Option Value)) (x:Int) (u:Tok) (h1:-(2 ^ 63)<=x) (h2:x<2 ^ 63) (hc:items.isEmpty=true\/x=1) :
 Meets (Builtin.«tuple.__mul__» ⟨[.ref l,.int x u],[]⟩) (λ_ R s=>s.heap.get? l=some { cls:=.type "tuple",dict:=dd,data:=.seq items n,slots:=sl }/\R (.ok (.ret (K20 l))) s) :=
 .of_wp λprog w A R s h=>by
  obtain⟨hp,g,d,tk,os⟩:=s;obtain⟨hl,h⟩:=h;have f1:=K69;have c1:(decide (x < -(2 ^ 63))||decide (x >= 2 ^ 63))=false:=by simp;omega
  have c2:(items.isEmpty||x==1)=true:=by simpa using hc
  wp_walk using K1s hl
  refine K3s (by rw[c1];rfl) ?_
  wp_walk using K1s hl
  exact⟨_,rfl,h⟩
theorem zR7 (l:Addr) (items:Array Value) (n:Nat) (dd:Option Addr) (sl:Array (Option Value)) (x:Int) (u:Tok) (h1:-(2 ^ 63)<=x) (h2:x<2 ^ 63) (hc:items.isEmpty=false) (hx:x<=0) :
 Meets (Builtin.«tuple.__mul__» ⟨[.ref l,.int x u],[]⟩) (λ_ R s=>s.heap.get? l=some { cls:=.type "tuple",dict:=dd,data:=.seq items n,slots:=sl }/\R (.ok (.ret (K20 .(2)))) { s with heap:=s.heap.push { cls:=K4g "tuple",data:=Z2x #[] },toks:=s.toks }) :=
 .of_wp λprog w A R s h=>by
  obtain⟨hp,g,d,tk,os⟩:=s;obtain⟨hl,h⟩:=h;have f1:=K69;have c1:(decide (x < -(2 ^ 63))||decide (x >= 2 ^ 63))=false:=by simp;omega
  have c2:(items.isEmpty||x==1)=false:=by rw[hc];simp;omega
  have c3:(decide (x<=0)||items.isEmpty)=true:=by simp[hx]
  wp_walk using K1s hl
  refine K3s (by rw[c1];rfl) ?_
  wp_walk using K1s hl
  refine K3s (by rw[c2];rfl) ?_
  wp_walk using K1s hl
  exact⟨_,rfl,h⟩
theorem zP5 (l:Addr) (items:Array Value) (n:Nat) (dd:Option Addr) (sl:Array (Option Value)) (x:Int) (u:Tok) (h1:-(2 ^ 63)<=x) (h2:x<2 ^ 63) (hc:items.isEmpty=false) (hx:1<x) (hz:items.size * x.toNat<=sizeLine) :
 Meets (Builtin.«tuple.__mul__» ⟨[.ref l,.int x u],[]⟩) (λ_ R s=>s.heap.get? l=some { cls:=.type "tuple",dict:=dd,data:=.seq items n,slots:=sl }/\R (.ok (.ret (K20 .(2)))) { s with heap:=s.heap.push { cls:=K4g "tuple",data:=Z2x (K6p (λx1 x2=>x1++x2) #[] (K0g x.toNat items)) },toks:=s.toks }) :=
 .of_wp λprog w A R s h=>by
  obtain⟨hp,g,d,tk,os⟩:=s;obtain⟨hl,h⟩:=h;have f1:=K69;have c1:(decide (x < -(2 ^ 63))||decide (x >= 2 ^ 63))=false:=by simp;omega
  have c2:(items.isEmpty||x==1)=false:=by rw[hc];simp;omega
  have c3:(decide (x<=0)||items.isEmpty)=false:=by rw[hc];simp;omega
  have ez:(items.size:Int) * x=((items.size * x.toNat:Nat):Int):=by
   rw[Int.natCast_mul,K79 .(1)]
  have sl4:(sizeLine:Nat)<=2 ^ 24:=by decide
  have c4:¬ (items.size:Int) * x > (2 ^ 63 - 1) / 8:=by rw[ez];omega
  have c5:Tuple.tupleTooMany ((items.size:Int) * x)=false:=by
   unfold Tuple.tupleTooMany;rw[ez,decide_eq_false_iff_not];omega
  wp_walk using K1s hl
  refine K3s (by rw[c1];rfl) ?_
  wp_walk using K1s hl
  refine K3s (by rw[c2];rfl) ?_
  wp_walk using K1s hl
  refine K3s (by rw[c3];rfl) ?_
  wp_walk using K1s hl
  rw[if_neg c4]
  wp_walk using K1s hl
  refine K3s (by rw[c5];rfl) ?_
  wp_walk using K1s hl
  have c6:¬ (K6p (λx1 x2=>x1++x2) #[] (K0g x.toNat items)).size > sizeLine:=by
   have f0:=foldl_rep items.toList x.toNat [];rw[K76]at f0;have:(K6p (λx1 x2=>x1++x2) #[] (K0g x.toNat items))=(K0g x.toNat items.toList).flatten.toArray:=f0;rw[this,K0a,len_rep,K17,K7b];omega
  refine K3s (.(m) c6) ?_
  wp_walk using K1s hl
  exact⟨_,rfl,h⟩
def zR1 (K:K5):R2:=λx y H Q=>∃a k xs,x=.ref a/\y=.int k/\SqT K H a xs/\-(2 ^ 63)<=k/\k<2 ^ 63/\xs.length * k.toNat<=sizeLine /\
 ((xs=[]\/k=1)->Q (.ref a) H)/\(∀p,H p=none->Q (.ref p) (upd H p (.tup (K0g k.toNat xs).flatten)))
theorem zD2 {X:Cx}:OpR X (K2z .Mult) (zR1 X.K):=by
 intro pins s σ H x y v u Q I rx ry h;obtain⟨a,k,xs,rfl,rfl,ha,h1,h2,hz,q1,q2⟩:=h;cases rx;obtain⟨t,rfl⟩:=ry;obtain⟨its,r1,p1,_⟩:=I.tuple ha;obtain⟨⟨cls,dd,data,sl⟩,ho,hc,n,hd⟩:=id p1;simp only at hc hd;subst hc hd;have go:∀(R:Value->Shared->Prop),wpAny .(4) X.A (call (.builtin "tuple.__mul__") [.ref a,.int k t]) R X.xe s->wpAny .(4) X.A (K2z .Mult (.ref a) (.int k t)) R X.xe s:=λR z =>
  K7u (T:="tuple") (U:="int") (by decide) ⟨_,ho,rfl⟩ (λs'=>K8y s' k t) z44 PySem.F.fills_int_mul K9b z6p PySem.F.slot_int_index.lookup
   (K4i K9b (K8y s k t) PySem.F.entry_int_rmul (PySem.F.args_int_rmul_2 _ _) (zI8 k t a its.toArray n dd sl) ⟨ho,rfl,⟨_,ho,rfl⟩,z⟩)
 refine go _ ?_;have ln:its.length=xs.length:=r1.length.symm;by_cases c:xs=[]\/k=1
 ·refine K4i K3x ⟨_,ho,rfl⟩ K62 (K5t _ _) (zX1 a its.toArray n dd sl k t h1 h2 ?_) ⟨ho,.ref a,H,I,rfl,q1 c⟩;rcases c with c|c
  ·left;have:its=[]:=r1.nil_iff.mpr c;rw[this];rfl
  ·exact .inr c
 ·have ne:its.toArray.isEmpty=false:=by
   cases its with
   | nil=>exact absurd (.inl (r1.nil_iff.mp rfl)) c
   | cons a r=>rfl
  by_cases k0:k<=0
  ·refine K4i K3x ⟨_,ho,rfl⟩ K62 (K5t _ _) (zR7 a its.toArray n dd sl k t h1 h2 ne k0) ⟨ho,?_⟩;have e0:k.toNat=0:=by omega
   refine⟨.ref .(2),_,I.laid (t':=s.toks) (o:=.tup (K0g k.toNat xs).flatten) (λb ob q=>K8 _ q) (K04 _) ?_,rfl,q2 _ (I.hok.fresh (K04 _))⟩;rw[e0];exact⟨by simp,_,.nil,FT.IsTup0.new _ _⟩
  ·have k2:1<k:=by
    have:k≠1:=λz=>c (.inr z);omega
   refine K4i K3x ⟨_,ho,rfl⟩ K62 (K5t _ _) (zP5 a its.toArray n dd sl k t h1 h2 ne k2 (by rw[K0a,ln];exact hz)) ⟨ho,?_⟩;refine⟨.ref .(2),_,I.laid (t':=s.toks) (o:=.tup (K0g k.toNat xs).flatten) (λb ob q=>K8 _ q) (K04 _) ?_,rfl,q2 _ (I.hok.fresh (K04 _))⟩;refine⟨by rw[len_rep,K7b];exact hz,_,r1.rep k.toNat,?_⟩;have f0:=foldl_rep its k.toNat [];rw[K76]at f0;have e:(K6p (λx1 x2=>x1++x2) #[] (K0g k.toNat its.toArray))=(K0g k.toNat its).flatten.toArray:=f0;rw[e];exact FT.IsTup0.new _ _
end L2
namespace FT
variable{X:Cx}{EX:XX}{a x n i:Nat}{b neg:Bool}{pos:Pos}{ma mb m me:G->M D}{α ι:Type}{A:Around}{E:Value->Shared->Prop}{s:Shared}{K:K5}{d:D}{v:V}{part:Option Value}{dk:Addr}{ds xs ys:List D}{its:Array Value}{sl:Array (Option Value)}{e:Expr}{kws:List K4z}{mr:G->M (List D)}{mk:List (List Str)}{nm:Option Str}{u:Value}{ρ:List Addr}{h j r h1:AH}{H:Hp}{pins:List (Addr×Obj)}{Q:D->AH->Prop}{γ:G}{cap:List (Option Nat)}{mi:G->M Src}{g:D->G->M G}{src:Src}{f:List D->M D}{st:List (List Nat)}{l S T:List Nat}{mt:G->M Out}{gr sm:List Int}{o:O}{kk kb:G->M Bool}{kvs:List (Key×D)}{vs:List (Key×V)}{Z:List (Key×D)->List Addr->AH->Hp->Prop}
def z67:D->D->M D
 | .tup x,.int j=>if decide (-(2 ^ 63)<=j)&&decide (j<2 ^ 63)&&decide (j.toNat * x.length<=sizeLine) then pure (.tup (K0g j.toNat x).flatten) else bad
 | x,y=>fMul x y
theorem zF9:BR X.K EX (λx y H Q=>(rI CMul (λi j=>.int (i * j)) x y H Q\/rRep x y H Q)\/zR1 X.K x y H Q) z67:=by
 intro ρ h H x y v u Q r rx ry fin;unfold z67 at fin;split at fin
 ·rename_i ds j;simp only[RD]at rx ry;obtain⟨a,xs,rfl,sq,rd⟩:=rx;subst ry;split at fin
  ·rename_i hc;simp only[K0k,decide_eq_true_eq]at hc;have hl:=rd.length;refine .inr ⟨a,j,xs,rfl,rfl,sq,hc.1.1,hc.1.2,by rw[<- hl,K7b];exact hc.2,λc=>?_,λp hp=>FE.tup fin r (rd.flat j.toNat) hp⟩;refine FE.here fin r ?_;simp only[RD];refine⟨a,xs,rfl,sq,?_⟩;rcases c with c|c
   ·subst c;have:ds=[]:=by simpa using hl
    subst this;have:(K0g j.toNat ([]:List D)).flatten=[]:=by simp
    rw[this];exact rd
   ·subst c;have:(K0g (1:Int).toNat ds).flatten=ds:=by simp
    rw[this];exact rd
  ·exact fin.elim
 ·exact .inl (zP6 ρ h H x y v u Q r rx ry fin)
theorem z5L {a b:Expr}(ha:SE X EX a ma) (hb:SE X EX b mb):SE X EX (.BinOp a .Mult b pos) (e2 z67 ma mb):=z5J ((op_mul.or zW1).or zD2) zF9 ha hb
theorem z6F {M:Model}{A:Around}{E:Value->Shared->Prop}{Q:α->Shared->Prop}{s:Shared}{K:K5}{d:Addr}{name:Str}{v:Value}{t:Sem α}{part:Option Value}{k:Obj->Sem α}
 (X:K.In s.heap) (n:K3g K d name=some (some v)) (e:t=.load d part k) (z:∀o,nsLook name o=pure (some v)->wpAny M A (k o) Q E s):wpAny M A t Q E s:=by
 unfold K3g at n;split at n
 ·rename_i o1 o2 es sz o3 lk;have hg:=X _ _ lk;split at n
  ·rename_i e2 fe;cases n;rw[e];refine K2 (m:=loadPart d part) (wpAny_loadPart hg (z _ ?_));rw[nsLook_eq];unfold nsLookByArray;dsimp only;rw[<- Z1j,fe]
  ·split at n<;>cases n
 ·cases n
structure KD (K:K5) (dk:Addr) (name:Str) (d:D) (v:V) (u:Value):Prop where
 ns:K3g K dk name=some (some u)
 rel:RelV v u
 rd:∀ρ H,RD K ρ H d v
theorem kd_tup {x:Str}{a:Addr}{ds:List D}(h:K3g K dk x=some (.(r a))) (hk:K.lookup a=some ⟨.type "tuple",none,.seq its n,sl⟩)
 (hr:zl4 ds its.toList=true) (hz:its.size<=sizeLine):KD K dk x (.tup ds) (.ref a) (.ref a):=by
 refine⟨h,rfl,λρ H=>?_⟩;obtain⟨h1,h2⟩:=z8B (K:=K) (ρ:=ρ) (H:=H) hr;simp only[RD];exact⟨a,_,rfl,.inr ⟨_,its,n,hk,⟨rfl,rfl⟩,rfl,hz,h1⟩,h2⟩
structure SK (X:Cx) (EX:XX) (kws:List K4z) (m:G->M (List D)):Prop where
 h:PK X kws (tL X.K EX m)
theorem PK.imp {e:List K4z}{t t':TA}(h:PK X e t) (f:∀σ H Q,t' σ H Q->t σ H Q):PK X e t':=λpos pins s σ H Q I z=>h pos pins s σ H Q I (f σ H Q z)
section
variable {a:Expr}{es:List Expr}{p kpos:Pos}{mk:G->M (List D)}
theorem z3W:SK X EX [] aNil:=⟨PK.imp zW8 λσ H Q ⟨ρ,γ,h,rel,fin⟩=>fin ρ H .(9) .(a) rel.h [] RDs.nil⟩
theorem z3y (ha:SE X EX e ma) (hr:SK X EX kws mr):SK X EX (⟨nm,e,kpos⟩::kws) (z7 ma mr) :=
 ⟨PK.imp (zD4 ha.h hr.h) λσ H Q ⟨ρ,γ,h,rel,fin⟩=>⟨ρ,γ,h,rel,(Fin.bind fin).mono λx ρ1 h1 H1 p1 e1 r1 f1 v rv=>⟨ρ1,γ,h1,⟨rel.g.mono p1 e1,r1⟩,(Fin.bind f1).mono λxs ρ2 h2 H2 p2 e2 r2 f2 vs rvs =>
  f2 ρ2 H2 .(9) .(a) r2 (v::vs) (RDs.cons (rv.mono p2 e2) rvs)⟩⟩⟩
end
theorem z2O:∀ρ H,RDs K ρ H [] []:=λ_ _=>RDs.nil
theorem z8g {x:Str}(h:KD K dk x d v u):∀ρ H,RDs K ρ H [d] [v]:=λρ H=>RDs.cons (h.rd ρ H) RDs.nil
inductive Vw where
 | flat (d:D)|tup (xs:List D)|lst (xs:List D)|no
def vw (h:AH):D->Vw
 | .tup xs=>.tup xs
 | .fl xs=>.lst xs
 | .ref i=>match h[i]? with
  | .(l xs)=>.lst xs
  | _=>.no
 | d=>.flat d
def eqZ (f:D->D->Option Bool):List D->List D->Option Bool
 | [],[]=>some true
 | x::xs,y::ys=>match f x y,eqZ f xs ys with
  | some a,some b=>some (a&&b)
  | _,_=>none
 | _,_=>some false
def eqN:Nat->AH->D->D->Option Bool
 | 0,_,_,_=>none
 | n+1,h,x,y=>match vw h x,vw h y with
  | .flat a,.flat b=>some (eqF a b)
  | .tup xs,.tup ys=>eqZ (eqN n h) xs ys
  | .lst xs,.lst ys=>eqZ (eqN n h) xs ys
  | .no,_=>none
  | _,.no=>none
  | _,_=>some false
def eqE (f:D->D->Option Bool) (xs ys:List D) (j:Nat):Bool:=(f (xs.getD j .non) (ys.getD j .non)).getD false
theorem z60 {f:D->D->Option Bool}:∀{xs ys:List D}{b:Bool},eqZ f xs ys=some b ->
 (∀j x y,xs[j]?=some x->ys[j]?=some y->f x y=some (eqE f xs ys j))/\b=((K0m (min xs.length ys.length)).all (eqE f xs ys)&&xs.length==ys.length)
 | [],[],b,h=>by
  unfold eqZ at h;cases h;exact⟨λj x y e=>by simp at e,by simp⟩
 | [],y::ys,b,h=>by
  unfold eqZ at h;cases h;exact⟨λj x y e=>by simp at e,by simp⟩
 | x::xs,[],b,h=>by
  unfold eqZ at h;cases h;exact⟨λj x y _ e=>by simp at e,by simp⟩
 | x::xs,y::ys,b,h=>by
  unfold eqZ at h;split at h
  ·rename_i a c e1 e2;cases h;obtain⟨q1,q2⟩:=z60 e2;refine⟨λj p q ep eq=>?_,?_⟩
   ·cases j with
    | zero=>simp at ep eq;subst ep;subst eq;unfold eqE;simp[e1]
    | succ j=>simpa [eqE] using q1 j p q (by simpa using ep) (by simpa using eq)
   ·rw[q2];have:min (x::xs).length (y::ys).length=min xs.length ys.length+1:=by simp
    rw[this,List.range_succ_eq_map,K5s,List.all_map,<- Bool.and_assoc];congr 1
    ·unfold eqE;simp[e1,K80]
    ·simp
  ·cases h
theorem z2u {a:D}(e:vw h d=.flat a):a=d/\z1a d=true:=by
 cases d<;>simp[vw]at e<;>first|(subst e;exact⟨rfl,rfl⟩)|skip
 split at e<;>cases e
theorem z3O (e:vw h d=.tup xs) (r:RD K ρ H d v):∃a vs,v=.ref a/\SqT K H a vs/\RDs K ρ H xs vs:=by
 cases d<;>simp[vw]at e
 ·subst e;simpa [RD] using r
 ·split at e<;>cases e
theorem z3M (rh:RH K ρ h H) (e:vw h d=.lst xs) (r:RD K ρ H d v):∃a vs,v=.ref a/\SqL K H a vs/\RDs K ρ H xs vs:=by
 cases d<;>simp[vw]at e
 ·subst e;simp only[RD]at r;obtain⟨a,vs,h1,h2,h3⟩:=r;exact⟨a,vs,h1,h2.sq,h3⟩
 ·split at e
  ·rename_i i xs' ei;cases e;simp only[RD]at r;obtain⟨a,h1,h2⟩:=r;obtain⟨a',h3,vs,h4,h5⟩:=rh.at ei;rw[h2]at h3;cases h3;exact⟨a,vs,h1,SqL.of h4,h5⟩
  ·cases e
section
variable {σ:L2.St}
theorem z5E {a:Addr}:∀{d:D},z1a d=true->RD K ρ H d (.ref a)->False
 | .non,_,r=>by simp[RD]at r
 | .bl _,_,r=>by simp[RD]at r
 | .int _,_,r=>by simp[RD]at r
 | .str _,_,r=>by simp[RD]at r
 | .tup _,f,_=>by cases f
 | .fl _,f,_=>by cases f
 | .ref _,f,_=>by cases f
theorem zn3:∀{d:D},z1a d=true->eqF d d=true
 | .non,_=>rfl
 | .bl _,_=>by simp[eqF]
 | .int _,_=>by simp[eqF]
 | .str _,_=>by simp[eqF]
 | .tup _,f=>by cases f
 | .fl _,f=>by cases f
 | .ref _,f=>by cases f
def flV:D->V
 | .bl b=>.bl b
 | .int i=>.int i
 | .str x=>.str x
 | _=>.non
theorem z5q:∀{d:D}{v:V},z1a d=true->RD K ρ H d v->v=flV d
 | .non,_,_,r=>by simp only[RD]at r;exact r
 | .bl _,_,_,r=>by simp only[RD]at r;exact r
 | .int _,_,_,r=>by simp only[RD]at r;exact r
 | .str _,_,_,r=>by simp only[RD]at r;exact r
 | .tup _,_,f,_=>by cases f
 | .fl _,_,f,_=>by cases f
 | .ref _,_,f,_=>by cases f
theorem zz4:∀{a b:D},z1a a=true->z1a b=true->flV a=flV b->a=b
 | .non,.non,_,_,_=>rfl
 | .bl _,.bl _,_,_,e=>by cases e;rfl
 | .int _,.int _,_,_,e=>by cases e;rfl
 | .str _,.str _,_,_,e=>by cases e;rfl
 | .non,.bl _,_,_,e=>by cases e
 | .non,.int _,_,_,e=>by cases e
 | .non,.str _,_,_,e=>by cases e
 | .bl _,.non,_,_,e=>by cases e
 | .bl _,.int _,_,_,e=>by cases e
 | .bl _,.str _,_,_,e=>by cases e
 | .int _,.non,_,_,e=>by cases e
 | .int _,.bl _,_,_,e=>by cases e
 | .int _,.str _,_,_,e=>by cases e
 | .str _,.non,_,_,e=>by cases e
 | .str _,.bl _,_,_,e=>by cases e
 | .str _,.int _,_,_,e=>by cases e
 | .tup _,_,f,_,_=>by cases f
 | .fl _,_,f,_,_=>by cases f
 | .ref _,_,f,_,_=>by cases f
 | _,.tup _,_,f,_=>by cases f
 | _,.fl _,_,f,_=>by cases f
 | _,.ref _,_,f,_=>by cases f
theorem list_inj {a:Addr}{xs ys:List V}(I:Inv X pins σ H s) (h1:SqL X.K H a xs) (h2:SqL X.K H a ys):xs=ys:=by
 obtain⟨its,r,⟨o,n,e,_,_,d⟩,_⟩:=I.list h1;obtain⟨its',r',⟨o',n',e',_,_,d'⟩,_⟩:=I.list h2;rw[e]at e';cases e';rw[d]at d';injection d' with d1 _
 have:its=its':=by simpa using congrArg Z1t d1
 subst this;exact r.inj r'
theorem z8S (I:Inv X pins σ H s) (rh:RH X.K ρ h H):∀(n:Nat) {d1 d2:D}{v:V}{b:Bool},RD X.K ρ H d1 v->RD X.K ρ H d2 v->eqN n h d1 d2=some b->b=true
 | 0,d1,d2,v,b,_,_,e=>by cases e
 | n+1,d1,d2,v,b,r1,r2,e=>by
  have elems:∀{xs ys:List D} {vs:List V},RDs X.K ρ H xs vs->RDs X.K ρ H ys vs->eqZ (eqN n h) xs ys=some b->b=true:=λ{xs ys vs} q1 q2 z=>by
   obtain⟨z1,z2⟩:=z60 z;have l1:=q1.length;have l2:=q2.length;rw[z2,K0k,K1w];refine⟨λj hj=>?_,by simp;omega⟩;have hj':j<xs.length:=by simp at hj;omega
   have e1:xs[j]?=some xs[j]:=K9 hj';have e2:ys[j]?=some ys[j]:=K9 .(1);obtain⟨w1,a1,a2⟩:=q1.get e1;obtain⟨w2,b1,b2⟩:=q2.get e2;rw[a1]at b1;cases b1;exact z8S I rh n a2 b2 (z1 j _ _ e1 e2)
  unfold eqN at e;have nl:∀{a:Addr} {vs ws:List V},SqT X.K H a vs->SqL X.K H a ws->False:=λ{a vs ws} t1 t2=>by
   obtain⟨its,_,p1,_⟩:=I.tuple t1;obtain⟨its2,_,p2,_⟩:=I.list t2;exact SeqAt.ne_of_list_tuple p2.isList (show s.heap.IsTuple a its.toArray from p1) rfl
  cases e1:vw h d1 with
  | no=>rw[e1]at e;cases e2:vw h d2<;>rw[e2]at e<;>cases e
  | flat a =>
   rw[e1]at e;obtain⟨rfl,f1⟩:=z2u e1;cases e2:vw h d2 with
   | no=>rw[e2]at e;cases e
   | flat c =>
    rw[e2]at e;obtain⟨rfl,f2⟩:=z2u e2;cases e;have:=zz4 f1 f2 ((z5q f1 r1).symm.trans (z5q f2 r2));subst this;exact zn3 f1
   | tup ys=>obtain⟨a',vs,rfl,_,_⟩:=z3O e2 r2;exact(z5E f1 r1).elim
   | lst ys=>obtain⟨a',vs,rfl,_,_⟩:=z3M rh e2 r2;exact(z5E f1 r1).elim
  | tup xs =>
   rw[e1]at e;obtain⟨a,vs,rfl,t1,q1⟩:=z3O e1 r1;cases e2:vw h d2 with
   | no=>rw[e2]at e;cases e
   | flat c=>obtain⟨rfl,f2⟩:=z2u e2;exact(z5E f2 r2).elim
   | tup ys =>
    rw[e2]at e;obtain⟨a',ws,ea,t2,q2⟩:=z3O e2 r2;cases ea;have:=I.tuple_inj t1 t2;subst this;exact elems q1 q2 e
   | lst ys =>
    obtain⟨a',ws,ea,t2,q2⟩:=z3M rh e2 r2;cases ea;exact(nl t1 t2).elim
  | lst xs =>
   rw[e1]at e;obtain⟨a,vs,rfl,t1,q1⟩:=z3M rh e1 r1;cases e2:vw h d2 with
   | no=>rw[e2]at e;cases e
   | flat c=>obtain⟨rfl,f2⟩:=z2u e2;exact(z5E f2 r2).elim
   | lst ys =>
    rw[e2]at e;obtain⟨a',ws,ea,t2,q2⟩:=z3M rh e2 r2;cases ea;have:=list_inj I t1 t2;subst this;exact elems q1 q2 e
   | tup ys =>
    obtain⟨a',ws,ea,t2,q2⟩:=z3O e2 r2;cases ea;exact(nl t2 t1).elim
open SeqAt in
theorem mixT {a:Addr}(f:z1a d=true) (r:RD K ρ H d v) (ru:RelV v u) (p:s.heap.IsTuple a its) (hu:A.units<cLine):EqAt A s u (.ref a) false/\EqAt A s (.ref a) u false/\RcAt A s u (.ref a) false/\RcAt A s (.ref a) u false/\RcNeAt A s u (.ref a) true/\RcNeAt A s (.ref a) u true:=by
 have:=z5q f r;subst this;cases d with
 | non=>cases ru;exact⟨.none_tuple p hu,.tuple_none p hu,.none_tuple p hu,.tuple_none p hu,.none_tuple p hu,.tuple_none p hu⟩
 | bl b=>cases ru;exact⟨.bool_tuple b p hu,.tuple_bool b p hu,.bool_tuple b p hu,.tuple_bool b p hu,.bool_tuple b p hu,.tuple_bool b p hu⟩
 | int i=>obtain⟨t,rfl⟩:=ru;exact⟨.int_tuple i t p hu,.tuple_int i t p hu,.int_tuple i t p hu,.tuple_int i t p hu,.int_tuple i t p hu,.tuple_int i t p hu⟩
 | str x=>obtain⟨t,rfl⟩:=ru;exact⟨.str_tuple x t p hu,.tuple_str x t p hu,.str_tuple x t p hu,.tuple_str x t p hu,.str_tuple x t p hu,.tuple_str x t p hu⟩
 | tup _=>cases f
 | fl _=>cases f
 | ref _=>cases f
open SeqAt in
theorem mixL {a:Addr}(f:z1a d=true) (r:RD K ρ H d v) (ru:RelV v u) (p:s.heap.IsList a its) (hu:A.units<cLine):EqAt A s u (.ref a) false/\EqAt A s (.ref a) u false/\RcAt A s u (.ref a) false/\RcAt A s (.ref a) u false/\RcNeAt A s u (.ref a) true/\RcNeAt A s (.ref a) u true:=by
 have:=z5q f r;subst this;cases d with
 | non=>cases ru;exact⟨.none_list p hu,.list_none p hu,.none_list p hu,.list_none p hu,.none_list p hu,.list_none p hu⟩
 | bl b=>cases ru;exact⟨.bool_list b p hu,.list_bool b p hu,.bool_list b p hu,.list_bool b p hu,.bool_list b p hu,.list_bool b p hu⟩
 | int i=>obtain⟨t,rfl⟩:=ru;exact⟨.int_list i t p hu,.list_int i t p hu,.int_list i t p hu,.list_int i t p hu,.int_list i t p hu,.list_int i t p hu⟩
 | str x=>obtain⟨t,rfl⟩:=ru;exact⟨.str_list x t p hu,.list_str x t p hu,.str_list x t p hu,.list_str x t p hu,.str_list x t p hu,.list_str x t p hu⟩
 | tup _=>cases f
 | fl _=>cases f
 | ref _=>cases f
open SeqAt in
theorem Z0z {u1 u2:Value}:∀(d1 d2:D),z1a d1=true->z1a d2=true->RelV (flV d1) u1->RelV (flV d2) u2->EqAt A s u1 u2 (eqF d1 d2)/\RcAt A s u1 u2 (eqF d1 d2)/\RcNeAt A s u1 u2 (!(eqF d1 d2))
 | .non,.non,_,_,r1,r2=>by cases r1;cases r2;exact⟨EqAt.same _,RcAt.none_none,RcNeAt.none_none⟩
 | .non,(.bl b),_,_,r1,r2=>by cases r1;cases r2;exact⟨EqAt.none_bool b,RcAt.none_bool b,RcNeAt.none_bool b⟩
 | .non,(.int b),_,_,r1,r2=>by cases r1;obtain⟨t2,rfl⟩:=r2;exact⟨EqAt.none_int b t2,RcAt.none_int b t2,RcNeAt.none_int b t2⟩
 | .non,(.str b),_,_,r1,r2=>by cases r1;obtain⟨t2,rfl⟩:=r2;exact⟨EqAt.none_str b t2,RcAt.none_str b t2,RcNeAt.none_str b t2⟩
 | (.bl a),.non,_,_,r1,r2=>by cases r1;cases r2;exact⟨EqAt.bool_none a,RcAt.bool_none a,RcNeAt.bool_none a⟩
 | (.bl a),(.bl b),_,_,r1,r2=>by cases r1;cases r2;exact⟨EqAt.bool_bool a b,RcAt.bool_bool a b,RcNeAt.bool_bool a b⟩
 | (.bl a),(.int b),_,_,r1,r2=>by cases r1;obtain⟨t2,rfl⟩:=r2;exact⟨EqAt.bool_int a b t2,RcAt.bool_int a b t2,RcNeAt.bool_int a b t2⟩
 | (.bl a),(.str b),_,_,r1,r2=>by cases r1;obtain⟨t2,rfl⟩:=r2;exact⟨EqAt.bool_str a b t2,RcAt.bool_str a b t2,RcNeAt.bool_str a b t2⟩
 | (.int a),.non,_,_,r1,r2=>by obtain⟨t1,rfl⟩:=r1;cases r2;exact⟨EqAt.int_none a t1,RcAt.int_none a t1,RcNeAt.int_none a t1⟩
 | (.int a),(.bl b),_,_,r1,r2=>by obtain⟨t1,rfl⟩:=r1;cases r2;exact⟨EqAt.int_bool a t1 b,RcAt.int_bool a t1 b,RcNeAt.int_bool a t1 b⟩
 | (.int a),(.int b),_,_,r1,r2=>by obtain⟨t1,rfl⟩:=r1;obtain⟨t2,rfl⟩:=r2;exact⟨EqAt.int_int a t1 b t2,RcAt.int_int a t1 b t2,RcNeAt.int_int a t1 b t2⟩
 | (.int a),(.str b),_,_,r1,r2=>by obtain⟨t1,rfl⟩:=r1;obtain⟨t2,rfl⟩:=r2;exact⟨EqAt.int_str a t1 b t2,RcAt.int_str a t1 b t2,RcNeAt.int_str a t1 b t2⟩
 | (.str a),.non,_,_,r1,r2=>by obtain⟨t1,rfl⟩:=r1;cases r2;exact⟨EqAt.str_none a t1,RcAt.str_none a t1,RcNeAt.str_none a t1⟩
 | (.str a),(.bl b),_,_,r1,r2=>by obtain⟨t1,rfl⟩:=r1;cases r2;exact⟨EqAt.str_bool a t1 b,RcAt.str_bool a t1 b,RcNeAt.str_bool a t1 b⟩
 | (.str a),(.int b),_,_,r1,r2=>by obtain⟨t1,rfl⟩:=r1;obtain⟨t2,rfl⟩:=r2;exact⟨EqAt.str_int a t1 b t2,RcAt.str_int a t1 b t2,RcNeAt.str_int a t1 b t2⟩
 | (.str a),(.str b),_,_,r1,r2=>by obtain⟨t1,rfl⟩:=r1;obtain⟨t2,rfl⟩:=r2;exact⟨EqAt.str_str a t1 b t2,RcAt.str_str a t1 b t2,RcNeAt.str_str a t1 b t2⟩
 | .tup _,_,f,_,_,_=>by cases f
 | .fl _,_,f,_,_,_=>by cases f
 | .ref _,_,f,_,_,_=>by cases f
 | _,.tup _,_,f,_,_=>by cases f
 | _,.fl _,_,f,_,_=>by cases f
 | _,.ref _,_,f,_,_=>by cases f
open SeqAt in
theorem deq (I:Inv X pins σ H s) (rh:RH X.K ρ h H):∀(n:Nat) {A:Around}{d1 d2:D}{v1 v2:V}{u1 u2:Value}{b:Bool},A.units+n<cLine->RD X.K ρ H d1 v1->RD X.K ρ H d2 v2->RelV v1 u1->RelV v2 u2->eqN n h d1 d2=some b->EqAt A s u1 u2 b/\RcAt A s u1 u2 b/\RcNeAt A s u1 u2 (!b)
 | 0,A,d1,d2,v1,v2,u1,u2,b,_,_,_,_,_,e=>by cases e
 | n+1,A,d1,d2,v1,v2,u1,u2,b,hA,r1,r2,w1,w2,e=>by
  have hu:A.units<cLine:=by omega
  have e0:=e;unfold eqN at e;have elems:∀{xs ys:List D} {vs ws:List V} {its its2:List Value},RDs X.K ρ H xs vs->RDs X.K ρ H ys ws->Vals vs its->Vals ws its2->eqZ (eqN n h) xs ys=some b ->
   (∀j (h1:j<its.toArray.size) (h2:j<its2.toArray.size),EqAt A.in1 s its.toArray[j] its2.toArray[j] (eqE (eqN n h) xs ys j))/\b=((K0m (min its.toArray.size its2.toArray.size)).all (eqE (eqN n h) xs ys)&&its.toArray.size==its2.toArray.size):=λ{xs ys vs ws its its2} q1 q2 a1 a2 z=>by
   obtain⟨z1,z2⟩:=z60 z;have l1:=q1.length;have l2:=q2.length;have l3:=a1.length;have l4:=a2.length;refine⟨λj h1 h2=>?_,by rw[z2,K0a,K0a,<- l3,<- l4,<- l1,<- l2]⟩;have j1:j<xs.length:=by rw[K0a]at h1;omega
   have j2:j<ys.length:=by rw[K0a]at h2;omega
   have e1:xs[j]?=some xs[j]:=K9 j1;have e2:ys[j]?=some ys[j]:=K9 j2;obtain⟨x1,b1,c1⟩:=q1.get e1;obtain⟨x2,b2,c2⟩:=q2.get e2;obtain⟨y1,b3,c3⟩:=a1.get b1;obtain⟨y2,b4,c4⟩:=a2.get b2;have g1:its.toArray[j]=y1:=by
    have:=K9 (l:=its) (i:=j) (by simpa using h1);rw[b3]at this;simpa using(K19 this).symm
   have g2:its2.toArray[j]=y2:=by
    have:=K9 (l:=its2) (i:=j) (by simpa using h2);rw[b4]at this;simpa using(K19 this).symm
   rw[g1,g2];exact(deq I rh n (A:=A.in1) (show A.units+1+n<cLine by omega) c1 c2 c3 c4 (z1 j _ _ e1 e2)).1
  have same:∀{a a':Addr},v1=.ref a->v2=.ref a'->a=a'->b=true:=λ{a a'} x y z=>by
   subst z;rw[x]at r1;rw[y]at r2;exact z8S I rh (n+1) r1 r2 e0
  cases e1:vw h d1 with
  | no=>rw[e1]at e;cases e2:vw h d2<;>rw[e2]at e<;>cases e
  | flat a =>
   rw[e1]at e;obtain⟨rfl,f1⟩:=z2u e1;cases e2:vw h d2 with
   | no=>rw[e2]at e;cases e
   | flat c =>
    rw[e2]at e;obtain⟨rfl,f2⟩:=z2u e2;cases e;rw[z5q f1 r1]at w1;rw[z5q f2 r2]at w2;exact Z0z a c f1 f2 w1 w2
   | tup ys =>
    rw[e2]at e;cases e;obtain⟨a',vs,rfl,t2,_⟩:=z3O e2 r2;cases w2;obtain⟨its,_,p,_⟩:=I.tuple t2;obtain⟨m1,_,m3,_,m5,_⟩:=mixT (s:=s) f1 r1 w1 (show s.heap.IsTuple a' its.toArray from p) hu;exact⟨m1,m3,m5⟩
   | lst ys =>
    rw[e2]at e;cases e;obtain⟨a',vs,rfl,t2,_⟩:=z3M rh e2 r2;cases w2;obtain⟨its,_,p,_⟩:=I.list t2;obtain⟨m1,_,m3,_,m5,_⟩:=mixL (s:=s) f1 r1 w1 p.isList hu;exact⟨m1,m3,m5⟩
  | tup xs =>
   rw[e1]at e;obtain⟨a,vs,rfl,t1,q1⟩:=z3O e1 r1;cases w1;obtain⟨its,x1,p1,_⟩:=I.tuple t1;have p1:s.heap.IsTuple a its.toArray:=p1;cases e2:vw h d2 with
   | no=>rw[e2]at e;cases e
   | flat c =>
    rw[e2]at e;cases e;obtain⟨rfl,f2⟩:=z2u e2;obtain⟨_,m2,_,m4,_,m6⟩:=mixT (s:=s) f2 r2 w2 p1 hu;exact⟨m2,m4,m6⟩
   | tup ys =>
    rw[e2]at e;obtain⟨a',ws,rfl,t2,q2⟩:=z3O e2 r2;cases w2;obtain⟨its2,x2,p2,_⟩:=I.tuple t2;have p2:s.heap.IsTuple a' its2.toArray:=p2;obtain⟨g1,g2⟩:=elems q1 q2 x1 x2 e;have rc:=RcAt.tuples p1 p2 hu g1;have rn:=RcNeAt.tuples p1 p2 hu g1;rw[<- g2]at rc rn;refine⟨?_,rc,rn⟩;by_cases ea:a=a'
    ·rw[same rfl rfl ea];subst ea;exact EqAt.same _
    ·exact EqAt.of_refs ea rc
   | lst ys =>
    rw[e2]at e;cases e;obtain⟨a',ws,rfl,t2,q2⟩:=z3M rh e2 r2;cases w2;obtain⟨its2,x2,p2,_⟩:=I.list t2;exact⟨EqAt.tuple_list p1 p2.isList hu,RcAt.tuple_list p1 p2.isList hu,RcNeAt.tuple_list p1 p2.isList hu⟩
  | lst xs =>
   rw[e1]at e;obtain⟨a,vs,rfl,t1,q1⟩:=z3M rh e1 r1;cases w1;obtain⟨its,x1,p1,_⟩:=I.list t1;cases e2:vw h d2 with
   | no=>rw[e2]at e;cases e
   | flat c =>
    rw[e2]at e;cases e;obtain⟨rfl,f2⟩:=z2u e2;obtain⟨_,m2,_,m4,_,m6⟩:=mixL (s:=s) f2 r2 w2 p1.isList hu;exact⟨m2,m4,m6⟩
   | tup ys =>
    rw[e2]at e;cases e;obtain⟨a',ws,rfl,t2,q2⟩:=z3O e2 r2;cases w2;obtain⟨its2,x2,p2,_⟩:=I.tuple t2;exact⟨EqAt.list_tuple p1.isList p2 hu,RcAt.list_tuple p1.isList p2 hu,RcNeAt.list_tuple p1.isList p2 hu⟩
   | lst ys =>
    rw[e2]at e;obtain⟨a',ws,rfl,t2,q2⟩:=z3M rh e2 r2;cases w2;obtain⟨its2,x2,p2,_⟩:=I.list t2;obtain⟨g1,g2⟩:=elems q1 q2 x1 x2 e;have both:RcAt A s (.ref a) (.ref a') b/\RcNeAt A s (.ref a) (.ref a') (!b):=by
     by_cases hz:its.toArray.size=its2.toArray.size
     ·have:b=(K0m its.toArray.size).all (eqE (eqN n h) xs ys):=by rw[g2,<- hz,Nat.min_self];simp
      rw[this];exact⟨RcAt.lists p1.isList p2.isList hz hu g1,RcNeAt.lists p1.isList p2.isList hz hu g1⟩
     ·have:b=false:=by
       rw[g2,Bool.and_eq_false_iff];right;simpa using hz
      rw[this];exact⟨RcAt.lists_lengths p1.isList p2.isList (by simpa using hz) hu,RcNeAt.lists_lengths p1.isList p2.isList (by simpa using hz) hu⟩
    refine⟨?_,both⟩;by_cases ea:a=a'
    ·rw[same rfl rfl ea];subst ea;exact EqAt.same _
    ·exact EqAt.of_refs ea both.1
end
def fEqX (neg:Bool):D->D->M D:=λx y h=>match eqN 24 h x y with
 | some b=>.ok (.bl (b != neg)) h
 | none=>.bad
def rEqX (K:K5) (neg:Bool):R2:=λx y H Q=>∃ρ h d1 d2 b,RH K ρ h H/\RD K ρ H d1 x/\RD K ρ H d2 y/\eqN 24 h d1 d2=some b/\Q (.bl (b != neg)) H
theorem zP0 (hu:X.A.units+30<cLine):OpR X (K2f .Eq) (rEqX X.K false):=by
 intro pins s σ H x y v u Q I rx ry h;obtain⟨ρ,h,d1,d2,b,rh,r1,r2,e,q⟩:=h;rw[K1z]at q;exact(deq I rh 24 (A:=X.A) .(1) r1 r2 rx ry e).2.1 X.prog X.w X.xe (EP X pins σ Q) ⟨.bl b,H,I,rfl,q⟩
theorem zQ2 (hu:X.A.units+30<cLine):OpR X (K2f .NotEq) (rEqX X.K true):=by
 intro pins s σ H x y v u Q I rx ry h;obtain⟨ρ,h,d1,d2,b,rh,r1,r2,e,q⟩:=h;rw[K58]at q;exact(deq I rh 24 (A:=X.A) .(1) r1 r2 rx ry e).2.2 X.prog X.w X.xe (EP X pins σ Q) ⟨.bl (!b),H,I,rfl,q⟩
theorem zx2:BR X.K EX (rEqX X.K neg) (fEqX neg):=by
 intro ρ h H x y v u Q r rx ry fin;unfold fEqX at fin;cases e:eqN 24 h x y with
 | none=>rw[e]at fin;exact fin.elim
 | some b=>rw[e]at fin;exact⟨ρ,h,x,y,b,r,rx,ry,e,FE.here fin r (by simp[RD])⟩
theorem zu0 (hu:X.A.units+30<cLine):CO X EX .Eq (fEqX false):=⟨_,zP0 hu,zx2⟩
theorem z8R (hu:X.A.units+30<cLine):CO X EX .NotEq (fEqX true):=⟨_,zQ2 hu,zx2⟩
theorem hu30 {k:Nat}(hr:Room k A):A.units+30<cLine:=K7l (Z12 (by decide:30<=64) _) hr.units
variable {β:Type}
theorem x6 (a:α) (f:α->M β):((Z37 a:M α) >>= f)=f a:=by funext h;rfl
theorem W_eq {m:M α}{v:α}{Q:α->AH->Prop}(e:m=pure v) (q:Q v h):W m h Q:=by rw[e,W_pure];exact q
theorem zO5 (hl:xs.length<=1000000) (q:Q (.ref h.length) (h++[.lst xs])):W (newL xs) h Q :=
 ⟨_,_,by unfold newL;rw[if_pos (K0q hl (by decide))],q⟩
mutual
theorem z4d {m n:Nat}(h:m<=n):∀{d:D},J2 m d=true->J2 n d=true
 | .non,_=>rfl
 | .bl _,_=>rfl
 | .int _,_=>rfl
 | .str _,_=>rfl
 | .tup ds,c=>by simp only[J2]at c ⊢;exact z2z h c
 | .fl ds,c=>by simp only[J2]at c ⊢;exact z2z h c
 | .ref i,c=>by simp only[J2,decide_eq_true_eq]at c ⊢;omega
theorem z2z {m n:Nat}(h:m<=n):∀{d:List D},y8 m d=true->y8 n d=true
 | [],_=>rfl
 | d::r,c=>by simp only[y8,K0k]at c ⊢;exact⟨z4d h c.1,z2z h c.2⟩
end
theorem z56 {n:Nat}:∀{xs:List D},(∀x∈xs,J2 n x=true)->y8 n xs=true
 | [],_=>rfl
 | x::r,h=>by simp only[y8,K0k];exact⟨h x .(f),z56 λy hy=>h y (by simp[hy])⟩
theorem J9 {f:ι->D}{l:List ι}(h:∀a,J2 n (f a)=true):y8 n (l.map f)=true:=z56 λx hx=>by
 obtain⟨a,_,rfl⟩:=K1g.mp hx;exact h a
theorem z0u {m:M D}(e:m h=.ok d (h++j)) (c:J2 h.length d=true):cln m h=.ok d h:=by
 unfold cln;rw[e];dsimp only;rw[if_pos ⟨by simp,z66 _ _⟩,if_pos c];simp
theorem z7p {m:M D}(e:m h=.ok (.ref i) (h++j)) (hi:h.length<=i) (ei:(h++j)[i]?=.(l xs)) (c:y8 h.length xs=true):cln m h=.ok (.ref h.length) (h++[.lst xs]):=by
 unfold cln;rw[e];dsimp only;rw[if_pos ⟨by simp,z66 _ _⟩,if_neg (by simp only[J2,decide_eq_true_eq];omega),ei];dsimp only;rw[if_pos (show refO .(g) (.lst xs)=true from c)];simp
theorem z2i (d:D):cln (pure d)=pure d:=funext λh=>by
 unfold cln;rw[pureM];dsimp only;rw[if_pos ⟨K04 _,λ_ _ _ e=>.inl e⟩];split
 ·simp
 ·rename_i nd;split
  ·rename_i i;simp only[J2,decide_eq_true_eq]at nd;rw[K1i .(1)]
  ·rfl
theorem zQ9 {m:M D}{v:D}(c:J2 0 v=true) (z:∀h,W m h λa h'=>a=v/\∃j,h'=h++j):cln m=pure v:=funext λh=>by
 obtain⟨a,h',e,rfl,j,rfl⟩:=z h;exact z0u e (z4d (K3y _) c)
theorem Z0G {v:D}(c:J2 0 v=true) (z:∀h,W (m γ) h λa h'=>a=v/\∃j,h'=h++j):clE m γ=pure v:=zQ9 c z
theorem z93 {cap:List (Option Nat)}{g:D->G->M G}{k:G->M Bool}{me:G->M D}(p:D->Bool) (f:D->D) (hi:mi γ h=.ok src h) (hg:∀j,src.good (h++j)) (hl:src.items.length<=1000000)
 (hd:∀d∈src.items,∃γ1,g d (capG cap γ)=pure γ1/\k γ1=pure (p d)/\(p d=true->me γ1=pure (f d))):z0j cap mi g k me γ h=newL ((src.items.filter p).map f) h:=by
 rw[z4z p f hi hg hl λd m=>let ⟨γ1,e1,e2,e3⟩:=hd d m;⟨γ1,λh=>by rw[e1];rfl,λj=>by rw[e2];rfl,λq j=>by rw[e3 q];rfl⟩];unfold newL;rw[if_pos];refine K0q ?_ (show 1000000<=sizeLine by decide);rw[K0d];exact K0q (K10 _ _) hl
theorem zf8 {cap:List (Option Nat)}{g:D->G->M G}{k:G->M Bool}{me:G->M D}{items:List D}(p:D->Bool) (f:D->D) (hi:mi γ=pure (.con items)) (hl:items.length<=1000000)
 (hd:∀d∈items,∃γ1,g d (capG cap γ)=pure γ1/\k γ1=pure (p d)/\(p d=true->me γ1=pure (f d))):z0j cap mi g k me γ=newL ((items.filter p).map f) :=
 funext λh=>z93 (src:=.con items) p f (by rw[hi];rfl) (λ_=>trivial) hl hd
theorem zf6 {v:D}(e:m γ=newL xs) (hl:xs.length<=1000000) (c:J2 0 v=true) (q:∀n h,h[n]?=.(l xs)->f [.ref n] h=.ok v h):clE (Z7 f (z7 m aNil)) γ=pure v:=Z0G c λh=>by
 simp only[Z5,W_pure,z1o,z1k,z78,x8,z1F,sAsg,z0p,sRet,sIf,FT.e2,FT.e3,eVar,gN,gIx,eFn,z7,aNil,Z7,eTup,eLst,eM1,eM0,eMS,z5B,eIsi,zX8,zj4,zC1,z9R,z0L,z2D,cVal,cNot,cAnd,cOr,eAnd,eOr,eNot,eIf,Z0Q,Z0I,zN7,K7,K4,K08,K07,K01,K0b,K0p,if_true,if_false,K3i,K4r,ite_true,ite_false,reduceIte,K1f,reduceCtorEq,z4x,z8a,z6I,zB8,zr9,zo4,z6C,e];refine zO5 hl ?_;exact W.of (q _ _ .(f)) ⟨rfl,_,rfl⟩
theorem zY6 (e:m γ=newL xs) (hl:xs.length<=1000000) (c:y8 0 xs=true):clE (Z7 J7 (z7 m aNil)) γ=pure (.tup xs) :=
 zf6 e hl (by simp only[J2];exact c) λn h q=>by unfold J7 seqD getL;simp[q]
theorem z7I:∀bs:List Bool,blsD (bs.map .bl)=some bs
 | []=>rfl
 | b::r=>by simp[blsD,z7I r]
theorem zT0 {bs:List Bool}(any:Bool) (e:m γ=newL (bs.map .bl)) (hl:bs.length<=1000000):clE (Z7 (fAll any) (z7 m aNil)) γ=pure (.bl (if any then bs.any id else bs.all id)) :=
 zf6 e (by simpa using hl) rfl λn h q=>by unfold fAll getL;simp[q,z7I]
theorem zC0 {cap:List (Option Nat)}{g:D->G->M G}{k:G->M Bool}{me:G->M D}{items:List D}(any:Bool) (p:D->Bool) (f:D->Bool) (hi:mi γ=pure (.con items)) (hl:items.length<=1000000)
 (hd:∀d∈items,∃γ1,g d (capG cap γ)=pure γ1/\k γ1=pure (p d)/\(p d=true->me γ1=pure (.bl (f d)))):clE (Z7 (fAll any) (z7 (z0j cap mi g k me) aNil)) γ=pure (.bl (if any then (items.filter p).any f else (items.filter p).all f)):=by
 rw[zT0 (bs:=(items.filter p).map f) any (by rw[zf8 p (λd=>.bl (f d)) hi hl hd,K1h];rfl) (by rw[K0d];exact K0q (K10 _ _) hl)];cases any<;>simp[K80]
theorem z7T {cap:List (Option Nat)}{g:D->G->M G}{k:G->M Bool}{me:G->M D}{items:List D}(p:D->Bool) (f:D->D) (hi:mi γ=pure (.con items)) (hl:items.length<=1000000)
 (hd:∀d∈items,∃γ1,g d (capG cap γ)=pure γ1/\k γ1=pure (p d)/\(p d=true->me γ1=pure (f d))) (c:y8 0 ((items.filter p).map f)=true):clE (Z7 J7 (z7 (z0j cap mi g k me) aNil)) γ=pure (.tup ((items.filter p).map f)) :=
 zY6 (zf8 p f hi hl hd) (by rw[K0d];exact K0q (K10 _ _) hl) c
theorem filter_tt {l:List α}:l.filter (λ_=>true)=l:=by induction l<;>simp_all
theorem z35 {mb:G->M Out}(e:mb (z16 n ds)=pure (.rt d)):runF n mb ds=pure d:=by unfold runF;rw[e];rfl
theorem ix0 {a:D}{r:List D}:fIx (.tup (a::r)) (.int 0)=pure a:=ix_tup (by simp[atI,ixN])
theorem ix1 {a b:D}{r:List D}:fIx (.tup (a::b::r)) (.int 1)=pure b:=ix_tup (z1n (j:=1) rfl)
theorem zA2 {x y:Str}:fEq b (.str x) (.str y)=pure (.bl (decide (x=y) != b)):=rfl
theorem zM9:((2:Nat)<=sizeLine)=True:=by simp[sizeLine]
structure SQ (st:List (List Nat)):Prop where
 l1:1<=st.length
 l2:st.length<=40
 s2:∀l∈st,∀x∈l,x<st.length
def nx (st:List (List Nat)) (a:Nat):List Nat:=(st[a]?).getD []
inductive Rch (st:List (List Nat)) (x:Nat):Nat->Prop
 | here:Rch st x x
 | step {a b:Nat}:Rch st x a->b∈nx st a->Rch st x b
theorem zM5 (q:SQ st){b:Nat}(h:b∈nx st a):b<st.length:=by
 unfold nx at h;cases e:st[a]? with
 | none=>rw[e]at h;cases h
 | some l =>
  rw[e]at h;exact q.s2 l (K0s e) b h
theorem z17 (st:List (List Nat)):(stsD st).length=st.length:=by unfold stsD;simp
theorem zL6 (ha:a<st.length):atI (stsD st) (a:Int)=.(g ((stD (nx st a)))):=by
 refine z1n ?_;unfold stsD nx;rw[K0i,K9 ha];rfl
theorem z4T:fIx .(7) (.int 0)=pure (.tup (stsD st)):=ix_tup rfl
theorem zw7:fIx .(7) (.int 1)=pure (.tup (mksD mk)):=ix_tup rfl
theorem zj8 (ha:a<st.length):fIx (.tup (stsD st)) (.int a)=pure (.tup (stD (nx st a))):=ix_tup (zL6 ha)
theorem zj7:∀l:List Nat,(stD l).all z1a=true
 | []=>rfl
 | _::l=>zj7 l
theorem zv3 (x:Nat):∀l:List Nat,((stD l).any λz=>eqF z (.int x))=decide (x∈l)
 | []=>by simp[stD]
 | b::l=>by
  rw[show stD (b::l)=.int b::stD l from rfl,K2n,zv3 x l];simp only[eqF];rw[K0o];simp only[K2o,beq_iff_eq,decide_eq_true_eq,K0y];constructor
  ·rintro(h|h)
   ·left;omega
   ·exact .inr h
  ·rintro(h|h)
   ·left;omega
   ·exact .inr h
theorem zW3:fIn neg (.int x) (.tup (stD l))=pure (.bl (decide (x∈l) != neg)):=by
 unfold fIn seqD;show (if z1a (.int x)&&(stD l).all z1a then _ else _)=_;rw[zj7,zv3];rfl
theorem y6 (l:List Nat):(stD l).length=l.length:=by unfold stD;simp
theorem z48 (hl:l.Pairwise (·<·)) (hm:∀x∈l,x<n):l.length<=n:=by
 have nd:l.Nodup:=List.Pairwise.imp (λh=>K0u h) hl;have:=nd.length_le_of_subset (l₂:=K0m n) (λx hx=>K18.mpr (hm x hx));rwa [K1q]at this
def zN (l:List Nat):List Int:=l.map λ(i:Nat)=>(i:Int)
def kN (l:List Nat):List Key:=l.map λ(i:Nat)=>.inl (i:Int)
def Y1 (l:List Nat):List Nat:=(sortI (zN l)).map K9s
theorem z7G:∀l:List Nat,z6E (kN l)=some (zN l)
 | []=>rfl
 | a::l=>by
  show (z6E (kN l)).map _=_;rw[z7G l];rfl
theorem z4m:∀l:List Nat,z43 (stD l)=some (zN l)
 | []=>rfl
 | a::l=>by
  show (z43 (stD l)).map _=_;rw[z4m l];rfl
theorem z4A (l:List Nat):(sortI (zN l)).map D.int=stD (Y1 l):=by
 unfold Y1 stD;rw[K1h];refine K3t λa ha=>?_;have:a∈zN l:=(sortI_perm _).mem_iff.mp ha;obtain⟨i,_,rfl⟩:=K1g.mp this;rfl
theorem z3C (l:List Nat):(Y1 l).Perm l:=by
 have:=(sortI_perm (zN l)).map K9s;refine this.trans ?_;unfold zN;rw[K1h];rw[show (K9s ∘ λ(i:Nat)=>(i:Int))=id from funext λi=>rfl,Z2l]
theorem z1l (nd:l.Nodup):(Y1 l).Pairwise (·<·):=by
 have s:(Y1 l).Pairwise (·<=·):=by
  unfold Y1;rw[K84];exact(z8d _).imp λ{a b} h=>by omega
 have n:(Y1 l).Nodup:=(z3C l).nodup_iff.mpr nd;exact(Z1s s n).imp λ{a b} q=>by omega
theorem sortN_mem:x∈Y1 l↔x∈l:=(z3C l).mem_iff
theorem z2y (l:List Nat):(Y1 l).length=l.length:=(z3C l).length_eq
theorem kN_mem:(K1j (x:Int):Key)∈kN l↔x∈l:=by
 unfold kN;constructor
 ·intro h;obtain⟨i,hi,e⟩:=K1g.mp h;have:i=x:=by have:=Z39 e;omega
  exact this ▸ hi
 ·exact λh=>K1g.mpr ⟨x,h,rfl⟩
theorem zj5 (l:List Nat):(kN l).length=l.length:=by unfold kN;simp
theorem zu6 (h:x∉l):putK (kN l) (.inl (x:Int))=kN (l++[x]):=by
 unfold putK;rw[if_neg (λq=>h (kN_mem.mp q))];unfold kN;simp
theorem z0Y (nd:S.Nodup) (hm:∀x∈S,x<n):S.length<=n:=by
 have:=nd.length_le_of_subset (l₂:=K0m n) (λx hx=>K18.mpr (hm x hx));rwa [K1q]at this
theorem z0G (nd:S.Nodup) (h:x∉S):(S++[x]).Nodup:=by
 rw[K1c];refine⟨nd,by simp,λa ha b hb=>?_⟩;simp at hb;subst hb;exact λe=>h (e ▸ ha)
theorem z19 (l:List Nat) (x:Nat):stD l++[.int x]=stD (l++[x]):=by unfold stD;simp
theorem z2w (h:(stD l)[i]?=some d):∃b:Nat,d=.int b/\l[i]?=some b:=by
 unfold stD at h;rw[K0i]at h;obtain⟨b,e1,e2⟩:=K16.mp h;exact⟨b,e2.symm,e1⟩
theorem zk6 {cap:List (Option Nat)}{g:D->G->M G}{k:G->M Bool}{me:G->M D}(p:D->Bool) (f:D->D) (hi:mi γ h=.ok src h1) (hg:∀j,src.good (h1++j)) (hl:src.items.length<=1000000)
 (hd:∀d∈src.items,∃γ1,g d (capG cap γ)=pure γ1/\k γ1=pure (p d)/\(p d=true->me γ1=pure (f d))):z0j cap mi g k me γ h=newL ((src.items.filter p).map f) h1:=by
 rw[<- z93 (mi:=λ_=>pure src) (cap:=cap) (γ:=γ) p f rfl hg hl hd];unfold z0j;rw[M.bind_ok hi];rfl
section
variable {k:G->M Bool}{ms mr:G->M Out}{γ':G}{Q:Out->AH->Prop}
theorem z7b (d:D) (γ':G) (e:ma γ=pure d) (eg:g d γ=pure γ') (z:W (mt γ') h Q):W (z9 (sAsg ma g) mt γ) h Q:=by
 rw[w_cons];unfold sAsg;rw[e,x6,eg,x6,W_pure];exact z
theorem w8 (d:D) (γ':G) (e:ma γ h=.ok d h1) (eg:g d γ=pure γ') (z:W (mt γ') h1 Q):W (z9 (sAsg ma g) mt γ) h Q:=by
 rw[w_cons];unfold sAsg;rw[Z5];refine W.of e ?_;rw[eg,x6,W_pure];exact z
theorem z4s (z:W (ma γ) h λd h1=>W (mt (γ.set i (some d))) h1 Q):W (z9 (sAsg ma (gN i)) mt γ) h Q:=by
 rw[w_cons];unfold sAsg gN;rw[Z5];refine z.mono λd h1 q=>?_;rw[x6,W_pure];exact q
theorem q_if (b:Bool) (e:k γ=pure b) (z:W (z9 (if b=true then ms else mr) mt γ) h Q):W (z9 (sIf k ms mr) mt γ) h Q:=by
 rw[w_cons]at z ⊢;unfold sIf;rw[e,x6];cases b<;>exact z
theorem z2r (b:Bool) (e:k γ h=.ok b h) (z:W (z9 (if b=true then ms else mr) mt γ) h Q):W (z9 (sIf k ms mr) mt γ) h Q:=by
 rw[w_cons]at z ⊢;unfold sIf;rw[Z5];refine W.of e ?_;cases b<;>exact z
theorem zZ2 (z:W (k γ) h λb h1=>W (z9 (if b=true then ms else mr) mt γ) h1 Q):W (z9 (sIf k ms mr) mt γ) h Q:=by
 rw[w_cons];unfold sIf;rw[Z5];refine z.mono λb h1 q=>?_;rw[w_cons]at q;cases b<;>exact q
theorem zo3 (d:D) (e:ma γ=pure d) (z:Q (.rt d) h):W (z9 (sRet ma) mt γ) h Q:=by
 rw[w_cons];unfold sRet;rw[e,x6,W_pure];exact z
theorem Y2 (d:D) (e:ma γ h=.ok d h1) (z:Q (.rt d) h1):W (z9 (sRet ma) mt γ) h Q:=by
 rw[w_cons];unfold sRet;rw[Z5];refine W.of e ?_;rw[W_pure];exact z
theorem zv7 (z:W (ma γ) h λd h1=>Q (.rt d) h1):W (z9 (sRet ma) mt γ) h Q:=by
 rw[w_cons];unfold sRet;rw[Z5];refine z.mono λd h1 q=>?_;rw[W_pure];exact q
theorem z3T (z:W (ma γ) h λd h1=>W (mt γ) h1 Q):W (z9 (z0p ma) mt γ) h Q:=by
 rw[w_cons];unfold z0p;rw[Z5];refine z.mono λd h1 q=>?_;rw[W_pure];exact q
theorem z0f (z:W (mt γ) h Q):W (z9 bNil mt γ) h Q:=by rw[w_cons,z78];exact z
theorem y4 (z:Q (.nx γ) h):W (bNil γ) h Q:=by rw[z78];exact z
theorem zz7 {l:G->M Bool}(e:k γ h=.ok true h):cAnd k l γ h=l γ h:=by unfold cAnd;rw[M.bind_ok e];rfl
theorem zD8 {l:G->M Bool}(e:k γ h=.ok false h):cAnd k l γ h=.ok false h:=by unfold cAnd;rw[M.bind_ok e];rfl
theorem zT9 {l:G->M Bool}(e:k γ h=.ok true h):cOr k l γ h=.ok true h:=by unfold cOr;rw[M.bind_ok e];rfl
theorem zR4 {l:G->M Bool}(e:k γ h=.ok false h):cOr k l γ h=l γ h:=by unfold cOr;rw[M.bind_ok e];rfl
theorem z9J (d:D) (e:ma γ=pure d):z9 (sRet ma) mt γ=pure (.rt d):=by
 unfold z9 sRet;rw[e,x6,x6]
theorem z1u {ms1 ms2:G->M Out}(z:W (z9 ms1 (z9 ms2 mt) γ) h Q):W (z9 (z9 ms1 ms2) mt γ) h Q:=by
 rw[w_cons]at z ⊢;rw[w_cons];refine z.mono λo h1 q=>?_;cases o with
 | nx γ=>exact w_cons.mp q
 | rt d=>exact q
 | bk d=>exact q
 | ct d=>exact q
end
theorem z6o {i j:Int}:fEqX neg (.int i) (.int j)=pure (.bl (decide (i=j) != neg)):=by
 funext h;show Res.ok (D.bl ((i==j) != neg)) h=_;have:(i==j)=decide (i=j):=by rw[K0o];simp
 rw[this];rfl
theorem zH7 {x:Str}{l:List Str}:fIn neg (.str x) (.tup (l.map .str))=pure (.bl (decide (x∈l) != neg)):=by
 unfold fIn seqD;show (if z1a (.str x)&&(l.map D.str).all z1a then _ else _)=_;rw[z3r,z5x];rfl
def rp (n:Nat) (l:List Nat):List Nat:=(K0g n l).flatten
theorem zN0 {b:Nat}(hb:0<b) (h:b<=1000000):fDiv (.int (a:Nat)) (.int (b:Nat))=pure (.int (a / b:Nat)):=by
 rw[div_ii (show (0:Int)<b by omega) (show (b:Int)<1073741824 by omega),Int.natCast_ediv]
theorem zY2 {b:Nat}(hb:0<b):fMod (.int (a:Nat)) (.int (b:Nat))=pure (.int (a % b:Nat)):=by
 rw[zY0 (show (0:Int)<b by omega),Int.natCast_emod]
theorem zU1 (p r:List Nat):stD p++stD r=stD (p++r):=by unfold stD;simp
theorem z8J (h:d∈stD l):∃x,x∈l/\d=.int (x:Nat):=by
 obtain⟨x,hx,rfl⟩:=K1g.mp h;exact⟨x,hx,rfl⟩
def numD:D->Nat
 | .int i=>i.toNat
 | _=>0
theorem zD6 (l:List Nat) (f:Nat->Bool):(stD l).any (λd=>f (numD d))=l.any f:=by unfold stD;rw[K8t];rfl
theorem z4F (l:List Nat) (f:Nat->Bool):((stD l).filter (λd=>f (numD d))).map (λd=>d)=stD (l.filter f):=by
 unfold stD;rw[K53,List.map_id'];rfl
def CL (r:AH):Prop:=True
theorem CL.nil:CL []:=trivial
theorem CL.app (a:CL r) (b:CL j):CL (r++j):=trivial
theorem CL.one (h:y8 3 xs=true):CL [.lst xs]:=trivial
theorem CL.put (a:CL r) (h:y8 3 xs=true):CL (r++[.lst xs]):=a.app (.one h)
theorem z2m (l:List Str):y8 n (l.map .str)=true:=J9 λ_=>rfl
theorem z6Z (l:List Int):y8 n (l.map .int)=true:=J9 λ_=>rfl
theorem z1K (l:List Nat):y8 n (stD l)=true:=J9 λ_=>rfl
theorem z15 (l:List Nat):J2 n (.tup (stD l))=true:=by simp only[J2];exact z1K l
theorem zi4 {s c:Int}:(Pool gr sm s c (r++j)).take (r.length+3)=Pool gr sm s c r:=by
 unfold Pool;simp
theorem zd0 {gr' sm':List Int}{s c s' c':Int}:Kept (Pool gr sm s c r) (Pool gr' sm' s' c' (r++j)):=λi o li e=>by
 have l3:(Pool gr sm s c r).length=r.length+3:=rfl;rw[l3]at li ⊢
 match i,e with
 | 0,e=>cases e;exact .inr (z6Z _)
 | 1,e=>cases e;exact .inr (z6Z _)
 | 2,e=>cases e;exact .inr (by simp[refO,y8,J2])
 | i+3,e =>
  left;have e:(r++j)[i]?=some o:=e;rw[K11 .(1)]at e;exact e
theorem z8D {k k':Int}(p:PS h k r) (q:CL r) (p1:PS h1 k' (r++j)):(h.length<=h1.length/\Kept h h1)/\PS (h1.take h.length) k' r:=by
 have l:=p.len;have l1:=p1.len;obtain⟨gr,sm,s,c,rfl,g⟩:=p1;obtain⟨gr0,sm0,s0,c0,rfl,g0⟩:=p;refine⟨⟨by rw[K3]at l1;omega,zd0⟩,?_⟩;rw[show (Pool gr0 sm0 s0 c0 r).length=r.length+3 from rfl,zi4];exact⟨gr,sm,s,c,rfl,g⟩
theorem zh6 {m:M D}{k:Int}(p:PS h k r) (q:CL r) (z:W m h λd h1=>∃k' j,PS h1 k' (r++j)/\J2 3 d=true/\∀h2,PS h2 k' r->Q d h2):W (cln m) h Q:=by
 obtain⟨d,h1,e,k',j,p1,rd,f⟩:=z;obtain⟨c1,c2⟩:=z8D p q p1;refine⟨d,h1.take .(g),?_,f _ c2⟩;unfold cln;rw[e];dsimp only;rw[if_pos c1,if_pos (z4d (by rw[p.len];omega) rd)]
theorem zY5 {m:M D}{k:Int}(p:PS h k r) (q:CL r) (z:W m h λd h1=>∃k' j i xs,d=.ref (i+3)/\PS h1 k' (r++j)/\r.length<=i/\(r++j)[i]?=.(l xs)/\y8 3 xs=true/\∀h2,PS h2 k' (r++[.lst xs])->Q (.ref (r.length+3)) h2):W (cln m) h Q:=by
 obtain⟨d,h1,e,k',j,i,xs,rfl,p1,hi,ei,rd,f⟩:=z;obtain⟨c1,c2⟩:=z8D p q p1;have l:=p.len;refine⟨.ref (r.length+3),h1.take .(g)++[.lst xs],?_,f _ (c2.app _)⟩;unfold cln;rw[e];dsimp only;rw[if_pos c1,if_neg (by simp only[J2,decide_eq_true_eq];omega),p1.get,ei];dsimp only;rw[if_pos (show refO .(g) (.lst xs)=true from z2z .(1) rd),l]
theorem zl3 {k:Int}(p:PS h k r) (q:CL r) (z:W (m γ) h λd h1=>∃k' j,PS h1 k' (r++j)/\J2 3 d=true/\∀h2,PS h2 k' r->Q d h2):W (clE m γ) h Q:=zh6 p q z
section
variable {k:Int}{l:AH}{v:D}
theorem at_E:(r++l)[r.length+i]?=l[i]?:=by rw[K0e .(1)];congr 1;omega
theorem Z02:(r++l).set (r.length+i) o=r++l.set i o:=by
 rw[K0t _ _ .(1)];congr 2;omega
theorem z8j {Q:List D->AH->Prop}(p:PS h k (r++l)) (e:l[i]?=.(l xs)) (q:Q xs h):W (getL (r.length+i+3)) h Q:=z6e p (by rw[at_E];exact e) q
theorem z9P (p:PS h k (r++l)) (hl:xs.length<=1000000) (z:∀h',PS h' k (r++(l++[.lst xs]))->Q (.ref (r.length+l.length+3)) h'):W (newL xs) h Q :=
 z5c p hl λh' p'=>by rw[K05]at p';have:=z h' p';rwa [K3]
theorem zc1 (p:PS h k (r++l)) (e:l[i]?=.(l xs)) (hl:xs.length<1000000) (z:∀h',PS h' k (r++l.set i (.lst (xs++[v])))->Q .non h'):W (j8 (r.length+i+3) v) h Q :=
 z80 p (by rw[at_E];exact e) hl λh' p'=>z h' (by rw[Z02]at p';exact p')
theorem zU2 {j:Int}(p:PS h k (r++l)) (e:l[i]?=.(l xs)) (a:atI xs j=some d) (q:Q d h):W (fIx (.ref (r.length+i+3)) (.int j)) h Q:=zO7 p (by rw[at_E];exact e) a q
theorem zt5 (p:PS h k (r++l)) (e:l[i]?=.(l xs)) (q:Q (.int xs.length) h):W (fLen [.ref (r.length+i+3)]) h Q:=zO3 p (by rw[at_E];exact e) q
theorem z59 (p:PS h k (r++l)) (e:l[i]?=.(l xs)) (q:Q (.tup xs) h):W (J7 [.ref (r.length+i+3)]) h Q:=by
 have ft:∀i:Nat,J7 [.ref i]=(do let x <- getL i;pure (.tup x)):=λ_=>rfl;rw[ft,Z5];refine z8j p e ?_;rw[W_pure];exact q
theorem zn9 {Q:Nat->AH->Prop}(p:PS h k (r++l)) (e:l[i]?=.(l xs)) (q:Q (r.length+i+3) h):W (z3H (.ref (r.length+i+3))) h Q:=by
 rw[z5B];exact z8j p e q
theorem zM1 {j:Nat}(p:PS h k (r++l)) (e:l[i]?=.(l xs)) (e2:(r++l)[j]?=.(l ys)) (hl:xs.length+ys.length<=1000000) (z:∀h',PS h' k (r++(l++[.lst (xs++ys)]))->Q (.ref (r.length+l.length+3)) h'):W (fAdd (.ref (r.length+i+3)) (.ref (j+3))) h Q:=by
 show W (getL _ >>= λx=>getL _ >>= λy=>newL (x++y)) h Q;rw[Z5];refine z8j p e ?_;rw[Z5];refine z6e p e2 ?_;exact z9P p (by simpa using hl) z
end
theorem z2l {Q:Out->AH->Prop}(J:D->AH->Prop) (z:W (ma γ) h J) (f:∀d h1,J d h1->W (mt (γ.set i (some d))) h1 Q):W (z9 (sAsg ma (gN i)) mt γ) h Q:=z4s (z.mono f)
theorem zu7 {Q:Out->AH->Prop}(J:D->AH->Prop) (z:W (ma γ) h J) (f:∀d h1,J d h1->Q (.rt d) h1):W (z9 (sRet ma) mt γ) h Q:=zv7 (z.mono f)
theorem zw9 {me:G->M D}{mt:G->M Out}{k:Int}{l:AH}{Q:Out->AH->Prop}(ea:γ[a]?=some (.(r (r.length+i+3)))) (p:PS h k (r++l)) (e:l[i]?=.(l xs)) (hl:xs.length<1000000) (J:D->Int->Prop)
 (z:W (me γ) h λv h1=>∃k',PS h1 k' (r++l)/\J v k') (f:∀v k' h2,J v k'->PS h2 k' (r++l.set i (.lst (xs++[v])))->W (mt γ) h2 Q):W (z9 (z0p (eM1 j8 (eVar a) me)) mt γ) h Q:=by
 refine z3T ?_;unfold eM1;rw[Z5];refine W_eq (v:=.ref (r.length+i+3)) (by unfold eVar;rw[ea]) ?_;rw[Z5];refine zn9 p e ?_;rw[Z5];refine z.mono λv h1 ⟨k',p1,j⟩=>?_;exact zc1 p1 e hl λh2 p2=>f v k' h2 j p2
theorem zj9 {cap:List (Option Nat)}{mi:G->M Src}{g:D->G->M G}{kk:G->M Bool}{me:G->M D}{γ:G}{h:AH}{r l:AH}{Q:D->AH->Prop}(J:Nat->List D->Int->Prop)
 (hs:W (mi γ) h λsrc h1=>∃k,PS h1 k (r++l)/\J 0 [] k/\(∀h k xs,PS h k (r++(l++[.lst xs]))->src.good h) /\
  (∀i d h k xs,src.items[i]?=some d->J i xs k->PS h k (r++(l++[.lst xs]))->W (g d (capG cap γ)) h λγ1 h1'=>W (kk γ1) h1' λt h2=>if t=true then W (me γ1) h2 λv h3=>∃k',PS h3 k' (r++(l++[.lst xs]))/\xs.length<1000000/\J (i+1) (xs++[v]) k' else ∃k',PS h2 k' (r++(l++[.lst xs]))/\J (i+1) xs k') /\
  ∀h' xs k,J src.items.length xs k->PS h' k (r++(l++[.lst xs]))->Q (.ref (r.length+l.length+3)) h'):W (z0j cap mi g kk me γ) h Q:=by
 refine zv6 ?_;refine hs.mono λsrc h1 ⟨k,p1,j0,good,st,fin⟩=>?_;have l1:h1.length=r.length+l.length+3:=by rw[p1.len,K3]
 refine⟨λi h'=>∃xs k,J i xs k/\PS h' k (r++(l++[.lst xs])),⟨[],k,j0,by rw[<- K05];exact p1.app _⟩,λi h' ⟨xs,k,_,p⟩=>good h' k xs p,?_,?_⟩
 ·rintro i d h2 hd ⟨xs,k,jx,p2⟩;refine(st i d h2 k xs hd jx p2).mono λγ1 h3 w3=>w3.mono λt h4 w4=>?_;cases t with
  | false=>rw[if_neg (by decide)]at w4 ⊢;obtain⟨k',p4,j4⟩:=w4;exact⟨xs,k',j4,p4⟩
  | true =>
   rw[if_pos rfl]at w4 ⊢;refine w4.mono λv h5 ⟨k',p5,lx,j5⟩=>?_;rw[l1,show r.length+l.length+3=r.length+l.length+3 from rfl];refine zc1 (i:=l.length) p5 .(f) lx λh6 p6=>?_;refine⟨_,k',j5,?_⟩;rw[K0t _ _ (K04 _),K32]at p6;exact p6
 ·rintro h2 ⟨xs,k,jx,p2⟩;rw[l1];exact fin h2 xs k jx p2
def lkD (kvs:List (Key×D)) (k:Key):Option D:=(kvs.find? λkv=>decide (kv.1=k)).map (·.2)
def ptD (kvs:List (Key×D)) (k:Key) (v:D):List (Key×D) :=
 if (kvs.any λkv=>decide (kv.1=k))=true then kvs.map (λkv=>if kv.1=k then (kv.1,v) else kv) else kvs++[(k,v)]
theorem RK.len:∀{kvs:List (Key×D)}{vs:List (Key×V)},RK K ρ H kvs vs->kvs.length=vs.length
 | _,_,.nil=>rfl
 | _,_,.cons _ b=>by simp[RK.len b]
theorem RK.lk (k:Key):∀{kvs:List (Key×D)}{vs:List (Key×V)},RK K ρ H kvs vs->(lkD kvs k=none/\valV vs k=none)\/∃d v,lkD kvs k=some d/\valV vs k=some v/\RD K ρ H d v
 | _,_,.nil=>.inl ⟨rfl,rfl⟩
 | p::kvs,q::vs,.cons a b=>by
  by_cases e:p.1=k
  ·refine .inr ⟨p.2,q.2,by simp[lkD,K2y,e],z47 (a.1.symm.trans e),a.2⟩
  ·rw[z4g (λz=>e (a.1.trans z))];have:lkD (p::kvs) k=lkD kvs k:=by simp[lkD,K2y,e]
   rw[this];exact RK.lk k b
theorem RK.any (k:Key):∀{kvs:List (Key×D)}{vs:List (Key×V)},RK K ρ H kvs vs->(kvs.any λkv=>decide (kv.1=k))=vs.any λkv=>decide (kv.1=k)
 | _,_,.nil=>rfl
 | _,_,.cons a b=>by rw[K2n,K2n,RK.any k b,a.1]
theorem RK.rep (k:Key) {d:D}{v:V}(r:RD K ρ H d v):∀{kvs:List (Key×D)}{vs:List (Key×V)},RK K ρ H kvs vs->RK K ρ H (kvs.map (λkv=>if kv.1=k then (kv.1,d) else kv)) (vs.map (λkv=>if kv.1=k then (kv.1,v) else kv))
 | _,_,.nil=>.nil
 | p::kvs,q::vs,.cons a b=>by
  rw[K0v,K0v];refine .cons ?_ (RK.rep k r b);by_cases e:p.1=k
  ·rw[if_pos e,if_pos (a.1.symm.trans e)];exact⟨a.1,r⟩
  ·rw[if_neg e,if_neg (λz=>e (a.1.trans z))];exact a
theorem RK.snoc {k:Key}{d:D}{v:V}(r:RD K ρ H d v):∀{kvs:List (Key×D)}{vs:List (Key×V)},RK K ρ H kvs vs->RK K ρ H (kvs++[(k,d)]) (vs++[(k,v)])
 | _,_,.nil=>.cons ⟨rfl,r⟩ .nil
 | _,_,.cons a b=>.cons a (RK.snoc r b)
theorem RK.put (k:Key) (r:RD K ρ H d v) (q:RK K ρ H kvs vs):RK K ρ H (ptD kvs k d) (L2.putK vs k v):=by
 unfold ptD L2.putK;rw[q.any k];split
 ·exact q.rep k r
 ·exact q.snoc r
theorem za3 {k:Key}(e:keyD d=some k) (r:RD K ρ H d v):v=kV k:=by
 cases d<;>simp only[keyD]at e<;>first|(cases e;simp only[RD]at r;exact r)|cases e
def getK (n:Nat):M (List (Key×D)):=λh=>match h[n]? with
 | some (.dK kvs)=>.ok kvs h
 | some (.dF kvs)=>.ok kvs h
 | _=>.bad
def newK (kvs:List (Key×D)):M D:=λh=>if kvs.length<=sizeLine then .ok (.ref h.length) (h++[.dK kvs]) else .bad
def dicD:D->M (List (Key×D))
 | .ref n=>getK n
 | _=>bad
def z1N:D->D->M D:=λx y=>do
 let kvs <- dicD x
 match keyD y with
 | some k=>(match lkD kvs k with
  | some d=>pure d
  | none=>bad)
 | none=>bad
def fInD (neg:Bool):D->D->M D:=λy x=>do
 let kvs <- dicD x
 match keyD y with
 | some k=>pure (.bl ((lkD kvs k).isSome != neg))
 | none=>bad
def z3i:D->D->D->M Unit:=λo i v=>match o with
 | .ref n=>(match keyD i with
  | some k=>λh=>match h[n]? with
   | some (.dK kvs)=>if kvs.length<sizeLine then .ok () (h.set n (.dK (ptD kvs k v))) else .bad
   | _=>.bad
  | none=>bad)
 | _=>bad
def gDx (mo mi:G->M D):D->G->M G:=λv γ=>do
 let o <- mo γ;let i <- mi γ;let _ <- z3i o i v
 pure γ
section
variable {a o i f:Expr}{apos cpos:Pos}{mo mi:G->M D}
theorem z5w {x:D}{u:V}(r:RH K ρ h H) (rx:RD K ρ H x u) (fin:Fin K EX ρ H Z (dicD x h)):∃n a kvs vs,x=.ref n/\u=.ref a/\ρ[n]?=some a/\(h[n]?=some (.dK kvs)\/h[n]?=some (.dF kvs))/\Rd H a (.dK vs)/\RK K ρ H kvs vs/\Z kvs ρ h H:=by
 cases x<;>first|exact(show False from fin).elim|skip
 rename_i n;simp only[RD]at rx;obtain⟨a,rfl,hq⟩:=rx;unfold dicD getK at fin;dsimp only at fin;cases e:h[n]? with
 | none=>rw[e]at fin;exact fin.elim
 | some ob =>
  cases ob with
  | lst xs=>rw[e]at fin;exact fin.elim
  | set xs=>rw[e]at fin;exact fin.elim
  | dct=>rw[e]at fin;exact fin.elim
  | exc c=>rw[e]at fin;exact fin.elim
  | ins _ _=>rw[e]at fin;exact fin.elim
  | dK kvs =>
   rw[e]at fin;obtain⟨a1,n1,vs,o1,d1⟩:=r.at e;rw[hq]at n1;cases n1;exact⟨n,a,kvs,vs,rfl,rfl,hq,.inl e,.inl o1,d1,fin ρ H .(9) .(a) r⟩
  | dF kvs =>
   rw[e]at fin;obtain⟨a1,n1,ob,vs,o1,d1⟩:=r.at e;rw[hq]at n1;cases n1;exact⟨n,a,kvs,vs,rfl,rfl,hq,.inr e,.inr ⟨ob,o1⟩,d1,fin ρ H .(9) .(a) r⟩
theorem zQ3:SE X EX (.Dict [] [] pos) (λ_=>newK []) :=
 ⟨PE.imp zs6 λσ H Q ⟨ρ,γ,h,rel,fin⟩ p hp=>by
  unfold newK at fin;dsimp only at fin;rw[if_pos (show ([]:List (Key×D)).length<=sizeLine from K3y _)]at fin;refine fin (ρ++[p]) _ (Pre.app _ _) (Ext.upd (.inl hp)) (rel.h.pushO hp ⟨[],J6,.nil⟩) _ ?_;simp only[RD];refine⟨p,rfl,?_⟩;rw[<- rel.h.len];simp⟩
theorem z2q (hu:X.A.units+1<cLine) (ha:SE X EX o mo) (hb:SE X EX i mi) (hs:NoSl i:=by intro _ _;rfl):SE X EX (.Subscript o i pos) (e2 z1N mo mi) :=
 ⟨PE.imp (zC2 hu ha.h hb.h hs) λσ H Q ⟨ρ,γ,h,rel,fin⟩=>⟨ρ,γ,h,rel,(Fin.bind fin).mono λx ρ1 h1 H1 p1 e1 r1 f1 v rv=>⟨ρ1,γ,h1,⟨rel.g.mono p1 e1,r1⟩,(Fin.bind f1).mono λy ρ2 h2 H2 p2 e2 r2 f2 w rw'=>by
  obtain⟨n,ad,kvs,vs,rfl,rfl,hn,hk,hH,rk,f3⟩:=z5w r2 (rv.mono p2 e2) (Fin.bind f2);cases ek:keyD y with
  | none=>rw[ek]at f3;exact f3.elim
  | some k =>
   rw[ek]at f3;have:=za3 ek rw';subst this;rcases rk.lk k with ⟨z1,_⟩|⟨d,u,z1,z2,rd⟩
   ·dsimp only at f3;rw[z1]at f3;exact f3.elim
   ·dsimp only at f3;rw[z1]at f3;refine⟨ad,u,rfl,?_,FE.here f3 r2 rd⟩;rw[<- z2];exact .inl ⟨vs,k,hH,rfl,rfl⟩⟩⟩⟩
def rInD (neg:Bool):R2:=λy x H Q=>∃ad ov,x=.ref ad/\DGet H ad y ov/\Q (.bl (ov.isSome != neg)) H
theorem zT1 (hu:X.A.units+1<cLine):OpR X (K2f .In) (rInD false):=by
 intro pins s σ H x y v u Q I rx ry h;obtain⟨ad,ov,rfl,g,q⟩:=h;cases ry;rw[K1z]at q;exact d_in hu I g rx λs' I'=>⟨.bl _,H,I',rfl,q⟩
theorem zx6 (hu:X.A.units+1<cLine):OpR X (K2f .NotIn) (rInD true):=by
 intro pins s σ H x y v u Q I rx ry h;obtain⟨ad,ov,rfl,g,q⟩:=h;cases ry;rw[K58]at q;exact zE9 hu I g rx λs' I'=>⟨.bl _,H,I',rfl,q⟩
theorem zt3:BR X.K EX (rInD neg) (fInD neg):=by
 intro ρ h H y x w v Q r ry rx fin;obtain⟨n,ad,kvs,vs,rfl,rfl,hn,hk,hH,rk,f3⟩:=z5w r rx (Fin.bind fin);cases ek:keyD y with
 | none=>rw[ek]at f3;exact f3.elim
 | some k =>
  rw[ek]at f3;have:=za3 ek ry;subst this;refine⟨ad,valV vs k,rfl,.inl ⟨vs,k,hH,rfl,rfl⟩,?_⟩;have:(valV vs k).isSome=(lkD kvs k).isSome:=by
   rcases rk.lk k with ⟨z1,z2⟩|⟨d,u,z1,z2,_⟩<;>rw[z1,z2]<;>rfl
  rw[this];exact FE.here f3 r (by simp[RD])
theorem z88 (hu:X.A.units+1<cLine):CO X EX .In (fInD false):=⟨_,zT1 hu,zt3⟩
theorem z7k (hu:X.A.units+1<cLine):CO X EX .NotIn (fInD true):=⟨_,zx6 hu,zt3⟩
def Z0e:V->V->V->Hp->(Hp->Prop)->Prop:=λo i v H Q=>∃ad H',o=.ref ad/\DPut H ad i v H'/\Q H'
theorem set_dict (hu:X.A.units+1<cLine):PSet X Z0e:=by
 intro pins s σ H o i v ov iv u Q I ro ri rv h;obtain⟨ad,H',rfl,g,q⟩:=h;cases ro;exact z9T hu I g ri rv λs' I'=>⟨H',I',q⟩
theorem zl1 (hu:X.A.units+1<cLine) (ho:SE X EX o mo) (hi:SE X EX i mi)
 (ha:∀v,assign (.Subscript o i pos) X.env v=(do
  let ov <- K36 [v] (eval o X.env);let iv <- K36 [v,ov] (eval i X.env)
  K4o pos
  K36 [v,ov,iv] (K9v ov iv v)
  Z2t [v,ov,iv] []):=by intro _;rfl):SG X EX (.Subscript o i pos) (gDx mo mi) :=
 ⟨PG.imp (zt9 ho.h hi.h (set_dict hu) ha) λv σ H Q ⟨ρ,γ,h,d,rel,rd,fin⟩=>⟨ρ,γ,h,rel,(Fin.bind fin).mono λod ρ1 h1 H1 p1 e1 r1 f1 ov ro=>⟨ρ1,γ,h1,⟨rel.g.mono p1 e1,r1⟩,(Fin.bind f1).mono λid ρ2 h2 H2 p2 e2 r2 f2 iv ri=>by
  have f3:=Fin.bind f2;cases od<;>first|exact(show False from f3).elim|skip
  rename_i n;unfold z3i at f3;dsimp only at f3;cases ek:keyD id with
  | none=>rw[ek]at f3;exact f3.elim
  | some k =>
   rw[ek]at f3;have:=za3 ek ri;subst this;simp only[RD]at ro;obtain⟨q,rfl,hq⟩:=ro;have hq2:=p2 n q hq;dsimp only at f3;cases e4:h2[n]? with
   | none=>rw[e4]at f3;exact f3.elim
   | some ob =>
    cases ob with
    | lst xs=>rw[e4]at f3;exact f3.elim
    | set ks=>rw[e4]at f3;exact f3.elim
    | dct=>rw[e4]at f3;exact f3.elim
    | exc c=>rw[e4]at f3;exact f3.elim
    | ins _ _=>rw[e4]at f3;exact f3.elim
    | dF c=>rw[e4]at f3;exact f3.elim
    | dK kvs =>
     rw[e4]at f3;dsimp only at f3;split at f3
     ·rename_i hl;obtain⟨a1,n1,vs,o1,d1⟩:=r2.at e4;rw[hq2]at n1;cases n1;have rv:=(rd.mono p1 e1).mono p2 e2;refine⟨q,_,rfl,DPut.k o1 (by rw[<- d1.len];exact hl),?_⟩;have ext:Ext X.K H2 (upd H2 q (.dK (L2.putK vs k v))):=Ext.upd (.inr ⟨_,o1,trivial⟩);have r3:RH X.K ρ2 (h2.set n (.dK (ptD kvs k d))) (upd H2 q (.dK (L2.putK vs k v))):=r2.setO e4 hq2 ⟨_,J6,(d1.put k rv).mono .(9) ext⟩;exact f3 ρ2 _ .(9) ext r3 ρ2 _ .(9) .(a) r3 σ (((rel.g.mono p1 e1).mono p2 e2).mono .(9) ext)
     ·exact f3.elim⟩⟩⟩
end
def orM (m n:M α):M α:=λh=>match m h with
 | .bad=>n h
 | r=>r
def orE (m n:G->M α):G->M α:=λγ=>orM (m γ) (n γ)
section
variable {tg:Expr}
theorem z8E (m n:M α) (h:AH):orM m n h=m h\/orM m n h=n h:=by
 unfold orM;cases m h with
 | bad=>exact .inr rfl
 | ok a b=>exact .inl rfl
 | err a b=>exact .inl rfl
theorem z7o {n:G->M D}(a:SE X EX e m) (b:SE X EX e n):SE X EX e (orE m n) :=
 ⟨λpins s σ H Q I ⟨ρ,γ,h,rel,fin⟩=>by
  rcases z8E (m γ) (n γ) h with z|z<;>rw[show orE m n γ h=orM (m γ) (n γ) h from rfl,z]at fin
  ·exact a.h pins s σ H Q I ⟨ρ,γ,h,rel,fin⟩
  ·exact b.h pins s σ H Q I ⟨ρ,γ,h,rel,fin⟩⟩
theorem Z06 {m n:G->M Src}(a:SI X EX tg e m) (b:SI X EX tg e n):SI X EX tg e (orE m n) :=
 ⟨λpins s σ H Q I ⟨ρ,γ,h,rel,fin⟩=>by
  rcases z8E (m γ) (n γ) h with z|z<;>rw[show orE m n γ h=orM (m γ) (n γ) h from rfl,z]at fin
  ·exact a.h pins s σ H Q I ⟨ρ,γ,h,rel,fin⟩
  ·exact b.h pins s σ H Q I ⟨ρ,γ,h,rel,fin⟩⟩
end
theorem or_l {m n:G->M α}{v:α}(e:m γ h=.ok v h1):orE m n γ h=.ok v h1:=by unfold orE orM;rw[e]
theorem or_r {m n:G->M α}(e:m γ h=.bad):orE m n γ h=n γ h:=by unfold orE orM;rw[e]
theorem W_of {m:M α}{v:α}{Q:α->AH->Prop}(e:m h=.ok v h1) (q:Q v h1):W m h Q:=⟨_,_,e,q⟩
def kvN (l:List Nat):List (Key×D):=l.map λ(i:Nat)=>(.inl (i:Int),.bl true)
theorem z7M (l:List Nat):(kvN l).length=l.length:=by unfold kvN;simp
theorem z7g (l:List Nat) (x:Nat):((kvN l).any λkv=>decide (kv.1=.inl (x:Int)))=decide (x∈l):=by
 induction l with
 | nil=>rfl
 | cons a l ih =>
  have:kvN (a::l)=(.inl (a:Int),.bl true)::kvN l:=rfl;rw[this,K2n,ih];by_cases e:a=x
  ·subst e;simp
  ·have h1:¬ (K1j (a:Int):Key)=.inl (x:Int):=λz=>e (by injection z with z;exact_mod_cast z);simp[h1,show ¬ x=a from λz=>e z.symm]
theorem zS5 (l:List Nat) (x:Nat):(lkD (kvN l) (.inl (x:Int))).isSome=decide (x∈l):=by
 unfold lkD;rw[K6d,List.isSome_find?];exact z7g l x
theorem ze8 (l:List Nat) (h:x∉l):ptD (kvN l) (.inl (x:Int)) (.bl true)=kvN (l++[x]):=by
 unfold ptD;rw[z7g,.(m) h];simp[kvN]
theorem z9a (e:h[n]?=some (.dK (kvN l))):fInD neg (.int x) (.ref n) h=.ok (.bl (decide (x∈l) != neg)) h:=by
 have e1:dicD (.ref n) h=.ok (kvN l) h:=by unfold dicD getK;dsimp only;rw[e]
 unfold fInD;rw[M.bind_ok e1];have:keyD (.int x)=some (.inl (x:Int)):=rfl;rw[this];show Res.ok (D.bl ((lkD (kvN l) (.inl (x:Int))).isSome != neg)) h=_;rw[zS5]
theorem zx0 (e:h[n]?=some (.dK (kvN l))) (hx:x∉l) (hl:l.length<1000):z3i (.ref n) (.int x) (.bl true) h=.ok () (h.set n (.dK (kvN (l++[x])))):=by
 have:keyD (.int x)=some (.inl (x:Int)):=rfl;unfold z3i;dsimp only;rw[this];dsimp only;rw[e];dsimp only;rw[if_pos (by rw[z7M];unfold sizeLine;omega),ze8 l hx]
def putN (acc:List Nat) (k:Nat):List Nat:=if k∈acc then acc else acc++[k]
def dedN (l:List Nat):List Nat:=l.foldl putN []
theorem putN_mem {a:List Nat}{k:Nat}:x∈putN a k↔x∈a\/x=k:=by
 unfold putN;split
 ·exact⟨.inl,λh=>h.elim id λe=>by subst e;assumption⟩
 ·simp
theorem zh1 {a:List Nat}{k:Nat}(h:a.Nodup):(putN a k).Nodup:=by
 unfold putN;split
 ·exact h
 ·exact z0G h ‹_›
theorem z8w {x:Nat}:∀{l a:List Nat},x∈l.foldl putN a↔x∈a\/x∈l
 | [],a=>by simp
 | k::l,a=>by rw[K52,z8w,putN_mem,K0y];exact or_assoc
theorem zi8:∀{l a:List Nat},a.Nodup->(l.foldl putN a).Nodup
 | [],_,h=>h
 | _::l,_,h=>zi8 (l:=l) (zh1 h)
theorem dedN_mem:x∈dedN l↔x∈l:=by unfold dedN;rw[z8w];simp
theorem z68 (l:List Nat):(dedN l).Nodup:=zi8 K43
theorem zb3:∀(l a:List Nat),(kN l).foldl putK (kN a)=kN (l.foldl putN a)
 | [],a=>rfl
 | k::l,a=>by
  have e:putK (kN a) (.inl (k:Int))=kN (putN a k):=by
   unfold putN;split
   ·rename_i h;unfold putK;rw[if_pos (kN_mem.mpr h)]
   ·exact zu6 ‹_›
  show (kN l).foldl putK (putK (kN a) (.inl (k:Int)))=_;rw[e];exact zb3 l (putN a k)
theorem zx1 (l:List Nat):dedK (kN l)=kN (dedN l):=zb3 l []
theorem zp3 (h:∀x∈l,x<n):(dedN l).length<=n:=z0Y (z68 l) λx hx=>h x (dedN_mem.mp hx)
theorem z7B:∀l:List Nat,z5Z (stD l)=some (kN l)
 | []=>rfl
 | a::l=>by
  have:z5Z (stD (a::l))=(match keyD (.int (a:Int)),z5Z (stD l) with
   | some k,some ks=>some (k::ks)
   | _,_=>none):=rfl
  rw[this,z7B l];rfl
def setN (l:List Nat):List Nat:=Y1 (dedN l)
theorem z4j:x∈setN l↔x∈l:=by unfold setN;rw[sortN_mem,dedN_mem]
theorem z2x (l:List Nat):(setN l).Pairwise (·<·):=z1l (z68 l)
theorem z0e (h:l.Pairwise (·<·)):l.Nodup:=h.imp λh=>K0u h
theorem z2R {m:List Nat}(a:l.Pairwise (·<·)) (b:m.Pairwise (·<·)) (h:∀x,x∈l↔x∈m):l=m :=
 ((K7r (z0e a) (z0e b)).mpr h).eq_of_pairwise (λ_ _ _ _ h1 h2=>absurd h2 (Nat.lt_asymm h1)) a b
theorem zo8 {m:List Nat}(h:∀x,x∈l↔x∈m):setN l=setN m:=z2R (z2x l) (z2x m) λx=>by rw[z4j,z4j];exact h x
theorem zq4 (h:∀x∈l,x<n):(setN l).length<=n:=by unfold setN;rw[z2y];exact zp3 h
inductive RchT (st:List (List Nat)) (T:List Nat) (x:Nat):Nat->Prop
 | here:RchT st T x x
 | step {a b:Nat}:RchT st T x a->b∈nx st a->b∉T->RchT st T x b
theorem zg2 (q:∀a,∀b∈nx st a,b<n) (hx:x<n) (h:RchT st T x a):a<n:=by
 induction h with
 | here=>exact hx
 | step _ b _ _=>exact q _ _ b
theorem zJ2 (hx:x∈S) (cl:∀a∈S,∀b∈nx st a,b∈S\/b∈T) (h:RchT st T x a):a∈S:=by
 induction h with
 | here=>exact hx
 | step _ b c ih=>exact(cl _ ih _ b).resolve_right c
structure FndT (st:List (List Nat)) (T:List Nat) (x:Nat) (S:List Nat):Prop where
 nd:S.Nodup
 rc:∀a∈S,RchT st T x a
 hx:x∈S
 nt:∀a∈S,a∉T
theorem FndT.put {b:Nat}(f:FndT st T x S) (ha:a∈S) (hb:b∈nx st a) (nb:b∉S) (nt:b∉T):FndT st T x (S++[b]) :=
 ⟨z0G f.nd nb,λc hc=>by
  rcases K00.mp hc with q|q
  ·exact f.rc c q
  ·simp at q;subst q;exact .step (f.rc a ha) hb nt,K0l _ f.hx,λc hc=>by
  rcases K00.mp hc with q|q
  ·exact f.nt c q
  ·simp at q;subst q;exact nt⟩
theorem FndT.one (h:x∉T):FndT st T x [x]:=⟨by simp,λa ha=>by simp at ha;subst ha;exact .here,by simp,λa ha=>by simp at ha;subst ha;exact h⟩
section
variable {b:Nat}{v:D}{Q:Out->AH->Prop}
theorem z2Z (e:h[i]?=.(l xs)):z3H (.ref i) h=.ok i h:=by unfold z3H;dsimp only;rw[e]
theorem z3m (e:h[i]?=.(l xs)) (hl:xs.length<1000000):j8 i v h=.ok .non (h.set i (.lst (xs++[v]))):=by
 unfold j8 updL;rw[e];dsimp only;rw[if_pos (by simp[sizeLine];omega)]
theorem zV2 (e:h[i]?=.(l (xs++[v]))) (hl:xs.length<1000000):fPop i h=.ok v (h.set i (.lst xs)):=by
 unfold fPop updL;rw[e];dsimp only;rw[show (xs++[v])[(xs++[v]).length - 1]?=some v by simp,Option.map_some];dsimp only;rw[if_pos (by simp[sizeLine];omega),K2l]
theorem z1D (ea:γ[a]?=some (.(r i))) (e:h[i]?=.(l xs)) (hl:xs.length<1000000) (ev:me γ h=.ok v h) (z:W (mt γ) (h.set i (.lst (xs++[v]))) Q):W (z9 (z0p (eM1 j8 (eVar a) me)) mt γ) h Q:=by
 refine z3T ?_;have e1:eVar a γ=pure (.ref i):=by unfold eVar;rw[ea]
 unfold eM1;rw[e1,x6,Z5];refine W_of (z2Z e) ?_;rw[Z5];exact W_of ev (W_of (z3m e hl) z)
theorem zs5 (ea:γ[a]?=some (.(r i))) (e:h[i]?=.(l (xs++[v]))) (hl:xs.length<1000000) (z:W (mt (γ.set b (some v))) (h.set i (.lst xs)) Q):W (z9 (sAsg (eM0 fPop (eVar a)) (gN b)) mt γ) h Q:=by
 refine z4s ?_;have e1:eVar a γ=pure (.ref i):=by unfold eVar;rw[ea]
 unfold eM0;rw[e1,x6,Z5];exact W_of (z2Z e) (W_of (zV2 e hl) z)
theorem zu4 (ea:γ[a]?=some (.(r i))) (eb:γ[b]?=some (.(i x))) (e:h[i]?=some (.dK (kvN l))) (hx:x∉l) (hl:l.length<1000) (z:W (mt γ) (h.set i (.dK (kvN (l++[x])))) Q):W (z9 (sAsg (λ_=>pure (.bl true)) (gDx (eVar a) (eVar b))) mt γ) h Q:=by
 have e1:eVar a γ=pure (.ref i):=by unfold eVar;rw[ea]
 have e2:eVar b γ=pure (.int x):=by unfold eVar;rw[eb]
 rw[w_cons];unfold sAsg gDx;rw[x6,e1,x6,e2,x6];rw[Z5,Z5];refine W_of (zx0 e hx hl) ?_;rw[W_pure,W_pure];exact z
theorem zl7 (hl:xs.length<=1000000) (ev:∀h,me γ h=newL xs h) (z:W (mt (γ.set a (.(r h.length)))) (h++[.lst xs]) Q):W (z9 (sAsg me (gN a)) mt γ) h Q:=by
 refine z4s ?_;have:me γ=newL xs:=funext ev;rw[this];exact zO5 hl z
theorem z6X (ea:γ[a]?=some (.(r i))) (e:h[i]?=.(l xs)):cVal (eVar a) γ h=.ok (!xs.isEmpty) h:=by
 have e1:eVar a γ=pure (.ref i):=by unfold eVar;rw[ea]
 unfold cVal;rw[e1,x6];unfold truD;dsimp only;have e2:getL i h=.ok xs h:=by unfold getL;rw[e]
 rw[M.bind_ok e2];rfl
theorem J0 {r:Res D}(e:me γ h=.ok d h1) (e2:f [d] h1=r):Z7 f (z7 me aNil) γ h=r:=by
 have:z7 me aNil γ h=.ok [d] h1:=by
  show (me γ >>= λx=>(do let r <- aNil γ;pure (x::r):M (List D))) h=_;rw[M.bind_ok e];rfl
 show (z7 me aNil γ >>= f) h=_;rw[M.bind_ok this];exact e2
theorem zT3 (e:h[i]?=.(l xs)):J7 [.ref i] h=.ok (.tup xs) h:=by
 have ft:J7 [.ref i]=(do let x <- getL i;pure (.tup x)):=rfl;have g:getL i h=.ok xs h:=by unfold getL;rw[e]
 rw[ft,M.bind_ok g];rfl
theorem zW4 (e:h[i]?=.(l xs)):fLen [.ref i] h=.ok (.int xs.length) h:=by
 have ft:fLen [.ref i]=(do let x <- getL i;pure (.int x.length)):=rfl;have g:getL i h=.ok xs h:=by unfold getL;rw[e]
 rw[ft,M.bind_ok g];rfl
theorem ix_h {t:Int}(e:h[i]?=.(l xs)) (a:atI xs t=some d):fIx (.ref i) (.int t) h=.ok d h:=by
 have ft:fIx (.ref i) (.int t)=(do let xs <- getL i;match atI xs t with|some d=>pure d|none=>bad):=rfl;have g:getL i h=.ok xs h:=by unfold getL;rw[e]
 rw[ft,M.bind_ok g,a];rfl
theorem zz3 {ss:List Str}(e:h[i]?=.(l (ss.map .str))) (hl:ss.length<64):z38 [.ref i] h=.ok (.ref h.length) (h++[.lst ((z2n ss).map .str)]):=by
 have fs:z38 [.ref i]=(do
  let xs <- getL i
  if xs.length<64 then (match z5K xs with
   | some ss=>newL ((z2n ss).map .str)
   | none=>(match z43 xs with
    | some ns=>newL ((sortI ns).map .int)
    | none=>bad)) else bad):=rfl
 have g:getL i h=.ok (ss.map .str) h:=by unfold getL;rw[e]
 rw[fs,M.bind_ok g,if_pos (by simpa using hl),strs_map];dsimp only;unfold newL;rw[if_pos (by rw[K0d,z6c];unfold sizeLine;omega)]
theorem z5Q (e:me γ h=.ok (.ref h.length) (h++[.lst xs])) (c:y8 0 xs=true):clE (Z7 J7 (z7 me aNil)) γ h=.ok (.tup xs) h :=
 z0u (j:=[.lst xs]) (J0 e (zT3 .(f))) (by simp only[J2];exact z2z (K3y _) c)
theorem cb_h {b:Bool}(e:me γ h=.ok (.bl b) h1):(λγ=>(do let d <- me γ;asB d:M Bool)) γ h=.ok b h1:=by
 dsimp only;rw[M.bind_ok e];rfl
theorem z2V {mb:G->M Out}(z:W (mb (z16 n ds)) h (runW λa h'=>a=d/\h'=h1)):runF n mb ds h=.ok d h1:=by
 obtain⟨_,_,a,rfl,rfl⟩:=z1z z;exact a
end
theorem zg4 {f:D->D->Option Bool}{ι:Type} [DecidableEq ι] {enc:ι->D}(e:∀a b,f (enc a) (enc b)=some (decide (a=b))):∀l m:List ι,eqZ f (l.map enc) (m.map enc)=some (decide (l=m))
 | [],[]=>by simp[eqZ]
 | [],b::m=>by simp[eqZ]
 | a::l,[]=>by simp[eqZ]
 | a::l,b::m=>by
  rw[K0v,K0v];unfold eqZ;rw[e a b,zg4 e l m];dsimp only;congr 1;rw[K0o];simp
theorem zE5 (a b:Nat):eqN (n+1) h (.int a) (.int b)=some (decide (a=b)):=by
 show some ((a:Int)==(b:Int))=_;congr 1;rw[K0o,beq_iff_eq,.(h)];exact K6x
theorem zI0 [DecidableEq ι]{enc:ι->D}(e:∀a b,eqN n h (enc a) (enc b)=some (decide (a=b))) (l m:List ι):eqN (n+1) h (.tup (l.map enc)) (.tup (m.map enc))=some (decide (l=m)):=zg4 e l m
theorem zO0 {x y:D}(e:eqN 24 h x y=some b):fEqX neg x y h=.ok (.bl (b != neg)) h:=by
 unfold fEqX;rw[e]
theorem zS8 {m:List Nat}:fEqX neg (.tup (stD l)) (.tup (stD m))=pure (.bl (decide (l=m) != neg)):=funext λh=>zO0 (zI0 (enc:=λ(i:Nat)=>.int i) zE5 l m)
section
variable {h2:AH}
theorem e2_h {f:D->D->M D}{x y:D}{r:Res D}(e1:ma γ h=.ok x h1) (e2':mb γ h1=.ok y h2) (e3:f x y h2=r):e2 f ma mb γ h=r:=by
 show (ma γ >>= λx=>(mb γ >>= λy=>f x y)) h=_;rw[M.bind_ok e1,M.bind_ok e2',e3]
theorem fn_h {r:Res D}(e:mr γ h=.ok ds h1) (hn:ds.length=n) (e2:f ds h1=r):eFn n f mr γ h=r:=by
 show (mr γ >>= λxs=>if xs.length=n then f xs else bad) h=_;rw[M.bind_ok e,if_pos hn,e2]
theorem ac_h (e:ma γ h=.ok d h1) (e2:mr γ h1=.ok ds h2):z7 ma mr γ h=.ok (d::ds) h2:=by
 show (ma γ >>= λx=>(mr γ >>= λr=>(pure (x::r):M (List D)))) h=_;rw[M.bind_ok e,M.bind_ok e2];rfl
end
theorem z0D:(h++[o])[h.length]?=some o:=by simp
theorem z7f {o':O}:(h++[o]).set h.length o'=h++[o']:=by simp
theorem cv_h (e:me γ h=.ok (.bl b) h1):cVal me γ h=.ok b h1:=by
 unfold cVal;rw[M.bind_ok e];rfl
theorem cn_h (e:kb γ h=.ok b h1):cNot kb γ h=.ok (!b) h1:=by
 unfold cNot;rw[M.bind_ok e];rfl
theorem Z1 (e:γ[a]?=some (some d)):eVar a γ h=.ok d h:=by unfold eVar;rw[e];rfl
theorem z3c (e:me γ h=.ok (.ref i) h) (q:h[i]?=.(l xs)):z0c me γ h=.ok (.lst i xs) h:=by
 have g:getL i h=.ok xs h:=by unfold getL;rw[q]
 unfold z0c;rw[M.bind_ok e];dsimp only;rw[M.bind_ok g];rfl
theorem z0C (e:me γ h=.ok (.tup xs) h1):Y7 me γ h=.ok (.con xs) h1:=by
 unfold Y7;rw[M.bind_ok e];rfl
theorem Z0j (e:me γ h=.ok (.ref i) h) (q:h[i]?=.(l xs)):orE (Y7 me) (z0c me) γ h=.ok (.lst i xs) h:=by
 rw[or_r]
 ·exact z3c e q
 ·unfold Y7;rw[M.bind_ok e];rfl
theorem Z0E (e:me γ h=.ok (.tup xs) h1):orE (Y7 me) (z0c me) γ h=.ok (.con xs) h1:=or_l (z0C e)
theorem z1I {cap:List (Option Nat)}{g:D->G->M G}(p:Nat->Bool) (f:Nat->D) (hi:mi γ h=.ok src h) (hs:src.items=stD l) (hg:∀j,src.good (h++j)) (hl:l.length<=1000000)
 (hd:∀x∈l,∃γ1,(∀h,g (.int x) (capG cap γ) h=.ok γ1 h)/\(∀j,kb γ1 (h++j)=.ok (p x) (h++j))/\(p x=true->∀j,me γ1 (h++j)=.ok (f x) (h++j))):z0j cap mi g kb me γ h=.ok (.ref .(g)) (h++[.lst ((l.filter p).map f)]):=by
 refine(z4z (src:=src) (λd=>match d with|.int t=>p t.toNat|_=>false) (λd=>match d with|.int t=>f t.toNat|_=>.non) hi hg (by rw[hs,y6];exact hl) λd hd'=>?_).trans ?_
 ·rw[hs]at hd';obtain⟨x,hx,rfl⟩:=K1g.mp hd';exact hd x hx
 ·rw[hs];unfold stD;rw[K53,K1h];rfl
theorem zh0 (mk:List (List Str)):(mksD mk).length=mk.length:=by unfold mksD;simp
theorem zx4 {h2:AH}{x y:D}(e1:ma γ h=.ok x h1) (e2':mb γ h1=.ok y h2):eTup (z7 ma (z7 mb aNil)) γ h=.ok (.tup [x,y]) h2:=by
 have e3:z7 ma (z7 mb aNil) γ h=.ok [x,y] h2:=ac_h e1 (ac_h e2' rfl);unfold eTup;rw[M.bind_ok e3];rfl
theorem z7r (n:Nat):z1q n=stD (K0m n):=rfl
theorem zs8 {f:List D->Option (D×List D)}(e:h[n]?=.(l xs)) (ef:f xs=some (d,ys)) (l:ys.length<=sizeLine):updL n f h=.ok d (h.set n (.lst ys)):=by
 unfold updL;rw[e];dsimp only;rw[ef];dsimp only;rw[if_pos l]
theorem zd8 {x:D}(e:seqD x h=.ok (stD l) h) (hl:l.length<=2000):z1X [x] h=.ok (.ref h.length) (h++[.set (kN (dedN l))]):=by
 unfold z1X;dsimp only;rw[M.bind_ok e,z7B];dsimp only;rw[if_pos (by rw[zj5];omega),zx1];rfl
theorem zj0 (e:h[i]?=some (.set (kN l))) (hl:l.length<64):z0R [.ref i] h=.ok (.ref h.length) (h++[.lst (stD (Y1 l))]):=by
 unfold z0R;dsimp only;have g:getS i h=.ok (kN l) h:=by unfold getS;rw[e]
 rw[M.bind_ok g,z7G];dsimp only;rw[if_pos (by unfold zN;rw[K0d];omega),z4A];unfold newL;rw[if_pos (by rw[y6,z2y];unfold sizeLine;omega)]
theorem zM2 {Q:Out->AH->Prop}(J:D->AH->Prop) (z:W (ma γ) h J) (f:∀d h1,J d h1->∃γ',g d γ=pure γ'/\W (mt γ') h1 Q):W (z9 (sAsg ma g) mt γ) h Q:=by
 rw[w_cons];unfold sAsg;rw[Z5];refine z.mono λd h1 q=>?_;obtain⟨γ',e,w⟩:=f d h1 q;rw[e,x6,W_pure];exact w
def rowAt (row:List Nat) (o:Nat):Nat:=(row[o]?).getD 0
theorem zt8 {l:List (List Nat)}(h:i<l.length):l[i]?=some (nx l i):=by unfold nx;rw[K9 h];rfl
def led (st:List (List Nat)) (row:List Nat) (x:Nat):List Nat:=setN ((nx st x).map (rowAt row))
def zz5 (a:Int) (n:Nat):List D:=(K0m n).map λ(k:Nat)=>.int (a+k)
def okR (i j:Int):Bool:=decide (-(2 ^ 62)<=i)&&decide (i<2 ^ 62)&&(decide (-(2 ^ 62)<=j)&&decide (j<2 ^ 62))
def z4H (ma mb:G->M D):G->M Src:=λγ=>do
 let x <- ma γ;let y <- mb γ
 match x,y with
 | .int i,.int j=>if okR i j=true then pure (.con (zz5 i (j - i).toNat)) else bad
 | _,_=>bad
theorem zE2 {J:It}{f:Nat->D}{g:Nat->V}(hg:∀i H,J.go i H↔i<n) (hy:∀i H x H',J.yld i H x H'->H'=H/\x=g i) (hs:∀i H,n<=i->J.stop i H) (hr:∀ρ H i,RD K ρ H (f i) (g i)):JOK K (.con ((K0m n).map f)) ρ H J:=λi ρ2 h4 H2 p2 e2 r2 _=>⟨λd hd=>by
 have hd':((K0m n).map f)[i]?=some d:=hd;rw[K0i]at hd';have hi:i<n:=by
  by_cases hi:i<n
  ·exact hi
  ·rw[K1i (by simpa using hi)]at hd';cases hd'
 rw[K3u hi]at hd';cases hd';refine⟨(hg i H2).mpr hi,λy H3 z=>?_⟩;obtain⟨z1,z2⟩:=hy i H2 y H3 z;subst z1;subst z2;exact⟨hr _ _ _,r2,Ext.refl _ _⟩,λhi=>by
 have hi':((K0m n).map f).length=i:=hi;rw[K0d,K1q]at hi';exact hs i H2 (K4v hi')⟩
section
variable {a b c tg:Expr}{p p2 pos2:Pos}{mc:G->M D}
theorem zi6 (hg:Gl X "range") (hm:X.mg "range" = none) (ha:SE X EX a ma) (hb:SE X EX b mb) (hs:K0h [a,b] X.env=[(false,eval a X.env),(false,eval b X.env)]:=by rfl) (hs2:K0h [b] X.env=[(false,eval b X.env)]:=by rfl):SI X EX tg (.Call (.Name "range" p) [a,b] [] pos) (z4H ma mb) :=
 ⟨PI.imp (zb6 hg hm (z1p ha.h (z1p hb.h z3a hs2) (by rw[hs,hs2])) hs hs2) λσ H R ⟨ρ,γ,h,rel,fin⟩=>⟨ρ,γ,h,rel,(Fin.bind fin).mono λx ρ1 h1 H1 p1 e1 r1 f1 v rv=>⟨ρ1,γ,h1,⟨rel.g.mono p1 e1,r1⟩,(Fin.bind f1).mono λy ρ2 h2 H2 p2 e2 r2 f2 u ru=>by
  cases x<;>first|exact(show False from f2).elim|skip
  rename_i i;cases y<;>first|exact(show False from f2).elim|skip
  rename_i j;simp only[RD]at rv ru;subst rv;subst ru;dsimp only at f2;split at f2
  ·rename_i c;unfold okR at c;simp only[K0k,decide_eq_true_eq]at c;exact⟨i,j,rfl,⟨c.1.1,c.1.2,c.2.1,c.2.2⟩,f2 ρ2 H2 .(9) .(a) r2 _ (zE2 (g:=λk=>.int (i+k)) (λ_ _=>Z38) (λ_ _ _ _ z=>z) (λ_ _ z=>z) λ_ _ _=>by simp[RD])⟩
  ·exact f2.elim⟩⟩⟩
end
def cnt (st:List (List Nat)):Nat->Nat->Nat
 | 0,_=>1
 | n+1,x=>((nx st x).map (cnt st n)).sum
def wk (st:List (List Nat)):Nat->Nat->List (List Nat)
 | 0,x=>[[x]]
 | n+1,x=>(nx st x).flatMap λy=>(wk st n y).map (x::·)
def Z0f (w:List Nat):Nat:=w.getLast?.getD 0
def ext (st:List (List Nat)) (left:Nat) (w:List Nat):List (List Nat):=((nx st (Z0f w)).filter λy=>decide (0<cnt st left y)).map λy=>w++[y]
open Classical in
theorem z8P {cap:List (Option Nat)}{g:D->G->M G}{kb:G->M Bool}{me:G->M D}{h1:AH}{l:List ι}(enc:ι->D) (inj:∀x y,enc x=enc y->x=y) (p:ι->Bool) (f:ι->D) (hi:mi γ h=.ok src h) (hs:src.items=l.map enc) (hg:∀j,src.good (h++j)) (hl:l.length<=1000000)
 (hd:∀x∈l,∃γ1,(∀h,g (enc x) (capG cap γ) h=.ok γ1 h)/\(∀j,kb γ1 (h++j)=.ok (p x) (h++j))/\(p x=true->∀j,me γ1 (h++j)=.ok (f x) (h++j))):z0j cap mi g kb me γ h=.ok (.ref .(g)) (h++[.lst ((l.filter p).map f)]):=by
 let p':D->Bool:=λd=>if e:∃x,enc x=d then p e.choose else false
 let f':D->D:=λd=>if e:∃x,enc x=d then f e.choose else .non
 have ep:∀x,p' (enc x)=p x:=λx=>by
  have e:∃y,enc y=enc x:=⟨x,rfl⟩;show (if e:∃y,enc y=enc x then p e.choose else false)=_;rw[dif_pos e,inj _ _ e.choose_spec]
 have ef:∀x,f' (enc x)=f x:=λx=>by
  have e:∃y,enc y=enc x:=⟨x,rfl⟩;show (if e:∃y,enc y=enc x then f e.choose else .non)=_;rw[dif_pos e,inj _ _ e.choose_spec]
 refine(z4z (src:=src) p' f' hi hg (by rw[hs,K0d];exact hl) λd hd'=>?_).trans ?_
 ·rw[hs]at hd';obtain⟨x,hx,rfl⟩:=K1g.mp hd';rw[ep,ef];exact hd x hx
 ·rw[hs,K53,K1h];rw[show (p' ∘ enc)=p from funext ep,show (f' ∘ enc)=f from funext ef]
theorem z90 {ι:Type}{g:D->G->M G}{mi:G->M Src}{g1:D->G->M G}{k:G->M Bool}{me:G->M D}{γ:G}(enc:ι->D) (ls:ι->List Nat) (p:ι->Nat->Bool) (f:ι->Nat->D) (src:Src) (h0:AH) (hg:∀j,src.good (h0++j)):∀(items:List ι) (acc:List D),acc.length+(items.flatMap ls).length<=1000000 ->
 (∀x∈items,∃γ1 s1,(∀h,g (enc x) γ h=.ok γ1 h)/\(∀j,mi γ1 (h0++j)=.ok s1 (h0++j))/\s1.items=stD (ls x)/\(∀j,s1.good (h0++j))/\∀y∈ls x,∃γ2,(∀h,g1 (.int y) γ1 h=.ok γ2 h)/\(∀j,k γ2 (h0++j)=.ok (p x y) (h0++j))/\(p x y=true->∀j,me γ2 (h0++j)=.ok (f x y) (h0++j))) ->
 z3Z src g mi g1 k me h0.length γ (items.map enc) (h0++[.lst acc])=.ok () (h0++[.lst (acc++items.flatMap λx=>((ls x).filter (p x)).map (f x))])
 | [],acc,hl,hd=>by unfold z3Z Src.chk;simp[hg]
 | x::r,acc,hl,hd=>by
  obtain⟨γ1,s1,e1,e2,e3,e4,e5⟩:=hd x K1e;rw[K0v];unfold z3Z;have chk:src.chk (h0++[.lst acc])=.ok () (h0++[.lst acc]):=by unfold Src.chk;simp[hg]
  rw[K85,K3]at hl;rw[M.bind_ok chk,M.bind_ok (e1 _),M.bind_ok (e2 _)];have q:=z4c (g:=g1) (k:=k) (me:=me) (γ:=γ1) (p:=λd=>match d with|.int t=>p x t.toNat|_=>false) (f:=λd=>match d with|.int t=>f x t.toNat|_=>.non) s1 h0 e4 s1.items acc (by rw[e3,y6];omega) λd hd'=>by
   rw[e3]at hd';obtain⟨y,hy,rfl⟩:=K1g.mp hd';exact e5 y hy
  rw[M.bind_ok q];have ee:(s1.items.filter (λd=>match d with|.int t=>p x t.toNat|_=>false)).map (λd=>match d with|.int t=>f x t.toNat|_=>.non)=((ls x).filter (p x)).map (f x):=by
   rw[e3];unfold stD;rw[K53,K1h];rfl
  rw[ee,z90 enc ls p f src h0 hg r _ (by
   have:=K10 (p x) (ls x);rw[K3,K0d];omega) λy hy=>hd y (K1a _ hy),K85,K05]
theorem zB2 {cap:List (Option Nat)}{mi1:G->M Src}{g g1:D->G->M G}{k:G->M Bool}{me:G->M D}{l:List ι}(enc:ι->D) (ls:ι->List Nat) (p:ι->Nat->Bool) (f:ι->Nat->D) (hi:mi γ h=.ok src h) (hs:src.items=l.map enc) (hg:∀j,src.good (h++j)) (hl:(l.flatMap ls).length<=1000000)
 (hd:∀x∈l,∃γ1 s1,(∀h,g (enc x) (capG cap γ) h=.ok γ1 h)/\(∀j,mi1 γ1 (h++j)=.ok s1 (h++j))/\s1.items=stD (ls x)/\(∀j,s1.good (h++j))/\∀y∈ls x,∃γ2,(∀h,g1 (.int y) γ1 h=.ok γ2 h)/\(∀j,k γ2 (h++j)=.ok (p x y) (h++j))/\(p x y=true->∀j,me γ2 (h++j)=.ok (f x y) (h++j))) :
 z4W cap mi g mi1 g1 k me γ h=.ok (.ref .(g)) (h++[.lst (l.flatMap λx=>((ls x).filter (p x)).map (f x))]):=by
 have e:=z90 (g:=g) (mi:=mi1) (g1:=g1) (k:=k) (me:=me) (γ:=capG cap γ) enc ls p f src h hg l [] (by simpa using hl) hd;unfold z4W;rw[M.bind_ok hi];show ((λh=>.ok .(g) (h++[.lst []]):M Nat) >>= λn0=>z3Z src g mi1 g1 k me n0 (capG cap γ) src.items >>= λ_=>pure (D.ref n0)) h=_;show (z3Z src g mi1 g1 k me .(g) (capG cap γ) src.items >>= λ_=>(pure (D.ref .(g)):M D)) (h++[.lst []])=_;rw[hs,M.bind_ok e];rfl
end FT
namespace L2
open PySem.AutoSeq1 (wpAny_loadPart')
theorem z9v (l:Addr) (items:Array Value) (n:Nat) (b:Addr) (items2:Array Value) (n2:Nat) (dd:Option Addr) (sl:Array (Option Value)) (h1:¬(!items.isEmpty&&K2x (items.size+items2.size))=true) (h2:items.size<=sizeLine) (h3:items.size+items2.size<=sizeLine+1) :
 Meets (Builtin.«list.extend» ⟨[.ref l,.ref b],[]⟩) (λA R s=>s.heap.get? l=some { cls:=.type "list",data:=.seq items n }/\s.heap.get? b=some { cls:=.type "tuple",dict:=dd,data:=.seq items2 n2,slots:=sl }/\R (.ok (.ret .none)) { s with heap:=s.heap.update l (K4h λx=>x++items2) }) :=
 .of_wp λprog w A R s h=>by
  obtain⟨hp,g,d,tk,os⟩:=s;obtain⟨hl,hb,h⟩:=h;have hT:K5r ⟨hp,g,d,tk,os⟩ (.ref b) "tuple":=⟨_,hb,rfl⟩;have hT2:K5r ⟨hp,g,d,tk,os⟩ (.ref l) "list":=⟨_,hl,rfl⟩
  wp_walk using K1s hl,K1s hb,K7d hT,K7d hT2
  have e:(K4h (λx=>x++items2) { cls:=K4g "list",data:=Z2x items n }).data.pastItsLine=none:=by
   unfold Data.pastItsLine K4h;simp;omega
  rw[e];exact K6 (K6 ⟨_,rfl,h⟩)
section
variable {X:Cx}
def Z0w (K:K5):V->List V->Hp->VK->Prop:=λx vs H Q=>∃l b xs zs,x=.ref l/\vs=[.ref b]/\H l=.(l xs)/\SqT K H b zs/\xs.length+zs.length<=sizeLine/\Q .non (upd H l (.lst (xs++zs)))
theorem zz2:MtM X "list.extend" (λx vs H Q=>zd5 x vs H Q\/Z0w X.K x vs H Q):=by
 intro pins s σ H x vs v us Q I rx rv h;rcases h with h|h
 ·exact zd4 pins s σ H x vs v us Q I rx rv h
 obtain⟨l,b,xs,zs,rfl,rfl,hH,hB,hz,q⟩:=h;cases rx;obtain⟨u,rfl,ru⟩:=rv.one;cases ru;obtain⟨z,its,n,r,hl,e⟩:=I.lstM hH;obtain⟨its2,r2,p2,z2⟩:=I.tuple hB;have hl2:=r2.length;obtain⟨⟨oc,od,odt,osl⟩,ho,hc,n2,hd⟩:=p2;dsimp only at hc hd;subst hc hd;have hsz:its.toArray.size+its2.toArray.size<=sizeLine:=by rw[K0a,K0a];omega
 have hlong:¬ (!its.toArray.isEmpty&&K2x (its.toArray.size+its2.toArray.size))=true:=by
  rw[z5A hsz,K7j];exact K12
 refine K4i Z1n ⟨_,e,rfl⟩ Z13 (K9o _ _)
  (z9v l its.toArray n b its2.toArray n2 _ _ hlong (by rw[K0a];omega) .(1)) ⟨e,ho,?_⟩
 refine⟨.non,_,I.lset (its':=its++its2) hH e .(f) (r.append r2) ?_,rfl,q⟩;rw[K3];omega
end
end L2
namespace FT
variable{me:G->M D}{mt body:G->M Out}{γ:G}{h:AH}{i:Nat}{xs ys:List D}{Q:Out->AH->Prop}{ifs:List Expr}{cap:List (Option Nat)}{g:D->G->M G}{ρ0:List Addr}
def z3B (n:Nat) (y:D):M D:=match y with
 | .tup ys=>updL n λxs=>some (.non,xs++ys)
 | .ref m=>do
  let ys <- getL m
  updL n λxs=>some (.non,xs++ys)
 | _=>bad
section
variable {X:Cx}{EX:XX}{a o:Expr}{cpos apos:Pos}{ma mo:G->M D}
theorem z9M (ho:SE X EX o mo) (ha:SE X EX a ma)
 (hbase:K5b o "extend" X.env (eval o X.env)=eval o X.env:=by rfl)
 (hfew:((backTo cpos (K0h [a] X.env)).all (λx=>!x.1)&&(K55 cpos (K39 [] X.env)).all (λx=>x.1.isSome)
 &&decide (([a]:List Expr).length+([]:List K4z).length+(if ([]:List K4z).isEmpty then 0 else 1)<30))=true:=by rfl)
 (hline:(apos.endLine==cpos.line)=true:=by rfl) (hs:K0h [a] X.env=[(false,eval a X.env)]:=by rfl) :
 SE X EX (.Call (.Attribute o "extend" apos) [a] [] cpos) (eM1 z3B mo ma) :=
 ⟨PE.imp (zm1 K4t PySem.F.slot_list_extend PySem.F.type_list_extend zz2 ho.h (z1p ha.h z3a hs) hbase hfew hline hs rfl) (zK7 λρ h H n q y u Q r hq ru fin=>by
  cases y<;>first|exact(show False from fin).elim|skip
  ·rename_i zs;obtain⟨xs,d,ys,vs,g1,g2,g3,g4,g5⟩:=z3g r hq (show FE X.K EX ρ H Q (updL n (λxs=>some (.non,xs++zs)) h) from fin);cases g1;simp only[RD]at ru;obtain⟨b,us,rfl,k2,k3⟩:=ru;have hl:=g4.length;have hl2:=k3.length;rw[K3]at g2;exact .inr ⟨q,b,vs,us,rfl,rfl,g3,k2,by omega,g5 _ _ (by simp[RD]) (g4.append k3)⟩
  ·rename_i m;simp only[RD]at ru;obtain⟨b,rfl,hb⟩:=ru;have f2:Fin X.K EX ρ H _ _:=Fin.bind (show Fin X.K EX ρ H (λd ρ' _ H'=>∀v,RD X.K ρ' H' d v->Q v H') ((getL m >>= λys=>updL n λxs=>some (.non,xs++ys)) h) from fin);cases e3:getL m h with
   | bad=>rw[e3]at f2;exact f2.elim
   | err z hz=>exact(z1J e3).elim
   | ok zs h3 =>
    obtain⟨rfl,q1⟩:=z1M e3;rw[e3]at f2;obtain⟨a1,n1,us,o1,d1⟩:=r.at q1;rw[hb]at n1;cases n1;obtain⟨xs,d,ys,vs,g1,g2,g3,g4,g5⟩:=z3g r hq (f2 ρ H .(9) .(a) r);cases g1;have hl:=g4.length;have hl2:=d1.length;rw[K3]at g2;exact .inl ⟨q,_,vs,us,rfl,rfl,g3,o1,by omega,g5 _ _ (by simp[RD]) (g4.append d1)⟩)⟩
end
theorem zR5 {h1:AH}{a:Nat}{v:D}(ea:γ[a]?=some (.(r i))) (e:h[i]?=.(l xs)) (ev:me γ h=.ok v h1) (e1:h1[i]?=.(l xs)) (hl:xs.length<1000000) (z:W (mt γ) (h1.set i (.lst (xs++[v]))) Q):W (z9 (z0p (eM1 j8 (eVar a) me)) mt γ) h Q:=by
 refine z3T ?_;have e2':eVar a γ=pure (.ref i):=by unfold eVar;rw[ea]
 unfold eM1;rw[e2',x6,Z5];refine W_of (z2Z e) ?_;rw[Z5];exact W_of ev (W_of (z3m e1 hl) z)
theorem zd3 (hl:xs.length<=1000000):newL xs h=.ok (.ref h.length) (h++[.lst xs]):=by
 unfold newL;rw[if_pos (K0q hl (by decide))]
theorem zZ8 {y:D}(e:h[i]?=.(l xs)) (hy:y=.tup ys\/∃j,y=.ref j/\h[j]?=.(l ys)) (hl:xs.length+ys.length<=1000000):z3B i y h=.ok .non (h.set i (.lst (xs++ys))):=by
 have l:(xs++ys).length<=sizeLine:=K0q (by rw[K3];exact hl) (show 1000000<=sizeLine by decide);rcases hy with rfl|⟨j,rfl,ej⟩
 ·unfold z3B;exact zs8 e rfl l
 ·have g:getL j h=.ok ys h:=by unfold getL;rw[ej]
  unfold z3B;dsimp only;rw[M.bind_ok g];exact zs8 e rfl l
theorem Z0l {h1:AH}{a:Nat}{y:D}(ea:γ[a]?=some (.(r i))) (e:h[i]?=.(l xs)) (ev:me γ h=.ok y h1) (e1:h1[i]?=.(l xs)) (hy:y=.tup ys\/∃j,y=.ref j/\h1[j]?=.(l ys)) (hl:xs.length+ys.length<=1000000) (z:W (mt γ) (h1.set i (.lst (xs++ys))) Q):W (z9 (z0p (eM1 z3B (eVar a) me)) mt γ) h Q:=by
 refine z3T ?_;have e2:eVar a γ=pure (.ref i):=by unfold eVar;rw[ea]
 unfold eM1;rw[e2,x6,Z5];refine W_of (z2Z e) ?_;rw[Z5];exact W_of ev (W_of (zZ8 e1 hy hl) z)
theorem zH8 {k:G->M Bool}{body:G->M Out}{mt:G->M Out}{n m:Nat}{Q:Out->AH->Prop}(I:Nat->G->AH->Prop) (hm:m<n) (i0:I m γ h)
 (z:∀m γ h,I m γ h->∃b,k γ h=.ok b h/\if b=true then ∃m',m=m'+1/\W (body γ) h (forW (λγ h=>∃i,i<=m'/\I i γ h) λ_ _=>False) else W (mt γ) h Q):W (z9 (z11 k body n) mt γ) h Q:=by
 rw[w_cons];refine(z0v I (λγ h=>W (mt γ) h Q) (λ_ _=>False) (λm γ h q=>?_) n m γ h hm i0).mono λo h1 q=>?_
 ·obtain⟨b,e,q1⟩:=z m γ h q;exact W_of e q1
 ·cases o with
  | nx γ=>exact q
  | rt d=>exact q.elim
  | bk d=>exact q.elim
  | ct d=>exact q.elim
def z54 (n:Nat) (i v:D):M Unit:=z3i (.ref n) i v
noncomputable def z0k (src:Src) (g:D->G->M G) (k:G->M Bool) (me mv:G->M D) (n0:Nat) (γ:G):List D->M Unit
 | []=>do
  let _ <- src.chk
  pure ()
 | d::r=>do
  let _ <- src.chk;let γ1 <- g d γ;let t <- k γ1
  if t then do
   let y <- me γ1;let v <- mv γ1;let _ <- z54 n0 y v
   z0k src g k me mv n0 γ r
  else z0k src g k me mv n0 γ r
noncomputable def z1R (cap:List (Option Nat)) (mi:G->M Src) (g:D->G->M G) (k:G->M Bool) (me mv:G->M D):G->M D:=λγ=>do
 let src <- mi γ;let n0 <- (λh=>.ok .(g) (h++[.dK []]):M Nat);let _ <- z0k src g k me mv n0 (capG cap γ) src.items
 pure (.ref n0)
section
variable {X:Cx}{EX:XX}{elt val tg iter c:Expr}{sc:Scope}{pos:Pos}{N':List Str}{own:List Nat}{mi:G->M Src}{k kr:G->M Bool}{mv:G->M D}
theorem zX9 {σ0:L2.St}{n0:Nat}{Dd:Addr}(hD:ρ0[n0]?=some Dd):HB X EX own σ0 ρ0 (λγ1 K=>do let y <- me γ1;let v <- mv γ1;let _ <- z54 n0 y v;K) (bPut (tE X.K EX me) (tE X.K EX mv) Dd):=λ{σ γ1 ρ h H P K Z} p0 _ rg rh fin hz=>by
 refine⟨ρ,γ1,h,⟨rg,rh⟩,(Fin.bind fin).mono λyd ρ5 h5 H5 p5 e5 r5 f5 y ry=>⟨ρ5,γ1,h5,⟨rg.mono p5 e5,r5⟩,(Fin.bind f5).mono λd ρ6 h6 H6 p6 e6 r6 f6 v rv=>?_⟩⟩;have hq:ρ6[n0]?=some Dd:=((p0.trans p5).trans p6) _ _ hD;have f7:=Fin.bind f6;unfold z54 z3i at f7;dsimp only at f7;cases ek:keyD yd with
 | none=>rw[ek]at f7;exact f7.elim
 | some kk =>
  rw[ek]at f7;dsimp only at f7;have hy:=za3 ek ry;cases e7:h6[n0]? with
  | none=>rw[e7]at f7;exact f7.elim
  | some ob =>
   cases ob<;>first|(rw[e7]at f7;exact f7.elim)|skip
   rename_i kvs;rw[e7]at f7;dsimp only at f7;split at f7
   ·rename_i hl;obtain⟨a1,n1,vs,o1,d1⟩:=r6.at e7;rw[hq]at n1;cases n1;have ext2:Ext X.K H6 (upd H6 Dd (.dK (L2.putK vs kk v))):=Ext.upd (.inr (r6.tracked hq e7));have r7:RH X.K ρ6 (h6.set n0 (.dK (ptD kvs kk d))) (upd H6 Dd (.dK (L2.putK vs kk v))):=r6.setO e7 hq ⟨_,J6,(d1.put kk rv).mono .(9) ext2⟩;have hl2:=d1.len;exact⟨kk,vs,hy,o1,by omega,hz ρ6 _ _ (p5.trans p6) ((e5.trans e6).trans ext2) r7 (f7 ρ6 _ .(9) ext2 r7)⟩
   ·exact f7.elim
theorem z8v (he:∀s H fp xe,SE .(8) EX elt me) (hv:∀s H fp xe,SE .(8) EX val mv):CmA X EX (.DictComp elt val [⟨tg,iter,ifs,0⟩] sc pos) sc tg iter ifs N' cap own mi g k (.dK []) (λn0 γ1 K=>do let y <- me γ1;let v <- mv γ1;let _ <- z54 n0 y v;K) (λsrc n0 γ=>z0k src g k me mv n0 γ) :=
 ⟨⟨_,_,_,_,bPut (tE X.K EX me) (tE X.K EX mv),zI4,λρ H Dd=>⟨[],J6,.nil⟩,λD s H fp xe=>zE1 (he s H fp xe).h (hv s H fp xe).h,λ_ hD=>zX9 hD⟩,λ_ _ _=>rfl,λ_ _ _ _ _=>rfl⟩
theorem z3u (hc:X.calm=true) (S:CS X sc N' cap) (hi:SI X EX tg iter mi) (hg:∀s H fp xe,SGk .(8) EX tg own g) (ht:∀s H fp xe,SCs .(8) EX ifs k)
 (he:∀s H fp xe,SE .(8) EX elt me) (hv:∀s H fp xe,SE .(8) EX val mv) (hown:∀j∈own,cap[j]?=some none:=by decide) (hs:∀x,K1b iter X.env x=pure x:=by intro _;rfl):SE X EX (.DictComp elt val [⟨tg,iter,ifs,0⟩] sc pos) (z1R cap mi g k me mv) :=
 zI1 (z8v he hv) hc S hi hg ht hown hs
noncomputable def z2s (i:Nat) (cap:List (Option Nat)) (mi:G->M Src) (g:D->G->M G) (k:G->M Bool) (me mv:G->M D):G->M Out:=sAsg (z1R cap mi g k me mv) (gN i)
theorem z5I (i:Nat){y:Str}{py spos:Pos}(hc:X.calm=true) (S:CS X sc N' cap) (hi:SI X EX tg iter mi) (hg:∀s H fp xe,SGk .(8) EX tg own g) (ht:∀s H fp xe,SCs .(8) EX ifs k)
 (he:∀s H fp xe,SE .(8) EX elt me) (hv:∀s H fp xe,SE .(8) EX val mv) (hN:X.N.Nodup) (hy:X.N[i]?=some y:=by rfl) (hl:X.env.scope.names.lookup y=some .local:=by rfl) (hown:∀j∈own,cap[j]?=some none:=by decide)
 (hsw:K2w (.DictComp elt val [⟨tg,iter,ifs,0⟩] sc pos) (some (.Name y py)) spos.line X.env=pure true:=by rfl) (hs:∀x,K1b iter X.env x=pure x:=by intro _;rfl) :
 S1 X EX (.Assign [.Name y py] (.DictComp elt val [⟨tg,iter,ifs,0⟩] sc pos) spos) (z2s i cap mi g k me mv) :=
 s_cm i (z8v he hv) hc S hi hg ht hown hN hy hl hsw hs
end
end FT
namespace L2
variable{pins:List (Addr×Obj)}{vs:List (Key×V)}{K:K5}{tg:Expr}
theorem zY8 {k:Key}{u:Value}(h:z1P k u=true):RelV (kV k) u:=by
 rcases j7 h with ⟨i,t,rfl,rfl⟩|⟨x,t,rfl,rfl⟩
 ·exact⟨t,rfl⟩
 ·exact⟨t,rfl⟩
theorem KV.get:∀{kvs:List (Key×V)}{vs:List (Key×Value)},KV kvs vs->∀{i:Nat}{k:Key}{x:V},kvs[i]?=some (k,x)->∃u,vs[i]?=some (k,u)
 | _,_,.nil,i,k,x,e=>by simp at e
 | p::_,q::_,.cons a b,0,k,x,e=>by
  have e':p=(k,x):=by simpa using e
  subst e';obtain⟨a1,_⟩:=a;refine⟨q.2,?_⟩;show some q=_;rw[show k=q.1 from a1]
 | _::_,_::_,.cons a b,i+1,k,x,e=>KV.get b (by simpa using e)
def Itk (a:Addr) (ob:Obj) (n:Nat):It :=
 ⟨λi H=>∃vs k x,H a=some (.frz ob (.dK vs))/\vs.length=n/\vs[i]?=some (k,x),λi H y H'=>H'=H/\∀vs,H a=some (.frz ob (.dK vs))->∃k x,vs[i]?=some (k,x)/\y=kV k,λi H=>i=n/\∃vs,H a=some (.frz ob (.dK vs))/\vs.length=n⟩
theorem zu8 {X:Cx}{σ:St}{H:Hp}{s:Shared}{a:Addr}{ob:Obj}{es:Array DictEntry}{ep:Nat}(I:Inv X pins σ H s) (e:H a=some (.frz ob (.dK vs))) (hob:ob.data=.dict es ep):
 vs.length<=sizeLine/\∃us,KV vs us/\s.heap.DictAt (y9 X.prog X.w) a us ep:=by
 obtain⟨go,z,hd,us,rel,o,es',ep',ho,r⟩:=(show ObjOk X.prog X.w H s.heap a (.frz ob (.dK vs)) from I.hok a _ e);rw[go]at ho;cases ho;obtain⟨r1,r2,r3⟩:=r;have:ep'=ep:=by rw[hob]at r2;cases r2;rfl
 subst this;exact⟨z,us,rel,ob,es',go,r1,r2,r3⟩
theorem z6O {P:K1d}{w:World}(a it:Addr) (ob:Obj) (n ep:Nat){es:Array DictEntry}(hob:ob.data=.dict es ep):Turn P w K tg (Itk a ob n) [it] it (λi h=>h.IsKeyIter it a i n ep) where
 mem:=by simp
 obj:=λi h st b hb=>by
  have e:b=it:=by simpa using hb
  subst e;obtain⟨o,e,c,d⟩:=st;exact⟨o,e,λv z=>by rw[d]at z;cases z⟩
 keep:=λi h h' st k=>st.at λo e=>k it .(f) o e
 item:=by
  intro X hP hw hK hc i pins s σ H E I hf st hg;subst hP hw hK;obtain⟨vs,k,x,hq,hl,hx⟩:=hg;obtain⟨z,us,rel,dat⟩:=zu8 I hq hob;obtain⟨u,hu⟩:=rel.get hx;have le:=rel.length;have st':s.heap.IsKeyIter it a i us.length ep:=by rw[<- le,hl];exact st
  obtain⟨f0,f1,f2,f3,f4,f5⟩:=hf it .(f);refine wpAny_pyNext_dict_item st' dat hu λkey h' hkey hit' sb=>?_;have I1:Inv X pins σ H { s with heap:=h' }:=I.turned (t':=s.toks) (λb o hb e=>(sb.2 b hb).trans e) f0 f1 f3 f4 f5;have hit2:h'.IsKeyIter it a (i+1) n ep:=by rw[<- hl,le];exact hit'
  obtain⟨o,e,c,d⟩:=id hit2;exact⟨key,rfl,ze3 (s:={ s with heap:=h' }) e c d (by decide) ⟨kV k,H,I1,zY8 hkey,⟨rfl,λys hy=>by rw[hq]at hy;cases hy;exact⟨k,x,hx,rfl⟩⟩,hit2,λb hb=>(hf b hb).1⟩⟩
 done:=by
  intro X hP hw hK hc i pins s σ H E I hf st hg;subst hP hw hK;obtain⟨hi,vs,hq,hl⟩:=hg;obtain⟨z,us,rel,dat⟩:=zu8 I hq hob;have le:=rel.length;have st':s.heap.IsKeyIter it a i us.length ep:=by rw[<- le,hl];exact st
  obtain⟨f0,f1,f2,f3,f4,f5⟩:=hf it .(f);exact wpAny_pyNext_dict_end (I.ok.hd hc) st' dat (K1i .(1)) λh' eb=>⟨rfl,I.turned (t':=s.toks) (λb o hb e=>eb b o hb e) f0 f1 f3 f4 f5⟩
 self:=λ_ _ _ _ _ st h=>wpAny_pyIter_keyiter st h
section
variable {X:Cx}
def zP9 (tl:TE):TI:=λσ H R=>tl σ H λx H1=>∃a,x=.ref a/\((∃vs,H1 a=some (.dK vs)/\∀ob,R (Itk a ob vs.length) (upd H1 a (.frz ob (.dK vs))))\/∃ob vs,H1 a=some (.frz ob (.dK vs))/\R (Itk a ob vs.length) H1)
theorem zL2 {l:Expr}{tl:TE}(hl:PE X l tl):PI X tg l (zP9 tl):=by
 intro pins s σ H R I h;refine thn (hl pins s σ H _ I h) λv s1 ⟨x,H1,I1,r1,q1⟩=>?_;obtain⟨a,e,q1⟩:=q1;subst e;cases r1;rcases q1 with ⟨vs,hH,q⟩|⟨ob,vs,hH,q⟩
 ·obtain⟨z,hd,us,rel,dd⟩:=ze1 I1.hok hH;obtain⟨ob,es,ep,ho,r1,r2,r3⟩:=id dd;have dat:s1.heap.DictAt (y9 X.prog X.w) a us ep:=⟨ob,es,ho,r1,r2,r3⟩;refine wpAny_pyIter_dict hd dat ?_;have le:=rel.length;generalize hp:({ cls:=.type "dict_keyiterator",data:=.fields #[.ref a,.int 0 0,.int us.length 0,.int ep 0] }:Obj)=itO;have I2:Inv X pins σ H1 { s1 with heap:=s1.heap.push itO }:=I1.kept (t':=s1.toks) λb o e=>K8 _ e;have ho2:(s1.heap.push itO).get? a=some ob:=K8 _ ho;have I3:Inv X pins σ (upd H1 a (.frz ob (.dK vs))) { s1 with heap:=s1.heap.push itO }:=z65 (s:={ s1 with heap:=s1.heap.push itO }) (h':=s1.heap.push itO) (t':=s1.toks) I2 (by rw[hH];exact K42) (K5c _ _) ⟨_,ho2⟩ ⟨ho2,z,hd,us,rel,ob,es,ep,ho2,r1,r2,r3⟩;refine⟨s1.heap.objs.size,[s1.heap.objs.size],_,_,_,rfl,I3,z6O a _ ob vs.length ep r2,?_,λb hb=>?_,q ob⟩
  ·refine⟨itO,?_,by rw[<- hp],by rw[<- hp,le];rfl⟩;exact K0f _ (by rw[<- hp];rfl)
  ·have e:b=s1.heap.objs.size:=by simpa using hb
   subst e;refine I1.fpOk (K04 _) ?_;rw[J5 (K2r (K0c ho))];exact I1.hok.fresh (K04 _)
 ·obtain⟨go,z,hd,us,rel,dd⟩:=(show ObjOk X.prog X.w H1 s1.heap a (.frz ob (.dK vs)) from I1.hok a _ hH);obtain⟨ob',es,ep,ho,r1,r2,r3⟩:=id dd;rw[go]at ho;cases ho;have dat:s1.heap.DictAt (y9 X.prog X.w) a us ep:=⟨ob,es,go,r1,r2,r3⟩;refine wpAny_pyIter_dict hd dat ?_;have le:=rel.length;generalize hp:({ cls:=.type "dict_keyiterator",data:=.fields #[.ref a,.int 0 0,.int us.length 0,.int ep 0] }:Obj)=itO;have I2:Inv X pins σ H1 { s1 with heap:=s1.heap.push itO }:=I1.kept (t':=s1.toks) λb o e=>K8 _ e;refine⟨s1.heap.objs.size,[s1.heap.objs.size],_,_,_,rfl,I2,z6O a _ ob vs.length ep r2,?_,λb hb=>?_,q⟩
  ·refine⟨itO,?_,by rw[<- hp],by rw[<- hp,le];rfl⟩;exact K0f _ (by rw[<- hp];rfl)
  ·have e:b=s1.heap.objs.size:=by simpa using hb
   subst e;exact I1.fpOk (K04 _) (I1.hok.fresh (K04 _))
end
end L2
namespace FT
variable{K:K5}{ρ:List Addr}{kvs:List (Key×D)}{vs:List (Key×V)}
def kD:Key->D
 | .inl i=>.int i
 | .inr x=>.str x
theorem zt2 {H:Hp}(k:Key):RD K ρ H (kD k) (kV k):=by cases k<;>simp[kD,kV,RD]
def z2g (kvs:List (Key×D)):List D:=kvs.map λkv=>kD kv.1
def iDic (ma:G->M D):G->M Src:=λγ=>do
 let x <- ma γ
 match x with
 | .ref n=>λh=>match h[n]? with
  | some (.dK kvs)=>.ok (.con (z2g kvs)) (h.set n (.dF kvs))
  | some (.dF kvs)=>.ok (.con (z2g kvs)) h
  | _=>.bad
 | _=>bad
theorem RK.get {K:K5}{ρ:List Addr}{H:Hp}:∀{kvs:List (Key×D)}{vs:List (Key×V)},RK K ρ H kvs vs->∀{i:Nat}{d:D},(z2g kvs)[i]?=some d->∃k x,d=kD k/\vs[i]?=some (k,x)
 | _,_,.nil,i,d,e=>by simp[z2g]at e
 | p::_,q::_,.cons a b,0,d,e=>by
  have e':kD p.1=d:=by simpa [z2g] using e
  subst e';exact⟨q.1,q.2,by rw[a.1],rfl⟩
 | _::_,_::_,.cons a b,i+1,d,e=>RK.get b (by simpa [z2g] using e)
theorem z8u {H:Hp}{a:Addr}{ob:Obj}(e:H a=some (.frz ob (.dK vs))) (rk:RK K ρ H kvs vs):JOK K (.con (z2g kvs)) ρ H (Itk a ob vs.length):=λi ρ2 h2 H2 p2 e2 r2 _=>by
 have hq:=e2.d _ _ _ e;refine⟨λd hd=>?_,λhi=>?_⟩
 ·obtain⟨k,x,rfl,g⟩:=RK.get rk hd;refine⟨⟨vs,k,x,hq,rfl,g⟩,λy H3 ⟨z1,z2⟩=>?_⟩;subst z1;obtain⟨k',x',g',rfl⟩:=z2 vs hq;rw[g]at g';cases g';exact⟨zt2 k,r2,Ext.refl _ _⟩
 ·refine⟨?_,vs,hq,rfl⟩;have:(z2g kvs).length=i:=hi;unfold z2g at this;rw[K0d,RK.len rk]at this;exact this.symm
section
variable {X:Cx}{EX:XX}{a tg:Expr}{ma:G->M D}
theorem z8H (ha:SE X EX a ma):SI X EX tg a (iDic ma) :=
 ⟨PI.imp (zL2 ha.h) λσ H R ⟨ρ,γ,h,rel,fin⟩=>⟨ρ,γ,h,rel,(Fin.bind fin).mono λx ρ1 h1 H1 p1 e1 r1 f1 v rv=>by
  cases x<;>first|exact(show False from f1).elim|skip
  rename_i n;simp only[RD]at rv;obtain⟨q,rfl,hq⟩:=rv;refine⟨q,rfl,?_⟩;dsimp only at f1;cases e:h1[n]? with
  | none=>rw[e]at f1;exact f1.elim
  | some ob =>
   cases ob with
   | lst xs=>rw[e]at f1;exact f1.elim
   | set xs=>rw[e]at f1;exact f1.elim
   | dct=>rw[e]at f1;exact f1.elim
   | exc c=>rw[e]at f1;exact f1.elim
   | ins _ _=>rw[e]at f1;exact f1.elim
   | dK kvs =>
    rw[e]at f1;dsimp only at f1;obtain⟨a1,n1,vs,o1,d1⟩:=r1.at e;rw[hq]at n1;cases n1;refine .inl ⟨vs,o1,λob=>?_⟩;have ext:Ext X.K H1 (upd H1 q (.frz ob (.dK vs))):=Ext.upd (.inr ⟨_,o1,trivial⟩);have r2:RH X.K ρ1 (h1.set n (.dF kvs)) (upd H1 q (.frz ob (.dK vs))):=r1.setO e hq ⟨ob,vs,J6,d1.mono .(9) ext⟩;exact f1 ρ1 _ .(9) ext r2 _ (z8u J6 (d1.mono .(9) ext))
   | dF kvs =>
    rw[e]at f1;dsimp only at f1;obtain⟨a1,n1,ob,vs,o1,d1⟩:=r1.at e;rw[hq]at n1;cases n1;exact .inr ⟨ob,vs,o1,f1 ρ1 _ .(9) .(a) r1 _ (z8u o1 d1)⟩⟩⟩
end
end FT
namespace L2
variable{K:K5}{tg:Expr}
def Itw (K:K5) (a:Addr) (n:Nat):It :=
 ⟨λi H=>∃xs x,SqL K H a xs/\xs.length=n/\i<n/\xs[n - 1 - i]?=some x,λi H x H'=>H'=H/\∀xs,SqL K H a xs->xs[n - 1 - i]?=some x,λi H=>i=n⟩
theorem zm4 {P:K1d}{w:World}(a it:Addr) (n:Nat):Turn P w K tg (Itw K a n) [it] it (λi h=>h.IsRevIter it a ((n:Int) - 1 - i)) where
 mem:=by simp
 obj:=λi h st b hb=>by
  have e:b=it:=by simpa using hb
  subst e;obtain⟨o,e,c,d⟩:=st;exact⟨o,e,λv z=>by rw[d]at z;cases z⟩
 keep:=λi h h' st k=>st.at λo e=>k it .(f) o e
 item:=by
  intro X hP hw hK hc i pins s σ H E I hf st hg;subst hP hw hK;obtain⟨xs,x,hq,hl,hi,hx⟩:=hg;obtain⟨its,rv,p,hz⟩:=I.list hq;obtain⟨u,hu,ru⟩:=rv.get hx;have le:=rv.length;obtain⟨f0,f1,f2,f3,f4,f5⟩:=hf it .(f);have st':s.heap.IsRevIter it a ((n - 1 - i:Nat):Int):=by
   have e:((n - 1 - i:Nat):Int)=(n:Int) - 1 - i:=by omega
   rw[e];exact st
  refine wpAny_pyNext_rev_item st' p.isList (x:=u) (by simpa using hu) λh' e' sb=>?_;have I1:Inv X pins σ H { s with heap:=h' }:=I.turned (t':=s.toks) (λb o hb e=>(sb.2 b hb).trans e) f0 f1 f3 f4 f5;have e2:h'.IsRevIter it a ((n:Int) - 1 - (i+1:Nat)):=by
   have e:((n - 1 - i:Nat):Int) - 1=(n:Int) - 1 - (i+1:Nat):=by omega
   rw[<- e];exact e'
  obtain⟨o,eo,c,d⟩:=id e2;exact⟨u,rfl,ze3 (s:={ s with heap:=h' }) eo c d (by decide) ⟨x,H,I1,ru,⟨rfl,λys hy=>by rw[I.list_inj hy hq];exact hx⟩,e2,λb hb=>(hf b hb).1⟩⟩
 done:=by
  intro X hP hw hK hc i pins s σ H E I hf st hg;subst hP hw hK;have hg:i=n:=hg;subst hg;obtain⟨f0,f1,f2,f3,f4,f5⟩:=hf it .(f);have st':s.heap.IsRevIter it a (-1):=by
   have e:(i:Int) - 1 - i=-1:=by omega
   rw[<- e];exact st
  exact wpAny_pyNext_rev_end (I.ok.hd hc) st' λh' eb=>⟨rfl,I.turned (t':=s.toks) (λb o hb e=>eb b o hb e) f0 f1 f3 f4 f5⟩
 self:=λ_ _ _ _ _ st h=>wpAny_pyIter_revIter st h
section
variable {X:Cx}
def iRvL (K:K5) (ta:TA):TI:=λσ H R=>ta σ H λvs H1=>∃a xs,vs=[.ref a]/\SqL K H1 a xs/\R (Itw K a xs.length) H1
theorem zX3 {e:Expr}{ta:TA}{p pos:Pos}(hg:Gl X "reversed") (hm:X.mg "reversed" = none) (ha:PA X [e] ta) (hs:K0h [e] X.env=[(false,eval e X.env)]:=by rfl):PI X tg (.Call (.Name "reversed" p) [e] [] pos) (iRvL X.K ta):=by
 intro pins s σ H R I h;refine Call_ (z3V I hg hm boot_reversed (K30 (thn (ha pos pins s σ H _ I h) λus s1 ⟨vs,H1,I1,r1,q1⟩=>?_) hs rfl));obtain⟨a,xs,e,hq,q⟩:=q1;subst e;obtain⟨u,rfl,ru⟩:=vals1 r1;cases ru;obtain⟨its,rv,pl,hz⟩:=I1.list hq;have le:=rv.length;refine call_reversed_list pl.isList ?_;have I2:Inv X pins σ H1 { s1 with heap:=s1.heap.push (revObj a ((its.toArray.size:Int) - 1)) }:=I1.kept (t':=s1.toks) λb o e=>K8 _ e;have gt:(s1.heap.push (revObj a ((its.toArray.size:Int) - 1))).IsRevIter s1.heap.objs.size a ((xs.length:Int) - 1 - (0:Nat)):=by
  refine⟨_,K0f _ rfl,rfl,?_⟩;have e:((its.toArray.size:Nat):Int) - 1=(xs.length:Int) - 1 - (0:Nat):=by rw[K0a,le];omega
  rw[<- e];rfl
 have T:=zm4 (P:=X.prog) (w:=X.w) (K:=X.K) (tg:=tg) a s1.heap.objs.size xs.length;refine T.self X.A 0 _ _ _ gt ?_;refine⟨s1.heap.objs.size,[s1.heap.objs.size],_,_,H1,rfl,I2,T,gt,λb hb=>?_,q⟩;have e:b=s1.heap.objs.size:=by simpa using hb
 subst e;exact I1.fpOk (K04 _) (I1.hok.fresh (K04 _))
end
end L2
namespace FT
variable{pos:Pos}{ma:G->M D}{w wt:List (Nat×Bool)}{E Q:Value->Shared->Prop}{st:List (List Nat)}{x y n c:Nat}{l done T:List Nat}{h h1 j:AH}{f:Nat->List Nat}{cap:List (Option Nat)}{g:D->G->M G}{kb:G->M Bool}{src:Src}{o o':O}
def zq3 (ma:G->M D):G->M Src:=λγ=>do
 let x <- ma γ
 match x with
 | .ref n=>do
  let xs <- getL n
  pure (.obj n (.lst xs) xs.reverse)
 | _=>bad
section
variable {X:Cx}{EX:XX}{a tg:Expr}{p:Pos}
theorem zK3 (hg:Gl X "reversed") (hm:X.mg "reversed" = none) (ha:SE X EX a ma) (hs:K0h [a] X.env=[(false,eval a X.env)]:=by rfl):SI X EX tg (.Call (.Name "reversed" p) [a] [] pos) (zq3 ma) :=
 ⟨PI.imp (zX3 hg hm (z1p ha.h z3a hs) hs) λσ H R ⟨ρ,γ,h,rel,fin⟩=>⟨ρ,γ,h,rel,(Fin.bind fin).mono λx ρ1 h1 H1 p1 e1 r1 f1 v rv=>by
  cases x<;>first|exact(show False from f1).elim|skip
  rename_i n;simp only[RD]at rv;obtain⟨q,rfl,hq⟩:=rv;have f2:=Fin.bind (show Fin X.K EX ρ1 H1 (λsrc ρ' _ H'=>∀J,JOK X.K src ρ' H' J->R J H') ((getL n >>= λxs=>(pure (.obj n (.lst xs) xs.reverse):M Src)) h1) from f1);cases e3:getL n h1 with
  | bad=>rw[e3]at f2;exact f2.elim
  | err z hz=>exact(z1J e3).elim
  | ok xs h3 =>
   obtain⟨rfl,q1⟩:=z1M e3;rw[e3]at f2;obtain⟨a1,n1,vs,o1,d1⟩:=r1.at q1;rw[hq]at n1;cases n1;have f3:=f2 ρ1 H1 .(9) .(a) r1;have f4:=f3 ρ1 H1 .(9) .(a) r1;have hl:=d1.length;refine⟨q,vs,rfl,SqL.of o1,f4 _ λi ρ2 h4 H2 p2 e2 r2 good=>?_⟩;have good:h4[n]?=.(l xs):=good;obtain⟨a2,n2,us,o2,d2⟩:=r2.at good;rw[p2 _ _ hq]at n2;cases n2;have hl2:=d2.length;refine⟨λd hd=>?_,λhi=>?_⟩
   ·have hd':xs.reverse[i]?=some d:=hd;have hi:=(K02.mp hd').1;rw[K4m]at hi;rw[List.getElem?_reverse hi]at hd';obtain⟨x,g1,g2⟩:=d2.get hd';refine⟨⟨us,x,SqL.of o2,by omega,by omega,by rw[<- hl];exact g1⟩,λy H3 ⟨z1,z2⟩=>?_⟩;subst z1;have:=z2 us (SqL.of o2);rw[<- hl,g1]at this;cases this;exact⟨g2,r2,Ext.refl _ _⟩
   ·have hi':xs.reverse.length=i:=hi;rw[K4m]at hi';show i=vs.length;omega⟩⟩
end
section
variable {P:K1d}{w:World}{A:Around}{s:Shared}
theorem zr0 (h:Q (.ref s.heap.objs.size) { s with heap:=s.heap.push (Y4 w) }):
 K4w (model P w) A (.call (.builtin "set.__new__") ⟨[.type "set"],[]⟩) (wants Q E) s:=by
 refine K56 (show wpAny _ A.in1 (do K8q "set.__new__" ⟨[.type "set"],[]⟩;again (.builtin "set.__new__" ⟨[.type "set"],[]⟩)) _ _ s from ?_);refine K2 (K6z F.newCall_set_0 (K6 ⟨K59 K78 _,K2p F.entry_set_new ?_⟩));rw[K28 K78 _];unfold Builtin.«set.__new__» K7g;have hz:=K8z;obtain⟨hp,g,d,tk,os⟩:=s;dsimp only
 wp_walk
 refine K27 (K6 ?_);dsimp only;simp only[newObj];refine K2 (Z2n (K6 ?_));exact K6 h
theorem zk1 (h:Q (.ref s.heap.objs.size) { s with heap:=s.heap.push (Y4 w) }):wpAny (model P w) A (call (.type "set") []) Q E s:=by
 obtain⟨c,tl,hmro⟩:=K2c.mro;have hmade:=K2c.made;have hsub:=K2c.sub;refine K8x (K56 ?_);show wpAny _ _ (callAny (.type "set") _) _ _ _;refine K6 ⟨Z1m _ .(3),K2p Z29 ?_⟩;rw[Z1g (K9e "set" [] []) rfl];have h1:=K2c.notType;have h2:=K2c.canCreate;have hct:=F.typeCall_set_0
 repeat (any_goals (first|assumption|wp_step))
 refine K3v (zr0 (E:=E) (Q:=λobj s₁=>obj=.ref .(2)/\s₁={ s with heap:=s.heap.push (Y4 w) }) ⟨rfl,rfl⟩) λr s₁ hr=>?_;cases r with
 | error e=>exact hr
 | ok fl =>
  cases fl with
  | next=>exact hr.elim
  | brk=>exact hr.elim
  | cont=>exact hr.elim
  | ret obj =>
   obtain⟨rfl,rfl⟩:=hr;have gS:(s.heap.push (Y4 w)).get? .(2)=some (Y4 w):=K0f _ rfl;have tS:K5r { s with heap:=s.heap.push (Y4 w) } (.ref .(2)) "set":=⟨_,gS,rfl⟩;have y1:=K2c.init.lookup;have y2:=K2c.init.bind (.ref .(2))
   repeat (any_goals (first|assumption|wp_step))
   refine K3v (K73 (R:=wants (λr s₂=>r=.none/\Q (.ref .(2)) s₂) E) K2c.init.plain F.entry_set_init (check_set_init tS ?_)) λr₂ s₂ hr₂=>?_
   ·unfold Builtin.«set.__init__» noKeywords
    wp_walk
    exact⟨rfl,h⟩
   ·cases r₂ with
    | error e=>exact hr₂
    | ok fl₂ =>
     cases fl₂ with
     | ret r =>
      obtain⟨rfl,hq⟩:=hr₂
      repeat (any_goals (first|assumption|wp_step))
     | _=>exact hr₂.elim
end
section
variable {X:Cx}{EX:XX}{p:Pos}
def Z0C:TE:=λ_ H Q=>∀q,H q=none->Q (.ref q) (upd H q (.set []))
theorem zD7 (hg:Gl X "set") (hm:X.mg "set" = none):PE X (.Call (.Name "set" p) [] [] pos) Z0C:=by
 intro pins s σ H Q I h;refine Call_ (z3V I hg hm .(3) (PyProof.Rows.callWith_type0 (zk1 ?_)));exact⟨.ref .(2),_,I.laid (t':=s.toks) (o:=.set []) (λ_ _ e=>K8 _ e) (K04 _) fresh_at,rfl,h _ I.fresh⟩
theorem zB4 (hg:Gl X "set") (hm:X.mg "set" = none):SE X EX (.Call (.Name "set" p) [] [] pos) (λ_=>newSet []) :=
 ⟨PE.imp (zD7 hg hm) λσ H Q ⟨ρ,γ,h,rel,fin⟩ q hq=>z3x rel.h hq fin⟩
end
def Mut2 (st:List (List Nat)) (x y:Nat):Prop:=Rch st x y/\Rch st y x
section
variable {z:Nat}
theorem Rch.trans (a:Rch st x y) (b:Rch st y z):Rch st x z:=by
 induction b with
 | here=>exact a
 | step _ h ih=>exact ih.step h
theorem Mut2.refl:Mut2 st x x:=⟨.here,.here⟩
theorem Mut2.symm (a:Mut2 st x y):Mut2 st y x:=⟨a.2,a.1⟩
theorem Mut2.trans (a:Mut2 st x y) (b:Mut2 st y z):Mut2 st x z:=⟨a.1.trans b.1,b.2.trans a.2⟩
theorem Rch.leaves {F:List Nat}(h:Rch st x y) (hx:x∈F) (hy:y∉F):∃a b,a∈F/\b∉F/\b∈nx st a/\Rch st x a/\Rch st b y:=by
 induction h with
 | here=>exact(hy hx).elim
 | @step a b h1 h2 ih =>
  by_cases ha:a∈F
  ·exact⟨a,b,ha,hy,h2,h1,.here⟩
  ·obtain⟨c,d,q1,q2,q3,q4,q5⟩:=ih ha;exact⟨c,d,q1,q2,q3,q4,q5.step h2⟩
end
structure KS where
 seen:List Nat
 ord:List Nat
 wt:List (Nat×Bool)
def z45 (L:Nat->List Nat) (s:KS):KS :=
 match s.wt.getLast? with
 | none=>s
 | some (x,true)=>⟨s.seen,s.ord++[x],s.wt.dropLast⟩
 | some (x,false)=>if x∈s.seen then ⟨s.seen,s.ord,s.wt.dropLast⟩ else ⟨s.seen++[x],s.ord,s.wt.dropLast++[(x,true)]++(L x).map λy=>(y,false)⟩
def opens (wt:List (Nat×Bool)):List Nat:=(wt.filter λp=>p.2).map (·.1)
structure KI (st:List (List Nat)) (V:List Nat) (s:KS):Prop where
 nd:s.seen.Nodup
 sub:∀x∈s.seen,x∈V
 wv:∀p∈s.wt,p.1∈V
 so:∀x,x∈s.seen↔x∈s.ord\/x∈opens s.wt
 on:(s.ord++opens s.wt).Nodup
 root:∀x∈V,x∈s.seen\/(x,false)∈s.wt
 nxo:∀l r x,s.wt=l++(x,true)::r->∀y∈nx st x,y∈s.seen\/(y,false)∈r
 nxf:∀x∈s.ord,∀y∈nx st x,y∈s.seen
 ch:∀l r x,s.wt=l++(x,true)::r->∀p∈r,Rch st x p.1
 q:∀y∈s.ord,∀v,v∉s.ord->Rch st y v->∃z,z∉s.ord/\Mut2 st z y
 k:∀l x r,s.ord=l++x::r->∀y∈l,Rch st y x->∃z,z∉l/\Mut2 st z y
theorem z2t (a b:List (Nat×Bool)):opens (a++b)=opens a++opens b:=by unfold opens;rw[K7k,K38]
theorem z7t (l:List Nat):opens (l.map λy=>(y,false))=[]:=by
 induction l with
 | nil=>rfl
 | cons a l ih=>exact ih
theorem mem_opens:x∈opens wt↔(x,true)∈wt:=by
 unfold opens;rw[K1g];constructor
 ·rintro⟨⟨a,b⟩,h,rfl⟩;obtain⟨h1,h2⟩:=K06.mp h;have:b=true:=h2;subst this;exact h1
 ·exact λh=>⟨(x,true),K06.mpr ⟨h,rfl⟩,rfl⟩
theorem z6b {α:Type}{w:List α}{p a:α}{l r:List α}(e:w++[p]=l++a::r):(r=[]/\l=w/\a=p)\/∃r',r=r'++[p]/\w=l++a::r':=by
 rcases K21 r with rfl|⟨r',q,rfl⟩
 ·have e2:=Z2k e rfl;exact .inl ⟨rfl,e2.1.symm,by have:=e2.2;simpa using this.symm⟩
 ·rw[K22]at e ⊢;rw[<- Z2j,<- K05]at e;have e2:=Z2k e rfl;exact .inr ⟨r',by have:=e2.2;simp at this;rw[this],e2.1⟩
theorem cutF {w l:List (Nat×Bool)}{x a:Nat}:∀(n:Nat) (N:List Nat),N.length=n->∀r,w++[(x,true)]++N.map (λy=>(y,false))=l++(a,true)::r->(a=x/\r=N.map λy=>(y,false))\/∃r',w=l++(a,true)::r'/\r=r'++[(x,true)]++N.map λy=>(y,false)
 | 0,N,hn,r,e2=>by
  have:N=[]:=K2j.mp hn;subst this;rw[K2a,K13]at e2;rcases z6b e2 with ⟨rfl,rfl,h⟩|⟨r',rfl,e3⟩
  ·exact .inl ⟨by injection h,rfl⟩
  ·exact .inr ⟨r',e3,by simp⟩
 | n+1,N,hn,r,e2=>by
  rcases K21 N with rfl|⟨N,y,rfl⟩
  ·simp at hn
  ·rw[K22]at *;rw[K38,K0v,K2a,<- K05]at e2;rcases z6b e2 with ⟨_,_,h⟩|⟨r',rfl,e3⟩
   ·injection h with _ h;cases h
   ·rcases cutF n N (by simpa using hn) r' e3 with ⟨q1,q2⟩|⟨r2,q1,q2⟩
    ·exact .inl ⟨q1,by rw[q2];simp⟩
    ·exact .inr ⟨r2,q1,by rw[q2];simp⟩
section
variable {V:List Nat}{s:KS}
theorem zQ5 (i:KI st V s) (e:s.wt=w++[(x,true)]):KI st V ⟨s.seen,s.ord++[x],w⟩:=by
 have eo:opens s.wt=opens w++[x]:=by rw[e,z2t];rfl
 have nxx:∀y∈nx st x,y∈s.seen:=λy hy=>by
  rcases i.nxo w [] x (by rw[e]) y hy with z|z
  ·exact z
  ·cases z
 have xn:x∉s.ord:=λq=>by
  have:=i.on;rw[eo]at this;exact(K1c.mp this).2.2 x q x .(f) rfl
 have so':∀a,a∈s.seen↔a∈s.ord++[x]\/a∈opens w:=λa=>by
  rw[i.so a,eo];simp only[K00,K0j];constructor
  ·rintro(q|q|q)
   ·exact .inl (.inl q)
   ·exact .inr q
   ·exact .inl (.inr q)
  ·rintro((q|q)|q)
   ·exact .inl q
   ·exact .inr (.inr q)
   ·exact .inr (.inl q)
 have below:∀b∈opens w,Rch st b x:=λb hb=>by
  obtain⟨l,r,e2⟩:=List.append_of_mem (mem_opens.mp hb);exact i.ch l (r++[(x,true)]) b (by rw[e,e2];simp) (x,true) .(f)
 have qx:∀v,v∉s.ord++[x]->Rch st x v->∃z,z∉s.ord++[x]/\Mut2 st z x:=λv hv h=>by
  obtain⟨a,b,q1,q2,q3,q4,_⟩:=h.leaves (F:=s.ord++[x]) .(f) hv;have bs:b∈s.seen:=by
   rcases K00.mp q1 with z|z
   ·exact i.nxf a z b q3
   ·simp at z;subst z;exact nxx b q3
  rcases(so' b).mp bs with z|z
  ·exact(q2 z).elim
  ·exact⟨b,q2,below b z,q4.step q3⟩
 refine⟨i.nd,i.sub,λp hp=>i.wv p (by rw[e];exact K0l _ hp),so',?_,λa ha=>?_,λl r a e2 y hy=>?_,λa ha y hy=>?_,λl r a e2 p hp=>?_,λy hy v hv h=>?_,λl a r e2 y hy h=>?_⟩
 ·have:=i.on;rw[eo]at this;show (s.ord++[x]++opens w).Nodup;refine(List.Perm.nodup_iff ?_).mp this;rw[K05];exact K97 _ List.perm_append_comm
 ·rcases i.root a ha with z|z
  ·exact .inl z
  ·rw[e]at z;rcases K00.mp z with z|z
   ·exact .inr z
   ·simp at z
 ·have e2:w=l++(a,true)::r:=e2;rcases i.nxo l (r++[(x,true)]) a (by rw[e,e2];simp) y hy with z|z
  ·exact .inl z
  ·rcases K00.mp z with z|z
   ·exact .inr z
   ·simp at z
 ·rcases K00.mp ha with z|z
  ·exact i.nxf a z y hy
  ·simp at z;subst z;exact nxx y hy
 ·have e2:w=l++(a,true)::r:=e2;exact i.ch l (r++[(x,true)]) a (by rw[e,e2];simp) p (K0l _ hp)
 ·rcases K00.mp hy with z|z
  ·obtain⟨u,u1,u2⟩:=i.q y z v (λt=>hv (K0l _ t)) h;by_cases ux:u=x
   ·subst ux;obtain⟨t,t1,t2⟩:=qx v hv (u2.1.trans h);exact⟨t,t1,t2.trans u2⟩
   ·exact⟨u,λt=>by rcases K00.mp t with t|t;exact u1 t;simp at t;exact ux t,u2⟩
  ·simp at z;subst z;exact qx v hv h
 ·have e2:s.ord++[x]=l++a::r:=e2;rcases z6b e2 with ⟨rfl,rfl,rfl⟩|⟨r',rfl,e3⟩
  ·exact i.q y hy a xn h
  ·exact i.k l a r' e3 y hy h
theorem zB7 (i:KI st V s) (e:s.wt=w++[(x,false)]) (hx:x∈s.seen):KI st V ⟨s.seen,s.ord,w⟩:=by
 have eo:opens s.wt=opens w:=by rw[e,z2t];simp[opens]
 refine⟨i.nd,i.sub,λp hp=>i.wv p (by rw[e];exact K0l _ hp),λa=>by rw[i.so a,eo],by have:=i.on;rw[eo]at this;exact this,λa ha=>?_,λl r a e2 y hy=>?_,i.nxf,λl r a e2 p hp=>?_,i.q,i.k⟩
 ·rcases i.root a ha with z|z
  ·exact .inl z
  ·rw[e]at z;rcases K00.mp z with z|z
   ·exact .inr z
   ·simp at z;subst z;exact .inl hx
 ·have e2:w=l++(a,true)::r:=e2;rcases i.nxo l (r++[(x,false)]) a (by rw[e,e2];simp) y hy with z|z
  ·exact .inl z
  ·rcases K00.mp z with z|z
   ·exact .inr z
   ·simp at z;subst z;exact .inl hx
 ·have e2:w=l++(a,true)::r:=e2;exact i.ch l (r++[(x,false)]) a (by rw[e,e2];simp) p (K0l _ hp)
theorem zJ4 (i:KI st V s) (nv:∀y∈nx st x,y∈V) (e:s.wt=w++[(x,false)]) (hx:x∉s.seen):KI st V ⟨s.seen++[x],s.ord,w++[(x,true)]++(nx st x).map λy=>(y,false)⟩:=by
 have eo:opens s.wt=opens w:=by rw[e,z2t];simp[opens]
 have en:opens (w++[(x,true)]++(nx st x).map λy=>(y,false))=opens w++[x]:=by rw[z2t,z2t,z7t,K13];rfl
 have xo:x∉s.ord++opens w:=λq=>hx ((i.so x).mpr (by rw[eo];exact K00.mp q));have xv:x∈V:=i.wv (x,false) (by rw[e];simp);have cut:∀{l r:List (Nat×Bool)} {a:Nat},w++[(x,true)]++(nx st x).map (λy=>(y,false))=l++(a,true)::r->(a=x/\r=(nx st x).map λy=>(y,false))\/∃r',w=l++(a,true)::r'/\r=r'++[(x,true)]++(nx st x).map λy=>(y,false):=λ{l r a} e2=>cutF _ _ rfl r e2;refine⟨?_,λa ha=>?_,λp hp=>?_,λa=>?_,?_,λa ha=>?_,λl r a e2 y hy=>?_,λa ha y hy=>K0l _ (i.nxf a ha y hy),λl r a e2 p hp=>?_,i.q,i.k⟩
 ·rw[K1c];exact⟨i.nd,by simp,λa ha b hb h=>hx (by simp at hb;subst hb;exact h ▸ ha)⟩
 ·rcases K00.mp ha with z|z
  ·exact i.sub a z
  ·simp at z;subst z;exact xv
 ·have hp:p∈w++[(x,true)]++(nx st x).map λy=>(y,false):=hp;rcases K00.mp hp with z|z
  ·rcases K00.mp z with z|z
   ·exact i.wv p (by rw[e];exact K0l _ z)
   ·simp at z;subst z;exact xv
  ·obtain⟨y,hy,rfl⟩:=K1g.mp z;exact nv y hy
 ·show a∈s.seen++[x]↔a∈s.ord\/a∈opens (w++[(x,true)]++(nx st x).map λy=>(y,false));rw[en,K00,i.so a,eo,K00,or_assoc]
 ·show (s.ord++opens (w++[(x,true)]++(nx st x).map λy=>(y,false))).Nodup;rw[en,<- K05,K1c];have:=i.on;rw[eo]at this;exact⟨this,by simp,λa ha b hb h=>by simp at hb;subst hb;exact xo (h ▸ ha)⟩
 ·show a∈s.seen++[x]\/(a,false)∈w++[(x,true)]++(nx st x).map λy=>(y,false);rcases i.root a ha with z|z
  ·exact .inl (K0l _ z)
  ·rw[e]at z;rcases K00.mp z with z|z
   ·exact .inr (K0l _ (K0l _ z))
   ·simp at z;subst z;exact .inl .(f)
 ·rcases cut e2 with ⟨rfl,rfl⟩|⟨r',e3,rfl⟩
  ·exact .inr (K1g.mpr ⟨y,hy,rfl⟩)
  ·rcases i.nxo l (r'++[(x,false)]) a (by rw[e,e3];simp) y hy with z|z
   ·exact .inl (K0l _ z)
   ·rcases K00.mp z with z|z
    ·exact .inr (K0l _ (K0l _ z))
    ·simp at z;subst z;exact .inl .(f)
 ·rcases cut e2 with ⟨rfl,rfl⟩|⟨r',e3,rfl⟩
  ·obtain⟨y,hy,rfl⟩:=K1g.mp hp;exact Rch.here.step hy
  ·have ax:Rch st a x:=i.ch l (r'++[(x,false)]) a (by rw[e,e3];simp) (x,false) .(f);rcases K00.mp hp with z|z
   ·rcases K00.mp z with z|z
    ·exact i.ch l (r'++[(x,false)]) a (by rw[e,e3];simp) p (K0l _ z)
    ·simp at z;subst z;exact ax
   ·obtain⟨y,hy,rfl⟩:=K1g.mp z;exact ax.step hy
end
section
variable {V:List Nat}{s:KS}
theorem zC7 (hv:∀x∈V,∀y∈nx st x,y∈V) (i:KI st V s):KI st V (z45 (nx st) s):=by
 unfold z45;rcases K21 s.wt with e|⟨w,⟨x,b⟩,e⟩
 ·rw[e];exact i
 ·rw[K22]at e;rw[e,K4e];cases b with
  | true =>
   show KI st V ⟨s.seen,s.ord++[x],(w++[(x,true)]).dropLast⟩;rw[K2l];exact zQ5 i e
  | false =>
   show KI st V (if x∈s.seen then ⟨s.seen,s.ord,(w++[(x,false)]).dropLast⟩ else ⟨s.seen++[x],s.ord,(w++[(x,false)]).dropLast++[(x,true)]++(nx st x).map λy=>(y,false)⟩);rw[K2l];split
   ·rename_i h;exact zB7 i e h
   ·rename_i h;exact zJ4 i (hv x (i.wv (x,false) (by rw[e];simp))) e h
def z53 (V:List Nat):KS:=⟨[],[],V.map λx=>(x,false)⟩
theorem zf4 {l r:List (Nat×Bool)}(e:V.map (λx=>(x,false))=l++(x,true)::r):False:=by
 have:(x,true)∈V.map λx=>(x,false):=by rw[e];simp
 obtain⟨_,_,h⟩:=K1g.mp this;injection h with _ h
 cases h
theorem zJ1:KI st V (z53 V) where
 nd:=K43
 sub:=λx hx=>by cases hx
 wv:=λp hp=>by
  obtain⟨x,hx,rfl⟩:=K1g.mp hp;exact hx
 so:=λx=>by
  show x∈[]↔x∈[]\/x∈opens (V.map λx=>(x,false));rw[z7t];simp
 on:=by
  show ([]++opens (V.map λx=>(x,false))).Nodup;rw[z7t];exact K43
 root:=λx hx=>.inr (K1g.mpr ⟨x,hx,rfl⟩)
 nxo:=λl r x e=>(zf4 e).elim
 nxf:=λx hx=>by cases hx
 ch:=λl r x e=>(zf4 e).elim
 q:=λx hx=>by cases hx
 k:=λl x r e=>by
  have e:([]:List Nat)=l++x::r:=e;cases l<;>cases e
def kRun (st:List (List Nat)) (V:List Nat):Nat->KS
 | 0=>z53 V
 | n+1=>z45 (nx st) (kRun st V n)
theorem z8N (hv:∀x∈V,∀y∈nx st x,y∈V):∀n,KI st V (kRun st V n)
 | 0=>zJ1
 | n+1=>zC7 hv (z8N hv n)
theorem z6W {n:Nat}(h:(kRun st V n).wt=[]):∀m,kRun st V (n+m)=kRun st V n
 | 0=>rfl
 | m+1=>by
  show z45 (nx st) (kRun st V (n+m))=_;rw[z6W h m];unfold z45;rw[h];rfl
def kMu (V:List Nat) (s:KS):Nat:=s.wt.length+41 * (V.length - s.seen.length)
def kEnd (st:List (List Nat)) (V:List Nat):List Nat:=(kRun st V 3000).ord
theorem zb5 (h:(kRun st V n).wt=[]) (hn:n<=3000):kEnd st V=(kRun st V n).ord:=by
 have:=z6W h (3000 - n);unfold kEnd;rw[<- this,show n+(3000 - n)=3000 by omega]
structure KEnd (st:List (List Nat)) (V O:List Nat):Prop where
 nd:O.Nodup
 mem:∀x,x∈O↔x∈V
 k:∀l x r,O=l++x::r->∀y∈l,Rch st y x->∃z,z∉l/\Mut2 st z y
theorem Z0b (i:KI st V s) (h:s.wt=[]):KEnd st V s.ord:=by
 have so:∀x,x∈s.seen↔x∈s.ord:=λx=>by rw[i.so x,h];simp[opens]
 refine⟨(K1c.mp i.on).1,λx=>⟨λq=>i.sub x ((so x).mpr q),λq=>?_⟩,i.k⟩;rcases i.root x q with z|z
 ·exact(so x).mp z
 ·rw[h]at z;cases z
end
open Classical in
noncomputable def scc (st:List (List Nat)) (V:List Nat) (x:Nat):List Nat:=V.filter λa=>decide (Mut2 st x a)
theorem scc_mem {V:List Nat}{a:Nat}:a∈scc st V x↔a∈V/\Mut2 st x a:=by unfold scc;simp
noncomputable def addP (st:List (List Nat)) (V:List Nat) (P:List (List Nat)) (x:Nat):List (List Nat):=if x∈P.flatten then P else P++[scc st V x]
noncomputable def partsOf (st:List (List Nat)) (V R:List Nat):List (List Nat):=R.foldl (addP st V) []
theorem z3G {V R:List Nat}:partsOf st V (R++[x])=addP st V (partsOf st V R) x:=by unfold partsOf;rw[K6g];rfl
def Trn (s1 s2:List (List Nat)):Prop:=∀x y,y∈nx s2 x↔x∈nx s1 y
section
variable {s1 s2:List (List Nat)}{V:List Nat}
theorem Rch.turn (t:Trn s1 s2) (h:Rch s2 x y):Rch s1 y x:=by
 induction h with
 | here=>exact .here
 | step _ h2 ih=>exact(Rch.here.step ((t _ _).mp h2)).trans ih
theorem Rch.back (t:Trn s1 s2) (h:Rch s1 x y):Rch s2 y x:=by
 induction h with
 | here=>exact .here
 | step _ h2 ih=>exact(Rch.here.step ((t _ _).mpr h2)).trans ih
theorem Rch.inV (hv:∀x∈V,∀y∈nx st x,y∈V) (h:Rch st x y) (hx:x∈V):y∈V:=by
 induction h with
 | here=>exact hx
 | step _ h2 ih=>exact hv _ ih _ h2
structure MI (s1:List (List Nat)) (V done T:List Nat):Prop where
 cl:∀a∈T,∀b∈nx s1 a,b∈T
 dn:∀a∈done,a∈T
 tv:∀a∈T,a∈V
theorem MI.rch (m:MI s1 V done T){a b:Nat}(ha:a∈T) (h:Rch s1 a b):b∈T:=by
 induction h with
 | here=>exact ha
 | step _ h2 ih=>exact m.cl _ ih _ h2
theorem z7w {O S:List Nat}(hv:∀x∈V,∀y∈nx s1 x,y∈V) (t:Trn s1 s2) (ke:KEnd s2 V O) (e:O=l++x::done) (m:MI s1 V done T) (hx:x∉T) (f:FndT s1 T x S) (c:∀a∈S,∀b∈nx s1 a,b∈S\/b∈T) (a:Nat):a∈S↔a∈scc s1 V x:=by
 have xV:x∈V:=(ke.mem x).mp (by rw[e];simp);have hv2:∀x∈V,∀y∈nx s2 x,Rch s2 x y:=λx _ y hy=>Rch.here.step hy;have plain:∀{b},RchT s1 T x b->Rch s1 x b:=λh=>by
  induction h with
  | here=>exact .here
  | step _ h2 _ ih=>exact ih.step h2
 rw[scc_mem];constructor
 ·intro ha;have r1:=plain (f.rc a ha);have aV:=r1.inV hv xV;refine⟨aV,?_⟩;have aT:=f.nt a ha;have aO:=(ke.mem a).mpr aV;rw[e]at aO;rcases K00.mp aO with q|q
  ·obtain⟨z,z1,z2⟩:=ke.k l x done e a q (r1.back t);have z3:Rch s1 a z:=z2.1.turn t;have zV:z∈V:=z3.inV hv aV;have zO:=(ke.mem z).mpr zV;rw[e]at zO;rcases K00.mp zO with u|u
   ·exact(z1 u).elim
   ·rcases K0y.mp u with u|u
    ·subst u;exact⟨r1,z3⟩
    ·exact(aT (m.rch (m.dn z u) (z2.2.turn t))).elim
  ·rcases K0y.mp q with q|q
   ·subst q;exact Mut2.refl
   ·exact(aT (m.dn a q)).elim
 ·rintro⟨aV,h⟩;have aT:a∉T:=λq=>hx (m.rch q h.2);have av:∀{b},Rch s1 x b->b∉T->RchT s1 T x b:=λh=>by
   induction h with
   | here=>exact λ_=>.here
   | step h1 h2 ih=>exact λq=>(ih λz=>q (m.cl _ z _ h2)).step h2 q
  exact zJ2 f.hx (λa ha b hb=>c a ha b hb) (av h.1 aT)
theorem zu2 {O S:List Nat}(hv:∀x∈V,∀y∈nx s1 x,y∈V) (t:Trn s1 s2) (ke:KEnd s2 V O) (e:O=l++x::done) (m:MI s1 V done T) (hx:x∉T) (f:FndT s1 T x S) (c:∀a∈S,∀b∈nx s1 a,b∈S\/b∈T):MI s1 V (x::done) (T++S):=by
 refine⟨λa ha b hb=>?_,λa ha=>?_,λa ha=>?_⟩
 ·rcases K00.mp ha with q|q
  ·exact K0l _ (m.cl a q b hb)
  ·rcases c a q b hb with z|z
   ·exact K0z _ z
   ·exact K0l _ z
 ·rcases K0y.mp ha with q|q
  ·subst q;exact K0z _ f.hx
  ·exact K0l _ (m.dn a q)
 ·rcases K00.mp ha with q|q
  ·exact m.tv a q
  ·exact(scc_mem.mp ((z7w hv t ke e m hx f c a).mp q)).1
theorem zb7 (m:MI s1 V done T) (hx:x∈T):MI s1 V (x::done) T :=
 ⟨m.cl,λa ha=>by rcases K0y.mp ha with q|q;subst q;exact hx;exact m.dn a q,m.tv⟩
end
section
variable {V:List Nat}{s:KS}
theorem zk9 (hv:∀x∈V,(nx st x).length<=40/\∀y∈nx st x,y∈V) (i:KI st V s) (h:s.wt≠[]):kMu V (z45 (nx st) s)+1<=kMu V s:=by
 have sl:s.seen.length<=V.length:=K0w i.nd λx hx=>i.sub x hx;unfold z45;rcases K21 s.wt with e|⟨w,⟨x,b⟩,e⟩
 ·exact(h e).elim
 ·rw[K22]at e;have wl:s.wt.length=w.length+1:=by rw[e];simp
  rw[e,K4e];cases b with
  | true =>
   show kMu V ⟨s.seen,s.ord++[x],(w++[(x,true)]).dropLast⟩+1<=_;rw[K2l];unfold kMu;dsimp only;omega
  | false =>
   show kMu V (if x∈s.seen then ⟨s.seen,s.ord,(w++[(x,false)]).dropLast⟩ else ⟨s.seen++[x],s.ord,(w++[(x,false)]).dropLast++[(x,true)]++(nx st x).map λy=>(y,false)⟩)+1<=_;rw[K2l];split
   ·unfold kMu;dsimp only;omega
   ·rename_i q;have xV:x∈V:=i.wv (x,false) (by rw[e];simp);have sl2:s.seen.length+1<=V.length:=by
     have:=K0w (l₁:=s.seen++[x]) (l₂:=V) (z0G i.nd q) λy hy=>by
      rcases K00.mp hy with z|z
      ·exact i.sub y z
      ·simp at z;subst z;exact xV
     simpa using this
    have:=(hv x xV).1;unfold kMu;simp only[K3,K0d,K01,K0b];omega
theorem z6S (hv:∀x∈V,(nx st x).length<=40/\∀y∈nx st x,y∈V):∀(m n:Nat),kMu V (kRun st V n)<=m->∃k,k<=n+m/\(kRun st V k).wt=[]
 | 0,n,h=>by
  refine⟨n,by omega,?_⟩;unfold kMu at h;exact K2j.mp .(1)
 | m+1,n,h=>by
  by_cases e:(kRun st V n).wt=[]
  ·exact⟨n,by omega,e⟩
  ·have:=zk9 hv (z8N (λx hx=>(hv x hx).2) n) e;obtain⟨k,h1,h2⟩:=z6S hv m (n+1) (by show kMu V (z45 (nx st) (kRun st V n))<=m;omega);exact⟨k,by omega,h2⟩
theorem z7v (hv:∀x∈V,(nx st x).length<=40/\∀y∈nx st x,y∈V) (vl:V.length<=40):KEnd st V (kEnd st V):=by
 obtain⟨k,h1,h2⟩:=z6S hv (kMu V (z53 V)) 0 (K04 _);have:kMu V (z53 V)<=3000:=by unfold kMu z53;simp;omega
 rw[zb5 h2 .(1)];exact Z0b (z8N (λx hx=>(hv x hx).2) k) h2
theorem zn6 (R:List Nat):∀P:List (List Nat),(R.foldl (addP st V) P).length<=P.length+R.length:=by
 induction R with
 | nil=>intro P;exact K04 _
 | cons x R ih =>
  intro P;rw[K52];have h1:=ih (addP st V P x);have h2:(addP st V P x).length<=P.length+1:=by unfold addP;split<;>simp
  rw[K01];omega
theorem z77 (R:List Nat):(partsOf st V R).length<=R.length:=by
 have:=zn6 (st:=st) (V:=V) R [];simpa [partsOf] using this
end
def kvF (c:Nat):List Nat->List (Key×D)
 | []=>[]
 | x::r=>(.inl (x:Int),.ref c)::kvF (c+1) r
theorem zb4:∀(l:List Nat) (c:Nat),(kvF c l).length=l.length
 | [],c=>rfl
 | x::r,c=>by show (kvF (c+1) r).length+1=_;rw[zb4 r];rfl
theorem z8r (x:Nat):∀(l:List Nat) (c:Nat),kvF c (l++[x])=kvF c l++[(.inl (x:Int),.ref (c+l.length))]
 | [],c=>rfl
 | y::r,c=>by
  show (_,_)::kvF (c+1) (r++[x])=(_,_)::(kvF (c+1) r++_);rw[z8r x r,show c+1+r.length=c+(y::r).length by simp;omega]
theorem zb9 (x:Nat):∀(l:List Nat) (c:Nat),((kvF c l).any λkv=>decide (kv.1=.inl (x:Int)))=decide (x∈l)
 | [],c=>rfl
 | y::r,c=>by
  show (decide (K1j (y:Int)=(K1j (x:Int):Key))||((kvF (c+1) r).any λkv=>decide (kv.1=.inl (x:Int))))=_;rw[zb9 x r];have:decide (K1j (y:Int)=(K1j (x:Int):Key))=decide (x=y):=by
   rw[K0o,.(h),.(h)];constructor
   ·intro h;injection h with h;omega
   ·intro h;subst h;rfl
  rw[this];simp[K0y,Z32]
theorem zz6 (h:x∉l):ptD (kvF c l) (.inl (x:Int)) (.ref (c+l.length))=kvF c (l++[x]):=by
 unfold ptD;rw[zb9,.(m) h,z8r];simp
theorem zs7 {x:Nat}:∀{l:List Nat}{c:Nat},x∈l->lkD (kvF c l) (.inl (x:Int))=.(r (c+l.idxOf x))
 | [],c,h=>by cases h
 | y::r,c,h=>by
  unfold lkD kvF;rw[K2y];by_cases e:y=x
  ·subst e;rw[decide_eq_true (show ((K1j (y:Int):Key),D.ref c).1=K1j (y:Int) from rfl)];simp
  ·have n:decide (((K1j (y:Int):Key),D.ref c).1=K1j (x:Int))=false:=.(m) λh=>e (by
    have h:(K1j (y:Int):Key)=K1j (x:Int):=h;injection h with h;omega)
   rw[n];have hr:x∈r:=by
    cases h with
    | head=>exact(e rfl).elim
    | tail _ h=>exact h
   have:=zs7 (c:=c+1) hr;unfold lkD at this;dsimp only;rw[this,Z2r,show (y==x)=false from beq_eq_false_iff_ne.mpr e];simp only[cond_false,K7x,D.ref.injEq];omega
theorem zP2 (l:List Nat):∀c:Nat,z2g (kvF c l)=stD l:=by
 induction l with
 | nil=>intro c;rfl
 | cons x r ih =>
  intro c;show D.int x::z2g (kvF (c+1) r)=_;rw[ih];rfl
theorem z6L (e:h[n]?=some (.dK (kvF c l))\/h[n]?=some (.dF (kvF c l))) (hx:x∈l):z1N (.ref n) (.int (x:Nat)) h=.ok (.ref (c+l.idxOf x)) h:=by
 have e1:dicD (.ref n) h=.ok (kvF c l) h:=by
  unfold dicD getK;dsimp only;rcases e with e|e<;>rw[e]
 unfold z1N;rw[M.bind_ok e1];have:keyD (.int (x:Nat))=some (.inl (x:Int)):=rfl;rw[this];dsimp only;rw[zs7 hx];rfl
def z0h (f:Nat->List Nat) (V:List Nat):AH:=V.map λx=>.lst (stD (f x))
theorem zl0 {V:List Nat}(hx:x∈V):(z0h f V)[V.idxOf x]?=.(l ((stD (f x)))):=by
 have hi:=K7e hx;unfold z0h;rw[K0i,K9 hi,List.getElem_idxOf hi];rfl
section
variable {mi:G->M Src}{me mv:G->M D}{γ:G}
theorem z8Z {γ':G}(f:Nat->List Nat) (src:Src) (h1:AH) (hg:∀j,src.good (h1++j)):∀(rest pre:List Nat),(pre++rest).Nodup->(pre++rest).length<=1000 ->
 (∀x∈rest,∃γ1,(∀h,g (.int x) γ' h=.ok γ1 h)/\(∀h,kb γ1 h=.ok true h)/\(∀h,me γ1 h=.ok (.int x) h)/\∀j,mv γ1 (h1++j)=.ok (.ref (h1++j).length) (h1++j++[.lst (stD (f x))])) ->
 z0k src g kb me mv h1.length γ' (stD rest) (h1++(.dK (kvF (h1.length+1) pre)::z0h f pre))=.ok () (h1++(.dK (kvF (h1.length+1) (pre++rest))::z0h f (pre++rest)))
 | [],pre,nd,hl,hd=>by
  unfold stD;rw[K2a];unfold z0k;rw[K13];have c1:src.chk (h1++(.dK (kvF (h1.length+1) pre)::z0h f pre))=.ok () (h1++(.dK (kvF (h1.length+1) pre)::z0h f pre)):=by unfold Src.chk;rw[if_pos (hg _)]
  rw[M.bind_ok c1];rfl
 | x::rest,pre,nd,hl,hd=>by
  obtain⟨γ1,e1,e2,e3,e4⟩:=hd x .(f);have xp:x∉pre:=λq=>(K1c.mp nd).2.2 x q x .(f) rfl;have ih:=z8Z (γ':=γ') f src h1 hg rest (pre++[x]) (by rw[K05];exact nd) (by rw[K05];exact hl) λy hy=>hd y (by simp[hy]);have c1:src.chk (h1++(.dK (kvF (h1.length+1) pre)::z0h f pre))=.ok () (h1++(.dK (kvF (h1.length+1) pre)::z0h f pre)):=by unfold Src.chk;rw[if_pos (hg _)]
  have len:(h1++(O.dK (kvF (h1.length+1) pre)::z0h f pre)).length=h1.length+1+pre.length:=by simp[z0h];omega
  have c5:z54 h1.length (.int x) (.ref (h1.length+1+pre.length)) (h1++(.dK (kvF (h1.length+1) pre)::z0h f pre)++[.lst (stD (f x))])=.ok () (h1++(.dK (kvF (h1.length+1) (pre++[x]))::z0h f (pre++[x]))):=by
   unfold z54 z3i;dsimp only;have:keyD (.int (x:Nat))=some (.inl (x:Int)):=rfl;rw[this];dsimp only;rw[K05,Z2j,K0e (K04 _),K32,K4];dsimp only;rw[if_pos (by rw[zb4];exact K7l (K0q (K8n _ _) (by rw[<- K3];exact hl)) (by decide)),zz6 xp,K0t _ _ (K04 _),K32,K07];unfold z0h;rw[K38];rfl
  show z0k src g kb me mv h1.length γ' (.int x::stD rest) _=_;unfold z0k;rw[M.bind_ok c1,M.bind_ok (e1 _),M.bind_ok (e2 _),if_pos rfl,M.bind_ok (e3 _),M.bind_ok (e4 _),len,M.bind_ok c5,ih,K05];rfl
theorem zd7 {V:List Nat}(f:Nat->List Nat) (hi:mi γ h=.ok src h1) (hs:src.items=stD V) (hg:∀j,src.good (h1++j)) (nd:V.Nodup) (hl:V.length<=1000)
 (hd:∀x∈V,∃γ1,(∀h,g (.int x) (capG cap γ) h=.ok γ1 h)/\(∀h,kb γ1 h=.ok true h)/\(∀h,me γ1 h=.ok (.int x) h)/\∀j,mv γ1 (h1++j)=.ok (.ref (h1++j).length) (h1++j++[.lst (stD (f x))])) :
 z1R cap mi g kb me mv γ h=.ok (.ref h1.length) (h1++(.dK (kvF (h1.length+1) V)::z0h f V)):=by
 have r:=z8Z (γ':=capG cap γ) (kb:=kb) (me:=me) (mv:=mv) (g:=g) f src h1 hg V [] nd hl hd;unfold z1R;rw[M.bind_ok hi];show (z0k src g kb me mv h1.length (capG cap γ) src.items >>= λ_=>(pure (D.ref h1.length):M D)) (h1++[O.dK []])=_;rw[hs];have r':z0k src g kb me mv h1.length (capG cap γ) (stD V) (h1++[.dK []])=_:=r;rw[M.bind_ok r'];rfl
theorem z94 {γ':G}(src:Src) (h1:AH) (hg:∀j,src.good (h1++j)):∀(rest pre:List Nat),(pre++rest).Nodup->(pre++rest).length<=1000 ->
 (∀x∈rest,∃γ1,(∀h,g (.int x) γ' h=.ok γ1 h)/\(∀h,kb γ1 h=.ok true h)/\(∀h,me γ1 h=.ok (.int x) h)/\∀h,mv γ1 h=.ok (.bl true) h) ->
 z0k src g kb me mv h1.length γ' (stD rest) (h1++[.dK (kvN pre)])=.ok () (h1++[.dK (kvN (pre++rest))])
 | [],pre,nd,hl,hd=>by
  unfold stD;rw[K2a];unfold z0k;rw[K13];have c1:src.chk (h1++[.dK (kvN pre)])=.ok () (h1++[.dK (kvN pre)]):=by unfold Src.chk;rw[if_pos (hg _)]
  rw[M.bind_ok c1];rfl
 | x::rest,pre,nd,hl,hd=>by
  obtain⟨γ1,e1,e2,e3,e4⟩:=hd x .(f);have xp:x∉pre:=λq=>(K1c.mp nd).2.2 x q x .(f) rfl;have ih:=z94 (γ':=γ') src h1 hg rest (pre++[x]) (by rw[K05];exact nd) (by rw[K05];exact hl) λy hy=>hd y (by simp[hy]);have c1:src.chk (h1++[.dK (kvN pre)])=.ok () (h1++[.dK (kvN pre)]):=by unfold Src.chk;rw[if_pos (hg _)]
  have c5:z54 h1.length (.int x) (.bl true) (h1++[.dK (kvN pre)])=.ok () (h1++[.dK (kvN (pre++[x]))]):=by
   unfold z54;rw[zx0 (l:=pre) z0D xp (by rw[K3,K01]at hl;omega),z7f]
  show z0k src g kb me mv h1.length γ' (.int x::stD rest) _=_;unfold z0k;rw[M.bind_ok c1,M.bind_ok (e1 _),M.bind_ok (e2 _),if_pos rfl,M.bind_ok (e3 _),M.bind_ok (e4 _),M.bind_ok c5,ih,K05];rfl
theorem z4U {V:List Nat}(hi:mi γ h=.ok src h1) (hs:src.items=stD V) (hg:∀j,src.good (h1++j)) (nd:V.Nodup) (hl:V.length<=1000)
 (hd:∀x∈V,∃γ1,(∀h,g (.int x) (capG cap γ) h=.ok γ1 h)/\(∀h,kb γ1 h=.ok true h)/\(∀h,me γ1 h=.ok (.int x) h)/\∀h,mv γ1 h=.ok (.bl true) h) :
 z1R cap mi g kb me mv γ h=.ok (.ref h1.length) (h1++[.dK (kvN V)]):=by
 have r:=z94 (γ':=capG cap γ) (kb:=kb) (me:=me) (mv:=mv) (g:=g) src h1 hg V [] nd hl hd;unfold z1R;rw[M.bind_ok hi];show (z0k src g kb me mv h1.length (capG cap γ) src.items >>= λ_=>(pure (D.ref h1.length):M D)) (h1++[O.dK []])=_;rw[hs];have r':z0k src g kb me mv h1.length (capG cap γ) (stD V) (h1++[.dK []])=_:=r;rw[M.bind_ok r'];rfl
theorem zv2 {V:List Nat}(e:ma γ h=.ok (.ref n) h1) (q:h1[n]?=some (.dK (kvF c V))):iDic ma γ h=.ok (.con (stD V)) (h1.set n (.dF (kvF c V))):=by
 unfold iDic;rw[M.bind_ok e];dsimp only;rw[q];dsimp only;rw[zP2]
theorem zT5 {V:List Nat}(e:ma γ h=.ok (.ref n) h1) (q:h1[n]?=some (.dF (kvF c V))):iDic ma γ h=.ok (.con (stD V)) h1:=by
 unfold iDic;rw[M.bind_ok e];dsimp only;rw[q];dsimp only;rw[zP2]
end
theorem am0:(h++o::j)[h.length]?=some o:=by rw[K0e (K04 _),K32];rfl
theorem sm0:(h++o::j).set h.length o'=h++o'::j:=by rw[K0t _ _ (K04 _),K32];rfl
theorem am1:(h++o::o'::j)[h.length+1]?=some o':=by rw[K0e .(1),show h.length+1 - h.length=1 by omega];rfl
theorem sm1 {o'':O}:(h++o::o'::j).set (h.length+1) o''=h++o::o''::j:=by rw[K0t _ _ .(1),show h.length+1 - h.length=1 by omega];rfl
end FT
namespace L2
theorem z2F:∀{vs:List (Key×V)}{us:List (Key×Value)},KV vs us->∀{l:List Value},l.length=us.length->(∀(j:Nat) v,l[j]?=some v->∃k x,us[j]?=some (k,x)/\z1P k v=true)->Vals (vs.map λkv=>kV kv.1) l
 | [],_,.nil,l,hl,h=>by
  cases l with
  | nil=>exact .nil
  | cons a l=>simp at hl
 | p::vs,q::us,.cons a b,l,hl,h=>by
  cases l with
  | nil=>simp at hl
  | cons v l =>
   obtain⟨k,x,e1,e2⟩:=h 0 v rfl;have e1':q=(k,x):=by simpa using e1
   subst e1';refine .cons ?_ (z2F b (by simpa using hl) λj v hv=>by simpa using h (j+1) v (by simpa using hv));have a1:p.1=k:=a.1;show RelV (kV p.1) v;rw[a1];exact zY8 e2
end L2
namespace FT
def z4n (n:Nat):M (List (Key×D)):=λh=>match h[n]? with
 | some (.dK kvs)=>.ok kvs h
 | some (.dF kvs)=>.ok kvs h
 | _=>.bad
theorem z4Q {K:K5}{EX:XX}{ρ:List Addr}{h:AH}{H:Hp}{n:Nat}{q:Addr}{Z:List (Key×D)->List Addr->AH->Hp->Prop}(r:RH K ρ h H) (hq:ρ[n]?=some q) (f:Fin K EX ρ H Z (z4n n h)) :
 ∃kvs vs,(H q=some (.dK vs)\/∃ob,H q=some (.frz ob (.dK vs)))/\RK K ρ H kvs vs/\Z kvs ρ h H:=by
 unfold z4n at f;cases e:h[n]? with
 | none=>rw[e]at f;exact f.elim
 | some ob =>
  cases ob with
  | lst xs=>rw[e]at f;exact f.elim
  | set xs=>rw[e]at f;exact f.elim
  | dct=>rw[e]at f;exact f.elim
  | exc c=>rw[e]at f;exact f.elim
  | ins _ _=>rw[e]at f;exact f.elim
  | dK kvs =>
   rw[e]at f;obtain⟨a1,n1,vs,o1,d1⟩:=r.at e;rw[hq]at n1;cases n1;exact⟨kvs,vs,.inl o1,d1,f ρ H .(9) .(a) r⟩
  | dF kvs =>
   rw[e]at f;obtain⟨a1,n1,ob,vs,o1,d1⟩:=r.at e;rw[hq]at n1;cases n1;exact⟨kvs,vs,.inr ⟨ob,o1⟩,d1,f ρ H .(9) .(a) r⟩
theorem z4P {K:K5}{ρ:List Addr}{H:Hp}:∀{kvs:List (Key×D)}{vs:List (Key×V)},RK K ρ H kvs vs->RDs K ρ H (z2g kvs) (vs.map λkv=>kV kv.1)
 | _,_,.nil=>RDs.nil
 | p::_,q::_,.cons a b=>by
  refine RDs.cons ?_ (z4P b);have a1:p.1=q.1:=a.1;show RD K ρ H (kD p.1) (kV q.1);rw[a1];exact zt2 q.1
def nS (i:Nat):Str:=toString (i:Int)
section
variable {α:Type}{us:List α}
theorem ar1 (hl:us.length=1):∃a,us=[a]:=match us,hl with|[a],_=>⟨a,rfl⟩
theorem ar2 (hl:us.length=2):∃a b,us=[a,b]:=match us,hl with|[a,b],_=>⟨a,b,rfl⟩
theorem ar3 (hl:us.length=3):∃a b c,us=[a,b,c]:=match us,hl with|[a,b,c],_=>⟨a,b,c,rfl⟩
theorem ar4 (hl:us.length=4):∃a b c d,us=[a,b,c,d]:=match us,hl with|[a,b,c,d],_=>⟨a,b,c,d,rfl⟩
end
variable{w:World}{E:Value->Shared->Prop}{s:Shared}{n:Nat}{P:Nat->Value->Prop}{OK:Heap->Prop}{R:List Value->Shared->Prop}{X:Cx}{EX:XX}{mr:G->M (List D)}{p pos:Pos}{pins:List (Addr×Obj)}{H:Hp}{ρ:List Addr}{m c:Str}{h:AH}{K:K5}{mg:Str->Option Value}{base:Heap}{st:Stmt}{C:Addr}{e:Expr}{es:List Expr}{mo:G->M D}{bmH:List Value}{suite:List Stmt}{mf:List D->M D}{sl:Array (Option Value)}
def Ths (P:Nat->D->Prop):Nat->List D->Prop
 | _,[]=>True
 | n,x::xs=>∃a b,P a x/\Ths P b xs/\a+b+2<=n
def Th (r:AH) (B:Nat):Nat->Nat->D->Prop
 | 0,_,_=>False
 | _+1,n,.non=>4<=n
 | _+1,n,.bl _=>5<=n
 | _+1,n,.int i=>i.natAbs<=B/\40<=n
 | _+1,n,.str x=>(reprText x).length<=n/\x.length<=1000
 | m+1,n,.tup xs=>∃a,Ths (Th r B m) a xs/\a+4<=n
 | _+1,_,.fl _=>False
 | m+1,n,.ref i=>∃j,i=j+3/\((∃xs a,r[j]?=.(l xs)/\Ths (Th r B m) a xs/\a+4<=n)\/(r[j]?=some (.dK [])\/r[j]?=some (.dK [(.inr "a",.int 1)])/\1<=m)/\40<=n)
section
variable {prog:K1d}{A:Around}
open PySem.W in
theorem zp0 {T:String}{r d:Addr}{R:List Value->Shared->Prop}(K:KdlSrc prog w T r d n P OK) (hh:A.handled=none) (ok:OK s.heap) (hn:n<=sizeLine)
 (z:∀(g:Heap) (tk:Nat) (acc:Array Value),(∀b o,s.heap.get? b=some o->g.get? b=some o)->.(2)<=g.objs.size->Z2v P acc n->R acc.toList { s with heap:=g,toks:=tk }) :
 wpAny (model prog w) A (collect (.ref r)) R E s:=by
 obtain⟨t1,t2⟩:=K.there _ ok;obtain⟨S,hS⟩:∃S,S=s.heap.objs.size:=⟨_,rfl⟩;unfold collect;refine K2 (K7n (K2p entry_proto_collect' ?_));rw[K28 PySem.F.plain_proto_collect _];show wpAny _ A.in1 (Z2u [] >>= λl=>again (.builtin "list.__iadd__" ⟨[l,.ref r],[]⟩)) _ _ s;refine K2 (K2h (K6 ⟨K59 K5l _,K2p entry_list_iadd' ?_⟩));rw[K28 K5l _];obtain⟨o0,h0⟩:∃o0:Obj,o0={ cls:=.type "list",data:=.seq ([]:List Value).toArray }:=⟨_,rfl⟩;rw[<- h0];have at0:(s.heap.push o0).get? S=some { cls:=.type "list",data:=.seq #[] }:=by rw[hS,h0];exact K0f _ rfl
 rw[<- hS];show wpAny _ A.in1 (K5e (.ref S) (.ref r) (.ref S)) _ _ _;have old:∀{b:Addr} {o:Obj},s.heap.get? b=some o->b≠S:=λe=>by rw[hS];exact K0u (K0c e)
 have key:=kdl_extend (A:=A) (s:={ s with heap:=s.heap.push o0 })
  (R:=λ(q:Result) (s':Shared)=>∃(g:Heap) (tk:Nat) (acc:Array Value) (c:Nat),q=.ok (.ret (.ref S))/\s'={ s with heap:=g,toks:=tk }/\(∀b o,s.heap.get? b=some o->g.get? b=some o)/\g.get? S=some { cls:=.type "list",dict:=none,data:=.seq acc c,slots:=#[] }/\Z2v P acc n)
  K hh (K.keep _ _ ok λb _ o e=>K8 _ e) S (by rw[hS];exact K2r t1) (by rw[hS];exact K2r t2) (.ref S) 0 at0
  (λg tk acc c kp at1 it=>⟨g,tk,acc,c,rfl,rfl,λb o e=>kp b o (old e) (K8 _ e),at1,it⟩) hn
 have fin:∀(q:Result) (s2:Shared) (h:∃(g:Heap) (tk:Nat) (acc:Array Value) (c:Nat),q=.ok (.ret (.ref S))/\s2={ s with heap:=g,toks:=tk }/\(∀b o,s.heap.get? b=some o->g.get? b=some o)/\g.get? S=some { cls:=.type "list",dict:=none,data:=.seq acc c,slots:=#[] }/\Z2v P acc n),q=.ok (.ret (.ref S)):=λq s2 ⟨_,_,_,_,e,_⟩=>e;refine K44 key (λf s2 x=>?_) λe s2 x=>?_
 ·cases f with
  | done f =>
   obtain⟨g,tk,acc,c,e,rfl,kp,at1,it⟩:=x;cases e;show wpAny _ A (load S >>= _) _ _ _;refine K2 (Z1h at1 (K6 (z g tk acc kp ?_ it)));rw[<- hS];exact K33 (K0c at1)
  | again c₁ =>
   refine⟨x.1,K3v x.2 λq s3 y=>?_⟩;obtain⟨g,tk,acc,c,rfl,rfl,kp,at1,it⟩:=y;show wpAny _ A (load S >>= _) _ _ _;refine K2 (Z1h at1 (K6 (z g tk acc kp ?_ it)));rw[<- hS];exact K33 (K0c at1)
 ·obtain⟨_,_,_,_,e',_⟩:=x;cases e'
end
theorem z6V (hc:X.calm=true):z3F X (.builtin "sorted") (λxs H Q=>∃a vs ns,xs=[.ref a]/\(H a=some (.dK vs)\/∃ob,H a=some (.frz ob (.dK vs)))/\vs.map (λkv=>kV kv.1)=ns.map V.int/\ns.length<64/\∀q,H q=none->Q (.ref q) (upd H q (.lst ((sortI ns).map V.int)))):=by
 intro pins s σ H xs us Q I r h;obtain⟨a,vs,ns,rfl,hq,hk,h64,q⟩:=h;obtain⟨u,rfl,ru⟩:=vals1 r;cases ru;have vl:vs.length=ns.length:=by have:=congrArg K7z hk;simpa using this
 have go:∀{us:List (Key×Value)} {ep:Nat},KV vs us->(a==K45)=false->s.heap.DictAt (y9 X.prog X.w) a us ep->wpAny .(4) X.A (call (.builtin "sorted") [.ref a]) (EP X pins σ Q) X.xe s:=λ{us ep} rel hd dat=>by
  have le:=rel.length;refine K7t kind_sorted plain_sorted entry_sorted (args_sorted1 _) ?_;unfold Builtin.«sorted»;refine K2 (m:=checkCount "sorted" 1 1 _) (K6 ?_);refine K2 (zp0 (Z2c hd) (by simp[I.ok.hd hc]) dat (by rw[<- le,vl];exact K33 (K0r h64 (by decide))) λh' tk acc kp sz it=>?_);have al:acc.toList.length=ns.length:=by rw[K17,<- vl,le];exact it.1
  have rv:Vals (ns.map V.int) acc.toList:=by
   rw[<- hk];exact z2F rel (by rw[K17];exact it.1) λj v hv=>it.2 j v (by simpa using hv)
  have ia:=intsAre_of rv;refine K2 (wpAny_newList ?_ (by rw[al];exact K33 (K0r h64 (by decide))));have gL:(h'.push (seqObj "list" acc.toList.toArray 0)).get? h'.objs.size=some (seqObj "list" acc.toList.toArray 0):=K0f _ rfl;refine K2 (K2e (K2s slot_list_sort ⟨_,gL,rfl⟩ entry_list_sort (list_sort_tree gL ia (by rw[al];exact h64) λout ns' a1 a2 a3=>⟨_,rfl,?_⟩) (args_list_sort _)));refine K6 ⟨_,rfl,?_⟩;obtain⟨e,ge⟩:=sortedHeap_at (out:=out) gL;have es':ns'=sortI ns:=z6a a2 a3;subst es';have un:∀b ob,s.heap.get? b=some ob->(sortedHeap (h'.push (seqObj "list" acc.toList.toArray 0)) h'.objs.size acc.toList out).get? b=some ob:=λb ob eb=>by
   have lt:=K0c (kp b ob eb);rw[sortedHeap_old (K0u lt) (by rw[K1y];exact K4c lt)];exact K8 _ (kp b ob eb)
  have ho:=I.hok.laid (a:=h'.objs.size) (o:=.lst ((sortI ns).map V.int)) un sz ⟨by rw[K0d,(sortI_perm ns).length_eq];exact K33 (K0r h64 (by decide)),out.toList,e,z5P a1,ge⟩;exact⟨.ref h'.objs.size,_,I.call' (s':={ s with heap:=_,toks:=tk }) (ch:=[]) rfl (Un.laid un sz (I.hok.fresh sz)) ho I.bare (λb z=>absurd z .(f)),rfl,q _ (I.hok.fresh sz)⟩
 rcases hq with hq|⟨ob,hq⟩
 ·obtain⟨z,hd,us,rel,dd⟩:=ze1 I.hok hq;obtain⟨ob,es,ep,ho,r1,r2,r3⟩:=id dd;exact go rel hd ⟨ob,es,ho,r1,r2,r3⟩
 ·obtain⟨go',z,hd,us,rel,dd⟩:=(show ObjOk X.prog X.w H s.heap a (.frz ob (.dK vs)) from I.hok a _ hq);obtain⟨ob',es,ep,ho,r1,r2,r3⟩:=id dd;exact go rel hd ⟨ob',es,ho,r1,r2,r3⟩
def z2h:List D->M D
 | [.ref n]=>do
  let kvs <- z4n n
  match z43 (z2g kvs) with
  | some ns=>if ns.length<64 then newL ((sortI ns).map .int) else bad
  | none=>bad
 | _=>bad
theorem z9c:AR X.K EX (λxs H Q=>∃a vs ns,xs=[.ref a]/\(H a=some (.dK vs)\/∃ob,H a=some (.frz ob (.dK vs)))/\vs.map (λkv=>kV kv.1)=ns.map V.int/\ns.length<64/\∀q,H q=none->Q (.ref q) (upd H q (.lst ((sortI ns).map V.int)))) z2h:=by
 intro ρ h H ds vs Q r rd fin;unfold z2h at fin;split at fin
 ·rename_i n;obtain⟨v,rfl,rv⟩:=rds1 rd;simp only[RD]at rv;obtain⟨q,rfl,hq⟩:=rv;have f2:=Fin.bind fin;obtain⟨kvs,vs,w1,rk,f3⟩:=z4Q r hq f2;cases e:z43 (z2g kvs) with
  | none=>rw[e]at f3;exact f3.elim
  | some ns =>
   rw[e]at f3;dsimp only at f3;split at f3
   ·rename_i l64;have rr:=z64 e (z4P rk);refine⟨q,vs,ns,rfl,w1,rr,l64,λq' hq'=>?_⟩;unfold newL at f3;split at f3
    ·exact FE.lst f3 r (z4h _) hq'
    ·exact f3.elim
   ·exact f3.elim
 ·exact fin.elim
theorem z5l {a:Expr}(hc:X.calm=true) (hg:Gl X "sorted") (hm:X.mg "sorted" = none) (ha:SA X EX [a] mr) (he:K0h [a] X.env=[(false,eval a X.env)]:=by rfl):SE X EX (.Call (.Name "sorted" p) [a] [] pos) (Z7 z2h mr) :=
 z1L (z24 (z6V hc) hg hm .(3) ha.h (by decide) (by decide) he rfl) z9c
mutual
def z2j:D->Bool
 | .int _=>true
 | .str _=>true
 | .bl _=>true
 | .non=>true
 | .tup xs=>z4u xs
 | _=>false
def z4u:List D->Bool
 | []=>true
 | d::r=>z2j d&&z4u r
end
section
variable {σ:L2.St}
mutual
theorem RD.one (I:Inv X pins σ H s):∀{z z':D}{v:V},z2j z=true->z2j z'=true->RD X.K ρ H z v->RD X.K ρ H z' v->z=z'
 | .non,z',v,_,p,h,h'=>by
  simp only[RD]at h;subst h;cases z'<;>simp_all [RD,z2j]
 | .bl b,z',v,_,p,h,h'=>by
  simp only[RD]at h;subst h;cases z'<;>simp_all [RD,z2j]
 | .int i,z',v,_,p,h,h'=>by
  simp only[RD]at h;subst h;cases z'<;>simp_all [RD,z2j]
 | .str x,z',v,_,p,h,h'=>by
  simp only[RD]at h;subst h;cases z'<;>simp_all [RD,z2j]
 | .tup ds,z',v,q,p,h,h'=>by
  simp only[RD]at h;obtain⟨a,xs,rfl,h2,h3⟩:=h;cases z' with
  | tup ds' =>
   simp only[RD]at h';obtain⟨a',xs',e,h5,h6⟩:=h';cases e;have e2:=I.tuple_inj h5 h2;subst e2;simp only[z2j]at q p;rw[RDs.one I q p h3 h6]
  | non=>simp[RD]at h'
  | bl b=>simp[RD]at h'
  | int b=>simp[RD]at h'
  | str b=>simp[RD]at h'
  | fl b=>simp[z2j]at p
  | ref b=>simp[z2j]at p
 | .fl ds,z',v,q,p,h,h'=>by simp[z2j]at q
 | .ref ds,z',v,q,p,h,h'=>by simp[z2j]at q
theorem RDs.one (I:Inv X pins σ H s):∀{ds ds':List D}{xs:List V},z4u ds=true->z4u ds'=true->RDs X.K ρ H ds xs->RDs X.K ρ H ds' xs->ds=ds'
 | [],ds',xs,_,_,h,h'=>by
  simp only[RDs]at h;subst h;cases ds' with
  | nil=>rfl
  | cons d r=>simp[RDs]at h'
 | d::r,ds',xs,q,p,h,h'=>by
  simp only[RDs]at h;obtain⟨x,xr,rfl,h2,h3⟩:=h;cases ds' with
  | nil=>simp[RDs]at h'
  | cons d' r' =>
   simp only[RDs]at h';obtain⟨x',xr',e,h5,h6⟩:=h';cases e;simp only[z4u,K0k]at q p;rw[RD.one I q.1 p.1 h2 h5,RDs.one I q.2 p.2 h3 h6]
end
end
abbrev Bl:=List (Nat×List Nat)
theorem z41 {m:M D}{d:D}(e:m h=.ok d h) (c:J2 0 d=true):cln m h=.ok d h:=z0u (j:=[]) (by rw[e,K13]) (z4d (K3y h.length) c)
inductive Sy where
 | yes
 | mark (s:Str)
 | step (k:Nat)
 | neg (k:Nat)
 | con (a b:Nat)
abbrev Tru:=List (List Bool)
def tv (T:Tru) (i x:Nat):Bool:=(((T[i]?).getD [])[x]?).getD false
abbrev Mx (K:K5) (mg:Str->Option Value) (x:Str):Prop:=∀v,K3g K K2m x=some (some v)->mg x=some v
abbrev Bnd (st:Stmt) (x:Str) (ps:List Str):Prop:=∀(kV doc pm:Value) (an:Option Addr) (cdv ct:Value) (us:List Value),us.length=ps.length->Z1z (K2g x x (z0O st) (Y9 st) (Z8 st) .none kV doc pm an cdv ct) ⟨us,[]⟩=pure (ps.zip us)
def scB (N P:List Str) (sc:Scope):Bool:=sc.kind==.function&&!sc.isCoroutine&&!sc.isGenerator&&decide N.Nodup&&decide (P.length<=N.length)&&P.all (λx=>sc.names.lookup x==some .local||sc.names.lookup x==some .cell)&&sc.names.all λy=>y.2 != .free
theorem zp1 {N:List Str}{sc:Scope}(h:scB N (N.take n) sc=true):FnScope N (N.take n) sc:=by
 unfold scB at h;simp only[K0k,K4b,decide_eq_true_eq]at h;obtain⟨⟨⟨⟨⟨⟨h1,h2⟩,h3⟩,h4⟩,h5⟩,h6⟩,h7⟩:=h;refine⟨by simpa using h1,h2,h3,h4,by simp,λx hx=>?_,λy hy=>?_⟩
 ·have:=K1w.mp h6 x hx;rw[K2o]at this;rcases this with z|z
  ·exact .inl (by simpa using z)
  ·exact .inr (by simpa using z)
 ·have:=K1w.mp h7 y hy;simpa using this
section
variable {P:K1d}{x:Str}{k:Nat}
theorem dfN (N:List Str) (mb:G->M Out) (T:DefAt K x st) (mx:Mx K mg x) (hs:scB N (N.take n) (Z8 st)=true) (hn:(N.take n).length=n) (hb:Bnd st x (N.take n))
 (body:∀{f:Addr} {cdv:Value} {A:Around} {outer:List Env} {s:Shared} {H:Hp} {E:XK},K2k K cdv x=true->Room k (A.deeper (envOfC x (Z8 st) .(2) f cdv))->N.Nodup ->
  SB (cxOf CX0 P w K mg base N x (Z8 st) f cdv A outer s H E).nox EX0 (Y9 st) mb):Fn P w K mg base (k+1) x n (runF N.length mb):=by
 obtain⟨f,fd,hf,F⟩:=T;exact zM8 F (zp1 hs) (F.binds hb) (mx _ hf) hn λ_ _ _ _ _ _ hcd hr=>body hcd hr (zp1 hs).nd
theorem dfC (N:List Str) (mb:G->M Out) (T:DefAt K x st) (mx:Mx K mg x) (hs:scB N (N.take n) (Z8 st)=true) (hn:(N.take n).length=n) (hb:Bnd st x (N.take n))
 (body:∀{f:Addr} {cdv:Value} {A:Around} {outer:List Env} {s:Shared} {H:Hp} {E:XK},K2k K cdv x=true->Room k (A.deeper (envOfC x (Z8 st) .(2) f cdv))->N.Nodup ->
  SB (cxOf CX0 P w K mg base N x (Z8 st) f cdv A outer s H E).nox EX0 (Y9 st) mb):Fn P w K mg base (k+1) x n λds=>cln (runF N.length mb ds):=Fn.cln (dfN N mb T mx hs hn hb body)
end
structure OwC (K:K5) (c:Str) (C:Addr):Prop where
 ns:K3g K K2m c=some (.(r C))
 cl:Cls K C
theorem RK.look {f:Str}:∀{fs:List (Str×D)}{vs:List (Str×V)},RK K ρ H fs vs->(∀d,fs.lookup f=some d->∃v,vs.lookup f=some v/\RD K ρ H d v)/\(fs.lookup f=none->vs.lookup f=none)
 | _,_,.nil=>⟨λd e=>(by cases e),λ_=>rfl⟩
 | _,_,.cons (a:=p) (b:=q) a b=>by
  obtain⟨k,d⟩:=p;obtain⟨k',v⟩:=q;obtain⟨a1,a2⟩:=a;simp only at a1 a2;subst a1;rw[K2q,K2q];cases e:f==k with
  | true=>exact⟨λd' z=>by cases z;exact⟨v,rfl,a2⟩,λz=>by cases z⟩
  | false=>exact RK.look b
theorem RK.lenS {κ:Type}:∀{fs:List (κ×D)}{vs:List (κ×V)},RK K ρ H fs vs->fs.length=vs.length
 | _,_,.nil=>rfl
 | _,_,.cons _ b=>by rw[K01,K01,RK.lenS b]
section
variable {f:Str}{o:Expr}{me:G->M D}
theorem zs9 {v:V}{fs:List (Str×D)}(T:OwC K c C) (r:RH K ρ h H) (e:h[n]?=some (.ins c fs)) (rv:RD K ρ H (.ref n) v):∃a dx vs,v=.ref a/\ρ[n]?=some a/\H a=some (.ins C dx vs)/\RK K ρ H fs vs:=by
 simp only[RD]at rv;obtain⟨a,rfl,hq⟩:=rv;obtain⟨a1,n1,C1,dx,vs,k1,o1,d1⟩:=r.at e;rw[hq]at n1;cases n1;rw[T.ns]at k1;cases k1;exact⟨a,dx,vs,rfl,hq,o1,d1⟩
end
section
variable {cn y:Str}{k i:Nat}{Ch:Addr}{ok:Str->Bool}{ms:G->M Out}{b₀:Stmt}{pos1 pos2 np hpos:Pos}
theorem zE3 {a dx:Addr}{xs:List D}{vs:List V}(T:OwC K c C) (r:RH K ρ h H) (rvs:RDs K ρ H xs vs) (ha:H a=none) (hd:H dx=none) (ne:dx≠a):
 let H':=upd (upd H dx (.own a)) a (.ins C dx []);
 Ext K H H'/\RH K (ρ++[a]) (h++[.ins c []]) H'/\RDs K (ρ++[a]) H' (.ref h.length::xs) (.ref a::vs):=by
 intro H';have ha2:(upd H dx (.own a)) a=none:=by rw[J5 (K4y ne)];exact ha
 have x1:Ext K H (upd H dx (.own a)):=Ext.upd (.inl hd);have x2:Ext K (upd H dx (.own a)) H':=Ext.upd (.inl ha2);have r2:RH K (ρ++[a]) (h++[.ins c []]) H':=(r.other hd).pushO ha2 ⟨C,dx,[],T.ns,J6,.nil⟩;refine⟨x1.trans x2,r2,RDs.cons ?_ (rvs.mono (Pre.app _ _) (x1.trans x2))⟩;simp only[RD];exact⟨a,rfl,by rw[<- r.len];simp⟩
end
structure Mt (P:K1d) (w:World) (K:K5) (mg:Str->Option Value) (base:Heap) (k:Nat) (c m:Str) (n:Nat) (mf:List D->M D):Prop where
 ex:∃C f fd ps,OwC K c C/\Meth K C m f/\FnOk P w K mg base CX0 k f fd ps (spB K mf (n+1))/\Binds K fd ps []
def chkI (c m:Str) (d:D):M Unit:=λh=>match d with
 | .ref i=>(match h[i]? with
  | some (.ins c' fs)=>if c'=c/\fs.lookup m=none then .ok () h else .bad
  | _=>.bad)
 | _=>.bad
def eMt (c m:Str) (n:Nat) (mf:List D->M D) (mo:G->M D) (mr:G->M (List D)):G->M D:=λγ=>do
 let d <- mo γ
 chkI c m d
 let xs <- mr γ
 if xs.length=n then mf (d::xs) else bad
section
variable {k:Nat}{o:Expr}{apos:Pos}
theorem z9d {pl:Sem Bool}(F:Mt X.prog X.w X.K X.mg X.base k c m n mf) (hr:Room k X.A) (ho:SE X EX0 o mo) (ha:SA X EX0 (e::es) mr)
 (hst:K0h (e::es) X.env=(false,eval e X.env)::K0h es X.env:=by rfl) (hpl:(backTo pos (K0h es X.env)).any (·.1)=false:=by rfl)
 (ht:eval (.Call (.Attribute o m apos) (e::es) [] pos) X.env=(do
  let ov <- eval o X.env
  K4o apos.atName
  let (f,first) <- K36 [ov] (K9x ov m pl)
  callWith pos f first (backTo pos (K0h (e::es) X.env)) (K55 pos (K39 [] X.env))):=by rfl):SE X EX0 (.Call (.Attribute o m apos) (e::es) [] pos) (eMt c m n mf mo mr):=by
 constructor;obtain⟨C,f,fd,ps,T,hm,F1,hb⟩:=F.ex;refine PE.imp (zy9 ho.h T.cl hm F1 hr hb .nil zK9 ha.h hst hpl ht) λσ H Q ⟨ρ,γ,h,rel,fin⟩=>⟨ρ,γ,h,rel,(Fin.bind fin).mono λd ρ1 h1 H1 p1 e1 r1 f1 v rv=>?_⟩;have f2:=Fin.bind f1;unfold chkI at f2;cases d<;>first|exact(show False from f2).elim|skip
 rename_i i;dsimp only at f2;split at f2
 ·rename_i c' fs eh;split at f2
  ·rename_i ec;obtain⟨ec,hn⟩:=ec;subst ec;obtain⟨a,dx,vs',rfl,hq,o1,d1⟩:=zs9 T r1 eh rv;refine⟨a,dx,vs',rfl,o1,d1.look.2 hn,ρ1,γ,h1,⟨rel.g.mono p1 e1,r1⟩,(Fin.bind (f2 ρ1 H1 .(9) .(a) r1)).mono λxs ρ2 h2 H2 p2 e2 r2 f3 vs rvs=>?_⟩;show spB X.K mf (n+1) (_::(vs++[])) H2 Q E0;rw[K13];by_cases hl:xs.length=n
   ·rw[if_pos hl]at f3;exact⟨by rw[K01,<- rvs.length,hl],ρ2,_,h2,r2,RDs.cons (rv.mono p2 e2) rvs,f3⟩
   ·rw[if_neg hl]at f3;exact(show False from f3).elim
  ·exact f2.elim
 ·exact f2.elim
end
def DefM (K:K5) (C:Addr) (m q:Str) (st:Stmt):Prop:=∃f fd,K1x K (.ref C) m=some (.(r f))/\K68 K (.ref f)=true/\Fun K m q st f fd
theorem defM_mk {q:Str}{st:Stmt}{f:Addr}{oc:Value}{od an:Option Addr}{sl:Array (Option Value)}{kV dc pm cd ct:Value}(a:K1x K (.ref C) m=some (.(r f))) (i:K68 K (.ref f)=true)
 (l:K.lookup f=some ⟨oc,od,.func (K2g m q (z0O st) (Y9 st) (Z8 st) .none kV dc pm an cd ct),sl⟩) (c:K2k K cd q=true) (k:K24 K (.ref f)=true):DefM K C m q st :=
 ⟨f,_,a,i,zu9 l c k⟩
theorem ki_mk (a:K3g K K2m c=some (.(r C))) (pg:K6q K C Str.empty=true) (hd:Z1w K C=true) (po:Z1v K C=true) (sa:K1x K (.ref C) "__setattr__" = some (some (.builtin "object.__setattr__"))):OwC K c C:=⟨a,⟨pg,hd,po,sa⟩⟩
abbrev BndM (st:Stmt) (m q:Str) (ps:List Str):Prop:=∀(kV doc pm:Value) (an:Option Addr) (cdv ct:Value) (us:List Value),us.length=ps.length->Z1z (K2g m q (z0O st) (Y9 st) (Z8 st) .none kV doc pm an cdv ct) ⟨us,[]⟩=pure (ps.zip us)
section
variable {P:K1d}{q:Str}{k:Nat}
theorem dfM (N:List Str) (mb:G->M Out) (TI:OwC K c C) (T:DefM K C m q st) (hs:scB N (N.take (n+1)) (Z8 st)=true) (hn:(N.take (n+1)).length=n+1) (hb:BndM st m q (N.take (n+1)))
 (body:∀{f:Addr} {cdv:Value} {A:Around} {outer:List Env} {s:Shared} {H:Hp} {E:XK},K2k K cdv q=true->Room k (A.deeper (envOfC q (Z8 st) .(2) f cdv))->N.Nodup ->
  SB (cxOf CX0 P w K mg base N q (Z8 st) f cdv A outer s H E).nox EX0 (Y9 st) mb):Mt P w K mg base (k+1) c m n λds=>cln (runF N.length mb ds):=by
 obtain⟨f,fd,hf,hi,F⟩:=T;have S:=zp1 hs;refine⟨C,f,fd,N.take (n+1),TI,⟨hf,hi,F.kp⟩,FnOk.imp (sp:=spB K (runF N.length mb) (n+1)) ?_ λvs H Q E ⟨hl,ρ,ds,h,rh,rd,fin⟩=>⟨hl,ρ,ds,h,rh,rd,FE.cln rh fin⟩,F.binds hb⟩;obtain⟨oc,od,kV,doc,pm,an,cdv,ct,osl,rfl,lk,hcd⟩:=F.ex;refine zn2 lk hcd S (λvs H Q E h=>h.1.trans hn.symm) λA outer s H vs Q E hr h=>?_;obtain⟨hl,ρ,ds,h,rh,rd,fin⟩:=h;refine⟨_,(body hcd hr S.nd).h.nox,ρ,z16 N.length ds,h,⟨z3k rd,rh⟩,?_⟩;refine(Fin.bind fin).mono λo ρ1 h1 H1 p1 e1 r1 f1=>?_;cases o with
 | nx γ=>exact λσ _=>FE.here (d:=.non) (h:=h1) f1 r1 (by simp[RD])
 | rt d=>exact λv rv=>f1 ρ1 H1 .(9) .(a) r1 v rv
 | bk γ=>exact(show False from f1).elim
 | ct γ=>exact(show False from f1).elim
end
end FT
namespace L2
section
variable {X:Cx}{C:Addr}{x:Str}{p pos:Pos}
theorem zy8 (mk:K51 X.K C=true) (hi:K1x X.K (.ref C) "__init__" = some (some (.builtin "object.__init__"))) (hk:K24 X.K (.ref C)=true) (hg:Gl X x) (hm:X.mg x=.(r C)) (hdb:(x==("__debug__":Str))=false:=by decide) :
 PE X (.Call (.Name x p) [] [] pos) (λ_ H Q=>∀y dx,H y=none->H dx=none->dx≠y->Q (.ref y) (upd (upd H dx (.own y)) y (.ins C dx []))):=by
 intro pins s σ H Q I h;refine K5z (zh9 I hg hm ?_ hdb);refine PySem.W.callWith_K0 I.kIn hk ?_;have Y:=Z2b (M:=model X.prog X.w) I.kIn mk;have I2:=Inv.made (C:=C) I;have hx:((s.heap.push K1p).push (K23 C .(2))).get? (.(2)+1)=some (K23 C .(2)):=by
  have:=K0f (s.heap.push K1p) (o:=K23 C .(2)) rfl;rwa [K1y]at this
 have t1:Z14 .(4) ((s.heap.push K1p).push (K23 C .(2))) (typeOf (.ref (.(2)+1))) (.ref C):=(Z14.ld hx).andThen .now;have t2:Z14 .(4) ((s.heap.push K1p).push (K23 C .(2))) (isInstance (.ref (.(2)+1)) (.type "object")) true:=t1.andThen (Y.top.keeps λb o e=>K8 _ (K8 _ e));refine K8x (zf5 I.kIn mk hi (λself=>Z14.of_pure (PySem.W.oi_bind self)) ?_);refine K73 PySem.W.oi_plain PySem.W.entry_oi (@PySem.W.check_slot .(4) _ _ _ "object.__init__" "object" "__init__" (.ref (.(2)+1)) [] [] _ PySem.W.oi_kind PySem.W.oi_split t2 (PySem.W.oi_args (.ref (.(2)+1))) ?_);rw[PySem.W.oi_run];exact K6 (K9t rfl ⟨V.ref (.(2)+1),_,I2,rfl,h _ _ (I.hok.fresh (K5h _)) (I.hok.fresh (K04 _)) (K0u (K5m _))⟩)
theorem za0:z3F X (.builtin "len") (λxs H Q=>∃a vs,xs=[.ref a]/\(H a=some (.dK vs)\/∃ob,H a=some (.frz ob (.dK vs)))/\Q (.int vs.length) H):=by
 intro pins s σ H xs us Q I r ⟨a,vs,ex,ea,q⟩;subst ex;obtain⟨u,rfl,ru⟩:=r.one;obtain rfl:u=K20 a:=ru;exact zZ5 I ea λt s' I2=>⟨.int vs.length,H,I2,⟨_,rfl⟩,q⟩
end
end L2
namespace FT
variable{a b:Addr}{mr:G->M (List D)}{K:K5}{mg:Str->Option Value}{E:Value->Shared->Prop}{Q:Array (Int×Value)->Shared->Prop}{es:Array (Int×Value)}{ep:Nat}{t:K8k}{kb ks ka:List Key}
structure InO (K:K5) (mg:Str->Option Value) (c:Str):Prop where
 ex:∃C,mg c=.(r C)/\OwC K c C/\K51 K C=true/\K1x K (.ref C) "__init__" = some (some (.builtin "object.__init__"))/\K24 K (.ref C)=true
def z5M (c:Str):G->M D:=λ_ h=>.ok (.ref h.length) (h++[.ins c []])
def z5T:List D->M D
 | [.ref n]=>do
  let kvs <- z4n n
  pure (.int kvs.length)
 | _=>bad
section
variable {X:Cx}{EX:XX}{c:Str}{a:Expr}{p pos:Pos}
theorem zc8 (F:InO X.K X.mg c) (hg:Gl X c) (hdb:(c==("__debug__":Str))=false:=by decide):SE X EX (.Call (.Name c p) [] [] pos) (z5M c):=by
 constructor;obtain⟨C,hm,T,mk,hi,hk⟩:=F.ex;refine PE.imp (zy8 mk hi hk hg hm hdb) λσ H Q ⟨ρ,γ,h,rel,fin⟩ y dx ny nd ne=>?_;obtain⟨x,r2,rd2⟩:=zE3 (xs:=[]) (vs:=[]) T rel.h RDs.nil ny nd ne;have fin:Fin X.K EX ρ H _ (Res.ok (D.ref .(g)) (h++[O.ins c []])):=fin;exact fin _ _ (Pre.app _ _) x r2 _ (by
  simp only[RD];exact⟨y,rfl,by rw[<- rel.h.len];simp⟩)
theorem zy6:AR X.K EX (λxs H Q=>∃a vs,xs=[.ref a]/\(H a=some (.dK vs)\/∃ob,H a=some (.frz ob (.dK vs)))/\Q (.int vs.length) H) z5T:=by
 intro ρ h H ds vs Q r rd fin;unfold z5T at fin;split at fin
 ·rename_i n;obtain⟨v,rfl,rv⟩:=rds1 rd;simp only[RD]at rv;obtain⟨q,rfl,hq⟩:=rv;obtain⟨kvs,vs,hh,rk,f2⟩:=z4Q r hq (Fin.bind fin);refine⟨q,vs,rfl,hh,FE.here f2 r (by simp only[RD];rw[rk.lenS])⟩
 ·exact fin.elim
theorem z5D (hg:Gl X "len") (hm:X.mg "len" = none) (ha:SA X EX [a] mr) (he:K0h [a] X.env=[(false,eval a X.env)]:=by rfl):SE X EX (.Call (.Name "len" p) [a] [] pos) (Z7 z5T mr) :=
 z1L (z24 za0 hg hm .(3) ha.h (by decide) (by decide) he (by rfl)) zy6
end
theorem inO_mk {c:Str}{C:Addr}(a:mg c=.(r C)) (T:OwC K c C) (b:K51 K C=true) (d:K1x K (.ref C) "__init__" = some (some (.builtin "object.__init__"))) (e:K24 K (.ref C)=true):InO K mg c:=⟨C,a,T,b,d,e⟩
theorem z5U:entryFor table "set.__and__" = some Builtin.«frozenset.__and__» :=
 K9n (id':="frozenset.__and__") (by kernel_rfl) rfl .(3) (by kernel_rfl)
section
variable {P:K1d}{w:World}{A:Around}{s:Shared}
theorem z9g {l:List Addr}{Q:Bool->Shared->Prop}(hl:∀a∈l,∃ks,SetAt w s.heap a ks) (h:Q true s):wpAny (model P w) A (setsQuiet l) Q E s:=by
 unfold setsQuiet;refine K2 (K44 (wpAny_forIn_list _ (λrest b s'=>b.1=none/\s'=s/\∀a∈rest,a∈l) (λb s'=>b.1=none/\s'=s) ?_ (λb s' hI=>⟨hI.1,hI.2.1⟩) _ _ ⟨rfl,rfl,λa h=>h⟩) ?_ λ_ _ x=>x)
 ·rintro a rest b s' ⟨hb,rfl,hr⟩;obtain⟨ks,o,es,ep,t,ks',h1,h2,h3,h4,h5,h6,h7,h8,_⟩:=hl a (hr a K1e);refine K2 (K4p h1 h3 h8 ?_);refine K2 (K44 (wpAny_forIn_array' _ (λrest b s2=>b.1=none/\s2=s'/\∀e∈rest,e∈es.toList) (λb s2=>b.1=none/\s2=s') ?_ (λb s2 hJ=>⟨hJ.1,hJ.2.1⟩) _ _ ⟨rfl,rfl,λe h=>h⟩) ?_ λ_ _ x=>x)
  ·rintro e rest b s2 ⟨q1,rfl,q2⟩;obtain⟨k,_,hk,_⟩:=z2M h4 (q2 e K1e);have q3:∀e∈rest,e∈es.toList:=λe h=>q2 e (K1a _ h);obtain⟨hx,x⟩:=e;rcases j7 hk with ⟨i,t,e1,e2⟩|⟨y,t,e1,e2⟩<;>(simp only at e2;subst e2;exact K6 ⟨rfl,rfl,q3⟩)
  ·rintro⟨b21,b22⟩ s2 ⟨q1,rfl⟩;simp only at q1;subst q1;exact K6 ⟨rfl,rfl,λa h=>hr a (K1a _ h)⟩
 ·rintro⟨b21,b22⟩ s2 ⟨q1,rfl⟩;simp only at q1;subst q1;exact K6 h
theorem walk_of {o:Obj}{Q:Array (Int×Value)->Shared->Prop}(h1:s.heap.get? a=some o) (h3:o.data=.set es ep t) (h8:t.fits es.size=true) (h0:t.led=true\/w.params.followText "set-order" = true)
 (h:∀d' ord,ord.toList.Perm es.toList->Q ord { s with drawn:=d' }):wpAny (model P w) A (setWalk a) Q E s:=by
 unfold setWalk K6u;refine K2 (K2u h1 h3 h8 (K2 (K2 (K27 (K6 ?_)))));dsimp only;cases hb:w.params.followText "set-order" with
 | true =>
  rw[show (model P w).w.params.followText "set-order" = true from hb,if_pos rfl];refine K2 (K27 (K6 ?_));exact h s.drawn _ (z6l _ _)
 | false =>
  rw[show (model P w).w.params.followText "set-order" = false from hb,if_neg (by decide)];have led:t.led=true:=by
   rcases h0 with h|h
   ·exact h
   ·rw[hb]at h;cases h
  show wpAny _ _ (if (!t.plain&&decide (es.size > 1))=true then _ else _) _ _ _;split
  ·refine K2 (z3D es.size es.toList s _ .(f) λys d' pm=>K6 ?_);exact h d' _ (by simpa using pm)
  ·show wpAny _ _ ((if (!t.led&&decide (es.size > 1))=true then _ else _) >>= _) _ _ _;rw[if_neg (by rw[led];simp)];exact K2 (K6 (K6 (h s.drawn _ (.refl _))))
theorem z7V {b r:Addr}{o:Obj}{kb:List Key}{Q:Array (Int×Value)->Shared->Prop}(h1:s.heap.get? a=some o) (h3:o.data=.set es ep t) (h8:t.fits es.size=true) (h0:t.led=true\/w.params.followText "set-order" = true)
 {ka kr:List Key} (hA:SetAt w s.heap a ka) (hB:SetAt w s.heap b kb) (hR:SetAt w s.heap r kr) (h:∀h' d' ord,K2b r s.heap h'->SetAt w h' r kr->ord.toList.Perm es.toList->Q ord { s with heap:=h',drawn:=d' }) :
 wpAny (model P w) A (Z17 a [b,r] (some r)) Q E s:=by
 unfold Z17 K6u;refine K2 (K2u h1 h3 h8 (K2 (K2 (K27 (K6 ?_)))));dsimp only;split
 ·exact walk_of h1 h3 h8 h0 λd' ord pm=>h s.heap d' ord (K5c r s.heap) hR pm
 ·rename_i hc;refine K2 (z9g (λx hx=>?_) ?_)
  ·simp only[K0y,K25,or_false]at hx;rcases hx with rfl|rfl|rfl
   ·exact⟨_,hA⟩
   ·exact⟨_,hB⟩
   ·exact⟨_,hR⟩
  rw[if_neg (by decide)];refine K2 (K6t ?_);obtain⟨o2,es2,ep2,t2,ks2,g1,g2,g3,g4,g5,g6,g7,g8,g9,g0⟩:=hR;refine K2 (K2u g1 g3 g8 ?_);dsimp only;split
  ·refine K2 (K87 g1 g3 (K6 ?_) (K5f g7));have f2:({ t2 with led:=t2.led&&t.led,plain:=t2.plain&&t.plain }:K8k).fits es2.size=true:=g8;obtain⟨S,_⟩:=z5z (h:=s.heap) (t':={ t2 with led:=t2.led&&t.led,plain:=t2.plain&&t.plain }) g1 g2 g3 g4 g5 g6 g7 f2 g9 (by
    rcases g0 with g0|g0
    ·rcases h0 with h0|h0
     ·exact .inl (by show (t2.led&&t.led)=true;rw[g0,h0];rfl)
     ·exact .inr h0
    ·exact .inr g0)
   exact h _ s.drawn es (K1k s.heap r _) S (.refl _)
  ·refine K6 ?_;exact h s.heap s.drawn es (K5c r s.heap) ⟨o2,es2,ep2,t2,ks2,g1,g2,g3,g4,g5,g6,g7,g8,g9,g0⟩ (.refl _)
theorem SetAt.nodup {h:Heap}(x:SetAt w h a ks):ks.Nodup:=let ⟨_,_,_,_,_,_,_,_,_,_,n,_⟩:=x;n
theorem zp5 {Q:Value->Shared->Prop}(hA:SetAt w s.heap a ks) (h:Q (.type "set") s):wpAny (model P w) A (K89 a) Q E s:=by
 unfold K89;exact K2 (K6v (b:=true) hA.typeIs K8z (K6 h))
theorem z7P {Q:Bool->Shared->Prop}(hA:SetAt w s.heap a ks) (h:Q true s):wpAny (model P w) A (K7h (.ref a)) Q E s:=by
 unfold K7h;exact K2 (K6v (b:=true) hA.typeIs K8z (K6 h))
theorem size_set {Q:Nat->Shared->Prop}(hA:SetAt w s.heap a ks) (h:Q ks.length s):wpAny (model P w) A (K5q a) Q E s:=by
 obtain⟨o,es,ep,t,ks',h1,h2,h3,h4,h5,h6,h7,h8,_⟩:=hA;unfold K5q;refine K2 (K4p h1 h3 h8 (K6 ?_));have:es.size=ks.length:=by rw[<- h5.length_eq,K3h h4,K17]
 rw[this];exact h
theorem zL1 {k:Key}{x:Value}{Q:Option Nat->Shared->Prop}(hk:z1P k x=true) (hA:SetAt w s.heap a ks) (h:∀r:Option Nat,r.isSome=decide (k∈ks)->Q r s):wpAny (model P w) A (setFind a x (keyH w k)) Q E s :=
 wpAny_setFind_of (knd:=y9 P w) hk (z4e hk) hA.setOf h
theorem z7n {p:Key->Bool}{a b:List Key}(h:a.Perm b):(a.filter p).Perm (b.filter p):=h.filter p
theorem z58 {id:String}{wk ak r:Addr}{kw kq:List Key}{Q:PUnit->Shared->Prop}(hw:r≠wk) (hq:r≠ak) (hW:SetAt w s.heap wk kw) (hK:SetAt w s.heap ak kq) (hR:SetAt w s.heap r [])
 (h:∀h' d' tk,K2b r s.heap h'->SetAt w h' r (kw.filter λk=>decide (k∈kq))->Q K8s { s with heap:=h',drawn:=d',toks:=tk }) :
 wpAny (model P w) A (do
  let was <- setEpoch wk;let l <- Z17 wk [ak,r] (some r)
  forIn l K8s λx __s =>
   match x with
   | (h,x)=>do
    K36 [x] do
     let __do_lift <- setFind ak x h
     if __do_lift.isSome=true then do
      let _ <- Z25 r x h
      pure ()
      else pure ()
    K5d id wk was
    pure (K3q K8s)
  pure ()) Q E s:=by
 obtain⟨o,es,ep,t,ks',h1,h2,h3,h4,h5,h6,h7,h8,h9,h0⟩:=(show SetAt w s.heap wk kw from hW);refine K2 (K88 h1 h3 h8 ?_);refine K2 (z7V h1 h3 h8 h0 hW hK hR λhp1 d1 ord sb1 hR1 pm=>?_);obtain⟨k2,p1,p2⟩:=z1Y pm h4;have pk:k2.Perm kw:=p1.trans h5;refine K2 (wpAny_forIn_array' _ (λrest _ s'=>∃hp' d' tk kd kr,s'={ s with heap:=hp',drawn:=d',toks:=tk }/\K2b r s.heap hp'/\SetAt w hp' r (kd.filter λk=>decide (k∈kq))/\Paired (KE w) kr rest/\k2=kd++kr) _ ?_ ?_ _ _ ⟨hp1,d1,s.toks,[],k2,rfl,sb1,hR1,p2,rfl⟩)
 ·rintro⟨hx,x⟩ rest _ s' ⟨hp',d',tk,kd,kr,rfl,sb,S,pr,ek⟩;cases pr with
  | cons e pr =>
   rename_i k kr;obtain⟨hk,rfl⟩:=e;have nd:k2.Nodup:=pk.nodup_iff.mpr hW.nodup;have hK':SetAt w hp' ak kq:=hK.stay λo e=>by rw[sb.2 ak hq.symm];exact e
   have gW:hp'.get? wk=some o:=by rw[sb.2 wk hw.symm];exact h1
   have len:(kd.filter λk=>decide (k∈kq)).length+1<scanBound:=by
    have l1:=K10 (λk=>decide (k∈kq)) kd;have l2:k2.length=es.size:=by rw[pk.length_eq,<- h5.length_eq,K3h h4,K17]
    rw[ek,K3,K01]at l2;omega
   refine K2 (K2e ?_);refine K2 (zL1 (s:={ s with heap:=hp',drawn:=d',toks:=tk }) hk hK' λq eq=>?_);have tl:∀(h2:Heap) (tk:Nat) (Z:ForInStep PUnit->Shared->Prop),K2b r s.heap h2->Z (.yield K8s) { s with heap:=h2,drawn:=d',toks:=tk }->wpAny (model P w) A (K5d id wk ep >>= λ_=>pure (K3q K8s)) Z E { s with heap:=h2,drawn:=d',toks:=tk }:=λh2 tk Z sb2 z=>by
    unfold K5d;refine K2 (K2 (K88 (s:={ s with heap:=h2,drawn:=d',toks:=tk }) (by show h2.get? wk=some o;rw[sb2.2 wk hw.symm];exact h1) h3 h8 ?_));rw[if_neg .(f)];exact K6 (K6 z)
   have ef:(kd++[k]).filter (λk=>decide (k∈kq))=(kd.filter λk=>decide (k∈kq))++(if k∈kq then [k] else []):=by
    rw[K7k];by_cases z:k∈kq<;>simp[z]
   by_cases z:k∈kq
   ·rw[eq,if_pos (by simpa using z)];refine K2 (zt7 (s:={ s with heap:=hp',drawn:=d',toks:=tk }) hk S len λh2 b sb2 S2=>K6 ?_);have nk:k∉kd.filter λk=>decide (k∈kq):=λm=>by
     rw[ek]at nd;exact(K1c.mp nd).2.2 k (K06.mp m).1 k K1e rfl
    rw[if_neg nk]at S2;exact tl h2 tk _ (sb.trans sb2) ⟨h2,d',tk,kd++[k],kr,rfl,sb.trans sb2,by rw[ef,if_pos z];exact S2,pr,by rw[ek];simp⟩
   ·rw[eq,if_neg (by simpa using z)];exact K6 (tl hp' tk _ sb ⟨hp',d',tk,kd++[k],kr,rfl,sb,by rw[ef,if_neg z,K13];exact S,pr,by rw[ek];simp⟩)
 ·rintro _ s' ⟨hp',d',tk,kd,kr,rfl,sb,S,pr,ek⟩;cases pr;rw[K13]at ek;subst ek;exact K6 (h hp' d' tk sb (S.perm (z7n pk)))
theorem zm6 {id:String}{Q:Value->Shared->Prop}(hab:b≠a) (hA:SetAt w s.heap a ka) (hB:SetAt w s.heap b kb)
 (h:∀h' d' tk,(∀x o,s.heap.get? x=some o->h'.get? x=some o)->SetAt w h' .(2) (ka.filter λk=>decide (k∈kb))->Q (.ref .(2)) { s with heap:=h',drawn:=d',toks:=tk }) :
 wpAny (model P w) A (K6r id a (.ref b)) Q E s:=by
 have la:a<s.heap.objs.size:=let ⟨o,_,_,_,_,e,_⟩:=hA;K0c e;have lb:b<s.heap.objs.size:=let ⟨o,_,_,_,_,e,_⟩:=hB;K0c e;unfold K6r;rw[if_neg (by simpa using hab)];refine K2 (zp5 hA (K2 (newS (K2 (K6 ?_)))));have hA1:SetAt w (s.heap.push (Y4 w)) a ka:=hA.stay λo e=>K8 _ e;have hB1:SetAt w (s.heap.push (Y4 w)) b kb:=hB.stay λo e=>K8 _ e;refine K2 (K2e (K2 (z7P (s:={ s with heap:=s.heap.push (Y4 w) }) hB1 ?_)));rw[if_pos rfl];refine K2 (K6 (K2 (size_set (s:={ s with heap:=s.heap.push (Y4 w) }) hB1 (K2 (size_set (s:={ s with heap:=s.heap.push (Y4 w) }) hA1 ?_)))));have lr:SetAt w (s.heap.push (Y4 w)) .(2) []:=fresh_at;have na:=K2r la;have nb:=K2r lb;have old:∀h':Heap,K2b .(2) (s.heap.push (Y4 w)) h'->∀x o,s.heap.get? x=some o->h'.get? x=some o:=λh' sb x o e=>by
  rw[sb.2 x (K0u (K0c e))];exact K8 _ e
 split
 ·rename_i eq;split at eq
  ·cases eq;refine z58 (Q:=λ_ s'=>wpAny (model P w) A (pure (K20 .(2))) Q E s') (s:={ s with heap:=s.heap.push (Y4 w) }) na nb hA1 hB1 lr λh' d' tk sb S=>K6 (h h' d' tk (old h' sb) S)
  ·cases eq;refine z58 (Q:=λ_ s'=>wpAny (model P w) A (pure (K20 .(2))) Q E s') (s:={ s with heap:=s.heap.push (Y4 w) }) nb na hB1 hA1 lr λh' d' tk sb S=>K6 (h h' d' tk (old h' sb) (S.perm ?_));refine(K7r (hB.nodup.filter _) (hA.nodup.filter _)).mpr λk=>?_;simp only[K06,decide_eq_true_eq];exact And.comm
theorem zs2 {Q:Value->Shared->Prop}(hab:b≠a) (hA:SetAt w s.heap a ka) (hB:SetAt w s.heap b kb)
 (h:∀h' d' tk,(∀x o,s.heap.get? x=some o->h'.get? x=some o)->SetAt w h' .(2) (ka.filter λk=>decide (k∈kb))->Q (.ref .(2)) { s with heap:=h',drawn:=d',toks:=tk }) :
 wpAny (model P w) A (K2z .BitAnd (.ref a) (.ref b)) Q E s:=by
 refine wpAny_binaryOp_same (T:="set") hA.typeIs hB.typeIs F.fills_set_and F.slot_set_and (K2s F.slot_set_and hA.typeIs z5U ?_ (F.args_set_and_2 _ _));unfold Builtin.«frozenset.__and__»;show wpAny _ A.in1 (K8h "__and__" ⟨[.ref a,.ref b],[]⟩ >>= _) _ _ _;unfold K8h slotArgs;simp only[K8j,K3i,K1f,↓reduceIte,Z1i,K01,K0b,bne_self_eq_false];refine K2 (K6 (K2 (K6 (K2 (K2 (z7P hA ?_))))));refine z7P hB ?_;rw[if_neg (by decide)];refine K2 (K6 (K2 (zm6 hab hA hB λh' d' tk k S=>?_)));exact K6 ⟨_,rfl,by simp,h h' d' tk k S⟩
end
section
variable {X:Cx}
theorem zC8:OpR X (K2z .BitAnd) (λx y H Q=>∃a b ka kb,x=.ref a/\y=.ref b/\b≠a/\H a=some (.set ka)/\H b=some (.set kb)/\∀q,H q=none->Q (.ref q) (upd H q (.set (ka.filter λk=>decide (k∈kb))))):=by
 intro pins s σ H x y v u Q I rx ry h;obtain⟨a,b,ka,kb,rfl,rfl,hab,ha,hb,q⟩:=h;cases rx;cases ry;refine zs2 hab (z4X I ha) (z4X I hb) λh' d' tk kp S=>?_;have sz:.(2)<=h'.objs.size:=by
  obtain⟨o,_,_,_,_,e,_⟩:=S;exact K33 (K0c e)
 have ho:=I.hok.laid (a:=.(2)) (o:=.set (ka.filter λk=>decide (k∈kb))) kp (K04 _) S;exact⟨.ref s.heap.objs.size,_,I.call' (s':={ s with heap:=h',drawn:=d',toks:=tk }) (ch:=[]) rfl (Un.laid kp (K04 _) I.fresh) ho I.bare (λb z=>absurd z .(f)),rfl,q _ I.fresh⟩
end
end FT
namespace L2
section
variable {prog:K1d}{w:World}{A:Around}{E:Value->Shared->Prop}{s:Shared}{d:Addr}{n:Nat}{P:Nat->Value->Prop}{OK:Heap->Prop}
theorem zh4 {Q₁:Value->Shared->Prop}(K:Z30 prog w "dict" d d n P OK) (hh:A.handled=none) (hok:OK s.heap) (hn:n<=sizeLine)
 (h:∀(h':Heap) (tk:Nat) (acc:Array Value),(∀b o,s.heap.get? b=some o->h'.get? b=some o)->Z2v P acc n->Q₁ (.ref h'.objs.size) { s with heap:=h'.push { cls:=.type "tuple",data:=.seq acc },toks:=tk }) :
 K4w (model prog w) A (.call (.builtin "tuple.__new__") ⟨[.type "tuple",.ref d],[]⟩) (wants Q₁ E) s:=by
 refine K56 ?_;show wpAny _ A.in1 (do K8q "tuple.__new__" ⟨[.type "tuple",.ref d],[]⟩;again (.builtin "tuple.__new__" ⟨[.type "tuple",.ref d],[]⟩)) _ _ s;refine K2 (K6z (PySem.F.newCall_tuple_1 _) (K6 ⟨K59 K8o _,K2p PySem.F.entry_tuple_new ?_⟩));rw[K28 K8o _];have hsub:=sub_tuple_self;have hinit:=init_tuple_lookup;have hmh:=madeHere_tuple;have hTI:=K.type s hok;have hh1:A.in1.in1.handled=none:=by simp[hh]
 wp_walk using K7d hTI,PySem.W.kdu_collect K (by simp[hh]) hok hn
 intro h' tk acc hk hacc;show wpAny _ _ (K8c acc.toList.toArray >>= λv=>ret v) _ _ _;unfold K8c;refine K2 (K2h ?_ (by show acc.toList.toArray.size<=sizeLine;simp only[K9m];rw[hacc.1];exact hn));refine K6 ?_;have e:acc.toList.toArray=acc:=by simp
 rw[e];exact h h' tk acc hk hacc
theorem z9m {Q:Value->Shared->Prop}(K:Z30 prog w "dict" d d n P OK) (hh:A.handled=none) (hok:OK s.heap) (hn:n<=sizeLine)
 (hQ:∀(h':Heap) (tk:Nat) (acc:Array Value),(∀b o,s.heap.get? b=some o->h'.get? b=some o)->Z2v P acc n->Q (.ref h'.objs.size) { s with heap:=h'.push { cls:=.type "tuple",data:=.seq acc },toks:=tk }) :
 wpAny (model prog w) A (call (.type "tuple") [.ref d]) Q E s:=by
 refine callType_codes (Q₁:=λobj s₁=>s₁.TypeIs obj "tuple"/\Q obj s₁) PySem.F.called_tuple (PySem.F.typeCall_tuple_1 _) PySem.F.entry_object_init
  (zh4 K (by simp[hh]) hok hn λh' tk acc hk hacc=>⟨⟨_,K0f _ rfl,rfl⟩,hQ h' tk acc hk hacc⟩) λobj s₁ h₁=>?_
 exact⟨h₁.1,K7p obj _,object_init_meets PySem.F.called_tuple.init.lookup PySem.F.called_tuple.made (by decide) prog w A.in1 _ s₁ ⟨h₁.1,rfl,h₁.2⟩⟩
end
section
variable {X:Cx}
theorem z9H (hc:X.calm=true):z3F X (.type "tuple") (λxs H Q=>∃a vs,xs=[.ref a]/\(H a=some (.dK vs)\/∃ob,H a=some (.frz ob (.dK vs)))/\∀l,H l=none->Q (.ref l) (upd H l (.tup (vs.map λkv=>kV kv.1)))):=by
 intro pins s σ H xs us Q I r h;obtain⟨a,vs,rfl,hq,q⟩:=h;obtain⟨u,rfl,ru⟩:=vals1 r;cases ru;have go:∀{us:List (Key×Value)} {ep:Nat},KV vs us->vs.length<=sizeLine->(a==K45)=false->s.heap.DictAt (y9 X.prog X.w) a us ep->wpAny .(4) X.A (call (.type "tuple") [.ref a]) (EP X pins σ Q) X.xe s:=λ{us ep} rel z hd dat=>by
  have le:=rel.length;refine z9m (Z2c hd) (I.ok.hd hc) dat (by rw[<- le];exact z) λh' tk acc kp it=>?_;have vl:Vals (vs.map λkv=>kV kv.1) acc.toList:=z2F rel (by rw[K17];exact it.1) λj v hv=>it.2 j v (by simpa using hv);have I1:Inv X pins σ H { s with heap:=h',toks:=tk }:=I.kept (t':=tk) kp;have I2:Inv X pins σ (upd H h'.objs.size (.tup (vs.map λkv=>kV kv.1))) { s with heap:=h'.push { cls:=.type "tuple",data:=.seq acc },toks:=tk } :=
   I1.laid (t':=tk) (λb o e=>K8 _ e) (K04 _) (show ObjOk X.prog X.w _ _ _ (.tup _) from⟨by rw[K0d];exact z,acc.toList,vl,by rw[K9m];exact FT.IsTup0.new _ _⟩)
  exact⟨.ref h'.objs.size,_,I2,rfl,q _ (I1.hok.fresh (K04 _))⟩
 rcases hq with hq|⟨ob,hq⟩
 ·obtain⟨z,hd,us,rel,dd⟩:=ze1 I.hok hq;obtain⟨ob,es,ep,ho,r1,r2,r3⟩:=id dd;exact go rel z hd ⟨ob,es,ho,r1,r2,r3⟩
 ·obtain⟨go',z,hd,us,rel,dd⟩:=(show ObjOk X.prog X.w H s.heap a (.frz ob (.dK vs)) from I.hok a _ hq);obtain⟨ob',es,ep,ho,r1,r2,r3⟩:=id dd;exact go rel z hd ⟨ob',es,ho,r1,r2,r3⟩
end
end L2
namespace FT
variable{X:Cx}{a b m c n i x N y z:Nat}{mr:G->M (List D)}{ma mb mo mi me:G->M D}{pos:Pos}{K:K5}{C dk:Addr}{st B:List (List Nat)}{f:Nat->List Nat}{sl:Array (Option Value)}{P:K1d}{w:Str×Str}{mg:Str->Option Value}{base:Heap}{mf:List D->M D}{d1 d2 xs:List D}{kws:List K4z}{mk:List (List Str)}{v:Nat->D}{l g T u L S' A:List Nat}{d:D}{h j r H:AH}{kvs:List (Key×D)}{neg:Bool}{γ:G}{kb:G->M Bool}{cap:List (Option Nat)}{Q:D->AH->Prop}{ns:List Str}{S:Nat->Prop}{mt:G->M Out}{ws:List (Str×Str)}{c':Str}
def z9k:List D->M D
 | [.ref n]=>do
  let kvs <- z4n n
  pure (.tup (z2g kvs))
 | _=>bad
def z9z:D->D->M D
 | .ref a,.ref b=>if a=b then bad else do
  let ka <- getS a;let kb <- getS b
  newSet (ka.filter λk=>decide (k∈kb))
 | _,_=>bad
def fBor:=fI λi j=>.int (K6w i j)
section
variable {EX:XX}{a b:Expr}{p:Pos}
theorem zH0:AR X.K EX (λxs H Q=>∃a vs,xs=[.ref a]/\(H a=some (.dK vs)\/∃ob,H a=some (.frz ob (.dK vs)))/\∀l,H l=none->Q (.ref l) (upd H l (.tup (vs.map λkv=>kV kv.1)))) z9k:=by
 intro ρ h H ds vs Q r rd fin;unfold z9k at fin;split at fin
 ·rename_i n;obtain⟨v,rfl,rv⟩:=rds1 rd;simp only[RD]at rv;obtain⟨q,rfl,hq⟩:=rv;obtain⟨kvs,vs,hh,rk,f2⟩:=z4Q r hq (Fin.bind fin);exact⟨q,vs,rfl,hh,λl hl=>FE.tup f2 r (z4P rk) hl⟩
 ·exact fin.elim
theorem zD3 (hc:X.calm=true) (hg:Gl X "tuple") (hm:X.mg "tuple" = none) (ha:SA X EX [a] mr) (he:K0h [a] X.env=[(false,eval a X.env)]:=by rfl):SE X EX (.Call (.Name "tuple" p) [a] [] pos) (Z7 z9k mr) :=
 z1L (z3q (z9H hc) hg hm .(3) ha.h (by decide) (by decide) he rfl) zH0
theorem zJ0:BR K EX (λx y H Q=>∃a b ka kb,x=.ref a/\y=.ref b/\b≠a/\H a=some (.set ka)/\H b=some (.set kb)/\∀q,H q=none->Q (.ref q) (upd H q (.set (ka.filter λk=>decide (k∈kb))))) z9z:=by
 intro ρ h H x y v u Q r rx ry fin;unfold z9z at fin;split at fin
 ·rename_i a b;split at fin
  ·exact fin.elim
  ·rename_i ne;simp only[RD]at rx ry;obtain⟨qa,rfl,ha⟩:=rx;obtain⟨qb,rfl,hb⟩:=ry;obtain⟨ka,h1,f2⟩:=z49 r ha (Fin.bind fin);obtain⟨kb,h2,f3⟩:=z49 r hb (Fin.bind f2);exact⟨qa,qb,ka,kb,rfl,rfl,λz=>ne (r.nd a b qa ha (z ▸ hb)),h1,h2,λq hq=>z3x r hq f3⟩
 ·exact fin.elim
theorem zy0 (ha:SE X EX a ma) (hb:SE X EX b mb):SE X EX (.BinOp a .BitAnd b pos) (e2 z9z ma mb):=z5J zC8 zJ0 ha hb
theorem zQ0:OpR X (K2z .BitOr) (rI0 λi j=>.int (K6w i j)):=opI0 λ_ _ _ _ _ _ _ q=>or_int q
theorem z5V (ha:SE X EX a ma) (hb:SE X EX b mb):SE X EX (.BinOp a .BitOr b pos) (e2 fBor ma mb):=z5J zQ0 (ze0 λi j ρ H=>by simp[RD]) ha hb
end
def DefMK (K:K5) (C:Addr) (m q:Str) (st:Stmt) (dk:Addr):Prop:=∃(f:Addr) (oc:Value) (od:Option Addr) (doc pm:Value) (an:Option Addr) (cdv ct:Value) (osl:Array (Option Value)),K1x K (.ref C) m=some (.(r f))/\K68 K (.ref f)=true /\
 K.lookup f=some ⟨oc,od,.func (K2g m q (z0O st) (Y9 st) (Z8 st) .none (.ref dk) doc pm an cdv ct),osl⟩/\K2k K cdv q=true/\K24 K (.ref f)=true
theorem defMK_mk {m q:Str}{st:Stmt}{f dk:Addr}{oc:Value}{od an:Option Addr}{sl:Array (Option Value)}{dc pm cd ct:Value}(a:K1x K (.ref C) m=some (.(r f))) (i:K68 K (.ref f)=true)
 (l:K.lookup f=some ⟨oc,od,.func (K2g m q (z0O st) (Y9 st) (Z8 st) .none (.ref dk) dc pm an cd ct),sl⟩) (c:K2k K cd q=true) (k:K24 K (.ref f)=true):DefMK K C m q st dk:=⟨f,oc,od,dc,pm,an,cd,ct,sl,a,i,l,c,k⟩
structure MtR (P:K1d) (w:World) (K:K5) (mg:Str->Option Value) (base:Heap) (k:Nat) (c m q:Str) (st:Stmt) (dk:Addr) (ps:List Str) (mf:List D->M D):Prop where
 ex:∃(C f:Addr) (doc pm:Value) (an:Option Addr) (cdv ct:Value),OwC K c C/\Meth K C m f/\FnOk P w K mg base CX0 k f (K2g m q (z0O st) (Y9 st) (Z8 st) .none (.ref dk) doc pm an cdv ct) ps (spB K mf ps.length)
structure MtP (P:K1d) (w:World) (K:K5) (mg:Str->Option Value) (base:Heap) (k:Nat) (c m:Str) (n:Nat) (ks:List Str) (d1 d2:List D) (mf:List D->M D):Prop where
 ex:∃C f fd ps g gV v1 v2,OwC K c C/\Meth K C m f/\FnOk P w K mg base CX0 k f fd ps (spB K mf ps.length)/\KBinds K fd ps ks g gV/\(∀vs zs:List V,vs.length=n+1->zs.length=ks.length->gV vs zs=vs++(v1++zs++v2)/\(gV vs zs).length=ps.length) /\
  ∀ρ H,RDs K ρ H d1 v1/\RDs K ρ H d2 v2
section
variable {w:World}{k:Nat}{c m q:Str}{st:Stmt}{ps:List Str}
theorem MtR.pat (F:MtR P w K mg base k c m q st dk ps mf) (n:Nat) (ks:List Str){d1 d2:List D}{v1 v2:List V}{u1 u2:List Value}
 (r1:Vals v1 u1) (r2:Vals v2 u2) (e1:∀ρ H,RDs K ρ H d1 v1) (e2:∀ρ H,RDs K ρ H d2 v2) (hp:0<ps.length) (hl:n+1+(u1.length+ks.length+u2.length)=ps.length)
 (hB:∀(doc pm:Value) (an:Option Addr) (cdv ct:Value) (s:Shared) (us ws:List Value),K.In s.heap->us.length=n+1->ws.length=ks.length->K8w s (K2g m q (z0O st) (Y9 st) (Z8 st) .none (.ref dk) doc pm an cdv ct) ⟨us,ks.zip ws⟩ (ps.zip (us++(u1++ws++u2)))):MtP P w K mg base k c m n ks d1 d2 mf:=by
 obtain⟨C,f,doc,pm,an,cdv,ct,h1,h2,h3⟩:=F.ex;refine⟨C,f,_,ps,λus ws=>if us.length=n+1/\ws.length=ks.length then us++(u1++ws++u2) else [],λus ws=>if us.length=n+1/\ws.length=ks.length then us++(v1++ws++v2) else [],v1,v2,h1,h2,h3,⟨λs us ws X q=>?_,λ{vs us zs ws} a b=>?_⟩,λvs zs a b=>?_,λρ H=>⟨e1 ρ H,e2 ρ H⟩⟩
 ·split at q
  ·rename_i c;rw[if_pos c];exact hB doc pm an cdv ct s us ws X c.1 c.2
  ·rw[K0b]at q;omega
 ·rw[a.length,b.length];split
  ·exact a.append ((r1.append b).append r2)
  ·exact .nil
 ·dsimp only;rw[if_pos ⟨a,b⟩];refine⟨rfl,?_⟩;simp only[K3,r1.length,r2.length];omega
theorem dfMR (N:List Str) (np:Nat) (mb:G->M Out) (TI:OwC K c C) (T:DefMK K C m q st dk) (hs:scB N (N.take np) (Z8 st)=true)
 (body:∀{f:Addr} {cdv:Value} {A:Around} {outer:List Env} {s:Shared} {H:Hp} {E:XK},K2k K cdv q=true->Room k (A.deeper (envOfC q (Z8 st) .(2) f cdv))->N.Nodup ->
  SB (cxOf CX0 P w K mg base N q (Z8 st) f cdv A outer s H E).nox EX0 (Y9 st) mb):MtR P w K mg base (k+1) c m q st dk (N.take np) λds=>cln (runF N.length mb ds):=by
 obtain⟨f,oc,od,doc,pm,an,cdv,ct,osl,hf,hi,lk,hcd,kp⟩:=T;have S:=zp1 hs;refine⟨C,f,doc,pm,an,cdv,ct,TI,⟨hf,hi,kp⟩,FnOk.imp (sp:=spB K (runF N.length mb) (N.take np).length) ?_ λvs H Q E ⟨hl,ρ,ds,h,rh,rd,fin⟩=>⟨hl,ρ,ds,h,rh,rd,FE.cln rh fin⟩⟩;refine zn2 lk hcd S (λvs H Q E h=>h.1) λA outer s H vs Q E hr h=>?_;obtain⟨hl,ρ,ds,h,rh,rd,fin⟩:=h;refine⟨_,(body hcd hr S.nd).h.nox,ρ,z16 N.length ds,h,⟨z3k rd,rh⟩,?_⟩;refine(Fin.bind fin).mono λo ρ1 h1 H1 p1 e1 r1 f1=>?_;cases o with
 | nx γ=>exact λσ _=>FE.here (d:=.non) (h:=h1) f1 r1 (by simp[RD])
 | rt d=>exact λv rv=>f1 ρ1 H1 .(9) .(a) r1 v rv
 | bk γ=>exact(show False from f1).elim
 | ct γ=>exact(show False from f1).elim
end
def eMtP (c m:Str) (n q:Nat) (d1 d2:List D) (mf:List D->M D) (mo:G->M D) (mr mk:G->M (List D)):G->M D:=λγ=>do
 let d <- mo γ
 chkI c m d
 let xs <- mr γ;let zs <- mk γ
 if xs.length=n/\zs.length=q then mf (d::(xs++(d1++zs++d2))) else bad
section
variable {c m:Str}{k q:Nat}{e o:Expr}{es:List Expr}{ks:List Str}{apos:Pos}{mk:G->M (List D)}
theorem z3Q {pl:Sem Bool}(F:MtP X.prog X.w X.K X.mg X.base k c m n ks d1 d2 mf) (hr:Room k X.A) (ho:SE X EX0 o mo) (ha:SA X EX0 (e::es) mr) (hk:SK X EX0 kws mk)
 (hall:(K55 pos (K39 kws X.env)).all (·.1.isSome)=true:=by rfl) (hks:(K55 pos (K39 kws X.env)).filterMap (·.1)=ks:=by rfl)
 (hst:K0h (e::es) X.env=(false,eval e X.env)::K0h es X.env:=by rfl) (hpl:((backTo pos (K0h (e::es) X.env)).any (·.1)||(K55 pos (K39 kws X.env)).any (·.1.isNone))=false:=by rfl)
 (ht:eval (.Call (.Attribute o m apos) (e::es) kws pos) X.env=(do
  let ov <- eval o X.env
  K4o apos.atName
  let (f,first) <- K36 [ov] (K9x ov m pl)
  callWith pos f first (backTo pos (K0h (e::es) X.env)) (K55 pos (K39 kws X.env))):=by rfl) (hq:ks.length=q:=by rfl):SE X EX0 (.Call (.Attribute o m apos) (e::es) kws pos) (eMtP c m n q d1 d2 mf mo mr mk):=by
 subst hq;constructor;obtain⟨C,f,fd,ps,g,gV,v1,v2,T,hm,F1,hb,h5,h6⟩:=F.ex;intro pins s σ H Q I ⟨ρ,γ,h,rel,fin⟩;refine K98 (pl:=pl) (thn (ho.h pins s σ H (λx H1=>∃a dx fs,x=.ref a/\H1 a=some (.ins C dx fs)/\fs.lookup m=none/\tL X.K EX0 mr σ H1 λvs H2=>tL X.K EX0 mk σ H2 λzs H3=>spB X.K mf ps.length (gV (x::vs) zs) H3 Q E0) I ⟨ρ,γ,h,rel,(Fin.bind fin).mono λd ρ1 h1 H1 p1 e1 r1 f1 v rv=>?_⟩) λu s1 ⟨x,H1,I1,rx,a,dx,fs,ex,ea,l,q⟩=>?_) ht
 ·have f2:=Fin.bind f1;unfold chkI at f2;cases d<;>first|exact(show False from f2).elim|skip
  rename_i i;dsimp only at f2;split at f2
  ·rename_i c' fs eh;split at f2
   ·rename_i ec;obtain⟨ec,hn⟩:=ec;subst ec;obtain⟨a,dx,vs',rfl,hq,o1,d1'⟩:=zs9 T r1 eh rv;refine⟨a,dx,vs',rfl,o1,d1'.look.2 hn,ρ1,γ,h1,⟨rel.g.mono p1 e1,r1⟩,(Fin.bind (f2 ρ1 H1 .(9) .(a) r1)).mono λxs ρ2 h2 H2 p2 e2 r2 f3 vs rvs=>⟨ρ2,γ,h2,⟨(rel.g.mono p1 e1).mono p2 e2,r2⟩,(Fin.bind f3).mono λzs ρ3 h3 H3 p3 e3 r3 f4 us rus=>?_⟩⟩;by_cases cc:xs.length=n/\zs.length=ks.length
    ·rw[if_pos cc]at f4;have l1:=rvs.length;have l2:=rus.length;obtain⟨q1,q2⟩:=h5 (.ref a::vs) us (by rw[K01];omega) .(1);refine⟨q2,ρ3,_,h3,r3,?_,f4⟩;rw[q1];exact RDs.cons ((rv.mono p2 e2).mono p3 e3) ((rvs.mono p3 e3).append (((h6 ρ3 H3).1.append rus).append (h6 ρ3 H3).2))
    ·rw[if_neg cc]at f4;exact(show False from f4).elim
   ·exact f2.elim
  ·exact f2.elim
 ·subst ex;obtain rfl:u=K20 a:=rx;refine z5r I1 ea T.cl hm l ?_;refine PySem.W.callWith_KW (first:=[.ref a]) (h₀:=X.base) I.ok.mod.kin hm.kp hall (thn (ha.h pos pins s1 σ H1 _ I1 q) λus s2 ⟨vs,H2,I2,r,q2⟩=>?_) hpl hst;refine thn (hk.h pos pins s2 σ H2 _ I2 q2) λws s3 ⟨zs,H3,I3,rz,q3⟩=>⟨I3.kIn,?_⟩;rw[hks];exact zG5 (us:=.ref a::us) (vs:=.ref a::vs) F1 hr hb zK9 I3 (.cons rfl r) rz q3
end
def zo7 (f:Int->Int->Int) (mo mi me:G->M D):G->M Out:=λγ=>do
 let o <- mo γ;let i <- mi γ;let x <- z1N o i;let y <- me γ
 match x,y with
 | .int a,.int b=>do
  let _ <- z3i o i (.int (f a b))
  pure (.nx γ)
 | _,_=>bad
def Z0L:V->V->Hp->VK->Prop:=λo i H Q=>∃ad v,o=.ref ad/\DGet H ad i (some v)/\Q v H
section
variable {EX:XX}{o i e:Expr}{tpos:Pos}{op:Z20}{f:Int->Int->Int}
theorem get_dict (hu:X.A.units+1<cLine):PGet X Z0L:=by
 intro pins s σ H o i ov iv Q I ro ri h;obtain⟨ad,v,rfl,g,q⟩:=h;cases ro;exact z6G hu I g ri λw' s3 I3 rw'=>⟨v,H,I3,rw',q⟩
theorem zM3 (hu:X.A.units+1<cLine) (ho:SE X EX o mo) (hi:SE X EX i mi) (hp:PIp X op (ipI f)) (he:SE X EX e me)
 (ha:∀ov iv new,augStore i ov iv new=(do K36 [new,ov,iv] (K9v ov iv new);Z2t [new,ov,iv] [];pure .next):=by intros;rfl):S1 X EX (.AugAssign (.Subscript o i tpos) op e pos) (zo7 f mo mi me) :=
 ⟨PS.imp (zK0 ho.h hi.h (get_dict hu) he.h hp (set_dict hu) ha) λσ H D ⟨ρ,γ,h,rel,fin⟩=>⟨ρ,γ,h,rel,(Fin.bind fin).mono λod ρ1 h1 H1 p1 e1 r1 f1 ov ro=>⟨ρ1,γ,h1,⟨rel.g.mono p1 e1,r1⟩,(Fin.bind f1).mono λid ρ2 h2 H2 p2 e2 r2 f2 iv ri=>by
  obtain⟨n,ad,kvs,vs,rfl,rfl,hn,hk,hH,rk,f3⟩:=z5w r2 (ro.mono p2 e2) (Fin.bind (Fin.bind f2));cases ek:keyD id with
  | none=>rw[ek]at f3;exact f3.elim
  | some k =>
   rw[ek]at f3;have:=za3 ek ri;subst this;rcases rk.lk k with ⟨z1,_⟩|⟨d,u,z1,z2,rd⟩
   ·dsimp only at f3;rw[z1]at f3;exact f3.elim
   dsimp only at f3;rw[z1]at f3;refine⟨ad,u,rfl,?_,ρ2,γ,h2,⟨(rel.g.mono p1 e1).mono p2 e2,r2⟩,?_⟩
   ·rw[<- z2];exact .inl ⟨vs,k,hH,rfl,rfl⟩
   have f4:=f3 ρ2 H2 .(9) .(a) r2;refine(Fin.bind f4).mono λy ρ3 h3 H3 p3 e3 r3 f5 w rw'=>?_;cases d<;>cases y<;>first|exact(show False from f5).elim|skip
   rename_i a b;simp only[RD]at rd rw';subst rd;subst rw';refine⟨a,b,rfl,rfl,?_⟩;have f6:=Fin.bind f5;unfold z3i at f6;dsimp only at f6;rw[ek]at f6;dsimp only at f6;cases e4:h3[n]? with
   | none=>rw[e4]at f6;exact f6.elim
   | some ob =>
    cases ob with
    | lst xs=>rw[e4]at f6;exact f6.elim
    | set ks=>rw[e4]at f6;exact f6.elim
    | dct=>rw[e4]at f6;exact f6.elim
    | exc c=>rw[e4]at f6;exact f6.elim
    | ins _ _=>rw[e4]at f6;exact f6.elim
    | dF c=>rw[e4]at f6;exact f6.elim
    | dK kvs =>
     rw[e4]at f6;dsimp only at f6;split at f6
     ·rename_i hl;obtain⟨a1,n1,vs,o1,d1⟩:=r3.at e4;have hq3:=p3 n ad hn;rw[hq3]at n1;cases n1;have rv:RD X.K ρ3 H3 (.int (f a b)) (.int (f a b)):=by simp[RD]
      refine⟨ad,_,rfl,DPut.k o1 (by rw[<- d1.len];exact hl),?_⟩;have ext:Ext X.K H3 (upd H3 ad (.dK (L2.putK vs k (.int (f a b))))):=Ext.upd (.inr ⟨_,o1,trivial⟩);have r4:RH X.K ρ3 (h3.set n (.dK (ptD kvs k (.int (f a b))))) (upd H3 ad (.dK (L2.putK vs k (.int (f a b))))):=r3.setO e4 hq3 ⟨_,J6,(d1.put k rv).mono .(9) ext⟩;exact f6 ρ3 _ .(9) ext r4 ρ3 _ .(9) .(a) r4 σ ((((rel.g.mono p1 e1).mono p2 e2).mono p3 e3).mono .(9) ext)
     ·exact f6.elim⟩⟩⟩
end
def kvG (v:Nat->D) (l:List Nat):List (Key×D):=l.map λ(x:Nat)=>(.inl (x:Int),v x)
theorem zd9:(kvG v l).length=l.length:=by unfold kvG;simp
theorem z7J:((kvG v l).any λkv=>decide (kv.1=.inl (x:Int)))=decide (x∈l):=by
 unfold kvG;induction l with
 | nil=>rfl
 | cons a l ih =>
  rw[K0v,K2n,ih];have:decide (((.inl (a:Int),v a):Key×D).1=.inl (x:Int))=decide (x=a):=by
   rw[K0o,.(h),.(h)];exact⟨λh=>by injection h with h;omega,λh=>by subst h;rfl⟩
  rw[this];simp[K0y,Z32]
theorem zt1 (h:x∈l):lkD (kvG v l) (.inl (x:Int))=some (v x):=by
 unfold lkD kvG;induction l with
 | nil=>cases h
 | cons a l ih =>
  rw[K0v,K2y];by_cases e:a=x
  ·subst e;simp
  ·have n:decide (((.inl (a:Int),v a):Key×D).1=.inl (x:Int))=false:=.(m) λq=>e (by
    have q:(K1j (a:Int):Key)=K1j (x:Int):=q;injection q with q;omega)
   rw[n];exact ih (by
    cases h with
    | head=>exact(e rfl).elim
    | tail _ h=>exact h)
theorem zU9 (h:x∉l):lkD (kvG v l) (.inl (x:Int))=none:=by
 have:=z7J (v:=v) (l:=l) (x:=x);rw[.(m) h]at this;unfold lkD;rw[List.find?_eq_none.mpr]
 ·rfl
 ·intro kv hk z;rw[Z24]at this;exact this kv hk z
theorem zk7 (h:x∉l):ptD (kvG v l) (.inl (x:Int)) (v x)=kvG v (l++[x]):=by
 unfold ptD;rw[z7J,.(m) h];unfold kvG;simp
theorem zB9 (h:x∈l):ptD (kvG v l) (.inl (x:Int)) d=kvG (λy=>if y=x then d else v y) l:=by
 unfold ptD;rw[z7J,decide_eq_true h,if_pos rfl];unfold kvG;rw[K1h];refine K3t λa _=>?_;show (if (K1j (a:Int):Key)=K1j (x:Int) then ((K1j (a:Int):Key),d) else (K1j (a:Int),v a))=(K1j (a:Int),if a=x then d else v a);by_cases e:a=x
 ·subst e;rw[if_pos rfl,if_pos rfl]
 ·rw[if_neg e,if_neg λz=>e (by injection z with z;omega)]
theorem z4v {v':Nat->D}(h:∀x∈l,v x=v' x):kvG v l=kvG v' l:=by
 unfold kvG;exact K3t λa ha=>by rw[h a ha]
theorem zL7:z2g (kvG v l)=stD l:=by unfold z2g kvG stD;rw[K1h];rfl
def DAt (h:AH) (n:Nat) (kvs:List (Key×D)):Prop:=h[n]?=some (.dK kvs)\/h[n]?=some (.dF kvs)
theorem DAt.app (e:DAt h n kvs):DAt (h++j) n kvs:=by
 rcases e with e|e
 ·exact .inl (J8 e)
 ·exact .inr (J8 e)
theorem zc5 (e:DAt h n kvs):getK n h=.ok kvs h:=by
 unfold getK;rcases e with e|e<;>rw[e]
theorem zQ7 (e:DAt h n (kvG v l)):fInD neg (.int (x:Nat)) (.ref n) h=.ok (.bl (decide (x∈l) != neg)) h:=by
 show (getK n >>= λkvs=>_) h=_;rw[M.bind_ok (zc5 e)];show (pure (D.bl ((lkD (kvG v l) (.inl (x:Int))).isSome != neg)):M D) h=_;by_cases c:x∈l
 ·rw[zt1 c,decide_eq_true c];rfl
 ·rw[zU9 c,.(m) c];rfl
theorem z8p (e:DAt h n (kvG v l)) (hx:x∈l):z1N (.ref n) (.int (x:Nat)) h=.ok (v x) h:=by
 show (getK n >>= λkvs=>_) h=_;rw[M.bind_ok (zc5 e)];show (match lkD (kvG v l) (.inl (x:Int)) with|some d=>pure d|none=>bad:M D) h=_;rw[zt1 hx];rfl
theorem zN4 (e:h[n]?=some (.dK (kvG v l))) (hx:x∈l) (hl:l.length<1000):z3i (.ref n) (.int (x:Nat)) d h=.ok () (h.set n (.dK (kvG (λy=>if y=x then d else v y) l))):=by
 have:keyD (.int (x:Nat))=some (.inl (x:Int)):=rfl;unfold z3i;dsimp only;rw[this];dsimp only;rw[e];dsimp only;rw[if_pos (by rw[zd9];unfold sizeLine;omega),zB9 hx]
theorem zY9 (e:DAt h n (kvG v l)):z9k [.ref n] h=.ok (.tup (stD l)) h:=by
 have g:z4n n h=.ok (kvG v l) h:=by unfold z4n;rcases e with e|e<;>rw[e]
 unfold z9k;dsimp only;rw[M.bind_ok g,zL7];rfl
theorem zA4 {h1:AH}(e:ma γ h=.ok (.ref n) h1) (q:h1[n]?=some (.dK (kvG v l))):iDic ma γ h=.ok (.con (stD l)) (h1.set n (.dF (kvG v l))):=by
 unfold iDic;rw[M.bind_ok e];dsimp only;rw[q];dsimp only;rw[zL7]
section
variable {g:D->G->M G}{mv:G->M D}{mi:G->M Src}
theorem z61 {γ':G}(p:Nat->Bool) (v:Nat->D) (src:Src) (h1:AH) (hg:∀j,src.good (h1++j)):∀(rest pre:List Nat),(∀x∈rest,x∉pre)->rest.Nodup->(pre++rest).length<=1000 ->
 (∀x∈rest,∃γ1,(∀h,g (.int x) γ' h=.ok γ1 h)/\(∀j,kb γ1 (h1++j)=.ok (p x) (h1++j))/\(∀h,me γ1 h=.ok (.int x) h)/\∀j,mv γ1 (h1++j)=.ok (v x) (h1++j)) ->
 z0k src g kb me mv h1.length γ' (stD rest) (h1++[.dK (kvG v pre)])=.ok () (h1++[.dK (kvG v (pre++rest.filter p))])
 | [],pre,np,nd,hl,hd=>by
  unfold stD;rw[K2a];unfold z0k;rw[List.filter_nil,K13];have c1:src.chk (h1++[.dK (kvG v pre)])=.ok () (h1++[.dK (kvG v pre)]):=by unfold Src.chk;rw[if_pos (hg _)]
  rw[M.bind_ok c1];rfl
 | x::rest,pre,np,nd,hl,hd=>by
  obtain⟨γ1,e1,e2,e3,e4⟩:=hd x .(f);have xp:x∉pre:=np x .(f);have nd':=K3p.mp nd;rw[K3,K01]at hl;have c1:src.chk (h1++[.dK (kvG v pre)])=.ok () (h1++[.dK (kvG v pre)]):=by unfold Src.chk;rw[if_pos (hg _)]
  show z0k src g kb me mv h1.length γ' (.int x::stD rest) _=_;unfold z0k;rw[M.bind_ok c1,M.bind_ok (e1 _),M.bind_ok (e2 _),K40];by_cases c:p x=true
  ·have c5:z54 h1.length (.int x) (v x) (h1++[.dK (kvG v pre)])=.ok () (h1++[.dK (kvG v (pre++[x]))]):=by
    have:keyD (.int (x:Nat))=some (.inl (x:Int)):=rfl;unfold z54 z3i;dsimp only;rw[this];dsimp only;rw[z0D];dsimp only;rw[if_pos (by rw[zd9];unfold sizeLine;omega),zk7 xp,z7f]
   rw[c,if_pos rfl,if_pos rfl,M.bind_ok (e3 _),M.bind_ok (e4 _),M.bind_ok c5,z61 (γ':=γ') p v src h1 hg rest (pre++[x]) (λy hy z=>by
    rcases K00.mp z with z|z
    ·exact np y (by simp[hy]) z
    ·rw[K0j]at z;subst z;exact nd'.1 hy) nd'.2 (by rw[K3,K3,K09];omega) λy hy=>hd y (by simp[hy]),K05]
   rfl
  ·rw[eq_false_of_ne_true c,if_neg (by decide),if_neg (by decide)];exact z61 (γ':=γ') p v src h1 hg rest pre (λy hy=>np y (by simp[hy])) nd'.2 (by rw[K3];omega) λy hy=>hd y (by simp[hy])
theorem z8F {h1:AH}{src:Src}{V:List Nat}(p:Nat->Bool) (v:Nat->D) (hi:mi γ h=.ok src h1) (hs:src.items=stD V) (hg:∀j,src.good (h1++j)) (nd:V.Nodup) (hl:V.length<=1000)
 (hd:∀x∈V,∃γ1,(∀h,g (.int x) (capG cap γ) h=.ok γ1 h)/\(∀j,kb γ1 (h1++j)=.ok (p x) (h1++j))/\(∀h,me γ1 h=.ok (.int x) h)/\∀j,mv γ1 (h1++j)=.ok (v x) (h1++j)) :
 z1R cap mi g kb me mv γ h=.ok (.ref h1.length) (h1++[.dK (kvG v (V.filter p))]):=by
 have r:=z61 (γ':=capG cap γ) (kb:=kb) (me:=me) (mv:=mv) (g:=g) p v src h1 hg V [] (λ_ _ z=>by cases z) nd hl hd;unfold z1R;rw[M.bind_ok hi];show (z0k src g kb me mv h1.length (capG cap γ) src.items >>= λ_=>(pure (D.ref h1.length):M D)) (h1++[O.dK []])=_;rw[hs];have r':z0k src g kb me mv h1.length (capG cap γ) (stD V) (h1++[.dK []])=_:=r;rw[M.bind_ok r'];rfl
end
variable {w:World}
def top (i:Nat):Stmt:=PySem.Challenge.pw_fairtrees_k29_whole_ever_both_ways.main.body.getD i (.Pass ⟨0,0,0,0⟩)
noncomputable def c_FREE:D:=.tup []
noncomputable def z0B:G->M Out :=
 (z9 (sRet (clE (Z7 (fAll true) (z7 (z0j [some 2,none] (Y7 (e2 fIx (e2 fIx .(i) .(c)) .(j))) (gN 1) (λ_=>pure true) (e2 (fInD false) .(j) .(i))) aNil)))) bNil)
noncomputable def z0A:List D->M D:=λds=>cln (runF 3 z0B ds)
noncomputable def z0g:G->M Out :=
 (z9 (z2s 4 [none] (Y7 (eVar 3)) (gN 0) (λ_=>pure true) .(i) (λ_=>pure (.bl true))) (z9 (sAsg (eNeg .(e)) (gN 5)) (z9 (z11 (λγ=>do let d <- e2 (fEqX true) (Z7 z5T (z7 (eVar 4) aNil)) (eVar 5) γ;asB d) (z9 (sAsg (Z7 z5T (z7 (eVar 4) aNil)) (gN 5)) (z9 (sFor (Y7 (eVar 2)) (gN 6) (z9 (sIf (cVal (eFn 3 z0A (z7 .(j) (z7 (eVar 6) (z7 (eVar 4) aNil))))) (z9 (sAsg (λ_=>pure (.bl true)) (gDx (eVar 4) (eVar 6))) bNil) bNil) bNil)) bNil)) 1000000) (z9 (sRet (clE (Z7 J7 (z7 (Z7 z2h (z7 (eVar 4) aNil)) aNil)))) bNil))))
noncomputable def x9:List D->M D:=λds=>cln (runF 7 z0g ds)
noncomputable def z20:G->M Out :=
 (z9 (z2k 1 [none] (Y7 (e2 fIx .(i) .(c))) (gN 0) (λ_=>pure true) (eLst aNil)) (z9 (sFor (z9G (e2 fIx .(i) .(c))) (gT 2 (z0r (gN 2) (z0r (gN 3) z3o))) (z9 (sFor (Y7 (eVar 3)) (gN 4) (z9 (z0p (eM1 j8 (e2 fIx .(j) (eVar 4)) (eVar 2))) bNil)) bNil)) (z9 (sRet .(j)) bNil)))
noncomputable def z1r:List D->M D:=runF 5 z20
noncomputable def z01:G->M Out :=
 (z9 (sAsg (eFn 1 z1r (z7 .(j) aNil)) (gN 4)) (z9 (z2s 5 [none] (Y7 (eVar 2)) (gN 0) (λ_=>pure true) .(i) (λ_=>pure (.bl true))) (z9 (z2s 6 [none] (Y7 (eVar 3)) (gN 0) (λ_=>pure true) .(i) (λ_=>pure (.bl true))) (z9 (sAsg (Z7 zl9 (z7 (eVar 3) aNil)) (gN 7)) (z9 (z11 (cVal (eVar 7)) (z9 (sAsg (eM0 fPop (eVar 7)) (gN 8)) (z9 (sFor (z0c (e2 fIx (eVar 4) (eVar 8))) (gN 9) (z9 (sIf (cAnd (λγ=>do let d <- e2 (fInD false) (eVar 9) (eVar 5) γ;asB d) (λγ=>do let d <- e2 (fInD true) (eVar 9) (eVar 6) γ;asB d)) (z9 (sAsg (λ_=>pure (.bl true)) (gDx (eVar 6) (eVar 9))) (z9 (z0p (eM1 j8 (eVar 7) (eVar 9))) bNil)) bNil) bNil)) bNil)) 1000000) (z9 (sRet (clE (Z7 J7 (z7 (Z7 z2h (z7 (eVar 6) aNil)) aNil)))) bNil))))))
noncomputable def Y0:List D->M D:=λds=>cln (runF 10 z01 ds)
noncomputable def z0X:G->M Out :=
 (z9 (sAsg (z1R [none] (Y7 .(j)) (gN 0) (λ_=>pure true) .(i) (λ_=>pure (.bl true))) (gN 2)) (z9 (sAsg (eNeg .(e)) (gN 3)) (z9 (z11 (λγ=>do let d <- e2 (fEqX true) (Z7 z5T (z7 (eVar 2) aNil)) (eVar 3) γ;asB d) (z9 (sAsg (Z7 z5T (z7 (eVar 2) aNil)) (gN 3)) (z9 (sAsg (z1R [some 0,some 2,none] (iDic (eVar 2)) (gN 2) (cVal (eFn 3 z0A (z7 .(i) (z7 (eVar 2) (z7 .(j) aNil))))) (eVar 2) (λ_=>pure (.bl true))) (gN 2)) bNil)) 1000000) (z9 (sRet (Z7 z9k (z7 (eVar 2) aNil))) bNil))))
noncomputable def z2v:List D->M D:=λds=>cln (runF 4 z0X ds)
noncomputable def z4l:G->M Out :=
 (z9 (sRet (clE (Z7 J7 (z7 (Z7 z0R (z7 (e2 z9z (Z7 z1X (z7 .(i) aNil)) (Z7 z1X (z7 .(j) aNil))) aNil)) aNil)))) bNil)
noncomputable def z2H:List D->M D:=λds=>cln (runF 2 z4l ds)
noncomputable def z63:G->M Out :=
 (z9 (sRet (eOr (e2 (fEq false) (eVar 2) (λ_=>pure (.str ""))) (e2 (fIn false) (eVar 2) (e2 fIx (e2 fIx .(i) .(e)) .(j))))) bNil)
noncomputable def z1v:List D->M D:=λds=>cln (runF 3 z63 ds)
noncomputable def z3v:G->M Out :=
 (z9 (sRet (clE (Z7 J7 (z7 (z0j [some 0,some 1,none] (z0b (Z7 fLen (z7 (e2 fIx .(i) .(e)) aNil))) (gN 2) (cVal (eFn 3 z1v (z7 .(i) (z7 (eVar 2) (z7 .(j) aNil))))) (eVar 2)) aNil)))) bNil)
noncomputable def z1s:List D->M D:=λds=>cln (runF 2 z3v ds)
noncomputable def z0x:G->M Out :=
 (z9 (sAsg (eVar 2) (gN 4)) (z9 (sAsg (eNeg .(e)) (gN 5)) (z9 (z11 (λγ=>do let d <- e2 (fEqX true) (Z7 fLen (z7 (eVar 4) aNil)) (eVar 5) γ;asB d) (z9 (sAsg (Z7 fLen (z7 (eVar 4) aNil)) (gN 5)) (z9 (sAsg (eFn 2 z2v (z7 .(j) (z7 (eVar 4) aNil))) (gN 4)) (z9 (sFor (Y7 (eVar 3)) (gT 2 (z0r (gN 6) (z0r (gN 7) z3o))) (z9 (sAsg (orE (eMt "Rounds" "until" 3 x9 .(i) (z7 .(j) (z7 (eVar 4) (z7 (eFn 2 z2H (z7 (eVar 4) (z7 (eFn 2 z1s (z7 .(j) (z7 (eVar 7) aNil))) aNil))) aNil)))) (eMt "Worklist" "until" 3 Y0 .(i) (z7 .(j) (z7 (eVar 4) (z7 (eFn 2 z2H (z7 (eVar 4) (z7 (eFn 2 z1s (z7 .(j) (z7 (eVar 7) aNil))) aNil))) aNil))))) (gN 8)) (z9 (sAsg (clE (Z7 J7 (z7 (z0j [some 8,some 1,some 6,none] (Y7 (eVar 4)) (gN 3) (cOr (λγ=>do let d <- e2 (fIn false) (eVar 3) .(i) γ;asB d) (cNot (cVal (eFn 3 z1v (z7 .(j) (z7 (eVar 3) (z7 (eVar 2) aNil))))))) (eVar 3)) aNil))) (gN 4)) bNil))) bNil))) 1000000) (z9 (sRet (orE (eMt "Rounds" "until" 3 x9 .(i) (z7 .(j) (z7 (eVar 2) (z7 (eVar 4) aNil)))) (eMt "Worklist" "until" 3 Y0 .(i) (z7 .(j) (z7 (eVar 2) (z7 (eVar 4) aNil)))))) bNil))))
noncomputable def w6:List D->M D:=λds=>cln (runF 9 z0x ds)
noncomputable def z06:G->M Out :=
 (z9 (sAsg (λ_=>newSet []) (gN 1)) (z9 (sAsg (eLst aNil) (gN 2)) (z9 (z2k 3 [none] (iDic .(i)) (gN 0) (λ_=>pure true) (eTup (z7 .(i) (z7 (λ_=>pure (.bl false)) aNil)))) (z9 (z11 (cVal (eVar 3)) (z9 (sAsg (eM0 fPop (eVar 3)) (gT 2 (z0r (gN 4) (z0r (gN 5) z3o)))) (z9 (sIf (cVal (eVar 5)) (z9 (z0p (eM1 j8 (eVar 2) (eVar 4))) bNil) (z9 (sIf (λγ=>do let d <- e2 (fInS true) (eVar 4) .(j) γ;asB d) (z9 (z0p (eMS z9r .(j) (eVar 4))) (z9 (z0p (eM1 j8 (eVar 3) (eTup (z7 (eVar 4) (z7 (λ_=>pure (.bl true)) aNil))))) (z9 (z0p (eM1 z3B (eVar 3) (z0j [none] (z0c (e2 z1N .(i) (eVar 4))) (gN 0) (λ_=>pure true) (eTup (z7 .(i) (z7 (λ_=>pure (.bl false)) aNil)))))) bNil))) bNil) bNil)) bNil)) 1000000) (z9 (sRet (eVar 2)) bNil)))))
noncomputable def z0w:List D->M D:=λds=>cln (runF 6 z06 ds)
noncomputable def z4b:G->M Out :=
 (z9 (z2s 1 [none] (iDic .(i)) (gN 0) (λ_=>pure true) .(i) (eLst aNil)) (z9 (sFor (iDic .(i)) (gN 2) (z9 (sFor (z0c (e2 z1N .(i) (eVar 2))) (gN 3) (z9 (z0p (eM1 j8 (e2 z1N .(j) (eVar 3)) (eVar 2))) bNil)) bNil)) (z9 (sRet .(j)) bNil)))
noncomputable def z3l:List D->M D:=λds=>cln (runF 4 z4b ds)
noncomputable def z4i:G->M Out :=
 (z9 (sRet (clE (Z7 J7 (z7 (Z7 z0R (z7 (Z7 z1X (z7 .(i) aNil)) aNil)) aNil)))) bNil)
noncomputable def z1h:List D->M D:=λds=>cln (runF 1 z4i ds)
noncomputable def z0P:G->M Out :=
 (z9 (sAsg (λ_=>pure (.bl true)) (gDx (eVar 2) .(j))) (z9 (sAsg (eLst aNil) (gN 3)) (z9 (sAsg (eLst (z7 .(j) aNil)) (gN 4)) (z9 (z11 (cVal (eVar 4)) (z9 (sAsg (eM0 fPop (eVar 4)) (gN 5)) (z9 (z0p (eM1 j8 (eVar 3) (eVar 5))) (z9 (sFor (z0c (e2 z1N .(i) (eVar 5))) (gN 6) (z9 (sIf (λγ=>do let d <- e2 (fInD true) (eVar 6) (eVar 2) γ;asB d) (z9 (sAsg (λ_=>pure (.bl true)) (gDx (eVar 2) (eVar 6))) (z9 (z0p (eM1 j8 (eVar 4) (eVar 6))) bNil)) bNil) bNil)) bNil))) 1000000) (z9 (sRet (eFn 1 z1h (z7 (eVar 3) aNil))) bNil)))))
noncomputable def z39:List D->M D:=λds=>cln (runF 7 z0P ds)
noncomputable def z3K:G->M Out :=
 (z9 (sAsg (λ_=>newK []) (gN 1)) (z9 (sAsg (eLst aNil) (gN 2)) (z9 (sFor (zq3 (eFn 1 z0w (z7 (eFn 1 z3l (z7 .(i) aNil)) aNil))) (gN 3) (z9 (sIf (λγ=>do let d <- e2 (fInD true) (eVar 3) .(j) γ;asB d) (z9 (z0p (eM1 j8 (eVar 2) (eFn 3 z39 (z7 .(i) (z7 (eVar 3) (z7 .(j) aNil)))))) bNil) bNil) bNil)) (z9 (sRet (eVar 2)) bNil))))
noncomputable def z7j:List D->M D:=λds=>cln (runF 4 z3K ds)
noncomputable def z0Q:G->M Out :=
 (z9 (sAsg (z1R [none] (Y7 .(j)) (gN 0) (λ_=>pure true) .(i) (λ_=>pure (.bl true))) (gN 2)) (z9 (sRet (z1R [some 0,some 2,none] (Y7 .(j)) (gN 2) (λ_=>pure true) (eVar 2) (z0j [some 1,none] (Y7 (e2 fIx (e2 fIx .(i) .(c)) (eVar 2))) (gN 1) (λγ=>do let d <- e2 (fInD false) .(j) .(i) γ;asB d) .(j)))) bNil))
noncomputable def z0T:List D->M D:=λds=>cln (runF 3 z0Q ds)
noncomputable def z0U:G->M Out :=
 (z9 (sRet (eFn 1 z7j (z7 (eFn 2 z0T (z7 .(i) (z7 .(j) aNil))) aNil))) bNil)
noncomputable def z0t:List D->M D:=λds=>cln (runF 2 z0U ds)
noncomputable def z2Q:G->M Out :=
 (z9 (sRet (eOr (e2 fGt (Z7 fLen (z7 .(j) aNil)) .(e)) (e2 (fIn false) (e2 fIx .(j) .(c)) (e2 fIx .(i) (e2 fIx .(j) .(c)))))) bNil)
noncomputable def z2N:List D->M D:=λds=>cln (runF 2 z2Q ds)
noncomputable def z2K:G->M Out :=
 (z9 (sRet (clE (Z7 (fAll true) (z7 (z0j [some 0,some 2,none] (Y7 .(j)) (gN 2) (λ_=>pure true) (eFn 3 z1v (z7 .(i) (z7 (eVar 2) (z7 .(j) aNil))))) aNil)))) bNil)
noncomputable def z1T:List D->M D:=λds=>cln (runF 3 z2K ds)
noncomputable def z0E:G->M Out :=
 (z9 (sFor (z9G (eVar 2)) (gT 2 (z0r (gN 3) (z0r (gT 2 (z0r (gN 4) (z0r (gN 5) z3o))) z3o))) (z9 (sIf (cAnd (cVal (eFn 3 z1T (z7 .(i) (z7 .(j) (z7 (eVar 4) aNil))))) (cNot (cVal (eFn 3 z1T (z7 .(i) (z7 .(j) (z7 (eVar 5) aNil))))))) (z9 (sRet (eVar 3)) bNil) bNil) bNil)) (z9 (sRet (eNeg .(e))) bNil))
noncomputable def z2e:List D->M D:=λds=>cln (runF 6 z0E ds)
noncomputable def z1j:G->M Out :=
 (z9 (sRet (clE (Z7 J7 (z7 (z0j [some 0,some 2,none] (Y7 .(j)) (gN 2) (cNot (cVal (eFn 3 z1v (z7 .(i) (z7 (eVar 2) (z7 .(j) aNil)))))) (eVar 2)) aNil)))) bNil)
noncomputable def z1i:List D->M D:=λds=>cln (runF 3 z1j ds)
noncomputable def z14:G->M Out :=
 (z9 (sAsg (eLst aNil) (gN 3)) (z9 (sAsg (eLst (z7 .(j) aNil)) (gN 4)) (z9 (z11 (cVal (eVar 4)) (z9 (sAsg (eM0 fPop (eVar 4)) (gN 5)) (z9 (sFor (z0c (eFn 2 z0t (z7 .(i) (z7 (eVar 5) aNil)))) (gN 6) (z9 (sIf (cVal (eFn 2 z2N (z7 (e2 fIx .(i) .(c)) (z7 (eVar 6) aNil)))) (z9 (sAsg (eFn 3 z2e (z7 .(i) (z7 (eVar 6) (z7 (eVar 2) aNil)))) (gN 7)) (z9 (sIf (λγ=>do let d <- e2 (fEq false) (eVar 7) (eNeg .(e)) γ;asB d) (z9 (z0p (eM1 j8 (eVar 3) (eVar 6))) bNil) (z9 (z0p (eM1 j8 (eVar 4) (eFn 3 z1i (z7 .(i) (z7 (eVar 6) (z7 (e2 fIx (e2 fIx (eVar 2) (eVar 7)) .(c)) aNil)))))) bNil)) bNil)) bNil) bNil)) bNil)) 1000000) (z9 (sRet (eVar 3)) bNil))))
noncomputable def z2C:List D->M D:=λds=>cln (runF 8 z14 ds)
noncomputable def z2p:G->M Out :=
 (z9 (sAsg (eFn 2 z0T (z7 .(i) (z7 .(j) aNil))) (gN 2)) (z9 (sAsg (z1R [some 2,none] (Y7 .(j)) (gN 1) (λ_=>pure true) .(j) (Z7 fLen (z7 (e2 z1N .(i) .(j)) aNil))) (gN 3)) (z9 (sAsg (eFn 1 z1r (z7 .(i) aNil)) (gN 4)) (z9 (z2k 5 [some 3,none] (Y7 .(j)) (gN 1) (λγ=>do let d <- e2 (fEq false) (e2 z1N .(i) .(j)) .(c) γ;asB d) .(j)) (z9 (z11 (cVal (eVar 5)) (z9 (sAsg (eM0 fPop (eVar 5)) (gN 6)) (z9 (sFor (z0c (e2 fIx (eVar 4) (eVar 6))) (gN 7) (z9 (sIf (λγ=>do let d <- e2 (fInD false) (eVar 7) (eVar 3) γ;asB d) (z9 (zo7 (λi j=>i - j) (eVar 3) (eVar 7) .(e)) (z9 (sIf (λγ=>do let d <- e2 (fEq false) (e2 z1N (eVar 3) (eVar 7)) .(c) γ;asB d) (z9 (z0p (eM1 j8 (eVar 5) (eVar 7))) bNil) bNil) bNil)) bNil) bNil)) bNil)) 1000000) (z9 (sRet (clE (Z7 J7 (z7 (z0j [some 3,none] (Y7 .(j)) (gN 1) (λγ=>do let d <- e2 fGt (e2 z1N .(i) .(j)) .(c) γ;asB d) .(j)) aNil)))) bNil))))))
noncomputable def z4L:List D->M D:=λds=>cln (runF 8 z2p ds)
noncomputable def z05:G->M Out :=
 (z9 (sAsg (eFn 3 z2C (z7 .(j) (z7 (eFn 2 z4L (z7 .(j) (z7 (eVar 2) aNil))) (z7 (eVar 3) aNil)))) (gN 4)) (z9 (sRet (orE (eMt "Rounds" "until" 3 x9 .(i) (z7 .(j) (z7 (eVar 2) (z7 (eFn 1 z1h (z7 (z4W [none,none] (z0c (eVar 4)) (gN 0) (Y7 .(i)) (gN 1) (λ_=>pure true) .(j)) aNil)) aNil)))) (eMt "Worklist" "until" 3 Y0 .(i) (z7 .(j) (z7 (eVar 2) (z7 (eFn 1 z1h (z7 (z4W [none,none] (z0c (eVar 4)) (gN 0) (Y7 .(i)) (gN 1) (λ_=>pure true) .(j)) aNil)) aNil)))))) bNil))
noncomputable def y0:List D->M D:=λds=>cln (runF 5 z05 ds)
noncomputable def z2b:G->M Out :=
 (z9 (z2k 1 [none] (z0c .(i)) (gN 0) (λγ=>do let d <- e2 fGe .(i) (e2 fPow (λ_=>pure (.int 10)) (λ_=>pure (.int 18))) γ;asB d) .(i)) (z9 (sRet (eLst (z7 .(j) (z7 (z0j [none] (z0c .(i)) (gN 0) (λγ=>do let d <- e2 fLt .(i) (e2 fPow (λ_=>pure (.int 10)) (λ_=>pure (.int 18))) γ;asB d) .(i)) (z7 (λ_=>pure (.int 5)) (z7 .(c) aNil)))))) bNil))
noncomputable def z37:List D->M D:=runF 2 z2b
noncomputable def z1x:G->M Out :=
 (z9 (sIf (λγ=>do let d <- e2 fGt (Z7 fLen (z7 (e2 fIx .(i) .(c)) aNil)) .(c) γ;asB d) (z9 (sAsg (e2 fIx (e2 fIx .(i) .(c)) .(c)) (gN 2)) (z9 (sAsg (e2 fDiv (eVar 2) .(j)) (gIx (e2 fIx .(i) .(c)) .(c))) (z9 (sIf (λγ=>do let d <- e2 (fEq false) (e2 fDiv (eVar 2) .(j)) .(c) γ;asB d) (z9 (z0p (eM1 z5e (e2 fIx .(i) .(c)) .(c))) bNil) bNil) (z9 (sRet (e2 fMod (eVar 2) .(j))) bNil)))) bNil) (z9 (sAsg (e2 fAdd (e2 fIx .(i) (λ_=>pure (.int 3))) .(e)) (gIx .(i) (λ_=>pure (.int 3)))) (z9 (sAsg .(c) (gN 2)) (z9 (sIf (λγ=>do let d <- e2 fGt (Z7 fLen (z7 (e2 fIx .(i) .(e)) aNil)) .(c) γ;asB d) (z9 (sAsg (e2 fIx (e2 fIx .(i) .(e)) (e2 fMod (e2 fIx .(i) (λ_=>pure (.int 3))) (Z7 fLen (z7 (e2 fIx .(i) .(e)) aNil)))) (gN 2)) bNil) bNil) (z9 (sAsg (e2 z67 (e2 fMod (eVar 2) (λ_=>pure (.int 2147483629))) (e2 fAdd (e2 z67 (e2 fIx .(i) (λ_=>pure (.int 3))) (e2 fIx .(i) (λ_=>pure (.int 3)))) .(e))) (gN 2)) (z9 (sAsg (e2 fMod (e2 fAdd (e2 fAdd (e2 z67 (e2 fIx .(i) (λ_=>pure (.int 2))) (λ_=>pure (.int 48271))) (eVar 2)) (e2 z67 (λ_=>pure (.int 97)) (e2 fIx .(i) (λ_=>pure (.int 3))))) (λ_=>pure (.int 2147483647))) (gIx .(i) (λ_=>pure (.int 2)))) (z9 (sRet (e2 fMod (e2 fDiv (e2 fMod (e2 fPow (e2 fIx .(i) (λ_=>pure (.int 2))) (λ_=>pure (.int 5))) (λ_=>pure (.int 2147483629))) (λ_=>pure (.int 64))) .(j))) bNil)))))))
noncomputable def Z6:List D->M D:=runF 3 z1x
noncomputable def z1w:G->M Out :=
 (z9 (sAsg (λ_=>pure (.str "abcdefghijklmnopqrstuvwxyz")) (gN 3)) (z9 (sAsg .(j) (gN 4)) (z9 (sFor (z0b (eFn 2 Z6 (z7 .(i) (z7 (λ_=>pure (.int 4)) aNil)))) (gN 5) (z9 (sAsg (e2 fAdd (eVar 4) (e2 fIx (eVar 3) (eFn 2 Z6 (z7 .(i) (z7 (λ_=>pure (.int 26)) aNil))))) (gN 4)) bNil)) (z9 (sAsg (eFn 2 Z6 (z7 .(i) (z7 (λ_=>pure (.int 26)) aNil))) (gN 6)) (z9 (sAsg (eLst (z7 (λ_=>pure (.str "yes")) (z7 (λ_=>pure (.str "no")) (z7 (λ_=>pure (.str "not")) (z7 (λ_=>pure (.str "and")) (z7 (λ_=>pure (.str "or")) (z7 (λ_=>pure (.str "step")) (z7 (λ_=>pure (.str "some")) (z7 (λ_=>pure (.str "all")) (z7 (λ_=>pure (.str "next")) (z7 (λ_=>pure (.str "once")) (z7 (λ_=>pure (.str "ever")) (z7 (λ_=>pure (.str "until")) (z7 (λ_=>pure (.str "unless")) aNil)))))))))))))) (gN 7)) (z9 (sFor (z0b (λ_=>pure (.int 26))) (gN 5) (z9 (sAsg (e2 fAdd (eVar 4) (e2 fIx (eVar 3) (e2 fMod (e2 fAdd (eVar 6) (eVar 5)) (λ_=>pure (.int 26))))) (gN 8)) (z9 (sIf (cAnd (λγ=>do let d <- e2 (fIn true) (eVar 8) (eVar 7) γ;asB d) (λγ=>do let d <- e2 (fIn true) (eVar 8) (eVar 2) γ;asB d)) (z9 (sRet (eVar 8)) bNil) bNil) bNil))) (z9 (sRet (e2 fAdd (eVar 4) (λ_=>pure (.str "x")))) bNil)))))))
noncomputable def z2Y:List D->M D:=λds=>cln (runF 9 z1w ds)
noncomputable def z1G:G->M Out :=
 (z9 (sAsg (λ_=>pure (.str "abcdefghijklmnopqrstuvwxyz")) (gN 2)) (z9 (sAsg (λ_=>pure (.str "")) (gN 3)) (z9 (sFor (z0b (clE (e2 fIx (eLst (z7 .(c) (z7 .(c) (z7 .(e) (z7 (λ_=>pure (.int 4)) aNil))))) (eFn 2 Z6 (z7 .(i) (z7 (λ_=>pure (.int 4)) aNil)))))) (gN 4) (z9 (sAsg (e2 fAdd (eVar 3) (e2 fIx (eVar 2) (eFn 2 Z6 (z7 .(i) (z7 (λ_=>pure (.int 26)) aNil))))) (gN 3)) bNil)) (z9 (sAsg (eLst aNil) (gN 5)) (z9 (sFor (z0b .(j)) (gN 4) (z9 (z0p (eM1 j8 (eVar 5) (eFn 3 z2Y (z7 .(i) (z7 (eVar 3) (z7 (eVar 5) aNil)))))) bNil)) (z9 (sRet (eVar 5)) bNil))))))
noncomputable def z2o:List D->M D:=λds=>cln (runF 6 z1G ds)
noncomputable def z0S:G->M Out :=
 (z9 (sAsg (e2 fAdd .(e) (eFn 2 Z6 (z7 .(i) (z7 (eVar 2) aNil)))) (gN 3)) (z9 (sAsg (e2 fAdd .(e) (eFn 2 Z6 (z7 .(i) (z7 (λ_=>pure (.int 4)) aNil)))) (gN 4)) (z9 (sAsg (eLst aNil) (gN 5)) (z9 (sAsg (eLst aNil) (gN 6)) (z9 (sFor (z0b (eVar 3)) (gN 7) (z9 (z0p (eM1 j8 (eVar 5) (clE (Z7 J7 (z7 (z0j [some 0,some 4,none] (z0b (eVar 3)) (gN 2) (λγ=>do let d <- e2 fLt (eFn 2 Z6 (z7 .(i) (z7 (λ_=>pure (.int 6)) aNil))) .(j) γ;asB d) (eVar 2)) aNil))))) (z9 (z0p (eM1 j8 (eVar 6) (clE (Z7 J7 (z7 (Z7 z38 (z7 (z0j [some 0,none] (z0c .(j)) (gN 1) (λγ=>do let d <- e2 (fEq false) (eFn 2 Z6 (z7 .(i) (z7 (λ_=>pure (.int 2)) aNil))) .(e) γ;asB d) .(j)) aNil)) aNil))))) bNil))) (z9 (sRet (eTup (z7 (Z7 J7 (z7 (eVar 5) aNil)) (z7 (Z7 J7 (z7 (eVar 6) aNil)) aNil)))) bNil))))))
noncomputable def z1Q:List D->M D:=λds=>cln (runF 8 z0S ds)
noncomputable def z1d:G->M Out :=
 (z9 (sAsg (e2 fAdd (eLst (z7 (λ_=>pure (.str "")) (z7 (λ_=>pure (.str "")) (z7 (λ_=>pure (.str "unborne")) aNil)))) .(j)) (gN 3)) (z9 (sAsg (eLst aNil) (gN 4)) (z9 (sFor (z0b (eFn 2 Z6 (z7 .(i) (z7 (e2 fAdd (eVar 2) .(e)) aNil)))) (gN 5) (z9 (sAsg (e2 fIx (eVar 3) (eFn 2 Z6 (z7 .(i) (z7 (Z7 fLen (z7 (eVar 3) aNil)) aNil)))) (gN 6)) (z9 (z0p (eM1 j8 (eVar 4) (eTup (z7 (eVar 6) (z7 (e2 fIx (eVar 3) (e2 fAdd (λ_=>pure (.int 2)) (eFn 2 Z6 (z7 .(i) (z7 (e2 fSub (Z7 fLen (z7 (eVar 3) aNil)) (λ_=>pure (.int 2))) aNil))))) aNil))))) bNil))) (z9 (sRet (Z7 J7 (z7 (eVar 4) aNil))) bNil))))
noncomputable def z1Z:List D->M D:=λds=>cln (runF 7 z1d ds)
noncomputable def z29:G->M Out :=
 (z9 (sAsg (eFn 2 Z6 (z7 .(i) (z7 (λ_=>pure (.int 4)) aNil))) (gN 2)) (z9 (sRet (clE (Z7 J7 (z7 (z0j [some 0,some 2,none] (z0b .(j)) (gN 2) (λγ=>do let d <- e2 fLe (eFn 2 Z6 (z7 .(i) (z7 (λ_=>pure (.int 4)) aNil))) .(j) γ;asB d) (eVar 2)) aNil)))) bNil))
noncomputable def z26:List D->M D:=λds=>cln (runF 3 z29 ds)
noncomputable def z2J:G->M Out :=
 (z9 (sRet (clE (Z7 J7 (z7 (z0j [some 0,none] (z0b (λ_=>pure (.int 6))) (gN 1) (λγ=>do let d <- e2 (fEq false) (e2 fMod (e2 fDiv .(i) (clE (e2 fIx (eLst (z7 .(e) .(k))) .(j)))) (λ_=>pure (.int 2))) .(e) γ;asB d) .(j)) aNil)))) bNil)
noncomputable def z2G:List D->M D:=λds=>cln (runF 1 z2J ds)
noncomputable def z2d:G->M Out :=
 (z9 (sAsg .(c) (gN 1)) (z9 (sFor (orE (Y7 .(i)) (z0c .(i))) (gN 2) (z9 (sAsg (e2 fBor .(j) (clE (e2 fIx (eLst (z7 .(e) .(k))) (eVar 2)))) (gN 1)) bNil)) (z9 (sRet .(j)) bNil)))
noncomputable def z02:List D->M D:=λds=>cln (runF 3 z2d ds)
noncomputable def z2c:G->M Out :=
 (z9 (sRet (eFn 1 z02 (z7 (z0j [some 0,some 1,none] (z0b (Z7 fLen (z7 .(i) aNil))) (gN 2) (λγ=>do let d <- e2 fGt (e2 fAnd (e2 fIx .(i) (eVar 2)) .(j)) .(c) γ;asB d) (eVar 2)) aNil))) bNil)
noncomputable def z2a:List D->M D:=λds=>cln (runF 2 z2c ds)
noncomputable def z2f:G->M Out :=
 (z9 (sAsg (eVar 2) (gN 3)) (z9 (sFor (z0b (Z7 fLen (z7 .(i) aNil))) (gN 4) (z9 (sAsg (e2 fBor (eVar 3) (e2 fAnd .(j) (eFn 2 z2a (z7 .(i) (z7 (eVar 3) aNil))))) (gN 3)) bNil)) (z9 (sRet (eVar 3)) bNil)))
noncomputable def z27:List D->M D:=λds=>cln (runF 5 z2f ds)
noncomputable def z28:G->M Out :=
 (z9 (sAsg .(c) (gN 3)) (z9 (sFor (z0c .(j)) (gN 4) (z9 (sIf (λγ=>do let d <- e2 (fEqX false) (e2 fAnd (eVar 4) (eVar 2)) (eVar 4) γ;asB d) (z9 (sAsg (e2 fBor (eVar 3) (eVar 4)) (gN 3)) bNil) bNil) bNil)) (z9 (sRet (eFn 3 z27 (z7 .(i) (z7 (eVar 2) (z7 (eVar 3) aNil))))) bNil)))
noncomputable def z32:List D->M D:=λds=>cln (runF 5 z28 ds)
noncomputable def z1B:G->M Out :=
 (z9 (sRet (eFn 1 z02 (z7 (z0j [some 1,some 0,none] (z0b (Z7 fLen (z7 (e2 fIx .(i) .(e)) aNil))) (gN 2) (cOr (λγ=>do let d <- e2 (fEq false) .(i) (λ_=>pure (.str "")) γ;asB d) (λγ=>do let d <- e2 (fIn false) .(i) (e2 fIx (e2 fIx .(j) .(e)) (eVar 2)) γ;asB d)) (eVar 2)) aNil))) bNil)
noncomputable def z1H:List D->M D:=λds=>cln (runF 2 z1B ds)
noncomputable def z0Z:G->M Out :=
 (z9 (sFor (Y7 (eFn 1 z2G (z7 .(j) aNil))) (gN 3) (z9 (sIf (λγ=>do let d <- e2 (fEqX true) (eFn 3 z27 (z7 .(i) (z7 .(j) (z7 (e2 fAnd .(j) (eFn 2 z2a (z7 .(i) (z7 (eFn 1 z02 (z7 (eLst (z7 (eVar 3) aNil)) aNil)) aNil)))) aNil)))) .(j) γ;asB d) (z9 (sRet (λ_=>pure (.bl false))) bNil) bNil) bNil)) (z9 (sFor (z0c (eVar 2)) (gT 2 (z0r (gN 4) (z0r (gN 5) z3o))) (z9 (sIf (cAnd (λγ=>do let d <- e2 fGt (e2 fAnd .(j) (eVar 4)) .(c) γ;asB d) (λγ=>do let d <- e2 (fEq false) (e2 fAnd .(j) (eVar 5)) .(c) γ;asB d)) (z9 (sRet (λ_=>pure (.bl false))) bNil) bNil) bNil)) (z9 (sRet (λ_=>pure (.bl true))) bNil)))
noncomputable def z1C:List D->M D:=λds=>cln (runF 6 z0Z ds)
noncomputable def z1g:G->M Out :=
 (z9 (sAsg (clE (e2 fIx (eLst (z7 (λ_=>pure (.int 2)) (z7 (λ_=>pure (.int 4)) (z7 (λ_=>pure (.int 8)) (z7 (λ_=>pure (.int 16)) (z7 (λ_=>pure (.int 32)) (z7 (λ_=>pure (.int 64)) aNil))))))) (e2 fSub (Z7 fLen (z7 .(i) aNil)) .(e)))) (gN 2)) (z9 (sRet (z0j [some 0,some 1,none] (z4H .(e) (eVar 2)) (gN 2) (cVal (eFn 3 z1C (z7 .(i) (z7 (eVar 2) (z7 .(j) aNil))))) (eVar 2))) bNil))
noncomputable def z21:List D->M D:=λds=>cln (runF 3 z1g ds)
noncomputable def z2L:G->M Out :=
 (z9 (z2k 3 [none] (Y7 (e2 fIx .(i) .(c))) (gN 0) (λ_=>pure true) (eFn 1 z02 (z7 .(i) aNil))) (z9 (z2k 4 [some 0,none,none] (Y7 (eVar 2)) (gT 2 (z0r (gN 1) (z0r (gN 2) z3o))) (λ_=>pure true) (eTup (z7 (eFn 2 z1H (z7 .(i) (z7 .(j) aNil))) (z7 (eFn 2 z1H (z7 .(i) (z7 (eVar 2) aNil))) aNil)))) (z9 (sRet (eFn 1 z2G (z7 (eFn 3 z32 (z7 (eVar 3) (z7 (eFn 2 z21 (z7 (eVar 3) (z7 (eVar 4) aNil))) (z7 (eFn 1 z02 (z7 .(j) aNil)) aNil)))) aNil))) bNil)))
noncomputable def z1W:List D->M D:=λds=>cln (runF 5 z2L ds)
noncomputable def z12:G->M Out :=
 (z9 (sRet (eAnd (eIsi "tuple" .(i)) (e3 fLe fLe .(j) (Z7 fLen (z7 .(i) aNil)) (eVar 2)))) bNil)
noncomputable def z1A:List D->M D:=λds=>cln (runF 3 z12 ds)
noncomputable def z0H:G->M Out :=
 (z9 (sRet (eAnd (eIsi "int" .(i)) (eAnd (eNot (eIsi "bool" .(i))) (e3 fLe fLt .(j) .(i) (eVar 2))))) bNil)
noncomputable def z25:List D->M D:=λds=>cln (runF 3 z0H ds)
noncomputable def z0J:G->M Out :=
 (z9 (sIf (cNot (cVal (eFn 3 z1A (z7 .(i) (z7 .(c) (z7 .(j) aNil)))))) (z9 (sRet (λ_=>pure (.bl false))) bNil) bNil) (z9 (sFor (z0b (Z7 fLen (z7 .(i) aNil))) (gN 2) (z9 (sIf (cOr (cNot (cVal (eFn 3 z25 (z7 (e2 fIx .(i) (eVar 2)) (z7 .(c) (z7 .(j) aNil)))))) (cAnd (λγ=>do let d <- e2 fGt (eVar 2) .(c) γ;asB d) (λγ=>do let d <- e2 fGe (e2 fIx .(i) (e2 fSub (eVar 2) .(e))) (e2 fIx .(i) (eVar 2)) γ;asB d))) (z9 (sRet (λ_=>pure (.bl false))) bNil) bNil) bNil)) (z9 (sRet (λ_=>pure (.bl true))) bNil)))
noncomputable def z0I:List D->M D:=λds=>cln (runF 3 z0J ds)
noncomputable def z1E:G->M Out :=
 (z9 (sRet (eAnd (eFn 2 z0I (z7 .(i) (z7 (eVar 2) aNil))) (e2 (fEqX false) .(i) .(j)))) bNil)
noncomputable def z0d:List D->M D:=λds=>cln (runF 3 z1E ds)
noncomputable def zr7:G->M Out :=
 (z9 (sAsg (eFn 1 z37 (z7 .(i) aNil)) (gN 1)) (z9 (sAsg (eFn 2 z2o (z7 .(j) (z7 (e2 fAdd .(e) (eFn 2 Z6 (z7 .(j) (z7 (λ_=>pure (.int 3)) aNil)))) aNil))) (gN 2)) (z9 (sAsg (eFn 3 z1Q (z7 .(j) (z7 (eVar 2) (z7 (λ_=>pure (.int 5)) aNil)))) (gN 3)) (z9 (sAsg (eFn 3 z1Z (z7 .(j) (z7 (eVar 2) (z7 (λ_=>pure (.int 3)) aNil)))) (gN 4)) (z9 (sAsg (Z7 fLen (z7 (e2 fIx (eVar 3) .(c)) aNil)) (gN 5)) (z9 (sAsg (eFn 2 z26 (z7 .(j) (z7 (eVar 5) aNil))) (gN 6)) (z9 (sAsg (eFn 2 z26 (z7 .(j) (z7 (eVar 5) aNil))) (gN 7)) (z9 (sAsg (eFn 3 z1W (z7 (eVar 3) (z7 (eVar 6) (z7 (eVar 4) aNil)))) (gN 8)) (z9 (sFor (z0c (eLst (z7 (z5M "Rounds") (z7 (z5M "Worklist") aNil)))) (gN 9) (z9 (sIf (cNot (cVal (eFn 3 z0d (z7 (orE (eMtP "Rounds" "ever" 2 1 [] [] w6 (eVar 9) (z7 (eVar 3) (z7 (eVar 6) aNil)) (z7 (eVar 4) aNil)) (eMtP "Worklist" "ever" 2 1 [] [] y0 (eVar 9) (z7 (eVar 3) (z7 (eVar 6) aNil)) (z7 (eVar 4) aNil))) (z7 (eVar 8) (z7 (eVar 5) aNil)))))) (z9 (sRet (λ_=>pure (.bl false))) bNil) bNil) (z9 (sIf (cNot (cVal (eFn 3 z0d (z7 (orE (eMtP "Rounds" "ever" 2 1 [] [] w6 (eVar 9) (z7 (eVar 3) (z7 (eVar 7) aNil)) (z7 (eVar 4) aNil)) (eMtP "Worklist" "ever" 2 1 [] [] y0 (eVar 9) (z7 (eVar 3) (z7 (eVar 7) aNil)) (z7 (eVar 4) aNil))) (z7 (eFn 3 z1W (z7 (eVar 3) (z7 (eVar 7) (z7 (eVar 4) aNil)))) (z7 (eVar 5) aNil)))))) (z9 (sRet (λ_=>pure (.bl false))) bNil) bNil) (z9 (sIf (cNot (cVal (eFn 3 z0d (z7 (orE (eMtP "Rounds" "ever" 2 0 [] [c_FREE] w6 (eVar 9) (z7 (eVar 3) (z7 (eVar 6) aNil)) aNil) (eMtP "Worklist" "ever" 2 0 [] [c_FREE] y0 (eVar 9) (z7 (eVar 3) (z7 (eVar 6) aNil)) aNil)) (z7 (eFn 3 z1W (z7 (eVar 3) (z7 (eVar 6) (z7 (eTup aNil) aNil)))) (z7 (eVar 5) aNil)))))) (z9 (sRet (λ_=>pure (.bl false))) bNil) bNil) (z9 (sIf (cNot (cVal (eFn 3 z0d (z7 (orE (eMtP "Rounds" "ever" 2 1 [] [] w6 (eVar 9) (z7 (eVar 3) (z7 (eVar 6) aNil)) (z7 (eVar 4) aNil)) (eMtP "Worklist" "ever" 2 1 [] [] y0 (eVar 9) (z7 (eVar 3) (z7 (eVar 6) aNil)) (z7 (eVar 4) aNil))) (z7 (eVar 8) (z7 (eVar 5) aNil)))))) (z9 (sRet (λ_=>pure (.bl false))) bNil) bNil) bNil))))) (z9 (sRet (λ_=>pure (.bl true))) bNil))))))))))
noncomputable def m_law:List D->M D:=runF 10 zr7
section
structure SS (K:K5) (mg:Str->Option Value) where
 Uzz:∀n,Mx K mg n
 Uaa:DefAt K "leads_into" (top 29)
 Uab:mg "any" = none
 Uac:Addr
 Uad:OwC K "Rounds" Uac
 Uae:DefM K Uac "until" "Rounds.until" (inClass (top 27) 0)
 Uaf:mg "len" = none
 Uag:mg "sorted" = none
 Uah:mg "tuple" = none
 Uai:DefAt K "back_rows" (top 18)
 Uaj:mg "enumerate" = none
 Uak:Addr
 Ual:OwC K "Worklist" Uak
 Uam:DefM K Uak "until" "Worklist.until" (inClass (top 28) 0)
 Uan:mg "list" = none
 Uao:DefAt K "leading_on" (top 30)
 Uap:DefAt K "common" (top 7)
 Uaq:mg "set" = none
 Uar:DefAt K "bears" (top 15)
 Uas:DefAt K "bearers" (top 17)
 Uat:mg "range" = none
 Uau:Addr
 Uav:DefMK K Uac "ever" "Rounds.ever" (inClass (top 27) 1) Uau
 Uaw:V
 Uax:Value
 Uay:KD K Uau "wishes" c_FREE Uaw Uax
 Uaz:DefAt K "ending_order" (top 11)
 Uba:DefAt K "turned" (top 10)
 Ubb:DefAt K "set_of" (top 5)
 Ubc:DefAt K "take_from" (top 12)
 Ubd:DefAt K "knots" (top 9)
 Ube:mg "reversed" = none
 Ubf:DefAt K "steps_inside" (top 21)
 Ubg:DefAt K "strong_parts" (top 20)
 Ubh:DefAt K "is_round" (top 13)
 Ubi:DefAt K "is_borne" (top 16)
 Ubj:DefAt K "failed_wish" (top 22)
 Ubk:DefAt K "not_bearing" (top 23)
 Ubl:DefAt K "fair_parts" (top 24)
 Ubm:DefAt K "lasting" (top 31)
 Ubn:Addr
 Ubo:DefMK K Uak "ever" "Worklist.ever" (inClass (top 28) 1) Ubn
 Ubp:V
 Ubq:Value
 Ubr:KD K Ubn "wishes" c_FREE Ubp Ubq
 Ubs:DefAt K "_law_pool" (top 33)
 Ubt:DefAt K "_law_draw" (top 34)
 Ubu:DefAt K "_law_name" (top 35)
 Ubv:DefAt K "_law_names" (top 36)
 Ubw:DefAt K "_law_machine" (top 37)
 Ubx:DefAt K "_law_wishes" (top 38)
 Uby:DefAt K "_law_some" (top 42)
 Ubz:DefAt K "_law_set" (top 44)
 Uca:DefAt K "_law_mask" (top 43)
 Ucb:DefAt K "_law_lead" (top 45)
 Ucc:DefAt K "_law_near" (top 46)
 Ucd:DefAt K "_law_ever" (top 49)
 Uce:DefAt K "_law_bears" (top 50)
 Ucf:DefAt K "_law_round" (top 47)
 Ucg:DefAt K "_law_rounds" (top 48)
 Uch:DefAt K "_law_due" (top 51)
 Uci:DefAt K "_law_tuple" (top 40)
 Ucj:mg "isinstance" = none
 Uck:DefAt K "_law_number" (top 39)
 Ucl:mg "bool" = none
 Ucm:mg "int" = none
 Ucn:DefAt K "_law_good_set" (top 41)
 Uco:DefAt K "_law_alike" (top 52)
 Ucp:InO K mg "Rounds"
 Ucq:InO K mg "Worklist"
variable (ZS:SS K mg)
include ZS
theorem z3d:Fn P w K mg base 1 "leads_into" 3 z0A :=
 dfC ["machine","standing","told"] z0B ZS.Uaa (ZS.Uzz _) .(3) rfl .(5) λhcd hr nd =>
  (z8 (k7 (z0M (zx3 rfl rfl ZS.Uab (z6 (z0o (N':=["told","other"]) (cap:=[some 2,none]) rfl .(6) (z09 (J4 (J4 (z0 0) Z3) (z0 1))) (λ_ _ _ _=>(Z9 1 (show (["told","other"]:List Str).Nodup by decide +kernel))) (λ_ _ _ _=>z08) (λ_ _ _ _=>(se_c (z88 (z1U hr)) (z0 1) (z0 0)))) Z0)))) Z2)
theorem z18:Mt P w K mg base 2 "Rounds" "until" 3 x9 :=
 dfM ["self","machine","within","goal","told","many","standing"] z0g ZS.Uad ZS.Uae .(3) rfl (λ_ _ _ _ _ _ us hl=>(by obtain⟨_,_,_,_,rfl⟩:=ar4 hl;rfl)) λhcd hr nd =>
  (z8 (z5I 4 (N':=["standing"]) (cap:=[none]) rfl .(6) (z09 (z0 3)) (λ_ _ _ _=>(Z9 0 (show (["standing"]:List Str).Nodup by decide +kernel))) (λ_ _ _ _=>z08) (λ_ _ _ _=>(z0 0)) (λ_ _ _ _=>z1e) nd) (z8 (j6 5 nd (z73 Z3)) (z8 (z2E 1000000 K0n (sc_c (z8R (hu30 hr)) (z5D rfl ZS.Uaf (z6 (z0 4) Z0)) (z0 5)) (z8 (j6 5 nd (z5D rfl ZS.Uaf (z6 (z0 4) Z0))) (z8 (z1b K0n rfl (z09 (z0 2)) (j9 6 nd) (z8 (s_if (z0s (Z4 (z3d ZS) .(0) rfl (z6 (z0 1) (z6 (z0 6) (z6 (z0 4) Z0))))) (z8 (z74 z1e (zl1 (z1U hr) (z0 4) (z0 6))) Z2) Z2) Z2)) Z2))) (z8 (k7 (z0M (z03 rfl ZS.Uah (z6 (z5l rfl rfl ZS.Uag (z6 (z0 4) Z0)) Z0)))) Z2))))
theorem z3R:Fn P w K mg base 1 "back_rows" 1 z1r :=
 dfN ["machine","rows","standing","row","other"] z20 ZS.Uai (ZS.Uzz _) .(3) rfl .(l) λhcd hr nd =>
  (z8 (z5m 1 (N':=["standing"]) (cap:=[none]) rfl .(6) (z09 (J4 (z0 0) Z3)) (λ_ _ _ _=>(Z9 0 (show (["standing"]:List Str).Nodup by decide +kernel))) (λ_ _ _ _=>z08) (λ_ _ _ _=>(z0q Z0)) nd) (z8 (z1b K0n rfl (zh3 rfl rfl ZS.Uaj (J4 (z0 0) Z3)) (z5a rfl (z0y (j9 2 nd) (z0y (j9 3 nd) z3z))) (z8 (z1b K0n rfl (z09 (z0 3)) (j9 4 nd) (z8 (z0N (Y3 (J4 (z0 1) (z0 4)) (z0 2))) Z2)) Z2)) (z8 (k7 (z0 1)) Z2)))
theorem z0F:Mt P w K mg base 2 "Worklist" "until" 3 Y0 :=
 dfM ["self","machine","within","goal","back","inside","told","waiting","standing","other"] z01 ZS.Ual ZS.Uam .(3) rfl (λ_ _ _ _ _ _ us hl=>(by obtain⟨_,_,_,_,rfl⟩:=ar4 hl;rfl)) λhcd hr nd =>
  (z8 (j6 4 nd (Z4 (z3R ZS) .(0) rfl (z6 (z0 1) Z0))) (z8 (z5I 5 (N':=["standing"]) (cap:=[none]) rfl .(6) (z09 (z0 2)) (λ_ _ _ _=>(Z9 0 (show (["standing"]:List Str).Nodup by decide +kernel))) (λ_ _ _ _=>z08) (λ_ _ _ _=>(z0 0)) (λ_ _ _ _=>z1e) nd) (z8 (z5I 6 (N':=["standing"]) (cap:=[none]) rfl .(6) (z09 (z0 3)) (λ_ _ _ _=>(Z9 0 (show (["standing"]:List Str).Nodup by decide +kernel))) (λ_ _ _ _=>z08) (λ_ _ _ _=>(z0 0)) (λ_ _ _ _=>z1e) nd) (z8 (j6 7 nd (zy7 rfl ZS.Uan (z6 (z0 3) Z0))) (z8 (z2E 1000000 K0n (z0s (z0 7)) (z8 (j6 8 nd (z6j (z0 7))) (z8 (z1b K0n rfl (z0z (J4 (z0 4) (z0 8))) (j9 9 nd) (z8 (s_if (SW.sc (z6d (sc_c (z88 (z1U hr)) (z0 9) (z0 5)) (z4q (sc_c (z7k (z1U hr)) (z0 9) (z0 6))))) (z8 (z74 z1e (zl1 (z1U hr) (z0 6) (z0 9))) (z8 (z0N (Y3 (z0 7) (z0 9))) Z2)) Z2) Z2)) Z2))) (z8 (k7 (z0M (z03 rfl ZS.Uah (z6 (z5l rfl rfl ZS.Uag (z6 (z0 6) Z0)) Z0)))) Z2))))))
theorem z5N:Fn P w K mg base 2 "leading_on" 2 z2v :=
 dfC ["machine","within","kept","many"] z0X ZS.Uao (ZS.Uzz _) .(3) rfl .(b) λhcd hr nd =>
  (z8 (j6 2 nd (z3u (N':=["standing"]) (cap:=[none]) rfl .(6) (z09 (z0 1)) (λ_ _ _ _=>(Z9 0 (show (["standing"]:List Str).Nodup by decide +kernel))) (λ_ _ _ _=>z08) (λ_ _ _ _=>(z0 0)) (λ_ _ _ _=>z1e))) (z8 (j6 3 nd (z73 Z3)) (z8 (z2E 1000000 K0n (sc_c (z8R (hu30 hr)) (z5D rfl ZS.Uaf (z6 (z0 2) Z0)) (z0 3)) (z8 (j6 3 nd (z5D rfl ZS.Uaf (z6 (z0 2) Z0))) (z8 (j6 2 nd (z3u (N':=["machine","kept","standing"]) (cap:=[some 0,some 2,none]) rfl .(6) (z8H (z0 2)) (λ_ _ _ _=>(Z9 2 (show (["machine","kept","standing"]:List Str).Nodup by decide +kernel))) (λ_ _ _ _=>(z0n (z0s (Z4 (z3d ZS) .(0) rfl (z6 (z0 0) (z6 (z0 2) (z6 (z0 1) Z0))))))) (λ_ _ _ _=>(z0 2)) (λ_ _ _ _=>z1e))) Z2))) (z8 (k7 (zD3 rfl rfl ZS.Uah (z6 (z0 2) Z0))) Z2))))
theorem z6Q:Fn P w K mg base 1 "common" 2 z2H :=
 dfC ["one","other"] z4l ZS.Uap (ZS.Uzz _) .(3) rfl .(b) λhcd hr nd =>
  (z8 (k7 (z0M (z03 rfl ZS.Uah (z6 (z5k rfl rfl ZS.Uag (z6 (zy0 (z5t rfl rfl ZS.Uaq (z6 (z0 0) Z0)) (z5t rfl rfl ZS.Uaq (z6 (z0 1) Z0))) Z0)) Z0)))) Z2)
theorem z4k:Fn P w K mg base 1 "bears" 3 z1v :=
 dfC ["machine","standing","name"] z63 ZS.Uar (ZS.Uzz _) .(3) rfl .(5) λhcd hr nd =>
  (z8 (k7 (zv9 (se_c z5S (z0 2) z0l) (z6t (se_c zr4 (z0 2) (J4 (J4 (z0 0) Z3) (z0 1)))))) Z2)
theorem z5f:Fn P w K mg base 2 "bearers" 2 z1s :=
 dfC ["machine","name"] z3v ZS.Uas (ZS.Uzz _) .(3) rfl .(b) λhcd hr nd =>
  (z8 (k7 (z0M (z03 rfl ZS.Uah (z6 (z0o (N':=["machine","name","standing"]) (cap:=[some 0,some 1,none]) rfl .(6) (z0a rfl ZS.Uat (z0W rfl ZS.Uaf (z6 (J4 (z0 0) Z3) Z0))) (λ_ _ _ _=>(Z9 2 (show (["machine","name","standing"]:List Str).Nodup by decide +kernel))) (λ_ _ _ _=>(z0n (z0s (Z4 (z4k ZS) .(0) rfl (z6 (z0 0) (z6 (z0 2) (z6 (z0 1) Z0))))))) (λ_ _ _ _=>(z0 2))) Z0)))) Z2)
theorem z2A:MtR P w K mg base 3 "Rounds" "ever" "Rounds.ever" (inClass (top 27) 1) ZS.Uau ["self","machine","within","wishes"] w6 :=
 dfMR ["self","machine","within","wishes","kept","many","when","then","meets"] 4 z0x ZS.Uad ZS.Uav .(3) λhcd hr nd =>
  (z8 (j6 4 nd (z0 2)) (z8 (j6 5 nd (z73 Z3)) (z8 (z2E 1000000 K0n (sc_c (z8R (hu30 hr)) (z0W rfl ZS.Uaf (z6 (z0 4) Z0)) (z0 5)) (z8 (j6 5 nd (z0W rfl ZS.Uaf (z6 (z0 4) Z0))) (z8 (j6 4 nd (Z4 (z5N ZS) .(0) rfl (z6 (z0 1) (z6 (z0 4) Z0)))) (z8 (z1b K0n rfl (z09 (z0 3)) (z5a rfl (z0y (j9 6 nd) (z0y (j9 7 nd) z3z))) (z8 (j6 8 nd (z7o (z9d (z18 ZS) .(0) (z0 0) (z6 (z0 1) (z6 (z0 4) (z6 (Z4 (z6Q ZS) .(0) rfl (z6 (z0 4) (z6 (Z4 (z5f ZS) .(0) rfl (z6 (z0 1) (z6 (z0 7) Z0))) Z0))) Z0)))) (z9d (z0F ZS) .(0) (z0 0) (z6 (z0 1) (z6 (z0 4) (z6 (Z4 (z6Q ZS) .(0) rfl (z6 (z0 4) (z6 (Z4 (z5f ZS) .(0) rfl (z6 (z0 1) (z6 (z0 7) Z0))) Z0))) Z0)))))) (z8 (j6 4 nd (z0M (z03 rfl ZS.Uah (z6 (z0o (N':=["meets","machine","when","one"]) (cap:=[some 8,some 1,some 6,none]) rfl .(6) (z09 (z0 4)) (λ_ _ _ _=>(Z9 3 (show (["meets","machine","when","one"]:List Str).Nodup by decide +kernel))) (λ_ _ _ _=>(z0n (SW.sc (zL4 (sc_c zr4 (z0 3) (z0 0)) (zg9 (z3e (z0s (Z4 (z4k ZS) .(0) rfl (z6 (z0 1) (z6 (z0 3) (z6 (z0 2) Z0))))))))))) (λ_ _ _ _=>(z0 3))) Z0)))) Z2))) Z2)))) (z8 (k7 (z7o (z9d (z18 ZS) .(0) (z0 0) (z6 (z0 1) (z6 (z0 2) (z6 (z0 4) Z0)))) (z9d (z0F ZS) .(0) (z0 0) (z6 (z0 1) (z6 (z0 2) (z6 (z0 4) Z0)))))) Z2))))
theorem z3b:MtP P w K mg base 3 "Rounds" "ever" 2 [] [] [c_FREE] w6 :=
 (z2A ZS).pat 2 [] .nil (.cons ZS.Uay.rel .nil) z2O (z8g ZS.Uay) (by decide) rfl λdoc pm an cdv ct s us ws X h1 h2=>match us,h1,ws,h2 with|[_,_,_],_,[],_=>λM A E Q q=>z6F X ZS.Uay.ns rfl λowishes hlwishes=>(by dsimp only[Sem.bind];rw[hlwishes];exact K6 q)
theorem z00:MtP P w K mg base 3 "Rounds" "ever" 2 ["wishes"] [] [] w6 :=
 (z2A ZS).pat 2 ["wishes"] .nil .nil z2O z2O (by decide) rfl λdoc pm an cdv ct s us ws X h1 h2=>match us,h1,ws,h2 with|[_,_,_],_,[_],_=>.of_eq rfl
theorem z4N:Fn P w K mg base 1 "ending_order" 1 z0w :=
 dfC ["leads","seen","order","waiting","one","done"] z06 ZS.Uaz (ZS.Uzz _) .(3) rfl .(l) λhcd hr nd =>
  (z8 (j6 1 nd (zB4 rfl ZS.Uaq)) (z8 (j6 2 nd (z0q Z0)) (z8 (z5m 3 (N':=["one"]) (cap:=[none]) rfl .(6) (z8H (z0 0)) (λ_ _ _ _=>(Z9 0 (show (["one"]:List Str).Nodup by decide +kernel))) (λ_ _ _ _=>z08) (λ_ _ _ _=>(z4y (z6 (z0 0) (z6 z1e Z0)))) nd) (z8 (z2E 1000000 K0n (z0s (z0 3)) (z8 (z74 (z6j (z0 3)) (z5a rfl (z0y (j9 4 nd) (z0y (j9 5 nd) z3z)))) (z8 (s_if (z0s (z0 5)) (z8 (z0N (Y3 (z0 2) (z0 4))) Z2) (z8 (s_if (sc_c zG8 (z0 4) (z0 1)) (z8 (z0N (zG7 (z0 1) (z0 4))) (z8 (z0N (Y3 (z0 3) (z4y (z6 (z0 4) (z6 z1e Z0))))) (z8 (z0N (z9M (z0 3) (z0o (N':=["other"]) (cap:=[none]) rfl .(6) (z0z (z2q (z1U hr) (z0 0) (z0 4))) (λ_ _ _ _=>(Z9 0 (show (["other"]:List Str).Nodup by decide +kernel))) (λ_ _ _ _=>z08) (λ_ _ _ _=>(z4y (z6 (z0 0) (z6 z1e Z0))))))) Z2))) Z2) Z2)) Z2))) (z8 (k7 (z0 2)) Z2)))))
theorem z9Q:Fn P w K mg base 1 "turned" 1 z3l :=
 dfC ["leads","told","one","other"] z4b ZS.Uba (ZS.Uzz _) .(3) rfl .(l) λhcd hr nd =>
  (z8 (z5I 1 (N':=["one"]) (cap:=[none]) rfl .(6) (z8H (z0 0)) (λ_ _ _ _=>(Z9 0 (show (["one"]:List Str).Nodup by decide +kernel))) (λ_ _ _ _=>z08) (λ_ _ _ _=>(z0 0)) (λ_ _ _ _=>(z0q Z0)) nd) (z8 (z1b K0n rfl (z8H (z0 0)) (j9 2 nd) (z8 (z1b K0n rfl (z0z (z2q (z1U hr) (z0 0) (z0 2))) (j9 3 nd) (z8 (z0N (Y3 (z2q (z1U hr) (z0 1) (z0 3)) (z0 2))) Z2)) Z2)) (z8 (k7 (z0 1)) Z2)))
theorem z4D:Fn P w K mg base 1 "set_of" 1 z1h :=
 dfC ["standings"] z4i ZS.Ubb (ZS.Uzz _) .(3) rfl .(l) λhcd hr nd =>
  (z8 (k7 (z0M (z03 rfl ZS.Uah (z6 (z5k rfl rfl ZS.Uag (z6 (z5t rfl rfl ZS.Uaq (z6 (z0 0) Z0)) Z0)) Z0)))) Z2)
theorem z7e:Fn P w K mg base 2 "take_from" 3 z39 :=
 dfC ["leads","start","taken","part","waiting","one","other"] z0P ZS.Ubc (ZS.Uzz _) .(3) rfl .(5) λhcd hr nd =>
  (z8 (z74 z1e (zl1 (z1U hr) (z0 2) (z0 1))) (z8 (j6 3 nd (z0q Z0)) (z8 (j6 4 nd (z0q (z6 (z0 1) Z0))) (z8 (z2E 1000000 K0n (z0s (z0 4)) (z8 (j6 5 nd (z6j (z0 4))) (z8 (z0N (Y3 (z0 3) (z0 5))) (z8 (z1b K0n rfl (z0z (z2q (z1U hr) (z0 0) (z0 5))) (j9 6 nd) (z8 (s_if (sc_c (z7k (z1U hr)) (z0 6) (z0 2)) (z8 (z74 z1e (zl1 (z1U hr) (z0 2) (z0 6))) (z8 (z0N (Y3 (z0 4) (z0 6))) Z2)) Z2) Z2)) Z2)))) (z8 (k7 (Z4 (z4D ZS) .(0) rfl (z6 (z0 3) Z0))) Z2)))))
theorem zr1:Fn P w K mg base 3 "knots" 1 z7j :=
 dfC ["leads","taken","told","one"] z3K ZS.Ubd (ZS.Uzz _) .(3) rfl .(l) λhcd hr nd =>
  (z8 (j6 1 nd zQ3) (z8 (j6 2 nd (z0q Z0)) (z8 (z1b K0n rfl (zK3 rfl ZS.Ube (Z4 (z4N ZS) .(0) rfl (z6 (Z4 (z9Q ZS) .(0) rfl (z6 (z0 0) Z0)) Z0))) (j9 3 nd) (z8 (s_if (sc_c (z7k (z1U hr)) (z0 3) (z0 1)) (z8 (z0N (Y3 (z0 2) (Z4 (z7e ZS) .(0) rfl (z6 (z0 0) (z6 (z0 3) (z6 (z0 1) Z0)))))) Z2) Z2) Z2)) (z8 (k7 (z0 2)) Z2))))
theorem z2B:Fn P w K mg base 1 "steps_inside" 2 z0T :=
 dfC ["machine","within","inside"] z0Q ZS.Ubf (ZS.Uzz _) .(3) rfl .(b) λhcd hr nd =>
  (z8 (j6 2 nd (z3u (N':=["standing"]) (cap:=[none]) rfl .(6) (z09 (z0 1)) (λ_ _ _ _=>(Z9 0 (show (["standing"]:List Str).Nodup by decide +kernel))) (λ_ _ _ _=>z08) (λ_ _ _ _=>(z0 0)) (λ_ _ _ _=>z1e))) (z8 (k7 (z3u (N':=["machine","inside","standing"]) (cap:=[some 0,some 2,none]) rfl .(6) (z09 (z0 1)) (λ_ _ _ _=>(Z9 2 (show (["machine","inside","standing"]:List Str).Nodup by decide +kernel))) (λ_ _ _ _=>z08) (λ_ _ _ _=>(z0 2)) (λ_ _ _ _=>(z0o (N':=["inside","other"]) (cap:=[some 1,none]) rfl .(6) (z09 (J4 (J4 (z0 0) Z3) (z0 2))) (λ_ _ _ _=>(Z9 1 (show (["inside","other"]:List Str).Nodup by decide +kernel))) (λ_ _ _ _=>(z0n (sc_c (z88 (z1U hr)) (z0 1) (z0 0)))) (λ_ _ _ _=>(z0 1)))))) Z2))
theorem z4w:Fn P w K mg base 4 "strong_parts" 2 z0t :=
 dfC ["machine","within"] z0U ZS.Ubg (ZS.Uzz _) .(3) rfl .(b) λhcd hr nd =>
  (z8 (k7 (Z4 (zr1 ZS) .(0) rfl (z6 (Z4 (z2B ZS) .(0) rfl (z6 (z0 0) (z6 (z0 1) Z0))) Z0))) Z2)
theorem z7l:Fn P w K mg base 1 "is_round" 2 z2N :=
 dfC ["leads","knot"] z2Q ZS.Ubh (ZS.Uzz _) .(3) rfl .(b) λhcd hr nd =>
  (z8 (k7 (zv9 (se_c z7O (z0W rfl ZS.Uaf (z6 (z0 1) Z0)) Z3) (z6t (se_c zr4 (J4 (z0 1) Z3) (J4 (z0 0) (J4 (z0 1) Z3)))))) Z2)
theorem z4R:Fn P w K mg base 2 "is_borne" 3 z1T :=
 dfC ["machine","standings","name"] z2K ZS.Ubi (ZS.Uzz _) .(3) rfl .(5) λhcd hr nd =>
  (z8 (k7 (z0M (zx3 rfl rfl ZS.Uab (z6 (z0o (N':=["machine","name","standing"]) (cap:=[some 0,some 2,none]) rfl .(6) (z09 (z0 1)) (λ_ _ _ _=>(Z9 2 (show (["machine","name","standing"]:List Str).Nodup by decide +kernel))) (λ_ _ _ _=>z08) (λ_ _ _ _=>(Z4 (z4k ZS) .(0) rfl (z6 (z0 0) (z6 (z0 2) (z6 (z0 1) Z0)))))) Z0)))) Z2)
theorem z4Z:Fn P w K mg base 3 "failed_wish" 3 z2e :=
 dfC ["machine","part","wishes","number","when","then"] z0E ZS.Ubj (ZS.Uzz _) .(3) rfl .(5) λhcd hr nd =>
  (z8 (z1b K0n rfl (zh3 rfl rfl ZS.Uaj (z0 2)) (z5a rfl (z0y (j9 3 nd) (z0y (z5a rfl (z0y (j9 4 nd) (z0y (j9 5 nd) z3z))) z3z))) (z8 (s_if (SW.sc (z6d (z0s (Z4 (z4R ZS) .(0) rfl (z6 (z0 0) (z6 (z0 1) (z6 (z0 4) Z0))))) (z4q (z3e (z0s (Z4 (z4R ZS) .(0) rfl (z6 (z0 0) (z6 (z0 1) (z6 (z0 5) Z0))))))))) (z8 (k7 (z0 3)) Z2) Z2) Z2)) (z8 (k7 (z73 Z3)) Z2))
theorem z50:Fn P w K mg base 2 "not_bearing" 3 z1i :=
 dfC ["machine","part","name"] z1j ZS.Ubk (ZS.Uzz _) .(3) rfl .(5) λhcd hr nd =>
  (z8 (k7 (z0M (z03 rfl ZS.Uah (z6 (z0o (N':=["machine","name","standing"]) (cap:=[some 0,some 2,none]) rfl .(6) (z09 (z0 1)) (λ_ _ _ _=>(Z9 2 (show (["machine","name","standing"]:List Str).Nodup by decide +kernel))) (λ_ _ _ _=>(z0n (z3e (z0s (Z4 (z4k ZS) .(0) rfl (z6 (z0 0) (z6 (z0 2) (z6 (z0 1) Z0)))))))) (λ_ _ _ _=>(z0 2))) Z0)))) Z2)
theorem z5C:Fn P w K mg base 5 "fair_parts" 3 z2C :=
 dfC ["machine","within","wishes","told","waiting","whole","part","failed"] z14 ZS.Ubl (ZS.Uzz _) .(3) rfl .(5) λhcd hr nd =>
  (z8 (j6 3 nd (z0q Z0)) (z8 (j6 4 nd (z0q (z6 (z0 1) Z0))) (z8 (z2E 1000000 K0n (z0s (z0 4)) (z8 (j6 5 nd (z6j (z0 4))) (z8 (z1b K0n rfl (z0z (Z4 (z4w ZS) .(0) rfl (z6 (z0 0) (z6 (z0 5) Z0)))) (j9 6 nd) (z8 (s_if (z0s (Z4 (z7l ZS) .(0) rfl (z6 (J4 (z0 0) Z3) (z6 (z0 6) Z0)))) (z8 (j6 7 nd (Z4 (z4Z ZS) .(0) rfl (z6 (z0 0) (z6 (z0 6) (z6 (z0 2) Z0))))) (z8 (s_if (sc_c z5S (z0 7) (z73 Z3)) (z8 (z0N (Y3 (z0 3) (z0 6))) Z2) (z8 (z0N (Y3 (z0 4) (Z4 (z50 ZS) .(0) rfl (z6 (z0 0) (z6 (z0 6) (z6 (J4 (J4 (z0 2) (z0 7)) Z3) Z0)))))) Z2)) Z2)) Z2) Z2)) Z2))) (z8 (k7 (z0 3)) Z2))))
theorem z9B:Fn P w K mg base 2 "lasting" 2 z4L :=
 dfC ["machine","within","leads","counts","back","waiting","standing","other"] z2p ZS.Ubm (ZS.Uzz _) .(3) rfl .(b) λhcd hr nd =>
  (z8 (j6 2 nd (Z4 (z2B ZS) .(0) rfl (z6 (z0 0) (z6 (z0 1) Z0)))) (z8 (j6 3 nd (z3u (N':=["leads","standing"]) (cap:=[some 2,none]) rfl .(6) (z09 (z0 1)) (λ_ _ _ _=>(Z9 1 (show (["leads","standing"]:List Str).Nodup by decide +kernel))) (λ_ _ _ _=>z08) (λ_ _ _ _=>(z0 1)) (λ_ _ _ _=>(z0W rfl ZS.Uaf (z6 (z2q (z1U hr) (z0 0) (z0 1)) Z0))))) (z8 (j6 4 nd (Z4 (z3R ZS) .(0) rfl (z6 (z0 0) Z0))) (z8 (z5m 5 (N':=["counts","standing"]) (cap:=[some 3,none]) rfl .(6) (z09 (z0 1)) (λ_ _ _ _=>(Z9 1 (show (["counts","standing"]:List Str).Nodup by decide +kernel))) (λ_ _ _ _=>(z0n (sc_c z5S (z2q (z1U hr) (z0 0) (z0 1)) Z3))) (λ_ _ _ _=>(z0 1)) nd) (z8 (z2E 1000000 K0n (z0s (z0 5)) (z8 (j6 6 nd (z6j (z0 5))) (z8 (z1b K0n rfl (z0z (J4 (z0 4) (z0 6))) (j9 7 nd) (z8 (s_if (sc_c (z88 (z1U hr)) (z0 7) (z0 3)) (z8 (zM3 (z1U hr) (z0 3) (z0 7) zL9 Z3) (z8 (s_if (sc_c z5S (z2q (z1U hr) (z0 3) (z0 7)) Z3) (z8 (z0N (Y3 (z0 5) (z0 7))) Z2) Z2) Z2)) Z2) Z2)) Z2))) (z8 (k7 (z0M (z03 rfl ZS.Uah (z6 (z0o (N':=["counts","standing"]) (cap:=[some 3,none]) rfl .(6) (z09 (z0 1)) (λ_ _ _ _=>(Z9 1 (show (["counts","standing"]:List Str).Nodup by decide +kernel))) (λ_ _ _ _=>(z0n (sc_c z7O (z2q (z1U hr) (z0 0) (z0 1)) Z3))) (λ_ _ _ _=>(z0 1))) Z0)))) Z2))))))
theorem z1V:MtR P w K mg base 6 "Worklist" "ever" "Worklist.ever" (inClass (top 28) 1) ZS.Ubn ["self","machine","within","wishes"] y0 :=
 dfMR ["self","machine","within","wishes","parts"] 4 z05 ZS.Ual ZS.Ubo .(3) λhcd hr nd =>
  (z8 (j6 4 nd (Z4 (z5C ZS) .(0) rfl (z6 (z0 1) (z6 (Z4 (z9B ZS) .(0) rfl (z6 (z0 1) (z6 (z0 2) Z0))) (z6 (z0 3) Z0))))) (z8 (k7 (z7o (z9d (z18 ZS) .(0) (z0 0) (z6 (z0 1) (z6 (z0 2) (z6 (Z4 (z4D ZS) .(0) rfl (z6 (z8l (N':=["part","standing"]) (cap:=[none,none]) rfl .(6) (z0z (z0 4)) (λ_ _ _ _=>(Z9 0 (show (["part","standing"]:List Str).Nodup by decide +kernel))) (λ_ _ _ _=>(z09 (z0 0))) (λ_ _ _ _=>(Z9 1 (show (["part","standing"]:List Str).Nodup by decide +kernel))) (λ_ _ _ _=>z08) (λ_ _ _ _=>(z0 1))) Z0)) Z0)))) (z9d (z0F ZS) .(0) (z0 0) (z6 (z0 1) (z6 (z0 2) (z6 (Z4 (z4D ZS) .(0) rfl (z6 (z8l (N':=["part","standing"]) (cap:=[none,none]) rfl .(6) (z0z (z0 4)) (λ_ _ _ _=>(Z9 0 (show (["part","standing"]:List Str).Nodup by decide +kernel))) (λ_ _ _ _=>(z09 (z0 0))) (λ_ _ _ _=>(Z9 1 (show (["part","standing"]:List Str).Nodup by decide +kernel))) (λ_ _ _ _=>z08) (λ_ _ _ _=>(z0 1))) Z0)) Z0)))))) Z2))
theorem z2U:MtP P w K mg base 6 "Worklist" "ever" 2 [] [] [c_FREE] y0 :=
 (z1V ZS).pat 2 [] .nil (.cons ZS.Ubr.rel .nil) z2O (z8g ZS.Ubr) (by decide) rfl λdoc pm an cdv ct s us ws X h1 h2=>match us,h1,ws,h2 with|[_,_,_],_,[],_=>λM A E Q q=>z6F X ZS.Ubr.ns rfl λowishes hlwishes=>(by dsimp only[Sem.bind];rw[hlwishes];exact K6 q)
theorem Y5:MtP P w K mg base 6 "Worklist" "ever" 2 ["wishes"] [] [] y0 :=
 (z1V ZS).pat 2 ["wishes"] .nil .nil z2O z2O (by decide) rfl λdoc pm an cdv ct s us ws X h1 h2=>match us,h1,ws,h2 with|[_,_,_],_,[_],_=>.of_eq rfl
theorem z7d:Fn P w K mg base 1 "_law_pool" 1 z37 :=
 dfN ["_law_script","_law_great"] z2b ZS.Ubs (ZS.Uzz _) .(3) rfl .(l) λhcd hr nd =>
  (z8 (z5m 1 (N':=["_law_cell"]) (cap:=[none]) rfl .(6) (z0z (z0 0)) (λ_ _ _ _=>(Z9 0 (show (["_law_cell"]:List Str).Nodup by decide +kernel))) (λ_ _ _ _=>(z0n (sc_c zP3 (z0 0) (zg8 Z3 Z3)))) (λ_ _ _ _=>(z0 0)) nd) (z8 (k7 (z0q (z6 (z0 1) (z6 (z0o (N':=["_law_cell"]) (cap:=[none]) rfl .(6) (z0z (z0 0)) (λ_ _ _ _=>(Z9 0 (show (["_law_cell"]:List Str).Nodup by decide +kernel))) (λ_ _ _ _=>(z0n (sc_c zI6 (z0 0) (zg8 Z3 Z3)))) (λ_ _ _ _=>(z0 0))) (z6 Z3 (z6 Z3 Z0)))))) Z2))
theorem j3:Fn P w K mg base 1 "_law_draw" 2 Z6 :=
 dfN ["_law_pool_here","_law_many","_law_cell"] z1x ZS.Ubt (ZS.Uzz _) .(3) rfl .(b) λhcd hr nd =>
  (z8 (s_if (sc_c z7O (z0W rfl ZS.Uaf (z6 (J4 (z0 0) Z3) Z0)) Z3) (z8 (j6 2 nd (J4 (J4 (z0 0) Z3) Z3)) (z8 (z74 (z7X (z0 2) (z0 1)) (zD5 (J4 (z0 0) Z3) Z3)) (z8 (s_if (sc_c z5S (z7X (z0 2) (z0 1)) Z3) (z8 (z0N (zk8 (J4 (z0 0) Z3) Z3)) Z2) Z2) (z8 (k7 (z3U (z0 2) (z0 1))) Z2)))) Z2) (z8 (z74 (z1y (J4 (z0 0) Z3) Z3) (zD5 (z0 0) Z3)) (z8 (j6 2 nd Z3) (z8 (s_if (sc_c z7O (z0W rfl ZS.Uaf (z6 (J4 (z0 0) Z3) Z0)) Z3) (z8 (j6 2 nd (J4 (J4 (z0 0) Z3) (z3U (J4 (z0 0) Z3) (z0W rfl ZS.Uaf (z6 (J4 (z0 0) Z3) Z0))))) Z2) Z2) (z8 (j6 2 nd (z5L (z3U (z0 2) Z3) (z1y (z5L (J4 (z0 0) Z3) (J4 (z0 0) Z3)) Z3))) (z8 (z74 (z3U (z1y (z1y (z5L (J4 (z0 0) Z3) Z3) (z0 2)) (z5L Z3 (J4 (z0 0) Z3))) Z3) (zD5 (z0 0) Z3)) (z8 (k7 (z3U (z7X (z3U (zg8 (J4 (z0 0) Z3) Z3) Z3) Z3) (z0 1))) Z2)))))))
theorem z6g:Fn P w K mg base 2 "_law_name" 3 z2Y :=
 dfC ["_law_pool_here","_law_start","_law_taken","_law_letters","_law_name_here","_law_k","_law_last","_law_words","_law_found"] z1w ZS.Ubu (ZS.Uzz _) .(3) rfl .(5) λhcd hr nd =>
  (z8 (j6 3 nd z0l) (z8 (j6 4 nd (z0 1)) (z8 (z1b K0n rfl (z0a rfl ZS.Uat (Z4 (j3 ZS) .(0) rfl (z6 (z0 0) (z6 Z3 Z0)))) (j9 5 nd) (z8 (j6 4 nd (z1y (z0 4) (J4 (z0 3) (Z4 (j3 ZS) .(0) rfl (z6 (z0 0) (z6 Z3 Z0)))))) Z2)) (z8 (j6 6 nd (Z4 (j3 ZS) .(0) rfl (z6 (z0 0) (z6 Z3 Z0)))) (z8 (j6 7 nd (z0q (z6 z0l (z6 z0l (z6 z0l (z6 z0l (z6 z0l (z6 z0l (z6 z0l (z6 z0l (z6 z0l (z6 z0l (z6 z0l (z6 z0l (z6 z0l Z0))))))))))))))) (z8 (z1b K0n rfl (z0a rfl ZS.Uat Z3) (j9 5 nd) (z8 (j6 8 nd (z1y (z0 4) (J4 (z0 3) (z3U (z1y (z0 6) (z0 5)) Z3)))) (z8 (s_if (SW.sc (z6d (sc_c z83 (z0 8) (z0 7)) (z4q (sc_c z83 (z0 8) (z0 2))))) (z8 (k7 (z0 8)) Z2) Z2) Z2))) (z8 (k7 (z1y (z0 4) z0l)) Z2)))))))
theorem z5u:Fn P w K mg base 3 "_law_names" 2 z2o :=
 dfC ["_law_pool_here","_law_many","_law_letters","_law_start","_law_k","_law_names_here"] z1G ZS.Ubv (ZS.Uzz _) .(3) rfl .(b) λhcd hr nd =>
  (z8 (j6 2 nd z0l) (z8 (j6 3 nd z0l) (z8 (z1b K0n rfl (z0a rfl ZS.Uat (z0M (J4 (z0q (z6 Z3 (z6 Z3 (z6 Z3 (z6 Z3 Z0))))) (Z4 (j3 ZS) .(0) rfl (z6 (z0 0) (z6 Z3 Z0)))))) (j9 4 nd) (z8 (j6 3 nd (z1y (z0 3) (J4 (z0 2) (Z4 (j3 ZS) .(0) rfl (z6 (z0 0) (z6 Z3 Z0)))))) Z2)) (z8 (j6 5 nd (z0q Z0)) (z8 (z1b K0n rfl (z0a rfl ZS.Uat (z0 1)) (j9 4 nd) (z8 (z0N (Y3 (z0 5) (Z4 (z6g ZS) .(0) rfl (z6 (z0 0) (z6 (z0 3) (z6 (z0 5) Z0)))))) Z2)) (z8 (k7 (z0 5)) Z2))))))
theorem z4o:Fn P w K mg base 2 "_law_machine" 3 z1Q :=
 dfC ["_law_pool_here","_law_names_here","_law_most","_law_many","_law_dense","_law_steps","_law_marks","_law_k"] z0S ZS.Ubw (ZS.Uzz _) .(3) rfl .(5) λhcd hr nd =>
  (z8 (j6 3 nd (z1y Z3 (Z4 (j3 ZS) .(0) rfl (z6 (z0 0) (z6 (z0 2) Z0))))) (z8 (j6 4 nd (z1y Z3 (Z4 (j3 ZS) .(0) rfl (z6 (z0 0) (z6 Z3 Z0))))) (z8 (j6 5 nd (z0q Z0)) (z8 (j6 6 nd (z0q Z0)) (z8 (z1b K0n rfl (z0a rfl ZS.Uat (z0 3)) (j9 7 nd) (z8 (z0N (Y3 (z0 5) (z0M (z03 rfl ZS.Uah (z6 (z0o (N':=["_law_pool_here","_law_dense","_law_to"]) (cap:=[some 0,some 4,none]) rfl .(6) (z0a rfl ZS.Uat (z0 3)) (λ_ _ _ _=>(Z9 2 (show (["_law_pool_here","_law_dense","_law_to"]:List Str).Nodup by decide +kernel))) (λ_ _ _ _=>(z0n (sc_c zI6 (Z4 (j3 ZS) .(0) rfl (z6 (z0 0) (z6 Z3 Z0))) (z0 1)))) (λ_ _ _ _=>(z0 2))) Z0))))) (z8 (z0N (Y3 (z0 6) (z0M (z03 rfl ZS.Uah (z6 (zj6 rfl rfl ZS.Uag (z6 (z0o (N':=["_law_pool_here","_law_name_here"]) (cap:=[some 0,none]) rfl .(6) (z0z (z0 1)) (λ_ _ _ _=>(Z9 1 (show (["_law_pool_here","_law_name_here"]:List Str).Nodup by decide +kernel))) (λ_ _ _ _=>(z0n (sc_c z5S (Z4 (j3 ZS) .(0) rfl (z6 (z0 0) (z6 Z3 Z0))) Z3))) (λ_ _ _ _=>(z0 1))) Z0)) Z0))))) Z2))) (z8 (k7 (z4y (z6 (z03 rfl ZS.Uah (z6 (z0 5) Z0)) (z6 (z03 rfl ZS.Uah (z6 (z0 6) Z0)) Z0)))) Z2))))))
theorem z4Y:Fn P w K mg base 2 "_law_wishes" 3 z1Z :=
 dfC ["_law_pool_here","_law_names_here","_law_most","_law_some_here","_law_wants","_law_k","_law_when"] z1d ZS.Ubx (ZS.Uzz _) .(3) rfl .(5) λhcd hr nd =>
  (z8 (j6 3 nd (z1y (z0q (z6 z0l (z6 z0l (z6 z0l Z0)))) (z0 1))) (z8 (j6 4 nd (z0q Z0)) (z8 (z1b K0n rfl (z0a rfl ZS.Uat (Z4 (j3 ZS) .(0) rfl (z6 (z0 0) (z6 (z1y (z0 2) Z3) Z0)))) (j9 5 nd) (z8 (j6 6 nd (J4 (z0 3) (Z4 (j3 ZS) .(0) rfl (z6 (z0 0) (z6 (z0W rfl ZS.Uaf (z6 (z0 3) Z0)) Z0))))) (z8 (z0N (Y3 (z0 4) (z4y (z6 (z0 6) (z6 (J4 (z0 3) (z1y Z3 (Z4 (j3 ZS) .(0) rfl (z6 (z0 0) (z6 (z9E (z0W rfl ZS.Uaf (z6 (z0 3) Z0)) Z3) Z0))))) Z0))))) Z2))) (z8 (k7 (z03 rfl ZS.Uah (z6 (z0 4) Z0))) Z2))))
theorem z3N:Fn P w K mg base 2 "_law_some" 2 z26 :=
 dfC ["_law_pool_here","_law_many","_law_dense"] z29 ZS.Uby (ZS.Uzz _) .(3) rfl .(b) λhcd hr nd =>
  (z8 (j6 2 nd (Z4 (j3 ZS) .(0) rfl (z6 (z0 0) (z6 Z3 Z0)))) (z8 (k7 (z0M (z03 rfl ZS.Uah (z6 (z0o (N':=["_law_pool_here","_law_dense","_law_one"]) (cap:=[some 0,some 2,none]) rfl .(6) (z0a rfl ZS.Uat (z0 1)) (λ_ _ _ _=>(Z9 2 (show (["_law_pool_here","_law_dense","_law_one"]:List Str).Nodup by decide +kernel))) (λ_ _ _ _=>(z0n (sc_c zl5 (Z4 (j3 ZS) .(0) rfl (z6 (z0 0) (z6 Z3 Z0))) (z0 1)))) (λ_ _ _ _=>(z0 2))) Z0)))) Z2))
theorem z4p:Fn P w K mg base 1 "_law_set" 1 z2G :=
 dfC ["_law_mask_here"] z2J ZS.Ubz (ZS.Uzz _) .(3) rfl .(l) λhcd hr nd =>
  (z8 (k7 (z0M (z03 rfl ZS.Uah (z6 (z0o (N':=["_law_mask_here","_law_k"]) (cap:=[some 0,none]) rfl .(6) (z0a rfl ZS.Uat Z3) (λ_ _ _ _=>(Z9 1 (show (["_law_mask_here","_law_k"]:List Str).Nodup by decide +kernel))) (λ_ _ _ _=>(z0n (sc_c z5S (z3U (z7X (z0 0) (z0M (J4 (z0q (z6 Z3 (z6 Z3 (z6 Z3 (z6 Z3 (z6 Z3 (z6 Z3 Z0))))))) (z0 1)))) Z3) Z3))) (λ_ _ _ _=>(z0 1))) Z0)))) Z2)
theorem z10:Fn P w K mg base 1 "_law_mask" 1 z02 :=
 dfC ["_law_standings","_law_mask_here","_law_one"] z2d ZS.Uca (ZS.Uzz _) .(3) rfl .(l) λhcd hr nd =>
  (z8 (j6 1 nd Z3) (z8 (z1b K0n rfl (Z06 (z09 (z0 0)) (z0z (z0 0))) (j9 2 nd) (z8 (j6 1 nd (z5V (z0 1) (z0M (J4 (z0q (z6 Z3 (z6 Z3 (z6 Z3 (z6 Z3 (z6 Z3 (z6 Z3 Z0))))))) (z0 2))))) Z2)) (z8 (k7 (z0 1)) Z2)))
theorem z3P:Fn P w K mg base 2 "_law_lead" 2 z2a :=
 dfC ["_law_ahead","_law_goal"] z2c ZS.Ucb (ZS.Uzz _) .(3) rfl .(b) λhcd hr nd =>
  (z8 (k7 (Z4 (z10 ZS) .(0) rfl (z6 (z0o (N':=["_law_ahead","_law_goal","_law_k"]) (cap:=[some 0,some 1,none]) rfl .(6) (z0a rfl ZS.Uat (z0W rfl ZS.Uaf (z6 (z0 0) Z0))) (λ_ _ _ _=>(Z9 2 (show (["_law_ahead","_law_goal","_law_k"]:List Str).Nodup by decide +kernel))) (λ_ _ _ _=>(z0n (sc_c z7O (z57 (J4 (z0 0) (z0 2)) (z0 1)) Z3))) (λ_ _ _ _=>(z0 2))) Z0))) Z2)
theorem z3Y:Fn P w K mg base 3 "_law_near" 3 z27 :=
 dfC ["_law_ahead","_law_within","_law_goal","_law_found","_law_k"] z2f ZS.Ucc (ZS.Uzz _) .(3) rfl .(5) λhcd hr nd =>
  (z8 (j6 3 nd (z0 2)) (z8 (z1b K0n rfl (z0a rfl ZS.Uat (z0W rfl ZS.Uaf (z6 (z0 0) Z0))) (j9 4 nd) (z8 (j6 3 nd (z5V (z0 3) (z57 (z0 1) (Z4 (z3P ZS) .(0) rfl (z6 (z0 0) (z6 (z0 3) Z0)))))) Z2)) (z8 (k7 (z0 3)) Z2)))
theorem z6B:Fn P w K mg base 4 "_law_ever" 3 z32 :=
 dfC ["_law_ahead","_law_rounds_here","_law_within","_law_goal","_law_some_here"] z28 ZS.Ucd (ZS.Uzz _) .(3) rfl .(5) λhcd hr nd =>
  (z8 (j6 3 nd Z3) (z8 (z1b K0n rfl (z0z (z0 1)) (j9 4 nd) (z8 (s_if (sc_c (zu0 (hu30 hr)) (z57 (z0 4) (z0 2)) (z0 4)) (z8 (j6 3 nd (z5V (z0 3) (z0 4))) Z2) Z2) Z2)) (z8 (k7 (Z4 (z3Y ZS) .(0) rfl (z6 (z0 0) (z6 (z0 2) (z6 (z0 3) Z0))))) Z2)))
theorem z3t:Fn P w K mg base 2 "_law_bears" 2 z1H :=
 dfC ["_law_machine_here","_law_name_here"] z1B ZS.Uce (ZS.Uzz _) .(3) rfl .(b) λhcd hr nd =>
  (z8 (k7 (Z4 (z10 ZS) .(0) rfl (z6 (z0o (N':=["_law_name_here","_law_machine_here","_law_k"]) (cap:=[some 1,some 0,none]) rfl .(6) (z0a rfl ZS.Uat (z0W rfl ZS.Uaf (z6 (J4 (z0 0) Z3) Z0))) (λ_ _ _ _=>(Z9 2 (show (["_law_name_here","_law_machine_here","_law_k"]:List Str).Nodup by decide +kernel))) (λ_ _ _ _=>(z0n (SW.sc (zL4 (sc_c z5S (z0 0) z0l) (zg9 (sc_c zr4 (z0 0) (J4 (J4 (z0 1) Z3) (z0 2)))))))) (λ_ _ _ _=>(z0 2))) Z0))) Z2)
theorem z5W:Fn P w K mg base 4 "_law_round" 3 z1C :=
 dfC ["_law_ahead","_law_some_here","_law_wants","_law_one","_law_when","_law_then"] z0Z ZS.Ucf (ZS.Uzz _) .(3) rfl .(5) λhcd hr nd =>
  (z8 (z1b K0n rfl (z09 (Z4 (z4p ZS) .(0) rfl (z6 (z0 1) Z0))) (j9 3 nd) (z8 (s_if (sc_c (z8R (hu30 hr)) (Z4 (z3Y ZS) .(0) rfl (z6 (z0 0) (z6 (z0 1) (z6 (z57 (z0 1) (Z4 (z3P ZS) .(0) rfl (z6 (z0 0) (z6 (Z4 (z10 ZS) .(0) rfl (z6 (z0q (z6 (z0 3) Z0)) Z0)) Z0)))) Z0)))) (z0 1)) (z8 (k7 z1e) Z2) Z2) Z2)) (z8 (z1b K0n rfl (z0z (z0 2)) (z5a rfl (z0y (j9 4 nd) (z0y (j9 5 nd) z3z))) (z8 (s_if (SW.sc (z6d (sc_c z7O (z57 (z0 1) (z0 4)) Z3) (z4q (sc_c z5S (z57 (z0 1) (z0 5)) Z3)))) (z8 (k7 z1e) Z2) Z2) Z2)) (z8 (k7 z1e) Z2)))
theorem z55:Fn P w K mg base 5 "_law_rounds" 2 z21 :=
 dfC ["_law_ahead","_law_wants","_law_most"] z1g ZS.Ucg (ZS.Uzz _) .(3) rfl .(b) λhcd hr nd =>
  (z8 (j6 2 nd (z0M (J4 (z0q (z6 Z3 (z6 Z3 (z6 Z3 (z6 Z3 (z6 Z3 (z6 Z3 Z0))))))) (z9E (z0W rfl ZS.Uaf (z6 (z0 0) Z0)) Z3)))) (z8 (k7 (z0o (N':=["_law_ahead","_law_wants","_law_some_here"]) (cap:=[some 0,some 1,none]) rfl .(6) (zi6 rfl ZS.Uat Z3 (z0 2)) (λ_ _ _ _=>(Z9 2 (show (["_law_ahead","_law_wants","_law_some_here"]:List Str).Nodup by decide +kernel))) (λ_ _ _ _=>(z0n (z0s (Z4 (z5W ZS) .(0) rfl (z6 (z0 0) (z6 (z0 2) (z6 (z0 1) Z0))))))) (λ_ _ _ _=>(z0 2)))) Z2))
theorem z36:Fn P w K mg base 6 "_law_due" 3 z1W :=
 dfC ["_law_machine_here","_law_within","_law_wants","_law_ahead","_law_pairs"] z2L ZS.Uch (ZS.Uzz _) .(3) rfl .(5) λhcd hr nd =>
  (z8 (z5m 3 (N':=["_law_steps"]) (cap:=[none]) rfl .(6) (z09 (J4 (z0 0) Z3)) (λ_ _ _ _=>(Z9 0 (show (["_law_steps"]:List Str).Nodup by decide +kernel))) (λ_ _ _ _=>z08) (λ_ _ _ _=>(Z4 (z10 ZS) .(0) rfl (z6 (z0 0) Z0))) nd) (z8 (z5m 4 (N':=["_law_machine_here","_law_when","_law_then"]) (cap:=[some 0,none,none]) rfl .(6) (z09 (z0 2)) (λ_ _ _ _=>(zA5 rfl (z6x (Z9 1 (show (["_law_machine_here","_law_when","_law_then"]:List Str).Nodup by decide +kernel)) (z6x (Z9 2 (show (["_law_machine_here","_law_when","_law_then"]:List Str).Nodup by decide +kernel)) zr2)))) (λ_ _ _ _=>z08) (λ_ _ _ _=>(z4y (z6 (Z4 (z3t ZS) .(0) rfl (z6 (z0 0) (z6 (z0 1) Z0))) (z6 (Z4 (z3t ZS) .(0) rfl (z6 (z0 0) (z6 (z0 2) Z0))) Z0)))) nd) (z8 (k7 (Z4 (z4p ZS) .(0) rfl (z6 (Z4 (z6B ZS) .(0) rfl (z6 (z0 3) (z6 (Z4 (z55 ZS) .(0) rfl (z6 (z0 3) (z6 (z0 4) Z0))) (z6 (Z4 (z10 ZS) .(0) rfl (z6 (z0 1) Z0)) Z0)))) Z0))) Z2)))
theorem z5s:Fn P w K mg base 1 "_law_tuple" 3 z1A :=
 dfC ["_law_thing","_law_least","_law_most"] z12 ZS.Uci (ZS.Uzz _) .(3) rfl .(5) λhcd hr nd =>
  (z8 (k7 (z5R (za8 rfl ZS.Ucj rfl ZS.Uah .(3) (by decide) (z0 0)) (z6t (zU6 zl5 zl5 (z0 1) (z0W rfl ZS.Uaf (z6 (z0 0) Z0)) (z0 2))))) Z2)
theorem z52:Fn P w K mg base 1 "_law_number" 3 z25 :=
 dfC ["_law_thing","_law_low","_law_high"] z0H ZS.Uck (ZS.Uzz _) .(3) rfl .(5) λhcd hr nd =>
  (z8 (k7 (z5R (za8 rfl ZS.Ucj rfl ZS.Ucm .(3) (by decide) (z0 0)) (z5R (zB5 (za8 rfl ZS.Ucj rfl ZS.Ucl .(3) (by decide) (z0 0))) (z6t (zU6 zl5 zI6 (z0 1) (z0 0) (z0 2)))))) Z2)
theorem z46:Fn P w K mg base 2 "_law_good_set" 2 z0I :=
 dfC ["_law_thing","_law_many","_law_k"] z0J ZS.Ucn (ZS.Uzz _) .(3) rfl .(b) λhcd hr nd =>
  (z8 (s_if (z3e (z0s (Z4 (z5s ZS) .(0) rfl (z6 (z0 0) (z6 Z3 (z6 (z0 1) Z0)))))) (z8 (k7 z1e) Z2) Z2) (z8 (z1b K0n rfl (z0a rfl ZS.Uat (z0W rfl ZS.Uaf (z6 (z0 0) Z0))) (j9 2 nd) (z8 (s_if (SW.sc (zL4 (z3e (z0s (Z4 (z52 ZS) .(0) rfl (z6 (J4 (z0 0) (z0 2)) (z6 Z3 (z6 (z0 1) Z0)))))) (zg9 (SW.sc (z6d (sc_c z7O (z0 2) Z3) (z4q (sc_c zP3 (J4 (z0 0) (z9E (z0 2) Z3)) (J4 (z0 0) (z0 2))))))))) (z8 (k7 z1e) Z2) Z2) Z2)) (z8 (k7 z1e) Z2)))
theorem z1f:Fn P w K mg base 3 "_law_alike" 3 z0d :=
 dfC ["_law_found","_law_due_here","_law_many"] z1E ZS.Uco (ZS.Uzz _) .(3) rfl .(5) λhcd hr nd =>
  (z8 (k7 (z5R (Z4 (z46 ZS) .(0) rfl (z6 (z0 0) (z6 (z0 2) Z0))) (z6t (se_c (zu0 (hu30 hr)) (z0 0) (z0 1))))) Z2)
end
theorem sc_law:FnScope ["_law_script","_law_pool_here","_law_names_here","_law_machine_here","_law_wants","_law_many","_law_within","_law_other","_law_due_here","_law_way"] ["_law_script"] (Z8 (top 53)):=⟨rfl,rfl,rfl,by decide +kernel,rfl,by decide +kernel,by decide +kernel⟩
theorem Z0k (g0:Int) (gr sm:List Int) (s c:Int) (r:AH) (n:Int) (hn:0<n) (hn2:n<1073741824) (hg:gr.length<=63):
 ∃gr',gr'.length<=gr.length+1/\Z6 [.ref 2,.int n] (Pool (g0::gr) sm s c r)=.ok (.int (g0 % n)) (Pool gr' sm s c r):=by
 unfold Z6 runF z1x Pool z16;have hl:gr.length<=sizeLine:=K0q hg (by decide);by_cases h0:g0 / n=0
 ·refine⟨gr,by omega,?_⟩;simp[z9,bNil,sIf,sAsg,sRet,z0p,e2,Z7,z7,aNil,eVar,fIx,seqD,getL,fLen,fGt,fCmp,fI,asB,gIx,gN,fSet,fDiv,fIC,eM1,z3H,z5e,updL,fEq,eqD,fMod,atI,ixN,hn,hn2,h0,K8l,hl]
 ·refine⟨g0 / n::gr,by simp,?_⟩;simp[z9,bNil,sIf,sAsg,sRet,z0p,e2,Z7,z7,aNil,eVar,fIx,seqD,getL,fLen,fGt,fCmp,fI,asB,gIx,gN,fSet,fDiv,fIC,eM1,z3H,z5e,updL,fEq,eqD,fMod,atI,ixN,hn,hn2,h0]
theorem Z0c (sm:List Int) (s c:Int) (r:AH) (n:Int) (hn:0<n) (hn2:n<1073741824) (hs:0<=s) (hs2:s<2147483647) (hc:0<=c) (hc2:c<1000000) (hm:sm.length<=63):
 ∃s' d,Z6 [.ref 2,.int n] (Pool [] sm s c r)=.ok (.int d) (Pool [] sm s' (c+1) r)/\0<=d/\d<n/\0<=s'/\s'<2147483647:=by
 have k1:-18446744073709551616<c+1:=by omega
 have k2:c+1<18446744073709551616:=by omega
 have k3:-18446744073709551616<s:=by omega
 have k4:s<18446744073709551616:=by omega
 have key:∀x:Int,(∃y:Int,Z6 [.ref 2,.int n] (Pool [] sm s c r)=.ok (.int ((((s * 48271+x % 2147483629 * ((c+1) * (c+1)+1)+97 * (c+1)) % 2147483647) ^ 5) % 2147483629 / 64 % n)) (Pool [] sm ((s * 48271+x % 2147483629 * ((c+1) * (c+1)+1)+97 * (c+1)) % 2147483647) (c+1) r)) ->
  ∃s' d,Z6 [.ref 2,.int n] (Pool [] sm s c r)=.ok (.int d) (Pool [] sm s' (c+1) r)/\0<=d/\d<n/\0<=s'/\s'<2147483647:=λx ⟨_,e⟩ =>
  ⟨_,_,e,K5v _ .(1),K4x _ hn,K5v _ (by decide),K4x _ (by decide)⟩
 have p1:∀z:Int,-18446744073709551616<z % 2147483647:=λz=>by omega
 have p2:∀z:Int,z % 2147483647<18446744073709551616:=λz=>by omega
 have p3:∀z:Int,-18446744073709551616<z % 2147483629:=λz=>by omega
 have p4:∀z:Int,z % 2147483629<18446744073709551616:=λz=>by omega
 cases sm with
 | nil =>
  refine key 0 ⟨0,?_⟩;unfold Z6 runF z1x Pool z16;simp[z9,bNil,sIf,sAsg,sRet,z0p,e2,Z7,z7,aNil,eVar,fIx,seqD,getL,fLen,fGt,fCmp,fI,asB,gIx,gN,fSet,fDiv,fIC,eM1,z3H,z5e,updL,fEq,eqD,fMod,fAdd,fMul,z67,fPow,atI,ixN,hn,hn2,k1,k2,k3,k4,p1,p2,p3,p4]
 | cons m0 sm =>
  have hl:(0:Int)<(sm.length:Int)+1:=by omega
  have hi:0<=(c+1) % ((sm.length:Int)+1):=K5v _ .(1);have hi2:(c+1) % ((sm.length:Int)+1)<(sm.length:Int)+1:=K4x _ hl;obtain⟨x,hx⟩:∃x,(D.int m0::sm.map D.int)[((c+1) % ((sm.length:Int)+1)).toNat]?=.(i x):=by
   have e:(D.int m0::sm.map D.int)=(m0::sm).map D.int:=rfl;rw[e,K0i,K9 (by simp;omega)];exact⟨_,rfl⟩
  have hx2:∀hj,(D.int m0::List.map D.int sm)[((c+1) % ((sm.length:Int)+1)).toNat]'hj=D.int x:=λhj=>K19 ((K9 hj).symm.trans hx);refine key x ⟨0,?_⟩;unfold Z6 runF z1x Pool z16;simp[z9,bNil,sIf,sAsg,sRet,z0p,e2,Z7,z7,aNil,eVar,fIx,seqD,getL,fLen,fGt,fCmp,fI,asB,gIx,gN,fSet,fDiv,fIC,eM1,z3H,z5e,updL,fEq,eqD,fMod,fAdd,fMul,z67,fPow,atI,ixN,hn,hn2,k1,k2,k3,k4,p1,p2,p3,p4,hi,hi2,hl,hx,hx2]
theorem draw {k n:Int}(p:PS h k r) (hk:k<1000000) (hn:0<n) (hn2:n<1073741824):∃d h',Z6 [.ref 2,.int n] h=.ok (.int d) h'/\0<=d/\d<n/\PS h' (k+1) r:=by
 obtain⟨gr,sm,s,c,rfl,h1,h2,h3,h4,h5,h6⟩:=p;cases gr with
 | nil =>
  obtain⟨s',d,e,q1,q2,q3,q4⟩:=Z0c sm s c r n hn hn2 h1 h2 h3 .(1) h6;exact⟨d,_,e,q1,q2,[],sm,s',c+1,rfl,q3,q4,by omega,by omega,by simp,h6⟩
 | cons g0 gr =>
  simp at h5;obtain⟨gr',l,e⟩:=Z0k g0 gr sm s c r n hn hn2 .(1);exact⟨_,_,e,K5v _ .(1),K4x _ hn,gr',sm,s,c,rfl,h1,h2,h3,by omega,by omega,h6⟩
theorem z1m {k n:Int}(p:PS h k r) (hk:k<1000000) (hn:0<n) (hn2:n<1073741824) (z:∀d h',0<=d->d<n->PS h' (k+1) r->Q (.int d) h'):W (Z6 [.ref 2,.int n]) h Q:=by
 obtain⟨d,h',e,d0,d1,p'⟩:=draw p hk hn hn2;exact⟨_,_,e,z d h' d0 d1 p'⟩
theorem zo2 {ns:List Int}(hn:ns.length<=63):W (z37 [.fl (ns.map .int)]) [] (λd h'=>d=.ref 2/\PS h' 0 []):=by
 refine z1z ?_;show W (z2b [some (.fl (ns.map .int)),none]) [] _;unfold z2b z2k;rw[w_cons];simp only[K08,K07,Z5,W_pure,x8,e2,eVar,gN,sAsg];have src:∀(γ:G) (h:AH),γ[0]?=some (some (.fl (ns.map .int)))->z0c .(i) γ h=.ok (.con (ns.map .int)) h:=λγ h e=>by
  unfold z0c eVar;rw[e];rfl
 refine W.of (z4z (src:=.con (ns.map .int)) (λd=>match d with|.int t=>decide (1000000000000000000<=t)|_=>false) (λd=>d) (src _ _ rfl) (λ_=>trivial) (by simp[Src.items];omega) λd hd=>?_) ?_
 ·obtain⟨t,ht,rfl⟩:=K1g.mp hd;refine⟨[.(i t)],λh=>rfl,λj=>?_,λ_ j=>rfl⟩;simp only[K4,bindM,pureM,zL5,zB8,z0L]
 rw[show (Src.con (ns.map D.int)).items=ns.map D.int from rfl,z2W];rw[w_cons];simp only[K7,K4,K0b,Z5,W_pure,z7,aNil,z1F,eLst,eVar,sRet];refine W.of (z4z (src:=.con (ns.map .int)) (λd=>match d with|.int t=>decide (t<1000000000000000000)|_=>false) (λd=>d) (src _ _ rfl) (λ_=>trivial) (by simp[Src.items];omega) λd hd=>?_) ?_
 ·obtain⟨t,ht,rfl⟩:=K1g.mp hd;refine⟨[.(i t)],λh=>rfl,λj=>?_,λ_ j=>rfl⟩;simp only[K4,bindM,pureM,zL5,zr9,z0L]
 rw[show (Src.con (ns.map D.int)).items=ns.map D.int from rfl,z2W];refine W.of (a:=.ref 2) (h':=Pool (ns.filter λi=>decide (1000000000000000000<=i)) (ns.filter λi=>decide (i<1000000000000000000)) 5 0 []) ?_ ?_
 ·unfold newL;rw[if_pos (by simp;decide)];rfl
 ·refine⟨rfl,_,_,5,0,rfl,by decide,by decide,by decide,by decide,?_,?_⟩
  ·exact K0q (K10 _ _) hn
  ·exact K0q (K10 _ _) hn
theorem ze5 {k:Int}{start:Str}(p:PS h k r) (hk:k<900000) (lo:low start) (hs:start.length<=4) (e:r[i]?=.(l (ns.map .str))) (hn:ns.length<=7):
 W (runF 9 z1w [.ref 2,.str start,.ref (i+3)]) h (λd h'=>∃x j,d=.str x/\PS h' (k+5) (r++j)/\zm2 x/\x∉ns):=by
 refine z1z ?_;show W (z1w [.(r 2),.(s start),.(r (i+3)),none,none,none,none,none,none]) h _;unfold z1w;rw[show ("abcdefghijklmnopqrstuvwxyz":Str)=abc from rfl];rw[w_cons];simp only[K08,K07,Z5,W_pure,x8,e2,eVar,gN,sAsg];rw[w_cons];simp only[K7,K4,K08,K07,Z5,W_pure,x8,eVar,gN,sAsg];rw[w_cons];refine z13 (λc γ h=>∃x w,γ=[.(r 2),.(s start),.(r (i+3)),.(s abc),.(s x),w,none,none,none]/\PS h (k+1+c) r/\low x/\x.length<=4+c) (λ_ _=>False) ?_;simp only[K4,K01,K0b,K0p,z1o,Z5,z1k,W_pure,z7,aNil,x8,z1F,eFn,eVar,if_true];refine z1m p .(1) (by decide) (by decide) λd h1 d0 d1 p1=>?_;refine⟨d.toNat,by rw[K79 d0],by omega,⟨start,none,rfl,by simpa using p1,lo,by omega⟩,?_,?_,λ_ _ q=>q.elim⟩
 ·rintro c γ h2 hc ⟨x,w,rfl,p2,lx,hx⟩;rw[w_cons];simp only[K7,K4,K01,K0b,K08,K07,K0p,z1o,Z5,z1k,W_pure,z7,aNil,x8,e2,eFn,eVar,gN,if_true,sAsg,z78];refine z1m p2 .(1) (by decide) (by decide) λd h1 d0 d1 p1=>?_;refine z5O (k:=k) (r:=r) d0 d1 .(1) ?_;refine⟨_,_,rfl,p1.up .(1),z7i lx .(1) .(1),by rw[len_app,z4B];omega⟩
 rintro γ h2 ⟨x,w,rfl,p2,lx,hx⟩;rw[w_cons];simp only[K4,K01,K0b,K08,K07,K0p,z1o,Z5,z1k,W_pure,z7,aNil,x8,eFn,eVar,gN,if_true,sAsg];refine z1m (p2.up (show _<=k+4 by omega)) .(1) (by decide) (by decide) λl h3 l0 l1 p3=>?_;rw[w_cons];simp only[K08,K07,Z5,W_pure,z7,aNil,x8,eLst,gN,sAsg];rw[show [D.str "yes",D.str "no",D.str "not",D.str "and",D.str "or",D.str "step",D.str "some",D.str "all",D.str "next",D.str "once",D.str "ever",D.str "until",D.str "unless"]=words.map D.str from rfl];refine z5c p3 (by decide) λh4 p4=>?_;rw[w_cons];refine z13 (λc γ h=>∃w w',γ=[.(r 2),.(s start),.(r (i+3)),.(s abc),.(s x),w,.(i l),.(r (r.length+3)),w']/\PS h (k+5) (r++[.lst (words.map .str)])/\∀c':Nat,c'<c->cand x l c'∈words\/cand x l c'∈ns) (λd h=>∃c:Nat,d=.str (cand x l c)/\cand x l c∉words/\cand x l c∉ns/\PS h (k+5) (r++[.lst (words.map .str)])) ?_;rw[W_pure];refine⟨26,rfl,by decide,⟨_,_,rfl,p4.up .(1),λc' hc=>by omega⟩,?_,?_,?_⟩
 ·rintro c γ h5 hc ⟨w,w',rfl,p5,hb⟩;rw[w_cons];simp only[K7,K4,K08,K07,Z5,W_pure,z4x,x8,e2,eVar,gN,sAsg];have m1:fMod (.int (l+c)) (.int 26)=pure (.int ((l+c) % 26)):=rfl;rw[m1,W_pure];refine z5O (k:=k) (r:=r) (K5v _ (by decide)) (K4x _ (by decide)) .(1) ?_;rw[w_cons];simp only[K1f,K7,K4,Z5,z1k,W_pure,cAnd,x8,if_false,sIf,z78];refine W.of (zw0 p5 z5o) ?_;rw[z0L,W_pure];by_cases q1:cand x l c∈words
  ·have:(decide (x++{ cps:=#[((l+(c:Int)) % 26).toNat+97] }∈words) != true)=false:=by
    rw[show decide (x++{ cps:=#[((l+(c:Int)) % 26).toNat+97] }∈words)=true from decide_eq_true q1];rfl
   rw[this];simp only[K1f,if_false];refine⟨_,_,rfl,p5,λc' hc'=>?_⟩;by_cases e':c'=c
   ·subst e';exact .inl q1
   ·exact hb c' .(1)
  ·have:(decide (x++{ cps:=#[((l+(c:Int)) % 26).toNat+97] }∈words) != true)=true:=by
    rw[show decide (x++{ cps:=#[((l+(c:Int)) % 26).toNat+97] }∈words)=false from .(m) q1];rfl
   rw[this];simp only[if_true];refine W.of (zw0 p5 (J8 e)) ?_;by_cases q2:cand x l c∈ns
   ·have:(decide (x++{ cps:=#[((l+(c:Int)) % 26).toNat+97] }∈ns) != true)=false:=by
     rw[show decide (x++{ cps:=#[((l+(c:Int)) % 26).toNat+97] }∈ns)=true from decide_eq_true q2];rfl
    rw[this];simp only[K1f,W_pure,z0L,if_false];refine⟨_,_,rfl,p5,λc' hc'=>?_⟩;by_cases e':c'=c
    ·subst e';exact .inr q2
    ·exact hb c' .(1)
   ·have:(decide (x++{ cps:=#[((l+(c:Int)) % 26).toNat+97] }∈ns) != true)=true:=by
     rw[show decide (x++{ cps:=#[((l+(c:Int)) % 26).toNat+97] }∈ns)=false from .(m) q2];rfl
    rw[this];simp only[W_pure,z0L,if_true];rw[w_cons];simp only[K7,K4,Z5,W_pure,z1F,eVar,sRet];exact⟨c,rfl,q1,q2,p5⟩
 ·rintro γ h5 ⟨w,w',rfl,p5,hb⟩;exact(zU5 l0 hn hb).elim
 ·rintro d h5 ⟨c,rfl,q1,q2,p5⟩;refine⟨cand x l c,[.lst (words.map .str)],rfl,p5,⟨?_,?_,?_,q1⟩,q2⟩
  ·unfold cand;rw[len_app,z4B];omega
  ·unfold cand;rw[len_app,z4B];omega
  ·exact z7i lx .(1) .(1)
theorem zn7 {k:Int}{start:Str}(p:PS h k r) (c:CL r) (hk:k<900000) (lo:low start) (hs:start.length<=4) (e:r[i]?=.(l (ns.map .str))) (hn:ns.length<=7):
 W (z2Y [.ref 2,.str start,.ref (i+3)]) h (λd h'=>∃x,d=.str x/\PS h' (k+5) r/\zm2 x/\x∉ns) :=
 zh6 p c ((ze5 p hk lo hs e hn).mono λd h1 ⟨x,j,e,p1,g,n⟩=>⟨_,j,p1,by subst e;rfl,λh2 p2=>⟨x,e,p2,g,n⟩⟩)
theorem zj1 {k:Int}(p:PS h k r) (cl:CL r) (hk:k<800000) (hn:n<=8) (z:∀ns h',ns.length=n->NS ns->PS h' (k+45) (r++[.lst (ns.map .str)])->Q (.ref (r.length+3)) h'):
 W (z2o [.ref 2,.int n]) h Q:=by
 refine zY5 p cl ?_;refine z1z ?_;show W (z1G [.(r 2),.(i n),none,none,none,none]) h _;unfold z1G;rw[show ("abcdefghijklmnopqrstuvwxyz":Str)=abc from rfl];refine z7b (.str abc) _ rfl rfl ?_;refine z7b (.str "") _ rfl rfl ?_;rw[w_cons];refine z13 (λc γ h=>∃x w,γ=[.(r 2),.(i n),.(s abc),.(s x),w,none]/\PS h (k+1+c) r/\low x/\x.length<=c) (λ_ _=>False) ?_;refine zl3 p cl ?_;simp only[K4,K01,K0b,K08,K07,K0p,z1o,Z5,z1k,W_pure,z7,aNil,x8,z1F,e2,eFn,eLst,eVar,if_true];refine z5c p (by decide) λh1 p1=>?_;refine z1m p1 .(1) (by decide) (by decide) λd h2 d0 d1 p2=>?_;obtain⟨v,hv,ea⟩:∃v:Nat,v<=4/\atI [D.int 0,D.int 0,D.int 1,D.int 4] d=.(i v):=by
  have:d=0\/d=1\/d=2\/d=3:=by omega
  rcases this with rfl|rfl|rfl|rfl
  ·exact⟨0,by decide,rfl⟩
  ·exact⟨0,by decide,rfl⟩
  ·exact⟨1,by decide,rfl⟩
  ·exact⟨4,by decide,rfl⟩
 refine zO7 p2 z5o ea ?_;refine⟨_,_,p2,rfl,λh2 p2=>⟨v,rfl,by omega,⟨_,none,rfl,by simpa using p2,zy1,by rw[zF5];omega⟩,?_,?_,λ_ _ q=>q.elim⟩⟩
 ·rintro c γ h3 hc ⟨x,w,rfl,p3,lx,hx⟩;rw[w_cons];simp only[K7,K4,K01,K0b,K08,K07,K0p,z1o,Z5,z1k,W_pure,z7,aNil,x8,e2,eFn,eVar,gN,if_true,sAsg,z78];refine z1m p3 .(1) (by decide) (by decide) λd h1 d0 d1 p1=>?_;refine z5O (k:=k) (r:=r) d0 d1 .(1) ?_;refine⟨_,_,rfl,p1.up .(1),z7i lx .(1) .(1),by rw[len_app,z4B];omega⟩
 rintro γ h3 ⟨x,w,rfl,p3,lx,hx⟩;refine z4s ?_;simp only[K08,K07,Z5,W_pure,aNil,eLst];refine z5c p3 (by decide) λh4 p4=>?_;rw[w_cons];refine z13 (λc γ h=>∃ns w,γ=[.(r 2),.(i n),.(s abc),.(s x),w,.(r (r.length+3))]/\PS h (k+5+5 * c) (r++[.lst (ns.map .str)])/\ns.length=c/\NS ns) (λ_ _=>False) ?_;simp only[K7,K4,W_pure,x8,z1F,eVar];refine⟨n,rfl,by omega,⟨[],_,rfl,p4.up .(1),rfl,⟨K43,by simp⟩⟩,?_,?_,λ_ _ q=>q.elim⟩
 ·rintro c γ h5 hc ⟨ns,w,rfl,p5,l5,n5⟩;rw[w_cons];simp only[K7,K4,K01,K0b,K08,K07,K0p,z5B,z1o,Z5,z1k,W_pure,z7,aNil,x8,eFn,eM1,eVar,if_true,z0p,z78];refine z6e p5 z5o ?_;refine(zn7 p5 (cl.put (z2m ns)) .(1) lx .(1) z5o .(1)).mono λy h6 ⟨z,ey,p6,gz,nz⟩=>?_;subst ey;refine z80 p6 z5o (by simp;omega) λh7 p7=>?_;refine⟨ns++[z],_,rfl,?_,by simp[l5],⟨?_,?_⟩⟩
  ·have:=p7.up (k':=k+5+5 * ((c+1:Nat):Int)) .(1);simpa using this
  ·rw[K1c];refine⟨n5.1,by simp,λa ha b hb=>?_⟩;simp at hb;subst hb;exact λe=>nz (e ▸ ha)
  ·intro y hy;rcases K00.mp hy with q|q
   ·exact n5.2 y q
   ·simp at q;subst q;exact gz
 ·rintro γ h5 ⟨ns,w,rfl,p5,l5,n5⟩;exact zo3 _ rfl ⟨k+45,_,r.length,_,rfl,p5.up .(1),K04 _,z5o,z2m ns,λh2 p2=>z ns h2 l5 n5 p2⟩
theorem zs4 {x:D}(e:seqD x h=.ok (stD l) h) (hl:l.length<=2000) (hd:(setN l).length<64):z1h [x] h=.ok (.tup (stD (setN l))) h:=by
 have dl:(dedN l).length=(setN l).length:=by unfold setN;rw[z2y]
 have e1:z1X [x] h=.ok (.ref .(g)) (h++[.set (kN (dedN l))]):=by
  unfold z1X;dsimp only;rw[M.bind_ok e,z7B];dsimp only;rw[if_pos (by rw[zj5];omega),zx1];rfl
 have e2:z0R [.ref .(g)] (h++[.set (kN (dedN l))])=.ok (.ref (.(g)+1)) (h++[.set (kN (dedN l)),.lst (stD (setN l))]):=by
  unfold z0R;dsimp only;have g:getS .(g) (h++[.set (kN (dedN l))])=.ok (kN (dedN l)) (h++[.set (kN (dedN l))]):=by
   unfold getS;rw[show (h++[O.set (kN (dedN l))])[h.length]?=some (.set (kN (dedN l))) by simp]
  rw[M.bind_ok g,z7G];dsimp only;rw[if_pos (by unfold zN;rw[K0d];omega),z4A];unfold newL;rw[if_pos (by rw[y6,z2y];unfold sizeLine;omega)];simp[setN]
 have e3:J7 [.ref (.(g)+1)] (h++[.set (kN (dedN l)),.lst (stD (setN l))])=.ok (.tup (stD (setN l))) (h++[.set (kN (dedN l)),.lst (stD (setN l))]):=by
  have ft:∀i:Nat,J7 [.ref i]=(do let x <- getL i;pure (.tup x)):=λ_=>rfl;rw[ft];have g:getL (.(g)+1) (h++[.set (kN (dedN l)),.lst (stD (setN l))])=.ok (stD (setN l)) (h++[.set (kN (dedN l)),.lst (stD (setN l))]):=by
   unfold getL;rw[show (h++[O.set (kN (dedN l)),O.lst (stD (setN l))])[h.length+1]?=.(l ((stD (setN l)))) by simp]
  rw[M.bind_ok g];rfl
 have e4:clE (Z7 J7 (z7 (Z7 z0R (z7 (Z7 z1X (z7 .(i) aNil)) aNil)) aNil)) [some x] h=.ok (.tup (stD (setN l))) h:=by
  refine z0u (j:=[.set (kN (dedN l)),.lst (stD (setN l))]) ?_ (by simp only[J2];exact J9 λ_=>rfl);exact J0 (J0 (J0 (show eVar 0 [some x] h=.ok x h from rfl) e1) e2) e3
 have e5:runF 1 z4i [x] h=.ok (.tup (stD (setN l))) h:=z2V (Y2 (h1:=h) _ e4 ⟨rfl,rfl⟩);show cln (runF 1 z4i [x]) h=_;refine z0u (j:=[]) (by rw[K13];exact e5) (by simp only[J2];exact J9 λ_=>rfl)
theorem z8m (e:h[n]?=.(l (stD l))) (hl:l.length<=2000) (hd:(setN l).length<64):z1h [.ref n] h=.ok (.tup (stD (setN l))) h:=zs4 (by unfold seqD getL;dsimp only;rw[e]) hl hd
noncomputable def rowI:G->M Src:=z0c (e2 z1N .(i) (eVar 5))
def tkH (h:AH) (n:Nat) (T S P wt:List Nat):AH:=h.set n (.dK (kvN (T++S)))++[.lst (stD P),.lst (stD wt)]
section
variable {S P wt:List Nat}(hn:n<h.length)
include hn
theorem tk_n:(tkH h n T S P wt)[n]?=some (.dK (kvN (T++S))):=by
 unfold tkH;rw[K11 (by simpa using hn),K1o hn]
omit hn in
theorem tk_p:(tkH h n T S P wt)[h.length]?=.(l (stD P)):=by
 unfold tkH;rw[K0e .(f)];simp
omit hn in
theorem tk_w:(tkH h n T S P wt)[h.length+1]?=.(l (stD wt)):=by
 unfold tkH;rw[K0e .(f)];simp
theorem zC4:(tkH h n T S P wt).set n (.dK (kvN (T++S++[x])))=tkH h n T (S++[x]) P wt:=by
 unfold tkH;rw[K4d _ _ (by simpa using hn),List.set_set,K05]
omit hn in
theorem zB3 {P':List Nat}:(tkH h n T S P wt).set h.length (.lst (stD P'))=tkH h n T S P' wt:=by
 unfold tkH;rw[K0t _ _ .(f)];simp
omit hn in
theorem z9V {wt':List Nat}:(tkH h n T S P wt).set (h.length+1) (.lst (stD wt'))=tkH h n T S P wt':=by
 unfold tkH;rw[K0t _ _ .(f)];simp
omit hn in
theorem zg7 (hi:i<h.length) (ne:i≠n):(tkH h n T S P wt)[i]?=h[i]?:=by
 unfold tkH;rw[K11 (by simpa using hi),K29 (K4y ne)]
end
theorem zN2 {ld:D}(hT:h[n]?=some (.dK (kvN T))) (xT:x∉T) (nT:T.Nodup) (lT:∀a∈T,a<N) (hN:N<=60) (ln:∀a,∀b∈nx st a,b<N) (hx:x<N)
 (hrow:∀h1:AH,(∀i,i<.(g)->i≠n->h1[i]?=h[i]?)->∀a,RchT st T x a->∀p w b,∃src,rowI [some ld,.(i x),.(r n),p,w,.(i a),b] h1=.ok src h1/\src.items=stD (nx st a)/\∀h2:AH,(∀i,i<.(g)->i≠n->h2[i]?=h[i]?)->src.good h2) :
 ∃S,z39 [ld,.int x,.ref n] h=.ok (.tup (stD (setN S))) (h.set n (.dK (kvN (T++S))))/\FndT st T x S/\∀a∈S,∀b∈nx st a,b∈S\/b∈T:=by
 have hn:n<h.length:=by
  by_cases q:n<.(g)
  ·exact q
  ·rw[K1i .(1)]at hT;cases hT
 have lT':T.length<=N:=z0Y nT lT;have lS:∀{S},FndT st T x S->S.length<=N:=λf=>z0Y f.nd λa ha=>zg2 ln hx (f.rc a ha)
 suffices z:W (runF 7 z0P [ld,.int x,.ref n]) h λd h1=>∃S P,d=.tup (stD (setN S))/\h1=tkH h n T S P []/\FndT st T x S/\∀a∈S,∀b∈nx st a,b∈S\/b∈T by
  obtain⟨d,h1,e,S,P,rfl,rfl,f,c⟩:=z;refine⟨S,?_,f,c⟩;show cln (runF 7 z0P [ld,.int x,.ref n]) h=_;unfold cln;rw[e];have kp:.(g)<=(tkH h n T S P []).length/\Kept h (tkH h n T S P []):=by
   refine⟨by unfold tkH;simp,λi o li eo=>?_⟩;by_cases q:i=n
   ·subst q;rw[tk_n hn]at eo;cases eo;refine .inr ?_;simp only[refO];unfold kvN;rw[K1h];exact J9 λ_=>rfl
   ·rw[zg7 li q]at eo;exact .inl eo
  dsimp only;rw[if_pos kp];have r1:J2 h.length (.tup (stD (setN S)))=true:=by simp only[J2];exact J9 λ_=>rfl
  rw[if_pos r1];congr 1;unfold tkH;rw[K2v .(f),K6k .(f)]
 refine z1z ?_;show W (z0P [some ld,.(i x),.(r n),none,none,none,none]) h _;unfold z0P;refine zu4 rfl rfl hT xT .(1) ?_;refine zl7 (xs:=[]) .(f) (λh=>rfl) ?_;refine zl7 (xs:=[.int x]) .(f) (λh=>rfl) ?_;rw[show h.set n (O.dK (kvN (T++[x])))++[O.lst []]++[O.lst [D.int x]]=tkH h n T [x] [] [x] by unfold tkH;rw[K05];rfl];rw[show (h.set n (O.dK (kvN (T++[x])))++[O.lst []]).length=h.length+1 by simp,show (h.set n (O.dK (kvN (T++[x])))).length=h.length by simp];refine z23 (λγ h'=>∃S P a b,γ=[some ld,.(i x),.(r n),.(r .(g)),.(r (.(g)+1)),a,b]/\h'=tkH h n T S P []/\FndT st T x S/\(∀a,a∈S↔a∈P)/\P.length=S.length/\∀a∈S,∀b∈nx st a,b∈S\/b∈T) ?_ ?_
 ·refine z0v (λm γ h'=>∃S P wt a b,γ=[some ld,.(i x),.(r n),.(r h.length),.(r (h.length+1)),a,b]/\h'=tkH h n T S P wt/\FndT st T x S/\(∀a,a∈S↔a∈P\/a∈wt)/\P.length+wt.length=S.length/\(∀a∈S,a∈wt\/∀b∈nx st a,b∈S\/b∈T)/\m+P.length=N) _ _ ?_ 1000000 N _ _ .(1) ⟨[x],[],[x],none,none,rfl,rfl,FndT.one xT,by simp,rfl,by simp,by simp⟩;rintro m γ h4 ⟨S,P,wt,a,b,rfl,rfl,fn,mem,len,cl,me⟩;have sl:=lS fn;refine W_of (z6X rfl tk_w) ?_;cases hw:wt.reverse with
  | nil =>
   have:wt=[]:=by simpa using hw
   subst this;rw[if_neg (by simp[stD])];exact⟨S,P,a,b,rfl,rfl,fn,λa=>by simpa using mem a,by simpa using len,λa ha=>by simpa using cl a ha⟩
  | cons y yr =>
   obtain⟨wr,rfl⟩:∃wr,wt=wr++[y]:=⟨yr.reverse,by rw[<- K70 wt,hw];simp⟩;rw[if_pos (by simp[stD])];simp at len;have yS:y∈S:=(mem y).mpr (.inr .(f));refine⟨m - 1,by omega,?_⟩;refine zs5 (i:=.(g)+1) (xs:=stD wr) (v:=.int y) rfl (by rw[z19];exact tk_w) (by rw[y6];omega) ?_;rw[z9V];refine z1D (i:=.(g)) (xs:=stD P) (v:=.int y) rfl tk_p (by rw[y6];omega) rfl ?_;rw[z19,zB3];refine z23 (λγ h'=>∃S wt b,γ=[some ld,.(i x),.(r n),.(r .(g)),.(r (.(g)+1)),.(i y),b]/\h'=tkH h n T S (P++[y]) wt/\FndT st T x S/\(∀a,a∈S↔a∈P++[y]\/a∈wt)/\P.length+1+wt.length=S.length/\(∀a∈S,a∈wt\/a=y\/∀b∈nx st a,b∈S\/b∈T)/\∀b∈nx st y,b∈S\/b∈T) ?_ ?_
   ·refine z07 (λc γ h'=>∃S wt b,γ=[some ld,.(i x),.(r n),.(r .(g)),.(r (.(g)+1)),.(i y),b]/\h'=tkH h n T S (P++[y]) wt/\FndT st T x S/\(∀a,a∈S↔a∈P++[y]\/a∈wt)/\P.length+1+wt.length=S.length/\(∀a∈S,a∈wt\/a=y\/∀b∈nx st a,b∈S\/b∈T)/\∀i b,i<c->(nx st y)[i]?=some b->b∈S\/b∈T) (λ_ _=>False) ?_;obtain⟨src,e1,e2,e3⟩:=hrow (tkH h n T S (P++[y]) wr) (λi hi ne=>zg7 hi ne) y (fn.rc y yS) (.(r .(g))) (.(r (.(g)+1))) b;refine W_of e1 ?_;rw[e2];refine⟨⟨S,wr,b,rfl,rfl,fn,λa=>?_,by omega,λa ha=>?_,λi b hi=>by omega⟩,?_,?_,?_,λ_ _ q=>q.elim⟩
    ·rw[mem a];simp only[K00,K0j];constructor
     ·rintro(q|q|q)
      ·exact .inl (.inl q)
      ·exact .inr q
      ·exact .inl (.inr q)
     ·rintro((q|q)|q)
      ·exact .inl q
      ·exact .inr (.inr q)
      ·exact .inr (.inl q)
    ·rcases cl a ha with q|q
     ·rcases K00.mp q with q|q
      ·exact .inl q
      ·simp at q;exact .inr (.inl q)
     ·exact .inr (.inr q)
    ·rintro i γ h' ⟨S,wt,b,rfl,rfl,_⟩;exact e3 _ λi hi ne=>zg7 hi ne
    ·rintro c d γ h6 hd ⟨S,wt,b,rfl,rfl,fn,mem,len,cl,hc⟩;obtain⟨e,rfl,he⟩:=z2w hd;have en:e∈nx st y:=K0s he;have yS:y∈S:=(mem y).mpr (.inl .(f));have sl:=lS fn;refine W_of (show gN 6 (.int e) [some ld,.(i x),.(r n),.(r .(g)),.(r (.(g)+1)),.(i y),b] _=.ok [some ld,.(i x),.(r n),.(r .(g)),.(r (.(g)+1)),.(i y),.(i e)] _ from rfl) ?_;have f1:FT.e2 (fInD true) (eVar 6) (eVar 2) [some ld,.(i x),.(r n),.(r .(g)),.(r (.(g)+1)),.(i y),.(i (e:Int))] (tkH h n T S (P++[y]) wt)=.ok (.bl (decide (e∈T++S) != true)) (tkH h n T S (P++[y]) wt):=by
      exact z9a (tk_n hn)
     refine z2r _ (cb_h f1) ?_;by_cases eS:e∈T++S
     ·rw[decide_eq_true eS];rw[if_neg (by decide)];refine z0f (y4 ⟨S,wt,_,rfl,rfl,fn,mem,len,cl,λi b hi hb=>?_⟩);by_cases ic:i=c
      ·subst ic;rw[he]at hb;cases hb;exact(K00.mp eS).symm
      ·exact hc i b .(1) hb
     ·rw[.(m) eS];rw[if_pos (by decide)];have eT:e∉T:=λq=>eS (K0l _ q);have eS':e∉S:=λq=>eS (K0z _ q);have fn2:=fn.put yS en eS' eT;have sl2:=lS fn2;simp at sl2;refine z1u ?_;refine zu4 (l:=T++S) (x:=e) rfl rfl (tk_n hn) eS (by simp;omega) ?_;rw[zC4 hn];refine z1u ?_;refine z1D (i:=.(g)+1) (xs:=stD wt) (v:=.int e) rfl tk_w (by rw[y6];omega) rfl ?_;rw[z19,z9V];refine z0f (y4 ⟨S++[e],wt++[e],_,rfl,rfl,fn2,λa=>?_,by simp;omega,λa ha=>?_,λi b hi hb=>?_⟩)
      ·rw[K00,mem a,K00 (s:=wt)];exact or_assoc
      ·rcases K00.mp ha with q|q
       ·rcases cl a q with q|q|q
        ·exact .inl (K0l _ q)
        ·exact .inr (.inl q)
        ·exact .inr (.inr λb hb=>(q b hb).imp (K0l _) id)
       ·exact .inl (K0z _ q)
      ·by_cases ic:i=c
       ·subst ic;rw[he]at hb;cases hb;exact .inl .(f)
       ·exact(hc i b .(1) hb).imp (K0l _) id
    ·rintro γ h6 ⟨S,wt,b,rfl,rfl,fn,mem,len,cl,hc⟩;refine⟨S,wt,b,rfl,rfl,fn,mem,len,cl,λb hb=>?_⟩;obtain⟨i,hi,e⟩:=K1m hb;exact hc i b (by simpa [y6] using hi) (by rw[<- e];exact K9 hi)
   ·rintro γ h6 ⟨S,wt,b,rfl,rfl,fn,mem,len,cl,all⟩;have sl:=lS fn;refine y4 ⟨m - 1,K04 _,S,P++[y],wt,_,_,rfl,rfl,fn,mem,by simp;omega,λa ha=>?_,by simp;omega⟩;rcases cl a ha with q|q|q
    ·exact .inl q
    ·subst q;exact .inr all
    ·exact .inr q
 ·rintro γ h4 ⟨S,P,a,b,rfl,rfl,fn,mem,len,cl⟩;have sl:=lS fn;have sz:setN P=setN S:=zo8 λx=>(mem x).symm;have lz:(setN S).length<=N:=zq4 λa ha=>zg2 ln hx (fn.rc a ha);refine Y2 (h1:=tkH h n T S P []) (.tup (stD (setN S))) ?_ ⟨S,P,rfl,rfl,fn,cl⟩;have e1:z1h [.ref .(g)] (tkH h n T S P [])=.ok (.tup (stD (setN P))) (tkH h n T S P []):=z8m tk_p .(1) (by rw[sz];omega);rw[sz]at e1;simp only[K7,K4,K01,K0b,K0p,z7,aNil,x6,eFn,eVar,if_true];exact e1
theorem zY1 {ss:List Str}(hn:NS ns) (hl:ns.length<=8) (s:ss.Sublist ns):MK (z2n ss) :=
 ⟨by rw[z6c];exact K0q s.length_le hl,λx hx=>hn.2 _ (s.subset (sortS_mem.mp hx)),z9j (s.nodup hn.1)⟩
theorem z9t {k:Int}{dn:Int}(p:PS h k r) (hk:k<900000) (hm:m<=40) (e0:γ[0]?=some (.(r 2))) (e3:γ[3]?=some (.(i m))) (e4:γ[4]?=some (.(i dn))) (z:∀l h',l.Pairwise (·<·)->(∀x∈l,x<m)->PS h' (k+m) r->Q (.tup (stD l)) h'):
 W (clE (Z7 J7 (z7 (z0j [some 0,some 4,none] (z0b (eVar 3)) (gN 2) (λγ=>do let d <- e2 fLt (eFn 2 Z6 (z7 .(i) (z7 (λ_=>pure (.int 6)) aNil))) .(j) γ;asB d) (eVar 2)) aNil)) γ) h Q:=by
 refine zl3 p trivial ?_;simp only[Z5,W_pure,z7,aNil,e2,Z7,eFn,eVar];refine zj9 (r:=r) (l:=[]) (λc xs k'=>∃l:List Nat,xs=stD l/\l.Pairwise (·<·)/\(∀x∈l,x<c)/\l.length<=c/\k'=k+c) ?_;refine W.of (z1t (n:=m) (by dsimp only[eVar];rw[e3];rfl) .(1)) ?_;refine⟨_,by simpa using p,⟨[],rfl,by simp,by simp,by simp,by simp⟩,λ_ _ _ _=>trivial,?_,?_⟩
 ·rintro c d h6 k6 xs hd ⟨l,rfl,l1,l2,l3,rfl⟩ p6;obtain⟨rfl,hc⟩:=z4E hd;simp only[capG,K0v,K2a,e0,e4,K3d,K8i];simp only[K7,K4,K01,K0b,K08,K07,K0p,z1o,Z5,z1k,W_pure,eVar,gN,if_true];refine z1m p6 .(1) (by decide) (by decide) λt h7 t0 t1 p7=>?_;simp only[W_pure,z0L,zr9];by_cases q:t<dn
  ·rw[decide_eq_true q];simp only[if_true];refine⟨_,p7,by rw[y6];omega,l++[c],(z19 _ _),?_,?_,by simp;omega,by omega⟩
   ·rw[K71];exact⟨l1,by simp,λa ha b hb=>by simp at hb;subst hb;exact l2 a ha⟩
   ·intro x hx;rcases K00.mp hx with q|q
    ·have:=l2 x q;omega
    ·simp at q;omega
  ·rw[.(m) q];simp only[K1f,if_false];exact⟨_,p7,l,rfl,l1,λx hx=>by have:=l2 x hx;omega,by omega,by omega⟩
 rintro h6 xs k6 ⟨l,rfl,l1,l2,l3,rfl⟩ p6;rw[show (Src.con (z1q m)).items.length=m by simp[Src.items,z1q]]at l2 p6;exact z59 (i:=0) p6 rfl ⟨_,_,p6,z15 l,λh7 p7=>z l h7 l1 l2 p7⟩
theorem z9q {k:Int}(p:PS h k r) (hk:k<900000) (e:r[i]?=.(l (ns.map .str))) (hn:ns.length<=8) (hg:NS ns) (e0:γ[0]?=some (.(r 2))) (e1:γ[1]?=some (.(r (i+3)))) (z:∀ss h',MK ss->PS h' (k+ns.length) r->Q (.tup (ss.map .str)) h'):
 W (clE (Z7 J7 (z7 (Z7 z38 (z7 (z0j [some 0,none] (z0c .(j)) (gN 1) (λγ=>do let d <- e2 (fEq false) (eFn 2 Z6 (z7 .(i) (z7 (λ_=>pure (.int 2)) aNil))) .(e) γ;asB d) .(j)) aNil)) aNil)) γ) h Q:=by
 refine zl3 p trivial ?_;simp only[Z5,W_pure,z7,aNil,e2,Z7,eFn,eVar];refine zj9 (r:=r) (l:=[]) (λc xs k'=>∃ss:List Str,xs=ss.map .str/\ss.Sublist (ns.take c)/\k'=k+c) ?_;have sr:z0c .(j) γ h=.ok (.lst (i+3) (ns.map .str)) h:=by
  have g:getL (i+3) h=.ok (ns.map .str) h:=by unfold getL;rw[p.get,e]
  unfold z0c eVar;rw[e1];show (getL (i+3) >>= λxs=>pure (Src.lst (i+3) xs)) h=_;rw[M.bind_ok g];rfl
 refine W.of sr ?_;refine⟨_,by simpa using p,⟨[],rfl,by simp,by simp⟩,λh' k' xs' ph=>?_,?_,?_⟩
 ·show h'[i+3]?=_;rw[ph.get,J8 e]
 ·rintro c d h9 k9 xs' hd ⟨ss,rfl,ls,rfl⟩ p9;have hd':(ns.map D.str)[c]?=some d:=hd;rw[K0i]at hd';obtain⟨y,ey,rfl⟩:=K16.mp hd';obtain⟨lc,ey'⟩:=K02.mp ey;have tk:ns.take (c+1)=ns.take c++[y]:=by rw[<- ey',K2i lc]
  have l8:ss.length<=8:=K0q ls.length_le (by rw[K2d];omega);simp only[capG,K0v,K2a,e0,e1,K3d,K8i];simp only[K7,K4,K01,K0b,K08,K07,K0p,z1o,Z5,z1k,W_pure,eVar,gN,if_true];refine z1m p9 .(1) (by decide) (by decide) λt h10 t0 t1 p10=>?_;simp only[W_pure,z0L,z6C];by_cases q:t=1
  ·rw[decide_eq_true q];simp only[K4r,Bool.true_bne,if_true];exact⟨_,p10,by simp;omega,ss++[y],by simp,by rw[tk];exact ls.append (K7w _),by omega⟩
  ·rw[.(m) q];simp only[Bool.false_bne,K1f,if_false];exact⟨_,p10,ss,rfl,by rw[tk];exact ls.trans (List.sublist_append_left _ _),by omega⟩
 rintro h9 xs' k9 ⟨ss,rfl,ls,rfl⟩ p9;rw[show (Src.lst (i+3) (ns.map D.str)).items.length=ns.length by simp[Src.items]]at ls p9;rw[K1v]at ls;have l8:ss.length<=8:=K0q ls.length_le hn;refine W_of (zz3 (ss:=ss) (h:=h9) (by rw[p9.get,show r.length+([]:AH).length=r.length+0 from rfl,at_E];rfl) .(1)) ?_;have p11:=p9.app [.lst ((z2n ss).map .str)];rw[K05]at p11;rw[show h9.length=r.length+1+3 by rw[p9.len];simp];exact z59 (i:=1) p11 rfl ⟨_,_,p11,by simp only[J2];exact z2m _,λh12 p12=>z (z2n ss) h12 (zY1 hg hn ls) p12⟩
theorem zg0 {k:Int}{most:Nat}(p:PS h k r) (hk:k<700000) (hm0:1<=most) (hm:most<=40) (e:r[i]?=.(l (ns.map .str))) (hn:ns.length<=8) (hg:NS ns) (z:∀st mk h',MA st mk->st.length<=most->PS h' (k+2000) r->Q .(7) h'):
 W (z1Q [.ref 2,.ref (i+3),.int most]) h Q:=by
 refine zh6 p trivial ?_;refine z1z ?_;show W (z0S [.(r 2),.(r (i+3)),.(i most),none,none,none,none,none]) h _;unfold z0S;refine z2l (λd h1=>∃m:Nat,1<=m/\m<=most/\d=.int m/\PS h1 (k+1) r) ?_ ?_
 ·simp only[K7,K4,K01,K0b,K0p,z1o,Z5,z1k,W_pure,z7,aNil,e2,eFn,eVar,if_true];refine z1m p .(1) .(1) .(1) λd h1 d0 d1 p1=>?_;rw[z4x,W_pure];exact⟨(1+d).toNat,by omega,by omega,by rw[K79 .(1)],p1⟩
 rintro _ h1 ⟨m,m1,m2,rfl,p1⟩;refine z2l (λd h1=>∃t:Int,d=.int t/\PS h1 (k+2) r) ?_ ?_
 ·simp only[K4,K01,K0b,K08,K07,K0p,z1o,Z5,z1k,W_pure,z7,aNil,e2,eFn,eVar,if_true];refine z1m p1 .(1) (by decide) (by decide) λd h1 d0 d1 p1=>?_;rw[z4x,W_pure];exact⟨_,rfl,p1.up .(1)⟩
 rintro _ h3 ⟨dn,rfl,p3⟩;refine z2l (λd h1=>d=.ref (r.length+3)/\PS h1 (k+2) (r++[.lst (stsD [])])) ?_ ?_
 ·simp only[Z5,W_pure,aNil,eLst];exact z5c p3 (by decide) λh4 p4=>⟨rfl,p4⟩
 rintro _ h4 ⟨rfl,p4⟩;refine z2l (λd h1=>d=.ref (r.length+1+3)/\PS h1 (k+2) (r++[.lst (stsD []),.lst (mksD [])])) ?_ ?_
 ·simp only[Z5,W_pure,aNil,eLst];exact z5c p4 (by decide) λh5 p5=>⟨by simp,by rw[K05]at p5;exact p5⟩
 rintro _ h5 ⟨rfl,p5⟩;refine z23 (λγ h=>∃st mk w,γ=[.(r 2),.(r (i+3)),.(i most),.(i m),.(i dn),.(r (r.length+0+3)),.(r (r.length+1+3)),w]/\PS h (k+2000) (r++[.lst (stsD st),.lst (mksD mk)])/\st.length=m/\mk.length=m/\AM st mk m) ?_ ?_
 ·refine z13 (λc γ h=>∃st mk w,γ=[.(r 2),.(r (i+3)),.(i most),.(i m),.(i dn),.(r (r.length+0+3)),.(r (r.length+1+3)),w]/\PS h (k+2+48 * c) (r++[.lst (stsD st),.lst (mksD mk)])/\st.length=c/\mk.length=c/\AM st mk m) (λ_ _=>False) ?_;simp only[K7,K4,K08,K07,W_pure,z7,aNil,e2,eFn,eVar];refine⟨m,rfl,by omega,⟨[],[],_,rfl,p5.up .(1),rfl,rfl,by simp,by simp,by simp⟩,?_,?_,λ_ _ q=>q.elim⟩
  ·rintro c γ h6 hc ⟨st,mk,w,rfl,p6,l1,l2,am⟩;refine zw9 (i:=0) rfl p6 rfl (by simp[stsD];omega) (λv k'=>∃l:List Nat,v=.tup (stD l)/\l.Pairwise (·<·)/\(∀x∈l,x<m)/\k'=k+2+48 * c+m) ?_ ?_
   ·exact z9t p6 .(1) .(1) rfl rfl rfl λl h' q1 q2 p7=>⟨_,p7,l,rfl,q1,q2,rfl⟩
   rintro _ _ h7 ⟨l,rfl,q1,q2,rfl⟩ p7;rw[K07,show stsD st++[D.tup (stD l)]=stsD (st++[l]) by simp[stsD]]at p7;refine zw9 (i:=1) rfl p7 rfl (by simp[mksD];omega) (λv k'=>∃ss:List Str,v=.tup (ss.map .str)/\MK ss/\k'=k+2+48 * c+m+ns.length) ?_ ?_
   ·exact z9q p7 .(1) (J8 e) hn hg rfl rfl λss h' q1 p8=>⟨_,p8,ss,rfl,q1,rfl⟩
   rintro _ _ h8 ⟨ss,rfl,q3,rfl⟩ p8;rw[K08,K07,show mksD mk++[D.tup (ss.map .str)]=mksD (mk++[ss]) by simp[mksD]]at p8;refine y4 ⟨_,_,_,rfl,p8.up .(1),by simp[l1],by simp[l2],?_,?_,?_⟩
   ·intro l hl;rcases K00.mp hl with q|q
    ·exact am.1 l q
    ·simp at q;subst q;exact q1
   ·intro l hl;rcases K00.mp hl with q|q
    ·exact am.2.1 l q
    ·simp at q;subst q;exact q2
   ·intro l hl;rcases K00.mp hl with q|q
    ·exact am.2.2 l q
    ·simp at q;subst q;exact q3
  ·rintro γ h6 ⟨st,mk,w,rfl,p6,l1,l2,am⟩;exact⟨st,mk,w,rfl,p6.up .(1),l1,l2,am⟩
 ·rintro γ h6 ⟨st,mk,w,rfl,p6,l1,l2,am⟩;refine zu7 (λd h1=>d=maD st mk/\h1=h6) ?_ ?_
  ·simp only[K7,K4,K01,K0b,K0p,z1o,Z5,z1k,W_pure,z7,aNil,Z7,eTup,eVar];refine z59 (i:=0) p6 rfl ?_;refine z59 (i:=1) p6 rfl ?_;rw[if_pos (by decide)];exact⟨rfl,rfl⟩
  rintro _ _ ⟨rfl,rfl⟩;refine⟨_,_,p6,?_,λh2 q2=>z st mk h2 ⟨by omega,by omega,by omega,am.1,by rw[l1];exact am.2.1,am.2.2⟩ .(1) q2⟩;unfold maD stsD mksD;simp only[J2,y8,Bool.and_true,K0k];exact⟨J9 λa=>z15 a,J9 λa=>by simp only[J2];exact z2m _⟩
theorem z8T (h2:i<n):z25 [.int i,.int 0,.int n]=pure (.bl true):=by
 have h1:(0:Int)<=i:=by omega
 have h3:(i:Int)<n:=by omega
 show cln (runF 3 z0H [.int i,.int 0,.int n])=_;rw[z35 (d:=.bl true),z2i];show z0H [.(i i),.(i 0),.(i n)]=_;unfold z0H;refine z9J _ ?_;simp only[K7,K4,z0L,x6,decide_eq_true h1,decide_eq_true h3,e3,eAnd,eIsi,eNot,eVar,if_true,zj4,zo4,zr9];rfl
theorem zG4 (h0:m<=xs.length) (h1:xs.length<=n):z1A [.tup xs,.int m,.int n]=pure (.bl true):=by
 have h2:(xs.length:Int)<=n:=by omega
 have h3:(m:Int)<=xs.length:=by omega
 show cln (runF 3 z12 [.tup xs,.int m,.int n])=_;rw[z35 (d:=.bl true),z2i];show z12 [.(g xs),.(i m),.(i n)]=_;unfold z12;refine z9J _ ?_;simp only[K7,K4,z7,aNil,z0L,x6,decide_eq_true h2,decide_eq_true h3,e3,eAnd,Z7,eIsi,eVar,if_true,z9R,zo4,z33];rfl
theorem zB1 (h1:xs.length<=n):z1A [.tup xs,.int 0,.int n]=pure (.bl true):=zG4 (m:=0) (K3y _) h1
theorem zW9 (hn:n<=1000) (hl:l.Pairwise (·<·)) (hm:∀x∈l,x<n):z0I [.tup (stD l),.int n]=pure (.bl true):=by
 have len:=z48 hl hm;refine zQ9 rfl λh=>?_;refine z1z ?_;show W (z0J [.(g (stD l)),.(i n),none]) h _;unfold z0J;refine q_if false ?_ ?_
 ·simp only[K3i,K7,K4,K01,K0b,K0p,z7,aNil,x6,cNot,cVal,eFn,eVar,if_true,z2D,zB1 (xs:=stD l) (n:=n) (by rw[y6];omega)]
 rw[if_neg (by decide)];refine z0f ?_;rw[w_cons];refine z13 (λc γ h'=>∃w,γ=[.(g (stD l)),.(i n),w]/\h'=h) (λ_ _=>False) ?_;simp only[K4,Z5,W_pure,z7,aNil,x8,z1F,e2,Z7,eVar,z33];refine⟨l.length,by rw[y6],by omega,⟨_,rfl,trivial⟩,?_,?_,λ_ _ q=>q.elim⟩
 ·rintro c γ h2 hc ⟨w,rfl,rfl⟩;have mc:(l[c]?).getD 0=l[c]:=by rw[K9 hc];rfl
  have lt:=hm _ (K6s hc);refine q_if false ?_ ?_
  ·have e1:fIx (.tup (stD l)) (.int c)=pure (.int (l[c]:Nat)):=by rw[ix_tup (zS9 hc),mc]
   by_cases c0:(0:Int)<c
   ·have e2':((c:Int) - 1)=((c - 1:Nat):Int):=by omega
    have hc1:c - 1<l.length:=by omega
    have lt2:=K47.mp hl (c - 1) c hc1 hc .(1);have mc1:(l[c - 1]?).getD 0=l[c - 1]:=by rw[K9 hc1];rfl
    have e3:fIx (.tup (stD l)) (.int ((c:Int) - 1))=pure (.int (l[c - 1]:Nat)):=by rw[e2',ix_tup (zS9 hc1),mc1]
    simp only[K1f,K3i,K7,K4,K01,K0b,K08,K07,K0p,z7,aNil,z0L,x6,cAnd,cNot,cOr,cVal,decide_eq_false (show ¬((l[c - 1]:Nat):Int) >= (l[c]:Nat) by omega),decide_eq_true c0,e1,e2,e3,eFn,eVar,zB8,z6I,if_false,if_true,z8T lt,z8a,z2D]
   ·simp only[K1f,K3i,K7,K4,K01,K0b,K08,K07,K0p,z7,aNil,z0L,x6,cAnd,cNot,cOr,cVal,decide_eq_false c0,e1,e2,eFn,eVar,z6I,if_false,if_true,z8T lt,z8a,z2D]
  rw[if_neg (by decide)];exact z0f (y4 ⟨_,rfl,rfl⟩)
 ·rintro γ h2 ⟨w,rfl,rfl⟩;exact zo3 _ rfl ⟨rfl,[],by simp⟩
theorem zx5 {k:Int}(p:PS h k r) (hk:k<800000) (hm:m<=40) (z:∀l h',l.Pairwise (·<·)->(∀x∈l,x<m)->PS h' (k+50) r->Q (.tup (stD l)) h'):W (z26 [.ref 2,.int (m:Nat)]) h Q:=by
 refine zh6 p trivial ?_;refine z1z ?_;show W (z29 [.(r 2),.(i (m:Nat)),none]) h _;unfold z29;refine z2l (λd h1=>∃t:Int,d=.int t/\PS h1 (k+1) r) ?_ ?_
 ·simp only[K4,K01,K0b,K0p,z1o,Z5,z1k,W_pure,z7,aNil,eFn,eVar,if_true];exact z1m p .(1) (by decide) (by decide) λd h2 d0 d1 p2=>⟨d,rfl,p2⟩
 rintro _ h1 ⟨dn,rfl,p1⟩;refine zu7 (λd h'=>∃l,d=.tup (stD l)/\l.Pairwise (·<·)/\(∀x∈l,x<m)/\PS h' (k+50) r) ?_ ?_
 ·refine zl3 p1 trivial ?_;simp only[K08,K07,Z5,W_pure,z7,aNil,e2,Z7,eFn,eVar];refine zj9 (r:=r) (l:=[]) (λc xs k'=>∃l:List Nat,xs=stD l/\l.Pairwise (·<·)/\(∀x∈l,x<c)/\l.length<=c/\k'=k+1+c) ?_;refine W.of (z1t (n:=m) rfl .(1)) ?_;refine⟨_,by simpa using p1,⟨[],rfl,by simp,by simp,by simp,by simp⟩,λ_ _ _ _=>trivial,?_,?_⟩
  ·rintro c d h6 k6 xs hd ⟨l,rfl,l1,l2,l3,rfl⟩ p6;obtain⟨rfl,hc⟩:=z4E hd;simp only[capG,K0v,K2a,K08,K07,K7,K4,K3d,K8i];simp only[K7,K4,K01,K0b,K08,K07,K0p,z1o,Z5,z1k,W_pure,eVar,gN,if_true];refine z1m p6 .(1) (by decide) (by decide) λt h7 t0 t1 p7=>?_;simp only[W_pure,z0L,zo4];by_cases q:t<=dn
   ·rw[decide_eq_true q];simp only[if_true];refine⟨_,p7,by rw[y6];omega,l++[c],(z19 _ _),?_,?_,by simp;omega,by omega⟩
    ·rw[K71];exact⟨l1,by simp,λa ha b hb=>by simp at hb;subst hb;exact l2 a ha⟩
    ·intro x hx;rcases K00.mp hx with q|q
     ·have:=l2 x q;omega
     ·simp at q;omega
   ·rw[.(m) q];simp only[K1f,if_false];exact⟨_,p7,l,rfl,l1,λx hx=>by have:=l2 x hx;omega,by omega,by omega⟩
  rintro h6 xs k6 ⟨l,rfl,l1,l2,l3,rfl⟩ p6;rw[show (Src.con (z1q m)).items.length=m by simp[Src.items,z1q]]at l2 p6;exact z59 (i:=0) p6 rfl ⟨_,_,p6,z15 l,λh7 p7=>⟨l,rfl,l1,l2,p7.up .(1)⟩⟩
 ·rintro _ h2 ⟨l,rfl,l1,l2,p2⟩;exact⟨_,[],by rw[K13];exact p2,z15 l,λh3 p3=>z l h3 l1 l2 p3⟩
inductive Ub (st:List (List Nat)) (W g:List Nat):Nat->Prop
 | goal {x:Nat}:x∈g->Ub st W g x
 | step {x y:Nat}:x∈W->y∈nx st x->Ub st W g y->Ub st W g x
def Clo (st:List (List Nat)) (W T:List Nat):Prop:=∀x∈W,∀y∈nx st x,y∈T->x∈T
theorem Z00 {W:List Nat}(hg:∀x∈g,x∈T) (c:Clo st W T) (u:Ub st W g x):x∈T:=by
 induction u with
 | goal h=>exact hg _ h
 | step a b _ ih=>exact c _ a _ b ih
structure UL (st:List (List Nat)) (W g u:List Nat):Prop where
 nd:u.Nodup
 iff:∀x,x∈u↔Ub st W g x
theorem UL.of {W:List Nat}(nd:T.Nodup) (hg:∀x∈g,x∈T) (c:Clo st W T) (s:∀x∈T,Ub st W g x):UL st W g T:=⟨nd,λx=>⟨s x,Z00 hg c⟩⟩
theorem UL.same {W v:List Nat}(a:UL st W g u) (b:UL st W g v):Y1 u=Y1 v :=
 z2R (z1l a.nd) (z1l b.nd) λx=>by rw[sortN_mem,sortN_mem,a.iff,b.iff]
theorem z42 {W:List Nat}(hW:∀x∈W,x<N) (hg:∀x∈g,x<N) (u:Ub st W g x):x<N:=by
 cases u with
 | goal h=>exact hg _ h
 | step a _ _=>exact hW _ a
theorem zq9 (q:MA st mk):SQ st:=⟨q.l1,q.l2,q.s2⟩
theorem zf2 (q:MA st mk) (x:Nat):(nx st x).Pairwise (·<·):=by
 unfold nx;cases e:st[x]? with
 | none=>exact Z1r
 | some l=>exact q.s1 l (K0s e)
theorem zh5 (q:MA st mk) (x:Nat):(nx st x).length<=st.length:=z48 (zf2 q x) λy hy=>zM5 (zq9 q) hy
theorem zo0 (l:List Nat) (h:x∈l):ptD (kvN l) (.inl (x:Int)) (.bl true)=kvN l:=by
 unfold ptD;rw[z7g,decide_eq_true h,if_pos rfl];unfold kvN;rw[K1h];refine K3t λa _=>?_;show (if (K1j (a:Int):Key)=K1j (x:Int) then ((K1j (a:Int):Key),D.bl true) else _)=_;split<;>rfl
theorem zH9 (l:List Nat) (x:Nat):ptD (kvN l) (.inl (x:Int)) (.bl true)=kvN (putN l x):=by
 unfold putN;by_cases h:x∈l
 ·rw[if_pos h,zo0 l h]
 ·rw[if_neg h,ze8 l h]
section
variable {Q:Out->AH->Prop}
theorem zh7 (ea:γ[a]?=some (.(r i))) (eb:γ[b]?=some (.(i x))) (e:h[i]?=some (.dK (kvN l))) (hl:l.length<1000) (z:W (mt γ) (h.set i (.dK (kvN (putN l x)))) Q):W (z9 (sAsg (λ_=>pure (.bl true)) (gDx (eVar a) (eVar b))) mt γ) h Q:=by
 have e1:eVar a γ=pure (.ref i):=by unfold eVar;rw[ea]
 have e2:eVar b γ=pure (.int x):=by unfold eVar;rw[eb]
 have e3:z3i (.ref i) (.int x) (.bl true) h=.ok () (h.set i (.dK (kvN (putN l x)))):=by
  have:keyD (.int x)=some (.inl (x:Int)):=rfl;unfold z3i;dsimp only;rw[this];dsimp only;rw[e];dsimp only;rw[if_pos (by rw[z7M];unfold sizeLine;omega),zH9]
 rw[w_cons];unfold sAsg gDx;rw[x6,e1,x6,e2,x6];rw[Z5,Z5];refine W_of e3 ?_;rw[W_pure,W_pure];exact z
theorem z8K (e:h[i]?=some (.dK (kvN l))):z5T [.ref i] h=.ok (.int (l.length:Nat)) h:=by
 have g:z4n i h=.ok (kvN l) h:=by unfold z4n;rw[e]
 unfold z5T;dsimp only;rw[M.bind_ok g,z7M];rfl
theorem z6s (e:h[i]?=some (.dK (kvN l))) (hl:l.length<64):z2h [.ref i] h=.ok (.ref h.length) (h++[.lst (stD (Y1 l))]):=by
 have g:z4n i h=.ok (kvN l) h:=by unfold z4n;rw[e]
 have e1:z2g (kvN l)=stD l:=by unfold z2g kvN stD;rw[K1h];rfl
 unfold z2h;dsimp only;rw[M.bind_ok g,e1,z4m];dsimp only;rw[if_pos (by unfold zN;rw[K0d];exact hl),z4A];unfold newL;rw[if_pos (K0q (by rw[y6,z2y];omega:_<=64) (by decide))]
theorem zw5 {bs:List Bool}(e:me γ h=.ok (.ref h.length) (h++[.lst (bs.map .bl)])):clE (Z7 (fAll true) (z7 me aNil)) γ h=.ok (.bl (bs.any id)) h :=
 z0u (j:=[.lst (bs.map .bl)]) (J0 e (by
  have g:getL h.length (h++[O.lst (bs.map .bl)])=.ok (bs.map .bl) (h++[O.lst (bs.map .bl)]):=by unfold getL;rw[z0D]
  unfold fAll;dsimp only;rw[M.bind_ok g,z7I];rfl)) rfl
theorem zW0 (ea:ma γ h=.ok .(7) h) (eb:mb γ h=.ok (.int x) h) (hx:x<st.length):e2 fIx (e2 fIx ma .(c)) mb γ h=.ok (.tup (stD (nx st x))) h :=
 e2_h (e2_h ea (y:=.int 0) rfl (by rw[z4T];rfl)) eb (by rw[zj8 hx];rfl)
theorem zK5 (q:MA st mk) (e:h[i]?=some (.dK (kvN T))) (hx:x<st.length):z0A [maD st mk,.int x,.ref i] h=.ok (.bl ((nx st x).any λy=>decide (y∈T))) h:=by
 refine z41 ?_ rfl;refine z2V ?_;show W (z0B [some .(7),.(i x),.(r i)]) h _;unfold z0B;have c:=z1I (cap:=[some 2,none]) (mi:=Y7 (e2 fIx (e2 fIx .(i) .(c)) .(j))) (g:=gN 1) (kb:=λ_=>pure true) (me:=e2 (fInD false) .(j) .(i)) (γ:=[some .(7),.(i x),.(r i)]) (h:=h) (src:=.con (stD (nx st x))) (l:=nx st x) (λ_=>true) (λy=>.bl (decide (y∈T))) (z0C (zW0 .(d) .(d) hx)) rfl (λ_=>trivial) (by have:=zh5 q x;have:=q.l2;omega) λy hy=>⟨[.(r i),.(i y)],λ_=>rfl,λ_=>rfl,λ_ j=>e2_h .(d) .(d) (by rw[z9a (l:=T) (by rw[K11 (K02.mp e).1];exact e),K1z])⟩;rw[filter_tt,show (nx st x).map (λy=>D.bl (decide (y∈T)))=((nx st x).map λy=>decide (y∈T)).map .bl by rw[K1h];rfl]at c;refine Y2 _ (zw5 c) ⟨?_,rfl⟩;rw[K8t];rfl
end
theorem any_iff:((nx st x).any λy=>decide (y∈T))=true↔∃y∈nx st x,y∈T:=by
 rw[K5o];simp only[decide_eq_true_eq]
theorem zq5 {a:List Nat}{k:Nat}(h:x∈a):x∈putN a k:=putN_mem.mpr (.inl h)
theorem z22 (nd:T.Nodup) (l:∀x∈T,x<N):T.length<=N:=z0Y nd l
structure Rd1 (st:List (List Nat)) (V g T T':List Nat) (c:Nat):Prop where
 nd:T'.Nodup
 s:∀x∈T',Ub st V g x
 ex:∃e,T'=T++e
 got:∀(i:Nat) x,i<c->V[i]?=some x->(∃y∈nx st x,y∈T)->x∈T'
theorem zq1 {V:List Nat}{n:Nat}{h:AH}(q:MA st mk) (Vl:∀x∈V,x<st.length) (gn:g.Nodup) (gl:∀x∈g,x<st.length):
 ∃u,UL st V g u/\x9 [.ref n,maD st mk,.tup (stD V),.tup (stD g)] h=.ok (.tup (stD (Y1 u))) h:=by
 have n40:=q.l2;have key:W (runF 7 z0g [.ref n,maD st mk,.tup (stD V),.tup (stD g)]) h λd h1=>(∃u,UL st V g u/\d=.tup (stD (Y1 u)))/\∃j,h1=h++j:=by
  refine z1z ?_;show W (z0g [.(r n),some .(7),.(g (stD V)),.(g (stD g)),none,none,none]) h _;unfold z0g z2s;have gle:g.length<=st.length:=z22 gn gl;refine w8 (.ref .(g)) [.(r n),some .(7),.(g (stD V)),.(g (stD g)),.(r .(g)),none,none] (z4U (src:=.con (stD g)) (z0C .(d)) rfl (λ_=>trivial) gn .(1) λx hx=>⟨[.(i x)],λ_=>rfl,λ_=>rfl,λ_=>rfl,λ_=>rfl⟩) rfl ?_;refine w8 (.int (-1)) [.(r n),some .(7),.(g (stD V)),.(g (stD g)),.(r .(g)),.(i (-1)),none] rfl rfl ?_;refine z23 (λγ h1=>∃T v w,γ=[.(r n),some .(7),.(g (stD V)),.(g (stD g)),.(r .(g)),v,w]/\h1=h++[.dK (kvN T)]/\UL st V g T) ?_ ?_
  ·refine z0v (λm γ h1=>∃(T:List Nat) (many:Int) (w:Option D),γ=[.(r n),some .(7),.(g (stD V)),.(g (stD g)),.(r .(g)),.(i many),w]/\h1=h++[.dK (kvN T)]/\T.Nodup/\(∀x∈g,x∈T)/\(∀x∈T,Ub st V g x)/\(many=(T.length:Nat)->Clo st V T)/\m=2 * (st.length+1 - T.length)+(if many=(T.length:Nat) then 0 else 1)) _ _ ?_ 1000000 (2 * (st.length+1 - g.length)+1) _ _ .(1) ⟨g,-1,_,rfl,rfl,gn,λx hx=>hx,λx hx=>.goal hx,λz=>by omega,by rw[if_neg .(1)]⟩;rintro m γ h1 ⟨T,many,w,rfl,rfl,nd,hg,hs,hc,hm⟩;have aT:(h++[O.dK (kvN T)])[.(g)]?=some (.dK (kvN T)):=z0D;have TN:T.length<=st.length:=z22 nd λx hx=>z42 Vl gl (hs x hx);refine W.of (a:=!decide ((T.length:Int)=many)) (h':=h++[.dK (kvN T)]) (cb_h (e2_h (J0 .(d) (z8K aT)) .(d) (by rw[z6o,K58];rfl))) ?_;by_cases e:(T.length:Int)=many
   ·rw[decide_eq_true e,K3i,if_neg (by decide)];exact⟨T,_,_,rfl,rfl,.of nd hg (hc e.symm) hs⟩
   ·rw[.(m) e,K4r,if_pos rfl];rw[if_neg (λz=>e z.symm)]at hm;refine⟨2 * (st.length+1 - T.length),hm,?_⟩;refine w8 (.int (T.length:Nat)) [.(r n),some .(7),.(g (stD V)),.(g (stD g)),.(r .(g)),.(i (T.length:Nat)),w] (J0 .(d) (z8K aT)) rfl ?_;refine z23 (λγ h2=>∃T' w,γ=[.(r n),some .(7),.(g (stD V)),.(g (stD g)),.(r .(g)),.(i (T.length:Nat)),w]/\h2=h++[.dK (kvN T')]/\Rd1 st V g T T' V.length) ?_ ?_
    ·refine z07 (λc γ h2=>∃T' w,γ=[.(r n),some .(7),.(g (stD V)),.(g (stD g)),.(r .(g)),.(i (T.length:Nat)),w]/\h2=h++[.dK (kvN T')]/\Rd1 st V g T T' c) (λ_ _=>False) ?_;refine W_of (z0C .(d)) ⟨⟨T,w,rfl,rfl,nd,hs,⟨[],by simp⟩,λi x hi=>by omega⟩,λ_ _ _ _=>trivial,?_,?_,λ_ _ f=>f.elim⟩
     ·rintro c d γ h2 hd ⟨T',w,rfl,rfl,r⟩;obtain⟨x,rfl,ex⟩:=z2w (show (stD V)[c]?=some d from hd);have xW:=K0s ex;have aT':(h++[O.dK (kvN T')])[.(g)]?=some (.dK (kvN T')):=z0D;have TN':T'.length<=st.length:=z22 r.nd λx hx=>z42 Vl gl (r.s x hx);obtain⟨e',eT⟩:=r.ex;refine W.of (a:=[.(r n),some .(7),.(g (stD V)),.(g (stD g)),.(r .(g)),.(i (T.length:Nat)),.(i x)]) rfl ?_;refine z2r _ (cv_h (fn_h (ds:=[maD st mk,.int x,.ref .(g)]) (ac_h .(d) (ac_h .(d) (ac_h .(d) rfl))) rfl (zK5 q aT' (Vl x xW)))) ?_;by_cases y:((nx st x).any λy=>decide (y∈T'))=true
      ·rw[y,if_pos rfl];refine z1u (zh7 (l:=T') rfl rfl aT' .(1) ?_);rw[z7f];obtain⟨z,z1,z2⟩:=any_iff.mp y;refine z0f (y4 ⟨putN T' x,_,rfl,rfl,zh1 r.nd,λv hv=>?_,?_,λi v hi hv hy=>?_⟩)
       ·rcases putN_mem.mp hv with p|rfl
        ·exact r.s v p
        ·exact .step xW z1 (r.s z z2)
       ·unfold putN;by_cases p:x∈T'
        ·rw[if_pos p];exact⟨e',eT⟩
        ·rw[if_neg p,eT];exact⟨e'++[x],by rw[K05]⟩
       ·by_cases p:i<c
        ·exact zq5 (r.got i v p hv hy)
        ·obtain rfl:i=c:=by omega
         rw[ex]at hv;cases hv;exact putN_mem.mpr (.inr rfl)
      ·rw[Bool.eq_false_iff.mpr y,if_neg (by decide)];refine z0f (y4 ⟨T',_,rfl,rfl,r.nd,r.s,⟨e',eT⟩,λi v hi hv hy=>?_⟩);by_cases p:i<c
       ·exact r.got i v p hv hy
       ·obtain rfl:i=c:=by omega
        rw[ex]at hv;cases hv;obtain⟨z,z1,z2⟩:=hy;exact absurd (any_iff.mpr ⟨z,z1,by rw[eT];simp[z2]⟩) y
     ·rintro γ h2 ⟨T',w,rfl,rfl,r⟩;exact⟨T',w,rfl,rfl,by rw[show (Src.con (stD V)).items.length=V.length from y6 V]at r;exact r⟩
    ·rintro γ h2 ⟨T',w,rfl,rfl,r⟩;have TN':T'.length<=st.length:=z22 r.nd λx hx=>z42 Vl gl (r.s x hx);obtain⟨e',eT⟩:=r.ex;refine y4 ⟨_,?_,T',_,w,rfl,rfl,r.nd,λx hx=>by rw[eT];simp[hg x hx],r.s,λz=>?_,rfl⟩
     ·have l:=congrArg K7z eT;rw[K3]at l;split<;>omega
     ·have l:=congrArg K7z eT;rw[K3]at l;obtain rfl:e'=[]:=K2j.mp .(1);rw[K13]at eT;subst eT;intro x hx y hy hyT;obtain⟨i,hi,ei⟩:=K1m hx;exact r.got i x hi (by rw[K9 hi,ei]) ⟨y,hy,hyT⟩
  ·rintro γ h1 ⟨T,v,w,rfl,rfl,ul⟩;have TN:T.length<=st.length:=z22 ul.nd λx hx=>z42 Vl gl ((ul.iff x).mp hx);have aT:(h++[O.dK (kvN T)])[.(g)]?=some (.dK (kvN T)):=z0D;refine Y2 (.tup (stD (Y1 T))) (z5Q (J0 .(d) (z6s aT .(1))) (z1K _)) ⟨⟨T,ul,rfl⟩,[.dK (kvN T)],rfl⟩
 obtain⟨d,h1,e,⟨u,hu,rfl⟩,j,rfl⟩:=key;exact⟨u,hu,z0u e (z15 _)⟩
def z4t (L n:Nat):List D:=(K0m n).map λi=>.ref (L+1+i)
def bkH (h:AH) (B:List (List Nat)):AH:=h++(.lst (z4t h.length B.length)::B.map λb=>.lst (stD b))
def bAt (B:List (List Nat)) (y:Nat):List Nat:=(B[y]?).getD []
theorem z7R {b:List Nat}(hy:y<B.length):bAt (B.set y b) z=if z=y then b else bAt B z:=by
 unfold bAt;by_cases e:z=y
 ·subst e;rw[if_pos rfl,K1o hy];rfl
 ·rw[if_neg e,K29 (λq=>e q.symm)]
theorem z8s:(bkH h B)[h.length]?=.(l (z4t h.length B.length)):=by
 unfold bkH;rw[K0e (K04 _),K32];rfl
theorem z7Z (hy:y<B.length):(bkH h B)[h.length+1+y]?=.(l ((stD (bAt B y)))):=by
 unfold bkH;rw[K0e .(1),show .(g)+1+y - .(g)=y+1 by omega,K7,K0i];unfold bAt;rw[K9 hy];rfl
theorem zV1 {b:List Nat}:(bkH h B).set (h.length+1+y) (.lst (stD b))=bkH h (B.set y b):=by
 unfold bkH;rw[K0t _ _ .(1),show .(g)+1+y - .(g)=y+1 by omega,K08,K77,List.map_set]
theorem z7C {L:Nat}(hy:y<n):atI (z4t L n) (y:Int)=.(r (L+1+y)):=by
 refine z1n ?_;unfold z4t;rw[K0i,K3u hy];rfl
theorem z8t:(bkH h B).length=h.length+1+B.length:=by
 unfold bkH;rw[K3,K01,K0d];omega
theorem zK2:(bkH h (K0g i [])++[O.lst []]).set h.length (O.lst (z4t h.length i++[D.ref (h.length+1+i)]))=bkH h (K0g (i+1) []):=by
 unfold bkH;rw[K05,K0t _ _ (K04 _),K32,K3c,K3c];show h++(O.lst (z4t .(g) i++[.ref (.(g)+1+i)])::(List.map (λb=>O.lst (stD b)) (K0g i [])++[.lst []]))=_;congr 2
 ·unfold z4t;rw[Z2q,K38];rfl
 ·rw[List.replicate_succ',K38];rfl
structure BK (st B:List (List Nat)):Prop where
 len:B.length=st.length
 iff:∀y x,x∈bAt B y↔x<st.length/\y∈nx st x
 sz:∀y,(bAt B y).length<=2000
 nd:∀y,(bAt B y).Nodup
structure BJ (st:List (List Nat)) (c t:Nat) (B:List (List Nat)):Prop where
 len:B.length=st.length
 iff:∀y x,x∈bAt B y↔(x<c/\y∈nx st x)\/(x=c/\y∈(nx st c).take t)
 sz:∀y,(bAt B y).length<=40 * c+t
 nd:∀y,(bAt B y).Nodup
theorem zw3 (q:MA st mk):∃B,BK st B/\z1r [maD st mk] h=.ok (.ref h.length) (bkH h B):=by
 have n40:=q.l2;have key:W (z1r [maD st mk]) h λd h1=>d=.ref .(g)/\∃B,BK st B/\h1=bkH h B:=by
  refine z1z ?_;show W (z20 [some .(7),none,none,none,none]) h _;unfold z20 z2k;refine z2l (λd h1=>d=.ref .(g)/\h1=bkH h (K0g st.length [])) ?_ ?_
  ·refine zv6 ?_;refine W_of (z0C (xs:=stsD st) (e2_h .(d) (y:=.int 0) rfl (by rw[z4T];rfl))) ⟨λi h'=>h'=bkH h (K0g i []),rfl,λ_ _ _=>trivial,?_,?_⟩
   ·rintro i d h' hd rfl;refine W.of (a:=[some d]) rfl ?_;refine W.of (a:=true) rfl ?_;rw[if_pos rfl];refine W_of (v:=.ref (bkH h (K0g i [])).length) (h1:=bkH h (K0g i [])++[.lst []]) rfl ?_;have hi:i<st.length:=by
     have:=(K02.mp (show (stsD st)[i]?=some d from hd)).1;rwa [z17]at this
    have top:(bkH h (K0g i [])++[O.lst []])[.(g)]?=.(l (z4t .(g) i)):=by
     rw[K11 (by rw[z8t];omega),z8s,K3c]
    refine W_of (z3m top (by unfold z4t;rw[K0d,K1q];omega)) ?_;rw[z8t,K3c,zK2]
   ·rintro h' rfl;exact⟨rfl,by rw[show (Src.con (stsD st)).items.length=st.length from z17 st]⟩
  rintro _ h1 ⟨rfl,rfl⟩;refine z23 (λγ h1=>∃B v2 v3 v4,γ=[some .(7),.(r .(g)),v2,v3,v4]/\h1=bkH h B/\BJ st st.length 0 B) ?_ ?_
  ·refine z07 (λc γ h1=>∃B v2 v3 v4,γ=[some .(7),.(r .(g)),v2,v3,v4]/\h1=bkH h B/\BJ st c 0 B) (λ_ _=>False) ?_;have src:z9G (e2 fIx .(i) .(c)) [some .(7),.(r .(g)),none,none,none] (bkH h (K0g st.length []))=.ok (.con (z3n (stsD st))) (bkH h (K0g st.length [])):=by
    unfold z9G;rw[M.bind_ok (ac_h (e2_h .(d) (y:=.int 0) rfl (by rw[z4T];rfl)) (ds:=[]) rfl)];rfl
   refine W_of src ⟨⟨_,none,none,none,rfl,rfl,by rw[K3c],λy x=>?_,λy=>?_,λy=>?_⟩,λ_ _ _ _=>trivial,?_,?_,λ_ _ f=>f.elim⟩
   ·have:bAt (K0g st.length []) y=[]:=by
     unfold bAt;rw[K3m];split<;>rfl
    rw[this,K6c];simp
   ·have:bAt (K0g st.length []) y=[]:=by
     unfold bAt;rw[K3m];split<;>rfl
    rw[this];simp
   ·have:bAt (K0g st.length []) y=[]:=by
     unfold bAt;rw[K3m];split<;>rfl
    rw[this];exact K43
   ·rintro c d γ h1 hd ⟨B,v2,v3,v4,rfl,rfl,bj⟩;obtain⟨r,er,rfl⟩:=zf1 (show (z3n (stsD st))[c]?=some d from hd);have hc:c<st.length:=by
     have:=(K02.mp er).1;rwa [z17]at this
    obtain rfl:r=.tup (stD (nx st c)):=by
     unfold stsD at er;rw[K0i,K9 hc]at er;unfold nx;rw[K9 hc];exact(K19 er).symm
    have nl:=zh5 q c;refine W_eq (v:=[some .(7),.(r h.length),.(i c),.(g ((stD (nx st c)))),v4]) (by simp only[K01,K0b,K08,K07,K0p,x6,z0r,gN,z3o,gT,if_true]) ?_;refine z23 (λγ h1=>∃B v4,γ=[some .(7),.(r .(g)),.(i c),.(g ((stD (nx st c)))),v4]/\h1=bkH h B/\BJ st c (nx st c).length B) ?_ ?_
    ·refine z07 (λt γ h1=>∃B v4,γ=[some .(7),.(r .(g)),.(i c),.(g ((stD (nx st c)))),v4]/\h1=bkH h B/\BJ st c t B) (λ_ _=>False) ?_;refine W_of (z0C .(d)) ⟨⟨B,v4,rfl,rfl,bj⟩,λ_ _ _ _=>trivial,?_,?_,λ_ _ f=>f.elim⟩
     ·rintro t d γ h1 hd ⟨B,v4,rfl,rfl,bj⟩;obtain⟨y,rfl,ey⟩:=z2w (show (stD (nx st c))[t]?=some d from hd);have ht:=(K02.mp ey).1;have yn:y<st.length:=zM5 (zq9 q) (K0s ey);refine W.of (a:=[some .(7),.(r .(g)),.(i c),.(g ((stD (nx st c)))),.(i y)]) rfl ?_;have yB:y<B.length:=by rw[bj.len];exact yn
      have eo:e2 fIx .(j) (eVar 4) [some .(7),.(r .(g)),.(i c),.(g ((stD (nx st c)))),.(i y)] (bkH h B)=.ok (.ref (.(g)+1+y)) (bkH h B):=e2_h .(d) .(d) (ix_h z8s (z7C yB));refine z3T ?_;unfold eM1;rw[Z5];refine W_of eo ?_;rw[Z5];refine W_of (z2Z (z7Z yB)) ?_;rw[Z5];have sz:=bj.sz y;refine W_of (Z1 (d:=.int c) rfl) (W_of (z3m (z7Z yB) (by rw[y6];omega)) ?_);rw[z19,zV1];refine y4 ⟨_,_,rfl,rfl,by rw[K77];exact bj.len,λz x=>?_,λz=>?_,λz=>?_⟩
      ·rw[z7R yB,K4a,ey];have b0:=bj.iff z x;by_cases e:z=y
       ·subst e;rw[if_pos rfl,K00,b0];simp only[Z1f,K00,K0j];constructor
        ·rintro((a|⟨a,b⟩)|a)
         ·exact .inl a
         ·exact .inr ⟨a,.inl b⟩
         ·exact .inr ⟨a,.inr trivial⟩
        ·rintro(a|⟨a,b|b⟩)
         ·exact .inl (.inl a)
         ·exact .inl (.inr ⟨a,b⟩)
         ·exact .inr a
       ·rw[if_neg e,b0];simp only[Z1f,K00,K0j,e,or_false]
      ·rw[z7R yB];have:=bj.sz z;split
       ·rw[K3,K09];omega
       ·omega
      ·rw[z7R yB];split
       ·refine z0G (bj.nd y) λq1=>?_;rcases(bj.iff y c).mp q1 with ⟨a,_⟩|⟨_,b⟩
        ·omega
        ·obtain⟨k,hk,ek⟩:=K1m b;rw[K2d]at hk;rw[K6f]at ek;obtain⟨ht2,et⟩:=K02.mp ey;have:=K47.mp (zf2 q c) k t .(1) ht2 .(1);omega
       ·exact bj.nd z
     ·rintro γ h1 ⟨B,v4,rfl,rfl,bj⟩;exact⟨B,v4,rfl,rfl,by rw[show (Src.con (stD (nx st c))).items.length=(nx st c).length from y6 _]at bj;exact bj⟩
    ·rintro γ h1 ⟨B,v4,rfl,rfl,bj⟩;refine y4 ⟨B,_,_,_,rfl,rfl,bj.len,λy x=>?_,λy=>?_,bj.nd⟩
     ·rw[bj.iff,K1v,K6c];constructor
      ·rintro(⟨a,b⟩|⟨rfl,b⟩)
       ·exact .inl ⟨by omega,b⟩
       ·exact .inl ⟨by omega,b⟩
      ·rintro(⟨a,b⟩|⟨_,b⟩)
       ·by_cases e:x=c
        ·subst e;exact .inr ⟨rfl,b⟩
        ·exact .inl ⟨by omega,b⟩
       ·cases b
     ·have:=bj.sz y;omega
   ·rintro γ h1 ⟨B,v2,v3,v4,rfl,rfl,bj⟩;refine⟨B,v2,v3,v4,rfl,rfl,?_⟩;rw[show (Src.con (z3n (stsD st))).items.length=st.length by simp[Src.items,z3n,z17]]at bj;exact bj
  ·rintro γ h1 ⟨B,v2,v3,v4,rfl,rfl,bj⟩;refine Y2 (.ref .(g)) .(d) ⟨rfl,B,⟨bj.len,λy x=>?_,λy=>?_,bj.nd⟩,rfl⟩
   ·rw[bj.iff,K6c];simp
   ·have:=bj.sz y;omega
 obtain⟨d,h1,e,rfl,B,bk,rfl⟩:=key;exact⟨B,bk,e⟩
def wkH (H:AH) (V T S:List Nat):AH:=H++[.dK (kvN V),.dK (kvN T),.lst (stD S)]
section
variable {V S:List Nat}
theorem wk_i:(wkH H V T S)[H.length]?=some (.dK (kvN V)):=by unfold wkH;rw[K0e (K04 _),K32];rfl
theorem wk_t:(wkH H V T S)[H.length+1]?=some (.dK (kvN T)):=by unfold wkH;rw[K0e .(1),show H.length+1 - H.length=1 by omega];rfl
theorem wk_w:(wkH H V T S)[H.length+2]?=.(l (stD S)):=by unfold wkH;rw[K0e .(1),show H.length+2 - H.length=2 by omega];rfl
theorem Z0q {T':List Nat}:(wkH H V T S).set (H.length+1) (.dK (kvN T'))=wkH H V T' S:=by unfold wkH;rw[K0t _ _ .(1),show H.length+1 - H.length=1 by omega];rfl
theorem zX0:(wkH H V T S).set (H.length+2) (.lst (stD S'))=wkH H V T S':=by unfold wkH;rw[K0t _ _ .(1),show H.length+2 - H.length=2 by omega];rfl
theorem z9O {o:O}(e:H[i]?=some o):(wkH H V T S)[i]?=some o:=by unfold wkH;rw[K11 (K02.mp e).1];exact e
end
structure WkI (st:List (List Nat)) (V g T S:List Nat) (Y:Nat->Prop):Prop where
 nd:T.Nodup
 hg:∀x∈g,x∈T
 hs:∀x∈T,Ub st V g x
 sub:∀x∈S,x∈T
 sn:S.Nodup
 cl:∀y∈T,y∉S->¬ Y y->∀x∈V,y∈nx st x->x∈T
theorem zT2 {V:List Nat}{n:Nat}{h:AH}(q:MA st mk) (Vn:V.Nodup) (Vl:∀x∈V,x<st.length) (gn:g.Nodup) (gl:∀x∈g,x<st.length):
 ∃u,UL st V g u/\Y0 [.ref n,maD st mk,.tup (stD V),.tup (stD g)] h=.ok (.tup (stD (Y1 u))) h:=by
 have n40:=q.l2;have key:W (runF 10 z01 [.ref n,maD st mk,.tup (stD V),.tup (stD g)]) h λd h1=>(∃u,UL st V g u/\d=.tup (stD (Y1 u)))/\∃j,h1=h++j:=by
  refine z1z ?_;show W (z01 [.(r n),some .(7),.(g (stD V)),.(g (stD g)),none,none,none,none,none,none]) h _;unfold z01 z2s;have gle:g.length<=st.length:=z22 gn gl;have Vle:V.length<=st.length:=z22 Vn Vl;obtain⟨B,bk,eb⟩:=zw3 (h:=h) q;have bl:=z8t (h:=h) (B:=B);have atB:∀y,y<st.length->(bkH h B)[.(g)+1+y]?=.(l ((stD (bAt B y)))):=λy hy=>z7Z (by rw[bk.len];exact hy);have atR:(bkH h B)[.(g)]?=.(l (z4t .(g) st.length)):=by rw[<- bk.len];exact z8s
  obtain⟨K,eK⟩:∃K,K=bkH h B:=⟨_,rfl⟩;have hj:∃j,K=h++j:=⟨_,eK⟩;rw[<- eK]at eb bl atB atR;refine w8 (.ref .(g)) [.(r n),some .(7),.(g (stD V)),.(g (stD g)),.(r .(g)),none,none,none,none,none] (fn_h (ds:=[maD st mk]) (ac_h .(d) rfl) rfl eb) rfl ?_;refine w8 (.ref K.length) [.(r n),some .(7),.(g (stD V)),.(g (stD g)),.(r .(g)),.(r K.length),none,none,none,none] (z4U (src:=.con (stD V)) (z0C .(d)) rfl (λ_=>trivial) Vn .(1) λx hx=>⟨[.(i x)],λ_=>rfl,λ_=>rfl,λ_=>rfl,λ_=>rfl⟩) rfl ?_;refine w8 (.ref (K.length+1)) [.(r n),some .(7),.(g (stD V)),.(g (stD g)),.(r .(g)),.(r K.length),.(r (K.length+1)),none,none,none] (h1:=K++[.dK (kvN V)]++[.dK (kvN g)]) (by
   have:=z4U (cap:=[none]) (mi:=Y7 (eVar 3)) (g:=gN 0) (kb:=λ_=>pure true) (me:=eVar 0) (mv:=λ_=>pure (.bl true)) (γ:=[.(r n),some .(7),.(g (stD V)),.(g (stD g)),.(r .(g)),.(r K.length),none,none,none,none]) (h:=K++[.dK (kvN V)]) (src:=.con (stD g)) (z0C .(d)) rfl (λ_=>trivial) gn .(1) λx hx=>⟨[.(i x)],λ_=>rfl,λ_=>rfl,λ_=>rfl,λ_=>rfl⟩;rw[this,K3,K09]) rfl ?_
  refine w8 (.ref (K.length+2)) [.(r n),some .(7),.(g (stD V)),.(g (stD g)),.(r .(g)),.(r K.length),.(r (K.length+1)),.(r (K.length+2)),none,none] (h1:=wkH K V g g) (J0 .(d) (by
   show newL (stD g) _=_;rw[zd3 (by rw[y6];omega)];unfold wkH;rw[K3,K3,K09,K09,K05,K05];rfl)) rfl ?_
  refine z23 (λγ h1=>∃T v w,γ=[.(r n),some .(7),.(g (stD V)),.(g (stD g)),.(r .(g)),.(r K.length),.(r (K.length+1)),.(r (K.length+2)),v,w]/\h1=wkH K V T []/\UL st V g T) ?_ ?_
  ·refine z0v (λm γ h1=>∃(T S:List Nat) (v w:Option D),γ=[.(r n),some .(7),.(g (stD V)),.(g (stD g)),.(r .(g)),.(r K.length),.(r (K.length+1)),.(r (K.length+2)),v,w]/\h1=wkH K V T S/\WkI st V g T S (λ_=>False)/\m=(st.length - T.length)+S.length) _ _ ?_ 1000000 ((st.length - g.length)+g.length) _ _ .(1) ⟨g,g,_,_,rfl,rfl,⟨gn,λx hx=>hx,λx hx=>.goal hx,λx hx=>hx,gn,λy hy hn=>absurd hy hn⟩,rfl⟩;rintro m γ h1 ⟨T,S,v,w,rfl,rfl,wi,hm⟩;refine W.of (a:=!(stD S).isEmpty) (h':=wkH K V T S) (z6X rfl wk_w) ?_;rcases K21 S with rfl|⟨S,y,rfl⟩
   ·exact⟨T,v,w,rfl,rfl,.of wi.nd wi.hg (λx hx y hy hT=>wi.cl y hT .(f) (λf=>f) x hx hy) wi.hs⟩
   ·rw[K22]at *;rw[show (!(stD (S++[y])).isEmpty)=true by unfold stD;simp,if_pos rfl];rw[K3,K09]at hm;refine⟨(st.length - T.length)+S.length,by omega,?_⟩;have yT:=wi.sub y .(f);have yl:=z42 Vl gl (wi.hs y yT);have sn:=wi.sn;rw[K1c]at sn;obtain⟨sn,_,sy⟩:=sn;have ySn:y∉S:=λz=>sy y z y .(f) rfl;have Sle:S.length<=st.length:=z22 sn λx hx=>z42 Vl gl (wi.hs x (wi.sub x (by simp[hx])));refine zs5 (i:=K.length+2) (xs:=stD S) (v:=.int y) rfl (by rw[z19];exact wk_w) (by rw[y6];omega) ?_;rw[zX0];show W _ _ _;have w0:WkI st V g T S (λz=>z=y):=⟨wi.nd,wi.hg,wi.hs,λx hx=>wi.sub x (by simp[hx]),sn,λy' hy' hn ne x hx hy=>wi.cl y' hy' (by simp[hn,ne]) (λf=>f) x hx hy⟩;refine z23 (λγ h2=>∃T' S' w,γ=[.(r n),some .(7),.(g (stD V)),.(g (stD g)),.(r .(g)),.(r K.length),.(r (K.length+1)),.(r (K.length+2)),.(i y),w]/\h2=wkH K V T' S'/\WkI st V g T' S' (λz=>z=y)/\y∈T'/\(∀(i:Nat) x,i<(bAt B y).length->(bAt B y)[i]?=some x->x∈V->x∈T')/\(st.length - T.length)+S.length=(st.length - T'.length)+S'.length) ?_ ?_
    ·refine z07 (λt γ h2=>∃T' S' w,γ=[.(r n),some .(7),.(g (stD V)),.(g (stD g)),.(r .(g)),.(r K.length),.(r (K.length+1)),.(r (K.length+2)),.(i y),w]/\h2=wkH K V T' S'/\WkI st V g T' S' (λz=>z=y)/\y∈T'/\(∀(i:Nat) x,i<t->(bAt B y)[i]?=some x->x∈V->x∈T')/\(st.length - T.length)+S.length=(st.length - T'.length)+S'.length) (λ_ _=>False) ?_;refine W_of (z3c (e2_h .(d) .(d) (ix_h (z9O atR) (z7C yl))) (z9O (atB y yl))) ⟨⟨T,S,w,rfl,rfl,w0,yT,λi x hi=>by omega,rfl⟩,?_,?_,?_,λ_ _ f=>f.elim⟩
     ·rintro t γ h2 ⟨T',S',w,rfl,rfl,_⟩;exact z9O (atB y yl)
     ·rintro t d γ h2 hd ⟨T',S',w,rfl,rfl,w1,yT',got,ms⟩;obtain⟨x,rfl,ex⟩:=z2w (show (stD (bAt B y))[t]?=some d from hd);obtain⟨xl,yx⟩:=(bk.iff y x).mp (K0s ex);refine W.of (a:=[.(r n),some .(7),.(g (stD V)),.(g (stD g)),.(r .(g)),.(r K.length),.(r (K.length+1)),.(r (K.length+2)),.(i y),.(i x)]) rfl ?_;have TN':T'.length<=st.length:=z22 w1.nd λx hx=>z42 Vl gl (w1.hs x hx);have SN':S'.length<=st.length:=z22 w1.sn λx hx=>z42 Vl gl (w1.hs x (w1.sub x hx));have c1:(λγ=>do let d <- e2 (fInD false) (eVar 9) (eVar 5) γ;asB d:G->M Bool) [.(r n),some .(7),.(g (stD V)),.(g (stD g)),.(r .(g)),.(r K.length),.(r (K.length+1)),.(r (K.length+2)),.(i y),.(i x)] (wkH K V T' S')=.ok (decide (x∈V)) (wkH K V T' S'):=cb_h (e2_h .(d) .(d) (by rw[z9a wk_i,K1z]));have c2:(λγ=>do let d <- e2 (fInD true) (eVar 9) (eVar 6) γ;asB d:G->M Bool) [.(r n),some .(7),.(g (stD V)),.(g (stD g)),.(r .(g)),.(r K.length),.(r (K.length+1)),.(r (K.length+2)),.(i y),.(i x)] (wkH K V T' S')=.ok (!decide (x∈T')) (wkH K V T' S'):=cb_h (e2_h .(d) .(d) (by rw[z9a wk_t,K58]));refine z2r (decide (x∈V)&&!decide (x∈T')) (by
       unfold cAnd;rw[M.bind_ok c1];cases decide (x∈V) with
       | false=>rfl
       | true=>exact c2) ?_
      have gotn:(x∈V->x∈T')->∀(i:Nat) v,i<t+1->(bAt B y)[i]?=some v->v∈V->v∈T':=λhx i v hi hv vV=>by
       by_cases p:i<t
       ·exact got i v p hv vV
       ·obtain rfl:i=t:=by omega
        rw[ex]at hv;cases hv;exact hx vV
      by_cases xV:x∈V
      ·by_cases xT:x∈T'
       ·rw[decide_eq_true xV,decide_eq_true xT,if_neg (by decide)];exact z0f (y4 ⟨T',S',_,rfl,rfl,w1,yT',gotn λ_=>xT,ms⟩)
       ·rw[decide_eq_true xV,.(m) xT,if_pos (by decide)];have nd2:=z0G w1.nd xT;have TN2:(T'++[x]).length<=st.length:=z22 nd2 λv hv=>by
         rcases K00.mp hv with p|p
         ·exact z42 Vl gl (w1.hs v p)
         ·rw[K0j]at p;rw[p];exact xl
        rw[K3,K09]at TN2;refine z1u (zh7 (l:=T') rfl rfl wk_t .(1) ?_);rw[Z0q,show putN T' x=T'++[x] by unfold putN;rw[if_neg xT]];refine z1u (z1D (i:=K.length+2) rfl wk_w (by rw[y6];omega) .(d) ?_);rw[z19,zX0];refine z0f (y4 ⟨T'++[x],S'++[x],_,rfl,rfl,⟨nd2,λv hv=>by simp[w1.hg v hv],λv hv=>?_,λv hv=>?_,z0G w1.sn (λz=>xT (w1.sub x z)),λv hv hn ne u hu hy=>?_⟩,by simp[yT'],λi v hi hv vV=>?_,?_⟩)
        ·rcases K00.mp hv with p|p
         ·exact w1.hs v p
         ·rw[K0j]at p;rw[p];exact .step xV yx (w1.hs y yT')
        ·rcases K00.mp hv with p|p
         ·simp[w1.sub v p]
         ·simp[K0j.mp p]
        ·have v1:v∈T':=by
          rcases K00.mp hv with p|p
          ·exact p
          ·exact absurd (by simp[K0j.mp p]) hn
         have:=w1.cl v v1 (λz=>hn (by simp[z])) ne u hu hy;simp[this]
        ·by_cases p:i<t
         ·have:=got i v p hv vV;simp[this]
         ·obtain rfl:i=t:=by omega
          rw[ex]at hv;cases hv;simp
        ·rw[K3,K3,K09];omega
      ·rw[.(m) xV,Z31,if_neg (by decide)];exact z0f (y4 ⟨T',S',_,rfl,rfl,w1,yT',gotn λz=>absurd z xV,ms⟩)
     ·rintro γ h2 ⟨T',S',w,rfl,rfl,w1,yT',got,ms⟩;exact⟨T',S',w,rfl,rfl,w1,yT',by rw[show (Src.lst (.(g)+1+y) (stD (bAt B y))).items.length=(bAt B y).length from y6 _]at got;exact got,ms⟩
    ·rintro γ h2 ⟨T',S',w,rfl,rfl,w1,yT',got,ms⟩;refine y4 ⟨_,K4v ms.symm,T',S',_,w,rfl,rfl,⟨w1.nd,w1.hg,w1.hs,w1.sub,w1.sn,λv hv hn _ u hu hy=>?_⟩,rfl⟩;by_cases e:v=y
     ·subst e;obtain⟨i,hi,ei⟩:=K1m ((bk.iff v u).mpr ⟨Vl u hu,hy⟩);exact got i u hi (by rw[K9 hi,ei]) hu
     ·exact w1.cl v hv hn e u hu hy
  ·rintro γ h1 ⟨T,v,w,rfl,rfl,ul⟩;have TN:T.length<=st.length:=z22 ul.nd λx hx=>z42 Vl gl ((ul.iff x).mp hx);obtain⟨j,ej⟩:=hj;refine Y2 (.tup (stD (Y1 T))) (z5Q (J0 .(d) (z6s wk_t .(1))) (z1K _)) ⟨⟨T,ul,rfl⟩,_,by unfold wkH;rw[ej,K05]⟩
 obtain⟨d,h1,e,⟨u,hu,rfl⟩,j,rfl⟩:=key;exact⟨u,hu,z0u e (z15 _)⟩
structure GH (h:AH) (b c:Nat) (V:List Nat) (f:Nat->List Nat):Prop where
 d:h[b]?=some (.dK (kvF c V))
 r:∀x∈V,h[c+V.idxOf x]?=.(l ((stD (f x))))
 bc:b<c
 cl:c<=.(g)
structure GF (h:AH) (b c:Nat) (V:List Nat) (f:Nat->List Nat):Prop where
 d:h[b]?=some (.dF (kvF c V))
 r:∀x∈V,h[c+V.idxOf x]?=.(l ((stD (f x))))
 bc:b<c
 cl:c<=.(g)
theorem GH.lt {V:List Nat}(g:GH h b c V f):b<h.length:=(K02.mp g.d).1
theorem GH.frz {h:AH}{b c:Nat}{V:List Nat}{f:Nat->List Nat}(g:GH h b c V f):GF (h.set b (.dF (kvF c V))) b c V f :=
 ⟨K1o g.lt,λx hx=>by rw[K29 (by have:=g.bc;omega)];exact g.r x hx,g.bc,by rw[K77];exact g.cl⟩
theorem GH.app {V:List Nat}(g:GH h b c V f):GH (h++j) b c V f:=⟨J8 g.d,λx hx=>J8 (g.r x hx),g.bc,by rw[K3];exact K0q g.cl (K8n _ _)⟩
theorem GF.app {V:List Nat}(g:GF h b c V f):GF (h++j) b c V f:=⟨J8 g.d,λx hx=>J8 (g.r x hx),g.bc,by rw[K3];exact K0q g.cl (K8n _ _)⟩
theorem z8M (h:AH) (V:List Nat) (f:Nat->List Nat):GH (h++(.dK (kvF (h.length+1) V)::z0h f V)) h.length (h.length+1) V f:=by
 refine⟨?_,λx hx=>?_,by omega,by simp⟩
 ·rw[K0e (K04 _),K32];rfl
 ·rw[K0e .(1),show .(g)+1+V.idxOf x - .(g)=V.idxOf x+1 by omega,K7];exact zl0 hx
theorem z92 {m:M D}{h0:AH}{V:List Nat}(e:m h=.ok (.ref (h0++j).length) (h0++j++(.dK (kvF ((h0++j).length+1) V)::z0h f V))) (hl:h0.length=h.length) (kp:Kept h (h0++j++(.dK (kvF ((h0++j).length+1) V)::z0h f V))):
 ∃b c k,cln m h=.ok (.ref b) (h0++k)/\GH (h0++k) b c V f/\.(g)<=b:=by
 have hk:h.length<=(h0++j++(O.dK (kvF ((h0++j).length+1) V)::z0h f V)).length/\Kept h (h0++j++(O.dK (kvF ((h0++j).length+1) V)::z0h f V)):=⟨by simp;omega,kp⟩;have at0:(h0++j++(O.dK (kvF ((h0++j).length+1) V)::z0h f V))[(h0++j).length]?=some (O.dK (kvF ((h0++j).length+1) V)):=(z8M (h0++j) V f).d;cases V with
 | nil =>
  refine⟨.(g),.(g)+1,[.dK (kvF (.(g)+1) [])],?_,?_,K04 _⟩
  ·unfold cln;rw[e];dsimp only;rw[if_pos hk];have r1:J2 h.length (.ref (h0++j).length)=false:=by simp[J2];omega
   rw[if_neg (by rw[r1];decide)];rw[at0];dsimp only;rw[if_pos (by simp[kvF,refO,y8])];congr 1;rw[K05,<- hl,K2v (K04 _),K1v];rfl
  ·rw[<- hl];exact z8M h0 [] f
 | cons x V =>
  refine⟨(h0++j).length,(h0++j).length+1,j++(.dK (kvF ((h0++j).length+1) (x::V))::z0h f (x::V)),?_,?_,by simp;omega⟩
  ·unfold cln;rw[e];dsimp only;rw[if_pos hk];have r1:J2 h.length (.ref (h0++j).length)=false:=by simp[J2];omega
   rw[if_neg (by rw[r1];decide)];rw[at0];dsimp only;rw[if_neg (by simp[kvF,refO,y8,J2];omega),K05]
  ·rw[<- K05];exact z8M (h0++j) (x::V) f
def inV (st:List (List Nat)) (V:List Nat) (x:Nat):List Nat:=(nx st x).filter λy=>decide (y∈V)
theorem z81 {mk:List (List Str)}{V:List Nat}{h:AH}(q:SQ st) (rl:∀l∈st,l.length<=1000) (nd:V.Nodup) (hV:∀x∈V,x<st.length):
 ∃b c k,z0T [maD st mk,.tup (stD V)] h=.ok (.ref b) (h++k)/\GH (h++k) b c V (inV st V)/\.(g)<=b:=by
 have vl:V.length<=1000:=K0q (z0Y nd hV) (by have:=q.l2;omega);refine z92 (j:=[.dK (kvN V)]) (h0:=h) ?_ rfl (by rw[K05];exact z66 _ _);refine z2V ?_;show W (z0Q [some .(7),.(g (stD V)),none]) h _;unfold z0Q;refine w8 (.ref .(g)) [some .(7),.(g (stD V)),.(r .(g))] (h1:=h++[.dK (kvN V)]) (z4U (src:=.con (stD V)) (z0C .(d)) rfl (λ_=>trivial) nd vl λx hx=>⟨[.(i x)],λ_=>rfl,λ_=>rfl,λ_=>rfl,λ_=>rfl⟩) rfl ?_;refine Y2 (.ref (h++[O.dK (kvN V)]).length) (zd7 (src:=.con (stD V)) (h1:=h++[.dK (kvN V)]) (inV st V) (z0C .(d)) rfl (λ_=>trivial) nd vl λx hx=>⟨[some .(7),.(r .(g)),.(i x)],λ_=>rfl,λ_=>rfl,λ_=>rfl,λj=>?_⟩) ⟨rfl,rfl⟩;have xl:=hV x hx;have nl:(nx st x).length<=1000:=rl _ (K0s (zt8 xl));refine(z1I (l:=nx st x) (src:=.con (stD (nx st x))) (λy=>decide (y∈V)) (λy=>.int y) (z0C (e2_h (e2_h .(d) (y:=.int 0) rfl (by rw[z4T];rfl)) .(d) (by rw[zj8 xl];rfl))) rfl (λ_=>trivial) .(1) λy hy=>⟨[.(r .(g)),.(i y)],λ_=>rfl,λk=>?_,λ_ _=>rfl⟩).trans ?_
 ·refine(cb_h (e2_h .(d) .(d) (z9a (l:=V) (by rw[K05,K05,K0e (K04 _),K32];rfl)))).trans ?_;simp
 ·rfl
theorem zQ6 {v:D}{Q:Out->AH->Prop}(eo:mo γ h=.ok (.ref i) h) (e:h[i]?=.(l xs)) (ev:me γ h=.ok v h) (hl:xs.length<1000000) (z:W (mt γ) (h.set i (.lst (xs++[v]))) Q):W (z9 (z0p (eM1 j8 mo me)) mt γ) h Q:=by
 refine z3T ?_;unfold eM1;rw[Z5];refine W_of eo ?_;rw[Z5];refine W_of (z2Z e) ?_;rw[Z5];exact W_of ev (W_of (z3m e hl) z)
theorem z31 {g:Nat->List Nat}{V:List Nat}(h:∀x∈V,f x=g x):z0h f V=z0h g V:=by
 unfold z0h;exact K3t λx hx=>by rw[h x hx]
theorem z6f {f:Nat->List Nat}{y:Nat}{l:List Nat}:∀{V:List Nat},V.Nodup->y∈V->(z0h f V).set (V.idxOf y) (.lst (stD l))=z0h (λx=>if x=y then l else f x) V
 | [],_,h=>by cases h
 | a::V,nd,h=>by
  obtain⟨n1,n2⟩:=K3p.mp nd;rw[Z2r];by_cases e:a=y
  ·subst e;simp only[beq_self_eq_true,cond_true];show O.lst (stD l)::z0h f V=O.lst (stD (if a=a then l else f a))::z0h _ V;rw[if_pos rfl];congr 1;exact z31 λx hx=>by rw[if_neg (show ¬ x=a from λz=>n1 (by rw[<- z];exact hx))]
  ·rw[show (a==y)=false from beq_eq_false_iff_ne.mpr e];have hy:y∈V:=by
    cases h with
    | head=>exact(e rfl).elim
    | tail _ h=>exact h
   show O.lst (stD (f a))::(z0h f V).set (V.idxOf y) _=O.lst (stD (if a=y then l else f a))::z0h _ V;rw[if_neg e,z6f n2 hy]
theorem z8n {n:Nat}:∀{V:List Nat}{c:Nat},c+V.length<=n->y8 n ((kvF c V).map (·.2))=true
 | [],c,h=>rfl
 | x::V,c,h=>by
  show (J2 n (.ref c)&&y8 n ((kvF (c+1) V).map (·.2)))=true;rw[z8n (by simp at h;omega),Bool.and_true];simp[J2];simp at h;omega
theorem zc6 {V:List Nat}(nd:V.Nodup) (hc:c<=h.length) (r:∀x∈V,h[c+V.idxOf x]?=.(l ((stD (f x))))):c+V.length<=h.length:=by
 rcases K21 V with rfl|⟨W',a,rfl⟩
 ·simpa using hc
 ·rw[K22]at *;have:=(K02.mp (r a .(f))).1;have na:a∉W':=λq=>(K1c.mp nd).2.2 a q a .(f) rfl;rw[List.idxOf_append,if_neg na]at this;simp at this ⊢;omega
theorem GH.kept {V:List Nat}(g:GH H b c V f) (nd:V.Nodup) (hc:c<=H.length) (k:AH):Kept H (H.set b (.dF (kvF c V))++k):=by
 intro i o li e;rw[K11 (by simpa using li)]at e;by_cases ib:i=b
 ·subst ib;rw[K1o li]at e;cases e;exact .inr (z8n (zc6 nd hc g.r))
 ·rw[K29 (K4y ib)]at e;exact .inl e
def trn (V:List Nat) (f:Nat->List Nat) (x:Nat):List Nat:=V.filter λone=>decide (x∈f one)
theorem zm5 {V:List Nat}(g:GH H b c V f) (hc:c<=H.length) (nd:V.Nodup) (vl:V.length<=100) (fv:∀x∈V,(f x).Nodup/\∀y∈f x,y∈V):
 ∃b2 c2 k,z3l [.ref b] H=.ok (.ref b2) (H.set b (.dF (kvF c V))++k)/\GH (H.set b (.dF (kvF c V))++k) b2 c2 V (trn V f)/\H.length<=b2:=by
 refine z92 (j:=[]) (h0:=H.set b (.dF (kvF c V))) ?_ .(f) (by rw[K13];exact g.kept nd hc _);rw[K13];refine z2V ?_;show W (z4b [.(r b),none,none,none]) H _;unfold z4b z2s;have gf:=g.frz;have lH:(H.set b (.dF (kvF c V))).length=H.length:=by simp
 generalize hH1:H.set b (.dF (kvF c V))=H1 at *;have e1:=zd7 (cap:=[none]) (g:=gN 0) (kb:=λ_=>pure true) (me:=eVar 0) (mv:=eLst aNil) (γ:=[.(r b),none,none,none]) (h:=H) (h1:=H1) (src:=.con (stD V)) (V:=V) (mi:=iDic .(i)) (λ_=>[]) (by rw[<- hH1];exact zv2 .(d) g.d) rfl (λ_=>trivial) nd .(1) λx hx=>⟨[.(i x)],λ_=>rfl,λ_=>rfl,λ_=>rfl,λj=>rfl⟩;refine w8 (.ref H1.length) [.(r b),.(r H1.length),none,none] e1 rfl ?_;rw[w_cons];refine z07 (λi γ h'=>∃w2 w3,γ=[.(r b),.(r H1.length),w2,w3]/\h'=H1++(.dK (kvF (H1.length+1) V)::z0h (λx=>(V.take i).filter λone=>decide (x∈f one)) V)) (λ_ _=>False) ?_;refine W_of (zT5 .(d) gf.app.d) ⟨⟨none,none,rfl,rfl⟩,λ_ _ _ _=>trivial,?_,?_,λ_ _ q=>q.elim⟩
 ·rintro i d _ _ ed ⟨w2,w3,rfl,rfl⟩;obtain⟨one,rfl,eo⟩:=z2w ed;have oV:=K0s eo;have hi:=(K02.mp eo).1;have io:=(K02.mp eo).2;obtain⟨fnd,fsub⟩:=fv one oV;refine W_of (v:=[.(r b),.(r H1.length),.(i one),w3]) rfl ?_;rw[w_cons];have src:∀(a:Nat->List Nat) (γ:G),γ[0]?=some (.(r b))->γ[2]?=some (.(i (one:Nat)))->z0c (e2 z1N .(i) (eVar 2)) γ (H1++(.dK (kvF (H1.length+1) V)::z0h a V))=.ok (.lst (c+V.idxOf one) (stD (f one))) (H1++(.dK (kvF (H1.length+1) V)::z0h a V)):=λa γ g0 g2=>z3c (e2_h (Z1 g0) (Z1 g2) (z6L (.inr gf.app.d) oV)) (gf.app.r one oV);refine z07 (λe γ h'=>∃w3,γ=[.(r b),.(r H1.length),.(i one),w3]/\h'=H1++(.dK (kvF (H1.length+1) V)::z0h (λx=>((V.take i).filter λone=>decide (x∈f one))++if x∈(f one).take e then [one] else []) V)) (λ_ _=>False) ?_;refine W_of (src _ _ rfl rfl) ⟨⟨w3,rfl,?_⟩,?_,?_,?_,λ_ _ q=>q.elim⟩
  ·simp
  ·rintro e _ _ ⟨w,rfl,rfl⟩;exact gf.app.r one oV
  ·rintro e d _ _ ed ⟨w,rfl,rfl⟩;obtain⟨y,rfl,ey⟩:=z2w ed;have yV:=fsub y (K0s ey);obtain⟨he,ye⟩:=K02.mp ey;have yn:y∉(f one).take e:=λq=>by
    obtain⟨t,ht,et⟩:=K1m q;rw[K2d]at ht;rw[K6f]at et;exact(K47.mp fnd t e .(1) he .(1)) (et.trans ye.symm)
   refine W_of (v:=[.(r b),.(r H1.length),.(i one),.(i y)]) rfl ?_;have gn:=z8M H1 V (λx=>((V.take i).filter λone=>decide (x∈f one))++if x∈(f one).take e then [one] else []);refine zQ6 (i:=H1.length+1+V.idxOf y) (e2_h .(d) .(d) (z6L (.inl gn.d) yV)) (gn.r y yV) .(d) ?_ ?_
   ·rw[y6,K3];have h1:=K10 (λone=>decide (y∈f one)) (V.take i);have h2:(V.take i).length<=100:=by rw[K2d];omega
    split<;>simp<;>omega
   ·refine y4 ⟨_,rfl,?_⟩;rw[z19,K0t _ _ .(1),show H1.length+1+V.idxOf y - H1.length=V.idxOf y+1 by omega,K08,z6f nd yV];congr 2;refine z31 λx hx=>?_;rw[K2i he,ye];by_cases xy:x=y
    ·subst xy;rw[if_pos rfl,if_neg yn,if_pos .(f)];simp
    ·rw[if_neg xy];congr 1;simp[xy]
  ·rintro _ _ ⟨w,rfl,rfl⟩;refine y4 ⟨_,_,rfl,?_⟩;congr 2;refine z31 λx hx=>?_;rw[show (Src.lst (c+V.idxOf one) (stD (f one))).items.length=(f one).length from y6 _,K1v,K2i hi,io,K7k];congr 1;by_cases q:x∈f one
   ·rw[if_pos q,K40,if_pos (by simpa using q)];rfl
   ·rw[if_neg q,K40,if_neg (by simpa using q)];rfl
 ·rintro _ _ ⟨w2,w3,rfl,rfl⟩;refine Y2 (.ref H1.length) .(d) ⟨rfl,?_⟩;rw[show (Src.con (stD V)).items.length=V.length from y6 _,K1v];rfl
theorem Z08 (e:h[n]?=some (.set (kN l))):fInS neg (.int (x:Nat)) (.ref n) h=.ok (.bl (decide (x∈l) != neg)) h:=by
 have g:getS n h=.ok (kN l) h:=by unfold getS;rw[e]
 unfold fInS;dsimp only;rw[M.bind_ok g];show Res.ok (D.bl (decide ((K1j (x:Int):Key)∈kN l) != neg)) h=_;congr 3;rw[K0o,.(h),.(h)];exact kN_mem
theorem zT4 {Q:Out->AH->Prop}(ea:γ[a]?=some (.(r i))) (e:h[i]?=some (.set (kN l))) (ev:me γ h=.ok (.int (x:Nat)) h) (hx:x∉l) (hl:l.length<1000) (z:W (mt γ) (h.set i (.set (kN (l++[x])))) Q):W (z9 (z0p (eMS z9r (eVar a) me)) mt γ) h Q:=by
 refine z3T ?_;unfold eMS;rw[Z5];refine W_of (Z1 ea) ?_;rw[Z5];have s1:zc7 (.ref i) h=.ok i h:=by unfold zc7;dsimp only;rw[e]
 refine W_of s1 ?_;rw[Z5];refine W_of ev ?_;have f1:z9r i (.int (x:Nat)) h=.ok .non (h.set i (.set (kN (l++[x])))):=by
  unfold z9r;rw[e];dsimp only;have:keyD (.int (x:Nat))=some (.inl (x:Int)):=rfl;rw[this];dsimp only;rw[if_pos (by rw[zj5];omega),zu6 hx]
 exact W_of f1 z
def wtD (wt:List (Nat×Bool)):List D:=wt.map λp=>.tup [.int p.1,.bl p.2]
theorem z4G (wt:List (Nat×Bool)):(wtD wt).length=wt.length:=by unfold wtD;simp
theorem z95 (wt:List (Nat×Bool)) (x:Nat) (b:Bool):wtD wt++[.tup [.int x,.bl b]]=wtD (wt++[(x,b)]):=by unfold wtD;rw[K38];rfl
theorem zF0 (a b:List (Nat×Bool)):wtD a++wtD b=wtD (a++b):=by unfold wtD;rw[K38]
theorem zZ0 {x y:D}(e1:ma γ h=.ok x h) (e2':mb γ h=.ok y h):eTup (z7 ma (z7 mb aNil)) γ h=.ok (.tup [x,y]) h:=zx4 e1 e2'
def ordH (H1:AH) (s:KS) (j:AH):AH:=H1++(.set (kN s.seen)::.lst (stD s.ord)::.lst (wtD s.wt)::j)
section
variable {H1:AH}{s:KS}
theorem oh0:(ordH H1 s j)[H1.length]?=some (.set (kN s.seen)):=by unfold ordH;rw[K0e (K04 _),K32];rfl
theorem oh1:(ordH H1 s j)[H1.length+1]?=.(l (stD s.ord)):=by unfold ordH;rw[K0e .(1),show H1.length+1 - H1.length=1 by omega];rfl
theorem oh2:(ordH H1 s j)[H1.length+2]?=.(l (wtD s.wt)):=by unfold ordH;rw[K0e .(1),show H1.length+2 - H1.length=2 by omega];rfl
theorem os0:(ordH H1 s j).set H1.length (.set (kN l))=ordH H1 ⟨l,s.ord,s.wt⟩ j:=by unfold ordH;rw[K0t _ _ (K04 _),K32];rfl
theorem os1:(ordH H1 s j).set (H1.length+1) (.lst (stD l))=ordH H1 ⟨s.seen,l,s.wt⟩ j:=by unfold ordH;rw[K0t _ _ .(1),show H1.length+1 - H1.length=1 by omega];rfl
theorem os2 {l:List (Nat×Bool)}:(ordH H1 s j).set (H1.length+2) (.lst (wtD l))=ordH H1 ⟨s.seen,s.ord,l⟩ j:=by unfold ordH;rw[K0t _ _ .(1),show H1.length+2 - H1.length=2 by omega];rfl
theorem zV5 {k:AH}:ordH H1 s j++k=ordH H1 s (j++k):=by unfold ordH;simp
end
theorem zK6 {V:List Nat}(g:GH H b c V f) (hc:c<=H.length) (nd:V.Nodup) (vl:V.length<=40) (fs:∀x∈V,f x=nx st x) (fv:∀x∈V,(nx st x).length<=40/\∀y∈nx st x,y∈V):
 z0w [.ref b] H=.ok (.ref H.length) (H.set b (.dF (kvF c V))++[.lst (stD (kEnd st V))]):=by
 have gf:=g.frz;have lH:(H.set b (.dF (kvF c V))).length=H.length:=by simp
 have kp:=g.kept nd hc;generalize hH1:H.set b (.dF (kvF c V))=H1 at *;have hv:∀x∈V,∀y∈nx st x,y∈V:=λx hx=>(fv x hx).2
 suffices z:W (runF 6 z06 [.ref b]) H λd h'=>d=.ref (H1.length+1)/\∃s j,h'=ordH H1 s j/\s.ord=kEnd st V by
  obtain⟨d,h',e,rfl,s,j,rfl,es⟩:=z;show cln (runF 6 z06 [.ref b]) H=_;unfold cln;rw[e];dsimp only;rw[if_pos ⟨by unfold ordH;simp;omega,kp _⟩];have r1:J2 H.length (.ref (H1.length+1))=false:=by simp[J2];omega
  rw[if_neg (by rw[r1];decide),oh1];dsimp only;rw[if_pos (by simp only[refO];exact z1K _),es];congr 1;unfold ordH;rw[<- lH,K2v (K04 _),K1v]
 refine z1z ?_;show W (z06 [.(r b),none,none,none,none,none]) H _;unfold z06 z2k;have n1:newSet [] H=.ok (.ref H.length) (H++[.set []]):=rfl;refine w8 (.ref H.length) [.(r b),.(r H.length),none,none,none,none] n1 rfl ?_;refine zl7 (xs:=[]) .(f) (λh=>rfl) ?_;have l2:(H++[O.set []]).length=H.length+1:=by simp
 rw[l2];have c1:z0j [none] (iDic .(i)) (gN 0) (λ_=>pure true) (eTup (z7 .(i) (z7 (λ_=>pure (.bl false)) aNil))) [.(r b),.(r H.length),.(r (H.length+1)),none,none,none] (H++[.set []]++[.lst []])=.ok (.ref (H.length+2)) (ordH H1 (z53 V) []):=by
  have i1:iDic .(i) [.(r b),.(r H.length),.(r (H.length+1)),none,none,none] (H++[.set []]++[.lst []])=.ok (.con (stD V)) (H1++[.set [],.lst []]):=by
   have:=zv2 (γ:=[.(r b),.(r H.length),.(r (H.length+1)),none,none,none]) (ma:=eVar 0) (h:=H++[.set []]++[.lst []]) (h1:=H++[.set []]++[.lst []]) (n:=b) .(d) g.app.app.d;rw[this,K05,K4d _ _ g.lt,hH1];rfl
  have e:=zk6 (cap:=[none]) (g:=gN 0) (k:=λ_=>pure true) (me:=eTup (z7 .(i) (z7 (λ_=>pure (.bl false)) aNil))) (λ_=>true) (λd=>.tup [d,.bl false]) i1 (λ_=>trivial) (by show (stD V).length<=_;rw[y6];omega) λd hd=>⟨[some d],rfl,rfl,λ_=>by
   unfold eTup;simp only[K4,K01,K0b,K0p,z7,aNil,x6,eVar,if_true,zM9]⟩
  rw[e,K9z.mpr .(f),show (Src.con (stD V)).items=stD V from rfl];have e2:(stD V).map (λd=>D.tup [d,.bl false])=wtD (V.map λx=>(x,false)):=by
   unfold stD wtD;rw[K1h,K1h];rfl
  rw[e2,zd3 (by rw[z4G,K0d];omega)];have l3:(H1++[O.set [],O.lst []]).length=H.length+2:=by simp;omega
  rw[l3];congr 1;unfold ordH z53;rw[K05];rfl
 refine w8 (.ref (H.length+2)) [.(r b),.(r H.length),.(r (H.length+1)),.(r (H.length+2)),none,none] c1 rfl ?_;rw[<- lH];refine zH8 (m:=kMu V (z53 V)) (λm γ h'=>∃n s j w4 w5,γ=[.(r b),.(r H1.length),.(r (H1.length+1)),.(r (H1.length+2)),w4,w5]/\h'=ordH H1 s j/\s=kRun st V n/\n+m<=3000/\kMu V s<=m) ?_ ⟨0,_,[],none,none,rfl,rfl,rfl,?_,K04 _⟩ ?_
 ·unfold kMu z53;simp;omega
 ·unfold kMu z53;simp;omega
 ·rintro m _ _ ⟨n,s,j,w4,w5,rfl,rfl,hs,hn,hm⟩;have ki:KI st V s:=by rw[hs];exact z8N hv n
  have sl:s.seen.length<=V.length:=(K0w ki.nd λx hx=>ki.sub x hx);refine⟨_,z6X (i:=H1.length+2) (xs:=wtD s.wt) rfl oh2,?_⟩;rcases K21 s.wt with e|⟨w,⟨x,bb⟩,e⟩
  ·rw[e,if_neg (by simp[wtD])];refine Y2 (.ref (H1.length+1)) .(d) ⟨rfl,s,j,rfl,?_⟩;rw[hs]at e ⊢;exact(zb5 e .(1)).symm
  ·rw[K22]at e;rw[e,if_pos (by simp[wtD])];have wl:s.wt.length=w.length+1:=by rw[e];simp
   have xV:x∈V:=ki.wv (x,bb) (by rw[e];simp);have sn:z45 (nx st) s=kRun st V (n+1):=by rw[hs];rfl
   have m1:1<=kMu V s:=by unfold kMu;omega
   have wb:w.length<=3000:=by unfold kMu at hm;omega
   refine⟨m - 1,by omega,?_⟩;have pp:W (eM0 fPop (eVar 3) [.(r b),.(r H1.length),.(r (H1.length+1)),.(r (H1.length+2)),w4,w5]) (ordH H1 s j) λd h'=>d=.tup [.int x,.bl bb]/\h'=ordH H1 ⟨s.seen,s.ord,w⟩ j:=by
    have e1:eVar 3 [.(r b),.(r H1.length),.(r (H1.length+1)),.(r (H1.length+2)),w4,w5]=pure (.ref (H1.length+2)):=rfl;unfold eM0;rw[e1,x6,Z5];refine W_of (z2Z oh2) (W_of (zV2 (xs:=wtD w) (v:=.tup [.int x,.bl bb]) ?_ (by rw[z4G];omega)) ⟨rfl,os2⟩);rw[z95,<- e];exact oh2
   refine zM2 _ pp ?_;rintro _ _ ⟨rfl,rfl⟩;refine⟨[.(r b),.(r H1.length),.(r (H1.length+1)),.(r (H1.length+2)),.(i x),some (.bl bb)],rfl,?_⟩;refine z2r bb (cv_h .(d)) ?_;cases bb with
   | true =>
    rw[if_pos rfl];refine z1u ?_;refine z1D (a:=2) (i:=H1.length+1) (xs:=stD s.ord) (v:=.int x) rfl oh1 ?_ .(d) ?_
    ·rw[y6];have:=K0w (K1c.mp ki.on).1 λy hy=>ki.sub y ((ki.so y).mpr (.inl hy));omega
    ·rw[z19,os1];refine z0f (y4 ⟨m - 1,K04 _,n+1,⟨s.seen,s.ord++[x],w⟩,j,_,_,rfl,rfl,?_,by omega,?_⟩)
     ·rw[<- sn];unfold z45;rw[e,K4e,K2l];rfl
     ·unfold kMu at hm ⊢;dsimp only;omega
   | false =>
    rw[if_neg (by decide)];refine z1u ?_;refine z2r (decide (x∉s.seen)) ?_ ?_
    ·refine(cb_h (e2_h .(d) .(d) (Z08 (h:=ordH H1 ⟨s.seen,s.ord,w⟩ j) (n:=H1.length) (x:=x) (neg:=true) (l:=s.seen) oh0))).trans ?_;by_cases q:x∈s.seen<;>simp[q]
    by_cases q:x∈s.seen
    ·rw[.(m) (λz=>z q),if_neg (by decide)];refine z0f (z0f (y4 ⟨m - 1,K04 _,n+1,⟨s.seen,s.ord,w⟩,j,_,_,rfl,rfl,?_,by omega,?_⟩))
     ·rw[<- sn];unfold z45;rw[e,K4e,K2l];show _=if x∈s.seen then _ else _
      rw[if_pos q]
     ·unfold kMu at hm ⊢;dsimp only;omega
    ·rw[decide_eq_true q,if_pos rfl];have sl2:s.seen.length+1<=V.length:=by
      have:=K0w (l₁:=s.seen++[x]) (l₂:=V) (z0G ki.nd q) λy hy=>by
       rcases K00.mp hy with z|z
       ·exact ki.sub y z
       ·simp at z;subst z;exact xV
      simpa using this
     obtain⟨nl,_⟩:=fv x xV;refine z1u ?_;refine zT4 (a:=1) (i:=H1.length) (l:=s.seen) (x:=x) rfl oh0 .(d) q .(1) ?_;rw[os0];refine z1u ?_;refine z1D (a:=3) (i:=H1.length+2) (xs:=wtD w) (v:=.tup [.int x,.bl true]) rfl oh2 (by rw[z4G];omega) (zZ0 .(d) rfl) ?_;rw[z95,os2];refine z1u ?_;generalize hX:ordH H1 ⟨s.seen++[x],s.ord,w++[(x,true)]⟩ j=X;have x2:X[H1.length+2]?=.(l ((wtD (w++[(x,true)])))):=by rw[<- hX];exact oh2
     have xg:GF X b c V f:=by rw[<- hX];exact gf.app
     have c2:z0j [none] (z0c (e2 z1N .(i) (eVar 4))) (gN 0) (λ_=>pure true) (eTup (z7 .(i) (z7 (λ_=>pure (.bl false)) aNil))) [.(r b),.(r H1.length),.(r (H1.length+1)),.(r (H1.length+2)),.(i x),some (.bl false)] X=.ok (.ref X.length) (X++[.lst (wtD ((nx st x).map λy=>(y,false)))]):=by
      refine(z1I (l:=nx st x) (src:=.lst (c+V.idxOf x) (stD (nx st x))) (λ_=>true) (λy=>.tup [.int y,.bl false]) (z3c (e2_h .(d) .(d) (z6L (.inr xg.d) xV)) (by rw[xg.r x xV,fs x xV])) rfl (λk=>J8 (by rw[xg.r x xV,fs x xV])) .(1) λy hy=>⟨[.(i y)],λ_=>rfl,λ_=>rfl,λ_ k=>zZ0 .(d) rfl⟩).trans ?_;rw[K9z.mpr .(f)];unfold wtD;rw[K1h];rfl
     refine Z0l (a:=3) (i:=H1.length+2) (xs:=wtD (w++[(x,true)])) (ys:=wtD ((nx st x).map λy=>(y,false))) (y:=.ref X.length) (h1:=X++[.lst (wtD ((nx st x).map λy=>(y,false)))]) rfl x2 c2 (J8 x2) (.inr ⟨_,rfl,z0D⟩) (by rw[z4G,z4G];simp;omega) ?_;rw[zF0,<- hX,zV5,os2];refine z0f (z0f (y4 ⟨m - 1,K04 _,n+1,⟨s.seen++[x],s.ord,w++[(x,true)]++(nx st x).map λy=>(y,false)⟩,_,_,_,rfl,rfl,?_,by omega,?_⟩))
     ·rw[<- sn];unfold z45;rw[e,K4e,K2l];show _=if x∈s.seen then _ else _
      rw[if_neg q]
     ·unfold kMu at hm ⊢;simp only[K3,K0d,K01,K0b];omega
def gS (n:Nat) (V:List Nat) (f:Nat->List Nat):List (List Nat):=(K0m n).map λx=>if x∈V then f x else []
section
variable {V:List Nat}
theorem z6y (hV:∀x∈V,x<n) (x:Nat):nx (gS n V f) x=if x∈V then f x else []:=by
 unfold nx gS;by_cases hx:x<n
 ·rw[K0i,K3u hx];rfl
 ·rw[K1i (by simpa using hx),if_neg λq=>hx (hV x q)];rfl
theorem zd6 (hV:∀x∈V,x<n) (fv:∀x∈V,∀y∈f x,y∈V) (h:y∈nx (gS n V f) x):x∈V/\y∈V/\y∈f x:=by
 rw[z6y hV]at h;split at h
 ·rename_i hx;exact⟨hx,fv x hx y h,h⟩
 ·cases h
theorem zt0 (hV:∀x∈V,x<n) (fv:∀x∈V,∀y∈f x,y∈V):Trn (gS n V f) (gS n V (trn V f)):=by
 intro x y;rw[z6y hV,z6y hV];constructor
 ·intro h;split at h
  ·unfold trn at h;obtain⟨h1,h2⟩:=K06.mp h;rw[if_pos h1];simpa using h2
  ·cases h
 ·intro h;split at h
  ·rename_i hy;rw[if_pos (fv y hy x h)];unfold trn;exact K06.mpr ⟨hy,by simpa using h⟩
  ·cases h
end
noncomputable def prts (n:Nat) (V:List Nat) (f:Nat->List Nat):List (List Nat):=partsOf (gS n V f) V (kEnd (gS n V (trn V f)) V).reverse
theorem z4f (l:List (List Nat)) (r:List Nat):stsD l++[.tup (stD r)]=stsD (l++[r]):=by unfold stsD;rw[K38];rfl
theorem zG3 {V:List Nat}(g:GH H b c V f) (rs:V.Pairwise (·<·)) (hV:∀x∈V,x<n) (hn:n<=40) (fv:∀x∈V,(f x).Nodup/\∀y∈f x,y∈V):
 z7j [.ref b] H=.ok (.ref H.length) (H.set b (.dF (kvF c V))++[.lst (stsD (prts n V f))]):=by
 have nd:=z0e rs;have vl:V.length<=40:=K0q (z0Y nd hV) hn;have fv2:∀x∈V,∀y∈f x,y∈V:=λx hx=>(fv x hx).2;have gf:=g.frz;have lH:(H.set b (.dF (kvF c V))).length=H.length:=by simp
 have kp:=g.kept nd g.cl;have rl:c+V.length<=H.length:=zc6 nd g.cl g.r;have hv1:∀x∈V,∀y∈nx (gS n V f) x,y∈V:=λx hx y hy=>(zd6 hV fv2 hy).2.1;have tv:∀x∈V,∀y∈trn V f x,y∈V:=λx hx y hy=>(K06.mp hy).1;have t12:Trn (gS n V f) (gS n V (trn V f)):=zt0 hV fv2
 suffices z:W (runF 4 z3K [.ref b]) H λd h'=>d=.ref (H.length+1)/\∃T k,h'=H.set b (.dF (kvF c V))++(.dK (kvN T)::.lst (stsD (prts n V f))::k) by
  obtain⟨d,h',e,rfl,T,k,rfl⟩:=z;show cln (runF 4 z3K [.ref b]) H=_;unfold cln;rw[e];dsimp only;rw[if_pos ⟨by simp,kp _⟩];have r1:J2 H.length (.ref (H.length+1))=false:=by simp[J2]
  rw[if_neg (by rw[r1];decide)];have a1:=am1 (h:=H.set b (.dF (kvF c V))) (o:=.dK (kvN T)) (o':=.lst (stsD (prts n V f))) (j:=k);rw[lH]at a1;rw[a1];dsimp only;rw[if_pos (by simp only[refO];exact J9 λa=>z15 a)];congr 1;rw[<- lH,K2v (K04 _),K1v]
 refine z1z ?_;show W (z3K [.(r b),none,none,none]) H _;unfold z3K;have n1:newK [] H=.ok (.ref H.length) (H++[.dK (kvN [])]):=rfl;refine w8 (.ref H.length) [.(r b),.(r H.length),none,none] n1 rfl ?_;refine zl7 (xs:=[]) .(f) (λh=>rfl) ?_;rw[show (H++[O.dK (kvN [])]).length=H.length+1 by simp];have g0:GH (H++[.dK (kvN [])]++[.lst []]) b c V f:=g.app.app;obtain⟨b2,c2,k,e1,g2,lb⟩:=zm5 g0 g0.cl nd .(1) fv;have s0:(H++[O.dK (kvN [])]++[O.lst []]).set b (.dF (kvF c V))=H.set b (.dF (kvF c V))++[.dK (kvN []),.lst []]:=by rw[K05,K4d _ _ g.lt];rfl
 rw[s0]at e1 g2;have lb':H.length+2<=b2:=by simpa using lb
 have ke0:∀x∈V,trn V f x=nx (gS n V (trn V f)) x:=λx hx=>by rw[z6y hV,if_pos hx]
 have e2':=zK6 (st:=gS n V (trn V f)) g2 g2.cl nd vl ke0 λx hx=>by
  rw[<- ke0 x hx];exact⟨K0q (K10 _ _) vl,tv x hx⟩
 have ke:KEnd (gS n V (trn V f)) V (kEnd (gS n V (trn V f)) V):=z7v (λx hx=>by
  rw[<- ke0 x hx];exact⟨K0q (K10 _ _) vl,tv x hx⟩) vl
 generalize hO:kEnd (gS n V (trn V f)) V=O' at *;generalize hH1:H.set b (.dF (kvF c V))=H1 at *;have s2:(H1++[O.dK (kvN []),O.lst []]++k).set b2 (.dF (kvF c2 V))++[O.lst (stD O')]=H1++(.dK (kvN [])::.lst (stsD [])::(k.set (b2 - (H.length+2)) (.dF (kvF c2 V))++[.lst (stD O')])):=by
  rw[K05,K0t _ _ .(1),K0t _ _ (by simp;omega),K05,K05];congr 1;show [O.dK (kvN []),O.lst []]++_=[O.dK (kvN []),O.lst []]++_;congr 3;simp;omega
 rw[s2]at e2';have li:(H1++[O.dK (kvN []),O.lst []]++k).length=H.length+2+k.length:=by simp;omega
 rw[li]at e2';generalize hk3:k.set (b2 - (H.length+2)) (.dF (kvF c2 V))++[O.lst (stD O')]=k3 at *;have k3i:k3[k.length]?=.(l (stD O')):=by rw[<- hk3,K0e .(f)];simp
 have atO:∀(o o':O),(H1++(o::o'::k3))[H.length+2+k.length]?=.(l (stD O')):=λo o'=>by
  rw[K0e .(1),show H.length+2+k.length - H1.length=k.length+2 by omega];exact k3i
 have src:zq3 (eFn 1 z0w (z7 (eFn 1 z3l (z7 .(i) aNil)) aNil)) [.(r b),.(r H.length),.(r (H.length+1)),none] (H++[.dK (kvN [])]++[.lst []])=.ok (.obj (H.length+2+k.length) (.lst (stD O')) (stD O').reverse) (H1++(.dK (kvN [])::.lst (stsD [])::k3)):=by
  have a1:=fn_h (n:=1) (f:=z0w) (γ:=[.(r b),.(r H.length),.(r (H.length+1)),none]) (mr:=z7 (eFn 1 z3l (z7 .(i) aNil)) aNil) (h:=H++[.dK (kvN [])]++[.lst []]) (ac_h (fn_h (ds:=[.ref b]) (ac_h .(d) rfl) rfl e1) rfl) rfl e2';have gl:getL (H.length+2+k.length) (H1++(.dK (kvN [])::.lst (stsD [])::k3))=.ok (stD O') (H1++(.dK (kvN [])::.lst (stsD [])::k3)):=by unfold getL;rw[atO]
  unfold zq3;rw[M.bind_ok a1];dsimp only;rw[M.bind_ok gl];rfl
 rw[w_cons];refine z07 (λt γ h'=>∃T w3,γ=[.(r b),.(r H.length),.(r (H.length+1)),w3]/\h'=H1++(.dK (kvN T)::.lst (stsD (partsOf (gS n V f) V (O'.reverse.take t)))::k3)/\MI (gS n V f) V (O'.reverse.take t).reverse T/\T.Nodup/\∀a,a∈T↔a∈(partsOf (gS n V f) V (O'.reverse.take t)).flatten) (λ_ _=>False) ?_;refine W_of src ⟨⟨[],none,rfl,rfl,⟨(λa ha=>by cases ha),(λa ha=>by simp at ha),(λa ha=>by cases ha)⟩,K43,λa=>by simp[partsOf]⟩,?_,?_,?_,λ_ _ q=>q.elim⟩
 ·rintro t _ _ ⟨T,w3,rfl,rfl,_⟩;exact atO _ _
 ·rintro t d _ _ ed ⟨T,w3,rfl,rfl,mi,tn,tm⟩;have ed:(stD O').reverse[t]?=some d:=ed;rw[show (stD O').reverse=stD O'.reverse by unfold stD;rw[List.map_reverse]]at ed;obtain⟨x,rfl,ex⟩:=z2w ed;obtain⟨ht,xt⟩:=K02.mp ex;have xO:x∈O':=by have:=K0s ex;simpa using this
  have xV:=(ke.mem x).mp xO;have cut:O'=(O'.reverse.drop (t+1)).reverse++x::(O'.reverse.take t).reverse:=by
   conv=>lhs;rw[<- K70 O',<- K9c t O'.reverse,K3a ht,xt]
   simp
  have nxt:O'.reverse.take (t+1)=O'.reverse.take t++[x]:=by rw[K2i ht,xt]
  have rv:(O'.reverse.take (t+1)).reverse=x::(O'.reverse.take t).reverse:=by rw[nxt,Z11];rfl
  refine W_of (v:=[.(r b),.(r H.length),.(r (H.length+1)),.(i x)]) rfl ?_;have aT:∀T P,(H1++(O.dK (kvN T)::O.lst P::k3))[H.length]?=some (.dK (kvN T)):=λT P=>by rw[<- lH];exact am0
  have aP:∀T P,(H1++(O.dK (kvN T)::O.lst P::k3))[H.length+1]?=.(l P):=λT P=>by rw[<- lH];exact am1
  refine z2r (decide (x∉T)) ?_ ?_
  ·refine(cb_h (e2_h .(d) .(d) (z9a (n:=H.length) (x:=x) (neg:=true) (l:=T) (aT _ _)))).trans ?_;by_cases q:x∈T<;>simp[q]
  by_cases q:x∈T
  ·rw[.(m) (λz=>z q),if_neg (by decide)];have ep:partsOf (gS n V f) V (O'.reverse.take (t+1))=partsOf (gS n V f) V (O'.reverse.take t):=by
    rw[nxt,z3G];unfold addP;rw[if_pos ((tm x).mp q)]
   refine z0f (y4 ⟨T,_,rfl,by rw[ep],by rw[rv];exact zb7 mi q,tn,λa=>by rw[ep];exact tm a⟩)
  ·rw[decide_eq_true q,if_pos rfl];have tk:=zN2 (st:=gS n V f) (ld:=.ref b) (T:=T) (x:=x) (n:=H.length) (N:=n) (h:=H1++(.dK (kvN T)::.lst (stsD (partsOf (gS n V f) V (O'.reverse.take t)))::k3)) (aT _ _) q tn (λa ha=>hV a (mi.tv a ha)) .(1) (λa b hb=>hV b (zd6 hV fv2 hb).2.1) (hV x xV) (λh1 ag a ra p w bb=>by
    have aV:a∈V:=by
     have:∀{y},RchT (gS n V f) T x y->y∈V:=λh=>by
      induction h with
      | here=>exact xV
      | step _ h2 _ _=>exact(zd6 hV fv2 h2).2.1
     exact this ra
    have ia:=K7e aV;have d1:∀h2:AH,(∀i,i<(H1++(O.dK (kvN T)::O.lst (stsD (partsOf (gS n V f) V (O'.reverse.take t)))::k3)).length->i≠H.length->h2[i]?=(H1++(O.dK (kvN T)::O.lst (stsD (partsOf (gS n V f) V (O'.reverse.take t)))::k3))[i]?)->h2[b]?=some (.dF (kvF c V))/\h2[c+V.idxOf a]?=.(l ((stD (f a)))):=λh2 ag=>by
     have bl:=g.lt;refine⟨?_,?_⟩
     ·rw[ag b (by simp;omega) .(1)];exact gf.app.d
     ·rw[ag _ (by simp;omega) .(1)];exact gf.app.r a aV
    refine⟨.lst (c+V.idxOf a) (stD (f a)),z3c (e2_h .(d) .(d) (z6L (.inr (d1 h1 ag).1) aV)) (d1 h1 ag).2,?_,λh2 ag2=>(d1 h2 ag2).2⟩;rw[z6y hV,if_pos aV];rfl)
   obtain⟨S,et,fs,cs⟩:=tk;have pi:=z7w hv1 t12 ke cut mi q fs cs;have es:setN S=scc (gS n V f) V x:=z2R (z2x S) (by unfold scc;exact rs.filter _) λa=>by rw[z4j];exact pi a
   rw[es,<- lH,sm0,lH]at et;have ep:partsOf (gS n V f) V (O'.reverse.take (t+1))=partsOf (gS n V f) V (O'.reverse.take t)++[scc (gS n V f) V x]:=by
    rw[nxt,z3G];unfold addP;rw[if_neg λz=>q ((tm x).mpr z)]
   refine z1u ?_;refine zR5 (a:=2) (i:=H.length+1) (xs:=stsD (partsOf (gS n V f) V (O'.reverse.take t))) rfl (aP _ _) (fn_h (ds:=[.ref b,.int x,.ref H.length]) (ac_h .(d) (ac_h .(d) (ac_h .(d) rfl))) rfl et) (aP _ _) ?_ ?_
   ·rw[z17];have h1:=z77 (st:=gS n V f) (V:=V) (O'.reverse.take t);rw[K2d,K4m]at h1;have h2:=K0w ke.nd λy hy=>(ke.mem y).mp hy;omega
   ·rw[z4f,<- ep,<- lH,sm1,lH];refine z0f (y4 ⟨T++S,_,rfl,rfl,by rw[rv];exact zu2 hv1 t12 ke cut mi q fs cs,?_,λa=>?_⟩)
    ·rw[K1c];exact⟨tn,fs.nd,λa ha b hb h=>fs.nt b hb (h ▸ ha)⟩
    ·rw[ep,K5p,K00,K00,tm a];simp only[K15,K3z,K13];rw[pi a]
 ·rintro _ _ ⟨T,w3,rfl,rfl,mi,tn,tm⟩;refine Y2 (.ref (H.length+1)) .(d) ⟨rfl,T,k3,?_⟩;rw[show (Src.obj (H.length+2+k.length) (O.lst (stD O')) (stD O').reverse).items.length=O'.reverse.length by show (stD O').reverse.length=_;simp[y6],K1v];unfold prts;rw[hO]
structure PF (s1:List (List Nat)) (V:List Nat) (P:List (List Nat)):Prop where
 nd:P.flatten.Nodup
 is:∀p∈P,∃x∈V,p=scc s1 V x
 cl:∀k a b,a∈(P.take k).flatten->b∈nx s1 a->b∈(P.take k).flatten
section
variable {s1 s2:List (List Nat)}{V:List Nat}
open Classical in
theorem zJ7 {O done:List Nat}(nd:V.Nodup) (hv:∀x∈V,∀y∈nx s1 x,y∈V) (t:Trn s1 s2) (ke:KEnd s2 V O) (e:O=l++x::done) (m:MI s1 V done T) (hx:x∉T):∃S,FndT s1 T x S/\∀a∈S,∀b∈nx s1 a,b∈S\/b∈T:=by
 have xV:x∈V:=(ke.mem x).mp (by rw[e];simp);have inV:∀{y},RchT s1 T x y->y∈V:=λh=>by
  induction h with
  | here=>exact xV
  | step _ h2 _ ih=>exact hv _ ih _ h2
 have nt:∀{y},RchT s1 T x y->y∉T:=λh=>by
  cases h with
  | here=>exact hx
  | step _ _ h3=>exact h3
 refine⟨V.filter λa=>decide (RchT s1 T x a),⟨nd.filter _,λa ha=>?_,?_,λa ha=>?_⟩,λa ha b hb=>?_⟩
 ·simpa using(K06.mp ha).2
 ·exact K06.mpr ⟨xV,by simpa using RchT.here⟩
 ·exact nt (by simpa using(K06.mp ha).2)
 ·have ra:RchT s1 T x a:=by simpa using(K06.mp ha).2
  by_cases q:b∈T
  ·exact .inr q
  ·exact .inl (K06.mpr ⟨hv a (inV ra) b hb,by simpa using ra.step hb q⟩)
theorem zu1 {O:List Nat}(nd:V.Nodup) (hv:∀x∈V,∀y∈nx s1 x,y∈V) (t:Trn s1 s2) (ke:KEnd s2 V O):∀k,k<=O.length->∃T,MI s1 V (O.reverse.take k).reverse T/\(∀a,a∈T↔a∈(partsOf s1 V (O.reverse.take k)).flatten)/\PF s1 V (partsOf s1 V (O.reverse.take k))
 | 0,_=>⟨[],⟨(λa ha=>by cases ha),(λa ha=>by simp at ha),(λa ha=>by cases ha)⟩,λa=>by simp[partsOf],⟨by simp[partsOf],by simp[partsOf],by simp[partsOf]⟩⟩
 | k+1,hk=>by
  obtain⟨T,mi,tm,pf⟩:=zu1 nd hv t ke k .(1);have ht:k<O.reverse.length:=by rw[K4m];omega
  obtain⟨x,xt⟩:∃x,O.reverse[k]=x:=⟨_,rfl⟩;have cut:O=(O.reverse.drop (k+1)).reverse++x::(O.reverse.take k).reverse:=by
   conv=>lhs;rw[<- K70 O,<- K9c k O.reverse,K3a ht,xt]
   simp
  have nxt:O.reverse.take (k+1)=O.reverse.take k++[x]:=by rw[K2i ht,xt]
  have rv:(O.reverse.take (k+1)).reverse=x::(O.reverse.take k).reverse:=by rw[nxt,Z11];rfl
  have xV:x∈V:=(ke.mem x).mp (by rw[cut];simp);rw[rv,nxt,z3G];by_cases q:x∈T
  ·unfold addP;rw[if_pos ((tm x).mp q)];exact⟨T,zb7 mi q,tm,pf⟩
  ·unfold addP;rw[if_neg λz=>q ((tm x).mpr z)];obtain⟨S,fs,cs⟩:=zJ7 nd hv t ke cut mi q;have pi:=z7w hv t ke cut mi q fs cs;have mi2:=zu2 hv t ke cut mi q fs cs;have tm2:∀a,a∈T++S↔a∈(partsOf s1 V (O.reverse.take k)++[scc s1 V x]).flatten:=λa=>by
    rw[K5p,K00,K00,tm a];simp only[K15,K3z,K13];rw[pi a]
   refine⟨T++S,mi2,tm2,⟨?_,λp hp=>?_,λj a b ha hb=>?_⟩⟩
   ·rw[K5p,K1c];refine⟨pf.nd,by simp only[K15,K3z,K13];exact nd.filter _,λa ha b hb h=>?_⟩;simp only[K15,K3z,K13]at hb;exact fs.nt b ((pi b).mpr hb) ((tm b).mpr (h ▸ ha))
   ·rcases K00.mp hp with z|z
    ·exact pf.is p z
    ·simp at z;subst z;exact⟨x,xV,rfl⟩
   ·by_cases hj:j<=(partsOf s1 V (O.reverse.take k)).length
    ·rw[K2v hj]at ha ⊢;exact pf.cl j a b ha hb
    ·rw[K6k (by simp;omega)]at ha ⊢;exact(tm2 b).mp (mi2.cl a ((tm2 a).mpr ha) b hb)
end
theorem zI2 {V:List Nat}(nd:V.Nodup) (hV:∀x∈V,x<n) (hn:n<=40) (fv:∀x∈V,∀y∈f x,y∈V):PF (gS n V f) V (prts n V f)/\∀a,a∈(prts n V f).flatten↔a∈V:=by
 have vl:V.length<=40:=K0q (z0Y nd hV) hn;have hv1:∀x∈V,∀y∈nx (gS n V f) x,y∈V:=λx hx y hy=>(zd6 hV fv hy).2.1;have tv:∀x∈V,∀y∈trn V f x,y∈V:=λx hx y hy=>(K06.mp hy).1;have ke:KEnd (gS n V (trn V f)) V (kEnd (gS n V (trn V f)) V):=z7v (λx hx=>by
  rw[z6y hV,if_pos hx];exact⟨K0q (K10 _ _) vl,tv x hx⟩) vl
 obtain⟨T,mi,tm,pf⟩:=zu1 nd hv1 (zt0 hV fv) ke _ (K04 _);rw[K6k .(f)]at mi tm pf;refine⟨pf,λa=>?_⟩;show a∈(partsOf (gS n V f) V (kEnd (gS n V (trn V f)) V).reverse).flatten↔_;rw[<- tm a];exact⟨λh=>mi.tv a h,λh=>mi.dn a (by simpa using(ke.mem a).mpr h)⟩
theorem zm0 {V:List Nat}(q:SQ st) (sr:∀l∈st,l.Pairwise (·<·)) (rs:V.Pairwise (·<·)) (hV:∀x∈V,x<st.length):z0t [maD st mk,.tup (stD V)]=newL (stsD (prts st.length V (inV st V))):=by
 have rl:∀l∈st,l.length<=1000:=λl hl=>K0q (z48 (sr l hl) (q.s2 l hl)) (by have:=q.l2;omega);have nd:=z0e rs;have vl:V.length<=40:=K0q (z0Y nd hV) q.l2;have fv:∀x∈V,(inV st V x).Nodup/\∀y∈inV st V x,y∈V:=λx hx=>⟨(z0e (sr _ (K0s (zt8 (hV x hx))))).filter _,λy hy=>by simpa using(K06.mp hy).2⟩;have pl:(stsD (prts st.length V (inV st V))).length<=1000000:=by
  rw[z17];have h1:=z77 (st:=gS st.length V (inV st V)) (V:=V) (kEnd (gS st.length V (trn V (inV st V))) V).reverse;have h2:(kEnd (gS st.length V (trn V (inV st V))) V).length<=V.length:=by
   have tv:∀x∈V,∀y∈trn V (inV st V) x,y∈V:=λx hx y hy=>(K06.mp hy).1;have ke:KEnd (gS st.length V (trn V (inV st V))) V (kEnd (gS st.length V (trn V (inV st V))) V):=z7v (λx hx=>by
    rw[z6y hV,if_pos hx];exact⟨K0q (K10 _ _) vl,tv x hx⟩) vl
   exact K0w ke.nd λy hy=>(ke.mem y).mp hy
  rw[K4m]at h1;unfold prts;omega
 refine funext λh=>?_;obtain⟨b,c,k,e1,g,lb⟩:=z81 (mk:=mk) (h:=h) q rl nd hV;have e2':=zG3 (n:=st.length) g rs hV q.l2 fv;have bl:=g.lt;rw[zd3 pl];refine z7p (i:=(h++k).length) (xs:=stsD (prts st.length V (inV st V))) (j:=k.set (b - .(g)) (.dF (kvF c V))++[.lst (stsD (prts st.length V (inV st V)))]) ?_ .(f) ?_ (J9 λa=>z15 a)
 ·refine z2V ?_;show W (z0U [some .(7),.(g (stD V))]) h _;unfold z0U;refine Y2 (.ref (h++k).length) (fn_h (ds:=[.ref b]) (ac_h (fn_h (ds:=[maD st mk,.tup (stD V)]) (ac_h .(d) (ac_h .(d) rfl)) rfl e1) rfl) rfl e2') ⟨rfl,?_⟩;rw[K0t _ _ lb,K05]
 ·rw[<- K05,K0e .(f)];simp
inductive Pt (st:List (List Nat)) (S:Nat->Prop):Nat->Nat->Prop
 | one {x y:Nat}:S x->S y->y∈nx st x->Pt st S x y
 | cons {x y z:Nat}:S x->z∈nx st x->Pt st S z y->Pt st S x y
section
variable {T:Nat->Prop}
theorem Pt.fst (p:Pt st S x y):S x:=by cases p<;>assumption
theorem Pt.lst (p:Pt st S x y):S y:=by induction p<;>assumption
theorem Pt.trans (p:Pt st S x y) (q:Pt st S y z):Pt st S x z:=by
 induction p with
 | one a b c=>exact .cons a c q
 | cons a b _ ih=>exact .cons a b (ih q)
theorem Pt.mono (h:∀x,S x->T x) (p:Pt st S x y):Pt st T x y:=by
 induction p with
 | one a b c=>exact .one (h _ a) (h _ b) c
 | cons a b _ ih=>exact .cons (h _ a) b ih
theorem Pt.next (p:Pt st S x y):∃z,z∈nx st x/\S z:=by
 cases p with
 | one a b c=>exact⟨_,c,b⟩
 | cons a b q=>exact⟨_,b,q.fst⟩
theorem Ub.back {W:List Nat}(p:Pt st (·∈W) x y) (u:Ub st W g y):Ub st W g x:=by
 induction p with
 | one a b c=>exact .step a c u
 | cons a b _ ih=>exact .step a b (ih u)
theorem Ub.path {W:List Nat}(hg:∀x∈g,x∈W) (u:Ub st W g x):x∈g\/∃y∈g,Pt st (·∈W) x y:=by
 induction u with
 | goal h=>exact .inl h
 | step a b _ ih =>
  right;rcases ih with h|⟨y,h1,h2⟩
  ·exact⟨_,h,.one a (hg _ h) b⟩
  ·exact⟨y,h1,.cons a b h2⟩
theorem Ub.mono {W g':List Nat}(h:∀x∈g,x∈g') (u:Ub st W g x):Ub st W g' x:=by
 induction u with
 | goal a=>exact .goal (h _ a)
 | step a b _ ih=>exact .step a b ih
end
structure GR (st:List (List Nat)) (mk:List (List Str)) (ws:List (Str×Str)) (S:Nat->Prop):Prop where
 ne:∃x,S x
 rn:∀x y,S x->S y->Pt st S x y
 wi:∀w∈ws,(∃x,S x/\bear w.1 mk x=true)->∃y,S y/\bear w.2 mk y=true
section
variable {V K:List Nat}
def Goal (st:List (List Nat)) (mk:List (List Str)) (ws:List (Str×Str)) (V:List Nat) (x:Nat):Prop:=∃S:Nat->Prop,GR st mk ws S/\(∀y,S y->y∈V)/\S x
noncomputable def gl (st:List (List Nat)) (mk:List (List Str)) (ws:List (Str×Str)) (V:List Nat):List Nat:=V.filter λx=>@decide (Goal st mk ws V x) (K4s _)
theorem gl_mem:x∈gl st mk ws V↔Goal st mk ws V x:=by
 unfold gl;rw[K06,@decide_eq_true_eq _ (K4s _)];exact⟨λh=>h.2,λh=>⟨by obtain⟨S,_,h2,h3⟩:=h;exact h2 _ h3,h⟩⟩
structure KeP (st:List (List Nat)) (mk:List (List Str)) (ws:List (Str×Str)) (V K:List Nat):Prop where
 sub:∀x∈K,x∈V
 nxt:∀x∈K,∃y∈nx st x,y∈K
 wi:∀w∈ws,∀x∈K,bear w.1 mk x=true->Ub st K (K.filter λy=>bear w.2 mk y) x
 all:∀S,GR st mk ws S->(∀y,S y->y∈V)->∀x,S x->x∈K
open Classical in
theorem KeP.goes (k:KeP st mk ws V K):∀(n:Nat) (x:Nat),x∈K->(K.filter λy=>decide (x=y\/Pt st (·∈K) x y)).length<=n->Ub st V (gl st mk ws V) x
 | n,x,hx,hn=>by
  by_cases c:∀y,Pt st (·∈K) x y->Pt st (·∈K) y x
  ·refine .goal (gl_mem.mpr ⟨λy=>x=y\/Pt st (·∈K) x y,⟨⟨x,.inl rfl⟩,?_,?_⟩,?_,.inl rfl⟩)
   ·have self:Pt st (·∈K) x x:=by
     obtain⟨y,h1,h2⟩:=k.nxt x hx;exact(Pt.one hx h2 h1).trans (c y (.one hx h2 h1))
    have lift:∀{a b:Nat},Pt st (·∈K) a b->Pt st (·∈K) x a->Pt st (λy=>x=y\/Pt st (·∈K) x y) a b:=λ{a b} p=>by
     induction p with
     | one a1 b1 c1=>exact λq=>.one (.inr q) (.inr (q.trans (.one a1 b1 c1))) c1
     | cons a1 b1 q1 ih=>exact λq=>.cons (.inr q) b1 (ih (q.trans (.one a1 q1.fst b1)))
    have to:∀{a:Nat},(x=a\/Pt st (·∈K) x a)->Pt st (·∈K) x a:=λh=>h.elim (λe=>e ▸ self) λh=>h;intro a b ha hb;exact lift ((c a (to ha)).trans (to hb)) (to ha)
   ·rintro w hw ⟨y,hy,by'⟩;have yK:y∈K:=hy.elim (λe=>e ▸ hx) λp=>p.lst;rcases(k.wi w hw y yK by').path (λz hz=>(K06.mp hz).1) with h|⟨z,h1,h2⟩
    ·exact⟨y,hy,by simpa using(K06.mp h).2⟩
    ·refine⟨z,.inr ?_,by simpa using(K06.mp h1).2⟩;rcases hy with rfl|hy
     ·exact h2
     ·exact hy.trans h2
   ·intro y hy;exact k.sub y (hy.elim (λe=>e ▸ hx) λp=>p.lst)
  ·obtain⟨y,hy⟩:=K9g.mp c;obtain⟨p,np⟩:=Z1p.mp hy;have ne:x≠y:=λe=>np (by subst e;exact p);have lt:(K.filter λz=>decide (y=z\/Pt st (·∈K) y z)).length<(K.filter λz=>decide (x=z\/Pt st (·∈K) x z)).length:=by
    have:(K.filter λz=>decide (y=z\/Pt st (·∈K) y z))=(K.filter λz=>decide (x=z\/Pt st (·∈K) x z)).filter λz=>decide (y=z\/Pt st (·∈K) y z):=by
     rw[Z1k];refine K6h λz _=>?_;rw[K0o,K0k,.(h),.(h)];exact⟨λh=>⟨h,.inr (h.elim (λe=>e ▸ p) λq=>p.trans q)⟩,λh=>h.1⟩
    rw[this];refine K3f.mpr ⟨x,K06.mpr ⟨hx,by simp⟩,?_⟩;simp only[decide_eq_true_eq];rintro(e|q)
    ·exact ne e.symm
    ·exact np q
   match n with
   | 0=>omega
   | n+1 =>
    exact Ub.back (p.mono k.sub) (KeP.goes k n y p.lst .(1))
theorem KeP.same (k:KeP st mk ws V K) (u1:UL st V K u):UL st V (gl st mk ws V) u:=by
 refine⟨u1.nd,λx=>⟨λh=>?_,λh=>?_⟩⟩
 ·have h:=(u1.iff x).mp h;induction h with
  | goal a=>exact k.goes _ _ a (K04 _)
  | step a b _ ih=>exact .step a b (ih ((u1.iff _).mpr ‹_›))
 ·refine(u1.iff x).mpr (h.mono λy hy=>?_);obtain⟨S,h1,h2,h3⟩:=gl_mem.mp hy;exact k.all S h1 h2 y h3
theorem UL.gl {g u:List Nat}(e:∀x,x∈g↔Goal st mk ws V x) (u1:UL st V g u):UL st V (gl st mk ws V) u :=
 ⟨u1.nd,λx=>(u1.iff x).trans ⟨Ub.mono λy hy=>gl_mem.mpr ((e y).mp hy),Ub.mono λy hy=>(e y).mpr (gl_mem.mp hy)⟩⟩
end
def wD (w:Str×Str):D:=.tup [.str w.1,.str w.2]
theorem z4a {n:Str}(hi:i<mk.length):z1v [maD st mk,.int (i:Nat),.str n]=pure (.bl (bear n mk i)):=by
 unfold z1v;rw[z35,z2i];show z63 [some .(7),.(i (i:Nat)),.(s n)]=_;unfold z63 maD bear;by_cases h:n = ""
 ·subst h;simp only[K1z,K7,K4,z0L,z9,bNil,x6,decide_true,e2,eOr,eVar,zA2,if_true,ix1,sRet];rfl
 ·simp only[K1z,K1f,K7,K4,z0L,z9,bNil,x6,bne_self_eq_false,decide_eq_false h,e2,eOr,eVar,zA2,if_false,zH7,ix1,ix_tup (zP8 hi),sRet];simp
def z5G (mk:List (List Str)) (l:List Nat) (n:Str):Bool:=l.any λi=>bear n mk i
theorem zs3 {n:Str}(hl:l.length<=1000000) (hi:∀x∈l,x<mk.length):z1T [maD st mk,.tup (stD l),.str n]=pure (.bl (z5G mk l n)):=by
 unfold z1T;rw[z35,z2i];show z2K [some .(7),.(g (stD l)),.(s n)]=_;unfold z2K;have e:=zC0 (γ:=[some .(7),.(g (stD l)),.(s n)]) (cap:=[some 0,some 2,none]) (mi:=Y7 .(j)) (g:=gN 2) (k:=λ_=>pure true) (me:=eFn 3 z1v (z7 .(i) (z7 (eVar 2) (z7 .(j) aNil)))) (items:=stD l) true (λ_=>true) (λd=>bear n mk (numD d)) rfl (by rw[y6];exact hl) λd hd=>?_
 ·rw[z9J _ e,filter_tt,if_pos rfl,zD6 _ (λx=>bear n mk x)];rfl
 ·obtain⟨x,hx,rfl⟩:=z8J hd;refine⟨[some .(7),.(s n),.(i (x:Nat))],?_,rfl,λ_=>?_⟩
  ·simp only[K7,K4,K0v,K2a,K08,K07,K3d,capG,gN]
  ·simp only[K7,K4,K01,K0b,K0p,z7,aNil,z4a (hi x hx),x6,eFn,eVar,if_true];rfl
theorem zA3 {n:Str}(hl:l.length<=1000000) (hi:∀x∈l,x<mk.length):z1i [maD st mk,.tup (stD l),.str n]=pure (.tup (stD (l.filter λx=>!bear n mk x))):=by
 unfold z1i;rw[z35,z2i];show z1j [some .(7),.(g (stD l)),.(s n)]=_;unfold z1j;have e:=z7T (γ:=[some .(7),.(g (stD l)),.(s n)]) (cap:=[some 0,some 2,none]) (mi:=Y7 .(j)) (g:=gN 2) (k:=cNot (cVal (eFn 3 z1v (z7 .(i) (z7 (eVar 2) (z7 .(j) aNil)))))) (me:=eVar 2) (items:=stD l) (λd=>!bear n mk (numD d)) (λd=>d) rfl (by rw[y6];exact hl) (λd hd=>?_)
 ·rw[z9J _ (e ?_),z4F l λx=>!bear n mk x];rw[z4F l λx=>!bear n mk x];exact z1K _
 ·obtain⟨x,hx,rfl⟩:=z8J hd;refine⟨[some .(7),.(s n),.(i (x:Nat))],?_,?_,λ_=>rfl⟩
  ·simp only[K7,K4,K0v,K2a,K08,K07,K3d,capG,gN]
  ·simp only[K7,K4,K01,K0b,K0p,z7,aNil,z4a (hi x hx),x6,cNot,cVal,eFn,eVar,if_true,z2D];rfl
theorem z9A {n:Str}(hm:mk.length<=1000):z1s [maD st mk,.str n]=pure (.tup (stD ((K0m mk.length).filter λx=>bear n mk x))):=by
 unfold z1s;rw[z35,z2i];show z3v [some .(7),.(s n),none]=_;unfold z3v;have e:=z7T (γ:=[some .(7),.(s n),none]) (cap:=[some 0,some 1,none]) (mi:=z0b (Z7 fLen (z7 (e2 fIx .(i) .(e)) aNil))) (g:=gN 2) (k:=cVal (eFn 3 z1v (z7 .(i) (z7 (eVar 2) (z7 .(j) aNil))))) (me:=eVar 2) (items:=stD (K0m mk.length)) (λd=>bear n mk (numD d)) (λd=>d) ?_ (by rw[y6,K1q];omega) (λd hd=>?_)
 ·rw[z9J _ (e ?_),z4F _ λx=>bear n mk x];rw[z4F _ λx=>bear n mk x];exact z1K _
 ·exact funext λh=>z1t (J0 (e2_h .(d) (y:=.int 1) rfl (by rw[zw7];rfl)) (by rw[z33,zh0];rfl)) .(1)
 ·obtain⟨x,hx,rfl⟩:=z8J hd;rw[K18]at hx;refine⟨[some .(7),.(s n),.(i (x:Nat))],?_,?_,λ_=>rfl⟩
  ·simp only[K7,K4,K0v,K2a,K08,K07,K3d,capG,gN]
  ·simp only[K7,K4,K01,K0b,K0p,z7,aNil,z4a hx,x6,cVal,eFn,eVar,if_true,z2D];rfl
theorem zq7 {p:List Nat}(hy:y<st.length):z2N [.tup (stsD st),.tup (stD (y::p))]=pure (.bl (decide (1<(y::p).length)||decide (y∈nx st y))):=by
 unfold z2N;rw[z35,z2i];show z2Q [.(g (stsD st)),.(g ((stD (y::p))))]=_;unfold z2Q;have f0:fIx (.tup (stD (y::p))) (.int 0)=pure (.int (y:Nat)):=ix0;obtain⟨n,hn⟩:∃n,n=(y::p).length:=⟨_,rfl⟩;have l:fLen [.tup (stD (y::p))]=pure (.int (n:Nat)):=by rw[z33,y6,hn]
 rw[<- hn];by_cases c:1<n
 ·simp only[K7,K4,z7,aNil,z0L,z9,bNil,x6,decide_eq_true (show (1:Int)<(n:Nat) by omega),decide_eq_true c,e2,Z7,eOr,eVar,z6I,if_true,l,sRet];rfl
 ·simp only[K1z,K1f,K7,K4,z7,aNil,z0L,z9,bNil,x6,decide_eq_false (show ¬(1:Int)<(n:Nat) by omega),decide_eq_false c,e2,Z7,eOr,eVar,f0,z6I,if_false,zW3,zj8 hy,l,sRet];simp
def badW (mk:List (List Str)) (p:List Nat) (w:Str×Str):Bool:=z5G mk p w.1&&!z5G mk p w.2
theorem zk0 (hl:l.length<=1000) (hi:∀x∈l,x<mk.length) (hw:ws.length<=1000):
 ∃d,z2e [maD st mk,.tup (stD l),.tup (ws.map wD)]=pure d/\((d=.int (-1)/\∀w∈ws,badW mk l w=false)\/∃i w,d=.int (i:Nat)/\ws[i]?=some w/\badW mk l w=true):=by
 have key:∀h:AH,W (runF 6 z0E [maD st mk,.tup (stD l),.tup (ws.map wD)]) h λd h1=>h1=h/\d=match ws.findIdx? (badW mk l) with|none=>.int (-1)|some i=>.int (i:Nat):=λh=>by
  refine z1z ?_;show W (z0E [some .(7),.(g (stD l)),.(g (ws.map wD)),none,none,none]) h _;unfold z0E;rw[w_cons];refine z07 (λc γ h'=>∃v1 v2 v3,γ=[some .(7),.(g (stD l)),.(g (ws.map wD)),v1,v2,v3]/\h'=h/\∀i w,i<c->ws[i]?=some w->badW mk l w=false) (λd h'=>h'=h/\∃i:Nat,d=.int i/\ws.findIdx? (badW mk l)=some i) ?_;refine W_of (v:=Src.con (z3n (ws.map wD))) rfl ⟨⟨none,none,none,rfl,rfl,λi w hi=>by omega⟩,λ_ _ _ _=>trivial,?_,?_,?_⟩
  ·rintro c d γ h' hd ⟨v1,v2,v3,rfl,rfl,no⟩;obtain⟨⟨a,b⟩,ew,rfl⟩:∃w,ws[c]?=some w/\d=.tup [.int (c:Nat),wD w]:=by
    have hd:(z3n (ws.map wD))[c]?=some d:=hd;unfold z3n at hd;rw[K0i,K0d]at hd;have hc:c<ws.length:=by
     by_cases z:c<ws.length
     ·exact z
     ·rw[K1i (by simpa using z)]at hd;cases hd
    rw[K3u hc]at hd;refine⟨ws[c],K9 hc,?_⟩;have hd:=(K19 hd).symm;dsimp only at hd;rw[K0i,K9 hc]at hd;exact hd
   refine W_eq (v:=[some .(7),.(g (stD l)),.(g (ws.map wD)),.(i (c:Nat)),.(s a),.(s b)]) (by unfold wD;simp only[K01,K0b,K08,K07,K0p,x6,z0r,gN,z3o,gT,if_true]) ?_;refine q_if (badW mk l (a,b)) (by
    simp only[K7,K4,K01,K0b,K0p,z7,aNil,x6,zs3 (st:=st) .(1) hi,cAnd,cNot,cVal,eFn,eVar,if_true,z2D];unfold badW;cases z5G mk l a<;>simp) ?_
   cases c1:badW mk l (a,b) with
   | true =>
    rw[if_pos rfl];refine z1u (zo3 (.int (c:Nat)) rfl ⟨rfl,c,rfl,?_⟩);obtain⟨hc,ec⟩:=K02.mp ew;refine K66.mpr ⟨hc,by rw[ec];exact c1,λj hj=>?_⟩;rw[no j ws[j] hj (K9 .(1))];decide
   | false =>
    rw[if_neg (by decide)];refine z0f (y4 ⟨_,_,_,rfl,rfl,λi w hi hw'=>?_⟩);by_cases z:i<c
    ·exact no i w z hw'
    ·obtain rfl:i=c:=by omega
     rw[ew]at hw';cases hw';exact c1
  ·rintro γ h' ⟨v1,v2,v3,rfl,rfl,no⟩;refine zo3 (.int (-1)) rfl ⟨rfl,?_⟩;have:ws.findIdx? (badW mk l)=none:=K7s.mpr λw hw=>by
    obtain⟨i,hi,e⟩:=K1m hw;exact no i w (by simp[Src.items,z3n];exact hi) (by rw[K9 hi,e])
   rw[this]
  ·rintro d h' ⟨rfl,i,rfl,e⟩;exact⟨rfl,by rw[e]⟩
 cases e:ws.findIdx? (badW mk l) with
 | none =>
  refine⟨.int (-1),funext λh=>?_,.inl ⟨rfl,λw hw=>?_⟩⟩
  ·obtain⟨d,h1,e1,rfl,e2⟩:=key h;rw[e]at e2;subst e2;exact z0u (j:=[]) (by rw[K13];exact e1) rfl
  ·have:=K7s.mp e w hw;simpa using this
 | some i =>
  obtain⟨hi',hp,_⟩:=K66.mp e;refine⟨.int (i:Nat),funext λh=>?_,.inr ⟨i,ws[i],rfl,K9 hi',hp⟩⟩;obtain⟨d,h1,e1,rfl,e2⟩:=key h;rw[e]at e2;subst e2;exact z0u (j:=[]) (by rw[K13];exact e1) rfl
theorem zp6 (q:MA st mk) (e:DAt h i (kvN T)) (hx:x<st.length):z0A [maD st mk,.int x,.ref i] h=.ok (.bl ((nx st x).any λy=>decide (y∈T))) h:=by
 refine z41 ?_ rfl;refine z2V ?_;show W (z0B [some .(7),.(i x),.(r i)]) h _;unfold z0B;have c:=z1I (cap:=[some 2,none]) (mi:=Y7 (e2 fIx (e2 fIx .(i) .(c)) .(j))) (g:=gN 1) (kb:=λ_=>pure true) (me:=e2 (fInD false) .(j) .(i)) (γ:=[some .(7),.(i x),.(r i)]) (h:=h) (src:=.con (stD (nx st x))) (l:=nx st x) (λ_=>true) (λy=>.bl (decide (y∈T))) (z0C (zW0 .(d) .(d) hx)) rfl (λ_=>trivial) (by have:=zh5 q x;have:=q.l2;omega) λy hy=>⟨[.(r i),.(i y)],λ_=>rfl,λ_=>rfl,λ_ j=>e2_h .(d) .(d) (by rw[zQ7 (l:=T) (v:=λ_=>.bl true) e.app,K1z])⟩;rw[filter_tt,show (nx st x).map (λy=>D.bl (decide (y∈T)))=((nx st x).map λy=>decide (y∈T)).map .bl by rw[K1h];rfl]at c;refine Y2 _ (zw5 c) ⟨?_,rfl⟩;rw[K8t];rfl
def into (st:List (List Nat)) (T:List Nat) (x:Nat):Bool:=(nx st x).any λy=>decide (y∈T)
theorem into_iff:into st T x=true↔∃y∈nx st x,y∈T:=any_iff
structure LO (st:List (List Nat)) (V K:List Nat):Prop where
 sub:K.Sublist V
 nxt:∀x∈K,∃y∈nx st x,y∈K
 all:∀S:Nat->Prop,(∀x,S x->x∈V)->(∀x,S x->∃y∈nx st x,S y)->∀x,S x->x∈K
theorem zN5 {V:List Nat}{h:AH}(q:MA st mk) (Vn:V.Nodup) (Vl:∀x∈V,x<st.length):
 ∃K,LO st V K/\z2v [maD st mk,.tup (stD V)] h=.ok (.tup (stD K)) h:=by
 have n40:=q.l2;have Vle:V.length<=st.length:=z22 Vn Vl;have key:W (runF 4 z0X [maD st mk,.tup (stD V)]) h λd h1=>(∃K,LO st V K/\d=.tup (stD K))/\∃j,h1=h++j:=by
  refine z1z ?_;show W (z0X [some .(7),.(g (stD V)),none,none]) h _;unfold z0X;refine w8 (.ref .(g)) [some .(7),.(g (stD V)),.(r .(g)),none] (z4U (src:=.con (stD V)) (z0C .(d)) rfl (λ_=>trivial) Vn .(1) λx hx=>⟨[.(i x)],λ_=>rfl,λ_=>rfl,λ_=>rfl,λ_=>rfl⟩) rfl ?_;refine w8 (.int (-1)) [some .(7),.(g (stD V)),.(r .(g)),.(i (-1))] rfl rfl ?_;refine z23 (λγ h1=>∃K n v,γ=[some .(7),.(g (stD V)),.(r n),v]/\DAt h1 n (kvN K)/\(∃j,h1=h++j)/\LO st V K) ?_ ?_
  ·refine z0v (λm γ h1=>∃(K:List Nat) (n:Nat) (many:Int),γ=[some .(7),.(g (stD V)),.(r n),.(i many)]/\h1[n]?=some (.dK (kvN K))/\.(g)<=n/\(∃j,h1=h++j)/\K.Sublist V/\(∀S:Nat->Prop,(∀x,S x->x∈V)->(∀x,S x->∃y∈nx st x,S y)->∀x,S x->x∈K)/\(many=(K.length:Nat)->∀x∈K,∃y∈nx st x,y∈K)/\(many=-1\/(K.length:Int)<=many)/\m=2 * K.length+(if many=(K.length:Nat) then 0 else 1)) _ _ ?_ 1000000 (2 * V.length+1) _ _ .(1) ⟨V,.(g),-1,rfl,z0D,K04 _,⟨_,rfl⟩,K7w _,λS h1 h2 x hx=>h1 x hx,λz=>by omega,.inl rfl,by rw[if_neg .(1)]⟩;rintro m γ h1 ⟨K,n,many,rfl,eK,hn,⟨j,rfl⟩,sub,all,nxt,mle,hm⟩;have Kle:=sub.length_le;refine W.of (a:=!decide ((K.length:Int)=many)) (h':=h++j) (cb_h (e2_h (J0 .(d) (z8K eK)) .(d) (by rw[z6o,K58];rfl))) ?_;by_cases e:(K.length:Int)=many
   ·rw[decide_eq_true e,K3i,if_neg (by decide)];exact⟨K,n,_,rfl,.inl eK,⟨j,rfl⟩,sub,nxt e.symm,all⟩
   ·rw[.(m) e,K4r,if_pos rfl];rw[if_neg (λz=>e z.symm)]at hm;refine⟨2 * K.length,by omega,?_⟩;refine w8 (.int (K.length:Nat)) [some .(7),.(g (stD V)),.(r n),.(i (K.length:Nat))] (J0 .(d) (z8K eK)) rfl ?_;have Kn:K.Nodup:=sub.nodup Vn;have Kl:∀x∈K,x<st.length:=λx hx=>Vl x (sub.subset hx);have nl:=(K02.mp eK).1;obtain⟨h2,e2⟩:∃h2,h2=(h++j).set n (.dF (kvN K)):=⟨_,rfl⟩;have eF:DAt h2 n (kvN K):=.inr (by rw[e2,K1o nl]);have j2:∃j',h2=h++j':=⟨_,by rw[e2,K0t _ _ hn]⟩;have c:=z8F (cap:=[some 0,some 2,none]) (mi:=iDic (eVar 2)) (g:=gN 2) (kb:=cVal (eFn 3 z0A (z7 .(i) (z7 (eVar 2) (z7 .(j) aNil))))) (me:=eVar 2) (mv:=λ_=>pure (.bl true)) (γ:=[some .(7),.(g (stD V)),.(r n),.(i (K.length:Nat))]) (h:=h++j) (h1:=h2) (src:=.con (stD K)) (V:=K) (into st K) (λ_=>.bl true) (by rw[e2];exact zA4 (v:=λ_=>.bl true) .(d) eK) rfl (λ_=>trivial) Kn .(1) λx hx=>⟨[some .(7),.(r n),.(i x)],λ_=>rfl,λj=>cv_h (fn_h (ds:=[maD st mk,.int x,.ref n]) (ac_h .(d) (ac_h .(d) (ac_h .(d) rfl))) rfl (zp6 q eF.app (Kl x hx))),λ_=>rfl,λ_=>rfl⟩;refine w8 (.ref h2.length) [some .(7),.(g (stD V)),.(r h2.length),.(i (K.length:Nat))] c rfl ?_;obtain⟨j',ej⟩:=j2;have fl:=K10 (into st K) K;refine y4 ⟨_,?_,K.filter (into st K),h2.length,_,rfl,z0D,by rw[ej,K3];omega,⟨j'++_,by rw[ej,K05]⟩,K4k.trans sub,λS h1 h3 x hx=>?_,λz=>?_,.inr .(1),rfl⟩
    ·by_cases z:((K.length:Nat):Int)=((K.filter (into st K)).length:Nat)
     ·rw[if_pos z];omega
     ·rw[if_neg z];omega
    ·obtain⟨y,y1,y2⟩:=h3 x hx;exact K06.mpr ⟨all S h1 h3 x hx,into_iff.mpr ⟨y,y1,all S h1 h3 y y2⟩⟩
    ·have:K.filter (into st K)=K:=K4k.eq_of_length .(1);rw[this];intro x hx;rw[<- this]at hx;exact into_iff.mp (K06.mp hx).2
  ·rintro γ h1 ⟨K,n,v,rfl,eK,hj,lo⟩;exact Y2 (.tup (stD K)) (J0 .(d) (zY9 (v:=λ_=>.bl true) eK)) ⟨⟨K,lo,rfl⟩,hj⟩
 obtain⟨d,h1,e,⟨K,lo,rfl⟩,j,rfl⟩:=key;exact⟨K,lo,z0u e (z15 _)⟩
theorem zg1 (a b:List Nat):(kN a).filter (λk=>decide (k∈kN b))=kN (a.filter λx=>decide (x∈b)):=by
 unfold kN;rw[K53];congr 1;refine K6h λx _=>?_;show decide ((K1j (x:Int):Key)∈b.map λ(i:Nat)=>K1j (i:Int))=decide (x∈b);rw[K0o,.(h),.(h),K1g];exact⟨λ⟨y,hy,e⟩=>by injection e with e;have:y=x:=.(1);exact this ▸ hy,λhx=>⟨x,hx,rfl⟩⟩
section
variable {k:AH}
theorem zm3 {a b:List Nat}(ra:a.Pairwise (·<·)) (la:a.length<64) (lb:b.length<=2000):z2H [.tup (stD a),.tup (stD b)] h=.ok (.tup (stD (a.filter λx=>decide (x∈b)))) h:=by
 refine z41 ?_ (z15 _);refine z2V ?_;show W (z4l [.(g (stD a)),.(g (stD b))]) h _;unfold z4l;have s1:Z7 z1X (z7 .(i) aNil) [.(g (stD a)),.(g (stD b))] h=.ok (.ref .(g)) (h++[.set (kN (dedN a))]):=J0 .(d) (zd8 rfl .(1));have s2:Z7 z1X (z7 .(j) aNil) [.(g (stD a)),.(g (stD b))] (h++[O.set (kN (dedN a))])=.ok (.ref (.(g)+1)) (h++[.set (kN (dedN a))]++[.set (kN (dedN b))]):=J0 .(d) (by rw[zd8 (l:=b) rfl lb,K3,K09]);have g1:(h++[O.set (kN (dedN a))]++[O.set (kN (dedN b))])[h.length]?=some (.set (kN (dedN a))):=by simp
 have g2:(h++[O.set (kN (dedN a))]++[O.set (kN (dedN b))])[.(g)+1]?=some (.set (kN (dedN b))):=by
  have:=z0D (h:=h++[O.set (kN (dedN a))]) (o:=.set (kN (dedN b)));rw[K3,K09]at this;exact this
 have s3:z9z (.ref .(g)) (.ref (.(g)+1)) (h++[O.set (kN (dedN a))]++[O.set (kN (dedN b))])=.ok (.ref (.(g)+2)) (h++[.set (kN (dedN a))]++[.set (kN (dedN b))]++[.set (kN ((dedN a).filter λx=>decide (x∈dedN b)))]):=by
  have q1:getS h.length (h++[O.set (kN (dedN a))]++[O.set (kN (dedN b))])=.ok (kN (dedN a)) (h++[O.set (kN (dedN a))]++[O.set (kN (dedN b))]):=by unfold getS;rw[g1]
  have q2:getS (h.length+1) (h++[O.set (kN (dedN a))]++[O.set (kN (dedN b))])=.ok (kN (dedN b)) (h++[O.set (kN (dedN a))]++[O.set (kN (dedN b))]):=by unfold getS;rw[g2]
  unfold z9z;dsimp only;rw[if_neg .(1),M.bind_ok q1,M.bind_ok q2];show Res.ok _ _=_;rw[zg1,K3,K3,K09,K09]
 have el:Y1 ((dedN a).filter λx=>decide (x∈dedN b))=a.filter λx=>decide (x∈b):=z2R (z1l ((z68 a).filter _)) (ra.filter _) λx=>by
  rw[sortN_mem,K06,K06,dedN_mem,.(h),.(h),dedN_mem]
 have fl:((dedN a).filter λx=>decide (x∈dedN b)).length<64:=by
  have l1:=K10 (λx=>decide (x∈dedN b)) (dedN a);have l2:=K0w (z68 a) λx hx=>dedN_mem.mp hx;omega
 have s4:=J0 (e2_h s1 s2 s3) (zj0 (i:=.(g)+2) (by
  have:=z0D (h:=h++[O.set (kN (dedN a))]++[O.set (kN (dedN b))]) (o:=.set (kN ((dedN a).filter λx=>decide (x∈dedN b))));rw[K3,K3,K09,K09]at this;exact this) fl)
 rw[el]at s4;have s5:=J0 (f:=J7) s4 (zT3 z0D);rw[K05,K05,K05]at s5;exact Y2 (.tup (stD (a.filter λx=>decide (x∈b)))) (z0u s5 (z15 _)) ⟨rfl,rfl⟩
theorem z8O {α β:Type}{m:M α}{f:α->M β}(e:m h=.bad):(m >>= f) h=.bad:=by
 show (match m h with|.ok a h1=>f a h1|.err x h1=>.err x h1|.bad=>.bad)=_;rw[e]
theorem chkW {c m:Str}(g:h[n]?=some (.ins c [])):chkI c m (.ref n) h=.ok () h:=by
 unfold chkI;dsimp only;rw[g];dsimp only;rw[if_pos ⟨rfl,rfl⟩]
theorem chkN {c m:Str}(g:h[n]?=some (.ins c [])) (ne:c≠c'):chkI c' m (.ref n) h=.bad:=by
 unfold chkI;dsimp only;rw[g];dsimp only;rw[if_neg (λz=>ne z.1)]
theorem mtW {c:Str}{x y z:D}(e:γ[0]?=some (.(r n))) (g:h[n]?=some (.ins c [])) (em:mr γ h=.ok [x,y,z] k) (f:mf [.ref n,x,y,z] k=.ok d k):eMt c "until" 3 mf .(i) mr γ h=.ok d k:=by
 unfold eMt;rw[M.bind_ok (Z1 e),M.bind_ok (chkW g),M.bind_ok em,if_pos (show ([x,y,z]:List D).length=3 from rfl)];exact f
theorem mtN {c:Str}(e:γ[0]?=some (.(r n))) (g:h[n]?=some (.ins c [])) (ne:c≠c'):eMt c' "until" 3 mf .(i) mr γ h=.bad:=by
 unfold eMt;rw[M.bind_ok (Z1 e)];exact z8O (chkN g ne)
theorem zI3 {V:List Nat}(q:MA st mk) (w:h[n]?=some (.ins "Rounds" [])\/h[n]?=some (.ins "Worklist" [])) (e0:γ[0]?=some (.(r n))) (em:mr γ h=.ok [maD st mk,.tup (stD V),.tup (stD g)] k) (Vn:V.Nodup) (Vl:∀x∈V,x<st.length) (gn:g.Nodup) (gl:∀x∈g,x<st.length):
 ∃u,UL st V g u/\orE (eMt "Rounds" "until" 3 x9 .(i) mr) (eMt "Worklist" "until" 3 Y0 .(i) mr) γ h=.ok (.tup (stD (Y1 u))) k:=by
 rcases w with w|w
 ·obtain⟨u,ul,e⟩:=zq1 (n:=n) (h:=k) q Vl gn gl;exact⟨u,ul,or_l (mtW e0 w em e)⟩
 ·obtain⟨u,ul,e⟩:=zT2 (n:=n) (h:=k) q Vn Vl gn gl;exact⟨u,ul,by rw[or_r (mtN e0 w .(3))];exact mtW e0 w em e⟩
structure RI (st:List (List Nat)) (mk:List (List Str)) (ws:List (Str×Str)) (V K K1:List Nat) (c:Nat):Prop where
 sub:K1.Sublist K
 all:∀S,GR st mk ws S->(∀y,S y->y∈V)->∀x,S x->x∈K1
 eq:K1.length=K.length->(∀x∈K,∃y∈nx st x,y∈K)/\∀(i:Nat) w,i<c->ws[i]?=some w->∀x∈K,bear w.1 mk x=true->Ub st K (K.filter λy=>bear w.2 mk y) x
theorem RI.next {V K K1:List Nat}{w:Str×Str}(r:RI st mk ws V K K1 c) (ew:ws[c]?=some w) (eg:g=K1.filter λy=>bear w.2 mk y) (ul:UL st K1 g u):RI st mk ws V K (K1.filter λx=>decide (x∈u)||!bear w.1 mk x) (c+1):=by
 refine⟨K4k.trans r.sub,λS hS hV x hx=>?_,λe=>?_⟩
 ·refine K06.mpr ⟨r.all S hS hV x hx,?_⟩;cases b:bear w.1 mk x with
  | false=>simp
  | true =>
   obtain⟨y,hy,by'⟩:=hS.wi w (K0s ew) ⟨x,hx,b⟩;have:x∈u:=(ul.iff x).mpr (Ub.back ((hS.rn x y hx hy).mono (r.all S hS hV)) (.goal (by rw[eg];exact K06.mpr ⟨r.all S hS hV y hy,by simpa using by'⟩)));simp[this]
 ·have l1:=K10 (λx=>decide (x∈u)||!bear w.1 mk x) K1;have l2:=r.sub.length_le;have e1:K1=K:=r.sub.eq_of_length .(1);obtain⟨h1,h2⟩:=r.eq .(1);refine⟨h1,λi w' hi hw' x hx b=>?_⟩;by_cases z:i<c
  ·exact h2 i w' z hw' x hx b
  ·obtain rfl:i=c:=by omega
   rw[ew]at hw';cases hw';have e2:(K1.filter λx=>decide (x∈u)||!bear w.1 mk x)=K1:=K4k.eq_of_length .(1);have:x∈K1.filter λx=>decide (x∈u)||!bear w.1 mk x:=by rw[e2,e1];exact hx
   have:=(K06.mp this).2;rw[b]at this;have xu:x∈u:=by simpa using this
   have:=(ul.iff x).mp xu;rw[eg,e1]at this;exact this
theorem z9D {V:List Nat}(q:MA st mk) (w:h[n]?=some (.ins "Rounds" [])\/h[n]?=some (.ins "Worklist" [])) (Vr:V.Pairwise (·<·)) (Vl:∀x∈V,x<st.length) (hw:ws.length<=1000):
 ∃u,UL st V (gl st mk ws V) u/\w6 [.ref n,maD st mk,.tup (stD V),.tup (ws.map wD)] h=.ok (.tup (stD (Y1 u))) h:=by
 have n40:=q.l2;have Vn:=z0e Vr;have Vle:V.length<=st.length:=z22 Vn Vl;have ml:=q.l3;have key:W (runF 9 z0x [.ref n,maD st mk,.tup (stD V),.tup (ws.map wD)]) h λd h1=>(∃u,UL st V (gl st mk ws V) u/\d=.tup (stD (Y1 u)))/\h1=h:=by
  refine z1z ?_;show W (z0x [.(r n),some .(7),.(g (stD V)),.(g (ws.map wD)),none,none,none,none,none]) h _;unfold z0x;refine z7b (.tup (stD V)) [.(r n),some .(7),.(g (stD V)),.(g (ws.map wD)),.(g (stD V)),none,none,none,none] rfl rfl ?_;refine z7b (.int (-1)) [.(r n),some .(7),.(g (stD V)),.(g (ws.map wD)),.(g (stD V)),.(i (-1)),none,none,none] rfl rfl ?_;refine z23 (λγ h1=>∃K v5 v6 v7 v8,γ=[.(r n),some .(7),.(g (stD V)),.(g (ws.map wD)),.(g (stD K)),v5,v6,v7,v8]/\h1=h/\KeP st mk ws V K/\K.Nodup) ?_ ?_
  ·refine z0v (λm γ h1=>∃(K:List Nat) (many:Int) (v6 v7 v8:Option D),γ=[.(r n),some .(7),.(g (stD V)),.(g (ws.map wD)),.(g (stD K)),.(i many),v6,v7,v8]/\h1=h/\K.Sublist V/\(∀S,GR st mk ws S->(∀y,S y->y∈V)->∀x,S x->x∈K)/\(many=(K.length:Nat)->KeP st mk ws V K)/\m=2 * K.length+(if many=(K.length:Nat) then 0 else 1)) _ _ ?_ 1000000 (2 * V.length+1) _ _ .(1) ⟨V,-1,_,_,_,rfl,rfl,K7w _,λS _ h2 x hx=>h2 x hx,λz=>by omega,by rw[if_neg .(1)]⟩;rintro m γ h1 ⟨K,many,v6,v7,v8,rfl,rfl,sub,all,kp,hm⟩;have Kr:K.Pairwise (·<·):=Vr.sublist sub;have Kn:=z0e Kr;have Kl:∀x∈K,x<st.length:=λx hx=>Vl x (sub.subset hx);have Kle:=sub.length_le;have lenK:fLen [.tup (stD K)] h1=.ok (.int (K.length:Nat)) h1:=by rw[z33,y6];rfl
   refine W.of (a:=!decide ((K.length:Int)=many)) (h':=h1) (cb_h (e2_h (J0 .(d) lenK) .(d) (by rw[z6o,K58];rfl))) ?_;by_cases e:(K.length:Int)=many
   ·rw[decide_eq_true e,K3i,if_neg (by decide)];exact⟨K,_,_,_,_,rfl,rfl,kp e.symm,Kn⟩
   ·rw[.(m) e,K4r,if_pos rfl];rw[if_neg (λz=>e z.symm)]at hm;refine⟨2 * K.length,by omega,?_⟩;refine w8 (.int (K.length:Nat)) [.(r n),some .(7),.(g (stD V)),.(g (ws.map wD)),.(g (stD K)),.(i (K.length:Nat)),v6,v7,v8] (J0 .(d) lenK) rfl ?_;obtain⟨K0,lo,e0⟩:=zN5 (h:=h1) q Kn Kl;refine w8 (.tup (stD K0)) [.(r n),some .(7),.(g (stD V)),.(g (ws.map wD)),.(g (stD K0)),.(i (K.length:Nat)),v6,v7,v8] (fn_h (ds:=[maD st mk,.tup (stD K)]) (ac_h .(d) (ac_h .(d) rfl)) rfl e0) rfl ?_;refine z23 (λγ h2=>∃K1 v6 v7 v8,γ=[.(r n),some .(7),.(g (stD V)),.(g (ws.map wD)),.(g (stD K1)),.(i (K.length:Nat)),v6,v7,v8]/\h2=h1/\RI st mk ws V K K1 ws.length) ?_ ?_
    ·refine z07 (λc γ h2=>∃K1 v6 v7 v8,γ=[.(r n),some .(7),.(g (stD V)),.(g (ws.map wD)),.(g (stD K1)),.(i (K.length:Nat)),v6,v7,v8]/\h2=h1/\RI st mk ws V K K1 c) (λ_ _=>False) ?_;refine W_of (v:=Src.con (ws.map wD)) rfl ⟨⟨K0,v6,v7,v8,rfl,rfl,lo.sub,λS hS hV x hx=>lo.all S (λx hx=>all S hS hV x hx) (λx hx=>(hS.rn x x hx hx).next) x hx,λz=>⟨?_,λi w hi=>by omega⟩⟩,λ_ _ _ _=>trivial,?_,?_,λ_ _ f=>f.elim⟩
     ·rw[lo.sub.eq_of_length z]at lo;exact lo.nxt
     ·rintro c d γ h2 hd ⟨K1,v6,v7,v8,rfl,rfl,r⟩;have hd:(ws.map wD)[c]?=some d:=hd;rw[K0i]at hd;obtain⟨⟨a,b⟩,ew,rfl⟩:=K16.mp hd;refine W_eq (v:=[.(r n),some .(7),.(g (stD V)),.(g (ws.map wD)),.(g (stD K1)),.(i (K.length:Nat)),.(s a),.(s b),v8]) (by unfold wD;simp only[K01,K0b,K08,K07,K0p,x6,z0r,gN,z3o,gT,if_true]) ?_;have K1r:K1.Pairwise (·<·):=Kr.sublist r.sub;have K1n:=z0e K1r;have K1l:∀x∈K1,x<st.length:=λx hx=>Kl x (r.sub.subset hx);have K1le:=r.sub.length_le;obtain⟨g,eg⟩:∃g,g=K1.filter λy=>bear b mk y:=⟨_,rfl⟩;have cm:eFn 2 z2H (z7 (eVar 4) (z7 (eFn 2 z1s (z7 .(j) (z7 (eVar 7) aNil))) aNil)) [.(r n),some .(7),.(g (stD V)),.(g (ws.map wD)),.(g (stD K1)),.(i (K.length:Nat)),.(s a),.(s b),v8] h2=.ok (.tup (stD g)) h2:=by
       refine fn_h (ds:=[.tup (stD K1),.tup (stD ((K0m mk.length).filter λx=>bear b mk x))]) (ac_h .(d) (ac_h (fn_h (ds:=[maD st mk,.str b]) (ac_h .(d) (ac_h .(d) rfl)) rfl (by rw[z9A .(1)];rfl)) rfl)) rfl ?_;rw[zm3 K1r .(1) (by have:=K10 (λx=>bear b mk x) (K0m mk.length);rw[K1q]at this;omega),eg];congr 3;refine K6h λx hx=>?_;rw[K0o,.(h),K06,K18];exact⟨λz=>z.2,λz=>⟨by rw[ml];exact K1l x hx,z⟩⟩
      have gn:g.Nodup:=by rw[eg];exact K1n.filter _
      have gll:∀x∈g,x<st.length:=λx hx=>K1l x (by rw[eg]at hx;exact(K06.mp hx).1);obtain⟨u,ul,eu⟩:=zI3 (γ:=[.(r n),some .(7),.(g (stD V)),.(g (ws.map wD)),.(g (stD K1)),.(i (K.length:Nat)),.(s a),.(s b),v8]) (h:=h2) (mr:=z7 .(j) (z7 (eVar 4) (z7 (eFn 2 z2H (z7 (eVar 4) (z7 (eFn 2 z1s (z7 .(j) (z7 (eVar 7) aNil))) aNil))) aNil))) q w rfl (ac_h .(d) (ac_h .(d) (ac_h cm rfl))) K1n K1l gn gll;refine w8 (.tup (stD (Y1 u))) [.(r n),some .(7),.(g (stD V)),.(g (ws.map wD)),.(g (stD K1)),.(i (K.length:Nat)),.(s a),.(s b),.(g ((stD (Y1 u))))] eu rfl ?_;have ct:=z7T (γ:=[.(r n),some .(7),.(g (stD V)),.(g (ws.map wD)),.(g (stD K1)),.(i (K.length:Nat)),.(s a),.(s b),.(g ((stD (Y1 u))))]) (cap:=[some 8,some 1,some 6,none]) (mi:=Y7 (eVar 4)) (g:=gN 3) (k:=cOr (λγ=>do let d <- e2 (fIn false) (eVar 3) .(i) γ;asB d) (cNot (cVal (eFn 3 z1v (z7 .(j) (z7 (eVar 3) (z7 (eVar 2) aNil))))))) (me:=eVar 3) (items:=stD K1) (λd=>decide (numD d∈u)||!bear a mk (numD d)) (λd=>d) rfl (by rw[y6];omega) (λd hd=>by
       obtain⟨x,hx,rfl⟩:=z8J hd;refine⟨[.(g ((stD (Y1 u)))),some .(7),.(s a),.(i (x:Nat))],by simp only[K7,K4,K0v,K2a,K08,K07,K3d,capG,gN],?_,λ_=>rfl⟩;simp only[K1z,K7,K4,K01,K0b,K0p,z7,aNil,z0L,z4a (st:=st) (show x<mk.length by rw[ml];exact K1l x hx),x6,cNot,cOr,cVal,e2,eFn,eVar,if_true,zW3,sortN_mem,z2D];show _=pure (decide (x∈u)||!bear a mk x);cases decide (x∈u)<;>rfl)
      rw[z4F K1 λx=>decide (x∈u)||!bear a mk x]at ct;refine z7b (.tup (stD (K1.filter λx=>decide (x∈u)||!bear a mk x))) [.(r n),some .(7),.(g (stD V)),.(g (ws.map wD)),.(g ((stD (K1.filter λx=>decide (x∈u)||!bear a mk x)))),.(i (K.length:Nat)),.(s a),.(s b),.(g ((stD (Y1 u))))] (ct (z1K _)) rfl ?_;exact y4 ⟨_,_,_,_,rfl,rfl,r.next ew eg ul⟩
     ·rintro γ h2 ⟨K1,v6,v7,v8,rfl,rfl,r⟩;exact⟨K1,v6,v7,v8,rfl,rfl,by rw[show (Src.con (ws.map wD)).items.length=ws.length by simp[Src.items]]at r;exact r⟩
    ·rintro γ h2 ⟨K1,v6,v7,v8,rfl,rfl,r⟩;have le:=r.sub.length_le;refine y4 ⟨_,?_,K1,_,v6,v7,v8,rfl,rfl,r.sub.trans sub,r.all,λz=>?_,rfl⟩
     ·by_cases z:((K.length:Nat):Int)=(K1.length:Nat)
      ·rw[if_pos z];omega
      ·rw[if_neg z];omega
     ·have e1:K1=K:=r.sub.eq_of_length .(1);obtain⟨h1,h2⟩:=r.eq .(1);rw[e1];exact⟨λx hx=>sub.subset hx,h1,λw hw x hx b=>by
       obtain⟨i,hi,e⟩:=K1m hw;exact h2 i w hi (by rw[K9 hi,e]) x hx b,all⟩
  ·rintro γ h1 ⟨K,v5,v6,v7,v8,rfl,rfl,kp,Kn⟩;obtain⟨u,ul,eu⟩:=zI3 (γ:=[.(r n),some .(7),.(g (stD V)),.(g (ws.map wD)),.(g (stD K)),v5,v6,v7,v8]) (h:=h1) (mr:=z7 .(j) (z7 (eVar 2) (z7 (eVar 4) aNil))) q w rfl (ac_h .(d) (ac_h .(d) (ac_h .(d) rfl))) Vn Vl Kn λx hx=>Vl x (kp.sub x hx);exact Y2 (.tup (stD (Y1 u))) eu ⟨⟨u,kp.same ul,rfl⟩,rfl⟩
 obtain⟨d,h1,e,⟨u,hu,rfl⟩,rfl⟩:=key;exact⟨u,hu,z0u (j:=[]) (by rw[K13];exact e) (z15 _)⟩
end
theorem zO9 {f:Int->Int->Int}{mt:G->M Out}{a b:Int}{Q:Out->AH->Prop}(eo:mo γ h=.ok (.ref n) h) (ei:mi γ h=.ok (.int (x:Nat)) h) (e:h[n]?=some (.dK (kvG v l))) (hx:x∈l) (hl:l.length<1000) (ev:v x=.int a) (em:me γ h=.ok (.int b) h)
 (z:W (mt γ) (h.set n (.dK (kvG (λy=>if y=x then .int (f a b) else v y) l))) Q):W (z9 (zo7 f mo mi me) mt γ) h Q:=by
 rw[w_cons];unfold zo7;rw[Z5];refine W_of eo ?_;rw[Z5];refine W_of ei ?_;rw[Z5];refine W_of (z8p (.inl e) hx) ?_;rw[Z5];refine W_of em ?_;rw[ev];dsimp only;rw[Z5];refine W_of (zN4 e hx hl) ?_;rw[W_pure];exact z
section
variable (h1:AH) (V:List Nat) (B:List (List Nat))
def LH (C:Nat->Nat) (S:List Nat):AH:=bkH (h1++[.dK (kvG (λx=>.int (C x:Nat)) V)]) B++[.lst (stD S)]
variable {h1 V B}{C C':Nat->Nat}{S:List Nat}
theorem lh_c:(LH h1 V B C S)[h1.length]?=some (.dK (kvG (λx=>.int (C x:Nat)) V)):=by
 unfold LH bkH;rw[K11 .(f),K11 .(f)];exact z0D
theorem lh_b:(LH h1 V B C S)[h1.length+1]?=.(l ((z4t (h1.length+1) B.length))):=by
 unfold LH;have:=z8s (h:=h1++[O.dK (kvG (λx=>.int (C x:Nat)) V)]) (B:=B);rw[K3,K09]at this;exact J8 this
theorem lh_r (hy:y<B.length):(LH h1 V B C S)[h1.length+1+1+y]?=.(l ((stD (bAt B y)))):=by
 unfold LH;have:=z7Z (h:=h1++[O.dK (kvG (λx=>.int (C x:Nat)) V)]) (B:=B) hy;rw[K3,K09]at this;exact J8 this
theorem zg3:(bkH (h1++[O.dK (kvG (λx=>.int (C x:Nat)) V)]) B).length=h1.length+1+1+B.length:=by
 rw[z8t,K3,K09]
theorem lh_w:(LH h1 V B C S)[h1.length+1+1+B.length]?=.(l (stD S)):=by
 unfold LH;rw[<- zg3 (C:=C) (V:=V)];exact z0D
theorem zS3:(LH h1 V B C S).set (h1.length+1+1+B.length) (.lst (stD S'))=LH h1 V B C S':=by
 unfold LH;rw[<- zg3 (C:=C) (V:=V)];exact z7f
theorem Z0N:(LH h1 V B C S).set h1.length (.dK (kvG (λx=>.int (C' x:Nat)) V))=LH h1 V B C' S:=by
 unfold LH bkH;rw[K4d _ _ .(f),K4d _ _ .(f),z7f,K3,K3];rfl
end
def rem (st:List (List Nat)) (V Dn:List Nat) (x:Nat):Nat:=((inV st V x).filter λz=>!decide (z∈Dn)).length
structure LaI (st:List (List Nat)) (V Dn S:List Nat) (C:Nat->Nat):Prop where
 sn:S.Nodup
 dn:Dn.Nodup
 dj:∀x∈S,x∉Dn
 sv:∀x∈S,x∈V
 dv:∀x∈Dn,x∈V
 z:∀x∈V,(x∈S\/x∈Dn)↔C x=0
 gd:∀T:Nat->Prop,(∀x,T x->x∈V)->(∀x,T x->∃y∈nx st x,T y)->∀x,T x->x∉S/\x∉Dn
section
variable {V Dn:List Nat}
theorem inV_mem:y∈inV st V x↔y∈nx st x/\y∈V:=by unfold inV;simp
theorem len_one {f g:Nat->Bool}{y:Nat}(hf:f y=true) (hg:g y=false) (e:∀z,z≠y->g z=f z):∀{l:List Nat},l.Nodup->(l.filter f).length=(l.filter g).length+if y∈l then 1 else 0
 | [],_=>rfl
 | a::l,nd=>by
  obtain⟨n1,n2⟩:=K3p.mp nd;have ih:=len_one hf hg e n2;rw[K40,K40];by_cases c:a=y
  ·subst c;rw[if_neg n1]at ih;rw[hf,hg,if_pos rfl,if_neg (by decide),if_pos .(f),K01];omega
  ·have e2:(y∈a::l)=(y∈l):=by rw[K0y];simp[K4y c]
   rw[e a c];simp only[e2];split
   ·rw[K01,K01];omega
   ·exact ih
theorem z8C (q:MA st mk) (hy:y∉Dn):rem st V Dn x=rem st V (Dn++[y]) x+if y∈inV st V x then 1 else 0 :=
 len_one (by simp[hy]) .(f) (λz hz=>by simp[hz]) ((z0e (zf2 q x)).filter _)
theorem z8G (h:rem st V Dn x=0) (hz:z∈inV st V x):z∈Dn:=by
 unfold rem at h;have:=List.filter_eq_nil_iff.mp (K2j.mp h) z hz;simpa using this
end
def LA (st:List (List Nat)) (V L:List Nat):Prop:=L.Sublist V/\∀T:Nat->Prop,(∀x,T x->x∈V)->(∀x,T x->∃y∈nx st x,T y)->∀x,T x->x∈L
theorem zd1 {V:List Nat}{h:AH}(q:MA st mk) (Vn:V.Nodup) (Vl:∀x∈V,x<st.length):
 ∃L,LA st V L/\z4L [maD st mk,.tup (stD V)] h=.ok (.tup (stD L)) h:=by
 have n40:=q.l2;have Vle:V.length<=st.length:=z22 Vn Vl;have rl:∀l∈st,l.length<=1000:=λl hl=>by have:=z48 (q.s1 l hl) (q.s2 l hl);omega
 have key:W (runF 8 z2p [maD st mk,.tup (stD V)]) h λd h1=>(∃L,LA st V L/\d=.tup (stD L))/\∃j,h1=h++j:=by
  refine z1z ?_;show W (z2p [some .(7),.(g (stD V)),none,none,none,none,none,none]) h _;unfold z2p z2k;obtain⟨b,c,k,ei,gh,hb⟩:=z81 (mk:=mk) (h:=h) (zq9 q) rl Vn Vl;obtain⟨h1,eh⟩:∃h1,h1=h++k:=⟨_,rfl⟩;rw[<- eh]at ei gh;refine w8 (.ref b) [some .(7),.(g (stD V)),.(r b),none,none,none,none,none] (fn_h (ds:=[maD st mk,.tup (stD V)]) (ac_h .(d) (ac_h .(d) rfl)) rfl ei) rfl ?_;have dc:=z8F (cap:=[some 2,none]) (mi:=Y7 .(j)) (g:=gN 1) (kb:=λ_=>pure true) (me:=eVar 1) (mv:=Z7 fLen (z7 (e2 z1N .(i) .(j)) aNil)) (γ:=[some .(7),.(g (stD V)),.(r b),none,none,none,none,none]) (h:=h1) (h1:=h1) (src:=.con (stD V)) (V:=V) (λ_=>true) (λx=>.int ((inV st V x).length:Nat)) (z0C .(d)) rfl (λ_=>trivial) Vn .(1) λx hx=>⟨[.(r b),.(i x)],λ_=>rfl,λ_=>rfl,λ_=>rfl,λj=>by
   have e1:z1N (.ref b) (.int (x:Nat)) (h1++j)=.ok (.ref (c+V.idxOf x)) (h1++j):=z6L (.inl (J8 gh.d)) hx;rw[J0 (e2_h .(d) .(d) e1) (zW4 (J8 (gh.r x hx))),y6]⟩
  rw[filter_tt]at dc;refine w8 (.ref h1.length) [some .(7),.(g (stD V)),.(r b),.(r h1.length),none,none,none,none] dc rfl ?_;obtain⟨B,bk,eb⟩:=zw3 (h:=h1++[.dK (kvG (λx=>.int ((inV st V x).length:Nat)) V)]) q;rw[K3,K09]at eb;refine w8 (.ref (h1.length+1)) [some .(7),.(g (stD V)),.(r b),.(r h1.length),.(r (h1.length+1)),none,none,none] (fn_h (ds:=[maD st mk]) (ac_h .(d) rfl) rfl eb) rfl ?_;have rem0:∀x,rem st V [] x=(inV st V x).length:=λx=>by unfold rem;simp
  have cm:=z1I (cap:=[some 3,none]) (mi:=Y7 .(j)) (g:=gN 1) (kb:=λγ=>do let d <- e2 (fEq false) (e2 z1N .(i) .(j)) .(c) γ;asB d) (me:=eVar 1) (γ:=[some .(7),.(g (stD V)),.(r b),.(r h1.length),.(r (h1.length+1)),none,none,none]) (h:=bkH (h1++[.dK (kvG (λx=>.int ((inV st V x).length:Nat)) V)]) B) (src:=.con (stD V)) (l:=V) (λx=>decide (rem st V [] x=0)) (λx=>.int x) (z0C .(d)) rfl (λ_=>trivial) .(1) λx hx=>⟨[.(r h1.length),.(i x)],λ_=>rfl,λj=>by
   have e1:z1N (.ref h1.length) (.int (x:Nat)) (bkH (h1++[O.dK (kvG (λx=>.int ((inV st V x).length:Nat)) V)]) B++j)=.ok (.int ((inV st V x).length:Nat)) (bkH (h1++[O.dK (kvG (λx=>.int ((inV st V x).length:Nat)) V)]) B++j):=z8p (v:=λx=>.int ((inV st V x).length:Nat)) (.inl (J8 (by unfold bkH;exact J8 z0D))) hx;refine cb_h (e2_h (e2_h .(d) .(d) e1) (y:=.int 0) rfl ?_);rw[z6C,rem0];show Res.ok _ _=_;congr 3;rw[K1z];rw[K0o,.(h),.(h)];omega,λ_ j=>rfl⟩
  obtain⟨S0,eS0⟩:∃S0,S0=V.filter λx=>decide (rem st V [] x=0):=⟨_,rfl⟩;rw[show (V.filter λx=>decide (rem st V [] x=0)).map (λ(x:Nat)=>D.int x)=stD S0 by rw[eS0];rfl]at cm;rw[zg3]at cm;refine w8 (.ref (h1.length+1+1+B.length)) [some .(7),.(g (stD V)),.(r b),.(r h1.length),.(r (h1.length+1)),.(r (h1.length+1+1+B.length)),none,none] (h1:=LH h1 V B (rem st V []) S0) (cm.trans (by unfold LH;simp only[rem0])) rfl ?_;have hB:B.length=st.length:=bk.len;refine z23 (λγ h2=>∃Dn v6 v7,γ=[some .(7),.(g (stD V)),.(r b),.(r h1.length),.(r (h1.length+1)),.(r (h1.length+1+1+B.length)),v6,v7]/\h2=LH h1 V B (rem st V Dn) []/\LaI st V Dn [] (rem st V Dn)) ?_ ?_
  ·refine z0v (λm γ h2=>∃Dn S v6 v7,γ=[some .(7),.(g (stD V)),.(r b),.(r h1.length),.(r (h1.length+1)),.(r (h1.length+1+1+B.length)),v6,v7]/\h2=LH h1 V B (rem st V Dn) S/\LaI st V Dn S (rem st V Dn)/\m=V.length - Dn.length) _ _ ?_ 1000000 V.length _ _ .(1) ⟨[],S0,_,_,rfl,rfl,⟨by rw[eS0];exact Vn.filter _,K43,λ_ _=>K25,λx hx=>(by rw[eS0]at hx;exact(K06.mp hx).1),λx hx=>absurd hx K25,λx hx=>?_,λT hT hn x hx=>⟨λz=>?_,K25⟩⟩,rfl⟩
   ·rintro m γ h2 ⟨Dn,S,v6,v7,rfl,rfl,la,hm⟩;refine W.of (a:=!(stD S).isEmpty) (h':=LH h1 V B (rem st V Dn) S) (z6X rfl lh_w) ?_;rcases K21 S with rfl|⟨S,y,rfl⟩
    ·exact⟨Dn,v6,v7,rfl,rfl,la⟩
    ·rw[K22]at *;rw[show (!(stD (S++[y])).isEmpty)=true by unfold stD;simp,if_pos rfl];have yS:y∈S++[y]:=by simp
     have yV:=la.sv y yS;have yD:=la.dj y yS;have sn:=K1c.mp la.sn;have ySn:y∉S:=λz=>sn.2.2 y z y .(f) rfl;have dn2:=z0G la.dn yD;have dl:=K0w dn2 λx hx=>by
      rcases K00.mp hx with p|p
      ·exact la.dv x p
      ·rw[K0j]at p;rw[p];exact yV
     rw[K3,K09]at dl;refine⟨V.length - (Dn.length+1),by omega,?_⟩;have Sle:=K0w la.sn λx hx=>la.sv x hx;rw[K3,K09]at Sle;refine zs5 (i:=h1.length+1+1+B.length) (xs:=stD S) (v:=.int y) rfl (by rw[z19];exact lh_w) (by rw[y6];omega) ?_;rw[zS3];show W _ _ _;have la0:LaI st V (Dn++[y]) S (λx=>if x∈(bAt B y).take 0 then rem st V (Dn++[y]) x else rem st V Dn x):=by
      refine⟨sn.1,dn2,λx hx z=>?_,λx hx=>la.sv x (by simp[hx]),λx hx=>?_,λx hx=>?_,λT hT hn x hx=>?_⟩
      ·rcases K00.mp z with p|p
       ·exact la.dj x (by simp[hx]) p
       ·rw[K0j]at p;exact ySn (p ▸ hx)
      ·rcases K00.mp hx with p|p
       ·exact la.dv x p
       ·rw[K0j]at p;rw[p];exact yV
      ·rw[K6c,if_neg .(f),<- la.z x hx];simp only[K00,K0j];constructor
       ·rintro(a|a|a)
        ·exact .inl (.inl a)
        ·exact .inr a
        ·exact .inl (.inr a)
       ·rintro((a|a)|a)
        ·exact .inl a
        ·exact .inr (.inr a)
        ·exact .inr (.inl a)
      ·obtain⟨a1,a2⟩:=la.gd T hT hn x hx;exact⟨λz=>a1 (by simp[z]),λz=>by
        rcases K00.mp z with p|p
        ·exact a2 p
        ·exact a1 (by simp[K0j.mp p])⟩
     have yl:=Vl y yV;refine z23 (λγ h2=>∃S' v7,γ=[some .(7),.(g (stD V)),.(r b),.(r h1.length),.(r (h1.length+1)),.(r (h1.length+1+1+B.length)),.(i y),v7]/\h2=LH h1 V B (λx=>if x∈(bAt B y).take (bAt B y).length then rem st V (Dn++[y]) x else rem st V Dn x) S'/\LaI st V (Dn++[y]) S' (λx=>if x∈(bAt B y).take (bAt B y).length then rem st V (Dn++[y]) x else rem st V Dn x)) ?_ ?_
     ·refine z07 (λt γ h2=>∃S' v7,γ=[some .(7),.(g (stD V)),.(r b),.(r h1.length),.(r (h1.length+1)),.(r (h1.length+1+1+B.length)),.(i y),v7]/\h2=LH h1 V B (λx=>if x∈(bAt B y).take t then rem st V (Dn++[y]) x else rem st V Dn x) S'/\LaI st V (Dn++[y]) S' (λx=>if x∈(bAt B y).take t then rem st V (Dn++[y]) x else rem st V Dn x)) (λ_ _=>False) ?_;refine W_of (z3c (e2_h .(d) .(d) (ix_h lh_b (z7C .(1)))) (lh_r .(1))) ⟨⟨S,v7,rfl,by unfold LH;simp only[K6c,K25,if_false],la0⟩,?_,?_,?_,λ_ _ f=>f.elim⟩
      ·rintro t γ h2 ⟨S',v7,rfl,rfl,_⟩;exact lh_r .(1)
      ·rintro t d γ h2 hd ⟨S',v7,rfl,rfl,li⟩;obtain⟨x,rfl,ex⟩:=z2w (show (stD (bAt B y))[t]?=some d from hd);obtain⟨xl,yx⟩:=(bk.iff y x).mp (K0s ex);have xt:x∉(bAt B y).take t:=λz=>by
        obtain⟨i,hi,ei⟩:=K1m z;rw[K2d]at hi;rw[K6f]at ei;obtain⟨ht,et⟩:=K02.mp ex;have:=(Z2i (bk.nd y)).mp (ei.trans et.symm);omega
       have tk:∀v,v∈(bAt B y).take (t+1)↔v∈(bAt B y).take t\/v=x:=λv=>by rw[K4a,ex];simp
       refine W.of (a:=[some .(7),.(g (stD V)),.(r b),.(r h1.length),.(r (h1.length+1)),.(r (h1.length+1+1+B.length)),.(i y),.(i x)]) rfl ?_;obtain⟨C,eC⟩:∃C:Nat->Nat,C=λx=>if x∈(bAt B y).take t then rem st V (Dn++[y]) x else rem st V Dn x:=⟨_,rfl⟩
       obtain⟨C',eC'⟩:∃C':Nat->Nat,C'=λx=>if x∈(bAt B y).take (t+1) then rem st V (Dn++[y]) x else rem st V Dn x:=⟨_,rfl⟩
       rw[<- eC]at li ⊢;rw[<- eC'];refine z2r (decide (x∈V)) (cb_h (e2_h .(d) .(d) (by rw[zQ7 (.inl lh_c),K1z]))) ?_;by_cases xV:x∈V
       ·rw[decide_eq_true xV,if_pos rfl];have r1:=z8C (V:=V) (x:=x) q yD;rw[if_pos (inV_mem.mpr ⟨yx,yV⟩)]at r1;have cx:C x=rem st V Dn x:=by rw[eC];exact if_neg xt
        have cx':C' x=rem st V (Dn++[y]) x:=by rw[eC'];exact if_pos ((tk x).mpr (.inr rfl))
        have co:∀v,v≠x->C' v=C v:=λv hv=>by
         rw[eC,eC'];by_cases m1:v∈(bAt B y).take t
         ·show (if _ then _ else _)=(if _ then _ else _);rw[if_pos m1,if_pos ((tk v).mpr (.inl m1))]
         ·show (if _ then _ else _)=(if _ then _ else _);rw[if_neg m1,if_neg λz=>by rcases(tk v).mp z with p|p<;>contradiction]
        have li':∀{S2:List Nat},(∀v∈V,(v∈S2\/v∈Dn++[y])↔C' v=0)->S2.Nodup->(∀v∈S2,v∈S'\/v=x/\C' x=0)->LaI st V (Dn++[y]) S2 C':=λ{S2} z2 n2 s2=>by
         have xno:x∉Dn++[y]:=λz=>by
          have:=(li.z x xV).mp (.inr z);omega
         refine⟨n2,dn2,λv hv=>?_,λv hv=>?_,li.dv,z2,λT hT hn v hv=>⟨λz=>?_,(li.gd T hT hn v hv).2⟩⟩
         ·rcases s2 v hv with p|⟨rfl,_⟩
          ·exact li.dj v p
          ·exact xno
         ·rcases s2 v hv with p|⟨rfl,_⟩
          ·exact li.sv v p
          ·exact xV
         ·rcases s2 v z with p|⟨rfl,p⟩
          ·exact(li.gd T hT hn v hv).1 p
          ·obtain⟨w,w1,w2⟩:=hn v hv;exact(li.gd T hT hn w w2).2 (z8G (cx' ▸ p) (inV_mem.mpr ⟨w1,hT w w2⟩))
        refine z1u (zO9 (x:=x) (v:=λx=>.int (C x:Nat)) (l:=V) (a:=(C x:Nat)) (b:=1) .(d) .(d) lh_c xV .(1) rfl rfl ?_);have es:kvG (λv=>if v=x then D.int ((C x:Nat) - 1:Int) else .int (C v:Nat)) V=kvG (λv=>.int (C' v:Nat)) V:=z4v λv hv=>by
         by_cases e:v=x
         ·subst e;rw[if_pos rfl];congr 1;omega
         ·rw[if_neg e,co v e]
        rw[es,Z0N];refine z1u (z2r (decide (C' x=0)) (cb_h (e2_h (e2_h .(d) .(d) (z8p (v:=λx=>.int (C' x:Nat)) (.inl lh_c) xV)) (y:=.int 0) rfl (by
         rw[z6C];show Res.ok _ _=_;congr 3;rw[K1z,K0o,.(h),.(h)];omega))) ?_)
        have S'le:=K0w li.sn λx hx=>li.sv x hx;by_cases c0:C' x=0
        ·rw[decide_eq_true c0,if_pos rfl];refine z1u (z1D (i:=h1.length+1+1+B.length) rfl lh_w (by rw[y6];omega) .(d) ?_);rw[z19,zS3];have xS:x∉S':=λz=>by
          have:=(li.z x xV).mp (.inl z);omega
         refine z0f (z0f (y4 ⟨S'++[x],_,rfl,rfl,li' (λv hv=>?_) (z0G li.sn xS) λv hv=>?_⟩))
         ·by_cases e:v=x
          ·subst e;simp[c0]
          ·rw[co v e,<- li.z v hv];simp[e]
         ·rcases K00.mp hv with p|p
          ·exact .inl p
          ·exact .inr ⟨K0j.mp p,c0⟩
        ·rw[.(m) c0,if_neg (by decide)];refine z0f (z0f (y4 ⟨S',_,rfl,rfl,li' (λv hv=>?_) li.sn λv hv=>.inl hv⟩));by_cases e:v=x
         ·subst e;have:¬ (v∈S'\/v∈Dn++[y]):=λz=>by
           have:=(li.z v xV).mp z;omega
          exact⟨λz=>absurd z this,λz=>absurd z c0⟩
         ·rw[co v e];exact li.z v hv
       ·rw[.(m) xV,if_neg (by decide)];have es:∀v∈V,C' v=C v:=λv hv=>by
         have ne:v≠x:=λe=>xV (e ▸ hv);rw[eC,eC'];by_cases m1:v∈(bAt B y).take t
         ·show (if _ then _ else _)=(if _ then _ else _);rw[if_pos m1,if_pos ((tk v).mpr (.inl m1))]
         ·show (if _ then _ else _)=(if _ then _ else _);rw[if_neg m1,if_neg λz=>by rcases(tk v).mp z with p|p<;>contradiction]
        refine z0f (y4 ⟨S',_,rfl,?_,⟨li.sn,li.dn,li.dj,li.sv,li.dv,λv hv=>by rw[es v hv];exact li.z v hv,li.gd⟩⟩);unfold LH;rw[z4v (v:=λx=>D.int (C x:Nat)) (v':=λx=>.int (C' x:Nat)) λv hv=>by rw[es v hv]]
      ·rintro γ h2 ⟨S',v7,rfl,rfl,li⟩;rw[show (Src.lst (h1.length+1+1+y) (stD (bAt B y))).items.length=(bAt B y).length from y6 _]at *;exact⟨S',v7,rfl,rfl,li⟩
     ·rintro γ h2 ⟨S',v7,rfl,rfl,li⟩;have es:∀v∈V,(if v∈(bAt B y).take (bAt B y).length then rem st V (Dn++[y]) v else rem st V Dn v)=rem st V (Dn++[y]) v:=λv hv=>by
       rw[K1v];split
       ·rfl
       ·rename_i nb;have r1:=z8C (V:=V) (x:=v) q yD;rw[if_neg λz=>nb ((bk.iff y v).mpr ⟨Vl v hv,(inV_mem.mp z).1⟩)]at r1;omega
      refine y4 ⟨_,K04 _,Dn++[y],S',_,v7,rfl,?_,⟨li.sn,li.dn,li.dj,li.sv,li.dv,λv hv=>by rw[<- es v hv];exact li.z v hv,li.gd⟩,by rw[K3,K09]⟩;unfold LH;rw[z4v (v':=λx=>.int (rem st V (Dn++[y]) x:Nat)) λv hv=>congrArg (λ(n:Nat)=>D.int (n:Int)) (es v hv)]
   ·rw[eS0,K06,.(h)];simp[hx]
   ·rw[eS0,K06,.(h)]at z;obtain⟨w,w1,w2⟩:=hn x hx;have:=z8G z.2 (inV_mem.mpr ⟨w1,hT w w2⟩);cases this
  ·rintro γ h2 ⟨Dn,v6,v7,rfl,rfl,la⟩;have ct:=z1I (cap:=[some 3,none]) (mi:=Y7 .(j)) (g:=gN 1) (kb:=λγ=>do let d <- e2 fGt (e2 z1N .(i) .(j)) .(c) γ;asB d) (me:=eVar 1) (γ:=[some .(7),.(g (stD V)),.(r b),.(r h1.length),.(r (h1.length+1)),.(r (h1.length+1+1+B.length)),v6,v7]) (h:=LH h1 V B (rem st V Dn) []) (src:=.con (stD V)) (l:=V) (λx=>decide (0<rem st V Dn x)) (λx=>.int x) (z0C .(d)) rfl (λ_=>trivial) .(1) λx hx=>⟨[.(r h1.length),.(i x)],λ_=>rfl,λj=>by
    refine cb_h (e2_h (e2_h .(d) .(d) (z8p (v:=λx=>.int (rem st V Dn x:Nat)) (.inl (J8 lh_c)) hx)) (y:=.int 0) rfl ?_);rw[z6I];show Res.ok _ _=_;congr 2;rw[K0o,.(h),.(h)];omega,λ_ j=>rfl⟩
   refine Y2 (.tup (stD (V.filter λx=>decide (0<rem st V Dn x)))) (z5Q ct (z1K _)) ⟨⟨V.filter λx=>decide (0<rem st V Dn x),⟨K4k,λT hT hn x hx=>?_⟩,rfl⟩,?_⟩
   ·refine K06.mpr ⟨hT x hx,decide_eq_true ?_⟩;obtain⟨a1,a2⟩:=la.gd T hT hn x hx;have:=la.z x (hT x hx);rcases Nat.eq_zero_or_pos (rem st V Dn x) with e|e
    ·rcases this.mpr e with p|p
     ·exact absurd p a1
     ·exact absurd p a2
    ·exact e
   ·unfold LH bkH;rw[eh];simp only[K05];exact⟨_,rfl⟩
 obtain⟨d,h1,e,⟨L,la,rfl⟩,j,rfl⟩:=key;exact⟨L,la,z0u e (z15 _)⟩
def rndB (st:List (List Nat)) (y:Nat) (r:List Nat):Bool:=decide (1<(y::r).length)||decide (y∈nx st y)
section
variable {V:List Nat}
theorem zk2 {r:List Nat}(g:GR st mk ws S) (h:∀x,S x->x∈y::r):rndB st y r=true:=by
 obtain⟨x,hx⟩:=g.ne;obtain⟨z,z1,z2⟩:=(g.rn x x hx hx).next;unfold rndB;cases r with
 | cons a r=>simp
 | nil =>
  have e1:=K0j.mp (h x hx);have e2:=K0j.mp (h z z2);subst e1;subst e2;simp[z1]
structure SP (st:List (List Nat)) (V:List Nat) (p:List Nat):Prop where
 r:p.Pairwise (·<·)
 v:∀x∈p,x∈V
 ne:p≠[]
 go:∀y r,p=y::r->rndB st y r=true->∀a b,a∈p->b∈p->Pt st (·∈p) a b
theorem zW7 (q:MA st mk) (Vr:V.Pairwise (·<·)) (Vl:∀x∈V,x<st.length):
 (∀p∈prts st.length V (inV st V),SP st V p)/\(prts st.length V (inV st V)).flatten.length<=V.length/\(prts st.length V (inV st V)).length<=V.length /\
  ∀S,GR st mk ws S->(∀x,S x->x∈V)->∃p∈prts st.length V (inV st V),∀x,S x->x∈p:=by
 have fv:∀x∈V,∀y∈inV st V x,y∈V:=λx hx y hy=>by simpa using(K06.mp hy).2
 obtain⟨pf,pm⟩:=zI2 (z0e Vr) Vl q.l2 fv;have nxG:∀{x y:Nat},y∈nx (gS st.length V (inV st V)) x->x∈V/\y∈V/\y∈nx st x:=λh=>by
  obtain⟨a,b,c⟩:=zd6 Vl fv h;exact⟨a,b,(K06.mp c).1⟩
 have Gnx:∀{x y:Nat},x∈V->y∈V->y∈nx st x->y∈nx (gS st.length V (inV st V)) x:=λhx hy h=>by
  rw[z6y Vl,if_pos hx];exact K06.mpr ⟨h,by simpa using hy⟩
 have all:∀p∈prts st.length V (inV st V),SP st V p:=λp hp=>by
  obtain⟨x,xV,rfl⟩:=pf.is p hp;have inv:∀{a b:Nat},a∈scc (gS st.length V (inV st V)) V x->b∈scc (gS st.length V (inV st V)) V x->a=b\/Pt st (·∈scc (gS st.length V (inV st V)) V x) a b:=λ{a b} ha hb=>by
   obtain⟨aV,ma⟩:=scc_mem.mp ha;have ab:Rch (gS st.length V (inV st V)) a b:=(ma.symm.trans (scc_mem.mp hb).2).1;revert hb;induction ab with
   | here=>exact λ_=>.inl rfl
   | step r e ih =>
    rename_i c b;intro hb;obtain⟨cV,bV,cb⟩:=nxG e;have hc:c∈scc (gS st.length V (inV st V)) V x:=scc_mem.mpr ⟨cV,ma.1.trans r,(Rch.step .here e).trans (scc_mem.mp hb).2.2⟩;right;rcases ih hc with rfl|p
    ·exact .one hc hb cb
    ·exact p.trans (.one hc hb cb)
  have rr:(scc (gS st.length V (inV st V)) V x).Pairwise (·<·):=by unfold scc;exact Vr.filter _
  refine⟨rr,λy hy=>(scc_mem.mp hy).1,λe=>?_,λy r e rd a b ha hb=>?_⟩
  ·have:x∈scc (gS st.length V (inV st V)) V x:=scc_mem.mpr ⟨xV,Mut2.refl⟩;rw[e]at this;cases this
  ·rcases inv ha hb with rfl|p
   ·have self:∃c∈scc (gS st.length V (inV st V)) V x,c≠a\/a∈nx st a:=by
     cases r with
     | nil =>
      rw[e,K0j]at ha;subst ha;unfold rndB at rd;exact⟨a,hb,.inr (by simpa using rd)⟩
     | cons z r =>
      have nd:=z0e rr;rw[e]at nd;have yz:y≠z:=λh=>(K3p.mp nd).1 (by rw[h];simp);by_cases c:y=a
      ·exact⟨z,by rw[e];simp,.inl λh=>yz (c.trans h.symm)⟩
      ·exact⟨y,by rw[e];simp,.inl c⟩
    obtain⟨c,hc,k|k⟩:=self
    ·rcases inv ha hc with e1|p1
     ·exact absurd e1.symm k
     ·rcases inv hc ha with e2|p2
      ·exact absurd e2 k
      ·exact p1.trans p2
    ·exact .one ha ha k
   ·exact p
 have fl:=K0w pf.nd λa ha=>(pm a).mp ha;refine⟨all,fl,?_,λS g hS=>?_⟩
 ·have:∀L:List (List Nat),(∀p∈L,p≠[])->L.length<=L.flatten.length:=λL=>by
   induction L with
   | nil=>intro _;simp
   | cons a L ih =>
    intro h;have h1:=ih λp hp=>h p (by simp[hp]);have h2:1<=a.length:=Nat.pos_of_ne_zero λe=>h a .(f) (K2j.mp e);rw[K15,K3,K01];omega
  have:=this _ λp hp=>(all p hp).ne;omega
 ·obtain⟨x,hx⟩:=g.ne;obtain⟨p,hp,xp⟩:=List.mem_flatten.mp ((pm x).mpr (hS x hx));refine⟨p,hp,λy hy=>?_⟩;obtain⟨z,zV,rfl⟩:=pf.is p hp;have rch:∀{a b:Nat},Pt st S a b->Rch (gS st.length V (inV st V)) a b:=λp=>by
   induction p with
   | one a b c=>exact .step .here (Gnx (hS _ a) (hS _ b) c)
   | cons a b q ih=>exact(Rch.step .here (Gnx (hS _ a) (hS _ q.fst) b)).trans ih
  exact scc_mem.mpr ⟨hS y hy,(scc_mem.mp xp).2.trans ⟨rch (g.rn x y hx hy),rch (g.rn y x hy hx)⟩⟩
end
def wsum (W:List (List Nat)):Nat:=(W.map λv=>2 * v.length+1).sum
theorem wsum_snoc (W:List (List Nat)) (v:List Nat):wsum (W++[v])=wsum W+(2 * v.length+1):=by unfold wsum;simp
theorem z8i (W:List (List Nat)):W.length<=wsum W:=by
 unfold wsum;induction W with
 | nil=>simp
 | cons a W ih=>rw[K01,K0v,List.sum_cons];omega
structure FI (st:List (List Nat)) (mk:List (List Str)) (ws:List (Str×Str)) (L:List Nat) (P W R:List (List Nat)) (b c:Nat):Prop where
 ok:∀p∈P,p.Pairwise (·<·)/\GR st mk ws (·∈p)/\∀x∈p,x∈L
 wr:∀v∈W,v.Pairwise (·<·)/\∀x∈v,x∈L
 cov:∀S,GR st mk ws S->(∀y,S y->y∈L)->(∃p∈P,∀x,S x->x∈p)\/(∃v∈W,∀x,S x->x∈v)\/∃p∈R,∀x,S x->x∈p
 pot:P.length+P.flatten.length+wsum W+2 * R.flatten.length<=b
 wm:wsum W+2 * R.flatten.length<=c
section
variable {P W R:List (List Nat)}{r:List Nat}
theorem FI.skip (f:FI st mk ws L P W ((y::r)::R) b c) (h:rndB st y r=false):FI st mk ws L P W R b c:=by
 refine⟨f.ok,f.wr,λS hS hL=>?_,by have:=f.pot;rw[K15,K3]at this;omega,by have:=f.wm;rw[K15,K3]at this;omega⟩;rcases f.cov S hS hL with a|a|⟨p,hp,a⟩
 ·exact .inl a
 ·exact .inr (.inl a)
 ·rcases K0y.mp hp with rfl|hp
  ·rw[zk2 hS a]at h;cases h
  ·exact .inr (.inr ⟨p,hp,a⟩)
theorem FI.keep {V:List Nat}(f:FI st mk ws L P W ((y::r)::R) b c) (sp:SP st V (y::r)) (vl:∀x∈V,x∈L) (h:rndB st y r=true) (no:∀w∈ws,badW mk (y::r) w=false):FI st mk ws L (P++[y::r]) W R b c:=by
 refine⟨λp hp=>?_,f.wr,λS hS hL=>?_,by have:=f.pot;rw[K15,K3,K01]at this;rw[K3,K09,K5p,K3,K15,K3z,K13,K01];omega,by have:=f.wm;rw[K15,K3]at this;omega⟩
 ·rcases K00.mp hp with hp|hp
  ·exact f.ok p hp
  ·rw[K0j]at hp;subst hp;refine⟨sp.r,⟨⟨y,by simp⟩,λa b ha hb=>sp.go y r rfl h a b ha hb,λw hw ⟨x,hx,bx⟩=>?_⟩,λx hx=>vl x (sp.v x hx)⟩;have:=no w hw;unfold badW at this;have b1:z5G mk (y::r) w.1=true:=by unfold z5G;exact K5o.mpr ⟨x,hx,bx⟩
   rw[b1]at this;have b2:z5G mk (y::r) w.2=true:=by simpa using this
   unfold z5G at b2;obtain⟨z,z1,z2⟩:=K5o.mp b2;exact⟨z,z1,z2⟩
 ·rcases f.cov S hS hL with ⟨p,hp,a⟩|a|⟨p,hp,a⟩
  ·exact .inl ⟨p,by simp[hp],a⟩
  ·exact .inr (.inl a)
  ·rcases K0y.mp hp with rfl|hp
   ·exact .inl ⟨_,by simp,a⟩
   ·exact .inr (.inr ⟨p,hp,a⟩)
theorem FI.cut {V:List Nat}{w:Str×Str}(f:FI st mk ws L P W ((y::r)::R) b c) (sp:SP st V (y::r)) (vl:∀x∈V,x∈L) (hw:w∈ws) (bd:badW mk (y::r) w=true):FI st mk ws L P (W++[(y::r).filter λx=>!bear w.1 mk x]) R b c:=by
 unfold badW at bd;rw[K0k,K4b]at bd;obtain⟨b1,b2⟩:=bd;unfold z5G at b1 b2;have lt:((y::r).filter λx=>!bear w.1 mk x).length<(y::r).length:=by
  obtain⟨z,z1,z2⟩:=K5o.mp b1;exact K3f.mpr ⟨z,z1,by simp[z2]⟩
 refine⟨f.ok,λv hv=>?_,λS hS hL=>?_,?_,?_⟩
 ·rcases K00.mp hv with hv|hv
  ·exact f.wr v hv
  ·rw[K0j]at hv;subst hv;exact⟨sp.r.filter _,λx hx=>vl x (sp.v x (K06.mp hx).1)⟩
 ·rcases f.cov S hS hL with a|⟨v,hv,a⟩|⟨p,hp,a⟩
  ·exact .inl a
  ·exact .inr (.inl ⟨v,by simp[hv],a⟩)
  ·rcases K0y.mp hp with rfl|hp
   ·refine .inr (.inl ⟨(y::r).filter λx=>!bear w.1 mk x,K00.mpr (.inr (K0j.mpr rfl)),λx hx=>K06.mpr ⟨a x hx,?_⟩⟩);cases k:bear w.1 mk x with
    | false=>rfl
    | true =>
     obtain⟨z,z1,z2⟩:=hS.wi w hw ⟨x,hx,k⟩;have:=Z24.mp b2 z (a z z1);exact absurd z2 this
   ·exact .inr (.inr ⟨p,hp,a⟩)
 ·have:=f.pot;rw[K15,K3]at this;rw[wsum_snoc];omega
 ·have:=f.wm;rw[K15,K3]at this;rw[wsum_snoc];omega
end
def FHp (h:AH) (P W:List (List Nat)) (j:AH):AH:=h++(.lst (stsD P)::.lst (stsD W)::j)
section
variable {P W P':List (List Nat)}
theorem fh0:(FHp h P W j)[h.length]?=.(l (stsD P)):=am0
theorem fh1:(FHp h P W j)[h.length+1]?=.(l (stsD W)):=am1
theorem fs0:(FHp h P W j).set h.length (.lst (stsD P'))=FHp h P' W j:=sm0
theorem fs1:(FHp h P W j).set (h.length+1) (.lst (stsD P'))=FHp h P P' j:=sm1
theorem zt4 {k:AH}:FHp h P W j++k=FHp h P W (j++k):=by unfold FHp;simp
theorem zt6:(FHp h P W j).length=h.length+2+j.length:=by unfold FHp;rw[K3,K01,K01];omega
theorem zS0 {o:O}:(FHp h P W (j++[o]))[h.length+2+j.length]?=some o:=by
 rw[<- zt4,<- zt6 (P:=P) (W:=W)];exact z0D
end
theorem zX5 {h:AH}(q:MA st mk) (Lr:L.Pairwise (·<·)) (Ll:∀x∈L,x<st.length) (hw:ws.length<=1000):
 ∃P,FI st mk ws L P [] [] 81 81/\z2C [maD st mk,.tup (stD L),.tup (ws.map wD)] h=.ok (.ref .(g)) (h++[.lst (stsD P)]):=by
 have n40:=q.l2;have Lle:L.length<=st.length:=z22 (z0e Lr) Ll;have w1:wsum [L]=2 * L.length+1:=by unfold wsum;simp
 have key:W (runF 8 z14 [maD st mk,.tup (stD L),.tup (ws.map wD)]) h λd h1=>d=.ref .(g)/\∃P j,FI st mk ws L P [] [] 81 81/\h1=FHp h P [] j:=by
  refine z1z ?_;show W (z14 [some .(7),.(g (stD L)),.(g (ws.map wD)),none,none,none,none,none]) h _;unfold z14;refine w8 (.ref .(g)) [some .(7),.(g (stD L)),.(g (ws.map wD)),.(r .(g)),none,none,none,none] (h1:=h++[.lst []]) rfl rfl ?_;refine w8 (.ref (.(g)+1)) [some .(7),.(g (stD L)),.(g (ws.map wD)),.(r .(g)),.(r (.(g)+1)),none,none,none] (h1:=FHp h [] [L] []) (by
   show Res.ok (D.ref (h++[O.lst []]).length) (h++[O.lst []]++[O.lst [D.tup (stD L)]])=_;rw[K3,K09,K05];rfl) rfl ?_
  refine z23 (λγ h1=>∃P j v5 v6 v7,γ=[some .(7),.(g (stD L)),.(g (ws.map wD)),.(r .(g)),.(r (.(g)+1)),v5,v6,v7]/\h1=FHp h P [] j/\FI st mk ws L P [] [] 81 81) ?_ ?_
  ·refine z0v (λm γ h1=>∃P W j v5 v6 v7,γ=[some .(7),.(g (stD L)),.(g (ws.map wD)),.(r h.length),.(r (h.length+1)),v5,v6,v7]/\h1=FHp h P W j/\FI st mk ws L P W [] 81 81/\m=wsum W) _ _ ?_ 1000000 (wsum [L]) _ _ (by rw[w1];omega) ⟨[],[L],[],none,none,none,rfl,rfl,⟨λp hp=>absurd hp K25,λv hv=>?_,λS hS hL=>.inr (.inl ⟨L,by simp,hL⟩),?_,?_⟩,rfl⟩
   ·rintro m γ h1 ⟨P,W,j,v5,v6,v7,rfl,rfl,fi,hm⟩;refine FT.W.of (a:=!(stsD W).isEmpty) (h':=FHp h P W j) (z6X rfl fh1) ?_;rcases K21 W with rfl|⟨W,V,rfl⟩
    ·exact⟨P,j,v5,v6,v7,rfl,rfl,fi⟩
    ·rw[K22]at *;rw[show (!(stsD (W++[V])).isEmpty)=true by unfold stsD;simp,if_pos rfl];have pot:=fi.pot;have wmm:=fi.wm;have wl:=z8i W;rw[wsum_snoc]at pot wmm hm;rw[K3z,K0b]at pot wmm;refine⟨wsum W+2 * V.length,by omega,?_⟩;refine zs5 (i:=.(g)+1) (xs:=stsD W) (v:=.tup (stD V)) rfl (by rw[z4f];exact fh1) (by rw[z17];omega) ?_;rw[fs1];show FT.W _ _ _;obtain⟨Vr,VL⟩:=fi.wr V .(f);have Vl:∀x∈V,x<st.length:=λx hx=>Ll x (VL x hx);obtain⟨sp,fl,pl,cv⟩:=zW7 (ws:=ws) q Vr Vl;obtain⟨A,eA⟩:∃A,A=prts st.length V (inV st V):=⟨_,rfl⟩;have str:=zm0 (mk:=mk) (zq9 q) q.s1 Vr Vl;rw[<- eA]at sp fl pl cv str;have Vle:V.length<=st.length:=z22 (z0e Vr) Vl;have f0:FI st mk ws L P W A 81 (wsum W+2 * V.length):=⟨fi.ok,λv hv=>fi.wr v (by simp[hv]),λS hS hL=>by
      rcases fi.cov S hS hL with a|⟨v,hv,a⟩|⟨p,hp,_⟩
      ·exact .inl a
      ·rcases K00.mp hv with hv|hv
       ·exact .inr (.inl ⟨v,hv,a⟩)
       ·rw[K0j]at hv;subst hv;exact .inr (.inr (cv S hS a))
      ·exact absurd hp K25,by omega,by omega⟩
     obtain⟨k,ek⟩:∃k,k=j++[O.lst (stsD A)]:=⟨_,rfl⟩;have src:z0c (eFn 2 z0t (z7 .(i) (z7 (eVar 5) aNil))) [some .(7),.(g (stD L)),.(g (ws.map wD)),.(r .(g)),.(r (.(g)+1)),.(g (stD V)),v6,v7] (FHp h P W j)=.ok (.lst (.(g)+2+j.length) (stsD A)) (FHp h P W k):=by
      have e1:eFn 2 z0t (z7 .(i) (z7 (eVar 5) aNil)) [some .(7),.(g (stD L)),.(g (ws.map wD)),.(r .(g)),.(r (.(g)+1)),.(g (stD V)),v6,v7] (FHp h P W j)=.ok (.ref (.(g)+2+j.length)) (FHp h P W k) :=
       fn_h (ds:=[maD st mk,.tup (stD V)]) (ac_h .(d) (ac_h .(d) rfl)) rfl (by rw[str,zd3 (by rw[z17];omega),zt4,zt6,ek])
      have g:getL (h.length+2+j.length) (FHp h P W k)=.ok (stsD A) (FHp h P W k):=by unfold getL;rw[ek,zS0]
      unfold z0c;rw[M.bind_ok e1];dsimp only;rw[M.bind_ok g];rfl
     refine z23 (λγ h2=>∃P' W' v6 v7,γ=[some .(7),.(g (stD L)),.(g (ws.map wD)),.(r .(g)),.(r (.(g)+1)),.(g (stD V)),v6,v7]/\h2=FHp h P' W' k/\FI st mk ws L P' W' [] 81 (wsum W+2 * V.length)) ?_ ?_
     ·refine z07 (λt γ h2=>∃P' W' v6 v7,γ=[some .(7),.(g (stD L)),.(g (ws.map wD)),.(r .(g)),.(r (.(g)+1)),.(g (stD V)),v6,v7]/\h2=FHp h P' W' k/\FI st mk ws L P' W' (A.drop t) 81 (wsum W+2 * V.length)) (λ_ _=>False) ?_;refine W_of src ⟨⟨P,W,v6,v7,rfl,rfl,by rw[List.drop_zero];exact f0⟩,?_,?_,?_,λ_ _ f=>f.elim⟩
      ·rintro t γ h2 ⟨P',W',v6,v7,rfl,rfl,_⟩;show (FHp h P' W' k)[.(g)+2+j.length]?=_;rw[ek];exact zS0
      ·rintro t d γ h2 hd ⟨P',W',v6,v7,rfl,rfl,f⟩;have hd:(stsD A)[t]?=some d:=hd;unfold stsD at hd;rw[K0i]at hd;obtain⟨p,ep,rfl⟩:=K16.mp hd;have hp:=K0s ep;have spp:=sp p hp;obtain⟨ht,et⟩:=K02.mp ep;rw[K3a ht,et]at f;cases p with
       | nil=>exact absurd rfl spp.ne
       | cons y r =>
        have yl:y<st.length:=Vl y (spp.v y .(f));have ple:(y::r).length<=st.length:=z22 (z0e spp.r) λx hx=>Vl x (spp.v x hx);have pml:∀x∈y::r,x<mk.length:=λx hx=>by rw[q.l3];exact Vl x (spp.v x hx)
        refine FT.W.of (a:=[some .(7),.(g (stD L)),.(g (ws.map wD)),.(r .(g)),.(r (.(g)+1)),.(g (stD V)),.(g ((stD (y::r)))),v7]) rfl ?_;refine z2r (rndB st y r) (cv_h (fn_h (ds:=[.tup (stsD st),.tup (stD (y::r))]) (ac_h (e2_h .(d) (y:=.int 0) rfl (by rw[z4T];rfl)) (ac_h .(d) rfl)) rfl (by rw[zq7 yl];rfl))) ?_;cases rb:rndB st y r with
        | false =>
         rw[if_neg (by decide)];exact z0f (y4 ⟨P',W',_,_,rfl,rfl,f.skip rb⟩)
        | true =>
         rw[if_pos rfl];obtain⟨d,ed,cs⟩:=zk0 (st:=st) (mk:=mk) (l:=y::r) (ws:=ws) .(1) pml hw;refine z1u (w8 d [some .(7),.(g (stD L)),.(g (ws.map wD)),.(r .(g)),.(r (.(g)+1)),.(g (stD V)),.(g ((stD (y::r)))),some d] (h1:=FHp h P' W' k) (fn_h (ds:=[maD st mk,.tup (stD (y::r)),.tup (ws.map wD)]) (ac_h .(d) (ac_h .(d) (ac_h .(d) rfl))) rfl (by rw[ed];rfl)) rfl ?_);have pt:=f.pot;have wl':=z8i W';rcases cs with ⟨rfl,no⟩|⟨i,w,rfl,ew,bd⟩
         ·refine z1u (z2r true (cb_h (e2_h .(d) (y:=.int (-1)) rfl (by rw[z6C];rfl))) ?_);rw[if_pos rfl];refine z1u (z1D (i:=.(g)) rfl fh0 (by rw[z17];omega) .(d) ?_);rw[z4f,fs0];exact z0f (z0f (y4 ⟨P'++[y::r],W',_,_,rfl,rfl,f.keep spp VL rb no⟩))
         ·refine z1u (z2r false (cb_h (e2_h .(d) (y:=.int (-1)) rfl (by
           rw[z6C,.(m) (show ¬ (i:Int)=-1 by omega)];rfl))) ?_)
          rw[if_neg (by decide)];have eix:e2 fIx (e2 fIx (eVar 2) (eVar 7)) .(c) [some .(7),.(g (stD L)),.(g (ws.map wD)),.(r .(g)),.(r (.(g)+1)),.(g (stD V)),.(g ((stD (y::r)))),.(i (i:Nat))] (FHp h P' W' k)=.ok (.str w.1) (FHp h P' W' k) :=
           e2_h (e2_h .(d) .(d) (by rw[ix_tup (d:=wD w) (z1n (by rw[K0i,ew];rfl))];rfl)) (y:=.int 0) rfl rfl
          refine z1u (z1D (i:=.(g)+1) (v:=.tup (stD ((y::r).filter λx=>!bear w.1 mk x))) rfl fh1 (by rw[z17];omega) (fn_h (ds:=[maD st mk,.tup (stD (y::r)),.str w.1]) (ac_h .(d) (ac_h .(d) (ac_h eix rfl))) rfl (by rw[zA3 .(1) pml];rfl)) ?_);rw[z4f,fs1];exact z0f (z0f (y4 ⟨P',W'++[(y::r).filter λx=>!bear w.1 mk x],_,_,rfl,rfl,f.cut spp VL (K0s ew) bd⟩))
      ·rintro γ h2 ⟨P',W',v6,v7,rfl,rfl,f⟩;refine⟨P',W',v6,v7,rfl,rfl,?_⟩;rw[show (Src.lst (.(g)+2+j.length) (stsD A)).items.length=A.length from z17 A,List.drop_length]at f;exact f
     ·rintro γ h2 ⟨P',W',v6,v7,rfl,rfl,f⟩;have wm:=f.wm;rw[K3z,K0b]at wm;exact y4 ⟨wsum W',by omega,P',W',k,_,v6,v7,rfl,rfl,⟨f.ok,f.wr,f.cov,f.pot,by have:=f.pot;omega⟩,rfl⟩
   ·rw[K0j]at hv;subst hv;exact⟨Lr,λx hx=>hx⟩
   ·rw[w1];simp;omega
   ·rw[w1];simp;omega
  ·rintro γ h1 ⟨P,j,v5,v6,v7,rfl,rfl,fi⟩;exact Y2 (.ref .(g)) .(d) ⟨rfl,P,j,fi,rfl⟩
 obtain⟨d,h1,e,rfl,P,j,fi,rfl⟩:=key;refine⟨P,fi,z7p (i:=.(g)) (j:=.lst (stsD P)::.lst (stsD [])::j) e (K04 _) am0 (J9 λa=>z15 a)⟩
theorem zr6 (P:List (List Nat)):(P.flatMap λp=>((p).filter λ_=>true).map λ(y:Nat)=>D.int y)=stD P.flatten:=by
 induction P with
 | nil=>rfl
 | cons a P ih=>rw[K85,ih,filter_tt,K15,<- zU1];rfl
theorem zA7 {V:List Nat}(q:MA st mk) (w:h[n]?=some (.ins "Rounds" [])\/h[n]?=some (.ins "Worklist" [])) (Vr:V.Pairwise (·<·)) (Vl:∀x∈V,x<st.length) (hw:ws.length<=1000):
 ∃u,UL st V (gl st mk ws V) u/\y0 [.ref n,maD st mk,.tup (stD V),.tup (ws.map wD)] h=.ok (.tup (stD (Y1 u))) h:=by
 have n40:=q.l2;have Vn:=z0e Vr;have nl:n<h.length:=by rcases w with w|w<;>exact(K02.mp w).1
 have key:W (runF 5 z05 [.ref n,maD st mk,.tup (stD V),.tup (ws.map wD)]) h λd h1=>(∃u,UL st V (gl st mk ws V) u/\d=.tup (stD (Y1 u)))/\∃j,h1=h++j:=by
  refine z1z ?_;show W (z05 [.(r n),some .(7),.(g (stD V)),.(g (ws.map wD)),none]) h _;unfold z05;obtain⟨L,la,el⟩:=zd1 (h:=h) q Vn Vl;have Lr:=Vr.sublist la.1;have Ll:∀x∈L,x<st.length:=λx hx=>Vl x (la.1.subset hx);obtain⟨P,fi,ef⟩:=zX5 (ws:=ws) (h:=h) q Lr Ll hw;have pot:=fi.pot;refine w8 (.ref .(g)) [.(r n),some .(7),.(g (stD V)),.(g (ws.map wD)),.(r .(g))] (fn_h (ds:=[maD st mk,.tup (stD L),.tup (ws.map wD)]) (ac_h .(d) (ac_h (fn_h (ds:=[maD st mk,.tup (stD V)]) (ac_h .(d) (ac_h .(d) rfl)) rfl el) (ac_h .(d) rfl))) rfl ef) rfl ?_;have c:=zB2 (cap:=[none,none]) (mi:=z0c (eVar 4)) (mi1:=Y7 .(i)) (g:=gN 0) (g1:=gN 1) (k:=λ_=>pure true) (me:=eVar 1) (γ:=[.(r n),some .(7),.(g (stD V)),.(g (ws.map wD)),.(r .(g))]) (h:=h++[.lst (stsD P)]) (src:=.lst .(g) (stsD P)) (l:=P) (λp=>.tup (stD p)) (λp=>p) (λ_ _=>true) (λ_ y=>.int y) (z3c .(d) z0D) rfl (λj=>J8 z0D) (by
   have:(P.flatMap λp=>p)=P.flatten:=by simp[List.flatMap]
   rw[this];omega) λp hp=>⟨[.(g (stD p)),none],.con (stD p),λ_=>rfl,λj=>z0C .(d),rfl,λ_=>trivial,λy hy=>⟨[.(g (stD p)),.(i y)],λ_=>rfl,λ_=>rfl,λ_ _=>rfl⟩⟩
  rw[zr6]at c;have mem:∀x,x∈setN P.flatten↔Goal st mk ws V x:=λx=>by
   rw[z4j,List.mem_flatten];constructor
   ·rintro⟨p,hp,hx⟩;obtain⟨_,g,hL⟩:=fi.ok p hp;exact⟨(·∈p),g,λy hy=>la.1.subset (hL y hy),hx⟩
   ·rintro⟨S,g,hV,hx⟩;rcases fi.cov S g (λy hy=>la.2 S hV (λx hx=>(g.rn x x hx hx).next) y hy) with ⟨p,hp,a⟩|⟨v,hv,_⟩|⟨v,hv,_⟩
    ·exact⟨p,hp,a x hx⟩
    ·exact absurd hv K25
    ·exact absurd hv K25
  have ml:∀x∈setN P.flatten,x<st.length:=λx hx=>by
   obtain⟨S,_,hV,hx⟩:=(mem x).mp hx;exact Vl x (hV x hx)
  have sl:=z22 (z0e (z2x P.flatten)) ml;obtain⟨k,ek⟩:∃k,k=h++[O.lst (stsD P)]++[O.lst (stD P.flatten)]:=⟨_,rfl⟩;have so:eFn 1 z1h (z7 (z4W [none,none] (z0c (eVar 4)) (gN 0) (Y7 .(i)) (gN 1) (λ_=>pure true) .(j)) aNil) [.(r n),some .(7),.(g (stD V)),.(g (ws.map wD)),.(r .(g))] (h++[.lst (stsD P)])=.ok (.tup (stD (setN P.flatten))) k:=by
   rw[ek];exact fn_h (ds:=[.ref (h++[O.lst (stsD P)]).length]) (ac_h c rfl) rfl (z8m z0D .(1) .(1))
  obtain⟨u,ul,eu⟩:=zI3 (γ:=[.(r n),some .(7),.(g (stD V)),.(g (ws.map wD)),.(r .(g))]) (h:=h++[.lst (stsD P)]) (k:=k) (mr:=z7 .(j) (z7 (eVar 2) (z7 (eFn 1 z1h (z7 (z4W [none,none] (z0c (eVar 4)) (gN 0) (Y7 .(i)) (gN 1) (λ_=>pure true) .(j)) aNil)) aNil))) q (w.imp (λe=>J8 e) λe=>J8 e) rfl (ac_h .(d) (ac_h .(d) (ac_h so rfl))) Vn Vl (z0e (z2x P.flatten)) ml;exact Y2 (.tup (stD (Y1 u))) eu ⟨⟨u,ul.gl mem,rfl⟩,_,by rw[ek,K05]⟩
 obtain⟨d,h1,e,⟨u,hu,rfl⟩,j,rfl⟩:=key;exact⟨u,hu,z0u e (z15 _)⟩
theorem zy5 (a b:Nat):K6w (a:Int) (b:Int)=((a ||| b:Nat):Int):=by
 have n1:K4q (a:Int)=-((a:Int)+1):=by unfold K4q;omega
 have n2:K4q (b:Int)=-((b:Int)+1):=by unfold K4q;omega
 have k:∀c:Nat,K4q (-((c:Int)+1))=(c:Int):=λc=>by unfold K4q;omega
 unfold K6w K5g;rw[n1,n2,k,k,.(m) (show ¬ (0:Int)<=-((a:Int)+1) by omega),.(m) (show ¬ (0:Int)<=-((b:Int)+1) by omega)];dsimp only;rw[K14,K14];unfold K4q;omega
theorem zs1 (a b:Nat):K5g (a:Int) (b:Int)=((a &&& b:Nat):Int):=by
 unfold K5g;rw[decide_eq_true (show (0:Int)<=(a:Int) by omega),decide_eq_true (show (0:Int)<=(b:Int) by omega)];dsimp only;rw[K14,K14]
def z04 (l:List Nat):Nat:=l.foldl (λm x=>m ||| 2 ^ x) 0
theorem zc3 (l:List Nat) (x:Nat):z04 (l++[x])=z04 l ||| 2 ^ x:=by unfold z04;rw[K6g];rfl
theorem zb1 (i:Nat):∀(l:List Nat) (m:Nat),(l.foldl (λm x=>m ||| 2 ^ x) m).testBit i=(m.testBit i||decide (i∈l))
 | [],m=>by simp
 | a::l,m=>by
  rw[K52,zb1 i l,K6e,Nat.testBit_two_pow];rw[K0o];simp only[K2o,decide_eq_true_eq,K0y];constructor
  ·rintro((h|h)|h)
   ·exact .inl h
   ·exact .inr (.inl h.symm)
   ·exact .inr (.inr h)
  ·rintro(h|h|h)
   ·exact .inl (.inl h)
   ·exact .inl (.inr h.symm)
   ·exact .inr h
theorem z0V (l:List Nat) (i:Nat):(z04 l).testBit i=decide (i∈l):=by unfold z04;rw[zb1];simp
theorem and_ne:a &&& b≠0↔∃i,a.testBit i=true/\b.testBit i=true:=by
 constructor
 ·intro h;obtain⟨i,hi⟩:=K74 h;rw[K54,K0k]at hi;exact⟨i,hi⟩
 ·rintro⟨i,h1,h2⟩ z;have:=congrArg (λm=>m.testBit i) z;simp only[K54,h1,h2,Bool.and_self,K8m]at this;cases this
def z30 (A:List Nat) (g:Nat):Nat:=z04 ((K0m A.length).filter λk=>decide (0<(A[k]?).getD 0 &&& g))
def Y8 (A:List Nat) (w g:Nat):Nat->Nat
 | 0=>g
 | k+1=>Y8 A w g k ||| (w &&& z30 A (Y8 A w g k))
def z4S (A:List Nat) (w g:Nat):Nat:=Y8 A w g A.length
def y3 (st:List (List Nat)):List Nat:=st.map z04
def z1S (n m:Nat):List Nat:=(K0m n).filter λx=>m.testBit x
theorem bits_mem:x∈z1S n m↔x<n/\m.testBit x=true:=by unfold z1S;rw[K06,K18]
section
variable {w g:Nat}
theorem z96 {F:Nat}:(z30 (y3 st) F).testBit x=true↔x<st.length/\∃y∈nx st x,F.testBit y=true:=by
 unfold z30;rw[z0V,decide_eq_true_eq,K06,K18,decide_eq_true_eq,show (y3 st).length=st.length by unfold y3;simp];refine and_congr_right λhx=>?_;have e:((y3 st)[x]?).getD 0=z04 (nx st x):=by
  unfold y3 nx;rw[K0i,K9 hx];rfl
 rw[e,K9y,and_ne];constructor
 ·rintro⟨y,h1,h2⟩;rw[z0V,.(h)]at h1;exact⟨y,h1,h2⟩
 ·rintro⟨y,h1,h2⟩;exact⟨y,by rw[z0V,.(h)];exact h1,h2⟩
theorem near_step {F:Nat}:(F ||| (w &&& z30 (y3 st) F)).testBit x=true↔F.testBit x=true\/w.testBit x=true/\x<st.length/\∃y∈nx st x,F.testBit y=true:=by
 rw[K6e,K54,K2o,K0k,z96]
theorem z5y (hg:∀x,g.testBit x=true->x<st.length):∀k x,(Y8 (y3 st) w g k).testBit x=true->x<st.length
 | 0,x,h=>hg x h
 | k+1,x,h=>by
  unfold Y8 at h;rcases near_step.mp h with h|⟨_,h,_⟩
  ·exact z5y hg k x h
  ·exact h
theorem z3L (hg:∀x,g.testBit x=true->x<st.length):∀k x,(Y8 (y3 st) w g k).testBit x=true->Ub st (z1S st.length w) (z1S st.length g) x
 | 0,x,h=>.goal (bits_mem.mpr ⟨hg x h,h⟩)
 | k+1,x,h=>by
  unfold Y8 at h;rcases near_step.mp h with h|⟨h1,h2,y,h3,h4⟩
  ·exact z3L hg k x h
  ·exact .step (bits_mem.mpr ⟨h2,h1⟩) h3 (z3L hg k y h4)
theorem z8W (hg:∀x,g.testBit x=true->x<st.length):∀k,(∀x,(Y8 (y3 st) w g (k+1)).testBit x=true->(Y8 (y3 st) w g k).testBit x=true)\/k<=(z1S st.length (Y8 (y3 st) w g k)).length
 | 0=>.inr (K3y _)
 | k+1=>by
  rcases z8W hg k with h|h
  ·left;have e:Y8 (y3 st) w g (k+1)=Y8 (y3 st) w g k:=by
    refine K5k λx=>?_;rw[K0o];exact⟨h x,λz=>by unfold Y8;exact near_step.mpr (.inl z)⟩
   intro x hx;rw[e];unfold Y8 at hx;rw[e]at hx;have:(Y8 (y3 st) w g (k+1)).testBit x=true:=by unfold Y8;exact hx
   rwa [e]at this
  ·by_cases c:∀x,(Y8 (y3 st) w g (k+1)).testBit x=true->(Y8 (y3 st) w g k).testBit x=true
   ·left;have e:Y8 (y3 st) w g (k+1)=Y8 (y3 st) w g k:=by
     refine K5k λx=>?_;rw[K0o];exact⟨c x,λz=>by unfold Y8;exact near_step.mpr (.inl z)⟩
    intro x hx;rw[e];unfold Y8 at hx;rw[e]at hx;have:(Y8 (y3 st) w g (k+1)).testBit x=true:=by unfold Y8;exact hx
    rwa [e]at this
   ·right;obtain⟨x,hx⟩:=K9g.mp c;obtain⟨x1,x2⟩:=Z1p.mp hx;have e:z1S st.length (Y8 (y3 st) w g k)=(z1S st.length (Y8 (y3 st) w g (k+1))).filter λx=>(Y8 (y3 st) w g k).testBit x:=by
     unfold z1S;rw[Z1k];refine K6h λy _=>?_;rw[K0o,K0k];exact⟨λz=>⟨z,by unfold Y8;exact near_step.mpr (.inl z)⟩,λz=>z.1⟩
    have lt:(z1S st.length (Y8 (y3 st) w g k)).length<(z1S st.length (Y8 (y3 st) w g (k+1))).length:=by
     rw[e];exact K3f.mpr ⟨x,bits_mem.mpr ⟨z5y hg _ x x1,x1⟩,x2⟩
    omega
theorem z5H (hg:∀x,g.testBit x=true->x<st.length):(z4S (y3 st) w g).testBit x=true↔Ub st (z1S st.length w) (z1S st.length g) x:=by
 have ln:(y3 st).length=st.length:=by unfold y3;simp
 have stab:∀x,(Y8 (y3 st) w g (st.length+1)).testBit x=true->(Y8 (y3 st) w g st.length).testBit x=true:=by
  rcases z8W (w:=w) hg st.length with h|h
  ·exact h
  ·intro x hx;have e:z1S st.length (Y8 (y3 st) w g st.length)=K0m st.length:=by
    unfold z1S at h ⊢;exact K4k.eq_of_length (by have:=K10 (λx=>(Y8 (y3 st) w g st.length).testBit x) (K0m st.length);rw[K1q]at this ⊢;omega)
   have:x∈z1S st.length (Y8 (y3 st) w g st.length):=by rw[e];exact K18.mpr (z5y hg _ x hx)
   exact(bits_mem.mp this).2
 unfold z4S;rw[ln];refine⟨z3L hg _ x,λu=>?_⟩;induction u with
 | goal h =>
  have:∀k,(Y8 (y3 st) w g k).testBit _=true:=λk=>by
   induction k with
   | zero=>exact(bits_mem.mp h).2
   | succ k ih=>unfold Y8;exact near_step.mpr (.inl ih)
  exact this _
 | step a b _ ih =>
  refine stab _ ?_;unfold Y8;obtain⟨a1,a2⟩:=bits_mem.mp a;exact near_step.mpr (.inr ⟨a2,a1,_,b,ih⟩)
end
def z3p (A:List Nat) (B:List (Nat×Nat)) (S:Nat):Bool:=((K0m 6).filter λk=>S.testBit k).all (λone=>decide (z4S A S (S &&& z30 A (z04 [one]))=S))&&B.all λp=>!(decide (0<S &&& p.1)&&decide (S &&& p.2=0))
def z3E (mk:List (List Str)) (s:Str):Nat:=z04 ((K0m mk.length).filter λk=>bear s mk k)
def z0K (mk:List (List Str)) (ws:List (Str×Str)):List (Nat×Nat):=ws.map λw=>(z3E mk w.1,z3E mk w.2)
def z1O (A:List Nat) (B:List (Nat×Nat)) (most:Nat):List Nat:=(K7y 1 (most - 1)).filter (z3p A B)
def z2T (R:List Nat) (V:Nat):Nat:=R.foldl (λg S=>if S &&& V=S then g ||| S else g) 0
theorem zc9 {V x:Nat}:∀{R:List Nat}{g:Nat},(R.foldl (λg S=>if S &&& V=S then g ||| S else g) g).testBit x=true↔g.testBit x=true\/∃S∈R,S &&& V=S/\S.testBit x=true
 | [],g=>by simp
 | a::R,g=>by
  rw[K52,zc9];constructor
  ·rintro(h|⟨S,h1,h2⟩)
   ·split at h
    ·rename_i e;rw[K6e,K2o]at h;rcases h with h|h
     ·exact .inl h
     ·exact .inr ⟨a,by simp,e,h⟩
    ·exact .inl h
   ·exact .inr ⟨S,by simp[h1],h2⟩
  ·rintro(h|⟨S,h1,h2,h3⟩)
   ·left;split
    ·rw[K6e,h];rfl
    ·exact h
   ·rcases K0y.mp h1 with rfl|h1
    ·left;rw[if_pos h2,K6e,h3,Bool.or_true]
    ·exact .inr ⟨S,h1,h2,h3⟩
theorem sub_and {S V:Nat}:S &&& V=S↔∀x,S.testBit x=true->V.testBit x=true:=by
 constructor
 ·intro h x hx;rw[<- h,K54,K0k]at hx;exact hx.2
 ·intro h;refine K5k λx=>?_;rw[K54,K0o,K0k];exact⟨λz=>z.1,λz=>⟨z,h x z⟩⟩
theorem bear_bit {s:Str}{k:Nat}:(z3E mk s).testBit k=true↔k<mk.length/\bear s mk k=true:=by
 unfold z3E;rw[z0V,.(h),K06,K18]
section
variable {S:Nat}
theorem z7c (l3:mk.length=st.length) (n5:st.length<=5) (hS:∀x,S.testBit x=true->x<st.length) (pos:0<S):z3p (y3 st) (z0K mk ws) S=true↔GR st mk ws λx=>S.testBit x=true:=by
 have go:∀one,S.testBit one=true->((z4S (y3 st) S (S &&& z30 (y3 st) (z04 [one]))=S)↔∀x,S.testBit x=true->Pt st (λx=>S.testBit x=true) x one):=λone h1=>by
  have gb:∀x,(S &&& z30 (y3 st) (z04 [one])).testBit x=true↔S.testBit x=true/\one∈nx st x:=λx=>by
   rw[K54,K0k,z96];constructor
   ·rintro⟨a,_,y,b,c⟩;rw[z0V,.(h),K0j]at c;exact⟨a,c ▸ b⟩
   ·rintro⟨a,b⟩;exact⟨a,hS x a,one,b,by rw[z0V];simp⟩
  have hg:∀x,(S &&& z30 (y3 st) (z04 [one])).testBit x=true->x<st.length:=λx hx=>hS x ((gb x).mp hx).1;have to:∀x,Ub st (z1S st.length S) (z1S st.length (S &&& z30 (y3 st) (z04 [one]))) x->Pt st (λx=>S.testBit x=true) x one:=λx u=>by
   induction u with
   | goal h =>
    obtain⟨a,b⟩:=(gb _).mp (bits_mem.mp h).2;exact .one a h1 b
   | step a b _ ih=>exact .cons (bits_mem.mp a).2 b ih
  have back:∀x,Pt st (λx=>S.testBit x=true) x one->Ub st (z1S st.length S) (z1S st.length (S &&& z30 (y3 st) (z04 [one]))) x:=λx p=>by
   induction p with
   | one a b c=>exact .goal (bits_mem.mpr ⟨hS _ a,(gb _).mpr ⟨a,c⟩⟩)
   | cons a b _ ih=>exact .step (bits_mem.mpr ⟨hS _ a,a⟩) b (ih h1 gb hg to)
  constructor
  ·intro e x hx;rw[<- e]at hx;exact to x ((z5H hg).mp hx)
  ·intro h;refine K5k λx=>?_;rw[K0o,z5H hg];exact⟨λu=>(to x u).fst,λhx=>back x (h x hx)⟩
 unfold z3p;rw[K0k,K1w,K1w];constructor
 ·rintro⟨h1,h2⟩;refine⟨K74 .(1),λx y hx hy=>?_,λw hw ⟨x,hx,bx⟩=>?_⟩
  ·have:=h1 y (K06.mpr ⟨K18.mpr (by have:=hS y hy;omega),hy⟩);rw[.(h)]at this;exact(go y hy).mp this x hx
  ·have:=h2 (z3E mk w.1,z3E mk w.2) (K1g.mpr ⟨w,hw,rfl⟩);have p1:0<S &&& z3E mk w.1:=K9y.mpr (and_ne.mpr ⟨x,hx,bear_bit.mpr ⟨by rw[l3];exact hS x hx,bx⟩⟩);rw[decide_eq_true p1,Bool.true_and,K4b,decide_eq_false_iff_not]at this;obtain⟨y,y1,y2⟩:=and_ne.mp this;exact⟨y,y1,(bear_bit.mp y2).2⟩
 ·intro g;refine⟨λone h=>?_,λp hp=>?_⟩
  ·have h1:=(K06.mp h).2;rw[.(h)];exact(go one h1).mpr λx hx=>g.rn x one hx h1
  ·obtain⟨w,hw,rfl⟩:=K1g.mp hp;by_cases c:0<S &&& z3E mk w.1
   ·obtain⟨x,x1,x2⟩:=and_ne.mp (K9y.mp c);obtain⟨y,y1,y2⟩:=g.wi w hw ⟨x,x1,(bear_bit.mp x2).2⟩;have:S &&& z3E mk w.2≠0:=and_ne.mpr ⟨y,y1,bear_bit.mpr ⟨by rw[l3];exact hS y y1,y2⟩⟩;rw[.(m) this,K7j];rfl
   ·rw[.(m) c];rfl
theorem zl8 {V:List Nat}(l3:mk.length=st.length) (n5:st.length<=5) (Vr:V.Pairwise (·<·)) (Vl:∀x∈V,x<st.length){x:Nat}:
 (z4S (y3 st) (z04 V) (z2T (z1O (y3 st) (z0K mk ws) (2 ^ st.length)) (z04 V))).testBit x=true↔Ub st V (gl st mk ws V) x:=by
 have low:∀{S:Nat},S<2 ^ st.length->∀x,S.testBit x=true->x<st.length:=λ{S} hS x hx=>by
  rcases Nat.lt_or_ge x st.length with h|h
  ·exact h
  ·rw[Nat.testBit_lt_two_pow (K0r hS (K72 (by decide) h))]at hx;cases hx
 have gb:∀x,(z2T (z1O (y3 st) (z0K mk ws) (2 ^ st.length)) (z04 V)).testBit x=true↔Goal st mk ws V x:=λx=>by
  unfold z2T;rw[zc9,K8m];constructor
  ·rintro(h|⟨S,h1,h2,h3⟩)
   ·cases h
   ·obtain⟨a,b⟩:=K06.mp h1;rw[List.mem_range'_1]at a;have hS:S<2 ^ st.length:=by omega
    refine⟨λx=>S.testBit x=true,(z7c l3 n5 (low hS) .(1)).mp b,λy hy=>?_,h3⟩;have:=sub_and.mp h2 y hy;rwa [z0V,.(h)]at this
  ·rintro⟨T,g,hV,hx⟩;right;obtain⟨S,eS⟩:∃S,S=z04 (V.filter λx=>@decide (T x) (K4s _)):=⟨_,rfl⟩;have bt:∀y,S.testBit y=true↔T y:=λy=>by
    rw[eS,z0V,.(h),K06,@decide_eq_true_eq _ (K4s _)];exact⟨λz=>z.2,λz=>⟨hV y z,z⟩⟩
   have e:(λx=>S.testBit x=true)=T:=funext λy=>propext (bt y);have lowS:∀y,S.testBit y=true->y<st.length:=λy hy=>Vl y (hV y ((bt y).mp hy));have lt:S<2 ^ st.length:=Nat.lt_pow_two_of_testBit _ λi hi=>by
    cases c:S.testBit i with
    | false=>rfl
    | true=>have:=lowS i c;omega
   have pos:0<S:=K9y.mpr λz=>by
    have:=(bt x).mpr hx;rw[z,K8m]at this;cases this
   refine⟨S,K06.mpr ⟨List.mem_range'_1.mpr .(1),(z7c l3 n5 lowS pos).mpr (by rw[e];exact g)⟩,sub_and.mpr λy hy=>?_,(bt x).mpr hx⟩;rw[z0V,.(h)];exact hV y ((bt y).mp hy)
 have hg:∀x,(z2T (z1O (y3 st) (z0K mk ws) (2 ^ st.length)) (z04 V)).testBit x=true->x<st.length:=λx hx=>by
  obtain⟨T,_,hV,h⟩:=(gb x).mp hx;exact Vl x (hV x h)
 rw[z5H hg];have e1:z1S st.length (z04 V)=V:=z2R (K9h _ K6l) Vr λy=>by
  rw[bits_mem,z0V,.(h)];exact⟨λz=>z.2,λz=>⟨Vl y z,z⟩⟩
 rw[e1];exact⟨Ub.mono λy hy=>gl_mem.mpr ((gb y).mp (bits_mem.mp hy).2),Ub.mono λy hy=>bits_mem.mpr ⟨hg y ((gb y).mpr (gl_mem.mp hy)),(gb y).mpr (gl_mem.mp hy)⟩⟩
end
theorem zD1 (a n:Nat):zz5 (a:Nat) n=stD (K7y a n):=by
 unfold zz5 stD;rw[List.range'_eq_map_range,K1h];refine K3t λk _=>?_;simp
theorem Z0O (ea:ma γ h=.ok (.int (a:Nat)) h) (eb:mb γ h=.ok (.int (b:Nat)) h) (ha:a<=1000) (hb:b<=1000):z4H ma mb γ h=.ok (.con (stD (K7y a (b - a)))) h:=by
 unfold z4H;rw[M.bind_ok ea,M.bind_ok eb];dsimp only;rw[if_pos (by unfold okR;rw[decide_eq_true (show -(2 ^ 62)<=((a:Nat):Int) by omega),decide_eq_true (show ((a:Nat):Int)<2 ^ 62 by omega),decide_eq_true (show -(2 ^ 62)<=((b:Nat):Int) by omega),decide_eq_true (show ((b:Nat):Int)<2 ^ 62 by omega)];rfl)];rw[show ((b:Int) - (a:Int)).toNat=b - a by omega];rw[zD1];rfl
theorem zN8 (e:me γ=pure (.int (x:Nat))) (hx:x<6):clE (e2 fIx (eLst (z7 .(e) .(k))) me) γ h=.ok (.int ((2 ^ x:Nat):Int)) h:=by
 refine z0u (j:=[.lst [.int 1,.int 2,.int 4,.int 8,.int 16,.int 32]]) (e2_h (h1:=h++[.lst [.int 1,.int 2,.int 4,.int 8,.int 16,.int 32]]) (x:=.ref .(g)) rfl (by rw[e];rfl) (ix_h z0D (z1n ?_))) rfl;obtain rfl|rfl|rfl|rfl|rfl|rfl:x=0\/x=1\/x=2\/x=3\/x=4\/x=5:=by omega
 all_goals rfl
theorem Z0x (e:me γ (h++[.lst [.int 2,.int 4,.int 8,.int 16,.int 32,.int 64]])=.ok (.int (x:Nat)) (h++[.lst [.int 2,.int 4,.int 8,.int 16,.int 32,.int 64]])) (hx:x<6):clE (e2 fIx (eLst (z7 (λ_=>pure (.int 2)) (z7 (λ_=>pure (.int 4)) (z7 (λ_=>pure (.int 8)) (z7 (λ_=>pure (.int 16)) (z7 (λ_=>pure (.int 32)) (z7 (λ_=>pure (.int 64)) aNil))))))) me) γ h=.ok (.int ((2 ^ (x+1):Nat):Int)) h:=by
 refine z0u (j:=[.lst [.int 2,.int 4,.int 8,.int 16,.int 32,.int 64]]) (e2_h (h1:=h++[.lst [.int 2,.int 4,.int 8,.int 16,.int 32,.int 64]]) (x:=.ref .(g)) rfl e (ix_h z0D (z1n ?_))) rfl;obtain rfl|rfl|rfl|rfl|rfl|rfl:x=0\/x=1\/x=2\/x=3\/x=4\/x=5:=by omega
 all_goals rfl
theorem z5b:fAnd (.int (a:Nat)) (.int (b:Nat))=pure (.int ((a &&& b:Nat):Int)):=by
 show pure (D.int (K5g (a:Int) (b:Int)))=_;rw[zs1]
theorem zC9:fBor (.int (a:Nat)) (.int (b:Nat))=pure (.int ((a ||| b:Nat):Int)):=by
 show pure (D.int (K6w (a:Int) (b:Int)))=_;rw[zy5]
theorem z6K (hd:d=.tup (stD l)\/∃i,d=.ref i/\h[i]?=.(l (stD l))) (hl:∀x∈l,x<6):z02 [d] h=.ok (.int (z04 l:Nat)) h:=by
 refine z41 (z2V ?_) rfl;show W (z2d [some d,none,none]) h _;unfold z2d;refine z7b (.int (0:Nat)) [some d,.(i (0:Nat)),none] rfl rfl ?_;obtain⟨src,es,ei,eg⟩:∃src:Src,orE (Y7 .(i)) (z0c .(i)) [some d,.(i (0:Nat)),none] h=.ok src h/\src.items=stD l/\src.good h:=by
  rcases hd with rfl|⟨i,rfl,e⟩
  ·exact⟨_,Z0E .(d),rfl,trivial⟩
  ·exact⟨_,Z0j .(d) e,rfl,e⟩
 refine z23 (λγ h1=>∃w,γ=[some d,.(i (z04 l:Nat)),w]/\h1=h) ?_ ?_
 ·refine z07 (λc γ h1=>∃w,γ=[some d,.(i ((z04 (l.take c):Nat))),w]/\h1=h) (λ_ _=>False) ?_;refine W_of es ⟨⟨none,rfl,rfl⟩,λ_ _ _ ⟨_,_,e⟩=>e ▸ eg,?_,?_,λ_ _ f=>f.elim⟩
  ·rintro c d' γ h1 hd' ⟨w,rfl,rfl⟩;rw[ei]at hd';obtain⟨x,rfl,ex⟩:=z2w hd';refine W.of (a:=[some d,.(i ((z04 (l.take c):Nat))),.(i (x:Nat))]) rfl ?_;refine w8 (.int (z04 (l.take (c+1)):Nat)) [some d,.(i ((z04 (l.take (c+1)):Nat))),.(i (x:Nat))] (e2_h .(d) (zN8 (x:=x) rfl (hl x (K0s ex))) (by
    rw[zC9,K4a,ex];show _=Res.ok (D.int (z04 (l.take c++[x]):Nat)) _;rw[zc3];rfl)) rfl (y4 ⟨_,rfl,rfl⟩)
  ·rintro γ h1 ⟨w,rfl,rfl⟩;exact⟨w,by rw[ei,y6,K1v],rfl⟩
 ·rintro γ h1 ⟨w,rfl,rfl⟩;exact Y2 (.int (z04 l:Nat)) .(d) ⟨rfl,rfl⟩
theorem set_h:z2G [.int (m:Nat)] h=.ok (.tup (stD ((K0m 6).filter λk=>m.testBit k))) h:=by
 refine z41 (z2V ?_) (z15 _);show W (z2J [.(i (m:Nat)),none]) h _;unfold z2J;have c:=z1I (cap:=[some 0,none]) (mi:=z0b (λ_=>pure (.int 6))) (g:=gN 1) (kb:=λγ=>do let d <- e2 (fEq false) (e2 fMod (e2 fDiv .(i) (clE (e2 fIx (eLst (z7 .(e) .(k))) .(j)))) (λ_=>pure (.int 2))) .(e) γ;asB d) (me:=eVar 1) (γ:=[.(i (m:Nat)),none]) (h:=h) (src:=.con (z1q 6)) (l:=K0m 6) (λk=>m.testBit k) (λk=>.int k) (z1t rfl .(1)) (z7r 6) (λ_=>trivial) .(f) λx hx=>⟨[.(i (m:Nat)),.(i (x:Nat))],λ_=>rfl,λj=>by
  rw[K18]at hx;have px:0<2 ^ x:=Nat.pow_pos (by decide);have p6:2 ^ x<=2 ^ 6:=K72 (by decide) .(1);refine cb_h (e2_h (e2_h (e2_h .(d) (zN8 (x:=x) rfl hx) (by rw[zN0 px .(1)];rfl)) (y:=.int (2:Nat)) rfl (by rw[zY2 (by decide)];rfl)) (y:=.int (1:Nat)) rfl ?_);rw[z6C,Nat.testBit_eq_decide_div_mod_eq];show Res.ok _ _=_;congr 2;rw[K1z,K0o,.(h),.(h)];exact K6x,λ_ j=>rfl⟩
 exact Y2 _ (z5Q c (z1K _)) ⟨rfl,rfl⟩
theorem zF1 (e:h[a]?=.(l (stD A))):fLen [.ref a] h=.ok (.int (A.length:Nat)) h:=by rw[zW4 e,y6]
theorem zb0 {g:Nat}(e:h[a]?=.(l (stD A))) (l6:A.length<=6):z2a [.ref a,.int (g:Nat)] h=.ok (.int (z30 A g:Nat)) h:=by
 have c:=z1I (cap:=[some 0,some 1,none]) (mi:=z0b (Z7 fLen (z7 .(i) aNil))) (g:=gN 2) (kb:=λγ=>do let d <- e2 fGt (e2 fAnd (e2 fIx .(i) (eVar 2)) .(j)) .(c) γ;asB d) (me:=eVar 2) (γ:=[.(r a),.(i (g:Nat))]) (h:=h) (src:=.con (z1q A.length)) (l:=K0m A.length) (λk=>decide (0<(A[k]?).getD 0 &&& g)) (λk=>.int k) (z1t (J0 .(d) (zF1 e)) .(1)) (z7r _) (λ_=>trivial) (by simp;omega) λx hx=>⟨[.(r a),.(i (g:Nat)),.(i (x:Nat))],λ_=>rfl,λj=>by
  rw[K18]at hx;refine cb_h (e2_h (e2_h (e2_h .(d) .(d) (ix_h (d:=.int ((A[x]?).getD 0:Nat)) (J8 e) (z1n (by unfold stD;rw[K0i,K9 hx];rfl)))) .(d) (by rw[z5b];rfl)) (y:=.int (0:Nat)) rfl ?_);rw[z6I];show Res.ok _ _=_;congr 2;rw[K0o,.(h),.(h)];exact Int.ofNat_lt,λ_ j=>rfl⟩
 refine z0u (j:=[.lst (stD ((K0m A.length).filter λk=>decide (0<(A[k]?).getD 0 &&& g)))]) (z2V ?_) rfl;show W (z2c [.(r a),.(i (g:Nat))]) h _;unfold z2c;exact Y2 (.int (z30 A g:Nat)) (fn_h (ds:=[.ref .(g)]) (ac_h c rfl) rfl (z6K (.inr ⟨_,rfl,z0D⟩) λx hx=>by have:=K18.mp (K06.mp hx).1;omega)) ⟨rfl,rfl⟩
theorem zv5 {w g:Nat}(e:h[a]?=.(l (stD A))) (l6:A.length<=6):z27 [.ref a,.int (w:Nat),.int (g:Nat)] h=.ok (.int (z4S A w g:Nat)) h:=by
 refine z41 (z2V ?_) rfl;show W (z2f [.(r a),.(i (w:Nat)),.(i (g:Nat)),none,none]) h _;unfold z2f;refine z7b (.int (g:Nat)) [.(r a),.(i (w:Nat)),.(i (g:Nat)),.(i (g:Nat)),none] rfl rfl ?_;refine z23 (λγ h1=>∃v,γ=[.(r a),.(i (w:Nat)),.(i (g:Nat)),.(i (z4S A w g:Nat)),v]/\h1=h) ?_ ?_
 ·refine z07 (λc γ h1=>∃v,γ=[.(r a),.(i (w:Nat)),.(i (g:Nat)),.(i (Y8 A w g c:Nat)),v]/\h1=h) (λ_ _=>False) ?_;refine W_of (z1t (J0 .(d) (zF1 e)) .(1)) ⟨⟨none,rfl,rfl⟩,λ_ _ _ _=>trivial,?_,?_,λ_ _ f=>f.elim⟩
  ·rintro c d γ h1 hd ⟨v,rfl,rfl⟩;refine W.of (a:=[.(r a),.(i (w:Nat)),.(i (g:Nat)),.(i (Y8 A w g c:Nat)),some d]) rfl ?_;exact w8 (.int (Y8 A w g (c+1):Nat)) [.(r a),.(i (w:Nat)),.(i (g:Nat)),.(i ((Y8 A w g (c+1):Nat))),some d] (e2_h .(d) (e2_h .(d) (fn_h (ds:=[.ref a,.int (Y8 A w g c:Nat)]) (ac_h .(d) (ac_h .(d) rfl)) rfl (zb0 e l6)) (by rw[z5b];rfl)) (by rw[zC9];rfl)) rfl (y4 ⟨_,rfl,rfl⟩)
  ·rintro γ h1 ⟨v,rfl,rfl⟩;exact⟨v,by rw[show (Src.con (z1q A.length)).items.length=A.length by simp[Src.items,z1q]];rfl,rfl⟩
 ·rintro γ h1 ⟨v,rfl,rfl⟩;exact Y2 _ .(d) ⟨rfl,rfl⟩
def pD (p:Nat×Nat):D:=.tup [.int (p.1:Nat),.int (p.2:Nat)]
section
variable {B:List (Nat×Nat)}
theorem zA9 {S:Nat}(ea:h[a]?=.(l (stD A))) (eb:h[b]?=.(l (B.map pD))) (l6:A.length<=6):z1C [.ref a,.int (S:Nat),.ref b] h=.ok (.bl (z3p A B S)) h:=by
 have key:W (runF 6 z0Z [.ref a,.int (S:Nat),.ref b]) h λd h1=>d=.bl (z3p A B S)/\∃j,h1=h++j:=by
  refine z1z ?_;show W (z0Z [.(r a),.(i (S:Nat)),.(r b),none,none,none]) h _;unfold z0Z;obtain⟨L,eL⟩:∃L,L=(K0m 6).filter λk=>S.testBit k:=⟨_,rfl⟩;have l6L:∀x∈L,x<6:=λx hx=>by rw[eL]at hx;exact K18.mp (K06.mp hx).1
  let f:Nat->Bool:=λone=>decide (z4S A S (S &&& z30 A (z04 [one]))=S);let g:Nat×Nat->Bool:=λp=>!(decide (0<S &&& p.1)&&decide (S &&& p.2=0));have rb:z3p A B S=(L.all f&&B.all g):=by rw[eL];rfl
  rw[w_cons];refine z07 (λc γ h1=>∃v,γ=[.(r a),.(i (S:Nat)),.(r b),v,none,none]/\(∃j,h1=h++j)/\(L.take c).all f=true) (λd h1=>d=.bl (z3p A B S)/\∃j,h1=h++j) ?_;refine W_of (z0C (xs:=stD L) (fn_h (ds:=[.int (S:Nat)]) (ac_h .(d) rfl) rfl (by rw[set_h,eL]))) ⟨⟨none,rfl,⟨[],by simp⟩,rfl⟩,λ_ _ _ _=>trivial,?_,?_,λ_ _ z=>z⟩
  ·rintro c d γ h1 hd ⟨v,rfl,⟨j,rfl⟩,al⟩;obtain⟨x,rfl,ex⟩:=z2w (show (stD L)[c]?=some d from hd);refine W.of (a:=[.(r a),.(i (S:Nat)),.(r b),.(i (x:Nat)),none,none]) rfl ?_;have m1:eFn 1 z02 (z7 (eLst (z7 (eVar 3) aNil)) aNil) [.(r a),.(i (S:Nat)),.(r b),.(i (x:Nat)),none,none] (h++j)=.ok (.int (z04 [x]:Nat)) (h++j++[.lst (stD [x])]) :=
    fn_h (h1:=h++j++[.lst (stD [x])]) (ds:=[.ref (h++j).length]) rfl rfl (z6K (.inr ⟨_,rfl,z0D⟩) λy hy=>by rw[K0j]at hy;rw[hy];exact l6L x (K0s ex))
   have e1:(h++j++[O.lst (stD [x])])[a]?=.(l (stD A)):=J8 (J8 ea);refine zZ2 (W_of (v:=!f x) (h1:=h++j++[.lst (stD [x])]) (cb_h (e2_h (fn_h (ds:=[.ref a,.int (S:Nat),.int (S &&& z30 A (z04 [x]):Nat)]) (ac_h .(d) (ac_h .(d) (ac_h (e2_h .(d) (fn_h (ds:=[.ref a,.int (z04 [x]:Nat)]) (ac_h .(d) (ac_h m1 rfl)) rfl (zb0 e1 l6)) (by rw[z5b];rfl)) rfl))) rfl (zv5 e1 l6)) .(d) (by
    rw[z6o,K58];show Res.ok _ _=Res.ok (D.bl (!decide (z4S A S (S &&& z30 A (z04 [x]))=S))) _;congr 3;rw[K0o,.(h),.(h)];exact K6x))) ?_)
   cases fx:f x with
   | true =>
    rw[K3i,if_neg (by decide)];refine z0f (y4 ⟨_,rfl,⟨_,by rw[K05]⟩,?_⟩);rw[K4a,ex,Z2s,al];simp[fx]
   | false =>
    rw[K4r,if_pos rfl];refine z1u (Y2 (.bl false) rfl ⟨?_,_,by rw[K05]⟩);have:L.all f=false:=Z1o.mpr ⟨x,K0s ex,by rw[fx];decide⟩;rw[rb,this];rfl
  ·rintro γ h1 ⟨v,rfl,⟨j,rfl⟩,al⟩;rw[show (Src.con (stD L)).items.length=L.length from y6 L,K1v]at al;show W _ _ _;rw[w_cons];refine z07 (λc γ h1=>∃v5 v6,γ=[.(r a),.(i (S:Nat)),.(r b),v,v5,v6]/\h1=h++j/\(B.take c).all g=true) (λd h1=>d=.bl (z3p A B S)/\∃j,h1=h++j) ?_;refine W_of (z3c .(d) (J8 eb)) ⟨⟨_,_,rfl,rfl,rfl⟩,?_,?_,?_,λ_ _ z=>z⟩
   ·rintro c γ h1 ⟨v5,v6,rfl,rfl,_⟩;exact J8 eb
   ·rintro c d γ h1 hd ⟨v5,v6,rfl,rfl,al2⟩;have hd:(B.map pD)[c]?=some d:=hd;rw[K0i]at hd;obtain⟨⟨x,y⟩,ep,rfl⟩:=K16.mp hd;refine W_eq (v:=[.(r a),.(i (S:Nat)),.(r b),v,.(i (x:Nat)),.(i (y:Nat))]) (by unfold pD;simp only[K01,K0b,K08,K07,K0p,x6,z0r,gN,z3o,gT,if_true]) ?_;have c1:(λγ=>do let d <- e2 fGt (e2 fAnd .(j) (eVar 4)) .(c) γ;asB d:G->M Bool) [.(r a),.(i (S:Nat)),.(r b),v,.(i (x:Nat)),.(i (y:Nat))] (h++j)=.ok (decide (0<S &&& x)) (h++j):=cb_h (e2_h (e2_h .(d) .(d) (by rw[z5b];rfl)) (y:=.int (0:Nat)) rfl (by
     rw[z6I];show Res.ok _ _=_;congr 2;rw[K0o,.(h),.(h)];exact Int.ofNat_lt))
    have c2:(λγ=>do let d <- e2 (fEq false) (e2 fAnd .(j) (eVar 5)) .(c) γ;asB d:G->M Bool) [.(r a),.(i (S:Nat)),.(r b),v,.(i (x:Nat)),.(i (y:Nat))] (h++j)=.ok (decide (S &&& y=0)) (h++j):=cb_h (e2_h (e2_h .(d) .(d) (by rw[z5b];rfl)) (y:=.int (0:Nat)) rfl (by
     rw[z6C,K1z];show Res.ok _ _=_;congr 2;rw[K0o,.(h),.(h)];exact K6x))
    refine z2r (decide (0<S &&& x)&&decide (S &&& y=0)) (by
     cases k:decide (0<S &&& x) with
     | true=>rw[k]at c1;rw[zz7 c1];exact c2
     | false=>rw[k]at c1;exact zD8 c1) ?_
    cases k:(decide (0<S &&& x)&&decide (S &&& y=0)) with
    | true =>
     rw[if_pos rfl];refine z1u (Y2 (.bl false) rfl ⟨?_,_,rfl⟩);have:B.all g=false:=Z1o.mpr ⟨(x,y),K0s ep,by show ¬ (!(decide (0<S &&& x)&&decide (S &&& y=0)))=true;rw[k];decide⟩;rw[rb,this,K7j]
    | false =>
     rw[if_neg (by decide)];refine z0f (y4 ⟨_,_,rfl,rfl,?_⟩);rw[K4a,ep,Z2s,al2];show (true&&((!(decide (0<S &&& x)&&decide (S &&& y=0)))&&true))=true;rw[k];rfl
   ·rintro γ h1 ⟨v5,v6,rfl,rfl,al2⟩;rw[show (Src.lst b (B.map pD)).items.length=B.length by simp[Src.items],K1v]at al2;exact Y2 (.bl true) rfl ⟨by rw[rb,al,al2];rfl,_,rfl⟩
 obtain⟨d,h1,e,rfl,j,rfl⟩:=key;exact z0u e rfl
theorem z9W (ea:h[a]?=.(l (stD A))) (eb:h[b]?=.(l (B.map pD))) (l1:1<=A.length) (l6:A.length<=6):z21 [.ref a,.ref b] h=.ok (.ref h.length) (h++[.lst (stD (z1O A B (2 ^ A.length)))]):=by
 have p6:2 ^ A.length<=2 ^ 6:=K72 (by decide) l6;have p0:0<2 ^ A.length:=Nat.pow_pos (by decide);have two:=Z0x (h:=h) (γ:=[.(r a),.(r b),none]) (me:=e2 fSub (Z7 fLen (z7 .(i) aNil)) .(e)) (x:=A.length - 1) (e2_h (J0 .(d) (zF1 (J8 ea))) (y:=.int (1:Nat)) rfl (by
  show Res.ok (D.int (((A.length:Nat):Int) - ((1:Nat):Int))) _=_;congr 2;omega)) .(1)
 rw[show A.length - 1+1=A.length by omega]at two;generalize 2 ^ A.length=N at *;refine z7p (i:=.(g)) (j:=[.lst (stD (z1O A B N))]) (z2V ?_) (K04 _) z0D (z1K _);show W (z1g [.(r a),.(r b),none]) h _;unfold z1g;refine w8 (.int (N:Nat)) [.(r a),.(r b),.(i (N:Nat))] (h1:=h) two rfl ?_;have c:=z1I (cap:=[some 0,some 1,none]) (mi:=z4H .(e) (eVar 2)) (g:=gN 2) (kb:=cVal (eFn 3 z1C (z7 .(i) (z7 (eVar 2) (z7 .(j) aNil))))) (me:=eVar 2) (γ:=[.(r a),.(r b),.(i (N:Nat))]) (h:=h) (src:=.con (stD (K7y 1 (N - 1)))) (l:=K7y 1 (N - 1)) (z3p A B) (λk=>.int k) (Z0O (a:=1) (b:=N) rfl rfl (by decide) .(1)) rfl (λ_=>trivial) (by rw[List.length_range'];omega) λx hx=>⟨[.(r a),.(r b),.(i (x:Nat))],λ_=>rfl,λj=>cv_h (fn_h (ds:=[.ref a,.int (x:Nat),.ref b]) (ac_h .(d) (ac_h .(d) (ac_h .(d) rfl))) rfl (zA9 (J8 ea) (J8 eb) l6)),λ_ j=>rfl⟩;exact Y2 (.ref .(g)) c ⟨rfl,rfl⟩
theorem zO4 {r V:Nat}{R:List Nat}(ea:h[a]?=.(l (stD A))) (er:h[r]?=.(l (stD R))) (l6:A.length<=6):z32 [.ref a,.ref r,.int (V:Nat)] h=.ok (.int (z4S A V (z2T R V):Nat)) h:=by
 refine z41 (z2V ?_) rfl;show W (z28 [.(r a),.(r r),.(i (V:Nat)),none,none]) h _;unfold z28;refine z7b (.int (0:Nat)) [.(r a),.(r r),.(i (V:Nat)),.(i (0:Nat)),none] rfl rfl ?_;refine z23 (λγ h1=>∃v,γ=[.(r a),.(r r),.(i (V:Nat)),.(i (z2T R V:Nat)),v]/\h1=h) ?_ ?_
 ·refine z07 (λc γ h1=>∃v,γ=[.(r a),.(r r),.(i (V:Nat)),.(i ((z2T (R.take c) V:Nat))),v]/\h1=h) (λ_ _=>False) ?_;refine W_of (z3c .(d) er) ⟨⟨none,rfl,rfl⟩,λ_ _ _ ⟨_,_,e⟩=>e ▸ er,?_,?_,λ_ _ f=>f.elim⟩
  ·rintro c d γ h1 hd ⟨v,rfl,rfl⟩;obtain⟨x,rfl,ex⟩:=z2w (show (stD R)[c]?=some d from hd);refine W.of (a:=[.(r a),.(r r),.(i (V:Nat)),.(i ((z2T (R.take c) V:Nat))),.(i (x:Nat))]) rfl ?_;have nxt:z2T (R.take (c+1)) V=if x &&& V=x then z2T (R.take c) V ||| x else z2T (R.take c) V:=by
    rw[K4a,ex];unfold z2T;rw[K6g];rfl
   refine z2r (decide (x &&& V=x)) (cb_h (e2_h (e2_h .(d) .(d) (by rw[z5b];rfl)) .(d) (by
    rw[z6o,K1z];show Res.ok _ _=_;congr 2;rw[K0o,.(h),.(h)];exact K6x))) ?_
   by_cases k:x &&& V=x
   ·rw[decide_eq_true k,if_pos rfl];rw[if_pos k]at nxt;refine z1u (w8 (.int (z2T (R.take (c+1)) V:Nat)) [.(r a),.(r r),.(i (V:Nat)),.(i ((z2T (R.take (c+1)) V:Nat))),.(i (x:Nat))] (e2_h .(d) .(d) (by rw[zC9,nxt];rfl)) rfl (z0f (y4 ⟨_,rfl,rfl⟩)))
   ·rw[.(m) k,if_neg (by decide)];rw[if_neg k]at nxt;rw[nxt];exact z0f (y4 ⟨_,rfl,rfl⟩)
  ·rintro γ h1 ⟨v,rfl,rfl⟩;exact⟨v,by rw[show (Src.lst r (stD R)).items.length=R.length from y6 R,K1v],rfl⟩
 ·rintro γ h1 ⟨v,rfl,rfl⟩;exact Y2 _ (fn_h (ds:=[.ref a,.int (V:Nat),.int (z2T R V:Nat)]) (ac_h .(d) (ac_h .(d) (ac_h .(d) rfl))) rfl (zv5 ea l6)) ⟨rfl,rfl⟩
theorem z8z {s:Str}(m6:mk.length<=6):z1H [maD st mk,.str s] h=.ok (.int (z3E mk s:Nat)) h:=by
 have c:=z1I (cap:=[some 1,some 0,none]) (mi:=z0b (Z7 fLen (z7 (e2 fIx .(i) .(e)) aNil))) (g:=gN 2) (kb:=cOr (λγ=>do let d <- e2 (fEq false) .(i) (λ_=>pure (.str "")) γ;asB d) (λγ=>do let d <- e2 (fIn false) .(i) (e2 fIx (e2 fIx .(j) .(e)) (eVar 2)) γ;asB d)) (me:=eVar 2) (γ:=[some .(7),.(s s)]) (h:=h) (src:=.con (z1q mk.length)) (l:=K0m mk.length) (λk=>bear s mk k) (λk=>.int k) (z1t (J0 (e2_h .(d) (y:=.int 1) rfl (by rw[zw7];rfl)) (by rw[z33,zh0];rfl)) .(1)) (z7r _) (λ_=>trivial) (by simp;omega) λx hx=>⟨[.(s s),some .(7),.(i (x:Nat))],λ_=>rfl,λj=>by
  rw[K18]at hx;by_cases q:s = ""
  ·subst q;exact zT9 rfl
  ·have c1:(λγ=>do let d <- e2 (fEq false) .(i) (λ_=>pure (.str "")) γ;asB d:G->M Bool) [.(s s),some .(7),.(i (x:Nat))] (h++j)=.ok false (h++j):=cb_h (e2_h .(d) (y:=.str "") rfl (by rw[zA2,.(m) q];rfl));rw[zR4 c1];refine cb_h (Z0p hx _ 0 1 2 _ rfl rfl rfl |>.trans ?_);unfold bear;rw[.(m) q,Bool.false_or],λ_ j=>rfl⟩
 refine z0u (j:=[.lst (stD ((K0m mk.length).filter λk=>bear s mk k))]) (z2V ?_) rfl;show W (z1B [some .(7),.(s s)]) h _;unfold z1B;exact Y2 (.int (z3E mk s:Nat)) (fn_h (ds:=[.ref .(g)]) (ac_h c rfl) rfl (z6K (.inr ⟨_,rfl,z0D⟩) λx hx=>by have:=K18.mp (K06.mp hx).1;omega)) ⟨rfl,rfl⟩
end
theorem zC5:∀x y:List Nat,D.tup (stD x)=D.tup (stD y)->x=y:=λx y e=>by
 have e1:stD x=stD y:=by injection e
 have:=congrArg z43 e1;rw[z4m,z4m]at this;have e2:zN x=zN y:=K19 this;have e3:=congrArg (List.map K9s) e2;unfold zN at e3;rw[K1h,K1h,show (K9s ∘ λ(i:Nat)=>(i:Int))=id from funext λi=>rfl,Z2l,Z2l]at e3;exact e3
theorem zU3:∀v w,wD v=wD w->v=w:=by
 rintro⟨a,b⟩ ⟨c,d⟩ e;cases e;rfl
theorem zE6 {h:AH}{V:List Nat}(q:MA st mk) (n5:st.length<=5) (Vr:V.Pairwise (·<·)) (Vl:∀x∈V,x<st.length) (hw:ws.length<=1000) (ul:UL st V (gl st mk ws V) u):
 z1W [maD st mk,.tup (stD V),.tup (ws.map wD)] h=.ok (.tup (stD (Y1 u))) h:=by
 have l3:=q.l3;have l1:=q.l1;refine z0u (j:=[.lst (stD (y3 st)),.lst ((z0K mk ws).map pD),.lst (stD (z1O (y3 st) (z0K mk ws) (2 ^ (y3 st).length)))]) (z2V ?_) (z15 _);show W (z2L [some .(7),.(g (stD V)),.(g (ws.map wD)),none,none]) h _;unfold z2L z2k;have rl:(y3 st).length=st.length:=by unfold y3;rw[K0d]
 obtain⟨k,ek⟩:∃k,k=h++[O.lst (stD (y3 st))]:=⟨_,rfl⟩;refine w8 (.ref h.length) [some .(7),.(g (stD V)),.(g (ws.map wD)),.(r h.length),none] (h1:=k) ((z8P (l:=st) (src:=.con (stsD st)) (h1:=h) (λr=>.tup (stD r)) zC5 (λ_=>true) (λr=>.int (z04 r:Nat)) (z0C (e2_h .(d) (y:=.int 0) rfl (by rw[z4T];rfl))) rfl (λ_=>trivial) .(1) λr hr=>⟨[.(g (stD r))],λ_=>rfl,λ_=>rfl,λ_ j=>fn_h (ds:=[.tup (stD r)]) (ac_h .(d) rfl) rfl (z6K (.inl rfl) λx hx=>by have:=q.s2 r hr x hx;omega)⟩).trans (by rw[filter_tt,ek];unfold y3 stD;rw[K1h];rfl)) rfl ?_;have ea:k[.(g)]?=.(l ((stD (y3 st)))):=by rw[ek];exact z0D
 have kl:k.length=h.length+1:=by rw[ek];simp
 refine w8 (.ref k.length) [some .(7),.(g (stD V)),.(g (ws.map wD)),.(r h.length),.(r k.length)] (h1:=k++[.lst ((z0K mk ws).map pD)]) ((z8P (l:=ws) (src:=.con (ws.map wD)) (h1:=k) wD zU3 (λ_=>true) (λw=>pD (z3E mk w.1,z3E mk w.2)) (z0C .(d)) rfl (λ_=>trivial) .(1) λw hw=>⟨[some .(7),.(s w.1),.(s w.2)],λ_=>by unfold wD;simp only[K4,K01,K0b,K0v,K2a,K08,K07,K0p,K3d,x6,capG,z0r,gN,z3o,gT,reduceIte];rfl,λ_=>rfl,λ_ j=>zx4 (fn_h (ds:=[maD st mk,.str w.1]) (ac_h .(d) (ac_h .(d) rfl)) rfl (z8z .(1))) (fn_h (ds:=[maD st mk,.str w.2]) (ac_h .(d) (ac_h .(d) rfl)) rfl (z8z .(1)))⟩).trans (by rw[filter_tt];unfold z0K;rw[K1h];rfl)) rfl ?_;have e1:(k++[O.lst ((z0K mk ws).map pD)])[.(g)]?=.(l ((stD (y3 st)))):=J8 ea;have mk1:eFn 1 z02 (z7 .(j) aNil) [some .(7),.(g (stD V)),.(g (ws.map wD)),.(r .(g)),.(r k.length)] (k++[O.lst ((z0K mk ws).map pD)]++[.lst (stD (z1O (y3 st) (z0K mk ws) (2 ^ (y3 st).length)))])=.ok (.int (z04 V:Nat)) (k++[O.lst ((z0K mk ws).map pD)]++[.lst (stD (z1O (y3 st) (z0K mk ws) (2 ^ (y3 st).length)))]):=fn_h (ds:=[.tup (stD V)]) (ac_h .(d) rfl) rfl (z6K (.inl rfl) λx hx=>by have:=Vl x hx;omega);have ro:=fn_h (γ:=[some .(7),.(g (stD V)),.(g (ws.map wD)),.(r .(g)),.(r k.length)]) (h:=k++[O.lst ((z0K mk ws).map pD)]) (n:=2) (mr:=z7 (eVar 3) (z7 (eVar 4) aNil)) (ds:=[.ref .(g),.ref k.length]) (ac_h .(d) (ac_h .(d) rfl)) rfl (z9W e1 z0D .(1) .(1));refine Y2 (h1:=k++[O.lst ((z0K mk ws).map pD)]++[.lst (stD (z1O (y3 st) (z0K mk ws) (2 ^ (y3 st).length)))]) (.tup (stD (Y1 u))) (fn_h (ds:=[.int (z4S (y3 st) (z04 V) (z2T (z1O (y3 st) (z0K mk ws) (2 ^ (y3 st).length)) (z04 V)):Nat)]) (ac_h (fn_h (ds:=[.ref h.length,.ref (k++[O.lst ((z0K mk ws).map pD)]).length,.int (z04 V:Nat)]) (ac_h .(d) (ac_h ro (ac_h mk1 rfl))) rfl (zO4 (J8 e1) z0D .(1))) rfl) rfl (set_h.trans ?_)) ⟨rfl,by rw[ek];simp⟩;rw[rl];congr 4;refine z2R (K9h _ K6l) (z1l ul.nd) λy=>?_;rw[K06,K18,zl8 l3 n5 Vr Vl,sortN_mem,ul.iff];refine⟨λz=>z.2,λz=>⟨?_,z⟩⟩;have:=z42 Vl (λx hx=>?_) z
 ·omega
 ·obtain⟨S,_,hV,hx⟩:=gl_mem.mp hx;exact Vl x (hV x hx)
theorem zx8 (hn:n<=1000) (hl:l.Pairwise (·<·)) (hm:∀x∈l,x<n):z0d [.tup (stD l),.tup (stD l),.int n] h=.ok (.bl true) h:=by
 refine z41 (z2V ?_) rfl;show W (z1E [.(g (stD l)),.(g (stD l)),.(i n)]) h _;unfold z1E;refine Y2 (.bl true) ?_ ⟨rfl,rfl⟩;have f1:eFn 2 z0I (z7 .(i) (z7 (eVar 2) aNil)) [.(g (stD l)),.(g (stD l)),.(i n)] h=.ok (.bl true) h:=fn_h (ds:=[.tup (stD l),.int n]) (ac_h .(d) (ac_h .(d) rfl)) rfl (by rw[zW9 hn hl hm];rfl);unfold eAnd;rw[M.bind_ok f1];show e2 (fEqX false) .(i) .(j) [.(g (stD l)),.(g (stD l)),.(i n)] h=_;exact e2_h .(d) .(d) (by rw[zS8,decide_eq_true rfl];rfl)
theorem zj2 {l:List Str}{t:Nat}(h:t<l.length):atI (l.map D.str) (t:Int)=.(s (l[t])):=z1n (by rw[K0i,K9 h];rfl)
theorem zk4 {k:Int}{Q:D->AH->Prop}(p:PS h k r) (cl:CL r) (hk:k<500000) (e:r[i]?=.(l (ns.map .str))) (hn:ns.length<=8) (hg:NS ns){mo:Nat}(hmo:mo<=4)
 (z:∀(wl:List (Str×Str)) h',wl.length<=4->PS h' (k+20) r->Q (.tup (wl.map wD)) h'):W (z1Z [.ref 2,.ref (i+3),.int (mo:Nat)]) h Q:=by
 refine zh6 p cl ?_;refine z1z ?_;show W (z1d [.(r 2),.(r (i+3)),.(i (mo:Nat)),none,none,none,none]) h _;unfold z1d;have p0:PS h k (r++[]):=by simpa using p
 let so:List Str:=""::""::"unborne"::ns;refine z4s ?_;simp only[K7,K4,K08,K07,Z5,W_pure,z7,aNil,e2,eLst,eVar];refine z9P p0 (by decide) λh1 p1=>?_;refine zM1 (i:=0) p1 rfl (J8 e) (by simp;omega) λh2 p2=>?_;rw[show [D.str "",D.str "",D.str "unborne"]++ns.map D.str=so.map D.str from rfl]at p2;refine z4s ?_;simp only[K08,K07,Z5,W_pure,aNil,eLst];refine z9P p2 (by decide) λh3 p3=>?_;rw[w_cons];refine z13 (λc γ h=>∃(wl:List (Str×Str)) (x y:Option D),γ=[.(r 2),.(r (i+3)),.(i (mo:Nat)),.(r (r.length+1+3)),.(r (r.length+2+3)),x,y]/\PS h (k+1+2 * c) (r++[.lst [.str "",.str "",.str "unborne"],.lst (so.map D.str),.lst (wl.map wD)])/\wl.length=c) (λ_ _=>False) ?_;simp only[K7,K4,K01,K0b,K0p,z1o,Z5,z1k,W_pure,z7,aNil,z4x,x8,z1F,e2,eFn,eVar,if_true];refine z1m p3 .(1) .(1) .(1) λd h4 d0 d1 p4=>?_;obtain⟨d,rfl⟩:=K3o d0;have sl:so.length=ns.length+3:=rfl;refine⟨d,rfl,by omega,⟨[],_,_,rfl,by simpa using p4,rfl⟩,?_,?_,λ_ _ q=>q.elim⟩
 ·rintro c γ h5 hc ⟨wl,x,y,rfl,p5,l5⟩;refine z4s ?_;simp only[K7,K4,K01,K0b,K08,K07,K0p,z1o,Z5,z1k,W_pure,z7,aNil,e2,Z7,eFn,eVar,if_true];refine zt5 (i:=1) p5 rfl ?_;rw[K0d];refine z1m p5 .(1) .(1) .(1) λt h6 t0 t1 p6=>?_;obtain⟨t,rfl⟩:=K3o t0;refine zU2 (i:=1) p6 rfl (zj2 .(1)) ?_;refine z3T ?_;simp only[K7,K4,K01,K0b,K0p,z5B,z1o,Z5,z1k,W_pure,z7,aNil,e2,Z7,eFn,eM1,eTup,eVar,if_true,z78];refine z8j (i:=2) p6 rfl ?_;refine zt5 (i:=1) p6 rfl ?_;rw[K0d,z8a,W_pure];refine z1m p6 .(1) .(1) .(1) λu h7 u0 u1 p7=>?_;obtain⟨u,rfl⟩:=K3o u0;rw[z4x,W_pure,show (2:Int)+(u:Int)=((u+2:Nat):Int) by omega];refine zU2 (i:=1) p7 rfl (zj2 .(1)) ?_;simp only[if_true,zM9];refine zc1 (i:=2) p7 rfl (by simp;omega) λh8 p8=>?_;refine⟨wl++[(so[t],so[u+2])],_,_,rfl,?_,by simp[l5]⟩;have:=p8.up (k':=k+1+2 * ((c+1:Nat):Int)) .(1);simpa [wD] using this
 ·rintro γ h5 ⟨wl,x,y,rfl,p5,l5⟩;refine zv7 ?_;simp only[K7,K4,Z5,W_pure,z7,aNil,Z7,eVar];refine z59 (i:=2) p5 rfl ⟨k+20,_,p5.up .(1),?_,λh2 p2=>z wl h2 .(1) p2⟩;simp only[J2];exact J9 λw=>rfl
section
variable {V:List Nat}{q:Nat}{zs:List D}{m4:G->M (List D)}
theorem mpW {c:Str}{x y z:D}(e:γ[9]?=some (.(r n))) (g:h[n]?=some (.ins c [])) (em:mr γ h=.ok [x,y] h) (e4:m4 γ h=.ok zs h) (lq:zs.length=q) (ez:zs++d2=[z]) (f:mf [.ref n,x,y,z] h=.ok d h):eMtP c "ever" 2 q [] d2 mf (eVar 9) mr m4 γ h=.ok d h:=by
 unfold eMtP;rw[M.bind_ok (Z1 e),M.bind_ok (chkW g),M.bind_ok em,M.bind_ok e4,if_pos ⟨rfl,lq⟩,K76,ez];exact f
theorem mpN {c:Str}(e:γ[9]?=some (.(r n))) (g:h[n]?=some (.ins c [])) (ne:c≠c'):eMtP c' "ever" 2 q [] d2 mf (eVar 9) mr m4 γ h=.bad:=by
 unfold eMtP;rw[M.bind_ok (Z1 e)];exact z8O (chkN g ne)
theorem z7N {u0:List Nat}(ma:MA st mk) (w:h[n]?=some (.ins "Rounds" [])\/h[n]?=some (.ins "Worklist" [])) (Vr:V.Pairwise (·<·)) (Vl:∀x∈V,x<st.length) (hw:ws.length<=1000) (u1:UL st V (gl st mk ws V) u0) (e:γ[9]?=some (.(r n))) (em:mr γ h=.ok [maD st mk,.tup (stD V)] h) (e4:m4 γ h=.ok zs h) (lq:zs.length=q) (ez:zs++d2=[.tup (ws.map wD)]):
 orE (eMtP "Rounds" "ever" 2 q [] d2 w6 (eVar 9) mr m4) (eMtP "Worklist" "ever" 2 q [] d2 y0 (eVar 9) mr m4) γ h=.ok (.tup (stD (Y1 u0))) h:=by
 rcases w with w|w
 ·obtain⟨u,ul,f⟩:=z9D (n:=n) (h:=h) ma (.inl w) Vr Vl hw;rw[u1.same ul];exact or_l (mpW e w em e4 lq ez f)
 ·obtain⟨u,ul,f⟩:=zA7 (n:=n) (h:=h) ma (.inr w) Vr Vl hw;rw[u1.same ul,or_r (mpN e w .(3))];exact mpW e w em e4 lq ez f
theorem zm7 {m1 m2:G->M D}(e1:m1 γ h=.ok (.tup (stD l)) h) (e2:m2 γ h=.ok (.tup (stD l)) h) (e5:γ[5]?=some (.(i (m:Nat)))) (hn:m<=1000) (hl:l.Pairwise (·<·)) (hm:∀x∈l,x<m):cNot (cVal (eFn 3 z0d (z7 m1 (z7 m2 (z7 (eVar 5) aNil))))) γ h=.ok false h :=
 cn_h (b:=true) (cv_h (fn_h (ds:=[.tup (stD l),.tup (stD l),.int (m:Nat)]) (ac_h e1 (ac_h e2 (ac_h (Z1 e5) rfl))) rfl (zx8 hn hl hm)))
theorem zC6 (ma:MA st mk) (Vr:V.Pairwise (·<·)) (Vl:∀x∈V,x<st.length) (hw:ws.length<=1000):∃u,UL st V (gl st mk ws V) u/\(Y1 u).Pairwise (·<·)/\∀x∈Y1 u,x<st.length:=by
 obtain⟨u,ul,_⟩:=z9D (n:=0) (h:=[.ins "Rounds" []]) ma (.inl rfl) Vr Vl hw;refine⟨u,ul,z1l ul.nd,λx hx=>z42 Vl (λx hx=>?_) ((ul.iff x).mp (sortN_mem.mp hx))⟩;obtain⟨S,_,hV,hx⟩:=gl_mem.mp hx;exact Vl x (hV x hx)
end
theorem math:∀ns:List Int,ns.length<=63->∃h',m_law [.fl (ns.map .int)] []=.ok (.bl true) h':=by
 intro ns hn;have key:W (m_law [.fl (ns.map .int)]) [] λd _=>d=.bl true:=by
  refine z1z ?_;show W (zr7 [some (.fl (ns.map .int)),none,none,none,none,none,none,none,none,none]) [] _;unfold zr7;refine z2l (λd h1=>d=.ref 2/\PS h1 0 []) ?_ ?_
  ·simp only[K4,K01,K0b,K0p,z1o,Z5,z1k,W_pure,z7,aNil,eFn,eVar,if_true];exact zo2 hn
  rintro _ h1 ⟨rfl,p1⟩;refine z2l (λd h2=>∃nn:List Str,d=.ref 3/\nn.length<=8/\NS nn/\PS h2 1000 [.lst (nn.map .str)]) ?_ ?_
  ·simp only[K7,K4,K01,K0b,K08,K07,K0p,z1o,Z5,z1k,W_pure,z7,aNil,e2,eFn,eVar,if_true];refine z1m p1 .(1) (by decide) (by decide) λd h2 d0 d1 p2=>?_;obtain⟨d,rfl⟩:=K3o d0;rw[z4x,W_pure,show (1:Int)+(d:Int)=((d+1:Nat):Int) by omega];exact zj1 p2 .nil .(1) .(1) λnn h3 ln nS p3=>⟨nn,rfl,by omega,nS,p3.up .(1)⟩
  rintro _ h2 ⟨nn,rfl,ln,nS,p2⟩;refine z2l (λd h3=>∃st mk,d=maD st mk/\MA st mk/\st.length<=5/\PS h3 4000 [.lst (nn.map .str)]) ?_ ?_
  ·simp only[K7,K4,K01,K0b,K08,K07,K0p,z1o,Z5,z1k,W_pure,z7,aNil,eFn,eVar,if_true];exact zg0 (i:=0) (most:=5) p2 .(1) (by decide) (by decide) rfl ln nS λst mk h3 ma l5 p3=>⟨st,mk,rfl,ma,l5,p3.up .(1)⟩
  rintro _ h3 ⟨st,mk,rfl,ma,n5,p3⟩;refine z2l (λd h4=>∃wl:List (Str×Str),d=.tup (wl.map wD)/\wl.length<=4/\PS h4 5000 [.lst (nn.map .str)]) ?_ ?_
  ·simp only[K7,K4,K01,K0b,K08,K07,K0p,z1o,Z5,z1k,W_pure,z7,aNil,eFn,eVar,if_true];exact zk4 (i:=0) (mo:=3) p3 (CL.nil.put (z2m nn)) .(1) rfl ln nS (by decide) λwl h4 l4 p4=>⟨wl,rfl,l4,p4.up .(1)⟩
  rintro _ h4 ⟨wl,rfl,l4,p4⟩;refine w8 (.int (st.length:Nat)) [some (.fl (ns.map .int)),.(r 2),.(r 3),some .(7),.(g (wl.map wD)),.(i (st.length:Nat)),none,none,none,none] (J0 (e2_h .(d) (y:=.int 0) rfl (by rw[z4T];rfl)) (by rw[z33,z17];rfl)) rfl ?_;refine z2l (λd h5=>∃V,d=.tup (stD V)/\V.Pairwise (·<·)/\(∀x∈V,x<st.length)/\PS h5 6000 [.lst (nn.map .str)]) ?_ ?_
  ·simp only[K7,K4,K01,K0b,K0p,z1o,Z5,z1k,W_pure,z7,aNil,eFn,eVar,if_true];exact zx5 p4 .(1) .(1) λl h' a b ps=>⟨l,rfl,a,b,ps.up .(1)⟩
  rintro _ h5 ⟨V,rfl,Vr,Vl,p5⟩;refine z2l (λd h6=>∃g,d=.tup (stD g)/\g.Pairwise (·<·)/\(∀x∈g,x<st.length)) ?_ ?_
  ·simp only[K7,K4,K01,K0b,K08,K07,K0p,z1o,Z5,z1k,W_pure,z7,aNil,eFn,eVar,if_true];exact zx5 p5 .(1) .(1) λl h' a b ps=>⟨l,rfl,a,b⟩
  rintro _ h6 ⟨g,rfl,gr,gl'⟩;obtain⟨u1,ul1,ur1,um1⟩:=zC6 (ws:=wl) ma Vr Vl .(1);obtain⟨u2,ul2,ur2,um2⟩:=zC6 (ws:=wl) ma gr gl' .(1);obtain⟨u3,ul3,ur3,um3⟩:=zC6 (ws:=[]) ma Vr Vl (by decide);refine w8 (.tup (stD (Y1 u1))) [some (.fl (ns.map .int)),.(r 2),.(r 3),some .(7),.(g (wl.map wD)),.(i (st.length:Nat)),.(g (stD V)),.(g (stD g)),.(g ((stD (Y1 u1)))),none] (fn_h (ds:=[maD st mk,.tup (stD V),.tup (wl.map wD)]) (ac_h .(d) (ac_h .(d) (ac_h .(d) rfl))) rfl (zE6 ma n5 Vr Vl .(1) ul1)) rfl ?_;obtain⟨h9,e9⟩:∃h9,h9=h6++[O.ins "Rounds" []]++[.ins "Worklist" []]++[.lst [.ref h6.length,.ref (h6.length+1)]]:=⟨_,rfl⟩;have g0:h9[h6.length]?=some (.ins "Rounds" []):=by rw[e9];simp
  have g1:h9[h6.length+1]?=some (.ins "Worklist" []):=by
   rw[e9,K11 .(f)];have:=z0D (h:=h6++[O.ins "Rounds" []]) (o:=.ins "Worklist" []);rw[K3,K09]at this;exact this
  have g2:h9[h6.length+2]?=.(l [.ref h6.length,.ref (h6.length+1)]):=by
   rw[e9];have:=z0D (h:=h6++[O.ins "Rounds" []]++[.ins "Worklist" []]) (o:=.lst [.ref h6.length,.ref (h6.length+1)]);rw[K3,K3,K09,K09]at this;exact this
  have src:∀γ:G,z0c (eLst (z7 (z5M "Rounds") (z7 (z5M "Worklist") aNil))) γ h6=.ok (.lst (h6.length+2) [.ref h6.length,.ref (h6.length+1)]) h9:=λγ=>by
   have e1:eLst (z7 (z5M "Rounds") (z7 (z5M "Worklist") aNil)) γ h6=.ok (.ref (h6.length+2)) h9:=by
    have a2:z7 (z5M "Rounds") (z7 (z5M "Worklist") aNil) γ h6=.ok [.ref h6.length,.ref (h6.length+1)] (h6++[O.ins "Rounds" []]++[.ins "Worklist" []]):=by
     refine ac_h (h1:=h6++[O.ins "Rounds" []]) rfl (ac_h (h1:=h6++[O.ins "Rounds" []]++[.ins "Worklist" []]) (d:=.ref (h6.length+1)) ?_ rfl);show Res.ok (D.ref (h6++[O.ins "Rounds" []]).length) _=_;rw[K3,K09]
    unfold eLst;rw[M.bind_ok a2];show newL _ _=_;rw[zd3 .(f),e9,K3,K3,K09,K09]
   have g:getL (h6.length+2) h9=.ok [.ref h6.length,.ref (h6.length+1)] h9:=by unfold getL;rw[g2]
   unfold z0c;rw[M.bind_ok e1];dsimp only;rw[M.bind_ok g];rfl
  rw[w_cons];refine z07 (λc γ h'=>∃v,γ=[some (.fl (ns.map .int)),.(r 2),.(r 3),some .(7),.(g (wl.map wD)),.(i (st.length:Nat)),.(g (stD V)),.(g (stD g)),.(g ((stD (Y1 u1)))),v]/\h'=h9) (λ_ _=>False) ?_;refine W_of (src _) ⟨⟨_,rfl,rfl⟩,?_,?_,?_,λ_ _ f=>f.elim⟩
  ·rintro i γ h' ⟨v,rfl,rfl⟩;exact g2
  ·rintro c d γ h' hd ⟨v,rfl,rfl⟩;obtain⟨n,rfl,hw⟩:∃n,d=.ref n/\(h'[n]?=some (.ins "Rounds" [])\/h'[n]?=some (.ins "Worklist" [])):=by
    have hd:([.ref h6.length,.ref (h6.length+1)]:List D)[c]?=some d:=hd
    match c,hd with
    | 0,hd=>exact⟨_,(K19 hd).symm,.inl g0⟩
    | 1,hd=>exact⟨_,(K19 hd).symm,.inr g1⟩
   refine W.of (a:=[some (.fl (ns.map .int)),.(r 2),.(r 3),some .(7),.(g (wl.map wD)),.(i (st.length:Nat)),.(g (stD V)),.(g (stD g)),.(g ((stD (Y1 u1)))),.(r n)]) rfl ?_;have am:∀{γ:G} {a b c:Nat} {X:List Nat} {wl:D},γ[a]?=some (some .(7))->γ[b]?=some (.(g (stD X)))->γ[c]?=some (some wl)->z7 (eVar a) (z7 (eVar b) aNil) γ h'=.ok [maD st mk,.tup (stD X)] h'/\z7 (eVar c) aNil γ h'=.ok [wl] h'/\z7 (eVar a) (z7 (eVar b) (z7 (eVar c) aNil)) γ h'=.ok [maD st mk,.tup (stD X),wl] h':=λx y z=>⟨ac_h (Z1 x) (ac_h (Z1 y) rfl),ac_h (Z1 z) rfl,ac_h (Z1 x) (ac_h (Z1 y) (ac_h (Z1 z) rfl))⟩;have k1:=z7N (zs:=[.tup (wl.map wD)]) (d2:=[]) (q:=1) ma hw Vr Vl .(1) ul1 (γ:=[some (.fl (ns.map .int)),.(r 2),.(r 3),some .(7),.(g (wl.map wD)),.(i (st.length:Nat)),.(g (stD V)),.(g (stD g)),.(g ((stD (Y1 u1)))),.(r n)]) rfl (am (a:=3) (b:=6) (c:=4) rfl rfl rfl).1 (am (a:=3) (b:=6) (c:=4) rfl rfl rfl).2.1 rfl rfl;have k2:=z7N (zs:=[.tup (wl.map wD)]) (d2:=[]) (q:=1) ma hw gr gl' .(1) ul2 (γ:=[some (.fl (ns.map .int)),.(r 2),.(r 3),some .(7),.(g (wl.map wD)),.(i (st.length:Nat)),.(g (stD V)),.(g (stD g)),.(g ((stD (Y1 u1)))),.(r n)]) rfl (am (a:=3) (b:=7) (c:=4) rfl rfl rfl).1 (am (a:=3) (b:=7) (c:=4) rfl rfl rfl).2.1 rfl rfl;have k3:=z7N (zs:=[]) (m4:=aNil) (d2:=[c_FREE]) (q:=0) (ws:=[]) ma hw Vr Vl (by decide) ul3 (γ:=[some (.fl (ns.map .int)),.(r 2),.(r 3),some .(7),.(g (wl.map wD)),.(i (st.length:Nat)),.(g (stD V)),.(g (stD g)),.(g ((stD (Y1 u1)))),.(r n)]) rfl (am (a:=3) (b:=6) (c:=4) rfl rfl rfl).1 rfl rfl rfl;have d2:=fn_h (n:=3) (γ:=[some (.fl (ns.map .int)),.(r 2),.(r 3),some .(7),.(g (wl.map wD)),.(i (st.length:Nat)),.(g (stD V)),.(g (stD g)),.(g ((stD (Y1 u1)))),.(r n)]) (am (a:=3) (b:=7) (c:=4) rfl rfl rfl).2.2 rfl (zE6 (h:=h') ma n5 gr gl' .(1) ul2);have d3:=fn_h (n:=3) (mr:=z7 (eVar 3) (z7 (eVar 6) (z7 (eTup aNil) aNil))) (ds:=[maD st mk,.tup (stD V),.tup []]) (γ:=[some (.fl (ns.map .int)),.(r 2),.(r 3),some .(7),.(g (wl.map wD)),.(i (st.length:Nat)),.(g (stD V)),.(g (stD g)),.(g ((stD (Y1 u1)))),.(r n)]) (ac_h .(d) (ac_h .(d) (ac_h (h1:=h') rfl rfl))) rfl (zE6 (h:=h') (ws:=[]) ma n5 Vr Vl (by decide) ul3);refine z2r false (zm7 k1 .(d) rfl .(1) ur1 um1) ?_;rw[if_neg (by decide)];refine z0f (z2r false (zm7 k2 d2 rfl .(1) ur2 um2) ?_);rw[if_neg (by decide)];refine z0f (z2r false (zm7 k3 d3 rfl .(1) ur3 um3) ?_);rw[if_neg (by decide)];refine z0f (z2r false (zm7 k1 .(d) rfl .(1) ur1 um1) ?_);rw[if_neg (by decide)];exact z0f (y4 ⟨_,rfl,rfl⟩)
  ·rintro γ h' ⟨v,rfl,rfl⟩;exact Y2 (.bl true) rfl rfl
 obtain⟨d,h',e,rfl⟩:=key;exact⟨h',e⟩
variable (ZS:SS K mg)
include ZS
theorem okL_law {f:Addr}{fd:K5j}(F:Fun K "law" "law" (top 53) f fd):FnOk P w K mg base CX0 7 f fd ["_law_script"] (spB K m_law 1) :=
 zZ4 F sc_law rfl λcdv A outer s H E hr=>(show SB (cxOf CX0 P w K mg base ["_law_script","_law_pool_here","_law_names_here","_law_machine_here","_law_wants","_law_many","_law_within","_law_other","_law_due_here","_law_way"] "law" (Z8 (top 53)) f cdv A outer s H E).nox EX0 (Y9 (top 53)) zr7 from
  have nd:(["_law_script","_law_pool_here","_law_names_here","_law_machine_here","_law_wants","_law_many","_law_within","_law_other","_law_due_here","_law_way"]:List Str).Nodup:=sc_law.nd
  (z8 (j6 1 nd (Z4 (z7d ZS) .(0) rfl (z6 (z0 0) Z0))) (z8 (j6 2 nd (Z4 (z5u ZS) .(0) rfl (z6 (z0 1) (z6 (z1y Z3 (Z4 (j3 ZS) .(0) rfl (z6 (z0 1) (z6 Z3 Z0)))) Z0)))) (z8 (j6 3 nd (Z4 (z4o ZS) .(0) rfl (z6 (z0 1) (z6 (z0 2) (z6 Z3 Z0))))) (z8 (j6 4 nd (Z4 (z4Y ZS) .(0) rfl (z6 (z0 1) (z6 (z0 2) (z6 Z3 Z0))))) (z8 (j6 5 nd (z0W rfl ZS.Uaf (z6 (J4 (z0 3) Z3) Z0))) (z8 (j6 6 nd (Z4 (z3N ZS) .(0) rfl (z6 (z0 1) (z6 (z0 5) Z0)))) (z8 (j6 7 nd (Z4 (z3N ZS) .(0) rfl (z6 (z0 1) (z6 (z0 5) Z0)))) (z8 (j6 8 nd (Z4 (z36 ZS) .(0) rfl (z6 (z0 3) (z6 (z0 6) (z6 (z0 4) Z0))))) (z8 (z1b K0n rfl (z0z (z0q (z6 (zc8 ZS.Ucp rfl) (z6 (zc8 ZS.Ucq rfl) Z0)))) (j9 9 nd) (z8 (s_if (z3e (z0s (Z4 (z1f ZS) .(0) rfl (z6 (z7o (z3Q (z00 ZS) .(0) (z0 9) (z6 (z0 3) (z6 (z0 6) Z0)) (z3y (z0 4) z3W)) (z3Q (Y5 ZS) .(0) (z0 9) (z6 (z0 3) (z6 (z0 6) Z0)) (z3y (z0 4) z3W))) (z6 (z0 8) (z6 (z0 5) Z0)))))) (z8 (k7 z1e) Z2) Z2) (z8 (s_if (z3e (z0s (Z4 (z1f ZS) .(0) rfl (z6 (z7o (z3Q (z00 ZS) .(0) (z0 9) (z6 (z0 3) (z6 (z0 7) Z0)) (z3y (z0 4) z3W)) (z3Q (Y5 ZS) .(0) (z0 9) (z6 (z0 3) (z6 (z0 7) Z0)) (z3y (z0 4) z3W))) (z6 (Z4 (z36 ZS) .(0) rfl (z6 (z0 3) (z6 (z0 7) (z6 (z0 4) Z0)))) (z6 (z0 5) Z0)))))) (z8 (k7 z1e) Z2) Z2) (z8 (s_if (z3e (z0s (Z4 (z1f ZS) .(0) rfl (z6 (z7o (z3Q (z3b ZS) .(0) (z0 9) (z6 (z0 3) (z6 (z0 6) Z0)) z3W) (z3Q (z2U ZS) .(0) (z0 9) (z6 (z0 3) (z6 (z0 6) Z0)) z3W)) (z6 (Z4 (z36 ZS) .(0) rfl (z6 (z0 3) (z6 (z0 6) (z6 (z4y Z0) Z0)))) (z6 (z0 5) Z0)))))) (z8 (k7 z1e) Z2) Z2) (z8 (s_if (z3e (z0s (Z4 (z1f ZS) .(0) rfl (z6 (z7o (z3Q (z00 ZS) .(0) (z0 9) (z6 (z0 3) (z6 (z0 6) Z0)) (z3y (z0 4) z3W)) (z3Q (Y5 ZS) .(0) (z0 9) (z6 (z0 3) (z6 (z0 6) Z0)) (z3y (z0 4) z3W))) (z6 (z0 8) (z6 (z0 5) Z0)))))) (z8 (k7 z1e) Z2) Z2) Z2))))) (z8 (k7 z1e) Z2)))))))))))
end FT
open PySem PySem.W PyProof.Rows
set_option maxRecDepth 100000 in
theorem PySem.Challenge.cw_fairtrees_k29_whole_ever_both_ways_holds : PySem.Challenge.rw_fairtrees_k29_whole_ever_both_ways.Holds := by
 refine FT.pack.2 ?_;unfold FT.pack;dsimp only
 k_fill
 refine FT.law_walk (l:=PySem.Challenge.rw_fairtrees_k29_whole_ever_both_ways) (lev:=7) (p:="_law_script") (m:=FT.m_law) rfl rfl ⟨rfl,by decide,by decide,rfl⟩ (λw h Y=>PySem.W.kIn_of Y) ?F FT.math
 case F =>
  intro w mg fa h KX G hmg;have F02:FT.DefAt (L2.KOf KX) "law" (FT.top 53):=by
   dsimp only[L2.KOf];refine' FT.defAt_mk ?a ?l ?c ?k;(case a=>k_is);(case l=>k_is);(case c=>k_is);(case k=>k_is)
  obtain⟨C_Rounds,KI_Rounds,mk_Rounds,kc_Rounds,F03,F00,in_Rounds⟩:∃C_Rounds,FT.OwC (L2.KOf KX) "Rounds" C_Rounds/\K51 (L2.KOf KX) C_Rounds=true/\K24 (L2.KOf KX) (.ref C_Rounds)=true/\FT.DefM (L2.KOf KX) C_Rounds "until" "Rounds.until" (L2.inClass (FT.top 27) 0)/\(∃dk,FT.DefMK (L2.KOf KX) C_Rounds "ever" "Rounds.ever" (L2.inClass (FT.top 27) 1) dk/\∃v u,FT.KD (L2.KOf KX) dk "wishes" FT.c_FREE v u)/\K1x (L2.KOf KX) (.ref C_Rounds) "__init__" = some (some (.builtin "object.__init__")):=by
   dsimp only[L2.KOf]
   refine' ⟨_,FT.ki_mk ?qa ?qp ?qh ?qo ?qs,?qm,?qc,FT.defM_mk ?qa0 ?qi0 ?ql0 ?qd0 ?qk0,⟨_,FT.defMK_mk ?qa1 ?qi1 ?ql1 ?qd1 ?qk1,_,_,FT.kd_tup ?xn1_0 ?xt1_0 ?xr1_0 ?xz1_0⟩,?qi⟩;(case qa=>k_is);(case qp=>k_is);(case qh=>k_is);(case qo=>k_is);(case qs=>k_is);(case qm=>k_is);(case qc=>k_is);(case qa0=>k_is);(case qi0=>k_is);(case ql0=>k_is);(case qd0=>k_is);(case qk0=>k_is);(case qa1=>k_is);(case qi1=>k_is);(case ql1=>k_is);(case qd1=>k_is);(case qk1=>k_is);(case qi=>k_is);(case xn1_0=>k_is);(case xt1_0=>k_is);(case xr1_0=>first|rfl|decide +kernel);(case xz1_0=>decide +kernel)
  obtain⟨dk_Rounds__ever,F00,v_Rounds__ever_wishes,u_Rounds__ever_wishes,D_Rounds__ever_wishes⟩:=F00;have M_Rounds:=FT.inO_mk (mg:=mg) (K8b KX G KI_Rounds.ns) KI_Rounds mk_Rounds in_Rounds kc_Rounds;obtain⟨C_Worklist,KI_Worklist,mk_Worklist,kc_Worklist,F04,F01,in_Worklist⟩:∃C_Worklist,FT.OwC (L2.KOf KX) "Worklist" C_Worklist/\K51 (L2.KOf KX) C_Worklist=true/\K24 (L2.KOf KX) (.ref C_Worklist)=true/\FT.DefM (L2.KOf KX) C_Worklist "until" "Worklist.until" (L2.inClass (FT.top 28) 0)/\(∃dk,FT.DefMK (L2.KOf KX) C_Worklist "ever" "Worklist.ever" (L2.inClass (FT.top 28) 1) dk/\∃v u,FT.KD (L2.KOf KX) dk "wishes" FT.c_FREE v u)/\K1x (L2.KOf KX) (.ref C_Worklist) "__init__" = some (some (.builtin "object.__init__")):=by
   dsimp only[L2.KOf]
   refine' ⟨_,FT.ki_mk ?qa ?qp ?qh ?qo ?qs,?qm,?qc,FT.defM_mk ?qa0 ?qi0 ?ql0 ?qd0 ?qk0,⟨_,FT.defMK_mk ?qa1 ?qi1 ?ql1 ?qd1 ?qk1,_,_,FT.kd_tup ?xn1_0 ?xt1_0 ?xr1_0 ?xz1_0⟩,?qi⟩;(case qa=>k_is);(case qp=>k_is);(case qh=>k_is);(case qo=>k_is);(case qs=>k_is);(case qm=>k_is);(case qc=>k_is);(case qa0=>k_is);(case qi0=>k_is);(case ql0=>k_is);(case qd0=>k_is);(case qk0=>k_is);(case qa1=>k_is);(case qi1=>k_is);(case ql1=>k_is);(case qd1=>k_is);(case qk1=>k_is);(case qi=>k_is);(case xn1_0=>k_is);(case xt1_0=>k_is);(case xr1_0=>first|rfl|decide +kernel);(case xz1_0=>decide +kernel)
  obtain⟨dk_Worklist__ever,F01,v_Worklist__ever_wishes,u_Worklist__ever_wishes,D_Worklist__ever_wishes⟩:=F01;have M_Worklist:=FT.inO_mk (mg:=mg) (K8b KX G KI_Worklist.ns) KI_Worklist mk_Worklist in_Worklist kc_Worklist;have S:FT.SS (L2.KOf KX) mg:=by
   refine⟨λn v e=>K8b KX G e,?_,?_,C_Rounds,KI_Rounds,F03,?_,?_,?_,?_,?_,C_Worklist,KI_Worklist,F04,?_,?_,?_,?_,?_,?_,?_,dk_Rounds__ever,F00,v_Rounds__ever_wishes,u_Rounds__ever_wishes,D_Rounds__ever_wishes,?_,?_,?_,?_,?_,?_,?_,?_,?_,?_,?_,?_,?_,?_,dk_Worklist__ever,F01,v_Worklist__ever_wishes,u_Worklist__ever_wishes,D_Worklist__ever_wishes,?_,?_,?_,?_,?_,?_,?_,?_,?_,?_,?_,?_,?_,?_,?_,?_,?_,?_,?_,?_,?_,?_,?_,M_Rounds,M_Worklist⟩
   all_goals first|exact PySem.W.mg_none_of KX G (by k_is)|(dsimp only[L2.KOf];refine' FT.defAt_mk ?a ?l ?c ?k;(case a=>k_is);(case l=>k_is);(case c=>k_is);(case k=>k_is))
  obtain⟨f,fd,hf,F⟩:=F02;have e:=hmg.symm.trans (K8b KX G hf);cases e;refine⟨fd,FT.bindsTo1 F (λ_ _ _ _ _ _ _=>rfl),λbase _ _=>?_⟩;exact FT.okL_law S F