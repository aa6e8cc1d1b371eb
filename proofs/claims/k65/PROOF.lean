import PyProof.Rows.All
import Wide.All
import OpenK.AllK
import Wide.FinOn
import PySem.Challenge.RW_fairtrees_k65_whole_bent_cuts
import Lean
import PyProof.EqAt
import PyProof.EqKinds
import PyProof.TupleCall
import PyProof.DictCompW
import PyProof.NeKinds
import PyProof.ListRange
import PyProof.TupleOfSeq
import PyProof.SeqI3
import PyProof.DictWalks
import PyProof.SetNew
import PyProof.ReprReads
import PyProof.StrHeap
import PyProof.ReprLen
import PyProof.WalkInts
import KE.KDictSum
import PyProof.Draws
import KE.KDictOf
import PyProof.AttrMissHeap
import PyProof.StrLawsRepr
set_option maxHeartbeats 4000000
set_option Elab.async false
set_option linter.all false
set_option maxRecDepth 100000
set_option maxHeartbeats 4000000
namespace L2
end L2
open PySem renaming wpAny_bind->K0,wpAny_pure->K8,starEach->K0g,wpAny_newObj_type->K14,foldedSetIterable->K1d,Program->K1h,wpAny_loadPart'->K1u,wpAny_call_entry->K1y,compareOp->K20,wpAny_holding->K22,wpAny_callSpecial?_slot->K27,mem_of_lookup->K29,wpAny_truthy_bool->K2c,swapsWith->K2d,codeAny_builtin->K2g,mainGlobals->K2i,assignEach->K2n,wpAny_setField->K32,wpAny_pyIter_list->K37,wpAny_ite_false->K39,binaryOp->K3c,wpAny_askSetting->K3m,sysModules->K3r,wpAny_field->K42,wpAny_setState_of->K43,holding->K44,wpAny_mono->K4a,sliceBounds->K4d,codeAny_mono->K4g,wpAny_pyIter_tuple->K4i,letOwnedTupleGo->K4n,wpAny_standAt->K4q,behindInMarks->K4r,call_meets->K4z,wpAny_typeOf->K54,bootBuiltins->K55,FuncData->K5b,plainId_quiet->K5c,attributeBase->K5d,standAt->K5k,getItem->K5l,wpAny_passesOwn->K5m,seqIndex?->K5v,NameKind->K68,codeAny->K69,Keyword->K6c,wpAny_runValue->K6e,isSubtype_type->K6f,wpAny_pyIter_enum->K6g,not_mem_of_deeper->K6h,fits_of_scanBound->K6i,wpAny_rule->K6o,relayAll->K6p,keywordEach->K6q,wpAny_setEntries_of->K6v,wpAny_seqItems->K7a,firstArgMember->K7c,wpAny_Call_Name_kw->K7d,tupleKind_room_in1->K7e,wpAny_letOwnedTupleGo_enum->K7i,wpAny_binaryOp_repeat_ref->K7o,slot_list_getitem->K7p,ItemsOf->K80,sizeLine_eq->K82,wpAny_sequenceKey->K83,wpAny_getItem_list_slice->K8c,wpAny_comprehension_free->K8d,noFill_tuple_add->K8l,wpAny_pyNext_enum_itemD->K8n,setNext->K8o,callerA->K8p,wpAny_load->K8q,typeIs_int->K8r,ReadAtMost->K8s,wpAny_pyNext_enum_endD->K90,wpAny_Call_method_late->K91,codeAny_of_tree->K9a,builtinLookup_eq_fast->K9f,backToKw->K9l,wpAny_of_eq->K9m,subscripted->K9n,call_repr_slot->K9p,valueAt->K9v,tupleKind->K9w,DictEntry->K9x,signature?_of->Z1i,seq_tuple_add->Z1j,evalPart_none->Z1k,typeLookup->Z1q,setsByText->Z1r,notedBy->Z26,collect->Z27,IsRange->Z28,BindsTo->Z29,SetTable->Z2a,GenState->Z2b,seqIndex_neg->Z2e,concat_meets->Z2f,callType_new->Z2g,seqSlot_of->Z2l,slicePick->Z2m,seqItems?->Z2n,pickOrder->Z2o,lastMarks->Z2p,unsupported->Z2x,seqIndex_of->Z2y,setItem->Z36,newList->Z37,call->Z3a,Fin->Z3g
open List renaming getElem?_cons_zero->K1,getElem?_eq_some_iff->K3,getElem?_cons_succ->K5,range->K9,getElem?_eq_getElem->K00,length_cons->K02,length_map->K03,length_append->K04,size_toArray->K05,append_assoc->K06,mem_map->K07,length_nil->K08,set_cons_zero->K09,set_cons_succ->K0b,mem_append->K0i,mem_of_getElem?->K0j,getElem?_map->K0k,replicate->K0n,mem_filter->K0p,mem_range->K0r,mem_cons_of_mem->K0s,mem_append_right->K0t,map_map->K0u,append_nil->K0w,map_cons->K0x,getElem?_append_left->K0z,mem_cons_self->K10,mem_cons->K12,getElem?_eq_none->K13,length_singleton->K1c,idxOf_lt_length_iff->K1e,getElem?_set_self->K1g,mem_append_left->K1k,getElem?_set_ne->K1l,all_eq_true->K1m,mem_singleton->K1n,length_filter_le->K1o,length_take->K1t,take_length->K1w,getElem?_singleton->K1x,getElem?_append_right->K1z,any_eq_true->K28,map_congr_left->K2a,length_range->K2b,length_eq_zero_iff->K2h,any_cons->K2j,replicate_succ->K2p,getElem_of_mem->K2q,filterMap_cons->K2r,find?_cons->K2t,lookup_cons->K2y,ext_getElem?->K35,length_reverse->K3a,getElem?_range->K3b,not_mem_nil->K3k,getElem_mem->K3l,map_nil->K3w,nodup_append->K3x,flatten_cons->K3y,getElem?_append->K40,take_succ_eq_append_getElem->K45,mergeSort_perm->K4b,getElem?_take->K4e,pairwise_lt_range->K4h,find?_eq_none->K4j,map_append->K4l,foldl_cons->K4m,take_append_drop->K4s,set_append_right->K4t,reverse_cons->K4u,foldl_append->K4v,flatMap_cons->K4w,not_lt->K50,length_drop->K53,drop_eq_getElem_cons->K56,all_cons->K58,sublist_append_left->K5g,length_set->K5h,foldl->K5n,ne_nil_of_mem->K5p,filterMap_map->K5q,pairwise_mergeSort->K5z,getElem?_replicate->K60,take_add_one->K6a,nodup_range->K6l,map_flatMap->K6m,nodup_cons->K6r,getElem_idxOf->K79,perm_ext_iff_of_nodup->K7h,pairwise_iff_getElem->K7k,mem_of_find?_eq_some->K7n,take_sublist->K7x,pairwise_map->K7y,filter_congr->K7z,range'_succ->K8g,flatMap_map->K8h,range_succ_eq_map->K8v,length_pos_of_mem->K8w,getElem_cons_drop->K8x,filter_eq_nil_iff->K8y,drop_eq_nil_of_le->K8z,range_succ->K95,of_mem_zip->K96,nil_append->K97,forIn_cons->K98,filter_map->K99,perm_append_comm->K9d,cons_lt_cons_iff->K9e,length->K9h,take_succ->K9i,nodup_nil->K9j,forIn_nil->K9k,pairwise_append->K9q,forall_mem_cons->K9r,getD->K9t,map_replicate->Z1t,map_id'->Z21,all_map->Z22,idxOf_append->Z2d,mem_flatMap->Z2q,le_antisymm->Z2r,getElem_inj->Z2s,filter_cons->Z2t,range'->Z2v,take_left'->Z31,map_const'->Z32,idxOf_cons->Z33,find?_some->Z34
open PySem.W renaming Frag->K6,kia_one->K1s,fnOf->K3v,codeIn->K4c,kitOne->K64,keepIn->K65,nsIn->K6x,methodObj->K7t,kitx_list->K7u,kitx_dict->K7v,mg_of->K84,cellsFrom_some->K8t,instObj->K94,lookIn->K9g,kitx_tuple->Z1p,plainGet->Z2j,OpenLaw->Z30,findIn->Z3c,WalkO->Z3e
open PySem.Heap renaming get?_push_of_some->K7,get?_push_size->K0a,lt_size->K0e,size_push->K24,SameBut->K3d,get?_update_other->K3h,get?_update_self->K3s,ExtBut->Z2w
open Nat renaming le_refl->K01,le_trans->K0d,reduceAdd->K0h,lt_of_lt_of_le->K0l,ne_of_lt->K0o,ne_of_gt->K26,lt_irrefl->K2k,le_of_lt->K2m,lt_succ_of_lt->K36,zero_le->K3j,le_succ->K4x,lt_of_le_of_lt->K5s,lt_succ_self->K6n,zero_add->K6y,mul_comm->K6z,le_of_eq->K70,add_le_add_left->K9y,sub_self->Z23,lt_trans->Z24,le_of_succ_le->Z2h,le_max_right->Z2u,le_max_left->Z35
open Bool renaming and_eq_true->K0c,false_eq_true->K0m,false_ne_true->K11,eq_iff_iff->K19,bne_false->K1j,true_and->K21,or_eq_true->K2f,not_false->K2l,false_and->K31,and_false->K3p,and_eq_false_iff->K3t,not_eq_true'->K3z,not_true->K48,false_or->K49,and_true->K59,false_bne->K77,true_bne->K86,bne_true->K9z
open Int renaming toNat_natCast->K0f,eq_ofNat_of_zero_le->K0v,emod_lt_of_pos->K4f,emod_nonneg->K5i,toNat_of_nonneg->K6u,ediv_one->Z25,toNat->Z3j
open PySem.SetTable renaming below->K0q,grown->K30,Probe->Z3b,laid->Z3d
open Option renaming map_eq_some_iff->K0y,join_some->K52,isSome_map->K7w,join_none->K8f,getD_none->Z2k
open PySem.PassesOwn renaming never->K15
open Array renaming length_toList->K16,getElem?_eq_getElem->K1r,getElem?_toList->K2v,getElem?_eq_some_iff->K3n,toList->Z1z,toList_push->Z2c
open PySem.PyData renaming shown->K17,shownAll->K1a,depth->K1i,showable->K2e,depthAll->K2s,showableAll->K3q,depthKv->K66,shownKv->K75,depthAll_vals_le->K8j,depthAll_keys_le->K8k,tuple->Z3k
open PyProof.Rows renaming slot_tuple_getitem->K18,callWith_type1->K3f,IntsAre->K6d,entry_tuple_getitem->K6w,slicePart_none->K7b,args_tuple_getitem->K7f,AllBare->K81,subscriptTail->K8a,subscriptTail_builtinR->K92,tupleItemsOf_->Z1h,Subscript_->Z1s
open Option.some renaming inj->K1b,injEq->Z1y
open PySem.Builtin.Tuple renaming tupleExact->K1f,tupleItemsOf->K4y,tupleIsExact->K78
open PySem.Heap.SameBut renaming update->K1p,refl->K7s
open PySem.Builtin.Slice renaming slicePlaces->K1q,sliceAdjust->K2u,sliceApplied->K3o,sliceFields->K7l
open PySem.Builtin.Str renaming occurrences->K1v
open PySem.Around renaming under_plainId->K23
open PySem.Value renaming ref->K25,none->K2x,type->K46,int->K6k,bool->K74,str->K9s,isStrOf->Z3f
open PySem.F renaming slot_tuple_iterator_next->K2o,plain_list_iadd->K2w,slot_tuple_mul->K3i,args_object_init_2->K51,args_tuple_mul_2->K5e,args_tuple_add_2->K5f,args_tuple_iterator_next_1->K5t,plainAttrs_list->K5w,entry_tuple_mul->K5x,entry_tuple_add->K5y,entry_tuple_iterator_next->K62,slot_tuple_add->K6b,typeCall_enumerate_1->K6t,plain_proto_collect->K71,newCall_enumerate_1->K72,entry_enumerate_new->K73,called_enumerate->K8b,slot_tuple_rmul->K8e,slot_list_index->K8i,slot_int_rmul->K9c
open List.Pairwise renaming filter->K2z,imp_of_mem->K87,map->Z1v,imp->Z1w,and->Z1x
open PySem.SetTable.below renaming go->K33
open PySem.Builtin.Range renaming rangeSize->K34,small->K57
open True renaming intro->K38
open PySem.Str renaming ofString->K3e,length->Z1o
open PySem.Builtin.List renaming listExtendWith->K3g,listTooLong->K5a,listSameRef->K88
open PySem.Builtin.SmallTypes renaming nextOf->K3u
open Sum renaming inl->K41,inr->K9u
open False renaming elim->K47
open ForInStep renaming yield->K4k
open PySem.NameKind renaming free->K4o
open PySem.Paired renaming length->K4p
open Ne renaming symm->K5j
open PySem.Obj renaming mapSeq->K5o,data_mapFields->K5r,isFreed_of_fields->K6j,putSet->K76,mapFields->Z1g
open Classical renaming propDecidable->K5u
open PyProof.Rows.F renaming plain_set_update_loop->K61,entry_set_update_loop->K8m
open PySem.AutoSeq1 renaming idx_int->K63
open Function renaming comp_def->K67
open PySem.Builtin.Frozenset renaming updateFrom->K6s
open PySem.Calls renaming Name_function_global->K7g,call_function_entry->K7m,callWith_builtin->K8u,evalArgs_plain->K9o
open PySem.Challenge renaming rw_fairtrees_k65_whole_bent_cuts->K7j
open PySem.SetTable.probe renaming go->K7q
open List.Sublist renaming refl->K7r
open PySem.Shared renaming TypeIs->K85
open List.Perm renaming eq_of_pairwise->K89,append_left->K9b,trans->Z2z,cons->Z38
open PySem.ReadAtMost renaming cons->K93
open PySem.Heap.IsSliceOf renaming new->Z1l
open PySem.SeqAt.EqAt renaming str_int->Z1m,int_str->Z1n
open PySem.pickOrder renaming go->Z1u
open Decidable renaming not_not->Z20
open And renaming intro->Z2i
open PySem.Data renaming seq->Z39
open PySem.Clear renaming nil->Z3h
open Pure renaming pure->Z3i
open Sum.inl renaming inj->Z3l
open PySem PySem.Spec PyProof.Rows L2
set_option hygiene false
local macro_rules
|`(.(r $t))=>`(some (.ref $t))
|`(.(i $t))=>`(some (.int $t))
|`(.(g $t))=>`(some (.tup $t))
|`(.(l $t))=>`(some (.lst $t))
|`(.(s $t))=>`(some (.str $t))
|`(.(p $t))=>`((fun _=>pure (.int $t)))
|`(.(0))=>`((by omega))
|`(.(1))=>`((by decide))
|`(.(2))=>`((by decide +kernel))
|`(.(3))=>`((λ_=>pure (.int 0)))
|`(.(4))=>`((λ_=>pure (.int 1)))
|`(.(5))=>`(s.heap.objs.size)
|`(.(6))=>`((model X.prog X.w))
|`(.(7))=>`(st.length)
|`(.(8))=>`((z0N (by first|rfl|kernel_rfl!)))
|`(.(9))=>`((maD st mk))
|`(.(a))=>`((X.comp N' sc s H fp xe))
|`(.(b))=>`((Pre.refl _))
|`(.(c))=>`((Ext.refl _ _))
|`(.(d))=>`((Z2 rfl))
|`(.(e))=>`((λ_ _ _ _ _ _ us hl=>(by obtain⟨_,_,_,rfl⟩:=ar3 hl;rfl)))
|`(.(f))=>`((by simp))
|`(.(g))=>`(decide_eq_true)
|`(.(h))=>`((eVar 0))
|`(.(i))=>`((λ_ _ _ _ _ _ us hl=>(by obtain⟨_,rfl⟩:=ar1 hl;rfl)))
|`(.(j))=>`(s1.heap.objs.size)
|`(.(k))=>`(r.length)
|`(.(l))=>`((eVar 1))
|`(.(m))=>`(decide_eq_false)
|`(.(n))=>`((Z0 (sRet (λ_=>pure (.bl false))) bNil))
|`(.(o))=>`((λ_ _ _ _ _ _ us hl=>(by obtain⟨_,_,rfl⟩:=ar2 hl;rfl)))
|`(.(p))=>`((eLst (z7 (λ_=>pure (.str "yes")) (z7 (λ_=>pure (.str "no")) (z7 (λ_=>pure (.str "not")) (z7 (λ_=>pure (.str "and")) (z7 (λ_=>pure (.str "or")) (z7 (λ_=>pure (.str "step")) (z7 (λ_=>pure (.str "some")) (z7 (λ_=>pure (.str "all")) (z7 (λ_=>pure (.str "next")) (z7 (λ_=>pure (.str "once")) (z7 (λ_=>pure (.str "ever")) (z7 (λ_=>pure (.str "until")) (z7 (λ_=>pure (.str "unless")) aNil)))))))))))))))
|`(.(q))=>`((r++[O.lst [],O.lst [D.int 0],O.dK [],O.lst l1,O.dK [(.inr "a",.int 1)],O.lst l2,O.lst (l1++l2)]))
|`(.(r))=>`(⟨λ⟨_,_,z,_⟩=>(by cases z),λ⟨_,_,z,_⟩=>(by cases z)⟩)
|`(.(s))=>`((Z6 J4 (z7 (Z6 z0h (z7 (eVar 3) aNil)) aNil)))
|`(.(t))=>`((λ_=>pure (.int 2)))
|`(.(u))=>`((.ref h.length))
|`(.(v))=>`(items.size)
|`(.(w))=>`([.int (k:Nat),y])
|`(.(x))=>`((Addr×Obj))
set_option hygiene true
namespace FT
def zA4:List Bool->List PySem.Stmt->List PySem.Stmt
 | true::r,x::xs=>x::zA4 r xs
 | false::r,_::xs=>zA4 r xs
 | _,_=>[]
def qv:PySem.Program:={ PySem.Challenge.pw_fairtrees_k65_whole_bent_cuts with main:={ PySem.Challenge.pw_fairtrees_k65_whole_bent_cuts.main with body:=zA4 [false,true,true,true,true,true,true,true,true,false,true,false,true,false,true,true,true,true,true,true,true,true,true,false,true,true,true,true,true,true,true,true,true,true,true,true,true,true,true,true,true,true,true,true] PySem.Challenge.pw_fairtrees_k65_whole_bent_cuts.main.body } }
def looseQ:List PySem.Str:=[]
end FT
section
open PySem PySem.W PyProof.Rows
local macro_rules | `(tactic| o_head $H)=>`(tactic| (refine holds_open (q:=FT.qv) (loose:=FT.looseQ) (Xt:=fun s=>xlAt FT.qv [] s && recOk (RowW.records (OpenRow.toRowW (OpenLaw.row PySem.Challenge.rw_fairtrees_k65_whole_bent_cuts))) s) (XP:=XL FT.qv []) (Yf:=Hook.obs $H) (Ya:=Hook.val $H) (YP:=Hook.says $H) (N:=30000) ?_ (Hook.of $H) (Hook.keeps $H) (fun s e=>xl_of s (Bool.and_eq_true_iff.mp e).1) XL.keeps (by rfl) (by rfl) (by rfl) (fun s e=>recFacts_of (Bool.and_eq_true_iff.mp e).2) (by rfl) (by first | assumption | decide +kernel) (by decide +kernel) ⟨rfl,rfl,rfl,rfl,rfl,by decide +kernel⟩ ?_ ?_))
set_option maxRecDepth 100000 in
noncomputable def FT.pack:PSigma fun P:Prop=>P->PySem.Challenge.rw_fairtrees_k65_whole_bent_cuts.Holds:=by
 refine⟨?P,λh=>?_⟩
 rotate_left
 ·w_on;o_law;k_head
  next=>exact λw=>by kernel_rfl
  next=>w_witness2
  exact h
end
namespace L2
abbrev Key:=Sum Int Str
def z29:Key->Value->Bool
 | .inl k,v=>Value.isInt k v
 | .inr x,v=>Z3f x v
def keyH (w:World):Key->Int
 | .inl k=>hashInt k
 | .inr x=>hashStr w x
theorem y4:∀{k:Key}{v:Value},z29 k v=true->(∃i t,k=K41 i/\v=K6k i t)\/(∃x t,k=K9u x/\v=K9s x t)
 | .inl i,v,h=>by
  obtain⟨t,e⟩:=Value.isInt_shape (k:=i) (v:=v) h;exact .inl ⟨i,t,rfl,e⟩
 | .inr x,v,h=>by
  obtain⟨t,e⟩:=Value.isStrOf_shape (x:=x) (v:=v) h;exact .inr ⟨x,t,rfl,e⟩
theorem z6L (i:Int) (t:Tok):z29 (.inl i) (.int i t)=true:=by simp[z29,Value.isInt]
theorem z76 (x:Str) (t:Tok):z29 (.inr x) (.str x t)=true:=by simp[z29,Z3f]
theorem zQ3 (a b:Int):decide ((K41 a:Key)=K41 b)=(a==b):=by
 by_cases e:a=b
 ·subst e;simp
 ·have h:¬ (K41 a:Key)=K41 b:=λq=>e (Z3l q);rw[.(m) h];exact(beq_eq_false_iff_ne.mpr e).symm
theorem zT1 (a b:Str):decide ((K9u a:Key)=K9u b)=decide (a=b):=by
 by_cases e:a=b
 ·subst e;simp
 ·have h:¬ (K9u a:Key)=K9u b:=λq=>e (K9u.inj q);rw[.(m) h,.(m) e]
theorem zQ9 (a:Int) (b:Str):decide ((K41 a:Key)=K9u b)=false:=decide_eq_false (λq=>nomatch q)
theorem zY5 (a:Str) (b:Int):decide ((K9u a:Key)=K41 b)=false:=decide_eq_false (λq=>nomatch q)
def J9 (prog:K1h) (w:World):PySem.KeyKind prog w Key where
 is:=z29
 hash:=keyH w
 inj:=λv a b ha hb=>by
  rcases y4 ha with ⟨i,t,rfl,rfl⟩|⟨x,t,rfl,rfl⟩
  ·rcases y4 hb with ⟨j,u,rfl,e⟩|⟨y,u,rfl,e⟩
   ·injection e with e1 _;rw[e1]
   ·exact nomatch e
  ·rcases y4 hb with ⟨j,u,rfl,e⟩|⟨y,u,rfl,e⟩
   ·exact nomatch e
   ·injection e with e1 _;rw[e1]
 byValue:=λk v h=>by
  rcases y4 h with ⟨i,t,rfl,rfl⟩|⟨x,t,rfl,rfl⟩<;>rfl
 pyHash:=λhv h=>by
  rcases y4 hv with ⟨i,t,rfl,rfl⟩|⟨x,t,rfl,rfl⟩
  ·exact wpAny_pyHash_int h
  ·exact wpAny_pyHash_str h
 eqBool:=λhu hv h=>by
  rcases y4 hu with ⟨i,t,rfl,rfl⟩|⟨x,t,rfl,rfl⟩
  ·rcases y4 hv with ⟨j,u,rfl,rfl⟩|⟨y,u,rfl,rfl⟩
   ·rw[zQ3]at h;exact wpAny_eqBool_int h
   ·rw[zQ9]at h;exact Z1n i t y u _ _ _ _ h
  ·rcases y4 hv with ⟨j,u,rfl,rfl⟩|⟨y,u,rfl,rfl⟩
   ·rw[zY5]at h;exact Z1m x t j u _ _ _ _ h
   ·rw[zT1]at h;exact wpAny_eqBool_str h
 «strs»:=λk x t v h=>by
  rcases y4 h with ⟨i,u,rfl,e⟩|⟨y,u,rfl,e⟩
  ·exact nomatch e
  ·injection e with e1 _
   subst e1;cases v<;>rfl
theorem z7Y (prog:K1h) (w:World) (i:Int) (t:Tok):(J9 prog w).is (.inl i) (.int i t)=true:=z6L i t
theorem z7U (prog:K1h) (w:World) (x:Str) (t:Tok):(J9 prog w).is (.inr x) (.str x t)=true:=z76 x t
end L2
namespace FT
abbrev Rise (xs:Array Nat):Prop:=xs.toList.Pairwise (·<·)
instance keyMem (k:Key) (ks:List Key):Decidable (k∈ks):=@List.instDecidableMemOfLawfulBEq Key instBEqOfDecidableEq inferInstance k ks
section
variable (w:World)
def KE (k:Key) (e:Int×Value):Prop:=z29 k e.2=true/\e.1=keyH w k
def SetAt (h:Heap) (a:Addr) (ks:List Key):Prop :=
 ∃o es ep t ks',h.get? a=some o/\o.ExactSet/\o.data=.set es ep t/\Paired (KE w) ks' es.toList/\ks'.Perm ks/\ks.Nodup/\es.size<scanBound/\t.fits es.size=true/\Rise t.place /\
  (t.led=true\/w.params.followText "set-order" = true)
end
def IsTup0 (h:Heap) (a:Addr) (items:Array Value):Prop:=∃o,h.get? a=some o/\(o.cls=.type "tuple"/\o.dict=none)/\∃n,o.data=.seq items n
theorem IsTup0.new (h:Heap) (items:Array Value):IsTup0 (h.push { cls:=.type "tuple",data:=.seq items }) h.objs.size items:=⟨_,K0a _ rfl,⟨rfl,rfl⟩,_,rfl⟩
theorem IsTup0.tup {h:Heap}{a:Addr}{items:Array Value}(x:IsTup0 h a items):IsTup h a items:=let ⟨o,e,c,d⟩:=x;⟨o,e,c.1,d⟩
theorem IsTup0.lt {h:Heap}{a:Addr}{items:Array Value}(x:IsTup0 h a items):a<h.objs.size:=let ⟨_,e,_⟩:=x;K0e e
end FT
namespace L2
variable{κ:Type}{a b it C dx:Addr}{u:Value}{P:K1h}{w:World}{h h' base:Heap}{x qual:Str}{e c tg l:Expr}{pins pins':List (Addr×Obj)}{s s':Shared}{g':Array Z2b}{t' i n:Nat}{d':Drawn}{ch fp:List Addr}{N ps:List Str}{A:Around}{E Q:Value->Shared->Prop}{t:TA}{pos p:Pos}{K:K6}{es:List Expr}{g:Int->Int->Int}{lo:Int}{body:List Stmt}{f:Value->Value->Sem Value}{its us ds:List Value}{mA mg:Str->Option Value}{fd:K5b}{scope:Scope}{outer:List Env}
inductive V where
 | non|bl (b:Bool)|int (i:Int)|str (x:Str)|byt (b:Array UInt8)|flt (b:UInt64)|ref (a:Addr)|ty (n:String)
 deriving DecidableEq
variable{σ':List (Option V)}{v:V}{xs vs:List V}
def RelV:V->Value->Prop
 | .non,u=>u=K2x
 | .bl b,u=>u=K74 b
 | .int i,u=>∃t,u=K6k i t
 | .str x,u=>∃t,u=K9s x t
 | .byt b,u=>∃t,u=Value.bytes b t
 | .flt b,u=>∃t,u=Value.float b t
 | .ref a,u=>u=K25 a
 | .ty n,u=>u=K46 n
abbrev Vals:List V->List Value->Prop:=Paired RelV
theorem Vals.length {xs:List V}{us:List Value}(r:Vals xs us):xs.length=us.length:=K4p r
theorem Vals.get:∀{xs:List V}{us:List Value}{i:Nat}{x:V},Vals xs us->xs[i]?=some x->∃u,us[i]?=some u/\RelV x u
 | _,_,_,_,.nil,e=>by simp at e
 | _,_,0,_,.cons r _,e=>by simp at e;subst e;exact⟨_,rfl,r⟩
 | _,_,i+1,x,.cons _ t,e=>by
  obtain⟨u,h1,h2⟩:=Vals.get (i:=i) (x:=x) t (by simpa using e);exact⟨u,by simpa using h1,h2⟩
theorem Vals.set {x:V}{u:Value}(r:RelV x u):∀{xs:List V}{us:List Value}(i:Nat),Vals xs us->Vals (xs.set i x) (us.set i u)
 | _,_,_,.nil=>.nil
 | _,_,0,.cons _ t=>.cons r t
 | _,_,i+1,.cons q t=>.cons q (Vals.set r i t)
theorem Vals.append:∀{xs ys:List V}{us ws:List Value},Vals xs us->Vals ys ws->Vals (xs++ys) (us++ws)
 | _,_,_,_,.nil,s=>s
 | _,_,_,_,.cons r t,s=>.cons r (Vals.append t s)
theorem Vals.take:∀{xs:List V}{us:List Value}(n:Nat),Vals xs us->Vals (xs.take n) (us.take n)
 | _,_,0,_=>.nil
 | _,_,_+1,.nil=>.nil
 | _,_,n+1,.cons r t=>.cons r (Vals.take n t)
theorem Vals.drop:∀{xs:List V}{us:List Value}(n:Nat),Vals xs us->Vals (xs.drop n) (us.drop n)
 | _,_,0,r=>r
 | _,_,_+1,.nil=>.nil
 | _,_,n+1,.cons _ t=>Vals.drop n t
def RelO:Option V->Option Value->Prop
 | some v,some u=>RelV v u
 | none,none=>True
 | _,_=>False
def KV:List (κ×V)->List (κ×Value)->Prop:=Paired λ(p:κ×V) (q:κ×Value)=>p.1=q.1/\RelV p.2 q.2
def kV:Key->V
 | .inl i=>.int i
 | .inr x=>.str x
inductive HO where
 | lst (xs:List V)
 | tup (xs:List V)
 | dK (kvs:List (Key×V))|dT (kvs:List (List Key×V))
 | set (ks:List Key)
 | ins (C dx:Addr) (fs:List (Str×V))
 | own (x:Addr)
 | xd (fs:List (Str×V))
 | met (f x:Addr)
 | rng (lo hi:Int)
 | frz (o:Obj) (u:HO)
 | tbl (ps:Array Value)
 | ext (φ:Heap->Prop)
variable{o:HO}
abbrev Hp:=Addr->Option HO
variable{H H':Hp}{R:V->V->Hp->Prop}
def upd (H:Hp) (a:Addr) (o:HO):Hp:=λb=>if b=a then some o else H b
theorem J8:upd H a o a=some o:=by unfold upd;rw[if_pos rfl]
theorem Y2 (h:b≠a):upd H a o b=H b:=by unfold upd;rw[if_neg h]
theorem Z0K {u:HO}(h:H a=some o) (h':H b=some u) (d:o≠u):a≠b:=by
 intro e;subst e;rw[h]at h';exact d (K1b h')
theorem Y8 (h:H a=some o) (h':H b=none):a≠b:=by
 intro e;subst e;rw[h]at h';cases h'
section
variable (P:K1h) (w:World)
def ObjOk (H:Hp) (h:Heap) (a:Addr):HO->Prop
 | .lst xs=>xs.length<=sizeLine/\∃(its:List Value) (n:Nat),Vals xs its/\h.get? a=some { cls:=.type "list",data:=.seq its.toArray n }
 | .tup xs=>xs.length<=sizeLine/\∃its:List Value,Vals xs its/\FT.IsTup0 h a its.toArray
 | .dK kvs=>kvs.length<=sizeLine/\(a==K3r)=false/\∃vs,KV kvs vs/\h.DictOf (J9 P w) a vs
 | .dT kvs=>kvs.length<=sizeLine/\(a==K3r)=false/\∃xs:List (List Key×Addr×Value),
  Paired (λ(p:List Key×V) (q:List Key×Addr×Value)=>p.1=q.1/\H q.2.1=.(g (p.1.map kV))/\RelV p.2 q.2.2) kvs xs /\
  ∃o es ep,h.get? a=some o/\o.ExactDict/\o.data=.dict es ep/\es.toList=xs.map (entryOfKey (K9w (J9 P w)))/\(xs.map (·.1)).Nodup
 | .set ks=>FT.SetAt w h a ks
 | .ins C dx fs=>H dx=some (.own a)/\fs.length<=1000/\dx≠a/\h.get? a=some (K94 C dx) /\
  ∃mA,h.Ns1 dx mA/\(∀f,RelO (fs.lookup f) (mA f))/\PySem.Within mA (fs.map (·.1))
 | .own _=>∃o,h.get? a=some o
 | .xd fs=>∃mA,h.Ns1 a mA/\∀f,RelO (fs.lookup f) (mA f)
 | .rng lo hi=>∃t u v,h.get? a=some { cls:=.type "range",data:=.fields #[.int lo t,.int hi u,.int 1 v] }
 | .frz o u=>h.get? a=some o/\ObjOk H h a u
 | .tbl ps=>h.get? a=some { cls:=.none,data:=.fields ps }
 | .met f x=>h.get? a=some (K7t (.ref f) (.ref x))
 | .ext φ=>φ h/\(∃o,h.get? a=some o)/\∀h1 h2:Heap,φ h1->(∀o,h1.get? a=some o->h2.get? a=some o)->φ h2
def HOk (H:Hp) (h:Heap):Prop:=∀a o,H a=some o->ObjOk P w H h a o
end
theorem ObjOk.lt (x:ObjOk P w H h a o):a<h.objs.size:=by
 cases o with
 | lst xs=>obtain⟨_,_,_,_,e⟩:=x;exact K0e e
 | tup xs=>obtain⟨_,_,_,p⟩:=x;exact p.lt
 | dK kvs=>obtain⟨_,_,_,_,o,_,_,e,_⟩:=x;exact K0e e
 | dT kvs=>obtain⟨_,_,_,_,o,_,_,e,_⟩:=x;exact K0e e
 | set ks=>obtain⟨o,_,_,_,_,e,_⟩:=x;exact K0e e
 | ins C dx fs=>obtain⟨_,_,_,e,_⟩:=x;exact K0e e
 | own y=>obtain⟨_,e⟩:=x;exact K0e e
 | xd fs=>obtain⟨_,⟨_,_,_,e,_⟩,_⟩:=x;exact K0e e
 | rng lo hi=>obtain⟨_,_,_,e⟩:=x;exact K0e e
 | frz ob u=>obtain⟨e,_⟩:=x;exact K0e e
 | tbl ps=>exact K0e (show h.get? a=some _ from x)
 | met f y=>exact K0e (show h.get? a=some _ from x)
 | ext φ=>obtain⟨_,⟨_,e⟩,_⟩:=x;exact K0e e
theorem Paired.mapP {α β:Type}{F G:α->β->Prop}:∀{l₁:List α}{l₂:List β},Paired F l₁ l₂->(∀a b,F a b->G a b)->Paired G l₁ l₂
 | _,_,.nil,_=>.nil
 | _,_,.cons r t,f=>.cons (f _ _ r) (Paired.mapP t f)
theorem ObjOk.stay (x:ObjOk P w H h a o) (k:∀b u,(b=a\/H b=some (.own a))->h.get? b=some u->h'.get? b=some u)
 (ho:∀b,H b=some (.own a)->H' b=some (.own a)) (ht:∀b xs,H b=.(g xs)->H' b=.(g xs)):ObjOk P w H' h' a o:=by
 induction o with
 | lst xs=>obtain⟨z,its,n,r,e⟩:=x;exact⟨z,its,n,r,k _ _ (.inl rfl) e⟩
 | tup xs=>obtain⟨z,its,r,ob,e,c⟩:=x;exact⟨z,its,r,ob,k _ _ (.inl rfl) e,c⟩
 | dK kvs=>obtain⟨z,y,vs,r,ob,es,ep,e,c⟩:=x;exact⟨z,y,vs,r,ob,es,ep,k _ _ (.inl rfl) e,c⟩
 | dT kvs =>
  obtain⟨z,y,xs,r,ob,es,ep,e,c⟩:=x;exact⟨z,y,xs,Paired.mapP r λp q z=>⟨z.1,ht _ _ z.2.1,z.2.2⟩,ob,es,ep,k _ _ (.inl rfl) e,c⟩
 | set ks=>obtain⟨ob,es,ep,t,k',e,c⟩:=x;exact⟨ob,es,ep,t,k',k _ _ (.inl rfl) e,c⟩
 | ins C dx fs =>
  obtain⟨d,z,ne,e,mA,⟨od,es,ep,e2,c⟩,r⟩:=x;exact⟨ho _ d,z,ne,k _ _ (.inl rfl) e,mA,⟨od,es,ep,k _ _ (.inr d) e2,c⟩,r⟩
 | own y=>obtain⟨ob,e⟩:=x;exact⟨ob,k _ _ (.inl rfl) e⟩
 | xd fs=>obtain⟨mA,⟨od,es,ep,e,c⟩,r⟩:=x;exact⟨mA,⟨od,es,ep,k _ _ (.inl rfl) e,c⟩,r⟩
 | rng lo hi=>obtain⟨t,u,v,e⟩:=x;exact⟨t,u,v,k _ _ (.inl rfl) e⟩
 | frz ob u ih=>obtain⟨e,q⟩:=x;exact⟨k _ _ (.inl rfl) e,ih q⟩
 | tbl ps =>
  have e:h.get? a=some { cls:=.none,data:=.fields ps }:=x;show h'.get? a=some { cls:=.none,data:=.fields ps };exact k a _ (.inl rfl) e
 | met f y =>
  have e:h.get? a=some (K7t (.ref f) (.ref y)):=x;show h'.get? a=some (K7t (.ref f) (.ref y));exact k a _ (.inl rfl) e
 | ext φ=>obtain⟨p,⟨o,e⟩,st⟩:=x;exact⟨st _ _ p λo q=>k _ _ (.inl rfl) q,⟨o,k _ _ (.inl rfl) e⟩,st⟩
theorem HOk.lt (x:HOk P w H h) (e:H a=some o):a<h.objs.size:=(x a o e).lt
theorem HOk.fresh (x:HOk P w H h) (e:h.objs.size<=a):H a=none:=by
 cases q:H a with
 | none=>rfl
 | some u=>exact absurd (K0l (x.lt q) e) (K2k _)
theorem HOk.kept (x:HOk P w H h) (k:∀b u,h.get? b=some u->h'.get? b=some u):HOk P w H h':=λa o e =>
 (x a o e).stay (λb u _ q=>k b u q) (λ_ q=>q) λ_ _ q=>q
theorem HOk.laid (x:HOk P w H h) (k:∀b u,h.get? b=some u->h'.get? b=some u) (hp:h.objs.size<=a) (new:ObjOk P w (upd H a o) h' a o):HOk P w (upd H a o) h':=λb u e=>by
 have hn:=x.fresh hp;by_cases hb:b=a
 ·subst hb;rw[J8]at e;cases e;exact new
 ·rw[Y2 hb]at e;exact(x b u e).stay (λc v _ q=>k c v q) (λc q=>by rw[Y2 (Y8 q hn)];exact q) λc xs q=>by rw[Y2 (Y8 q hn)];exact q
def Rd (H:Hp) (a:Addr) (u:HO):Prop:=H a=some u\/∃o,H a=some (.frz o u)
theorem Rd.ok {u:HO}(r:Rd H a u) (x:HOk P w H h):ObjOk P w H h a u:=by
 rcases r with r|⟨o,r⟩
 ·exact x a u r
 ·obtain⟨_,q⟩:=x a _ r;exact q
def Mut:Option HO->Prop
 | .(l _)=>True
 | some (.dK _)=>True
 | some (.dT _)=>True
 | some (.set _)=>True
 | some (.ins _ _ _)=>True
 | some (.ext _)=>True
 | _=>False
section
variable {x e:Addr}{o':HO}
theorem HOk.write (ok:HOk P w H h) (mu:Mut (H x)) (he:e=x\/H e=some (.own x)) (k:∀b u,b≠e->h.get? b=some u->h'.get? b=some u) (heo:∃u,h'.get? e=some u)
 (new:ObjOk P w (upd H x o') h' x o'):HOk P w (upd H x o') h':=λb u q=>by
 have nown:∀c y,H c=some (.own y)->c≠x:=λc y r z=>by subst z;rw[r]at mu;exact mu
 have ntup:∀c xs,H c=.(g xs)->c≠x:=λc xs r z=>by subst z;rw[r]at mu;exact mu
 by_cases hb:b=x
 ·subst hb;rw[J8]at q;cases q;exact new
 ·rw[Y2 hb]at q;by_cases hbe:b=e
  ·have q':H b=some (.own x):=by
    rcases he with z|z
    ·exact absurd (hbe.trans z) hb
    ·rw[hbe];exact z
   rw[q]at q';cases q';obtain⟨v,hv⟩:=heo;exact⟨v,by rw[hbe];exact hv⟩
  ·refine(ok b u q).stay (λc v hc r=>k c v ?_ r) (λc r=>by rw[Y2 (nown c b r)];exact r) λc xs r=>by rw[Y2 (ntup c xs r)];exact r
   rcases hc with rfl|hc
   ·exact hbe
   ·rintro rfl;rcases he with z|z
    ·exact nown c b hc z
    ·rw[hc]at z;cases z;exact hb rfl
end
structure Un (fs ex:List Addr) (H H':Hp) (h h':Heap):Prop where
 keep:∀b o,h.get? b=some o->H b=none->b∉fs->b∉ex->h'.get? b=some o
 slot:∀b o,h.get? b=some o->H b=none->b∈fs->b∉ex->∃sl,h'.get? b=some { o with slots:=sl }
 free:∀b o,h.get? b=some o->H b=none->b∉ex->H' b=none
 there:∀b o,h.get? b=some o->b∉ex->∃o',h'.get? b=some o'
 tups:∀b xs,H b=.(g xs)->H' b=.(g xs)
 frzs:∀b o u,H b=some (.frz o u)->H' b=some (.frz o u)
 tbls:∀b ps,H b=some (.tbl ps)->∃more,H' b=some (.tbl (ps++more))
section
variable {fs fs' ex ex':List Addr}{H1 H2:Hp}{h1 h2:Heap}{x e:Addr}
theorem Un.any (u:Un fs ex H H1 h h1){ob:Obj}(q:h.get? b=some ob) (n:H b=none) (hx:b∉ex):∃sl,h1.get? b=some { ob with slots:=sl }:=by
 by_cases hb:b∈fs
 ·exact u.slot b ob q n hb hx
 ·exact⟨ob.slots,u.keep b ob q n hb hx⟩
theorem Un.kept (k:∀b u,h.get? b=some u->h'.get? b=some u):Un fs ex H H h h' :=
 ⟨λb ob q _ _ _=>k b ob q,λb ob q _ _ _=>⟨ob.slots,k b ob q⟩,λ_ _ _ n _=>n,λb ob q _=>⟨ob,k b ob q⟩,λ_ _ q=>q,λ_ _ _ q=>q,λ_ ps q=>⟨#[],by rw[q];simp⟩⟩
theorem Un.refl:Un fs ex H H h h:=Un.kept λ_ _ q=>q
theorem Un.laid (k:∀b u,h.get? b=some u->h'.get? b=some u) (hp:h.objs.size<=a) (hn:H a=none):Un fs ex H (upd H a o) h h' where
 keep:=λb u q _ _ _=>k b u q
 slot:=λb u q _ _ _=>⟨u.slots,k b u q⟩
 free:=λb u q n _=>by rw[Y2 (K0o (K0l (K0e q) hp))];exact n
 there:=λb u q _=>⟨u,k b u q⟩
 tups:=λb xs q=>by rw[Y2 (Y8 q hn)];exact q
 frzs:=λb u xs q=>by rw[Y2 (Y8 q hn)];exact q
 tbls:=λb ps q=>⟨#[],by rw[Y2 (Y8 q hn),q];simp⟩
theorem Un.write (mu:Mut (H x)) (he:e=x\/H e=some (.own x)) (k:∀b u,b≠e->h.get? b=some u->h'.get? b=some u) (heo:∃u,h'.get? e=some u):Un fs ex H (upd H x o) h h':=by
 have hx:∀b,H b=none->b≠x:=λb n z=>by subst z;rw[n]at mu;exact mu
 have hb:∀b,H b=none->b≠e:=λb n z=>by
  subst z;rcases he with r|r
  ·exact hx b n r
  ·rw[n]at r;cases r
 have hm:∀b u,H b=some u->¬ Mut (some u)->b≠x:=λb u q nm z=>by subst z;rw[q]at mu;exact nm mu
 refine⟨λb u q n _ _=>k b u (hb b n) q,λb u q n _ _=>⟨u.slots,k b u (hb b n) q⟩,λb u q n _=>by rw[Y2 (hx b n)];exact n,λb u q _=>?_,
  λb xs q=>by rw[Y2 (hm b _ q λz=>z)];exact q,λb u xs q=>by rw[Y2 (hm b _ q λz=>z)];exact q,λb ps q=>⟨#[],by rw[Y2 (hm b _ q λz=>z),q];simp⟩⟩
 by_cases hbe:b=e
 ·subst hbe;exact heo
 ·exact⟨u,k b u hbe q⟩
end
def trk (h:Heap) (H:Hp):List Addr:=(K9 h.objs.size).filter λa=>(H a).isSome
def hidT (h:Heap) (H:Hp):Heap:=PySem.W.hideAll h (trk h H)
theorem zj1 (h:Heap) (H:Hp):(hidT h H).objs.size=h.objs.size:=PySem.W.hideAll_size _ _
theorem zp8 {o:Obj}(e:h.get? b=some o) (n:H b=none):(hidT h H).get? b=some o :=
 PySem.W.hideAll_get _ e λhm=>by
  have q:(H b).isSome=true:=(K0p.mp hm).2;rw[n]at q;simp at q
theorem zG6 {o:Obj}(e:(hidT h H).get? b=some o):h.get? b=some o/\H b=none:=by
 have e':h.get? b=some o:=PySem.W.of_hideAll (trk h H) e;refine⟨e',?_⟩;cases q:H b with
 | none=>rfl
 | some x =>
  have hm:b∈trk h H:=K0p.mpr ⟨K0r.mpr (K0e e'),by simp[q]⟩;have z:(hidT h H).get? b=none:=PySem.W.hideAll_none (trk h H) hm;rw[z]at e;cases e
def zH3 (g h:Heap) (L:Addr):List .(x):=(K9 h.objs.size).filterMap λa=>if a=L\/(g.get? a).isSome=true then none else (h.get? a).map λo=>(a,o)
def rest (g h:Heap) (L d:Addr):List .(x):=(zH3 g h L).filter λp=>decide (p.1≠d)
structure Mod (K:K6) (mg:Str->Option Value) (base:Heap):Prop where
 kin:K.In base
 glob:base.Ns K2i mg
 blt:∃mb,base.Ns builtinsNs mb/\∀x:Str,x≠"__name__"->mb x=K55 x
 nolimit:base.NoLimit
structure Cx where
 prog:K1h
 w:World
 K:K6
 mg:Str->Option Value
 base:Heap
 A:Around
 N:List Str
 s₀:Shared
 H₀:Hp
 env:Env
 outer:List Env
 stack:List Env
 ex:List Addr
 fn:Str->Bool
 calm:Bool
 pn:List .(x)
 xe:Value->Shared->Prop
variable{X:Cx}
def frs (l:List Env):List Addr:=l.filterMap (·.frame)
abbrev Cx.fs (X:Cx):List Addr:=frs X.outer
def Vis (sc:Scope) (x:Str):Prop:=sc.names.lookup x=some .local\/sc.names.lookup x=some .cell\/sc.names.lookup x=some .free
def Loc (sc:Scope) (x:Str):Prop:=sc.names.lookup x=some .local\/sc.names.lookup x=some .cell
def Look (env:Env) (h:Heap) (m:Str->Option Value) (x:Str) (u:Value):Prop :=
 (env.kindOf x=some .local/\m x=some u)\/((env.kindOf x=some .cell\/env.kindOf x=some .free)/\∃c,env.cells.lookup x=some c/\h.IsCell c (some u))
structure Cx.Ok (X:Cx):Prop where
 mod:Mod X.K X.mg X.base
 kind:X.env.scope.kind=.function
 glob:X.env.globals=K2i
 blt:X.env.builtins=builtinsNs
 above:X.s₀.heap.objs.size<=X.env.locals
 inj:∀x y c,X.env.cells.lookup x=some c->X.env.cells.lookup y=some c->x=y
 has:∀x,(X.env.kindOf x=some .cell\/X.env.kindOf x=some .free)->∃c,X.env.cells.lookup x=some c
 cab:∀x c,X.fn x=true->X.env.cells.lookup x=some c->X.s₀.heap.objs.size<=c
 hd:X.calm=true->X.A.handled=none
 frames:X.A.frames=some X.stack
 stk:X.stack=X.outer\/(X.stack=X.env::X.outer/\X.env.frame=some X.env.locals)
 exf:∀b∈X.ex,b≠X.env.locals/\∀x c,X.env.cells.lookup x=some c->c≠b
 bs:∀b o,X.base.get? b=some o->X.s₀.heap.get? b=some o/\X.H₀ b=none
 bsz:X.base.objs.size<=X.s₀.heap.objs.size
 noex:∀b o,X.base.get? b=some o->b∉X.ex
 exfs:∀b∈X.ex,b∉X.fs
 funs:X.s₀.heap.FunFrames X.base X.outer
 frf:∀b∈X.fs,X.H₀ b=none
structure Inv (X:Cx) (pins:List .(x)) (σ:List (Option V)) (H:Hp) (s:Shared):Prop where
 ok:X.Ok
 os:s.os=X.s₀.os
 bare:K81 s.gens
 base:Un X.fs X.ex X.H₀ H X.s₀.heap s.heap
 loc:∃m,s.heap.Ns X.env.locals m/\∀(i:Nat) (x:Str) (v:V),X.N[i]?=some x->σ[i]?=some (some v)->Vis X.env.scope x->∃u,RelV v u/\Look X.env s.heap m x u
 cell:∀x c,X.env.cells.lookup x=some c->∃v,s.heap.IsCell c v
 free:H X.env.locals=none
 freeC:∀x c,X.env.cells.lookup x=some c->H c=none
 pin:∀p∈X.pn++pins,s.heap.get? p.1=some p.2/\H p.1=none/\p.1≠X.env.locals/\p.1∉X.fs/\∀v,p.2.data≠.cell v
 hok:HOk X.prog X.w H s.heap
 len:σ.length=X.N.length
section
variable {σ:List (Option V)}
theorem Cx.Ok.nofr (ok:X.Ok){o:Obj}(e:X.base.get? b=some o):b∉X.fs:=λhb=>by
 have:=(ok.funs.mem hb).1;rw[e]at this;cases this
theorem Inv.bs (I:Inv X pins σ H s):∀b o,X.base.get? b=some o->s.heap.get? b=some o/\H b=none:=λb o e =>
 ⟨I.base.keep b o (I.ok.bs b o e).1 (I.ok.bs b o e).2 (I.ok.nofr e) (I.ok.noex b o e),I.base.free b o (I.ok.bs b o e).1 (I.ok.bs b o e).2 (I.ok.noex b o e)⟩
theorem Inv.bk (I:Inv X pins σ H s):∀b o,X.base.get? b=some o->s.heap.get? b=some o:=λb o e=>(I.bs b o e).1
theorem Inv.mod (I:Inv X pins σ H s):Mod X.K X.mg X.base:=I.ok.mod
theorem Inv.kIn (I:Inv X pins σ H s):X.K.In s.heap:=I.ok.mod.kin.keeps I.bk
theorem Inv.fr (I:Inv X pins σ H s):∃m,Fr X.base X.env.locals s.heap m :=
 let ⟨m,hn,_⟩:=I.loc
 ⟨m,hn,I.bk,K0d I.ok.bsz I.ok.above⟩
theorem Inv.lt (I:Inv X pins σ H s):X.env.locals<s.heap.objs.size:=let ⟨_,hn,_⟩:=I.loc;hn.lt
theorem Inv.sz (I:Inv X pins σ H s):X.s₀.heap.objs.size<=s.heap.objs.size:=K0d I.ok.above (K2m I.lt)
theorem Inv.nofs (I:Inv X pins σ H s) (h:s.heap.objs.size<=a):a∉X.fs:=λhb=>by
 obtain⟨_,o,ho,_⟩:=I.ok.funs.mem hb;exact absurd (K0l (K0e ho) (K0d I.sz h)) (K2k _)
theorem Inv.cne (I:Inv X pins σ H s):∀x c,X.env.cells.lookup x=some c->c≠X.env.locals:=λx c e z=>by
 obtain⟨v,o,ho,hd⟩:=I.cell x c e;obtain⟨m,⟨o',es,ep,ho',hd',_⟩,_⟩:=I.loc;rw[z,ho']at ho;cases ho;rw[hd']at hd;cases hd
theorem Inv.funs (I:Inv X pins σ H s):s.heap.FunFrames X.base X.outer:=by
 have all:∀(l:List Env),(∀b∈frs l,b∈X.fs)->X.s₀.heap.FunFrames X.base l->s.heap.FunFrames X.base l:=by
  intro l;induction l with
  | nil=>intro _ _;trivial
  | cons env r ih =>
   intro hs hl;obtain⟨hk,⟨L,o,hf,hn,ho,hd⟩,hr⟩:=hl;have hL:L∈X.fs:=hs L (by unfold frs;rw[K2r,hf];exact K10);obtain⟨sl,e⟩:=I.base.slot L o ho (I.ok.frf L hL) hL λz=>I.ok.exfs L z hL;exact⟨hk,⟨L,_,hf,hn,e,hd⟩,ih (λb hb=>hs b (by unfold frs;rw[K2r,hf];exact K0s _ hb)) hr⟩
 exact all X.outer (λ_ hb=>hb) I.ok.funs
theorem Inv.stack (I:Inv X pins σ H s):s.heap.FunFrames X.base X.stack:=by
 rcases I.ok.stk with e|⟨e,hf⟩
 ·rw[e];exact I.funs
 ·rw[e];obtain⟨m,hn,_⟩:=I.loc;refine .cons (by rw[I.ok.kind];decide) hf hn ?_ I.funs;exact Heap.get?_none_of_le (K0d I.ok.bsz I.ok.above)
theorem Inv.stkSub (I:Inv X pins σ H s):∀b∈frs X.stack,b∈X.env.locals::X.fs:=λb hb=>by
 rcases I.ok.stk with e|⟨e,hf⟩
 ·rw[e]at hb;exact K0s _ hb
 ·rw[e]at hb;unfold frs at hb;rw[K2r,hf]at hb;exact hb
theorem Inv.stkFree (I:Inv X pins σ H s):∀b∈frs X.stack,H b=none:=λb hb=>by
 rcases K12.mp (I.stkSub b hb) with e|hb
 ·rw[e];exact I.free
 ·obtain⟨_,o,ho,_⟩:=I.ok.funs.mem hb;exact I.base.free b o ho (I.ok.frf b hb) λz=>I.ok.exfs b z hb
theorem Inv.step {g':Array Z2b}{t':Nat}{d':Drawn}{ch:List Addr}(I:Inv X pins σ H s)
 (hch:∀b∈ch,(b∈X.ex\/X.s₀.heap.objs.size<=b)/\b≠X.env.locals/\(∀x c,X.env.cells.lookup x=some c->c≠b)/\∀p∈X.pn++pins,p.1≠b)
 (keep:∀b o,b≠X.env.locals->b∉X.fs->b∉ch->s.heap.get? b=some o->H b=none->h'.get? b=some o)
 (slot:∀b o,b≠X.env.locals->b∈X.fs->b∉ch->s.heap.get? b=some o->H b=none->∃sl,h'.get? b=some { o with slots:=sl }) (free:∀b o,b∉ch->s.heap.get? b=some o->H b=none->H' b=none)
 (there:∀b o,b∉ch->s.heap.get? b=some o->∃o',h'.get? b=some o')
 (tups:∀b xs,H b=.(g xs)->H' b=.(g xs)) (frzs:∀b o u,H b=some (.frz o u)->H' b=some (.frz o u)) (tbls:∀b ps,H b=some (.tbl ps)->∃more,H' b=some (.tbl (ps++more)))
 (ns:∀m,s.heap.Ns X.env.locals m->h'.Ns X.env.locals m) (hok:HOk X.prog X.w H' h') (hg:K81 g') :
 Inv X pins σ H' { s with heap:=h',gens:=g',drawn:=d',toks:=t' }:=by
 have neL:∀b o,X.s₀.heap.get? b=some o->b≠X.env.locals:=λb o e=>K0o (K0l (K0e e) I.ok.above);have neC:∀b o,X.s₀.heap.get? b=some o->b∉X.ex->b∉ch:=λb o e hx hb=>by
  rcases(hch b hb).1 with z|z
  ·exact hx z
  ·exact absurd (K0l (K0e e) z) (K2k _)
 have cellK:∀x c,X.env.cells.lookup x=some c->∀v,s.heap.IsCell c v->h'.IsCell c v:=λx c e v ⟨o,ho,hd⟩=>by
  have nch:c∉ch:=λz=>(hch c z).2.2.1 x c e rfl;by_cases hc:c∈X.fs
  ·obtain⟨sl,q⟩:=slot c o (I.cne x c e) hc nch ho (I.freeC x c e);exact⟨_,q,hd⟩
  ·exact⟨o,keep c o (I.cne x c e) hc nch ho (I.freeC x c e),hd⟩
 refine⟨I.ok,I.os,hg,⟨λb o e n hb hx=>?_,λb o e n hb hx=>?_,λb o e n hx=>?_,λb o e hx=>?_,λb xs e=>tups b xs (I.base.tups b xs e),λb o xs e=>frzs b o xs (I.base.frzs b o xs e),λb ps e=>?_⟩,?_,λx c e=>?_,?_,λx c e=>?_,λp hp=>?_,hok,I.len⟩
 ·exact keep b o (neL b o e) hb (neC b o e hx) (I.base.keep b o e n hb hx) (I.base.free b o e n hx)
 ·obtain⟨sl,e1⟩:=I.base.slot b o e n hb hx;obtain⟨sl',e2⟩:=slot b _ (neL b o e) hb (neC b o e hx) e1 (I.base.free b o e n hx);exact⟨sl',e2⟩
 ·obtain⟨o',e1⟩:=I.base.there b o e hx;exact free b o' (neC b o e hx) e1 (I.base.free b o e n hx)
 ·obtain⟨o',e1⟩:=I.base.there b o e hx;exact there b o' (neC b o e hx) e1
 ·obtain⟨m1,e1⟩:=I.base.tbls b ps e;obtain⟨m2,e2⟩:=tbls b _ e1;exact⟨m1++m2,by rw[e2,Array.append_assoc]⟩
 ·obtain⟨m,hn,hl⟩:=I.loc;refine⟨m,ns m hn,λi x v e1 e2 e3=>?_⟩;obtain⟨u,r,l⟩:=hl i x v e1 e2 e3;refine⟨u,r,?_⟩;rcases l with l|⟨k,c,e,z⟩
  ·exact .inl l
  ·exact .inr ⟨k,c,e,cellK x c e _ z⟩
 ·obtain⟨v,z⟩:=I.cell x c e;exact⟨v,cellK x c e v z⟩
 ·obtain⟨m,⟨o,_,_,ho,_⟩,_⟩:=I.loc;exact free _ o (λz=>(hch _ z).2.1 rfl) ho I.free
 ·obtain⟨v,o,ho,hd⟩:=I.cell x c e;exact free c o (λz=>(hch c z).2.2.1 x c e rfl) ho (I.freeC x c e)
 ·obtain⟨e,n,ne,nf,d⟩:=I.pin p hp;have nch:p.1∉ch:=λz=>(hch p.1 z).2.2.2 p hp rfl;exact⟨keep p.1 p.2 ne nf nch e n,free p.1 p.2 nch e n,ne,nf,d⟩
theorem Inv.un (I:Inv X pins σ H s) (u:Un X.fs [] H H' s.heap h') (hok:HOk X.prog X.w H' h'):Inv X pins σ H' { s with heap:=h',toks:=t' }:=by
 obtain⟨m,⟨o,es,ep,ho,r⟩,_⟩:=id I.loc;obtain⟨sl,hL⟩:=u.any ho I.free .(f);exact I.step (g':=s.gens) (d':=s.drawn) (ch:=[]) (λ_ z=>nomatch z) (λb o _ hb _ e n=>u.keep b o e n hb .(f)) (λb o _ hb _ e n=>u.slot b o e n hb .(f)) (λb o _ e n=>u.free b o e n .(f)) (λb o _ e=>u.there b o e .(f)) u.tups u.frzs u.tbls (λm' hm=>by
  obtain⟨o',es',ep',ho',r'⟩:=hm;rw[ho]at ho';cases ho';exact⟨_,es',ep',hL,r'⟩) hok I.bare
theorem Inv.call {t':Nat}{d':Drawn}(I:Inv X pins σ H s) (u:Un (frs X.stack) ch H H' s.heap h') (hok:HOk X.prog X.w H' h') (hg:K81 g')
 (hch:∀b∈ch,(b∈X.ex\/X.s₀.heap.objs.size<=b)/\b≠X.env.locals/\(∀x c,X.env.cells.lookup x=some c->c≠b)/\∀p∈X.pn++pins,p.1≠b) :
 Inv X pins σ H' { s with heap:=h',gens:=g',drawn:=d',toks:=t' }:=by
 obtain⟨m,⟨o,es,ep,ho,r⟩,_⟩:=id I.loc;obtain⟨sl,hL⟩:=u.any ho I.free λz=>(hch _ z).2.1 rfl;exact I.step (ch:=ch) hch (λb o hL hb hc e n=>u.keep b o e n (λz=>(K12.mp (I.stkSub b z)).elim hL hb) hc) (λb o _ _ hc e n=>u.any e n hc) (λb o hc e n=>u.free b o e n hc) (λb o hc e=>u.there b o e hc) u.tups u.frzs u.tbls (λm' hm=>by
  obtain⟨o',es',ep',ho',r'⟩:=hm;rw[ho]at ho';cases ho';exact⟨_,es',ep',hL,r'⟩) hok hg
theorem Inv.turned {t':Nat}(I:Inv X pins σ H s) (k:∀b o,b≠it->s.heap.get? b=some o->h'.get? b=some o) (hn:H it=none) (hL:it≠X.env.locals)
 (h1:it∈X.ex\/X.s₀.heap.objs.size<=it) (h2:∀x c,X.env.cells.lookup x=some c->c≠it) (h3:∀p∈X.pn++pins,p.1≠it):Inv X pins σ H { s with heap:=h',toks:=t' }:=by
 have nit:∀b u,H b=some u->b≠it:=λb u e z=>by rw[z,hn]at e;cases e
 refine I.step (g':=s.gens) (d':=s.drawn) (ch:=[it]) (λb hb=>?_) (λb o _ _ hc e _=>k b o (λz=>hc (by simp[z])) e) (λb o _ _ hc e _=>⟨o.slots,k b o (λz=>hc (by simp[z])) e⟩) (λ_ _ _ _ n=>n)
  (λb o hc e=>⟨o,k b o (λz=>hc (by simp[z])) e⟩) (λ_ _ e=>e) (λ_ _ _ e=>e) (λb ps e=>⟨#[],by rw[e];simp⟩) (λm hm=>?_) (λb u e=>?_) I.bare
 ·have e:b=it:=by simpa using hb
  subst e;exact⟨h1,hL,h2,h3⟩
 ·obtain⟨o,es,ep,ho,r⟩:=hm;exact⟨o,es,ep,k _ o (K5j hL) ho,r⟩
 ·refine(I.hok b u e).stay (λc v hc q=>k c v ?_ q) (λ_ q=>q) λ_ _ q=>q;rcases hc with z|z
  ·rw[z];exact nit b u e
  ·exact nit c _ z
theorem Inv.tok (I:Inv X pins σ H s) (t:Nat):Inv X pins σ H { s with toks:=t }:=I.un (h':=s.heap) (t':=t) Un.refl I.hok
theorem Inv.kept {t':Nat}(I:Inv X pins σ H s) (k:∀b u,s.heap.get? b=some u->h'.get? b=some u):Inv X pins σ H { s with heap:=h',toks:=t' }:=I.un (Un.kept k) (I.hok.kept k)
theorem Inv.laid {a:Addr}{o:HO}{t':Nat}(I:Inv X pins σ H s) (k:∀b u,s.heap.get? b=some u->h'.get? b=some u) (hp:s.heap.objs.size<=a) (new:ObjOk X.prog X.w (upd H a o) h' a o) :
 Inv X pins σ (upd H a o) { s with heap:=h',toks:=t' }:=I.un (Un.laid k hp (I.hok.fresh hp)) (I.hok.laid k hp new)
theorem Inv.write {x e:Addr}{o:HO}{t':Nat}(I:Inv X pins σ H s) (mu:Mut (H x)) (he:e=x\/H e=some (.own x)) (k:∀b u,b≠e->s.heap.get? b=some u->h'.get? b=some u) (heo:∃u,h'.get? e=some u)
 (new:ObjOk X.prog X.w (upd H x o) h' x o):Inv X pins σ (upd H x o) { s with heap:=h',toks:=t' }:=I.un (Un.write mu he k heo) (I.hok.write mu he k heo new)
theorem Inv.weak (I:Inv X pins σ H s) (hl:σ'.length=σ.length) (w:∀(i:Nat) v,σ'[i]?=some (some v)->σ[i]?=some (some v)):Inv X pins σ' H s :=
 ⟨I.ok,I.os,I.bare,I.base,let ⟨m,hn,hl'⟩:=I.loc;⟨m,hn,λi x v e1 e2 e3=>hl' i x v e1 (w i v e2) e3⟩,I.cell,I.free,I.freeC,I.pin,I.hok,hl.trans I.len⟩
theorem Inv.pins_of (I:Inv X pins σ H s) (h:∀p∈pins',s.heap.get? p.1=some p.2/\H p.1=none/\p.1≠X.env.locals/\p.1∉X.fs/\∀v,p.2.data≠.cell v):Inv X pins' σ H s :=
 ⟨I.ok,I.os,I.bare,I.base,I.loc,I.cell,I.free,I.freeC,λp hp=>(K0i.mp hp).elim (λz=>I.pin p (K1k _ z)) (h p),I.hok,I.len⟩
theorem z99 (hN:N.Nodup){j:Nat}(a:N[i]?=some x) (b:N[j]?=some x):i=j:=by
 obtain⟨h1,e1⟩:=K3.mp a;obtain⟨h2,e2⟩:=K3.mp b;exact(Z2s hN).mp (e1.trans e2.symm)
theorem zh7 {M:Model}{A:Around}{E:Value->Shared->Prop}{Q:Unit->Shared->Prop}(I:Inv X pins σ H s) (hN:X.N.Nodup) (hi:X.N[i]?=some x) (hx:Loc X.env.scope x) (r:RelV v u)
 (h:∀s',Inv X pins (σ.set i (some v)) H s'->(∃a,K3d a s.heap s'.heap/\(a=X.env.locals\/X.env.cells.lookup x=some a))->Q () s') (hf:X.fn x=true\/X.env.scope.names.lookup x=some .local:=by first|exact .inl rfl|exact .inr rfl|assumption):wpAny M A (storeName X.env x u) Q E s:=by
 obtain⟨m,hn,hl⟩:=id I.loc;have hcls:(X.env.scope.kind==.class||(X.env.scope.kind==.module&&X.env.locals != X.env.globals))=false:=by rw[I.ok.kind];rfl
 have hiσ:i<σ.length:=by rw[I.len];exact(K3.mp hi).1
 have cne:=I.cne;have tracked:∀{a:Addr} {h':Heap},(∃o,s.heap.get? a=some o/\H a=none)->K3d a s.heap h'->HOk X.prog X.w H h':=λ{a h'} ha hs b ob e=>by
  obtain⟨_,_,hfree⟩:=ha;refine(I.hok b ob e).stay (λc w' hc q=>(hs.2 c ?_).trans q) (λ_ q=>q) λ_ _ q=>q;rintro rfl;rcases hc with rfl|hc
  ·rw[hfree]at e;cases e
  ·rw[hfree]at hc;cases hc
 rcases hx with hk|hk
 ·refine wpAny_storeName_local hk hn (λh' hn' hs=>?_) hcls;obtain⟨oL,_,_,hoL,_⟩:=id hn;refine h _ ⟨I.ok,I.os,I.bare,⟨λb o e n hb hx=>?_,λb o e n hb hx=>?_,I.base.free,λb o e hx=>?_,I.base.tups,I.base.frzs,I.base.tbls⟩,⟨_,hn',λj y v' e1 e2 e3=>?_⟩,λy c e=>?_,I.free,I.freeC,λp hp=>?_,tracked ⟨oL,hoL,I.free⟩ hs,by simpa using I.len⟩ ⟨_,hs,.inl rfl⟩
  ·exact(hs.2 b (K0o (K0l (K0e e) I.ok.above))).trans (I.base.keep b o e n hb hx)
  ·obtain⟨sl,e1⟩:=I.base.slot b o e n hb hx;exact⟨sl,(hs.2 b (K0o (K0l (K0e e) I.ok.above))).trans e1⟩
  ·obtain⟨o',e1⟩:=I.base.there b o e hx;exact⟨o',(hs.2 b (K0o (K0l (K0e e) I.ok.above))).trans e1⟩
  ·by_cases hj:j=i
   ·subst hj;rw[hi]at e1;cases e1;rw[K1g hiσ]at e2;cases e2;exact⟨u,r,.inl ⟨hk,by simp⟩⟩
   ·rw[K1l (K5j hj)]at e2;obtain⟨u',r',q⟩:=hl j y v' e1 e2 e3;refine⟨u',r',?_⟩;rcases q with ⟨k,e⟩|⟨k,c,e,z⟩
    ·refine .inl ⟨k,?_⟩;have:y≠x:=λe=>hj (z99 hN e1 (e ▸ hi));simp[this,e]
    ·exact .inr ⟨k,c,e,z.sameBut hs (cne y c e)⟩
  ·obtain⟨w',z⟩:=I.cell y c e;exact⟨w',z.sameBut hs (cne y c e)⟩
  ·obtain⟨e,n,ne,nf,d⟩:=I.pin p hp;exact⟨(hs.2 p.1 ne).trans e,n,ne,nf,d⟩
 ·have hfn:X.fn x=true:=by
   rcases hf with z|z
   ·exact z
   ·rw[z]at hk;cases hk
  obtain⟨c,hc⟩:=I.ok.has x (.inl hk);obtain⟨w',z⟩:=I.cell x c hc;refine wpAny_storeName_cell I.ok.kind hk hc z (λh' hc' hs=>?_);obtain⟨oc,hoc,hocd⟩:=id z;refine h { s with heap:=h' } ⟨I.ok,I.os,I.bare,⟨λb o e n hb hx=>?_,λb o e n hb hx=>?_,I.base.free,λb o e hx=>?_,I.base.tups,I.base.frzs,I.base.tbls⟩,⟨m,hn.sameBut hs (K5j (cne x c hc)),λj y v' e1 e2 e3=>?_⟩,λy c' e=>?_,I.free,I.freeC,λp hp=>?_,tracked ⟨oc,hoc,I.freeC x c hc⟩ hs,by simpa using I.len⟩ ⟨c,hs,.inr hc⟩
  ·exact(hs.2 b (K0o (K0l (K0e e) (I.ok.cab x c hfn hc)))).trans (I.base.keep b o e n hb hx)
  ·obtain⟨sl,e1⟩:=I.base.slot b o e n hb hx;exact⟨sl,(hs.2 b (K0o (K0l (K0e e) (I.ok.cab x c hfn hc)))).trans e1⟩
  ·obtain⟨o',e1⟩:=I.base.there b o e hx;exact⟨o',(hs.2 b (K0o (K0l (K0e e) (I.ok.cab x c hfn hc)))).trans e1⟩
  ·by_cases hj:j=i
   ·subst hj;rw[hi]at e1;cases e1;rw[K1g hiσ]at e2;cases e2;exact⟨u,r,.inr ⟨.inl hk,c,hc,hc'⟩⟩
   ·rw[K1l (K5j hj)]at e2;obtain⟨u',r',q⟩:=hl j y v' e1 e2 e3;refine⟨u',r',?_⟩;rcases q with q|⟨k,c',e,z'⟩
    ·exact .inl q
    ·refine .inr ⟨k,c',e,z'.sameBut hs ?_⟩;rintro rfl;exact hj (z99 hN e1 (I.ok.inj _ _ _ e hc ▸ hi))
  ·by_cases hcc:c'=c
   ·subst hcc;exact⟨_,hc'⟩
   ·obtain⟨w2,z2⟩:=I.cell y c' e;exact⟨w2,z2.sameBut hs hcc⟩
  ·obtain⟨e,n,ne,nf,d⟩:=I.pin p hp;refine⟨(hs.2 p.1 ?_).trans e,n,ne,nf,d⟩;intro q;rw[q,hoc]at e;have q':oc=p.2:=K1b e;exact d w' (by rw[<- q'];exact hocd)
theorem z8h {M:Model}{A:Around}{E:Value->Shared->Prop}{Q:Unit->Shared->Prop}(I:Inv X pins σ H s) (hN:X.N.Nodup) (hi:X.N[i]?=some x) (hx:Loc X.env.scope x) (r:RelV v u)
 (h:∀s',Inv X pins (σ.set i (some v)) H s'->Q () s') (hf:X.fn x=true\/X.env.scope.names.lookup x=some .local:=by first|exact .inl rfl|exact .inr rfl|assumption):wpAny M A (storeName X.env x u) Q E s :=
 zh7 I hN hi hx r (λs' I' _=>h s' I') hf
theorem Inv.call' (I:Inv X pins σ H s) (ho:s'.os=s.os) (u:Un (frs X.stack) ch H H' s.heap s'.heap) (hok:HOk X.prog X.w H' s'.heap) (hg:K81 s'.gens)
 (hch:∀b∈ch,(b∈X.ex\/X.s₀.heap.objs.size<=b)/\b≠X.env.locals/\(∀x c,X.env.cells.lookup x=some c->c≠b)/\∀p∈X.pn++pins,p.1≠b):Inv X pins σ H' s':=by
 obtain⟨h',g',d',t',o'⟩:=s';have e:o'=s.os:=ho;subst e;exact I.call (g':=g') (t':=t') (d':=d') u hok hg hch
end
abbrev XK:=Value->Option Addr->Hp->Prop
abbrev St:=List (Option V)
variable{σ:St}
abbrev VK:=V->Hp->Prop
variable{r:List V->Hp->VK->Prop}
abbrev TE:=St->Hp->VK->Prop
variable{tb te:TE}
abbrev TT:=St->Hp->(Bool->Hp->Prop)->Prop
abbrev TA:=St->Hp->(List V->Hp->Prop)->Prop
structure Ends where
 nx:St->Hp->Prop
 rt:VK
 bk:St->Hp->Prop:=λ_ _=>False
 ct:St->Hp->Prop:=λ_ _=>False
abbrev TS:=Ends->St->Hp->Prop
def EP (X:Cx) (pins:List .(x)) (σ:St) (Q:VK) (u:Value) (s':Shared):Prop:=∃v H',Inv X pins σ H' s'/\RelV v u/\Q v H'
def TP (X:Cx) (pins:List .(x)) (σ:St) (Q:Bool->Hp->Prop) (b:Bool) (s':Shared):Prop:=∃H',Inv X pins σ H' s'/\Q b H'
def AP (X:Cx) (pins:List .(x)) (σ:St) (Q:List V->Hp->Prop) (us:List Value) (s':Shared):Prop:=∃vs H',Inv X pins σ H' s'/\Vals vs us/\Q vs H'
def SP (X:Cx) (pins:List .(x)) (D:Ends) (f:Flow) (s':Shared):Prop :=
 match f with
 | .next=>∃σ' H',Inv X pins σ' H' s'/\D.nx σ' H'
 | .brk=>∃σ' H',Inv X pins σ' H' s'/\D.bk σ' H'
 | .cont=>∃σ' H',Inv X pins σ' H' s'/\D.ct σ' H'
 | .ret u=>∃v σ' H',Inv X pins σ' H' s'/\RelV v u/\D.rt v H'
def PE (X:Cx) (e:Expr) (t:TE):Prop :=
 ∀(pins:List .(x)) (s:Shared) (σ:St) (H:Hp) (Q:VK),Inv X pins σ H s->t σ H Q->wpAny .(6) X.A (eval e X.env) (EP X pins σ Q) X.xe s
def PT (X:Cx) (e:Expr) (t:TT):Prop :=
 ∀(pins:List .(x)) (s:Shared) (σ:St) (H:Hp) (Q:Bool->Hp->Prop),Inv X pins σ H s->t σ H Q->wpAny .(6) X.A (isTrue e X.env (eval e X.env)) (TP X pins σ Q) X.xe s
def PW (X:Cx) (e:Expr) (t:TT):Prop :=
 ∀(whole:Sem Value) (pins:List .(x)) (s:Shared) (σ:St) (H:Hp) (Q:Bool->Hp->Prop),Inv X pins σ H s->t σ H Q->wpAny .(6) X.A (isTrue e X.env whole) (TP X pins σ Q) X.xe s
theorem PW.pt {t:TT}(h:PW X e t):PT X e t:=h _
def PA (X:Cx) (es:List Expr) (t:TA):Prop :=
 ∀(pos:Pos) (pins:List .(x)) (s:Shared) (σ:St) (H:Hp) (Q:List V->Hp->Prop),Inv X pins σ H s->t σ H Q->wpAny .(6) X.A (spliced (backTo pos (K0g es X.env))) (AP X pins σ Q) X.xe s
def PS (X:Cx) (st:Stmt) (t:TS):Prop :=
 ∀(pins:List .(x)) (s:Shared) (σ:St) (H:Hp) (D:Ends),Inv X pins σ H s->t D σ H->wpAny .(6) X.A (exec st X.env) (SP X pins D) X.xe s
def PSs (X:Cx) (st:List Stmt) (t:TS):Prop :=
 ∀(pins:List .(x)) (s:Shared) (σ:St) (H:Hp) (D:Ends),Inv X pins σ H s->t D σ H->wpAny .(6) X.A (execs st X.env) (SP X pins D) X.xe s
theorem thn {α:Type}{t:Sem α}{Q Q':α->Shared->Prop}{M:Model}(h:wpAny M A t Q E s) (hQ:∀a s,Q a s->Q' a s):wpAny M A t Q' E s:=K4a h hQ λ_ _ x=>x
section
def tVar (i:Nat):TE:=λσ H Q=>∃v,σ[i]?=some (some v)/\Q v H
def tC (v:V):TE:=λ_ H Q=>Q v H
theorem zR2 (hN:X.N[i]?=some x) (hv:Vis X.env.scope x) (hd:(x==("__debug__":Str))=false:=by decide) (hcd:(x==("__classdict__":Str))=false:=by decide):PE X (.Name x pos) (tVar i):=by
 intro pins s σ H Q I h;obtain⟨v,e,h⟩:=h;obtain⟨m,hn,hl⟩:=I.loc;obtain⟨u,r,l⟩:=hl i x v hN e hv;have fin:EP X pins σ Q u s:=⟨v,H,I,r,h⟩;rcases l with ⟨hk,hm⟩|⟨hk,c,hc,hcell⟩
 ·exact wpAny_Name (wpAny_loadName_local I.ok.kind hk hn hm fin) hd
 ·rcases hk with hk|hk
  ·exact wpAny_Name (wpAny_loadName_cell I.ok.kind hk hc hcell fin) hd
  ·exact wpAny_Name (wpAny_loadName_free I.ok.kind hk hc hcell fin hcd) hd
theorem zV4 {i j pos}:PE X (.Constant (.int i) j pos) (tC (.int i)):=λ_ _ _ H _ I h=>wpAny_Constant_int ⟨.int i,H,I.tok _,⟨_,rfl⟩,h⟩
theorem Z0M {b j pos}:PE X (.Constant (.bool b) j pos) (tC (.bl b)):=λ_ _ _ H _ I h=>Constant_bool ⟨.bl b,H,I,rfl,h⟩
theorem zX4 {j pos}:PE X (.Constant .none j pos) (tC .non):=λ_ _ _ H _ I h=>Constant_none ⟨.non,H,I,rfl,h⟩
theorem zU0 {x j pos}:PE X (.Constant (.str x) j pos) (tC (.str x)):=λ_ _ _ H _ I h=>Calls.Constant_str ⟨.str x,H,I.tok _,⟨_,rfl⟩,h⟩
def Gl (X:Cx) (x:Str):Prop:=X.env.kindOf x=some .globalImplicit
theorem zc2 {E:Value->Shared->Prop}{pos:Pos}(I:Inv X pins σ H s) (hg:Gl X x) (hm:X.mg x=some u) (h:Q u s)
 (hd:(x==("__debug__":Str))=false:=by decide):wpAny .(6) X.A (eval (.Name x pos) X.env) Q E s :=
 K7g I.ok.kind hg (Calls.loadGlobal_global (by rw[I.ok.glob];exact I.mod.glob.keeps I.bk) hm h) hd
theorem z55 {E:Value->Shared->Prop}{pos:Pos}(I:Inv X pins σ H s) (hg:Gl X x) (hm:X.mg x=none) (hv:K55 x=some u) (h:Q u s)
 (hn:x≠"__name__":=by decide) (hd:(x==("__debug__":Str))=false:=by decide):wpAny .(6) X.A (eval (.Name x pos) X.env) Q E s:=by
 obtain⟨mb,h1,h2⟩:=I.mod.blt;exact K7g I.ok.kind hg (Calls.loadGlobal_builtin (by rw[I.ok.glob];exact I.mod.glob.keeps I.bk) hm (by rw[I.ok.blt];exact h1.keeps I.bk) ((h2 x hn).trans hv) h) hd
theorem zA2 (hg:Gl X x) (hm:X.mg x=some u) (r:RelV v u) (hd:(x==("__debug__":Str))=false:=by decide):PE X (.Name x pos) (tC v) :=
 λ_ _ _ H _ I h=>zc2 I hg hm ⟨v,H,I,r,h⟩ hd
theorem zI6 (hg:Gl X x) (hm:X.mg x=none) (hv:K55 x=some u) (r:RelV v u) (hn:x≠"__name__":=by decide) (hd:(x==("__debug__":Str))=false:=by decide):PE X (.Name x pos) (tC v) :=
 λ_ _ _ H _ I h=>z55 I hg hm hv ⟨v,H,I,r,h⟩ hn hd
variable {a b:Expr}{ta:TE}
def tB (t:TE):TT:=λσ H Q=>t σ H λx H1=>∃c,x=.bl c/\Q c H1
variable {tA tB':TT}{rest:List Expr}
def tAnd (t u:TT):TT:=λσ H Q=>t σ H λc H1=>if c=true then u σ H1 Q else Q false H1
def tOr (t u:TT):TT:=λσ H Q=>t σ H λc H1=>if c=true then Q true H1 else u σ H1 Q
def tNot (t:TT):TT:=λσ H Q=>t σ H λc H1=>Q (!c) H1
theorem zz3 (ha:PT X a tA):PW X (.BoolOp .And [a] pos) tA:=by
 intro wh pins s σ H Q I h;refine isTrue_and (thn (ha pins s σ H Q I h) λc s1 e=>?_);cases c with
 | true=>exact isTrue_and_nil e
 | false=>exact e
theorem zO5 (ha:PT X a tA):PW X (.BoolOp .Or [a] pos) tA:=by
 intro wh pins s σ H Q I h;refine isTrue_or (thn (ha pins s σ H Q I h) λc s1 e=>?_);cases c with
 | false=>exact isTrue_or_nil e
 | true=>exact e
theorem zQ7 (ha:PT X a tA) (hb:PW X (.BoolOp .And (b::rest) pos) tB'):PW X (.BoolOp .And (a::b::rest) pos) (tAnd tA tB'):=by
 intro wh pins s σ H Q I h;refine isTrue_and (thn (ha pins s σ H _ I h) λc s1 ⟨H1,I1,q1⟩=>?_);cases c with
 | true=>exact hb wh pins s1 σ H1 Q I1 q1
 | false=>exact⟨H1,I1,q1⟩
theorem Z0Q (ha:PT X a tA) (hb:PW X (.BoolOp .Or (b::rest) pos) tB'):PW X (.BoolOp .Or (a::b::rest) pos) (tOr tA tB'):=by
 intro wh pins s σ H Q I h;refine isTrue_or (thn (ha pins s σ H _ I h) λc s1 ⟨H1,I1,q1⟩=>?_);cases c with
 | true=>exact⟨H1,I1,q1⟩
 | false=>exact hb wh pins s1 σ H1 Q I1 q1
theorem zV8 (ha:PT X a tA):PT X (.UnaryOp .Not a pos) (tNot tA):=by
 intro pins s σ H Q I h;exact isTrue_not (ha pins s σ H (λc H1=>Q (!c) H1) I h)
def Z0r (ta tb:TE):TE:=λσ H Q=>ta σ H λx H1=>∃c,x=.bl c/\if c=true then tb σ H1 Q else Q (.bl false) H1
def tOrV (ta tb:TE):TE:=λσ H Q=>ta σ H λx H1=>∃c,x=.bl c/\if c=true then Q (.bl true) H1 else tb σ H1 Q
def Z0t (ta:TE):TE:=λσ H Q=>ta σ H λx H1=>∃c,x=.bl c/\Q (.bl (!c)) H1
theorem zX0 {op}{t:TE}(h:PE X a t):PE X (.BoolOp op [a] pos) t:=λpins s σ H Q I hw=>BoolOp_one (h pins s σ H Q I hw)
theorem zW6 (ha:PE X a ta) (hb:PE X (.BoolOp .And (b::rest) pos) tb):PE X (.BoolOp .And (a::b::rest) pos) (Z0r ta tb):=by
 intro pins s σ H Q I h;refine BoolOp_and (thn (ha pins s σ H _ I h) λv s1 ⟨x,H1,I1,r1,q1⟩=>?_);obtain⟨c,rfl,q1⟩:=q1;cases r1;refine K2c ?_;cases c with
 | true=>exact hb pins s1 σ H1 Q I1 q1
 | false=>exact⟨.bl false,H1,I1,rfl,q1⟩
theorem Z0u (ha:PE X a ta) (hb:PE X (.BoolOp .Or (b::rest) pos) tb):PE X (.BoolOp .Or (a::b::rest) pos) (tOrV ta tb):=by
 intro pins s σ H Q I h;refine BoolOp_or (thn (ha pins s σ H _ I h) λv s1 ⟨x,H1,I1,r1,q1⟩=>?_);obtain⟨c,rfl,q1⟩:=q1;cases r1;refine K2c ?_;cases c with
 | false=>exact hb pins s1 σ H1 Q I1 q1
 | true=>exact⟨.bl true,H1,I1,rfl,q1⟩
theorem Z09 (ha:PE X a ta):PE X (.UnaryOp .Not a pos) (Z0t ta):=by
 intro pins s σ H Q I h;refine UnaryOp_ (thn (ha pins s σ H _ I h) λv s1 ⟨x,H1,I1,r1,q1⟩=>?_);obtain⟨c,rfl,q1⟩:=q1;cases r1;exact not_of (K2c ⟨.bl (!c),H1,I1,rfl,q1⟩)
end
def SqL (K:K6) (H:Hp) (a:Addr) (xs:List V):Prop :=
 Rd H a (.lst xs) \/
  ∃(o:Obj) (its:Array Value) (n:Nat),K.lookup a=some o/\o.cls=.type "list"/\o.dict=none/\o.data=.seq its n/\its.size<=sizeLine/\Vals xs its.toList
def SqT (K:K6) (H:Hp) (a:Addr) (xs:List V):Prop :=
 Rd H a (.tup xs) \/
  ∃(o:Obj) (its:Array Value) (n:Nat),K.lookup a=some o/\(o.cls=.type "tuple"/\o.dict=none)/\o.data=.seq its n/\its.size<=sizeLine/\Vals xs its.toList
def absV:Value->Option V
 | .none=>some .non
 | .bool b=>some (.bl b)
 | .int i _=>some (.int i)
 | .str x _=>some (.str x)
 | .bytes b _=>some (.byt b)
 | .float b _=>some (.flt b)
 | .ref a=>some (.ref a)
 | .type n=>some (.ty n)
 | _=>none
theorem RelV.abs {x:V}(r:RelV x u):absV u=some x:=by
 cases x with
 | non=>cases r;rfl
 | bl _=>cases r;rfl
 | int _=>obtain⟨t,rfl⟩:=r;rfl
 | str _=>obtain⟨t,rfl⟩:=r;rfl
 | byt _=>obtain⟨t,rfl⟩:=r;rfl
 | flt _=>obtain⟨t,rfl⟩:=r;rfl
 | ref _=>cases r;rfl
 | ty _=>cases r;rfl
theorem RelV.inj {x y:V}{u:Value}(r:RelV x u) (q:RelV y u):x=y:=K1b (r.abs.symm.trans q.abs)
theorem Vals.inj:∀{xs ys:List V}{us:List Value},Vals xs us->Vals ys us->xs=ys
 | _,_,_,.nil,.nil=>rfl
 | _,_,_,.cons r t,.cons r' t'=>by rw[r.inj r',Vals.inj t t']
section
variable {ys:List V}
theorem SqL.of (h:H a=.(l xs)):SqL K H a xs:=.inl (.inl h)
theorem SqT.of (h:H a=.(g xs)):SqT K H a xs:=.inl (.inl h)
theorem Inv.list (I:Inv X pins σ H s) (h:SqL X.K H a xs):∃its:List Value,Vals xs its/\PlainL s.heap a its.toArray/\xs.length<=sizeLine:=by
 rcases h with h|⟨o,its,n,hk,hc,hd,hs,hz,r⟩
 ·obtain⟨z,its,n,r,e⟩:=h.ok I.hok;exact⟨its,r,⟨_,n,e,rfl,rfl,rfl⟩,z⟩
 ·refine⟨its.toList,r,⟨o,n,I.kIn a o hk,hc,hd,by simpa using hs⟩,?_⟩;have e:=.(k);simp only[K16]at e;omega
theorem Inv.tuple (I:Inv X pins σ H s) (h:SqT X.K H a xs):∃its:List Value,Vals xs its/\IsTup s.heap a its.toArray/\xs.length<=sizeLine:=by
 rcases h with h|⟨o,its,n,hk,hc,hs,hz,r⟩
 ·obtain⟨z,its,r,p⟩:=h.ok I.hok;exact⟨its,r,p.tup,z⟩
 ·refine⟨its.toList,r,⟨o,I.kIn a o hk,hc.1,n,by simpa using hs⟩,?_⟩;have e:=.(k);simp only[K16]at e;omega
theorem Inv.list_inj (I:Inv X pins σ H s) (h:SqL X.K H a xs) (h':SqL X.K H a ys):xs=ys:=by
 obtain⟨its,r,⟨o,n,e,_,_,d⟩,_⟩:=I.list h;obtain⟨its',r',⟨o',n',e',_,_,d'⟩,_⟩:=I.list h';rw[e]at e';cases e';rw[d]at d';injection d' with d1 _
 have:its=its':=by simpa using congrArg Z1z d1
 subst this;exact r.inj r'
theorem Inv.tuple_inj (I:Inv X pins σ H s) (h:SqT X.K H a xs) (h':SqT X.K H a ys):xs=ys:=by
 obtain⟨its,r,⟨o,e,_,n,d⟩,_⟩:=I.tuple h;obtain⟨its',r',⟨o',e',_,n',d'⟩,_⟩:=I.tuple h';rw[e]at e';cases e';rw[d]at d';injection d' with d1 _
 have:its=its':=by simpa using congrArg Z1z d1
 subst this;exact r.inj r'
end
abbrev Cx.wish (X:Cx) (E:Value->Shared->Prop):Cx:={ X with xe:=E }
abbrev Cx.nox (X:Cx):Cx:=X.wish λ_ _=>False
theorem Cx.Ok.wish {X:Cx}(ok:X.Ok) (E:Value->Shared->Prop):(X.wish E).Ok :=
 ⟨ok.mod,ok.kind,ok.glob,ok.blt,ok.above,ok.inj,ok.has,ok.cab,ok.hd,ok.frames,ok.stk,ok.exf,ok.bs,ok.bsz,ok.noex,ok.exfs,ok.funs,ok.frf⟩
theorem Cx.Ok.unwish (ok:(X.wish E).Ok):X.Ok :=
 ⟨ok.mod,ok.kind,ok.glob,ok.blt,ok.above,ok.inj,ok.has,ok.cab,ok.hd,ok.frames,ok.stk,ok.exf,ok.bs,ok.bsz,ok.noex,ok.exfs,ok.funs,ok.frf⟩
theorem Inv.wish (I:Inv X pins σ H s) (E:Value->Shared->Prop):Inv (X.wish E) pins σ H s:=⟨I.ok.wish E,I.os,I.bare,I.base,I.loc,I.cell,I.free,I.freeC,I.pin,I.hok,I.len⟩
theorem Inv.unwish (I:Inv (X.wish E) pins σ H s):Inv X pins σ H s:=⟨I.ok.unwish,I.os,I.bare,I.base,I.loc,I.cell,I.free,I.freeC,I.pin,I.hok,I.len⟩
theorem SP.unwish {D:Ends}{f:Flow}{s':Shared}(h:SP (X.wish E) pins D f s'):SP X pins D f s':=by
 cases f with
 | next=>obtain⟨σ',H',I,q⟩:=h;exact⟨σ',H',I.unwish,q⟩
 | brk=>obtain⟨σ',H',I,q⟩:=h;exact⟨σ',H',I.unwish,q⟩
 | cont=>obtain⟨σ',H',I,q⟩:=h;exact⟨σ',H',I.unwish,q⟩
 | ret u=>obtain⟨v,σ',H',I,r,q⟩:=h;exact⟨v,σ',H',I.unwish,r,q⟩
theorem PSs.nox {st:List Stmt}{t:TS}(h:PSs X.nox st t):PSs X st t:=λpins s σ H D I hw =>
 K4a (h pins s σ H D (I.wish _) hw) (λ_ _ q=>q.unwish) λ_ _ z=>K47 z
section
variable {st:Stmt}{rest:List Stmt}{t u:TS}
def Z0U:TS:=λD σ H=>D.nx σ H
def tSeq (t u:TS):TS:=λD σ H=>t { D with nx:=u D } σ H
theorem zL0:PSs X [] Z0U:=λ_ _ σ H _ I h=>wpAny_execs_nil ⟨σ,H,I,h⟩
theorem zn8 (h1:PS X st t) (h2:PSs X rest u):PSs X (st::rest) (tSeq t u):=by
 intro pins s σ H D I h;refine wpAny_execs_cons (thn (h1 pins s σ H { D with nx:=u D } I h) λf s1 q=>?_);cases f with
 | next =>
  obtain⟨σ',H',I',q⟩:=q;exact h2 pins s1 σ' H' D I' q
 | ret v=>exact q
 | brk=>exact q
 | cont=>exact q
theorem Inv.quiet (I:Inv X pins σ H s):interactive X.env=false:=by simp[interactive,I.ok.kind]
def Z15 (te:TE):TS:=λD σ H=>te σ H λ_ H1=>D.nx σ H1
theorem zA8 (he:PE X e te) (hs:K2d e none pos.line X.env=pure false:=by rfl):PS X (.Expr e pos) (Z15 te):=by
 intro pins s σ H D I h;exact wpAny_Expr_any (thn (he pins s σ H _ I h) λv s1 ⟨x,H1,I1,r1,q1⟩=>⟨σ,H1,I1,q1⟩) I.quiet hs
def tRet (te:TE):TS:=λD σ H=>te σ H D.rt
theorem zN5 (he:PE X e te):PS X (.Return (some e) pos) (tRet te):=by
 intro pins s σ H D I h;exact wpAny_Return_some (thn (he pins s σ H _ I h) λv s1 ⟨x,H1,I1,r1,q1⟩=>⟨x,σ,H1,I1,r1,q1⟩)
def tIfS (c:TT) (t u:TS):TS:=λD σ H=>c σ H λb H1=>if b=true then t D σ H1 else u D σ H1
theorem Z0x {a b:List Stmt}{tc:TT}(hc:PT X c tc) (ha:PSs X a t) (hb:PSs X b u):PS X (.If c a b pos) (tIfS tc t u):=by
 intro pins s σ H D I h;refine wpAny_If (thn (hc pins s σ H _ I h) λd s1 ⟨H1,I1,q1⟩=>?_);cases d with
 | true=>exact ha pins s1 σ H1 D I1 q1
 | false=>exact hb pins s1 σ H1 D I1 q1
end
abbrev TG:=V->St->Hp->(St->Hp->Prop)->Prop
abbrev TGs:=List V->St->Hp->(St->Hp->Prop)->Prop
def PG (X:Cx) (target:Expr) (t:TG):Prop :=
 ∀(pins:List .(x)) (s:Shared) (σ:St) (H:Hp) (v:V) (u:Value) (Q:St->Hp->Prop),Inv X pins σ H s->RelV v u->t v σ H Q ->
  wpAny .(6) X.A (assign target X.env u) (λ_ s'=>∃σ' H',Inv X pins σ' H' s'/\Q σ' H') X.xe s
def PGs (X:Cx) (ts:List Expr) (t:TGs):Prop :=
 ∀(pins:List .(x)) (s:Shared) (σ:St) (H:Hp) (vs:List V) (us:List Value) (Q:St->Hp->Prop),Inv X pins σ H s->Vals vs us->t vs σ H Q ->
  wpAny .(6) X.A (assignInOrder ((K2n ts X.env).map (·.2)) us) (λ_ s'=>∃σ' H',Inv X pins σ' H' s'/\Q σ' H') X.xe s
abbrev TSet:=V->V->V->Hp->(Hp->Prop)->Prop
def PSet (X:Cx) (t:TSet):Prop :=
 ∀(pins:List .(x)) (s:Shared) (σ:St) (H:Hp) (o i v:V) (ov iv u:Value) (Q:Hp->Prop),Inv X pins σ H s->RelV o ov->RelV i iv->RelV v u->t o i v H Q ->
  wpAny .(6) X.A (Z36 ov iv u) (λ_ s'=>∃H',Inv X pins σ H' s'/\Q H') X.xe s
def zN0 (i:Nat):TG:=λv σ H Q=>Q (σ.set i (some v)) H
theorem z7Z (hN:X.N.Nodup) (hi:X.N[i]?=some x) (hx:Loc X.env.scope x) (hf:X.fn x=true\/X.env.scope.names.lookup x=some .local:=by first|exact .inl rfl|exact .inr rfl|assumption):PG X (.Name x pos) (zN0 i):=by
 intro pins s σ H v u Q I r h;exact wpAny_assign_Name (z8h I hN hi hx r (λs' I'=>⟨_,H,I',h⟩) hf)
def gNil:TGs:=λvs σ H Q=>vs=[]/\Q σ H
def Z0Z (t:TG) (u:TGs):TGs:=λvs σ H Q=>∃v r,vs=v::r/\t v σ H λσ' H'=>u r σ' H' Q
theorem z9P:PGs X [] gNil:=by
 intro pins s σ H vs us Q I r h;obtain⟨e,h⟩:=h;subst e;cases r;exact assignInOrder_nil ⟨σ,H,I,h⟩
theorem z8g {t:TG}{u:TGs}(h1:PG X e t) (h2:PGs X es u)
 (hs:(K2n (e::es) X.env).map (·.2)=assign e X.env::(K2n es X.env).map (·.2):=by rfl):PGs X (e::es) (Z0Z t u):=by
 intro pins s σ H vs us Q I r h;obtain⟨v,vr,e1,h⟩:=h;subst e1;cases r with
 | cons r rr =>
  rw[hs];refine assignInOrder_cons (thn (h1 pins s σ H _ _ _ I r h) λ_ s1 ⟨σ1,H1,I1,q1⟩=>?_);exact h2 pins s1 σ1 H1 _ _ Q I1 rr q1
def gTup (K:K6) (n:Nat) (t:TGs):TG:=λv σ H Q=>∃a xs,v=.ref a/\SqT K H a xs/\xs.length=n/\t xs σ H Q
theorem zv7 {k:Nat}{t:TGs}{n:Nat}(hc:X.calm=true) (h:PGs X es t)
 (hn:(K2n es X.env).length=n:=by rfl) (hst:(K2n es X.env).findIdx? (·.1)=none:=by rfl):PG X (.Tuple es k pos) (gTup X.K n t):=by
 intro pins s σ H v u Q I r hw;obtain⟨a,xs,e1,hq,hl,hw⟩:=hw;subst e1;cases r;obtain⟨its,rv,ht,hz⟩:=I.tuple hq;refine assign_Tuple_tuple (I.ok.hd hc) ht (by simp[hn,<- hl,rv.length]) hst λh' hx=>?_;have I1:Inv X pins σ H { s with heap:=h' }:=I.kept (t':=s.toks) λb o e=>hx b o (K0o (K0e e)) e;exact h pins _ σ H xs _ Q I1 (by simpa using rv) hw
def gSub (to ti:TE) (t:TSet):TG:=λv σ H Q=>to σ H λo H1=>ti σ H1 λi H2=>t o i v H2 λH3=>Q σ H3
theorem zv3 {o i:Expr}{to ti:TE}{t:TSet}(ho:PE X o to) (hi:PE X i ti) (hs:PSet X t)
 (ha:∀v,assign (.Subscript o i pos) X.env v=(do
  let ov <- K44 [v] (eval o X.env);let iv <- K44 [v,ov] (eval i X.env)
  K5k pos
  K44 [v,ov,iv] (Z36 ov iv v)
  release [v,ov,iv] []):=by intro _;rfl):PG X (.Subscript o i pos) (gSub to ti t):=by
 intro pins s σ H v u Q I r h;rw[ha];refine K0 (K22 (thn (ho pins s σ H _ I h) λov s1 ⟨x,H1,I1,r1,q1⟩=>?_));refine K0 (K22 (thn (hi pins s1 σ H1 _ I1 q1) λiv s2 ⟨y,H2,I2,r2,q2⟩=>?_));refine K0 (K4q (K0 (K22 (thn (hs pins s2 σ H2 x y v ov iv u _ I2 r1 r2 r q2) λ_ s3 ⟨H3,I3,q3⟩=>?_))));exact wpAny_release ⟨σ,H3,I3,q3⟩
def tAsg (te:TE) (g:TG):TS:=λD σ H=>te σ H λx H1=>g x σ H1 D.nx
theorem zR6 {g:TG}(he:PE X e te) (hg:PG X tg g) (hs:swapsWithSole [tg] e pos.line X.env=pure false:=by rfl) (hw:swappedStores [tg] e X.env=pure none:=by rfl)
 (h1:(K2n [tg] X.env).map (·.2)=[assign tg X.env]:=by rfl):PS X (.Assign [tg] e pos) (tAsg te g):=by
 intro pins s σ H D I h;refine wpAny_Assign_stores (thn (he pins s σ H _ I h) λv s1 ⟨x,H1,I1,r1,q1⟩=>?_) hs hw;rw[h1];exact thn (hg pins s1 σ H1 x v _ I1 r1 q1) λ_ s2 q=>q
theorem zS5 {pos':Pos}(hN:X.N.Nodup) (hi:X.N[i]?=some x) (hx:Loc X.env.scope x) (he:PE X e te) (hs:K2d e (some (.Name x pos')) pos.line X.env=pure false:=by rfl) (hf:X.fn x=true\/X.env.scope.names.lookup x=some .local:=by first|exact .inl rfl|exact .inr rfl|assumption):
 PS X (.Assign [.Name x pos'] e pos) (tAsg te (zN0 i)):=by
 intro pins s σ H D I h;refine wpAny_Assign_Name (thn (he pins s σ H _ I h) λv s1 ⟨y,H1,I1,r1,q1⟩=>?_) hs;exact z8h I1 hN hi hx r1 (λs2 I2=>⟨_,H1,I2,q1⟩) hf
structure It where
 go:Nat->Hp->Prop
 yld:Nat->Hp->V->Hp->Prop
 stop:Nat->Hp->Prop
def FpOk (X:Cx) (pins:List .(x)) (H:Hp) (b:Addr):Prop :=
 H b=none/\b≠X.env.locals/\b∉X.fs/\(b∈X.ex\/X.s₀.heap.objs.size<=b)/\(∀x c,X.env.cells.lookup x=some c->c≠b)/\∀p∈X.pn++pins,p.1≠b
theorem Inv.fpOk (I:Inv X pins σ H s) (hb:s.heap.objs.size<=b) (hn:H' b=none):FpOk X pins H' b:=by
 refine⟨hn,K26 (K0l I.lt hb),I.nofs hb,.inr (K0d I.sz hb),λx c e z=>?_,λp hp z=>?_⟩
 ·obtain⟨v,q⟩:=I.cell x c e;exact absurd (K0l q.lt (by rw[z];exact hb)) (K2k _)
 ·exact absurd (K0l (K0e (I.pin p hp).1) (by rw[z];exact hb)) (K2k _)
structure Turn (P:K1h) (w:World) (K:K6) (tg:Expr) (J:It) (fp:List Addr) (it:Addr) (tn:Nat->Heap->Prop):Prop where
 mem:it∈fp
 obj:∀i h,tn i h->∀b∈fp,∃o,h.get? b=some o/\∀v,o.data≠.cell v
 keep:∀i h h',tn i h->(∀b∈fp,∀o,h.get? b=some o->h'.get? b=some o)->tn i h'
 item:∀(X:Cx),X.prog=P->X.w=w->X.K=K->X.calm=true->∀(i:Nat) (pins:List .(x)) (s:Shared) (σ:St) (H:Hp) (E:Value->Shared->Prop),Inv X pins σ H s->(∀b∈fp,FpOk X pins H b)->tn i s.heap->J.go i H ->
  wpAny (model P w) X.A (pyNext (.ref it)) (λr s1=>∃u,r=some u /\
   wpAny (model P w) X.A (K4n tg (.ref it) u) (λ_ s2=>∃x H',Inv X pins σ H' s2/\RelV x u/\J.yld i H x H'/\tn (i+1) s2.heap/\∀b∈fp,H' b=none) E s1) E s
 done:∀(X:Cx),X.prog=P->X.w=w->X.K=K->X.calm=true->∀(i:Nat) (pins:List .(x)) (s:Shared) (σ:St) (H:Hp) (E:Value->Shared->Prop),Inv X pins σ H s->(∀b∈fp,FpOk X pins H b)->tn i s.heap->J.stop i H ->
  wpAny (model P w) X.A (pyNext (.ref it)) (λr s1=>r=none/\Inv X pins σ H s1) E s
 self:∀(A:Around) (i:Nat) (s:Shared) (Q:Value->Shared->Prop) (E:Value->Shared->Prop),tn i s.heap->Q (.ref it) s->wpAny (model P w) A (pyIter (.ref it)) Q E s
abbrev TI:=St->Hp->(It->Hp->Prop)->Prop
def PIE (X:Cx) (pins:List .(x)) (σ:St) (tg:Expr) (R:It->Hp->Prop) (itv:Value) (s2:Shared):Prop :=
 ∃(it:Addr) (fp:List Addr) (tn:Nat->Heap->Prop) (J:It) (H':Hp),itv=.ref it/\Inv X pins σ H' s2/\Turn X.prog X.w X.K tg J fp it tn/\tn 0 s2.heap/\(∀b∈fp,FpOk X pins H' b)/\R J H'
def PI (X:Cx) (tg iter:Expr) (wi:TI):Prop :=
 ∀(pins:List .(x)) (s:Shared) (σ:St) (H:Hp) (R:It->Hp->Prop),Inv X pins σ H s->wi σ H R ->
  wpAny .(6) X.A (eval iter X.env) (λv s1=>wpAny .(6) X.A (pyIter v) (PIE X pins σ tg R) X.xe s1) X.xe s
theorem zp3 {M:Model}{A:Around}{E:Value->Shared->Prop}{tg:Expr}{u:Value}{o:Obj}{n:String}{vs:Array Value}{Q:Unit->Shared->Prop}(ho:s.heap.get? it=some o) (hc:o.cls=.type n) (hd:o.data=.fields vs)
 (hn:["enumerate","zip","dict_itemiterator","dict_reverseitemiterator","odict_iterator","itertools.zip_longest","itertools.pairwise"].contains n=false) (hQ:Q () s):wpAny M A (K4n tg (.ref it) u) Q E s:=by
 unfold K4n;cases tg<;>first
  | exact K8 hQ
  | (cases u<;>first
      | exact K8 hQ
      | (refine K0 (K8q ho ?_)
         rw[hc,hd];show wpAny M A (if (["enumerate","zip","dict_itemiterator","dict_reverseitemiterator","odict_iterator","itertools.zip_longest","itertools.pairwise"].contains n&&vs[0]?==some (rawInt _))=true then _ else _) Q E s;rw[if_neg (by intro h;rw[hn,K31]at h;cases h)];exact K8 hQ))
def Itl (K:K6) (a:Addr):It :=
 ⟨λi H=>∃xs x,SqL K H a xs/\xs[i]?=some x,λi H x H'=>H'=H/\∀xs,SqL K H a xs->xs[i]?=some x,λi H=>∃xs,SqL K H a xs/\xs.length<=i⟩
def Itt (K:K6) (a:Addr):It :=
 ⟨λi H=>∃xs x,SqT K H a xs/\xs[i]?=some x,λi H x H'=>H'=H/\∀xs,SqT K H a xs->xs[i]?=some x,λi H=>∃xs,SqT K H a xs/\xs.length<=i⟩
def Itr (lo:Int) (n:Nat):It:=⟨λi _=>i<n,λi H x H'=>H'=H/\x=.int (lo+i),λi _=>n<=i⟩
theorem zm2 (a it:Addr):Turn P w K tg (Itl K a) [it] it (λi h=>h.IsListIter it a i) where
 mem:=by simp
 obj:=λi h st b hb=>by
  have e:b=it:=by simpa using hb
  subst e;obtain⟨o,e,c,d⟩:=st;exact⟨o,e,λv z=>by rw[d]at z;cases z⟩
 keep:=λi h h' st k=>st.at λo e=>k it .(f) o e
 item:=by
  intro X hP hw hK hc i pins s σ H E I hf st hg;subst hP hw hK;obtain⟨xs,x,hq,hx⟩:=hg;obtain⟨its,rv,p,hz⟩:=I.list hq;obtain⟨u,hu,ru⟩:=rv.get hx;obtain⟨f0,f1,f2,f3,f4,f5⟩:=hf it .(f);refine wpAny_pyNext_list_item st p.isList (x:=u) (by simpa using hu) λh' st' sb=>?_;have I1:Inv X pins σ H { s with heap:=h' }:=I.turned (t':=s.toks) (λb o hb e=>(sb.2 b hb).trans e) f0 f1 f3 f4 f5;obtain⟨o,e,c,d⟩:=id st';exact⟨u,rfl,zp3 (s:={ s with heap:=h' }) e c d .(1) ⟨x,H,I1,ru,⟨rfl,λys hy=>by rw[I.list_inj hy hq];exact hx⟩,st',λb hb=>(hf b hb).1⟩⟩
 done:=by
  intro X hP hw hK hc i pins s σ H E I hf st hg;subst hP hw hK;obtain⟨xs,hq,hx⟩:=hg;obtain⟨its,rv,p,hz⟩:=I.list hq;obtain⟨f0,f1,f2,f3,f4,f5⟩:=hf it .(f);have hl:=rv.length;exact wpAny_pyNext_list_end (I.ok.hd hc) st p.isList (by simp;omega) λh' eb=>⟨rfl,I.turned (t':=s.toks) (λb o hb e=>eb b o hb e) f0 f1 f3 f4 f5⟩
 self:=λ_ _ _ _ _ st h=>wpAny_pyIter_listiter st h
theorem z9z (a it:Addr):Turn P w K tg (Itt K a) [it] it (λi h=>h.IsTupleIter it a i) where
 mem:=by simp
 obj:=λi h st b hb=>by
  have e:b=it:=by simpa using hb
  subst e;obtain⟨o,e,c,d⟩:=st;exact⟨o,e,λv z=>by rw[d]at z;cases z⟩
 keep:=λi h h' st k=>st.at λo e=>k it .(f) o e
 item:=by
  intro X hP hw hK hc i pins s σ H E I hf st hg;subst hP hw hK;obtain⟨xs,x,hq,hx⟩:=hg;obtain⟨its,rv,p,hz⟩:=I.tuple hq;obtain⟨u,hu,ru⟩:=rv.get hx;obtain⟨f0,f1,f2,f3,f4,f5⟩:=hf it .(f);refine wpAny_pyNext_tuple_item st (show s.heap.IsTuple a its.toArray from p) (x:=u) (by simpa using hu) λh' st' sb=>?_;have I1:Inv X pins σ H { s with heap:=h' }:=I.turned (t':=s.toks) (λb o hb e=>(sb.2 b hb).trans e) f0 f1 f3 f4 f5;obtain⟨o,e,c,d⟩:=id st';exact⟨u,rfl,zp3 (s:={ s with heap:=h' }) e c d .(1) ⟨x,H,I1,ru,⟨rfl,λys hy=>by rw[I.tuple_inj hy hq];exact hx⟩,st',λb hb=>(hf b hb).1⟩⟩
 done:=by
  intro X hP hw hK hc i pins s σ H E I hf st hg;subst hP hw hK;obtain⟨xs,hq,hx⟩:=hg;obtain⟨its,rv,p,hz⟩:=I.tuple hq;obtain⟨f0,f1,f2,f3,f4,f5⟩:=hf it .(f);have hl:=rv.length;exact wpAny_pyNext_tuple_end (I.ok.hd hc) st (show s.heap.IsTuple a its.toArray from p) (by simp;omega) λh' eb=>⟨rfl,I.turned (t':=s.toks) (λb o hb e=>eb b o hb e) f0 f1 f3 f4 f5⟩
 self:=λ_ _ _ _ _ st h=>wpAny_pyIter_tupleiter st h
theorem z9c (it:Addr) (lo:Int) (n:Nat):Turn P w K tg (Itr lo n) [it] it (λi h=>IsRangeIter h it (lo+(i:Nat) * 1) ((n:Int) - (i:Nat)) 1) where
 mem:=by simp
 obj:=λi h st b hb=>by
  have e:b=it:=by simpa using hb
  subst e;exact⟨_,st,λv z=>by
   have z':Data.fields _=Data.cell v:=z;cases z'⟩
 keep:=λi h h' st k=>k it .(f) _ st
 item:=by
  intro X hP hw hK hc i pins s σ H E I hf st hg;subst hP hw hK;obtain⟨f0,f1,f2,f3,f4,f5⟩:=hf it .(f);have W:=Walks.range (prog:=X.prog) (w:=X.w) (I.ok.hd hc) it lo 1 n;refine W.item i s _ _ hg st λv h' tk hv st' kk=>?_;obtain⟨t,rfl⟩:=hv;have I1:Inv X pins σ H { s with heap:=h',toks:=tk }:=I.turned (λb o hb e=>kk b o (by simpa using hb) e) f0 f1 f3 f4 f5;refine⟨_,rfl,zp3 (s:={ s with heap:=h',toks:=tk }) (n:="range_iterator") st' rfl rfl .(1) ⟨.int (lo+i),H,I1,⟨t,?_⟩,⟨rfl,rfl⟩,st',λb hb=>(hf b hb).1⟩⟩;rw[Int.mul_one]
 done:=by
  intro X hP hw hK hc i pins s σ H E I hf st hg;subst hP hw hK;obtain⟨f0,f1,f2,f3,f4,f5⟩:=hf it .(f);exact wpAny_pyNext_range_end (I.ok.hd hc) st (by have:n<=i:=hg;omega) λh' eb=>⟨rfl,I.turned (t':=s.toks) (λb o hb e=>eb b o hb e) f0 f1 f3 f4 f5⟩
 self:=λ_ _ _ _ _ st h=>wpAny_pyIter_rangeiter st h
def Z0G (K:K6) (tl:TE):TI:=λσ H R=>tl σ H λx H1=>∃a,x=.ref a/\(∃xs,SqL K H1 a xs)/\R (Itl K a) H1
def iTup (K:K6) (tl:TE):TI:=λσ H R=>tl σ H λx H1=>∃a,x=.ref a/\(∃xs,SqT K H1 a xs)/\R (Itt K a) H1
theorem zE5 {tl:TE}(hl:PE X l tl):PI X tg l (Z0G X.K tl):=by
 intro pins s σ H R I h;refine thn (hl pins s σ H _ I h) λv s1 ⟨x,H1,I1,r1,q1⟩=>?_;obtain⟨a,e,⟨xs,hq⟩,q⟩:=q1;subst e;cases r1;obtain⟨its,rv,p,hz⟩:=I1.list hq;refine K37 p.isList ?_;refine⟨.(j),[.(j)],_,_,H1,rfl,I1.kept (t':=s1.toks) λb o e=>K7 _ e,zm2 a _,⟨_,K0a _ rfl,rfl,rfl⟩,λb hb=>?_,q⟩;have e:b=s1.heap.objs.size:=by simpa using hb
 subst e;exact I1.fpOk (K01 _) (I1.hok.fresh (K01 _))
theorem zS3 {tl:TE}(hl:PE X l tl):PI X tg l (iTup X.K tl):=by
 intro pins s σ H R I h;refine thn (hl pins s σ H _ I h) λv s1 ⟨x,H1,I1,r1,q1⟩=>?_;obtain⟨a,e,⟨xs,hq⟩,q⟩:=q1;subst e;cases r1;obtain⟨its,rv,p,hz⟩:=I1.tuple hq;refine K4i (show s1.heap.IsTuple a its.toArray from p) ?_;refine⟨.(j),[.(j)],_,_,H1,rfl,I1.kept (t':=s1.toks) λb o e=>K7 _ e,z9z a _,⟨_,K0a _ rfl,rfl,rfl⟩,λb hb=>?_,q⟩;have e:b=s1.heap.objs.size:=by simpa using hb
 subst e;exact I1.fpOk (K01 _) (I1.hok.fresh (K01 _))
theorem zo5 {R:It->Hp->Prop}{E:Value->Shared->Prop}{hi:Int}{t u v:Tok}{tk:Nat}(I:Inv X pins σ H s) (h1:-(2 ^ 62)<=lo) (h2:lo<2 ^ 62) (h3:-(2 ^ 62)<=hi) (h4:hi<2 ^ 62)
 (q:R (Itr lo (hi - lo).toNat) H):wpAny .(6) X.A (pyIter (.ref .(5))) (PIE X pins σ tg R) E { s with heap:=s.heap.push { cls:=.type "range",data:=.fields #[.int lo t,.int hi u,.int 1 v] },toks:=tk }:=by
 refine wpAny_pyIter_range (Z28.new ..) (small_one h1 h2 h3 h4) ?_;have I1:Inv X pins σ H { s with heap:=s.heap.push { cls:=.type "range",data:=.fields #[.int lo t,.int hi u,.int 1 v] },toks:=tk }:=I.kept λb o e=>K7 _ e;refine⟨(s.heap.push { cls:=.type "range",data:=.fields #[.int lo t,.int hi u,.int 1 v] }).objs.size,[(s.heap.push { cls:=.type "range",data:=.fields #[.int lo t,.int hi u,.int 1 v] }).objs.size],_,_,H,rfl,
  I1.kept (t':=tk) λb o e=>K7 _ e,z9c _ lo (hi - lo).toNat,?_,λb hb=>?_,q⟩
 ·have e1:lo+((0:Nat):Int) * 1=lo:=by simp
  have e2:(((hi - lo).toNat:Nat):Int) - ((0:Nat):Int)=K34 lo hi 1:=by rw[rangeSize_one];split<;>omega
  show IsRangeIter _ _ (lo+((0:Nat):Int) * 1) ((((hi - lo).toNat:Nat):Int) - ((0:Nat):Int)) 1;rw[e1,e2];exact K0a _ rfl
 ·have e:b=(s.heap.push { cls:=.type "range",data:=.fields #[.int lo t,.int hi u,.int 1 v] }).objs.size:=by simpa using hb
  subst e;exact I1.fpOk (K01 _) (I1.hok.fresh (K01 _))
def Z1a (ta:TA):TI:=λσ H R=>ta σ H λvs H1=>∃j:Int,vs=[.int j]/\-(2 ^ 62)<=j/\j<2 ^ 62/\R (Itr 0 j.toNat) H1
theorem ze0 {a:Expr}{ta:TA}(hg:Gl X "range") (hm:X.mg "range" = none) (ha:PA X [a] ta) (hs:K0g [a] X.env=[(false,eval a X.env)]:=by rfl):PI X tg (.Call (.Name "range" p) [a] [] pos) (Z1a ta):=by
 intro pins s σ H R I h;refine Call_ (z55 I hg hm boot_range (K3f (thn (ha pos pins s σ H _ I h) λus s1 ⟨vs,H1,I1,r1,q1⟩=>?_) hs rfl));obtain⟨j,e,q1,q2,q⟩:=q1;subst e;cases r1 with
 | cons r rr =>
  cases rr;obtain⟨t,rfl⟩:=r;exact call_range_1 (zo5 I1 .(0) .(0) q1 q2 (by simpa using q))
def tFor (wi:TI) (g:TG) (tb:TS):TS:=λD σ H=>wi σ H λJ H1=>∃W:Nat->Nat->St->Hp->Prop,(∃m,W 0 m σ H1)/\∀i m σ H,W i m σ H ->
 (J.stop i H/\D.nx σ H)\/(J.go i H/\∃N:St->Hp->Prop,(∀σ' H',N σ' H'->∃m',m'<m/\W (i+1) m' σ' H')/\∀x H',J.yld i H x H'->g x σ H' λσ2 H2=>tb { D with nx:=N,ct:=N,bk:=D.nx } σ2 H2)
def z70 (fp:List Addr) (h:Heap):List .(x):=fp.filterMap λb=>(h.get? b).map λo=>(b,o)
theorem z2G {o:Obj}(hb:b∈fp) (e:h.get? b=some o):(b,o)∈z70 fp h:=List.mem_filterMap.mpr ⟨b,hb,by rw[e];rfl⟩
theorem za2 {p:Addr×Obj}(hp:p∈z70 fp h):p.1∈fp/\h.get? p.1=some p.2:=by
 obtain⟨b,hb,e⟩:=List.mem_filterMap.mp hp;cases q:h.get? b with
 | none=>rw[q]at e;cases e
 | some o =>
  rw[q]at e;have e':(b,o)=p:=K1b e;subst e';exact⟨hb,q⟩
theorem Inv.pinned (I:Inv X pins σ H s) (hf:∀b∈fp,FpOk X pins H b) (ho:∀b∈fp,∃o,s.heap.get? b=some o/\∀v,o.data≠.cell v):Inv X (pins++z70 fp s.heap) σ H s :=
 I.pins_of λp hp=>(K0i.mp hp).elim (λz=>I.pin p (K0t _ z)) λz=>by
  obtain⟨hb,e⟩:=za2 z;obtain⟨f0,f1,f2,_⟩:=hf p.1 hb;obtain⟨o,e',d⟩:=ho p.1 hb;rw[e]at e';cases e';exact⟨e,f0,f1,f2,d⟩
theorem Inv.unpinned {pl:List .(x)}(I:Inv X (pins++pl) σ H s):Inv X pins σ H s:=I.pins_of λp hp=>I.pin p (K0t _ (K1k _ hp))
theorem zQ6 {iter:Expr}{wi:TI}{g:TG}{tb:TS}{pos:Pos}(hp:PassesOwn .(6) X.A X.env X.xe) (hc:X.calm=true) (hi:PI X tg iter wi) (hg:PG X tg g) (hb:PSs X body tb)
 (hs:∀x,K1d iter X.env x=pure x:=by intro _;rfl):PS X (.For tg iter body [] pos) (tFor wi g tb):=by
 intro pins s σ H D I h;refine wpAny_For (thn (hi pins s σ H _ I h) λv s1 h1=>thn h1 λitv s2 h2=>?_) hs;obtain⟨it,fp,tn,J,H2,e,I2,T,st2,f2,W,⟨m0,w0⟩,turn⟩:=h2;subst e;have stat:∀{H':Hp},(∀b∈fp,H' b=none)->∀b∈fp,FpOk X pins H' b:=λhn b hb=>⟨hn b hb,(f2 b hb).2⟩;refine codeAny_forLoop_any (λn s'=>∃i σ' H',Inv X pins σ' H' s'/\tn i s'.heap/\(∀b∈fp,H' b=none)/\W i n σ' H') ?_ m0 ⟨0,σ,H2,I2,st2,λb hb=>(f2 b hb).1,w0⟩;rintro n s3 ⟨i,σ3,H3,I3,st3,fr3,w3⟩;rcases turn i n σ3 H3 w3 with ⟨stop,qn⟩|⟨go,N,hN,step⟩
 ·refine K5m hp (thn (T.done X rfl rfl rfl hc i pins s3 σ3 H3 X.xe I3 (stat fr3) st3 stop) λr s4 ⟨hr,I4⟩=>?_);subst hr;exact wpAny_execs_nil ⟨σ3,H3,I4,qn⟩
 ·refine K5m hp (thn (T.item X rfl rfl rfl hc i pins s3 σ3 H3 X.xe I3 (stat fr3) st3 go) λr s4 ⟨u,hr,h4⟩=>?_);subst hr;refine K5m hp (thn h4 λ_ s5 ⟨x,H5,I5,r5,y5,st5,fr5⟩=>?_);have I5':=I5.pinned (stat fr5) (T.obj _ _ st5);refine K5m hp (thn (hg _ s5 σ3 H5 x u _ I5' r5 (step x H5 y5)) λ_ s6 ⟨σ6,H6,I6,q6⟩=>?_);refine K5m hp (thn (hb _ s6 σ6 H6 _ I6 q6) λf s7 q7=>?_);have again:∀{σ7:St} {H7:Hp},Inv X (pins++z70 fp s5.heap) σ7 H7 s7->N σ7 H7->∃m,m<n/\∃i σ' H',Inv X pins σ' H' s7/\tn i s7.heap/\(∀b∈fp,H' b=none)/\W i m σ' H':=λ{σ7 H7} I7 n7=>by
   obtain⟨m',hm,w7⟩:=hN σ7 H7 n7;refine⟨m',hm,i+1,σ7,H7,I7.unpinned,T.keep _ _ _ st5 λb hb o e=>(I7.pin (b,o) (K0t _ (K0t _ (z2G hb e)))).1,λb hb=>?_,w7⟩;obtain⟨o,e,d⟩:=T.obj _ _ st5 b hb;exact(I7.pin (b,o) (K0t _ (K0t _ (z2G hb e)))).2.1
  cases f with
  | next=>obtain⟨σ7,H7,I7,n7⟩:=q7;exact again I7 n7
  | cont=>obtain⟨σ7,H7,I7,n7⟩:=q7;exact again I7 n7
  | brk=>obtain⟨σ7,H7,I7,q7⟩:=q7;exact⟨σ7,H7,I7.unpinned,q7⟩
  | ret v=>obtain⟨x7,σ7,H7,I7,r7,q7⟩:=q7;exact⟨x7,σ7,H7,I7.unpinned,r7,q7⟩
theorem z0i {lo:Int}{n:Nat}{g:TG}{tb:TS}{D:Ends}(Pv:Nat->St->Hp->Prop) (h0:Pv 0 σ H)
 (hs:∀i σ H,i<n->Pv i σ H->g (.int (lo+i)) σ H λσ2 H2=>tb { D with nx:=Pv (i+1),ct:=Pv (i+1),bk:=D.nx } σ2 H2) (hd:∀σ H,Pv n σ H->D.nx σ H) :
 ∃W:Nat->Nat->St->Hp->Prop,(∃m,W 0 m σ H)/\∀i m σ H,W i m σ H ->
  ((Itr lo n).stop i H/\D.nx σ H)\/((Itr lo n).go i H/\∃N:St->Hp->Prop,(∀σ' H',N σ' H'->∃m',m'<m/\W (i+1) m' σ' H')/\∀x H',(Itr lo n).yld i H x H'->g x σ H' λσ2 H2=>tb { D with nx:=N,ct:=N,bk:=D.nx } σ2 H2):=by
 refine⟨λi m σ H=>m=n - i/\i<=n/\Pv i σ H,⟨n,by simp,K3j _,h0⟩,?_⟩;rintro i m σ H ⟨rfl,hi,p⟩;by_cases hlt:i<n
 ·refine .inr ⟨hlt,Pv (i+1),λσ' H' p'=>⟨n - (i+1),by omega,rfl,hlt,p'⟩,λx H' y=>?_⟩;obtain⟨e,y⟩:=y;subst e y;exact hs i σ _ hlt p
 ·have e:i=n:=by omega
  subst e;exact .inl ⟨K01 _,hd σ H p⟩
abbrev R2:=V->V->Hp->VK->Prop
def OpR (X:Cx) (f:Value->Value->Sem Value) (r:R2):Prop :=
 ∀(pins:List .(x)) (s:Shared) (σ:St) (H:Hp) (x y:V) (v u:Value) (Q:VK),Inv X pins σ H s->RelV x v->RelV y u->r x y H Q ->
  wpAny .(6) X.A (f v u) (EP X pins σ Q) X.xe s
def UnR (X:Cx) (f:Value->Sem Value) (r:V->Hp->VK->Prop):Prop :=
 ∀(pins:List .(x)) (s:Shared) (σ:St) (H:Hp) (x:V) (v:Value) (Q:VK),Inv X pins σ H s->RelV x v->r x H Q ->
  wpAny .(6) X.A (f v) (EP X pins σ Q) X.xe s
def z2C (X:Cx) (f:Value) (r:List V->Hp->VK->Prop):Prop :=
 ∀(pins:List .(x)) (s:Shared) (σ:St) (H:Hp) (xs:List V) (us:List Value) (Q:VK),Inv X pins σ H s->Vals xs us->r xs H Q ->
  wpAny .(6) X.A (call f us) (EP X pins σ Q) X.xe s
def TruR (X:Cx) (r:V->Hp->(Bool->Hp->Prop)->Prop):Prop :=
 ∀(pins:List .(x)) (s:Shared) (σ:St) (H:Hp) (x:V) (v:Value) (Q:Bool->Hp->Prop),Inv X pins σ H s->RelV x v->r x H Q ->
  wpAny .(6) X.A (truthy v) (TP X pins σ Q) X.xe s
def tOp (r:R2) (ta tb:TE):TE:=λσ H Q=>ta σ H λx H1=>tb σ H1 λy H2=>r x y H2 Q
def tUn (r:V->Hp->VK->Prop) (ta:TE):TE:=λσ H Q=>ta σ H λx H1=>r x H1 Q
def rI (C:Int->Int->Prop) (g:Int->Int->V):R2:=λx y H Q=>∃i j,x=.int i/\y=.int j/\C i j/\Q (g i j) H
def rI0 (g:Int->Int->V):R2:=λx y H Q=>∃i j,x=.int i/\y=.int j/\Q (g i j) H
def rU (g:Int->V):V->Hp->VK->Prop:=λx H Q=>∃i,x=.int i/\Q (g i) H
section
variable {a b:Expr}{ta tc:TE}
theorem binT (ha:PE X a ta) (hb:PE X b tb){R:V->V->Hp->Prop}(I:Inv X pins σ H s)
 (h:ta σ H λx H1=>tb σ H1 λy H2=>R x y H2) {Q:Value->Shared->Prop} {f:Value->Value->Sem Value}
 (hf:∀v u s2 x y H2,Inv X pins σ H2 s2->RelV x v->RelV y u->R x y H2->wpAny .(6) X.A (f v u) Q X.xe s2) :
 wpAny .(6) X.A (eval a X.env) (λv s₁=>wpAny .(6) X.A (eval b X.env) (λu s₂=>wpAny .(6) X.A (f v u) Q X.xe s₂) X.xe s₁) X.xe s:=by
 refine thn (ha pins s σ H _ I h) λv s1 ⟨x,H1,I1,r1,q1⟩=>?_;refine thn (hb pins s1 σ H1 _ I1 q1) λu s2 ⟨y,H2,I2,r2,q2⟩=>?_;exact hf v u s2 x y H2 I2 r1 r2 q2
theorem Z0g {op:Operator}{r:R2}(ho:OpR X (K3c op) r) (ha:PE X a ta) (hb:PE X b tb):PE X (.BinOp a op b pos) (tOp r ta tb):=by
 intro pins s σ H Q I h;exact wpAny_BinOp (binT ha hb I h λv u s2 x y H2 I2 rx ry q=>ho pins s2 σ H2 x y v u Q I2 rx ry q)
theorem Z12 {op:UnaryOp}{r:V->Hp->VK->Prop}(ho:UnR X (unaryOp op) r) (ha:PE X a ta):PE X (.UnaryOp op a pos) (tUn r ta):=by
 intro pins s σ H Q I h;exact UnaryOp_ (thn (ha pins s σ H _ I h) λv s1 ⟨x,H1,I1,r1,q1⟩=>ho pins s1 σ H1 x v Q I1 r1 q1)
theorem opI {f:Value->Value->Sem Value}{C:Int->Int->Prop}{g:Int->Int->Int}
 (rule:∀(i j:Int) (t u:Tok) (s:Shared) (Q:Value->Shared->Prop) (E:Value->Shared->Prop),C i j->Q (.int (g i j) s.toks) { s with toks:=s.toks+1 }->wpAny .(6) X.A (f (.int i t) (.int j u)) Q E s) :
 OpR X f (rI C λi j=>.int (g i j)):=by
 intro pins s σ H x y v u Q I rx ry h;obtain⟨i,j,rfl,rfl,hc,q⟩:=h;obtain⟨t,rfl⟩:=rx;obtain⟨t',rfl⟩:=ry;exact rule i j t t' s _ _ hc ⟨.int (g i j),H,I.tok _,⟨_,rfl⟩,q⟩
theorem opI0 {f:Value->Value->Sem Value}{g:Int->Int->Int}
 (rule:∀(i j:Int) (t u:Tok) (s:Shared) (Q:Value->Shared->Prop) (E:Value->Shared->Prop),Q (.int (g i j) s.toks) { s with toks:=s.toks+1 }->wpAny .(6) X.A (f (.int i t) (.int j u)) Q E s) :
 OpR X f (rI0 λi j=>.int (g i j)):=by
 intro pins s σ H x y v u Q I rx ry h;obtain⟨i,j,rfl,rfl,q⟩:=h;obtain⟨t,rfl⟩:=rx;obtain⟨t',rfl⟩:=ry;exact rule i j t t' s _ _ ⟨.int (g i j),H,I.tok _,⟨_,rfl⟩,q⟩
theorem opB0 {f:Value->Value->Sem Value}{g:Int->Int->Bool}
 (rule:∀(i j:Int) (t u:Tok) (s:Shared) (Q:Value->Shared->Prop) (E:Value->Shared->Prop),Q (.bool (g i j)) s->wpAny .(6) X.A (f (.int i t) (.int j u)) Q E s) :
 OpR X f (rI0 λi j=>.bl (g i j)):=by
 intro pins s σ H x y v u Q I rx ry h;obtain⟨i,j,rfl,rfl,q⟩:=h;obtain⟨t,rfl⟩:=rx;obtain⟨t',rfl⟩:=ry;exact rule i j t t' s _ _ ⟨.bl (g i j),H,I,rfl,q⟩
def CDiv (i j:Int):Prop:=0<j/\j<1073741824
def CPow (i j:Int):Prop:=0<=j/\j<=1000000/\i.natAbs<2 ^ 64
def CMul (i j:Int):Prop:=(-(2 ^ 64)<i/\i<2 ^ 64)\/(-(2 ^ 64)<j/\j<2 ^ 64)
theorem CMul.ok {i j:Int}(h:CMul i j):IntMulOk i j:=by
 rcases h with ⟨h1,h2⟩|⟨h1,h2⟩
 ·exact .of_left (intBits_le_64 h1 h2)
 ·exact .of_right (intBits_le_64 h1 h2)
theorem op_add:OpR X (K3c .Add) (rI0 λi j=>.int (i+j)):=opI0 λ_ _ _ _ _ _ _ q=>add_int q
theorem zZ1:OpR X (K3c .Sub) (rI0 λi j=>.int (i - j)):=opI0 λ_ _ _ _ _ _ _ q=>sub_int q
theorem op_mul:OpR X (K3c .Mult) (rI CMul λi j=>.int (i * j)):=opI λ_ _ _ _ _ _ _ hc q=>mul_int q hc.ok
theorem zG9:OpR X (K3c .FloorDiv) (rI CDiv λi j=>.int (i / j)):=opI λi j _ _ _ _ _ hc q=>by
 have h1:(0:Int)<j:=hc.1;have h2:j<1073741824:=hc.2;exact floordiv_int .(0) (by rw[Int.fdiv_eq_ediv_of_nonneg i .(0)];exact q) (.inl (PyProof.noPylong_small .(0)))
theorem zW2:OpR X (K3c .Mod) (rI (λ_ j=>0<j) λi j=>.int (i % j)):=opI λi j _ _ _ _ _ hc q=>by
 have h1:(0:Int)<j:=hc;exact mod_int' .(0) (by rw[Int.fmod_eq_emod_of_nonneg i .(0)];exact q)
theorem zQ4:OpR X (K3c .Pow) (rI CPow λi j=>.int (i ^ j.toNat)):=opI λ_ _ _ _ _ _ _ hc q=>pow_int_small hc.1 hc.2.1 hc.2.2 q
theorem unI {f:Value->Sem Value}{g:Int->Int}
 (rule:∀(i:Int) (t:Tok) (s:Shared) (Q:Value->Shared->Prop) (E:Value->Shared->Prop),Q (.int (g i) s.toks) { s with toks:=s.toks+1 }->wpAny .(6) X.A (f (.int i t)) Q E s) :
 UnR X f (rU λi=>.int (g i)):=by
 intro pins s σ H x v Q I rx h;obtain⟨i,rfl,q⟩:=h;obtain⟨t,rfl⟩:=rx;exact rule i t s _ _ ⟨.int (g i),H,I.tok _,⟨_,rfl⟩,q⟩
theorem Z04:UnR X (unaryOp .USub) (rU λi=>.int (-i)):=unI λ_ _ _ _ _ q=>neg_int q
end
def scal:V->V->Bool
 | .non,.non=>true|.non,.int _=>true|.int _,.non=>true|.non,.bl _=>true|.bl _,.non=>true|.non,.str _=>true|.str _,.non=>true
 | .int _,.int _=>true|.bl _,.bl _=>true|.str _,.str _=>true|.byt _,.byt _=>true
 | .int _,.str _=>true|.str _,.int _=>true|.bl _,.str _=>true|.str _,.bl _=>true
 | _,_=>false
def rEq:R2:=λx y H Q=>scal x y=true/\Q (.bl (decide (x=y))) H
theorem zF4 {i j:Int}:decide (V.int i=V.int j)=(i==j):=by
 rw[K19];simp
theorem zU9 {i j:Bool}:decide (V.bl i=V.bl j)=(i==j):=by
 rw[K19];simp
theorem zE3 {i j:Str}:decide (V.str i=V.str j)=(i==j):=by
 rw[K19];simp
theorem zF0 {i j:Array UInt8}:decide (V.byt i=V.byt j)=(i.toList==j.toList):=by
 rw[K19];cases i;cases j;simp
section
variable {a b:Expr}{ta tc:TE}
theorem z19 {Q:VK}{k k':Bool}(I:Inv X pins σ H s) (q:Q (.bl k) H) (e:k=k'):EP X pins σ Q (.bool k') s:=by
 subst e;exact⟨.bl k,H,I,rfl,q⟩
theorem Z0k:OpR X (K20 .Eq) rEq:=by
 intro pins s σ H x y v u Q I rx ry h;obtain⟨hs,q⟩:=h;cases x with
 | non =>
  cases rx;cases y with
  | non=>cases ry;exact PySem.EqNone.eq_none_none (z19 I q .(f))
  | bl j=>cases ry;exact PySem.EqNone.eq_none_bool (z19 I q .(f))
  | int j=>obtain⟨t',rfl⟩:=ry;exact PySem.EqNone.eq_none_int (z19 I q .(f))
  | str j=>obtain⟨t',rfl⟩:=ry;exact PySem.EqNone.eq_none_str (z19 I q .(f))
  | _=>exact absurd (show false=true from hs) K11
 | bl i =>
  cases rx;cases y with
  | non=>cases ry;exact PySem.EqNone.eq_bool_none (z19 I q .(f))
  | bl j=>cases ry;exact eq_bool (z19 I q zU9)
  | str j=>obtain⟨t',rfl⟩:=ry;exact PySem.EqMixed.eq_bool_str (z19 I q .(f))
  | _=>exact absurd (show false=true from hs) K11
 | int i =>
  obtain⟨t,rfl⟩:=rx;cases y with
  | non=>cases ry;exact PySem.EqNone.eq_int_none (z19 I q .(f))
  | int j=>obtain⟨t',rfl⟩:=ry;exact eq_int (z19 I q zF4)
  | str j=>obtain⟨t',rfl⟩:=ry;exact PySem.EqMixed.eq_int_str (z19 I q .(f))
  | _=>exact absurd (show false=true from hs) K11
 | str i =>
  obtain⟨t,rfl⟩:=rx;cases y with
  | non=>cases ry;exact PySem.EqNone.eq_str_none (z19 I q .(f))
  | bl j=>cases ry;exact PySem.EqMixed.eq_str_bool (z19 I q .(f))
  | int j=>obtain⟨t',rfl⟩:=ry;exact PySem.EqMixed.eq_str_int (z19 I q .(f))
  | str j=>obtain⟨t',rfl⟩:=ry;exact eq_str (z19 I q zE3)
  | _=>exact absurd (show false=true from hs) K11
 | byt i =>
  obtain⟨t,rfl⟩:=rx;cases y with
  | byt j=>obtain⟨t',rfl⟩:=ry;exact PySem.W.eq_bytes (z19 I q zF0)
  | _=>exact absurd (show false=true from hs) K11
 | _=>cases y<;>exact absurd (show false=true from hs) K11
theorem op_lt:OpR X (K20 .Lt) (rI0 λi j=>.bl (decide (i<j))):=opB0 λ_ _ _ _ _ _ _ q=>lt_int q
theorem op_le:OpR X (K20 .LtE) (rI0 λi j=>.bl (decide (i<=j))):=opB0 λ_ _ _ _ _ _ _ q=>le_int q
theorem Z0L:OpR X (K20 .Gt) (rI0 λi j=>.bl (decide (j<i))):=opB0 λ_ _ _ _ _ _ _ q=>gt_int q
theorem Z0l:OpR X (K20 .GtE) (rI0 λi j=>.bl (decide (j<=i))):=opB0 λ_ _ _ _ _ _ _ q=>ge_int q
theorem zf6:OpR X (K20 .Lt) (λx y H Q=>∃i j,x=.str i/\y=.str j/\Q (.bl (decide (i.cps.toList<j.cps.toList))) H):=by
 intro pins s σ H x y v u Q I rx ry h;obtain⟨i,j,rfl,rfl,q⟩:=h;obtain⟨t,rfl⟩:=rx;obtain⟨t',rfl⟩:=ry;exact lt_str (z19 I q rfl)
theorem z6x:OpR X (K20 .NotIn) (λx y H Q=>∃i j,x=.str i/\y=.str j/\Q (.bl (!(!(K1v j i 0 j.length 1).isEmpty))) H):=by
 intro pins s σ H x y v u Q I rx ry h;obtain⟨i,j,rfl,rfl,q⟩:=h;obtain⟨t,rfl⟩:=rx;obtain⟨t',rfl⟩:=ry;exact notIn_str (z19 I q rfl)
theorem OpR.or {r r':R2}(h:OpR X f r) (h':OpR X f r'):OpR X f (λx y H Q=>r x y H Q\/r' x y H Q):=by
 intro pins s σ H x y v u Q I rx ry q;rcases q with q|q
 ·exact h pins s σ H x y v u Q I rx ry q
 ·exact h' pins s σ H x y v u Q I rx ry q
theorem zx6 (b:Expr){op:CmpOp}(h:op≠.In:=by decide) (h2:op≠.NotIn:=by decide):K4r op b=false:=by
 have e1:(op==CmpOp.In)=false:=by cases op<;>first|rfl|exact absurd rfl h
 have e2:(op==CmpOp.NotIn)=false:=by cases op<;>first|rfl|exact absurd rfl h2
 cases b<;>simp[K4r,e1,e2]
theorem zD3 {op:CmpOp}{r:R2}(ho:OpR X (K20 op) r) (ha:PE X a ta) (hb:PE X b tb) (hm:K4r op b=false):PE X (.Compare a [op] [b] pos) (tOp r ta tb):=by
 intro pins s σ H Q I h;exact wpAny_Compare1 (binT ha hb I h λv u s2 x y H2 I2 rx ry q=>ho pins s2 σ H2 x y v u Q I2 rx ry q) hm
def zE0 (t:TE):TT:=λσ H Q=>t σ H λx H'=>∃k,x=.bl k/\Q k H'
theorem zL3 {op:CmpOp}{r:R2}(ho:OpR X (K20 op) r) (ha:PE X a ta) (hb:PE X b tb) (hm:K4r op b=false):PT X (.Compare a [op] [b] pos) (zE0 (tOp r ta tb)):=by
 intro pins s σ H Q I h;refine wpAny_isTrue_Compare1 (thn (ha pins s σ H _ I h) λv s1 ⟨x,H1,I1,r1,q1⟩=>thn (hb pins s1 σ H1 _ I1 q1) λu s2 ⟨y,H2,I2,r2,q2⟩ =>
  thn (ho pins s2 σ H2 x y v u _ I2 r1 r2 q2) λc s3 ⟨z,H3,I3,r3,k,e,q3⟩=>?_) hm
 subst e;cases r3;exact K2c ⟨H3,I3,q3⟩
def zc4 (r r':R2) (ta tb tc:TE):TE:=λσ H Q=>ta σ H λx H1=>tb σ H1 λy H2=>r x y H2 λz H3=>∃k,z=.bl k /\
 (if k=true then tc σ H3 λw' H4=>r' y w' H4 Q else Q (.bl false) H3)
theorem zq5 {op op':CmpOp}{r r':R2}(ho:OpR X (K20 op) r) (ho':OpR X (K20 op') r') (ha:PE X a ta) (hb:PE X b tb) (hc:PE X c tc)
 (hm:Z2p [op,op'] [b,c]=false:=by with_unfolding_all rfl):PE X (.Compare a [op,op'] [b,c] pos) (zc4 r r' ta tb tc):=by
 intro pins s σ H Q I h;refine Compare_chain (thn (ha pins s σ H _ I h) λv s1 ⟨x,H1,I1,r1,q1⟩=>chain_link (thn (hb pins s1 σ H1 _ I1 q1) λu s2 ⟨y,H2,I2,r2,q2⟩ =>
  thn (ho pins s2 σ H2 x y v u _ I2 r1 r2 q2) λd s3 ⟨z,H3,I3,r3,k,e,q3⟩=>?_)) hm
 subst e;cases r3;refine K2c ?_;cases k with
 | false=>exact ite_ff ⟨.bl false,H3,I3,rfl,q3⟩
 | true=>exact ite_tt (chain_last (thn (hc pins s3 σ H3 _ I3 q3) λw' s4 ⟨z',H4,I4,r4,q4⟩=>ho' pins s4 σ H4 y z' u w' Q I4 r2 r4 q4))
theorem zn7 {op op':CmpOp}{r r':R2}(ho:OpR X (K20 op) r) (ho':OpR X (K20 op') r') (ha:PE X a ta) (hb:PE X b tb) (hc:PE X c tc)
 (hm:Z2p [op,op'] [b,c]=false:=by with_unfolding_all rfl):PT X (.Compare a [op,op'] [b,c] pos) (zE0 (zc4 r r' ta tb tc)):=by
 intro pins s σ H Q I h;refine isTrue_chain (thn (ha pins s σ H _ I h) λv s1 ⟨x,H1,I1,r1,q1⟩=>test_link (thn (hb pins s1 σ H1 _ I1 q1) λu s2 ⟨y,H2,I2,r2,q2⟩ =>
  thn (ho pins s2 σ H2 x y v u _ I2 r1 r2 q2) λd s3 ⟨z,H3,I3,r3,k,e,q3⟩=>?_)) hm
 subst e;cases r3;refine K2c ?_;cases k with
 | false =>
  obtain⟨k',e',q'⟩:=q3;cases e';exact ite_ff ⟨H3,I3,q'⟩
 | true =>
  refine ite_tt (test_last (thn (hc pins s3 σ H3 _ I3 q3) λw' s4 ⟨z',H4,I4,r4,q4⟩=>thn (ho' pins s4 σ H4 y z' u w' _ I4 r2 r4 q4) λd' s5 ⟨z2,H5,I5,r5,k2,e2,q5⟩=>?_));subst e2;cases r5;exact K2c ⟨H5,I5,q5⟩
def TruV (K:K6) (x:V) (H:Hp) (k:Bool):Prop :=
 match x with
 | .non=>k=false
 | .bl b=>k=b
 | .int i=>k=(i != 0)
 | .str y=>y.length<=sizeLine/\k=((y.length:Int) != 0)
 | .byt y=>y.size<=sizeLine/\k=((y.size:Int) != 0)
 | .ref p=>(∃xs,SqL K H p xs/\k = !xs.isEmpty)\/(∃xs,SqT K H p xs/\k = !xs.isEmpty)\/∃kvs,H p=some (.dK kvs)/\k = !kvs.isEmpty
 | _=>False
theorem z9r {kvs:List (κ×V)}{vs:List (κ×Value)}(r:KV kvs vs):(!vs.isEmpty) = !kvs.isEmpty:=by
 cases r<;>rfl
theorem z5q (r:Vals xs its):(!its.toArray.isEmpty) = !xs.isEmpty:=by
 cases r<;>simp
theorem z54:(sizeLine:Nat)<2 ^ 63:=by rw[K82];decide
theorem zS0:TruR X (λx H Q=>∃k,TruV X.K x H k/\Q k H):=by
 intro pins s σ H x v Q I rx h;obtain⟨k,e,q⟩:=h;have hl:=z54;have hs:sizeLine=16777216:=K82;cases x with
 | non =>
  cases rx;have e':k=false:=e;subst e';exact truthy_none ⟨H,I,q⟩
 | bl b =>
  cases rx;have e':k=b:=e;subst e';exact K2c ⟨H,I,q⟩
 | int i =>
  obtain⟨t,rfl⟩:=rx;have e':k=(i != 0):=e;subst e';exact PySem.P.truthy_int ⟨H,I,q⟩
 | str y =>
  obtain⟨t,rfl⟩:=rx;obtain⟨hy,e'⟩:y.length<=sizeLine/\k=((y.length:Int) != 0):=e;subst e';exact PySem.P.truthy_str .(0) ⟨H,I.tok _,q⟩
 | byt y =>
  obtain⟨t,rfl⟩:=rx;obtain⟨hy,e'⟩:y.size<=sizeLine/\k=((y.size:Int) != 0):=e;subst e';exact PySem.W.truthy_bytes .(0) ⟨H,I.tok _,q⟩
 | ref p =>
  cases rx;have e':(∃xs,SqL X.K H p xs/\k = !xs.isEmpty)\/(∃xs,SqT X.K H p xs/\k = !xs.isEmpty)\/∃kvs,H p=some (.dK kvs)/\k = !kvs.isEmpty:=e;rcases e' with ⟨xs,hx,e'⟩|⟨xs,hx,e'⟩|⟨kvs,hx,e'⟩
  ·subst e';obtain⟨its,r,pl,hz⟩:=I.list hx;have hlen:=.(k);exact wpAny_truthy_list pl.isList (by simp only[K05];omega) ⟨H,I.tok _,by rw[z5q r];exact q⟩
  ·subst e';obtain⟨its,r,pl,hz⟩:=I.tuple hx;have hlen:=.(k);exact truthy_tuple pl (by simp only[K05];omega) ⟨H,I.tok _,by rw[z5q r];exact q⟩
  ·subst e';obtain⟨hz,hS,vs,r,m⟩:kvs.length<=sizeLine/\(p==K3r)=false/\∃vs,KV kvs vs/\s.heap.DictOf (J9 X.prog X.w) p vs:=I.hok p _ hx;have hlen:kvs.length=vs.length:=K4p r;exact wpAny_truthy_dict hS m .(0) ⟨H,I.tok _,by rw[z9r r];exact q⟩
 | _=>exact(show False from e).elim
theorem zs4 (ha:PE X a ta) (he:∀whole,isTrue a X.env whole=(do let v <- whole;K5k a.pos;K44 [v] (truthy v))):
 PT X a (λσ H Q=>ta σ H λx H'=>∃k,TruV X.K x H' k/\Q k H'):=by
 intro pins s σ H Q I h;exact isTrue_plain (thn (ha pins s σ H _ I h) λv s1 ⟨x,H1,I1,r1,q1⟩=>zS0 pins s1 σ H1 x v Q I1 r1 q1) (he _)
theorem op_add_str:OpR X (K3c .Add) (λx y H Q=>∃i j,x=.str i/\y=.str j/\i.length+j.length<=sizeLine/\Q (.str (i++j)) H):=by
 intro pins s σ H x y v u Q I rx ry h;obtain⟨i,j,rfl,rfl,hz,q⟩:=h;obtain⟨t,rfl⟩:=rx;obtain⟨t',rfl⟩:=ry;exact add_str (λt' tk=>⟨.str (i++j),H,I.tok _,⟨_,rfl⟩,q⟩) hz
theorem vals1 {x:V}(r:Vals [x] us):∃u,us=[u]/\RelV x u:=by
 cases r with
 | cons r1 r2=>cases r2;exact⟨_,rfl,r1⟩
theorem vals2 {x y:V}(r:Vals [x,y] us):∃u w',us=[u,w']/\RelV x u/\RelV y w':=by
 cases r with
 | cons r1 r2 =>
  cases r2 with
  | cons r3 r4=>cases r4;exact⟨_,_,rfl,r1,r3⟩
theorem z6I (hc:X.calm=true):z2C X (.builtin "max") (λxs H Q=>∃i j,xs=[.int i,.int j]/\Q (.int (if j > i then j else i)) H):=by
 intro pins s σ H xs us Q I r h;obtain⟨i,j,rfl,q⟩:=h;obtain⟨u,w',rfl,⟨t,rfl⟩,⟨t',rfl⟩⟩:=vals2 r;refine max_two_ints (I.ok.hd hc) λh' tk k=>⟨_,H,I.kept k,?_,q⟩;by_cases hj:j > i
 ·rw[if_pos hj,if_pos hj];exact⟨_,rfl⟩
 ·rw[if_neg hj,if_neg hj];exact⟨_,rfl⟩
def LenV (K:K6) (x:V) (H:Hp) (n:Nat):Prop :=
 match x with
 | .str y=>y.length<=sizeLine/\n=y.length
 | .byt y=>y.size<=sizeLine/\n=y.size
 | .ref p=>(∃xs,SqL K H p xs/\n=xs.length)\/∃xs,SqT K H p xs/\n=xs.length
 | _=>False
theorem zu1:z2C X (.builtin "len") (λxs H Q=>∃x n,xs=[x]/\LenV X.K x H n/\Q (.int n) H):=by
 intro pins s σ H xs us Q I r h;obtain⟨x,n,rfl,e,q⟩:=h;obtain⟨u,rfl,rx⟩:=vals1 r;have hl:=z54;have hs:sizeLine=16777216:=K82;cases x with
 | str y =>
  obtain⟨t,rfl⟩:=rx;obtain⟨hy,e'⟩:y.length<=sizeLine/\n=y.length:=e;subst e';exact len_str .(0) ⟨.int _,H,I.tok _,⟨_,rfl⟩,q⟩
 | byt y =>
  obtain⟨t,rfl⟩:=rx;obtain⟨hy,e'⟩:y.size<=sizeLine/\n=y.size:=e;subst e';exact PySem.W.len_bytes .(0) ⟨.int _,H,I.tok _,⟨_,rfl⟩,q⟩
 | ref p =>
  cases rx;have e':(∃xs,SqL X.K H p xs/\n=xs.length)\/∃xs,SqT X.K H p xs/\n=xs.length:=e;rcases e' with ⟨xs,hx,e'⟩|⟨xs,hx,e'⟩
  ·subst e';obtain⟨its,r',pl,hz⟩:=I.list hx;have hlen:=r'.length;exact Calls.call_len_list pl.isList (by simp only[K05];omega) ⟨.int xs.length,H,I.tok _,⟨_,by simp only[K05];rw[hlen]⟩,q⟩
  ·subst e';obtain⟨its,r',pl,hz⟩:=I.tuple hx;have hlen:=r'.length;exact len_tuple pl (by simp only[K05];omega) ⟨.int xs.length,H,I.tok _,⟨_,by simp only[K05];rw[hlen]⟩,q⟩
 | _=>exact(show False from e).elim
end
structure ObjM (h:Heap) (x dx C:Addr) (mA:Str->Option Value):Prop where
 obj:h.get? x=some (K94 C dx)
 ns:h.Ns1 dx mA
 ne:dx≠x
theorem zc5 (n:h.Ns1 dx mA):∃od,h.get? dx=some od/\∀name,K9g name od=some (mA name):=by
 obtain⟨o,es,ep,ho,hd,hk,_,hm⟩:=n;refine⟨o,ho,λname=>?_⟩;have e:=hm name;unfold nsFind findBy at e;rw[<- Array.find?_toList]at e;unfold K9g;rw[hd];dsimp only;split
 ·rename_i y q;rw[q]at e;exact congrArg some e
 ·rename_i q;rw[q]at e;have a:es.toList.any (·.refKey)=false:=by
   rw[List.any_eq_false];intro y hy;obtain⟨z,t,hkey⟩:=hk y (Array.mem_toList_iff.mp hy);simp[K9x.refKey,hkey]
  have a':¬ es.toList.any (·.refKey)=true:=by rw[a];exact K11
  rw[if_neg a'];exact congrArg some e
theorem ObjM.look {x:Addr}(I:ObjM h x dx C mA):∃od,PySem.W.InstAt h x (K94 C dx) C (some od)/\∀name,K9g name od=some (mA name) :=
 let ⟨od,ho,hl⟩:=zc5 I.ns
 ⟨od,⟨I.obj,rfl,rfl,ho⟩,hl⟩
theorem RelO.some_of {o:Option Value}(r:RelO (some v) o):∃u,o=some u/\RelV v u:=by
 cases o with
 | none=>exact(show False from r).elim
 | some u=>exact⟨u,rfl,r⟩
section
variable {fs fs':List (Str×V)}
theorem zH7 (hok:HOk P w H h) (e:H a=some (.ins C dx fs)):∃mA,ObjM h a dx C mA/\(∀f,RelO (fs.lookup f) (mA f))/\PySem.Within mA (fs.map (·.1))/\fs.length<=1000/\H dx=some (.own a):=by
 obtain⟨d,z,ne,ob,mA,n,r,q⟩:=(show ObjOk P w H h a (.ins C dx fs) from hok a _ e);exact⟨mA,⟨ob,n,ne⟩,r,q,z,d⟩
end
structure Cls (K:K6) (C:Addr):Prop where
 pg:Z2j K C Str.empty=true
 hd:PySem.W.hasDictIn K C=true
 po:PySem.W.plainOver K C=true
 sa:Z3c K (.ref C) "__setattr__" = some (some (.builtin "object.__setattr__"))
theorem Cls.get (c:Cls K C) (f:Str):Z2j K C f=true:=c.pg
section
variable {c:Value}{b:Bool}
inductive TyOf (K:K6) (H:Hp):V->Value->Prop where
 | non:TyOf K H .non (.type "NoneType")
 | bl (x:Bool):TyOf K H (.bl x) (.type "bool")
 | int (i:Int):TyOf K H (.int i) (.type "int")
 | str (x:Str):TyOf K H (.str x) (.type "str")
 | flt (x:UInt64):TyOf K H (.flt x) (.type "float")
 | lst {a:Addr} {xs:List V} (e:H a=.(l xs)):TyOf K H (.ref a) (.type "list")
 | frz {a:Addr} {o:Obj} {xs:List V} (e:H a=some (.frz o (.lst xs))):TyOf K H (.ref a) (.type "list")
 | tup {a:Addr} {xs:List V} (e:H a=.(g xs)):TyOf K H (.ref a) (.type "tuple")
 | dK {a:Addr} {kvs:List (Key×V)} (e:H a=some (.dK kvs)):TyOf K H (.ref a) (.type "dict")
 | dT {a:Addr} {kvs:List (List Key×V)} (e:H a=some (.dT kvs)):TyOf K H (.ref a) (.type "dict")
 | ins {a C dx:Addr} {fs:List (Str×V)} (e:H a=some (.ins C dx fs)) (cl:Cls K C) (ha:Z3c K (.ref C) "__class__" = some (some (.builtin "object.__class__")))
  (hn:PySem.W.specialIn K (.builtin "object.__class__") "__get__" = some (some (.builtin "getset_descriptor.__get__"))) (htk:PySem.W.takesIn K (.builtin "object.__class__")=some true)
  (hm:PySem.W.mroIn K C (.type "object")=some true):TyOf K H (.ref a) (.ref C)
theorem zg4 {x:V}{t:Value}(I:Inv X pins σ H s) (rx:RelV x u) (ty:TyOf X.K H x t) (e:K64 X.K t c=some b) (h:∀tk,Q (.bool b) { s with toks:=tk }):
 wpAny .(6) A (call (.builtin "isinstance") [u,c]) Q E s:=by
 cases ty with
 | non=>cases (show u=K2x from rx);exact K1s PySem.W.kitx_none I.kIn K38 e (λz=>nomatch z) h
 | bl y=>cases (show u=K74 y from rx);exact K1s PySem.W.kitx_bool I.kIn K38 e (λz=>nomatch z) h
 | int i=>obtain⟨t,q⟩:=(show ∃t,u=K6k i t from rx);cases q;exact K1s PySem.W.kitx_int I.kIn K38 e (λz=>nomatch z) h
 | str y=>obtain⟨t,q⟩:=(show ∃t,u=K9s y t from rx);cases q;exact K1s PySem.W.kitx_str I.kIn K38 e (λz=>nomatch z) h
 | flt y=>obtain⟨t,q⟩:=(show ∃t,u=Value.float y t from rx);cases q;exact K1s PySem.W.kitx_float I.kIn K38 e (λz=>nomatch z) h
 | @lst a xs ea =>
  cases (show u=K25 a from rx);obtain⟨_,_,n,_,h1⟩:=(show ObjOk X.prog X.w H s.heap a (.lst xs) from I.hok a _ ea);exact K1s K7u I.kIn ⟨_,h1,rfl⟩ e (λz=>nomatch z) h
 | @frz a ob xs ea =>
  cases (show u=K25 a from rx);obtain⟨_,_,_,n,_,h1⟩:=(show ObjOk X.prog X.w H s.heap a (.frz ob (.lst xs)) from I.hok a _ ea);exact K1s K7u I.kIn ⟨_,h1,rfl⟩ e (λz=>nomatch z) h
 | @tup a xs ea =>
  cases (show u=K25 a from rx);obtain⟨_,_,_,p⟩:=(show ObjOk X.prog X.w H s.heap a (.tup xs) from I.hok a _ ea);obtain⟨o,h1,h2,_⟩:=p;exact K1s Z1p I.kIn ⟨o,h1,h2.1⟩ e (λz=>nomatch z) h
 | @dK a kvs ea =>
  cases (show u=K25 a from rx);obtain⟨_,_,vs,_,p⟩:=(show ObjOk X.prog X.w H s.heap a (.dK kvs) from I.hok a _ ea);obtain⟨o,es,ep,h1,h2,_⟩:=p;exact K1s K7v I.kIn ⟨o,h1,h2.1⟩ e (λz=>nomatch z) h
 | @dT a kvs ea =>
  cases (show u=K25 a from rx);obtain⟨_,_,xs,_,o,es,ep,h1,h2,_⟩:=(show ObjOk X.prog X.w H s.heap a (.dT kvs) from I.hok a _ ea);exact K1s K7v I.kIn ⟨o,h1,h2.1⟩ e (λz=>nomatch z) h
 | @ins a C dx fs ea cl ha hn htk hm =>
  cases (show u=K25 a from rx);obtain⟨mA,O,_⟩:=zH7 I.hok ea;obtain⟨od,J,_⟩:=O.look;exact K1s (PySem.W.kitx_own (cl.get _) cl.hd ha hn htk hm) I.kIn J e (λz=>nomatch z) h
end
structure Room (k:Nat) (A:Around):Prop where
 hd:A.handled=none
 dp:A.depth+3 * k+5<recursionLimit
 un:A.units+16 * k+200<cLine
 gd:A.guards=some []
theorem Room.mono {j k:Nat}(r:Room k A) (h:j<=k):Room j A:=⟨r.hd,by have:=r.dp;omega,by have:=r.un;omega,r.gd⟩
theorem Room.deeper {k:Nat}{A:Around}(r:Room (k+1) A) (env:Env):Room k (A.deeper env) :=
 ⟨r.hd,by have:=r.dp;show A.depth+1+3 * k+5<_;omega,by have:=r.un;show A.units+3+16 * k+200<_;omega,r.gd⟩
theorem Room.depth {k:Nat}{A:Around}(r:Room k A):A.depth<recursionLimit:=by have:=r.dp;omega
theorem Room.units {k:Nat}{A:Around}(r:Room k A):A.units+64<cLine:=by have:=r.un;omega
def tNil:TA:=λ_ H Q=>Q [] H
def zr6 (ta:TE) (tr:TA):TA:=λσ H Q=>ta σ H λx H1=>tr σ H1 λxs H2=>Q (x::xs) H2
theorem z2E:PA X [] tNil:=λ_ _ _ _ H Q I h=>Calls.spliced_nil ⟨[],H,I,.nil,h⟩
theorem z1k (ha:PE X e te) (hr:PA X es t) (hs:K0g (e::es) X.env=(false,eval e X.env)::K0g es X.env:=by rfl):PA X (e::es) (zr6 te t):=by
 intro pos pins s σ H Q I h;rw[hs];show wpAny _ _ (spliced ((false,eval e X.env)::backTo pos (K0g es X.env))) _ _ s;refine Calls.spliced_cons (thn (ha pins s σ H _ I h) λu s1 ⟨x,H1,I1,r1,q1⟩=>?_);exact thn (hr pos pins s1 σ H1 _ I1 q1) λus s2 ⟨xs,H2,I2,r2,q2⟩=>⟨x::xs,H2,I2,.cons r1 r2,q2⟩
def tTup (t:TA):TE:=λσ H Q=>t σ H λxs H1=>xs.length<=sizeLine/\∀p,H1 p=none->Q (.ref p) (upd H1 p (.tup xs))
def tLst (t:TA):TE:=λσ H Q=>t σ H λxs H1=>xs.length<=sizeLine/\∀p,H1 p=none->Q (.ref p) (upd H1 p (.lst xs))
theorem zV2 {x1}(h:PA X es t):PE X (.Tuple es x1 pos) (tTup t):=by
 intro pins s σ H Q I hq;refine wpAny_Tuple_spliced (thn (h pos pins s σ H _ I hq) λus s1 ⟨xs,H1,I1,r,z,q⟩=>⟨by rw[<- .(k)];exact z,?_⟩);have hf:H1 .(j)=none:=I1.hok.fresh (K01 _);refine⟨.ref .(j),upd H1 .(j) (.tup xs),I1.laid (t':=s1.toks) (λb u e=>K7 _ e) (K01 _) ?_,rfl,q _ hf⟩;exact⟨z,us,r,⟨_,K0a _ rfl,⟨rfl,rfl⟩,_,rfl⟩⟩
theorem zP5 (h:PA X es t):PE X (.List es pos) (tLst t):=by
 intro pins s σ H Q I hq;refine wpAny_List_spliced (thn (h pos pins s σ H _ I hq) λus s1 ⟨xs,H1,I1,r,z,q⟩=>⟨by rw[<- .(k)];exact z,?_⟩);have hf:H1 .(j)=none:=I1.hok.fresh (K01 _);refine⟨.ref .(j),upd H1 .(j) (.lst xs),I1.laid (t':=s1.toks) (λb u e=>K7 _ e) (K01 _) ?_,rfl,q _ hf⟩;exact⟨z,us,0,r,K0a _ rfl⟩
abbrev Sp:=List V->Hp->VK->XK->Prop
abbrev CXT:=List Env->Hp->Shared->XK->Value->Shared->Prop
variable{CX:CXT}
structure Env0 (P:K1h) (w:World) (K:K6) (mg:Str->Option Value) (base:Heap) (A:Around) (outer:List Env) (s:Shared) (H:Hp):Prop where
 frames:A.frames=some outer
 mod:Mod K mg base
 bs:∀b o,base.get? b=some o->s.heap.get? b=some o/\H b=none
 bsz:base.objs.size<=.(5)
 funs:s.heap.FunFrames base outer
 frf:∀b∈frs outer,H b=none
 hok:HOk P w H s.heap
 bare:K81 s.gens
def CE (outer:List Env) (P:K1h) (w:World) (H:Hp) (s:Shared) (Q:VK) (u:Value) (s':Shared):Prop :=
 ∃v H',s'.os=s.os/\K81 s'.gens/\Un (frs outer) [] H H' s.heap s'.heap/\HOk P w H' s'.heap/\RelV v u/\Q v H'
def CR (CX:CXT) (outer:List Env) (P:K1h) (w:World) (H:Hp) (s:Shared) (Q:VK) (E:XK) (r:Result) (s':Shared):Prop :=
 match r with
 | .ok (.ret u)=>CE outer P w H s Q u s'
 | .ok _=>False
 | .error e=>CX outer H s E e s'
structure FnOk (P:K1h) (w:World) (K:K6) (mg:Str->Option Value) (base:Heap) (CX:CXT) (k:Nat) (f:Addr) (fd:K5b) (ps:List Str) (sp:Sp):Prop where
 len:∀vs H Q E,sp vs H Q E->vs.length=ps.length
 run:∀(A:Around) (outer:List Env) (s:Shared) (H:Hp) (args:Args) (us:List Value) (vs:List V) (Q:VK) (E:XK),Room k A->Env0 P w K mg base A outer s H->Z29 s fd args (ps.zip us)->Vals vs us->sp vs H Q E ->
  K69 (model P w) A (.call (.ref f) args) (CR CX outer P w H s Q E) s
theorem FnOk.imp {k:Nat}{f:Addr}{sp sp':Sp}(F:FnOk P w K mg base CX k f fd ps sp)
 (h:∀vs H Q E,sp' vs H Q E->sp vs H Q E):FnOk P w K mg base CX k f fd ps sp' :=
 ⟨λvs H Q E q=>F.len vs H Q E (h _ _ _ _ q),λA outer s H args us vs Q E hr he hb hv hs=>F.run A outer s H args us vs Q E hr he hb hv (h _ _ _ _ hs)⟩
theorem Inv.env0 (I:Inv X pins σ H s):Env0 X.prog X.w X.K X.mg X.base X.A X.stack s H :=
 ⟨I.ok.frames,I.ok.mod,I.bs,K0d I.ok.bsz I.sz,I.stack,I.stkFree,I.hok,I.bare⟩
theorem Inv.after {Q:VK}(I:Inv X pins σ H s) (h:CE X.stack X.prog X.w H s Q u s'):EP X pins σ Q u s':=by
 obtain⟨v,H',os,bare,un,hok,r,q⟩:=h;obtain⟨hh,g,d,t,os'⟩:=s';obtain rfl:os'=s.os:=os;exact⟨v,H',I.call (h':=hh) (g':=g) (d':=d) (t':=t) (ch:=[]) un hok bare (λb z=>absurd z .(f)),r,q⟩
def Z0Y (sp:Sp) (dvs:List V) (E:XK) (t:TA):TE:=λσ H Q=>t σ H λvs H1=>sp (vs++dvs) H1 Q E
def Binds (K:K6) (fd:K5b) (ps:List Str) (ds:List Value):Prop :=
 ∀(s:Shared) (us:List Value),K.In s.heap->(us++ds).length=ps.length->Z29 s fd ⟨us,[]⟩ (ps.zip (us++ds))
theorem Binds.all (h:∀us:List Value,us.length=ps.length->bindArgs fd ⟨us,[]⟩=pure (ps.zip us)):Binds K fd ps []:=λs us _ hl=>by
 rw[K0w]at hl ⊢;exact .of_eq (h us hl)
def zm6 (CX:CXT) (X:Cx) (E:XK):Prop:=∀(pins:List .(x)) (σ:St) (H:Hp) (s:Shared) (e:Value) (s':Shared),Inv X pins σ H s->CX X.stack H s E e s'->X.xe e s'
section
variable {k:Nat}{f:Addr}{sp:Sp}{dvs:List V}{E:XK}{m:Str}{apos:Pos}{o:Expr}{ta:TE}
theorem zU6 {pins:List .(x)}{σ:St}{H:Hp}{s:Shared}{Q:VK}{us:List Value}{vs:List V}(F:FnOk X.prog X.w X.K X.mg X.base CX k f fd ps sp) (hr:Room k X.A) (hb:Binds X.K fd ps ds) (hd:Vals dvs ds) (hx:zm6 CX X E)
 (I:Inv X pins σ H s) (r:Vals vs us) (h:sp (vs++dvs) H Q E):wpAny .(6) X.A (call (.ref f) us) (EP X pins σ Q) X.xe s:=by
 have r2:Vals (vs++dvs) (us++ds):=r.append hd;have hl:(us++ds).length=ps.length:=by rw[<- r2.length];exact F.len _ _ _ _ h
 refine wpAny_call (K4g (F.run X.A X.stack s H ⟨us,[]⟩ (us++ds) (vs++dvs) Q E hr I.env0 (hb s us I.kIn hl) r2 h) λr s' hq=>?_);cases r with
 | error e=>exact hx pins σ H s e s' I hq
 | ok fl =>
  cases fl with
  | ret u=>exact I.after hq
  | next=>exact K47 hq
  | brk=>exact K47 hq
  | cont=>exact K47 hq
theorem zF8 (F:FnOk X.prog X.w X.K X.mg X.base CX k f fd ps sp) (hr:Room k X.A) (hg:Gl X x) (hm:X.mg x=.(r f)) (hk:K65 X.K (.ref f)=true) (hb:Binds X.K fd ps ds) (hd:Vals dvs ds) (hx:zm6 CX X E)
 (ha:PA X (e::es) t) (hdb:(x==("__debug__":Str))=false:=by decide) (he:K0g (e::es) X.env=(false,eval e X.env)::K0g es X.env:=by rfl) (hpl:(backTo pos (K0g es X.env)).any (·.1)=false:=by rfl) :
 PE X (.Call (.Name x p) (e::es) [] pos) (Z0Y sp dvs E t):=by
 intro pins s σ H Q I h;refine K7d (zc2 I hg hm ?_ hdb);refine PySem.W.callWith_K (h₀:=X.base) I.ok.mod.kin hk (thn (ha pos pins s σ H _ I h) λus s1 ⟨vs,H1,I1,r,q⟩=>⟨I1.kIn,?_⟩) he hpl;exact zU6 F hr hb hd hx I1 r q
end
structure FnScope (N P:List Str) (sc:Scope):Prop where
 kind:sc.kind=.function
 co:sc.isCoroutine=false
 gen:sc.isGenerator=false
 nd:N.Nodup
 pre:N.take P.length=P
 par:∀x∈P,sc.names.lookup x=some .local\/sc.names.lookup x=some .cell
 nofree:∀y∈sc.names,y.2≠.free
theorem z71 {kindOf:Str->Option K68}{x:Str}:∀{binds:List (Str×Value)}{m:Str->Option Value},(∀v,(x,v)∉binds)->bindL kindOf binds m x=m x
 | [],_,_=>rfl
 | (n,v)::r,m,h=>by
  unfold bindL;rw[z71 λw hw=>h w (K0s _ hw)];split
  ·have:x≠n:=by rintro rfl;exact h v K10
   simp[this]
  ·rfl
theorem z6j {kindOf:Str->Option K68}{x:Str}:∀{binds:List (Str×Value)}{m:Str->Option Value},(∀v,(x,v)∉binds)->bindC kindOf binds m x=m x
 | [],_,_=>rfl
 | (n,v)::r,m,h=>by
  unfold bindC;rw[z6j λw hw=>h w (K0s _ hw)];split
  ·rfl
  ·have:x≠n:=by rintro rfl;exact h v K10
   simp[this]
theorem z6k {kindOf:Str->Option K68}{x:Str}{v:Value}:∀{P:List Str}{vs:List Value}{i:Nat}{m:Str->Option Value},P.Nodup->P[i]?=some x->vs[i]?=some v->kindOf x=some .local ->
 bindL kindOf (P.zip vs) m x=some v
 | [],_,_,_,_,h,_,_=>by simp at h
 | _::_,[],_,_,_,_,h,_=>by simp at h
 | p::P,w::vs,0,m,nd,h1,h2,hk=>by
  simp at h1 h2;subst h1;subst h2;show bindL kindOf ((p,w)::P.zip vs) m p=_;unfold bindL;rw[z71 λv hv=>(K6r.mp nd).1 (K96 hv).1,if_pos hk];simp
 | p::P,w::vs,i+1,m,nd,h1,h2,hk=>by
  show bindL kindOf ((p,w)::P.zip vs) m x=_;unfold bindL;exact z6k (i:=i) (K6r.mp nd).2 (by simpa using h1) (by simpa using h2) hk
theorem z7g {kindOf:Str->Option K68}{x:Str}{v:Value}:∀{P:List Str}{vs:List Value}{i:Nat}{m:Str->Option Value},P.Nodup->P[i]?=some x->vs[i]?=some v->kindOf x≠some .local ->
 bindC kindOf (P.zip vs) m x=some v
 | [],_,_,_,_,h,_,_=>by simp at h
 | _::_,[],_,_,_,_,h,_=>by simp at h
 | p::P,w::vs,0,m,nd,h1,h2,hk=>by
  simp at h1 h2;subst h1;subst h2;show bindC kindOf ((p,w)::P.zip vs) m p=_;unfold bindC;rw[z6j λv hv=>(K6r.mp nd).1 (K96 hv).1,if_neg hk];simp
 | p::P,w::vs,i+1,m,nd,h1,h2,hk=>by
  show bindC kindOf ((p,w)::P.zip vs) m x=_;unfold bindC;exact z7g (i:=i) (K6r.mp nd).2 (by simpa using h1) (by simpa using h2) hk
def start (N:List Str) (vs:List V):St:=vs.map some++K0n (N.length - vs.length) none
def cxOf (CX:CXT) (P:K1h) (w:World) (K:K6) (mg:Str->Option Value) (base:Heap) (N:List Str) (qual:Str) (scope:Scope) (f:Addr) (cd:Value) (A:Around) (outer:List Env) (s:Shared) (H:Hp) (E:XK):Cx where
 prog:=P
 w:=w
 K:=K
 mg:=mg
 base:=base
 A:=A.deeper (envOfC qual scope .(5) f cd)
 N:=N
 s₀:=s
 H₀:=H
 env:=envOfC qual scope .(5) f cd
 outer:=outer
 stack:=envOfC qual scope .(5) f cd::outer
 ex:=[]
 calm:=true
 fn:=λ_=>true
 pn:=[]
 xe:=λe s'=>wpAny (model P w) (A.deeper (envOfC qual scope .(5) f cd)) (leaving (envOfC qual scope .(5) f cd) e) (λ_ s''=>CX outer H s E e s'') (λe' s''=>CX outer H s E e' s'') s'
theorem z81 {sc:Scope}(h:sc.names.lookup x=some .cell):∃c,(cellsFrom n sc.names []).lookup x=some c:=by
 have q:=K8t sc.names n [] (.inl h);exact Option.isSome_iff_exists.mp q
theorem zl0 {CX:CXT}{P:K1h}{w:World}{K:K6}{mg:Str->Option Value}{base:Heap}{N ps:List Str}{qual:Str}{scope:Scope}{f:Addr}{cd:Value}{A:Around}{outer:List Env}{s s1:Shared}{H:Hp}{E:XK}{us:List Value}{vs:List V}
 (S:FnScope N ps scope) (hd:A.handled=none) (e0:Env0 P w K mg base A outer s H) (hl:vs.length=ps.length) (r:Vals vs us)
 (x:InCallC s s.heap.objs.size (bindL (envOfC qual scope s.heap.objs.size f cd).kindOf (ps.zip us) λ_=>none) (cellsFrom (s.heap.objs.size+1) scope.names []) (bindC (envOfC qual scope s.heap.objs.size f cd).kindOf (ps.zip us) λ_=>none) s1) :
 Inv (cxOf CX P w K mg base N qual scope f cd A outer s H E) [] (start N vs) H s1:=by
 have hpl:ps.length<=N.length:=by have:=congrArg K9h S.pre;rw[K1t]at this;omega
 obtain⟨h1,tk,rfl,hk⟩:=x.done;have noA:∀b:Addr,b∉(cxOf CX P w K mg base N qual scope f cd A outer s H E).ex:=λb z=>absurd (show b∈([]:List Addr) from z) .(f);refine⟨⟨e0.mod,S.kind,rfl,rfl,K01 _,λy z c h1 h2=>?_,λy hy=>?_,λy c _ h=>?_,λ_=>hd,Around.frames_deeper e0.frames,.inr ⟨rfl,rfl⟩,λb z=>absurd z (noA b),e0.bs,e0.bsz,λb _ _=>noA b,λb z=>absurd z (noA b),e0.funs,e0.frf⟩,
  rfl,e0.bare,Un.kept hk,⟨_,x.toInCall.ns,λi y v h1 h2 h3=>?_⟩,λy c h=>⟨_,x.cell y c h⟩,e0.hok.fresh (K01 _),λy c h=>?_,λp hp=>absurd (show p∈([]:List .(x)) from hp) .(f),e0.hok.kept hk,?_⟩
 ·exact name_of_addr x.apart (K29 h1) (K29 h2)
 ·have hy:scope.names.lookup y=some .cell\/scope.names.lookup y=some .free:=hy;rcases hy with hy|hy
  ·exact z81 hy
  ·exact absurd rfl (S.nofree _ (K29 hy))
 ·exact K2m (x.above y c (K29 h))
 ·have hi:i<vs.length:=by
   unfold start at h2;by_cases hi:i<vs.length
   ·exact hi
   ·rw[K1z (by simpa using hi)]at h2;rw[K60]at h2;split at h2<;>cases h2
  have ha:vs[i]?=some v:=by
   unfold start at h2;rw[K0z (by simpa using hi),K0k]at h2;cases e:vs[i]? with
   | none=>rw[e]at h2;cases h2
   | some a=>rw[e]at h2;cases h2;rfl
  obtain⟨u,hu,rv⟩:=r.get ha;have hp:ps[i]?=some y:=by
   rw[<- S.pre,List.getElem?_take_of_lt .(0)];exact h1
  have ndP:ps.Nodup:=by rw[<- S.pre];exact S.nd.sublist (K7x _ _)
  refine⟨u,rv,?_⟩;rcases S.par y (K0j hp) with k|k
  ·exact .inl ⟨k,z6k ndP hp hu k⟩
  ·obtain⟨c,e⟩:=z81 (n:=.(5)+1) k;refine .inr ⟨.inl k,c,e,?_⟩;have q:=x.cell y c e;rw[z7g ndP hp hu (by show scope.names.lookup y≠_;rw[k];decide)]at q;exact q
 ·exact e0.hok.fresh (K2m (x.above y c (K29 h)))
 ·unfold start;show _=N.length;rw[K04,K03,List.length_replicate];omega
theorem zN9 {CX:CXT}{P:K1h}{w:World}{K:K6}{mg:Str->Option Value}{base:Heap}{k:Nat}{f:Addr}{name qual:Str}{params:Arguments}{body:List Stmt}{scope:Scope}{dV kV doc pm cdv ct oc:Value}{an od:Option Addr}
 {osl:Array (Option Value)} {N ps:List Str} {sp:Sp} (lk:K.lookup f=some ⟨oc,od,.func (K3v name qual params body scope dV kV doc pm an cdv ct),osl⟩) (hcd:K4c K cdv qual=true) (S:FnScope N ps scope)
 (len:∀vs H Q E,sp vs H Q E->vs.length=ps.length)
 (hbody:∀(A:Around) (outer:List Env) (s:Shared) (H:Hp) (vs:List V) (Q:VK) (E:XK),Room k (A.deeper (envOfC qual scope .(5) f cdv))->sp vs H Q E ->
  ∃t,PSs (cxOf CX P w K mg base N qual scope f cdv A outer s H E) body t/\t { nx:=λ_ H'=>Q .non H',rt:=Q } (start N vs) H) :
 FnOk P w K mg base CX (k+1) f (K3v name qual params body scope dV kV doc pm an cdv ct) ps sp:=by
 refine⟨len,λA outer s H args us vs Q E hr e0 hb r hsp=>?_⟩;have hl:=len _ _ _ _ hsp;have KX:K.In s.heap:=e0.mod.kin.keeps λb o e=>(e0.bs b o e).1;have lim:s.heap.NoLimit:=e0.mod.nolimit.keeps λb o e=>(e0.bs b o e).1;have hkind:∀y∈ps.zip us,scope.names.lookup y.1=some .local\/(scope.names.lookup y.1=some .cell/\((cellsFrom (s.heap.objs.size+1) scope.names []).lookup y.1).isSome=true):=λ⟨n,v⟩ hy=>by
  rcases S.par n (K96 hy).1 with q|q
  ·exact .inl q
  ·exact .inr ⟨q,K8t _ _ _ (.inl q)⟩
 refine codeAny_call_function hr.depth (KX _ _ lk) rfl S.co S.gen rfl (PySem.W.codeRec_of KX hcd) (hb _ _ _ _ ?_);refine wpAny_newFunctionEnv_cells S.kind hkind λenv he s1 x=>?_;subst he;refine⟨lim.keeps x.toInCall.keep,codeAny_func ?_⟩;obtain⟨t,ht,hq⟩:=hbody A outer s H vs Q E (hr.deeper _) hsp;have I:Inv (cxOf CX P w K mg base N qual scope f cdv A outer s H E) [] (start N vs) H s1:=zl0 S hr.hd e0 hl r x;refine K4a (ht [] s1 (start N vs) H _ I hq) (λfl s' hs=>?_) λe s' hs=>hs;have fin:∀{σ':St} {H':Hp} {v:V} {u:Value},Inv (cxOf CX P w K mg base N qual scope f cdv A outer s H E) [] σ' H' s'->RelV v u->Q v H'->CE outer P w H s Q u s' :=
  λ{σ' H' v u} J rv q=>⟨v,H',J.os,J.bare,J.base,J.hok,rv,q⟩
 cases fl with
 | ret u =>
  obtain⟨v,σ',H',J,rv,q⟩:=hs;exact fin J rv q
 | next =>
  obtain⟨σ',H',J,q⟩:=hs;exact fin (v:=V.non) (u:=K2x) J rfl q
 | brk =>
  obtain⟨_,_,_,q⟩:=hs;exact K47 q
 | cont =>
  obtain⟨_,_,_,q⟩:=hs;exact K47 q
section
variable {id T:String}
def tCB (r:List V->Hp->VK->Prop) (t:TA):TE:=λσ H Q=>t σ H λvs H1=>r vs H1 Q
theorem z1q (hc:z2C X (.builtin id) r) (hg:Gl X x) (hm:X.mg x=none) (hv:K55 x=some (.builtin id)) (ha:PA X (e::es) t) (hn:x≠"__name__":=by decide) (hdb:(x==("__debug__":Str))=false:=by decide)
 (he:K0g (e::es) X.env=(false,eval e X.env)::K0g es X.env:=by rfl) (hpl:(backTo pos (K0g es X.env)).any (·.1)=false:=by rfl):PE X (.Call (.Name x p) (e::es) [] pos) (tCB r t):=by
 intro pins s σ H Q I h;refine K7d (z55 I hg hm hv ?_ hn hdb);exact PyProof.Rows.callWith_builtin1 (thn (ha pos pins s σ H _ I h) λus s1 ⟨vs,H1,I1,r1,q1⟩=>hc pins s1 σ H1 vs us Q I1 r1 q1) he hpl
theorem z1C (hc:z2C X (.type T) r) (hg:Gl X x) (hm:X.mg x=none) (hv:K55 x=some (.type T)) (ha:PA X (e::es) t) (hn:x≠"__name__":=by decide) (hdb:(x==("__debug__":Str))=false:=by decide)
 (he:K0g (e::es) X.env=(false,eval e X.env)::K0g es X.env:=by rfl) (hpl:(backTo pos (K0g es X.env)).any (·.1)=false:=by rfl):PE X (.Call (.Name x p) (e::es) [] pos) (tCB r t):=by
 intro pins s σ H Q I h;refine K7d (z55 I hg hm hv ?_ hn hdb);exact K3f (thn (ha pos pins s σ H _ I h) λus s1 ⟨vs,H1,I1,r1,q1⟩=>hc pins s1 σ H1 vs us Q I1 r1 q1) he hpl
end
end L2
namespace HT
open PySem PyProof.Rows
variable{E Q:Value->Shared->Prop}{sl:Addr}{vl vu:Value}{lo hi:Option Int}
section
variable {prog:K1h}{w:World}{A:Around}{s:Shared}
theorem cat_tup {t b:Addr}{vs ws:List Value}{Q:Value->Shared->Prop}(ht:IsTup s.heap t vs.toArray) (hb:IsTup s.heap b ws.toArray) (hv:vs≠[])
 (h1:ws=[]->Q (.ref t) s) (h2:ws≠[]->Q (.ref .(5)) { s with heap:=s.heap.push { cls:=.type "tuple",data:=.seq (vs++ws).toArray } })
 (hsz:vs.length+ws.length<=sizeLine):wpAny (model prog w) A (K3c .Add (.ref t) (.ref b)) Q E s:=by
 obtain⟨⟨cls,dd,data,sl⟩,ho,hc,n,hd⟩:=id ht;obtain⟨⟨cls2,dd2,data2,sl2⟩,ho2,hc2,n2,hd2⟩:=id hb;simp only at hc hd hc2 hd2;subst hc hd hc2 hd2;have e:vs.toArray++ws.toArray=(vs++ws).toArray:=by simp
 by_cases hw:ws=[]
 ·exact Z2f ⟨_,ho,rfl⟩ ⟨_,ho2,rfl⟩ K8l Z1j K6b K5y (K5f _ _)
   (tuple_addW1 t b vs.toArray ws.toArray n n2 dd dd2 sl sl2 (by simpa using hv) (by simp[hw])) ⟨ho,ho2,h1 hw⟩
 ·refine Z2f ⟨_,ho,rfl⟩ ⟨_,ho2,rfl⟩ K8l Z1j K6b K5y (K5f _ _)
   (tuple_addW2 t b vs.toArray ws.toArray n n2 dd dd2 sl sl2 (by simpa using hv) (by simpa using hw) (by rw[K05,K05];exact hsz)) ⟨ho,ho2,?_⟩
  rw[e];exact h2 hw
def sIx (n d:Nat):Option Int->Nat
 | none=>d
 | some v=>if v<0 then (v+(n:Int)).toNat else min v.toNat n
theorem sIx_none (n d:Nat):sIx n d none=d:=rfl
theorem sIx_nat (n d k:Nat):sIx n d (some (k:Int))=min k n:=by
 show (if (k:Int)<0 then ((k:Int)+(n:Int)).toNat else min (k:Int).toNat n)=min k n;rw[if_neg .(0),K0f]
theorem zW7 (n d:Nat) (hd:d<=n) (o:Option Int):sIx n d o<=n:=by
 cases o with
 | none=>exact hd
 | some v =>
  show (if v<0 then (v+(n:Int)).toNat else min v.toNat n)<=n;by_cases hv:v<0
  ·rw[if_pos hv];omega
  ·rw[if_neg hv];exact Nat.min_le_right _ _
theorem zb5 (v:Int) (n d:Nat):(if v<0 then max (v+(n:Int)) 0 else min v (n:Int))=((sIx n d (some v):Nat):Int):=by
 show (if v<0 then max (v+(n:Int)) 0 else min v (n:Int))=(((if v<0 then (v+(n:Int)).toNat else min v.toNat n):Nat):Int);by_cases hv:v<0
 ·simp only[if_pos hv];omega
 ·simp only[if_neg hv];omega
theorem z9F (lo hi:Option Int) (n:Nat):K2u lo hi 1 (n:Int)=(((sIx n 0 lo:Nat):Int),((sIx n n hi:Nat):Int)):=by
 have h1:¬ ((1:Int)<0):=by omega
 unfold K2u;simp only[h1,if_false];refine Prod.ext ?_ ?_
 ·cases lo with
  | none=>rfl
  | some v=>exact zb5 v n 0
 ·cases hi with
  | none=>rfl
  | some v=>exact zb5 v n n
theorem z9I (i j:Nat):K1q (i:Int) (j:Int) 1=j - i:=by
 unfold K1q;have h1:(1:Int) > 0:=by omega
 simp only[h1,if_true,Z25];split<;>omega
theorem z5p {v:Value}{o:Option Int}{Q:Option Int->Shared->Prop}(p:IsPart v o) (h:Q o s):wpAny (model prog w) A (Builtin.Slice.slicePartIndex v) Q E s:=by
 cases p with
 | none=>exact K7b h
 | int i t=>exact slicePart_int h
theorem sliceApplied_gen {n:Nat}{Q:Int×Int×Nat->Shared->Prop}(hs:s.heap.IsSliceOf sl vl vu .none) (pl:IsPart vl lo) (pu:IsPart vu hi)
 (h:Q (((sIx n 0 lo:Nat):Int),1,sIx n n hi - sIx n 0 lo) s):wpAny (model prog w) A (K3o (.ref sl) (pure (n:Int))) Q E s:=by
 obtain⟨os,hos,hcs,hds⟩:=id hs;unfold K3o K7l;refine K0 (K0 (K42 hos hds (x:=vl) rfl (K0 (K42 hos hds (x:=vu) rfl (K0 (K42 hos hds (x:=.none) rfl (K8 ?_)))))));refine K0 (K7b ?_);show wpAny _ _ (if ((1:Int)==0)=true then _ else _) _ _ s;rw[if_neg .(1)];refine K0 (z5p pl (K0 (z5p pu (K0 (K8 ?_)))));show wpAny _ _ (match K2u lo hi 1 (n:Int) with|(lo,hi)=>pure (lo,(1:Int),K1q lo hi 1)) _ _ s;rw[z9F lo hi n];show wpAny _ _ (pure (((sIx n 0 lo:Nat):Int),(1:Int),K1q ((sIx n 0 lo:Nat):Int) ((sIx n n hi:Nat):Int) 1)) _ _ s;rw[z9I];exact K8 h
theorem zt8 (xs:Array Value) (i k:Nat):((K9 k).filterMap λ(m:Nat)=>xs[((i:Int)+(m:Int) * 1).toNat]?).toArray=((xs.toList.drop i).take k).toArray:=by
 have e:(λ(m:Nat)=>xs[((i:Int)+(m:Int) * 1).toNat]?)=λm=>xs[i+m]?:=by
  funext m;have:((i:Int)+(m:Int) * 1).toNat=i+m:=by omega
  rw[this]
 rw[e];have:=pick_run xs i k;rw[K5q]at this;have e2:((λx=>xs[x]?) ∘ λx=>i+x)=λm=>xs[i+m]?:=rfl;rw[e2]at this;rw[this]
theorem getItem_tuple_cut {t:Addr}{items:Array Value}{Q:Value->Shared->Prop}(ht:IsTup s.heap t items) (hs:s.heap.IsSliceOf sl vl vu .none) (pl:IsPart vl lo) (pu:IsPart vu hi)
 (hw:¬ (sIx .(v) 0 lo=0/\sIx .(v) .(v) hi=.(v)))
 (h:Q (.ref .(5)) { s with heap:=s.heap.push { cls:=.type "tuple",data:=.seq ((items.toList.drop (sIx .(v) 0 lo)).take (sIx .(v) .(v) hi - sIx .(v) 0 lo)).toArray } })
 (hsz:.(v)<=sizeLine):wpAny (model prog w) A (K5l (.ref t) (.ref sl)) Q E s:=by
 have htake:sizeOk (.seq ((items.toList.drop (sIx .(v) 0 lo)).take (sIx .(v) .(v) hi - sIx .(v) 0 lo)).toArray):=by
  show ((items.toList.drop (sIx .(v) 0 lo)).take (sIx .(v) .(v) hi - sIx .(v) 0 lo)).toArray.size<=sizeLine;rw[K05,K1t,K53,K16];omega
 have hj:sIx .(v) .(v) hi<=items.size:=zW7 _ _ (K01 _) hi;obtain⟨os,hos,hcs,hds⟩:=id hs;have hTs:s.TypeIs (.ref sl) "slice":=⟨os,hos,hcs⟩;unfold K5l
 try with_reducible refine K22 ?_
 first|refine K0 (K8 ?_)|skip
 refine K0 (K83 ht.typeIs .(1) ?_);refine K0 (K27 (name:=K3e "__getitem__") ht.typeIs K18
  (K1y K18 ht.typeIs K6w ?_ (K7f _ _)))
 show wpAny _ _ (K4y (.ref t) >>= _) _ _ s;refine K0 (Z1h ht ?_);refine K0 (K54 hTs ?_);rw[if_pos .(1)];refine K0 (sliceApplied_gen hs pl pu ?_);have hno:¬ ((((sIx .(v) 0 lo:Nat):Int)==0&&(1:Int)==1&&(sIx .(v) .(v) hi - sIx .(v) 0 lo)==.(v))=true):=by
  intro q;rw[K0c,K0c]at q;have q1:((sIx .(v) 0 lo:Nat):Int)=0:=eq_of_beq q.1.1;have q2:sIx .(v) .(v) hi - sIx .(v) 0 lo=items.size:=eq_of_beq q.2;exact hw ⟨by omega,by omega⟩
 show wpAny _ _ (if (((sIx .(v) 0 lo:Nat):Int)==0&&(1:Int)==1&&(sIx .(v) .(v) hi - sIx .(v) 0 lo)==.(v))=true then _ else _) _ _ s;rw[if_neg hno,zt8]
 first
  | exact K0 (m:=K1f _) (K14 (K8 ⟨_,rfl,K8 h⟩) htake)
  | exact K0 (m:=K1f _) (K14 (K0 (K8 (K8 ⟨_,rfl,K8 h⟩))) htake)
  | exact K0 (K0 (m:=K1f _) (K14 (K8 (K8 ⟨_,rfl,K8 h⟩)) htake))
  | exact K0 (K0 (m:=K1f _) (K14 (K8 ⟨_,rfl,K8 h⟩) htake))
end
end HT
namespace L2
variable{X:Cx}{pos:Pos}{r r':V->Option Int->Option Int->Hp->VK->Prop}{xs ys:List V}{us its its':List Value}{α:Type}{n t':Nat}{pins:List (Addr×Obj)}{σ:St}{H:Hp}{s:Shared}{f:Array Value->Array Value}{u v:Value}{T:String}
abbrev TO:=St->Hp->(Option Int->Hp->Prop)->Prop
def PO (X:Cx) (e:Option Expr) (t:TO):Prop :=
 ∀(pins:List .(x)) (s:Shared) (σ:St) (H:Hp) (Q:Option Int->Hp->Prop),Inv X pins σ H s->t σ H Q ->
  wpAny .(6) X.A (evalPart e X.env) (λu s'=>∃o H',Inv X pins σ H' s'/\IsPart u o/\Q o H') X.xe s
def zC1:TO:=λ_ H Q=>Q none H
def Z0T (t:TE):TO:=λσ H Q=>t σ H λx H1=>∃i,x=.int i/\Q (some i) H1
theorem intsAre_of {ns:List Int}:∀{us:List Value},Vals (ns.map V.int) us->K6d us ns:=by
 induction ns with
 | nil=>intro us r;rw[K3w]at r;cases r;exact .nil
 | cons n ns ih =>
  intro us r;rw[K0x]at r;cases r with
  | cons r1 r2 =>
   obtain⟨t,e⟩:=r1;subst e;exact .cons n t (ih r2)
section
variable {e:Expr}{te:TE}{lo hi:Option Expr}{tl th:TO}{p2:Pos}
theorem zz7:PO X none zC1:=by
 intro pins s σ H Q I h;rw[Z1k];exact K8 ⟨none,H,I,.none,h⟩
theorem zJ6 (h:PE X e te):PO X (some e) (Z0T te):=by
 intro pins s σ H Q I hw;rw[evalPart_some];refine thn (h pins s σ H _ I hw) λu s1 ⟨x,H1,I1,r1,q1⟩=>?_;obtain⟨i,rfl,q⟩:=q1;obtain⟨t,rfl⟩:=r1;exact⟨some i,H1,I1,.int i t,q⟩
def SlR (X:Cx) (r:V->Option Int->Option Int->Hp->VK->Prop):Prop :=
 ∀(pins:List .(x)) (s:Shared) (σ:St) (H:Hp) (x:V) (v vl vu:Value) (lo hi:Option Int) (sl:Addr) (Q:VK),Inv X pins σ H s->RelV x v->s.heap.IsSliceOf sl vl vu .none->IsPart vl lo->IsPart vu hi->r x lo hi H Q ->
  ∃T id,Z1q (.type T) "__getitem__" = pure (some (.builtin id))/\s.TypeIs v T/\wpAny .(6) X.A (K5l v (.ref sl)) (EP X pins σ Q) X.xe s
theorem SlR.or (h:SlR X r) (h':SlR X r'):SlR X (λx lo hi H Q=>r x lo hi H Q\/r' x lo hi H Q):=by
 intro pins s σ H x v vl vu lo hi sl Q I rx hs pl pu q;rcases q with q|q
 ·exact h pins s σ H x v vl vu lo hi sl Q I rx hs pl pu q
 ·exact h' pins s σ H x v vl vu lo hi sl Q I rx hs pl pu q
def tSl (r:V->Option Int->Option Int->Hp->VK->Prop) (te:TE) (tl th:TO):TE:=λσ H Q=>te σ H λx H1=>tl σ H1 λl H2=>th σ H2 λu H3=>r x l u H3 Q
theorem zn9 (hr:SlR X r) (he:PE X e te) (hl:PO X lo tl) (hu:PO X hi th):PE X (.Subscript e (.Slice lo hi none p2) pos) (tSl r te tl th):=by
 intro pins s σ H Q I h;refine Z1s (thn (he pins s σ H _ I h) λv s1 ⟨x,H1,I1,r1,q1⟩=>?_);refine wpAny_Slice (thn (hl pins s1 σ H1 _ I1 q1) λvl s2 ⟨l,H2,I2,pl,q2⟩=>thn (hu pins s2 σ H2 _ I2 q2) λvu s3 ⟨u,H3,I3,pu,q3⟩=>?_);rw[Z1k];refine K8 ?_;have I4:Inv X pins σ H3 { s3 with heap:=s3.heap.push { cls:=.type "slice",data:=.fields #[vl,vu,.none] } }:=I3.kept (t':=s3.toks) λb ob q=>K7 _ q;obtain⟨T,id,hT,ht,hg⟩:=hr pins { s3 with heap:=s3.heap.push { cls:=.type "slice",data:=.fields #[vl,vu,.none] } } σ H3 x v vl vu l u s3.heap.objs.size Q I4 r1 (Z1l ..) pl pu q3;show wpAny .(6) X.A (K8a e (.Slice lo hi none p2) v (.ref s3.heap.objs.size)) (EP X pins σ Q) X.xe { s3 with heap:=s3.heap.push { cls:=.type "slice",data:=.fields #[vl,vu,.none] } };exact tail_any (ops:=[.ref s3.heap.objs.size,v]) ht hT hg (by with_unfolding_all rfl)
def cutV (xs:List V) (lo hi:Option Int):List V:=(xs.drop (HT.sIx xs.length 0 lo)).take (HT.sIx xs.length xs.length hi - HT.sIx xs.length 0 lo)
theorem z4v (xs:List V) (lo hi:Option Int):(cutV xs lo hi).length<=xs.length:=by
 unfold cutV;rw[K1t,K53];omega
def rSlT (K:K6):V->Option Int->Option Int->Hp->VK->Prop:=λx lo hi H Q=>∃a xs,x=.ref a/\SqT K H a xs /\
 ¬ (HT.sIx xs.length 0 lo=0/\HT.sIx xs.length xs.length hi=xs.length)/\∀p,H p=none->Q (.ref p) (upd H p (.tup (cutV xs lo hi)))
theorem sl_tup:SlR X (rSlT X.K):=by
 intro pins s σ H x v vl vu lo hi sl Q I rx hs pl pu h;obtain⟨a,xs,rfl,hx,hw,q⟩:=h;cases rx;obtain⟨its,r,ht,hz⟩:=I.tuple hx;have hlen:its.toArray.size=xs.length:=by rw[K05];exact r.length.symm
 refine⟨"tuple",_,K18.lookup,ht.typeIs,?_⟩;refine HT.getItem_tuple_cut ht hs pl pu (by rw[hlen];exact hw) ?_ (by rw[hlen];exact hz);rw[hlen];refine⟨.ref .(5),_,I.laid (t':=s.toks) (o:=.tup (cutV xs lo hi)) (λb ob q=>K7 _ q) (K01 _) ?_,rfl,q _ (I.hok.fresh (K01 _))⟩;exact⟨K0d (z4v xs lo hi) hz,_,(r.drop (HT.sIx xs.length 0 lo)).take (HT.sIx xs.length xs.length hi - HT.sIx xs.length 0 lo),FT.IsTup0.new _ _⟩
def zD4 (K:K6):R2:=λx y H Q=>∃a b xs ys,x=.ref a/\y=.ref b/\SqT K H a xs/\SqT K H b ys/\xs≠[]/\xs.length+ys.length<=sizeLine /\
 (ys=[]->Q (.ref a) H)/\(ys≠[]->∀p,H p=none->Q (.ref p) (upd H p (.tup (xs++ys))))
theorem Vals.nil_iff (r:Vals xs us):us=[]↔xs=[]:=by
 cases r with
 | nil=>simp
 | cons _ _=>simp
theorem op_catT:OpR X (K3c .Add) (zD4 X.K):=by
 intro pins s σ H x y v u Q I rx ry h;obtain⟨a,b,xs,ys,rfl,rfl,ha,hb,hx,hz,q1,q2⟩:=h;cases rx;cases ry;obtain⟨its,r1,p1,_⟩:=I.tuple ha;obtain⟨its2,r2,p2,_⟩:=I.tuple hb;refine HT.cat_tup p1 p2 (λz=>hx (r1.nil_iff.mp z)) (λz=>⟨.ref a,H,I,rfl,q1 (r2.nil_iff.mp z)⟩) (λz=>?_) (by rw[<- r1.length,<- r2.length];exact hz);refine⟨.ref .(5),_,I.laid (t':=s.toks) (o:=.tup (xs++ys)) (λb ob q=>K7 _ q) (K01 _) ?_,rfl,q2 (λw=>z (r2.nil_iff.mpr w)) _ (I.hok.fresh (K01 _))⟩;exact⟨by rw[K04];exact hz,_,r1.append r2,FT.IsTup0.new _ _⟩
end
def ixN (n:Nat) (i:Int):Option Nat:=if 0<=i then (if i<n then some i.toNat else none) else if -(n:Int)<=i then some (i+n).toNat else none
def atI (xs:List α) (i:Int):Option α:=(ixN xs.length i).bind λj=>xs[j]?
theorem zc8 {i:Int}{j:Nat}(h:ixN n i=some j):K5v i n=some j/\j<n/\-(n:Int)<=i/\i<n:=by
 unfold ixN at h;by_cases h0:0<=i
 ·rw[if_pos h0]at h;by_cases h1:i<n
  ·rw[if_pos h1]at h;have e:i.toNat=j:=K1b h;exact⟨by rw[Z2y h0 h1,e],by omega,by omega,h1⟩
  ·rw[if_neg h1]at h;cases h
 ·rw[if_neg h0]at h;by_cases h1:-(n:Int)<=i
  ·rw[if_pos h1]at h;have e:(i+n).toNat=j:=K1b h;exact⟨by rw[Z2e .(0) h1,e],by omega,h1,by omega⟩
  ·rw[if_neg h1]at h;cases h
theorem z7x {xs:List α}{i:Int}{v:α}(h:atI xs i=some v):∃j,K5v i xs.length=some j/\xs[j]?=some v/\j<xs.length/\-(xs.length:Int)<=i/\i<xs.length:=by
 unfold atI at h;cases e:ixN xs.length i with
 | none=>rw[e]at h;cases h
 | some j =>
  rw[e]at h;obtain⟨h1,h2,h3,h4⟩:=zc8 e;exact⟨j,h1,h,h2,h3,h4⟩
theorem z1x {xs:List α}{j:Nat}{v:α}(h:xs[j]?=some v):atI xs (j:Int)=some v:=by
 have hj:j<xs.length:=(K3.mp h).1;have e:ixN xs.length (j:Int)=some j:=by
  unfold ixN;rw[if_pos .(0),if_pos .(0)];simp
 unfold atI;rw[e];exact h
theorem z91 (xs:List α) (v:α):atI (xs++[v]) (-1)=some v:=by
 have hl:(xs++[v]).length=xs.length+1:=by simp
 have e:ixN (xs++[v]).length (-1)=some xs.length:=by
  unfold ixN;rw[hl,if_neg .(1),if_pos .(0)];congr 1;omega
 unfold atI;rw[e];show (xs++[v])[xs.length]?=some v;simp
def zf0 (b:Expr):Prop:=∀o i,K9n b false o i=operate [o,i] (K5l o i)
def IxR (X:Cx) (r:R2):Prop :=
 ∀(value slice:Expr) (pins:List .(x)) (s:Shared) (σ:St) (H:Hp) (x y:V) (v u:Value) (Q:VK),Inv X pins σ H s->RelV x v->RelV y u->r x y H Q ->
  K9n slice false v u=operate [v,u] (K5l v u)->wpAny .(6) X.A (K8a value slice v u) (EP X pins σ Q) X.xe s
def MtR (X:Cx) (id:String) (r:V->List V->Hp->VK->Prop):Prop :=
 ∀(pins:List .(x)) (s:Shared) (σ:St) (H:Hp) (x:V) (xs:List V) (v:Value) (us:List Value) (Q:VK),Inv X pins σ H s->RelV x v->Vals xs us->r x xs H Q ->
  wpAny .(6) X.A (call (.builtin id) (v::us)) (EP X pins σ Q) X.xe s
section
variable {a b:Expr}{ta tb:TE}
theorem IxR.or {r r':R2}(h:IxR X r) (h':IxR X r'):IxR X (λx y H Q=>r x y H Q\/r' x y H Q):=by
 intro value slice pins s σ H x y v u Q I rx ry q hs;rcases q with q|q
 ·exact h value slice pins s σ H x y v u Q I rx ry q hs
 ·exact h' value slice pins s σ H x y v u Q I rx ry q hs
theorem Z0D {r:R2}(hr:IxR X r) (ha:PE X a ta) (hb:PE X b tb) (hs:zf0 b):PE X (.Subscript a b pos) (tOp r ta tb):=by
 intro pins s σ H Q I h;exact Z1s (binT ha hb I h λv u s2 x y H2 I2 rx ry q=>hr a b pins s2 σ H2 x y v u Q I2 rx ry q (hs _ _))
def rIxL (K:K6):R2:=λx y H Q=>∃p xs i v,x=.ref p/\y=.int i/\SqL K H p xs/\atI xs i=some v/\Q v H
def rIxT (K:K6):R2:=λx y H Q=>∃p xs i v,x=.ref p/\y=.int i/\SqT K H p xs/\atI xs i=some v/\Q v H
def rIxS:R2:=λx y H Q=>∃z i c,x=.str z/\y=.int i/\z.length<=sizeLine/\atI z.cps.toList i=some c/\Q (.str ⟨#[c]⟩) H
theorem ix_list:IxR X (rIxL X.K):=by
 intro value slice pins s σ H x y v u Q I rx ry h hs;obtain⟨p,xs,i,z,rfl,rfl,hq,he,q⟩:=h;cases rx;obtain⟨t,rfl⟩:=ry;obtain⟨its,r,pl,hz⟩:=I.list hq;obtain⟨j,h1,h2,h3,h4,h5⟩:=z7x he;obtain⟨w,ew,rw'⟩:=r.get h2;have hl:=.(k);have hn:=z54;have fin:EP X pins σ Q w s:=⟨z,H,I,rw',q⟩;by_cases h0:0<=i
 ·have hj:i.toNat=j:=by
   rw[Z2y h0 h5]at h1;exact K1b h1
  exact item_listR pl.isList h0 .(0) (by rw[hj];simpa using ew) fin hs
 ·have hj:(i+(its.toArray.size:Int)).toNat=j:=by
   rw[Z2e .(0) h4]at h1;rw[K05,<- hl];exact K1b h1
  exact K92 (x:=w) pl.isList.typeIs K7p.lookup
   (wpAny_getItem_list_neg (Q:=λr s'=>r=w/\EP X pins σ Q r s') pl.isList .(0) (by rw[K05]<;>omega) .(0) (by rw[hj];simpa using ew) ⟨rfl,fin⟩) hs
theorem ix_tup:IxR X (rIxT X.K):=by
 intro value slice pins s σ H x y v u Q I rx ry h hs;obtain⟨p,xs,i,z,rfl,rfl,hq,he,q⟩:=h;cases rx;obtain⟨t,rfl⟩:=ry;obtain⟨its,r,pl,hz⟩:=I.tuple hq;obtain⟨j,h1,h2,h3,h4,h5⟩:=z7x he;obtain⟨w,ew,rw'⟩:=r.get h2;have hl:=.(k);have hn:=z54;have fin:EP X pins σ Q w s:=⟨z,H,I,rw',q⟩;exact K92 (x:=w) pl.typeIs slot_tuple_getitem.lookup
  (getItem_tuple (j:=j) (Q:=λr s'=>r=w/\EP X pins σ Q r s') pl .(0) .(0) (by rw[K05,<- hl];exact h1) (by simpa using ew) ⟨rfl,fin⟩) hs
theorem zQ5:IxR X rIxS:=by
 intro value slice pins s σ H x y v u Q I rx ry h hs;obtain⟨z,i,c,rfl,rfl,hz,he,q⟩:=h;obtain⟨t,rfl⟩:=rx;obtain⟨t',rfl⟩:=ry;obtain⟨j,h1,h2,h3,h4,h5⟩:=z7x he;have hl:z.cps.toList.length=z.length:=by simp[Z1o]
 rw[hl]at h1 h4 h5;have hn:=z54;exact tail_any (typeIs_str s z t) slot_str_getitem.lookup (getItem_str (c:=c) (by
  have e1:decide (i < -(2 ^ 63:Int))=false:=.(m) .(0);have e2:decide (i >= 2 ^ 63)=false:=.(m) .(0);rw[e1,e2,Bool.or_false]) (by rw[h1];simpa using h2) ⟨.str ⟨#[c]⟩,H,I.tok _,⟨_,rfl⟩,q⟩) hs
def rIx (K:K6):R2:=λx y H Q=>rIxL K x y H Q\/rIxT K x y H Q\/rIxS x y H Q
theorem zW5:IxR X (rIx X.K):=ix_list.or (ix_tup.or zQ5)
theorem z9d (its:List Value) (n j:Nat) (u:Value):K5o (·.setIfInBounds j u) { cls:=.type "list",data:=.seq its.toArray n }={ cls:=.type "list",data:=.seq (its.set j u).toArray n }:=by
 simp[K5o]
theorem Inv.lst {pins:List .(x)}{σ:St}{H:Hp}{s:Shared}{p:Addr}{xs:List V}(I:Inv X pins σ H s) (h:H p=.(l xs)) :
 ∃(its:List Value) (n:Nat),Vals xs its/\s.heap.get? p=some { cls:=.type "list",data:=.seq its.toArray n }/\xs.length<=sizeLine:=by
 obtain⟨z,its,n,r,e⟩:=I.hok p _ h;exact⟨its,n,r,e,z⟩
theorem Inv.lstUpd {p:Addr}{ys:List V}{its its':List Value}{n n':Nat}{f:Obj->Obj}(I:Inv X pins σ H s) (h:H p=.(l xs))
 (ho:s.heap.get? p=some { cls:=.type "list",data:=.seq its.toArray n }) (hf:f { cls:=.type "list",data:=.seq its.toArray n }={ cls:=.type "list",data:=.seq its'.toArray n' }) (r:Vals ys its') (hz:ys.length<=sizeLine) (t:Nat) :
 Inv X pins σ (upd H p (.lst ys)) { s with heap:=s.heap.update p f,toks:=t }:=by
 have e:(s.heap.update p f).get? p=some { cls:=.type "list",data:=.seq its'.toArray n' }:=by
  rw[K3s f ho (by rw[hf]<;>rfl),hf]
 refine I.write (x:=p) (e:=p) (by rw[h];trivial) (.inl rfl) (λb u hb q=>(K3h _ _ (K5j hb)).trans q) ⟨_,e⟩ ?_;exact⟨hz,its',n',r,e⟩
def Z0C:V->V->V->Hp->(Hp->Prop)->Prop:=λo i v H Q=>∃p xs k j,o=.ref p/\i=.int k/\H p=.(l xs)/\ixN xs.length k=some j/\Q (upd H p (.lst (xs.set j v)))
theorem set_list:PSet X Z0C:=by
 intro pins s σ H o i v ov iv u Q I ro ri rv h;obtain⟨p,xs,k,j,rfl,rfl,hp,hj,q⟩:=h;cases ro;obtain⟨t,rfl⟩:=ri;obtain⟨its,n,r,ho,hz⟩:=I.lst hp;obtain⟨h1,h2,h3,h4⟩:=zc8 hj;have hl:=.(k);have hn:=z54;have I':Inv X pins σ (upd H p (.lst (xs.set j v))) { s with heap:=s.heap.update p (K5o (·.setIfInBounds j u)) } :=
  I.lstUpd hp ho (z9d its n j u) (r.set rv j) (by rw[K5h];exact hz) s.toks
 by_cases h0:0<=k
 ·have hk:k.toNat=j:=by
   rw[Z2y h0 h4]at h1;exact K1b h1
  exact PySem.W.ki_setAt ho h0 .(0) (by rw[K05,<- hl];exact h4) (by rw[hk];exact⟨_,I',q⟩)
 ·have hk:(k+(its.toArray.size:Int)).toNat=j:=by
   rw[Z2e .(0) h3]at h1;rw[K05,<- hl];exact K1b h1
  exact PySem.W.ki_setBack ho .(0) (by rw[K05,<- hl];exact h3) .(0) (by rw[hk];exact⟨_,I',q⟩)
theorem z6U (lo hi:Option Int) (n:Nat):(K4d lo hi none n).1=((HT.sIx n 0 lo:Nat):Int)/\(K4d lo hi none n).2.1=((HT.sIx n n hi:Nat):Int)/\(K4d lo hi none n).2.2=1:=by
 refine⟨?_,?_,rfl⟩
 ·cases lo with
  | none=>simp[K4d,HT.sIx]
  | some i =>
   simp only[K4d,HT.sIx,Z2k,show (1:Int) > 0 by decide,if_true];by_cases h:i<0
   ·simp only[h,if_true]<;>omega
   ·simp only[h,if_false]<;>omega
 ·cases hi with
  | none=>simp[K4d,HT.sIx]
  | some i =>
   simp only[K4d,HT.sIx,Z2k,show (1:Int) > 0 by decide,if_true];by_cases h:i<0
   ·simp only[h,if_true]<;>omega
   ·simp only[h,if_false]<;>omega
theorem z5E (its:List Value) (lo hi:Option Int):Z2m its.toArray lo hi none=((its.drop (HT.sIx its.length 0 lo)).take (HT.sIx its.length its.length hi - HT.sIx its.length 0 lo)).toArray:=by
 obtain⟨h1,h2,h3⟩:=z6U lo hi its.toArray.size;unfold Z2m;rw[h1,h2,h3];simp only[sliceRange_one,pick_run,K05]<;>rfl
def rSlL (K:K6):V->Option Int->Option Int->Hp->VK->Prop:=λx lo hi H Q=>∃a xs,x=.ref a/\SqL K H a xs/\∀p,H p=none->Q (.ref p) (upd H p (.lst (cutV xs lo hi)))
theorem sl_list:SlR X (rSlL X.K):=by
 intro pins s σ H x v vl vu lo hi sl Q I rx hs pl pu h;obtain⟨a,xs,rfl,hx,q⟩:=h;cases rx;obtain⟨its,r,ht,hz⟩:=I.list hx;have hlen:=.(k);refine⟨"list",_,K7p.lookup,ht.isList.typeIs,?_⟩;refine K8c ht.isList hs pl pu .none .(f) ?_ (by rw[K05]<;>omega);rw[z5E,<- hlen];refine⟨.ref .(5),_,I.laid (t':=s.toks) (o:=.lst (cutV xs lo hi)) (λb ob q=>K7 _ q) (K01 _) ?_,rfl,q _ (I.hok.fresh (K01 _))⟩;exact⟨K0d (z4v xs lo hi) hz,_,0,(r.drop (HT.sIx xs.length 0 lo)).take (HT.sIx xs.length xs.length hi - HT.sIx xs.length 0 lo),K0a _ rfl⟩
def z4Y:V->Bool
 | .non=>true
 | .bl _=>true
 | .int _=>true
 | .str _=>true
 | _=>false
def eqV:V->V->Bool
 | .non,.non=>true
 | .bl a,.bl b=>a==b
 | .bl a,.int b=>(if a then 1 else 0)==b
 | .int a,.bl b=>a==(if b then 1 else 0)
 | .int a,.int b=>a==b
 | .str a,.str b=>a==b
 | _,_=>false
theorem zU7 {A:Around}{y x:V}(ry:RelV y u) (rx:RelV x v) (fy:z4Y y=true) (fx:z4Y x=true):SeqAt.EqAt A s u v (eqV y x):=by
 cases y with
 | non =>
  cases ry;cases x with
  | non=>cases rx;exact SeqAt.EqAt.same _
  | bl b=>cases rx;exact SeqAt.EqAt.none_bool b
  | int b=>obtain⟨t,rfl⟩:=rx;exact SeqAt.EqAt.none_int b t
  | str b=>obtain⟨t,rfl⟩:=rx;exact SeqAt.EqAt.none_str b t
  | _=>exact absurd (show false=true from fx) K11
 | bl a =>
  cases ry;cases x with
  | non=>cases rx;exact SeqAt.EqAt.bool_none a
  | bl b=>cases rx;exact SeqAt.EqAt.bool_bool a b
  | int b=>obtain⟨t,rfl⟩:=rx;exact SeqAt.EqAt.bool_int a b t
  | str b=>obtain⟨t,rfl⟩:=rx;exact SeqAt.EqAt.bool_str a b t
  | _=>exact absurd (show false=true from fx) K11
 | int a =>
  obtain⟨t',rfl⟩:=ry;cases x with
  | non=>cases rx;exact SeqAt.EqAt.int_none a t'
  | bl b=>cases rx;exact SeqAt.EqAt.int_bool a t' b
  | int b=>obtain⟨t,rfl⟩:=rx;exact SeqAt.EqAt.int_int a t' b t
  | str b=>obtain⟨t,rfl⟩:=rx;exact Z1n a t' b t
  | _=>exact absurd (show false=true from fx) K11
 | str a =>
  obtain⟨t',rfl⟩:=ry;cases x with
  | non=>cases rx;exact SeqAt.EqAt.str_none a t'
  | bl b=>cases rx;exact SeqAt.EqAt.str_bool a t' b
  | int b=>obtain⟨t,rfl⟩:=rx;exact Z1m a t' b t
  | str b=>obtain⟨t,rfl⟩:=rx;exact SeqAt.EqAt.str_str a t' b t
  | _=>exact absurd (show false=true from fx) K11
 | _=>exact absurd (show false=true from fy) K11
def eqU (x:V) (u:Value):Bool:=match u with
 | .none=>eqV .non x
 | .bool b=>eqV (.bl b) x
 | .int i _=>eqV (.int i) x
 | .str z _=>eqV (.str z) x
 | _=>false
theorem zx0 {x y:V}(r:RelV y u) (f:z4Y y=true):eqU x u=eqV y x:=by
 cases y with
 | non=>cases r;rfl
 | bl b=>cases r;rfl
 | int i=>obtain⟨t,rfl⟩:=r;rfl
 | str z=>obtain⟨t,rfl⟩:=r;rfl
 | _=>exact absurd (show false=true from f) K11
theorem z4s {x:V}:∀{xs:List V}{us:List Value},Vals xs us->xs.all z4Y=true->us.any (eqU x)=xs.any λy=>eqV y x
 | _,_,.nil,_=>rfl
 | y::xs,u::us,.cons r t,f=>by
  rw[K58,K0c]at f;rw[K2j,K2j,zx0 r f.1,z4s t f.2]
theorem z3o {A:Around}{s:Shared}{x:V}{v:Value}(rx:RelV x v) (fx:z4Y x=true):∀{xs:List V}{us:List Value},Vals xs us->xs.all z4Y=true->∀u∈us,SeqAt.EqAt A s u v (eqU x u)
 | _,_,.nil,_=>λu hu=>by cases hu
 | y::xs,u::us,.cons r t,f=>λu' hu=>by
  rw[K58,K0c]at f;rcases K12.mp hu with rfl|hu
  ·rw[zx0 r f.1];exact zU7 r rx f.1 fx
  ·exact z3o rx fx t f.2 u' hu
def inV (x:V) (xs:List V):Bool:=xs.any λy=>eqV y x
def rIn (K:K6) (neg:Bool):R2:=λx y H Q=>∃p xs,y=.ref p/\(SqL K H p xs\/SqT K H p xs)/\z4Y x=true/\xs.all z4Y=true/\Q (.bl (if neg then !inV x xs else inV x xs)) H
theorem zj9:OpR X (K20 .In) (rIn X.K false):=by
 intro pins s σ H x y v u Q I rx ry h;obtain⟨p,xs,rfl,hq,fx,fs,q⟩:=h;cases ry;rcases hq with hq|hq
 ·obtain⟨its,r,pl,hz⟩:=I.list hq;refine SeqAt.in_listAt (eqU x) pl.isList (λw hw=>z3o rx fx r fs w (by simpa using hw)) ⟨.bl _,H,I,rfl,?_⟩;rw[show its.toArray.any (eqU x)=its.any (eqU x) by simp,z4s r fs];exact q
 ·obtain⟨its,r,pl,hz⟩:=I.tuple hq;refine SeqAt.in_tupleAt (eqU x) pl (λw hw=>z3o rx fx r fs w (by simpa using hw)) ⟨.bl _,H,I,rfl,?_⟩;rw[show its.toArray.any (eqU x)=its.any (eqU x) by simp,z4s r fs];exact q
theorem z6s:OpR X (K20 .NotIn) (rIn X.K true):=by
 intro pins s σ H x y v u Q I rx ry h;obtain⟨p,xs,rfl,hq,fx,fs,q⟩:=h;cases ry;rcases hq with hq|hq
 ·obtain⟨its,r,pl,hz⟩:=I.list hq;refine SeqAt.notIn_listAt (eqU x) pl.isList (λw hw=>z3o rx fx r fs w (by simpa using hw)) ⟨.bl _,H,I,rfl,?_⟩;rw[show its.toArray.any (eqU x)=its.any (eqU x) by simp,z4s r fs];exact q
 ·obtain⟨its,r,pl,hz⟩:=I.tuple hq;refine SeqAt.notIn_tupleAt (eqU x) pl (λw hw=>z3o rx fx r fs w (by simpa using hw)) ⟨.bl _,H,I,rfl,?_⟩;rw[show its.toArray.any (eqU x)=its.any (eqU x) by simp,z4s r fs];exact q
theorem z7a:z2C X (.type "list") (λxs H Q=>∃p ys,xs=[.ref p]/\(SqL X.K H p ys\/SqT X.K H p ys)/\∀l,H l=none->Q (.ref l) (upd H l (.lst ys))):=by
 intro pins s σ H xs us Q I r h;obtain⟨p,ys,rfl,hq,q⟩:=h;obtain⟨u,rfl,rx⟩:=vals1 r;cases rx;have fin:∀(its:List Value),Vals ys its->ys.length<=sizeLine->∀(h':Heap) (c':Nat),(∀b o',s.heap.get? b=some o'->h'.get? b=some o') ->
  h'.get? .(5)=some { cls:=.type "list",dict:=none,data:=.seq its.toArray c',slots:=#[] }->EP X pins σ Q (.ref .(5)) { s with heap:=h' }:=λits r' hz h' c' kp e =>
  ⟨.ref .(5),_,I.laid (t':=s.toks) kp (K01 _) (show ObjOk X.prog X.w _ h' _ (.lst ys) from⟨hz,its,c',r',e⟩),rfl,q _ (I.hok.fresh (K01 _))⟩
 rcases hq with hq|hq
 ·obtain⟨its,r',pl,hz⟩:=I.list hq;have hlen:=r'.length;obtain⟨o,ho,hc,n,hd⟩:=pl.isList;exact call_list_seq p (.inl rfl) ho hc hd (λh' c' kp e=>fin its r' hz h' c' kp e) (by simp only[K05]<;>omega)
 ·obtain⟨its,r',pl,hz⟩:=I.tuple hq;have hlen:=r'.length;obtain⟨o,ho,hc,n,hd⟩:=pl;exact call_list_seq p (.inr rfl) ho hc hd (λh' c' kp e=>fin its r' hz h' c' kp e) (by simp only[K05]<;>omega)
theorem z63:z2C X (.type "tuple") (λxs H Q=>∃p ys,xs=[.ref p]/\((SqL X.K H p ys/\∀l,H l=none->Q (.ref l) (upd H l (.tup ys)))\/(SqT X.K H p ys/\Q (.ref p) H))):=by
 intro pins s σ H xs us Q I r h;obtain⟨p,ys,rfl,h⟩:=h;obtain⟨u,rfl,rx⟩:=vals1 r;cases rx;rcases h with ⟨hq,q⟩|⟨hq,q⟩
 ·obtain⟨its,r',pl,hz⟩:=I.list hq;have hlen:=r'.length;refine call_tuple_list pl.isList (λh' kp=>?_) (by simp only[K05]<;>omega);have I1:Inv X pins σ H { s with heap:=h' }:=I.kept (t':=s.toks) kp;have I2:Inv X pins σ (upd H h'.objs.size (.tup ys)) { s with heap:=h'.push { cls:=.type "tuple",data:=.seq its.toArray } } :=
   I1.laid (t':=s.toks) (λb o e=>K7 _ e) (K01 _) (show ObjOk X.prog X.w _ _ _ (.tup ys) from⟨hz,its,r',FT.IsTup0.new _ _⟩)
  exact⟨.ref h'.objs.size,_,I2,rfl,q _ (I1.hok.fresh (K01 _))⟩
 ·obtain⟨its,r',pl,hz⟩:=I.tuple hq;exact call_tuple_same pl ⟨.ref p,H,I,rfl,q⟩
def tyV (K:K6) (T:String) (x:V) (H:Hp):Prop:=match x with
 | .str _=>T = "str"
 | .int _=>T = "int"
 | .ref p=>(T = "list"/\∃xs,SqL K H p xs)\/(T = "tuple"/\∃o,K.lookup p=some o/\o.cls=.type "tuple"/\o.dict=none) \/
  (T = "dict"/\((∃kvs,H p=some (.dK kvs))\/∃kvs,H p=some (.dT kvs)))\/(T = "set"/\∃ks,H p=some (.set ks))
 | _=>False
theorem zP6 {x:V}(I:Inv X pins σ H s) (r:RelV x v) (ty:tyV X.K T x H):
 s.TypeIs v T/\∀a,v=.ref a->∃ob,s.heap.get? a=some ob/\ob.dict=none:=by
 cases x with
 | str z =>
  obtain⟨t,rfl⟩:=r;cases (show T = "str" from ty);exact⟨typeIs_str s z t,λ_ e=>nomatch e⟩
 | int i =>
  obtain⟨t,rfl⟩:=r;cases (show T = "int" from ty);exact⟨K8r s i t,λ_ e=>nomatch e⟩
 | ref p =>
  cases r;rcases ty with ⟨rfl,xs,hq⟩|⟨rfl,o,hk,hc,hd⟩|⟨rfl,hk⟩|⟨rfl,ks,hk⟩
  ·obtain⟨its,_,pl,_⟩:=I.list hq;refine⟨pl.isList.typeIs,λa e=>?_⟩;cases e;obtain⟨o,n,e,c,hd,_⟩:=pl;exact⟨o,e,hd⟩
  ·refine⟨⟨o,I.kIn p o hk,hc⟩,λa e=>?_⟩;cases e;exact⟨o,I.kIn _ o hk,hd⟩
  ·have z:∃o,s.heap.get? p=some o/\o.ExactDict:=by
    rcases hk with ⟨kvs,hk⟩|⟨kvs,hk⟩
    ·obtain⟨_,_,_,_,o,_,_,e,ex,_⟩:=I.hok p _ hk;exact⟨o,e,ex⟩
    ·obtain⟨_,_,_,_,o,_,_,e,ex,_⟩:=I.hok p _ hk;exact⟨o,e,ex⟩
   obtain⟨o,e,ex⟩:=z;refine⟨⟨o,e,ex.1⟩,λa e2=>?_⟩;cases e2;exact⟨o,e,ex.2.1⟩
  ·obtain⟨o,_,_,_,_,e,ex,_⟩:=I.hok p _ hk;refine⟨⟨o,e,ex.1⟩,λa e2=>?_⟩;cases e2;exact⟨o,e,ex.2.1⟩
 | _=>exact K47 ty
def tBM (K:K6) (T:String) (r:V->List V->Hp->VK->Prop) (to:TE) (t:TA):TE:=λσ H Q=>to σ H λx H1=>tyV K T x H1/\t σ H1 λxs H2=>r x xs H2 Q
variable {o e:Expr}{es:List Expr}{to:TE}{t:TA}{name:Str}{apos cpos:Pos}{id:String}{r:V->List V->Hp->VK->Prop}
theorem zI0 (pa:PlainAttrs T) (slot:Slot T name id) (hty:typeOf (.builtin id)=pure (.type "method_descriptor")) (hm:MtR X id r) (ho:PE X o to) (ha:PA X (e::es) t)
 (hbase:K5d o name X.env (eval o X.env)=eval o X.env:=by rfl)
 (hfew:((backTo cpos (K0g (e::es) X.env)).all (λx=>!x.1)&&(K9l cpos (K6q [] X.env)).all (λx=>x.1.isSome)
 &&decide ((e::es).length+([]:List K6c).length+(if ([]:List K6c).isEmpty then 0 else 1)<30))=true:=by rfl)
 (hline:(apos.endLine==cpos.line)=true:=by rfl) (hs:K0g (e::es) X.env=(false,eval e X.env)::K0g es X.env:=by rfl) (hplain:(backTo cpos (K0g es X.env)).any (·.1)=false:=by rfl) :
 PE X (.Call (.Attribute o name apos) (e::es) [] cpos) (tBM X.K T r to t):=by
 intro pins s σ H Q I h;refine K91 hbase hfew hline rfl (thn (ho pins s σ H _ I h) λv s1 ⟨x,H1,I1,r1,ty,q1⟩=>?_);obtain⟨h1,h2⟩:=zP6 I1 r1 ty;refine⟨T,id,pa,slot,hty,h1,h2,?_⟩;have hA:=ha cpos pins s1 σ H1 _ I1 q1;rw[hs]at hA ⊢;refine K8u (by show (false||(backTo cpos (K0g es X.env)).any (·.1))=false;rw[hplain]<;>rfl) (K9o ?_);exact thn hA λus s2 ⟨vs,H2,I2,r2,q2⟩=>hm pins s2 σ H2 x vs v us Q I2 r1 r2 q2
end
def MtM (X:Cx) (id:String) (r:V->List V->Hp->VK->Prop):Prop :=
 ∀(pins:List .(x)) (s:Shared) (σ:St) (H:Hp) (x:V) (xs:List V) (v:Value) (us:List Value) (Q:VK),Inv X pins σ H s->RelV x v->Vals xs us->r x xs H Q ->
  wpAny .(6) X.A (call (.builtin id) (v::us)) (EP X pins σ Q) X.xe s
theorem Vals.one:∀{x:V}{us:List Value},Vals [x] us->∃u,us=[u]/\RelV x u
 | _,_,.cons r .nil=>⟨_,rfl,r⟩
theorem Vals.eraseIdx:∀{xs:List V}{us:List Value}(i:Nat),Vals xs us->Vals (xs.eraseIdx i) (us.eraseIdx i)
 | _,_,_,.nil=>.nil
 | _,_,0,.cons _ t=>t
 | _,_,i+1,.cons r t=>.cons r (Vals.eraseIdx i t)
theorem Vals.reverse {xs:List V}{us:List Value}(h:Vals xs us):Vals xs.reverse us.reverse:=by
 induction h with
 | nil=>exact .nil
 | cons r t ih=>rw[K4u,K4u];exact Vals.append ih (.cons r .nil)
theorem Vals.rep {xs:List V}{us:List Value}(h:Vals xs us):∀k:Nat,Vals (K0n k xs).flatten (K0n k us).flatten
 | 0=>.nil
 | k+1=>by
  rw[K2p,K2p,K3y,K3y];exact Vals.append h (Vals.rep h k)
theorem z6p {α:Type}:∀(l:List α) (i:Nat),(l.eraseIdx i).length<=l.length
 | [],_=>K01 _
 | _::_,0=>K4x _
 | _::r,i+1=>Nat.succ_le_succ (z6p r i)
theorem foldl_rep (its:List Value):∀(k:Nat) (acc:List Value),
 K5n (λx1 x2=>x1++x2) acc.toArray (K0n k its.toArray)=(acc++(K0n k its).flatten).toArray
 | 0,acc=>by simp
 | k+1,acc=>by
  have e:acc.toArray++its.toArray=(acc++its).toArray:=by simp
  have e2:(acc++its)++(K0n k its).flatten=acc++(K0n (k+1) its).flatten:=by
   rw[K2p,K3y,K06]
  rw[<- e2,<- foldl_rep its k (acc++its),<- e,K2p,K4m]
section
variable {l b:Addr}{zs:List V}
theorem Inv.lset {its its':List Value}{n:Nat}{f:Array Value->Array Value}{t':Nat}(I:Inv X pins σ H s) (hH:H l=.(l xs))
 (e:s.heap.get? l=some { cls:=.type "list",data:=.seq its.toArray n }) (hf:f its.toArray=its'.toArray) (hv:Vals ys its') (hz:ys.length<=sizeLine) :
 Inv X pins σ (upd H l (.lst ys)) { s with heap:=s.heap.update l (K5o f),toks:=t' }:=by
 have q:=PySem.IsL.update e f;rw[hf]at q;refine I.write (x:=l) (e:=l) (by rw[hH];exact trivial) (.inl rfl) (λb' u hb hu=>(K3h s.heap (K5o f) (K5j hb)).trans hu) ⟨_,q⟩ ?_;exact⟨hz,its',_,hv,q⟩
theorem Inv.lnew {t':Nat}(I:Inv X pins σ H s) (hv:Vals ys its) (hz:ys.length<=sizeLine):
 Inv X pins σ (upd H .(5) (.lst ys)) { s with heap:=s.heap.push { cls:=.type "list",data:=.seq its.toArray },toks:=t' } :=
 I.laid (λ_ _ q=>K7 _ q) (K01 _) ⟨hz,its,0,hv,K0a _ rfl⟩
theorem Inv.fresh (I:Inv X pins σ H s):H s.heap.objs.size=none:=I.hok.fresh (K01 _)
theorem Inv.lstM (I:Inv X pins σ H s) (hH:H l=.(l xs)):xs.length<=sizeLine/\∃(its:List Value) (n:Nat),Vals xs its/\xs.length=its.length/\s.heap.get? l=some { cls:=.type "list",data:=.seq its.toArray n }:=by
 obtain⟨z,its,n,r,e⟩:=I.hok l _ hH;exact⟨z,its,n,r,.(k),e⟩
theorem zt6 (h:n<=sizeLine):K5a n=false:=by
 unfold K5a;exact .(m) .(0)
end
def zI7:V->List V->Hp->VK->Prop:=λx vs H Q=>∃l xs y,x=.ref l/\vs=[y]/\H l=.(l xs)/\xs.length<sizeLine/\Q .non (upd H l (.lst (xs++[y])))
theorem z6K:MtM X "list.append" zI7:=by
 intro pins s σ H x vs v us Q I rx rv h;obtain⟨l,xs,y,rfl,rfl,hH,hz,q⟩:=h;cases rx;obtain⟨u,rfl,ru⟩:=rv.one;obtain⟨z,its,n,r,hl,e⟩:=I.lstM hH;refine K4z F.slot_list_append ⟨_,e,rfl⟩ F.entry_list_append (F.args_list_append_2 _ _) (PySem.list_append l its.toArray n u (by rw[K05];omega)) ⟨e,?_⟩;refine⟨.non,_,I.lset (its':=its++[u]) hH e .(f) (r.append (.cons ru .nil)) ?_,rfl,q⟩;rw[K04,K1c];omega
def zR8:V->List V->Hp->VK->Prop:=λx vs H Q=>∃l xs i k y,x=.ref l/\vs=[.int i]/\H l=.(l xs)/\-(2 ^ 63)<=i/\i<2 ^ 63/\K5v i xs.length=some k/\xs[k]?=some y/\Q y (upd H l (.lst (xs.eraseIdx k)))
theorem zp0:MtM X "list.pop" zR8:=by
 intro pins s σ H x vs v us Q I rx rv h;obtain⟨l,xs,i,k,y,rfl,rfl,hH,h1,h2,hk,hy,q⟩:=h;cases rx;obtain⟨u,rfl,ru⟩:=rv.one;obtain⟨t,rfl⟩:=ru;obtain⟨z,its,n,r,hl,e⟩:=I.lstM hH;obtain⟨w,hw,rw'⟩:=r.get hy;refine K4z F.slot_list_pop ⟨_,e,rfl⟩ F.entry_list_pop (F.args_list_pop_2 _ _)
  (MeetsSeq.list_pop_at l its.toArray n i t k w (fitsIndex_both h1 h2) (by rw[K05,<- hl];exact hk) (by rw[<- K2v];exact hw) (by rw[K05];omega)) ⟨e,?_⟩
 refine⟨y,_,I.lset (its':=its.eraseIdx k) hH e ?_ (r.eraseIdx k) ?_,rw',q⟩
 ·show its.toArray.eraseIdxIfInBounds k=(its.eraseIdx k).toArray;rw[List.eraseIdxIfInBounds_toArray]
 ·have:=z6p xs k;omega
def rCat:R2:=λx y H Q=>∃l b xs zs,x=.ref l/\y=.ref b/\H l=.(l xs)/\H b=.(l zs)/\xs.length+zs.length<=sizeLine/\∀p,H p=none->Q (.ref p) (upd H p (.lst (xs++zs)))
theorem op_cat:OpR X (K3c .Add) rCat:=by
 intro pins s σ H x y v u Q I rx ry h;obtain⟨l,b,xs,zs,rfl,rfl,hH,hB,hz,q⟩:=h;cases rx;cases ry;obtain⟨z,its,n,r,hl,e⟩:=I.lstM hH;obtain⟨z2,its2,n2,r2,hl2,e2⟩:=I.lstM hB;refine PySem.P.add_list e e2 ?_ (by rw[K05,K05];omega);have ea:its.toArray++its2.toArray=(its++its2).toArray:=by simp
 rw[ea];exact⟨.ref _,_,I.lnew (t':=s.toks) (r.append r2) (by rw[K04];omega),rfl,q _ I.fresh⟩
def rRep:R2:=λx y H Q=>∃l k xs,x=.ref l/\y=.int k/\H l=.(l xs)/\-(2 ^ 63)<=k/\k<2 ^ 63/\xs.length * k.toNat<=sizeLine /\
 ∀p,H p=none->Q (.ref p) (upd H p (.lst (K0n k.toNat xs).flatten))
theorem len_rep (xs:List α) (k:Nat):(K0n k xs).flatten.length=k * xs.length:=by
 induction k with
 | zero=>simp
 | succ k ih=>rw[K2p,K3y,K04,ih,Nat.succ_mul,Nat.add_comm]
theorem zP9:OpR X (K3c .Mult) rRep:=by
 intro pins s σ H x y v u Q I rx ry h;obtain⟨l,k,xs,rfl,rfl,hH,h1,h2,hz,q⟩:=h;cases rx;obtain⟨t,rfl⟩:=ry;obtain⟨z,its,n,r,hl,e⟩:=I.lstM hH;have hlen:its.toArray.size * k.toNat<=sizeLine:=by rw[K05,<- hl];exact hz
 have hcap:¬ its.toArray.size * k.toNat > (2 ^ 63 - 1) / 8:=by
  have:(sizeLine:Nat)<=(2 ^ 63 - 1) / 8:=by decide
  omega
 have hfit:¬ (!Builtin.List.listFitsIndex k)=true:=by
  rw[fitsIndex_both h1 h2];exact K11
 have hlong:¬ K5a (its.toArray.size * k.toNat)=true:=by
  rw[zt6 hlen];exact K11
 have hnew:K5n (λx1 x2=>x1++x2) #[] (K0n (if its.toArray.isEmpty=true then 0 else k.toNat) its.toArray)=(K0n k.toNat its).flatten.toArray:=by
  have f0:∀m:Nat,K5n (λx1 x2=>x1++x2) #[] (K0n m its.toArray)=(K0n m its).flatten.toArray:=λm=>by
   have:=foldl_rep its m [];rw[K97]at this;exact this
  rw[f0];cases its with
  | nil=>simp
  | cons a r'=>rw[if_neg .(f)]
 refine K7o (T:="list") (U:="int") .(1) ⟨_,e,rfl⟩ (λs'=>K8r s' k t) noFill_list_mul F.fills_int_mul F.slot_int_rmul repeat_list F.slot_int_index.lookup
  (K4z F.slot_int_rmul (K8r s k t) F.entry_int_rmul (F.args_int_rmul_2 _ _) (int___rmul___int_list k t l its.toArray n)
   ⟨e,rfl,⟨_,e,rfl⟩,K4z F.slot_list_mul ⟨_,e,rfl⟩ F.entry_list_mul (F.args_list_mul_2 _ _) (AutoListH.list___mul___list_int_3 l its.toArray n k t hfit hcap hlong) ⟨e,?_⟩⟩)
 rw[hnew];exact⟨.ref _,_,I.lnew (t':=s.toks) (r.rep k.toNat) (by rw[len_rep,K6z];exact hz),rfl,q _ I.fresh⟩
end L2
namespace Att
open PySem PySem.W PySem.Calls PyProof.Rows
theorem z4A {P:Params}{h:Heap}:∀(ns:List Int) (vs:List Value),WellAll P h vs (ns.map WData.int)->K6d vs ns:=by
 intro ns;induction ns with
 | nil =>
  intro vs w;rw[K3w]at w;cases w;exact .nil
 | cons n ns ih =>
  intro vs w;rw[K0x]at w;cases w with
  | cons a b =>
   cases a;exact .cons _ _ (ih _ b)
theorem za5 {l:OpenLaw}{n:Nat}(hn:l.most=some n) {P:Params}{h:Heap}{args:List WData}{vals:List Value}
 (hpre:l.row.toRowW.claim.pre args=true) (hwl:WellAll P h vals args) :
 ∃a vs ns,vals=[K25 a]/\args=[WData.list (ns.map WData.int)]/\h.get? a=some { cls:=.type "list",data:=.seq vs.toArray }/\K6d vs ns/\ns.length<=n:=by
 have hsh:WShape.hasAll [] args [.list .int]=true:=(pre_splitW hpre).1;have hc:l.pre.holds [] { args:=args }=true:=(pre_splitW hpre).2;obtain⟨d,r,rfl,h1,h2⟩:=hasAllW_cons hsh;obtain rfl:=hasAllW_nil h2;obtain⟨xs,rfl,h3⟩:=hasW_list h1;obtain⟨ns,rfl⟩:=items_int h3;have hlen:ns.length<=n:=by
  unfold OpenLaw.pre at hc;have h4:(WTm.not (.lt (.lit (.int (n:Int))) (.len (.arg 0)))).holds [] { args:=[.list (ns.map .int)] }=true:=by
   have h4:=(holds_andW hc).1;rw[hn]at h4;exact h4
  have h5:=condW_of h4 (w_not (w_lt w_lit (w_len_list (w_arg rfl))));rw[K03]at h5;refine Nat.le_of_not_lt λq=>?_;have q':(n:Int)<((ns.length:Nat):Int):=by omega
  first
   | (rw[decide_eq_true q']at h5;exact absurd h5 .(1))
   | (simp at h5;omega)
 cases hwl with
 | cons w1 w2 =>
  cases w2;cases w1 with
  | list ho hall=>exact⟨_,_,ns,rfl,rfl,ho,z4A ns _ hall,hlen⟩
theorem zk5 (l:OpenLaw) (args:List WData):l.row.toRowW.claim.post args (.bool true) args=true :=
 postW_of (r:=l.row.toRowW) (X:=(true==true))
  (show WShape.has [] (.bool true) .bool=true by first|rfl|decide|simp[WShape.has,WShape.arms,WShape.armsAll])
  (show (WTm.eq .res (.lit (.bool true))).value [] { args:=args,res:=some (.bool true),after:=args }=some (.bool (true==true)) from w_eq_bool (w_res rfl) w_lit) rfl
theorem attach_call {l:OpenLaw}{n:Nat}{q:K1h}{loose:List Str}{XP:(Str->Option Value)->Heap->Prop}{YP:World->Heap->Prop}{d:DefRec}
 (hn:l.most=some n) (hdf:d.params.defaults=[])
 (call:∀(w:World) (s₀ s₁:Shared) (mg mb:Str->Option Value) (fa:Addr) (o:Obj) (pm cd doc:Value) (a:Addr) (vs:List Value) (ns:List Int),
  Ground q loose [] XP w s₀ mg mb s₁.heap->YP w s₁.heap ->
  s₁.heap.get? fa=some o->o.data=.func (docDef d.name d.params d.body d.scope pm cd doc)->s₁.heap.CodeRec cd d.name->mg d.name=.(r fa) ->
  s₁.heap.get? a=some { cls:=.type "list",data:=.seq vs.toArray }->K6d vs ns->ns.length<=n->s₁.gens = #[] ->
  K69 (model l.prog w) K8p (.call (.ref fa) ⟨[.ref a],[]⟩) (λr s'=>r=.ok (.ret (.bool true))/\OldK s₁.heap s'.heap/\s'.os=s₁.os/\K81 s'.gens) s₁) :
 WalkO q loose XP YP l.row.toRowW d [] (λf vs=>Z3a f vs):=by
 intro w s₀ s₁ mg mb G Y fa o pm cd doc dV kV ho hd hcd hD hmg hg args vals as hpre hlay hrd hwl hlo;obtain rfl:dV=.none:=Dflts.none hD hdf;obtain rfl:kV=.none:=Dflts.noKw hD;obtain⟨a,vs,ns,rfl,rfl,hobj,hints,hlen⟩:=za5 hn hpre hwl;refine enter_call (K4g (call w s₀ s₁ mg mb fa o pm cd doc a vs ns G Y ho (fd_plain hd) hcd hmg hobj hints hlen hg) λr s' hq=>?_);obtain⟨rfl,h2,h3,h4⟩:=hq;exact⟨.inl ⟨.bool true,.bool true,[],rfl,λ_=>rfl,.bool true,zk5 l _,λ_=>⟨List.Pairwise.nil,λ_ hm=>(nomatch hm)⟩⟩,h2,h3,h4⟩
end Att
namespace L2
variable{P prog:K1h}{w:World}{K:K6}{mg:Str->Option Value}{CX:World->CXT}{a f it:Addr}{fd:K5b}{x qual:Str}{sp:World->Sp}{vs:List (Key×Value)}{h h':Heap}{loose ps N':List Str}{XP:(Str->Option Value)->Heap->Prop}{YP:World->Heap->Prop}{X:Cx}{st:Stmt}{osl:Array (Option Value)}{A:Around}{o:Option V}{u acc:Value}{y:V}{H H':Hp}{kvs:List (List Key×V)}{xs:List (List Key×Addr×Value)}{ks keys:List (Option Expr)}{pins pins':List (Addr×Obj)}{σ:St}{s s2:Shared}{E Q xe:Value->Shared->Prop}{env:Env}{value elt tg iter tg1 iter1:Expr}{pos:Pos}{trs:List (TE×TE)}{values ifs ifs1:List Expr}{cap:List (Option Nat)}{fp:List Addr}{tn:Nat->Heap->Prop}{R:Result->Shared->Prop}{bd:Addr->Env->Sem Unit}{tbd:Addr->TB}{RR:Value->Addr->Result->Shared->Prop}
theorem z4I:∀{vs:List Value}{ns:List Int},K6d vs ns->Vals (ns.map V.int) vs
 | _,_,.nil=>.nil
 | _,_,.cons n t h=>.cons ⟨t,rfl⟩ (z4I h)
def Only (H:Hp):Prop:=∀b,H b=none\/∃o xs,H b=some (.frz o (.lst xs))
theorem zq4 {P:K1h}{w:World}{K:K6}{mg mb:Str->Option Value}{CX:CXT}{k:Nat}{fa a:Addr}{fd:K5b}{x:Str}{sp:Sp}{s₁:Shared}{vs:List Value}{ns:List Int}
 (KX:K.In s₁.heap) (hns:s₁.heap.Ns K2i mg) (hb:s₁.heap.Ns builtinsNs mb) (hbb:∀x:Str,x≠"__name__"->mb x=K55 x) (hlim:s₁.heap.NoLimit) (hg:s₁.gens = #[])
 (ha:s₁.heap.get? a=some { cls:=.type "list",data:=.seq vs.toArray }) (hi:K6d vs ns) (hl:ns.length<=sizeLine) (hr:Room k K8p)
 (F:∀base:Heap,K.In base->base.Ns K2i mg->FnOk P w K mg base CX k fa fd [x] sp) (hbind:∀(s:Shared) (u:Value),Z29 s fd ⟨[u],[]⟩ [(x,u)])
 (hsp:∀H:Hp,Only H->SqL K H a (ns.map V.int)->sp [.ref a] H (λv _=>v=.bl true) λ_ _ _=>False)
 (hCX:∀H e s',CX [] H s₁ (λ_ _ _=>False) e s'->False) :
 K69 (model P w) K8p (.call (.ref fa) ⟨[.ref a],[]⟩) (λr s'=>r=.ok (.ret (.bool true))/\OldK s₁.heap s'.heap/\s'.os=s₁.os/\K81 s'.gens) s₁:=by
 have rv:=z4I hi;have lenV:=hi.length;have core:∀H:Hp,Only H->SqL K H a (ns.map V.int)->HOk P w H s₁.heap->(∀b,H b≠none->b=a)->(H a≠none->K.lookup a=none) ->
  K69 (model P w) K8p (.call (.ref fa) ⟨[.ref a],[]⟩) (λr s'=>r=.ok (.ret (.bool true))/\OldK s₁.heap s'.heap/\s'.os=s₁.os/\K81 s'.gens) s₁:=by
  intro H hO hS hok hA hK;have base_of:∀{b:Addr} {o:Obj},s₁.heap.get? b=some o->H b=none->(hidT s₁.heap H).get? b=some o:=λe n=>zp8 e n;have noA:∀{b:Addr} {o:Obj} {es:Array K9x} {ep:Nat},s₁.heap.get? b=some o->o.data=.dict es ep->H b=none:=λ{b o es ep} e d=>by
   cases q:H b with
   | none=>rfl
   | some u =>
    have e':b=a:=hA b (by rw[q];simp);subst e';rw[ha]at e;cases e;have d':Z39 vs.toArray _=Data.dict es ep:=d;cases d'
  have nsK:∀{b:Addr} {m:Str->Option Value},s₁.heap.Ns b m->(hidT s₁.heap H).Ns b m:=λ{b m} ⟨o,es,ep,e,d,r⟩=>⟨o,es,ep,base_of e (noA e d),d,r⟩;have hKb:K.In (hidT s₁.heap H):=λb o e=>base_of (KX b o e) (by
   cases q:H b with
   | none=>rfl
   | some u =>
    have e':b=a:=hA b (by rw[q];simp);subst e';rw[hK (by rw[q];simp)]at e;cases e)
  have hM:Mod K mg (hidT s₁.heap H):=⟨hKb,nsK hns,⟨mb,nsK hb,hbb⟩,let ⟨mc,h1,h2⟩:=hlim;⟨mc,nsK h1,h2⟩⟩;have e0:Env0 P w K mg (hidT s₁.heap H) K8p [] s₁ H:=⟨rfl,hM,λb o e=>zG6 e,K70 (zj1 _ _),trivial,λb hb=>absurd (show b∈([]:List Addr) from hb) .(f),hok,.of_eq hg⟩;refine K4g ((F _ hKb (nsK hns)).run K8p [] s₁ H ⟨[.ref a],[]⟩ [.ref a] [.ref a] _ _ hr e0 (hbind s₁ (.ref a)) (.cons rfl .nil) (hsp H hO hS)) λr s' h=>?_;cases r with
  | error e=>exact(hCX H e s' h).elim
  | ok fl =>
   cases fl with
   | next=>exact K47 h
   | brk=>exact K47 h
   | cont=>exact K47 h
   | ret u =>
    obtain⟨v,H',os,bare,un,hok',r',q⟩:=h;have q':v=.bl true:=q;subst q';obtain rfl:u=K74 true:=r';refine⟨rfl,OldK.of_keep λb o e=>?_,os,bare⟩;cases q:H b with
    | none=>exact un.keep b o e q (by intro z;exact absurd (show b∈([]:List Addr) from z) .(f)) .(f)
    | some u =>
     rcases hO b with z|⟨ob,xs,z⟩
     ·rw[q]at z;cases z
     ·have z2:=un.frzs b ob _ z;obtain⟨e1,_⟩:=hok b _ z;obtain⟨e2,_⟩:=hok' b _ z2;rw[e]at e1;cases e1;exact e2
 cases hk:K.lookup a with
 | some o =>
  have e:=KX a o hk;rw[ha]at e;cases e;refine core (λ_=>none) (λ_=>.inl rfl) (.inr ⟨_,vs.toArray,_,hk,rfl,rfl,rfl,by rw[K05,lenV];exact hl,by simpa using rv⟩) (λb u z=>by have z':(none:Option HO)=some u:=z;cases z') (λb z=>absurd rfl z) λz=>absurd rfl z
 | none =>
  refine core (λb=>if b=a then some (.frz { cls:=.type "list",data:=.seq vs.toArray } (.lst (ns.map V.int))) else none) (λb=>?_) (.inl (.inr ⟨{ cls:=.type "list",data:=.seq vs.toArray },if_pos rfl⟩)) (λb u z=>?_) (λb z=>?_) λ_=>hk
  ·by_cases hb:b=a
   ·exact .inr ⟨_,_,if_pos hb⟩
   ·exact .inl (if_neg hb)
  ·by_cases hb:b=a
   ·have z':=(if_pos hb).symm.trans z;cases z';subst hb;exact⟨ha,by rw[K03];exact hl,vs,_,rv,ha⟩
   ·have z':=(if_neg hb).symm.trans z;cases z'
  ·by_cases hb:b=a
   ·exact hb
   ·exact absurd (if_neg hb) z
abbrev KOf (_:K.In h):K6:=K
theorem walk_of {l:Z30}{n k:Nat}{q:K1h}{loose:List Str}{XP:(Str->Option Value)->Heap->Prop}{YP:World->Heap->Prop}{d:DefRec}{K:Params->K6}{CX:World->CXT}{sp:World->Sp}{x:Str}
 (hn:l.most=some n) (hn2:n<=sizeLine) (hdf:d.params.defaults=[]) (hr:Room k K8p)
 (hY:∀(w:World) (h:Heap),YP w h->(K w.params).In h)
 (F:∀(w:World) (mg:Str->Option Value) (fa:Addr) (h:Heap),(K w.params).In h->h.Ns K2i mg->mg d.name=.(r fa) ->
  ∃fd:K5b,(∀(s:Shared) (u:Value),Z29 s fd ⟨[u],[]⟩ [(x,u)]) /\
   ∀base:Heap,(K w.params).In base->base.Ns K2i mg->FnOk l.prog w (K w.params) mg base (CX w) k fa fd [x] (sp w))
 (hsp:∀(w:World) (H:Hp) (a:Addr) (ns:List Int),ns.length<=n->Only H->SqL (K w.params) H a (ns.map V.int)->sp w [.ref a] H (λv _=>v=.bl true) λ_ _ _=>False)
 (hCX:∀(w:World) (H:Hp) (s:Shared) (e:Value) (s':Shared),CX w [] H s (λ_ _ _=>False) e s'->False) :
 Z3e q loose XP YP l.row.toRowW d [] (λf vs=>Z3a f vs):=by
 refine Att.attach_call hn hdf λw s₀ s₁ mg mb fa o pm cd doc a vs ns G Y ho hd hcd hmg hobj hints hlen hg=>?_;have KX:=hY w _ Y;obtain⟨fd,hb,hF⟩:=F w mg fa _ KX G.T.g hmg;exact zq4 KX G.T.g G.T.b G.T.builtins G.T.nolimit hg hobj hints (K0d hlen hn2) hr hF hb (λH hO hS=>hsp w H a ns hlen hO hS) λH e s'=>hCX w H s₁ e s'
def z35 (s:Stmt):Arguments:=match s with
 | .FunctionDef _ a _ _ _ _ _ _ _ _=>a
 | _=>{ posonlyargs:=[],args:=[],vararg:=none,kwonlyargs:=[],kw_defaults:=[],kwarg:=none,defaults:=[] }
def z0X (s:Stmt):List Stmt:=match s with
 | .FunctionDef _ _ b _ _ _ _ _ _ _=>b
 | _=>[]
def y6 (s:Stmt):Scope:=match s with
 | .FunctionDef _ _ _ _ _ _ sc _ _ _=>sc
 | _=>{ kind:=.function,names:=[],isGenerator:=false,isCoroutine:=false }
abbrev CX0:CXT:=λ_ _ _ _ _ _=>False
abbrev E0:XK:=λ_ _ _=>False
theorem Z0N:zm6 CX0 X E0:=λ_ _ _ _ _ _ _ h=>h.elim
structure Fun (K:K6) (x qual:Str) (st:Stmt) (f:Addr) (fd:K5b):Prop where
 ex:∃(oc:Value) (od:Option Addr) (kV doc pm:Value) (an:Option Addr) (cdv ct:Value) (osl:Array (Option Value)),
  fd=K3v x qual (z35 st) (z0X st) (y6 st) .none kV doc pm an cdv ct/\K.lookup f=some ⟨oc,od,.func fd,osl⟩/\K4c K cdv qual=true
 kp:K65 K (.ref f)=true
section
variable {base:Heap}
theorem Fun.ok {N:List Str}{k:Nat}{sp:Sp}(F:Fun K x qual st f fd) (S:FnScope N ps (y6 st)) (len:∀vs H Q E,sp vs H Q E->vs.length=ps.length)
 (hbody:∀(cdv:Value) (A:Around) (outer:List Env) (s:Shared) (H:Hp) (vs:List V) (Q:VK) (E:XK),Room k (A.deeper (envOfC qual (y6 st) .(5) f cdv))->sp vs H Q E ->
  ∃t,PSs (cxOf CX0 P w K mg base N qual (y6 st) f cdv A outer s H E).nox (z0X st) t/\t { nx:=λ_ H'=>Q .non H',rt:=Q } (start N vs) H):FnOk P w K mg base CX0 (k+1) f fd ps sp:=by
 obtain⟨oc,od,kV,doc,pm,an,cdv,ct,osl,rfl,lk,hcd⟩:=F.ex;refine zN9 lk hcd S len λA outer s H vs Q E hr hsp=>?_;obtain⟨t,h,q⟩:=hbody cdv A outer s H vs Q E hr hsp;exact⟨t,h.nox,q⟩
theorem Fun.binds {ps:List Str}(F:Fun K x qual st f fd)
 (h:∀(kV doc pm:Value) (an:Option Addr) (cdv ct:Value) (us:List Value),us.length=ps.length->bindArgs (K3v x qual (z35 st) (z0X st) (y6 st) .none kV doc pm an cdv ct) ⟨us,[]⟩=pure (ps.zip us)):Binds K fd ps []:=by
 obtain⟨oc,od,kV,doc,pm,an,cdv,ct,osl,rfl,lk,hcd⟩:=F.ex;exact .all (h kV doc pm an cdv ct)
theorem zW4 {oc:Value}{od an:Option Addr}{kV doc pm cdv ct:Value}(l:K.lookup f=some ⟨oc,od,.func (K3v x qual (z35 st) (z0X st) (y6 st) .none kV doc pm an cdv ct),osl⟩)
 (c:K4c K cdv qual=true) (k:K65 K (.ref f)=true):Fun K x qual st f (K3v x qual (z35 st) (z0X st) (y6 st) .none kV doc pm an cdv ct):=⟨⟨oc,od,kV,doc,pm,an,cdv,ct,osl,rfl,l,c⟩,k⟩
end
theorem z6b {k:Nat}(hr:Room k A):A.units+1<cLine:=K5s (K9y (by decide:1<=64) _) hr.units
section
variable {κ:Type} [DecidableEq κ]
def valV (kvs:List (κ×V)) (k:κ):Option V:=(kvs.find? λkv=>decide (kv.1=k)).map (·.2)
def putK (kvs:List (κ×V)) (k:κ) (v:V):List (κ×V) :=
 if (kvs.any λkv=>decide (kv.1=k))=true then kvs.map (λkv=>if kv.1=k then (kv.1,v) else kv) else kvs++[(k,v)]
theorem z47 {p:κ×V}{r:List (κ×V)}{k:κ}(e:p.1=k):valV (p::r) k=some p.2:=by simp[valV,K2t,e]
theorem z4a {p:κ×V}{r:List (κ×V)}{k:κ}(e:¬ p.1=k):valV (p::r) k=valV r k:=by simp[valV,K2t,e]
theorem z80 (k:κ):∀kvs:List (κ×V),(kvs.any λkv=>decide (kv.1=k))=(valV kvs k).isSome
 | []=>rfl
 | p::r=>by
  rw[K2j];by_cases e:p.1=k
  ·simp only[z47 e,decide_eq_true e,Bool.true_or,Option.isSome_some]
  ·rw[z4a e,.(m) e,K49];exact z80 k r
theorem z2c (kvs:List (κ×V)) (k:κ) (v:V):(putK kvs k v).length<=kvs.length+1:=by
 unfold putK;split
 ·rw[K03];omega
 ·rw[K04,K02,K08];omega
theorem RelO.isSome_eq {u:Option Value}(r:RelO o u):o.isSome=u.isSome:=by
 cases o with
 | none=>cases u with
  | none=>rfl
  | some _=>exact(show False from r).elim
 | some _=>cases u with
  | none=>exact(show False from r).elim
  | some _=>rfl
theorem KV.val {kvs:List (κ×V)}{vs:List (κ×Value)}(r:KV kvs vs) (k:κ):RelO (valV kvs k) (K9v vs k):=by
 unfold KV at r;induction r with
 | nil=>exact K38
 | @cons p q ps qs h t ih =>
  obtain⟨h1,h2⟩:=h;by_cases e:p.1=k
  ·have e':q.1=k:=h1.symm.trans e;have b:K9v (q::qs) k=some q.2:=by simp[K9v,K2t,e']
   rw[z47 e,b];exact h2
  ·have e':¬ q.1=k:=λz=>e (h1.trans z);have b:K9v (q::qs) k=K9v qs k:=by simp[K9v,K2t,e']
   rw[z4a e,b];exact ih
theorem KV.any {kvs:List (κ×V)}{vs:List (κ×Value)}(r:KV kvs vs) (k:κ):(kvs.any λkv=>decide (kv.1=k))=vs.any λkv=>decide (kv.1=k):=by
 unfold KV at r;induction r with
 | nil=>rfl
 | cons h t ih=>rw[K2j,K2j,ih,h.1]
theorem KV.repl {kvs:List (κ×V)}{vs:List (κ×Value)}(r:KV kvs vs) (k:κ) (ry:RelV y u):
 KV (kvs.map λkv=>if kv.1=k then (kv.1,y) else kv) (vs.map λkv=>if kv.1=k then (kv.1,u) else kv):=by
 unfold KV at r ⊢;induction r with
 | nil=>exact .nil
 | @cons p q ps qs h t ih =>
  rw[K0x,K0x];refine .cons ?_ ih;obtain⟨h1,h2⟩:=h;by_cases e:p.1=k
  ·rw[if_pos e,if_pos (h1.symm.trans e)];exact⟨h1,ry⟩
  ·rw[if_neg e,if_neg (λz=>e (h1.trans z))];exact⟨h1,h2⟩
theorem KV.put {kvs:List (κ×V)}{vs:List (κ×Value)}(r:KV kvs vs) (k:κ) (ry:RelV y u):KV (putK kvs k y) (stored vs k u):=by
 unfold putK stored;rw[r.any k];by_cases e:(vs.any λkv=>decide (kv.1=k))=true
 ·rw[if_pos e,if_pos e];exact r.repl k ry
 ·rw[if_neg e,if_neg e];exact Paired.snoc r ⟨rfl,ry⟩
theorem KV.length {kvs:List (κ×V)}{vs:List (κ×Value)}(r:KV kvs vs):kvs.length=vs.length:=K4p r
end
theorem z9u {k:Key}(r:RelV (kV k) u):(J9 P w).is k u=true:=by
 cases k with
 | inl i=>obtain⟨t,e⟩:=(show ∃t,u=K6k i t from r);subst e;exact z7Y P w i t
 | inr x=>obtain⟨t,e⟩:=(show ∃t,u=K9s x t from r);subst e;exact z7U P w x t
theorem z74 {P:K1h}{w:World}:∀{ks:List Key}{us:List Value},Vals (ks.map kV) us->ItemsAre (J9 P w) ks us
 | [],_,r=>by rw[K3w]at r;cases r;exact .nil
 | k::ks,_,r=>by
  rw[K0x]at r;cases r with
  | cons h t=>exact .cons (z9u h) (z74 t)
abbrev KT (H:Hp):List (List Key×V)->List (List Key×Addr×Value)->Prop:=Paired λp q=>p.1=q.1/\H q.2.1=.(g (p.1.map kV))/\RelV p.2 q.2.2
theorem KT.val (r:KT H kvs xs) (k:List Key):RelO (valV kvs k) ((atKey xs k).map (·.2)):=by
 induction r with
 | nil=>exact K38
 | @cons p q ps qs h t ih =>
  obtain⟨h1,_,h2⟩:=h;by_cases e:p.1=k
  ·have e':q.1=k:=h1.symm.trans e;have b:atKey (q::qs) k=some q.2:=by simp[atKey,K2t,e']
   rw[z47 e,b];exact h2
  ·have e':¬ q.1=k:=λz=>e (h1.trans z);have b:atKey (q::qs) k=atKey qs k:=by simp[atKey,K2t,e']
   rw[z4a e,b];exact ih
theorem KT.repl (r:KT H kvs xs) (k:List Key) (ry:RelV y u):
 KT H (kvs.map λkv=>if kv.1=k then (kv.1,y) else kv) (xs.map (putAt k u)):=by
 induction r with
 | nil=>exact .nil
 | @cons p q ps qs h t ih =>
  rw[K0x,K0x];refine .cons ?_ ih;obtain⟨h1,h2,h3⟩:=h;unfold putAt;by_cases e:p.1=k
  ·rw[if_pos e,if_pos (h1.symm.trans e)];exact⟨h1,h2,ry⟩
  ·rw[if_neg e,if_neg (λz=>e (h1.trans z))];exact⟨h1,h2,h3⟩
theorem KT.put (r:KT H kvs xs) (k:List Key){b:Addr}(hb:H b=.(g (k.map kV))) (ry:RelV y u):
 KT H (putK kvs k y) (storedH xs k b u):=by
 have e:(kvs.any λkv=>decide (kv.1=k))=(atKey xs k).isSome:=by
  rw[z80,(r.val k).isSome_eq,K7w]
 unfold putK storedH;rw[e];by_cases q:(atKey xs k).isSome=true
 ·rw[if_pos q,if_pos q];exact r.repl k ry
 ·rw[if_neg q,if_neg q];exact Paired.snoc r ⟨rfl,hb,ry⟩
theorem KT.keeps (r:KT H kvs xs) (ht:∀b ys,H b=.(g ys)->H' b=.(g ys)):KT H' kvs xs :=
 Paired.mapP r λ_ _ z=>⟨z.1,ht _ _ z.2.1,z.2.2⟩
theorem zY1 {u:HO}(ok:HOk P w H h) (e:Rd H a u):ObjOk P w H h a u:=e.ok ok
theorem zs8 {kvs:List (Key×V)}(ok:HOk P w H h) (e:Rd H a (.dK kvs)):kvs.length<=sizeLine/\(a==K3r)=false/\∃vs,KV kvs vs/\h.DictOf (J9 P w) a vs :=
 show ObjOk P w H h a (.dK kvs) from zY1 ok e
theorem zi3 {kvs:List (Key×V)}(ok:HOk P w H h) (e:H a=some (.dK kvs)):kvs.length<=sizeLine/\(a==K3r)=false/\∃vs,KV kvs vs/\h.DictOf (J9 P w) a vs:=zs8 ok (.inl e)
theorem z8u {ks:List Key}(ok:HOk P w H h) (e:H a=.(g (ks.map kV))):(K9w (J9 P w)).is h ks a:=by
 obtain⟨_,its,r,o,h1,h2,n,h3⟩:=(show ObjOk P w H h a (.tup (ks.map kV)) from ok a _ e);exact⟨o,its.toArray,n,h1,h2.1,h3,by simpa using z74 r⟩
theorem zn5 (ok:HOk P w H h) (e:Rd H a (.dT kvs)):kvs.length<=sizeLine/\(a==K3r)=false /\
 ∃xs,KT H kvs xs/\h.DictOfH (K9w (J9 P w)) a xs:=by
 obtain⟨z,y,xs,r,o,es,ep,h1,h2,h3,h4,h5⟩:=(show ObjOk P w H h a (.dT kvs) from zY1 ok e);refine⟨z,y,xs,r,o,es,ep,h1,h2,h3,h4,λx hx=>?_,h5⟩;have all:∀{l:List (List Key×V)} {m:List (List Key×Addr×Value)},KT H l m->∀x∈m,(K9w (J9 P w)).is h x.1 x.2.1:=by
  intro l m q;induction q with
  | nil=>intro x hx;exact nomatch hx
  | @cons p q ps qs hq t ih =>
   intro x hx;rcases K12.mp hx with e|hx
   ·subst e;exact z8u ok (by rw[<- hq.1];exact hq.2.1)
   ·exact ih x hx
 exact all r x hx
theorem Z19 (ok:HOk P w H h) (e:H a=some (.dT kvs)):kvs.length<=sizeLine/\(a==K3r)=false /\
 ∃xs,KT H kvs xs/\h.DictOfH (K9w (J9 P w)) a xs:=zn5 ok (.inl e)
def DGet (H:Hp) (a:Addr) (y:V) (r:Option V):Prop :=
 (∃kvs k,Rd H a (.dK kvs)/\y=kV k/\r=valV kvs k)\/∃kvs k b,Rd H a (.dT kvs)/\y=.ref b/\H b=.(g (k.map kV))/\r=valV kvs k
def DPut (H:Hp) (a:Addr) (y v:V) (H':Hp):Prop :=
 (∃kvs k,H a=some (.dK kvs)/\y=kV k/\kvs.length<sizeLine/\H'=upd H a (.dK (putK kvs k v))) \/
 ∃kvs k b,H a=some (.dT kvs)/\y=.ref b/\H b=.(g (k.map kV))/\kvs.length<sizeLine/\H'=upd H a (.dT (putK kvs k v))
theorem DPut.k {H:Hp}{a:Addr}{kvs:List (Key×V)}{k:Key}{v:V}(e:H a=some (.dK kvs)) (hl:kvs.length<sizeLine):DPut H a (kV k) v (upd H a (.dK (putK kvs k v))):=.inl ⟨kvs,k,e,rfl,hl,rfl⟩
section
variable {v:V}{r:Value}
theorem Inv.big (I:Inv X pins σ H s):K3r<s.heap.objs.size:=by
 have h:K2i<s.heap.objs.size:=(I.mod.glob.keeps I.bk).lt;exact Z24 .(1) h
theorem zm8 (hu:A.units+1<cLine) (I:Inv X pins σ H s) (g:DGet H a y (some v)) (ry:RelV y u) (h:∀w' s',Inv X pins σ H s'->RelV v w'->Q w' s'):
 wpAny .(6) A (K5l (.ref a) u) Q E s:=by
 rcases g with ⟨kvs,k,e,ey,l⟩|⟨kvs,k,b,e,ey,eb,l⟩
 ·subst ey;obtain⟨z,hd,vs,rel,dd⟩:=zs8 I.hok e;obtain⟨w',hw,rw'⟩:=RelO.some_of (v:=v) (o:=K9v vs k) (by rw[l];exact rel.val k);exact wpAny_getItem_of (z9u ry) dd.mapOf hw (h w' _ (I.tok _) rw')
 ·subst ey;cases (show u=K25 b from ry);obtain⟨z,hd,xs,rel,dd⟩:=zn5 I.hok e;obtain⟨w',hw,rw'⟩:=RelO.some_of (v:=v) (o:=(atKey xs k).map (·.2)) (by rw[l];exact rel.val k);obtain⟨p,hp,hp2⟩:=K0y.mp hw;refine wpAny_getItem_heap (K7e hu) (z8u I.hok eb) dd hp ?_;rw[hp2];exact h w' _ (I.tok _) rw'
theorem d_in (hu:A.units+1<cLine) (I:Inv X pins σ H s) (g:DGet H a y o) (ry:RelV y u) (h:∀s',Inv X pins σ H s'->Q (.bool o.isSome) s'):
 wpAny .(6) A (K20 .In u (.ref a)) Q E s:=by
 rcases g with ⟨kvs,k,e,ey,l⟩|⟨kvs,k,b,e,ey,eb,l⟩
 ·subst ey;obtain⟨z,hd,vs,rel,dd⟩:=zs8 I.hok e;refine wpAny_in_of (z9u ry) hd dd.mapOf ?_;rw[<- (rel.val k).isSome_eq,<- l];exact h _ (I.tok _)
 ·subst ey;cases (show u=K25 b from ry);obtain⟨z,hd,xs,rel,dd⟩:=zn5 I.hok e;refine wpAny_in_heap (K7e hu) (z8u I.hok eb) hd dd ?_;have q:=(rel.val k).isSome_eq;rw[K7w]at q;rw[<- q,<- l];exact h _ (I.tok _)
theorem z4y {t':Nat}{ob:HO}(I:Inv X pins σ H s) (mu:Mut (H a)) (hs:K3d a s.heap h') (he:∃q,h'.get? a=some q) (new:ObjOk X.prog X.w (upd H a ob) h' a ob):
 Inv X pins σ (upd H a ob) { s with heap:=h',toks:=t' } :=
 I.write (x:=a) (e:=a) mu (.inl rfl) (λb q hb z=>(hs.2 b hb).trans z) he new
theorem ze1 {H':Hp}{kvs:List (Key×V)}(z:kvs.length<=sizeLine) (hd:(a==K3r)=false) (rel:KV kvs vs) (dd:h'.DictOf (J9 P w) a vs):
 ObjOk P w H' h' a (.dK kvs):=⟨z,hd,vs,rel,dd⟩
theorem zj4 {Q:Unit->Shared->Prop}(hu:A.units+1<cLine) (I:Inv X pins σ H s) (g:DPut H a y v H') (ry:RelV y u) (rv:RelV v r) (h:∀s',Inv X pins σ H' s'->Q () s'):
 wpAny .(6) A (Z36 (.ref a) u r) Q E s:=by
 rcases g with ⟨kvs,k,e,ey,l,eH⟩|⟨kvs,k,b,e,ey,eb,l,eH⟩
 ·subst ey eH;obtain⟨z,hd,vs,rel,dd⟩:=zi3 I.hok e;have hz:vs.length<=sizeLine:=by rw[<- rel.length];exact z
  have hl:(putK kvs k v).length<=sizeLine:=by have:=z2c kvs k v;omega
  refine wpAny_setItem_pairs (hsz:=hz) (z9u ry) dd λh' dd' hs=>h _ ?_;have he:∃q,h'.get? a=some q:=let ⟨q,_,_,hq,_⟩:=dd';⟨q,hq⟩;exact z4y I (by rw[e];exact K38) hs he (ze1 hl hd (rel.put k rv) dd')
 ·subst ey eH;cases (show u=K25 b from ry);obtain⟨z,hd,xs,rel,dd⟩:=Z19 I.hok e;have hz:xs.length<=sizeLine:=by rw[<- K4p rel];exact z
  have hl:(putK kvs k v).length<=sizeLine:=by have:=z2c kvs k v;omega
  refine wpAny_setItem_heap (hsz:=hz) (K7e hu) (z8u I.hok eb) dd λh' dd' hs=>h _ ?_;obtain⟨q,es,ep,hq,h2,h3,h4,_,h5⟩:=dd';refine z4y I (by rw[e];exact K38) hs ⟨q,hq⟩ ⟨hl,hd,_,(rel.put k eb rv).keeps λc ys ec=>?_,q,es,ep,hq,h2,h3,h4,h5⟩;rw[Y2 (Z0K ec e (λz=>nomatch z))];exact ec
end
def NoSl (i:Expr):Prop:=∀ov iv,K9n i false ov iv=operate [ov,iv] (K5l ov iv)
theorem zH1 {prog:K1h}{w:World}{A:Around}{E:Value->Shared->Prop}{s:Shared}{env:Env}{value slice:Expr}{pos:Pos}{T id:String}{Q:Value->Shared->Prop}
 (hl:Z1q (.type T) "__getitem__" = pure (some (.builtin id))) (hs:NoSl slice)
 (h:wpAny (model prog w) A (eval value env) (λo s₁=>wpAny (model prog w) A (eval slice env) (λi s₂=>s₂.TypeIs o T/\wpAny (model prog w) A (K5l o i) Q E s₂) E s₁) E s) :
 wpAny (model prog w) A (eval (.Subscript value slice pos) env) Q E s:=by
 refine Z1s (K4a h (λo s₁ h₁=>K4a h₁ (λi s₂ h₂=>?_) λ_ _ x=>x) λ_ _ x=>x);obtain⟨hT,h₂⟩:=h₂;unfold K8a;refine K0 ?_;rw[getitemInPython_of_ne hT.not_modules];refine K0 (wpAny_specialOf hT hl ?_);have fin:wpAny (model prog w) A (K9n slice false o i) (λr s₃=>wpAny (model prog w) A (letTemporaryGo value o r >>= λ_=>pure r) Q E s₃) E s₂:=by
  rw[hs o i];exact wpAny_operating (K4a h₂ (λr s₃ h₃=>K0 (wpAny_letTemporaryGo (K8 h₃))) λ_ _ x=>x)
 first
  | exact K8 (K0 fin)
  | exact K0 (K8 (K0 fin))
  | exact K0 fin
theorem z7J (I:Inv X pins σ H s) (g:DGet H a y o):s.TypeIs (.ref a) "dict":=by
 rcases g with ⟨kvs,k,e,_,_⟩|⟨kvs,k,b,e,_,_,_⟩
 ·obtain⟨_,_,vs,_,dd⟩:=zs8 I.hok e;exact dd.typeIs
 ·obtain⟨_,_,xs,_,dd⟩:=zn5 I.hok e;exact dd.typeIs
def Z0P (td ty:TE):TE:=λσ H Q=>td σ H λx H1=>ty σ H1 λy H2=>∃a v,x=.ref a/\DGet H2 a y (some v)/\Q v H2
section
variable {o i e:Expr}{pos' tpos:Pos}{td ty tv:TE}
theorem zJ0 (hu:X.A.units+1<cLine) (ho:PE X o td) (hi:PE X i ty) (hs:NoSl i):PE X (.Subscript o i pos) (Z0P td ty):=by
 intro pins s σ H Q I h;refine zH1 PySem.F.slot_dict_getitem.lookup hs (thn (ho pins s σ H _ I h) λu s1 ⟨x,H1,I1,rx,q1⟩=>thn (hi pins s1 σ H1 _ I1 q1) λiv s2 ⟨y,H2,I2,ry,a,v,ex,g,q2⟩=>?_);subst ex;obtain rfl:u=K25 a:=rx;exact⟨z7J I2 g,zm8 hu I2 g ry λw' s3 I3 rw'=>⟨v,H2,I3,rw',q2⟩⟩
end
theorem z5W (h:Heap) (hb:K3r<h.objs.size):ObjOk P w H (h.push { cls:=.type "dict",data:=.dict #[] }) h.objs.size (.dK []) :=
 ⟨K3j _,beq_eq_false_iff_ne.mpr (K5j (K0o hb)),[],.nil,Heap.DictOf.new h⟩
def zT4:TE:=λ_ H Q=>∀p,H p=none->Q (.ref p) (upd H p (.dK []))
theorem zn2:PE X (.Dict [] [] pos) zT4:=λpins s σ H Q I h =>
 wpAny_Dict_empty ⟨.ref .(5),_,I.laid (a:=.(5)) (o:=.dK []) (t':=s.toks) (λ_ _ q=>K7 _ q) (K01 _) (z5W s.heap I.big),rfl,h _ (I.hok.fresh (K01 _))⟩
def zf9:List (TE×TE)->St->Hp->(List (V×V)->Hp->Prop)->Prop
 | [],_,H,Q=>Q [] H
 | (tk,tv)::r,σ,H,Q=>tk σ H λx H1=>tv σ H1 λy H2=>zf9 r σ H2 λps H3=>Q ((x,y)::ps) H3
abbrev VV:List (V×V)->List (Value×Value)->Prop:=Paired λp q=>RelV p.1 q.1/\RelV p.2 q.2
def PPs (X:Cx) (pos:Pos) (keys:List (Option Expr)) (values:List Expr) (trs:List (TE×TE)):Prop :=
 ∀(pins:List .(x)) (s:Shared) (σ:St) (H:Hp) (Q:List (V×V)->Hp->Prop),Inv X pins σ H s->zf9 trs σ H Q ->
  wpAny .(6) X.A (evalPairs (pairTrees keys values X.env pos)) (λvs s'=>∃ps H',Inv X pins σ H' s'/\VV ps vs/\Q ps H') X.xe s
theorem zD8:PPs X pos [] [] []:=λpins s σ H Q I h=>pairTrees_nil_walk ⟨[],H,I,.nil,h⟩
theorem zu5 {k v:Expr}{vs:List Expr}{tk tv:TE}(hk:PE X k tk) (hv:PE X v tv) (hr:PPs X pos ks vs trs):
 PPs X pos (some k::ks) (v::vs) ((tk,tv)::trs):=λpins s σ H Q I h =>
 pairTrees_cons_walk (thn (hk pins s σ H _ I h) λu s1 ⟨x,H1,I1,rx,q1⟩=>thn (hv pins s1 σ H1 _ I1 q1) λw2 s2 ⟨y,H2,I2,ry,q2⟩ =>
  thn (hr pins s2 σ H2 _ I2 q2) λws s3 ⟨ps,H3,I3,rel,q3⟩=>⟨(x,y)::ps,H3,I3,.cons ⟨rx,ry⟩ rel,q3⟩)
def z78 (kvs more:List (Key×V)):List (Key×V):=more.foldl (λacc kv=>putK acc kv.1 kv.2) kvs
theorem KV.merge:∀{more:List (Key×V)}{rs:List (Key×Value)}{kvs:List (Key×V)}{vs:List (Key×Value)},KV more rs->KV kvs vs->KV (z78 kvs more) (merged vs rs):=by
 intro more rs kvs vs r;unfold KV at r;induction r generalizing kvs vs with
 | nil=>intro q;exact q
 | @cons p q ps qs h t ih =>
  intro r0;have e:KV (putK kvs p.1 p.2) (stored vs q.1 q.2):=by
   have:=r0.put p.1 h.2;rw[<- h.1];exact this
  exact ih e
theorem z3y:∀(more kvs:List (Key×V)),(z78 kvs more).length<=kvs.length+more.length
 | [],kvs=>by show kvs.length<=kvs.length+0;omega
 | p::r,kvs=>by
  have h1:=z3y r (putK kvs p.1 p.2);have h2:=z2c kvs p.1 p.2;show (z78 (putK kvs p.1 p.2) r).length<=_;rw[K02];omega
theorem z56 {P:K1h}{w:World}:∀{kvs:List (Key×V)}{ws:List (Value×Value)},VV (kvs.map λkv=>(kV kv.1,kv.2)) ws->∃rs,Carries (J9 P w) ws rs/\KV kvs rs
 | [],_,r=>by rw[K3w]at r;cases r;exact⟨[],K38,.nil⟩
 | p::kvs,_,r=>by
  rw[K0x]at r;cases r with
  | @cons a b as bs h t =>
   obtain⟨rs,c,q⟩:=z56 (P:=P) (w:=w) t;obtain⟨b1,b2⟩:=b;exact⟨(p.1,b2)::rs,⟨z9u h.1,rfl,c⟩,.cons ⟨rfl,h.2⟩ q⟩
def Z0H (trs:List (TE×TE)):TE:=λσ H Q=>∀p,H p=none->zf9 trs σ (upd H p (.dK [])) λps H2=>H2 p=some (.dK [])/\∃kvs:List (Key×V),ps=kvs.map (λkv=>(kV kv.1,kv.2))/\kvs.length<=15/\Q (.ref p) (upd H2 p (.dK (z78 [] kvs)))
theorem zK5 (h:PPs X pos keys values trs) (hall:keys.all (·.isSome)=true) (hl:keys.length=values.length) (h0:keys≠[])
 (h15:keys.length<=15):PE X (.Dict keys values pos) (Z0H trs):=by
 intro pins s σ H Q I q;have hn:=I.hok.fresh (K01 .(5));have I1:=I.laid (a:=.(5)) (o:=.dK []) (h':=s.heap.push { cls:=.type "dict",data:=.dict #[] }) (t':=s.toks) (λ_ _ q=>K7 _ q) (K01 _) (z5W s.heap I.big);refine wpAny_Dict_walk (knd:=J9 X.prog X.w) hall hl h0 h15 (thn (h pins _ σ _ _ I1 (q _ hn)) λws s2 ⟨ps,H2,I2,rel,e,kvs,ep,lk,q2⟩=>?_);subst ep;obtain⟨rs,c,rk⟩:=z56 (P:=X.prog) (w:=X.w) rel;obtain⟨z,hd,vs0,r0,dd⟩:=zi3 I2.hok e;cases r0;refine⟨rs,c,dd,λh' dd' hs=>⟨.ref .(5),_,?_,rfl,q2⟩⟩;have hz:(z78 [] kvs).length<=sizeLine:=by
  have h1:=z3y kvs [];rw[K08]at h1;rw[K82];omega
 have he:∃q,h'.get? .(5)=some q:=let ⟨q,_,_,hq,_⟩:=dd';⟨q,hq⟩;exact z4y I2 (by rw[e];exact K38) hs he (ze1 hz hd (rk.merge .nil) dd')
abbrev z4P (ifs:List Expr) (env:Env):Sem Bool :=
 forIn ifs true λc r=>if r=true then do { let ok <- isTrue c env (eval c env);pure (K4k ok) } else pure (K4k r)
def z0q (env:Env):List (Str×K68)->List (Str×Addr)->List (Str×Addr)
 | [],acc=>acc
 | (n,k)::r,acc=>z0q env r (if k==.free then match env.cells.lookup n with|some c=>(n,c)::acc|none=>acc else acc)
theorem z3I {env:Env}:∀(names:List (Str×K68)) (acc:List (Str×Addr)),(∀x∈names,x.2=.free->∃c,env.cells.lookup x.1=some c) ->
 (forIn names acc λ(x:Str×K68) (r:List (Str×Addr))=>(if (x.2==K4o)=true then do { let c <- cellOf env x.1;pure (K4k ((x.1,c)::r)) } else pure (K4k r):Sem (ForInStep (List (Str×Addr)))))=(pure (z0q env names acc):Sem _)
 | [],acc,_=>by rw[K9k];rfl
 | (n,k)::r,acc,h=>by
  rw[K98];have hr:∀x∈r,x.2=.free->∃c,env.cells.lookup x.1=some c:=λx hx=>h x (K0s _ hx);by_cases hk:k=.free
  ·subst hk;obtain⟨c,hc⟩:=h (n,.free) K10 rfl;have hc':env.cells.lookup n=some c:=hc;simp only[z0q,beq_self_eq_true,if_true,cellOf,hc',pure_bind];exact z3I r _ hr
  ·have hb:(k==K4o)=false:=by simpa using hk
   simp only[z0q,hb,K0m,if_false,pure_bind];exact z3I r _ hr
theorem z3j {scope:Scope}(h:∀x∈scope.names,x.2=.free->∃c,env.cells.lookup x.1=some c):
 closureFor scope env=pure (z0q env scope.names []):=by
 unfold closureFor;exact congrArg (λm:Sem (List (Str×Addr))=>m >>= λz=>pure z) (z3I scope.names [] h)
theorem z8B {env:Env}:∀(names:List (Str×K68)) (acc:List (Str×Addr)) {x:Str}{c:Addr},(z0q env names acc).lookup x=some c ->
 env.cells.lookup x=some c\/acc.lookup x=some c
 | [],acc,x,c,h=>.inr h
 | (n,k)::r,acc,x,c,h=>by
  rcases z8B r _ h with q|q
  ·exact .inl q
  ·by_cases hk:(k==K4o)=true
   ·rw[if_pos hk]at q;cases e:env.cells.lookup n with
    | none=>rw[e]at q;exact .inr q
    | some c' =>
     rw[e]at q;simp only[K2y]at q;cases hx:x==n with
     | true =>
      rw[hx]at q;cases q;have:x=n:=by simpa using hx
      subst this;exact .inl e
     | false=>rw[hx]at q;exact .inr q
   ·rw[if_neg hk]at q;exact .inr q
theorem z8A {env:Env}{x:Str}{c:Addr}(hc:env.cells.lookup x=some c):∀(names:List (Str×K68)) (acc:List (Str×Addr)),
 acc.lookup x=some c->(z0q env names acc).lookup x=some c
 | [],acc,h=>h
 | (n,k)::r,acc,h=>by
  refine z8A hc r _ ?_;by_cases hk:(k==K4o)=true
  ·rw[if_pos hk];cases e:env.cells.lookup n with
   | none=>exact h
   | some c' =>
    simp only[K2y];cases hx:x==n with
    | true =>
     have:x=n:=by simpa using hx
     subst this;rw[hc]at e;exact e.symm
    | false=>exact h
  ·rw[if_neg hk];exact h
theorem z7B {env:Env}{x:Str}{c:Addr}(hc:env.cells.lookup x=some c):∀(names:List (Str×K68)) (acc:List (Str×Addr)),
 (x,K4o)∈names->(z0q env names acc).lookup x=some c
 | [],_,h=>absurd h .(f)
 | (n,k)::r,acc,h=>by
  rcases K12.mp h with e|h
  ·cases e;refine z8A hc r _ ?_;rw[if_pos .(f),hc];simp[K2y]
  ·exact z7B hc r _ h
theorem z2X {sc:Scope}{k:NameKind}(h:(relabel sc env).names.lookup x=some k):
 ∃k0,sc.names.lookup x=some k0/\(k=k0\/(k=.cell/\k0=.free)):=by
 unfold relabel at h;dsimp only at h;generalize sc.names=ns at h ⊢;induction ns with
 | nil=>simp at h
 | cons a r ih =>
  obtain⟨n,k1⟩:=a;simp only[K0x]at h;by_cases hc:(k1==K4o&&env.scope.kind==.function&&env.kindOf n==some .cell)=true
  ·rw[if_pos hc]at h;simp only[K2y]at h ⊢;cases hx:x==n with
   | true =>
    rw[hx]at h;cases h;refine⟨k1,rfl,.inr ⟨rfl,?_⟩⟩;simp only[K0c]at hc;simpa using hc.1.1
   | false=>rw[hx]at h;exact ih h
  ·rw[if_neg hc]at h;simp only[K2y]at h ⊢;cases hx:x==n with
   | true=>rw[hx]at h;cases h;exact⟨_,rfl,.inl rfl⟩
   | false=>rw[hx]at h;exact ih h
theorem z6N {sc:Scope}{env:Env}(h:sc.names.lookup x=some .free):
 (relabel sc env).names.lookup x=some .cell\/(relabel sc env).names.lookup x=some .free:=by
 unfold relabel;dsimp only;generalize sc.names=ns at h ⊢;induction ns with
 | nil=>simp at h
 | cons a r ih =>
  obtain⟨n,k1⟩:=a;simp only[K0x];simp only[K2y]at h;by_cases hc:(k1==K4o&&env.scope.kind==.function&&env.kindOf n==some .cell)=true
  ·rw[if_pos hc];simp only[K2y];cases hx:x==n with
   | true=>exact .inl rfl
   | false=>rw[hx]at h;exact ih h
  ·rw[if_neg hc];simp only[K2y];cases hx:x==n with
   | true=>rw[hx]at h;exact .inr h
   | false=>rw[hx]at h;exact ih h
structure CS (X:Cx) (sc:Scope) (N':List Str) (cap:List (Option Nat)):Prop where
 kind:sc.kind=.function
 nocell:∀y∈sc.names,y.2≠.cell
 loc:∀x∈sc.names,x.2=.local->sc.names.lookup x.1=some .local
 fr:∀x∈sc.names,x.2=.free->X.env.kindOf x.1=some .cell\/X.env.kindOf x.1=some .free
 len:cap.length=N'.length
 capt:∀(i j:Nat),cap[i]?=some (some j)->∃x,N'[i]?=some x/\X.N[j]?=some x/\sc.names.lookup x=some .free
def z4r (cap:List (Option Nat)) (σ:St):St:=cap.map λo=>match o with|some j=>(σ[j]?).join|none=>none
def Cx.comp (X:Cx) (N':List Str) (sc:Scope) (s:Shared) (H:Hp) (fp:List Addr) (xe:Value->Shared->Prop):Cx :=
 { X with N:=N',s₀:=s,H₀:=H,env:=compEnvC sc (z0q X.env sc.names []) s.heap.objs.size X.env,outer:=X.stack,stack:=X.stack,ex:=fp,fn:=λ_=>false,pn:=[],xe:=xe }
section
variable {sc:Scope}
theorem CS.cells (S:CS X sc N' cap) (I:Inv X pins σ H s):∀x∈sc.names,x.2=.free->∃c,X.env.cells.lookup x.1=some c:=λx hx hf =>
 I.ok.has x.1 (S.fr x hx hf)
theorem Inv.compIn {t:Nat}(I:Inv X pins σ H s) (S:CS X sc N' cap) (hf:∀b∈fp,FpOk X pins H b) (hlt:∀b∈fp,b<s.heap.objs.size)
 (hns:h'.Ns .(5) λ_=>none) (hk:∀b o,s.heap.get? b=some o->h'.get? b=some o) :
 Inv .(a) [] (z4r cap σ) H { s with heap:=h',toks:=t }:=by
 have hfrom:∀{x c},(z0q X.env sc.names []).lookup x=some c->X.env.cells.lookup x=some c:=λ{x c} q=>by
  rcases z8B _ _ q with z|z
  ·exact z
  ·simp at z
 have hlook:∀ {x},((relabel sc X.env).names.lookup x=some .cell\/(relabel sc X.env).names.lookup x=some .free)->sc.names.lookup x=some .free:=fun {x} q=>by
  rcases q with q|q
  ·obtain⟨k0,e,z⟩:=z2X q;rcases z with z|z
   ·subst z;exact absurd rfl (S.nocell _ (K29 e))
   ·rw[e,z.2]
  ·obtain⟨k0,e,z⟩:=z2X q;rcases z with z|z
   ·rw[e,z]
   ·cases z.1
 refine⟨⟨I.ok.mod,?_,I.ok.glob,I.ok.blt,K01 _,λx y c h1 h2=>I.ok.inj x y c (hfrom h1) (hfrom h2),λx hx=>?_,λx c q=>absurd (show false=true from q) .(1),I.ok.hd,I.ok.frames,.inl rfl,λb hb=>⟨?_,λx c q=>?_⟩,
  I.bs,K0d I.ok.bsz I.sz,λb o e hb=>?_,λb hb hz=>?_,I.stack,I.stkFree⟩,
  rfl,I.bare,Un.kept hk,⟨_,hns,λi x v h1 h2 h3=>?_⟩,λx c q=>?_,I.hok.fresh (K01 _),λx c q=>I.freeC x c (hfrom q),λp hp=>absurd (show p∈([]:List .(x)) from hp) .(f),I.hok.kept hk,?_⟩
 ·exact S.kind
 ·have e:=hlook hx;have e2:=K29 e;obtain⟨c,hc⟩:=I.ok.has x (S.fr _ e2 rfl);exact⟨c,z7B hc _ _ e2⟩
 ·exact K0o (hlt b hb)
 ·exact(hf b hb).2.2.2.2.1 x c (hfrom q)
 ·rcases(hf b hb).2.2.2.1 with z|z
  ·exact I.ok.noex b o e z
  ·exact absurd (K0l (K0e e) (K0d I.ok.bsz z)) (K2k _)
 ·rcases K12.mp (I.stkSub b hz) with z|z
  ·exact(hf b hb).2.1 z
  ·exact(hf b hb).2.2.1 z
 ·have h2':(cap.map λo=>match o with|some j=>(σ[j]?).join|none=>none)[i]?=some (some v):=h2;rw[K0k]at h2';cases e:cap[i]? with
  | none=>rw[e]at h2';cases h2'
  | some o =>
   rw[e]at h2';cases o with
   | none=>simp at h2'
   | some j =>
    have hj:σ[j]?=some (some v):=by
     have h4:(σ[j]?).join=some v:=by simpa using h2'
     cases e2:σ[j]? with
     | none=>rw[e2]at h4;simp at h4
     | some o2=>rw[e2]at h4;simp at h4;rw[h4]
    obtain⟨y,n1,n2,n3⟩:=S.capt i j e;have ey:y=x:=by
     have h1':N'[i]?=some x:=h1;rw[n1]at h1';exact K1b h1'
    subst ey;have hm:=K29 n3;have hkind:=S.fr _ hm rfl;obtain⟨m,hn,hl⟩:=I.loc;have vis:Vis X.env.scope y:=by
     rcases hkind with z|z
     ·exact .inr (.inl z)
     ·exact .inr (.inr z)
    obtain⟨u,r,l⟩:=hl j y v n2 hj vis;refine⟨u,r,.inr ?_⟩;rcases l with ⟨z,_⟩|⟨_,c,hc,hcell⟩
    ·have z':X.env.kindOf y=some .local:=z;rcases hkind with q|q<;>(have q':X.env.kindOf y=_:=q;rw[z']at q';cases q')
    ·obtain⟨o,ho,hd⟩:=hcell;exact⟨z6N n3,c,z7B hc _ _ hm,o,hk c o ho,hd⟩
 ·obtain⟨v,o,ho,hd⟩:=I.cell x c (hfrom q);exact⟨v,o,hk c o ho,hd⟩
 ·show (cap.map _).length=N'.length;rw[K03];exact S.len
theorem Inv.compOut {pins':List .(x)}{σ':St}{H':Hp}{s':Shared}(I:Inv X pins σ H s) (hf:∀b∈fp,FpOk X pins H b)
 (J:Inv .(a) pins' σ' H' s') (hs:K3d .(5) s'.heap h'):Inv X pins σ H' { s' with heap:=h' }:=by
 have hu:Un (frs X.stack) fp H H' s.heap s'.heap:=J.base;have hC:H' .(5)=none:=J.free;have lt:∀{b:Addr} {o:Obj},s.heap.get? b=some o->b≠s.heap.objs.size:=λe=>K0o (K0e e);refine I.call' (s':={ s' with heap:=h' }) (ch:=fp) J.os ⟨λb o e n h1 h2=>?_,λb o e n h1 h2=>?_,hu.free,λb o e h1=>?_,hu.tups,hu.frzs,hu.tbls⟩ (λb u e=>?_) J.bare (λb hb=>⟨(hf b hb).2.2.2.1,(hf b hb).2.1,(hf b hb).2.2.2.2.1,(hf b hb).2.2.2.2.2⟩)
 ·exact(hs.2 b (lt e)).trans (hu.keep b o e n h1 h2)
 ·obtain⟨sl,q⟩:=hu.slot b o e n h1 h2;exact⟨sl,(hs.2 b (lt e)).trans q⟩
 ·obtain⟨o',q⟩:=hu.there b o e h1;exact⟨o',(hs.2 b (lt e)).trans q⟩
 ·refine(J.hok b u e).stay (λc v hc q=>?_) (λ_ q=>q) λ_ _ q=>q;have ne:c≠s.heap.objs.size:=by
   rintro rfl;rcases hc with z|z
   ·rw[<- z,hC]at e;cases e
   ·rw[hC]at z;cases z
  exact(hs.2 c ne).trans q
end
def PTs (X:Cx) (ifs:List Expr) (t:TT):Prop :=
 ∀(pins:List .(x)) (s:Shared) (σ:St) (H:Hp) (Q:Bool->Hp->Prop),Inv X pins σ H s->t σ H Q->wpAny .(6) X.A (z4P ifs X.env) (TP X pins σ Q) X.xe s
def zL5:TT:=λ_ H Q=>Q true H
def zN1 (t r:TT):TT:=λσ H Q=>t σ H λb H1=>if b=true then r σ H1 Q else Q false H1
theorem z6E {X:Cx}{E:Value->Shared->Prop}{Q:Bool->Shared->Prop}:∀{ifs:List Expr}{s:Shared},Q false s ->
 wpAny .(6) X.A (forIn ifs false λc r=>if r=true then do { let ok <- isTrue c X.env (eval c X.env);pure (K4k ok) } else pure (K4k r)) Q E s
 | [],s,h=>by rw[K9k];exact K8 h
 | c::r,s,h=>by
  rw[K98];refine K0 ?_;rw[if_neg .(1)];exact K8 (z6E h)
theorem z9Z:PTs X [] zL5:=λpins s σ H Q I h=>by
 unfold z4P;rw[K9k];exact K8 ⟨H,I,h⟩
theorem zp5 {c:Expr}{r:List Expr}{t u:TT}(h1:PT X c t) (h2:PTs X r u):PTs X (c::r) (zN1 t u):=λpins s σ H Q I h=>by
 unfold z4P;rw[K98];refine K0 ?_;rw[if_pos rfl];refine K0 (thn (h1 pins s σ H _ I h) λb s1 ⟨H1,I1,q1⟩=>K8 ?_);cases b with
 | true=>exact h2 pins s1 σ H1 Q I1 (by simpa using q1)
 | false=>exact z6E ⟨H1,I1,by simpa using q1⟩
def z53 (p:Pos) (tg:Expr) (ifs:List Expr) (it:Value) (env:Env) (b:Sem Unit) (c:Code):Sem Fin:=do
 K5k p
 match <- pyNext it with
 | none=>pure (.done .next)
 | some v =>
  K4n tg it v
  assign tg env v
  let ok <- z4P ifs env
  if ok then b
  again c
abbrev TB:=St->Hp->(Hp->Prop)->Prop
def Kp (σ σ':St):Prop:=∀(j:Nat) v,σ[j]?=some (some v)->σ'[j]?=some (some v)
def PBd (X:Cx) (b:Sem Unit) (t:TB):Prop :=
 ∀(pins:List .(x)) (s:Shared) (σ:St) (H:Hp) (Q:Hp->Prop),Inv X pins σ H s->t σ H Q->wpAny .(6) X.A b (λ_ s'=>∃σ' H',Inv X pins σ' H' s'/\Kp σ σ'/\Q H') X.xe s
def runG (g:TG) (ti:TT) (tb:TB) (σ:St) (J:It) (Q:Hp->Prop) (H:Hp):Prop :=
 ∃W:Nat->Nat->Hp->Prop,(∃m,W 0 m H)/\∀i m H,W i m H ->
  (J.stop i H/\Q H)\/(J.go i H/\∀x H1,J.yld i H x H1->g x σ H1 λσ2 H2=>Kp σ σ2 /\
   ti σ2 H2 λok H3=>if ok=true then tb σ2 H3 λH4=>∃m',m'<m/\W (i+1) m' H4 else ∃m',m'<m/\W (i+1) m' H3)
def CK (ce:Expr):Prop:=(∃elt gens sc pos,ce=.ListComp elt gens sc pos)\/∃k v gens sc pos,ce=.DictComp k v gens sc pos
section
variable {ce val:Expr}{sc:Scope}{p:Pos}{g g1:TG}{wi wi1:TI}{ti ti1:TT}{te tv:TE}{tb:TB}{b:Sem Unit}{D:Addr}
theorem zO6 {pins:List .(x)}{σ0:St}{H2:Hp}{s2:Shared}{it:Addr}{fp:List Addr}{tn:Nat->Heap->Prop}{J:It}{R:Result->Shared->Prop}{Q:Hp->Prop}{k:Nat}{acc:Value}
 (htn:compTurn ce k (.ref it) acc X.env=z53 p tg ifs (.ref it) X.env b (.compLoop ce k (.ref it) acc X.env)) (hce:CK ce) (hc:X.calm=true)
 (hg:PG (X.wish (Z26 .(6) X.A X.env λe s'=>R (.error e) s')) tg g) (ht:PTs (X.wish (Z26 .(6) X.A X.env λe s'=>R (.error e) s')) ifs ti) (hb:PBd (X.wish (Z26 .(6) X.A X.env λe s'=>R (.error e) s')) b tb)
 (I2:Inv X pins σ0 H2 s2) (T:Turn X.prog X.w X.K tg J fp it tn) (st2:tn 0 s2.heap) (f2:∀b∈fp,FpOk X pins H2 b)
 (hq:runG g ti tb σ0 J Q H2) (hR:∀s' H',Inv X pins σ0 H' s'->Q H'->R (.ok .next) s') :
 K69 .(6) X.A (.compLoop ce k (.ref it) acc X.env) R s2:=by
 have stat:∀{H':Hp},(∀b∈fp,H' b=none)->∀b∈fp,FpOk X pins H' b:=λhn b hb=>⟨hn b hb,(f2 b hb).2⟩;obtain⟨W,⟨m0,w0⟩,turn⟩:=hq;refine codeAny_loop rfl (λn s'=>∃i H',Inv X pins σ0 H' s'/\tn i s'.heap/\(∀b∈fp,H' b=none)/\W i n H') (λn s5 hI=>?_) m0 ⟨0,H2,I2,st2,λb hb=>(f2 b hb).1,w0⟩;obtain⟨i,H5,I5,st5,fr5,w5⟩:=hI;have hu:X.A.under (.compLoop ce k (.ref it) acc X.env)=X.A/\(model X.prog X.w).den (.compLoop ce k (.ref it) acc X.env)=(compTurn ce k (.ref it) acc X.env).onRaise (λx=>do noteFrame x X.env;theTreesLotGoes x):=by
  rcases hce with ⟨_,_,_,_,rfl⟩|⟨_,_,_,_,_,rfl⟩<;>exact⟨rfl,rfl⟩
 rw[hu.1,hu.2];refine wpAny_noted ?_;rw[htn];unfold z53;refine K0 (K4q (K0 ?_));rcases turn i n H5 w5 with ⟨stop,qn⟩|⟨go,step⟩
 ·refine thn (T.done X rfl rfl rfl hc i pins s5 _ H5 _ I5 (stat fr5) st5 stop) λr s6 ⟨hr,I6⟩=>?_;subst hr;exact K8 (hR s6 H5 I6 qn)
 ·refine thn (T.item X rfl rfl rfl hc i pins s5 _ H5 _ I5 (stat fr5) st5 go) λr s6 ⟨u,hr,h6⟩=>?_;subst hr;refine K0 (thn h6 λ_ s7 ⟨x,H7,I7,r7,y7,st7,fr7⟩=>?_);have I7':=I7.pinned (stat fr7) (T.obj _ _ st7);refine K0 (thn (hg _ s7 _ H7 x u _ (I7'.wish _) r7 (step x H7 y7)) λ_ s8 ⟨σ8,H8,I8,k8,q8⟩=>?_);refine K0 (thn (ht _ s8 σ8 H8 _ I8 q8) λok s9 ⟨H9,I9,q9⟩=>?_);have again:∀{σa:St} {Ha:Hp} {sa:Shared},Inv (X.wish (Z26 .(6) X.A X.env λe s'=>R (.error e) s')) (pins++z70 fp s7.heap) σa Ha sa->Kp σ0 σa ->
   Inv X pins σ0 Ha sa/\tn (i+1) sa.heap/\∀b∈fp,Ha b=none:=λ{σa Ha sa} Iw ka=>by
   have Ia:=Iw.unwish;refine⟨Ia.unpinned.weak (I5.len.trans Ia.len.symm) ka,T.keep _ _ _ st7 λb hb o e=>(Ia.pin (b,o) (K0t _ (K0t _ (z2G hb e)))).1,λb hb=>?_⟩;obtain⟨o,e,d⟩:=T.obj _ _ st7 b hb;exact(Ia.pin (b,o) (K0t _ (K0t _ (z2G hb e)))).2.1
  cases ok with
  | false =>
   have q9':∃m',m'<n/\W (i+1) m' H9:=by simpa using q9
   obtain⟨m',hm,w9⟩:=q9';obtain⟨a1,a2,a3⟩:=again I9 k8;exact K8 ⟨rfl,m',hm,i+1,H9,a1,a2,a3,w9⟩
  | true =>
   rw[if_pos rfl]at q9;refine K0 (thn (hb _ s9 σ8 H9 _ I9 q9) λ_ sa ⟨σa,Ha,Ia,ka,m',hm,wa⟩=>?_);obtain⟨a1,a2,a3⟩:=again Ia λj v h=>ka j v (k8 j v h);exact K8 ⟨rfl,m',hm,i+1,Ha,a1,a2,a3,wa⟩
theorem z1w {k:Nat}{it:Value}(hce:CK ce) (hcl:(clausesOf ce)[k]?=some ⟨tg,iter,ifs,0⟩) (h0:K69 (model prog w) A (.compLoop ce k it acc env) R s)
 (h:wpAny (model prog w) A (pyIter it) (λit' s'=>K69 (model prog w) A (.compLoop ce k it' acc env) R s')
  (Z26 (model prog w) A env λx s'=>R (.error x) s') s) :
 K69 (model prog w) A (.compStart ce k it acc env) R s:=by
 refine K9a ?_;have hu:A.under (.compStart ce k it acc env)=A/\(model prog w).den (.compStart ce k it acc env)=(compStart ce k it acc env).onRaise (λx=>do noteFrame x env;K5k theWindowsPlace):=by
  rcases hce with ⟨_,_,_,_,rfl⟩|⟨_,_,_,_,_,rfl⟩<;>exact⟨rfl,rfl⟩
 rw[hu.1,hu.2];refine wpAny_notedAt ?_;unfold compStart;rw[hcl];show wpAny _ _ (ask >>= _) _ _ s;refine K0 (K3m (wpAny_ite ?_));split
 ·first
   | exact K0 (K8 (K8 (Z2i rfl h0)))
   | exact K8 (Z2i rfl h0)
 ·first
   | exact K0 (K6o (K0 (K4q (K0 (K4a h (λit' s' h'=>K8 (Z2i rfl h')) λ_ _ x=>x)))))
   | (refine K0 (K6o ?_);show wpAny _ _ (K5k iter.pos >>= _) _ _ s;exact K0 (K4q (K0 (K4a h (λit' s' h'=>K8 (Z2i rfl h')) λ_ _ x=>x))))
end
def MkO (mk:Sem Value) (o0:HO):Prop:=∀(X:Cx) (pins:List .(x)) (σ:St) (H:Hp) (s:Shared) (E:Value->Shared->Prop) (Q:Value->Shared->Prop),Inv X pins σ H s ->
 (∀s',Inv X pins σ (upd H .(5) o0) s'->(∀b o,s.heap.get? b=some o->s'.heap.get? b=some o)->Q (.ref .(5)) s')->wpAny .(6) X.A mk Q E s
theorem zH5:MkO (Z37 []) (.lst []):=λX pins σ H s E Q I h=>by
 refine K14 ?_;exact h _ (I.lnew (ys:=[]) (its:=[]) (t':=s.toks) .nil (K3j _)) λb o e=>K7 _ e
theorem zb7:MkO newDict (.dK []):=λX pins σ H s E Q I h=>by
 refine K14 ?_;exact h _ (I.laid (a:=.(5)) (o:=.dK []) (t':=s.toks) (h':=s.heap.push { cls:=.type "dict",dict:=none,data:=.dict #[] }) (λ_ _ q=>K7 _ q) (K01 _) (z5W s.heap I.big)) λb o e=>K7 _ e
structure CmE (ce:Expr) (sc:Scope) (tg iter:Expr) (ifs:List Expr) (mk:Sem Value) (o0:HO) (bd:Addr->Env->Sem Unit) (p:Pos):Prop where
 ck:CK ce
 cl:∃gs,clausesOf ce=⟨tg,iter,ifs,0⟩::gs
 tn:∀it D env,compTurn ce 0 (.ref it) (.ref D) env=z53 p tg ifs (.ref it) env (bd D env) (.compLoop ce 0 (.ref it) (.ref D) env)
 nw:MkO mk o0
 ev:∀env,∃pp,eval ce env=comprehension ce sc env pp mk false (eval iter env) none
 us:∀env f,∃pp,evalThenUse ce env f=(comprehension ce sc env pp mk false (eval iter env) (some f) >>= λ_=>pure ())
section
variable {ce val:Expr}{sc:Scope}{p p1:Pos}{g g1:TG}{wi wi1:TI}{ti ti1:TT}{te tv:TE}{tb tb1:TB}{b1:Sem Unit}{D:Addr}{mk:Sem Value}{o0:HO}
theorem zV5 {pins:List .(x)}{σ:St}{H2:Hp}{s2:Shared}{it:Addr}{fp:List Addr}{tn:Nat->Heap->Prop}{J:It}{E:Value->Shared->Prop}{RR:Value->Addr->Result->Shared->Prop}{Q:Addr->Hp->Prop}
 (C:CmE ce sc tg iter ifs mk o0 bd p) (hc:X.calm=true) (S:CS X sc N' cap) (hg:∀s H fp xe,PG .(a) tg g) (ht:∀s H fp xe,PTs .(a) ifs ti) (hb:∀D s H fp xe,PBd .(a) (bd D (X.comp N' sc s H fp xe).env) (tbd D))
 (I2:Inv X pins σ H2 s2) (T:Turn X.prog X.w X.K tg J fp it tn) (st2:tn 0 s2.heap) (f2:∀b∈fp,FpOk X pins H2 b)
 (hq:∀D,H2 D=none->runG g ti (tbd D) (z4r cap σ) J (Q D) (upd H2 D o0))
 (hRR:∀(D:Addr) (s3:Shared) (H3:Hp) (xe:Value->Shared->Prop) (H':Hp) (pins':List .(x)) (σ':St) (s':Shared),Inv X pins σ H3 s3->(∀b∈fp,FpOk X pins H3 b)->Inv (X.comp N' sc s3 H3 fp xe) pins' σ' H' s'->Q D H'->RR (.ref D) s3.heap.objs.size (.ok .next) s') :
 wpAny .(6) X.A mk (λacc s3=>wpAny .(6) X.A (newFunctionEnv sc X.env.globals (z0q X.env sc.names []) [] X.env.qual none .none (some X.env)) (λcenv s4 =>
  codeAny (model X.prog X.w) X.A (.compStart ce 0 (.ref it) acc { cenv with scope:=relabel sc X.env }) (RR acc cenv.locals) s4) E s3) E s2:=by
 refine C.nw X pins σ H2 s2 E _ I2 λs3 I3 kp3=>?_;have hfr:H2 s2.heap.objs.size=none:=I2.fresh;have lt2:∀b∈fp,b<s2.heap.objs.size:=λb hb=>by
  obtain⟨o,e,_⟩:=T.obj _ _ st2 b hb;exact K0e e
 generalize s2.heap.objs.size=D at I3 hfr lt2 ⊢;have r0:=hq D hfr;have f3:∀b∈fp,FpOk X pins (upd H2 D o0) b:=λb hb=>⟨by rw[Y2 (K0o (lt2 b hb))];exact(f2 b hb).1,(f2 b hb).2⟩;have st3:tn 0 s3.heap:=T.keep _ _ _ st2 λb hb o e=>kp3 b o e;have lt3:∀b∈fp,b<s3.heap.objs.size:=λb hb=>by
  obtain⟨o,e,_⟩:=T.obj _ _ st3 b hb;exact K0e e
 generalize upd H2 D o0=H3 at I3 r0 f3;refine wpAny_newFunctionEnv S.nocell (λx hx=>absurd hx .(f)) (λh1 hns hsb=>?_) S.kind;have kp4:∀b o,s3.heap.get? b=some o->h1.get? b=some o:=λb o e=>by
  rw[hsb.2 b (K0o (K0e e))];exact K7 _ e
 have hns':h1.Ns s3.heap.objs.size λ_=>none:=hns;have st4:tn 0 h1:=T.keep _ _ _ st3 λb hb o e=>kp4 b o e;have loop:K69 .(6) X.A (.compLoop ce 0 (.ref it) (.ref D) (compEnvC sc (z0q X.env sc.names []) s3.heap.objs.size X.env))
  (RR (.ref D) s3.heap.objs.size) { s3 with heap:=h1,toks:=s3.toks+([]:List (Str×Value)).length }:=by
  let xe:Value->Shared->Prop:=Z26 .(6) X.A (compEnvC sc (z0q X.env sc.names []) s3.heap.objs.size X.env) λe s'=>RR (.ref D) s3.heap.objs.size (.error e) s';have I4:Inv (X.comp N' sc s3 H3 fp xe) [] (z4r cap σ) H3 { s3 with heap:=h1,toks:=s3.toks+([]:List (Str×Value)).length }:=I3.compIn S f3 lt3 hns' kp4;exact zO6 (X:=X.comp N' sc s3 H3 fp xe) (C.tn _ _ _) C.ck hc (hg s3 H3 fp _) (ht s3 H3 fp _) (hb D s3 H3 fp _) I4 T st4 (λb hb=>by
   obtain⟨q1,q2⟩:=I4.ok.exf b hb;exact⟨(f3 b hb).1,q1,I4.ok.exfs b hb,.inl hb,q2,λp hp=>absurd (show p∈([]:List .(x)) from hp) .(f)⟩) r0 λs' H' I' q=>hRR D s3 H3 xe H' [] _ s' I3 f3 I' q
 obtain⟨gs,cl⟩:=C.cl;exact z1w C.ck (by rw[cl];rfl) loop (T.self _ 0 _ _ _ st4 loop)
def tCm (o0:HO) (cap:List (Option Nat)) (wi:TI) (g:TG) (ti:TT) (tbd:Addr->TB):TE:=λσ H Q=>wi σ H λJ H1=>∀D,H1 D=none->runG g ti (tbd D) (z4r cap σ) J (λH'=>Q (.ref D) H') (upd H1 D o0)
theorem Z0n (C:CmE ce sc tg iter ifs mk o0 bd p) (hc:X.calm=true) (S:CS X sc N' cap) (hi:PI X tg iter wi) (hg:∀s H fp xe,PG .(a) tg g) (ht:∀s H fp xe,PTs .(a) ifs ti)
 (hb:∀D s H fp xe,PBd .(a) (bd D (X.comp N' sc s H fp xe).env) (tbd D)) (hs:∀x,K1d iter X.env x=pure x):PE X ce (tCm o0 cap wi g ti tbd):=by
 intro pins s σ H Q I h;obtain⟨pp,ev⟩:=C.ev X.env;obtain⟨gs,cl⟩:=C.cl;rw[ev];refine K8d (use:=none) cl hs (z3j (S.cells I)) S.kind S.loc (thn (hi pins s σ H _ I h) λv s1 h1=>thn h1 λitv s2 h2=>?_);obtain⟨it,fp,tn,J,H2,e,I2,T,st2,f2,rq⟩:=h2;subst e;refine zV5 (RR:=λacc C=>compPost .(6) X.A X.xe none (EP X pins σ Q) acc C) (Q:=λD H'=>Q (.ref D) H') C hc S hg ht hb I2 T st2 f2 rq ?_;intro D s3 H3 xe H' pins' σ' s' I3 f3 J3 q;obtain⟨m,hn,_⟩:=id J3.loc;exact⟨m,hn,λh' hs=>⟨.ref D,H',I3.compOut f3 J3 hs,rfl,q⟩⟩
def sCm (o0:HO) (cap:List (Option Nat)) (wi:TI) (g:TG) (ti:TT) (tbd:Addr->TB) (i:Nat):TS:=λD σ H=>wi σ H λJ H1=>∀d,H1 d=none->runG g ti (tbd d) (z4r cap σ) J (λH'=>D.nx (σ.set i (.(r d))) H') (upd H1 d o0)
theorem Z0R {y:Str}{py spos:Pos}{i:Nat}(C:CmE ce sc tg iter ifs mk o0 bd p) (hc:X.calm=true) (S:CS X sc N' cap) (hi:PI X tg iter wi) (hg:∀s H fp xe,PG .(a) tg g) (ht:∀s H fp xe,PTs .(a) ifs ti)
 (hb:∀D s H fp xe,PBd .(a) (bd D (X.comp N' sc s H fp xe).env) (tbd D)) (hN:X.N.Nodup) (hy:X.N[i]?=some y) (hl:X.env.scope.names.lookup y=some .local)
 (hsw:K2d ce (some (.Name y py)) spos.line X.env=pure true) (hs:∀x,K1d iter X.env x=pure x):PS X (.Assign [.Name y py] ce spos) (sCm o0 cap wi g ti tbd i):=by
 intro pins s σ H D I h;rw[exec_Assign_Name_used _ _ _ _ hsw];obtain⟨pp,us⟩:=C.us X.env (assign (.Name y py) X.env);obtain⟨gs,cl⟩:=C.cl;rw[us];refine K0 (K4q (K0 ?_));refine K0 (K4a (K8d (use:=some (assign (.Name y py) X.env)) (Q:=λ_ s'=>SP X pins D .next s') cl hs (z3j (S.cells I)) S.kind S.loc
  (thn (hi pins s σ H _ I h) λv s1 h1=>thn h1 λitv s2 h2=>?_)) (λ_ s' hq=>K8 (K8 hq)) λ_ _ z=>z)
 obtain⟨it,fp,tn,J,H2,e,I2,T,st2,f2,rq⟩:=h2;subst e;refine zV5 (RR:=λacc C=>compPost .(6) X.A X.xe (some (assign (.Name y py) X.env)) (λ_ s'=>SP X pins D .next s') acc C) (Q:=λd H'=>D.nx (σ.set i (.(r d))) H') C hc S hg ht hb I2 T st2 f2 rq ?_;intro d s3 H3 xe H' pins' σ' s' I3 f3 J3 q;obtain⟨m,hn,_⟩:=id J3.loc;have Is:Inv X pins σ H' s':=I3.compOut (h':=s'.heap) f3 J3 (K7s _ _);obtain⟨oC,es,ep,hoC,hdC,hrC⟩:=id hn;have hC:H' s3.heap.objs.size=none:=J3.free;have neL:s3.heap.objs.size≠X.env.locals:=K26 I3.lt;have nfs:s3.heap.objs.size∉X.fs:=I3.nofs (K01 _);have Ip:Inv X (pins++[(s3.heap.objs.size,oC)]) σ H' s':=Is.pins_of λp hp=>by
  rcases K0i.mp hp with z|z
  ·exact Is.pin p (K0t _ z)
  ·obtain rfl:p=(s3.heap.objs.size,oC):=by simpa using z
   exact⟨hoC,hC,neL,nfs,λv hv=>by have hdC':oC.data=_:=hdC;rw[hdC']at hv;cases hv⟩
 show wpAny _ X.A (assign (.Name y py) X.env (.ref d)) _ _ s';refine thn (z7Z (X:=X) (i:=i) hN hy (.inl hl) (.inr hl) _ s' σ H' (.ref d) (.ref d) (λσ2 H2=>D.nx σ2 H2) Ip rfl q) λ_ s4 ⟨σ4,H4,I4,q4⟩=>?_;have pn:=I4.pin (s3.heap.objs.size,oC) (K0t _ (K0t _ .(f)));refine⟨m,⟨oC,es,ep,pn.1,hdC,hrC⟩,λh' hs=>⟨σ4,H4,?_,q4⟩⟩;have I4u:Inv X pins σ4 H4 s4:=I4.unpinned;have st:=I4u.step (g':=s4.gens) (t':=s4.toks) (d':=s4.drawn) (h':=h') (H':=H4) (ch:=[s3.heap.objs.size]) (λb hb=>?_) (λb o _ _ hc e _=>(hs.2 b (by simpa using hc)).trans e)
  (λb o _ _ hc e _=>⟨o.slots,(hs.2 b (by simpa using hc)).trans e⟩) (λ_ _ _ _ n=>n) (λb o hc e=>⟨o,(hs.2 b (by simpa using hc)).trans e⟩) (λ_ _ e=>e) (λ_ _ _ e=>e) (λb ps e=>⟨#[],by rw[e];simp⟩) (λm hm=>?_) (λb u e=>?_) I4u.bare
 ·exact st
 ·have e:b=s3.heap.objs.size:=by simpa using hb
  subst e;refine⟨.inr I3.sz,neL,λx c e2 z=>?_,λp hp z=>?_⟩
  ·obtain⟨v,q2⟩:=I3.cell x c e2;exact absurd q2.lt (by rw[z];exact K2k _)
  ·have e3:=(I3.pin p hp).1;exact absurd (K0e e3) (by rw[z];exact K2k _)
 ·obtain⟨o,es',ep',ho',r'⟩:=hm;exact⟨o,es',ep',(hs.2 _ (K5j neL)).trans ho',r'⟩
 ·refine(I4u.hok b u e).stay (λc v hc q=>?_) (λ_ q=>q) λ_ _ q=>q;have n4:H4 s3.heap.objs.size=none:=pn.2.1;have ne:c≠s3.heap.objs.size:=by
   rintro rfl;rcases hc with z|z
   ·rw[<- z,n4]at e;cases e
   ·rw[n4]at z;cases z
  exact(hs.2 c ne).trans q
def bApp (te:TE) (D:Addr):TB:=λσ H Q=>te σ H λv H4=>∃acc,H4 D=.(l acc)/\acc.length<sizeLine/\Q (upd H4 D (.lst (acc++[v])))
theorem zK1 (he:PE X elt te):PBd X (do let _ <- call (.builtin "list.append") [.ref D,<- eval elt X.env]) (bApp te D):=λpins s σ H Q I h=>by
 refine K0 (thn (he pins s σ H _ I h) λv sa ⟨y,Ha,Ia,ra,acc,ea,za,q⟩=>?_);refine K0 (thn (z6K (X:=X) _ sa σ Ha (.ref D) [y] (.ref D) [v] (λ_ H'=>H'=upd Ha D (.lst (acc++[y]))) Ia rfl (.cons ra .nil) ⟨D,acc,y,rfl,rfl,ea,za,rfl⟩) λ_ sb ⟨_,Hb,Ib,_,eb⟩=>K8 ?_);subst eb;exact⟨σ,_,Ib,λ_ _ h=>h,q⟩
theorem z9W {pins:List .(x)}{σ:St}{H:Hp}{s:Shared}{a:Addr}{kvs:List (Key×V)}{k:Key}{v:V}{u r:Value}{A:Around}{E:Value->Shared->Prop}{Q:Unit->Shared->Prop}
 (I:Inv X pins σ H s) (e:H a=some (.dK kvs)) (l:kvs.length<sizeLine) (ry:RelV (kV k) u) (rv:RelV v r) (h:∀s',Inv X pins σ (upd H a (.dK (putK kvs k v))) s'->Q () s') :
 wpAny .(6) A (dictSet a u r) Q E s:=by
 obtain⟨z,hd,vs,rel,dd⟩:=zi3 I.hok e;have hz:vs.length<=sizeLine:=by rw[<- rel.length];exact z
 have hl:(putK kvs k v).length<=sizeLine:=by have:=z2c kvs k v;omega
 refine wpAny_dictSet_pairs (hsz:=hz) (z9u ry) dd λh' dd' hs=>h _ ?_;have he:∃q,h'.get? a=some q:=let ⟨q,_,_,hq,_⟩:=dd';⟨q,hq⟩;exact z4y I (by rw[e];exact K38) hs he (ze1 hl hd (rel.put k rv) dd')
def bPut (te tv:TE) (D:Addr):TB:=λσ H Q=>te σ H λy H4=>tv σ H4 λv H5=>∃k kvs,y=kV k/\H5 D=some (.dK kvs)/\kvs.length<sizeLine/\Q (upd H5 D (.dK (putK kvs k v)))
theorem zg9 (he:PE X elt te) (hv:PE X val tv):PBd X (do
 let kv <- eval elt X.env;let vv <- K44 [kv] (eval val X.env)
 K5k { elt.pos with endLine:=val.pos.endLine,endCol:=val.pos.endCol }
 K44 [kv,vv] (dictSet D kv vv)) (bPut te tv D):=λpins s σ H Q I h=>by
 refine K0 (thn (he pins s σ H _ I h) λkv sa ⟨y,Ha,Ia,ra,qa⟩=>?_);refine K0 (K22 (thn (hv pins sa σ Ha _ Ia qa) λvv sb ⟨z,Hb,Ib,rb,kk,kvs,ey,eb,zb,q⟩=>?_));subst ey;exact K0 (K4q (K22 (z9W Ib eb zb ra rb λs' I'=>⟨σ,_,I',λ_ _ h=>h,q⟩)))
def bIn (wi1:TI) (g1:TG) (ti1:TT) (tb1:TB):TB:=λσ H Q=>wi1 σ H λJ1 H3=>runG g1 ti1 tb1 σ J1 Q H3
def inner (ce iter1:Expr) (D:Addr) (env:Env):Sem Unit:=do
 let x <- eval iter1 env
 K5k iter1.pos
 let x <- K1d iter1 env x;let _ <- runOwn (.compStart ce 1 (<- K44 [x] (pyIter x)) (.ref D) env) env
theorem zS2 {gs:List Comprehension}{c0:Comprehension}(hce:CK ce) (hcl:clausesOf ce=c0::⟨tg1,iter1,ifs1,0⟩::gs) (htn:∀it,compTurn ce 1 (.ref it) (.ref D) X.env=z53 p1 tg1 ifs1 (.ref it) X.env b1 (.compLoop ce 1 (.ref it) (.ref D) X.env)) (hc:X.calm=true)
 (hi1:PI X tg1 iter1 wi1) (hg1:∀xe,PG (X.wish xe) tg1 g1) (ht1:∀xe,PTs (X.wish xe) ifs1 ti1) (hb1:∀xe,PBd (X.wish xe) b1 tb1) (hs1:∀x,K1d iter1 X.env x=pure x):PBd X (inner ce iter1 D X.env) (bIn wi1 g1 ti1 tb1):=λpins s σ H Q I h=>by
 unfold inner;refine K0 (thn (hi1 pins s σ H _ I h) λv9 s9 h9=>?_);refine K0 (K4q (K0 (K9m (hs1 v9) (K0 (K22 (thn h9 λitv sa ha=>?_))))));obtain⟨it1,fp1,tn1,J1,Ha,e,Ia,T1,sta,fa,rq⟩:=ha;subst e;have st:K69 .(6) X.A (.compStart ce 1 (.ref it1) (.ref D) X.env) (λr s'=>match r with
  | .ok _=>∃σ' H',Inv X pins σ' H' s'/\Kp σ σ'/\Q H'
  | .error e=>cameBackBy .(6) X.A X.env X.xe e s') sa:=by
  have loop:=zO6 (R:=λr s'=>match r with
   | .ok _=>∃σ' H',Inv X pins σ' H' s'/\Kp σ σ'/\Q H'
   | .error e=>cameBackBy .(6) X.A X.env X.xe e s') (htn it1) hce hc (hg1 _) (ht1 _) (hb1 _) Ia T1 sta fa rq λs' H' I' q=>⟨σ,H',I',λ_ _ h=>h,q⟩
  exact z1w hce (by rw[hcl];rfl) loop (T1.self _ 0 _ _ _ sta loop)
 refine K0 (wpAny_runOwn (K4g st λr s' hr=>?_));cases r with
 | ok f=>exact K8 hr
 | error e=>exact hr
end
theorem zD6 {sc:Scope}:CmE (.ListComp elt [⟨tg,iter,ifs,0⟩] sc pos) sc tg iter ifs (Z37 []) (.lst []) (λD env=>do let _ <- call (.builtin "list.append") [.ref D,<- eval elt env]) iter.pos :=
 ⟨.inl ⟨_,_,_,_,rfl⟩,⟨_,rfl⟩,λ_ _ _=>rfl,zH5,λ_=>⟨_,rfl⟩,λ_ _=>⟨_,rfl⟩⟩
theorem zB9 {val:Expr}{sc:Scope}:CmE (.DictComp elt val [⟨tg,iter,ifs,0⟩] sc pos) sc tg iter ifs newDict (.dK []) (λD env=>do
 let kv <- eval elt env;let vv <- K44 [kv] (eval val env)
 K5k { elt.pos with endLine:=val.pos.endLine,endCol:=val.pos.endCol }
 K44 [kv,vv] (dictSet D kv vv)) iter.pos :=
 ⟨.inr ⟨_,_,_,_,_,rfl⟩,⟨_,rfl⟩,λ_ _ _=>rfl,zb7,λ_=>⟨_,rfl⟩,λ_ _=>⟨_,rfl⟩⟩
theorem tn2 {ce tg iter iter1:Expr}{it D:Addr}{env:Env}{m:Sem Fin}(h:m=(do
 K5k iter.pos
 match <- pyNext (.ref it) with
 | none=>pure (.done .next)
 | some v =>
  K4n tg (.ref it) v
  assign tg env v
  let ok <- z4P [] env
  if ok then
   let x <- eval iter1 env
   K5k iter1.pos
   let x <- K1d iter1 env x;let _ <- runOwn (.compStart ce 1 (<- K44 [x] (pyIter x)) (.ref D) env) env
  again (.compLoop ce 0 (.ref it) (.ref D) env))):m=z53 iter.pos tg [] (.ref it) env (inner ce iter1 D env) (.compLoop ce 0 (.ref it) (.ref D) env):=by
 rw[h];unfold z53 inner;refine congrArg _ (funext λ_=>congrArg _ (funext λr=>?_));cases r with
 | none=>rfl
 | some v =>
  dsimp only;refine congrArg _ (funext λ_=>congrArg _ (funext λ_=>?_));show (z4P [] env >>= _)=(z4P [] env >>= _);refine congrArg _ (funext λok=>?_);cases ok with
  | false=>rfl
  | true =>
   simp only[if_true,bind_assoc,pure_bind]
theorem zt7 {val:Expr}{sc:Scope}:CmE (.DictComp elt val [⟨tg,iter,[],0⟩,⟨tg1,iter1,ifs1,0⟩] sc pos) sc tg iter [] newDict (.dK []) (λD env=>inner (.DictComp elt val [⟨tg,iter,[],0⟩,⟨tg1,iter1,ifs1,0⟩] sc pos) iter1 D env) iter.pos :=
 ⟨.inr ⟨_,_,_,_,_,rfl⟩,⟨_,rfl⟩,λ_ _ _=>tn2 rfl,zb7,λ_=>⟨_,rfl⟩,λ_ _=>⟨_,rfl⟩⟩
open PySem
def excO (a C:Addr):HO:=.ext λh=>∃o,h.get? a=some o/\o.cls=.ref C
def dctO (a:Addr):HO:=.ext λh=>∃o,h.get? a=some o/\o.cls=.type "dict"
end L2
namespace FT
variable{α β:Type}{K:K6}{H:Hp}{a q Dd it I S:Addr}{xs vs:List V}{c e tg ce:Expr}{ρ ρ0:List Addr}{i n j ep kk:Nat}{o:Obj}{p pos p2 cpos apos spos:Pos}{u:Value}{ks:List Key}{X:Cx}{t:Z2a}{t':TT}{Q E:Value->Shared->Prop}{v:V}{x:Str}{g':Int->Int->V}{C:Int->Int->Bool}{C':Int->Int->Prop}{env:Env}{es es' es1:Array (Int×Value)}{r:V->List V->Hp->VK->Prop}{T:String}{pins:List (Addr×Obj)}{s:Shared}{P:K1h}{w:World}{mg:Str->Option Value}{base:Heap}{N N':List Str}{l ord:List (Int×Value)}{st:Stmt}{sts sts':List Stmt}{own own1:List Nat}{ifs elts:List Expr}{cap:List (Option Nat)}{tbd:Addr->TB}{sl:Array (Option Value)}{its:Array Value}{A:Around}{lo hi:Option Int}{hx:Int}{gw:Bool->Sem Unit}{R:Option Bool->Shared->Prop}{PV:Nat->Value->Prop}
inductive D where
 | non|bl (b:Bool)|int (i:Int)|str (x:Str)|tup (xs:List D)|fl (xs:List D)|ref (n:Nat)
variable{ds:List D}{d y:D}
inductive O where
 | lst (xs:List D)
 | set (ks:List Key)
 | dct
 | dK (kvs:List (Key×D))
 | dF (kvs:List (Key×D))
 | exc (c:Str)
 | ins (c:Str) (fs:List (Str×D))
variable{oo:O}
abbrev AH:=List O
variable{h h1:AH}{Z:List Key->List Addr->AH->Hp->Prop}
abbrev G:=List (Option D)
variable{γ:G}
structure Exn where
 cls:Str
 fs:List (Str×D)
inductive Res (α:Type) where
 | ok (a:α) (h:AH)|err (x:Exn) (h:AH)|bad
abbrev M (α:Type):=AH->Res α
variable{b:Nat->G->M Unit->M Unit}{ma mb mc mo:G->M D}{f:D->D->M D}{g g1:D->G->M G}{m:List D->G->M G}{ka kb kc k1:G->M Bool}{mr:G->M (List D)}{mf:List D->M D}{b1:G->M Unit->M Unit}
def M.pure (a:α):M α:=λh=>.ok a h
def M.bind (m:M α) (f:α->M β):M β:=λh=>match m h with
 | .ok a h1=>f a h1
 | .err x h1=>.err x h1
 | .bad=>.bad
instance:Monad M where
 pure:=M.pure
 bind:=M.bind
def bad {α:Type}:M α:=λ_=>.bad
theorem M.bind_eq (m:M α) (f:α->M β) (h:AH):(m >>= f) h=match m h with
 | .ok a h1=>f a h1
 | .err x h1=>.err x h1
 | .bad=>.bad:=rfl
theorem M.bind_ok {m:M α}{f:α->M β}{a:α}(e:m h=.ok a h1):(m >>= f) h=f a h1:=by rw[M.bind_eq,e]
def SqLP (K:K6) (H:Hp) (a:Addr) (xs:List V):Prop :=
 (∃o,H a=some (.frz o (.lst xs))) \/
  ∃(o:Obj) (its:Array Value) (n:Nat),K.lookup a=some o/\o.cls=.type "list"/\o.dict=none/\o.data=.seq its n/\its.size<=sizeLine/\Vals xs its.toList
theorem SqLP.sq (h:SqLP K H a xs):SqL K H a xs:=by
 rcases h with ⟨o,h⟩|h
 ·exact .inl (.inr ⟨o,h⟩)
 ·exact .inr h
mutual
def RD (K:K6) (ρ:List Addr) (H:Hp):D->V->Prop
 | .non,v=>v=.non
 | .bl b,v=>v=.bl b
 | .int i,v=>v=.int i
 | .str x,v=>v=.str x
 | .tup ds,v=>∃a xs,v=.ref a/\SqT K H a xs/\RDs K ρ H ds xs
 | .fl ds,v=>∃a xs,v=.ref a/\SqLP K H a xs/\RDs K ρ H ds xs
 | .ref n,v=>∃a,v=.ref a/\ρ[n]?=some a
def RDs (K:K6) (ρ:List Addr) (H:Hp):List D->List V->Prop
 | [],xs=>xs=[]
 | d::ds,xs=>∃x r,xs=x::r/\RD K ρ H d x/\RDs K ρ H ds r
end
def Pre (ρ ρ':List Addr):Prop:=∀(n:Nat) a,ρ[n]?=some a->ρ'[n]?=some a
theorem Pre.refl (ρ:List Addr):Pre ρ ρ:=λ_ _ h=>h
theorem Pre.trans {a b c:List Addr}(x:Pre a b) (y:Pre b c):Pre a c:=λn z h=>y n z (x n z h)
theorem Pre.app (ρ r:List Addr):Pre ρ (ρ++r):=λn a h=>by
 rw[K0z (K3.mp h).1];exact h
structure Ext (K:K6) (H H':Hp):Prop where
 t:∀a xs,SqT K H a xs->SqT K H' a xs
 l:∀a xs,SqLP K H a xs->SqLP K H' a xs
 d:∀a o vs,H a=some (.frz o (.dK vs))->H' a=some (.frz o (.dK vs))
theorem Ext.refl (K:K6) (H:Hp):Ext K H H:=⟨λ_ _ h=>h,λ_ _ h=>h,λ_ _ _ h=>h⟩
theorem Ext.trans {a b c:Hp}(x:Ext K a b) (y:Ext K b c):Ext K a c:=⟨λz xs h=>y.t z xs (x.t z xs h),λz xs h=>y.l z xs (x.l z xs h),λz o vs h=>y.d z o vs (x.d z o vs h)⟩
def Trk:HO->Prop
 | .lst _=>True
 | .set _=>True
 | .ext _=>True
 | .dK _=>True
 | .ins _ _ _=>True
 | _=>False
theorem Ext.upd {K:K6}{H:Hp}{p:Addr}{o:HO}(h:H p=none\/∃u,H p=some u/\Trk u):Ext K H (upd H p o):=by
 have ne:∀{b:Addr} {u:HO},H b=some u->¬ Trk u->b≠p:=λ{b u} e n z=>by
  subst z;rcases h with h|⟨u',h,tr⟩
  ·rw[h]at e;cases e
  ·rw[h]at e;cases e;exact n tr
 refine⟨λa xs q=>?_,λa xs q=>?_,λa o vs q=>by rw[Y2 (ne q (λz=>z))];exact q⟩
 ·rcases q with (q|⟨u,q⟩)|q
  ·exact .inl (.inl (by rw[Y2 (ne q (λz=>z))];exact q))
  ·exact .inl (.inr ⟨u,by rw[Y2 (ne q (λz=>z))];exact q⟩)
  ·exact .inr q
 ·rcases q with ⟨u,q⟩|q
  ·exact .inl ⟨u,by rw[Y2 (ne q (λz=>z))];exact q⟩
  ·exact .inr q
section
variable {ρ':List Addr}{H':Hp}
mutual
theorem RD.mono (p:Pre ρ ρ') (e:Ext K H H'):∀{d:D}{v:V},RD K ρ H d v->RD K ρ' H' d v
 | .non,v,h=>by simpa [RD] using h
 | .bl b,v,h=>by simpa [RD] using h
 | .int b,v,h=>by simpa [RD] using h
 | .str b,v,h=>by simpa [RD] using h
 | .tup ds,v,h=>by
  simp only[RD]at h ⊢;obtain⟨a,xs,h1,h2,h3⟩:=h;exact⟨a,xs,h1,e.t a xs h2,RDs.mono p e h3⟩
 | .fl ds,v,h=>by
  simp only[RD]at h ⊢;obtain⟨a,xs,h1,h2,h3⟩:=h;exact⟨a,xs,h1,e.l a xs h2,RDs.mono p e h3⟩
 | .ref n,v,h=>by
  simp only[RD]at h ⊢;obtain⟨a,h1,h2⟩:=h;exact⟨a,h1,p n a h2⟩
theorem RDs.mono (p:Pre ρ ρ') (e:Ext K H H'):∀{ds:List D}{xs:List V},RDs K ρ H ds xs->RDs K ρ' H' ds xs
 | [],xs,h=>by simpa [RDs] using h
 | d::ds,xs,h=>by
  simp only[RDs]at h ⊢;obtain⟨x,r,h1,h2,h3⟩:=h;exact⟨x,r,h1,RD.mono p e h2,RDs.mono p e h3⟩
end
theorem RDs.nil:RDs K ρ H [] []:=by simp[RDs]
theorem RDs.cons {d:D}{ds:List D}{x:V}{xs:List V}(h:RD K ρ H d x) (t:RDs K ρ H ds xs):RDs K ρ H (d::ds) (x::xs):=by
 simp only[RDs];exact⟨x,xs,rfl,h,t⟩
theorem RDs.pair:∀{ds:List D}{xs:List V},RDs K ρ H ds xs->Paired (RD K ρ H) ds xs
 | [],xs,h=>by simp only[RDs]at h;subst h;exact .nil
 | d::ds,xs,h=>by
  simp only[RDs]at h;obtain⟨x,r,rfl,h2,h3⟩:=h;exact .cons h2 h3.pair
theorem RDs.length {ds:List D}{xs:List V}(h:RDs K ρ H ds xs):ds.length=xs.length:=K4p h.pair
theorem RDs.append {a b:List D}{ys:List V}(h:RDs K ρ H a xs) (t:RDs K ρ H b ys):RDs K ρ H (a++b) (xs++ys):=by
 induction a generalizing xs with
 | nil=>simp only[RDs]at h;subst h;exact t
 | cons d ds ih =>
  simp only[RDs]at h;obtain⟨x,r,rfl,h2,h3⟩:=h;exact RDs.cons h2 (ih h3)
theorem RDs.get (h:RDs K ρ H ds xs) (e:ds[i]?=some d):∃x,xs[i]?=some x/\RD K ρ H d x:=by
 induction ds generalizing xs i with
 | nil=>simp at e
 | cons a ds ih =>
  simp only[RDs]at h;obtain⟨x,r,rfl,h2,h3⟩:=h;cases i with
  | zero=>simp at e;subst e;exact⟨x,rfl,h2⟩
  | succ i =>
   obtain⟨y,h4,h5⟩:=ih h3 (by simpa using e);exact⟨y,by simpa using h4,h5⟩
theorem RDs.drop {ds:List D}{xs:List V}(n:Nat) (h:RDs K ρ H ds xs):RDs K ρ H (ds.drop n) (xs.drop n):=by
 induction n generalizing ds xs with
 | zero=>exact h
 | succ n ih=>cases ds with
  | nil=>simp only[RDs]at h;subst h;exact RDs.nil
  | cons d ds=>simp only[RDs]at h;obtain⟨x,r,rfl,h2,h3⟩:=h;exact ih h3
theorem RDs.take {ds:List D}{xs:List V}(n:Nat) (h:RDs K ρ H ds xs):RDs K ρ H (ds.take n) (xs.take n):=by
 induction n generalizing ds xs with
 | zero=>exact RDs.nil
 | succ n ih=>cases ds with
  | nil=>simp only[RDs]at h;subst h;exact RDs.nil
  | cons d ds=>simp only[RDs]at h;obtain⟨x,r,rfl,h2,h3⟩:=h;exact RDs.cons h2 (ih h3)
theorem RDs.set {ds:List D}{xs:List V}{d:D}{x:V}(n:Nat) (h:RDs K ρ H ds xs) (hd:RD K ρ H d x):RDs K ρ H (ds.set n d) (xs.set n x):=by
 induction n generalizing ds xs with
 | zero=>cases ds with
  | nil=>simp only[RDs]at h;subst h;exact RDs.nil
  | cons a ds=>simp only[RDs]at h;obtain⟨y,r,rfl,h2,h3⟩:=h;exact RDs.cons hd h3
 | succ n ih=>cases ds with
  | nil=>simp only[RDs]at h;subst h;exact RDs.nil
  | cons a ds=>simp only[RDs]at h;obtain⟨y,r,rfl,h2,h3⟩:=h;exact RDs.cons h2 (ih h3)
theorem RDs.eraseIdx {ds:List D}{xs:List V}(n:Nat) (h:RDs K ρ H ds xs):RDs K ρ H (ds.eraseIdx n) (xs.eraseIdx n):=by
 induction n generalizing ds xs with
 | zero=>cases ds with
  | nil=>simp only[RDs]at h;subst h;exact RDs.nil
  | cons a ds=>simp only[RDs]at h;obtain⟨y,r,rfl,h2,h3⟩:=h;exact h3
 | succ n ih=>cases ds with
  | nil=>simp only[RDs]at h;subst h;exact RDs.nil
  | cons a ds=>simp only[RDs]at h;obtain⟨y,r,rfl,h2,h3⟩:=h;exact RDs.cons h2 (ih h3)
theorem RDs.flat (n:Nat) (h:RDs K ρ H ds xs):RDs K ρ H (K0n n ds).flatten (K0n n xs).flatten:=by
 induction n with
 | zero=>exact RDs.nil
 | succ n ih=>rw[K2p,K3y,K2p,K3y];exact h.append ih
def RK (K:K6) (ρ:List Addr) (H:Hp){κ:Type}:List (κ×D)->List (κ×V)->Prop:=Paired λp q=>p.1=q.1/\RD K ρ H p.2 q.2
theorem RK.imp {α β:Type}{P Q:α->β->Prop}(f:∀a b,P a b->Q a b):∀{xs:List α}{ys:List β},Paired P xs ys->Paired Q xs ys
 | _,_,.nil=>.nil
 | _,_,.cons a b=>.cons (f _ _ a) (RK.imp f b)
theorem RK.mono {κ:Type}{kvs:List (κ×D)}{vs:List (κ×V)}(p:Pre ρ ρ') (e:Ext K H H') (r:RK K ρ H kvs vs):RK K ρ' H' kvs vs:=RK.imp (λ_ _ h=>⟨h.1,h.2.mono p e⟩) r
def RO (K:K6) (ρ:List Addr) (H:Hp) (o:O) (a:Addr):Prop:=match o with
 | .lst ds=>∃xs,H a=.(l xs)/\RDs K ρ H ds xs
 | .set ks=>H a=some (.set ks)
 | .dct=>H a=some (dctO a)
 | .dK kvs=>∃vs,H a=some (.dK vs)/\RK K ρ H kvs vs
 | .dF kvs=>∃ob vs,H a=some (.frz ob (.dK vs))/\RK K ρ H kvs vs
 | .exc c=>∃C,K6x K K2i c=some (.(r C))/\H a=some (excO a C)
 | .ins c fs=>∃C dx vs,K6x K K2i c=some (.(r C))/\H a=some (.ins C dx vs)/\RK K ρ H fs vs
structure RH (K:K6) (ρ:List Addr) (h:AH) (H:Hp):Prop where
 len:ρ.length=h.length
 nd:∀(i j:Nat) a,ρ[i]?=some a->ρ[j]?=some a->i=j
 obj:∀(n:Nat) o a,h[n]?=some o->ρ[n]?=some a->RO K ρ H o a
theorem RH.at (r:RH K ρ h H){o:O}(e:h[n]?=some o):∃a,ρ[n]?=some a/\RO K ρ H o a:=by
 have hi:=(K3.mp e).1;have hj:n<ρ.length:=by rw[r.len];exact hi
 have q:ρ[n]?=some ρ[n]:=K00 hj;exact⟨_,q,r.obj n o _ e q⟩
def O.fz:O->Bool
 | .dF _=>true
 | _=>false
theorem RO.there {o:O}(z:RO K ρ H o a):∃u,H a=some u/\(o.fz=false->Trk u):=by
 cases o with
 | lst ds=>obtain⟨xs,z,_⟩:=z;exact⟨_,z,λ_=>trivial⟩
 | set ks=>exact⟨_,z,λ_=>trivial⟩
 | dct=>exact⟨_,z,λ_=>trivial⟩
 | dK kvs=>obtain⟨vs,z,_⟩:=z;exact⟨_,z,λ_=>trivial⟩
 | dF kvs=>obtain⟨ob,vs,z,_⟩:=z;exact⟨_,z,λq=>by cases q⟩
 | exc c=>obtain⟨C,_,z⟩:=z;exact⟨_,z,λ_=>trivial⟩
 | ins c fs=>obtain⟨C,dx,vs,_,z,_⟩:=z;exact⟨_,z,λ_=>trivial⟩
theorem RH.there {h:AH}(r:RH K ρ h H) {n:Nat}{a:Addr}(e:ρ[n]?=some a):∃u,H a=some u:=by
 have hi:=(K3.mp e).1;have hj:n<h.length:=by rw[<- r.len];exact hi
 obtain⟨u,z,_⟩:=(r.obj n _ a (K00 hj) e).there;exact⟨u,z⟩
theorem RH.tracked (r:RH K ρ h H){o:O}(e:ρ[n]?=some a) (eo:h[n]?=some o) (nf:o.fz=false:=by rfl):∃u,H a=some u/\Trk u:=by
 obtain⟨u,z,q⟩:=(r.obj n _ a eo e).there;exact⟨u,z,q nf⟩
theorem RO.mono {o:O}{a:Addr}(p:Pre ρ ρ') (e:Ext K H H') (hs:H' a=H a) (r:RO K ρ H o a):RO K ρ' H' o a:=by
 cases o with
 | lst ds=>obtain⟨xs,h1,h2⟩:=r;exact⟨xs,hs.trans h1,h2.mono p e⟩
 | set ks=>exact hs.trans r
 | dct=>exact hs.trans r
 | dK kvs=>obtain⟨vs,h1,h2⟩:=r;exact⟨vs,hs.trans h1,h2.mono p e⟩
 | dF kvs=>obtain⟨ob,vs,h1,h2⟩:=r;exact⟨ob,vs,hs.trans h1,h2.mono p e⟩
 | exc c=>obtain⟨C,h1,h2⟩:=r;exact⟨C,h1,hs.trans h2⟩
 | ins c fs=>obtain⟨C,dx,vs,h1,h2,h3⟩:=r;exact⟨C,dx,vs,h1,hs.trans h2,h3.mono p e⟩
theorem RH.other {p:Addr}{o:HO}(r:RH K ρ h H) (hp:H p=none):RH K ρ h (upd H p o) :=
 ⟨r.len,r.nd,λn u a h1 h2=>(r.obj n u a h1 h2).mono .(b) (Ext.upd (.inl hp)) (by
  obtain⟨u,q⟩:=r.there h2;exact Y2 (Y8 q hp))⟩
theorem RH.pushO {p:Addr}{o':O}{u:HO}(r:RH K ρ h H) (hp:H p=none) (hd:RO K (ρ++[p]) (upd H p u) o' p):RH K (ρ++[p]) (h++[o']) (upd H p u):=by
 have ne:∀{n:Nat} {a:Addr},ρ[n]?=some a->a≠p:=λe=>by
  obtain⟨xs,q⟩:=r.there e;exact Y8 q hp
 have ext:Ext K H (L2.upd H p u):=Ext.upd (.inl hp);refine⟨by simp[r.len],λi j a h1 h2=>?_,λn o a h1 h2=>?_⟩
 ·rw[K40]at h1 h2;split at h1<;>split at h2
  ·exact r.nd i j a h1 h2
  ·rename_i hi hj;rw[K1x]at h2;split at h2
   ·cases h2;exact absurd rfl (ne h1)
   ·cases h2
  ·rename_i hi hj;rw[K1x]at h1;split at h1
   ·cases h1;exact absurd rfl (ne h2)
   ·cases h1
  ·rename_i hi hj;rw[K1x]at h1 h2;split at h1
   ·split at h2
    ·omega
    ·cases h2
   ·cases h1
 ·rw[K40]at h1 h2;rw[r.len]at h2;split at h1
  ·rename_i hn;rw[if_pos hn]at h2;exact(r.obj n o a h1 h2).mono (Pre.app _ _) ext (Y2 (ne h2))
  ·rename_i hn;rw[if_neg hn]at h2;rw[K1x]at h1 h2;split at h1
   ·rename_i h0;rw[if_pos h0]at h2;cases h1;cases h2;exact hd
   ·cases h1
theorem RH.push {p:Addr}(r:RH K ρ h H) (hp:H p=none) (hd:RDs K ρ H ds xs):RH K (ρ++[p]) (h++[.lst ds]) (upd H p (.lst xs)) :=
 r.pushO hp ⟨xs,J8,hd.mono (Pre.app _ _) (Ext.upd (.inl hp))⟩
theorem RH.pushS {p:Addr}(r:RH K ρ h H) (hp:H p=none):RH K (ρ++[p]) (h++[.set ks]) (upd H p (.set ks)):=r.pushO hp J8
theorem RH.setO {o0 o':O}{u:HO}(r:RH K ρ h H) (e:h[n]?=some o0) (ea:ρ[n]?=some a) (hd:RO K ρ (upd H a u) o' a) (nf:o0.fz=false:=by rfl):RH K ρ (h.set n o') (upd H a u):=by
 have ext:Ext K H (L2.upd H a u):=Ext.upd (.inr (r.tracked ea e nf));refine⟨by simp[r.len],r.nd,λm o b h1 h2=>?_⟩;by_cases hm:m=n
 ·subst hm;rw[ea]at h2;cases h2;have hi:=(K3.mp e).1;rw[K1g hi]at h1;cases h1;exact hd
 ·rw[K1l (λz=>hm z.symm)]at h1;exact(r.obj m o b h1 h2).mono .(b) ext (Y2 λz=>hm (r.nd m n b h2 (by rw[z];exact ea)))
theorem RH.set {h:AH}{n:Nat}{a:Addr}{ds0 ds:List D}{xs:List V}(r:RH K ρ h H) (e:h[n]?=.(l ds0)) (ea:ρ[n]?=some a) (hd:RDs K ρ H ds xs):RH K ρ (h.set n (.lst ds)) (upd H a (.lst xs)) :=
 r.setO e ea ⟨xs,J8,hd.mono .(b) (Ext.upd (.inr (r.tracked ea e)))⟩
structure RG (K:K6) (ρ:List Addr) (H:Hp) (γ:G) (σ:L2.St):Prop where
 len:γ.length=σ.length
 var:∀(i:Nat) d,γ[i]?=some (some d)->∃v,σ[i]?=some (some v)/\RD K ρ H d v
theorem RG.mono {γ:G}{σ:L2.St}(p:Pre ρ ρ') (e:Ext K H H') (r:RG K ρ H γ σ):RG K ρ' H' γ σ :=
 ⟨r.len,λi d h=>let ⟨v,h1,h2⟩:=r.var i d h;⟨v,h1,h2.mono p e⟩⟩
theorem RG.set {γ:G}{σ:L2.St}{d:D}{v:V}(r:RG K ρ H γ σ) (i:Nat) (hd:RD K ρ H d v):RG K ρ H (γ.set i (some d)) (σ.set i (some v)):=by
 refine⟨by simp[r.len],λj d' h=>?_⟩;by_cases hj:i=j
 ·subst hj;have hi:i<γ.length:=by
   have:=(K3.mp h).1;simpa using this
  rw[K1g hi]at h;cases h;exact⟨v,K1g (by rw[<- r.len];exact hi),hd⟩
 ·rw[K1l hj]at h ⊢;exact r.var j d' h
structure Rel (K:K6) (ρ:List Addr) (γ:G) (h:AH) (σ:L2.St) (H:Hp):Prop where
 g:RG K ρ H γ σ
 h:RH K ρ h H
abbrev XX:=Exn->List Addr->AH->Hp->Prop
def Fin (K:K6) (EX:XX) (ρ:List Addr) (H:Hp) (P:α->List Addr->AH->Hp->Prop):Res α->Prop
 | .ok a h'=>∀ρ' H',Pre ρ ρ'->Ext K H H'->RH K ρ' h' H'->P a ρ' h' H'
 | .err x h'=>∀ρ' H',Pre ρ ρ'->Ext K H H'->RH K ρ' h' H'->EX x ρ' h' H'
 | .bad=>False
variable {EX:XX}
theorem Fin.up {P:α->List Addr->AH->Hp->Prop}{r:Res α}(p:Pre ρ ρ') (e:Ext K H H') (f:Fin K EX ρ H P r):Fin K EX ρ' H' P r:=by
 cases r with
 | ok a h=>exact λρ2 H2 p2 e2 r2=>f ρ2 H2 (p.trans p2) (e.trans e2) r2
 | err x h=>exact λρ2 H2 p2 e2 r2=>f ρ2 H2 (p.trans p2) (e.trans e2) r2
 | bad=>exact f
theorem Fin.mono {P P':α->List Addr->AH->Hp->Prop}{r:Res α}(f:Fin K EX ρ H P r) (h:∀a ρ' h' H',Pre ρ ρ'->Ext K H H'->RH K ρ' h' H'->P a ρ' h' H'->P' a ρ' h' H'):Fin K EX ρ H P' r:=by
 cases r with
 | ok a h1=>exact λρ2 H2 p2 e2 r2=>h a ρ2 h1 H2 p2 e2 r2 (f ρ2 H2 p2 e2 r2)
 | err x h1=>exact f
 | bad=>exact f
theorem Fin.bind {P:β->List Addr->AH->Hp->Prop}{m:M α}{f:α->M β}(z:Fin K EX ρ H P ((m >>= f) h)):Fin K EX ρ H (λa ρ1 h1 H1=>Fin K EX ρ1 H1 P (f a h1)) (m h):=by
 rw[M.bind_eq]at z;cases e:m h with
 | ok a h1=>rw[e]at z;exact λρ2 H2 p2 e2 r2=>Fin.up p2 e2 z
 | err x h1=>rw[e]at z;exact z
 | bad=>rw[e]at z;exact z
end
variable{EX:XX}
def tE (K:K6) (EX:XX) (m:G->M D):TE:=λσ H Q=>∃ρ γ h,Rel K ρ γ h σ H/\Fin K EX ρ H (λd ρ' _ H'=>∀v,RD K ρ' H' d v->Q v H') (m γ h)
def tT (K:K6) (EX:XX) (m:G->M Bool):TT:=λσ H Q=>∃ρ γ h,Rel K ρ γ h σ H/\Fin K EX ρ H (λb _ _ H'=>Q b H') (m γ h)
def tL (K:K6) (EX:XX) (m:G->M (List D)):TA:=λσ H Q=>∃ρ γ h,Rel K ρ γ h σ H/\Fin K EX ρ H (λds ρ' _ H'=>∀vs,RDs K ρ' H' ds vs->Q vs H') (m γ h)
inductive Out where
 | nx (γ:G)|rt (d:D)|bk (γ:G)|ct (γ:G)
def OutP (K:K6) (D:Ends) (o:Out) (ρ:List Addr) (H:Hp):Prop:=match o with
 | .nx γ=>∀σ,RG K ρ H γ σ->D.nx σ H
 | .rt d=>∀v,RD K ρ H d v->D.rt v H
 | .bk γ=>∀σ,RG K ρ H γ σ->D.bk σ H
 | .ct γ=>∀σ,RG K ρ H γ σ->D.ct σ H
def tB (K:K6) (EX:XX) (m:G->M Out):TS:=λD σ H=>∃ρ γ h,Rel K ρ γ h σ H/\Fin K EX ρ H (λo ρ' _ H'=>OutP K D o ρ' H') (m γ h)
structure SE (X:Cx) (EX:XX) (e:Expr) (m:G->M D):Prop where
 h:PE X e (tE X.K EX m)
structure SC (X:Cx) (EX:XX) (e:Expr) (m:G->M Bool):Prop where
 h:PT X e (tT X.K EX m)
structure SA (X:Cx) (EX:XX) (es:List Expr) (m:G->M (List D)):Prop where
 h:PA X es (tL X.K EX m)
structure S1 (X:Cx) (EX:XX) (st:Stmt) (m:G->M Out):Prop where
 h:PS X st (tB X.K EX m)
structure SB (X:Cx) (EX:XX) (st:List Stmt) (m:G->M Out):Prop where
 h:PSs X st (tB X.K EX m)
theorem PE.imp {t t':TE}(h:PE X e t) (f:∀σ H Q,t' σ H Q->t σ H Q):PE X e t':=λpins s σ H Q I z=>h pins s σ H Q I (f σ H Q z)
theorem PT.imp {t:TT}(h:PT X e t) (f:∀σ H Q,t' σ H Q->t σ H Q):PT X e t':=λpins s σ H Q I z=>h pins s σ H Q I (f σ H Q z)
theorem PA.imp {e:List Expr}{t t':TA}(h:PA X e t) (f:∀σ H Q,t' σ H Q->t σ H Q):PA X e t':=λpos pins s σ H Q I z=>h pos pins s σ H Q I (f σ H Q z)
theorem PS.imp {e:Stmt}{t t':TS}(h:PS X e t) (f:∀σ H Q,t' Q σ H->t Q σ H):PS X e t':=λpins s σ H Q I z=>h pins s σ H Q I (f σ H Q z)
theorem PSs.imp {e:List Stmt}{t t':TS}(h:PSs X e t) (f:∀σ H Q,t' Q σ H->t Q σ H):PSs X e t':=λpins s σ H Q I z=>h pins s σ H Q I (f σ H Q z)
abbrev FE (K:K6) (EX:XX) (ρ:List Addr) (H:Hp) (Q:VK) (r:Res D):Prop:=Fin K EX ρ H (λd ρ' _ H'=>∀v,RD K ρ' H' d v->Q v H') r
theorem FE.here {Q:VK}(f:FE K EX ρ H Q (.ok d h)) (r:RH K ρ h H) (rd:RD K ρ H d v):Q v H:=f ρ H .(b) .(c) r v rd
theorem FE.tup {K:K6}{EX:XX}{ρ:List Addr}{H:Hp}{Q:VK}{ds:List D}{xs:List V}{h:AH}{p:Addr}(f:FE K EX ρ H Q (.ok (.tup ds) h)) (r:RH K ρ h H) (hd:RDs K ρ H ds xs) (hp:H p=none):Q (.ref p) (upd H p (.tup xs)):=by
 have e:Ext K H (L2.upd H p (.tup xs)):=Ext.upd (.inl hp);refine f ρ _ .(b) e (r.other hp) _ ?_;simp only[RD];exact⟨p,xs,rfl,SqT.of J8,hd.mono .(b) e⟩
theorem FE.lst {K:K6}{EX:XX}{ρ:List Addr}{H:Hp}{Q:VK}{ds:List D}{xs:List V}{h:AH}{p:Addr}(f:FE K EX ρ H Q (.ok .(u) (h++[.lst ds]))) (r:RH K ρ h H) (hd:RDs K ρ H ds xs) (hp:H p=none):Q (.ref p) (upd H p (.lst xs)):=by
 refine f (ρ++[p]) _ (Pre.app _ _) (Ext.upd (.inl hp)) (r.push hp hd) _ ?_;simp only[RD];refine⟨p,rfl,?_⟩;rw[<- r.len];simp
def getL (n:Nat):M (List D):=λh=>match h[n]? with
 | .(l xs)=>.ok xs h
 | _=>.bad
def newL (xs:List D):M D:=λh=>if xs.length<=sizeLine then .ok .(u) (h++[.lst xs]) else .bad
section
variable {a b:Expr}
def eVar (i:Nat):G->M D:=λγ=>match γ[i]? with
 | some (some d)=>pure d
 | _=>bad
theorem z0 (i:Nat) (hN:X.N[i]?=some x:=by rfl) (hv:Vis X.env.scope x:=by first|exact Or.inl rfl|exact Or.inr (Or.inl rfl)|exact Or.inr (Or.inr rfl))
 (hd:(x==("__debug__":Str))=false:=by decide) (hcd:(x==("__classdict__":Str))=false:=by decide):SE X EX (.Name x pos) (eVar i) :=
 ⟨PE.imp (zR2 hN hv hd hcd) λσ H Q ⟨ρ,γ,h,rel,f⟩=>by
  have f':FE X.K EX ρ H Q (eVar i γ h):=f;unfold eVar at f';cases e:γ[i]? with
  | none=>rw[e]at f';exact f'.elim
  | some o=>cases o with
   | none=>rw[e]at f';exact f'.elim
   | some d =>
    rw[e]at f';obtain⟨v,h1,h2⟩:=rel.g.var i d e;exact⟨v,h1,FE.here f' rel.h h2⟩⟩
theorem z3p (h:PE X e (tC v)) (r:∀ρ H,RD X.K ρ H d v):SE X EX e (λ_=>pure d) :=
 ⟨PE.imp h λσ H Q ⟨ρ,γ,h,rel,f⟩=>FE.here f rel.h (r ρ H)⟩
theorem Z1 {i:Int}:SE X EX (.Constant (.int i) j pos) (λ_=>pure (.int i)):=z3p zV4 λ_ _=>by simp[RD]
theorem z2m {i:Bool}:SE X EX (.Constant (.bool i) j pos) (λ_=>pure (.bl i)):=z3p Z0M λ_ _=>by simp[RD]
theorem z3a:SE X EX (.Constant .none j pos) (λ_=>pure .non):=z3p zX4 λ_ _=>by simp[RD]
theorem y3 {i:Str}:SE X EX (.Constant (.str i) j pos) (λ_=>pure (.str i)):=z3p zU0 λ_ _=>by simp[RD]
theorem zL8 (hg:Gl X x) (hm:X.mg x=some u) (r:RelV v u) (hr:∀ρ H,RD X.K ρ H d v) (hd:(x==("__debug__":Str))=false:=by decide):SE X EX (.Name x pos) (λ_=>pure d) :=
 z3p (zA2 hg hm r hd) hr
def BR (K:K6) (EX:XX) (r:R2) (f:D->D->M D):Prop:=∀ρ h H x y v u Q,RH K ρ h H->RD K ρ H x v->RD K ρ H y u->FE K EX ρ H Q (f x y h)->r v u H Q
def e2 (f:D->D->M D) (ma mb:G->M D):G->M D:=λγ=>do
 let x <- ma γ;let y <- mb γ
 f x y
theorem zd5 {r:R2}{ta tb:TE}(h:PE X e (tOp r (tE X.K EX ma) (tE X.K EX mb))) (hr:BR X.K EX r f):SE X EX e (e2 f ma mb) :=
 ⟨PE.imp h λσ H Q ⟨ρ,γ,h,rel,fin⟩=>⟨ρ,γ,h,rel,(Fin.bind fin).mono λx ρ1 h1 H1 p1 e1 r1 f1 v rv=>⟨ρ1,γ,h1,⟨rel.g.mono p1 e1,r1⟩,(Fin.bind f1).mono λy ρ2 h2 H2 p2 e2 r2 f2 u ru =>
  hr ρ2 h2 H2 x y v u Q r2 (rv.mono p2 e2) ru f2⟩⟩⟩
theorem z9v {op:Operator}{r:R2}(ho:OpR X (K3c op) r) (hr:BR X.K EX r f) (ha:SE X EX a ma) (hb:SE X EX b mb):SE X EX (.BinOp a op b pos) (e2 f ma mb) :=
 zd5 (ta:=tE X.K EX ma) (tb:=tE X.K EX mb) (Z0g ho ha.h hb.h) hr
theorem Z0a {op:CmpOp}{r:R2}(ho:OpR X (K20 op) r) (hr:BR X.K EX r f) (ha:SE X EX a ma) (hb:SE X EX b mb) (hm:K4r op b=false):SE X EX (.Compare a [op] [b] pos) (e2 f ma mb) :=
 zd5 (ta:=tE X.K EX ma) (tb:=tE X.K EX mb) (zD3 ho ha.h hb.h hm) hr
def fI (g:Int->Int->D):D->D->M D
 | .int i,.int j=>pure (g i j)
 | _,_=>bad
theorem zB6 {g:Int->Int->D}(hg:∀i j ρ H,RD K ρ H (g i j) (g' i j)):BR K EX (rI0 g') (fI g):=by
 intro ρ h H x y v u Q r rx ry fin;unfold fI at fin;split at fin
 ·simp only[RD]at rx ry;subst rx;subst ry;exact⟨_,_,rfl,rfl,FE.here fin r (hg _ _ _ _)⟩
 ·exact fin.elim
def fIC (C:Int->Int->Bool) (g:Int->Int->D):D->D->M D
 | .int i,.int j=>if C i j then pure (g i j) else bad
 | _,_=>bad
theorem zC4 {g:Int->Int->D}(hc:∀i j,C i j=true->C' i j) (hg:∀i j ρ H,RD K ρ H (g i j) (g' i j)):BR K EX (rI C' g') (fIC C g):=by
 intro ρ h H x y v u Q r rx ry fin;unfold fIC at fin;split at fin
 ·simp only[RD]at rx ry;subst rx;subst ry;split at fin
  ·rename_i hC;exact⟨_,_,rfl,rfl,hc _ _ hC,FE.here fin r (hg _ _ _ _)⟩
  ·exact fin.elim
 ·exact fin.elim
def fSub:=fI λi j=>.int (i - j)
def fDiv:=fIC (λ_ j=>decide (0<j)&&decide (j<1073741824)) λi j=>.int (i / j)
def fMod:=fIC (λ_ j=>decide (0<j)) λi j=>.int (i % j)
def fPow:=fIC (λi j=>decide (0<=j)&&decide (j<=1000)&&decide (-(2 ^ 64)<i)&&decide (i<2 ^ 64)) λi j=>.int (i ^ j.toNat)
theorem zh9 (ha:SE X EX a ma) (hb:SE X EX b mb):SE X EX (.BinOp a .Sub b pos) (e2 fSub ma mb):=z9v zZ1 (zB6 λi j ρ H=>by simp[RD]) ha hb
theorem zh3 (ha:SE X EX a ma) (hb:SE X EX b mb):SE X EX (.BinOp a .FloorDiv b pos) (e2 fDiv ma mb):=z9v zG9 (zC4 (λi j h=>by simp at h;exact h) λi j ρ H=>by simp[RD]) ha hb
theorem z4S (ha:SE X EX a ma) (hb:SE X EX b mb):SE X EX (.BinOp a .Mod b pos) (e2 fMod ma mb):=z9v zW2 (zC4 (λi j h=>by simpa using h) λi j ρ H=>by simp[RD]) ha hb
theorem z90 (ha:SE X EX a ma) (hb:SE X EX b mb):SE X EX (.BinOp a .Pow b pos) (e2 fPow ma mb):=z9v zQ4 (zC4 (λi j h=>by
 simp at h;refine⟨h.1.1.1,by omega,?_⟩;have h1:=h.1.2;have h2:=h.2;omega) λi j ρ H=>by simp[RD]) ha hb
def fAdd:D->D->M D
 | .int i,.int j=>pure (.int (i+j))
 | .str i,.str j=>if i.length+j.length<=sizeLine then pure (.str (i++j)) else bad
 | .ref i,.ref j=>do
  let x <- getL i;let y <- getL j
  newL (x++y)
 | .tup x,.tup y=>if !decide (x.length+y.length<=sizeLine) then bad else pure (.tup (x++y))
 | _,_=>bad
theorem z1e {xs:List D}(e:getL n h=.ok xs h1):h1=h/\h[n]?=.(l xs):=by
 unfold getL at e;split at e
 ·rename_i q;cases e;exact⟨rfl,q⟩
 ·cases e
theorem z1h {x:Exn}(e:getL n h=.err x h1):False:=by
 unfold getL at e;split at e<;>cases e
def zC3 (K:K6):R2:=λx y H Q=>∃a b ys,x=.ref a/\y=.ref b/\SqT K H a []/\SqT K H b ys/\Q (.ref b) H
theorem zE8:OpR X (K3c .Add) (zC3 X.K):=by
 intro pins s σ H x y v u Q I rx ry h;obtain⟨a,b,ys,rfl,rfl,ha,hb,q⟩:=h;cases rx;cases ry;obtain⟨its,r1,p1,_⟩:=I.tuple ha;obtain⟨its2,r2,p2,_⟩:=I.tuple hb;have e:its=[]:=(r1.nil_iff).mpr rfl;subst e;obtain⟨⟨cls,dd,data,sl⟩,ho,hc,n,hd⟩:=id p1;obtain⟨⟨cls2,dd2,data2,sl2⟩,ho2,hc2,n2,hd2⟩:=id p2;simp only at hc hd hc2 hd2;subst hc hd hc2 hd2;exact Z2f ⟨_,ho,rfl⟩ ⟨_,ho2,rfl⟩ K8l Z1j K6b K5y (K5f _ _) (tuple_addW0 a b _ _ n n2 dd dd2 sl sl2 rfl) ⟨ho,ho2,.ref b,H,I,rfl,q⟩
theorem zG2:OpR X (K3c .Add) (λx y H Q=>rI0 (λi j=>.int (i+j)) x y H Q\/(∃i j,x=.str i/\y=.str j/\i.length+j.length<=sizeLine/\Q (.str (i++j)) H)\/rCat x y H Q\/zD4 X.K x y H Q\/zC3 X.K x y H Q) :=
 op_add.or (op_add_str.or (op_cat.or (op_catT.or zE8)))
theorem zJ7:BR X.K EX (λx y H Q=>rI0 (λi j=>.int (i+j)) x y H Q\/(∃i j,x=.str i/\y=.str j/\i.length+j.length<=sizeLine/\Q (.str (i++j)) H)\/rCat x y H Q\/zD4 X.K x y H Q\/zC3 X.K x y H Q) fAdd:=by
 intro ρ h H x y v u Q r rx ry fin;unfold fAdd at fin;split at fin
 ·simp only[RD]at rx ry;subst rx;subst ry;exact .inl ⟨_,_,rfl,rfl,FE.here fin r (by simp[RD])⟩
 ·simp only[RD]at rx ry;subst rx;subst ry;split at fin
  ·rename_i hl;exact .inr (.inl ⟨_,_,rfl,rfl,hl,FE.here fin r (by simp[RD])⟩)
  ·exact fin.elim
 ·rename_i i j;simp only[RD]at rx ry;obtain⟨ai,rfl,hi⟩:=rx;obtain⟨aj,rfl,hj⟩:=ry;have f1:=Fin.bind fin;cases e:getL i h with
  | bad=>rw[e]at f1;exact f1.elim
  | err z hz=>exact(z1h e).elim
  | ok xs h1 =>
   obtain⟨rfl,q1⟩:=z1e e;rw[e]at f1;have f2:=Fin.bind (f1 ρ H .(b) .(c) r);cases e3:getL j h1 with
   | bad=>rw[e3]at f2;exact f2.elim
   | err z hz=>exact(z1h e3).elim
   | ok ys h2 =>
    obtain⟨rfl,q2⟩:=z1e e3;rw[e3]at f2;have f3:=f2 ρ H .(b) .(c) r;dsimp only at f3;unfold newL at f3;split at f3
    ·rename_i hl;obtain⟨a1,n1,xs1,o1,d1⟩:=r.at q1;obtain⟨a2,n2,xs2,o2,d2⟩:=r.at q2;rw[hi]at n1;cases n1;rw[hj]at n2;cases n2;refine .inr (.inr (.inl ⟨_,_,_,_,rfl,rfl,o1,o2,?_,λp hp=>FE.lst f3 r (d1.append d2) hp⟩));rw[<- d1.length,<- d2.length,<- K04];exact hl
    ·exact f3.elim
 ·rename_i x y;simp only[RD]at rx ry;obtain⟨ax,xs,rfl,hx,dx⟩:=rx;obtain⟨ay,ys,rfl,hy,dy⟩:=ry;split at fin
  ·exact fin.elim
  ·rename_i hc;simp at hc;have l1:=dx.length;have l2:=dy.length;by_cases hxe:xs=[]
   ·subst hxe;have xe:x=[]:=by simpa using l1
    subst xe;refine .inr (.inr (.inr (.inr ⟨ax,ay,ys,rfl,rfl,hx,hy,FE.here fin r ?_⟩)));simp only[RD];exact⟨ay,ys,rfl,hy,by simpa using dy⟩
   refine .inr (.inr (.inr (.inl ⟨ax,ay,xs,ys,rfl,rfl,hx,hy,hxe,by omega,λe=>?_,λe p hp=>FE.tup fin r (dx.append dy) hp⟩)))
   ·subst e;refine FE.here fin r ?_;simp only[RD];have:y=[]:=by simpa using l2
    subst this;exact⟨ax,xs,rfl,hx,by simpa using dx⟩
 ·exact fin.elim
theorem Y0 (ha:SE X EX a ma) (hb:SE X EX b mb):SE X EX (.BinOp a .Add b pos) (e2 fAdd ma mb):=z9v zG2 zJ7 ha hb
def fMul:D->D->M D
 | .int i,.int j=>if (decide (-(2 ^ 64)<i)&&decide (i<2 ^ 64))||(decide (-(2 ^ 64)<j)&&decide (j<2 ^ 64)) then pure (.int (i * j)) else bad
 | .ref i,.int j=>do
  let x <- getL i
  if decide (-(2 ^ 63)<=j)&&decide (j<2 ^ 63) then newL (K0n j.toNat x).flatten else bad
 | _,_=>bad
theorem Z01:BR X.K EX (λx y H Q=>rI CMul (λi j=>.int (i * j)) x y H Q\/rRep x y H Q) fMul:=by
 intro ρ h H x y v u Q r rx ry fin;unfold fMul at fin;split at fin
 ·simp only[RD]at rx ry;subst rx;subst ry;split at fin
  ·rename_i hc;refine .inl ⟨_,_,rfl,rfl,?_,FE.here fin r (by simp[RD])⟩;simp only[K2f,K0c,decide_eq_true_eq]at hc;exact hc
  ·exact fin.elim
 ·rename_i i j;simp only[RD]at rx ry;obtain⟨ai,rfl,hi⟩:=rx;subst ry;have f1:=Fin.bind fin;cases e:getL i h with
  | bad=>rw[e]at f1;exact f1.elim
  | err z hz=>exact(z1h e).elim
  | ok xs h1 =>
   obtain⟨rfl,q1⟩:=z1e e;rw[e]at f1;have f2:=f1 ρ H .(b) .(c) r;dsimp only at f2;split at f2
   ·rename_i hb;simp only[K0c,decide_eq_true_eq]at hb;unfold newL at f2;split at f2
    ·rename_i hl;obtain⟨a1,n1,xs1,o1,d1⟩:=r.at q1;rw[hi]at n1;cases n1;refine .inr ⟨_,_,_,rfl,rfl,o1,hb.1,hb.2,?_,λp hp=>FE.lst f2 r (d1.flat j.toNat) hp⟩;rw[L2.len_rep,d1.length]at hl;rw[K6z];exact hl
    ·exact f2.elim
   ·exact f2.elim
 ·exact fin.elim
def fCmp (g:Int->Int->Bool):D->D->M D:=fI λi j=>.bl (g i j)
def fLt:D->D->M D
 | .int i,.int j=>pure (.bl (decide (i<j)))
 | .str i,.str j=>pure (.bl (decide (i.cps.toList<j.cps.toList)))
 | _,_=>bad
def fLe:D->D->M D
 | .int i,.int j=>pure (.bl (decide (i<=j)))
 | .str i,.str j=>pure (.bl (!decide (j.cps.toList<i.cps.toList)))
 | _,_=>bad
def fGt:D->D->M D:=fCmp λi j=>decide (j<i)
def fGe:D->D->M D:=fCmp λi j=>decide (j<=i)
theorem zc7:OpR X (K20 .LtE) (λx y H Q=>∃i j,x=.str i/\y=.str j/\Q (.bl (!decide (j.cps.toList<i.cps.toList))) H):=by
 intro pins s σ H x y v u Q I rx ry h;obtain⟨i,j,rfl,rfl,q⟩:=h;obtain⟨t,rfl⟩:=rx;obtain⟨t',rfl⟩:=ry;exact PySem.P.le_str ⟨.bl _,H,I,rfl,q⟩
theorem Z13:BR K EX (λx y H Q=>rI0 (λi j=>.bl (decide (i<j))) x y H Q\/∃i j,x=.str i/\y=.str j/\Q (.bl (decide (i.cps.toList<j.cps.toList))) H) fLt:=by
 intro ρ h H x y v u Q r rx ry fin;unfold fLt at fin;split at fin
 ·simp only[RD]at rx ry;subst rx;subst ry;exact .inl ⟨_,_,rfl,rfl,FE.here fin r (by simp[RD])⟩
 ·simp only[RD]at rx ry;subst rx;subst ry;exact .inr ⟨_,_,rfl,rfl,FE.here fin r (by simp[RD])⟩
 ·exact fin.elim
theorem Z0X:BR K EX (λx y H Q=>rI0 (λi j=>.bl (decide (i<=j))) x y H Q\/∃i j,x=.str i/\y=.str j/\Q (.bl (!decide (j.cps.toList<i.cps.toList))) H) fLe:=by
 intro ρ h H x y v u Q r rx ry fin;unfold fLe at fin;split at fin
 ·simp only[RD]at rx ry;subst rx;subst ry;exact .inl ⟨_,_,rfl,rfl,FE.here fin r (by simp[RD])⟩
 ·simp only[RD]at rx ry;subst rx;subst ry;exact .inr ⟨_,_,rfl,rfl,FE.here fin r (by simp[RD])⟩
 ·exact fin.elim
def eqD:D->D->Option Bool
 | .int i,.int j=>some (decide (i=j))
 | .str i,.str j=>some (decide (i=j))
 | .bl i,.bl j=>some (decide (i=j))
 | .non,.non=>some true
 | .int _,.str _=>some false
 | .str _,.int _=>some false
 | .non,.int _=>some false
 | .int _,.non=>some false
 | .non,.str _=>some false
 | .str _,.non=>some false
 | _,_=>none
def fEq (neg:Bool):D->D->M D:=λx y=>match eqD x y with
 | some b=>pure (.bl (b != neg))
 | none=>bad
theorem zL2 {x:D}{u:V}{k:Bool}(e:eqD x y=some k) (rx:RD K ρ H x v) (ry:RD K ρ H y u):scal v u=true/\decide (v=u)=k:=by
 cases x<;>cases y<;>first
  | (have e':none=some k:=e
     exact nomatch e')
  | (simp only[eqD]at e
     simp only[RD]at rx ry;subst rx;subst ry;cases e;exact⟨rfl,by simp⟩)
theorem Z0A:BR K EX rEq (fEq false):=by
 intro ρ h H x y v u Q r rx ry fin;unfold fEq at fin;cases hk:eqD x y with
 | none=>rw[hk]at fin;exact fin.elim
 | some k =>
  rw[hk]at fin;obtain⟨h1,h2⟩:=zL2 hk rx ry;refine⟨h1,?_⟩;rw[h2];refine FE.here fin r ?_;cases k<;>simp[RD]
def z1j:D->Bool
 | .non=>true
 | .bl _=>true
 | .int _=>true
 | .str _=>true
 | _=>false
def eqF:D->D->Bool
 | .non,.non=>true
 | .bl a,.bl b=>a==b
 | .bl a,.int b=>(if a then 1 else 0)==b
 | .int a,.bl b=>a==(if b then 1 else 0)
 | .int a,.int b=>a==b
 | .str a,.str b=>a==b
 | _,_=>false
def seqD:D->M (List D)
 | .tup xs=>pure xs
 | .fl xs=>pure xs
 | .ref n=>getL n
 | _=>bad
def fIn (neg:Bool):D->D->M D:=λx y=>do
 let ys <- seqD y
 if z1j x&&ys.all z1j then pure (.bl ((ys.any λz=>eqF z x) != neg)) else bad
theorem z8q {x:D}(f:z1j x=true) (r:RD K ρ H x v):z4Y v=true:=by
 cases x<;>simp only[RD]at r<;>first|(subst r;rfl)|cases f
theorem zB5 {x:D}{u:V}(f:z1j x=true) (f':z1j y=true) (r:RD K ρ H x v) (r':RD K ρ H y u):eqV v u=eqF x y:=by
 cases x with
 | non=>simp only[RD]at r;subst r;cases y<;>first|(simp only[RD]at r';subst r';rfl)|cases f'
 | bl b=>simp only[RD]at r;subst r;cases y<;>first|(simp only[RD]at r';subst r';rfl)|cases f'
 | int b=>simp only[RD]at r;subst r;cases y<;>first|(simp only[RD]at r';subst r';rfl)|cases f'
 | str b=>simp only[RD]at r;subst r;cases y<;>first|(simp only[RD]at r';subst r';rfl)|cases f'
 | tup b=>cases f
 | fl b=>cases f
 | ref b=>cases f
theorem z6F {K:K6}{ρ:List Addr}{H:Hp}:∀{xs:List D}{vs:List V},RDs K ρ H xs vs->xs.all z1j=true->vs.all z4Y=true
 | [],vs,r,_=>by simp only[RDs]at r;subst r;rfl
 | x::xs,vs,r,f=>by
  simp only[RDs]at r;obtain⟨v,r2,rfl,h1,h2⟩:=r;rw[K58,K0c]at f ⊢;exact⟨z8q f.1 h1,z6F h2 f.2⟩
theorem zn0 {K:K6}{ρ:List Addr}{H:Hp}{x:D}{v:V}(f:z1j x=true) (r:RD K ρ H x v):∀{xs:List D}{vs:List V},RDs K ρ H xs vs->xs.all z1j=true->(vs.any λy=>eqV y v)=xs.any λz=>eqF z x
 | [],vs,rs,_=>by simp only[RDs]at rs;subst rs;rfl
 | y::xs,vs,rs,fs=>by
  simp only[RDs]at rs;obtain⟨u,r2,rfl,h1,h2⟩:=rs;rw[K58,K0c]at fs;rw[K2j,K2j,zB5 fs.1 f h1 r,zn0 f r h2 fs.2]
theorem z2K {u:V}{ys:List D}(r:RH K ρ h H) (ry:RD K ρ H y u) (e:seqD y h=.ok ys h1):h1=h/\∃p xs,u=.ref p/\(SqL K H p xs\/SqT K H p xs)/\RDs K ρ H ys xs:=by
 unfold seqD at e;split at e
 ·cases e;simp only[RD]at ry;obtain⟨p,xs,rfl,h2,h3⟩:=ry;exact⟨rfl,p,xs,rfl,.inr h2,h3⟩
 ·cases e;simp only[RD]at ry;obtain⟨p,xs,rfl,h2,h3⟩:=ry;exact⟨rfl,p,xs,rfl,.inl h2.sq,h3⟩
 ·obtain⟨rfl,q⟩:=z1e e;simp only[RD]at ry;obtain⟨p,rfl,h2⟩:=ry;obtain⟨a,n1,xs,o1,d1⟩:=r.at q;rw[h2]at n1;cases n1;exact⟨rfl,p,xs,rfl,.inl (SqL.of o1),d1⟩
 ·cases e
theorem z3N {x:Exn}(e:seqD y h=.err x h1):False:=by
 unfold seqD at e;split at e
 ·cases e
 ·cases e
 ·exact z1h e
 ·cases e
theorem zU5 {neg:Bool}:BR K EX (rIn K neg) (fIn neg):=by
 intro ρ h H x y v u Q r rx ry fin;have f1:=Fin.bind fin;cases e:seqD y h with
 | bad=>rw[e]at f1;exact f1.elim
 | err z hz=>exact(z3N e).elim
 | ok ys h1 =>
  obtain⟨rfl,p,xs,rfl,hs,hd⟩:=z2K r ry e;rw[e]at f1;have f2:=f1 ρ H .(b) .(c) r;dsimp only at f2;split at f2
  ·rename_i hc;rw[K0c]at hc;refine⟨p,xs,rfl,hs,z8q hc.1 rx,z6F hd hc.2,?_⟩;refine FE.here f2 r ?_;unfold inV;rw[zn0 hc.1 rx hd hc.2];cases neg<;>simp[RD]
  ·exact f2.elim
end
section
variable {es:List Expr}
theorem z7k {c k p}:K0g (.Constant c k p::es) env=(false,eval (.Constant c k p) env)::K0g es env:=rfl
theorem zC6 {c p}:K0g (.Name c p::es) env=(false,eval (.Name c p) env)::K0g es env:=rfl
theorem zG3 {a b c p}:K0g (.Call a b c p::es) env=(false,eval (.Call a b c p) env)::K0g es env:=rfl
theorem zo3 {a b c p}:K0g (.BinOp a b c p::es) env=(false,eval (.BinOp a b c p) env)::K0g es env:=rfl
theorem z9e {a b c p}:K0g (.Compare a b c p::es) env=(false,eval (.Compare a b c p) env)::K0g es env:=rfl
theorem z6m {a b p}:K0g (.Subscript a b p::es) env=(false,eval (.Subscript a b p) env)::K0g es env:=rfl
theorem zo6 {a b p}:K0g (.Tuple a b p::es) env=(false,eval (.Tuple a b p) env)::K0g es env:=rfl
theorem zC9 {a p}:K0g (.List a p::es) env=(false,eval (.List a p) env)::K0g es env:=rfl
theorem z9B {a b p}:K0g (.UnaryOp a b p::es) env=(false,eval (.UnaryOp a b p) env)::K0g es env:=rfl
theorem z7t {a b c p}:K0g (.ListComp a b c p::es) env=(false,eval (.ListComp a b c p) env)::K0g es env:=rfl
end
section
variable {a b:Expr}
def CO (X:Cx) (EX:XX) (op:CmpOp) (f:D->D->M D):Prop:=∃r,OpR X (K20 op) r/\BR X.K EX r f
theorem z9i:CO X EX .Lt fLt:=⟨_,op_lt.or zf6,Z13⟩
theorem z4p:CO X EX .LtE fLe:=⟨_,op_le.or zc7,Z0X⟩
theorem z40:CO X EX .Gt fGt:=⟨_,Z0L,zB6 λi j ρ H=>by simp[RD]⟩
theorem Z1f:CO X EX .GtE fGe:=⟨_,Z0l,zB6 λi j ρ H=>by simp[RD]⟩
theorem z31:CO X EX .Eq (fEq false):=⟨_,Z0k,Z0A⟩
theorem z9l:CO X EX .In (fIn false):=⟨_,zj9,zU5⟩
theorem z3g:CO X EX .NotIn (fIn true):=⟨_,z6s,zU5⟩
def fIs (neg:Bool):D->D->M D:=λx y=>match y with
 | .non=>(match x with
  | .non=>pure (.bl (true != neg))
  | .bl _=>pure (.bl (false != neg))
  | .int _=>pure (.bl (false != neg))
  | .str _=>pure (.bl (false != neg))
  | .tup _=>pure (.bl (false != neg))
  | .ref _=>pure (.bl (false != neg))
  | .fl _=>pure (.bl (false != neg)))
 | .bl k=>(match x with
  | .bl j=>pure (.bl ((j==k) != neg))
  | .non=>pure (.bl (false != neg))
  | .int _=>pure (.bl (false != neg))
  | .str _=>pure (.bl (false != neg))
  | .tup _=>pure (.bl (false != neg))
  | .ref _=>pure (.bl (false != neg))
  | .fl _=>pure (.bl (false != neg)))
 | _=>bad
theorem z8z (neg:Bool):OpR X (K20 (if neg then .IsNot else .Is)) (λx y H Q=>(y=.non/\Q (.bl ((decide (x=.non)) != neg)) H)\/∃k,y=.bl k/\Q (.bl ((decide (x=.bl k)) != neg)) H):=by
 intro pins s σ H x y v u Q I rx ry h;have pl:∀{a b:Value},plainIs a b=true->EP X pins σ Q (.bool ((a==b) != neg)) s->wpAny .(6) X.A (K20 (if neg then .IsNot else .Is) a b) (EP X pins σ Q) X.xe s:=λ{a b} hp hq=>by
  cases neg with
  | false=>exact wpAny_is_plain hp (by simpa using hq)
  | true=>exact wpAny_isNot_plain hp (by simpa using hq)
 rcases h with ⟨rfl,q⟩|⟨k,rfl,q⟩
 ·cases ry;have fin:∀{a:Value} {w:Bool},w=decide (x=.non)->(a==K2x)=w->EP X pins σ Q (.bool ((a==K2x) != neg)) s:=λ{a w} e1 e2=>by
   rw[e2,e1];exact⟨.bl _,H,I,rfl,q⟩
  cases x with
  | non=>cases rx;exact pl rfl (fin (w:=true) .(f) rfl)
  | bl j=>cases rx;exact pl rfl (fin (w:=false) .(f) rfl)
  | int j=>obtain⟨t,rfl⟩:=rx;exact pl rfl (fin (w:=false) .(f) rfl)
  | str j=>obtain⟨t,rfl⟩:=rx;exact pl rfl (fin (w:=false) .(f) rfl)
  | byt j=>obtain⟨t,rfl⟩:=rx;exact pl rfl (fin (w:=false) .(f) rfl)
  | flt j=>obtain⟨t,rfl⟩:=rx;exact pl rfl (fin (w:=false) .(f) rfl)
  | ref j=>cases rx;exact pl rfl (fin (w:=false) .(f) rfl)
  | ty j=>cases rx;exact pl rfl (fin (w:=false) .(f) rfl)
 ·cases ry;have fin:∀{a:Value} {w:Bool},w=decide (x=.bl k)->(a==K74 k)=w->EP X pins σ Q (.bool ((a==K74 k) != neg)) s:=λ{a w} e1 e2=>by
   rw[e2,e1];exact⟨.bl _,H,I,rfl,q⟩
  cases x with
  | non=>cases rx;exact pl rfl (fin (w:=false) .(f) rfl)
  | bl j=>cases rx;exact pl rfl (fin (w:=(j==k)) (by rw[K19];simp) (by cases j<;>cases k<;>rfl))
  | int j=>obtain⟨t,rfl⟩:=rx;exact pl rfl (fin (w:=false) .(f) rfl)
  | str j=>obtain⟨t,rfl⟩:=rx;exact pl rfl (fin (w:=false) .(f) rfl)
  | byt j=>obtain⟨t,rfl⟩:=rx;exact pl rfl (fin (w:=false) .(f) rfl)
  | flt j=>obtain⟨t,rfl⟩:=rx;exact pl rfl (fin (w:=false) .(f) rfl)
  | ref j=>cases rx;exact pl rfl (fin (w:=false) .(f) rfl)
  | ty j=>cases rx;exact pl rfl (fin (w:=false) .(f) rfl)
theorem ze5 {x:D}(rx:RD K ρ H x v):decide (v=.non)=(match x with|.non=>true|_=>false):=by
 cases x<;>simp only[RD]at rx
 case non=>subst rx;simp
 case bl=>subst rx;simp
 case int=>subst rx;simp
 case str=>subst rx;simp
 case tup=>obtain⟨a,xs,rfl,_⟩:=rx;simp
 case fl=>obtain⟨a,xs,rfl,_⟩:=rx;simp
 case ref=>obtain⟨a,rfl,_⟩:=rx;simp
theorem zq7 {x:D}{k:Bool}(rx:RD K ρ H x v):decide (v=.bl k)=(match x with|.bl j=>j==k|_=>false):=by
 cases x<;>simp only[RD]at rx
 case non=>subst rx;simp
 case bl j=>subst rx;cases j<;>cases k<;>rfl
 case int=>subst rx;simp
 case str=>subst rx;simp
 case tup=>obtain⟨a,xs,rfl,_⟩:=rx;simp
 case fl=>obtain⟨a,xs,rfl,_⟩:=rx;simp
 case ref=>obtain⟨a,rfl,_⟩:=rx;simp
theorem zS6 (neg:Bool):BR K EX (λx y H Q=>(y=.non/\Q (.bl ((decide (x=.non)) != neg)) H)\/∃k,y=.bl k/\Q (.bl ((decide (x=.bl k)) != neg)) H) (fIs neg):=by
 intro ρ h H x y v u Q r rx ry fin;cases y with
 | non =>
  simp only[RD]at ry;refine .inl ⟨ry,?_⟩;rw[ze5 rx];cases x<;>first|exact(show False from fin).elim|exact FE.here fin r (by simp[RD])
 | bl k =>
  simp only[RD]at ry;refine .inr ⟨k,ry,?_⟩;rw[zq7 rx];cases x<;>first|exact(show False from fin).elim|exact FE.here fin r (by simp[RD])
 | _=>exact(show False from fin).elim
theorem Z0y:CO X EX .Is (fIs false):=⟨_,z8z false,zS6 false⟩
theorem z8r:CO X EX .IsNot (fIs true):=⟨_,z8z true,zS6 true⟩
theorem se_c {op:CmpOp}(h:CO X EX op f) (ha:SE X EX a ma) (hb:SE X EX b mb) (hm:K4r op b=false:=by first|exact zx6 _|with_unfolding_all rfl):SE X EX (.Compare a [op] [b] pos) (e2 f ma mb):=by
 obtain⟨r,h1,h2⟩:=h;exact Z0a h1 h2 ha hb hm
def asB:D->M Bool
 | .bl b=>pure b
 | _=>bad
theorem zZ7 {t:TE}{m:G->M D}(h:∀σ H Q,tE X.K EX m σ H Q->t σ H Q):∀σ H Q,tT X.K EX (λγ=>do let d <- m γ;asB d) σ H Q->zE0 t σ H Q:=by
 intro σ H Q ⟨ρ,γ,h0,rel,fin⟩;refine h σ H _ ⟨ρ,γ,h0,rel,(Fin.bind fin).mono λd ρ1 h1 H1 p1 e1 r1 f1 v rv=>?_⟩;cases d<;>first|exact(show False from f1).elim|skip
 rename_i b;simp only[RD]at rv;exact⟨b,rv,f1 ρ1 H1 .(b) .(c) r1⟩
theorem sc_c {op:CmpOp}(h:CO X EX op f) (ha:SE X EX a ma) (hb:SE X EX b mb) (hm:K4r op b=false:=by first|exact zx6 _|with_unfolding_all rfl):SC X EX (.Compare a [op] [b] pos) (λγ=>do let d <- e2 f ma mb γ;asB d):=by
 constructor;obtain⟨r,h1,h2⟩:=h;refine PT.imp (zL3 h1 ha.h hb.h hm) (zZ7 λσ H Q ⟨ρ,γ,h,rel,fin⟩=>?_);exact⟨ρ,γ,h,rel,(Fin.bind fin).mono λx ρ1 h1 H1 p1 e1 r1 f1 v rv=>⟨ρ1,γ,h1,⟨rel.g.mono p1 e1,r1⟩,(Fin.bind f1).mono λy ρ2 h3 H2 p2 e2 r2 f2 u ru =>
  h2 ρ2 h3 H2 x y v u Q r2 (rv.mono p2 e2) ru f2⟩⟩
def e3 (f g:D->D->M D) (ma mb mc:G->M D):G->M D:=λγ=>do
 let x <- ma γ;let y <- mb γ;let k <- f x y;let t <- asB k
 if t then do
  let z <- mc γ
  g y z
 else pure (.bl false)
theorem z8b {r r':R2}{g:D->D->M D}(h2:BR X.K EX r f) (h4:BR X.K EX r' g):∀σ H Q,tE X.K EX (e3 f g ma mb mc) σ H Q->zc4 r r' (tE X.K EX ma) (tE X.K EX mb) (tE X.K EX mc) σ H Q:=by
 intro σ H Q ⟨ρ,γ,h,rel,fin⟩;refine⟨ρ,γ,h,rel,(Fin.bind fin).mono λx ρ1 h1 H1 p1 e1 r1 f1 v rv=>⟨ρ1,γ,h1,⟨rel.g.mono p1 e1,r1⟩,(Fin.bind f1).mono λy ρ2 h3 H2 p2 e2 r2 f2 u ru=>?_⟩⟩;refine h2 ρ2 h3 H2 x y v u _ r2 (rv.mono p2 e2) ru ((Fin.bind f2).mono λk ρ3 h5 H3 p3 e3 r3 f3 z rz=>?_);cases k<;>first|exact(show False from f3).elim|skip
 rename_i t;simp only[RD]at rz;refine⟨t,rz,?_⟩;cases t with
 | false =>
  rw[if_neg .(1)];exact FE.here (d:=.bl false) (h:=h5) (ρ:=ρ3) f3 r3 (by simp[RD])
 | true =>
  rw[if_pos rfl];have f4:Fin X.K EX ρ3 H3 (λd ρ' _ H'=>∀v,RD X.K ρ' H' d v->Q v H') ((mc γ >>= λz=>g y z) h5):=f3;exact⟨ρ3,γ,h5,⟨((rel.g.mono p1 e1).mono p2 e2).mono p3 e3,r3⟩,(Fin.bind f4).mono λw ρ4 h6 H4 p4 e4 r4 f5 q rq=>h4 ρ4 h6 H4 y w u q Q r4 ((ru.mono p3 e3).mono p4 e4) rq f5⟩
theorem zb2 {op op':CmpOp}{g:D->D->M D}(h:CO X EX op f) (h':CO X EX op' g) (ha:SE X EX a ma) (hb:SE X EX b mb) (hc:SE X EX c mc) (hm:Z2p [op,op'] [b,c]=false:=by with_unfolding_all rfl):SE X EX (.Compare a [op,op'] [b,c] pos) (e3 f g ma mb mc):=by
 constructor;obtain⟨r,h1,h2⟩:=h;obtain⟨r',h3,h4⟩:=h';exact PE.imp (zq5 h1 h3 ha.h hb.h hc.h hm) (z8b h2 h4)
theorem Z0W {op op':CmpOp}{g:D->D->M D}(h:CO X EX op f) (h':CO X EX op' g) (ha:SE X EX a ma) (hb:SE X EX b mb) (hc:SE X EX c mc) (hm:Z2p [op,op'] [b,c]=false:=by with_unfolding_all rfl):SC X EX (.Compare a [op,op'] [b,c] pos) (λγ=>do let d <- e3 f g ma mb mc γ;asB d):=by
 constructor;obtain⟨r,h1,h2⟩:=h;obtain⟨r',h3,h4⟩:=h';exact PT.imp (zn7 h1 h3 ha.h hb.h hc.h hm) (zZ7 (z8b h2 h4))
def eAnd (ma mb:G->M D):G->M D:=λγ=>do
 let x <- ma γ;let t <- asB x
 if t then mb γ else pure (.bl false)
def eOr (ma mb:G->M D):G->M D:=λγ=>do
 let x <- ma γ;let t <- asB x
 if t then pure (.bl true) else mb γ
def eNot (ma:G->M D):G->M D:=λγ=>do
 let x <- ma γ;let t <- asB x
 pure (.bl (!t))
variable {rest:List Expr}
theorem z2e {op:PySem.BoolOp}(ha:SE X EX a ma):SE X EX (.BoolOp op [a] pos) ma:=⟨zX0 ha.h⟩
theorem z1f (ha:SE X EX a ma) (hb:SE X EX (.BoolOp .And (b::rest) pos) mb):SE X EX (.BoolOp .And (a::b::rest) pos) (eAnd ma mb) :=
 ⟨PE.imp (zW6 ha.h hb.h) λσ H Q ⟨ρ,γ,h,rel,fin⟩=>⟨ρ,γ,h,rel,(Fin.bind fin).mono λx ρ1 h1 H1 p1 e1 r1 f1 v rv=>by
  cases x<;>first|exact(show False from f1).elim|skip
  rename_i t;simp only[RD]at rv;refine⟨t,rv,?_⟩;cases t with
  | true=>exact⟨ρ1,γ,h1,⟨rel.g.mono p1 e1,r1⟩,f1⟩
  | false=>exact FE.here (d:=.bl false) (h:=h1) (ρ:=ρ1) f1 r1 (by simp[RD])⟩⟩
theorem zx5 (ha:SE X EX a ma) (hb:SE X EX (.BoolOp .Or (b::rest) pos) mb):SE X EX (.BoolOp .Or (a::b::rest) pos) (eOr ma mb) :=
 ⟨PE.imp (Z0u ha.h hb.h) λσ H Q ⟨ρ,γ,h,rel,fin⟩=>⟨ρ,γ,h,rel,(Fin.bind fin).mono λx ρ1 h1 H1 p1 e1 r1 f1 v rv=>by
  cases x<;>first|exact(show False from f1).elim|skip
  rename_i t;simp only[RD]at rv;refine⟨t,rv,?_⟩;cases t with
  | false=>exact⟨ρ1,γ,h1,⟨rel.g.mono p1 e1,r1⟩,f1⟩
  | true=>exact FE.here (d:=.bl true) (h:=h1) (ρ:=ρ1) f1 r1 (by simp[RD])⟩⟩
theorem zi6 (ha:SE X EX a ma):SE X EX (.UnaryOp .Not a pos) (eNot ma) :=
 ⟨PE.imp (Z09 ha.h) λσ H Q ⟨ρ,γ,h,rel,fin⟩=>⟨ρ,γ,h,rel,(Fin.bind fin).mono λx ρ1 h1 H1 p1 e1 r1 f1 v rv=>by
  cases x<;>first|exact(show False from f1).elim|skip
  rename_i t;simp only[RD]at rv;exact⟨t,rv,FE.here (d:=.bl (!t)) (h:=h1) (ρ:=ρ1) f1 r1 (by simp[RD])⟩⟩⟩
structure SW (X:Cx) (EX:XX) (e:Expr) (m:G->M Bool):Prop where
 h:PW X e (tT X.K EX m)
theorem PW.imp {t:TT}(h:PW X e t) (f:∀σ H Q,t' σ H Q->t σ H Q):PW X e t':=λw pins s σ H Q I z=>h w pins s σ H Q I (f σ H Q z)
def cAnd (ka kb:G->M Bool):G->M Bool:=λγ=>do
 let t <- ka γ
 if t then kb γ else pure false
def cOr (ka kb:G->M Bool):G->M Bool:=λγ=>do
 let t <- ka γ
 if t then pure true else kb γ
def cNot (ka:G->M Bool):G->M Bool:=λγ=>do
 let t <- ka γ
 pure (!t)
theorem z30 (ha:SC X EX a ka):SW X EX (.BoolOp .And [a] pos) ka:=⟨zz3 ha.h⟩
theorem z2s (ha:SC X EX a ka):SW X EX (.BoolOp .Or [a] pos) ka:=⟨zO5 ha.h⟩
theorem z2T (ha:SC X EX a ka) (hb:SW X EX (.BoolOp .And (b::rest) pos) kb):SW X EX (.BoolOp .And (a::b::rest) pos) (cAnd ka kb) :=
 ⟨PW.imp (zQ7 ha.h hb.h) λσ H Q ⟨ρ,γ,h,rel,fin⟩=>⟨ρ,γ,h,rel,(Fin.bind fin).mono λt ρ1 h1 H1 p1 e1 r1 f1=>by
  cases t with
  | true=>exact⟨ρ1,γ,h1,⟨rel.g.mono p1 e1,r1⟩,f1⟩
  | false=>exact f1 ρ1 H1 .(b) .(c) r1⟩⟩
theorem z3G (ha:SC X EX a ka) (hb:SW X EX (.BoolOp .Or (b::rest) pos) kb):SW X EX (.BoolOp .Or (a::b::rest) pos) (cOr ka kb) :=
 ⟨PW.imp (Z0Q ha.h hb.h) λσ H Q ⟨ρ,γ,h,rel,fin⟩=>⟨ρ,γ,h,rel,(Fin.bind fin).mono λt ρ1 h1 H1 p1 e1 r1 f1=>by
  cases t with
  | false=>exact⟨ρ1,γ,h1,⟨rel.g.mono p1 e1,r1⟩,f1⟩
  | true=>exact f1 ρ1 H1 .(b) .(c) r1⟩⟩
theorem SW.sc (h:SW X EX e ka):SC X EX e ka:=⟨PW.pt h.h⟩
theorem z0t (ha:SC X EX a ka):SC X EX (.UnaryOp .Not a pos) (cNot ka) :=
 ⟨PT.imp (zV8 ha.h) λσ H Q ⟨ρ,γ,h,rel,fin⟩=>⟨ρ,γ,h,rel,(Fin.bind fin).mono λt ρ1 h1 H1 p1 e1 r1 f1=>f1 ρ1 H1 .(b) .(c) r1⟩⟩
def truD:D->M Bool
 | .non=>pure false
 | .bl b=>pure b
 | .int i=>pure (i != 0)
 | .str y=>if y.length<=sizeLine then pure (decide (y.length≠0)) else bad
 | .tup xs=>pure (!xs.isEmpty)
 | .fl xs=>pure (!xs.isEmpty)
 | .ref n=>do
  let xs <- getL n
  pure (!xs.isEmpty)
def cVal (ma:G->M D):G->M Bool:=λγ=>do
 let x <- ma γ
 truD x
theorem isE (h:RDs K ρ H ds xs):ds.isEmpty=xs.isEmpty:=by
 have:=h.length;cases ds<;>cases xs<;>simp at this ⊢
theorem zE1 {x:D}{Q:Bool->Hp->Prop}(r:RH X.K ρ h H) (rx:RD X.K ρ H x v) (f:Fin X.K EX ρ H (λb _ _ H'=>Q b H') (truD x h)):∃k,TruV X.K v H k/\Q k H:=by
 cases x with
 | non=>simp only[RD]at rx;subst rx;exact⟨false,rfl,f ρ H .(b) .(c) r⟩
 | bl b=>simp only[RD]at rx;subst rx;exact⟨b,rfl,f ρ H .(b) .(c) r⟩
 | int b=>simp only[RD]at rx;subst rx;exact⟨_,rfl,f ρ H .(b) .(c) r⟩
 | str y =>
  simp only[RD]at rx;subst rx;have f':Fin X.K EX ρ H (λb _ _ H'=>Q b H') ((if y.length<=sizeLine then pure (decide (y.length≠0)) else bad:M Bool) h):=f;by_cases hl:y.length<=sizeLine
  ·rw[if_pos hl]at f';refine⟨decide (y.length≠0),⟨hl,?_⟩,f' ρ H .(b) .(c) r⟩;rw[K19];simp
  ·rw[if_neg hl]at f';exact f'.elim
 | tup xs =>
  simp only[RD]at rx;obtain⟨a,vs,rfl,h1,h2⟩:=rx;exact⟨!xs.isEmpty,.inr (.inl ⟨vs,h1,by rw[isE h2]⟩),f ρ H .(b) .(c) r⟩
 | fl xs =>
  simp only[RD]at rx;obtain⟨a,vs,rfl,h1,h2⟩:=rx;exact⟨!xs.isEmpty,.inl ⟨vs,h1.sq,by rw[isE h2]⟩,f ρ H .(b) .(c) r⟩
 | ref n =>
  have f1:=Fin.bind f;cases e:getL n h with
  | bad=>rw[e]at f1;exact f1.elim
  | err z hz=>exact(z1h e).elim
  | ok xs h1 =>
   obtain⟨rfl,q1⟩:=z1e e;rw[e]at f1;have f2:=f1 ρ H .(b) .(c) r;simp only[RD]at rx;obtain⟨a,rfl,h2⟩:=rx;obtain⟨a1,n1,vs,o1,d1⟩:=r.at q1;rw[h2]at n1;cases n1;exact⟨!xs.isEmpty,.inl ⟨vs,SqL.of o1,by rw[isE d1]⟩,f2 ρ H .(b) .(c) r⟩
theorem x9 (ha:SE X EX a ma) (he:∀whole,isTrue a X.env whole=(do let v <- whole;K5k a.pos;K44 [v] (truthy v)):=by intro _;rfl):SC X EX a (cVal ma) :=
 ⟨PT.imp (zs4 ha.h he) λσ H Q ⟨ρ,γ,h,rel,fin⟩=>⟨ρ,γ,h,rel,(Fin.bind fin).mono λx ρ1 h1 H1 p1 e1 r1 f1 v rv=>zE1 r1 rv f1⟩⟩
def eIf (k:G->M Bool) (ma mb:G->M D):G->M D:=λγ=>do
 let t <- k γ
 if t then ma γ else mb γ
def aNil:G->M (List D):=λ_=>pure []
def z7 (ma:G->M D) (mr:G->M (List D)):G->M (List D):=λγ=>do
 let x <- ma γ;let r <- mr γ
 pure (x::r)
variable {es:List Expr}
theorem z9:SA X EX [] aNil:=⟨PA.imp z2E λσ H Q ⟨ρ,γ,h,rel,fin⟩=>fin ρ H .(b) .(c) rel.h [] RDs.nil⟩
theorem z6 (ha:SE X EX a ma) (hr:SA X EX es mr) (hs:K0g (a::es) X.env=(false,eval a X.env)::K0g es X.env:=by first|exact z7k|exact zC6|exact zG3|exact zo3|exact z9e|exact z6m|exact zo6|exact zC9|exact z9B|exact z7t|rfl):SA X EX (a::es) (z7 ma mr) :=
 ⟨PA.imp (z1k ha.h hr.h hs) λσ H Q ⟨ρ,γ,h,rel,fin⟩=>⟨ρ,γ,h,rel,(Fin.bind fin).mono λx ρ1 h1 H1 p1 e1 r1 f1 v rv=>⟨ρ1,γ,h1,⟨rel.g.mono p1 e1,r1⟩,(Fin.bind f1).mono λds ρ2 h2 H2 p2 e2 r2 f2 vs rvs =>
  f2 ρ2 H2 .(b) .(c) r2 (v::vs) (RDs.cons (rv.mono p2 e2) rvs)⟩⟩⟩
def eTup (mr:G->M (List D)):G->M D:=λγ=>do
 let xs <- mr γ
 if xs.length<=sizeLine then pure (.tup xs) else bad
def eLst (mr:G->M (List D)):G->M D:=λγ=>do
 let xs <- mr γ
 newL xs
theorem z0u {k:Nat}(h:SA X EX es mr):SE X EX (.Tuple es k pos) (eTup mr) :=
 ⟨PE.imp (zV2 h.h) λσ H Q ⟨ρ,γ,h,rel,fin⟩=>⟨ρ,γ,h,rel,(Fin.bind fin).mono λxs ρ1 h1 H1 p1 e1 r1 f1 vs rvs=>by
  by_cases hl:xs.length<=sizeLine
  ·rw[if_pos hl]at f1;exact⟨by rw[<- rvs.length];exact hl,λp hp=>FE.tup (h:=h1) f1 r1 rvs hp⟩
  ·rw[if_neg hl]at f1;exact(show False from f1).elim⟩⟩
theorem z0v (h:SA X EX es mr):SE X EX (.List es pos) (eLst mr) :=
 ⟨PE.imp (zP5 h.h) λσ H Q ⟨ρ,γ,h,rel,fin⟩=>⟨ρ,γ,h,rel,(Fin.bind fin).mono λxs ρ1 h1 H1 p1 e1 r1 f1 vs rvs=>by
  unfold newL at f1;split at f1
  ·rename_i hl;exact⟨by rw[<- rvs.length];exact hl,λp hp=>FE.lst (h:=h1) f1 r1 rvs hp⟩
  ·exact(show False from f1).elim⟩⟩
def fIx:D->D->M D
 | .str z,.int i=>if z.length<=sizeLine then (match atI z.cps.toList i with
  | some c=>pure (.str ⟨#[c]⟩)
  | none=>bad) else bad
 | x,.int i=>do
  let xs <- seqD x
  match atI xs i with
  | some d=>pure d
  | none=>bad
 | _,_=>bad
theorem zH0 {i:Int}(h:RDs K ρ H ds xs) (e:atI ds i=some d):∃x,atI xs i=some x/\RD K ρ H d x:=by
 unfold atI at e ⊢;rw[<- h.length];cases q:ixN ds.length i with
 | none=>rw[q]at e;cases e
 | some j=>rw[q]at e;exact h.get e
theorem Z0w:BR X.K EX (rIx X.K) fIx:=by
 intro ρ h H x y v u Q r rx ry fin;unfold fIx at fin;split at fin
 ·simp only[RD]at rx ry;subst rx;subst ry;rename_i z i;by_cases hl:z.length<=sizeLine
  ·rw[if_pos hl]at fin;cases hc:atI z.cps.toList i with
   | none=>rw[hc]at fin;exact fin.elim
   | some c =>
    rw[hc]at fin;exact .inr (.inr ⟨_,_,c,rfl,rfl,hl,hc,FE.here fin r (by simp[RD])⟩)
  ·rw[if_neg hl]at fin;exact fin.elim
 ·rename_i i _;simp only[RD]at ry;subst ry;have f1:=Fin.bind fin;cases e:seqD x h with
  | bad=>rw[e]at f1;exact f1.elim
  | err z hz=>exact(z3N e).elim
  | ok ys h1 =>
   obtain⟨rfl,p,xs,rfl,hs,hd⟩:=z2K r rx e;rw[e]at f1;have f2:=f1 ρ H .(b) .(c) r;dsimp only at f2;cases q:atI ys i with
   | none=>rw[q]at f2;exact f2.elim
   | some d =>
    rw[q]at f2;obtain⟨w,h2,h3⟩:=zH0 hd q;rcases hs with hs|hs
    ·exact .inl ⟨p,xs,i,w,rfl,rfl,hs,h2,FE.here f2 r h3⟩
    ·exact .inr (.inl ⟨p,xs,i,w,rfl,rfl,hs,h2,FE.here f2 r h3⟩)
 ·exact fin.elim
theorem Z9 (ha:SE X EX a ma) (hb:SE X EX b mb) (hs:zf0 b:=by intro _ _;rfl):SE X EX (.Subscript a b pos) (e2 fIx ma mb) :=
 zd5 (ta:=tE X.K EX ma) (tb:=tE X.K EX mb) (Z0D zW5 ha.h hb.h hs) Z0w
end
section
variable {a b:Expr}{es:List Expr}
def AR (K:K6) (EX:XX) (r:List V->Hp->VK->Prop) (f:List D->M D):Prop:=∀ρ h H ds vs Q,RH K ρ h H->RDs K ρ H ds vs->FE K EX ρ H Q (f ds h)->r vs H Q
def Z6 (f:List D->M D) (mr:G->M (List D)):G->M D:=λγ=>do
 let xs <- mr γ
 f xs
theorem z1D {r:List V->Hp->VK->Prop}{f:List D->M D}(h:PE X e (tCB r (tL X.K EX mr))) (hr:AR X.K EX r f):SE X EX e (Z6 f mr) :=
 ⟨PE.imp h λσ H Q ⟨ρ,γ,h,rel,fin⟩=>⟨ρ,γ,h,rel,(Fin.bind fin).mono λxs ρ1 h1 H1 p1 e1 r1 f1 vs rvs=>hr ρ1 h1 H1 xs vs Q r1 rvs f1⟩⟩
theorem rds1 (h:RDs K ρ H [d] vs):∃v,vs=[v]/\RD K ρ H d v:=by
 simp only[RDs]at h;obtain⟨x,r,rfl,h2,rfl⟩:=h;exact⟨x,rfl,h2⟩
def fLen:List D->M D
 | [.str z]=>if z.length<=sizeLine then pure (.int z.length) else bad
 | [x]=>do
  let xs <- seqD x
  pure (.int xs.length)
 | _=>bad
theorem zU1:AR X.K EX (λxs H Q=>∃x n,xs=[x]/\LenV X.K x H n/\Q (.int n) H) fLen:=by
 intro ρ h H ds vs Q r rd fin;unfold fLen at fin;split at fin
 ·rename_i z;obtain⟨v,rfl,rv⟩:=rds1 rd;simp only[RD]at rv;subst rv;by_cases hl:z.length<=sizeLine
  ·rw[if_pos hl]at fin;exact⟨_,z.length,rfl,⟨hl,rfl⟩,FE.here fin r (by simp[RD])⟩
  ·rw[if_neg hl]at fin;exact fin.elim
 ·rename_i x _;obtain⟨v,rfl,rv⟩:=rds1 rd;have f1:=Fin.bind fin;cases e:seqD x h with
  | bad=>rw[e]at f1;exact f1.elim
  | err z hz=>exact(z3N e).elim
  | ok ys h1 =>
   obtain⟨rfl,p,xs,rfl,hs,hd⟩:=z2K r rv e;rw[e]at f1;have f2:=f1 ρ H .(b) .(c) r;refine⟨_,ys.length,rfl,?_,FE.here f2 r (by simp[RD])⟩;rw[hd.length];rcases hs with hs|hs
   ·exact .inl ⟨xs,hs,rfl⟩
   ·exact .inr ⟨xs,hs,rfl⟩
 ·exact fin.elim
theorem J5 (hg:Gl X "len") (hm:X.mg "len" = none) (ha:SA X EX [a] mr) (he:K0g [a] X.env=[(false,eval a X.env)]:=by rfl):SE X EX (.Call (.Name "len" p) [a] [] pos) (Z6 fLen mr) :=
 z1D (z1q zu1 hg hm PySem.boot_len ha.h .(1) .(1) he rfl) zU1
def z03:List D->M D
 | [.tup xs]=>pure (.tup xs)
 | [x]=>do
  let xs <- seqD x
  pure (.tup xs)
 | _=>bad
theorem zs2:AR X.K EX (λxs H Q=>∃p ys,xs=[.ref p]/\((SqL X.K H p ys/\∀l,H l=none->Q (.ref l) (upd H l (.tup ys)))\/(SqT X.K H p ys/\Q (.ref p) H))) z03:=by
 intro ρ h H ds vs Q r rd fin;unfold z03 at fin;split at fin
 ·obtain⟨v,rfl,rv⟩:=rds1 rd;have rv':=rv;simp only[RD]at rv;obtain⟨q,xs,rfl,h1,h2⟩:=rv;exact⟨q,xs,rfl,.inr ⟨h1,FE.here fin r rv'⟩⟩
 ·rename_i x hx;obtain⟨v,rfl,rv⟩:=rds1 rd;have f1:=Fin.bind fin;cases e:seqD x h with
  | bad=>rw[e]at f1;exact f1.elim
  | err z hz=>exact(z3N e).elim
  | ok ys h1 =>
   obtain⟨rfl,q,xs,rfl,hs,hd⟩:=z2K r rv e;rw[e]at f1;have f2:=f1 ρ H .(b) .(c) r;refine⟨q,xs,rfl,?_⟩;rcases hs with hs|hs
   ·exact .inl ⟨hs,λl hl=>FE.tup f2 r hd hl⟩
   ·refine .inr ⟨hs,FE.here f2 r ?_⟩;simp only[RD];exact⟨q,xs,rfl,hs,hd⟩
 ·exact fin.elim
theorem z0s (hg:Gl X "tuple") (hm:X.mg "tuple" = none) (ha:SA X EX [a] mr) (he:K0g [a] X.env=[(false,eval a X.env)]:=by rfl):SE X EX (.Call (.Name "tuple" p) [a] [] pos) (Z6 z03 mr) :=
 z1D (z1C z63 hg hm .(2) ha.h .(1) .(1) he rfl) zs2
def z5M:List D->M D
 | [x]=>do
  let xs <- seqD x
  newL xs
 | _=>bad
theorem zG4:AR X.K EX (λxs H Q=>∃p ys,xs=[.ref p]/\(SqL X.K H p ys\/SqT X.K H p ys)/\∀l,H l=none->Q (.ref l) (upd H l (.lst ys))) z5M:=by
 intro ρ h H ds vs Q r rd fin;unfold z5M at fin;split at fin
 ·rename_i x;obtain⟨v,rfl,rv⟩:=rds1 rd;have f1:=Fin.bind fin;cases e:seqD x h with
  | bad=>rw[e]at f1;exact f1.elim
  | err z hz=>exact(z3N e).elim
  | ok ys h1 =>
   obtain⟨rfl,q,xs,rfl,hs,hd⟩:=z2K r rv e;rw[e]at f1;have f2:=f1 ρ H .(b) .(c) r;unfold newL at f2;dsimp only at f2;split at f2
   ·exact⟨q,xs,rfl,hs,λl hl=>FE.lst f2 r hd hl⟩
   ·exact f2.elim
 ·exact fin.elim
theorem za7 (hg:Gl X "list") (hm:X.mg "list" = none) (ha:SA X EX [a] mr) (he:K0g [a] X.env=[(false,eval a X.env)]:=by rfl):SE X EX (.Call (.Name "list" p) [a] [] pos) (Z6 z5M mr) :=
 z1D (z1C z7a hg hm .(2) ha.h .(1) .(1) he rfl) zG4
def tyD:D->M String
 | .non=>pure "NoneType"
 | .bl _=>pure "bool"
 | .int _=>pure "int"
 | .str _=>pure "str"
 | .tup _=>pure "tuple"
 | .fl _=>pure "list"
 | .ref n=>λh=>match h[n]? with
  | .(l _)=>.ok "list" h
  | some .dct=>.ok "dict" h
  | some (.dK _)=>.ok "dict" h
  | _=>.bad
def subT (t T:String):Bool:=t==T||(t=="bool"&&T=="int")
def tyNames:List String:=["NoneType","bool","int","str","tuple","list","dict"]
def tyAsked:List String:=["bool","int","str","tuple","list","dict"]
theorem zD7:tyNames.all (λt=>tyAsked.all λT=>decide (K64 [] (.type t) (.type T)=some (subT t T)))=true:=by decide +kernel
theorem z8k {t:String}(h1:t∈tyNames) (h2:T∈tyAsked):K64 K (.type t) (.type T)=some (subT t T):=by
 have q:=zD7;rw[K1m]at q;have q2:=q t h1;rw[K1m]at q2;have q3:=q2 T h2;exact of_decide_eq_true q3
def fIsi (T:String):D->M D:=λx=>do
 let t <- tyD x
 pure (.bl (subT t T))
theorem zM4 {σ:L2.St}{E:Value->Shared->Prop}{c:Value}{k:Bool}(I:Inv X pins σ H s) (h:SqT X.K H q xs) (e:K64 X.K (.type "tuple") c=some k) (hQ:∀tk,Q (.bool k) { s with toks:=tk }):
 wpAny .(6) X.A (call (.builtin "isinstance") [.ref q,c]) Q E s:=by
 obtain⟨its,_,ht,_⟩:=I.tuple h;obtain⟨o,h1,h2,_⟩:=ht;exact K1s Z1p I.kIn ⟨o,h1,h2⟩ e (λz=>nomatch z) hQ
theorem zE2 {σ:L2.St}{E:Value->Shared->Prop}{c:Value}{k:Bool}(I:Inv X pins σ H s) (h:SqL X.K H q xs) (e:K64 X.K (.type "list") c=some k) (hQ:∀tk,Q (.bool k) { s with toks:=tk }):
 wpAny .(6) X.A (call (.builtin "isinstance") [.ref q,c]) Q E s:=by
 obtain⟨its,_,ht,_⟩:=I.list h;obtain⟨o,n,h1,h2,_⟩:=ht;exact K1s K7u I.kIn ⟨o,h1,h2⟩ e (λz=>nomatch z) hQ
def TyV (K:K6) (H:Hp) (v:V) (t:String):Prop:=match v with
 | .non=>t = "NoneType"
 | .bl _=>t = "bool"
 | .int _=>t = "int"
 | .str _=>t = "str"
 | .ref q=>(t = "tuple"/\∃xs,SqT K H q xs)\/(t = "list"/\∃xs,SqL K H q xs)\/(t = "dict"/\(H q=some (dctO q)\/∃kvs,H q=some (.dK kvs)))
 | _=>False
theorem zo9 (hT:T∈tyAsked):z2C X (.builtin "isinstance") (λxs H Q=>∃x t,xs=[x,.ty T]/\TyV X.K H x t/\Q (.bl (subT t T)) H):=by
 intro pins s σ H xs us Q I r h;obtain⟨x,t,rfl,ty,q⟩:=h;obtain⟨u,w',rfl,rx,rt⟩:=vals2 r;cases rt;have fin:∀tk,EP X pins σ Q (.bool (subT t T)) { s with toks:=tk }:=λtk=>⟨.bl _,H,I.tok tk,rfl,q⟩;have tb:∀{z:V} {t':Value},z=x->TyOf X.K H z t'->t'=.type t->t∈tyNames->wpAny .(6) X.A (call (.builtin "isinstance") [u,.type T]) (EP X pins σ Q) X.xe s:=λ{z t'} e1 ty' e2 hn=>by
  subst e1;subst e2;exact zg4 I rx ty' (z8k hn hT) fin
 cases x with
 | non=>exact tb rfl .non (by rw[show t = "NoneType" from ty]) (by rw[show t = "NoneType" from ty];decide)
 | bl y=>exact tb rfl (.bl y) (by rw[show t = "bool" from ty]) (by rw[show t = "bool" from ty];decide)
 | int y=>exact tb rfl (.int y) (by rw[show t = "int" from ty]) (by rw[show t = "int" from ty];decide)
 | str y=>exact tb rfl (.str y) (by rw[show t = "str" from ty]) (by rw[show t = "str" from ty];decide)
 | ref y =>
  cases rx;rcases(show (t = "tuple"/\∃xs,SqT X.K H y xs)\/(t = "list"/\∃xs,SqL X.K H y xs)\/(t = "dict"/\(H y=some (dctO y)\/∃kvs,H y=some (.dK kvs))) from ty) with ⟨rfl,xs,hs⟩|⟨rfl,xs,hs⟩|⟨rfl,hs|⟨kvs,hs⟩⟩
  ·exact zM4 I hs (z8k .(1) hT) fin
  ·exact zE2 I hs (z8k .(1) hT) fin
  ·exact K1s K7v I.kIn (I.hok y _ hs).1 (z8k .(1) hT) (λz=>nomatch z) fin
  ·exact tb rfl (.dK hs) rfl .(1)
 | byt y=>exact(show False from ty).elim
 | flt y=>exact(show False from ty).elim
 | ty y=>exact(show False from ty).elim
theorem zM0 {x:D}{t:String}(r:RH K ρ h H) (rx:RD K ρ H x v) (e:tyD x h=.ok t h1):h1=h/\TyV K H v t:=by
 cases x with
 | non=>cases e;simp only[RD]at rx;subst rx;exact⟨rfl,rfl⟩
 | bl y=>cases e;simp only[RD]at rx;subst rx;exact⟨rfl,rfl⟩
 | int y=>cases e;simp only[RD]at rx;subst rx;exact⟨rfl,rfl⟩
 | str y=>cases e;simp only[RD]at rx;subst rx;exact⟨rfl,rfl⟩
 | tup y=>cases e;simp only[RD]at rx;obtain⟨q,xs,rfl,h2,_⟩:=rx;exact⟨rfl,.inl ⟨rfl,xs,h2⟩⟩
 | fl y=>cases e;simp only[RD]at rx;obtain⟨q,xs,rfl,h2,_⟩:=rx;exact⟨rfl,.inr (.inl ⟨rfl,xs,h2.sq⟩)⟩
 | ref n =>
  simp only[RD]at rx;obtain⟨q,rfl,h2⟩:=rx;unfold tyD at e;dsimp only at e;cases q1:h[n]? with
  | none=>rw[q1]at e;cases e
  | some ob =>
   rw[q1]at e;cases ob with
   | set ks=>cases e
   | dK kvs =>
    cases e;obtain⟨a1,n1,vs,o1,d1⟩:=r.at q1;rw[h2]at n1;cases n1;exact⟨rfl,.inr (.inr ⟨rfl,.inr ⟨_,o1⟩⟩)⟩
   | dF kvs=>cases e
   | exc c=>cases e
   | ins _ _=>cases e
   | lst ds =>
    cases e;obtain⟨a1,n1,vs,o1,d1⟩:=r.at q1;rw[h2]at n1;cases n1;exact⟨rfl,.inr (.inl ⟨rfl,vs,SqL.of o1⟩)⟩
   | dct =>
    cases e;obtain⟨a1,n1,o1⟩:=r.at q1;rw[h2]at n1;cases n1;exact⟨rfl,.inr (.inr ⟨rfl,.inl o1⟩)⟩
theorem zT7 {x:D}{z:Exn}(e:tyD x h=.err z h1):False:=by
 cases x with
 | ref n =>
  unfold tyD at e;dsimp only at e;split at e<;>cases e
 | _=>cases e
def eIsi (T:String) (ma:G->M D):G->M D:=λγ=>do
 let x <- ma γ
 fIsi T x
theorem z1b {T:Str}{T':String}(hg:Gl X "isinstance") (hm:X.mg "isinstance" = none) (hgT:Gl X T) (hmT:X.mg T=none) (hv:K55 T=some (.type T')) (hT:T'∈tyAsked) (ha:SE X EX a ma) (hn:T≠"__name__":=by decide) (hd:(T==("__debug__":Str))=false:=by decide)
 (he:K0g [a,.Name T p2] X.env=[(false,eval a X.env),(false,eval (.Name T p2) X.env)]:=by rfl) (he2:K0g [.Name T p2] X.env=[(false,eval (.Name T p2) X.env)]:=by rfl):SE X EX (.Call (.Name "isinstance" p) [a,.Name T p2] [] pos) (eIsi T' ma):=by
 constructor;have hA:PA X [a,.Name T p2] (zr6 (tE X.K EX ma) (zr6 (tC (.ty T')) tNil)):=z1k ha.h (z1k (zI6 hgT hmT hv rfl hn hd) z2E he2) (by rw[he,he2]);refine PE.imp (z1q (zo9 hT) hg hm .(2) hA .(1) .(1) (by rw[he,he2]) (by rw[he2];rfl)) λσ H Q ⟨ρ,γ,h,rel,fin⟩=>⟨ρ,γ,h,rel,(Fin.bind fin).mono λx ρ1 h1 H1 p1 e1 r1 f1 v rv=>?_⟩;have f2:=Fin.bind f1;cases e:tyD x h1 with
 | bad=>rw[e]at f2;exact f2.elim
 | err z hz=>exact(zT7 e).elim
 | ok t h2 =>
  obtain⟨rfl,ty⟩:=zM0 r1 rv e;rw[e]at f2;have f3:=f2 ρ1 H1 .(b) .(c) r1;exact⟨v,t,rfl,ty,FE.here f3 r1 (by simp[RD])⟩
def blsD:List D->Option (List Bool)
 | []=>some []
 | .bl b::r=>(blsD r).map (b::·)
 | _::_=>none
def fAll (any:Bool):List D->M D
 | [.ref n]=>do
  let xs <- getL n
  match blsD xs with
  | some bs=>pure (.bl (if any then bs.any id else bs.all id))
  | none=>bad
 | _=>bad
theorem z9U {K:K6}{ρ:List Addr}{H:Hp}:∀{xs:List D}{bs:List Bool}{vs:List V},blsD xs=some bs->RDs K ρ H xs vs->vs=bs.map V.bl
 | [],bs,vs,e,r=>by simp only[RDs]at r;cases e;subst r;rfl
 | x::xs,bs,vs,e,r=>by
  simp only[RDs]at r;obtain⟨v,r2,rfl,h1,h2⟩:=r;cases x<;>first|(simp only[blsD]at e;cases e;done)|skip
  rename_i b;simp only[blsD]at e;obtain⟨bs',e1,rfl⟩:=K0y.mp e;simp only[RD]at h1;subst h1;rw[z9U e1 h2];rfl
theorem z8W:∀{bs:List Bool}{us:List Value},Vals (bs.map V.bl) us->us=bs.map K74
 | [],us,h=>by cases h;rfl
 | b::bs,us,h=>by
  cases h with
  | cons h1 h2=>cases h1;rw[z8W h2];rfl
theorem range_all {bs:List Bool}:((K9 bs.length).all λi=>bs.getD i false)=bs.all id:=by
 rw[K19,K1m,K1m];constructor
 ·intro h x hx;obtain⟨i,hi,rfl⟩:=K2q hx;have:=h i (K0r.mpr hi);simpa [K9t,hi] using this
 ·intro h i hi;have hi':=K0r.mp hi;have:=h bs[i] (K3l hi');simpa [K9t,hi'] using this
theorem range_any {bs:List Bool}:((K9 bs.length).any λi=>bs.getD i false)=bs.any id:=by
 rw[K19,K28,K28];constructor
 ·rintro⟨i,hi,h⟩;have hi':=K0r.mp hi;refine⟨bs[i],K3l hi',?_⟩;simpa [K9t,hi'] using h
 ·rintro⟨x,hx,h⟩;obtain⟨i,hi,rfl⟩:=K2q hx;exact⟨i,K0r.mpr hi,by simpa [K9t,hi] using h⟩
theorem z4F (any:Bool) (hc:X.calm=true):z2C X (.builtin (if any then "any" else "all")) (λxs H Q=>∃(q:Addr) (bs:List Bool),xs=[.ref q]/\SqL X.K H q (bs.map V.bl)/\Q (.bl (if any then bs.any id else bs.all id)) H):=by
 intro pins s σ H xs us Q I r h;obtain⟨q,bs,rfl,hq,hQ⟩:=h;obtain⟨u,rfl,ru⟩:=vals1 r;cases ru;obtain⟨its,rv,pl,hz⟩:=I.list hq;have ei:=z8W rv;have ne:q≠s.heap.objs.size:=K0o (by obtain⟨o,n,e,_⟩:=pl;exact K0e e);have pl':=pl.isList;have hwalk:=Walks.list (prog:=X.prog) (w:=X.w) (A:=X.A.in1) (show X.A.in1.handled=none from I.ok.hd hc) .(5) q ne its.toArray;have len:its.toArray.size=bs.length:=by rw[ei];simp
 have st0:(s.heap.push { cls:=.type "list_iterator",data:=.fields #[.ref q,.int 0 0] }).IsListIter .(5) q 0/\(s.heap.push { cls:=.type "list_iterator",data:=.fields #[.ref q,.int 0 0] }).IsList q its.toArray :=
  ⟨⟨_,K0a _ rfl,rfl,rfl⟩,pl'.at λo e=>K7 _ e⟩
 have tr:TruthOf X.prog X.w X.A.in1 (λi v=>its.toArray[i]?=some v) λi=>bs.getD i false:=λi v s' Q' E' hv hq'=>by
  have hv':its[i]?=some v:=by simpa using hv
  rw[ei,K0k]at hv';cases eb:bs[i]? with
  | none=>rw[eb]at hv';cases hv'
  | some b =>
   rw[eb]at hv';cases hv';have:bs.getD i false=b:=by simp[K9t,eb]
   dsimp only at hq';rw[this]at hq';exact K2c hq'
 have fin:∀k,k=(if any then bs.any id else bs.all id)->∀h' tk,(∀b o,b∉[.(5)]->(s.heap.push { cls:=.type "list_iterator",data:=.fields #[.ref q,.int 0 0] }).get? b=some o->h'.get? b=some o) ->
  EP X pins σ Q (.bool k) { s with heap:=h',toks:=tk }:=λk ek h' tk hk=>by
  subst ek;refine⟨.bl _,H,I.kept λb o e=>hk b o ?_ (K7 _ e),rfl,hQ⟩;intro z;have:b=s.heap.objs.size:=by simpa using z
  exact absurd (K0e e) (by rw[this];exact K2k _)
 cases any with
 | false =>
  refine call_all_walk (K37 pl' ⟨_,_,_,_,_,_,_,rfl,hwalk,st0,tr,λh' tk hk=>?_⟩);exact fin _ (by rw[len];exact range_all) h' tk hk
 | true =>
  refine call_any_walk (K37 pl' ⟨_,_,_,_,_,_,_,rfl,hwalk,st0,tr,λh' tk hk=>?_⟩);exact fin _ (by rw[len];exact range_any) h' tk hk
theorem zv5 {any:Bool}:AR X.K EX (λxs H Q=>∃(q:Addr) (bs:List Bool),xs=[.ref q]/\SqL X.K H q (bs.map V.bl)/\Q (.bl (if any then bs.any id else bs.all id)) H) (fAll any):=by
 intro ρ h H ds vs Q r rd fin;unfold fAll at fin;split at fin
 ·rename_i n;obtain⟨v,rfl,rv⟩:=rds1 rd;have f1:=Fin.bind fin;cases e:getL n h with
  | bad=>rw[e]at f1;exact f1.elim
  | err z hz=>exact(z1h e).elim
  | ok xs h1 =>
   obtain⟨rfl,q1⟩:=z1e e;rw[e]at f1;have f2:=f1 ρ H .(b) .(c) r;dsimp only at f2;cases eb:blsD xs with
   | none=>rw[eb]at f2;exact f2.elim
   | some bs =>
    rw[eb]at f2;simp only[RD]at rv;obtain⟨q,rfl,h2⟩:=rv;obtain⟨a1,n1,vs,o1,d1⟩:=r.at q1;rw[h2]at n1;cases n1;have ev:=z9U eb d1;subst ev;exact⟨q,bs,rfl,SqL.of o1,FE.here f2 r (by simp[RD])⟩
 ·exact fin.elim
theorem zw5 (hc:X.calm=true) (hg:Gl X "all") (hm:X.mg "all" = none) (ha:SA X EX [a] mr) (he:K0g [a] X.env=[(false,eval a X.env)]:=by rfl):SE X EX (.Call (.Name "all" p) [a] [] pos) (Z6 (fAll false) mr) :=
 z1D (z1q (z4F false hc) hg hm .(2) ha.h .(1) .(1) he rfl) zv5
theorem zW1 (hc:X.calm=true) (hg:Gl X "any") (hm:X.mg "any" = none) (ha:SA X EX [a] mr) (he:K0g [a] X.env=[(false,eval a X.env)]:=by rfl):SE X EX (.Call (.Name "any" p) [a] [] pos) (Z6 (fAll true) mr) :=
 z1D (z1q (z4F true hc) hg hm .(2) ha.h .(1) .(1) he rfl) zv5
end
abbrev EX0:XX:=λ_ _ _ _=>False
def spB (K:K6) (mf:List D->M D) (n:Nat):Sp:=λvs H Q _=>vs.length=n/\∃ρ ds h,RH K ρ h H/\RDs K ρ H ds vs/\FE K EX0 ρ H Q (mf ds h)
structure Fn (P:K1h) (w:World) (K:K6) (mg:Str->Option Value) (base:Heap) (k:Nat) (x:Str) (n:Nat) (mf:List D->M D):Prop where
 ex:∃f fd ps,FnOk P w K mg base CX0 k f fd ps (spB K mf n)/\Binds K fd ps []/\K65 K (.ref f)=true/\mg x=.(r f)
def eFn (n:Nat) (mf:List D->M D) (mr:G->M (List D)):G->M D:=λγ=>do
 let xs <- mr γ
 if xs.length=n then mf xs else bad
section
variable {a b:Expr}{es:List Expr}{k:Nat}
theorem Z5 (F:Fn X.prog X.w X.K X.mg X.base k x n mf) (hr:Room k X.A) (hg:Gl X x) (ha:SA X EX0 (a::es) mr) (hdb:(x==("__debug__":Str))=false:=by decide)
 (he:K0g (a::es) X.env=(false,eval a X.env)::K0g es X.env:=by rfl) (hpl:(backTo pos (K0g es X.env)).any (·.1)=false:=by rfl):SE X EX0 (.Call (.Name x p) (a::es) [] pos) (eFn n mf mr):=by
 constructor;obtain⟨f,fd,ps,h1,h2,h3,h4⟩:=F.ex;refine PE.imp (zF8 h1 hr hg h4 h3 h2 .nil Z0N ha.h hdb he hpl) λσ H Q ⟨ρ,γ,h,rel,fin⟩=>⟨ρ,γ,h,rel,(Fin.bind fin).mono λxs ρ1 h1 H1 p1 e1 r1 f1 vs rvs=>?_⟩;show spB X.K mf n (vs++[]) H1 Q E0;rw[K0w];by_cases hl:xs.length=n
 ·rw[if_pos hl]at f1;exact⟨by rw[<- rvs.length];exact hl,ρ1,xs,h1,r1,rvs,f1⟩
 ·rw[if_neg hl]at f1;exact(show False from f1).elim
end
def z1w (n:Nat) (ds:List D):G:=ds.map some++K0n (n - ds.length) none
def runF (n:Nat) (mb:G->M Out) (ds:List D):M D:=do
 let o <- mb (z1w n ds)
 match o with
 | .nx _=>pure .non
 | .rt d=>pure d
 | _=>bad
theorem z6S (h:RDs K ρ H ds vs):RG K ρ H (z1w N.length ds) (L2.start N vs):=by
 have hl:=h.length;refine⟨by unfold z1w L2.start;simp[hl],λi d e=>?_⟩;unfold z1w at e;unfold L2.start;rw[K40]at e ⊢;rw[K03]at e ⊢;rw[<- hl];split at e
 ·rename_i hi;rw[if_pos hi];rw[K0k]at e ⊢;cases q:ds[i]? with
  | none=>rw[q]at e;cases e
  | some d' =>
   rw[q]at e;cases e;obtain⟨v,h1,h2⟩:=h.get q;exact⟨v,by rw[h1];rfl,h2⟩
 ·rw[K60]at e;split at e<;>cases e
section
variable {t:Option Expr}{l:Nat}{tg:List Expr}
theorem zg0 {a p}:K2d (.List a p) t l env=pure false:=rfl
theorem z97 {a b p}:K2d (.Tuple a b p) t l env=pure false:=rfl
theorem z4T {c k p}:K2d (.Constant c k p) t l env=pure false:=rfl
theorem zm0 {c p}:K2d (.Name c p) t l env=pure false:=rfl
theorem zb6 {a b c p}:K2d (.Call a b c p) t l env=pure false:=rfl
theorem z8f {a b c p}:K2d (.BinOp a b c p) t l env=pure false:=rfl
theorem z5i {a b c p}:K2d (.Compare a b c p) t l env=pure false:=rfl
theorem z3S {a b p}:K2d (.Subscript a b p) t l env=pure false:=rfl
theorem z5k {a b p}:K2d (.UnaryOp a b p) t l env=pure false:=rfl
theorem z6Y {a b p}:K2d (.BoolOp a b p) t l env=pure false:=rfl
theorem z8c {a b c p}:K2d (.IfExp a b c p) t l env=pure false:=rfl
end
section
variable {a b:Expr}{ms mt:G->M Out}
def bNil:G->M Out:=λγ=>pure (.nx γ)
def Z0 (ms mt:G->M Out):G->M Out:=λγ=>do
 let o <- ms γ
 match o with
 | .nx γ'=>mt γ'
 | o=>pure o
theorem Z3:SB X EX [] bNil:=⟨PSs.imp zL0 λσ H D ⟨ρ,γ,h,rel,fin⟩=>fin ρ H .(b) .(c) rel.h σ rel.g⟩
theorem z8 (h1:S1 X EX st ms) (h2:SB X EX sts mt):SB X EX (st::sts) (Z0 ms mt) :=
 ⟨PSs.imp (zn8 h1.h h2.h) λσ H D ⟨ρ,γ,h,rel,fin⟩=>⟨ρ,γ,h,rel,(Fin.bind fin).mono λo ρ1 h1 H1 p1 e1 r1 f1=>by
  cases o with
  | nx γ'=>exact λσ' rg=>⟨ρ1,γ',h1,⟨rg,r1⟩,f1⟩
  | rt d=>exact f1 ρ1 H1 .(b) .(c) r1
  | bk γ'=>exact f1 ρ1 H1 .(b) .(c) r1
  | ct γ'=>exact f1 ρ1 H1 .(b) .(c) r1⟩⟩
def sRet (ma:G->M D):G->M Out:=λγ=>do
 let d <- ma γ
 pure (.rt d)
theorem y0 (ha:SE X EX a ma):S1 X EX (.Return (some a) pos) (sRet ma) :=
 ⟨PS.imp (zN5 ha.h) λσ H D ⟨ρ,γ,h,rel,fin⟩=>⟨ρ,γ,h,rel,(Fin.bind fin).mono λd ρ1 h1 H1 p1 e1 r1 f1 v rv=>f1 ρ1 H1 .(b) .(c) r1 v rv⟩⟩
def z15 (ma:G->M D):G->M Out:=λγ=>do
 let _ <- ma γ
 pure (.nx γ)
theorem z2i (ha:SE X EX a ma) (hs:K2d a none pos.line X.env=pure false:=by first|exact zg0|exact z97|exact z4T|exact zm0|exact zb6|exact z8f|exact z5i|exact z3S|exact z5k|exact z6Y|exact z8c|rfl):S1 X EX (.Expr a pos) (z15 ma) :=
 ⟨PS.imp (zA8 ha.h hs) λσ H D ⟨ρ,γ,h,rel,fin⟩=>⟨ρ,γ,h,rel,(Fin.bind fin).mono λd ρ1 h1 H1 p1 e1 r1 f1 v rv=>f1 ρ1 H1 .(b) .(c) r1 σ (rel.g.mono p1 e1)⟩⟩
def sIf (k:G->M Bool) (ms mt:G->M Out):G->M Out:=λγ=>do
 let t <- k γ
 if t then ms γ else mt γ
theorem s_if (hc:SC X EX c kc) (h1:SB X EX sts ms) (h2:SB X EX sts' mt):S1 X EX (.If c sts sts' pos) (sIf kc ms mt) :=
 ⟨PS.imp (Z0x hc.h h1.h h2.h) λσ H D ⟨ρ,γ,h,rel,fin⟩=>⟨ρ,γ,h,rel,(Fin.bind fin).mono λt ρ1 h1 H1 p1 e1 r1 f1=>by
  cases t with
  | true=>exact⟨ρ1,γ,h1,⟨rel.g.mono p1 e1,r1⟩,f1⟩
  | false=>exact⟨ρ1,γ,h1,⟨rel.g.mono p1 e1,r1⟩,f1⟩⟩⟩
def tG (K:K6) (EX:XX) (m:D->G->M G):TG:=λv σ H Q=>∃ρ γ h d,Rel K ρ γ h σ H/\RD K ρ H d v/\Fin K EX ρ H (λγ' ρ' _ H'=>∀σ',RG K ρ' H' γ' σ'->Q σ' H') (m d γ h)
def tGs (K:K6) (EX:XX) (m:List D->G->M G):TGs:=λvs σ H Q=>∃ρ γ h ds,Rel K ρ γ h σ H/\RDs K ρ H ds vs/\Fin K EX ρ H (λγ' ρ' _ H'=>∀σ',RG K ρ' H' γ' σ'->Q σ' H') (m ds γ h)
structure SG (X:Cx) (EX:XX) (tg:Expr) (m:D->G->M G):Prop where
 h:PG X tg (tG X.K EX m)
structure SGs (X:Cx) (EX:XX) (tg:List Expr) (m:List D->G->M G):Prop where
 h:PGs X tg (tGs X.K EX m)
theorem PG.imp {t t':TG}(h:PG X e t) (f:∀v σ H Q,t' v σ H Q->t v σ H Q):PG X e t':=λpins s σ H v u Q I r z=>h pins s σ H v u Q I r (f v σ H Q z)
theorem PGs.imp {e:List Expr}{t t':TGs}(h:PGs X e t) (f:∀v σ H Q,t' v σ H Q->t v σ H Q):PGs X e t':=λpins s σ H v u Q I r z=>h pins s σ H v u Q I r (f v σ H Q z)
def tGk (K:K6) (EX:XX) (own:List Nat) (m:D->G->M G):TG:=λv σ H Q=>∃ρ γ h d,Rel K ρ γ h σ H/\RD K ρ H d v/\Fin K EX ρ H (λγ' ρ' _ H'=>∀σ',RG K ρ' H' γ' σ'->(∀j:Nat,j∉own->σ'[j]?=σ[j]?)->Q σ' H') (m d γ h)
def tGks (K:K6) (EX:XX) (own:List Nat) (m:List D->G->M G):TGs:=λvs σ H Q=>∃ρ γ h ds,Rel K ρ γ h σ H/\RDs K ρ H ds vs/\Fin K EX ρ H (λγ' ρ' _ H'=>∀σ',RG K ρ' H' γ' σ'->(∀j:Nat,j∉own->σ'[j]?=σ[j]?)->Q σ' H') (m ds γ h)
structure SGk (X:Cx) (EX:XX) (tg:Expr) (own:List Nat) (m:D->G->M G):Prop where
 h:PG X tg (tGk X.K EX own m)
structure SGks (X:Cx) (EX:XX) (tg:List Expr) (own:List Nat) (m:List D->G->M G):Prop where
 h:PGs X tg (tGks X.K EX own m)
def gN (i:Nat):D->G->M G:=λd γ=>pure (γ.set i (some d))
theorem y8 (i:Nat) (hN:X.N.Nodup) (hi:X.N[i]?=some x:=by rfl) (hx:Loc X.env.scope x:=by first|exact Or.inl rfl|exact Or.inr rfl) (hf:X.fn x=true\/X.env.scope.names.lookup x=some .local:=by first|exact .inl rfl|exact .inr rfl|assumption):SG X EX (.Name x pos) (gN i) :=
 ⟨PG.imp (z7Z hN hi hx hf) λv σ H Q ⟨ρ,γ,h,d,rel,rd,fin⟩=>fin ρ H .(b) .(c) rel.h _ (rel.g.set i rd)⟩
theorem j7 (i:Nat) (hN:X.N.Nodup) (hi:X.N[i]?=some x:=by rfl) (hx:Loc X.env.scope x:=by first|exact Or.inl rfl|exact Or.inr rfl) (hf:X.fn x=true\/X.env.scope.names.lookup x=some .local:=by first|exact .inl rfl|exact .inr rfl|assumption):SGk X EX (.Name x pos) [i] (gN i) :=
 ⟨PG.imp (z7Z hN hi hx hf) λv σ H Q ⟨ρ,γ,h,d,rel,rd,fin⟩=>fin ρ H .(b) .(c) rel.h _ (rel.g.set i rd) λj hj=>K1l (λz=>hj (by simp[z]))⟩
def z4W:List D->G->M G:=λds γ=>match ds with
 | []=>pure γ
 | _=>bad
def z0Y (m:D->G->M G) (ms:List D->G->M G):List D->G->M G:=λds γ=>match ds with
 | []=>bad
 | d::r=>do
  let γ1 <- m d γ
  ms r γ1
theorem z3L:SGs X EX [] z4W:=⟨PGs.imp z9P λv σ H Q ⟨ρ,γ,h,ds,rel,rd,fin⟩=>by
 cases ds with
 | nil=>simp only[RDs]at rd;exact⟨rd,fin ρ H .(b) .(c) rel.h σ rel.g⟩
 | cons d r=>exact(show False from fin).elim⟩
theorem z0B {es:List Expr}{m:D->G->M G}{mr:List D->G->M G}(h1:SG X EX e m) (h2:SGs X EX es mr) (hs:(K2n (e::es) X.env).map (·.2)=assign e X.env::(K2n es X.env).map (·.2):=by rfl):SGs X EX (e::es) (z0Y m mr) :=
 ⟨PGs.imp (z8g h1.h h2.h hs) λvs σ H Q ⟨ρ,γ,h,ds,rel,rd,fin⟩=>by
  cases ds with
  | nil=>exact(show False from fin).elim
  | cons d r =>
   simp only[RDs]at rd;obtain⟨v,vr,rfl,h3,h4⟩:=rd;have fin':Fin X.K EX ρ H (λγ' ρ' _ H'=>∀σ',RG X.K ρ' H' γ' σ'->Q σ' H') ((m d γ >>= λγ1=>mr r γ1) h):=fin;exact⟨v,vr,rfl,ρ,γ,h,d,rel,h3,(Fin.bind fin').mono λγ1 ρ1 h1 H1 p1 e1 r1 f1 σ1 g1=>⟨ρ1,γ1,h1,r,⟨g1,r1⟩,h4.mono p1 e1,f1⟩⟩⟩
theorem z8H:SGks X EX [] [] z4W:=⟨PGs.imp z9P λv σ H Q ⟨ρ,γ,h,ds,rel,rd,fin⟩=>by
 cases ds with
 | nil=>simp only[RDs]at rd;exact⟨rd,fin ρ H .(b) .(c) rel.h σ rel.g λ_ _=>rfl⟩
 | cons d r=>exact(show False from fin).elim⟩
theorem z3l {es:List Expr}{o1 o2:List Nat}{m:D->G->M G}{mr:List D->G->M G}(h1:SGk X EX e o1 m) (h2:SGks X EX es o2 mr) (hs:(K2n (e::es) X.env).map (·.2)=assign e X.env::(K2n es X.env).map (·.2):=by rfl):SGks X EX (e::es) (o1++o2) (z0Y m mr) :=
 ⟨PGs.imp (z8g h1.h h2.h hs) λvs σ H Q ⟨ρ,γ,h,ds,rel,rd,fin⟩=>by
  cases ds with
  | nil=>exact(show False from fin).elim
  | cons d r =>
   simp only[RDs]at rd;obtain⟨v,vr,rfl,h3,h4⟩:=rd;have fin':Fin X.K EX ρ H (λγ' ρ' _ H'=>∀σ',RG X.K ρ' H' γ' σ'->(∀j:Nat,j∉o1++o2->σ'[j]?=σ[j]?)->Q σ' H') ((m d γ >>= λγ1=>mr r γ1) h):=fin;refine⟨v,vr,rfl,ρ,γ,h,d,rel,h3,(Fin.bind fin').mono λγ1 ρ1 h1 H1 p1 e1 r1 f1 σ1 g1 k1=>⟨ρ1,γ1,h1,r,⟨g1,r1⟩,h4.mono p1 e1,f1.mono λγ2 ρ2 h2 H2 p2 e2 r2 f2 σ2 g2 k2=>f2 σ2 g2 λj hj=>?_⟩⟩;rw[K0i,not_or]at hj;rw[k2 j hj.2,k1 j hj.1]⟩
def gT (n:Nat) (m:List D->G->M G):D->G->M G:=λd γ=>match d with
 | .tup xs=>if xs.length=n then m xs γ else bad
 | _=>bad
theorem z5d {es:List Expr}{k:Nat}(hc:X.calm=true) (h:SGs X EX es m) (hn:(K2n es X.env).length=n:=by rfl) (hst:(K2n es X.env).findIdx? (·.1)=none:=by rfl):SG X EX (.Tuple es k pos) (gT n m) :=
 ⟨PG.imp (zv7 hc h.h hn hst) λv σ H Q ⟨ρ,γ,h,d,rel,rd,fin⟩=>by
  cases d<;>first|exact(show False from fin).elim|skip
  rename_i xs;simp only[RD]at rd;obtain⟨q,vs,rfl,h1,h2⟩:=rd;have fin':Fin X.K EX ρ H (λγ' ρ' _ H'=>∀σ',RG X.K ρ' H' γ' σ'->Q σ' H') ((if xs.length=n then m xs γ else bad) h):=fin;by_cases hl:xs.length=n
  ·rw[if_pos hl]at fin';exact⟨q,vs,rfl,h1,by rw[<- h2.length];exact hl,ρ,γ,h,xs,rel,h2,fin'⟩
  ·rw[if_neg hl]at fin';exact(show False from fin').elim⟩
theorem zk7 {es:List Expr}{k:Nat}(hc:X.calm=true) (h:SGks X EX es own m) (hn:(K2n es X.env).length=n:=by rfl) (hst:(K2n es X.env).findIdx? (·.1)=none:=by rfl):SGk X EX (.Tuple es k pos) own (gT n m) :=
 ⟨PG.imp (zv7 hc h.h hn hst) λv σ H Q ⟨ρ,γ,h,d,rel,rd,fin⟩=>by
  cases d<;>first|exact(show False from fin).elim|skip
  rename_i xs;simp only[RD]at rd;obtain⟨q,vs,rfl,h1,h2⟩:=rd;have fin':Fin X.K EX ρ H (λγ' ρ' _ H'=>∀σ',RG X.K ρ' H' γ' σ'->(∀j:Nat,j∉own->σ'[j]?=σ[j]?)->Q σ' H') ((if xs.length=n then m xs γ else bad) h):=fin;by_cases hl:xs.length=n
  ·rw[if_pos hl]at fin';exact⟨q,vs,rfl,h1,by rw[<- h2.length];exact hl,ρ,γ,h,xs,rel,h2,fin'⟩
  ·rw[if_neg hl]at fin';exact(show False from fin').elim⟩
def fSet:D->D->D->M Unit:=λo i v=>match o,i with
 | .ref n,.int k=>λh=>match h[n]? with
  | .(l xs)=>(match ixN xs.length k with
   | some j=>.ok () (h.set n (.lst (xs.set j v)))
   | none=>.bad)
  | _=>.bad
 | _,_=>bad
def gIx (mo mi:G->M D):D->G->M G:=λv γ=>do
 let o <- mo γ;let i <- mi γ;let _ <- fSet o i v
 pure γ
theorem zk0 {o i:Expr}{mi:G->M D}(ho:SE X EX o mo) (hi:SE X EX i mi)
 (ha:∀v,assign (.Subscript o i pos) X.env v=(do
  let ov <- K44 [v] (eval o X.env);let iv <- K44 [v,ov] (eval i X.env)
  K5k pos
  K44 [v,ov,iv] (Z36 ov iv v)
  release [v,ov,iv] []):=by intro _;rfl):SG X EX (.Subscript o i pos) (gIx mo mi) :=
 ⟨PG.imp (zv3 ho.h hi.h set_list ha) λv σ H Q ⟨ρ,γ,h,d,rel,rd,fin⟩=>⟨ρ,γ,h,rel,(Fin.bind fin).mono λod ρ1 h1 H1 p1 e1 r1 f1 ov ro=>⟨ρ1,γ,h1,⟨rel.g.mono p1 e1,r1⟩,(Fin.bind f1).mono λid ρ2 h2 H2 p2 e2 r2 f2 iv ri=>by
  have f3:=Fin.bind f2;cases od<;>first|exact(show False from f3).elim|skip
  rename_i n;cases id<;>first|exact(show False from f3).elim|skip
  rename_i k;simp only[RD]at ro ri;obtain⟨q,rfl,hq⟩:=ro;subst ri;have hq2:=p2 n q hq;unfold fSet at f3;dsimp only at f3;cases e4:h2[n]? with
  | none=>rw[e4]at f3;exact(show False from f3).elim
  | some ob =>
   cases ob with
   | set ks=>rw[e4]at f3;exact(show False from f3).elim
   | dct=>rw[e4]at f3;exact(show False from f3).elim
   | dK kvs=>rw[e4]at f3;exact(show False from f3).elim
   | dF kvs=>rw[e4]at f3;exact(show False from f3).elim
   | exc c=>rw[e4]at f3;exact(show False from f3).elim
   | ins _ _=>rw[e4]at f3;exact(show False from f3).elim
   | lst xs =>
    rw[e4]at f3;dsimp only at f3;cases e5:ixN xs.length k with
    | none=>rw[e5]at f3;exact(show False from f3).elim
    | some j =>
     rw[e5]at f3;obtain⟨a1,n1,vs,o1,d1⟩:=r2.at e4;rw[hq2]at n1;cases n1;have rd2:=(rd.mono p1 e1).mono p2 e2;have dd:=d1.set j rd2;refine⟨q,vs,k,j,rfl,rfl,o1,by rw[<- d1.length];exact e5,?_⟩;have ext:Ext X.K H2 (upd H2 q (.lst (vs.set j v))):=Ext.upd (.inr ⟨_,o1,trivial⟩);have f4:=f3 ρ2 _ .(b) ext (r2.set e4 hq2 dd);exact f4 ρ2 _ .(b) .(c) (r2.set e4 hq2 dd) σ (((rel.g.mono p1 e1).mono p2 e2).mono .(b) ext)⟩⟩⟩
def sAsg (ma:G->M D) (g:D->G->M G):G->M Out:=λγ=>do
 let d <- ma γ;let γ1 <- g d γ
 pure (.nx γ1)
theorem z4K (ha:SE X EX a ma) (hg:SG X EX tg g) (hs:swapsWithSole [tg] a pos.line X.env=pure false:=by rfl) (hw:swappedStores [tg] a X.env=pure none:=by rfl)
 (h1:(K2n [tg] X.env).map (·.2)=[assign tg X.env]:=by rfl):S1 X EX (.Assign [tg] a pos) (sAsg ma g) :=
 ⟨PS.imp (zR6 ha.h hg.h hs hw h1) λσ H D ⟨ρ,γ,h,rel,fin⟩=>⟨ρ,γ,h,rel,(Fin.bind fin).mono λd ρ1 h1 H1 p1 e1 r1 f1 v rv=>⟨ρ1,γ,h1,d,⟨rel.g.mono p1 e1,r1⟩,rv,(Fin.bind f1).mono λγ1 ρ2 h2 H2 p2 e2 r2 f2 σ2 g2 =>
  f2 ρ2 H2 .(b) .(c) r2 σ2 g2⟩⟩⟩
theorem y9 (i:Nat) (hN:X.N.Nodup) (ha:SE X EX a ma) (hi:X.N[i]?=some x:=by rfl) (hx:Loc X.env.scope x:=by first|exact Or.inl rfl|exact Or.inr rfl) (hs:K2d a (some (.Name x p)) pos.line X.env=pure false:=by first|exact zg0|exact z97|exact z4T|exact zm0|exact zb6|exact z8f|exact z5i|exact z3S|exact z5k|exact z6Y|exact z8c|rfl)
 (hf:X.fn x=true\/X.env.scope.names.lookup x=some .local:=by first|exact .inl rfl|exact .inr rfl|assumption):S1 X EX (.Assign [.Name x p] a pos) (sAsg ma (gN i)) :=
 ⟨PS.imp (zS5 hN hi hx ha.h hs hf) λσ H D ⟨ρ,γ,h,rel,fin⟩=>⟨ρ,γ,h,rel,(Fin.bind fin).mono λd ρ1 h1 H1 p1 e1 r1 f1 v rv=>f1 ρ1 H1 .(b) .(c) r1 _ ((rel.g.mono p1 e1).set i rv)⟩⟩
end
section
variable {a o:Expr}
def updL (n:Nat) (f:List D->Option (D×List D)):M D:=λh=>match h[n]? with
 | .(l xs)=>(match f xs with
  | some (d,ys)=>if ys.length<=sizeLine then .ok d (h.set n (.lst ys)) else .bad
  | none=>.bad)
 | _=>.bad
def z37:D->M Nat
 | .ref n=>λh=>match h[n]? with
  | .(l _)=>.ok n h
  | _=>.bad
 | _=>bad
def J2 (n:Nat) (v:D):M D:=updL n λxs=>some (.non,xs++[v])
def z3k (n:Nat) (i:D):M D:=match i with
 | .int k=>updL n λxs=>if -(2 ^ 63)<=k/\k<2 ^ 63 then (match K5v k xs.length with
  | some j=>(xs[j]?).map λd=>(d,xs.eraseIdx j)
  | none=>none) else none
 | _=>bad
def eM1 (f:Nat->D->M D) (mo ma:G->M D):G->M D:=λγ=>do
 let o <- mo γ;let n <- z37 o;let v <- ma γ
 f n v
def eM0 (f:Nat->M D) (mo:G->M D):G->M D:=λγ=>do
 let o <- mo γ;let n <- z37 o
 f n
theorem z94 {Q:VK}{f:List D->Option (D×List D)}(r:RH K ρ h H) (hq:ρ[n]?=some q) (fin:FE K EX ρ H Q (updL n f h)):
 ∃xs d ys vs,f xs=some (d,ys)/\ys.length<=sizeLine/\H q=.(l vs)/\RDs K ρ H xs vs/\∀v ws,RD K ρ H d v->RDs K ρ H ys ws->Q v (upd H q (.lst ws)):=by
 unfold updL at fin;cases e:h[n]? with
 | none=>rw[e]at fin;exact fin.elim
 | some ob =>
  cases ob with
  | set ks=>rw[e]at fin;exact fin.elim
  | dct=>rw[e]at fin;exact fin.elim
  | dK kvs=>rw[e]at fin;exact fin.elim
  | dF kvs=>rw[e]at fin;exact fin.elim
  | exc c=>rw[e]at fin;exact fin.elim
  | ins _ _=>rw[e]at fin;exact fin.elim
  | lst xs =>
   rw[e]at fin;dsimp only at fin;cases e2:f xs with
   | none=>rw[e2]at fin;exact fin.elim
   | some dy =>
    obtain⟨d,ys⟩:=dy;rw[e2]at fin;dsimp only at fin;split at fin
    ·rename_i hl;obtain⟨a1,n1,vs,o1,d1⟩:=r.at e;rw[hq]at n1;cases n1;refine⟨xs,d,ys,vs,e2,hl,o1,d1,λv ws rv rw'=>?_⟩;have ext:Ext K H (upd H q (.lst ws)):=Ext.upd (.inr ⟨_,o1,trivial⟩);exact fin ρ _ .(b) ext (r.set e hq rw') v (rv.mono .(b) ext)
    ·exact fin.elim
theorem zM5 {Z:Nat->List Addr->AH->Hp->Prop}(r:RH K ρ h H) (hq:ρ[n]?=some q) (f:Fin K EX ρ H Z (z37 (.ref n) h)):tyV K "list" (.ref q) H/\Z n ρ h H:=by
 unfold z37 at f;dsimp only at f;cases e:h[n]? with
 | none=>rw[e]at f;exact f.elim
 | some ob =>
  cases ob with
  | set ks=>rw[e]at f;exact f.elim
  | dct=>rw[e]at f;exact f.elim
  | dK kvs=>rw[e]at f;exact f.elim
  | dF kvs=>rw[e]at f;exact f.elim
  | exc c=>rw[e]at f;exact f.elim
  | ins _ _=>rw[e]at f;exact f.elim
  | lst xs =>
   rw[e]at f;obtain⟨a1,n1,vs,o1,d1⟩:=r.at e;rw[hq]at n1;cases n1;exact⟨.inl ⟨rfl,vs,SqL.of o1⟩,f ρ H .(b) .(c) r⟩
theorem zB7 {f:Nat->D->M D}(hr:∀ρ h H n q y u Q,RH X.K ρ h H->ρ[n]?=some q->RD X.K ρ H y u->FE X.K EX ρ H Q (f n y h)->r (.ref q) [u] H Q):
 ∀σ H Q,tE X.K EX (eM1 f mo ma) σ H Q->tBM X.K "list" r (tE X.K EX mo) (zr6 (tE X.K EX ma) tNil) σ H Q:=λσ H Q ⟨ρ,γ,h,rel,fin⟩=>⟨ρ,γ,h,rel,(Fin.bind fin).mono λx ρ1 h1 H1 p1 e1 r1 f1 v rv=>by
 have f2:=Fin.bind f1;cases x<;>first|exact(show False from f2).elim|skip
 rename_i n;simp only[RD]at rv;obtain⟨q,rfl,hq⟩:=rv;obtain⟨lt,f3⟩:=zM5 r1 hq f2;exact⟨lt,ρ1,γ,h1,⟨rel.g.mono p1 e1,r1⟩,(Fin.bind f3).mono λy ρ2 h2 H2 p2 e2 r2 f4 u ru=>hr ρ2 h2 H2 n q y u Q r2 (p2 n q hq) ru f4⟩⟩
theorem z0n (ho:SE X EX o mo) (ha:SE X EX a ma)
 (hbase:K5d o "append" X.env (eval o X.env)=eval o X.env:=by rfl)
 (hfew:((backTo cpos (K0g [a] X.env)).all (λx=>!x.1)&&(K9l cpos (K6q [] X.env)).all (λx=>x.1.isSome)
 &&decide (([a]:List Expr).length+([]:List K6c).length+(if ([]:List K6c).isEmpty then 0 else 1)<30))=true:=by rfl)
 (hline:(apos.endLine==cpos.line)=true:=by rfl) (hs:K0g [a] X.env=[(false,eval a X.env)]:=by rfl) :
 SE X EX (.Call (.Attribute o "append" apos) [a] [] cpos) (eM1 J2 mo ma) :=
 ⟨PE.imp (zI0 K5w PySem.F.slot_list_append PySem.F.type_list_append z6K ho.h (z1k ha.h z2E hs) hbase hfew hline hs rfl) (zB7 λρ h H n q y u Q r hq ru fin=>by
  obtain⟨xs,d,ys,vs,g1,g2,g3,g4,g5⟩:=z94 r hq fin;cases g1;have hl:=g4.length;rw[K04,K1c]at g2;exact⟨q,vs,u,rfl,rfl,g3,by omega,g5 _ _ (by simp[RD]) (g4.append (RDs.cons ru RDs.nil))⟩)⟩
theorem z8i (ho:SE X EX o mo) (ha:SE X EX a ma)
 (hbase:K5d o "pop" X.env (eval o X.env)=eval o X.env:=by rfl)
 (hfew:((backTo cpos (K0g [a] X.env)).all (λx=>!x.1)&&(K9l cpos (K6q [] X.env)).all (λx=>x.1.isSome)
 &&decide (([a]:List Expr).length+([]:List K6c).length+(if ([]:List K6c).isEmpty then 0 else 1)<30))=true:=by rfl)
 (hline:(apos.endLine==cpos.line)=true:=by rfl) (hs:K0g [a] X.env=[(false,eval a X.env)]:=by rfl) :
 SE X EX (.Call (.Attribute o "pop" apos) [a] [] cpos) (eM1 z3k mo ma) :=
 ⟨PE.imp (zI0 K5w PySem.F.slot_list_pop PySem.F.type_list_pop zp0 ho.h (z1k ha.h z2E hs) hbase hfew hline hs rfl) (zB7 λρ h H n q y u Q r hq ru fin=>by
  cases y<;>first|exact(show False from fin).elim|skip
  rename_i k;simp only[RD]at ru;subst ru;obtain⟨xs,d,ys,vs,g1,g2,g3,g4,g5⟩:=z94 r hq fin;split at g1
  ·rename_i hk;cases e5:K5v k xs.length with
   | none=>rw[e5]at g1;cases g1
   | some j =>
    rw[e5]at g1;obtain⟨d',e1,e2⟩:=K0y.mp g1;cases e2;obtain⟨v,e3,e4⟩:=g4.get e1;exact⟨q,vs,k,j,v,rfl,rfl,g3,hk.1,hk.2,by rw[<- g4.length];exact e5,e3,g5 _ _ e4 (g4.eraseIdx j)⟩
  ·cases g1)⟩
end
inductive Src where
 | con (xs:List D)
 | lst (n:Nat) (xs:List D)
 | obj (n:Nat) (o:O) (xs:List D)
variable{mi mi1:G->M Src}{src:Src}{F:Src->Nat->G->List D->M Unit}{F1:Src->G->List D->M Unit}
def Src.items:Src->List D
 | .con xs=>xs
 | .lst _ xs=>xs
 | .obj _ _ xs=>xs
def Src.good:Src->AH->Prop
 | .con _,_=>True
 | .lst n xs,h=>h[n]?=.(l xs)
 | .obj n o _,h=>h[n]?=some o
open Classical in
noncomputable def Src.chk (s:Src):M Unit:=λh=>if s.good h then .ok () h else .bad
def JOK (K:K6) (src:Src) (ρ:List Addr) (H:Hp) (J:It):Prop:=∀i ρ1 h1 H1,Pre ρ ρ1->Ext K H H1->RH K ρ1 h1 H1->src.good h1 ->
 (∀d,src.items[i]?=some d->J.go i H1/\∀x H2,J.yld i H1 x H2->RD K ρ1 H2 d x/\RH K ρ1 h1 H2/\Ext K H1 H2)/\(src.items.length=i->J.stop i H1)
def tI (K:K6) (EX:XX) (m:G->M Src):TI:=λσ H R=>∃ρ γ h,Rel K ρ γ h σ H/\Fin K EX ρ H (λsrc ρ' _ H'=>∀J,JOK K src ρ' H' J->R J H') (m γ h)
structure SI (X:Cx) (EX:XX) (tg iter:Expr) (m:G->M Src):Prop where
 h:PI X tg iter (tI X.K EX m)
theorem PI.imp {t t':TI}(h:PI X tg e t) (f:∀σ H R,t' σ H R->t σ H R):PI X tg e t':=λpins s σ H R I z=>h pins s σ H R I (f σ H R z)
section
variable {a o:Expr}
def v8 (ma:G->M D):G->M Src:=λγ=>do
 let x <- ma γ
 match x with
 | .fl xs=>pure (.con xs)
 | .ref n=>do
  let xs <- getL n
  pure (.lst n xs)
 | _=>bad
theorem z0a (ha:SE X EX a ma):SI X EX tg a (v8 ma) :=
 ⟨PI.imp (zE5 ha.h) λσ H R ⟨ρ,γ,h,rel,fin⟩=>⟨ρ,γ,h,rel,(Fin.bind fin).mono λx ρ1 h1 H1 p1 e1 r1 f1 v rv=>by
  cases x<;>first|exact(show False from f1).elim|skip
  case fl xs =>
   simp only[RD]at rv;obtain⟨q,vs,rfl,h2,h3⟩:=rv;refine⟨q,rfl,⟨vs,h2.sq⟩,f1 ρ1 H1 .(b) .(c) r1 _ λi ρ2 h4 H2 p2 e2 r2 _=>⟨λd hd=>?_,λhi=>?_⟩⟩
   ·have h3':=h3.mono p2 e2;obtain⟨x,g1,g2⟩:=h3'.get hd;refine⟨⟨vs,x,(e2.l _ _ h2).sq,g1⟩,λy H3 ⟨z1,z2⟩=>?_⟩;subst z1;have:=z2 vs (e2.l _ _ h2).sq;rw[g1]at this;cases this;exact⟨g2,r2,Ext.refl _ _⟩
   ·exact⟨vs,(e2.l _ _ h2).sq,by rw[<- h3.length];exact K70 hi⟩
  case ref n =>
   have f2:Fin X.K EX ρ1 H1 (λsrc ρ' _ H'=>∀J,JOK X.K src ρ' H' J->R J H') ((getL n >>= λxs=>(pure (.lst n xs):M Src)) h1):=f1;have f3:=Fin.bind f2;cases e3:getL n h1 with
   | bad=>rw[e3]at f3;exact f3.elim
   | err z hz=>exact(z1h e3).elim
   | ok xs h3 =>
    obtain⟨rfl,q1⟩:=z1e e3;rw[e3]at f3;simp only[RD]at rv;obtain⟨q,rfl,hq⟩:=rv;obtain⟨a1,n1,vs,o1,d1⟩:=r1.at q1;rw[hq]at n1;cases n1;have f4:=f3 ρ1 H1 .(b) .(c) r1;refine⟨q,rfl,⟨vs,SqL.of o1⟩,f4 ρ1 H1 .(b) .(c) r1 _ λi ρ2 h4 H2 p2 e2 r2 g=>?_⟩;have g':h4[n]?=.(l xs):=g;obtain⟨a2,n2,vs2,o2,d2⟩:=r2.at g';rw[p2 n q hq]at n2;cases n2;refine⟨λd hd=>?_,λhi=>⟨vs2,SqL.of o2,by rw[<- d2.length];exact K70 hi⟩⟩;obtain⟨x,g1,g2⟩:=d2.get hd;refine⟨⟨vs2,x,SqL.of o2,g1⟩,λy H3 ⟨z1,z2⟩=>?_⟩;subst z1;have:=z2 vs2 (SqL.of o2);rw[g1]at this;cases this;exact⟨g2,r2,Ext.refl _ _⟩⟩⟩
def z0c (ma:G->M D):G->M Src:=λγ=>do
 let x <- ma γ
 match x with
 | .tup xs=>pure (.con xs)
 | _=>bad
theorem z0F (ha:SE X EX a ma):SI X EX tg a (z0c ma) :=
 ⟨PI.imp (zS3 ha.h) λσ H R ⟨ρ,γ,h,rel,fin⟩=>⟨ρ,γ,h,rel,(Fin.bind fin).mono λx ρ1 h1 H1 p1 e1 r1 f1 v rv=>by
  cases x<;>first|exact(show False from f1).elim|skip
  rename_i xs;simp only[RD]at rv;obtain⟨q,vs,rfl,h2,h3⟩:=rv;refine⟨q,rfl,⟨vs,h2⟩,f1 ρ1 H1 .(b) .(c) r1 _ λi ρ2 h4 H2 p2 e2 r2 _=>⟨λd hd=>?_,λhi=>?_⟩⟩
  ·have h3':=h3.mono p2 e2;obtain⟨x,g1,g2⟩:=h3'.get hd;refine⟨⟨vs,x,e2.t _ _ h2,g1⟩,λy H3 ⟨z1,z2⟩=>?_⟩;subst z1;have:=z2 vs (e2.t _ _ h2);rw[g1]at this;cases this;exact⟨g2,r2,Ext.refl _ _⟩
  ·exact⟨vs,e2.t _ _ h2,by rw[<- h3.length];exact K70 hi⟩⟩⟩
def z14 (n:Nat):List D:=(K9 n).map λ(i:Nat)=>.int i
def z0y (ma:G->M D):G->M Src:=λγ=>do
 let x <- ma γ
 match x with
 | .int j=>if -(2 ^ 62)<=j/\j<2 ^ 62 then pure (.con (z14 j.toNat)) else bad
 | _=>bad
theorem z0g (hg:Gl X "range") (hm:X.mg "range" = none) (ha:SE X EX a ma) (hs:K0g [a] X.env=[(false,eval a X.env)]:=by rfl):SI X EX tg (.Call (.Name "range" p) [a] [] pos) (z0y ma) :=
 ⟨PI.imp (ze0 hg hm (z1k ha.h z2E hs) hs) λσ H R ⟨ρ,γ,h,rel,fin⟩=>⟨ρ,γ,h,rel,(Fin.bind fin).mono λx ρ1 h1 H1 p1 e1 r1 f1 v rv=>by
  cases x<;>first|exact(show False from f1).elim|skip
  rename_i j;simp only[RD]at rv;subst rv;have f2:Fin X.K EX ρ1 H1 (λsrc ρ' _ H'=>∀J,JOK X.K src ρ' H' J->R J H') ((if -(2 ^ 62)<=j/\j<2 ^ 62 then pure (.con (z14 j.toNat)) else bad:M Src) h1):=f1;by_cases hj:-(2 ^ 62)<=j/\j<2 ^ 62
  ·rw[if_pos hj]at f2;refine⟨j,rfl,hj.1,hj.2,f2 ρ1 H1 .(b) .(c) r1 _ λi ρ2 h4 H2 p2 e2 r2 _=>⟨λd hd=>?_,λhi=>?_⟩⟩
   ·have hd':(z14 j.toNat)[i]?=some d:=hd;unfold z14 at hd';rw[K0k]at hd';have hi:i<j.toNat:=by
     by_cases hi:i<j.toNat
     ·exact hi
     ·rw[K13 (by simpa using hi)]at hd';cases hd'
    rw[K3b hi]at hd';cases hd';refine⟨hi,λy H3 ⟨z1,z2⟩=>?_⟩;subst z1;subst z2;exact⟨by simp[RD],r2,Ext.refl _ _⟩
   ·have hi':(z14 j.toNat).length=i:=hi;unfold z14 at hi';rw[K03,K2b]at hi';exact K70 hi'
  ·rw[if_neg hj]at f2;exact f2.elim⟩⟩
end
noncomputable def forR (src:Src) (g:D->G->M G) (body:G->M Out):List D->G->M Out
 | [],γ=>do
  let _ <- src.chk
  pure (.nx γ)
 | d::r,γ=>do
  let _ <- src.chk;let γ1 <- g d γ;let o <- body γ1
  match o with
  | .nx γ2=>forR src g body r γ2
  | .ct γ2=>forR src g body r γ2
  | .bk γ2=>pure (.nx γ2)
  | .rt v=>pure (.rt v)
noncomputable def sFor (mi:G->M Src) (g:D->G->M G) (body:G->M Out):G->M Out:=λγ=>do
 let src <- mi γ
 forR src g body src.items γ
theorem z8O {P:α->List Addr->AH->Hp->Prop}{f:Unit->M α}(fin:Fin K EX ρ H P ((src.chk >>= f) h)) (r:RH K ρ h H):src.good h/\Fin K EX ρ H P (f () h):=by
 have f1:=Fin.bind fin;unfold Src.chk at f1;split at f1
 ·rename_i hg;exact⟨hg,f1 ρ H .(b) .(c) r⟩
 ·exact f1.elim
section
variable {a o:Expr}{mb:G->M Out}
theorem z1Q (hp:PassesOwn .(6) X.A X.env X.xe) (hc:X.calm=true) (hi:SI X EX tg e mi) (hg:SG X EX tg g) (hb:SB X EX sts mb) (hs:∀x,K1d e X.env x=pure x:=by intro _;rfl):S1 X EX (.For tg e sts [] pos) (sFor mi g mb) :=
 ⟨PS.imp (zQ6 hp hc hi.h hg.h hb.h hs) λσ H D ⟨ρ,γ,h,rel,fin⟩=>⟨ρ,γ,h,rel,(Fin.bind fin).mono λsrc ρ0 h0 H0 p0 e0 r0 f0 J hJ=>by
  refine⟨λi m σ H=>m+i=src.items.length/\∃ρ γ h,Pre ρ0 ρ/\Ext X.K H0 H/\Rel X.K ρ γ h σ H/\Fin X.K EX ρ H (λo ρ' _ H'=>OutP X.K D o ρ' H') (forR src g mb (src.items.drop i) γ h),
   ⟨src.items.length,rfl,ρ0,γ,h0,Pre.refl _,Ext.refl _ _,⟨rel.g.mono p0 e0,r0⟩,f0⟩,?_⟩
  rintro i m σ1 H1 ⟨hm,ρ1,γ1,h1,p1,e1,rel1,f1⟩;by_cases hi:i<src.items.length
  ·have hd:src.items.drop i=src.items[i]::src.items.drop (i+1):=K56 hi;rw[hd]at f1;unfold forR at f1;obtain⟨good,f2⟩:=z8O f1 rel1.h;obtain⟨j1,j2⟩:=hJ i ρ1 h1 H1 p1 e1 rel1.h good;obtain⟨go,yld⟩:=j1 src.items[i] (K00 hi);refine .inr ⟨go,λσ' H'=>∃ρ γ h,Pre ρ0 ρ/\Ext X.K H0 H'/\Rel X.K ρ γ h σ' H'/\Fin X.K EX ρ H' (λo ρ' _ H'=>OutP X.K D o ρ' H') (forR src g mb (src.items.drop (i+1)) γ h),λσ' H' z=>⟨m - 1,by omega,by omega,z⟩,λx H2 y=>?_⟩;obtain⟨rd,rh,ext⟩:=yld x H2 y;refine⟨ρ1,γ1,h1,_,⟨rel1.g.mono .(b) ext,rh⟩,rd,(Fin.bind (Fin.up .(b) ext f2)).mono λγ2 ρ3 h3 H3 p3 e3 r3 f3 σ3 g3=>⟨ρ3,γ2,h3,⟨g3,r3⟩,(Fin.bind f3).mono λo ρ4 h4 H4 p4 e4 r4 f4=>?_⟩⟩;have pp:Pre ρ0 ρ4:=(p1.trans p3).trans p4;have ee:Ext X.K H0 H4:=((e1.trans ext).trans e3).trans e4;cases o with
   | nx γ5=>exact λσ5 g5=>⟨ρ4,γ5,h4,pp,ee,⟨g5,r4⟩,f4⟩
   | ct γ5=>exact λσ5 g5=>⟨ρ4,γ5,h4,pp,ee,⟨g5,r4⟩,f4⟩
   | bk γ5=>exact λσ5 g5=>f4 ρ4 H4 .(b) .(c) r4 σ5 g5
   | rt d=>exact λv rv=>f4 ρ4 H4 .(b) .(c) r4 v rv
  ·have hd:src.items.drop i=[]:=K8z .(0);rw[hd]at f1;unfold forR at f1;obtain⟨good,f2⟩:=z8O f1 rel1.h;obtain⟨j1,j2⟩:=hJ i ρ1 h1 H1 p1 e1 rel1.h good;exact .inl ⟨j2 .(0),f2 ρ1 H1 .(b) .(c) rel1.h σ1 rel1.g⟩⟩⟩
end
def capG (cap:List (Option Nat)) (γ:G):G:=cap.map λo=>match o with|some j=>(γ[j]?).join|none=>none
theorem zL1 {σ:L2.St}(cap:List (Option Nat)) (r:RG K ρ H γ σ):RG K ρ H (capG cap γ) (z4r cap σ):=by
 refine⟨by simp[capG,z4r],λi d e=>?_⟩;unfold capG at e;unfold z4r;rw[K0k]at e ⊢;cases q:cap[i]? with
 | none=>rw[q]at e;cases e
 | some o =>
  rw[q]at e;cases o with
  | none=>simp at e
  | some j =>
   have e2:(γ[j]?).join=some d:=by simpa using e
   have e3:γ[j]?=some (some d):=by
    cases q2:γ[j]? with
    | none=>rw[q2]at e2;simp at e2
    | some o2=>rw[q2]at e2;simp at e2;rw[e2]
   obtain⟨v,h1,h2⟩:=r.var j d e3;exact⟨v,by simp[h1],h2⟩
noncomputable def z4R (src:Src) (g:D->G->M G) (k:G->M Bool) (me:G->M D) (n0:Nat) (γ:G):List D->M Unit
 | []=>do
  let _ <- src.chk
  pure ()
 | d::r=>do
  let _ <- src.chk;let γ1 <- g d γ;let t <- k γ1
  if t then do
   let v <- me γ1;let _ <- J2 n0 v
   z4R src g k me n0 γ r
  else z4R src g k me n0 γ r
noncomputable def x5 (cap:List (Option Nat)) (mi:G->M Src) (g:D->G->M G) (k:G->M Bool) (me:G->M D):G->M D:=λγ=>do
 let src <- mi γ;let n0 <- (λh=>.ok h.length (h++[.lst []]):M Nat);let _ <- z4R src g k me n0 (capG cap γ) src.items
 pure (.ref n0)
structure SCs (X:Cx) (EX:XX) (ifs:List Expr) (m:G->M Bool):Prop where
 h:PTs X ifs (tT X.K EX m)
theorem PTs.imp {e:List Expr}{t:TT}(h:PTs X e t) (f:∀σ H Q,t' σ H Q->t σ H Q):PTs X e t':=λpins s σ H Q I z=>h pins s σ H Q I (f σ H Q z)
section
variable {elt iter:Expr}{sc:Scope}{k kr:G->M Bool}{me:G->M D}
theorem z0p:SCs X EX [] (λ_=>pure true):=⟨PTs.imp z9Z λσ H Q ⟨ρ,γ,h,rel,fin⟩=>fin ρ H .(b) .(c) rel.h⟩
theorem z11 (h:SC X EX c k):SCs X EX [c] k:=⟨PTs.imp (zp5 h.h z9Z) λσ H Q ⟨ρ,γ,h,rel,fin⟩=>⟨ρ,γ,h,rel,fin.mono λt ρ1 h1 H1 p1 e1 r1 f1=>by
 cases t with
 | true=>exact f1
 | false=>exact f1⟩⟩
def HB (X:Cx) (EX:XX) (own:List Nat) (σ0:L2.St) (ρ0:List Addr) (b:G->M Unit->M Unit) (tb:TB):Prop :=
 ∀{σ:L2.St} {γ1:G} {ρ:List Addr} {h:AH} {H:Hp} {P:Unit->List Addr->AH->Hp->Prop} {K:M Unit} {Z:Hp->Prop},Pre ρ0 ρ->(∀j,j∉own->σ[j]?=σ0[j]?)->RG X.K ρ H γ1 σ->RH X.K ρ h H->Fin X.K EX ρ H P (b γ1 K h) ->
  (∀ρ' h' H',Pre ρ ρ'->Ext X.K H H'->RH X.K ρ' h' H'->Fin X.K EX ρ' H' P (K h')->Z H')->tb σ H Z
theorem zv0 {F:List D->M Unit}{b:G->M Unit->M Unit}{tb:TB}{σ0:L2.St}{H0:Hp}{ρ0:List Addr}{h0:AH}{γ:G}{src:Src}{J:It}{P:Hp->Prop}
 (hnil:F []=(do let _ <- src.chk;pure ())) (hcons:∀d r,F (d::r)=(do let _ <- src.chk;let γ1 <- g d γ;let t <- k γ1;if t then b γ1 (F r) else F r))
 (r0:RH X.K ρ0 h0 H0) (rg:RG X.K ρ0 H0 γ σ0) (hJ:JOK X.K src ρ0 H0 J) (hown:∀j∈own,∀v,σ0[j]?≠some (some v)) (hb:HB X EX own σ0 ρ0 b tb)
 (fin:Fin X.K EX ρ0 H0 (λ_ ρ' h' H'=>RH X.K ρ' h' H'->Ext X.K H0 H'->Pre ρ0 ρ'->P H') (F src.items h0)):runG (tGk X.K EX own g) (tT X.K EX k) tb σ0 J P H0:=by
 refine⟨λi m H=>m+i=src.items.length/\∃ρ h,Pre ρ0 ρ/\Ext X.K H0 H/\RH X.K ρ h H /\
  Fin X.K EX ρ H (λ_ ρ' h' H'=>RH X.K ρ' h' H'->Ext X.K H0 H'->Pre ρ0 ρ'->P H') (F (src.items.drop i) h),
  ⟨src.items.length,rfl,_,_,Pre.refl _,Ext.refl _ _,r0,fin⟩,?_⟩
 rintro i m H1 ⟨hm,ρ1,h1,p1,e1,r1,f1⟩;by_cases hi:i<src.items.length
 ·rw[show src.items.drop i=src.items[i]::src.items.drop (i+1) from K56 hi,hcons]at f1;obtain⟨good,f2⟩:=z8O f1 r1;obtain⟨j1,j2⟩:=hJ i ρ1 h1 H1 p1 e1 r1 good;obtain⟨go,yld⟩:=j1 src.items[i] (K00 hi);refine .inr ⟨go,λx H2 y=>?_⟩;obtain⟨rd,rh,ext⟩:=yld x H2 y;refine⟨ρ1,_,h1,_,⟨rg.mono p1 (e1.trans ext),rh⟩,rd,(Fin.bind (Fin.up .(b) ext f2)).mono λγ2 ρ3 h3 H3 p3 e3 r3 f3 σ3 g3 k3=>⟨λj v hv=>?_,ρ3,γ2,h3,⟨g3,r3⟩,(Fin.bind f3).mono λt ρ4 h4 H4 p4 e4 r4 f4=>?_⟩⟩
  ·rw[k3 j λhj=>hown j hj v hv];exact hv
  ·have pp:Pre ρ0 ρ4:=(p1.trans p3).trans p4;have ee:Ext X.K H0 H4:=((e1.trans ext).trans e3).trans e4;cases t with
   | false =>
    rw[if_neg .(1)]at f4;dsimp only;rw[if_neg .(1)];exact⟨m - 1,by omega,by omega,ρ4,h4,pp,ee,r4,f4⟩
   | true =>
    rw[if_pos rfl]at f4;dsimp only;rw[if_pos rfl];exact hb pp k3 (g3.mono p4 e4) r4 f4 λρ5 h5 H5 p5 e5 r5 f5=>⟨m - 1,by omega,by omega,ρ5,h5,pp.trans p5,ee.trans e5,r5,f5⟩
 ·rw[show src.items.drop i=[] from K8z .(0),hnil]at f1;obtain⟨good,f2⟩:=z8O f1 r1;obtain⟨j1,j2⟩:=hJ i ρ1 h1 H1 p1 e1 r1 good;exact .inl ⟨j2 .(0),f2 ρ1 H1 .(b) .(c) r1 r1 e1 p1⟩
theorem zM7 {σ0:L2.St}{n0:Nat}(hD:ρ0[n0]?=some Dd):HB X EX own σ0 ρ0 (λγ1 K=>do let v <- me γ1;let _ <- J2 n0 v;K) (bApp (tE X.K EX me) Dd):=λ{σ γ1 ρ h H P K Z} p0 _ rg rh fin hz=>by
 refine⟨ρ,γ1,h,⟨rg,rh⟩,(Fin.bind fin).mono λd ρ5 h5 H5 p5 e5 r5 f5 v rv=>?_⟩;have hq:ρ5[n0]?=some Dd:=(p0.trans p5) _ _ hD;have f6:=Fin.bind f5;unfold J2 updL at f6;cases e7:h5[n0]? with
 | none=>rw[e7]at f6;exact f6.elim
 | some ob =>
  cases ob<;>first|(rw[e7]at f6;exact f6.elim)|skip
  rename_i xs;rw[e7]at f6;dsimp only at f6;split at f6
  ·rename_i hl;obtain⟨a1,n1,vs,o1,d1⟩:=r5.at e7;rw[hq]at n1;cases n1;have ext2:Ext X.K H5 (upd H5 Dd (.lst (vs++[v]))):=Ext.upd (.inr ⟨_,o1,trivial⟩);have r6:=r5.set e7 hq (d1.append (RDs.cons rv RDs.nil));rw[K04,K1c]at hl;have hl2:=d1.length;exact⟨vs,o1,by omega,hz ρ5 _ _ p5 (e5.trans ext2) r6 (f6 ρ5 _ .(b) ext2 r6)⟩
  ·exact f6.elim
theorem Z0d {mi1:G->M Src}{g1:D->G->M G}{k1:G->M Bool}{own1:List Nat}{F1:Src->G->List D->M Unit}{b1:G->M Unit->M Unit}{tb1:TB}{σ0:L2.St}{ρ0:List Addr}
 (hnil:∀src γ,F1 src γ []=(do let _ <- src.chk;pure ())) (hcons:∀src γ d r,F1 src γ (d::r)=(do let _ <- src.chk;let γ1 <- g1 d γ;let t <- k1 γ1;if t then b1 γ1 (F1 src γ r) else F1 src γ r))
 (hown1:∀j∈own1,j∉own/\∀v,σ0[j]?≠some (some v)) (hb1:∀{σ1:L2.St} {ρ1:List Addr},Pre ρ0 ρ1->HB X EX own1 σ1 ρ1 b1 tb1) :
 HB X EX own σ0 ρ0 (λγ1 K=>do let s1 <- mi1 γ1;let _ <- F1 s1 γ1 s1.items;K) (bIn (tI X.K EX mi1) (tGk X.K EX own1 g1) (tT X.K EX k1) tb1):=λ{σ γ1 ρ h H P K Z} p0 k0 rg rh fin hz=>by
 refine⟨ρ,γ1,h,⟨rg,rh⟩,(Fin.bind fin).mono λs1 ρ4 h4 H4 p4 e4 r4 f4 J1 hJ1=>?_⟩;refine zv0 (hnil s1 γ1) (hcons s1 γ1) r4 (rg.mono p4 e4) hJ1 (λj hj v hv=>?_) (hb1 (p0.trans p4)) ((Fin.bind f4).mono λ_ ρ5 h5 H5 p5 e5 r5 f5 rr ex pr=>hz ρ5 h5 H5 (p4.trans p5) (e4.trans e5) r5 f5);rw[k0 j (hown1 j hj).1]at hv;exact(hown1 j hj).2 v hv
structure CmA (X:Cx) (EX:XX) (ce:Expr) (sc:Scope) (tg iter:Expr) (ifs:List Expr) (N':List Str) (cap:List (Option Nat)) (own:List Nat) (mi:G->M Src) (g:D->G->M G) (k:G->M Bool) (oo:O) (b:Nat->G->M Unit->M Unit) (F:Src->Nat->G->List D->M Unit):Prop where
 ex:∃(mk:Sem Value) (o0:HO) (bd:Addr->Env->Sem Unit) (p:Pos) (tbd:Addr->L2.TB),CmE ce sc tg iter ifs mk o0 bd p/\(∀(ρ:List Addr) (H:Hp) (Dd:Addr),RO X.K ρ (upd H Dd o0) oo Dd)/\(∀D s H fp xe,PBd .(a) (bd D (X.comp N' sc s H fp xe).env) (tbd D)) /\
  ∀{σ0:L2.St} {ρ0:List Addr} {n0:Nat} {Dd:Addr},(∀(j:Nat),cap[j]?=some none->∀v,σ0[j]?≠some (some v))->ρ0[n0]?=some Dd->HB X EX own σ0 ρ0 (b n0) (tbd Dd)
 nil:∀src n0 γ,F src n0 γ []=(do let _ <- src.chk;pure ())
 cons:∀src n0 γ d r,F src n0 γ (d::r)=(do let _ <- src.chk;let γ1 <- g d γ;let t <- k γ1;if t then b n0 γ1 (F src n0 γ r) else F src n0 γ r)
noncomputable def eCm (cap:List (Option Nat)) (mi:G->M Src) (oo:O) (F:Src->Nat->G->List D->M Unit):G->M D:=λγ=>do
 let src <- mi γ;let n0 <- (λh=>.ok h.length (h++[oo]):M Nat);let _ <- F src n0 (capG cap γ) src.items
 pure (.ref n0)
theorem zu7 {ce:Expr}{oo:O}{b:Nat->G->M Unit->M Unit}{F:Src->Nat->G->List D->M Unit}{o0:HO}{tbd:Addr->TB}{σ:L2.St}{γ:G}{src:Src}{ρ0:List Addr}{h0:AH}{H0:Hp}{J:It}{Dd:Addr}{Q:Hp->Prop}
 (A:CmA X EX ce sc tg iter ifs N' cap own mi g k oo b F) (ho:∀(ρ:List Addr) (H:Hp) (Dd:Addr),RO X.K ρ (upd H Dd o0) oo Dd) (hb:∀{σ0:L2.St} {ρ0:List Addr} {n0:Nat} {Dd:Addr},(∀(j:Nat),cap[j]?=some none->∀v,σ0[j]?≠some (some v))->ρ0[n0]?=some Dd->HB X EX own σ0 ρ0 (b n0) (tbd Dd))
 (hown:∀j∈own,cap[j]?=some none) (r0:RH X.K ρ0 h0 H0) (rg:RG X.K ρ0 H0 γ σ) (hJ:JOK X.K src ρ0 H0 J) (hD:H0 Dd=none) {R:D->List Addr->AH->Hp->Prop}
 (fin:Fin X.K EX ρ0 H0 R ((do let n0 <- (λh=>.ok h.length (h++[oo]):M Nat);let _ <- F src n0 (capG cap γ) src.items;pure (.ref n0):M D) h0))
 (z:∀ρ' h' H',Pre ρ0 ρ'->Ext X.K H0 H'->RH X.K ρ' h' H'->R (.ref h0.length) ρ' h' H'->RD X.K ρ' H' (.ref h0.length) (.ref Dd)->Q H') :
 runG (tGk X.K EX own g) (tT X.K EX k) (tbd Dd) (z4r cap σ) J Q (upd H0 Dd o0):=by
 have rP:RH X.K (ρ0++[Dd]) (h0++[oo]) (upd H0 Dd o0):=r0.pushO hD (ho _ _ _);have eP:Ext X.K H0 (upd H0 Dd o0):=Ext.upd (.inl hD);have f2:=(Fin.bind fin) (ρ0++[Dd]) _ (Pre.app _ _) eP rP;have at0:(ρ0++[Dd])[h0.length]?=some Dd:=by rw[<- r0.len];simp
 have non:∀(j:Nat),cap[j]?=some none->∀v,(z4r cap σ)[j]?≠some (some v):=λj e v hv=>by
  unfold z4r at hv;rw[K0k,e]at hv;simp at hv
 refine zv0 (A.nil src h0.length (capG cap γ)) (A.cons src h0.length (capG cap γ)) rP ((zL1 cap rg).mono (Pre.app _ _) eP) (λi ρ1 h1 H1 p e r good=>hJ i ρ1 h1 H1 ((Pre.app _ _).trans p) (eP.trans e) r good) (λj hj=>non j (hown j hj)) (hb non at0) ((Fin.bind f2).mono λ_ ρ5 h5 H5 p5 e5 r5 f5 rr ee pp=>?_);refine z ρ5 h5 H5 ((Pre.app _ _).trans pp) (eP.trans ee) rr (f5 ρ5 H5 .(b) .(c) rr) ?_;simp only[RD];exact⟨Dd,rfl,pp _ _ at0⟩
theorem zN8 (A:CmA X EX ce sc tg iter ifs N' cap own mi g k oo b F) (hc:X.calm=true) (S:CS X sc N' cap) (hi:SI X EX tg iter mi) (hg:∀s H fp xe,SGk .(a) EX tg own g) (ht:∀s H fp xe,SCs .(a) EX ifs k)
 (hown:∀j∈own,cap[j]?=some none) (hs:∀x,K1d iter X.env x=pure x):SE X EX ce (eCm cap mi oo F):=by
 obtain⟨mk,o0,bd,p,tbd,C,ho,hbd,hb⟩:=A.ex;exact⟨PE.imp (Z0n (g:=tGk X.K EX own g) (ti:=tT X.K EX k) C hc S hi.h (λs H fp xe=>(hg s H fp xe).h) (λs H fp xe=>(ht s H fp xe).h) hbd hs) λσ H Q ⟨ρ,γ,h,rel,fin⟩=>⟨ρ,γ,h,rel,(Fin.bind fin).mono λsrc ρ0 h0 H0 p0 e0 r0 f0 J hJ Dd hD =>
  zu7 A ho hb hown r0 (rel.g.mono p0 e0) hJ hD f0 λρ' h' H' p' e' r' q rd=>q _ rd⟩⟩
theorem s_cm (i:Nat){y:Str}{py spos:Pos}(A:CmA X EX ce sc tg iter ifs N' cap own mi g k oo b F) (hc:X.calm=true) (S:CS X sc N' cap) (hi:SI X EX tg iter mi) (hg:∀s H fp xe,SGk .(a) EX tg own g) (ht:∀s H fp xe,SCs .(a) EX ifs k)
 (hown:∀j∈own,cap[j]?=some none) (hN:X.N.Nodup) (hy:X.N[i]?=some y) (hl:X.env.scope.names.lookup y=some .local) (hsw:K2d ce (some (.Name y py)) spos.line X.env=pure true) (hs:∀x,K1d iter X.env x=pure x) :
 S1 X EX (.Assign [.Name y py] ce spos) (sAsg (eCm cap mi oo F) (gN i)):=by
 obtain⟨mk,o0,bd,p,tbd,C,ho,hbd,hb⟩:=A.ex;exact⟨PS.imp (Z0R (g:=tGk X.K EX own g) (ti:=tT X.K EX k) C hc S hi.h (λs H fp xe=>(hg s H fp xe).h) (λs H fp xe=>(ht s H fp xe).h) hbd hN hy hl hsw hs) λσ H D ⟨ρ,γ,h,rel,fin⟩=>⟨ρ,γ,h,rel,(Fin.bind (Fin.bind fin)).mono λsrc ρ0 h0 H0 p0 e0 r0 f0 J hJ Dd hD =>
  zu7 A ho hb hown r0 (rel.g.mono p0 e0) hJ hD f0 λρ' h' H' p' e' r' q rd=>(q ρ' H' .(b) .(c) r') _ (((rel.g.mono p0 e0).mono p' e').set i rd)⟩⟩
theorem z8o (he:∀s H fp xe,SE .(a) EX elt me):CmA X EX (.ListComp elt [⟨tg,iter,ifs,0⟩] sc pos) sc tg iter ifs N' cap own mi g k (.lst []) (λn0 γ1 K=>do let v <- me γ1;let _ <- J2 n0 v;K) (λsrc n0 γ=>z4R src g k me n0 γ) :=
 ⟨⟨_,_,_,_,bApp (tE X.K EX me),zD6,λρ H Dd=>⟨[],J8,RDs.nil⟩,λD s H fp xe=>zK1 (he s H fp xe).h,λ_ hD=>zM7 hD⟩,λ_ _ _=>rfl,λ_ _ _ _ _=>rfl⟩
theorem z02 (hc:X.calm=true) (S:CS X sc N' cap) (hi:SI X EX tg iter mi) (hg:∀s H fp xe,SGk .(a) EX tg own g) (ht:∀s H fp xe,SCs .(a) EX ifs k)
 (he:∀s H fp xe,SE .(a) EX elt me) (hown:∀j∈own,cap[j]?=some none:=by decide) (hs:∀x,K1d iter X.env x=pure x:=by intro _;rfl):SE X EX (.ListComp elt [⟨tg,iter,ifs,0⟩] sc pos) (x5 cap mi g k me) :=
 zN8 (z8o he) hc S hi hg ht hown hs
noncomputable def z2d (i:Nat) (cap:List (Option Nat)) (mi:G->M Src) (g:D->G->M G) (k:G->M Bool) (me:G->M D):G->M Out:=sAsg (x5 cap mi g k me) (gN i)
theorem z4B (i:Nat){y:Str}{py spos:Pos}(hc:X.calm=true) (S:CS X sc N' cap) (hi:SI X EX tg iter mi) (hg:∀s H fp xe,SGk .(a) EX tg own g) (ht:∀s H fp xe,SCs .(a) EX ifs k)
 (he:∀s H fp xe,SE .(a) EX elt me) (hN:X.N.Nodup) (hy:X.N[i]?=some y:=by rfl) (hl:X.env.scope.names.lookup y=some .local:=by rfl) (hown:∀j∈own,cap[j]?=some none:=by decide)
 (hsw:K2d (.ListComp elt [⟨tg,iter,ifs,0⟩] sc pos) (some (.Name y py)) spos.line X.env=pure true:=by rfl) (hs:∀x,K1d iter X.env x=pure x:=by intro _;rfl) :
 S1 X EX (.Assign [.Name y py] (.ListComp elt [⟨tg,iter,ifs,0⟩] sc pos) spos) (z2d i cap mi g k me) :=
 s_cm i (z8o he) hc S hi hg ht hown hN hy hl hsw hs
end
def csOk (osc:Scope) (N:List Str) (sc:Scope) (N':List Str) (cap:List (Option Nat)):Bool :=
 (sc.kind==.function)&&sc.names.all (λy=>y.2 != .cell)&&sc.names.all (λx=>x.2 != .local||sc.names.lookup x.1==some .local) &&
 sc.names.all (λx=>x.2 != .free||(osc.names.lookup x.1==some .cell||osc.names.lookup x.1==some .free))&&(cap.length==N'.length) &&
 (K9 cap.length).all λi=>match cap[i]? with
  | some (some j)=>(match N'[i]?,N[j]? with
   | some x,some y=>x==y&&sc.names.lookup x==some .free
   | _,_=>false)
  | _=>true
theorem z0N {sc:Scope}(h:csOk X.env.scope X.N sc N' cap=true):CS X sc N' cap:=by
 unfold csOk at h;simp only[K0c]at h;obtain⟨⟨⟨⟨⟨h1,h2⟩,h3⟩,h4⟩,h5⟩,h6⟩:=h;refine⟨by simpa using h1,λy hy=>?_,λx hx hl=>?_,λx hx hf=>?_,by simpa using h5,λi j e=>?_⟩
 ·have:=K1m.mp h2 y hy;simpa using this
 ·have:=K1m.mp h3 x hx;simpa [hl] using this
 ·have:=K1m.mp h4 x hx;have:(X.env.scope.names.lookup x.1==some .cell||X.env.scope.names.lookup x.1==some .free)=true:=by simpa [hf] using this
  rw[K2f]at this;rcases this with z|z
  ·exact .inl (show X.env.scope.names.lookup x.1=_ by simpa using z)
  ·exact .inr (show X.env.scope.names.lookup x.1=_ by simpa using z)
 ·have hi:i<cap.length:=(K3.mp e).1;have:=K1m.mp h6 i (K0r.mpr hi);rw[e]at this;dsimp only at this;cases e1:N'[i]? with
  | none=>rw[e1]at this;cases this
  | some x =>
   cases e2:X.N[j]? with
   | none=>rw[e1,e2]at this;cases this
   | some y =>
    rw[e1,e2]at this;simp only[K0c]at this;have exy:x=y:=by simpa using this.1
    subst exy;exact⟨x,rfl,rfl,by simpa using this.2⟩
def DefAt (K:K6) (x:Str) (st:Stmt):Prop:=∃f fd,K6x K K2i x=some (.(r f))/\Fun K x x st f fd
theorem defAt_mk {st:Stmt}{f:Addr}{oc:Value}{od an:Option Addr}{sl:Array (Option Value)}{kV dc pm cd ct:Value}(a:K6x K K2i x=some (.(r f)))
 (l:K.lookup f=some ⟨oc,od,.func (K3v x x (z35 st) (z0X st) (y6 st) .none kV dc pm an cd ct),sl⟩) (c:K4c K cd x=true) (k:K65 K (.ref f)=true):DefAt K x st :=
 ⟨f,_,a,zW4 l c k⟩
structure Cst (K:K6) (mg:Str->Option Value) (x:Str) (d:D):Prop where
 ex:∃v u,mg x=some u/\RelV v u/\∀ρ H,RD K ρ H d v
theorem cst_int {i:Int}{t:Tok}(h:mg x=some (.int i t)):Cst K mg x (.int i):=⟨.int i,_,h,⟨t,rfl⟩,λ_ _=>by simp[RD]⟩
def relF:D->Value->Bool
 | .non,.none=>true
 | .bl a,.bool b=>a==b
 | .int a,.int b _=>a==b
 | .str a,.str b _=>a==b
 | _,_=>false
def zn1:List D->List Value->Bool
 | [],[]=>true
 | d::ds,u::us=>relF d u&&zn1 ds us
 | _,_=>false
def toV:D->V
 | .non=>.non
 | .bl b=>.bl b
 | .int i=>.int i
 | .str x=>.str x
 | _=>.non
theorem zI3 (h:relF d u=true):RelV (toV d) u/\RD K ρ H d (toV d):=by
 cases d<;>cases u<;>first
  | (have h':false=true:=h;cases h')
  | skip
 case non.none=>exact⟨rfl,by simp[RD,toV]⟩
 case bl.bool a b =>
  have:a=b:=by simpa [relF] using h
  subst this;exact⟨rfl,by simp[RD,toV]⟩
 case int.int a b t =>
  have:a=b:=by simpa [relF] using h
  subst this;exact⟨⟨t,rfl⟩,by simp[RD,toV]⟩
 case str.str a b t =>
  have:a=b:=by simpa [relF] using h
  subst this;exact⟨⟨t,rfl⟩,by simp[RD,toV]⟩
theorem z8F {K:K6}{ρ:List Addr}{H:Hp}:∀{ds:List D}{us:List Value},zn1 ds us=true->Vals (ds.map toV) us/\RDs K ρ H ds (ds.map toV)
 | [],[],_=>⟨.nil,RDs.nil⟩
 | [],_::_,h=>by cases h
 | _::_,[],h=>by cases h
 | d::ds,u::us,h=>by
  have h':(relF d u&&zn1 ds us)=true:=h;rw[K0c]at h';obtain⟨a1,a2⟩:=zI3 (K:=K) (ρ:=ρ) (H:=H) h'.1;obtain⟨b1,b2⟩:=z8F (K:=K) (ρ:=ρ) (H:=H) h'.2;exact⟨.cons a1 b1,RDs.cons a2 b2⟩
theorem cst_tup {ds:List D}(h:mg x=.(r a)) (hk:K.lookup a=some ⟨.type "tuple",none,.seq its n,sl⟩)
 (hr:zn1 ds its.toList=true) (hz:its.size<=sizeLine):Cst K mg x (.tup ds):=by
 refine⟨.ref a,_,h,rfl,λρ H=>?_⟩;obtain⟨h1,h2⟩:=z8F (K:=K) (ρ:=ρ) (H:=H) hr;simp only[RD];exact⟨a,_,rfl,.inr ⟨_,its,n,hk,⟨rfl,rfl⟩,rfl,hz,h1⟩,h2⟩
theorem zx9 (C:Cst X.K X.mg x d) (hg:Gl X x) (hd:(x==("__debug__":Str))=false:=by decide):SE X EX (.Name x pos) (λ_=>pure d):=by
 obtain⟨v,u,h1,h2,h3⟩:=C.ex;exact zL8 hg h1 h2 h3 hd
section
variable {prog:K1h}
theorem zD9 {t:Addr}{items:Array Value}{x:Value}{Q:Value->Shared->Prop}(hit:s.heap.IsTupleIter it t i) (ht:s.heap.IsTuple t items) (hx:items[i]?=some x)
 (hQ:∀h',h'.IsTupleIter it t (i+1)->K3d it s.heap h'->Q x { s with heap:=h' }):wpAny (model prog w) A (K3u (.ref it)) Q E s:=by
 obtain⟨oi,e1,c1,d1⟩:=id hit;obtain⟨ot,e2,_,nt,d2⟩:=ht;unfold K3u;refine K0 (K27 (name:=K3e "__next__") hit.typeIs K2o
  (K1y K2o hit.typeIs K62 ?_ (K5t _)))
 show wpAny _ _ (field (.ref it) 0 >>= _) _ _ s;refine K0 (K42 e1 d1 (x:=.ref t) rfl ?_);show wpAny _ _ (if (K25 t==K2x)=true then _ else _) _ _ s;have nn:¬ (K25 t==K2x)=true:=K11;rw[if_neg nn];show wpAny _ _ (field (.ref it) 1 >>= _) _ _ s;refine K0 (K42 e1 d1 (x:=.int i 0) rfl ?_);show wpAny _ _ (Z2n (.ref t) >>= _) _ _ s;refine K0 (K7a e2 d2 ?_);simp only[K0f,hx];refine K0 (K32 e1 d1 .(f) (K8 ⟨x,rfl,K8 (hQ _ ?_ (K1p ..))⟩));exact⟨_,K3s _ e1 (K6j (K5r d1 _)),(Obj.cls_mapFields ..).trans c1,by
  rw[K5r d1];simp[rawInt]⟩
theorem zY3 {t:Addr}{items:Array Value}{Q:Value->Shared->Prop}(hh:A.handled=none) (hit:s.heap.IsTupleIter it t i) (ht:s.heap.IsTuple t items) (hx:items[i]?=none)
 (hE:∀h' e,Z2w it s.heap h'->(∃o,h'.get? e=some o/\o.cls=.type "StopIteration")->E (.ref e) { s with heap:=h' }):wpAny (model prog w) A (K3u (.ref it)) Q E s:=by
 obtain⟨oi,e1,c1,d1⟩:=id hit;obtain⟨ot,e2,_,nt,d2⟩:=ht;unfold K3u;refine K0 (K27 (name:=K3e "__next__") hit.typeIs K2o
  (K1y K2o hit.typeIs K62 ?_ (K5t _)))
 show wpAny _ _ (field (.ref it) 0 >>= _) _ _ s;refine K0 (K42 e1 d1 (x:=.ref t) rfl ?_);show wpAny _ _ (if (K25 t==K2x)=true then _ else _) _ _ s;have nn:¬ (K25 t==K2x)=true:=K11;rw[if_neg nn];show wpAny _ _ (field (.ref it) 1 >>= _) _ _ s;refine K0 (K42 e1 d1 (x:=.int i 0) rfl ?_);show wpAny _ _ (Z2n (.ref t) >>= _) _ _ s;refine K0 (K7a e2 d2 ?_);simp only[K0f,hx];refine K0 (K6o (K0 (K32 e1 d1 .(f) ?_)));show wpAny _ _ (newExc (.type "StopIteration") [] >>= _) _ _ _;refine K0 ?_;simp only[newExc,newTuple];refine K0 (K14 ?_ (by size_fits));refine K0 (m:=K7c _ _) (K9m (a:=K2x) (by first|rfl|(simp only[K7c];rfl)) ?_);refine K14 ?_ (by size_fits);simp only[raiseNew];refine K0 (wpAny_handled ?_)
 first|rw[show A.in1.handled=none from hh]|rw[hh]
 refine K0 (K8 (wpAny_throw ?_));exact hE _ _ (((K1p ..).extBut.push _).push _) ⟨_,K0a _ rfl,rfl⟩
end
theorem zX8 {σ:L2.St}{ch:List Addr}{T:Addr}{vs:List V}{its:List Value}{h2:Heap}{t:Nat}(I:L2.Inv X pins σ H s)
 (hf:∀b∈ch,FpOk X pins H b) (kp:∀b o,b∉ch->s.heap.get? b=some o->h2.get? b=some o) (hT:.(5)<=T) (tup:IsTup0 h2 T its.toArray) (rv:Vals vs its) (hz:vs.length<=sizeLine) :
 L2.Inv X pins σ (upd H T (.tup vs)) { s with heap:=h2,toks:=t }:=by
 have hn:H T=none:=I.hok.fresh hT;have ne:∀{b:Addr} {o:Obj},s.heap.get? b=some o->b≠T:=λe=>K0o (K0l (K0e e) hT);refine I.step (g':=s.gens) (d':=s.drawn) (ch:=ch) (λb hb=>⟨(hf b hb).2.2.2.1,(hf b hb).2.1,(hf b hb).2.2.2.2.1,(hf b hb).2.2.2.2.2⟩) (λb o _ _ hc e _=>kp b o hc e) (λb o _ _ hc e _=>⟨o.slots,kp b o hc e⟩)
  (λb o _ e n=>by rw[Y2 (ne e)];exact n) (λb o hc e=>⟨o,kp b o hc e⟩) (λb xs e=>by rw[Y2 (Y8 e hn)];exact e) (λb o u e=>by rw[Y2 (Y8 e hn)];exact e)
  (λb ps e=>⟨#[],by rw[Y2 (Y8 e hn),e];simp⟩) (λm hm=>?_) (λb u e=>?_) I.bare
 ·obtain⟨o,es,ep,q,r⟩:=hm;exact⟨o,es,ep,kp _ o (λz=>(hf _ z).2.1 rfl) q,r⟩
 ·by_cases hb:b=T
  ·subst hb;rw[J8]at e;cases e;exact⟨hz,its,rv,tup⟩
  ·rw[Y2 hb]at e;refine(I.hok b u e).stay (λc v hc q=>kp c v (λz=>?_) q) (λc q=>?_) λc xs q=>?_
   ·rcases hc with y|y
    ·rw[y]at z;rw[(hf b z).1]at e;cases e
    ·rw[(hf c z).1]at y;cases y
   ·rw[Y2 (Y8 q hn)];exact q
   ·rw[Y2 (Y8 q hn)];exact q
def Its (x:Str):It:=⟨λi _=>i<x.cps.size,λi H v H'=>H'=H/\∃c,x.cps[i]?=some c/\v=.str ⟨#[c]⟩,λi _=>x.cps.size=i⟩
theorem z8Q {P:K1h}{w:World}{K:K6}{tg:Expr}{it:Addr}{x:Str}{t:Tok}{T:String}
 (W:∀A:Around,A.handled=none->Walks P w A it [it] [it] x.cps.size (SignAt x) (λi h=>h.IsStrIter it T x t i))
 (hself:∀(A:Around) (i:Nat) (s:Shared) (Q:Value->Shared->Prop) (E:Value->Shared->Prop),s.heap.IsStrIter it T x t i->Q (.ref it) s->wpAny (model P w) A (pyIter (.ref it)) Q E s):Turn P w K tg (Its x) [it] it (λi h=>h.IsStrIter it T x t i) where
 mem:=by simp
 obj:=λi h st b hb=>by
  have e:b=it:=by simpa using hb
  subst e;obtain⟨o,e1,c1,d1⟩:=st;exact⟨o,e1,λv z=>by rw[d1]at z;cases z⟩
 keep:=λi h h' st k=>let ⟨o,e1,r⟩:=st;⟨o,k it .(f) o e1,r⟩
 item:=by
  intro X hP hw hK hc i pins s σ H E I hf st hg;subst hP hw hK;obtain⟨f0,f1,f2,f3,f4,f5⟩:=hf it .(f);refine(W X.A (I.ok.hd hc)).item i s _ _ hg st λv h' tk hv st' kp=>?_;obtain⟨c,u,q1,rfl⟩:=hv;have I1:L2.Inv X pins σ H { s with heap:=h',toks:=tk }:=I.turned (λb o hb e=>kp b o (by simpa using hb) e) f0 f1 f3 f4 f5;refine⟨_,rfl,?_⟩;have go:K4n tg (.ref it) (K9s ⟨#[c]⟩ u)=pure ():=by cases tg<;>rfl
  rw[go];exact K8 ⟨.str ⟨#[c]⟩,H,I1,⟨_,rfl⟩,⟨rfl,c,q1,rfl⟩,st',λb hb=>(hf b hb).1⟩
 done:=by
  intro X hP hw hK hc i pins s σ H E I hf st hg;subst hP hw hK;obtain⟨f0,f1,f2,f3,f4,f5⟩:=hf it .(f);have hg':x.cps.size=i:=hg;subst hg';exact(W X.A (I.ok.hd hc)).done s _ _ st λh' tk kp=>⟨rfl,I.turned (λb o hb e=>kp b o (by simpa using hb) e) f0 f1 f3 f4 f5⟩
 self:=hself
section
variable {a b:Expr}
def Z11 (ta:TE):TI:=λσ H R=>ta σ H λv H1=>∃x,v=.str x/\R (Its x) H1
theorem zX7 {ta:TE}(ha:PE X a ta):PI X tg a (Z11 ta):=by
 intro pins s σ H R I h;refine thn (ha pins s σ H _ I h) λv s1 ⟨y,H1,I1,r1,q1⟩=>?_;obtain⟨x,rfl,q⟩:=q1;obtain⟨t,rfl⟩:=r1;have fo:∀b∈[.(j)],FpOk X pins H1 b:=λb hb=>by
  have e:b=s1.heap.objs.size:=by simpa using hb
  subst e;exact I1.fpOk (K01 _) (I1.hok.fresh (K01 _))
 cases ha':x.cps.all (·<128)
 ·refine wpAny_pyIter_wide ha' ?_;exact⟨.(j),[.(j)],_,_,H1,rfl,I1.kept (t':=s1.toks) λb o e=>K7 _ e,z8Q (λA hA=>Walks.strWide hA _ x t) (λA i s Q E st h=>wpAny_pyIter_striter_wide st h),⟨_,K0a _ rfl,rfl,rfl⟩,fo,q⟩
 ·refine wpAny_pyIter_ascii ha' ?_;exact⟨.(j),[.(j)],_,_,H1,rfl,I1.kept (t':=s1.toks) λb o e=>K7 _ e,z8Q (λA hA=>Walks.strAscii hA _ x t) (λA i s Q E st h=>wpAny_pyIter_striter_ascii st h),⟨_,K0a _ rfl,rfl,rfl⟩,fo,q⟩
def z0Z (x:Str):List D:=x.cps.toList.map λc=>.str ⟨#[c]⟩
def iStr (ma:G->M D):G->M Src:=λγ=>do
 let x <- ma γ
 match x with
 | .str z=>pure (.con (z0Z z))
 | _=>bad
theorem zw9 (hc:X.calm=true) (ha:SE X EX a ma):SI X EX tg a (iStr ma) :=
 ⟨PI.imp (zX7 ha.h) λσ H R ⟨ρ,γ,h,rel,fin⟩=>⟨ρ,γ,h,rel,(Fin.bind fin).mono λx ρ1 h1 H1 p1 e1 r1 f1 v rv=>by
  cases x<;>first|exact(show False from f1).elim|skip
  rename_i z;simp only[RD]at rv;subst rv;refine⟨z,rfl,f1 ρ1 H1 .(b) .(c) r1 _ λi ρ2 h4 H2 p2 e2 r2 _=>⟨λd hd=>?_,λhi=>?_⟩⟩
  ·have hd':(z0Z z)[i]?=some d:=hd;unfold z0Z at hd';rw[K0k]at hd';cases e:z.cps.toList[i]? with
   | none=>rw[e]at hd';cases hd'
   | some c =>
    rw[e]at hd';cases hd';have e':z.cps[i]?=some c:=by simpa using e
    refine⟨?_,λy H3 ⟨z1,c',z2,z3⟩=>?_⟩
    ·have:=(K3.mp e).1;exact(show i<z.cps.size by simpa using this)
    ·subst z1;rw[e']at z2;cases z2;subst z3;exact⟨by simp[RD],r2,Ext.refl _ _⟩
  ·have hi':(z0Z z).length=i:=hi;unfold z0Z at hi';rw[K03]at hi';exact(show z.cps.size=i by simpa using hi')⟩⟩
theorem z9X {A:Around}{E:Value->Shared->Prop}{t sl:Addr}{items:Array Value}{vl vu:Value}{Q:Value->Shared->Prop}(ht:IsTup s.heap t items) (hs:s.heap.IsSliceOf sl vl vu .none) (pl:IsPart vl lo) (pu:IsPart vu hi)
 (hw:HT.sIx .(v) 0 lo=0/\HT.sIx .(v) .(v) hi=.(v)) (h:Q (.ref t) s):wpAny .(6) A (K5l (.ref t) (.ref sl)) Q E s:=by
 obtain⟨os,hos,hcs,hds⟩:=id hs;have hTs:s.TypeIs (.ref sl) "slice":=⟨os,hos,hcs⟩;unfold K5l
 try with_reducible refine K22 ?_
 first|refine K0 (K8 ?_)|skip
 refine K0 (K83 ht.typeIs .(1) ?_);refine K0 (K27 (name:=K3e "__getitem__") ht.typeIs K18
  (K1y K18 ht.typeIs K6w ?_ (K7f _ _)))
 show wpAny _ _ (K4y (.ref t) >>= _) _ _ s;refine K0 (Z1h ht ?_);refine K0 (K54 hTs ?_);rw[if_pos .(1)];refine K0 (HT.sliceApplied_gen hs pl pu ?_);have yes:((((HT.sIx .(v) 0 lo:Nat):Int)==0&&(1:Int)==1&&(HT.sIx .(v) .(v) hi - HT.sIx .(v) 0 lo)==.(v))=true):=by
  rw[hw.1,hw.2];simp
 show wpAny _ _ (if (((HT.sIx .(v) 0 lo:Nat):Int)==0&&(1:Int)==1&&(HT.sIx .(v) .(v) hi - HT.sIx .(v) 0 lo)==.(v))=true then _ else _) _ _ s;rw[if_pos yes];refine K0 (m:=K78 (.ref t)) ?_;unfold K78;refine K0 (K54 ht.typeIs (K8 ?_));rw[if_pos .(1)];exact K0 (K6o (K8 ⟨_,rfl,K8 h⟩))
def rSlW (K:K6):V->Option Int->Option Int->Hp->VK->Prop:=λx lo hi H Q=>∃a xs,x=.ref a/\SqT K H a xs/\(HT.sIx xs.length 0 lo=0/\HT.sIx xs.length xs.length hi=xs.length)/\Q (.ref a) H
theorem zn4:SlR X (rSlW X.K):=by
 intro pins s σ H x v vl vu lo hi sl Q I rx hs pl pu h;obtain⟨a,xs,rfl,hx,hw,q⟩:=h;cases rx;obtain⟨its,r,ht,hz⟩:=I.tuple hx;have hlen:its.toArray.size=xs.length:=by rw[K05];exact r.length.symm
 exact⟨"tuple",_,K18.lookup,ht.typeIs,z9X ht hs pl pu (by rw[hlen];exact hw) ⟨.ref a,H,I,rfl,q⟩⟩
def cutD (xs:List D) (lo hi:Option Int):List D:=(xs.drop (HT.sIx xs.length 0 lo)).take (HT.sIx xs.length xs.length hi - HT.sIx xs.length 0 lo)
theorem z7A (h:RDs K ρ H ds xs) (lo hi:Option Int):RDs K ρ H (cutD ds lo hi) (cutV xs lo hi):=by
 unfold cutD cutV;rw[h.length];exact(h.drop _).take _
def fSl:D->Option Int->Option Int->M D
 | .tup xs,lo,hi=>pure (.tup (cutD xs lo hi))
 | .fl xs,lo,hi=>newL (cutD xs lo hi)
 | .ref n,lo,hi=>do
  let xs <- getL n
  newL (cutD xs lo hi)
 | _,_,_=>bad
def tO (K:K6) (EX:XX) (m:G->M (Option Int)):TO:=λσ H Q=>∃ρ γ h,Rel K ρ γ h σ H/\Fin K EX ρ H (λo _ _ H'=>Q o H') (m γ h)
structure SO (X:Cx) (EX:XX) (e:Option Expr) (m:G->M (Option Int)):Prop where
 h:PO X e (tO X.K EX m)
theorem PO.imp {e:Option Expr}{t t':TO}(h:PO X e t) (f:∀σ H Q,t' σ H Q->t σ H Q):PO X e t':=λpins s σ H Q I z=>h pins s σ H Q I (f σ H Q z)
def z1c:G->M (Option Int):=λ_=>pure none
def z12 (ma:G->M D):G->M (Option Int):=λγ=>do
 let x <- ma γ
 match x with
 | .int i=>pure (some i)
 | _=>bad
theorem z0V:SO X EX none z1c:=⟨PO.imp zz7 λσ H Q ⟨ρ,γ,h,rel,fin⟩=>fin ρ H .(b) .(c) rel.h⟩
theorem z0P (ha:SE X EX a ma):SO X EX (some a) (z12 ma):=⟨PO.imp (zJ6 ha.h) λσ H Q ⟨ρ,γ,h,rel,fin⟩=>⟨ρ,γ,h,rel,(Fin.bind fin).mono λx ρ1 h1 H1 p1 e1 r1 f1 v rv=>by
 cases x<;>first|exact(show False from f1).elim|skip
 rename_i i;simp only[RD]at rv;exact⟨i,rv,f1 ρ1 H1 .(b) .(c) r1⟩⟩⟩
def z01 (ma:G->M D) (ml mh:G->M (Option Int)):G->M D:=λγ=>do
 let x <- ma γ;let lo <- ml γ;let hi <- mh γ
 fSl x lo hi
theorem zO4 {x:D}{Q:VK}(r:RH X.K ρ h H) (rx:RD X.K ρ H x v) (fin:FE X.K EX ρ H Q (fSl x lo hi h)):rSlL X.K v lo hi H Q\/rSlT X.K v lo hi H Q\/rSlW X.K v lo hi H Q:=by
 cases x<;>first|exact(show False from fin).elim|skip
 case tup xs =>
  have rx':=rx;simp only[RD]at rx;obtain⟨q,vs,rfl,h1,h2⟩:=rx;have fin':FE X.K EX ρ H Q (.ok (.tup (cutD xs lo hi)) h):=fin;by_cases hw:HT.sIx vs.length 0 lo=0/\HT.sIx vs.length vs.length hi=vs.length
  ·refine .inr (.inr ⟨q,vs,rfl,h1,hw,FE.here fin' r ?_⟩);have e:cutD xs lo hi=xs:=by
    unfold cutD;rw[h2.length,hw.1,hw.2,List.drop_zero,Nat.sub_zero,<- h2.length,K1w]
   rw[e];exact rx'
  ·exact .inr (.inl ⟨q,vs,rfl,h1,hw,λp hp=>FE.tup fin' r (z7A h2 lo hi) hp⟩)
 case fl xs =>
  simp only[RD]at rx;obtain⟨q,vs,rfl,h1,h2⟩:=rx;have fin':FE X.K EX ρ H Q (newL (cutD xs lo hi) h):=fin;unfold newL at fin';split at fin'
  ·exact .inl ⟨q,vs,rfl,h1.sq,λp hp=>FE.lst fin' r (z7A h2 lo hi) hp⟩
  ·exact fin'.elim
 case ref n =>
  simp only[RD]at rx;obtain⟨q,rfl,h1⟩:=rx;have fin':FE X.K EX ρ H Q ((getL n >>= λxs=>newL (cutD xs lo hi)) h):=fin;have f1:=Fin.bind fin';cases e:getL n h with
  | bad=>rw[e]at f1;exact f1.elim
  | err z hz=>exact(z1h e).elim
  | ok xs h2 =>
   obtain⟨rfl,q1⟩:=z1e e;rw[e]at f1;have f2:=f1 ρ H .(b) .(c) r;dsimp only at f2;unfold newL at f2;split at f2
   ·obtain⟨a1,n1,vs,o1,d1⟩:=r.at q1;rw[h1]at n1;cases n1;exact .inl ⟨q,vs,rfl,SqL.of o1,λp hp=>FE.lst f2 r (z7A d1 lo hi) hp⟩
   ·exact f2.elim
theorem z0e {lo hi:Option Expr}{ml mh:G->M (Option Int)}(ha:SE X EX a ma) (hl:SO X EX lo ml) (hh:SO X EX hi mh):SE X EX (.Subscript a (.Slice lo hi none p2) pos) (z01 ma ml mh) :=
 ⟨PE.imp (zn9 (sl_list.or (sl_tup.or zn4)) ha.h hl.h hh.h) λσ H Q ⟨ρ,γ,h,rel,fin⟩=>⟨ρ,γ,h,rel,(Fin.bind fin).mono λx ρ1 h1 H1 p1 e1 r1 f1 v rv=>⟨ρ1,γ,h1,⟨rel.g.mono p1 e1,r1⟩,(Fin.bind f1).mono λl ρ2 h2 H2 p2 e2 r2 f2 =>
  ⟨ρ2,γ,h2,⟨(rel.g.mono p1 e1).mono p2 e2,r2⟩,(Fin.bind f2).mono λu ρ3 h3 H3 p3 e3 r3 f3=>zO4 r3 ((rv.mono p2 e2).mono p3 e3) f3⟩⟩⟩⟩
end
def leS (a b:Str):Bool:=!decide (b.cps.toList<a.cps.toList)
theorem z6t {a b c:Str}(h1:leS a b=true) (h2:leS b c=true):leS a c=true:=by
 simp only[leS,K3z,decide_eq_false_iff_not]at *;exact K50.mpr (List.le_trans (K50.mp h1) (K50.mp h2))
theorem zg6 (a b:Str):(leS a b||leS b a)=true:=by
 simp only[leS,K2f,K3z,decide_eq_false_iff_not];rcases List.le_total a.cps.toList b.cps.toList with h|h
 ·exact .inl (K50.mpr h)
 ·exact .inr (K50.mpr h)
theorem zg7 {a b:Str}(h:a.cps.toList=b.cps.toList):a=b:=by
 cases a;cases b;congr 1;exact Array.toList_inj.mp h
theorem zq2 {a b:Str}(h1:leS a b=true) (h2:leS b a=true):a=b:=by
 simp only[leS,K3z,decide_eq_false_iff_not]at *;exact zg7 (Z2r (K50.mp h1) (K50.mp h2))
def z1S (l:List Str):List Str:=l.mergeSort leS
theorem z9E (l:List Str):(z1S l).Perm l:=K4b l leS
theorem zt5 (l:List Str):(z1S l).Pairwise (λa b=>leS a b=true):=K5z (le:=leS) (λa b c h1 h2=>z6t h1 h2) zg6 l
theorem z7e:∀(p:Str) (l:List Str),risingS p l=true->(p::l).Pairwise (λa b=>leS a b=true)
 | p,[],_=>by simp
 | p,x::r,h=>by
  have h':(!ltCps x.cps.toList p.cps.toList&&risingS x r)=true:=h;rw[K0c,ltCps_eq]at h';have ih:=z7e x r h'.2;have px:leS p x=true:=h'.1;refine List.pairwise_cons.mpr ⟨λy hy=>?_,ih⟩;rcases K12.mp hy with rfl|hy
  ·exact px
  ·exact z6t px ((List.pairwise_cons.mp ih).1 y hy)
theorem zt0 {l l':List Str}(p:l'.Perm l) (h:sortedS l'=true):l'=z1S l:=by
 have pw:l'.Pairwise (λa b=>leS a b=true):=by
  cases l' with
  | nil=>exact .nil
  | cons x r=>exact z7e x r h
 exact K89 (λa b _ _=>zq2) pw (zt5 l) (p.trans (z9E l).symm)
def leI (a b:Int):Bool:=decide (a<=b)
def sortI (l:List Int):List Int:=l.mergeSort leI
theorem sortI_perm (l:List Int):(sortI l).Perm l:=K4b l leI
theorem z8M (l:List Int):(sortI l).Pairwise (λa b=>a<=b):=by
 have:=K5z (le:=leI) (λa b c h1 h2=>by simp only[leI,decide_eq_true_eq]at *;omega) (λa b=>by simp only[leI,K2f,decide_eq_true_eq];omega) l;exact this.imp λh=>by simpa [leI] using h
theorem z60 {l l':List Int}(p:l'.Perm l) (h:l'.Pairwise (·<=·)):l'=sortI l :=
 K89 (λa b _ _ h1 h2=>Int.le_antisymm h1 h2) h (z8M l) (p.trans (sortI_perm l).symm)
def z41:List D->Option (List Str)
 | []=>some []
 | .str b::r=>(z41 r).map (b::·)
 | _::_=>none
def z2S:List D->Option (List Int)
 | []=>some []
 | .int b::r=>(z2S r).map (b::·)
 | _::_=>none
def z1P:List D->M D
 | [.ref n]=>do
  let xs <- getL n
  if xs.length<64 then (match z41 xs with
   | some ss=>newL ((z1S ss).map .str)
   | none=>(match z2S xs with
    | some ns=>newL ((sortI ns).map .int)
    | none=>bad)) else bad
 | _=>bad
theorem z8x {K:K6}{ρ:List Addr}{H:Hp}:∀{xs:List D}{bs:List Str}{vs:List V},z41 xs=some bs->RDs K ρ H xs vs->vs=bs.map V.str
 | [],bs,vs,e,r=>by simp only[RDs]at r;cases e;subst r;rfl
 | x::xs,bs,vs,e,r=>by
  simp only[RDs]at r;obtain⟨v,r2,rfl,h1,h2⟩:=r;cases x<;>first|(simp only[z41]at e;cases e;done)|skip
  rename_i b;simp only[z41]at e;obtain⟨bs',e1,rfl⟩:=K0y.mp e;simp only[RD]at h1;subst h1;rw[z8x e1 h2];rfl
theorem z4m {K:K6}{ρ:List Addr}{H:Hp}:∀{xs:List D}{bs:List Int}{vs:List V},z2S xs=some bs->RDs K ρ H xs vs->vs=bs.map V.int
 | [],bs,vs,e,r=>by simp only[RDs]at r;cases e;subst r;rfl
 | x::xs,bs,vs,e,r=>by
  simp only[RDs]at r;obtain⟨v,r2,rfl,h1,h2⟩:=r;cases x<;>first|(simp only[z2S]at e;cases e;done)|skip
  rename_i b;simp only[z2S]at e;obtain⟨bs',e1,rfl⟩:=K0y.mp e;simp only[RD]at h1;subst h1;rw[z4m e1 h2];rfl
theorem z8J:∀{bs:List Str}{us:List Value},Vals (bs.map V.str) us->StrsAre us bs
 | [],us,h=>by cases h;exact .nil
 | b::bs,us,h=>by
  cases h with
  | cons h1 h2=>obtain⟨t,rfl⟩:=h1;exact .cons b t (z8J h2)
theorem z93:∀{us:List Value}{bs:List Str},StrsAre us bs->Vals (bs.map V.str) us
 | _,_,.nil=>.nil
 | _,_,.cons y t r=>.cons ⟨t,rfl⟩ (z93 r)
theorem z5Y:∀{us:List Value}{bs:List Int},K6d us bs->Vals (bs.map V.int) us:=λh=>z4I h
section
variable {a:Expr}
theorem z7T:z2C X (.builtin "sorted") (λxs H Q=>∃l ys,xs=[.ref l]/\SqL X.K H l ys/\ys.length<64 /\
 ((∃ss,ys=ss.map V.str/\∀q,H q=none->Q (.ref q) (upd H q (.lst ((z1S ss).map V.str))))\/(∃ns,ys=ns.map V.int/\∀q,H q=none->Q (.ref q) (upd H q (.lst ((sortI ns).map V.int)))))):=by
 intro pins s σ H xs us Q I r h;obtain⟨l,ys,rfl,hq,h64,h⟩:=h;obtain⟨u,rfl,ru⟩:=vals1 r;cases ru;obtain⟨its,rv,pl,hz⟩:=I.list hq;have hl:=rv.length;have fin:∀(out:Array Value) (zs:List V),Vals zs out.toList->zs.length=ys.length->(∀q,H q=none->Q (.ref q) (upd H q (.lst zs)))->EP X pins σ Q (.ref (.(5)+1)) { s with heap:=sortedAll s.heap its out }:=λout zs h1 h2 h3=>by
  obtain⟨e,he⟩:=sortedAll_at s.heap its out;refine⟨.ref (.(5)+1),_,I.laid (t':=s.toks) (o:=.lst zs) (λb o q=>sortedAll_old q) (K4x _) ⟨by omega,out.toList,e,h1,?_⟩,rfl,h3 _ (I.hok.fresh (K4x _))⟩;rw[he]
 rcases h with ⟨ss,rfl,h⟩|⟨ns,rfl,h⟩
 ·refine sorted_strs pl.isList (z8J rv) .(0) λout ss' h1 h2 h3=>?_;have e:=zt0 h2 h3;subst e;exact fin out _ (z93 h1) (by rw[K03,K03,h2.length_eq]) h
 ·have hi:K6d its ns:=L2.intsAre_of rv;refine sorted_ints pl.isList hi .(0) λout ns' h1 h2 h3=>?_;have e:=z60 h2 h3;subst e;exact fin out _ (z5Y h1) (by rw[K03,K03,h2.length_eq]) h
theorem z8K {K:K6}{ρ:List Addr}{H:Hp}:∀(l:List Str),RDs K ρ H (l.map .str) (l.map V.str)
 | []=>RDs.nil
 | x::r=>RDs.cons (by simp[RD]) (z8K r)
theorem z4c {K:K6}{ρ:List Addr}{H:Hp}:∀(l:List Int),RDs K ρ H (l.map .int) (l.map V.int)
 | []=>RDs.nil
 | x::r=>RDs.cons (by simp[RD]) (z4c r)
theorem z9V:AR X.K EX (λxs H Q=>∃l ys,xs=[.ref l]/\SqL X.K H l ys/\ys.length<64 /\
 ((∃ss,ys=ss.map V.str/\∀q,H q=none->Q (.ref q) (upd H q (.lst ((z1S ss).map V.str))))\/(∃ns,ys=ns.map V.int/\∀q,H q=none->Q (.ref q) (upd H q (.lst ((sortI ns).map V.int)))))) z1P:=by
 intro ρ h H ds vs Q r rd fin;unfold z1P at fin;split at fin
 ·rename_i n;obtain⟨v,rfl,rv⟩:=rds1 rd;have f1:=Fin.bind fin;cases e:getL n h with
  | bad=>rw[e]at f1;exact f1.elim
  | err z hz=>exact(z1h e).elim
  | ok xs h1 =>
   obtain⟨rfl,q1⟩:=z1e e;rw[e]at f1;have f2:=f1 ρ H .(b) .(c) r;dsimp only at f2;simp only[RD]at rv;obtain⟨q,rfl,h2⟩:=rv;obtain⟨a1,n1,ws,o1,d1⟩:=r.at q1;rw[h2]at n1;cases n1;by_cases hl:xs.length<64
   ·rw[if_pos hl]at f2;refine⟨q,ws,rfl,SqL.of o1,by rw[<- d1.length];exact hl,?_⟩;cases eb:z41 xs with
    | some ss =>
     rw[eb]at f2;have f3:FE X.K EX ρ H Q (newL ((z1S ss).map .str) h1):=f2;unfold newL at f3;split at f3
     ·exact .inl ⟨ss,z8x eb d1,λp hp=>FE.lst f3 r (z8K _) hp⟩
     ·exact f3.elim
    | none =>
     rw[eb]at f2;cases en:z2S xs with
     | some ns =>
      rw[en]at f2;have f3:FE X.K EX ρ H Q (newL ((sortI ns).map .int) h1):=f2;unfold newL at f3;split at f3
      ·exact .inr ⟨ns,z4m en d1,λp hp=>FE.lst f3 r (z4c _) hp⟩
      ·exact f3.elim
     | none=>rw[en]at f2;exact(show False from f2).elim
   ·rw[if_neg hl]at f2;exact(show False from f2).elim
 ·exact fin.elim
theorem z6f (hc:X.calm=true) (hg:Gl X "sorted") (hm:X.mg "sorted" = none) (ha:SA X EX [a] mr) (he:K0g [a] X.env=[(false,eval a X.env)]:=by rfl):SE X EX (.Call (.Name "sorted" p) [a] [] pos) (Z6 z1P mr) :=
 z1D (z1q z7T hg hm boot_sorted ha.h .(1) .(1) he rfl) z9V
end
@[simp] theorem bindM (m:M α) (f:α->M β) (h:AH):(m >>= f) h=match m h with
 | .ok a h1=>f a h1
 | .err x h1=>.err x h1
 | .bad=>.bad:=rfl
@[simp] theorem pureM (a:α) (h:AH):(Z3i a:M α) h=.ok a h:=rfl
@[simp] theorem iteM {c:Prop}[Decidable c](a b:M α) (h:AH):(if c then a else b) h=if c then a h else b h:=by split<;>rfl
theorem Rise.lt {xs:Array Nat}(h:Rise xs){a b:Nat}(ha:xs[i]?=some a) (hb:xs[j]?=some b) (hij:i<j):a<b:=by
 obtain⟨h1,e1⟩:=K3n.mp ha;obtain⟨h2,e2⟩:=K3n.mp hb;have:=K7k.mp h i j (by simpa using h1) (by simpa using h2) hij;simp only[Array.getElem_toList]at this;rw[e1,e2]at this;exact this
theorem z5y {xs:Array Nat}(h:Rise xs) (j:Nat):∀(fuel lo hi:Nat),hi - lo<=fuel->lo<=hi->hi<=xs.size->(∀(i:Nat) a,i<lo->xs[i]?=some a->a<j)->(∀(i:Nat) a,hi<=i->xs[i]?=some a->j<=a) ->
 (K33 xs j fuel lo hi)<=xs.size/\(∀(i:Nat) a,i<K33 xs j fuel lo hi->xs[i]?=some a->a<j)/\∀(i:Nat) a,K33 xs j fuel lo hi<=i->xs[i]?=some a->j<=a
 | 0,lo,hi,hf,hl,hs,h1,h2=>by
  have:hi=lo:=by omega
  subst this;exact⟨by simp only[K33];omega,by simpa only[K33] using h1,by simpa only[K33] using h2⟩
 | fuel+1,lo,hi,hf,hl,hs,h1,h2=>by
  rw[K33];split
  ·rename_i hlt;have hm:(lo+hi) / 2<xs.size:=by omega
   have e:xs[(lo+hi) / 2]?=some xs[(lo+hi) / 2]:=K1r hm;have ed:xs.getD ((lo+hi) / 2) j=xs[(lo+hi) / 2]:=by rw[Array.getD_eq_getD_getElem?,e];rfl
   dsimp only;rw[ed];split
   ·rename_i q;refine z5y h j fuel _ hi .(0) .(0) hs (λi a hi' ha=>?_) h2;by_cases z:i=(lo+hi) / 2
    ·subst z;rw[e]at ha;cases ha;exact q
    ·exact Z24 (h.lt ha e .(0)) q
   ·rename_i q;refine z5y h j fuel lo _ .(0) .(0) .(0) h1 (λi a hi' ha=>?_);by_cases z:i=(lo+hi) / 2
    ·subst z;rw[e]at ha;cases ha;omega
    ·have:=h.lt e ha .(0);omega
  ·exact⟨by omega,h1,λi a hi' ha=>h2 i a .(0) ha⟩
theorem z3M {xs:Array Nat}(h:Rise xs) (j:Nat):K0q xs j<=xs.size/\(∀(i:Nat) a,i<K0q xs j->xs[i]?=some a->a<j)/\∀(i:Nat) a,K0q xs j<=i->xs[i]?=some a->j<=a:=by
 unfold K0q;refine z5y h j xs.size 0 xs.size .(0) .(0) .(0) (λi a hi=>by omega) (λi a hi ha=>?_);have:=(K3n.mp ha).1;omega
theorem z9o {xs:Array Nat}(h:Rise xs) (e:xs[i]?=some j):K0q xs (j+1)=i+1:=by
 obtain⟨b1,b2,b3⟩:=z3M h (j+1);have hi:=(K3n.mp e).1;have l1:i<K0q xs (j+1):=by
  by_cases q:i<K0q xs (j+1)
  ·exact q
  ·have:=b3 i j .(0) e;omega
 by_cases q:K0q xs (j+1)=i+1
 ·exact q
 ·have hlt:i+1<xs.size:=by omega
  have e2:xs[i+1]?=some xs[i+1]:=K1r hlt;have a1:=b2 (i+1) _ .(0) e2;have a2:=h.lt e e2 .(0);omega
theorem z9M {xs:Array Nat}(h:Rise xs):K0q xs 0=0:=by
 obtain⟨b1,b2,b3⟩:=z3M h 0;by_cases q:K0q xs 0=0
 ·exact q
 ·have hlt:0<xs.size:=by omega
  have e2:xs[0]?=some xs[0]:=K1r hlt;have:=b2 0 _ .(0) e2;omega
theorem zs1 (h:Rise t.place) (hj:t.place[K0q t.place j]?≠some j):Rise (t.put j).1.place:=by
 obtain⟨b1,b2,b3⟩:=z3M h j;show (Z2a.insertAt t.place (K0q t.place j) j).toList.Pairwise _;rw[Z2a.toList_insertAt];have tk:∀a∈t.place.toList.take (K0q t.place j),a<j:=λa ha=>by
  obtain⟨i,hi,e⟩:=K2q ha;rw[List.getElem_take]at e;have hi2:i<K0q t.place j:=by
   rw[K1t]at hi;omega
  have hi3:i<t.place.size:=by omega
  exact b2 i a hi2 (by rw[K1r hi3];simpa using e)
 have dr:∀a∈t.place.toList.drop (K0q t.place j),j<a:=λa ha=>by
  obtain⟨i,hi,e⟩:=K2q ha;rw[List.getElem_drop]at e;have hi3:K0q t.place j+i<t.place.size:=by
   rw[K53]at hi;simp at hi;omega
  have e2:t.place[K0q t.place j+i]?=some a:=by rw[K1r hi3];simpa using e
  have:=b3 _ a .(0) e2;by_cases q:a=j
  ·subst q;cases i with
   | zero=>exact absurd e2 hj
   | succ i =>
    have hlt:K0q t.place a<t.place.size:=by omega
    have e3:t.place[K0q t.place a]?=some t.place[K0q t.place a]:=K1r hlt;have a1:=b3 _ _ (K01 _) e3;have a2:=h.lt e3 e2 .(0);omega
  ·omega
 have p1:=List.Pairwise.take (i:=K0q t.place j) h;have p2:=List.Pairwise.drop (i:=K0q t.place j) h;simp only[K9q,List.pairwise_cons]
 first
  | (refine⟨p1,⟨dr,p2⟩,λa ha b hb=>?_⟩
     rcases K12.mp hb with rfl|hb
     ·exact tk a ha
     ·exact Z24 (tk a ha) (dr b hb))
  | skip
theorem z89 (h:∀i,t.slot j≠.live i):t.place[K0q t.place j]?≠some j:=λe=>by
 refine h (K0q t.place j) ?_;unfold Z2a.slot;dsimp only;rw[e,if_pos .(f)]
theorem z5x {t:Z2a}{ha:Nat->Int}{hx:Int}:∀(fuel:Nat) (p:Z3b) (j:Nat) (dm:Option Nat),(∀d,p.dummy=some d->t.slot d=.dummy)->K7q t ha hx fuel p=some (.empty j dm)->t.slot j=.empty/\∀d,dm=some d->t.slot d=.dummy
 | 0,p,j,dm,hd,e=>by simp[K7q]at e
 | fuel+1,p,j,dm,hd,e=>by
  rw[K7q]at e;have adv:∀q:Z3b,(t.advance q).dummy=q.dummy:=λq=>by
   unfold Z2a.advance;split<;>rfl
  split at e
  ·rename_i hs;cases e;exact⟨hs,hd⟩
  ·rename_i hs;refine z5x fuel _ j dm (λd z=>?_) e;rw[adv]at z;cases z;exact hs
  ·split at e
   ·cases e
   ·refine z5x fuel _ j dm (λd z=>?_) e;rw[adv]at z;exact hd d z
theorem zt9 {b:Bool}(e:t.freeSlot hx=some (j,b)):t.place[K0q t.place j]?≠some j:=by
 unfold Z2a.freeSlot Z2a.probe at e;split at e
 ·rename_i j' dm hp;obtain⟨s1,s2⟩:=z5x _ _ j' dm (λd z=>by simp[Z2a.probeStart]at z) hp;cases dm with
  | none=>cases e;exact z89 (λi z=>by rw[show t.slot (none.getD j')=_ from s1]at z;cases z)
  | some d=>cases e;exact z89 (λi z=>by rw[show t.slot ((some d).getD j')=_ from s2 d rfl]at z;cases z)
 ·cases e
theorem z2Q (n:Nat):Rise (Array.range n):=by
 show (Array.range n).toList.Pairwise _;rw[Array.toList_range];exact K4h
theorem z7C {x:Value}(h:Rise t.place):Rise (layNew t es hx x).2.1.place/\(layNew t es hx x).2.1.led=t.led:=by
 unfold layNew;split
 ·rename_i sl wd e;dsimp only;unfold Z2a.orStandIn;split
  ·exact⟨zs1 h (zt9 e),rfl⟩
  ·exact⟨z2Q _,rfl⟩
 ·exact⟨z2Q _,rfl⟩
theorem zk2 {mask finger moves:Nat}{led plain:Bool}{hs:Array Int}{o:Array Nat}(e:Z3d mask finger moves led plain hs=some (t,o)):Rise t.place/\t.led=led:=by
 unfold Z3d at e;cases hl:Z2a.layClean mask hs with
 | none=>rw[hl]at e;cases e
 | some ow =>
  rw[hl]at e;cases e;refine⟨?_,rfl⟩;unfold Rise;dsimp only;rw[K7y,List.pairwise_filterMap];refine K4h.imp λ{a b} hab c hc d hd=>?_;cases h1:ow.getD a none with
  | none=>rw[h1]at hc;cases hc
  | some u =>
   cases h2:ow.getD b none with
   | none=>rw[h2]at hd;cases hd
   | some v =>
    rw[h1]at hc;rw[h2]at hd;cases hc;cases hd;exact hab
theorem z9n:Rise (K6p t es n).2.1.place/\(K6p t es n).2.1.led=t.led:=by
 unfold K6p;split
 ·rename_i t' o e;obtain⟨r1,r2⟩:=zk2 e;dsimp only;split
  ·exact⟨r1,r2⟩
  ·exact⟨z2Q _,rfl⟩
 ·exact⟨z2Q _,rfl⟩
theorem z2Y {R:α->β->Prop}{l' l:List β}(p:l'.Perm l):∀{ks:List α},Paired R ks l->∃ks',ks'.Perm ks/\Paired R ks' l':=by
 induction p with
 | nil=>intro ks h;exact⟨ks,.refl _,h⟩
 | cons x _ ih =>
  intro ks h;cases h with
  | cons a b =>
   obtain⟨ks',q1,q2⟩:=ih b;exact⟨_::ks',.cons _ q1,.cons a q2⟩
 | swap x y l =>
  intro ks h;cases h with
  | cons a b =>
   cases b with
   | cons c d=>exact⟨_::_::_,.swap _ _ _,.cons c (.cons a d)⟩
 | trans _ _ ih1 ih2 =>
  intro ks h;obtain⟨k1,a1,a2⟩:=ih2 h;obtain⟨k2,b1,b2⟩:=ih1 a2;exact⟨k2,b1.trans a1,b2⟩
theorem z4M {α β:Type}{R:α->β->Prop}:∀{ks:List α}{l:List β}{k:α}{x:β},Paired R ks l->R k x->Paired R (ks++[k]) (l++[x])
 | _,_,_,_,.nil,h=>.cons h .nil
 | _,_,_,_,.cons a b,h=>.cons a (z4M b h)
theorem z3Q {α β:Type}{R:α->β->Prop}:∀{ks:List α}{l:List β}{x:β},Paired R ks l->x∈l->∃k∈ks,R k x
 | _,_,_,.cons a b,h=>by
  rcases K12.mp h with rfl|h
  ·exact⟨_,K10,a⟩
  ·obtain⟨k,h1,h2⟩:=z3Q b h;exact⟨k,K0s _ h1,h2⟩
theorem z4C {α β:Type}{R:α->β->Prop}:∀{ks:List α}{l:List β}{k:α},Paired R ks l->k∈ks->∃x∈l,R k x
 | _,_,_,.cons a b,h=>by
  rcases K12.mp h with rfl|h
  ·exact⟨_,K10,a⟩
  ·obtain⟨k,h1,h2⟩:=z4C b h;exact⟨k,K0s _ h1,h2⟩
theorem z8l {k:Key}{v:Value}(h:z29 k v=true):v.scannable=true:=by
 rcases y4 h with ⟨i,t,rfl,rfl⟩|⟨x,t,rfl,rfl⟩<;>rfl
theorem zq0 (h:Paired (KE w) ks l):ElemsOf (J9 P w) l:=λe he=>by
 obtain⟨k,_,h1,h2⟩:=z3Q h he;exact⟨⟨k,h1,h2⟩,z8l h1⟩
theorem zJ4 {k k':Key}{v:Value}(h:z29 k v=true) (h':z29 k' v=true):k=k':=by
 rcases y4 h with ⟨i,t,rfl,rfl⟩|⟨x,t,rfl,rfl⟩
 ·rcases y4 h' with ⟨j,u,rfl,e⟩|⟨y,u,rfl,e⟩
  ·cases e;rfl
  ·cases e
 ·rcases y4 h' with ⟨j,u,rfl,e⟩|⟨y,u,rfl,e⟩
  ·cases e
  ·cases e;rfl
theorem mem_of (h:Paired (KE w) ks l) (k:Key):k∈ks↔∃e∈l,z29 k e.2=true:=by
 constructor
 ·intro hk;obtain⟨e,h1,h2,_⟩:=z4C h hk;exact⟨e,h1,h2⟩
 ·rintro⟨e,h1,h2⟩;obtain⟨k',h3,h4,_⟩:=z3Q h h1;exact zJ4 h2 h4 ▸ h3
theorem SetAt.stay {h h':Heap}(x:SetAt w h a ks) (k:∀o,h.get? a=some o->h'.get? a=some o):SetAt w h' a ks:=by
 obtain⟨o,es,ep,t,ks',h1,h2⟩:=x;exact⟨o,es,ep,t,ks',k o h1,h2⟩
theorem zf3 {h:Heap}{led:Bool}(hl:led=true\/w.params.followText "set-order" = true):SetAt w (h.push { cls:=.type "set",dict:=none,data:=.set #[] 0 (.fresh 0 0 led) }) h.objs.size [] :=
 ⟨_,#[],0,_,[],K0a _ rfl,⟨rfl,rfl,rfl⟩,rfl,.nil,.refl _,K9j,by decide,by rfl,by show ([]:List Nat).Pairwise _;exact .nil,hl⟩
theorem z8V {t':Z2a}{ks':List Key}{h:Heap}(ho:h.get? a=some o) (hex:o.ExactSet) (hd:o.data=.set es ep t) (h4:Paired (KE w) ks' es'.toList) (h5:ks'.Perm ks) (h6:ks.Nodup)
 (hb:es'.size<scanBound) (hf:t'.fits es'.size=true) (hr:Rise t'.place) (hl:t'.led=true\/w.params.followText "set-order" = true) :
 SetAt w (h.update a (K76 es' t')) a ks/\∃o',(h.update a (K76 es' t')).get? a=some o'/\o'.ExactSet/\o'.data=.set es' (ep+1) t':=by
 have g:(h.update a (K76 es' t')).get? a=some { o with data:=.set es' (ep+1) t' }:=by
  have:=K3s (K76 es' t') ho (by rw[putSet_of es' t' hd];rfl);rw[putSet_of es' t' hd]at this;exact this
 exact⟨⟨_,es',ep+1,t',ks',g,hex,rfl,h4,h5,h6,hb,hf,hr,hl⟩,_,g,hex,rfl⟩
theorem tail_at {ks ks1:List Key}{o:Obj}{es es1:Array (Int×Value)}{ep:Nat}{t t2:Z2a}{wd:Bool}{R:Option Bool->Shared->Prop}(hG:∀(g:Bool) (s1:Shared) (Z:Unit->Shared->Prop),Z () s1->wpAny (model P w) A (gw g) Z E s1)
 (ho:s.heap.get? a=some o) (hex:o.ExactSet) (hd:o.data=.set es ep t) (h4:Paired (KE w) ks1 es1.toList) (h5:ks1.Perm ks) (h6:ks.Nodup) (hb:es1.size<scanBound) (hf:t2.fits es1.size=true) (hr:Rise t2.place) (hl:t2.led=true\/w.params.followText "set-order" = true)
 (h:∀h',K3d a s.heap h'->SetAt w h' a ks->R (some true) { s with heap:=h' }) :
 wpAny (model P w) A (storeSet a es1 t2 >>= λ_=>if (!wd&&t2.tooFull)=true then (gw (K6p t2 es1 (K30 es1.size)).2.2 >>= λ_=>storeSet a (K6p t2 es1 (K30 es1.size)).1 (K6p t2 es1 (K30 es1.size)).2.1 >>= λ_=>pure (some true)) else pure (some true)) R E s:=by
 obtain⟨S1,o1,g1,x1,d1⟩:=z8V (h:=s.heap) (t':=t2) ho hex hd h4 h5 h6 hb hf hr hl;have sb:=K1p s.heap a (K76 es1 t2);refine K0 (wpAny_storeSet_of ho hd ?_ (K6i hb));split
 ·have rp:=relayAll_perm t2 es1 (K30 es1.size);have rf:=relayAll_fits t2 es1 (K30 es1.size);have rr:=z9n (t:=t2) (es:=es1) (n:=K30 es1.size);obtain⟨ks2,p1,p2⟩:=z2Y rp h4;have sz:(K6p t2 es1 (K30 es1.size)).1.size=es1.size:=by rw[<- K16,rp.length_eq,K16]
  have b2:(K6p t2 es1 (K30 es1.size)).1.size<scanBound:=by rw[sz];exact hb
  refine K0 (hG _ _ _ (K0 (wpAny_storeSet_of g1 d1 (K8 ?_) (K6i b2))));obtain⟨S2,_⟩:=z8V (h:=s.heap.update a (K76 es1 t2)) (t':=(K6p t2 es1 (K30 es1.size)).2.1) g1 x1 d1 p2 (p1.trans h5) h6 b2 rf rr.1 (by rw[rr.2];exact hl);exact h _ (sb.trans (K1p _ a _)) S2
 ·exact K8 (h _ sb S1)
theorem Z0c {k:Key}{x:Value}{Q:Bool->Shared->Prop}(hk:z29 k x=true) (hS:SetAt w s.heap a ks) (hroom:ks.length+1<scanBound)
 (h:∀h' b,K3d a s.heap h'->SetAt w h' a (if k∈ks then ks else ks++[k])->Q b { s with heap:=h' }) :
 wpAny (model P w) A (setAddHashed a x (keyH w k)) Q E s:=by
 obtain⟨o,es,ep,t,ks',ho,hex,hd,h4,h5,h6,h7,h8,h9,h0⟩:=hS;have el:=zq0 (P:=P) h4;have sc:=z8l hk;have hn:es.size=ks.length:=by rw[<- h5.length_eq,K4p h4,K16]
 unfold setAddHashed setAddHashedIn;refine K22 (K0 (K43 ho hd h8 ?_));dsimp only;rw[byScan_of sc h7 el,if_pos rfl];unfold setAddByScan;refine K0 (K0 (K6o (K0 (wpAny_setScan_of (knd:=J9 P w) (k:=k) hk ho hd h8 el ?_))));cases hr:List.findIdx? (λe=>(J9 P w).is k e.2) es.toList with
 | some j =>
  dsimp only;obtain⟨hj,hp,_⟩:=List.findIdx?_eq_some_iff_getElem.mp hr;have hm:k∈ks:=h5.mem_iff.mp ((mem_of h4 k).mpr ⟨_,K3l hj,hp⟩);have:=h s.heap false (K7s a s.heap) (by rw[if_pos hm];exact⟨o,es,ep,t,ks',ho,hex,hd,h4,h5,h6,h7,h8,h9,h0⟩);exact K8 (K8 this)
 | none =>
  dsimp only;have hm:k∉ks:=λz=>by
   obtain⟨e,he,hp⟩:=(mem_of h4 k).mp (h5.mem_iff.mpr z);have:=List.findIdx?_eq_none_iff.mp hr e he;rw[show (J9 P w).is k e.2=true from hp]at this;cases this
  rw[if_neg hm]at h;have np:=layNew_perm t es (keyH w k) x;have nf:=layNew_fits t es (keyH w k) x;have nr:=z7C (t:=t) (es:=es) (hx:=keyH w k) (x:=x) h9;have hG:∀(g:Bool) (s1:Shared) (R:Unit->Shared->Prop),R () s1->wpAny (model P w) A (match g with|true=>rule "set.scan.the-table-gave-way" | false=>pure ()) R E s1 :=
   λg s1 R q=>by cases g<;>first|exact K8 q|exact K6o q
  generalize hL:layNew t es (keyH w k) x=L at np nf nr ⊢;obtain⟨es1,t1,wd,gv⟩:=L;dsimp only at np nf nr ⊢;rw[Z2c]at np;obtain⟨ks1,p1,p2⟩:=z2Y np (z4M h4 (show KE w k (keyH w k,x) from⟨hk,rfl⟩));have nd:(ks++[k]).Nodup:=by
   rw[K3x];exact⟨h6,by simp,λu hu v hv=>by simp at hv;subst hv;exact λz=>hm (z ▸ hu)⟩
  have b1:es1.size<scanBound:=by
   rw[<- K16,np.length_eq,K04,K16];simpa [hn] using hroom
  have p3:ks1.Perm (ks++[k]):=p1.trans (h5.append_right [k]);have l1:t1.led=true\/w.params.followText "set-order" = true:=by rw[nr.2];exact h0
  refine K0 (hG _ _ _ ?_);split
  ·rw[hashByValue_scannable 8 sc];refine K0 (K8 ?_);refine tail_at (t2:=if plainKind x=true then t1 else { t1 with plain:=false }) hG ho hex hd p2 p3 nd b1 ?_ ?_ ?_ λh' sb S=>K8 (h h' true sb S)
   ·split
    ·exact nf
    ·exact Z2a.fits_plain_off nf
   ·split
    ·exact nr.1
    ·exact nr.1
   ·split
    ·exact l1
    ·exact l1
  ·refine K0 (K8 ?_);simp only[if_pos];exact tail_at hG ho hex hd p2 p3 nd b1 nf nr.1 l1 λh' sb S=>K8 (h h' true sb S)
def putK (acc:List Key) (k:Key):List Key:=if k∈acc then acc else acc++[k]
def dedK (ks:List Key):List Key:=ks.foldl putK []
theorem zq8 (acc:List Key) (k:Key):(putK acc k).length<=acc.length+1:=by
 unfold putK;split
 ·omega
 ·simp
theorem z6r:∀(ks acc:List Key),(ks.foldl putK acc).length<=acc.length+ks.length
 | [],acc=>by simp
 | k::ks,acc=>by
  have h1:=z6r ks (putK acc k);have h2:=zq8 acc k;simp only[K4m,K02];omega
theorem zo1 (ks:List Key):(dedK ks).length<=ks.length:=by
 have:=z6r ks [];simpa [dedK] using this
theorem zl5 (ks:List Key) (k:Key):dedK (ks++[k])=putK (dedK ks) k:=by
 unfold dedK;rw[K4v];rfl
theorem ze7 {k:Key}{x:Value}{Q:Bool->Shared->Prop}(hk:z29 k x=true) (hS:SetAt w s.heap a ks) (hroom:ks.length+1<scanBound)
 (h:∀h' b,K3d a s.heap h'->SetAt w h' a (putK ks k)->Q b { s with heap:=h',toks:=s.toks+1 }):wpAny (model P w) A (setAdd a x) Q E s:=by
 unfold setAdd;refine K22 (K0 ((J9 P w).pyHash (k:=k) hk ?_));exact Z0c (s:={ s with toks:=s.toks+1 }) hk hS hroom λh' b sb S=>h h' b sb S
section
variable {R:Result->Shared->Prop}{fp wr:List Addr}{G:Array Z2b->Array Z2b->Prop}{St:Nat->Shared->Prop}
theorem z6T (W:WalksS P w A.in1 I fp wr G n PV St) (S:Addr) (hSf:S∉fp) (key:Nat->Key) (hv:∀i v,PV i v->z29 (key i) v=true) (hb:n+1<scanBound):
 ∀(k i:Nat) (s:Shared),i+k=n->St i s->SetAt w s.heap S (dedK ((K9 i).map key)) ->
  (∀s',Moved (S::wr) G s s'->SetAt w s'.heap S (dedK ((K9 n).map key))->R (.ok (.ret .none)) s') ->
  K69 (model P w) A (.builtin "set.update.loop" ⟨[.ref S,.ref I],[]⟩) R s:=by
 have nw:S∉wr:=λh=>hSf (W.sub _ h);have up:∀b∈wr,b∈S::wr:=λb hb=>K0s _ hb;intro k;induction k with
 | zero =>
  intro i s hk st hS hR;obtain rfl:i=n:=by omega
  refine K2g K8m ?_;rw[K23 K61 _];show wpAny _ A.in1 (pyNext (.ref I) >>= _) _ _ s;refine K0 (W.done s _ _ st λs' hm=>?_);show wpAny _ A.in1 (ret K2x) _ _ s';exact K8 (hR s' (hm.mono up) (hS.stay λo e=>hm.heap S o nw e))
 | succ k ih =>
  intro i s hk st hS hR;refine K2g K8m ?_;rw[K23 K61 _];show wpAny _ A.in1 (pyNext (.ref I) >>= _) _ _ s;refine K0 (W.item i s _ _ .(0) st λv s' hP st' hm=>?_);show wpAny _ A.in1 (K44 [v] (setAdd S v) >>= _) _ _ s';have room:(dedK ((K9 i).map key)).length+1<scanBound:=by
   have:=zo1 ((K9 i).map key);rw[K03,K2b]at this;omega
  refine K0 (K22 (ze7 (hv i v hP) (hS.stay λo e=>hm.heap S o nw e) room λh' b sb S2=>?_));have nx:dedK ((K9 (i+1)).map key)=putK (dedK ((K9 i).map key)) (key i):=by
   rw[K95,K4l];exact zl5 _ _
  refine K8 ⟨K5c K61 _,ih (i+1) _ .(0) (W.frame _ s' _ _ st' (K4x _) λb hb o e=>?_) (by rw[nx];exact S2) λs'' hm'' S3=>?_⟩
  ·rw[sb.2 b (λz:b=S=>hSf (z ▸ hb))];exact e
  ·refine hR s'' (Moved.trans W.gtrans ((hm.mono up).then_heap (K4x _) λb o hb e=>?_) hm'') S3;rw[sb.2 b (λz:b=S=>hb (by rw[z];exact K10))];exact e
end
theorem z9H:isSubtype (.type "tuple") (.type "set")=pure false:=by rw[K6f];kernel_rfl
theorem z7O:isSubtype (.type "tuple") (.type "frozenset")=pure false:=by rw[K6f];kernel_rfl
abbrev z1H (w:World):Obj:={ cls:=.type "set",dict:=none,data:=.set #[] 0 (.fresh 0 0 (!w.params.followText "set-order")) }
theorem zY9 (w:World):(!w.params.followText "set-order")=true\/w.params.followText "set-order" = true:=by
 cases w.params.followText "set-order"<;>simp
theorem fresh_at {h:Heap}:SetAt w (h.push (z1H w)) h.objs.size []:=zf3 (zY9 w)
theorem newCode (a:Value) (h:Q (.ref s.heap.objs.size) { s with heap:=s.heap.push (z1H w) }):
 K69 (model P w) A (.call (.builtin "set.__new__") ⟨[.type "set",a],[]⟩) (wants Q E) s:=by
 refine K9a (show wpAny _ A.in1 (do checkBuiltinCall "set.__new__" ⟨[.type "set",a],[]⟩;again (.builtin "set.__new__" ⟨[.type "set",a],[]⟩)) _ _ s from ?_);refine K0 (K9m (F.newCall_set_1 a) (K8 ⟨K5c F.plain_set_new _,K2g F.entry_set_new ?_⟩));rw[K23 F.plain_set_new _];unfold Builtin.«set.__new__» Builtin.Frozenset.newClass;have hz:=sub_set_self;obtain⟨hp,g,d,tk,os⟩:=s;dsimp only
 wp_walk
 refine K3m (K8 ?_);dsimp only;simp only[newObj];refine K0 (wpAny_alloc (K8 ?_));exact K8 h
theorem zg3 {l:Addr}{items:Array Value}{key:Nat->Key}{Q:Value->Shared->Prop}(hT:T = "list"\/T = "tuple") (hh:A.handled=none) (hl:∃o,s.heap.get? l=some o/\o.cls=.type T/\∃n,o.data=.seq items n)
 (hv:∀(i:Nat) v,items[i]?=some v->z29 (key i) v=true) (hb:.(v)+1<scanBound)
 (h:∀h' tk,SetAt w h' .(5) (dedK ((K9 .(v)).map key))->(∀b o,s.heap.get? b=some o->h'.get? b=some o)->Q (.ref .(5)) { s with heap:=h',toks:=tk }) :
 wpAny (model P w) A (call (.type "set") [.ref l]) Q E s:=by
 obtain⟨c,tl,hmro⟩:=F.called_set.mro;have z1:=F.called_set.made;have z2:=F.called_set.sub;have z3:=F.called_set.notType;have z4:=F.called_set.canCreate;have z5:=F.typeCall_set_1 (.ref l);obtain⟨ol,hol,hcl,nl,hdl⟩:=hl;obtain⟨ocls,odict,odata,oslots⟩:=ol;simp only at hcl hdl;subst hcl;subst hdl;refine wpAny_call (K9a (show wpAny _ _ (callAny (.type "set") _) _ _ _ from ?_));refine K8 ⟨Code.quiet_builtin _ .(2),K2g F.entry_type_call ?_⟩;rw[Around.under_plain (weight_type_call_type "set" [.ref l] []) rfl]
 repeat (any_goals (first|assumption|wp_step))
 refine K4g (newCode (.ref l) (E:=E) (Q:=λobj s1=>obj=.ref .(5)/\s1={ s with heap:=s.heap.push (z1H w) }) ⟨rfl,rfl⟩) λr s1 hr=>?_;cases r with
 | error e=>exact hr
 | ok fl =>
  cases fl with
  | next=>exact hr.elim
  | brk=>exact hr.elim
  | cont=>exact hr.elim
  | ret obj =>
   obtain⟨rfl,rfl⟩:=hr;have gS:(s.heap.push (z1H w)).get? .(5)=some (z1H w):=K0a _ rfl;have tS:K85 { s with heap:=s.heap.push (z1H w) } (.ref .(5)) "set":=⟨_,gS,rfl⟩;have y1:=F.called_set.init.lookup;have y2:=F.called_set.init.bind (.ref .(5))
   repeat (any_goals (first|assumption|wp_step))
   refine K4g (codeAny_call_builtin (R:=wants (λr s2=>r=.none/\∃h' tk,s2={ s with heap:=h',toks:=tk }/\SetAt w h' .(5) (dedK ((K9 .(v)).map key))/\∀b o,s.heap.get? b=some o->h'.get? b=some o) E) F.called_set.init.plain F.entry_set_init (check_set_init_1 tS ?_)) λr2 s2 hr2=>?_
   ·have gl:(s.heap.push (z1H w)).get? l=some { cls:=.type T,dict:=odict,data:=.seq items nl,slots:=oslots }:=K7 _ hol;have hll:l<s.heap.objs.size:=K0e hol;have h3:A.in1.in1.in1.handled=none:=by simp[hh]
    have neI:l≠(s.heap.push (z1H w)).objs.size:=by rw[K24];exact K0o (K36 hll)
    have nf:.(5)∉[(s.heap.push (z1H w)).objs.size,l]:=by
     rw[K24];simp only[K12,K1n,K3k,or_false,not_or];exact⟨K0o (K6n _),K26 hll⟩
    have start:∀ob:Obj,SetAt w ((s.heap.push (z1H w)).push ob) .(5) (dedK ((K9 0).map key)):=λob=>fresh_at.stay λo e=>K7 _ e;have fin:∀(ob:Obj) s',Moved [.(5),(s.heap.push (z1H w)).objs.size] (λg g'=>g'=g) { s with heap:=(s.heap.push (z1H w)).push ob } s'->SetAt w s'.heap .(5) (dedK ((K9 .(v)).map key)) ->
     ∃h' tk,s'={ s with heap:=h',toks:=tk }/\SetAt w h' .(5) (dedK ((K9 .(v)).map key))/\∀b o,s.heap.get? b=some o->h'.get? b=some o:=λob s' hm S2=>by
     obtain⟨h',g',d',tk',os'⟩:=s';have e1:g'=s.gens:=hm.gens;have e2:d'=s.drawn:=hm.drawn;have e3:os'=s.os:=hm.os;subst e1;subst e2;subst e3;refine⟨h',tk',rfl,S2,λb o e=>hm.heap b o ?_ (K7 _ (K7 _ e))⟩;have:=K0e e;rw[K24];simp only[K12,K1n,K3k,or_false,not_or];exact⟨K0o this,K0o (K36 this)⟩
    rcases hT with rfl|rfl
    ·have x1:=F.sub_list_set;have x2:=F.sub_list_frozenset;have x3:(K46 "list"==K46 "dict")=false:=by decide
     have il:(s.heap.push (z1H w)).IsList l items:=⟨_,gl,rfl,nl,rfl⟩;unfold Builtin.«set.__init__» noKeywords K6s;generalize hPI:pyIter=PI
     wp_walk
     subst hPI;refine K37 il (K0 (K6e ?_));refine z6T ((Walks.list h3 _ l neI items).toS) .(5) nf key (λi v e=>hv i v e) hb .(v) 0 _ .(0) ⟨⟨_,K0a _ rfl,rfl,rfl⟩,il.push _⟩ (start _) λs' hm S2=>?_;obtain⟨h',tk,rfl,q1,q2⟩:=fin _ s' hm S2;exact K8 (show wpAny _ _ (ret K2x) _ _ _ from K8 ⟨rfl,h',tk,rfl,q1,q2⟩)
    ·have x1:=z9H;have x2:=z7O;have x3:(K46 "tuple"==K46 "dict")=false:=by decide
     have il:(s.heap.push (z1H w)).IsTuple l items:=⟨_,gl,rfl,nl,rfl⟩;unfold Builtin.«set.__init__» noKeywords K6s;generalize hPI:pyIter=PI
     wp_walk
     subst hPI;refine K4i il (K0 (K6e ?_));refine z6T ((Walks.tuple h3 _ l neI items).toS) .(5) nf key (λi v e=>hv i v e) hb .(v) 0 _ .(0) ⟨⟨_,K0a _ rfl,rfl,rfl⟩,⟨_,K7 _ gl,rfl,nl,rfl⟩⟩ (start _) λs' hm S2=>?_;obtain⟨h',tk,rfl,q1,q2⟩:=fin _ s' hm S2;exact K8 (show wpAny _ _ (ret K2x) _ _ _ from K8 ⟨rfl,h',tk,rfl,q1,q2⟩)
   ·cases r2 with
    | error e=>exact hr2
    | ok f2 =>
     cases f2 with
     | next=>exact hr2.elim
     | brk=>exact hr2.elim
     | cont=>exact hr2.elim
     | ret r =>
      obtain⟨rfl,h',tk,rfl,q1,q2⟩:=hr2
      repeat (any_goals (first|assumption|wp_step))
      exact h _ _ q1 q2
theorem z3E {α:Type}:∀(l:List α) (i:Nat) (h:i<l.length),(l[i]::l.eraseIdx i).Perm l
 | [],i,h=>by simp at h
 | a::l,0,h=>.refl _
 | a::l,i+1,h=>by
  have:=z3E l i (by simpa using h);exact(List.Perm.swap a _ _).trans (Z38 a this)
theorem z6X {l:List α}(h:i<l.length) (e:l.length=n+1):(l.eraseIdx i).length=n:=by
 rw[List.length_eraseIdx,if_pos h,e];rfl
theorem zm1 {α:Type}(f:Nat->Nat):∀(n k:Nat) (left:List α) (out:Array α),left.length=n->(Z1u f n k left out).toList.Perm (out.toList++left)
 | 0,k,left,out,h=>by
  have:left=[]:=K2h.mp h;subst this;simp[Z1u]
 | n+1,k,left,out,h=>by
  have hl:f k % left.length<left.length:=Nat.mod_lt _ .(0);rw[Z1u,K00 hl];dsimp only;refine(zm1 f n (k+1) _ _ (z6X hl h)).trans ?_;rw[Z2c,K06];refine K9b _ ?_;exact z3E left _ hl
theorem zd0 (f:Nat->Nat) (xs:Array α):(Z2o f xs).toList.Perm xs.toList:=by
 unfold Z2o;have:=zm1 f xs.size 0 xs.toList #[] .(f);simpa using this
theorem slot_si_next:Slot "set_iterator" "__next__" "set_iterator.__next__" :=
 .of (owner:="set_iterator") (n:="__next__") (by rw[typeLookup_type,K9f];kernel_rfl) .(2) .(2) .(2) (by first|exact .inl .(2)|exact .inr .(2)) (by rw[K6f];kernel_rfl)
theorem z3n:entryFor table "set_iterator.__next__" = some Builtin.«set_iterator.__next__»:=entryFor_of_tree (by kernel_rfl)
theorem z8U:Manifest.owners.lookup (String.ofList ['r','o','t','a','r','e','t','i','_','t','e','s'].reverse)=some Manifest.sig_set_iterator:=by kernel_rfl
theorem z3X (a:Value):argsOk "set_iterator.__next__" ⟨[a],[]⟩:=by
 unfold argsOk;rw[Z1i (id:="set_iterator.__next__") (n:=['_','_','t','x','e','n','_','_']) (o:=['r','o','t','a','r','e','t','i','_','t','e','s']) (by kernel_rfl) z8U];kernel_rfl
theorem z3V:Slot "set_iterator" "__iter__" "set_iterator.__iter__" :=
 .of (owner:="set_iterator") (n:="__iter__") (by rw[typeLookup_type,K9f];kernel_rfl) .(2) .(2) .(2) (by first|exact .inl .(2)|exact .inr .(2)) (by rw[K6f];kernel_rfl)
theorem z75:entryFor table "set.__iter__" = some Builtin.«frozenset.__iter__» :=
 entryFor_alias (id':="frozenset.__iter__") (by kernel_rfl) rfl .(2) (by kernel_rfl)
theorem z7X (a:Value):argsOk "set.__iter__" ⟨[a],[]⟩:=by
 unfold argsOk;rw[Z1i (id:="set.__iter__") (n:=['_','_','r','e','t','i','_','_']) (o:=['t','e','s']) (by kernel_rfl) F.owner_set];kernel_rfl
theorem z51 {α:Type}:∀(n:Nat) (xs:List α) (s:Shared) (Q:List α->Shared->Prop),xs.length=n->(∀ys d',ys.Perm xs->Q ys { s with drawn:=d' })->wpAny (model P w) A (drawOrder n xs) Q E s
 | 0,xs,s,Q,h,hq=>by
  have:xs=[]:=K2h.mp h;subst this;exact K8 (hq [] s.drawn (.refl _))
 | n+1,xs,s,Q,h,hq=>by
  cases xs with
  | nil=>simp at h
  | cons x xs =>
   rw[drawOrder.eq_3 _ _ (λz=>by cases z)];refine K0 ?_;refine λΓ p _=>⟨by simp,?_⟩;generalize hi:(model P w).w.draws .order (s.drawn.get .order) % (x::xs).length=i;have il:i<(x::xs).length:=by rw[<- hi];exact Nat.mod_lt _ .(f)
   show wpAny (model P w) A (match (x::xs)[i]? with|some x_1=>(do return x_1::(<- drawOrder n ((x::xs).eraseIdx i)))|none=>Z2x "internal:drawOrder") Q E { s with drawn:=s.drawn.bump .order };rw[K00 il];dsimp only;refine K0 (z51 n _ _ _ (z6X il h) λys d' pm=>K8 ?_);exact hq _ d' ((Z38 _ pm).trans (z3E _ i il))
theorem z69:entryFor table "set_iterator.__iter__" = some Builtin.«dict_keyiterator.__iter__» :=
 entryFor_alias (id':="dict_keyiterator.__iter__") (by kernel_rfl) rfl .(2) (by kernel_rfl)
theorem z7h (a:Value):argsOk "set_iterator.__iter__" ⟨[a],[]⟩:=by
 unfold argsOk;rw[Z1i (id:="set_iterator.__iter__") (n:=['_','_','r','e','t','i','_','_']) (o:=['r','o','t','a','r','e','t','i','_','t','e','s']) (by kernel_rfl) z8U];kernel_rfl
abbrev z7L (first:Value) (i:Nat) (S:Addr) (n ep:Nat):Obj:={ cls:=.type "set_iterator",data:=.fields #[first,rawInt i,.ref S,rawInt n,rawInt ep] }
section
variable (w:World) (S:Addr) (es:Array (Int×Value)) (ep:Nat) (t:Z2a)
inductive Stand (h:Heap) (i:Nat):Value->List (Int×Value)->Prop where
 | txt (b:w.params.followText "set-order" = true):Stand h i (rawInt 0) (Z2o (w.params.setOrder S ep) es).toList
 | drw (T:Addr) (pl:List Nat) (b:w.params.followText "set-order" = false) (hT:∃o n,h.get? T=some o/\o.data=.seq (pl.map λ(j:Nat)=>rawInt j).toArray n) (hp:pl.Perm (K9 es.size)):Stand h i (.ref T) (pl.filterMap λj=>es[j]?)
 | slo (sl:Nat) (b:w.params.followText "set-order" = false) (c:(!t.plain&&decide (es.size > 1))=false) (l:t.led=true) (e:K0q t.place sl=i):Stand h i (rawInt sl) es.toList
end
theorem z5j {α:Type}{es:Array α}:∀{pl:List Nat},(∀j∈pl,j<es.size)->∀(i:Nat),(pl.filterMap λj=>es[j]?)[i]?=(pl[i]?).bind λj=>es[j]?
 | [],h,i=>by simp
 | a::pl,h,i=>by
  have hb:=h a K10;have ha:es[a]?=some es[a]:=K1r hb;rw[K2r,ha];cases i with
  | zero=>simp[ha]
  | succ i=>simpa using z5j (λj hj=>h j (K0s _ hj)) i
theorem Stand.perm {h:Heap}{f:Value}(x:Stand w S es ep t h i f ord):ord.Perm es.toList:=by
 cases x with
 | txt b=>exact zd0 _ _
 | drw T pl b hT hp =>
  refine(hp.filterMap _).trans ?_;rw[filterMap_getElem?_range]
 | slo sl b c l e=>exact .refl _
section
variable {f:Value}
theorem z8Z {sl:Nat}{Q:Option (Value×Nat)->Shared->Prop}(ho:s.heap.get? S=some o) (hd:o.data=.set es ep t) (hf:t.fits es.size=true) (b:w.params.followText "set-order" = true)
 (h:Q (((Z2o (w.params.setOrder S ep) es)[i]?).map λe=>(e.2,sl)) s):wpAny (model P w) A (K8o S sl i ep) Q E s:=by
 unfold K8o Z1r;refine K0 (K43 ho hd hf (K0 (K0 (K3m (K8 ?_)))));dsimp only;rw[show (model P w).w.params.followText "set-order" = true from b,if_pos rfl,if_neg .(f)];unfold setWalk Z1r;refine K0 (K0 (K43 ho hd hf (K0 (K0 (K3m (K8 ?_))))));dsimp only;rw[show (model P w).w.params.followText "set-order" = true from b,if_pos rfl];refine K0 (K3m (K8 (K8 ?_)));exact h
theorem z8w {sl:Nat}{Q:Option (Value×Nat)->Shared->Prop}(ho:s.heap.get? S=some o) (hd:o.data=.set es ep t) (hf:t.fits es.size=true) (b:w.params.followText "set-order" = false)
 (c:(!t.plain&&decide (es.size > 1))=false) (l:t.led=true) (h:Q (match es[K0q t.place sl]?,t.place[K0q t.place sl]? with|some (_,x),some j=>some (x,j+1)|_,_=>none) s):wpAny (model P w) A (K8o S sl i ep) Q E s:=by
 unfold K8o Z1r;refine K0 (K43 ho hd hf (K0 (K0 (K3m (K8 ?_)))));dsimp only;rw[show (model P w).w.params.followText "set-order" = false from b,if_neg .(1)];rw[if_neg (by show ¬ ((!t.plain&&decide (es.size > 1))=true);rw[c];decide)];refine K0 ?_;show wpAny _ _ (if (!t.led&&!es.isEmpty)=true then _ else _) _ _ _;rw[if_neg (by rw[l];simp)];exact K8 (K8 h)
theorem zD2 {e:Int×Value}{Q:Option Value->Shared->Prop}(ho:s.heap.get? S=some o) (hd:o.data=.set es ep t) (hf:t.fits es.size=true) (hr:Rise t.place) (hI:s.heap.get? I=some (z7L f i S es.size ep)) (st:Stand w S es ep t s.heap i f ord) (he:ord[i]?=some e) (hSI:S≠I)
 (hQ:∀h' f',K3d I s.heap h'->h'.get? I=some (z7L f' (i+1) S es.size ep)->Stand w S es ep t h' (i+1) f' ord->(∀T,f'=.ref T->f=.ref T)->Q (some e.2) { s with heap:=h' }):wpAny (model P w) A (pyNext (.ref I)) Q E s:=by
 have hT:s.TypeIs (.ref I) "set_iterator":=⟨_,hI,rfl⟩;unfold pyNext;refine K0 (wpAny_attempt (K27 (name:=K3e "__next__") hT slot_si_next (K1y slot_si_next hT z3n ?_ (z3X _))));show wpAny _ _ (fieldsOf (.ref I) >>= _) _ _ s;refine K0 (wpAny_fieldsOf hI rfl ?_);show wpAny _ _ (setEntries S >>= _) _ _ s;refine K0 (K6v ho hd hf ?_);rw[if_neg .(f)];have upd:∀(h0:Heap) (vs:Array Value) (j:Nat) (v:Value),h0.get? I=some { cls:=.type "set_iterator",data:=.fields vs }->(h0.update I (Z1g (·.setIfInBounds j v))).get? I=some { cls:=.type "set_iterator",data:=.fields (vs.setIfInBounds j v) }:=λh0 vs j v e=>by
  have:=K3s (Z1g (·.setIfInBounds j v)) e (K6j (K5r rfl _));exact this
 have fin:∀(f':Value) (j:Nat) (R:Z3g->Shared->Prop) (R2:Value->Shared->Prop),(∀h',K3d I s.heap h'->h'.get? I=some (z7L f' (i+1) S es.size ep)->R (.done (.ret e.2)) { s with heap:=h' }) ->
  wpAny (model P w) A.in1 (setField (.ref I) 0 f' >>= λ_=>setField (.ref I) 1 (rawInt ((i:Int)+1)) >>= λ_=>ret e.2) R R2 s:=λf' j R R2 q=>by
  have u1:=upd s.heap _ 0 f' hI;refine K0 (K32 hI rfl .(f) (K0 (K32 u1 rfl .(f) (K8 (q _ ((K1p ..).trans (K1p ..)) ?_)))));rw[upd _ _ 1 _ u1];simp[rawInt]
 cases st with
 | txt b =>
  show wpAny _ _ (K8o S (0:Int).toNat (i:Int).toNat (ep:Int).toNat >>= _) _ _ _;rw[K0f,K0f];refine K0 (z8Z ho hd hf b ?_);rw[<- K2v,he];exact fin (rawInt 0) 0 _ _ λh' sb q=>⟨_,rfl,K8 (hQ h' _ sb q (.txt b) λT z=>by cases z)⟩
 | slo sl b c l e2 =>
  have hi:i<es.size:=by simpa using(K3.mp he).1
  have he2:es[i]?=some e:=by rw[<- K2v];exact he
  have sz:t.place.size=es.size:=by
   unfold Z2a.fits at hf;simp at hf;exact hf.1
  have hp:t.place[i]?=some (t.place[i]' .(0)):=K1r .(0);show wpAny _ _ (K8o S (sl:Int).toNat (i:Int).toNat (ep:Int).toNat >>= _) _ _ _;rw[K0f,K0f,K0f];refine K0 (z8w ho hd hf b c l ?_);rw[e2,he2,hp];refine fin (rawInt ((t.place[i]' .(0)+1:Nat):Int)) 0 _ _ λh' sb q=>⟨_,rfl,K8 (hQ h' _ sb q (.slo _ b c l (z9o hr hp)) λT z=>by cases z)⟩
 | drw T pl b hT hp =>
  obtain⟨oT,nT,gT,dT⟩:=hT;have hb:∀j∈pl,j<es.size:=λj hj=>by simpa using hp.mem_iff.mp hj
  rw[z5j hb]at he;cases hpi:pl[i]? with
  | none=>rw[hpi]at he;cases he
  | some j =>
   rw[hpi]at he;have hej:es[j]?=some e:=he;have hTI:T≠I:=λz=>by
    subst z;rw[hI]at gT;cases gT;cases dT
   show wpAny _ _ (Z2n (.ref T) >>= _) _ _ _;refine K0 (K7a gT dT ?_);dsimp only;rw[K0f,show ((pl.map λ(j:Nat)=>rawInt j).toArray)[i]?=some (rawInt j) by simp[hpi]];show wpAny _ _ (setNextDrawn S (j:Int).toNat (ep:Int).toNat >>= _) _ _ _;rw[K0f,K0f];unfold setNextDrawn;refine K0 (K0 (K43 ho hd hf ?_));dsimp only;rw[if_neg .(f),hej];refine K8 ?_;have u1:=upd s.heap _ 1 (rawInt ((i:Int)+1)) hI;refine K0 (K32 hI rfl .(f) (K8 ⟨_,rfl,K8 (hQ _ (.ref T) (K1p ..) ?_ (.drw T pl b ⟨oT,nT,?_,dT⟩ hp) λ_ z=>z)⟩))
   ·rw[u1];simp[rawInt]
   ·rw[K3h _ _ (K5j hTI)];exact gT
theorem zG7 {Q:Option Value->Shared->Prop}(hh:A.handled=none) (ho:s.heap.get? S=some o) (hd:o.data=.set es ep t) (hf:t.fits es.size=true) (hI:s.heap.get? I=some (z7L f es.size S es.size ep)) (st:Stand w S es ep t s.heap es.size f ord)
 (hQ:∀h',Z2w I s.heap h'->Q none { s with heap:=h' }):wpAny (model P w) A (pyNext (.ref I)) Q E s:=by
 have hT:s.TypeIs (.ref I) "set_iterator":=⟨_,hI,rfl⟩;have hl:ord.length=es.size:=by rw[st.perm.length_eq,K16]
 unfold pyNext;refine K0 (wpAny_attempt (K27 (name:=K3e "__next__") hT slot_si_next (K1y slot_si_next hT z3n ?_ (z3X _))));show wpAny _ _ (fieldsOf (.ref I) >>= _) _ _ s;refine K0 (wpAny_fieldsOf hI rfl ?_);show wpAny _ _ (setEntries S >>= _) _ _ s;refine K0 (K6v ho hd hf ?_);rw[if_neg .(f)];have stop:∀(h1:Heap) (Z:Z3g->Shared->Prop),Z2w I s.heap h1->wpAny (model P w) A.in1 (newExc (.type "StopIteration") [] >>= λx=>(raiseNew x:Sem Z3g)) Z (λe s'=>wpAny (model P w) A (do let __do_lift <- isInstance e (K46 "StopIteration");if __do_lift=true then pure none else throw e) Q E s') { s with heap:=h1 }:=λh1 Z eb=>by
  refine K0 ?_;simp only[newExc,newTuple];refine K0 (K14 ?_ (by size_fits));refine K0 (m:=K7c _ _) (K9m (a:=K2x) (by first|rfl|(simp only[K7c];rfl)) ?_);refine K14 ?_ (by size_fits);simp only[raiseNew];refine K0 (wpAny_handled ?_);rw[show A.in1.handled=none by simp[hh]];refine K0 (K8 (wpAny_throw ?_));refine K0 (wpAny_isInstance (T:="StopIteration") (b:=true) ⟨_,K0a _ rfl,rfl⟩ isSubtype_stop ?_);exact K8 (hQ _ ((eb.push _).push _))
 cases st with
 | txt b =>
  show wpAny _ _ (K8o S (0:Int).toNat (es.size:Int).toNat (ep:Int).toNat >>= _) _ _ _;rw[K0f,K0f];refine K0 (z8Z ho hd hf b ?_);rw[<- K2v,K13 .(0)];exact K0 (K32 hI rfl .(f) (stop _ _ (K1p ..).extBut))
 | slo sl b c l e2 =>
  show wpAny _ _ (K8o S (sl:Int).toNat (es.size:Int).toNat (ep:Int).toNat >>= _) _ _ _;rw[K0f,K0f,K0f];refine K0 (z8w ho hd hf b c l ?_);rw[e2,Array.getElem?_eq_none (K01 _)];exact K0 (K32 hI rfl .(f) (stop _ _ (K1p ..).extBut))
 | drw T pl b hT hp =>
  obtain⟨oT,nT,gT,dT⟩:=hT;have lp:pl.length=es.size:=by rw[hp.length_eq,K2b]
  show wpAny _ _ (Z2n (.ref T) >>= _) _ _ _;refine K0 (K7a gT dT ?_);dsimp only;rw[K0f,show ((pl.map λ(j:Nat)=>rawInt j).toArray)[es.size]?=none by simp[lp]];have u1:(s.heap.update I (Z1g (·.setIfInBounds 0 (rawInt 0)))).get? I=some { cls:=.type "set_iterator",data:=.fields (#[.ref T,rawInt es.size,.ref S,rawInt es.size,rawInt ep].setIfInBounds 0 (rawInt 0)) } :=
   K3s _ hI (K6j (K5r rfl _))
  exact K0 (K32 hI rfl .(f) (K0 (K32 u1 rfl .(f) (stop _ _ ((K1p ..).trans (K1p ..)).extBut))))
end
theorem zo7 {P:K1h}{w:World}{tl:List Addr}(hh:A.handled=none) (hd:o.data=.set es ep t) (hf:t.fits es.size=true) (hr:Rise t.place) (hSI:S≠I) (hl:ord.length=es.size) (htl:I∉tl):
 Walks P w A I (I::S::tl) [I] es.size (λi v=>∃e,ord[i]?=some e/\v=e.2) (λi h=>h.get? S=some o/\∃f,(∀T,f=.ref T->T∈tl)/\h.get? I=some (z7L f i S es.size ep)/\Stand w S es ep t h i f ord) where
 sub:=λb hb=>by simp at hb;simp[hb]
 frame:=λi h h' st hk=>by
  obtain⟨q1,f,q2,q3,q4⟩:=st;refine⟨hk S .(f) _ q1,f,q2,hk I .(f) _ q3,?_⟩;cases q4 with
  | txt b=>exact .txt b
  | slo sl b c l e2=>exact .slo sl b c l e2
  | drw T pl b hT hp =>
   obtain⟨oT,nT,gT,dT⟩:=hT;exact .drw T pl b ⟨oT,nT,hk T (by simp[q2 T rfl]) _ gT,dT⟩ hp
 item:=λi s Q E hi st hQ=>by
  obtain⟨q1,f,q2,q3,q4⟩:=st;have he:ord[i]?=some (ord[i]' .(0)):=K00 .(0);refine zD2 q1 hd hf hr q3 q4 he hSI λh' f' sb g st' tt=>?_;refine hQ _ h' s.toks ⟨_,he,rfl⟩ ⟨?_,f',λT z=>q2 T (tt T z),g,st'⟩ λb ob hb e=>?_
  ·rw[sb.2 S hSI];exact q1
  ·rw[sb.2 b (λz=>hb (by simp[z]))];exact e
 done:=λs Q E st hQ=>by
  obtain⟨q1,f,q2,q3,q4⟩:=st;exact zG7 hh q1 hd hf q3 q4 λh' eb=>hQ h' s.toks λb ob hb e=>eb b ob (λz=>hb (by simp[z])) e
 self:=λi s Q E st hQ=>by
  obtain⟨q1,f,q2,q3,q4⟩:=st;have hT:s.TypeIs (.ref I) "set_iterator":=⟨_,q3,rfl⟩;refine wpAny_pyIter_slot hT z3V (K1y z3V hT z69 ?_ (z7h _));show wpAny _ _ (ret (.ref I)) _ _ s;exact K8 ⟨_,rfl,"set_iterator",_,hT,slot_si_next.lookup,hQ⟩
theorem zt2 {Q:Value->Shared->Prop}(ho:s.heap.get? S=some o) (hc:o.ExactSet) (hd:o.data=.set es ep t) (hf:t.fits es.size=true) (hr:Rise t.place) (hb:es.size<scanBound) (hl:t.led=true\/w.params.followText "set-order" = true)
 (hQ:∀(h':Heap) (d':Drawn) (I:Addr) (f:Value) (ord:List (Int×Value)) (tl:List Addr),(∀b ob,s.heap.get? b=some ob->h'.get? b=some ob)->.(5)<=I->h'.get? I=some (z7L f 0 S es.size ep)->(∀T,f=.ref T->T∈tl)->(∀T∈tl,.(5)<=T/\T<h'.objs.size/\T≠I)->Stand w S es ep t h' 0 f ord->Q (.ref I) { s with heap:=h',drawn:=d' }) :
 wpAny (model P w) A (pyIter (.ref S)) Q E s:=by
 have hT:s.TypeIs (.ref S) "set":=⟨o,ho,hc.1⟩;refine wpAny_pyIter_slot hT F.slot_set_iter (K1y F.slot_set_iter hT z75 ?_ (z7X _));unfold Builtin.«frozenset.__iter__» Builtin.Frozenset.slot0 slotArgs;simp only[List.isEmpty_nil,K48,K0m,↓reduceIte,bind_assoc,K08,bne_self_eq_false];unfold Builtin.Frozenset.addrOf Builtin.Frozenset.sizeOf;refine K0 (K8 ?_)
 try dsimp only
 refine K0 (K8 ?_);refine K0 (K0 (K6v ho hd hf (K8 ?_)));unfold setDrawn Z1r;refine K0 (K0 (K43 ho hd hf (K0 (K0 (K3m (K8 (K8 ?_)))))));dsimp only;have tailW:∀(h0:Heap) (d0:Drawn) (first:Value) (ord:List (Int×Value)) (tl:List Addr),(∀b ob,s.heap.get? b=some ob->h0.get? b=some ob)->.(5)<=h0.objs.size->(∀T,first=.ref T->T∈tl)->(∀T∈tl,.(5)<=T/\T<h0.objs.size) ->
  (∀h',(∀b ob,h0.get? b=some ob->h'.get? b=some ob)->Stand w S es ep t h' 0 first ord) ->
  wpAny (model P w) A.in1 (setEpoch S >>= λe=>newFields "set_iterator" [first,rawInt 0,.ref S,rawInt es.size,rawInt e] >>= λv=>ret v) (λfin s'=>∃v,fin=.done (.ret v)/\∃T' r,s'.TypeIs v T'/\Z1q (K46 T') (K3e "__next__")=pure (some r)/\Q v s') E { s with heap:=h0,drawn:=d0 }:=λh0 d0 first ord tl k1 k2 k3 k4 k5=>by
  refine K0 (wpAny_setEpoch_of (s:={ s with heap:=h0,drawn:=d0 }) (k1 S o ho) hd hf ?_);refine K0 (K14 (K8 ⟨_,rfl,"set_iterator",_,⟨_,K0a _ rfl,rfl⟩,slot_si_next.lookup,?_⟩));refine hQ _ d0 h0.objs.size first ord tl (λb ob e=>K7 _ (k1 b ob e)) k2 (K0a _ rfl) k3 (λT hT=>?_) (k5 _ λb ob e=>K7 _ e)
  obtain⟨z1,z2⟩:=k4 T hT;exact⟨z1,by rw[K24];exact K36 z2,K0o z2⟩
 cases hb':w.params.followText "set-order" with
 | true =>
  rw[show (model P w).w.params.followText "set-order" = true from hb',if_neg .(f)];refine K0 (K8 ?_);exact tailW s.heap s.drawn (rawInt 0) _ [] (λ_ _ e=>e) (K01 _) (λT z=>by cases z) (λT z=>by cases z) λh' _=>.txt hb'
 | false =>
  rw[show (model P w).w.params.followText "set-order" = false from hb'];have led:t.led=true:=by
   rcases hl with hl|hl
   ·exact hl
   ·rw[hb']at hl;cases hl
  show wpAny _ _ (if (!false&&(!t.plain&&decide (es.size > 1)))=true then _ else _) _ _ _;rw[K2l,K21];cases hdr:(!t.plain&&decide (es.size > 1)) with
  | false =>
   rw[if_neg .(1)];refine K0 (K8 ?_);exact tailW s.heap s.drawn (rawInt 0) _ [] (λ_ _ e=>e) (K01 _) (λT z=>by cases z) (λT z=>by cases z) λh' _=>.slo 0 hb' hdr led (z9M hr)
  | true =>
   rw[if_pos rfl];refine K0 (z51 es.size (K9 es.size) s _ .(f) λys d' pm=>?_);have ly:(ys.map λ(i:Nat)=>rawInt i).length<=sizeLine:=by
    rw[K03,pm.length_eq,K2b];exact K6i hb
   refine K0 (wpAny_newTuple ?_ ly);refine tailW (s.heap.push { cls:=.type "tuple",data:=.seq (ys.map λ(i:Nat)=>rawInt i).toArray }) d' (.ref .(5)) _ [.(5)] (λb ob e=>K7 _ e) (by rw[K24];exact K4x _)
    (λT z=>by cases z;exact K1n.mpr rfl) (λT z=>?_) λh' k=>.drw .(5) ys hb' ⟨_,_,k _ _ (K0a _ rfl),rfl⟩ pm
   have:=K1n.mp z;subst this;exact⟨K01 _,by rw[K24];exact K6n _⟩
theorem z7p {Q:List Value->Shared->Prop}(hh:A.handled=none) (ho:s.heap.get? S=some o) (hc:o.ExactSet) (hd:o.data=.set es ep t) (hf:t.fits es.size=true) (hr:Rise t.place) (hb:es.size<scanBound) (hl:t.led=true\/w.params.followText "set-order" = true)
 (hQ:∀(h':Heap) (d':Drawn) (tk:Nat) (ord:List (Int×Value)),(∀b ob,s.heap.get? b=some ob->h'.get? b=some ob)->.(5)<=h'.objs.size->ord.Perm es.toList->Q (ord.map (·.2)) { s with heap:=h',drawn:=d',toks:=tk }) :
 wpAny (model P w) A (Z27 (.ref S)) Q E s:=by
 have hS:S<s.heap.objs.size:=K0e ho;unfold Z27;refine K0 (K6e (K2g F.entry_proto_collect ?_));rw[K23 F.plain_proto_collect _];show wpAny _ A.in1 (Z37 [] >>= λl=>again (.builtin "list.__iadd__" ⟨[l,.ref S],[]⟩)) _ _ s;refine K0 (K14 (K8 ⟨K5c K2w _,K2g F.entry_list_iadd ?_⟩));rw[K23 K2w _];show wpAny _ A.in1 (K3g (.ref .(5)) (.ref S) (.ref .(5))) _ _ _;unfold K3g;have g1:(s.heap.push { cls:=.type "list",data:=.seq ([]:List Value).toArray }).get? S=some o:=K7 _ ho;have tS:K85 { s with heap:=s.heap.push { cls:=.type "list",data:=.seq ([]:List Value).toArray } } (.ref S) "set":=⟨o,g1,hc.1⟩;refine K0 (K54 tS ?_);have n1:K88 (.ref .(5)) (.ref S)=false:=by
  simp only[K88];exact beq_eq_false_iff_ne.mpr (K26 hS)
 rw[if_neg (by rw[n1];decide)];refine K0 (zt2 (s:={ s with heap:=s.heap.push { cls:=.type "list",data:=.seq ([]:List Value).toArray } }) g1 hc hd hf hr hb hl λh1 d1 I f ord tl k1 k2 k3 k4 k5 st=>?_);have g2:h1.get? S=some o:=k1 S o g1;have gL:h1.get? .(5)=some { cls:=.type "list",data:=.seq ([]:List Value).toArray }:=k1 _ _ (K0a _ rfl);have tS2:K85 { s with heap:=h1,drawn:=d1 } (.ref S) "set":=⟨o,g2,hc.1⟩;refine K0 (K22 ?_);unfold Builtin.List.listLengthHint;refine K0 (wpAny_specialOf tS2 F.slot_set_len.lookup ?_);have sp:splitId "set.__len__" = some ("set","__len__"):=by decide +kernel
 dsimp only;rw[sp];dsimp only;refine K0 (wpAny_isInstance (b:=true) tS2 (by rw[K6f];kernel_rfl) ?_);rw[if_neg .(1),if_pos .(2)];refine K0 (K54 tS2 (K8 ?_));rw[if_pos .(2)];have u1:=get?_update_seq (c:="list") (xs:=([]:List Value).toArray) (n:=0) gL (·.push .none);have u2:=get?_update_seq u1 (·.pop);refine K0 (K6o ?_);unfold Builtin.List.listTouch;refine K0 (K0 (listUpdate_at (s:={ s with heap:=h1,drawn:=d1 }) gL rfl (listUpdate_at (s:={ s with heap:=h1.update .(5) (K5o (·.push .none)),drawn:=d1 }) u1 rfl ?_)));generalize hh2:(h1.update .(5) (K5o (·.push .none))).update .(5) (K5o (·.pop))=h2 at u2 ⊢;have keep2:∀b ob,b≠.(5)->h1.get? b=some ob->h2.get? b=some ob:=λb ob hb e=>by
  rw[<- hh2,K3h _ _ (K5j hb),K3h _ _ (K5j hb)];exact e
 have hIs:.(5)+1<=I:=by rw[K24]at k2;exact k2
 have hSI:S≠I:=K0o (K0l hS (Z2h hIs));have lo:ord.length=es.size:=by rw[st.perm.length_eq,K16]
 have W:=zo7 (P:=P) (w:=w) (A:=A.in1) (S:=S) (I:=I) (ord:=ord) (o:=o) (tl:=tl) (by simp[hh]) hd hf hr hSI lo (λz=>(k5 I z).2.2 rfl);have hLf:.(5)∉I::S::tl:=by
  simp only[K12,not_or];refine⟨K0o hIs,K26 hS,λz=>?_⟩;have:=(k5 _ z).1;rw[K24]at this;exact K2k _ this
 have st0:(λi (h:Heap)=>h.get? S=some o/\∃f,(∀T,f=.ref T->T∈tl)/\h.get? I=some (z7L f i S es.size ep)/\Stand w S es ep t h i f ord) 0 h2:=by
  refine⟨keep2 S o (K0o hS) g2,f,k4,keep2 I _ (K26 hIs) k3,?_⟩;cases st with
  | txt b=>exact .txt b
  | slo sl b c l e2=>exact .slo sl b c l e2
  | drw T pl b hT hp =>
   obtain⟨oT,nT,gT,dT⟩:=hT;refine .drw T pl b ⟨oT,nT,keep2 T oT (λz=>?_) gT,dT⟩ hp;have:=(k5 T (k4 T rfl)).1;rw[K24,z]at this;exact K2k _ this
 refine K8 ⟨K5c F.plain_extend_loop _,codeAny_extend_loopS W.toS (K6i hb) s.heap.objs.size hLf _ es.size 0 { s with heap:=h2,drawn:=d1 } #[] 2 .(0) (K3j _) st0 (by simpa [seqObj] using u2) (K80.nil _) λs' acc c' hm gS' hacc=>?_⟩;show wpAny _ A (load .(5) >>= _) _ _ s';refine K0 (K8q gS' (K8 ?_));have ea:acc.toList=ord.map (·.2):=by
  refine K35 λj=>?_;rw[K0k,K2v];cases hj:acc[j]? with
  | none =>
   have h1:=Array.getElem?_eq_none_iff.mp hj;rw[hacc.1]at h1;rw[K13 .(0)];rfl
  | some v =>
   obtain⟨e,h1,h2⟩:=hacc.2 j v hj;rw[h1,h2];rfl
 rw[ea];obtain⟨h',g',d',tk',os'⟩:=s';have e1:g'=s.gens:=hm.gens;have e2:d'=d1:=hm.drawn;have e3:os'=s.os:=hm.os;subst e1;subst e2;subst e3;refine hQ h' d' tk' ord (λb ob e=>?_) ?_ st.perm
 ·have hb2:b≠s.heap.objs.size:=K0o (K0e e);refine hm.heap b ob ?_ (keep2 b ob hb2 (k1 b ob (K7 _ e)));simp only[K12,K1n,K3k,or_false,not_or];exact⟨hb2,K0o (K0l (K0e e) (Z2h hIs))⟩
 ·exact K2m (K0e gS')
theorem zG5 {k:Key}(r:RelV (kV k) u):z29 k u=true:=by
 cases k with
 | inl i=>obtain⟨t,rfl⟩:=r;exact z6L i t
 | inr x=>obtain⟨t,rfl⟩:=r;exact z76 x t
theorem z6V:∀{ks:List Key}{us:List Value},Vals (ks.map kV) us->∀(i:Nat) u,us[i]?=some u->∃k,ks[i]?=some k/\z29 k u=true
 | [],_,h,i,u,e=>by cases h;simp at e
 | k::ks,_,.cons h1 h2,0,u,e=>by simp at e;subst e;exact⟨k,rfl,zG5 h1⟩
 | k::ks,_,.cons h1 h2,i+1,u,e=>by
  obtain⟨k',q1,q2⟩:=z6V h2 i u (by simpa using e);exact⟨k',by simpa using q1,q2⟩
theorem z9A (ks:List Key):(K9 ks.length).map (λi=>(ks[i]?).getD (.inl 0))=ks:=by
 refine K35 λi=>?_;rw[K0k];by_cases h:i<ks.length
 ·rw[K3b h,K00 h];simp[K00 h]
 ·rw[K13 (by simpa using h),K13 .(0)];rfl
theorem ze4 (hc:X.calm=true):z2C X (.type "set") (λxs H Q=>∃l ks,xs=[.ref l]/\(SqL X.K H l (ks.map kV)\/SqT X.K H l (ks.map kV))/\ks.length+1<scanBound/\∀q,H q=none->Q (.ref q) (upd H q (.set (dedK ks)))):=by
 intro pins s σ H xs us Q I r h;obtain⟨l,ks,rfl,hq,hb,q⟩:=h;obtain⟨u,rfl,ru⟩:=vals1 r;cases ru;have hh:=I.ok.hd hc;have go:∀{its:List Value} {T:String},T = "list"\/T = "tuple"->Vals (ks.map kV) its->(∃o,s.heap.get? l=some o/\o.cls=.type T/\∃n,o.data=.seq its.toArray n)->wpAny .(6) X.A (call (.type "set") [.ref l]) (EP X pins σ Q) X.xe s:=λ{its T} hT rv hl=>by
  have le:its.length=ks.length:=by rw[<- rv.length,K03]
  refine zg3 (key:=λi=>(ks[i]?).getD (.inl 0)) hT hh hl (λi v e=>?_) (by rw[K05,le];exact hb) λh' tk S2 kp=>?_
  ·obtain⟨k,e1,e2⟩:=z6V rv i v (by simpa using e);rw[e1];exact e2
  ·rw[show its.toArray.size=ks.length by rw[K05,le],z9A]at S2;exact⟨.ref .(5),_,I.laid (t':=tk) (o:=.set (dedK ks)) kp (K01 _) S2,rfl,q _ I.fresh⟩
 rcases hq with hq|hq
 ·obtain⟨its,r',pl,hz⟩:=I.list hq;exact go (.inl rfl) r' pl.isList
 ·obtain⟨its,r',pl,hz⟩:=I.tuple hq;exact go (.inr rfl) r' pl
theorem zF9 {σ:L2.St}(I:L2.Inv X pins σ H s) (h:H a=some (.set ks)):SetAt X.w s.heap a ks:=I.hok a _ h
theorem zc1:∀{ns:List Int}{l:List (Int×Value)}{w:World}{ks:List Key},ks=ns.map K41->Paired (KE w) ks l->K6d (l.map (·.2)) ns
 | [],l,w,ks,e,h=>by subst e;cases h;exact .nil
 | n::ns,l,w,ks,e,h=>by
  subst e;cases h with
  | cons h1 h2 =>
   rcases y4 h1.1 with ⟨i,t,e1,e2⟩|⟨x,t,e1,e2⟩
   ·cases e1;rw[K0x,e2];exact .cons _ t (zc1 rfl h2)
   ·cases e1
theorem zs6 {ns:List Int}:∀{ks:List Key},ks.Perm (ns.map K41)->∃ms:List Int,ks=ms.map K41/\ms.Perm ns:=λ{ks} p=>by
 have:∀k∈ks,∃i:Int,k=K41 i:=λk hk=>by
  obtain⟨i,_,e⟩:=K07.mp (p.mem_iff.mp hk);exact⟨i,e.symm⟩
 have e:ks=(ks.filterMap λk=>match k with|.inl i=>some i|.inr _=>none).map K41:=by
  clear p;induction ks with
  | nil=>rfl
  | cons k ks ih =>
   obtain⟨i,rfl⟩:=this k K10;rw[K2r];dsimp only;rw[K0x,<- ih λk hk=>this k (K0s _ hk)]
 refine⟨_,e,?_⟩;have q:=p.filterMap λk=>match k with|.inl i=>some i|.inr _=>none
 refine q.trans ?_;rw[K5q];have:(List.filterMap ((λk:Key=>match k with|.inl i=>some i|.inr _=>none) ∘ K41) ns)=ns:=by
  induction ns with
  | nil=>rfl
  | cons n ns ih=>simp[K67]
 rw[this]
theorem z6g (hc:X.calm=true):z2C X (.builtin "sorted") (λxs H Q=>∃a ns,xs=[.ref a]/\H a=some (.set (ns.map K41))/\ns.length<64/\∀q,H q=none->Q (.ref q) (upd H q (.lst ((sortI ns).map V.int)))):=by
 intro pins s σ H xs us Q I r h;obtain⟨a,ns,rfl,hH,h64,q⟩:=h;obtain⟨u,rfl,ru⟩:=vals1 r;cases ru;obtain⟨o,es,ep,t,ks',h1,h2,h3,h4,h5,h6,h7,h8,h9,h0⟩:=zF9 I hH;refine K7m kind_sorted plain_sorted entry_sorted (args_sorted1 _) ?_;unfold Builtin.«sorted»;refine K0 (m:=checkCount "sorted" 1 1 _) (K8 ?_);refine K0 (z7p (by simp[I.ok.hd hc]) h1 h2 h3 h8 h9 h7 h0 λh' d' tk ord kp sz pm=>?_);obtain⟨k2,p1,p2⟩:=z2Y pm h4;obtain⟨ms,rfl,pm2⟩:=zs6 (p1.trans h5);have ia:=zc1 rfl p2;have l1:(ord.map (·.2)).length=ns.length:=by rw[<- pm2.length_eq,K03,<- K4p p2,K03]
 refine K0 (wpAny_newList ?_ (by rw[l1];exact K2m (K0l h64 .(1))));have gL:(h'.push (seqObj "list" (ord.map (·.2)).toArray 0)).get? h'.objs.size=some (seqObj "list" (ord.map (·.2)).toArray 0):=K0a _ rfl;refine K0 (K22 (K1y slot_list_sort ⟨_,gL,rfl⟩ entry_list_sort (list_sort_tree gL ia (by rw[l1];exact h64) λout ns' a1 a2 a3=>⟨_,rfl,?_⟩) (args_list_sort _)));refine K8 ⟨_,rfl,?_⟩;obtain⟨e,ge⟩:=sortedHeap_at (out:=out) gL;have es':ns'=sortI ns:=z60 (a2.trans pm2) a3;subst es';have un:∀b ob,s.heap.get? b=some ob->(sortedHeap (h'.push (seqObj "list" (ord.map (·.2)).toArray 0)) h'.objs.size (ord.map (·.2)) out).get? b=some ob:=λb ob eb=>by
  have lt:=K0e (kp b ob eb);rw[sortedHeap_old (K0o lt) (by rw[K24];exact K36 lt)];exact K7 _ (kp b ob eb)
 have ho:=I.hok.laid (a:=h'.objs.size) (o:=.lst ((sortI ns).map V.int)) un sz ⟨by rw[K03,(sortI_perm ns).length_eq];exact K2m (K0l h64 .(1)),out.toList,e,z5Y a1,ge⟩;exact⟨.ref h'.objs.size,_,I.call' (s':={ s with heap:=_,drawn:=d',toks:=tk }) (ch:=[]) rfl (Un.laid un sz (I.hok.fresh sz)) ho I.bare (λb z=>absurd z .(f)),rfl,q _ (I.hok.fresh sz)⟩
def keyD:D->Option Key
 | .int i=>some (.inl i)
 | .str x=>some (.inr x)
 | _=>none
def z5R:List D->Option (List Key)
 | []=>some []
 | d::r=>match keyD d,z5R r with
  | some k,some ks=>some (k::ks)
  | _,_=>none
theorem zI5 {k:Key}(e:keyD d=some k) (r:RD K ρ H d v):v=kV k:=by
 cases d<;>first|(simp only[keyD]at e;cases e;done)|skip
 ·simp only[keyD,Z1y]at e;subst e;simp only[RD]at r;exact r
 ·simp only[keyD,Z1y]at e;subst e;simp only[RD]at r;exact r
theorem z95 {K:K6}{ρ:List Addr}{H:Hp}:∀{ds:List D}{ks:List Key}{vs:List V},z5R ds=some ks->RDs K ρ H ds vs->vs=ks.map kV
 | [],ks,vs,e,r=>by simp only[RDs]at r;cases e;subst r;rfl
 | d::ds,ks,vs,e,r=>by
  simp only[RDs]at r;obtain⟨v,r2,rfl,h1,h2⟩:=r;rw[z5R]at e;cases e1:keyD d with
  | none=>rw[e1]at e;cases e
  | some k =>
   rw[e1]at e;cases e2:z5R ds with
   | none=>rw[e2]at e;cases e
   | some ks' =>
    rw[e2]at e;cases e;rw[zI5 e1 h1,z95 e2 h2];rfl
def getS (n:Nat):M (List Key):=λh=>match h[n]? with
 | some (.set ks)=>.ok ks h
 | _=>.bad
def newSet (ks:List Key):M D:=λh=>.ok .(u) (h++[.set ks])
def z0h:List D->M D
 | [x]=>do
  let xs <- seqD x
  match z5R xs with
  | some ks=>if ks.length+1<4096 then newSet (dedK ks) else bad
  | none=>bad
 | _=>bad
def z6H:List Key->Option (List Int)
 | []=>some []
 | .inl i::r=>(z6H r).map (i::·)
 | .inr _::_=>none
theorem z87:∀{ks:List Key}{ns:List Int},z6H ks=some ns->ks=ns.map K41
 | [],ns,e=>by cases e;rfl
 | .inl i::r,ns,e=>by
  rw[z6H]at e;obtain⟨ms,e1,rfl⟩:=K0y.mp e;rw[z87 e1];rfl
 | .inr _::_,ns,e=>by rw[z6H]at e;cases e
def J4:List D->M D
 | [.ref n]=>do
  let ks <- getS n
  match z6H ks with
  | some ns=>if ns.length<64 then newL ((sortI ns).map .int) else bad
  | none=>bad
 | _=>bad
def Z1c:D->M Nat
 | .ref n=>λh=>match h[n]? with
  | some (.set _)=>.ok n h
  | _=>.bad
 | _=>bad
def eMS (f:Nat->D->M D) (mo ma:G->M D):G->M D:=λγ=>do
 let o <- mo γ;let n <- Z1c o;let v <- ma γ
 f n v
section
variable {a o:Expr}
theorem zo4 (r:RH K ρ h H) (hq:ρ[n]?=some q) (f:Fin K EX ρ H Z (getS n h)):∃ks,H q=some (.set ks)/\Z ks ρ h H:=by
 unfold getS at f;cases e:h[n]? with
 | none=>rw[e]at f;exact f.elim
 | some ob =>
  cases ob with
  | lst xs=>rw[e]at f;exact f.elim
  | dct=>rw[e]at f;exact f.elim
  | dK kvs=>rw[e]at f;exact f.elim
  | dF kvs=>rw[e]at f;exact f.elim
  | exc c=>rw[e]at f;exact f.elim
  | ins _ _=>rw[e]at f;exact f.elim
  | set ks =>
   rw[e]at f;obtain⟨a1,n1,o1⟩:=r.at e;rw[hq]at n1;cases n1;exact⟨ks,o1,f ρ H .(b) .(c) r⟩
theorem z9D {Q:VK}(r:RH K ρ h H) (hq:H q=none) (f:FE K EX ρ H Q (newSet ks h)):Q (.ref q) (upd H q (.set ks)):=by
 refine f (ρ++[q]) _ (Pre.app _ _) (Ext.upd (.inl hq)) (r.pushS hq) (.ref q) ?_;simp only[RD];exact⟨q,rfl,by rw[<- r.len];simp⟩
theorem zY6:AR X.K EX (λxs H Q=>∃l ks,xs=[.ref l]/\(SqL X.K H l (ks.map kV)\/SqT X.K H l (ks.map kV))/\ks.length+1<scanBound/\∀q,H q=none->Q (.ref q) (upd H q (.set (dedK ks)))) z0h:=by
 intro ρ h H ds vs Q r rd fin;unfold z0h at fin;split at fin
 ·rename_i x;obtain⟨v,rfl,rv⟩:=rds1 rd;have f1:=Fin.bind fin;cases e:seqD x h with
  | bad=>rw[e]at f1;exact f1.elim
  | err z hz=>exact(z3N e).elim
  | ok ys h1 =>
   obtain⟨rfl,p,xs,rfl,hs,hd⟩:=z2K r rv e;rw[e]at f1;have f2:=f1 ρ H .(b) .(c) r;dsimp only at f2;cases e2:z5R ys with
   | none=>rw[e2]at f2;exact f2.elim
   | some ks =>
    rw[e2]at f2;dsimp only at f2;split at f2
    ·rename_i hl;have ek:=z95 e2 hd;subst ek;exact⟨p,ks,rfl,hs,hl,λq hq=>z9D r hq f2⟩
    ·exact f2.elim
 ·exact fin.elim
theorem z2a (hc:X.calm=true) (hg:Gl X "set") (hm:X.mg "set" = none) (ha:SA X EX [a] mr) (he:K0g [a] X.env=[(false,eval a X.env)]:=by rfl):SE X EX (.Call (.Name "set" p) [a] [] pos) (Z6 z0h mr) :=
 z1D (z1C (ze4 hc) hg hm .(2) ha.h .(1) .(1) he rfl) zY6
theorem z9p:AR X.K EX (λxs H Q=>∃a ns,xs=[.ref a]/\H a=some (.set (ns.map K41))/\ns.length<64/\∀q,H q=none->Q (.ref q) (upd H q (.lst ((sortI ns).map V.int)))) J4:=by
 intro ρ h H ds vs Q r rd fin;unfold J4 at fin;split at fin
 ·rename_i n;obtain⟨v,rfl,rv⟩:=rds1 rd;simp only[RD]at rv;obtain⟨q,rfl,hq⟩:=rv;obtain⟨ks,h1,f2⟩:=zo4 r hq (Fin.bind fin);cases e:z6H ks with
  | none=>rw[e]at f2;exact f2.elim
  | some ns =>
   rw[e]at f2;dsimp only at f2;split at f2
   ·rename_i hl;refine⟨q,ns,rfl,by rw[h1,z87 e],hl,λl hl2=>?_⟩;unfold newL at f2;split at f2
    ·refine f2 (ρ++[l]) _ (Pre.app _ _) (Ext.upd (.inl hl2)) (r.push hl2 ?_) (.ref l) ?_
     ·have:∀ms:List Int,RDs X.K ρ H (ms.map D.int) (ms.map V.int):=λms=>by
       induction ms with
       | nil=>exact RDs.nil
       | cons m ms ih=>exact RDs.cons (by simp[RD]) ih
      exact this _
     ·simp only[RD];exact⟨l,rfl,by rw[<- r.len];simp⟩
    ·exact f2.elim
   ·exact f2.elim
 ·exact fin.elim
theorem z16 (hc:X.calm=true) (hg:Gl X "sorted") (hm:X.mg "sorted" = none) (ha:SA X EX [a] mr) (he:K0g [a] X.env=[(false,eval a X.env)]:=by rfl):SE X EX (.Call (.Name "sorted" p) [a] [] pos) (Z6 J4 mr) :=
 z1D (z1q (z6g hc) hg hm boot_sorted ha.h .(1) .(1) he rfl) z9p
end
theorem zw3 {P:K1h}{w:World}{base:Heap}{f:Addr}{fd:K5b}{ps:List Str}{k:Nat}{mb:G->M Out}(F:Fun K x x st f fd) (S:FnScope N ps (y6 st)) (hb:Binds K fd ps []) (mx:mg x=.(r f)) (hn:ps.length=n)
 (body:∀(cdv:Value) (A:Around) (outer:List Env) (s:Shared) (H:Hp) (E:XK),K4c K cdv x=true->Room k (A.deeper (envOfC x (y6 st) .(5) f cdv)) ->
  SB (cxOf CX0 P w K mg base N x (y6 st) f cdv A outer s H E).nox EX0 (z0X st) mb):Fn P w K mg base (k+1) x n (runF N.length mb):=by
 refine⟨f,fd,ps,?_,hb,F.kp,mx⟩;obtain⟨oc,od,kV,doc,pm,an,cdv,ct,osl,rfl,lk,hcd⟩:=F.ex;refine zN9 lk hcd S (λvs H Q E h=>h.1.trans hn.symm) λA outer s H vs Q E hr h=>?_;obtain⟨hl,ρ,ds,h,rh,rd,fin⟩:=h;refine⟨_,(body cdv A outer s H E hcd hr).h.nox,ρ,z1w N.length ds,h,⟨z6S rd,rh⟩,?_⟩;refine(Fin.bind fin).mono λo ρ1 h1 H1 p1 e1 r1 f1=>?_;cases o with
 | nx γ=>exact λσ _=>FE.here (d:=.non) (h:=h1) f1 r1 (by simp[RD])
 | rt d=>exact λv rv=>f1 ρ1 H1 .(b) .(c) r1 v rv
 | bk γ=>exact(show False from f1).elim
 | ct γ=>exact(show False from f1).elim
theorem zf2 (t:Addr) (items:Array Value):
 Meets (Builtin.«enumerate.__new__» ⟨[.type "enumerate",.ref t],[]⟩) (λ_ R s=>s.heap.IsTuple t items /\
  R (.ok (.ret (.ref (s.heap.push { cls:=.type "tuple_iterator",data:=.fields #[.ref t,.int 0 0] }).objs.size)))
   { s with heap:=(s.heap.push { cls:=.type "tuple_iterator",data:=.fields #[.ref t,.int 0 0] }).push { cls:=.type "enumerate",data:=.fields #[.none,.bool false,.ref .(5),rawInt 0,.none,.none] } }) :=
 .of_wp λprog w A R s h=>by
  obtain⟨hp,g,d,tk,os⟩:=s;obtain⟨q1,h⟩:=h;have hsub:=sub_enumerate;have L1:Heap.IsTuple (Shared.heap ⟨hp,g,d,tk,os⟩) t items:=q1
  wp_walk
  refine wpAny_stack_any λst=>K8 ?_;split
  ·rename_i c _ _ _ _ _;cases (c==K46 "enumerate")
   ·wp_walk using K4i L1
    exact⟨_,rfl,h⟩
   ·wp_walk using K4i L1
    exact⟨_,rfl,h⟩
  ·wp_walk using K4i L1
   exact⟨_,rfl,h⟩
theorem zx3 {P:K1h}{w:World}(hh:A.handled=none) (it t:Addr) (hne:t≠it) (items:Array Value):
 Draws P w A it [it,t] .(v) (λi v=>items[i]?=some v) (λi h=>h.IsTupleIter it t i/\h.IsTuple t items) where
 live:=λ_ _ st=>let ⟨o,ho,_⟩:=st.1;⟨o,ho⟩
 frame:=λ_ _ _ st hk=>⟨st.1.at λo e=>hk it .(f) o e,st.2.at λo e=>hk t .(f) o e⟩
 item:=λi s Q E hi st hQ=>zD9 st.1 st.2 (x:=items[i]) (by simp[hi]) λh' hit sb=>hQ _ h' s.toks (by simp[hi]) ⟨hit,st.2.extBut sb.extBut hne⟩ sb
 done:=λs Q E st hE=>zY3 hh st.1 st.2 .(f) hE
def Ite (K:K6) (t:Addr):It :=
 ⟨λi H=>∃xs x,SqT K H t xs/\xs[i]?=some x,
  λi H v H'=>∃T x,H T=none/\v=.ref T/\(∀xs,SqT K H t xs->xs[i]?=some x)/\H'=upd H T (.tup [.int i,x]),
  λi H=>∃xs,SqT K H t xs/\xs.length=i⟩
theorem zm7 {P:K1h}{w:World}{K:K6}{elts:List Expr}{kk:Nat}{pos:Pos}{e t:Addr}(d1:e≠it) (d2:t≠it) (d3:e≠t):
 Turn P w K (.Tuple elts kk pos) (Ite K t) [e,it] e (λi h=>(∃old,IsEnum h e it i old)/\h.IsTupleIter it t i) where
 mem:=by simp
 obj:=λi h st b hb=>by
  obtain⟨⟨old,ee⟩,o,ei,_,di⟩:=st;simp at hb;rcases hb with rfl|rfl
  ·exact⟨_,ee,λv q=>by cases q⟩
  ·exact⟨_,ei,λv q=>by rw[di]at q;cases q⟩
 keep:=λi h h' st k=>by
  obtain⟨⟨old,ee⟩,g⟩:=st;exact⟨⟨old,k e .(f) _ ee⟩,g.at λo q=>k it .(f) o q⟩
 item:=by
  intro X hP hw hK hc i pins s σ H E I hf st hg;subst hP hw hK;obtain⟨xs,x,q1,hx⟩:=hg;obtain⟨its,rv,pl,hz⟩:=I.tuple q1;obtain⟨u,hu,ru⟩:=rv.get hx;obtain⟨⟨old,ee⟩,g⟩:=st;have hi:i<its.toArray.size:=by
   have:=(K3.mp hu).1;simpa using this
  have pT:s.heap.IsTuple t its.toArray:=pl;refine K8n (zx3 (by simp[I.ok.hd hc]) it t d2 its.toArray) ee ⟨g,pT⟩ hi d1 (by simp[d1,d3]) λy h' tk hy eo st' gT sz kp=>?_;have ey:y=u:=by
   have:its.toArray[i]?=some u:=by simpa using hu
   rw[hy]at this;exact K1b this
  subst ey;refine⟨_,rfl,K7i eo λh2 eo2 sb=>?_⟩;have elt:e<s.heap.objs.size:=K0e ee;have ilt:it<s.heap.objs.size:=by obtain⟨o,q,_⟩:=g;exact K0e q
  have hT:IsTup0 h2 .(5) [K6k i tk,y].toArray:=⟨_,(sb.2 _ (K26 elt)).trans gT,⟨rfl,rfl⟩,_,rfl⟩;have J:=zX8 (t:=tk+1) (ch:=[e,it]) (T:=.(5)) (vs:=[.int i,x]) (its:=[.int i tk,y]) (h2:=h2) I hf
   (λb o hb q=>by simp at hb;exact(sb.2 b hb.1).trans (kp b o hb.1 hb.2 q)) (K01 _) hT (.cons ⟨tk,rfl⟩ (.cons ru .nil)) (by show 2<=sizeLine;decide)
  refine⟨.ref .(5),_,J,rfl,⟨_,x,I.hok.fresh (K01 _),rfl,λxs' h'=>by rw[I.tuple_inj h' q1];exact hx,rfl⟩,?_,λb hb=>?_⟩
  ·exact⟨⟨_,by simpa using eo2⟩,st'.1.at λo q=>(sb.2 _ (K5j d1)).trans q⟩
  ·have:b<s.heap.objs.size:=by
    simp at hb;rcases hb with rfl|rfl
    ·exact elt
    ·exact ilt
   rw[Y2 (K0o this)];exact(hf b hb).1
 done:=by
  intro X hP hw hK hc i pins s σ H E I hf st hg;subst hP hw hK;obtain⟨xs,q1,hl⟩:=hg;obtain⟨its,rv,pl,hz⟩:=I.tuple q1;obtain⟨⟨old,ee⟩,g⟩:=st;have l1:=rv.length;have pT:s.heap.IsTuple t its.toArray:=pl;have en:i=its.toArray.size:=by simp;omega
  refine K90 (zx3 (by simp[I.ok.hd hc]) it t d2 its.toArray) ee ⟨by rw[<- en];exact g,pT⟩ λh' eb=>⟨rfl,?_⟩;have hf':∀b∈[it],FpOk X pins H b:=λb hb=>hf b (by simp at hb;simp[hb]);refine I.step (g':=s.gens) (t':=s.toks) (d':=s.drawn) (ch:=[it]) (λb hb=>⟨(hf' b hb).2.2.2.1,(hf' b hb).2.1,(hf' b hb).2.2.2.2.1,(hf' b hb).2.2.2.2.2⟩) (λb o _ _ hc e _=>?_) (λb o _ _ hc e _=>⟨o.slots,?_⟩)
   (λ_ _ _ _ n=>n) (λb o hc e=>⟨o,?_⟩) (λ_ _ e=>e) (λ_ _ _ e=>e) (λb ps e=>⟨#[],by rw[e];simp⟩) (λm hm=>?_) (λb u e=>?_) I.bare
  ·simp at hc;exact eb b o hc e
  ·simp at hc;exact eb b o hc e
  ·simp at hc;exact eb b o hc e
  ·obtain⟨o,es,ep,q,r⟩:=hm;exact⟨o,es,ep,eb _ o (λy=>(hf' it .(f)).2.1 y.symm) q,r⟩
  ·refine(I.hok b u e).stay (λc v hc q=>?_) (λ_ q=>q) λ_ _ q=>q;refine eb c v (λy=>?_) q;subst y;rcases hc with y|y
   ·rw[<- y,(hf' c .(f)).1]at e;cases e
   ·rw[(hf' c .(f)).1]at y;cases y
 self:=λ_ _ _ _ _ st h=>by
  obtain⟨⟨old,ee⟩,g⟩:=st;exact K6g ee h
section
variable {a:Expr}{pt:Pos}
def zX9 (K:K6) (ta:TA):TI:=λσ H R=>ta σ H λvs H2=>∃t xs,vs=[.ref t]/\SqT K H2 t xs/\R (Ite K t) H2
theorem zJ2 {ta:TA}(hg:Gl X "enumerate") (hm:X.mg "enumerate" = none) (ha:PA X [a] ta) (hs:K0g [a] X.env=[(false,eval a X.env)]:=by rfl):PI X (.Tuple elts kk pt) (.Call (.Name "enumerate" p) [a] [] pos) (zX9 X.K ta):=by
 intro pins s σ H R I h;refine Call_ (z55 I hg hm boot_enumerate (K3f (thn (ha pos pins s σ H _ I h) λus s1 ⟨vs,H1,I1,r1,q1⟩=>?_) (by rw[hs];rfl) rfl));obtain⟨t,xs,e,q2,q⟩:=q1;subst e;obtain⟨u,rfl,ru⟩:=vals1 r1;cases ru;obtain⟨its,rv,pl,hz⟩:=I1.tuple q2;have pT:s1.heap.IsTuple t its.toArray:=pl;have lt:t<s1.heap.objs.size:=by obtain⟨o,e,_⟩:=pl;exact K0e e
 refine Z2g K8b .(1) (K6t _) (K72 _) (λobj=>K51 obj _) K73 (zf2 t its.toArray) ⟨pT,?_⟩;have y1:(s1.heap.push { cls:=.type "tuple_iterator",data:=.fields #[.ref t,.int 0 0] }).objs.size=.(j)+1:=K24 ..;have x2:((s1.heap.push { cls:=.type "tuple_iterator",data:=.fields #[.ref t,.int 0 0] }).push { cls:=.type "enumerate",data:=.fields #[.none,.bool false,.ref .(j),rawInt 0,.none,.none] }).get? (.(j)+1)=some { cls:=.type "enumerate",data:=.fields #[.none,.bool false,.ref .(j),rawInt 0,.none,.none] }:=by rw[<- y1];exact K0a _ rfl
 have x1:((s1.heap.push { cls:=.type "tuple_iterator",data:=.fields #[.ref t,.int 0 0] }).push { cls:=.type "enumerate",data:=.fields #[.none,.bool false,.ref .(j),rawInt 0,.none,.none] }).get? .(j)=some { cls:=.type "tuple_iterator",data:=.fields #[.ref t,.int 0 0] }:=K7 _ (K0a _ rfl);show _/\_;rw[y1];refine⟨⟨_,x2,rfl⟩,K6g (e:=.(j)+1) (it:=.(j)) (i:=0) (old:=.none) x2 ?_⟩;refine⟨.(j)+1,_,_,_,H1,rfl,I1.kept (t':=s1.toks) (λc o q=>K7 _ (K7 _ q)),zm7 (it:=.(j)) (t:=t) (K26 (K6n _)) (K0o lt) (K26 (K36 lt)),⟨⟨_,x2⟩,⟨_,x1,rfl,rfl⟩⟩,λb hb=>?_,q⟩;have hb':.(j)<=b:=by
  simp at hb;rcases hb with rfl|rfl
  ·exact K4x _
  ·exact K01 _
 exact I1.fpOk hb' (I1.hok.fresh hb')
def z1l (xs:List D):List D:=(K9 xs.length).map λ(i:Nat)=>.tup [.int i,(xs[i]?).getD .non]
def z9K (ma:G->M D):G->M Src:=λγ=>do
 let l <- z7 ma aNil γ
 match l with
 | [.tup xs]=>pure (.con (z1l xs))
 | _=>bad
theorem z4N {xs:List D}(h:(z1l xs)[i]?=some d):∃x,xs[i]?=some x/\d=.tup [.int i,x]:=by
 unfold z1l at h;rw[K0k]at h;obtain⟨j,e1,e2⟩:=K0y.mp h;obtain⟨h1,h2⟩:=K3.mp e1;simp at h1 h2;subst h2;rw[K00 h1]at e2;exact⟨_,K00 h1,e2.symm⟩
theorem zd7 (hc:X.calm=true) (hg:Gl X "enumerate") (hm:X.mg "enumerate" = none) (ha:SE X EX a ma) (hs:K0g [a] X.env=[(false,eval a X.env)]:=by rfl):SI X EX (.Tuple elts kk pt) (.Call (.Name "enumerate" p) [a] [] pos) (z9K ma) :=
 ⟨PI.imp (zJ2 hg hm (z6 ha z9 hs).h hs) λσ H R ⟨ρ,γ,h,rel,fin⟩=>⟨ρ,γ,h,rel,(Fin.bind fin).mono λl ρ1 h1 H1 p1 e1 r1 f1 vs rv=>by
  split at f1
  ·rename_i xs;simp only[RDs,RD]at rv;obtain⟨_,_,rfl,⟨t,us,rfl,q1,d1⟩,rfl⟩:=rv;refine⟨t,us,rfl,q1,f1 ρ1 H1 .(b) .(c) r1 _ λi ρ2 h4 H2 p2 e2 r2 _=>⟨λd hd=>?_,λhi=>?_⟩⟩
   ·have hd':(z1l xs)[i]?=some d:=hd;obtain⟨x,g1,rfl⟩:=z4N hd';obtain⟨v1,a1,b1⟩:=(d1.mono p2 e2).get g1;refine⟨⟨us,v1,e2.t _ _ q1,a1⟩,λv H3 ⟨T,x',n1,n2,n3,n5⟩=>?_⟩;have m1:=n3 us (e2.t _ _ q1);rw[a1]at m1;cases m1;subst n2;subst n5;have ext:Ext X.K H2 (L2.upd H2 T (.tup [.int i,v1])):=Ext.upd (.inl n1);refine⟨?_,r2.other n1,ext⟩;simp only[RD];exact⟨T,_,rfl,SqT.of J8,RDs.cons (by simp[RD]) (RDs.cons (b1.mono .(b) ext) RDs.nil)⟩
   ·have hi':(z1l xs).length=i:=hi;unfold z1l at hi';rw[K03,K2b]at hi';have l1:=d1.length;exact⟨us,e2.t _ _ q1,by omega⟩
  ·exact(show False from f1).elim⟩⟩
end
end FT
namespace L2
theorem range_all {α:Type}(r:List α):(K9 r.length).filterMap (λm=>r[m]?)=r:=by
 have:=pick_run r.toArray 0 .(k);rw[K5q]at this;have e:((λx=>r.toArray[x]?) ∘ λx=>0+x)=λm=>r[m]?:=by funext m;simp
 rw[e]at this;rw[this];simp
theorem z9a {α β:Type}{f g:α->Option β}:∀{l:List α},(∀x∈l,f x=g x)->l.filterMap f=l.filterMap g
 | [],_=>rfl
 | a::l,h=>by
  rw[K2r,K2r,h a K10,z9a λx hx=>h x (K0s _ hx)]
theorem z5e {α:Type}(l:List α) (f:Nat->Option α) (hf:∀m,m<l.length->f m=l[l.length - 1 - m]?):(K9 l.length).filterMap f=l.reverse:=by
 have:=range_all l.reverse;rw[K3a]at this;rw[<- this];exact z9a λm hm=>by
  have hm':m<l.length:=by simpa using hm
  rw[hf m hm',List.getElem?_reverse hm']
theorem zl1 (its:List Value):Z2m its.toArray none none (some (-1))=its.reverse.toArray:=by
 unfold Z2m;have b:K4d none none (some (-1)) its.toArray.size=((its.length:Int) - 1,-1,-1):=by
  unfold K4d;rw[K05];rfl
 rw[b];unfold sliceRange;have c:(if (-1:Int) > 0 then (if (its.length:Int) - 1 < -1 then (-1 - ((its.length:Int) - 1)+-1 - 1) / -1 else 0) else if (its.length:Int) - 1 > -1 then ((its.length:Int) - 1 - -1 - -1 - 1) / - -1 else 0).toNat=its.length:=by
  rw[if_neg .(1)];by_cases h:(its.length:Int) - 1 > -1
  ·rw[if_pos h];have:((its.length:Int) - 1 - -1 - -1 - 1) / - -1=its.length:=by
    rw[show (- -1:Int)=1 from rfl,Z25];omega
   rw[this,K0f]
  ·rw[if_neg h];omega
 dsimp only;rw[c,K5q];congr 1;refine z5e its _ λm hm=>?_;have:((its.length:Int) - 1+-1 * (m:Int)).toNat=its.length - 1 - m:=by omega
 show its.toArray[((its.length:Int) - 1+-1 * (m:Int)).toNat]?=_;rw[this];simp
section
variable {prog:K1h}{w:World}{A:Around}{E:Value->Shared->Prop}{s:Shared}
theorem z6C {sl:Addr}{t:Tok}{n:Nat}{Q:Int×Int×Nat->Shared->Prop}(hs:s.heap.IsSliceOf sl .none .none (.int (-1) t))
 (h:Q ((n:Int) - 1,-1,n) s):wpAny (model prog w) A (K3o (.ref sl) (pure (n:Int))) Q E s:=by
 obtain⟨os,h1,h2,h3⟩:=id hs;unfold K3o K7l;refine K0 (K0 (K42 h1 h3 (x:=.none) rfl (K0 (K42 h1 h3 (x:=.none) rfl (K0 (K42 h1 h3 (x:=.int (-1) t) rfl (K8 ?_)))))));refine K0 (slicePart_int ?_);show wpAny _ _ (if ((-1:Int)==0)=true then _ else _) _ _ s;rw[if_neg .(1)];refine K0 (K7b (K0 (K7b (K0 (K8 ?_)))));have e1:K2u none none (-1) (n:Int)=((n:Int) - 1,-1):=rfl;have e2:K1q ((n:Int) - 1) (-1) (-1)=n:=by
  unfold K1q;rw[if_neg .(1)];by_cases h:(n:Int) - 1 > -1
  ·rw[if_pos h,show (-(-1):Int)=1 from rfl,Z25];omega
  ·rw[if_neg h];omega
 show wpAny _ _ (match K2u none none (-1) (n:Int) with|(lo,hi)=>pure (lo,(-1:Int),K1q lo hi (-1))) _ _ s;rw[e1];show wpAny _ _ (pure ((n:Int) - 1,(-1:Int),K1q ((n:Int) - 1) (-1) (-1))) _ _ s;rw[e2];exact K8 h
theorem z9g {t sl:Addr}{items:Array Value}{k:Tok}{Q:Value->Shared->Prop}(ht:IsTup s.heap t items) (hs:s.heap.IsSliceOf sl .none .none (.int (-1) k))
 (h:Q (.ref .(5)) { s with heap:=s.heap.push { cls:=.type "tuple",data:=.seq items.toList.reverse.toArray } }) (hsz:.(v)<=sizeLine):wpAny (model prog w) A (K5l (.ref t) (.ref sl)) Q E s:=by
 have fits:sizeOk (.seq items.toList.reverse.toArray):=by
  show items.toList.reverse.toArray.size<=sizeLine;rw[K05,K3a,K16];exact hsz
 obtain⟨os,h1,h2,h3⟩:=id hs;have hT:s.TypeIs (.ref sl) "slice":=⟨os,h1,h2⟩;unfold K5l
 try with_reducible refine K22 ?_
 first|refine K0 (K8 ?_)|skip
 refine K0 (K83 ht.typeIs .(1) (K0 (K27 (name:=K3e "__getitem__") ht.typeIs K18 (K1y K18 ht.typeIs K6w ?_ (K7f _ _)))));show wpAny _ _ (K4y (.ref t) >>= _) _ _ s;refine K0 (Z1h ht (K0 (K54 hT ?_)));rw[if_pos .(1)];refine K0 (z6C hs ?_);show wpAny _ _ (if (((items.size:Int) - 1)==0&&(-1:Int)==1&&.(v)==.(v))=true then _ else _) _ _ s;have no:¬ ((((items.size:Int) - 1)==0&&(-1:Int)==1&&.(v)==.(v))=true):=by
  rw[show ((-1:Int)==1)=false from rfl,K3p,K31];exact K11
 have e:((K9 .(v)).filterMap λ(m:Nat)=>items[((items.size:Int) - 1+(m:Int) * -1).toNat]?).toArray=items.toList.reverse.toArray:=by
  congr 1;have:=z5e items.toList (λ(m:Nat)=>items[((items.size:Int) - 1+(m:Int) * -1).toNat]?) λm hm=>by
   rw[K16]at hm ⊢;have:((items.size:Int) - 1+(m:Int) * -1).toNat=.(v) - 1 - m:=by omega
   rw[this,K2v]
  rw[K16]at this;exact this
 rw[if_neg no,e]
 first
  | exact K0 (m:=K1f _) (K14 (K8 ⟨_,rfl,K8 h⟩) fits)
  | exact K0 (m:=K1f _) (K14 (K0 (K8 (K8 ⟨_,rfl,K8 h⟩))) fits)
  | exact K0 (K0 (m:=K1f _) (K14 (K8 (K8 ⟨_,rfl,K8 h⟩)) fits))
  | exact K0 (K0 (m:=K1f _) (K14 (K8 ⟨_,rfl,K8 h⟩) fits))
end
section
variable {X:Cx}{e st:Expr}{te ts:TE}{pos p2:Pos}
def RvR (X:Cx) (r:V->Hp->VK->Prop):Prop :=
 ∀(pins:List .(x)) (s:Shared) (σ:St) (H:Hp) (x:V) (v:Value) (t:Tok) (sl:Addr) (Q:VK),Inv X pins σ H s->RelV x v->s.heap.IsSliceOf sl .none .none (.int (-1) t)->r x H Q ->
  ∃T id,Z1q (.type T) "__getitem__" = pure (some (.builtin id))/\s.TypeIs v T/\wpAny .(6) X.A (K5l v (.ref sl)) (EP X pins σ Q) X.xe s
def tRv (r:V->Hp->VK->Prop) (te ts:TE):TE:=λσ H Q=>te σ H λx H1=>ts σ H1 λy H2=>y=.int (-1)/\r x H2 Q
theorem zR7 {r:V->Hp->VK->Prop}(hr:RvR X r) (he:PE X e te) (hs:PE X st ts):PE X (.Subscript e (.Slice none none (some st) p2) pos) (tRv r te ts):=by
 intro pins s σ H Q I h;refine Z1s (thn (he pins s σ H _ I h) λv s1 ⟨x,H1,I1,r1,q1⟩=>?_);refine wpAny_Slice ?_;rw[Z1k];refine K8 (K8 ?_);rw[evalPart_some];refine thn (hs pins s1 σ H1 _ I1 q1) λu s3 ⟨y,H3,I3,r3,q3⟩=>?_;obtain⟨rfl,q⟩:=q3;obtain⟨t,rfl⟩:=r3;have I4:Inv X pins σ H3 { s3 with heap:=s3.heap.push { cls:=.type "slice",data:=.fields #[.none,.none,.int (-1) t] } }:=I3.kept (t':=s3.toks) λb ob q=>K7 _ q;obtain⟨T,id,hT,ht,hg⟩:=hr pins _ σ H3 x v t s3.heap.objs.size Q I4 r1 (Z1l ..) q;show wpAny .(6) X.A (K8a e (.Slice none none (some st) p2) v (.ref s3.heap.objs.size)) (EP X pins σ Q) X.xe { s3 with heap:=s3.heap.push { cls:=.type "slice",data:=.fields #[.none,.none,.int (-1) t] } };exact tail_any (ops:=[v,.ref s3.heap.objs.size]) ht hT hg (by with_unfolding_all rfl)
theorem RvR.or {r r':V->Hp->VK->Prop}(h:RvR X r) (h':RvR X r'):RvR X (λx H Q=>r x H Q\/r' x H Q):=by
 intro pins s σ H x v t sl Q I rx hs q;rcases q with q|q
 ·exact h pins s σ H x v t sl Q I rx hs q
 ·exact h' pins s σ H x v t sl Q I rx hs q
def rRvL (K:K6):V->Hp->VK->Prop:=λx H Q=>∃a xs,x=.ref a/\SqL K H a xs/\∀p,H p=none->Q (.ref p) (upd H p (.lst xs.reverse))
def rRvT (K:K6):V->Hp->VK->Prop:=λx H Q=>∃a xs,x=.ref a/\SqT K H a xs/\∀p,H p=none->Q (.ref p) (upd H p (.tup xs.reverse))
theorem rv_list:RvR X (rRvL X.K):=by
 intro pins s σ H x v t sl Q I rx hs h;obtain⟨a,xs,rfl,hx,q⟩:=h;cases rx;obtain⟨its,r,ht,hz⟩:=I.list hx;have hlen:=.(k);refine⟨"list",_,K7p.lookup,ht.isList.typeIs,?_⟩;refine K8c ht.isList hs .none .none (.int (-1) t) .(f) ?_ (by rw[K05]<;>omega);rw[zl1];refine⟨.ref .(5),_,I.laid (t':=s.toks) (o:=.lst xs.reverse) (λb ob q=>K7 _ q) (K01 _) ?_,rfl,q _ (I.hok.fresh (K01 _))⟩;exact⟨by rw[K3a];exact hz,_,0,r.reverse,K0a _ rfl⟩
theorem zQ0:RvR X (rRvT X.K):=by
 intro pins s σ H x v t sl Q I rx hs h;obtain⟨a,xs,rfl,hx,q⟩:=h;cases rx;obtain⟨its,r,ht,hz⟩:=I.tuple hx;have hlen:its.toArray.size=xs.length:=by rw[K05];exact r.length.symm
 refine⟨"tuple",_,K18.lookup,ht.typeIs,?_⟩;refine z9g ht hs ?_ (by rw[hlen];exact hz);refine⟨.ref .(5),_,I.laid (t':=s.toks) (o:=.tup xs.reverse) (λb ob q=>K7 _ q) (K01 _) ?_,rfl,q _ (I.hok.fresh (K01 _))⟩;exact⟨by rw[K3a];exact hz,_,r.reverse,FT.IsTup0.new _ _⟩
end
end L2
namespace FT
variable{K:K6}{ρ:List Addr}{mr:G->M (List D)}
theorem RDs.reverse {K:K6}{ρ:List Addr}{H:Hp}:∀{ds:List D}{vs:List V},RDs K ρ H ds vs->RDs K ρ H ds.reverse vs.reverse
 | [],vs,h=>by
  simp only[RDs]at h;subst h;exact RDs.nil
 | d::ds,vs,h=>by
  simp only[RDs]at h;obtain⟨x,r,rfl,h2,h3⟩:=h;rw[K4u,K4u];exact(RDs.reverse h3).append (RDs.cons h2 RDs.nil)
theorem rds2 {H:Hp}{d d':D}{vs:List V}(h:RDs K ρ H [d,d'] vs):∃v v',vs=[v,v']/\RD K ρ H d v/\RD K ρ H d' v':=by
 simp only[RDs]at h;obtain⟨x,r,rfl,h2,y,q,rfl,h3,rfl⟩:=h;exact⟨x,y,rfl,h2,h3⟩
def fRev:D->M D
 | .tup xs=>pure (.tup xs.reverse)
 | .fl xs=>newL xs.reverse
 | .ref n=>do
  let xs <- getL n
  newL xs.reverse
 | _=>bad
def eRev (ma ms:G->M D):G->M D:=λγ=>do
 let x <- ma γ;let y <- ms γ
 match y with
 | .int i=>if i=-1 then fRev x else bad
 | _=>bad
def eNeg (ma:G->M D):G->M D:=λγ=>do
 let x <- ma γ
 match x with
 | .int i=>pure (.int (-i))
 | _=>bad
section
variable {X:Cx}{EX:XX}{a b st:Expr}{pos p p2:Pos}{ma ms:G->M D}
theorem zC5 {h:AH}{H:Hp}{x:D}{v:V}{Q:VK}(r:RH X.K ρ h H) (rx:RD X.K ρ H x v) (fin:FE X.K EX ρ H Q (fRev x h)):rRvL X.K v H Q\/rRvT X.K v H Q:=by
 cases x<;>first|exact(show False from fin).elim|skip
 case tup xs =>
  simp only[RD]at rx;obtain⟨q,vs,rfl,h1,h2⟩:=rx;have fin':FE X.K EX ρ H Q (.ok (.tup xs.reverse) h):=fin;exact .inr ⟨q,vs,rfl,h1,λp hp=>FE.tup fin' r h2.reverse hp⟩
 case fl xs =>
  simp only[RD]at rx;obtain⟨q,vs,rfl,h1,h2⟩:=rx;have fin':FE X.K EX ρ H Q (newL xs.reverse h):=fin;unfold newL at fin';split at fin'
  ·exact .inl ⟨q,vs,rfl,h1.sq,λp hp=>FE.lst fin' r h2.reverse hp⟩
  ·exact fin'.elim
 case ref n =>
  simp only[RD]at rx;obtain⟨q,rfl,h1⟩:=rx;have fin':FE X.K EX ρ H Q ((getL n >>= λxs=>newL xs.reverse) h):=fin;have f1:=Fin.bind fin';cases e:getL n h with
  | bad=>rw[e]at f1;exact f1.elim
  | err z hz=>exact(z1h e).elim
  | ok xs h2 =>
   obtain⟨rfl,q1⟩:=z1e e;rw[e]at f1;have f2:=f1 ρ H .(b) .(c) r;dsimp only at f2;unfold newL at f2;split at f2
   ·obtain⟨a1,n1,vs,o1,d1⟩:=r.at q1;rw[h1]at n1;cases n1;exact .inl ⟨q,vs,rfl,SqL.of o1,λp hp=>FE.lst f2 r d1.reverse hp⟩
   ·exact f2.elim
theorem zv9 (ha:SE X EX a ma) (hs:SE X EX st ms):SE X EX (.Subscript a (.Slice none none (some st) p2) pos) (eRev ma ms) :=
 ⟨PE.imp (zR7 (rv_list.or zQ0) ha.h hs.h) λσ H Q ⟨ρ,γ,h,rel,fin⟩=>⟨ρ,γ,h,rel,(Fin.bind fin).mono λx ρ1 h1 H1 p1 e1 r1 f1 v rv=>⟨ρ1,γ,h1,⟨rel.g.mono p1 e1,r1⟩,(Fin.bind f1).mono λy ρ2 h2 H2 p2 e2 r2 f2 u ru=>by
  cases y<;>first|exact(show False from f2).elim|skip
  rename_i i;simp only[RD]at ru;subst ru;dsimp only at f2;split at f2
  ·rename_i hi;subst hi;exact⟨rfl,zC5 r2 (rv.mono p2 e2) f2⟩
  ·exact f2.elim⟩⟩⟩
theorem z2A (ha:SE X EX a ma):SE X EX (.UnaryOp .USub a pos) (eNeg ma) :=
 ⟨PE.imp (Z12 Z04 ha.h) λσ H Q ⟨ρ,γ,h,rel,fin⟩=>⟨ρ,γ,h,rel,(Fin.bind fin).mono λx ρ1 h1 H1 p1 e1 r1 f1 v rv=>by
  cases x<;>first|exact(show False from f1).elim|skip
  rename_i t;simp only[RD]at rv;exact⟨t,rv,FE.here (d:=.int (-t)) (h:=h1) (ρ:=ρ1) f1 r1 (by simp[RD])⟩⟩⟩
end
end FT
namespace L2
structure Kept (l:List Env) (e T:Addr) (h h':Heap):Prop where
 keep:∀b o,h.get? b=some o->b∉frs l->b≠e->b≠T->h'.get? b=some o
 slot:∀b o,h.get? b=some o->b∈frs l->∃sl,h'.get? b=some { o with slots:=sl }
section
variable {M:Model}{A:Around}{E:Value->Shared->Prop}{h:Heap}{g:Array Z2b}{d:Drawn}{t:Nat}{os:OsState}{C Ch e:Addr}{oe:Obj}{b:Bool}{Q:Bool->Shared->Prop}
 {nm q:Str} {N:Addr} {bs bm:List Value} {hdct:Bool} {sn:List Str} {sub:List Value} {ab:Bool} {col:Option Bool} {dd:Option Addr} {k0 k1 k2 k3 k5:Option Value} {newId:String}
 {nm' q':Str} {N':Addr} {bs' bm':List Value} {hdct':Bool} {sn':List Str} {sub':List Value} {ab':Bool} {col':Option Bool} {dd':Option Addr} {k0' k1' k2' k3' k5':Option Value} {newId':String}
end
end L2
namespace FT
variable{P:K1h}{w:World}{K:K6}{mg:Str->Option Value}{base:Heap}{N ps l ns loose:List Str}{f:Addr}{outer:List Env}{H:Hp}{bm:List Value}{X:Cx}{EX:XX}{ma me:G->M D}{x:Str}{st:Stmt}{fd:K5b}{n:Nat}{h h1 r:AH}{γ:G}{Q:Out->AH->Prop}{mt ms mb body:G->M Out}{d:D}{i j:Int}{b:Bool}{t:String}{mi:G->M Src}{g:D->G->M G}{cap:List (Option Nat)}{xs:List D}{o:O}{mk:List (List Str)}{XP:(Str->Option Value)->Heap->Prop}{YP:World->Heap->Prop}{m:List D->M D}{ρ:List Addr}{e:Expr}
section
variable {qual c:Str}{scope:Scope}{C:Addr}{cd:Value}{A:Around}{s:Shared}{E:XK}
 {e₀:Expr} {rest:List Expr} {mr:G->M (List D)} {np cpos pos:Pos}
end
def fInT (neg:Bool):D->D->M D
 | .str i,.str j=>pure (.bl ((!(K1v j i 0 j.length 1).isEmpty) != neg))
 | _,_=>bad
section
variable {a:Expr}{p p2 pos:Pos}{k:Str->Option Bool}
theorem zC0:BR K EX (λx y H Q=>∃i j,x=.str i/\y=.str j/\Q (.bl (!(!(K1v j i 0 j.length 1).isEmpty))) H) (fInT true):=by
 intro ρ h H x y v u Q r rx ry fin;unfold fInT at fin;split at fin
 ·rename_i i j;simp only[RD]at rx ry;subst rx;subst ry;refine⟨i,j,rfl,rfl,FE.here fin r ?_⟩;cases (K1v j i 0 j.length 1).isEmpty<;>simp[RD]
 ·exact fin.elim
theorem zL7:CO X EX .NotIn (fInT true):=⟨_,z6x,zC0⟩
end
theorem zG0 {k:Nat}(F:Fun K x x st f fd) (hb:Binds K fd ps []) (mx:mg x=.(r f)) (hn:ps.length=n):Fn P w K mg base k x n (λ_=>bad) :=
 ⟨f,fd,ps,⟨λvs H Q E h=>h.1.trans hn.symm,λA outer s H args us vs Q E _ _ _ _ h=>by
  obtain⟨_,ρ,ds,hh,_,_,fin⟩:=h;exact(show False from fin).elim⟩,hb,F.kp,mx⟩
variable {α β:Type}
def W (m:M α) (h:AH) (Q:α->AH->Prop):Prop:=∃a h',m h=.ok a h'/\Q a h'
theorem Z7 {m:M α}{f:α->M β}{Q:β->AH->Prop}:W (m >>= f) h Q↔W m h λa h1=>W (f a) h1 Q:=by
 constructor
 ·rintro⟨b,h2,e,q⟩;rw[bindM]at e;cases em:m h with
  | ok a h1=>rw[em]at e;exact⟨a,h1,em,b,h2,e,q⟩
  | err x h1=>rw[em]at e;cases e
  | bad=>rw[em]at e;cases e
 ·rintro⟨a,h1,e,b,h2,e',q⟩;exact⟨b,h2,by rw[M.bind_ok e,e'],q⟩
theorem W_pure {a:α}{Q:α->AH->Prop}:W (Z3i a:M α) h Q↔Q a h:=by
 constructor
 ·rintro⟨b,h2,e,q⟩;cases e;exact q
 ·exact λq=>⟨a,h,rfl,q⟩
theorem z05 {Q:α->AH->Prop}:W (bad:M α) h Q↔False:=by
 constructor
 ·rintro⟨b,h2,e,q⟩;cases e
 ·exact K47
theorem Y7 {c:Prop}[Decidable c]{m n:M α}{Q:α->AH->Prop}:W (if c then m else n) h Q↔if c then W m h Q else W n h Q:=by
 split<;>exact Iff.rfl
theorem W.mono {m:M α}{Q Q':α->AH->Prop}(z:W m h Q) (f:∀a h',Q a h'->Q' a h'):W m h Q':=let ⟨a,h',e,q⟩:=z;⟨a,h',e,f a h' q⟩
theorem W.of {m:M α}{h':AH}{a:α}{Q:α->AH->Prop}(e:m h=.ok a h') (q:Q a h'):W m h Q:=⟨a,h',e,q⟩
theorem z3d:W (bNil γ) h Q↔Q (.nx γ) h:=W_pure
def zM2 (mt:G->M Out) (Q:Out->AH->Prop):Out->AH->Prop:=λo h=>match o with
 | .nx γ=>W (mt γ) h Q
 | o=>Q o h
theorem J0:zM2 mt Q (.nx γ) h↔W (mt γ) h Q:=Iff.rfl
theorem Y9:zM2 mt Q (.rt d) h↔Q (.rt d) h:=Iff.rfl
theorem w_cons:W (Z0 ms mt γ) h Q↔W (ms γ) h (zM2 mt Q):=by
 unfold Z0;rw[Z7];constructor
 ·rintro⟨o,h1,e,q⟩;refine⟨o,h1,e,?_⟩;cases o with
  | nx γ=>exact q
  | rt d=>exact(W_pure (a:=Out.rt d) (Q:=Q)).mp q
  | bk d=>exact(W_pure (a:=Out.bk d) (Q:=Q)).mp q
  | ct d=>exact(W_pure (a:=Out.ct d) (Q:=Q)).mp q
 ·rintro⟨o,h1,e,q⟩;refine⟨o,h1,e,?_⟩;cases o with
  | nx γ=>exact q
  | rt d=>exact W_pure.mpr q
  | bk d=>exact W_pure.mpr q
  | ct d=>exact W_pure.mpr q
def runW (Q:D->AH->Prop):Out->AH->Prop:=λo h=>match o with
 | .nx _=>Q .non h
 | .rt d=>Q d h
 | _=>False
theorem z2n {ds:List D}{Q:D->AH->Prop}(z:W (mb (z1w n ds)) h (runW Q)):W (runF n mb ds) h Q:=by
 unfold runF;rw[Z7];refine z.mono λo h1 q=>?_;cases o with
 | nx γ=>exact W_pure.mpr q
 | rt d=>exact W_pure.mpr q
 | bk d=>exact q.elim
 | ct d=>exact q.elim
theorem z1U:fAdd (.int i) (.int j)=pure (.int (i+j)):=rfl
theorem z8y:fSub (.int i) (.int j)=pure (.int (i - j)):=rfl
theorem z42:fGt (.int i) (.int j)=pure (.bl (decide (j<i))):=rfl
theorem zZ9:fGe (.int i) (.int j)=pure (.bl (decide (j<=i))):=rfl
theorem z7l:fLt (.int i) (.int j)=pure (.bl (decide (i<j))):=rfl
theorem zr3:fLe (.int i) (.int j)=pure (.bl (decide (i<=j))):=rfl
theorem z7G:fEq b (.int i) (.int j)=pure (.bl (decide (i=j) != b)):=rfl
theorem Y6:asB (.bl b)=pure b:=rfl
theorem z1m:truD (.bl b)=pure b:=rfl
theorem z5z {Q:Nat->AH->Prop}:W (z37 (.ref n)) h Q↔W (getL n) h λ_ h1=>Q n h1:=by
 unfold W z37 getL;dsimp only;cases e:h[n]? with
 | none=>exact .(r)
 | some o =>
  cases o with
  | set ks=>exact .(r)
  | dct=>exact .(r)
  | dK kvs=>exact .(r)
  | dF kvs=>exact .(r)
  | exc c=>exact .(r)
  | ins _ _=>exact .(r)
  | lst xs=>exact⟨λ⟨_,_,z,q⟩=>(by cases z;exact⟨xs,h,rfl,q⟩),λ⟨_,_,z,q⟩=>(by cases z;exact⟨n,h,rfl,q⟩)⟩
theorem zx8:fIsi t (.bl b)=pure (.bl (subT "bool" t)):=rfl
theorem zB3 {b:Int}:fIsi t (.int b)=pure (.bl (subT "int" t)):=rfl
theorem z9Q {b:Str}:fIsi t (.str b)=pure (.bl (subT "str" t)):=rfl
theorem z9Y {b:List D}:fIsi t (.tup b)=pure (.bl (subT "tuple" t)):=rfl
def forW (J:G->AH->Prop) (R:D->AH->Prop):Out->AH->Prop:=λo h=>match o with
 | .nx γ=>J γ h
 | .ct γ=>J γ h
 | .bk _=>False
 | .rt d=>R d h
def endW (J:G->AH->Prop) (R:D->AH->Prop):Out->AH->Prop:=λo h=>match o with
 | .nx γ=>J γ h
 | .ct _=>False
 | .bk _=>False
 | .rt d=>R d h
theorem z7w {src:Src}{g:D->G->M G}{body:G->M Out}(I:Nat->G->AH->Prop) (R:D->AH->Prop) (good:∀i γ h,I i γ h->src.good h):∀(items:List D) (n:Nat) (γ:G) (h:AH),
 (∀i d γ h,items[i]?=some d->I (n+i) γ h->W (g d γ) h λγ1 h1=>W (body γ1) h1 (forW (I (n+i+1)) R))->I n γ h ->
 W (forR src g body items γ) h (endW (I (n+items.length)) R)
 | [],n,γ,h,_,q=>⟨.nx γ,h,by unfold forR Src.chk;simp[good _ _ _ q],q⟩
 | d::r,n,γ,h,z,q=>by
  unfold forR;rw[Z7];refine W.of (a:=()) (h':=h) (by unfold Src.chk;simp[good _ _ _ q]) ?_;rw[Z7];refine(z 0 d γ h rfl q).mono λγ1 h1 q1=>?_;rw[Z7];refine q1.mono λo h2 q2=>?_;have step:∀γ2,I (n+0+1) γ2 h2->W (forR src g body r γ2) h2 (endW (I (n+(d::r).length)) R):=λγ2 w=>by
   have:=z7w (src:=src) I R good r (n+1) γ2 h2 (λi d γ h e q=>by
    have:=z (i+1) d γ h (by simpa using e) (by rw[show n+(i+1)=n+1+i by omega];exact q);rw[show n+(i+1)+1=n+1+i+1 by omega]at this;exact this) (by simpa using w)
   rw[show n+1+r.length=n+(d::r).length by simp;omega]at this;exact this
  cases o with
  | nx γ2=>exact step γ2 q2
  | ct γ2=>exact step γ2 q2
  | bk γ2=>exact q2.elim
  | rt v=>exact W_pure.mpr q2
theorem z2o (J:G->AH->Prop) (z:W (ms γ) h (endW J λd h=>Q (.rt d) h)) (k:∀γ h,J γ h->W (mt γ) h Q):W (Z0 ms mt γ) h Q:=by
 rw[w_cons];refine z.mono λo h1 q=>?_;cases o with
 | nx γ=>exact k γ h1 q
 | rt d=>exact q
 | bk d=>exact q.elim
 | ct d=>exact q.elim
theorem z6h {i:Nat}(e:(z14 n)[i]?=some d):d=.int i/\i<n:=by
 unfold z14 at e;rw[K0k]at e;obtain⟨j,e1,e2⟩:=K0y.mp e;obtain⟨h1,h2⟩:=K3.mp e1;simp at h1 h2;subst h2;exact⟨e2.symm,h1⟩
theorem z0i {ma:G->M D}{i:Nat}{body:G->M Out}{γ:G}{h:AH}(I:Nat->G->AH->Prop) (R:D->AH->Prop){Q:Out->AH->Prop}
 (hs:W (ma γ) h λd h1=>∃n:Nat,d=.int n/\n<4611686018427387904/\I 0 γ h1/\(∀k γ h,k<n->I k γ h->W (body (γ.set i (.(i k)))) h (forW (I (k+1)) R))/\(∀γ h',I n γ h'->Q (.nx γ) h')/\∀d h',R d h'->Q (.rt d) h') :
 W (sFor (z0y ma) (gN i) body γ) h Q:=by
 unfold sFor z0y;rw[Z7,Z7];refine hs.mono λd h1 ⟨n,e,hn,i0,st,fin⟩=>?_;subst e;dsimp only;rw[if_pos .(0),W_pure];have:=z7w (src:=.con (z14 (n:Int).toNat)) (g:=gN i) (body:=body) I R (λ_ _ _ _=>trivial) (z14 (n:Int).toNat) 0 γ h1 (λk d γ h e q=>by
  obtain⟨rfl,hk⟩:=z6h e;rw[K6y]at q ⊢;exact W_pure.mpr (st k γ h (by simpa using hk) q)) i0
 rw[show 0+(z14 (n:Int).toNat).length=n by unfold z14;simp]at this;refine this.mono λo h' q=>?_;cases o with
 | nx γ=>exact fin.1 γ h' q
 | rt d=>exact fin.2 d h' q
 | bk d=>exact q.elim
 | ct d=>exact q.elim
theorem z1v {mi:G->M Src}{g:D->G->M G}{body:G->M Out}{γ:G}{h:AH}(I:Nat->G->AH->Prop) (R:D->AH->Prop){Q:Out->AH->Prop}
 (hs:W (mi γ) h λsrc h1=>I 0 γ h1/\(∀i γ h,I i γ h->src.good h)/\(∀i d γ h,src.items[i]?=some d->I i γ h->W (g d γ) h λγ1 h1=>W (body γ1) h1 (forW (I (i+1)) R))/\(∀γ h',I src.items.length γ h'->Q (.nx γ) h')/\∀d h',R d h'->Q (.rt d) h') :
 W (sFor mi g body γ) h Q:=by
 unfold sFor;rw[Z7];refine hs.mono λsrc h1 ⟨i0,good,st,fin⟩=>?_;have:=z7w (src:=src) (g:=g) (body:=body) I R good src.items 0 γ h1 (λk d γ h e q=>by
  rw[K6y]at q ⊢;exact st k d γ h e q) i0
 rw[K6y]at this;refine this.mono λo h' q=>?_;cases o with
 | nx γ=>exact fin.1 γ h' q
 | rt d=>exact fin.2 d h' q
 | bk d=>exact q.elim
 | ct d=>exact q.elim
theorem z3h (e:ma γ h=.ok (.int n) h1) (hn:n<4611686018427387904):z0y ma γ h=.ok (.con (z14 n)) h1:=by
 unfold z0y;rw[M.bind_ok e];dsimp only;rw[if_pos .(0)];rfl
theorem z65 {g:D->G->M G}{k:G->M Bool}{me:G->M D}{γ:G}{p:D->Bool}{f:D->D}(src:Src) (h0:AH) (hg:∀j,src.good (h0++j)):∀(items:List D) (acc:List D),acc.length+items.length<=1000000 ->
 (∀d∈items,∃γ1,(∀h,g d γ h=.ok γ1 h)/\(∀j,k γ1 (h0++j)=.ok (p d) (h0++j))/\(p d=true->∀j,me γ1 (h0++j)=.ok (f d) (h0++j))) ->
 z4R src g k me h0.length γ items (h0++[.lst acc])=.ok () (h0++[.lst (acc++(items.filter p).map f)])
 | [],acc,hl,hd=>by unfold z4R Src.chk;simp[hg]
 | d::r,acc,hl,hd=>by
  obtain⟨γ1,e1,e2,e3⟩:=hd d K10;unfold z4R;have chk:src.chk (h0++[.lst acc])=.ok () (h0++[.lst acc]):=by unfold Src.chk;simp[hg]
  rw[M.bind_ok chk,M.bind_ok (e1 _),M.bind_ok (e2 _)];simp only[K02]at hl;have hr:∀d∈r,∃γ1,(∀h,g d γ h=.ok γ1 h)/\(∀j,k γ1 (h0++j)=.ok (p d) (h0++j))/\(p d=true->∀j,me γ1 (h0++j)=.ok (f d) (h0++j)):=λx hx=>hd x (K0s _ hx);cases hp:p d with
  | false =>
   rw[if_neg .(1),z65 src h0 hg r acc .(0) hr,Z2t,hp];rfl
  | true =>
   rw[if_pos rfl,M.bind_ok (e3 hp _)];have ap:J2 h0.length (f d) (h0++[.lst acc])=.ok .non (h0++[.lst (acc++[f d])]):=by
    unfold J2 updL;have g1:(h0++[O.lst acc])[h0.length]?=.(l acc):=by simp
    rw[g1];dsimp only;have hs:(acc++[f d]).length<=sizeLine:=by
     rw[K04,K1c];exact K0d (show acc.length+1<=1000000 by omega) .(1)
    rw[if_pos hs];simp
   rw[M.bind_ok ap,z65 src h0 hg r (acc++[f d]) (by simp;omega) hr,Z2t,hp];simp
theorem z28 {cap:List (Option Nat)}{g:D->G->M G}{k:G->M Bool}{me:G->M D}{src:Src}(p:D->Bool) (f:D->D) (hi:mi γ h=.ok src h) (hg:∀j,src.good (h++j)) (hl:src.items.length<=1000000)
 (hd:∀d∈src.items,∃γ1,(∀h,g d (capG cap γ) h=.ok γ1 h)/\(∀j,k γ1 (h++j)=.ok (p d) (h++j))/\(p d=true->∀j,me γ1 (h++j)=.ok (f d) (h++j))) :
 x5 cap mi g k me γ h=.ok .(u) (h++[.lst ((src.items.filter p).map f)]):=by
 have e:=z65 (g:=g) (k:=k) (me:=me) (γ:=capG cap γ) (p:=p) (f:=f) src h hg src.items [] (by simpa using hl) hd;show (mi γ >>= _) h=_;rw[M.bind_ok hi];rw[M.bind_ok (m:=(λh=>Res.ok (K9h h) (h++[O.lst []]):M Nat)) (h:=h) rfl];rw[M.bind_ok (by simpa using e)];rfl
def Kp (r r':AH):Prop:=∀(n:Nat) (o:O),r[n]?=some o->r'[n]?=some o
theorem Kp.refl (r:AH):Kp r r:=λ_ _ e=>e
theorem Kp.app (r j:AH):Kp r (r++j):=λn o e=>by
 rw[K0z (K3.mp e).1,e]
theorem zi2 {src:Src}{g:D->G->M G}{k:G->M Bool}{me:G->M D}{n0:Nat}{γ:G}(I:Nat->AH->Prop) (good:∀i h,I i h->src.good h):∀(items:List D) (n:Nat) (h:AH),
 (∀i d h,items[i]?=some d->I (n+i) h->W (g d γ) h λγ1 h1=>W (k γ1) h1 λt h2=>if t=true then W (me γ1) h2 λv h3=>W (J2 n0 v) h3 λ_ h4=>I (n+i+1) h4 else I (n+i+1) h2)->I n h ->
 W (z4R src g k me n0 γ items) h λ_ h'=>I (n+items.length) h'
 | [],n,h,_,q=>⟨(),h,by unfold z4R Src.chk;simp[good _ _ q],q⟩
 | d::r,n,h,z,q=>by
  have more:∀h2,I (n+0+1) h2->W (z4R src g k me n0 γ r) h2 λ_ h'=>I (n+(d::r).length) h':=λh2 q2=>by
   have:=zi2 (src:=src) (g:=g) (k:=k) (me:=me) (n0:=n0) (γ:=γ) I good r (n+1) h2 (λi d h e q=>by
    have:=z (i+1) d h (by simpa using e) (by rw[show n+(i+1)=n+1+i by omega];exact q);rw[show n+(i+1)+1=n+1+i+1 by omega]at this;exact this) (by simpa using q2)
   rw[show n+1+r.length=n+(d::r).length by simp;omega]at this;exact this
  unfold z4R;rw[Z7];refine W.of (a:=()) (h':=h) (by unfold Src.chk;simp[good _ _ q]) ?_;rw[Z7];refine(z 0 d h rfl q).mono λγ1 h1 q1=>?_;rw[Z7];refine q1.mono λt h2 q2=>?_;cases t with
  | false=>rw[if_neg .(1)]at q2 ⊢;exact more h2 q2
  | true =>
   rw[if_pos rfl]at q2 ⊢;rw[Z7];refine q2.mono λv h3 q3=>?_;rw[Z7];exact q3.mono λ_ h4 q4=>more h4 q4
theorem zN2 {cap:List (Option Nat)}{mi:G->M Src}{g:D->G->M G}{k:G->M Bool}{me:G->M D}{γ:G}{h:AH}{Q:D->AH->Prop}
 (hs:W (mi γ) h λsrc h1=>∃I:Nat->AH->Prop,I 0 (h1++[.lst []])/\(∀i h,I i h->src.good h) /\
  (∀i d h,src.items[i]?=some d->I i h->W (g d (capG cap γ)) h λγ1 h1'=>W (k γ1) h1' λt h2=>if t=true then W (me γ1) h2 λv h3=>W (J2 h1.length v) h3 λ_ h4=>I (i+1) h4 else I (i+1) h2) /\
  ∀h',I src.items.length h'->Q (.ref h1.length) h'):W (x5 cap mi g k me γ) h Q:=by
 unfold x5;rw[Z7];refine hs.mono λsrc h1 ⟨I,i0,good,st,fin⟩=>?_;rw[Z7];refine W.of (a:=h1.length) (h':=h1++[.lst []]) rfl ?_;rw[Z7];have:=zi2 (src:=src) (g:=g) (k:=k) (me:=me) (n0:=h1.length) (γ:=capG cap γ) I good src.items 0 (h1++[.lst []]) (λi d h e q=>by
  rw[K6y]at q ⊢;exact st i d h e q) i0
 rw[K6y]at this;refine this.mono λ_ h' q=>?_;rw[W_pure];exact fin h' q
class Grow (I:AH->Prop):Prop where
 app:∀h j,I h->I (h++j)
def Pool (gr sm:List Int) (s c:Int) (r:AH):AH:=.lst (gr.map .int)::.lst (sm.map .int)::.lst [.ref 0,.ref 1,.int s,.int c]::r
def PS (h:AH) (k:Int) (r:AH):Prop:=∃gr sm s c,h=Pool gr sm s c r/\0<=s/\s<2147483647/\0<=c/\c<=k/\gr.length<=63/\sm.length<=63
theorem PS.up {k k':Int}(p:PS h k r) (hk:k<=k'):PS h k' r:=by
 obtain⟨gr,sm,s,c,e,h1,h2,h3,h4,h5,h6⟩:=p;exact⟨gr,sm,s,c,e,h1,h2,h3,by omega,h5,h6⟩
theorem PS.app {k:Int}(p:PS h k r) (j:AH):PS (h++j) k (r++j):=by
 obtain⟨gr,sm,s,c,e,q⟩:=p;exact⟨gr,sm,s,c,by rw[e];rfl,q⟩
theorem PS.get {k:Int}(p:PS h k r) (n:Nat):h[n+3]?=r[n]?:=by
 obtain⟨gr,sm,s,c,e,q⟩:=p;rw[e];rfl
theorem PS.len {k:Int}(p:PS h k r):h.length=r.length+3:=by
 obtain⟨gr,sm,s,c,e,q⟩:=p;rw[e];rfl
theorem PS.set {h:AH}{k:Int}{r:AH}(p:PS h k r) (n:Nat) (o:O):PS (h.set (n+3) o) k (r.set n o):=by
 obtain⟨gr,sm,s,c,e,q⟩:=p;exact⟨gr,sm,s,c,by rw[e];rfl,q⟩
theorem z4E {k:Int}{Q:List D->AH->Prop}(p:PS h k r) (e:r[n]?=.(l xs)) (q:Q xs h):W (getL (n+3)) h Q :=
 ⟨xs,h,by unfold getL;rw[p.get,e],q⟩
theorem z0M {k:Int}{Q:D->AH->Prop}(p:PS h k r) (hl:xs.length<=1000000) (z:∀h',PS h' k (r++[.lst xs])->Q (.ref (r.length+3)) h'):W (newL xs) h Q :=
 ⟨.ref (r.length+3),h++[.lst xs],by unfold newL;rw[if_pos (K0d hl .(1)),p.len],z _ (p.app _)⟩
theorem z8t {k:Int}{v:D}{Q:D->AH->Prop}(p:PS h k r) (e:r[n]?=.(l xs)) (hl:xs.length<1000000) (z:∀h',PS h' k (r.set n (.lst (xs++[v])))->Q .non h'):W (J2 (n+3) v) h Q :=
 ⟨.non,h.set (n+3) (.lst (xs++[v])),by
  unfold J2 updL;rw[p.get,e];dsimp only;rw[if_pos (K0d (by simp;omega:(xs++[v]).length<=1000000) .(1))],z _ (p.set _ _)⟩
theorem J7 {j:AH}(e:r[n]?=some o):(r++j)[n]?=some o:=by
 rw[K0z (K3.mp e).1,e]
theorem z0T:(r++[o])[r.length]?=some o:=by simp
def z9m (x:Str):Prop:=1<=x.length/\x.length<=8/\(∀c∈x.cps.toList,97<=c/\c<=122) /\
 x∉(["yes","no","not","and","or","step","some","all","next","once","ever","until","unless"]:List Str)
theorem len_str (x:Str):x.length=x.cps.toList.length:=by simp[Z1o]
theorem z68 (a:Str):∀l:List Str,((l.map D.str).any λz=>eqF z (.str a))=decide (a∈l)
 | []=>by simp
 | b::l=>by
  rw[K0x,K2j,z68 a l];simp only[eqF];rw[K19];simp only[K2f,beq_iff_eq,decide_eq_true_eq,K12];constructor
  ·rintro(h|h)
   ·exact .inl h.symm
   ·exact .inr h
  ·rintro(h|h)
   ·exact .inl h.symm
   ·exact .inr h
theorem z3s:∀l:List Str,(l.map D.str).all z1j=true
 | []=>rfl
 | _::l=>by rw[K0x,K58,z3s l];rfl
def low (x:Str):Prop:=∀c∈x.cps.toList,97<=c/\c<=122
def abc:Str:="abcdefghijklmnopqrstuvwxyz"
theorem zL9:abc.cps.toList=(K9 26).map (·+97):=by decide +kernel
theorem zK6:abc.length=26:=by decide +kernel
theorem zV6 {d:Int}(h0:0<=d) (h1:d<26):fIx (.str abc) (.int d)=pure (.str ⟨#[d.toNat+97]⟩):=by
 unfold fIx;dsimp only;rw[if_pos (by rw[zK6];decide),zL9];obtain⟨n,rfl⟩:=K0v h0;have hn:n<26:=by omega
 rw[z1x (v:=n+97) (by simp[hn])];simp
theorem z5U (x y:Str):(x++y).cps.toList=x.cps.toList++y.cps.toList:=Array.toList_append
theorem len_app (x y:Str):(x++y).length=x.length+y.length:=by rw[len_str,z5U,K04,<- len_str,<- len_str]
theorem Z02 {y:Str}(h:x.length+y.length<=1000):fAdd (.str x) (.str y)=pure (.str (x++y)):=by
 show (if x.length+y.length<=sizeLine then _ else _)=_;rw[if_pos (K0d h .(1))]
theorem z4t (c:Nat):Z1o ⟨#[c]⟩=1:=rfl
theorem z7o {c:Nat}(h:low x) (h1:97<=c) (h2:c<=122):low (x++⟨#[c]⟩):=by
 intro d hd;rw[z5U]at hd;rcases K0i.mp hd with q|q
 ·exact h d q
 ·simp at q;omega
theorem z5Z {k d:Int}{r:AH}{Q:D->AH->Prop}(h0:0<=d) (h1:d<26) (hx:x.length<=100) (q:Q (.str (x++⟨#[d.toNat+97]⟩)) h):W (fIx (.str abc) (.int d)) h λa h1=>W (fAdd (.str x) a) h1 Q:=by
 rw[zV6 h0 h1,W_pure,Z02 (by rw[z4t];omega),W_pure];exact q
def words:List Str:=["yes","no","not","and","or","step","some","all","next","once","ever","until","unless"]
def cand (x:Str) (l:Int) (i:Nat):Str:=x++⟨#[((l+i) % 26).toNat+97]⟩
theorem zp9 {l:Int}(h0:0<=l){i j:Nat}(hi:i<26) (hj:j<26) (e:cand x l i=cand x l j):i=j:=by
 have e2:(cand x l i).cps.toList=(cand x l j).cps.toList:=by rw[e]
 unfold cand at e2;rw[z5U,z5U]at e2;have:=List.append_cancel_left e2;simp at this;omega
theorem zS8 {l:Int}(h0:0<=l) (hn:ns.length<=7) (h:∀i:Nat,i<26->cand x l i∈words\/cand x l i∈ns):False:=by
 have nd:((K9 26).map (cand x l)).Nodup:=by
  rw[List.nodup_iff_pairwise_ne,K7y];refine K87 ?_ K6l;intro a b ha hb hne e;exact hne (zp9 h0 (by simpa using ha) (by simpa using hb) e)
 have sub:((K9 26).map (cand x l)) ⊆ words++ns:=by
  intro y hy;obtain⟨i,hi,rfl⟩:=K07.mp hy;exact K0i.mpr (h i (by simpa using hi))
 have:=nd.length_le_of_subset sub;rw[K03,K2b,K04]at this;have w:words.length=13:=rfl;omega
theorem zw6 {k:Int}{neg:Bool}(p:PS h k r) (e:r[n]?=.(l (ns.map .str))):fIn neg (.str x) (.ref (n+3)) h=.ok (.bl (decide (x∈ns) != neg)) h:=by
 have g:getL (n+3) h=.ok (ns.map .str) h:=by unfold getL;rw[p.get,e]
 unfold fIn seqD;rw[M.bind_ok g,z68,z3s];rfl
theorem z9J {k:Int}{Q:D->AH->Prop}(p:PS h k r) (e:r[n]?=.(l xs)) (a:atI xs i=some d) (q:Q d h):W (fIx (.ref (n+3)) (.int i)) h Q:=by
 show W (getL (n+3) >>= λxs=>match atI xs i with|some d=>pure d|none=>bad) h Q;rw[Z7];refine z4E p e ?_;rw[a];exact W_pure.mpr q
theorem zy7 {k:Int}{Q:D->AH->Prop}(p:PS h k r) (e:r[n]?=.(l xs)) (q:Q (.int xs.length) h):W (fLen [.ref (n+3)]) h Q:=by
 show W (getL (n+3) >>= λxs=>pure (.int xs.length)) h Q;rw[Z7];refine z4E p e ?_;exact W_pure.mpr q
theorem zL4:low "":=by
 intro c hc;have:(K3e "").cps.toList=[]:=by decide +kernel
 rw[this]at hc;cases hc
theorem zz5:Z1o "" = 0:=by decide +kernel
def NS (ns:List Str):Prop:=ns.Nodup/\∀x∈ns,z9m x
def stD (l:List Nat):List D:=l.map λ(i:Nat)=>.int i
structure MK (l:List Str):Prop where
 len:l.length<=8
 good:∀x∈l,z9m x
 rise:l.Pairwise λa b=>a.cps.toList<b.cps.toList
structure MA (st:List (List Nat)) (mk:List (List Str)):Prop where
 l1:1<=.(7)
 l2:.(7)<=40
 l3:mk.length=.(7)
 s1:∀l∈st,l.Pairwise (·<·)
 s2:∀l∈st,∀x∈l,x<.(7)
 m1:∀l∈mk,MK l
def stsD (st:List (List Nat)):List D:=st.map λl=>.tup (stD l)
def mksD (mk:List (List Str)):List D:=mk.map λl=>.tup (l.map .str)
def maD (st:List (List Nat)) (mk:List (List Str)):D:=.tup [.tup (stsD st),.tup (mksD mk)]
def bear (x:Str) (mk:List (List Str)) (i:Nat):Bool:=decide (x = "")||decide (x∈(mk[i]?).getD [])
theorem z9T {i:Nat}(hi:i<mk.length):atI (mksD mk) (i:Int)=.(g ((((mk[i]?).getD []).map .str))):=by
 refine z1x ?_;unfold mksD;rw[K0k,K00 hi];rfl
theorem z5l (a b:Str):leS a b=true↔a.cps.toList<=b.cps.toList:=by
 unfold leS;simp[K50]
theorem z9h (h:l.Nodup):(z1S l).Pairwise λa b=>a.cps.toList<b.cps.toList:=by
 have s:(z1S l).Pairwise λa b=>leS a b=true:=K5z (λa b c h1 h2=>(z5l a c).mpr (List.le_trans ((z5l a b).mp h1) ((z5l b c).mp h2)))
  (λa b=>by
   rw[K2f,z5l,z5l];exact List.le_total _ _) l
 have n:(z1S l).Nodup:=(K4b l leS).nodup_iff.mpr h;refine(Z1x s n).imp λ{a b} q=>?_;obtain⟨q1,q2⟩:=q;have q3:=(z5l a b).mp q1;by_cases lt:a.cps.toList<b.cps.toList
 ·exact lt
 ·exact absurd (zg7 (Z2r q3 (K50.mp lt))) q2
theorem sortS_mem:x∈z1S l↔x∈l:=(K4b l leS).mem_iff
theorem z4G (l:List Str):(z1S l).length=l.length:=(K4b l leS).length_eq
theorem strs_map:∀l:List Str,z41 (l.map .str)=some l
 | []=>rfl
 | a::l=>by simp[z41,strs_map l]
def AM (st:List (List Nat)) (mk:List (List Str)) (n:Nat):Prop:=(∀l∈st,l.Pairwise (·<·))/\(∀l∈st,∀x∈l,x<n)/\∀l∈mk,MK l
theorem z2V (ns:List Int) (p:D->Bool):((ns.map D.int).filter p).map (λd=>d)=(ns.filter λi=>p (.int i)).map D.int:=by
 rw[Z21,K99];rfl
theorem zS1:fPow (.int 10) (.int 18)=pure (.int 1000000000000000000):=rfl
theorem z1z (xs:List D):fLen [.tup xs]=pure (.int xs.length):=rfl
theorem ix_tup (a:atI xs i=some d):fIx (.tup xs) (.int i)=pure d:=by
 have:fIx (.tup xs) (.int i)=(pure xs >>= λxs=>match atI xs i with|some d=>pure d|none=>bad):=rfl;rw[this];show (match atI xs i with|some d=>pure d|none=>bad)=_;rw[a]
theorem z7n {l:List Nat}{c:Nat}(hc:c<l.length):atI (stD l) (c:Int)=.(i (((l[c]?).getD 0:Nat))):=by
 refine z1x ?_;unfold stD;rw[K0k,K00 hc];rfl
theorem Z06 (xs:List D):z5M [.tup xs]=newL xs:=rfl
theorem zy1 (i j:Nat):fAdd (.ref i) (.ref j)=(do let x <- getL i;let y <- getL j;newL (x++y)):=rfl
theorem z8R (h0:0<=i) (h1:i<xs.length):∃d∈xs,atI xs i=some d:=by
 obtain⟨n,rfl⟩:=K0v h0;have hn:n<xs.length:=by omega
 exact⟨xs[n],K3l hn,z1x (K00 hn)⟩
theorem zj3 (xs:List D) (lo hi:Option Int):(cutD xs lo hi).length<=xs.length:=by
 unfold cutD;rw[K1t,K53];omega
theorem z6R {x y:List D}(h:x.length+y.length<=1000000):fAdd (.tup x) (.tup y)=pure (.tup (x++y)):=by
 show (if !decide (x.length+y.length<=sizeLine) then _ else _)=_;rw[.(g) (K0d h .(1))];rfl
theorem Z0E {k:Nat}{mb:G->M Out}(F:Fun K x x st f fd) (S:FnScope N ps (y6 st)) (hn:ps.length=n)
 (body:∀(cdv:Value) (A:Around) (outer:List Env) (s:Shared) (H:Hp) (E:XK),Room k (A.deeper (envOfC x (y6 st) .(5) f cdv)) ->
  SB (cxOf CX0 P w K mg base N x (y6 st) f cdv A outer s H E).nox EX0 (z0X st) mb):FnOk P w K mg base CX0 (k+1) f fd ps (spB K (runF N.length mb) n):=by
 refine F.ok S (λvs H Q E h=>h.1.trans hn.symm) (λcdv A outer s H vs Q E hr h=>?_);obtain⟨hl,ρ,ds,h,rh,rd,fin⟩:=h;refine⟨_,(body cdv A outer s H E hr).h,ρ,z1w N.length ds,h,⟨z6S rd,rh⟩,?_⟩;refine(Fin.bind fin).mono λo ρ1 h1 H1 p1 e1 r1 f1=>?_;cases o with
 | nx γ=>exact λσ _=>FE.here (d:=.non) (h:=h1) f1 r1 (by simp[RD])
 | rt d=>exact λv rv=>f1 ρ1 H1 .(b) .(c) r1 v rv
 | bk γ=>exact(show False from f1).elim
 | ct γ=>exact(show False from f1).elim
theorem bindsTo1 {p:Str}(F:Fun K x x st f fd)
 (h:∀(kV doc pm:Value) (an:Option Addr) (cdv ct u:Value),bindArgs (K3v x x (z35 st) (z0X st) (y6 st) .none kV doc pm an cdv ct) ⟨[u],[]⟩=pure [(p,u)]):∀(s:Shared) (u:Value),Z29 s fd ⟨[u],[]⟩ [(p,u)]:=by
 obtain⟨oc,od,kV,doc,pm,an,cdv,ct,osl,rfl,lk,hcd⟩:=F.ex;exact λs u=>.of_eq (h kV doc pm an cdv ct u)
theorem law_walk {l:Z30}{q:K1h}{loose:List Str}{XP:(Str->Option Value)->Heap->Prop}{YP:World->Heap->Prop}{d:DefRec}{K:Params->K6}{m:List D->M D}{p:Str}{lev:Nat}(hn:l.most=some 63) (hdf:d.params.defaults=[]) (hr:Room lev K8p)
 (hY:∀(w:World) (h:Heap),YP w h->(K w.params).In h)
 (F:∀(w:World) (mg:Str->Option Value) (fa:Addr) (h:Heap),(K w.params).In h->h.Ns K2i mg->mg d.name=.(r fa) ->
  ∃fd:K5b,(∀(s:Shared) (u:Value),Z29 s fd ⟨[u],[]⟩ [(p,u)])/\∀base:Heap,(K w.params).In base->base.Ns K2i mg->FnOk l.prog w (K w.params) mg base CX0 lev fa fd [p] (spB (K w.params) m 1))
 (math:∀ns:List Int,ns.length<=63->∃h',m [.fl (ns.map .int)] []=.ok (.bl true) h') :
 Z3e q loose XP YP l.row.toRowW d [] (λf vs=>Z3a f vs):=by
 refine L2.walk_of (n:=63) (k:=lev) (x:=p) (CX:=λ_=>CX0) (sp:=λw=>spB (K w.params) m 1) hn .(1) hdf hr hY F (λw H a ns hl hO hS=>?_) λ_ _ _ _ _ z=>z;obtain⟨h',e⟩:=math ns hl;have sq:SqLP (K w.params) H a (ns.map V.int):=by
  rcases hS with (h|⟨o,h⟩)|h
  ·rcases hO a with z|⟨ob,xs,z⟩<;>rw[h]at z<;>cases z
  ·exact .inl ⟨o,h⟩
  ·exact .inr h
 refine⟨rfl,[],[.fl (ns.map .int)],[],⟨rfl,λi j a h=>by simp at h,λn o a h=>by simp at h⟩,RDs.cons ?_ RDs.nil,?_⟩
 ·simp only[RD];exact⟨a,_,rfl,sq,z4c ns⟩
 ·rw[e];exact λρ' H' _ _ _ v rv=>by simpa [RD] using rv
mutual
def Y1 (n:Nat):D->Bool
 | .ref i=>decide (i<n)
 | .tup xs=>J6 n xs
 | .fl xs=>J6 n xs
 | _=>true
def J6 (n:Nat):List D->Bool
 | []=>true
 | d::r=>Y1 n d&&J6 n r
end
def refO (n:Nat):O->Bool
 | .lst xs=>J6 n xs
 | .dK kvs=>J6 n (kvs.map (·.2))
 | .dF kvs=>J6 n (kvs.map (·.2))
 | .ins _ fs=>J6 n (fs.map (·.2))
 | _=>true
def Kept (h h1:AH):Prop:=∀(i:Nat) (o:O),i<h.length->h1[i]?=some o->h[i]?=some o\/refO h.length o=true
section
variable {ρ':List Addr}
theorem z6e {i:Nat}(h:i<n):(ρ.take n)[i]?=ρ[i]?:=by rw[K4e,if_pos h]
mutual
theorem RD.cut {n:Nat}:∀{d:D}{v:V},Y1 n d=true->RD K ρ H d v->RD K (ρ.take n) H d v
 | .non,v,_,h=>by simpa [RD] using h
 | .bl b,v,_,h=>by simpa [RD] using h
 | .int b,v,_,h=>by simpa [RD] using h
 | .str b,v,_,h=>by simpa [RD] using h
 | .tup ds,v,c,h=>by
  simp only[RD,Y1]at h c ⊢;obtain⟨a,xs,h1,h2,h3⟩:=h;exact⟨a,xs,h1,h2,RDs.cut c h3⟩
 | .fl ds,v,c,h=>by
  simp only[RD,Y1]at h c ⊢;obtain⟨a,xs,h1,h2,h3⟩:=h;exact⟨a,xs,h1,h2,RDs.cut c h3⟩
 | .ref i,v,c,h=>by
  simp only[RD,Y1,decide_eq_true_eq]at h c ⊢;obtain⟨a,h1,h2⟩:=h;exact⟨a,h1,by rw[z6e c];exact h2⟩
theorem RDs.cut {n:Nat}:∀{ds:List D}{xs:List V},J6 n ds=true->RDs K ρ H ds xs->RDs K (ρ.take n) H ds xs
 | [],xs,_,h=>by simpa [RDs] using h
 | d::ds,xs,c,h=>by
  simp only[RDs,J6,K0c]at h c ⊢;obtain⟨x,r,h1,h2,h3⟩:=h;exact⟨x,r,h1,RD.cut c.1 h2,RDs.cut c.2 h3⟩
end
mutual
theorem RD.low:∀{d:D}{v:V},RD K ρ H d v->Y1 ρ.length d=true
 | .non,v,h=>rfl
 | .bl b,v,h=>rfl
 | .int b,v,h=>rfl
 | .str b,v,h=>rfl
 | .tup ds,v,h=>by
  simp only[RD,Y1]at h ⊢;obtain⟨a,xs,h1,h2,h3⟩:=h;exact RDs.low h3
 | .fl ds,v,h=>by
  simp only[RD,Y1]at h ⊢;obtain⟨a,xs,h1,h2,h3⟩:=h;exact RDs.low h3
 | .ref i,v,h=>by
  simp only[RD,Y1,decide_eq_true_eq]at h ⊢;obtain⟨a,h1,h2⟩:=h;exact(K3.mp h2).1
theorem RDs.low:∀{ds:List D}{xs:List V},RDs K ρ H ds xs->J6 ρ.length ds=true
 | [],xs,h=>rfl
 | d::ds,xs,h=>by
  simp only[RDs,J6,K0c]at h ⊢;obtain⟨x,r,h1,h2,h3⟩:=h;exact⟨RD.low h2,RDs.low h3⟩
end
theorem RK.cut {κ:Type}{n:Nat}:∀{kvs:List (κ×D)}{vs:List (κ×V)},J6 n (kvs.map (·.2))=true->RK K ρ H kvs vs->RK K (ρ.take n) H kvs vs
 | _,_,_,.nil=>.nil
 | _,_,c,.cons a b=>by
  simp only[K0x,J6,K0c]at c;exact .cons ⟨a.1,a.2.cut c.1⟩ (RK.cut c.2 b)
theorem RK.low {κ:Type}:∀{kvs:List (κ×D)}{vs:List (κ×V)},RK K ρ H kvs vs->J6 ρ.length (kvs.map (·.2))=true
 | _,_,.nil=>rfl
 | _,_,.cons a b=>by
  simp only[K0x,J6,K0c];exact⟨a.2.low,RK.low b⟩
theorem RO.cut {n:Nat}{o:O}{a:Addr}(c:refO n o=true) (h:RO K ρ H o a):RO K (ρ.take n) H o a:=by
 cases o with
 | lst ds=>obtain⟨xs,h1,h2⟩:=h;exact⟨xs,h1,h2.cut c⟩
 | set ks=>exact h
 | dct=>exact h
 | dK kvs=>obtain⟨vs,h1,h2⟩:=h;exact⟨vs,h1,h2.cut c⟩
 | dF kvs=>obtain⟨ob,vs,h1,h2⟩:=h;exact⟨ob,vs,h1,h2.cut c⟩
 | exc c=>exact h
 | ins c' fs=>obtain⟨C,dx,vs,h1,h2,h3⟩:=h;exact⟨C,dx,vs,h1,h2,h3.cut c⟩
theorem RO.low {o:O}{a:Addr}(h:RO K ρ H o a):refO ρ.length o=true:=by
 cases o with
 | lst ds=>obtain⟨xs,h1,h2⟩:=h;exact h2.low
 | set ks=>rfl
 | dct=>rfl
 | dK kvs=>obtain⟨vs,h1,h2⟩:=h;exact h2.low
 | dF kvs=>obtain⟨ob,vs,h1,h2⟩:=h;exact h2.low
 | exc c=>rfl
 | ins c fs=>obtain⟨C,dx,vs,_,_,h3⟩:=h;exact h3.low
theorem RH.cut {h:AH}{n:Nat}(r:RH K ρ h H) (c:∀o∈h.take n,refO n o=true):RH K (ρ.take n) (h.take n) H:=by
 refine⟨by simp[r.len],λi j a h1 h2=>?_,λm o a h1 h2=>?_⟩
 ·rw[K4e]at h1 h2;split at h1
  ·split at h2
   ·exact r.nd i j a h1 h2
   ·cases h2
  ·cases h1
 ·have hm:=K0j h1;rw[K4e]at h1 h2;split at h1
  ·rename_i q;rw[if_pos q]at h2;exact(r.obj m o a h1 h2).cut (c o hm)
  ·cases h1
theorem RH.cut1 {i:Nat}(r:RH K ρ h H) (c:∀o∈h.take n,refO n o=true) (hn:n<=h.length) (hi:n<=i) (e:h[i]?=some o) (co:refO n o=true):∃a,ρ[i]?=some a/\RH K (ρ.take n++[a]) (h.take n++[o]) H:=by
 obtain⟨a,ea,ra⟩:=r.at e;have r1:=r.cut c;have ln:(ρ.take n).length=n:=by rw[K1t,r.len];omega
 have lh:(h.take n).length=n:=by rw[K1t];omega
 have ne:∀{m:Nat} {b:Addr},(ρ.take n)[m]?=some b->b≠a:=λ{m b} q z=>by
  have hm:=(K3.mp q).1;rw[ln]at hm;rw[z6e hm,z]at q;have:=r.nd m i a q ea;omega
 refine⟨a,ea,by simp[r1.len],λi j b h1 h2=>?_,λm u b h1 h2=>?_⟩
 ·rw[K40]at h1 h2;split at h1<;>split at h2
  ·exact r1.nd i j b h1 h2
  ·rename_i q1 q2;rw[K1x]at h2;split at h2
   ·cases h2;exact absurd rfl (ne h1)
   ·cases h2
  ·rename_i q1 q2;rw[K1x]at h1;split at h1
   ·cases h1;exact absurd rfl (ne h2)
   ·cases h1
  ·rw[K1x]at h1 h2;split at h1
   ·split at h2
    ·omega
    ·cases h2
   ·cases h1
 ·rw[K40]at h1 h2;rw[ln]at h2;rw[lh]at h1;split at h1
  ·rename_i q;rw[if_pos q]at h2;exact(r1.obj m u b h1 h2).mono (Pre.app _ _) .(c) rfl
  ·rename_i q;rw[if_neg q]at h2;rw[K1x]at h1 h2;split at h1
   ·rename_i q0;rw[if_pos q0]at h2;cases h1;cases h2;exact(ra.cut co).mono (Pre.app _ _) .(c) rfl
   ·cases h1
end
theorem zf8 (r:RH K ρ h H) (c:Kept h h1):∀o∈h1.take h.length,refO h.length o=true:=λo ho=>by
 obtain⟨i,hi⟩:=List.getElem?_of_mem ho;rw[K4e]at hi;split at hi
 ·rename_i li;rcases c i o li hi with q|q
  ·obtain⟨a,_,ra⟩:=r.at q;rw[<- r.len];exact ra.low
  ·exact q
 ·cases hi
theorem z85 (h j:AH):Kept h (h++j):=λi o li e=>.inl (by rw[K0z li]at e;exact e)
open Classical in
noncomputable def cln (m:M D):M D:=λh=>match m h with
 | .ok d h1=>if h.length<=h1.length/\Kept h h1 then
  (if Y1 h.length d=true then .ok d (h1.take h.length) else match d with
   | .ref i=>(match h1[i]? with
    | some o=>if refO h.length o=true then .ok .(u) (h1.take h.length++[o]) else .ok d h1
    | none=>.ok d h1)
   | d=>.ok d h1)
  else .ok d h1
 | .err x h1=>.err x h1
 | .bad=>.bad
theorem FE.cln {K:K6}{EX:XX}{ρ:List Addr}{h:AH}{H:Hp}{Q:VK}{m:M D}(r:RH K ρ h H) (f:FE K EX ρ H Q (cln m h)):FE K EX ρ H Q (m h):=by
 unfold FT.cln at f;cases e:m h with
 | bad=>rw[e]at f;exact f
 | err x h1=>rw[e]at f;exact f
 | ok d h1 =>
  rw[e]at f;dsimp only at f;split at f
  ·rename_i c;obtain⟨hl,c⟩:=c;have cl:=zf8 r c;have pre:∀{ρ1:List Addr},Pre ρ ρ1->Pre ρ (ρ1.take h.length):=λ{ρ1} p i a q=>by
    have:=(K3.mp q).1;rw[r.len]at this;rw[z6e this];exact p i a q
   split at f
   ·rename_i cd;exact λρ1 H1 p1 e1 r1 v rv=>f _ H1 (pre p1) e1 (r1.cut cl) v (rv.cut cd)
   ·rename_i nd;split at f
    ·rename_i i;split at f
     ·rename_i o eo;split at f
      ·rename_i co;intro ρ1 H1 p1 e1 r1 v rv;have hi:h.length<=i:=by
        simp only[Y1,decide_eq_true_eq]at nd;omega
       obtain⟨a,ea,r2⟩:=r1.cut1 cl hl hi eo co;refine f _ H1 ((pre p1).trans (Pre.app _ _)) e1 r2 v ?_;simp only[RD]at rv ⊢;obtain⟨b,h2,h3⟩:=rv;rw[ea]at h3;cases h3;refine⟨a,h2,?_⟩;have ln:(ρ1.take h.length).length=h.length:=by rw[K1t,r1.len];omega
       rw[K1z .(0),ln];simp
      ·exact f
     ·exact f
    ·exact f
  ·exact f
noncomputable def clE (m:G->M D):G->M D:=λγ=>cln (m γ)
theorem z1G {m:G->M D}(h:SE X EX e m):SE X EX e (clE m) :=
 ⟨PE.imp h.h λσ H Q ⟨ρ,γ,h,rel,fin⟩=>⟨ρ,γ,h,rel,FE.cln rel.h fin⟩⟩
open Classical in
noncomputable def clT (m:G->M Bool):G->M Bool:=λγ h=>match m γ h with
 | .ok d h1=>if h.length<=h1.length/\Kept h h1 then .ok d (h1.take h.length) else .ok d h1
 | .err x h1=>.err x h1
 | .bad=>.bad
theorem RH.cut2 {ρ1:List Addr}{H1:Hp}(r:RH K ρ h H) (p1:Pre ρ ρ1) (r1:RH K ρ1 h1 H1) (c:Kept h h1):RH K (ρ1.take h.length) (h1.take h.length) H1/\Pre ρ (ρ1.take h.length):=by
 refine⟨r1.cut (zf8 r c),λi a q=>?_⟩;have:=(K3.mp q).1;rw[r.len]at this;rw[z6e this];exact p1 i a q
theorem zv6 {m:G->M Bool}(h:SC X EX e m):SC X EX e (clT m) :=
 ⟨PT.imp h.h λσ H Q ⟨ρ,γ,h,rel,fin⟩=>⟨ρ,γ,h,rel,by
  unfold clT at fin;cases e:m γ h with
  | bad=>rw[e]at fin;exact fin
  | err x h1=>rw[e]at fin;exact fin
  | ok d h1 =>
   rw[e]at fin;dsimp only at fin;split at fin
   ·rename_i c;exact λρ1 H1 p1 e1 r1=>let ⟨r2,p2⟩:=rel.h.cut2 p1 r1 c.2;fin _ H1 p2 e1 r2
   ·exact fin⟩⟩
theorem Fn.cln {P:K1h}{w:World}{K:K6}{mg:Str->Option Value}{base:Heap}{k:Nat}{x:Str}{n:Nat}{mf:List D->M D}(F:Fn P w K mg base k x n mf):Fn P w K mg base k x n (λds=>cln (mf ds)):=by
 obtain⟨f,fd,ps,h1,h2,h3,h4⟩:=F.ex;exact⟨f,fd,ps,h1.imp λvs H Q E ⟨hl,ρ,ds,h,rh,rd,fin⟩=>⟨hl,ρ,ds,h,rh,rd,FE.cln rh fin⟩,h2,h3,h4⟩
end FT
namespace L2
open PySem PySem.Spec PyProof.Rows PySem.Builtin
theorem z3Z:fillsNumberSlot (.type "tuple") "mul" = pure false :=
 PySem.fillsNumberSlot_seq (id:="tuple.__mul__") (r:=some (.builtin "tuple.__rmul__")) K3i.lookup .(2) K8e.lookup .(2)
theorem z6y:seqRepeat? (.type "tuple")=pure (some (.builtin "tuple.__mul__")):=by
 unfold seqRepeat?;rw[Z2l (T:="tuple") (name:="__mul__") (id:="tuple.__mul__") K3i.lookup .(2),Z2l (T:="tuple") (name:="__rmul__") (id:="tuple.__rmul__") K8e.lookup .(2)];rfl
theorem zI9 (a:Int) (t:Tok) (l:Addr) (items:Array Value) (n:Nat) (dd:Option Addr) (sl:Array (Option Value)) :
 Meets (Builtin.«int.__rmul__» ⟨[.int a t,.ref l],[]⟩) (λ_ R s=>s.heap.get? l=some { cls:=.type "tuple",dict:=dd,data:=.seq items n,slots:=sl }/\R (.ok (.ret Value.notImplemented)) s) :=
 .of_wp λprog w A R s h=>by obtain⟨hp,g,d,tk,os⟩:=s;obtain⟨hl,h⟩:=h;wp_walk;exact⟨_,rfl,h⟩
theorem zN3 (l:Addr) (items:Array Value) (n:Nat) (dd:Option Addr) (sl:Array (Option Value)) (x:Int) (u:Tok) (h1:-(2 ^ 63)<=x) (h2:x<2 ^ 63) (hc:items.isEmpty=true\/x=1) :
 Meets (Builtin.«tuple.__mul__» ⟨[.ref l,.int x u],[]⟩) (λ_ R s=>s.heap.get? l=some { cls:=.type "tuple",dict:=dd,data:=.seq items n,slots:=sl }/\R (.ok (.ret (K25 l))) s) :=
 .of_wp λprog w A R s h=>by
  obtain⟨hp,g,d,tk,os⟩:=s;obtain⟨hl,h⟩:=h;have f1:=K63;have c1:(decide (x < -(2 ^ 63))||decide (x >= 2 ^ 63))=false:=by simp;omega
  have c2:(items.isEmpty||x==1)=true:=by simpa using hc
  wp_walk using K1u hl
  refine K39 (by rw[c1];rfl) ?_
  wp_walk using K1u hl
  exact⟨_,rfl,h⟩
theorem zS4 (l:Addr) (items:Array Value) (n:Nat) (dd:Option Addr) (sl:Array (Option Value)) (x:Int) (u:Tok) (h1:-(2 ^ 63)<=x) (h2:x<2 ^ 63) (hc:items.isEmpty=false) (hx:x<=0) :
 Meets (Builtin.«tuple.__mul__» ⟨[.ref l,.int x u],[]⟩) (λ_ R s=>s.heap.get? l=some { cls:=.type "tuple",dict:=dd,data:=.seq items n,slots:=sl }/\R (.ok (.ret (K25 .(5)))) { s with heap:=s.heap.push { cls:=K46 "tuple",data:=Z39 #[] },toks:=s.toks }) :=
 .of_wp λprog w A R s h=>by
  obtain⟨hp,g,d,tk,os⟩:=s;obtain⟨hl,h⟩:=h;have f1:=K63;have c1:(decide (x < -(2 ^ 63))||decide (x >= 2 ^ 63))=false:=by simp;omega
  have c2:(items.isEmpty||x==1)=false:=by rw[hc];simp;omega
  have c3:(decide (x<=0)||items.isEmpty)=true:=by simp[hx]
  wp_walk using K1u hl
  refine K39 (by rw[c1];rfl) ?_
  wp_walk using K1u hl
  refine K39 (by rw[c2];rfl) ?_
  wp_walk using K1u hl
  exact⟨_,rfl,h⟩
theorem zX1 (l:Addr) (items:Array Value) (n:Nat) (dd:Option Addr) (sl:Array (Option Value)) (x:Int) (u:Tok) (h1:-(2 ^ 63)<=x) (h2:x<2 ^ 63) (hc:items.isEmpty=false) (hx:1<x) (hz:items.size * x.toNat<=sizeLine) :
 Meets (Builtin.«tuple.__mul__» ⟨[.ref l,.int x u],[]⟩) (λ_ R s=>s.heap.get? l=some { cls:=.type "tuple",dict:=dd,data:=.seq items n,slots:=sl }/\R (.ok (.ret (K25 .(5)))) { s with heap:=s.heap.push { cls:=K46 "tuple",data:=Z39 (K5n (λx1 x2=>x1++x2) #[] (K0n x.toNat items)) },toks:=s.toks }) :=
 .of_wp λprog w A R s h=>by
  obtain⟨hp,g,d,tk,os⟩:=s;obtain⟨hl,h⟩:=h;have f1:=K63;have c1:(decide (x < -(2 ^ 63))||decide (x >= 2 ^ 63))=false:=by simp;omega
  have c2:(items.isEmpty||x==1)=false:=by rw[hc];simp;omega
  have c3:(decide (x<=0)||items.isEmpty)=false:=by rw[hc];simp;omega
  have ez:(items.size:Int) * x=((.(v) * x.toNat:Nat):Int):=by
   rw[Int.natCast_mul,K6u .(0)]
  have sl4:(sizeLine:Nat)<=2 ^ 24:=by decide
  have c4:¬ (items.size:Int) * x > (2 ^ 63 - 1) / 8:=by rw[ez];omega
  have c5:Tuple.tupleTooMany ((items.size:Int) * x)=false:=by
   unfold Tuple.tupleTooMany;rw[ez,decide_eq_false_iff_not];omega
  wp_walk using K1u hl
  refine K39 (by rw[c1];rfl) ?_
  wp_walk using K1u hl
  refine K39 (by rw[c2];rfl) ?_
  wp_walk using K1u hl
  refine K39 (by rw[c3];rfl) ?_
  wp_walk using K1u hl
  rw[if_neg c4]
  wp_walk using K1u hl
  refine K39 (by rw[c5];rfl) ?_
  wp_walk using K1u hl
  have c6:¬ (K5n (λx1 x2=>x1++x2) #[] (K0n x.toNat items)).size > sizeLine:=by
   have f0:=foldl_rep items.toList x.toNat [];rw[K97]at f0;have:(K5n (λx1 x2=>x1++x2) #[] (K0n x.toNat items))=(K0n x.toNat items.toList).flatten.toArray:=f0;rw[this,K05,len_rep,K16,K6z];omega
  refine K39 (.(m) c6) ?_
  wp_walk using K1u hl
  exact⟨_,rfl,h⟩
def zP3 (K:K6):R2:=λx y H Q=>∃a k xs,x=.ref a/\y=.int k/\SqT K H a xs/\-(2 ^ 63)<=k/\k<2 ^ 63/\xs.length * k.toNat<=sizeLine /\
 ((xs=[]\/k=1)->Q (.ref a) H)/\(∀p,H p=none->Q (.ref p) (upd H p (.tup (K0n k.toNat xs).flatten)))
theorem zM3 {X:Cx}:OpR X (K3c .Mult) (zP3 X.K):=by
 intro pins s σ H x y v u Q I rx ry h;obtain⟨a,k,xs,rfl,rfl,ha,h1,h2,hz,q1,q2⟩:=h;cases rx;obtain⟨t,rfl⟩:=ry;obtain⟨its,r1,p1,_⟩:=I.tuple ha;obtain⟨⟨cls,dd,data,sl⟩,ho,hc,n,hd⟩:=id p1;simp only at hc hd;subst hc hd;have go:∀(R:Value->Shared->Prop),wpAny .(6) X.A (call (.builtin "tuple.__mul__") [.ref a,.int k t]) R X.xe s->wpAny .(6) X.A (K3c .Mult (.ref a) (.int k t)) R X.xe s:=λR z =>
  K7o (T:="tuple") (U:="int") .(1) ⟨_,ho,rfl⟩ (λs'=>K8r s' k t) z3Z PySem.F.fills_int_mul K9c z6y PySem.F.slot_int_index.lookup
   (K4z K9c (K8r s k t) PySem.F.entry_int_rmul (PySem.F.args_int_rmul_2 _ _) (zI9 k t a its.toArray n dd sl) ⟨ho,rfl,⟨_,ho,rfl⟩,z⟩)
 refine go _ ?_;have ln:its.length=xs.length:=r1.length.symm;by_cases c:xs=[]\/k=1
 ·refine K4z K3i ⟨_,ho,rfl⟩ K5x (K5e _ _) (zN3 a its.toArray n dd sl k t h1 h2 ?_) ⟨ho,.ref a,H,I,rfl,q1 c⟩;rcases c with c|c
  ·left;have:its=[]:=r1.nil_iff.mpr c;rw[this];rfl
  ·exact .inr c
 ·have ne:its.toArray.isEmpty=false:=by
   cases its with
   | nil=>exact absurd (.inl (r1.nil_iff.mp rfl)) c
   | cons a r=>rfl
  by_cases k0:k<=0
  ·refine K4z K3i ⟨_,ho,rfl⟩ K5x (K5e _ _) (zS4 a its.toArray n dd sl k t h1 h2 ne k0) ⟨ho,?_⟩;have e0:k.toNat=0:=by omega
   refine⟨.ref .(5),_,I.laid (t':=s.toks) (o:=.tup (K0n k.toNat xs).flatten) (λb ob q=>K7 _ q) (K01 _) ?_,rfl,q2 _ (I.hok.fresh (K01 _))⟩;rw[e0];exact⟨by simp,_,.nil,FT.IsTup0.new _ _⟩
  ·have k2:1<k:=by
    have:k≠1:=λz=>c (.inr z);omega
   refine K4z K3i ⟨_,ho,rfl⟩ K5x (K5e _ _) (zX1 a its.toArray n dd sl k t h1 h2 ne k2 (by rw[K05,ln];exact hz)) ⟨ho,?_⟩;refine⟨.ref .(5),_,I.laid (t':=s.toks) (o:=.tup (K0n k.toNat xs).flatten) (λb ob q=>K7 _ q) (K01 _) ?_,rfl,q2 _ (I.hok.fresh (K01 _))⟩;refine⟨by rw[len_rep,K6z];exact hz,_,r1.rep k.toNat,?_⟩;have f0:=foldl_rep its k.toNat [];rw[K97]at f0;have e:(K5n (λx1 x2=>x1++x2) #[] (K0n k.toNat its.toArray))=(K0n k.toNat its).flatten.toArray:=f0;rw[e];exact FT.IsTup0.new _ _
end L2
namespace FT
def z5O:D->D->M D
 | .tup x,.int j=>if decide (-(2 ^ 63)<=j)&&decide (j<2 ^ 63)&&decide (j.toNat * x.length<=sizeLine) then pure (.tup (K0n j.toNat x).flatten) else bad
 | x,y=>fMul x y
theorem zF6 {X:Cx}{EX:XX}:BR X.K EX (λx y H Q=>(rI CMul (λi j=>.int (i * j)) x y H Q\/rRep x y H Q)\/zP3 X.K x y H Q) z5O:=by
 intro ρ h H x y v u Q r rx ry fin;unfold z5O at fin;split at fin
 ·rename_i ds j;simp only[RD]at rx ry;obtain⟨a,xs,rfl,sq,rd⟩:=rx;subst ry;split at fin
  ·rename_i hc;simp only[K0c,decide_eq_true_eq]at hc;have hl:=rd.length;refine .inr ⟨a,j,xs,rfl,rfl,sq,hc.1.1,hc.1.2,by rw[<- hl,K6z];exact hc.2,λc=>?_,λp hp=>FE.tup fin r (rd.flat j.toNat) hp⟩;refine FE.here fin r ?_;simp only[RD];refine⟨a,xs,rfl,sq,?_⟩;rcases c with c|c
   ·subst c;have:ds=[]:=by simpa using hl
    subst this;have:(K0n j.toNat ([]:List D)).flatten=[]:=by simp
    rw[this];exact rd
   ·subst c;have:(K0n (1:Int).toNat ds).flatten=ds:=by simp
    rw[this];exact rd
  ·exact fin.elim
 ·exact .inl (Z01 ρ h H x y v u Q r rx ry fin)
theorem z5V {X:Cx}{EX:XX}{a b:Expr}{pos:Pos}{ma mb:G->M D}(ha:SE X EX a ma) (hb:SE X EX b mb):SE X EX (.BinOp a .Mult b pos) (e2 z5O ma mb):=z9v ((op_mul.or zP9).or zM3) zF6 ha hb
end FT
namespace L2
open PySem.AutoSeq1 (wpAny_loadPart')
variable{prog:K1h}{w:World}{A:Around}{E:Value->Shared->Prop}{s:Shared}{Q:List Value->Shared->Prop}{r p:Addr}{n:Nat}{acc:Array Value}{pins:List (Addr×Obj)}
theorem z5H {Q:List Value->Shared->Prop}{a b c:Int}{t u v:Tok}{n:Nat}(hh:A.handled=none) (hr:Z28 s.heap r a b c t u v) (hsmall:K57 a b c=true)
 (hn:K34 a b c=n) (hlen:n<=2 ^ 24)
 (hQ:∀h' tk (acc:Array Value),(∀b o,s.heap.get? b=some o->h'.get? b=some o)->K80 (λi v=>∃t,v=.int (a+i * c) t) acc n->Q acc.toList { s with heap:=h',toks:=tk }):wpAny (model prog w) A (Z27 (.ref r)) Q E s:=by
 unfold Z27;refine K0 (K6e (K2g PySem.F.entry_proto_collect ?_));rw[K23 K71 _];show wpAny _ A.in1 (Z37 [] >>= λl=>again (.builtin "list.__iadd__" ⟨[l,.ref r],[]⟩)) _ _ s;refine K0 (K14 ?_);refine K8 ⟨K5c K2w _,K2g PySem.F.entry_list_iadd ?_⟩;rw[K23 K2w _];show wpAny _ A.in1 (K3g (.ref .(5)) (.ref r) (.ref .(5))) _ _ _;have hS:(s.heap.push { cls:=.type "list",data:=.seq ([]:List Value).toArray }).get? .(5)=some { cls:=.type "list",data:=.seq #[] }:=K0a _ rfl;refine K4a (wpAny_extend_range (A:=A) (R:=λrs s'=>rs=.ok (.ret (.ref .(5)))/\∃h' tk acc' c',s'={ s with heap:=h',toks:=tk }/\(∀b o,s.heap.get? b=some o->h'.get? b=some o)/\h'.get? .(5)=some { cls:=.type "list",dict:=none,data:=.seq acc' c',slots:=#[] }/\K80 (λi v=>∃t,v=.int (a+i * c) t) acc' n)
  hh (K7 _ hr) hsmall hn hlen .(5) (.ref .(5)) _ hS λh' tk acc' c' hk hS' hacc=>⟨rfl,h',tk,acc',c',rfl,λb o e=>hk b o (K0o (K0e e)) (K7 _ e),hS',hacc⟩) (λfin s' h=>?_) (λe s' h=>?_)
 ·have fin':∀s',(∃h' tk acc' c',s'={ s with heap:=h',toks:=tk }/\(∀b o,s.heap.get? b=some o->h'.get? b=some o)/\h'.get? .(5)=some { cls:=.type "list",dict:=none,data:=.seq acc' c',slots:=#[] }/\K80 (λi v=>∃t,v=.int (a+i * c) t) acc' n)->wpAny (model prog w) A (match K25 .(5) with
   | K25 a=>do
    match (<- load a).data with
     | Z39 xs _=>pure xs.toList
     | _=>Z2x "internal:collect"
   | _=>Z2x "internal:collect") Q E s':=λs' ⟨h',tk,acc',c',e,k,hS',hacc⟩=>by
   subst e;show wpAny _ A (load .(5) >>= _) _ _ _;refine K0 (K8q hS' ?_);exact K8 (hQ h' tk acc' k hacc)
  cases fin with
  | done f =>
   obtain⟨e,h⟩:=h;cases e;exact fin' s' h
  | again c'=>exact⟨h.1,K4g h.2 λrs s'' hr=>by obtain⟨rfl,h⟩:=hr;exact fin' s'' h⟩
 ·exact absurd h.1 .(f)
theorem z3B (r:Addr) (a b c:Int) (t u v:Tok) (n:Nat) (hsmall:K57 a b c=true) (hn:K34 a b c=n) (hlen:n<=2 ^ 24):
 Meets (Builtin.«tuple.__new__» ⟨[.type "tuple",.ref r],[]⟩)
  (λA R s=>A.handled=none/\Z28 s.heap r a b c t u v/\∀(h':Heap) (tk:Nat) (acc:Array Value),(∀b o',s.heap.get? b=some o'->h'.get? b=some o')->K80 (λi v=>∃t,v=.int (a+i * c) t) acc n->R (.ok (.ret (.ref h'.objs.size))) { s with heap:=h'.push { cls:=.type "tuple",data:=.seq acc },toks:=tk }) :=
 .of_wp λprog w A R s h=>by
  obtain⟨hp,g,d,tk,os⟩:=s;obtain⟨hh,hr,h⟩:=h;have hsub:=sub_tuple_self;have hinit:=init_tuple_lookup;have hmh:=madeHere_tuple;have hT:K85 ⟨hp,g,d,tk,os⟩ (.ref r) "range":=⟨_,hr,rfl⟩;have hh1:A.in1.handled=none:=hh
  wp_walk using K1u hr,K54 hT,z5H hh1 hr hsmall hn hlen
  intro h' tk' acc hk hacc;show wpAny _ _ (K1f acc.toList.toArray >>= λv=>ret v) _ _ _;unfold K1f;refine K0 (K14 ?_ (show acc.toList.toArray.size<=sizeLine by simp only[Array.toArray_toList];rw[hacc.1,K82];omega));refine K8 ⟨_,rfl,?_⟩;have e:acc.toList.toArray=acc:=by simp
  rw[e];exact h h' tk' acc hk hacc
theorem z44 {prog:K1h}{w:World}{E:Value->Shared->Prop}{Q:Value->Shared->Prop}{a b c:Int}{t u v:Tok}{n:Nat}(hh:A.handled=none) (hr:Z28 s.heap r a b c t u v) (hsmall:K57 a b c=true)
 (hn:K34 a b c=n) (hlen:n<=2 ^ 24)
 (h:∀(h':Heap) (tk:Nat) (acc:Array Value),(∀b o',s.heap.get? b=some o'->h'.get? b=some o')->K80 (λi v=>∃t,v=.int (a+i * c) t) acc n->Q (.ref h'.objs.size) { s with heap:=h'.push { cls:=.type "tuple",data:=.seq acc },toks:=tk }) :
 wpAny (model prog w) A (call (.type "tuple") [.ref r]) Q E s :=
 Z2g PySem.F.called_tuple .(1) (PySem.F.typeCall_tuple_1 _) (PySem.F.newCall_tuple_1 _) (λobj=>K51 obj _) PySem.F.entry_tuple_new
  (z3B r a b c t u v n hsmall hn hlen) ⟨hh,hr,λh' tk acc hk hacc=>⟨⟨_,K0a _ rfl,rfl⟩,h h' tk acc hk hacc⟩⟩
def rngO (p:Addr) (n:Int):HO:=.ext λh=>∃t u v,Z28 h p 0 n 1 t u v
theorem zN6 {P:K1h}{H:Hp}{h:Heap}{n:Int}{t u v:Tok}(e:Z28 h p 0 n 1 t u v):ObjOk P w H h p (rngO p n) :=
 ⟨⟨t,u,v,e⟩,⟨_,e⟩,λh1 h2 ⟨t,u,v,e⟩ k=>⟨t,u,v,k _ e⟩⟩
def z4X (n:Nat):List V:=(K9 n).map λ(i:Nat)=>V.int i
theorem z59 (h:K80 (λi v=>∃t,v=K6k (0+i * 1) t) acc n):Vals (z4X n) acc.toList:=by
 obtain⟨hs,hi⟩:=h;have:∀(xs:List Value) (k:Nat),(∀j v,xs[j]?=some v->∃t,v=K6k (0+((k+j:Nat):Int) * 1) t)->Vals ((Z2v k xs.length).map λ(i:Nat)=>V.int i) xs:=by
  intro xs;induction xs with
  | nil=>intro k _;exact .nil
  | cons x r ih =>
   intro k hk;rw[K02,K8g,K0x];refine .cons ?_ (ih (k+1) λj v e=>?_)
   ·obtain⟨t,rfl⟩:=hk 0 x rfl;exact⟨t,by simp⟩
   ·obtain⟨t,rfl⟩:=hk (j+1) v (by simpa using e);exact⟨t,by congr 3;omega⟩
 have q:=this acc.toList 0 (λj v e=>by
  obtain⟨t,rfl⟩:=hi j v (by simpa using e);exact⟨t,by simp⟩)
 unfold z4X;rw[List.range_eq_range',<- hs];simpa using q
section
variable {X:Cx}
theorem z8a:z2C X (.type "range") (λxs H Q=>∃j,xs=[.int j]/\∀p,H p=none->Q (.ref p) (upd H p (rngO p j))):=by
 intro pins s σ H xs us Q I r h;obtain⟨j,rfl,q⟩:=h;obtain⟨u,rfl,ru⟩:=vals1 r;obtain⟨t,rfl⟩:=ru;refine call_range_1 ⟨.ref .(5),_,I.laid (o:=rngO .(5) j) (λb ob q=>K7 _ q) (K01 _) (zN6 (K0a _ rfl)),rfl,q _ (I.hok.fresh (K01 _))⟩
theorem zw4 {σ:St}{H:Hp}{j:Int}(I:Inv X pins σ H s) (e:H p=some (rngO p j)):∃t u v,Z28 s.heap p 0 j 1 t u v:=(I.hok p _ e).1
theorem ze9 {j:Int}(h1:-(2 ^ 62)<=j) (h2:j<2 ^ 62):K57 0 j 1=true:=small_one .(0) .(0) h1 h2
theorem zx1 (j:Int):K34 0 j 1=(j.toNat:Int):=by rw[rangeSize_one];split<;>omega
theorem z9q (hc:X.calm=true):z2C X (.type "list") (λxs H Q=>∃p j,xs=[.ref p]/\H p=some (rngO p j)/\-(2 ^ 62)<=j/\j<2 ^ 62/\j.toNat<=sizeLine/\∀l,H l=none->Q (.ref l) (upd H l (.lst (z4X j.toNat)))):=by
 intro pins s σ H xs us Q I r h;obtain⟨p,j,rfl,e,h1,h2,hl,q⟩:=h;obtain⟨u,rfl,ru⟩:=vals1 r;cases ru;obtain⟨t,u,v,hr⟩:=zw4 I e;have l4:(sizeLine:Nat)<=2 ^ 24:=by decide
 refine call_list_range (n:=j.toNat) (I.ok.hd hc) hr (ze9 h1 h2) (zx1 j) .(0) λh' tk acc c' kp e' hacc=>?_;have hv:=z59 hacc;refine⟨.ref s.heap.objs.size,_,I.laid (t':=tk) (o:=.lst (z4X j.toNat)) kp (K01 _) ⟨by unfold z4X;simpa using hl,acc.toList,c',hv,by simpa using e'⟩,rfl,q _ (I.hok.fresh (K01 _))⟩
theorem ze8 (hc:X.calm=true):z2C X (.type "tuple") (λxs H Q=>∃p j,xs=[.ref p]/\H p=some (rngO p j)/\-(2 ^ 62)<=j/\j<2 ^ 62/\j.toNat<=sizeLine/\∀l,H l=none->Q (.ref l) (upd H l (.tup (z4X j.toNat)))):=by
 intro pins s σ H xs us Q I r h;obtain⟨p,j,rfl,e,h1,h2,hl,q⟩:=h;obtain⟨u,rfl,ru⟩:=vals1 r;cases ru;obtain⟨t,u,v,hr⟩:=zw4 I e;have l4:(sizeLine:Nat)<=2 ^ 24:=by decide
 refine z44 (n:=j.toNat) (I.ok.hd hc) hr (ze9 h1 h2) (zx1 j) .(0) λh' tk acc kp hacc=>?_;have hv:=z59 hacc;have I1:Inv X pins σ H { s with heap:=h',toks:=tk }:=I.kept kp;refine⟨.ref h'.objs.size,_,I1.laid (t':=tk) (o:=.tup (z4X j.toNat)) (λb ob z=>K7 _ z) (K01 _) ⟨by unfold z4X;simpa using hl,acc.toList,hv,?_⟩,rfl,q _ (I1.hok.fresh (K01 _))⟩;have:acc.toList.toArray=acc:=by simp
 rw[this];exact FT.IsTup0.new _ _
end
end L2
namespace FT
variable{K:K6}{ρ ρ0:List Addr}{H:Hp}{X:Cx}{EX:XX}{a:Addr}{pos apos cpos:Pos}{ma m me mb mc mo:G->M D}{h j r h1:AH}{d y:D}{xs ys ds:List D}{v:V}{pins:List (Addr×Obj)}{s:Shared}{A:Around}{u:Value}{its:Array Value}{neg b:Bool}{α ι:Type}{Q:D->AH->Prop}{n x i t:Nat}{γ:G}{cap:List (Option Nat)}{mi:G->M Src}{g:D->G->M G}{src:Src}{f:List D->M D}{st:List (List Nat)}{mk:List (List Str)}{l S:List Nat}{mr:G->M (List D)}{mt ms1 ms2:G->M Out}{o:O}{gr sm ns:List Int}{kk kb:G->M Bool}{kvs:List (Key×D)}{vs:List Value}{e:Expr}{Z:List (Key×D)->List Addr->AH->Hp->Prop}{E:Value->Shared->Prop}{ifs:List Expr}
def eRng (tup:Bool) (ma:G->M D):G->M D:=λγ=>do
 let x <- ma γ
 match x with
 | .int j=>if decide (-(2 ^ 62)<=j)&&decide (j<2 ^ 62)&&decide (j.toNat<=sizeLine) then (if tup then pure (.tup (z14 j.toNat)) else newL (z14 j.toNat)) else bad
 | _=>bad
theorem zd3 {K:K6}{ρ:List Addr}{H:Hp}{ι:Type}{f:ι->D}{g:ι->V}:∀(l:List ι),(∀i,RD K ρ H (f i) (g i))->RDs K ρ H (l.map f) (l.map g)
 | [],_=>RDs.nil
 | x::r,h=>RDs.cons (h x) (zd3 r h)
theorem z7b (n:Nat):RDs K ρ H (z14 n) (z4X n):=by
 unfold z14 z4X;exact zd3 _ λi=>by simp[RD]
section
variable {a:Expr}{p p2 pos2:Pos}
theorem zu2 (hc:X.calm=true) (hg:Gl X "list") (hm:X.mg "list" = none) (hg2:Gl X "range") (hm2:X.mg "range" = none) (ha:SE X EX a ma) (he:K0g [a] X.env=[(false,eval a X.env)]:=by rfl)
 (he2:K0g [.Call (.Name "range" p2) [a] [] pos2] X.env=[(false,eval (.Call (.Name "range" p2) [a] [] pos2) X.env)]:=by rfl):SE X EX (.Call (.Name "list" p) [.Call (.Name "range" p2) [a] [] pos2] [] pos) (eRng false ma) :=
 ⟨PE.imp (z1C (z9q hc) hg hm .(2) (z1k (z1C z8a hg2 hm2 .(2) (z1k ha.h z2E he) .(1) .(1) he rfl) z2E he2) .(1) .(1) he2 rfl) λσ H Q ⟨ρ,γ,h,rel,fin⟩=>⟨ρ,γ,h,rel,(Fin.bind fin).mono λx ρ1 h1 H1 p1 e1 r1 f1 v rv=>by
  cases x<;>first|exact(show False from f1).elim|skip
  rename_i j;simp only[RD]at rv;subst rv;dsimp only at f1;split at f1
  ·rename_i c;simp only[K0c,decide_eq_true_eq]at c;rw[if_neg .(1)]at f1;refine⟨j,rfl,λq hq=>⟨q,j,rfl,J8,c.1.1,c.1.2,c.2,λl hl=>?_⟩⟩;unfold newL at f1;rw[if_pos (by unfold z14;simpa using c.2)]at f1;exact FE.lst (Fin.up .(b) (Ext.upd (.inl hq)) f1) (r1.other hq) (z7b _) hl
  ·exact f1.elim⟩⟩
theorem zC7 (hc:X.calm=true) (hg:Gl X "tuple") (hm:X.mg "tuple" = none) (hg2:Gl X "range") (hm2:X.mg "range" = none) (ha:SE X EX a ma) (he:K0g [a] X.env=[(false,eval a X.env)]:=by rfl)
 (he2:K0g [.Call (.Name "range" p2) [a] [] pos2] X.env=[(false,eval (.Call (.Name "range" p2) [a] [] pos2) X.env)]:=by rfl):SE X EX (.Call (.Name "tuple" p) [.Call (.Name "range" p2) [a] [] pos2] [] pos) (eRng true ma) :=
 ⟨PE.imp (z1C (ze8 hc) hg hm .(2) (z1k (z1C z8a hg2 hm2 .(2) (z1k ha.h z2E he) .(1) .(1) he rfl) z2E he2) .(1) .(1) he2 rfl) λσ H Q ⟨ρ,γ,h,rel,fin⟩=>⟨ρ,γ,h,rel,(Fin.bind fin).mono λx ρ1 h1 H1 p1 e1 r1 f1 v rv=>by
  cases x<;>first|exact(show False from f1).elim|skip
  rename_i j;simp only[RD]at rv;subst rv;dsimp only at f1;split at f1
  ·rename_i c;simp only[K0c,decide_eq_true_eq]at c;rw[if_pos rfl]at f1;refine⟨j,rfl,λq hq=>⟨q,j,rfl,J8,c.1.1,c.1.2,c.2,λl hl=>?_⟩⟩;exact FE.tup (Fin.up .(b) (Ext.upd (.inl hq)) f1) (r1.other hq) (z7b _) hl
  ·exact f1.elim⟩⟩
end
inductive Vw where
 | flat (d:D)|tup (xs:List D)|lst (xs:List D)|no
def vw (h:AH):D->Vw
 | .tup xs=>.tup xs
 | .fl xs=>.lst xs
 | .ref i=>match h[i]? with
  | .(l xs)=>.lst xs
  | _=>.no
 | d=>.flat d
def eqZ (f:D->D->Option Bool):List D->List D->Option Bool
 | [],[]=>some true
 | x::xs,y::ys=>match f x y,eqZ f xs ys with
  | some a,some b=>some (a&&b)
  | _,_=>none
 | _,_=>some false
def eqN:Nat->AH->D->D->Option Bool
 | 0,_,_,_=>none
 | n+1,h,x,y=>match vw h x,vw h y with
  | .flat a,.flat b=>some (eqF a b)
  | .tup xs,.tup ys=>eqZ (eqN n h) xs ys
  | .lst xs,.lst ys=>eqZ (eqN n h) xs ys
  | .no,_=>none
  | _,.no=>none
  | _,_=>some false
def eqE (f:D->D->Option Bool) (xs ys:List D) (j:Nat):Bool:=(f (xs.getD j .non) (ys.getD j .non)).getD false
theorem z64 {f:D->D->Option Bool}:∀{xs ys:List D}{b:Bool},eqZ f xs ys=some b ->
 (∀j x y,xs[j]?=some x->ys[j]?=some y->f x y=some (eqE f xs ys j))/\b=((K9 (min xs.length ys.length)).all (eqE f xs ys)&&xs.length==ys.length)
 | [],[],b,h=>by
  unfold eqZ at h;cases h;exact⟨λj x y e=>by simp at e,by simp⟩
 | [],y::ys,b,h=>by
  unfold eqZ at h;cases h;exact⟨λj x y e=>by simp at e,by simp⟩
 | x::xs,[],b,h=>by
  unfold eqZ at h;cases h;exact⟨λj x y _ e=>by simp at e,by simp⟩
 | x::xs,y::ys,b,h=>by
  unfold eqZ at h;split at h
  ·rename_i a c e1 e2;cases h;obtain⟨q1,q2⟩:=z64 e2;refine⟨λj p q ep eq=>?_,?_⟩
   ·cases j with
    | zero=>simp at ep eq;subst ep;subst eq;unfold eqE;simp[e1]
    | succ j=>simpa [eqE] using q1 j p q (by simpa using ep) (by simpa using eq)
   ·rw[q2];have:min (x::xs).length (y::ys).length=min xs.length ys.length+1:=by simp
    rw[this,K8v,K58,Z22,<- Bool.and_assoc];congr 1
    ·unfold eqE;simp[e1,K67]
    ·simp
  ·cases h
theorem z2B {a:D}(e:vw h d=.flat a):a=d/\z1j d=true:=by
 cases d<;>simp[vw]at e<;>first|(subst e;exact⟨rfl,rfl⟩)|skip
 split at e<;>cases e
theorem z3T (e:vw h d=.tup xs) (r:RD K ρ H d v):∃a vs,v=.ref a/\SqT K H a vs/\RDs K ρ H xs vs:=by
 cases d<;>simp[vw]at e
 ·subst e;simpa [RD] using r
 ·split at e<;>cases e
theorem z3U (rh:RH K ρ h H) (e:vw h d=.lst xs) (r:RD K ρ H d v):∃a vs,v=.ref a/\SqL K H a vs/\RDs K ρ H xs vs:=by
 cases d<;>simp[vw]at e
 ·subst e;simp only[RD]at r;obtain⟨a,vs,h1,h2,h3⟩:=r;exact⟨a,vs,h1,h2.sq,h3⟩
 ·split at e
  ·rename_i i xs' ei;cases e;simp only[RD]at r;obtain⟨a,h1,h2⟩:=r;obtain⟨a',h3,vs,h4,h5⟩:=rh.at ei;rw[h2]at h3;cases h3;exact⟨a,vs,h1,SqL.of h4,h5⟩
  ·cases e
section
variable {σ:L2.St}
theorem z6c:∀{d:D},z1j d=true->RD K ρ H d (.ref a)->False
 | .non,_,r=>by simp[RD]at r
 | .bl _,_,r=>by simp[RD]at r
 | .int _,_,r=>by simp[RD]at r
 | .str _,_,r=>by simp[RD]at r
 | .tup _,f,_=>by cases f
 | .fl _,f,_=>by cases f
 | .ref _,f,_=>by cases f
theorem zt3:∀{d:D},z1j d=true->eqF d d=true
 | .non,_=>rfl
 | .bl _,_=>by simp[eqF]
 | .int _,_=>by simp[eqF]
 | .str _,_=>by simp[eqF]
 | .tup _,f=>by cases f
 | .fl _,f=>by cases f
 | .ref _,f=>by cases f
def flV:D->V
 | .bl b=>.bl b
 | .int i=>.int i
 | .str x=>.str x
 | _=>.non
theorem z5c:∀{d:D}{v:V},z1j d=true->RD K ρ H d v->v=flV d
 | .non,_,_,r=>by simp only[RD]at r;exact r
 | .bl _,_,_,r=>by simp only[RD]at r;exact r
 | .int _,_,_,r=>by simp only[RD]at r;exact r
 | .str _,_,_,r=>by simp only[RD]at r;exact r
 | .tup _,_,f,_=>by cases f
 | .fl _,_,f,_=>by cases f
 | .ref _,_,f,_=>by cases f
theorem zF3:∀{a b:D},z1j a=true->z1j b=true->flV a=flV b->a=b
 | .non,.non,_,_,_=>rfl
 | .bl _,.bl _,_,_,e=>by cases e;rfl
 | .int _,.int _,_,_,e=>by cases e;rfl
 | .str _,.str _,_,_,e=>by cases e;rfl
 | .non,.bl _,_,_,e=>by cases e
 | .non,.int _,_,_,e=>by cases e
 | .non,.str _,_,_,e=>by cases e
 | .bl _,.non,_,_,e=>by cases e
 | .bl _,.int _,_,_,e=>by cases e
 | .bl _,.str _,_,_,e=>by cases e
 | .int _,.non,_,_,e=>by cases e
 | .int _,.bl _,_,_,e=>by cases e
 | .int _,.str _,_,_,e=>by cases e
 | .str _,.non,_,_,e=>by cases e
 | .str _,.bl _,_,_,e=>by cases e
 | .str _,.int _,_,_,e=>by cases e
 | .tup _,_,f,_,_=>by cases f
 | .fl _,_,f,_,_=>by cases f
 | .ref _,_,f,_,_=>by cases f
 | _,.tup _,_,f,_=>by cases f
 | _,.fl _,_,f,_=>by cases f
 | _,.ref _,_,f,_=>by cases f
theorem list_inj {xs ys:List V}(I:Inv X pins σ H s) (h1:SqL X.K H a xs) (h2:SqL X.K H a ys):xs=ys:=by
 obtain⟨its,r,⟨o,n,e,_,_,d⟩,_⟩:=I.list h1;obtain⟨its',r',⟨o',n',e',_,_,d'⟩,_⟩:=I.list h2;rw[e]at e';cases e';rw[d]at d';injection d' with d1 _
 have:its=its':=by simpa using congrArg Z1z d1
 subst this;exact r.inj r'
theorem z8Y (I:Inv X pins σ H s) (rh:RH X.K ρ h H):∀(n:Nat) {d1 d2:D}{v:V}{b:Bool},RD X.K ρ H d1 v->RD X.K ρ H d2 v->eqN n h d1 d2=some b->b=true
 | 0,d1,d2,v,b,_,_,e=>by cases e
 | n+1,d1,d2,v,b,r1,r2,e=>by
  have elems:∀{xs ys:List D} {vs:List V},RDs X.K ρ H xs vs->RDs X.K ρ H ys vs->eqZ (eqN n h) xs ys=some b->b=true:=λ{xs ys vs} q1 q2 z=>by
   obtain⟨z1,z2⟩:=z64 z;have l1:=q1.length;have l2:=q2.length;rw[z2,K0c,K1m];refine⟨λj hj=>?_,by simp;omega⟩;have hj':j<xs.length:=by simp at hj;omega
   have e1:xs[j]?=some xs[j]:=K00 hj';have e2:ys[j]?=some ys[j]:=K00 .(0);obtain⟨w1,a1,a2⟩:=q1.get e1;obtain⟨w2,b1,b2⟩:=q2.get e2;rw[a1]at b1;cases b1;exact z8Y I rh n a2 b2 (z1 j _ _ e1 e2)
  unfold eqN at e;have nl:∀{a:Addr} {vs ws:List V},SqT X.K H a vs->SqL X.K H a ws->False:=λ{a vs ws} t1 t2=>by
   obtain⟨its,_,p1,_⟩:=I.tuple t1;obtain⟨its2,_,p2,_⟩:=I.list t2;exact SeqAt.ne_of_list_tuple p2.isList (show s.heap.IsTuple a its.toArray from p1) rfl
  cases e1:vw h d1 with
  | no=>rw[e1]at e;cases e2:vw h d2<;>rw[e2]at e<;>cases e
  | flat a =>
   rw[e1]at e;obtain⟨rfl,f1⟩:=z2B e1;cases e2:vw h d2 with
   | no=>rw[e2]at e;cases e
   | flat c =>
    rw[e2]at e;obtain⟨rfl,f2⟩:=z2B e2;cases e;have:=zF3 f1 f2 ((z5c f1 r1).symm.trans (z5c f2 r2));subst this;exact zt3 f1
   | tup ys=>obtain⟨a',vs,rfl,_,_⟩:=z3T e2 r2;exact(z6c f1 r1).elim
   | lst ys=>obtain⟨a',vs,rfl,_,_⟩:=z3U rh e2 r2;exact(z6c f1 r1).elim
  | tup xs =>
   rw[e1]at e;obtain⟨a,vs,rfl,t1,q1⟩:=z3T e1 r1;cases e2:vw h d2 with
   | no=>rw[e2]at e;cases e
   | flat c=>obtain⟨rfl,f2⟩:=z2B e2;exact(z6c f2 r2).elim
   | tup ys =>
    rw[e2]at e;obtain⟨a',ws,ea,t2,q2⟩:=z3T e2 r2;cases ea;have:=I.tuple_inj t1 t2;subst this;exact elems q1 q2 e
   | lst ys =>
    obtain⟨a',ws,ea,t2,q2⟩:=z3U rh e2 r2;cases ea;exact(nl t1 t2).elim
  | lst xs =>
   rw[e1]at e;obtain⟨a,vs,rfl,t1,q1⟩:=z3U rh e1 r1;cases e2:vw h d2 with
   | no=>rw[e2]at e;cases e
   | flat c=>obtain⟨rfl,f2⟩:=z2B e2;exact(z6c f2 r2).elim
   | lst ys =>
    rw[e2]at e;obtain⟨a',ws,ea,t2,q2⟩:=z3U rh e2 r2;cases ea;have:=list_inj I t1 t2;subst this;exact elems q1 q2 e
   | tup ys =>
    obtain⟨a',ws,ea,t2,q2⟩:=z3T e2 r2;cases ea;exact(nl t2 t1).elim
open SeqAt in
theorem mixT (f:z1j d=true) (r:RD K ρ H d v) (ru:RelV v u) (p:s.heap.IsTuple a its) (hu:A.units<cLine):EqAt A s u (.ref a) false/\EqAt A s (.ref a) u false/\RcAt A s u (.ref a) false/\RcAt A s (.ref a) u false/\RcNeAt A s u (.ref a) true/\RcNeAt A s (.ref a) u true:=by
 have:=z5c f r;subst this;cases d with
 | non=>cases ru;exact⟨.none_tuple p hu,.tuple_none p hu,.none_tuple p hu,.tuple_none p hu,.none_tuple p hu,.tuple_none p hu⟩
 | bl b=>cases ru;exact⟨.bool_tuple b p hu,.tuple_bool b p hu,.bool_tuple b p hu,.tuple_bool b p hu,.bool_tuple b p hu,.tuple_bool b p hu⟩
 | int i=>obtain⟨t,rfl⟩:=ru;exact⟨.int_tuple i t p hu,.tuple_int i t p hu,.int_tuple i t p hu,.tuple_int i t p hu,.int_tuple i t p hu,.tuple_int i t p hu⟩
 | str x=>obtain⟨t,rfl⟩:=ru;exact⟨.str_tuple x t p hu,.tuple_str x t p hu,.str_tuple x t p hu,.tuple_str x t p hu,.str_tuple x t p hu,.tuple_str x t p hu⟩
 | tup _=>cases f
 | fl _=>cases f
 | ref _=>cases f
open SeqAt in
theorem mixL (f:z1j d=true) (r:RD K ρ H d v) (ru:RelV v u) (p:s.heap.IsList a its) (hu:A.units<cLine):EqAt A s u (.ref a) false/\EqAt A s (.ref a) u false/\RcAt A s u (.ref a) false/\RcAt A s (.ref a) u false/\RcNeAt A s u (.ref a) true/\RcNeAt A s (.ref a) u true:=by
 have:=z5c f r;subst this;cases d with
 | non=>cases ru;exact⟨.none_list p hu,.list_none p hu,.none_list p hu,.list_none p hu,.none_list p hu,.list_none p hu⟩
 | bl b=>cases ru;exact⟨.bool_list b p hu,.list_bool b p hu,.bool_list b p hu,.list_bool b p hu,.bool_list b p hu,.list_bool b p hu⟩
 | int i=>obtain⟨t,rfl⟩:=ru;exact⟨.int_list i t p hu,.list_int i t p hu,.int_list i t p hu,.list_int i t p hu,.int_list i t p hu,.list_int i t p hu⟩
 | str x=>obtain⟨t,rfl⟩:=ru;exact⟨.str_list x t p hu,.list_str x t p hu,.str_list x t p hu,.list_str x t p hu,.str_list x t p hu,.list_str x t p hu⟩
 | tup _=>cases f
 | fl _=>cases f
 | ref _=>cases f
open SeqAt in
theorem Z0J {u1 u2:Value}:∀(d1 d2:D),z1j d1=true->z1j d2=true->RelV (flV d1) u1->RelV (flV d2) u2->EqAt A s u1 u2 (eqF d1 d2)/\RcAt A s u1 u2 (eqF d1 d2)/\RcNeAt A s u1 u2 (!(eqF d1 d2))
 | .non,.non,_,_,r1,r2=>by cases r1;cases r2;exact⟨EqAt.same _,RcAt.none_none,RcNeAt.none_none⟩
 | .non,(.bl b),_,_,r1,r2=>by cases r1;cases r2;exact⟨EqAt.none_bool b,RcAt.none_bool b,RcNeAt.none_bool b⟩
 | .non,(.int b),_,_,r1,r2=>by cases r1;obtain⟨t2,rfl⟩:=r2;exact⟨EqAt.none_int b t2,RcAt.none_int b t2,RcNeAt.none_int b t2⟩
 | .non,(.str b),_,_,r1,r2=>by cases r1;obtain⟨t2,rfl⟩:=r2;exact⟨EqAt.none_str b t2,RcAt.none_str b t2,RcNeAt.none_str b t2⟩
 | (.bl a),.non,_,_,r1,r2=>by cases r1;cases r2;exact⟨EqAt.bool_none a,RcAt.bool_none a,RcNeAt.bool_none a⟩
 | (.bl a),(.bl b),_,_,r1,r2=>by cases r1;cases r2;exact⟨EqAt.bool_bool a b,RcAt.bool_bool a b,RcNeAt.bool_bool a b⟩
 | (.bl a),(.int b),_,_,r1,r2=>by cases r1;obtain⟨t2,rfl⟩:=r2;exact⟨EqAt.bool_int a b t2,RcAt.bool_int a b t2,RcNeAt.bool_int a b t2⟩
 | (.bl a),(.str b),_,_,r1,r2=>by cases r1;obtain⟨t2,rfl⟩:=r2;exact⟨EqAt.bool_str a b t2,RcAt.bool_str a b t2,RcNeAt.bool_str a b t2⟩
 | (.int a),.non,_,_,r1,r2=>by obtain⟨t1,rfl⟩:=r1;cases r2;exact⟨EqAt.int_none a t1,RcAt.int_none a t1,RcNeAt.int_none a t1⟩
 | (.int a),(.bl b),_,_,r1,r2=>by obtain⟨t1,rfl⟩:=r1;cases r2;exact⟨EqAt.int_bool a t1 b,RcAt.int_bool a t1 b,RcNeAt.int_bool a t1 b⟩
 | (.int a),(.int b),_,_,r1,r2=>by obtain⟨t1,rfl⟩:=r1;obtain⟨t2,rfl⟩:=r2;exact⟨EqAt.int_int a t1 b t2,RcAt.int_int a t1 b t2,RcNeAt.int_int a t1 b t2⟩
 | (.int a),(.str b),_,_,r1,r2=>by obtain⟨t1,rfl⟩:=r1;obtain⟨t2,rfl⟩:=r2;exact⟨EqAt.int_str a t1 b t2,RcAt.int_str a t1 b t2,RcNeAt.int_str a t1 b t2⟩
 | (.str a),.non,_,_,r1,r2=>by obtain⟨t1,rfl⟩:=r1;cases r2;exact⟨EqAt.str_none a t1,RcAt.str_none a t1,RcNeAt.str_none a t1⟩
 | (.str a),(.bl b),_,_,r1,r2=>by obtain⟨t1,rfl⟩:=r1;cases r2;exact⟨EqAt.str_bool a t1 b,RcAt.str_bool a t1 b,RcNeAt.str_bool a t1 b⟩
 | (.str a),(.int b),_,_,r1,r2=>by obtain⟨t1,rfl⟩:=r1;obtain⟨t2,rfl⟩:=r2;exact⟨EqAt.str_int a t1 b t2,RcAt.str_int a t1 b t2,RcNeAt.str_int a t1 b t2⟩
 | (.str a),(.str b),_,_,r1,r2=>by obtain⟨t1,rfl⟩:=r1;obtain⟨t2,rfl⟩:=r2;exact⟨EqAt.str_str a t1 b t2,RcAt.str_str a t1 b t2,RcNeAt.str_str a t1 b t2⟩
 | .tup _,_,f,_,_,_=>by cases f
 | .fl _,_,f,_,_,_=>by cases f
 | .ref _,_,f,_,_,_=>by cases f
 | _,.tup _,_,f,_,_=>by cases f
 | _,.fl _,_,f,_,_=>by cases f
 | _,.ref _,_,f,_,_=>by cases f
open SeqAt in
theorem deq (I:Inv X pins σ H s) (rh:RH X.K ρ h H):∀(n:Nat) {A:Around}{d1 d2:D}{v1 v2:V}{u1 u2:Value}{b:Bool},A.units+n<cLine->RD X.K ρ H d1 v1->RD X.K ρ H d2 v2->RelV v1 u1->RelV v2 u2->eqN n h d1 d2=some b->EqAt A s u1 u2 b/\RcAt A s u1 u2 b/\RcNeAt A s u1 u2 (!b)
 | 0,A,d1,d2,v1,v2,u1,u2,b,_,_,_,_,_,e=>by cases e
 | n+1,A,d1,d2,v1,v2,u1,u2,b,hA,r1,r2,w1,w2,e=>by
  have hu:A.units<cLine:=by omega
  have e0:=e;unfold eqN at e;have elems:∀{xs ys:List D} {vs ws:List V} {its its2:List Value},RDs X.K ρ H xs vs->RDs X.K ρ H ys ws->Vals vs its->Vals ws its2->eqZ (eqN n h) xs ys=some b ->
   (∀j (h1:j<its.toArray.size) (h2:j<its2.toArray.size),EqAt A.in1 s its.toArray[j] its2.toArray[j] (eqE (eqN n h) xs ys j))/\b=((K9 (min its.toArray.size its2.toArray.size)).all (eqE (eqN n h) xs ys)&&its.toArray.size==its2.toArray.size):=λ{xs ys vs ws its its2} q1 q2 a1 a2 z=>by
   obtain⟨z1,z2⟩:=z64 z;have l1:=q1.length;have l2:=q2.length;have l3:=a1.length;have l4:=a2.length;refine⟨λj h1 h2=>?_,by rw[z2,K05,K05,<- l3,<- l4,<- l1,<- l2]⟩;have j1:j<xs.length:=by rw[K05]at h1;omega
   have j2:j<ys.length:=by rw[K05]at h2;omega
   have e1:xs[j]?=some xs[j]:=K00 j1;have e2:ys[j]?=some ys[j]:=K00 j2;obtain⟨x1,b1,c1⟩:=q1.get e1;obtain⟨x2,b2,c2⟩:=q2.get e2;obtain⟨y1,b3,c3⟩:=a1.get b1;obtain⟨y2,b4,c4⟩:=a2.get b2;have g1:its.toArray[j]=y1:=by
    have:=K00 (l:=its) (i:=j) (by simpa using h1);rw[b3]at this;simpa using(K1b this).symm
   have g2:its2.toArray[j]=y2:=by
    have:=K00 (l:=its2) (i:=j) (by simpa using h2);rw[b4]at this;simpa using(K1b this).symm
   rw[g1,g2];exact(deq I rh n (A:=A.in1) (show A.units+1+n<cLine by omega) c1 c2 c3 c4 (z1 j _ _ e1 e2)).1
  have same:∀{a a':Addr},v1=.ref a->v2=.ref a'->a=a'->b=true:=λ{a a'} x y z=>by
   subst z;rw[x]at r1;rw[y]at r2;exact z8Y I rh (n+1) r1 r2 e0
  cases e1:vw h d1 with
  | no=>rw[e1]at e;cases e2:vw h d2<;>rw[e2]at e<;>cases e
  | flat a =>
   rw[e1]at e;obtain⟨rfl,f1⟩:=z2B e1;cases e2:vw h d2 with
   | no=>rw[e2]at e;cases e
   | flat c =>
    rw[e2]at e;obtain⟨rfl,f2⟩:=z2B e2;cases e;rw[z5c f1 r1]at w1;rw[z5c f2 r2]at w2;exact Z0J a c f1 f2 w1 w2
   | tup ys =>
    rw[e2]at e;cases e;obtain⟨a',vs,rfl,t2,_⟩:=z3T e2 r2;cases w2;obtain⟨its,_,p,_⟩:=I.tuple t2;obtain⟨m1,_,m3,_,m5,_⟩:=mixT (s:=s) f1 r1 w1 (show s.heap.IsTuple a' its.toArray from p) hu;exact⟨m1,m3,m5⟩
   | lst ys =>
    rw[e2]at e;cases e;obtain⟨a',vs,rfl,t2,_⟩:=z3U rh e2 r2;cases w2;obtain⟨its,_,p,_⟩:=I.list t2;obtain⟨m1,_,m3,_,m5,_⟩:=mixL (s:=s) f1 r1 w1 p.isList hu;exact⟨m1,m3,m5⟩
  | tup xs =>
   rw[e1]at e;obtain⟨a,vs,rfl,t1,q1⟩:=z3T e1 r1;cases w1;obtain⟨its,x1,p1,_⟩:=I.tuple t1;have p1:s.heap.IsTuple a its.toArray:=p1;cases e2:vw h d2 with
   | no=>rw[e2]at e;cases e
   | flat c =>
    rw[e2]at e;cases e;obtain⟨rfl,f2⟩:=z2B e2;obtain⟨_,m2,_,m4,_,m6⟩:=mixT (s:=s) f2 r2 w2 p1 hu;exact⟨m2,m4,m6⟩
   | tup ys =>
    rw[e2]at e;obtain⟨a',ws,rfl,t2,q2⟩:=z3T e2 r2;cases w2;obtain⟨its2,x2,p2,_⟩:=I.tuple t2;have p2:s.heap.IsTuple a' its2.toArray:=p2;obtain⟨g1,g2⟩:=elems q1 q2 x1 x2 e;have rc:=RcAt.tuples p1 p2 hu g1;have rn:=RcNeAt.tuples p1 p2 hu g1;rw[<- g2]at rc rn;refine⟨?_,rc,rn⟩;by_cases ea:a=a'
    ·rw[same rfl rfl ea];subst ea;exact EqAt.same _
    ·exact EqAt.of_refs ea rc
   | lst ys =>
    rw[e2]at e;cases e;obtain⟨a',ws,rfl,t2,q2⟩:=z3U rh e2 r2;cases w2;obtain⟨its2,x2,p2,_⟩:=I.list t2;exact⟨EqAt.tuple_list p1 p2.isList hu,RcAt.tuple_list p1 p2.isList hu,RcNeAt.tuple_list p1 p2.isList hu⟩
  | lst xs =>
   rw[e1]at e;obtain⟨a,vs,rfl,t1,q1⟩:=z3U rh e1 r1;cases w1;obtain⟨its,x1,p1,_⟩:=I.list t1;cases e2:vw h d2 with
   | no=>rw[e2]at e;cases e
   | flat c =>
    rw[e2]at e;cases e;obtain⟨rfl,f2⟩:=z2B e2;obtain⟨_,m2,_,m4,_,m6⟩:=mixL (s:=s) f2 r2 w2 p1.isList hu;exact⟨m2,m4,m6⟩
   | tup ys =>
    rw[e2]at e;cases e;obtain⟨a',ws,rfl,t2,q2⟩:=z3T e2 r2;cases w2;obtain⟨its2,x2,p2,_⟩:=I.tuple t2;exact⟨EqAt.list_tuple p1.isList p2 hu,RcAt.list_tuple p1.isList p2 hu,RcNeAt.list_tuple p1.isList p2 hu⟩
   | lst ys =>
    rw[e2]at e;obtain⟨a',ws,rfl,t2,q2⟩:=z3U rh e2 r2;cases w2;obtain⟨its2,x2,p2,_⟩:=I.list t2;obtain⟨g1,g2⟩:=elems q1 q2 x1 x2 e;have both:RcAt A s (.ref a) (.ref a') b/\RcNeAt A s (.ref a) (.ref a') (!b):=by
     by_cases hz:its.toArray.size=its2.toArray.size
     ·have:b=(K9 its.toArray.size).all (eqE (eqN n h) xs ys):=by rw[g2,<- hz,Nat.min_self];simp
      rw[this];exact⟨RcAt.lists p1.isList p2.isList hz hu g1,RcNeAt.lists p1.isList p2.isList hz hu g1⟩
     ·have:b=false:=by
       rw[g2,K3t];right;simpa using hz
      rw[this];exact⟨RcAt.lists_lengths p1.isList p2.isList (by simpa using hz) hu,RcNeAt.lists_lengths p1.isList p2.isList (by simpa using hz) hu⟩
    refine⟨?_,both⟩;by_cases ea:a=a'
    ·rw[same rfl rfl ea];subst ea;exact EqAt.same _
    ·exact EqAt.of_refs ea both.1
end
def fEqX (neg:Bool):D->D->M D:=λx y h=>match eqN 24 h x y with
 | some b=>.ok (.bl (b != neg)) h
 | none=>.bad
def rEqX (K:K6) (neg:Bool):R2:=λx y H Q=>∃ρ h d1 d2 b,RH K ρ h H/\RD K ρ H d1 x/\RD K ρ H d2 y/\eqN 24 h d1 d2=some b/\Q (.bl (b != neg)) H
theorem zV3 (hu:X.A.units+30<cLine):OpR X (K20 .Eq) (rEqX X.K false):=by
 intro pins s σ H x y v u Q I rx ry h;obtain⟨ρ,h,d1,d2,b,rh,r1,r2,e,q⟩:=h;rw[K1j]at q;exact(deq I rh 24 (A:=X.A) .(0) r1 r2 rx ry e).2.1 X.prog X.w X.xe (EP X pins σ Q) ⟨.bl b,H,I,rfl,q⟩
theorem zP0 (hu:X.A.units+30<cLine):OpR X (K20 .NotEq) (rEqX X.K true):=by
 intro pins s σ H x y v u Q I rx ry h;obtain⟨ρ,h,d1,d2,b,rh,r1,r2,e,q⟩:=h;rw[K9z]at q;exact(deq I rh 24 (A:=X.A) .(0) r1 r2 rx ry e).2.2 X.prog X.w X.xe (EP X pins σ Q) ⟨.bl (!b),H,I,rfl,q⟩
theorem zu9:BR X.K EX (rEqX X.K neg) (fEqX neg):=by
 intro ρ h H x y v u Q r rx ry fin;unfold fEqX at fin;cases e:eqN 24 h x y with
 | none=>rw[e]at fin;exact fin.elim
 | some b=>rw[e]at fin;exact⟨ρ,h,x,y,b,r,rx,ry,e,FE.here fin r (by simp[RD])⟩
theorem z2W (hu:X.A.units+30<cLine):CO X EX .Eq (fEqX false):=⟨_,zV3 hu,zu9⟩
theorem z92 (hu:X.A.units+30<cLine):CO X EX .NotEq (fEqX true):=⟨_,zP0 hu,zu9⟩
theorem hu30 {k:Nat}(hr:Room k A):A.units+30<cLine:=K5s (K9y (by decide:30<=64) _) hr.units
variable {β:Type}
theorem z0d (a:α) (f:α->M β):((Z3i a:M α) >>= f)=f a:=by funext h;rfl
theorem W_eq {m:M α}{v:α}{Q:α->AH->Prop}(e:m=pure v) (q:Q v h):W m h Q:=by rw[e,W_pure];exact q
theorem zX2 (hl:xs.length<=1000000) (q:Q .(u) (h++[.lst xs])):W (newL xs) h Q :=
 ⟨_,_,by unfold newL;rw[if_pos (K0d hl .(1))],q⟩
mutual
theorem z2F {m n:Nat}(h:m<=n):∀{d:D},Y1 m d=true->Y1 n d=true
 | .non,_=>rfl
 | .bl _,_=>rfl
 | .int _,_=>rfl
 | .str _,_=>rfl
 | .tup ds,c=>by simp only[Y1]at c ⊢;exact z0Q h c
 | .fl ds,c=>by simp only[Y1]at c ⊢;exact z0Q h c
 | .ref i,c=>by simp only[Y1,decide_eq_true_eq]at c ⊢;omega
theorem z0Q {m n:Nat}(h:m<=n):∀{d:List D},J6 m d=true->J6 n d=true
 | [],_=>rfl
 | d::r,c=>by simp only[J6,K0c]at c ⊢;exact⟨z2F h c.1,z0Q h c.2⟩
end
theorem z5n {n:Nat}:∀{xs:List D},(∀x∈xs,Y1 n x=true)->J6 n xs=true
 | [],_=>rfl
 | x::r,h=>by simp only[J6,K0c];exact⟨h x .(f),z5n λy hy=>h y (by simp[hy])⟩
theorem z09 {f:ι->D}{l:List ι}(h:∀a,Y1 n (f a)=true):J6 n (l.map f)=true:=z5n λx hx=>by
 obtain⟨a,_,rfl⟩:=K07.mp hx;exact h a
theorem z0S {m:M D}(e:m h=.ok d (h++j)) (c:Y1 h.length d=true):cln m h=.ok d h:=by
 unfold cln;rw[e];dsimp only;rw[if_pos ⟨by simp,z85 _ _⟩,if_pos c];simp
theorem z46 (d:D):cln (pure d)=pure d:=funext λh=>by
 unfold cln;rw[pureM];dsimp only;rw[if_pos ⟨K01 _,λ_ _ _ e=>.inl e⟩];split
 ·simp
 ·rename_i nd;split
  ·rename_i i;simp only[Y1,decide_eq_true_eq]at nd;rw[K13 .(0)]
  ·rfl
theorem Z16 {m:M D}{v:D}(c:Y1 0 v=true) (z:∀h,W m h λa h'=>a=v/\∃j,h'=h++j):cln m=pure v:=funext λh=>by
 obtain⟨a,h',e,rfl,j,rfl⟩:=z h;exact z0S e (z2F (K3j _) c)
theorem Z0B {v:D}(c:Y1 0 v=true) (z:∀h,W (m γ) h λa h'=>a=v/\∃j,h'=h++j):clE m γ=pure v:=Z16 c z
theorem zv1 {m:G->M Bool}{d:Bool}(e:m γ h=.ok d (h++j)):clT m γ h=.ok d h:=by
 unfold clT;rw[e];dsimp only;rw[if_pos ⟨by simp,z85 _ _⟩];simp
theorem zu4 {cap:List (Option Nat)}{g:D->G->M G}{k:G->M Bool}{me:G->M D}(p:D->Bool) (f:D->D) (hi:mi γ h=.ok src h) (hg:∀j,src.good (h++j)) (hl:src.items.length<=1000000)
 (hd:∀d∈src.items,∃γ1,g d (capG cap γ)=pure γ1/\k γ1=pure (p d)/\(p d=true->me γ1=pure (f d))):x5 cap mi g k me γ h=newL ((src.items.filter p).map f) h:=by
 rw[z28 p f hi hg hl λd m=>let ⟨γ1,e1,e2,e3⟩:=hd d m;⟨γ1,λh=>by rw[e1];rfl,λj=>by rw[e2];rfl,λq j=>by rw[e3 q];rfl⟩];unfold newL;rw[if_pos];refine K0d ?_ (show 1000000<=sizeLine by decide);rw[K03];exact K0d (K1o _ _) hl
theorem zK8 {cap:List (Option Nat)}{g:D->G->M G}{k:G->M Bool}{me:G->M D}{items:List D}(p:D->Bool) (f:D->D) (hi:mi γ=pure (.con items)) (hl:items.length<=1000000)
 (hd:∀d∈items,∃γ1,g d (capG cap γ)=pure γ1/\k γ1=pure (p d)/\(p d=true->me γ1=pure (f d))):x5 cap mi g k me γ=newL ((items.filter p).map f) :=
 funext λh=>zu4 (src:=.con items) p f (by rw[hi];rfl) (λ_=>trivial) hl hd
theorem zJ1 {v:D}(e:m γ=newL xs) (hl:xs.length<=1000000) (c:Y1 0 v=true) (q:∀n h,h[n]?=.(l xs)->f [.ref n] h=.ok v h):clE (Z6 f (z7 m aNil)) γ=pure v:=Z0B c λh=>by
 simp only[Z7,W_pure,z05,Y7,z3d,J0,Y9,sAsg,z15,sRet,sIf,FT.e2,FT.e3,eVar,gN,gIx,eFn,z7,aNil,Z6,eTup,eLst,eM1,eM0,eMS,z5z,eIsi,zx8,zB3,z9Q,z9Y,Y6,z1m,cVal,cNot,cAnd,cOr,eAnd,eOr,eNot,eIf,z12,z1c,z01,K5,K1,K0b,K09,K02,K08,K0h,if_true,if_false,K48,K2l,ite_true,ite_false,reduceIte,K0m,reduceCtorEq,z1U,z8y,z42,zZ9,z7l,zr3,z7G,e];refine zX2 hl ?_;exact W.of (q _ _ .(f)) ⟨rfl,_,rfl⟩
theorem z5X:∀bs:List Bool,blsD (bs.map .bl)=some bs
 | []=>rfl
 | b::r=>by simp[blsD,z5X r]
theorem zP7 {bs:List Bool}(any:Bool) (e:m γ=newL (bs.map .bl)) (hl:bs.length<=1000000):clE (Z6 (fAll any) (z7 m aNil)) γ=pure (.bl (if any then bs.any id else bs.all id)) :=
 zJ1 e (by simpa using hl) rfl λn h q=>by unfold fAll getL;simp[q,z5X]
theorem zK4 {cap:List (Option Nat)}{g:D->G->M G}{k:G->M Bool}{me:G->M D}{items:List D}(any:Bool) (p:D->Bool) (f:D->Bool) (hi:mi γ=pure (.con items)) (hl:items.length<=1000000)
 (hd:∀d∈items,∃γ1,g d (capG cap γ)=pure γ1/\k γ1=pure (p d)/\(p d=true->me γ1=pure (.bl (f d)))):clE (Z6 (fAll any) (z7 (x5 cap mi g k me) aNil)) γ=pure (.bl (if any then (items.filter p).any f else (items.filter p).all f)):=by
 rw[zP7 (bs:=(items.filter p).map f) any (by rw[zK8 p (λd=>.bl (f d)) hi hl hd,K0u];rfl) (by rw[K03];exact K0d (K1o _ _) hl)];cases any<;>simp[K67]
theorem filter_tt {l:List α}:l.filter (λ_=>true)=l:=by induction l<;>simp_all
theorem z5s {mb:G->M Out}(e:mb (z1w n ds)=pure (.rt d)):runF n mb ds=pure d:=by unfold runF;rw[e];rfl
theorem ix0 {a:D}{r:List D}:fIx (.tup (a::r)) (.int 0)=pure a:=ix_tup (by simp[atI,ixN])
theorem zS9 {x y:Str}:fEq b (.str x) (.str y)=pure (.bl (decide (x=y) != b)):=rfl
theorem Z0i:((2:Nat)<=sizeLine)=True:=by simp[sizeLine]
structure SQ (st:List (List Nat)):Prop where
 l1:1<=.(7)
 l2:.(7)<=40
 s2:∀l∈st,∀x∈l,x<.(7)
def nx (st:List (List Nat)) (a:Nat):List Nat:=(st[a]?).getD []
theorem z7E (q:SQ st){a b:Nat}(h:b∈nx st a):b<st.length:=by
 unfold nx at h;cases e:st[a]? with
 | none=>rw[e]at h;cases h
 | some l =>
  rw[e]at h;exact q.s2 l (K0j e) b h
theorem z1A (st:List (List Nat)):(stsD st).length=st.length:=by unfold stsD;simp
theorem zZ5 {a:Nat}(ha:a<st.length):atI (stsD st) (a:Int)=.(g ((stD (nx st a)))):=by
 refine z1x ?_;unfold stsD nx;rw[K0k,K00 ha];rfl
theorem z2j:fIx .(9) (.int 0)=pure (.tup (stsD st)):=ix_tup rfl
theorem z5f:fIx .(9) (.int 1)=pure (.tup (mksD mk)):=ix_tup rfl
theorem z6v {a:Nat}(ha:a<st.length):fIx (.tup (stsD st)) (.int a)=pure (.tup (stD (nx st a))):=ix_tup (zZ5 ha)
theorem z7N:∀l:List Nat,(stD l).all z1j=true
 | []=>rfl
 | _::l=>z7N l
theorem zg8 (x:Nat):∀l:List Nat,((stD l).any λz=>eqF z (.int x))=decide (x∈l)
 | []=>by simp[stD]
 | b::l=>by
  rw[show stD (b::l)=.int b::stD l from rfl,K2j,zg8 x l];simp only[eqF];rw[K19];simp only[K2f,beq_iff_eq,decide_eq_true_eq,K12];constructor
  ·rintro(h|h)
   ·left;omega
   ·exact .inr h
  ·rintro(h|h)
   ·left;omega
   ·exact .inr h
theorem zZ6:fIn neg (.int x) (.tup (stD l))=pure (.bl (decide (x∈l) != neg)):=by
 unfold fIn seqD;show (if z1j (.int x)&&(stD l).all z1j then _ else _)=_;rw[z7N,zg8];rfl
theorem j8 (l:List Nat):(stD l).length=l.length:=by unfold stD;simp
theorem z4b (hl:l.Pairwise (·<·)) (hm:∀x∈l,x<n):l.length<=n:=by
 have nd:l.Nodup:=Z1w (λh=>K0o h) hl;have:=nd.length_le_of_subset (l₂:=K9 n) (λx hx=>K0r.mpr (hm x hx));rwa [K2b]at this
def zN (l:List Nat):List Int:=l.map λ(i:Nat)=>(i:Int)
def kN (l:List Nat):List Key:=l.map λ(i:Nat)=>.inl (i:Int)
def z0G (l:List Nat):List Nat:=(sortI (zN l)).map Z3j
theorem z7I:∀l:List Nat,z6H (kN l)=some (zN l)
 | []=>rfl
 | a::l=>by
  show (z6H (kN l)).map _=_;rw[z7I l];rfl
theorem z4k:∀l:List Nat,z2S (stD l)=some (zN l)
 | []=>rfl
 | a::l=>by
  show (z2S (stD l)).map _=_;rw[z4k l];rfl
theorem z3w (l:List Nat):(sortI (zN l)).map D.int=stD (z0G l):=by
 unfold z0G stD;rw[K0u];refine K2a λa ha=>?_;have:a∈zN l:=(sortI_perm _).mem_iff.mp ha;obtain⟨i,_,rfl⟩:=K07.mp this;rfl
theorem z2I (l:List Nat):(z0G l).Perm l:=by
 have:=(sortI_perm (zN l)).map Z3j;refine this.trans ?_;unfold zN;rw[K0u];rw[show (Z3j ∘ λ(i:Nat)=>(i:Int))=id from funext λi=>rfl,List.map_id]
theorem z1t (nd:l.Nodup):(z0G l).Pairwise (·<·):=by
 have s:(z0G l).Pairwise (·<=·):=by
  unfold z0G;rw[K7y];exact(z8M _).imp λ{a b} h=>by omega
 have n:(z0G l).Nodup:=(z2I l).nodup_iff.mpr nd;exact(Z1x s n).imp λ{a b} q=>by omega
theorem sortN_mem:x∈z0G l↔x∈l:=(z2I l).mem_iff
theorem Y5 (l:List Nat):(z0G l).length=l.length:=(z2I l).length_eq
theorem kN_mem:(K41 (x:Int):Key)∈kN l↔x∈l:=by
 unfold kN;constructor
 ·intro h;obtain⟨i,hi,e⟩:=K07.mp h;have:i=x:=by have:=Z3l e;omega
  exact this ▸ hi
 ·exact λh=>K07.mpr ⟨x,h,rfl⟩
theorem zz0 (l:List Nat):(kN l).length=l.length:=by unfold kN;simp
theorem zW0 (h:x∉l):putK (kN l) (.inl (x:Int))=kN (l++[x]):=by
 unfold putK;rw[if_neg (λq=>h (kN_mem.mp q))];unfold kN;simp
theorem z4L (nd:S.Nodup) (hm:∀x∈S,x<n):S.length<=n:=by
 have:=nd.length_le_of_subset (l₂:=K9 n) (λx hx=>K0r.mpr (hm x hx));rwa [K2b]at this
theorem zj2 (nd:S.Nodup) (h:x∉S):(S++[x]).Nodup:=by
 rw[K3x];refine⟨nd,by simp,λa ha b hb=>?_⟩;simp at hb;subst hb;exact λe=>h (e ▸ ha)
theorem z32 (l:List Nat) (x:Nat):stD l++[.int x]=stD (l++[x]):=by unfold stD;simp
theorem z3c (h:(stD l)[i]?=some d):∃b:Nat,d=.int b/\l[i]?=some b:=by
 unfold stD at h;rw[K0k]at h;obtain⟨b,e1,e2⟩:=K0y.mp h;exact⟨b,e2.symm,e1⟩
section
variable {k:G->M Bool}{ms mr:G->M Out}{γ':G}{Q:Out->AH->Prop}
theorem z7j (d:D) (γ':G) (e:ma γ=pure d) (eg:g d γ=pure γ') (z:W (mt γ') h Q):W (Z0 (sAsg ma g) mt γ) h Q:=by
 rw[w_cons];unfold sAsg;rw[e,z0d,eg,z0d,W_pure];exact z
theorem Y4 (d:D) (γ':G) (e:ma γ h=.ok d h1) (eg:g d γ=pure γ') (z:W (mt γ') h1 Q):W (Z0 (sAsg ma g) mt γ) h Q:=by
 rw[w_cons];unfold sAsg;rw[Z7];refine W.of e ?_;rw[eg,z0d,W_pure];exact z
theorem zl2 (z:W (ma γ) h λd h1=>W (mt (γ.set i (some d))) h1 Q):W (Z0 (sAsg ma (gN i)) mt γ) h Q:=by
 rw[w_cons];unfold sAsg gN;rw[Z7];refine z.mono λd h1 q=>?_;rw[z0d,W_pure];exact q
theorem z0b (b:Bool) (e:k γ h=.ok b h) (z:W (Z0 (if b=true then ms else mr) mt γ) h Q):W (Z0 (sIf k ms mr) mt γ) h Q:=by
 rw[w_cons]at z ⊢;unfold sIf;rw[Z7];refine W.of e ?_;cases b<;>exact z
theorem Z1d (z:W (k γ) h λb h1=>W (Z0 (if b=true then ms else mr) mt γ) h1 Q):W (Z0 (sIf k ms mr) mt γ) h Q:=by
 rw[w_cons];unfold sIf;rw[Z7];refine z.mono λb h1 q=>?_;rw[w_cons]at q;cases b<;>exact q
theorem Z0S (d:D) (e:ma γ=pure d) (z:Q (.rt d) h):W (Z0 (sRet ma) mt γ) h Q:=by
 rw[w_cons];unfold sRet;rw[e,z0d,W_pure];exact z
theorem j3 (d:D) (e:ma γ h=.ok d h1) (z:Q (.rt d) h1):W (Z0 (sRet ma) mt γ) h Q:=by
 rw[w_cons];unfold sRet;rw[Z7];refine W.of e ?_;rw[W_pure];exact z
theorem zR5 (z:W (ma γ) h λd h1=>Q (.rt d) h1):W (Z0 (sRet ma) mt γ) h Q:=by
 rw[w_cons];unfold sRet;rw[Z7];refine z.mono λd h1 q=>?_;rw[W_pure];exact q
theorem zd6 (z:W (ma γ) h λd h1=>W (mt γ) h1 Q):W (Z0 (z15 ma) mt γ) h Q:=by
 rw[w_cons];unfold z15;rw[Z7];refine z.mono λd h1 q=>?_;rw[W_pure];exact q
theorem z07 (z:W (mt γ) h Q):W (Z0 bNil mt γ) h Q:=by rw[w_cons,z3d];exact z
theorem z0f (z:Q (.nx γ) h):W (bNil γ) h Q:=by rw[z3d];exact z
theorem zY2 (e:ma γ=pure (.bl true)):eAnd ma mb γ=mb γ:=by unfold eAnd;rw[e];rfl
theorem zN7 (e:ma γ=pure (.bl false)):eAnd ma mb γ=pure (.bl false):=by unfold eAnd;rw[e];rfl
theorem z57 {l:G->M Bool}(e:k γ h=.ok true h):cOr k l γ h=.ok true h:=by unfold cOr;rw[M.bind_ok e];rfl
theorem zn3 (d:D) (e:ma γ=pure d):Z0 (sRet ma) mt γ=pure (.rt d):=by
 unfold Z0 sRet;rw[e,z0d,z0d]
theorem p_if (b:Bool) (e:k γ=pure b):Z0 (sIf k ms mr) mt γ=Z0 (if b=true then ms else mr) mt γ:=by
 unfold Z0 sIf;rw[e,z0d];cases b<;>rfl
theorem Z0e:Z0 bNil mt γ=mt γ:=by unfold Z0 bNil;rw[z0d]
theorem Z14:Z0 (Z0 ms1 ms2) mt γ=Z0 ms1 (Z0 ms2 mt) γ:=by
 funext h;unfold Z0;simp only[bindM];cases ms1 γ h with
 | ok o h1=>cases o<;>rfl
 | err x h1=>rfl
 | bad=>rfl
theorem z06 (z:W (Z0 ms1 (Z0 ms2 mt) γ) h Q):W (Z0 (Z0 ms1 ms2) mt γ) h Q:=by
 rw[w_cons]at z ⊢;rw[w_cons];refine z.mono λo h1 q=>?_;cases o with
 | nx γ=>exact w_cons.mp q
 | rt d=>exact q
 | bk d=>exact q
 | ct d=>exact q
end
theorem zU2 {a:Bool}:fEqX neg (.bl a) (.bl b)=pure (.bl ((a==b) != neg)):=by funext h;rfl
theorem zK3 (e:mc γ h=newL xs h1) (hl:xs.length<=1000000):e2 (fEqX neg) mc (eLst aNil) γ h=.ok (.bl (xs.isEmpty != neg)) (h1++[.lst xs]++[.lst []]):=by
 have e':mc γ h=.ok (.ref h1.length) (h1++[.lst xs]):=by rw[e];unfold newL;rw[if_pos (K0d hl .(1))]
 show (mc γ >>= _) h=_;rw[M.bind_ok e'];have e2':eLst aNil γ (h1++[.lst xs])=.ok (.ref (h1++[O.lst xs]).length) (h1++[.lst xs]++[.lst []]):=by
  unfold eLst aNil newL;simp
 rw[M.bind_ok e2'];have v1:vw (h1++[O.lst xs]++[O.lst []]) (.ref h1.length)=.lst xs:=by unfold vw;simp
 have v2:vw (h1++[O.lst xs]++[O.lst []]) (.ref (h1++[O.lst xs]).length)=.lst []:=by unfold vw;simp
 unfold fEqX eqN;rw[v1,v2];cases xs<;>rfl
theorem zH2 (e:mc γ h=newL xs (h++j)) (hl:xs.length<=1000000):clE (e2 (fEqX neg) mc (eLst aNil)) γ h=.ok (.bl (xs.isEmpty != neg)) h :=
 z0S (by rw[zK3 e hl,K06,K06]) rfl
theorem z5P {x:Str}{l:List Str}:fIn neg (.str x) (.tup (l.map .str))=pure (.bl (decide (x∈l) != neg)):=by
 unfold fIn seqD;show (if z1j (.str x)&&(l.map D.str).all z1j then _ else _)=_;rw[z3s,z68];rfl
theorem zv2 (xs:List D) (n:Nat):cutD xs none (some (n:Int))=xs.take n:=by
 unfold cutD;rw[HT.sIx_none,HT.sIx_nat];simp[List.take_take]
theorem zy4 (xs:List D) (n:Nat):cutD xs (some (n:Int)) none=xs.drop n:=by
 unfold cutD;rw[HT.sIx_none,HT.sIx_nat];by_cases h:n<=xs.length
 ·rw[show min n xs.length=n by omega,List.take_of_length_le .(f)]
 ·rw[show min n xs.length=xs.length by omega];simp;omega
def rp (n:Nat) (l:List Nat):List Nat:=(K0n n l).flatten
theorem sl_tup {x:List D}{lo hi:Option Int}:fSl (.tup x) lo hi=pure (.tup (cutD x lo hi)):=rfl
theorem z8e (h:d∈stD l):∃x,x∈l/\d=.int (x:Nat):=by
 obtain⟨x,hx,rfl⟩:=K07.mp h;exact⟨x,hx,rfl⟩
def numD:D->Nat
 | .int i=>i.toNat
 | _=>0
def CL (r:AH):Prop:=True
theorem CL.app (a:CL r) (b:CL j):CL (r++j):=trivial
theorem CL.one (h:J6 3 xs=true):CL [.lst xs]:=trivial
theorem CL.put (a:CL r) (h:J6 3 xs=true):CL (r++[.lst xs]):=a.app (.one h)
theorem z2D (l:List Str):J6 n (l.map .str)=true:=z09 λ_=>rfl
theorem z79 (l:List Int):J6 n (l.map .int)=true:=z09 λ_=>rfl
theorem z1O (l:List Nat):J6 n (stD l)=true:=z09 λ_=>rfl
theorem z5b (l:List Nat):Y1 n (.tup (stD l))=true:=by simp only[Y1];exact z1O l
theorem zA5 {m:Nat}(h:m<=n) (c:refO m o=true):refO n o=true:=by
 cases o with
 | lst xs=>exact z0Q h c
 | dK kvs=>exact z0Q h c
 | dF kvs=>exact z0Q h c
 | ins _ fs=>exact z0Q h c
 | _=>rfl
theorem zk1 {s c:Int}:(Pool gr sm s c (r++j)).take (r.length+3)=Pool gr sm s c r:=by
 unfold Pool;simp
theorem zd1 {gr' sm':List Int}{s c s' c':Int}:Kept (Pool gr sm s c r) (Pool gr' sm' s' c' (r++j)):=λi o li e=>by
 have l3:(Pool gr sm s c r).length=.(k)+3:=rfl;rw[l3]at li ⊢
 match i,e with
 | 0,e=>cases e;exact .inr (z79 _)
 | 1,e=>cases e;exact .inr (z79 _)
 | 2,e=>cases e;exact .inr (by simp[refO,J6,Y1])
 | i+3,e =>
  left;have e:(r++j)[i]?=some o:=e;rw[K0z .(0)]at e;exact e
theorem z5J {k k':Int}(p:PS h k r) (q:CL r) (p1:PS h1 k' (r++j)):(h.length<=h1.length/\Kept h h1)/\PS (h1.take h.length) k' r:=by
 have l:=p.len;have l1:=p1.len;obtain⟨gr,sm,s,c,rfl,g⟩:=p1;obtain⟨gr0,sm0,s0,c0,rfl,g0⟩:=p;refine⟨⟨by rw[K04]at l1;omega,zd1⟩,?_⟩;rw[show (Pool gr0 sm0 s0 c0 r).length=.(k)+3 from rfl,zk1];exact⟨gr,sm,s,c,rfl,g⟩
theorem zh5 {m:M D}{k:Int}(p:PS h k r) (q:CL r) (z:W m h λd h1=>∃k' j,PS h1 k' (r++j)/\Y1 3 d=true/\∀h2,PS h2 k' r->Q d h2):W (cln m) h Q:=by
 obtain⟨d,h1,e,k',j,p1,rd,f⟩:=z;obtain⟨c1,c2⟩:=z5J p q p1;refine⟨d,h1.take h.length,?_,f _ c2⟩;unfold cln;rw[e];dsimp only;rw[if_pos c1,if_pos (z2F (by rw[p.len];omega) rd)]
theorem zO9 {m:M D}{k:Int}(p:PS h k r) (q:CL r) (z:W m h λd h1=>∃k' j i xs,d=.ref (i+3)/\PS h1 k' (r++j)/\r.length<=i/\(r++j)[i]?=.(l xs)/\J6 3 xs=true/\∀h2,PS h2 k' (r++[.lst xs])->Q (.ref (r.length+3)) h2):W (cln m) h Q:=by
 obtain⟨d,h1,e,k',j,i,xs,rfl,p1,hi,ei,rd,f⟩:=z;obtain⟨c1,c2⟩:=z5J p q p1;have l:=p.len;refine⟨.ref (.(k)+3),h1.take h.length++[.lst xs],?_,f _ (c2.app _)⟩;unfold cln;rw[e];dsimp only;rw[if_pos c1,if_neg (by simp only[Y1,decide_eq_true_eq];omega),p1.get,ei];dsimp only;rw[if_pos (show refO h.length (.lst xs)=true from z0Q .(0) rd),l]
theorem zH6 {k:Int}(p:PS h k r) (q:CL r) (z:W (m γ) h λd h1=>∃k' j,PS h1 k' (r++j)/\Y1 3 d=true/\∀h2,PS h2 k' r->Q d h2):W (clE m γ) h Q:=zh5 p q z
section
variable {k:Int}{l:AH}{v:D}
theorem at_E:(r++l)[r.length+i]?=l[i]?:=by rw[K1z .(0)];congr 1;omega
theorem zC2:(r++l).set (r.length+i) o=r++l.set i o:=by
 rw[K4t _ _ .(0)];congr 2;omega
theorem z6u {Q:List D->AH->Prop}(p:PS h k (r++l)) (e:l[i]?=.(l xs)) (q:Q xs h):W (getL (r.length+i+3)) h Q:=z4E p (by rw[at_E];exact e) q
theorem zy2 (p:PS h k (r++l)) (hl:xs.length<=1000000) (z:∀h',PS h' k (r++(l++[.lst xs]))->Q (.ref (r.length+l.length+3)) h'):W (newL xs) h Q :=
 z0M p hl λh' p'=>by rw[K06]at p';have:=z h' p';rwa [K04]
theorem ze6 (p:PS h k (r++l)) (e:l[i]?=.(l xs)) (hl:xs.length<1000000) (z:∀h',PS h' k (r++l.set i (.lst (xs++[v])))->Q .non h'):W (J2 (r.length+i+3) v) h Q :=
 z8t p (by rw[at_E];exact e) hl λh' p'=>z h' (by rw[zC2]at p';exact p')
theorem Z0o {j:Int}(p:PS h k (r++l)) (e:l[i]?=.(l xs)) (a:atI xs j=some d) (q:Q d h):W (fIx (.ref (r.length+i+3)) (.int j)) h Q:=z9J p (by rw[at_E];exact e) a q
theorem zg2 (p:PS h k (r++l)) (e:l[i]?=.(l xs)) (q:Q (.int xs.length) h):W (fLen [.ref (r.length+i+3)]) h Q:=zy7 p (by rw[at_E];exact e) q
theorem z83 (p:PS h k (r++l)) (e:l[i]?=.(l xs)) (q:Q (.tup xs) h):W (z03 [.ref (r.length+i+3)]) h Q:=by
 have ft:∀i:Nat,z03 [.ref i]=(do let x <- getL i;pure (.tup x)):=λ_=>rfl;rw[ft,Z7];refine z6u p e ?_;rw[W_pure];exact q
theorem zs9 {Q:Nat->AH->Prop}(p:PS h k (r++l)) (e:l[i]?=.(l xs)) (q:Q (r.length+i+3) h):W (z37 (.ref (r.length+i+3))) h Q:=by
 rw[z5z];exact z6u p e q
theorem zX3 {j:Nat}(p:PS h k (r++l)) (e:l[i]?=.(l xs)) (e2:(r++l)[j]?=.(l ys)) (hl:xs.length+ys.length<=1000000) (z:∀h',PS h' k (r++(l++[.lst (xs++ys)]))->Q (.ref (r.length+l.length+3)) h'):W (fAdd (.ref (r.length+i+3)) (.ref (j+3))) h Q:=by
 show W (getL _ >>= λx=>getL _ >>= λy=>newL (x++y)) h Q;rw[Z7];refine z6u p e ?_;rw[Z7];refine z4E p e2 ?_;exact zy2 p (by simpa using hl) z
end
theorem z10 {Q:Out->AH->Prop}(J:D->AH->Prop) (z:W (ma γ) h J) (f:∀d h1,J d h1->W (mt (γ.set i (some d))) h1 Q):W (Z0 (sAsg ma (gN i)) mt γ) h Q:=zl2 (z.mono f)
theorem zZ2 {Q:Out->AH->Prop}(J:D->AH->Prop) (z:W (ma γ) h J) (f:∀d h1,J d h1->Q (.rt d) h1):W (Z0 (sRet ma) mt γ) h Q:=zR5 (z.mono f)
theorem z52 {me:G->M D}{mt:G->M Out}{k:Int}{l:AH}{a:Nat}{Q:Out->AH->Prop}(ea:γ[a]?=some (.(r (r.length+i+3)))) (p:PS h k (r++l)) (e:l[i]?=.(l xs)) (hl:xs.length<1000000) (J:D->Int->Prop)
 (z:W (me γ) h λv h1=>∃k',PS h1 k' (r++l)/\J v k') (f:∀v k' h2,J v k'->PS h2 k' (r++l.set i (.lst (xs++[v])))->W (mt γ) h2 Q):W (Z0 (z15 (eM1 J2 (eVar a) me)) mt γ) h Q:=by
 refine zd6 ?_;unfold eM1;rw[Z7];refine W_eq (v:=.ref (r.length+i+3)) (by unfold eVar;rw[ea]) ?_;rw[Z7];refine zs9 p e ?_;rw[Z7];refine z.mono λv h1 ⟨k',p1,j⟩=>?_;exact ze6 p1 e hl λh2 p2=>f v k' h2 j p2
theorem z8v {cap:List (Option Nat)}{mi:G->M Src}{g:D->G->M G}{kk:G->M Bool}{me:G->M D}{γ:G}{h:AH}{r l:AH}{Q:D->AH->Prop}(J:Nat->List D->Int->Prop)
 (hs:W (mi γ) h λsrc h1=>∃k,PS h1 k (r++l)/\J 0 [] k/\(∀h k xs,PS h k (r++(l++[.lst xs]))->src.good h) /\
  (∀i d h k xs,src.items[i]?=some d->J i xs k->PS h k (r++(l++[.lst xs]))->W (g d (capG cap γ)) h λγ1 h1'=>W (kk γ1) h1' λt h2=>if t=true then W (me γ1) h2 λv h3=>∃k',PS h3 k' (r++(l++[.lst xs]))/\xs.length<1000000/\J (i+1) (xs++[v]) k' else ∃k',PS h2 k' (r++(l++[.lst xs]))/\J (i+1) xs k') /\
  ∀h' xs k,J src.items.length xs k->PS h' k (r++(l++[.lst xs]))->Q (.ref (.(k)+l.length+3)) h'):W (x5 cap mi g kk me γ) h Q:=by
 refine zN2 ?_;refine hs.mono λsrc h1 ⟨k,p1,j0,good,st,fin⟩=>?_;have l1:h1.length=.(k)+l.length+3:=by rw[p1.len,K04]
 refine⟨λi h'=>∃xs k,J i xs k/\PS h' k (r++(l++[.lst xs])),⟨[],k,j0,by rw[<- K06];exact p1.app _⟩,λi h' ⟨xs,k,_,p⟩=>good h' k xs p,?_,?_⟩
 ·rintro i d h2 hd ⟨xs,k,jx,p2⟩;refine(st i d h2 k xs hd jx p2).mono λγ1 h3 w3=>w3.mono λt h4 w4=>?_;cases t with
  | false=>rw[if_neg .(1)]at w4 ⊢;obtain⟨k',p4,j4⟩:=w4;exact⟨xs,k',j4,p4⟩
  | true =>
   rw[if_pos rfl]at w4 ⊢;refine w4.mono λv h5 ⟨k',p5,lx,j5⟩=>?_;rw[l1,show .(k)+l.length+3=.(k)+l.length+3 from rfl];refine ze6 (i:=l.length) p5 .(f) lx λh6 p6=>?_;refine⟨_,k',j5,?_⟩;rw[K4t _ _ (K01 _),Z23]at p6;exact p6
 ·rintro h2 ⟨xs,k,jx,p2⟩;rw[l1];exact fin h2 xs k jx p2
def lkD (kvs:List (Key×D)) (k:Key):Option D:=(kvs.find? λkv=>decide (kv.1=k)).map (·.2)
def ptD (kvs:List (Key×D)) (k:Key) (v:D):List (Key×D) :=
 if (kvs.any λkv=>decide (kv.1=k))=true then kvs.map (λkv=>if kv.1=k then (kv.1,v) else kv) else kvs++[(k,v)]
theorem RK.len:∀{kvs:List (Key×D)}{vs:List (Key×V)},RK K ρ H kvs vs->kvs.length=vs.length
 | _,_,.nil=>rfl
 | _,_,.cons _ b=>by simp[RK.len b]
theorem RK.lk (k:Key):∀{kvs:List (Key×D)}{vs:List (Key×V)},RK K ρ H kvs vs->(lkD kvs k=none/\valV vs k=none)\/∃d v,lkD kvs k=some d/\valV vs k=some v/\RD K ρ H d v
 | _,_,.nil=>.inl ⟨rfl,rfl⟩
 | p::kvs,q::vs,.cons a b=>by
  by_cases e:p.1=k
  ·refine .inr ⟨p.2,q.2,by simp[lkD,K2t,e],z47 (a.1.symm.trans e),a.2⟩
  ·rw[z4a (λz=>e (a.1.trans z))];have:lkD (p::kvs) k=lkD kvs k:=by simp[lkD,K2t,e]
   rw[this];exact RK.lk k b
theorem RK.any (k:Key):∀{kvs:List (Key×D)}{vs:List (Key×V)},RK K ρ H kvs vs->(kvs.any λkv=>decide (kv.1=k))=vs.any λkv=>decide (kv.1=k)
 | _,_,.nil=>rfl
 | _,_,.cons a b=>by rw[K2j,K2j,RK.any k b,a.1]
theorem RK.rep (k:Key) {d:D}{v:V}(r:RD K ρ H d v):∀{kvs:List (Key×D)}{vs:List (Key×V)},RK K ρ H kvs vs->RK K ρ H (kvs.map (λkv=>if kv.1=k then (kv.1,d) else kv)) (vs.map (λkv=>if kv.1=k then (kv.1,v) else kv))
 | _,_,.nil=>.nil
 | p::kvs,q::vs,.cons a b=>by
  rw[K0x,K0x];refine .cons ?_ (RK.rep k r b);by_cases e:p.1=k
  ·rw[if_pos e,if_pos (a.1.symm.trans e)];exact⟨a.1,r⟩
  ·rw[if_neg e,if_neg (λz=>e (a.1.trans z))];exact a
theorem RK.snoc {k:Key}{d:D}{v:V}(r:RD K ρ H d v):∀{kvs:List (Key×D)}{vs:List (Key×V)},RK K ρ H kvs vs->RK K ρ H (kvs++[(k,d)]) (vs++[(k,v)])
 | _,_,.nil=>.cons ⟨rfl,r⟩ .nil
 | _,_,.cons a b=>.cons a (RK.snoc r b)
theorem RK.put (k:Key) (r:RD K ρ H d v){vs:List (Key×V)}(q:RK K ρ H kvs vs):RK K ρ H (ptD kvs k d) (L2.putK vs k v):=by
 unfold ptD L2.putK;rw[q.any k];split
 ·exact q.rep k r
 ·exact q.snoc r
theorem z9O {k:Key}(e:keyD d=some k) (r:RD K ρ H d v):v=kV k:=by
 cases d<;>simp only[keyD]at e<;>first|(cases e;simp only[RD]at r;exact r)|cases e
def getK (n:Nat):M (List (Key×D)):=λh=>match h[n]? with
 | some (.dK kvs)=>.ok kvs h
 | some (.dF kvs)=>.ok kvs h
 | _=>.bad
def newK (kvs:List (Key×D)):M D:=λh=>if kvs.length<=sizeLine then .ok .(u) (h++[.dK kvs]) else .bad
def dicD:D->M (List (Key×D))
 | .ref n=>getK n
 | _=>bad
def z4x:D->D->M D:=λx y=>do
 let kvs <- dicD x
 match keyD y with
 | some k=>(match lkD kvs k with
  | some d=>pure d
  | none=>bad)
 | none=>bad
def fInD (neg:Bool):D->D->M D:=λy x=>do
 let kvs <- dicD x
 match keyD y with
 | some k=>pure (.bl ((lkD kvs k).isSome != neg))
 | none=>bad
def z7H:D->D->D->M Unit:=λo i v=>match o with
 | .ref n=>(match keyD i with
  | some k=>λh=>match h[n]? with
   | some (.dK kvs)=>if kvs.length<sizeLine then .ok () (h.set n (.dK (ptD kvs k v))) else .bad
   | _=>.bad
  | none=>bad)
 | _=>bad
def gDx (mo mi:G->M D):D->G->M G:=λv γ=>do
 let o <- mo γ;let i <- mi γ;let _ <- z7H o i v
 pure γ
section
variable {a o i f:Expr}{mi:G->M D}
theorem z8j {x:D}{u:V}(r:RH K ρ h H) (rx:RD K ρ H x u) (fin:Fin K EX ρ H Z (dicD x h)):∃n a kvs vs,x=.ref n/\u=.ref a/\ρ[n]?=some a/\(h[n]?=some (.dK kvs)\/h[n]?=some (.dF kvs))/\Rd H a (.dK vs)/\RK K ρ H kvs vs/\Z kvs ρ h H:=by
 cases x<;>first|exact(show False from fin).elim|skip
 rename_i n;simp only[RD]at rx;obtain⟨a,rfl,hq⟩:=rx;unfold dicD getK at fin;dsimp only at fin;cases e:h[n]? with
 | none=>rw[e]at fin;exact fin.elim
 | some ob =>
  cases ob with
  | lst xs=>rw[e]at fin;exact fin.elim
  | set xs=>rw[e]at fin;exact fin.elim
  | dct=>rw[e]at fin;exact fin.elim
  | exc c=>rw[e]at fin;exact fin.elim
  | ins _ _=>rw[e]at fin;exact fin.elim
  | dK kvs =>
   rw[e]at fin;obtain⟨a1,n1,vs,o1,d1⟩:=r.at e;rw[hq]at n1;cases n1;exact⟨n,a,kvs,vs,rfl,rfl,hq,.inl e,.inl o1,d1,fin ρ H .(b) .(c) r⟩
  | dF kvs =>
   rw[e]at fin;obtain⟨a1,n1,ob,vs,o1,d1⟩:=r.at e;rw[hq]at n1;cases n1;exact⟨n,a,kvs,vs,rfl,rfl,hq,.inr e,.inr ⟨ob,o1⟩,d1,fin ρ H .(b) .(c) r⟩
theorem zR0:SE X EX (.Dict [] [] pos) (λ_=>newK []) :=
 ⟨PE.imp zn2 λσ H Q ⟨ρ,γ,h,rel,fin⟩ p hp=>by
  unfold newK at fin;dsimp only at fin;rw[if_pos (show ([]:List (Key×D)).length<=sizeLine from K3j _)]at fin;refine fin (ρ++[p]) _ (Pre.app _ _) (Ext.upd (.inl hp)) (rel.h.pushO hp ⟨[],J8,.nil⟩) _ ?_;simp only[RD];refine⟨p,rfl,?_⟩;rw[<- rel.h.len];simp⟩
theorem z3O (hu:X.A.units+1<cLine) (ha:SE X EX o mo) (hb:SE X EX i mi) (hs:NoSl i:=by intro _ _;rfl):SE X EX (.Subscript o i pos) (e2 z4x mo mi) :=
 ⟨PE.imp (zJ0 hu ha.h hb.h hs) λσ H Q ⟨ρ,γ,h,rel,fin⟩=>⟨ρ,γ,h,rel,(Fin.bind fin).mono λx ρ1 h1 H1 p1 e1 r1 f1 v rv=>⟨ρ1,γ,h1,⟨rel.g.mono p1 e1,r1⟩,(Fin.bind f1).mono λy ρ2 h2 H2 p2 e2 r2 f2 w rw'=>by
  obtain⟨n,ad,kvs,vs,rfl,rfl,hn,hk,hH,rk,f3⟩:=z8j r2 (rv.mono p2 e2) (Fin.bind f2);cases ek:keyD y with
  | none=>rw[ek]at f3;exact f3.elim
  | some k =>
   rw[ek]at f3;have:=z9O ek rw';subst this;rcases rk.lk k with ⟨z1,_⟩|⟨d,u,z1,z2,rd⟩
   ·dsimp only at f3;rw[z1]at f3;exact f3.elim
   ·dsimp only at f3;rw[z1]at f3;refine⟨ad,u,rfl,?_,FE.here f3 r2 rd⟩;rw[<- z2];exact .inl ⟨vs,k,hH,rfl,rfl⟩⟩⟩⟩
def rInD (neg:Bool):R2:=λy x H Q=>∃ad ov,x=.ref ad/\DGet H ad y ov/\Q (.bl (ov.isSome != neg)) H
theorem zX6 (hu:X.A.units+1<cLine):OpR X (K20 .In) (rInD false):=by
 intro pins s σ H x y v u Q I rx ry h;obtain⟨ad,ov,rfl,g,q⟩:=h;cases ry;rw[K1j]at q;exact d_in hu I g rx λs' I'=>⟨.bl _,H,I',rfl,q⟩
theorem Z0b:BR X.K EX (rInD neg) (fInD neg):=by
 intro ρ h H y x w v Q r ry rx fin;obtain⟨n,ad,kvs,vs,rfl,rfl,hn,hk,hH,rk,f3⟩:=z8j r rx (Fin.bind fin);cases ek:keyD y with
 | none=>rw[ek]at f3;exact f3.elim
 | some k =>
  rw[ek]at f3;have:=z9O ek ry;subst this;refine⟨ad,valV vs k,rfl,.inl ⟨vs,k,hH,rfl,rfl⟩,?_⟩;have:(valV vs k).isSome=(lkD kvs k).isSome:=by
   rcases rk.lk k with ⟨z1,z2⟩|⟨d,u,z1,z2,_⟩<;>rw[z1,z2]<;>rfl
  rw[this];exact FE.here f3 r (by simp[RD])
theorem zz1 (hu:X.A.units+1<cLine):CO X EX .In (fInD false):=⟨_,zX6 hu,Z0b⟩
def Z0z:V->V->V->Hp->(Hp->Prop)->Prop:=λo i v H Q=>∃ad H',o=.ref ad/\DPut H ad i v H'/\Q H'
theorem set_dict (hu:X.A.units+1<cLine):PSet X Z0z:=by
 intro pins s σ H o i v ov iv u Q I ro ri rv h;obtain⟨ad,H',rfl,g,q⟩:=h;cases ro;exact zj4 hu I g ri rv λs' I'=>⟨H',I',q⟩
theorem Z0j (hu:X.A.units+1<cLine) (ho:SE X EX o mo) (hi:SE X EX i mi)
 (ha:∀v,assign (.Subscript o i pos) X.env v=(do
  let ov <- K44 [v] (eval o X.env);let iv <- K44 [v,ov] (eval i X.env)
  K5k pos
  K44 [v,ov,iv] (Z36 ov iv v)
  release [v,ov,iv] []):=by intro _;rfl):SG X EX (.Subscript o i pos) (gDx mo mi) :=
 ⟨PG.imp (zv3 ho.h hi.h (set_dict hu) ha) λv σ H Q ⟨ρ,γ,h,d,rel,rd,fin⟩=>⟨ρ,γ,h,rel,(Fin.bind fin).mono λod ρ1 h1 H1 p1 e1 r1 f1 ov ro=>⟨ρ1,γ,h1,⟨rel.g.mono p1 e1,r1⟩,(Fin.bind f1).mono λid ρ2 h2 H2 p2 e2 r2 f2 iv ri=>by
  have f3:=Fin.bind f2;cases od<;>first|exact(show False from f3).elim|skip
  rename_i n;unfold z7H at f3;dsimp only at f3;cases ek:keyD id with
  | none=>rw[ek]at f3;exact f3.elim
  | some k =>
   rw[ek]at f3;have:=z9O ek ri;subst this;simp only[RD]at ro;obtain⟨q,rfl,hq⟩:=ro;have hq2:=p2 n q hq;dsimp only at f3;cases e4:h2[n]? with
   | none=>rw[e4]at f3;exact f3.elim
   | some ob =>
    cases ob with
    | lst xs=>rw[e4]at f3;exact f3.elim
    | set ks=>rw[e4]at f3;exact f3.elim
    | dct=>rw[e4]at f3;exact f3.elim
    | exc c=>rw[e4]at f3;exact f3.elim
    | ins _ _=>rw[e4]at f3;exact f3.elim
    | dF c=>rw[e4]at f3;exact f3.elim
    | dK kvs =>
     rw[e4]at f3;dsimp only at f3;split at f3
     ·rename_i hl;obtain⟨a1,n1,vs,o1,d1⟩:=r2.at e4;rw[hq2]at n1;cases n1;have rv:=(rd.mono p1 e1).mono p2 e2;refine⟨q,_,rfl,DPut.k o1 (by rw[<- d1.len];exact hl),?_⟩;have ext:Ext X.K H2 (upd H2 q (.dK (L2.putK vs k v))):=Ext.upd (.inr ⟨_,o1,trivial⟩);have r3:RH X.K ρ2 (h2.set n (.dK (ptD kvs k d))) (upd H2 q (.dK (L2.putK vs k v))):=r2.setO e4 hq2 ⟨_,J8,(d1.put k rv).mono .(b) ext⟩;exact f3 ρ2 _ .(b) ext r3 ρ2 _ .(b) .(c) r3 σ (((rel.g.mono p1 e1).mono p2 e2).mono .(b) ext)
     ·exact f3.elim⟩⟩⟩
end
def orM (m n:M α):M α:=λh=>match m h with
 | .bad=>n h
 | r=>r
def orE (m n:G->M α):G->M α:=λγ=>orM (m γ) (n γ)
section
variable {tg:Expr}
theorem z8P (m n:M α) (h:AH):orM m n h=m h\/orM m n h=n h:=by
 unfold orM;cases m h with
 | bad=>exact .inr rfl
 | ok a b=>exact .inl rfl
 | err a b=>exact .inl rfl
theorem zR9 {n:G->M D}(a:SE X EX e m) (b:SE X EX e n):SE X EX e (orE m n) :=
 ⟨λpins s σ H Q I ⟨ρ,γ,h,rel,fin⟩=>by
  rcases z8P (m γ) (n γ) h with z|z<;>rw[show orE m n γ h=orM (m γ) (n γ) h from rfl,z]at fin
  ·exact a.h pins s σ H Q I ⟨ρ,γ,h,rel,fin⟩
  ·exact b.h pins s σ H Q I ⟨ρ,γ,h,rel,fin⟩⟩
theorem z7q {m n:G->M Src}(a:SI X EX tg e m) (b:SI X EX tg e n):SI X EX tg e (orE m n) :=
 ⟨λpins s σ H Q I ⟨ρ,γ,h,rel,fin⟩=>by
  rcases z8P (m γ) (n γ) h with z|z<;>rw[show orE m n γ h=orM (m γ) (n γ) h from rfl,z]at fin
  ·exact a.h pins s σ H Q I ⟨ρ,γ,h,rel,fin⟩
  ·exact b.h pins s σ H Q I ⟨ρ,γ,h,rel,fin⟩⟩
end
theorem or_l {m n:G->M α}{v:α}(e:m γ h=.ok v h1):orE m n γ h=.ok v h1:=by unfold orE orM;rw[e]
theorem or_r {m n:G->M α}(e:m γ h=.bad):orE m n γ h=n γ h:=by unfold orE orM;rw[e]
theorem or_b {m n:G->M α}(e:m γ=bad):orE m n γ=n γ:=funext λh=>or_r (by rw[e];rfl)
theorem W_of {m:M α}{v:α}{Q:α->AH->Prop}(e:m h=.ok v h1) (q:Q v h1):W m h Q:=⟨_,_,e,q⟩
def kvN (l:List Nat):List (Key×D):=l.map λ(i:Nat)=>(.inl (i:Int),.bl true)
def putN (acc:List Nat) (k:Nat):List Nat:=if k∈acc then acc else acc++[k]
def dedN (l:List Nat):List Nat:=l.foldl putN []
theorem zr8 {a:List Nat}{k:Nat}:x∈putN a k↔x∈a\/x=k:=by
 unfold putN;split
 ·exact⟨.inl,λh=>h.elim id λe=>by subst e;assumption⟩
 ·simp
theorem zF5 {a:List Nat}{k:Nat}(h:a.Nodup):(putN a k).Nodup:=by
 unfold putN;split
 ·exact h
 ·exact zj2 h ‹_›
theorem z8X {x:Nat}:∀{l a:List Nat},x∈l.foldl putN a↔x∈a\/x∈l
 | [],a=>by simp
 | k::l,a=>by rw[K4m,z8X,zr8,K12];exact or_assoc
theorem zc6:∀{l a:List Nat},a.Nodup->(l.foldl putN a).Nodup
 | [],_,h=>h
 | _::l,_,h=>zc6 (l:=l) (zF5 h)
theorem dedN_mem:x∈dedN l↔x∈l:=by unfold dedN;rw[z8X];simp
theorem z9S (l:List Nat):(dedN l).Nodup:=zc6 K9j
theorem zf1:∀(l a:List Nat),(kN l).foldl putK (kN a)=kN (l.foldl putN a)
 | [],a=>rfl
 | k::l,a=>by
  have e:putK (kN a) (.inl (k:Int))=kN (putN a k):=by
   unfold putN;split
   ·rename_i h;unfold putK;rw[if_pos (kN_mem.mpr h)]
   ·exact zW0 ‹_›
  show (kN l).foldl putK (putK (kN a) (.inl (k:Int)))=_;rw[e];exact zf1 l (putN a k)
theorem zw1 (l:List Nat):dedK (kN l)=kN (dedN l):=zf1 l []
theorem zr7 (h:∀x∈l,x<n):(dedN l).length<=n:=z4L (z9S l) λx hx=>h x (dedN_mem.mp hx)
theorem z7Q:∀l:List Nat,z5R (stD l)=some (kN l)
 | []=>rfl
 | a::l=>by
  have:z5R (stD (a::l))=(match keyD (.int (a:Int)),z5R (stD l) with
   | some k,some ks=>some (k::ks)
   | _,_=>none):=rfl
  rw[this,z7Q l];rfl
def setN (l:List Nat):List Nat:=z0G (dedN l)
theorem z4h:x∈setN l↔x∈l:=by unfold setN;rw[sortN_mem,dedN_mem]
theorem z4u (l:List Nat):(setN l).Pairwise (·<·):=z1t (z9S l)
theorem z3K (h:l.Pairwise (·<·)):l.Nodup:=h.imp λh=>K0o h
theorem z4g {m:List Nat}(a:l.Pairwise (·<·)) (b:m.Pairwise (·<·)) (h:∀x,x∈l↔x∈m):l=m :=
 ((K7h (z3K a) (z3K b)).mpr h).eq_of_pairwise (λ_ _ _ _ h1 h2=>absurd h2 (Nat.lt_asymm h1)) a b
theorem z5Q (h:∀x∈l,x<n):(setN l).length<=n:=by unfold setN;rw[Y5];exact zr7 h
section
variable {a b:Nat}{v:D}{Q:Out->AH->Prop}
theorem zb0 (e:h[i]?=.(l xs)):z37 (.ref i) h=.ok i h:=by unfold z37;dsimp only;rw[e]
theorem zp4 (e:h[i]?=.(l xs)) (hl:xs.length<1000000):J2 i v h=.ok .non (h.set i (.lst (xs++[v]))):=by
 unfold J2 updL;rw[e];dsimp only;rw[if_pos (by simp[sizeLine];omega)]
theorem z98 (ea:γ[a]?=some (.(r i))) (e:h[i]?=.(l xs)) (hl:xs.length<1000000) (ev:me γ h=.ok v h) (z:W (mt γ) (h.set i (.lst (xs++[v]))) Q):W (Z0 (z15 (eM1 J2 (eVar a) me)) mt γ) h Q:=by
 refine zd6 ?_;have e1:eVar a γ=pure (.ref i):=by unfold eVar;rw[ea]
 unfold eM1;rw[e1,z0d,Z7];refine W_of (zb0 e) ?_;rw[Z7];exact W_of ev (W_of (zp4 e hl) z)
theorem zL6 (hl:xs.length<=1000000) (ev:∀h,me γ h=newL xs h) (z:W (mt (γ.set a (.(r h.length)))) (h++[.lst xs]) Q):W (Z0 (sAsg me (gN a)) mt γ) h Q:=by
 refine zl2 ?_;have:me γ=newL xs:=funext ev;rw[this];exact zX2 hl z
theorem j9 {r:Res D}(e:me γ h=.ok d h1) (e2:f [d] h1=r):Z6 f (z7 me aNil) γ h=r:=by
 have:z7 me aNil γ h=.ok [d] h1:=by
  show (me γ >>= λx=>(do let r <- aNil γ;pure (x::r):M (List D))) h=_;rw[M.bind_ok e];rfl
 show (z7 me aNil γ >>= f) h=_;rw[M.bind_ok this];exact e2
theorem zh0 (e:h[i]?=.(l xs)):z03 [.ref i] h=.ok (.tup xs) h:=by
 have ft:z03 [.ref i]=(do let x <- getL i;pure (.tup x)):=rfl;have g:getL i h=.ok xs h:=by unfold getL;rw[e]
 rw[ft,M.bind_ok g];rfl
theorem z4H (e:h[i]?=.(l xs)):fLen [.ref i] h=.ok (.int xs.length) h:=by
 have ft:fLen [.ref i]=(do let x <- getL i;pure (.int x.length)):=rfl;have g:getL i h=.ok xs h:=by unfold getL;rw[e]
 rw[ft,M.bind_ok g];rfl
theorem ix_h {t:Int}(e:h[i]?=.(l xs)) (a:atI xs t=some d):fIx (.ref i) (.int t) h=.ok d h:=by
 have ft:fIx (.ref i) (.int t)=(do let xs <- getL i;match atI xs t with|some d=>pure d|none=>bad):=rfl;have g:getL i h=.ok xs h:=by unfold getL;rw[e]
 rw[ft,M.bind_ok g,a];rfl
theorem zA3 {ss:List Str}(e:h[i]?=.(l (ss.map .str))) (hl:ss.length<64):z1P [.ref i] h=.ok .(u) (h++[.lst ((z1S ss).map .str)]):=by
 have fs:z1P [.ref i]=(do
  let xs <- getL i
  if xs.length<64 then (match z41 xs with
   | some ss=>newL ((z1S ss).map .str)
   | none=>(match z2S xs with
    | some ns=>newL ((sortI ns).map .int)
    | none=>bad)) else bad):=rfl
 have g:getL i h=.ok (ss.map .str) h:=by unfold getL;rw[e]
 rw[fs,M.bind_ok g,if_pos (by simpa using hl),strs_map];dsimp only;unfold newL;rw[if_pos (by rw[K03,z4G];unfold sizeLine;omega)]
theorem z61 (e:me γ h=.ok .(u) (h++[.lst xs])) (c:J6 0 xs=true):clE (Z6 z03 (z7 me aNil)) γ h=.ok (.tup xs) h :=
 z0S (j:=[.lst xs]) (j9 e (zh0 .(f))) (by simp only[Y1];exact z0Q (K3j _) c)
theorem cb_h {b:Bool}(e:me γ h=.ok (.bl b) h1):(λγ=>(do let d <- me γ;asB d:M Bool)) γ h=.ok b h1:=by
 dsimp only;rw[M.bind_ok e];rfl
theorem z2z {mb:G->M Out}(z:W (mb (z1w n ds)) h (runW λa h'=>a=d/\h'=h1)):runF n mb ds h=.ok d h1:=by
 obtain⟨_,_,a,rfl,rfl⟩:=z2n z;exact a
end
theorem z7m {f:D->D->Option Bool}{ι:Type} [DecidableEq ι] {enc:ι->D}(e:∀a b,f (enc a) (enc b)=some (decide (a=b))):∀l m:List ι,eqZ f (l.map enc) (m.map enc)=some (decide (l=m))
 | [],[]=>by simp[eqZ]
 | [],b::m=>by simp[eqZ]
 | a::l,[]=>by simp[eqZ]
 | a::l,b::m=>by
  rw[K0x,K0x];unfold eqZ;rw[e a b,z7m e l m];dsimp only;congr 1;rw[K19];simp
theorem z24 (a b:Nat):eqN (n+1) h (.int a) (.int b)=some (decide (a=b)):=by
 show some ((a:Int)==(b:Int))=_;congr 1;rw[K19,beq_iff_eq,decide_eq_true_eq];exact Int.ofNat_inj
theorem z7V (a b:Str):eqN (n+1) h (.str a) (.str b)=some (decide (a=b)):=by
 show some (a==b)=_;congr 1
theorem z5I [DecidableEq ι]{enc:ι->D}(e:∀a b,eqN n h (enc a) (enc b)=some (decide (a=b))) (l m:List ι):eqN (n+1) h (.tup (l.map enc)) (.tup (m.map enc))=some (decide (l=m)):=z7m e l m
theorem zA1 [DecidableEq ι]{enc:ι->D}(e:∀a b,eqN n h (enc a) (enc b)=some (decide (a=b))){l m:List ι}{j:Nat}(hi:h[i]?=.(l (l.map enc))) (hj:h[j]?=.(l (m.map enc))):eqN (n+1) h (.ref i) (.ref j)=some (decide (l=m)):=by
 have v1:vw h (.ref i)=.lst (l.map enc):=by unfold vw;dsimp only;rw[hi]
 have v2:vw h (.ref j)=.lst (m.map enc):=by unfold vw;dsimp only;rw[hj]
 unfold eqN;rw[v1,v2];exact z7m e l m
theorem z2r {x:D}(e:eqN 24 h x y=some b):fEqX neg x y h=.ok (.bl (b != neg)) h:=by
 unfold fEqX;rw[e]
theorem zx2 {m:List Nat}:fEqX neg (.tup (stD l)) (.tup (stD m))=pure (.bl (decide (l=m) != neg)):=funext λh=>z2r (z5I (enc:=λ(i:Nat)=>.int i) z24 l m)
theorem zH9 {m:List Nat}{j:Nat}(hi:h[i]?=.(l (stD l))) (hj:h[j]?=.(l (stD m))):fEqX neg (.ref i) (.ref j) h=.ok (.bl (decide (l=m) != neg)) h:=z2r (zA1 (enc:=λ(i:Nat)=>.int i) z24 hi hj)
section
variable {h2:AH}
theorem e2_h {f:D->D->M D}{x:D}{r:Res D}(e1:ma γ h=.ok x h1) (e2':mb γ h1=.ok y h2) (e3:f x y h2=r):e2 f ma mb γ h=r:=by
 show (ma γ >>= λx=>(mb γ >>= λy=>f x y)) h=_;rw[M.bind_ok e1,M.bind_ok e2',e3]
theorem fn_h {r:Res D}(e:mr γ h=.ok ds h1) (hn:ds.length=n) (e2:f ds h1=r):eFn n f mr γ h=r:=by
 show (mr γ >>= λxs=>if xs.length=n then f xs else bad) h=_;rw[M.bind_ok e,if_pos hn,e2]
theorem ac_h (e:ma γ h=.ok d h1) (e2:mr γ h1=.ok ds h2):z7 ma mr γ h=.ok (d::ds) h2:=by
 show (ma γ >>= λx=>(mr γ >>= λr=>(pure (x::r):M (List D)))) h=_;rw[M.bind_ok e,M.bind_ok e2];rfl
end
section
variable {prog:K1h}{w:World}
theorem za3:∀{vs:List Value}{ns:List Int},K6d vs ns->∀i (h1:i<vs.length) (h2:i<ns.length),∃t,vs[i]=.int ns[i] t
 | _,_,.nil,i,h1,_=>by simp at h1
 | _,_,.cons n t r,0,_,_=>⟨t,rfl⟩
 | _,_,.cons n t r,i+1,h1,h2=>by simpa using za3 r i (by simpa using h1) (by simpa using h2)
theorem z43 {t:Addr}{k:Int}{tk:Tok}{Q:Value->Shared->Prop}(ht:IsTup s.heap t vs.toArray) (hi:K6d vs ns) (hk:k∈ns) (h:Q (.int (ns.idxOf k:Nat) s.toks) { s with toks:=s.toks+1 }):
 wpAny (model prog w) A (call (.builtin "tuple.index") [.ref t,.int k tk]) Q E s:=by
 have hT:s.heap.IsTuple t vs.toArray:=ht;have hlen:=hi.length;have hj:ns.idxOf k<ns.length:=K1e.mpr hk;obtain⟨o,ho,hc,n,hd⟩:=id hT;refine K1y F.slot_tuple_index ⟨o,ho,hc⟩ F.entry_tuple_index ?_ (F.args_tuple_index_2 _ _);unfold Builtin.«tuple.index»
 wp_walk
 rw[hd];refine K8 ?_;refine K8 ?_;dsimp only;refine K0 (K8 ?_);refine K0 (K8 ?_);refine K0 ?_;rw[Std.Legacy.Range.forIn_eq_forIn_range'];simp only[Std.Legacy.Range.size,Nat.sub_zero,Nat.add_sub_cancel,Nat.div_one,Nat.min_self,K05];refine wpAny_forIn_list _
  (λrest b s'=>s'=s/\b=(none,())/\∃i,rest=Z2v i (vs.length - i)/\i<=ns.idxOf k)
  _ ?_ ?_ _ _ ⟨rfl,rfl,0,by simp,K3j _⟩
 ·rintro x rest b s' ⟨rfl,rfl,i,hr,hle⟩;have hlt:i<vs.length:=by omega
  obtain⟨rfl,hrest⟩:x=i/\rest=Z2v (i+1) (vs.length - (i+1)):=by
   have e:vs.length - i=(vs.length - (i+1))+1:=by omega
   rw[e,K8g]at hr;injection hr with h1 h2
   exact⟨h1,h2⟩
  have e1:vs.toArray[x]?=some vs[x]:=by simp[hlt]
  rw[e1];dsimp only;obtain⟨tk2,e2⟩:∃tk2,vs[x]=.int (ns[x]' .(0)) tk2:=za3 hi x hlt .(0);rw[e2];refine K0 (wpAny_eqBool_int ?_);by_cases e3:x=ns.idxOf k
  ·have e4:ns[x]' .(0)=k:=by subst e3;exact K79 hj
   rw[e4,if_pos .(f)];subst e3
   wp_walk
   exact⟨_,rfl,h⟩
  ·have e4:(ns[x]' .(0)==k)=false:=ne_of_lt_idxOf (show x<ns.idxOf k by omega) _;rw[if_neg (by rw[e4];decide)];exact K8 ⟨rfl,rfl,x+1,hrest,by omega⟩
 ·rintro b s' ⟨rfl,rfl,i,hr,hle⟩;have:vs.length - i=0:=by
   cases e:vs.length - i with
   | zero=>rfl
   | succ m=>rw[e,K8g]at hr;cases hr
  omega
end
section
variable {a o:Expr}{p:Pos}
def zG1 (K:K6):V->List V->Hp->VK->Prop:=λx vs H Q=>∃(l:Addr) (ns:List Int) (k:Int),x=.ref l/\vs=[.int k]/\SqL K H l (ns.map V.int)/\ns.length<=100000/\k∈ns/\Q (.int (ns.idxOf k:Nat)) H
def zB1 (K:K6):V->List V->Hp->VK->Prop:=λx vs H Q=>∃(l:Addr) (ns:List Int) (k:Int),x=.ref l/\vs=[.int k]/\SqT K H l (ns.map V.int)/\k∈ns/\Q (.int (ns.idxOf k:Nat)) H
theorem zf5:MtR X "tuple.index" (zB1 X.K):=by
 intro pins s σ H x vs v us Q I rx rv h;obtain⟨l,ns,k,rfl,rfl,hq,hk,q⟩:=h;cases rx;obtain⟨u,rfl,ru⟩:=rv.one;obtain⟨t,rfl⟩:=ru;obtain⟨its,r,pl,hz⟩:=I.tuple hq;exact z43 pl (intsAre_of r) hk ⟨.int _,H,I.tok _,⟨_,rfl⟩,q⟩
theorem z7r {A:Around}{E:Value->Shared->Prop}{l:Addr}{k:Int}{t:Tok}{Q:Value->Shared->Prop}(hl:s.heap.IsList l vs.toArray) (hi:K6d vs ns) (hb:ns.length<=100000) (hk:k∈ns) (h:Q (.int (ns.idxOf k:Nat) s.toks) { s with toks:=s.toks+1 }):
 wpAny .(6) A (call (.builtin "list.index") [.ref l,.int k t]) Q E s:=by
 obtain⟨⟨cls,dd,data,sl⟩,ho,hc,n,hd⟩:=id hl;simp only at hc hd;subst hc hd;have hlen:=hi.length;have hj:ns.idxOf k<ns.length:=K1e.mpr hk;refine K4z K8i ⟨_,ho,rfl⟩ PySem.F.entry_list_index (PySem.F.args_list_index_2 _ _)
  (PySem.SeqAt.list_indexAt l vs.toArray n dd sl (.int k t) (isInt k) (ns.idxOf k) (by simpa [hlen] using hj) .(0) ?_ ?_) ⟨ho,λy hy=>(eq_isInt k t hi y (by simpa using hy)).at _ _,h⟩
 ·show isInt k vs[ns.idxOf k]=true;rw[isInt_at k hi _ .(0) hj];simpa using K79 hj
 ·intro j hjs hlt;show isInt k vs[j]=false;rw[isInt_at k hi j (by simpa using hjs) .(0)];exact ne_of_lt_idxOf hlt _
theorem zf7:MtR X "list.index" (zG1 X.K):=by
 intro pins s σ H x vs v us Q I rx rv h;obtain⟨l,ns,k,rfl,rfl,hq,hb,hk,q⟩:=h;cases rx;obtain⟨u,rfl,ru⟩:=rv.one;obtain⟨t,rfl⟩:=ru;obtain⟨its,r,pl,hz⟩:=I.list hq;exact z7r pl.isList (intsAre_of r) hb hk ⟨.int _,H,I.tok _,⟨_,rfl⟩,q⟩
def ixI (xs:List D) (y:D):M D:=match z2S xs,y with
 | some ns,.int k=>if ns.length<=100000/\k∈ns then pure (.int (ns.idxOf k:Nat)) else bad
 | _,_=>bad
def z2y (n:Nat) (y:D):M D:=do
 let xs <- getL n
 ixI xs y
def z4Q (mo ma:G->M D):G->M D:=λγ=>do
 let o <- mo γ
 match o with
 | .tup xs=>do
  let y <- ma γ
  ixI xs y
 | _=>bad
theorem za0 {vs:List V}{u:V}{Q:VK}(r:RH X.K ρ h H) (rx:RDs X.K ρ H xs vs) (ry:RD X.K ρ H y u) (fin:FE X.K EX ρ H Q (ixI xs y h)):∃(ns:List Int) (k:Int),vs=ns.map V.int/\u=.int k/\ns.length<=100000/\k∈ns/\Q (.int (ns.idxOf k:Nat)) H:=by
 unfold ixI at fin;cases e:z2S xs with
 | none=>rw[e]at fin;exact fin.elim
 | some ns =>
  rw[e]at fin;cases y<;>first|exact(show False from fin).elim|skip
  rename_i k;dsimp only at fin;simp only[RD]at ry;subst ry;by_cases c:ns.length<=100000/\k∈ns
  ·rw[if_pos c]at fin;exact⟨ns,k,z4m e rx,rfl,c.1,c.2,FE.here fin r (by simp[RD])⟩
  ·rw[if_neg c]at fin;exact fin.elim
theorem z6q (ho:SE X EX o mo) (ha:SE X EX a ma)
 (hbase:K5d o "index" X.env (eval o X.env)=eval o X.env:=by rfl)
 (hfew:((backTo cpos (K0g [a] X.env)).all (λx=>!x.1)&&(K9l cpos (K6q [] X.env)).all (λx=>x.1.isSome)
 &&decide (([a]:List Expr).length+([]:List K6c).length+(if ([]:List K6c).isEmpty then 0 else 1)<30))=true:=by rfl)
 (hline:(apos.endLine==cpos.line)=true:=by rfl) (hs:K0g [a] X.env=[(false,eval a X.env)]:=by rfl) :
 SE X EX (.Call (.Attribute o "index" apos) [a] [] cpos) (eM1 z2y mo ma) :=
 ⟨PE.imp (zI0 K5w K8i PySem.F.type_list_index zf7 ho.h (z1k ha.h z2E hs) hbase hfew hline hs rfl) (zB7 λρ h H n q y u Q r hq ru fin=>by
  have f2:Fin X.K EX ρ H _ _:=Fin.bind (show Fin X.K EX ρ H (λd ρ' _ H'=>∀v,RD X.K ρ' H' d v->Q v H') ((getL n >>= λxs=>ixI xs y) h) from fin);cases e3:getL n h with
  | bad=>rw[e3]at f2;exact f2.elim
  | err z hz=>exact(z1h e3).elim
  | ok xs h3 =>
   obtain⟨rfl,q1⟩:=z1e e3;rw[e3]at f2;obtain⟨a1,n1,vs,o1,d1⟩:=r.at q1;rw[hq]at n1;cases n1;obtain⟨ns,k,rfl,rfl,hb,hk,q⟩:=za0 r d1 ru (f2 ρ H .(b) .(c) r);exact⟨_,ns,k,rfl,rfl,SqL.of o1,hb,hk,q⟩)⟩
def tBMT (K:K6) (r:V->List V->Hp->VK->Prop) (to:TE) (t:TA):TE:=λσ H Q=>to σ H λx H1=>(∃a xs,x=.ref a/\SqT K H1 a xs)/\t σ H1 λvs H2=>r x vs H2 Q
theorem tup_is {σ:L2.St}{a:Addr}{xs:List V}(I:Inv X pins σ H s) (h:SqT X.K H a xs):s.TypeIs (.ref a) "tuple"/\∀b,K25 a=.ref b->∃ob,s.heap.get? b=some ob/\ob.dict=none:=by
 rcases h with h|⟨o,its,n,hk,hc,_⟩
 ·obtain⟨z,its,r,o,e,c,d⟩:=h.ok I.hok;exact⟨⟨o,e,c.1⟩,λb eb=>by cases eb;exact⟨o,e,c.2⟩⟩
 ·exact⟨⟨o,I.kIn a o hk,hc.1⟩,λb eb=>by cases eb;exact⟨o,I.kIn _ o hk,hc.2⟩⟩
theorem zV1 {es:List Expr}{to:TE}{t:TA}{name:Str}{id:String}{r:V->List V->Hp->VK->Prop}(pa:PlainAttrs "tuple") (slot:Slot "tuple" name id) (hty:typeOf (.builtin id)=pure (.type "method_descriptor")) (hm:MtR X id r) (ho:PE X o to) (ha:PA X (e::es) t)
 (hbase:K5d o name X.env (eval o X.env)=eval o X.env:=by rfl)
 (hfew:((backTo cpos (K0g (e::es) X.env)).all (λx=>!x.1)&&(K9l cpos (K6q [] X.env)).all (λx=>x.1.isSome)
 &&decide ((e::es).length+([]:List K6c).length+(if ([]:List K6c).isEmpty then 0 else 1)<30))=true:=by rfl)
 (hline:(apos.endLine==cpos.line)=true:=by rfl) (hs:K0g (e::es) X.env=(false,eval e X.env)::K0g es X.env:=by rfl) (hplain:(backTo cpos (K0g es X.env)).any (·.1)=false:=by rfl) :
 PE X (.Call (.Attribute o name apos) (e::es) [] cpos) (tBMT X.K r to t):=by
 intro pins s σ H Q I h;refine K91 hbase hfew hline rfl (thn (ho pins s σ H _ I h) λv s1 ⟨x,H1,I1,r1,ty,q1⟩=>?_);obtain⟨a,xs,rfl,hq⟩:=ty;cases r1;obtain⟨h1,h2⟩:=tup_is I1 hq;refine⟨"tuple",id,pa,slot,hty,h1,h2,?_⟩;have hA:=ha cpos pins s1 σ H1 _ I1 q1;rw[hs]at hA ⊢;refine K8u (by show (false||(backTo cpos (K0g es X.env)).any (·.1))=false;rw[hplain]<;>rfl) (K9o ?_);exact thn hA λus s2 ⟨vs,H2,I2,r2,q2⟩=>hm pins s2 σ H2 (.ref a) vs (.ref a) us Q I2 rfl r2 q2
theorem z6Z (ho:SE X EX o mo) (ha:SE X EX a ma)
 (hbase:K5d o "index" X.env (eval o X.env)=eval o X.env:=by rfl)
 (hfew:((backTo cpos (K0g [a] X.env)).all (λx=>!x.1)&&(K9l cpos (K6q [] X.env)).all (λx=>x.1.isSome)
 &&decide (([a]:List Expr).length+([]:List K6c).length+(if ([]:List K6c).isEmpty then 0 else 1)<30))=true:=by rfl)
 (hline:(apos.endLine==cpos.line)=true:=by rfl) (hs:K0g [a] X.env=[(false,eval a X.env)]:=by rfl) :
 SE X EX (.Call (.Attribute o "index" apos) [a] [] cpos) (z4Q mo ma) :=
 ⟨PE.imp (zV1 PySem.F.plainAttrs_tuple PySem.F.slot_tuple_index PySem.F.type_tuple_index zf5 ho.h (z1k ha.h z2E hs) hbase hfew hline hs rfl) λσ H Q ⟨ρ,γ,h,rel,fin⟩=>⟨ρ,γ,h,rel,(Fin.bind fin).mono λx ρ1 h1 H1 p1 e1 r1 f1 v rv=>by
  cases x<;>first|exact(show False from f1).elim|skip
  rename_i xs;simp only[RD]at rv;obtain⟨q,vs,rfl,h2,h3⟩:=rv;exact⟨⟨q,vs,rfl,h2⟩,ρ1,γ,h1,⟨rel.g.mono p1 e1,r1⟩,(Fin.bind f1).mono λy ρ2 h4 H2 p2 e2 r2 f2 u ru=>by
   obtain⟨ns,k,rfl,rfl,hb,hk,q⟩:=za0 r2 (h3.mono p2 e2) ru f2;exact⟨_,ns,k,rfl,rfl,e2.t _ _ h2,hk,q⟩⟩⟩⟩
end
theorem z7W (e:h[n]?=.(l (stD l))):fIn neg (.int x) (.ref n) h=.ok (.bl (decide (x∈l) != neg)) h:=by
 have g:getL n h=.ok (stD l) h:=by unfold getL;rw[e]
 unfold fIn seqD;rw[M.bind_ok g,z7N,zg8];rfl
theorem x6:(h++[o])[h.length]?=some o:=by simp
theorem z2U {o':O}:(h++[o]).set h.length o'=h++[o']:=by simp
theorem zF2 (hl:S.length<64) (e:h[i]?=.(l (stD S))):z1P [.ref i] h=.ok .(u) (h++[.lst (stD (z0G S))]):=by
 have fs:z1P [.ref i]=(do
  let xs <- getL i
  if xs.length<64 then (match z41 xs with
   | some ss=>newL ((z1S ss).map .str)
   | none=>(match z2S xs with
    | some ns=>newL ((sortI ns).map .int)
    | none=>bad)) else bad):=rfl
 have g:getL i h=.ok (stD S) h:=by unfold getL;rw[e]
 cases S with
 | nil =>
  rw[fs,M.bind_ok g,if_pos (by rw[j8];exact hl)];have e1:z41 (stD [])=some []:=rfl;have e2:(z1S []).map D.str=stD (z0G []):=by
   have a:z1S []=[]:=K2h.mp (by rw[z4G];rfl);have b:z0G []=[]:=K2h.mp (by rw[Y5];rfl);rw[a,b];rfl
  rw[e1];dsimp only;rw[e2];unfold newL;rw[if_pos (by rw[j8,Y5];unfold sizeLine;simp)]
 | cons a S =>
  have sn:z41 (stD (a::S))=none:=rfl;rw[fs,M.bind_ok g,if_pos (by rw[j8];exact hl),sn,z4k];dsimp only;rw[z3w];unfold newL;rw[if_pos (by rw[j8,Y5];unfold sizeLine;omega)]
theorem zN_mem:(x:Int)∈zN l↔x∈l:=by
 unfold zN;constructor
 ·intro h;obtain⟨i,hi,e⟩:=K07.mp h;have:i=x:=by omega
  exact this ▸ hi
 ·exact λh=>K07.mpr ⟨x,h,rfl⟩
theorem zW8 (l:List Nat) (x:Nat):(zN l).idxOf (x:Int)=l.idxOf x:=by
 induction l with
 | nil=>rfl
 | cons a l ih =>
  show ((a:Int)::zN l).idxOf (x:Int)=_;rw[Z33,Z33,ih];by_cases e:a=x
  ·subst e;simp
  ·have h1:((a:Int)==(x:Int))=false:=by
    rw[beq_eq_false_iff_ne];omega
   have h2:(a==x)=false:=by rw[beq_eq_false_iff_ne];exact e
   rw[h1,h2]
theorem zy3 (hx:x∈l) (hl:l.length<=100000):ixI (stD l) (.int x)=pure (.int (l.idxOf x:Nat)):=by
 unfold ixI;rw[z4k];dsimp only;rw[if_pos ⟨by unfold zN;simpa using hl,zN_mem.mpr hx⟩,zW8]
theorem zN4 {mt:G->M D}(eo:mo γ h=.ok (.ref i) h) (e:h[i]?=.(l (stD l))) (ea:ma γ h=.ok (.int x) h) (hx:x∈l) (hl:l.length<=100000):orE (eM1 z2y mo ma) mt γ h=.ok (.int (l.idxOf x:Nat)) h:=by
 refine or_l ?_;show (mo γ >>= λo=>z37 o >>= λn=>ma γ >>= λy=>z2y n y) h=_;rw[M.bind_ok eo,M.bind_ok (zb0 e),M.bind_ok ea];have g:getL i h=.ok (stD l) h:=by unfold getL;rw[e]
 unfold z2y;rw[M.bind_ok g,zy3 hx hl];rfl
theorem Z03 (eo:mo γ=pure (.tup (stD l))) (ea:ma γ=pure (.int x)) (hx:x∈l) (hl:l.length<=100000):orE (eM1 z2y mo ma) (z4Q mo ma) γ=pure (.int (l.idxOf x:Nat)):=by
 rw[or_b]
 ·unfold z4Q;rw[eo,z0d];dsimp only;rw[ea,z0d,zy3 hx hl]
 ·show (mo γ >>= λo=>z37 o >>= λn=>ma γ >>= λy=>z2y n y)=_;rw[eo,z0d];rfl
section
variable {a:Nat}
theorem cv_h (e:me γ h=.ok (.bl b) h1):cVal me γ h=.ok b h1:=by
 unfold cVal;rw[M.bind_ok e];rfl
theorem cn_h (e:kb γ h=.ok b h1):cNot kb γ h=.ok (!b) h1:=by
 unfold cNot;rw[M.bind_ok e];rfl
theorem Z2 (e:γ[a]?=some (some d)):eVar a γ h=.ok d h:=by unfold eVar;rw[e];rfl
theorem Z0I {bs:List Bool}(e:me γ h=.ok .(u) (h++[.lst (bs.map .bl)])):clE (Z6 (fAll false) (z7 me aNil)) γ h=.ok (.bl (bs.all id)) h :=
 z0S (j:=[.lst (bs.map .bl)]) (j9 e (by
  have g:getL h.length (h++[O.lst (bs.map .bl)])=.ok (bs.map .bl) (h++[O.lst (bs.map .bl)]):=by unfold getL;rw[x6]
  unfold fAll;dsimp only;rw[M.bind_ok g,z5X];rfl)) rfl
theorem z5h (e:me γ h=.ok (.ref i) h) (q:h[i]?=.(l xs)):v8 me γ h=.ok (.lst i xs) h:=by
 have g:getL i h=.ok xs h:=by unfold getL;rw[q]
 unfold v8;rw[M.bind_ok e];dsimp only;rw[M.bind_ok g];rfl
theorem z1T (e:me γ h=.ok (.tup xs) h1):z0c me γ h=.ok (.con xs) h1:=by
 unfold z0c;rw[M.bind_ok e];rfl
theorem zA6 (e:me γ h=.ok (.ref i) h) (q:h[i]?=.(l xs)):orE (z0c me) (v8 me) γ h=.ok (.lst i xs) h:=by
 rw[or_r]
 ·exact z5h e q
 ·unfold z0c;rw[M.bind_ok e];rfl
theorem zB8 (e:me γ h=.ok (.tup xs) h1):orE (z0c me) (v8 me) γ h=.ok (.con xs) h1:=or_l (z1T e)
theorem z0R {cap:List (Option Nat)}{g:D->G->M G}(p:Nat->Bool) (f:Nat->D) (hi:mi γ h=.ok src h) (hs:src.items=stD l) (hg:∀j,src.good (h++j)) (hl:l.length<=1000000)
 (hd:∀x∈l,∃γ1,(∀h,g (.int x) (capG cap γ) h=.ok γ1 h)/\(∀j,kb γ1 (h++j)=.ok (p x) (h++j))/\(p x=true->∀j,me γ1 (h++j)=.ok (f x) (h++j))):x5 cap mi g kb me γ h=.ok .(u) (h++[.lst ((l.filter p).map f)]):=by
 refine(z28 (src:=src) (λd=>match d with|.int t=>p t.toNat|_=>false) (λd=>match d with|.int t=>f t.toNat|_=>.non) hi hg (by rw[hs,j8];exact hl) λd hd'=>?_).trans ?_
 ·rw[hs]at hd';obtain⟨x,hx,rfl⟩:=K07.mp hd';exact hd x hx
 ·rw[hs];unfold stD;rw[K99,K0u];rfl
end
theorem zD0 (a b:List Str) (l m:List Nat):eqN (n+3) h (.tup [.tup (a.map .str),.tup (stD l)]) (.tup [.tup (b.map .str),.tup (stD m)])=some (decide (a=b)&&decide (l=m)):=by
 have e1:eqN (n+2) h (.tup (a.map .str)) (.tup (b.map .str))=some (decide (a=b)):=z5I z7V a b;have e2:eqN (n+2) h (.tup (stD l)) (.tup (stD m))=some (decide (l=m)):=z5I (enc:=λ(i:Nat)=>.int i) z24 l m;show eqZ (eqN (n+2) h) _ _=_;unfold eqZ;rw[e1];unfold eqZ;rw[e2];unfold eqZ;simp
theorem z1W {h2:AH}{x:D}(e1:ma γ h=.ok x h1) (e2':mb γ h1=.ok y h2):eTup (z7 ma (z7 mb aNil)) γ h=.ok (.tup [x,y]) h2:=by
 have e3:z7 ma (z7 mb aNil) γ h=.ok [x,y] h2:=ac_h e1 (ac_h e2' rfl);unfold eTup;rw[M.bind_ok e3];rfl
theorem zT5 {tup:Bool}(e:ma γ=pure (.int (n:Nat))) (hn:n<=1000000):eRng tup ma γ=if tup then pure (.tup (z14 n)) else newL (z14 n):=by
 unfold eRng;rw[e,z0d];have l:n<=sizeLine:=K0d hn .(1);dsimp only;rw[if_pos (by rw[K0f,.(g) l,.(g) (show -(2 ^ 62)<=(n:Int) by omega),.(g) (show (n:Int)<2 ^ 62 by omega)];rfl),K0f]
theorem zT9 {m:M D}(z:W m h λd h1=>Y1 h.length d=false/\(∀i,d≠.ref i)/\Q d h1):W (cln m) h Q:=by
 obtain⟨d,h1,e,nd,nr,q⟩:=z;refine⟨d,h1,?_,q⟩;unfold cln;rw[e];dsimp only;split
 ·rw[if_neg (by rw[nd];decide)];cases d<;>first|rfl|exact(nr _ rfl).elim
 ·rfl
theorem zY8 (h:t<n):K5v (t:Int) n=some t:=by
 unfold K5v;rw[if_neg (show ¬ (t:Int)<0 by omega)];simp[h]
theorem Z08 {f:List D->Option (D×List D)}(e:h[n]?=.(l xs)) (ef:f xs=some (d,ys)) (l:ys.length<=sizeLine):updL n f h=.ok d (h.set n (.lst ys)):=by
 unfold updL;rw[e];dsimp only;rw[ef];dsimp only;rw[if_pos l]
theorem zE4 {v:D}(e:h[i]?=.(l xs)) (hv:xs[t]?=some v) (hl:xs.length<=1000000):z3k i (.int (t:Nat)) h=.ok v (h.set i (.lst (xs.eraseIdx t))):=by
 have ht:t<xs.length:=(K3.mp hv).1;have l:(xs.eraseIdx t).length<=sizeLine:=K0d (List.length_eraseIdx_le _ _) (K0d hl .(1));unfold z3k;refine Z08 e ?_ l;have:K5v (t:Int) xs.length=some t:=zY8 ht;split
 ·rw[this];dsimp only;rw[hv,Option.map_some]
 ·rename_i c;exact absurd ⟨by omega,by omega⟩ c
theorem z88:∀(l:List Nat) (t:Nat),(stD l).eraseIdx t=stD (l.eraseIdx t)
 | [],t=>rfl
 | a::l,0=>rfl
 | a::l,t+1=>by
  show D.int a::(stD l).eraseIdx t=D.int a::stD (l.eraseIdx t);rw[z88 l t]
theorem zq9 (h:t<l.length):(l.eraseIdx t++[l[t]]).Perm l:=by
 have e:l=l.take t++l[t]::l.drop (t+1):=by
  rw[K8x,K4s]
 rw[List.eraseIdx_eq_take_drop_succ];refine Z2z ?_ (List.Perm.of_eq e.symm);refine(List.perm_append_singleton _ _).trans ?_;exact List.perm_middle.symm
theorem zI1 {x:D}(e:seqD x h=.ok (stD l) h) (hl:l.length<=2000):z0h [x] h=.ok .(u) (h++[.set (kN (dedN l))]):=by
 unfold z0h;dsimp only;rw[M.bind_ok e,z7Q];dsimp only;rw[if_pos (by rw[zz0];omega),zw1];rfl
theorem ze3 (e:h[i]?=some (.set (kN l))) (hl:l.length<64):J4 [.ref i] h=.ok .(u) (h++[.lst (stD (z0G l))]):=by
 unfold J4;dsimp only;have g:getS i h=.ok (kN l) h:=by unfold getS;rw[e]
 rw[M.bind_ok g,z7I];dsimp only;rw[if_pos (by unfold zN;rw[K03];omega),z3w];unfold newL;rw[if_pos (by rw[j8,Y5];unfold sizeLine;omega)]
theorem Z0h {tup:Bool}(e:ma γ h=.ok (.int (n:Nat)) h1) (hn:n<=1000000):eRng tup ma γ h=(if tup then pure (.tup (z14 n)) else newL (z14 n)) h1:=by
 unfold eRng;rw[M.bind_ok e];have l:n<=sizeLine:=K0d hn .(1);dsimp only;rw[if_pos (by rw[K0f,.(g) l,.(g) (show -(2 ^ 62)<=(n:Int) by omega),.(g) (show (n:Int)<2 ^ 62 by omega)];rfl),K0f]
theorem zZ8 {Q:Out->AH->Prop}(J:D->AH->Prop) (z:W (ma γ) h J) (f:∀d h1,J d h1->∃γ',g d γ=pure γ'/\W (mt γ') h1 Q):W (Z0 (sAsg ma g) mt γ) h Q:=by
 rw[w_cons];unfold sAsg;rw[Z7];refine z.mono λd h1 q=>?_;obtain⟨γ',e,w⟩:=f d h1 q;rw[e,z0d,W_pure];exact w
def rowAt (row:List Nat) (o:Nat):Nat:=(row[o]?).getD 0
def mkAt (mk:List (List Str)) (i:Nat):List Str:=(mk[i]?).getD []
theorem zb8 (h:x∈l):l[l.idxOf x]?=some x:=by
 have:=K1e.mpr h;rw[K00 this,K79 this]
theorem z1V (h:x∈l):rowAt l (l.idxOf x)=x:=by unfold rowAt;rw[zb8 h];rfl
theorem z3f (h:i<l.length):l[i]?=some (rowAt l i):=by unfold rowAt;rw[K00 h];rfl
theorem z2t (h:i<l.length):rowAt l i∈l:=K0j (z3f h)
theorem z2N (h:l[i]?=some x):rowAt l i=x:=by unfold rowAt;rw[h];rfl
theorem zm9 {j:Nat}(nd:l.Nodup) (h:i<l.length) (h2:j<l.length) (e:rowAt l i=rowAt l j):i=j:=by
 unfold rowAt at e;rw[K00 h,K00 h2]at e;exact(Z2s nd).mp e
theorem zP2 (nd:l.Nodup) (h:i<l.length):l.idxOf (rowAt l i)=i:=by
 have m:=z2t h;exact zm9 nd (K1e.mpr m) h (z1V m)
theorem z48 {l:List (List Str)}(h:i<l.length):l[i]?=some (mkAt l i):=by unfold mkAt;rw[K00 h];rfl
theorem za4 {l:List (List Nat)}(h:i<l.length):l[i]?=some (nx l i):=by unfold nx;rw[K00 h];rfl
def Canon (row:List Nat):Prop:=∀i v,row[i]?=some v->∀u,u<v->u∈row.take i
def led (st:List (List Nat)) (row:List Nat) (x:Nat):List Nat:=setN ((nx st x).map (rowAt row))
structure Steady (st:List (List Nat)) (mk:List (List Str)) (row:List Nat):Prop where
 len:row.length=.(7)
 can:Canon row
 like:∀i,i<row.length->mkAt mk i=mkAt mk (row.idxOf (rowAt row i))/\led st row i=led st row (row.idxOf (rowAt row i))
structure Cop (bst:List (List Nat)) (bmk:List (List Str)) (st:List (List Nat)) (mk:List (List Str)) (raw:List Nat):Prop where
 l:.(7)=raw.length
 kd:∀x,x∈raw↔x<bst.length
 rise:∀i,i<raw.length->(nx st i).Pairwise (·<·)
 lt:∀i,i<raw.length->∀o∈nx st i,o<raw.length
 st:∀i,i<raw.length->∀t,t∈(nx st i).map (rowAt raw)↔t∈nx bst (rowAt raw i)
 ml:mk=raw.map (mkAt bmk)
def cnt (st:List (List Nat)):Nat->Nat->Nat
 | 0,_=>1
 | n+1,x=>((nx st x).map (cnt st n)).sum
def Z0m (w:List Nat):Nat:=w.getLast?.getD 0
def ext (st:List (List Nat)) (left:Nat) (w:List Nat):List (List Nat):=((nx st (Z0m w)).filter λy=>decide (0<cnt st left y)).map λy=>w++[y]
section
variable {ka:G->M Bool}{r:Res Bool}
theorem z9s (e1:ka γ h=.ok false h) (e2':kb γ h=r):cOr ka kb γ h=r:=by
 unfold cOr;rw[M.bind_ok e1,if_neg .(1)];exact e2'
theorem zi4 (e1:ka γ h=.ok true h) (e2':kb γ h=r):cAnd ka kb γ h=r:=by
 unfold cAnd;rw[M.bind_ok e1,if_pos rfl];exact e2'
theorem zc3 (e1:ka γ h=.ok false h):cAnd ka kb γ h=.ok false h:=by
 unfold cAnd;rw[M.bind_ok e1,if_neg .(1)];rfl
end
theorem zi8 (hl:xs.length<=1000000):newL xs h=.ok .(u) (h++[.lst xs]):=by
 unfold newL;rw[if_pos (K0d hl .(1))]
def z9j (n:Nat) (i v:D):M Unit:=z7H (.ref n) i v
noncomputable def z2k (src:Src) (g:D->G->M G) (k:G->M Bool) (me mv:G->M D) (n0:Nat) (γ:G):List D->M Unit
 | []=>do
  let _ <- src.chk
  pure ()
 | d::r=>do
  let _ <- src.chk;let γ1 <- g d γ;let t <- k γ1
  if t then do
   let y <- me γ1;let v <- mv γ1;let _ <- z9j n0 y v
   z2k src g k me mv n0 γ r
  else z2k src g k me mv n0 γ r
noncomputable def za1 (cap:List (Option Nat)) (mi:G->M Src) (g:D->G->M G) (k:G->M Bool) (me mv:G->M D):G->M D:=λγ=>do
 let src <- mi γ;let n0 <- (λh=>.ok h.length (h++[.dK []]):M Nat);let _ <- z2k src g k me mv n0 (capG cap γ) src.items
 pure (.ref n0)
section
variable {elt val tg iter c:Expr}{sc:Scope}{N':List Str}{own:List Nat}{k kr:G->M Bool}{mv:G->M D}
theorem zv4 {σ0:L2.St}{n0:Nat}{Dd:Addr}(hD:ρ0[n0]?=some Dd):HB X EX own σ0 ρ0 (λγ1 K=>do let y <- me γ1;let v <- mv γ1;let _ <- z9j n0 y v;K) (bPut (tE X.K EX me) (tE X.K EX mv) Dd):=λ{σ γ1 ρ h H P K Z} p0 _ rg rh fin hz=>by
 refine⟨ρ,γ1,h,⟨rg,rh⟩,(Fin.bind fin).mono λyd ρ5 h5 H5 p5 e5 r5 f5 y ry=>⟨ρ5,γ1,h5,⟨rg.mono p5 e5,r5⟩,(Fin.bind f5).mono λd ρ6 h6 H6 p6 e6 r6 f6 v rv=>?_⟩⟩;have hq:ρ6[n0]?=some Dd:=((p0.trans p5).trans p6) _ _ hD;have f7:=Fin.bind f6;unfold z9j z7H at f7;dsimp only at f7;cases ek:keyD yd with
 | none=>rw[ek]at f7;exact f7.elim
 | some kk =>
  rw[ek]at f7;dsimp only at f7;have hy:=z9O ek ry;cases e7:h6[n0]? with
  | none=>rw[e7]at f7;exact f7.elim
  | some ob =>
   cases ob<;>first|(rw[e7]at f7;exact f7.elim)|skip
   rename_i kvs;rw[e7]at f7;dsimp only at f7;split at f7
   ·rename_i hl;obtain⟨a1,n1,vs,o1,d1⟩:=r6.at e7;rw[hq]at n1;cases n1;have ext2:Ext X.K H6 (upd H6 Dd (.dK (L2.putK vs kk v))):=Ext.upd (.inr (r6.tracked hq e7));have r7:RH X.K ρ6 (h6.set n0 (.dK (ptD kvs kk d))) (upd H6 Dd (.dK (L2.putK vs kk v))):=r6.setO e7 hq ⟨_,J8,(d1.put kk rv).mono .(b) ext2⟩;have hl2:=d1.len;exact⟨kk,vs,hy,o1,by omega,hz ρ6 _ _ (p5.trans p6) ((e5.trans e6).trans ext2) r7 (f7 ρ6 _ .(b) ext2 r7)⟩
   ·exact f7.elim
theorem zo2 (he:∀s H fp xe,SE .(a) EX elt me) (hv:∀s H fp xe,SE .(a) EX val mv):CmA X EX (.DictComp elt val [⟨tg,iter,ifs,0⟩] sc pos) sc tg iter ifs N' cap own mi g k (.dK []) (λn0 γ1 K=>do let y <- me γ1;let v <- mv γ1;let _ <- z9j n0 y v;K) (λsrc n0 γ=>z2k src g k me mv n0 γ) :=
 ⟨⟨_,_,_,_,bPut (tE X.K EX me) (tE X.K EX mv),zB9,λρ H Dd=>⟨[],J8,.nil⟩,λD s H fp xe=>zg9 (he s H fp xe).h (hv s H fp xe).h,λ_ hD=>zv4 hD⟩,λ_ _ _=>rfl,λ_ _ _ _ _=>rfl⟩
noncomputable def z7u (i:Nat) (cap:List (Option Nat)) (mi:G->M Src) (g:D->G->M G) (k:G->M Bool) (me mv:G->M D):G->M Out:=sAsg (za1 cap mi g k me mv) (gN i)
theorem zI2 (i:Nat){y:Str}{py spos:Pos}(hc:X.calm=true) (S:CS X sc N' cap) (hi:SI X EX tg iter mi) (hg:∀s H fp xe,SGk .(a) EX tg own g) (ht:∀s H fp xe,SCs .(a) EX ifs k)
 (he:∀s H fp xe,SE .(a) EX elt me) (hv:∀s H fp xe,SE .(a) EX val mv) (hN:X.N.Nodup) (hy:X.N[i]?=some y:=by rfl) (hl:X.env.scope.names.lookup y=some .local:=by rfl) (hown:∀j∈own,cap[j]?=some none:=by decide)
 (hsw:K2d (.DictComp elt val [⟨tg,iter,ifs,0⟩] sc pos) (some (.Name y py)) spos.line X.env=pure true:=by rfl) (hs:∀x,K1d iter X.env x=pure x:=by intro _;rfl) :
 S1 X EX (.Assign [.Name y py] (.DictComp elt val [⟨tg,iter,ifs,0⟩] sc pos) spos) (z7u i cap mi g k me mv) :=
 s_cm i (zo2 he hv) hc S hi hg ht hown hN hy hl hsw hs
end
end FT
namespace L2
variable{pins:List (Addr×Obj)}{vs:List (Key×V)}{K:K6}{tg:Expr}
theorem zU8 {k:Key}{u:Value}(h:z29 k u=true):RelV (kV k) u:=by
 rcases y4 h with ⟨i,t,rfl,rfl⟩|⟨x,t,rfl,rfl⟩
 ·exact⟨t,rfl⟩
 ·exact⟨t,rfl⟩
theorem KV.get:∀{kvs:List (Key×V)}{vs:List (Key×Value)},KV kvs vs->∀{i:Nat}{k:Key}{x:V},kvs[i]?=some (k,x)->∃u,vs[i]?=some (k,u)
 | _,_,.nil,i,k,x,e=>by simp at e
 | p::_,q::_,.cons a b,0,k,x,e=>by
  have e':p=(k,x):=by simpa using e
  subst e';obtain⟨a1,_⟩:=a;refine⟨q.2,?_⟩;show some q=_;rw[show k=q.1 from a1]
 | _::_,_::_,.cons a b,i+1,k,x,e=>KV.get b (by simpa using e)
def Itk (a:Addr) (ob:Obj) (n:Nat):It :=
 ⟨λi H=>∃vs k x,H a=some (.frz ob (.dK vs))/\vs.length=n/\vs[i]?=some (k,x),λi H y H'=>H'=H/\∀vs,H a=some (.frz ob (.dK vs))->∃k x,vs[i]?=some (k,x)/\y=kV k,λi H=>i=n/\∃vs,H a=some (.frz ob (.dK vs))/\vs.length=n⟩
theorem zw0 {X:Cx}{σ:St}{H:Hp}{s:Shared}{a:Addr}{ob:Obj}{es:Array K9x}{ep:Nat}(I:Inv X pins σ H s) (e:H a=some (.frz ob (.dK vs))) (hob:ob.data=.dict es ep):
 vs.length<=sizeLine/\∃us,KV vs us/\s.heap.DictAt (J9 X.prog X.w) a us ep:=by
 obtain⟨go,z,hd,us,rel,o,es',ep',ho,r⟩:=(show ObjOk X.prog X.w H s.heap a (.frz ob (.dK vs)) from I.hok a _ e);rw[go]at ho;cases ho;obtain⟨r1,r2,r3⟩:=r;have:ep'=ep:=by rw[hob]at r2;cases r2;rfl
 subst this;exact⟨z,us,rel,ob,es',go,r1,r2,r3⟩
theorem z73 {P:K1h}{w:World}(a it:Addr) (ob:Obj) (n ep:Nat){es:Array K9x}(hob:ob.data=.dict es ep):Turn P w K tg (Itk a ob n) [it] it (λi h=>h.IsKeyIter it a i n ep) where
 mem:=by simp
 obj:=λi h st b hb=>by
  have e:b=it:=by simpa using hb
  subst e;obtain⟨o,e,c,d⟩:=st;exact⟨o,e,λv z=>by rw[d]at z;cases z⟩
 keep:=λi h h' st k=>st.at λo e=>k it .(f) o e
 item:=by
  intro X hP hw hK hc i pins s σ H E I hf st hg;subst hP hw hK;obtain⟨vs,k,x,hq,hl,hx⟩:=hg;obtain⟨z,us,rel,dat⟩:=zw0 I hq hob;obtain⟨u,hu⟩:=rel.get hx;have le:=rel.length;have st':s.heap.IsKeyIter it a i us.length ep:=by rw[<- le,hl];exact st
  obtain⟨f0,f1,f2,f3,f4,f5⟩:=hf it .(f);refine wpAny_pyNext_dict_item st' dat hu λkey h' hkey hit' sb=>?_;have I1:Inv X pins σ H { s with heap:=h' }:=I.turned (t':=s.toks) (λb o hb e=>(sb.2 b hb).trans e) f0 f1 f3 f4 f5;have hit2:h'.IsKeyIter it a (i+1) n ep:=by rw[<- hl,le];exact hit'
  obtain⟨o,e,c,d⟩:=id hit2;exact⟨key,rfl,zp3 (s:={ s with heap:=h' }) e c d .(1) ⟨kV k,H,I1,zU8 hkey,⟨rfl,λys hy=>by rw[hq]at hy;cases hy;exact⟨k,x,hx,rfl⟩⟩,hit2,λb hb=>(hf b hb).1⟩⟩
 done:=by
  intro X hP hw hK hc i pins s σ H E I hf st hg;subst hP hw hK;obtain⟨hi,vs,hq,hl⟩:=hg;obtain⟨z,us,rel,dat⟩:=zw0 I hq hob;have le:=rel.length;have st':s.heap.IsKeyIter it a i us.length ep:=by rw[<- le,hl];exact st
  obtain⟨f0,f1,f2,f3,f4,f5⟩:=hf it .(f);exact wpAny_pyNext_dict_end (I.ok.hd hc) st' dat (K13 .(0)) λh' eb=>⟨rfl,I.turned (t':=s.toks) (λb o hb e=>eb b o hb e) f0 f1 f3 f4 f5⟩
 self:=λ_ _ _ _ _ st h=>wpAny_pyIter_keyiter st h
section
variable {X:Cx}
def zR1 (tl:TE):TI:=λσ H R=>tl σ H λx H1=>∃a,x=.ref a/\((∃vs,H1 a=some (.dK vs)/\∀ob,R (Itk a ob vs.length) (upd H1 a (.frz ob (.dK vs))))\/∃ob vs,H1 a=some (.frz ob (.dK vs))/\R (Itk a ob vs.length) H1)
theorem zD1 {l:Expr}{tl:TE}(hl:PE X l tl):PI X tg l (zR1 tl):=by
 intro pins s σ H R I h;refine thn (hl pins s σ H _ I h) λv s1 ⟨x,H1,I1,r1,q1⟩=>?_;obtain⟨a,e,q1⟩:=q1;subst e;cases r1;rcases q1 with ⟨vs,hH,q⟩|⟨ob,vs,hH,q⟩
 ·obtain⟨z,hd,us,rel,dd⟩:=zi3 I1.hok hH;obtain⟨ob,es,ep,ho,r1,r2,r3⟩:=id dd;have dat:s1.heap.DictAt (J9 X.prog X.w) a us ep:=⟨ob,es,ho,r1,r2,r3⟩;refine wpAny_pyIter_dict hd dat ?_;have le:=rel.length;generalize hp:({ cls:=.type "dict_keyiterator",data:=.fields #[.ref a,.int 0 0,.int us.length 0,.int ep 0] }:Obj)=itO;have I2:Inv X pins σ H1 { s1 with heap:=s1.heap.push itO }:=I1.kept (t':=s1.toks) λb o e=>K7 _ e;have ho2:(s1.heap.push itO).get? a=some ob:=K7 _ ho;have I3:Inv X pins σ (upd H1 a (.frz ob (.dK vs))) { s1 with heap:=s1.heap.push itO }:=z4y (s:={ s1 with heap:=s1.heap.push itO }) (h':=s1.heap.push itO) (t':=s1.toks) I2 (by rw[hH];exact K38) (K7s _ _) ⟨_,ho2⟩ ⟨ho2,z,hd,us,rel,ob,es,ep,ho2,r1,r2,r3⟩;refine⟨.(j),[.(j)],_,_,_,rfl,I3,z73 a _ ob vs.length ep r2,?_,λb hb=>?_,q ob⟩
  ·refine⟨itO,?_,by rw[<- hp],by rw[<- hp,le];rfl⟩;exact K0a _ (by rw[<- hp];rfl)
  ·have e:b=s1.heap.objs.size:=by simpa using hb
   subst e;refine I1.fpOk (K01 _) ?_;rw[Y2 (K26 (K0e ho))];exact I1.hok.fresh (K01 _)
 ·obtain⟨go,z,hd,us,rel,dd⟩:=(show ObjOk X.prog X.w H1 s1.heap a (.frz ob (.dK vs)) from I1.hok a _ hH);obtain⟨ob',es,ep,ho,r1,r2,r3⟩:=id dd;rw[go]at ho;cases ho;have dat:s1.heap.DictAt (J9 X.prog X.w) a us ep:=⟨ob,es,go,r1,r2,r3⟩;refine wpAny_pyIter_dict hd dat ?_;have le:=rel.length;generalize hp:({ cls:=.type "dict_keyiterator",data:=.fields #[.ref a,.int 0 0,.int us.length 0,.int ep 0] }:Obj)=itO;have I2:Inv X pins σ H1 { s1 with heap:=s1.heap.push itO }:=I1.kept (t':=s1.toks) λb o e=>K7 _ e;refine⟨.(j),[.(j)],_,_,_,rfl,I2,z73 a _ ob vs.length ep r2,?_,λb hb=>?_,q⟩
  ·refine⟨itO,?_,by rw[<- hp],by rw[<- hp,le];rfl⟩;exact K0a _ (by rw[<- hp];rfl)
  ·have e:b=s1.heap.objs.size:=by simpa using hb
   subst e;exact I1.fpOk (K01 _) (I1.hok.fresh (K01 _))
end
end L2
namespace FT
variable{K:K6}{ρ:List Addr}{kvs:List (Key×D)}{vs:List (Key×V)}{ifs1:List Expr}{cap:List (Option Nat)}
def kD:Key->D
 | .inl i=>.int i
 | .inr x=>.str x
theorem zw2 {H:Hp}(k:Key):RD K ρ H (kD k) (kV k):=by cases k<;>simp[kD,kV,RD]
def z2q (kvs:List (Key×D)):List D:=kvs.map λkv=>kD kv.1
def iDic (ma:G->M D):G->M Src:=λγ=>do
 let x <- ma γ
 match x with
 | .ref n=>λh=>match h[n]? with
  | some (.dK kvs)=>.ok (.con (z2q kvs)) (h.set n (.dF kvs))
  | some (.dF kvs)=>.ok (.con (z2q kvs)) h
  | _=>.bad
 | _=>bad
theorem RK.get {K:K6}{ρ:List Addr}{H:Hp}:∀{kvs:List (Key×D)}{vs:List (Key×V)},RK K ρ H kvs vs->∀{i:Nat}{d:D},(z2q kvs)[i]?=some d->∃k x,d=kD k/\vs[i]?=some (k,x)
 | _,_,.nil,i,d,e=>by simp[z2q]at e
 | p::_,q::_,.cons a b,0,d,e=>by
  have e':kD p.1=d:=by simpa [z2q] using e
  subst e';exact⟨q.1,q.2,by rw[a.1],rfl⟩
 | _::_,_::_,.cons a b,i+1,d,e=>RK.get b (by simpa [z2q] using e)
theorem z82 {H:Hp}{a:Addr}{ob:Obj}(e:H a=some (.frz ob (.dK vs))) (rk:RK K ρ H kvs vs):JOK K (.con (z2q kvs)) ρ H (Itk a ob vs.length):=λi ρ2 h2 H2 p2 e2 r2 _=>by
 have hq:=e2.d _ _ _ e;refine⟨λd hd=>?_,λhi=>?_⟩
 ·obtain⟨k,x,rfl,g⟩:=RK.get rk hd;refine⟨⟨vs,k,x,hq,rfl,g⟩,λy H3 ⟨z1,z2⟩=>?_⟩;subst z1;obtain⟨k',x',g',rfl⟩:=z2 vs hq;rw[g]at g';cases g';exact⟨zw2 k,r2,Ext.refl _ _⟩
 ·refine⟨?_,vs,hq,rfl⟩;have:(z2q kvs).length=i:=hi;unfold z2q at this;rw[K03,RK.len rk]at this;exact this.symm
section
variable {X:Cx}{EX:XX}{a tg:Expr}{ma:G->M D}
theorem zV0 (ha:SE X EX a ma):SI X EX tg a (iDic ma) :=
 ⟨PI.imp (zD1 ha.h) λσ H R ⟨ρ,γ,h,rel,fin⟩=>⟨ρ,γ,h,rel,(Fin.bind fin).mono λx ρ1 h1 H1 p1 e1 r1 f1 v rv=>by
  cases x<;>first|exact(show False from f1).elim|skip
  rename_i n;simp only[RD]at rv;obtain⟨q,rfl,hq⟩:=rv;refine⟨q,rfl,?_⟩;dsimp only at f1;cases e:h1[n]? with
  | none=>rw[e]at f1;exact f1.elim
  | some ob =>
   cases ob with
   | lst xs=>rw[e]at f1;exact f1.elim
   | set xs=>rw[e]at f1;exact f1.elim
   | dct=>rw[e]at f1;exact f1.elim
   | exc c=>rw[e]at f1;exact f1.elim
   | ins _ _=>rw[e]at f1;exact f1.elim
   | dK kvs =>
    rw[e]at f1;dsimp only at f1;obtain⟨a1,n1,vs,o1,d1⟩:=r1.at e;rw[hq]at n1;cases n1;refine .inl ⟨vs,o1,λob=>?_⟩;have ext:Ext X.K H1 (upd H1 q (.frz ob (.dK vs))):=Ext.upd (.inr ⟨_,o1,trivial⟩);have r2:RH X.K ρ1 (h1.set n (.dF kvs)) (upd H1 q (.frz ob (.dK vs))):=r1.setO e hq ⟨ob,vs,J8,d1.mono .(b) ext⟩;exact f1 ρ1 _ .(b) ext r2 _ (z82 J8 (d1.mono .(b) ext))
   | dF kvs =>
    rw[e]at f1;dsimp only at f1;obtain⟨a1,n1,ob,vs,o1,d1⟩:=r1.at e;rw[hq]at n1;cases n1;exact .inr ⟨ob,vs,o1,f1 ρ1 _ .(b) .(c) r1 _ (z82 o1 d1)⟩⟩⟩
end
structure KS where
 seen:List Nat
 ord:List Nat
 wt:List (Nat×Bool)
theorem sm0 {h:AH}{o o':O}{j:AH}:(h++o::j).set h.length o'=h++o'::j:=by rw[K4t _ _ (K01 _),Z23];rfl
noncomputable def z36 (src:Src) (g:D->G->M G) (mi:G->M Src) (g1:D->G->M G) (k:G->M Bool) (me mv:G->M D) (n0:Nat) (γ:G):List D->M Unit
 | []=>do
  let _ <- src.chk
  pure ()
 | d::r=>do
  let _ <- src.chk;let γ1 <- g d γ;let s1 <- mi γ1;let _ <- z2k s1 g1 k me mv n0 γ1 s1.items
  z36 src g mi g1 k me mv n0 γ r
noncomputable def z5u (cap:List (Option Nat)) (mi:G->M Src) (g:D->G->M G) (mi1:G->M Src) (g1:D->G->M G) (k:G->M Bool) (me mv:G->M D):G->M D:=λγ=>do
 let src <- mi γ;let n0 <- (λh=>.ok h.length (h++[.dK []]):M Nat);let _ <- z36 src g mi1 g1 k me mv n0 (capG cap γ) src.items
 pure (.ref n0)
section
variable {X:Cx}{EX:XX}{elt val tg iter tg1 iter1:Expr}{sc:Scope}{pos:Pos}{N':List Str}{own own1:List Nat}{mi mi1:G->M Src}{g g1:D->G->M G}{k:G->M Bool}{me mv:G->M D}
theorem zk8 (hc:X.calm=true) (hi1:∀s H fp xe,SI .(a) EX tg1 iter1 mi1) (hg1:∀s H fp xe,SGk .(a) EX tg1 own1 g1) (ht:∀s H fp xe,SCs .(a) EX ifs1 k)
 (he:∀s H fp xe,SE .(a) EX elt me) (hv:∀s H fp xe,SE .(a) EX val mv) (hown1:∀j∈own1,cap[j]?=some none/\j∉own) (hs1:∀env x,K1d iter1 env x=pure x) :
 CmA X EX (.DictComp elt val [⟨tg,iter,[],0⟩,⟨tg1,iter1,ifs1,0⟩] sc pos) sc tg iter [] N' cap own mi g (λ_=>pure true) (.dK []) (λn0 γ1 K=>do let s1 <- mi1 γ1;let _ <- z2k s1 g1 k me mv n0 γ1 s1.items;K) (λsrc n0 γ=>z36 src g mi1 g1 k me mv n0 γ) :=
 ⟨⟨_,_,_,_,λD=>bIn (tI X.K EX mi1) (tGk X.K EX own1 g1) (tT X.K EX k) (bPut (tE X.K EX me) (tE X.K EX mv) D),zt7,λρ H Dd=>⟨[],J8,.nil⟩,
  λD s H fp xe=>zS2 (.inr ⟨_,_,_,_,_,rfl⟩) rfl (λ_=>rfl) hc (hi1 s H fp xe).h (λxe'=>(hg1 s H fp xe').h) (λxe'=>(ht s H fp xe').h) (λxe'=>zg9 (he s H fp xe').h (hv s H fp xe').h) (hs1 _),
  λnon hD=>Z0d (F1:=λs1 γ1=>z2k s1 g1 k me mv _ γ1) (λ_ _=>rfl) (λ_ _ _ _=>rfl) (λj hj=>⟨(hown1 j hj).2,non j (hown1 j hj).1⟩) λp=>zv4 (p _ _ hD)⟩,λ_ _ _=>rfl,λ_ _ _ _ _=>rfl⟩
theorem zh8 (hc:X.calm=true) (S:CS X sc N' cap) (hi:SI X EX tg iter mi) (hg:∀s H fp xe,SGk .(a) EX tg own g) (hi1:∀s H fp xe,SI .(a) EX tg1 iter1 mi1) (hg1:∀s H fp xe,SGk .(a) EX tg1 own1 g1) (ht:∀s H fp xe,SCs .(a) EX ifs1 k)
 (he:∀s H fp xe,SE .(a) EX elt me) (hv:∀s H fp xe,SE .(a) EX val mv) (hown:∀j∈own,cap[j]?=some none:=by decide) (hown1:∀j∈own1,cap[j]?=some none/\j∉own:=by decide) (hs:∀x,K1d iter X.env x=pure x:=by intro _;rfl) (hs1:∀env x,K1d iter1 env x=pure x:=by intro _ _;rfl) :
 SE X EX (.DictComp elt val [⟨tg,iter,[],0⟩,⟨tg1,iter1,ifs1,0⟩] sc pos) (z5u cap mi g mi1 g1 k me mv) :=
 zN8 (zk8 hc hi1 hg1 ht he hv hown1 hs1) hc S hi hg (λ_ _ _ _=>z0p) hown hs
end
end FT
namespace L2
theorem z3R:∀{vs:List (Key×V)}{us:List (Key×Value)},KV vs us->∀{l:List Value},l.length=us.length->(∀(j:Nat) v,l[j]?=some v->∃k x,us[j]?=some (k,x)/\z29 k v=true)->Vals (vs.map λkv=>kV kv.1) l
 | [],_,.nil,l,hl,h=>by
  cases l with
  | nil=>exact .nil
  | cons a l=>simp at hl
 | p::vs,q::us,.cons a b,l,hl,h=>by
  cases l with
  | nil=>simp at hl
  | cons v l =>
   obtain⟨k,x,e1,e2⟩:=h 0 v rfl;have e1':q=(k,x):=by simpa using e1
   subst e1';refine .cons ?_ (z3R b (by simpa using hl) λj v hv=>by simpa using h (j+1) v (by simpa using hv));have a1:p.1=k:=a.1;show RelV (kV p.1) v;rw[a1];exact zU8 e2
end L2
namespace FT
def z5t (n:Nat):M (List (Key×D)):=λh=>match h[n]? with
 | some (.dK kvs)=>.ok kvs h
 | some (.dF kvs)=>.ok kvs h
 | _=>.bad
theorem zj5 {K:K6}{EX:XX}{ρ:List Addr}{h:AH}{H:Hp}{n:Nat}{q:Addr}{Z:List (Key×D)->List Addr->AH->Hp->Prop}(r:RH K ρ h H) (hq:ρ[n]?=some q) (f:Fin K EX ρ H Z (z5t n h)) :
 ∃kvs vs,(H q=some (.dK vs)\/∃ob,H q=some (.frz ob (.dK vs)))/\RK K ρ H kvs vs/\Z kvs ρ h H:=by
 unfold z5t at f;cases e:h[n]? with
 | none=>rw[e]at f;exact f.elim
 | some ob =>
  cases ob with
  | lst xs=>rw[e]at f;exact f.elim
  | set xs=>rw[e]at f;exact f.elim
  | dct=>rw[e]at f;exact f.elim
  | exc c=>rw[e]at f;exact f.elim
  | ins _ _=>rw[e]at f;exact f.elim
  | dK kvs =>
   rw[e]at f;obtain⟨a1,n1,vs,o1,d1⟩:=r.at e;rw[hq]at n1;cases n1;exact⟨kvs,vs,.inl o1,d1,f ρ H .(b) .(c) r⟩
  | dF kvs =>
   rw[e]at f;obtain⟨a1,n1,ob,vs,o1,d1⟩:=r.at e;rw[hq]at n1;cases n1;exact⟨kvs,vs,.inr ⟨ob,o1⟩,d1,f ρ H .(b) .(c) r⟩
theorem z6G {K:K6}{ρ:List Addr}{H:Hp}:∀{kvs:List (Key×D)}{vs:List (Key×V)},RK K ρ H kvs vs->RDs K ρ H (z2q kvs) (vs.map λkv=>kV kv.1)
 | _,_,.nil=>RDs.nil
 | p::_,q::_,.cons a b=>by
  refine RDs.cons ?_ (z6G b);have a1:p.1=q.1:=a.1;show RD K ρ H (kD p.1) (kV q.1);rw[a1];exact zw2 q.1
section
variable {α:Type}{us:List α}
theorem ar1 (hl:us.length=1):∃a,us=[a]:=match us,hl with|[a],_=>⟨a,rfl⟩
theorem ar2 (hl:us.length=2):∃a b,us=[a,b]:=match us,hl with|[a,b],_=>⟨a,b,rfl⟩
theorem ar3 (hl:us.length=3):∃a b c,us=[a,b,c]:=match us,hl with|[a,b,c],_=>⟨a,b,c,rfl⟩
theorem ar4 (hl:us.length=4):∃a b c d,us=[a,b,c,d]:=match us,hl with|[a,b,c,d],_=>⟨a,b,c,d,rfl⟩
theorem ar5 (hl:us.length=5):∃a b c d e,us=[a,b,c,d,e]:=match us,hl with|[a,b,c,d,e],_=>⟨a,b,c,d,e,rfl⟩
end
variable{X:Cx}{EX:XX}{v a n m B b i kk x N most c:Nat}{pos:Pos}{mk bmk:List (List Str)}{mv me ma mb:G->M D}{prog P:K1h}{w:World}{pins:List (Addr×Obj)}{s:Str}{ρ:List Addr}{h r h1 R L:AH}{p:Nat×List Nat}{mr:G->M (List D)}{xs ys:List D}{d y:D}{T:String}{γ:G}{l raw row:List Nat}{ms mt:G->M Out}{Q:D->AH->Prop}{E:Value->Shared->Prop}{OK:Heap->Prop}{K:K6}{elts:List Expr}{t kb:G->M Bool}{f:Nat->Bool}{st bst:List (List Nat)}{o:O}{kvs:List (Key×D)}{cap:List (Option Nat)}{mi:G->M Src}{g:D->G->M G}{src:Src}{mg:Str->Option Value}{base:Heap}{ns:List Str}{cs:List (Nat×D)}{ks:List (Nat×O)}{w4 w5 w8:Option D}
def putO (n:Nat) (k v:D):M D:=match keyD k with
 | some kk=>λh=>match h[n]? with
  | some (.dK [])=>.ok (.ref n) (h.set n (.dK [(kk,v)]))
  | _=>.bad
 | none=>bad
noncomputable def z5a (mk mv:G->M D):G->M D:=λγ=>do
 let n <- (λh=>.ok h.length (h++[.dK []]):M Nat);let k <- mk γ;let v <- mv γ
 putO n k v
section
variable {k v:Expr}{mk:G->M D}
theorem z8I (hk:SE X EX k mk) (hv:SE X EX v mv):SE X EX (.Dict [some k] [v] pos) (z5a mk mv) :=
 ⟨PE.imp (zK5 (zu5 hk.h hv.h zD8) rfl rfl .(f) .(f)) λσ H Q ⟨ρ,γ,h,rel,fin⟩ p hp=>by
  have rP:RH X.K (ρ++[p]) (h++[.dK []]) (upd H p (.dK [])):=rel.h.pushO hp ⟨[],J8,.nil⟩;have eP:Ext X.K H (upd H p (.dK [])):=Ext.upd (.inl hp);have at0:(ρ++[p])[h.length]?=some p:=by rw[<- rel.h.len];simp
  have f1:=Fin.bind fin;have f2:=f1 (ρ++[p]) _ (Pre.app _ _) eP rP;refine⟨ρ++[p],γ,h++[.dK []],⟨rel.g.mono (Pre.app _ _) eP,rP⟩,(Fin.bind f2).mono λkd ρ1 h1 H1 p1 e1 r1 f3 kv rk=>⟨ρ1,γ,h1,⟨(rel.g.mono (Pre.app _ _) eP).mono p1 e1,r1⟩,(Fin.bind f3).mono λvd ρ2 h2 H2 p2 e2 r2 f4 vv rv=>?_⟩⟩;have hq:ρ2[h.length]?=some p:=(p1.trans p2) _ _ at0;unfold putO at f4;cases ek:keyD kd with
  | none=>rw[ek]at f4;exact f4.elim
  | some kk =>
   rw[ek]at f4;dsimp only at f4;cases e7:h2[h.length]? with
   | none=>rw[e7]at f4;exact f4.elim
   | some ob =>
    cases ob with
    | set ks=>rw[e7]at f4;exact f4.elim
    | dct=>rw[e7]at f4;exact f4.elim
    | lst xs=>rw[e7]at f4;exact f4.elim
    | exc c=>rw[e7]at f4;exact f4.elim
    | ins _ _=>rw[e7]at f4;exact f4.elim
    | dF c=>rw[e7]at f4;exact f4.elim
    | dK kvs =>
     cases kvs with
     | cons a b=>rw[e7]at f4;exact f4.elim
     | nil =>
      rw[e7]at f4;dsimp only at f4;obtain⟨a1,n1,vs,o1,d1⟩:=r2.at e7;rw[hq]at n1;cases n1;cases d1;have hy:=z9O ek rk;refine⟨o1,[(kk,vv)],by rw[hy];rfl,by simp,?_⟩;have ext2:Ext X.K H2 (upd H2 p (.dK [(kk,vv)])):=Ext.upd (.inr (r2.tracked hq e7));have r7:RH X.K ρ2 (h2.set h.length (.dK [(kk,vd)])) (upd H2 p (.dK [(kk,vv)])):=r2.setO e7 hq ⟨_,J8,.cons ⟨rfl,rv.mono .(b) ext2⟩ .nil⟩;exact f4 ρ2 _ .(b) ext2 r7 (.ref p) (by simp only[RD];exact⟨p,rfl,hq⟩)⟩
end
def Z0V:Key->PyData
 | .inl i=>.int i
 | .inr x=>.str x
def allO (f:D->Option PyData):List D->Option (List PyData)
 | []=>some []
 | d::ds=>match f d,allO f ds with
  | some p,some ps=>some (p::ps)
  | _,_=>none
def kvO (f:D->Option PyData):List (Key×D)->Option (List (PyData×PyData))
 | []=>some []
 | d::ds=>match f d.2,kvO f ds with
  | some p,some ps=>some ((Z0V d.1,p)::ps)
  | _,_=>none
def pdN:Nat->AH->D->Option PyData
 | 0,_,_=>none
 | _+1,_,.non=>some .none
 | _+1,_,.bl b=>some (.bool b)
 | _+1,_,.int i=>some (.int i)
 | _+1,_,.str x=>some (.str x)
 | n+1,h,.tup ds=>(allO (pdN n h) ds).map .tuple
 | n+1,h,.fl ds=>(allO (pdN n h) ds).map .list
 | n+1,h,.ref m=>match h[m]? with
  | .(l ds)=>(allO (pdN n h) ds).map .list
  | some (.dK kvs)=>(kvO (pdN n h) kvs).map .dict
  | _=>none
def z7z:List D->M D
 | [d]=>λh=>match pdN 30 h d with
  | some p=>if p.showable=true/\p.shown.length<=sizeLine/\p.depth<=60 then .ok (.str p.shown) h else .bad
  | none=>.bad
 | _=>bad
abbrev Grw (h h':Heap):Prop:=∀(b:Addr) (o:Obj),h.get? b=some o->h'.get? b=some o
structure RC (prog:K1h) (w:World) (h₀:Heap) (u:Value) (p:PyData):Prop where
 rd:∃as,Reads h₀ u p as
 rk:p.showable=true->p.shown.length<=sizeLine->∃bs,K8s h₀ p.depth bs/\ReprK prog w bs h₀ p.depth u p.shown
 tp:p.showable=true->p.shown.length<=sizeLine->∀(A:Around) (E:Value->Shared->Prop) (s:Shared) (Q:Value->Shared->Prop),A.guards=some []->A.units+p.depth+1<cLine->Grw h₀ s.heap ->
  (∀h' u tk,Grw s.heap h'->Q (.str p.shown u) { s with heap:=h',toks:=tk })->wpAny (model prog w) A (call (.builtin "repr") [u]) Q E s
structure RCs (prog:K1h) (w:World) (h₀:Heap) (us:List Value) (ps:List PyData):Prop where
 rd:∃as,ReadsAll h₀ us ps as
 rk:K3q ps=true->(∀t∈K1a ps,t.length<=sizeLine)->∃bs,K8s h₀ (K2s ps) bs/\ReprAllK prog w bs h₀ (K2s ps) us (K1a ps)
section
variable {h₀:Heap}
theorem RCs.nil:RCs prog w h₀ [] []:=⟨⟨[],.nil⟩,λ_ _=>⟨[],(λ_ h=>nomatch h),by simp only[K1a];exact .nil⟩⟩
theorem RCs.cons {u:Value}{us:List Value}{p:PyData}{ps:List PyData}(a:RC prog w h₀ u p) (b:RCs prog w h₀ us ps):RCs prog w h₀ (u::us) (p::ps):=by
 obtain⟨a1,ra⟩:=a.rd;obtain⟨a2,rb⟩:=b.rd;refine⟨⟨_,.cons ra rb⟩,λhs hz=>?_⟩;have hs':p.showable=true/\K3q ps=true:=by simpa [K3q] using hs
 obtain⟨b1,hb1,k1⟩:=a.rk hs'.1 (hz _ (by simp only[K1a];exact K10 ..));obtain⟨b2,hb2,k2⟩:=b.rk hs'.2 (λt ht=>hz t (by simp only[K1a];exact K0s _ ht));refine⟨b1++b2,?_,?_⟩
 ·simp only[K2s];exact(hb1.mono (Z35 _ _)).append (hb2.mono (Z2u _ _))
 ·simp only[K2s,K1a];exact .cons ((k1.more λb hb=>K1k _ hb).level_le (Z35 _ _)) (k2.more_le (λb hb=>K0t _ hb) (Z2u _ _))
theorem RC.none:RC prog w h₀ .none .none :=
 ⟨⟨_,.none⟩,λ_ _=>⟨[],(λ_ h=>nomatch h),by simp only[K17];exact .of_is ReprIs.none _ _ _⟩,λ_ _ A E s Q _ _ _ hQ=>P.repr_of_none (by simp only[K17]at hQ;exact hQ s.heap _ _ λ_ _ e=>e)⟩
theorem RC.bool (b:Bool):RC prog w h₀ (.bool b) (.bool b) :=
 ⟨⟨_,.bool b⟩,λ_ _=>⟨[],(λ_ h=>nomatch h),by simp only[K17];exact .of_is (ReprIs.bool b) _ _ _⟩,λ_ _ A E s Q _ _ _ hQ=>P.repr_of_bool (by simp only[K17]at hQ;exact hQ s.heap _ _ λ_ _ e=>e)⟩
theorem RC.int (i:Int) (t:Tok):RC prog w h₀ (.int i t) (.int i) :=
 ⟨⟨_,.int i t⟩,λhs _=>⟨[],(λ_ h=>nomatch h),by simp only[K17];exact .of_is (ReprIs.int t (by simpa [K2e] using hs)) _ _ _⟩,
  λhs _ A E s Q _ _ _ hQ=>P.repr_of_int (by simpa [K2e] using hs) (by simp only[K17]at hQ;exact hQ s.heap _ _ λ_ _ e=>e)⟩
theorem RC.str (x:Str) (t:Tok):RC prog w h₀ (.str x t) (.str x) :=
 ⟨⟨_,.str x t⟩,λ_ hz=>⟨[],(λ_ h=>nomatch h),by simp only[K17];exact .of_is (ReprIs.str x t (by simpa only[K17] using hz)) _ _ _⟩,
  λ_ hz A E s Q _ _ _ hQ=>P.repr_of_str (by simp only[K17]at hQ;exact hQ s.heap _ _ λ_ _ e=>e) (by simpa only[K17] using hz)⟩
theorem RC.list {a:Addr}{o:Obj}{its:List Value}{n:Nat}{ps:List PyData}(h1:h₀.get? a=some o) (h2:o.cls=.type "list") (h3:o.data=.seq its.toArray n) (b:RCs prog w h₀ its ps):RC prog w h₀ (.ref a) (.list ps):=by
 obtain⟨as,ra⟩:=b.rd;have r:Reads h₀ (.ref a) (.list ps) _:=.list h1 h2 h3 ra;refine⟨⟨_,r⟩,λhs hz=>?_,λhs hz A E s Q hg hu hk0 hQ=>?_⟩
 ·have hz':(listText (K1a ps)).length<=sizeLine:=by simpa only[K17] using hz
  obtain⟨bs,hb,hk⟩:=b.rk (by simpa [K2e] using hs) λt ht=>K0d (listText_mem_le ht) hz';have hna:a∉bs:=K6h r (by simp only[K1i];omega) hb;refine⟨a::bs,K93 r (by simp only[K1i];omega) hb,?_⟩;simp only[K1i,K17];cases its with
  | nil =>
   cases ra;simp only[K1a,listText_nil];exact ReprK.listEmpty h1 h2 h3
  | cons x l=>exact ReprK.list h1 h2 h3 hna (by simpa using hk.length_eq) (λi y e=>hk.item i y (by simpa using e))
 ·have hz':(listText (K1a ps)).length<=sizeLine:=by simpa only[K17] using hz
  obtain⟨bs,hb,hk⟩:=b.rk (by simpa [K2e] using hs) λt ht=>K0d (listText_mem_le ht) hz';have hna:a∉bs:=K6h r (by simp only[K1i];omega) hb;simp only[K1i]at hu;simp only[K17]at hQ;refine K9p .(0) ⟨_,hk0 _ _ h1,h2⟩ F.slot_list_repr.toG ?_;cases its with
  | nil =>
   cases ra;simp only[K1a,listText_nil]at hQ;exact call_list_repr_empty ⟨_,hk0 _ _ h1,h2⟩ (hk0 _ _ h1) h3 ⟨_,_,rfl,hQ s.heap _ _ λ_ _ e=>e⟩
  | cons x l =>
   exact call_list_reprK h1 h2 h3 hna (by simpa using hk.length_eq) (λi y e=>hk.item i y (by simpa using e)) (g:=[]) hg (λb _=>Z3h b) (by show A.units+1+_<_;omega) hk0 (λh' u tk hk'=>⟨_,_,rfl,hQ h' u tk hk'⟩) hz'
theorem RC.tuple {a:Addr}{o:Obj}{its:List Value}{n:Nat}{ps:List PyData}(h1:h₀.get? a=some o) (h2:o.cls=.type "tuple") (h3:o.data=.seq its.toArray n) (b:RCs prog w h₀ its ps):RC prog w h₀ (.ref a) (.tuple ps):=by
 obtain⟨as,ra⟩:=b.rd;have r:Reads h₀ (.ref a) (.tuple ps) _:=.tuple h1 h2 h3 ra;have key:(Z3k ps).showable=true->(Z3k ps).shown.length<=sizeLine->(tupleText (K1a ps)).length<=sizeLine/\∃bs,K8s h₀ (K2s ps) bs/\ReprAllK prog w bs h₀ (K2s ps) its (K1a ps)/\a∉bs:=λhs hz=>by
  have hz':(tupleText (K1a ps)).length<=sizeLine:=by simpa only[K17] using hz
  obtain⟨bs,hb,hk⟩:=b.rk (by simpa [K2e] using hs) λt ht=>K0d (tupleText_mem_le ht) hz';exact⟨hz',bs,hb,hk,K6h r (by simp only[K1i];omega) hb⟩
 refine⟨⟨_,r⟩,λhs hz=>?_,λhs hz A E s Q hg hu hk0 hQ=>?_⟩
 ·obtain⟨hz',bs,hb,hk,hna⟩:=key hs hz;refine⟨a::bs,K93 r (by simp only[K1i];omega) hb,?_⟩;simp only[K1i,K17];exact ReprK.tuple h1 h2 h3 hna hk
 ·obtain⟨hz',bs,hb,hk,hna⟩:=key hs hz;simp only[K1i]at hu;simp only[K17]at hQ;refine K9p .(0) ⟨_,hk0 _ _ h1,h2⟩ F.slot_tuple_repr ?_;exact call_tuple_reprK h1 h2 h3 hna hk (g:=[]) hg (λb _=>Z3h b) (by show A.units+1+_<_;omega) hk0 (λh' u tk hk'=>⟨_,_,rfl,hQ h' u tk hk'⟩) hz'
theorem RC.dict {a:Addr}{o:Obj}{es:Array K9x}{n:Nat}{ps:List (PyData×PyData)}(h1:h₀.get? a=some o) (h2:o.cls=.type "dict") (h3:o.data=.dict es n) (hsys:(a==K3r)=false)
 (b:RCs prog w h₀ (es.toList.map (·.key)) (ps.map (·.1))) (c:RCs prog w h₀ (es.toList.map (·.val)) (ps.map (·.2))):RC prog w h₀ (.ref a) (.dict ps):=by
 obtain⟨as,ra⟩:=b.rd;obtain⟨cs,rc⟩:=c.rd;have r:Reads h₀ (.ref a) (.dict ps) _:=.dict h1 h2 h3 ra rc;have key:(PyData.dict ps).showable=true->(PyData.dict ps).shown.length<=sizeLine->(dictText (K75 ps)).length<=sizeLine/\∃bs,K8s h₀ (K66 ps) bs/\a∉bs/\ReprEntriesK prog w bs h₀ (K66 ps) es.toList (K75 ps):=λhs hz=>by
  have hz':(dictText (K75 ps)).length<=sizeLine:=by simpa only[K17] using hz
  obtain⟨hs1,hs2⟩:=PyData.showableKv_split ps (by simpa [K2e] using hs);obtain⟨b1,hb1,k1⟩:=b.rk hs1 (λt ht=>let ⟨p,hp,hl⟩:=PyData.shownKv_key_le ps t ht;K0d hl (K0d (dictText_mem_le hp) hz'));obtain⟨b2,hb2,k2⟩:=c.rk hs2 (λt ht=>let ⟨p,hp,hl⟩:=PyData.shownKv_val_le ps t ht;K0d hl (K0d (dictText_mem_le hp) hz'));have hb:K8s h₀ (K66 ps) (b1++b2):=(hb1.mono (K8k ps)).append (hb2.mono (K8j ps));refine⟨hz',b1++b2,hb,K6h r (by simp only[K1i];omega) hb,?_⟩;rw[PyData.shownKv_eq];exact ReprEntriesK.of_two es.toList _ _ (k1.more_le (λb hb=>K1k _ hb) (K8k ps)) (k2.more_le (λb hb=>K0t _ hb) (K8j ps))
 refine⟨⟨_,r⟩,λhs hz=>?_,λhs hz A E s Q hg hu hk0 hQ=>?_⟩
 ·obtain⟨hz',bs,hb,hna,hk⟩:=key hs hz;refine⟨a::bs,K93 r (by simp only[K1i];omega) hb,?_⟩;simp only[K1i,K17];exact ReprK.dict h1 h2 h3 hsys hna hk
 ·obtain⟨hz',bs,hb,hna,hk⟩:=key hs hz;simp only[K1i]at hu;simp only[K17]at hQ;refine K9p .(0) ⟨_,hk0 _ _ h1,h2⟩ F.slot_dict_repr ?_;exact call_dict_reprK h1 h2 h3 hsys hna hk (g:=[]) hg (λb _=>Z3h b) (by show A.units+1+_<_;omega) hk0 (λh' u tk hk'=>⟨_,_,rfl,hQ h' u tk hk'⟩) hz'
end
section
variable {σ:L2.St}{H:Hp}{s:Shared}
theorem z8n {f:D->Option PyData}(ih:∀(d:D) (p:PyData) (v:V) (u:Value),f d=some p->RD X.K ρ H d v->RelV v u->RC X.prog X.w s.heap u p) :
 ∀{ds:List D} {ps:List PyData} {vs:List V} {us:List Value},allO f ds=some ps->RDs X.K ρ H ds vs->Vals vs us->RCs X.prog X.w s.heap us ps
 | [],ps,vs,us,e,r,v=>by
  simp only[RDs]at r;subst r;cases e;cases v;exact RCs.nil
 | d::ds,ps,vs,us,e,r,v=>by
  simp only[RDs]at r;obtain⟨x,r',rfl,r1,r2⟩:=r;simp only[allO]at e;split at e
  ·rename_i p ps' e1 e2;cases e;cases v with
   | cons v1 v2=>exact RCs.cons (ih d p x _ e1 r1 v1) (z8n ih e2 r2 v2)
  ·cases e
theorem zO2 {f:D->Option PyData}(ih:∀(d:D) (p:PyData) (v:V) (u:Value),f d=some p->RD X.K ρ H d v->RelV v u->RC X.prog X.w s.heap u p) :
 ∀{kvs:List (Key×D)} {ps:List (PyData×PyData)} {vs:List (Key×V)} {us:List (Key×Value)} {es:List K9x},kvO f kvs=some ps->RK X.K ρ H kvs vs->KV vs us->Pairs (J9 X.prog X.w) es us ->
  RCs X.prog X.w s.heap (es.map (·.key)) (ps.map (·.1))/\RCs X.prog X.w s.heap (es.map (·.val)) (ps.map (·.2))
 | [],ps,vs,us,es,e,r,v,q=>by
  cases r;cases v;cases q;cases e;exact⟨RCs.nil,RCs.nil⟩
 | d::ds,ps,vs,us,es,e,r,v,q=>by
  cases r with
  | cons r1 r2 =>
   cases v with
   | cons v1 v2 =>
    cases q with
    | cons q1 q2 q3 =>
     simp only[kvO]at e;split at e
     ·rename_i p ps' e1 e2;cases e;obtain⟨b1,b2⟩:=zO2 ih e2 r2 v2 q3;refine⟨RCs.cons ?_ b1,RCs.cons ?_ b2⟩
      ·rw[<- v1.1,<- r1.1]at q1;rcases y4 q1 with ⟨i,t,ek,ev⟩|⟨x,t,ek,ev⟩
       ·dsimp only;rw[ek,ev];exact RC.int i t
       ·dsimp only;rw[ek,ev];exact RC.str x t
      ·dsimp only;rw[q2];exact ih _ p _ _ e1 r1.2 v1.2
     ·cases e
theorem zZ4 (I:Inv X pins σ H s) (r:RH X.K ρ h H):∀(n:Nat) (d:D) (p:PyData) (v:V) (u:Value),pdN n h d=some p->RD X.K ρ H d v->RelV v u->RC X.prog X.w s.heap u p
 | 0,d,p,v,u,e,_,_=>by simp[pdN]at e
 | n+1,d,p,v,u,e,rd,ru=>by
  have ih:=zZ4 I r n;cases d with
  | non=>simp only[pdN]at e;cases e;simp only[RD]at rd;subst rd;cases ru;exact RC.none
  | bl b=>simp only[pdN]at e;cases e;simp only[RD]at rd;subst rd;cases ru;exact RC.bool b
  | int b=>simp only[pdN]at e;cases e;simp only[RD]at rd;subst rd;obtain⟨t,rfl⟩:=ru;exact RC.int b t
  | str b=>simp only[pdN]at e;cases e;simp only[RD]at rd;subst rd;obtain⟨t,rfl⟩:=ru;exact RC.str b t
  | tup ds =>
   simp only[RD]at rd;obtain⟨a,xs,rfl,hs,rds⟩:=rd;cases ru;simp only[pdN]at e;cases e1:allO (pdN n h) ds with
   | none=>rw[e1]at e;cases e
   | some ps =>
    rw[e1]at e;cases e;obtain⟨its,rv,⟨o,h1,h2,k,h3⟩,_⟩:=I.tuple hs;exact RC.tuple h1 h2 h3 (z8n ih e1 rds rv)
  | fl ds =>
   simp only[RD]at rd;obtain⟨a,xs,rfl,hs,rds⟩:=rd;cases ru;simp only[pdN]at e;cases e1:allO (pdN n h) ds with
   | none=>rw[e1]at e;cases e
   | some ps =>
    rw[e1]at e;cases e;obtain⟨its,rv,⟨o,k,h1,h2,h3⟩,_⟩:=I.list hs.sq;exact RC.list h1 h2 h3.2 (z8n ih e1 rds rv)
  | ref m =>
   simp only[RD]at rd;obtain⟨a,rfl,ha⟩:=rd;cases ru;simp only[pdN]at e;cases q1:h[m]? with
   | none=>rw[q1]at e;cases e
   | some ob =>
    rw[q1]at e;cases ob with
    | lst ds =>
     dsimp only at e;cases e1:allO (pdN n h) ds with
     | none=>rw[e1]at e;cases e
     | some ps =>
      rw[e1]at e;cases e;obtain⟨a1,n1,vs,o1,d1⟩:=r.at q1;rw[ha]at n1;cases n1;obtain⟨z,its,k,rv,eo⟩:=I.hok _ _ o1;exact RC.list eo rfl rfl (z8n ih e1 d1 rv)
    | dK kvs =>
     dsimp only at e;cases e1:kvO (pdN n h) kvs with
     | none=>rw[e1]at e;cases e
     | some ps =>
      rw[e1]at e;cases e;obtain⟨a1,n1,vs,o1,d1⟩:=r.at q1;rw[ha]at n1;cases n1;obtain⟨z,hy,us,kv,o,es,ep,h1,h2,h3,_,pr,_⟩:=I.hok _ _ o1;obtain⟨b,c⟩:=zO2 ih e1 d1 kv pr;exact RC.dict h1 h2.1 h3 hy b c
    | _=>cases e
end
section
variable {a:Expr}{p:Pos}
theorem zl3 (hg:X.A.guards=some []) (hu:X.A.units+64<cLine):z2C X (.builtin "repr") (λxs H Q=>∃ρ h d v p,xs=[v]/\RH X.K ρ h H/\RD X.K ρ H d v/\pdN 30 h d=some p/\p.showable=true/\p.shown.length<=sizeLine/\p.depth<=60/\Q (.str p.shown) H):=by
 intro pins s σ H xs us Q I r ⟨ρ,h,d,v,p,e,rh,rd,e1,e2,e3,e4,q⟩;subst e;obtain⟨u,rfl,ru⟩:=r.one;exact(zZ4 I rh 30 d p v u e1 rd ru).tp e2 e3 _ _ _ _ hg .(0) (λ_ _ e=>e) λh' t tk k=>⟨.str p.shown,H,I.kept k,⟨t,rfl⟩,q⟩
theorem zK9:AR X.K EX (λxs H Q=>∃ρ h d v p,xs=[v]/\RH X.K ρ h H/\RD X.K ρ H d v/\pdN 30 h d=some p/\p.showable=true/\p.shown.length<=sizeLine/\p.depth<=60/\Q (.str p.shown) H) z7z:=by
 intro ρ h H ds vs Q r rd fin;unfold z7z at fin;split at fin
 ·rename_i d;obtain⟨v,rfl,rv⟩:=rds1 rd;cases e:pdN 30 h d with
  | none=>rw[e]at fin;exact fin.elim
  | some p =>
   rw[e]at fin;dsimp only at fin;split at fin
   ·rename_i c;exact⟨ρ,h,d,v,p,rfl,r,rv,e,c.1,c.2.1,c.2.2,FE.here fin r (by simp[RD])⟩
   ·exact fin.elim
 ·exact fin.elim
theorem zb1 (hgd:X.A.guards=some []) (hu:X.A.units+64<cLine) (hg:Gl X "repr") (hm:X.mg "repr" = none) (ha:SA X EX [a] mr) (he:K0g [a] X.env=[(false,eval a X.env)]:=by rfl):SE X EX (.Call (.Name "repr" p) [a] [] pos) (Z6 z7z mr) :=
 z1D (z1q (zl3 hgd hu) hg hm .(2) ha.h .(1) .(1) he rfl) zK9
end
def Ths (P:Nat->D->Prop):Nat->List D->Prop
 | _,[]=>True
 | n,x::xs=>∃a b,P a x/\Ths P b xs/\a+b+2<=n
def Th (r:AH) (B:Nat):Nat->Nat->D->Prop
 | 0,_,_=>False
 | _+1,n,.non=>4<=n
 | _+1,n,.bl _=>5<=n
 | _+1,n,.int i=>i.natAbs<=B/\40<=n
 | _+1,n,.str x=>(reprText x).length<=n/\x.length<=1000
 | m+1,n,.tup xs=>∃a,Ths (Th r B m) a xs/\a+4<=n
 | _+1,_,.fl _=>False
 | m+1,n,.ref i=>∃j,i=j+3/\((∃xs a,r[j]?=.(l xs)/\Ths (Th r B m) a xs/\a+4<=n)\/(r[j]?=some (.dK [])\/r[j]?=some (.dK [(.inr "a",.int 1)])/\1<=m)/\40<=n)
section
variable {P P':Nat->D->Prop}
theorem Ths.imp (f:∀a d,P a d->P' a d):∀{n:Nat}{xs:List D},Ths P n xs->Ths P' n xs
 | _,[],_=>trivial
 | _,x::xs,⟨a,b,h1,h2,h3⟩=>⟨a,b,f a x h1,Ths.imp f h2,h3⟩
theorem Ths.up (h:n<=m) (t:Ths P n xs):Ths P m xs:=by
 cases xs with
 | nil=>trivial
 | cons x xs=>obtain⟨a,b,h1,h2,h3⟩:=t;exact⟨a,b,h1,h2,by omega⟩
theorem Ths.app:∀{n m:Nat}{xs ys:List D},Ths P n xs->Ths P m ys->Ths P (n+m) (xs++ys)
 | n,m,[],ys,_,t=>t.up .(0)
 | n,m,x::xs,ys,⟨a,b,h1,h2,h3⟩,t=>⟨a,b+m,h1,Ths.app h2 t,by omega⟩
theorem Ths.one (h:P n d):Ths P (n+2) [d]:=⟨n,0,h,trivial,by omega⟩
theorem Ths.rev:∀{n:Nat}{xs:List D},Ths P n xs->Ths P n xs.reverse
 | n,[],_=>trivial
 | n,x::xs,⟨a,b,h1,h2,h3⟩=>by
  rw[K4u];exact((Ths.rev h2).app (Ths.one h1)).up .(0)
theorem Ths.sub (s:xs.Sublist ys):∀{n:Nat},Ths P n ys->Ths P n xs:=by
 induction s with
 | slnil=>exact λt=>t
 | cons a s ih=>intro n ⟨a,b,h1,h2,h3⟩;exact(ih h2).up .(0)
 | cons_cons a s ih=>intro n ⟨a,b,h1,h2,h3⟩;exact⟨a,b,h1,ih h2,h3⟩
theorem Ths.mem:∀{n:Nat}{xs:List D},Ths P n xs->d∈xs->∃a,a+2<=n/\P a d
 | n,[],_,h=>nomatch h
 | n,x::xs,⟨a,b,h1,h2,h3⟩,h=>by
  rcases K12.mp h with rfl|h
  ·exact⟨a,by omega,h1⟩
  ·obtain⟨c,hc,p⟩:=Ths.mem h2 h;exact⟨c,by omega,p⟩
theorem Ths.len:∀{n:Nat}{xs:List D},Ths P n xs->2 * xs.length<=n
 | n,[],_=>by simp
 | n,x::xs,⟨a,b,h1,h2,h3⟩=>by have:=Ths.len h2;rw[K02];omega
theorem Ths.of {c:Nat}:∀{xs:List D},(∀d∈xs,P c d)->Ths P (xs.length * (c+2)) xs
 | [],_=>trivial
 | x::xs,h=>⟨c,xs.length * (c+2),h x (K10 ..),Ths.of λd hd=>h d (K0s _ hd),by rw[K02,Nat.add_mul];omega⟩
theorem z67 (xs:List D) (lo hi:Option Int):(cutD xs lo hi).Sublist xs:=(K7x _ _).trans (List.drop_sublist _ _)
end
theorem Th.mono {r r':AH}{B B':Nat}(k:Kp r r') (hB:B<=B'):∀{m m' n n':Nat}{d:D},m<=m'->n<=n'->Th r B m n d->Th r' B' m' n' d
 | 0,_,_,_,_,_,_,h=>by simp only[Th]at h
 | m+1,0,_,_,_,hm,_,_=>by omega
 | m+1,m'+1,n,n',d,hm,hn,h=>by
  have ih:∀a d,Th r B m a d->Th r' B' m' a d:=λa d=>Th.mono k hB .(0) (K01 a);cases d with
  | non=>simp only[Th]at h ⊢;omega
  | bl b=>simp only[Th]at h ⊢;omega
  | int i=>simp only[Th]at h ⊢;omega
  | str x=>simp only[Th]at h ⊢;omega
  | fl xs=>simp only[Th]at h
  | tup xs=>simp only[Th]at h ⊢;obtain⟨a,h1,h2⟩:=h;exact⟨a,h1.imp ih,by omega⟩
  | ref i =>
   simp only[Th]at h ⊢;obtain⟨j,e,h⟩:=h;refine⟨j,e,?_⟩;rcases h with ⟨xs,a,h1,h2,h3⟩|⟨h1|⟨h1,h4⟩,h2⟩
   ·exact .inl ⟨xs,a,k _ _ h1,h2.imp ih,by omega⟩
   ·exact .inr ⟨.inl (k _ _ h1),by omega⟩
   ·exact .inr ⟨.inr ⟨k _ _ h1,by omega⟩,by omega⟩
def isOf (T:String):D->Bool
 | .non=>subT "NoneType" T
 | .bl _=>subT "bool" T
 | .int _=>subT "int" T
 | .str _=>subT "str" T
 | .tup _=>subT "tuple" T
 | _=>false
def numB:D->Bool
 | .int _=>true
 | _=>false
def tupB:D->Bool
 | .tup _=>true
 | _=>false
theorem z6d (d:D):(isOf "int" d&&!isOf "bool" d)=numB d:=by cases d<;>simp[isOf,numB,subT]
theorem z39 (d:D):isOf "tuple" d=tupB d:=by cases d<;>simp[isOf,tupB,subT]
theorem z6Q (v:Th r B m n d) (h1:subT "list" T=false:=by decide) (h2:subT "dict" T=false:=by decide){k:Int}{r':AH}(p:PS h k r') (q:Kp r r':=by exact Kp.refl _):fIsi T d h=.ok (.bl (isOf T d)) h:=by
 have go:∀t,tyD d h=.ok t h->fIsi T d h=.ok (.bl (subT t T)) h:=λt e=>by
  unfold fIsi;rw[M.bind_ok e];rfl
 cases m with
 | zero=>simp only[Th]at v
 | succ m =>
  cases d with
  | non=>exact go _ rfl
  | bl b=>exact go _ rfl
  | int i=>exact go _ rfl
  | str x=>exact go _ rfl
  | tup xs=>exact go _ rfl
  | fl xs=>simp only[Th]at v
  | ref i =>
   simp only[Th]at v;obtain⟨j,rfl,v⟩:=v;rcases v with ⟨xs,a,e,_,_⟩|⟨e|⟨e,_⟩,_⟩
   ·have:=go "list" (by unfold tyD;dsimp only;rw[p.get,q _ _ e]);rw[h1]at this;exact this
   ·have:=go "dict" (by unfold tyD;dsimp only;rw[p.get,q _ _ e]);rw[h2]at this;exact this
   ·have:=go "dict" (by unfold tyD;dsimp only;rw[p.get,q _ _ e]);rw[h2]at this;exact this
theorem z7M {f:D->Option PyData}{P:Nat->D->Prop}{m:Nat}(ih:∀a d,P a d->∃p,f d=some p/\p.showable=true/\p.shown.length<=a/\p.depth<=m) :
 ∀{n:Nat} {xs:List D},Ths P n xs->∃ps,allO f xs=some ps/\K3q ps=true/\((K1a ps).map (·.length)).sum+2 * (K1a ps).length<=n/\K2s ps<=m
 | n,[],_=>⟨[],rfl,by simp only[K3q],by simp[K1a],by simp[K2s]⟩
 | n,x::xs,⟨a,b,h1,h2,h3⟩=>by
  obtain⟨p,e1,e2,e3,e4⟩:=ih a x h1;obtain⟨ps,f1,f2,f3,f4⟩:=z7M ih h2;refine⟨p::ps,by simp only[allO];rw[e1,f1],by simp only[K3q,e2,f2,Bool.and_self],?_,by simp only[K2s];omega⟩;simp only[K1a,K0x,List.sum_cons,K02];omega
theorem zU4 {r:AH}{B:Nat}(hB:B<10 ^ 30) {h:AH}{k:Int}{r':AH}(p:PS h k r') (q:Kp r r'):∀{m n:Nat}{d:D},Th r B m n d->∃pd,pdN m h d=some pd/\pd.showable=true/\pd.shown.length<=n/\pd.depth<=m
 | 0,n,d,v=>by simp only[Th]at v
 | m+1,n,d,v=>by
  have ih:∀a d,Th r B m a d->∃pd,pdN m h d=some pd/\pd.showable=true/\pd.shown.length<=a/\pd.depth<=m:=λa d=>zU4 hB p q;cases d with
  | non=>simp only[Th]at v;exact⟨_,rfl,rfl,by simp only[K17];exact v,by simp[K1i]⟩
  | bl b=>simp only[Th]at v;exact⟨_,rfl,rfl,by simp only[K17];cases b<;>exact K0d .(2) v,by simp[K1i]⟩
  | int i =>
   simp only[Th]at v;have lt:i.natAbs<10 ^ 30:=K5s v.1 hB;refine⟨_,rfl,?_,?_,by simp[K1i]⟩
   ·simp only[K2e,decide_eq_true_eq];by_cases z:i.natAbs=0
    ·rw[z];decide
    ·exact K0l ((Nat.log2_lt z).mpr (show i.natAbs<2 ^ 100 from K0l lt .(1))) .(1)
   ·have e:=int_text_length_le10 (k:=30) .(1) lt;simp only[K17];show (K3e (toString i)).length<=n;rw[PySem.ofString_length];omega
  | str x=>simp only[Th]at v;exact⟨_,rfl,rfl,by simp only[K17];exact v.1,by simp[K1i]⟩
  | fl xs=>simp only[Th]at v
  | tup xs =>
   simp only[Th]at v;obtain⟨a,v1,v2⟩:=v;obtain⟨ps,e1,e2,e3,e4⟩:=z7M ih v1;have:=tupleText_len_le (K1a ps);exact⟨.tuple ps,by simp only[pdN];rw[e1];rfl,by simpa [K2e] using e2,by simp only[K17];omega,by simp only[K1i];omega⟩
  | ref i =>
   simp only[Th]at v;obtain⟨j,rfl,v⟩:=v;rcases v with ⟨xs,a,e,v1,v2⟩|⟨e|⟨e,v3⟩,v2⟩
   ·obtain⟨ps,e1,e2,e3,e4⟩:=z7M ih v1;have:=listText_len_le (K1a ps);exact⟨.list ps,by simp only[pdN];rw[p.get,q _ _ e];dsimp only;rw[e1];rfl,by simpa [K2e] using e2,by simp only[K17];omega,by simp only[K1i];omega⟩
   ·refine⟨.dict [],by simp only[pdN];rw[p.get,q _ _ e];rfl,by simp[K2e,PyData.showableKv],?_,by simp[K1i,K66]⟩;simp only[K17,K75];exact K0d .(2) v2
   ·cases m with
    | zero =>
     omega
    | succ m =>
     refine⟨.dict [(.str "a",.int 1)],by simp only[pdN];rw[p.get,q _ _ e];rfl,by decide +kernel,?_,by simp[K1i,K66]⟩;exact K0d .(2) v2
theorem z6I (hc:X.calm=true):z2C X (.builtin "max") (λxs H Q=>∃a b:Int,xs=[.int a,.int b]/\Q (.int (if b > a then b else a)) H):=by
 intro pins s σ H xs us Q I rv h;obtain⟨a,b,rfl,q⟩:=h;obtain⟨u,w',rfl,ru,rw'⟩:=vals2 rv;obtain⟨t,rfl⟩:=ru;obtain⟨t',rfl⟩:=rw';refine max_two_ints (I.ok.hd hc) λh' tk hk=>?_;refine⟨.int (if b > a then b else a),H,I.kept (t':=tk) λc o e=>hk c o e,?_,q⟩;split
 ·exact⟨t',rfl⟩
 ·exact⟨t,rfl⟩
def zi9:List D->M D
 | [.int a,.int b]=>pure (.int (max a b))
 | _=>bad
theorem zI4:AR X.K EX (λxs H Q=>∃a b:Int,xs=[.int a,.int b]/\Q (.int (if b > a then b else a)) H) zi9:=by
 intro ρ h H ds vs Q r rd fin;unfold zi9 at fin;split at fin
 ·rename_i a b;obtain⟨v,u,rfl,rv,ru⟩:=rds2 rd;simp only[RD]at rv ru;subst rv;subst ru;refine⟨a,b,rfl,FE.here fin r ?_⟩;simp only[RD];congr 1;omega
 ·exact fin.elim
theorem zE6 {a b:Expr}{p pos:_}(hc:X.calm=true) (hg:Gl X "max") (hm:X.mg "max" = none) (ha:SA X EX [a,b] mr) (he:K0g [a,b] X.env=(false,eval a X.env)::K0g [b] X.env:=by rfl) (hb:K0g [b] X.env=[(false,eval b X.env)]:=by rfl):SE X EX (.Call (.Name "max" p) [a,b] [] pos) (Z6 zi9 mr) :=
 z1D (z1q (z6I hc) hg hm .(2) ha.h .(1) .(1) he (by rw[hb];rfl)) zI4
theorem ss_h (e:me γ h=.ok (.ref i) h1) (g:h1[i]?=.(l (stD l))) (hl:l.length<=2000) (hd:(setN l).length<64):Z6 J4 (z7 (Z6 z0h (z7 me aNil)) aNil) γ h=.ok (.ref (h1.length+1)) (h1++[.set (kN (dedN l)),.lst (stD (setN l))]):=by
 have dl:(dedN l).length=(setN l).length:=by unfold setN;rw[Y5]
 refine j9 (j9 e (zI1 (l:=l) (by unfold seqD getL;dsimp only;rw[g]) hl)) ?_;rw[ze3 x6 .(0),K06];simp[setN]
theorem z49 {f g:D->Option PyData}(i:∀d p,f d=some p->g d=some p):∀{ds:List D}{ps:List PyData},allO f ds=some ps->allO g ds=some ps
 | [],ps,e=>e
 | d::ds,ps,e=>by
  simp only[allO]at e ⊢;cases e1:f d with
  | none=>rw[e1]at e;cases e
  | some p=>cases e2:allO f ds with
   | none=>rw[e1,e2]at e;cases e
   | some qs =>
    rw[e1,e2]at e;rw[i d p e1,z49 i e2];exact e
theorem zk4 {f g:D->Option PyData}(i:∀d p,f d=some p->g d=some p):∀{ds:List (Key×D)}{ps:List (PyData×PyData)},kvO f ds=some ps->kvO g ds=some ps
 | [],ps,e=>e
 | d::ds,ps,e=>by
  simp only[kvO]at e ⊢;cases e1:f d.2 with
  | none=>rw[e1]at e;cases e
  | some p=>cases e2:kvO f ds with
   | none=>rw[e1,e2]at e;cases e
   | some qs =>
    rw[e1,e2]at e;rw[i _ p e1,zk4 i e2];exact e
theorem zc9 (j:AH):∀{m:Nat}{h:AH}{d:D}{p:PyData},pdN m h d=some p->pdN m (h++j) d=some p
 | 0,h,d,p,e=>by simp only[pdN]at e;cases e
 | m+1,h,d,p,e=>by
  have ih:∀d p,pdN m h d=some p->pdN m (h++j) d=some p:=λd p=>zc9 j;cases d with
  | non=>exact e
  | bl b=>exact e
  | int i=>exact e
  | str x=>exact e
  | tup ds =>
   simp only[pdN]at e ⊢;obtain⟨ps,e1,e2⟩:=K0y.mp e;rw[z49 ih e1,<- e2];rfl
  | fl ds =>
   simp only[pdN]at e ⊢;obtain⟨ps,e1,e2⟩:=K0y.mp e;rw[z49 ih e1,<- e2];rfl
  | ref n =>
   simp only[pdN]at e ⊢;cases g:h[n]? with
   | none=>rw[g]at e;cases e
   | some o =>
    rw[J7 g];rw[g]at e;cases o with
    | lst ds =>
     dsimp only at e ⊢;obtain⟨ps,e1,e2⟩:=K0y.mp e;rw[z49 ih e1,<- e2];rfl
    | dK ds =>
     dsimp only at e ⊢;obtain⟨ps,e1,e2⟩:=K0y.mp e;rw[zk4 ih e1,<- e2];rfl
    | _=>cases e
theorem zQ8 {k:Int}(v:Th r B m n d) (hB:B<10 ^ 30) (hm:m<=30) (hn:n<=1000000) (p:PS h k r):∃x,∀j,z7z [d] (h++j)=.ok (.str x) (h++j):=by
 obtain⟨pd,e,e1,e2,e3⟩:=zU4 hB p (Kp.refl _) (Th.mono (Kp.refl _) (K01 _) hm (K01 _) v);refine⟨pd.shown,λj=>?_⟩;unfold z7z;dsimp only;rw[zc9 j e];dsimp only;rw[if_pos ⟨e1,K0d e2 (K0d hn .(1)),by omega⟩]
theorem zM9 (hB:40<=B) (h:∀x∈l,x<40):Th r B (m+2) (l.length * 42+4) (.tup (stD l)):=by
 simp only[Th];refine⟨l.length * 42,?_,by omega⟩;have:=Ths.of (P:=Th r B (m+1)) (c:=40) (xs:=stD l) λd hd=>by
  obtain⟨x,hx,rfl⟩:=K07.mp hd;have:=h x hx;simp only[Th];omega
 rw[j8]at this;exact this
theorem zB2 {k:G->M Bool}{mr:G->M Out}{Q:Out->AH->Prop}(b:Bool) (e:k γ h=.ok b h1) (z:W (Z0 (if b=true then ms else mr) mt γ) h1 Q):W (Z0 (sIf k ms mr) mt γ) h Q :=
 Z1d (W_of e z)
section
variable {A:Around}{s:Shared}
open PySem.W in
theorem zr4 {r d:Addr}{P:Nat->Value->Prop}{R:List Value->Shared->Prop}(K:KdlSrc prog w T r d n P OK) (hh:A.handled=none) (ok:OK s.heap) (hn:n<=sizeLine)
 (z:∀(g:Heap) (tk:Nat) (acc:Array Value),(∀b o,s.heap.get? b=some o->g.get? b=some o)->.(5)<=g.objs.size->K80 P acc n->R acc.toList { s with heap:=g,toks:=tk }) :
 wpAny (model prog w) A (Z27 (.ref r)) R E s:=by
 obtain⟨t1,t2⟩:=K.there _ ok;obtain⟨S,hS⟩:∃S,S=s.heap.objs.size:=⟨_,rfl⟩;unfold Z27;refine K0 (K6e (K2g entry_proto_collect' ?_));rw[K23 K71 _];show wpAny _ A.in1 (Z37 [] >>= λl=>again (.builtin "list.__iadd__" ⟨[l,.ref r],[]⟩)) _ _ s;refine K0 (K14 (K8 ⟨K5c K2w _,K2g entry_list_iadd' ?_⟩));rw[K23 K2w _];obtain⟨o0,h0⟩:∃o0:Obj,o0={ cls:=.type "list",data:=.seq ([]:List Value).toArray }:=⟨_,rfl⟩;rw[<- h0];have at0:(s.heap.push o0).get? S=some { cls:=.type "list",data:=.seq #[] }:=by rw[hS,h0];exact K0a _ rfl
 rw[<- hS];show wpAny _ A.in1 (K3g (.ref S) (.ref r) (.ref S)) _ _ _;have old:∀{b:Addr} {o:Obj},s.heap.get? b=some o->b≠S:=λe=>by rw[hS];exact K0o (K0e e)
 have key:=kdl_extend (A:=A) (s:={ s with heap:=s.heap.push o0 })
  (R:=λ(q:Result) (s':Shared)=>∃(g:Heap) (tk:Nat) (acc:Array Value) (c:Nat),q=.ok (.ret (.ref S))/\s'={ s with heap:=g,toks:=tk }/\(∀b o,s.heap.get? b=some o->g.get? b=some o)/\g.get? S=some { cls:=.type "list",dict:=none,data:=.seq acc c,slots:=#[] }/\K80 P acc n)
  K hh (K.keep _ _ ok λb _ o e=>K7 _ e) S (by rw[hS];exact K26 t1) (by rw[hS];exact K26 t2) (.ref S) 0 at0
  (λg tk acc c kp at1 it=>⟨g,tk,acc,c,rfl,rfl,λb o e=>kp b o (old e) (K7 _ e),at1,it⟩) hn
 have fin:∀(q:Result) (s2:Shared) (h:∃(g:Heap) (tk:Nat) (acc:Array Value) (c:Nat),q=.ok (.ret (.ref S))/\s2={ s with heap:=g,toks:=tk }/\(∀b o,s.heap.get? b=some o->g.get? b=some o)/\g.get? S=some { cls:=.type "list",dict:=none,data:=.seq acc c,slots:=#[] }/\K80 P acc n),q=.ok (.ret (.ref S)):=λq s2 ⟨_,_,_,_,e,_⟩=>e;refine K4a key (λf s2 x=>?_) λe s2 x=>?_
 ·cases f with
  | done f =>
   obtain⟨g,tk,acc,c,e,rfl,kp,at1,it⟩:=x;cases e;show wpAny _ A (load S >>= _) _ _ _;refine K0 (K8q at1 (K8 (z g tk acc kp ?_ it)));rw[<- hS];exact K2m (K0e at1)
  | again c₁ =>
   refine⟨x.1,K4g x.2 λq s3 y=>?_⟩;obtain⟨g,tk,acc,c,rfl,rfl,kp,at1,it⟩:=y;show wpAny _ A (load S >>= _) _ _ _;refine K0 (K8q at1 (K8 (z g tk acc kp ?_ it)));rw[<- hS];exact K2m (K0e at1)
 ·obtain⟨_,_,_,_,e',_⟩:=x;cases e'
end
theorem z6M (hc:X.calm=true):z2C X (.builtin "sorted") (λxs H Q=>∃a vs ns,xs=[.ref a]/\(H a=some (.dK vs)\/∃ob,H a=some (.frz ob (.dK vs)))/\vs.map (λkv=>kV kv.1)=ns.map V.int/\ns.length<64/\∀q,H q=none->Q (.ref q) (upd H q (.lst ((sortI ns).map V.int)))):=by
 intro pins s σ H xs us Q I r h;obtain⟨a,vs,ns,rfl,hq,hk,h64,q⟩:=h;obtain⟨u,rfl,ru⟩:=vals1 r;cases ru;have vl:vs.length=ns.length:=by have:=congrArg K9h hk;simpa using this
 have go:∀{us:List (Key×Value)} {ep:Nat},KV vs us->(a==K3r)=false->s.heap.DictAt (J9 X.prog X.w) a us ep->wpAny .(6) X.A (call (.builtin "sorted") [.ref a]) (EP X pins σ Q) X.xe s:=λ{us ep} rel hd dat=>by
  have le:=rel.length;refine K7m kind_sorted plain_sorted entry_sorted (args_sorted1 _) ?_;unfold Builtin.«sorted»;refine K0 (m:=checkCount "sorted" 1 1 _) (K8 ?_);refine K0 (zr4 (PySem.W.kdl_dict hd) (by simp[I.ok.hd hc]) dat (by rw[<- le,vl];exact K2m (K0l h64 .(1))) λh' tk acc kp sz it=>?_);have al:acc.toList.length=ns.length:=by rw[K16,<- vl,le];exact it.1
  have rv:Vals (ns.map V.int) acc.toList:=by
   rw[<- hk];exact z3R rel (by rw[K16];exact it.1) λj v hv=>it.2 j v (by simpa using hv)
  have ia:=intsAre_of rv;refine K0 (wpAny_newList ?_ (by rw[al];exact K2m (K0l h64 .(1))));have gL:(h'.push (seqObj "list" acc.toList.toArray 0)).get? h'.objs.size=some (seqObj "list" acc.toList.toArray 0):=K0a _ rfl;refine K0 (K22 (K1y slot_list_sort ⟨_,gL,rfl⟩ entry_list_sort (list_sort_tree gL ia (by rw[al];exact h64) λout ns' a1 a2 a3=>⟨_,rfl,?_⟩) (args_list_sort _)));refine K8 ⟨_,rfl,?_⟩;obtain⟨e,ge⟩:=sortedHeap_at (out:=out) gL;have es':ns'=sortI ns:=z60 a2 a3;subst es';have un:∀b ob,s.heap.get? b=some ob->(sortedHeap (h'.push (seqObj "list" acc.toList.toArray 0)) h'.objs.size acc.toList out).get? b=some ob:=λb ob eb=>by
   have lt:=K0e (kp b ob eb);rw[sortedHeap_old (K0o lt) (by rw[K24];exact K36 lt)];exact K7 _ (kp b ob eb)
  have ho:=I.hok.laid (a:=h'.objs.size) (o:=.lst ((sortI ns).map V.int)) un sz ⟨by rw[K03,(sortI_perm ns).length_eq];exact K2m (K0l h64 .(1)),out.toList,e,z5Y a1,ge⟩;exact⟨.ref h'.objs.size,_,I.call' (s':={ s with heap:=_,toks:=tk }) (ch:=[]) rfl (Un.laid un sz (I.hok.fresh sz)) ho I.bare (λb z=>absurd z .(f)),rfl,q _ (I.hok.fresh sz)⟩
 rcases hq with hq|⟨ob,hq⟩
 ·obtain⟨z,hd,us,rel,dd⟩:=zi3 I.hok hq;obtain⟨ob,es,ep,ho,r1,r2,r3⟩:=id dd;exact go rel hd ⟨ob,es,ho,r1,r2,r3⟩
 ·obtain⟨go',z,hd,us,rel,dd⟩:=(show ObjOk X.prog X.w H s.heap a (.frz ob (.dK vs)) from I.hok a _ hq);obtain⟨ob',es,ep,ho,r1,r2,r3⟩:=id dd;exact go rel hd ⟨ob',es,ho,r1,r2,r3⟩
def z0L:List D->M D
 | [.ref n]=>do
  let kvs <- z5t n
  match z2S (z2q kvs) with
  | some ns=>if ns.length<64 then newL ((sortI ns).map .int) else bad
  | none=>bad
 | _=>bad
theorem z9f:AR X.K EX (λxs H Q=>∃a vs ns,xs=[.ref a]/\(H a=some (.dK vs)\/∃ob,H a=some (.frz ob (.dK vs)))/\vs.map (λkv=>kV kv.1)=ns.map V.int/\ns.length<64/\∀q,H q=none->Q (.ref q) (upd H q (.lst ((sortI ns).map V.int)))) z0L:=by
 intro ρ h H ds vs Q r rd fin;unfold z0L at fin;split at fin
 ·rename_i n;obtain⟨v,rfl,rv⟩:=rds1 rd;simp only[RD]at rv;obtain⟨q,rfl,hq⟩:=rv;have f2:=Fin.bind fin;obtain⟨kvs,vs,w1,rk,f3⟩:=zj5 r hq f2;cases e:z2S (z2q kvs) with
  | none=>rw[e]at f3;exact f3.elim
  | some ns =>
   rw[e]at f3;dsimp only at f3;split at f3
   ·rename_i l64;have rr:=z4m e (z6G rk);refine⟨q,vs,ns,rfl,w1,rr,l64,λq' hq'=>?_⟩;unfold newL at f3;split at f3
    ·exact FE.lst f3 r (z4c _) hq'
    ·exact f3.elim
   ·exact f3.elim
 ·exact fin.elim
theorem z5m {a:Expr}{p:Pos}(hc:X.calm=true) (hg:Gl X "sorted") (hm:X.mg "sorted" = none) (ha:SA X EX [a] mr) (he:K0g [a] X.env=[(false,eval a X.env)]:=by rfl):SE X EX (.Call (.Name "sorted" p) [a] [] pos) (Z6 z0L mr) :=
 z1D (z1q (z6M hc) hg hm .(2) ha.h .(1) .(1) he rfl) z9f
theorem z9L (t:Addr) (items:Array Value):
 Meets (Builtin.«enumerate.__new__» ⟨[.type "enumerate",.ref t],[]⟩) (λ_ R s=>s.heap.IsList t items /\
  R (.ok (.ret (.ref (s.heap.push { cls:=.type "list_iterator",data:=.fields #[.ref t,.int 0 0] }).objs.size)))
   { s with heap:=(s.heap.push { cls:=.type "list_iterator",data:=.fields #[.ref t,.int 0 0] }).push { cls:=.type "enumerate",data:=.fields #[.none,.bool false,.ref .(5),rawInt 0,.none,.none] } }) :=
 .of_wp λprog w A R s h=>by
  obtain⟨hp,g,d,tk,os⟩:=s;obtain⟨q1,h⟩:=h;have hsub:=sub_enumerate;have L1:Heap.IsList (Shared.heap ⟨hp,g,d,tk,os⟩) t items:=q1
  wp_walk
  refine wpAny_stack_any λst=>K8 ?_;split
  ·rename_i c _ _ _ _ _;cases (c==K46 "enumerate")
   ·wp_walk using K37 L1
    exact⟨_,rfl,h⟩
   ·wp_walk using K37 L1
    exact⟨_,rfl,h⟩
  ·wp_walk using K37 L1
   exact⟨_,rfl,h⟩
def ItL (K:K6) (t:Addr):It :=
 ⟨λi H=>∃xs x,SqL K H t xs/\xs[i]?=some x,
  λi H v H'=>∃T x,H T=none/\v=.ref T/\(∀xs,SqL K H t xs->xs[i]?=some x)/\H'=upd H T (.tup [.int i,x]),
  λi H=>∃xs,SqL K H t xs/\xs.length=i⟩
theorem z9b {P:K1h}{w:World}{K:K6}{elts:List Expr}{kk:Nat}{pos:Pos}{e it t:Addr}(d1:e≠it) (d2:t≠it) (d3:e≠t):
 Turn P w K (.Tuple elts kk pos) (ItL K t) [e,it] e (λi h=>(∃old,IsEnum h e it i old)/\h.IsListIter it t i) where
 mem:=by simp
 obj:=λi h st b hb=>by
  obtain⟨⟨old,ee⟩,o,ei,_,di⟩:=st;simp at hb;rcases hb with rfl|rfl
  ·exact⟨_,ee,λv q=>by cases q⟩
  ·exact⟨_,ei,λv q=>by rw[di]at q;cases q⟩
 keep:=λi h h' st k=>by
  obtain⟨⟨old,ee⟩,g⟩:=st;exact⟨⟨old,k e .(f) _ ee⟩,g.at λo q=>k it .(f) o q⟩
 item:=by
  intro X hP hw hK hc i pins s σ H E I hf st hg;subst hP hw hK;obtain⟨xs,x,q1,hx⟩:=hg;obtain⟨its,rv,pl,hz⟩:=I.list q1;obtain⟨u,hu,ru⟩:=rv.get hx;obtain⟨⟨old,ee⟩,g⟩:=st;have hi:i<its.toArray.size:=by
   have:=(K3.mp hu).1;simpa using this
  have pT:s.heap.IsList t its.toArray:=pl.isList;refine K8n (Draws.list (by simp[I.ok.hd hc]) it t d2 its.toArray) ee ⟨g,pT⟩ hi d1 (by simp[d1,d3]) λy h' tk hy eo st' gT sz kp=>?_;have ey:y=u:=by
   have:its.toArray[i]?=some u:=by simpa using hu
   rw[hy]at this;exact K1b this
  subst ey;refine⟨_,rfl,K7i eo λh2 eo2 sb=>?_⟩;have elt:e<s.heap.objs.size:=K0e ee;have ilt:it<s.heap.objs.size:=by obtain⟨o,q,_⟩:=g;exact K0e q
  have hT:IsTup0 h2 .(5) [K6k i tk,y].toArray:=⟨_,(sb.2 _ (K26 elt)).trans gT,⟨rfl,rfl⟩,_,rfl⟩;have J:=zX8 (t:=tk+1) (ch:=[e,it]) (T:=.(5)) (vs:=[.int i,x]) (its:=[.int i tk,y]) (h2:=h2) I hf
   (λb o hb q=>by simp at hb;exact(sb.2 b hb.1).trans (kp b o hb.1 hb.2 q)) (K01 _) hT (.cons ⟨tk,rfl⟩ (.cons ru .nil)) (by show 2<=sizeLine;decide)
  refine⟨.ref .(5),_,J,rfl,⟨_,x,I.hok.fresh (K01 _),rfl,λxs' h'=>by rw[I.list_inj h' q1];exact hx,rfl⟩,?_,λb hb=>?_⟩
  ·exact⟨⟨_,by simpa using eo2⟩,st'.1.at λo q=>(sb.2 _ (K5j d1)).trans q⟩
  ·have:b<s.heap.objs.size:=by
    simp at hb;rcases hb with rfl|rfl
    ·exact elt
    ·exact ilt
   rw[Y2 (K0o this)];exact(hf b hb).1
 done:=by
  intro X hP hw hK hc i pins s σ H E I hf st hg;subst hP hw hK;obtain⟨xs,q1,hl⟩:=hg;obtain⟨its,rv,pl,hz⟩:=I.list q1;obtain⟨⟨old,ee⟩,g⟩:=st;have l1:=rv.length;have pT:s.heap.IsList t its.toArray:=pl.isList;have en:i=its.toArray.size:=by simp;omega
  refine K90 (Draws.list (by simp[I.ok.hd hc]) it t d2 its.toArray) ee ⟨by rw[<- en];exact g,pT⟩ λh' eb=>⟨rfl,?_⟩;have hf':∀b∈[it],FpOk X pins H b:=λb hb=>hf b (by simp at hb;simp[hb]);refine I.step (g':=s.gens) (t':=s.toks) (d':=s.drawn) (ch:=[it]) (λb hb=>⟨(hf' b hb).2.2.2.1,(hf' b hb).2.1,(hf' b hb).2.2.2.2.1,(hf' b hb).2.2.2.2.2⟩) (λb o _ _ hc e _=>?_) (λb o _ _ hc e _=>⟨o.slots,?_⟩)
   (λ_ _ _ _ n=>n) (λb o hc e=>⟨o,?_⟩) (λ_ _ e=>e) (λ_ _ _ e=>e) (λb ps e=>⟨#[],by rw[e];simp⟩) (λm hm=>?_) (λb u e=>?_) I.bare
  ·simp at hc;exact eb b o hc e
  ·simp at hc;exact eb b o hc e
  ·simp at hc;exact eb b o hc e
  ·obtain⟨o,es,ep,q,r⟩:=hm;exact⟨o,es,ep,eb _ o (λy=>(hf' it .(f)).2.1 y.symm) q,r⟩
  ·refine(I.hok b u e).stay (λc v hc q=>?_) (λ_ q=>q) λ_ _ q=>q;refine eb c v (λy=>?_) q;subst y;rcases hc with y|y
   ·rw[<- y,(hf' c .(f)).1]at e;cases e
   ·rw[(hf' c .(f)).1]at y;cases y
 self:=λ_ _ _ _ _ st h=>by
  obtain⟨⟨old,ee⟩,g⟩:=st;exact K6g ee h
section
variable {a:Expr}{p pt:Pos}
def zz9 (K:K6) (ta:TA):TI:=λσ H R=>ta σ H λvs H2=>∃t xs,vs=[.ref t]/\SqL K H2 t xs/\R (ItL K t) H2
theorem zn6 {ta:TA}(hg:Gl X "enumerate") (hm:X.mg "enumerate" = none) (ha:PA X [a] ta) (hs:K0g [a] X.env=[(false,eval a X.env)]:=by rfl):PI X (.Tuple elts kk pt) (.Call (.Name "enumerate" p) [a] [] pos) (zz9 X.K ta):=by
 intro pins s σ H R I h;refine Call_ (z55 I hg hm boot_enumerate (K3f (thn (ha pos pins s σ H _ I h) λus s1 ⟨vs,H1,I1,r1,q1⟩=>?_) (by rw[hs];rfl) rfl));obtain⟨t,xs,e,q2,q⟩:=q1;subst e;obtain⟨u,rfl,ru⟩:=vals1 r1;cases ru;obtain⟨its,rv,pl,hz⟩:=I1.list q2;have pT:s1.heap.IsList t its.toArray:=pl.isList;have lt:t<s1.heap.objs.size:=by obtain⟨o,n,e,_⟩:=pl;exact K0e e
 refine Z2g K8b .(1) (K6t _) (K72 _) (λobj=>K51 obj _) K73 (z9L t its.toArray) ⟨pT,?_⟩;have y1:(s1.heap.push { cls:=.type "list_iterator",data:=.fields #[.ref t,.int 0 0] }).objs.size=.(j)+1:=K24 ..;have x2:((s1.heap.push { cls:=.type "list_iterator",data:=.fields #[.ref t,.int 0 0] }).push { cls:=.type "enumerate",data:=.fields #[.none,.bool false,.ref .(j),rawInt 0,.none,.none] }).get? (.(j)+1)=some { cls:=.type "enumerate",data:=.fields #[.none,.bool false,.ref .(j),rawInt 0,.none,.none] }:=by rw[<- y1];exact K0a _ rfl
 have x1:((s1.heap.push { cls:=.type "list_iterator",data:=.fields #[.ref t,.int 0 0] }).push { cls:=.type "enumerate",data:=.fields #[.none,.bool false,.ref .(j),rawInt 0,.none,.none] }).get? .(j)=some { cls:=.type "list_iterator",data:=.fields #[.ref t,.int 0 0] }:=K7 _ (K0a _ rfl);show _/\_;rw[y1];refine⟨⟨_,x2,rfl⟩,K6g (e:=.(j)+1) (it:=.(j)) (i:=0) (old:=.none) x2 ?_⟩;refine⟨.(j)+1,_,_,_,H1,rfl,I1.kept (t':=s1.toks) (λc o q=>K7 _ (K7 _ q)),z9b (it:=.(j)) (t:=t) (K26 (K6n _)) (K0o lt) (K26 (K36 lt)),⟨⟨_,x2⟩,⟨_,x1,rfl,rfl⟩⟩,λb hb=>?_,q⟩;have hb':.(j)<=b:=by
  simp at hb;rcases hb with rfl|rfl
  ·exact K4x _
  ·exact K01 _
 exact I1.fpOk hb' (I1.hok.fresh hb')
def z96 (ma:G->M D):G->M Src:=λγ=>do
 let l <- z7 ma aNil γ
 match l with
 | [.ref n]=>do
  let xs <- getL n
  pure (.obj n (.lst xs) (z1l xs))
 | _=>bad
theorem zr0 (hc:X.calm=true) (hg:Gl X "enumerate") (hm:X.mg "enumerate" = none) (ha:SE X EX a ma) (hs:K0g [a] X.env=[(false,eval a X.env)]:=by rfl):SI X EX (.Tuple elts kk pt) (.Call (.Name "enumerate" p) [a] [] pos) (z96 ma) :=
 ⟨PI.imp (zn6 hg hm (z6 ha z9 hs).h hs) λσ H R ⟨ρ,γ,h,rel,fin⟩=>⟨ρ,γ,h,rel,(Fin.bind fin).mono λl ρ1 h1 H1 p1 e1 r1 f1 vs rv=>by
  split at f1
  ·rename_i n;simp only[RDs,RD]at rv;obtain⟨_,_,rfl,⟨t,rfl,q1⟩,rfl⟩:=rv;have f3:=Fin.bind f1;cases e3:getL n h1 with
   | bad=>rw[e3]at f3;exact f3.elim
   | err z hz=>exact(z1h e3).elim
   | ok xs h3 =>
    obtain⟨rfl,g1⟩:=z1e e3;rw[e3]at f3;obtain⟨a1,n1,us,o1,d1⟩:=r1.at g1;rw[q1]at n1;cases n1;refine⟨t,us,rfl,SqL.of o1,f3 ρ1 H1 .(b) .(c) r1 ρ1 H1 .(b) .(c) r1 _ λi ρ2 h4 H2 p2 e2 r2 gd=>?_⟩;have gd:h4[n]?=.(l xs):=gd;obtain⟨a2,n2,us2,o2,d2⟩:=r2.at gd;rw[p2 n _ q1]at n2;cases n2;refine⟨λd hd=>?_,λhi=>?_⟩
    ·have hd':(z1l xs)[i]?=some d:=hd;obtain⟨x,g1,rfl⟩:=z4N hd';obtain⟨v1,a1,b1⟩:=d2.get g1;refine⟨⟨us2,v1,SqL.of o2,a1⟩,λv H3 ⟨T,x',n1,n2,n3,n5⟩=>?_⟩;have m1:=n3 us2 (SqL.of o2);rw[a1]at m1;cases m1;subst n2;subst n5;have ext:Ext X.K H2 (L2.upd H2 T (.tup [.int i,v1])):=Ext.upd (.inl n1);refine⟨?_,r2.other n1,ext⟩;simp only[RD];exact⟨T,_,rfl,SqT.of J8,RDs.cons (by simp[RD]) (RDs.cons (b1.mono .(b) ext) RDs.nil)⟩
    ·have hi':(z1l xs).length=i:=hi;unfold z1l at hi';rw[K03,K2b]at hi';have l1:=d2.length;exact⟨us2,SqL.of o2,by omega⟩
  ·exact(show False from f1).elim⟩⟩
end
mutual
def z2f:D->Bool
 | .int _=>true
 | .str _=>true
 | .bl _=>true
 | .non=>true
 | .tup xs=>z4D xs
 | _=>false
def z4D:List D->Bool
 | []=>true
 | d::r=>z2f d&&z4D r
end
section
variable {σ:L2.St}{H:Hp}{s:Shared}
mutual
theorem RD.one (I:Inv X pins σ H s):∀{z z':D}{v:V},z2f z=true->z2f z'=true->RD X.K ρ H z v->RD X.K ρ H z' v->z=z'
 | .non,z',v,_,p,h,h'=>by
  simp only[RD]at h;subst h;cases z'<;>simp_all [RD,z2f]
 | .bl b,z',v,_,p,h,h'=>by
  simp only[RD]at h;subst h;cases z'<;>simp_all [RD,z2f]
 | .int i,z',v,_,p,h,h'=>by
  simp only[RD]at h;subst h;cases z'<;>simp_all [RD,z2f]
 | .str x,z',v,_,p,h,h'=>by
  simp only[RD]at h;subst h;cases z'<;>simp_all [RD,z2f]
 | .tup ds,z',v,q,p,h,h'=>by
  simp only[RD]at h;obtain⟨a,xs,rfl,h2,h3⟩:=h;cases z' with
  | tup ds' =>
   simp only[RD]at h';obtain⟨a',xs',e,h5,h6⟩:=h';cases e;have e2:=I.tuple_inj h5 h2;subst e2;simp only[z2f]at q p;rw[RDs.one I q p h3 h6]
  | non=>simp[RD]at h'
  | bl b=>simp[RD]at h'
  | int b=>simp[RD]at h'
  | str b=>simp[RD]at h'
  | fl b=>simp[z2f]at p
  | ref b=>simp[z2f]at p
 | .fl ds,z',v,q,p,h,h'=>by simp[z2f]at q
 | .ref ds,z',v,q,p,h,h'=>by simp[z2f]at q
theorem RDs.one (I:Inv X pins σ H s):∀{ds ds':List D}{xs:List V},z4D ds=true->z4D ds'=true->RDs X.K ρ H ds xs->RDs X.K ρ H ds' xs->ds=ds'
 | [],ds',xs,_,_,h,h'=>by
  simp only[RDs]at h;subst h;cases ds' with
  | nil=>rfl
  | cons d r=>simp[RDs]at h'
 | d::r,ds',xs,q,p,h,h'=>by
  simp only[RDs]at h;obtain⟨x,xr,rfl,h2,h3⟩:=h;cases ds' with
  | nil=>simp[RDs]at h'
  | cons d' r' =>
   simp only[RDs]at h';obtain⟨x',xr',e,h5,h6⟩:=h';cases e;simp only[z4D,K0c]at q p;rw[RD.one I q.1 p.1 h2 h5,RDs.one I q.2 p.2 h3 h6]
end
end
abbrev Bl:=List (Nat×List Nat)
def blk (bl:Bl) (k:Nat):List Nat:=((bl.find? λp=>decide (p.1=k)).map (·.2)).getD []
def keyOf (bl:Bl) (x:Nat):Nat:=((bl.find? λp=>decide (x∈p.2)).map (·.1)).getD 0
structure PB (n:Nat) (bl:Bl):Prop where
 hd:∀p∈bl,p.2.head?=some p.1
 rise:∀p∈bl,p.2.Pairwise (·<·)
 cov:∀x,x<n↔∃p∈bl,x∈p.2
 dis:∀p∈bl,∀q∈bl,∀x,x∈p.2->x∈q.2->p=q
 nd:(bl.map (·.1)).Nodup
theorem z7v {k:Nat}(h:l.head?=some k):k∈l:=by
 cases l with
 | nil=>cases h
 | cons a l=>simp at h;simp[h]
theorem z7y {k:Nat}(h:l.head?=some k) (r:l.Pairwise (·<·)):∀x∈l,k<=x:=λx hx=>by
 cases l with
 | nil=>cases h
 | cons a l =>
  simp at h;subst h;rcases K12.mp hx with q|q
  ·omega
  ·exact K2m (List.rel_of_pairwise_cons r q)
theorem zd2 {k:Nat}(hk:k∈l) (r:l.Pairwise (·<·)) (le:∀x∈l,k<=x):l.head?=some k:=by
 cases l with
 | nil=>cases hk
 | cons a l =>
  have a1:=le a .(f);have a2:=z7y (l:=a::l) rfl r k hk;simp;omega
section
variable {bl:Bl}
theorem PB.bmem (b:PB n bl) (h:p∈bl):p.1∈p.2:=z7v (b.hd p h)
theorem PB.uniq (b:PB n bl){q:Nat×List Nat}(hp:p∈bl) (hq:q∈bl) (e:p.1=q.1):p=q:=b.dis p hp q hq p.1 (b.bmem hp) (by rw[e];exact b.bmem hq)
theorem PB.blk (b:PB n bl) {p:Nat×List Nat}(h:p∈bl):FT.blk bl p.1=p.2:=by
 unfold FT.blk;cases e:bl.find? λq=>decide (q.1=p.1) with
 | none =>
  rw[K4j]at e;exact absurd .(f) (e p h)
 | some q =>
  have m:=K7n e;have q1:=Z34 e;rw[b.uniq m h (by simpa using q1)];rfl
theorem PB.of_key (b:PB n bl){k:Nat}(h:k∈bl.map (·.1)):(k,FT.blk bl k)∈bl:=by
 obtain⟨p,hp,rfl⟩:=K07.mp h;rw[b.blk hp];exact hp
theorem PB.key (b:PB n bl) (h:p∈bl) (hx:x∈p.2):keyOf bl x=p.1:=by
 unfold keyOf;cases e:bl.find? λq=>decide (x∈q.2) with
 | none =>
  rw[K4j]at e;exact absurd (by simpa using hx) (e p h)
 | some q =>
  have m:=K7n e;have q1:=Z34 e;rw[b.dis q m p h x (by simpa using q1) hx];rfl
theorem PB.at_ (b:PB n bl) (hx:x<n):(keyOf bl x,FT.blk bl (keyOf bl x))∈bl/\x∈FT.blk bl (keyOf bl x):=by
 obtain⟨p,hp,hx⟩:=(b.cov x).mp hx;rw[b.key hp hx,b.blk hp];exact⟨hp,hx⟩
theorem PB.lt (b:PB n bl) (h:p∈bl) (hx:x∈p.2):x<n:=(b.cov x).mpr ⟨p,h,hx⟩
theorem PB.klt (b:PB n bl){k:Nat}(h:k∈bl.map (·.1)):k<n:=by
 obtain⟨p,hp,rfl⟩:=K07.mp h;exact b.lt hp (b.bmem hp)
theorem PB.len (b:PB n bl):bl.length<=n:=by
 have:=b.nd.length_le_of_subset (l₂:=K9 n) λk hk=>K0r.mpr (b.klt hk);simpa using this
theorem PB.in_blk (b:PB n bl){k:Nat}(hk:k∈bl.map (·.1)):x∈FT.blk bl k↔x<n/\keyOf bl x=k:=by
 have m:=b.of_key hk;constructor
 ·intro hx;exact⟨b.lt m hx,b.key m hx⟩
 ·rintro⟨hx,rfl⟩;exact(b.at_ hx).2
theorem PB.keyin (b:PB n bl) (hx:x<n):keyOf bl x∈bl.map (·.1):=K07.mpr ⟨_,(b.at_ hx).1,rfl⟩
theorem PB.keyle (b:PB n bl) (hx:x<n):keyOf bl x<=x:=by
 obtain⟨m,hm⟩:=b.at_ hx;exact z7y (b.hd _ m) (b.rise _ m) x hm
theorem PB.keyself (b:PB n bl){k:Nat}(hk:k∈bl.map (·.1)):keyOf bl k=k:=by
 have m:=b.of_key hk;exact b.key m (b.bmem m)
theorem z2R (hn:0<n):PB n [(0,K9 n)]:=by
 refine⟨λp hp=>?_,λp hp=>?_,λx=>by simp,λp hp q hq x _ _=>?_,by simp⟩
 ·simp at hp;subst hp;cases n with
  | zero=>omega
  | succ n=>simp[K8v]
 ·simp at hp;subst hp;exact K4h
 ·simp at hp hq;rw[hp,hq]
def putB (bl:Bl) (k:Nat) (b:List Nat):Bl:=if (bl.any λp=>decide (p.1=k)) then bl.map (λp=>if p.1=k then (k,b) else p) else bl++[(k,b)]
def yesL (bl:Bl) (k:Nat) (f:Nat->Bool):List Nat:=(FT.blk bl k).filter f
def noL (bl:Bl) (k:Nat) (f:Nat->Bool):List Nat:=(FT.blk bl k).filter λx=>!f x
def cutB (bl:Bl) (k:Nat) (f:Nat->Bool):Bl:=putB (putB bl ((yesL bl k f).headD 0) (yesL bl k f)) ((noL bl k f).headD 0) (noL bl k f)
theorem z8G {bl:Bl}{k:Nat}{b:List Nat}:p∈putB bl k b↔(p∈bl/\p.1≠k)\/p=(k,b):=by
 unfold putB;split
 ·rename_i h;rw[K28]at h;obtain⟨q,hq,e⟩:=h;have e:=of_decide_eq_true e;rw[K07];constructor
  ·rintro⟨r,hr,rfl⟩;split
   ·exact .inr rfl
   ·rename_i c;exact .inl ⟨hr,c⟩
  ·rintro(⟨hp,c⟩|rfl)
   ·exact⟨p,hp,by rw[if_neg c]⟩
   ·exact⟨q,hq,by rw[if_pos e]⟩
 ·rename_i h;rw[K28]at h;rw[K0i,K1n];constructor
  ·rintro(hp|rfl)
   ·refine .inl ⟨hp,λe=>h ⟨p,hp,.(g) e⟩⟩
   ·exact .inr rfl
  ·rintro(⟨hp,_⟩|rfl)
   ·exact .inl hp
   ·exact .inr rfl
theorem z4o {bl:Bl}{k:Nat}{b:List Nat}:(putB bl k b).map (·.1)=if k∈bl.map (·.1) then bl.map (·.1) else bl.map (·.1)++[k]:=by
 have e:(bl.any λp=>decide (p.1=k))=decide (k∈bl.map (·.1)):=by
  rw[K19,K28,decide_eq_true_eq,K07];exact⟨λ⟨p,hp,q⟩=>⟨p,hp,of_decide_eq_true q⟩,λ⟨p,hp,q⟩=>⟨p,hp,.(g) q⟩⟩
 unfold putB;rw[e];by_cases c:k∈bl.map (·.1)
 ·rw[if_pos (.(g) c),if_pos c,K0u];refine K2a λp _=>?_;show (if p.1=k then (k,b) else p).1=p.1;split
  ·rename_i q;exact q.symm
  ·rfl
 ·rw[if_neg (by simpa using c),if_neg c,K4l];rfl
structure Cut (bl:Bl) (k:Nat) (f:Nat->Bool):Prop where
 hk:k∈bl.map (·.1)
 hy:yesL bl k f≠[]
 hn:noL bl k f≠[]
theorem z4f (h:l≠[]):l.head?=some (l.headD 0):=by
 cases l with
 | nil=>exact absurd rfl h
 | cons a l=>rfl
theorem ze2 (b:PB n bl){k:Nat}(c:Cut bl k f):
 ∃a z A Z,((a=(yesL bl k f).headD 0/\A=yesL bl k f/\z=(noL bl k f).headD 0/\Z=noL bl k f)\/(z=(yesL bl k f).headD 0/\Z=yesL bl k f/\a=(noL bl k f).headD 0/\A=noL bl k f))/\a=k/\z∉bl.map (·.1)/\A.head?=some a/\Z.head?=some z:=by
 have m:=b.of_key c.hk;have rs:=b.rise _ m;have km:=b.bmem m;have le:=z7y (b.hd _ m) rs;have rY:(yesL bl k f).Pairwise (·<·):=K2z _ rs;have rN:(noL bl k f).Pairwise (·<·):=K2z _ rs;have hY:=z4f c.hy;have hN:=z4f c.hn;have other:∀{z:Nat},z∈FT.blk bl k->z≠k->z∉bl.map (·.1):=λ{z} hz ne hk=>by
  have:=b.keyself hk;rw[b.key m hz]at this;exact ne this.symm
 by_cases q:f k=true
 ·have hk:(yesL bl k f).head?=some k:=zd2 (K0p.mpr ⟨km,q⟩) rY λx hx=>le x (K0p.mp hx).1;rw[hY]at hk;have hk:=K1b hk;have zm:=K0p.mp (z7v hN);refine⟨_,_,_,_,.inl ⟨rfl,rfl,rfl,rfl⟩,hk,other zm.1 λe=>?_,hY,hN⟩;have:=zm.2;rw[e,q]at this;cases this
 ·have hk:(noL bl k f).head?=some k:=zd2 (K0p.mpr ⟨km,by simpa using q⟩) rN λx hx=>le x (K0p.mp hx).1;rw[hN]at hk;have hk:=K1b hk;have zm:=K0p.mp (z7v hY);refine⟨_,_,_,_,.inr ⟨rfl,rfl,rfl,rfl⟩,hk,other zm.1 λe=>?_,hN,hY⟩;have:=zm.2;rw[e]at this;exact q this
theorem z0K (b:PB n bl){k:Nat}(c:Cut bl k f):p∈cutB bl k f↔(p∈bl/\p.1≠k)\/p=((yesL bl k f).headD 0,yesL bl k f)\/p=((noL bl k f).headD 0,noL bl k f):=by
 obtain⟨a,z,A,Z,h,hk,hz,_,_⟩:=ze2 b c;have za:z≠a:=λe=>hz (by rw[e,hk];exact c.hk);have zb:∀p∈bl,p.1≠z:=λp hp e=>hz (by rw[<- e];exact K07.mpr ⟨p,hp,rfl⟩);unfold cutB;rw[z8G,z8G];rcases h with ⟨e1,e2,e3,e4⟩|⟨e1,e2,e3,e4⟩
 ·rw[<- e1,<- e2,<- e3,<- e4,hk];constructor
  ·rintro(⟨⟨h1,h2⟩|rfl,h3⟩|rfl)
   ·exact .inl ⟨h1,h2⟩
   ·exact .inr (.inl rfl)
   ·exact .inr (.inr rfl)
  ·rintro(⟨h1,h2⟩|rfl|rfl)
   ·exact .inl ⟨.inl ⟨h1,h2⟩,zb _ h1⟩
   ·exact .inl ⟨.inr rfl,λe=>za (by rw[hk];exact e.symm)⟩
   ·exact .inr rfl
 ·rw[<- e1,<- e2,<- e3,<- e4,hk];constructor
  ·rintro(⟨⟨h1,h2⟩|rfl,h3⟩|rfl)
   ·exact .inl ⟨h1,h3⟩
   ·exact .inr (.inl rfl)
   ·exact .inr (.inr rfl)
  ·rintro(⟨h1,h2⟩|rfl|rfl)
   ·exact .inl ⟨.inl ⟨h1,zb _ h1⟩,h2⟩
   ·exact .inl ⟨.inr rfl,λe=>za (by rw[hk];exact e)⟩
   ·exact .inr rfl
theorem z6W (b:PB n bl){k:Nat}(c:Cut bl k f):PB n (cutB bl k f):=by
 have m:=b.of_key c.hk;have rs:=b.rise _ m;have hY:=z4f c.hy;have hN:=z4f c.hn;have inY:∀{x:Nat},x∈yesL bl k f->x∈FT.blk bl k/\f x=true:=λhx=>K0p.mp hx;have inN:∀{x:Nat},x∈noL bl k f->x∈FT.blk bl k/\f x=false:=λhx=>by
  have:=K0p.mp hx;simpa using this
 refine⟨λp hp=>?_,λp hp=>?_,λx=>?_,λp hp q hq x hx hy=>?_,?_⟩
 ·rcases(z0K b c).mp hp with ⟨h1,_⟩|rfl|rfl
  ·exact b.hd p h1
  ·exact hY
  ·exact hN
 ·rcases(z0K b c).mp hp with ⟨h1,_⟩|rfl|rfl
  ·exact b.rise p h1
  ·exact K2z _ rs
  ·exact K2z _ rs
 ·rw[b.cov];constructor
  ·rintro⟨p,hp,hx⟩;by_cases e:p.1=k
   ·have e2:=b.blk hp;rw[e]at e2;rw[<- e2]at hx;by_cases q:f x=true
    ·exact⟨_,(z0K b c).mpr (.inr (.inl rfl)),K0p.mpr ⟨hx,q⟩⟩
    ·exact⟨_,(z0K b c).mpr (.inr (.inr rfl)),K0p.mpr ⟨hx,by simpa using q⟩⟩
   ·exact⟨p,(z0K b c).mpr (.inl ⟨hp,e⟩),hx⟩
  ·rintro⟨p,hp,hx⟩;rcases(z0K b c).mp hp with ⟨h1,_⟩|rfl|rfl
   ·exact⟨p,h1,hx⟩
   ·exact⟨_,m,(inY hx).1⟩
   ·exact⟨_,m,(inN hx).1⟩
 ·have old:∀{p:Nat×List Nat},p∈bl->p.1≠k->∀x,x∈p.2->x∉FT.blk bl k:=λ{p} hp ne x h1 h2=>ne (by rw[b.dis p hp _ m x h1 h2]);rcases(z0K b c).mp hp with ⟨h1,n1⟩|rfl|rfl<;>rcases(z0K b c).mp hq with ⟨h2,n2⟩|rfl|rfl
  ·exact b.dis p h1 q h2 x hx hy
  ·exact absurd (inY hy).1 (old h1 n1 x hx)
  ·exact absurd (inN hy).1 (old h1 n1 x hx)
  ·exact absurd (inY hx).1 (old h2 n2 x hy)
  ·rfl
  ·have a1:=(inY hx).2;rw[(inN hy).2]at a1;cases a1
  ·exact absurd (inN hx).1 (old h2 n2 x hy)
  ·have a1:=(inY hy).2;rw[(inN hx).2]at a1;cases a1
  ·rfl
 ·unfold cutB;have one:∀{bl:Bl} {k:Nat} {b:List Nat},(bl.map (·.1)).Nodup->((putB bl k b).map (·.1)).Nodup:=λ{bl k b} nd=>by
   rw[z4o];split
   ·exact nd
   ·rename_i h;rw[K3x];exact⟨nd,by simp,λx hx y hy e=>h (by simp at hy;rw[<- hy,<- e];exact hx)⟩
  exact one (one b.nd)
theorem z8m (b:PB n bl){k:Nat}(c:Cut bl k f):(cutB bl k f).length=bl.length+1:=by
 obtain⟨a,z,A,Z,h,hk,hz,_,_⟩:=ze2 b c;have ka:a∈bl.map (·.1):=by rw[hk];exact c.hk
 have e:((cutB bl k f).map (·.1)).length=(bl.map (·.1)).length+1:=by
  unfold cutB;rw[z4o,z4o];rcases h with ⟨e1,_,e3,_⟩|⟨e1,_,e3,_⟩
  ·rw[<- e1,<- e3,if_pos ka,if_neg hz];simp
  ·rw[<- e1,<- e3,if_neg hz,if_pos (K1k _ ka)];simp
 simpa using e
end
theorem z6J (ma:MA st mk):SQ st:=⟨ma.l1,ma.l2,ma.s2⟩
theorem zH8 (a:Str):¬ a.cps.toList<a.cps.toList:=List.lt_irrefl _
theorem z4z {l:List Str}(a:l.Pairwise λa b=>a.cps.toList<b.cps.toList):l.Nodup:=Z1w (λ{x y} h (e:x=y)=>zH8 y (by rw[e]at h;exact h)) a
theorem z7c {l m:List Str}(a:l.Pairwise λa b=>a.cps.toList<b.cps.toList) (b:m.Pairwise λa b=>a.cps.toList<b.cps.toList) (h:∀x,x∈l↔x∈m):l=m :=
 ((K7h (z4z a) (z4z b)).mpr h).eq_of_pairwise (λ_ _ _ _ h1 h2=>absurd h2 (List.lt_asymm h1)) a b
def bel (st:List (List Nat)) (mk:List (List Str)) (bl:Bl) (by_:D) (x:Nat):Bool:=match by_ with
 | .str s=>bear s mk x
 | .int k=>(nx st x).any λo=>decide (o∈FT.blk bl k.toNat)
 | _=>false
structure Stb (st:List (List Nat)) (mk:List (List Str)) (E:Nat->Nat->Prop):Prop where
 lt:∀x y,E x y->x<.(7)/\y<.(7)
 sym:∀x y,E x y->E y x
 marks:∀x y,E x y->mkAt mk x=mkAt mk y
 steps:∀x y,E x y->∀o∈nx st x,∃t∈nx st y,E o t
def ByOk (bl:Bl) (d:D):Prop:=(∃s:Str,d=.str s)\/∃k:Nat,d=.int (k:Nat)/\k∈bl.map (·.1)
def Done (st:List (List Nat)) (mk:List (List Str)) (bl:Bl):Prop:=∀p∈bl,∀d,((∃x∈p.2,∃s∈mkAt mk x,d=.str s)\/∃k:Nat,d=.int (k:Nat)/\k∈bl.map (·.1))->¬ Cut bl p.1 (bel st mk bl d)
theorem z6B {bl:Bl}(b:PB st.length bl) (dn:Done st mk bl){y:Nat}(hx:x<st.length) (hy:y<st.length) (e:keyOf bl x=keyOf bl y) (ok:(∃z∈FT.blk bl (keyOf bl x),∃s∈mkAt mk z,d=.str s)\/∃k:Nat,d=.int (k:Nat)/\k∈bl.map (·.1)):bel st mk bl d x=bel st mk bl d y:=by
 obtain⟨m,hm⟩:=b.at_ hx;obtain⟨m2,hm2⟩:=b.at_ hy;rw[<- e]at hm2;cases q:bel st mk bl d x with
 | true =>
  cases q2:bel st mk bl d y with
  | true=>rfl
  | false=>exact absurd ⟨b.keyin hx,K5p (K0p.mpr ⟨hm,q⟩),K5p (a:=y) (K0p.mpr ⟨hm2,by rw[q2];rfl⟩)⟩ (dn _ m d ok)
 | false =>
  cases q2:bel st mk bl d y with
  | false=>rfl
  | true=>exact absurd ⟨b.keyin hx,K5p (a:=y) (K0p.mpr ⟨hm2,q2⟩),K5p (K0p.mpr ⟨hm,by rw[q];rfl⟩)⟩ (dn _ m d ok)
theorem zr1 {bl:Bl}(ma:MA st mk) (b:PB st.length bl) (dn:Done st mk bl):Stb st mk λx y=>x<st.length/\y<st.length/\keyOf bl x=keyOf bl y:=by
 refine⟨λx y h=>⟨h.1,h.2.1⟩,λx y h=>⟨h.2.1,h.1,h.2.2.symm⟩,λx y ⟨hx,hy,e⟩=>?_,λx y ⟨hx,hy,e⟩ o ho=>?_⟩
 ·have l3:=ma.l3;have gx:mkAt mk x∈mk:=K0j (z48 (show x<mk.length by omega));have gy:mkAt mk y∈mk:=K0j (z48 (show y<mk.length by omega));have good:∀{l:List Str},l∈mk->∀s∈l,s≠"":=λhl s hs e=>by
   have:=(ma.m1 _ hl).good s hs;rw[e]at this;exact absurd this.1 .(1)
  have go:∀{x y:Nat},x<.(7)->y<.(7)->keyOf bl x=keyOf bl y->mkAt mk x∈mk->∀s∈mkAt mk x,s∈mkAt mk y:=λ{x y} hx hy e gx s hs=>by
   have h:=z6B b dn hx hy e (d:=.str s) (.inl ⟨x,(b.at_ hx).2,s,hs,rfl⟩);have h:bear s mk x=bear s mk y:=h;unfold bear at h;rw[.(m) (good gx s hs),K49,K49]at h;have hs':s∈(mk[x]?).getD []:=hs;rw[.(g) hs']at h;exact of_decide_eq_true h.symm
  exact z7c (ma.m1 _ gx).rise (ma.m1 _ gy).rise λs=>⟨go hx hy e gx s,go hy hx e.symm gy s⟩
 ·have ol:o<st.length:=z7E (z6J ma) ho;have kin:=b.keyin ol;have h:=z6B b dn hx hy e (d:=.int (keyOf bl o:Nat)) (.inr ⟨_,rfl,kin⟩);have h1:bel st mk bl (.int (keyOf bl o:Nat)) x=true:=by
   show (nx st x).any _=true;rw[K28];exact⟨o,ho,.(g) (by rw[K0f];exact(b.at_ ol).2)⟩
  rw[h1]at h;have h:(nx st y).any (λt=>decide (t∈FT.blk bl ((keyOf bl o:Nat):Int).toNat))=true:=h.symm;rw[K28]at h;obtain⟨t,ht,q⟩:=h;have q:=of_decide_eq_true q;rw[K0f,b.in_blk kin]at q;exact⟨t,ht,ol,q.1,q.2.symm⟩
def kvB (bl:Bl):List (Key×D):=bl.map λp=>(.inl (p.1:Int),.tup (stD p.2))
theorem zM8 (bl:Bl):z2q (kvB bl)=stD (bl.map (·.1)):=by unfold z2q kvB stD;rw[K0u,K0u];rfl
theorem inl_inj:((.inl (a:Int):Key)=.inl (b:Int))↔a=b:=by
 constructor
 ·intro h;injection h with h;omega
 ·rintro rfl;rfl
theorem lkB {bl:Bl}{k:Nat}(h:k∈bl.map (·.1)):lkD (kvB bl) (.inl (k:Int))=.(g ((stD (blk bl k)))):=by
 unfold lkD kvB blk;rw[List.find?_map];have:((λkv:Key×D=>decide (kv.1=.inl (k:Int))) ∘ λp:Nat×List Nat=>((.inl (p.1:Int):Key),D.tup (stD p.2)))=λp=>decide (p.1=k):=by
  funext p;show decide ((.inl (p.1:Int):Key)=.inl (k:Int))=_;rw[decide_eq_decide];exact inl_inj
 rw[this];cases e:bl.find? λp=>decide (p.1=k) with
 | none =>
  rw[K4j]at e;obtain⟨p,hp,q⟩:=K07.mp h;exact absurd (by simpa using q) (e p hp)
 | some q=>rfl
theorem ptB (bl:Bl) (k:Nat) (b:List Nat):ptD (kvB bl) (.inl (k:Int)) (.tup (stD b))=kvB (putB bl k b):=by
 unfold ptD putB kvB;have e:((bl.map λp=>((.inl (p.1:Int):Key),D.tup (stD p.2))).any λkv=>decide (kv.1=.inl (k:Int)))=bl.any λp=>decide (p.1=k):=by
  rw[List.any_map];congr 1;funext p;show decide ((.inl (p.1:Int):Key)=.inl (k:Int))=_;rw[decide_eq_decide];exact inl_inj
 rw[e];by_cases c:(bl.any λp=>decide (p.1=k))=true
 ·rw[if_pos c,if_pos c,K0u,K0u];refine K2a λp _=>?_;show (if (.inl (p.1:Int):Key)=.inl (k:Int) then _ else _)=_;by_cases q:p.1=k
  ·rw[if_pos (inl_inj.mpr q)];show _=((.inl ((if p.1=k then (k,b) else p).1:Int):Key),D.tup (stD (if p.1=k then (k,b) else p).2));rw[if_pos q];show ((.inl (p.1:Int):Key),D.tup (stD b))=_;rw[q]
  ·rw[if_neg (λz=>q (inl_inj.mp z))];show _=((.inl ((if p.1=k then (k,b) else p).1:Int):Key),D.tup (stD (if p.1=k then (k,b) else p).2));rw[if_neg q]
 ·rw[if_neg c,if_neg c,K4l];rfl
theorem refB (bl:Bl):J6 n ((kvB bl).map (·.2))=true:=by
 unfold kvB;rw[K0u];exact z09 λp=>z5b _
def Dic (h:AH) (b:Nat) (bl:Bl):Prop:=h[b]?=some (.dK (kvB bl))\/h[b]?=some (.dF (kvB bl))
theorem Dic.app {bl:Bl}(d:Dic h b bl) (j:AH):Dic (h++j) b bl:=d.imp (λe=>J7 e) λe=>J7 e
theorem Dic.lt {bl:Bl}(d:Dic h b bl):b<h.length:=by rcases d with d|d<;>exact(K3.mp d).1
theorem Dic.get {bl:Bl}(d:Dic h b bl){k:Nat}(hk:k∈bl.map (·.1)):z4x (.ref b) (.int (k:Nat)) h=.ok (.tup (stD (blk bl k))) h:=by
 have g:getK b h=.ok (kvB bl) h:=by rcases d with d|d<;>(unfold getK;rw[d])
 unfold z4x;show (getK b >>= _) h=_;rw[M.bind_ok g];show (match lkD (kvB bl) (.inl (k:Int)) with|some d=>pure d|none=>bad) h=_;rw[lkB hk];rfl
theorem Dic.dk {bl:Bl}(d:Dic h b bl):z5t b h=.ok (kvB bl) h:=by rcases d with d|d<;>(unfold z5t;rw[d])
theorem Dic.walk {bl:Bl}(d:Dic h b bl){h0:AH}(e:ma γ h0=.ok (.ref b) h):iDic ma γ h0=.ok (.con (stD (bl.map (·.1)))) (h.set b (.dF (kvB bl))):=by
 unfold iDic;rw[M.bind_ok e];dsimp only;rcases d with d|d
 ·rw[d];dsimp only;rw[zM8]
 ·rw[d];dsimp only;rw[zM8];congr 1;refine K35 λi=>?_;by_cases q:b=i
  ·subst q;rw[K1g (K3.mp d).1,d]
  ·rw[K1l q]
theorem Dic.set {h:AH}{b:Nat}{bl:Bl}(d:Dic h b bl):Dic (h.set b (.dF (kvB bl))) b bl:=.inr (K1g d.lt)
theorem z3t {m:M D}{h0:AH}{j:AH}(e:m h=.ok (.ref i) (h0++j)) (l0:h0.length=h.length) (kp:Kept h h0) (hi:h.length<=i) (ei:(h0++j)[i]?=some o) (c:refO h.length o=true):cln m h=.ok .(u) (h0++[o]):=by
 have kp':Kept h (h0++j):=λi o li e=>kp i o li (by rw[K0z .(0)]at e;exact e);unfold cln;rw[e];dsimp only;rw[if_pos ⟨by rw[K04];omega,kp'⟩,if_neg (by simp only[Y1,decide_eq_true_eq];omega),ei];dsimp only;rw[if_pos c,<- l0,Z31 rfl]
theorem zp2 (c:refO h.length o=true):Kept h (h.set b o):=λi u li e=>by
 by_cases q:b=i
 ·subst q;rw[K1g li]at e;cases e;exact .inr c
 ·rw[K1l q]at e;exact .inl e
theorem z4d (h:AH):Kept h h:=λ_ _ _ e=>.inl e
theorem zd8 {k:Key}{v:D}(h:k∉kvs.map (·.1)):ptD kvs k v=kvs++[(k,v)]:=by
 unfold ptD;rw[if_neg];rw[K28];rintro⟨p,hp,q⟩;exact h (K07.mpr ⟨p,hp,of_decide_eq_true q⟩)
section
variable {mi1:G->M Src}{g1:D->G->M G}
theorem zm5 {v:D}{k:Key}(e:h[n]?=some (.dK kvs)) (hk:keyD y=some k) (hl:kvs.length<1000000) (nk:k∉kvs.map (·.1)):z9j n y v h=.ok () (h.set n (.dK (kvs++[(k,v)]))):=by
 unfold z9j z7H;dsimp only;rw[hk];dsimp only;rw[e];dsimp only;rw[if_pos (K0l hl .(1)),zd8 nk]
theorem z5A {γ':G}(f:D->Key×D) (src:Src) (h1:AH) (hg:∀j,src.good (h1++j)):∀(rest:List D) (kvs:List (Key×D)),(kvs.map (·.1)++rest.map λd=>(f d).1).Nodup->kvs.length+rest.length<=1000 ->
 (∀d∈rest,∃γ1 y,(∀h,g d γ' h=.ok γ1 h)/\(∀h,kb γ1 h=.ok true h)/\keyD y=some (f d).1/\(∀j,me γ1 (h1++j)=.ok y (h1++j))/\∀j,mv γ1 (h1++j)=.ok (f d).2 (h1++j)) ->
 z2k src g kb me mv h1.length γ' rest (h1++[.dK kvs])=.ok () (h1++[.dK (kvs++rest.map f)])
 | [],kvs,nd,hl,hd=>by
  unfold z2k;have c1:src.chk (h1++[.dK kvs])=.ok () (h1++[.dK kvs]):=by unfold Src.chk;rw[if_pos (hg _)]
  rw[M.bind_ok c1];simp
 | d::rest,kvs,nd,hl,hd=>by
  obtain⟨γ1,y,e1,e2,e3,e4,e5⟩:=hd d .(f);have nk:(f d).1∉kvs.map (·.1):=λq=>(K3x.mp nd).2.2 _ q _ .(f) rfl;have c1:src.chk (h1++[.dK kvs])=.ok () (h1++[.dK kvs]):=by unfold Src.chk;rw[if_pos (hg _)]
  have c5:=zm5 (n:=h1.length) (v:=(f d).2) (x6 (h:=h1) (o:=.dK kvs)) e3 (by rw[K02]at hl;omega) nk;rw[z2U]at c5;have ih:=z5A (γ':=γ') f src h1 hg rest (kvs++[f d]) (by rw[K4l,K06];exact nd) (by rw[K04];simp at hl ⊢;omega) λx hx=>hd x (by simp[hx]);unfold z2k;rw[M.bind_ok c1,M.bind_ok (e1 _),M.bind_ok (e2 _),if_pos rfl,M.bind_ok (e4 _),M.bind_ok (e5 _),M.bind_ok c5,ih];simp
theorem zC8 (f:D->Key×D) (hi:mi γ h=.ok src h1) (hg:∀j,src.good (h1++j)) (nd:(src.items.map λd=>(f d).1).Nodup) (hl:src.items.length<=1000)
 (hd:∀d∈src.items,∃γ1 y,(∀h,g d (capG cap γ) h=.ok γ1 h)/\(∀h,kb γ1 h=.ok true h)/\keyD y=some (f d).1/\(∀j,me γ1 (h1++j)=.ok y (h1++j))/\∀j,mv γ1 (h1++j)=.ok (f d).2 (h1++j)) :
 za1 cap mi g kb me mv γ h=.ok (.ref h1.length) (h1++[.dK (src.items.map f)]):=by
 have r:=z5A (γ':=capG cap γ) (kb:=kb) (me:=me) (mv:=mv) (g:=g) f src h1 hg src.items [] (by simpa using nd) (by simpa using hl) hd;unfold za1;rw[M.bind_ok hi];show (z2k src g kb me mv h1.length (capG cap γ) src.items >>= λ_=>(pure (D.ref h1.length):M D)) (h1++[O.dK []])=_;rw[M.bind_ok r];simp
theorem z6w {γ':G}(ys:D->List D) (f:D->D->Key×D) (src:Src) (h1:AH) (hg:∀j,src.good (h1++j)):∀(rest:List D) (kvs:List (Key×D)),(kvs.map (·.1)++rest.flatMap λd=>(ys d).map λy=>(f d y).1).Nodup->kvs.length+(rest.flatMap ys).length<=1000 ->
 (∀d∈rest,∃γ1,(∀h,g d γ' h=.ok γ1 h)/\(∀j,mi1 γ1 (h1++j)=.ok (.con (ys d)) (h1++j))/\∀y∈ys d,∃γ2 z,(∀h,g1 y γ1 h=.ok γ2 h)/\(∀h,kb γ2 h=.ok true h)/\keyD z=some (f d y).1/\(∀j,me γ2 (h1++j)=.ok z (h1++j))/\∀j,mv γ2 (h1++j)=.ok (f d y).2 (h1++j)) ->
 z36 src g mi1 g1 kb me mv h1.length γ' rest (h1++[.dK kvs])=.ok () (h1++[.dK (kvs++rest.flatMap λd=>(ys d).map (f d))])
 | [],kvs,nd,hl,hd=>by
  unfold z36;have c1:src.chk (h1++[.dK kvs])=.ok () (h1++[.dK kvs]):=by unfold Src.chk;rw[if_pos (hg _)]
  rw[M.bind_ok c1];simp
 | d::rest,kvs,nd,hl,hd=>by
  obtain⟨γ1,e1,e2,e3⟩:=hd d .(f);have c1:src.chk (h1++[.dK kvs])=.ok () (h1++[.dK kvs]):=by unfold Src.chk;rw[if_pos (hg _)]
  rw[K4w,<- K06]at nd;rw[K4w,K04]at hl;have inn:=z5A (γ':=γ1) (g:=g1) (kb:=kb) (me:=me) (mv:=mv) (f d) (.con (ys d)) h1 (λ_=>trivial) (ys d) kvs (List.Nodup.sublist (K5g _ _) nd) .(0) e3;have ih:=z6w (γ':=γ') ys f src h1 hg rest (kvs++(ys d).map (f d)) (by
   rw[K4l,K0u];exact nd) (by rw[K04,K03];omega) λx hx=>hd x (by simp[hx])
  unfold z36;rw[M.bind_ok c1,M.bind_ok (e1 _),M.bind_ok (e2 _)];have inn':z2k (Src.con (ys d)) g1 kb me mv h1.length γ1 (Src.con (ys d)).items (h1++[.dK kvs])=_:=inn;rw[M.bind_ok inn',ih,K4w,K06]
theorem zs5 (ys:D->List D) (f:D->D->Key×D) (hi:mi γ h=.ok src h1) (hg:∀j,src.good (h1++j)) (nd:(src.items.flatMap λd=>(ys d).map λy=>(f d y).1).Nodup) (hl:(src.items.flatMap ys).length<=1000)
 (hd:∀d∈src.items,∃γ1,(∀h,g d (capG cap γ) h=.ok γ1 h)/\(∀j,mi1 γ1 (h1++j)=.ok (.con (ys d)) (h1++j))/\∀y∈ys d,∃γ2 z,(∀h,g1 y γ1 h=.ok γ2 h)/\(∀h,kb γ2 h=.ok true h)/\keyD z=some (f d y).1/\(∀j,me γ2 (h1++j)=.ok z (h1++j))/\∀j,mv γ2 (h1++j)=.ok (f d y).2 (h1++j)) :
 z5u cap mi g mi1 g1 kb me mv γ h=.ok (.ref h1.length) (h1++[.dK (src.items.flatMap λd=>(ys d).map (f d))]):=by
 have r:=z6w (γ':=capG cap γ) (mi1:=mi1) (g1:=g1) (kb:=kb) (me:=me) (mv:=mv) (g:=g) ys f src h1 hg src.items [] (by simpa using nd) (by simpa using hl) hd;unfold z5u;rw[M.bind_ok hi];show (z36 src g mi1 g1 kb me mv h1.length (capG cap γ) src.items >>= λ_=>(pure (D.ref h1.length):M D)) (h1++[O.dK []])=_;rw[M.bind_ok r];simp
end
theorem zO1 {m:M D}(e:m h=.ok d h) (c:Y1 0 d=true):cln m h=.ok d h:=z0S (j:=[]) (by rw[e,K0w]) (z2F (K3j h.length) c)
theorem z5o {b:Bool}(e1:ma γ h=.ok d h) (e2':fIsi T d h=.ok (.bl b) h):eIsi T ma γ h=.ok (.bl b) h:=by
 unfold eIsi;rw[M.bind_ok e1,e2']
theorem Z0s {bs:List Bool}(e:me γ h=.ok .(u) (h++[.lst (bs.map .bl)])):clE (Z6 (fAll true) (z7 me aNil)) γ h=.ok (.bl (bs.any id)) h :=
 z0S (j:=[.lst (bs.map .bl)]) (j9 e (by
  have g:getL h.length (h++[O.lst (bs.map .bl)])=.ok (bs.map .bl) (h++[O.lst (bs.map .bl)]):=by unfold getL;rw[x6]
  unfold fAll;dsimp only;rw[M.bind_ok g,z5X];rfl)) rfl
theorem Z05 {k v:D}{kk:Key}(e1:ma γ (h++[.dK []])=.ok k (h++[.dK []])) (hk:keyD k=some kk) (e2':mv γ (h++[.dK []])=.ok v (h++[.dK []])):z5a ma mv γ h=.ok .(u) (h++[.dK [(kk,v)]]):=by
 unfold z5a;show (ma γ >>= λk=>mv γ >>= λv=>putO h.length k v) (h++[O.dK []])=_;rw[M.bind_ok e1,M.bind_ok e2'];unfold putO;rw[hk];dsimp only;rw[x6];dsimp only;rw[z2U]
theorem zl4 {cap:List (Option Nat)}{g:D->G->M G}{kb:G->M Bool}{me:G->M D}(f:Nat->D) (hi:mi γ h=.ok src h1) (hs:src.items=stD l) (hg:∀j,src.good (h1++j)) (hl:l.length<=1000000)
 (hd:∀x∈l,∃γ1,(∀h,g (.int x) (capG cap γ) h=.ok γ1 h)/\(∀j,kb γ1 (h1++j)=.ok true (h1++j))/\∀j,me γ1 (h1++j)=.ok (f x) (h1++j)):x5 cap mi g kb me γ h=.ok (.ref h1.length) (h1++[.lst (l.map f)]):=by
 have e:=z0R (mi:=λ_=>pure src) (cap:=cap) (g:=g) (kb:=kb) (me:=me) (γ:=γ) (h:=h1) (λ_=>true) f rfl hs hg hl λx hx=>by
  obtain⟨γ1,a1,a2,a3⟩:=hd x hx;exact⟨γ1,a1,a2,λ_=>a3⟩
 rw[filter_tt]at e;rw[<- e];unfold x5;rw[M.bind_ok hi];rfl
inductive Sy where
 | yes
 | mark (s:Str)
 | step (k:Nat)
 | neg (k:Nat)
 | con (a b:Nat)
abbrev Tru:=List (List Bool)
def tv (T:Tru) (i x:Nat):Bool:=(((T[i]?).getD [])[x]?).getD false
abbrev Mx (K:K6) (mg:Str->Option Value) (x:Str):Prop:=∀v,K6x K K2i x=some (some v)->mg x=some v
abbrev Bnd (st:Stmt) (x:Str) (ps:List Str):Prop:=∀(kV doc pm:Value) (an:Option Addr) (cdv ct:Value) (us:List Value),us.length=ps.length->bindArgs (K3v x x (z35 st) (z0X st) (y6 st) .none kV doc pm an cdv ct) ⟨us,[]⟩=pure (ps.zip us)
def scB (N P:List Str) (sc:Scope):Bool:=sc.kind==.function&&!sc.isCoroutine&&!sc.isGenerator&&decide N.Nodup&&decide (P.length<=N.length)&&P.all (λx=>sc.names.lookup x==some .local||sc.names.lookup x==some .cell)&&sc.names.all λy=>y.2 != .free
theorem zO7 {N:List Str}{sc:Scope}(h:scB N (N.take n) sc=true):FnScope N (N.take n) sc:=by
 unfold scB at h;simp only[K0c,K3z,decide_eq_true_eq]at h;obtain⟨⟨⟨⟨⟨⟨h1,h2⟩,h3⟩,h4⟩,h5⟩,h6⟩,h7⟩:=h;refine⟨by simpa using h1,h2,h3,h4,by simp,λx hx=>?_,λy hy=>?_⟩
 ·have:=K1m.mp h6 x hx;rw[K2f]at this;rcases this with z|z
  ·exact .inl (by simpa using z)
  ·exact .inr (by simpa using z)
 ·have:=K1m.mp h7 y hy;simpa using this
section
variable {x:Str}{st:Stmt}{k:Nat}
theorem dfN (N:List Str) (mb:G->M Out) (T:DefAt K x st) (mx:Mx K mg x) (hs:scB N (N.take n) (y6 st)=true) (hn:(N.take n).length=n) (hb:Bnd st x (N.take n))
 (body:∀{f:Addr} {cdv:Value} {A:Around} {outer:List Env} {s:Shared} {H:Hp} {E:XK},K4c K cdv x=true->Room k (A.deeper (envOfC x (y6 st) .(5) f cdv))->N.Nodup ->
  SB (cxOf CX0 P w K mg base N x (y6 st) f cdv A outer s H E).nox EX0 (z0X st) mb):Fn P w K mg base (k+1) x n (runF N.length mb):=by
 obtain⟨f,fd,hf,F⟩:=T;exact zw3 F (zO7 hs) (F.binds hb) (mx _ hf) hn λ_ _ _ _ _ _ hcd hr=>body hcd hr (zO7 hs).nd
theorem dfC (N:List Str) (mb:G->M Out) (T:DefAt K x st) (mx:Mx K mg x) (hs:scB N (N.take n) (y6 st)=true) (hn:(N.take n).length=n) (hb:Bnd st x (N.take n))
 (body:∀{f:Addr} {cdv:Value} {A:Around} {outer:List Env} {s:Shared} {H:Hp} {E:XK},K4c K cdv x=true->Room k (A.deeper (envOfC x (y6 st) .(5) f cdv))->N.Nodup ->
  SB (cxOf CX0 P w K mg base N x (y6 st) f cdv A outer s H E).nox EX0 (z0X st) mb):Fn P w K mg base (k+1) x n λds=>cln (runF N.length mb ds):=Fn.cln (dfN N mb T mx hs hn hb body)
end
def top (i:Nat):Stmt:=PySem.Challenge.pw_fairtrees_k65_whole_bent_cuts.main.body.getD i (.Pass ⟨0,0,0,0⟩)
noncomputable def c_KEPT:D:=.tup [.str "yes",.str "no",.str "not",.str "and",.str "or",.str "step",.str "some",.str "all",.str "next",.str "once",.str "ever",.str "until",.str "unless"]
noncomputable def c_LONGEST:D:=.int 8
noncomputable def z25:G->M Out :=
 (Z0 (sRet (eAnd (eIsi "int" .(h)) (eNot (eIsi "bool" .(h))))) bNil)
noncomputable def z0o:List D->M D:=λds=>cln (runF 1 z25 ds)
noncomputable def z0z:G->M Out :=
 (Z0 (sRet (eAnd (eFn 1 z0o (z7 .(h) aNil)) (e3 fLe fLe .(l) .(h) (eVar 2)))) bNil)
noncomputable def z1g:List D->M D:=λds=>cln (runF 3 z0z ds)
noncomputable def z20:G->M Out :=
 (Z0 (sRet (eIsi "str" .(h))) bNil)
noncomputable def z2w:List D->M D:=λds=>cln (runF 1 z20 ds)
noncomputable def z1Y:G->M Out :=
 (Z0 (sIf (cOr (cNot (cVal (eFn 1 z2w (z7 .(h) aNil)))) (cNot (λγ=>do let d <- e3 fLe fLe .(4) (Z6 fLen (z7 .(h) aNil)) (λ_=>pure c_LONGEST) γ;asB d))) .(n) bNil) (Z0 (sRet (eAnd (e2 (fIn true) .(h) (λ_=>pure c_KEPT)) (clE (Z6 (fAll false) (z7 (x5 [none] (iStr .(h)) (gN 0) (λ_=>pure true) (e3 fLe fLe (λ_=>pure (.str "a")) .(h) (λ_=>pure (.str "z")))) aNil))))) bNil))
noncomputable def z1B:List D->M D:=λds=>cln (runF 1 z1Y ds)
noncomputable def z2O:G->M Out :=
 (Z0 (sRet (eIsi "tuple" .(h))) bNil)
noncomputable def z1X:List D->M D:=λds=>cln (runF 1 z2O ds)
noncomputable def z1r:G->M Out :=
 (Z0 (sRet (eAnd (eFn 1 z1X (z7 .(h) aNil)) (e3 fLe fLe .(l) (Z6 fLen (z7 .(h) aNil)) (eVar 2)))) bNil)
noncomputable def z0H:List D->M D:=λds=>cln (runF 3 z1r ds)
noncomputable def z4e:G->M Out :=
 (Z0 (sRet (clE (Z6 z03 (z7 (Z6 J4 (z7 (Z6 z0h (z7 .(h) aNil)) aNil)) aNil)))) bNil)
noncomputable def z4j:List D->M D:=λds=>cln (runF 1 z4e ds)
noncomputable def z5T:G->M Out :=
 (Z0 (sRet (eOr (e2 (fEq false) (eVar 2) (λ_=>pure (.str ""))) (e2 (fIn false) (eVar 2) (e2 fIx (e2 fIx .(h) .(4)) .(l))))) bNil)
noncomputable def z5B:List D->M D:=λds=>cln (runF 3 z5T ds)
noncomputable def z0x:G->M Out :=
 (Z0 (sRet (z5a .(3) (eRng true (Z6 fLen (z7 (e2 fIx .(h) .(3)) aNil))))) bNil)
noncomputable def z1J:List D->M D:=λds=>cln (runF 1 z0x ds)
noncomputable def z38:G->M Out :=
 (Z0 (sIf (cVal (eIsi "str" (eVar 3))) (Z0 (sRet (eFn 3 z5B (z7 .(h) (z7 (eVar 2) (z7 (eVar 3) aNil))))) bNil) bNil) (Z0 (sRet (clE (Z6 (fAll true) (z7 (x5 [some 1,some 3,none] (z0c (e2 fIx (e2 fIx .(h) .(3)) (eVar 2))) (gN 2) (λ_=>pure true) (e2 (fIn false) (eVar 2) (e2 z4x .(h) .(l)))) aNil)))) bNil))
noncomputable def z4q:List D->M D:=λds=>cln (runF 4 z38 ds)
noncomputable def z3e:G->M Out :=
 (Z0 (sAsg (clE (Z6 z03 (z7 (x5 [some 0,some 1,some 3,none] (z0c (eVar 2)) (gN 3) (cVal (eFn 4 z4q (z7 .(h) (z7 .(l) (z7 (eVar 3) (z7 (eVar 2) aNil)))))) (eVar 3)) aNil))) (gN 4)) (Z0 (sAsg (clE (Z6 z03 (z7 (x5 [some 4,none] (z0c (eVar 2)) (gN 1) (λγ=>do let d <- e2 (fIn true) .(l) .(h) γ;asB d) .(l)) aNil))) (gN 5)) (Z0 (sRet (x5 [none] (z0c (eTup (z7 (eVar 4) (z7 (eVar 5) aNil)))) (gN 0) (λγ=>do let d <- e2 fGt (Z6 fLen (z7 .(h) aNil)) .(3) γ;asB d) .(h))) bNil)))
noncomputable def z45:List D->M D:=λds=>cln (runF 6 z3e ds)
noncomputable def z2H:G->M Out :=
 (Z0 (sAsg (eVar 2) (gT 2 (z0Y (gN 3) (z0Y (gN 4) z4W)))) (Z0 (z7u 5 [some 1,none] (iDic .(l)) (gN 1) (λ_=>pure true) .(l) (e2 z4x .(h) .(l))) (Z0 (sFor (v8 (eFn 4 z45 (z7 .(h) (z7 .(l) (z7 (e2 z4x .(l) (eVar 3)) (z7 (eVar 4) aNil)))))) (gN 6) (Z0 (sAsg (eVar 6) (gDx (eVar 5) (e2 fIx (eVar 6) .(3)))) bNil)) (Z0 (sRet (eVar 5)) bNil))))
noncomputable def z5w:List D->M D:=λds=>cln (runF 7 z2H ds)
noncomputable def z3i:G->M Out :=
 (Z0 (sAsg (z5u [some 0,none,none,none] (z96 (Z6 z0L (z7 .(h) aNil))) (gT 2 (z0Y (gN 1) (z0Y (gN 2) z4W))) (z0c (e2 z4x .(h) (eVar 2))) (gN 3) (λ_=>pure true) (eVar 3) .(l)) (gN 1)) (Z0 (sRet (clE (Z6 z03 (z7 (x5 [some 1,none] (v8 (Z6 z0L (z7 .(l) aNil))) (gN 1) (λ_=>pure true) (e2 z4x .(h) .(l))) aNil)))) bNil))
noncomputable def z66:List D->M D:=λds=>cln (runF 2 z3i ds)
noncomputable def z3r:G->M Out :=
 (Z0 (sRet (eFn 1 z4j (z7 (x5 [some 1,none] (z0c (e2 fIx (e2 fIx .(h) .(3)) (eVar 2))) (gN 1) (λ_=>pure true) (e2 fIx .(h) .(l))) aNil))) bNil)
noncomputable def z3v:List D->M D:=λds=>cln (runF 3 z3r ds)
noncomputable def z22:G->M Out :=
 (Z0 (sAsg (Z6 fLen (z7 (e2 fIx .(h) .(3)) aNil)) (gN 2)) (Z0 (sIf (cNot (cVal (eFn 3 z0H (z7 .(l) (z7 (eVar 2) (z7 (eVar 2) aNil)))))) .(n) bNil) (Z0 (sAsg (eLst aNil) (gN 3)) (Z0 (sFor (z9K .(l)) (gT 2 (z0Y (gN 4) (z0Y (gN 5) z4W))) (Z0 (sIf (cNot (cVal (eFn 3 z1g (z7 (eVar 5) (z7 .(3) (z7 (Z6 fLen (z7 (eVar 3) aNil)) aNil)))))) .(n) bNil) (Z0 (sIf (λγ=>do let d <- e2 (fEqX false) (eVar 5) (Z6 fLen (z7 (eVar 3) aNil)) γ;asB d) (Z0 (z15 (eM1 J2 (eVar 3) (eVar 4))) bNil) bNil) bNil))) (Z0 (sAsg (x5 [some 0,some 1,none] (z0y (eVar 2)) (gN 2) (λ_=>pure true) (eTup (z7 (e2 fIx (e2 fIx .(h) .(4)) (eVar 2)) (z7 (eFn 3 z3v (z7 .(h) (z7 .(l) (z7 (eVar 2) aNil)))) aNil)))) (gN 6)) (Z0 (sRet (clE (Z6 (fAll false) (z7 (x5 [some 6,some 3,none,none] (z9K .(l)) (gT 2 (z0Y (gN 2) (z0Y (gN 3) z4W))) (λ_=>pure true) (e2 (fEqX false) (e2 fIx .(h) (eVar 2)) (e2 fIx .(h) (e2 fIx .(l) (eVar 3))))) aNil)))) bNil))))))
noncomputable def z34:List D->M D:=λds=>cln (runF 7 z22 ds)
noncomputable def z4i:G->M Out :=
 (Z0 (sIf (cNot (cVal (eFn 3 z0H (z7 .(l) (z7 .(t) (z7 .(t) aNil)))))) .(n) bNil) (Z0 (sAsg .(l) (gT 2 (z0Y (gN 2) (z0Y (gN 3) z4W)))) (Z0 (sRet (eAnd (eFn 1 z0o (z7 (eVar 2) aNil)) (eAnd (e2 (fInD false) (eVar 2) .(h)) (eOr (eFn 1 z1B (z7 (eVar 3) aNil)) (eAnd (eFn 1 z0o (z7 (eVar 3) aNil)) (e2 (fInD false) (eVar 3) .(h))))))) bNil)))
noncomputable def z4n:List D->M D:=λds=>cln (runF 4 z4i ds)
noncomputable def z0j:G->M Out :=
 (Z0 (sIf (cNot (cVal (eFn 3 z0H (z7 .(l) (z7 .(t) (z7 .(t) aNil)))))) .(n) bNil) (Z0 (sAsg .(l) (gT 2 (z0Y (gN 2) (z0Y (gN 3) z4W)))) (Z0 (sIf (cOr (cNot (cVal (eFn 2 z34 (z7 .(h) (z7 (eVar 2) aNil))))) (cNot (cVal (eFn 1 z1X (z7 (eVar 3) aNil))))) .(n) bNil) (Z0 (sAsg (eFn 1 z1J (z7 .(h) aNil)) (gN 4)) (Z0 (sFor (z0c (eVar 3)) (gN 5) (Z0 (sIf (cOr (cNot (cVal (eFn 2 z4n (z7 (eVar 4) (z7 (eVar 5) aNil))))) (λγ=>do let d <- e2 fLt (Z6 fLen (z7 (eFn 4 z45 (z7 .(h) (z7 (eVar 4) (z7 (e2 z4x (eVar 4) (e2 fIx (eVar 5) .(3))) (z7 (e2 fIx (eVar 5) .(4)) aNil))))) aNil)) .(t) γ;asB d)) .(n) bNil) (Z0 (sAsg (eFn 3 z5w (z7 .(h) (z7 (eVar 4) (z7 (eVar 5) aNil)))) (gN 4)) bNil))) (Z0 (sRet (e2 (fEqX false) (eVar 2) (eFn 1 z66 (z7 (eVar 4) aNil)))) bNil))))))
noncomputable def z0J:List D->M D:=λds=>cln (runF 6 z0j ds)
noncomputable def z2b:G->M Out :=
 (Z0 (z2d 1 [none] (v8 .(h)) (gN 0) (λγ=>do let d <- e2 fGe .(h) (e2 fPow (λ_=>pure (.int 10)) (λ_=>pure (.int 18))) γ;asB d) .(h)) (Z0 (sRet (eLst (z7 .(l) (z7 (x5 [none] (v8 .(h)) (gN 0) (λγ=>do let d <- e2 fLt .(h) (e2 fPow (λ_=>pure (.int 10)) (λ_=>pure (.int 18))) γ;asB d) .(h)) (z7 (λ_=>pure (.int 5)) (z7 .(3) aNil)))))) bNil))
noncomputable def z2Z:List D->M D:=runF 2 z2b
noncomputable def z1y:G->M Out :=
 (Z0 (sIf (λγ=>do let d <- e2 fGt (Z6 fLen (z7 (e2 fIx .(h) .(3)) aNil)) .(3) γ;asB d) (Z0 (sAsg (e2 fIx (e2 fIx .(h) .(3)) .(3)) (gN 2)) (Z0 (sAsg (e2 fDiv (eVar 2) .(l)) (gIx (e2 fIx .(h) .(3)) .(3))) (Z0 (sIf (λγ=>do let d <- e2 (fEq false) (e2 fDiv (eVar 2) .(l)) .(3) γ;asB d) (Z0 (z15 (eM1 z3k (e2 fIx .(h) .(3)) .(3))) bNil) bNil) (Z0 (sRet (e2 fMod (eVar 2) .(l))) bNil)))) bNil) (Z0 (sAsg (e2 fAdd (e2 fIx .(h) (λ_=>pure (.int 3))) .(4)) (gIx .(h) (λ_=>pure (.int 3)))) (Z0 (sAsg .(3) (gN 2)) (Z0 (sIf (λγ=>do let d <- e2 fGt (Z6 fLen (z7 (e2 fIx .(h) .(4)) aNil)) .(3) γ;asB d) (Z0 (sAsg (e2 fIx (e2 fIx .(h) .(4)) (e2 fMod (e2 fIx .(h) (λ_=>pure (.int 3))) (Z6 fLen (z7 (e2 fIx .(h) .(4)) aNil)))) (gN 2)) bNil) bNil) (Z0 (sAsg (e2 z5O (e2 fMod (eVar 2) (λ_=>pure (.int 2147483629))) (e2 fAdd (e2 z5O (e2 fIx .(h) (λ_=>pure (.int 3))) (e2 fIx .(h) (λ_=>pure (.int 3)))) .(4))) (gN 2)) (Z0 (sAsg (e2 fMod (e2 fAdd (e2 fAdd (e2 z5O (e2 fIx .(h) .(t)) (λ_=>pure (.int 48271))) (eVar 2)) (e2 z5O (λ_=>pure (.int 97)) (e2 fIx .(h) (λ_=>pure (.int 3))))) (λ_=>pure (.int 2147483647))) (gIx .(h) .(t))) (Z0 (sRet (e2 fMod (e2 fDiv (e2 fMod (e2 fPow (e2 fIx .(h) .(t)) (λ_=>pure (.int 5))) (λ_=>pure (.int 2147483629))) (λ_=>pure (.int 64))) .(l))) bNil)))))))
noncomputable def Z4:List D->M D:=runF 3 z1y
noncomputable def z1u:G->M Out :=
 (Z0 (sAsg (λ_=>pure (.str "abcdefghijklmnopqrstuvwxyz")) (gN 3)) (Z0 (sAsg .(l) (gN 4)) (Z0 (sFor (z0y (eFn 2 Z4 (z7 .(h) (z7 (λ_=>pure (.int 4)) aNil)))) (gN 5) (Z0 (sAsg (e2 fAdd (eVar 4) (e2 fIx (eVar 3) (eFn 2 Z4 (z7 .(h) (z7 (λ_=>pure (.int 26)) aNil))))) (gN 4)) bNil)) (Z0 (sAsg (eFn 2 Z4 (z7 .(h) (z7 (λ_=>pure (.int 26)) aNil))) (gN 6)) (Z0 (sAsg .(p) (gN 7)) (Z0 (sFor (z0y (λ_=>pure (.int 26))) (gN 5) (Z0 (sAsg (e2 fAdd (eVar 4) (e2 fIx (eVar 3) (e2 fMod (e2 fAdd (eVar 6) (eVar 5)) (λ_=>pure (.int 26))))) (gN 8)) (Z0 (sIf (cAnd (λγ=>do let d <- e2 (fIn true) (eVar 8) (eVar 7) γ;asB d) (λγ=>do let d <- e2 (fIn true) (eVar 8) (eVar 2) γ;asB d)) (Z0 (sRet (eVar 8)) bNil) bNil) bNil))) (Z0 (sRet (e2 fAdd (eVar 4) (λ_=>pure (.str "x")))) bNil)))))))
noncomputable def z33:List D->M D:=λds=>cln (runF 9 z1u ds)
noncomputable def z1E:G->M Out :=
 (Z0 (sAsg (λ_=>pure (.str "abcdefghijklmnopqrstuvwxyz")) (gN 2)) (Z0 (sAsg (λ_=>pure (.str "")) (gN 3)) (Z0 (sFor (z0y (clE (e2 fIx (eLst (z7 .(3) (z7 .(3) (z7 .(4) (z7 (λ_=>pure (.int 4)) aNil))))) (eFn 2 Z4 (z7 .(h) (z7 (λ_=>pure (.int 4)) aNil)))))) (gN 4) (Z0 (sAsg (e2 fAdd (eVar 3) (e2 fIx (eVar 2) (eFn 2 Z4 (z7 .(h) (z7 (λ_=>pure (.int 26)) aNil))))) (gN 3)) bNil)) (Z0 (sAsg (eLst aNil) (gN 5)) (Z0 (sFor (z0y .(l)) (gN 4) (Z0 (z15 (eM1 J2 (eVar 5) (eFn 3 z33 (z7 .(h) (z7 (eVar 3) (z7 (eVar 5) aNil)))))) bNil)) (Z0 (sRet (eVar 5)) bNil))))))
noncomputable def z2u:List D->M D:=λds=>cln (runF 6 z1E ds)
noncomputable def z18:G->M Out :=
 (Z0 (sAsg (e2 fAdd .(4) (eFn 2 Z4 (z7 .(h) (z7 (eVar 2) aNil)))) (gN 3)) (Z0 (sAsg (e2 fAdd .(4) (eFn 2 Z4 (z7 .(h) (z7 (λ_=>pure (.int 4)) aNil)))) (gN 4)) (Z0 (sAsg (eLst aNil) (gN 5)) (Z0 (sAsg (eLst aNil) (gN 6)) (Z0 (sFor (z0y (eVar 3)) (gN 7) (Z0 (z15 (eM1 J2 (eVar 5) (clE (Z6 z03 (z7 (x5 [some 0,some 4,none] (z0y (eVar 3)) (gN 2) (λγ=>do let d <- e2 fLt (eFn 2 Z4 (z7 .(h) (z7 (λ_=>pure (.int 6)) aNil))) .(l) γ;asB d) (eVar 2)) aNil))))) (Z0 (z15 (eM1 J2 (eVar 6) (clE (Z6 z03 (z7 (Z6 z1P (z7 (x5 [some 0,none] (v8 .(l)) (gN 1) (λγ=>do let d <- e2 (fEq false) (eFn 2 Z4 (z7 .(h) (z7 .(t) aNil))) .(4) γ;asB d) .(l)) aNil)) aNil))))) bNil))) (Z0 (sRet (eTup (z7 (Z6 z03 (z7 (eVar 5) aNil)) (z7 (Z6 z03 (z7 (eVar 6) aNil)) aNil)))) bNil))))))
noncomputable def z1K:List D->M D:=λds=>cln (runF 8 z18 ds)
noncomputable def z1Z:G->M Out :=
 (Z0 (sAsg (eLst (z7 (λ_=>pure .non) (z7 (λ_=>pure (.bl true)) (z7 (λ_=>pure (.bl false)) (z7 (λ_=>pure (.str "a")) (z7 (λ_=>pure (.str "")) (z7 (eNeg .(4)) (z7 (λ_=>pure (.int 40)) (z7 (e2 fAdd (e2 fPow (λ_=>pure (.int 10)) (λ_=>pure (.int 21))) (λ_=>pure (.int 3))) (z7 (eTup aNil) (z7 (eLst aNil) (z7 (eTup (z7 .(3) aNil)) (z7 (eLst (z7 .(3) aNil)) (z7 (λ_=>newK []) (z7 (λ_=>pure (.str "Aa")) (z7 (λ_=>pure (.str "no")) (z7 (λ_=>pure (.str "abcdefghi")) aNil))))))))))))))))) (gN 1)) (Z0 (sAsg (e2 fAdd .(l) (eLst (z7 (eTup (z7 (λ_=>pure (.str "a")) aNil)) (z7 .(3) (z7 .(4) (z7 (λ_=>pure (.str "b c")) (z7 (eTup (z7 .(3) (z7 .(3) aNil))) (z7 (z5a (λ_=>pure (.str "a")) .(4)) (z7 (λ_=>pure (.str "z")) aNil))))))))) (gN 1)) (Z0 (sRet (e2 fIx .(l) (eFn 2 Z4 (z7 .(h) (z7 (λ_=>pure (.int 23)) aNil))))) bNil)))
noncomputable def z13:List D->M D:=λds=>cln (runF 2 z1Z ds)
noncomputable def z27 (mS:List D->M D):G->M Out :=
 (Z0 (sIf (cAnd (cVal (eIsi "tuple" .(l))) (cAnd (λγ=>do let d <- e2 fGt (Z6 fLen (z7 .(l) aNil)) .(3) γ;asB d) (cAnd (λγ=>do let d <- e2 fGt (eVar 2) .(3) γ;asB d) (λγ=>do let d <- e2 fGt (eFn 2 Z4 (z7 .(h) (z7 (λ_=>pure (.int 6)) aNil))) .(3) γ;asB d)))) (Z0 (sAsg (eFn 2 Z4 (z7 .(h) (z7 (Z6 fLen (z7 .(l) aNil)) aNil))) (gN 3)) (Z0 (sRet (e2 fAdd (e2 fAdd (z01 .(l) z1c (z12 (eVar 3))) (eTup (z7 (eFn 3 mS (z7 .(h) (z7 (e2 fIx .(l) (eVar 3)) (z7 (e2 fSub (eVar 2) .(4)) aNil)))) aNil))) (z01 .(l) (z12 (e2 fAdd (eVar 3) .(4))) z1c))) bNil)) bNil) (Z0 (sAsg (eFn 2 Z4 (z7 .(h) (z7 (λ_=>pure (.int 3)) aNil))) (gN 4)) (Z0 (sIf (cAnd (cVal (eIsi "tuple" .(l))) (λγ=>do let d <- e2 fGt (eVar 4) .(3) γ;asB d)) (Z0 (sAsg (eFn 2 Z4 (z7 .(h) (z7 (λ_=>pure (.int 6)) aNil))) (gN 5)) (Z0 (sIf (λγ=>do let d <- e2 (fEq false) (eVar 5) .(3) γ;asB d) (Z0 (sRet (Z6 z5M (z7 .(l) aNil))) bNil) bNil) (Z0 (sIf (λγ=>do let d <- e2 (fEq false) (eVar 5) .(4) γ;asB d) (Z0 (sRet (e2 fAdd .(l) (eTup (z7 (eFn 1 z13 (z7 .(h) aNil)) aNil)))) bNil) bNil) (Z0 (sRet (e2 fIx (eLst (z7 (z01 .(l) z1c (z12 (eNeg .(4)))) (z7 (eRev .(l) (eNeg .(4))) (z7 (e2 fAdd .(l) (z01 .(l) (z12 (eNeg .(4))) z1c)) (z7 (z01 .(l) (z12 .(4)) z1c) aNil))))) (e2 fSub (eVar 5) .(t)))) bNil)))) bNil) (Z0 (sIf (cAnd (cVal (eIsi "int" .(l))) (cAnd (cNot (cVal (eIsi "bool" .(l)))) (λγ=>do let d <- e2 fGt (eVar 4) .(3) γ;asB d))) (Z0 (sRet (e2 fAdd .(l) (e2 fIx (eLst (z7 .(4) (z7 (eNeg .(4)) (z7 .(t) (z7 (e2 fSub .(3) .(l)) aNil))))) (eFn 2 Z4 (z7 .(h) (z7 (λ_=>pure (.int 4)) aNil)))))) bNil) bNil) (Z0 (sRet (eFn 1 z13 (z7 .(h) aNil))) bNil)))))
noncomputable def z0D:Nat->List D->M D
 | 0=>λ_=>bad
 | k+1=>runF 6 (z27 (z0D k))
theorem sc__law_bent:FnScope ["_law_pool_here","_law_thing","_law_deep","_law_at","_law_way","_law_turn"] ["_law_pool_here","_law_thing","_law_deep"] (y6 (top 30)):=⟨rfl,rfl,rfl,by decide +kernel,rfl,by decide +kernel,by decide +kernel⟩
noncomputable def z1o:G->M Out :=
 (Z0 (sRet (eAnd (eIsi "int" .(h)) (eAnd (eNot (eIsi "bool" .(h))) (e3 fLe fLt .(l) .(h) (eVar 2))))) bNil)
noncomputable def z0r:List D->M D:=λds=>cln (runF 3 z1o ds)
noncomputable def z1F:G->M Out :=
 (Z0 (sRet (eAnd (eIsi "tuple" .(h)) (e3 fLe fLe .(l) (Z6 fLen (z7 .(h) aNil)) (eVar 2)))) bNil)
noncomputable def z0l:List D->M D:=λds=>cln (runF 3 z1F ds)
noncomputable def z08:G->M Out :=
 (Z0 (sAsg .(p) (gN 1)) (Z0 (sIf (cOr (cNot (cVal (eIsi "str" .(h)))) (cOr (λγ=>do let d <- e2 fLt (Z6 fLen (z7 .(h) aNil)) .(4) γ;asB d) (cOr (λγ=>do let d <- e2 fGt (Z6 fLen (z7 .(h) aNil)) (λ_=>pure (.int 8)) γ;asB d) (λγ=>do let d <- e2 (fIn false) .(h) .(l) γ;asB d)))) .(n) bNil) (Z0 (sRet (clE (e2 (fEqX false) (x5 [none] (iStr .(h)) (gN 0) (λγ=>do let d <- e2 (fInT true) .(h) (λ_=>pure (.str "abcdefghijklmnopqrstuvwxyz")) γ;asB d) .(h)) (eLst aNil)))) bNil)))
noncomputable def z1i:List D->M D:=λds=>cln (runF 2 z08 ds)
noncomputable def z1I:G->M Out :=
 (Z0 (sRet (eAnd (eIsi "bool" .(h)) (e2 (fEqX false) .(h) .(l)))) bNil)
noncomputable def z1a:List D->M D:=λds=>cln (runF 2 z1I ds)
noncomputable def z0k:G->M Out :=
 (Z0 (sAsg (Z6 J4 (z7 (Z6 z0h (z7 .(h) aNil)) aNil)) (gN 1)) (Z0 (sRet (clE (Z6 z03 (z7 (x5 [some 1,none] (v8 .(h)) (gN 1) (λ_=>pure true) (orE (eM1 z2y .(h) .(l)) (z4Q .(h) .(l)))) aNil)))) bNil))
noncomputable def z00:List D->M D:=λds=>cln (runF 2 z0k ds)
noncomputable def z1p:G->M Out :=
 (Z0 (sAsg (Z6 fLen (z7 (e2 fIx .(h) .(3)) aNil)) (gN 2)) (Z0 (sIf (cNot (cVal (eFn 3 z0l (z7 .(l) (z7 (eVar 2) (z7 (eVar 2) aNil)))))) .(n) bNil) (Z0 (sAsg .(3) (gN 3)) (Z0 (sFor (z0c .(l)) (gN 4) (Z0 (sIf (cNot (cVal (eFn 3 z0r (z7 (eVar 4) (z7 .(3) (z7 (e2 fAdd (eVar 3) .(4)) aNil)))))) .(n) bNil) (Z0 (sAsg (Z6 zi9 (z7 (eVar 3) (z7 (e2 fAdd (eVar 4) .(4)) aNil))) (gN 3)) bNil))) (Z0 (sFor (z0y (eVar 2)) (gN 4) (Z0 (sAsg (orE (eM1 z2y .(l) (e2 fIx .(l) (eVar 4))) (z4Q .(l) (e2 fIx .(l) (eVar 4)))) (gN 5)) (Z0 (sIf (λγ=>do let d <- e2 (fEqX true) (e2 fIx (e2 fIx .(h) .(4)) (eVar 4)) (e2 fIx (e2 fIx .(h) .(4)) (eVar 5)) γ;asB d) .(n) bNil) (Z0 (sAsg (Z6 J4 (z7 (Z6 z0h (z7 (x5 [some 1,none] (z0c (e2 fIx (e2 fIx .(h) .(3)) (eVar 4))) (gN 1) (λ_=>pure true) (e2 fIx .(h) .(l))) aNil)) aNil)) (gN 6)) (Z0 (sIf (clT (λγ=>do let d <- e2 (fEqX true) (eVar 6) (Z6 J4 (z7 (Z6 z0h (z7 (x5 [some 1,none] (z0c (e2 fIx (e2 fIx .(h) .(3)) (eVar 5))) (gN 1) (λ_=>pure true) (e2 fIx .(h) .(l))) aNil)) aNil)) γ;asB d)) .(n) bNil) bNil))))) (Z0 (sRet (λ_=>pure (.bl true))) bNil))))))
noncomputable def z23:List D->M D:=λds=>cln (runF 7 z1p ds)
noncomputable def z0I:G->M Out :=
 (Z0 (sAsg (eLst aNil) (gN 4)) (Z0 (sFor (z0y (Z6 fLen (z7 .(l) aNil))) (gN 5) (Z0 (sIf (cAnd (cVal (eIsi "str" (eVar 3))) (λγ=>do let d <- e2 (fIn false) (eVar 3) (e2 fIx (e2 fIx .(h) .(4)) (eVar 5)) γ;asB d)) (Z0 (z15 (eM1 J2 (eVar 4) (eVar 5))) bNil) bNil) (Z0 (sIf (cAnd (cNot (cVal (eIsi "str" (eVar 3)))) (clT (λγ=>do let d <- e2 (fIn false) (eVar 3) (x5 [some 1,none] (z0c (e2 fIx (e2 fIx .(h) .(3)) (eVar 5))) (gN 1) (λ_=>pure true) (e2 fIx .(h) .(l))) γ;asB d))) (Z0 (z15 (eM1 J2 (eVar 4) (eVar 5))) bNil) bNil) bNil))) (Z0 (z2d 6 [some 1,some 2,none] (z0y (Z6 fLen (z7 .(l) aNil))) (gN 2) (λγ=>do let d <- e2 (fEqX false) (e2 fIx .(h) (eVar 2)) .(l) γ;asB d) (eVar 2)) (Z0 (z2d 7 [some 4,none] (v8 (eVar 6)) (gN 1) (λγ=>do let d <- e2 (fIn false) .(l) .(h) γ;asB d) .(l)) (Z0 (z2d 8 [some 4,none] (v8 (eVar 6)) (gN 1) (λγ=>do let d <- e2 (fIn true) .(l) .(h) γ;asB d) .(l)) (Z0 (sIf (cOr (λγ=>do let d <- e2 (fEq false) (Z6 fLen (z7 (eVar 7) aNil)) .(3) γ;asB d) (λγ=>do let d <- e2 (fEq false) (Z6 fLen (z7 (eVar 8) aNil)) .(3) γ;asB d)) (Z0 (sRet (λ_=>pure .non)) bNil) bNil) (Z0 (sAsg (Z6 z5M (z7 .(l) aNil)) (gN 9)) (Z0 (sFor (v8 (eVar 7)) (gN 5) (Z0 (sAsg (e2 fIx (eVar 7) .(3)) (gIx (eVar 9) (eVar 5))) bNil)) (Z0 (sFor (v8 (eVar 8)) (gN 5) (Z0 (sAsg (e2 fIx (eVar 8) .(3)) (gIx (eVar 9) (eVar 5))) bNil)) (Z0 (sRet (eVar 9)) bNil))))))))))
noncomputable def Y3:List D->M D:=λds=>cln (runF 10 z0I ds)
noncomputable def z0m:G->M Out :=
 (Z0 (z2d 2 [none] (z0c (e2 fIx .(h) .(3))) (gN 0) (λ_=>pure true) .(3)) (Z0 (sIf (cNot (cVal (eIsi "tuple" .(l)))) (Z0 (sRet (λ_=>pure .non)) bNil) bNil) (Z0 (sFor (z0c .(l)) (gN 3) (Z0 (sIf (cOr (cNot (cVal (eFn 3 z0l (z7 (eVar 3) (z7 .(t) (z7 .(t) aNil)))))) (cNot (cVal (eFn 3 z0r (z7 (e2 fIx (eVar 3) .(3)) (z7 .(3) (z7 (Z6 fLen (z7 (eVar 2) aNil)) aNil))))))) (Z0 (sRet (λ_=>pure .non)) bNil) bNil) (Z0 (sIf (cNot (cVal (eFn 1 z1i (z7 (e2 fIx (eVar 3) .(4)) aNil)))) (Z0 (sIf (cOr (cNot (cVal (eFn 3 z0r (z7 (e2 fIx (eVar 3) .(4)) (z7 .(3) (z7 (Z6 fLen (z7 (eVar 2) aNil)) aNil)))))) (λγ=>do let d <- e2 (fEqX true) (e2 fIx (eVar 2) (e2 fIx (eVar 3) .(4))) (e2 fIx (eVar 3) .(4)) γ;asB d)) (Z0 (sRet (λ_=>pure .non)) bNil) bNil) bNil) bNil) (Z0 (sAsg (eFn 4 Y3 (z7 .(h) (z7 (eVar 2) (z7 (e2 fIx (eVar 3) .(3)) (z7 (e2 fIx (eVar 3) .(4)) aNil))))) (gN 2)) (Z0 (sIf (λγ=>do let d <- e2 (fIs false) (eVar 2) (λ_=>pure .non) γ;asB d) (Z0 (sRet (λ_=>pure .non)) bNil) bNil) bNil))))) (Z0 (sRet (eVar 2)) bNil))))
noncomputable def z0W:List D->M D:=λds=>cln (runF 4 z0m ds)
noncomputable def x8:G->M Out :=
 (Z0 (sIf (cOr (cNot (cVal (eFn 3 z0l (z7 .(l) (z7 .(t) (z7 .(t) aNil)))))) (cNot (cVal (eFn 2 z23 (z7 .(h) (z7 (e2 fIx .(l) .(3)) aNil)))))) .(n) bNil) (Z0 (sAsg (eFn 2 z0W (z7 .(h) (z7 (e2 fIx .(l) .(4)) aNil))) (gN 2)) (Z0 (sRet (eAnd (e2 (fIs true) (eVar 2) (λ_=>pure .non)) (e2 (fEqX false) (eFn 1 z00 (z7 (eVar 2) aNil)) (e2 fIx .(l) .(3))))) bNil)))
noncomputable def z0w:List D->M D:=λds=>cln (runF 3 x8 ds)
noncomputable def z1s:G->M Out :=
 (Z0 (sAsg (eRng false (Z6 fLen (z7 (e2 fIx .(l) .(3)) aNil))) (gN 3)) (Z0 (sFor (z0y (eFn 2 Z4 (z7 .(h) (z7 (e2 fAdd (eVar 2) .(4)) aNil)))) (gN 4) (Z0 (z15 (eM1 J2 (eVar 3) (eFn 2 Z4 (z7 .(h) (z7 (Z6 fLen (z7 (e2 fIx .(l) .(3)) aNil)) aNil))))) bNil)) (Z0 (sAsg (eLst aNil) (gN 5)) (Z0 (sFor (z0y (Z6 fLen (z7 (eVar 3) aNil))) (gN 4) (Z0 (z15 (eM1 J2 (eVar 5) (eM1 z3k (eVar 3) (eFn 2 Z4 (z7 .(h) (z7 (Z6 fLen (z7 (eVar 3) aNil)) aNil)))))) bNil)) (Z0 (sAsg (eLst aNil) (gN 6)) (Z0 (sFor (orE (z0c (eVar 5)) (v8 (eVar 5))) (gN 7) (Z0 (sAsg (eLst aNil) (gN 8)) (Z0 (sFor (orE (z0c (e2 fIx (e2 fIx .(l) .(3)) (eVar 7))) (v8 (e2 fIx (e2 fIx .(l) .(3)) (eVar 7)))) (gN 9) (Z0 (z2d 10 [some 5,some 9,none] (z0y (Z6 fLen (z7 (eVar 5) aNil))) (gN 2) (λγ=>do let d <- e2 (fEqX false) (e2 fIx .(h) (eVar 2)) .(l) γ;asB d) (eVar 2)) (Z0 (sAsg (e2 fIx (eVar 10) (eFn 2 Z4 (z7 .(h) (z7 (Z6 fLen (z7 (eVar 10) aNil)) aNil)))) (gN 11)) (Z0 (sAsg (e2 fAdd (eVar 8) (x5 [some 11,some 0,none] (orE (z0c (eVar 10)) (v8 (eVar 10))) (gN 2) (cOr (λγ=>do let d <- e2 (fEqX false) (eVar 2) .(h) γ;asB d) (λγ=>do let d <- e2 (fEq false) (eFn 2 Z4 (z7 .(l) (z7 (λ_=>pure (.int 3)) aNil))) .(3) γ;asB d)) (eVar 2))) (gN 8)) bNil)))) (Z0 (z15 (eM1 J2 (eVar 6) (clE (Z6 z03 (z7 (Z6 z1P (z7 (eVar 8) aNil)) aNil))))) bNil)))) (Z0 (sRet (eTup (z7 (eTup (z7 (Z6 z03 (z7 (eVar 6) aNil)) (z7 (clE (Z6 z03 (z7 (x5 [some 1,none] (orE (z0c (eVar 5)) (v8 (eVar 5))) (gN 1) (λ_=>pure true) (e2 fIx (e2 fIx .(h) .(4)) .(l))) aNil))) aNil))) (z7 (eVar 5) aNil)))) bNil)))))))
noncomputable def z21:List D->M D:=λds=>cln (runF 12 z1s ds)
noncomputable def z0A:G->M Out :=
 (Z0 (z2d 3 [none] (orE (z0c (e2 fIx .(l) .(3))) (v8 (e2 fIx .(l) .(3)))) (gN 0) (λ_=>pure true) .(3)) (Z0 (sAsg (eLst aNil) (gN 4)) (Z0 (sFor (z0y (Z6 fLen (z7 (eVar 3) aNil))) (gN 5) (Z0 (sAsg (eLst aNil) (gN 6)) (Z0 (sFor (v8 .(s)) (gN 7) (Z0 (sFor (orE (z0c (e2 fAdd (eVar 2) .(s))) (v8 (e2 fAdd (eVar 2) .(s)))) (gN 8) (Z0 (sIf (λγ=>do let d <- e2 (fIs true) (eFn 4 Y3 (z7 .(l) (z7 (eVar 3) (z7 (eVar 7) (z7 (eVar 8) aNil))))) (λ_=>pure .non) γ;asB d) (Z0 (z15 (eM1 J2 (eVar 6) (eTup (z7 (eVar 7) (z7 (eVar 8) aNil))))) bNil) bNil) bNil)) bNil)) (Z0 (sIf (λγ=>do let d <- e2 fGt (Z6 fLen (z7 (eVar 6) aNil)) .(3) γ;asB d) (Z0 (z15 (eM1 J2 (eVar 4) (e2 fIx (eVar 6) (eFn 2 Z4 (z7 .(h) (z7 (Z6 fLen (z7 (eVar 6) aNil)) aNil)))))) (Z0 (sAsg (eFn 4 Y3 (z7 .(l) (z7 (eVar 3) (z7 (e2 fIx (e2 fIx (eVar 4) (eNeg .(4))) .(3)) (z7 (e2 fIx (e2 fIx (eVar 4) (eNeg .(4))) .(4)) aNil))))) (gN 3)) bNil)) bNil) bNil)))) (Z0 (sRet (eTup (z7 (eFn 1 z00 (z7 (eVar 3) aNil)) (z7 (Z6 z03 (z7 (eVar 4) aNil)) aNil)))) bNil))))
noncomputable def z1d:List D->M D:=λds=>cln (runF 9 z0A ds)
noncomputable def z17:G->M Out :=
 (Z0 (sAsg (eVar 4) (gT 2 (z0Y (gN 5) (z0Y (gN 6) z4W)))) (Z0 (sAsg (eFn 2 Z4 (z7 .(h) (z7 (e2 fAdd (Z6 fLen (z7 (eVar 6) aNil)) .(4)) aNil))) (gN 7)) (Z0 (sAsg (eFn 2 Z4 (z7 .(h) (z7 (e2 fAdd (Z6 fLen (z7 (eVar 6) aNil)) .(4)) aNil))) (gN 8)) (Z0 (sIf (cAnd (λγ=>do let d <- e2 (fEq false) .(l) .(4) γ;asB d) (λγ=>do let d <- e2 fLt (eVar 7) (eVar 8) γ;asB d)) (Z0 (sRet (eTup (z7 (eFn 1 z00 (z7 (eFn 2 z0W (z7 (eVar 2) (z7 (z01 (eVar 6) z1c (z12 (eNeg .(4)))) aNil))) aNil)) (z7 (z01 (eVar 6) z1c (z12 (eNeg .(4)))) aNil)))) bNil) bNil) (Z0 (sIf (λγ=>do let d <- e2 (fEq false) .(l) .(4) γ;asB d) (Z0 (sRet (eTup (z7 (eVar 5) (z7 (z01 (eVar 6) z1c (z12 (eNeg .(4)))) aNil)))) bNil) bNil) (Z0 (sIf (λγ=>do let d <- e2 (fEq false) .(l) .(t) γ;asB d) (Z0 (sRet (eTup (z7 (eVar 5) (z7 (e2 fAdd (z01 (eVar 6) z1c (z12 (eVar 7))) (eRev (z01 (eVar 6) (z12 (eVar 7)) z1c) (eNeg .(4)))) aNil)))) bNil) bNil) (Z0 (sIf (λγ=>do let d <- e2 (fEq false) .(l) (λ_=>pure (.int 3)) γ;asB d) (Z0 (sRet (eTup (z7 (eVar 5) (z7 (e2 fAdd (z01 (eVar 6) z1c (z12 (eVar 7))) (z01 (eVar 6) (z12 (eVar 8)) z1c)) aNil)))) bNil) bNil) (Z0 (sIf (λγ=>do let d <- e2 (fEq false) .(l) (λ_=>pure (.int 4)) γ;asB d) (Z0 (sRet (eTup (z7 (eFn 1 z00 (z7 (x5 [some 0,none] (orE (z0c (eVar 5)) (v8 (eVar 5))) (gN 1) (λ_=>pure true) (eFn 2 Z4 (z7 .(h) (z7 (λ_=>pure (.int 3)) aNil)))) aNil)) (z7 (eVar 6) aNil)))) bNil) bNil) (Z0 (sIf (cOr (λγ=>do let d <- e2 fGt .(l) (λ_=>pure (.int 6)) γ;asB d) (λγ=>do let d <- e2 (fEqX false) (eVar 7) (Z6 fLen (z7 (eVar 6) aNil)) γ;asB d)) (Z0 (sRet (eFn 3 (z0D 4) (z7 .(h) (z7 (eVar 4) (z7 (λ_=>pure (.int 3)) aNil))))) bNil) bNil) (Z0 (sAsg (eTup (z7 (eFn 2 Z4 (z7 .(h) (z7 (Z6 fLen (z7 (eVar 5) aNil)) aNil))) (z7 (e2 fIx (e2 fIx (eVar 6) (eVar 7)) .(4)) aNil))) (gN 9)) (Z0 (sIf (λγ=>do let d <- e2 (fEq false) .(l) (λ_=>pure (.int 5)) γ;asB d) (Z0 (sAsg (eTup (z7 (e2 fIx (e2 fIx (eVar 6) (eVar 7)) .(3)) (z7 (e2 fIx (e2 fAdd (eLst (z7 .(3) (z7 .(4) (z7 (λ_=>pure (.str "unborne")) (z7 (λ_=>pure (.str "")) (z7 (λ_=>pure (.str "yes")) aNil)))))) (eVar 3)) (eFn 2 Z4 (z7 .(h) (z7 (e2 fAdd (λ_=>pure (.int 5)) (Z6 fLen (z7 (eVar 3) aNil))) aNil)))) aNil))) (gN 9)) bNil) bNil) (Z0 (sRet (eTup (z7 (eVar 5) (z7 (e2 fAdd (e2 fAdd (z01 (eVar 6) z1c (z12 (eVar 7))) (eTup (z7 (eVar 9) aNil))) (z01 (eVar 6) (z12 (e2 fAdd (eVar 7) .(4))) z1c)) aNil)))) bNil))))))))))))
noncomputable def z1M:List D->M D:=runF 10 z17
noncomputable def zr5:G->M Out :=
 (Z0 (sAsg (eFn 1 z2Z (z7 .(h) aNil)) (gN 1)) (Z0 (sAsg (eFn 2 Z4 (z7 .(l) (z7 (λ_=>pure (.int 9)) aNil))) (gN 2)) (Z0 (sAsg (eFn 2 z2u (z7 .(l) (z7 (eFn 2 Z4 (z7 .(l) (z7 (λ_=>pure (.int 4)) aNil))) aNil))) (gN 3)) (Z0 (sAsg (eFn 3 z21 (z7 .(l) (z7 (eFn 3 z1K (z7 .(l) (z7 (eVar 3) (z7 (λ_=>pure (.int 4)) aNil)))) (z7 (λ_=>pure (.int 4)) aNil)))) (gT 2 (z0Y (gN 4) (z0Y (gN 5) z4W)))) (Z0 (sAsg (eFn 3 z1d (z7 .(l) (z7 (eVar 4) (z7 (eVar 3) aNil)))) (gN 6)) (Z0 (sAsg (eVar 6) (gN 7)) (Z0 (sIf (λγ=>do let d <- e2 fGt (eVar 2) .(3) γ;asB d) (Z0 (sAsg (eFn 5 z1M (z7 .(l) (z7 (eVar 2) (z7 (eVar 4) (z7 (eVar 3) (z7 (eVar 6) aNil)))))) (gN 7)) bNil) bNil) (Z0 (sIf (λγ=>do let d <- e2 (fEq false) (eVar 2) (λ_=>pure (.int 8)) γ;asB d) (Z0 (sAsg (eFn 3 (z0D 4) (z7 .(l) (z7 (eVar 7) (z7 (λ_=>pure (.int 3)) aNil)))) (gN 7)) bNil) bNil) (Z0 (sAsg (Z6 z7z (z7 (eVar 7) aNil)) (gN 8)) (Z0 (sAsg (eFn 2 z0w (z7 (eVar 4) (z7 (eVar 7) aNil))) (gN 9)) (Z0 (sIf (cOr (cNot (cVal (eFn 2 z1a (z7 (eFn 2 z0J (z7 (eVar 4) (z7 (eVar 7) aNil))) (z7 (eVar 9) aNil))))) (λγ=>do let d <- e2 (fEqX true) (Z6 z7z (z7 (eVar 7) aNil)) (eVar 8) γ;asB d)) .(n) bNil) (Z0 (sRet (eFn 2 z1a (z7 (eFn 2 z0J (z7 (eVar 4) (z7 (eVar 6) aNil))) (z7 (λ_=>pure (.bl true)) aNil)))) bNil))))))))))))
noncomputable def m_law:List D->M D:=runF 10 zr5
section
structure SS (K:K6) (mg:Str->Option Value) where
 Uzz:∀n,Mx K mg n
 Uaa:DefAt K "is_number" (top 3)
 Uab:mg "bool" = none
 Uac:mg "int" = none
 Uad:mg "isinstance" = none
 Uae:DefAt K "is_number_from" (top 4)
 Uaf:DefAt K "is_text" (top 5)
 Uag:mg "str" = none
 Uah:DefAt K "is_name" (top 6)
 Uai:Cst K mg "KEPT" c_KEPT
 Uaj:Cst K mg "LONGEST" c_LONGEST
 Uak:mg "all" = none
 Ual:mg "len" = none
 Uam:DefAt K "is_tuple" (top 7)
 Uan:mg "tuple" = none
 Uao:DefAt K "is_tuple_of" (top 8)
 Uap:DefAt K "set_of" (top 10)
 Uaq:mg "set" = none
 Uar:mg "sorted" = none
 Uas:DefAt K "bears" (top 12)
 Uat:DefAt K "first_blocks" (top 14)
 Uau:mg "range" = none
 Uav:DefAt K "belongs" (top 16)
 Uaw:mg "any" = none
 Uax:DefAt K "parted" (top 15)
 Uay:DefAt K "cut_up" (top 17)
 Uaz:DefAt K "row_of" (top 18)
 Uba:mg "enumerate" = none
 Ubb:DefAt K "led_to" (top 22)
 Ubc:DefAt K "is_steady" (top 21)
 Ubd:DefAt K "is_cut" (top 20)
 Ube:DefAt K "right_classes" (top 19)
 Ubf:DefAt K "_law_pool" (top 24)
 Ubg:DefAt K "_law_draw" (top 25)
 Ubh:DefAt K "_law_name" (top 26)
 Ubi:DefAt K "_law_names" (top 27)
 Ubj:DefAt K "_law_machine" (top 28)
 Ubk:DefAt K "_law_odd" (top 29)
 Ubl:DefAt K "_law_bent" (top 30)
 Ubm:mg "list" = none
 Ubn:DefAt K "_law_number" (top 31)
 Ubo:DefAt K "_law_tuple" (top 32)
 Ubp:DefAt K "_law_good_name" (top 33)
 Ubq:DefAt K "_law_truth" (top 34)
 Ubr:DefAt K "_law_numbered" (top 35)
 Ubs:DefAt K "_law_steady" (top 36)
 Ubt:mg "max" = none
 Ubu:DefAt K "_law_halved" (top 37)
 Ubv:DefAt K "_law_cuts_end" (top 38)
 Ubw:DefAt K "_law_classes_right" (top 39)
 Ubx:DefAt K "_law_copies" (top 40)
 Uby:DefAt K "_law_made_cuts" (top 41)
 Ubz:DefAt K "_law_changed" (top 42)
 Uca:mg "repr" = none
variable (ZS:SS K mg)
include ZS
theorem z2v:Fn P w K mg base 1 "is_number" 1 z0o :=
 dfC ["thing"] z25 ZS.Uaa (ZS.Uzz _) .(2) rfl .(i) λhcd hr nd =>
  (z8 (y0 (z1f (z1b rfl ZS.Uad rfl ZS.Uac .(2) .(1) (z0 0)) (z2e (zi6 (z1b rfl ZS.Uad rfl ZS.Uab .(2) .(1) (z0 0)))))) Z3)
theorem z3F:Fn P w K mg base 2 "is_number_from" 3 z1g :=
 dfC ["thing","least","most"] z0z ZS.Uae (ZS.Uzz _) .(2) rfl .(e) λhcd hr nd =>
  (z8 (y0 (z1f (Z5 (z2v ZS) (hr.mono .(1)) rfl (z6 (z0 0) z9)) (z2e (zb2 z4p z4p (z0 1) (z0 0) (z0 2))))) Z3)
theorem z9w:Fn P w K mg base 1 "is_text" 1 z2w :=
 dfC ["thing"] z20 ZS.Uaf (ZS.Uzz _) .(2) rfl .(i) λhcd hr nd =>
  (z8 (y0 (z1b rfl ZS.Uad rfl ZS.Uag .(2) .(1) (z0 0))) Z3)
theorem z9t:Fn P w K mg base 2 "is_name" 1 z1B :=
 dfC ["thing"] z1Y ZS.Uah (ZS.Uzz _) .(2) rfl .(i) λhcd hr nd =>
  (z8 (s_if (SW.sc (z3G (z0t (x9 (Z5 (z9w ZS) (hr.mono .(1)) rfl (z6 (z0 0) z9)))) (z2s (z0t (Z0W z4p z4p Z1 (J5 rfl ZS.Ual (z6 (z0 0) z9)) (zx9 ZS.Uaj rfl)))))) (z8 (y0 z2m) Z3) Z3) (z8 (y0 (z1f (se_c z3g (z0 0) (zx9 ZS.Uai rfl)) (z2e (z1G (zw5 rfl rfl ZS.Uak (z6 (z02 (N':=["sign"]) (cap:=[none]) rfl .(8) (zw9 rfl (z0 0)) (λ_ _ _ _=>(j7 0 (show (["sign"]:List Str).Nodup by decide +kernel))) (λ_ _ _ _=>z0p) (λ_ _ _ _=>(zb2 z4p z4p y3 (z0 0) y3))) z9)))))) Z3))
theorem z4V:Fn P w K mg base 1 "is_tuple" 1 z1X :=
 dfC ["thing"] z2O ZS.Uam (ZS.Uzz _) .(2) rfl .(i) λhcd hr nd =>
  (z8 (y0 (z1b rfl ZS.Uad rfl ZS.Uan .(2) .(1) (z0 0))) Z3)
theorem z1R:Fn P w K mg base 2 "is_tuple_of" 3 z0H :=
 dfC ["thing","least","most"] z1r ZS.Uao (ZS.Uzz _) .(2) rfl .(e) λhcd hr nd =>
  (z8 (y0 (z1f (Z5 (z4V ZS) (hr.mono .(1)) rfl (z6 (z0 0) z9)) (z2e (zb2 z4p z4p (z0 1) (J5 rfl ZS.Ual (z6 (z0 0) z9)) (z0 2))))) Z3)
theorem zj7:Fn P w K mg base 1 "set_of" 1 z4j :=
 dfC ["standings"] z4e ZS.Uap (ZS.Uzz _) .(2) rfl .(i) λhcd hr nd =>
  (z8 (y0 (z1G (z0s rfl ZS.Uan (z6 (z16 rfl rfl ZS.Uar (z6 (z2a rfl rfl ZS.Uaq (z6 (z0 0) z9)) z9)) z9)))) Z3)
theorem zo0:Fn P w K mg base 1 "bears" 3 z5B :=
 dfC ["machine","standing","name"] z5T ZS.Uas (ZS.Uzz _) .(2) rfl .(e) λhcd hr nd =>
  (z8 (y0 (zx5 (se_c z31 (z0 2) y3) (z2e (se_c z9l (z0 2) (Z9 (Z9 (z0 0) Z1) (z0 1)))))) Z3)
theorem z4U:Fn P w K mg base 1 "first_blocks" 1 z1J :=
 dfC ["machine"] z0x ZS.Uat (ZS.Uzz _) .(2) rfl .(i) λhcd hr nd =>
  (z8 (y0 (z8I Z1 (zC7 rfl rfl ZS.Uan rfl ZS.Uau (J5 rfl ZS.Ual (z6 (Z9 (z0 0) Z1) z9))))) Z3)
theorem z9G:Fn P w K mg base 2 "belongs" 4 z4q :=
 dfC ["machine","blocks","standing","by"] z38 ZS.Uav (ZS.Uzz _) .(2) rfl (λ_ _ _ _ _ _ us hl=>(by obtain⟨_,_,_,_,rfl⟩:=ar4 hl;rfl)) λhcd hr nd =>
  (z8 (s_if (x9 (z1b rfl ZS.Uad rfl ZS.Uag .(2) .(1) (z0 3))) (z8 (y0 (Z5 (zo0 ZS) (hr.mono .(1)) rfl (z6 (z0 0) (z6 (z0 2) (z6 (z0 3) z9))))) Z3) Z3) (z8 (y0 (z1G (zW1 rfl rfl ZS.Uaw (z6 (z02 (N':=["blocks","by","other"]) (cap:=[some 1,some 3,none]) rfl .(8) (z0F (Z9 (Z9 (z0 0) Z1) (z0 2))) (λ_ _ _ _=>(j7 2 (show (["blocks","by","other"]:List Str).Nodup by decide +kernel))) (λ_ _ _ _=>z0p) (λ_ _ _ _=>(se_c z9l (z0 2) (z3O (z6b hr) (z0 0) (z0 1))))) z9)))) Z3))
theorem z6O:Fn P w K mg base 3 "parted" 4 z45 :=
 dfC ["machine","blocks","block","by","yes","no"] z3e ZS.Uax (ZS.Uzz _) .(2) rfl (λ_ _ _ _ _ _ us hl=>(by obtain⟨_,_,_,_,rfl⟩:=ar4 hl;rfl)) λhcd hr nd =>
  (z8 (y9 4 nd (z1G (z0s rfl ZS.Uan (z6 (z02 (N':=["machine","blocks","by","standing"]) (cap:=[some 0,some 1,some 3,none]) rfl .(8) (z0F (z0 2)) (λ_ _ _ _=>(j7 3 (show (["machine","blocks","by","standing"]:List Str).Nodup by decide +kernel))) (λ_ _ _ _=>(z11 (x9 (Z5 (z9G ZS) (hr.mono .(1)) rfl (z6 (z0 0) (z6 (z0 1) (z6 (z0 3) (z6 (z0 2) z9)))))))) (λ_ _ _ _=>(z0 3))) z9)))) (z8 (y9 5 nd (z1G (z0s rfl ZS.Uan (z6 (z02 (N':=["yes","standing"]) (cap:=[some 4,none]) rfl .(8) (z0F (z0 2)) (λ_ _ _ _=>(j7 1 (show (["yes","standing"]:List Str).Nodup by decide +kernel))) (λ_ _ _ _=>(z11 (sc_c z3g (z0 1) (z0 0)))) (λ_ _ _ _=>(z0 1))) z9)))) (z8 (y0 (z02 (N':=["part"]) (cap:=[none]) rfl .(8) (z0F (z0u (z6 (z0 4) (z6 (z0 5) z9)))) (λ_ _ _ _=>(j7 0 (show (["part"]:List Str).Nodup by decide +kernel))) (λ_ _ _ _=>(z11 (sc_c z40 (J5 rfl ZS.Ual (z6 (z0 0) z9)) Z1))) (λ_ _ _ _=>(z0 0)))) Z3)))
theorem zk9:Fn P w K mg base 4 "cut_up" 3 z5w :=
 dfC ["machine","blocks","cut","least","by","told","part"] z2H ZS.Uay (ZS.Uzz _) .(2) rfl .(e) λhcd hr nd =>
  (z8 (z4K (z0 2) (z5d rfl (z0B (y8 3 nd) (z0B (y8 4 nd) z3L)))) (z8 (zI2 5 (N':=["blocks","one"]) (cap:=[some 1,none]) rfl .(8) (zV0 (z0 1)) (λ_ _ _ _=>(j7 1 (show (["blocks","one"]:List Str).Nodup by decide +kernel))) (λ_ _ _ _=>z0p) (λ_ _ _ _=>(z0 1)) (λ_ _ _ _=>(z3O (z6b hr) (z0 0) (z0 1))) nd) (z8 (z1Q K15 rfl (z0a (Z5 (z6O ZS) (hr.mono .(1)) rfl (z6 (z0 0) (z6 (z0 1) (z6 (z3O (z6b hr) (z0 1) (z0 3)) (z6 (z0 4) z9)))))) (y8 6 nd) (z8 (z4K (z0 6) (Z0j (z6b hr) (z0 5) (Z9 (z0 6) Z1))) Z3)) (z8 (y0 (z0 5)) Z3))))
theorem zc0:Fn P w K mg base 1 "row_of" 1 z66 :=
 dfC ["blocks","homes"] z3i ZS.Uaz (ZS.Uzz _) .(2) rfl .(i) λhcd hr nd =>
  (z8 (y9 1 nd (zh8 (N':=["blocks","home","least","standing"]) (cap:=[some 0,none,none,none]) rfl .(8) (zr0 rfl rfl ZS.Uba (z5m rfl rfl ZS.Uar (z6 (z0 0) z9))) (λ_ _ _ _=>(zk7 rfl (z3l (j7 1 (show (["blocks","home","least","standing"]:List Str).Nodup by decide +kernel)) (z3l (j7 2 (show (["blocks","home","least","standing"]:List Str).Nodup by decide +kernel)) z8H)))) (λ_ _ _ _=>(z0F (z3O (z6b hr) (z0 0) (z0 2)))) (λ_ _ _ _=>(j7 3 (show (["blocks","home","least","standing"]:List Str).Nodup by decide +kernel))) (λ_ _ _ _=>z0p) (λ_ _ _ _=>(z0 3)) (λ_ _ _ _=>(z0 1)))) (z8 (y0 (z1G (z0s rfl ZS.Uan (z6 (z02 (N':=["homes","standing"]) (cap:=[some 1,none]) rfl .(8) (z0a (z5m rfl rfl ZS.Uar (z6 (z0 1) z9))) (λ_ _ _ _=>(j7 1 (show (["homes","standing"]:List Str).Nodup by decide +kernel))) (λ_ _ _ _=>z0p) (λ_ _ _ _=>(z3O (z6b hr) (z0 0) (z0 1)))) z9)))) Z3))
theorem zk6:Fn P w K mg base 2 "led_to" 3 z3v :=
 dfC ["machine","row","standing"] z3r ZS.Ubb (ZS.Uzz _) .(2) rfl .(e) λhcd hr nd =>
  (z8 (y0 (Z5 (zj7 ZS) (hr.mono .(1)) rfl (z6 (z02 (N':=["row","other"]) (cap:=[some 1,none]) rfl .(8) (z0F (Z9 (Z9 (z0 0) Z1) (z0 2))) (λ_ _ _ _=>(j7 1 (show (["row","other"]:List Str).Nodup by decide +kernel))) (λ_ _ _ _=>z0p) (λ_ _ _ _=>(Z9 (z0 0) (z0 1)))) z9))) Z3)
theorem z6z:Fn P w K mg base 3 "is_steady" 2 z34 :=
 dfC ["machine","thing","many","firsts","standing","home","likes"] z22 ZS.Ubc (ZS.Uzz _) .(2) rfl .(o) λhcd hr nd =>
  (z8 (y9 2 nd (J5 rfl ZS.Ual (z6 (Z9 (z0 0) Z1) z9))) (z8 (s_if (z0t (x9 (Z5 (z1R ZS) (hr.mono .(1)) rfl (z6 (z0 1) (z6 (z0 2) (z6 (z0 2) z9)))))) (z8 (y0 z2m) Z3) Z3) (z8 (y9 3 nd (z0v z9)) (z8 (z1Q K15 rfl (zd7 rfl rfl ZS.Uba (z0 1)) (z5d rfl (z0B (y8 4 nd) (z0B (y8 5 nd) z3L))) (z8 (s_if (z0t (x9 (Z5 (z3F ZS) (hr.mono .(1)) rfl (z6 (z0 5) (z6 Z1 (z6 (J5 rfl ZS.Ual (z6 (z0 3) z9)) z9)))))) (z8 (y0 z2m) Z3) Z3) (z8 (s_if (sc_c (z2W (hu30 hr)) (z0 5) (J5 rfl ZS.Ual (z6 (z0 3) z9))) (z8 (z2i (z0n (z0 3) (z0 4))) Z3) Z3) Z3))) (z8 (y9 6 nd (z02 (N':=["machine","thing","standing"]) (cap:=[some 0,some 1,none]) rfl .(8) (z0g rfl ZS.Uau (z0 2)) (λ_ _ _ _=>(j7 2 (show (["machine","thing","standing"]:List Str).Nodup by decide +kernel))) (λ_ _ _ _=>z0p) (λ_ _ _ _=>(z0u (z6 (Z9 (Z9 (z0 0) Z1) (z0 2)) (z6 (Z5 (zk6 ZS) (hr.mono .(1)) rfl (z6 (z0 0) (z6 (z0 1) (z6 (z0 2) z9)))) z9)))))) (z8 (y0 (z1G (zw5 rfl rfl ZS.Uak (z6 (z02 (N':=["likes","firsts","standing","home"]) (cap:=[some 6,some 3,none,none]) rfl .(8) (zd7 rfl rfl ZS.Uba (z0 1)) (λ_ _ _ _=>(zk7 rfl (z3l (j7 2 (show (["likes","firsts","standing","home"]:List Str).Nodup by decide +kernel)) (z3l (j7 3 (show (["likes","firsts","standing","home"]:List Str).Nodup by decide +kernel)) z8H)))) (λ_ _ _ _=>z0p) (λ_ _ _ _=>(se_c (z2W (hu30 hr)) (Z9 (z0 0) (z0 2)) (Z9 (z0 0) (Z9 (z0 1) (z0 3)))))) z9)))) Z3))))))
theorem zi5:Fn P w K mg base 3 "is_cut" 2 z4n :=
 dfC ["blocks","thing","least","by"] z4i ZS.Ubd (ZS.Uzz _) .(2) rfl .(o) λhcd hr nd =>
  (z8 (s_if (z0t (x9 (Z5 (z1R ZS) (hr.mono .(1)) rfl (z6 (z0 1) (z6 Z1 (z6 Z1 z9)))))) (z8 (y0 z2m) Z3) Z3) (z8 (z4K (z0 1) (z5d rfl (z0B (y8 2 nd) (z0B (y8 3 nd) z3L)))) (z8 (y0 (z1f (Z5 (z2v ZS) (hr.mono .(1)) rfl (z6 (z0 2) z9)) (z1f (se_c (zz1 (z6b hr)) (z0 2) (z0 0)) (z2e (zx5 (Z5 (z9t ZS) (hr.mono .(1)) rfl (z6 (z0 3) z9)) (z2e (z1f (Z5 (z2v ZS) (hr.mono .(1)) rfl (z6 (z0 3) z9)) (z2e (se_c (zz1 (z6b hr)) (z0 3) (z0 0)))))))))) Z3)))
theorem z2l:Fn P w K mg base 5 "right_classes" 2 z0J :=
 dfC ["machine","thing","row","cuts","blocks","cut"] z0j ZS.Ube (ZS.Uzz _) .(2) rfl .(o) λhcd hr nd =>
  (z8 (s_if (z0t (x9 (Z5 (z1R ZS) (hr.mono .(1)) rfl (z6 (z0 1) (z6 Z1 (z6 Z1 z9)))))) (z8 (y0 z2m) Z3) Z3) (z8 (z4K (z0 1) (z5d rfl (z0B (y8 2 nd) (z0B (y8 3 nd) z3L)))) (z8 (s_if (SW.sc (z3G (z0t (x9 (Z5 (z6z ZS) (hr.mono .(1)) rfl (z6 (z0 0) (z6 (z0 2) z9))))) (z2s (z0t (x9 (Z5 (z4V ZS) (hr.mono .(1)) rfl (z6 (z0 3) z9))))))) (z8 (y0 z2m) Z3) Z3) (z8 (y9 4 nd (Z5 (z4U ZS) (hr.mono .(1)) rfl (z6 (z0 0) z9))) (z8 (z1Q K15 rfl (z0F (z0 3)) (y8 5 nd) (z8 (s_if (SW.sc (z3G (z0t (x9 (Z5 (zi5 ZS) (hr.mono .(1)) rfl (z6 (z0 4) (z6 (z0 5) z9))))) (z2s (sc_c z9i (J5 rfl ZS.Ual (z6 (Z5 (z6O ZS) (hr.mono .(1)) rfl (z6 (z0 0) (z6 (z0 4) (z6 (z3O (z6b hr) (z0 4) (Z9 (z0 5) Z1)) (z6 (Z9 (z0 5) Z1) z9))))) z9)) Z1)))) (z8 (y0 z2m) Z3) Z3) (z8 (y9 4 nd (Z5 (zk9 ZS) (hr.mono .(1)) rfl (z6 (z0 0) (z6 (z0 4) (z6 (z0 5) z9))))) Z3))) (z8 (y0 (se_c (z2W (hu30 hr)) (z0 2) (Z5 (zc0 ZS) (hr.mono .(1)) rfl (z6 (z0 4) z9)))) Z3))))))
theorem z7d:Fn P w K mg base 1 "_law_pool" 1 z2Z :=
 dfN ["_law_script","_law_great"] z2b ZS.Ubf (ZS.Uzz _) .(2) rfl .(i) λhcd hr nd =>
  (z8 (z4B 1 (N':=["_law_cell"]) (cap:=[none]) rfl .(8) (z0a (z0 0)) (λ_ _ _ _=>(j7 0 (show (["_law_cell"]:List Str).Nodup by decide +kernel))) (λ_ _ _ _=>(z11 (sc_c Z1f (z0 0) (z90 Z1 Z1)))) (λ_ _ _ _=>(z0 0)) nd) (z8 (y0 (z0v (z6 (z0 1) (z6 (z02 (N':=["_law_cell"]) (cap:=[none]) rfl .(8) (z0a (z0 0)) (λ_ _ _ _=>(j7 0 (show (["_law_cell"]:List Str).Nodup by decide +kernel))) (λ_ _ _ _=>(z11 (sc_c z9i (z0 0) (z90 Z1 Z1)))) (λ_ _ _ _=>(z0 0))) (z6 Z1 (z6 Z1 z9)))))) Z3))
theorem Z8:Fn P w K mg base 1 "_law_draw" 2 Z4 :=
 dfN ["_law_pool_here","_law_many","_law_cell"] z1y ZS.Ubg (ZS.Uzz _) .(2) rfl .(o) λhcd hr nd =>
  (z8 (s_if (sc_c z40 (J5 rfl ZS.Ual (z6 (Z9 (z0 0) Z1) z9)) Z1) (z8 (y9 2 nd (Z9 (Z9 (z0 0) Z1) Z1)) (z8 (z4K (zh3 (z0 2) (z0 1)) (zk0 (Z9 (z0 0) Z1) Z1)) (z8 (s_if (sc_c z31 (zh3 (z0 2) (z0 1)) Z1) (z8 (z2i (z8i (Z9 (z0 0) Z1) Z1)) Z3) Z3) (z8 (y0 (z4S (z0 2) (z0 1))) Z3)))) Z3) (z8 (z4K (Y0 (Z9 (z0 0) Z1) Z1) (zk0 (z0 0) Z1)) (z8 (y9 2 nd Z1) (z8 (s_if (sc_c z40 (J5 rfl ZS.Ual (z6 (Z9 (z0 0) Z1) z9)) Z1) (z8 (y9 2 nd (Z9 (Z9 (z0 0) Z1) (z4S (Z9 (z0 0) Z1) (J5 rfl ZS.Ual (z6 (Z9 (z0 0) Z1) z9))))) Z3) Z3) (z8 (y9 2 nd (z5V (z4S (z0 2) Z1) (Y0 (z5V (Z9 (z0 0) Z1) (Z9 (z0 0) Z1)) Z1))) (z8 (z4K (z4S (Y0 (Y0 (z5V (Z9 (z0 0) Z1) Z1) (z0 2)) (z5V Z1 (Z9 (z0 0) Z1))) Z1) (zk0 (z0 0) Z1)) (z8 (y0 (z4S (zh3 (z4S (z90 (Z9 (z0 0) Z1) Z1) Z1) Z1) (z0 1))) Z3)))))))
theorem z6A:Fn P w K mg base 2 "_law_name" 3 z33 :=
 dfC ["_law_pool_here","_law_start","_law_taken","_law_letters","_law_name_here","_law_k","_law_last","_law_words","_law_found"] z1u ZS.Ubh (ZS.Uzz _) .(2) rfl .(e) λhcd hr nd =>
  (z8 (y9 3 nd y3) (z8 (y9 4 nd (z0 1)) (z8 (z1Q K15 rfl (z0g rfl ZS.Uau (Z5 (Z8 ZS) (hr.mono .(1)) rfl (z6 (z0 0) (z6 Z1 z9)))) (y8 5 nd) (z8 (y9 4 nd (Y0 (z0 4) (Z9 (z0 3) (Z5 (Z8 ZS) (hr.mono .(1)) rfl (z6 (z0 0) (z6 Z1 z9)))))) Z3)) (z8 (y9 6 nd (Z5 (Z8 ZS) (hr.mono .(1)) rfl (z6 (z0 0) (z6 Z1 z9)))) (z8 (y9 7 nd (z0v (z6 y3 (z6 y3 (z6 y3 (z6 y3 (z6 y3 (z6 y3 (z6 y3 (z6 y3 (z6 y3 (z6 y3 (z6 y3 (z6 y3 (z6 y3 z9))))))))))))))) (z8 (z1Q K15 rfl (z0g rfl ZS.Uau Z1) (y8 5 nd) (z8 (y9 8 nd (Y0 (z0 4) (Z9 (z0 3) (z4S (Y0 (z0 6) (z0 5)) Z1)))) (z8 (s_if (SW.sc (z2T (sc_c z3g (z0 8) (z0 7)) (z30 (sc_c z3g (z0 8) (z0 2))))) (z8 (y0 (z0 8)) Z3) Z3) Z3))) (z8 (y0 (Y0 (z0 4) y3)) Z3)))))))
theorem z5v:Fn P w K mg base 3 "_law_names" 2 z2u :=
 dfC ["_law_pool_here","_law_many","_law_letters","_law_start","_law_k","_law_names_here"] z1E ZS.Ubi (ZS.Uzz _) .(2) rfl .(o) λhcd hr nd =>
  (z8 (y9 2 nd y3) (z8 (y9 3 nd y3) (z8 (z1Q K15 rfl (z0g rfl ZS.Uau (z1G (Z9 (z0v (z6 Z1 (z6 Z1 (z6 Z1 (z6 Z1 z9))))) (Z5 (Z8 ZS) (hr.mono .(1)) rfl (z6 (z0 0) (z6 Z1 z9)))))) (y8 4 nd) (z8 (y9 3 nd (Y0 (z0 3) (Z9 (z0 2) (Z5 (Z8 ZS) (hr.mono .(1)) rfl (z6 (z0 0) (z6 Z1 z9)))))) Z3)) (z8 (y9 5 nd (z0v z9)) (z8 (z1Q K15 rfl (z0g rfl ZS.Uau (z0 1)) (y8 4 nd) (z8 (z2i (z0n (z0 5) (Z5 (z6A ZS) (hr.mono .(1)) rfl (z6 (z0 0) (z6 (z0 3) (z6 (z0 5) z9)))))) Z3)) (z8 (y0 (z0 5)) Z3))))))
theorem z4J:Fn P w K mg base 2 "_law_machine" 3 z1K :=
 dfC ["_law_pool_here","_law_names_here","_law_most","_law_many","_law_dense","_law_steps","_law_marks","_law_k"] z18 ZS.Ubj (ZS.Uzz _) .(2) rfl .(e) λhcd hr nd =>
  (z8 (y9 3 nd (Y0 Z1 (Z5 (Z8 ZS) (hr.mono .(1)) rfl (z6 (z0 0) (z6 (z0 2) z9))))) (z8 (y9 4 nd (Y0 Z1 (Z5 (Z8 ZS) (hr.mono .(1)) rfl (z6 (z0 0) (z6 Z1 z9))))) (z8 (y9 5 nd (z0v z9)) (z8 (y9 6 nd (z0v z9)) (z8 (z1Q K15 rfl (z0g rfl ZS.Uau (z0 3)) (y8 7 nd) (z8 (z2i (z0n (z0 5) (z1G (z0s rfl ZS.Uan (z6 (z02 (N':=["_law_pool_here","_law_dense","_law_to"]) (cap:=[some 0,some 4,none]) rfl .(8) (z0g rfl ZS.Uau (z0 3)) (λ_ _ _ _=>(j7 2 (show (["_law_pool_here","_law_dense","_law_to"]:List Str).Nodup by decide +kernel))) (λ_ _ _ _=>(z11 (sc_c z9i (Z5 (Z8 ZS) (hr.mono .(1)) rfl (z6 (z0 0) (z6 Z1 z9))) (z0 1)))) (λ_ _ _ _=>(z0 2))) z9))))) (z8 (z2i (z0n (z0 6) (z1G (z0s rfl ZS.Uan (z6 (z6f rfl rfl ZS.Uar (z6 (z02 (N':=["_law_pool_here","_law_name_here"]) (cap:=[some 0,none]) rfl .(8) (z0a (z0 1)) (λ_ _ _ _=>(j7 1 (show (["_law_pool_here","_law_name_here"]:List Str).Nodup by decide +kernel))) (λ_ _ _ _=>(z11 (sc_c z31 (Z5 (Z8 ZS) (hr.mono .(1)) rfl (z6 (z0 0) (z6 Z1 z9))) Z1))) (λ_ _ _ _=>(z0 1))) z9)) z9))))) Z3))) (z8 (y0 (z0u (z6 (z0s rfl ZS.Uan (z6 (z0 5) z9)) (z6 (z0s rfl ZS.Uan (z6 (z0 6) z9)) z9)))) Z3))))))
theorem z4w:Fn P w K mg base 2 "_law_odd" 1 z13 :=
 dfC ["_law_pool_here","_law_some"] z1Z ZS.Ubk (ZS.Uzz _) .(2) rfl .(i) λhcd hr nd =>
  (z8 (y9 1 nd (z0v (z6 z3a (z6 z2m (z6 z2m (z6 y3 (z6 y3 (z6 (z2A Z1) (z6 Z1 (z6 (Y0 (z90 Z1 Z1) Z1) (z6 (z0u z9) (z6 (z0v z9) (z6 (z0u (z6 Z1 z9)) (z6 (z0v (z6 Z1 z9)) (z6 zR0 (z6 y3 (z6 y3 (z6 y3 z9)))))))))))))))))) (z8 (y9 1 nd (Y0 (z0 1) (z0v (z6 (z0u (z6 y3 z9)) (z6 Z1 (z6 Z1 (z6 y3 (z6 (z0u (z6 Z1 (z6 Z1 z9))) (z6 (z8I y3 Z1) (z6 y3 z9)))))))))) (z8 (y0 (Z9 (z0 1) (Z5 (Z8 ZS) (hr.mono .(1)) rfl (z6 (z0 0) (z6 Z1 z9))))) Z3)))
theorem z3W:∀k:Nat,Fn P w K mg base (3+k) "_law_bent" 3 (z0D k):=by
 obtain⟨f,fd,hf,F⟩:=ZS.Ubl;have hb:Binds K fd ["_law_pool_here","_law_thing","_law_deep"] []:=F.binds λ_ _ _ _ _ _ us hl=>(by obtain⟨_,_,_,rfl⟩:=ar3 hl;rfl);intro k;induction k with
 | zero=>exact zG0 F hb ((ZS.Uzz _) _ hf) rfl
 | succ k F00 =>
  exact zw3 (k:=3+k) F sc__law_bent hb ((ZS.Uzz _) _ hf) rfl λcdv A outer s H E hcd hr=>(show SB (cxOf CX0 P w K mg base ["_law_pool_here","_law_thing","_law_deep","_law_at","_law_way","_law_turn"] "_law_bent" (y6 (top 30)) f cdv A outer s H E).nox EX0 (z0X (top 30)) (z27 (z0D k)) from
   have nd:(["_law_pool_here","_law_thing","_law_deep","_law_at","_law_way","_law_turn"]:List Str).Nodup:=sc__law_bent.nd
   (z8 (s_if (SW.sc (z2T (x9 (z1b rfl ZS.Uad rfl ZS.Uan .(2) .(1) (z0 1))) (z2T (sc_c z40 (J5 rfl ZS.Ual (z6 (z0 1) z9)) Z1) (z2T (sc_c z40 (z0 2) Z1) (z30 (sc_c z40 (Z5 (Z8 ZS) (hr.mono .(0)) rfl (z6 (z0 0) (z6 Z1 z9))) Z1)))))) (z8 (y9 3 nd (Z5 (Z8 ZS) (hr.mono .(0)) rfl (z6 (z0 0) (z6 (J5 rfl ZS.Ual (z6 (z0 1) z9)) z9)))) (z8 (y0 (Y0 (Y0 (z0e (z0 1) z0V (z0P (z0 3))) (z0u (z6 (Z5 F00 (hr.mono .(0)) rfl (z6 (z0 0) (z6 (Z9 (z0 1) (z0 3)) (z6 (zh9 (z0 2) Z1) z9)))) z9))) (z0e (z0 1) (z0P (Y0 (z0 3) Z1)) z0V))) Z3)) Z3) (z8 (y9 4 nd (Z5 (Z8 ZS) (hr.mono .(0)) rfl (z6 (z0 0) (z6 Z1 z9)))) (z8 (s_if (SW.sc (z2T (x9 (z1b rfl ZS.Uad rfl ZS.Uan .(2) .(1) (z0 1))) (z30 (sc_c z40 (z0 4) Z1)))) (z8 (y9 5 nd (Z5 (Z8 ZS) (hr.mono .(0)) rfl (z6 (z0 0) (z6 Z1 z9)))) (z8 (s_if (sc_c z31 (z0 5) Z1) (z8 (y0 (za7 rfl ZS.Ubm (z6 (z0 1) z9))) Z3) Z3) (z8 (s_if (sc_c z31 (z0 5) Z1) (z8 (y0 (Y0 (z0 1) (z0u (z6 (Z5 (z4w ZS) (hr.mono .(0)) rfl (z6 (z0 0) z9)) z9)))) Z3) Z3) (z8 (y0 (Z9 (z0v (z6 (z0e (z0 1) z0V (z0P (z2A Z1))) (z6 (zv9 (z0 1) (z2A Z1)) (z6 (Y0 (z0 1) (z0e (z0 1) (z0P (z2A Z1)) z0V)) (z6 (z0e (z0 1) (z0P Z1) z0V) z9))))) (zh9 (z0 5) Z1))) Z3)))) Z3) (z8 (s_if (SW.sc (z2T (x9 (z1b rfl ZS.Uad rfl ZS.Uac .(2) .(1) (z0 1))) (z2T (z0t (x9 (z1b rfl ZS.Uad rfl ZS.Uab .(2) .(1) (z0 1)))) (z30 (sc_c z40 (z0 4) Z1))))) (z8 (y0 (Y0 (z0 1) (Z9 (z0v (z6 Z1 (z6 (z2A Z1) (z6 Z1 (z6 (zh9 Z1 (z0 1)) z9))))) (Z5 (Z8 ZS) (hr.mono .(0)) rfl (z6 (z0 0) (z6 Z1 z9)))))) Z3) Z3) (z8 (y0 (Z5 (z4w ZS) (hr.mono .(0)) rfl (z6 (z0 0) z9))) Z3))))))
theorem z1N:Fn P w K mg base 1 "_law_number" 3 z0r :=
 dfC ["_law_thing","_law_low","_law_high"] z1o ZS.Ubn (ZS.Uzz _) .(2) rfl .(e) λhcd hr nd =>
  (z8 (y0 (z1f (z1b rfl ZS.Uad rfl ZS.Uac .(2) .(1) (z0 0)) (z1f (zi6 (z1b rfl ZS.Uad rfl ZS.Uab .(2) .(1) (z0 0))) (z2e (zb2 z4p z9i (z0 1) (z0 0) (z0 2)))))) Z3)
theorem z26:Fn P w K mg base 1 "_law_tuple" 3 z0l :=
 dfC ["_law_thing","_law_least","_law_most"] z1F ZS.Ubo (ZS.Uzz _) .(2) rfl .(e) λhcd hr nd =>
  (z8 (y0 (z1f (z1b rfl ZS.Uad rfl ZS.Uan .(2) .(1) (z0 0)) (z2e (zb2 z4p z4p (z0 1) (J5 rfl ZS.Ual (z6 (z0 0) z9)) (z0 2))))) Z3)
theorem z3J:Fn P w K mg base 1 "_law_good_name" 1 z1i :=
 dfC ["_law_thing","_law_words"] z08 ZS.Ubp (ZS.Uzz _) .(2) rfl .(i) λhcd hr nd =>
  (z8 (y9 1 nd (z0v (z6 y3 (z6 y3 (z6 y3 (z6 y3 (z6 y3 (z6 y3 (z6 y3 (z6 y3 (z6 y3 (z6 y3 (z6 y3 (z6 y3 (z6 y3 z9))))))))))))))) (z8 (s_if (SW.sc (z3G (z0t (x9 (z1b rfl ZS.Uad rfl ZS.Uag .(2) .(1) (z0 0)))) (z3G (sc_c z9i (J5 rfl ZS.Ual (z6 (z0 0) z9)) Z1) (z3G (sc_c z40 (J5 rfl ZS.Ual (z6 (z0 0) z9)) Z1) (z2s (sc_c z9l (z0 0) (z0 1))))))) (z8 (y0 z2m) Z3) Z3) (z8 (y0 (z1G (se_c (z2W (hu30 hr)) (z02 (N':=["_law_sign"]) (cap:=[none]) rfl .(8) (zw9 rfl (z0 0)) (λ_ _ _ _=>(j7 0 (show (["_law_sign"]:List Str).Nodup by decide +kernel))) (λ_ _ _ _=>(z11 (sc_c zL7 (z0 0) y3))) (λ_ _ _ _=>(z0 0))) (z0v z9)))) Z3)))
theorem z3u:Fn P w K mg base 1 "_law_truth" 2 z1a :=
 dfC ["_law_found","_law_due"] z1I ZS.Ubq (ZS.Uzz _) .(2) rfl .(o) λhcd hr nd =>
  (z8 (y0 (z1f (z1b rfl ZS.Uad rfl ZS.Uab .(2) .(1) (z0 0)) (z2e (se_c (z2W (hu30 hr)) (z0 0) (z0 1))))) Z3)
theorem z0C:Fn P w K mg base 1 "_law_numbered" 1 z00 :=
 dfC ["_law_homes","_law_order"] z0k ZS.Ubr (ZS.Uzz _) .(2) rfl .(i) λhcd hr nd =>
  (z8 (y9 1 nd (z16 rfl rfl ZS.Uar (z6 (z2a rfl rfl ZS.Uaq (z6 (z0 0) z9)) z9))) (z8 (y0 (z1G (z0s rfl ZS.Uan (z6 (z02 (N':=["_law_order","_law_home"]) (cap:=[some 1,none]) rfl .(8) (z0a (z0 0)) (λ_ _ _ _=>(j7 1 (show (["_law_order","_law_home"]:List Str).Nodup by decide +kernel))) (λ_ _ _ _=>z0p) (λ_ _ _ _=>(zR9 (z6q (z0 0) (z0 1)) (z6Z (z0 0) (z0 1))))) z9)))) Z3))
theorem z4Z:Fn P w K mg base 2 "_law_steady" 2 z23 :=
 dfC ["_law_machine_here","_law_thing","_law_many","_law_top","_law_one","_law_first","_law_here"] z1p ZS.Ubs (ZS.Uzz _) .(2) rfl .(o) λhcd hr nd =>
  (z8 (y9 2 nd (J5 rfl ZS.Ual (z6 (Z9 (z0 0) Z1) z9))) (z8 (s_if (z0t (x9 (Z5 (z26 ZS) (hr.mono .(1)) rfl (z6 (z0 1) (z6 (z0 2) (z6 (z0 2) z9)))))) (z8 (y0 z2m) Z3) Z3) (z8 (y9 3 nd Z1) (z8 (z1Q K15 rfl (z0F (z0 1)) (y8 4 nd) (z8 (s_if (z0t (x9 (Z5 (z1N ZS) (hr.mono .(1)) rfl (z6 (z0 4) (z6 Z1 (z6 (Y0 (z0 3) Z1) z9)))))) (z8 (y0 z2m) Z3) Z3) (z8 (y9 3 nd (zE6 rfl rfl ZS.Ubt (z6 (z0 3) (z6 (Y0 (z0 4) Z1) z9)))) Z3))) (z8 (z1Q K15 rfl (z0g rfl ZS.Uau (z0 2)) (y8 4 nd) (z8 (y9 5 nd (zR9 (z6q (z0 1) (Z9 (z0 1) (z0 4))) (z6Z (z0 1) (Z9 (z0 1) (z0 4))))) (z8 (s_if (sc_c (z92 (hu30 hr)) (Z9 (Z9 (z0 0) Z1) (z0 4)) (Z9 (Z9 (z0 0) Z1) (z0 5))) (z8 (y0 z2m) Z3) Z3) (z8 (y9 6 nd (z16 rfl rfl ZS.Uar (z6 (z2a rfl rfl ZS.Uaq (z6 (z02 (N':=["_law_thing","_law_to"]) (cap:=[some 1,none]) rfl .(8) (z0F (Z9 (Z9 (z0 0) Z1) (z0 4))) (λ_ _ _ _=>(j7 1 (show (["_law_thing","_law_to"]:List Str).Nodup by decide +kernel))) (λ_ _ _ _=>z0p) (λ_ _ _ _=>(Z9 (z0 0) (z0 1)))) z9)) z9))) (z8 (s_if (zv6 (sc_c (z92 (hu30 hr)) (z0 6) (z16 rfl rfl ZS.Uar (z6 (z2a rfl rfl ZS.Uaq (z6 (z02 (N':=["_law_thing","_law_to"]) (cap:=[some 1,none]) rfl .(8) (z0F (Z9 (Z9 (z0 0) Z1) (z0 5))) (λ_ _ _ _=>(j7 1 (show (["_law_thing","_law_to"]:List Str).Nodup by decide +kernel))) (λ_ _ _ _=>z0p) (λ_ _ _ _=>(Z9 (z0 0) (z0 1)))) z9)) z9)))) (z8 (y0 z2m) Z3) Z3) Z3))))) (z8 (y0 z2m) Z3))))))
theorem z1L:Fn P w K mg base 1 "_law_halved" 4 Y3 :=
 dfC ["_law_machine_here","_law_homes","_law_cut","_law_by","_law_chosen","_law_one","_law_block","_law_inner","_law_rest","_law_found"] z0I ZS.Ubu (ZS.Uzz _) .(2) rfl (λ_ _ _ _ _ _ us hl=>(by obtain⟨_,_,_,_,rfl⟩:=ar4 hl;rfl)) λhcd hr nd =>
  (z8 (y9 4 nd (z0v z9)) (z8 (z1Q K15 rfl (z0g rfl ZS.Uau (J5 rfl ZS.Ual (z6 (z0 1) z9))) (y8 5 nd) (z8 (s_if (SW.sc (z2T (x9 (z1b rfl ZS.Uad rfl ZS.Uag .(2) .(1) (z0 3))) (z30 (sc_c z9l (z0 3) (Z9 (Z9 (z0 0) Z1) (z0 5)))))) (z8 (z2i (z0n (z0 4) (z0 5))) Z3) Z3) (z8 (s_if (SW.sc (z2T (z0t (x9 (z1b rfl ZS.Uad rfl ZS.Uag .(2) .(1) (z0 3)))) (z30 (zv6 (sc_c z9l (z0 3) (z02 (N':=["_law_homes","_law_to"]) (cap:=[some 1,none]) rfl .(8) (z0F (Z9 (Z9 (z0 0) Z1) (z0 5))) (λ_ _ _ _=>(j7 1 (show (["_law_homes","_law_to"]:List Str).Nodup by decide +kernel))) (λ_ _ _ _=>z0p) (λ_ _ _ _=>(Z9 (z0 0) (z0 1))))))))) (z8 (z2i (z0n (z0 4) (z0 5))) Z3) Z3) Z3))) (z8 (z4B 6 (N':=["_law_homes","_law_cut","_law_one"]) (cap:=[some 1,some 2,none]) rfl .(8) (z0g rfl ZS.Uau (J5 rfl ZS.Ual (z6 (z0 1) z9))) (λ_ _ _ _=>(j7 2 (show (["_law_homes","_law_cut","_law_one"]:List Str).Nodup by decide +kernel))) (λ_ _ _ _=>(z11 (sc_c (z2W (hu30 hr)) (Z9 (z0 0) (z0 2)) (z0 1)))) (λ_ _ _ _=>(z0 2)) nd) (z8 (z4B 7 (N':=["_law_chosen","_law_one"]) (cap:=[some 4,none]) rfl .(8) (z0a (z0 6)) (λ_ _ _ _=>(j7 1 (show (["_law_chosen","_law_one"]:List Str).Nodup by decide +kernel))) (λ_ _ _ _=>(z11 (sc_c z9l (z0 1) (z0 0)))) (λ_ _ _ _=>(z0 1)) nd) (z8 (z4B 8 (N':=["_law_chosen","_law_one"]) (cap:=[some 4,none]) rfl .(8) (z0a (z0 6)) (λ_ _ _ _=>(j7 1 (show (["_law_chosen","_law_one"]:List Str).Nodup by decide +kernel))) (λ_ _ _ _=>(z11 (sc_c z3g (z0 1) (z0 0)))) (λ_ _ _ _=>(z0 1)) nd) (z8 (s_if (SW.sc (z3G (sc_c z31 (J5 rfl ZS.Ual (z6 (z0 7) z9)) Z1) (z2s (sc_c z31 (J5 rfl ZS.Ual (z6 (z0 8) z9)) Z1)))) (z8 (y0 z3a) Z3) Z3) (z8 (y9 9 nd (za7 rfl ZS.Ubm (z6 (z0 1) z9))) (z8 (z1Q K15 rfl (z0a (z0 7)) (y8 5 nd) (z8 (z4K (Z9 (z0 7) Z1) (zk0 (z0 9) (z0 5))) Z3)) (z8 (z1Q K15 rfl (z0a (z0 8)) (y8 5 nd) (z8 (z4K (Z9 (z0 8) Z1) (zk0 (z0 9) (z0 5))) Z3)) (z8 (y0 (z0 9)) Z3))))))))))
theorem z2g:Fn P w K mg base 2 "_law_cuts_end" 2 z0W :=
 dfC ["_law_machine_here","_law_cuts","_law_homes","_law_pair"] z0m ZS.Ubv (ZS.Uzz _) .(2) rfl .(o) λhcd hr nd =>
  (z8 (z4B 2 (N':=["_law_one"]) (cap:=[none]) rfl .(8) (z0F (Z9 (z0 0) Z1)) (λ_ _ _ _=>(j7 0 (show (["_law_one"]:List Str).Nodup by decide +kernel))) (λ_ _ _ _=>z0p) (λ_ _ _ _=>Z1) nd) (z8 (s_if (z0t (x9 (z1b rfl ZS.Uad rfl ZS.Uan .(2) .(1) (z0 1)))) (z8 (y0 z3a) Z3) Z3) (z8 (z1Q K15 rfl (z0F (z0 1)) (y8 3 nd) (z8 (s_if (SW.sc (z3G (z0t (x9 (Z5 (z26 ZS) (hr.mono .(1)) rfl (z6 (z0 3) (z6 Z1 (z6 Z1 z9)))))) (z2s (z0t (x9 (Z5 (z1N ZS) (hr.mono .(1)) rfl (z6 (Z9 (z0 3) Z1) (z6 Z1 (z6 (J5 rfl ZS.Ual (z6 (z0 2) z9)) z9))))))))) (z8 (y0 z3a) Z3) Z3) (z8 (s_if (z0t (x9 (Z5 (z3J ZS) (hr.mono .(1)) rfl (z6 (Z9 (z0 3) Z1) z9)))) (z8 (s_if (SW.sc (z3G (z0t (x9 (Z5 (z1N ZS) (hr.mono .(1)) rfl (z6 (Z9 (z0 3) Z1) (z6 Z1 (z6 (J5 rfl ZS.Ual (z6 (z0 2) z9)) z9)))))) (z2s (sc_c (z92 (hu30 hr)) (Z9 (z0 2) (Z9 (z0 3) Z1)) (Z9 (z0 3) Z1))))) (z8 (y0 z3a) Z3) Z3) Z3) Z3) (z8 (y9 2 nd (Z5 (z1L ZS) (hr.mono .(1)) rfl (z6 (z0 0) (z6 (z0 2) (z6 (Z9 (z0 3) Z1) (z6 (Z9 (z0 3) Z1) z9)))))) (z8 (s_if (sc_c Z0y (z0 2) z3a) (z8 (y0 z3a) Z3) Z3) Z3))))) (z8 (y0 (z0 2)) Z3))))
theorem z2x:Fn P w K mg base 3 "_law_classes_right" 2 z0w :=
 dfC ["_law_machine_here","_law_thing","_law_homes"] x8 ZS.Ubw (ZS.Uzz _) .(2) rfl .(o) λhcd hr nd =>
  (z8 (s_if (SW.sc (z3G (z0t (x9 (Z5 (z26 ZS) (hr.mono .(1)) rfl (z6 (z0 1) (z6 Z1 (z6 Z1 z9)))))) (z2s (z0t (x9 (Z5 (z4Z ZS) (hr.mono .(1)) rfl (z6 (z0 0) (z6 (Z9 (z0 1) Z1) z9)))))))) (z8 (y0 z2m) Z3) Z3) (z8 (y9 2 nd (Z5 (z2g ZS) (hr.mono .(1)) rfl (z6 (z0 0) (z6 (Z9 (z0 1) Z1) z9)))) (z8 (y0 (z1f (se_c z8r (z0 2) z3a) (z2e (se_c (z2W (hu30 hr)) (Z5 (z0C ZS) (hr.mono .(1)) rfl (z6 (z0 2) z9)) (Z9 (z0 1) Z1))))) Z3)))
theorem z50:Fn P w K mg base 2 "_law_copies" 3 z21 :=
 dfC ["_law_pool_here","_law_base","_law_most","_law_kinds","_law_k","_law_raw","_law_steps","_law_kind","_law_ahead","_law_to","_law_mates","_law_sure"] z1s ZS.Ubx (ZS.Uzz _) .(2) rfl .(e) λhcd hr nd =>
  (z8 (y9 3 nd (zu2 rfl rfl ZS.Ubm rfl ZS.Uau (J5 rfl ZS.Ual (z6 (Z9 (z0 1) Z1) z9)))) (z8 (z1Q K15 rfl (z0g rfl ZS.Uau (Z5 (Z8 ZS) (hr.mono .(1)) rfl (z6 (z0 0) (z6 (Y0 (z0 2) Z1) z9)))) (y8 4 nd) (z8 (z2i (z0n (z0 3) (Z5 (Z8 ZS) (hr.mono .(1)) rfl (z6 (z0 0) (z6 (J5 rfl ZS.Ual (z6 (Z9 (z0 1) Z1) z9)) z9))))) Z3)) (z8 (y9 5 nd (z0v z9)) (z8 (z1Q K15 rfl (z0g rfl ZS.Uau (J5 rfl ZS.Ual (z6 (z0 3) z9))) (y8 4 nd) (z8 (z2i (z0n (z0 5) (z8i (z0 3) (Z5 (Z8 ZS) (hr.mono .(1)) rfl (z6 (z0 0) (z6 (J5 rfl ZS.Ual (z6 (z0 3) z9)) z9)))))) Z3)) (z8 (y9 6 nd (z0v z9)) (z8 (z1Q K15 rfl (z7q (z0F (z0 5)) (z0a (z0 5))) (y8 7 nd) (z8 (y9 8 nd (z0v z9)) (z8 (z1Q K15 rfl (z7q (z0F (Z9 (Z9 (z0 1) Z1) (z0 7))) (z0a (Z9 (Z9 (z0 1) Z1) (z0 7)))) (y8 9 nd) (z8 (z4B 10 (N':=["_law_raw","_law_to","_law_one"]) (cap:=[some 5,some 9,none]) rfl .(8) (z0g rfl ZS.Uau (J5 rfl ZS.Ual (z6 (z0 5) z9))) (λ_ _ _ _=>(j7 2 (show (["_law_raw","_law_to","_law_one"]:List Str).Nodup by decide +kernel))) (λ_ _ _ _=>(z11 (sc_c (z2W (hu30 hr)) (Z9 (z0 0) (z0 2)) (z0 1)))) (λ_ _ _ _=>(z0 2)) nd) (z8 (y9 11 nd (Z9 (z0 10) (Z5 (Z8 ZS) (hr.mono .(1)) rfl (z6 (z0 0) (z6 (J5 rfl ZS.Ual (z6 (z0 10) z9)) z9))))) (z8 (y9 8 nd (Y0 (z0 8) (z02 (N':=["_law_sure","_law_pool_here","_law_one"]) (cap:=[some 11,some 0,none]) rfl .(8) (z7q (z0F (z0 10)) (z0a (z0 10))) (λ_ _ _ _=>(j7 2 (show (["_law_sure","_law_pool_here","_law_one"]:List Str).Nodup by decide +kernel))) (λ_ _ _ _=>(z11 (SW.sc (z3G (sc_c (z2W (hu30 hr)) (z0 2) (z0 0)) (z2s (sc_c z31 (Z5 (Z8 ZS) (hr.mono .(1)) rfl (z6 (z0 1) (z6 Z1 z9))) Z1)))))) (λ_ _ _ _=>(z0 2))))) Z3)))) (z8 (z2i (z0n (z0 6) (z1G (z0s rfl ZS.Uan (z6 (z6f rfl rfl ZS.Uar (z6 (z0 8) z9)) z9))))) Z3)))) (z8 (y0 (z0u (z6 (z0u (z6 (z0s rfl ZS.Uan (z6 (z0 6) z9)) (z6 (z1G (z0s rfl ZS.Uan (z6 (z02 (N':=["_law_base","_law_kind"]) (cap:=[some 1,none]) rfl .(8) (z7q (z0F (z0 5)) (z0a (z0 5))) (λ_ _ _ _=>(j7 1 (show (["_law_base","_law_kind"]:List Str).Nodup by decide +kernel))) (λ_ _ _ _=>z0p) (λ_ _ _ _=>(Z9 (Z9 (z0 0) Z1) (z0 1)))) z9))) z9))) (z6 (z0 5) z9)))) Z3)))))))
theorem z3C:Fn P w K mg base 2 "_law_made_cuts" 3 z1d :=
 dfC ["_law_pool_here","_law_machine_here","_law_names_here","_law_homes","_law_cuts","_law_k","_law_some","_law_cut","_law_by"] z0A ZS.Uby (ZS.Uzz _) .(2) rfl .(e) λhcd hr nd =>
  (z8 (z4B 3 (N':=["_law_one"]) (cap:=[none]) rfl .(8) (z7q (z0F (Z9 (z0 1) Z1)) (z0a (Z9 (z0 1) Z1))) (λ_ _ _ _=>(j7 0 (show (["_law_one"]:List Str).Nodup by decide +kernel))) (λ_ _ _ _=>z0p) (λ_ _ _ _=>Z1) nd) (z8 (y9 4 nd (z0v z9)) (z8 (z1Q K15 rfl (z0g rfl ZS.Uau (J5 rfl ZS.Ual (z6 (z0 3) z9))) (y8 5 nd) (z8 (y9 6 nd (z0v z9)) (z8 (z1Q K15 rfl (z0a (z16 rfl rfl ZS.Uar (z6 (z2a rfl rfl ZS.Uaq (z6 (z0 3) z9)) z9))) (y8 7 nd) (z8 (z1Q K15 rfl (z7q (z0F (Y0 (z0 2) (z16 rfl rfl ZS.Uar (z6 (z2a rfl rfl ZS.Uaq (z6 (z0 3) z9)) z9)))) (z0a (Y0 (z0 2) (z16 rfl rfl ZS.Uar (z6 (z2a rfl rfl ZS.Uaq (z6 (z0 3) z9)) z9))))) (y8 8 nd) (z8 (s_if (sc_c z8r (Z5 (z1L ZS) (hr.mono .(1)) rfl (z6 (z0 1) (z6 (z0 3) (z6 (z0 7) (z6 (z0 8) z9))))) z3a) (z8 (z2i (z0n (z0 6) (z0u (z6 (z0 7) (z6 (z0 8) z9))))) Z3) Z3) Z3)) Z3)) (z8 (s_if (sc_c z40 (J5 rfl ZS.Ual (z6 (z0 6) z9)) Z1) (z8 (z2i (z0n (z0 4) (Z9 (z0 6) (Z5 (Z8 ZS) (hr.mono .(1)) rfl (z6 (z0 0) (z6 (J5 rfl ZS.Ual (z6 (z0 6) z9)) z9)))))) (z8 (y9 3 nd (Z5 (z1L ZS) (hr.mono .(1)) rfl (z6 (z0 1) (z6 (z0 3) (z6 (Z9 (Z9 (z0 4) (z2A Z1)) Z1) (z6 (Z9 (Z9 (z0 4) (z2A Z1)) Z1) z9)))))) Z3)) Z3) Z3)))) (z8 (y0 (z0u (z6 (Z5 (z0C ZS) (hr.mono .(1)) rfl (z6 (z0 3) z9)) (z6 (z0s rfl ZS.Uan (z6 (z0 4) z9)) z9)))) Z3))))
theorem z4O:Fn P w K mg base 8 "_law_changed" 5 z1M :=
 dfN ["_law_pool_here","_law_choice","_law_machine_here","_law_names_here","_law_good","_law_kinds","_law_cuts","_law_at","_law_other","_law_pair"] z17 ZS.Ubz (ZS.Uzz _) .(2) rfl (λ_ _ _ _ _ _ us hl=>(by obtain⟨_,_,_,_,_,rfl⟩:=ar5 hl;rfl)) λhcd hr nd =>
  (z8 (z4K (z0 4) (z5d rfl (z0B (y8 5 nd) (z0B (y8 6 nd) z3L)))) (z8 (y9 7 nd (Z5 (Z8 ZS) (hr.mono .(1)) rfl (z6 (z0 0) (z6 (Y0 (J5 rfl ZS.Ual (z6 (z0 6) z9)) Z1) z9)))) (z8 (y9 8 nd (Z5 (Z8 ZS) (hr.mono .(1)) rfl (z6 (z0 0) (z6 (Y0 (J5 rfl ZS.Ual (z6 (z0 6) z9)) Z1) z9)))) (z8 (s_if (SW.sc (z2T (sc_c z31 (z0 1) Z1) (z30 (sc_c z9i (z0 7) (z0 8))))) (z8 (y0 (z0u (z6 (Z5 (z0C ZS) (hr.mono .(1)) rfl (z6 (Z5 (z2g ZS) (hr.mono .(1)) rfl (z6 (z0 2) (z6 (z0e (z0 6) z0V (z0P (z2A Z1))) z9))) z9)) (z6 (z0e (z0 6) z0V (z0P (z2A Z1))) z9)))) Z3) Z3) (z8 (s_if (sc_c z31 (z0 1) Z1) (z8 (y0 (z0u (z6 (z0 5) (z6 (z0e (z0 6) z0V (z0P (z2A Z1))) z9)))) Z3) Z3) (z8 (s_if (sc_c z31 (z0 1) Z1) (z8 (y0 (z0u (z6 (z0 5) (z6 (Y0 (z0e (z0 6) z0V (z0P (z0 7))) (zv9 (z0e (z0 6) (z0P (z0 7)) z0V) (z2A Z1))) z9)))) Z3) Z3) (z8 (s_if (sc_c z31 (z0 1) Z1) (z8 (y0 (z0u (z6 (z0 5) (z6 (Y0 (z0e (z0 6) z0V (z0P (z0 7))) (z0e (z0 6) (z0P (z0 8)) z0V)) z9)))) Z3) Z3) (z8 (s_if (sc_c z31 (z0 1) Z1) (z8 (y0 (z0u (z6 (Z5 (z0C ZS) (hr.mono .(1)) rfl (z6 (z02 (N':=["_law_pool_here","_law_one"]) (cap:=[some 0,none]) rfl .(8) (z7q (z0F (z0 5)) (z0a (z0 5))) (λ_ _ _ _=>(j7 1 (show (["_law_pool_here","_law_one"]:List Str).Nodup by decide +kernel))) (λ_ _ _ _=>z0p) (λ_ _ _ _=>(Z5 (Z8 ZS) (hr.mono .(1)) rfl (z6 (z0 0) (z6 Z1 z9))))) z9)) (z6 (z0 6) z9)))) Z3) Z3) (z8 (s_if (SW.sc (z3G (sc_c z40 (z0 1) Z1) (z2s (sc_c (z2W (hu30 hr)) (z0 7) (J5 rfl ZS.Ual (z6 (z0 6) z9)))))) (z8 (y0 (Z5 (z3W ZS 4) (hr.mono .(1)) rfl (z6 (z0 0) (z6 (z0 4) (z6 Z1 z9))))) Z3) Z3) (z8 (y9 9 nd (z0u (z6 (Z5 (Z8 ZS) (hr.mono .(1)) rfl (z6 (z0 0) (z6 (J5 rfl ZS.Ual (z6 (z0 5) z9)) z9))) (z6 (Z9 (Z9 (z0 6) (z0 7)) Z1) z9)))) (z8 (s_if (sc_c z31 (z0 1) Z1) (z8 (y9 9 nd (z0u (z6 (Z9 (Z9 (z0 6) (z0 7)) Z1) (z6 (Z9 (Y0 (z0v (z6 Z1 (z6 Z1 (z6 y3 (z6 y3 (z6 y3 z9)))))) (z0 3)) (Z5 (Z8 ZS) (hr.mono .(1)) rfl (z6 (z0 0) (z6 (Y0 Z1 (J5 rfl ZS.Ual (z6 (z0 3) z9))) z9)))) z9)))) Z3) Z3) (z8 (y0 (z0u (z6 (z0 5) (z6 (Y0 (Y0 (z0e (z0 6) z0V (z0P (z0 7))) (z0u (z6 (z0 9) z9))) (z0e (z0 6) (z0P (Y0 (z0 7) Z1)) z0V)) z9)))) Z3))))))))))))
end
theorem sc_law:FnScope ["_law_script","_law_pool_here","_law_choice","_law_names_here","_law_machine_here","_law_raw","_law_good","_law_thing","_law_kept","_law_due"] ["_law_script"] (y6 (top 43)):=⟨rfl,rfl,rfl,by decide +kernel,rfl,by decide +kernel,by decide +kernel⟩
theorem Z0F (g0:Int) (gr sm:List Int) (s c:Int) (r:AH) (n:Int) (hn:0<n) (hn2:n<1073741824) (hg:gr.length<=63):
 ∃gr',gr'.length<=gr.length+1/\Z4 [.ref 2,.int n] (Pool (g0::gr) sm s c r)=.ok (.int (g0 % n)) (Pool gr' sm s c r):=by
 unfold Z4 runF z1y Pool z1w;have hl:gr.length<=sizeLine:=K0d hg .(1);by_cases h0:g0 / n=0
 ·refine⟨gr,by omega,?_⟩;simp[Z0,bNil,sIf,sAsg,sRet,z15,e2,Z6,z7,aNil,eVar,fIx,seqD,getL,fLen,fGt,fCmp,fI,asB,gIx,gN,fSet,fDiv,fIC,eM1,z37,z3k,updL,fEq,eqD,fMod,atI,ixN,hn,hn2,h0,K5v,hl]
 ·refine⟨g0 / n::gr,by simp,?_⟩;simp[Z0,bNil,sIf,sAsg,sRet,z15,e2,Z6,z7,aNil,eVar,fIx,seqD,getL,fLen,fGt,fCmp,fI,asB,gIx,gN,fSet,fDiv,fIC,eM1,z37,z3k,updL,fEq,eqD,fMod,atI,ixN,hn,hn2,h0]
theorem Z17 (sm:List Int) (s c:Int) (r:AH) (n:Int) (hn:0<n) (hn2:n<1073741824) (hs:0<=s) (hs2:s<2147483647) (hc:0<=c) (hc2:c<1000000) (hm:sm.length<=63):
 ∃s' d,Z4 [.ref 2,.int n] (Pool [] sm s c r)=.ok (.int d) (Pool [] sm s' (c+1) r)/\0<=d/\d<n/\0<=s'/\s'<2147483647:=by
 have k1:-18446744073709551616<c+1:=by omega
 have k2:c+1<18446744073709551616:=by omega
 have k3:-18446744073709551616<s:=by omega
 have k4:s<18446744073709551616:=by omega
 have key:∀x:Int,(∃y:Int,Z4 [.ref 2,.int n] (Pool [] sm s c r)=.ok (.int ((((s * 48271+x % 2147483629 * ((c+1) * (c+1)+1)+97 * (c+1)) % 2147483647) ^ 5) % 2147483629 / 64 % n)) (Pool [] sm ((s * 48271+x % 2147483629 * ((c+1) * (c+1)+1)+97 * (c+1)) % 2147483647) (c+1) r)) ->
  ∃s' d,Z4 [.ref 2,.int n] (Pool [] sm s c r)=.ok (.int d) (Pool [] sm s' (c+1) r)/\0<=d/\d<n/\0<=s'/\s'<2147483647:=λx ⟨_,e⟩ =>
  ⟨_,_,e,K5i _ .(0),K4f _ hn,K5i _ .(1),K4f _ .(1)⟩
 have p1:∀z:Int,-18446744073709551616<z % 2147483647:=λz=>by omega
 have p2:∀z:Int,z % 2147483647<18446744073709551616:=λz=>by omega
 have p3:∀z:Int,-18446744073709551616<z % 2147483629:=λz=>by omega
 have p4:∀z:Int,z % 2147483629<18446744073709551616:=λz=>by omega
 cases sm with
 | nil =>
  refine key 0 ⟨0,?_⟩;unfold Z4 runF z1y Pool z1w;simp[Z0,bNil,sIf,sAsg,sRet,z15,e2,Z6,z7,aNil,eVar,fIx,seqD,getL,fLen,fGt,fCmp,fI,asB,gIx,gN,fSet,fDiv,fIC,eM1,z37,z3k,updL,fEq,eqD,fMod,fAdd,fMul,z5O,fPow,atI,ixN,hn,hn2,k1,k2,k3,k4,p1,p2,p3,p4]
 | cons m0 sm =>
  have hl:(0:Int)<(sm.length:Int)+1:=by omega
  have hi:0<=(c+1) % ((sm.length:Int)+1):=K5i _ .(0);have hi2:(c+1) % ((sm.length:Int)+1)<(sm.length:Int)+1:=K4f _ hl;obtain⟨x,hx⟩:∃x,(D.int m0::sm.map D.int)[((c+1) % ((sm.length:Int)+1)).toNat]?=.(i x):=by
   have e:(D.int m0::sm.map D.int)=(m0::sm).map D.int:=rfl;rw[e,K0k,K00 (by simp;omega)];exact⟨_,rfl⟩
  have hx2:∀hj,(D.int m0::List.map D.int sm)[((c+1) % ((sm.length:Int)+1)).toNat]'hj=D.int x:=λhj=>K1b ((K00 hj).symm.trans hx);refine key x ⟨0,?_⟩;unfold Z4 runF z1y Pool z1w;simp[Z0,bNil,sIf,sAsg,sRet,z15,e2,Z6,z7,aNil,eVar,fIx,seqD,getL,fLen,fGt,fCmp,fI,asB,gIx,gN,fSet,fDiv,fIC,eM1,z37,z3k,updL,fEq,eqD,fMod,fAdd,fMul,z5O,fPow,atI,ixN,hn,hn2,k1,k2,k3,k4,p1,p2,p3,p4,hi,hi2,hl,hx,hx2]
theorem draw {k n:Int}(p:PS h k r) (hk:k<1000000) (hn:0<n) (hn2:n<1073741824):∃d h',Z4 [.ref 2,.int n] h=.ok (.int d) h'/\0<=d/\d<n/\PS h' (k+1) r:=by
 obtain⟨gr,sm,s,c,rfl,h1,h2,h3,h4,h5,h6⟩:=p;cases gr with
 | nil =>
  obtain⟨s',d,e,q1,q2,q3,q4⟩:=Z17 sm s c r n hn hn2 h1 h2 h3 .(0) h6;exact⟨d,_,e,q1,q2,[],sm,s',c+1,rfl,q3,q4,by omega,by omega,by simp,h6⟩
 | cons g0 gr =>
  simp at h5;obtain⟨gr',l,e⟩:=Z0F g0 gr sm s c r n hn hn2 .(0);exact⟨_,_,e,K5i _ .(0),K4f _ hn,gr',sm,s,c,rfl,h1,h2,h3,by omega,by omega,h6⟩
theorem z04 {k n:Int}(p:PS h k r) (hk:k<1000000) (hn:0<n) (hn2:n<1073741824) (z:∀d h',0<=d->d<n->PS h' (k+1) r->Q (.int d) h'):W (Z4 [.ref 2,.int n]) h Q:=by
 obtain⟨d,h',e,d0,d1,p'⟩:=draw p hk hn hn2;exact⟨_,_,e,z d h' d0 d1 p'⟩
theorem zp1 {ns:List Int}(hn:ns.length<=63):W (z2Z [.fl (ns.map .int)]) [] (λd h'=>d=.ref 2/\PS h' 0 []):=by
 refine z2n ?_;show W (z2b [some (.fl (ns.map .int)),none]) [] _;unfold z2b z2d;rw[w_cons];simp only[K0b,K09,Z7,W_pure,J0,e2,eVar,gN,sAsg];have src:∀(γ:G) (h:AH),γ[0]?=some (some (.fl (ns.map .int)))->v8 .(h) γ h=.ok (.con (ns.map .int)) h:=λγ h e=>by
  unfold v8 eVar;rw[e];rfl
 refine W.of (z28 (src:=.con (ns.map .int)) (λd=>match d with|.int t=>decide (1000000000000000000<=t)|_=>false) (λd=>d) (src _ _ rfl) (λ_=>trivial) (by simp[Src.items];omega) λd hd=>?_) ?_
 ·obtain⟨t,ht,rfl⟩:=K07.mp hd;refine⟨[.(i t)],λh=>rfl,λj=>?_,λ_ j=>rfl⟩;simp only[K1,bindM,pureM,zS1,zZ9,Y6]
 rw[show (Src.con (ns.map D.int)).items=ns.map D.int from rfl,z2V];rw[w_cons];simp only[K5,K1,K08,Z7,W_pure,z7,aNil,Y9,eLst,eVar,sRet];refine W.of (z28 (src:=.con (ns.map .int)) (λd=>match d with|.int t=>decide (t<1000000000000000000)|_=>false) (λd=>d) (src _ _ rfl) (λ_=>trivial) (by simp[Src.items];omega) λd hd=>?_) ?_
 ·obtain⟨t,ht,rfl⟩:=K07.mp hd;refine⟨[.(i t)],λh=>rfl,λj=>?_,λ_ j=>rfl⟩;simp only[K1,bindM,pureM,zS1,z7l,Y6]
 rw[show (Src.con (ns.map D.int)).items=ns.map D.int from rfl,z2V];refine W.of (a:=.ref 2) (h':=Pool (ns.filter λi=>decide (1000000000000000000<=i)) (ns.filter λi=>decide (i<1000000000000000000)) 5 0 []) ?_ ?_
 ·unfold newL;rw[if_pos (by simp;decide)];rfl
 ·refine⟨rfl,_,_,5,0,rfl,by decide,by decide,by decide,by decide,?_,?_⟩
  ·exact K0d (K1o _ _) hn
  ·exact K0d (K1o _ _) hn
theorem zj6 {k:Int}{start:Str}(p:PS h k r) (hk:k<900000) (lo:low start) (hs:start.length<=4) (e:r[i]?=.(l (ns.map .str))) (hn:ns.length<=7):
 W (runF 9 z1u [.ref 2,.str start,.ref (i+3)]) h (λd h'=>∃x j,d=.str x/\PS h' (k+5) (r++j)/\z9m x/\x∉ns):=by
 refine z2n ?_;show W (z1u [.(r 2),.(s start),.(r (i+3)),none,none,none,none,none,none]) h _;unfold z1u;rw[show ("abcdefghijklmnopqrstuvwxyz":Str)=abc from rfl];rw[w_cons];simp only[K0b,K09,Z7,W_pure,J0,e2,eVar,gN,sAsg];rw[w_cons];simp only[K5,K1,K0b,K09,Z7,W_pure,J0,eVar,gN,sAsg];rw[w_cons];refine z0i (λc γ h=>∃x w,γ=[.(r 2),.(s start),.(r (i+3)),.(s abc),.(s x),w,none,none,none]/\PS h (k+1+c) r/\low x/\x.length<=4+c) (λ_ _=>False) ?_;simp only[K1,K02,K08,K0h,z05,Z7,Y7,W_pure,z7,aNil,J0,Y9,eFn,eVar,if_true];refine z04 p .(0) .(1) .(1) λd h1 d0 d1 p1=>?_;refine⟨d.toNat,by rw[K6u d0],by omega,⟨start,none,rfl,by simpa using p1,lo,by omega⟩,?_,?_,λ_ _ q=>q.elim⟩
 ·rintro c γ h2 hc ⟨x,w,rfl,p2,lx,hx⟩;rw[w_cons];simp only[K5,K1,K02,K08,K0b,K09,K0h,z05,Z7,Y7,W_pure,z7,aNil,J0,e2,eFn,eVar,gN,if_true,sAsg,z3d];refine z04 p2 .(0) .(1) .(1) λd h1 d0 d1 p1=>?_;refine z5Z (k:=k) (r:=r) d0 d1 .(0) ?_;refine⟨_,_,rfl,p1.up .(0),z7o lx .(0) .(0),by rw[len_app,z4t];omega⟩
 rintro γ h2 ⟨x,w,rfl,p2,lx,hx⟩;rw[w_cons];simp only[K1,K02,K08,K0b,K09,K0h,z05,Z7,Y7,W_pure,z7,aNil,J0,eFn,eVar,gN,if_true,sAsg];refine z04 (p2.up (show _<=k+4 by omega)) .(0) .(1) .(1) λl h3 l0 l1 p3=>?_;rw[w_cons];simp only[K0b,K09,Z7,W_pure,z7,aNil,J0,eLst,gN,sAsg];rw[show [D.str "yes",D.str "no",D.str "not",D.str "and",D.str "or",D.str "step",D.str "some",D.str "all",D.str "next",D.str "once",D.str "ever",D.str "until",D.str "unless"]=words.map D.str from rfl];refine z0M p3 .(1) λh4 p4=>?_;rw[w_cons];refine z0i (λc γ h=>∃w w',γ=[.(r 2),.(s start),.(r (i+3)),.(s abc),.(s x),w,.(i l),.(r (.(k)+3)),w']/\PS h (k+5) (r++[.lst (words.map .str)])/\∀c':Nat,c'<c->cand x l c'∈words\/cand x l c'∈ns) (λd h=>∃c:Nat,d=.str (cand x l c)/\cand x l c∉words/\cand x l c∉ns/\PS h (k+5) (r++[.lst (words.map .str)])) ?_;rw[W_pure];refine⟨26,rfl,by decide,⟨_,_,rfl,p4.up .(0),λc' hc=>by omega⟩,?_,?_,?_⟩
 ·rintro c γ h5 hc ⟨w,w',rfl,p5,hb⟩;rw[w_cons];simp only[K5,K1,K0b,K09,Z7,W_pure,z1U,J0,e2,eVar,gN,sAsg];have m1:fMod (.int (l+c)) (.int 26)=pure (.int ((l+c) % 26)):=rfl;rw[m1,W_pure];refine z5Z (k:=k) (r:=r) (K5i _ .(1)) (K4f _ .(1)) .(0) ?_;rw[w_cons];simp only[K0m,K5,K1,Z7,Y7,W_pure,cAnd,J0,if_false,sIf,z3d];refine W.of (zw6 p5 z0T) ?_;rw[Y6,W_pure];by_cases q1:cand x l c∈words
  ·have:(decide (x++{ cps:=#[((l+(c:Int)) % 26).toNat+97] }∈words) != true)=false:=by
    rw[show decide (x++{ cps:=#[((l+(c:Int)) % 26).toNat+97] }∈words)=true from .(g) q1];rfl
   rw[this];simp only[K0m,if_false];refine⟨_,_,rfl,p5,λc' hc'=>?_⟩;by_cases e':c'=c
   ·subst e';exact .inl q1
   ·exact hb c' .(0)
  ·have:(decide (x++{ cps:=#[((l+(c:Int)) % 26).toNat+97] }∈words) != true)=true:=by
    rw[show decide (x++{ cps:=#[((l+(c:Int)) % 26).toNat+97] }∈words)=false from .(m) q1];rfl
   rw[this];simp only[if_true];refine W.of (zw6 p5 (J7 e)) ?_;by_cases q2:cand x l c∈ns
   ·have:(decide (x++{ cps:=#[((l+(c:Int)) % 26).toNat+97] }∈ns) != true)=false:=by
     rw[show decide (x++{ cps:=#[((l+(c:Int)) % 26).toNat+97] }∈ns)=true from .(g) q2];rfl
    rw[this];simp only[K0m,W_pure,Y6,if_false];refine⟨_,_,rfl,p5,λc' hc'=>?_⟩;by_cases e':c'=c
    ·subst e';exact .inr q2
    ·exact hb c' .(0)
   ·have:(decide (x++{ cps:=#[((l+(c:Int)) % 26).toNat+97] }∈ns) != true)=true:=by
     rw[show decide (x++{ cps:=#[((l+(c:Int)) % 26).toNat+97] }∈ns)=false from .(m) q2];rfl
    rw[this];simp only[W_pure,Y6,if_true];rw[w_cons];simp only[K5,K1,Z7,W_pure,Y9,eVar,sRet];exact⟨c,rfl,q1,q2,p5⟩
 ·rintro γ h5 ⟨w,w',rfl,p5,hb⟩;exact(zS8 l0 hn hb).elim
 ·rintro d h5 ⟨c,rfl,q1,q2,p5⟩;refine⟨cand x l c,[.lst (words.map .str)],rfl,p5,⟨?_,?_,?_,q1⟩,q2⟩
  ·unfold cand;rw[len_app,z4t];omega
  ·unfold cand;rw[len_app,z4t];omega
  ·exact z7o lx .(0) .(0)
theorem zr2 {k:Int}{start:Str}(p:PS h k r) (c:CL r) (hk:k<900000) (lo:low start) (hs:start.length<=4) (e:r[i]?=.(l (ns.map .str))) (hn:ns.length<=7):
 W (z33 [.ref 2,.str start,.ref (i+3)]) h (λd h'=>∃x,d=.str x/\PS h' (k+5) r/\z9m x/\x∉ns) :=
 zh5 p c ((zj6 p hk lo hs e hn).mono λd h1 ⟨x,j,e,p1,g,n⟩=>⟨_,j,p1,by subst e;rfl,λh2 p2=>⟨x,e,p2,g,n⟩⟩)
theorem zi1 {k:Int}(p:PS h k r) (cl:CL r) (hk:k<800000) (hn:n<=8) (z:∀ns h',ns.length=n->NS ns->PS h' (k+45) (r++[.lst (ns.map .str)])->Q (.ref (r.length+3)) h'):
 W (z2u [.ref 2,.int n]) h Q:=by
 refine zO9 p cl ?_;refine z2n ?_;show W (z1E [.(r 2),.(i n),none,none,none,none]) h _;unfold z1E;rw[show ("abcdefghijklmnopqrstuvwxyz":Str)=abc from rfl];refine z7j (.str abc) _ rfl rfl ?_;refine z7j (.str "") _ rfl rfl ?_;rw[w_cons];refine z0i (λc γ h=>∃x w,γ=[.(r 2),.(i n),.(s abc),.(s x),w,none]/\PS h (k+1+c) r/\low x/\x.length<=c) (λ_ _=>False) ?_;refine zH6 p cl ?_;simp only[K1,K02,K08,K0b,K09,K0h,z05,Z7,Y7,W_pure,z7,aNil,J0,Y9,e2,eFn,eLst,eVar,if_true];refine z0M p .(1) λh1 p1=>?_;refine z04 p1 .(0) .(1) .(1) λd h2 d0 d1 p2=>?_;obtain⟨v,hv,ea⟩:∃v:Nat,v<=4/\atI [D.int 0,D.int 0,D.int 1,D.int 4] d=.(i v):=by
  have:d=0\/d=1\/d=2\/d=3:=by omega
  rcases this with rfl|rfl|rfl|rfl
  ·exact⟨0,by decide,rfl⟩
  ·exact⟨0,by decide,rfl⟩
  ·exact⟨1,by decide,rfl⟩
  ·exact⟨4,by decide,rfl⟩
 refine z9J p2 z0T ea ?_;refine⟨_,_,p2,rfl,λh2 p2=>⟨v,rfl,by omega,⟨_,none,rfl,by simpa using p2,zL4,by rw[zz5];omega⟩,?_,?_,λ_ _ q=>q.elim⟩⟩
 ·rintro c γ h3 hc ⟨x,w,rfl,p3,lx,hx⟩;rw[w_cons];simp only[K5,K1,K02,K08,K0b,K09,K0h,z05,Z7,Y7,W_pure,z7,aNil,J0,e2,eFn,eVar,gN,if_true,sAsg,z3d];refine z04 p3 .(0) .(1) .(1) λd h1 d0 d1 p1=>?_;refine z5Z (k:=k) (r:=r) d0 d1 .(0) ?_;refine⟨_,_,rfl,p1.up .(0),z7o lx .(0) .(0),by rw[len_app,z4t];omega⟩
 rintro γ h3 ⟨x,w,rfl,p3,lx,hx⟩;refine zl2 ?_;simp only[K0b,K09,Z7,W_pure,aNil,eLst];refine z0M p3 .(1) λh4 p4=>?_;rw[w_cons];refine z0i (λc γ h=>∃ns w,γ=[.(r 2),.(i n),.(s abc),.(s x),w,.(r (.(k)+3))]/\PS h (k+5+5 * c) (r++[.lst (ns.map .str)])/\ns.length=c/\NS ns) (λ_ _=>False) ?_;simp only[K5,K1,W_pure,J0,Y9,eVar];refine⟨n,rfl,by omega,⟨[],_,rfl,p4.up .(0),rfl,⟨K9j,by simp⟩⟩,?_,?_,λ_ _ q=>q.elim⟩
 ·rintro c γ h5 hc ⟨ns,w,rfl,p5,l5,n5⟩;rw[w_cons];simp only[K5,K1,K02,K08,K0b,K09,K0h,z5z,z05,Z7,Y7,W_pure,z7,aNil,J0,eFn,eM1,eVar,if_true,z15,z3d];refine z4E p5 z0T ?_;refine(zr2 p5 (cl.put (z2D ns)) .(0) lx .(0) z0T .(0)).mono λy h6 ⟨z,ey,p6,gz,nz⟩=>?_;subst ey;refine z8t p6 z0T (by simp;omega) λh7 p7=>?_;refine⟨ns++[z],_,rfl,?_,by simp[l5],⟨?_,?_⟩⟩
  ·have:=p7.up (k':=k+5+5 * ((c+1:Nat):Int)) .(0);simpa using this
  ·rw[K3x];refine⟨n5.1,by simp,λa ha b hb=>?_⟩;simp at hb;subst hb;exact λe=>nz (e ▸ ha)
  ·intro y hy;rcases K0i.mp hy with q|q
   ·exact n5.2 y q
   ·simp at q;subst q;exact gz
 ·rintro γ h5 ⟨ns,w,rfl,p5,l5,n5⟩;exact Z0S _ rfl ⟨k+45,_,.(k),_,rfl,p5.up .(0),K01 _,z0T,z2D ns,λh2 p2=>z ns h2 l5 n5 p2⟩
theorem zu0 {x:D}(e:seqD x h=.ok (stD l) h) (hl:l.length<=2000) (hd:(setN l).length<64):z4j [x] h=.ok (.tup (stD (setN l))) h:=by
 have dl:(dedN l).length=(setN l).length:=by unfold setN;rw[Y5]
 have e1:z0h [x] h=.ok .(u) (h++[.set (kN (dedN l))]):=by
  unfold z0h;dsimp only;rw[M.bind_ok e,z7Q];dsimp only;rw[if_pos (by rw[zz0];omega),zw1];rfl
 have e2:J4 [.ref h.length] (h++[.set (kN (dedN l))])=.ok (.ref (h.length+1)) (h++[.set (kN (dedN l)),.lst (stD (setN l))]):=by
  unfold J4;dsimp only;have g:getS h.length (h++[.set (kN (dedN l))])=.ok (kN (dedN l)) (h++[.set (kN (dedN l))]):=by
   unfold getS;rw[show (h++[O.set (kN (dedN l))])[h.length]?=some (.set (kN (dedN l))) by simp]
  rw[M.bind_ok g,z7I];dsimp only;rw[if_pos (by unfold zN;rw[K03];omega),z3w];unfold newL;rw[if_pos (by rw[j8,Y5];unfold sizeLine;omega)];simp[setN]
 have e3:z03 [.ref (h.length+1)] (h++[.set (kN (dedN l)),.lst (stD (setN l))])=.ok (.tup (stD (setN l))) (h++[.set (kN (dedN l)),.lst (stD (setN l))]):=by
  have ft:∀i:Nat,z03 [.ref i]=(do let x <- getL i;pure (.tup x)):=λ_=>rfl;rw[ft];have g:getL (h.length+1) (h++[.set (kN (dedN l)),.lst (stD (setN l))])=.ok (stD (setN l)) (h++[.set (kN (dedN l)),.lst (stD (setN l))]):=by
   unfold getL;rw[show (h++[O.set (kN (dedN l)),O.lst (stD (setN l))])[h.length+1]?=.(l ((stD (setN l)))) by simp]
  rw[M.bind_ok g];rfl
 have e4:clE (Z6 z03 (z7 (Z6 J4 (z7 (Z6 z0h (z7 .(h) aNil)) aNil)) aNil)) [some x] h=.ok (.tup (stD (setN l))) h:=by
  refine z0S (j:=[.set (kN (dedN l)),.lst (stD (setN l))]) ?_ (by simp only[Y1];exact z09 λ_=>rfl);exact j9 (j9 (j9 (show eVar 0 [some x] h=.ok x h from rfl) e1) e2) e3
 have e5:runF 1 z4e [x] h=.ok (.tup (stD (setN l))) h:=z2z (j3 (h1:=h) _ e4 ⟨rfl,rfl⟩);show cln (runF 1 z4e [x]) h=_;refine z0S (j:=[]) (by rw[K0w];exact e5) (by simp only[Y1];exact z09 λ_=>rfl)
theorem zu3 (e:h[n]?=.(l (stD l))) (hl:l.length<=2000) (hd:(setN l).length<64):z4j [.ref n] h=.ok (.tup (stD (setN l))) h:=zu0 (by unfold seqD getL;dsimp only;rw[e]) hl hd
theorem zT8 {m:M D}{k:Int}(p:PS h k r) (z:W m h λd h1=>∃k' j i o,d=.ref (i+3)/\PS h1 k' (r++j)/\r.length<=i/\(r++j)[i]?=some o/\refO 3 o=true/\∀h2,PS h2 k' (r++[o])->Q (.ref (r.length+3)) h2):W (cln m) h Q:=by
 obtain⟨d,h1,e,k',j,i,o,rfl,p1,hi,ei,rd,f⟩:=z;obtain⟨c1,c2⟩:=z5J p trivial p1;have l:=p.len;refine⟨.ref (.(k)+3),h1.take h.length++[o],?_,f _ (c2.app _)⟩;unfold cln;rw[e];dsimp only;rw[if_pos c1,if_neg (by simp only[Y1,decide_eq_true_eq];omega),p1.get,ei];dsimp only;rw[if_pos (show refO h.length o=true from zA5 .(0) rd),l]
theorem zP4 {k:Int}(p:PS h k r) (z:∀h',PS h' k (r++[.dK []])->Q (.ref (r.length+3)) h'):W (newK []) h Q :=
 ⟨.ref (r.length+3),h++[.dK []],by unfold newK;rw[if_pos .(f),p.len],z _ (p.app _)⟩
theorem zQ2 {k:Int}(p:PS h k r) (z:∀h',PS h' k (r++[.dK [(.inr "a",.int 1)]])->Q (.ref (r.length+3)) h'):W (z5a (λ_=>pure (.str "a")) .(4) γ) h Q:=by
 refine⟨.ref (.(k)+3),h++[.dK [(.inr "a",.int 1)]],?_,z _ (p.app _)⟩;show putO h.length (.str "a") (.int 1) (h++[.dK []])=_;unfold putO;rw[show keyD (.str "a")=some (.inr "a") from rfl];dsimp only;rw[x6];dsimp only;rw[z2U,p.len]
def OdT (B:Nat) (r0:Nat) (R:AH) (v:D):Prop:=(Y1 3 v=true/\Th [] B 2 100 v)\/∃i o,v=.ref (i+3)/\r0<=i/\R[i]?=some o/\refO 3 o=true/\∀r:AH,Th (r++[o]) B 2 100 (.ref (r.length+3))
theorem zO0 {k:Int}(p:PS h k r) (hk:k<900000) (hB:10 ^ 21+3<=B):W (z13 [.ref 2]) h (λd' h'=>∃j,Th (r++j) B 2 100 d'/\PS h' (k+1) (r++j)):=by
 have key:W (runF 2 z1Z [.ref 2]) h (λv h'=>∃j,OdT B .(k) (r++j) v/\PS h' (k+1) (r++j)):=by
  refine z2n ?_;show W (z1Z [.(r 2),none]) h _;unfold z1Z;have pw:fPow (.int 10) (.int 21)=pure (.int 1000000000000000000000):=rfl;rw[w_cons];simp only[K02,K08,K0b,K09,K0h,z05,Z7,Y7,W_pure,z7,aNil,z1U,J0,e2,eLst,eNeg,eTup,gN,pw,sAsg];rw[if_pos .(1)];refine z0M p .(1) λh1 p1=>?_;rw[if_pos .(1)];refine z0M p1 .(f) λh2 p2=>?_;refine zP4 p2 λh3 p3=>?_;generalize hl1:[D.non,D.bl true,D.bl false,D.str "a",D.str "",D.int (-1),D.int 40,D.int (1000000000000000000000+3),D.tup [],D.ref (.(k)+3),D.tup [D.int 0],D.ref ((r++[O.lst []]).length+3),D.ref ((r++[O.lst []]++[O.lst [D.int 0]]).length+3),D.str "Aa",D.str "no",D.str "abcdefghi"]=l1;have n1:l1.length=16:=by rw[<- hl1];rfl
  refine z0M p3 .(0) λh4 p4=>?_;rw[w_cons];simp only[K5,K1,K02,K08,K0b,K09,K0h,z05,Z7,Y7,W_pure,z7,aNil,J0,e2,eLst,eTup,eVar,gN,sAsg];rw[if_pos .(1),if_pos .(1)];refine zQ2 p4 λh5 p5=>?_;generalize hl2:[D.tup [D.str "a"],D.int 0,D.int 1,D.str "b c",D.tup [D.int 0,D.int 0],D.ref ((r++[O.lst []]++[O.lst [D.int 0]]++[O.dK []]++[O.lst l1]).length+3),D.str "z"]=l2;have n2:l2.length=7:=by rw[<- hl2];rfl
  refine z0M p5 .(0) λh6 p6=>?_;rw[zy1,Z7];have a4:(r++[O.lst []]++[O.lst [D.int 0]]++[O.dK []]++[O.lst l1]++[O.dK [(.inr "a",.int 1)]]++[O.lst l2])[(r++[O.lst []]++[O.lst [D.int 0]]++[O.dK []]).length]?=.(l l1):=J7 (J7 z0T);refine z4E p6 a4 ?_;rw[Z7];refine z4E p6 z0T ?_;refine z0M p6 (by rw[K04];omega) λh7 p7=>?_;rw[w_cons];simp only[K5,K1,K02,K08,K0h,z05,Z7,Y7,W_pure,z7,aNil,Y9,e2,eFn,eVar,if_true,sRet];refine z04 p7 .(0) .(1) .(1) λt h8 t0 t1 p8=>?_;obtain⟨v,mv,ev⟩:=z8R (xs:=l1++l2) t0 (by rw[K04,n1,n2];omega);refine z9J p8 z0T ev ?_;have fl:r++[O.lst []]++[O.lst [D.int 0]]++[O.dK []]++[O.lst l1]++[O.dK [(.inr "a",.int 1)]]++[O.lst l2]++[O.lst (l1++l2)]=r++[O.lst [],O.lst [D.int 0],O.dK [],O.lst l1,O.dK [(.inr "a",.int 1)],O.lst l2,O.lst (l1++l2)]:=by simp
  rw[fl]at p8;refine⟨_,?_,p8⟩;have at_:∀(R:AH) (i:Nat),(r++R)[.(k)+i]?=R[i]?:=λR i=>by rw[K1z .(0)];congr 1;omega
  have si:∀i:Int,i.natAbs<=10 ^ 21+3->OdT B r.length .(q) (.int i):=λi hi=>.inl ⟨rfl,by simp only[Th];omega⟩;have st:∀x:Str,(reprText x).length<=100->x.length<=1000->OdT B r.length .(q) (.str x):=λx h1 h2=>.inl ⟨rfl,by simp only[Th];exact⟨h1,h2⟩⟩;have rf:∀(i:Nat) (o:O),[O.lst [],O.lst [D.int 0],O.dK [],O.lst l1,O.dK [(.inr "a",.int 1)],O.lst l2,O.lst (l1++l2)][i]?=some o->refO 3 o=true->(∀q:AH,Th (q++[o]) B 2 100 (.ref (q.length+3)))->OdT B .(k) .(q) (.ref (.(k)+i+3)):=λi o e c f=>.inr ⟨.(k)+i,o,rfl,by omega,by rw[at_];exact e,c,f⟩;have ti:∀i:Nat,i<=40->Th [] B 1 40 (.int (i:Nat)):=λi hi=>by simp only[Th];omega
  have m1:∀v∈l1,OdT B .(k) .(q) v:=by
   rw[show l1=_ from hl1.symm];simp only[K9r];rw[hl1];refine⟨.inl ⟨rfl,by simp[Th]⟩,.inl ⟨rfl,by simp[Th]⟩,.inl ⟨rfl,by simp[Th]⟩,st _ .(2) .(2),st _ .(2) .(2),si _ .(1),si _ .(1),si _ .(1),.inl ⟨rfl,by simp only[Th];exact⟨0,trivial,by omega⟩⟩,rf 0 (.lst []) rfl rfl λq=>?_,.inl ⟨rfl,by simp only[Th];exact⟨42,Ths.one (ti 0 .(0)),by omega⟩⟩,?_,?_,st _ .(2) .(2),st _ .(2) .(2),st _ .(2) .(2),by simp⟩
   ·simp only[Th];exact⟨q.length,rfl,.inl ⟨[],0,z0T,trivial,by omega⟩⟩
   ·rw[show (r++[O.lst []]).length=r.length+1 by simp];exact rf 1 (.lst [.int 0]) rfl rfl λq=>by simp only[Th];exact⟨q.length,rfl,.inl ⟨[.int 0],42,z0T,Ths.one (n:=40) (by simp only[Th];omega),by omega⟩⟩
   ·rw[show (r++[O.lst []]++[O.lst [D.int 0]]).length=r.length+2 by simp];exact rf 2 (.dK []) rfl rfl λq=>by simp only[Th];exact⟨q.length,rfl,.inr ⟨.inl z0T,by omega⟩⟩
  have m2:∀v∈l2,OdT B .(k) .(q) v:=by
   rw[show l2=_ from hl2.symm];simp only[K9r];rw[hl2];refine⟨.inl ⟨rfl,by simp only[Th];exact⟨42,Ths.one (n:=40) (by simp only[Th];exact⟨by decide +kernel,by decide +kernel⟩),by omega⟩⟩,si _ .(1),si _ .(1),st _ .(2) .(2),.inl ⟨rfl,by simp only[Th];exact⟨84,⟨40,42,ti 0 .(0),Ths.one (ti 0 .(0)),by omega⟩,by omega⟩⟩,?_,st _ .(2) .(2),by simp⟩;rw[show (r++[O.lst []]++[O.lst [D.int 0]]++[O.dK []]++[O.lst l1]).length=r.length+4 by simp];exact rf 4 (.dK [(.inr "a",.int 1)]) rfl rfl λq=>by simp only[Th];exact⟨q.length,rfl,.inr ⟨.inr ⟨z0T,by omega⟩,by omega⟩⟩
  rcases K0i.mp mv with q|q
  ·exact m1 v q
  ·exact m2 v q
 obtain⟨v,h1,e,j,od,p1⟩:=key;have nk:∀r:AH,Kp [] r:=λr n o e=>by cases e
 rcases od with ⟨c,t⟩|⟨i,o,rfl,hi,ei,c,t⟩
 ·exact zh5 p trivial ⟨v,h1,e,k+1,j,p1,c,λh2 p2=>⟨[],by rw[K0w];exact Th.mono (nk r) (K01 _) (K01 _) (K01 _) t,by rw[K0w];exact p2⟩⟩
 ·exact zT8 p ⟨_,h1,e,k+1,j,i,o,rfl,p1,hi,ei,c,λh2 p2=>⟨[o],t r,p2⟩⟩
theorem Ths.split {P:Nat->D->Prop}:∀{n:Nat}{xs ys:List D},Ths P n (xs++ys)->∃a b,a+b<=n/\Ths P a xs/\Ths P b ys
 | n,[],ys,t=>⟨0,n,by omega,trivial,t⟩
 | n,x::xs,ys,⟨a,b,h1,h2,h3⟩=>by
  obtain⟨c,d,e,t1,t2⟩:=Ths.split h2;exact⟨a+c+2,d,by omega,⟨a,c,h1,t1,by omega⟩,t2⟩
theorem z8d {k:Int}(v:Th r B m n d) (p:PS h k r) (q:Q (.bl (isOf T d)) h) (h1:subT "list" T=false:=by decide) (h2:subT "dict" T=false:=by decide):W (fIsi T d) h Q:=W.of (z6Q v h1 h2 p (Kp.refl _)) q
theorem Th.items (v:Th r B m n (.tup xs)):∃m' a,m=m'+1/\Ths (Th r B m') a xs/\a+4<=n:=by
 cases m with
 | zero=>simp only[Th]at v
 | succ m=>simp only[Th]at v;obtain⟨a,h1,h2⟩:=v;exact⟨m,a,rfl,h1,h2⟩
theorem Th.tuple (v:Ths (Th r B m) a xs) (h:a+4<=n):Th r B (m+1) n (.tup xs):=by simp only[Th];exact⟨a,v,h⟩
theorem Th.num {i:Int}(h:i.natAbs<=B) (hm:1<=m) (hn:40<=n):Th r B m n (.int i):=by
 cases m with
 | zero=>omega
 | succ m=>simp only[Th];exact⟨h,hn⟩
theorem Th.numI {i:Int}(v:Th r B m n (.int i)):i.natAbs<=B/\1<=m/\40<=n:=by
 cases m with
 | zero=>simp only[Th]at v
 | succ m=>simp only[Th]at v;omega
theorem z9N:∀(f deep:Nat) {h:AH}{k:Int}{r:AH}{d:D}{B m n:Nat},PS h k r->k+10 * f<800000->Th r B m n d->10 ^ 21+3<=B->n<=100000->deep<f ->
 W (z0D f [.ref 2,d,.int deep]) h (λd' h'=>∃j,Th (r++j) (B+2) (max m (deep+3)) (2 * n+110) d'/\PS h' (k+10 * f) (r++j))
 | 0,deep,h,k,r,d,B,m,n,p,hk,v,hB,hn,hd=>by omega
 | f+1,deep,h,k,r,d,B,m,n,p,hk,v,hB,hn,hd=>by
  refine z2n ?_;show W (z27 (z0D f) [.(r 2),some d,.(i deep),none,none,none]) h _;unfold z27;have rest:∀(h1:AH) (k1:Int),PS h1 k1 r->k1<=k+1->W ((Z0 (sAsg (eFn 2 Z4 (z7 .(h) (z7 (λ_=>pure (.int 3)) aNil))) (gN 4)) (Z0 (sIf (cAnd (cVal (eIsi "tuple" .(l))) (λγ=>do let d <- e2 fGt (eVar 4) .(3) γ;asB d)) (Z0 (sAsg (eFn 2 Z4 (z7 .(h) (z7 (λ_=>pure (.int 6)) aNil))) (gN 5)) (Z0 (sIf (λγ=>do let d <- e2 (fEq false) (eVar 5) .(3) γ;asB d) (Z0 (sRet (Z6 z5M (z7 .(l) aNil))) bNil) bNil) (Z0 (sIf (λγ=>do let d <- e2 (fEq false) (eVar 5) .(4) γ;asB d) (Z0 (sRet (e2 fAdd .(l) (eTup (z7 (eFn 1 z13 (z7 .(h) aNil)) aNil)))) bNil) bNil) (Z0 (sRet (e2 fIx (eLst (z7 (z01 .(l) z1c (z12 (eNeg .(4)))) (z7 (eRev .(l) (eNeg .(4))) (z7 (e2 fAdd .(l) (z01 .(l) (z12 (eNeg .(4))) z1c)) (z7 (z01 .(l) (z12 .(4)) z1c) aNil))))) (e2 fSub (eVar 5) .(t)))) bNil)))) bNil) (Z0 (sIf (cAnd (cVal (eIsi "int" .(l))) (cAnd (cNot (cVal (eIsi "bool" .(l)))) (λγ=>do let d <- e2 fGt (eVar 4) .(3) γ;asB d))) (Z0 (sRet (e2 fAdd .(l) (e2 fIx (eLst (z7 .(4) (z7 (eNeg .(4)) (z7 .(t) (z7 (e2 fSub .(3) .(l)) aNil))))) (eFn 2 Z4 (z7 .(h) (z7 (λ_=>pure (.int 4)) aNil)))))) bNil) bNil) (Z0 (sRet (eFn 1 z13 (z7 .(h) aNil))) bNil)))) [.(r 2),some d,.(i deep),none,none,none]) h1 (runW λd' h'=>∃j,Th (r++j) (B+2) (max m (deep+3)) (2 * n+110) d'/\PS h' (k+10 * ((f+1:Nat):Int)) (r++j)):=by
   intro h1 k1 p1 hk1;rw[w_cons];simp only[K1,K02,K08,K0b,K09,K0h,z05,Z7,Y7,W_pure,z7,aNil,J0,e2,eFn,eVar,gN,if_true,sAsg];refine z04 p1 .(0) .(1) .(1) λway h2 w0 w1 p2=>?_;rw[w_cons];simp only[K0m,K5,K1,Z7,Y7,W_pure,Y6,cAnd,cVal,J0,eIsi,eVar,z42,if_false,sIf,z3d];have odd:∀(h3:AH) (k3:Int),PS h3 k3 r->k3<=k+5->W (z13 [.ref 2]) h3 (λd' h'=>∃j,Th (r++j) (B+2) (max m (deep+3)) (2 * n+110) d'/\PS h' (k+10 * ((f+1:Nat):Int)) (r++j)):=λh3 k3 p3 hk3 =>
    (zO0 (B:=B) p3 .(0) hB).mono λd' h' ⟨j,v',p'⟩=>⟨j,Th.mono (Kp.refl _) .(0) .(0) .(0) v',p'.up .(0)⟩
   refine z8d v p2 ?_;rw[z39];cases ht:tupB d with
   | false =>
    simp only[K0m,W_pure,if_false,z1m];rw[w_cons];simp only[K0m,K5,K1,Z7,Y7,W_pure,Y6,cAnd,cNot,cVal,J0,eIsi,eVar,z42,if_false,sIf,z3d];refine z8d v p2 ?_;have ni:=z6d d;cases hi:isOf "int" d with
    | false =>
     simp only[K0m,W_pure,if_false,z1m];rw[w_cons];simp only[K1,K02,K08,K0h,z05,Z7,Y7,W_pure,z7,aNil,Y9,eFn,eVar,if_true,sRet];exact odd _ _ p2 .(0)
    | true =>
     simp only[W_pure,if_true,z1m];refine z8d v p2 ?_;cases hb:isOf "bool" d with
     | true =>
      simp only[K0m,K48,W_pure,if_false,z1m];rw[w_cons];simp only[K1,K02,K08,K0h,z05,Z7,Y7,W_pure,z7,aNil,Y9,eFn,eVar,if_true,sRet];exact odd _ _ p2 .(0)
     | false =>
      simp only[K2l,W_pure,if_true,z1m];rw[hi,hb]at ni;cases d<;>first|(cases ni;done)|skip
      rename_i i;obtain⟨v1,v2,v3⟩:=v.numI;split
      ·rw[w_cons];simp only[K5,K1,K02,K08,K0h,z05,Z7,Y7,W_pure,z7,aNil,Y9,e2,eFn,eLst,eNeg,eVar,if_true,sRet,z8y];refine z0M p2 .(f) λh3 p3=>?_;refine z04 p3 .(0) .(1) .(1) λt h4 t0 t1 p4=>?_;obtain⟨x,hx,ex⟩:=z8R (xs:=[D.int 1,D.int (-1),D.int 2,D.int (0 - i)]) t0 (by simpa using t1);refine z9J p4 z0T ex ?_;obtain⟨y,rfl,hy⟩:∃y,x=.int y/\(i+y).natAbs<=B+2:=by
        simp only[K12,K3k,or_false]at hx;rcases hx with rfl|rfl|rfl|rfl<;>exact⟨_,rfl,by omega⟩
       rw[z1U,W_pure];exact⟨_,Th.num hy .(0) .(0),p4.up .(0)⟩
      ·rw[w_cons];simp only[K1,K02,K08,K0h,z05,Z7,Y7,W_pure,z7,aNil,Y9,eFn,eVar,if_true,sRet];exact odd _ _ p2 .(0)
   | true =>
    obtain⟨xs,rfl⟩:∃xs,d=.tup xs:=by
     cases d<;>first|(cases ht;done)|skip
     exact⟨_,rfl⟩
    have sl:∀lo hi,fSl (.tup xs) lo hi=pure (.tup (cutD xs lo hi)):=λ_ _=>rfl;have rv:fRev (.tup xs)=pure (.tup xs.reverse):=rfl;obtain⟨m',a,rfl,va,ha⟩:=v.items;have ls:=va.len;have up:∀{j:AH} {ys:List D} {b:Nat},Ths (Th r B m') b ys->b+4<=2 * n+110->Th (r++j) (B+2) (max (m'+1) (deep+3)) (2 * n+110) (.tup ys):=λ{j ys b} t hb =>
     Th.mono (B:=B) (m:=m'+1) (Kp.app _ _) .(0) .(0) (K01 _) (Th.tuple t hb)
    have s9:subT "tuple" "int" = false:=by decide
    simp only[W_pure,if_true,z1m];split
    ·rw[w_cons];simp only[K1,K02,K08,K0b,K09,K0h,z05,Z7,Y7,W_pure,z7,aNil,J0,eFn,eVar,gN,if_true,sAsg];refine z04 p2 .(0) .(1) .(1) λt h3 t0 t1 p3=>?_;rw[w_cons];simp only[K5,K1,Z7,Y7,W_pure,Y6,J0,z7G,sIf,z3d];by_cases c0:t=0
     ·rw[.(g) c0];simp only[K2l,K86,if_true];rw[w_cons];simp only[K5,K1,Z7,W_pure,z7,aNil,Y9,Z6,eVar,Z06,sRet];refine z0M p3 .(0) λh4 p4=>?_;have z:Th (r++[.lst xs]) B (m'+1) n (.ref (.(k)+3)):=by
       simp only[Th];exact⟨.(k),rfl,.inl ⟨xs,a,z0T,va.imp λb d t=>Th.mono (Kp.app _ _) (K01 _) (K01 _) (K01 _) t,ha⟩⟩
      exact⟨[.lst xs],Th.mono (Kp.refl _) .(0) .(0) .(0) z,p4.up .(0)⟩
     ·rw[.(m) c0];simp only[K77,K0m,if_false];rw[w_cons];simp only[K5,K1,Z7,Y7,W_pure,Y6,J0,z7G,sIf,z3d];by_cases c1:t=1
      ·rw[.(g) c1];simp only[K2l,K86,if_true];rw[w_cons];simp only[K5,K1,K02,K08,K0h,z05,Z7,Y7,W_pure,z7,aNil,Y9,e2,eFn,eTup,eVar,if_true,sRet];refine(zO0 (B:=B) p3 .(0) hB).mono λy h4 ⟨j,v4,p4⟩=>?_;rw[if_pos .(1),z6R (by simp;omega),W_pure];refine⟨j,?_,p4.up .(0)⟩;have t1:Ths (Th (r++j) (B+2) (max m' 2)) a xs:=va.imp λb d t=>Th.mono (Kp.app _ _) .(0) .(0) (K01 _) t;have t2:Ths (Th (r++j) (B+2) (max m' 2)) 102 [y]:=Ths.one (Th.mono (Kp.refl _) .(0) .(0) (K01 _) v4);exact Th.mono (Kp.refl _) (K01 _) .(0) (K01 _) (Th.tuple (t1.app t2) .(0))
      ·rw[.(m) c1];simp only[K77,K0m,if_false];have cl:=zj3 xs (some (-1)) none;rw[w_cons];simp only[K5,K1,Z7,W_pure,z7,aNil,z6R (x:=xs) (y:=cutD xs (some (-1)) none) .(0),Y9,e2,eLst,eNeg,eRev,z01,eVar,if_true,z1c,z12,rv,sRet,sl,z8y];refine z0M p3 .(f) λh4 p4=>?_;obtain⟨x,hx,ex⟩:=z8R (xs:=[D.tup (cutD xs none (some (-1))),D.tup xs.reverse,D.tup (xs++cutD xs (some (-1)) none),D.tup (cutD xs (some 1) none)]) (i:=t - 2) .(0) (by simp;omega);refine z9J p4 z0T ex ?_;refine⟨_,?_,p4.up .(0)⟩;simp only[K12,K3k,or_false]at hx;rcases hx with rfl|rfl|rfl|rfl
       ·exact up (va.sub (z67 _ _ _)) .(0)
       ·exact up va.rev .(0)
       ·exact up (va.app (va.sub (z67 _ _ _))) .(0)
       ·exact up (va.sub (z67 _ _ _)) .(0)
    ·rw[w_cons];simp only[K0m,K5,K1,Z7,Y7,W_pure,Y6,cAnd,cNot,cVal,J0,eIsi,eVar,z42,if_false,z9Y,s9,sIf,z1m,z3d];rw[w_cons];simp only[K1,K02,K08,K0h,z05,Z7,Y7,W_pure,z7,aNil,Y9,eFn,eVar,if_true,sRet];exact odd _ _ p2 .(0)
  rw[w_cons];simp only[K0m,K5,K1,K02,K08,K0h,z05,Z7,Y7,W_pure,z7,aNil,Y6,cAnd,cVal,J0,e2,Z6,eFn,eIsi,eVar,z42,if_false,if_true,sIf,z3d];refine z8d v p ?_;rw[z39];cases ht:tupB d with
  | false =>
   simp only[K0m,W_pure,if_false,z1m];exact rest h k p .(0)
  | true =>
   obtain⟨xs,rfl⟩:∃xs,d=.tup xs:=by
    cases d<;>first|(cases ht;done)|skip
    exact⟨_,rfl⟩
   obtain⟨m',a,rfl,va,ha⟩:=v.items;have ls:=va.len;simp only[W_pure,Y6,z42,if_true,z1z,z1m];split
   ·rename_i c0;have l0:0<xs.length:=by have:=of_decide_eq_true c0;omega
    split
    ·rename_i c1;have d0:0<deep:=by have:=of_decide_eq_true c1;omega
     refine z04 p .(0) .(1) .(1) λt h1 t0 t1 p1=>?_;simp only[W_pure,Y6,z42];split
     ·rw[w_cons];simp only[K5,K1,K02,K08,K0b,K09,K0h,z05,Z7,Y7,W_pure,z7,aNil,J0,Z6,eFn,eVar,gN,if_true,z1z,sAsg];refine z04 p1 .(0) .(0) .(0) λc h2 a0 a1 p2=>?_;obtain⟨c,rfl⟩:=K0v a0;have hc:c<xs.length:=by omega
      have ex:atI xs (c:Int)=some xs[c]:=z1x (K00 hc);have sl:∀lo hi,fSl (.tup xs) lo hi=pure (.tup (cutD xs lo hi)):=λ_ _=>rfl;have cut:xs.take c++(xs[c]::xs.drop (c+1))=xs:=by rw[K8x,K4s]
      rw[<- cut]at va;obtain⟨b1,b2,hb,t1,x1,b3,tx,t3,hb3⟩:=va.split;rw[w_cons];simp only[K5,K1,K02,K08,K0h,z05,Z7,Y7,W_pure,z7,aNil,z1U,Y9,e2,eFn,z01,eTup,eVar,if_true,ix_tup ex,z1c,z12,sRet,sl,z8y];rw[show (deep:Int) - 1=((deep - 1:Nat):Int) by omega];refine(z9N f (deep - 1) p2 .(0) tx hB .(0) .(0)).mono λy h3 ⟨j,v3,p3⟩=>?_;have e1:cutD xs none (some (c:Int))=xs.take c:=zv2 _ _;have e2':cutD xs (some ((c:Int)+1)) none=xs.drop (c+1):=by rw[show (c:Int)+1=((c+1:Nat):Int) by omega];exact zy4 _ _
      rw[if_pos .(1),e1,e2',z6R (by simp;omega),W_pure,z6R (by simp;omega),W_pure];refine⟨j,?_,p3.up .(0)⟩;have mm:∀{ys:List D} {b:Nat},Ths (Th r B m') b ys->Ths (Th (r++j) (B+2) (max m' (deep+2))) b ys:=λ{ys b} t=>t.imp λb d t=>Th.mono (Kp.app _ _) .(0) .(0) (K01 _) t;have ty:Ths (Th (r++j) (B+2) (max m' (deep+2))) (2 * x1+110+2) [y]:=Ths.one (Th.mono (Kp.refl _) (K01 _) .(0) (K01 _) v3);exact Th.mono (Kp.refl _) (K01 _) .(0) (K01 _) (Th.tuple (((mm t1).app ty).app (mm t3)) (n:=2 * n+110) .(0))
     ·exact rest _ _ p1 .(0)
    ·exact rest _ _ p .(0)
   ·exact rest _ _ p .(0)
structure RowC (raw:List Nat) (tos:List Nat) (A:List Nat):Prop where
 nd:A.Nodup
 lt:∀o∈A,o<raw.length
 a:∀o∈A,rowAt raw o∈tos
 b:∀t∈tos,∃o∈A,rowAt raw o=t
def z0O (raw:List Nat) (t:Nat):List Nat:=(K9 raw.length).filter λo=>decide (rowAt raw o=t)
theorem mates_mem {t o:Nat}:o∈z0O raw t↔o<raw.length/\rowAt raw o=t:=by
 unfold z0O;rw[K0p,K0r,decide_eq_true_eq]
theorem zq3 (raw:List Nat) (t:Nat):(z0O raw t).Nodup:=K2z _ K6l
theorem zl9 (raw:List Nat) (t:Nat):(z0O raw t).length<=raw.length:=by
 unfold z0O;exact K0d (K1o _ _) .(f)
theorem RowC.put {tos A B:List Nat}{t s:Nat}(c:RowC raw tos A) (nt:t∉tos) (sb:B.Sublist (z0O raw t)) (sm:s∈B):RowC raw (tos++[t]) (A++B) :=
 have bm:∀o∈B,o<raw.length/\rowAt raw o=t:=λo ho=>mates_mem.mp (sb.subset ho)
 ⟨by
  rw[K3x];refine⟨c.nd,sb.nodup (zq3 raw t),λx hx y hy e=>?_⟩;subst e;have:=c.a x hx;rw[(bm x hy).2]at this;exact nt this,λo ho=>by
  rcases K0i.mp ho with q|q
  ·exact c.lt o q
  ·exact(bm o q).1,λo ho=>by
  rcases K0i.mp ho with q|q
  ·exact K1k _ (c.a o q)
  ·rw[(bm o q).2];simp,λu hu=>by
  rcases K0i.mp hu with q|q
  ·obtain⟨o,ho,e⟩:=c.b u q;exact⟨o,K1k _ ho,e⟩
  ·simp at q;subst q;exact⟨s,K0t _ sm,(bm s sm).2⟩⟩
theorem zS7 {k:Int}{l:AH}{M:List Nat}{s:Nat}(p:PS h k (r++l)) (hk:k<900000) (hM:M.length<=40) (e0:γ[0]?=some (.(r 2))) (e10:γ[10]?=some (.(r (b+3)))) (e11:γ[11]?=some (.(i s))) (eb:(r++l)[b]?=.(l (stD M))){Q:D->AH->Prop}
 (z:∀B h',B.Sublist M->(s∈M->s∈B)->PS h' (k+M.length) (r++(l++[.lst (stD B)]))->Q (.ref (.(k)+l.length+3)) h') :
 W (x5 [some 11,some 0,none] (orE (z0c (eVar 10)) (v8 (eVar 10))) (gN 2) (cOr (λγ=>do let d <- e2 (fEqX false) (eVar 2) .(h) γ;asB d) (λγ=>do let d <- e2 (fEq false) (eFn 2 Z4 (z7 .(l) (z7 (λ_=>pure (.int 3)) aNil))) .(3) γ;asB d)) (eVar 2) γ) h Q:=by
 refine z8v (r:=r) (l:=l) (λc xs k'=>∃B:List Nat,xs=stD B/\B.Sublist (M.take c)/\(s∈M.take c->s∈B)/\k'=k+c) ?_;refine W.of (zA6 (Z2 e10) (by rw[p.get];exact eb)) ?_;refine⟨_,p,⟨[],rfl,by simp,by simp,by simp⟩,λh' k' xs' ph=>?_,?_,?_⟩
 ·show h'[b+3]?=_;rw[ph.get,<- K06,J7 eb]
 ·rintro c d h9 k9 xs' hd ⟨B,rfl,sb,sm,rfl⟩ p9;obtain⟨y,rfl,ey⟩:=z3c (show (stD M)[c]?=some d from hd);obtain⟨lc,ey'⟩:=K3.mp ey;have tk:M.take (c+1)=M.take c++[y]:=by rw[<- ey',K45 lc]
  have l8:B.length<=40:=K0d sb.length_le (by rw[K1t];omega);simp only[capG,K0x,K3w,e0,e10,e11,K52,K8f];have eq1:fEqX false (.int (y:Nat)) (.int (s:Nat))=pure (.bl (decide (y=s))):=funext λh=>by rw[z2r (z24 y s)];simp[pureM]
  simp only[K5,K1,K02,K08,K0b,K09,K0h,z05,Z7,Y7,W_pure,z7,aNil,Y6,cOr,e2,eFn,eVar,eq1,gN,if_true];by_cases q:y=s
  ·rw[.(g) q,if_pos rfl];refine⟨_,p9.up (show _<=k+((c+1:Nat):Int) by omega),by rw[j8];omega,B++[y],z32 _ _,by rw[tk];exact sb.append (K7r _),λ_=>?_,rfl⟩;simp[q]
  ·rw[.(m) q,if_neg .(1)];refine z04 p9 .(0) .(1) .(1) λt h10 t0 t1 p10=>?_;simp only[W_pure,Y6,z7G];by_cases q2:t=0
   ·rw[.(g) q2];simp only[K2l,K86,if_true];refine⟨_,p10,by rw[j8];omega,B++[y],z32 _ _,by rw[tk];exact sb.append (K7r _),λz=>?_,by omega⟩;rw[tk]at z;rcases K0i.mp z with q3|q3
    ·exact K1k _ (sm q3)
    ·simp at q3;exact absurd q3.symm q
   ·rw[.(m) q2];simp only[K77,K0m,if_false];refine⟨_,p10,B,rfl,by rw[tk];exact sb.trans (K5g _ _),λz=>?_,by omega⟩;rw[tk]at z;rcases K0i.mp z with q3|q3
    ·exact sm q3
    ·simp at q3;exact absurd q3.symm q
 rintro h9 xs' k9 ⟨B,rfl,sb,sm,rfl⟩ p9;rw[show (Src.lst (b+3) (stD M)).items.length=M.length by simp[Src.items,stD]]at sb sm p9;rw[K1w]at sb sm;exact z B h9 sb sm p9
theorem zz4 {t:Nat}(h:t<l.length):(stD l)[t]?=.(i (l[t]:Nat)):=by
 unfold stD;rw[K0k,K00 h];rfl
theorem zq6 {k:Int}(p:PS h k r) (hk:k<700000) (hb:bst.length<=5) (hmost:most<=6) (ba:MA bst bmk){Q:D->AH->Prop}
 (z:∀st mk raw h' j i,Cop bst bmk st mk raw->raw.length<=bst.length+most->PS h' (k+1000) (r++j)->(r++j)[i]?=.(l (stD raw))->Q (.tup [maD st mk,.ref (i+3)]) h') :
 W (z21 [.ref 2,maD bst bmk,.int most]) h Q:=by
 have b1:=ba.l1;have hl0:=p.len;refine zT9 ?_;refine z2n ?_;show W (z1s [.(r 2),some (maD bst bmk),.(i most),none,none,none,none,none,none,none,none,none]) h _;unfold z1s;refine z10 (λd h1=>d=.ref (.(k)+0+3)/\PS h1 k (r++[.lst (stD (K9 bst.length))])) ?_ ?_
 ·rw[zT5 (n:=bst.length) (by simp only[K5,K1,z7,aNil,z0d,e2,Z6,eVar,z2j,z1z,z1A]) .(0),if_neg .(1)];exact z0M p (by simp[z14];omega) λh1 p1=>⟨rfl,p1⟩
 rintro _ h1 ⟨rfl,p1⟩;refine z2o (λγ h=>∃K w,γ=[.(r 2),some (maD bst bmk),.(i most),.(r (.(k)+0+3)),w,none,none,none,none,none,none,none]/\PS h (k+8) (r++[.lst (stD K)])/\K.length<=bst.length+most/\∀x,x∈K↔x<bst.length) ?_ ?_
 ·refine z0i (λc γ h=>∃E w,γ=[.(r 2),some (maD bst bmk),.(i most),.(r (.(k)+0+3)),w,none,none,none,none,none,none,none]/\PS h (k+1+c) (r++[.lst (stD (K9 bst.length++E))])/\(∀x∈E,x<bst.length)/\E.length=c) (λ_ _=>False) ?_;simp only[K5,K1,K02,K08,K0b,K09,K0h,z05,Z7,Y7,W_pure,z7,aNil,z1U,e2,eFn,eVar,if_true];refine z04 p1 .(0) .(0) .(0) λd h2 d0 d1 p2=>?_;obtain⟨d,rfl⟩:=K0v d0;refine⟨d,rfl,by omega,⟨[],_,rfl,by simpa using p2,by simp,rfl⟩,?_,?_,λ_ _ q=>q.elim⟩
  ·rintro c γ h3 hc ⟨E,w,rfl,p3,e3,l3⟩;refine z52 (i:=0) rfl p3 rfl (by rw[j8];simp;omega) (λv k'=>∃x:Nat,v=.int x/\x<bst.length/\k'=k+1+c+1) ?_ ?_
   ·simp only[K5,K1,K02,K08,K0b,K09,K0h,z05,Z7,Y7,W_pure,z7,aNil,e2,Z6,eFn,eVar,if_true,z2j,z1z,z1A];refine z04 p3 .(0) .(0) .(0) λd h4 d0 d1 p4=>?_;obtain⟨d,rfl⟩:=K0v d0;exact⟨_,p4,d,rfl,by omega,rfl⟩
   rintro _ _ h4 ⟨x,rfl,hx,rfl⟩ p4;rw[K09,z32,K06]at p4;refine z0f ⟨E++[x],_,rfl,p4.up .(0),λy hy=>?_,by simp[l3]⟩;rcases K0i.mp hy with q|q
   ·exact e3 y q
   ·simp at q;omega
  ·rintro γ h3 ⟨E,w,rfl,p3,e3,l3⟩;refine⟨K9 bst.length++E,_,rfl,p3.up .(0),by simp;omega,λx=>?_⟩;rw[K0i,K0r];exact⟨λq=>q.elim id (e3 x),.inl⟩
 rintro γ h2 ⟨K,w,rfl,p2,lK,mK⟩;refine z10 (λd h1=>d=.ref (.(k)+1+3)/\PS h1 (k+8) (r++[.lst (stD K),.lst (stD [])])) ?_ ?_
 ·simp only[Z7,W_pure,aNil,eLst];exact z0M p2 .(1) λh3 p3=>⟨by simp,by rw[K06]at p3;exact p3⟩
 rintro _ h3 ⟨rfl,p3⟩;refine z2o (λγ h=>∃raw w,γ=[.(r 2),some (maD bst bmk),.(i most),.(r (.(k)+0+3)),w,.(r (.(k)+1+3)),none,none,none,none,none,none]/\PS h (k+20) (r++[.lst (stD []),.lst (stD raw)])/\raw.length<=bst.length+most/\∀x,x∈raw↔x<bst.length) ?_ ?_
 ·refine z0i (λc γ h=>∃K' R w,γ=[.(r 2),some (maD bst bmk),.(i most),.(r (.(k)+0+3)),w,.(r (.(k)+1+3)),none,none,none,none,none,none]/\PS h (k+8+c) (r++[.lst (stD K'),.lst (stD R)])/\(K'++R).Perm K/\R.length=c) (λ_ _=>False) ?_;simp only[K5,K1,K0b,K09,Z7,W_pure,z7,aNil,Z6,eVar];refine zg2 (i:=0) p3 rfl ?_;rw[j8];refine⟨K.length,rfl,by omega,⟨K,[],_,rfl,p3.up .(0),by simp,rfl⟩,?_,?_,λ_ _ q=>q.elim⟩
  ·rintro c γ h4 hc ⟨K',R,w,rfl,p4,pm,l4⟩;have lk:K'.length+R.length=K.length:=by have:=pm.length_eq;simpa using this
   refine zd6 ?_;simp only[K5,K1,K02,K08,K0b,K09,K0h,z5z,z05,Z7,Y7,W_pure,z7,aNil,Z6,eFn,eM1,eVar,if_true,z3d];refine z6u (i:=1) p4 rfl ?_;refine z6u (i:=0) p4 rfl ?_;refine zg2 (i:=0) p4 rfl ?_;rw[j8];refine z04 p4 .(0) .(0) .(0) λt h5 t0 t1 p5=>?_;obtain⟨t,rfl⟩:=K0v t0;have tl:t<K'.length:=by omega
   have pa:=zE4 (h:=h5) (i:=.(k)+0+3) (xs:=stD K') (by rw[p5.get];exact(at_E (i:=0)).trans rfl) (zz4 tl) (by rw[j8];omega);rw[z88]at pa;refine W_of pa ?_;have p6:=p5.set (.(k)+0) (.lst (stD (K'.eraseIdx t)));rw[zC2,K09]at p6;refine ze6 (i:=1) p6 rfl (by rw[j8];omega) λh7 p7=>?_;rw[K0b,K09,z32]at p7;refine⟨K'.eraseIdx t,R++[K'[t]],_,rfl,p7.up .(0),?_,by simp[l4]⟩;refine Z2z ?_ pm;rw[<- K06];refine(List.Perm.append_right _ K9d).trans ?_;rw[K06];refine(K9b R (zq9 tl)).trans K9d
  ·rintro γ h4 ⟨K',R,w,rfl,p4,pm,l4⟩;have lk:K'.length+R.length=K.length:=by have:=pm.length_eq;simpa using this
   have k0:K'=[]:=K2h.mp .(0);subst k0;exact⟨R,_,rfl,p4.up .(0),by omega,λx=>by rw[<- mK x];exact pm.mem_iff⟩
 rintro γ h4 ⟨raw,w,rfl,p4,lR,mR⟩;refine z10 (λd h1=>d=.ref (.(k)+2+3)/\PS h1 (k+20) (r++[.lst (stD []),.lst (stD raw),.lst (stsD [])])) ?_ ?_
 ·simp only[Z7,W_pure,aNil,eLst];exact z0M p4 .(1) λh3 p3=>⟨by simp,by rw[K06]at p3;exact p3⟩
 rintro _ h5 ⟨rfl,p5⟩;refine z2o (λγ h=>∃S j w7 w8 w9 w10 w11,γ=[.(r 2),some (maD bst bmk),.(i most),.(r (.(k)+0+3)),w,.(r (.(k)+1+3)),.(r (.(k)+2+3)),w7,w8,w9,w10,w11]/\PS h (k+1000) (r++(.lst (stD [])::.lst (stD raw)::.lst (stsD S)::j))/\S.length=raw.length/\∀i,i<raw.length->(nx S i).Pairwise (·<·)/\RowC raw (nx bst (rowAt raw i)) (nx S i)) ?_ ?_
 ·refine z1v (λc γ h=>∃S j w7 w8 w9 w10 w11,γ=[.(r 2),some (maD bst bmk),.(i most),.(r (.(k)+0+3)),w,.(r (.(k)+1+3)),.(r (.(k)+2+3)),w7,w8,w9,w10,w11]/\PS h (k+20+80 * c) (r++(.lst (stD [])::.lst (stD raw)::.lst (stsD S)::j))/\S.length=c/\∀i,i<c->(nx S i).Pairwise (·<·)/\RowC raw (nx bst (rowAt raw i)) (nx S i)) (λ_ _=>False) ?_;refine W_of (zA6 (xs:=stD raw) .(d) (by rw[p5.get,at_E];rfl)) ?_;refine⟨⟨[],[],_,_,_,_,_,rfl,p5.up .(0),rfl,λi hi=>by omega⟩,?_,?_,?_,λ_ _ q=>q.elim⟩
  ·rintro c γ h6 ⟨S,j,w7,w8,w9,w10,w11,rfl,p6,l6,s6⟩;show h6[.(k)+1+3]?=_;rw[p6.get,at_E];rfl
  ·rintro c d γ h6 hd ⟨S,j,w7,w8,w9,w10,w11,rfl,p6,l6,s6⟩;obtain⟨kd,rfl,ek⟩:=z3c (show (stD raw)[c]?=some d from hd);have hc:c<raw.length:=(K3.mp ek).1;have kl:kd<bst.length:=(mR kd).mp (K0j ek);have mem:nx bst kd∈bst:=K0j (za4 kl);have rs:=ba.s1 _ mem;have lts:=ba.s2 _ mem;have ln:=z4b rs lts;refine W_eq (v:=[.(r 2),some (maD bst bmk),.(i most),.(r (.(k)+0+3)),w,.(r (.(k)+1+3)),.(r (.(k)+2+3)),.(i kd),w8,w9,w10,w11]) rfl ?_;refine z10 (λd h1=>d=.ref (.(k)+(j.length+3)+3)/\PS h1 (k+20+80 * c) (r++(.lst (stD [])::.lst (stD raw)::.lst (stsD S)::(j++[.lst (stD [])])))) ?_ ?_
   ·simp only[Z7,W_pure,aNil,eLst];exact z0M p6 .(1) λh3 p3=>⟨by simp,by rw[K06]at p3;exact p3⟩
   rintro _ h7 ⟨rfl,p7⟩;refine z2o (λγ h=>∃A a j w9 w10 w11,γ=[.(r 2),some (maD bst bmk),.(i most),.(r (.(k)+0+3)),w,.(r (.(k)+1+3)),.(r (.(k)+2+3)),.(i kd),.(r (.(k)+a+3)),w9,w10,w11]/\PS h (k+20+80 * c+75) (r++(.lst (stD [])::.lst (stD raw)::.lst (stsD S)::j))/\(O.lst (stD [])::O.lst (stD raw)::O.lst (stsD S)::j)[a]?=.(l (stD A))/\RowC raw (nx bst kd) A) ?_ ?_
   ·refine z1v (λc' γ h=>∃A a j w9 w10 w11,γ=[.(r 2),some (maD bst bmk),.(i most),.(r (.(k)+0+3)),w,.(r (.(k)+1+3)),.(r (.(k)+2+3)),.(i kd),.(r (.(k)+a+3)),w9,w10,w11]/\PS h (k+20+80 * c+15 * c') (r++(.lst (stD [])::.lst (stD raw)::.lst (stsD S)::j))/\(O.lst (stD [])::O.lst (stD raw)::O.lst (stsD S)::j)[a]?=.(l (stD A))/\RowC raw ((nx bst kd).take c') A) (λ_ _=>False) ?_;refine W_of (zB8 (xs:=stD (nx bst kd)) (h1:=h7) ?_) ?_
    ·have:e2 fIx (e2 fIx .(l) .(3)) (eVar 7) [.(r 2),some (maD bst bmk),.(i most),.(r (r.length+0+3)),w,.(r (r.length+1+3)),.(r (r.length+2+3)),.(i kd),.(r ((r.length+(j.length+3)+3))),w9,w10,w11]=pure (.tup (stD (nx bst kd))):=by simp only[K5,K1,z0d,e2,eVar,z2j,z6v kl]
     exact congrFun this h7
    refine⟨⟨[],j.length+3,_,_,_,_,rfl,p7.up .(0),by simp,⟨by simp,by simp,by simp,by simp⟩⟩,λ_ _ _ _=>trivial,?_,?_,λ_ _ q=>q.elim⟩
    ·rintro c' d γ h8 hd ⟨A,a,j,w9,w10,w11,rfl,p8,ea,rc⟩;obtain⟨to,rfl,et⟩:=z3c (show (stD (nx bst kd))[c']?=some d from hd);obtain⟨hc',et'⟩:=K3.mp et;have tk:(nx bst kd).take (c'+1)=(nx bst kd).take c'++[to]:=by rw[<- et',K45 hc']
     have tn:to∉(nx bst kd).take c':=by
      have nd:=z3K rs;have:=nd.sublist (K7x (c'+1) (nx bst kd));rw[tk,K3x]at this;exact λq=>this.2.2 to q to .(f) rfl
     have tr:to∈raw:=(mR to).mpr (lts to (K0j et));have ml:=zl9 raw to;have m0:0<(z0O raw to).length:=K8w (mates_mem.mpr ⟨K1e.mpr tr,z1V tr⟩);have al:A.length<=raw.length:=z4L rc.nd rc.lt;refine W_eq (v:=[.(r 2),some (maD bst bmk),.(i most),.(r (.(k)+0+3)),w,.(r (.(k)+1+3)),.(r (.(k)+2+3)),.(i kd),.(r (.(k)+a+3)),.(i to),w10,w11]) rfl ?_;refine Y4 (.ref (.(k)+(j.length+3)+3)) [.(r 2),some (maD bst bmk),.(i most),.(r (.(k)+0+3)),w,.(r (.(k)+1+3)),.(r (.(k)+2+3)),.(i kd),.(r (.(k)+a+3)),.(i to),.(r ((.(k)+(j.length+3)+3))),w11] (h1:=h8++[.lst (stD (z0O raw to))]) ?_ rfl ?_
     ·have e8:h8[.(k)+1+3]?=.(l (stD raw)):=by rw[p8.get,at_E];rfl
      have l8:h8.length=r.length+(j.length+3)+3:=by rw[p8.len];simp
      refine(z0R (src:=.con (z14 raw.length)) (l:=K9 raw.length) (λo=>decide (rowAt raw o=to)) (λo=>.int o) (z3h (n:=raw.length) (j9 .(d) (by rw[z4H e8,j8])) .(0)) rfl (λ_=>trivial) (by simp;omega) λo ho=>⟨[.(r (r.length+1+3)),.(i to),.(i o)],λh=>rfl,λj=>?_,λ_ j=>rfl⟩).trans ?_
      ·have ho:o<raw.length:=by simpa using ho
       refine cb_h (e2_h (e2_h .(d) .(d) (ix_h (xs:=stD raw) (by rw[K0z (K3.mp e8).1];exact e8) (z7n ho))) .(d) ?_);refine(z2r (z24 (rowAt raw o) to)).trans ?_;rw[K1j]
      ·rw[l8];rfl
     have p9:=p8.app [.lst (stD (z0O raw to))];rw[K06]at p9;have e9:(r++(O.lst (stD [])::O.lst (stD raw)::O.lst (stsD S)::(j++[O.lst (stD (z0O raw to))])))[.(k)+(j.length+3)]?=.(l ((stD (z0O raw to)))):=by
      rw[at_E];simp
     refine z10 (λd h1=>∃s:Nat,d=.int s/\s∈z0O raw to/\PS h1 (k+20+80 * c+15 * c'+1) (r++(.lst (stD [])::.lst (stD raw)::.lst (stsD S)::(j++[.lst (stD (z0O raw to))])))) ?_ ?_
     ·simp only[K5,K1,K02,K08,K0h,z05,Z7,Y7,W_pure,z7,aNil,e2,Z6,eFn,eVar,if_true];refine zy7 p9 e9 ?_;rw[j8];refine z04 p9 .(0) .(0) .(0) λt h10 t0 t1 p10=>?_;obtain⟨t,rfl⟩:=K0v t0;refine z9J p10 e9 (z7n .(0)) ?_;exact⟨_,rfl,z2t .(0),p10⟩
     rintro _ h10 ⟨s,rfl,sm,p10⟩;refine z10 (λd h1=>∃B,d=.ref (.(k)+(j.length+5)+3)/\B.Sublist (z0O raw to)/\s∈B/\PS h1 (k+20+80 * c+15 * (c'+1:Nat)) (r++(.lst (stD [])::.lst (stD raw)::.lst (stsD S)::(j++[.lst (stD (z0O raw to)),.lst (stD B),.lst (stD (A++B))])))) ?_ ?_
     ·unfold FT.e2;rw[Z7];refine W_eq (v:=.ref (.(k)+a+3)) rfl ?_;rw[Z7];refine zS7 p10 .(0) .(0) rfl rfl rfl e9 λB h11 sb sB p11=>?_;have ea':((O.lst (stD [])::O.lst (stD raw)::O.lst (stsD S)::(j++[O.lst (stD (z0O raw to))]))++[O.lst (stD B)])[a]?=.(l (stD A)):=by
       rw[show ((O.lst (stD [])::O.lst (stD raw)::O.lst (stsD S)::(j++[O.lst (stD (z0O raw to))]))++[O.lst (stD B)])=(O.lst (stD [])::O.lst (stD raw)::O.lst (stsD S)::j)++[O.lst (stD (z0O raw to)),O.lst (stD B)] by simp,K0z (K3.mp ea).1];exact ea
      have bl:=sb.length_le;rw[show (O.lst (stD [])::O.lst (stD raw)::O.lst (stsD S)::(j++[O.lst (stD (z0O raw to))])).length=j.length+4 by simp];refine zX3 (i:=a) (j:=r.length+(j.length+4)) (ys:=stD B) p11 ea' (by rw[at_E];simp) (by rw[j8,j8];omega) λh12 p12=>?_;refine⟨B,by simp,sb,sB sm,?_⟩;rw[show stD A++stD B=stD (A++B) by simp[stD]]at p12;have:=p12.up (k':=k+20+80 * c+15 * (c'+1:Nat)) .(0);simpa using this
     rintro _ h12 ⟨B,rfl,sb,sB,p12⟩;refine z0f ⟨A++B,j.length+5,_,_,_,_,rfl,p12,by simp,?_⟩;rw[tk];exact rc.put tn sb sB
    ·rintro γ h8 ⟨A,a,j,w9,w10,w11,rfl,p8,ea,rc⟩;rw[show (Src.con (stD (nx bst kd))).items.length=(nx bst kd).length by simp[Src.items,stD]]at rc p8;rw[K1w]at rc;exact⟨A,a,j,w9,w10,w11,rfl,p8.up .(0),ea,rc⟩
   rintro γ h8 ⟨A,a,j,w9,w10,w11,rfl,p8,ea,rc⟩;have al:A.length<=raw.length:=z4L rc.nd rc.lt;refine z52 (i:=2) rfl p8 rfl (by rw[z1A];omega) (λv k'=>v=.tup (stD (z0G A))/\k'=k+20+80 * c+75) ?_ ?_
   ·refine W_of (z0S (j:=[.lst (stD (z0G A))]) (j9 (j9 .(d) (zF2 (S:=A) .(0) (by rw[p8.get,at_E];exact ea))) (zh0 x6)) (by simp only[Y1];exact z1O _)) ⟨_,p8,rfl,rfl⟩
   rintro _ _ h9 ⟨rfl,rfl⟩ p9;rw[K0b,K0b,K09,show stsD S++[D.tup (stD (z0G A))]=stsD (S++[z0G A]) by simp[stsD]]at p9;refine z0f ⟨S++[z0G A],_,_,_,_,_,_,rfl,p9.up .(0),by simp[l6],λi hi=>?_⟩;by_cases ic:i<c
   ·rw[show nx (S++[z0G A]) i=nx S i by unfold nx;rw[K0z .(0)]];exact s6 i ic
   ·have:i=c:=by omega
    subst this;rw[show nx (S++[z0G A]) i=z0G A by unfold nx;rw[<- l6];simp,z2N ek];exact⟨z1t rc.nd,(z2I A).nodup_iff.mpr rc.nd,λo ho=>rc.lt o (sortN_mem.mp ho),λo ho=>rc.a o (sortN_mem.mp ho),λt ht=>by
     obtain⟨o,ho,e⟩:=rc.b t ht;exact⟨o,sortN_mem.mpr ho,e⟩⟩
  ·rintro γ h6 ⟨S,j,w7,w8,w9,w10,w11,rfl,p6,l6,s6⟩;rw[show (Src.lst (r.length+1+3) (stD raw)).items.length=raw.length by simp[Src.items,stD]]at l6 s6 p6;exact⟨S,j,w7,w8,w9,w10,w11,rfl,p6.up .(0),l6,s6⟩
 rintro γ h6 ⟨S,j,w7,w8,w9,w10,w11,rfl,p6,l6,s6⟩;have e5:h6[.(k)+1+3]?=.(l (stD raw)):=by rw[p6.get,at_E];rfl
 have e6:h6[.(k)+2+3]?=.(l (stsD S)):=by rw[p6.get,at_E];rfl
 refine j3 (.tup [maD S (raw.map (mkAt bmk)),.ref (.(k)+1+3)]) (h1:=h6) (z1W (z1W (j9 .(d) (zh0 e6)) (z61 (xs:=mksD (raw.map (mkAt bmk))) ?_ ?_)) .(d)) ?_
 ·refine(z0R (l:=raw) (λ_=>true) (λx=>.tup ((mkAt bmk x).map .str)) (zA6 .(d) e5) rfl (λj=>?_) .(0) λx hx=>⟨[some (maD bst bmk),.(i x)],λh=>rfl,λj=>rfl,λ_ j=>?_⟩).trans ?_
  ·show (h6++j)[.(k)+1+3]?=_;rw[K0z (K3.mp e5).1,e5]
  ·have hx:=(mR x).mp hx;have lm:=ba.l3;have:e2 fIx (e2 fIx .(h) .(4)) .(l) [some (maD bst bmk),.(i x)]=pure (.tup ((mkAt bmk x).map .str)):=by
    simp only[K5,K1,z0d,e2,eVar,z5f,ix_tup (z9T (show x<bmk.length by omega))];rfl
   rw[this];rfl
  ·have:raw.map (λx=>D.tup ((mkAt bmk x).map .str))=mksD (raw.map (mkAt bmk)):=by
    unfold mksD;rw[K0u];rfl
   rw[filter_tt,this]
 ·unfold mksD;exact z09 λa=>by simp only[Y1];exact z2D _
 ·refine⟨?_,λi=>by simp,z S (raw.map (mkAt bmk)) raw h6 _ (r.length+1) ⟨l6,mR,λi hi=>(s6 i hi).1,λi hi=>(s6 i hi).2.lt,λi hi t=>?_,rfl⟩ lR p6 (by rw[at_E];rfl)⟩
  ·simp only[Y1,J6,K59,K3t,decide_eq_false_iff_not];right;rw[hl0];omega
  ·rw[K07];constructor
   ·rintro⟨o,ho,rfl⟩;exact(s6 i hi).2.a o ho
   ·exact(s6 i hi).2.b t
theorem zH4 (h1:97<=c) (h2:c<=122):(K1v "abcdefghijklmnopqrstuvwxyz" ⟨#[c]⟩ 0 ("abcdefghijklmnopqrstuvwxyz":Str).length 1).isEmpty=false:=by
 have:∀k,k<26->(K1v "abcdefghijklmnopqrstuvwxyz" ⟨#[k+97]⟩ 0 ("abcdefghijklmnopqrstuvwxyz":Str).length 1).isEmpty=false:=by decide +kernel
 have q:=this (c - 97) .(0);rw[show c - 97+97=c by omega]at q;exact q
section
variable {bl:Bl}
theorem zJ9 (hx:x<mk.length):z5B [maD st mk,.int (x:Nat),.str s]=pure (.bl (bear s mk x)):=by
 unfold z5B;rw[z5s,z46];show z5T [some .(9),.(i (x:Nat)),.(s s)]=_;unfold z5T bear;refine zn3 _ ?_;by_cases e:s = ""
 ·subst e;simp only[K1j,K5,K1,Y6,z0d,decide_true,e2,eOr,eVar,zS9,if_true];rfl
 ·simp only[K1j,K0m,K49,K5,K1,Y6,z0d,bne_self_eq_false,decide_eq_false e,e2,eOr,eVar,zS9,if_false,z5P,z5f,ix_tup (z9T hx)]
theorem zB0 (hs:st.length<=40):z1J [maD st mk] h=.ok .(u) (h++[.dK (kvB [(0,K9 st.length)])]):=by
 show cln (runF 1 z0x [maD st mk]) h=_;refine z3t (j:=[.dK (kvB [(0,K9 .(7))])]) (z2z ?_) rfl (z4d h) (K01 _) x6 (refB _);show W (z0x [some .(9)]) h _;unfold z0x;refine j3 .(u) ?_ ⟨rfl,rfl⟩;refine Z05 (kk:=.inl 0) rfl rfl ?_;rw[Z0h (tup:=true) (n:=.(7)) (h1:=h++[.dK []]) (j9 (e2_h .(d) (y:=.int 0) rfl (by rw[z2j];rfl)) (by rw[z1z,z1A];rfl)) .(0),if_pos rfl,pureM];rfl
theorem zi0 (sq:SQ st) (lm:mk.length=st.length) (dc:Dic h b bl) (hx:x<st.length) (nl:(nx st x).length<=40) (ok:ByOk bl d):z4q [maD st mk,.ref b,.int (x:Nat),d] h=.ok (.bl (bel st mk bl d x)) h:=by
 refine zO1 (z2z ?_) rfl;show W (z38 [some .(9),.(r b),.(i (x:Nat)),some d]) h _;unfold z38;rcases ok with ⟨s,rfl⟩|⟨k,rfl,hk⟩
 ·refine z0b true (cv_h (z5o .(d) rfl)) ?_;rw[if_pos rfl];exact z06 (j3 _ (fn_h (ds:=[maD st mk,.int (x:Nat),.str s]) (ac_h .(d) (ac_h .(d) (ac_h .(d) rfl))) rfl (by rw[zJ9 .(0)];rfl)) ⟨rfl,rfl⟩)
 ·refine z0b false (cv_h (z5o .(d) rfl)) ?_;rw[if_neg .(1)];refine z07 (j3 (.bl (((nx st x).map λo=>decide (o∈blk bl k)).any id)) (Z0s ?_) ⟨?_,rfl⟩)
  ·refine(z0R (src:=.con (stD (nx st x))) (l:=nx st x) (λ_=>true) (λo=>.bl (decide (o∈blk bl k))) (z1T ?_) rfl (λ_=>trivial) .(0) λo ho=>⟨[.(r b),.(i (k:Nat)),.(i o)],λh=>rfl,λj=>rfl,λ_ j=>?_⟩).trans ?_
   ·exact e2_h (e2_h .(d) (y:=.int 0) rfl (by rw[z2j];rfl)) .(d) (by rw[z6v hx];rfl)
   ·exact e2_h .(d) (e2_h .(d) .(d) ((dc.app j).get hk)) (by rw[zZ6];simp)
   ·rw[filter_tt,K0u];rfl
  ·rw[List.any_map];rfl
def prt (l:List Nat) (f:Nat->Bool):List (List Nat):=[l.filter f,l.filter λx=>!f x].filter λp=>decide (0<p.length)
theorem z8C (sq:SQ st) (lm:mk.length=st.length) (dc:Dic h b bl) (hl:∀x∈l,x<st.length) (ll:l.length<=40) (nl:∀x,(nx st x).length<=40) (ok:ByOk bl d):z45 [maD st mk,.ref b,.tup (stD l),d] h=.ok .(u) (h++[.lst (stsD (prt l (bel st mk bl d)))]):=by
 obtain⟨f,hf⟩:∃f,f=bel st mk bl d:=⟨_,rfl⟩;rw[<- hf];show cln (runF 6 z3e [maD st mk,.ref b,.tup (stD l),d]) h=_;refine z3t (j:=[.lst (stsD (prt l f))]) (z2z ?_) rfl (z4d h) (K01 _) x6 (z09 λa=>z5b a);show W (z3e [some .(9),.(r b),.(g (stD l)),some d,none,none]) h _;unfold z3e;refine Y4 (.tup (stD (l.filter f))) [some .(9),.(r b),.(g (stD l)),some d,.(g ((stD (l.filter f)))),none] (z61 ?_ (z1O _)) rfl ?_
 ·refine(z0R (src:=.con (stD l)) (l:=l) f (λx=>.int x) (z1T .(d)) rfl (λ_=>trivial) .(0) λx hx=>⟨[some .(9),.(r b),some d,.(i x)],λh=>rfl,λj=>?_,λ_ j=>rfl⟩);rw[hf];exact cv_h (fn_h (ds:=[maD st mk,.ref b,.int x,d]) (ac_h .(d) (ac_h .(d) (ac_h .(d) (ac_h .(d) rfl)))) rfl (zi0 sq lm (dc.app j) (hl x hx) (nl x) ok))
 refine Y4 (.tup (stD (l.filter λx=>!f x))) [some .(9),.(r b),.(g (stD l)),some d,.(g ((stD (l.filter f)))),.(g ((stD (l.filter λx=>!f x))))] (z61 ?_ (z1O _)) rfl ?_
 ·refine(z0R (src:=.con (stD l)) (l:=l) (λx=>!f x) (λx=>.int x) (z1T .(d)) rfl (λ_=>trivial) .(0) λx hx=>⟨[.(g ((stD (l.filter f)))),.(i x)],λh=>rfl,λj=>?_,λ_ j=>rfl⟩);refine(cb_h (e2_h .(d) .(d) (by rw[zZ6];rfl))).trans ?_;congr 1;cases q:f x with
  | true=>rw[decide_eq_true (K0p.mpr ⟨hx,q⟩)];rfl
  | false=>rw[decide_eq_false (λz=>by have:=(K0p.mp z).2;rw[q]at this;cases this)];rfl
 have tw:eTup (z7 (eVar 4) (z7 (eVar 5) aNil)) [some .(9),.(r b),.(g (stD l)),some d,.(g ((stD (l.filter f)))),.(g ((stD (l.filter λx=>!f x))))] h=.ok (.tup (stsD [l.filter f,l.filter λx=>!f x])) h:=z1W .(d) .(d);refine j3 .(u) ?_ ⟨rfl,rfl⟩;refine(z28 (src:=.con (stsD [l.filter f,l.filter λx=>!f x])) (λd=>match d with|.tup xs=>decide (0<xs.length)|_=>false) (λd=>d) (z1T tw) (λ_=>trivial) (by simp[Src.items,stsD]) λy hy=>?_).trans (congrArg (λxs=>Res.ok (D.ref h.length) (h++[O.lst xs])) ?_)
 ·obtain⟨q,hq,rfl⟩:=K07.mp hy;refine⟨[.(g (stD q))],λh=>rfl,λj=>(cb_h (e2_h (j9 .(d) (by rw[z1z];rfl)) (y:=.int 0) rfl (by rw[z42];rfl))).trans ?_,λ_ j=>rfl⟩;congr 1;show _=decide (0<(stD q).length);rw[decide_eq_decide];omega
 ·show ((stsD _).filter _).map _=_;unfold stsD prt;rw[K99,Z21];congr 1;refine K7z λq _=>?_;show decide (0<(stD q).length)=_;rw[j8]
theorem prt_len:(prt l f).length=2↔l.filter f≠[]/\(l.filter λx=>!f x)≠[]:=by
 unfold prt;cases e1:l.filter f<;>cases e2:(l.filter λx=>!f x)<;>simp
theorem zE7 (h1:l.filter f≠[]) (h2:(l.filter λx=>!f x)≠[]):prt l f=[l.filter f,l.filter λx=>!f x]:=by
 unfold prt;cases e1:l.filter f<;>cases e2:(l.filter λx=>!f x)<;>simp_all
end
theorem zw8 (x:Str):z2w [.str x]=pure (.bl true):=by
 unfold z2w;rw[z5s,z46];show z20 [.(s x)]=_;unfold z20;simp only[K1,Z0,bNil,z0d,eIsi,eVar,z9Q,sRet];rfl
def TA (h:AH) (d:D):Prop:=∀(j:AH) (T:String),(T = "int"\/T = "bool"\/T = "tuple"\/T = "str")->fIsi T d (h++j)=.ok (.bl (isOf T d)) (h++j)
def TB:Nat->AH->D->Prop
 | 0,h,d=>TA h d
 | n+1,h,d=>TA h d/\∀xs,d=.tup xs->∀x∈xs,TB n h x
theorem TB.ta:∀{n:Nat},TB n h d->TA h d
 | 0,t=>t
 | n+1,t=>t.1
theorem zW3 {k:Int}(v:Th r B m n d) (p:PS h k r):TA h d:=λj T hT=>by
 have p':=p.app j;rcases hT with rfl|rfl|rfl|rfl
 ·exact z6Q v .(1) .(1) p' (Kp.app _ _)
 ·exact z6Q v .(1) .(1) p' (Kp.app _ _)
 ·exact z6Q v .(1) .(1) p' (Kp.app _ _)
 ·exact z6Q v .(1) .(1) p' (Kp.app _ _)
theorem zt1 {r:AH}{B:Nat}{h:AH}{k:Int}(p:PS h k r):∀(c:Nat) {m n:Nat}{d:D},Th r B m n d->TB c h d
 | 0,m,n,d,v=>zW3 v p
 | c+1,m,n,d,v=>⟨zW3 v p,λxs e x hx=>by
  subst e;obtain⟨m',a,rfl,va,ha⟩:=v.items;obtain⟨b,hb,tx⟩:=va.mem hx;exact zt1 p c tx⟩
theorem z3m {m:M D}(e:m h=.ok d h) (c:Y1 0 d=true):cln m h=.ok d h:=by
 exact z0S (j:=[]) (by rw[e,K0w]) (z2F (K3j h.length) c)
theorem z7S (t:TA h d) (j:AH):z0o [d] (h++j)=.ok (.bl (numB d)) (h++j):=by
 refine z3m (z2z ?_) rfl;show W (z25 [some d]) (h++j) _;unfold z25;rw[<- z6d];rw[w_cons];simp only[K1,Z7,Y7,W_pure,Y9,eAnd,eIsi,eNot,eVar,sRet];refine W.of (t j "int" (.inl rfl)) ?_;cases e1:isOf "int" d with
 | false=>simp only[K0m,W_pure,Y6,if_false];exact⟨rfl,rfl⟩
 | true =>
  simp only[W_pure,Y6,if_true];refine W.of (t j "bool" (.inr (.inl rfl))) ?_;cases e2:isOf "bool" d<;>(simp only[K2l,K48,W_pure,Y6];exact⟨rfl,rfl⟩)
def natB (n:Int):D->Bool
 | .int i=>decide (0<=i)&&decide (i<n)
 | _=>false
theorem e3_h {f g:D->D->M D}{mc:G->M D}{x z:D}{b c:Bool}(e1:ma γ h=.ok x h) (e2':mb γ h=.ok y h) (e3':mc γ h=.ok z h) (f1:f x y h=.ok (.bl b) h) (f2:g y z h=.ok (.bl c) h):e3 f g ma mb mc γ h=.ok (.bl (b&&c)) h:=by
 unfold e3;rw[M.bind_ok e1,M.bind_ok e2',M.bind_ok f1];cases b with
 | false=>rfl
 | true =>
  rw[Y6];show (mc γ >>= λz=>g y z) h=_;rw[M.bind_ok e3',f2,K21]
theorem z1n {b c:Bool}(e1:ma γ h=.ok (.bl b) h) (e2':b=true->mb γ h=.ok (.bl c) h):eAnd ma mb γ h=.ok (.bl (b&&c)) h:=by
 unfold eAnd;rw[M.bind_ok e1,Y6];cases b with
 | false=>rfl
 | true=>exact e2' rfl
theorem zU3 {b:Bool}(e1:ma γ h=.ok (.bl b) h):eNot ma γ h=.ok (.bl (!b)) h:=by
 unfold eNot;rw[M.bind_ok e1,Y6];rfl
theorem z3z {b:Bool}(e1:ma γ h=.ok d h) (e2':fIsi T d h=.ok (.bl b) h):eIsi T ma γ h=.ok (.bl b) h:=by
 unfold eIsi;rw[M.bind_ok e1,e2']
theorem le_h {a b:Int}:fLe (.int a) (.int b) h=.ok (.bl (decide (a<=b))) h:=by rw[zr3];rfl
theorem lt_h {a b:Int}:fLt (.int a) (.int b) h=.ok (.bl (decide (a<b))) h:=by rw[z7l];rfl
theorem z6n {ka:G->M Bool}{a b:Bool}(e1:ka γ h=.ok a h) (e2':kb γ h=.ok b h):cOr ka kb γ h=.ok (a||b) h:=by
 unfold cOr;rw[M.bind_ok e1];cases a with
 | false=>rw[K49];exact e2'
 | true=>rfl
theorem z5C (h:numB d=true):∃i,d=.int i:=by cases d<;>first|(cases h;done)|exact⟨_,rfl⟩
theorem z7D {n:Int}(h:numB d=false):natB n d=false:=by cases d<;>first|rfl|cases h
theorem zO8 (t:TA h d) (j:AH):z1g [d,.int 0,.int n] (h++j)=.ok (.bl (natB (n+1:Nat) d)) (h++j):=by
 refine z3m (z2z ?_) rfl;show W (z0z [some d,.(i 0),.(i n)]) (h++j) _;unfold z0z;have e1:eFn 1 z0o (z7 .(h) aNil) [some d,.(i 0),.(i n)] (h++j)=.ok (.bl (numB d)) (h++j):=fn_h (ds:=[d]) (ac_h .(d) rfl) rfl (z7S t j);cases hn:numB d with
 | false =>
  rw[hn]at e1;refine j3 (.bl false) (z1n (c:=false) e1 λq=>nomatch q) ⟨by rw[z7D hn],rfl⟩
 | true =>
  rw[hn]at e1;obtain⟨i,rfl⟩:=z5C hn;refine j3 _ (z1n e1 λ_=>e3_h .(d) .(d) .(d) le_h le_h) ⟨?_,rfl⟩;show D.bl (true&&(decide (0<=i)&&decide (i<=n)))=D.bl (decide (0<=i)&&decide (i<(n+1:Nat)));rw[K21];congr 2;rw[decide_eq_decide];omega
theorem zl6 (t:TA h d):z0r [d,.int 0,.int n] h=.ok (.bl (natB n d)) h:=by
 have t0:∀T,(T = "int"\/T = "bool"\/T = "tuple"\/T = "str")->fIsi T d h=.ok (.bl (isOf T d)) h:=λT hT=>by have:=t [] T hT;rwa [K0w]at this
 refine z3m (z2z ?_) rfl;show W (z1o [some d,.(i 0),.(i n)]) h _;unfold z1o;have ni:=z6d d;cases hi:isOf "int" d with
 | false =>
  rw[hi]at ni;exact j3 (.bl false) (z1n (b:=false) (c:=false) (by rw[<- hi];exact z3z .(d) (t0 "int" (.inl rfl))) λq=>nomatch q) ⟨by rw[z7D (by rw[<- ni];rfl)],rfl⟩
 | true =>
  have e1:eIsi "int" .(h) [some d,.(i 0),.(i n)] h=.ok (.bl true) h:=by rw[<- hi];exact z3z .(d) (t0 "int" (.inl rfl))
  have e2':eNot (eIsi "bool" .(h)) [some d,.(i 0),.(i n)] h=.ok (.bl (numB d)) h:=by
   rw[<- ni,hi,K21];exact zU3 (z3z .(d) (t0 "bool" (.inr (.inl rfl))))
  cases hn:numB d with
  | false =>
   rw[hn]at e2';exact j3 (.bl false) (z1n e1 λ_=>z1n (c:=false) e2' λq=>nomatch q) ⟨by rw[z7D hn],rfl⟩
  | true =>
   rw[hn]at e2';obtain⟨i,rfl⟩:=z5C hn;refine j3 _ (z1n e1 λ_=>z1n e2' λ_=>e3_h .(d) .(d) .(d) le_h lt_h) ⟨?_,rfl⟩;simp only[K21];rfl
theorem zh1 (t:TA h d):z1X [d] h=.ok (.bl (tupB d)) h:=by
 have t0:∀T,(T = "int"\/T = "bool"\/T = "tuple"\/T = "str")->fIsi T d h=.ok (.bl (isOf T d)) h:=λT hT=>by have:=t [] T hT;rwa [K0w]at this
 refine z3m (z2z ?_) rfl;show W (z2O [some d]) h _;unfold z2O;exact j3 _ (z3z .(d) (t0 "tuple" (.inr (.inr (.inl rfl))))) ⟨by rw[z39],rfl⟩
def lenB (a b:Int):D->Bool
 | .tup xs=>decide (a<=xs.length)&&decide ((xs.length:Int)<=b)
 | _=>false
theorem z8E (h:tupB d=true):∃xs,d=.tup xs:=by cases d<;>first|(cases h;done)|exact⟨_,rfl⟩
theorem zy9 {a b:Int}(h:tupB d=false):lenB a b d=false:=by cases d<;>first|rfl|cases h
theorem z8p:fLen [.tup xs] h=.ok (.int xs.length) h:=by rw[z1z];rfl
theorem z7P {a b:Int}(t:TA h d):z0H [d,.int a,.int b] h=.ok (.bl (lenB a b d)) h:=by
 refine z3m (z2z ?_) rfl;show W (z1r [some d,.(i a),.(i b)]) h _;unfold z1r;have e1:eFn 1 z1X (z7 .(h) aNil) [some d,.(i a),.(i b)] h=.ok (.bl (tupB d)) h:=fn_h (ds:=[d]) (ac_h .(d) rfl) rfl (zh1 t);cases ht:tupB d with
 | false =>
  rw[ht]at e1;exact j3 (.bl false) (z1n (c:=false) e1 λq=>nomatch q) ⟨by rw[zy9 ht],rfl⟩
 | true =>
  rw[ht]at e1;obtain⟨xs,rfl⟩:=z8E ht;refine j3 _ (z1n e1 λ_=>e3_h .(d) (j9 .(d) z8p) .(d) le_h le_h) ⟨?_,rfl⟩;rw[K21];rfl
theorem zj8 {a b:Int}(t:TA h d):z0l [d,.int a,.int b] h=.ok (.bl (lenB a b d)) h:=by
 have t0:∀T,(T = "int"\/T = "bool"\/T = "tuple"\/T = "str")->fIsi T d h=.ok (.bl (isOf T d)) h:=λT hT=>by have:=t [] T hT;rwa [K0w]at this
 refine z3m (z2z ?_) rfl;show W (z1F [some d,.(i a),.(i b)]) h _;unfold z1F;have e1:eIsi "tuple" .(h) [some d,.(i a),.(i b)] h=.ok (.bl (tupB d)) h:=by rw[<- z39];exact z3z .(d) (t0 "tuple" (.inr (.inr (.inl rfl))))
 cases ht:tupB d with
 | false =>
  rw[ht]at e1;exact j3 (.bl false) (z1n (c:=false) e1 λq=>nomatch q) ⟨by rw[zy9 ht],rfl⟩
 | true =>
  rw[ht]at e1;obtain⟨xs,rfl⟩:=z8E ht;refine j3 _ (z1n e1 λ_=>e3_h .(d) (j9 .(d) z8p) .(d) le_h le_h) ⟨?_,rfl⟩;rw[K21];rfl
theorem TA.app (t:TA h d) (j:AH):TA (h++j) d:=λj' T hT=>by rw[K06];exact t (j++j') T hT
theorem TB.app:∀{n:Nat}{h:AH}{d:D},TB n h d->∀j,TB n (h++j) d
 | 0,h,d,t,j=>TA.app t j
 | n+1,h,d,t,j=>⟨TA.app t.1 j,λxs e x hx=>TB.app (t.2 xs e x hx) j⟩
theorem za6 {m:M D}(c:Y1 0 d=true) (z:W m h λv h'=>v=d/\∃j,h'=h++j):cln m h=.ok d h:=by
 obtain⟨v,h',e,rfl,j,rfl⟩:=z;exact z0S e (z2F (K3j _) c)
theorem z6a:∀{a b:List Nat},stD a=stD b->a=b
 | [],[],_=>rfl
 | [],_::_,h=>by cases h
 | _::_,[],h=>by cases h
 | x::a,y::b,h=>by
  have h:D.int (x:Nat)::stD a=D.int (y:Nat)::stD b:=h;injection h with h1 h2
  injection h1 with h1
  rw[z6a h2,show x=y by omega]
theorem Z10 (hx:x<st.length) (q:∀o∈nx st x,o<row.length) (lx:(nx st x).length<=1000) (hl:(led st row x).length<64):z3v [maD st mk,.tup (stD row),.int x]=pure (.tup (stD (led st row x))):=funext λh=>by
 show cln (runF 3 z3r [maD st mk,.tup (stD row),.int x]) h=_;refine z0S (j:=[.lst (stD ((nx st x).map (rowAt row)))]) (z2z ?_) (by simp only[Y1];exact z1O _);show W (z3r [some .(9),.(g (stD row)),.(i x)]) h _;unfold z3r;have e1:x5 [some 1,none] (z0c (e2 fIx (e2 fIx .(h) .(3)) (eVar 2))) (gN 1) (λ_=>pure true) (e2 fIx .(h) .(l)) [some .(9),.(g (stD row)),.(i x)] h=.ok .(u) (h++[.lst (stD ((nx st x).map (rowAt row)))]):=by
  refine(z0R (src:=.con (stD (nx st x))) (l:=nx st x) (λ_=>true) (λt=>.int (rowAt row t)) (z1T ?_) rfl (λ_=>trivial) .(0) λt ht=>⟨[.(g (stD row)),.(i t)],λh=>rfl,λj=>rfl,λ_ j=>?_⟩).trans ?_
  ·have:e2 fIx (e2 fIx .(h) .(3)) (eVar 2) [some .(9),.(g (stD row)),.(i x)]=pure (.tup (stD (nx st x))):=by simp only[K5,K1,z0d,e2,eVar,z2j,z6v hx]
   rw[this];rfl
  ·have:e2 fIx .(h) .(l) [.(g (stD row)),.(i t)]=pure (.int (rowAt row t)):=by simp only[K5,K1,z0d,e2,eVar,ix_tup (z7n (q t ht))];rfl
   rw[this];rfl
  ·rw[filter_tt];unfold stD;rw[K0u];rfl
 exact j3 _ (fn_h (ac_h e1 rfl) rfl (zu3 (l:=(nx st x).map (rowAt row)) .(f) (by simp;omega) hl)) ⟨rfl,rfl⟩
def z9C (st:List (List Nat)) (mk:List (List Str)) (row:List Nat) (x:Nat):D:=.tup [.tup ((mkAt mk x).map .str),.tup (stD (led st row x))]
theorem Z07 (c:Canon row) (h:row[i]?=some v):v<=i:=by
 have:=(K6l (n:=v)).length_le_of_subset (l₂:=row.take i) (λu hu=>c i v h u (by simpa using hu));simp at this;omega
structure MC (st:List (List Nat)) (mk:List (List Str)) (row:List Nat):Prop where
 q:SQ st
 rs:∀l∈st,l.Pairwise (·<·)
 lm:mk.length=.(7)
 len:row.length=.(7)
 can:Canon row
theorem MC.nxl (m:MC st mk row) (hx:x<st.length):(nx st x).length<=40 :=
 K0d (z4b (m.rs _ (K0j (za4 hx))) λy hy=>z7E m.q hy) m.q.l2
theorem MC.ledl (m:MC st mk row):(led st row x).length<=40:=by
 refine K0d (z5Q (n:=row.length) λu hu=>?_) (by rw[m.len];exact m.q.l2);obtain⟨o,ho,rfl⟩:=K07.mp hu;have ol:o<row.length:=by rw[m.len];exact z7E m.q ho
 have:=Z07 m.can (z3f ol);omega
theorem MC.led (m:MC st mk row) {x:Nat}(hx:x<st.length):z3v [maD st mk,.tup (stD row),.int x]=pure (.tup (stD (led st row x))):=by
 have:=m.nxl hx;have:=m.ledl (x:=x);exact Z10 hx (λo ho=>by rw[m.len];exact z7E m.q ho) .(0) .(0)
theorem zm4 {f:Nat->D}(h:c<n):atI ((K9 n).map f) (c:Int)=some (f c):=z1x (by rw[K0k,K3b h];rfl)
theorem z5F (c:Canon row) (inv:∀u,u∈row↔u<N) (h:v<=N):Canon (row++[v]):=λi x e u hu=>by
 by_cases hi:i<row.length
 ·rw[K0z hi]at e;rw[List.take_append_of_le_length .(0)];exact c i x e u hu
 ·rw[K1z .(0)]at e;have i0:i - row.length=0:=by
   have:=(K3.mp e).1;simpa using this
  rw[i0]at e;simp at e;subst e;rw[show i=row.length by omega,Z31]
  ·exact(inv u).mpr .(0)
  ·rfl
theorem z5S (inv:∀u,u∈row↔u<N) (h:v<=N):∀u,u∈row++[v]↔u<max N (v+1):=λu=>by
 rw[K0i,inv,K1n];omega
theorem zz8 (cr:Canon row) (hc:row[c]?=some v) (inv:∀u,u∈row.take c↔u<N):v<=N:=by
 by_cases z:N<v
 ·have:=(inv N).mp (cr c v hc N z);omega
 ·omega
theorem zf4 (e:xs.take c=stD row) (hy:xs[c]?=some y) (hv:y=.int (v:Nat)):xs.take (c+1)=stD (row++[v]):=by
 rw[K9i,hy,e,hv];unfold stD;simp
theorem zl7 (h:natB (N+1:Nat) y=true):∃v:Nat,y=.int (v:Nat)/\v<=N:=by
 cases y<;>first|(cases h;done)|skip
 rename_i i;simp only[natB,K0c,decide_eq_true_eq]at h;exact⟨i.toNat,by congr 1;omega,by omega⟩
theorem z84 (e:xs.take c=stD row) (inv:∀u,u∈row↔u<N) (hy:xs[c]?=some y) (h:natB (N+1:Nat) y=false):¬ ∃row',xs=stD row'/\Canon row':=by
 rintro⟨row',rfl,cr⟩;obtain⟨v,rfl,ev⟩:=z3c hy;have tk:row'.take c=row:=z6a (by rw[<- e];unfold stD;rw[List.map_take]);have:=zz8 cr ev (by rw[tk];exact inv);simp only[natB,K3t,decide_eq_false_iff_not]at h;omega
open Classical in
noncomputable def stB (st:List (List Nat)) (mk:List (List Str)) (d:D):Bool:=decide (∃row,d=.tup (stD row)/\Steady st mk row)
theorem z6o (h:¬ ∃row,d=.tup (stD row)/\Steady st mk row):stB st mk d=false:=by unfold stB;exact @decide_eq_false _ (K5u _) h
theorem z7s (h:stB st mk d=true):∃row,d=.tup (stD row)/\Steady st mk row:=by unfold stB at h;exact @of_decide_eq_true _ (K5u _) h
theorem zb4 (h:Steady st mk row):stB st mk (.tup (stD row))=true:=by unfold stB;exact @decide_eq_true _ (K5u _) ⟨row,rfl,h⟩
def zo8 (st:List (List Nat)) (mk:List (List Str)) (row:List Nat):D->Bool
 | .tup [.int c,.int v]=>decide (mkAt mk c.toNat=mkAt mk (row.idxOf v.toNat))&&decide (FT.led st row c.toNat=FT.led st row (row.idxOf v.toNat))
 | _=>false
theorem zt4 (m:MC st mk row):(z1l (stD row)).all (zo8 st mk row)=stB st mk (.tup (stD row)):=by
 rw[K19];constructor
 ·intro h;refine zb4 ⟨m.len,m.can,λi hi=>?_⟩;rw[K1m]at h;have hm:D.tup [.int (i:Nat),.int (rowAt row i:Nat)]∈z1l (stD row):=by
   unfold z1l;refine K07.mpr ⟨(i:Nat),by simp[stD];exact hi,?_⟩;rw[show (stD row)[i]?=.(i (rowAt row i:Nat)) by unfold stD;rw[K0k,z3f hi];rfl];rfl
  have:=h _ hm;simpa [zo8] using this
 ·intro h;obtain⟨row',e,s⟩:=z7s h;injection e with e
  have:=z6a e;subst this;rw[K1m];intro d hd;obtain⟨c,hc,ec⟩:=K2q hd;obtain⟨y,hy,rfl⟩:=z4N (show (z1l (stD row))[c]?=some d by rw[<- ec];exact K00 hc);obtain⟨v,rfl,ev⟩:=z3c hy;have lk:=s.like c (K3.mp ev).1;rw[z2N ev]at lk;show (decide _&&decide _)=true;rw[K0f,K0f,.(g) lk.1,.(g) lk.2];rfl
theorem z8S (inv:∀u,u∈row↔u<N):((K9 N).map λu=>(row++[v]).idxOf u)=(K9 N).map λu=>row.idxOf u:=by
 refine K2a λu hu=>?_;rw[Z2d,if_pos ((inv u).mpr (K0r.mp hu))]
theorem zp6 (t:TB 1 h d) (sq:SQ st) (rs:∀l∈st,l.Pairwise (·<·)) (lm:mk.length=st.length):z34 [maD st mk,d] h=.ok (.bl (stB st mk d)) h:=by
 have l2:=sq.l2;refine za6 rfl (z2n ?_);show W (z22 [some .(9),some d,none,none,none,none,none]) h _;unfold z22;refine z7j (.int st.length) [some .(9),some d,.(i st.length),none,none,none,none] (by simp only[K1,z7,aNil,z0d,e2,Z6,eVar,z2j,z1z,z1A]) rfl ?_;refine z0b (!lenB .(7) .(7) d) (cn_h (cv_h (fn_h (ds:=[d,.int .(7),.int .(7)]) (ac_h .(d) (ac_h .(d) (ac_h .(d) rfl))) rfl (z7P t.ta)))) ?_;cases hl:lenB .(7) .(7) d with
 | false =>
  rw[if_pos (by rfl)];refine z06 (j3 (.bl false) rfl ⟨?_,[],by simp⟩);rw[z6o];rintro⟨row,rfl,s⟩;have:=s.len;simp[lenB,j8,this]at hl
 | true =>
  rw[if_neg .(1)];obtain⟨xs,rfl⟩:∃xs,d=.tup xs:=by cases d<;>first|(cases hl;done)|exact⟨_,rfl⟩
  have xl:xs.length=st.length:=by
   have h:=hl;simp only[lenB,K0c,decide_eq_true_eq]at h;omega
  refine z07 (zL6 (xs:=stD []) (by simp[stD]) (λh=>rfl) ?_);refine z2o (λγ h'=>∃row N a b,xs=stD row/\Canon row/\(∀u,u∈row↔u<N)/\γ=[some .(9),.(g xs),.(i .(7)),.(r h.length),a,b,none]/\h'=h++[.lst (stD ((K9 N).map λu=>row.idxOf u))]) ?_ ?_
  ·refine z1v (λc γ h'=>∃row N a b,xs.take c=stD row/\Canon row/\(∀u,u∈row↔u<N)/\γ=[some .(9),.(g xs),.(i .(7)),.(r h.length),a,b,none]/\h'=h++[.lst (stD ((K9 N).map λu=>row.idxOf u))]) (λd h'=>d=.bl false/\(∃j,h'=h++j)/\¬ ∃row',xs=stD row'/\Canon row') ?_;refine W_eq (v:=.con (z1l xs)) (by unfold z9K;simp only[K5,K1,K0b,K09,z7,aNil,z0d,eVar]) ?_;refine⟨⟨[],0,none,none,rfl,λi v e=>by simp at e,by simp,rfl,rfl⟩,λ_ _ _ _=>trivial,?_,?_,?_⟩
   ·rintro c d γ _ hd ⟨row,N,a,b,et,cr,inv,rfl,rfl⟩;obtain⟨y,hy,rfl⟩:=z4N hd;have hc:c<xs.length:=(K3.mp hy).1;have rl:row.length=c:=by
     have:=congrArg K9h et;rw[j8,K1t]at this;omega
    refine W_eq (v:=[some .(9),.(g xs),.(i .(7)),.(r h.length),.(i c),some y,none]) rfl ?_;have ll:(stD ((K9 N).map λu=>row.idxOf u)).length=N:=by rw[j8];simp
    have ty:TA h y:=t.2 xs rfl y (K0j hy);refine z0b (!natB (N+1:Nat) y) (cn_h (cv_h (fn_h (ds:=[y,.int 0,.int N]) (ac_h .(d) (ac_h (d:=.int 0) rfl (ac_h (j9 .(d) (by rw[z4H x6,ll])) rfl))) rfl (zO8 ty _)))) ?_;cases hn:natB (N+1:Nat) y with
    | false =>
     rw[if_pos (by rfl)];exact z06 (j3 (.bl false) rfl ⟨rfl,⟨_,rfl⟩,z84 et inv hy hn⟩)
    | true =>
     rw[if_neg .(1)];obtain⟨v,rfl,vN⟩:=zl7 hn;refine z07 ?_;refine z0b (decide (v=N)) ?_ ?_
     ·refine cb_h (e2_h .(d) (j9 .(d) (z4H x6)) ?_);rw[ll,z2r (z24 v N)];simp
     have tn:=zf4 et hy rfl;have nN:N<=c:=by
      have h2:=(K6l (n:=N)).length_le_of_subset (l₂:=row) (λx hx=>(inv x).mpr (by simpa using hx));simp at h2;omega
     by_cases e:v=N
     ·subst e;rw[.(g) rfl,if_pos rfl];refine z06 ?_;refine z98 (a:=3) rfl x6 (by rw[ll];omega) .(d) ?_;rw[z2U,z32];refine z07 (z0f ⟨row++[v],v+1,_,_,tn,z5F cr inv vN,λu=>?_,rfl,?_⟩)
      ·rw[z5S inv vN];omega
      ·rw[K95,K4l,z8S inv];have:(row++[v]).idxOf v=c:=by
        rw[Z2d,if_neg (λz=>by have:=(inv v).mp z;omega)];simp[rl]
       simp[this]
     ·rw[.(m) e,if_neg .(1)];refine z07 (z0f ⟨row++[v],N,_,_,tn,z5F cr inv vN,λu=>?_,rfl,?_⟩)
      ·rw[z5S inv vN];omega
      ·rw[z8S inv]
   ·rintro γ h2 ⟨row,N,a,b,et,cr,inv,rfl,rfl⟩;rw[show (Src.con (z1l xs)).items.length=xs.length by simp[Src.items,z1l],K1w]at et;exact⟨row,N,a,b,et,cr,inv,rfl,rfl⟩
   ·rintro d h' ⟨rfl,ej,no⟩;refine⟨?_,ej⟩;rw[z6o];rintro⟨row,e,s⟩;injection e with e
    exact no ⟨row,e,s.can⟩
  rintro γ _ ⟨row,N,a,b,rfl,cr,inv,rfl,rfl⟩;have sl:row.length=st.length:=by rw[<- xl,j8]
  have m:MC st mk row:=⟨sq,rs,lm,sl,cr⟩;refine Y4 (.ref (h.length+1)) [some .(9),.(g (stD row)),.(i .(7)),.(r h.length),a,b,.(r (h.length+1))] (h1:=h++[.lst (stD ((K9 N).map λu=>row.idxOf u)),.lst ((K9 .(7)).map (z9C st mk row))]) ?_ rfl ?_
  ·refine(z0R (l:=K9 st.length) (λ_=>true) (z9C st mk row) (z3h .(d) .(0)) rfl (λ_=>trivial) (by simp;omega) λx hx=>⟨[some .(9),.(g (stD row)),.(i x)],λh=>rfl,λj=>rfl,λ_ j=>?_⟩).trans ?_
   ·have hx:x<st.length:=by simpa using hx
    have:eTup (z7 (e2 fIx (e2 fIx .(h) .(4)) (eVar 2)) (z7 (eFn 3 z3v (z7 .(h) (z7 .(l) (z7 (eVar 2) aNil)))) aNil)) [some .(9),.(g (stD row)),.(i x)]=pure (z9C st mk row x):=by
     simp only[K5,K1,K02,K08,K0h,z7,aNil,z0d,e2,eFn,eTup,eVar,if_true,z5f,ix_tup (z9T (show x<mk.length by omega)),m.led hx,Z0i];rfl
    rw[this];rfl
   ·rw[filter_tt,K06];simp
  refine j3 (.bl (((z1l (stD row)).map (zo8 st mk row)).all id)) (Z0I ?_) ⟨by rw[Z22,<- zt4 m];rfl,_,rfl⟩;refine(z28 (src:=.con (z1l (stD row))) (λ_=>true) (λd=>.bl (zo8 st mk row d)) ?_ (λ_=>trivial) ?_ λd hd=>?_).trans ?_
  ·have:z9K .(l) [some .(9),.(g (stD row)),.(i st.length),.(r h.length),a,b,.(r (h.length+1))]=pure (.con (z1l (stD row))):=by unfold z9K;simp only[K5,K1,z7,aNil,z0d,eVar]
   exact congrFun this _
  ·simp[Src.items,z1l,stD];omega
  ·obtain⟨c,hc,ec⟩:=K2q hd;obtain⟨y,hy,rfl⟩:=z4N (show (z1l (stD row))[c]?=some d by rw[<- ec];exact K00 hc);obtain⟨v,rfl,ev⟩:=z3c hy;have hcl:c<row.length:=(K3.mp ev).1;have vN:v<N:=(inv v).mp (K0j ev);have ir:row.idxOf v<row.length:=K1e.mpr (K0j ev);refine⟨[.(r (h.length+1)),.(r h.length),.(i c),.(i v)],λh=>rfl,λj=>rfl,λ_ j=>?_⟩;have hL:∀j:AH,(h++[O.lst (stD ((K9 N).map λu=>row.idxOf u)),O.lst ((K9 st.length).map (z9C st mk row))]++j)[h.length+1]?=.(l (((K9 st.length).map (z9C st mk row)))):=λj=>by simp
   have hF:∀j:AH,(h++[O.lst (stD ((K9 N).map λu=>row.idxOf u)),O.lst ((K9 st.length).map (z9C st mk row))]++j)[h.length]?=.(l ((stD ((K9 N).map λu=>row.idxOf u)))):=λj=>by simp
   refine e2_h (e2_h .(d) .(d) (ix_h (hL j) (zm4 .(0)))) (e2_h .(d) (e2_h .(d) .(d) (ix_h (d:=.int (row.idxOf v:Nat)) (hF j) ?_)) (ix_h (hL j) (zm4 .(0)))) ?_
   ·unfold stD;rw[K0u];exact zm4 (f:=(λ(i:Nat)=>D.int i) ∘ λu=>row.idxOf u) vN
   ·refine(z2r (zD0 (n:=21) (mkAt mk c) (mkAt mk (row.idxOf v)) (FT.led st row c) (FT.led st row (row.idxOf v)))).trans ?_;show Res.ok (D.bl ((decide _&&decide _) != false)) _=Res.ok (D.bl (decide _&&decide _)) _;rw[K1j,K0f,K0f]
  ·rw[filter_tt,K0u];rfl
theorem zx7 {h:AH}(m:MC st mk row) (hx:x<st.length) (e0:γ[0]?=some (some .(9))) (e1:γ[1]?=some (.(g (stD row)))) (ea:γ[a]?=some (.(i (x:Nat)))):
 Z6 J4 (z7 (Z6 z0h (z7 (x5 [some 1,none] (z0c (e2 fIx (e2 fIx .(h) .(3)) (eVar a))) (gN 1) (λ_=>pure true) (e2 fIx .(h) .(l))) aNil)) aNil) γ h=.ok (.ref (h.length+2)) (h++[.lst (stD ((nx st x).map (rowAt row))),.set (kN (dedN ((nx st x).map (rowAt row)))),.lst (stD (FT.led st row x))]):=by
 have nl:=m.nxl hx;have ll:=m.ledl (x:=x);refine(ss_h (i:=h.length) (h1:=h++[.lst (stD ((nx st x).map (rowAt row)))]) (l:=(nx st x).map (rowAt row)) ?_ x6 (by simp;omega) (by show (FT.led st row x).length<64;omega)).trans ?_
 ·refine(z0R (src:=.con (stD (nx st x))) (l:=nx st x) (λ_=>true) (λt=>.int (rowAt row t)) (z1T ?_) rfl (λ_=>trivial) .(0) λt ht=>⟨[.(g (stD row)),.(i t)],λh=>by simp only[capG,K0x,K3w,e1,K52];rfl,λj=>rfl,λ_ j=>?_⟩).trans ?_
  ·exact e2_h (e2_h (Z2 e0) (y:=.int 0) rfl (by rw[z2j];rfl)) (Z2 ea) (by rw[z6v hx];rfl)
  ·exact e2_h .(d) .(d) (by rw[ix_tup (z7n (by rw[m.len];exact z7E m.q ht))];rfl)
  ·rw[filter_tt];unfold stD;rw[K0u];rfl
 ·simp[FT.led]
theorem Z18 (e1:ma γ h=.ok (.int (a:Nat)) h) (e2':mb γ h=.ok (.int (b:Nat)) h):Z6 zi9 (z7 ma (z7 mb aNil)) γ h=.ok (.int ((max a b:Nat):Int)) h:=by
 have e3':z7 ma (z7 mb aNil) γ h=.ok [.int (a:Nat),.int (b:Nat)] h:=ac_h e1 (ac_h e2' rfl);unfold Z6;rw[M.bind_ok e3'];show Res.ok (D.int (max (a:Int) (b:Int))) h=_;congr 2;omega
theorem zy6 (e1:ma γ h=.ok (.int (a:Nat)) h):e2 fAdd ma .(4) γ h=.ok (.int ((a+1:Nat):Int)) h:=e2_h e1 rfl (by rw[z1U];rfl)
theorem zh2 (t:TB 1 h d) (sq:SQ st) (rs:∀l∈st,l.Pairwise (·<·)) (lm:mk.length=st.length):z23 [maD st mk,d] h=.ok (.bl (stB st mk d)) h:=by
 have l2:=sq.l2;refine za6 rfl (z2n ?_);show W (z1p [some .(9),some d,none,none,none,none,none]) h _;unfold z1p;refine z7j (.int st.length) [some .(9),some d,.(i st.length),none,none,none,none] (by simp only[K1,z7,aNil,z0d,e2,Z6,eVar,z2j,z1z,z1A]) rfl ?_;refine z0b (!lenB .(7) .(7) d) (cn_h (cv_h (fn_h (ds:=[d,.int .(7),.int .(7)]) (ac_h .(d) (ac_h .(d) (ac_h .(d) rfl))) rfl (zj8 t.ta)))) ?_;cases hl:lenB .(7) .(7) d with
 | false =>
  rw[if_pos (by rfl)];refine z06 (j3 (.bl false) rfl ⟨?_,[],by simp⟩);rw[z6o];rintro⟨row,rfl,s⟩;have:=s.len;simp[lenB,j8,this]at hl
 | true =>
  rw[if_neg .(1)];obtain⟨xs,rfl⟩:∃xs,d=.tup xs:=by cases d<;>first|(cases hl;done)|exact⟨_,rfl⟩
  have xl:xs.length=st.length:=by
   have h:=hl;simp only[lenB,K0c,decide_eq_true_eq]at h;omega
  refine z07 (z7j (.int (0:Nat)) [some .(9),.(g xs),.(i .(7)),.(i (0:Nat)),none,none,none] rfl rfl ?_);refine z2o (λγ h'=>∃row N a,xs=stD row/\Canon row/\(∀u,u∈row↔u<N)/\γ=[some .(9),.(g xs),.(i .(7)),.(i (N:Nat)),a,none,none]/\h=h') ?_ ?_
  ·refine z1v (λc γ h'=>∃row N a,xs.take c=stD row/\Canon row/\(∀u,u∈row↔u<N)/\γ=[some .(9),.(g xs),.(i .(7)),.(i (N:Nat)),a,none,none]/\h=h') (λd h'=>d=.bl false/\h=h'/\¬ ∃row',xs=stD row'/\Canon row') ?_;refine W_of (v:=.con xs) (z1T .(d)) ?_;refine⟨⟨[],0,none,rfl,λi v e=>by simp at e,by simp,rfl,rfl⟩,λ_ _ _ _=>trivial,?_,?_,?_⟩
   ·rintro c y γ _ hy ⟨row,N,a,et,cr,inv,rfl,rfl⟩;have hy:xs[c]?=some y:=hy;have ty:TA h y:=t.2 xs rfl y (K0j hy);refine W_eq (v:=[some .(9),.(g xs),.(i .(7)),.(i (N:Nat)),some y,none,none]) rfl ?_;refine z0b (!natB (N+1:Nat) y) (cn_h (cv_h (fn_h (ds:=[y,.int 0,.int (N+1:Nat)]) (ac_h .(d) (ac_h (d:=.int 0) rfl (ac_h (zy6 .(d)) rfl))) rfl (zl6 ty)))) ?_;cases hn:natB (N+1:Nat) y with
    | false =>
     rw[if_pos (by rfl)];exact z06 (j3 (.bl false) rfl ⟨rfl,rfl,z84 et inv hy hn⟩)
    | true =>
     rw[if_neg .(1)];obtain⟨v,rfl,vN⟩:=zl7 hn;refine z07 (Y4 (.int ((max N (v+1):Nat):Int)) [some .(9),.(g xs),.(i .(7)),.(i (((max N (v+1):Nat):Int))),.(i (v:Nat)),none,none] (Z18 .(d) (zy6 .(d))) rfl ?_);exact z0f ⟨row++[v],max N (v+1),_,zf4 et hy rfl,z5F cr inv vN,z5S inv vN,rfl,rfl⟩
   ·rintro γ h2 ⟨row,N,a,et,cr,inv,rfl,rfl⟩;rw[show (Src.con xs).items.length=xs.length from rfl,K1w]at et;exact⟨row,N,a,et,cr,inv,rfl,rfl⟩
   ·rintro d h' ⟨rfl,rfl,no⟩;refine⟨?_,[],by simp⟩;rw[z6o];rintro⟨row,e,s⟩;injection e with e
    exact no ⟨row,e,s.can⟩
  rintro γ _ ⟨row,N,a,rfl,cr,inv,rfl,rfl⟩;have sl:row.length=st.length:=by rw[<- xl,j8]
  have m:MC st mk row:=⟨sq,rs,lm,sl,cr⟩;rw[w_cons];refine z0i (λc γ h'=>∃a b e,γ=[some .(9),.(g (stD row)),.(i .(7)),.(i (N:Nat)),a,b,e]/\(∃j,h'=h++j)/\∀i,i<c->mkAt mk i=mkAt mk (row.idxOf (rowAt row i))/\FT.led st row i=FT.led st row (row.idxOf (rowAt row i))) (λd h'=>d=.bl false/\(∃j,h'=h++j)/\¬ Steady st mk row) ?_;refine W_of (v:=.int st.length) .(d) ⟨st.length,rfl,by omega,⟨_,_,_,rfl,⟨[],by simp⟩,λi hi=>by omega⟩,?_,?_,?_⟩
  ·rintro c _ _ hc ⟨a,b,e,rfl,⟨j,rfl⟩,lk⟩;have cm:=z2t (show c<row.length by omega);obtain⟨f,hf⟩:∃f,f=row.idxOf (rowAt row c):=⟨_,rfl⟩;have fl:f<st.length:=by rw[hf,<- sl];exact K1e.mpr cm
   show W (Z0 _ _ [some .(9),.(g (stD row)),.(i .(7)),.(i (N:Nat)),.(i (c:Nat)),b,e]) _ _;refine z7j (.int (f:Nat)) [some .(9),.(g (stD row)),.(i .(7)),.(i (N:Nat)),.(i (c:Nat)),.(i (f:Nat)),e] ?_ rfl ?_
   ·rw[hf];refine Z03 rfl ?_ cm .(0);simp only[K5,K1,z0d,e2,eVar,ix_tup (z7n (l:=row) (c:=c) .(0))];rfl
   have e1:fEqX true (.tup ((mkAt mk c).map .str)) (.tup ((mkAt mk f).map .str)) (h++j)=.ok (.bl (decide (mkAt mk c=mkAt mk f) != true)) (h++j):=z2r (z5I z7V _ _);have mi:∀{x:Nat},x<.(7)->atI (mksD mk) (x:Int)=.(g (((mkAt mk x).map .str))):=λ{x} hx=>z9T .(0);have ns:¬ (mkAt mk c=mkAt mk f/\FT.led st row c=FT.led st row f)->¬ Steady st mk row:=λz s=>z (by rw[hf];exact s.like c .(0));refine z0b (decide (mkAt mk c=mkAt mk f) != true) (cb_h (e2_h (e2_h (e2_h .(d) (y:=.int 1) rfl (by rw[z5f];rfl)) .(d) (by rw[ix_tup (mi (show c<.(7) by omega))];rfl)) (e2_h (e2_h .(d) (y:=.int 1) rfl (by rw[z5f];rfl)) .(d) (by rw[ix_tup (mi fl)];rfl)) e1)) ?_;by_cases q1:mkAt mk c=mkAt mk f
   ·rw[.(g) q1,if_neg .(1)];refine z07 (Y4 (.ref ((h++j).length+2)) [some .(9),.(g (stD row)),.(i .(7)),.(i (N:Nat)),.(i (c:Nat)),.(i (f:Nat)),.(r (((h++j).length+2)))] (zx7 m .(0) rfl rfl rfl) rfl ?_);obtain⟨H,hH⟩:∃H,H=h++j++[.lst (stD ((nx st c).map (rowAt row))),.set (kN (dedN ((nx st c).map (rowAt row)))),.lst (stD (FT.led st row c))]:=⟨_,rfl⟩;rw[<- hH];have g1:H[(h++j).length+2]?=.(l ((stD (FT.led st row c)))):=by rw[hH];exact at_E (l:=[_,_,_])
    refine z0b (decide (FT.led st row c=FT.led st row f) != true) ?_ ?_
    ·exact zv1 (cb_h (e2_h .(d) (zx7 (a:=5) (h:=H) m fl rfl rfl rfl) (zH9 (J7 g1) (at_E (l:=[_,_,_])))))
    by_cases q2:FT.led st row c=FT.led st row f
    ·rw[.(g) q2,if_neg .(1)];refine z07 (z0f ⟨_,_,_,rfl,⟨j++_,by rw[hH,K06]⟩,λi hi=>?_⟩);by_cases z:i=c
     ·subst z;rw[<- hf];exact⟨q1,q2⟩
     ·exact lk i .(0)
    ·rw[.(m) q2,if_pos .(1)];exact z06 (j3 (.bl false) rfl ⟨rfl,⟨j++_,by rw[hH,K06]⟩,ns λz=>q2 z.2⟩)
   ·rw[.(m) q1,if_pos .(1)];exact z06 (j3 (.bl false) rfl ⟨rfl,⟨j,rfl⟩,ns λz=>q1 z.1⟩)
  ·rintro _ _ ⟨a,b,e,rfl,ej,lk⟩;refine j3 (.bl true) rfl ⟨?_,ej⟩;rw[zb4 ⟨sl,cr,λi hi=>lk i .(0)⟩]
  ·rintro _ _ ⟨rfl,ej,no⟩;refine⟨?_,ej⟩;rw[z6o];rintro⟨row',e,s⟩;injection e with e
   rw[<- z6a e]at s;exact no s
def numL (l:List Nat):List Nat:=l.map λx=>(setN l).idxOf x
theorem z2L (e:h[i]?=.(l (stD l))) (hl:l.length<=1000) (hd:(setN l).length<64):z00 [.ref i] h=.ok (.tup (stD (numL l))) h:=by
 have il:=(K3.mp e).1;show cln (runF 2 z0k [.ref i]) h=_;refine z0S (j:=[.set (kN (dedN l)),.lst (stD (setN l))]) (z2z ?_) (by simp only[Y1];exact z1O _);show W (z0k [.(r i),none]) h _;unfold z0k;refine Y4 (.ref (h.length+1)) [.(r i),.(r (h.length+1))] (ss_h .(d) e .(0) hd) rfl ?_;have e':∀j:AH,(h++j)[i]?=.(l (stD l)):=λj=>by rw[K0z il];exact e
 have g:∀j:AH,(h++[O.set (kN (dedN l)),O.lst (stD (setN l))]++j)[h.length+1]?=.(l ((stD (setN l)))):=λj=>by simp
 refine j3 (.tup (stD (numL l))) (z61 ?_ (z1O _)) ⟨rfl,rfl⟩;refine(z0R (l:=l) (λ_=>true) (λx=>.int ((setN l).idxOf x:Nat)) (z5h .(d) (e' _)) rfl (λj=>by show (_++j)[i]?=_;rw[K06];exact e' _) .(0) λx hx=>⟨[.(r (h.length+1)),.(i x)],λh=>rfl,λj=>rfl,λ_ j=>?_⟩).trans ?_
 ·exact zN4 .(d) (g j) .(d) (by rw[z4h];exact hx) .(0)
 ·rw[filter_tt];unfold numL stD;rw[K0u];rfl
def wordsL:List Str:=["yes","no","not","and","or","step","some","all","next","once","ever","until","unless"]
def lowB (x:Str):Bool:=x.cps.toList.all λc=>decide (97<=c)&&decide (c<=122)
def z3H (x:Str):Bool:=decide (1<=x.length)&&decide (x.length<=8)&&!decide (x∈wordsL)&&lowB x
def nmB:D->Bool
 | .str x=>z3H x
 | _=>false
def strB:D->Bool
 | .str _=>true
 | _=>false
theorem str_is (d:D):isOf "str" d=strB d:=by cases d<;>simp[isOf,strB,subT]
theorem zZ0 (h:strB d=false):nmB d=false:=by cases d<;>first|rfl|cases h
theorem zj0 (h:strB d=true):∃x,d=.str x:=by cases d<;>first|(cases h;done)|exact⟨_,rfl⟩
theorem TA.at {h:AH}{d:D}(t:TA h d) {T:String}(hT:T = "int"\/T = "bool"\/T = "tuple"\/T = "str"):fIsi T d h=.ok (.bl (isOf T d)) h:=by have:=t [] T hT;rwa [K0w]at this
theorem zY0 (t:TA h d):z2w [d] h=.ok (.bl (strB d)) h:=by
 refine z3m (z2z ?_) rfl;show W (z20 [some d]) h _;unfold z20;exact j3 _ (z3z .(d) (t.at (.inr (.inr (.inr rfl))))) ⟨by rw[str_is],rfl⟩
theorem zz6 (c:Nat):e3 fLe fLe (λ_=>pure (.str "a")) .(h) (λ_=>pure (.str "z")) [.(s (⟨#[c]⟩))]=pure (.bl (decide (97<=c)&&decide (c<=122))):=funext λh=>by
 have q1:("a":Str).cps.toList=[97]:=by decide +kernel
 have q2:("z":Str).cps.toList=[122]:=by decide +kernel
 have r1:([c]<[97])↔¬ 97<=c:=by
  rw[K9e];simp
 have r2:([122]<[c])↔¬ c<=122:=by
  rw[K9e];simp
 have d1:(!decide ([c]<[97]))=decide (97<=c):=by rw[K19,K3z,decide_eq_false_iff_not,decide_eq_true_eq,r1,Z20]
 have d2:(!decide ([122]<[c]))=decide (c<=122):=by rw[K19,K3z,decide_eq_false_iff_not,decide_eq_true_eq,r2,Z20]
 by_cases z:97<=c
 ·simp only[e3,eVar,K1,fLe,asB,bindM,pureM,iteM,q1,q2,d1,d2,decide_eq_true z,if_true,K21]
 ·simp only[e3,eVar,K1,fLe,asB,bindM,pureM,iteM,q1,q2,d1,d2,decide_eq_false z,K31];rfl
theorem zF1 {x:Str}(hx:x.length<=1000):z1B [.str x]=pure (.bl (z3H x)):=by
 unfold z1B;rw[z5s,z46];show z1Y [.(s x)]=_;unfold z1Y;have hl:fLen [.str x]=pure (.int (x.length:Nat)):=by
  unfold fLen;simp only[];rw[if_pos (K0d hx .(1))]
 by_cases ok:1<=x.length/\x.length<=8
 ·refine(p_if false ?_).trans ?_
  ·simp only[K0m,K48,K1,K02,K08,K0h,z7,aNil,Y6,z0d,cNot,cOr,cVal,decide_eq_true (show ((x.length:Nat):Int)<=8 by omega),decide_eq_true (show (1:Int)<=(x.length:Nat) by omega),e3,Z6,eFn,eVar,hl,if_false,if_true,zr3,show c_LONGEST=D.int 8 from rfl,zw8,z1m]
  rw[if_neg .(1),Z0e];refine zn3 _ ?_;have e:=zK4 (γ:=[.(s x)]) (cap:=[none]) (mi:=iStr .(h)) (g:=gN 0) (k:=λ_=>pure true) (me:=e3 fLe fLe (λ_=>pure (.str "a")) .(h) (λ_=>pure (.str "z"))) (items:=z0Z x) false (λ_=>true) (λd=>match d with|.str s=>(s.cps.toList.all λc=>decide (97<=c)&&decide (c<=122))|_=>false) rfl (by unfold z0Z;rw[K03,<- len_str];omega) λd hd=>by
   unfold z0Z at hd;obtain⟨c,hc,rfl⟩:=K07.mp hd;exact⟨[.(s (⟨#[c]⟩))],rfl,rfl,λ_=>by rw[zz6];simp⟩
  have kp:c_KEPT=.tup (wordsL.map .str):=rfl;by_cases w:x∈wordsL
  ·have e0:FT.e2 (fIn true) .(h) (λ_=>pure c_KEPT) [.(s x)]=pure (.bl false):=by
    simp only[K1,z0d,e2,eVar];rw[kp,z5P,.(g) w];rfl
   rw[zN7 e0];unfold z3H;rw[.(g) w,K48,K3p,K31]
  ·have e0:FT.e2 (fIn true) .(h) (λ_=>pure c_KEPT) [.(s x)]=pure (.bl true):=by
    simp only[K1,z0d,e2,eVar];rw[kp,z5P,.(m) w];rfl
   rw[zY2 e0,e,filter_tt,if_neg .(1)];unfold z3H lowB z0Z;rw[.(g) ok.1,.(g) ok.2,.(m) w,Z22];simp[K67]
 ·refine(p_if true ?_).trans ?_
  ·simp only[K0m,K48,K1,K02,K08,K0h,z7,aNil,Y6,z0d,cNot,cOr,cVal,e3,Z6,eFn,eVar,hl,if_false,if_true,zr3,show c_LONGEST=D.int 8 from rfl,zw8,z1m];by_cases a:1<=x.length
   ·simp only[K2l,Y6,z0d,decide_eq_false (show ¬((x.length:Nat):Int)<=8 by omega),decide_eq_true (show (1:Int)<=(x.length:Nat) by omega),if_true]
   ·simp only[K0m,K2l,Y6,z0d,decide_eq_false (show ¬(1:Int)<=(x.length:Nat) by omega),if_false]
  rw[if_pos rfl];refine(Z14).trans (zn3 _ ?_);unfold z3H;by_cases a:1<=x.length
  ·rw[.(m) (show ¬ x.length<=8 from λz=>ok ⟨a,z⟩),K3p,K31,K31]
  ·rw[.(m) a,K31,K31,K31]
theorem zD5 (t:TA h d) (hs:∀x,d=.str x->x.length<=1000):z1B [d] h=.ok (.bl (nmB d)) h:=by
 cases e:strB d with
 | true =>
  obtain⟨x,rfl⟩:=zj0 e;rw[zF1 (hs x rfl)];rfl
 | false =>
  refine z3m (z2z ?_) rfl;show W (z1Y [some d]) h _;unfold z1Y;refine z0b true (z57 (cn_h (b:=false) (cv_h (fn_h (ds:=[d]) (ac_h .(d) rfl) rfl (by rw[zY0 t,e]))))) ?_;rw[if_pos rfl];exact z06 (j3 (.bl false) rfl ⟨by rw[zZ0 e],rfl⟩)
def abcS:Str:="abcdefghijklmnopqrstuvwxyz"
theorem zs7:abcS.cps.toList=(K9 26).map (·+97):=by decide +kernel
theorem zA0 (c:Nat):(K1v abcS ⟨#[c]⟩ 0 abcS.length 1).isEmpty = !(decide (97<=c)&&decide (c<=122)):=by
 by_cases h:97<=c/\c<=122
 ·rw[.(g) h.1,.(g) h.2];exact zH4 h.1 h.2
 ·have e:(decide (97<=c)&&decide (c<=122))=false:=by
   rw[K3t];by_cases h1:97<=c
   ·exact .inr (.(m) λh2=>h ⟨h1,h2⟩)
   ·exact .inl (.(m) h1)
  rw[e,PySem.W.occ_nil_of_no abcS ⟨#[c]⟩ 1 λi hi=>?_]
  ·rfl
  ·cases hs:Builtin.Str.subAt abcS ⟨#[c]⟩ i with
   | false=>rfl
   | true =>
    exfalso;have hm:c∈abcS.cps:=by
     have hc:c∈(⟨#[c]⟩:Str).cps:=by simp
     rw[<- beq_iff_eq.mp hs]at hc;obtain⟨k,hk,ek⟩:=Array.mem_extract_iff_getElem.mp hc;rw[<- ek];exact Array.getElem_mem _
    rw[<- Array.mem_toList_iff,zs7]at hm;obtain⟨a,ha,rfl⟩:=K07.mp hm;have:=K0r.mp ha;exact h ⟨by omega,by omega⟩
theorem zG8 (t:TA h d) (hs:∀x,d=.str x->x.length<=1000):z1i [d] h=.ok (.bl (nmB d)) h:=by
 obtain⟨ws,hws⟩:∃ws:List Str,ws=wordsL:=⟨_,rfl⟩;show cln (runF 2 z08 [d]) h=_;refine z0S (j:=[.lst (ws.map .str)]) (z2z ?_) rfl;show W (z08 [some d,none]) h _;unfold z08;refine zL6 (xs:=ws.map .str) (by rw[hws];decide) (λh=>by rw[hws];rfl) ?_;have t1:fIsi "str" d (h++[.lst (ws.map .str)])=.ok (.bl (strB d)) (h++[.lst (ws.map .str)]):=by rw[<- str_is];exact t _ _ (.inr (.inr (.inr rfl)))
 cases e:strB d with
 | false =>
  rw[e]at t1;refine z0b true (z57 (cn_h (b:=false) (cv_h (z3z .(d) t1)))) ?_;rw[if_pos rfl];exact z06 (j3 (.bl false) rfl ⟨by rw[zZ0 e],rfl⟩)
 | true =>
  rw[e]at t1;obtain⟨s,rfl⟩:=zj0 e;have sl:=hs s rfl;have ln:Z6 fLen (z7 .(h) aNil) [.(s s),.(r h.length)] (h++[.lst (ws.map .str)])=.ok (.int s.length) (h++[.lst (ws.map .str)]):=by
   have:s.length<=sizeLine:=K0d sl .(1);simp[Z6,z7,aNil,eVar,fLen,this]
  have inw:FT.e2 (fIn false) .(h) .(l) [.(s s),.(r h.length)] (h++[.lst (ws.map .str)])=.ok (.bl (decide (s∈ws))) (h++[.lst (ws.map .str)]):=by
   refine e2_h .(d) .(d) ?_;have g:getL h.length (h++[O.lst (ws.map .str)])=.ok (ws.map .str) (h++[.lst (ws.map .str)]):=by unfold getL;rw[x6]
   unfold fIn seqD;rw[M.bind_ok g,z68,z3s];simp[z1j]
  have c1:(λγ=>do let d <- FT.e2 fLt (Z6 fLen (z7 .(h) aNil)) .(4) γ;asB d:G->M Bool) [.(s s),.(r h.length)] (h++[.lst (ws.map .str)])=.ok (decide (s.length<1)) (h++[.lst (ws.map .str)]):=(cb_h (e2_h ln (y:=.int 1) rfl (by rw[z7l];rfl))).trans (by congr 1;exact decide_eq_decide.mpr .(0));have c2:(λγ=>do let d <- FT.e2 fGt (Z6 fLen (z7 .(h) aNil)) (λ_=>pure (.int 8)) γ;asB d:G->M Bool) [.(s s),.(r h.length)] (h++[.lst (ws.map .str)])=.ok (decide (8<s.length)) (h++[.lst (ws.map .str)]):=(cb_h (e2_h ln (y:=.int 8) rfl (by rw[z42];rfl))).trans (by congr 1;exact decide_eq_decide.mpr .(0));refine z0b (decide (s.length<1)||(decide (8<s.length)||decide (s∈ws))) (z9s (cn_h (b:=true) (cv_h (z3z .(d) t1))) (z6n c1 (z6n c2 (cb_h inw)))) ?_;by_cases ok:s.length<1\/8<s.length\/s∈ws
  ·have e1:(decide (s.length<1)||(decide (8<s.length)||decide (s∈ws)))=true:=by simpa using ok
   rw[e1,if_pos rfl];refine z06 (j3 (.bl false) rfl ⟨?_,rfl⟩);show D.bl false=D.bl (z3H s);congr 1;symm;unfold z3H;rcases ok with a|a|a
   ·rw[.(m) (show ¬ 1<=s.length by omega)];rfl
   ·rw[.(m) (show ¬ s.length<=8 by omega),K3p];rfl
   ·rw[hws]at a;rw[.(g) a,K48,K3p];rfl
  ·have e1:(decide (s.length<1)||(decide (8<s.length)||decide (s∈ws)))=false:=by
    rw[Bool.eq_false_iff];intro z;exact ok (by simpa using z)
   rw[e1,if_neg .(1)];refine z07 (j3 (.bl (z3H s)) ?_ ⟨rfl,rfl⟩);have nb:z3H s=lowB s:=by
    unfold z3H;rw[.(g) (show 1<=s.length by omega),.(g) (show s.length<=8 by omega),.(m) (λz=>ok (.inr (.inr (by rw[hws];exact z))))];rfl
   refine(zH2 (xs:=(z0Z s).filter λd=>match d with|.str x=>!lowB x|_=>false) (j:=[]) (neg:=false) ?_ ?_).trans ?_
   ·rw[K0w];refine(z28 (src:=.con (z0Z s)) (λd=>match d with|.str x=>!lowB x|_=>false) (λd=>d) rfl (λ_=>trivial) (by unfold z0Z;show ((s.cps.toList.map _):List D).length<=_;rw[K03,<- len_str];omega) λd hd=>?_).trans ?_
    ·have hd:d∈z0Z s:=hd;unfold z0Z at hd;obtain⟨c,hc,rfl⟩:=K07.mp hd;refine⟨[.(s (⟨#[c]⟩))],λh=>rfl,λj=>?_,λ_ j=>rfl⟩;show Res.ok ((!(K1v abcS ⟨#[c]⟩ 0 abcS.length 1).isEmpty) != true) _=Res.ok (!lowB ⟨#[c]⟩) _;rw[zA0];unfold lowB;simp
    ·rw[show ∀l:List D,l.map (λd=>d)=l from λl=>Z21 l];exact(zi8 (K0d (K1o _ _) (by show (z0Z s).length<=_;unfold z0Z;rw[K03,<- len_str];omega))).symm
   ·exact K0d (K1o _ _) (by unfold z0Z;rw[K03,<- len_str];omega)
   ·rw[nb,K1j];congr 2;rw[K19,List.isEmpty_iff,K8y];unfold lowB z0Z;rw[K1m];constructor
    ·intro z c hc;have:=z _ (K07.mpr ⟨c,hc,rfl⟩);simpa using this
    ·intro z d hd;obtain⟨c,hc,rfl⟩:=K07.mp hd;have:=z c hc;simpa using this
def keyB (bl:Bl):D->Bool
 | .int i=>decide (0<=i)&&decide (i.toNat∈bl.map (·.1))
 | _=>false
def byB (bl:Bl) (y:D):Bool:=nmB y||(numB y&&keyB bl y)
def cutC (bl:Bl):D->Bool
 | .tup [l,y]=>numB l&&(keyB bl l&&byB bl y)
 | _=>false
theorem z7K {bl:Bl}(h:keyB bl d=true):∃k:Nat,d=.int (k:Nat)/\k∈bl.map (·.1):=by
 cases d<;>first|(cases h;done)|skip
 rename_i i;have h:(decide (0<=i)&&decide (i.toNat∈bl.map (·.1)))=true:=h;rw[K0c,decide_eq_true_eq,decide_eq_true_eq]at h;obtain⟨k,rfl⟩:=K0v h.1;exact⟨k,rfl,h.2⟩
theorem z3q {bl:Bl}(k:Nat):keyB bl (.int (k:Nat))=decide (k∈bl.map (·.1)):=by
 show (decide ((0:Int)<=(k:Nat))&&decide (((k:Nat):Int).toNat∈bl.map (·.1)))=_;rw[.(g) .(0),K21,K0f]
section
variable {bl:Bl}
theorem zW9 (dc:Dic h b bl) (i:Int):fInD false (.int i) (.ref b) h=.ok (.bl (keyB bl (.int i))) h:=by
 have g:dicD (.ref b) h=.ok (kvB bl) h:=by
  unfold dicD getK;dsimp only;rcases dc with d|d<;>rw[d]
 unfold fInD;rw[M.bind_ok g];show Res.ok (D.bl ((lkD (kvB bl) (.inl i)).isSome != false)) h=_;rw[K1j];congr 2;unfold lkD;rw[K7w,List.isSome_find?];show _=(decide (0<=i)&&decide (i.toNat∈bl.map (·.1)));rw[K19,K28,K0c,decide_eq_true_eq,decide_eq_true_eq];unfold kvB;constructor
 ·rintro⟨x,hx,e⟩;obtain⟨p,hp,rfl⟩:=K07.mp hx;have e:(K41 (p.1:Int):Key)=.inl i:=of_decide_eq_true e;injection e with e
  subst e;exact⟨by omega,by rw[K0f];exact K07.mpr ⟨p,hp,rfl⟩⟩
 ·rintro⟨a,m⟩;obtain⟨p,hp,e⟩:=K07.mp m;exact⟨_,K07.mpr ⟨p,hp,rfl⟩,.(g) (by rw[show (p.1:Int)=i by omega])⟩
theorem zQ1 (dc:Dic h b bl) (t:TA h d) (ea:γ[a]?=some (some d)) (ec:γ[c]?=some (.(r b))){m:G->M D}{q:Bool}(em:numB d=true->keyB bl d=true->m γ h=.ok (.bl q) h):
 eAnd (eFn 1 z0o (z7 (eVar a) aNil)) (eAnd (FT.e2 (fInD false) (eVar a) (eVar c)) m) γ h=.ok (.bl (numB d&&(keyB bl d&&q))) h:=by
 have t0:=z7S t [];rw[K0w]at t0;refine z1n (fn_h (ds:=[d]) (ac_h (Z2 ea) rfl) rfl t0) λn=>?_;obtain⟨i,rfl⟩:=z5C n;exact z1n (e2_h (Z2 ea) (Z2 ec) (zW9 dc i)) λk=>em n k
theorem zm3 (dc:Dic h b bl) (t:TB 1 h d) (hs:∀l x,d=.tup [l,.str x]->x.length<=1000):z4n [.ref b,d] h=.ok (.bl (cutC bl d)) h:=by
 refine z3m (z2z ?_) rfl;show W (z4i [.(r b),some d,none,none]) h _;unfold z4i;refine z0b (!lenB 2 2 d) (cn_h (cv_h (fn_h (ds:=[d,.int 2,.int 2]) (ac_h .(d) rfl) rfl (z7P t.1)))) ?_;cases hl:lenB 2 2 d with
 | false =>
  rw[if_pos (by rfl)];refine z06 (j3 (.bl false) rfl ⟨?_,rfl⟩);congr 1;symm;unfold cutC;split
  ·exact absurd hl (by simp[lenB])
  ·rfl
 | true =>
  rw[if_neg .(1)];obtain⟨l,y,rfl⟩:∃l y,d=.tup [l,y]:=by
   cases d with
   | tup xs =>
    have hl:(decide ((2:Int)<=xs.length)&&decide ((xs.length:Int)<=2))=true:=hl;rw[K0c,decide_eq_true_eq,decide_eq_true_eq]at hl;have n2:xs.length=2:=by omega
    match xs,n2 with
    | [l,y],_=>exact⟨l,y,rfl⟩
   | _=>cases hl
  have tl:TA h l:=(t.2 _ rfl l .(f)).ta;have ty:TA h y:=(t.2 _ rfl y .(f)).ta;refine z07 (Y4 (.tup [l,y]) [.(r b),.(g [l,y]),some l,some y] .(d) rfl ?_);have ny:=z7S ty [];rw[K0w]at ny;have ey:eOr (eFn 1 z1B (z7 (eVar 3) aNil)) (eAnd (eFn 1 z0o (z7 (eVar 3) aNil)) (FT.e2 (fInD false) (eVar 3) .(h))) [.(r b),.(g [l,y]),some l,some y] h=.ok (.bl (byB bl y)) h:=by
   have en:eFn 1 z1B (z7 (eVar 3) aNil) [.(r b),.(g [l,y]),some l,some y] h=.ok (.bl (nmB y)) h:=fn_h (ds:=[y]) (ac_h .(d) rfl) rfl (zD5 ty λx e=>hs l x (by rw[e]));unfold eOr byB;rw[M.bind_ok en];cases nmB y with
   | true=>rfl
   | false =>
    rw[K49];refine z1n (fn_h (ds:=[y]) (ac_h .(d) rfl) rfl ny) λn=>?_;obtain⟨i,rfl⟩:=z5C n;exact e2_h .(d) .(d) (zW9 dc i)
  exact j3 _ (zQ1 dc tl rfl rfl λ_ _=>ey) ⟨rfl,rfl⟩
end
theorem z86 (e:me γ h=.ok (.ref i) h1) (q:h1[i]?=.(l xs)):v8 me γ h=.ok (.lst i xs) h1:=by
 have g:getL i h1=.ok xs h1:=by unfold getL;rw[q]
 unfold v8;rw[M.bind_ok e];dsimp only;rw[M.bind_ok g];rfl
section
variable {bl:Bl}
theorem zK2 (ma:MA st mk) (x:Nat):(nx st x).length<=40:=by
 have l2:=ma.l2;by_cases hx:x<.(7)
 ·have g:=K0j (za4 hx);exact K0d (z4b (ma.s1 _ g) (ma.s2 _ g)) l2
 ·unfold nx;rw[K13 .(0)];simp
theorem zu6 (pb:PB st.length bl){k:Nat}(hk:k∈bl.map (·.1)):(∀x∈blk bl k,x<st.length)/\(blk bl k).length<=st.length:=by
 have m:=pb.of_key hk;have lt:∀x∈blk bl k,x<st.length:=λx hx=>pb.lt m hx;exact⟨lt,z4b (pb.rise _ m) lt⟩
end
def blkE (bl:Bl):D->Key×D
 | .int k=>(.inl k,.tup (stD (blk bl k.toNat)))
 | _=>(.inl 0,.non)
theorem zp7 {bl:Bl}(pb:PB n bl):(stD (bl.map (·.1))).map (blkE bl)=kvB bl:=by
 unfold stD kvB;rw[K0u,K0u];refine K2a λp hp=>?_;show ((.inl ((p.1:Nat):Int):Key),D.tup (stD (blk bl ((p.1:Nat):Int).toNat)))=_;rw[K0f,pb.blk hp]
theorem zF7 (nd:l.Nodup){f:D->Key×D}(hf:∀x:Nat,(f (.int x)).1=.inl (x:Int)):((stD l).map λd=>(f d).1).Nodup:=by
 have e:((stD l).map λd=>(f d).1)=l.map λ(x:Nat)=>(.inl (x:Int):Key):=by
  unfold stD;rw[K0u];exact K2a λx _=>hf x
 rw[e];exact Z1v _ (λa b h e=>h (inl_inj.mp e)) nd
section
variable {bl:Bl}
theorem Z1b {k:Nat}(ma:MA st mk) (pb:PB st.length bl) (dc:Dic h b bl) (ok:ByOk bl y) (ct:Cut bl k (bel st mk bl y)):z5w [maD st mk,.ref b,.tup .(w)] h=.ok .(u) (h.set b (.dF (kvB bl))++[.dK (kvB (cutB bl k (bel st mk bl y)))]):=by
 have l2:=ma.l2;have bln:=pb.len;obtain⟨hF,hhF⟩:∃hF,hF=h.set b (.dF (kvB bl)):=⟨_,rfl⟩;have dF:∀j,Dic (hF++j) b bl:=λj=>by rw[hhF];exact dc.set.app j
 have lF:hF.length=h.length:=by rw[hhF,K5h]
 obtain⟨f,hf⟩:∃f,f=bel st mk bl y:=⟨_,rfl⟩;obtain⟨blt,bll⟩:=zu6 pb ct.hk;obtain⟨T,hT⟩:∃T:Nat->Bl,T=λc=>(([yesL bl k f,noL bl k f]:List (List Nat)).take c).foldl (λacc q=>putB acc (q.headD 0) q) bl:=⟨_,rfl⟩;have key:W (runF 7 z2H [maD st mk,.ref b,.tup .(w)]) h λd h'=>d=.ref hF.length/\∃j,h'=hF++(.dK (kvB (cutB bl k f))::j):=by
  refine z2n ?_;show W (z2H [some .(9),.(r b),.(g .(w)),none,none,none,none]) h _;unfold z2H z7u;refine z7j (.tup .(w)) [some .(9),.(r b),.(g .(w)),.(i (k:Nat)),some y,none,none] rfl rfl ?_;refine Y4 (.ref hF.length) [some .(9),.(r b),.(g .(w)),.(i (k:Nat)),some y,.(r hF.length),none] (h1:=hF++[.dK (kvB bl)]) ?_ rfl ?_
  ·have e:=zC8 (cap:=[some 1,none]) (mi:=iDic .(l)) (g:=gN 1) (kb:=λ_=>pure true) (me:=eVar 1) (mv:=e2 z4x .(h) .(l)) (γ:=[some .(9),.(r b),.(g .(w)),.(i (k:Nat)),some y,none,none]) (h:=h) (h1:=hF) (blkE bl) (src:=.con (stD (bl.map (·.1)))) (by rw[hhF];exact dc.walk .(d)) (λ_=>trivial) (zF7 pb.nd λx=>rfl) (by show (stD (bl.map (·.1))).length<=_;rw[j8,K03];omega) λd hd=>by
    obtain⟨x,hx,rfl⟩:=K07.mp (show d∈(bl.map (·.1)).map _ from hd);exact⟨[.(r b),.(i (x:Nat))],.int (x:Nat),λh=>rfl,λh=>rfl,rfl,λj=>rfl,λj=>e2_h .(d) .(d) ((dF j).get hx)⟩
   rw[show (Src.con (stD (bl.map (·.1)))).items=stD (bl.map (·.1)) from rfl,zp7 pb]at e;exact e
  have p2:prt (blk bl k) f=[yesL bl k f,noL bl k f]:=zE7 (by rw[hf];exact ct.hy) (by rw[hf];exact ct.hn);have pd:=z8C (h:=hF++[.dK (kvB bl)]) (d:=y) (l:=blk bl k) (z6J ma) ma.l3 (dF _) blt .(0) (zK2 ma) ok;rw[<- hf,p2]at pd;refine z2o (λγ h'=>∃a j,γ=[some .(9),.(r b),.(g .(w)),.(i (k:Nat)),some y,.(r (hF.length+0)),a]/\h'=hF++(.dK (kvB (T 2))::j)) ?_ ?_
  ·refine z1v (λc γ h'=>∃a,γ=[some .(9),.(r b),.(g .(w)),.(i (k:Nat)),some y,.(r (hF.length+0)),a]/\h'=hF++[.dK (kvB (T c)),.lst (stsD [yesL bl k f,noL bl k f])]) (λ_ _=>False) ?_;refine W_of (v:=.lst (hF++[O.dK (kvB bl)]).length (stsD [yesL bl k f,noL bl k f])) (z86 (fn_h (ds:=[maD st mk,.ref b,.tup (stD (blk bl k)),y]) (ac_h .(d) (ac_h .(d) (ac_h (e2_h .(d) .(d) ((dF _).get ct.hk)) (ac_h .(d) rfl)))) rfl pd) x6) ?_;refine⟨⟨none,rfl,by rw[hT];simp⟩,λc γ h' ⟨_,_,e⟩=>?_,?_,?_,λ_ _ q=>q.elim⟩
   ·show h'[_]?=_;rw[e];have:(hF++[O.dK (kvB bl)]).length=hF.length+1:=by simp
    rw[this];exact at_E (l:=[_,_])
   ·rintro c d γ _ hd ⟨a,rfl,rfl⟩;obtain⟨q,eq,rfl⟩:∃q,([yesL bl k f,noL bl k f]:List (List Nat))[c]?=some q/\d=.tup (stD q):=by
     have hd:(stsD [yesL bl k f,noL bl k f])[c]?=some d:=hd;unfold stsD at hd;rw[K0k]at hd;obtain⟨q,e1,e2⟩:=K0y.mp hd;exact⟨q,e1,e2.symm⟩
    have qm:=K0j eq;have q0:q≠[]:=by
     simp at qm;rcases qm with rfl|rfl
     ·rw[hf];exact ct.hy
     ·rw[hf];exact ct.hn
    obtain⟨x,r,rfl⟩:∃x r,q=x::r:=by cases q with|nil=>exact absurd rfl q0|cons x r=>exact⟨x,r,rfl⟩
    refine W_eq (v:=[some .(9),.(r b),.(g .(w)),.(i (k:Nat)),some y,.(r (hF.length+0)),.(g ((stD (x::r))))]) rfl ?_;have tc:T (c+1)=putB (T c) x (x::r):=by
     rw[hT];dsimp only;rw[K9i,eq,K4v];rfl
    have Tl:(T c).length<=100:=by
     have one:∀(bl:Bl) (k:Nat) (b:List Nat),(putB bl k b).length<=bl.length+1:=λbl k b=>by unfold putB;split<;>simp
     have:∀(l:List (List Nat)) (bl:Bl),(l.foldl (λacc q=>putB acc (q.headD 0) q) bl).length<=bl.length+l.length:=by
      intro l;induction l with
      | nil=>intro bl;simp
      | cons q l ih=>intro bl;have:=ih (putB bl (q.headD 0) q);have:=one bl (q.headD 0) q;simp only[K4m,K02];omega
     have t1:=this (([yesL bl k f,noL bl k f]:List (List Nat)).take c) bl;rw[hT];dsimp only;have:(([yesL bl k f,noL bl k f]:List (List Nat)).take c).length<=2:=by rw[K1t];simp;omega
     omega
    have put:gDx (eVar 5) (e2 fIx (eVar 6) .(3)) (.tup (stD (x::r))) [some .(9),.(r b),.(g .(w)),.(i (k:Nat)),some y,.(r (hF.length+0)),.(g ((stD (x::r))))] (hF++[.dK (kvB (T c)),.lst (stsD [yesL bl k f,noL bl k f])])=.ok [some .(9),.(r b),.(g .(w)),.(i (k:Nat)),some y,.(r (hF.length+0)),.(g ((stD (x::r))))] (hF++[.dK (kvB (T (c+1))),.lst (stsD [yesL bl k f,noL bl k f])]):=by
     unfold gDx;have e1:e2 fIx (eVar 6) .(3) [some .(9),.(r b),.(g .(w)),.(i (k:Nat)),some y,.(r (hF.length+0)),.(g ((stD (x::r))))] (hF++[.dK (kvB (T c)),.lst (stsD [yesL bl k f,noL bl k f])])=.ok (.int (x:Nat)) _:=e2_h .(d) (y:=.int 0) rfl (by
      show fIx (.tup (.int (x:Nat)::stD r)) (.int 0) _=_;rw[ix0];rfl)
     rw[M.bind_ok (Z2 (γ:=[some .(9),.(r b),.(g .(w)),.(i (k:Nat)),some y,.(r (hF.length+0)),.(g ((stD (x::r))))]) (a:=5) rfl),M.bind_ok e1];have e3:z7H (.ref (hF.length+0)) (.int (x:Nat)) (.tup (stD (x::r))) (hF++[.dK (kvB (T c)),.lst (stsD [yesL bl k f,noL bl k f])])=.ok () (hF++[.dK (kvB (T (c+1))),.lst (stsD [yesL bl k f,noL bl k f])]):=by
      unfold z7H;dsimp only;rw[show keyD (.int (x:Nat))=some (.inl (x:Int)) from rfl];dsimp only;rw[at_E (l:=[_,_])];show (if (kvB (T c)).length<sizeLine then _ else _)=_;rw[if_pos (by unfold kvB;rw[K03];exact K5s Tl .(1)),zC2,ptB,<- tc];rfl
     rw[M.bind_ok e3];rfl
    refine(w_cons).mpr ?_;unfold sAsg;rw[Z7];refine W_of .(d) ?_;rw[Z7];refine W_of put ?_;rw[W_pure];exact z0f ⟨_,rfl,rfl⟩
   ·rintro _ _ ⟨a,rfl,rfl⟩;exact⟨a,_,rfl,rfl⟩
  rintro _ _ ⟨a,j,rfl,rfl⟩;refine j3 (.ref hF.length) .(d) ⟨rfl,j,?_⟩;rw[hT];rfl
 obtain⟨d,h',e,rfl,j,rfl⟩:=key;show cln (runF 7 z2H [maD st mk,.ref b,.tup .(w)]) h=_;rw[<- hhF,<- hf];exact z3t e lF (by rw[hhF];exact zp2 (refB _)) .(0) (by rw[K1z .(0)];simp) (refB _)
end
def rowB (n:Nat) (bl:Bl):List Nat:=(K9 n).map λx=>(z0G (bl.map (·.1))).idxOf (keyOf bl x)
theorem zY4 (nd:(kvs.map (·.1)).Nodup){k:Key}{v:D}(h:(k,v)∈kvs):lkD kvs k=some v:=by
 induction kvs with
 | nil=>cases h
 | cons p r ih =>
  rw[K0x,K6r]at nd;unfold lkD;rw[K2t];rcases K12.mp h with rfl|h
  ·rw[.(g) rfl];rfl
  ·have:p.1≠k:=λe=>nd.1 (by rw[e];exact K07.mpr ⟨_,h,rfl⟩);rw[.(m) this];exact ih nd.2 h
theorem zK0 (e:kvs.map (·.1)=l.map λ(x:Nat)=>(.inl (x:Int):Key)):z2S (z2q kvs)=some (zN l):=by
 have:z2q kvs=stD l:=by
  unfold z2q stD;have h:=congrArg (List.map kD) e;rw[K0u,K0u]at h;exact h
 rw[this,z4k]
theorem z6i (g:z5t n h=.ok kvs h) (e:kvs.map (·.1)=l.map λ(x:Nat)=>(.inl (x:Int):Key)) (hl:l.length<64):z0L [.ref n] h=.ok .(u) (h++[.lst (stD (z0G l))]):=by
 show (z5t n >>= _) h=_;rw[M.bind_ok g];show (match z2S (z2q kvs) with|some ns=>if ns.length<64 then newL ((sortI ns).map .int) else bad|none=>bad) h=_;rw[zK0 e];dsimp only;rw[if_pos (by unfold zN;rw[K03];omega),z3w];exact zi8 (by rw[j8,Y5];omega)
theorem z2M {α β:Type}{f g:α->List β}:∀{l:List α},(∀x∈l,f x=g x)->l.flatMap f=l.flatMap g
 | [],_=>rfl
 | x::l,h=>by rw[K4w,K4w,h x .(f),z2M λy hy=>h y (by simp[hy])]
def z3x (bl:Bl):D->List D
 | .tup [_,.int k]=>stD (blk bl k.toNat)
 | _=>[]
def z72:D->D->Key×D
 | .tup [.int i,_],.int x=>(.inl x,.int i)
 | _,_=>(.inl 0,.non)
section
variable {bl:Bl}
theorem Z0O (pb:PB n bl) (hn:n<=40) (dc:Dic h b bl):z66 [.ref b] h=.ok (.tup (stD (rowB n bl))) h:=by
 obtain⟨ks,hks⟩:∃ks,ks=z0G (bl.map (·.1)):=⟨_,rfl⟩;have bln:=pb.len;have kn:ks.Nodup:=by rw[hks];exact z3K (z1t pb.nd)
 have km:∀k,k∈ks↔k∈bl.map (·.1):=λk=>by rw[hks];exact sortN_mem
 have kl:ks.length=bl.length:=by rw[hks,Y5,K03]
 have keysE:(kvB bl).map (·.1)=(bl.map (·.1)).map λ(x:Nat)=>(.inl (x:Int):Key):=by unfold kvB;rw[K0u,K0u];rfl
 obtain⟨xs,hxs⟩:∃xs,xs=ks.flatMap (blk bl):=⟨_,rfl⟩;have xm:∀x,x∈xs↔x<n:=λx=>by
  rw[hxs,Z2q];constructor
  ·rintro⟨k,hk,hx⟩;exact((pb.in_blk ((km k).mp hk)).mp hx).1
  ·intro hx;exact⟨keyOf bl x,(km _).mpr (pb.keyin hx),(pb.at_ hx).2⟩
 have xn:xs.Nodup:=by
  rw[hxs];refine List.pairwise_flatMap.mpr ⟨λk hk=>z3K (pb.rise _ (pb.of_key ((km k).mp hk))),?_⟩;refine K87 (λ{k k'} hk hk' ne x hx y hy e=>?_) kn;subst e;have a1:=((pb.in_blk ((km k).mp hk)).mp hx).2;have a2:=((pb.in_blk ((km k').mp hk')).mp hy).2;exact ne (a1.symm.trans a2)
 have xl:xs.length<=40:=by
  have:=xn.length_le_of_subset (l₂:=K9 n) λx hx=>K0r.mpr ((xm x).mp hx);simp at this;omega
 have xs':z0G xs=K9 n:=z4g (z1t xn) K4h λx=>by rw[sortN_mem,xm,K0r]
 obtain⟨it,hit⟩:∃it,it=z1l (stD ks):=⟨_,rfl⟩;have itE:it=(K9 ks.length).map λ(i:Nat)=>D.tup [.int (i:Nat),.int ((ks[i]?).getD 0:Nat)]:=by
  rw[hit];unfold z1l;rw[j8];refine K2a λi hi=>?_;have hi:=K0r.mp hi;have:((stD ks)[i]?).getD .non=.int ((ks[i]?).getD 0:Nat):=by
   unfold stD;rw[K0k,K00 hi];rfl
  rw[this]
 have flat:∀(α:Type) (g:Nat->List α),(K9 ks.length).flatMap (λi=>g ((ks[i]?).getD 0))=ks.flatMap g:=λα g=>by
  have e:ks=(K9 ks.length).map λi=>(ks[i]?).getD 0:=by
   refine K35 λi=>?_;rw[K0k];by_cases hi:i<ks.length
   ·rw[K3b hi,K00 hi];simp[K00 hi]
   ·rw[K13 .(0),K13 (by simpa using hi)];rfl
  conv=>rhs;rw[e]
  rw[K8h]
 have yE:∀i:Nat,z3x bl (.tup [.int (i:Nat),.int ((ks[i]?).getD 0:Nat)])=stD (blk bl ((ks[i]?).getD 0)):=λi=>by
  show stD (blk bl (((ks[i]?).getD 0:Nat):Int).toNat)=_;rw[K0f]
 obtain⟨kv,hkv⟩:∃kv,kv=it.flatMap λd=>(z3x bl d).map (z72 d):=⟨_,rfl⟩;have kvK:kv.map (·.1)=xs.map λ(x:Nat)=>(.inl (x:Int):Key):=by
  rw[hkv,itE,K8h,K6m,hxs,K6m,<- flat];refine z2M λi hi=>?_;rw[yE];unfold stD;rw[K0u,K0u];rfl
 have kvN:(kv.map (·.1)).Nodup:=by
  rw[kvK];exact Z1v _ (λa b h e=>h (inl_inj.mp e)) xn
 have len1:(it.flatMap (z3x bl)).length=xs.length:=by
  have e:it.flatMap (z3x bl)=stD xs:=by
   rw[itE,K8h,hxs];unfold stD;rw[K6m,<- flat];exact z2M λi hi=>yE i
  rw[e,j8]
 show cln (runF 2 z3i [.ref b]) h=_;refine z0S (j:=[.lst (stD ks),.dK kv]) (z2z ?_) (z5b _);show W (z3i [.(r b),none]) h _;unfold z3i;have so:Z6 z0L (z7 .(h) aNil) [.(r b),none] h=.ok .(u) (h++[.lst (stD ks)]):=j9 .(d) (by rw[z6i dc.dk keysE (by rw[K03];omega),hks]);have src:z96 (Z6 z0L (z7 .(h) aNil)) [.(r b),none] h=.ok (.obj h.length (.lst (stD ks)) it) (h++[.lst (stD ks)]):=by
  unfold z96;rw[M.bind_ok (ac_h so rfl:z7 (Z6 z0L (z7 .(h) aNil)) aNil [.(r b),none] h=.ok [.ref h.length] _)];have g:getL h.length (h++[O.lst (stD ks)])=.ok (stD ks) (h++[.lst (stD ks)]):=by unfold getL;rw[x6]
  show (getL h.length >>= λxs=>(pure (Src.obj h.length (.lst xs) (z1l xs)):M Src)) _=_;rw[M.bind_ok g,hit];rfl
 refine Y4 (.ref (h++[O.lst (stD ks)]).length) [.(r b),.(r ((h++[O.lst (stD ks)]).length))] (h1:=h++[.lst (stD ks)]++[.dK kv]) ?_ rfl ?_
 ·rw[hkv];refine zs5 (src:=.obj h.length (.lst (stD ks)) it) (z3x bl) z72 src (λj=>by show (_++j)[h.length]?=_;simp) ?_ ?_ λd hd=>?_
  ·have:=kvN;rw[hkv,K6m]at this;have e:(it.flatMap λd=>(z3x bl d).map λy=>(z72 d y).1)=it.flatMap λd=>((z3x bl d).map (z72 d)).map (·.1):=z2M λd _=>by rw[K0u];rfl
   show (it.flatMap λd=>(z3x bl d).map λy=>(z72 d y).1).Nodup;rw[e];exact this
  ·show (it.flatMap (z3x bl)).length<=_;rw[len1];omega
  ·have hd:d∈it:=hd;rw[itE]at hd;obtain⟨i,hi,rfl⟩:=K07.mp hd;have hi:=K0r.mp hi;have hk:(ks[i]?).getD 0∈bl.map (·.1):=by
    rw[K00 hi];exact(km _).mp (K3l hi)
   refine⟨[.(r b),.(i (i:Nat)),.(i (((ks[i]?).getD 0:Nat))),none],λh=>rfl,λj=>z1T (e2_h .(d) .(d) ?_),λy hy=>?_⟩
   ·rw[yE];exact((dc.app _).app j).get hk
   ·rw[yE]at hy;obtain⟨x,hx,rfl⟩:=K07.mp hy;exact⟨[.(r b),.(i (i:Nat)),.(i (((ks[i]?).getD 0:Nat))),.(i (x:Nat))],.int (x:Nat),λh=>rfl,λh=>rfl,rfl,λj=>rfl,λj=>rfl⟩
 obtain⟨H,hH⟩:∃H,H=h++[O.lst (stD ks)]:=⟨_,rfl⟩;rw[<- hH];have gk:∀j:AH,z5t H.length (H++[O.dK kv]++j)=.ok kv (H++[O.dK kv]++j):=λj=>by unfold z5t;rw[J7 x6]
 have gk2:∀j:AH,getK H.length (H++[O.dK kv]++j)=.ok kv (H++[O.dK kv]++j):=λj=>by unfold getK;rw[J7 x6]
 refine j3 (.tup (stD (rowB n bl))) (h1:=H++[.dK kv]) ?_ ⟨rfl,by rw[hH];simp⟩;refine z0S (j:=[.lst (stD (K9 n)),.lst (stD (rowB n bl))]) ?_ (z5b _);have so2:Z6 z0L (z7 .(l) aNil) [.(r b),.(r H.length)] (H++[O.dK kv])=.ok (.ref (H++[O.dK kv]).length) (H++[O.dK kv]++[.lst (stD (K9 n))]):=j9 .(d) (by
  have:=gk [];rw[K0w]at this;rw[z6i this kvK .(0),xs'])
 refine(j9 (d:=.ref (H++[O.dK kv]++[O.lst (stD (K9 n))]).length) (h1:=H++[O.dK kv]++[.lst (stD (K9 n))]++[.lst (stD (rowB n bl))]) ?_ (zh0 x6)).trans .(f);have cs:=zl4 (cap:=[some 1,none]) (mi:=v8 (Z6 z0L (z7 .(l) aNil))) (g:=gN 1) (kb:=λ_=>pure true) (me:=e2 z4x .(h) .(l)) (γ:=[.(r b),.(r H.length)]) (l:=K9 n) (λx=>.int ((z0G (bl.map (·.1))).idxOf (keyOf bl x):Nat)) (z86 so2 x6) rfl (λj=>by show (_++j)[_]?=_;exact J7 x6) (by simp;omega) λx hx=>⟨[.(r H.length),.(i (x:Nat))],λh=>rfl,λj=>rfl,λj=>by
  have hx:=K0r.mp hx;refine e2_h .(d) .(d) ?_;show (getK H.length >>= _) _=_;rw[K06,M.bind_ok (gk2 _)];show (match lkD kv (.inl (x:Int)) with|some d=>pure d|none=>bad) _=_;have kin:=(km _).mpr (pb.keyin hx);have il:=K1e.mpr kin;have gi:(ks[ks.idxOf (keyOf bl x)]?).getD 0=keyOf bl x:=by rw[zb8 kin];rfl
  rw[zY4 kvN (v:=.int (ks.idxOf (keyOf bl x):Nat)) ?_,hks]
  ·rfl
  ·rw[hkv,itE,Z2q];refine⟨_,K07.mpr ⟨ks.idxOf (keyOf bl x),K0r.mpr il,rfl⟩,?_⟩;rw[yE,gi];exact K07.mpr ⟨.int (x:Nat),K07.mpr ⟨x,(pb.at_ hx).2,rfl⟩,rfl⟩⟩
 refine cs.trans ?_;congr 3;unfold rowB stD;rw[K0u];rfl
end
open Classical in
noncomputable def z2p (st:List (List Nat)) (mk:List (List Str)) (bl:Bl) (d:D):Option Bl:=if h:∃(k:Nat) (y:D),d=.tup .(w)/\cutC bl d=true/\Cut bl k (bel st mk bl y) then some (cutB bl h.choose (bel st mk bl h.choose_spec.choose)) else none
noncomputable def endB (st:List (List Nat)) (mk:List (List Str)) (bl:Bl) (cs:List D):Option Bl:=cs.foldl (λo d=>o.bind λbl=>z2p st mk bl d) (some bl)
noncomputable def rcB (st:List (List Nat)) (mk:List (List Str)):D->Bool
 | .tup [.tup row,.tup cs]=>stB st mk (.tup row)&&match endB st mk [(0,K9 st.length)] cs with
  | some bl=>decide (row.map numD=rowB st.length bl)
  | none=>false
 | _=>false
section
variable {bl:Bl}
theorem z5r {k:Nat}(c:cutC bl (.tup .(w))=true) (ct:Cut bl k (bel st mk bl y)):z2p st mk bl (.tup .(w))=some (cutB bl k (bel st mk bl y)):=by
 have h:∃(k':Nat) (y':D),D.tup .(w)=.tup [.int (k':Nat),y']/\cutC bl (.tup .(w))=true/\Cut bl k' (bel st mk bl y'):=⟨k,y,rfl,c,ct⟩;unfold z2p;rw[dif_pos h];obtain⟨e,_,_⟩:=h.choose_spec.choose_spec;injection e with e
 injection e with e1 e2
 injection e1 with e1
 injection e2 with e2 _
 have e1:h.choose=k:=by omega
 rw[<- e2,e1]
theorem z3A (h:∀(k:Nat) (y:D),d=.tup .(w)->cutC bl d=true->¬ Cut bl k (bel st mk bl y)):z2p st mk bl d=none:=by
 unfold z2p;rw[dif_neg];rintro⟨k,y,e,c,ct⟩;exact h k y e c ct
theorem z5L {cs:List D}{bl1:Bl}(h:endB st mk bl cs=some bl1):endB st mk bl (cs++[d])=z2p st mk bl1 d:=by
 unfold endB at h ⊢;rw[K4v,h];rfl
theorem z5G (cs:List D):cs.foldl (λo d=>o.bind λbl=>z2p st mk bl d) none=none:=by
 induction cs with
 | nil=>rfl
 | cons d cs ih=>exact ih
theorem z5K {cs:List D}{bl1:Bl}(h:endB st mk bl (cs.take c)=some bl1) (hd:cs[c]?=some d) (hn:z2p st mk bl1 d=none):endB st mk bl cs=none:=by
 have e:cs=cs.take c++d::cs.drop (c+1):=by
  obtain⟨lt,rfl⟩:=K3.mp hd;rw[<- K56 lt,K4s]
 rw[e];unfold endB at h ⊢;rw[K4v,h,K4m];show K5n _ (z2p st mk bl1 d) _=none;rw[hn];exact z5G _
theorem zA7 (c:cutC bl d=true):∃(k:Nat) (y:D),d=.tup .(w)/\k∈bl.map (·.1)/\ByOk bl y:=by
 unfold cutC at c;split at c
 ·rename_i l y;rw[K0c,K0c]at c;obtain⟨_,c1,c2⟩:=c;obtain⟨k,rfl,hk⟩:=z7K c1;refine⟨k,y,rfl,hk,?_⟩;unfold byB at c2;rw[K2f,K0c]at c2;rcases c2 with c|⟨_,c⟩
  ·obtain⟨x,rfl⟩:=zj0 (d:=y) (by cases y<;>first|rfl|cases c);exact .inl ⟨x,rfl⟩
  ·exact .inr (z7K c)
 ·cases c
theorem zV7 {j:AH}(hb:h.length<=b):(h++j).set b o=h++j.set (b - h.length) o:=by rw[K4t _ _ hb]
theorem z7R (r:List Nat):(stD r).map numD=r:=by
 unfold stD;rw[K0u]
 conv=>rhs;rw[<- List.map_id r]
 exact K2a λx _=>by show ((x:Nat):Int).toNat=x;exact K0f x
theorem zY7 (h:lenB 2 2 d=false):rcB st mk d=false:=by
 unfold rcB;split
 ·exact absurd h (by simp[lenB])
 ·rfl
theorem z8N (ma:MA st mk) (t:TB 3 h d) (hs:∀row xs l x,d=.tup [row,.tup xs]->D.tup [l,.str x]∈xs->x.length<=1000):z0J [maD st mk,d] h=.ok (.bl (rcB st mk d)) h:=by
 have l1:=ma.l1;have l2:=ma.l2;have pb0:PB .(7) [(0,K9 .(7))]:=z2R .(0);have key:W (runF 6 z0j [maD st mk,d]) h λv h'=>v=.bl (rcB st mk d)/\∃j,h'=h++j:=by
  refine z2n ?_;show W (z0j [some .(9),some d,none,none,none,none]) h _;unfold z0j;refine z0b (!lenB 2 2 d) (cn_h (cv_h (fn_h (ds:=[d,.int 2,.int 2]) (ac_h .(d) (ac_h (d:=.int 2) rfl (ac_h (d:=.int 2) rfl rfl))) rfl (z7P t.1)))) ?_;cases hl:lenB 2 2 d with
  | false =>
   rw[if_pos (by rfl)];exact z06 (j3 (.bl false) rfl ⟨by rw[zY7 hl],[],by simp⟩)
  | true =>
   rw[if_neg .(1)];obtain⟨R,C,rfl⟩:∃l y,d=.tup [l,y]:=by
    cases d with
    | tup xs =>
     have hl:(decide ((2:Int)<=xs.length)&&decide ((xs.length:Int)<=2))=true:=hl;rw[K0c,decide_eq_true_eq,decide_eq_true_eq]at hl;have n2:xs.length=2:=by omega
     match xs,n2 with
     | [l,y],_=>exact⟨l,y,rfl⟩
    | _=>cases hl
   have tR:=t.2 _ rfl R .(f);have tC:=t.2 _ rfl C .(f);have tR1:TB 1 h R:=⟨tR.1,λxs e x hx=>(tR.2 xs e x hx).1⟩;refine z07 (Y4 (.tup [R,C]) [some .(9),.(g [R,C]),some R,some C,none,none] .(d) rfl ?_);refine z0b (!stB st mk R||!tupB C) (z6n (cn_h (cv_h (fn_h (ds:=[maD st mk,R]) (ac_h .(d) (ac_h .(d) rfl)) rfl (zp6 tR1 (z6J ma) ma.s1 ma.l3)))) (cn_h (cv_h (fn_h (ds:=[C]) (ac_h .(d) rfl) rfl (zh1 tC.1))))) ?_;by_cases ok:stB st mk R=true/\tupB C=true
   ·rw[ok.1,ok.2,if_neg .(1)];obtain⟨row,eR,_⟩:=z7s ok.1;obtain⟨cs,eC⟩:=z8E ok.2;have ok1:=ok.1;rw[eR]at ok1;have rv:rcB st mk (.tup [R,C])=match endB st mk [(0,K9 .(7))] cs with|some bl=>decide (row=rowB .(7) bl)|none=>false:=by
     rw[eR,eC];show (stB st mk (.tup (stD row))&&match endB st mk [(0,K9 .(7))] cs with|some bl=>decide ((stD row).map numD=rowB .(7) bl)|none=>false)=_;rw[ok1,K21,z7R]
    refine z07 (Y4 .(u) [some .(9),.(g [R,C]),some R,some C,.(r h.length),none] (fn_h (ds:=[maD st mk]) (ac_h .(d) rfl) rfl (zB0 l2)) rfl ?_);refine z2o (λγ h'=>∃a j b bl,γ=[some .(9),.(g [R,C]),some R,some C,.(r b),a]/\h'=h++j/\Dic h' b bl/\PB .(7) bl/\endB st mk [(0,K9 .(7))] cs=some bl) ?_ ?_
    ·refine z1v (λc γ h'=>∃a j b bl1,γ=[some .(9),.(g [R,C]),some R,some C,.(r b),a]/\h'=h++j/\h.length<=b/\Dic h' b bl1/\PB .(7) bl1/\endB st mk [(0,K9 .(7))] (cs.take c)=some bl1) (λv h'=>v=.bl false/\(∃j,h'=h++j)/\endB st mk [(0,K9 .(7))] cs=none) ?_;refine W_of (v:=.con cs) (z1T (by rw[eC];exact Z2 rfl)) ?_;refine⟨⟨none,_,h.length,_,rfl,rfl,K01 _,.inl x6,pb0,rfl⟩,λ_ _ _ _=>trivial,?_,?_,?_⟩
     ·rintro c d γ _ hd ⟨a,j,b,bl1,rfl,rfl,hb,dc,pb,en⟩;have hd:cs[c]?=some d:=hd;have dm:=K0j hd;have td:TB 1 (h++j) d:=(tC.2 cs eC d dm).app j;have sd:∀l x,d=.tup [l,.str x]->x.length<=1000:=λl x e=>hs R cs l x (by rw[eC]) (by rw[<- e];exact dm);obtain⟨γ,hγ⟩:∃γ:G,γ=[some .(9),.(g [R,C]),some R,some C,.(r b),some d]:=⟨_,rfl⟩;refine W_eq (v:=γ) (by rw[hγ];rfl) ?_;have g0:γ[0]?=some (some .(9)):=by rw[hγ];rfl
      have g4:γ[4]?=some (.(r b)):=by rw[hγ];rfl
      have g5:γ[5]?=some (some d):=by rw[hγ];rfl
      have ic:cNot (cVal (eFn 2 z4n (z7 (eVar 4) (z7 (eVar 5) aNil)))) γ (h++j)=.ok (!cutC bl1 d) (h++j):=cn_h (cv_h (fn_h (ds:=[.ref b,d]) (ac_h (Z2 g4) (ac_h (Z2 g5) rfl)) rfl (zm3 dc td sd)));cases hc:cutC bl1 d with
      | false =>
       rw[hc]at ic;refine z0b true (z57 ic) ?_;rw[if_pos rfl];exact z06 (j3 (.bl false) rfl ⟨rfl,⟨j,rfl⟩,z5K en hd (z3A λk y _ z=>by rw[hc]at z;cases z)⟩)
      | true =>
       rw[hc]at ic;obtain⟨k,y,rfl,hk,by_⟩:=zA7 hc;obtain⟨blt,bll⟩:=zu6 pb hk;have pd:=z8C (d:=y) (l:=blk bl1 k) (z6J ma) ma.l3 dc blt .(0) (zK2 ma) by_;have lp:(stsD (prt (blk bl1 k) (bel st mk bl1 y))).length=(prt (blk bl1 k) (bel st mk bl1 y)).length:=z1A _;refine zB2 (decide ((prt (blk bl1 k) (bel st mk bl1 y)).length<2)) (h1:=h++j++[.lst (stsD (prt (blk bl1 k) (bel st mk bl1 y)))]) (z9s ic (cb_h (e2_h (j9 (fn_h (ds:=[maD st mk,.ref b,.tup (stD (blk bl1 k)),y]) (ac_h (Z2 g0) (ac_h (Z2 g4) (ac_h (e2_h (Z2 g4) (e2_h (Z2 g5) (y:=.int 0) rfl rfl) (dc.get hk)) (ac_h (e2_h (Z2 g5) (y:=.int 1) rfl rfl) rfl)))) rfl pd) (z4H x6)) (y:=.int 2) rfl (by
        rw[z7l,lp];show Res.ok (D.bl (decide (((prt (blk bl1 k) (bel st mk bl1 y)).length:Int)<2))) _=_;rw[show decide (((prt (blk bl1 k) (bel st mk bl1 y)).length:Int)<2)=decide ((prt (blk bl1 k) (bel st mk bl1 y)).length<2) from decide_eq_decide.mpr .(0)])))) ?_
       have le2:(prt (blk bl1 k) (bel st mk bl1 y)).length<=2:=K1o _ _;by_cases p2:(prt (blk bl1 k) (bel st mk bl1 y)).length=2
       ·rw[.(m) .(0),if_neg .(1)];obtain⟨hy,hn⟩:=prt_len.mp p2;have ct:Cut bl1 k (bel st mk bl1 y):=⟨hk,hy,hn⟩;refine z07 ?_;have dc1:=dc.app [.lst (stsD (prt (blk bl1 k) (bel st mk bl1 y)))];obtain⟨j1,hj1⟩:∃j1,j1=j++[O.lst (stsD (prt (blk bl1 k) (bel st mk bl1 y)))]:=⟨_,rfl⟩;rw[K06,<- hj1]at dc1 ⊢;have eu:=Z1b ma pb dc1 by_ ct;refine Y4 (.ref (h++j1).length) (γ.set 4 (.(r ((h++j1).length)))) (fn_h (ds:=[maD st mk,.ref b,.tup .(w)]) (ac_h (Z2 g0) (ac_h (Z2 g4) (ac_h (Z2 g5) rfl))) rfl eu) rfl ?_;refine z0f ⟨_,j1.set (b - h.length) (.dF (kvB bl1))++[.dK (kvB (cutB bl1 k (bel st mk bl1 y)))],(h++j1).length,_,by rw[hγ];rfl,by rw[zV7 hb,K06],by rw[K04];omega,.inl ?_,z6W pb ct,?_⟩
        ·rw[show (h++j1).length=((h++j1).set b (O.dF (kvB bl1))).length by rw[K5h]];exact x6
        ·rw[K6a,hd];show endB st mk _ (cs.take c++[D.tup .(w)])=_;rw[z5L en,z5r hc ct]
       ·rw[.(g) .(0),if_pos rfl];refine z06 (j3 (.bl false) rfl ⟨rfl,⟨_,by rw[K06]⟩,z5K en hd (z3A λk' y' e _ ct=>p2 ?_)⟩);injection e with e
        injection e with e1 e2
        injection e1 with e1
        injection e2 with e2 _
        subst e2;obtain rfl:k=k':=by omega
        exact prt_len.mpr ⟨ct.hy,ct.hn⟩
     ·rintro γ h' ⟨a,j,b,bl1,rfl,rfl,_,dc,pb,en⟩;rw[show (Src.con cs).items.length=cs.length from rfl,K1w]at en;exact⟨a,j,b,bl1,rfl,rfl,dc,pb,en⟩
     ·rintro v h' ⟨rfl,hj,en⟩;exact⟨by rw[rv,en],hj⟩
    rintro _ _ ⟨a,j,b,bl,rfl,rfl,dc,pb,en⟩;refine j3 (.bl (decide (row=rowB .(7) bl))) (e2_h .(d) (fn_h (ds:=[.ref b]) (ac_h .(d) rfl) rfl (Z0O pb l2 dc)) ?_) ⟨by rw[rv,en],j,rfl⟩;rw[eR,zx2,K1j];rfl
   ·have e1:(!stB st mk R||!tupB C)=true:=by
     cases a:stB st mk R with
     | false=>rfl
     | true=>cases b:tupB C with
      | false=>rfl
      | true=>exact absurd ⟨a,b⟩ ok
    rw[e1,if_pos rfl];refine z06 (j3 (.bl false) rfl ⟨?_,[],by simp⟩);congr 1;symm;unfold rcB;split
    ·rename_i row cs e;injection e with e
     injection e with e1 e2
     injection e2 with e2 _
     subst e1 e2;cases a:stB st mk (.tup row) with
     | false=>rfl
     | true=>exact absurd ⟨a,rfl⟩ ok
    ·rfl
 obtain⟨v,h',e,rfl,j,rfl⟩:=key;exact z0S e rfl
end
def hmB (n:Nat) (bl:Bl):List Nat:=(K9 n).map (keyOf bl)
theorem z0E {bl:Bl}:(hmB n bl).length=n:=by unfold hmB;simp
theorem z7f {bl:Bl}(h:x<n):(hmB n bl)[x]?=some (keyOf bl x):=by unfold hmB;rw[K0k,K3b h];rfl
theorem zP8 {mt:G->M Out}{b:Bool}{v:D}{Q:Out->AH->Prop}(et:t γ h=.ok b h) (ea:γ[a]?=some (.(r i))) (e:h[i]?=.(l xs)) (hl:xs.length<1000000) (ev:me γ h=.ok v h)
 (z:W (mt γ) (h.set i (.lst (if b=true then xs++[v] else xs))) Q):W (Z0 (sIf t (Z0 (z15 (eM1 J2 (eVar a) me)) bNil) bNil) mt γ) h Q:=by
 refine z0b b et ?_;cases b with
 | true =>
  rw[if_pos rfl]at z ⊢;exact z06 (z98 ea e hl ev (z07 z))
 | false =>
  rw[if_neg .(1)]at z ⊢;refine z07 ?_;have:h.set i (.lst xs)=h:=by
   refine K35 λn=>?_;by_cases q:i=n
   ·subst q;rw[K1g (K3.mp e).1,e]
   ·rw[K1l q]
  rw[this]at z;exact z
theorem z5N {mt:G->M Out}{b:Bool}{Q:Out->AH->Prop}(et:t γ h=.ok b h) (ea:γ[a]?=some (.(r i))) (e:h[i]?=.(l (stD l))) (hl:l.length<1000000) (ev:me γ h=.ok (.int (x:Nat)) h)
 (z:W (mt γ) (h.set i (.lst (stD (if b=true then l++[x] else l)))) Q):W (Z0 (sIf t (Z0 (z15 (eM1 J2 (eVar a) me)) bNil) bNil) mt γ) h Q:=by
 refine zP8 et ea e (by rw[j8];exact hl) ev ?_;have:(if b=true then stD l++[D.int (x:Nat)] else stD l)=stD (if b=true then l++[x] else l):=by cases b<;>simp[stD]
 rw[this];exact z
theorem zk3 {mt:G->M Out}{t:Nat}{v:D}{Q:Out->AH->Prop}(ev:ma γ h=.ok v h) (ea:γ[a]?=some (.(r i))) (eb:γ[b]?=some (.(i (t:Nat)))) (e:h[i]?=.(l xs)) (ht:t<xs.length)
 (z:W (mt γ) (h.set i (.lst (xs.set t v))) Q):W (Z0 (sAsg ma (gIx (eVar a) (eVar b))) mt γ) h Q:=by
 have e1:gIx (eVar a) (eVar b) v γ h=.ok γ (h.set i (.lst (xs.set t v))):=by
  unfold gIx;rw[M.bind_ok (Z2 ea),M.bind_ok (Z2 eb)];have:fSet (.ref i) (.int (t:Nat)) v h=.ok () (h.set i (.lst (xs.set t v))):=by
   unfold fSet;dsimp only;rw[e];dsimp only;rw[show ixN xs.length (t:Int)=some t by unfold ixN;rw[if_pos .(0),if_pos .(0)];rfl]
  rw[M.bind_ok this];rfl
 obtain⟨o,h',e2,q⟩:=z;refine⟨o,h',?_,q⟩;unfold Z0 sAsg;rw[M.bind_ok (show (do let d <- ma γ;let γ1 <- gIx (eVar a) (eVar b) d γ;pure (.nx γ1):M Out) h=.ok (.nx γ) _ by rw[M.bind_ok ev,M.bind_ok e1];rfl)];exact e2
def setA (l xs:List Nat) (v:Nat):List Nat:=xs.foldl (λa x=>a.set x v) l
theorem z2P {xs:List Nat}:∀{l:List Nat},(setA l xs v).length=l.length:=by
 induction xs with
 | nil=>intro l;rfl
 | cons x xs ih=>intro l;exact(ih (l:=l.set x v)).trans .(f)
theorem zg1 {xs:List Nat}{y:Nat}:∀{l:List Nat},y<l.length->(setA l xs v)[y]?=if y∈xs then some v else l[y]?:=by
 induction xs with
 | nil=>intro l h;rw[if_neg .(f)];rfl
 | cons x xs ih =>
  intro l h;have:=ih (l:=l.set x v) (by simpa using h);rw[show setA l (x::xs) v=setA (l.set x v) xs v from rfl,this];by_cases q:y∈xs
  ·rw[if_pos q,if_pos (by simp[q])]
  ·rw[if_neg q];by_cases e:x=y
   ·subst e;rw[K1g h,if_pos .(f)]
   ·rw[K1l e,if_neg (by simp only[K12,not_or];exact⟨λz=>e z.symm,q⟩)]
theorem zy8 (l:List Nat) (t v:Nat):(stD l).set t (.int (v:Nat))=stD (l.set t v):=by unfold stD;rw[List.map_set]
theorem z77 {xs:List Nat}(h:xs[c]?=some x):(setA l (xs.take c) v).set x v=setA l (xs.take (c+1)) v:=by
 unfold setA;rw[K9i,h];simp
theorem z3Y (f:Nat->Bool) (c:Nat):(K9 (c+1)).filter f=if f c=true then (K9 c).filter f++[c] else (K9 c).filter f:=by
 rw[K95,List.filter_append];cases e:f c<;>simp[e]
section
variable {bl:Bl}
theorem z7i (k:Nat) (pb:PB n bl):((K9 n).filter λx=>decide (keyOf bl x=k))=blk bl k:=by
 by_cases hk:k∈bl.map (·.1)
 ·refine z4g (K2z _ K4h) (pb.rise _ (pb.of_key hk)) λx=>?_;rw[pb.in_blk hk,K0p,K0r];simp
 ·have e:blk bl k=[]:=by
   unfold blk;rw[K4j.mpr λp hp=>?_]
   ·rfl
   ·rw[decide_eq_true_eq];rintro rfl;exact hk (K07.mpr ⟨p,hp,rfl⟩)
  rw[e,K8y];intro x hx;rw[decide_eq_true_eq];rintro rfl;exact hk (K07.mpr ⟨_,(pb.at_ (K0r.mp hx)).1,rfl⟩)
theorem zR4 {k:Nat}(pb:PB n bl) (ct:Cut bl k f):setA (setA (hmB n bl) (yesL bl k f) ((yesL bl k f).headD 0)) (noL bl k f) ((noL bl k f).headD 0)=hmB n (cutB bl k f):=by
 have pb':=z6W pb ct;refine K35 λx=>?_;by_cases hx:x<n
 ·rw[zg1 (by rw[z2P,z0E];exact hx),zg1 (by rw[z0E];exact hx),z7f hx,z7f hx];by_cases q:x∈noL bl k f
  ·rw[if_pos q,pb'.key ((z0K pb ct).mpr (.inr (.inr rfl))) q]
  ·rw[if_neg q];by_cases r:x∈yesL bl k f
   ·rw[if_pos r,pb'.key ((z0K pb ct).mpr (.inr (.inl rfl))) r]
   ·rw[if_neg r];obtain⟨hp,hm⟩:=pb.at_ hx;have ne:keyOf bl x≠k:=λe=>by
     rw[e]at hm;cases e2:f x with
     | true=>exact r (K0p.mpr ⟨hm,e2⟩)
     | false=>exact q (K0p.mpr ⟨hm,by simp[e2]⟩)
    rw[pb'.key ((z0K pb ct).mpr (.inl ⟨hp,ne⟩)) hm]
 ·rw[K13 (by rw[z2P,z2P,z0E];omega),K13 (by rw[z0E];omega)]
theorem zb9 (g:s≠""):bel st mk bl (.str s) x=decide (s∈mkAt mk x):=by
 show bear s mk x=_;unfold bear;rw[.(m) g,K49];rfl
theorem zJ5 {k:Nat}(pb:PB n bl) (hk:k∈bl.map (·.1)) (hn:∀o∈nx st x,o<n):bel st mk bl (.int (k:Nat)) x=decide (k∈(nx st x).map (keyOf bl)):=by
 show ((nx st x).any λo=>decide (o∈blk bl ((k:Nat):Int).toNat))=_;rw[K19,K28,decide_eq_true_eq,K07];constructor
 ·rintro⟨o,ho,e⟩;exact⟨o,ho,((pb.in_blk hk).mp (of_decide_eq_true e)).2⟩
 ·rintro⟨o,ho,e⟩;exact⟨o,ho,.(g) ((pb.in_blk hk).mpr ⟨hn o ho,e⟩)⟩
theorem zT0 (e:h[i]?=.(l xs)) (hl:xs.length<=1000000):z5M [.ref i] h=.ok .(u) (h++[.lst xs]):=by
 have s:seqD (.ref i) h=.ok xs h:=by unfold seqD getL;dsimp only;rw[e]
 unfold z5M;show (seqD (.ref i) >>= _) h=_;rw[M.bind_ok s];exact zi8 hl
theorem zu8 (ea:γ[a]?=some (.(r i))) (e:h[i]?=.(l (stD l))):(λγ=>do let d <- FT.e2 (fEq false) (Z6 fLen (z7 (eVar a) aNil)) .(3) γ;asB d:G->M Bool) γ h=.ok (decide (l=[])) h:=by
 refine cb_h (e2_h (j9 (Z2 ea) (z4H e)) (y:=.int 0) rfl ?_);rw[z7G,j8];cases l with
 | nil=>rfl
 | cons x l =>
  rw[.(m) (show ¬ ((((x::l).length:Nat):Int)=0) by rw[K02];omega),.(m) .(f)];rfl
theorem zw7 (ea:γ[a]?=some (.(r i))) (e:h[i]?=.(l (stD l))) (hn:l≠[]):FT.e2 fIx (eVar a) .(3) γ h=.ok (.int (l.headD 0:Nat)) h:=by
 refine e2_h (Z2 ea) (y:=.int 0) rfl (ix_h e ?_);cases l with
 | nil=>exact absurd rfl hn
 | cons x l=>exact z1x (j:=0) rfl
def ByG (bl:Bl) (y:D):Prop:=(∃s:Str,s≠""/\y=.str s)\/∃k':Nat,y=.int (k':Nat)/\k'∈bl.map (·.1)
theorem zJ8 {k:Nat}(h:¬ Cut bl k f):yesL bl k f=[]\/noL bl k f=[]:=by
 by_cases hk:k∈bl.map (·.1)
 ·by_cases hy:yesL bl k f=[]
  ·exact .inl hy
  ·by_cases hn:noL bl k f=[]
   ·exact .inr hn
   ·exact absurd ⟨hk,hy,hn⟩ h
 ·refine .inl ?_;unfold yesL blk;rw[K4j.mpr λp hp=>by rw[decide_eq_true_eq];rintro rfl;exact hk (K07.mpr ⟨p,hp,rfl⟩)];rfl
theorem z6D {k:Nat}(ma:MA st mk) (pb:PB st.length bl) (bn:ByG bl y) (e:h[i]?=.(l ((stD (hmB st.length bl))))):
 W (runF 10 z0I [maD st mk,.ref i,.int (k:Nat),y]) h λd h'=>(Cut bl k (bel st mk bl y)->∃j p,d=.ref p/\h'=h++j/\h.length<=p/\h'[p]?=.(l ((stD (hmB .(7) (cutB bl k (bel st mk bl y)))))))/\(¬ Cut bl k (bel st mk bl y)->d=.non/\∃j,h'=h++j):=by
 have l2:=ma.l2;have l3:=ma.l3;obtain⟨f,hf⟩:∃f,f=bel st mk bl y:=⟨_,rfl⟩;rw[<- hf];obtain⟨Hm,hHm⟩:∃Hm,Hm=hmB .(7) bl:=⟨_,rfl⟩;rw[<- hHm]at e;have Hl:Hm.length=st.length:=by rw[hHm,z0E]
 have Ha:∀{x:Nat},x<.(7)->atI (stD Hm) (x:Int)=.(i (keyOf bl x:Nat)):=λ{x} hx=>by
  rw[z7n .(0),hHm,z7f hx];rfl
 have blt:∀x∈blk bl k,x<st.length:=λx hx=>by
  rw[<- z7i k pb]at hx;exact K0r.mp (K0p.mp hx).1
 have bll:(blk bl k).length<=st.length:=by
  rw[<- z7i k pb];exact K0d (K1o _ _) .(f)
 refine z2n ?_;show W (z0I [some .(9),.(r i),.(i (k:Nat)),some y,none,none,none,none,none,none]) h _;unfold z0I z2d;refine zL6 (xs:=[]) .(f) (λh=>rfl) ?_;refine z2o (λγ h'=>∃a,γ=[some .(9),.(r i),.(i (k:Nat)),some y,.(r h.length),a,none,none,none,none]/\h'=h++[.lst (stD ((K9 .(7)).filter f))]) ?_ ?_
 ·refine z0i (λc γ h'=>∃a,γ=[some .(9),.(r i),.(i (k:Nat)),some y,.(r h.length),a,none,none,none,none]/\h'=h++[.lst (stD ((K9 c).filter f))]) (λ_ _=>False) ?_;refine W_of (v:=.int (st.length:Nat)) (j9 .(d) (by rw[z4H (J7 e),j8,Hl])) ?_;refine⟨.(7),rfl,by omega,⟨none,rfl,rfl⟩,?_,λ_ _ q=>q,λ_ _ q=>q.elim⟩;rintro c _ _ hc ⟨a,rfl,rfl⟩;obtain⟨γ,hγ⟩:∃γ:G,γ=[some .(9),.(r i),.(i (k:Nat)),some y,.(r h.length),.(i (c:Nat)),none,none,none,none]:=⟨_,rfl⟩;show W (Z0 _ _ [some .(9),.(r i),.(i (k:Nat)),some y,.(r h.length),.(i (c:Nat)),none,none,none,none]) _ _;rw[<- hγ];have g0:γ[0]?=some (some .(9)):=by rw[hγ];rfl
  have g3:γ[3]?=some (some y):=by rw[hγ];rfl
  have g4:γ[4]?=some (.(r h.length)):=by rw[hγ];rfl
  have g5:γ[5]?=some (.(i (c:Nat))):=by rw[hγ];rfl
  have cl:((K9 c).filter f).length<=c:=by
   have:=K1o f (K9 c);simpa using this
  rcases bn with ⟨s,gs,rfl⟩|⟨k',rfl,hk'⟩
  ·have fc:f c=decide (s∈mkAt mk c):=by rw[hf];exact zb9 gs
   refine z5N (b:=f c) (x:=c) (zi4 (cv_h (z5o (Z2 g3) rfl)) (cb_h (e2_h (Z2 g3) (e2_h (e2_h (Z2 g0) (y:=.int 1) rfl (by rw[z5f];rfl)) (Z2 g5) (by rw[ix_tup (z9T (show c<mk.length by omega))];rfl)) (by rw[z5P,fc,K1j];rfl)))) g4 x6 .(0) (Z2 g5) ?_;rw[z2U];refine z5N (b:=false) (x:=c) (zc3 (cn_h (b:=true) (cv_h (z5o (Z2 g3) rfl)))) g4 x6 (by split<;>(try rw[K04,K1c])<;>omega) (Z2 g5) ?_;refine z0f ⟨_,hγ,?_⟩;rw[z2U,z3Y];rfl
  ·have fc:f c=decide (k'∈(nx st c).map (keyOf bl)):=by rw[hf];exact zJ5 pb hk' λo ho=>z7E (z6J ma) ho
   have nl:=zK2 ma c;refine z5N (b:=false) (x:=c) (zc3 (cv_h (z5o (Z2 g3) rfl))) g4 x6 .(0) (Z2 g5) ?_;rw[z2U];refine z5N (b:=f c) (x:=c) (zi4 (cn_h (b:=false) (cv_h (z5o (Z2 g3) rfl))) (zv1 (j:=[.lst (stD ((nx st c).map (keyOf bl)))]) (cb_h (e2_h (y:=.ref (h++[O.lst (stD ((K9 c).filter f))]).length) (h2:=h++[O.lst (stD ((K9 c).filter f))]++[.lst (stD ((nx st c).map (keyOf bl)))]) (Z2 g3) ?c1 ?c2)))) g4 x6 (by simpa using(by omega:((K9 c).filter f).length<1000000)) (Z2 g5) ?c3
   case c1 =>
    refine(z0R (src:=.con (stD (nx st c))) (l:=nx st c) (λ_=>true) (λt=>.int (keyOf bl t:Nat)) (z1T (e2_h (e2_h (Z2 g0) (y:=.int 0) rfl (by rw[z2j];rfl)) (Z2 g5) (by rw[z6v (show c<.(7) from hc)];rfl))) rfl (λ_=>trivial) .(0) λt ht=>⟨[.(r i),.(i (t:Nat))],λh=>by rw[hγ];rfl,λj=>rfl,λ_ j=>e2_h .(d) .(d) (ix_h (J7 (J7 e)) (Ha (z7E (z6J ma) ht)))⟩).trans ?_;rw[filter_tt];show Res.ok _ (_++[O.lst (((nx st c).map λt=>D.int (keyOf bl t:Nat)))])=_;rw[show ((nx st c).map λt=>D.int (keyOf bl t:Nat))=stD ((nx st c).map (keyOf bl)) by unfold stD;rw[K0u];rfl];rfl
   case c2 =>
    rw[z7W x6,fc,K1j];rfl
   case c3 =>
    refine z0f ⟨_,hγ,?_⟩;rw[z2U,z3Y];rfl
 rintro _ _ ⟨a,rfl,rfl⟩;obtain⟨Ch,hCh⟩:∃Ch,Ch=(K9 .(7)).filter f:=⟨_,rfl⟩;rw[<- hCh];obtain⟨H0,hH0⟩:∃H0,H0=h++[O.lst (stD Ch)]:=⟨_,rfl⟩;have eC:∀j,(H0++j)[h.length]?=.(l (stD Ch)):=λj=>by rw[hH0];exact J7 x6
 have e0:∀j,(H0++j)[i]?=.(l (stD Hm)):=λj=>by rw[hH0];exact J7 (J7 e)
 rw[<- hH0];obtain⟨B,hB⟩:∃B,B=blk bl k:=⟨_,rfl⟩;have Bl':B.length<=40:=by rw[hB];omega
 have c1:x5 [some 1,some 2,none] (z0y (Z6 fLen (z7 .(l) aNil))) (gN 2) (λγ=>do let d <- FT.e2 (fEqX false) (FT.e2 fIx .(h) (eVar 2)) .(l) γ;asB d) (eVar 2) [some .(9),.(r i),.(i (k:Nat)),some y,.(r h.length),a,none,none,none,none] H0=.ok (.ref H0.length) (H0++[.lst (stD B)]):=by
  refine(z0R (src:=.con (z14 st.length)) (l:=K9 st.length) (λx=>decide (keyOf bl x=k)) (λx=>.int (x:Nat)) (z3h (j9 .(d) (by have:=e0 [];rw[K0w]at this;rw[z4H this,j8,Hl])) .(0)) rfl (λ_=>trivial) (by simp;omega) λx hx=>⟨[.(r i),.(i (k:Nat)),.(i (x:Nat))],λh=>rfl,λj=>?_,λ_ j=>Z2 rfl⟩).trans ?_
  ·refine cb_h (e2_h (e2_h .(d) .(d) (ix_h (e0 j) (Ha (K0r.mp hx)))) .(d) ?_);rw[z2r (z24 (n:=23) _ _),K1j]
  ·rw[hB,<- z7i k pb];rfl
 refine Y4 (.ref H0.length) [some .(9),.(r i),.(i (k:Nat)),some y,.(r h.length),a,.(r H0.length),none,none,none] c1 rfl ?_;have inC:∀x∈B,decide (x∈Ch)=f x:=λx hx=>by
  have:=blt x (by rw[<- hB];exact hx);rw[hCh,K19,decide_eq_true_eq,K0p,K0r];exact⟨λz=>z.2,λz=>⟨this,z⟩⟩
 have c2:x5 [some 4,none] (v8 (eVar 6)) (gN 1) (λγ=>do let d <- FT.e2 (fIn false) .(l) .(h) γ;asB d) .(l) [some .(9),.(r i),.(i (k:Nat)),some y,.(r h.length),a,.(r H0.length),none,none,none] (H0++[.lst (stD B)])=.ok (.ref (H0++[O.lst (stD B)]).length) (H0++[.lst (stD B)]++[.lst (stD (yesL bl k f))]):=by
  refine(z0R (l:=B) (λx=>decide (x∈Ch)) (λx=>.int (x:Nat)) (z5h .(d) x6) rfl (λj=>J7 x6) .(0) λx hx=>⟨[.(r h.length),.(i (x:Nat))],λh=>rfl,λj=>?_,λ_ j=>Z2 rfl⟩).trans ?_
  ·refine cb_h (e2_h .(d) .(d) ?_);rw[z7W (l:=Ch) (by rw[K06];exact eC _),K1j]
  ·rw[K7z inC,hB];rfl
 refine Y4 (.ref (H0++[O.lst (stD B)]).length) [some .(9),.(r i),.(i (k:Nat)),some y,.(r h.length),a,.(r H0.length),.(r ((H0++[O.lst (stD B)]).length)),none,none] c2 rfl ?_;have eB:∀j,(H0++[O.lst (stD B)]++j)[H0.length]?=.(l (stD B)):=λj=>J7 x6;obtain⟨H1,hH1⟩:∃H1,H1=H0++[O.lst (stD B)]:=⟨_,rfl⟩;rw[<- hH1]at eB ⊢;have c3:x5 [some 4,none] (v8 (eVar 6)) (gN 1) (λγ=>do let d <- FT.e2 (fIn true) .(l) .(h) γ;asB d) .(l) [some .(9),.(r i),.(i (k:Nat)),some y,.(r h.length),a,.(r H0.length),.(r H1.length),none,none] (H1++[.lst (stD (yesL bl k f))])=.ok (.ref (H1++[O.lst (stD (yesL bl k f))]).length) (H1++[.lst (stD (yesL bl k f))]++[.lst (stD (noL bl k f))]):=by
  refine(z0R (l:=B) (λx=>!decide (x∈Ch)) (λx=>.int (x:Nat)) (z5h .(d) (eB _)) rfl (λj=>by show (_++j)[H0.length]?=_;rw[K06];exact eB _) .(0) λx hx=>⟨[.(r h.length),.(i (x:Nat))],λh=>rfl,λj=>?_,λ_ j=>Z2 rfl⟩).trans ?_
  ·refine cb_h (e2_h .(d) .(d) ?_);rw[z7W (l:=Ch) (by rw[K06,hH1,K06];exact eC _),K9z]
  ·rw[K7z (q:=λx=>!f x) λx hx=>by rw[inC x hx],hB];rfl
 refine Y4 (.ref (H1++[O.lst (stD (yesL bl k f))]).length) [some .(9),.(r i),.(i (k:Nat)),some y,.(r h.length),a,.(r H0.length),.(r H1.length),.(r ((H1++[O.lst (stD (yesL bl k f))]).length)),none] c3 rfl ?_;obtain⟨Y,hY⟩:∃Y,Y=yesL bl k f:=⟨_,rfl⟩;obtain⟨N,hN⟩:∃N,N=noL bl k f:=⟨_,rfl⟩;have subB:∀{x:Nat},x∈Y\/x∈N->x<st.length:=λ{x} z=>by
  rw[hY,hN]at z;refine blt x ?_;rcases z with z|z<;>exact(K0p.mp z).1
 rw[<- hY,<- hN];obtain⟨H2,hH2⟩:∃H2,H2=H1++[O.lst (stD Y)]++[O.lst (stD N)]:=⟨_,rfl⟩;have eY:∀j,(H2++j)[H1.length]?=.(l (stD Y)):=λj=>by rw[hH2];exact J7 (J7 x6)
 have eN:∀j,(H2++j)[(H1++[O.lst (stD Y)]).length]?=.(l (stD N)):=λj=>by rw[hH2];exact J7 x6
 have eH:H2[i]?=.(l (stD Hm)):=by rw[hH2,hH1,K06,K06];exact e0 _
 have eY0:=eY [];have eN0:=eN [];rw[K0w]at eY0 eN0;rw[<- hH2];refine z0b (decide (Y=[])||decide (N=[])) (z6n (zu8 rfl eY0) (zu8 rfl eN0)) ?_;by_cases ct:Cut bl k f
 ·have hy:Y≠[]:=by rw[hY];exact ct.hy
  have hn:N≠[]:=by rw[hN];exact ct.hn
  rw[.(m) hy,.(m) hn,if_neg .(1)];refine z07 (Y4 (.ref H2.length) [some .(9),.(r i),.(i (k:Nat)),some y,.(r h.length),a,.(r H0.length),.(r H1.length),.(r ((H1++[O.lst (stD Y)]).length)),.(r H2.length)] (j9 .(d) (zT0 eH (by rw[j8];omega))) rfl ?_);obtain⟨u,hu⟩:∃u,u=Y.headD 0:=⟨_,rfl⟩;obtain⟨v,hv⟩:∃v,v=N.headD 0:=⟨_,rfl⟩;refine z2o (λγ h'=>∃a,γ=[some .(9),.(r i),.(i (k:Nat)),some y,.(r h.length),a,.(r H0.length),.(r H1.length),.(r ((H1++[O.lst (stD Y)]).length)),.(r H2.length)]/\h'=H2++[.lst (stD (setA Hm Y u))]) ?_ ?_
  ·refine z1v (λc γ h'=>∃a,γ=[some .(9),.(r i),.(i (k:Nat)),some y,.(r h.length),a,.(r H0.length),.(r H1.length),.(r ((H1++[O.lst (stD Y)]).length)),.(r H2.length)]/\h'=H2++[.lst (stD (setA Hm (Y.take c) u))]) (λ_ _=>False) ?_;refine W_of (v:=.lst H1.length (stD Y)) (z5h .(d) (eY _)) ?_;refine⟨⟨a,rfl,rfl⟩,λc γ h' ⟨_,_,q⟩=>by rw[q];exact eY _,?_,?_,λ_ _ q=>q.elim⟩
   ·rintro c d γ _ hd ⟨a,rfl,rfl⟩;obtain⟨x,rfl,ex⟩:=z3c (show (stD Y)[c]?=some d from hd);refine W_eq (v:=[some .(9),.(r i),.(i (k:Nat)),some y,.(r h.length),.(i (x:Nat)),.(r H0.length),.(r H1.length),.(r ((H1++[O.lst (stD Y)]).length)),.(r H2.length)]) rfl ?_;refine zk3 (zw7 rfl (eY _) hy) rfl rfl x6 (by rw[j8,z2P,Hl];exact subB (.inl (K0j ex))) ?_;refine z0f ⟨_,rfl,?_⟩;rw[z2U,zy8,<- hu,z77 ex]
   ·rintro γ _ ⟨a,rfl,rfl⟩;rw[show (Src.lst H1.length (stD Y)).items.length=Y.length from j8 Y,K1w];exact⟨a,rfl,rfl⟩
  rintro _ _ ⟨a,rfl,rfl⟩;refine z2o (λγ h'=>∃a,γ=[some .(9),.(r i),.(i (k:Nat)),some y,.(r h.length),a,.(r H0.length),.(r H1.length),.(r ((H1++[O.lst (stD Y)]).length)),.(r H2.length)]/\h'=H2++[.lst (stD (setA (setA Hm Y u) N v))]) ?_ ?_
  ·refine z1v (λc γ h'=>∃a,γ=[some .(9),.(r i),.(i (k:Nat)),some y,.(r h.length),a,.(r H0.length),.(r H1.length),.(r ((H1++[O.lst (stD Y)]).length)),.(r H2.length)]/\h'=H2++[.lst (stD (setA (setA Hm Y u) (N.take c) v))]) (λ_ _=>False) ?_;refine W_of (v:=.lst (H1++[O.lst (stD Y)]).length (stD N)) (z5h .(d) (eN _)) ?_;refine⟨⟨a,rfl,rfl⟩,λc γ h' ⟨_,_,q⟩=>by rw[q];exact eN _,?_,?_,λ_ _ q=>q.elim⟩
   ·rintro c d γ _ hd ⟨a,rfl,rfl⟩;obtain⟨x,rfl,ex⟩:=z3c (show (stD N)[c]?=some d from hd);refine W_eq (v:=[some .(9),.(r i),.(i (k:Nat)),some y,.(r h.length),.(i (x:Nat)),.(r H0.length),.(r H1.length),.(r ((H1++[O.lst (stD Y)]).length)),.(r H2.length)]) rfl ?_;refine zk3 (zw7 rfl (eN _) hn) rfl rfl x6 (by rw[j8,z2P,z2P,Hl];exact subB (.inr (K0j ex))) ?_;refine z0f ⟨_,rfl,?_⟩;rw[z2U,zy8,<- hv,z77 ex]
   ·rintro γ _ ⟨a,rfl,rfl⟩;rw[show (Src.lst (H1++[O.lst (stD Y)]).length (stD N)).items.length=N.length from j8 N,K1w];exact⟨a,rfl,rfl⟩
  rintro _ _ ⟨a,rfl,rfl⟩;have fe:=zR4 pb ct;rw[<- hY,<- hN,<- hHm,<- hu,<- hv]at fe;rw[fe];refine j3 (.ref H2.length) .(d) ⟨λ_=>⟨[.lst (stD Ch),.lst (stD B),.lst (stD Y),.lst (stD N),.lst (stD (hmB .(7) (cutB bl k f)))],H2.length,rfl,?_,?_,x6⟩,λn=>absurd ct n⟩
  ·rw[hH2,hH1,hH0];simp
  ·rw[hH2,hH1,hH0];simp only[K04];omega
 ·have z:(decide (Y=[])||decide (N=[]))=true:=by
   rw[K2f,decide_eq_true_eq,decide_eq_true_eq,hY,hN];exact zJ8 ct
  rw[z,if_pos rfl];exact z06 (j3 .non rfl ⟨λc=>absurd c ct,λ_=>⟨rfl,[.lst (stD Ch),.lst (stD B),.lst (stD Y),.lst (stD N)],by rw[hH2,hH1,hH0];simp⟩⟩)
theorem z3P {k:Nat}(ma:MA st mk) (pb:PB st.length bl) (bn:ByG bl y) (ct:Cut bl k (bel st mk bl y)) (e:h[i]?=.(l ((stD (hmB st.length bl))))):Y3 [maD st mk,.ref i,.int (k:Nat),y] h=.ok .(u) (h++[.lst (stD (hmB st.length (cutB bl k (bel st mk bl y))))]):=by
 obtain⟨d,h',e',z,_⟩:=z6D (k:=k) ma pb bn e;obtain⟨j,p,rfl,rfl,hp,ep⟩:=z ct;exact z3t e' rfl (z4d h) hp ep (z1O _)
theorem z6P {k:Nat}(ma:MA st mk) (pb:PB st.length bl) (bn:ByG bl y) (ct:¬ Cut bl k (bel st mk bl y)) (e:h[i]?=.(l ((stD (hmB st.length bl))))):Y3 [maD st mk,.ref i,.int (k:Nat),y] h=.ok .non h:=by
 obtain⟨d,h',e',_,z⟩:=z6D (k:=k) ma pb bn e;obtain⟨rfl,j,rfl⟩:=z ct;exact z0S e' rfl
theorem z8s (hn:0<n):hmB n [(0,K9 n)]=K0n n 0:=by
 have pb:=z2R hn;refine K35 λx=>?_;by_cases hx:x<n
 ·rw[z7f hx,pb.key (p:=(0,K9 n)) .(f) (K0r.mpr hx),K60,if_pos hx]
 ·rw[K13 (by rw[z0E];omega),K13 (by simp;omega)]
end
noncomputable def endD (st:List (List Nat)) (mk:List (List Str)):D->Option Bl
 | .tup cs=>endB st mk [(0,K9 st.length)] cs
 | _=>none
def zM6 (n:Nat) (r:Nat):Option Bl->D
 | some _=>.ref r
 | none=>.non
def Z0f (n:Nat):Option Bl->AH
 | some bl=>[.lst (stD (hmB n bl))]
 | none=>[]
theorem zy5 (h:natB (n:Nat) d=true):∃k:Nat,d=.int (k:Nat)/\k<n:=by
 cases d<;>first|(cases h;done)|skip
 rename_i i;have h:(decide (0<=i)&&decide (i<(n:Nat)))=true:=h;rw[K0c,decide_eq_true_eq,decide_eq_true_eq]at h;obtain⟨k,rfl⟩:=K0v h.1;exact⟨k,rfl,by omega⟩
theorem zv8 {k:Nat}(h:k<n):natB (n:Nat) (.int (k:Nat))=true:=by
 show (decide ((0:Int)<=(k:Nat))&&decide (((k:Nat):Int)<(n:Nat)))=true;rw[.(g) .(0),.(g) .(0)];rfl
theorem Z0q (h:nmB y=true):∃s:Str,s≠""/\y=.str s:=by
 cases y<;>first|(cases h;done)|skip
 rename_i s;refine⟨s,?_,rfl⟩;rintro rfl;exact absurd h .(1)
theorem za8 (hl:lenB 2 2 d=true):∃l y,d=.tup [l,y]:=by
 cases d with
 | tup xs =>
  have hl:(decide ((2:Int)<=xs.length)&&decide ((xs.length:Int)<=2))=true:=hl;rw[K0c,decide_eq_true_eq,decide_eq_true_eq]at hl;have n2:xs.length=2:=by omega
  match xs,n2 with
  | [l,y],_=>exact⟨l,y,rfl⟩
 | _=>cases hl
section
variable {bl:Bl}
theorem zs3 {k:Nat}(pb:PB n bl) (h:k<n) (e:keyOf bl k=k):k∈bl.map (·.1):=by
 have:=(pb.at_ h).1;rw[e]at this;exact K07.mpr ⟨_,this,rfl⟩
theorem zl8 (ma:MA st mk) (t:TB 2 h d) (hs:∀xs l x,d=.tup xs->D.tup [l,.str x]∈xs->x.length<=1000):z0W [maD st mk,d] h=.ok (zM6 st.length h.length (endD st mk d)) (h++Z0f st.length (endD st mk d)):=by
 have l1:=ma.l1;have l2:=ma.l2;have l3:=ma.l3;have pb0:PB .(7) [(0,K9 .(7))]:=z2R .(0);have key:W (runF 4 z0m [maD st mk,d]) h λv h'=>(∀bl,endD st mk d=some bl->∃j p,v=.ref p/\h'=h++j/\h.length<=p/\h'[p]?=.(l ((stD (hmB .(7) bl)))))/\(endD st mk d=none->v=.non/\∃j,h'=h++j):=by
  refine z2n ?_;show W (z0m [some .(9),some d,none,none]) h _;unfold z0m z2d;have c0:x5 [none] (z0c (FT.e2 fIx .(h) .(3))) (gN 0) (λ_=>pure true) .(3) [some .(9),some d,none,none] h=.ok .(u) (h++[.lst (stD (hmB .(7) [(0,K9 .(7))]))]):=by
   refine(z28 (src:=.con (stsD st)) (λ_=>true) (λ_=>.int ((0:Nat):Int)) (z1T (e2_h .(d) (y:=.int 0) rfl (by rw[z2j];rfl))) (λ_=>trivial) (by show (stsD st).length<=_;rw[z1A];omega) λd hd=>⟨[some d],λh=>rfl,λj=>rfl,λ_ j=>rfl⟩).trans ?_;rw[filter_tt,z8s .(0)];show Res.ok _ (h++[O.lst ((stsD st).map λ_=>D.int ((0:Nat):Int))])=_;rw[Z32,z1A];unfold stD;rw[Z1t]
  refine Y4 .(u) [some .(9),some d,.(r h.length),none] c0 rfl ?_;refine z0b (!tupB d) (cn_h (cv_h (z3z .(d) ((z39 d) ▸ (t.1.app _).at (.inr (.inr (.inl rfl))))))) ?_;cases tp:tupB d with
  | false =>
   rw[if_pos (by rfl)];have en:endD st mk d=none:=by cases d<;>first|rfl|cases tp
   refine z06 (j3 .non rfl ?_);exact⟨λ_ z=>(by rw[en]at z;cases z),λ_=>⟨rfl,_,rfl⟩⟩
  | true =>
  rw[if_neg .(1)];obtain⟨cs,eC⟩:=z8E tp;have eE:endD st mk d=endB st mk [(0,K9 .(7))] cs:=by rw[eC];rfl
  refine z07 ?_;rw[eE];refine z2o (λγ h'=>∃a j p bl,γ=[some .(9),some d,.(r p),a]/\h'=h++j/\h.length<=p/\h'[p]?=.(l ((stD (hmB .(7) bl))))/\endB st mk [(0,K9 .(7))] cs=some bl) ?_ ?_
  ·refine z1v (λc γ h'=>∃a j p bl1,γ=[some .(9),some d,.(r p),a]/\h'=h++j/\h.length<=p/\h'[p]?=.(l ((stD (hmB .(7) bl1))))/\PB .(7) bl1/\endB st mk [(0,K9 .(7))] (cs.take c)=some bl1) (λv h'=>v=.non/\(∃j,h'=h++j)/\endB st mk [(0,K9 .(7))] cs=none) ?_;refine W_of (v:=.con cs) (z1T (by rw[<- eC];exact Z2 rfl)) ?_;refine⟨⟨none,_,h.length,_,rfl,rfl,K01 _,x6,pb0,rfl⟩,λ_ _ _ _=>trivial,?_,?_,?_⟩
   ·rintro c q γ _ hd ⟨a,j,p,bl1,rfl,rfl,hp,ep,pb,en⟩;have hd:cs[c]?=some q:=hd;have dm:=K0j hd;have tq:TB 1 (h++j) q:=(t.2 cs eC q dm).app j;have sq:∀l x,q=.tup [l,.str x]->x.length<=1000:=λl x e=>hs cs l x eC (by rw[<- e];exact dm);obtain⟨γ,hγ⟩:∃γ:G,γ=[some .(9),some d,.(r p),some q]:=⟨_,rfl⟩;refine W_eq (v:=γ) (by rw[hγ];rfl) ?_;have g0:γ[0]?=some (some .(9)):=by rw[hγ];rfl
    have g2:γ[2]?=some (.(r p)):=by rw[hγ];rfl
    have g3:γ[3]?=some (some q):=by rw[hγ];rfl
    have ln:Z6 fLen (z7 (eVar 2) aNil) γ (h++j)=.ok (.int (st.length:Nat)) (h++j):=j9 (Z2 g2) (by rw[z4H ep,j8,z0E]);have out:z2p st mk bl1 q=none->∀{mt:G->M Out} {γ':G},W (Z0 (sRet (λ_=>pure .non)) mt γ') (h++j) (forW (λγ h'=>∃a j p bl1,γ=[some .(9),some d,.(r p),a]/\h'=h++j/\h.length<=p/\h'[p]?=.(l ((stD (hmB .(7) bl1))))/\PB .(7) bl1/\endB st mk [(0,K9 .(7))] (cs.take (c+1))=some bl1) (λv h'=>v=.non/\(∃j,h'=h++j)/\endB st mk [(0,K9 .(7))] cs=none)):=λhn {mt γ'}=>j3 .non rfl ⟨rfl,⟨j,rfl⟩,z5K en hd hn⟩;have c1:cNot (cVal (eFn 3 z0l (z7 (eVar 3) (z7 .(t) (z7 .(t) aNil))))) γ (h++j)=.ok (!lenB 2 2 q) (h++j):=cn_h (cv_h (fn_h (ds:=[q,.int 2,.int 2]) (ac_h (Z2 g3) (ac_h (d:=.int 2) rfl (ac_h (d:=.int 2) rfl rfl))) rfl (zj8 tq.1)));cases hl:lenB 2 2 q with
    | false =>
     rw[hl]at c1;refine z0b true (z57 c1) ?_;rw[if_pos rfl];exact z06 (out (z3A λk y e _ _=>by rw[e]at hl;cases hl))
    | true =>
    rw[hl]at c1;obtain⟨l,y,rfl⟩:=za8 hl;have i0:FT.e2 fIx (eVar 3) .(3) γ (h++j)=.ok l (h++j):=e2_h (Z2 g3) (y:=.int 0) rfl rfl;have i1:FT.e2 fIx (eVar 3) .(4) γ (h++j)=.ok y (h++j):=e2_h (Z2 g3) (y:=.int 1) rfl rfl;have tl:=tq.2 _ rfl l .(f);have ty:=tq.2 _ rfl y .(f);refine z0b (!natB (st.length:Nat) l) (z9s c1 (cn_h (cv_h (fn_h (ds:=[l,.int 0,.int (st.length:Nat)]) (ac_h i0 (ac_h (d:=.int 0) rfl (ac_h ln rfl))) rfl (zl6 tl))))) ?_;cases hk:natB (st.length:Nat) l with
    | false =>
     rw[if_pos (by rfl)];refine z06 (out (z3A λk y e _ ct=>?_));injection e with e
     injection e with e1 e2
     rw[e1,zv8 (pb.klt ct.hk)]at hk;cases hk
    | true =>
    rw[if_neg .(1)];obtain⟨k,rfl,kl⟩:=zy5 hk;refine z07 ?_;have fin:ByG bl1 y->byB bl1 y=true->W (Z0 (sAsg (eFn 4 Y3 (z7 .(h) (z7 (eVar 2) (z7 (FT.e2 fIx (eVar 3) .(3)) (z7 (FT.e2 fIx (eVar 3) .(4)) aNil))))) (gN 2)) (Z0 (sIf (λγ=>do let d <- FT.e2 (fIs false) (eVar 2) (λ_=>pure .non) γ;asB d) (Z0 (sRet (λ_=>pure .non)) bNil) bNil) bNil) γ) (h++j) (forW (λγ h'=>∃a j p bl1,γ=[some .(9),some d,.(r p),a]/\h'=h++j/\h.length<=p/\h'[p]?=.(l ((stD (hmB .(7) bl1))))/\PB .(7) bl1/\endB st mk [(0,K9 .(7))] (cs.take (c+1))=some bl1) (λv h'=>v=.non/\(∃j,h'=h++j)/\endB st mk [(0,K9 .(7))] cs=none)):=λbg bb=>by
     by_cases ct:Cut bl1 k (bel st mk bl1 y)
     ·have hc:cutC bl1 (.tup .(w))=true:=by
       show (true&&(keyB bl1 (.int (k:Nat))&&byB bl1 y))=true;rw[bb,z3q,.(g) ct.hk];rfl
      refine Y4 (.ref (h++j).length) (γ.set 2 (.(r ((h++j).length)))) (fn_h (ds:=[maD st mk,.ref p,.int (k:Nat),y]) (ac_h (Z2 g0) (ac_h (Z2 g2) (ac_h i0 (ac_h i1 rfl)))) rfl (z3P ma pb bg ct ep)) rfl ?_;refine z0b false (cb_h (e2_h (x:=.ref (h++j).length) (Z2 (by rw[hγ];rfl)) (y:=.non) rfl rfl)) ?_;rw[if_neg .(1)];refine z07 (z0f ⟨_,j++[.lst (stD (hmB .(7) (cutB bl1 k (bel st mk bl1 y))))],(h++j).length,_,by rw[hγ];rfl,by rw[K06],by rw[K04];omega,x6,z6W pb ct,?_⟩);rw[K6a,hd];show endB st mk _ (cs.take c++[D.tup .(w)])=_;rw[z5L en,z5r hc ct]
     ·refine Y4 .non (γ.set 2 (some .non)) (fn_h (ds:=[maD st mk,.ref p,.int (k:Nat),y]) (ac_h (Z2 g0) (ac_h (Z2 g2) (ac_h i0 (ac_h i1 rfl)))) rfl (z6P ma pb bg ct ep)) rfl ?_;refine z0b true (cb_h (e2_h (x:=.non) (Z2 (by rw[hγ];rfl)) (y:=.non) rfl rfl)) ?_;rw[if_pos rfl];refine z06 (out (z3A λk' y' e _ ct'=>ct ?_));injection e with e
      injection e with e1 e2
      injection e1 with e1
      injection e2 with e2 _
      subst e2;obtain rfl:k=k':=by omega
      exact ct'
    refine z0b (!nmB y) (cn_h (cv_h (fn_h (ds:=[y]) (ac_h i1 rfl) rfl (zG8 ty λx e=>sq _ x (by rw[e]))))) ?_;cases hn:nmB y with
    | true =>
     rw[if_neg .(1)];exact z07 (fin (.inl (Z0q hn)) (by unfold byB;rw[hn];rfl))
    | false =>
    rw[if_pos (by rfl)];have c2:cNot (cVal (eFn 3 z0r (z7 (FT.e2 fIx (eVar 3) .(4)) (z7 .(3) (z7 (Z6 fLen (z7 (eVar 2) aNil)) aNil))))) γ (h++j)=.ok (!natB (st.length:Nat) y) (h++j):=cn_h (cv_h (fn_h (ds:=[y,.int 0,.int (st.length:Nat)]) (ac_h i1 (ac_h (d:=.int 0) rfl (ac_h ln rfl))) rfl (zl6 ty)));have noB:byB bl1 y=false->z2p st mk bl1 (.tup .(w))=none:=λz=>z3A λk' y' e c _=>by
     have c:(numB (.int (k:Nat))&&(keyB bl1 (.int (k:Nat))&&byB bl1 y))=true:=c;rw[z,K3p,K3p]at c;cases c
    cases hy:natB (st.length:Nat) y with
    | false =>
     rw[hy]at c2;refine z06 (z0b true (z57 c2) ?_);rw[if_pos rfl];refine z06 (out (noB ?_));unfold byB;rw[hn,K49];cases kb:keyB bl1 y with
     | false=>rw[K3p]
     | true =>
      obtain⟨k',rfl,hk'⟩:=z7K kb;rw[zv8 (pb.klt hk')]at hy;cases hy
    | true =>
    rw[hy]at c2;obtain⟨k',rfl,kl'⟩:=zy5 hy;refine z06 (z0b (!decide (keyOf bl1 k'=k')) (z9s c2 (cb_h (e2_h (e2_h (Z2 g2) i1 (ix_h ep (d:=.int (keyOf bl1 k':Nat)) (by rw[z7n (by rw[z0E];exact kl'),z7f kl'];rfl))) i1 (by rw[z2r (z24 (n:=23) _ _),K9z])))) ?_);by_cases ks:keyOf bl1 k'=k'
    ·have hk':=zs3 pb kl' ks;rw[.(g) ks,if_neg .(1)];exact z07 (z07 (fin (.inr ⟨k',rfl,hk'⟩) (by unfold byB;rw[z3q,decide_eq_true hk'];rfl)))
    ·rw[.(m) ks,if_pos (by rfl)];refine z06 (out (noB ?_));unfold byB;rw[hn,z3q,.(m) λhk'=>ks (pb.keyself hk')];rfl
   ·rintro γ h' ⟨a,j,p,bl1,rfl,rfl,hp,ep,pb,en⟩;rw[show (Src.con cs).items.length=cs.length from rfl,K1w]at en;exact⟨a,j,p,bl1,rfl,rfl,hp,ep,en⟩
   ·rintro v h' ⟨rfl,hj,en⟩;exact⟨λ_ z=>(by rw[en]at z;cases z),λ_=>⟨rfl,hj⟩⟩
  rintro _ _ ⟨a,j,p,bl,rfl,rfl,hp,ep,en⟩;exact j3 (.ref p) .(d) ⟨λbl' z=>by rw[en]at z;injection z with z;subst z;exact⟨j,p,rfl,rfl,hp,ep⟩,λz=>by rw[en]at z;cases z⟩
 obtain⟨v,h',e',z1,z2⟩:=key;cases en:endD st mk d with
 | some bl =>
  obtain⟨j,p,rfl,rfl,hp,ep⟩:=z1 bl en;exact z3t e' rfl (z4d h) hp ep (z1O _)
 | none =>
  obtain⟨rfl,j,rfl⟩:=z2 en;show cln _ h=.ok .non (h++[]);rw[K0w];exact z0S e' rfl
end
theorem z8D {b c:Bool}:z1a [.bl b,.bl c]=pure (.bl (b==c)):=by
 unfold z1a;rw[z5s (d:=.bl (b==c)),z46];show z1I [some (.bl b),some (.bl c)]=_;unfold z1I;refine zn3 _ ?_;simp only[K1j,K5,K1,Y6,z0d,e2,eAnd,eIsi,eVar,zU2,zx8];cases b<;>cases c<;>rfl
section
variable {bl:Bl}
theorem z0U:(rowB n bl).length=n:=by unfold rowB;simp
theorem z2h (pb:PB n bl):setN (hmB n bl)=z0G (bl.map (·.1)):=by
 refine z4g (z4u _) (z1t pb.nd) λx=>?_;rw[z4h,sortN_mem];unfold hmB;rw[K07];constructor
 ·rintro⟨y,hy,rfl⟩;exact pb.keyin (K0r.mp hy)
 ·intro h;exact⟨x,K0r.mpr (pb.klt h),pb.keyself h⟩
theorem z9R (pb:PB n bl):numL (hmB n bl)=rowB n bl:=by
 unfold numL;rw[z2h pb];unfold hmB rowB;rw[K0u];rfl
theorem zb3 {y:Nat}(hx:x∈l) (hy:y∈l):l.idxOf x=l.idxOf y↔x=y :=
 ⟨λe=>by rw[<- z1V hx,e,z1V hy],λe=>by rw[e]⟩
theorem z3D (hx:x<n):rowAt (rowB n bl) x=(z0G (bl.map (·.1))).idxOf (keyOf bl x):=z2N (by unfold rowB;rw[K0k,K3b hx];rfl)
theorem zg5 (pb:PB n bl):Canon (rowB n bl):=λi v e u hu=>by
 have hi:i<n:=by have:=(K3.mp e).1;rwa [z0U]at this
 obtain⟨K,hK⟩:∃K,K=z0G (bl.map (·.1)):=⟨_,rfl⟩;have rise:K.Pairwise (·<·):=by rw[hK];exact z1t pb.nd
 have ev:v=K.idxOf (keyOf bl i):=by rw[<- z2N e,z3D hi,hK]
 have mk:∀x,x∈K↔x∈bl.map (·.1):=λx=>by rw[hK,sortN_mem]
 have ki:keyOf bl i∈K:=(mk _).mpr (pb.keyin hi);have vl:v<K.length:=by rw[ev];exact K1e.mpr ki
 have ul:u<K.length:=by omega
 have um:rowAt K u∈bl.map (·.1):=(mk _).mp (z2t ul);have lt:rowAt K u<keyOf bl i:=by
  have:=K7k.mp rise u v ul vl hu;have e1:K[u]=rowAt K u:=(z2N (K00 ul)).symm;have e2:K[v]=keyOf bl i:=by
   rw[<- z1V ki,<- ev];exact(z2N (K00 vl)).symm
  rw[e1,e2]at this;exact this
 have kle:=pb.keyle hi;have ku:=pb.keyself um;have kl:=pb.klt um;refine K0j (i:=rowAt K u) ?_;rw[K4e,if_pos .(0),z3f (by rw[z0U];exact kl),z3D kl,ku,<- hK];rw[zP2 (z3K rise) ul]
theorem zP1 (ma:MA st mk) (pb:PB st.length bl) (dn:Done st mk bl):Steady st mk (rowB st.length bl):=by
 have sb:=zr1 ma pb dn;have sq:=z6J ma;refine⟨z0U,zg5 pb,λi hi=>?_⟩;rw[z0U]at hi;obtain⟨j,hj⟩:∃j,j=(rowB .(7) bl).idxOf (rowAt (rowB .(7) bl) i):=⟨_,rfl⟩;rw[<- hj];have im:rowAt (rowB .(7) bl) i∈rowB .(7) bl:=z2t (by rw[z0U];exact hi);have jl:j<st.length:=by have:=K1e.mpr im;rw[z0U]at this;omega
 have re:rowAt (rowB .(7) bl) j=rowAt (rowB .(7) bl) i:=by rw[hj];exact z1V im
 have ke:keyOf bl i=keyOf bl j:=by
  rw[z3D jl,z3D hi]at re;exact((zb3 (by rw[sortN_mem];exact pb.keyin jl) (by rw[sortN_mem];exact pb.keyin hi)).mp re).symm
 have e1:i<.(7)/\j<.(7)/\keyOf bl i=keyOf bl j:=⟨hi,jl,ke⟩;have sub:∀{x y:Nat},(x<.(7)/\y<.(7)/\keyOf bl x=keyOf bl y)->∀u,u∈(nx st x).map (rowAt (rowB .(7) bl))->u∈(nx st y).map (rowAt (rowB .(7) bl)):=λ{x y} e u hu=>by
  obtain⟨o,ho,rfl⟩:=K07.mp hu;obtain⟨t,ht,q1,q2,q3⟩:=sb.steps x y e o ho;refine K07.mpr ⟨t,ht,?_⟩;rw[z3D q2,z3D q1,q3]
 refine⟨sb.marks i j e1,z4g (z4u _) (z4u _) λu=>?_⟩;show u∈setN _↔u∈setN _;rw[z4h,z4h];exact⟨sub e1 u,sub ⟨e1.2.1,e1.1,e1.2.2.symm⟩ u⟩
theorem zK7 {bl1:Bl}(hn:n=st.length) (pb:PB n bl) (h:z2p st mk bl d=some bl1):PB n bl1:=by
 unfold z2p at h;split at h
 ·rename_i z;injection h with h
  subst h;exact z6W pb z.choose_spec.choose_spec.2.2
 ·cases h
theorem zy0 {cs:List D}(pb:PB st.length bl){bl1:Bl}(h:endB st mk bl cs=some bl1):PB st.length bl1:=by
 induction cs generalizing bl with
 | nil=>injection h with h;exact h ▸ pb
 | cons d cs ih =>
  unfold endB at h;rw[K4m]at h;cases e:z2p st mk bl d with
  | none =>
   rw[show ((some bl).bind λbl=>z2p st mk bl d)=z2p st mk bl d from rfl,e,z5G]at h;cases h
  | some b2 =>
   rw[show ((some bl).bind λbl=>z2p st mk bl d)=z2p st mk bl d from rfl,e]at h;exact ih (zK7 rfl pb e) h
theorem z9k (ma:MA st mk) (t:TB 3 h d) (hs:∀row xs l x,d=.tup [row,.tup xs]->D.tup [l,.str x]∈xs->x.length<=1000):z0w [maD st mk,d] h=.ok (.bl (rcB st mk d)) h:=by
 have l1:=ma.l1;have l2:=ma.l2;have l3:=ma.l3;have pb0:PB .(7) [(0,K9 .(7))]:=z2R .(0);refine za6 rfl (z2n ?_);show W (x8 [some .(9),some d,none]) h _;unfold x8;have c1:cNot (cVal (eFn 3 z0l (z7 .(l) (z7 .(t) (z7 .(t) aNil))))) [some .(9),some d,none] h=.ok (!lenB 2 2 d) h:=cn_h (cv_h (fn_h (ds:=[d,.int 2,.int 2]) (ac_h .(d) (ac_h (d:=.int 2) rfl (ac_h (d:=.int 2) rfl rfl))) rfl (zj8 t.1)));cases hl:lenB 2 2 d with
 | false =>
  rw[hl]at c1;refine z0b true (z57 c1) ?_;rw[if_pos rfl];exact z06 (j3 (.bl false) rfl ⟨by rw[zY7 hl],[],by simp⟩)
 | true =>
 rw[hl]at c1;obtain⟨R,C,rfl⟩:=za8 hl;have tR:=t.2 _ rfl R .(f);have tC:=t.2 _ rfl C .(f);have tR1:TB 1 h R:=⟨tR.1,λxs e x hx=>(tR.2 xs e x hx).1⟩;have i0:FT.e2 fIx .(l) .(3) [some .(9),.(g [R,C]),none] h=.ok R h:=e2_h .(d) (y:=.int 0) rfl rfl;have i1:FT.e2 fIx .(l) .(4) [some .(9),.(g [R,C]),none] h=.ok C h:=e2_h .(d) (y:=.int 1) rfl rfl;refine z0b (!stB st mk R) (z9s c1 (cn_h (cv_h (fn_h (ds:=[maD st mk,R]) (ac_h .(d) (ac_h i0 rfl)) rfl (zh2 tR1 (z6J ma) ma.s1 ma.l3))))) ?_;cases sR:stB st mk R with
 | false =>
  rw[if_pos (by rfl)];refine z06 (j3 (.bl false) rfl ⟨?_,[],by simp⟩);congr 1;symm;unfold rcB;split
  ·rename_i row cs e;injection e with e
   injection e with e1 e2
   rw[<- e1,sR];rfl
  ·rfl
 | true =>
 rw[if_neg .(1)];obtain⟨row,eR,_⟩:=z7s sR;have rv:rcB st mk (.tup [R,C])=match endD st mk C with|some bl=>decide (row=rowB .(7) bl)|none=>false:=by
  rw[eR];rw[eR]at sR;cases C with
  | tup cs =>
   show (stB st mk (.tup (stD row))&&match endB st mk [(0,K9 .(7))] cs with|some bl=>decide ((stD row).map numD=rowB .(7) bl)|none=>false)=_;rw[sR,K21,z7R];rfl
  | _=>rfl
 rw[rv];refine z07 ?_;refine Y4 (zM6 .(7) h.length (endD st mk C)) [some .(9),.(g [R,C]),some (zM6 .(7) h.length (endD st mk C))] (fn_h (ds:=[maD st mk,C]) (ac_h .(d) (ac_h i1 rfl)) rfl (zl8 ma tC λxs l x e m=>hs R xs l x (by rw[e]) m)) rfl ?_;cases en:endD st mk C with
 | none =>
  refine j3 (.bl false) (z1n (c:=false) (b:=false) ?_ λq=>nomatch q) ⟨rfl,[],rfl⟩;exact e2_h (x:=.non) .(d) (y:=.non) rfl rfl
 | some bl =>
  have pb:PB .(7) bl:=by
   cases C with
   | tup cs=>exact zy0 (cs:=cs) pb0 en
   | _=>cases en
  have hd:(setN (hmB .(7) bl)).length<64:=by have:=pb.len;rw[z2h pb,Y5,K03];omega
  refine j3 (.bl (decide (row=rowB .(7) bl))) (z1n (b:=true) ?_ λ_=>?_) ⟨rfl,_,rfl⟩
  ·exact e2_h (x:=.ref h.length) .(d) (y:=.non) rfl rfl
  ·refine e2_h (fn_h (ds:=[.ref h.length]) (ac_h .(d) rfl) rfl (z2L x6 (by rw[z0E];omega) hd)) (e2_h .(d) (y:=.int 0) rfl rfl) ?_;rw[eR,z9R pb,zx2,K1j];rw[show decide (rowB .(7) bl=row)=decide (row=rowB .(7) bl) from decide_eq_decide.mpr ⟨Eq.symm,Eq.symm⟩];rfl
end
theorem zT3 {ss:List Str}(hn:NS ns) (hl:ns.length<=8) (s:ss.Sublist ns):MK (z1S ss) :=
 ⟨by rw[z4G];exact K0d s.length_le hl,λx hx=>hn.2 _ (s.subset (sortS_mem.mp hx)),z9h (s.nodup hn.1)⟩
theorem z9y {k:Int}{dn:Int}(p:PS h k r) (hk:k<900000) (hm:m<=40) (e0:γ[0]?=some (.(r 2))) (e3:γ[3]?=some (.(i m))) (e4:γ[4]?=some (.(i dn))) (z:∀l h',l.Pairwise (·<·)->(∀x∈l,x<m)->PS h' (k+m) r->Q (.tup (stD l)) h'):
 W (clE (Z6 z03 (z7 (x5 [some 0,some 4,none] (z0y (eVar 3)) (gN 2) (λγ=>do let d <- e2 fLt (eFn 2 Z4 (z7 .(h) (z7 (λ_=>pure (.int 6)) aNil))) .(l) γ;asB d) (eVar 2)) aNil)) γ) h Q:=by
 refine zH6 p trivial ?_;simp only[Z7,W_pure,z7,aNil,e2,Z6,eFn,eVar];refine z8v (r:=r) (l:=[]) (λc xs k'=>∃l:List Nat,xs=stD l/\l.Pairwise (·<·)/\(∀x∈l,x<c)/\l.length<=c/\k'=k+c) ?_;refine W.of (z3h (n:=m) (by dsimp only[eVar];rw[e3];rfl) .(0)) ?_;refine⟨_,by simpa using p,⟨[],rfl,by simp,by simp,by simp,by simp⟩,λ_ _ _ _=>trivial,?_,?_⟩
 ·rintro c d h6 k6 xs hd ⟨l,rfl,l1,l2,l3,rfl⟩ p6;obtain⟨rfl,hc⟩:=z6h hd;simp only[capG,K0x,K3w,e0,e4,K52,K8f];simp only[K5,K1,K02,K08,K0b,K09,K0h,z05,Z7,Y7,W_pure,eVar,gN,if_true];refine z04 p6 .(0) .(1) .(1) λt h7 t0 t1 p7=>?_;simp only[W_pure,Y6,z7l];by_cases q:t<dn
  ·rw[.(g) q];simp only[if_true];refine⟨_,p7,by rw[j8];omega,l++[c],(z32 _ _),?_,?_,by simp;omega,by omega⟩
   ·rw[K9q];exact⟨l1,by simp,λa ha b hb=>by simp at hb;subst hb;exact l2 a ha⟩
   ·intro x hx;rcases K0i.mp hx with q|q
    ·have:=l2 x q;omega
    ·simp at q;omega
  ·rw[.(m) q];simp only[K0m,if_false];exact⟨_,p7,l,rfl,l1,λx hx=>by have:=l2 x hx;omega,by omega,by omega⟩
 rintro h6 xs k6 ⟨l,rfl,l1,l2,l3,rfl⟩ p6;rw[show (Src.con (z14 m)).items.length=m by simp[Src.items,z14]]at l2 p6;exact z83 (i:=0) p6 rfl ⟨_,_,p6,z5b l,λh7 p7=>z l h7 l1 l2 p7⟩
theorem z9x {k:Int}(p:PS h k r) (hk:k<900000) (e:r[i]?=.(l (ns.map .str))) (hn:ns.length<=8) (hg:NS ns) (e0:γ[0]?=some (.(r 2))) (e1:γ[1]?=some (.(r (i+3)))) (z:∀ss h',(MK ss/\∀s∈ss,s∈ns)->PS h' (k+ns.length) r->Q (.tup (ss.map .str)) h'):
 W (clE (Z6 z03 (z7 (Z6 z1P (z7 (x5 [some 0,none] (v8 .(l)) (gN 1) (λγ=>do let d <- e2 (fEq false) (eFn 2 Z4 (z7 .(h) (z7 .(t) aNil))) .(4) γ;asB d) .(l)) aNil)) aNil)) γ) h Q:=by
 refine zH6 p trivial ?_;simp only[Z7,W_pure,z7,aNil,e2,Z6,eFn,eVar];refine z8v (r:=r) (l:=[]) (λc xs k'=>∃ss:List Str,xs=ss.map .str/\ss.Sublist (ns.take c)/\k'=k+c) ?_;have sr:v8 .(l) γ h=.ok (.lst (i+3) (ns.map .str)) h:=by
  have g:getL (i+3) h=.ok (ns.map .str) h:=by unfold getL;rw[p.get,e]
  unfold v8 eVar;rw[e1];show (getL (i+3) >>= λxs=>pure (Src.lst (i+3) xs)) h=_;rw[M.bind_ok g];rfl
 refine W.of sr ?_;refine⟨_,by simpa using p,⟨[],rfl,by simp,by simp⟩,λh' k' xs' ph=>?_,?_,?_⟩
 ·show h'[i+3]?=_;rw[ph.get,J7 e]
 ·rintro c d h9 k9 xs' hd ⟨ss,rfl,ls,rfl⟩ p9;have hd':(ns.map D.str)[c]?=some d:=hd;rw[K0k]at hd';obtain⟨y,ey,rfl⟩:=K0y.mp hd';obtain⟨lc,ey'⟩:=K3.mp ey;have tk:ns.take (c+1)=ns.take c++[y]:=by rw[<- ey',K45 lc]
  have l8:ss.length<=8:=K0d ls.length_le (by rw[K1t];omega);simp only[capG,K0x,K3w,e0,e1,K52,K8f];simp only[K5,K1,K02,K08,K0b,K09,K0h,z05,Z7,Y7,W_pure,eVar,gN,if_true];refine z04 p9 .(0) .(1) .(1) λt h10 t0 t1 p10=>?_;simp only[W_pure,Y6,z7G];by_cases q:t=1
  ·rw[.(g) q];simp only[K2l,K86,if_true];exact⟨_,p10,by simp;omega,ss++[y],by simp,by rw[tk];exact ls.append (K7r _),by omega⟩
  ·rw[.(m) q];simp only[K77,K0m,if_false];exact⟨_,p10,ss,rfl,by rw[tk];exact ls.trans (K5g _ _),by omega⟩
 rintro h9 xs' k9 ⟨ss,rfl,ls,rfl⟩ p9;rw[show (Src.lst (i+3) (ns.map D.str)).items.length=ns.length by simp[Src.items]]at ls p9;rw[K1w]at ls;have l8:ss.length<=8:=K0d ls.length_le hn;refine W_of (zA3 (ss:=ss) (h:=h9) (by rw[p9.get,show .(k)+([]:AH).length=.(k)+0 from rfl,at_E];rfl) .(0)) ?_;have p11:=p9.app [.lst ((z1S ss).map .str)];rw[K06]at p11;rw[show h9.length=r.length+1+3 by rw[p9.len];simp];exact z83 (i:=1) p11 rfl ⟨_,_,p11,by simp only[Y1];exact z2D _,λh12 p12=>z (z1S ss) h12 ⟨zT3 hg hn ls,λs hs=>ls.subset (sortS_mem.mp hs)⟩ p12⟩
theorem zd4 {k:Int}(p:PS h k r) (hk:k<700000) (hm0:1<=most) (hm:most<=40) (e:r[i]?=.(l (ns.map .str))) (hn:ns.length<=8) (hg:NS ns) (z:∀st mk h',MA st mk->st.length<=most->(∀l∈mk,∀s∈l,s∈ns)->PS h' (k+2000) r->Q .(9) h'):
 W (z1K [.ref 2,.ref (i+3),.int most]) h Q:=by
 refine zh5 p trivial ?_;refine z2n ?_;show W (z18 [.(r 2),.(r (i+3)),.(i most),none,none,none,none,none]) h _;unfold z18;refine z10 (λd h1=>∃m:Nat,1<=m/\m<=most/\d=.int m/\PS h1 (k+1) r) ?_ ?_
 ·simp only[K5,K1,K02,K08,K0h,z05,Z7,Y7,W_pure,z7,aNil,e2,eFn,eVar,if_true];refine z04 p .(0) .(0) .(0) λd h1 d0 d1 p1=>?_;rw[z1U,W_pure];exact⟨(1+d).toNat,by omega,by omega,by rw[K6u .(0)],p1⟩
 rintro _ h1 ⟨m,m1,m2,rfl,p1⟩;refine z10 (λd h1=>∃t:Int,d=.int t/\PS h1 (k+2) r) ?_ ?_
 ·simp only[K1,K02,K08,K0b,K09,K0h,z05,Z7,Y7,W_pure,z7,aNil,e2,eFn,eVar,if_true];refine z04 p1 .(0) .(1) .(1) λd h1 d0 d1 p1=>?_;rw[z1U,W_pure];exact⟨_,rfl,p1.up .(0)⟩
 rintro _ h3 ⟨dn,rfl,p3⟩;refine z10 (λd h1=>d=.ref (.(k)+3)/\PS h1 (k+2) (r++[.lst (stsD [])])) ?_ ?_
 ·simp only[Z7,W_pure,aNil,eLst];exact z0M p3 .(1) λh4 p4=>⟨rfl,p4⟩
 rintro _ h4 ⟨rfl,p4⟩;refine z10 (λd h1=>d=.ref (.(k)+1+3)/\PS h1 (k+2) (r++[.lst (stsD []),.lst (mksD [])])) ?_ ?_
 ·simp only[Z7,W_pure,aNil,eLst];exact z0M p4 .(1) λh5 p5=>⟨by simp,by rw[K06]at p5;exact p5⟩
 rintro _ h5 ⟨rfl,p5⟩;refine z2o (λγ h=>∃st mk w,γ=[.(r 2),.(r (i+3)),.(i most),.(i m),.(i dn),.(r (.(k)+0+3)),.(r (.(k)+1+3)),w]/\PS h (k+2000) (r++[.lst (stsD st),.lst (mksD mk)])/\.(7)=m/\mk.length=m/\(AM st mk m/\∀l∈mk,∀s∈l,s∈ns)) ?_ ?_
 ·refine z0i (λc γ h=>∃st mk w,γ=[.(r 2),.(r (i+3)),.(i most),.(i m),.(i dn),.(r (.(k)+0+3)),.(r (.(k)+1+3)),w]/\PS h (k+2+48 * c) (r++[.lst (stsD st),.lst (mksD mk)])/\.(7)=c/\mk.length=c/\(AM st mk m/\∀l∈mk,∀s∈l,s∈ns)) (λ_ _=>False) ?_;simp only[K5,K1,K0b,K09,W_pure,z7,aNil,e2,eFn,eVar];refine⟨m,rfl,by omega,⟨[],[],_,rfl,p5.up .(0),rfl,rfl,⟨⟨by simp,by simp,by simp⟩,by simp⟩⟩,?_,?_,λ_ _ q=>q.elim⟩
  ·rintro c γ h6 hc ⟨st,mk,w,rfl,p6,l1,l2,am⟩;refine z52 (i:=0) rfl p6 rfl (by simp[stsD];omega) (λv k'=>∃l:List Nat,v=.tup (stD l)/\l.Pairwise (·<·)/\(∀x∈l,x<m)/\k'=k+2+48 * c+m) ?_ ?_
   ·exact z9y p6 .(0) .(0) rfl rfl rfl λl h' q1 q2 p7=>⟨_,p7,l,rfl,q1,q2,rfl⟩
   rintro _ _ h7 ⟨l,rfl,q1,q2,rfl⟩ p7;rw[K09,show stsD st++[D.tup (stD l)]=stsD (st++[l]) by simp[stsD]]at p7;refine z52 (i:=1) rfl p7 rfl (by simp[mksD];omega) (λv k'=>∃ss:List Str,v=.tup (ss.map .str)/\(MK ss/\∀s∈ss,s∈ns)/\k'=k+2+48 * c+m+ns.length) ?_ ?_
   ·exact z9x p7 .(0) (J7 e) hn hg rfl rfl λss h' q1 p8=>⟨_,p8,ss,rfl,q1,rfl⟩
   rintro _ _ h8 ⟨ss,rfl,q3,rfl⟩ p8;rw[K0b,K09,show mksD mk++[D.tup (ss.map .str)]=mksD (mk++[ss]) by simp[mksD]]at p8;refine z0f ⟨_,_,_,rfl,p8.up .(0),by simp[l1],by simp[l2],⟨⟨?_,?_,?_⟩,?_⟩⟩
   ·intro l hl;rcases K0i.mp hl with q|q
    ·exact am.1.1 l q
    ·simp at q;subst q;exact q1
   ·intro l hl;rcases K0i.mp hl with q|q
    ·exact am.1.2.1 l q
    ·simp at q;subst q;exact q2
   ·intro l hl;rcases K0i.mp hl with q|q
    ·exact am.1.2.2 l q
    ·simp at q;subst q;exact q3.1
   ·intro l hl;rcases K0i.mp hl with q|q
    ·exact am.2 l q
    ·simp at q;subst q;exact q3.2
  ·rintro γ h6 ⟨st,mk,w,rfl,p6,l1,l2,am⟩;exact⟨st,mk,w,rfl,p6.up .(0),l1,l2,am⟩
 ·rintro γ h6 ⟨st,mk,w,rfl,p6,l1,l2,am⟩;refine zZ2 (λd h1=>d=maD st mk/\h1=h6) ?_ ?_
  ·simp only[K5,K1,K02,K08,K0h,z05,Z7,Y7,W_pure,z7,aNil,Z6,eTup,eVar];refine z83 (i:=0) p6 rfl ?_;refine z83 (i:=1) p6 rfl ?_;rw[if_pos .(1)];exact⟨rfl,rfl⟩
  rintro _ _ ⟨rfl,rfl⟩;refine⟨_,_,p6,?_,λh2 q2=>z st mk h2 ⟨by omega,by omega,by omega,am.1.1,by rw[l1];exact am.1.2.1,am.1.2.2⟩ .(0) am.2 q2⟩;unfold maD stsD mksD;simp only[Y1,J6,K59,K0c];exact⟨z09 λa=>z5b a,z09 λa=>by simp only[Y1];exact z2D _⟩
def x4 (cs:List (Nat×D)):List D:=cs.map λc=>.tup [.int (c.1:Nat),c.2]
theorem z2J:(x4 cs).length=cs.length:=by unfold x4;simp
theorem z3b (cs:List (Nat×D)) (k:Nat) (y:D):x4 cs++[.tup .(w)]=x4 (cs++[(k,y)]):=by unfold x4;simp
theorem Z0v (e:me γ h=.ok (.ref i) h1) (q:h1[i]?=.(l xs)):orE (z0c me) (v8 me) γ h=.ok (.lst i xs) h1:=by
 rw[or_r]
 ·exact z86 e q
 ·unfold z0c;rw[M.bind_ok e];rfl
theorem zh4 {j:Nat}(e1:h[i]?=.(l xs)) (e2':h[j]?=.(l ys)) (hl:xs.length+ys.length<=100000):fAdd (.ref i) (.ref j) h=.ok .(u) (h++[.lst (xs++ys)]):=by
 have g1:getL i h=.ok xs h:=by unfold getL;rw[e1]
 have g2:getL j h=.ok ys h:=by unfold getL;rw[e2']
 rw[zy1,M.bind_ok g1,M.bind_ok g2];exact zi8 (by simp;omega)
def Keep (c:Nat) (L:AH) (ks:List (Nat×O)):Prop:=∀z∈ks,L[z.1]?=some z.2/\z.1≠c
theorem Keep.app (K:Keep c L ks) (j:AH):Keep c (L++j) ks:=λz hz=>⟨J7 (K z hz).1,(K z hz).2⟩
theorem Keep.put (K:Keep c L ks) (o:O):Keep c (L.set c o) ks:=λz hz=>⟨by rw[K1l λe=>(K z hz).2 e.symm];exact(K z hz).1,(K z hz).2⟩
theorem Keep.cons {c a:Nat}{o:O}{L:AH}{ks:List (Nat×O)}(K:Keep c L ks) (e:L[a]?=some o) (n:a≠c):Keep c L ((a,o)::ks):=λz hz=>by
 rcases K12.mp hz with rfl|hz
 ·exact⟨e,n⟩
 ·exact K z hz
theorem Keep.tail {z:Nat×O}(K:Keep c L (z::ks)):Keep c L ks:=λy hy=>K y (K0s _ hy)
theorem z62 (h:c<L.length):(L.set c o)[c]?=some o:=K1g h
section
variable {bl:Bl}
def bysD (ns:List Str) (n:Nat) (bl:Bl):List D:=ns.map .str++stD (setN (hmB n bl))
theorem zT6 (pb:PB n bl) (hg:NS ns) (h:y∈bysD ns n bl):ByG bl y:=by
 rcases K0i.mp h with q|q
 ·obtain⟨s,hs,rfl⟩:=K07.mp q;refine .inl ⟨s,λe=>?_,rfl⟩;have:=(hg.2 s hs).1;rw[e]at this;exact absurd this .(1)
 ·obtain⟨k,hk,rfl⟩:=z8e q;rw[z2h pb,sortN_mem]at hk;exact .inr ⟨k,rfl,hk⟩
theorem zI8 {kk:Nat}{w4 w5 w8:Option D}{k:Int}{X:List (Nat×D)}{Q:Out->AH->Prop}(ma:MA st mk) (pb:PB st.length bl) (hg:NS ns) (hn:ns.length<=8) (p:PS h k (r++L)) (ei:r[i]?=.(l (ns.map .str))) (K:Keep c L ks) (ka:(a,O.lst (stD (hmB st.length bl)))∈ks) (ec:L[c]?=.(l (x4 X))) (lx:X.length<10000)
 (z:∀L' X' w8' h',PS h' k (r++L')->Keep c L' ks->L'[c]?=.(l (x4 X'))->X'.length<=X.length+48->(∀q∈X',q∈X\/(q.1=kk/\q.2∈bysD ns .(7) bl/\Cut bl kk (bel st mk bl q.2)))->(∀q∈X,q∈X')->(∀y∈bysD ns .(7) bl,Cut bl kk (bel st mk bl y)->(kk,y)∈X') ->
  Q (.nx [.(r 2),some .(9),.(r (i+3)),.(r (.(k)+a+3)),w4,w5,.(r (.(k)+c+3)),.(i (kk:Nat)),w8']) h') :
 W (sFor (orE (z0c (FT.e2 fAdd (eVar 2) .(s))) (v8 (FT.e2 fAdd (eVar 2) .(s)))) (gN 8) (Z0 (sIf (λγ=>do let d <- FT.e2 (fIs true) (eFn 4 Y3 (z7 .(l) (z7 (eVar 3) (z7 (eVar 7) (z7 (eVar 8) aNil))))) (λ_=>pure .non) γ;asB d) (Z0 (z15 (eM1 J2 (eVar 6) (eTup (z7 (eVar 7) (z7 (eVar 8) aNil))))) bNil) bNil) bNil)
  [.(r 2),some .(9),.(r (i+3)),.(r (.(k)+a+3)),w4,w5,.(r (.(k)+c+3)),.(i (kk:Nat)),w8]) h Q:=by
 have l2:=ma.l2;have pl:=pb.len;have hd:(setN (hmB .(7) bl)).length<=40:=by rw[z2h pb,Y5,K03];omega
 obtain⟨Y,hY⟩:∃Y,Y=bysD ns .(7) bl:=⟨_,rfl⟩;have lY:Y.length<=48:=by rw[hY];unfold bysD;rw[K04,K03,j8];omega
 have ea:h[.(k)+a+3]?=.(l ((stD (hmB .(7) bl)))):=by rw[p.get,at_E];exact(K _ ka).1
 have cl:c<L.length:=(K3.mp ec).1;rw[<- hY]at z;obtain⟨J,hJ⟩:∃J:AH,J=[.set (kN (dedN (hmB .(7) bl))),.lst (stD (setN (hmB .(7) bl))),.lst Y]:=⟨_,rfl⟩;have src:orE (z0c (FT.e2 fAdd (eVar 2) .(s))) (v8 (FT.e2 fAdd (eVar 2) .(s))) [.(r 2),some .(9),.(r (i+3)),.(r (.(k)+a+3)),w4,w5,.(r (.(k)+c+3)),.(i (kk:Nat)),w8] h=.ok (.lst (.(k)+(L.length+2)+3) Y) (h++J):=by
  have s1:=ss_h (me:=eVar 3) (γ:=[.(r 2),some .(9),.(r (i+3)),.(r (.(k)+a+3)),w4,w5,.(r (.(k)+c+3)),.(i (kk:Nat)),w8]) .(d) ea (by rw[z0E];omega) .(0);have hl:=p.len;rw[K04]at hl;refine Z0v (h1:=h++J) ?_ (by rw[show r.length+(L.length+2)+3=h.length+2 by omega,hJ];simp);rw[show r.length+(L.length+2)+3=(h++[O.set (kN (dedN (hmB st.length bl))),O.lst (stD (setN (hmB st.length bl)))]).length by simp;omega,show h++J=h++[O.set (kN (dedN (hmB st.length bl))),O.lst (stD (setN (hmB st.length bl)))]++[.lst Y] by rw[hJ];simp];refine e2_h .(d) s1 ?_;rw[hY];exact zh4 (by rw[J7 (by rw[p.get];exact J7 ei)]) .(f) (by rw[K03,j8];omega)
 have pJ:=p.app J;rw[K06]at pJ;have LJ:(L++J)[L.length+2]?=.(l Y):=by rw[hJ];simp
 refine z1v (λm γ h'=>∃L' X' w8',γ=[.(r 2),some .(9),.(r (i+3)),.(r (.(k)+a+3)),w4,w5,.(r (.(k)+c+3)),.(i (kk:Nat)),w8']/\PS h' k (r++L')/\Keep c L' ((L.length+2,.lst Y)::ks)/\L'[c]?=.(l (x4 X'))/\X'.length<=X.length+m/\(∀q∈X',q∈X\/(q.1=kk/\q.2∈Y/\Cut bl kk (bel st mk bl q.2)))/\(∀q∈X,q∈X')/\(∀y∈Y.take m,Cut bl kk (bel st mk bl y)->(kk,y)∈X')) (λ_ _=>False) ?_;refine W_of src ?_;refine⟨⟨_,X,w8,rfl,pJ,(K.app J).cons LJ .(0),J7 ec,by omega,λq hq=>.inl hq,λq hq=>hq,by simp⟩,?_,?_,?_,λ_ _ q=>q.elim⟩
 ·rintro m γ h' ⟨L',X',w8',rfl,p',K',_⟩;show h'[.(k)+(L.length+2)+3]?=_;rw[p'.get,at_E];exact(K' _ (K10 ..)).1
 ·rintro m y γ h' hd' ⟨L',X',w8',rfl,p',K',ec',lx',s1,s2,s3⟩;have hd':Y[m]?=some y:=hd';have hm:m<48:=by have:=(K3.mp hd').1;omega
  have tk:Y.take (m+1)=Y.take m++[y]:=by rw[K6a,hd'];rfl
  have bg:ByG bl y:=zT6 pb hg (by rw[<- hY];exact K0j hd');have ea':h'[.(k)+a+3]?=.(l ((stD (hmB .(7) bl)))):=by rw[p'.get,at_E];exact(K' _ (K0s _ ka)).1
  have cl':c<L'.length:=(K3.mp ec').1;refine W_eq (v:=[.(r 2),some .(9),.(r (i+3)),.(r (.(k)+a+3)),w4,w5,.(r (.(k)+c+3)),.(i (kk:Nat)),some y]) rfl ?_;have ar:z7 .(l) (z7 (eVar 3) (z7 (eVar 7) (z7 (eVar 8) aNil))) [.(r 2),some .(9),.(r (i+3)),.(r (.(k)+a+3)),w4,w5,.(r (.(k)+c+3)),.(i (kk:Nat)),some y] h'=.ok [maD st mk,.ref (.(k)+a+3),.int (kk:Nat),y] h':=ac_h .(d) (ac_h .(d) (ac_h .(d) (ac_h .(d) rfl)));by_cases ct:Cut bl kk (bel st mk bl y)
  ·refine zB2 true (cb_h (e2_h (fn_h ar rfl (z3P ma pb bg ct ea')) (y:=.non) rfl rfl)) ?_;rw[if_pos rfl];have p2:=p'.app [.lst (stD (hmB .(7) (cutB bl kk (bel st mk bl y))))];rw[K06]at p2;refine z06 (z52 (i:=c) rfl p2 (J7 ec') (by rw[z2J];omega) (λv k'=>v=.tup [.int (kk:Nat),y]/\k'=k) ?_ ?_)
   ·exact W_of (z1W .(d) .(d)) ⟨_,p2,rfl,rfl⟩
   rintro _ _ h2 ⟨rfl,rfl⟩ p3;rw[z3b]at p3;refine z07 (z0f ⟨_,X'++[(kk,y)],_,rfl,p3,(K'.app _).put _,z62 (by rw[K04];omega),by rw[K04,K1c];omega,λq hq=>?_,λq hq=>K1k _ (s2 q hq),λy' hy' c'=>?_⟩)
   ·rcases K0i.mp hq with q1|q1
    ·exact s1 q q1
    ·rw[K1n]at q1;subst q1;exact .inr ⟨rfl,K0j hd',ct⟩
   ·rw[tk]at hy';rcases K0i.mp hy' with q1|q1
    ·exact K1k _ (s3 y' q1 c')
    ·rw[K1n]at q1;subst q1;simp
  ·refine zB2 false (cb_h (e2_h (fn_h ar rfl (z6P ma pb bg ct ea')) (y:=.non) rfl rfl)) ?_;rw[if_neg .(1)];refine z07 (z0f ⟨L',X',_,rfl,p',K',ec',by omega,s1,s2,λy' hy' c'=>?_⟩);rw[tk]at hy';rcases K0i.mp hy' with q1|q1
   ·exact s3 y' q1 c'
   ·rw[K1n]at q1;subst q1;exact absurd c' ct
 ·rintro γ h' ⟨L',X',w8',rfl,p',K',ec',lx',s1,s2,s3⟩;have e:(Src.lst (.(k)+(L.length+2)+3) Y).items.length=Y.length:=rfl;rw[e]at lx' s3;rw[K1w]at s3;exact z L' X' w8' h' p' K'.tail ec' .(0) s1 s2 s3
end
section
variable {bl:Bl}
theorem Z0p {w4 w5 w7 w8:Option D}{k:Int}{Q:Out->AH->Prop}(ma:MA st mk) (pb:PB st.length bl) (hg:NS ns) (hn:ns.length<=8) (p:PS h k (r++L)) (ei:r[i]?=.(l (ns.map .str))) (K:Keep c L ks) (ka:(a,O.lst (stD (hmB st.length bl)))∈ks) (ec:L[c]?=.(l (x4 [])))
 (z:∀L' X' w7' w8' h',PS h' k (r++L')->Keep c L' ks->L'[c]?=.(l (x4 X'))->X'.length<=2000->(∀q∈X',q.2∈bysD ns .(7) bl/\Cut bl q.1 (bel st mk bl q.2))->(∀kk∈bl.map (·.1),∀y∈bysD ns .(7) bl,Cut bl kk (bel st mk bl y)->(kk,y)∈X') ->
  Q (.nx [.(r 2),some .(9),.(r (i+3)),.(r (.(k)+a+3)),w4,w5,.(r (.(k)+c+3)),w7',w8']) h') :
 W (sFor (v8 .(s)) (gN 7) (Z0 (sFor (orE (z0c (FT.e2 fAdd (eVar 2) .(s))) (v8 (FT.e2 fAdd (eVar 2) .(s)))) (gN 8) (Z0 (sIf (λγ=>do let d <- FT.e2 (fIs true) (eFn 4 Y3 (z7 .(l) (z7 (eVar 3) (z7 (eVar 7) (z7 (eVar 8) aNil))))) (λ_=>pure .non) γ;asB d) (Z0 (z15 (eM1 J2 (eVar 6) (eTup (z7 (eVar 7) (z7 (eVar 8) aNil))))) bNil) bNil) bNil)) bNil)
  [.(r 2),some .(9),.(r (i+3)),.(r (.(k)+a+3)),w4,w5,.(r (.(k)+c+3)),w7,w8]) h Q:=by
 have l2:=ma.l2;have pl:=pb.len;have hd:(setN (hmB .(7) bl)).length<=40:=by rw[z2h pb,Y5,K03];omega
 obtain⟨S,hS⟩:∃S,S=setN (hmB .(7) bl):=⟨_,rfl⟩;have mS:∀x,x∈S↔x∈bl.map (·.1):=λx=>by rw[hS,z2h pb,sortN_mem]
 have ea:h[.(k)+a+3]?=.(l ((stD (hmB .(7) bl)))):=by rw[p.get,at_E];exact(K _ ka).1
 have cl:c<L.length:=(K3.mp ec).1;obtain⟨J,hJ⟩:∃J:AH,J=[.set (kN (dedN (hmB .(7) bl))),.lst (stD S)]:=⟨_,rfl⟩;have hl:=p.len;rw[K04]at hl;have s1:=ss_h (me:=eVar 3) (γ:=[.(r 2),some .(9),.(r (i+3)),.(r (.(k)+a+3)),w4,w5,.(r (.(k)+c+3)),w7,w8]) .(d) ea (by rw[z0E];omega) .(0);rw[<- hS,<- hJ,show h.length+1=.(k)+(L.length+1)+3 by omega]at s1;have src:=z86 s1 (xs:=stD S) (by rw[show r.length+(L.length+1)+3=h.length+1 by omega,hJ];simp);have pJ:=p.app J;rw[K06]at pJ;have LJ:(L++J)[L.length+1]?=.(l (stD S)):=by rw[hJ];simp
 rw[<- hS]at hd;refine z1v (λm γ h'=>∃L' X' w7' w8',γ=[.(r 2),some .(9),.(r (i+3)),.(r (.(k)+a+3)),w4,w5,.(r (.(k)+c+3)),w7',w8']/\PS h' k (r++L')/\Keep c L' ((L.length+1,.lst (stD S))::ks)/\L'[c]?=.(l (x4 X'))/\X'.length<=48 * m/\(∀q∈X',q.2∈bysD ns .(7) bl/\Cut bl q.1 (bel st mk bl q.2))/\(∀kk∈S.take m,∀y∈bysD ns .(7) bl,Cut bl kk (bel st mk bl y)->(kk,y)∈X')) (λ_ _=>False) ?_;refine W_of src ?_;refine⟨⟨_,[],w7,w8,rfl,pJ,(K.app J).cons LJ .(0),J7 ec,by simp,by simp,by simp⟩,?_,?_,?_,λ_ _ q=>q.elim⟩
 ·rintro m γ h' ⟨L',X',w7',w8',rfl,p',K',_⟩;show h'[.(k)+(L.length+1)+3]?=_;rw[p'.get,at_E];exact(K' _ (K10 ..)).1
 ·rintro m d γ h' hd' ⟨L',X',w7',w8',rfl,p',K',ec',lx',s1,s2⟩;obtain⟨kk,rfl,ek⟩:=z3c (show (stD S)[m]?=some d from hd');have hm:m<40:=by have:=(K3.mp ek).1;omega
  have tk:S.take (m+1)=S.take m++[kk]:=by rw[K6a,ek];rfl
  refine W_eq (v:=[.(r 2),some .(9),.(r (i+3)),.(r (.(k)+a+3)),w4,w5,.(r (.(k)+c+3)),.(i (kk:Nat)),w8']) rfl ?_;refine z2o (λγ h'=>∃L' X' w8',γ=[.(r 2),some .(9),.(r (i+3)),.(r (.(k)+a+3)),w4,w5,.(r (.(k)+c+3)),.(i (kk:Nat)),w8']/\PS h' k (r++L')/\Keep c L' ((L.length+1,.lst (stD S))::ks)/\L'[c]?=.(l (x4 X'))/\X'.length<=48 * (m+1)/\(∀q∈X',q.2∈bysD ns .(7) bl/\Cut bl q.1 (bel st mk bl q.2))/\(∀kk∈S.take (m+1),∀y∈bysD ns .(7) bl,Cut bl kk (bel st mk bl y)->(kk,y)∈X')) ?_ ?_
  ·refine zI8 ma pb hg hn p' ei K' (K0s _ ka) ec' .(0) λL2 X2 w82 h2 p2 K2 ec2 lx2 t1 t2 t3=>⟨L2,X2,w82,rfl,p2,K2,ec2,by omega,λq hq=>?_,λk' hk' y hy c'=>?_⟩
   ·rcases t1 q hq with q1|⟨q1,q2,q3⟩
    ·exact s1 q q1
    ·rw[q1];exact⟨q2,q3⟩
   ·rw[tk]at hk';rcases K0i.mp hk' with q1|q1
    ·exact t2 _ (s2 k' q1 y hy c')
    ·rw[K1n]at q1;subst q1;exact t3 y hy c'
  rintro _ _ ⟨L2,X2,w82,rfl,p2,K2,ec2,lx2,t1,t2⟩;exact z0f ⟨L2,X2,_,_,rfl,p2,K2,ec2,by omega,t1,t2⟩
 ·rintro γ h' ⟨L',X',w7',w8',rfl,p',K',ec',lx',s1,s2⟩;rw[show (Src.lst (.(k)+(L.length+1)+3) (stD S)).items.length=S.length from j8 S]at lx' s2;rw[K1w]at s2;exact z L' X' w7' w8' h' p' K'.tail ec' .(0) s1 λkk hk=>s2 kk ((mS kk).mpr hk)
theorem za9 (g:z9m s):z3H s=true:=by
 obtain⟨g1,g2,g3,g4⟩:=g;unfold z3H lowB;rw[.(g) g1,.(g) g2,.(m) (show ¬ s∈wordsL from g4),K1m.mpr λc hc=>by rw[.(g) (g3 c hc).1,.(g) (g3 c hc).2];rfl];rfl
def z6l (n:Nat) (ns:List Str) (q:Nat×D):Prop:=q.1<n/\((∃s∈ns,q.2=.str s)\/∃x:Nat,x<n/\q.2=.int (x:Nat))
theorem Z00 (pb:PB n bl) (h:y∈bysD ns n bl):(∃s∈ns,y=.str s)\/∃x:Nat,x<n/\y=.int (x:Nat):=by
 rcases K0i.mp h with q|q
 ·obtain⟨s,hs,rfl⟩:=K07.mp q;exact .inl ⟨s,hs,rfl⟩
 ·obtain⟨k,hk,rfl⟩:=z8e q;rw[z2h pb,sortN_mem]at hk;exact .inr ⟨k,pb.klt hk,rfl⟩
theorem zT2 {k:Nat}(pb:PB n bl) (hg:NS ns) (h:y∈bysD ns n bl) (hk:k∈bl.map (·.1)):cutC bl (.tup .(w))=true:=by
 show (true&&(keyB bl (.int (k:Nat))&&byB bl y))=true;rw[z3q,.(g) hk,K21,K21];unfold byB;rcases K0i.mp h with q|q
 ·obtain⟨s,hs,rfl⟩:=K07.mp q;rw[show nmB (.str s)=z3H s from rfl,za9 (hg.2 s hs)];rfl
 ·obtain⟨x,hx,rfl⟩:=z8e q;rw[z2h pb,sortN_mem]at hx;rw[z3q,.(g) hx];show (nmB _||(true&&true))=true;rw[K59,Bool.or_true]
theorem zJ3 (pb:PB n bl) (sub:∀x,∀s∈mkAt mk x,s∈ns) (h:∀kk∈bl.map (·.1),∀y∈bysD ns n bl,¬ Cut bl kk (bel st mk bl y)):Done st mk bl:=λp hp d hd=>by
 refine h p.1 (K07.mpr ⟨p,hp,rfl⟩) d ?_;unfold bysD;rcases hd with ⟨x,_,s,hs,rfl⟩|⟨k,rfl,hk⟩
 ·exact K1k _ (K07.mpr ⟨s,sub x s hs,rfl⟩)
 ·refine K0t _ (K07.mpr ⟨k,?_,rfl⟩);rw[z2h pb,sortN_mem];exact hk
theorem Z1e {k:Nat}(pb:PB n bl) (hg:NS ns) (dn:Done st mk bl) (h:y∈bysD ns n bl) (hk:k∈bl.map (·.1)):¬ Cut bl k (bel st mk bl y):=λct=>by
 have hp:=pb.of_key hk;refine dn _ hp y ?_ ct;rcases K0i.mp h with q|q
 ·obtain⟨s,hs,rfl⟩:=K07.mp q;obtain⟨x,hx⟩:=List.exists_mem_of_ne_nil _ ct.hy;obtain⟨hx,e⟩:=K0p.mp hx;refine .inl ⟨x,hx,s,?_,rfl⟩;rw[zb9 (λe=>by have:=(hg.2 s hs).1;rw[e]at this;exact absurd this .(1))]at e;exact of_decide_eq_true e
 ·obtain⟨x,hx,rfl⟩:=z8e q;rw[z2h pb,sortN_mem]at hx;exact .inr ⟨x,rfl,hx⟩
theorem zd9 (h:∀q∈cs,Y1 n q.2=true):J6 n (x4 cs)=true:=by
 induction cs with
 | nil=>rfl
 | cons q cs ih =>
  show (Y1 n (.tup [.int (q.1:Nat),q.2])&&J6 n (x4 cs))=true;rw[ih λx hx=>h x (K0s _ hx),K59];simp only[Y1,J6,K59,K21];exact h q (K10 ..)
theorem z91 (xs:List D) (d:D):atI (xs++[d]) (-1)=some d:=by
 unfold atI ixN;simp;rw[if_pos .(0),show (-1+((xs.length:Int)+1)).toNat=xs.length by omega];simp
theorem zX5 {k:Int}{Q:D->AH->Prop}(ma:MA st mk) (l20:st.length<=20) (hg:NS ns) (hn:ns.length<=8) (sub:∀x,∀s∈mkAt mk x,s∈ns) (p:PS h k r) (cr:CL r) (hk:k<700000) (ei:r[i]?=.(l (ns.map .str)))
 (z:∀bl cs h',PB .(7) bl->Done st mk bl->endB st mk [(0,K9 .(7))] (x4 cs)=some bl->cs.length<=.(7)->(∀q∈cs,z6l .(7) ns q)->PS h' (k+20) r->Q (.tup [.tup (stD (rowB .(7) bl)),.tup (x4 cs)]) h') :
 W (z1d [.ref 2,maD st mk,.ref (i+3)]) h Q:=by
 have l1:=ma.l1;have l2:=ma.l2;have l3:=ma.l3;have pb0:PB .(7) [(0,K9 .(7))]:=z2R .(0);have hl:=p.len;refine zh5 p cr (z2n ?_);show W (z0A [.(r 2),some .(9),.(r (i+3)),none,none,none,none,none,none]) h _;unfold z0A z2d;have c0:x5 [none] (orE (z0c (FT.e2 fIx .(l) .(3))) (v8 (FT.e2 fIx .(l) .(3)))) (gN 0) (λ_=>pure true) .(3) [.(r 2),some .(9),.(r (i+3)),none,none,none,none,none,none] h=.ok .(u) (h++[.lst (stD (hmB .(7) [(0,K9 .(7))]))]):=by
  refine(z28 (src:=.con (stsD st)) (λ_=>true) (λ_=>.int ((0:Nat):Int)) (zB8 (e2_h .(d) (y:=.int 0) rfl (by rw[z2j];rfl))) (λ_=>trivial) (by show (stsD st).length<=_;rw[z1A];omega) λd hd=>⟨[some d],λh=>rfl,λj=>rfl,λ_ j=>rfl⟩).trans ?_;rw[filter_tt,z8s .(0)];show Res.ok _ (h++[O.lst ((stsD st).map λ_=>D.int ((0:Nat):Int))])=_;rw[Z32,z1A];unfold stD;rw[Z1t]
 have p1:=p.app [.lst (stD (hmB .(7) [(0,K9 .(7))]))];refine Y4 (.ref (.(k)+0+3)) [.(r 2),some .(9),.(r (i+3)),.(r (.(k)+0+3)),none,none,none,none,none] (by rw[show .(k)+0+3=h.length by omega];exact c0) rfl ?_;refine z10 (λd h1=>d=.ref (.(k)+1+3)/\PS h1 k (r++[.lst (stD (hmB .(7) [(0,K9 .(7))])),.lst (x4 [])])) ?_ ?_
 ·simp only[Z7,W_pure,aNil,eLst];exact z0M p1 .(1) λh3 p3=>⟨by simp,by rw[K06]at p3;exact p3⟩
 rintro _ h1 ⟨rfl,p1⟩;refine z2o (λγ h'=>∃bl cs a L w5 w6 w7 w8,γ=[.(r 2),some .(9),.(r (i+3)),.(r (.(k)+a+3)),.(r (.(k)+1+3)),w5,w6,w7,w8]/\PS h' (k+.(7)) (r++L)/\L[a]?=.(l ((stD (hmB .(7) bl))))/\L[1]?=.(l (x4 cs))/\PB .(7) bl/\endB st mk [(0,K9 .(7))] (x4 cs)=some bl/\cs.length+1=bl.length/\(∀q∈cs,z6l .(7) ns q)/\Done st mk bl) ?_ ?_
 ·refine z0i (λc γ h'=>∃bl cs a L w5 w6 w7 w8,γ=[.(r 2),some .(9),.(r (i+3)),.(r (.(k)+a+3)),.(r (.(k)+1+3)),w5,w6,w7,w8]/\PS h' (k+c) (r++L)/\L[a]?=.(l ((stD (hmB .(7) bl))))/\L[1]?=.(l (x4 cs))/\PB .(7) bl/\endB st mk [(0,K9 .(7))] (x4 cs)=some bl/\cs.length+1=bl.length/\(∀q∈cs,z6l .(7) ns q)/\(Done st mk bl\/c<bl.length)/\a≠1) (λ_ _=>False) ?_;have e0:h1[r.length+0+3]?=.(l ((stD (hmB st.length [(0,K9 st.length)])))):=by rw[p1.get];simp
  refine W_of (v:=.int (st.length:Nat)) (j9 .(d) (by rw[z4H e0,j8,z0E])) ?_;refine⟨st.length,rfl,by omega,⟨_,[],0,_,none,none,none,none,rfl,by simpa using p1,rfl,rfl,pb0,rfl,rfl,by simp,.inr .(f),by omega⟩,?_,?_,λ_ _ q=>q.elim⟩
  ·rintro c γ h2 hc ⟨bl,cs,a,L,w5,w6,w7,w8,rfl,p2,ea,ec,pb,en,ln,ok,dn,a1⟩;have pl:=pb.len;have la:a<L.length:=(K3.mp ea).1;have lc:1<L.length:=(K3.mp ec).1;show W (Z0 _ _ [.(r 2),some .(9),.(r (i+3)),.(r (.(k)+a+3)),.(r (.(k)+1+3)),.(i (c:Nat)),w6,w7,w8]) _ _;refine z10 (λd h1=>d=.ref (.(k)+L.length+3)/\PS h1 (k+c) (r++(L++[.lst (x4 [])]))) ?_ ?_
   ·simp only[Z7,W_pure,aNil,eLst];exact zy2 p2 .(1) λh3 p3=>⟨rfl,p3⟩
   rintro _ h3 ⟨rfl,p3⟩;have K:Keep L.length (L++[.lst (x4 [])]) [(a,.lst (stD (hmB .(7) bl))),(1,.lst (x4 cs))]:=λz hz=>by
    simp only[K12,K3k,or_false]at hz;rcases hz with rfl|rfl
    ·exact⟨J7 ea,by show a≠L.length;omega⟩
    ·exact⟨J7 ec,by show 1≠L.length;omega⟩
   refine z2o (λγ h'=>∃L' X w7 w8,γ=[.(r 2),some .(9),.(r (i+3)),.(r (.(k)+a+3)),.(r (.(k)+1+3)),.(i (c:Nat)),.(r (.(k)+L.length+3)),w7,w8]/\PS h' (k+c) (r++L')/\Keep L.length L' [(a,.lst (stD (hmB .(7) bl))),(1,.lst (x4 cs))]/\L'[L.length]?=.(l (x4 X))/\X.length<=2000/\(∀q∈X,q.2∈bysD ns .(7) bl/\Cut bl q.1 (bel st mk bl q.2))/\(∀kk∈bl.map (·.1),∀y∈bysD ns .(7) bl,Cut bl kk (bel st mk bl y)->(kk,y)∈X)) ?_ ?_
   ·exact Z0p ma pb hg hn p3 ei K (K10 ..) z0T λL' X' w7' w8' h' p' K' ec' lx t1 t2=>⟨L',X',w7',w8',rfl,p',K',ec',lx,t1,t2⟩
   rintro _ h4 ⟨L',X,w7',w8',rfl,p4,K4,eX,lX,t1,t2⟩;have ea4:=(K4 _ (K10 ..)).1;have ec4:=(K4 (1,.lst (x4 cs)) .(f)).1;have hX:h4[.(k)+L.length+3]?=.(l (x4 X)):=by rw[p4.get,at_E];exact eX
   refine z0b (decide (0<X.length)) (cb_h (e2_h (j9 .(d) (z4H hX)) (y:=.int 0) rfl (by
    rw[z42,z2J];show Res.ok (D.bl (decide ((X.length:Int) > 0))) _=_;rw[show decide ((X.length:Int) > 0)=decide (0<X.length) from decide_eq_decide.mpr .(0)]))) ?_
   by_cases x0:0<X.length
   ·rw[.(g) x0,if_pos rfl];refine z06 (z52 (i:=1) rfl p4 ec4 (by rw[z2J];omega) (λv k'=>∃q∈X,v=.tup [.int (q.1:Nat),q.2]/\k'=k+c+1) ?_ ?_)
    ·simp only[K5,K1,K02,K08,K0h,z05,Z7,Y7,W_pure,z7,aNil,e2,Z6,eFn,eVar,if_true];refine zg2 p4 eX ?_;rw[z2J];refine z04 p4 .(0) .(0) .(0) λt h5 t0 t1' p5=>?_;obtain⟨t,rfl⟩:=K0v t0;have tl:t<X.length:=by omega
     refine Z0o p5 eX (z1x (j:=t) (by unfold x4;rw[K0k,K00 tl];rfl)) ?_;exact⟨_,p5,X[t],K3l _,rfl,rfl⟩
    rintro _ _ h5 ⟨⟨kk,y⟩,hq,rfl,rfl⟩ p5;rw[z3b]at p5;obtain⟨yb,ct⟩:=t1 _ hq;have yb:y∈bysD ns .(7) bl:=yb;have ct:Cut bl kk (bel st mk bl y):=ct;have bg:=zT6 pb hg yb;have lc4:1<L'.length:=(K3.mp ec4).1;have la4:a<L'.length:=(K3.mp ea4).1;have ec5:h5[.(k)+1+3]?=.(l ((x4 (cs++[(kk,y)])))):=by rw[p5.get,at_E];exact z62 lc4
    have ea5:h5[.(k)+a+3]?=.(l ((stD (hmB .(7) bl)))):=by rw[p5.get,at_E,K1l .(0)];exact ea4
    have lst_:atI (x4 (cs++[(kk,y)])) (-1)=.(g [.int (kk:Nat),y]):=by
     rw[<- z3b];exact z91 _ _
    have il:FT.e2 fIx (eVar 4) (eNeg .(4)) [.(r 2),some .(9),.(r (i+3)),.(r (.(k)+a+3)),.(r (.(k)+1+3)),.(i (c:Nat)),.(r (.(k)+L.length+3)),w7',w8'] h5=.ok (.tup [.int (kk:Nat),y]) h5:=e2_h .(d) (y:=.int (-1)) rfl (ix_h ec5 lst_);refine z06 (Y4 (.ref h5.length) [.(r 2),some .(9),.(r (i+3)),.(r h5.length),.(r (.(k)+1+3)),.(i (c:Nat)),.(r (.(k)+L.length+3)),w7',w8'] (fn_h (ds:=[maD st mk,.ref (.(k)+a+3),.int (kk:Nat),y]) (ac_h .(d) (ac_h .(d) (ac_h (e2_h il (y:=.int 0) rfl rfl) (ac_h (e2_h il (y:=.int 1) rfl rfl) rfl)))) rfl (z3P ma pb bg ct ea5)) rfl ?_);have p6:=p5.app [.lst (stD (hmB .(7) (cutB bl kk (bel st mk bl y))))];rw[K06]at p6;have l5:=p5.len;rw[K04,K5h]at l5;refine z07 (z07 (z0f ⟨cutB bl kk (bel st mk bl y),cs++[(kk,y)],L'.length,L'.set 1 (.lst (x4 (cs++[(kk,y)])))++[.lst (stD (hmB .(7) (cutB bl kk (bel st mk bl y))))],.(i (c:Nat)),.(r (.(k)+L.length+3)),w7',w8',?_,p6.up .(0),?_,?_,z6W pb ct,?_,?_,?_,.inr ?_,by omega⟩))
    ·rw[show h5.length=.(k)+L'.length+3 by omega]
    ·rw[K1z .(f),K5h,Z23];rfl
    ·exact J7 (z62 lc4)
    ·rw[<- z3b,z5L en,z5r (zT2 pb hg yb ct.hk) ct]
    ·rw[z8m pb ct,K04,K1c,ln]
    ·intro q hq;rcases K0i.mp hq with q1|q1
     ·exact ok q q1
     ·rw[K1n]at q1;subst q1;exact⟨pb.klt ct.hk,Z00 pb yb⟩
    ·rw[z8m pb ct];rcases dn with dn|dn
     ·exact absurd ct (Z1e pb hg dn yb ct.hk)
     ·omega
   ·rw[.(m) x0,if_neg .(1)];have X0:X=[]:=K2h.mp .(0);subst X0;refine z07 (z0f ⟨bl,cs,a,L',_,_,_,_,rfl,p4.up .(0),ea4,ec4,pb,en,ln,ok,.inl (zJ3 pb sub λkk hk y hy ct=>nomatch t2 kk hk y hy ct),a1⟩)
  ·rintro γ h2 ⟨bl,cs,a,L,w5,w6,w7,w8,rfl,p2,ea,ec,pb,en,ln,ok,dn,a1⟩;have pl:=pb.len;exact⟨bl,cs,a,L,w5,w6,w7,w8,rfl,p2,ea,ec,pb,en,ln,ok,dn.elim id λz=>by omega⟩
 rintro _ h2 ⟨bl,cs,a,L,w5,w6,w7,w8,rfl,p2,ea,ec,pb,en,ln,ok,dn⟩;have pl:=pb.len;have ea2:h2[.(k)+a+3]?=.(l ((stD (hmB .(7) bl)))):=by rw[p2.get,at_E];exact ea
 have ec2:h2[.(k)+1+3]?=.(l (x4 cs)):=by rw[p2.get,at_E];exact ec
 have hd:(setN (hmB .(7) bl)).length<64:=by rw[z2h pb,Y5,K03];omega
 refine j3 (.tup [.tup (stD (rowB .(7) bl)),.tup (x4 cs)]) (z1W (fn_h (ds:=[.ref (.(k)+a+3)]) (ac_h .(d) rfl) rfl ((z2L ea2 (by rw[z0E];omega) hd).trans (by rw[z9R pb]))) (j9 .(d) (zh0 ec2))) ⟨_,L,p2,?_,λh3 p3=>z bl cs h3 pb dn en .(0) ok (p3.up .(0))⟩;simp only[Y1,J6,K59,K0c];exact⟨z1O _,zd9 λq hq=>by rcases(ok q hq).2 with ⟨s,_,e⟩|⟨x,_,e⟩<;>rw[e]<;>rfl⟩
end
theorem sl_h {ml mh:G->M (Option Int)}{lo hi:Option Int}(e1:ma γ h=.ok (.tup xs) h) (e2':ml γ h=.ok lo h) (e3:mh γ h=.ok hi h):z01 ma ml mh γ h=.ok (.tup (cutD xs lo hi)) h:=by
 unfold z01;rw[M.bind_ok e1,M.bind_ok e2',M.bind_ok e3];rfl
theorem os_h {i:Int}(e:ma γ h=.ok (.int i) h):z12 ma γ h=.ok (some i) h:=by
 unfold z12;rw[M.bind_ok e];rfl
theorem rv_h (e:ma γ h=.ok (.tup xs) h):eRev ma (eNeg .(4)) γ h=.ok (.tup xs.reverse) h:=by
 unfold eRev;rw[M.bind_ok e];rfl
theorem zV9 {x:D}(e:ma γ h=.ok x h):eTup (z7 ma aNil) γ h=.ok (.tup [x]) h:=by
 have e3:z7 ma aNil γ h=.ok [x] h:=ac_h e rfl;unfold eTup;rw[M.bind_ok e3];rfl
theorem zr9 (e1:ma γ h=.ok (.tup xs) h) (e2':mb γ h=.ok (.tup ys) h) (hl:xs.length+ys.length<=1000000):FT.e2 fAdd ma mb γ h=.ok (.tup (xs++ys)) h:=FT.e2_h e1 e2' (by rw[z6R hl];rfl)
theorem z7F {t c:Int}(e:γ[a]?=some (.(i t))):(λγ=>do let d <- FT.e2 (fEq false) (eVar a) (λ_=>pure (.int c)) γ;asB d:G->M Bool) γ h=.ok (decide (t=c)) h:=cb_h (e2_h (Z2 e) (y:=.int c) rfl (by rw[z7G,K1j];rfl))
theorem z5g {x:D}(hx:Th R B m n x) (hy:Th R B m n y):Th R B (m+1) (2 * n+10) (.tup [x,y]):=Th.tuple (a:=2 * n+6) ⟨n,n+2,hx,Ths.one hy,by omega⟩ .(0)
theorem z5D (h:s.length<=8) (hc:∀c∈s.cps.toList,c<16 ^ 8):Th R B (m+1) 82 (.str s):=by
 have:=PySem.StrLaws.reprText_len s hc;simp only[Th];omega
theorem z8T (g:z9m s):Th R B (m+1) 82 (.str s):=z5D g.2.1 λc hc=>by have:=(g.2.2.1 c hc).2;omega
theorem z58 (hB:40<=B) (h:x<=40):Th R B (m+1) 82 (.int (x:Nat)):=Th.num .(0) .(0) .(0)
theorem zR3 {q:Nat×D}(hB:40<=B) (hn:n<=40) (hg:NS ns) (h:z6l n ns q):Th R B (m+1) 82 q.2:=by
 rcases h.2 with ⟨s,hs,e⟩|⟨x,hx,e⟩
 ·rw[e];exact z8T (hg.2 s hs)
 ·rw[e];exact z58 hB .(0)
theorem zz2 (hB:40<=B) (hn:n<=40) (hg:NS ns) (h:∀q∈cs,z6l n ns q):∀d∈x4 cs,Th R B 2 174 d:=λd hd=>by
 unfold x4 at hd;obtain⟨q,hq,rfl⟩:=K07.mp hd;have:=(h q hq).1;exact z5g (z58 hB .(0)) (zR3 hB hn hg (h q hq))
theorem z4l (h:∀d∈xs,Th R B 2 174 d) (hl:xs.length<=41):Th R B 3 7300 (.tup xs):=Th.tuple (Ths.of h) .(0)
theorem z8L (hB:40<=B) (h:∀x∈l,x<40) (hl:l.length<=40):Th R B 3 7300 (.tup (stD l)):=Th.mono (Kp.refl _) (K01 _) (K01 _) .(0) (zM9 (m:=1) hB h)
section
variable {bl:Bl}
theorem zs0 {cs:List D}{bl1:Bl}(h:endB st mk bl cs=some bl1) (m:Nat):∃b2,endB st mk bl (cs.take m)=some b2:=by
 cases e:endB st mk bl (cs.take m) with
 | some b=>exact⟨b,rfl⟩
 | none =>
  rw[<- K4s m cs]at h;unfold endB at h e;rw[K4v,e,z5G]at h;cases h
theorem zE9 (xs:List D) (hi:Option Int):∃m,cutD xs none hi=xs.take m:=by
 unfold cutD;rw[HT.sIx_none];exact⟨_,rfl⟩
theorem zi7 (h:∀x∈l,x<n):∀x∈numL l,x<=n:=λx hx=>by
 unfold numL at hx;obtain⟨y,hy,rfl⟩:=K07.mp hx;exact K0d List.idxOf_le_length (z5Q h)
theorem zO3 (pb:PB n bl):∀x∈hmB n bl,x<n:=λx hx=>by
 unfold hmB at hx;obtain⟨y,hy,rfl⟩:=K07.mp hx;exact pb.klt (pb.keyin (K0r.mp hy))
theorem zx4 (pb:PB n bl):∀x∈rowB n bl,x<=n:=by rw[<- z9R pb];exact zi7 (zO3 pb)
theorem zh6 {t:Int}{k:Int}{cs:List (Nat×D)}(ma:MA st mk) (l20:st.length<=20) (hg:NS ns) (hn:ns.length<=8) (p:PS h k r) (hk:k<700000) (ei:r[i]?=.(l (ns.map .str)))
 (pb:PB .(7) bl) (en:endB st mk [(0,K9 .(7))] (x4 cs)=some bl) (lc:cs.length<=.(7)) (ok:∀q∈cs,z6l .(7) ns q) :
 W (z1M [.ref 2,.int t,maD st mk,.ref (i+3),.tup [.tup (stD (rowB .(7) bl)),.tup (x4 cs)]]) h λd' h'=>∃j,Th (r++j) (10 ^ 21+5) 6 29330 d'/\PS h' (k+100) (r++j):=by
 have l1:=ma.l1;have pb0:PB .(7) [(0,K9 .(7))]:=z2R .(0);obtain⟨R,hR⟩:∃R,R=D.tup (stD (rowB .(7) bl)):=⟨_,rfl⟩;obtain⟨C,hC⟩:∃C,C=x4 cs:=⟨_,rfl⟩;have lC:C.length=cs.length:=by rw[hC,z2J]
 have thR:∀(r:AH),Th r (10 ^ 21+3) 3 7300 R:=λr=>by
  rw[hR];exact z8L .(1) (λx hx=>by have:=zx4 pb x hx;omega) (by rw[z0U];omega)
 have thC:∀(r:AH),∀d∈C,Th r (10 ^ 21+3) 2 174 d:=λr=>by rw[hC];exact zz2 .(1) .(0) hg ok
 have two:∀(r:AH) (A:D) (xs:List D),Th r (10 ^ 21+3) 3 7300 A->(∀d∈xs,Th r (10 ^ 21+3) 2 174 d)->xs.length<=41->Th r (10 ^ 21+5) 6 29330 (.tup [A,.tup xs]):=λr A xs a b c=>Th.mono (Kp.refl _) .(0) .(0) .(0) (z5g a (z4l b c));have sub:∀(r:AH) (lo hi:Option Int),∀d∈cutD C lo hi,Th r (10 ^ 21+3) 2 174 d:=λr lo hi d hd=>thC r d ((z67 C lo hi).mem hd);rw[<- hR,<- hC];rw[<- hC]at en;obtain⟨G0,hG0⟩:∃G0,G0=D.tup [R,.tup C]:=⟨_,rfl⟩;rw[<- hG0];refine z2n ?_;show W (z17 [.(r 2),.(i t),some .(9),.(r (i+3)),some G0,none,none,none,none,none]) h _;unfold z17;refine Y4 G0 [.(r 2),.(i t),some .(9),.(r (i+3)),some G0,some R,.(g C),none,none,none] .(d) (by rw[hG0];rfl) ?_;refine z10 (λd h1=>∃a:Nat,d=.int (a:Nat)/\a<=C.length/\PS h1 (k+1) r) ?_ ?_
 ·simp only[K5,K1,K02,K08,K0h,z05,Z7,Y7,W_pure,z7,aNil,z1U,e2,Z6,eFn,eVar,if_true,z1z];refine z04 p .(0) .(0) .(0) λa h2 t0 t1 p2=>?_;obtain⟨a,rfl⟩:=K0v t0;exact⟨a,rfl,by omega,p2⟩
 rintro _ h1 ⟨a,rfl,la,p1⟩;refine z10 (λd h1=>∃a:Nat,d=.int (a:Nat)/\a<=C.length/\PS h1 (k+2) r) ?_ ?_
 ·simp only[K5,K1,K02,K08,K0b,K09,K0h,z05,Z7,Y7,W_pure,z7,aNil,z1U,e2,Z6,eFn,eVar,if_true,z1z];refine z04 p1 .(0) .(0) .(0) λa h2 t0 t1 p2=>?_;obtain⟨a,rfl⟩:=K0v t0;exact⟨a,rfl,by omega,p2.up .(0)⟩
 rintro _ h2 ⟨o,rfl,lo,p2⟩;obtain⟨γ,hγ⟩:∃γ:G,γ=[.(r 2),.(i t),some .(9),.(r (i+3)),some G0,some R,.(g C),.(i (a:Nat)),.(i (o:Nat)),none]:=⟨_,rfl⟩;show W (Z0 _ _ [.(r 2),.(i t),some .(9),.(r (i+3)),some G0,some R,.(g C),.(i (a:Nat)),.(i (o:Nat)),none]) _ _;rw[<- hγ];have g0:γ[0]?=some (.(r 2)):=by rw[hγ];rfl
 have g1:γ[1]?=some (.(i t)):=by rw[hγ];rfl
 have g2:γ[2]?=some (some .(9)):=by rw[hγ];rfl
 have g3:γ[3]?=some (.(r (i+3))):=by rw[hγ];rfl
 have g4:γ[4]?=some (some G0):=by rw[hγ];rfl
 have g5:γ[5]?=some (some R):=by rw[hγ];rfl
 have g6:γ[6]?=some (.(g C)):=by rw[hγ];rfl
 have g7:γ[7]?=some (.(i (a:Nat))):=by rw[hγ];rfl
 have g8:γ[8]?=some (.(i (o:Nat))):=by rw[hγ];rfl
 have c1:cAnd (λγ=>do let d <- FT.e2 (fEq false) .(l) .(4) γ;asB d) (λγ=>do let d <- FT.e2 fLt (eVar 7) (eVar 8) γ;asB d) γ h2=.ok (decide (t=1)&&decide (a<o)) h2:=by
  have e1:=z7F (c:=1) (h:=h2) g1;by_cases t1:t=1
  ·rw[.(g) t1]at e1;refine zi4 e1 (cb_h (FT.e2_h (Z2 g7) (Z2 g8) ?_));rw[z7l,.(g) t1,K21];show Res.ok (D.bl (decide ((a:Int)<(o:Nat)))) _=_;rw[show decide ((a:Int)<(o:Nat))=decide (a<o) from decide_eq_decide.mpr .(0)]
  ·rw[.(m) t1]at e1;rw[.(m) t1];exact zc3 e1
 have pre:∀h',z01 (eVar 6) z1c (z12 (eNeg .(4))) γ h'=.ok (.tup (cutD C none (some (-1)))) h':=λh'=>sl_h (Z2 g6) rfl (os_h rfl);have hiA:∀h',z01 (eVar 6) z1c (z12 (eVar 7)) γ h'=.ok (.tup (cutD C none (some (a:Int)))) h':=λh'=>sl_h (Z2 g6) rfl (os_h (Z2 g7));have cl:=zj3 C;refine z0b _ c1 ?_;by_cases b1:t=1/\a<o
 ·rw[.(g) b1.1,.(g) b1.2,if_pos (by rfl)];obtain⟨m,em⟩:=zE9 C (some (-1));obtain⟨b2,e2⟩:=zs0 en m;rw[<- em]at e2;have pb2:PB .(7) b2:=zy0 pb0 e2;have tc:TB 2 h2 (.tup (cutD C none (some (-1)))):=zt1 p2 2 (z4l (sub r _ _) (by have:=cl none (some (-1));omega));have ee:=zl8 ma tc λxs l x e hm=>by
   injection e with e
   have:=sub r none (some (-1)) _ (e ▸ hm);obtain⟨m',a',e1,t2,_⟩:=this.items;obtain⟨c',_,t3⟩:=t2.mem (d:=.str x) .(f);cases m' with
   | zero=>simp only[Th]at t3
   | succ m'=>simp only[Th]at t3;exact t3.2
  rw[show endD st mk (.tup (cutD C none (some (-1))))=some b2 from e2]at ee;have hd:(setN (hmB .(7) b2)).length<64:=by have:=pb2.len;rw[z2h pb2,Y5,K03];omega
  have nn:=z2L (h:=h2++[.lst (stD (hmB .(7) b2))]) (i:=h2.length) (l:=hmB .(7) b2) x6 (by rw[z0E];omega) hd;refine z06 (j3 _ (z1W (fn_h (ds:=[.ref h2.length]) (ac_h (fn_h (ds:=[maD st mk,.tup (cutD C none (some (-1)))]) (ac_h (Z2 g2) (ac_h (pre _) rfl)) rfl ee) rfl) rfl nn) (pre _)) ⟨_,two _ _ _ (z8L .(1) (λx hx=>by have:=zi7 (zO3 pb2) x hx;omega) (by unfold numL;rw[K03,z0E];omega)) (sub _ _ _) (by have:=cl none (some (-1));omega),(p2.app _).up .(0)⟩)
 have d1:(decide (t=1)&&decide (a<o))=false:=by
  rw[K3t,decide_eq_false_iff_not,decide_eq_false_iff_not];by_cases q:t=1
  ·exact .inr λz=>b1 ⟨q,z⟩
  ·exact .inl q
 rw[d1,if_neg .(1)];have done:∀(A:D) (xs:List D),Th r (10 ^ 21+3) 3 7300 A->(∀d∈xs,Th r (10 ^ 21+3) 2 174 d)->xs.length<=41->∃j,Th (r++j) (10 ^ 21+5) 6 29330 (.tup [A,.tup xs])/\PS h2 (k+100) (r++j):=λA xs q1 q2 q3=>⟨[],by rw[K0w];exact two r A xs q1 q2 q3,by rw[K0w];exact p2.up .(0)⟩;refine z07 (z0b _ (z7F g1) ?_);by_cases t1:t=1
 ·rw[.(g) t1,if_pos rfl];exact z06 (j3 _ (z1W (Z2 g5) (pre _)) (done R _ (thR r) (sub r _ _) (by have:=cl none (some (-1));omega)))
 rw[.(m) t1,if_neg .(1)];refine z07 (z0b _ (z7F g1) ?_);by_cases t2:t=2
 ·rw[.(g) t2,if_pos rfl];have s1:=cl none (some (a:Int));have s2:=cl (some (a:Int)) none;exact z06 (j3 _ (z1W (Z2 g5) (zr9 (hiA _) (rv_h (sl_h (lo:=some (a:Int)) (hi:=none) (Z2 g6) (os_h (Z2 g7)) rfl)) (by rw[K3a];omega))) (done R _ (thR r) (λd hd=>by
   rcases K0i.mp hd with q|q
   ·exact sub r _ _ d q
   ·exact sub r _ _ d (List.mem_reverse.mp q)) (by rw[K04,K3a];omega)))
 rw[.(m) t2,if_neg .(1)];refine z07 (z0b _ (z7F g1) ?_);by_cases t3:t=3
 ·rw[.(g) t3,if_pos rfl];have s1:=cl none (some (a:Int));have s2:=cl (some (o:Int)) none;exact z06 (j3 _ (z1W (Z2 g5) (zr9 (hiA _) (sl_h (lo:=some (o:Int)) (hi:=none) (Z2 g6) (os_h (Z2 g8)) rfl) .(0))) (done R _ (thR r) (λd hd=>by
   rcases K0i.mp hd with q|q<;>exact sub r _ _ d q) (by rw[K04];omega)))
 rw[.(m) t3,if_neg .(1)];refine z07 (z0b _ (z7F g1) ?_);by_cases t4:t=4
 ·rw[.(g) t4,if_pos rfl];have cm:W (x5 [some 0,none] (orE (z0c (eVar 5)) (v8 (eVar 5))) (gN 1) (λ_=>pure true) (eFn 2 Z4 (z7 .(h) (z7 (λ_=>pure (.int 3)) aNil))) γ) h2 λd h3=>∃l:List Nat,d=.ref (.(k)+3)/\(∀x∈l,x<3)/\l.length<=40/\PS h3 (k+50) (r++[.lst (stD l)]):=by
   refine z8v (r:=r) (l:=[]) (λc xs k'=>∃l:List Nat,xs=stD l/\(∀x∈l,x<3)/\l.length=c/\k'=k+2+c) ?_;refine W_of (zB8 (xs:=stD (rowB st.length bl)) (by rw[<- hR];exact Z2 g5)) ⟨_,by rw[K0w];exact p2,⟨[],rfl,by simp,rfl,by simp⟩,λ_ _ _ _=>trivial,?_,?_⟩
   ·rintro c d h9 k9 xs' hd ⟨l,rfl,hl,ll,rfl⟩ p9;have hc:c<20:=by
     have:=(K3.mp (show (stD (rowB .(7) bl))[c]?=some d from hd)).1;rw[j8,z0U]at this;omega
    simp only[capG,K0x,K3w,g0];simp only[K1,K02,K08,K0b,K09,K0h,K52,z05,Z7,Y7,W_pure,z7,aNil,eFn,eVar,gN,if_true];refine z04 p9 .(0) .(1) .(1) λu h10 u0 u1 p10=>?_;obtain⟨u,rfl⟩:=K0v u0;refine⟨_,p10,by rw[j8];omega,l++[u],by rw[<- z32],λx hx=>?_,by simp[ll],by omega⟩;rcases K0i.mp hx with q|q
    ·exact hl x q
    ·rw[K1n]at q;omega
   ·rintro h9 xs' k9 ⟨l,rfl,hl,ll,rfl⟩ p9;rw[show (Src.con (stD (rowB .(7) bl))).items.length=.(7) by show (stD _).length=_;rw[j8,z0U]]at ll p9;exact⟨l,rfl,hl,by omega,p9.up .(0)⟩
  obtain⟨_,h3,e3,l,rfl,hl,ll,p3⟩:=cm;have sl3:=z5Q hl;exact z06 (j3 _ (z1W (fn_h (ds:=[.ref (r.length+3)]) (ac_h e3 rfl) rfl (z2L (l:=l) (by rw[p3.get];exact z0T) .(0) .(0))) (Z2 g6)) ⟨_,two _ _ _ (z8L .(1) (λx hx=>by have:=zi7 hl x hx;omega) (by unfold numL;rw[K03];omega)) (thC _) .(0),p3.up .(0)⟩)
 rw[.(m) t4,if_neg .(1)];have c6:cOr (λγ=>do let d <- FT.e2 fGt .(l) (λ_=>pure (.int 6)) γ;asB d) (λγ=>do let d <- FT.e2 (fEqX false) (eVar 7) (Z6 fLen (z7 (eVar 6) aNil)) γ;asB d) γ h2=.ok (decide (6<t)||decide (a=C.length)) h2 :=
  z6n (cb_h (FT.e2_h (Z2 g1) (y:=.int 6) rfl (by rw[z42];rfl))) (cb_h (FT.e2_h (Z2 g7) (j9 (Z2 g6) z8p) (by rw[z2r (z24 (n:=23) _ _),K1j])))
 refine z07 (z0b _ c6 ?_);by_cases b6:(decide (6<t)||decide (a=C.length))=true
 ·rw[b6,if_pos rfl];have thG:Th r (10 ^ 21+3) 4 14610 G0:=by rw[hG0];exact z5g (thR r) (z4l (thC r) .(0))
  obtain⟨d',h',e,j,q1,q2⟩:=z9N 4 3 p2 .(0) thG (K01 _) .(0) .(0);exact z06 (j3 d' (fn_h (ds:=[.ref 2,G0,.int 3]) (ac_h (Z2 g0) (ac_h (Z2 g4) (ac_h (d:=.int 3) (ds:=[]) rfl rfl))) rfl e) ⟨j,Th.mono (Kp.refl _) (K01 _) .(0) (K01 _) q1,q2.up .(0)⟩)
 have b6:(decide (6<t)||decide (a=C.length))=false:=by
  cases e:(decide (6<t)||decide (a=C.length)) with
  | true=>exact absurd e b6
  | false=>rfl
 rw[b6,if_neg .(1)];rw[Bool.or_eq_false_iff,decide_eq_false_iff_not,decide_eq_false_iff_not]at b6;have al:a<C.length:=by omega
 obtain⟨kk,y,eca,okq⟩:∃(kk:Nat) (y:D),C[a]?=.(g [.int (kk:Nat),y])/\z6l .(7) ns (kk,y):=by
  have al':a<cs.length:=by omega
  refine⟨cs[a].1,cs[a].2,?_,ok _ (K3l al')⟩;rw[hC];unfold x4;rw[K0k,K00 al'];rfl
 have ica:∀h',FT.e2 fIx (eVar 6) (eVar 7) γ h'=.ok (.tup [.int (kk:Nat),y]) h':=λh'=>e2_h (Z2 g6) (Z2 g7) (by rw[ix_tup (z1x eca)];rfl);have thy:∀r,Th r (10 ^ 21+3) 1 82 y:=λr=>zR3 (q:=(kk,y)) .(1) .(0) hg okq;obtain⟨x,h3,e3,x0,x1,p3⟩:=draw p2 (n:=(st.length:Nat)) .(0) .(0) .(0);obtain⟨x,rfl⟩:=K0v x0;have s1:=cl none (some (a:Int));have s2:=cl (some ((a:Int)+1)) none;have ev:∀(v:D) (h3:AH),eTup (z7 (eVar 5) (z7 (FT.e2 fAdd (FT.e2 fAdd (z01 (eVar 6) z1c (z12 (eVar 7))) (eTup (z7 (eVar 9) aNil))) (z01 (eVar 6) (z12 (FT.e2 fAdd (eVar 7) .(4))) z1c)) aNil)) [.(r 2),.(i t),some .(9),.(r (i+3)),some G0,some R,.(g C),.(i (a:Nat)),.(i (o:Nat)),some v] h3=.ok (.tup [R,.tup (cutD C none (some (a:Int))++[v]++cutD C (some ((a:Int)+1)) none)]) h3:=λv h3 =>
  z1W .(d) (zr9 (zr9 (sl_h (lo:=none) (hi:=some (a:Int)) .(d) rfl (os_h .(d))) (zV9 .(d)) (by simp only[K1c];omega)) (sl_h (lo:=some ((a:Int)+1)) (hi:=none) .(d) (os_h (e2_h .(d) (y:=.int 1) rfl (by rw[z1U];rfl))) rfl) (by rw[K04,K1c];omega))
 have fin:∀(v:D) (h4:AH) (k4:Int) (j:AH),PS h4 k4 (r++j)->k4<=k+50->Th (r++j) (10 ^ 21+3) 2 174 v->∃j,Th (r++j) (10 ^ 21+5) 6 29330 (.tup [R,.tup (cutD C none (some (a:Int))++[v]++cutD C (some ((a:Int)+1)) none)])/\PS h4 (k+100) (r++j):=λv h4 k4 j p4 hk4 tv=>⟨j,two _ _ _ (thR _) (λd hd=>by
  rcases K0i.mp hd with q|q
  ·rcases K0i.mp q with q|q
   ·exact sub _ _ _ d q
   ·rw[K1n]at q;rw[q];exact tv
  ·exact sub _ _ _ d q) (by
   have e1:=zv2 C a;have e2':=zy4 C (a+1);rw[show (((a+1:Nat):Int))=(a:Int)+1 by omega]at e2';rw[e1,e2',K04,K04,K1t,K53,K1c];omega),p4.up .(0)⟩
 refine z07 (Y4 (.tup [.int (x:Nat),y]) [.(r 2),.(i t),some .(9),.(r (i+3)),some G0,some R,.(g C),.(i (a:Nat)),.(i (o:Nat)),.(g [.int (x:Nat),y])] (z1W (fn_h (ds:=[.ref 2,.int (st.length:Nat)]) (ac_h (Z2 g0) (ac_h (j9 (Z2 g5) (by rw[hR,z8p,j8,z0U])) rfl)) rfl e3) (e2_h (ica _) (y:=.int 1) rfl rfl)) (by rw[hγ];rfl) ?_);refine z0b _ (z7F rfl) ?_;by_cases t5:t=5
 ·rw[.(g) t5,if_pos rfl];obtain⟨l5,hl5⟩:∃l5:List D,l5=[.int 0,.int 1,.str "unborne",.str "",.str "yes"]:=⟨_,rfl⟩;obtain⟨γ2,hγ2⟩:∃γ2:G,γ2=[.(r 2),.(i t),some .(9),.(r (i+3)),some G0,some R,.(g C),.(i (a:Nat)),.(i (o:Nat)),.(g [.int (x:Nat),y])]:=⟨_,rfl⟩;rw[<- hγ2];have k0:γ2[0]?=some (.(r 2)):=by rw[hγ2];rfl
  have k3:γ2[3]?=some (.(r (i+3))):=by rw[hγ2];rfl
  have k6:γ2[6]?=some (.(g C)):=by rw[hγ2];rfl
  have k7:γ2[7]?=some (.(i (a:Nat))):=by rw[hγ2];rfl
  have q1:=p3.app [.lst l5];have q2:=q1.app [.lst (l5++ns.map .str)];have en1:h3[i+3]?=.(l (ns.map .str)):=by rw[p3.get];exact ei
  have L1:eLst (z7 .(3) (z7 .(4) (z7 (λ_=>pure (.str "unborne")) (z7 (λ_=>pure (.str "")) (z7 (λ_=>pure (.str "yes")) aNil))))) γ2 h3=.ok (.ref h3.length) (h3++[.lst l5]):=by
   rw[hl5];exact zi8 (xs:=[.int 0,.int 1,.str "unborne",.str "",.str "yes"]) .(f)
  have L2:FT.e2 fAdd (eLst (z7 .(3) (z7 .(4) (z7 (λ_=>pure (.str "unborne")) (z7 (λ_=>pure (.str "")) (z7 (λ_=>pure (.str "yes")) aNil)))))) (eVar 3) γ2 h3=.ok (.ref (h3++[O.lst l5]).length) (h3++[.lst l5]++[.lst (l5++ns.map .str)]) :=
   e2_h L1 (Z2 k3) (zh4 x6 (J7 en1) (by rw[hl5,K03];simp;omega))
  obtain⟨u,h6,e6,u0,u1,p6⟩:=draw q2 (n:=((5+ns.length:Nat):Int)) .(0) .(0) .(0);have ll:(l5++ns.map D.str).length=5+ns.length:=by rw[hl5];simp;omega
  obtain⟨v,hv,ex⟩:=z8R (xs:=l5++ns.map D.str) u0 (by rw[ll];exact u1);have lh:=p3.len;have e7:h6[(h3++[O.lst l5]).length]?=.(l (l5++ns.map .str)):=by
   rw[K04,K1c,show h3.length+1=(r++[O.lst l5]).length+3 by rw[K04,K1c];omega,p6.get];exact z0T
  have tv:∀r,Th r (10 ^ 21+3) 1 82 v:=λr=>by
   rcases K0i.mp hv with q|q
   ·rw[hl5]at q;simp only[K12,K3k,or_false]at q;rcases q with rfl|rfl|rfl|rfl|rfl
    ·exact z58 (x:=0) .(1) .(1)
    ·exact z58 (x:=1) .(1) .(1)
    ·exact z5D .(1) .(1)
    ·exact z5D .(1) .(1)
    ·exact z5D .(1) .(1)
   ·obtain⟨s,hs,rfl⟩:=K07.mp q;exact z8T (hg.2 s hs)
  have dr:eFn 2 Z4 (z7 .(h) (z7 (FT.e2 fAdd (λ_=>pure (.int 5)) (Z6 fLen (z7 (eVar 3) aNil))) aNil)) γ2 (h3++[.lst l5]++[.lst (l5++ns.map .str)])=.ok (.int u) h6:=fn_h (ds:=[.ref 2,.int ((5+ns.length:Nat):Int)]) (ac_h (Z2 k0) (ac_h (e2_h (x:=.int 5) rfl (j9 (Z2 k3) (z4H (J7 (J7 en1)))) (by
   rw[z1U,K03];show Res.ok (D.int (5+(ns.length:Nat))) _=_;rw[show (5:Int)+(ns.length:Nat)=((5+ns.length:Nat):Int) by omega])) rfl)) rfl e6
  have p6':PS h6 (k+2+1+1) (r++[.lst l5,.lst (l5++ns.map .str)]):=by rw[K06]at p6;exact p6
  have ica2:∀h',FT.e2 fIx (eVar 6) (eVar 7) γ2 h'=.ok (.tup [.int (kk:Nat),y]) h':=λh'=>e2_h (Z2 k6) (Z2 k7) (by rw[ix_tup (z1x eca)];rfl);refine z06 (Y4 (.tup [.int (kk:Nat),v]) [.(r 2),.(i t),some .(9),.(r (i+3)),some G0,some R,.(g C),.(i (a:Nat)),.(i (o:Nat)),.(g [.int (kk:Nat),v])] (z1W (e2_h (ica2 _) (y:=.int 0) rfl rfl) (e2_h L2 dr (ix_h e7 ex))) (by rw[hγ2];rfl) ?_);exact z07 (j3 _ (ev _ _) (fin _ h6 _ _ p6' .(0) (z5g (z58 .(1) (by have:=okq.1;omega)) (tv _))))
 ·rw[.(m) t5,if_neg .(1)];exact z07 (j3 _ (ev _ _) (fin _ h3 _ [] (by rw[K0w];exact p3) .(0) (z5g (z58 .(1) .(0)) (thy _))))
end
theorem zZ3 (c:Cop bst bmk st mk raw) (ba:MA bst bmk) (lr:raw.length<=40):MA st mk:=by
 have l:=c.l;have m0:0∈raw:=(c.kd 0).mpr ba.l1;have:=K8w m0;have cm:∀l∈st,∃i,i<raw.length/\l=nx st i:=λl h=>by
  obtain⟨i,hi,e⟩:=K2q h;exact⟨i,by rw[<- c.l];exact hi,by unfold nx;rw[K00 hi,e];rfl⟩
 refine⟨by omega,by omega,by rw[c.ml,K03,l],λq hq=>?_,λq hq x hx=>?_,λq hq=>?_⟩
 ·obtain⟨i,hi,rfl⟩:=cm _ hq;exact c.rise i hi
 ·obtain⟨i,hi,rfl⟩:=cm _ hq;rw[l];exact c.lt i hi x hx
 ·rw[c.ml]at hq;obtain⟨x,hx,rfl⟩:=K07.mp hq;have xl:=(c.kd x).mp hx;have l3:=ba.l3;exact ba.m1 _ (K0j (z48 (show x<bmk.length by omega)))
theorem zB4 (c:Cop bst bmk st mk raw) (hs:∀l∈bmk,∀s∈l,s∈ns):∀x,∀s∈mkAt mk x,s∈ns:=by
 have all:∀(mk:List (List Str)),(∀l∈mk,∀s∈l,s∈ns)->∀x,∀s∈mkAt mk x,s∈ns:=λmk h x s q=>by
  by_cases hx:x<mk.length
  ·exact h _ (K0j (z48 hx)) s q
  ·unfold mkAt at q;rw[K13 .(0)]at q;cases q
 refine all mk λl hl=>?_;rw[c.ml]at hl;obtain⟨y,_,rfl⟩:=K07.mp hl;exact all bmk hs y
theorem zA9 (v:Th R B m n d):∀row xs l x,d=.tup [row,.tup xs]->D.tup [l,.str x]∈xs->x.length<=1000:=λrow xs l x e hm=>by
 subst e;obtain⟨m1,a1,_,v1,_⟩:=v.items;obtain⟨c1,_,v2⟩:=v1.mem (d:=.tup xs) .(f);obtain⟨m2,a2,_,v3,_⟩:=v2.items;obtain⟨c2,_,v4⟩:=v3.mem hm;obtain⟨m3,a3,_,v5,_⟩:=v4.items;obtain⟨c3,_,v6⟩:=v5.mem (d:=.str x) .(f);cases m3 with
 | zero=>simp only[Th]at v6
 | succ m3=>simp only[Th]at v6;exact v6.2
theorem zq1 {neg:Bool}(x:Str):fEqX neg (.str x) (.str x) h=.ok (.bl (true != neg)) h:=by
 refine z2r ?_;rw[z7V (n:=23),.(g) rfl]
theorem if_w {kk:G->M Bool}{mr:G->M Out}{b:Bool}{Q:Out->AH->Prop}(e:kk γ h=.ok b h) (z:W ((if b=true then ms else mr) γ) h Q):W (sIf kk ms mr γ) h Q:=by
 obtain⟨o,h',e2,q⟩:=z;refine⟨o,h',?_,q⟩;unfold sIf;rw[M.bind_ok e,<- e2];cases b<;>rfl
theorem zM1 {bl:Bl}{cs:List D}(ma:MA st mk) (pb:PB st.length bl) (dn:Done st mk bl) (en:endB st mk [(0,K9 st.length)] cs=some bl):rcB st mk (.tup [.tup (stD (rowB st.length bl)),.tup cs])=true:=by
 show (stB st mk (.tup (stD (rowB .(7) bl)))&&match endB st mk [(0,K9 .(7))] cs with|some bl'=>decide ((stD (rowB .(7) bl)).map numD=rowB .(7) bl')|none=>false)=true;rw[zb4 (zP1 ma pb dn),en,z7R];show (true&&decide (rowB .(7) bl=rowB .(7) bl))=true;rw[.(g) rfl];rfl
theorem math0 {ns:List Int}(hn:ns.length<=63):W (m_law [.fl (ns.map .int)]) [] (λd _=>d=.bl true):=by
 refine z2n ?_;show W (zr5 [some (.fl (ns.map .int)),none,none,none,none,none,none,none,none,none]) [] _;unfold zr5;refine z10 _ (by simp only[K1,K02,K08,K0h,z7,aNil,z0d,eFn,eVar,if_true];exact zp1 hn) ?_;rintro d h1 ⟨rfl,p1⟩;refine z10 (λd h1=>∃t:Int,d=.int t/\0<=t/\t<9/\PS h1 10 []) ?_ ?_
 ·simp only[K5,K1,K02,K08,K0b,K09,K0h,z05,Z7,Y7,W_pure,z7,aNil,eFn,eVar,if_true];exact z04 p1 .(0) .(1) .(1) λm h3 m0 m1 p3=>⟨m,rfl,m0,m1,p3.up .(0)⟩
 rintro _ h2 ⟨t,rfl,t0,t9,p2⟩;refine z10 (λd h1=>∃ns':List Str,d=.ref (0+3)/\ns'.length<=8/\NS ns'/\PS h1 100 [.lst (ns'.map .str)]) ?_ ?_
 ·simp only[K5,K1,K02,K08,K0b,K09,K0h,z05,Z7,Y7,W_pure,z7,aNil,eFn,eVar,if_true];refine z04 p2 .(0) .(1) .(1) λm h3 m0 m1 p3=>?_;obtain⟨m,rfl⟩:=K0v m0;refine zi1 p3 trivial .(0) .(0) λns' h4 l4 n4 p4=>?_;exact⟨ns',rfl,by omega,n4,p4.up .(0)⟩
 rintro _ h3 ⟨ns',rfl,l2,n2,p3⟩;refine zZ8 (λd h1=>∃st mk a r,d=.tup [maD st mk,a]/\MA st mk/\.(7)<=20/\(∀x,∀s∈mkAt mk x,s∈ns')/\PS h1 4000 r/\r[0]?=.(l (ns'.map .str))) ?_ ?_
 ·simp only[K5,K1,K02,K08,K0b,K09,K0h,z05,Z7,Y7,W_pure,z7,aNil,eFn,eVar,if_true];refine zd4 (i:=0) (most:=4) p3 .(0) .(0) .(0) rfl l2 n2 λbst bmk h5 ba bl hs p5=>?_;exact zq6 (most:=4) p5 .(0) .(0) .(0) ba λst mk raw h6 j i c lr p6 e6=>⟨st,mk,_,_,rfl,zZ3 c ba .(0),by have:=c.l;omega,zB4 c hs,p6.up .(0),rfl⟩
 rintro _ h4 ⟨st,mk,a,r,rfl,ma,l20,sub,p4,e4⟩;refine⟨[some (.fl (ns.map .int)),.(r 2),.(i t),.(r (0+3)),some .(9),some a,none,none,none,none],rfl,?_⟩;have l1:=ma.l1;refine z10 (λd h1=>∃bl cs,d=.tup [.tup (stD (rowB .(7) bl)),.tup (x4 cs)]/\PB .(7) bl/\Done st mk bl/\endB st mk [(0,K9 .(7))] (x4 cs)=some bl/\cs.length<=.(7)/\(∀q∈cs,z6l .(7) ns' q)/\PS h1 5000 r) ?_ ?_
 ·simp only[K5,K1,K02,K08,K0h,z05,Z7,Y7,W_pure,z7,aNil,eFn,eVar,if_true];exact zX5 (i:=0) ma l20 n2 l2 sub p4 trivial .(0) e4 λbl cs h5 pb dn en lc ok p5=>⟨bl,cs,rfl,pb,dn,en,lc,ok,p5.up .(0)⟩
 rintro _ h5 ⟨bl,cs,rfl,pb,dn,en,lc,ok,p5⟩;obtain⟨G0,hG0⟩:∃G0,G0=D.tup [.tup (stD (rowB .(7) bl)),.tup (x4 cs)]:=⟨_,rfl⟩;have lC:(x4 cs).length=cs.length:=z2J;have thG:∀R:AH,Th R (10 ^ 21+3) 4 14610 G0:=λR=>by
  rw[hG0];exact z5g (z8L .(1) (λx hx=>by have:=zx4 pb x hx;omega) (by rw[z0U];omega)) (z4l (zz2 .(1) .(0) n2 ok) .(0))
 rw[<- hG0];refine Y4 G0 [some (.fl (ns.map .int)),.(r 2),.(i t),.(r (0+3)),some .(9),some a,some G0,some G0,none,none] .(d) rfl ?_;refine z2o (λγ h'=>∃d j,γ=[some (.fl (ns.map .int)),.(r 2),.(i t),.(r (0+3)),some .(9),some a,some G0,some d,none,none]/\PS h' 6000 (r++j)/\Th (r++j) (10 ^ 21+5) 6 29330 d) ?_ ?_
 ·refine if_w (b:=decide (0<t)) (cb_h (e2_h .(d) (y:=.int 0) rfl (by rw[z42];rfl))) ?_;by_cases c:0<t
  ·rw[.(g) c,if_pos rfl];obtain⟨d',h6,e6,j,v6,p6⟩:=zh6 (i:=0) (t:=t) ma l20 n2 l2 p5 .(0) e4 pb en lc ok;rw[<- hG0]at e6;refine Y4 d' [some (.fl (ns.map .int)),.(r 2),.(i t),.(r (0+3)),some .(9),some a,some G0,some d',none,none] (fn_h (ds:=[.ref 2,.int t,maD st mk,.ref (0+3),G0]) (ac_h .(d) (ac_h .(d) (ac_h .(d) (ac_h .(d) (ac_h .(d) rfl))))) rfl e6) rfl ?_;exact z0f ⟨d',j,rfl,p6.up .(0),v6⟩
  ·rw[.(m) c,if_neg .(1)];exact z0f ⟨G0,[],rfl,by rw[K0w];exact p5.up .(0),Th.mono (Kp.refl _) .(0) .(0) .(0) (thG _)⟩
 rintro _ h6 ⟨d6,j6,rfl,p6,v6⟩;obtain⟨R6,hR6⟩:∃R6,R6=r++j6:=⟨_,rfl⟩;rw[<- hR6]at p6 v6;refine z2o (λγ h'=>∃d R,γ=[some (.fl (ns.map .int)),.(r 2),.(i t),.(r (0+3)),some .(9),some a,some G0,some d,none,none]/\PS h' 7000 R/\Th R (10 ^ 21+7) 6 58770 d) ?_ ?_
 ·refine if_w (z7F rfl) ?_;by_cases c:t=8
  ·rw[.(g) c,if_pos rfl];obtain⟨d',h7,e7,j,v7,p7⟩:=z9N 4 3 p6 .(0) v6 .(0) .(0) .(0);refine Y4 d' [some (.fl (ns.map .int)),.(r 2),.(i t),.(r (0+3)),some .(9),some a,some G0,some d',none,none] (fn_h (ds:=[.ref 2,d6,.int 3]) (ac_h .(d) (ac_h .(d) (ac_h (d:=.int 3) (ds:=[]) rfl rfl))) rfl e7) rfl ?_;exact z0f ⟨d',_,rfl,p7.up .(0),Th.mono (Kp.refl _) .(0) .(0) .(0) v7⟩
  ·rw[.(m) c,if_neg .(1)];exact z0f ⟨d6,R6,rfl,p6.up .(0),Th.mono (Kp.refl _) .(0) .(0) .(0) v6⟩
 rintro _ h ⟨d,R,rfl,p,v⟩;have tb:TB 3 h d:=zt1 p 3 v;obtain⟨x,ex⟩:=zQ8 v .(1) .(0) .(0) p;have ex0:=ex [];rw[K0w]at ex0;refine Y4 (.str x) [some (.fl (ns.map .int)),.(r 2),.(i t),.(r (0+3)),some .(9),some a,some G0,some d,.(s x),none] (j9 .(d) ex0) rfl ?_;refine Y4 (.bl (rcB st mk d)) [some (.fl (ns.map .int)),.(r 2),.(i t),.(r (0+3)),some .(9),some a,some G0,some d,.(s x),some (.bl (rcB st mk d))] (fn_h (ds:=[maD st mk,d]) (ac_h .(d) (ac_h .(d) rfl)) rfl (z9k ma tb (zA9 v))) rfl ?_;refine z0b false (z9s (cn_h (b:=true) (cv_h (fn_h (ds:=[.bl (rcB st mk d),.bl (rcB st mk d)]) (ac_h (fn_h (ds:=[maD st mk,d]) (ac_h .(d) (ac_h .(d) rfl)) rfl (z8N ma tb (zA9 v))) (ac_h .(d) rfl)) rfl (by rw[z8D,beq_self_eq_true];rfl)))) (cb_h (e2_h (j9 .(d) ex0) .(d) (zq1 x)))) ?_;rw[if_neg .(1)];have tg:TB 3 h G0:=zt1 p 3 (thG R);refine z07 (j3 (.bl true) (fn_h (ds:=[.bl true,.bl true]) (ac_h (fn_h (ds:=[maD st mk,G0]) (ac_h .(d) (ac_h .(d) rfl)) rfl ((z8N ma tg (zA9 (thG R))).trans (by rw[hG0,zM1 ma pb dn en]))) (ac_h (d:=.bl true) rfl rfl)) rfl (by rw[z8D];rfl)) rfl)
theorem math:∀ns:List Int,ns.length<=63->∃h',m_law [.fl (ns.map .int)] []=.ok (.bl true) h':=λns hn=>by
 obtain⟨d,h',e,ed⟩:=math0 hn;exact⟨h',by rw[e,ed]⟩
variable (ZS:SS K mg)
include ZS
theorem okL_law {f:Addr}{fd:K5b}(F:Fun K "law" "law" (top 43) f fd):FnOk P w K mg base CX0 9 f fd ["_law_script"] (spB K m_law 1) :=
 Z0E F sc_law rfl λcdv A outer s H E hr=>(show SB (cxOf CX0 P w K mg base ["_law_script","_law_pool_here","_law_choice","_law_names_here","_law_machine_here","_law_raw","_law_good","_law_thing","_law_kept","_law_due"] "law" (y6 (top 43)) f cdv A outer s H E).nox EX0 (z0X (top 43)) zr5 from
  have nd:(["_law_script","_law_pool_here","_law_choice","_law_names_here","_law_machine_here","_law_raw","_law_good","_law_thing","_law_kept","_law_due"]:List Str).Nodup:=sc_law.nd
  (z8 (y9 1 nd (Z5 (z7d ZS) (hr.mono .(1)) rfl (z6 (z0 0) z9))) (z8 (y9 2 nd (Z5 (Z8 ZS) (hr.mono .(1)) rfl (z6 (z0 1) (z6 Z1 z9)))) (z8 (y9 3 nd (Z5 (z5v ZS) (hr.mono .(1)) rfl (z6 (z0 1) (z6 (Z5 (Z8 ZS) (hr.mono .(1)) rfl (z6 (z0 1) (z6 Z1 z9))) z9)))) (z8 (z4K (Z5 (z50 ZS) (hr.mono .(1)) rfl (z6 (z0 1) (z6 (Z5 (z4J ZS) (hr.mono .(1)) rfl (z6 (z0 1) (z6 (z0 3) (z6 Z1 z9)))) (z6 Z1 z9)))) (z5d rfl (z0B (y8 4 nd) (z0B (y8 5 nd) z3L)))) (z8 (y9 6 nd (Z5 (z3C ZS) (hr.mono .(1)) rfl (z6 (z0 1) (z6 (z0 4) (z6 (z0 3) z9))))) (z8 (y9 7 nd (z0 6)) (z8 (s_if (sc_c z40 (z0 2) Z1) (z8 (y9 7 nd (Z5 (z4O ZS) (hr.mono .(1)) rfl (z6 (z0 1) (z6 (z0 2) (z6 (z0 4) (z6 (z0 3) (z6 (z0 6) z9))))))) Z3) Z3) (z8 (s_if (sc_c z31 (z0 2) Z1) (z8 (y9 7 nd (Z5 (z3W ZS 4) (hr.mono .(1)) rfl (z6 (z0 1) (z6 (z0 7) (z6 Z1 z9))))) Z3) Z3) (z8 (y9 8 nd (zb1 hr.gd hr.units rfl ZS.Uca (z6 (z0 7) z9))) (z8 (y9 9 nd (Z5 (z2x ZS) (hr.mono .(1)) rfl (z6 (z0 4) (z6 (z0 7) z9)))) (z8 (s_if (SW.sc (z3G (z0t (x9 (Z5 (z3u ZS) (hr.mono .(1)) rfl (z6 (Z5 (z2l ZS) (hr.mono .(1)) rfl (z6 (z0 4) (z6 (z0 7) z9))) (z6 (z0 9) z9))))) (z2s (sc_c (z92 (hu30 hr)) (zb1 hr.gd hr.units rfl ZS.Uca (z6 (z0 7) z9)) (z0 8))))) (z8 (y0 z2m) Z3) Z3) (z8 (y0 (Z5 (z3u ZS) (hr.mono .(1)) rfl (z6 (Z5 (z2l ZS) (hr.mono .(1)) rfl (z6 (z0 4) (z6 (z0 6) z9))) (z6 z2m z9)))) Z3)))))))))))))
end FT
open PySem PySem.W PyProof.Rows
set_option maxRecDepth 100000 in
theorem PySem.Challenge.cw_fairtrees_k65_whole_bent_cuts_holds : PySem.Challenge.rw_fairtrees_k65_whole_bent_cuts.Holds := by
 refine FT.pack.2 ?_;unfold FT.pack;dsimp only
 k_fill
 refine FT.law_walk (l:=K7j) (lev:=9) (p:="_law_script") (m:=FT.m_law) rfl rfl ⟨rfl,by decide,by decide,rfl⟩ (λw h Y=>PySem.W.kIn_of Y) ?F FT.math
 case F =>
  intro w mg fa h KX G hmg;have F01:FT.DefAt (L2.KOf KX) "law" (FT.top 43):=by
   dsimp only[L2.KOf];refine' FT.defAt_mk ?a ?l ?c ?k;(case a=>k_is);(case l=>k_is);(case c=>k_is);(case k=>k_is)
  have C_KEPT:FT.Cst (L2.KOf KX) mg "KEPT" FT.c_KEPT:=by
   dsimp only[L2.KOf];refine' FT.cst_tup (K84 KX G ?a) ?l ?r ?z;(case a=>k_is);(case l=>k_is);(case r=>first|rfl|decide +kernel);(case z=>decide +kernel)
  have C_LONGEST:FT.Cst (L2.KOf KX) mg "LONGEST" FT.c_LONGEST:=by
   dsimp only[L2.KOf];refine' FT.cst_int (K84 KX G ?a);(case a=>k_is)
  have S:FT.SS (L2.KOf KX) mg:=by
   refine⟨λn v e=>K84 KX G e,?_,?_,?_,?_,?_,?_,?_,?_,C_KEPT,C_LONGEST,?_,?_,?_,?_,?_,?_,?_,?_,?_,?_,?_,?_,?_,?_,?_,?_,?_,?_,?_,?_,?_,?_,?_,?_,?_,?_,?_,?_,?_,?_,?_,?_,?_,?_,?_,?_,?_,?_,?_,?_,?_,?_,?_⟩
   all_goals first|exact PySem.W.mg_none_of KX G (by k_is)|(dsimp only[L2.KOf];refine' FT.defAt_mk ?a ?l ?c ?k;(case a=>k_is);(case l=>k_is);(case c=>k_is);(case k=>k_is))
  obtain⟨f,fd,hf,F⟩:=F01;have e:=hmg.symm.trans (K84 KX G hf);cases e;refine⟨fd,FT.bindsTo1 F (λ_ _ _ _ _ _ _=>rfl),λbase _ _=>?_⟩;exact FT.okL_law S F