import PyProof.Rows.All
import Wide.All
import OpenK.AllK
import Wide.FinOn
import PySem.Challenge.RW_fairtrees_k11_whole_walks_of_commands
import Lean
import PyProof.EqAt
import PyProof.EqKinds
import PyProof.TupleCall
import PyProof.DictCompW
import PyProof.NeKinds
import PyProof.ListRange
import PyProof.TupleOfSeq
import PyProof.SeqI3
import PyProof.DictWalks
import PyProof.SetNew
import PyProof.ReprReads
import PyProof.StrHeap
import PyProof.ReprLen
import PyProof.WalkInts
import KE.KDictSum
import PyProof.Draws
import KE.KDictOf
import PyProof.AttrMissHeap
set_option Elab.async false
set_option linter.all false
set_option maxRecDepth 100000
set_option maxHeartbeats 4000000
namespace L2
end L2
open PySem.Challenge renaming rw_fairtrees_k11_whole_walks_of_commands->K0
open PySem renaming wpAny_bind->K1,wpAny_pure->K6,starEach->K05,Program->K0d,wpAny_newObj_type->K12,wpAny_loadPart'->K18,wpAny_callSpecial?_slot->K1j,wpAny_call_entry->K1p,compareOp->K1t,wpAny_holding->K1u,wpAny_field->K1w,mainGlobals->K1x,mem_of_lookup->K23,foldedSetIterable->K24,codeAny_builtin->K2e,wpAny_pyIter_tuple->K2f,swapsWith->K2i,FuncData->K2j,wpAny_seqItems->K2p,assignEach->K2q,keywordEach->K2x,wpAny_setField->K36,wpAny_ite_false->K3a,binaryOp->K3b,wpAny_askSetting->K3h,wpAny_setField_rec->K3k,wpAny_passesOwn->K3q,wpAny_truthy_bool->K3u,wpAny_setState_of->K3v,sysModules->K3x,call_meets->K3y,attributeBase->K3z,holding->K41,Keyword->K42,SetTable->K44,sliceBounds->K46,wpAny_rule->K49,wpAny_mono->K4a,wpAny_typeOf->K4b,backToKw->K4f,plainId_quiet->K4k,behindInMarks->K4l,codeAny_mono->K4v,bootBuiltins->K4w,wpAny_standAt->K52,getItem->K58,wpAny_Call_Name_kw->K5c,tupleKind_room_in1->K5d,NameKind->K5o,codeAny->K5u,isSubtype_type->K5z,wpAny_pyIter_list->K62,fits_of_scanBound->K63,builtinLookup_eq_fast->K69,standAt->K6j,relayAll->K6l,GenState->K6m,wpAny_updateSeq_pair->K6n,letOwnedTupleGo->K6s,wpAny_setEntries_of->K6w,wpAny_runValue->K75,firstArgMember->K77,wpAny_binaryOp_repeat_ref->K7d,slot_list_getitem->K7e,wpAny_sequenceKey->K7n,wpAny_onRaise->K7r,wpAny_attempt->K7s,wpAny_getItem_list_slice->K7u,wpAny_comprehension_free->K7v,seqIndex?->K80,wpAny_isInstance->K84,noFill_tuple_add->K85,setNext->K8b,callerA->K8c,BindsTo->K8d,typeLookup->K8e,typeIs_int->K8f,wpAny_Call_method_late->K8n,wpAny_specialOf->K8s,wpAny_execs_nil->K8t,typeLookup_type->K8u,codeAny_of_tree->K8v,subscripted->K94,sizeLine_eq->K95,valueAt->K9d,tupleKind->K9e,wpAny_dictSet_pairs->K9j,signature?_of->K9m,seq_tuple_add->K9n,evalPart_none->K9o,setsByText->K9u,notedBy->Z09,ItemsOf->Z0a,IsRange->Z0b,seqIndex_neg->Z0e,concat_meets->Z0f,callType_new->Z0g,Fin->Z0j,seqSlot_of->Z0n,slicePick->Z0o,seqItems?->Z0p,pickOrder->Z0q,PassesOwn->Z0r,wpAny_of_eq->Z0w,wpAny_letGo->Z0x,unsupported->Z0y,seqIndex_of->Z0z,setItem->Z17,call->Z1a,Spec->Z1l
open PySem.W renaming Frag->K2,mg_of->K09,mg_none_of->K14,kia_one->K1o,nsIn->K2a,fnOf->K2b,keepIn->K2l,codeIn->K2m,kitOne->K5n,methodObj->K7g,kitx_list->K7h,kitx_dict->K7i,cellsFrom_some->K8g,instObj->K8p,lookIn->K91,kitx_tuple->K9t,plainGet->Z0l,OpenLaw->Z12,findIn->Z1c,WalkO->Z1f
open PySem.Heap renaming get?_push_of_some->K3,lt_size->K02,get?_push_size->K03,size_push->K1e,SameBut->K3c,get?_update_other->K3e,get?_update_self->K3m,get?_none_of_le->K9a,IsTuple->Z06,ExtBut->Z0v
open List renaming length_map->K4,getElem?_eq_getElem->K5,getElem?_eq_some_iff->K7,getElem?_map->K8,size_toArray->K9,getElem?_cons_zero->K00,length_append->K04,length_cons->K07,mem_of_getElem?->K08,getElem?_cons_succ->K0a,length_nil->K0b,mem_cons->K0c,length_take->K0e,range->K0h,map_cons->K0i,mem_singleton->K0k,replicate->K0l,set_cons_zero->K0m,mem_append->K0n,mem_cons_of_mem->K0o,set_cons_succ->K0q,mem_map->K0r,mem_cons_self->K0u,getElem?_append_left->K0w,map_append->K0z,append_assoc->K10,mem_append_right->K11,map_map->K16,getElem?_set_self->K1a,length_singleton->K1b,getElem?_eq_none->K1c,getElem?_set_ne->K1f,take_length->K1g,getElem?_append_right->K1h,set_append_right->K1i,lookup_cons->K1q,getElem?_singleton->K1r,not_mem_nil->K1y,all_eq_true->K1z,length_range->K20,nodup_append->K21,getElem?_take->K22,any_cons->K26,take_succ->K27,mem_range->K29,append_nil->K2c,mem_append_left->K2g,getElem?_of_mem->K2h,replicate_succ->K2s,length_reverse->K2t,filterMap_cons->K2u,getElem_mem->K30,idxOf_lt_length_iff->K33,find?_cons->K39,length_drop->K3g,length_filter_le->K3l,foldl_cons->K3o,flatten_cons->K3s,getElem?_append->K3t,getElem_of_mem->K40,prefix_rfl->K4e,map_take->K4h,ext_getElem?->K4n,map_nil->K4t,pairwise_iff_getElem->K4x,all_cons->K50,range_succ->K55,nil_append->K56,forIn_cons->K57,filterMap_map->K5a,mem_filterMap->K5f,not_lt->K5i,forIn_nil->K5s,reverse_cons->K5v,foldl_append->K5w,take_of_length_le->K61,take_succ_eq_append_getElem->K64,findIdx_lt_length_of_exists->K65,eraseIdxIfInBounds_toArray->K66,take_append_drop->K67,foldl->K6b,any_eq_true->K6e,length_pos_iff_exists_mem->K6g,length->K6k,take_append_of_le_length->K6o,nodup_cons->K6p,idxOf_cons->K6r,mergeSort_perm->K6t,mem_map_of_mem->K6u,drop_eq_getElem_cons->K7c,take_sublist->K7j,pairwise_map->K7k,length_eq_zero_iff->K7x,range'_succ->K7z,pairwise_mergeSort->K86,getElem?_replicate->K87,zipWith_cons_cons->K8i,pairwise_lt_range->K8j,not_of_lt_findIdx->K8k,find?_cons_of_neg->K8l,drop_eq_nil_of_le->K8m,of_mem_zip->K8q,filter_map->K8r,getElem?_zipWith->K8z,dropLast_eq_take->K90,range'->K92,nodup_nil->K93,range_eq_range'->K97,mem_of_mem_take->K98,findIdx_getElem->K99,getD->K9c,length_zipWith->K9g,getElem?_range->K9h,prefix_append->K9y,map_inj_right->K9z,filter_append->Z00,all_map->Z05,all_eq_false->Z0d,zipIdx_cons->Z0s,filter_cons->Z0t,mem_filter->Z10,zipIdx_nil->Z13,take_left'->Z14,length_set->Z15,all_append->Z16
open Nat renaming le_refl->K01,ne_of_lt->K0g,lt_of_lt_of_le->K0j,reduceAdd->K0t,le_trans->K0x,ne_of_gt->K2d,lt_irrefl->K2k,zero_le->K35,le_of_eq->K3r,le_succ->K45,lt_succ_of_lt->K4p,mul_comm->K5p,lt_trans->K5q,le_of_lt->K5r,le_add_right->K6f,add_le_add_left->K6v,zero_add->K6z,lt_of_le_of_lt->K74,lt_succ_self->K81,sub_self->K8a,mul_le_mul_right->K9b,div_mul_le_self->K9i,le_of_succ_le->Z0h
open Option renaming map_eq_some_iff->K06,isSome_map->K5t,join_some->K6c,join_none->K6d,getD_none->Z0m
open Bool renaming and_eq_true->K0f,false_ne_true->K0v,eq_iff_iff->K17,or_eq_true->K2w,false_eq_true->K31,true_and->K4i,and_true->K4j,bne_false->K4q,not_eq_true'->K5x,bne_true->K6i,not_true->K7o,false_and->Z1d
open PySem.SetTable renaming below->K0p,grown->K34,Probe->Z1b,laid->Z1e
open Int renaming toNat_natCast->K0s,toNat_of_nonneg->K2v,emod_lt_of_pos->K32,emod_nonneg->K3p,eq_ofNat_of_zero_le->K5j,ediv_one->Z08,toNat->Z1i
open PySem.PassesOwn renaming never->K0y
open PyProof.Rows renaming slot_tuple_getitem->K13,callWith_type1->K3d,entry_tuple_getitem->K6x,slicePart_none->K76,args_tuple_getitem->K79,IntsAre->K7l,AllBare->K7m,subscriptTail->K7t,subscriptTail_builtinR->K8o,tupleItemsOf_->K9l,Subscript_->K9v
open Array renaming length_toList->K15,getElem?_eq_getElem->K1n,getElem?_toList->K25,getElem?_eq_some_iff->K3i,find?_toList->K9x,toList->Z04,toList_push->Z0c
open PySem.Builtin.Tuple renaming tupleExact->K19,tupleItemsOf->K4r,tupleIsExact->K73
open Option.some renaming inj->K1d,injEq->Z03
open PySem.Heap.SameBut renaming update->K1k,refl->Z02
open PySem.Builtin.SmallTypes renaming nextOf->K1l,ownedTupleIsFree->K28,ownedTupleHandOut->K4z
open PySem.Builtin.Slice renaming slicePlaces->K1m,sliceAdjust->K2y,sliceApplied->K3j,sliceFields->K7b
open PySem.Value renaming ref->K1s,none->K2n,type->K47,int->K70,bool->K71,str->Z0i,isStrOf->Z1g
open PySem.Around renaming under_plainId->K1v
open PySem.Str renaming ofString->K2o,length->K9s
open PySem.F renaming slot_tuple_iterator_next->K2r,slot_tuple_mul->K3f,plainAttrs_list->K43,slot_zip_next->K4m,plain_list_iadd->K4s,args_tuple_mul_2->K53,args_tuple_add_2->K54,args_tuple_iterator_next_1->K5e,entry_tuple_mul->K5g,entry_tuple_add->K5h,entry_tuple_iterator_next->K5l,slot_tuple_add->K5y,args_object_init_2->K78,slot_tuple_rmul->K7w,slot_list_index->K82,args_zip_next_1->K83,entry_zip_next->K8h,type_list_pop->K8w,slot_list_pop->K8x,slot_int_rmul->K8y
open False renaming elim->K2z
open PySem.SetTable.below renaming go->K37
open PySem.Builtin.Range renaming rangeSize->K38,small->K4y
open Sum renaming inl->K3n,inr->K6y
open PySem.Paired renaming length->K3w
open True renaming intro->K48
open List.cons renaming injEq->K4c
open ForInStep renaming yield->K4d
open PySem.NameKind renaming free->K4g
open PySem.Builtin.List renaming listExtendWith->K4o,listTooLong->K51,listSameRef->K7p
open Ne renaming symm->K4u
open PySem.Obj renaming mapSeq->K59,data_mapFields->K5b,isFreed_of_fields->K68,putSet->K72,mapFields->K9k
open PyProof.Rows.F renaming plain_set_update_loop->K5k,entry_set_update_loop->K88
open PySem.AutoSeq1 renaming idx_int->K5m
open PySem.Calls renaming callWith_builtin->K60,Name_function_global->K7a,evalArgs_plain->K96
open PySem.SeqAt renaming EqAt->K6a,notIn_tupleAt->K9f,notIn_listAt->K9w
open PySem.Shared renaming TypeIs->K6h,heap->Z0u
open PySem.Builtin.Frozenset renaming updateFrom->K6q
open PySem.SetTable.probe renaming go->K7f
open List.Perm renaming eq_of_pairwise->K7q,cons->Z18
open PySem.Builtin.Dict renaming updateFrom->K7y,pairItems->K89
open PySem.Heap.IsSliceOf renaming new->K9p
open PySem.SeqAt.EqAt renaming str_int->K9q,int_str->K9r
open PySem.pickOrder renaming go->Z01
open Function renaming comp_def->Z07
open And renaming intro->Z0k
open PySem.Heap.DictOf renaming new->Z11
open PySem.Data renaming seq->Z19
open Pure renaming pure->Z1h
open Sum.inr renaming inj->Z1j
open Sum.inl renaming inj->Z1k
open PySem PySem.Spec PyProof.Rows L2
set_option hygiene false
local macro_rules
|`(.(r $t))=>`(some (.ref $t))
|`(.(i $t))=>`(some (.int $t))
|`(.(g $t))=>`(some (.tup $t))
|`(.(l $t))=>`(some (.lst $t))
|`(.(s $t))=>`(some (.str $t))
|`(.(p $t))=>`((fun _=>pure (.int $t)))
set_option hygiene true
namespace FT
def zo8:List Bool->List PySem.Stmt->List PySem.Stmt
 | true::r,x::xs=>x::zo8 r xs
 | false::r,_::xs=>zo8 r xs
 | _,_=>[]
def qv:PySem.Program:={ PySem.Challenge.pw_fairtrees_k11_whole_walks_of_commands with main:={ PySem.Challenge.pw_fairtrees_k11_whole_walks_of_commands.main with body:=zo8 [true,false,true,true,false,true,false,true,false,false,true,true,true,true,true,true,true,true,true,true,true,false,true,false,true,false,true,true,true,true,true,true,true,true,true,true,true,true,true,true,true,true,true,true,true,true,true,true,true,true,true] PySem.Challenge.pw_fairtrees_k11_whole_walks_of_commands.main.body } }
def looseQ:List PySem.Str:=[PySem.Str.ofString "lay"]
end FT
section
open PySem PySem.W PyProof.Rows
local macro_rules | `(tactic| o_head $H)=>`(tactic| (refine holds_open (q:=FT.qv) (loose:=FT.looseQ) (Xt:=fun s=>xlAt FT.qv [] s && recOk (RowW.records (OpenRow.toRowW (OpenLaw.row PySem.Challenge.rw_fairtrees_k11_whole_walks_of_commands))) s) (XP:=XL FT.qv []) (Yf:=Hook.obs $H) (Ya:=Hook.val $H) (YP:=Hook.says $H) (N:=30000) ?_ (Hook.of $H) (Hook.keeps $H) (fun s e=>xl_of s (Bool.and_eq_true_iff.mp e).1) XL.keeps (by rfl) (by rfl) (by rfl) (fun s e=>recFacts_of (Bool.and_eq_true_iff.mp e).2) (by rfl) (by first | assumption | decide +kernel) (by decide +kernel) ⟨rfl,rfl,rfl,rfl,rfl,by decide +kernel⟩ ?_ ?_))
set_option maxRecDepth 100000 in
set_option maxHeartbeats 0 in
noncomputable def FT.pack:PSigma fun P:Prop=>P->PySem.Challenge.rw_fairtrees_k11_whole_walks_of_commands.Holds:=by
 refine⟨?P,λh=>?_⟩
 rotate_left
 ·w_on;o_law;k_head
  next=>exact λw=>by kernel_rfl
  next=>w_witness2
  exact h
end
namespace L2
abbrev Key:=Sum Int Str
def z21:Key->Value->Bool
 | .inl k,v=>Value.isInt k v
 | .inr x,v=>Z1g x v
def keyH (w:World):Key->Int
 | .inl k=>hashInt k
 | .inr x=>hashStr w x
theorem J1:∀{k:Key}{v:Value},z21 k v=true->(∃i t,k=K3n i/\v=K70 i t)\/(∃x t,k=K6y x/\v=Z0i x t)
 | .inl i,v,h=>by
  obtain⟨t,e⟩:=Value.isInt_shape (k:=i) (v:=v) h;exact .inl ⟨i,t,rfl,e⟩
 | .inr x,v,h=>by
  obtain⟨t,e⟩:=Value.isStrOf_shape (x:=x) (v:=v) h;exact .inr ⟨x,t,rfl,e⟩
theorem z5C (i:Int) (t:Tok):z21 (.inl i) (.int i t)=true:=by simp[z21,Value.isInt]
theorem z5c (x:Str) (t:Tok):z21 (.inr x) (.str x t)=true:=by simp[z21,Z1g]
theorem zG2 (a b:Int):decide ((K3n a:Key)=K3n b)=(a==b):=by
 by_cases e:a=b
 ·subst e;simp
 ·have h:¬ (K3n a:Key)=K3n b:=λq=>e (Z1k q);rw[decide_eq_false h];exact(beq_eq_false_iff_ne.mpr e).symm
theorem zJ5 (a b:Str):decide ((K6y a:Key)=K6y b)=decide (a=b):=by
 by_cases e:a=b
 ·subst e;simp
 ·have h:¬ (K6y a:Key)=K6y b:=λq=>e (Z1j q);rw[decide_eq_false h,decide_eq_false e]
theorem zG7 (a:Int) (b:Str):decide ((K3n a:Key)=K6y b)=false:=decide_eq_false (λq=>nomatch q)
theorem zG4 (a:Str) (b:Int):decide ((K6y a:Key)=K3n b)=false:=decide_eq_false (λq=>nomatch q)
def z06 (prog:K0d) (w:World):PySem.KeyKind prog w Key where
 is:=z21
 hash:=keyH w
 inj:=λv a b ha hb=>by
  rcases J1 ha with ⟨i,t,rfl,rfl⟩|⟨x,t,rfl,rfl⟩
  ·rcases J1 hb with ⟨j,u,rfl,e⟩|⟨y,u,rfl,e⟩
   ·injection e with e1 _;rw[e1]
   ·exact nomatch e
  ·rcases J1 hb with ⟨j,u,rfl,e⟩|⟨y,u,rfl,e⟩
   ·exact nomatch e
   ·injection e with e1 _;rw[e1]
 byValue:=λk v h=>by
  rcases J1 h with ⟨i,t,rfl,rfl⟩|⟨x,t,rfl,rfl⟩<;>rfl
 pyHash:=λhv h=>by
  rcases J1 hv with ⟨i,t,rfl,rfl⟩|⟨x,t,rfl,rfl⟩
  ·exact wpAny_pyHash_int h
  ·exact wpAny_pyHash_str h
 eqBool:=λhu hv h=>by
  rcases J1 hu with ⟨i,t,rfl,rfl⟩|⟨x,t,rfl,rfl⟩
  ·rcases J1 hv with ⟨j,u,rfl,rfl⟩|⟨y,u,rfl,rfl⟩
   ·rw[zG2]at h;exact wpAny_eqBool_int h
   ·rw[zG7]at h;exact K9r i t y u _ _ _ _ h
  ·rcases J1 hv with ⟨j,u,rfl,rfl⟩|⟨y,u,rfl,rfl⟩
   ·rw[zG4]at h;exact K9q x t j u _ _ _ _ h
   ·rw[zJ5]at h;exact wpAny_eqBool_str h
 «strs»:=λk x t v h=>by
  rcases J1 h with ⟨i,u,rfl,e⟩|⟨y,u,rfl,e⟩
  ·exact nomatch e
  ·injection e with e1 _
   subst e1;cases v<;>rfl
theorem z5S (prog:K0d) (w:World) (i:Int) (t:Tok):(z06 prog w).is (.inl i) (.int i t)=true:=z5C i t
theorem z6g (prog:K0d) (w:World) (x:Str) (t:Tok):(z06 prog w).is (.inr x) (.str x t)=true:=z5c x t
end L2
namespace FT
abbrev Rise (xs:Array Nat):Prop:=xs.toList.Pairwise (·<·)
instance keyMem (k:Key) (ks:List Key):Decidable (k∈ks):=@List.instDecidableMemOfLawfulBEq Key instBEqOfDecidableEq inferInstance k ks
section
variable (w:World)
def KE (k:Key) (e:Int×Value):Prop:=z21 k e.2=true/\e.1=keyH w k
def SetAt (h:Heap) (a:Addr) (ks:List Key):Prop :=
 ∃o es ep t ks',h.get? a=some o/\o.ExactSet/\o.data=.set es ep t/\Paired (KE w) ks' es.toList/\ks'.Perm ks/\ks.Nodup/\es.size<scanBound/\t.fits es.size=true/\Rise t.place /\
  (t.led=true\/w.params.followText "set-order" = true)
end
def IsTup0 (h:Heap) (a:Addr) (items:Array Value):Prop:=∃o,h.get? a=some o/\(o.cls=.type "tuple"/\o.dict=none)/\∃n,o.data=.seq items n
theorem IsTup0.new (h:Heap) (items:Array Value):IsTup0 (h.push { cls:=.type "tuple",data:=.seq items }) h.objs.size items:=⟨_,K03 _ rfl,⟨rfl,rfl⟩,_,rfl⟩
theorem IsTup0.tup {h:Heap}{a:Addr}{items:Array Value}(x:IsTup0 h a items):IsTup h a items:=let ⟨o,e,c,d⟩:=x;⟨o,e,c.1,d⟩
theorem IsTup0.lt {h:Heap}{a:Addr}{items:Array Value}(x:IsTup0 h a items):a<h.objs.size:=let ⟨_,e,_⟩:=x;K02 e
end FT
namespace L2
inductive V where
 | non|bl (b:Bool)|int (i:Int)|str (x:Str)|byt (b:Array UInt8)|flt (b:UInt64)|ref (a:Addr)|ty (n:String)
 deriving DecidableEq
def RelV:V->Value->Prop
 | .non,u=>u=K2n
 | .bl b,u=>u=K71 b
 | .int i,u=>∃t,u=K70 i t
 | .str x,u=>∃t,u=Z0i x t
 | .byt b,u=>∃t,u=Value.bytes b t
 | .flt b,u=>∃t,u=Value.float b t
 | .ref a,u=>u=K1s a
 | .ty n,u=>u=K47 n
abbrev Vals:List V->List Value->Prop:=Paired RelV
theorem Vals.length {xs:List V}{us:List Value}(r:Vals xs us):xs.length=us.length:=K3w r
theorem Vals.get:∀{xs:List V}{us:List Value}{i:Nat}{x:V},Vals xs us->xs[i]?=some x->∃u,us[i]?=some u/\RelV x u
 | _,_,_,_,.nil,e=>by simp at e
 | _,_,0,_,.cons r _,e=>by simp at e;subst e;exact⟨_,rfl,r⟩
 | _,_,i+1,x,.cons _ t,e=>by
  obtain⟨u,h1,h2⟩:=Vals.get (i:=i) (x:=x) t (by simpa using e);exact⟨u,by simpa using h1,h2⟩
theorem Vals.set {x:V}{u:Value}(r:RelV x u):∀{xs:List V}{us:List Value}(i:Nat),Vals xs us->Vals (xs.set i x) (us.set i u)
 | _,_,_,.nil=>.nil
 | _,_,0,.cons _ t=>.cons r t
 | _,_,i+1,.cons q t=>.cons q (Vals.set r i t)
theorem Vals.append:∀{xs ys:List V}{us ws:List Value},Vals xs us->Vals ys ws->Vals (xs++ys) (us++ws)
 | _,_,_,_,.nil,s=>s
 | _,_,_,_,.cons r t,s=>.cons r (Vals.append t s)
theorem Vals.take:∀{xs:List V}{us:List Value}(n:Nat),Vals xs us->Vals (xs.take n) (us.take n)
 | _,_,0,_=>.nil
 | _,_,_+1,.nil=>.nil
 | _,_,n+1,.cons r t=>.cons r (Vals.take n t)
theorem Vals.drop:∀{xs:List V}{us:List Value}(n:Nat),Vals xs us->Vals (xs.drop n) (us.drop n)
 | _,_,0,r=>r
 | _,_,_+1,.nil=>.nil
 | _,_,n+1,.cons _ t=>Vals.drop n t
def RelO:Option V->Option Value->Prop
 | some v,some u=>RelV v u
 | none,none=>True
 | _,_=>False
def KV {κ:Type}:List (κ×V)->List (κ×Value)->Prop:=Paired λ(p:κ×V) (q:κ×Value)=>p.1=q.1/\RelV p.2 q.2
def kV:Key->V
 | .inl i=>.int i
 | .inr x=>.str x
inductive HO where
 | lst (xs:List V)
 | tup (xs:List V)
 | dK (kvs:List (Key×V))|dT (kvs:List (List Key×V))
 | set (ks:List Key)
 | ins (C dx:Addr) (fs:List (Str×V))
 | own (x:Addr)
 | xd (fs:List (Str×V))
 | met (f x:Addr)
 | rng (lo hi:Int)
 | frz (o:Obj) (u:HO)
 | tbl (ps:Array Value)
 | ext (φ:Heap->Prop)
abbrev Hp:=Addr->Option HO
def upd (H:Hp) (a:Addr) (o:HO):Hp:=λb=>if b=a then some o else H b
theorem z02 {H:Hp}{a:Addr}{o:HO}:upd H a o a=some o:=by unfold upd;rw[if_pos rfl]
theorem Y3 {H:Hp}{a b:Addr}{o:HO}(h:b≠a):upd H a o b=H b:=by unfold upd;rw[if_neg h]
theorem zV5 {H:Hp}{a b:Addr}{o u:HO}(h:H a=some o) (h':H b=some u) (d:o≠u):a≠b:=by
 intro e;subst e;rw[h]at h';exact d (K1d h')
theorem Y8 {H:Hp}{a b:Addr}{o:HO}(h:H a=some o) (h':H b=none):a≠b:=by
 intro e;subst e;rw[h]at h';cases h'
section
variable (P:K0d) (w:World)
def ObjOk (H:Hp) (h:Heap) (a:Addr):HO->Prop
 | .lst xs=>xs.length<=sizeLine/\∃(its:List Value) (n:Nat),Vals xs its/\h.get? a=some { cls:=.type "list",data:=.seq its.toArray n }
 | .tup xs=>xs.length<=sizeLine/\∃its:List Value,Vals xs its/\FT.IsTup0 h a its.toArray
 | .dK kvs=>kvs.length<=sizeLine/\(a==K3x)=false/\∃vs,KV kvs vs/\h.DictOf (z06 P w) a vs
 | .dT kvs=>kvs.length<=sizeLine/\(a==K3x)=false/\∃xs:List (List Key×Addr×Value),
  Paired (λ(p:List Key×V) (q:List Key×Addr×Value)=>p.1=q.1/\H q.2.1=.(g (p.1.map kV))/\RelV p.2 q.2.2) kvs xs /\
  ∃o es ep,h.get? a=some o/\o.ExactDict/\o.data=.dict es ep/\es.toList=xs.map (entryOfKey (K9e (z06 P w)))/\(xs.map (·.1)).Nodup
 | .set ks=>FT.SetAt w h a ks
 | .ins C dx fs=>H dx=some (.own a)/\fs.length<=1000/\dx≠a/\h.get? a=some (K8p C dx) /\
  ∃mA,h.Ns1 dx mA/\(∀f,RelO (fs.lookup f) (mA f))/\PySem.Within mA (fs.map (·.1))
 | .own _=>∃o,h.get? a=some o
 | .xd fs=>∃mA,h.Ns1 a mA/\∀f,RelO (fs.lookup f) (mA f)
 | .rng lo hi=>∃t u v,h.get? a=some { cls:=.type "range",data:=.fields #[.int lo t,.int hi u,.int 1 v] }
 | .frz o u=>h.get? a=some o/\ObjOk H h a u
 | .tbl ps=>h.get? a=some { cls:=.none,data:=.fields ps }
 | .met f x=>h.get? a=some (K7g (.ref f) (.ref x))
 | .ext φ=>φ h/\(∃o,h.get? a=some o)/\∀h1 h2:Heap,φ h1->(∀o,h1.get? a=some o->h2.get? a=some o)->φ h2
def HOk (H:Hp) (h:Heap):Prop:=∀a o,H a=some o->ObjOk P w H h a o
end
section
variable {P:K0d}{w:World}{H H':Hp}{h h':Heap}{a:Addr}{o:HO}
theorem ObjOk.lt (x:ObjOk P w H h a o):a<h.objs.size:=by
 cases o with
 | lst xs=>obtain⟨_,_,_,_,e⟩:=x;exact K02 e
 | tup xs=>obtain⟨_,_,_,p⟩:=x;exact p.lt
 | dK kvs=>obtain⟨_,_,_,_,o,_,_,e,_⟩:=x;exact K02 e
 | dT kvs=>obtain⟨_,_,_,_,o,_,_,e,_⟩:=x;exact K02 e
 | set ks=>obtain⟨o,_,_,_,_,e,_⟩:=x;exact K02 e
 | ins C dx fs=>obtain⟨_,_,_,e,_⟩:=x;exact K02 e
 | own y=>obtain⟨_,e⟩:=x;exact K02 e
 | xd fs=>obtain⟨_,⟨_,_,_,e,_⟩,_⟩:=x;exact K02 e
 | rng lo hi=>obtain⟨_,_,_,e⟩:=x;exact K02 e
 | frz ob u=>obtain⟨e,_⟩:=x;exact K02 e
 | tbl ps=>exact K02 (show h.get? a=some _ from x)
 | met f y=>exact K02 (show h.get? a=some _ from x)
 | ext φ=>obtain⟨_,⟨_,e⟩,_⟩:=x;exact K02 e
theorem Paired.mapP {α β:Type}{F G:α->β->Prop}:∀{l₁:List α}{l₂:List β},Paired F l₁ l₂->(∀a b,F a b->G a b)->Paired G l₁ l₂
 | _,_,.nil,_=>.nil
 | _,_,.cons r t,f=>.cons (f _ _ r) (Paired.mapP t f)
theorem ObjOk.stay (x:ObjOk P w H h a o) (k:∀b u,(b=a\/H b=some (.own a))->h.get? b=some u->h'.get? b=some u)
 (ho:∀b,H b=some (.own a)->H' b=some (.own a)) (ht:∀b xs,H b=.(g xs)->H' b=.(g xs)):ObjOk P w H' h' a o:=by
 induction o with
 | lst xs=>obtain⟨z,its,n,r,e⟩:=x;exact⟨z,its,n,r,k _ _ (.inl rfl) e⟩
 | tup xs=>obtain⟨z,its,r,ob,e,c⟩:=x;exact⟨z,its,r,ob,k _ _ (.inl rfl) e,c⟩
 | dK kvs=>obtain⟨z,y,vs,r,ob,es,ep,e,c⟩:=x;exact⟨z,y,vs,r,ob,es,ep,k _ _ (.inl rfl) e,c⟩
 | dT kvs =>
  obtain⟨z,y,xs,r,ob,es,ep,e,c⟩:=x;exact⟨z,y,xs,Paired.mapP r λp q z=>⟨z.1,ht _ _ z.2.1,z.2.2⟩,ob,es,ep,k _ _ (.inl rfl) e,c⟩
 | set ks=>obtain⟨ob,es,ep,t,k',e,c⟩:=x;exact⟨ob,es,ep,t,k',k _ _ (.inl rfl) e,c⟩
 | ins C dx fs =>
  obtain⟨d,z,ne,e,mA,⟨od,es,ep,e2,c⟩,r⟩:=x;exact⟨ho _ d,z,ne,k _ _ (.inl rfl) e,mA,⟨od,es,ep,k _ _ (.inr d) e2,c⟩,r⟩
 | own y=>obtain⟨ob,e⟩:=x;exact⟨ob,k _ _ (.inl rfl) e⟩
 | xd fs=>obtain⟨mA,⟨od,es,ep,e,c⟩,r⟩:=x;exact⟨mA,⟨od,es,ep,k _ _ (.inl rfl) e,c⟩,r⟩
 | rng lo hi=>obtain⟨t,u,v,e⟩:=x;exact⟨t,u,v,k _ _ (.inl rfl) e⟩
 | frz ob u ih=>obtain⟨e,q⟩:=x;exact⟨k _ _ (.inl rfl) e,ih q⟩
 | tbl ps =>
  have e:h.get? a=some { cls:=.none,data:=.fields ps }:=x;show h'.get? a=some { cls:=.none,data:=.fields ps };exact k a _ (.inl rfl) e
 | met f y =>
  have e:h.get? a=some (K7g (.ref f) (.ref y)):=x;show h'.get? a=some (K7g (.ref f) (.ref y));exact k a _ (.inl rfl) e
 | ext φ=>obtain⟨p,⟨o,e⟩,st⟩:=x;exact⟨st _ _ p λo q=>k _ _ (.inl rfl) q,⟨o,k _ _ (.inl rfl) e⟩,st⟩
theorem HOk.lt (x:HOk P w H h) (e:H a=some o):a<h.objs.size:=(x a o e).lt
theorem HOk.fresh (x:HOk P w H h) (e:h.objs.size<=a):H a=none:=by
 cases q:H a with
 | none=>rfl
 | some u=>exact absurd (K0j (x.lt q) e) (K2k _)
theorem HOk.kept (x:HOk P w H h) (k:∀b u,h.get? b=some u->h'.get? b=some u):HOk P w H h':=λa o e =>
 (x a o e).stay (λb u _ q=>k b u q) (λ_ q=>q) λ_ _ q=>q
theorem HOk.laid (x:HOk P w H h) (k:∀b u,h.get? b=some u->h'.get? b=some u) (hp:h.objs.size<=a) (new:ObjOk P w (upd H a o) h' a o):HOk P w (upd H a o) h':=λb u e=>by
 have hn:=x.fresh hp;by_cases hb:b=a
 ·subst hb;rw[z02]at e;cases e;exact new
 ·rw[Y3 hb]at e;exact(x b u e).stay (λc v _ q=>k c v q) (λc q=>by rw[Y3 (Y8 q hn)];exact q) λc xs q=>by rw[Y3 (Y8 q hn)];exact q
end
def Rd (H:Hp) (a:Addr) (u:HO):Prop:=H a=some u\/∃o,H a=some (.frz o u)
theorem Rd.ok {P:K0d}{w:World}{H:Hp}{h:Heap}{a:Addr}{u:HO}(r:Rd H a u) (x:HOk P w H h):ObjOk P w H h a u:=by
 rcases r with r|⟨o,r⟩
 ·exact x a u r
 ·obtain⟨_,q⟩:=x a _ r;exact q
def Mut:Option HO->Prop
 | .(l _)=>True
 | some (.dK _)=>True
 | some (.dT _)=>True
 | some (.set _)=>True
 | some (.ins _ _ _)=>True
 | some (.ext _)=>True
 | _=>False
section
variable {P:K0d}{w:World}{H:Hp}{h h':Heap}{x e:Addr}{o':HO}
theorem HOk.write (ok:HOk P w H h) (mu:Mut (H x)) (he:e=x\/H e=some (.own x)) (k:∀b u,b≠e->h.get? b=some u->h'.get? b=some u) (heo:∃u,h'.get? e=some u)
 (new:ObjOk P w (upd H x o') h' x o'):HOk P w (upd H x o') h':=λb u q=>by
 have nown:∀c y,H c=some (.own y)->c≠x:=λc y r z=>by subst z;rw[r]at mu;exact mu
 have ntup:∀c xs,H c=.(g xs)->c≠x:=λc xs r z=>by subst z;rw[r]at mu;exact mu
 by_cases hb:b=x
 ·subst hb;rw[z02]at q;cases q;exact new
 ·rw[Y3 hb]at q;by_cases hbe:b=e
  ·have q':H b=some (.own x):=by
    rcases he with z|z
    ·exact absurd (hbe.trans z) hb
    ·rw[hbe];exact z
   rw[q]at q';cases q';obtain⟨v,hv⟩:=heo;exact⟨v,by rw[hbe];exact hv⟩
  ·refine(ok b u q).stay (λc v hc r=>k c v ?_ r) (λc r=>by rw[Y3 (nown c b r)];exact r) λc xs r=>by rw[Y3 (ntup c xs r)];exact r
   rcases hc with rfl|hc
   ·exact hbe
   ·rintro rfl;rcases he with z|z
    ·exact nown c b hc z
    ·rw[hc]at z;cases z;exact hb rfl
end
structure Un (fs ex:List Addr) (H H':Hp) (h h':Heap):Prop where
 keep:∀b o,h.get? b=some o->H b=none->b∉fs->b∉ex->h'.get? b=some o
 slot:∀b o,h.get? b=some o->H b=none->b∈fs->b∉ex->∃sl,h'.get? b=some { o with slots:=sl }
 free:∀b o,h.get? b=some o->H b=none->b∉ex->H' b=none
 there:∀b o,h.get? b=some o->b∉ex->∃o',h'.get? b=some o'
 tups:∀b xs,H b=.(g xs)->H' b=.(g xs)
 frzs:∀b o u,H b=some (.frz o u)->H' b=some (.frz o u)
 tbls:∀b ps,H b=some (.tbl ps)->∃more,H' b=some (.tbl (ps++more))
section
variable {fs fs' ex ex':List Addr}{H H1 H2:Hp}{h h1 h2 h':Heap}{a x e:Addr}{o:HO}
theorem Un.any (u:Un fs ex H H1 h h1) {b:Addr}{ob:Obj}(q:h.get? b=some ob) (n:H b=none) (hx:b∉ex):∃sl,h1.get? b=some { ob with slots:=sl }:=by
 by_cases hb:b∈fs
 ·exact u.slot b ob q n hb hx
 ·exact⟨ob.slots,u.keep b ob q n hb hx⟩
theorem Un.kept (k:∀b u,h.get? b=some u->h'.get? b=some u):Un fs ex H H h h' :=
 ⟨λb ob q _ _ _=>k b ob q,λb ob q _ _ _=>⟨ob.slots,k b ob q⟩,λ_ _ _ n _=>n,λb ob q _=>⟨ob,k b ob q⟩,λ_ _ q=>q,λ_ _ _ q=>q,λ_ ps q=>⟨#[],by rw[q];simp⟩⟩
theorem Un.refl:Un fs ex H H h h:=Un.kept λ_ _ q=>q
theorem Un.laid (k:∀b u,h.get? b=some u->h'.get? b=some u) (hp:h.objs.size<=a) (hn:H a=none):Un fs ex H (upd H a o) h h' where
 keep:=λb u q _ _ _=>k b u q
 slot:=λb u q _ _ _=>⟨u.slots,k b u q⟩
 free:=λb u q n _=>by rw[Y3 (K0g (K0j (K02 q) hp))];exact n
 there:=λb u q _=>⟨u,k b u q⟩
 tups:=λb xs q=>by rw[Y3 (Y8 q hn)];exact q
 frzs:=λb u xs q=>by rw[Y3 (Y8 q hn)];exact q
 tbls:=λb ps q=>⟨#[],by rw[Y3 (Y8 q hn),q];simp⟩
theorem Un.write (mu:Mut (H x)) (he:e=x\/H e=some (.own x)) (k:∀b u,b≠e->h.get? b=some u->h'.get? b=some u) (heo:∃u,h'.get? e=some u):Un fs ex H (upd H x o) h h':=by
 have hx:∀b,H b=none->b≠x:=λb n z=>by subst z;rw[n]at mu;exact mu
 have hb:∀b,H b=none->b≠e:=λb n z=>by
  subst z;rcases he with r|r
  ·exact hx b n r
  ·rw[n]at r;cases r
 have hm:∀b u,H b=some u->¬ Mut (some u)->b≠x:=λb u q nm z=>by subst z;rw[q]at mu;exact nm mu
 refine⟨λb u q n _ _=>k b u (hb b n) q,λb u q n _ _=>⟨u.slots,k b u (hb b n) q⟩,λb u q n _=>by rw[Y3 (hx b n)];exact n,λb u q _=>?_,
  λb xs q=>by rw[Y3 (hm b _ q λz=>z)];exact q,λb u xs q=>by rw[Y3 (hm b _ q λz=>z)];exact q,λb ps q=>⟨#[],by rw[Y3 (hm b _ q λz=>z),q];simp⟩⟩
 by_cases hbe:b=e
 ·subst hbe;exact heo
 ·exact⟨u,k b u hbe q⟩
end
def trk (h:Heap) (H:Hp):List Addr:=(K0h h.objs.size).filter λa=>(H a).isSome
def hidT (h:Heap) (H:Hp):Heap:=PySem.W.hideAll h (trk h H)
theorem z8Q (h:Heap) (H:Hp):(hidT h H).objs.size=h.objs.size:=PySem.W.hideAll_size _ _
theorem zg4 {h:Heap}{H:Hp}{b:Addr}{o:Obj}(e:h.get? b=some o) (n:H b=none):(hidT h H).get? b=some o :=
 PySem.W.hideAll_get _ e λhm=>by
  have q:(H b).isSome=true:=(Z10.mp hm).2;rw[n]at q;simp at q
theorem zw9 {h:Heap}{H:Hp}{b:Addr}{o:Obj}(e:(hidT h H).get? b=some o):h.get? b=some o/\H b=none:=by
 have e':h.get? b=some o:=PySem.W.of_hideAll (trk h H) e;refine⟨e',?_⟩;cases q:H b with
 | none=>rfl
 | some x =>
  have hm:b∈trk h H:=Z10.mpr ⟨K29.mpr (K02 e'),by simp[q]⟩;have z:(hidT h H).get? b=none:=PySem.W.hideAll_none (trk h H) hm;rw[z]at e;cases e
def zy7 (g h:Heap) (L:Addr):List (Addr×Obj):=(K0h h.objs.size).filterMap λa=>if a=L\/(g.get? a).isSome=true then none else (h.get? a).map λo=>(a,o)
def rest (g h:Heap) (L d:Addr):List (Addr×Obj):=(zy7 g h L).filter λp=>decide (p.1≠d)
structure Mod (K:K2) (mg:Str->Option Value) (base:Heap):Prop where
 kin:K.In base
 glob:base.Ns K1x mg
 blt:∃mb,base.Ns builtinsNs mb/\∀x:Str,x≠"__name__"->mb x=K4w x
 nolimit:base.NoLimit
structure Cx where
 prog:K0d
 w:World
 K:K2
 mg:Str->Option Value
 base:Heap
 A:Around
 N:List Str
 s₀:Shared
 H₀:Hp
 env:Env
 outer:List Env
 stack:List Env
 ex:List Addr
 fn:Str->Bool
 calm:Bool
 pn:List (Addr×Obj)
 xe:Value->Shared->Prop
def frs (l:List Env):List Addr:=l.filterMap (·.frame)
abbrev Cx.fs (X:Cx):List Addr:=frs X.outer
def Vis (sc:Scope) (x:Str):Prop:=sc.names.lookup x=some .local\/sc.names.lookup x=some .cell\/sc.names.lookup x=some .free
def Loc (sc:Scope) (x:Str):Prop:=sc.names.lookup x=some .local\/sc.names.lookup x=some .cell
def Look (env:Env) (h:Heap) (m:Str->Option Value) (x:Str) (u:Value):Prop :=
 (env.kindOf x=some .local/\m x=some u)\/((env.kindOf x=some .cell\/env.kindOf x=some .free)/\∃c,env.cells.lookup x=some c/\h.IsCell c (some u))
structure Cx.Ok (X:Cx):Prop where
 mod:Mod X.K X.mg X.base
 kind:X.env.scope.kind=.function
 glob:X.env.globals=K1x
 blt:X.env.builtins=builtinsNs
 above:X.s₀.heap.objs.size<=X.env.locals
 inj:∀x y c,X.env.cells.lookup x=some c->X.env.cells.lookup y=some c->x=y
 has:∀x,(X.env.kindOf x=some .cell\/X.env.kindOf x=some .free)->∃c,X.env.cells.lookup x=some c
 cab:∀x c,X.fn x=true->X.env.cells.lookup x=some c->X.s₀.heap.objs.size<=c
 hd:X.calm=true->X.A.handled=none
 frames:X.A.frames=some X.stack
 stk:X.stack=X.outer\/(X.stack=X.env::X.outer/\X.env.frame=some X.env.locals)
 exf:∀b∈X.ex,b≠X.env.locals/\∀x c,X.env.cells.lookup x=some c->c≠b
 bs:∀b o,X.base.get? b=some o->X.s₀.heap.get? b=some o/\X.H₀ b=none
 bsz:X.base.objs.size<=X.s₀.heap.objs.size
 noex:∀b o,X.base.get? b=some o->b∉X.ex
 exfs:∀b∈X.ex,b∉X.fs
 funs:X.s₀.heap.FunFrames X.base X.outer
 frf:∀b∈X.fs,X.H₀ b=none
structure Inv (X:Cx) (pins:List (Addr×Obj)) (σ:List (Option V)) (H:Hp) (s:Shared):Prop where
 ok:X.Ok
 os:s.os=X.s₀.os
 bare:K7m s.gens
 base:Un X.fs X.ex X.H₀ H X.s₀.heap s.heap
 loc:∃m,s.heap.Ns X.env.locals m/\∀(i:Nat) (x:Str) (v:V),X.N[i]?=some x->σ[i]?=some (some v)->Vis X.env.scope x->∃u,RelV v u/\Look X.env s.heap m x u
 cell:∀x c,X.env.cells.lookup x=some c->∃v,s.heap.IsCell c v
 free:H X.env.locals=none
 freeC:∀x c,X.env.cells.lookup x=some c->H c=none
 pin:∀p∈X.pn++pins,s.heap.get? p.1=some p.2/\H p.1=none/\p.1≠X.env.locals/\p.1∉X.fs/\∀v,p.2.data≠.cell v
 hok:HOk X.prog X.w H s.heap
 len:σ.length=X.N.length
section
variable {X:Cx}{pins:List (Addr×Obj)}{σ:List (Option V)}{H H':Hp}{s:Shared}{h':Heap}
theorem Cx.Ok.nofr (ok:X.Ok) {b:Addr}{o:Obj}(e:X.base.get? b=some o):b∉X.fs:=λhb=>by
 have:=(ok.funs.mem hb).1;rw[e]at this;cases this
theorem Inv.bs (I:Inv X pins σ H s):∀b o,X.base.get? b=some o->s.heap.get? b=some o/\H b=none:=λb o e =>
 ⟨I.base.keep b o (I.ok.bs b o e).1 (I.ok.bs b o e).2 (I.ok.nofr e) (I.ok.noex b o e),I.base.free b o (I.ok.bs b o e).1 (I.ok.bs b o e).2 (I.ok.noex b o e)⟩
theorem Inv.bk (I:Inv X pins σ H s):∀b o,X.base.get? b=some o->s.heap.get? b=some o:=λb o e=>(I.bs b o e).1
theorem Inv.mod (I:Inv X pins σ H s):Mod X.K X.mg X.base:=I.ok.mod
theorem Inv.kIn (I:Inv X pins σ H s):X.K.In s.heap:=I.ok.mod.kin.keeps I.bk
theorem Inv.fr (I:Inv X pins σ H s):∃m,Fr X.base X.env.locals s.heap m :=
 let ⟨m,hn,_⟩:=I.loc
 ⟨m,hn,I.bk,K0x I.ok.bsz I.ok.above⟩
theorem Inv.lt (I:Inv X pins σ H s):X.env.locals<s.heap.objs.size:=let ⟨_,hn,_⟩:=I.loc;hn.lt
theorem Inv.sz (I:Inv X pins σ H s):X.s₀.heap.objs.size<=s.heap.objs.size:=K0x I.ok.above (K5r I.lt)
theorem Inv.nofs (I:Inv X pins σ H s) {a:Addr}(h:s.heap.objs.size<=a):a∉X.fs:=λhb=>by
 obtain⟨_,o,ho,_⟩:=I.ok.funs.mem hb;exact absurd (K0j (K02 ho) (K0x I.sz h)) (K2k _)
theorem Inv.cne (I:Inv X pins σ H s):∀x c,X.env.cells.lookup x=some c->c≠X.env.locals:=λx c e z=>by
 obtain⟨v,o,ho,hd⟩:=I.cell x c e;obtain⟨m,⟨o',es,ep,ho',hd',_⟩,_⟩:=I.loc;rw[z,ho']at ho;cases ho;rw[hd']at hd;cases hd
theorem Inv.funs (I:Inv X pins σ H s):s.heap.FunFrames X.base X.outer:=by
 have all:∀(l:List Env),(∀b∈frs l,b∈X.fs)->X.s₀.heap.FunFrames X.base l->s.heap.FunFrames X.base l:=by
  intro l;induction l with
  | nil=>intro _ _;trivial
  | cons env r ih =>
   intro hs hl;obtain⟨hk,⟨L,o,hf,hn,ho,hd⟩,hr⟩:=hl;have hL:L∈X.fs:=hs L (by unfold frs;rw[K2u,hf];exact K0u);obtain⟨sl,e⟩:=I.base.slot L o ho (I.ok.frf L hL) hL λz=>I.ok.exfs L z hL;exact⟨hk,⟨L,_,hf,hn,e,hd⟩,ih (λb hb=>hs b (by unfold frs;rw[K2u,hf];exact K0o _ hb)) hr⟩
 exact all X.outer (λ_ hb=>hb) I.ok.funs
theorem Inv.stack (I:Inv X pins σ H s):s.heap.FunFrames X.base X.stack:=by
 rcases I.ok.stk with e|⟨e,hf⟩
 ·rw[e];exact I.funs
 ·rw[e];obtain⟨m,hn,_⟩:=I.loc;refine .cons (by rw[I.ok.kind];decide) hf hn ?_ I.funs;exact K9a (K0x I.ok.bsz I.ok.above)
theorem Inv.stkSub (I:Inv X pins σ H s):∀b∈frs X.stack,b∈X.env.locals::X.fs:=λb hb=>by
 rcases I.ok.stk with e|⟨e,hf⟩
 ·rw[e]at hb;exact K0o _ hb
 ·rw[e]at hb;unfold frs at hb;rw[K2u,hf]at hb;exact hb
theorem Inv.stkFree (I:Inv X pins σ H s):∀b∈frs X.stack,H b=none:=λb hb=>by
 rcases K0c.mp (I.stkSub b hb) with e|hb
 ·rw[e];exact I.free
 ·obtain⟨_,o,ho,_⟩:=I.ok.funs.mem hb;exact I.base.free b o ho (I.ok.frf b hb) λz=>I.ok.exfs b z hb
theorem Inv.step {g':Array K6m}{t':Nat}{d':Drawn}{ch:List Addr}(I:Inv X pins σ H s)
 (hch:∀b∈ch,(b∈X.ex\/X.s₀.heap.objs.size<=b)/\b≠X.env.locals/\(∀x c,X.env.cells.lookup x=some c->c≠b)/\∀p∈X.pn++pins,p.1≠b)
 (keep:∀b o,b≠X.env.locals->b∉X.fs->b∉ch->s.heap.get? b=some o->H b=none->h'.get? b=some o)
 (slot:∀b o,b≠X.env.locals->b∈X.fs->b∉ch->s.heap.get? b=some o->H b=none->∃sl,h'.get? b=some { o with slots:=sl }) (free:∀b o,b∉ch->s.heap.get? b=some o->H b=none->H' b=none)
 (there:∀b o,b∉ch->s.heap.get? b=some o->∃o',h'.get? b=some o')
 (tups:∀b xs,H b=.(g xs)->H' b=.(g xs)) (frzs:∀b o u,H b=some (.frz o u)->H' b=some (.frz o u)) (tbls:∀b ps,H b=some (.tbl ps)->∃more,H' b=some (.tbl (ps++more)))
 (ns:∀m,s.heap.Ns X.env.locals m->h'.Ns X.env.locals m) (hok:HOk X.prog X.w H' h') (hg:K7m g') :
 Inv X pins σ H' { s with heap:=h',gens:=g',drawn:=d',toks:=t' }:=by
 have neL:∀b o,X.s₀.heap.get? b=some o->b≠X.env.locals:=λb o e=>K0g (K0j (K02 e) I.ok.above);have neC:∀b o,X.s₀.heap.get? b=some o->b∉X.ex->b∉ch:=λb o e hx hb=>by
  rcases(hch b hb).1 with z|z
  ·exact hx z
  ·exact absurd (K0j (K02 e) z) (K2k _)
 have cellK:∀x c,X.env.cells.lookup x=some c->∀v,s.heap.IsCell c v->h'.IsCell c v:=λx c e v ⟨o,ho,hd⟩=>by
  have nch:c∉ch:=λz=>(hch c z).2.2.1 x c e rfl;by_cases hc:c∈X.fs
  ·obtain⟨sl,q⟩:=slot c o (I.cne x c e) hc nch ho (I.freeC x c e);exact⟨_,q,hd⟩
  ·exact⟨o,keep c o (I.cne x c e) hc nch ho (I.freeC x c e),hd⟩
 refine⟨I.ok,I.os,hg,⟨λb o e n hb hx=>?_,λb o e n hb hx=>?_,λb o e n hx=>?_,λb o e hx=>?_,λb xs e=>tups b xs (I.base.tups b xs e),λb o xs e=>frzs b o xs (I.base.frzs b o xs e),λb ps e=>?_⟩,?_,λx c e=>?_,?_,λx c e=>?_,λp hp=>?_,hok,I.len⟩
 ·exact keep b o (neL b o e) hb (neC b o e hx) (I.base.keep b o e n hb hx) (I.base.free b o e n hx)
 ·obtain⟨sl,e1⟩:=I.base.slot b o e n hb hx;obtain⟨sl',e2⟩:=slot b _ (neL b o e) hb (neC b o e hx) e1 (I.base.free b o e n hx);exact⟨sl',e2⟩
 ·obtain⟨o',e1⟩:=I.base.there b o e hx;exact free b o' (neC b o e hx) e1 (I.base.free b o e n hx)
 ·obtain⟨o',e1⟩:=I.base.there b o e hx;exact there b o' (neC b o e hx) e1
 ·obtain⟨m1,e1⟩:=I.base.tbls b ps e;obtain⟨m2,e2⟩:=tbls b _ e1;exact⟨m1++m2,by rw[e2,Array.append_assoc]⟩
 ·obtain⟨m,hn,hl⟩:=I.loc;refine⟨m,ns m hn,λi x v e1 e2 e3=>?_⟩;obtain⟨u,r,l⟩:=hl i x v e1 e2 e3;refine⟨u,r,?_⟩;rcases l with l|⟨k,c,e,z⟩
  ·exact .inl l
  ·exact .inr ⟨k,c,e,cellK x c e _ z⟩
 ·obtain⟨v,z⟩:=I.cell x c e;exact⟨v,cellK x c e v z⟩
 ·obtain⟨m,⟨o,_,_,ho,_⟩,_⟩:=I.loc;exact free _ o (λz=>(hch _ z).2.1 rfl) ho I.free
 ·obtain⟨v,o,ho,hd⟩:=I.cell x c e;exact free c o (λz=>(hch c z).2.2.1 x c e rfl) ho (I.freeC x c e)
 ·obtain⟨e,n,ne,nf,d⟩:=I.pin p hp;have nch:p.1∉ch:=λz=>(hch p.1 z).2.2.2 p hp rfl;exact⟨keep p.1 p.2 ne nf nch e n,free p.1 p.2 nch e n,ne,nf,d⟩
theorem Inv.un {t':Nat}(I:Inv X pins σ H s) (u:Un X.fs [] H H' s.heap h') (hok:HOk X.prog X.w H' h'):Inv X pins σ H' { s with heap:=h',toks:=t' }:=by
 obtain⟨m,⟨o,es,ep,ho,r⟩,_⟩:=id I.loc;obtain⟨sl,hL⟩:=u.any ho I.free (by simp);exact I.step (g':=s.gens) (d':=s.drawn) (ch:=[]) (λ_ z=>nomatch z) (λb o _ hb _ e n=>u.keep b o e n hb (by simp)) (λb o _ hb _ e n=>u.slot b o e n hb (by simp)) (λb o _ e n=>u.free b o e n (by simp)) (λb o _ e=>u.there b o e (by simp)) u.tups u.frzs u.tbls (λm' hm=>by
  obtain⟨o',es',ep',ho',r'⟩:=hm;rw[ho]at ho';cases ho';exact⟨_,es',ep',hL,r'⟩) hok I.bare
theorem Inv.call {g':Array K6m}{t':Nat}{d':Drawn}{ch:List Addr}(I:Inv X pins σ H s) (u:Un (frs X.stack) ch H H' s.heap h') (hok:HOk X.prog X.w H' h') (hg:K7m g')
 (hch:∀b∈ch,(b∈X.ex\/X.s₀.heap.objs.size<=b)/\b≠X.env.locals/\(∀x c,X.env.cells.lookup x=some c->c≠b)/\∀p∈X.pn++pins,p.1≠b) :
 Inv X pins σ H' { s with heap:=h',gens:=g',drawn:=d',toks:=t' }:=by
 obtain⟨m,⟨o,es,ep,ho,r⟩,_⟩:=id I.loc;obtain⟨sl,hL⟩:=u.any ho I.free λz=>(hch _ z).2.1 rfl;exact I.step (ch:=ch) hch (λb o hL hb hc e n=>u.keep b o e n (λz=>(K0c.mp (I.stkSub b z)).elim hL hb) hc) (λb o _ _ hc e n=>u.any e n hc) (λb o hc e n=>u.free b o e n hc) (λb o hc e=>u.there b o e hc) u.tups u.frzs u.tbls (λm' hm=>by
  obtain⟨o',es',ep',ho',r'⟩:=hm;rw[ho]at ho';cases ho';exact⟨_,es',ep',hL,r'⟩) hok hg
theorem Inv.turned {t':Nat}{it:Addr}(I:Inv X pins σ H s) (k:∀b o,b≠it->s.heap.get? b=some o->h'.get? b=some o) (hn:H it=none) (hL:it≠X.env.locals)
 (h1:it∈X.ex\/X.s₀.heap.objs.size<=it) (h2:∀x c,X.env.cells.lookup x=some c->c≠it) (h3:∀p∈X.pn++pins,p.1≠it):Inv X pins σ H { s with heap:=h',toks:=t' }:=by
 have nit:∀b u,H b=some u->b≠it:=λb u e z=>by rw[z,hn]at e;cases e
 refine I.step (g':=s.gens) (d':=s.drawn) (ch:=[it]) (λb hb=>?_) (λb o _ _ hc e _=>k b o (λz=>hc (by simp[z])) e) (λb o _ _ hc e _=>⟨o.slots,k b o (λz=>hc (by simp[z])) e⟩) (λ_ _ _ _ n=>n)
  (λb o hc e=>⟨o,k b o (λz=>hc (by simp[z])) e⟩) (λ_ _ e=>e) (λ_ _ _ e=>e) (λb ps e=>⟨#[],by rw[e];simp⟩) (λm hm=>?_) (λb u e=>?_) I.bare
 ·have e:b=it:=by simpa using hb
  subst e;exact⟨h1,hL,h2,h3⟩
 ·obtain⟨o,es,ep,ho,r⟩:=hm;exact⟨o,es,ep,k _ o (K4u hL) ho,r⟩
 ·refine(I.hok b u e).stay (λc v hc q=>k c v ?_ q) (λ_ q=>q) λ_ _ q=>q;rcases hc with z|z
  ·rw[z];exact nit b u e
  ·exact nit c _ z
theorem Inv.tok (I:Inv X pins σ H s) (t:Nat):Inv X pins σ H { s with toks:=t }:=I.un (h':=s.heap) (t':=t) Un.refl I.hok
theorem Inv.kept {t':Nat}(I:Inv X pins σ H s) (k:∀b u,s.heap.get? b=some u->h'.get? b=some u):Inv X pins σ H { s with heap:=h',toks:=t' }:=I.un (Un.kept k) (I.hok.kept k)
theorem Inv.laid {a:Addr}{o:HO}{t':Nat}(I:Inv X pins σ H s) (k:∀b u,s.heap.get? b=some u->h'.get? b=some u) (hp:s.heap.objs.size<=a) (new:ObjOk X.prog X.w (upd H a o) h' a o) :
 Inv X pins σ (upd H a o) { s with heap:=h',toks:=t' }:=I.un (Un.laid k hp (I.hok.fresh hp)) (I.hok.laid k hp new)
theorem Inv.write {x e:Addr}{o:HO}{t':Nat}(I:Inv X pins σ H s) (mu:Mut (H x)) (he:e=x\/H e=some (.own x)) (k:∀b u,b≠e->s.heap.get? b=some u->h'.get? b=some u) (heo:∃u,h'.get? e=some u)
 (new:ObjOk X.prog X.w (upd H x o) h' x o):Inv X pins σ (upd H x o) { s with heap:=h',toks:=t' }:=I.un (Un.write mu he k heo) (I.hok.write mu he k heo new)
theorem Inv.weak {σ':List (Option V)}(I:Inv X pins σ H s) (hl:σ'.length=σ.length) (w:∀(i:Nat) v,σ'[i]?=some (some v)->σ[i]?=some (some v)):Inv X pins σ' H s :=
 ⟨I.ok,I.os,I.bare,I.base,let ⟨m,hn,hl'⟩:=I.loc;⟨m,hn,λi x v e1 e2 e3=>hl' i x v e1 (w i v e2) e3⟩,I.cell,I.free,I.freeC,I.pin,I.hok,hl.trans I.len⟩
theorem Inv.pins_of {pins':List (Addr×Obj)}(I:Inv X pins σ H s) (h:∀p∈pins',s.heap.get? p.1=some p.2/\H p.1=none/\p.1≠X.env.locals/\p.1∉X.fs/\∀v,p.2.data≠.cell v):Inv X pins' σ H s :=
 ⟨I.ok,I.os,I.bare,I.base,I.loc,I.cell,I.free,I.freeC,λp hp=>(K0n.mp hp).elim (λz=>I.pin p (K2g _ z)) (h p),I.hok,I.len⟩
theorem z6w {N:List Str}(hN:N.Nodup) {i j:Nat}{x:Str}(a:N[i]?=some x) (b:N[j]?=some x):i=j:=by
 obtain⟨h1,e1⟩:=K7.mp a;obtain⟨h2,e2⟩:=K7.mp b;exact(List.getElem_inj hN).mp (e1.trans e2.symm)
theorem z83 {M:Model}{A:Around}{E:Value->Shared->Prop}{i:Nat}{x:Str}{v:V}{u:Value}{Q:Unit->Shared->Prop}(I:Inv X pins σ H s) (hN:X.N.Nodup) (hi:X.N[i]?=some x) (hx:Loc X.env.scope x) (r:RelV v u)
 (h:∀s',Inv X pins (σ.set i (some v)) H s'->(∃a,K3c a s.heap s'.heap/\(a=X.env.locals\/X.env.cells.lookup x=some a))->Q () s') (hf:X.fn x=true\/X.env.scope.names.lookup x=some .local:=by first|exact .inl rfl|exact .inr rfl|assumption):wpAny M A (storeName X.env x u) Q E s:=by
 obtain⟨m,hn,hl⟩:=id I.loc;have hcls:(X.env.scope.kind==.class||(X.env.scope.kind==.module&&X.env.locals != X.env.globals))=false:=by rw[I.ok.kind];rfl
 have hiσ:i<σ.length:=by rw[I.len];exact(K7.mp hi).1
 have cne:=I.cne;have tracked:∀{a:Addr} {h':Heap},(∃o,s.heap.get? a=some o/\H a=none)->K3c a s.heap h'->HOk X.prog X.w H h':=λ{a h'} ha hs b ob e=>by
  obtain⟨_,_,hfree⟩:=ha;refine(I.hok b ob e).stay (λc w' hc q=>(hs.2 c ?_).trans q) (λ_ q=>q) λ_ _ q=>q;rintro rfl;rcases hc with rfl|hc
  ·rw[hfree]at e;cases e
  ·rw[hfree]at hc;cases hc
 rcases hx with hk|hk
 ·refine wpAny_storeName_local hk hn (λh' hn' hs=>?_) hcls;obtain⟨oL,_,_,hoL,_⟩:=id hn;refine h _ ⟨I.ok,I.os,I.bare,⟨λb o e n hb hx=>?_,λb o e n hb hx=>?_,I.base.free,λb o e hx=>?_,I.base.tups,I.base.frzs,I.base.tbls⟩,⟨_,hn',λj y v' e1 e2 e3=>?_⟩,λy c e=>?_,I.free,I.freeC,λp hp=>?_,tracked ⟨oL,hoL,I.free⟩ hs,by simpa using I.len⟩ ⟨_,hs,.inl rfl⟩
  ·exact(hs.2 b (K0g (K0j (K02 e) I.ok.above))).trans (I.base.keep b o e n hb hx)
  ·obtain⟨sl,e1⟩:=I.base.slot b o e n hb hx;exact⟨sl,(hs.2 b (K0g (K0j (K02 e) I.ok.above))).trans e1⟩
  ·obtain⟨o',e1⟩:=I.base.there b o e hx;exact⟨o',(hs.2 b (K0g (K0j (K02 e) I.ok.above))).trans e1⟩
  ·by_cases hj:j=i
   ·subst hj;rw[hi]at e1;cases e1;rw[K1a hiσ]at e2;cases e2;exact⟨u,r,.inl ⟨hk,by simp⟩⟩
   ·rw[K1f (K4u hj)]at e2;obtain⟨u',r',q⟩:=hl j y v' e1 e2 e3;refine⟨u',r',?_⟩;rcases q with ⟨k,e⟩|⟨k,c,e,z⟩
    ·refine .inl ⟨k,?_⟩;have:y≠x:=λe=>hj (z6w hN e1 (e ▸ hi));simp[this,e]
    ·exact .inr ⟨k,c,e,z.sameBut hs (cne y c e)⟩
  ·obtain⟨w',z⟩:=I.cell y c e;exact⟨w',z.sameBut hs (cne y c e)⟩
  ·obtain⟨e,n,ne,nf,d⟩:=I.pin p hp;exact⟨(hs.2 p.1 ne).trans e,n,ne,nf,d⟩
 ·have hfn:X.fn x=true:=by
   rcases hf with z|z
   ·exact z
   ·rw[z]at hk;cases hk
  obtain⟨c,hc⟩:=I.ok.has x (.inl hk);obtain⟨w',z⟩:=I.cell x c hc;refine wpAny_storeName_cell I.ok.kind hk hc z (λh' hc' hs=>?_);obtain⟨oc,hoc,hocd⟩:=id z;refine h { s with heap:=h' } ⟨I.ok,I.os,I.bare,⟨λb o e n hb hx=>?_,λb o e n hb hx=>?_,I.base.free,λb o e hx=>?_,I.base.tups,I.base.frzs,I.base.tbls⟩,⟨m,hn.sameBut hs (K4u (cne x c hc)),λj y v' e1 e2 e3=>?_⟩,λy c' e=>?_,I.free,I.freeC,λp hp=>?_,tracked ⟨oc,hoc,I.freeC x c hc⟩ hs,by simpa using I.len⟩ ⟨c,hs,.inr hc⟩
  ·exact(hs.2 b (K0g (K0j (K02 e) (I.ok.cab x c hfn hc)))).trans (I.base.keep b o e n hb hx)
  ·obtain⟨sl,e1⟩:=I.base.slot b o e n hb hx;exact⟨sl,(hs.2 b (K0g (K0j (K02 e) (I.ok.cab x c hfn hc)))).trans e1⟩
  ·obtain⟨o',e1⟩:=I.base.there b o e hx;exact⟨o',(hs.2 b (K0g (K0j (K02 e) (I.ok.cab x c hfn hc)))).trans e1⟩
  ·by_cases hj:j=i
   ·subst hj;rw[hi]at e1;cases e1;rw[K1a hiσ]at e2;cases e2;exact⟨u,r,.inr ⟨.inl hk,c,hc,hc'⟩⟩
   ·rw[K1f (K4u hj)]at e2;obtain⟨u',r',q⟩:=hl j y v' e1 e2 e3;refine⟨u',r',?_⟩;rcases q with q|⟨k,c',e,z'⟩
    ·exact .inl q
    ·refine .inr ⟨k,c',e,z'.sameBut hs ?_⟩;rintro rfl;exact hj (z6w hN e1 (I.ok.inj _ _ _ e hc ▸ hi))
  ·by_cases hcc:c'=c
   ·subst hcc;exact⟨_,hc'⟩
   ·obtain⟨w2,z2⟩:=I.cell y c' e;exact⟨w2,z2.sameBut hs hcc⟩
  ·obtain⟨e,n,ne,nf,d⟩:=I.pin p hp;refine⟨(hs.2 p.1 ?_).trans e,n,ne,nf,d⟩;intro q;rw[q,hoc]at e;have q':oc=p.2:=K1d e;exact d w' (by rw[<- q'];exact hocd)
theorem z6n {M:Model}{A:Around}{E:Value->Shared->Prop}{i:Nat}{x:Str}{v:V}{u:Value}{Q:Unit->Shared->Prop}(I:Inv X pins σ H s) (hN:X.N.Nodup) (hi:X.N[i]?=some x) (hx:Loc X.env.scope x) (r:RelV v u)
 (h:∀s',Inv X pins (σ.set i (some v)) H s'->Q () s') (hf:X.fn x=true\/X.env.scope.names.lookup x=some .local:=by first|exact .inl rfl|exact .inr rfl|assumption):wpAny M A (storeName X.env x u) Q E s :=
 z83 I hN hi hx r (λs' I' _=>h s' I') hf
theorem Inv.call' {s':Shared}{ch:List Addr}(I:Inv X pins σ H s) (ho:s'.os=s.os) (u:Un (frs X.stack) ch H H' s.heap s'.heap) (hok:HOk X.prog X.w H' s'.heap) (hg:K7m s'.gens)
 (hch:∀b∈ch,(b∈X.ex\/X.s₀.heap.objs.size<=b)/\b≠X.env.locals/\(∀x c,X.env.cells.lookup x=some c->c≠b)/\∀p∈X.pn++pins,p.1≠b):Inv X pins σ H' s':=by
 obtain⟨h',g',d',t',o'⟩:=s';have e:o'=s.os:=ho;subst e;exact I.call (g':=g') (t':=t') (d':=d') u hok hg hch
end
abbrev XK:=Value->Option Addr->Hp->Prop
abbrev St:=List (Option V)
abbrev VK:=V->Hp->Prop
abbrev TE:=St->Hp->VK->Prop
abbrev TT:=St->Hp->(Bool->Hp->Prop)->Prop
abbrev TA:=St->Hp->(List V->Hp->Prop)->Prop
structure Ends where
 nx:St->Hp->Prop
 rt:VK
 bk:St->Hp->Prop:=λ_ _=>False
 ct:St->Hp->Prop:=λ_ _=>False
abbrev TS:=Ends->St->Hp->Prop
def EP (X:Cx) (pins:List (Addr×Obj)) (σ:St) (Q:VK) (u:Value) (s':Shared):Prop:=∃v H',Inv X pins σ H' s'/\RelV v u/\Q v H'
def TP (X:Cx) (pins:List (Addr×Obj)) (σ:St) (Q:Bool->Hp->Prop) (b:Bool) (s':Shared):Prop:=∃H',Inv X pins σ H' s'/\Q b H'
def AP (X:Cx) (pins:List (Addr×Obj)) (σ:St) (Q:List V->Hp->Prop) (us:List Value) (s':Shared):Prop:=∃vs H',Inv X pins σ H' s'/\Vals vs us/\Q vs H'
def SP (X:Cx) (pins:List (Addr×Obj)) (D:Ends) (f:Flow) (s':Shared):Prop :=
 match f with
 | .next=>∃σ' H',Inv X pins σ' H' s'/\D.nx σ' H'
 | .brk=>∃σ' H',Inv X pins σ' H' s'/\D.bk σ' H'
 | .cont=>∃σ' H',Inv X pins σ' H' s'/\D.ct σ' H'
 | .ret u=>∃v σ' H',Inv X pins σ' H' s'/\RelV v u/\D.rt v H'
def PE (X:Cx) (e:Expr) (t:TE):Prop :=
 ∀(pins:List (Addr×Obj)) (s:Shared) (σ:St) (H:Hp) (Q:VK),Inv X pins σ H s->t σ H Q->wpAny (model X.prog X.w) X.A (eval e X.env) (EP X pins σ Q) X.xe s
def PT (X:Cx) (e:Expr) (t:TT):Prop :=
 ∀(pins:List (Addr×Obj)) (s:Shared) (σ:St) (H:Hp) (Q:Bool->Hp->Prop),Inv X pins σ H s->t σ H Q->wpAny (model X.prog X.w) X.A (isTrue e X.env (eval e X.env)) (TP X pins σ Q) X.xe s
def PW (X:Cx) (e:Expr) (t:TT):Prop :=
 ∀(whole:Sem Value) (pins:List (Addr×Obj)) (s:Shared) (σ:St) (H:Hp) (Q:Bool->Hp->Prop),Inv X pins σ H s->t σ H Q->wpAny (model X.prog X.w) X.A (isTrue e X.env whole) (TP X pins σ Q) X.xe s
theorem PW.pt {X:Cx}{e:Expr}{t:TT}(h:PW X e t):PT X e t:=h _
def PA (X:Cx) (es:List Expr) (t:TA):Prop :=
 ∀(pos:Pos) (pins:List (Addr×Obj)) (s:Shared) (σ:St) (H:Hp) (Q:List V->Hp->Prop),Inv X pins σ H s->t σ H Q->wpAny (model X.prog X.w) X.A (spliced (backTo pos (K05 es X.env))) (AP X pins σ Q) X.xe s
def PS (X:Cx) (st:Stmt) (t:TS):Prop :=
 ∀(pins:List (Addr×Obj)) (s:Shared) (σ:St) (H:Hp) (D:Ends),Inv X pins σ H s->t D σ H->wpAny (model X.prog X.w) X.A (exec st X.env) (SP X pins D) X.xe s
def PSs (X:Cx) (st:List Stmt) (t:TS):Prop :=
 ∀(pins:List (Addr×Obj)) (s:Shared) (σ:St) (H:Hp) (D:Ends),Inv X pins σ H s->t D σ H->wpAny (model X.prog X.w) X.A (execs st X.env) (SP X pins D) X.xe s
theorem thn {α:Type}{t:Sem α}{Q Q':α->Shared->Prop}{M:Model}{A:Around}{E:Value->Shared->Prop}{s:Shared}(h:wpAny M A t Q E s) (hQ:∀a s,Q a s->Q' a s):wpAny M A t Q' E s:=K4a h hQ λ_ _ x=>x
section
variable {X:Cx}
def tVar (i:Nat):TE:=λσ H Q=>∃v,σ[i]?=some (some v)/\Q v H
def tC (v:V):TE:=λ_ H Q=>Q v H
theorem zK3 {i:Nat}{x:Str}{pos:Pos}(hN:X.N[i]?=some x) (hv:Vis X.env.scope x) (hd:(x==("__debug__":Str))=false:=by decide) (hcd:(x==("__classdict__":Str))=false:=by decide):PE X (.Name x pos) (tVar i):=by
 intro pins s σ H Q I h;obtain⟨v,e,h⟩:=h;obtain⟨m,hn,hl⟩:=I.loc;obtain⟨u,r,l⟩:=hl i x v hN e hv;have fin:EP X pins σ Q u s:=⟨v,H,I,r,h⟩;rcases l with ⟨hk,hm⟩|⟨hk,c,hc,hcell⟩
 ·exact wpAny_Name (wpAny_loadName_local I.ok.kind hk hn hm fin) hd
 ·rcases hk with hk|hk
  ·exact wpAny_Name (wpAny_loadName_cell I.ok.kind hk hc hcell fin) hd
  ·exact wpAny_Name (wpAny_loadName_free I.ok.kind hk hc hcell fin hcd) hd
theorem zL4 {i j pos}:PE X (.Constant (.int i) j pos) (tC (.int i)):=λ_ _ _ H _ I h=>wpAny_Constant_int ⟨.int i,H,I.tok _,⟨_,rfl⟩,h⟩
theorem zS1 {b j pos}:PE X (.Constant (.bool b) j pos) (tC (.bl b)):=λ_ _ _ H _ I h=>Constant_bool ⟨.bl b,H,I,rfl,h⟩
theorem zC1 {j pos}:PE X (.Constant .none j pos) (tC .non):=λ_ _ _ H _ I h=>Constant_none ⟨.non,H,I,rfl,h⟩
theorem zI1 {x j pos}:PE X (.Constant (.str x) j pos) (tC (.str x)):=λ_ _ _ H _ I h=>Calls.Constant_str ⟨.str x,H,I.tok _,⟨_,rfl⟩,h⟩
def Gl (X:Cx) (x:Str):Prop:=X.env.kindOf x=some .globalImplicit
theorem z8N {E:Value->Shared->Prop}{pins:List (Addr×Obj)}{s:Shared}{σ:St}{H:Hp}{x:Str}{u:Value}{pos:Pos}{Q:Value->Shared->Prop}(I:Inv X pins σ H s) (hg:Gl X x) (hm:X.mg x=some u) (h:Q u s)
 (hd:(x==("__debug__":Str))=false:=by decide):wpAny (model X.prog X.w) X.A (eval (.Name x pos) X.env) Q E s :=
 K7a I.ok.kind hg (Calls.loadGlobal_global (by rw[I.ok.glob];exact I.mod.glob.keeps I.bk) hm h) hd
theorem z4h {E:Value->Shared->Prop}{pins:List (Addr×Obj)}{s:Shared}{σ:St}{H:Hp}{x:Str}{u:Value}{pos:Pos}{Q:Value->Shared->Prop}(I:Inv X pins σ H s) (hg:Gl X x) (hm:X.mg x=none) (hv:K4w x=some u) (h:Q u s)
 (hn:x≠"__name__":=by decide) (hd:(x==("__debug__":Str))=false:=by decide):wpAny (model X.prog X.w) X.A (eval (.Name x pos) X.env) Q E s:=by
 obtain⟨mb,h1,h2⟩:=I.mod.blt;exact K7a I.ok.kind hg (Calls.loadGlobal_builtin (by rw[I.ok.glob];exact I.mod.glob.keeps I.bk) hm (by rw[I.ok.blt];exact h1.keeps I.bk) ((h2 x hn).trans hv) h) hd
theorem zr7 {x:Str}{v:V}{u:Value}{pos:Pos}(hg:Gl X x) (hm:X.mg x=none) (hv:K4w x=some u) (r:RelV v u) (hn:x≠"__name__":=by decide) (hd:(x==("__debug__":Str))=false:=by decide):PE X (.Name x pos) (tC v) :=
 λ_ _ _ H _ I h=>z4h I hg hm hv ⟨v,H,I,r,h⟩ hn hd
variable {a b:Expr}{ta tb:TE}{pos:Pos}
def tB (t:TE):TT:=λσ H Q=>t σ H λx H1=>∃c,x=.bl c/\Q c H1
variable {tA tB':TT}{rest:List Expr}
def tAnd (t u:TT):TT:=λσ H Q=>t σ H λc H1=>if c=true then u σ H1 Q else Q false H1
def tOr (t u:TT):TT:=λσ H Q=>t σ H λc H1=>if c=true then Q true H1 else u σ H1 Q
def tNot (t:TT):TT:=λσ H Q=>t σ H λc H1=>Q (!c) H1
theorem zr3 (ha:PT X a tA):PW X (.BoolOp .And [a] pos) tA:=by
 intro wh pins s σ H Q I h;refine isTrue_and (thn (ha pins s σ H Q I h) λc s1 e=>?_);cases c with
 | true=>exact isTrue_and_nil e
 | false=>exact e
theorem zO2 (ha:PT X a tA):PW X (.BoolOp .Or [a] pos) tA:=by
 intro wh pins s σ H Q I h;refine isTrue_or (thn (ha pins s σ H Q I h) λc s1 e=>?_);cases c with
 | false=>exact isTrue_or_nil e
 | true=>exact e
theorem zK4 (ha:PT X a tA) (hb:PW X (.BoolOp .And (b::rest) pos) tB'):PW X (.BoolOp .And (a::b::rest) pos) (tAnd tA tB'):=by
 intro wh pins s σ H Q I h;refine isTrue_and (thn (ha pins s σ H _ I h) λc s1 ⟨H1,I1,q1⟩=>?_);cases c with
 | true=>exact hb wh pins s1 σ H1 Q I1 q1
 | false=>exact⟨H1,I1,q1⟩
theorem zR9 (ha:PT X a tA) (hb:PW X (.BoolOp .Or (b::rest) pos) tB'):PW X (.BoolOp .Or (a::b::rest) pos) (tOr tA tB'):=by
 intro wh pins s σ H Q I h;refine isTrue_or (thn (ha pins s σ H _ I h) λc s1 ⟨H1,I1,q1⟩=>?_);cases c with
 | true=>exact⟨H1,I1,q1⟩
 | false=>exact hb wh pins s1 σ H1 Q I1 q1
theorem zF5 (ha:PT X a tA):PT X (.UnaryOp .Not a pos) (tNot tA):=by
 intro pins s σ H Q I h;exact isTrue_not (ha pins s σ H (λc H1=>Q (!c) H1) I h)
def zU7 (ta tb:TE):TE:=λσ H Q=>ta σ H λx H1=>∃c,x=.bl c/\if c=true then tb σ H1 Q else Q (.bl false) H1
def zS3 (ta:TE):TE:=λσ H Q=>ta σ H λx H1=>∃c,x=.bl c/\Q (.bl (!c)) H1
theorem zL9 {op}{t:TE}(h:PE X a t):PE X (.BoolOp op [a] pos) t:=λpins s σ H Q I hw=>BoolOp_one (h pins s σ H Q I hw)
theorem zP0 (ha:PE X a ta) (hb:PE X (.BoolOp .And (b::rest) pos) tb):PE X (.BoolOp .And (a::b::rest) pos) (zU7 ta tb):=by
 intro pins s σ H Q I h;refine BoolOp_and (thn (ha pins s σ H _ I h) λv s1 ⟨x,H1,I1,r1,q1⟩=>?_);obtain⟨c,rfl,q1⟩:=q1;cases r1;refine K3u ?_;cases c with
 | true=>exact hb pins s1 σ H1 Q I1 q1
 | false=>exact⟨.bl false,H1,I1,rfl,q1⟩
theorem zI0 (ha:PE X a ta):PE X (.UnaryOp .Not a pos) (zS3 ta):=by
 intro pins s σ H Q I h;refine UnaryOp_ (thn (ha pins s σ H _ I h) λv s1 ⟨x,H1,I1,r1,q1⟩=>?_);obtain⟨c,rfl,q1⟩:=q1;cases r1;exact not_of (K3u ⟨.bl (!c),H1,I1,rfl,q1⟩)
def tIf (t:TT) (ta tb:TE):TE:=λσ H Q=>t σ H λc H1=>if c=true then ta σ H1 Q else tb σ H1 Q
theorem zf3 {c:Expr}(hc:PT X c tA) (ha:PE X a ta) (hb:PE X b tb):PE X (.IfExp c a b pos) (tIf tA ta tb):=by
 intro pins s σ H Q I h;refine wpAny_IfExp (thn (hc pins s σ H _ I h) λd s1 ⟨H1,I1,q1⟩=>?_);cases d with
 | true=>exact ha pins s1 σ H1 Q I1 q1
 | false=>exact hb pins s1 σ H1 Q I1 q1
end
def SqL (K:K2) (H:Hp) (a:Addr) (xs:List V):Prop :=
 Rd H a (.lst xs) \/
  ∃(o:Obj) (its:Array Value) (n:Nat),K.lookup a=some o/\o.cls=.type "list"/\o.dict=none/\o.data=.seq its n/\its.size<=sizeLine/\Vals xs its.toList
def SqT (K:K2) (H:Hp) (a:Addr) (xs:List V):Prop :=
 Rd H a (.tup xs) \/
  ∃(o:Obj) (its:Array Value) (n:Nat),K.lookup a=some o/\(o.cls=.type "tuple"/\o.dict=none)/\o.data=.seq its n/\its.size<=sizeLine/\Vals xs its.toList
def absV:Value->Option V
 | .none=>some .non
 | .bool b=>some (.bl b)
 | .int i _=>some (.int i)
 | .str x _=>some (.str x)
 | .bytes b _=>some (.byt b)
 | .float b _=>some (.flt b)
 | .ref a=>some (.ref a)
 | .type n=>some (.ty n)
 | _=>none
theorem RelV.abs {x:V}{u:Value}(r:RelV x u):absV u=some x:=by
 cases x with
 | non=>cases r;rfl
 | bl _=>cases r;rfl
 | int _=>obtain⟨t,rfl⟩:=r;rfl
 | str _=>obtain⟨t,rfl⟩:=r;rfl
 | byt _=>obtain⟨t,rfl⟩:=r;rfl
 | flt _=>obtain⟨t,rfl⟩:=r;rfl
 | ref _=>cases r;rfl
 | ty _=>cases r;rfl
theorem RelV.inj {x y:V}{u:Value}(r:RelV x u) (q:RelV y u):x=y:=K1d (r.abs.symm.trans q.abs)
theorem Vals.inj:∀{xs ys:List V}{us:List Value},Vals xs us->Vals ys us->xs=ys
 | _,_,_,.nil,.nil=>rfl
 | _,_,_,.cons r t,.cons r' t'=>by rw[r.inj r',Vals.inj t t']
section
variable {X:Cx}{pins:List (Addr×Obj)}{σ:St}{H:Hp}{s:Shared}{a:Addr}{xs ys:List V}
theorem SqL.of {K:K2}(h:H a=.(l xs)):SqL K H a xs:=.inl (.inl h)
theorem SqT.of {K:K2}(h:H a=.(g xs)):SqT K H a xs:=.inl (.inl h)
theorem Inv.list (I:Inv X pins σ H s) (h:SqL X.K H a xs):∃its:List Value,Vals xs its/\PlainL s.heap a its.toArray/\xs.length<=sizeLine:=by
 rcases h with h|⟨o,its,n,hk,hc,hd,hs,hz,r⟩
 ·obtain⟨z,its,n,r,e⟩:=h.ok I.hok;exact⟨its,r,⟨_,n,e,rfl,rfl,rfl⟩,z⟩
 ·refine⟨its.toList,r,⟨o,n,I.kIn a o hk,hc,hd,by simpa using hs⟩,?_⟩;have e:=r.length;simp only[K15]at e;omega
theorem Inv.tuple (I:Inv X pins σ H s) (h:SqT X.K H a xs):∃its:List Value,Vals xs its/\IsTup s.heap a its.toArray/\xs.length<=sizeLine:=by
 rcases h with h|⟨o,its,n,hk,hc,hs,hz,r⟩
 ·obtain⟨z,its,r,p⟩:=h.ok I.hok;exact⟨its,r,p.tup,z⟩
 ·refine⟨its.toList,r,⟨o,I.kIn a o hk,hc.1,n,by simpa using hs⟩,?_⟩;have e:=r.length;simp only[K15]at e;omega
theorem Inv.list_inj (I:Inv X pins σ H s) (h:SqL X.K H a xs) (h':SqL X.K H a ys):xs=ys:=by
 obtain⟨its,r,⟨o,n,e,_,_,d⟩,_⟩:=I.list h;obtain⟨its',r',⟨o',n',e',_,_,d'⟩,_⟩:=I.list h';rw[e]at e';cases e';rw[d]at d';injection d' with d1 _
 have:its=its':=by simpa using congrArg Z04 d1
 subst this;exact r.inj r'
theorem Inv.tuple_inj (I:Inv X pins σ H s) (h:SqT X.K H a xs) (h':SqT X.K H a ys):xs=ys:=by
 obtain⟨its,r,⟨o,e,_,n,d⟩,_⟩:=I.tuple h;obtain⟨its',r',⟨o',e',_,n',d'⟩,_⟩:=I.tuple h';rw[e]at e';cases e';rw[d]at d';injection d' with d1 _
 have:its=its':=by simpa using congrArg Z04 d1
 subst this;exact r.inj r'
end
abbrev Cx.wish (X:Cx) (E:Value->Shared->Prop):Cx:={ X with xe:=E }
abbrev Cx.nox (X:Cx):Cx:=X.wish λ_ _=>False
theorem Cx.Ok.wish {X:Cx}(ok:X.Ok) (E:Value->Shared->Prop):(X.wish E).Ok :=
 ⟨ok.mod,ok.kind,ok.glob,ok.blt,ok.above,ok.inj,ok.has,ok.cab,ok.hd,ok.frames,ok.stk,ok.exf,ok.bs,ok.bsz,ok.noex,ok.exfs,ok.funs,ok.frf⟩
theorem Cx.Ok.unwish {X:Cx}{E:Value->Shared->Prop}(ok:(X.wish E).Ok):X.Ok :=
 ⟨ok.mod,ok.kind,ok.glob,ok.blt,ok.above,ok.inj,ok.has,ok.cab,ok.hd,ok.frames,ok.stk,ok.exf,ok.bs,ok.bsz,ok.noex,ok.exfs,ok.funs,ok.frf⟩
section
variable {X:Cx}{pins:List (Addr×Obj)}{σ:St}{H:Hp}{s:Shared}{E:Value->Shared->Prop}
theorem Inv.wish (I:Inv X pins σ H s) (E:Value->Shared->Prop):Inv (X.wish E) pins σ H s:=⟨I.ok.wish E,I.os,I.bare,I.base,I.loc,I.cell,I.free,I.freeC,I.pin,I.hok,I.len⟩
theorem Inv.unwish (I:Inv (X.wish E) pins σ H s):Inv X pins σ H s:=⟨I.ok.unwish,I.os,I.bare,I.base,I.loc,I.cell,I.free,I.freeC,I.pin,I.hok,I.len⟩
theorem SP.unwish {D:Ends}{f:Flow}{s':Shared}(h:SP (X.wish E) pins D f s'):SP X pins D f s':=by
 cases f with
 | next=>obtain⟨σ',H',I,q⟩:=h;exact⟨σ',H',I.unwish,q⟩
 | brk=>obtain⟨σ',H',I,q⟩:=h;exact⟨σ',H',I.unwish,q⟩
 | cont=>obtain⟨σ',H',I,q⟩:=h;exact⟨σ',H',I.unwish,q⟩
 | ret u=>obtain⟨v,σ',H',I,r,q⟩:=h;exact⟨v,σ',H',I.unwish,r,q⟩
theorem PSs.nox {st:List Stmt}{t:TS}(h:PSs X.nox st t):PSs X st t:=λpins s σ H D I hw =>
 K4a (h pins s σ H D (I.wish _) hw) (λ_ _ q=>q.unwish) λ_ _ z=>K2z z
end
section
variable {X:Cx}{st:Stmt}{rest:List Stmt}{t u:TS}{e:Expr}{te:TE}{pos:Pos}
def zQ9:TS:=λD σ H=>D.nx σ H
def tSeq (t u:TS):TS:=λD σ H=>t { D with nx:=u D } σ H
theorem zr8:PSs X [] zQ9:=λ_ _ σ H _ I h=>K8t ⟨σ,H,I,h⟩
theorem zc0 (h1:PS X st t) (h2:PSs X rest u):PSs X (st::rest) (tSeq t u):=by
 intro pins s σ H D I h;refine wpAny_execs_cons (thn (h1 pins s σ H { D with nx:=u D } I h) λf s1 q=>?_);cases f with
 | next =>
  obtain⟨σ',H',I',q⟩:=q;exact h2 pins s1 σ' H' D I' q
 | ret v=>exact q
 | brk=>exact q
 | cont=>exact q
theorem Inv.quiet {pins:List (Addr×Obj)}{σ:St}{H:Hp}{s:Shared}(I:Inv X pins σ H s):interactive X.env=false:=by simp[interactive,I.ok.kind]
def zS8 (te:TE):TS:=λD σ H=>te σ H λ_ H1=>D.nx σ H1
theorem zs7 (he:PE X e te) (hs:K2i e none pos.line X.env=pure false:=by rfl):PS X (.Expr e pos) (zS8 te):=by
 intro pins s σ H D I h;exact wpAny_Expr_any (thn (he pins s σ H _ I h) λv s1 ⟨x,H1,I1,r1,q1⟩=>⟨σ,H1,I1,q1⟩) I.quiet hs
def tRet (te:TE):TS:=λD σ H=>te σ H D.rt
theorem zK8 (he:PE X e te):PS X (.Return (some e) pos) (tRet te):=by
 intro pins s σ H D I h;exact wpAny_Return_some (thn (he pins s σ H _ I h) λv s1 ⟨x,H1,I1,r1,q1⟩=>⟨x,σ,H1,I1,r1,q1⟩)
def tIfS (c:TT) (t u:TS):TS:=λD σ H=>c σ H λb H1=>if b=true then t D σ H1 else u D σ H1
theorem zU3 {c:Expr}{a b:List Stmt}{tc:TT}(hc:PT X c tc) (ha:PSs X a t) (hb:PSs X b u):PS X (.If c a b pos) (tIfS tc t u):=by
 intro pins s σ H D I h;refine wpAny_If (thn (hc pins s σ H _ I h) λd s1 ⟨H1,I1,q1⟩=>?_);cases d with
 | true=>exact ha pins s1 σ H1 D I1 q1
 | false=>exact hb pins s1 σ H1 D I1 q1
def zM7:TS:=λ_ _ _=>False
theorem zj0:PS X st zM7:=λ_ _ _ _ _ _ h=>h.elim
end
abbrev TG:=V->St->Hp->(St->Hp->Prop)->Prop
abbrev TGs:=List V->St->Hp->(St->Hp->Prop)->Prop
def PG (X:Cx) (target:Expr) (t:TG):Prop :=
 ∀(pins:List (Addr×Obj)) (s:Shared) (σ:St) (H:Hp) (v:V) (u:Value) (Q:St->Hp->Prop),Inv X pins σ H s->RelV v u->t v σ H Q ->
  wpAny (model X.prog X.w) X.A (assign target X.env u) (λ_ s'=>∃σ' H',Inv X pins σ' H' s'/\Q σ' H') X.xe s
def PGs (X:Cx) (ts:List Expr) (t:TGs):Prop :=
 ∀(pins:List (Addr×Obj)) (s:Shared) (σ:St) (H:Hp) (vs:List V) (us:List Value) (Q:St->Hp->Prop),Inv X pins σ H s->Vals vs us->t vs σ H Q ->
  wpAny (model X.prog X.w) X.A (assignInOrder ((K2q ts X.env).map (·.2)) us) (λ_ s'=>∃σ' H',Inv X pins σ' H' s'/\Q σ' H') X.xe s
abbrev TSet:=V->V->V->Hp->(Hp->Prop)->Prop
def PSet (X:Cx) (t:TSet):Prop :=
 ∀(pins:List (Addr×Obj)) (s:Shared) (σ:St) (H:Hp) (o i v:V) (ov iv u:Value) (Q:Hp->Prop),Inv X pins σ H s->RelV o ov->RelV i iv->RelV v u->t o i v H Q ->
  wpAny (model X.prog X.w) X.A (Z17 ov iv u) (λ_ s'=>∃H',Inv X pins σ H' s'/\Q H') X.xe s
section
variable {X:Cx}{pos:Pos}
def zB8 (i:Nat):TG:=λv σ H Q=>Q (σ.set i (some v)) H
theorem z5T {i:Nat}{x:Str}(hN:X.N.Nodup) (hi:X.N[i]?=some x) (hx:Loc X.env.scope x) (hf:X.fn x=true\/X.env.scope.names.lookup x=some .local:=by first|exact .inl rfl|exact .inr rfl|assumption):PG X (.Name x pos) (zB8 i):=by
 intro pins s σ H v u Q I r h;exact wpAny_assign_Name (z6n I hN hi hx r (λs' I'=>⟨_,H,I',h⟩) hf)
def gNil:TGs:=λvs σ H Q=>vs=[]/\Q σ H
def zS2 (t:TG) (u:TGs):TGs:=λvs σ H Q=>∃v r,vs=v::r/\t v σ H λσ' H'=>u r σ' H' Q
theorem z8W:PGs X [] gNil:=by
 intro pins s σ H vs us Q I r h;obtain⟨e,h⟩:=h;subst e;cases r;exact assignInOrder_nil ⟨σ,H,I,h⟩
theorem z7r {e:Expr}{es:List Expr}{t:TG}{u:TGs}(h1:PG X e t) (h2:PGs X es u)
 (hs:(K2q (e::es) X.env).map (·.2)=assign e X.env::(K2q es X.env).map (·.2):=by rfl):PGs X (e::es) (zS2 t u):=by
 intro pins s σ H vs us Q I r h;obtain⟨v,vr,e1,h⟩:=h;subst e1;cases r with
 | cons r rr =>
  rw[hs];refine assignInOrder_cons (thn (h1 pins s σ H _ _ _ I r h) λ_ s1 ⟨σ1,H1,I1,q1⟩=>?_);exact h2 pins s1 σ1 H1 _ _ Q I1 rr q1
def gTup (K:K2) (n:Nat) (t:TGs):TG:=λv σ H Q=>∃a xs,v=.ref a/\SqT K H a xs/\xs.length=n/\t xs σ H Q
theorem zk2 {es:List Expr}{k:Nat}{t:TGs}{n:Nat}(hc:X.calm=true) (h:PGs X es t)
 (hn:(K2q es X.env).length=n:=by rfl) (hst:(K2q es X.env).findIdx? (·.1)=none:=by rfl):PG X (.Tuple es k pos) (gTup X.K n t):=by
 intro pins s σ H v u Q I r hw;obtain⟨a,xs,e1,hq,hl,hw⟩:=hw;subst e1;cases r;obtain⟨its,rv,ht,hz⟩:=I.tuple hq;refine assign_Tuple_tuple (I.ok.hd hc) ht (by simp[hn,<- hl,rv.length]) hst λh' hx=>?_;have I1:Inv X pins σ H { s with heap:=h' }:=I.kept (t':=s.toks) λb o e=>hx b o (K0g (K02 e)) e;exact h pins _ σ H xs _ Q I1 (by simpa using rv) hw
def gSub (to ti:TE) (t:TSet):TG:=λv σ H Q=>to σ H λo H1=>ti σ H1 λi H2=>t o i v H2 λH3=>Q σ H3
theorem zm6 {o i:Expr}{to ti:TE}{t:TSet}(ho:PE X o to) (hi:PE X i ti) (hs:PSet X t)
 (ha:∀v,assign (.Subscript o i pos) X.env v=(do
  let ov <- K41 [v] (eval o X.env);let iv <- K41 [v,ov] (eval i X.env)
  K6j pos
  K41 [v,ov,iv] (Z17 ov iv v)
  release [v,ov,iv] []):=by intro _;rfl):PG X (.Subscript o i pos) (gSub to ti t):=by
 intro pins s σ H v u Q I r h;rw[ha];refine K1 (K1u (thn (ho pins s σ H _ I h) λov s1 ⟨x,H1,I1,r1,q1⟩=>?_));refine K1 (K1u (thn (hi pins s1 σ H1 _ I1 q1) λiv s2 ⟨y,H2,I2,r2,q2⟩=>?_));refine K1 (K52 (K1 (K1u (thn (hs pins s2 σ H2 x y v ov iv u _ I2 r1 r2 r q2) λ_ s3 ⟨H3,I3,q3⟩=>?_))));exact wpAny_release ⟨σ,H3,I3,q3⟩
def tAsg (te:TE) (g:TG):TS:=λD σ H=>te σ H λx H1=>g x σ H1 D.nx
theorem zP8 {tg e:Expr}{te:TE}{g:TG}(he:PE X e te) (hg:PG X tg g) (hs:swapsWithSole [tg] e pos.line X.env=pure false:=by rfl) (hw:swappedStores [tg] e X.env=pure none:=by rfl)
 (h1:(K2q [tg] X.env).map (·.2)=[assign tg X.env]:=by rfl):PS X (.Assign [tg] e pos) (tAsg te g):=by
 intro pins s σ H D I h;refine wpAny_Assign_stores (thn (he pins s σ H _ I h) λv s1 ⟨x,H1,I1,r1,q1⟩=>?_) hs hw;rw[h1];exact thn (hg pins s1 σ H1 x v _ I1 r1 q1) λ_ s2 q=>q
theorem zD8 {i:Nat}{x:Str}{e:Expr}{te:TE}{pos':Pos}(hN:X.N.Nodup) (hi:X.N[i]?=some x) (hx:Loc X.env.scope x) (he:PE X e te) (hs:K2i e (some (.Name x pos')) pos.line X.env=pure false:=by rfl) (hf:X.fn x=true\/X.env.scope.names.lookup x=some .local:=by first|exact .inl rfl|exact .inr rfl|assumption) :
 PS X (.Assign [.Name x pos'] e pos) (tAsg te (zB8 i)):=by
 intro pins s σ H D I h;refine wpAny_Assign_Name (thn (he pins s σ H _ I h) λv s1 ⟨y,H1,I1,r1,q1⟩=>?_) hs;exact z6n I1 hN hi hx r1 (λs2 I2=>⟨_,H1,I2,q1⟩) hf
end
section
variable {X:Cx}{pos:Pos}
def zQ2 (c:TT) (tb:TS):TS:=λD σ H=>∃W:Nat->St->Hp->Prop,(∃m,W m σ H)/\∀m σ H,W m σ H ->
 c σ H λb H1=>if b=true then ∃N:St->Hp->Prop,(∀σ' H',N σ' H'->∃m',m'<m/\W m' σ' H')/\tb { D with nx:=N,ct:=N,bk:=D.nx } σ H1 else D.nx σ H1
theorem zh4 {c:Expr}{body:List Stmt}{tc:TT}{tb:TS}(hp:Z0r (model X.prog X.w) X.A X.env X.xe) (hc:PT X c tc) (hb:PSs X body tb):PS X (.While c body [] pos) (zQ2 tc tb):=by
 intro pins s σ H D I h;obtain⟨W,⟨m0,w0⟩,turn⟩:=h;refine wpAny_While (codeAny_whileLoop (λn s'=>∃σ' H',Inv X pins σ' H' s'/\W n σ' H') ?_ m0 ⟨σ,H,I,w0⟩);rintro n s1 ⟨σ1,H1,I1,w1⟩;refine K3q hp (thn (hc pins s1 σ1 H1 _ I1 (turn n σ1 H1 w1)) λb s2 ⟨H2,I2,q2⟩=>?_);cases b with
 | true =>
  obtain⟨N,hN,q2⟩:=q2;rw[if_pos rfl];refine K3q hp (thn (hb pins s2 σ1 H2 _ I2 q2) λf s3 q3=>?_);cases f with
  | next =>
   obtain⟨σ3,H3,I3,n3⟩:=q3;obtain⟨m',hm,w3⟩:=hN σ3 H3 n3;exact⟨m',hm,σ3,H3,I3,w3⟩
  | cont =>
   obtain⟨σ3,H3,I3,n3⟩:=q3;obtain⟨m',hm,w3⟩:=hN σ3 H3 n3;exact⟨m',hm,σ3,H3,I3,w3⟩
  | brk=>exact q3
  | ret v=>exact q3
 | false =>
  rw[if_neg K0v];exact K8t ⟨σ1,H2,I2,q2⟩
end
structure It where
 go:Nat->Hp->Prop
 yld:Nat->Hp->V->Hp->Prop
 stop:Nat->Hp->Prop
def FpOk (X:Cx) (pins:List (Addr×Obj)) (H:Hp) (b:Addr):Prop :=
 H b=none/\b≠X.env.locals/\b∉X.fs/\(b∈X.ex\/X.s₀.heap.objs.size<=b)/\(∀x c,X.env.cells.lookup x=some c->c≠b)/\∀p∈X.pn++pins,p.1≠b
theorem Inv.fpOk {X:Cx}{pins:List (Addr×Obj)}{σ:St}{H H':Hp}{s:Shared}{b:Addr}(I:Inv X pins σ H s) (hb:s.heap.objs.size<=b) (hn:H' b=none):FpOk X pins H' b:=by
 refine⟨hn,K2d (K0j I.lt hb),I.nofs hb,.inr (K0x I.sz hb),λx c e z=>?_,λp hp z=>?_⟩
 ·obtain⟨v,q⟩:=I.cell x c e;exact absurd (K0j q.lt (by rw[z];exact hb)) (K2k _)
 ·exact absurd (K0j (K02 (I.pin p hp).1) (by rw[z];exact hb)) (K2k _)
structure Turn (P:K0d) (w:World) (K:K2) (tg:Expr) (J:It) (fp:List Addr) (it:Addr) (tn:Nat->Heap->Prop):Prop where
 mem:it∈fp
 obj:∀i h,tn i h->∀b∈fp,∃o,h.get? b=some o/\∀v,o.data≠.cell v
 keep:∀i h h',tn i h->(∀b∈fp,∀o,h.get? b=some o->h'.get? b=some o)->tn i h'
 item:∀(X:Cx),X.prog=P->X.w=w->X.K=K->X.calm=true->∀(i:Nat) (pins:List (Addr×Obj)) (s:Shared) (σ:St) (H:Hp) (E:Value->Shared->Prop),Inv X pins σ H s->(∀b∈fp,FpOk X pins H b)->tn i s.heap->J.go i H ->
  wpAny (model P w) X.A (pyNext (.ref it)) (λr s1=>∃u,r=some u /\
   wpAny (model P w) X.A (K6s tg (.ref it) u) (λ_ s2=>∃x H',Inv X pins σ H' s2/\RelV x u/\J.yld i H x H'/\tn (i+1) s2.heap/\∀b∈fp,H' b=none) E s1) E s
 done:∀(X:Cx),X.prog=P->X.w=w->X.K=K->X.calm=true->∀(i:Nat) (pins:List (Addr×Obj)) (s:Shared) (σ:St) (H:Hp) (E:Value->Shared->Prop),Inv X pins σ H s->(∀b∈fp,FpOk X pins H b)->tn i s.heap->J.stop i H ->
  wpAny (model P w) X.A (pyNext (.ref it)) (λr s1=>r=none/\Inv X pins σ H s1) E s
 self:∀(A:Around) (i:Nat) (s:Shared) (Q:Value->Shared->Prop) (E:Value->Shared->Prop),tn i s.heap->Q (.ref it) s->wpAny (model P w) A (pyIter (.ref it)) Q E s
abbrev TI:=St->Hp->(It->Hp->Prop)->Prop
def PIE (X:Cx) (pins:List (Addr×Obj)) (σ:St) (tg:Expr) (R:It->Hp->Prop) (itv:Value) (s2:Shared):Prop :=
 ∃(it:Addr) (fp:List Addr) (tn:Nat->Heap->Prop) (J:It) (H':Hp),itv=.ref it/\Inv X pins σ H' s2/\Turn X.prog X.w X.K tg J fp it tn/\tn 0 s2.heap/\(∀b∈fp,FpOk X pins H' b)/\R J H'
def PI (X:Cx) (tg iter:Expr) (wi:TI):Prop :=
 ∀(pins:List (Addr×Obj)) (s:Shared) (σ:St) (H:Hp) (R:It->Hp->Prop),Inv X pins σ H s->wi σ H R ->
  wpAny (model X.prog X.w) X.A (eval iter X.env) (λv s1=>wpAny (model X.prog X.w) X.A (pyIter v) (PIE X pins σ tg R) X.xe s1) X.xe s
theorem zA1 {M:Model}{A:Around}{E:Value->Shared->Prop}{s:Shared}{tg:Expr}{it:Addr}{u:Value}{o:Obj}{n:String}{vs:Array Value}{Q:Unit->Shared->Prop}(ho:s.heap.get? it=some o) (hc:o.cls=.type n) (hd:o.data=.fields vs)
 (hn:["enumerate","zip","dict_itemiterator","dict_reverseitemiterator","odict_iterator","itertools.zip_longest","itertools.pairwise"].contains n=false) (hQ:Q () s):wpAny M A (K6s tg (.ref it) u) Q E s:=by
 unfold K6s;cases tg<;>first
  | exact K6 hQ
  | (cases u<;>first
      | exact K6 hQ
      | (refine K1 (wpAny_load ho ?_)
         rw[hc,hd];show wpAny M A (if (["enumerate","zip","dict_itemiterator","dict_reverseitemiterator","odict_iterator","itertools.zip_longest","itertools.pairwise"].contains n&&vs[0]?==some (rawInt _))=true then _ else _) Q E s;rw[if_neg (by intro h;rw[hn,Z1d]at h;cases h)];exact K6 hQ))
def Itl (K:K2) (a:Addr):It :=
 ⟨λi H=>∃xs x,SqL K H a xs/\xs[i]?=some x,λi H x H'=>H'=H/\∀xs,SqL K H a xs->xs[i]?=some x,λi H=>∃xs,SqL K H a xs/\xs.length<=i⟩
def Itt (K:K2) (a:Addr):It :=
 ⟨λi H=>∃xs x,SqT K H a xs/\xs[i]?=some x,λi H x H'=>H'=H/\∀xs,SqT K H a xs->xs[i]?=some x,λi H=>∃xs,SqT K H a xs/\xs.length<=i⟩
def Itr (lo:Int) (n:Nat):It:=⟨λi _=>i<n,λi H x H'=>H'=H/\x=.int (lo+i),λi _=>n<=i⟩
theorem z8l {P:K0d}{w:World}{K:K2}{tg:Expr}(a it:Addr):Turn P w K tg (Itl K a) [it] it (λi h=>h.IsListIter it a i) where
 mem:=by simp
 obj:=λi h st b hb=>by
  have e:b=it:=by simpa using hb
  subst e;obtain⟨o,e,c,d⟩:=st;exact⟨o,e,λv z=>by rw[d]at z;cases z⟩
 keep:=λi h h' st k=>st.at λo e=>k it (by simp) o e
 item:=by
  intro X hP hw hK hc i pins s σ H E I hf st hg;subst hP hw hK;obtain⟨xs,x,hq,hx⟩:=hg;obtain⟨its,rv,p,hz⟩:=I.list hq;obtain⟨u,hu,ru⟩:=rv.get hx;obtain⟨f0,f1,f2,f3,f4,f5⟩:=hf it (by simp);refine wpAny_pyNext_list_item st p.isList (x:=u) (by simpa using hu) λh' st' sb=>?_;have I1:Inv X pins σ H { s with heap:=h' }:=I.turned (t':=s.toks) (λb o hb e=>(sb.2 b hb).trans e) f0 f1 f3 f4 f5;obtain⟨o,e,c,d⟩:=id st';exact⟨u,rfl,zA1 (s:={ s with heap:=h' }) e c d (by decide) ⟨x,H,I1,ru,⟨rfl,λys hy=>by rw[I.list_inj hy hq];exact hx⟩,st',λb hb=>(hf b hb).1⟩⟩
 done:=by
  intro X hP hw hK hc i pins s σ H E I hf st hg;subst hP hw hK;obtain⟨xs,hq,hx⟩:=hg;obtain⟨its,rv,p,hz⟩:=I.list hq;obtain⟨f0,f1,f2,f3,f4,f5⟩:=hf it (by simp);have hl:=rv.length;exact wpAny_pyNext_list_end (I.ok.hd hc) st p.isList (by simp;omega) λh' eb=>⟨rfl,I.turned (t':=s.toks) (λb o hb e=>eb b o hb e) f0 f1 f3 f4 f5⟩
 self:=λ_ _ _ _ _ st h=>wpAny_pyIter_listiter st h
theorem z7J {P:K0d}{w:World}{K:K2}{tg:Expr}(a it:Addr):Turn P w K tg (Itt K a) [it] it (λi h=>h.IsTupleIter it a i) where
 mem:=by simp
 obj:=λi h st b hb=>by
  have e:b=it:=by simpa using hb
  subst e;obtain⟨o,e,c,d⟩:=st;exact⟨o,e,λv z=>by rw[d]at z;cases z⟩
 keep:=λi h h' st k=>st.at λo e=>k it (by simp) o e
 item:=by
  intro X hP hw hK hc i pins s σ H E I hf st hg;subst hP hw hK;obtain⟨xs,x,hq,hx⟩:=hg;obtain⟨its,rv,p,hz⟩:=I.tuple hq;obtain⟨u,hu,ru⟩:=rv.get hx;obtain⟨f0,f1,f2,f3,f4,f5⟩:=hf it (by simp);refine wpAny_pyNext_tuple_item st (show s.heap.IsTuple a its.toArray from p) (x:=u) (by simpa using hu) λh' st' sb=>?_;have I1:Inv X pins σ H { s with heap:=h' }:=I.turned (t':=s.toks) (λb o hb e=>(sb.2 b hb).trans e) f0 f1 f3 f4 f5;obtain⟨o,e,c,d⟩:=id st';exact⟨u,rfl,zA1 (s:={ s with heap:=h' }) e c d (by decide) ⟨x,H,I1,ru,⟨rfl,λys hy=>by rw[I.tuple_inj hy hq];exact hx⟩,st',λb hb=>(hf b hb).1⟩⟩
 done:=by
  intro X hP hw hK hc i pins s σ H E I hf st hg;subst hP hw hK;obtain⟨xs,hq,hx⟩:=hg;obtain⟨its,rv,p,hz⟩:=I.tuple hq;obtain⟨f0,f1,f2,f3,f4,f5⟩:=hf it (by simp);have hl:=rv.length;exact wpAny_pyNext_tuple_end (I.ok.hd hc) st (show s.heap.IsTuple a its.toArray from p) (by simp;omega) λh' eb=>⟨rfl,I.turned (t':=s.toks) (λb o hb e=>eb b o hb e) f0 f1 f3 f4 f5⟩
 self:=λ_ _ _ _ _ st h=>wpAny_pyIter_tupleiter st h
theorem z7R {P:K0d}{w:World}{K:K2}{tg:Expr}(it:Addr) (lo:Int) (n:Nat):Turn P w K tg (Itr lo n) [it] it (λi h=>IsRangeIter h it (lo+(i:Nat) * 1) ((n:Int) - (i:Nat)) 1) where
 mem:=by simp
 obj:=λi h st b hb=>by
  have e:b=it:=by simpa using hb
  subst e;exact⟨_,st,λv z=>by
   have z':Data.fields _=Data.cell v:=z;cases z'⟩
 keep:=λi h h' st k=>k it (by simp) _ st
 item:=by
  intro X hP hw hK hc i pins s σ H E I hf st hg;subst hP hw hK;obtain⟨f0,f1,f2,f3,f4,f5⟩:=hf it (by simp);have W:=Walks.range (prog:=X.prog) (w:=X.w) (I.ok.hd hc) it lo 1 n;refine W.item i s _ _ hg st λv h' tk hv st' kk=>?_;obtain⟨t,rfl⟩:=hv;have I1:Inv X pins σ H { s with heap:=h',toks:=tk }:=I.turned (λb o hb e=>kk b o (by simpa using hb) e) f0 f1 f3 f4 f5;refine⟨_,rfl,zA1 (s:={ s with heap:=h',toks:=tk }) (n:="range_iterator") st' rfl rfl (by decide) ⟨.int (lo+i),H,I1,⟨t,?_⟩,⟨rfl,rfl⟩,st',λb hb=>(hf b hb).1⟩⟩;rw[Int.mul_one]
 done:=by
  intro X hP hw hK hc i pins s σ H E I hf st hg;subst hP hw hK;obtain⟨f0,f1,f2,f3,f4,f5⟩:=hf it (by simp);exact wpAny_pyNext_range_end (I.ok.hd hc) st (by have:n<=i:=hg;omega) λh' eb=>⟨rfl,I.turned (t':=s.toks) (λb o hb e=>eb b o hb e) f0 f1 f3 f4 f5⟩
 self:=λ_ _ _ _ _ st h=>wpAny_pyIter_rangeiter st h
section
variable {X:Cx}{tg:Expr}
def zT9 (K:K2) (tl:TE):TI:=λσ H R=>tl σ H λx H1=>∃a,x=.ref a/\(∃xs,SqL K H1 a xs)/\R (Itl K a) H1
def iTup (K:K2) (tl:TE):TI:=λσ H R=>tl σ H λx H1=>∃a,x=.ref a/\(∃xs,SqT K H1 a xs)/\R (Itt K a) H1
theorem zA4 {l:Expr}{tl:TE}(hl:PE X l tl):PI X tg l (zT9 X.K tl):=by
 intro pins s σ H R I h;refine thn (hl pins s σ H _ I h) λv s1 ⟨x,H1,I1,r1,q1⟩=>?_;obtain⟨a,e,⟨xs,hq⟩,q⟩:=q1;subst e;cases r1;obtain⟨its,rv,p,hz⟩:=I1.list hq;refine K62 p.isList ?_;refine⟨s1.heap.objs.size,[s1.heap.objs.size],_,_,H1,rfl,I1.kept (t':=s1.toks) λb o e=>K3 _ e,z8l a _,⟨_,K03 _ rfl,rfl,rfl⟩,λb hb=>?_,q⟩;have e:b=s1.heap.objs.size:=by simpa using hb
 subst e;exact I1.fpOk (K01 _) (I1.hok.fresh (K01 _))
theorem zK0 {l:Expr}{tl:TE}(hl:PE X l tl):PI X tg l (iTup X.K tl):=by
 intro pins s σ H R I h;refine thn (hl pins s σ H _ I h) λv s1 ⟨x,H1,I1,r1,q1⟩=>?_;obtain⟨a,e,⟨xs,hq⟩,q⟩:=q1;subst e;cases r1;obtain⟨its,rv,p,hz⟩:=I1.tuple hq;refine K2f (show s1.heap.IsTuple a its.toArray from p) ?_;refine⟨s1.heap.objs.size,[s1.heap.objs.size],_,_,H1,rfl,I1.kept (t':=s1.toks) λb o e=>K3 _ e,z7J a _,⟨_,K03 _ rfl,rfl,rfl⟩,λb hb=>?_,q⟩;have e:b=s1.heap.objs.size:=by simpa using hb
 subst e;exact I1.fpOk (K01 _) (I1.hok.fresh (K01 _))
theorem zd5 {pins:List (Addr×Obj)}{σ:St}{H:Hp}{s:Shared}{R:It->Hp->Prop}{E:Value->Shared->Prop}{lo hi:Int}{t u v:Tok}{tk:Nat}(I:Inv X pins σ H s) (h1:-(2 ^ 62)<=lo) (h2:lo<2 ^ 62) (h3:-(2 ^ 62)<=hi) (h4:hi<2 ^ 62)
 (q:R (Itr lo (hi - lo).toNat) H):wpAny (model X.prog X.w) X.A (pyIter (.ref s.heap.objs.size)) (PIE X pins σ tg R) E { s with heap:=s.heap.push { cls:=.type "range",data:=.fields #[.int lo t,.int hi u,.int 1 v] },toks:=tk }:=by
 refine wpAny_pyIter_range (Z0b.new ..) (small_one h1 h2 h3 h4) ?_;have I1:Inv X pins σ H { s with heap:=s.heap.push { cls:=.type "range",data:=.fields #[.int lo t,.int hi u,.int 1 v] },toks:=tk }:=I.kept λb o e=>K3 _ e;refine⟨(s.heap.push { cls:=.type "range",data:=.fields #[.int lo t,.int hi u,.int 1 v] }).objs.size,[(s.heap.push { cls:=.type "range",data:=.fields #[.int lo t,.int hi u,.int 1 v] }).objs.size],_,_,H,rfl,
  I1.kept (t':=tk) λb o e=>K3 _ e,z7R _ lo (hi - lo).toNat,?_,λb hb=>?_,q⟩
 ·have e1:lo+((0:Nat):Int) * 1=lo:=by simp
  have e2:(((hi - lo).toNat:Nat):Int) - ((0:Nat):Int)=K38 lo hi 1:=by rw[rangeSize_one];split<;>omega
  show IsRangeIter _ _ (lo+((0:Nat):Int) * 1) ((((hi - lo).toNat:Nat):Int) - ((0:Nat):Int)) 1;rw[e1,e2];exact K03 _ rfl
 ·have e:b=(s.heap.push { cls:=.type "range",data:=.fields #[.int lo t,.int hi u,.int 1 v] }).objs.size:=by simpa using hb
  subst e;exact I1.fpOk (K01 _) (I1.hok.fresh (K01 _))
def zR2 (ta:TA):TI:=λσ H R=>ta σ H λvs H1=>∃j:Int,vs=[.int j]/\-(2 ^ 62)<=j/\j<2 ^ 62/\R (Itr 0 j.toNat) H1
theorem z8Z {a:Expr}{ta:TA}{p pos:Pos}(hg:Gl X "range") (hm:X.mg "range" = none) (ha:PA X [a] ta) (hs:K05 [a] X.env=[(false,eval a X.env)]:=by rfl):PI X tg (.Call (.Name "range" p) [a] [] pos) (zR2 ta):=by
 intro pins s σ H R I h;refine Call_ (z4h I hg hm boot_range (K3d (thn (ha pos pins s σ H _ I h) λus s1 ⟨vs,H1,I1,r1,q1⟩=>?_) hs rfl));obtain⟨j,e,q1,q2,q⟩:=q1;subst e;cases r1 with
 | cons r rr =>
  cases rr;obtain⟨t,rfl⟩:=r;exact call_range_1 (zd5 I1 (by omega) (by omega) q1 q2 (by simpa using q))
def tFor (wi:TI) (g:TG) (tb:TS):TS:=λD σ H=>wi σ H λJ H1=>∃W:Nat->Nat->St->Hp->Prop,(∃m,W 0 m σ H1)/\∀i m σ H,W i m σ H ->
 (J.stop i H/\D.nx σ H)\/(J.go i H/\∃N:St->Hp->Prop,(∀σ' H',N σ' H'->∃m',m'<m/\W (i+1) m' σ' H')/\∀x H',J.yld i H x H'->g x σ H' λσ2 H2=>tb { D with nx:=N,ct:=N,bk:=D.nx } σ2 H2)
def z5l (fp:List Addr) (h:Heap):List (Addr×Obj):=fp.filterMap λb=>(h.get? b).map λo=>(b,o)
theorem z2j {fp:List Addr}{h:Heap}{b:Addr}{o:Obj}(hb:b∈fp) (e:h.get? b=some o):(b,o)∈z5l fp h:=K5f.mpr ⟨b,hb,by rw[e];rfl⟩
theorem z8P {fp:List Addr}{h:Heap}{p:Addr×Obj}(hp:p∈z5l fp h):p.1∈fp/\h.get? p.1=some p.2:=by
 obtain⟨b,hb,e⟩:=K5f.mp hp;cases q:h.get? b with
 | none=>rw[q]at e;cases e
 | some o =>
  rw[q]at e;have e':(b,o)=p:=K1d e;subst e';exact⟨hb,q⟩
theorem Inv.pinned {pins:List (Addr×Obj)}{σ:St}{H:Hp}{s:Shared}{fp:List Addr}(I:Inv X pins σ H s) (hf:∀b∈fp,FpOk X pins H b) (ho:∀b∈fp,∃o,s.heap.get? b=some o/\∀v,o.data≠.cell v):Inv X (pins++z5l fp s.heap) σ H s :=
 I.pins_of λp hp=>(K0n.mp hp).elim (λz=>I.pin p (K11 _ z)) λz=>by
  obtain⟨hb,e⟩:=z8P z;obtain⟨f0,f1,f2,_⟩:=hf p.1 hb;obtain⟨o,e',d⟩:=ho p.1 hb;rw[e]at e';cases e';exact⟨e,f0,f1,f2,d⟩
theorem Inv.unpinned {pins pl:List (Addr×Obj)}{σ:St}{H:Hp}{s:Shared}(I:Inv X (pins++pl) σ H s):Inv X pins σ H s:=I.pins_of λp hp=>I.pin p (K11 _ (K2g _ hp))
theorem zM8 {iter:Expr}{body:List Stmt}{wi:TI}{g:TG}{tb:TS}{pos:Pos}(hp:Z0r (model X.prog X.w) X.A X.env X.xe) (hc:X.calm=true) (hi:PI X tg iter wi) (hg:PG X tg g) (hb:PSs X body tb)
 (hs:∀x,K24 iter X.env x=pure x:=by intro _;rfl):PS X (.For tg iter body [] pos) (tFor wi g tb):=by
 intro pins s σ H D I h;refine wpAny_For (thn (hi pins s σ H _ I h) λv s1 h1=>thn h1 λitv s2 h2=>?_) hs;obtain⟨it,fp,tn,J,H2,e,I2,T,st2,f2,W,⟨m0,w0⟩,turn⟩:=h2;subst e;have stat:∀{H':Hp},(∀b∈fp,H' b=none)->∀b∈fp,FpOk X pins H' b:=λhn b hb=>⟨hn b hb,(f2 b hb).2⟩;refine codeAny_forLoop_any (λn s'=>∃i σ' H',Inv X pins σ' H' s'/\tn i s'.heap/\(∀b∈fp,H' b=none)/\W i n σ' H') ?_ m0 ⟨0,σ,H2,I2,st2,λb hb=>(f2 b hb).1,w0⟩;rintro n s3 ⟨i,σ3,H3,I3,st3,fr3,w3⟩;rcases turn i n σ3 H3 w3 with ⟨stop,qn⟩|⟨go,N,hN,step⟩
 ·refine K3q hp (thn (T.done X rfl rfl rfl hc i pins s3 σ3 H3 X.xe I3 (stat fr3) st3 stop) λr s4 ⟨hr,I4⟩=>?_);subst hr;exact K8t ⟨σ3,H3,I4,qn⟩
 ·refine K3q hp (thn (T.item X rfl rfl rfl hc i pins s3 σ3 H3 X.xe I3 (stat fr3) st3 go) λr s4 ⟨u,hr,h4⟩=>?_);subst hr;refine K3q hp (thn h4 λ_ s5 ⟨x,H5,I5,r5,y5,st5,fr5⟩=>?_);have I5':=I5.pinned (stat fr5) (T.obj _ _ st5);refine K3q hp (thn (hg _ s5 σ3 H5 x u _ I5' r5 (step x H5 y5)) λ_ s6 ⟨σ6,H6,I6,q6⟩=>?_);refine K3q hp (thn (hb _ s6 σ6 H6 _ I6 q6) λf s7 q7=>?_);have again:∀{σ7:St} {H7:Hp},Inv X (pins++z5l fp s5.heap) σ7 H7 s7->N σ7 H7->∃m,m<n/\∃i σ' H',Inv X pins σ' H' s7/\tn i s7.heap/\(∀b∈fp,H' b=none)/\W i m σ' H':=λ{σ7 H7} I7 n7=>by
   obtain⟨m',hm,w7⟩:=hN σ7 H7 n7;refine⟨m',hm,i+1,σ7,H7,I7.unpinned,T.keep _ _ _ st5 λb hb o e=>(I7.pin (b,o) (K11 _ (K11 _ (z2j hb e)))).1,λb hb=>?_,w7⟩;obtain⟨o,e,d⟩:=T.obj _ _ st5 b hb;exact(I7.pin (b,o) (K11 _ (K11 _ (z2j hb e)))).2.1
  cases f with
  | next=>obtain⟨σ7,H7,I7,n7⟩:=q7;exact again I7 n7
  | cont=>obtain⟨σ7,H7,I7,n7⟩:=q7;exact again I7 n7
  | brk=>obtain⟨σ7,H7,I7,q7⟩:=q7;exact⟨σ7,H7,I7.unpinned,q7⟩
  | ret v=>obtain⟨x7,σ7,H7,I7,r7,q7⟩:=q7;exact⟨x7,σ7,H7,I7.unpinned,r7,q7⟩
end
theorem z0D {lo:Int}{n:Nat}{g:TG}{tb:TS}{D:Ends}{σ:St}{H:Hp}(Pv:Nat->St->Hp->Prop) (h0:Pv 0 σ H)
 (hs:∀i σ H,i<n->Pv i σ H->g (.int (lo+i)) σ H λσ2 H2=>tb { D with nx:=Pv (i+1),ct:=Pv (i+1),bk:=D.nx } σ2 H2) (hd:∀σ H,Pv n σ H->D.nx σ H) :
 ∃W:Nat->Nat->St->Hp->Prop,(∃m,W 0 m σ H)/\∀i m σ H,W i m σ H ->
  ((Itr lo n).stop i H/\D.nx σ H)\/((Itr lo n).go i H/\∃N:St->Hp->Prop,(∀σ' H',N σ' H'->∃m',m'<m/\W (i+1) m' σ' H')/\∀x H',(Itr lo n).yld i H x H'->g x σ H' λσ2 H2=>tb { D with nx:=N,ct:=N,bk:=D.nx } σ2 H2):=by
 refine⟨λi m σ H=>m=n - i/\i<=n/\Pv i σ H,⟨n,by simp,K35 _,h0⟩,?_⟩;rintro i m σ H ⟨rfl,hi,p⟩;by_cases hlt:i<n
 ·refine .inr ⟨hlt,Pv (i+1),λσ' H' p'=>⟨n - (i+1),by omega,rfl,hlt,p'⟩,λx H' y=>?_⟩;obtain⟨e,y⟩:=y;subst e y;exact hs i σ _ hlt p
 ·have e:i=n:=by omega
  subst e;exact .inl ⟨K01 _,hd σ H p⟩
abbrev R2:=V->V->Hp->VK->Prop
def OpR (X:Cx) (f:Value->Value->Sem Value) (r:R2):Prop :=
 ∀(pins:List (Addr×Obj)) (s:Shared) (σ:St) (H:Hp) (x y:V) (v u:Value) (Q:VK),Inv X pins σ H s->RelV x v->RelV y u->r x y H Q ->
  wpAny (model X.prog X.w) X.A (f v u) (EP X pins σ Q) X.xe s
def UnR (X:Cx) (f:Value->Sem Value) (r:V->Hp->VK->Prop):Prop :=
 ∀(pins:List (Addr×Obj)) (s:Shared) (σ:St) (H:Hp) (x:V) (v:Value) (Q:VK),Inv X pins σ H s->RelV x v->r x H Q ->
  wpAny (model X.prog X.w) X.A (f v) (EP X pins σ Q) X.xe s
def z2B (X:Cx) (f:Value) (r:List V->Hp->VK->Prop):Prop :=
 ∀(pins:List (Addr×Obj)) (s:Shared) (σ:St) (H:Hp) (xs:List V) (us:List Value) (Q:VK),Inv X pins σ H s->Vals xs us->r xs H Q ->
  wpAny (model X.prog X.w) X.A (call f us) (EP X pins σ Q) X.xe s
def TruR (X:Cx) (r:V->Hp->(Bool->Hp->Prop)->Prop):Prop :=
 ∀(pins:List (Addr×Obj)) (s:Shared) (σ:St) (H:Hp) (x:V) (v:Value) (Q:Bool->Hp->Prop),Inv X pins σ H s->RelV x v->r x H Q ->
  wpAny (model X.prog X.w) X.A (truthy v) (TP X pins σ Q) X.xe s
def tOp (r:R2) (ta tb:TE):TE:=λσ H Q=>ta σ H λx H1=>tb σ H1 λy H2=>r x y H2 Q
def tUn (r:V->Hp->VK->Prop) (ta:TE):TE:=λσ H Q=>ta σ H λx H1=>r x H1 Q
def rI (C:Int->Int->Prop) (g:Int->Int->V):R2:=λx y H Q=>∃i j,x=.int i/\y=.int j/\C i j/\Q (g i j) H
def rI0 (g:Int->Int->V):R2:=λx y H Q=>∃i j,x=.int i/\y=.int j/\Q (g i j) H
def rU (g:Int->V):V->Hp->VK->Prop:=λx H Q=>∃i,x=.int i/\Q (g i) H
section
variable {X:Cx}{a b c:Expr}{ta tb tc:TE}{pos:Pos}
theorem binT (ha:PE X a ta) (hb:PE X b tb) {pins:List (Addr×Obj)}{s:Shared}{σ:St}{H:Hp}{R:V->V->Hp->Prop}(I:Inv X pins σ H s)
 (h:ta σ H λx H1=>tb σ H1 λy H2=>R x y H2) {Q:Value->Shared->Prop} {f:Value->Value->Sem Value}
 (hf:∀v u s2 x y H2,Inv X pins σ H2 s2->RelV x v->RelV y u->R x y H2->wpAny (model X.prog X.w) X.A (f v u) Q X.xe s2) :
 wpAny (model X.prog X.w) X.A (eval a X.env) (λv s₁=>wpAny (model X.prog X.w) X.A (eval b X.env) (λu s₂=>wpAny (model X.prog X.w) X.A (f v u) Q X.xe s₂) X.xe s₁) X.xe s:=by
 refine thn (ha pins s σ H _ I h) λv s1 ⟨x,H1,I1,r1,q1⟩=>?_;refine thn (hb pins s1 σ H1 _ I1 q1) λu s2 ⟨y,H2,I2,r2,q2⟩=>?_;exact hf v u s2 x y H2 I2 r1 r2 q2
theorem zS5 {op:Operator}{r:R2}(ho:OpR X (K3b op) r) (ha:PE X a ta) (hb:PE X b tb):PE X (.BinOp a op b pos) (tOp r ta tb):=by
 intro pins s σ H Q I h;exact wpAny_BinOp (binT ha hb I h λv u s2 x y H2 I2 rx ry q=>ho pins s2 σ H2 x y v u Q I2 rx ry q)
theorem zW7 {op:UnaryOp}{r:V->Hp->VK->Prop}(ho:UnR X (unaryOp op) r) (ha:PE X a ta):PE X (.UnaryOp op a pos) (tUn r ta):=by
 intro pins s σ H Q I h;exact UnaryOp_ (thn (ha pins s σ H _ I h) λv s1 ⟨x,H1,I1,r1,q1⟩=>ho pins s1 σ H1 x v Q I1 r1 q1)
theorem opI {f:Value->Value->Sem Value}{C:Int->Int->Prop}{g:Int->Int->Int}
 (rule:∀(i j:Int) (t u:Tok) (s:Shared) (Q:Value->Shared->Prop) (E:Value->Shared->Prop),C i j->Q (.int (g i j) s.toks) { s with toks:=s.toks+1 }->wpAny (model X.prog X.w) X.A (f (.int i t) (.int j u)) Q E s) :
 OpR X f (rI C λi j=>.int (g i j)):=by
 intro pins s σ H x y v u Q I rx ry h;obtain⟨i,j,rfl,rfl,hc,q⟩:=h;obtain⟨t,rfl⟩:=rx;obtain⟨t',rfl⟩:=ry;exact rule i j t t' s _ _ hc ⟨.int (g i j),H,I.tok _,⟨_,rfl⟩,q⟩
theorem opI0 {f:Value->Value->Sem Value}{g:Int->Int->Int}
 (rule:∀(i j:Int) (t u:Tok) (s:Shared) (Q:Value->Shared->Prop) (E:Value->Shared->Prop),Q (.int (g i j) s.toks) { s with toks:=s.toks+1 }->wpAny (model X.prog X.w) X.A (f (.int i t) (.int j u)) Q E s) :
 OpR X f (rI0 λi j=>.int (g i j)):=by
 intro pins s σ H x y v u Q I rx ry h;obtain⟨i,j,rfl,rfl,q⟩:=h;obtain⟨t,rfl⟩:=rx;obtain⟨t',rfl⟩:=ry;exact rule i j t t' s _ _ ⟨.int (g i j),H,I.tok _,⟨_,rfl⟩,q⟩
theorem opB0 {f:Value->Value->Sem Value}{g:Int->Int->Bool}
 (rule:∀(i j:Int) (t u:Tok) (s:Shared) (Q:Value->Shared->Prop) (E:Value->Shared->Prop),Q (.bool (g i j)) s->wpAny (model X.prog X.w) X.A (f (.int i t) (.int j u)) Q E s) :
 OpR X f (rI0 λi j=>.bl (g i j)):=by
 intro pins s σ H x y v u Q I rx ry h;obtain⟨i,j,rfl,rfl,q⟩:=h;obtain⟨t,rfl⟩:=rx;obtain⟨t',rfl⟩:=ry;exact rule i j t t' s _ _ ⟨.bl (g i j),H,I,rfl,q⟩
def CDiv (i j:Int):Prop:=0<j/\j<1073741824
def CPow (i j:Int):Prop:=0<=j/\j<=1000000/\i.natAbs<2 ^ 64
def CMul (i j:Int):Prop:=(-(2 ^ 64)<i/\i<2 ^ 64)\/(-(2 ^ 64)<j/\j<2 ^ 64)
theorem CMul.ok {i j:Int}(h:CMul i j):IntMulOk i j:=by
 rcases h with ⟨h1,h2⟩|⟨h1,h2⟩
 ·exact .of_left (intBits_le_64 h1 h2)
 ·exact .of_right (intBits_le_64 h1 h2)
theorem op_add:OpR X (K3b .Add) (rI0 λi j=>.int (i+j)):=opI0 λ_ _ _ _ _ _ _ q=>add_int q
theorem zI7:OpR X (K3b .Sub) (rI0 λi j=>.int (i - j)):=opI0 λ_ _ _ _ _ _ _ q=>sub_int q
theorem op_mul:OpR X (K3b .Mult) (rI CMul λi j=>.int (i * j)):=opI λ_ _ _ _ _ _ _ hc q=>mul_int q hc.ok
theorem zt4:OpR X (K3b .FloorDiv) (rI CDiv λi j=>.int (i / j)):=opI λi j _ _ _ _ _ hc q=>by
 have h1:(0:Int)<j:=hc.1;have h2:j<1073741824:=hc.2;exact floordiv_int (by omega) (by rw[Int.fdiv_eq_ediv_of_nonneg i (by omega)];exact q) (.inl (PyProof.noPylong_small (by omega)))
theorem zG1:OpR X (K3b .Mod) (rI (λ_ j=>0<j) λi j=>.int (i % j)):=opI λi j _ _ _ _ _ hc q=>by
 have h1:(0:Int)<j:=hc;exact mod_int' (by omega) (by rw[Int.fmod_eq_emod_of_nonneg i (by omega)];exact q)
theorem zL7:OpR X (K3b .Pow) (rI CPow λi j=>.int (i ^ j.toNat)):=opI λ_ _ _ _ _ _ _ hc q=>pow_int_small hc.1 hc.2.1 hc.2.2 q
theorem unI {f:Value->Sem Value}{g:Int->Int}
 (rule:∀(i:Int) (t:Tok) (s:Shared) (Q:Value->Shared->Prop) (E:Value->Shared->Prop),Q (.int (g i) s.toks) { s with toks:=s.toks+1 }->wpAny (model X.prog X.w) X.A (f (.int i t)) Q E s) :
 UnR X f (rU λi=>.int (g i)):=by
 intro pins s σ H x v Q I rx h;obtain⟨i,rfl,q⟩:=h;obtain⟨t,rfl⟩:=rx;exact rule i t s _ _ ⟨.int (g i),H,I.tok _,⟨_,rfl⟩,q⟩
theorem zM2:UnR X (unaryOp .USub) (rU λi=>.int (-i)):=unI λ_ _ _ _ _ q=>neg_int q
end
def scal:V->V->Bool
 | .non,.non=>true|.non,.int _=>true|.int _,.non=>true|.non,.bl _=>true|.bl _,.non=>true|.non,.str _=>true|.str _,.non=>true
 | .int _,.int _=>true|.bl _,.bl _=>true|.str _,.str _=>true|.byt _,.byt _=>true
 | .int _,.str _=>true|.str _,.int _=>true|.bl _,.str _=>true|.str _,.bl _=>true
 | _,_=>false
def rEq:R2:=λx y H Q=>scal x y=true/\Q (.bl (decide (x=y))) H
theorem zo0 {i j:Int}:decide (V.int i=V.int j)=(i==j):=by
 rw[K17];simp
theorem zC6 {i j:Bool}:decide (V.bl i=V.bl j)=(i==j):=by
 rw[K17];simp
theorem zr9 {i j:Str}:decide (V.str i=V.str j)=(i==j):=by
 rw[K17];simp
theorem zq8 {i j:Array UInt8}:decide (V.byt i=V.byt j)=(i.toList==j.toList):=by
 rw[K17];cases i;cases j;simp
section
variable {X:Cx}{a b c:Expr}{ta tb tc:TE}{pos:Pos}
theorem z0Y {pins:List (Addr×Obj)}{σ:St}{H:Hp}{s:Shared}{Q:VK}{k k':Bool}(I:Inv X pins σ H s) (q:Q (.bl k) H) (e:k=k'):EP X pins σ Q (.bool k') s:=by
 subst e;exact⟨.bl k,H,I,rfl,q⟩
theorem zU8:OpR X (K1t .Eq) rEq:=by
 intro pins s σ H x y v u Q I rx ry h;obtain⟨hs,q⟩:=h;cases x with
 | non =>
  cases rx;cases y with
  | non=>cases ry;exact PySem.EqNone.eq_none_none (z0Y I q (by simp))
  | bl j=>cases ry;exact PySem.EqNone.eq_none_bool (z0Y I q (by simp))
  | int j=>obtain⟨t',rfl⟩:=ry;exact PySem.EqNone.eq_none_int (z0Y I q (by simp))
  | str j=>obtain⟨t',rfl⟩:=ry;exact PySem.EqNone.eq_none_str (z0Y I q (by simp))
  | _=>exact absurd (show false=true from hs) K0v
 | bl i =>
  cases rx;cases y with
  | non=>cases ry;exact PySem.EqNone.eq_bool_none (z0Y I q (by simp))
  | bl j=>cases ry;exact eq_bool (z0Y I q zC6)
  | str j=>obtain⟨t',rfl⟩:=ry;exact PySem.EqMixed.eq_bool_str (z0Y I q (by simp))
  | _=>exact absurd (show false=true from hs) K0v
 | int i =>
  obtain⟨t,rfl⟩:=rx;cases y with
  | non=>cases ry;exact PySem.EqNone.eq_int_none (z0Y I q (by simp))
  | int j=>obtain⟨t',rfl⟩:=ry;exact eq_int (z0Y I q zo0)
  | str j=>obtain⟨t',rfl⟩:=ry;exact PySem.EqMixed.eq_int_str (z0Y I q (by simp))
  | _=>exact absurd (show false=true from hs) K0v
 | str i =>
  obtain⟨t,rfl⟩:=rx;cases y with
  | non=>cases ry;exact PySem.EqNone.eq_str_none (z0Y I q (by simp))
  | bl j=>cases ry;exact PySem.EqMixed.eq_str_bool (z0Y I q (by simp))
  | int j=>obtain⟨t',rfl⟩:=ry;exact PySem.EqMixed.eq_str_int (z0Y I q (by simp))
  | str j=>obtain⟨t',rfl⟩:=ry;exact eq_str (z0Y I q zr9)
  | _=>exact absurd (show false=true from hs) K0v
 | byt i =>
  obtain⟨t,rfl⟩:=rx;cases y with
  | byt j=>obtain⟨t',rfl⟩:=ry;exact PySem.W.eq_bytes (z0Y I q zq8)
  | _=>exact absurd (show false=true from hs) K0v
 | _=>cases y<;>exact absurd (show false=true from hs) K0v
theorem op_lt:OpR X (K1t .Lt) (rI0 λi j=>.bl (decide (i<j))):=opB0 λ_ _ _ _ _ _ _ q=>lt_int q
theorem op_le:OpR X (K1t .LtE) (rI0 λi j=>.bl (decide (i<=j))):=opB0 λ_ _ _ _ _ _ _ q=>le_int q
theorem zW3:OpR X (K1t .Gt) (rI0 λi j=>.bl (decide (j<i))):=opB0 λ_ _ _ _ _ _ _ q=>gt_int q
theorem zT0:OpR X (K1t .GtE) (rI0 λi j=>.bl (decide (j<=i))):=opB0 λ_ _ _ _ _ _ _ q=>ge_int q
theorem z8a:OpR X (K1t .Lt) (λx y H Q=>∃i j,x=.str i/\y=.str j/\Q (.bl (decide (i.cps.toList<j.cps.toList))) H):=by
 intro pins s σ H x y v u Q I rx ry h;obtain⟨i,j,rfl,rfl,q⟩:=h;obtain⟨t,rfl⟩:=rx;obtain⟨t',rfl⟩:=ry;exact lt_str (z0Y I q rfl)
theorem OpR.or {f:Value->Value->Sem Value}{r r':R2}(h:OpR X f r) (h':OpR X f r'):OpR X f (λx y H Q=>r x y H Q\/r' x y H Q):=by
 intro pins s σ H x y v u Q I rx ry q;rcases q with q|q
 ·exact h pins s σ H x y v u Q I rx ry q
 ·exact h' pins s σ H x y v u Q I rx ry q
theorem zk3 (b:Expr) {op:CmpOp}(h:op≠.In:=by decide) (h2:op≠.NotIn:=by decide):K4l op b=false:=by
 have e1:(op==CmpOp.In)=false:=by cases op<;>first|rfl|exact absurd rfl h
 have e2:(op==CmpOp.NotIn)=false:=by cases op<;>first|rfl|exact absurd rfl h2
 cases b<;>simp[K4l,e1,e2]
theorem zy2 {op:CmpOp}{r:R2}(ho:OpR X (K1t op) r) (ha:PE X a ta) (hb:PE X b tb) (hm:K4l op b=false):PE X (.Compare a [op] [b] pos) (tOp r ta tb):=by
 intro pins s σ H Q I h;exact wpAny_Compare1 (binT ha hb I h λv u s2 x y H2 I2 rx ry q=>ho pins s2 σ H2 x y v u Q I2 rx ry q) hm
def zE8 (t:TE):TT:=λσ H Q=>t σ H λx H'=>∃k,x=.bl k/\Q k H'
theorem zq2 {op:CmpOp}{r:R2}(ho:OpR X (K1t op) r) (ha:PE X a ta) (hb:PE X b tb) (hm:K4l op b=false):PT X (.Compare a [op] [b] pos) (zE8 (tOp r ta tb)):=by
 intro pins s σ H Q I h;refine wpAny_isTrue_Compare1 (thn (ha pins s σ H _ I h) λv s1 ⟨x,H1,I1,r1,q1⟩=>thn (hb pins s1 σ H1 _ I1 q1) λu s2 ⟨y,H2,I2,r2,q2⟩ =>
  thn (ho pins s2 σ H2 x y v u _ I2 r1 r2 q2) λc s3 ⟨z,H3,I3,r3,k,e,q3⟩=>?_) hm
 subst e;cases r3;exact K3u ⟨H3,I3,q3⟩
def zj5 (r r':R2) (ta tb tc:TE):TE:=λσ H Q=>ta σ H λx H1=>tb σ H1 λy H2=>r x y H2 λz H3=>∃k,z=.bl k /\
 (if k=true then tc σ H3 λw' H4=>r' y w' H4 Q else Q (.bl false) H3)
theorem zc8 {op op':CmpOp}{r r':R2}(ho:OpR X (K1t op) r) (ho':OpR X (K1t op') r') (ha:PE X a ta) (hb:PE X b tb) (hc:PE X c tc)
 (hm:lastMarks [op,op'] [b,c]=false:=by with_unfolding_all rfl):PE X (.Compare a [op,op'] [b,c] pos) (zj5 r r' ta tb tc):=by
 intro pins s σ H Q I h;refine Compare_chain (thn (ha pins s σ H _ I h) λv s1 ⟨x,H1,I1,r1,q1⟩=>chain_link (thn (hb pins s1 σ H1 _ I1 q1) λu s2 ⟨y,H2,I2,r2,q2⟩ =>
  thn (ho pins s2 σ H2 x y v u _ I2 r1 r2 q2) λd s3 ⟨z,H3,I3,r3,k,e,q3⟩=>?_)) hm
 subst e;cases r3;refine K3u ?_;cases k with
 | false=>exact ite_ff ⟨.bl false,H3,I3,rfl,q3⟩
 | true=>exact ite_tt (chain_last (thn (hc pins s3 σ H3 _ I3 q3) λw' s4 ⟨z',H4,I4,r4,q4⟩=>ho' pins s4 σ H4 y z' u w' Q I4 r2 r4 q4))
def TruV (K:K2) (x:V) (H:Hp) (k:Bool):Prop :=
 match x with
 | .non=>k=false
 | .bl b=>k=b
 | .int i=>k=(i != 0)
 | .str y=>y.length<=sizeLine/\k=((y.length:Int) != 0)
 | .byt y=>y.size<=sizeLine/\k=((y.size:Int) != 0)
 | .ref p=>(∃xs,SqL K H p xs/\k = !xs.isEmpty)\/(∃xs,SqT K H p xs/\k = !xs.isEmpty)\/∃kvs,H p=some (.dK kvs)/\k = !kvs.isEmpty
 | _=>False
theorem z7F {κ:Type}{kvs:List (κ×V)}{vs:List (κ×Value)}(r:KV kvs vs):(!vs.isEmpty) = !kvs.isEmpty:=by
 cases r<;>rfl
theorem z4k {xs:List V}{its:List Value}(r:Vals xs its):(!its.toArray.isEmpty) = !xs.isEmpty:=by
 cases r<;>simp
theorem z4c:(sizeLine:Nat)<2 ^ 63:=by rw[K95];decide
theorem zO6:TruR X (λx H Q=>∃k,TruV X.K x H k/\Q k H):=by
 intro pins s σ H x v Q I rx h;obtain⟨k,e,q⟩:=h;have hl:=z4c;have hs:sizeLine=16777216:=K95;cases x with
 | non =>
  cases rx;have e':k=false:=e;subst e';exact truthy_none ⟨H,I,q⟩
 | bl b =>
  cases rx;have e':k=b:=e;subst e';exact K3u ⟨H,I,q⟩
 | int i =>
  obtain⟨t,rfl⟩:=rx;have e':k=(i != 0):=e;subst e';exact PySem.P.truthy_int ⟨H,I,q⟩
 | str y =>
  obtain⟨t,rfl⟩:=rx;obtain⟨hy,e'⟩:y.length<=sizeLine/\k=((y.length:Int) != 0):=e;subst e';exact PySem.P.truthy_str (by omega) ⟨H,I.tok _,q⟩
 | byt y =>
  obtain⟨t,rfl⟩:=rx;obtain⟨hy,e'⟩:y.size<=sizeLine/\k=((y.size:Int) != 0):=e;subst e';exact PySem.W.truthy_bytes (by omega) ⟨H,I.tok _,q⟩
 | ref p =>
  cases rx;have e':(∃xs,SqL X.K H p xs/\k = !xs.isEmpty)\/(∃xs,SqT X.K H p xs/\k = !xs.isEmpty)\/∃kvs,H p=some (.dK kvs)/\k = !kvs.isEmpty:=e;rcases e' with ⟨xs,hx,e'⟩|⟨xs,hx,e'⟩|⟨kvs,hx,e'⟩
  ·subst e';obtain⟨its,r,pl,hz⟩:=I.list hx;have hlen:=r.length;exact wpAny_truthy_list pl.isList (by simp only[K9];omega) ⟨H,I.tok _,by rw[z4k r];exact q⟩
  ·subst e';obtain⟨its,r,pl,hz⟩:=I.tuple hx;have hlen:=r.length;exact truthy_tuple pl (by simp only[K9];omega) ⟨H,I.tok _,by rw[z4k r];exact q⟩
  ·subst e';obtain⟨hz,hS,vs,r,m⟩:kvs.length<=sizeLine/\(p==K3x)=false/\∃vs,KV kvs vs/\s.heap.DictOf (z06 X.prog X.w) p vs:=I.hok p _ hx;have hlen:kvs.length=vs.length:=K3w r;exact wpAny_truthy_dict hS m (by omega) ⟨H,I.tok _,by rw[z7F r];exact q⟩
 | _=>exact(show False from e).elim
theorem zh3 (ha:PE X a ta) (he:∀whole,isTrue a X.env whole=(do let v <- whole;K6j a.pos;K41 [v] (truthy v))) :
 PT X a (λσ H Q=>ta σ H λx H'=>∃k,TruV X.K x H' k/\Q k H'):=by
 intro pins s σ H Q I h;exact isTrue_plain (thn (ha pins s σ H _ I h) λv s1 ⟨x,H1,I1,r1,q1⟩=>zO6 pins s1 σ H1 x v Q I1 r1 q1) (he _)
theorem op_add_str:OpR X (K3b .Add) (λx y H Q=>∃i j,x=.str i/\y=.str j/\i.length+j.length<=sizeLine/\Q (.str (i++j)) H):=by
 intro pins s σ H x y v u Q I rx ry h;obtain⟨i,j,rfl,rfl,hz,q⟩:=h;obtain⟨t,rfl⟩:=rx;obtain⟨t',rfl⟩:=ry;exact add_str (λt' tk=>⟨.str (i++j),H,I.tok _,⟨_,rfl⟩,q⟩) hz
theorem vals1 {x:V}{us:List Value}(r:Vals [x] us):∃u,us=[u]/\RelV x u:=by
 cases r with
 | cons r1 r2=>cases r2;exact⟨_,rfl,r1⟩
theorem vals2 {x y:V}{us:List Value}(r:Vals [x,y] us):∃u w',us=[u,w']/\RelV x u/\RelV y w':=by
 cases r with
 | cons r1 r2 =>
  cases r2 with
  | cons r3 r4=>cases r4;exact⟨_,_,rfl,r1,r3⟩
theorem z8H (hc:X.calm=true):z2B X (.builtin "min") (λxs H Q=>∃i j,xs=[.int i,.int j]/\Q (.int (if j<i then j else i)) H):=by
 intro pins s σ H xs us Q I r h;obtain⟨i,j,rfl,q⟩:=h;obtain⟨u,w',rfl,⟨t,rfl⟩,⟨t',rfl⟩⟩:=vals2 r;refine min_two_ints (I.ok.hd hc) λh' tk k=>⟨_,H,I.kept k,?_,q⟩;by_cases hj:j<i
 ·rw[if_pos hj,if_pos hj];exact⟨_,rfl⟩
 ·rw[if_neg hj,if_neg hj];exact⟨_,rfl⟩
theorem z8B:z2B X (.type "int") (λxs H Q=>(∃i,xs=[.int i]/\Q (.int i) H)\/∃k,xs=[.bl k]/\Q (.int (if k then 1 else 0)) H):=by
 intro pins s σ H xs us Q I r h;rcases h with ⟨i,rfl,q⟩|⟨k,rfl,q⟩
 ·obtain⟨u,rfl,t,rfl⟩:=vals1 r;exact call_int_int ⟨.int i,H,I,⟨_,rfl⟩,q⟩
 ·obtain⟨u,rfl,r1⟩:=vals1 r;cases r1;exact call_int_bool ⟨.int (if k then 1 else 0),H,I.tok _,⟨_,rfl⟩,q⟩
def LenV (K:K2) (x:V) (H:Hp) (n:Nat):Prop :=
 match x with
 | .str y=>y.length<=sizeLine/\n=y.length
 | .byt y=>y.size<=sizeLine/\n=y.size
 | .ref p=>(∃xs,SqL K H p xs/\n=xs.length)\/∃xs,SqT K H p xs/\n=xs.length
 | _=>False
theorem zh2:z2B X (.builtin "len") (λxs H Q=>∃x n,xs=[x]/\LenV X.K x H n/\Q (.int n) H):=by
 intro pins s σ H xs us Q I r h;obtain⟨x,n,rfl,e,q⟩:=h;obtain⟨u,rfl,rx⟩:=vals1 r;have hl:=z4c;have hs:sizeLine=16777216:=K95;cases x with
 | str y =>
  obtain⟨t,rfl⟩:=rx;obtain⟨hy,e'⟩:y.length<=sizeLine/\n=y.length:=e;subst e';exact len_str (by omega) ⟨.int _,H,I.tok _,⟨_,rfl⟩,q⟩
 | byt y =>
  obtain⟨t,rfl⟩:=rx;obtain⟨hy,e'⟩:y.size<=sizeLine/\n=y.size:=e;subst e';exact PySem.W.len_bytes (by omega) ⟨.int _,H,I.tok _,⟨_,rfl⟩,q⟩
 | ref p =>
  cases rx;have e':(∃xs,SqL X.K H p xs/\n=xs.length)\/∃xs,SqT X.K H p xs/\n=xs.length:=e;rcases e' with ⟨xs,hx,e'⟩|⟨xs,hx,e'⟩
  ·subst e';obtain⟨its,r',pl,hz⟩:=I.list hx;have hlen:=r'.length;exact Calls.call_len_list pl.isList (by simp only[K9];omega) ⟨.int xs.length,H,I.tok _,⟨_,by simp only[K9];rw[hlen]⟩,q⟩
  ·subst e';obtain⟨its,r',pl,hz⟩:=I.tuple hx;have hlen:=r'.length;exact len_tuple pl (by simp only[K9];omega) ⟨.int xs.length,H,I.tok _,⟨_,by simp only[K9];rw[hlen]⟩,q⟩
 | _=>exact(show False from e).elim
end
structure ObjM (h:Heap) (x dx C:Addr) (mA:Str->Option Value):Prop where
 obj:h.get? x=some (K8p C dx)
 ns:h.Ns1 dx mA
 ne:dx≠x
theorem z95 {h:Heap}{dx:Addr}{mA:Str->Option Value}(n:h.Ns1 dx mA):∃od,h.get? dx=some od/\∀name,K91 name od=some (mA name):=by
 obtain⟨o,es,ep,ho,hd,hk,_,hm⟩:=n;refine⟨o,ho,λname=>?_⟩;have e:=hm name;unfold nsFind findBy at e;rw[<- K9x]at e;unfold K91;rw[hd];dsimp only;split
 ·rename_i y q;rw[q]at e;exact congrArg some e
 ·rename_i q;rw[q]at e;have a:es.toList.any (·.refKey)=false:=by
   rw[List.any_eq_false];intro y hy;obtain⟨z,t,hkey⟩:=hk y (Array.mem_toList_iff.mp hy);simp[DictEntry.refKey,hkey]
  have a':¬ es.toList.any (·.refKey)=true:=by rw[a];exact K0v
  rw[if_neg a'];exact congrArg some e
theorem ObjM.look {h:Heap}{x dx C:Addr}{mA:Str->Option Value}(I:ObjM h x dx C mA):∃od,PySem.W.InstAt h x (K8p C dx) C (some od)/\∀name,K91 name od=some (mA name) :=
 let ⟨od,ho,hl⟩:=z95 I.ns
 ⟨od,⟨I.obj,rfl,rfl,ho⟩,hl⟩
section
variable {prog:K0d}{w:World}{A:Around}{E:Value->Shared->Prop}{s:Shared}{K:K2}{x dx C f:Addr}{mA:Str->Option Value}{name:Str}{v:Value}
end
theorem RelO.some_of {v:V}{o:Option Value}(r:RelO (some v) o):∃u,o=some u/\RelV v u:=by
 cases o with
 | none=>exact(show False from r).elim
 | some u=>exact⟨u,rfl,r⟩
section
variable {P:K0d}{w:World}{H H':Hp}{h h':Heap}{a C dx:Addr}{fs fs':List (Str×V)}
theorem zA3 (hok:HOk P w H h) (e:H a=some (.ins C dx fs)):∃mA,ObjM h a dx C mA/\(∀f,RelO (fs.lookup f) (mA f))/\PySem.Within mA (fs.map (·.1))/\fs.length<=1000/\H dx=some (.own a):=by
 obtain⟨d,z,ne,ob,mA,n,r,q⟩:=(show ObjOk P w H h a (.ins C dx fs) from hok a _ e);exact⟨mA,⟨ob,n,ne⟩,r,q,z,d⟩
end
structure Cls (K:K2) (C:Addr):Prop where
 pg:Z0l K C Str.empty=true
 hd:PySem.W.hasDictIn K C=true
 po:PySem.W.plainOver K C=true
 sa:Z1c K (.ref C) "__setattr__" = some (some (.builtin "object.__setattr__"))
theorem Cls.get {K:K2}{C:Addr}(c:Cls K C) (f:Str):Z0l K C f=true:=c.pg
section
variable {X:Cx}{pins:List (Addr×Obj)}{σ:St}{H:Hp}{s:Shared}{a C dx:Addr}{fs:List (Str×V)}{f:Str}{v:V}{A:Around}{E:Value->Shared->Prop}
end
section
variable {X:Cx}{o e value:Expr}{f:Str}{pos pos' tpos:Pos}{ta tv:TE}
end
section
variable {X:Cx}{pins:List (Addr×Obj)}{σ:St}{H:Hp}{s:Shared}{A:Around}{E:Value->Shared->Prop}{Q:Value->Shared->Prop}{c:Value}{b:Bool}
inductive TyOf (K:K2) (H:Hp):V->Value->Prop where
 | non:TyOf K H .non (.type "NoneType")
 | bl (x:Bool):TyOf K H (.bl x) (.type "bool")
 | int (i:Int):TyOf K H (.int i) (.type "int")
 | str (x:Str):TyOf K H (.str x) (.type "str")
 | flt (x:UInt64):TyOf K H (.flt x) (.type "float")
 | lst {a:Addr} {xs:List V} (e:H a=.(l xs)):TyOf K H (.ref a) (.type "list")
 | frz {a:Addr} {o:Obj} {xs:List V} (e:H a=some (.frz o (.lst xs))):TyOf K H (.ref a) (.type "list")
 | tup {a:Addr} {xs:List V} (e:H a=.(g xs)):TyOf K H (.ref a) (.type "tuple")
 | dK {a:Addr} {kvs:List (Key×V)} (e:H a=some (.dK kvs)):TyOf K H (.ref a) (.type "dict")
 | dT {a:Addr} {kvs:List (List Key×V)} (e:H a=some (.dT kvs)):TyOf K H (.ref a) (.type "dict")
 | ins {a C dx:Addr} {fs:List (Str×V)} (e:H a=some (.ins C dx fs)) (cl:Cls K C) (ha:Z1c K (.ref C) "__class__" = some (some (.builtin "object.__class__")))
  (hn:PySem.W.specialIn K (.builtin "object.__class__") "__get__" = some (some (.builtin "getset_descriptor.__get__"))) (htk:PySem.W.takesIn K (.builtin "object.__class__")=some true)
  (hm:PySem.W.mroIn K C (.type "object")=some true):TyOf K H (.ref a) (.ref C)
theorem z8o {x:V}{u t:Value}(I:Inv X pins σ H s) (rx:RelV x u) (ty:TyOf X.K H x t) (e:K5n X.K t c=some b) (h:∀tk,Q (.bool b) { s with toks:=tk }) :
 wpAny (model X.prog X.w) A (call (.builtin "isinstance") [u,c]) Q E s:=by
 cases ty with
 | non=>cases (show u=K2n from rx);exact K1o PySem.W.kitx_none I.kIn K48 e (λz=>nomatch z) h
 | bl y=>cases (show u=K71 y from rx);exact K1o PySem.W.kitx_bool I.kIn K48 e (λz=>nomatch z) h
 | int i=>obtain⟨t,q⟩:=(show ∃t,u=K70 i t from rx);cases q;exact K1o PySem.W.kitx_int I.kIn K48 e (λz=>nomatch z) h
 | str y=>obtain⟨t,q⟩:=(show ∃t,u=Z0i y t from rx);cases q;exact K1o PySem.W.kitx_str I.kIn K48 e (λz=>nomatch z) h
 | flt y=>obtain⟨t,q⟩:=(show ∃t,u=Value.float y t from rx);cases q;exact K1o PySem.W.kitx_float I.kIn K48 e (λz=>nomatch z) h
 | @lst a xs ea =>
  cases (show u=K1s a from rx);obtain⟨_,_,n,_,h1⟩:=(show ObjOk X.prog X.w H s.heap a (.lst xs) from I.hok a _ ea);exact K1o K7h I.kIn ⟨_,h1,rfl⟩ e (λz=>nomatch z) h
 | @frz a ob xs ea =>
  cases (show u=K1s a from rx);obtain⟨_,_,_,n,_,h1⟩:=(show ObjOk X.prog X.w H s.heap a (.frz ob (.lst xs)) from I.hok a _ ea);exact K1o K7h I.kIn ⟨_,h1,rfl⟩ e (λz=>nomatch z) h
 | @tup a xs ea =>
  cases (show u=K1s a from rx);obtain⟨_,_,_,p⟩:=(show ObjOk X.prog X.w H s.heap a (.tup xs) from I.hok a _ ea);obtain⟨o,h1,h2,_⟩:=p;exact K1o K9t I.kIn ⟨o,h1,h2.1⟩ e (λz=>nomatch z) h
 | @dK a kvs ea =>
  cases (show u=K1s a from rx);obtain⟨_,_,vs,_,p⟩:=(show ObjOk X.prog X.w H s.heap a (.dK kvs) from I.hok a _ ea);obtain⟨o,es,ep,h1,h2,_⟩:=p;exact K1o K7i I.kIn ⟨o,h1,h2.1⟩ e (λz=>nomatch z) h
 | @dT a kvs ea =>
  cases (show u=K1s a from rx);obtain⟨_,_,xs,_,o,es,ep,h1,h2,_⟩:=(show ObjOk X.prog X.w H s.heap a (.dT kvs) from I.hok a _ ea);exact K1o K7i I.kIn ⟨o,h1,h2.1⟩ e (λz=>nomatch z) h
 | @ins a C dx fs ea cl ha hn htk hm =>
  cases (show u=K1s a from rx);obtain⟨mA,O,_⟩:=zA3 I.hok ea;obtain⟨od,J,_⟩:=O.look;exact K1o (PySem.W.kitx_own (cl.get _) cl.hd ha hn htk hm) I.kIn J e (λz=>nomatch z) h
end
structure Room (k:Nat) (A:Around):Prop where
 hd:A.handled=none
 dp:A.depth+3 * k+5<recursionLimit
 un:A.units+16 * k+200<cLine
 gd:A.guards=some []
theorem Room.mono {j k:Nat}{A:Around}(r:Room k A) (h:j<=k):Room j A:=⟨r.hd,by have:=r.dp;omega,by have:=r.un;omega,r.gd⟩
theorem Room.deeper {k:Nat}{A:Around}(r:Room (k+1) A) (env:Env):Room k (A.deeper env) :=
 ⟨r.hd,by have:=r.dp;show A.depth+1+3 * k+5<_;omega,by have:=r.un;show A.units+3+16 * k+200<_;omega,r.gd⟩
theorem Room.depth {k:Nat}{A:Around}(r:Room k A):A.depth<recursionLimit:=by have:=r.dp;omega
theorem Room.units {k:Nat}{A:Around}(r:Room k A):A.units+64<cLine:=by have:=r.un;omega
def tNil:TA:=λ_ H Q=>Q [] H
def ze1 (ta:TE) (tr:TA):TA:=λσ H Q=>ta σ H λx H1=>tr σ H1 λxs H2=>Q (x::xs) H2
section
variable {X:Cx}{e:Expr}{es:List Expr}{te:TE}{t:TA}{pos:Pos}
theorem z2N:PA X [] tNil:=λ_ _ _ _ H Q I h=>Calls.spliced_nil ⟨[],H,I,.nil,h⟩
theorem z1B (ha:PE X e te) (hr:PA X es t) (hs:K05 (e::es) X.env=(false,eval e X.env)::K05 es X.env:=by rfl):PA X (e::es) (ze1 te t):=by
 intro pos pins s σ H Q I h;rw[hs];show wpAny _ _ (spliced ((false,eval e X.env)::backTo pos (K05 es X.env))) _ _ s;refine Calls.spliced_cons (thn (ha pins s σ H _ I h) λu s1 ⟨x,H1,I1,r1,q1⟩=>?_);exact thn (hr pos pins s1 σ H1 _ I1 q1) λus s2 ⟨xs,H2,I2,r2,q2⟩=>⟨x::xs,H2,I2,.cons r1 r2,q2⟩
def tTup (t:TA):TE:=λσ H Q=>t σ H λxs H1=>xs.length<=sizeLine/\∀p,H1 p=none->Q (.ref p) (upd H1 p (.tup xs))
def tLst (t:TA):TE:=λσ H Q=>t σ H λxs H1=>xs.length<=sizeLine/\∀p,H1 p=none->Q (.ref p) (upd H1 p (.lst xs))
theorem zQ0 {x1}(h:PA X es t):PE X (.Tuple es x1 pos) (tTup t):=by
 intro pins s σ H Q I hq;refine wpAny_Tuple_spliced (thn (h pos pins s σ H _ I hq) λus s1 ⟨xs,H1,I1,r,z,q⟩=>⟨by rw[<- r.length];exact z,?_⟩);have hf:H1 s1.heap.objs.size=none:=I1.hok.fresh (K01 _);refine⟨.ref s1.heap.objs.size,upd H1 s1.heap.objs.size (.tup xs),I1.laid (t':=s1.toks) (λb u e=>K3 _ e) (K01 _) ?_,rfl,q _ hf⟩;exact⟨z,us,r,⟨_,K03 _ rfl,⟨rfl,rfl⟩,_,rfl⟩⟩
theorem zP3 (h:PA X es t):PE X (.List es pos) (tLst t):=by
 intro pins s σ H Q I hq;refine wpAny_List_spliced (thn (h pos pins s σ H _ I hq) λus s1 ⟨xs,H1,I1,r,z,q⟩=>⟨by rw[<- r.length];exact z,?_⟩);have hf:H1 s1.heap.objs.size=none:=I1.hok.fresh (K01 _);refine⟨.ref s1.heap.objs.size,upd H1 s1.heap.objs.size (.lst xs),I1.laid (t':=s1.toks) (λb u e=>K3 _ e) (K01 _) ?_,rfl,q _ hf⟩;exact⟨z,us,0,r,K03 _ rfl⟩
end
abbrev Sp:=List V->Hp->VK->XK->Prop
abbrev CXT:=List Env->Hp->Shared->XK->Value->Shared->Prop
structure Env0 (P:K0d) (w:World) (K:K2) (mg:Str->Option Value) (base:Heap) (A:Around) (outer:List Env) (s:Shared) (H:Hp):Prop where
 frames:A.frames=some outer
 mod:Mod K mg base
 bs:∀b o,base.get? b=some o->s.heap.get? b=some o/\H b=none
 bsz:base.objs.size<=s.heap.objs.size
 funs:s.heap.FunFrames base outer
 frf:∀b∈frs outer,H b=none
 hok:HOk P w H s.heap
 bare:K7m s.gens
def CE (outer:List Env) (P:K0d) (w:World) (H:Hp) (s:Shared) (Q:VK) (u:Value) (s':Shared):Prop :=
 ∃v H',s'.os=s.os/\K7m s'.gens/\Un (frs outer) [] H H' s.heap s'.heap/\HOk P w H' s'.heap/\RelV v u/\Q v H'
def CR (CX:CXT) (outer:List Env) (P:K0d) (w:World) (H:Hp) (s:Shared) (Q:VK) (E:XK) (r:Result) (s':Shared):Prop :=
 match r with
 | .ok (.ret u)=>CE outer P w H s Q u s'
 | .ok _=>False
 | .error e=>CX outer H s E e s'
structure FnOk (P:K0d) (w:World) (K:K2) (mg:Str->Option Value) (base:Heap) (CX:CXT) (k:Nat) (f:Addr) (fd:K2j) (ps:List Str) (sp:Sp):Prop where
 len:∀vs H Q E,sp vs H Q E->vs.length=ps.length
 run:∀(A:Around) (outer:List Env) (s:Shared) (H:Hp) (args:Args) (us:List Value) (vs:List V) (Q:VK) (E:XK),Room k A->Env0 P w K mg base A outer s H->K8d s fd args (ps.zip us)->Vals vs us->sp vs H Q E ->
  K5u (model P w) A (.call (.ref f) args) (CR CX outer P w H s Q E) s
theorem FnOk.imp {P:K0d}{w:World}{K:K2}{mg:Str->Option Value}{base:Heap}{CX:CXT}{k:Nat}{f:Addr}{fd:K2j}{ps:List Str}{sp sp':Sp}(F:FnOk P w K mg base CX k f fd ps sp)
 (h:∀vs H Q E,sp' vs H Q E->sp vs H Q E):FnOk P w K mg base CX k f fd ps sp' :=
 ⟨λvs H Q E q=>F.len vs H Q E (h _ _ _ _ q),λA outer s H args us vs Q E hr he hb hv hs=>F.run A outer s H args us vs Q E hr he hb hv (h _ _ _ _ hs)⟩
section
variable {X:Cx}{pins:List (Addr×Obj)}{σ:St}{H:Hp}{s s':Shared}
theorem Inv.env0 (I:Inv X pins σ H s):Env0 X.prog X.w X.K X.mg X.base X.A X.stack s H :=
 ⟨I.ok.frames,I.ok.mod,I.bs,K0x I.ok.bsz I.sz,I.stack,I.stkFree,I.hok,I.bare⟩
theorem Inv.after {Q:VK}{u:Value}(I:Inv X pins σ H s) (h:CE X.stack X.prog X.w H s Q u s'):EP X pins σ Q u s':=by
 obtain⟨v,H',os,bare,un,hok,r,q⟩:=h;obtain⟨hh,g,d,t,os'⟩:=s';obtain rfl:os'=s.os:=os;exact⟨v,H',I.call (h':=hh) (g':=g) (d':=d) (t':=t) (ch:=[]) un hok bare (λb z=>absurd z (by simp)),r,q⟩
end
def zR3 (sp:Sp) (dvs:List V) (E:XK) (t:TA):TE:=λσ H Q=>t σ H λvs H1=>sp (vs++dvs) H1 Q E
def Binds (K:K2) (fd:K2j) (ps:List Str) (ds:List Value):Prop :=
 ∀(s:Shared) (us:List Value),K.In s.heap->(us++ds).length=ps.length->K8d s fd ⟨us,[]⟩ (ps.zip (us++ds))
theorem Binds.all {K:K2}{fd:K2j}{ps:List Str}(h:∀us:List Value,us.length=ps.length->bindArgs fd ⟨us,[]⟩=pure (ps.zip us)):Binds K fd ps []:=λs us _ hl=>by
 rw[K2c]at hl ⊢;exact .of_eq (h us hl)
def z5w (CX:CXT) (X:Cx) (E:XK):Prop:=∀(pins:List (Addr×Obj)) (σ:St) (H:Hp) (s:Shared) (e:Value) (s':Shared),Inv X pins σ H s->CX X.stack H s E e s'->X.xe e s'
section
variable {X:Cx}{CX:CXT}{k:Nat}{f C:Addr}{fd:K2j}{ps:List Str}{sp:Sp}{dvs:List V}{ds:List Value}{E:XK}{x m:Str}{p pos apos:Pos}{e o:Expr}{es:List Expr}{ta:TE}{t:TA}
theorem zM0 {pins:List (Addr×Obj)}{σ:St}{H:Hp}{s:Shared}{Q:VK}{us:List Value}{vs:List V}(F:FnOk X.prog X.w X.K X.mg X.base CX k f fd ps sp) (hr:Room k X.A) (hb:Binds X.K fd ps ds) (hd:Vals dvs ds) (hx:z5w CX X E)
 (I:Inv X pins σ H s) (r:Vals vs us) (h:sp (vs++dvs) H Q E):wpAny (model X.prog X.w) X.A (call (.ref f) us) (EP X pins σ Q) X.xe s:=by
 have r2:Vals (vs++dvs) (us++ds):=r.append hd;have hl:(us++ds).length=ps.length:=by rw[<- r2.length];exact F.len _ _ _ _ h
 refine wpAny_call (K4v (F.run X.A X.stack s H ⟨us,[]⟩ (us++ds) (vs++dvs) Q E hr I.env0 (hb s us I.kIn hl) r2 h) λr s' hq=>?_);cases r with
 | error e=>exact hx pins σ H s e s' I hq
 | ok fl =>
  cases fl with
  | ret u=>exact I.after hq
  | next=>exact K2z hq
  | brk=>exact K2z hq
  | cont=>exact K2z hq
theorem zw7 (F:FnOk X.prog X.w X.K X.mg X.base CX k f fd ps sp) (hr:Room k X.A) (hg:Gl X x) (hm:X.mg x=.(r f)) (hk:K2l X.K (.ref f)=true) (hb:Binds X.K fd ps ds) (hd:Vals dvs ds) (hx:z5w CX X E)
 (ha:PA X (e::es) t) (hdb:(x==("__debug__":Str))=false:=by decide) (he:K05 (e::es) X.env=(false,eval e X.env)::K05 es X.env:=by rfl) (hpl:(backTo pos (K05 es X.env)).any (·.1)=false:=by rfl) :
 PE X (.Call (.Name x p) (e::es) [] pos) (zR3 sp dvs E t):=by
 intro pins s σ H Q I h;refine K5c (z8N I hg hm ?_ hdb);refine PySem.W.callWith_K (h₀:=X.base) I.ok.mod.kin hk (thn (ha pos pins s σ H _ I h) λus s1 ⟨vs,H1,I1,r,q⟩=>⟨I1.kIn,?_⟩) he hpl;exact zM0 F hr hb hd hx I1 r q
end
def PK (X:Cx) (kws:List K42) (t:TA):Prop :=
 ∀(pos:Pos) (pins:List (Addr×Obj)) (s:Shared) (σ:St) (H:Hp) (Q:List V->Hp->Prop),Inv X pins σ H s->t σ H Q->wpAny (model X.prog X.w) X.A (evalAll ((K4f pos (K2x kws X.env)).map (·.2))) (AP X pins σ Q) X.xe s
section
variable {X:Cx}{CX:CXT}{k:Nat}{f C:Addr}{fd:K2j}{ps ks:List Str}{sp:Sp}{E:XK}{x m:Str}{p pos apos kpos:Pos}{e o:Expr}{es:List Expr}{kws:List K42}{te ta:TE}{t tk:TA}{nm:Option Str}
theorem zM1:PK X [] tNil:=λ_ _ _ _ H Q I h=>wpAny_evalAll_nil ⟨[],H,I,.nil,h⟩
structure KBinds (K:K2) (fd:K2j) (ps ks:List Str) (g:List Value->List Value->List Value) (gV:List V->List V->List V):Prop where
 to:∀(s:Shared) (us ws:List Value),K.In s.heap->(g us ws).length=ps.length->K8d s fd ⟨us,ks.zip ws⟩ (ps.zip (g us ws))
 rel:∀{vs:List V} {us:List Value} {zs:List V} {ws:List Value},Vals vs us->Vals zs ws->Vals (gV vs zs) (g us ws)
def zM9 (sp:Sp) (gV:List V->List V->List V) (E:XK) (t tk:TA):TE:=λσ H Q=>t σ H λvs H1=>tk σ H1 λzs H2=>sp (gV vs zs) H2 Q E
variable {g:List Value->List Value->List Value}{gV:List V->List V->List V}
theorem zp6 {pins:List (Addr×Obj)}{σ:St}{H:Hp}{s:Shared}{Q:VK}{us ws:List Value}{vs zs:List V}(F:FnOk X.prog X.w X.K X.mg X.base CX k f fd ps sp) (hr:Room k X.A) (hb:KBinds X.K fd ps ks g gV) (hx:z5w CX X E)
 (I:Inv X pins σ H s) (r:Vals vs us) (rz:Vals zs ws) (h:sp (gV vs zs) H Q E):wpAny (model X.prog X.w) X.A (call (.ref f) us (ks.zip ws)) (EP X pins σ Q) X.xe s:=by
 have r2:=hb.rel r rz;have hl:(g us ws).length=ps.length:=by rw[<- r2.length];exact F.len _ _ _ _ h
 refine wpAny_call (K4v (F.run X.A X.stack s H ⟨us,ks.zip ws⟩ (g us ws) (gV vs zs) Q E hr I.env0 (hb.to s us ws I.kIn hl) r2 h) λr s' hq=>?_);cases r with
 | error e=>exact hx pins σ H s e s' I hq
 | ok fl =>
  cases fl with
  | ret u=>exact I.after hq
  | next=>exact K2z hq
  | brk=>exact K2z hq
  | cont=>exact K2z hq
theorem zb6 (F:FnOk X.prog X.w X.K X.mg X.base CX k f fd ps sp) (hr:Room k X.A) (hg:Gl X x) (hm:X.mg x=.(r f)) (hk:K2l X.K (.ref f)=true) (hb:KBinds X.K fd ps ks g gV) (hx:z5w CX X E)
 (ha:PA X (e::es) t) (hkw:PK X kws tk) (hall:(K4f pos (K2x kws X.env)).all (·.1.isSome)=true:=by rfl) (hks:(K4f pos (K2x kws X.env)).filterMap (·.1)=ks:=by rfl)
 (hdb:(x==("__debug__":Str))=false:=by decide) (he:K05 (e::es) X.env=(false,eval e X.env)::K05 es X.env:=by rfl)
 (hpl:((backTo pos (K05 (e::es) X.env)).any (·.1)||(K4f pos (K2x kws X.env)).any (·.1.isNone))=false:=by rfl) :
 PE X (.Call (.Name x p) (e::es) kws pos) (zM9 sp gV E t tk):=by
 intro pins s σ H Q I h;refine K5c (z8N I hg hm ?_ hdb);refine PySem.W.callWith_KW (h₀:=X.base) I.ok.mod.kin hk hall (thn (ha pos pins s σ H _ I h) λus s1 ⟨vs,H1,I1,r,q⟩=>?_) hpl he;refine thn (hkw pos pins s1 σ H1 _ I1 q) λws s2 ⟨zs,H2,I2,rz,q2⟩=>⟨I2.kIn,?_⟩;rw[hks];exact zp6 F hr hb hx I2 r rz q2
end
structure FnScope (N P:List Str) (sc:Scope):Prop where
 kind:sc.kind=.function
 co:sc.isCoroutine=false
 gen:sc.isGenerator=false
 nd:N.Nodup
 pre:N.take P.length=P
 par:∀x∈P,sc.names.lookup x=some .local\/sc.names.lookup x=some .cell
 nofree:∀y∈sc.names,y.2≠.free
theorem z5u {kindOf:Str->Option K5o}{x:Str}:∀{binds:List (Str×Value)}{m:Str->Option Value},(∀v,(x,v)∉binds)->bindL kindOf binds m x=m x
 | [],_,_=>rfl
 | (n,v)::r,m,h=>by
  unfold bindL;rw[z5u λw hw=>h w (K0o _ hw)];split
  ·have:x≠n:=by rintro rfl;exact h v K0u
   simp[this]
  ·rfl
theorem z5G {kindOf:Str->Option K5o}{x:Str}:∀{binds:List (Str×Value)}{m:Str->Option Value},(∀v,(x,v)∉binds)->bindC kindOf binds m x=m x
 | [],_,_=>rfl
 | (n,v)::r,m,h=>by
  unfold bindC;rw[z5G λw hw=>h w (K0o _ hw)];split
  ·rfl
  ·have:x≠n:=by rintro rfl;exact h v K0u
   simp[this]
theorem z50 {kindOf:Str->Option K5o}{x:Str}{v:Value}:∀{P:List Str}{vs:List Value}{i:Nat}{m:Str->Option Value},P.Nodup->P[i]?=some x->vs[i]?=some v->kindOf x=some .local ->
 bindL kindOf (P.zip vs) m x=some v
 | [],_,_,_,_,h,_,_=>by simp at h
 | _::_,[],_,_,_,_,h,_=>by simp at h
 | p::P,w::vs,0,m,nd,h1,h2,hk=>by
  simp at h1 h2;subst h1;subst h2;show bindL kindOf ((p,w)::P.zip vs) m p=_;unfold bindL;rw[z5u λv hv=>(K6p.mp nd).1 (K8q hv).1,if_pos hk];simp
 | p::P,w::vs,i+1,m,nd,h1,h2,hk=>by
  show bindL kindOf ((p,w)::P.zip vs) m x=_;unfold bindL;exact z50 (i:=i) (K6p.mp nd).2 (by simpa using h1) (by simpa using h2) hk
theorem z5B {kindOf:Str->Option K5o}{x:Str}{v:Value}:∀{P:List Str}{vs:List Value}{i:Nat}{m:Str->Option Value},P.Nodup->P[i]?=some x->vs[i]?=some v->kindOf x≠some .local ->
 bindC kindOf (P.zip vs) m x=some v
 | [],_,_,_,_,h,_,_=>by simp at h
 | _::_,[],_,_,_,_,h,_=>by simp at h
 | p::P,w::vs,0,m,nd,h1,h2,hk=>by
  simp at h1 h2;subst h1;subst h2;show bindC kindOf ((p,w)::P.zip vs) m p=_;unfold bindC;rw[z5G λv hv=>(K6p.mp nd).1 (K8q hv).1,if_neg hk];simp
 | p::P,w::vs,i+1,m,nd,h1,h2,hk=>by
  show bindC kindOf ((p,w)::P.zip vs) m x=_;unfold bindC;exact z5B (i:=i) (K6p.mp nd).2 (by simpa using h1) (by simpa using h2) hk
def start (N:List Str) (vs:List V):St:=vs.map some++K0l (N.length - vs.length) none
def cxOf (CX:CXT) (P:K0d) (w:World) (K:K2) (mg:Str->Option Value) (base:Heap) (N:List Str) (qual:Str) (scope:Scope) (f:Addr) (cd:Value) (A:Around) (outer:List Env) (s:Shared) (H:Hp) (E:XK):Cx where
 prog:=P
 w:=w
 K:=K
 mg:=mg
 base:=base
 A:=A.deeper (envOfC qual scope s.heap.objs.size f cd)
 N:=N
 s₀:=s
 H₀:=H
 env:=envOfC qual scope s.heap.objs.size f cd
 outer:=outer
 stack:=envOfC qual scope s.heap.objs.size f cd::outer
 ex:=[]
 calm:=true
 fn:=λ_=>true
 pn:=[]
 xe:=λe s'=>wpAny (model P w) (A.deeper (envOfC qual scope s.heap.objs.size f cd)) (leaving (envOfC qual scope s.heap.objs.size f cd) e) (λ_ s''=>CX outer H s E e s'') (λe' s''=>CX outer H s E e' s'') s'
theorem z6L {sc:Scope}{n:Nat}{x:Str}(h:sc.names.lookup x=some .cell):∃c,(cellsFrom n sc.names []).lookup x=some c:=by
 have q:=K8g sc.names n [] (.inl h);exact Option.isSome_iff_exists.mp q
theorem z9c {CX:CXT}{P:K0d}{w:World}{K:K2}{mg:Str->Option Value}{base:Heap}{N ps:List Str}{qual:Str}{scope:Scope}{f:Addr}{cd:Value}{A:Around}{outer:List Env}{s s1:Shared}{H:Hp}{E:XK}{us:List Value}{vs:List V}
 (S:FnScope N ps scope) (hd:A.handled=none) (e0:Env0 P w K mg base A outer s H) (hl:vs.length=ps.length) (r:Vals vs us)
 (x:InCallC s s.heap.objs.size (bindL (envOfC qual scope s.heap.objs.size f cd).kindOf (ps.zip us) λ_=>none) (cellsFrom (s.heap.objs.size+1) scope.names []) (bindC (envOfC qual scope s.heap.objs.size f cd).kindOf (ps.zip us) λ_=>none) s1) :
 Inv (cxOf CX P w K mg base N qual scope f cd A outer s H E) [] (start N vs) H s1:=by
 have hpl:ps.length<=N.length:=by have:=congrArg K6k S.pre;rw[K0e]at this;omega
 obtain⟨h1,tk,rfl,hk⟩:=x.done;have noA:∀b:Addr,b∉(cxOf CX P w K mg base N qual scope f cd A outer s H E).ex:=λb z=>absurd (show b∈([]:List Addr) from z) (by simp);refine⟨⟨e0.mod,S.kind,rfl,rfl,K01 _,λy z c h1 h2=>?_,λy hy=>?_,λy c _ h=>?_,λ_=>hd,Around.frames_deeper e0.frames,.inr ⟨rfl,rfl⟩,λb z=>absurd z (noA b),e0.bs,e0.bsz,λb _ _=>noA b,λb z=>absurd z (noA b),e0.funs,e0.frf⟩,
  rfl,e0.bare,Un.kept hk,⟨_,x.toInCall.ns,λi y v h1 h2 h3=>?_⟩,λy c h=>⟨_,x.cell y c h⟩,e0.hok.fresh (K01 _),λy c h=>?_,λp hp=>absurd (show p∈([]:List (Addr×Obj)) from hp) (by simp),e0.hok.kept hk,?_⟩
 ·exact name_of_addr x.apart (K23 h1) (K23 h2)
 ·have hy:scope.names.lookup y=some .cell\/scope.names.lookup y=some .free:=hy;rcases hy with hy|hy
  ·exact z6L hy
  ·exact absurd rfl (S.nofree _ (K23 hy))
 ·exact K5r (x.above y c (K23 h))
 ·have hi:i<vs.length:=by
   unfold start at h2;by_cases hi:i<vs.length
   ·exact hi
   ·rw[K1h (by simpa using hi)]at h2;rw[K87]at h2;split at h2<;>cases h2
  have ha:vs[i]?=some v:=by
   unfold start at h2;rw[K0w (by simpa using hi),K8]at h2;cases e:vs[i]? with
   | none=>rw[e]at h2;cases h2
   | some a=>rw[e]at h2;cases h2;rfl
  obtain⟨u,hu,rv⟩:=r.get ha;have hp:ps[i]?=some y:=by
   rw[<- S.pre,List.getElem?_take_of_lt (by omega)];exact h1
  have ndP:ps.Nodup:=by rw[<- S.pre];exact S.nd.sublist (K7j _ _)
  refine⟨u,rv,?_⟩;rcases S.par y (K08 hp) with k|k
  ·exact .inl ⟨k,z50 ndP hp hu k⟩
  ·obtain⟨c,e⟩:=z6L (n:=s.heap.objs.size+1) k;refine .inr ⟨.inl k,c,e,?_⟩;have q:=x.cell y c e;rw[z5B ndP hp hu (by show scope.names.lookup y≠_;rw[k];decide)]at q;exact q
 ·exact e0.hok.fresh (K5r (x.above y c (K23 h)))
 ·unfold start;show _=N.length;rw[K04,K4,List.length_replicate];omega
theorem zx2 {CX:CXT}{P:K0d}{w:World}{K:K2}{mg:Str->Option Value}{base:Heap}{k:Nat}{f:Addr}{name qual:Str}{params:Arguments}{body:List Stmt}{scope:Scope}{dV kV doc pm cdv ct oc:Value}{an od:Option Addr}
 {osl:Array (Option Value)} {N ps:List Str} {sp:Sp} (lk:K.lookup f=some ⟨oc,od,.func (K2b name qual params body scope dV kV doc pm an cdv ct),osl⟩) (hcd:K2m K cdv qual=true) (S:FnScope N ps scope)
 (len:∀vs H Q E,sp vs H Q E->vs.length=ps.length)
 (hbody:∀(A:Around) (outer:List Env) (s:Shared) (H:Hp) (vs:List V) (Q:VK) (E:XK),Room k (A.deeper (envOfC qual scope s.heap.objs.size f cdv))->sp vs H Q E ->
  ∃t,PSs (cxOf CX P w K mg base N qual scope f cdv A outer s H E) body t/\t { nx:=λ_ H'=>Q .non H',rt:=Q } (start N vs) H) :
 FnOk P w K mg base CX (k+1) f (K2b name qual params body scope dV kV doc pm an cdv ct) ps sp:=by
 refine⟨len,λA outer s H args us vs Q E hr e0 hb r hsp=>?_⟩;have hl:=len _ _ _ _ hsp;have KX:K.In s.heap:=e0.mod.kin.keeps λb o e=>(e0.bs b o e).1;have lim:s.heap.NoLimit:=e0.mod.nolimit.keeps λb o e=>(e0.bs b o e).1;have hkind:∀y∈ps.zip us,scope.names.lookup y.1=some .local\/(scope.names.lookup y.1=some .cell/\((cellsFrom (s.heap.objs.size+1) scope.names []).lookup y.1).isSome=true):=λ⟨n,v⟩ hy=>by
  rcases S.par n (K8q hy).1 with q|q
  ·exact .inl q
  ·exact .inr ⟨q,K8g _ _ _ (.inl q)⟩
 refine codeAny_call_function hr.depth (KX _ _ lk) rfl S.co S.gen rfl (PySem.W.codeRec_of KX hcd) (hb _ _ _ _ ?_);refine wpAny_newFunctionEnv_cells S.kind hkind λenv he s1 x=>?_;subst he;refine⟨lim.keeps x.toInCall.keep,codeAny_func ?_⟩;obtain⟨t,ht,hq⟩:=hbody A outer s H vs Q E (hr.deeper _) hsp;have I:Inv (cxOf CX P w K mg base N qual scope f cdv A outer s H E) [] (start N vs) H s1:=z9c S hr.hd e0 hl r x;refine K4a (ht [] s1 (start N vs) H _ I hq) (λfl s' hs=>?_) λe s' hs=>hs;have fin:∀{σ':St} {H':Hp} {v:V} {u:Value},Inv (cxOf CX P w K mg base N qual scope f cdv A outer s H E) [] σ' H' s'->RelV v u->Q v H'->CE outer P w H s Q u s' :=
  λ{σ' H' v u} J rv q=>⟨v,H',J.os,J.bare,J.base,J.hok,rv,q⟩
 cases fl with
 | ret u =>
  obtain⟨v,σ',H',J,rv,q⟩:=hs;exact fin J rv q
 | next =>
  obtain⟨σ',H',J,q⟩:=hs;exact fin (v:=V.non) (u:=K2n) J rfl q
 | brk =>
  obtain⟨_,_,_,q⟩:=hs;exact K2z q
 | cont =>
  obtain⟨_,_,_,q⟩:=hs;exact K2z q
section
variable {X:Cx}{x:Str}{p pos:Pos}{e:Expr}{es:List Expr}{t:TA}{id T:String}{r:List V->Hp->VK->Prop}
def tCB (r:List V->Hp->VK->Prop) (t:TA):TE:=λσ H Q=>t σ H λvs H1=>r vs H1 Q
theorem z1K (hc:z2B X (.builtin id) r) (hg:Gl X x) (hm:X.mg x=none) (hv:K4w x=some (.builtin id)) (ha:PA X (e::es) t) (hn:x≠"__name__":=by decide) (hdb:(x==("__debug__":Str))=false:=by decide)
 (he:K05 (e::es) X.env=(false,eval e X.env)::K05 es X.env:=by rfl) (hpl:(backTo pos (K05 es X.env)).any (·.1)=false:=by rfl):PE X (.Call (.Name x p) (e::es) [] pos) (tCB r t):=by
 intro pins s σ H Q I h;refine K5c (z4h I hg hm hv ?_ hn hdb);exact PyProof.Rows.callWith_builtin1 (thn (ha pos pins s σ H _ I h) λus s1 ⟨vs,H1,I1,r1,q1⟩=>hc pins s1 σ H1 vs us Q I1 r1 q1) he hpl
theorem z1f (hc:z2B X (.type T) r) (hg:Gl X x) (hm:X.mg x=none) (hv:K4w x=some (.type T)) (ha:PA X (e::es) t) (hn:x≠"__name__":=by decide) (hdb:(x==("__debug__":Str))=false:=by decide)
 (he:K05 (e::es) X.env=(false,eval e X.env)::K05 es X.env:=by rfl) (hpl:(backTo pos (K05 es X.env)).any (·.1)=false:=by rfl):PE X (.Call (.Name x p) (e::es) [] pos) (tCB r t):=by
 intro pins s σ H Q I h;refine K5c (z4h I hg hm hv ?_ hn hdb);exact K3d (thn (ha pos pins s σ H _ I h) λus s1 ⟨vs,H1,I1,r1,q1⟩=>hc pins s1 σ H1 vs us Q I1 r1 q1) he hpl
end
end L2
namespace HT
open PySem PyProof.Rows
section
open PySem.SeqAt
open PySem.AutoSeq1 (wpAny_loadPart')
open PySem.MeetsSeq PySem.MeetsSeq2 PySem.MeetsSeq3
end
section
variable {prog:K0d}{w:World}{A:Around}{E:Value->Shared->Prop}{s:Shared}
theorem cat_tup {t b:Addr}{vs ws:List Value}{Q:Value->Shared->Prop}(ht:IsTup s.heap t vs.toArray) (hb:IsTup s.heap b ws.toArray) (hv:vs≠[])
 (h1:ws=[]->Q (.ref t) s) (h2:ws≠[]->Q (.ref s.heap.objs.size) { s with heap:=s.heap.push { cls:=.type "tuple",data:=.seq (vs++ws).toArray } })
 (hsz:vs.length+ws.length<=sizeLine):wpAny (model prog w) A (K3b .Add (.ref t) (.ref b)) Q E s:=by
 obtain⟨⟨cls,dd,data,sl⟩,ho,hc,n,hd⟩:=id ht;obtain⟨⟨cls2,dd2,data2,sl2⟩,ho2,hc2,n2,hd2⟩:=id hb;simp only at hc hd hc2 hd2;subst hc hd hc2 hd2;have e:vs.toArray++ws.toArray=(vs++ws).toArray:=by simp
 by_cases hw:ws=[]
 ·exact Z0f ⟨_,ho,rfl⟩ ⟨_,ho2,rfl⟩ K85 K9n K5y K5h (K54 _ _)
   (tuple_addW1 t b vs.toArray ws.toArray n n2 dd dd2 sl sl2 (by simpa using hv) (by simp[hw])) ⟨ho,ho2,h1 hw⟩
 ·refine Z0f ⟨_,ho,rfl⟩ ⟨_,ho2,rfl⟩ K85 K9n K5y K5h (K54 _ _)
   (tuple_addW2 t b vs.toArray ws.toArray n n2 dd dd2 sl sl2 (by simpa using hv) (by simpa using hw) (by rw[K9,K9];exact hsz)) ⟨ho,ho2,?_⟩
  rw[e];exact h2 hw
def sIx (n d:Nat):Option Int->Nat
 | none=>d
 | some v=>if v<0 then (v+(n:Int)).toNat else min v.toNat n
theorem sIx_none (n d:Nat):sIx n d none=d:=rfl
theorem sIx_nat (n d k:Nat):sIx n d (some (k:Int))=min k n:=by
 show (if (k:Int)<0 then ((k:Int)+(n:Int)).toNat else min (k:Int).toNat n)=min k n;rw[if_neg (by omega),K0s]
theorem zO4 (n d:Nat) (hd:d<=n) (o:Option Int):sIx n d o<=n:=by
 cases o with
 | none=>exact hd
 | some v =>
  show (if v<0 then (v+(n:Int)).toNat else min v.toNat n)<=n;by_cases hv:v<0
  ·rw[if_pos hv];omega
  ·rw[if_neg hv];exact Nat.min_le_right _ _
theorem z9x (v:Int) (n d:Nat):(if v<0 then max (v+(n:Int)) 0 else min v (n:Int))=((sIx n d (some v):Nat):Int):=by
 show (if v<0 then max (v+(n:Int)) 0 else min v (n:Int))=(((if v<0 then (v+(n:Int)).toNat else min v.toNat n):Nat):Int);by_cases hv:v<0
 ·simp only[if_pos hv];omega
 ·simp only[if_neg hv];omega
theorem z7S (lo hi:Option Int) (n:Nat):K2y lo hi 1 (n:Int)=(((sIx n 0 lo:Nat):Int),((sIx n n hi:Nat):Int)):=by
 have h1:¬ ((1:Int)<0):=by omega
 unfold K2y;simp only[h1,if_false];refine Prod.ext ?_ ?_
 ·cases lo with
  | none=>rfl
  | some v=>exact z9x v n 0
 ·cases hi with
  | none=>rfl
  | some v=>exact z9x v n n
theorem z7V (i j:Nat):K1m (i:Int) (j:Int) 1=j - i:=by
 unfold K1m;have h1:(1:Int) > 0:=by omega
 simp only[h1,if_true,Z08];split<;>omega
theorem z46 {v:Value}{o:Option Int}{Q:Option Int->Shared->Prop}(p:IsPart v o) (h:Q o s):wpAny (model prog w) A (Builtin.Slice.slicePartIndex v) Q E s:=by
 cases p with
 | none=>exact K76 h
 | int i t=>exact slicePart_int h
theorem sliceApplied_gen {sl:Addr}{vl vu:Value}{lo hi:Option Int}{n:Nat}{Q:Int×Int×Nat->Shared->Prop}(hs:s.heap.IsSliceOf sl vl vu .none) (pl:IsPart vl lo) (pu:IsPart vu hi)
 (h:Q (((sIx n 0 lo:Nat):Int),1,sIx n n hi - sIx n 0 lo) s):wpAny (model prog w) A (K3j (.ref sl) (pure (n:Int))) Q E s:=by
 obtain⟨os,hos,hcs,hds⟩:=id hs;unfold K3j K7b;refine K1 (K1 (K1w hos hds (x:=vl) rfl (K1 (K1w hos hds (x:=vu) rfl (K1 (K1w hos hds (x:=.none) rfl (K6 ?_)))))));refine K1 (K76 ?_);show wpAny _ _ (if ((1:Int)==0)=true then _ else _) _ _ s;rw[if_neg (by decide)];refine K1 (z46 pl (K1 (z46 pu (K1 (K6 ?_)))));show wpAny _ _ (match K2y lo hi 1 (n:Int) with|(lo,hi)=>pure (lo,(1:Int),K1m lo hi 1)) _ _ s;rw[z7S lo hi n];show wpAny _ _ (pure (((sIx n 0 lo:Nat):Int),(1:Int),K1m ((sIx n 0 lo:Nat):Int) ((sIx n n hi:Nat):Int) 1)) _ _ s;rw[z7V];exact K6 h
theorem zc9 (xs:Array Value) (i k:Nat):((K0h k).filterMap λ(m:Nat)=>xs[((i:Int)+(m:Int) * 1).toNat]?).toArray=((xs.toList.drop i).take k).toArray:=by
 have e:(λ(m:Nat)=>xs[((i:Int)+(m:Int) * 1).toNat]?)=λm=>xs[i+m]?:=by
  funext m;have:((i:Int)+(m:Int) * 1).toNat=i+m:=by omega
  rw[this]
 rw[e];have:=pick_run xs i k;rw[K5a]at this;have e2:((λx=>xs[x]?) ∘ λx=>i+x)=λm=>xs[i+m]?:=rfl;rw[e2]at this;rw[this]
theorem getItem_tuple_cut {t sl:Addr}{items:Array Value}{vl vu:Value}{lo hi:Option Int}{Q:Value->Shared->Prop}(ht:IsTup s.heap t items) (hs:s.heap.IsSliceOf sl vl vu .none) (pl:IsPart vl lo) (pu:IsPart vu hi)
 (hw:¬ (sIx items.size 0 lo=0/\sIx items.size items.size hi=items.size))
 (h:Q (.ref s.heap.objs.size) { s with heap:=s.heap.push { cls:=.type "tuple",data:=.seq ((items.toList.drop (sIx items.size 0 lo)).take (sIx items.size items.size hi - sIx items.size 0 lo)).toArray } })
 (hsz:items.size<=sizeLine):wpAny (model prog w) A (K58 (.ref t) (.ref sl)) Q E s:=by
 have htake:sizeOk (.seq ((items.toList.drop (sIx items.size 0 lo)).take (sIx items.size items.size hi - sIx items.size 0 lo)).toArray):=by
  show ((items.toList.drop (sIx items.size 0 lo)).take (sIx items.size items.size hi - sIx items.size 0 lo)).toArray.size<=sizeLine;rw[K9,K0e,K3g,K15];omega
 have hj:sIx items.size items.size hi<=items.size:=zO4 _ _ (K01 _) hi;obtain⟨os,hos,hcs,hds⟩:=id hs;have hTs:s.TypeIs (.ref sl) "slice":=⟨os,hos,hcs⟩;unfold K58
 try with_reducible refine K1u ?_
 first|refine K1 (K6 ?_)|skip
 refine K1 (K7n ht.typeIs (by decide) ?_);refine K1 (K1j (name:=K2o "__getitem__") ht.typeIs K13
  (K1p K13 ht.typeIs K6x ?_ (K79 _ _)))
 show wpAny _ _ (K4r (.ref t) >>= _) _ _ s;refine K1 (K9l ht ?_);refine K1 (K4b hTs ?_);rw[if_pos (by decide)];refine K1 (sliceApplied_gen hs pl pu ?_);have hno:¬ ((((sIx items.size 0 lo:Nat):Int)==0&&(1:Int)==1&&(sIx items.size items.size hi - sIx items.size 0 lo)==items.size)=true):=by
  intro q;rw[K0f,K0f]at q;have q1:((sIx items.size 0 lo:Nat):Int)=0:=eq_of_beq q.1.1;have q2:sIx items.size items.size hi - sIx items.size 0 lo=items.size:=eq_of_beq q.2;exact hw ⟨by omega,by omega⟩
 show wpAny _ _ (if (((sIx items.size 0 lo:Nat):Int)==0&&(1:Int)==1&&(sIx items.size items.size hi - sIx items.size 0 lo)==items.size)=true then _ else _) _ _ s;rw[if_neg hno,zc9]
 first
  | exact K1 (m:=K19 _) (K12 (K6 ⟨_,rfl,K6 h⟩) htake)
  | exact K1 (m:=K19 _) (K12 (K1 (K6 (K6 ⟨_,rfl,K6 h⟩))) htake)
  | exact K1 (K1 (m:=K19 _) (K12 (K6 (K6 ⟨_,rfl,K6 h⟩)) htake))
  | exact K1 (K1 (m:=K19 _) (K12 (K6 ⟨_,rfl,K6 h⟩) htake))
end
end HT
namespace L2
abbrev TO:=St->Hp->(Option Int->Hp->Prop)->Prop
def PO (X:Cx) (e:Option Expr) (t:TO):Prop :=
 ∀(pins:List (Addr×Obj)) (s:Shared) (σ:St) (H:Hp) (Q:Option Int->Hp->Prop),Inv X pins σ H s->t σ H Q ->
  wpAny (model X.prog X.w) X.A (evalPart e X.env) (λu s'=>∃o H',Inv X pins σ H' s'/\IsPart u o/\Q o H') X.xe s
def zw8:TO:=λ_ H Q=>Q none H
def zW9 (t:TE):TO:=λσ H Q=>t σ H λx H1=>∃i,x=.int i/\Q (some i) H1
theorem intsAre_of {ns:List Int}:∀{us:List Value},Vals (ns.map V.int) us->K7l us ns:=by
 induction ns with
 | nil=>intro us r;rw[K4t]at r;cases r;exact .nil
 | cons n ns ih =>
  intro us r;rw[K0i]at r;cases r with
  | cons r1 r2 =>
   obtain⟨t,e⟩:=r1;subst e;exact .cons n t (ih r2)
section
variable {X:Cx}{e:Expr}{te:TE}{lo hi:Option Expr}{tl th:TO}{pos p2:Pos}
theorem zr5:PO X none zw8:=by
 intro pins s σ H Q I h;rw[K9o];exact K6 ⟨none,H,I,.none,h⟩
theorem zw1 (h:PE X e te):PO X (some e) (zW9 te):=by
 intro pins s σ H Q I hw;rw[evalPart_some];refine thn (h pins s σ H _ I hw) λu s1 ⟨x,H1,I1,r1,q1⟩=>?_;obtain⟨i,rfl,q⟩:=q1;obtain⟨t,rfl⟩:=r1;exact⟨some i,H1,I1,.int i t,q⟩
def SlR (X:Cx) (r:V->Option Int->Option Int->Hp->VK->Prop):Prop :=
 ∀(pins:List (Addr×Obj)) (s:Shared) (σ:St) (H:Hp) (x:V) (v vl vu:Value) (lo hi:Option Int) (sl:Addr) (Q:VK),Inv X pins σ H s->RelV x v->s.heap.IsSliceOf sl vl vu .none->IsPart vl lo->IsPart vu hi->r x lo hi H Q ->
  ∃T id,K8e (.type T) "__getitem__" = pure (some (.builtin id))/\s.TypeIs v T/\wpAny (model X.prog X.w) X.A (K58 v (.ref sl)) (EP X pins σ Q) X.xe s
theorem SlR.or {r r':V->Option Int->Option Int->Hp->VK->Prop}(h:SlR X r) (h':SlR X r'):SlR X (λx lo hi H Q=>r x lo hi H Q\/r' x lo hi H Q):=by
 intro pins s σ H x v vl vu lo hi sl Q I rx hs pl pu q;rcases q with q|q
 ·exact h pins s σ H x v vl vu lo hi sl Q I rx hs pl pu q
 ·exact h' pins s σ H x v vl vu lo hi sl Q I rx hs pl pu q
def tSl (r:V->Option Int->Option Int->Hp->VK->Prop) (te:TE) (tl th:TO):TE:=λσ H Q=>te σ H λx H1=>tl σ H1 λl H2=>th σ H2 λu H3=>r x l u H3 Q
theorem zg6 {r:V->Option Int->Option Int->Hp->VK->Prop}(hr:SlR X r) (he:PE X e te) (hl:PO X lo tl) (hu:PO X hi th):PE X (.Subscript e (.Slice lo hi none p2) pos) (tSl r te tl th):=by
 intro pins s σ H Q I h;refine K9v (thn (he pins s σ H _ I h) λv s1 ⟨x,H1,I1,r1,q1⟩=>?_);refine wpAny_Slice (thn (hl pins s1 σ H1 _ I1 q1) λvl s2 ⟨l,H2,I2,pl,q2⟩=>thn (hu pins s2 σ H2 _ I2 q2) λvu s3 ⟨u,H3,I3,pu,q3⟩=>?_);rw[K9o];refine K6 ?_;have I4:Inv X pins σ H3 { s3 with heap:=s3.heap.push { cls:=.type "slice",data:=.fields #[vl,vu,.none] } }:=I3.kept (t':=s3.toks) λb ob q=>K3 _ q;obtain⟨T,id,hT,ht,hg⟩:=hr pins { s3 with heap:=s3.heap.push { cls:=.type "slice",data:=.fields #[vl,vu,.none] } } σ H3 x v vl vu l u s3.heap.objs.size Q I4 r1 (K9p ..) pl pu q3;show wpAny (model X.prog X.w) X.A (K7t e (.Slice lo hi none p2) v (.ref s3.heap.objs.size)) (EP X pins σ Q) X.xe { s3 with heap:=s3.heap.push { cls:=.type "slice",data:=.fields #[vl,vu,.none] } };exact tail_any (ops:=[.ref s3.heap.objs.size,v]) ht hT hg (by with_unfolding_all rfl)
def cutV (xs:List V) (lo hi:Option Int):List V:=(xs.drop (HT.sIx xs.length 0 lo)).take (HT.sIx xs.length xs.length hi - HT.sIx xs.length 0 lo)
theorem z3v (xs:List V) (lo hi:Option Int):(cutV xs lo hi).length<=xs.length:=by
 unfold cutV;rw[K0e,K3g];omega
def rSlT (K:K2):V->Option Int->Option Int->Hp->VK->Prop:=λx lo hi H Q=>∃a xs,x=.ref a/\SqT K H a xs /\
 ¬ (HT.sIx xs.length 0 lo=0/\HT.sIx xs.length xs.length hi=xs.length)/\∀p,H p=none->Q (.ref p) (upd H p (.tup (cutV xs lo hi)))
theorem sl_tup:SlR X (rSlT X.K):=by
 intro pins s σ H x v vl vu lo hi sl Q I rx hs pl pu h;obtain⟨a,xs,rfl,hx,hw,q⟩:=h;cases rx;obtain⟨its,r,ht,hz⟩:=I.tuple hx;have hlen:its.toArray.size=xs.length:=by rw[K9];exact r.length.symm
 refine⟨"tuple",_,K13.lookup,ht.typeIs,?_⟩;refine HT.getItem_tuple_cut ht hs pl pu (by rw[hlen];exact hw) ?_ (by rw[hlen];exact hz);rw[hlen];refine⟨.ref s.heap.objs.size,_,I.laid (t':=s.toks) (o:=.tup (cutV xs lo hi)) (λb ob q=>K3 _ q) (K01 _) ?_,rfl,q _ (I.hok.fresh (K01 _))⟩;exact⟨K0x (z3v xs lo hi) hz,_,(r.drop (HT.sIx xs.length 0 lo)).take (HT.sIx xs.length xs.length hi - HT.sIx xs.length 0 lo),FT.IsTup0.new _ _⟩
def zo7 (K:K2):R2:=λx y H Q=>∃a b xs ys,x=.ref a/\y=.ref b/\SqT K H a xs/\SqT K H b ys/\xs≠[]/\xs.length+ys.length<=sizeLine /\
 (ys=[]->Q (.ref a) H)/\(ys≠[]->∀p,H p=none->Q (.ref p) (upd H p (.tup (xs++ys))))
theorem Vals.nil_iff {xs:List V}{us:List Value}(r:Vals xs us):us=[]↔xs=[]:=by
 cases r with
 | nil=>simp
 | cons _ _=>simp
theorem op_catT:OpR X (K3b .Add) (zo7 X.K):=by
 intro pins s σ H x y v u Q I rx ry h;obtain⟨a,b,xs,ys,rfl,rfl,ha,hb,hx,hz,q1,q2⟩:=h;cases rx;cases ry;obtain⟨its,r1,p1,_⟩:=I.tuple ha;obtain⟨its2,r2,p2,_⟩:=I.tuple hb;refine HT.cat_tup p1 p2 (λz=>hx (r1.nil_iff.mp z)) (λz=>⟨.ref a,H,I,rfl,q1 (r2.nil_iff.mp z)⟩) (λz=>?_) (by rw[<- r1.length,<- r2.length];exact hz);refine⟨.ref s.heap.objs.size,_,I.laid (t':=s.toks) (o:=.tup (xs++ys)) (λb ob q=>K3 _ q) (K01 _) ?_,rfl,q2 (λw=>z (r2.nil_iff.mpr w)) _ (I.hok.fresh (K01 _))⟩;exact⟨by rw[K04];exact hz,_,r1.append r2,FT.IsTup0.new _ _⟩
end
def ixN (n:Nat) (i:Int):Option Nat:=if 0<=i then (if i<n then some i.toNat else none) else if -(n:Int)<=i then some (i+n).toNat else none
def atI {α:Type} (xs:List α) (i:Int):Option α:=(ixN xs.length i).bind λj=>xs[j]?
theorem z8d {n:Nat}{i:Int}{j:Nat}(h:ixN n i=some j):K80 i n=some j/\j<n/\-(n:Int)<=i/\i<n:=by
 unfold ixN at h;by_cases h0:0<=i
 ·rw[if_pos h0]at h;by_cases h1:i<n
  ·rw[if_pos h1]at h;have e:i.toNat=j:=K1d h;exact⟨by rw[Z0z h0 h1,e],by omega,by omega,h1⟩
  ·rw[if_neg h1]at h;cases h
 ·rw[if_neg h0]at h;by_cases h1:-(n:Int)<=i
  ·rw[if_pos h1]at h;have e:(i+n).toNat=j:=K1d h;exact⟨by rw[Z0e (by omega) h1,e],by omega,h1,by omega⟩
  ·rw[if_neg h1]at h;cases h
theorem z67 {α:Type}{xs:List α}{i:Int}{v:α}(h:atI xs i=some v):∃j,K80 i xs.length=some j/\xs[j]?=some v/\j<xs.length/\-(xs.length:Int)<=i/\i<xs.length:=by
 unfold atI at h;cases e:ixN xs.length i with
 | none=>rw[e]at h;cases h
 | some j =>
  rw[e]at h;obtain⟨h1,h2,h3,h4⟩:=z8d e;exact⟨j,h1,h,h2,h3,h4⟩
theorem Y7 {α:Type}{xs:List α}{j:Nat}{v:α}(h:xs[j]?=some v):atI xs (j:Int)=some v:=by
 have hj:j<xs.length:=(K7.mp h).1;have e:ixN xs.length (j:Int)=some j:=by
  unfold ixN;rw[if_pos (by omega),if_pos (by omega)];simp
 unfold atI;rw[e];exact h
def z8k (b:Expr):Prop:=∀o i,K94 b false o i=operate [o,i] (K58 o i)
def IxR (X:Cx) (r:R2):Prop :=
 ∀(value slice:Expr) (pins:List (Addr×Obj)) (s:Shared) (σ:St) (H:Hp) (x y:V) (v u:Value) (Q:VK),Inv X pins σ H s->RelV x v->RelV y u->r x y H Q ->
  K94 slice false v u=operate [v,u] (K58 v u)->wpAny (model X.prog X.w) X.A (K7t value slice v u) (EP X pins σ Q) X.xe s
def MtR (X:Cx) (id:String) (r:V->List V->Hp->VK->Prop):Prop :=
 ∀(pins:List (Addr×Obj)) (s:Shared) (σ:St) (H:Hp) (x:V) (xs:List V) (v:Value) (us:List Value) (Q:VK),Inv X pins σ H s->RelV x v->Vals xs us->r x xs H Q ->
  wpAny (model X.prog X.w) X.A (call (.builtin id) (v::us)) (EP X pins σ Q) X.xe s
section
variable {X:Cx}{a b:Expr}{ta tb:TE}{pos:Pos}
theorem IxR.or {r r':R2}(h:IxR X r) (h':IxR X r'):IxR X (λx y H Q=>r x y H Q\/r' x y H Q):=by
 intro value slice pins s σ H x y v u Q I rx ry q hs;rcases q with q|q
 ·exact h value slice pins s σ H x y v u Q I rx ry q hs
 ·exact h' value slice pins s σ H x y v u Q I rx ry q hs
theorem zV4 {r:R2}(hr:IxR X r) (ha:PE X a ta) (hb:PE X b tb) (hs:z8k b):PE X (.Subscript a b pos) (tOp r ta tb):=by
 intro pins s σ H Q I h;exact K9v (binT ha hb I h λv u s2 x y H2 I2 rx ry q=>hr a b pins s2 σ H2 x y v u Q I2 rx ry q (hs _ _))
def rIxL (K:K2):R2:=λx y H Q=>∃p xs i v,x=.ref p/\y=.int i/\SqL K H p xs/\atI xs i=some v/\Q v H
def rIxT (K:K2):R2:=λx y H Q=>∃p xs i v,x=.ref p/\y=.int i/\SqT K H p xs/\atI xs i=some v/\Q v H
def rIxS:R2:=λx y H Q=>∃z i c,x=.str z/\y=.int i/\z.length<=sizeLine/\atI z.cps.toList i=some c/\Q (.str ⟨#[c]⟩) H
theorem ix_list:IxR X (rIxL X.K):=by
 intro value slice pins s σ H x y v u Q I rx ry h hs;obtain⟨p,xs,i,z,rfl,rfl,hq,he,q⟩:=h;cases rx;obtain⟨t,rfl⟩:=ry;obtain⟨its,r,pl,hz⟩:=I.list hq;obtain⟨j,h1,h2,h3,h4,h5⟩:=z67 he;obtain⟨w,ew,rw'⟩:=r.get h2;have hl:=r.length;have hn:=z4c;have fin:EP X pins σ Q w s:=⟨z,H,I,rw',q⟩;by_cases h0:0<=i
 ·have hj:i.toNat=j:=by
   rw[Z0z h0 h5]at h1;exact K1d h1
  exact item_listR pl.isList h0 (by omega) (by rw[hj];simpa using ew) fin hs
 ·have hj:(i+(its.toArray.size:Int)).toNat=j:=by
   rw[Z0e (by omega) h4]at h1;rw[K9,<- hl];exact K1d h1
  exact K8o (x:=w) pl.isList.typeIs K7e.lookup
   (wpAny_getItem_list_neg (Q:=λr s'=>r=w/\EP X pins σ Q r s') pl.isList (by omega) (by rw[K9]<;>omega) (by omega) (by rw[hj];simpa using ew) ⟨rfl,fin⟩) hs
theorem ix_tup:IxR X (rIxT X.K):=by
 intro value slice pins s σ H x y v u Q I rx ry h hs;obtain⟨p,xs,i,z,rfl,rfl,hq,he,q⟩:=h;cases rx;obtain⟨t,rfl⟩:=ry;obtain⟨its,r,pl,hz⟩:=I.tuple hq;obtain⟨j,h1,h2,h3,h4,h5⟩:=z67 he;obtain⟨w,ew,rw'⟩:=r.get h2;have hl:=r.length;have hn:=z4c;have fin:EP X pins σ Q w s:=⟨z,H,I,rw',q⟩;exact K8o (x:=w) pl.typeIs slot_tuple_getitem.lookup
  (getItem_tuple (j:=j) (Q:=λr s'=>r=w/\EP X pins σ Q r s') pl (by omega) (by omega) (by rw[K9,<- hl];exact h1) (by simpa using ew) ⟨rfl,fin⟩) hs
theorem zL6:IxR X rIxS:=by
 intro value slice pins s σ H x y v u Q I rx ry h hs;obtain⟨z,i,c,rfl,rfl,hz,he,q⟩:=h;obtain⟨t,rfl⟩:=rx;obtain⟨t',rfl⟩:=ry;obtain⟨j,h1,h2,h3,h4,h5⟩:=z67 he;have hl:z.cps.toList.length=z.length:=by simp[K9s]
 rw[hl]at h1 h4 h5;have hn:=z4c;exact tail_any (typeIs_str s z t) slot_str_getitem.lookup (getItem_str (c:=c) (by
  have e1:decide (i < -(2 ^ 63:Int))=false:=decide_eq_false (by omega);have e2:decide (i >= 2 ^ 63)=false:=decide_eq_false (by omega);rw[e1,e2,Bool.or_false]) (by rw[h1];simpa using h2) ⟨.str ⟨#[c]⟩,H,I.tok _,⟨_,rfl⟩,q⟩) hs
def rIx (K:K2):R2:=λx y H Q=>rIxL K x y H Q\/rIxT K x y H Q\/rIxS x y H Q
theorem zK5:IxR X (rIx X.K):=ix_list.or (ix_tup.or zL6)
theorem z7O (its:List Value) (n j:Nat) (u:Value):K59 (·.setIfInBounds j u) { cls:=.type "list",data:=.seq its.toArray n }={ cls:=.type "list",data:=.seq (its.set j u).toArray n }:=by
 simp[K59]
theorem Inv.lst {pins:List (Addr×Obj)}{σ:St}{H:Hp}{s:Shared}{p:Addr}{xs:List V}(I:Inv X pins σ H s) (h:H p=.(l xs)) :
 ∃(its:List Value) (n:Nat),Vals xs its/\s.heap.get? p=some { cls:=.type "list",data:=.seq its.toArray n }/\xs.length<=sizeLine:=by
 obtain⟨z,its,n,r,e⟩:=I.hok p _ h;exact⟨its,n,r,e,z⟩
theorem Inv.lstUpd {pins:List (Addr×Obj)}{σ:St}{H:Hp}{s:Shared}{p:Addr}{xs ys:List V}{its its':List Value}{n n':Nat}{f:Obj->Obj}(I:Inv X pins σ H s) (h:H p=.(l xs))
 (ho:s.heap.get? p=some { cls:=.type "list",data:=.seq its.toArray n }) (hf:f { cls:=.type "list",data:=.seq its.toArray n }={ cls:=.type "list",data:=.seq its'.toArray n' }) (r:Vals ys its') (hz:ys.length<=sizeLine) (t:Nat) :
 Inv X pins σ (upd H p (.lst ys)) { s with heap:=s.heap.update p f,toks:=t }:=by
 have e:(s.heap.update p f).get? p=some { cls:=.type "list",data:=.seq its'.toArray n' }:=by
  rw[K3m f ho (by rw[hf]<;>rfl),hf]
 refine I.write (x:=p) (e:=p) (by rw[h];trivial) (.inl rfl) (λb u hb q=>(K3e _ _ (K4u hb)).trans q) ⟨_,e⟩ ?_;exact⟨hz,its',n',r,e⟩
def zW4:V->V->V->Hp->(Hp->Prop)->Prop:=λo i v H Q=>∃p xs k j,o=.ref p/\i=.int k/\H p=.(l xs)/\ixN xs.length k=some j/\Q (upd H p (.lst (xs.set j v)))
theorem set_list:PSet X zW4:=by
 intro pins s σ H o i v ov iv u Q I ro ri rv h;obtain⟨p,xs,k,j,rfl,rfl,hp,hj,q⟩:=h;cases ro;obtain⟨t,rfl⟩:=ri;obtain⟨its,n,r,ho,hz⟩:=I.lst hp;obtain⟨h1,h2,h3,h4⟩:=z8d hj;have hl:=r.length;have hn:=z4c;have I':Inv X pins σ (upd H p (.lst (xs.set j v))) { s with heap:=s.heap.update p (K59 (·.setIfInBounds j u)) } :=
  I.lstUpd hp ho (z7O its n j u) (r.set rv j) (by rw[Z15];exact hz) s.toks
 by_cases h0:0<=k
 ·have hk:k.toNat=j:=by
   rw[Z0z h0 h4]at h1;exact K1d h1
  exact PySem.W.ki_setAt ho h0 (by omega) (by rw[K9,<- hl];exact h4) (by rw[hk];exact⟨_,I',q⟩)
 ·have hk:(k+(its.toArray.size:Int)).toNat=j:=by
   rw[Z0e (by omega) h3]at h1;rw[K9,<- hl];exact K1d h1
  exact PySem.W.ki_setBack ho (by omega) (by rw[K9,<- hl];exact h3) (by omega) (by rw[hk];exact⟨_,I',q⟩)
theorem z5j (lo hi:Option Int) (n:Nat):(K46 lo hi none n).1=((HT.sIx n 0 lo:Nat):Int)/\(K46 lo hi none n).2.1=((HT.sIx n n hi:Nat):Int)/\(K46 lo hi none n).2.2=1:=by
 refine⟨?_,?_,rfl⟩
 ·cases lo with
  | none=>simp[K46,HT.sIx]
  | some i =>
   simp only[K46,HT.sIx,Z0m,show (1:Int) > 0 by decide,if_true];by_cases h:i<0
   ·simp only[h,if_true]<;>omega
   ·simp only[h,if_false]<;>omega
 ·cases hi with
  | none=>simp[K46,HT.sIx]
  | some i =>
   simp only[K46,HT.sIx,Z0m,show (1:Int) > 0 by decide,if_true];by_cases h:i<0
   ·simp only[h,if_true]<;>omega
   ·simp only[h,if_false]<;>omega
theorem z4p (its:List Value) (lo hi:Option Int):Z0o its.toArray lo hi none=((its.drop (HT.sIx its.length 0 lo)).take (HT.sIx its.length its.length hi - HT.sIx its.length 0 lo)).toArray:=by
 obtain⟨h1,h2,h3⟩:=z5j lo hi its.toArray.size;unfold Z0o;rw[h1,h2,h3];simp only[sliceRange_one,pick_run,K9]<;>rfl
def rSlL (K:K2):V->Option Int->Option Int->Hp->VK->Prop:=λx lo hi H Q=>∃a xs,x=.ref a/\SqL K H a xs/\∀p,H p=none->Q (.ref p) (upd H p (.lst (cutV xs lo hi)))
theorem sl_list:SlR X (rSlL X.K):=by
 intro pins s σ H x v vl vu lo hi sl Q I rx hs pl pu h;obtain⟨a,xs,rfl,hx,q⟩:=h;cases rx;obtain⟨its,r,ht,hz⟩:=I.list hx;have hlen:=r.length;refine⟨"list",_,K7e.lookup,ht.isList.typeIs,?_⟩;refine K7u ht.isList hs pl pu .none (by simp) ?_ (by rw[K9]<;>omega);rw[z4p,<- hlen];refine⟨.ref s.heap.objs.size,_,I.laid (t':=s.toks) (o:=.lst (cutV xs lo hi)) (λb ob q=>K3 _ q) (K01 _) ?_,rfl,q _ (I.hok.fresh (K01 _))⟩;exact⟨K0x (z3v xs lo hi) hz,_,0,(r.drop (HT.sIx xs.length 0 lo)).take (HT.sIx xs.length xs.length hi - HT.sIx xs.length 0 lo),K03 _ rfl⟩
def z43:V->Bool
 | .non=>true
 | .bl _=>true
 | .int _=>true
 | .str _=>true
 | _=>false
def eqV:V->V->Bool
 | .non,.non=>true
 | .bl a,.bl b=>a==b
 | .bl a,.int b=>(if a then 1 else 0)==b
 | .int a,.bl b=>a==(if b then 1 else 0)
 | .int a,.int b=>a==b
 | .str a,.str b=>a==b
 | _,_=>false
theorem zP4 {A:Around}{s:Shared}{y x:V}{u v:Value}(ry:RelV y u) (rx:RelV x v) (fy:z43 y=true) (fx:z43 x=true):K6a A s u v (eqV y x):=by
 cases y with
 | non =>
  cases ry;cases x with
  | non=>cases rx;exact K6a.same _
  | bl b=>cases rx;exact K6a.none_bool b
  | int b=>obtain⟨t,rfl⟩:=rx;exact K6a.none_int b t
  | str b=>obtain⟨t,rfl⟩:=rx;exact K6a.none_str b t
  | _=>exact absurd (show false=true from fx) K0v
 | bl a =>
  cases ry;cases x with
  | non=>cases rx;exact K6a.bool_none a
  | bl b=>cases rx;exact K6a.bool_bool a b
  | int b=>obtain⟨t,rfl⟩:=rx;exact K6a.bool_int a b t
  | str b=>obtain⟨t,rfl⟩:=rx;exact K6a.bool_str a b t
  | _=>exact absurd (show false=true from fx) K0v
 | int a =>
  obtain⟨t',rfl⟩:=ry;cases x with
  | non=>cases rx;exact K6a.int_none a t'
  | bl b=>cases rx;exact K6a.int_bool a t' b
  | int b=>obtain⟨t,rfl⟩:=rx;exact K6a.int_int a t' b t
  | str b=>obtain⟨t,rfl⟩:=rx;exact K9r a t' b t
  | _=>exact absurd (show false=true from fx) K0v
 | str a =>
  obtain⟨t',rfl⟩:=ry;cases x with
  | non=>cases rx;exact K6a.str_none a t'
  | bl b=>cases rx;exact K6a.str_bool a t' b
  | int b=>obtain⟨t,rfl⟩:=rx;exact K9q a t' b t
  | str b=>obtain⟨t,rfl⟩:=rx;exact K6a.str_str a t' b t
  | _=>exact absurd (show false=true from fx) K0v
 | _=>exact absurd (show false=true from fy) K0v
def eqU (x:V) (u:Value):Bool:=match u with
 | .none=>eqV .non x
 | .bool b=>eqV (.bl b) x
 | .int i _=>eqV (.int i) x
 | .str z _=>eqV (.str z) x
 | _=>false
theorem zk9 {x y:V}{u:Value}(r:RelV y u) (f:z43 y=true):eqU x u=eqV y x:=by
 cases y with
 | non=>cases r;rfl
 | bl b=>cases r;rfl
 | int i=>obtain⟨t,rfl⟩:=r;rfl
 | str z=>obtain⟨t,rfl⟩:=r;rfl
 | _=>exact absurd (show false=true from f) K0v
theorem z6j {x:V}:∀{xs:List V}{us:List Value},Vals xs us->xs.all z43=true->us.any (eqU x)=xs.any λy=>eqV y x
 | _,_,.nil,_=>rfl
 | y::xs,u::us,.cons r t,f=>by
  rw[K50,K0f]at f;rw[K26,K26,zk9 r f.1,z6j t f.2]
theorem z4H {A:Around}{s:Shared}{x:V}{v:Value}(rx:RelV x v) (fx:z43 x=true):∀{xs:List V}{us:List Value},Vals xs us->xs.all z43=true->∀u∈us,K6a A s u v (eqU x u)
 | _,_,.nil,_=>λu hu=>by cases hu
 | y::xs,u::us,.cons r t,f=>λu' hu=>by
  rw[K50,K0f]at f;rcases K0c.mp hu with rfl|hu
  ·rw[zk9 r f.1];exact zP4 r rx f.1 fx
  ·exact z4H rx fx t f.2 u' hu
def inV (x:V) (xs:List V):Bool:=xs.any λy=>eqV y x
def rIn (K:K2) (neg:Bool):R2:=λx y H Q=>∃p xs,y=.ref p/\(SqL K H p xs\/SqT K H p xs)/\z43 x=true/\xs.all z43=true/\Q (.bl (if neg then !inV x xs else inV x xs)) H
theorem z5s:OpR X (K1t .NotIn) (rIn X.K true):=by
 intro pins s σ H x y v u Q I rx ry h;obtain⟨p,xs,rfl,hq,fx,fs,q⟩:=h;cases ry;rcases hq with hq|hq
 ·obtain⟨its,r,pl,hz⟩:=I.list hq;refine K9w (eqU x) pl.isList (λw hw=>z4H rx fx r fs w (by simpa using hw)) ⟨.bl _,H,I,rfl,?_⟩;rw[show its.toArray.any (eqU x)=its.any (eqU x) by simp,z6j r fs];exact q
 ·obtain⟨its,r,pl,hz⟩:=I.tuple hq;refine K9f (eqU x) pl (λw hw=>z4H rx fx r fs w (by simpa using hw)) ⟨.bl _,H,I,rfl,?_⟩;rw[show its.toArray.any (eqU x)=its.any (eqU x) by simp,z6j r fs];exact q
theorem z5I:z2B X (.type "list") (λxs H Q=>∃p ys,xs=[.ref p]/\(SqL X.K H p ys\/SqT X.K H p ys)/\∀l,H l=none->Q (.ref l) (upd H l (.lst ys))):=by
 intro pins s σ H xs us Q I r h;obtain⟨p,ys,rfl,hq,q⟩:=h;obtain⟨u,rfl,rx⟩:=vals1 r;cases rx;have fin:∀(its:List Value),Vals ys its->ys.length<=sizeLine->∀(h':Heap) (c':Nat),(∀b o',s.heap.get? b=some o'->h'.get? b=some o') ->
  h'.get? s.heap.objs.size=some { cls:=.type "list",dict:=none,data:=.seq its.toArray c',slots:=#[] }->EP X pins σ Q (.ref s.heap.objs.size) { s with heap:=h' }:=λits r' hz h' c' kp e =>
  ⟨.ref s.heap.objs.size,_,I.laid (t':=s.toks) kp (K01 _) (show ObjOk X.prog X.w _ h' _ (.lst ys) from⟨hz,its,c',r',e⟩),rfl,q _ (I.hok.fresh (K01 _))⟩
 rcases hq with hq|hq
 ·obtain⟨its,r',pl,hz⟩:=I.list hq;have hlen:=r'.length;obtain⟨o,ho,hc,n,hd⟩:=pl.isList;exact call_list_seq p (.inl rfl) ho hc hd (λh' c' kp e=>fin its r' hz h' c' kp e) (by simp only[K9]<;>omega)
 ·obtain⟨its,r',pl,hz⟩:=I.tuple hq;have hlen:=r'.length;obtain⟨o,ho,hc,n,hd⟩:=pl;exact call_list_seq p (.inr rfl) ho hc hd (λh' c' kp e=>fin its r' hz h' c' kp e) (by simp only[K9]<;>omega)
theorem z4R:z2B X (.type "tuple") (λxs H Q=>∃p ys,xs=[.ref p]/\((SqL X.K H p ys/\∀l,H l=none->Q (.ref l) (upd H l (.tup ys)))\/(SqT X.K H p ys/\Q (.ref p) H))):=by
 intro pins s σ H xs us Q I r h;obtain⟨p,ys,rfl,h⟩:=h;obtain⟨u,rfl,rx⟩:=vals1 r;cases rx;rcases h with ⟨hq,q⟩|⟨hq,q⟩
 ·obtain⟨its,r',pl,hz⟩:=I.list hq;have hlen:=r'.length;refine call_tuple_list pl.isList (λh' kp=>?_) (by simp only[K9]<;>omega);have I1:Inv X pins σ H { s with heap:=h' }:=I.kept (t':=s.toks) kp;have I2:Inv X pins σ (upd H h'.objs.size (.tup ys)) { s with heap:=h'.push { cls:=.type "tuple",data:=.seq its.toArray } } :=
   I1.laid (t':=s.toks) (λb o e=>K3 _ e) (K01 _) (show ObjOk X.prog X.w _ _ _ (.tup ys) from⟨hz,its,r',FT.IsTup0.new _ _⟩)
  exact⟨.ref h'.objs.size,_,I2,rfl,q _ (I1.hok.fresh (K01 _))⟩
 ·obtain⟨its,r',pl,hz⟩:=I.tuple hq;exact call_tuple_same pl ⟨.ref p,H,I,rfl,q⟩
def tyV (K:K2) (T:String) (x:V) (H:Hp):Prop:=match x with
 | .str _=>T = "str"
 | .int _=>T = "int"
 | .ref p=>(T = "list"/\∃xs,SqL K H p xs)\/(T = "tuple"/\∃o,K.lookup p=some o/\o.cls=.type "tuple"/\o.dict=none) \/
  (T = "dict"/\((∃kvs,H p=some (.dK kvs))\/∃kvs,H p=some (.dT kvs)))\/(T = "set"/\∃ks,H p=some (.set ks))
 | _=>False
theorem zl5 {pins:List (Addr×Obj)}{σ:St}{H:Hp}{s:Shared}{T:String}{x:V}{v:Value}(I:Inv X pins σ H s) (r:RelV x v) (ty:tyV X.K T x H) :
 s.TypeIs v T/\∀a,v=.ref a->∃ob,s.heap.get? a=some ob/\ob.dict=none:=by
 cases x with
 | str z =>
  obtain⟨t,rfl⟩:=r;cases (show T = "str" from ty);exact⟨typeIs_str s z t,λ_ e=>nomatch e⟩
 | int i =>
  obtain⟨t,rfl⟩:=r;cases (show T = "int" from ty);exact⟨K8f s i t,λ_ e=>nomatch e⟩
 | ref p =>
  cases r;rcases ty with ⟨rfl,xs,hq⟩|⟨rfl,o,hk,hc,hd⟩|⟨rfl,hk⟩|⟨rfl,ks,hk⟩
  ·obtain⟨its,_,pl,_⟩:=I.list hq;refine⟨pl.isList.typeIs,λa e=>?_⟩;cases e;obtain⟨o,n,e,c,hd,_⟩:=pl;exact⟨o,e,hd⟩
  ·refine⟨⟨o,I.kIn p o hk,hc⟩,λa e=>?_⟩;cases e;exact⟨o,I.kIn _ o hk,hd⟩
  ·have z:∃o,s.heap.get? p=some o/\o.ExactDict:=by
    rcases hk with ⟨kvs,hk⟩|⟨kvs,hk⟩
    ·obtain⟨_,_,_,_,o,_,_,e,ex,_⟩:=I.hok p _ hk;exact⟨o,e,ex⟩
    ·obtain⟨_,_,_,_,o,_,_,e,ex,_⟩:=I.hok p _ hk;exact⟨o,e,ex⟩
   obtain⟨o,e,ex⟩:=z;refine⟨⟨o,e,ex.1⟩,λa e2=>?_⟩;cases e2;exact⟨o,e,ex.2.1⟩
  ·obtain⟨o,_,_,_,_,e,ex,_⟩:=I.hok p _ hk;refine⟨⟨o,e,ex.1⟩,λa e2=>?_⟩;cases e2;exact⟨o,e,ex.2.1⟩
 | _=>exact K2z ty
def tBM0 (K:K2) (T:String) (r:V->List V->Hp->VK->Prop) (to:TE):TE:=λσ H Q=>to σ H λx H1=>tyV K T x H1/\r x [] H1 Q
def tBM (K:K2) (T:String) (r:V->List V->Hp->VK->Prop) (to:TE) (t:TA):TE:=λσ H Q=>to σ H λx H1=>tyV K T x H1/\t σ H1 λxs H2=>r x xs H2 Q
variable {o e:Expr}{es:List Expr}{to:TE}{t:TA}{name:Str}{apos cpos:Pos}{T id:String}{r:V->List V->Hp->VK->Prop}
theorem zK2 (pa:PlainAttrs T) (slot:Slot T name id) (hty:typeOf (.builtin id)=pure (.type "method_descriptor")) (hm:MtR X id r) (ho:PE X o to)
 (hbase:K3z o name X.env (eval o X.env)=eval o X.env:=by rfl) (hline:(apos.endLine==cpos.line)=true:=by rfl):PE X (.Call (.Attribute o name apos) [] [] cpos) (tBM0 X.K T r to):=by
 intro pins s σ H Q I h;refine wpAny_Call_method0_late hbase hline (thn (ho pins s σ H _ I h) λv s1 ⟨x,H1,I1,r1,ty,q1⟩=>?_);obtain⟨h1,h2⟩:=zl5 I1 r1 ty;exact⟨T,id,pa,slot,hty,h1,h2,K60 rfl (PySem.evalArgs_none (hm pins s1 σ H1 x [] v [] Q I1 r1 .nil q1))⟩
theorem zq7 (pa:PlainAttrs T) (slot:Slot T name id) (hty:typeOf (.builtin id)=pure (.type "method_descriptor")) (hm:MtR X id r) (ho:PE X o to) (ha:PA X (e::es) t)
 (hbase:K3z o name X.env (eval o X.env)=eval o X.env:=by rfl)
 (hfew:((backTo cpos (K05 (e::es) X.env)).all (λx=>!x.1)&&(K4f cpos (K2x [] X.env)).all (λx=>x.1.isSome)
 &&decide ((e::es).length+([]:List K42).length+(if ([]:List K42).isEmpty then 0 else 1)<30))=true:=by rfl)
 (hline:(apos.endLine==cpos.line)=true:=by rfl) (hs:K05 (e::es) X.env=(false,eval e X.env)::K05 es X.env:=by rfl) (hplain:(backTo cpos (K05 es X.env)).any (·.1)=false:=by rfl) :
 PE X (.Call (.Attribute o name apos) (e::es) [] cpos) (tBM X.K T r to t):=by
 intro pins s σ H Q I h;refine K8n hbase hfew hline rfl (thn (ho pins s σ H _ I h) λv s1 ⟨x,H1,I1,r1,ty,q1⟩=>?_);obtain⟨h1,h2⟩:=zl5 I1 r1 ty;refine⟨T,id,pa,slot,hty,h1,h2,?_⟩;have hA:=ha cpos pins s1 σ H1 _ I1 q1;rw[hs]at hA ⊢;refine K60 (by show (false||(backTo cpos (K05 es X.env)).any (·.1))=false;rw[hplain]<;>rfl) (K96 ?_);exact thn hA λus s2 ⟨vs,H2,I2,r2,q2⟩=>hm pins s2 σ H2 x vs v us Q I2 r1 r2 q2
end
def MtM (X:Cx) (id:String) (r:V->List V->Hp->VK->Prop):Prop :=
 ∀(pins:List (Addr×Obj)) (s:Shared) (σ:St) (H:Hp) (x:V) (xs:List V) (v:Value) (us:List Value) (Q:VK),Inv X pins σ H s->RelV x v->Vals xs us->r x xs H Q ->
  wpAny (model X.prog X.w) X.A (call (.builtin id) (v::us)) (EP X pins σ Q) X.xe s
theorem Vals.one:∀{x:V}{us:List Value},Vals [x] us->∃u,us=[u]/\RelV x u
 | _,_,.cons r .nil=>⟨_,rfl,r⟩
theorem Vals.zero:∀{us:List Value},Vals [] us->us=[]
 | _,.nil=>rfl
theorem Vals.dropLast {xs:List V}{us:List Value}(h:Vals xs us):Vals xs.dropLast us.dropLast:=by
 induction h with
 | nil=>exact .nil
 | cons r t ih =>
  cases t with
  | nil=>exact .nil
  | cons q t'=>exact .cons r ih
theorem Vals.eraseIdx:∀{xs:List V}{us:List Value}(i:Nat),Vals xs us->Vals (xs.eraseIdx i) (us.eraseIdx i)
 | _,_,_,.nil=>.nil
 | _,_,0,.cons _ t=>t
 | _,_,i+1,.cons r t=>.cons r (Vals.eraseIdx i t)
theorem Vals.reverse {xs:List V}{us:List Value}(h:Vals xs us):Vals xs.reverse us.reverse:=by
 induction h with
 | nil=>exact .nil
 | cons r t ih=>rw[K5v,K5v];exact Vals.append ih (.cons r .nil)
theorem Vals.rep {xs:List V}{us:List Value}(h:Vals xs us):∀k:Nat,Vals (K0l k xs).flatten (K0l k us).flatten
 | 0=>.nil
 | k+1=>by
  rw[K2s,K2s,K3s,K3s];exact Vals.append h (Vals.rep h k)
theorem z7C {α:Type}(l:List α):l.eraseIdx (l.length - 1)=l.dropLast:=by
 induction l with
 | nil=>rfl
 | cons a r ih =>
  cases r with
  | nil=>rfl
  | cons b r =>
   have e:(a::b::r).length - 1=((b::r).length - 1)+1:=by
    have h1:(a::b::r).length=r.length+2:=rfl;have h2:(b::r).length=r.length+1:=rfl;omega
   rw[e,List.eraseIdx_cons_succ,ih]
   all_goals rfl
theorem z58 {α:Type}:∀(l:List α) (i:Nat),(l.eraseIdx i).length<=l.length
 | [],_=>K01 _
 | _::_,0=>K45 _
 | _::r,i+1=>Nat.succ_le_succ (z58 r i)
theorem foldl_rep (its:List Value):∀(k:Nat) (acc:List Value),
 K6b (λx1 x2=>x1++x2) acc.toArray (K0l k its.toArray)=(acc++(K0l k its).flatten).toArray
 | 0,acc=>by simp
 | k+1,acc=>by
  have e:acc.toArray++its.toArray=(acc++its).toArray:=by simp
  have e2:(acc++its)++(K0l k its).flatten=acc++(K0l (k+1) its).flatten:=by
   rw[K2s,K3s,K10]
  rw[<- e2,<- foldl_rep its k (acc++its),<- e,K2s,K3o]
section
variable {X:Cx}{pins:List (Addr×Obj)}{σ:St}{H:Hp}{s:Shared}{l b:Addr}{xs ys zs:List V}
theorem Inv.lset {its its':List Value}{n:Nat}{f:Array Value->Array Value}{t':Nat}(I:Inv X pins σ H s) (hH:H l=.(l xs))
 (e:s.heap.get? l=some { cls:=.type "list",data:=.seq its.toArray n }) (hf:f its.toArray=its'.toArray) (hv:Vals ys its') (hz:ys.length<=sizeLine) :
 Inv X pins σ (upd H l (.lst ys)) { s with heap:=s.heap.update l (K59 f),toks:=t' }:=by
 have q:=PySem.IsL.update e f;rw[hf]at q;refine I.write (x:=l) (e:=l) (by rw[hH];exact trivial) (.inl rfl) (λb' u hb hu=>(K3e s.heap (K59 f) (K4u hb)).trans hu) ⟨_,q⟩ ?_;exact⟨hz,its',_,hv,q⟩
theorem Inv.lnew {its:List Value}{t':Nat}(I:Inv X pins σ H s) (hv:Vals ys its) (hz:ys.length<=sizeLine) :
 Inv X pins σ (upd H s.heap.objs.size (.lst ys)) { s with heap:=s.heap.push { cls:=.type "list",data:=.seq its.toArray },toks:=t' } :=
 I.laid (λ_ _ q=>K3 _ q) (K01 _) ⟨hz,its,0,hv,K03 _ rfl⟩
theorem Inv.fresh (I:Inv X pins σ H s):H s.heap.objs.size=none:=I.hok.fresh (K01 _)
theorem Inv.lstM (I:Inv X pins σ H s) (hH:H l=.(l xs)):xs.length<=sizeLine/\∃(its:List Value) (n:Nat),Vals xs its/\xs.length=its.length/\s.heap.get? l=some { cls:=.type "list",data:=.seq its.toArray n }:=by
 obtain⟨z,its,n,r,e⟩:=I.hok l _ hH;exact⟨z,its,n,r,r.length,e⟩
theorem zf2 {n:Nat}(h:n<=sizeLine):K51 n=false:=by
 unfold K51;exact decide_eq_false (by omega)
end
section
variable {X:Cx}
def zv7:V->List V->Hp->VK->Prop:=λx vs H Q=>∃l xs y,x=.ref l/\vs=[y]/\H l=.(l xs)/\xs.length<sizeLine/\Q .non (upd H l (.lst (xs++[y])))
theorem z5g:MtM X "list.append" zv7:=by
 intro pins s σ H x vs v us Q I rx rv h;obtain⟨l,xs,y,rfl,rfl,hH,hz,q⟩:=h;cases rx;obtain⟨u,rfl,ru⟩:=rv.one;obtain⟨z,its,n,r,hl,e⟩:=I.lstM hH;refine K3y F.slot_list_append ⟨_,e,rfl⟩ F.entry_list_append (F.args_list_append_2 _ _) (PySem.list_append l its.toArray n u (by rw[K9];omega)) ⟨e,?_⟩;refine⟨.non,_,I.lset (its':=its++[u]) hH e (by simp) (r.append (.cons ru .nil)) ?_,rfl,q⟩;rw[K04,K1b];omega
def rPop:V->List V->Hp->VK->Prop:=λx vs H Q=>∃l xs y,x=.ref l/\vs=[]/\H l=.(l xs)/\xs[xs.length - 1]?=some y/\Q y (upd H l (.lst xs.dropLast))
theorem zJ9:MtM X "list.pop" rPop:=by
 intro pins s σ H x vs v us Q I rx rv h;obtain⟨l,xs,y,rfl,rfl,hH,hy,q⟩:=h;cases rx;have hus:=rv.zero;subst hus;obtain⟨z,its,n,r,hl,e⟩:=I.lstM hH;obtain⟨u,hu,ru⟩:=r.get hy;have hy':its.toArray[its.toArray.size - 1]?=some u:=by
  show its.toArray[its.length - 1]?=some u;rw[<- K25,<- hl];exact hu
 refine K3y F.slot_list_pop ⟨_,e,rfl⟩ F.entry_list_pop (F.args_list_pop_1 _) (MeetsSeq.list_pop_last l its.toArray n u hy' (by rw[K9];omega)) ⟨e,?_⟩;refine⟨y,_,I.lset (its':=its.dropLast) hH e ?_ r.dropLast ?_,ru,q⟩
 ·show its.toArray.eraseIdxIfInBounds (its.toArray.size - 1)=its.dropLast.toArray;rw[K9,K66,z7C]
 ·rw[List.length_dropLast];omega
def zN0:V->List V->Hp->VK->Prop:=λx vs H Q=>∃l xs i k y,x=.ref l/\vs=[.int i]/\H l=.(l xs)/\-(2 ^ 63)<=i/\i<2 ^ 63/\K80 i xs.length=some k/\xs[k]?=some y/\Q y (upd H l (.lst (xs.eraseIdx k)))
theorem zd7:MtM X "list.pop" zN0:=by
 intro pins s σ H x vs v us Q I rx rv h;obtain⟨l,xs,i,k,y,rfl,rfl,hH,h1,h2,hk,hy,q⟩:=h;cases rx;obtain⟨u,rfl,ru⟩:=rv.one;obtain⟨t,rfl⟩:=ru;obtain⟨z,its,n,r,hl,e⟩:=I.lstM hH;obtain⟨w,hw,rw'⟩:=r.get hy;refine K3y F.slot_list_pop ⟨_,e,rfl⟩ F.entry_list_pop (F.args_list_pop_2 _ _)
  (MeetsSeq.list_pop_at l its.toArray n i t k w (fitsIndex_both h1 h2) (by rw[K9,<- hl];exact hk) (by rw[<- K25];exact hw) (by rw[K9];omega)) ⟨e,?_⟩
 refine⟨y,_,I.lset (its':=its.eraseIdx k) hH e ?_ (r.eraseIdx k) ?_,rw',q⟩
 ·show its.toArray.eraseIdxIfInBounds k=(its.eraseIdx k).toArray;rw[K66]
 ·have:=z58 xs k;omega
def rCat:R2:=λx y H Q=>∃l b xs zs,x=.ref l/\y=.ref b/\H l=.(l xs)/\H b=.(l zs)/\xs.length+zs.length<=sizeLine/\∀p,H p=none->Q (.ref p) (upd H p (.lst (xs++zs)))
theorem op_cat:OpR X (K3b .Add) rCat:=by
 intro pins s σ H x y v u Q I rx ry h;obtain⟨l,b,xs,zs,rfl,rfl,hH,hB,hz,q⟩:=h;cases rx;cases ry;obtain⟨z,its,n,r,hl,e⟩:=I.lstM hH;obtain⟨z2,its2,n2,r2,hl2,e2⟩:=I.lstM hB;refine PySem.P.add_list e e2 ?_ (by rw[K9,K9];omega);have ea:its.toArray++its2.toArray=(its++its2).toArray:=by simp
 rw[ea];exact⟨.ref _,_,I.lnew (t':=s.toks) (r.append r2) (by rw[K04];omega),rfl,q _ I.fresh⟩
def rRep:R2:=λx y H Q=>∃l k xs,x=.ref l/\y=.int k/\H l=.(l xs)/\-(2 ^ 63)<=k/\k<2 ^ 63/\xs.length * k.toNat<=sizeLine /\
 ∀p,H p=none->Q (.ref p) (upd H p (.lst (K0l k.toNat xs).flatten))
theorem len_rep {α:Type}(xs:List α) (k:Nat):(K0l k xs).flatten.length=k * xs.length:=by
 induction k with
 | zero=>simp
 | succ k ih=>rw[K2s,K3s,K04,ih,Nat.succ_mul,Nat.add_comm]
theorem zE6:OpR X (K3b .Mult) rRep:=by
 intro pins s σ H x y v u Q I rx ry h;obtain⟨l,k,xs,rfl,rfl,hH,h1,h2,hz,q⟩:=h;cases rx;obtain⟨t,rfl⟩:=ry;obtain⟨z,its,n,r,hl,e⟩:=I.lstM hH;have hlen:its.toArray.size * k.toNat<=sizeLine:=by rw[K9,<- hl];exact hz
 have hcap:¬ its.toArray.size * k.toNat > (2 ^ 63 - 1) / 8:=by
  have:(sizeLine:Nat)<=(2 ^ 63 - 1) / 8:=by decide
  omega
 have hfit:¬ (!Builtin.List.listFitsIndex k)=true:=by
  rw[fitsIndex_both h1 h2];exact K0v
 have hlong:¬ K51 (its.toArray.size * k.toNat)=true:=by
  rw[zf2 hlen];exact K0v
 have hnew:K6b (λx1 x2=>x1++x2) #[] (K0l (if its.toArray.isEmpty=true then 0 else k.toNat) its.toArray)=(K0l k.toNat its).flatten.toArray:=by
  have f0:∀m:Nat,K6b (λx1 x2=>x1++x2) #[] (K0l m its.toArray)=(K0l m its).flatten.toArray:=λm=>by
   have:=foldl_rep its m [];rw[K56]at this;exact this
  rw[f0];cases its with
  | nil=>simp
  | cons a r'=>rw[if_neg (by simp)]
 refine K7d (T:="list") (U:="int") (by decide) ⟨_,e,rfl⟩ (λs'=>K8f s' k t) noFill_list_mul F.fills_int_mul F.slot_int_rmul repeat_list F.slot_int_index.lookup
  (K3y F.slot_int_rmul (K8f s k t) F.entry_int_rmul (F.args_int_rmul_2 _ _) (int___rmul___int_list k t l its.toArray n)
   ⟨e,rfl,⟨_,e,rfl⟩,K3y F.slot_list_mul ⟨_,e,rfl⟩ F.entry_list_mul (F.args_list_mul_2 _ _) (AutoListH.list___mul___list_int_3 l its.toArray n k t hfit hcap hlong) ⟨e,?_⟩⟩)
 rw[hnew];exact⟨.ref _,_,I.lnew (t':=s.toks) (r.rep k.toNat) (by rw[len_rep,K5p];exact hz),rfl,q _ I.fresh⟩
end
section
variable {prog:K0d}{w:World}{A:Around}{E:Value->Shared->Prop}{s:Shared}
end
section
variable {X:Cx}
end
end L2
namespace Att
open PySem PySem.W PySem.Calls PyProof.Rows
theorem z3W {P:Params}{h:Heap}:∀(ns:List Int) (vs:List Value),WellAll P h vs (ns.map WData.int)->K7l vs ns:=by
 intro ns;induction ns with
 | nil =>
  intro vs w;rw[K4t]at w;cases w;exact .nil
 | cons n ns ih =>
  intro vs w;rw[K0i]at w;cases w with
  | cons a b =>
   cases a;exact .cons _ _ (ih _ b)
theorem z8R {l:OpenLaw}{n:Nat}(hn:l.most=some n) {P:Params}{h:Heap}{args:List WData}{vals:List Value}
 (hpre:l.row.toRowW.claim.pre args=true) (hwl:WellAll P h vals args) :
 ∃a vs ns,vals=[K1s a]/\args=[WData.list (ns.map WData.int)]/\h.get? a=some { cls:=.type "list",data:=.seq vs.toArray }/\K7l vs ns/\ns.length<=n:=by
 have hsh:WShape.hasAll [] args [.list .int]=true:=(pre_splitW hpre).1;have hc:l.pre.holds [] { args:=args }=true:=(pre_splitW hpre).2;obtain⟨d,r,rfl,h1,h2⟩:=hasAllW_cons hsh;obtain rfl:=hasAllW_nil h2;obtain⟨xs,rfl,h3⟩:=hasW_list h1;obtain⟨ns,rfl⟩:=items_int h3;have hlen:ns.length<=n:=by
  unfold OpenLaw.pre at hc;have h4:(WTm.not (.lt (.lit (.int (n:Int))) (.len (.arg 0)))).holds [] { args:=[.list (ns.map .int)] }=true:=by
   have h4:=(holds_andW hc).1;rw[hn]at h4;exact h4
  have h5:=condW_of h4 (w_not (w_lt w_lit (w_len_list (w_arg rfl))));rw[K4]at h5;refine Nat.le_of_not_lt λq=>?_;have q':(n:Int)<((ns.length:Nat):Int):=by omega
  first
   | (rw[decide_eq_true q']at h5;exact absurd h5 (by decide))
   | (simp at h5;omega)
 cases hwl with
 | cons w1 w2 =>
  cases w2;cases w1 with
  | list ho hall=>exact⟨_,_,ns,rfl,rfl,ho,z3W ns _ hall,hlen⟩
theorem z9K (l:OpenLaw) (args:List WData):l.row.toRowW.claim.post args (.bool true) args=true :=
 postW_of (r:=l.row.toRowW) (X:=(true==true))
  (show WShape.has [] (.bool true) .bool=true by first|rfl|decide|simp[WShape.has,WShape.arms,WShape.armsAll])
  (show (WTm.eq .res (.lit (.bool true))).value [] { args:=args,res:=some (.bool true),after:=args }=some (.bool (true==true)) from w_eq_bool (w_res rfl) w_lit) rfl
theorem attach_call {l:OpenLaw}{n:Nat}{q:K0d}{loose:List Str}{XP:(Str->Option Value)->Heap->Prop}{YP:World->Heap->Prop}{d:DefRec}
 (hn:l.most=some n) (hdf:d.params.defaults=[])
 (call:∀(w:World) (s₀ s₁:Shared) (mg mb:Str->Option Value) (fa:Addr) (o:Obj) (pm cd doc:Value) (a:Addr) (vs:List Value) (ns:List Int),
  Ground q loose [] XP w s₀ mg mb s₁.heap->YP w s₁.heap ->
  s₁.heap.get? fa=some o->o.data=.func (docDef d.name d.params d.body d.scope pm cd doc)->s₁.heap.CodeRec cd d.name->mg d.name=.(r fa) ->
  s₁.heap.get? a=some { cls:=.type "list",data:=.seq vs.toArray }->K7l vs ns->ns.length<=n->s₁.gens = #[] ->
  K5u (model l.prog w) K8c (.call (.ref fa) ⟨[.ref a],[]⟩) (λr s'=>r=.ok (.ret (.bool true))/\OldK s₁.heap s'.heap/\s'.os=s₁.os/\K7m s'.gens) s₁) :
 WalkO q loose XP YP l.row.toRowW d [] (λf vs=>Z1a f vs):=by
 intro w s₀ s₁ mg mb G Y fa o pm cd doc dV kV ho hd hcd hD hmg hg args vals as hpre hlay hrd hwl hlo;obtain rfl:dV=.none:=Dflts.none hD hdf;obtain rfl:kV=.none:=Dflts.noKw hD;obtain⟨a,vs,ns,rfl,rfl,hobj,hints,hlen⟩:=z8R hn hpre hwl;refine enter_call (K4v (call w s₀ s₁ mg mb fa o pm cd doc a vs ns G Y ho (fd_plain hd) hcd hmg hobj hints hlen hg) λr s' hq=>?_);obtain⟨rfl,h2,h3,h4⟩:=hq;exact⟨.inl ⟨.bool true,.bool true,[],rfl,λ_=>rfl,.bool true,z9K l _,λ_=>⟨List.Pairwise.nil,λ_ hm=>(nomatch hm)⟩⟩,h2,h3,h4⟩
section
variable {prog:K0d}{w:World}{A:Around}{E:Value->Shared->Prop}{s:Shared}{K:Frag}
end
end Att
namespace L2
theorem z3P:∀{vs:List Value}{ns:List Int},K7l vs ns->Vals (ns.map V.int) vs
 | _,_,.nil=>.nil
 | _,_,.cons n t h=>.cons ⟨t,rfl⟩ (z3P h)
def Only (H:Hp):Prop:=∀b,H b=none\/∃o xs,H b=some (.frz o (.lst xs))
theorem zi5 {P:K0d}{w:World}{K:K2}{mg mb:Str->Option Value}{CX:CXT}{k:Nat}{fa a:Addr}{fd:K2j}{x:Str}{sp:Sp}{s₁:Shared}{vs:List Value}{ns:List Int}
 (KX:K.In s₁.heap) (hns:s₁.heap.Ns K1x mg) (hb:s₁.heap.Ns builtinsNs mb) (hbb:∀x:Str,x≠"__name__"->mb x=K4w x) (hlim:s₁.heap.NoLimit) (hg:s₁.gens = #[])
 (ha:s₁.heap.get? a=some { cls:=.type "list",data:=.seq vs.toArray }) (hi:K7l vs ns) (hl:ns.length<=sizeLine) (hr:Room k K8c)
 (F:∀base:Heap,K.In base->base.Ns K1x mg->FnOk P w K mg base CX k fa fd [x] sp) (hbind:∀(s:Shared) (u:Value),K8d s fd ⟨[u],[]⟩ [(x,u)])
 (hsp:∀H:Hp,Only H->SqL K H a (ns.map V.int)->sp [.ref a] H (λv _=>v=.bl true) λ_ _ _=>False)
 (hCX:∀H e s',CX [] H s₁ (λ_ _ _=>False) e s'->False) :
 K5u (model P w) K8c (.call (.ref fa) ⟨[.ref a],[]⟩) (λr s'=>r=.ok (.ret (.bool true))/\OldK s₁.heap s'.heap/\s'.os=s₁.os/\K7m s'.gens) s₁:=by
 have rv:=z3P hi;have lenV:=hi.length;have core:∀H:Hp,Only H->SqL K H a (ns.map V.int)->HOk P w H s₁.heap->(∀b,H b≠none->b=a)->(H a≠none->K.lookup a=none) ->
  K5u (model P w) K8c (.call (.ref fa) ⟨[.ref a],[]⟩) (λr s'=>r=.ok (.ret (.bool true))/\OldK s₁.heap s'.heap/\s'.os=s₁.os/\K7m s'.gens) s₁:=by
  intro H hO hS hok hA hK;have base_of:∀{b:Addr} {o:Obj},s₁.heap.get? b=some o->H b=none->(hidT s₁.heap H).get? b=some o:=λe n=>zg4 e n;have noA:∀{b:Addr} {o:Obj} {es:Array DictEntry} {ep:Nat},s₁.heap.get? b=some o->o.data=.dict es ep->H b=none:=λ{b o es ep} e d=>by
   cases q:H b with
   | none=>rfl
   | some u =>
    have e':b=a:=hA b (by rw[q];simp);subst e';rw[ha]at e;cases e;have d':Z19 vs.toArray _=Data.dict es ep:=d;cases d'
  have nsK:∀{b:Addr} {m:Str->Option Value},s₁.heap.Ns b m->(hidT s₁.heap H).Ns b m:=λ{b m} ⟨o,es,ep,e,d,r⟩=>⟨o,es,ep,base_of e (noA e d),d,r⟩;have hKb:K.In (hidT s₁.heap H):=λb o e=>base_of (KX b o e) (by
   cases q:H b with
   | none=>rfl
   | some u =>
    have e':b=a:=hA b (by rw[q];simp);subst e';rw[hK (by rw[q];simp)]at e;cases e)
  have hM:Mod K mg (hidT s₁.heap H):=⟨hKb,nsK hns,⟨mb,nsK hb,hbb⟩,let ⟨mc,h1,h2⟩:=hlim;⟨mc,nsK h1,h2⟩⟩;have e0:Env0 P w K mg (hidT s₁.heap H) K8c [] s₁ H:=⟨rfl,hM,λb o e=>zw9 e,K3r (z8Q _ _),trivial,λb hb=>absurd (show b∈([]:List Addr) from hb) (by simp),hok,.of_eq hg⟩;refine K4v ((F _ hKb (nsK hns)).run K8c [] s₁ H ⟨[.ref a],[]⟩ [.ref a] [.ref a] _ _ hr e0 (hbind s₁ (.ref a)) (.cons rfl .nil) (hsp H hO hS)) λr s' h=>?_;cases r with
  | error e=>exact(hCX H e s' h).elim
  | ok fl =>
   cases fl with
   | next=>exact K2z h
   | brk=>exact K2z h
   | cont=>exact K2z h
   | ret u =>
    obtain⟨v,H',os,bare,un,hok',r',q⟩:=h;have q':v=.bl true:=q;subst q';obtain rfl:u=K71 true:=r';refine⟨rfl,OldK.of_keep λb o e=>?_,os,bare⟩;cases q:H b with
    | none=>exact un.keep b o e q (by intro z;exact absurd (show b∈([]:List Addr) from z) (by simp)) (by simp)
    | some u =>
     rcases hO b with z|⟨ob,xs,z⟩
     ·rw[q]at z;cases z
     ·have z2:=un.frzs b ob _ z;obtain⟨e1,_⟩:=hok b _ z;obtain⟨e2,_⟩:=hok' b _ z2;rw[e]at e1;cases e1;exact e2
 cases hk:K.lookup a with
 | some o =>
  have e:=KX a o hk;rw[ha]at e;cases e;refine core (λ_=>none) (λ_=>.inl rfl) (.inr ⟨_,vs.toArray,_,hk,rfl,rfl,rfl,by rw[K9,lenV];exact hl,by simpa using rv⟩) (λb u z=>by have z':(none:Option HO)=some u:=z;cases z') (λb z=>absurd rfl z) λz=>absurd rfl z
 | none =>
  refine core (λb=>if b=a then some (.frz { cls:=.type "list",data:=.seq vs.toArray } (.lst (ns.map V.int))) else none) (λb=>?_) (.inl (.inr ⟨{ cls:=.type "list",data:=.seq vs.toArray },if_pos rfl⟩)) (λb u z=>?_) (λb z=>?_) λ_=>hk
  ·by_cases hb:b=a
   ·exact .inr ⟨_,_,if_pos hb⟩
   ·exact .inl (if_neg hb)
  ·by_cases hb:b=a
   ·have z':=(if_pos hb).symm.trans z;cases z';subst hb;exact⟨ha,by rw[K4];exact hl,vs,_,rv,ha⟩
   ·have z':=(if_neg hb).symm.trans z;cases z'
  ·by_cases hb:b=a
   ·exact hb
   ·exact absurd (if_neg hb) z
abbrev KOf {K:K2} {h:Heap} (_:K.In h):K2:=K
theorem walk_of {l:Z12}{n k:Nat}{q:K0d}{loose:List Str}{XP:(Str->Option Value)->Heap->Prop}{YP:World->Heap->Prop}{d:DefRec}{K:Params->K2}{CX:World->CXT}{sp:World->Sp}{x:Str}
 (hn:l.most=some n) (hn2:n<=sizeLine) (hdf:d.params.defaults=[]) (hr:Room k K8c)
 (hY:∀(w:World) (h:Heap),YP w h->(K w.params).In h)
 (F:∀(w:World) (mg:Str->Option Value) (fa:Addr) (h:Heap),(K w.params).In h->h.Ns K1x mg->mg d.name=.(r fa) ->
  ∃fd:K2j,(∀(s:Shared) (u:Value),K8d s fd ⟨[u],[]⟩ [(x,u)]) /\
   ∀base:Heap,(K w.params).In base->base.Ns K1x mg->FnOk l.prog w (K w.params) mg base (CX w) k fa fd [x] (sp w))
 (hsp:∀(w:World) (H:Hp) (a:Addr) (ns:List Int),ns.length<=n->Only H->SqL (K w.params) H a (ns.map V.int)->sp w [.ref a] H (λv _=>v=.bl true) λ_ _ _=>False)
 (hCX:∀(w:World) (H:Hp) (s:Shared) (e:Value) (s':Shared),CX w [] H s (λ_ _ _=>False) e s'->False) :
 Z1f q loose XP YP l.row.toRowW d [] (λf vs=>Z1a f vs):=by
 refine Att.attach_call hn hdf λw s₀ s₁ mg mb fa o pm cd doc a vs ns G Y ho hd hcd hmg hobj hints hlen hg=>?_;have KX:=hY w _ Y;obtain⟨fd,hb,hF⟩:=F w mg fa _ KX G.T.g hmg;exact zi5 KX G.T.g G.T.b G.T.builtins G.T.nolimit hg hobj hints (K0x hlen hn2) hr hF hb (λH hO hS=>hsp w H a ns hlen hO hS) λH e s'=>hCX w H s₁ e s'
def z1k (s:Stmt):Arguments:=match s with
 | .FunctionDef _ a _ _ _ _ _ _ _ _=>a
 | _=>{ posonlyargs:=[],args:=[],vararg:=none,kwonlyargs:=[],kw_defaults:=[],kwarg:=none,defaults:=[] }
def z05 (s:Stmt):List Stmt:=match s with
 | .FunctionDef _ _ b _ _ _ _ _ _ _=>b
 | _=>[]
def j9 (s:Stmt):Scope:=match s with
 | .FunctionDef _ _ _ _ _ _ sc _ _ _=>sc
 | _=>{ kind:=.function,names:=[],isGenerator:=false,isCoroutine:=false }
abbrev CX0:CXT:=λ_ _ _ _ _ _=>False
abbrev E0:XK:=λ_ _ _=>False
theorem zE3 {X:Cx}:z5w CX0 X E0:=λ_ _ _ _ _ _ _ h=>h.elim
structure Fun (K:K2) (x qual:Str) (st:Stmt) (f:Addr) (fd:K2j):Prop where
 ex:∃(oc:Value) (od:Option Addr) (kV doc pm:Value) (an:Option Addr) (cdv ct:Value) (osl:Array (Option Value)),
  fd=K2b x qual (z1k st) (z05 st) (j9 st) .none kV doc pm an cdv ct/\K.lookup f=some ⟨oc,od,.func fd,osl⟩/\K2m K cdv qual=true
 kp:K2l K (.ref f)=true
section
variable {P:K0d}{w:World}{K:K2}{mg:Str->Option Value}{base:Heap}
theorem Fun.ok {x qual:Str}{st:Stmt}{f:Addr}{fd:K2j}{N ps:List Str}{k:Nat}{sp:Sp}(F:Fun K x qual st f fd) (S:FnScope N ps (j9 st)) (len:∀vs H Q E,sp vs H Q E->vs.length=ps.length)
 (hbody:∀(cdv:Value) (A:Around) (outer:List Env) (s:Shared) (H:Hp) (vs:List V) (Q:VK) (E:XK),Room k (A.deeper (envOfC qual (j9 st) s.heap.objs.size f cdv))->sp vs H Q E ->
  ∃t,PSs (cxOf CX0 P w K mg base N qual (j9 st) f cdv A outer s H E).nox (z05 st) t/\t { nx:=λ_ H'=>Q .non H',rt:=Q } (start N vs) H):FnOk P w K mg base CX0 (k+1) f fd ps sp:=by
 obtain⟨oc,od,kV,doc,pm,an,cdv,ct,osl,rfl,lk,hcd⟩:=F.ex;refine zx2 lk hcd S len λA outer s H vs Q E hr hsp=>?_;obtain⟨t,h,q⟩:=hbody cdv A outer s H vs Q E hr hsp;exact⟨t,h.nox,q⟩
theorem Fun.binds {x qual:Str}{st:Stmt}{f:Addr}{fd:K2j}{ps:List Str}(F:Fun K x qual st f fd)
 (h:∀(kV doc pm:Value) (an:Option Addr) (cdv ct:Value) (us:List Value),us.length=ps.length->bindArgs (K2b x qual (z1k st) (z05 st) (j9 st) .none kV doc pm an cdv ct) ⟨us,[]⟩=pure (ps.zip us)):Binds K fd ps []:=by
 obtain⟨oc,od,kV,doc,pm,an,cdv,ct,osl,rfl,lk,hcd⟩:=F.ex;exact .all (h kV doc pm an cdv ct)
theorem zP5 {x qual:Str}{st:Stmt}{f:Addr}{oc:Value}{od an:Option Addr}{osl:Array (Option Value)}{kV doc pm cdv ct:Value}(l:K.lookup f=some ⟨oc,od,.func (K2b x qual (z1k st) (z05 st) (j9 st) .none kV doc pm an cdv ct),osl⟩)
 (c:K2m K cdv qual=true) (k:K2l K (.ref f)=true):Fun K x qual st f (K2b x qual (z1k st) (z05 st) (j9 st) .none kV doc pm an cdv ct):=⟨⟨oc,od,kV,doc,pm,an,cdv,ct,osl,rfl,l,c⟩,k⟩
end
theorem z44 {A:Around}{k:Nat}(hr:Room k A):A.units+1<cLine:=K74 (K6v (by decide:1<=64) _) hr.units
section
variable {X:Cx}
end
section
variable {κ:Type} [DecidableEq κ]
def valV (kvs:List (κ×V)) (k:κ):Option V:=(kvs.find? λkv=>decide (kv.1=k)).map (·.2)
def putK (kvs:List (κ×V)) (k:κ) (v:V):List (κ×V) :=
 if (kvs.any λkv=>decide (kv.1=k))=true then kvs.map (λkv=>if kv.1=k then (kv.1,v) else kv) else kvs++[(k,v)]
theorem z3j {p:κ×V}{r:List (κ×V)}{k:κ}(e:p.1=k):valV (p::r) k=some p.2:=by simp[valV,K39,e]
theorem z3l {p:κ×V}{r:List (κ×V)}{k:κ}(e:¬ p.1=k):valV (p::r) k=valV r k:=by simp[valV,K39,e]
theorem z74 (k:κ):∀kvs:List (κ×V),(kvs.any λkv=>decide (kv.1=k))=(valV kvs k).isSome
 | []=>rfl
 | p::r=>by
  rw[K26];by_cases e:p.1=k
  ·simp only[z3j e,decide_eq_true e,Bool.true_or,Option.isSome_some]
  ·rw[z3l e,decide_eq_false e,Bool.false_or];exact z74 k r
theorem z1V (kvs:List (κ×V)) (k:κ) (v:V):(putK kvs k v).length<=kvs.length+1:=by
 unfold putK;split
 ·rw[K4];omega
 ·rw[K04,K07,K0b];omega
theorem RelO.isSome_eq {o:Option V}{u:Option Value}(r:RelO o u):o.isSome=u.isSome:=by
 cases o with
 | none=>cases u with
  | none=>rfl
  | some _=>exact(show False from r).elim
 | some _=>cases u with
  | none=>exact(show False from r).elim
  | some _=>rfl
theorem KV.val {kvs:List (κ×V)}{vs:List (κ×Value)}(r:KV kvs vs) (k:κ):RelO (valV kvs k) (K9d vs k):=by
 unfold KV at r;induction r with
 | nil=>exact K48
 | @cons p q ps qs h t ih =>
  obtain⟨h1,h2⟩:=h;by_cases e:p.1=k
  ·have e':q.1=k:=h1.symm.trans e;have b:K9d (q::qs) k=some q.2:=by simp[K9d,K39,e']
   rw[z3j e,b];exact h2
  ·have e':¬ q.1=k:=λz=>e (h1.trans z);have b:K9d (q::qs) k=K9d qs k:=by simp[K9d,K39,e']
   rw[z3l e,b];exact ih
theorem KV.any {kvs:List (κ×V)}{vs:List (κ×Value)}(r:KV kvs vs) (k:κ):(kvs.any λkv=>decide (kv.1=k))=vs.any λkv=>decide (kv.1=k):=by
 unfold KV at r;induction r with
 | nil=>rfl
 | cons h t ih=>rw[K26,K26,ih,h.1]
theorem KV.repl {kvs:List (κ×V)}{vs:List (κ×Value)}(r:KV kvs vs) (k:κ) {y:V}{u:Value}(ry:RelV y u) :
 KV (kvs.map λkv=>if kv.1=k then (kv.1,y) else kv) (vs.map λkv=>if kv.1=k then (kv.1,u) else kv):=by
 unfold KV at r ⊢;induction r with
 | nil=>exact .nil
 | @cons p q ps qs h t ih =>
  rw[K0i,K0i];refine .cons ?_ ih;obtain⟨h1,h2⟩:=h;by_cases e:p.1=k
  ·rw[if_pos e,if_pos (h1.symm.trans e)];exact⟨h1,ry⟩
  ·rw[if_neg e,if_neg (λz=>e (h1.trans z))];exact⟨h1,h2⟩
theorem KV.put {kvs:List (κ×V)}{vs:List (κ×Value)}(r:KV kvs vs) (k:κ) {y:V}{u:Value}(ry:RelV y u):KV (putK kvs k y) (stored vs k u):=by
 unfold putK stored;rw[r.any k];by_cases e:(vs.any λkv=>decide (kv.1=k))=true
 ·rw[if_pos e,if_pos e];exact r.repl k ry
 ·rw[if_neg e,if_neg e];exact Paired.snoc r ⟨rfl,ry⟩
theorem KV.length {kvs:List (κ×V)}{vs:List (κ×Value)}(r:KV kvs vs):kvs.length=vs.length:=K3w r
end
theorem z7A {P:K0d}{w:World}{k:Key}{u:Value}(r:RelV (kV k) u):(z06 P w).is k u=true:=by
 cases k with
 | inl i=>obtain⟨t,e⟩:=(show ∃t,u=K70 i t from r);subst e;exact z5S P w i t
 | inr x=>obtain⟨t,e⟩:=(show ∃t,u=Z0i x t from r);subst e;exact z6g P w x t
theorem z5A {P:K0d}{w:World}:∀{ks:List Key}{us:List Value},Vals (ks.map kV) us->ItemsAre (z06 P w) ks us
 | [],_,r=>by rw[K4t]at r;cases r;exact .nil
 | k::ks,_,r=>by
  rw[K0i]at r;cases r with
  | cons h t=>exact .cons (z7A h) (z5A t)
abbrev KT (H:Hp):List (List Key×V)->List (List Key×Addr×Value)->Prop:=Paired λp q=>p.1=q.1/\H q.2.1=.(g (p.1.map kV))/\RelV p.2 q.2.2
theorem KT.val {H:Hp}{kvs:List (List Key×V)}{xs:List (List Key×Addr×Value)}(r:KT H kvs xs) (k:List Key):RelO (valV kvs k) ((atKey xs k).map (·.2)):=by
 induction r with
 | nil=>exact K48
 | @cons p q ps qs h t ih =>
  obtain⟨h1,_,h2⟩:=h;by_cases e:p.1=k
  ·have e':q.1=k:=h1.symm.trans e;have b:atKey (q::qs) k=some q.2:=by simp[atKey,K39,e']
   rw[z3j e,b];exact h2
  ·have e':¬ q.1=k:=λz=>e (h1.trans z);have b:atKey (q::qs) k=atKey qs k:=by simp[atKey,K39,e']
   rw[z3l e,b];exact ih
theorem KT.repl {H:Hp}{kvs:List (List Key×V)}{xs:List (List Key×Addr×Value)}(r:KT H kvs xs) (k:List Key) {y:V}{u:Value}(ry:RelV y u) :
 KT H (kvs.map λkv=>if kv.1=k then (kv.1,y) else kv) (xs.map (putAt k u)):=by
 induction r with
 | nil=>exact .nil
 | @cons p q ps qs h t ih =>
  rw[K0i,K0i];refine .cons ?_ ih;obtain⟨h1,h2,h3⟩:=h;unfold putAt;by_cases e:p.1=k
  ·rw[if_pos e,if_pos (h1.symm.trans e)];exact⟨h1,h2,ry⟩
  ·rw[if_neg e,if_neg (λz=>e (h1.trans z))];exact⟨h1,h2,h3⟩
theorem KT.put {H:Hp}{kvs:List (List Key×V)}{xs:List (List Key×Addr×Value)}(r:KT H kvs xs) (k:List Key) {b:Addr}{y:V}{u:Value}(hb:H b=.(g (k.map kV))) (ry:RelV y u) :
 KT H (putK kvs k y) (storedH xs k b u):=by
 have e:(kvs.any λkv=>decide (kv.1=k))=(atKey xs k).isSome:=by
  rw[z74,(r.val k).isSome_eq,K5t]
 unfold putK storedH;rw[e];by_cases q:(atKey xs k).isSome=true
 ·rw[if_pos q,if_pos q];exact r.repl k ry
 ·rw[if_neg q,if_neg q];exact Paired.snoc r ⟨rfl,hb,ry⟩
theorem KT.keeps {H H':Hp}{kvs:List (List Key×V)}{xs:List (List Key×Addr×Value)}(r:KT H kvs xs) (ht:∀b ys,H b=.(g ys)->H' b=.(g ys)):KT H' kvs xs :=
 Paired.mapP r λ_ _ z=>⟨z.1,ht _ _ z.2.1,z.2.2⟩
section
variable {P:K0d}{w:World}{H:Hp}{h:Heap}{a:Addr}
theorem zC0 {u:HO}(ok:HOk P w H h) (e:Rd H a u):ObjOk P w H h a u:=e.ok ok
theorem z9B {kvs:List (Key×V)}(ok:HOk P w H h) (e:Rd H a (.dK kvs)):kvs.length<=sizeLine/\(a==K3x)=false/\∃vs,KV kvs vs/\h.DictOf (z06 P w) a vs :=
 show ObjOk P w H h a (.dK kvs) from zC0 ok e
theorem zF0 {kvs:List (Key×V)}(ok:HOk P w H h) (e:H a=some (.dK kvs)):kvs.length<=sizeLine/\(a==K3x)=false/\∃vs,KV kvs vs/\h.DictOf (z06 P w) a vs:=z9B ok (.inl e)
theorem z5n {ks:List Key}(ok:HOk P w H h) (e:H a=.(g (ks.map kV))):(K9e (z06 P w)).is h ks a:=by
 obtain⟨_,its,r,o,h1,h2,n,h3⟩:=(show ObjOk P w H h a (.tup (ks.map kV)) from ok a _ e);exact⟨o,its.toArray,n,h1,h2.1,h3,by simpa using z5A r⟩
theorem z94 {kvs:List (List Key×V)}(ok:HOk P w H h) (e:Rd H a (.dT kvs)):kvs.length<=sizeLine/\(a==K3x)=false /\
 ∃xs,KT H kvs xs/\h.DictOfH (K9e (z06 P w)) a xs:=by
 obtain⟨z,y,xs,r,o,es,ep,h1,h2,h3,h4,h5⟩:=(show ObjOk P w H h a (.dT kvs) from zC0 ok e);refine⟨z,y,xs,r,o,es,ep,h1,h2,h3,h4,λx hx=>?_,h5⟩;have all:∀{l:List (List Key×V)} {m:List (List Key×Addr×Value)},KT H l m->∀x∈m,(K9e (z06 P w)).is h x.1 x.2.1:=by
  intro l m q;induction q with
  | nil=>intro x hx;exact nomatch hx
  | @cons p q ps qs hq t ih =>
   intro x hx;rcases K0c.mp hx with e|hx
   ·subst e;exact z5n ok (by rw[<- hq.1];exact hq.2.1)
   ·exact ih x hx
 exact all r x hx
theorem zV7 {kvs:List (List Key×V)}(ok:HOk P w H h) (e:H a=some (.dT kvs)):kvs.length<=sizeLine/\(a==K3x)=false /\
 ∃xs,KT H kvs xs/\h.DictOfH (K9e (z06 P w)) a xs:=z94 ok (.inl e)
end
def DGet (H:Hp) (a:Addr) (y:V) (r:Option V):Prop :=
 (∃kvs k,Rd H a (.dK kvs)/\y=kV k/\r=valV kvs k)\/∃kvs k b,Rd H a (.dT kvs)/\y=.ref b/\H b=.(g (k.map kV))/\r=valV kvs k
def DPut (H:Hp) (a:Addr) (y v:V) (H':Hp):Prop :=
 (∃kvs k,H a=some (.dK kvs)/\y=kV k/\kvs.length<sizeLine/\H'=upd H a (.dK (putK kvs k v))) \/
 ∃kvs k b,H a=some (.dT kvs)/\y=.ref b/\H b=.(g (k.map kV))/\kvs.length<sizeLine/\H'=upd H a (.dT (putK kvs k v))
theorem DPut.k {H:Hp}{a:Addr}{kvs:List (Key×V)}{k:Key}{v:V}(e:H a=some (.dK kvs)) (hl:kvs.length<sizeLine):DPut H a (kV k) v (upd H a (.dK (putK kvs k v))):=.inl ⟨kvs,k,e,rfl,hl,rfl⟩
section
variable {X:Cx}{pins:List (Addr×Obj)}{σ:St}{H:Hp}{s:Shared}{a:Addr}{y v:V}{u r:Value}{o:Option V}{A:Around}{E:Value->Shared->Prop}
theorem Inv.big (I:Inv X pins σ H s):K3x<s.heap.objs.size:=by
 have h:K1x<s.heap.objs.size:=(I.mod.glob.keeps I.bk).lt;exact K5q (by decide) h
theorem z9P {Q:Value->Shared->Prop}(hu:A.units+1<cLine) (I:Inv X pins σ H s) (g:DGet H a y (some v)) (ry:RelV y u) (h:∀w' s',Inv X pins σ H s'->RelV v w'->Q w' s') :
 wpAny (model X.prog X.w) A (K58 (.ref a) u) Q E s:=by
 rcases g with ⟨kvs,k,e,ey,l⟩|⟨kvs,k,b,e,ey,eb,l⟩
 ·subst ey;obtain⟨z,hd,vs,rel,dd⟩:=z9B I.hok e;obtain⟨w',hw,rw'⟩:=RelO.some_of (v:=v) (o:=K9d vs k) (by rw[l];exact rel.val k);exact wpAny_getItem_of (z7A ry) dd.mapOf hw (h w' _ (I.tok _) rw')
 ·subst ey;cases (show u=K1s b from ry);obtain⟨z,hd,xs,rel,dd⟩:=z94 I.hok e;obtain⟨w',hw,rw'⟩:=RelO.some_of (v:=v) (o:=(atKey xs k).map (·.2)) (by rw[l];exact rel.val k);obtain⟨p,hp,hp2⟩:=K06.mp hw;refine wpAny_getItem_heap (K5d hu) (z5n I.hok eb) dd hp ?_;rw[hp2];exact h w' _ (I.tok _) rw'
theorem d_in {Q:Value->Shared->Prop}(hu:A.units+1<cLine) (I:Inv X pins σ H s) (g:DGet H a y o) (ry:RelV y u) (h:∀s',Inv X pins σ H s'->Q (.bool o.isSome) s') :
 wpAny (model X.prog X.w) A (K1t .In u (.ref a)) Q E s:=by
 rcases g with ⟨kvs,k,e,ey,l⟩|⟨kvs,k,b,e,ey,eb,l⟩
 ·subst ey;obtain⟨z,hd,vs,rel,dd⟩:=z9B I.hok e;refine wpAny_in_of (z7A ry) hd dd.mapOf ?_;rw[<- (rel.val k).isSome_eq,<- l];exact h _ (I.tok _)
 ·subst ey;cases (show u=K1s b from ry);obtain⟨z,hd,xs,rel,dd⟩:=z94 I.hok e;refine wpAny_in_heap (K5d hu) (z5n I.hok eb) hd dd ?_;have q:=(rel.val k).isSome_eq;rw[K5t]at q;rw[<- q,<- l];exact h _ (I.tok _)
theorem zx1 {Q:Value->Shared->Prop}(hu:A.units+1<cLine) (I:Inv X pins σ H s) (g:DGet H a y o) (ry:RelV y u) (h:∀s',Inv X pins σ H s'->Q (.bool (!o.isSome)) s') :
 wpAny (model X.prog X.w) A (K1t .NotIn u (.ref a)) Q E s:=by
 rcases g with ⟨kvs,k,e,ey,l⟩|⟨kvs,k,b,e,ey,eb,l⟩
 ·subst ey;obtain⟨z,hd,vs,rel,dd⟩:=z9B I.hok e;refine wpAny_notIn_of (z7A ry) hd dd.mapOf ?_;rw[<- (rel.val k).isSome_eq,<- l];exact h _ (I.tok _)
 ·subst ey;cases (show u=K1s b from ry);obtain⟨z,hd,xs,rel,dd⟩:=z94 I.hok e;refine wpAny_notIn_heap (K5d hu) (z5n I.hok eb) hd dd ?_;have q:=(rel.val k).isSome_eq;rw[K5t]at q;rw[<- q,<- l];exact h _ (I.tok _)
theorem z6h {h':Heap}{t':Nat}{ob:HO}(I:Inv X pins σ H s) (mu:Mut (H a)) (hs:K3c a s.heap h') (he:∃q,h'.get? a=some q) (new:ObjOk X.prog X.w (upd H a ob) h' a ob) :
 Inv X pins σ (upd H a ob) { s with heap:=h',toks:=t' } :=
 I.write (x:=a) (e:=a) mu (.inl rfl) (λb q hb z=>(hs.2 b hb).trans z) he new
theorem z96 {P:K0d}{w:World}{H':Hp}{h':Heap}{kvs:List (Key×V)}{vs:List (Key×Value)}(z:kvs.length<=sizeLine) (hd:(a==K3x)=false) (rel:KV kvs vs) (dd:h'.DictOf (z06 P w) a vs) :
 ObjOk P w H' h' a (.dK kvs):=⟨z,hd,vs,rel,dd⟩
theorem z9L {H':Hp}{Q:Unit->Shared->Prop}(hu:A.units+1<cLine) (I:Inv X pins σ H s) (g:DPut H a y v H') (ry:RelV y u) (rv:RelV v r) (h:∀s',Inv X pins σ H' s'->Q () s') :
 wpAny (model X.prog X.w) A (Z17 (.ref a) u r) Q E s:=by
 rcases g with ⟨kvs,k,e,ey,l,eH⟩|⟨kvs,k,b,e,ey,eb,l,eH⟩
 ·subst ey eH;obtain⟨z,hd,vs,rel,dd⟩:=zF0 I.hok e;have hz:vs.length<=sizeLine:=by rw[<- rel.length];exact z
  have hl:(putK kvs k v).length<=sizeLine:=by have:=z1V kvs k v;omega
  refine wpAny_setItem_pairs (hsz:=hz) (z7A ry) dd λh' dd' hs=>h _ ?_;have he:∃q,h'.get? a=some q:=let ⟨q,_,_,hq,_⟩:=dd';⟨q,hq⟩;exact z6h I (by rw[e];exact K48) hs he (z96 hl hd (rel.put k rv) dd')
 ·subst ey eH;cases (show u=K1s b from ry);obtain⟨z,hd,xs,rel,dd⟩:=zV7 I.hok e;have hz:xs.length<=sizeLine:=by rw[<- K3w rel];exact z
  have hl:(putK kvs k v).length<=sizeLine:=by have:=z1V kvs k v;omega
  refine wpAny_setItem_heap (hsz:=hz) (K5d hu) (z5n I.hok eb) dd λh' dd' hs=>h _ ?_;obtain⟨q,es,ep,hq,h2,h3,h4,_,h5⟩:=dd';refine z6h I (by rw[e];exact K48) hs ⟨q,hq⟩ ⟨hl,hd,_,(rel.put k eb rv).keeps λc ys ec=>?_,q,es,ep,hq,h2,h3,h4,h5⟩;rw[Y3 (zV5 ec e (λz=>nomatch z))];exact ec
end
section
variable {X:Cx}{pins:List (Addr×Obj)}{σ:St}{H:Hp}{s:Shared}{a:Addr}{kvs:List (Key×V)}{k:Key}{u:Value}{A:Around}{E:Value->Shared->Prop}
end
def NoSl (i:Expr):Prop:=∀ov iv,K94 i false ov iv=operate [ov,iv] (K58 ov iv)
theorem zt2 {prog:K0d}{w:World}{A:Around}{E:Value->Shared->Prop}{s:Shared}{env:Env}{value slice:Expr}{pos:Pos}{T id:String}{Q:Value->Shared->Prop}
 (hl:K8e (.type T) "__getitem__" = pure (some (.builtin id))) (hs:NoSl slice)
 (h:wpAny (model prog w) A (eval value env) (λo s₁=>wpAny (model prog w) A (eval slice env) (λi s₂=>s₂.TypeIs o T/\wpAny (model prog w) A (K58 o i) Q E s₂) E s₁) E s) :
 wpAny (model prog w) A (eval (.Subscript value slice pos) env) Q E s:=by
 refine K9v (K4a h (λo s₁ h₁=>K4a h₁ (λi s₂ h₂=>?_) λ_ _ x=>x) λ_ _ x=>x);obtain⟨hT,h₂⟩:=h₂;unfold K7t;refine K1 ?_;rw[getitemInPython_of_ne hT.not_modules];refine K1 (K8s hT hl ?_);have fin:wpAny (model prog w) A (K94 slice false o i) (λr s₃=>wpAny (model prog w) A (letTemporaryGo value o r >>= λ_=>pure r) Q E s₃) E s₂:=by
  rw[hs o i];exact wpAny_operating (K4a h₂ (λr s₃ h₃=>K1 (wpAny_letTemporaryGo (K6 h₃))) λ_ _ x=>x)
 first
  | exact K6 (K1 fin)
  | exact K1 (K6 (K1 fin))
  | exact K1 fin
theorem z65 {X:Cx}{pins:List (Addr×Obj)}{σ:St}{H:Hp}{s:Shared}{a:Addr}{y:V}{o:Option V}(I:Inv X pins σ H s) (g:DGet H a y o):s.TypeIs (.ref a) "dict":=by
 rcases g with ⟨kvs,k,e,_,_⟩|⟨kvs,k,b,e,_,_,_⟩
 ·obtain⟨_,_,vs,_,dd⟩:=z9B I.hok e;exact dd.typeIs
 ·obtain⟨_,_,xs,_,dd⟩:=z94 I.hok e;exact dd.typeIs
def zX0 (td ty:TE):TE:=λσ H Q=>td σ H λx H1=>ty σ H1 λy H2=>∃a v,x=.ref a/\DGet H2 a y (some v)/\Q v H2
section
variable {X:Cx}{o i e value:Expr}{pos pos' tpos:Pos}{td ty tv:TE}
theorem zr6 (hu:X.A.units+1<cLine) (ho:PE X o td) (hi:PE X i ty) (hs:NoSl i):PE X (.Subscript o i pos) (zX0 td ty):=by
 intro pins s σ H Q I h;refine zt2 PySem.F.slot_dict_getitem.lookup hs (thn (ho pins s σ H _ I h) λu s1 ⟨x,H1,I1,rx,q1⟩=>thn (hi pins s1 σ H1 _ I1 q1) λiv s2 ⟨y,H2,I2,ry,a,v,ex,g,q2⟩=>?_);subst ex;obtain rfl:u=K1s a:=rx;exact⟨z65 I2 g,z9P hu I2 g ry λw' s3 I3 rw'=>⟨v,H2,I3,rw',q2⟩⟩
end
theorem z7b {P:K0d}{w:World}{H:Hp}(h:Heap) (hb:K3x<h.objs.size):ObjOk P w H (h.push { cls:=.type "dict",data:=.dict #[] }) h.objs.size (.dK []) :=
 ⟨K35 _,beq_eq_false_iff_ne.mpr (K4u (K0g hb)),[],.nil,Z11 h⟩
def zQ3:TE:=λ_ H Q=>∀p,H p=none->Q (.ref p) (upd H p (.dK []))
section
variable {X:Cx}{pos:Pos}
theorem zc3:PE X (.Dict [] [] pos) zQ3:=λpins s σ H Q I h =>
 wpAny_Dict_empty ⟨.ref s.heap.objs.size,_,I.laid (a:=s.heap.objs.size) (o:=.dK []) (t':=s.toks) (λ_ _ q=>K3 _ q) (K01 _) (z7b s.heap I.big),rfl,h _ (I.hok.fresh (K01 _))⟩
end
section
variable {X:Cx}{pins:List (Addr×Obj)}{σ:St}{H:Hp}{s:Shared}{a:Addr}{y d:V}{u r:Value}{o:Option V}{A:Around}{E:Value->Shared->Prop}
end
section
variable {X:Cx}{o e f:Expr}{apos cpos:Pos}{td ty tx:TE}
end
abbrev z7o (ifs:List Expr) (env:Env):Sem Bool :=
 forIn ifs true λc r=>if r=true then do { let ok <- isTrue c env (eval c env);pure (K4d ok) } else pure (K4d r)
def z0n (env:Env):List (Str×K5o)->List (Str×Addr)->List (Str×Addr)
 | [],acc=>acc
 | (n,k)::r,acc=>z0n env r (if k==.free then match env.cells.lookup n with|some c=>(n,c)::acc|none=>acc else acc)
theorem z30 {env:Env}:∀(names:List (Str×K5o)) (acc:List (Str×Addr)),(∀x∈names,x.2=.free->∃c,env.cells.lookup x.1=some c) ->
 (forIn names acc λ(x:Str×K5o) (r:List (Str×Addr))=>(if (x.2==K4g)=true then do { let c <- cellOf env x.1;pure (K4d ((x.1,c)::r)) } else pure (K4d r):Sem (ForInStep (List (Str×Addr)))))=(pure (z0n env names acc):Sem _)
 | [],acc,_=>by rw[K5s];rfl
 | (n,k)::r,acc,h=>by
  rw[K57];have hr:∀x∈r,x.2=.free->∃c,env.cells.lookup x.1=some c:=λx hx=>h x (K0o _ hx);by_cases hk:k=.free
  ·subst hk;obtain⟨c,hc⟩:=h (n,.free) K0u rfl;have hc':env.cells.lookup n=some c:=hc;simp only[z0n,beq_self_eq_true,if_true,cellOf,hc',pure_bind];exact z30 r _ hr
  ·have hb:(k==K4g)=false:=by simpa using hk
   simp only[z0n,hb,K31,if_false,pure_bind];exact z30 r _ hr
theorem z2J {scope:Scope}{env:Env}(h:∀x∈scope.names,x.2=.free->∃c,env.cells.lookup x.1=some c) :
 closureFor scope env=pure (z0n env scope.names []):=by
 unfold closureFor;exact congrArg (λm:Sem (List (Str×Addr))=>m >>= λz=>pure z) (z30 scope.names [] h)
theorem z77 {env:Env}:∀(names:List (Str×K5o)) (acc:List (Str×Addr)) {x:Str}{c:Addr},(z0n env names acc).lookup x=some c ->
 env.cells.lookup x=some c\/acc.lookup x=some c
 | [],acc,x,c,h=>.inr h
 | (n,k)::r,acc,x,c,h=>by
  rcases z77 r _ h with q|q
  ·exact .inl q
  ·by_cases hk:(k==K4g)=true
   ·rw[if_pos hk]at q;cases e:env.cells.lookup n with
    | none=>rw[e]at q;exact .inr q
    | some c' =>
     rw[e]at q;simp only[K1q]at q;cases hx:x==n with
     | true =>
      rw[hx]at q;cases q;have:x=n:=by simpa using hx
      subst this;exact .inl e
     | false=>rw[hx]at q;exact .inr q
   ·rw[if_neg hk]at q;exact .inr q
theorem z7c {env:Env}{x:Str}{c:Addr}(hc:env.cells.lookup x=some c):∀(names:List (Str×K5o)) (acc:List (Str×Addr)),
 acc.lookup x=some c->(z0n env names acc).lookup x=some c
 | [],acc,h=>h
 | (n,k)::r,acc,h=>by
  refine z7c hc r _ ?_;by_cases hk:(k==K4g)=true
  ·rw[if_pos hk];cases e:env.cells.lookup n with
   | none=>exact h
   | some c' =>
    simp only[K1q];cases hx:x==n with
    | true =>
     have:x=n:=by simpa using hx
     subst this;rw[hc]at e;exact e.symm
    | false=>exact h
  ·rw[if_neg hk];exact h
theorem z64 {env:Env}{x:Str}{c:Addr}(hc:env.cells.lookup x=some c):∀(names:List (Str×K5o)) (acc:List (Str×Addr)),
 (x,K4g)∈names->(z0n env names acc).lookup x=some c
 | [],_,h=>absurd h (by simp)
 | (n,k)::r,acc,h=>by
  rcases K0c.mp h with e|h
  ·cases e;refine z7c hc r _ ?_;rw[if_pos (by simp),hc];simp[K1q]
  ·exact z64 hc r _ h
theorem z2u {sc:Scope}{env:Env}{x:Str}{k:NameKind}(h:(relabel sc env).names.lookup x=some k) :
 ∃k0,sc.names.lookup x=some k0/\(k=k0\/(k=.cell/\k0=.free)):=by
 unfold relabel at h;dsimp only at h;generalize sc.names=ns at h ⊢;induction ns with
 | nil=>simp at h
 | cons a r ih =>
  obtain⟨n,k1⟩:=a;simp only[K0i]at h;by_cases hc:(k1==K4g&&env.scope.kind==.function&&env.kindOf n==some .cell)=true
  ·rw[if_pos hc]at h;simp only[K1q]at h ⊢;cases hx:x==n with
   | true =>
    rw[hx]at h;cases h;refine⟨k1,rfl,.inr ⟨rfl,?_⟩⟩;simp only[K0f]at hc;simpa using hc.1.1
   | false=>rw[hx]at h;exact ih h
  ·rw[if_neg hc]at h;simp only[K1q]at h ⊢;cases hx:x==n with
   | true=>rw[hx]at h;cases h;exact⟨_,rfl,.inl rfl⟩
   | false=>rw[hx]at h;exact ih h
theorem z5J {sc:Scope}{env:Env}{x:Str}(h:sc.names.lookup x=some .free) :
 (relabel sc env).names.lookup x=some .cell\/(relabel sc env).names.lookup x=some .free:=by
 unfold relabel;dsimp only;generalize sc.names=ns at h ⊢;induction ns with
 | nil=>simp at h
 | cons a r ih =>
  obtain⟨n,k1⟩:=a;simp only[K0i];simp only[K1q]at h;by_cases hc:(k1==K4g&&env.scope.kind==.function&&env.kindOf n==some .cell)=true
  ·rw[if_pos hc];simp only[K1q];cases hx:x==n with
   | true=>exact .inl rfl
   | false=>rw[hx]at h;exact ih h
  ·rw[if_neg hc];simp only[K1q];cases hx:x==n with
   | true=>rw[hx]at h;exact .inr h
   | false=>rw[hx]at h;exact ih h
structure CS (X:Cx) (sc:Scope) (N':List Str) (cap:List (Option Nat)):Prop where
 kind:sc.kind=.function
 nocell:∀y∈sc.names,y.2≠.cell
 loc:∀x∈sc.names,x.2=.local->sc.names.lookup x.1=some .local
 fr:∀x∈sc.names,x.2=.free->X.env.kindOf x.1=some .cell\/X.env.kindOf x.1=some .free
 len:cap.length=N'.length
 capt:∀(i j:Nat),cap[i]?=some (some j)->∃x,N'[i]?=some x/\X.N[j]?=some x/\sc.names.lookup x=some .free
def z3B (cap:List (Option Nat)) (σ:St):St:=cap.map λo=>match o with|some j=>(σ[j]?).join|none=>none
def Cx.comp (X:Cx) (N':List Str) (sc:Scope) (s:Shared) (H:Hp) (fp:List Addr) (xe:Value->Shared->Prop):Cx :=
 { X with N:=N',s₀:=s,H₀:=H,env:=compEnvC sc (z0n X.env sc.names []) s.heap.objs.size X.env,outer:=X.stack,stack:=X.stack,ex:=fp,fn:=λ_=>false,pn:=[],xe:=xe }
section
variable {X:Cx}{pins:List (Addr×Obj)}{σ:St}{H:Hp}{s:Shared}{sc:Scope}{N':List Str}{cap:List (Option Nat)}{fp:List Addr}{xe:Value->Shared->Prop}{h':Heap}
theorem CS.cells (S:CS X sc N' cap) (I:Inv X pins σ H s):∀x∈sc.names,x.2=.free->∃c,X.env.cells.lookup x.1=some c:=λx hx hf =>
 I.ok.has x.1 (S.fr x hx hf)
theorem Inv.compIn {t:Nat}(I:Inv X pins σ H s) (S:CS X sc N' cap) (hf:∀b∈fp,FpOk X pins H b) (hlt:∀b∈fp,b<s.heap.objs.size)
 (hns:h'.Ns s.heap.objs.size λ_=>none) (hk:∀b o,s.heap.get? b=some o->h'.get? b=some o) :
 Inv (X.comp N' sc s H fp xe) [] (z3B cap σ) H { s with heap:=h',toks:=t }:=by
 have hfrom:∀{x c},(z0n X.env sc.names []).lookup x=some c->X.env.cells.lookup x=some c:=λ{x c} q=>by
  rcases z77 _ _ q with z|z
  ·exact z
  ·simp at z
 have hlook:∀ {x},((relabel sc X.env).names.lookup x=some .cell\/(relabel sc X.env).names.lookup x=some .free)->sc.names.lookup x=some .free:=fun {x} q=>by
  rcases q with q|q
  ·obtain⟨k0,e,z⟩:=z2u q;rcases z with z|z
   ·subst z;exact absurd rfl (S.nocell _ (K23 e))
   ·rw[e,z.2]
  ·obtain⟨k0,e,z⟩:=z2u q;rcases z with z|z
   ·rw[e,z]
   ·cases z.1
 refine⟨⟨I.ok.mod,?_,I.ok.glob,I.ok.blt,K01 _,λx y c h1 h2=>I.ok.inj x y c (hfrom h1) (hfrom h2),λx hx=>?_,λx c q=>absurd (show false=true from q) (by decide),I.ok.hd,I.ok.frames,.inl rfl,λb hb=>⟨?_,λx c q=>?_⟩,
  I.bs,K0x I.ok.bsz I.sz,λb o e hb=>?_,λb hb hz=>?_,I.stack,I.stkFree⟩,
  rfl,I.bare,Un.kept hk,⟨_,hns,λi x v h1 h2 h3=>?_⟩,λx c q=>?_,I.hok.fresh (K01 _),λx c q=>I.freeC x c (hfrom q),λp hp=>absurd (show p∈([]:List (Addr×Obj)) from hp) (by simp),I.hok.kept hk,?_⟩
 ·exact S.kind
 ·have e:=hlook hx;have e2:=K23 e;obtain⟨c,hc⟩:=I.ok.has x (S.fr _ e2 rfl);exact⟨c,z64 hc _ _ e2⟩
 ·exact K0g (hlt b hb)
 ·exact(hf b hb).2.2.2.2.1 x c (hfrom q)
 ·rcases(hf b hb).2.2.2.1 with z|z
  ·exact I.ok.noex b o e z
  ·exact absurd (K0j (K02 e) (K0x I.ok.bsz z)) (K2k _)
 ·rcases K0c.mp (I.stkSub b hz) with z|z
  ·exact(hf b hb).2.1 z
  ·exact(hf b hb).2.2.1 z
 ·have h2':(cap.map λo=>match o with|some j=>(σ[j]?).join|none=>none)[i]?=some (some v):=h2;rw[K8]at h2';cases e:cap[i]? with
  | none=>rw[e]at h2';cases h2'
  | some o =>
   rw[e]at h2';cases o with
   | none=>simp at h2'
   | some j =>
    have hj:σ[j]?=some (some v):=by
     have h4:(σ[j]?).join=some v:=by simpa using h2'
     cases e2:σ[j]? with
     | none=>rw[e2]at h4;simp at h4
     | some o2=>rw[e2]at h4;simp at h4;rw[h4]
    obtain⟨y,n1,n2,n3⟩:=S.capt i j e;have ey:y=x:=by
     have h1':N'[i]?=some x:=h1;rw[n1]at h1';exact K1d h1'
    subst ey;have hm:=K23 n3;have hkind:=S.fr _ hm rfl;obtain⟨m,hn,hl⟩:=I.loc;have vis:Vis X.env.scope y:=by
     rcases hkind with z|z
     ·exact .inr (.inl z)
     ·exact .inr (.inr z)
    obtain⟨u,r,l⟩:=hl j y v n2 hj vis;refine⟨u,r,.inr ?_⟩;rcases l with ⟨z,_⟩|⟨_,c,hc,hcell⟩
    ·have z':X.env.kindOf y=some .local:=z;rcases hkind with q|q<;>(have q':X.env.kindOf y=_:=q;rw[z']at q';cases q')
    ·obtain⟨o,ho,hd⟩:=hcell;exact⟨z5J n3,c,z64 hc _ _ hm,o,hk c o ho,hd⟩
 ·obtain⟨v,o,ho,hd⟩:=I.cell x c (hfrom q);exact⟨v,o,hk c o ho,hd⟩
 ·show (cap.map _).length=N'.length;rw[K4];exact S.len
theorem Inv.compOut {pins':List (Addr×Obj)}{σ':St}{H':Hp}{s':Shared}(I:Inv X pins σ H s) (hf:∀b∈fp,FpOk X pins H b)
 (J:Inv (X.comp N' sc s H fp xe) pins' σ' H' s') (hs:K3c s.heap.objs.size s'.heap h'):Inv X pins σ H' { s' with heap:=h' }:=by
 have hu:Un (frs X.stack) fp H H' s.heap s'.heap:=J.base;have hC:H' s.heap.objs.size=none:=J.free;have lt:∀{b:Addr} {o:Obj},s.heap.get? b=some o->b≠s.heap.objs.size:=λe=>K0g (K02 e);refine I.call' (s':={ s' with heap:=h' }) (ch:=fp) J.os ⟨λb o e n h1 h2=>?_,λb o e n h1 h2=>?_,hu.free,λb o e h1=>?_,hu.tups,hu.frzs,hu.tbls⟩ (λb u e=>?_) J.bare (λb hb=>⟨(hf b hb).2.2.2.1,(hf b hb).2.1,(hf b hb).2.2.2.2.1,(hf b hb).2.2.2.2.2⟩)
 ·exact(hs.2 b (lt e)).trans (hu.keep b o e n h1 h2)
 ·obtain⟨sl,q⟩:=hu.slot b o e n h1 h2;exact⟨sl,(hs.2 b (lt e)).trans q⟩
 ·obtain⟨o',q⟩:=hu.there b o e h1;exact⟨o',(hs.2 b (lt e)).trans q⟩
 ·refine(J.hok b u e).stay (λc v hc q=>?_) (λ_ q=>q) λ_ _ q=>q;have ne:c≠s.heap.objs.size:=by
   rintro rfl;rcases hc with z|z
   ·rw[<- z,hC]at e;cases e
   ·rw[hC]at z;cases z
  exact(hs.2 c ne).trans q
end
def PTs (X:Cx) (ifs:List Expr) (t:TT):Prop :=
 ∀(pins:List (Addr×Obj)) (s:Shared) (σ:St) (H:Hp) (Q:Bool->Hp->Prop),Inv X pins σ H s->t σ H Q->wpAny (model X.prog X.w) X.A (z7o ifs X.env) (TP X pins σ Q) X.xe s
def zs4:TT:=λ_ H Q=>Q true H
def zE0 (t r:TT):TT:=λσ H Q=>t σ H λb H1=>if b=true then r σ H1 Q else Q false H1
theorem z4X {X:Cx}{E:Value->Shared->Prop}{Q:Bool->Shared->Prop}:∀{ifs:List Expr}{s:Shared},Q false s ->
 wpAny (model X.prog X.w) X.A (forIn ifs false λc r=>if r=true then do { let ok <- isTrue c X.env (eval c X.env);pure (K4d ok) } else pure (K4d r)) Q E s
 | [],s,h=>by rw[K5s];exact K6 h
 | c::r,s,h=>by
  rw[K57];refine K1 ?_;rw[if_neg (by decide)];exact K6 (z4X h)
theorem z9z {X:Cx}:PTs X [] zs4:=λpins s σ H Q I h=>by
 unfold z7o;rw[K5s];exact K6 ⟨H,I,h⟩
theorem zg8 {X:Cx}{c:Expr}{r:List Expr}{t u:TT}(h1:PT X c t) (h2:PTs X r u):PTs X (c::r) (zE0 t u):=λpins s σ H Q I h=>by
 unfold z7o;rw[K57];refine K1 ?_;rw[if_pos rfl];refine K1 (thn (h1 pins s σ H _ I h) λb s1 ⟨H1,I1,q1⟩=>K6 ?_);cases b with
 | true=>exact h2 pins s1 σ H1 Q I1 (by simpa using q1)
 | false=>exact z4X ⟨H1,I1,by simpa using q1⟩
def z9Y (p:Pos) (tg:Expr) (ifs:List Expr) (it:Value) (env:Env) (b:Sem Unit) (c:Code):Sem Fin:=do
 K6j p
 match <- pyNext it with
 | none=>pure (.done .next)
 | some v =>
  K6s tg it v
  assign tg env v
  let ok <- z7o ifs env
  if ok then b
  again c
abbrev TB:=St->Hp->(Hp->Prop)->Prop
def Kp (σ σ':St):Prop:=∀(j:Nat) v,σ[j]?=some (some v)->σ'[j]?=some (some v)
def PBd (X:Cx) (b:Sem Unit) (t:TB):Prop :=
 ∀(pins:List (Addr×Obj)) (s:Shared) (σ:St) (H:Hp) (Q:Hp->Prop),Inv X pins σ H s->t σ H Q->wpAny (model X.prog X.w) X.A b (λ_ s'=>∃σ' H',Inv X pins σ' H' s'/\Kp σ σ'/\Q H') X.xe s
def runG (g:TG) (ti:TT) (tb:TB) (σ:St) (J:It) (Q:Hp->Prop) (H:Hp):Prop :=
 ∃W:Nat->Nat->Hp->Prop,(∃m,W 0 m H)/\∀i m H,W i m H ->
  (J.stop i H/\Q H)\/(J.go i H/\∀x H1,J.yld i H x H1->g x σ H1 λσ2 H2=>Kp σ σ2 /\
   ti σ2 H2 λok H3=>if ok=true then tb σ2 H3 λH4=>∃m',m'<m/\W (i+1) m' H4 else ∃m',m'<m/\W (i+1) m' H3)
def CK (ce:Expr):Prop:=(∃elt gens sc pos,ce=.ListComp elt gens sc pos)\/∃k v gens sc pos,ce=.DictComp k v gens sc pos
section
variable {X:Cx}{ce elt val tg iter tg1 iter1:Expr}{ifs ifs1:List Expr}{sc:Scope}{pos p:Pos}{N':List Str}{cap:List (Option Nat)}{g g1:TG}{wi wi1:TI}{ti ti1:TT}{te tv:TE}{tb:TB}{b:Sem Unit}{D:Addr}
theorem zS4 {pins:List (Addr×Obj)}{σ0:St}{H2:Hp}{s2:Shared}{it:Addr}{fp:List Addr}{tn:Nat->Heap->Prop}{J:It}{R:Result->Shared->Prop}{Q:Hp->Prop}{k:Nat}{acc:Value}
 (htn:compTurn ce k (.ref it) acc X.env=z9Y p tg ifs (.ref it) X.env b (.compLoop ce k (.ref it) acc X.env)) (hce:CK ce) (hc:X.calm=true)
 (hg:PG (X.wish (Z09 (model X.prog X.w) X.A X.env λe s'=>R (.error e) s')) tg g) (ht:PTs (X.wish (Z09 (model X.prog X.w) X.A X.env λe s'=>R (.error e) s')) ifs ti) (hb:PBd (X.wish (Z09 (model X.prog X.w) X.A X.env λe s'=>R (.error e) s')) b tb)
 (I2:Inv X pins σ0 H2 s2) (T:Turn X.prog X.w X.K tg J fp it tn) (st2:tn 0 s2.heap) (f2:∀b∈fp,FpOk X pins H2 b)
 (hq:runG g ti tb σ0 J Q H2) (hR:∀s' H',Inv X pins σ0 H' s'->Q H'->R (.ok .next) s') :
 K5u (model X.prog X.w) X.A (.compLoop ce k (.ref it) acc X.env) R s2:=by
 have stat:∀{H':Hp},(∀b∈fp,H' b=none)->∀b∈fp,FpOk X pins H' b:=λhn b hb=>⟨hn b hb,(f2 b hb).2⟩;obtain⟨W,⟨m0,w0⟩,turn⟩:=hq;refine codeAny_loop rfl (λn s'=>∃i H',Inv X pins σ0 H' s'/\tn i s'.heap/\(∀b∈fp,H' b=none)/\W i n H') (λn s5 hI=>?_) m0 ⟨0,H2,I2,st2,λb hb=>(f2 b hb).1,w0⟩;obtain⟨i,H5,I5,st5,fr5,w5⟩:=hI;have hu:X.A.under (.compLoop ce k (.ref it) acc X.env)=X.A/\(model X.prog X.w).den (.compLoop ce k (.ref it) acc X.env)=(compTurn ce k (.ref it) acc X.env).onRaise (λx=>do noteFrame x X.env;theTreesLotGoes x):=by
  rcases hce with ⟨_,_,_,_,rfl⟩|⟨_,_,_,_,_,rfl⟩<;>exact⟨rfl,rfl⟩
 rw[hu.1,hu.2];refine wpAny_noted ?_;rw[htn];unfold z9Y;refine K1 (K52 (K1 ?_));rcases turn i n H5 w5 with ⟨stop,qn⟩|⟨go,step⟩
 ·refine thn (T.done X rfl rfl rfl hc i pins s5 _ H5 _ I5 (stat fr5) st5 stop) λr s6 ⟨hr,I6⟩=>?_;subst hr;exact K6 (hR s6 H5 I6 qn)
 ·refine thn (T.item X rfl rfl rfl hc i pins s5 _ H5 _ I5 (stat fr5) st5 go) λr s6 ⟨u,hr,h6⟩=>?_;subst hr;refine K1 (thn h6 λ_ s7 ⟨x,H7,I7,r7,y7,st7,fr7⟩=>?_);have I7':=I7.pinned (stat fr7) (T.obj _ _ st7);refine K1 (thn (hg _ s7 _ H7 x u _ (I7'.wish _) r7 (step x H7 y7)) λ_ s8 ⟨σ8,H8,I8,k8,q8⟩=>?_);refine K1 (thn (ht _ s8 σ8 H8 _ I8 q8) λok s9 ⟨H9,I9,q9⟩=>?_);have again:∀{σa:St} {Ha:Hp} {sa:Shared},Inv (X.wish (Z09 (model X.prog X.w) X.A X.env λe s'=>R (.error e) s')) (pins++z5l fp s7.heap) σa Ha sa->Kp σ0 σa ->
   Inv X pins σ0 Ha sa/\tn (i+1) sa.heap/\∀b∈fp,Ha b=none:=λ{σa Ha sa} Iw ka=>by
   have Ia:=Iw.unwish;refine⟨Ia.unpinned.weak (I5.len.trans Ia.len.symm) ka,T.keep _ _ _ st7 λb hb o e=>(Ia.pin (b,o) (K11 _ (K11 _ (z2j hb e)))).1,λb hb=>?_⟩;obtain⟨o,e,d⟩:=T.obj _ _ st7 b hb;exact(Ia.pin (b,o) (K11 _ (K11 _ (z2j hb e)))).2.1
  cases ok with
  | false =>
   have q9':∃m',m'<n/\W (i+1) m' H9:=by simpa using q9
   obtain⟨m',hm,w9⟩:=q9';obtain⟨a1,a2,a3⟩:=again I9 k8;exact K6 ⟨rfl,m',hm,i+1,H9,a1,a2,a3,w9⟩
  | true =>
   rw[if_pos rfl]at q9;refine K1 (thn (hb _ s9 σ8 H9 _ I9 q9) λ_ sa ⟨σa,Ha,Ia,ka,m',hm,wa⟩=>?_);obtain⟨a1,a2,a3⟩:=again Ia λj v h=>ka j v (k8 j v h);exact K6 ⟨rfl,m',hm,i+1,Ha,a1,a2,a3,wa⟩
theorem z1l {env:Env}{prog:K0d}{w:World}{A:Around}{R:Result->Shared->Prop}{s:Shared}{k:Nat}{it acc:Value}(hce:CK ce) (hcl:(clausesOf ce)[k]?=some ⟨tg,iter,ifs,0⟩) (h0:K5u (model prog w) A (.compLoop ce k it acc env) R s)
 (h:wpAny (model prog w) A (pyIter it) (λit' s'=>K5u (model prog w) A (.compLoop ce k it' acc env) R s')
  (Z09 (model prog w) A env λx s'=>R (.error x) s') s) :
 K5u (model prog w) A (.compStart ce k it acc env) R s:=by
 refine K8v ?_;have hu:A.under (.compStart ce k it acc env)=A/\(model prog w).den (.compStart ce k it acc env)=(compStart ce k it acc env).onRaise (λx=>do noteFrame x env;K6j theWindowsPlace):=by
  rcases hce with ⟨_,_,_,_,rfl⟩|⟨_,_,_,_,_,rfl⟩<;>exact⟨rfl,rfl⟩
 rw[hu.1,hu.2];refine wpAny_notedAt ?_;unfold compStart;rw[hcl];show wpAny _ _ (ask >>= _) _ _ s;refine K1 (K3h (wpAny_ite ?_));split
 ·first
   | exact K1 (K6 (K6 (Z0k rfl h0)))
   | exact K6 (Z0k rfl h0)
 ·first
   | exact K1 (K49 (K1 (K52 (K1 (K4a h (λit' s' h'=>K6 (Z0k rfl h')) λ_ _ x=>x)))))
   | (refine K1 (K49 ?_);show wpAny _ _ (K6j iter.pos >>= _) _ _ s;exact K1 (K52 (K1 (K4a h (λit' s' h'=>K6 (Z0k rfl h')) λ_ _ x=>x))))
end
def MkO (mk:Sem Value) (o0:HO):Prop:=∀(X:Cx) (pins:List (Addr×Obj)) (σ:St) (H:Hp) (s:Shared) (E:Value->Shared->Prop) (Q:Value->Shared->Prop),Inv X pins σ H s ->
 (∀s',Inv X pins σ (upd H s.heap.objs.size o0) s'->(∀b o,s.heap.get? b=some o->s'.heap.get? b=some o)->Q (.ref s.heap.objs.size) s')->wpAny (model X.prog X.w) X.A mk Q E s
theorem zx5:MkO (newList []) (.lst []):=λX pins σ H s E Q I h=>by
 refine K12 ?_;exact h _ (I.lnew (ys:=[]) (its:=[]) (t':=s.toks) .nil (K35 _)) λb o e=>K3 _ e
theorem zy0:MkO newDict (.dK []):=λX pins σ H s E Q I h=>by
 refine K12 ?_;exact h _ (I.laid (a:=s.heap.objs.size) (o:=.dK []) (t':=s.toks) (h':=s.heap.push { cls:=.type "dict",dict:=none,data:=.dict #[] }) (λ_ _ q=>K3 _ q) (K01 _) (z7b s.heap I.big)) λb o e=>K3 _ e
structure CmE (ce:Expr) (sc:Scope) (tg iter:Expr) (ifs:List Expr) (mk:Sem Value) (o0:HO) (bd:Addr->Env->Sem Unit) (p:Pos):Prop where
 ck:CK ce
 cl:∃gs,clausesOf ce=⟨tg,iter,ifs,0⟩::gs
 tn:∀it D env,compTurn ce 0 (.ref it) (.ref D) env=z9Y p tg ifs (.ref it) env (bd D env) (.compLoop ce 0 (.ref it) (.ref D) env)
 nw:MkO mk o0
 ev:∀env,∃pp,eval ce env=comprehension ce sc env pp mk false (eval iter env) none
 us:∀env f,∃pp,evalThenUse ce env f=(comprehension ce sc env pp mk false (eval iter env) (some f) >>= λ_=>pure ())
section
variable {X:Cx}{ce elt val tg iter tg1 iter1:Expr}{ifs ifs1:List Expr}{sc:Scope}{pos p p1:Pos}{N':List Str}{cap:List (Option Nat)}{g g1:TG}{wi wi1:TI}{ti ti1:TT}{te tv:TE}{tb tb1:TB}{b1:Sem Unit}{D:Addr}{mk:Sem Value}{o0:HO}{bd:Addr->Env->Sem Unit}{tbd:Addr->TB}
theorem zN2 {pins:List (Addr×Obj)}{σ:St}{H2:Hp}{s2:Shared}{it:Addr}{fp:List Addr}{tn:Nat->Heap->Prop}{J:It}{E:Value->Shared->Prop}{RR:Value->Addr->Result->Shared->Prop}{Q:Addr->Hp->Prop}
 (C:CmE ce sc tg iter ifs mk o0 bd p) (hc:X.calm=true) (S:CS X sc N' cap) (hg:∀s H fp xe,PG (X.comp N' sc s H fp xe) tg g) (ht:∀s H fp xe,PTs (X.comp N' sc s H fp xe) ifs ti) (hb:∀D s H fp xe,PBd (X.comp N' sc s H fp xe) (bd D (X.comp N' sc s H fp xe).env) (tbd D))
 (I2:Inv X pins σ H2 s2) (T:Turn X.prog X.w X.K tg J fp it tn) (st2:tn 0 s2.heap) (f2:∀b∈fp,FpOk X pins H2 b)
 (hq:∀D,H2 D=none->runG g ti (tbd D) (z3B cap σ) J (Q D) (upd H2 D o0))
 (hRR:∀(D:Addr) (s3:Shared) (H3:Hp) (xe:Value->Shared->Prop) (H':Hp) (pins':List (Addr×Obj)) (σ':St) (s':Shared),Inv X pins σ H3 s3->(∀b∈fp,FpOk X pins H3 b)->Inv (X.comp N' sc s3 H3 fp xe) pins' σ' H' s'->Q D H'->RR (.ref D) s3.heap.objs.size (.ok .next) s') :
 wpAny (model X.prog X.w) X.A mk (λacc s3=>wpAny (model X.prog X.w) X.A (newFunctionEnv sc X.env.globals (z0n X.env sc.names []) [] X.env.qual none .none (some X.env)) (λcenv s4 =>
  codeAny (model X.prog X.w) X.A (.compStart ce 0 (.ref it) acc { cenv with scope:=relabel sc X.env }) (RR acc cenv.locals) s4) E s3) E s2:=by
 refine C.nw X pins σ H2 s2 E _ I2 λs3 I3 kp3=>?_;have hfr:H2 s2.heap.objs.size=none:=I2.fresh;have lt2:∀b∈fp,b<s2.heap.objs.size:=λb hb=>by
  obtain⟨o,e,_⟩:=T.obj _ _ st2 b hb;exact K02 e
 generalize s2.heap.objs.size=D at I3 hfr lt2 ⊢;have r0:=hq D hfr;have f3:∀b∈fp,FpOk X pins (upd H2 D o0) b:=λb hb=>⟨by rw[Y3 (K0g (lt2 b hb))];exact(f2 b hb).1,(f2 b hb).2⟩;have st3:tn 0 s3.heap:=T.keep _ _ _ st2 λb hb o e=>kp3 b o e;have lt3:∀b∈fp,b<s3.heap.objs.size:=λb hb=>by
  obtain⟨o,e,_⟩:=T.obj _ _ st3 b hb;exact K02 e
 generalize upd H2 D o0=H3 at I3 r0 f3;refine wpAny_newFunctionEnv S.nocell (λx hx=>absurd hx (by simp)) (λh1 hns hsb=>?_) S.kind;have kp4:∀b o,s3.heap.get? b=some o->h1.get? b=some o:=λb o e=>by
  rw[hsb.2 b (K0g (K02 e))];exact K3 _ e
 have hns':h1.Ns s3.heap.objs.size λ_=>none:=hns;have st4:tn 0 h1:=T.keep _ _ _ st3 λb hb o e=>kp4 b o e;have loop:K5u (model X.prog X.w) X.A (.compLoop ce 0 (.ref it) (.ref D) (compEnvC sc (z0n X.env sc.names []) s3.heap.objs.size X.env))
  (RR (.ref D) s3.heap.objs.size) { s3 with heap:=h1,toks:=s3.toks+([]:List (Str×Value)).length }:=by
  let xe:Value->Shared->Prop:=Z09 (model X.prog X.w) X.A (compEnvC sc (z0n X.env sc.names []) s3.heap.objs.size X.env) λe s'=>RR (.ref D) s3.heap.objs.size (.error e) s';have I4:Inv (X.comp N' sc s3 H3 fp xe) [] (z3B cap σ) H3 { s3 with heap:=h1,toks:=s3.toks+([]:List (Str×Value)).length }:=I3.compIn S f3 lt3 hns' kp4;exact zS4 (X:=X.comp N' sc s3 H3 fp xe) (C.tn _ _ _) C.ck hc (hg s3 H3 fp _) (ht s3 H3 fp _) (hb D s3 H3 fp _) I4 T st4 (λb hb=>by
   obtain⟨q1,q2⟩:=I4.ok.exf b hb;exact⟨(f3 b hb).1,q1,I4.ok.exfs b hb,.inl hb,q2,λp hp=>absurd (show p∈([]:List (Addr×Obj)) from hp) (by simp)⟩) r0 λs' H' I' q=>hRR D s3 H3 xe H' [] _ s' I3 f3 I' q
 obtain⟨gs,cl⟩:=C.cl;exact z1l C.ck (by rw[cl];rfl) loop (T.self _ 0 _ _ _ st4 loop)
def tCm (o0:HO) (cap:List (Option Nat)) (wi:TI) (g:TG) (ti:TT) (tbd:Addr->TB):TE:=λσ H Q=>wi σ H λJ H1=>∀D,H1 D=none->runG g ti (tbd D) (z3B cap σ) J (λH'=>Q (.ref D) H') (upd H1 D o0)
theorem zQ8 (C:CmE ce sc tg iter ifs mk o0 bd p) (hc:X.calm=true) (S:CS X sc N' cap) (hi:PI X tg iter wi) (hg:∀s H fp xe,PG (X.comp N' sc s H fp xe) tg g) (ht:∀s H fp xe,PTs (X.comp N' sc s H fp xe) ifs ti)
 (hb:∀D s H fp xe,PBd (X.comp N' sc s H fp xe) (bd D (X.comp N' sc s H fp xe).env) (tbd D)) (hs:∀x,K24 iter X.env x=pure x):PE X ce (tCm o0 cap wi g ti tbd):=by
 intro pins s σ H Q I h;obtain⟨pp,ev⟩:=C.ev X.env;obtain⟨gs,cl⟩:=C.cl;rw[ev];refine K7v (use:=none) cl hs (z2J (S.cells I)) S.kind S.loc (thn (hi pins s σ H _ I h) λv s1 h1=>thn h1 λitv s2 h2=>?_);obtain⟨it,fp,tn,J,H2,e,I2,T,st2,f2,rq⟩:=h2;subst e;refine zN2 (RR:=λacc C=>compPost (model X.prog X.w) X.A X.xe none (EP X pins σ Q) acc C) (Q:=λD H'=>Q (.ref D) H') C hc S hg ht hb I2 T st2 f2 rq ?_;intro D s3 H3 xe H' pins' σ' s' I3 f3 J3 q;obtain⟨m,hn,_⟩:=id J3.loc;exact⟨m,hn,λh' hs=>⟨.ref D,H',I3.compOut f3 J3 hs,rfl,q⟩⟩
def sCm (o0:HO) (cap:List (Option Nat)) (wi:TI) (g:TG) (ti:TT) (tbd:Addr->TB) (i:Nat):TS:=λD σ H=>wi σ H λJ H1=>∀d,H1 d=none->runG g ti (tbd d) (z3B cap σ) J (λH'=>D.nx (σ.set i (.(r d))) H') (upd H1 d o0)
theorem zT8 {y:Str}{py spos:Pos}{i:Nat}(C:CmE ce sc tg iter ifs mk o0 bd p) (hc:X.calm=true) (S:CS X sc N' cap) (hi:PI X tg iter wi) (hg:∀s H fp xe,PG (X.comp N' sc s H fp xe) tg g) (ht:∀s H fp xe,PTs (X.comp N' sc s H fp xe) ifs ti)
 (hb:∀D s H fp xe,PBd (X.comp N' sc s H fp xe) (bd D (X.comp N' sc s H fp xe).env) (tbd D)) (hN:X.N.Nodup) (hy:X.N[i]?=some y) (hl:X.env.scope.names.lookup y=some .local)
 (hsw:K2i ce (some (.Name y py)) spos.line X.env=pure true) (hs:∀x,K24 iter X.env x=pure x):PS X (.Assign [.Name y py] ce spos) (sCm o0 cap wi g ti tbd i):=by
 intro pins s σ H D I h;rw[exec_Assign_Name_used _ _ _ _ hsw];obtain⟨pp,us⟩:=C.us X.env (assign (.Name y py) X.env);obtain⟨gs,cl⟩:=C.cl;rw[us];refine K1 (K52 (K1 ?_));refine K1 (K4a (K7v (use:=some (assign (.Name y py) X.env)) (Q:=λ_ s'=>SP X pins D .next s') cl hs (z2J (S.cells I)) S.kind S.loc
  (thn (hi pins s σ H _ I h) λv s1 h1=>thn h1 λitv s2 h2=>?_)) (λ_ s' hq=>K6 (K6 hq)) λ_ _ z=>z)
 obtain⟨it,fp,tn,J,H2,e,I2,T,st2,f2,rq⟩:=h2;subst e;refine zN2 (RR:=λacc C=>compPost (model X.prog X.w) X.A X.xe (some (assign (.Name y py) X.env)) (λ_ s'=>SP X pins D .next s') acc C) (Q:=λd H'=>D.nx (σ.set i (.(r d))) H') C hc S hg ht hb I2 T st2 f2 rq ?_;intro d s3 H3 xe H' pins' σ' s' I3 f3 J3 q;obtain⟨m,hn,_⟩:=id J3.loc;have Is:Inv X pins σ H' s':=I3.compOut (h':=s'.heap) f3 J3 (Z02 _ _);obtain⟨oC,es,ep,hoC,hdC,hrC⟩:=id hn;have hC:H' s3.heap.objs.size=none:=J3.free;have neL:s3.heap.objs.size≠X.env.locals:=K2d I3.lt;have nfs:s3.heap.objs.size∉X.fs:=I3.nofs (K01 _);have Ip:Inv X (pins++[(s3.heap.objs.size,oC)]) σ H' s':=Is.pins_of λp hp=>by
  rcases K0n.mp hp with z|z
  ·exact Is.pin p (K11 _ z)
  ·obtain rfl:p=(s3.heap.objs.size,oC):=by simpa using z
   exact⟨hoC,hC,neL,nfs,λv hv=>by have hdC':oC.data=_:=hdC;rw[hdC']at hv;cases hv⟩
 show wpAny _ X.A (assign (.Name y py) X.env (.ref d)) _ _ s';refine thn (z5T (X:=X) (i:=i) hN hy (.inl hl) (.inr hl) _ s' σ H' (.ref d) (.ref d) (λσ2 H2=>D.nx σ2 H2) Ip rfl q) λ_ s4 ⟨σ4,H4,I4,q4⟩=>?_;have pn:=I4.pin (s3.heap.objs.size,oC) (K11 _ (K11 _ (by simp)));refine⟨m,⟨oC,es,ep,pn.1,hdC,hrC⟩,λh' hs=>⟨σ4,H4,?_,q4⟩⟩;have I4u:Inv X pins σ4 H4 s4:=I4.unpinned;have st:=I4u.step (g':=s4.gens) (t':=s4.toks) (d':=s4.drawn) (h':=h') (H':=H4) (ch:=[s3.heap.objs.size]) (λb hb=>?_) (λb o _ _ hc e _=>(hs.2 b (by simpa using hc)).trans e)
  (λb o _ _ hc e _=>⟨o.slots,(hs.2 b (by simpa using hc)).trans e⟩) (λ_ _ _ _ n=>n) (λb o hc e=>⟨o,(hs.2 b (by simpa using hc)).trans e⟩) (λ_ _ e=>e) (λ_ _ _ e=>e) (λb ps e=>⟨#[],by rw[e];simp⟩) (λm hm=>?_) (λb u e=>?_) I4u.bare
 ·exact st
 ·have e:b=s3.heap.objs.size:=by simpa using hb
  subst e;refine⟨.inr I3.sz,neL,λx c e2 z=>?_,λp hp z=>?_⟩
  ·obtain⟨v,q2⟩:=I3.cell x c e2;exact absurd q2.lt (by rw[z];exact K2k _)
  ·have e3:=(I3.pin p hp).1;exact absurd (K02 e3) (by rw[z];exact K2k _)
 ·obtain⟨o,es',ep',ho',r'⟩:=hm;exact⟨o,es',ep',(hs.2 _ (K4u neL)).trans ho',r'⟩
 ·refine(I4u.hok b u e).stay (λc v hc q=>?_) (λ_ q=>q) λ_ _ q=>q;have n4:H4 s3.heap.objs.size=none:=pn.2.1;have ne:c≠s3.heap.objs.size:=by
   rintro rfl;rcases hc with z|z
   ·rw[<- z,n4]at e;cases e
   ·rw[n4]at z;cases z
  exact(hs.2 c ne).trans q
def bApp (te:TE) (D:Addr):TB:=λσ H Q=>te σ H λv H4=>∃acc,H4 D=.(l acc)/\acc.length<sizeLine/\Q (upd H4 D (.lst (acc++[v])))
theorem zA0 (he:PE X elt te):PBd X (do let _ <- call (.builtin "list.append") [.ref D,<- eval elt X.env]) (bApp te D):=λpins s σ H Q I h=>by
 refine K1 (thn (he pins s σ H _ I h) λv sa ⟨y,Ha,Ia,ra,acc,ea,za,q⟩=>?_);refine K1 (thn (z5g (X:=X) _ sa σ Ha (.ref D) [y] (.ref D) [v] (λ_ H'=>H'=upd Ha D (.lst (acc++[y]))) Ia rfl (.cons ra .nil) ⟨D,acc,y,rfl,rfl,ea,za,rfl⟩) λ_ sb ⟨_,Hb,Ib,_,eb⟩=>K6 ?_);subst eb;exact⟨σ,_,Ib,λ_ _ h=>h,q⟩
theorem za0 {pins:List (Addr×Obj)}{σ:St}{H:Hp}{s:Shared}{a:Addr}{kvs:List (Key×V)}{k:Key}{v:V}{u r:Value}{A:Around}{E:Value->Shared->Prop}{Q:Unit->Shared->Prop}
 (I:Inv X pins σ H s) (e:H a=some (.dK kvs)) (l:kvs.length<sizeLine) (ry:RelV (kV k) u) (rv:RelV v r) (h:∀s',Inv X pins σ (upd H a (.dK (putK kvs k v))) s'->Q () s') :
 wpAny (model X.prog X.w) A (dictSet a u r) Q E s:=by
 obtain⟨z,hd,vs,rel,dd⟩:=zF0 I.hok e;have hz:vs.length<=sizeLine:=by rw[<- rel.length];exact z
 have hl:(putK kvs k v).length<=sizeLine:=by have:=z1V kvs k v;omega
 refine K9j (hsz:=hz) (z7A ry) dd λh' dd' hs=>h _ ?_;have he:∃q,h'.get? a=some q:=let ⟨q,_,_,hq,_⟩:=dd';⟨q,hq⟩;exact z6h I (by rw[e];exact K48) hs he (z96 hl hd (rel.put k rv) dd')
def bPut (te tv:TE) (D:Addr):TB:=λσ H Q=>te σ H λy H4=>tv σ H4 λv H5=>∃k kvs,y=kV k/\H5 D=some (.dK kvs)/\kvs.length<sizeLine/\Q (upd H5 D (.dK (putK kvs k v)))
theorem zn6 (he:PE X elt te) (hv:PE X val tv):PBd X (do
 let kv <- eval elt X.env;let vv <- K41 [kv] (eval val X.env)
 K6j { elt.pos with endLine:=val.pos.endLine,endCol:=val.pos.endCol }
 K41 [kv,vv] (dictSet D kv vv)) (bPut te tv D):=λpins s σ H Q I h=>by
 refine K1 (thn (he pins s σ H _ I h) λkv sa ⟨y,Ha,Ia,ra,qa⟩=>?_);refine K1 (K1u (thn (hv pins sa σ Ha _ Ia qa) λvv sb ⟨z,Hb,Ib,rb,kk,kvs,ey,eb,zb,q⟩=>?_));subst ey;exact K1 (K52 (K1u (za0 Ib eb zb ra rb λs' I'=>⟨σ,_,I',λ_ _ h=>h,q⟩)))
end
theorem zA8 {elt tg iter:Expr}{ifs:List Expr}{sc:Scope}{pos:Pos}:CmE (.ListComp elt [⟨tg,iter,ifs,0⟩] sc pos) sc tg iter ifs (newList []) (.lst []) (λD env=>do let _ <- call (.builtin "list.append") [.ref D,<- eval elt env]) iter.pos :=
 ⟨.inl ⟨_,_,_,_,rfl⟩,⟨_,rfl⟩,λ_ _ _=>rfl,zx5,λ_=>⟨_,rfl⟩,λ_ _=>⟨_,rfl⟩⟩
theorem zt6 {elt val tg iter:Expr}{ifs:List Expr}{sc:Scope}{pos:Pos}:CmE (.DictComp elt val [⟨tg,iter,ifs,0⟩] sc pos) sc tg iter ifs newDict (.dK []) (λD env=>do
 let kv <- eval elt env;let vv <- K41 [kv] (eval val env)
 K6j { elt.pos with endLine:=val.pos.endLine,endCol:=val.pos.endCol }
 K41 [kv,vv] (dictSet D kv vv)) iter.pos :=
 ⟨.inr ⟨_,_,_,_,_,rfl⟩,⟨_,rfl⟩,λ_ _ _=>rfl,zy0,λ_=>⟨_,rfl⟩,λ_ _=>⟨_,rfl⟩⟩
open PySem
def excO (a C:Addr):HO:=.ext λh=>∃o,h.get? a=some o/\o.cls=.ref C
def dctO (a:Addr):HO:=.ext λh=>∃o,h.get? a=some o/\o.cls=.type "dict"
end L2
namespace FT
inductive D where
 | non|bl (b:Bool)|int (i:Int)|str (x:Str)|tup (xs:List D)|fl (xs:List D)|ref (n:Nat)
inductive O where
 | lst (xs:List D)
 | set (ks:List Key)
 | dct
 | dK (kvs:List (Key×D))
 | dF (kvs:List (Key×D))
 | exc (c:Str)
abbrev AH:=List O
abbrev G:=List (Option D)
structure Exn where
 cls:Str
 fs:List (Str×D)
inductive Res (α:Type) where
 | ok (a:α) (h:AH)|err (x:Exn) (h:AH)|bad
abbrev M (α:Type):=AH->Res α
def M.pure {α:Type} (a:α):M α:=λh=>.ok a h
def M.bind {α β:Type} (m:M α) (f:α->M β):M β:=λh=>match m h with
 | .ok a h1=>f a h1
 | .err x h1=>.err x h1
 | .bad=>.bad
instance:Monad M where
 pure:=M.pure
 bind:=M.bind
def bad {α:Type}:M α:=λ_=>.bad
theorem M.bind_eq {α β:Type}(m:M α) (f:α->M β) (h:AH):(m >>= f) h=match m h with
 | .ok a h1=>f a h1
 | .err x h1=>.err x h1
 | .bad=>.bad:=rfl
theorem M.bind_ok {α β:Type}{m:M α}{f:α->M β}{h h1:AH}{a:α}(e:m h=.ok a h1):(m >>= f) h=f a h1:=by rw[M.bind_eq,e]
def SqLP (K:K2) (H:Hp) (a:Addr) (xs:List V):Prop :=
 (∃o,H a=some (.frz o (.lst xs))) \/
  ∃(o:Obj) (its:Array Value) (n:Nat),K.lookup a=some o/\o.cls=.type "list"/\o.dict=none/\o.data=.seq its n/\its.size<=sizeLine/\Vals xs its.toList
theorem SqLP.sq {K:K2}{H:Hp}{a:Addr}{xs:List V}(h:SqLP K H a xs):SqL K H a xs:=by
 rcases h with ⟨o,h⟩|h
 ·exact .inl (.inr ⟨o,h⟩)
 ·exact .inr h
mutual
def RD (K:K2) (ρ:List Addr) (H:Hp):D->V->Prop
 | .non,v=>v=.non
 | .bl b,v=>v=.bl b
 | .int i,v=>v=.int i
 | .str x,v=>v=.str x
 | .tup ds,v=>∃a xs,v=.ref a/\SqT K H a xs/\RDs K ρ H ds xs
 | .fl ds,v=>∃a xs,v=.ref a/\SqLP K H a xs/\RDs K ρ H ds xs
 | .ref n,v=>∃a,v=.ref a/\ρ[n]?=some a
def RDs (K:K2) (ρ:List Addr) (H:Hp):List D->List V->Prop
 | [],xs=>xs=[]
 | d::ds,xs=>∃x r,xs=x::r/\RD K ρ H d x/\RDs K ρ H ds r
end
def Pre (ρ ρ':List Addr):Prop:=∀(n:Nat) a,ρ[n]?=some a->ρ'[n]?=some a
theorem Pre.refl (ρ:List Addr):Pre ρ ρ:=λ_ _ h=>h
theorem Pre.trans {a b c:List Addr}(x:Pre a b) (y:Pre b c):Pre a c:=λn z h=>y n z (x n z h)
theorem Pre.app (ρ r:List Addr):Pre ρ (ρ++r):=λn a h=>by
 rw[K0w (K7.mp h).1];exact h
structure Ext (K:K2) (H H':Hp):Prop where
 t:∀a xs,SqT K H a xs->SqT K H' a xs
 l:∀a xs,SqLP K H a xs->SqLP K H' a xs
 d:∀a o vs,H a=some (.frz o (.dK vs))->H' a=some (.frz o (.dK vs))
theorem Ext.refl (K:K2) (H:Hp):Ext K H H:=⟨λ_ _ h=>h,λ_ _ h=>h,λ_ _ _ h=>h⟩
theorem Ext.trans {K:K2}{a b c:Hp}(x:Ext K a b) (y:Ext K b c):Ext K a c:=⟨λz xs h=>y.t z xs (x.t z xs h),λz xs h=>y.l z xs (x.l z xs h),λz o vs h=>y.d z o vs (x.d z o vs h)⟩
def Trk:HO->Prop
 | .lst _=>True
 | .set _=>True
 | .ext _=>True
 | .dK _=>True
 | _=>False
theorem Ext.upd {K:K2}{H:Hp}{p:Addr}{o:HO}(h:H p=none\/∃u,H p=some u/\Trk u):Ext K H (upd H p o):=by
 have ne:∀{b:Addr} {u:HO},H b=some u->¬ Trk u->b≠p:=λ{b u} e n z=>by
  subst z;rcases h with h|⟨u',h,tr⟩
  ·rw[h]at e;cases e
  ·rw[h]at e;cases e;exact n tr
 refine⟨λa xs q=>?_,λa xs q=>?_,λa o vs q=>by rw[Y3 (ne q (λz=>z))];exact q⟩
 ·rcases q with (q|⟨u,q⟩)|q
  ·exact .inl (.inl (by rw[Y3 (ne q (λz=>z))];exact q))
  ·exact .inl (.inr ⟨u,by rw[Y3 (ne q (λz=>z))];exact q⟩)
  ·exact .inr q
 ·rcases q with ⟨u,q⟩|q
  ·exact .inl ⟨u,by rw[Y3 (ne q (λz=>z))];exact q⟩
  ·exact .inr q
section
variable {K:K2}{ρ ρ':List Addr}{H H':Hp}
mutual
theorem RD.mono (p:Pre ρ ρ') (e:Ext K H H'):∀{d:D}{v:V},RD K ρ H d v->RD K ρ' H' d v
 | .non,v,h=>by simpa [RD] using h
 | .bl b,v,h=>by simpa [RD] using h
 | .int b,v,h=>by simpa [RD] using h
 | .str b,v,h=>by simpa [RD] using h
 | .tup ds,v,h=>by
  simp only[RD]at h ⊢;obtain⟨a,xs,h1,h2,h3⟩:=h;exact⟨a,xs,h1,e.t a xs h2,RDs.mono p e h3⟩
 | .fl ds,v,h=>by
  simp only[RD]at h ⊢;obtain⟨a,xs,h1,h2,h3⟩:=h;exact⟨a,xs,h1,e.l a xs h2,RDs.mono p e h3⟩
 | .ref n,v,h=>by
  simp only[RD]at h ⊢;obtain⟨a,h1,h2⟩:=h;exact⟨a,h1,p n a h2⟩
theorem RDs.mono (p:Pre ρ ρ') (e:Ext K H H'):∀{ds:List D}{xs:List V},RDs K ρ H ds xs->RDs K ρ' H' ds xs
 | [],xs,h=>by simpa [RDs] using h
 | d::ds,xs,h=>by
  simp only[RDs]at h ⊢;obtain⟨x,r,h1,h2,h3⟩:=h;exact⟨x,r,h1,RD.mono p e h2,RDs.mono p e h3⟩
end
theorem RDs.nil:RDs K ρ H [] []:=by simp[RDs]
theorem RDs.cons {d:D}{ds:List D}{x:V}{xs:List V}(h:RD K ρ H d x) (t:RDs K ρ H ds xs):RDs K ρ H (d::ds) (x::xs):=by
 simp only[RDs];exact⟨x,xs,rfl,h,t⟩
theorem RDs.pair:∀{ds:List D}{xs:List V},RDs K ρ H ds xs->Paired (RD K ρ H) ds xs
 | [],xs,h=>by simp only[RDs]at h;subst h;exact .nil
 | d::ds,xs,h=>by
  simp only[RDs]at h;obtain⟨x,r,rfl,h2,h3⟩:=h;exact .cons h2 h3.pair
theorem RDs.length {ds:List D}{xs:List V}(h:RDs K ρ H ds xs):ds.length=xs.length:=K3w h.pair
theorem RDs.append {a b:List D}{xs ys:List V}(h:RDs K ρ H a xs) (t:RDs K ρ H b ys):RDs K ρ H (a++b) (xs++ys):=by
 induction a generalizing xs with
 | nil=>simp only[RDs]at h;subst h;exact t
 | cons d ds ih =>
  simp only[RDs]at h;obtain⟨x,r,rfl,h2,h3⟩:=h;exact RDs.cons h2 (ih h3)
theorem RDs.get {ds:List D}{xs:List V}{i:Nat}{d:D}(h:RDs K ρ H ds xs) (e:ds[i]?=some d):∃x,xs[i]?=some x/\RD K ρ H d x:=by
 induction ds generalizing xs i with
 | nil=>simp at e
 | cons a ds ih =>
  simp only[RDs]at h;obtain⟨x,r,rfl,h2,h3⟩:=h;cases i with
  | zero=>simp at e;subst e;exact⟨x,rfl,h2⟩
  | succ i =>
   obtain⟨y,h4,h5⟩:=ih h3 (by simpa using e);exact⟨y,by simpa using h4,h5⟩
theorem RDs.getV {ds:List D}{xs:List V}{i:Nat}{x:V}(h:RDs K ρ H ds xs) (e:xs[i]?=some x):∃d,ds[i]?=some d/\RD K ρ H d x:=by
 have hl:=h.length;have hi:=(K7.mp e).1;obtain⟨y,h1,h2⟩:=h.get (K5 (l:=ds) (i:=i) (by omega));rw[e]at h1;cases h1;exact⟨_,K5 (by omega),h2⟩
theorem RDs.drop {ds:List D}{xs:List V}(n:Nat) (h:RDs K ρ H ds xs):RDs K ρ H (ds.drop n) (xs.drop n):=by
 induction n generalizing ds xs with
 | zero=>exact h
 | succ n ih=>cases ds with
  | nil=>simp only[RDs]at h;subst h;exact RDs.nil
  | cons d ds=>simp only[RDs]at h;obtain⟨x,r,rfl,h2,h3⟩:=h;exact ih h3
theorem RDs.take {ds:List D}{xs:List V}(n:Nat) (h:RDs K ρ H ds xs):RDs K ρ H (ds.take n) (xs.take n):=by
 induction n generalizing ds xs with
 | zero=>exact RDs.nil
 | succ n ih=>cases ds with
  | nil=>simp only[RDs]at h;subst h;exact RDs.nil
  | cons d ds=>simp only[RDs]at h;obtain⟨x,r,rfl,h2,h3⟩:=h;exact RDs.cons h2 (ih h3)
theorem RDs.set {ds:List D}{xs:List V}{d:D}{x:V}(n:Nat) (h:RDs K ρ H ds xs) (hd:RD K ρ H d x):RDs K ρ H (ds.set n d) (xs.set n x):=by
 induction n generalizing ds xs with
 | zero=>cases ds with
  | nil=>simp only[RDs]at h;subst h;exact RDs.nil
  | cons a ds=>simp only[RDs]at h;obtain⟨y,r,rfl,h2,h3⟩:=h;exact RDs.cons hd h3
 | succ n ih=>cases ds with
  | nil=>simp only[RDs]at h;subst h;exact RDs.nil
  | cons a ds=>simp only[RDs]at h;obtain⟨y,r,rfl,h2,h3⟩:=h;exact RDs.cons h2 (ih h3)
theorem RDs.eraseIdx {ds:List D}{xs:List V}(n:Nat) (h:RDs K ρ H ds xs):RDs K ρ H (ds.eraseIdx n) (xs.eraseIdx n):=by
 induction n generalizing ds xs with
 | zero=>cases ds with
  | nil=>simp only[RDs]at h;subst h;exact RDs.nil
  | cons a ds=>simp only[RDs]at h;obtain⟨y,r,rfl,h2,h3⟩:=h;exact h3
 | succ n ih=>cases ds with
  | nil=>simp only[RDs]at h;subst h;exact RDs.nil
  | cons a ds=>simp only[RDs]at h;obtain⟨y,r,rfl,h2,h3⟩:=h;exact RDs.cons h2 (ih h3)
theorem RDs.flat {ds:List D}{xs:List V}(n:Nat) (h:RDs K ρ H ds xs):RDs K ρ H (K0l n ds).flatten (K0l n xs).flatten:=by
 induction n with
 | zero=>exact RDs.nil
 | succ n ih=>rw[K2s,K3s,K2s,K3s];exact h.append ih
def RK (K:K2) (ρ:List Addr) (H:Hp):List (Key×D)->List (Key×V)->Prop:=Paired λp q=>p.1=q.1/\RD K ρ H p.2 q.2
theorem RK.imp {α β:Type}{P Q:α->β->Prop}(f:∀a b,P a b->Q a b):∀{xs:List α}{ys:List β},Paired P xs ys->Paired Q xs ys
 | _,_,.nil=>.nil
 | _,_,.cons a b=>.cons (f _ _ a) (RK.imp f b)
theorem RK.mono {kvs:List (Key×D)}{vs:List (Key×V)}(p:Pre ρ ρ') (e:Ext K H H') (r:RK K ρ H kvs vs):RK K ρ' H' kvs vs:=RK.imp (λ_ _ h=>⟨h.1,h.2.mono p e⟩) r
def RO (K:K2) (ρ:List Addr) (H:Hp) (o:O) (a:Addr):Prop:=match o with
 | .lst ds=>∃xs,H a=.(l xs)/\RDs K ρ H ds xs
 | .set ks=>H a=some (.set ks)
 | .dct=>H a=some (dctO a)
 | .dK kvs=>∃vs,H a=some (.dK vs)/\RK K ρ H kvs vs
 | .dF kvs=>∃ob vs,H a=some (.frz ob (.dK vs))/\RK K ρ H kvs vs
 | .exc c=>∃C,K2a K K1x c=some (.(r C))/\H a=some (excO a C)
structure RH (K:K2) (ρ:List Addr) (h:AH) (H:Hp):Prop where
 len:ρ.length=h.length
 nd:∀(i j:Nat) a,ρ[i]?=some a->ρ[j]?=some a->i=j
 obj:∀(n:Nat) o a,h[n]?=some o->ρ[n]?=some a->RO K ρ H o a
theorem RH.at {h:AH}(r:RH K ρ h H) {n:Nat}{o:O}(e:h[n]?=some o):∃a,ρ[n]?=some a/\RO K ρ H o a:=by
 have hi:=(K7.mp e).1;have hj:n<ρ.length:=by rw[r.len];exact hi
 have q:ρ[n]?=some ρ[n]:=K5 hj;exact⟨_,q,r.obj n o _ e q⟩
def O.fz:O->Bool
 | .dF _=>true
 | _=>false
theorem RO.there {o:O}{a:Addr}(z:RO K ρ H o a):∃u,H a=some u/\(o.fz=false->Trk u):=by
 cases o with
 | lst ds=>obtain⟨xs,z,_⟩:=z;exact⟨_,z,λ_=>trivial⟩
 | set ks=>exact⟨_,z,λ_=>trivial⟩
 | dct=>exact⟨_,z,λ_=>trivial⟩
 | dK kvs=>obtain⟨vs,z,_⟩:=z;exact⟨_,z,λ_=>trivial⟩
 | dF kvs=>obtain⟨ob,vs,z,_⟩:=z;exact⟨_,z,λq=>by cases q⟩
 | exc c=>obtain⟨C,_,z⟩:=z;exact⟨_,z,λ_=>trivial⟩
theorem RH.there {h:AH}(r:RH K ρ h H) {n:Nat}{a:Addr}(e:ρ[n]?=some a):∃u,H a=some u:=by
 have hi:=(K7.mp e).1;have hj:n<h.length:=by rw[<- r.len];exact hi
 obtain⟨u,z,_⟩:=(r.obj n _ a (K5 hj) e).there;exact⟨u,z⟩
theorem RH.tracked {h:AH}(r:RH K ρ h H) {n:Nat}{a:Addr}{o:O}(e:ρ[n]?=some a) (eo:h[n]?=some o) (nf:o.fz=false:=by rfl):∃u,H a=some u/\Trk u:=by
 obtain⟨u,z,q⟩:=(r.obj n _ a eo e).there;exact⟨u,z,q nf⟩
theorem RO.mono {o:O}{a:Addr}(p:Pre ρ ρ') (e:Ext K H H') (hs:H' a=H a) (r:RO K ρ H o a):RO K ρ' H' o a:=by
 cases o with
 | lst ds=>obtain⟨xs,h1,h2⟩:=r;exact⟨xs,hs.trans h1,h2.mono p e⟩
 | set ks=>exact hs.trans r
 | dct=>exact hs.trans r
 | dK kvs=>obtain⟨vs,h1,h2⟩:=r;exact⟨vs,hs.trans h1,h2.mono p e⟩
 | dF kvs=>obtain⟨ob,vs,h1,h2⟩:=r;exact⟨ob,vs,hs.trans h1,h2.mono p e⟩
 | exc c=>obtain⟨C,h1,h2⟩:=r;exact⟨C,h1,hs.trans h2⟩
theorem RH.other {h:AH}{p:Addr}{o:HO}(r:RH K ρ h H) (hp:H p=none):RH K ρ h (upd H p o) :=
 ⟨r.len,r.nd,λn u a h1 h2=>(r.obj n u a h1 h2).mono (Pre.refl _) (Ext.upd (.inl hp)) (by
  obtain⟨u,q⟩:=r.there h2;exact Y3 (Y8 q hp))⟩
theorem RH.pushO {h:AH}{p:Addr}{o':O}{u:HO}(r:RH K ρ h H) (hp:H p=none) (hd:RO K (ρ++[p]) (upd H p u) o' p):RH K (ρ++[p]) (h++[o']) (upd H p u):=by
 have ne:∀{n:Nat} {a:Addr},ρ[n]?=some a->a≠p:=λe=>by
  obtain⟨xs,q⟩:=r.there e;exact Y8 q hp
 have ext:Ext K H (L2.upd H p u):=Ext.upd (.inl hp);refine⟨by simp[r.len],λi j a h1 h2=>?_,λn o a h1 h2=>?_⟩
 ·rw[K3t]at h1 h2;split at h1<;>split at h2
  ·exact r.nd i j a h1 h2
  ·rename_i hi hj;rw[K1r]at h2;split at h2
   ·cases h2;exact absurd rfl (ne h1)
   ·cases h2
  ·rename_i hi hj;rw[K1r]at h1;split at h1
   ·cases h1;exact absurd rfl (ne h2)
   ·cases h1
  ·rename_i hi hj;rw[K1r]at h1 h2;split at h1
   ·split at h2
    ·omega
    ·cases h2
   ·cases h1
 ·rw[K3t]at h1 h2;rw[r.len]at h2;split at h1
  ·rename_i hn;rw[if_pos hn]at h2;exact(r.obj n o a h1 h2).mono (Pre.app _ _) ext (Y3 (ne h2))
  ·rename_i hn;rw[if_neg hn]at h2;rw[K1r]at h1 h2;split at h1
   ·rename_i h0;rw[if_pos h0]at h2;cases h1;cases h2;exact hd
   ·cases h1
theorem RH.push {h:AH}{p:Addr}{ds:List D}{xs:List V}(r:RH K ρ h H) (hp:H p=none) (hd:RDs K ρ H ds xs):RH K (ρ++[p]) (h++[.lst ds]) (upd H p (.lst xs)) :=
 r.pushO hp ⟨xs,z02,hd.mono (Pre.app _ _) (Ext.upd (.inl hp))⟩
theorem RH.pushS {h:AH}{p:Addr}{ks:List Key}(r:RH K ρ h H) (hp:H p=none):RH K (ρ++[p]) (h++[.set ks]) (upd H p (.set ks)):=r.pushO hp z02
theorem RH.setO {h:AH}{n:Nat}{a:Addr}{o0 o':O}{u:HO}(r:RH K ρ h H) (e:h[n]?=some o0) (ea:ρ[n]?=some a) (hd:RO K ρ (upd H a u) o' a) (nf:o0.fz=false:=by rfl):RH K ρ (h.set n o') (upd H a u):=by
 have ext:Ext K H (L2.upd H a u):=Ext.upd (.inr (r.tracked ea e nf));refine⟨by simp[r.len],r.nd,λm o b h1 h2=>?_⟩;by_cases hm:m=n
 ·subst hm;rw[ea]at h2;cases h2;have hi:=(K7.mp e).1;rw[K1a hi]at h1;cases h1;exact hd
 ·rw[K1f (λz=>hm z.symm)]at h1;exact(r.obj m o b h1 h2).mono (Pre.refl _) ext (Y3 λz=>hm (r.nd m n b h2 (by rw[z];exact ea)))
theorem RH.set {h:AH}{n:Nat}{a:Addr}{ds0 ds:List D}{xs:List V}(r:RH K ρ h H) (e:h[n]?=.(l ds0)) (ea:ρ[n]?=some a) (hd:RDs K ρ H ds xs):RH K ρ (h.set n (.lst ds)) (upd H a (.lst xs)) :=
 r.setO e ea ⟨xs,z02,hd.mono (Pre.refl _) (Ext.upd (.inr (r.tracked ea e)))⟩
structure RG (K:K2) (ρ:List Addr) (H:Hp) (γ:G) (σ:L2.St):Prop where
 len:γ.length=σ.length
 var:∀(i:Nat) d,γ[i]?=some (some d)->∃v,σ[i]?=some (some v)/\RD K ρ H d v
theorem RG.mono {γ:G}{σ:L2.St}(p:Pre ρ ρ') (e:Ext K H H') (r:RG K ρ H γ σ):RG K ρ' H' γ σ :=
 ⟨r.len,λi d h=>let ⟨v,h1,h2⟩:=r.var i d h;⟨v,h1,h2.mono p e⟩⟩
theorem RG.set {γ:G}{σ:L2.St}{d:D}{v:V}(r:RG K ρ H γ σ) (i:Nat) (hd:RD K ρ H d v):RG K ρ H (γ.set i (some d)) (σ.set i (some v)):=by
 refine⟨by simp[r.len],λj d' h=>?_⟩;by_cases hj:i=j
 ·subst hj;have hi:i<γ.length:=by
   have:=(K7.mp h).1;simpa using this
  rw[K1a hi]at h;cases h;exact⟨v,K1a (by rw[<- r.len];exact hi),hd⟩
 ·rw[K1f hj]at h ⊢;exact r.var j d' h
structure Rel (K:K2) (ρ:List Addr) (γ:G) (h:AH) (σ:L2.St) (H:Hp):Prop where
 g:RG K ρ H γ σ
 h:RH K ρ h H
abbrev XX:=Exn->List Addr->AH->Hp->Prop
def Fin {α:Type} (K:K2) (EX:XX) (ρ:List Addr) (H:Hp) (P:α->List Addr->AH->Hp->Prop):Res α->Prop
 | .ok a h'=>∀ρ' H',Pre ρ ρ'->Ext K H H'->RH K ρ' h' H'->P a ρ' h' H'
 | .err x h'=>∀ρ' H',Pre ρ ρ'->Ext K H H'->RH K ρ' h' H'->EX x ρ' h' H'
 | .bad=>False
variable {EX:XX}{α β:Type}
theorem Fin.up {P:α->List Addr->AH->Hp->Prop}{r:Res α}(p:Pre ρ ρ') (e:Ext K H H') (f:Fin K EX ρ H P r):Fin K EX ρ' H' P r:=by
 cases r with
 | ok a h=>exact λρ2 H2 p2 e2 r2=>f ρ2 H2 (p.trans p2) (e.trans e2) r2
 | err x h=>exact λρ2 H2 p2 e2 r2=>f ρ2 H2 (p.trans p2) (e.trans e2) r2
 | bad=>exact f
theorem Fin.mono {P P':α->List Addr->AH->Hp->Prop}{r:Res α}(f:Fin K EX ρ H P r) (h:∀a ρ' h' H',Pre ρ ρ'->Ext K H H'->RH K ρ' h' H'->P a ρ' h' H'->P' a ρ' h' H'):Fin K EX ρ H P' r:=by
 cases r with
 | ok a h1=>exact λρ2 H2 p2 e2 r2=>h a ρ2 h1 H2 p2 e2 r2 (f ρ2 H2 p2 e2 r2)
 | err x h1=>exact f
 | bad=>exact f
theorem Fin.bind {P:β->List Addr->AH->Hp->Prop}{m:M α}{f:α->M β}{h:AH}(z:Fin K EX ρ H P ((m >>= f) h)):Fin K EX ρ H (λa ρ1 h1 H1=>Fin K EX ρ1 H1 P (f a h1)) (m h):=by
 rw[M.bind_eq]at z;cases e:m h with
 | ok a h1=>rw[e]at z;exact λρ2 H2 p2 e2 r2=>Fin.up p2 e2 z
 | err x h1=>rw[e]at z;exact z
 | bad=>rw[e]at z;exact z
end
def tE (K:K2) (EX:XX) (m:G->M D):TE:=λσ H Q=>∃ρ γ h,Rel K ρ γ h σ H/\Fin K EX ρ H (λd ρ' _ H'=>∀v,RD K ρ' H' d v->Q v H') (m γ h)
def tT (K:K2) (EX:XX) (m:G->M Bool):TT:=λσ H Q=>∃ρ γ h,Rel K ρ γ h σ H/\Fin K EX ρ H (λb _ _ H'=>Q b H') (m γ h)
def tL (K:K2) (EX:XX) (m:G->M (List D)):TA:=λσ H Q=>∃ρ γ h,Rel K ρ γ h σ H/\Fin K EX ρ H (λds ρ' _ H'=>∀vs,RDs K ρ' H' ds vs->Q vs H') (m γ h)
inductive Out where
 | nx (γ:G)|rt (d:D)|bk (γ:G)|ct (γ:G)
def OutP (K:K2) (D:Ends) (o:Out) (ρ:List Addr) (H:Hp):Prop:=match o with
 | .nx γ=>∀σ,RG K ρ H γ σ->D.nx σ H
 | .rt d=>∀v,RD K ρ H d v->D.rt v H
 | .bk γ=>∀σ,RG K ρ H γ σ->D.bk σ H
 | .ct γ=>∀σ,RG K ρ H γ σ->D.ct σ H
def tB (K:K2) (EX:XX) (m:G->M Out):TS:=λD σ H=>∃ρ γ h,Rel K ρ γ h σ H/\Fin K EX ρ H (λo ρ' _ H'=>OutP K D o ρ' H') (m γ h)
structure SE (X:Cx) (EX:XX) (e:Expr) (m:G->M D):Prop where
 h:PE X e (tE X.K EX m)
structure SC (X:Cx) (EX:XX) (e:Expr) (m:G->M Bool):Prop where
 h:PT X e (tT X.K EX m)
structure SA (X:Cx) (EX:XX) (es:List Expr) (m:G->M (List D)):Prop where
 h:PA X es (tL X.K EX m)
structure S1 (X:Cx) (EX:XX) (st:Stmt) (m:G->M Out):Prop where
 h:PS X st (tB X.K EX m)
structure SB (X:Cx) (EX:XX) (st:List Stmt) (m:G->M Out):Prop where
 h:PSs X st (tB X.K EX m)
theorem PE.imp {X:Cx}{e:Expr}{t t':TE}(h:PE X e t) (f:∀σ H Q,t' σ H Q->t σ H Q):PE X e t':=λpins s σ H Q I z=>h pins s σ H Q I (f σ H Q z)
theorem PT.imp {X:Cx}{e:Expr}{t t':TT}(h:PT X e t) (f:∀σ H Q,t' σ H Q->t σ H Q):PT X e t':=λpins s σ H Q I z=>h pins s σ H Q I (f σ H Q z)
theorem PA.imp {X:Cx}{e:List Expr}{t t':TA}(h:PA X e t) (f:∀σ H Q,t' σ H Q->t σ H Q):PA X e t':=λpos pins s σ H Q I z=>h pos pins s σ H Q I (f σ H Q z)
theorem PS.imp {X:Cx}{e:Stmt}{t t':TS}(h:PS X e t) (f:∀σ H Q,t' Q σ H->t Q σ H):PS X e t':=λpins s σ H Q I z=>h pins s σ H Q I (f σ H Q z)
theorem PSs.imp {X:Cx}{e:List Stmt}{t t':TS}(h:PSs X e t) (f:∀σ H Q,t' Q σ H->t Q σ H):PSs X e t':=λpins s σ H Q I z=>h pins s σ H Q I (f σ H Q z)
abbrev FE (K:K2) (EX:XX) (ρ:List Addr) (H:Hp) (Q:VK) (r:Res D):Prop:=Fin K EX ρ H (λd ρ' _ H'=>∀v,RD K ρ' H' d v->Q v H') r
theorem FE.here {K:K2}{EX:XX}{ρ:List Addr}{H:Hp}{Q:VK}{d:D}{h:AH}{v:V}(f:FE K EX ρ H Q (.ok d h)) (r:RH K ρ h H) (rd:RD K ρ H d v):Q v H:=f ρ H (Pre.refl _) (Ext.refl _ _) r v rd
theorem FE.tup {K:K2}{EX:XX}{ρ:List Addr}{H:Hp}{Q:VK}{ds:List D}{xs:List V}{h:AH}{p:Addr}(f:FE K EX ρ H Q (.ok (.tup ds) h)) (r:RH K ρ h H) (hd:RDs K ρ H ds xs) (hp:H p=none):Q (.ref p) (upd H p (.tup xs)):=by
 have e:Ext K H (L2.upd H p (.tup xs)):=Ext.upd (.inl hp);refine f ρ _ (Pre.refl _) e (r.other hp) _ ?_;simp only[RD];exact⟨p,xs,rfl,SqT.of z02,hd.mono (Pre.refl _) e⟩
theorem FE.lst {K:K2}{EX:XX}{ρ:List Addr}{H:Hp}{Q:VK}{ds:List D}{xs:List V}{h:AH}{p:Addr}(f:FE K EX ρ H Q (.ok (.ref h.length) (h++[.lst ds]))) (r:RH K ρ h H) (hd:RDs K ρ H ds xs) (hp:H p=none):Q (.ref p) (upd H p (.lst xs)):=by
 refine f (ρ++[p]) _ (Pre.app _ _) (Ext.upd (.inl hp)) (r.push hp hd) _ ?_;simp only[RD];refine⟨p,rfl,?_⟩;rw[<- r.len];simp
def getL (n:Nat):M (List D):=λh=>match h[n]? with
 | .(l xs)=>.ok xs h
 | _=>.bad
def newL (xs:List D):M D:=λh=>if xs.length<=sizeLine then .ok (.ref h.length) (h++[.lst xs]) else .bad
section
variable {X:Cx}{EX:XX}{a b c e:Expr}{pos:Pos}{ma mb mc:G->M D}
def eVar (i:Nat):G->M D:=λγ=>match γ[i]? with
 | some (some d)=>pure d
 | _=>bad
theorem z9 (i:Nat) {x:Str}(hN:X.N[i]?=some x:=by rfl) (hv:Vis X.env.scope x:=by first|exact Or.inl rfl|exact Or.inr (Or.inl rfl)|exact Or.inr (Or.inr rfl))
 (hd:(x==("__debug__":Str))=false:=by decide) (hcd:(x==("__classdict__":Str))=false:=by decide):SE X EX (.Name x pos) (eVar i) :=
 ⟨PE.imp (zK3 hN hv hd hcd) λσ H Q ⟨ρ,γ,h,rel,f⟩=>by
  have f':FE X.K EX ρ H Q (eVar i γ h):=f;unfold eVar at f';cases e:γ[i]? with
  | none=>rw[e]at f';exact f'.elim
  | some o=>cases o with
   | none=>rw[e]at f';exact f'.elim
   | some d =>
    rw[e]at f';obtain⟨v,h1,h2⟩:=rel.g.var i d e;exact⟨v,h1,FE.here f' rel.h h2⟩⟩
theorem z3g {d:D}{v:V}(h:PE X e (tC v)) (r:∀ρ H,RD X.K ρ H d v):SE X EX e (λ_=>pure d) :=
 ⟨PE.imp h λσ H Q ⟨ρ,γ,h,rel,f⟩=>FE.here f rel.h (r ρ H)⟩
theorem Z4 {i:Int}{j:Nat}:SE X EX (.Constant (.int i) j pos) (λ_=>pure (.int i)):=z3g zL4 λ_ _=>by simp[RD]
theorem z1m {i:Bool}{j:Nat}:SE X EX (.Constant (.bool i) j pos) (λ_=>pure (.bl i)):=z3g zS1 λ_ _=>by simp[RD]
theorem z5f {j:Nat}:SE X EX (.Constant .none j pos) (λ_=>pure .non):=z3g zC1 λ_ _=>by simp[RD]
theorem v5 {i:Str}{j:Nat}:SE X EX (.Constant (.str i) j pos) (λ_=>pure (.str i)):=z3g zI1 λ_ _=>by simp[RD]
def BR (K:K2) (EX:XX) (r:R2) (f:D->D->M D):Prop:=∀ρ h H x y v u Q,RH K ρ h H->RD K ρ H x v->RD K ρ H y u->FE K EX ρ H Q (f x y h)->r v u H Q
def e2 (f:D->D->M D) (ma mb:G->M D):G->M D:=λγ=>do
 let x <- ma γ;let y <- mb γ
 f x y
theorem z9t {r:R2}{f:D->D->M D}{ta tb:TE}(h:PE X e (tOp r (tE X.K EX ma) (tE X.K EX mb))) (hr:BR X.K EX r f):SE X EX e (e2 f ma mb) :=
 ⟨PE.imp h λσ H Q ⟨ρ,γ,h,rel,fin⟩=>⟨ρ,γ,h,rel,(Fin.bind fin).mono λx ρ1 h1 H1 p1 e1 r1 f1 v rv=>⟨ρ1,γ,h1,⟨rel.g.mono p1 e1,r1⟩,(Fin.bind f1).mono λy ρ2 h2 H2 p2 e2 r2 f2 u ru =>
  hr ρ2 h2 H2 x y v u Q r2 (rv.mono p2 e2) ru f2⟩⟩⟩
theorem z7G {op:Operator}{r:R2}{f:D->D->M D}(ho:OpR X (K3b op) r) (hr:BR X.K EX r f) (ha:SE X EX a ma) (hb:SE X EX b mb):SE X EX (.BinOp a op b pos) (e2 f ma mb) :=
 z9t (ta:=tE X.K EX ma) (tb:=tE X.K EX mb) (zS5 ho ha.h hb.h) hr
theorem zJ7 {op:CmpOp}{r:R2}{f:D->D->M D}(ho:OpR X (K1t op) r) (hr:BR X.K EX r f) (ha:SE X EX a ma) (hb:SE X EX b mb) (hm:K4l op b=false):SE X EX (.Compare a [op] [b] pos) (e2 f ma mb) :=
 z9t (ta:=tE X.K EX ma) (tb:=tE X.K EX mb) (zy2 ho ha.h hb.h hm) hr
def fI (g:Int->Int->D):D->D->M D
 | .int i,.int j=>pure (g i j)
 | _,_=>bad
theorem zn4 {K:K2}{g:Int->Int->D}{g':Int->Int->V}(hg:∀i j ρ H,RD K ρ H (g i j) (g' i j)):BR K EX (rI0 g') (fI g):=by
 intro ρ h H x y v u Q r rx ry fin;unfold fI at fin;split at fin
 ·simp only[RD]at rx ry;subst rx;subst ry;exact⟨_,_,rfl,rfl,FE.here fin r (hg _ _ _ _)⟩
 ·exact fin.elim
def fIC (C:Int->Int->Bool) (g:Int->Int->D):D->D->M D
 | .int i,.int j=>if C i j then pure (g i j) else bad
 | _,_=>bad
theorem zp9 {K:K2}{C:Int->Int->Bool}{C':Int->Int->Prop}{g:Int->Int->D}{g':Int->Int->V}(hc:∀i j,C i j=true->C' i j) (hg:∀i j ρ H,RD K ρ H (g i j) (g' i j)):BR K EX (rI C' g') (fIC C g):=by
 intro ρ h H x y v u Q r rx ry fin;unfold fIC at fin;split at fin
 ·simp only[RD]at rx ry;subst rx;subst ry;split at fin
  ·rename_i hC;exact⟨_,_,rfl,rfl,hc _ _ hC,FE.here fin r (hg _ _ _ _)⟩
  ·exact fin.elim
 ·exact fin.elim
def fSub:=fI λi j=>.int (i - j)
def fDiv:=fIC (λ_ j=>decide (0<j)&&decide (j<1073741824)) λi j=>.int (i / j)
def fMod:=fIC (λ_ j=>decide (0<j)) λi j=>.int (i % j)
def fPow:=fIC (λi j=>decide (0<=j)&&decide (j<=1000)&&decide (-(2 ^ 64)<i)&&decide (i<2 ^ 64)) λi j=>.int (i ^ j.toNat)
theorem zk1 (ha:SE X EX a ma) (hb:SE X EX b mb):SE X EX (.BinOp a .Sub b pos) (e2 fSub ma mb):=z7G zI7 (zn4 λi j ρ H=>by simp[RD]) ha hb
theorem z5F (ha:SE X EX a ma) (hb:SE X EX b mb):SE X EX (.BinOp a .FloorDiv b pos) (e2 fDiv ma mb):=z7G zt4 (zp9 (λi j h=>by simp at h;exact h) λi j ρ H=>by simp[RD]) ha hb
theorem z2t (ha:SE X EX a ma) (hb:SE X EX b mb):SE X EX (.BinOp a .Mod b pos) (e2 fMod ma mb):=z7G zG1 (zp9 (λi j h=>by simpa using h) λi j ρ H=>by simp[RD]) ha hb
theorem z9e (ha:SE X EX a ma) (hb:SE X EX b mb):SE X EX (.BinOp a .Pow b pos) (e2 fPow ma mb):=z7G zL7 (zp9 (λi j h=>by
 simp at h;refine⟨h.1.1.1,by omega,?_⟩;have h1:=h.1.2;have h2:=h.2;omega) λi j ρ H=>by simp[RD]) ha hb
def fAdd:D->D->M D
 | .int i,.int j=>pure (.int (i+j))
 | .str i,.str j=>if i.length+j.length<=sizeLine then pure (.str (i++j)) else bad
 | .ref i,.ref j=>do
  let x <- getL i;let y <- getL j
  newL (x++y)
 | .tup x,.tup y=>if !decide (x.length+y.length<=sizeLine) then bad else pure (.tup (x++y))
 | _,_=>bad
theorem z0S {n:Nat}{h h1:AH}{xs:List D}(e:getL n h=.ok xs h1):h1=h/\h[n]?=.(l xs):=by
 unfold getL at e;split at e
 ·rename_i q;cases e;exact⟨rfl,q⟩
 ·cases e
theorem z0V {n:Nat}{h h1:AH}{x:Exn}(e:getL n h=.err x h1):False:=by
 unfold getL at e;split at e<;>cases e
def zw5 (K:K2):R2:=λx y H Q=>∃a b ys,x=.ref a/\y=.ref b/\SqT K H a []/\SqT K H b ys/\Q (.ref b) H
theorem zu6:OpR X (K3b .Add) (zw5 X.K):=by
 intro pins s σ H x y v u Q I rx ry h;obtain⟨a,b,ys,rfl,rfl,ha,hb,q⟩:=h;cases rx;cases ry;obtain⟨its,r1,p1,_⟩:=I.tuple ha;obtain⟨its2,r2,p2,_⟩:=I.tuple hb;have e:its=[]:=(r1.nil_iff).mpr rfl;subst e;obtain⟨⟨cls,dd,data,sl⟩,ho,hc,n,hd⟩:=id p1;obtain⟨⟨cls2,dd2,data2,sl2⟩,ho2,hc2,n2,hd2⟩:=id p2;simp only at hc hd hc2 hd2;subst hc hd hc2 hd2;exact Z0f ⟨_,ho,rfl⟩ ⟨_,ho2,rfl⟩ K85 K9n K5y K5h (K54 _ _) (tuple_addW0 a b _ _ n n2 dd dd2 sl sl2 rfl) ⟨ho,ho2,.ref b,H,I,rfl,q⟩
theorem zv6:OpR X (K3b .Add) (λx y H Q=>rI0 (λi j=>.int (i+j)) x y H Q\/(∃i j,x=.str i/\y=.str j/\i.length+j.length<=sizeLine/\Q (.str (i++j)) H)\/rCat x y H Q\/zo7 X.K x y H Q\/zw5 X.K x y H Q) :=
 op_add.or (op_add_str.or (op_cat.or (op_catT.or zu6)))
theorem zs1:BR X.K EX (λx y H Q=>rI0 (λi j=>.int (i+j)) x y H Q\/(∃i j,x=.str i/\y=.str j/\i.length+j.length<=sizeLine/\Q (.str (i++j)) H)\/rCat x y H Q\/zo7 X.K x y H Q\/zw5 X.K x y H Q) fAdd:=by
 intro ρ h H x y v u Q r rx ry fin;unfold fAdd at fin;split at fin
 ·simp only[RD]at rx ry;subst rx;subst ry;exact .inl ⟨_,_,rfl,rfl,FE.here fin r (by simp[RD])⟩
 ·simp only[RD]at rx ry;subst rx;subst ry;split at fin
  ·rename_i hl;exact .inr (.inl ⟨_,_,rfl,rfl,hl,FE.here fin r (by simp[RD])⟩)
  ·exact fin.elim
 ·rename_i i j;simp only[RD]at rx ry;obtain⟨ai,rfl,hi⟩:=rx;obtain⟨aj,rfl,hj⟩:=ry;have f1:=Fin.bind fin;cases e:getL i h with
  | bad=>rw[e]at f1;exact f1.elim
  | err z hz=>exact(z0V e).elim
  | ok xs h1 =>
   obtain⟨rfl,q1⟩:=z0S e;rw[e]at f1;have f2:=Fin.bind (f1 ρ H (Pre.refl _) (Ext.refl _ _) r);cases e3:getL j h1 with
   | bad=>rw[e3]at f2;exact f2.elim
   | err z hz=>exact(z0V e3).elim
   | ok ys h2 =>
    obtain⟨rfl,q2⟩:=z0S e3;rw[e3]at f2;have f3:=f2 ρ H (Pre.refl _) (Ext.refl _ _) r;dsimp only at f3;unfold newL at f3;split at f3
    ·rename_i hl;obtain⟨a1,n1,xs1,o1,d1⟩:=r.at q1;obtain⟨a2,n2,xs2,o2,d2⟩:=r.at q2;rw[hi]at n1;cases n1;rw[hj]at n2;cases n2;refine .inr (.inr (.inl ⟨_,_,_,_,rfl,rfl,o1,o2,?_,λp hp=>FE.lst f3 r (d1.append d2) hp⟩));rw[<- d1.length,<- d2.length,<- K04];exact hl
    ·exact f3.elim
 ·rename_i x y;simp only[RD]at rx ry;obtain⟨ax,xs,rfl,hx,dx⟩:=rx;obtain⟨ay,ys,rfl,hy,dy⟩:=ry;split at fin
  ·exact fin.elim
  ·rename_i hc;simp at hc;have l1:=dx.length;have l2:=dy.length;by_cases hxe:xs=[]
   ·subst hxe;have xe:x=[]:=by simpa using l1
    subst xe;refine .inr (.inr (.inr (.inr ⟨ax,ay,ys,rfl,rfl,hx,hy,FE.here fin r ?_⟩)));simp only[RD];exact⟨ay,ys,rfl,hy,by simpa using dy⟩
   refine .inr (.inr (.inr (.inl ⟨ax,ay,xs,ys,rfl,rfl,hx,hy,hxe,by omega,λe=>?_,λe p hp=>FE.tup fin r (dx.append dy) hp⟩)))
   ·subst e;refine FE.here fin r ?_;simp only[RD];have:y=[]:=by simpa using l2
    subst this;exact⟨ax,xs,rfl,hx,by simpa using dx⟩
 ·exact fin.elim
theorem z0v (ha:SE X EX a ma) (hb:SE X EX b mb):SE X EX (.BinOp a .Add b pos) (e2 fAdd ma mb):=z7G zv6 zs1 ha hb
def fMul:D->D->M D
 | .int i,.int j=>if (decide (-(2 ^ 64)<i)&&decide (i<2 ^ 64))||(decide (-(2 ^ 64)<j)&&decide (j<2 ^ 64)) then pure (.int (i * j)) else bad
 | .ref i,.int j=>do
  let x <- getL i
  if decide (-(2 ^ 63)<=j)&&decide (j<2 ^ 63) then newL (K0l j.toNat x).flatten else bad
 | _,_=>bad
theorem zJ6:BR X.K EX (λx y H Q=>rI CMul (λi j=>.int (i * j)) x y H Q\/rRep x y H Q) fMul:=by
 intro ρ h H x y v u Q r rx ry fin;unfold fMul at fin;split at fin
 ·simp only[RD]at rx ry;subst rx;subst ry;split at fin
  ·rename_i hc;refine .inl ⟨_,_,rfl,rfl,?_,FE.here fin r (by simp[RD])⟩;simp only[K2w,K0f,decide_eq_true_eq]at hc;exact hc
  ·exact fin.elim
 ·rename_i i j;simp only[RD]at rx ry;obtain⟨ai,rfl,hi⟩:=rx;subst ry;have f1:=Fin.bind fin;cases e:getL i h with
  | bad=>rw[e]at f1;exact f1.elim
  | err z hz=>exact(z0V e).elim
  | ok xs h1 =>
   obtain⟨rfl,q1⟩:=z0S e;rw[e]at f1;have f2:=f1 ρ H (Pre.refl _) (Ext.refl _ _) r;dsimp only at f2;split at f2
   ·rename_i hb;simp only[K0f,decide_eq_true_eq]at hb;unfold newL at f2;split at f2
    ·rename_i hl;obtain⟨a1,n1,xs1,o1,d1⟩:=r.at q1;rw[hi]at n1;cases n1;refine .inr ⟨_,_,_,rfl,rfl,o1,hb.1,hb.2,?_,λp hp=>FE.lst f2 r (d1.flat j.toNat) hp⟩;rw[L2.len_rep,d1.length]at hl;rw[K5p];exact hl
    ·exact f2.elim
   ·exact f2.elim
 ·exact fin.elim
def fCmp (g:Int->Int->Bool):D->D->M D:=fI λi j=>.bl (g i j)
def fLt:D->D->M D
 | .int i,.int j=>pure (.bl (decide (i<j)))
 | .str i,.str j=>pure (.bl (decide (i.cps.toList<j.cps.toList)))
 | _,_=>bad
def fLe:D->D->M D
 | .int i,.int j=>pure (.bl (decide (i<=j)))
 | .str i,.str j=>pure (.bl (!decide (j.cps.toList<i.cps.toList)))
 | _,_=>bad
def fGt:D->D->M D:=fCmp λi j=>decide (j<i)
def fGe:D->D->M D:=fCmp λi j=>decide (j<=i)
theorem z8I:OpR X (K1t .LtE) (λx y H Q=>∃i j,x=.str i/\y=.str j/\Q (.bl (!decide (j.cps.toList<i.cps.toList))) H):=by
 intro pins s σ H x y v u Q I rx ry h;obtain⟨i,j,rfl,rfl,q⟩:=h;obtain⟨t,rfl⟩:=rx;obtain⟨t',rfl⟩:=ry;exact PySem.P.le_str ⟨.bl _,H,I,rfl,q⟩
theorem zV9 {K:K2}:BR K EX (λx y H Q=>rI0 (λi j=>.bl (decide (i<j))) x y H Q\/∃i j,x=.str i/\y=.str j/\Q (.bl (decide (i.cps.toList<j.cps.toList))) H) fLt:=by
 intro ρ h H x y v u Q r rx ry fin;unfold fLt at fin;split at fin
 ·simp only[RD]at rx ry;subst rx;subst ry;exact .inl ⟨_,_,rfl,rfl,FE.here fin r (by simp[RD])⟩
 ·simp only[RD]at rx ry;subst rx;subst ry;exact .inr ⟨_,_,rfl,rfl,FE.here fin r (by simp[RD])⟩
 ·exact fin.elim
theorem zT3 {K:K2}:BR K EX (λx y H Q=>rI0 (λi j=>.bl (decide (i<=j))) x y H Q\/∃i j,x=.str i/\y=.str j/\Q (.bl (!decide (j.cps.toList<i.cps.toList))) H) fLe:=by
 intro ρ h H x y v u Q r rx ry fin;unfold fLe at fin;split at fin
 ·simp only[RD]at rx ry;subst rx;subst ry;exact .inl ⟨_,_,rfl,rfl,FE.here fin r (by simp[RD])⟩
 ·simp only[RD]at rx ry;subst rx;subst ry;exact .inr ⟨_,_,rfl,rfl,FE.here fin r (by simp[RD])⟩
 ·exact fin.elim
def eqD:D->D->Option Bool
 | .int i,.int j=>some (decide (i=j))
 | .str i,.str j=>some (decide (i=j))
 | .bl i,.bl j=>some (decide (i=j))
 | .non,.non=>some true
 | .int _,.str _=>some false
 | .str _,.int _=>some false
 | .non,.int _=>some false
 | .int _,.non=>some false
 | .non,.str _=>some false
 | .str _,.non=>some false
 | _,_=>none
def fEq (neg:Bool):D->D->M D:=λx y=>match eqD x y with
 | some b=>pure (.bl (b != neg))
 | none=>bad
theorem zn3 {K:K2}{ρ:List Addr}{H:Hp}{x y:D}{v u:V}{k:Bool}(e:eqD x y=some k) (rx:RD K ρ H x v) (ry:RD K ρ H y u):scal v u=true/\decide (v=u)=k:=by
 cases x<;>cases y<;>first
  | (have e':none=some k:=e
     exact nomatch e')
  | (simp only[eqD]at e
     simp only[RD]at rx ry;subst rx;subst ry;cases e;exact⟨rfl,by simp⟩)
theorem zS7 {K:K2}:BR K EX rEq (fEq false):=by
 intro ρ h H x y v u Q r rx ry fin;unfold fEq at fin;cases hk:eqD x y with
 | none=>rw[hk]at fin;exact fin.elim
 | some k =>
  rw[hk]at fin;obtain⟨h1,h2⟩:=zn3 hk rx ry;refine⟨h1,?_⟩;rw[h2];refine FE.here fin r ?_;cases k<;>simp[RD]
def z16:D->Bool
 | .non=>true
 | .bl _=>true
 | .int _=>true
 | .str _=>true
 | _=>false
def eqF:D->D->Bool
 | .non,.non=>true
 | .bl a,.bl b=>a==b
 | .bl a,.int b=>(if a then 1 else 0)==b
 | .int a,.bl b=>a==(if b then 1 else 0)
 | .int a,.int b=>a==b
 | .str a,.str b=>a==b
 | _,_=>false
def seqD:D->M (List D)
 | .tup xs=>pure xs
 | .fl xs=>pure xs
 | .ref n=>getL n
 | _=>bad
def fIn (neg:Bool):D->D->M D:=λx y=>do
 let ys <- seqD y
 if z16 x&&ys.all z16 then pure (.bl ((ys.any λz=>eqF z x) != neg)) else bad
theorem z7t {K:K2}{ρ:List Addr}{H:Hp}{x:D}{v:V}(f:z16 x=true) (r:RD K ρ H x v):z43 v=true:=by
 cases x<;>simp only[RD]at r<;>first|(subst r;rfl)|cases f
theorem zy9 {K:K2}{ρ:List Addr}{H:Hp}{x y:D}{v u:V}(f:z16 x=true) (f':z16 y=true) (r:RD K ρ H x v) (r':RD K ρ H y u):eqV v u=eqF x y:=by
 cases x with
 | non=>simp only[RD]at r;subst r;cases y<;>first|(simp only[RD]at r';subst r';rfl)|cases f'
 | bl b=>simp only[RD]at r;subst r;cases y<;>first|(simp only[RD]at r';subst r';rfl)|cases f'
 | int b=>simp only[RD]at r;subst r;cases y<;>first|(simp only[RD]at r';subst r';rfl)|cases f'
 | str b=>simp only[RD]at r;subst r;cases y<;>first|(simp only[RD]at r';subst r';rfl)|cases f'
 | tup b=>cases f
 | fl b=>cases f
 | ref b=>cases f
theorem z5E {K:K2}{ρ:List Addr}{H:Hp}:∀{xs:List D}{vs:List V},RDs K ρ H xs vs->xs.all z16=true->vs.all z43=true
 | [],vs,r,_=>by simp only[RDs]at r;subst r;rfl
 | x::xs,vs,r,f=>by
  simp only[RDs]at r;obtain⟨v,r2,rfl,h1,h2⟩:=r;rw[K50,K0f]at f ⊢;exact⟨z7t f.1 h1,z5E h2 f.2⟩
theorem za2 {K:K2}{ρ:List Addr}{H:Hp}{x:D}{v:V}(f:z16 x=true) (r:RD K ρ H x v):∀{xs:List D}{vs:List V},RDs K ρ H xs vs->xs.all z16=true->(vs.any λy=>eqV y v)=xs.any λz=>eqF z x
 | [],vs,rs,_=>by simp only[RDs]at rs;subst rs;rfl
 | y::xs,vs,rs,fs=>by
  simp only[RDs]at rs;obtain⟨u,r2,rfl,h1,h2⟩:=rs;rw[K50,K0f]at fs;rw[K26,K26,zy9 fs.1 f h1 r,za2 f r h2 fs.2]
theorem z1X {K:K2}{ρ:List Addr}{h h1:AH}{H:Hp}{y:D}{u:V}{ys:List D}(r:RH K ρ h H) (ry:RD K ρ H y u) (e:seqD y h=.ok ys h1):h1=h/\∃p xs,u=.ref p/\(SqL K H p xs\/SqT K H p xs)/\RDs K ρ H ys xs:=by
 unfold seqD at e;split at e
 ·cases e;simp only[RD]at ry;obtain⟨p,xs,rfl,h2,h3⟩:=ry;exact⟨rfl,p,xs,rfl,.inr h2,h3⟩
 ·cases e;simp only[RD]at ry;obtain⟨p,xs,rfl,h2,h3⟩:=ry;exact⟨rfl,p,xs,rfl,.inl h2.sq,h3⟩
 ·obtain⟨rfl,q⟩:=z0S e;simp only[RD]at ry;obtain⟨p,rfl,h2⟩:=ry;obtain⟨a,n1,xs,o1,d1⟩:=r.at q;rw[h2]at n1;cases n1;exact⟨rfl,p,xs,rfl,.inl (SqL.of o1),d1⟩
 ·cases e
theorem z2w {y:D}{h h1:AH}{x:Exn}(e:seqD y h=.err x h1):False:=by
 unfold seqD at e;split at e
 ·cases e
 ·cases e
 ·exact z0V e
 ·cases e
theorem zW1 {K:K2}{neg:Bool}:BR K EX (rIn K neg) (fIn neg):=by
 intro ρ h H x y v u Q r rx ry fin;have f1:=Fin.bind fin;cases e:seqD y h with
 | bad=>rw[e]at f1;exact f1.elim
 | err z hz=>exact(z2w e).elim
 | ok ys h1 =>
  obtain⟨rfl,p,xs,rfl,hs,hd⟩:=z1X r ry e;rw[e]at f1;have f2:=f1 ρ H (Pre.refl _) (Ext.refl _ _) r;dsimp only at f2;split at f2
  ·rename_i hc;rw[K0f]at hc;refine⟨p,xs,rfl,hs,z7t hc.1 rx,z5E hd hc.2,?_⟩;refine FE.here f2 r ?_;unfold inV;rw[za2 hc.1 rx hd hc.2];cases neg<;>simp[RD]
  ·exact f2.elim
end
section
variable {env:Env}{es:List Expr}
theorem z6k {c k p}:K05 (.Constant c k p::es) env=(false,eval (.Constant c k p) env)::K05 es env:=rfl
theorem zq5 {c p}:K05 (.Name c p::es) env=(false,eval (.Name c p) env)::K05 es env:=rfl
theorem zp8 {a b c p}:K05 (.Call a b c p::es) env=(false,eval (.Call a b c p) env)::K05 es env:=rfl
theorem zg1 {a b c p}:K05 (.BinOp a b c p::es) env=(false,eval (.BinOp a b c p) env)::K05 es env:=rfl
theorem z7B {a b c p}:K05 (.Compare a b c p::es) env=(false,eval (.Compare a b c p) env)::K05 es env:=rfl
theorem z51 {a b p}:K05 (.Subscript a b p::es) env=(false,eval (.Subscript a b p) env)::K05 es env:=rfl
theorem zb7 {a b p}:K05 (.Tuple a b p::es) env=(false,eval (.Tuple a b p) env)::K05 es env:=rfl
theorem zz1 {a p}:K05 (.List a p::es) env=(false,eval (.List a p) env)::K05 es env:=rfl
theorem z7T {a b p}:K05 (.UnaryOp a b p::es) env=(false,eval (.UnaryOp a b p) env)::K05 es env:=rfl
theorem z6d {a b c p}:K05 (.ListComp a b c p::es) env=(false,eval (.ListComp a b c p) env)::K05 es env:=rfl
end
section
variable {X:Cx}{EX:XX}{a b c e:Expr}{pos:Pos}{ma mb mc:G->M D}
def CO (X:Cx) (EX:XX) (op:CmpOp) (f:D->D->M D):Prop:=∃r,OpR X (K1t op) r/\BR X.K EX r f
theorem zg5:CO X EX .Lt fLt:=⟨_,op_lt.or z8a,zV9⟩
theorem zt8:CO X EX .LtE fLe:=⟨_,op_le.or z8I,zT3⟩
theorem z56:CO X EX .Gt fGt:=⟨_,zW3,zn4 λi j ρ H=>by simp[RD]⟩
theorem zd6:CO X EX .GtE fGe:=⟨_,zT0,zn4 λi j ρ H=>by simp[RD]⟩
theorem z2Q:CO X EX .Eq (fEq false):=⟨_,zU8,zS7⟩
theorem z3p:CO X EX .NotIn (fIn true):=⟨_,z5s,zW1⟩
def fIs (neg:Bool):D->D->M D:=λx y=>match y with
 | .non=>(match x with
  | .non=>pure (.bl (true != neg))
  | .bl _=>pure (.bl (false != neg))
  | .int _=>pure (.bl (false != neg))
  | .str _=>pure (.bl (false != neg))
  | .tup _=>pure (.bl (false != neg))
  | .ref _=>pure (.bl (false != neg))
  | .fl _=>pure (.bl (false != neg)))
 | .bl k=>(match x with
  | .bl j=>pure (.bl ((j==k) != neg))
  | .non=>pure (.bl (false != neg))
  | .int _=>pure (.bl (false != neg))
  | .str _=>pure (.bl (false != neg))
  | .tup _=>pure (.bl (false != neg))
  | .ref _=>pure (.bl (false != neg))
  | .fl _=>pure (.bl (false != neg)))
 | _=>bad
theorem z6E (neg:Bool):OpR X (K1t (if neg then .IsNot else .Is)) (λx y H Q=>(y=.non/\Q (.bl ((decide (x=.non)) != neg)) H)\/∃k,y=.bl k/\Q (.bl ((decide (x=.bl k)) != neg)) H):=by
 intro pins s σ H x y v u Q I rx ry h;have pl:∀{a b:Value},plainIs a b=true->EP X pins σ Q (.bool ((a==b) != neg)) s->wpAny (model X.prog X.w) X.A (K1t (if neg then .IsNot else .Is) a b) (EP X pins σ Q) X.xe s:=λ{a b} hp hq=>by
  cases neg with
  | false=>exact wpAny_is_plain hp (by simpa using hq)
  | true=>exact wpAny_isNot_plain hp (by simpa using hq)
 rcases h with ⟨rfl,q⟩|⟨k,rfl,q⟩
 ·cases ry;have fin:∀{a:Value} {w:Bool},w=decide (x=.non)->(a==K2n)=w->EP X pins σ Q (.bool ((a==K2n) != neg)) s:=λ{a w} e1 e2=>by
   rw[e2,e1];exact⟨.bl _,H,I,rfl,q⟩
  cases x with
  | non=>cases rx;exact pl rfl (fin (w:=true) (by simp) rfl)
  | bl j=>cases rx;exact pl rfl (fin (w:=false) (by simp) rfl)
  | int j=>obtain⟨t,rfl⟩:=rx;exact pl rfl (fin (w:=false) (by simp) rfl)
  | str j=>obtain⟨t,rfl⟩:=rx;exact pl rfl (fin (w:=false) (by simp) rfl)
  | byt j=>obtain⟨t,rfl⟩:=rx;exact pl rfl (fin (w:=false) (by simp) rfl)
  | flt j=>obtain⟨t,rfl⟩:=rx;exact pl rfl (fin (w:=false) (by simp) rfl)
  | ref j=>cases rx;exact pl rfl (fin (w:=false) (by simp) rfl)
  | ty j=>cases rx;exact pl rfl (fin (w:=false) (by simp) rfl)
 ·cases ry;have fin:∀{a:Value} {w:Bool},w=decide (x=.bl k)->(a==K71 k)=w->EP X pins σ Q (.bool ((a==K71 k) != neg)) s:=λ{a w} e1 e2=>by
   rw[e2,e1];exact⟨.bl _,H,I,rfl,q⟩
  cases x with
  | non=>cases rx;exact pl rfl (fin (w:=false) (by simp) rfl)
  | bl j=>cases rx;exact pl rfl (fin (w:=(j==k)) (by rw[K17];simp) (by cases j<;>cases k<;>rfl))
  | int j=>obtain⟨t,rfl⟩:=rx;exact pl rfl (fin (w:=false) (by simp) rfl)
  | str j=>obtain⟨t,rfl⟩:=rx;exact pl rfl (fin (w:=false) (by simp) rfl)
  | byt j=>obtain⟨t,rfl⟩:=rx;exact pl rfl (fin (w:=false) (by simp) rfl)
  | flt j=>obtain⟨t,rfl⟩:=rx;exact pl rfl (fin (w:=false) (by simp) rfl)
  | ref j=>cases rx;exact pl rfl (fin (w:=false) (by simp) rfl)
  | ty j=>cases rx;exact pl rfl (fin (w:=false) (by simp) rfl)
theorem z9Q {K:K2}{ρ:List Addr}{H:Hp}{x:D}{v:V}(rx:RD K ρ H x v):decide (v=.non)=(match x with|.non=>true|_=>false):=by
 cases x<;>simp only[RD]at rx
 case non=>subst rx;simp
 case bl=>subst rx;simp
 case int=>subst rx;simp
 case str=>subst rx;simp
 case tup=>obtain⟨a,xs,rfl,_⟩:=rx;simp
 case fl=>obtain⟨a,xs,rfl,_⟩:=rx;simp
 case ref=>obtain⟨a,rfl,_⟩:=rx;simp
theorem zd2 {K:K2}{ρ:List Addr}{H:Hp}{x:D}{v:V}{k:Bool}(rx:RD K ρ H x v):decide (v=.bl k)=(match x with|.bl j=>j==k|_=>false):=by
 cases x<;>simp only[RD]at rx
 case non=>subst rx;simp
 case bl j=>subst rx;cases j<;>cases k<;>rfl
 case int=>subst rx;simp
 case str=>subst rx;simp
 case tup=>obtain⟨a,xs,rfl,_⟩:=rx;simp
 case fl=>obtain⟨a,xs,rfl,_⟩:=rx;simp
 case ref=>obtain⟨a,rfl,_⟩:=rx;simp
theorem zQ6 {K:K2}(neg:Bool):BR K EX (λx y H Q=>(y=.non/\Q (.bl ((decide (x=.non)) != neg)) H)\/∃k,y=.bl k/\Q (.bl ((decide (x=.bl k)) != neg)) H) (fIs neg):=by
 intro ρ h H x y v u Q r rx ry fin;cases y with
 | non =>
  simp only[RD]at ry;refine .inl ⟨ry,?_⟩;rw[z9Q rx];cases x<;>first|exact(show False from fin).elim|exact FE.here fin r (by simp[RD])
 | bl k =>
  simp only[RD]at ry;refine .inr ⟨k,ry,?_⟩;rw[zd2 rx];cases x<;>first|exact(show False from fin).elim|exact FE.here fin r (by simp[RD])
 | _=>exact(show False from fin).elim
theorem zO1:CO X EX .Is (fIs false):=⟨_,z6E false,zQ6 false⟩
theorem z6t:CO X EX .IsNot (fIs true):=⟨_,z6E true,zQ6 true⟩
theorem se_c {op:CmpOp}{f:D->D->M D}(h:CO X EX op f) (ha:SE X EX a ma) (hb:SE X EX b mb) (hm:K4l op b=false:=by first|exact zk3 _|with_unfolding_all rfl):SE X EX (.Compare a [op] [b] pos) (e2 f ma mb):=by
 obtain⟨r,h1,h2⟩:=h;exact zJ7 h1 h2 ha hb hm
def asB:D->M Bool
 | .bl b=>pure b
 | _=>bad
theorem zS0 {t:TE}{m:G->M D}(h:∀σ H Q,tE X.K EX m σ H Q->t σ H Q):∀σ H Q,tT X.K EX (λγ=>do let d <- m γ;asB d) σ H Q->zE8 t σ H Q:=by
 intro σ H Q ⟨ρ,γ,h0,rel,fin⟩;refine h σ H _ ⟨ρ,γ,h0,rel,(Fin.bind fin).mono λd ρ1 h1 H1 p1 e1 r1 f1 v rv=>?_⟩;cases d<;>first|exact(show False from f1).elim|skip
 rename_i b;simp only[RD]at rv;exact⟨b,rv,f1 ρ1 H1 (Pre.refl _) (Ext.refl _ _) r1⟩
theorem sc_c {op:CmpOp}{f:D->D->M D}(h:CO X EX op f) (ha:SE X EX a ma) (hb:SE X EX b mb) (hm:K4l op b=false:=by first|exact zk3 _|with_unfolding_all rfl):SC X EX (.Compare a [op] [b] pos) (λγ=>do let d <- e2 f ma mb γ;asB d):=by
 constructor;obtain⟨r,h1,h2⟩:=h;refine PT.imp (zq2 h1 ha.h hb.h hm) (zS0 λσ H Q ⟨ρ,γ,h,rel,fin⟩=>?_);exact⟨ρ,γ,h,rel,(Fin.bind fin).mono λx ρ1 h1 H1 p1 e1 r1 f1 v rv=>⟨ρ1,γ,h1,⟨rel.g.mono p1 e1,r1⟩,(Fin.bind f1).mono λy ρ2 h3 H2 p2 e2 r2 f2 u ru =>
  h2 ρ2 h3 H2 x y v u Q r2 (rv.mono p2 e2) ru f2⟩⟩
def e3 (f g:D->D->M D) (ma mb mc:G->M D):G->M D:=λγ=>do
 let x <- ma γ;let y <- mb γ;let k <- f x y;let t <- asB k
 if t then do
  let z <- mc γ
  g y z
 else pure (.bl false)
theorem ze6 {r r':R2}{f g:D->D->M D}(h2:BR X.K EX r f) (h4:BR X.K EX r' g):∀σ H Q,tE X.K EX (e3 f g ma mb mc) σ H Q->zj5 r r' (tE X.K EX ma) (tE X.K EX mb) (tE X.K EX mc) σ H Q:=by
 intro σ H Q ⟨ρ,γ,h,rel,fin⟩;refine⟨ρ,γ,h,rel,(Fin.bind fin).mono λx ρ1 h1 H1 p1 e1 r1 f1 v rv=>⟨ρ1,γ,h1,⟨rel.g.mono p1 e1,r1⟩,(Fin.bind f1).mono λy ρ2 h3 H2 p2 e2 r2 f2 u ru=>?_⟩⟩;refine h2 ρ2 h3 H2 x y v u _ r2 (rv.mono p2 e2) ru ((Fin.bind f2).mono λk ρ3 h5 H3 p3 e3 r3 f3 z rz=>?_);cases k<;>first|exact(show False from f3).elim|skip
 rename_i t;simp only[RD]at rz;refine⟨t,rz,?_⟩;cases t with
 | false =>
  rw[if_neg (by decide)];exact FE.here (d:=.bl false) (h:=h5) (ρ:=ρ3) f3 r3 (by simp[RD])
 | true =>
  rw[if_pos rfl];have f4:Fin X.K EX ρ3 H3 (λd ρ' _ H'=>∀v,RD X.K ρ' H' d v->Q v H') ((mc γ >>= λz=>g y z) h5):=f3;exact⟨ρ3,γ,h5,⟨((rel.g.mono p1 e1).mono p2 e2).mono p3 e3,r3⟩,(Fin.bind f4).mono λw ρ4 h6 H4 p4 e4 r4 f5 q rq=>h4 ρ4 h6 H4 y w u q Q r4 ((ru.mono p3 e3).mono p4 e4) rq f5⟩
theorem zN6 {op op':CmpOp}{f g:D->D->M D}(h:CO X EX op f) (h':CO X EX op' g) (ha:SE X EX a ma) (hb:SE X EX b mb) (hc:SE X EX c mc) (hm:lastMarks [op,op'] [b,c]=false:=by with_unfolding_all rfl):SE X EX (.Compare a [op,op'] [b,c] pos) (e3 f g ma mb mc):=by
 constructor;obtain⟨r,h1,h2⟩:=h;obtain⟨r',h3,h4⟩:=h';exact PE.imp (zc8 h1 h3 ha.h hb.h hc.h hm) (ze6 h2 h4)
def eAnd (ma mb:G->M D):G->M D:=λγ=>do
 let x <- ma γ;let t <- asB x
 if t then mb γ else pure (.bl false)
def eNot (ma:G->M D):G->M D:=λγ=>do
 let x <- ma γ;let t <- asB x
 pure (.bl (!t))
variable {rest:List Expr}
theorem z4d {op:PySem.BoolOp}(ha:SE X EX a ma):SE X EX (.BoolOp op [a] pos) ma:=⟨zL9 ha.h⟩
theorem z2b (ha:SE X EX a ma) (hb:SE X EX (.BoolOp .And (b::rest) pos) mb):SE X EX (.BoolOp .And (a::b::rest) pos) (eAnd ma mb) :=
 ⟨PE.imp (zP0 ha.h hb.h) λσ H Q ⟨ρ,γ,h,rel,fin⟩=>⟨ρ,γ,h,rel,(Fin.bind fin).mono λx ρ1 h1 H1 p1 e1 r1 f1 v rv=>by
  cases x<;>first|exact(show False from f1).elim|skip
  rename_i t;simp only[RD]at rv;refine⟨t,rv,?_⟩;cases t with
  | true=>exact⟨ρ1,γ,h1,⟨rel.g.mono p1 e1,r1⟩,f1⟩
  | false=>exact FE.here (d:=.bl false) (h:=h1) (ρ:=ρ1) f1 r1 (by simp[RD])⟩⟩
theorem z8J (ha:SE X EX a ma):SE X EX (.UnaryOp .Not a pos) (eNot ma) :=
 ⟨PE.imp (zI0 ha.h) λσ H Q ⟨ρ,γ,h,rel,fin⟩=>⟨ρ,γ,h,rel,(Fin.bind fin).mono λx ρ1 h1 H1 p1 e1 r1 f1 v rv=>by
  cases x<;>first|exact(show False from f1).elim|skip
  rename_i t;simp only[RD]at rv;exact⟨t,rv,FE.here (d:=.bl (!t)) (h:=h1) (ρ:=ρ1) f1 r1 (by simp[RD])⟩⟩⟩
structure SW (X:Cx) (EX:XX) (e:Expr) (m:G->M Bool):Prop where
 h:PW X e (tT X.K EX m)
theorem PW.imp {X:Cx}{e:Expr}{t t':TT}(h:PW X e t) (f:∀σ H Q,t' σ H Q->t σ H Q):PW X e t':=λw pins s σ H Q I z=>h w pins s σ H Q I (f σ H Q z)
variable {ka kb kc:G->M Bool}
def cAnd (ka kb:G->M Bool):G->M Bool:=λγ=>do
 let t <- ka γ
 if t then kb γ else pure false
def cOr (ka kb:G->M Bool):G->M Bool:=λγ=>do
 let t <- ka γ
 if t then pure true else kb γ
def cNot (ka:G->M Bool):G->M Bool:=λγ=>do
 let t <- ka γ
 pure (!t)
theorem z2x (ha:SC X EX a ka):SW X EX (.BoolOp .And [a] pos) ka:=⟨zr3 ha.h⟩
theorem z2L (ha:SC X EX a ka):SW X EX (.BoolOp .Or [a] pos) ka:=⟨zO2 ha.h⟩
theorem z3y (ha:SC X EX a ka) (hb:SW X EX (.BoolOp .And (b::rest) pos) kb):SW X EX (.BoolOp .And (a::b::rest) pos) (cAnd ka kb) :=
 ⟨PW.imp (zK4 ha.h hb.h) λσ H Q ⟨ρ,γ,h,rel,fin⟩=>⟨ρ,γ,h,rel,(Fin.bind fin).mono λt ρ1 h1 H1 p1 e1 r1 f1=>by
  cases t with
  | true=>exact⟨ρ1,γ,h1,⟨rel.g.mono p1 e1,r1⟩,f1⟩
  | false=>exact f1 ρ1 H1 (Pre.refl _) (Ext.refl _ _) r1⟩⟩
theorem z3d (ha:SC X EX a ka) (hb:SW X EX (.BoolOp .Or (b::rest) pos) kb):SW X EX (.BoolOp .Or (a::b::rest) pos) (cOr ka kb) :=
 ⟨PW.imp (zR9 ha.h hb.h) λσ H Q ⟨ρ,γ,h,rel,fin⟩=>⟨ρ,γ,h,rel,(Fin.bind fin).mono λt ρ1 h1 H1 p1 e1 r1 f1=>by
  cases t with
  | false=>exact⟨ρ1,γ,h1,⟨rel.g.mono p1 e1,r1⟩,f1⟩
  | true=>exact f1 ρ1 H1 (Pre.refl _) (Ext.refl _ _) r1⟩⟩
theorem SW.sc (h:SW X EX e ka):SC X EX e ka:=⟨PW.pt h.h⟩
theorem z0t (ha:SC X EX a ka):SC X EX (.UnaryOp .Not a pos) (cNot ka) :=
 ⟨PT.imp (zF5 ha.h) λσ H Q ⟨ρ,γ,h,rel,fin⟩=>⟨ρ,γ,h,rel,(Fin.bind fin).mono λt ρ1 h1 H1 p1 e1 r1 f1=>f1 ρ1 H1 (Pre.refl _) (Ext.refl _ _) r1⟩⟩
def truD:D->M Bool
 | .non=>pure false
 | .bl b=>pure b
 | .int i=>pure (i != 0)
 | .str y=>if y.length<=sizeLine then pure (decide (y.length≠0)) else bad
 | .tup xs=>pure (!xs.isEmpty)
 | .fl xs=>pure (!xs.isEmpty)
 | .ref n=>do
  let xs <- getL n
  pure (!xs.isEmpty)
def cVal (ma:G->M D):G->M Bool:=λγ=>do
 let x <- ma γ
 truD x
theorem isE {K:K2}{ρ:List Addr}{H:Hp}{ds:List D}{xs:List V}(h:RDs K ρ H ds xs):ds.isEmpty=xs.isEmpty:=by
 have:=h.length;cases ds<;>cases xs<;>simp at this ⊢
theorem zn5 {ρ:List Addr}{h:AH}{H:Hp}{x:D}{v:V}{Q:Bool->Hp->Prop}(r:RH X.K ρ h H) (rx:RD X.K ρ H x v) (f:Fin X.K EX ρ H (λb _ _ H'=>Q b H') (truD x h)):∃k,TruV X.K v H k/\Q k H:=by
 cases x with
 | non=>simp only[RD]at rx;subst rx;exact⟨false,rfl,f ρ H (Pre.refl _) (Ext.refl _ _) r⟩
 | bl b=>simp only[RD]at rx;subst rx;exact⟨b,rfl,f ρ H (Pre.refl _) (Ext.refl _ _) r⟩
 | int b=>simp only[RD]at rx;subst rx;exact⟨_,rfl,f ρ H (Pre.refl _) (Ext.refl _ _) r⟩
 | str y =>
  simp only[RD]at rx;subst rx;have f':Fin X.K EX ρ H (λb _ _ H'=>Q b H') ((if y.length<=sizeLine then pure (decide (y.length≠0)) else bad:M Bool) h):=f;by_cases hl:y.length<=sizeLine
  ·rw[if_pos hl]at f';refine⟨decide (y.length≠0),⟨hl,?_⟩,f' ρ H (Pre.refl _) (Ext.refl _ _) r⟩;rw[K17];simp
  ·rw[if_neg hl]at f';exact f'.elim
 | tup xs =>
  simp only[RD]at rx;obtain⟨a,vs,rfl,h1,h2⟩:=rx;exact⟨!xs.isEmpty,.inr (.inl ⟨vs,h1,by rw[isE h2]⟩),f ρ H (Pre.refl _) (Ext.refl _ _) r⟩
 | fl xs =>
  simp only[RD]at rx;obtain⟨a,vs,rfl,h1,h2⟩:=rx;exact⟨!xs.isEmpty,.inl ⟨vs,h1.sq,by rw[isE h2]⟩,f ρ H (Pre.refl _) (Ext.refl _ _) r⟩
 | ref n =>
  have f1:=Fin.bind f;cases e:getL n h with
  | bad=>rw[e]at f1;exact f1.elim
  | err z hz=>exact(z0V e).elim
  | ok xs h1 =>
   obtain⟨rfl,q1⟩:=z0S e;rw[e]at f1;have f2:=f1 ρ H (Pre.refl _) (Ext.refl _ _) r;simp only[RD]at rx;obtain⟨a,rfl,h2⟩:=rx;obtain⟨a1,n1,vs,o1,d1⟩:=r.at q1;rw[h2]at n1;cases n1;exact⟨!xs.isEmpty,.inl ⟨vs,SqL.of o1,by rw[isE d1]⟩,f2 ρ H (Pre.refl _) (Ext.refl _ _) r⟩
theorem J7 (ha:SE X EX a ma) (he:∀whole,isTrue a X.env whole=(do let v <- whole;K6j a.pos;K41 [v] (truthy v)):=by intro _;rfl):SC X EX a (cVal ma) :=
 ⟨PT.imp (zh3 ha.h he) λσ H Q ⟨ρ,γ,h,rel,fin⟩=>⟨ρ,γ,h,rel,(Fin.bind fin).mono λx ρ1 h1 H1 p1 e1 r1 f1 v rv=>zn5 r1 rv f1⟩⟩
def eIf (k:G->M Bool) (ma mb:G->M D):G->M D:=λγ=>do
 let t <- k γ
 if t then ma γ else mb γ
theorem zt9 (hc:SC X EX c kc) (ha:SE X EX a ma) (hb:SE X EX b mb):SE X EX (.IfExp c a b pos) (eIf kc ma mb) :=
 ⟨PE.imp (zf3 hc.h ha.h hb.h) λσ H Q ⟨ρ,γ,h,rel,fin⟩=>⟨ρ,γ,h,rel,(Fin.bind fin).mono λt ρ1 h1 H1 p1 e1 r1 f1=>by
  cases t with
  | true=>exact⟨ρ1,γ,h1,⟨rel.g.mono p1 e1,r1⟩,f1⟩
  | false=>exact⟨ρ1,γ,h1,⟨rel.g.mono p1 e1,r1⟩,f1⟩⟩⟩
def aNil:G->M (List D):=λ_=>pure []
def Z1 (ma:G->M D) (mr:G->M (List D)):G->M (List D):=λγ=>do
 let x <- ma γ;let r <- mr γ
 pure (x::r)
variable {es:List Expr}{mr:G->M (List D)}
theorem Z5:SA X EX [] aNil:=⟨PA.imp z2N λσ H Q ⟨ρ,γ,h,rel,fin⟩=>fin ρ H (Pre.refl _) (Ext.refl _ _) rel.h [] RDs.nil⟩
theorem Z0 (ha:SE X EX a ma) (hr:SA X EX es mr) (hs:K05 (a::es) X.env=(false,eval a X.env)::K05 es X.env:=by first|exact z6k|exact zq5|exact zp8|exact zg1|exact z7B|exact z51|exact zb7|exact zz1|exact z7T|exact z6d|rfl):SA X EX (a::es) (Z1 ma mr) :=
 ⟨PA.imp (z1B ha.h hr.h hs) λσ H Q ⟨ρ,γ,h,rel,fin⟩=>⟨ρ,γ,h,rel,(Fin.bind fin).mono λx ρ1 h1 H1 p1 e1 r1 f1 v rv=>⟨ρ1,γ,h1,⟨rel.g.mono p1 e1,r1⟩,(Fin.bind f1).mono λds ρ2 h2 H2 p2 e2 r2 f2 vs rvs =>
  f2 ρ2 H2 (Pre.refl _) (Ext.refl _ _) r2 (v::vs) (RDs.cons (rv.mono p2 e2) rvs)⟩⟩⟩
def eTup (mr:G->M (List D)):G->M D:=λγ=>do
 let xs <- mr γ
 if xs.length<=sizeLine then pure (.tup xs) else bad
def eLst (mr:G->M (List D)):G->M D:=λγ=>do
 let xs <- mr γ
 newL xs
theorem z1Z {k:Nat}(h:SA X EX es mr):SE X EX (.Tuple es k pos) (eTup mr) :=
 ⟨PE.imp (zQ0 h.h) λσ H Q ⟨ρ,γ,h,rel,fin⟩=>⟨ρ,γ,h,rel,(Fin.bind fin).mono λxs ρ1 h1 H1 p1 e1 r1 f1 vs rvs=>by
  by_cases hl:xs.length<=sizeLine
  ·rw[if_pos hl]at f1;exact⟨by rw[<- rvs.length];exact hl,λp hp=>FE.tup (h:=h1) f1 r1 rvs hp⟩
  ·rw[if_neg hl]at f1;exact(show False from f1).elim⟩⟩
theorem z0c (h:SA X EX es mr):SE X EX (.List es pos) (eLst mr) :=
 ⟨PE.imp (zP3 h.h) λσ H Q ⟨ρ,γ,h,rel,fin⟩=>⟨ρ,γ,h,rel,(Fin.bind fin).mono λxs ρ1 h1 H1 p1 e1 r1 f1 vs rvs=>by
  unfold newL at f1;split at f1
  ·rename_i hl;exact⟨by rw[<- rvs.length];exact hl,λp hp=>FE.lst (h:=h1) f1 r1 rvs hp⟩
  ·exact(show False from f1).elim⟩⟩
def fIx:D->D->M D
 | .str z,.int i=>if z.length<=sizeLine then (match atI z.cps.toList i with
  | some c=>pure (.str ⟨#[c]⟩)
  | none=>bad) else bad
 | x,.int i=>do
  let xs <- seqD x
  match atI xs i with
  | some d=>pure d
  | none=>bad
 | _,_=>bad
theorem zs9 {K:K2}{ρ:List Addr}{H:Hp}{ds:List D}{xs:List V}{i:Int}{d:D}(h:RDs K ρ H ds xs) (e:atI ds i=some d):∃x,atI xs i=some x/\RD K ρ H d x:=by
 unfold atI at e ⊢;rw[<- h.length];cases q:ixN ds.length i with
 | none=>rw[q]at e;cases e
 | some j=>rw[q]at e;exact h.get e
theorem zU1:BR X.K EX (rIx X.K) fIx:=by
 intro ρ h H x y v u Q r rx ry fin;unfold fIx at fin;split at fin
 ·simp only[RD]at rx ry;subst rx;subst ry;rename_i z i;by_cases hl:z.length<=sizeLine
  ·rw[if_pos hl]at fin;cases hc:atI z.cps.toList i with
   | none=>rw[hc]at fin;exact fin.elim
   | some c =>
    rw[hc]at fin;exact .inr (.inr ⟨_,_,c,rfl,rfl,hl,hc,FE.here fin r (by simp[RD])⟩)
  ·rw[if_neg hl]at fin;exact fin.elim
 ·rename_i i _;simp only[RD]at ry;subst ry;have f1:=Fin.bind fin;cases e:seqD x h with
  | bad=>rw[e]at f1;exact f1.elim
  | err z hz=>exact(z2w e).elim
  | ok ys h1 =>
   obtain⟨rfl,p,xs,rfl,hs,hd⟩:=z1X r rx e;rw[e]at f1;have f2:=f1 ρ H (Pre.refl _) (Ext.refl _ _) r;dsimp only at f2;cases q:atI ys i with
   | none=>rw[q]at f2;exact f2.elim
   | some d =>
    rw[q]at f2;obtain⟨w,h2,h3⟩:=zs9 hd q;rcases hs with hs|hs
    ·exact .inl ⟨p,xs,i,w,rfl,rfl,hs,h2,FE.here f2 r h3⟩
    ·exact .inr (.inl ⟨p,xs,i,w,rfl,rfl,hs,h2,FE.here f2 r h3⟩)
 ·exact fin.elim
theorem j6 (ha:SE X EX a ma) (hb:SE X EX b mb) (hs:z8k b:=by intro _ _;rfl):SE X EX (.Subscript a b pos) (e2 fIx ma mb) :=
 z9t (ta:=tE X.K EX ma) (tb:=tE X.K EX mb) (zV4 zK5 ha.h hb.h hs) zU1
end
section
variable {X:Cx}{EX:XX}{a b c e:Expr}{pos p p2:Pos}{ma mb mc:G->M D}{es:List Expr}{mr:G->M (List D)}
def AR (K:K2) (EX:XX) (r:List V->Hp->VK->Prop) (f:List D->M D):Prop:=∀ρ h H ds vs Q,RH K ρ h H->RDs K ρ H ds vs->FE K EX ρ H Q (f ds h)->r vs H Q
def j7 (f:List D->M D) (mr:G->M (List D)):G->M D:=λγ=>do
 let xs <- mr γ
 f xs
theorem z1c {r:List V->Hp->VK->Prop}{f:List D->M D}(h:PE X e (tCB r (tL X.K EX mr))) (hr:AR X.K EX r f):SE X EX e (j7 f mr) :=
 ⟨PE.imp h λσ H Q ⟨ρ,γ,h,rel,fin⟩=>⟨ρ,γ,h,rel,(Fin.bind fin).mono λxs ρ1 h1 H1 p1 e1 r1 f1 vs rvs=>hr ρ1 h1 H1 xs vs Q r1 rvs f1⟩⟩
theorem rds1 {K:K2}{ρ:List Addr}{H:Hp}{d:D}{vs:List V}(h:RDs K ρ H [d] vs):∃v,vs=[v]/\RD K ρ H d v:=by
 simp only[RDs]at h;obtain⟨x,r,rfl,h2,rfl⟩:=h;exact⟨x,rfl,h2⟩
def fLen:List D->M D
 | [.str z]=>if z.length<=sizeLine then pure (.int z.length) else bad
 | [x]=>do
  let xs <- seqD x
  pure (.int xs.length)
 | _=>bad
theorem zL5:AR X.K EX (λxs H Q=>∃x n,xs=[x]/\LenV X.K x H n/\Q (.int n) H) fLen:=by
 intro ρ h H ds vs Q r rd fin;unfold fLen at fin;split at fin
 ·rename_i z;obtain⟨v,rfl,rv⟩:=rds1 rd;simp only[RD]at rv;subst rv;by_cases hl:z.length<=sizeLine
  ·rw[if_pos hl]at fin;exact⟨_,z.length,rfl,⟨hl,rfl⟩,FE.here fin r (by simp[RD])⟩
  ·rw[if_neg hl]at fin;exact fin.elim
 ·rename_i x _;obtain⟨v,rfl,rv⟩:=rds1 rd;have f1:=Fin.bind fin;cases e:seqD x h with
  | bad=>rw[e]at f1;exact f1.elim
  | err z hz=>exact(z2w e).elim
  | ok ys h1 =>
   obtain⟨rfl,p,xs,rfl,hs,hd⟩:=z1X r rv e;rw[e]at f1;have f2:=f1 ρ H (Pre.refl _) (Ext.refl _ _) r;refine⟨_,ys.length,rfl,?_,FE.here f2 r (by simp[RD])⟩;rw[hd.length];rcases hs with hs|hs
   ·exact .inl ⟨xs,hs,rfl⟩
   ·exact .inr ⟨xs,hs,rfl⟩
 ·exact fin.elim
theorem z00 (hg:Gl X "len") (hm:X.mg "len" = none) (ha:SA X EX [a] mr) (he:K05 [a] X.env=[(false,eval a X.env)]:=by rfl):SE X EX (.Call (.Name "len" p) [a] [] pos) (j7 fLen mr) :=
 z1c (z1K zh2 hg hm PySem.boot_len ha.h (by decide) (by decide) he rfl) zL5
def Y2:List D->M D
 | [.tup xs]=>pure (.tup xs)
 | [x]=>do
  let xs <- seqD x
  pure (.tup xs)
 | _=>bad
theorem zg2:AR X.K EX (λxs H Q=>∃p ys,xs=[.ref p]/\((SqL X.K H p ys/\∀l,H l=none->Q (.ref l) (upd H l (.tup ys)))\/(SqT X.K H p ys/\Q (.ref p) H))) Y2:=by
 intro ρ h H ds vs Q r rd fin;unfold Y2 at fin;split at fin
 ·obtain⟨v,rfl,rv⟩:=rds1 rd;have rv':=rv;simp only[RD]at rv;obtain⟨q,xs,rfl,h1,h2⟩:=rv;exact⟨q,xs,rfl,.inr ⟨h1,FE.here fin r rv'⟩⟩
 ·rename_i x hx;obtain⟨v,rfl,rv⟩:=rds1 rd;have f1:=Fin.bind fin;cases e:seqD x h with
  | bad=>rw[e]at f1;exact f1.elim
  | err z hz=>exact(z2w e).elim
  | ok ys h1 =>
   obtain⟨rfl,q,xs,rfl,hs,hd⟩:=z1X r rv e;rw[e]at f1;have f2:=f1 ρ H (Pre.refl _) (Ext.refl _ _) r;refine⟨q,xs,rfl,?_⟩;rcases hs with hs|hs
   ·exact .inl ⟨hs,λl hl=>FE.tup f2 r hd hl⟩
   ·refine .inr ⟨hs,FE.here f2 r ?_⟩;simp only[RD];exact⟨q,xs,rfl,hs,hd⟩
 ·exact fin.elim
theorem v8 (hg:Gl X "tuple") (hm:X.mg "tuple" = none) (ha:SA X EX [a] mr) (he:K05 [a] X.env=[(false,eval a X.env)]:=by rfl):SE X EX (.Call (.Name "tuple" p) [a] [] pos) (j7 Y2 mr) :=
 z1c (z1f z4R hg hm (by decide +kernel) ha.h (by decide) (by decide) he rfl) zg2
def zc7:List D->M D
 | [x]=>do
  let xs <- seqD x
  newL xs
 | _=>bad
theorem zy5:AR X.K EX (λxs H Q=>∃p ys,xs=[.ref p]/\(SqL X.K H p ys\/SqT X.K H p ys)/\∀l,H l=none->Q (.ref l) (upd H l (.lst ys))) zc7:=by
 intro ρ h H ds vs Q r rd fin;unfold zc7 at fin;split at fin
 ·rename_i x;obtain⟨v,rfl,rv⟩:=rds1 rd;have f1:=Fin.bind fin;cases e:seqD x h with
  | bad=>rw[e]at f1;exact f1.elim
  | err z hz=>exact(z2w e).elim
  | ok ys h1 =>
   obtain⟨rfl,q,xs,rfl,hs,hd⟩:=z1X r rv e;rw[e]at f1;have f2:=f1 ρ H (Pre.refl _) (Ext.refl _ _) r;unfold newL at f2;dsimp only at f2;split at f2
   ·exact⟨q,xs,rfl,hs,λl hl=>FE.lst f2 r hd hl⟩
   ·exact f2.elim
 ·exact fin.elim
theorem zt7 (hg:Gl X "list") (hm:X.mg "list" = none) (ha:SA X EX [a] mr) (he:K05 [a] X.env=[(false,eval a X.env)]:=by rfl):SE X EX (.Call (.Name "list" p) [a] [] pos) (j7 zc7 mr) :=
 z1c (z1f z5I hg hm (by decide +kernel) ha.h (by decide) (by decide) he rfl) zy5
def tyD:D->M String
 | .non=>pure "NoneType"
 | .bl _=>pure "bool"
 | .int _=>pure "int"
 | .str _=>pure "str"
 | .tup _=>pure "tuple"
 | .fl _=>pure "list"
 | .ref n=>λh=>match h[n]? with
  | .(l _)=>.ok "list" h
  | some .dct=>.ok "dict" h
  | some (.dK _)=>.ok "dict" h
  | _=>.bad
def subT (t T:String):Bool:=t==T||(t=="bool"&&T=="int")
def tyNames:List String:=["NoneType","bool","int","str","tuple","list","dict"]
def tyAsked:List String:=["bool","int","str","tuple","list","dict"]
theorem zw6:tyNames.all (λt=>tyAsked.all λT=>decide (K5n [] (.type t) (.type T)=some (subT t T)))=true:=by decide +kernel
theorem z6X {K:K2}{t T:String}(h1:t∈tyNames) (h2:T∈tyAsked):K5n K (.type t) (.type T)=some (subT t T):=by
 have q:=zw6;rw[K1z]at q;have q2:=q t h1;rw[K1z]at q2;have q3:=q2 T h2;exact of_decide_eq_true q3
def fIsi (T:String):D->M D:=λx=>do
 let t <- tyD x
 pure (.bl (subT t T))
theorem zu3 {pins:List (Addr×Obj)}{σ:L2.St}{H:Hp}{s:Shared}{E:Value->Shared->Prop}{Q:Value->Shared->Prop}{q:Addr}{c:Value}{k:Bool}{xs:List V}(I:Inv X pins σ H s) (h:SqT X.K H q xs) (e:K5n X.K (.type "tuple") c=some k) (hQ:∀tk,Q (.bool k) { s with toks:=tk }) :
 wpAny (model X.prog X.w) X.A (call (.builtin "isinstance") [.ref q,c]) Q E s:=by
 obtain⟨its,_,ht,_⟩:=I.tuple h;obtain⟨o,h1,h2,_⟩:=ht;exact K1o K9t I.kIn ⟨o,h1,h2⟩ e (λz=>nomatch z) hQ
theorem zx3 {pins:List (Addr×Obj)}{σ:L2.St}{H:Hp}{s:Shared}{E:Value->Shared->Prop}{Q:Value->Shared->Prop}{q:Addr}{c:Value}{k:Bool}{xs:List V}(I:Inv X pins σ H s) (h:SqL X.K H q xs) (e:K5n X.K (.type "list") c=some k) (hQ:∀tk,Q (.bool k) { s with toks:=tk }) :
 wpAny (model X.prog X.w) X.A (call (.builtin "isinstance") [.ref q,c]) Q E s:=by
 obtain⟨its,_,ht,_⟩:=I.list h;obtain⟨o,n,h1,h2,_⟩:=ht;exact K1o K7h I.kIn ⟨o,h1,h2⟩ e (λz=>nomatch z) hQ
def TyV (K:K2) (H:Hp) (v:V) (t:String):Prop:=match v with
 | .non=>t = "NoneType"
 | .bl _=>t = "bool"
 | .int _=>t = "int"
 | .str _=>t = "str"
 | .ref q=>(t = "tuple"/\∃xs,SqT K H q xs)\/(t = "list"/\∃xs,SqL K H q xs)\/(t = "dict"/\(H q=some (dctO q)\/∃kvs,H q=some (.dK kvs)))
 | _=>False
theorem zc6 {T:String}(hT:T∈tyAsked):z2B X (.builtin "isinstance") (λxs H Q=>∃x t,xs=[x,.ty T]/\TyV X.K H x t/\Q (.bl (subT t T)) H):=by
 intro pins s σ H xs us Q I r h;obtain⟨x,t,rfl,ty,q⟩:=h;obtain⟨u,w',rfl,rx,rt⟩:=vals2 r;cases rt;have fin:∀tk,EP X pins σ Q (.bool (subT t T)) { s with toks:=tk }:=λtk=>⟨.bl _,H,I.tok tk,rfl,q⟩;have tb:∀{z:V} {t':Value},z=x->TyOf X.K H z t'->t'=.type t->t∈tyNames->wpAny (model X.prog X.w) X.A (call (.builtin "isinstance") [u,.type T]) (EP X pins σ Q) X.xe s:=λ{z t'} e1 ty' e2 hn=>by
  subst e1;subst e2;exact z8o I rx ty' (z6X hn hT) fin
 cases x with
 | non=>exact tb rfl .non (by rw[show t = "NoneType" from ty]) (by rw[show t = "NoneType" from ty];decide)
 | bl y=>exact tb rfl (.bl y) (by rw[show t = "bool" from ty]) (by rw[show t = "bool" from ty];decide)
 | int y=>exact tb rfl (.int y) (by rw[show t = "int" from ty]) (by rw[show t = "int" from ty];decide)
 | str y=>exact tb rfl (.str y) (by rw[show t = "str" from ty]) (by rw[show t = "str" from ty];decide)
 | ref y =>
  cases rx;rcases(show (t = "tuple"/\∃xs,SqT X.K H y xs)\/(t = "list"/\∃xs,SqL X.K H y xs)\/(t = "dict"/\(H y=some (dctO y)\/∃kvs,H y=some (.dK kvs))) from ty) with ⟨rfl,xs,hs⟩|⟨rfl,xs,hs⟩|⟨rfl,hs|⟨kvs,hs⟩⟩
  ·exact zu3 I hs (z6X (by decide) hT) fin
  ·exact zx3 I hs (z6X (by decide) hT) fin
  ·exact K1o K7i I.kIn (I.hok y _ hs).1 (z6X (by decide) hT) (λz=>nomatch z) fin
  ·exact tb rfl (.dK hs) rfl (by decide)
 | byt y=>exact(show False from ty).elim
 | flt y=>exact(show False from ty).elim
 | ty y=>exact(show False from ty).elim
theorem zA7 {K:K2}{ρ:List Addr}{h h1:AH}{H:Hp}{x:D}{v:V}{t:String}(r:RH K ρ h H) (rx:RD K ρ H x v) (e:tyD x h=.ok t h1):h1=h/\TyV K H v t:=by
 cases x with
 | non=>cases e;simp only[RD]at rx;subst rx;exact⟨rfl,rfl⟩
 | bl y=>cases e;simp only[RD]at rx;subst rx;exact⟨rfl,rfl⟩
 | int y=>cases e;simp only[RD]at rx;subst rx;exact⟨rfl,rfl⟩
 | str y=>cases e;simp only[RD]at rx;subst rx;exact⟨rfl,rfl⟩
 | tup y=>cases e;simp only[RD]at rx;obtain⟨q,xs,rfl,h2,_⟩:=rx;exact⟨rfl,.inl ⟨rfl,xs,h2⟩⟩
 | fl y=>cases e;simp only[RD]at rx;obtain⟨q,xs,rfl,h2,_⟩:=rx;exact⟨rfl,.inr (.inl ⟨rfl,xs,h2.sq⟩)⟩
 | ref n =>
  simp only[RD]at rx;obtain⟨q,rfl,h2⟩:=rx;unfold tyD at e;dsimp only at e;cases q1:h[n]? with
  | none=>rw[q1]at e;cases e
  | some ob =>
   rw[q1]at e;cases ob with
   | set ks=>cases e
   | dK kvs =>
    cases e;obtain⟨a1,n1,vs,o1,d1⟩:=r.at q1;rw[h2]at n1;cases n1;exact⟨rfl,.inr (.inr ⟨rfl,.inr ⟨_,o1⟩⟩)⟩
   | dF kvs=>cases e
   | exc c=>cases e
   | lst ds =>
    cases e;obtain⟨a1,n1,vs,o1,d1⟩:=r.at q1;rw[h2]at n1;cases n1;exact⟨rfl,.inr (.inl ⟨rfl,vs,SqL.of o1⟩)⟩
   | dct =>
    cases e;obtain⟨a1,n1,o1⟩:=r.at q1;rw[h2]at n1;cases n1;exact⟨rfl,.inr (.inr ⟨rfl,.inl o1⟩)⟩
theorem zF3 {x:D}{h h1:AH}{z:Exn}(e:tyD x h=.err z h1):False:=by
 cases x with
 | ref n =>
  unfold tyD at e;dsimp only at e;split at e<;>cases e
 | _=>cases e
def eIsi (T:String) (ma:G->M D):G->M D:=λγ=>do
 let x <- ma γ
 fIsi T x
theorem z1s {T:Str}{T':String}(hg:Gl X "isinstance") (hm:X.mg "isinstance" = none) (hgT:Gl X T) (hmT:X.mg T=none) (hv:K4w T=some (.type T')) (hT:T'∈tyAsked) (ha:SE X EX a ma) (hn:T≠"__name__":=by decide) (hd:(T==("__debug__":Str))=false:=by decide)
 (he:K05 [a,.Name T p2] X.env=[(false,eval a X.env),(false,eval (.Name T p2) X.env)]:=by rfl) (he2:K05 [.Name T p2] X.env=[(false,eval (.Name T p2) X.env)]:=by rfl):SE X EX (.Call (.Name "isinstance" p) [a,.Name T p2] [] pos) (eIsi T' ma):=by
 constructor;have hA:PA X [a,.Name T p2] (ze1 (tE X.K EX ma) (ze1 (tC (.ty T')) tNil)):=z1B ha.h (z1B (zr7 hgT hmT hv rfl hn hd) z2N he2) (by rw[he,he2]);refine PE.imp (z1K (zc6 hT) hg hm (by decide +kernel) hA (by decide) (by decide) (by rw[he,he2]) (by rw[he2];rfl)) λσ H Q ⟨ρ,γ,h,rel,fin⟩=>⟨ρ,γ,h,rel,(Fin.bind fin).mono λx ρ1 h1 H1 p1 e1 r1 f1 v rv=>?_⟩;have f2:=Fin.bind f1;cases e:tyD x h1 with
 | bad=>rw[e]at f2;exact f2.elim
 | err z hz=>exact(zF3 e).elim
 | ok t h2 =>
  obtain⟨rfl,ty⟩:=zA7 r1 rv e;rw[e]at f2;have f3:=f2 ρ1 H1 (Pre.refl _) (Ext.refl _ _) r1;exact⟨v,t,rfl,ty,FE.here f3 r1 (by simp[RD])⟩
def blsD:List D->Option (List Bool)
 | []=>some []
 | .bl b::r=>(blsD r).map (b::·)
 | _::_=>none
def fAll (any:Bool):List D->M D
 | [.ref n]=>do
  let xs <- getL n
  match blsD xs with
  | some bs=>pure (.bl (if any then bs.any id else bs.all id))
  | none=>bad
 | _=>bad
theorem z9n {K:K2}{ρ:List Addr}{H:Hp}:∀{xs:List D}{bs:List Bool}{vs:List V},blsD xs=some bs->RDs K ρ H xs vs->vs=bs.map V.bl
 | [],bs,vs,e,r=>by simp only[RDs]at r;cases e;subst r;rfl
 | x::xs,bs,vs,e,r=>by
  simp only[RDs]at r;obtain⟨v,r2,rfl,h1,h2⟩:=r;cases x<;>first|(simp only[blsD]at e;cases e;done)|skip
  rename_i b;simp only[blsD]at e;obtain⟨bs',e1,rfl⟩:=K06.mp e;simp only[RD]at h1;subst h1;rw[z9n e1 h2];rfl
theorem z6F:∀{bs:List Bool}{us:List Value},Vals (bs.map V.bl) us->us=bs.map K71
 | [],us,h=>by cases h;rfl
 | b::bs,us,h=>by
  cases h with
  | cons h1 h2=>cases h1;rw[z6F h2];rfl
theorem range_all {bs:List Bool}:((K0h bs.length).all λi=>bs.getD i false)=bs.all id:=by
 rw[K17,K1z,K1z];constructor
 ·intro h x hx;obtain⟨i,hi,rfl⟩:=K40 hx;have:=h i (K29.mpr hi);simpa [K9c,hi] using this
 ·intro h i hi;have hi':=K29.mp hi;have:=h bs[i] (K30 hi');simpa [K9c,hi'] using this
theorem range_any {bs:List Bool}:((K0h bs.length).any λi=>bs.getD i false)=bs.any id:=by
 rw[K17,K6e,K6e];constructor
 ·rintro⟨i,hi,h⟩;have hi':=K29.mp hi;refine⟨bs[i],K30 hi',?_⟩;simpa [K9c,hi'] using h
 ·rintro⟨x,hx,h⟩;obtain⟨i,hi,rfl⟩:=K40 hx;exact⟨i,K29.mpr hi,by simpa [K9c,hi] using h⟩
theorem z3A (any:Bool) (hc:X.calm=true):z2B X (.builtin (if any then "any" else "all")) (λxs H Q=>∃(q:Addr) (bs:List Bool),xs=[.ref q]/\SqL X.K H q (bs.map V.bl)/\Q (.bl (if any then bs.any id else bs.all id)) H):=by
 intro pins s σ H xs us Q I r h;obtain⟨q,bs,rfl,hq,hQ⟩:=h;obtain⟨u,rfl,ru⟩:=vals1 r;cases ru;obtain⟨its,rv,pl,hz⟩:=I.list hq;have ei:=z6F rv;have ne:q≠s.heap.objs.size:=K0g (by obtain⟨o,n,e,_⟩:=pl;exact K02 e);have pl':=pl.isList;have hwalk:=Walks.list (prog:=X.prog) (w:=X.w) (A:=X.A.in1) (show X.A.in1.handled=none from I.ok.hd hc) s.heap.objs.size q ne its.toArray;have len:its.toArray.size=bs.length:=by rw[ei];simp
 have st0:(s.heap.push { cls:=.type "list_iterator",data:=.fields #[.ref q,.int 0 0] }).IsListIter s.heap.objs.size q 0/\(s.heap.push { cls:=.type "list_iterator",data:=.fields #[.ref q,.int 0 0] }).IsList q its.toArray :=
  ⟨⟨_,K03 _ rfl,rfl,rfl⟩,pl'.at λo e=>K3 _ e⟩
 have tr:TruthOf X.prog X.w X.A.in1 (λi v=>its.toArray[i]?=some v) λi=>bs.getD i false:=λi v s' Q' E' hv hq'=>by
  have hv':its[i]?=some v:=by simpa using hv
  rw[ei,K8]at hv';cases eb:bs[i]? with
  | none=>rw[eb]at hv';cases hv'
  | some b =>
   rw[eb]at hv';cases hv';have:bs.getD i false=b:=by simp[K9c,eb]
   dsimp only at hq';rw[this]at hq';exact K3u hq'
 have fin:∀k,k=(if any then bs.any id else bs.all id)->∀h' tk,(∀b o,b∉[s.heap.objs.size]->(s.heap.push { cls:=.type "list_iterator",data:=.fields #[.ref q,.int 0 0] }).get? b=some o->h'.get? b=some o) ->
  EP X pins σ Q (.bool k) { s with heap:=h',toks:=tk }:=λk ek h' tk hk=>by
  subst ek;refine⟨.bl _,H,I.kept λb o e=>hk b o ?_ (K3 _ e),rfl,hQ⟩;intro z;have:b=s.heap.objs.size:=by simpa using z
  exact absurd (K02 e) (by rw[this];exact K2k _)
 cases any with
 | false =>
  refine call_all_walk (K62 pl' ⟨_,_,_,_,_,_,_,rfl,hwalk,st0,tr,λh' tk hk=>?_⟩);exact fin _ (by rw[len];exact range_all) h' tk hk
 | true =>
  refine call_any_walk (K62 pl' ⟨_,_,_,_,_,_,_,rfl,hwalk,st0,tr,λh' tk hk=>?_⟩);exact fin _ (by rw[len];exact range_any) h' tk hk
theorem zm2 {any:Bool}:AR X.K EX (λxs H Q=>∃(q:Addr) (bs:List Bool),xs=[.ref q]/\SqL X.K H q (bs.map V.bl)/\Q (.bl (if any then bs.any id else bs.all id)) H) (fAll any):=by
 intro ρ h H ds vs Q r rd fin;unfold fAll at fin;split at fin
 ·rename_i n;obtain⟨v,rfl,rv⟩:=rds1 rd;have f1:=Fin.bind fin;cases e:getL n h with
  | bad=>rw[e]at f1;exact f1.elim
  | err z hz=>exact(z0V e).elim
  | ok xs h1 =>
   obtain⟨rfl,q1⟩:=z0S e;rw[e]at f1;have f2:=f1 ρ H (Pre.refl _) (Ext.refl _ _) r;dsimp only at f2;cases eb:blsD xs with
   | none=>rw[eb]at f2;exact f2.elim
   | some bs =>
    rw[eb]at f2;simp only[RD]at rv;obtain⟨q,rfl,h2⟩:=rv;obtain⟨a1,n1,vs,o1,d1⟩:=r.at q1;rw[h2]at n1;cases n1;have ev:=z9n eb d1;subst ev;exact⟨q,bs,rfl,SqL.of o1,FE.here f2 r (by simp[RD])⟩
 ·exact fin.elim
theorem zl1 (hc:X.calm=true) (hg:Gl X "all") (hm:X.mg "all" = none) (ha:SA X EX [a] mr) (he:K05 [a] X.env=[(false,eval a X.env)]:=by rfl):SE X EX (.Call (.Name "all" p) [a] [] pos) (j7 (fAll false) mr) :=
 z1c (z1K (z3A false hc) hg hm (by decide +kernel) ha.h (by decide) (by decide) he rfl) zm2
theorem zK1 (hc:X.calm=true) (hg:Gl X "any") (hm:X.mg "any" = none) (ha:SA X EX [a] mr) (he:K05 [a] X.env=[(false,eval a X.env)]:=by rfl):SE X EX (.Call (.Name "any" p) [a] [] pos) (j7 (fAll true) mr) :=
 z1c (z1K (z3A true hc) hg hm (by decide +kernel) ha.h (by decide) (by decide) he rfl) zm2
end
abbrev EX0:XX:=λ_ _ _ _=>False
def spB (K:K2) (mf:List D->M D) (n:Nat):Sp:=λvs H Q _=>vs.length=n/\∃ρ ds h,RH K ρ h H/\RDs K ρ H ds vs/\FE K EX0 ρ H Q (mf ds h)
structure Fn (P:K0d) (w:World) (K:K2) (mg:Str->Option Value) (base:Heap) (k:Nat) (x:Str) (n:Nat) (mf:List D->M D):Prop where
 ex:∃f fd ps,FnOk P w K mg base CX0 k f fd ps (spB K mf n)/\Binds K fd ps []/\K2l K (.ref f)=true/\mg x=.(r f)
def eFn (n:Nat) (mf:List D->M D) (mr:G->M (List D)):G->M D:=λγ=>do
 let xs <- mr γ
 if xs.length=n then mf xs else bad
section
variable {X:Cx}{a b c e:Expr}{pos p p2:Pos}{ma mb mc:G->M D}{es:List Expr}{mr:G->M (List D)}{k n:Nat}{x:Str}{mf:List D->M D}
theorem Z9 (F:Fn X.prog X.w X.K X.mg X.base k x n mf) (hr:Room k X.A) (hg:Gl X x) (ha:SA X EX0 (a::es) mr) (hdb:(x==("__debug__":Str))=false:=by decide)
 (he:K05 (a::es) X.env=(false,eval a X.env)::K05 es X.env:=by rfl) (hpl:(backTo pos (K05 es X.env)).any (·.1)=false:=by rfl):SE X EX0 (.Call (.Name x p) (a::es) [] pos) (eFn n mf mr):=by
 constructor;obtain⟨f,fd,ps,h1,h2,h3,h4⟩:=F.ex;refine PE.imp (zw7 h1 hr hg h4 h3 h2 .nil zE3 ha.h hdb he hpl) λσ H Q ⟨ρ,γ,h,rel,fin⟩=>⟨ρ,γ,h,rel,(Fin.bind fin).mono λxs ρ1 h1 H1 p1 e1 r1 f1 vs rvs=>?_⟩;show spB X.K mf n (vs++[]) H1 Q E0;rw[K2c];by_cases hl:xs.length=n
 ·rw[if_pos hl]at f1;exact⟨by rw[<- rvs.length];exact hl,ρ1,xs,h1,r1,rvs,f1⟩
 ·rw[if_neg hl]at f1;exact(show False from f1).elim
end
def z1l (n:Nat) (ds:List D):G:=ds.map some++K0l (n - ds.length) none
def runF (n:Nat) (mb:G->M Out) (ds:List D):M D:=do
 let o <- mb (z1l n ds)
 match o with
 | .nx _=>pure .non
 | .rt d=>pure d
 | _=>bad
section
variable {P:K0d}{w:World}{K:K2}{mg:Str->Option Value}{base:Heap}
theorem z3U {ρ:List Addr}{H:Hp}{N:List Str}{ds:List D}{vs:List V}(h:RDs K ρ H ds vs):RG K ρ H (z1l N.length ds) (L2.start N vs):=by
 have hl:=h.length;refine⟨by unfold z1l L2.start;simp[hl],λi d e=>?_⟩;unfold z1l at e;unfold L2.start;rw[K3t]at e ⊢;rw[K4]at e ⊢;rw[<- hl];split at e
 ·rename_i hi;rw[if_pos hi];rw[K8]at e ⊢;cases q:ds[i]? with
  | none=>rw[q]at e;cases e
  | some d' =>
   rw[q]at e;cases e;obtain⟨v,h1,h2⟩:=h.get q;exact⟨v,by rw[h1];rfl,h2⟩
 ·rw[K87]at e;split at e<;>cases e
end
section
variable {env:Env}{t:Option Expr}{l:Nat}{tg:List Expr}
theorem z9G {a p}:K2i (.List a p) t l env=pure false:=rfl
theorem z6s {a b p}:K2i (.Tuple a b p) t l env=pure false:=rfl
theorem z3R {c k p}:K2i (.Constant c k p) t l env=pure false:=rfl
theorem z8j {c p}:K2i (.Name c p) t l env=pure false:=rfl
theorem z8t {a b c p}:K2i (.Call a b c p) t l env=pure false:=rfl
theorem z72 {a b c p}:K2i (.BinOp a b c p) t l env=pure false:=rfl
theorem z4b {a b c p}:K2i (.Compare a b c p) t l env=pure false:=rfl
theorem z36 {a b p}:K2i (.Subscript a b p) t l env=pure false:=rfl
theorem z4j {a b p}:K2i (.UnaryOp a b p) t l env=pure false:=rfl
theorem z5p {a b p}:K2i (.BoolOp a b p) t l env=pure false:=rfl
theorem z6Q {a b c p}:K2i (.IfExp a b c p) t l env=pure false:=rfl
end
section
variable {X:Cx}{EX:XX}{a b c e:Expr}{pos p p2:Pos}{ma mb mc:G->M D}{ka kb kc:G->M Bool}{st:Stmt}{sts:List Stmt}{ms mt:G->M Out}
def bNil:G->M Out:=λγ=>pure (.nx γ)
def Z3 (ms mt:G->M Out):G->M Out:=λγ=>do
 let o <- ms γ
 match o with
 | .nx γ'=>mt γ'
 | o=>pure o
theorem Z7:SB X EX [] bNil:=⟨PSs.imp zr8 λσ H D ⟨ρ,γ,h,rel,fin⟩=>fin ρ H (Pre.refl _) (Ext.refl _ _) rel.h σ rel.g⟩
theorem Z2 (h1:S1 X EX st ms) (h2:SB X EX sts mt):SB X EX (st::sts) (Z3 ms mt) :=
 ⟨PSs.imp (zc0 h1.h h2.h) λσ H D ⟨ρ,γ,h,rel,fin⟩=>⟨ρ,γ,h,rel,(Fin.bind fin).mono λo ρ1 h1 H1 p1 e1 r1 f1=>by
  cases o with
  | nx γ'=>exact λσ' rg=>⟨ρ1,γ',h1,⟨rg,r1⟩,f1⟩
  | rt d=>exact f1 ρ1 H1 (Pre.refl _) (Ext.refl _ _) r1
  | bk γ'=>exact f1 ρ1 H1 (Pre.refl _) (Ext.refl _ _) r1
  | ct γ'=>exact f1 ρ1 H1 (Pre.refl _) (Ext.refl _ _) r1⟩⟩
theorem zz5:S1 X EX st (λ_=>bad):=⟨PS.imp zj0 λσ H D ⟨ρ,γ,h,rel,fin⟩=>(show False from fin)⟩
def sRet (ma:G->M D):G->M Out:=λγ=>do
 let d <- ma γ
 pure (.rt d)
theorem y6 (ha:SE X EX a ma):S1 X EX (.Return (some a) pos) (sRet ma) :=
 ⟨PS.imp (zK8 ha.h) λσ H D ⟨ρ,γ,h,rel,fin⟩=>⟨ρ,γ,h,rel,(Fin.bind fin).mono λd ρ1 h1 H1 p1 e1 r1 f1 v rv=>f1 ρ1 H1 (Pre.refl _) (Ext.refl _ _) r1 v rv⟩⟩
def z0I (ma:G->M D):G->M Out:=λγ=>do
 let _ <- ma γ
 pure (.nx γ)
theorem z0X (ha:SE X EX a ma) (hs:K2i a none pos.line X.env=pure false:=by first|exact z9G|exact z6s|exact z3R|exact z8j|exact z8t|exact z72|exact z4b|exact z36|exact z4j|exact z5p|exact z6Q|rfl):S1 X EX (.Expr a pos) (z0I ma) :=
 ⟨PS.imp (zs7 ha.h hs) λσ H D ⟨ρ,γ,h,rel,fin⟩=>⟨ρ,γ,h,rel,(Fin.bind fin).mono λd ρ1 h1 H1 p1 e1 r1 f1 v rv=>f1 ρ1 H1 (Pre.refl _) (Ext.refl _ _) r1 σ (rel.g.mono p1 e1)⟩⟩
def sIf (k:G->M Bool) (ms mt:G->M Out):G->M Out:=λγ=>do
 let t <- k γ
 if t then ms γ else mt γ
theorem s_if {sts':List Stmt}(hc:SC X EX c kc) (h1:SB X EX sts ms) (h2:SB X EX sts' mt):S1 X EX (.If c sts sts' pos) (sIf kc ms mt) :=
 ⟨PS.imp (zU3 hc.h h1.h h2.h) λσ H D ⟨ρ,γ,h,rel,fin⟩=>⟨ρ,γ,h,rel,(Fin.bind fin).mono λt ρ1 h1 H1 p1 e1 r1 f1=>by
  cases t with
  | true=>exact⟨ρ1,γ,h1,⟨rel.g.mono p1 e1,r1⟩,f1⟩
  | false=>exact⟨ρ1,γ,h1,⟨rel.g.mono p1 e1,r1⟩,f1⟩⟩⟩
def tG (K:K2) (EX:XX) (m:D->G->M G):TG:=λv σ H Q=>∃ρ γ h d,Rel K ρ γ h σ H/\RD K ρ H d v/\Fin K EX ρ H (λγ' ρ' _ H'=>∀σ',RG K ρ' H' γ' σ'->Q σ' H') (m d γ h)
def tGs (K:K2) (EX:XX) (m:List D->G->M G):TGs:=λvs σ H Q=>∃ρ γ h ds,Rel K ρ γ h σ H/\RDs K ρ H ds vs/\Fin K EX ρ H (λγ' ρ' _ H'=>∀σ',RG K ρ' H' γ' σ'->Q σ' H') (m ds γ h)
structure SG (X:Cx) (EX:XX) (tg:Expr) (m:D->G->M G):Prop where
 h:PG X tg (tG X.K EX m)
structure SGs (X:Cx) (EX:XX) (tg:List Expr) (m:List D->G->M G):Prop where
 h:PGs X tg (tGs X.K EX m)
theorem PG.imp {X:Cx}{e:Expr}{t t':TG}(h:PG X e t) (f:∀v σ H Q,t' v σ H Q->t v σ H Q):PG X e t':=λpins s σ H v u Q I r z=>h pins s σ H v u Q I r (f v σ H Q z)
theorem PGs.imp {X:Cx}{e:List Expr}{t t':TGs}(h:PGs X e t) (f:∀v σ H Q,t' v σ H Q->t v σ H Q):PGs X e t':=λpins s σ H v u Q I r z=>h pins s σ H v u Q I r (f v σ H Q z)
def tGk (K:K2) (EX:XX) (own:List Nat) (m:D->G->M G):TG:=λv σ H Q=>∃ρ γ h d,Rel K ρ γ h σ H/\RD K ρ H d v/\Fin K EX ρ H (λγ' ρ' _ H'=>∀σ',RG K ρ' H' γ' σ'->(∀j:Nat,j∉own->σ'[j]?=σ[j]?)->Q σ' H') (m d γ h)
def tGks (K:K2) (EX:XX) (own:List Nat) (m:List D->G->M G):TGs:=λvs σ H Q=>∃ρ γ h ds,Rel K ρ γ h σ H/\RDs K ρ H ds vs/\Fin K EX ρ H (λγ' ρ' _ H'=>∀σ',RG K ρ' H' γ' σ'->(∀j:Nat,j∉own->σ'[j]?=σ[j]?)->Q σ' H') (m ds γ h)
structure SGk (X:Cx) (EX:XX) (tg:Expr) (own:List Nat) (m:D->G->M G):Prop where
 h:PG X tg (tGk X.K EX own m)
structure SGks (X:Cx) (EX:XX) (tg:List Expr) (own:List Nat) (m:List D->G->M G):Prop where
 h:PGs X tg (tGks X.K EX own m)
def gN (i:Nat):D->G->M G:=λd γ=>pure (γ.set i (some d))
theorem k9 (i:Nat) {x:Str}(hN:X.N.Nodup) (hi:X.N[i]?=some x:=by rfl) (hx:Loc X.env.scope x:=by first|exact Or.inl rfl|exact Or.inr rfl) (hf:X.fn x=true\/X.env.scope.names.lookup x=some .local:=by first|exact .inl rfl|exact .inr rfl|assumption):SG X EX (.Name x pos) (gN i) :=
 ⟨PG.imp (z5T hN hi hx hf) λv σ H Q ⟨ρ,γ,h,d,rel,rd,fin⟩=>fin ρ H (Pre.refl _) (Ext.refl _ _) rel.h _ (rel.g.set i rd)⟩
theorem J5 (i:Nat) {x:Str}(hN:X.N.Nodup) (hi:X.N[i]?=some x:=by rfl) (hx:Loc X.env.scope x:=by first|exact Or.inl rfl|exact Or.inr rfl) (hf:X.fn x=true\/X.env.scope.names.lookup x=some .local:=by first|exact .inl rfl|exact .inr rfl|assumption):SGk X EX (.Name x pos) [i] (gN i) :=
 ⟨PG.imp (z5T hN hi hx hf) λv σ H Q ⟨ρ,γ,h,d,rel,rd,fin⟩=>fin ρ H (Pre.refl _) (Ext.refl _ _) rel.h _ (rel.g.set i rd) λj hj=>K1f (λz=>hj (by simp[z]))⟩
def z33:List D->G->M G:=λds γ=>match ds with
 | []=>pure γ
 | _=>bad
def z01 (m:D->G->M G) (ms:List D->G->M G):List D->G->M G:=λds γ=>match ds with
 | []=>bad
 | d::r=>do
  let γ1 <- m d γ
  ms r γ1
theorem z2D:SGs X EX [] z33:=⟨PGs.imp z8W λv σ H Q ⟨ρ,γ,h,ds,rel,rd,fin⟩=>by
 cases ds with
 | nil=>simp only[RDs]at rd;exact⟨rd,fin ρ H (Pre.refl _) (Ext.refl _ _) rel.h σ rel.g⟩
 | cons d r=>exact(show False from fin).elim⟩
theorem v3 {es:List Expr}{m:D->G->M G}{mr:List D->G->M G}(h1:SG X EX e m) (h2:SGs X EX es mr) (hs:(K2q (e::es) X.env).map (·.2)=assign e X.env::(K2q es X.env).map (·.2):=by rfl):SGs X EX (e::es) (z01 m mr) :=
 ⟨PGs.imp (z7r h1.h h2.h hs) λvs σ H Q ⟨ρ,γ,h,ds,rel,rd,fin⟩=>by
  cases ds with
  | nil=>exact(show False from fin).elim
  | cons d r =>
   simp only[RDs]at rd;obtain⟨v,vr,rfl,h3,h4⟩:=rd;have fin':Fin X.K EX ρ H (λγ' ρ' _ H'=>∀σ',RG X.K ρ' H' γ' σ'->Q σ' H') ((m d γ >>= λγ1=>mr r γ1) h):=fin;exact⟨v,vr,rfl,ρ,γ,h,d,rel,h3,(Fin.bind fin').mono λγ1 ρ1 h1 H1 p1 e1 r1 f1 σ1 g1=>⟨ρ1,γ1,h1,r,⟨g1,r1⟩,h4.mono p1 e1,f1⟩⟩⟩
theorem z4v:SGks X EX [] [] z33:=⟨PGs.imp z8W λv σ H Q ⟨ρ,γ,h,ds,rel,rd,fin⟩=>by
 cases ds with
 | nil=>simp only[RDs]at rd;exact⟨rd,fin ρ H (Pre.refl _) (Ext.refl _ _) rel.h σ rel.g λ_ _=>rfl⟩
 | cons d r=>exact(show False from fin).elim⟩
theorem z1j {es:List Expr}{o1 o2:List Nat}{m:D->G->M G}{mr:List D->G->M G}(h1:SGk X EX e o1 m) (h2:SGks X EX es o2 mr) (hs:(K2q (e::es) X.env).map (·.2)=assign e X.env::(K2q es X.env).map (·.2):=by rfl):SGks X EX (e::es) (o1++o2) (z01 m mr) :=
 ⟨PGs.imp (z7r h1.h h2.h hs) λvs σ H Q ⟨ρ,γ,h,ds,rel,rd,fin⟩=>by
  cases ds with
  | nil=>exact(show False from fin).elim
  | cons d r =>
   simp only[RDs]at rd;obtain⟨v,vr,rfl,h3,h4⟩:=rd;have fin':Fin X.K EX ρ H (λγ' ρ' _ H'=>∀σ',RG X.K ρ' H' γ' σ'->(∀j:Nat,j∉o1++o2->σ'[j]?=σ[j]?)->Q σ' H') ((m d γ >>= λγ1=>mr r γ1) h):=fin;refine⟨v,vr,rfl,ρ,γ,h,d,rel,h3,(Fin.bind fin').mono λγ1 ρ1 h1 H1 p1 e1 r1 f1 σ1 g1 k1=>⟨ρ1,γ1,h1,r,⟨g1,r1⟩,h4.mono p1 e1,f1.mono λγ2 ρ2 h2 H2 p2 e2 r2 f2 σ2 g2 k2=>f2 σ2 g2 λj hj=>?_⟩⟩;rw[K0n,not_or]at hj;rw[k2 j hj.2,k1 j hj.1]⟩
def gT (n:Nat) (m:List D->G->M G):D->G->M G:=λd γ=>match d with
 | .tup xs=>if xs.length=n then m xs γ else bad
 | _=>bad
theorem z3E {es:List Expr}{k n:Nat}{m:List D->G->M G}(hc:X.calm=true) (h:SGs X EX es m) (hn:(K2q es X.env).length=n:=by rfl) (hst:(K2q es X.env).findIdx? (·.1)=none:=by rfl):SG X EX (.Tuple es k pos) (gT n m) :=
 ⟨PG.imp (zk2 hc h.h hn hst) λv σ H Q ⟨ρ,γ,h,d,rel,rd,fin⟩=>by
  cases d<;>first|exact(show False from fin).elim|skip
  rename_i xs;simp only[RD]at rd;obtain⟨q,vs,rfl,h1,h2⟩:=rd;have fin':Fin X.K EX ρ H (λγ' ρ' _ H'=>∀σ',RG X.K ρ' H' γ' σ'->Q σ' H') ((if xs.length=n then m xs γ else bad) h):=fin;by_cases hl:xs.length=n
  ·rw[if_pos hl]at fin';exact⟨q,vs,rfl,h1,by rw[<- h2.length];exact hl,ρ,γ,h,xs,rel,h2,fin'⟩
  ·rw[if_neg hl]at fin';exact(show False from fin').elim⟩
theorem z62 {es:List Expr}{k n:Nat}{own:List Nat}{m:List D->G->M G}(hc:X.calm=true) (h:SGks X EX es own m) (hn:(K2q es X.env).length=n:=by rfl) (hst:(K2q es X.env).findIdx? (·.1)=none:=by rfl):SGk X EX (.Tuple es k pos) own (gT n m) :=
 ⟨PG.imp (zk2 hc h.h hn hst) λv σ H Q ⟨ρ,γ,h,d,rel,rd,fin⟩=>by
  cases d<;>first|exact(show False from fin).elim|skip
  rename_i xs;simp only[RD]at rd;obtain⟨q,vs,rfl,h1,h2⟩:=rd;have fin':Fin X.K EX ρ H (λγ' ρ' _ H'=>∀σ',RG X.K ρ' H' γ' σ'->(∀j:Nat,j∉own->σ'[j]?=σ[j]?)->Q σ' H') ((if xs.length=n then m xs γ else bad) h):=fin;by_cases hl:xs.length=n
  ·rw[if_pos hl]at fin';exact⟨q,vs,rfl,h1,by rw[<- h2.length];exact hl,ρ,γ,h,xs,rel,h2,fin'⟩
  ·rw[if_neg hl]at fin';exact(show False from fin').elim⟩
def fSet:D->D->D->M Unit:=λo i v=>match o,i with
 | .ref n,.int k=>λh=>match h[n]? with
  | .(l xs)=>(match ixN xs.length k with
   | some j=>.ok () (h.set n (.lst (xs.set j v)))
   | none=>.bad)
  | _=>.bad
 | _,_=>bad
def gIx (mo mi:G->M D):D->G->M G:=λv γ=>do
 let o <- mo γ;let i <- mi γ;let _ <- fSet o i v
 pure γ
theorem z8y {o i:Expr}{mo mi:G->M D}(ho:SE X EX o mo) (hi:SE X EX i mi)
 (ha:∀v,assign (.Subscript o i pos) X.env v=(do
  let ov <- K41 [v] (eval o X.env);let iv <- K41 [v,ov] (eval i X.env)
  K6j pos
  K41 [v,ov,iv] (Z17 ov iv v)
  release [v,ov,iv] []):=by intro _;rfl):SG X EX (.Subscript o i pos) (gIx mo mi) :=
 ⟨PG.imp (zm6 ho.h hi.h set_list ha) λv σ H Q ⟨ρ,γ,h,d,rel,rd,fin⟩=>⟨ρ,γ,h,rel,(Fin.bind fin).mono λod ρ1 h1 H1 p1 e1 r1 f1 ov ro=>⟨ρ1,γ,h1,⟨rel.g.mono p1 e1,r1⟩,(Fin.bind f1).mono λid ρ2 h2 H2 p2 e2 r2 f2 iv ri=>by
  have f3:=Fin.bind f2;cases od<;>first|exact(show False from f3).elim|skip
  rename_i n;cases id<;>first|exact(show False from f3).elim|skip
  rename_i k;simp only[RD]at ro ri;obtain⟨q,rfl,hq⟩:=ro;subst ri;have hq2:=p2 n q hq;unfold fSet at f3;dsimp only at f3;cases e4:h2[n]? with
  | none=>rw[e4]at f3;exact(show False from f3).elim
  | some ob =>
   cases ob with
   | set ks=>rw[e4]at f3;exact(show False from f3).elim
   | dct=>rw[e4]at f3;exact(show False from f3).elim
   | dK kvs=>rw[e4]at f3;exact(show False from f3).elim
   | dF kvs=>rw[e4]at f3;exact(show False from f3).elim
   | exc c=>rw[e4]at f3;exact(show False from f3).elim
   | lst xs =>
    rw[e4]at f3;dsimp only at f3;cases e5:ixN xs.length k with
    | none=>rw[e5]at f3;exact(show False from f3).elim
    | some j =>
     rw[e5]at f3;obtain⟨a1,n1,vs,o1,d1⟩:=r2.at e4;rw[hq2]at n1;cases n1;have rd2:=(rd.mono p1 e1).mono p2 e2;have dd:=d1.set j rd2;refine⟨q,vs,k,j,rfl,rfl,o1,by rw[<- d1.length];exact e5,?_⟩;have ext:Ext X.K H2 (upd H2 q (.lst (vs.set j v))):=Ext.upd (.inr ⟨_,o1,trivial⟩);have f4:=f3 ρ2 _ (Pre.refl _) ext (r2.set e4 hq2 dd);exact f4 ρ2 _ (Pre.refl _) (Ext.refl _ _) (r2.set e4 hq2 dd) σ (((rel.g.mono p1 e1).mono p2 e2).mono (Pre.refl _) ext)⟩⟩⟩
def sAsg (ma:G->M D) (g:D->G->M G):G->M Out:=λγ=>do
 let d <- ma γ;let γ1 <- g d γ
 pure (.nx γ1)
theorem z4L {tg:Expr}{g:D->G->M G}(ha:SE X EX a ma) (hg:SG X EX tg g) (hs:swapsWithSole [tg] a pos.line X.env=pure false:=by rfl) (hw:swappedStores [tg] a X.env=pure none:=by rfl)
 (h1:(K2q [tg] X.env).map (·.2)=[assign tg X.env]:=by rfl):S1 X EX (.Assign [tg] a pos) (sAsg ma g) :=
 ⟨PS.imp (zP8 ha.h hg.h hs hw h1) λσ H D ⟨ρ,γ,h,rel,fin⟩=>⟨ρ,γ,h,rel,(Fin.bind fin).mono λd ρ1 h1 H1 p1 e1 r1 f1 v rv=>⟨ρ1,γ,h1,d,⟨rel.g.mono p1 e1,r1⟩,rv,(Fin.bind f1).mono λγ1 ρ2 h2 H2 p2 e2 r2 f2 σ2 g2 =>
  f2 ρ2 H2 (Pre.refl _) (Ext.refl _ _) r2 σ2 g2⟩⟩⟩
theorem y0 (i:Nat) {x:Str}(hN:X.N.Nodup) (ha:SE X EX a ma) (hi:X.N[i]?=some x:=by rfl) (hx:Loc X.env.scope x:=by first|exact Or.inl rfl|exact Or.inr rfl) (hs:K2i a (some (.Name x p)) pos.line X.env=pure false:=by first|exact z9G|exact z6s|exact z3R|exact z8j|exact z8t|exact z72|exact z4b|exact z36|exact z4j|exact z5p|exact z6Q|rfl)
 (hf:X.fn x=true\/X.env.scope.names.lookup x=some .local:=by first|exact .inl rfl|exact .inr rfl|assumption):S1 X EX (.Assign [.Name x p] a pos) (sAsg ma (gN i)) :=
 ⟨PS.imp (zD8 hN hi hx ha.h hs hf) λσ H D ⟨ρ,γ,h,rel,fin⟩=>⟨ρ,γ,h,rel,(Fin.bind fin).mono λd ρ1 h1 H1 p1 e1 r1 f1 v rv=>f1 ρ1 H1 (Pre.refl _) (Ext.refl _ _) r1 _ ((rel.g.mono p1 e1).set i rv)⟩⟩
end
section
variable {X:Cx}{EX:XX}{a o e:Expr}{pos cpos apos:Pos}{ma mo:G->M D}
def updL (n:Nat) (f:List D->Option (D×List D)):M D:=λh=>match h[n]? with
 | .(l xs)=>(match f xs with
  | some (d,ys)=>if ys.length<=sizeLine then .ok d (h.set n (.lst ys)) else .bad
  | none=>.bad)
 | _=>.bad
def z22:D->M Nat
 | .ref n=>λh=>match h[n]? with
  | .(l _)=>.ok n h
  | _=>.bad
 | _=>bad
def w6 (n:Nat) (v:D):M D:=updL n λxs=>some (.non,xs++[v])
def fPop (n:Nat):M D:=updL n λxs=>(xs[xs.length - 1]?).map λd=>(d,xs.dropLast)
def z4g (n:Nat) (i:D):M D:=match i with
 | .int k=>updL n λxs=>if -(2 ^ 63)<=k/\k<2 ^ 63 then (match K80 k xs.length with
  | some j=>(xs[j]?).map λd=>(d,xs.eraseIdx j)
  | none=>none) else none
 | _=>bad
def eM1 (f:Nat->D->M D) (mo ma:G->M D):G->M D:=λγ=>do
 let o <- mo γ;let n <- z22 o;let v <- ma γ
 f n v
def eM0 (f:Nat->M D) (mo:G->M D):G->M D:=λγ=>do
 let o <- mo γ;let n <- z22 o
 f n
theorem z4U {K:K2}{ρ:List Addr}{h:AH}{H:Hp}{Q:VK}{n:Nat}{q:Addr}{f:List D->Option (D×List D)}(r:RH K ρ h H) (hq:ρ[n]?=some q) (fin:FE K EX ρ H Q (updL n f h)) :
 ∃xs d ys vs,f xs=some (d,ys)/\ys.length<=sizeLine/\H q=.(l vs)/\RDs K ρ H xs vs/\∀v ws,RD K ρ H d v->RDs K ρ H ys ws->Q v (upd H q (.lst ws)):=by
 unfold updL at fin;cases e:h[n]? with
 | none=>rw[e]at fin;exact fin.elim
 | some ob =>
  cases ob with
  | set ks=>rw[e]at fin;exact fin.elim
  | dct=>rw[e]at fin;exact fin.elim
  | dK kvs=>rw[e]at fin;exact fin.elim
  | dF kvs=>rw[e]at fin;exact fin.elim
  | exc c=>rw[e]at fin;exact fin.elim
  | lst xs =>
   rw[e]at fin;dsimp only at fin;cases e2:f xs with
   | none=>rw[e2]at fin;exact fin.elim
   | some dy =>
    obtain⟨d,ys⟩:=dy;rw[e2]at fin;dsimp only at fin;split at fin
    ·rename_i hl;obtain⟨a1,n1,vs,o1,d1⟩:=r.at e;rw[hq]at n1;cases n1;refine⟨xs,d,ys,vs,e2,hl,o1,d1,λv ws rv rw'=>?_⟩;have ext:Ext K H (upd H q (.lst ws)):=Ext.upd (.inr ⟨_,o1,trivial⟩);exact fin ρ _ (Pre.refl _) ext (r.set e hq rw') v (rv.mono (Pre.refl _) ext)
    ·exact fin.elim
theorem za4 {K:K2}{ρ:List Addr}{h:AH}{H:Hp}{n:Nat}{q:Addr}{Z:Nat->List Addr->AH->Hp->Prop}(r:RH K ρ h H) (hq:ρ[n]?=some q) (f:Fin K EX ρ H Z (z22 (.ref n) h)):tyV K "list" (.ref q) H/\Z n ρ h H:=by
 unfold z22 at f;dsimp only at f;cases e:h[n]? with
 | none=>rw[e]at f;exact f.elim
 | some ob =>
  cases ob with
  | set ks=>rw[e]at f;exact f.elim
  | dct=>rw[e]at f;exact f.elim
  | dK kvs=>rw[e]at f;exact f.elim
  | dF kvs=>rw[e]at f;exact f.elim
  | exc c=>rw[e]at f;exact f.elim
  | lst xs =>
   rw[e]at f;obtain⟨a1,n1,vs,o1,d1⟩:=r.at e;rw[hq]at n1;cases n1;exact⟨.inl ⟨rfl,vs,SqL.of o1⟩,f ρ H (Pre.refl _) (Ext.refl _ _) r⟩
theorem zn8 {f:Nat->D->M D}{r:V->List V->Hp->VK->Prop}(hr:∀ρ h H n q y u Q,RH X.K ρ h H->ρ[n]?=some q->RD X.K ρ H y u->FE X.K EX ρ H Q (f n y h)->r (.ref q) [u] H Q) :
 ∀σ H Q,tE X.K EX (eM1 f mo ma) σ H Q->tBM X.K "list" r (tE X.K EX mo) (ze1 (tE X.K EX ma) tNil) σ H Q:=λσ H Q ⟨ρ,γ,h,rel,fin⟩=>⟨ρ,γ,h,rel,(Fin.bind fin).mono λx ρ1 h1 H1 p1 e1 r1 f1 v rv=>by
 have f2:=Fin.bind f1;cases x<;>first|exact(show False from f2).elim|skip
 rename_i n;simp only[RD]at rv;obtain⟨q,rfl,hq⟩:=rv;obtain⟨lt,f3⟩:=za4 r1 hq f2;exact⟨lt,ρ1,γ,h1,⟨rel.g.mono p1 e1,r1⟩,(Fin.bind f3).mono λy ρ2 h2 H2 p2 e2 r2 f4 u ru=>hr ρ2 h2 H2 n q y u Q r2 (p2 n q hq) ru f4⟩⟩
theorem zT5 {f:Nat->M D}{r:V->List V->Hp->VK->Prop}(hr:∀ρ h H n q Q,RH X.K ρ h H->ρ[n]?=some q->FE X.K EX ρ H Q (f n h)->r (.ref q) [] H Q) :
 ∀σ H Q,tE X.K EX (eM0 f mo) σ H Q->tBM0 X.K "list" r (tE X.K EX mo) σ H Q:=λσ H Q ⟨ρ,γ,h,rel,fin⟩=>⟨ρ,γ,h,rel,(Fin.bind fin).mono λx ρ1 h1 H1 p1 e1 r1 f1 v rv=>by
 have f2:=Fin.bind f1;cases x<;>first|exact(show False from f2).elim|skip
 rename_i n;simp only[RD]at rv;obtain⟨q,rfl,hq⟩:=rv;obtain⟨lt,f3⟩:=za4 r1 hq f2;exact⟨lt,hr ρ1 h1 H1 n q Q r1 hq f3⟩⟩
theorem v7 (ho:SE X EX o mo) (ha:SE X EX a ma)
 (hbase:K3z o "append" X.env (eval o X.env)=eval o X.env:=by rfl)
 (hfew:((backTo cpos (K05 [a] X.env)).all (λx=>!x.1)&&(K4f cpos (K2x [] X.env)).all (λx=>x.1.isSome)
 &&decide (([a]:List Expr).length+([]:List K42).length+(if ([]:List K42).isEmpty then 0 else 1)<30))=true:=by rfl)
 (hline:(apos.endLine==cpos.line)=true:=by rfl) (hs:K05 [a] X.env=[(false,eval a X.env)]:=by rfl) :
 SE X EX (.Call (.Attribute o "append" apos) [a] [] cpos) (eM1 w6 mo ma) :=
 ⟨PE.imp (zq7 K43 PySem.F.slot_list_append PySem.F.type_list_append z5g ho.h (z1B ha.h z2N hs) hbase hfew hline hs rfl) (zn8 λρ h H n q y u Q r hq ru fin=>by
  obtain⟨xs,d,ys,vs,g1,g2,g3,g4,g5⟩:=z4U r hq fin;cases g1;have hl:=g4.length;rw[K04,K1b]at g2;exact⟨q,vs,u,rfl,rfl,g3,by omega,g5 _ _ (by simp[RD]) (g4.append (RDs.cons ru RDs.nil))⟩)⟩
theorem RDs.dropLast {K:K2}{ρ:List Addr}{H:Hp}{ds:List D}{xs:List V}(h:RDs K ρ H ds xs):RDs K ρ H ds.dropLast xs.dropLast:=by
 rw[K90,K90,h.length];exact h.take _
theorem zG0 (ho:SE X EX o mo) (hbase:K3z o "pop" X.env (eval o X.env)=eval o X.env:=by rfl) (hline:(apos.endLine==cpos.line)=true:=by rfl) :
 SE X EX (.Call (.Attribute o "pop" apos) [] [] cpos) (eM0 fPop mo) :=
 ⟨PE.imp (zK2 K43 K8x K8w zJ9 ho.h hbase hline) (zT5 λρ h H n q Q r hq fin=>by
  obtain⟨xs,d,ys,vs,g1,g2,g3,g4,g5⟩:=z4U r hq fin;obtain⟨d',e1,e2⟩:=K06.mp g1;cases e2;obtain⟨v,e3,e4⟩:=g4.get e1;rw[g4.length]at e3;exact⟨q,vs,v,rfl,rfl,g3,e3,g5 _ _ e4 g4.dropLast⟩)⟩
theorem ze9 (ho:SE X EX o mo) (ha:SE X EX a ma)
 (hbase:K3z o "pop" X.env (eval o X.env)=eval o X.env:=by rfl)
 (hfew:((backTo cpos (K05 [a] X.env)).all (λx=>!x.1)&&(K4f cpos (K2x [] X.env)).all (λx=>x.1.isSome)
 &&decide (([a]:List Expr).length+([]:List K42).length+(if ([]:List K42).isEmpty then 0 else 1)<30))=true:=by rfl)
 (hline:(apos.endLine==cpos.line)=true:=by rfl) (hs:K05 [a] X.env=[(false,eval a X.env)]:=by rfl) :
 SE X EX (.Call (.Attribute o "pop" apos) [a] [] cpos) (eM1 z4g mo ma) :=
 ⟨PE.imp (zq7 K43 K8x K8w zd7 ho.h (z1B ha.h z2N hs) hbase hfew hline hs rfl) (zn8 λρ h H n q y u Q r hq ru fin=>by
  cases y<;>first|exact(show False from fin).elim|skip
  rename_i k;simp only[RD]at ru;subst ru;obtain⟨xs,d,ys,vs,g1,g2,g3,g4,g5⟩:=z4U r hq fin;split at g1
  ·rename_i hk;cases e5:K80 k xs.length with
   | none=>rw[e5]at g1;cases g1
   | some j =>
    rw[e5]at g1;obtain⟨d',e1,e2⟩:=K06.mp g1;cases e2;obtain⟨v,e3,e4⟩:=g4.get e1;exact⟨q,vs,k,j,v,rfl,rfl,g3,hk.1,hk.2,by rw[<- g4.length];exact e5,e3,g5 _ _ e4 (g4.eraseIdx j)⟩
  ·cases g1)⟩
end
inductive Src where
 | con (xs:List D)
 | lst (n:Nat) (xs:List D)
 | obj (n:Nat) (o:O) (xs:List D)
def Src.items:Src->List D
 | .con xs=>xs
 | .lst _ xs=>xs
 | .obj _ _ xs=>xs
def Src.good:Src->AH->Prop
 | .con _,_=>True
 | .lst n xs,h=>h[n]?=.(l xs)
 | .obj n o _,h=>h[n]?=some o
open Classical in
noncomputable def Src.chk (s:Src):M Unit:=λh=>if s.good h then .ok () h else .bad
def JOK (K:K2) (src:Src) (ρ:List Addr) (H:Hp) (J:It):Prop:=∀i ρ1 h1 H1,Pre ρ ρ1->Ext K H H1->RH K ρ1 h1 H1->src.good h1 ->
 (∀d,src.items[i]?=some d->J.go i H1/\∀x H2,J.yld i H1 x H2->RD K ρ1 H2 d x/\RH K ρ1 h1 H2/\Ext K H1 H2)/\(src.items.length=i->J.stop i H1)
def tI (K:K2) (EX:XX) (m:G->M Src):TI:=λσ H R=>∃ρ γ h,Rel K ρ γ h σ H/\Fin K EX ρ H (λsrc ρ' _ H'=>∀J,JOK K src ρ' H' J->R J H') (m γ h)
structure SI (X:Cx) (EX:XX) (tg iter:Expr) (m:G->M Src):Prop where
 h:PI X tg iter (tI X.K EX m)
theorem PI.imp {X:Cx}{tg e:Expr}{t t':TI}(h:PI X tg e t) (f:∀σ H R,t' σ H R->t σ H R):PI X tg e t':=λpins s σ H R I z=>h pins s σ H R I (f σ H R z)
section
variable {X:Cx}{EX:XX}{a o e tg:Expr}{pos cpos apos p:Pos}{ma mo:G->M D}{mr:G->M (List D)}
def z19 (ma:G->M D):G->M Src:=λγ=>do
 let x <- ma γ
 match x with
 | .fl xs=>pure (.con xs)
 | .ref n=>do
  let xs <- getL n
  pure (.lst n xs)
 | _=>bad
theorem z1I (ha:SE X EX a ma):SI X EX tg a (z19 ma) :=
 ⟨PI.imp (zA4 ha.h) λσ H R ⟨ρ,γ,h,rel,fin⟩=>⟨ρ,γ,h,rel,(Fin.bind fin).mono λx ρ1 h1 H1 p1 e1 r1 f1 v rv=>by
  cases x<;>first|exact(show False from f1).elim|skip
  case fl xs =>
   simp only[RD]at rv;obtain⟨q,vs,rfl,h2,h3⟩:=rv;refine⟨q,rfl,⟨vs,h2.sq⟩,f1 ρ1 H1 (Pre.refl _) (Ext.refl _ _) r1 _ λi ρ2 h4 H2 p2 e2 r2 _=>⟨λd hd=>?_,λhi=>?_⟩⟩
   ·have h3':=h3.mono p2 e2;obtain⟨x,g1,g2⟩:=h3'.get hd;refine⟨⟨vs,x,(e2.l _ _ h2).sq,g1⟩,λy H3 ⟨z1,z2⟩=>?_⟩;subst z1;have:=z2 vs (e2.l _ _ h2).sq;rw[g1]at this;cases this;exact⟨g2,r2,Ext.refl _ _⟩
   ·exact⟨vs,(e2.l _ _ h2).sq,by rw[<- h3.length];exact K3r hi⟩
  case ref n =>
   have f2:Fin X.K EX ρ1 H1 (λsrc ρ' _ H'=>∀J,JOK X.K src ρ' H' J->R J H') ((getL n >>= λxs=>(pure (.lst n xs):M Src)) h1):=f1;have f3:=Fin.bind f2;cases e3:getL n h1 with
   | bad=>rw[e3]at f3;exact f3.elim
   | err z hz=>exact(z0V e3).elim
   | ok xs h3 =>
    obtain⟨rfl,q1⟩:=z0S e3;rw[e3]at f3;simp only[RD]at rv;obtain⟨q,rfl,hq⟩:=rv;obtain⟨a1,n1,vs,o1,d1⟩:=r1.at q1;rw[hq]at n1;cases n1;have f4:=f3 ρ1 H1 (Pre.refl _) (Ext.refl _ _) r1;refine⟨q,rfl,⟨vs,SqL.of o1⟩,f4 ρ1 H1 (Pre.refl _) (Ext.refl _ _) r1 _ λi ρ2 h4 H2 p2 e2 r2 g=>?_⟩;have g':h4[n]?=.(l xs):=g;obtain⟨a2,n2,vs2,o2,d2⟩:=r2.at g';rw[p2 n q hq]at n2;cases n2;refine⟨λd hd=>?_,λhi=>⟨vs2,SqL.of o2,by rw[<- d2.length];exact K3r hi⟩⟩;obtain⟨x,g1,g2⟩:=d2.get hd;refine⟨⟨vs2,x,SqL.of o2,g1⟩,λy H3 ⟨z1,z2⟩=>?_⟩;subst z1;have:=z2 vs2 (SqL.of o2);rw[g1]at this;cases this;exact⟨g2,r2,Ext.refl _ _⟩⟩⟩
def z0J (ma:G->M D):G->M Src:=λγ=>do
 let x <- ma γ
 match x with
 | .tup xs=>pure (.con xs)
 | _=>bad
theorem z0W (ha:SE X EX a ma):SI X EX tg a (z0J ma) :=
 ⟨PI.imp (zK0 ha.h) λσ H R ⟨ρ,γ,h,rel,fin⟩=>⟨ρ,γ,h,rel,(Fin.bind fin).mono λx ρ1 h1 H1 p1 e1 r1 f1 v rv=>by
  cases x<;>first|exact(show False from f1).elim|skip
  rename_i xs;simp only[RD]at rv;obtain⟨q,vs,rfl,h2,h3⟩:=rv;refine⟨q,rfl,⟨vs,h2⟩,f1 ρ1 H1 (Pre.refl _) (Ext.refl _ _) r1 _ λi ρ2 h4 H2 p2 e2 r2 _=>⟨λd hd=>?_,λhi=>?_⟩⟩
  ·have h3':=h3.mono p2 e2;obtain⟨x,g1,g2⟩:=h3'.get hd;refine⟨⟨vs,x,e2.t _ _ h2,g1⟩,λy H3 ⟨z1,z2⟩=>?_⟩;subst z1;have:=z2 vs (e2.t _ _ h2);rw[g1]at this;cases this;exact⟨g2,r2,Ext.refl _ _⟩
  ·exact⟨vs,e2.t _ _ h2,by rw[<- h3.length];exact K3r hi⟩⟩⟩
def z1h (n:Nat):List D:=(K0h n).map λ(i:Nat)=>.int i
def z0s (ma:G->M D):G->M Src:=λγ=>do
 let x <- ma γ
 match x with
 | .int j=>if -(2 ^ 62)<=j/\j<2 ^ 62 then pure (.con (z1h j.toNat)) else bad
 | _=>bad
theorem z0B (hg:Gl X "range") (hm:X.mg "range" = none) (ha:SE X EX a ma) (hs:K05 [a] X.env=[(false,eval a X.env)]:=by rfl):SI X EX tg (.Call (.Name "range" p) [a] [] pos) (z0s ma) :=
 ⟨PI.imp (z8Z hg hm (z1B ha.h z2N hs) hs) λσ H R ⟨ρ,γ,h,rel,fin⟩=>⟨ρ,γ,h,rel,(Fin.bind fin).mono λx ρ1 h1 H1 p1 e1 r1 f1 v rv=>by
  cases x<;>first|exact(show False from f1).elim|skip
  rename_i j;simp only[RD]at rv;subst rv;have f2:Fin X.K EX ρ1 H1 (λsrc ρ' _ H'=>∀J,JOK X.K src ρ' H' J->R J H') ((if -(2 ^ 62)<=j/\j<2 ^ 62 then pure (.con (z1h j.toNat)) else bad:M Src) h1):=f1;by_cases hj:-(2 ^ 62)<=j/\j<2 ^ 62
  ·rw[if_pos hj]at f2;refine⟨j,rfl,hj.1,hj.2,f2 ρ1 H1 (Pre.refl _) (Ext.refl _ _) r1 _ λi ρ2 h4 H2 p2 e2 r2 _=>⟨λd hd=>?_,λhi=>?_⟩⟩
   ·have hd':(z1h j.toNat)[i]?=some d:=hd;unfold z1h at hd';rw[K8]at hd';have hi:i<j.toNat:=by
     by_cases hi:i<j.toNat
     ·exact hi
     ·rw[K1c (by simpa using hi)]at hd';cases hd'
    rw[K9h hi]at hd';cases hd';refine⟨hi,λy H3 ⟨z1,z2⟩=>?_⟩;subst z1;subst z2;exact⟨by simp[RD],r2,Ext.refl _ _⟩
   ·have hi':(z1h j.toNat).length=i:=hi;unfold z1h at hi';rw[K4,K20]at hi';exact K3r hi'
  ·rw[if_neg hj]at f2;exact f2.elim⟩⟩
end
noncomputable def forR (src:Src) (g:D->G->M G) (body:G->M Out):List D->G->M Out
 | [],γ=>do
  let _ <- src.chk
  pure (.nx γ)
 | d::r,γ=>do
  let _ <- src.chk;let γ1 <- g d γ;let o <- body γ1
  match o with
  | .nx γ2=>forR src g body r γ2
  | .ct γ2=>forR src g body r γ2
  | .bk γ2=>pure (.nx γ2)
  | .rt v=>pure (.rt v)
noncomputable def sFor (mi:G->M Src) (g:D->G->M G) (body:G->M Out):G->M Out:=λγ=>do
 let src <- mi γ
 forR src g body src.items γ
theorem z6z {K:K2}{EX:XX}{ρ:List Addr}{H:Hp}{α:Type}{P:α->List Addr->AH->Hp->Prop}{src:Src}{f:Unit->M α}{h:AH}(fin:Fin K EX ρ H P ((src.chk >>= f) h)) (r:RH K ρ h H):src.good h/\Fin K EX ρ H P (f () h):=by
 have f1:=Fin.bind fin;unfold Src.chk at f1;split at f1
 ·rename_i hg;exact⟨hg,f1 ρ H (Pre.refl _) (Ext.refl _ _) r⟩
 ·exact f1.elim
section
variable {X:Cx}{EX:XX}{a o e tg c:Expr}{pos cpos apos p:Pos}{ma mo:G->M D}{mi:G->M Src}{g:D->G->M G}{mb:G->M Out}{sts:List Stmt}{kc:G->M Bool}
theorem z1C (hp:Z0r (model X.prog X.w) X.A X.env X.xe) (hc:X.calm=true) (hi:SI X EX tg e mi) (hg:SG X EX tg g) (hb:SB X EX sts mb) (hs:∀x,K24 e X.env x=pure x:=by intro _;rfl):S1 X EX (.For tg e sts [] pos) (sFor mi g mb) :=
 ⟨PS.imp (zM8 hp hc hi.h hg.h hb.h hs) λσ H D ⟨ρ,γ,h,rel,fin⟩=>⟨ρ,γ,h,rel,(Fin.bind fin).mono λsrc ρ0 h0 H0 p0 e0 r0 f0 J hJ=>by
  refine⟨λi m σ H=>m+i=src.items.length/\∃ρ γ h,Pre ρ0 ρ/\Ext X.K H0 H/\Rel X.K ρ γ h σ H/\Fin X.K EX ρ H (λo ρ' _ H'=>OutP X.K D o ρ' H') (forR src g mb (src.items.drop i) γ h),
   ⟨src.items.length,rfl,ρ0,γ,h0,Pre.refl _,Ext.refl _ _,⟨rel.g.mono p0 e0,r0⟩,f0⟩,?_⟩
  rintro i m σ1 H1 ⟨hm,ρ1,γ1,h1,p1,e1,rel1,f1⟩;by_cases hi:i<src.items.length
  ·have hd:src.items.drop i=src.items[i]::src.items.drop (i+1):=K7c hi;rw[hd]at f1;unfold forR at f1;obtain⟨good,f2⟩:=z6z f1 rel1.h;obtain⟨j1,j2⟩:=hJ i ρ1 h1 H1 p1 e1 rel1.h good;obtain⟨go,yld⟩:=j1 src.items[i] (K5 hi);refine .inr ⟨go,λσ' H'=>∃ρ γ h,Pre ρ0 ρ/\Ext X.K H0 H'/\Rel X.K ρ γ h σ' H'/\Fin X.K EX ρ H' (λo ρ' _ H'=>OutP X.K D o ρ' H') (forR src g mb (src.items.drop (i+1)) γ h),λσ' H' z=>⟨m - 1,by omega,by omega,z⟩,λx H2 y=>?_⟩;obtain⟨rd,rh,ext⟩:=yld x H2 y;refine⟨ρ1,γ1,h1,_,⟨rel1.g.mono (Pre.refl _) ext,rh⟩,rd,(Fin.bind (Fin.up (Pre.refl _) ext f2)).mono λγ2 ρ3 h3 H3 p3 e3 r3 f3 σ3 g3=>⟨ρ3,γ2,h3,⟨g3,r3⟩,(Fin.bind f3).mono λo ρ4 h4 H4 p4 e4 r4 f4=>?_⟩⟩;have pp:Pre ρ0 ρ4:=(p1.trans p3).trans p4;have ee:Ext X.K H0 H4:=((e1.trans ext).trans e3).trans e4;cases o with
   | nx γ5=>exact λσ5 g5=>⟨ρ4,γ5,h4,pp,ee,⟨g5,r4⟩,f4⟩
   | ct γ5=>exact λσ5 g5=>⟨ρ4,γ5,h4,pp,ee,⟨g5,r4⟩,f4⟩
   | bk γ5=>exact λσ5 g5=>f4 ρ4 H4 (Pre.refl _) (Ext.refl _ _) r4 σ5 g5
   | rt d=>exact λv rv=>f4 ρ4 H4 (Pre.refl _) (Ext.refl _ _) r4 v rv
  ·have hd:src.items.drop i=[]:=K8m (by omega);rw[hd]at f1;unfold forR at f1;obtain⟨good,f2⟩:=z6z f1 rel1.h;obtain⟨j1,j2⟩:=hJ i ρ1 h1 H1 p1 e1 rel1.h good;exact .inl ⟨j2 (by omega),f2 ρ1 H1 (Pre.refl _) (Ext.refl _ _) rel1.h σ1 rel1.g⟩⟩⟩
def z26 (k:G->M Bool) (body:G->M Out):Nat->G->M Out
 | 0,_=>bad
 | n+1,γ=>do
  let t <- k γ
  if t then do
   let o <- body γ
   match o with
   | .nx γ2=>z26 k body n γ2
   | .ct γ2=>z26 k body n γ2
   | .bk γ2=>pure (.nx γ2)
   | .rt v=>pure (.rt v)
  else pure (.nx γ)
theorem z9A (n:Nat) (hp:Z0r (model X.prog X.w) X.A X.env X.xe) (hc:SC X EX c kc) (hb:SB X EX sts mb):S1 X EX (.While c sts [] pos) (z26 kc mb n) :=
 ⟨PS.imp (zh4 hp hc.h hb.h) λσ H D ⟨ρ,γ,h,rel,fin⟩=>by
  refine⟨λm σ H=>∃ρ γ h,Rel X.K ρ γ h σ H/\Fin X.K EX ρ H (λo ρ' _ H'=>OutP X.K D o ρ' H') (z26 kc mb m γ h),⟨n,ρ,γ,h,rel,fin⟩,?_⟩;rintro m σ1 H1 ⟨ρ1,γ1,h1,rel1,f1⟩;cases m with
  | zero=>exact(show False from f1).elim
  | succ m =>
   unfold z26 at f1;refine⟨ρ1,γ1,h1,rel1,(Fin.bind f1).mono λt ρ2 h2 H2 p2 e2 r2 f2=>?_⟩;cases t with
   | false=>exact f2 ρ2 H2 (Pre.refl _) (Ext.refl _ _) r2 σ1 (rel1.g.mono p2 e2)
   | true =>
    rw[if_pos rfl]at f2 ⊢;refine⟨λσ' H'=>∃ρ γ h,Rel X.K ρ γ h σ' H'/\Fin X.K EX ρ H' (λo ρ' _ H'=>OutP X.K D o ρ' H') (z26 kc mb m γ h),λσ' H' z=>⟨m,by omega,z⟩,ρ2,γ1,h2,⟨rel1.g.mono p2 e2,r2⟩,(Fin.bind f2).mono λo ρ4 h4 H4 p4 e4 r4 f4=>?_⟩;cases o with
    | nx γ5=>exact λσ5 g5=>⟨ρ4,γ5,h4,⟨g5,r4⟩,f4⟩
    | ct γ5=>exact λσ5 g5=>⟨ρ4,γ5,h4,⟨g5,r4⟩,f4⟩
    | bk γ5=>exact λσ5 g5=>f4 ρ4 H4 (Pre.refl _) (Ext.refl _ _) r4 σ5 g5
    | rt d=>exact λv rv=>f4 ρ4 H4 (Pre.refl _) (Ext.refl _ _) r4 v rv⟩
end
def capG (cap:List (Option Nat)) (γ:G):G:=cap.map λo=>match o with|some j=>(γ[j]?).join|none=>none
theorem zv5 {K:K2}{ρ:List Addr}{H:Hp}{γ:G}{σ:L2.St}(cap:List (Option Nat)) (r:RG K ρ H γ σ):RG K ρ H (capG cap γ) (z3B cap σ):=by
 refine⟨by simp[capG,z3B],λi d e=>?_⟩;unfold capG at e;unfold z3B;rw[K8]at e ⊢;cases q:cap[i]? with
 | none=>rw[q]at e;cases e
 | some o =>
  rw[q]at e;cases o with
  | none=>simp at e
  | some j =>
   have e2:(γ[j]?).join=some d:=by simpa using e
   have e3:γ[j]?=some (some d):=by
    cases q2:γ[j]? with
    | none=>rw[q2]at e2;simp at e2
    | some o2=>rw[q2]at e2;simp at e2;rw[e2]
   obtain⟨v,h1,h2⟩:=r.var j d e3;exact⟨v,by simp[h1],h2⟩
noncomputable def z3L (src:Src) (g:D->G->M G) (k:G->M Bool) (me:G->M D) (n0:Nat) (γ:G):List D->M Unit
 | []=>do
  let _ <- src.chk
  pure ()
 | d::r=>do
  let _ <- src.chk;let γ1 <- g d γ;let t <- k γ1
  if t then do
   let v <- me γ1;let _ <- w6 n0 v
   z3L src g k me n0 γ r
  else z3L src g k me n0 γ r
noncomputable def z0C (cap:List (Option Nat)) (mi:G->M Src) (g:D->G->M G) (k:G->M Bool) (me:G->M D):G->M D:=λγ=>do
 let src <- mi γ;let n0 <- (λh=>.ok h.length (h++[.lst []]):M Nat);let _ <- z3L src g k me n0 (capG cap γ) src.items
 pure (.ref n0)
structure SCs (X:Cx) (EX:XX) (ifs:List Expr) (m:G->M Bool):Prop where
 h:PTs X ifs (tT X.K EX m)
theorem PTs.imp {X:Cx}{e:List Expr}{t t':TT}(h:PTs X e t) (f:∀σ H Q,t' σ H Q->t σ H Q):PTs X e t':=λpins s σ H Q I z=>h pins s σ H Q I (f σ H Q z)
section
variable {X:Cx}{EX:XX}{elt tg iter c:Expr}{ifs:List Expr}{sc:Scope}{pos:Pos}{N':List Str}{cap:List (Option Nat)}{own:List Nat}{mi:G->M Src}{g:D->G->M G}{k kr:G->M Bool}{me:G->M D}
theorem z1b:SCs X EX [] (λ_=>pure true):=⟨PTs.imp z9z λσ H Q ⟨ρ,γ,h,rel,fin⟩=>fin ρ H (Pre.refl _) (Ext.refl _ _) rel.h⟩
theorem z2X (h:SC X EX c k):SCs X EX [c] k:=⟨PTs.imp (zg8 h.h z9z) λσ H Q ⟨ρ,γ,h,rel,fin⟩=>⟨ρ,γ,h,rel,fin.mono λt ρ1 h1 H1 p1 e1 r1 f1=>by
 cases t with
 | true=>exact f1
 | false=>exact f1⟩⟩
def HB (X:Cx) (EX:XX) (own:List Nat) (σ0:L2.St) (ρ0:List Addr) (b:G->M Unit->M Unit) (tb:TB):Prop :=
 ∀{σ:L2.St} {γ1:G} {ρ:List Addr} {h:AH} {H:Hp} {P:Unit->List Addr->AH->Hp->Prop} {K:M Unit} {Z:Hp->Prop},Pre ρ0 ρ->(∀j,j∉own->σ[j]?=σ0[j]?)->RG X.K ρ H γ1 σ->RH X.K ρ h H->Fin X.K EX ρ H P (b γ1 K h) ->
  (∀ρ' h' H',Pre ρ ρ'->Ext X.K H H'->RH X.K ρ' h' H'->Fin X.K EX ρ' H' P (K h')->Z H')->tb σ H Z
theorem zL8 {F:List D->M Unit}{b:G->M Unit->M Unit}{tb:TB}{σ0:L2.St}{H0:Hp}{ρ0:List Addr}{h0:AH}{γ:G}{src:Src}{J:It}{P:Hp->Prop}
 (hnil:F []=(do let _ <- src.chk;pure ())) (hcons:∀d r,F (d::r)=(do let _ <- src.chk;let γ1 <- g d γ;let t <- k γ1;if t then b γ1 (F r) else F r))
 (r0:RH X.K ρ0 h0 H0) (rg:RG X.K ρ0 H0 γ σ0) (hJ:JOK X.K src ρ0 H0 J) (hown:∀j∈own,∀v,σ0[j]?≠some (some v)) (hb:HB X EX own σ0 ρ0 b tb)
 (fin:Fin X.K EX ρ0 H0 (λ_ ρ' h' H'=>RH X.K ρ' h' H'->Ext X.K H0 H'->Pre ρ0 ρ'->P H') (F src.items h0)):runG (tGk X.K EX own g) (tT X.K EX k) tb σ0 J P H0:=by
 refine⟨λi m H=>m+i=src.items.length/\∃ρ h,Pre ρ0 ρ/\Ext X.K H0 H/\RH X.K ρ h H /\
  Fin X.K EX ρ H (λ_ ρ' h' H'=>RH X.K ρ' h' H'->Ext X.K H0 H'->Pre ρ0 ρ'->P H') (F (src.items.drop i) h),
  ⟨src.items.length,rfl,_,_,Pre.refl _,Ext.refl _ _,r0,fin⟩,?_⟩
 rintro i m H1 ⟨hm,ρ1,h1,p1,e1,r1,f1⟩;by_cases hi:i<src.items.length
 ·rw[show src.items.drop i=src.items[i]::src.items.drop (i+1) from K7c hi,hcons]at f1;obtain⟨good,f2⟩:=z6z f1 r1;obtain⟨j1,j2⟩:=hJ i ρ1 h1 H1 p1 e1 r1 good;obtain⟨go,yld⟩:=j1 src.items[i] (K5 hi);refine .inr ⟨go,λx H2 y=>?_⟩;obtain⟨rd,rh,ext⟩:=yld x H2 y;refine⟨ρ1,_,h1,_,⟨rg.mono p1 (e1.trans ext),rh⟩,rd,(Fin.bind (Fin.up (Pre.refl _) ext f2)).mono λγ2 ρ3 h3 H3 p3 e3 r3 f3 σ3 g3 k3=>⟨λj v hv=>?_,ρ3,γ2,h3,⟨g3,r3⟩,(Fin.bind f3).mono λt ρ4 h4 H4 p4 e4 r4 f4=>?_⟩⟩
  ·rw[k3 j λhj=>hown j hj v hv];exact hv
  ·have pp:Pre ρ0 ρ4:=(p1.trans p3).trans p4;have ee:Ext X.K H0 H4:=((e1.trans ext).trans e3).trans e4;cases t with
   | false =>
    rw[if_neg (by decide)]at f4;dsimp only;rw[if_neg (by decide)];exact⟨m - 1,by omega,by omega,ρ4,h4,pp,ee,r4,f4⟩
   | true =>
    rw[if_pos rfl]at f4;dsimp only;rw[if_pos rfl];exact hb pp k3 (g3.mono p4 e4) r4 f4 λρ5 h5 H5 p5 e5 r5 f5=>⟨m - 1,by omega,by omega,ρ5,h5,pp.trans p5,ee.trans e5,r5,f5⟩
 ·rw[show src.items.drop i=[] from K8m (by omega),hnil]at f1;obtain⟨good,f2⟩:=z6z f1 r1;obtain⟨j1,j2⟩:=hJ i ρ1 h1 H1 p1 e1 r1 good;exact .inl ⟨j2 (by omega),f2 ρ1 H1 (Pre.refl _) (Ext.refl _ _) r1 r1 e1 p1⟩
theorem zH0 {σ0:L2.St}{ρ0:List Addr}{n0:Nat}{Dd:Addr}(hD:ρ0[n0]?=some Dd):HB X EX own σ0 ρ0 (λγ1 K=>do let v <- me γ1;let _ <- w6 n0 v;K) (bApp (tE X.K EX me) Dd):=λ{σ γ1 ρ h H P K Z} p0 _ rg rh fin hz=>by
 refine⟨ρ,γ1,h,⟨rg,rh⟩,(Fin.bind fin).mono λd ρ5 h5 H5 p5 e5 r5 f5 v rv=>?_⟩;have hq:ρ5[n0]?=some Dd:=(p0.trans p5) _ _ hD;have f6:=Fin.bind f5;unfold w6 updL at f6;cases e7:h5[n0]? with
 | none=>rw[e7]at f6;exact f6.elim
 | some ob =>
  cases ob<;>first|(rw[e7]at f6;exact f6.elim)|skip
  rename_i xs;rw[e7]at f6;dsimp only at f6;split at f6
  ·rename_i hl;obtain⟨a1,n1,vs,o1,d1⟩:=r5.at e7;rw[hq]at n1;cases n1;have ext2:Ext X.K H5 (upd H5 Dd (.lst (vs++[v]))):=Ext.upd (.inr ⟨_,o1,trivial⟩);have r6:=r5.set e7 hq (d1.append (RDs.cons rv RDs.nil));rw[K04,K1b]at hl;have hl2:=d1.length;exact⟨vs,o1,by omega,hz ρ5 _ _ p5 (e5.trans ext2) r6 (f6 ρ5 _ (Pre.refl _) ext2 r6)⟩
  ·exact f6.elim
structure CmA (X:Cx) (EX:XX) (ce:Expr) (sc:Scope) (tg iter:Expr) (ifs:List Expr) (N':List Str) (cap:List (Option Nat)) (own:List Nat) (mi:G->M Src) (g:D->G->M G) (k:G->M Bool) (oo:O) (b:Nat->G->M Unit->M Unit) (F:Src->Nat->G->List D->M Unit):Prop where
 ex:∃(mk:Sem Value) (o0:HO) (bd:Addr->Env->Sem Unit) (p:Pos) (tbd:Addr->L2.TB),CmE ce sc tg iter ifs mk o0 bd p/\(∀(ρ:List Addr) (H:Hp) (Dd:Addr),RO X.K ρ (upd H Dd o0) oo Dd)/\(∀D s H fp xe,PBd (X.comp N' sc s H fp xe) (bd D (X.comp N' sc s H fp xe).env) (tbd D)) /\
  ∀{σ0:L2.St} {ρ0:List Addr} {n0:Nat} {Dd:Addr},(∀(j:Nat),cap[j]?=some none->∀v,σ0[j]?≠some (some v))->ρ0[n0]?=some Dd->HB X EX own σ0 ρ0 (b n0) (tbd Dd)
 nil:∀src n0 γ,F src n0 γ []=(do let _ <- src.chk;pure ())
 cons:∀src n0 γ d r,F src n0 γ (d::r)=(do let _ <- src.chk;let γ1 <- g d γ;let t <- k γ1;if t then b n0 γ1 (F src n0 γ r) else F src n0 γ r)
noncomputable def eCm (cap:List (Option Nat)) (mi:G->M Src) (oo:O) (F:Src->Nat->G->List D->M Unit):G->M D:=λγ=>do
 let src <- mi γ;let n0 <- (λh=>.ok h.length (h++[oo]):M Nat);let _ <- F src n0 (capG cap γ) src.items
 pure (.ref n0)
theorem zm1 {ce:Expr}{oo:O}{b:Nat->G->M Unit->M Unit}{F:Src->Nat->G->List D->M Unit}{o0:HO}{tbd:Addr->TB}{σ:L2.St}{γ:G}{src:Src}{ρ0:List Addr}{h0:AH}{H0:Hp}{J:It}{Dd:Addr}{Q:Hp->Prop}
 (A:CmA X EX ce sc tg iter ifs N' cap own mi g k oo b F) (ho:∀(ρ:List Addr) (H:Hp) (Dd:Addr),RO X.K ρ (upd H Dd o0) oo Dd) (hb:∀{σ0:L2.St} {ρ0:List Addr} {n0:Nat} {Dd:Addr},(∀(j:Nat),cap[j]?=some none->∀v,σ0[j]?≠some (some v))->ρ0[n0]?=some Dd->HB X EX own σ0 ρ0 (b n0) (tbd Dd))
 (hown:∀j∈own,cap[j]?=some none) (r0:RH X.K ρ0 h0 H0) (rg:RG X.K ρ0 H0 γ σ) (hJ:JOK X.K src ρ0 H0 J) (hD:H0 Dd=none) {R:D->List Addr->AH->Hp->Prop}
 (fin:Fin X.K EX ρ0 H0 R ((do let n0 <- (λh=>.ok h.length (h++[oo]):M Nat);let _ <- F src n0 (capG cap γ) src.items;pure (.ref n0):M D) h0))
 (z:∀ρ' h' H',Pre ρ0 ρ'->Ext X.K H0 H'->RH X.K ρ' h' H'->R (.ref h0.length) ρ' h' H'->RD X.K ρ' H' (.ref h0.length) (.ref Dd)->Q H') :
 runG (tGk X.K EX own g) (tT X.K EX k) (tbd Dd) (z3B cap σ) J Q (upd H0 Dd o0):=by
 have rP:RH X.K (ρ0++[Dd]) (h0++[oo]) (upd H0 Dd o0):=r0.pushO hD (ho _ _ _);have eP:Ext X.K H0 (upd H0 Dd o0):=Ext.upd (.inl hD);have f2:=(Fin.bind fin) (ρ0++[Dd]) _ (Pre.app _ _) eP rP;have at0:(ρ0++[Dd])[h0.length]?=some Dd:=by rw[<- r0.len];simp
 have non:∀(j:Nat),cap[j]?=some none->∀v,(z3B cap σ)[j]?≠some (some v):=λj e v hv=>by
  unfold z3B at hv;rw[K8,e]at hv;simp at hv
 refine zL8 (A.nil src h0.length (capG cap γ)) (A.cons src h0.length (capG cap γ)) rP ((zv5 cap rg).mono (Pre.app _ _) eP) (λi ρ1 h1 H1 p e r good=>hJ i ρ1 h1 H1 ((Pre.app _ _).trans p) (eP.trans e) r good) (λj hj=>non j (hown j hj)) (hb non at0) ((Fin.bind f2).mono λ_ ρ5 h5 H5 p5 e5 r5 f5 rr ee pp=>?_);refine z ρ5 h5 H5 ((Pre.app _ _).trans pp) (eP.trans ee) rr (f5 ρ5 H5 (Pre.refl _) (Ext.refl _ _) rr) ?_;simp only[RD];exact⟨Dd,rfl,pp _ _ at0⟩
theorem zF6 {ce:Expr}{oo:O}{b:Nat->G->M Unit->M Unit}{F:Src->Nat->G->List D->M Unit}(A:CmA X EX ce sc tg iter ifs N' cap own mi g k oo b F) (hc:X.calm=true) (S:CS X sc N' cap) (hi:SI X EX tg iter mi) (hg:∀s H fp xe,SGk (X.comp N' sc s H fp xe) EX tg own g) (ht:∀s H fp xe,SCs (X.comp N' sc s H fp xe) EX ifs k)
 (hown:∀j∈own,cap[j]?=some none) (hs:∀x,K24 iter X.env x=pure x):SE X EX ce (eCm cap mi oo F):=by
 obtain⟨mk,o0,bd,p,tbd,C,ho,hbd,hb⟩:=A.ex;exact⟨PE.imp (zQ8 (g:=tGk X.K EX own g) (ti:=tT X.K EX k) C hc S hi.h (λs H fp xe=>(hg s H fp xe).h) (λs H fp xe=>(ht s H fp xe).h) hbd hs) λσ H Q ⟨ρ,γ,h,rel,fin⟩=>⟨ρ,γ,h,rel,(Fin.bind fin).mono λsrc ρ0 h0 H0 p0 e0 r0 f0 J hJ Dd hD =>
  zm1 A ho hb hown r0 (rel.g.mono p0 e0) hJ hD f0 λρ' h' H' p' e' r' q rd=>q _ rd⟩⟩
theorem s_cm {ce:Expr}{oo:O}{b:Nat->G->M Unit->M Unit}{F:Src->Nat->G->List D->M Unit}(i:Nat) {y:Str}{py spos:Pos}(A:CmA X EX ce sc tg iter ifs N' cap own mi g k oo b F) (hc:X.calm=true) (S:CS X sc N' cap) (hi:SI X EX tg iter mi) (hg:∀s H fp xe,SGk (X.comp N' sc s H fp xe) EX tg own g) (ht:∀s H fp xe,SCs (X.comp N' sc s H fp xe) EX ifs k)
 (hown:∀j∈own,cap[j]?=some none) (hN:X.N.Nodup) (hy:X.N[i]?=some y) (hl:X.env.scope.names.lookup y=some .local) (hsw:K2i ce (some (.Name y py)) spos.line X.env=pure true) (hs:∀x,K24 iter X.env x=pure x) :
 S1 X EX (.Assign [.Name y py] ce spos) (sAsg (eCm cap mi oo F) (gN i)):=by
 obtain⟨mk,o0,bd,p,tbd,C,ho,hbd,hb⟩:=A.ex;exact⟨PS.imp (zT8 (g:=tGk X.K EX own g) (ti:=tT X.K EX k) C hc S hi.h (λs H fp xe=>(hg s H fp xe).h) (λs H fp xe=>(ht s H fp xe).h) hbd hN hy hl hsw hs) λσ H D ⟨ρ,γ,h,rel,fin⟩=>⟨ρ,γ,h,rel,(Fin.bind (Fin.bind fin)).mono λsrc ρ0 h0 H0 p0 e0 r0 f0 J hJ Dd hD =>
  zm1 A ho hb hown r0 (rel.g.mono p0 e0) hJ hD f0 λρ' h' H' p' e' r' q rd=>(q ρ' H' (Pre.refl _) (Ext.refl _ _) r') _ (((rel.g.mono p0 e0).mono p' e').set i rd)⟩⟩
theorem z7q (he:∀s H fp xe,SE (X.comp N' sc s H fp xe) EX elt me):CmA X EX (.ListComp elt [⟨tg,iter,ifs,0⟩] sc pos) sc tg iter ifs N' cap own mi g k (.lst []) (λn0 γ1 K=>do let v <- me γ1;let _ <- w6 n0 v;K) (λsrc n0 γ=>z3L src g k me n0 γ) :=
 ⟨⟨_,_,_,_,bApp (tE X.K EX me),zA8,λρ H Dd=>⟨[],z02,RDs.nil⟩,λD s H fp xe=>zA0 (he s H fp xe).h,λ_ hD=>zH0 hD⟩,λ_ _ _=>rfl,λ_ _ _ _ _=>rfl⟩
theorem z0M (hc:X.calm=true) (S:CS X sc N' cap) (hi:SI X EX tg iter mi) (hg:∀s H fp xe,SGk (X.comp N' sc s H fp xe) EX tg own g) (ht:∀s H fp xe,SCs (X.comp N' sc s H fp xe) EX ifs k)
 (he:∀s H fp xe,SE (X.comp N' sc s H fp xe) EX elt me) (hown:∀j∈own,cap[j]?=some none:=by decide) (hs:∀x,K24 iter X.env x=pure x:=by intro _;rfl):SE X EX (.ListComp elt [⟨tg,iter,ifs,0⟩] sc pos) (z0C cap mi g k me) :=
 zF6 (z7q he) hc S hi hg ht hown hs
noncomputable def z3t (i:Nat) (cap:List (Option Nat)) (mi:G->M Src) (g:D->G->M G) (k:G->M Bool) (me:G->M D):G->M Out:=sAsg (z0C cap mi g k me) (gN i)
theorem z9S (i:Nat) {y:Str}{py spos:Pos}(hc:X.calm=true) (S:CS X sc N' cap) (hi:SI X EX tg iter mi) (hg:∀s H fp xe,SGk (X.comp N' sc s H fp xe) EX tg own g) (ht:∀s H fp xe,SCs (X.comp N' sc s H fp xe) EX ifs k)
 (he:∀s H fp xe,SE (X.comp N' sc s H fp xe) EX elt me) (hN:X.N.Nodup) (hy:X.N[i]?=some y:=by rfl) (hl:X.env.scope.names.lookup y=some .local:=by rfl) (hown:∀j∈own,cap[j]?=some none:=by decide)
 (hsw:K2i (.ListComp elt [⟨tg,iter,ifs,0⟩] sc pos) (some (.Name y py)) spos.line X.env=pure true:=by rfl) (hs:∀x,K24 iter X.env x=pure x:=by intro _;rfl) :
 S1 X EX (.Assign [.Name y py] (.ListComp elt [⟨tg,iter,ifs,0⟩] sc pos) spos) (z3t i cap mi g k me) :=
 s_cm i (z7q he) hc S hi hg ht hown hN hy hl hsw hs
end
def csOk (osc:Scope) (N:List Str) (sc:Scope) (N':List Str) (cap:List (Option Nat)):Bool :=
 (sc.kind==.function)&&sc.names.all (λy=>y.2 != .cell)&&sc.names.all (λx=>x.2 != .local||sc.names.lookup x.1==some .local) &&
 sc.names.all (λx=>x.2 != .free||(osc.names.lookup x.1==some .cell||osc.names.lookup x.1==some .free))&&(cap.length==N'.length) &&
 (K0h cap.length).all λi=>match cap[i]? with
  | some (some j)=>(match N'[i]?,N[j]? with
   | some x,some y=>x==y&&sc.names.lookup x==some .free
   | _,_=>false)
  | _=>true
theorem z27 {X:Cx}{sc:Scope}{N':List Str}{cap:List (Option Nat)}(h:csOk X.env.scope X.N sc N' cap=true):CS X sc N' cap:=by
 unfold csOk at h;simp only[K0f]at h;obtain⟨⟨⟨⟨⟨h1,h2⟩,h3⟩,h4⟩,h5⟩,h6⟩:=h;refine⟨by simpa using h1,λy hy=>?_,λx hx hl=>?_,λx hx hf=>?_,by simpa using h5,λi j e=>?_⟩
 ·have:=K1z.mp h2 y hy;simpa using this
 ·have:=K1z.mp h3 x hx;simpa [hl] using this
 ·have:=K1z.mp h4 x hx;have:(X.env.scope.names.lookup x.1==some .cell||X.env.scope.names.lookup x.1==some .free)=true:=by simpa [hf] using this
  rw[K2w]at this;rcases this with z|z
  ·exact .inl (show X.env.scope.names.lookup x.1=_ by simpa using z)
  ·exact .inr (show X.env.scope.names.lookup x.1=_ by simpa using z)
 ·have hi:i<cap.length:=(K7.mp e).1;have:=K1z.mp h6 i (K29.mpr hi);rw[e]at this;dsimp only at this;cases e1:N'[i]? with
  | none=>rw[e1]at this;cases this
  | some x =>
   cases e2:X.N[j]? with
   | none=>rw[e1,e2]at this;cases this
   | some y =>
    rw[e1,e2]at this;simp only[K0f]at this;have exy:x=y:=by simpa using this.1
    subst exy;exact⟨x,rfl,rfl,by simpa using this.2⟩
def DefAt (K:K2) (x:Str) (st:Stmt):Prop:=∃f fd,K2a K K1x x=some (.(r f))/\Fun K x x st f fd
theorem defAt_mk {K:K2}{x:Str}{st:Stmt}{f:Addr}{oc:Value}{od an:Option Addr}{sl:Array (Option Value)}{kV dc pm cd ct:Value}(a:K2a K K1x x=some (.(r f)))
 (l:K.lookup f=some ⟨oc,od,.func (K2b x x (z1k st) (z05 st) (j9 st) .none kV dc pm an cd ct),sl⟩) (c:K2m K cd x=true) (k:K2l K (.ref f)=true):DefAt K x st :=
 ⟨f,_,a,zP5 l c k⟩
section
variable {prog:K0d}{w:World}{A:Around}{E:Value->Shared->Prop}{s:Shared}
theorem z4I {it t:Addr}{i:Nat}{items:Array Value}{x:Value}{Q:Value->Shared->Prop}(hit:s.heap.IsTupleIter it t i) (ht:s.heap.IsTuple t items) (hx:items[i]?=some x)
 (hQ:∀h',h'.IsTupleIter it t (i+1)->K3c it s.heap h'->Q x { s with heap:=h' }):wpAny (model prog w) A (K1l (.ref it)) Q E s:=by
 obtain⟨oi,e1,c1,d1⟩:=id hit;obtain⟨ot,e2,_,nt,d2⟩:=ht;unfold K1l;refine K1 (K1j (name:=K2o "__next__") hit.typeIs K2r
  (K1p K2r hit.typeIs K5l ?_ (K5e _)))
 show wpAny _ _ (field (.ref it) 0 >>= _) _ _ s;refine K1 (K1w e1 d1 (x:=.ref t) rfl ?_);show wpAny _ _ (if (K1s t==K2n)=true then _ else _) _ _ s;have nn:¬ (K1s t==K2n)=true:=K0v;rw[if_neg nn];show wpAny _ _ (field (.ref it) 1 >>= _) _ _ s;refine K1 (K1w e1 d1 (x:=.int i 0) rfl ?_);show wpAny _ _ (Z0p (.ref t) >>= _) _ _ s;refine K1 (K2p e2 d2 ?_);simp only[K0s,hx];refine K1 (K36 e1 d1 (by simp) (K6 ⟨x,rfl,K6 (hQ _ ?_ (K1k ..))⟩));exact⟨_,K3m _ e1 (K68 (K5b d1 _)),(Obj.cls_mapFields ..).trans c1,by
  rw[K5b d1];simp[rawInt]⟩
theorem z9W {it t:Addr}{i:Nat}{items:Array Value}{Q:Value->Shared->Prop}(hh:A.handled=none) (hit:s.heap.IsTupleIter it t i) (ht:s.heap.IsTuple t items) (hx:items[i]?=none)
 (hE:∀h' e,Z0v it s.heap h'->(∃o,h'.get? e=some o/\o.cls=.type "StopIteration")->E (.ref e) { s with heap:=h' }):wpAny (model prog w) A (K1l (.ref it)) Q E s:=by
 obtain⟨oi,e1,c1,d1⟩:=id hit;obtain⟨ot,e2,_,nt,d2⟩:=ht;unfold K1l;refine K1 (K1j (name:=K2o "__next__") hit.typeIs K2r
  (K1p K2r hit.typeIs K5l ?_ (K5e _)))
 show wpAny _ _ (field (.ref it) 0 >>= _) _ _ s;refine K1 (K1w e1 d1 (x:=.ref t) rfl ?_);show wpAny _ _ (if (K1s t==K2n)=true then _ else _) _ _ s;have nn:¬ (K1s t==K2n)=true:=K0v;rw[if_neg nn];show wpAny _ _ (field (.ref it) 1 >>= _) _ _ s;refine K1 (K1w e1 d1 (x:=.int i 0) rfl ?_);show wpAny _ _ (Z0p (.ref t) >>= _) _ _ s;refine K1 (K2p e2 d2 ?_);simp only[K0s,hx];refine K1 (K49 (K1 (K36 e1 d1 (by simp) ?_)));show wpAny _ _ (newExc (.type "StopIteration") [] >>= _) _ _ _;refine K1 ?_;simp only[newExc,newTuple];refine K1 (K12 ?_ (by size_fits));refine K1 (m:=K77 _ _) (Z0w (a:=K2n) (by first|rfl|(simp only[K77];rfl)) ?_);refine K12 ?_ (by size_fits);simp only[raiseNew];refine K1 (wpAny_handled ?_)
 first|rw[show A.in1.handled=none from hh]|rw[hh]
 refine K1 (K6 (wpAny_throw ?_));exact hE _ _ (((K1k ..).extBut.push _).push _) ⟨_,K03 _ rfl,rfl⟩
structure ZS (h:Heap) (z TI TO i1 i2 t1 t2:Addr) (i:Nat) (f0:Value):Prop where
 zip:IsZip h z TI TO f0
 ti:IsPair h TI (.ref i1) (.ref i2)
 to:∃a b,IsPair h TO a b
 n1:h.IsTupleIter i1 t1 i
 n2:h.IsTupleIter i2 t2 i
structure ZA (z TI TO i1 i2:Addr):Prop where
 a1:TI≠z
 a2:TO≠z
 a3:i1≠z
 a4:i2≠z
 a5:TI≠TO
 a6:TI≠i1
 a7:TI≠i2
 a8:TO≠i1
 a9:TO≠i2
 a0:i1≠i2
structure ZO (z TO i1 i2 t:Addr):Prop where
 o1:t≠z
 o2:t≠TO
 o3:t≠i1
 o4:t≠i2
theorem zv2 {z TI TO i1 i2 t1 t2:Addr}{i:Nat}{xs ys:Array Value}{x y:Value}{Q:Value->Shared->Prop}(D:ZA z TI TO i1 i2) (O1:ZO z TO i1 i2 t1) (O2:ZO z TO i1 i2 t2)
 (Z:ZS s.heap z TI TO i1 i2 t1 t2 i .none) (hl1:s.heap.IsTuple t1 xs) (hl2:s.heap.IsTuple t2 ys) (hx:xs[i]?=some x) (hy:ys[i]?=some y)
 (hQ:∀h',ZS h' z TI TO i1 i2 t1 t2 (i+1) (rawInt s.heap.objs.size)->IsPair h' s.heap.objs.size x y->h'.objs.size=s.heap.objs.size+1 ->
  (∀c o,c≠z->c≠TO->c≠i1->c≠i2->s.heap.get? c=some o->h'.get? c=some o)->Q (.ref s.heap.objs.size) { s with heap:=h' }) :
 wpAny (model prog w) A (Builtin.«zip.__next__» ⟨[.ref z],[]⟩) (λfin s'=>∃v,fin=.done (.ret v)/\Q v s') E s:=by
 obtain⟨zz,zi,⟨a,b,zo⟩,g1,g2⟩:=Z;show wpAny _ _ (field (.ref z) 2 >>= _) _ _ _;refine K1 (K1w zz rfl (x:=.bool false) rfl ?_);show wpAny _ _ (field (.ref z) 3 >>= _) _ _ _;refine K1 (K1w zz rfl (x:=.ref TI) rfl ?_);refine K1 (K2p zi rfl ?_);show wpAny _ _ (K28 (.ref z) >>= _) _ _ _;refine K1 ?_;unfold K28;refine K1 (K1w zz rfl (x:=.none) rfl (K6 ?_));simp only[if_true];refine K1 (K49 ?_);refine K1 (K1w zz rfl (x:=.ref TO) rfl ?_);refine K1 (K3k zz (by simp) λk1 z1 s1=>?_)
 replace z1:IsZip k1 z TI TO .ellipsis:=z1
 refine K1 ?_;simp only[Z0s,Z13,K57,K5s];refine K1 (K1 (K7r ?_));show wpAny _ _ (K1l (.ref i1) >>= _) _ _ _;refine K1 (z4I (g1.extBut s1.extBut D.a3) (hl1.extBut s1.extBut O1.o1) hx λk2 g12 s2=>K6 ?_);have zo2:IsPair k2 TO a b:=s2.extBut _ _ D.a8 (s1.extBut _ _ D.a2 zo);refine K1 (K2p zo2 rfl ?_);refine K1 (K6n zo2 λk3 zo3 s3=>?_)
 replace zo3:IsPair k3 TO x b:=zo3
 refine K1 (Z0x (K6 ?_));refine K1 (K1 (K7r ?_));show wpAny _ _ (K1l (.ref i2) >>= _) _ _ _;refine K1 (z4I (((g2.extBut s1.extBut D.a4).extBut s2.extBut D.a0.symm).extBut s3.extBut D.a9.symm)
  (((hl2.extBut s1.extBut O2.o1).extBut s2.extBut O2.o3).extBut s3.extBut O2.o2) hy λk4 g24 s4=>K6 ?_)
 have zo4:IsPair k4 TO x b:=s4.extBut _ _ D.a9 zo3;refine K1 (K2p zo4 rfl ?_);refine K1 (K6n zo4 λk5 zo5 s5=>?_)
 replace zo5:IsPair k5 TO x y:=zo5
 refine K1 (Z0x (K6 (K6 ?_)));refine K1 (K2p zo5 rfl ?_);refine K1 (wpAny_newTuple ?_);have sz:k5.objs.size=s.heap.objs.size:=by rw[s5.1,s4.1,s3.1,s2.1,s1.1]
 have z5:IsZip k5 z TI TO .ellipsis:=s5.extBut _ _ D.a2.symm (s4.extBut _ _ D.a4.symm (s3.extBut _ _ D.a2.symm (s2.extBut _ _ D.a3.symm z1)));have kk:∀c o,c≠z->c≠TO->c≠i1->c≠i2->s.heap.get? c=some o->k5.get? c=some o:=λc o c1 c2 c3 c4 e =>
  s5.extBut _ _ c2 (s4.extBut _ _ c4 (s3.extBut _ _ c2 (s2.extBut _ _ c3 (s1.extBut _ _ c1 e))))
 have g15:k5.IsTupleIter i1 t1 (i+1):=((g12.extBut s3.extBut D.a8.symm).extBut s4.extBut D.a0).extBut s5.extBut D.a8.symm;have g25:k5.IsTupleIter i2 t2 (i+1):=g24.extBut s5.extBut D.a9.symm;have zlt:z<k5.objs.size:=K02 z5;show wpAny _ _ (K4z (.ref z) (.ref k5.objs.size) >>= _) _ _ _;refine K1 ?_;unfold K4z;have z6:IsZip (k5.push { cls:=.type "tuple",data:=.seq #[x,y] }) z TI TO .ellipsis:=K3 _ z5;refine K1 (K3k z6 (by simp) λk7 z7 s7=>?_)
 replace z7:IsZip k7 z TI TO (rawInt k5.objs.size):=z7
 refine K3k z7 (by simp) λk8 z8 s8=>?_
 replace z8:IsZip k8 z TI TO (rawInt k5.objs.size):=z8
 have up:∀c o,c≠z->k5.get? c=some o->k8.get? c=some o:=λc o c1 e=>s8.extBut _ _ c1 (s7.extBut _ _ c1 (K3 _ e));have t8:IsPair k8 k5.objs.size x y:=s8.extBut _ _ (K2d zlt) (s7.extBut _ _ (K2d zlt) (K03 _ rfl));have sz8:k8.objs.size=k5.objs.size+1:=by rw[s8.1,s7.1,K1e]
 rw[sz]at z8 t8 sz8;refine K6 ⟨_,rfl,?_⟩;show Q (.ref k5.objs.size) _;rw[sz];exact hQ k8 ⟨z8,up _ _ D.a1 (kk _ _ D.a1 D.a5 D.a6 D.a7 zi),⟨_,_,up _ _ D.a2 zo5⟩,g15.at λo e=>up _ o D.a3 e,g25.at λo e=>up _ o D.a4 e⟩ t8 sz8 λc o c1 c2 c3 c4 e=>up c o c1 (kk c o c1 c2 c3 c4 e)
theorem zP9 {z TI TO i1 i2 t1 t2:Addr}{i:Nat}{xs ys:Array Value}{Q:Z0j->Shared->Prop}(hh:A.handled=none) (D:ZA z TI TO i1 i2) (O1:ZO z TO i1 i2 t1) (O2:ZO z TO i1 i2 t2)
 (Z:ZS s.heap z TI TO i1 i2 t1 t2 i .none) (hl1:s.heap.IsTuple t1 xs) (hl2:s.heap.IsTuple t2 ys) (hend:xs[i]?=none\/ys[i]?=none)
 (hE:∀h' e,(∀c o,c≠z->c≠TO->c≠i1->c≠i2->s.heap.get? c=some o->h'.get? c=some o)->(∃o,h'.get? e=some o/\o.cls=.type "StopIteration")->E (.ref e) { s with heap:=h' }) :
 wpAny (model prog w) A (Builtin.«zip.__next__» ⟨[.ref z],[]⟩) Q E s:=by
 obtain⟨zz,zi,⟨a,b,zo⟩,g1,g2⟩:=Z;show wpAny _ _ (field (.ref z) 2 >>= _) _ _ _;refine K1 (K1w zz rfl (x:=.bool false) rfl ?_);show wpAny _ _ (field (.ref z) 3 >>= _) _ _ _;refine K1 (K1w zz rfl (x:=.ref TI) rfl ?_);refine K1 (K2p zi rfl ?_);show wpAny _ _ (K28 (.ref z) >>= _) _ _ _;refine K1 ?_;unfold K28;refine K1 (K1w zz rfl (x:=.none) rfl (K6 ?_));simp only[if_true];refine K1 (K49 ?_);refine K1 (K1w zz rfl (x:=.ref TO) rfl ?_);refine K1 (K3k zz (by simp) λk1 z1 s1=>?_)
 replace z1:IsZip k1 z TI TO .ellipsis:=z1
 refine K1 ?_;simp only[Z0s,Z13,K57,K5s];refine K1 (K1 (K7r ?_));show wpAny _ _ (K1l (.ref i1) >>= _) _ _ _;cases hx:xs[i]? with
 | none =>
  refine K1 (z9W hh (g1.extBut s1.extBut D.a3) (hl1.extBut s1.extBut O1.o1) hx λk2 e s2 he=>?_);obtain⟨oe,q1,q2⟩:=he;have z2:IsZip k2 z TI TO .ellipsis:=s2 _ _ D.a3.symm z1;have ez:e≠z:=λq=>by subst q;rw[z2]at q1;cases q1;simp at q2
  exact K3k z2 (by simp) λk3 _ s3=>hE k3 e (λc o c1 _ c3 _ q=>s3.extBut _ _ c1 (s2 _ _ c3 (s1.extBut _ _ c1 q))) ⟨oe,s3.extBut _ _ ez q1,q2⟩
 | some x =>
  have hy:ys[i]?=none:=by rcases hend with q|q;rw[hx]at q;cases q;exact q
  refine K1 (z4I (g1.extBut s1.extBut D.a3) (hl1.extBut s1.extBut O1.o1) hx λk2 g12 s2=>K6 ?_);have zo2:IsPair k2 TO a b:=s2.extBut _ _ D.a8 (s1.extBut _ _ D.a2 zo);refine K1 (K2p zo2 rfl ?_);refine K1 (K6n zo2 λk3 zo3 s3=>?_);refine K1 (Z0x (K6 ?_));refine K1 (K1 (K7r ?_));show wpAny _ _ (K1l (.ref i2) >>= _) _ _ _;refine K1 (z9W hh (((g2.extBut s1.extBut D.a4).extBut s2.extBut D.a0.symm).extBut s3.extBut D.a9.symm)
   (((hl2.extBut s1.extBut O2.o1).extBut s2.extBut O2.o3).extBut s3.extBut O2.o2) hy λk4 e s4 he=>?_)
  obtain⟨oe,q1,q2⟩:=he;have z4:IsZip k4 z TI TO .ellipsis:=s4 _ _ D.a4.symm (s3.extBut _ _ D.a2.symm (s2.extBut _ _ D.a3.symm z1));have ez:e≠z:=λq=>by subst q;rw[z4]at q1;cases q1;simp at q2
  exact K3k z4 (by simp) λk5 _ s5=>hE k5 e (λc o c1 c2 c3 c4 q=>s5.extBut _ _ c1 (s4 _ _ c4 (s3.extBut _ _ c2 (s2.extBut _ _ c3 (s1.extBut _ _ c1 q))))) ⟨oe,s5.extBut _ _ ez q1,q2⟩
theorem zw0 {z TI TO i1 i2 t1 t2:Addr}{i:Nat}{xs ys:Array Value}{x y:Value}{Q:Option Value->Shared->Prop}(D:ZA z TI TO i1 i2) (O1:ZO z TO i1 i2 t1) (O2:ZO z TO i1 i2 t2)
 (Z:ZS s.heap z TI TO i1 i2 t1 t2 i .none) (hl1:s.heap.IsTuple t1 xs) (hl2:s.heap.IsTuple t2 ys) (hx:xs[i]?=some x) (hy:ys[i]?=some y)
 (hQ:∀h',ZS h' z TI TO i1 i2 t1 t2 (i+1) (rawInt s.heap.objs.size)->IsPair h' s.heap.objs.size x y->h'.objs.size=s.heap.objs.size+1 ->
  (∀c o,c≠z->c≠TO->c≠i1->c≠i2->s.heap.get? c=some o->h'.get? c=some o)->Q (.(r s.heap.objs.size)) { s with heap:=h' }) :
 wpAny (model prog w) A (pyNext (.ref z)) Q E s:=by
 have hT:s.TypeIs (.ref z) "zip":=⟨_,Z.zip,rfl⟩;unfold pyNext;exact K1 (K7s (K1j (name:=K2o "__next__") hT K4m
  (K1p K4m hT K8h (zv2 D O1 O2 Z hl1 hl2 hx hy λh' q1 q2 q3 q4=>K6 (hQ h' q1 q2 q3 q4)) (K83 _))))
theorem zA5 {z TI TO i1 i2 t1 t2:Addr}{i:Nat}{xs ys:Array Value}{Q:Option Value->Shared->Prop}(hh:A.handled=none) (D:ZA z TI TO i1 i2) (O1:ZO z TO i1 i2 t1) (O2:ZO z TO i1 i2 t2)
 (Z:ZS s.heap z TI TO i1 i2 t1 t2 i .none) (hl1:s.heap.IsTuple t1 xs) (hl2:s.heap.IsTuple t2 ys) (hend:xs[i]?=none\/ys[i]?=none)
 (hQ:∀h',(∀c o,c≠z->c≠TO->c≠i1->c≠i2->s.heap.get? c=some o->h'.get? c=some o)->Q none { s with heap:=h' }):wpAny (model prog w) A (pyNext (.ref z)) Q E s:=by
 have hT:s.TypeIs (.ref z) "zip":=⟨_,Z.zip,rfl⟩;unfold pyNext;refine K1 (K7s (K1j (name:=K2o "__next__") hT K4m
  (K1p K4m hT K8h (zP9 hh D O1 O2 Z hl1 hl2 hend λh' e kk he=>?_) (K83 _))))
 obtain⟨o,q1,q2⟩:=he;refine K1 (K84 (T:="StopIteration") (b:=true) ⟨o,q1,q2⟩ isSubtype_stop ?_);exact K6 (hQ _ kk)
theorem z9m {z TI TO i1 i2 t1 t2:Addr}{i:Nat}{f0:Value}{Q:Value->Shared->Prop}(Z:ZS s.heap z TI TO i1 i2 t1 t2 i f0) (h:Q (.ref z) s):wpAny (model prog w) A (pyIter (.ref z)) Q E s:=wpAny_pyIter_zip Z.zip h
end
abbrev zp1 (h:Heap) (l1:Addr):Heap:=h.push { cls:=.type "tuple_iterator",data:=.fields #[.ref l1,.int 0 0] }
abbrev zp2 (h:Heap) (l1 l2:Addr):Heap:=(zp1 h l1).push { cls:=.type "tuple_iterator",data:=.fields #[.ref l2,.int 0 0] }
abbrev zp3 (h:Heap) (l1 l2:Addr):Heap:=(zp2 h l1 l2).push { cls:=.type "tuple",data:=.seq #[.ref h.objs.size,.ref (zp1 h l1).objs.size] }
abbrev zp4 (h:Heap) (l1 l2:Addr):Heap:=(zp3 h l1 l2).push { cls:=.type "tuple",data:=.seq #[.none,.none] }
abbrev zp5 (h:Heap) (l1 l2:Addr):Heap:=(zp4 h l1 l2).push { cls:=.type "zip",data:=.fields #[.none,.bool false,.bool false,.ref (zp2 h l1 l2).objs.size,.ref (zp3 h l1 l2).objs.size] }
theorem zd9 (l1 l2:Addr) (xs ys:Array Value) :
 Meets (Builtin.«zip.__new__» ⟨[.type "zip",.ref l1,.ref l2],[]⟩) (λ_ R s=>s.heap.IsTuple l1 xs/\s.heap.IsTuple l2 ys/\R (.ok (.ret (.ref (zp4 s.heap l1 l2).objs.size))) { s with heap:=zp5 s.heap l1 l2 }) :=
 .of_wp λprog w A R s h=>by
  obtain⟨hp,g,d,tk,os⟩:=s;obtain⟨q1,q2,h⟩:=h;have hsub:=sub_zip;have L1:Z06 (Z0u ⟨hp,g,d,tk,os⟩) l1 xs:=q1;have L2:Z06 (Z0u ⟨hp.push { cls:=.type "tuple_iterator",data:=.fields #[.ref l1,.int 0 0] },g,d,tk,os⟩) l2 ys:=Z06.push q2 _
  wp_walk using K2f L1,K2f L2
  exact⟨_,rfl,h⟩
theorem zb8 {prog:K0d}{w:World}{A:Around}{E:Value->Shared->Prop}{s:Shared}{l1 l2:Addr}{xs ys:Array Value}{Q:Value->Shared->Prop}(hl1:s.heap.IsTuple l1 xs) (hl2:s.heap.IsTuple l2 ys)
 (h:∀h',ZS h' (s.heap.objs.size+4) (s.heap.objs.size+2) (s.heap.objs.size+3) s.heap.objs.size (s.heap.objs.size+1) l1 l2 0 .none->h'.objs.size=s.heap.objs.size+5 ->
  (∀c o,s.heap.get? c=some o->h'.get? c=some o)->Q (.ref (s.heap.objs.size+4)) { s with heap:=h' }):wpAny (model prog w) A (call (.type "zip") [.ref l1,.ref l2]) Q E s:=by
 refine Z0g PySem.F.called_zip (by decide) (PySem.F.typeCall_zip_2 _ _) (PySem.F.newCall_zip_2 _ _) (λobj=>PySem.F.args_object_init_3 obj _ _) PySem.F.entry_zip_new (zd9 l1 l2 xs ys) ⟨hl1,hl2,?_⟩;have y1:(zp1 s.heap l1).objs.size=s.heap.objs.size+1:=K1e ..;have y2:(zp2 s.heap l1 l2).objs.size=s.heap.objs.size+2:=by rw[K1e,y1]
 have y3:(zp3 s.heap l1 l2).objs.size=s.heap.objs.size+3:=by rw[K1e,y2]
 have y4:(zp4 s.heap l1 l2).objs.size=s.heap.objs.size+4:=by rw[K1e,y3]
 have y5:(zp5 s.heap l1 l2).objs.size=s.heap.objs.size+5:=by rw[K1e,y4]
 have x5:(zp5 s.heap l1 l2).get? (zp4 s.heap l1 l2).objs.size=some _:=K03 _ rfl;have x4:(zp5 s.heap l1 l2).get? (zp3 s.heap l1 l2).objs.size=some _:=K3 _ (K03 _ rfl);have x3:(zp5 s.heap l1 l2).get? (zp2 s.heap l1 l2).objs.size=some _:=K3 _ (K3 _ (K03 _ rfl));have x2:(zp5 s.heap l1 l2).get? (zp1 s.heap l1).objs.size=some _:=K3 _ (K3 _ (K3 _ (K03 _ rfl)));have x1:(zp5 s.heap l1 l2).get? s.heap.objs.size=some _:=K3 _ (K3 _ (K3 _ (K3 _ (K03 _ rfl))));show _/\_;rw[y2,y3,y4]at x5;rw[y1,y2]at x3;rw[y3]at x4;rw[y1]at x2;rw[y4];exact⟨⟨_,x5,rfl⟩,h _ ⟨x5,x3,⟨_,_,x4⟩,⟨_,x1,rfl,rfl⟩,⟨_,x2,rfl,rfl⟩⟩ y5 λc o q =>
  K3 _ (K3 _ (K3 _ (K3 _ (K3 _ q))))⟩
theorem zK9 {X:Cx}{pins:List (Addr×Obj)}{σ:L2.St}{H:Hp}{s:Shared}{ch:List Addr}{T:Addr}{vs:List V}{its:List Value}{h2:Heap}{t:Nat}(I:L2.Inv X pins σ H s)
 (hf:∀b∈ch,FpOk X pins H b) (kp:∀b o,b∉ch->s.heap.get? b=some o->h2.get? b=some o) (hT:s.heap.objs.size<=T) (tup:IsTup0 h2 T its.toArray) (rv:Vals vs its) (hz:vs.length<=sizeLine) :
 L2.Inv X pins σ (upd H T (.tup vs)) { s with heap:=h2,toks:=t }:=by
 have hn:H T=none:=I.hok.fresh hT;have ne:∀{b:Addr} {o:Obj},s.heap.get? b=some o->b≠T:=λe=>K0g (K0j (K02 e) hT);refine I.step (g':=s.gens) (d':=s.drawn) (ch:=ch) (λb hb=>⟨(hf b hb).2.2.2.1,(hf b hb).2.1,(hf b hb).2.2.2.2.1,(hf b hb).2.2.2.2.2⟩) (λb o _ _ hc e _=>kp b o hc e) (λb o _ _ hc e _=>⟨o.slots,kp b o hc e⟩)
  (λb o _ e n=>by rw[Y3 (ne e)];exact n) (λb o hc e=>⟨o,kp b o hc e⟩) (λb xs e=>by rw[Y3 (Y8 e hn)];exact e) (λb o u e=>by rw[Y3 (Y8 e hn)];exact e)
  (λb ps e=>⟨#[],by rw[Y3 (Y8 e hn),e];simp⟩) (λm hm=>?_) (λb u e=>?_) I.bare
 ·obtain⟨o,es,ep,q,r⟩:=hm;exact⟨o,es,ep,kp _ o (λz=>(hf _ z).2.1 rfl) q,r⟩
 ·by_cases hb:b=T
  ·subst hb;rw[z02]at e;cases e;exact⟨hz,its,rv,tup⟩
  ·rw[Y3 hb]at e;refine(I.hok b u e).stay (λc v hc q=>kp c v (λz=>?_) q) (λc q=>?_) λc xs q=>?_
   ·rcases hc with y|y
    ·rw[y]at z;rw[(hf b z).1]at e;cases e
    ·rw[(hf c z).1]at y;cases y
   ·rw[Y3 (Y8 q hn)];exact q
   ·rw[Y3 (Y8 q hn)];exact q
def Itz (K:K2) (t1 t2:Addr):It :=
 ⟨λi H=>∃xs ys x y,SqT K H t1 xs/\SqT K H t2 ys/\xs[i]?=some x/\ys[i]?=some y,
  λi H v H'=>∃T x y,H T=none/\v=.ref T/\(∀xs,SqT K H t1 xs->xs[i]?=some x)/\(∀ys,SqT K H t2 ys->ys[i]?=some y)/\H'=upd H T (.tup [x,y]),
  λi H=>∃xs ys,SqT K H t1 xs/\SqT K H t2 ys/\(xs.length<=i\/ys.length<=i)⟩
theorem zd8 {P:K0d}{w:World}{K:K2}{elts:List Expr}{kk:Nat}{pos:Pos}{z TI TO i1 i2 t1 t2:Addr}(D:ZA z TI TO i1 i2) (O1:ZO z TO i1 i2 t1) (O2:ZO z TO i1 i2 t2) :
 Turn P w K (.Tuple elts kk pos) (Itz K t1 t2) [z,TI,TO,i1,i2] z (λi h=>ZS h z TI TO i1 i2 t1 t2 i .none) where
 mem:=by simp
 obj:=λi h st b hb=>by
  obtain⟨zz,zi,⟨a,b',zo⟩,g1,g2⟩:=st;obtain⟨o1,e1,_,d1⟩:=g1;obtain⟨o2,e2,_,d2⟩:=g2;simp at hb;rcases hb with rfl|rfl|rfl|rfl|rfl
  ·exact⟨_,zz,λv q=>by cases q⟩
  ·exact⟨_,zi,λv q=>by cases q⟩
  ·exact⟨_,zo,λv q=>by cases q⟩
  ·exact⟨_,e1,λv q=>by rw[d1]at q;cases q⟩
  ·exact⟨_,e2,λv q=>by rw[d2]at q;cases q⟩
 keep:=λi h h' st k=>by
  obtain⟨zz,zi,⟨a,b',zo⟩,g1,g2⟩:=st;exact⟨k z (by simp) _ zz,k TI (by simp) _ zi,⟨a,b',k TO (by simp) _ zo⟩,g1.at λo e=>k i1 (by simp) o e,g2.at λo e=>k i2 (by simp) o e⟩
 item:=by
  intro X hP hw hK hc i pins s σ H E I hf st hg;subst hP hw hK;obtain⟨xs,ys,x,y,q1,q2,hx,hy⟩:=hg;obtain⟨its1,rv1,p1,z1⟩:=I.tuple q1;obtain⟨its2,rv2,p2,z2⟩:=I.tuple q2;obtain⟨u1,hu1,ru1⟩:=rv1.get hx;obtain⟨u2,hu2,ru2⟩:=rv2.get hy;refine zw0 D O1 O2 st (show s.heap.IsTuple t1 its1.toArray from p1) (show s.heap.IsTuple t2 its2.toArray from p2) (x:=u1) (y:=u2) (by simpa using hu1) (by simpa using hu2) λh' Z' pr sz kp=>?_;refine⟨_,rfl,wpAny_letOwnedTupleGo_zip Z'.zip λh2 zz2 sb=>?_⟩;have nT:∀b∈[z,TI,TO,i1,i2],H b=none:=λb hb=>(hf b hb).1;have zlt:z<s.heap.objs.size:=K02 st.zip;have lt5:∀b∈[z,TI,TO,i1,i2],b<s.heap.objs.size:=λb hb=>by
   obtain⟨zz,zi,⟨a,b',zo⟩,g1,g2⟩:=st;obtain⟨o1,e1,_,d1⟩:=g1;obtain⟨o2,e2,_,d2⟩:=g2;simp at hb;rcases hb with rfl|rfl|rfl|rfl|rfl
   ·exact K02 zz
   ·exact K02 zi
   ·exact K02 zo
   ·exact K02 e1
   ·exact K02 e2
  have hT:IsTup0 h2 s.heap.objs.size [u1,u2].toArray:=⟨_,(sb.2 _ (K2d zlt)).trans pr,⟨rfl,rfl⟩,_,rfl⟩;have J:=zK9 (t:=s.toks) (ch:=[z,TO,i1,i2]) (T:=s.heap.objs.size) (vs:=[x,y]) (its:=[u1,u2]) (h2:=h2) I (λb hb=>hf b (by simp at hb ⊢;rcases hb with q|q|q|q<;>simp[q]))
   (λb o hb e=>by simp at hb;exact(sb.2 b hb.1).trans (kp b o hb.1 hb.2.1 hb.2.2.1 hb.2.2.2 e)) (K01 _) hT (.cons ru1 (.cons ru2 .nil)) (by show 2<=sizeLine;decide)
  refine⟨.ref s.heap.objs.size,_,J,rfl,⟨_,x,y,I.hok.fresh (K01 _),rfl,λxs' h'=>by rw[I.tuple_inj h' q1];exact hx,λys' h'=>by rw[I.tuple_inj h' q2];exact hy,rfl⟩,?_,λb hb=>?_⟩
  ·obtain⟨zz,zi,⟨a,b',zo⟩,g1,g2⟩:=Z';exact⟨zz2,(sb.2 _ D.a1).trans zi,⟨a,b',(sb.2 _ D.a2).trans zo⟩,g1.at λo e=>(sb.2 _ D.a3).trans e,g2.at λo e=>(sb.2 _ D.a4).trans e⟩
  ·rw[Y3 (K0g (lt5 b hb))];exact nT b hb
 done:=by
  intro X hP hw hK hc i pins s σ H E I hf st hg;subst hP hw hK;obtain⟨xs,ys,q1,q2,hl⟩:=hg;obtain⟨its1,rv1,p1,z1⟩:=I.tuple q1;obtain⟨its2,rv2,p2,z2⟩:=I.tuple q2;have l1:=rv1.length;have l2:=rv2.length;refine zA5 (I.ok.hd hc) D O1 O2 st (show s.heap.IsTuple t1 its1.toArray from p1) (show s.heap.IsTuple t2 its2.toArray from p2) ?_ λh' kp=>⟨rfl,?_⟩
  ·rcases hl with q|q
   ·exact .inl (by simp;omega)
   ·exact .inr (by simp;omega)
  ·have hf':∀b∈[z,TO,i1,i2],FpOk X pins H b:=λb hb=>hf b (by simp at hb ⊢;rcases hb with q|q|q|q<;>simp[q]);refine I.step (g':=s.gens) (t':=s.toks) (d':=s.drawn) (ch:=[z,TO,i1,i2]) (λb hb=>⟨(hf' b hb).2.2.2.1,(hf' b hb).2.1,(hf' b hb).2.2.2.2.1,(hf' b hb).2.2.2.2.2⟩) (λb o _ _ hc e _=>?_) (λb o _ _ hc e _=>⟨o.slots,?_⟩)
    (λ_ _ _ _ n=>n) (λb o hc e=>⟨o,?_⟩) (λ_ _ e=>e) (λ_ _ _ e=>e) (λb ps e=>⟨#[],by rw[e];simp⟩) (λm hm=>?_) (λb u e=>?_) I.bare
   ·simp at hc;exact kp b o hc.1 hc.2.1 hc.2.2.1 hc.2.2.2 e
   ·simp at hc;exact kp b o hc.1 hc.2.1 hc.2.2.1 hc.2.2.2 e
   ·simp at hc;exact kp b o hc.1 hc.2.1 hc.2.2.1 hc.2.2.2 e
   ·obtain⟨o,es,ep,q,r⟩:=hm;exact⟨o,es,ep,kp _ o (λy=>(hf' z (by simp)).2.1 y.symm) (λy=>(hf' TO (by simp)).2.1 y.symm) (λy=>(hf' i1 (by simp)).2.1 y.symm) (λy=>(hf' i2 (by simp)).2.1 y.symm) q,r⟩
   ·refine(I.hok b u e).stay (λc v hc q=>?_) (λ_ q=>q) λ_ _ q=>q;have tr:∀d∈[z,TO,i1,i2],c≠d:=λd hd y=>by
     subst y;rcases hc with y|y
     ·rw[<- y,(hf' c hd).1]at e;cases e
     ·rw[(hf' c hd).1]at y;cases y
    exact kp c v (tr z (by simp)) (tr TO (by simp)) (tr i1 (by simp)) (tr i2 (by simp)) q
 self:=λ_ _ _ _ _ st h=>z9m st h
section
variable {X:Cx}{EX:XX}{a b:Expr}{elts:List Expr}{kk:Nat}{p pos pt:Pos}{ma mb:G->M D}
theorem zP1 (n:Nat):ZA (n+4) (n+2) (n+3) n (n+1):=by
 constructor<;>(intro h;have h':(_:Nat)=(_:Nat):=h;omega)
theorem zk6 (n t:Nat) (h:t<n):ZO (n+4) (n+3) n (n+1) t:=by
 constructor<;>(intro h;have h':(_:Nat)=(_:Nat):=h;omega)
def zX1 (K:K2) (ta:TA):TI:=λσ H R=>ta σ H λvs H2=>∃t1 t2 xs ys,vs=[.ref t1,.ref t2]/\SqT K H2 t1 xs/\SqT K H2 t2 ys/\R (Itz K t1 t2) H2
theorem zN1 {ta:TA}(hg:Gl X "zip") (hm:X.mg "zip" = none) (ha:PA X [a,b] ta)
 (hs:K05 [a,b] X.env=[(false,eval a X.env),(false,eval b X.env)]:=by rfl) (hs2:K05 [b] X.env=[(false,eval b X.env)]:=by rfl):PI X (.Tuple elts kk pt) (.Call (.Name "zip" p) [a,b] [] pos) (zX1 X.K ta):=by
 intro pins s σ H R I h;refine Call_ (z4h I hg hm boot_zip (K3d (thn (ha pos pins s σ H _ I h) λus s1 ⟨vs,H1,I1,r1,q1⟩=>?_) (by rw[hs,hs2]) (by rw[hs2];rfl)));obtain⟨t1,t2,xs,ys,e,q2,q3,q⟩:=q1;subst e;cases r1 with
 | cons r rr =>
  cases rr with
  | cons r' rr =>
   cases rr;cases r;cases r';obtain⟨its1,rv1,p1,z1⟩:=I1.tuple q2;obtain⟨its2,rv2,p2,z2⟩:=I1.tuple q3;refine zb8 (show s1.heap.IsTuple t1 its1.toArray from p1) (show s1.heap.IsTuple t2 its2.toArray from p2) λh' Z sz kp=>?_;refine z9m (s:={ s1 with heap:=h' }) Z ?_;have lt1:t1<s1.heap.objs.size:=by obtain⟨o,e,_⟩:=p1;exact K02 e
   have lt2:t2<s1.heap.objs.size:=by obtain⟨o,e,_⟩:=p2;exact K02 e
   refine⟨s1.heap.objs.size+4,_,_,_,H1,rfl,I1.kept (t':=s1.toks) kp,zd8 (zP1 _) (t1:=t1) (t2:=t2) (zk6 _ _ lt1) (zk6 _ _ lt2),Z,λb hb=>?_,q⟩;have hb':s1.heap.objs.size<=b:=by
    simp at hb;rcases hb with rfl|rfl|rfl|rfl|rfl
    ·exact K6f _ _
    ·exact K6f _ _
    ·exact K6f _ _
    ·exact K01 _
    ·exact K6f _ _
   exact I1.fpOk hb' (I1.hok.fresh hb')
def zipD (xs ys:List D):List D:=List.zipWith (λa b=>.tup [a,b]) xs ys
def iZip (ma mb:G->M D):G->M Src:=λγ=>do
 let l <- Z1 ma (Z1 mb aNil) γ
 match l with
 | [.tup xs,.tup ys]=>pure (.con (zipD xs ys))
 | _=>bad
theorem zj2 {xs ys:List D}{i:Nat}{d:D}(h:(zipD xs ys)[i]?=some d):∃x y,xs[i]?=some x/\ys[i]?=some y/\d=.tup [x,y]:=by
 unfold zipD at h;rw[K8z]at h;cases e1:xs[i]? with
 | none=>rw[e1]at h;cases h
 | some x =>
  cases e2:ys[i]? with
  | none=>rw[e1,e2]at h;cases h
  | some y=>rw[e1,e2]at h;cases h;exact⟨x,y,rfl,rfl,rfl⟩
theorem zO9 (hc:X.calm=true) (hg:Gl X "zip") (hm:X.mg "zip" = none) (ha:SE X EX a ma) (hb:SE X EX b mb)
 (hs:K05 [a,b] X.env=[(false,eval a X.env),(false,eval b X.env)]:=by rfl) (hs2:K05 [b] X.env=[(false,eval b X.env)]:=by rfl):SI X EX (.Tuple elts kk pt) (.Call (.Name "zip" p) [a,b] [] pos) (iZip ma mb) :=
 ⟨PI.imp (zN1 hg hm (Z0 ha (Z0 hb Z5 hs2) (by rw[hs,hs2])).h hs hs2) λσ H R ⟨ρ,γ,h,rel,fin⟩=>⟨ρ,γ,h,rel,(Fin.bind fin).mono λl ρ1 h1 H1 p1 e1 r1 f1 vs rv=>by
  split at f1
  ·rename_i xs ys;simp only[RDs,RD]at rv;obtain⟨_,_,rfl,⟨t1,us,rfl,q1,d1⟩,_,_,rfl,⟨t2,ws,rfl,q2,d2⟩,rfl⟩:=rv;refine⟨t1,t2,us,ws,rfl,q1,q2,f1 ρ1 H1 (Pre.refl _) (Ext.refl _ _) r1 _ λi ρ2 h4 H2 p2 e2 r2 _=>⟨λd hd=>?_,λhi=>?_⟩⟩
   ·have hd':(zipD xs ys)[i]?=some d:=hd;obtain⟨x,y,g1,g2,rfl⟩:=zj2 hd';obtain⟨v1,a1,b1⟩:=(d1.mono p2 e2).get g1;obtain⟨v2,a2,b2⟩:=(d2.mono p2 e2).get g2;refine⟨⟨us,ws,v1,v2,e2.t _ _ q1,e2.t _ _ q2,a1,a2⟩,λv H3 ⟨T,x',y',n1,n2,n3,n4,n5⟩=>?_⟩;have m1:=n3 us (e2.t _ _ q1);have m2:=n4 ws (e2.t _ _ q2);rw[a1]at m1;cases m1;rw[a2]at m2;cases m2;subst n2;subst n5;have ext:Ext X.K H2 (L2.upd H2 T (.tup [v1,v2])):=Ext.upd (.inl n1);refine⟨?_,r2.other n1,ext⟩;simp only[RD];exact⟨T,_,rfl,SqT.of z02,RDs.cons (b1.mono (Pre.refl _) ext) (RDs.cons (b2.mono (Pre.refl _) ext) RDs.nil)⟩
   ·have hi':(zipD xs ys).length=i:=hi;unfold zipD at hi';rw[K9g]at hi';have l1:=d1.length;have l2:=d2.length;exact⟨us,ws,e2.t _ _ q1,e2.t _ _ q2,by omega⟩
  ·exact(show False from f1).elim⟩⟩
end
section
variable {X:Cx}{EX:XX}{a b:Expr}{tg:Expr}{p pos p2:Pos}{ma mb:G->M D}
theorem z8p {A:Around}{E:Value->Shared->Prop}{s:Shared}{t sl:Addr}{items:Array Value}{vl vu:Value}{lo hi:Option Int}{Q:Value->Shared->Prop}(ht:IsTup s.heap t items) (hs:s.heap.IsSliceOf sl vl vu .none) (pl:IsPart vl lo) (pu:IsPart vu hi)
 (hw:HT.sIx items.size 0 lo=0/\HT.sIx items.size items.size hi=items.size) (h:Q (.ref t) s):wpAny (model X.prog X.w) A (K58 (.ref t) (.ref sl)) Q E s:=by
 obtain⟨os,hos,hcs,hds⟩:=id hs;have hTs:s.TypeIs (.ref sl) "slice":=⟨os,hos,hcs⟩;unfold K58
 try with_reducible refine K1u ?_
 first|refine K1 (K6 ?_)|skip
 refine K1 (K7n ht.typeIs (by decide) ?_);refine K1 (K1j (name:=K2o "__getitem__") ht.typeIs K13
  (K1p K13 ht.typeIs K6x ?_ (K79 _ _)))
 show wpAny _ _ (K4r (.ref t) >>= _) _ _ s;refine K1 (K9l ht ?_);refine K1 (K4b hTs ?_);rw[if_pos (by decide)];refine K1 (HT.sliceApplied_gen hs pl pu ?_);have yes:((((HT.sIx items.size 0 lo:Nat):Int)==0&&(1:Int)==1&&(HT.sIx items.size items.size hi - HT.sIx items.size 0 lo)==items.size)=true):=by
  rw[hw.1,hw.2];simp
 show wpAny _ _ (if (((HT.sIx items.size 0 lo:Nat):Int)==0&&(1:Int)==1&&(HT.sIx items.size items.size hi - HT.sIx items.size 0 lo)==items.size)=true then _ else _) _ _ s;rw[if_pos yes];refine K1 (m:=K73 (.ref t)) ?_;unfold K73;refine K1 (K4b ht.typeIs (K6 ?_));rw[if_pos (by decide)];exact K1 (K49 (K6 ⟨_,rfl,K6 h⟩))
def rSlW (K:K2):V->Option Int->Option Int->Hp->VK->Prop:=λx lo hi H Q=>∃a xs,x=.ref a/\SqT K H a xs/\(HT.sIx xs.length 0 lo=0/\HT.sIx xs.length xs.length hi=xs.length)/\Q (.ref a) H
theorem zf1:SlR X (rSlW X.K):=by
 intro pins s σ H x v vl vu lo hi sl Q I rx hs pl pu h;obtain⟨a,xs,rfl,hx,hw,q⟩:=h;cases rx;obtain⟨its,r,ht,hz⟩:=I.tuple hx;have hlen:its.toArray.size=xs.length:=by rw[K9];exact r.length.symm
 exact⟨"tuple",_,K13.lookup,ht.typeIs,z8p ht hs pl pu (by rw[hlen];exact hw) ⟨.ref a,H,I,rfl,q⟩⟩
def cutD (xs:List D) (lo hi:Option Int):List D:=(xs.drop (HT.sIx xs.length 0 lo)).take (HT.sIx xs.length xs.length hi - HT.sIx xs.length 0 lo)
theorem z5Q {K:K2}{ρ:List Addr}{H:Hp}{ds:List D}{xs:List V}(h:RDs K ρ H ds xs) (lo hi:Option Int):RDs K ρ H (cutD ds lo hi) (cutV xs lo hi):=by
 unfold cutD cutV;rw[h.length];exact(h.drop _).take _
def fSl:D->Option Int->Option Int->M D
 | .tup xs,lo,hi=>pure (.tup (cutD xs lo hi))
 | .fl xs,lo,hi=>newL (cutD xs lo hi)
 | .ref n,lo,hi=>do
  let xs <- getL n
  newL (cutD xs lo hi)
 | _,_,_=>bad
def tO (K:K2) (EX:XX) (m:G->M (Option Int)):TO:=λσ H Q=>∃ρ γ h,Rel K ρ γ h σ H/\Fin K EX ρ H (λo _ _ H'=>Q o H') (m γ h)
structure SO (X:Cx) (EX:XX) (e:Option Expr) (m:G->M (Option Int)):Prop where
 h:PO X e (tO X.K EX m)
theorem PO.imp {X:Cx}{e:Option Expr}{t t':TO}(h:PO X e t) (f:∀σ H Q,t' σ H Q->t σ H Q):PO X e t':=λpins s σ H Q I z=>h pins s σ H Q I (f σ H Q z)
def z20:G->M (Option Int):=λ_=>pure none
def z1P (ma:G->M D):G->M (Option Int):=λγ=>do
 let x <- ma γ
 match x with
 | .int i=>pure (some i)
 | _=>bad
theorem z2A:SO X EX none z20:=⟨PO.imp zr5 λσ H Q ⟨ρ,γ,h,rel,fin⟩=>fin ρ H (Pre.refl _) (Ext.refl _ _) rel.h⟩
theorem z2E (ha:SE X EX a ma):SO X EX (some a) (z1P ma):=⟨PO.imp (zw1 ha.h) λσ H Q ⟨ρ,γ,h,rel,fin⟩=>⟨ρ,γ,h,rel,(Fin.bind fin).mono λx ρ1 h1 H1 p1 e1 r1 f1 v rv=>by
 cases x<;>first|exact(show False from f1).elim|skip
 rename_i i;simp only[RD]at rv;exact⟨i,rv,f1 ρ1 H1 (Pre.refl _) (Ext.refl _ _) r1⟩⟩⟩
def z0G (ma:G->M D) (ml mh:G->M (Option Int)):G->M D:=λγ=>do
 let x <- ma γ;let lo <- ml γ;let hi <- mh γ
 fSl x lo hi
theorem zC4 {ρ:List Addr}{h:AH}{H:Hp}{x:D}{v:V}{lo hi:Option Int}{Q:VK}(r:RH X.K ρ h H) (rx:RD X.K ρ H x v) (fin:FE X.K EX ρ H Q (fSl x lo hi h)):rSlL X.K v lo hi H Q\/rSlT X.K v lo hi H Q\/rSlW X.K v lo hi H Q:=by
 cases x<;>first|exact(show False from fin).elim|skip
 case tup xs =>
  have rx':=rx;simp only[RD]at rx;obtain⟨q,vs,rfl,h1,h2⟩:=rx;have fin':FE X.K EX ρ H Q (.ok (.tup (cutD xs lo hi)) h):=fin;by_cases hw:HT.sIx vs.length 0 lo=0/\HT.sIx vs.length vs.length hi=vs.length
  ·refine .inr (.inr ⟨q,vs,rfl,h1,hw,FE.here fin' r ?_⟩);have e:cutD xs lo hi=xs:=by
    unfold cutD;rw[h2.length,hw.1,hw.2,List.drop_zero,Nat.sub_zero,<- h2.length,K1g]
   rw[e];exact rx'
  ·exact .inr (.inl ⟨q,vs,rfl,h1,hw,λp hp=>FE.tup fin' r (z5Q h2 lo hi) hp⟩)
 case fl xs =>
  simp only[RD]at rx;obtain⟨q,vs,rfl,h1,h2⟩:=rx;have fin':FE X.K EX ρ H Q (newL (cutD xs lo hi) h):=fin;unfold newL at fin';split at fin'
  ·exact .inl ⟨q,vs,rfl,h1.sq,λp hp=>FE.lst fin' r (z5Q h2 lo hi) hp⟩
  ·exact fin'.elim
 case ref n =>
  simp only[RD]at rx;obtain⟨q,rfl,h1⟩:=rx;have fin':FE X.K EX ρ H Q ((getL n >>= λxs=>newL (cutD xs lo hi)) h):=fin;have f1:=Fin.bind fin';cases e:getL n h with
  | bad=>rw[e]at f1;exact f1.elim
  | err z hz=>exact(z0V e).elim
  | ok xs h2 =>
   obtain⟨rfl,q1⟩:=z0S e;rw[e]at f1;have f2:=f1 ρ H (Pre.refl _) (Ext.refl _ _) r;dsimp only at f2;unfold newL at f2;split at f2
   ·obtain⟨a1,n1,vs,o1,d1⟩:=r.at q1;rw[h1]at n1;cases n1;exact .inl ⟨q,vs,rfl,SqL.of o1,λp hp=>FE.lst f2 r (z5Q d1 lo hi) hp⟩
   ·exact f2.elim
theorem z1J {lo hi:Option Expr}{ml mh:G->M (Option Int)}(ha:SE X EX a ma) (hl:SO X EX lo ml) (hh:SO X EX hi mh):SE X EX (.Subscript a (.Slice lo hi none p2) pos) (z0G ma ml mh) :=
 ⟨PE.imp (zg6 (sl_list.or (sl_tup.or zf1)) ha.h hl.h hh.h) λσ H Q ⟨ρ,γ,h,rel,fin⟩=>⟨ρ,γ,h,rel,(Fin.bind fin).mono λx ρ1 h1 H1 p1 e1 r1 f1 v rv=>⟨ρ1,γ,h1,⟨rel.g.mono p1 e1,r1⟩,(Fin.bind f1).mono λl ρ2 h2 H2 p2 e2 r2 f2 =>
  ⟨ρ2,γ,h2,⟨(rel.g.mono p1 e1).mono p2 e2,r2⟩,(Fin.bind f2).mono λu ρ3 h3 H3 p3 e3 r3 f3=>zC4 r3 ((rv.mono p2 e2).mono p3 e3) f3⟩⟩⟩⟩
end
def leS (a b:Str):Bool:=!decide (b.cps.toList<a.cps.toList)
theorem z5b {a b c:Str}(h1:leS a b=true) (h2:leS b c=true):leS a c=true:=by
 simp only[leS,K5x,decide_eq_false_iff_not]at *;exact K5i.mpr (List.le_trans (K5i.mp h1) (K5i.mp h2))
theorem z88 (a b:Str):(leS a b||leS b a)=true:=by
 simp only[leS,K2w,K5x,decide_eq_false_iff_not];rcases List.le_total a.cps.toList b.cps.toList with h|h
 ·exact .inl (K5i.mpr h)
 ·exact .inr (K5i.mpr h)
theorem zv8 {a b:Str}(h:a.cps.toList=b.cps.toList):a=b:=by
 cases a;cases b;congr 1;exact Array.toList_inj.mp h
theorem zb4 {a b:Str}(h1:leS a b=true) (h2:leS b a=true):a=b:=by
 simp only[leS,K5x,decide_eq_false_iff_not]at *;exact zv8 (List.le_antisymm (K5i.mp h1) (K5i.mp h2))
def z2R (l:List Str):List Str:=l.mergeSort leS
theorem z7Y (l:List Str):(z2R l).Perm l:=K6t l leS
theorem zi2 (l:List Str):(z2R l).Pairwise (λa b=>leS a b=true):=K86 (le:=leS) (λa b c h1 h2=>z5b h1 h2) z88 l
theorem z5q:∀(p:Str) (l:List Str),risingS p l=true->(p::l).Pairwise (λa b=>leS a b=true)
 | p,[],_=>by simp
 | p,x::r,h=>by
  have h':(!ltCps x.cps.toList p.cps.toList&&risingS x r)=true:=h;rw[K0f,ltCps_eq]at h';have ih:=z5q x r h'.2;have px:leS p x=true:=h'.1;refine List.pairwise_cons.mpr ⟨λy hy=>?_,ih⟩;rcases K0c.mp hy with rfl|hy
  ·exact px
  ·exact z5b px ((List.pairwise_cons.mp ih).1 y hy)
theorem zh1 {l l':List Str}(p:l'.Perm l) (h:sortedS l'=true):l'=z2R l:=by
 have pw:l'.Pairwise (λa b=>leS a b=true):=by
  cases l' with
  | nil=>exact .nil
  | cons x r=>exact z5q x r h
 exact K7q (λa b _ _=>zb4) pw (zi2 l) (p.trans (z7Y l).symm)
def leI (a b:Int):Bool:=decide (a<=b)
def sortI (l:List Int):List Int:=l.mergeSort leI
theorem sortI_perm (l:List Int):(sortI l).Perm l:=K6t l leI
theorem z7d (l:List Int):(sortI l).Pairwise (λa b=>a<=b):=by
 have:=K86 (le:=leI) (λa b c h1 h2=>by simp only[leI,decide_eq_true_eq]at *;omega) (λa b=>by simp only[leI,K2w,decide_eq_true_eq];omega) l;exact this.imp λh=>by simpa [leI] using h
theorem z6p {l l':List Int}(p:l'.Perm l) (h:l'.Pairwise (·<=·)):l'=sortI l :=
 K7q (λa b _ _ h1 h2=>Int.le_antisymm h1 h2) h (z7d l) (p.trans (sortI_perm l).symm)
def z4C:List D->Option (List Str)
 | []=>some []
 | .str b::r=>(z4C r).map (b::·)
 | _::_=>none
def z5V:List D->Option (List Int)
 | []=>some []
 | .int b::r=>(z5V r).map (b::·)
 | _::_=>none
def z2z:List D->M D
 | [.ref n]=>do
  let xs <- getL n
  if xs.length<64 then (match z4C xs with
   | some ss=>newL ((z2R ss).map .str)
   | none=>(match z5V xs with
    | some ns=>newL ((sortI ns).map .int)
    | none=>bad)) else bad
 | _=>bad
theorem z70 {K:K2}{ρ:List Addr}{H:Hp}:∀{xs:List D}{bs:List Str}{vs:List V},z4C xs=some bs->RDs K ρ H xs vs->vs=bs.map V.str
 | [],bs,vs,e,r=>by simp only[RDs]at r;cases e;subst r;rfl
 | x::xs,bs,vs,e,r=>by
  simp only[RDs]at r;obtain⟨v,r2,rfl,h1,h2⟩:=r;cases x<;>first|(simp only[z4C]at e;cases e;done)|skip
  rename_i b;simp only[z4C]at e;obtain⟨bs',e1,rfl⟩:=K06.mp e;simp only[RD]at h1;subst h1;rw[z70 e1 h2];rfl
theorem z6O {K:K2}{ρ:List Addr}{H:Hp}:∀{xs:List D}{bs:List Int}{vs:List V},z5V xs=some bs->RDs K ρ H xs vs->vs=bs.map V.int
 | [],bs,vs,e,r=>by simp only[RDs]at r;cases e;subst r;rfl
 | x::xs,bs,vs,e,r=>by
  simp only[RDs]at r;obtain⟨v,r2,rfl,h1,h2⟩:=r;cases x<;>first|(simp only[z5V]at e;cases e;done)|skip
  rename_i b;simp only[z5V]at e;obtain⟨bs',e1,rfl⟩:=K06.mp e;simp only[RD]at h1;subst h1;rw[z6O e1 h2];rfl
theorem z7i:∀{bs:List Str}{us:List Value},Vals (bs.map V.str) us->StrsAre us bs
 | [],us,h=>by cases h;exact .nil
 | b::bs,us,h=>by
  cases h with
  | cons h1 h2=>obtain⟨t,rfl⟩:=h1;exact .cons b t (z7i h2)
theorem z7p:∀{us:List Value}{bs:List Str},StrsAre us bs->Vals (bs.map V.str) us
 | _,_,.nil=>.nil
 | _,_,.cons y t r=>.cons ⟨t,rfl⟩ (z7p r)
theorem z76:∀{us:List Value}{bs:List Int},K7l us bs->Vals (bs.map V.int) us:=λh=>z3P h
section
variable {X:Cx}{EX:XX}{a:Expr}{p pos:Pos}{mr:G->M (List D)}
theorem z6a:z2B X (.builtin "sorted") (λxs H Q=>∃l ys,xs=[.ref l]/\SqL X.K H l ys/\ys.length<64 /\
 ((∃ss,ys=ss.map V.str/\∀q,H q=none->Q (.ref q) (upd H q (.lst ((z2R ss).map V.str))))\/(∃ns,ys=ns.map V.int/\∀q,H q=none->Q (.ref q) (upd H q (.lst ((sortI ns).map V.int)))))):=by
 intro pins s σ H xs us Q I r h;obtain⟨l,ys,rfl,hq,h64,h⟩:=h;obtain⟨u,rfl,ru⟩:=vals1 r;cases ru;obtain⟨its,rv,pl,hz⟩:=I.list hq;have hl:=rv.length;have fin:∀(out:Array Value) (zs:List V),Vals zs out.toList->zs.length=ys.length->(∀q,H q=none->Q (.ref q) (upd H q (.lst zs)))->EP X pins σ Q (.ref (s.heap.objs.size+1)) { s with heap:=sortedAll s.heap its out }:=λout zs h1 h2 h3=>by
  obtain⟨e,he⟩:=sortedAll_at s.heap its out;refine⟨.ref (s.heap.objs.size+1),_,I.laid (t':=s.toks) (o:=.lst zs) (λb o q=>sortedAll_old q) (K45 _) ⟨by omega,out.toList,e,h1,?_⟩,rfl,h3 _ (I.hok.fresh (K45 _))⟩;rw[he]
 rcases h with ⟨ss,rfl,h⟩|⟨ns,rfl,h⟩
 ·refine sorted_strs pl.isList (z7i rv) (by omega) λout ss' h1 h2 h3=>?_;have e:=zh1 h2 h3;subst e;exact fin out _ (z7p h1) (by rw[K4,K4,h2.length_eq]) h
 ·have hi:K7l its ns:=L2.intsAre_of rv;refine sorted_ints pl.isList hi (by omega) λout ns' h1 h2 h3=>?_;have e:=z6p h2 h3;subst e;exact fin out _ (z76 h1) (by rw[K4,K4,h2.length_eq]) h
theorem z7n {K:K2}{ρ:List Addr}{H:Hp}:∀(l:List Str),RDs K ρ H (l.map .str) (l.map V.str)
 | []=>RDs.nil
 | x::r=>RDs.cons (by simp[RD]) (z7n r)
theorem z4M {K:K2}{ρ:List Addr}{H:Hp}:∀(l:List Int),RDs K ρ H (l.map .int) (l.map V.int)
 | []=>RDs.nil
 | x::r=>RDs.cons (by simp[RD]) (z4M r)
theorem z9i:AR X.K EX (λxs H Q=>∃l ys,xs=[.ref l]/\SqL X.K H l ys/\ys.length<64 /\
 ((∃ss,ys=ss.map V.str/\∀q,H q=none->Q (.ref q) (upd H q (.lst ((z2R ss).map V.str))))\/(∃ns,ys=ns.map V.int/\∀q,H q=none->Q (.ref q) (upd H q (.lst ((sortI ns).map V.int)))))) z2z:=by
 intro ρ h H ds vs Q r rd fin;unfold z2z at fin;split at fin
 ·rename_i n;obtain⟨v,rfl,rv⟩:=rds1 rd;have f1:=Fin.bind fin;cases e:getL n h with
  | bad=>rw[e]at f1;exact f1.elim
  | err z hz=>exact(z0V e).elim
  | ok xs h1 =>
   obtain⟨rfl,q1⟩:=z0S e;rw[e]at f1;have f2:=f1 ρ H (Pre.refl _) (Ext.refl _ _) r;dsimp only at f2;simp only[RD]at rv;obtain⟨q,rfl,h2⟩:=rv;obtain⟨a1,n1,ws,o1,d1⟩:=r.at q1;rw[h2]at n1;cases n1;by_cases hl:xs.length<64
   ·rw[if_pos hl]at f2;refine⟨q,ws,rfl,SqL.of o1,by rw[<- d1.length];exact hl,?_⟩;cases eb:z4C xs with
    | some ss =>
     rw[eb]at f2;have f3:FE X.K EX ρ H Q (newL ((z2R ss).map .str) h1):=f2;unfold newL at f3;split at f3
     ·exact .inl ⟨ss,z70 eb d1,λp hp=>FE.lst f3 r (z7n _) hp⟩
     ·exact f3.elim
    | none =>
     rw[eb]at f2;cases en:z5V xs with
     | some ns =>
      rw[en]at f2;have f3:FE X.K EX ρ H Q (newL ((sortI ns).map .int) h1):=f2;unfold newL at f3;split at f3
      ·exact .inr ⟨ns,z6O en d1,λp hp=>FE.lst f3 r (z4M _) hp⟩
      ·exact f3.elim
     | none=>rw[en]at f2;exact(show False from f2).elim
   ·rw[if_neg hl]at f2;exact(show False from f2).elim
 ·exact fin.elim
theorem z4Z (hc:X.calm=true) (hg:Gl X "sorted") (hm:X.mg "sorted" = none) (ha:SA X EX [a] mr) (he:K05 [a] X.env=[(false,eval a X.env)]:=by rfl):SE X EX (.Call (.Name "sorted" p) [a] [] pos) (j7 z2z mr) :=
 z1c (z1K z6a hg hm boot_sorted ha.h (by decide) (by decide) he rfl) z9i
end
@[simp] theorem bindM {α β:Type} (m:M α) (f:α->M β) (h:AH):(m >>= f) h=match m h with
 | .ok a h1=>f a h1
 | .err x h1=>.err x h1
 | .bad=>.bad:=rfl
@[simp] theorem pureM {α:Type} (a:α) (h:AH):(Z1h a:M α) h=.ok a h:=rfl
theorem Rise.lt {xs:Array Nat}(h:Rise xs) {i j a b:Nat}(ha:xs[i]?=some a) (hb:xs[j]?=some b) (hij:i<j):a<b:=by
 obtain⟨h1,e1⟩:=K3i.mp ha;obtain⟨h2,e2⟩:=K3i.mp hb;have:=K4x.mp h i j (by simpa using h1) (by simpa using h2) hij;simp only[Array.getElem_toList]at this;rw[e1,e2]at this;exact this
theorem z4q {xs:Array Nat}(h:Rise xs) (j:Nat):∀(fuel lo hi:Nat),hi - lo<=fuel->lo<=hi->hi<=xs.size->(∀(i:Nat) a,i<lo->xs[i]?=some a->a<j)->(∀(i:Nat) a,hi<=i->xs[i]?=some a->j<=a) ->
 (K37 xs j fuel lo hi)<=xs.size/\(∀(i:Nat) a,i<K37 xs j fuel lo hi->xs[i]?=some a->a<j)/\∀(i:Nat) a,K37 xs j fuel lo hi<=i->xs[i]?=some a->j<=a
 | 0,lo,hi,hf,hl,hs,h1,h2=>by
  have:hi=lo:=by omega
  subst this;exact⟨by simp only[K37];omega,by simpa only[K37] using h1,by simpa only[K37] using h2⟩
 | fuel+1,lo,hi,hf,hl,hs,h1,h2=>by
  rw[K37];split
  ·rename_i hlt;have hm:(lo+hi) / 2<xs.size:=by omega
   have e:xs[(lo+hi) / 2]?=some xs[(lo+hi) / 2]:=K1n hm;have ed:xs.getD ((lo+hi) / 2) j=xs[(lo+hi) / 2]:=by rw[Array.getD_eq_getD_getElem?,e];rfl
   dsimp only;rw[ed];split
   ·rename_i q;refine z4q h j fuel _ hi (by omega) (by omega) hs (λi a hi' ha=>?_) h2;by_cases z:i=(lo+hi) / 2
    ·subst z;rw[e]at ha;cases ha;exact q
    ·exact K5q (h.lt ha e (by omega)) q
   ·rename_i q;refine z4q h j fuel lo _ (by omega) (by omega) (by omega) h1 (λi a hi' ha=>?_);by_cases z:i=(lo+hi) / 2
    ·subst z;rw[e]at ha;cases ha;omega
    ·have:=h.lt e ha (by omega);omega
  ·exact⟨by omega,h1,λi a hi' ha=>h2 i a (by omega) ha⟩
theorem z31 {xs:Array Nat}(h:Rise xs) (j:Nat):K0p xs j<=xs.size/\(∀(i:Nat) a,i<K0p xs j->xs[i]?=some a->a<j)/\∀(i:Nat) a,K0p xs j<=i->xs[i]?=some a->j<=a:=by
 unfold K0p;refine z4q h j xs.size 0 xs.size (by omega) (by omega) (by omega) (λi a hi=>by omega) (λi a hi ha=>?_);have:=(K3i.mp ha).1;omega
theorem z7x {xs:Array Nat}(h:Rise xs) {i j:Nat}(e:xs[i]?=some j):K0p xs (j+1)=i+1:=by
 obtain⟨b1,b2,b3⟩:=z31 h (j+1);have hi:=(K3i.mp e).1;have l1:i<K0p xs (j+1):=by
  by_cases q:i<K0p xs (j+1)
  ·exact q
  ·have:=b3 i j (by omega) e;omega
 by_cases q:K0p xs (j+1)=i+1
 ·exact q
 ·have hlt:i+1<xs.size:=by omega
  have e2:xs[i+1]?=some xs[i+1]:=K1n hlt;have a1:=b2 (i+1) _ (by omega) e2;have a2:=h.lt e e2 (by omega);omega
theorem z7X {xs:Array Nat}(h:Rise xs):K0p xs 0=0:=by
 obtain⟨b1,b2,b3⟩:=z31 h 0;by_cases q:K0p xs 0=0
 ·exact q
 ·have hlt:0<xs.size:=by omega
  have e2:xs[0]?=some xs[0]:=K1n hlt;have:=b2 0 _ (by omega) e2;omega
theorem ze2 {t:K44}{j:Nat}(h:Rise t.place) (hj:t.place[K0p t.place j]?≠some j):Rise (t.put j).1.place:=by
 obtain⟨b1,b2,b3⟩:=z31 h j;show (K44.insertAt t.place (K0p t.place j) j).toList.Pairwise _;rw[K44.toList_insertAt];have tk:∀a∈t.place.toList.take (K0p t.place j),a<j:=λa ha=>by
  obtain⟨i,hi,e⟩:=K40 ha;rw[List.getElem_take]at e;have hi2:i<K0p t.place j:=by
   rw[K0e]at hi;omega
  have hi3:i<t.place.size:=by omega
  exact b2 i a hi2 (by rw[K1n hi3];simpa using e)
 have dr:∀a∈t.place.toList.drop (K0p t.place j),j<a:=λa ha=>by
  obtain⟨i,hi,e⟩:=K40 ha;rw[List.getElem_drop]at e;have hi3:K0p t.place j+i<t.place.size:=by
   rw[K3g]at hi;simp at hi;omega
  have e2:t.place[K0p t.place j+i]?=some a:=by rw[K1n hi3];simpa using e
  have:=b3 _ a (by omega) e2;by_cases q:a=j
  ·subst q;cases i with
   | zero=>exact absurd e2 hj
   | succ i =>
    have hlt:K0p t.place a<t.place.size:=by omega
    have e3:t.place[K0p t.place a]?=some t.place[K0p t.place a]:=K1n hlt;have a1:=b3 _ _ (K01 _) e3;have a2:=h.lt e3 e2 (by omega);omega
  ·omega
 have p1:=List.Pairwise.take (i:=K0p t.place j) h;have p2:=List.Pairwise.drop (i:=K0p t.place j) h;simp only[List.pairwise_append,List.pairwise_cons]
 first
  | (refine⟨p1,⟨dr,p2⟩,λa ha b hb=>?_⟩
     rcases K0c.mp hb with rfl|hb
     ·exact tk a ha
     ·exact K5q (tk a ha) (dr b hb))
  | skip
theorem z6q {t:K44}{j:Nat}(h:∀i,t.slot j≠.live i):t.place[K0p t.place j]?≠some j:=λe=>by
 refine h (K0p t.place j) ?_;unfold K44.slot;dsimp only;rw[e,if_pos (by simp)]
theorem z4K {t:K44}{ha:Nat->Int}{hx:Int}:∀(fuel:Nat) (p:Z1b) (j:Nat) (dm:Option Nat),(∀d,p.dummy=some d->t.slot d=.dummy)->K7f t ha hx fuel p=some (.empty j dm)->t.slot j=.empty/\∀d,dm=some d->t.slot d=.dummy
 | 0,p,j,dm,hd,e=>by simp[K7f]at e
 | fuel+1,p,j,dm,hd,e=>by
  rw[K7f]at e;have adv:∀q:Z1b,(t.advance q).dummy=q.dummy:=λq=>by
   unfold K44.advance;split<;>rfl
  split at e
  ·rename_i hs;cases e;exact⟨hs,hd⟩
  ·rename_i hs;refine z4K fuel _ j dm (λd z=>?_) e;rw[adv]at z;cases z;exact hs
  ·split at e
   ·cases e
   ·refine z4K fuel _ j dm (λd z=>?_) e;rw[adv]at z;exact hd d z
theorem zh7 {t:K44}{hx:Int}{j:Nat}{b:Bool}(e:t.freeSlot hx=some (j,b)):t.place[K0p t.place j]?≠some j:=by
 unfold K44.freeSlot K44.probe at e;split at e
 ·rename_i j' dm hp;obtain⟨s1,s2⟩:=z4K _ _ j' dm (λd z=>by simp[K44.probeStart]at z) hp;cases dm with
  | none=>cases e;exact z6q (λi z=>by rw[show t.slot (none.getD j')=_ from s1]at z;cases z)
  | some d=>cases e;exact z6q (λi z=>by rw[show t.slot ((some d).getD j')=_ from s2 d rfl]at z;cases z)
 ·cases e
theorem z2h (n:Nat):Rise (Array.range n):=by
 show (Array.range n).toList.Pairwise _;rw[Array.toList_range];exact K8j
theorem z6f {t:K44}{es:Array (Int×Value)}{hx:Int}{x:Value}(h:Rise t.place):Rise (layNew t es hx x).2.1.place/\(layNew t es hx x).2.1.led=t.led:=by
 unfold layNew;split
 ·rename_i sl wd e;dsimp only;unfold K44.orStandIn;split
  ·exact⟨ze2 h (zh7 e),rfl⟩
  ·exact⟨z2h _,rfl⟩
 ·exact⟨z2h _,rfl⟩
theorem z9O {mask finger moves:Nat}{led plain:Bool}{hs:Array Int}{t:K44}{o:Array Nat}(e:Z1e mask finger moves led plain hs=some (t,o)):Rise t.place/\t.led=led:=by
 unfold Z1e at e;cases hl:K44.layClean mask hs with
 | none=>rw[hl]at e;cases e
 | some ow =>
  rw[hl]at e;cases e;refine⟨?_,rfl⟩;unfold Rise;dsimp only;rw[K7k,List.pairwise_filterMap];refine K8j.imp λ{a b} hab c hc d hd=>?_;cases h1:ow.getD a none with
  | none=>rw[h1]at hc;cases hc
  | some u =>
   cases h2:ow.getD b none with
   | none=>rw[h2]at hd;cases hd
   | some v =>
    rw[h1]at hc;rw[h2]at hd;cases hc;cases hd;exact hab
theorem z7K {t:K44}{es:Array (Int×Value)}{n:Nat}:Rise (K6l t es n).2.1.place/\(K6l t es n).2.1.led=t.led:=by
 unfold K6l;split
 ·rename_i t' o e;obtain⟨r1,r2⟩:=z9O e;dsimp only;split
  ·exact⟨r1,r2⟩
  ·exact⟨z2h _,rfl⟩
 ·exact⟨z2h _,rfl⟩
section
variable {P:K0d}{w:World}
theorem z2y {α β:Type}{R:α->β->Prop}{l' l:List β}(p:l'.Perm l):∀{ks:List α},Paired R ks l->∃ks',ks'.Perm ks/\Paired R ks' l':=by
 induction p with
 | nil=>intro ks h;exact⟨ks,.refl _,h⟩
 | cons x _ ih =>
  intro ks h;cases h with
  | cons a b =>
   obtain⟨ks',q1,q2⟩:=ih b;exact⟨_::ks',.cons _ q1,.cons a q2⟩
 | swap x y l =>
  intro ks h;cases h with
  | cons a b =>
   cases b with
   | cons c d=>exact⟨_::_::_,.swap _ _ _,.cons c (.cons a d)⟩
 | trans _ _ ih1 ih2 =>
  intro ks h;obtain⟨k1,a1,a2⟩:=ih2 h;obtain⟨k2,b1,b2⟩:=ih1 a2;exact⟨k2,b1.trans a1,b2⟩
theorem z3X {α β:Type}{R:α->β->Prop}:∀{ks:List α}{l:List β}{k:α}{x:β},Paired R ks l->R k x->Paired R (ks++[k]) (l++[x])
 | _,_,_,_,.nil,h=>.cons h .nil
 | _,_,_,_,.cons a b,h=>.cons a (z3X b h)
theorem z2Z {α β:Type}{R:α->β->Prop}:∀{ks:List α}{l:List β}{x:β},Paired R ks l->x∈l->∃k∈ks,R k x
 | _,_,_,.cons a b,h=>by
  rcases K0c.mp h with rfl|h
  ·exact⟨_,K0u,a⟩
  ·obtain⟨k,h1,h2⟩:=z2Z b h;exact⟨k,K0o _ h1,h2⟩
theorem z3V {α β:Type}{R:α->β->Prop}:∀{ks:List α}{l:List β}{k:α},Paired R ks l->k∈ks->∃x∈l,R k x
 | _,_,_,.cons a b,h=>by
  rcases K0c.mp h with rfl|h
  ·exact⟨_,K0u,a⟩
  ·obtain⟨k,h1,h2⟩:=z3V b h;exact⟨k,K0o _ h1,h2⟩
theorem z7u {k:Key}{v:Value}(h:z21 k v=true):v.scannable=true:=by
 rcases J1 h with ⟨i,t,rfl,rfl⟩|⟨x,t,rfl,rfl⟩<;>rfl
theorem zh6 {ks:List Key}{l:List (Int×Value)}(h:Paired (KE w) ks l):ElemsOf (z06 P w) l:=λe he=>by
 obtain⟨k,_,h1,h2⟩:=z2Z h he;exact⟨⟨k,h1,h2⟩,z7u h1⟩
theorem zA2 {k k':Key}{v:Value}(h:z21 k v=true) (h':z21 k' v=true):k=k':=by
 rcases J1 h with ⟨i,t,rfl,rfl⟩|⟨x,t,rfl,rfl⟩
 ·rcases J1 h' with ⟨j,u,rfl,e⟩|⟨y,u,rfl,e⟩
  ·cases e;rfl
  ·cases e
 ·rcases J1 h' with ⟨j,u,rfl,e⟩|⟨y,u,rfl,e⟩
  ·cases e
  ·cases e;rfl
theorem mem_of {ks:List Key}{l:List (Int×Value)}(h:Paired (KE w) ks l) (k:Key):k∈ks↔∃e∈l,z21 k e.2=true:=by
 constructor
 ·intro hk;obtain⟨e,h1,h2,_⟩:=z3V h hk;exact⟨e,h1,h2⟩
 ·rintro⟨e,h1,h2⟩;obtain⟨k',h3,h4,_⟩:=z2Z h h1;exact zA2 h2 h4 ▸ h3
theorem SetAt.stay {h h':Heap}{a:Addr}{ks:List Key}(x:SetAt w h a ks) (k:∀o,h.get? a=some o->h'.get? a=some o):SetAt w h' a ks:=by
 obtain⟨o,es,ep,t,ks',h1,h2⟩:=x;exact⟨o,es,ep,t,ks',k o h1,h2⟩
theorem z9a {h:Heap}{led:Bool}(hl:led=true\/w.params.followText "set-order" = true):SetAt w (h.push { cls:=.type "set",dict:=none,data:=.set #[] 0 (.fresh 0 0 led) }) h.objs.size [] :=
 ⟨_,#[],0,_,[],K03 _ rfl,⟨rfl,rfl,rfl⟩,rfl,.nil,.refl _,K93,by decide,by rfl,by show ([]:List Nat).Pairwise _;exact .nil,hl⟩
variable {A:Around}{E:Value->Shared->Prop}{s:Shared}{a:Addr}
theorem z7h {ks:List Key}{o:Obj}{es es':Array (Int×Value)}{ep:Nat}{t t':K44}{ks':List Key}{h:Heap}(ho:h.get? a=some o) (hex:o.ExactSet) (hd:o.data=.set es ep t) (h4:Paired (KE w) ks' es'.toList) (h5:ks'.Perm ks) (h6:ks.Nodup)
 (hb:es'.size<scanBound) (hf:t'.fits es'.size=true) (hr:Rise t'.place) (hl:t'.led=true\/w.params.followText "set-order" = true) :
 SetAt w (h.update a (K72 es' t')) a ks/\∃o',(h.update a (K72 es' t')).get? a=some o'/\o'.ExactSet/\o'.data=.set es' (ep+1) t':=by
 have g:(h.update a (K72 es' t')).get? a=some { o with data:=.set es' (ep+1) t' }:=by
  have:=K3m (K72 es' t') ho (by rw[putSet_of es' t' hd];rfl);rw[putSet_of es' t' hd]at this;exact this
 exact⟨⟨_,es',ep+1,t',ks',g,hex,rfl,h4,h5,h6,hb,hf,hr,hl⟩,_,g,hex,rfl⟩
theorem tail_at {ks ks1:List Key}{o:Obj}{es es1:Array (Int×Value)}{ep:Nat}{t t2:K44}{wd:Bool}{gw:Bool->Sem Unit}{R:Option Bool->Shared->Prop}(hG:∀(g:Bool) (s1:Shared) (Z:Unit->Shared->Prop),Z () s1->wpAny (model P w) A (gw g) Z E s1)
 (ho:s.heap.get? a=some o) (hex:o.ExactSet) (hd:o.data=.set es ep t) (h4:Paired (KE w) ks1 es1.toList) (h5:ks1.Perm ks) (h6:ks.Nodup) (hb:es1.size<scanBound) (hf:t2.fits es1.size=true) (hr:Rise t2.place) (hl:t2.led=true\/w.params.followText "set-order" = true)
 (h:∀h',K3c a s.heap h'->SetAt w h' a ks->R (some true) { s with heap:=h' }) :
 wpAny (model P w) A (storeSet a es1 t2 >>= λ_=>if (!wd&&t2.tooFull)=true then (gw (K6l t2 es1 (K34 es1.size)).2.2 >>= λ_=>storeSet a (K6l t2 es1 (K34 es1.size)).1 (K6l t2 es1 (K34 es1.size)).2.1 >>= λ_=>pure (some true)) else pure (some true)) R E s:=by
 obtain⟨S1,o1,g1,x1,d1⟩:=z7h (h:=s.heap) (t':=t2) ho hex hd h4 h5 h6 hb hf hr hl;have sb:=K1k s.heap a (K72 es1 t2);refine K1 (wpAny_storeSet_of ho hd ?_ (K63 hb));split
 ·have rp:=relayAll_perm t2 es1 (K34 es1.size);have rf:=relayAll_fits t2 es1 (K34 es1.size);have rr:=z7K (t:=t2) (es:=es1) (n:=K34 es1.size);obtain⟨ks2,p1,p2⟩:=z2y rp h4;have sz:(K6l t2 es1 (K34 es1.size)).1.size=es1.size:=by rw[<- K15,rp.length_eq,K15]
  have b2:(K6l t2 es1 (K34 es1.size)).1.size<scanBound:=by rw[sz];exact hb
  refine K1 (hG _ _ _ (K1 (wpAny_storeSet_of g1 d1 (K6 ?_) (K63 b2))));obtain⟨S2,_⟩:=z7h (h:=s.heap.update a (K72 es1 t2)) (t':=(K6l t2 es1 (K34 es1.size)).2.1) g1 x1 d1 p2 (p1.trans h5) h6 b2 rf rr.1 (by rw[rr.2];exact hl);exact h _ (sb.trans (K1k _ a _)) S2
 ·exact K6 (h _ sb S1)
theorem zN4 {ks:List Key}{k:Key}{x:Value}{Q:Bool->Shared->Prop}(hk:z21 k x=true) (hS:SetAt w s.heap a ks) (hroom:ks.length+1<scanBound)
 (h:∀h' b,K3c a s.heap h'->SetAt w h' a (if k∈ks then ks else ks++[k])->Q b { s with heap:=h' }) :
 wpAny (model P w) A (setAddHashed a x (keyH w k)) Q E s:=by
 obtain⟨o,es,ep,t,ks',ho,hex,hd,h4,h5,h6,h7,h8,h9,h0⟩:=hS;have el:=zh6 (P:=P) h4;have sc:=z7u hk;have hn:es.size=ks.length:=by rw[<- h5.length_eq,K3w h4,K15]
 unfold setAddHashed setAddHashedIn;refine K1u (K1 (K3v ho hd h8 ?_));dsimp only;rw[byScan_of sc h7 el,if_pos rfl];unfold setAddByScan;refine K1 (K1 (K49 (K1 (wpAny_setScan_of (knd:=z06 P w) (k:=k) hk ho hd h8 el ?_))));cases hr:List.findIdx? (λe=>(z06 P w).is k e.2) es.toList with
 | some j =>
  dsimp only;obtain⟨hj,hp,_⟩:=List.findIdx?_eq_some_iff_getElem.mp hr;have hm:k∈ks:=h5.mem_iff.mp ((mem_of h4 k).mpr ⟨_,K30 hj,hp⟩);have:=h s.heap false (Z02 a s.heap) (by rw[if_pos hm];exact⟨o,es,ep,t,ks',ho,hex,hd,h4,h5,h6,h7,h8,h9,h0⟩);exact K6 (K6 this)
 | none =>
  dsimp only;have hm:k∉ks:=λz=>by
   obtain⟨e,he,hp⟩:=(mem_of h4 k).mp (h5.mem_iff.mpr z);have:=List.findIdx?_eq_none_iff.mp hr e he;rw[show (z06 P w).is k e.2=true from hp]at this;cases this
  rw[if_neg hm]at h;have np:=layNew_perm t es (keyH w k) x;have nf:=layNew_fits t es (keyH w k) x;have nr:=z6f (t:=t) (es:=es) (hx:=keyH w k) (x:=x) h9;have hG:∀(g:Bool) (s1:Shared) (R:Unit->Shared->Prop),R () s1->wpAny (model P w) A (match g with|true=>rule "set.scan.the-table-gave-way" | false=>pure ()) R E s1 :=
   λg s1 R q=>by cases g<;>first|exact K6 q|exact K49 q
  generalize hL:layNew t es (keyH w k) x=L at np nf nr ⊢;obtain⟨es1,t1,wd,gv⟩:=L;dsimp only at np nf nr ⊢;rw[Z0c]at np;obtain⟨ks1,p1,p2⟩:=z2y np (z3X h4 (show KE w k (keyH w k,x) from⟨hk,rfl⟩));have nd:(ks++[k]).Nodup:=by
   rw[K21];exact⟨h6,by simp,λu hu v hv=>by simp at hv;subst hv;exact λz=>hm (z ▸ hu)⟩
  have b1:es1.size<scanBound:=by
   rw[<- K15,np.length_eq,K04,K15];simpa [hn] using hroom
  have p3:ks1.Perm (ks++[k]):=p1.trans (h5.append_right [k]);have l1:t1.led=true\/w.params.followText "set-order" = true:=by rw[nr.2];exact h0
  refine K1 (hG _ _ _ ?_);split
  ·rw[hashByValue_scannable 8 sc];refine K1 (K6 ?_);refine tail_at (t2:=if plainKind x=true then t1 else { t1 with plain:=false }) hG ho hex hd p2 p3 nd b1 ?_ ?_ ?_ λh' sb S=>K6 (h h' true sb S)
   ·split
    ·exact nf
    ·exact K44.fits_plain_off nf
   ·split
    ·exact nr.1
    ·exact nr.1
   ·split
    ·exact l1
    ·exact l1
  ·refine K1 (K6 ?_);simp only[if_pos];exact tail_at hG ho hex hd p2 p3 nd b1 nf nr.1 l1 λh' sb S=>K6 (h h' true sb S)
end
def putK (acc:List Key) (k:Key):List Key:=if k∈acc then acc else acc++[k]
def dedK (ks:List Key):List Key:=ks.foldl putK []
theorem zd4 (acc:List Key) (k:Key):(putK acc k).length<=acc.length+1:=by
 unfold putK;split
 ·omega
 ·simp
theorem z5k:∀(ks acc:List Key),(ks.foldl putK acc).length<=acc.length+ks.length
 | [],acc=>by simp
 | k::ks,acc=>by
  have h1:=z5k ks (putK acc k);have h2:=zd4 acc k;simp only[K3o,K07];omega
theorem zf7 (ks:List Key):(dedK ks).length<=ks.length:=by
 have:=z5k ks [];simpa [dedK] using this
theorem za7 (ks:List Key) (k:Key):dedK (ks++[k])=putK (dedK ks) k:=by
 unfold dedK;rw[K5w];rfl
section
variable {P:K0d}{w:World}{A:Around}{E:Value->Shared->Prop}{s:Shared}{a:Addr}
theorem z8U {ks:List Key}{k:Key}{x:Value}{Q:Bool->Shared->Prop}(hk:z21 k x=true) (hS:SetAt w s.heap a ks) (hroom:ks.length+1<scanBound)
 (h:∀h' b,K3c a s.heap h'->SetAt w h' a (putK ks k)->Q b { s with heap:=h',toks:=s.toks+1 }):wpAny (model P w) A (setAdd a x) Q E s:=by
 unfold setAdd;refine K1u (K1 ((z06 P w).pyHash (k:=k) hk ?_));exact zN4 (s:={ s with toks:=s.toks+1 }) hk hS hroom λh' b sb S=>h h' b sb S
end
section
variable {P:K0d}{w:World}{A:Around}{R:Result->Shared->Prop}{I:Addr}{fp wr:List Addr}{G:Array K6m->Array K6m->Prop}{n:Nat}{PV:Nat->Value->Prop}{St:Nat->Shared->Prop}
theorem z53 (W:WalksS P w A.in1 I fp wr G n PV St) (S:Addr) (hSf:S∉fp) (key:Nat->Key) (hv:∀i v,PV i v->z21 (key i) v=true) (hb:n+1<scanBound) :
 ∀(k i:Nat) (s:Shared),i+k=n->St i s->SetAt w s.heap S (dedK ((K0h i).map key)) ->
  (∀s',Moved (S::wr) G s s'->SetAt w s'.heap S (dedK ((K0h n).map key))->R (.ok (.ret .none)) s') ->
  K5u (model P w) A (.builtin "set.update.loop" ⟨[.ref S,.ref I],[]⟩) R s:=by
 have nw:S∉wr:=λh=>hSf (W.sub _ h);have up:∀b∈wr,b∈S::wr:=λb hb=>K0o _ hb;intro k;induction k with
 | zero =>
  intro i s hk st hS hR;obtain rfl:i=n:=by omega
  refine K2e K88 ?_;rw[K1v K5k _];show wpAny _ A.in1 (pyNext (.ref I) >>= _) _ _ s;refine K1 (W.done s _ _ st λs' hm=>?_);show wpAny _ A.in1 (ret K2n) _ _ s';exact K6 (hR s' (hm.mono up) (hS.stay λo e=>hm.heap S o nw e))
 | succ k ih =>
  intro i s hk st hS hR;refine K2e K88 ?_;rw[K1v K5k _];show wpAny _ A.in1 (pyNext (.ref I) >>= _) _ _ s;refine K1 (W.item i s _ _ (by omega) st λv s' hP st' hm=>?_);show wpAny _ A.in1 (K41 [v] (setAdd S v) >>= _) _ _ s';have room:(dedK ((K0h i).map key)).length+1<scanBound:=by
   have:=zf7 ((K0h i).map key);rw[K4,K20]at this;omega
  refine K1 (K1u (z8U (hv i v hP) (hS.stay λo e=>hm.heap S o nw e) room λh' b sb S2=>?_));have nx:dedK ((K0h (i+1)).map key)=putK (dedK ((K0h i).map key)) (key i):=by
   rw[K55,K0z];exact za7 _ _
  refine K6 ⟨K4k K5k _,ih (i+1) _ (by omega) (W.frame _ s' _ _ st' (K45 _) λb hb o e=>?_) (by rw[nx];exact S2) λs'' hm'' S3=>?_⟩
  ·rw[sb.2 b (λz:b=S=>hSf (z ▸ hb))];exact e
  ·refine hR s'' (Moved.trans W.gtrans ((hm.mono up).then_heap (K45 _) λb o hb e=>?_) hm'') S3;rw[sb.2 b (λz:b=S=>hb (by rw[z];exact K0u))];exact e
end
theorem z80:isSubtype (.type "tuple") (.type "set")=pure false:=by rw[K5z];kernel_rfl
theorem z6i:isSubtype (.type "tuple") (.type "frozenset")=pure false:=by rw[K5z];kernel_rfl
abbrev z1x (w:World):Obj:={ cls:=.type "set",dict:=none,data:=.set #[] 0 (.fresh 0 0 (!w.params.followText "set-order")) }
theorem zE2 (w:World):(!w.params.followText "set-order")=true\/w.params.followText "set-order" = true:=by
 cases w.params.followText "set-order"<;>simp
section
variable {P:K0d}{w:World}{A:Around}{E:Value->Shared->Prop}{s:Shared}
theorem fresh_at {h:Heap}:SetAt w (h.push (z1x w)) h.objs.size []:=z9a (zE2 w)
theorem newCode (a:Value) {Q:Value->Shared->Prop}(h:Q (.ref s.heap.objs.size) { s with heap:=s.heap.push (z1x w) }) :
 K5u (model P w) A (.call (.builtin "set.__new__") ⟨[.type "set",a],[]⟩) (wants Q E) s:=by
 refine K8v (show wpAny _ A.in1 (do checkBuiltinCall "set.__new__" ⟨[.type "set",a],[]⟩;again (.builtin "set.__new__" ⟨[.type "set",a],[]⟩)) _ _ s from ?_);refine K1 (Z0w (F.newCall_set_1 a) (K6 ⟨K4k F.plain_set_new _,K2e F.entry_set_new ?_⟩));rw[K1v F.plain_set_new _];unfold Builtin.«set.__new__» Builtin.Frozenset.newClass;have hz:=sub_set_self;obtain⟨hp,g,d,tk,os⟩:=s;dsimp only
 wp_walk
 refine K3h (K6 ?_);dsimp only;simp only[newObj];refine K1 (wpAny_alloc (K6 ?_));exact K6 h
theorem z9C {T:String}{l:Addr}{items:Array Value}{key:Nat->Key}{Q:Value->Shared->Prop}(hT:T = "list"\/T = "tuple") (hh:A.handled=none) (hl:∃o,s.heap.get? l=some o/\o.cls=.type T/\∃n,o.data=.seq items n)
 (hv:∀(i:Nat) v,items[i]?=some v->z21 (key i) v=true) (hb:items.size+1<scanBound)
 (h:∀h' tk,SetAt w h' s.heap.objs.size (dedK ((K0h items.size).map key))->(∀b o,s.heap.get? b=some o->h'.get? b=some o)->Q (.ref s.heap.objs.size) { s with heap:=h',toks:=tk }) :
 wpAny (model P w) A (call (.type "set") [.ref l]) Q E s:=by
 obtain⟨c,tl,hmro⟩:=F.called_set.mro;have z1:=F.called_set.made;have z2:=F.called_set.sub;have z3:=F.called_set.notType;have z4:=F.called_set.canCreate;have z5:=F.typeCall_set_1 (.ref l);obtain⟨ol,hol,hcl,nl,hdl⟩:=hl;obtain⟨ocls,odict,odata,oslots⟩:=ol;simp only at hcl hdl;subst hcl;subst hdl;refine wpAny_call (K8v (show wpAny _ _ (callAny (.type "set") _) _ _ _ from ?_));refine K6 ⟨Code.quiet_builtin _ (by decide +kernel),K2e F.entry_type_call ?_⟩;rw[Around.under_plain (weight_type_call_type "set" [.ref l] []) rfl]
 repeat (any_goals (first|assumption|wp_step))
 refine K4v (newCode (.ref l) (E:=E) (Q:=λobj s1=>obj=.ref s.heap.objs.size/\s1={ s with heap:=s.heap.push (z1x w) }) ⟨rfl,rfl⟩) λr s1 hr=>?_;cases r with
 | error e=>exact hr
 | ok fl =>
  cases fl with
  | next=>exact hr.elim
  | brk=>exact hr.elim
  | cont=>exact hr.elim
  | ret obj =>
   obtain⟨rfl,rfl⟩:=hr;have gS:(s.heap.push (z1x w)).get? s.heap.objs.size=some (z1x w):=K03 _ rfl;have tS:K6h { s with heap:=s.heap.push (z1x w) } (.ref s.heap.objs.size) "set":=⟨_,gS,rfl⟩;have y1:=F.called_set.init.lookup;have y2:=F.called_set.init.bind (.ref s.heap.objs.size)
   repeat (any_goals (first|assumption|wp_step))
   refine K4v (codeAny_call_builtin (R:=wants (λr s2=>r=.none/\∃h' tk,s2={ s with heap:=h',toks:=tk }/\SetAt w h' s.heap.objs.size (dedK ((K0h items.size).map key))/\∀b o,s.heap.get? b=some o->h'.get? b=some o) E) F.called_set.init.plain F.entry_set_init (check_set_init_1 tS ?_)) λr2 s2 hr2=>?_
   ·have gl:(s.heap.push (z1x w)).get? l=some { cls:=.type T,dict:=odict,data:=.seq items nl,slots:=oslots }:=K3 _ hol;have hll:l<s.heap.objs.size:=K02 hol;have h3:A.in1.in1.in1.handled=none:=by simp[hh]
    have neI:l≠(s.heap.push (z1x w)).objs.size:=by rw[K1e];exact K0g (K4p hll)
    have nf:s.heap.objs.size∉[(s.heap.push (z1x w)).objs.size,l]:=by
     rw[K1e];simp only[K0c,K0k,K1y,or_false,not_or];exact⟨K0g (K81 _),K2d hll⟩
    have start:∀ob:Obj,SetAt w ((s.heap.push (z1x w)).push ob) s.heap.objs.size (dedK ((K0h 0).map key)):=λob=>fresh_at.stay λo e=>K3 _ e;have fin:∀(ob:Obj) s',Moved [s.heap.objs.size,(s.heap.push (z1x w)).objs.size] (λg g'=>g'=g) { s with heap:=(s.heap.push (z1x w)).push ob } s'->SetAt w s'.heap s.heap.objs.size (dedK ((K0h items.size).map key)) ->
     ∃h' tk,s'={ s with heap:=h',toks:=tk }/\SetAt w h' s.heap.objs.size (dedK ((K0h items.size).map key))/\∀b o,s.heap.get? b=some o->h'.get? b=some o:=λob s' hm S2=>by
     obtain⟨h',g',d',tk',os'⟩:=s';have e1:g'=s.gens:=hm.gens;have e2:d'=s.drawn:=hm.drawn;have e3:os'=s.os:=hm.os;subst e1;subst e2;subst e3;refine⟨h',tk',rfl,S2,λb o e=>hm.heap b o ?_ (K3 _ (K3 _ e))⟩;have:=K02 e;rw[K1e];simp only[K0c,K0k,K1y,or_false,not_or];exact⟨K0g this,K0g (K4p this)⟩
    rcases hT with rfl|rfl
    ·have x1:=F.sub_list_set;have x2:=F.sub_list_frozenset;have x3:(K47 "list"==K47 "dict")=false:=by decide
     have il:(s.heap.push (z1x w)).IsList l items:=⟨_,gl,rfl,nl,rfl⟩;unfold Builtin.«set.__init__» noKeywords K6q;generalize hPI:pyIter=PI
     wp_walk
     subst hPI;refine K62 il (K1 (K75 ?_));refine z53 ((Walks.list h3 _ l neI items).toS) s.heap.objs.size nf key (λi v e=>hv i v e) hb items.size 0 _ (by omega) ⟨⟨_,K03 _ rfl,rfl,rfl⟩,il.push _⟩ (start _) λs' hm S2=>?_;obtain⟨h',tk,rfl,q1,q2⟩:=fin _ s' hm S2;exact K6 (show wpAny _ _ (ret K2n) _ _ _ from K6 ⟨rfl,h',tk,rfl,q1,q2⟩)
    ·have x1:=z80;have x2:=z6i;have x3:(K47 "tuple"==K47 "dict")=false:=by decide
     have il:(s.heap.push (z1x w)).IsTuple l items:=⟨_,gl,rfl,nl,rfl⟩;unfold Builtin.«set.__init__» noKeywords K6q;generalize hPI:pyIter=PI
     wp_walk
     subst hPI;refine K2f il (K1 (K75 ?_));refine z53 ((Walks.tuple h3 _ l neI items).toS) s.heap.objs.size nf key (λi v e=>hv i v e) hb items.size 0 _ (by omega) ⟨⟨_,K03 _ rfl,rfl,rfl⟩,⟨_,K3 _ gl,rfl,nl,rfl⟩⟩ (start _) λs' hm S2=>?_;obtain⟨h',tk,rfl,q1,q2⟩:=fin _ s' hm S2;exact K6 (show wpAny _ _ (ret K2n) _ _ _ from K6 ⟨rfl,h',tk,rfl,q1,q2⟩)
   ·cases r2 with
    | error e=>exact hr2
    | ok f2 =>
     cases f2 with
     | next=>exact hr2.elim
     | brk=>exact hr2.elim
     | cont=>exact hr2.elim
     | ret r =>
      obtain⟨rfl,h',tk,rfl,q1,q2⟩:=hr2
      repeat (any_goals (first|assumption|wp_step))
      exact h _ _ q1 q2
end
theorem z35 {α:Type}:∀(l:List α) (i:Nat) (h:i<l.length),(l[i]::l.eraseIdx i).Perm l
 | [],i,h=>by simp at h
 | a::l,0,h=>.refl _
 | a::l,i+1,h=>by
  have:=z35 l i (by simpa using h);exact(List.Perm.swap a _ _).trans (Z18 a this)
theorem z5o {α:Type}{l:List α}{i n:Nat}(h:i<l.length) (e:l.length=n+1):(l.eraseIdx i).length=n:=by
 rw[List.length_eraseIdx,if_pos h,e];rfl
theorem z9d {α:Type}(f:Nat->Nat):∀(n k:Nat) (left:List α) (out:Array α),left.length=n->(Z01 f n k left out).toList.Perm (out.toList++left)
 | 0,k,left,out,h=>by
  have:left=[]:=K7x.mp h;subst this;simp[Z01]
 | n+1,k,left,out,h=>by
  have hl:f k % left.length<left.length:=Nat.mod_lt _ (by omega);rw[Z01,K5 hl];dsimp only;refine(z9d f n (k+1) _ _ (z5o hl h)).trans ?_;rw[Z0c,K10];refine List.Perm.append_left _ ?_;exact z35 left _ hl
theorem z9X {α:Type}(f:Nat->Nat) (xs:Array α):(Z0q f xs).toList.Perm xs.toList:=by
 unfold Z0q;have:=z9d f xs.size 0 xs.toList #[] (by simp);simpa using this
theorem slot_si_next:Slot "set_iterator" "__next__" "set_iterator.__next__" :=
 .of (owner:="set_iterator") (n:="__next__") (by rw[K8u,K69];kernel_rfl) (by decide +kernel) (by decide +kernel) (by decide +kernel) (by first|exact .inl (by decide +kernel)|exact .inr (by decide +kernel)) (by rw[K5z];kernel_rfl)
theorem z2G:entryFor table "set_iterator.__next__" = some Builtin.«set_iterator.__next__»:=entryFor_of_tree (by kernel_rfl)
theorem z7g:Manifest.owners.lookup (String.ofList ['r','o','t','a','r','e','t','i','_','t','e','s'].reverse)=some Manifest.sig_set_iterator:=by kernel_rfl
theorem z39 (a:Value):argsOk "set_iterator.__next__" ⟨[a],[]⟩:=by
 unfold argsOk;rw[K9m (id:="set_iterator.__next__") (n:=['_','_','t','x','e','n','_','_']) (o:=['r','o','t','a','r','e','t','i','_','t','e','s']) (by kernel_rfl) z7g];kernel_rfl
theorem z37:Slot "set_iterator" "__iter__" "set_iterator.__iter__" :=
 .of (owner:="set_iterator") (n:="__iter__") (by rw[K8u,K69];kernel_rfl) (by decide +kernel) (by decide +kernel) (by decide +kernel) (by first|exact .inl (by decide +kernel)|exact .inr (by decide +kernel)) (by rw[K5z];kernel_rfl)
theorem z5e:entryFor table "set.__iter__" = some Builtin.«frozenset.__iter__» :=
 entryFor_alias (id':="frozenset.__iter__") (by kernel_rfl) rfl (by decide +kernel) (by kernel_rfl)
theorem z5N (a:Value):argsOk "set.__iter__" ⟨[a],[]⟩:=by
 unfold argsOk;rw[K9m (id:="set.__iter__") (n:=['_','_','r','e','t','i','_','_']) (o:=['t','e','s']) (by kernel_rfl) F.owner_set];kernel_rfl
section
variable {P:K0d}{w:World}{A:Around}{E:Value->Shared->Prop}{s:Shared}
theorem z4i {α:Type}:∀(n:Nat) (xs:List α) (s:Shared) (Q:List α->Shared->Prop),xs.length=n->(∀ys d',ys.Perm xs->Q ys { s with drawn:=d' })->wpAny (model P w) A (drawOrder n xs) Q E s
 | 0,xs,s,Q,h,hq=>by
  have:xs=[]:=K7x.mp h;subst this;exact K6 (hq [] s.drawn (.refl _))
 | n+1,xs,s,Q,h,hq=>by
  cases xs with
  | nil=>simp at h
  | cons x xs =>
   rw[drawOrder.eq_3 _ _ (λz=>by cases z)];refine K1 ?_;refine λΓ p _=>⟨by simp,?_⟩;generalize hi:(model P w).w.draws .order (s.drawn.get .order) % (x::xs).length=i;have il:i<(x::xs).length:=by rw[<- hi];exact Nat.mod_lt _ (by simp)
   show wpAny (model P w) A (match (x::xs)[i]? with|some x_1=>(do return x_1::(<- drawOrder n ((x::xs).eraseIdx i)))|none=>Z0y "internal:drawOrder") Q E { s with drawn:=s.drawn.bump .order };rw[K5 il];dsimp only;refine K1 (z4i n _ _ _ (z5o il h) λys d' pm=>K6 ?_);exact hq _ d' ((Z18 _ pm).trans (z35 _ i il))
end
theorem z4Q:entryFor table "set_iterator.__iter__" = some Builtin.«dict_keyiterator.__iter__» :=
 entryFor_alias (id':="dict_keyiterator.__iter__") (by kernel_rfl) rfl (by decide +kernel) (by kernel_rfl)
theorem z5D (a:Value):argsOk "set_iterator.__iter__" ⟨[a],[]⟩:=by
 unfold argsOk;rw[K9m (id:="set_iterator.__iter__") (n:=['_','_','r','e','t','i','_','_']) (o:=['r','o','t','a','r','e','t','i','_','t','e','s']) (by kernel_rfl) z7g];kernel_rfl
abbrev z61 (first:Value) (i:Nat) (S:Addr) (n ep:Nat):Obj:={ cls:=.type "set_iterator",data:=.fields #[first,rawInt i,.ref S,rawInt n,rawInt ep] }
section
variable (w:World) (S:Addr) (es:Array (Int×Value)) (ep:Nat) (t:K44)
inductive Stand (h:Heap) (i:Nat):Value->List (Int×Value)->Prop where
 | txt (b:w.params.followText "set-order" = true):Stand h i (rawInt 0) (Z0q (w.params.setOrder S ep) es).toList
 | drw (T:Addr) (pl:List Nat) (b:w.params.followText "set-order" = false) (hT:∃o n,h.get? T=some o/\o.data=.seq (pl.map λ(j:Nat)=>rawInt j).toArray n) (hp:pl.Perm (K0h es.size)):Stand h i (.ref T) (pl.filterMap λj=>es[j]?)
 | slo (sl:Nat) (b:w.params.followText "set-order" = false) (c:(!t.plain&&decide (es.size > 1))=false) (l:t.led=true) (e:K0p t.place sl=i):Stand h i (rawInt sl) es.toList
end
theorem z4f {α:Type}{es:Array α}:∀{pl:List Nat},(∀j∈pl,j<es.size)->∀(i:Nat),(pl.filterMap λj=>es[j]?)[i]?=(pl[i]?).bind λj=>es[j]?
 | [],h,i=>by simp
 | a::pl,h,i=>by
  have hb:=h a K0u;have ha:es[a]?=some es[a]:=K1n hb;rw[K2u,ha];cases i with
  | zero=>simp[ha]
  | succ i=>simpa using z4f (λj hj=>h j (K0o _ hj)) i
theorem Stand.perm {w:World}{S:Addr}{es:Array (Int×Value)}{ep:Nat}{t:K44}{h:Heap}{i:Nat}{f:Value}{ord:List (Int×Value)}(x:Stand w S es ep t h i f ord):ord.Perm es.toList:=by
 cases x with
 | txt b=>exact z9X _ _
 | drw T pl b hT hp =>
  refine(hp.filterMap _).trans ?_;rw[filterMap_getElem?_range]
 | slo sl b c l e=>exact .refl _
section
variable {P:K0d}{w:World}{A:Around}{E:Value->Shared->Prop}{s:Shared}{S I:Addr}{es:Array (Int×Value)}{ep:Nat}{t:K44}{i:Nat}{f:Value}{ord:List (Int×Value)}{o:Obj}
theorem z6J {sl:Nat}{Q:Option (Value×Nat)->Shared->Prop}(ho:s.heap.get? S=some o) (hd:o.data=.set es ep t) (hf:t.fits es.size=true) (b:w.params.followText "set-order" = true)
 (h:Q (((Z0q (w.params.setOrder S ep) es)[i]?).map λe=>(e.2,sl)) s):wpAny (model P w) A (K8b S sl i ep) Q E s:=by
 unfold K8b K9u;refine K1 (K3v ho hd hf (K1 (K1 (K3h (K6 ?_)))));dsimp only;rw[show (model P w).w.params.followText "set-order" = true from b,if_pos rfl,if_neg (by simp)];unfold setWalk K9u;refine K1 (K1 (K3v ho hd hf (K1 (K1 (K3h (K6 ?_))))));dsimp only;rw[show (model P w).w.params.followText "set-order" = true from b,if_pos rfl];refine K1 (K3h (K6 (K6 ?_)));exact h
theorem z7e {sl:Nat}{Q:Option (Value×Nat)->Shared->Prop}(ho:s.heap.get? S=some o) (hd:o.data=.set es ep t) (hf:t.fits es.size=true) (b:w.params.followText "set-order" = false)
 (c:(!t.plain&&decide (es.size > 1))=false) (l:t.led=true) (h:Q (match es[K0p t.place sl]?,t.place[K0p t.place sl]? with|some (_,x),some j=>some (x,j+1)|_,_=>none) s):wpAny (model P w) A (K8b S sl i ep) Q E s:=by
 unfold K8b K9u;refine K1 (K3v ho hd hf (K1 (K1 (K3h (K6 ?_)))));dsimp only;rw[show (model P w).w.params.followText "set-order" = false from b,if_neg (by decide)];rw[if_neg (by show ¬ ((!t.plain&&decide (es.size > 1))=true);rw[c];decide)];refine K1 ?_;show wpAny _ _ (if (!t.led&&!es.isEmpty)=true then _ else _) _ _ _;rw[if_neg (by rw[l];simp)];exact K6 (K6 h)
theorem zz8 {e:Int×Value}{Q:Option Value->Shared->Prop}(ho:s.heap.get? S=some o) (hd:o.data=.set es ep t) (hf:t.fits es.size=true) (hr:Rise t.place) (hI:s.heap.get? I=some (z61 f i S es.size ep)) (st:Stand w S es ep t s.heap i f ord) (he:ord[i]?=some e) (hSI:S≠I)
 (hQ:∀h' f',K3c I s.heap h'->h'.get? I=some (z61 f' (i+1) S es.size ep)->Stand w S es ep t h' (i+1) f' ord->(∀T,f'=.ref T->f=.ref T)->Q (some e.2) { s with heap:=h' }):wpAny (model P w) A (pyNext (.ref I)) Q E s:=by
 have hT:s.TypeIs (.ref I) "set_iterator":=⟨_,hI,rfl⟩;unfold pyNext;refine K1 (K7s (K1j (name:=K2o "__next__") hT slot_si_next (K1p slot_si_next hT z2G ?_ (z39 _))));show wpAny _ _ (fieldsOf (.ref I) >>= _) _ _ s;refine K1 (wpAny_fieldsOf hI rfl ?_);show wpAny _ _ (setEntries S >>= _) _ _ s;refine K1 (K6w ho hd hf ?_);rw[if_neg (by simp)];have upd:∀(h0:Heap) (vs:Array Value) (j:Nat) (v:Value),h0.get? I=some { cls:=.type "set_iterator",data:=.fields vs }->(h0.update I (K9k (·.setIfInBounds j v))).get? I=some { cls:=.type "set_iterator",data:=.fields (vs.setIfInBounds j v) }:=λh0 vs j v e=>by
  have:=K3m (K9k (·.setIfInBounds j v)) e (K68 (K5b rfl _));exact this
 have fin:∀(f':Value) (j:Nat) (R:Z0j->Shared->Prop) (R2:Value->Shared->Prop),(∀h',K3c I s.heap h'->h'.get? I=some (z61 f' (i+1) S es.size ep)->R (.done (.ret e.2)) { s with heap:=h' }) ->
  wpAny (model P w) A.in1 (setField (.ref I) 0 f' >>= λ_=>setField (.ref I) 1 (rawInt ((i:Int)+1)) >>= λ_=>ret e.2) R R2 s:=λf' j R R2 q=>by
  have u1:=upd s.heap _ 0 f' hI;refine K1 (K36 hI rfl (by simp) (K1 (K36 u1 rfl (by simp) (K6 (q _ ((K1k ..).trans (K1k ..)) ?_)))));rw[upd _ _ 1 _ u1];simp[rawInt]
 cases st with
 | txt b =>
  show wpAny _ _ (K8b S (0:Int).toNat (i:Int).toNat (ep:Int).toNat >>= _) _ _ _;rw[K0s,K0s];refine K1 (z6J ho hd hf b ?_);rw[<- K25,he];exact fin (rawInt 0) 0 _ _ λh' sb q=>⟨_,rfl,K6 (hQ h' _ sb q (.txt b) λT z=>by cases z)⟩
 | slo sl b c l e2 =>
  have hi:i<es.size:=by simpa using(K7.mp he).1
  have he2:es[i]?=some e:=by rw[<- K25];exact he
  have sz:t.place.size=es.size:=by
   unfold K44.fits at hf;simp at hf;exact hf.1
  have hp:t.place[i]?=some (t.place[i]'(by omega)):=K1n (by omega);show wpAny _ _ (K8b S (sl:Int).toNat (i:Int).toNat (ep:Int).toNat >>= _) _ _ _;rw[K0s,K0s,K0s];refine K1 (z7e ho hd hf b c l ?_);rw[e2,he2,hp];refine fin (rawInt ((t.place[i]'(by omega)+1:Nat):Int)) 0 _ _ λh' sb q=>⟨_,rfl,K6 (hQ h' _ sb q (.slo _ b c l (z7x hr hp)) λT z=>by cases z)⟩
 | drw T pl b hT hp =>
  obtain⟨oT,nT,gT,dT⟩:=hT;have hb:∀j∈pl,j<es.size:=λj hj=>by simpa using hp.mem_iff.mp hj
  rw[z4f hb]at he;cases hpi:pl[i]? with
  | none=>rw[hpi]at he;cases he
  | some j =>
   rw[hpi]at he;have hej:es[j]?=some e:=he;have hTI:T≠I:=λz=>by
    subst z;rw[hI]at gT;cases gT;cases dT
   show wpAny _ _ (Z0p (.ref T) >>= _) _ _ _;refine K1 (K2p gT dT ?_);dsimp only;rw[K0s,show ((pl.map λ(j:Nat)=>rawInt j).toArray)[i]?=some (rawInt j) by simp[hpi]];show wpAny _ _ (setNextDrawn S (j:Int).toNat (ep:Int).toNat >>= _) _ _ _;rw[K0s,K0s];unfold setNextDrawn;refine K1 (K1 (K3v ho hd hf ?_));dsimp only;rw[if_neg (by simp),hej];refine K6 ?_;have u1:=upd s.heap _ 1 (rawInt ((i:Int)+1)) hI;refine K1 (K36 hI rfl (by simp) (K6 ⟨_,rfl,K6 (hQ _ (.ref T) (K1k ..) ?_ (.drw T pl b ⟨oT,nT,?_,dT⟩ hp) λ_ z=>z)⟩))
   ·rw[u1];simp[rawInt]
   ·rw[K3e _ _ (K4u hTI)];exact gT
theorem zz4 {Q:Option Value->Shared->Prop}(hh:A.handled=none) (ho:s.heap.get? S=some o) (hd:o.data=.set es ep t) (hf:t.fits es.size=true) (hI:s.heap.get? I=some (z61 f es.size S es.size ep)) (st:Stand w S es ep t s.heap es.size f ord)
 (hQ:∀h',Z0v I s.heap h'->Q none { s with heap:=h' }):wpAny (model P w) A (pyNext (.ref I)) Q E s:=by
 have hT:s.TypeIs (.ref I) "set_iterator":=⟨_,hI,rfl⟩;have hl:ord.length=es.size:=by rw[st.perm.length_eq,K15]
 unfold pyNext;refine K1 (K7s (K1j (name:=K2o "__next__") hT slot_si_next (K1p slot_si_next hT z2G ?_ (z39 _))));show wpAny _ _ (fieldsOf (.ref I) >>= _) _ _ s;refine K1 (wpAny_fieldsOf hI rfl ?_);show wpAny _ _ (setEntries S >>= _) _ _ s;refine K1 (K6w ho hd hf ?_);rw[if_neg (by simp)];have stop:∀(h1:Heap) (Z:Z0j->Shared->Prop),Z0v I s.heap h1->wpAny (model P w) A.in1 (newExc (.type "StopIteration") [] >>= λx=>(raiseNew x:Sem Z0j)) Z (λe s'=>wpAny (model P w) A (do let __do_lift <- isInstance e (K47 "StopIteration");if __do_lift=true then pure none else throw e) Q E s') { s with heap:=h1 }:=λh1 Z eb=>by
  refine K1 ?_;simp only[newExc,newTuple];refine K1 (K12 ?_ (by size_fits));refine K1 (m:=K77 _ _) (Z0w (a:=K2n) (by first|rfl|(simp only[K77];rfl)) ?_);refine K12 ?_ (by size_fits);simp only[raiseNew];refine K1 (wpAny_handled ?_);rw[show A.in1.handled=none by simp[hh]];refine K1 (K6 (wpAny_throw ?_));refine K1 (K84 (T:="StopIteration") (b:=true) ⟨_,K03 _ rfl,rfl⟩ isSubtype_stop ?_);exact K6 (hQ _ ((eb.push _).push _))
 cases st with
 | txt b =>
  show wpAny _ _ (K8b S (0:Int).toNat (es.size:Int).toNat (ep:Int).toNat >>= _) _ _ _;rw[K0s,K0s];refine K1 (z6J ho hd hf b ?_);rw[<- K25,K1c (by omega)];exact K1 (K36 hI rfl (by simp) (stop _ _ (K1k ..).extBut))
 | slo sl b c l e2 =>
  show wpAny _ _ (K8b S (sl:Int).toNat (es.size:Int).toNat (ep:Int).toNat >>= _) _ _ _;rw[K0s,K0s,K0s];refine K1 (z7e ho hd hf b c l ?_);rw[e2,Array.getElem?_eq_none (K01 _)];exact K1 (K36 hI rfl (by simp) (stop _ _ (K1k ..).extBut))
 | drw T pl b hT hp =>
  obtain⟨oT,nT,gT,dT⟩:=hT;have lp:pl.length=es.size:=by rw[hp.length_eq,K20]
  show wpAny _ _ (Z0p (.ref T) >>= _) _ _ _;refine K1 (K2p gT dT ?_);dsimp only;rw[K0s,show ((pl.map λ(j:Nat)=>rawInt j).toArray)[es.size]?=none by simp[lp]];have u1:(s.heap.update I (K9k (·.setIfInBounds 0 (rawInt 0)))).get? I=some { cls:=.type "set_iterator",data:=.fields (#[.ref T,rawInt es.size,.ref S,rawInt es.size,rawInt ep].setIfInBounds 0 (rawInt 0)) } :=
   K3m _ hI (K68 (K5b rfl _))
  exact K1 (K36 hI rfl (by simp) (K1 (K36 u1 rfl (by simp) (stop _ _ ((K1k ..).trans (K1k ..)).extBut))))
end
theorem zc1 {P:K0d}{w:World}{A:Around}{S I:Addr}{es:Array (Int×Value)}{ep:Nat}{t:K44}{ord:List (Int×Value)}{o:Obj}{tl:List Addr}(hh:A.handled=none) (hd:o.data=.set es ep t) (hf:t.fits es.size=true) (hr:Rise t.place) (hSI:S≠I) (hl:ord.length=es.size) (htl:I∉tl) :
 Walks P w A I (I::S::tl) [I] es.size (λi v=>∃e,ord[i]?=some e/\v=e.2) (λi h=>h.get? S=some o/\∃f,(∀T,f=.ref T->T∈tl)/\h.get? I=some (z61 f i S es.size ep)/\Stand w S es ep t h i f ord) where
 sub:=λb hb=>by simp at hb;simp[hb]
 frame:=λi h h' st hk=>by
  obtain⟨q1,f,q2,q3,q4⟩:=st;refine⟨hk S (by simp) _ q1,f,q2,hk I (by simp) _ q3,?_⟩;cases q4 with
  | txt b=>exact .txt b
  | slo sl b c l e2=>exact .slo sl b c l e2
  | drw T pl b hT hp =>
   obtain⟨oT,nT,gT,dT⟩:=hT;exact .drw T pl b ⟨oT,nT,hk T (by simp[q2 T rfl]) _ gT,dT⟩ hp
 item:=λi s Q E hi st hQ=>by
  obtain⟨q1,f,q2,q3,q4⟩:=st;have he:ord[i]?=some (ord[i]'(by omega)):=K5 (by omega);refine zz8 q1 hd hf hr q3 q4 he hSI λh' f' sb g st' tt=>?_;refine hQ _ h' s.toks ⟨_,he,rfl⟩ ⟨?_,f',λT z=>q2 T (tt T z),g,st'⟩ λb ob hb e=>?_
  ·rw[sb.2 S hSI];exact q1
  ·rw[sb.2 b (λz=>hb (by simp[z]))];exact e
 done:=λs Q E st hQ=>by
  obtain⟨q1,f,q2,q3,q4⟩:=st;exact zz4 hh q1 hd hf q3 q4 λh' eb=>hQ h' s.toks λb ob hb e=>eb b ob (λz=>hb (by simp[z])) e
 self:=λi s Q E st hQ=>by
  obtain⟨q1,f,q2,q3,q4⟩:=st;have hT:s.TypeIs (.ref I) "set_iterator":=⟨_,q3,rfl⟩;refine wpAny_pyIter_slot hT z37 (K1p z37 hT z4Q ?_ (z5D _));show wpAny _ _ (ret (.ref I)) _ _ s;exact K6 ⟨_,rfl,"set_iterator",_,hT,slot_si_next.lookup,hQ⟩
section
variable {P:K0d}{w:World}{A:Around}{E:Value->Shared->Prop}{s:Shared}{S:Addr}{es:Array (Int×Value)}{ep:Nat}{t:K44}{o:Obj}
theorem zi9 {Q:Value->Shared->Prop}(ho:s.heap.get? S=some o) (hc:o.ExactSet) (hd:o.data=.set es ep t) (hf:t.fits es.size=true) (hr:Rise t.place) (hb:es.size<scanBound) (hl:t.led=true\/w.params.followText "set-order" = true)
 (hQ:∀(h':Heap) (d':Drawn) (I:Addr) (f:Value) (ord:List (Int×Value)) (tl:List Addr),(∀b ob,s.heap.get? b=some ob->h'.get? b=some ob)->s.heap.objs.size<=I->h'.get? I=some (z61 f 0 S es.size ep)->(∀T,f=.ref T->T∈tl)->(∀T∈tl,s.heap.objs.size<=T/\T<h'.objs.size/\T≠I)->Stand w S es ep t h' 0 f ord->Q (.ref I) { s with heap:=h',drawn:=d' }) :
 wpAny (model P w) A (pyIter (.ref S)) Q E s:=by
 have hT:s.TypeIs (.ref S) "set":=⟨o,ho,hc.1⟩;refine wpAny_pyIter_slot hT F.slot_set_iter (K1p F.slot_set_iter hT z5e ?_ (z5N _));unfold Builtin.«frozenset.__iter__» Builtin.Frozenset.slot0 slotArgs;simp only[List.isEmpty_nil,K7o,K31,↓reduceIte,bind_assoc,K0b,bne_self_eq_false];unfold Builtin.Frozenset.addrOf Builtin.Frozenset.sizeOf;refine K1 (K6 ?_)
 try dsimp only
 refine K1 (K6 ?_);refine K1 (K1 (K6w ho hd hf (K6 ?_)));unfold setDrawn K9u;refine K1 (K1 (K3v ho hd hf (K1 (K1 (K3h (K6 (K6 ?_)))))));dsimp only;have tailW:∀(h0:Heap) (d0:Drawn) (first:Value) (ord:List (Int×Value)) (tl:List Addr),(∀b ob,s.heap.get? b=some ob->h0.get? b=some ob)->s.heap.objs.size<=h0.objs.size->(∀T,first=.ref T->T∈tl)->(∀T∈tl,s.heap.objs.size<=T/\T<h0.objs.size) ->
  (∀h',(∀b ob,h0.get? b=some ob->h'.get? b=some ob)->Stand w S es ep t h' 0 first ord) ->
  wpAny (model P w) A.in1 (setEpoch S >>= λe=>newFields "set_iterator" [first,rawInt 0,.ref S,rawInt es.size,rawInt e] >>= λv=>ret v) (λfin s'=>∃v,fin=.done (.ret v)/\∃T' r,s'.TypeIs v T'/\K8e (K47 T') (K2o "__next__")=pure (some r)/\Q v s') E { s with heap:=h0,drawn:=d0 }:=λh0 d0 first ord tl k1 k2 k3 k4 k5=>by
  refine K1 (wpAny_setEpoch_of (s:={ s with heap:=h0,drawn:=d0 }) (k1 S o ho) hd hf ?_);refine K1 (K12 (K6 ⟨_,rfl,"set_iterator",_,⟨_,K03 _ rfl,rfl⟩,slot_si_next.lookup,?_⟩));refine hQ _ d0 h0.objs.size first ord tl (λb ob e=>K3 _ (k1 b ob e)) k2 (K03 _ rfl) k3 (λT hT=>?_) (k5 _ λb ob e=>K3 _ e)
  obtain⟨z1,z2⟩:=k4 T hT;exact⟨z1,by rw[K1e];exact K4p z2,K0g z2⟩
 cases hb':w.params.followText "set-order" with
 | true =>
  rw[show (model P w).w.params.followText "set-order" = true from hb',if_neg (by simp)];refine K1 (K6 ?_);exact tailW s.heap s.drawn (rawInt 0) _ [] (λ_ _ e=>e) (K01 _) (λT z=>by cases z) (λT z=>by cases z) λh' _=>.txt hb'
 | false =>
  rw[show (model P w).w.params.followText "set-order" = false from hb'];have led:t.led=true:=by
   rcases hl with hl|hl
   ·exact hl
   ·rw[hb']at hl;cases hl
  show wpAny _ _ (if (!false&&(!t.plain&&decide (es.size > 1)))=true then _ else _) _ _ _;rw[Bool.not_false,K4i];cases hdr:(!t.plain&&decide (es.size > 1)) with
  | false =>
   rw[if_neg (by decide)];refine K1 (K6 ?_);exact tailW s.heap s.drawn (rawInt 0) _ [] (λ_ _ e=>e) (K01 _) (λT z=>by cases z) (λT z=>by cases z) λh' _=>.slo 0 hb' hdr led (z7X hr)
  | true =>
   rw[if_pos rfl];refine K1 (z4i es.size (K0h es.size) s _ (by simp) λys d' pm=>?_);have ly:(ys.map λ(i:Nat)=>rawInt i).length<=sizeLine:=by
    rw[K4,pm.length_eq,K20];exact K63 hb
   refine K1 (wpAny_newTuple ?_ ly);refine tailW (s.heap.push { cls:=.type "tuple",data:=.seq (ys.map λ(i:Nat)=>rawInt i).toArray }) d' (.ref s.heap.objs.size) _ [s.heap.objs.size] (λb ob e=>K3 _ e) (by rw[K1e];exact K45 _)
    (λT z=>by cases z;exact K0k.mpr rfl) (λT z=>?_) λh' k=>.drw s.heap.objs.size ys hb' ⟨_,_,k _ _ (K03 _ rfl),rfl⟩ pm
   have:=K0k.mp z;subst this;exact⟨K01 _,by rw[K1e];exact K81 _⟩
theorem z5P {Q:List Value->Shared->Prop}(hh:A.handled=none) (ho:s.heap.get? S=some o) (hc:o.ExactSet) (hd:o.data=.set es ep t) (hf:t.fits es.size=true) (hr:Rise t.place) (hb:es.size<scanBound) (hl:t.led=true\/w.params.followText "set-order" = true)
 (hQ:∀(h':Heap) (d':Drawn) (tk:Nat) (ord:List (Int×Value)),(∀b ob,s.heap.get? b=some ob->h'.get? b=some ob)->s.heap.objs.size<=h'.objs.size->ord.Perm es.toList->Q (ord.map (·.2)) { s with heap:=h',drawn:=d',toks:=tk }) :
 wpAny (model P w) A (collect (.ref S)) Q E s:=by
 have hS:S<s.heap.objs.size:=K02 ho;unfold collect;refine K1 (K75 (K2e F.entry_proto_collect ?_));rw[K1v F.plain_proto_collect _];show wpAny _ A.in1 (newList [] >>= λl=>again (.builtin "list.__iadd__" ⟨[l,.ref S],[]⟩)) _ _ s;refine K1 (K12 (K6 ⟨K4k K4s _,K2e F.entry_list_iadd ?_⟩));rw[K1v K4s _];show wpAny _ A.in1 (K4o (.ref s.heap.objs.size) (.ref S) (.ref s.heap.objs.size)) _ _ _;unfold K4o;have g1:(s.heap.push { cls:=.type "list",data:=.seq ([]:List Value).toArray }).get? S=some o:=K3 _ ho;have tS:K6h { s with heap:=s.heap.push { cls:=.type "list",data:=.seq ([]:List Value).toArray } } (.ref S) "set":=⟨o,g1,hc.1⟩;refine K1 (K4b tS ?_);have n1:K7p (.ref s.heap.objs.size) (.ref S)=false:=by
  simp only[K7p];exact beq_eq_false_iff_ne.mpr (K2d hS)
 rw[if_neg (by rw[n1];decide)];refine K1 (zi9 (s:={ s with heap:=s.heap.push { cls:=.type "list",data:=.seq ([]:List Value).toArray } }) g1 hc hd hf hr hb hl λh1 d1 I f ord tl k1 k2 k3 k4 k5 st=>?_);have g2:h1.get? S=some o:=k1 S o g1;have gL:h1.get? s.heap.objs.size=some { cls:=.type "list",data:=.seq ([]:List Value).toArray }:=k1 _ _ (K03 _ rfl);have tS2:K6h { s with heap:=h1,drawn:=d1 } (.ref S) "set":=⟨o,g2,hc.1⟩;refine K1 (K1u ?_);unfold Builtin.List.listLengthHint;refine K1 (K8s tS2 F.slot_set_len.lookup ?_);have sp:splitId "set.__len__" = some ("set","__len__"):=by decide +kernel
 dsimp only;rw[sp];dsimp only;refine K1 (K84 (b:=true) tS2 (by rw[K5z];kernel_rfl) ?_);rw[if_neg (by decide),if_pos (by decide +kernel)];refine K1 (K4b tS2 (K6 ?_));rw[if_pos (by decide +kernel)];have u1:=get?_update_seq (c:="list") (xs:=([]:List Value).toArray) (n:=0) gL (·.push .none);have u2:=get?_update_seq u1 (·.pop);refine K1 (K49 ?_);unfold Builtin.List.listTouch;refine K1 (K1 (listUpdate_at (s:={ s with heap:=h1,drawn:=d1 }) gL rfl (listUpdate_at (s:={ s with heap:=h1.update s.heap.objs.size (K59 (·.push .none)),drawn:=d1 }) u1 rfl ?_)));generalize hh2:(h1.update s.heap.objs.size (K59 (·.push .none))).update s.heap.objs.size (K59 (·.pop))=h2 at u2 ⊢;have keep2:∀b ob,b≠s.heap.objs.size->h1.get? b=some ob->h2.get? b=some ob:=λb ob hb e=>by
  rw[<- hh2,K3e _ _ (K4u hb),K3e _ _ (K4u hb)];exact e
 have hIs:s.heap.objs.size+1<=I:=by rw[K1e]at k2;exact k2
 have hSI:S≠I:=K0g (K0j hS (Z0h hIs));have lo:ord.length=es.size:=by rw[st.perm.length_eq,K15]
 have W:=zc1 (P:=P) (w:=w) (A:=A.in1) (S:=S) (I:=I) (ord:=ord) (o:=o) (tl:=tl) (by simp[hh]) hd hf hr hSI lo (λz=>(k5 I z).2.2 rfl);have hLf:s.heap.objs.size∉I::S::tl:=by
  simp only[K0c,not_or];refine⟨K0g hIs,K2d hS,λz=>?_⟩;have:=(k5 _ z).1;rw[K1e]at this;exact K2k _ this
 have st0:(λi (h:Heap)=>h.get? S=some o/\∃f,(∀T,f=.ref T->T∈tl)/\h.get? I=some (z61 f i S es.size ep)/\Stand w S es ep t h i f ord) 0 h2:=by
  refine⟨keep2 S o (K0g hS) g2,f,k4,keep2 I _ (K2d hIs) k3,?_⟩;cases st with
  | txt b=>exact .txt b
  | slo sl b c l e2=>exact .slo sl b c l e2
  | drw T pl b hT hp =>
   obtain⟨oT,nT,gT,dT⟩:=hT;refine .drw T pl b ⟨oT,nT,keep2 T oT (λz=>?_) gT,dT⟩ hp;have:=(k5 T (k4 T rfl)).1;rw[K1e,z]at this;exact K2k _ this
 refine K6 ⟨K4k F.plain_extend_loop _,codeAny_extend_loopS W.toS (K63 hb) s.heap.objs.size hLf _ es.size 0 { s with heap:=h2,drawn:=d1 } #[] 2 (by omega) (K35 _) st0 (by simpa [seqObj] using u2) (Z0a.nil _) λs' acc c' hm gS' hacc=>?_⟩;show wpAny _ A (load s.heap.objs.size >>= _) _ _ s';refine K1 (wpAny_load gS' (K6 ?_));have ea:acc.toList=ord.map (·.2):=by
  refine K4n λj=>?_;rw[K8,K25];cases hj:acc[j]? with
  | none =>
   have h1:=Array.getElem?_eq_none_iff.mp hj;rw[hacc.1]at h1;rw[K1c (by omega)];rfl
  | some v =>
   obtain⟨e,h1,h2⟩:=hacc.2 j v hj;rw[h1,h2];rfl
 rw[ea];obtain⟨h',g',d',tk',os'⟩:=s';have e1:g'=s.gens:=hm.gens;have e2:d'=d1:=hm.drawn;have e3:os'=s.os:=hm.os;subst e1;subst e2;subst e3;refine hQ h' d' tk' ord (λb ob e=>?_) ?_ st.perm
 ·have hb2:b≠s.heap.objs.size:=K0g (K02 e);refine hm.heap b ob ?_ (keep2 b ob hb2 (k1 b ob (K3 _ e)));simp only[K0c,K0k,K1y,or_false,not_or];exact⟨hb2,K0g (K0j (K02 e) (Z0h hIs))⟩
 ·exact K5r (K02 gS')
end
theorem z9T {k:Key}{u:Value}(r:RelV (kV k) u):z21 k u=true:=by
 cases k with
 | inl i=>obtain⟨t,rfl⟩:=r;exact z5C i t
 | inr x=>obtain⟨t,rfl⟩:=r;exact z5c x t
theorem z5H:∀{ks:List Key}{us:List Value},Vals (ks.map kV) us->∀(i:Nat) u,us[i]?=some u->∃k,ks[i]?=some k/\z21 k u=true
 | [],_,h,i,u,e=>by cases h;simp at e
 | k::ks,_,.cons h1 h2,0,u,e=>by simp at e;subst e;exact⟨k,rfl,z9T h1⟩
 | k::ks,_,.cons h1 h2,i+1,u,e=>by
  obtain⟨k',q1,q2⟩:=z5H h2 i u (by simpa using e);exact⟨k',by simpa using q1,q2⟩
theorem z7P (ks:List Key):(K0h ks.length).map (λi=>(ks[i]?).getD (.inl 0))=ks:=by
 refine K4n λi=>?_;rw[K8];by_cases h:i<ks.length
 ·rw[K9h h,K5 h];simp[K5 h]
 ·rw[K1c (by simpa using h),K1c (by omega)];rfl
section
variable {X:Cx}
theorem zb1 (hc:X.calm=true):z2B X (.type "set") (λxs H Q=>∃l ks,xs=[.ref l]/\(SqL X.K H l (ks.map kV)\/SqT X.K H l (ks.map kV))/\ks.length+1<scanBound/\∀q,H q=none->Q (.ref q) (upd H q (.set (dedK ks)))):=by
 intro pins s σ H xs us Q I r h;obtain⟨l,ks,rfl,hq,hb,q⟩:=h;obtain⟨u,rfl,ru⟩:=vals1 r;cases ru;have hh:=I.ok.hd hc;have go:∀{its:List Value} {T:String},T = "list"\/T = "tuple"->Vals (ks.map kV) its->(∃o,s.heap.get? l=some o/\o.cls=.type T/\∃n,o.data=.seq its.toArray n)->wpAny (model X.prog X.w) X.A (call (.type "set") [.ref l]) (EP X pins σ Q) X.xe s:=λ{its T} hT rv hl=>by
  have le:its.length=ks.length:=by rw[<- rv.length,K4]
  refine z9C (key:=λi=>(ks[i]?).getD (.inl 0)) hT hh hl (λi v e=>?_) (by rw[K9,le];exact hb) λh' tk S2 kp=>?_
  ·obtain⟨k,e1,e2⟩:=z5H rv i v (by simpa using e);rw[e1];exact e2
  ·rw[show its.toArray.size=ks.length by rw[K9,le],z7P]at S2;exact⟨.ref s.heap.objs.size,_,I.laid (t':=tk) (o:=.set (dedK ks)) kp (K01 _) S2,rfl,q _ I.fresh⟩
 rcases hq with hq|hq
 ·obtain⟨its,r',pl,hz⟩:=I.list hq;exact go (.inl rfl) r' pl.isList
 ·obtain⟨its,r',pl,hz⟩:=I.tuple hq;exact go (.inr rfl) r' pl
theorem zs8 {pins:List (Addr×Obj)}{σ:L2.St}{H:Hp}{s:Shared}{a:Addr}{ks:List Key}(I:L2.Inv X pins σ H s) (h:H a=some (.set ks)):SetAt X.w s.heap a ks:=I.hok a _ h
theorem z8q:∀{ns:List Int}{l:List (Int×Value)}{w:World}{ks:List Key},ks=ns.map K3n->Paired (KE w) ks l->K7l (l.map (·.2)) ns
 | [],l,w,ks,e,h=>by subst e;cases h;exact .nil
 | n::ns,l,w,ks,e,h=>by
  subst e;cases h with
  | cons h1 h2 =>
   rcases J1 h1.1 with ⟨i,t,e1,e2⟩|⟨x,t,e1,e2⟩
   ·cases e1;rw[K0i,e2];exact .cons _ t (z8q rfl h2)
   ·cases e1
theorem ze3 {ns:List Int}:∀{ks:List Key},ks.Perm (ns.map K3n)->∃ms:List Int,ks=ms.map K3n/\ms.Perm ns:=λ{ks} p=>by
 have:∀k∈ks,∃i:Int,k=K3n i:=λk hk=>by
  obtain⟨i,_,e⟩:=K0r.mp (p.mem_iff.mp hk);exact⟨i,e.symm⟩
 have e:ks=(ks.filterMap λk=>match k with|.inl i=>some i|.inr _=>none).map K3n:=by
  clear p;induction ks with
  | nil=>rfl
  | cons k ks ih =>
   obtain⟨i,rfl⟩:=this k K0u;rw[K2u];dsimp only;rw[K0i,<- ih λk hk=>this k (K0o _ hk)]
 refine⟨_,e,?_⟩;have q:=p.filterMap λk=>match k with|.inl i=>some i|.inr _=>none
 refine q.trans ?_;rw[K5a];have:(List.filterMap ((λk:Key=>match k with|.inl i=>some i|.inr _=>none) ∘ K3n) ns)=ns:=by
  induction ns with
  | nil=>rfl
  | cons n ns ih=>simp[Z07]
 rw[this]
theorem z5a (hc:X.calm=true):z2B X (.builtin "sorted") (λxs H Q=>∃a ns,xs=[.ref a]/\H a=some (.set (ns.map K3n))/\ns.length<64/\∀q,H q=none->Q (.ref q) (upd H q (.lst ((sortI ns).map V.int)))):=by
 intro pins s σ H xs us Q I r h;obtain⟨a,ns,rfl,hH,h64,q⟩:=h;obtain⟨u,rfl,ru⟩:=vals1 r;cases ru;obtain⟨o,es,ep,t,ks',h1,h2,h3,h4,h5,h6,h7,h8,h9,h0⟩:=zs8 I hH;refine Calls.call_function_entry kind_sorted plain_sorted entry_sorted (args_sorted1 _) ?_;unfold Builtin.«sorted»;refine K1 (m:=checkCount "sorted" 1 1 _) (K6 ?_);refine K1 (z5P (by simp[I.ok.hd hc]) h1 h2 h3 h8 h9 h7 h0 λh' d' tk ord kp sz pm=>?_);obtain⟨k2,p1,p2⟩:=z2y pm h4;obtain⟨ms,rfl,pm2⟩:=ze3 (p1.trans h5);have ia:=z8q rfl p2;have l1:(ord.map (·.2)).length=ns.length:=by rw[<- pm2.length_eq,K4,<- K3w p2,K4]
 refine K1 (wpAny_newList ?_ (by rw[l1];exact K5r (K0j h64 (by decide))));have gL:(h'.push (seqObj "list" (ord.map (·.2)).toArray 0)).get? h'.objs.size=some (seqObj "list" (ord.map (·.2)).toArray 0):=K03 _ rfl;refine K1 (K1u (K1p slot_list_sort ⟨_,gL,rfl⟩ entry_list_sort (list_sort_tree gL ia (by rw[l1];exact h64) λout ns' a1 a2 a3=>⟨_,rfl,?_⟩) (args_list_sort _)));refine K6 ⟨_,rfl,?_⟩;obtain⟨e,ge⟩:=sortedHeap_at (out:=out) gL;have es':ns'=sortI ns:=z6p (a2.trans pm2) a3;subst es';have un:∀b ob,s.heap.get? b=some ob->(sortedHeap (h'.push (seqObj "list" (ord.map (·.2)).toArray 0)) h'.objs.size (ord.map (·.2)) out).get? b=some ob:=λb ob eb=>by
  have lt:=K02 (kp b ob eb);rw[sortedHeap_old (K0g lt) (by rw[K1e];exact K4p lt)];exact K3 _ (kp b ob eb)
 have ho:=I.hok.laid (a:=h'.objs.size) (o:=.lst ((sortI ns).map V.int)) un sz ⟨by rw[K4,(sortI_perm ns).length_eq];exact K5r (K0j h64 (by decide)),out.toList,e,z76 a1,ge⟩;exact⟨.ref h'.objs.size,_,I.call' (s':={ s with heap:=_,drawn:=d',toks:=tk }) (ch:=[]) rfl (Un.laid un sz (I.hok.fresh sz)) ho I.bare (λb z=>absurd z (by simp)),rfl,q _ (I.hok.fresh sz)⟩
end
section
variable {P:K0d}{w:World}{A:Around}{E:Value->Shared->Prop}{s:Shared}
end
def keyD:D->Option Key
 | .int i=>some (.inl i)
 | .str x=>some (.inr x)
 | _=>none
def z4t:List D->Option (List Key)
 | []=>some []
 | d::r=>match keyD d,z4t r with
  | some k,some ks=>some (k::ks)
  | _,_=>none
theorem z9V {K:K2}{ρ:List Addr}{H:Hp}{d:D}{k:Key}{v:V}(e:keyD d=some k) (r:RD K ρ H d v):v=kV k:=by
 cases d<;>first|(simp only[keyD]at e;cases e;done)|skip
 ·simp only[keyD,Z03]at e;subst e;simp only[RD]at r;exact r
 ·simp only[keyD,Z03]at e;subst e;simp only[RD]at r;exact r
theorem z6M {K:K2}{ρ:List Addr}{H:Hp}:∀{ds:List D}{ks:List Key}{vs:List V},z4t ds=some ks->RDs K ρ H ds vs->vs=ks.map kV
 | [],ks,vs,e,r=>by simp only[RDs]at r;cases e;subst r;rfl
 | d::ds,ks,vs,e,r=>by
  simp only[RDs]at r;obtain⟨v,r2,rfl,h1,h2⟩:=r;rw[z4t]at e;cases e1:keyD d with
  | none=>rw[e1]at e;cases e
  | some k =>
   rw[e1]at e;cases e2:z4t ds with
   | none=>rw[e2]at e;cases e
   | some ks' =>
    rw[e2]at e;cases e;rw[z9V e1 h1,z6M e2 h2];rfl
def getS (n:Nat):M (List Key):=λh=>match h[n]? with
 | some (.set ks)=>.ok ks h
 | _=>.bad
def newSet (ks:List Key):M D:=λh=>.ok (.ref h.length) (h++[.set ks])
def z3F:List D->M D
 | [x]=>do
  let xs <- seqD x
  match z4t xs with
  | some ks=>if ks.length+1<4096 then newSet (dedK ks) else bad
  | none=>bad
 | _=>bad
def z4Y:List Key->Option (List Int)
 | []=>some []
 | .inl i::r=>(z4Y r).map (i::·)
 | .inr _::_=>none
theorem z6u:∀{ks:List Key}{ns:List Int},z4Y ks=some ns->ks=ns.map K3n
 | [],ns,e=>by cases e;rfl
 | .inl i::r,ns,e=>by
  rw[z4Y]at e;obtain⟨ms,e1,rfl⟩:=K06.mp e;rw[z6u e1];rfl
 | .inr _::_,ns,e=>by rw[z4Y]at e;cases e
def z1M:List D->M D
 | [.ref n]=>do
  let ks <- getS n
  match z4Y ks with
  | some ns=>if ns.length<64 then newL ((sortI ns).map .int) else bad
  | none=>bad
 | _=>bad
section
variable {X:Cx}{EX:XX}{a o:Expr}{p pos apos cpos:Pos}{ma mo:G->M D}{mr:G->M (List D)}
theorem zc4 {K:K2}{ρ:List Addr}{h:AH}{H:Hp}{n:Nat}{q:Addr}{Z:List Key->List Addr->AH->Hp->Prop}(r:RH K ρ h H) (hq:ρ[n]?=some q) (f:Fin K EX ρ H Z (getS n h)):∃ks,H q=some (.set ks)/\Z ks ρ h H:=by
 unfold getS at f;cases e:h[n]? with
 | none=>rw[e]at f;exact f.elim
 | some ob =>
  cases ob with
  | lst xs=>rw[e]at f;exact f.elim
  | dct=>rw[e]at f;exact f.elim
  | dK kvs=>rw[e]at f;exact f.elim
  | dF kvs=>rw[e]at f;exact f.elim
  | exc c=>rw[e]at f;exact f.elim
  | set ks =>
   rw[e]at f;obtain⟨a1,n1,o1⟩:=r.at e;rw[hq]at n1;cases n1;exact⟨ks,o1,f ρ H (Pre.refl _) (Ext.refl _ _) r⟩
theorem z7W {K:K2}{ρ:List Addr}{h:AH}{H:Hp}{ks:List Key}{Q:VK}{q:Addr}(r:RH K ρ h H) (hq:H q=none) (f:FE K EX ρ H Q (newSet ks h)):Q (.ref q) (upd H q (.set ks)):=by
 refine f (ρ++[q]) _ (Pre.app _ _) (Ext.upd (.inl hq)) (r.pushS hq) (.ref q) ?_;simp only[RD];exact⟨q,rfl,by rw[<- r.len];simp⟩
theorem zM3:AR X.K EX (λxs H Q=>∃l ks,xs=[.ref l]/\(SqL X.K H l (ks.map kV)\/SqT X.K H l (ks.map kV))/\ks.length+1<scanBound/\∀q,H q=none->Q (.ref q) (upd H q (.set (dedK ks)))) z3F:=by
 intro ρ h H ds vs Q r rd fin;unfold z3F at fin;split at fin
 ·rename_i x;obtain⟨v,rfl,rv⟩:=rds1 rd;have f1:=Fin.bind fin;cases e:seqD x h with
  | bad=>rw[e]at f1;exact f1.elim
  | err z hz=>exact(z2w e).elim
  | ok ys h1 =>
   obtain⟨rfl,p,xs,rfl,hs,hd⟩:=z1X r rv e;rw[e]at f1;have f2:=f1 ρ H (Pre.refl _) (Ext.refl _ _) r;dsimp only at f2;cases e2:z4t ys with
   | none=>rw[e2]at f2;exact f2.elim
   | some ks =>
    rw[e2]at f2;dsimp only at f2;split at f2
    ·rename_i hl;have ek:=z6M e2 hd;subst ek;exact⟨p,ks,rfl,hs,hl,λq hq=>z7W r hq f2⟩
    ·exact f2.elim
 ·exact fin.elim
theorem zh0 (hc:X.calm=true) (hg:Gl X "set") (hm:X.mg "set" = none) (ha:SA X EX [a] mr) (he:K05 [a] X.env=[(false,eval a X.env)]:=by rfl):SE X EX (.Call (.Name "set" p) [a] [] pos) (j7 z3F mr) :=
 z1c (z1f (zb1 hc) hg hm (by decide +kernel) ha.h (by decide) (by decide) he rfl) zM3
theorem z7z:AR X.K EX (λxs H Q=>∃a ns,xs=[.ref a]/\H a=some (.set (ns.map K3n))/\ns.length<64/\∀q,H q=none->Q (.ref q) (upd H q (.lst ((sortI ns).map V.int)))) z1M:=by
 intro ρ h H ds vs Q r rd fin;unfold z1M at fin;split at fin
 ·rename_i n;obtain⟨v,rfl,rv⟩:=rds1 rd;simp only[RD]at rv;obtain⟨q,rfl,hq⟩:=rv;obtain⟨ks,h1,f2⟩:=zc4 r hq (Fin.bind fin);cases e:z4Y ks with
  | none=>rw[e]at f2;exact f2.elim
  | some ns =>
   rw[e]at f2;dsimp only at f2;split at f2
   ·rename_i hl;refine⟨q,ns,rfl,by rw[h1,z6u e],hl,λl hl2=>?_⟩;unfold newL at f2;split at f2
    ·refine f2 (ρ++[l]) _ (Pre.app _ _) (Ext.upd (.inl hl2)) (r.push hl2 ?_) (.ref l) ?_
     ·have:∀ms:List Int,RDs X.K ρ H (ms.map D.int) (ms.map V.int):=λms=>by
       induction ms with
       | nil=>exact RDs.nil
       | cons m ms ih=>exact RDs.cons (by simp[RD]) ih
      exact this _
     ·simp only[RD];exact⟨l,rfl,by rw[<- r.len];simp⟩
    ·exact f2.elim
   ·exact f2.elim
 ·exact fin.elim
theorem z7Q (hc:X.calm=true) (hg:Gl X "sorted") (hm:X.mg "sorted" = none) (ha:SA X EX [a] mr) (he:K05 [a] X.env=[(false,eval a X.env)]:=by rfl):SE X EX (.Call (.Name "sorted" p) [a] [] pos) (j7 z1M mr) :=
 z1c (z1K (z5a hc) hg hm boot_sorted ha.h (by decide) (by decide) he rfl) z7z
end
theorem zm0 {P:K0d}{w:World}{K:K2}{mg:Str->Option Value}{base:Heap}{x:Str}{st:Stmt}{f:Addr}{fd:K2j}{N ps:List Str}{k n:Nat}{mb:G->M Out}(F:Fun K x x st f fd) (S:FnScope N ps (j9 st)) (hb:Binds K fd ps []) (mx:mg x=.(r f)) (hn:ps.length=n)
 (body:∀(cdv:Value) (A:Around) (outer:List Env) (s:Shared) (H:Hp) (E:XK),K2m K cdv x=true->Room k (A.deeper (envOfC x (j9 st) s.heap.objs.size f cdv)) ->
  SB (cxOf CX0 P w K mg base N x (j9 st) f cdv A outer s H E).nox EX0 (z05 st) mb):Fn P w K mg base (k+1) x n (runF N.length mb):=by
 refine⟨f,fd,ps,?_,hb,F.kp,mx⟩;obtain⟨oc,od,kV,doc,pm,an,cdv,ct,osl,rfl,lk,hcd⟩:=F.ex;refine zx2 lk hcd S (λvs H Q E h=>h.1.trans hn.symm) λA outer s H vs Q E hr h=>?_;obtain⟨hl,ρ,ds,h,rh,rd,fin⟩:=h;refine⟨_,(body cdv A outer s H E hcd hr).h.nox,ρ,z1l N.length ds,h,⟨z3U rd,rh⟩,?_⟩;refine(Fin.bind fin).mono λo ρ1 h1 H1 p1 e1 r1 f1=>?_;cases o with
 | nx γ=>exact λσ _=>FE.here (d:=.non) (h:=h1) f1 r1 (by simp[RD])
 | rt d=>exact λv rv=>f1 ρ1 H1 (Pre.refl _) (Ext.refl _ _) r1 v rv
 | bk γ=>exact(show False from f1).elim
 | ct γ=>exact(show False from f1).elim
section
variable {X:Cx}
end
section
variable {X:Cx}{EX:XX}
end
theorem za3 (t:Addr) (items:Array Value) :
 Meets (Builtin.«enumerate.__new__» ⟨[.type "enumerate",.ref t],[]⟩) (λ_ R s=>s.heap.IsTuple t items /\
  R (.ok (.ret (.ref (s.heap.push { cls:=.type "tuple_iterator",data:=.fields #[.ref t,.int 0 0] }).objs.size)))
   { s with heap:=(s.heap.push { cls:=.type "tuple_iterator",data:=.fields #[.ref t,.int 0 0] }).push { cls:=.type "enumerate",data:=.fields #[.none,.bool false,.ref s.heap.objs.size,rawInt 0,.none,.none] } }) :=
 .of_wp λprog w A R s h=>by
  obtain⟨hp,g,d,tk,os⟩:=s;obtain⟨q1,h⟩:=h;have hsub:=sub_enumerate;have L1:Z06 (Z0u ⟨hp,g,d,tk,os⟩) t items:=q1
  wp_walk
  refine wpAny_stack_any λst=>K6 ?_;split
  ·rename_i c _ _ _ _ _;cases (c==K47 "enumerate")
   ·wp_walk using K2f L1
    exact⟨_,rfl,h⟩
   ·wp_walk using K2f L1
    exact⟨_,rfl,h⟩
  ·wp_walk using K2f L1
   exact⟨_,rfl,h⟩
theorem zl4 {P:K0d}{w:World}{A:Around}(hh:A.handled=none) (it t:Addr) (hne:t≠it) (items:Array Value) :
 Draws P w A it [it,t] items.size (λi v=>items[i]?=some v) (λi h=>h.IsTupleIter it t i/\h.IsTuple t items) where
 live:=λ_ _ st=>let ⟨o,ho,_⟩:=st.1;⟨o,ho⟩
 frame:=λ_ _ _ st hk=>⟨st.1.at λo e=>hk it (by simp) o e,st.2.at λo e=>hk t (by simp) o e⟩
 item:=λi s Q E hi st hQ=>z4I st.1 st.2 (x:=items[i]) (by simp[hi]) λh' hit sb=>hQ _ h' s.toks (by simp[hi]) ⟨hit,st.2.extBut sb.extBut hne⟩ sb
 done:=λs Q E st hE=>z9W hh st.1 st.2 (by simp) hE
def Ite (K:K2) (t:Addr):It :=
 ⟨λi H=>∃xs x,SqT K H t xs/\xs[i]?=some x,
  λi H v H'=>∃T x,H T=none/\v=.ref T/\(∀xs,SqT K H t xs->xs[i]?=some x)/\H'=upd H T (.tup [.int i,x]),
  λi H=>∃xs,SqT K H t xs/\xs.length=i⟩
theorem za5 {P:K0d}{w:World}{K:K2}{elts:List Expr}{kk:Nat}{pos:Pos}{e it t:Addr}(d1:e≠it) (d2:t≠it) (d3:e≠t) :
 Turn P w K (.Tuple elts kk pos) (Ite K t) [e,it] e (λi h=>(∃old,IsEnum h e it i old)/\h.IsTupleIter it t i) where
 mem:=by simp
 obj:=λi h st b hb=>by
  obtain⟨⟨old,ee⟩,o,ei,_,di⟩:=st;simp at hb;rcases hb with rfl|rfl
  ·exact⟨_,ee,λv q=>by cases q⟩
  ·exact⟨_,ei,λv q=>by rw[di]at q;cases q⟩
 keep:=λi h h' st k=>by
  obtain⟨⟨old,ee⟩,g⟩:=st;exact⟨⟨old,k e (by simp) _ ee⟩,g.at λo q=>k it (by simp) o q⟩
 item:=by
  intro X hP hw hK hc i pins s σ H E I hf st hg;subst hP hw hK;obtain⟨xs,x,q1,hx⟩:=hg;obtain⟨its,rv,pl,hz⟩:=I.tuple q1;obtain⟨u,hu,ru⟩:=rv.get hx;obtain⟨⟨old,ee⟩,g⟩:=st;have hi:i<its.toArray.size:=by
   have:=(K7.mp hu).1;simpa using this
  have pT:s.heap.IsTuple t its.toArray:=pl;refine wpAny_pyNext_enum_itemD (zl4 (by simp[I.ok.hd hc]) it t d2 its.toArray) ee ⟨g,pT⟩ hi d1 (by simp[d1,d3]) λy h' tk hy eo st' gT sz kp=>?_;have ey:y=u:=by
   have:its.toArray[i]?=some u:=by simpa using hu
   rw[hy]at this;exact K1d this
  subst ey;refine⟨_,rfl,wpAny_letOwnedTupleGo_enum eo λh2 eo2 sb=>?_⟩;have elt:e<s.heap.objs.size:=K02 ee;have ilt:it<s.heap.objs.size:=by obtain⟨o,q,_⟩:=g;exact K02 q
  have hT:IsTup0 h2 s.heap.objs.size [K70 i tk,y].toArray:=⟨_,(sb.2 _ (K2d elt)).trans gT,⟨rfl,rfl⟩,_,rfl⟩;have J:=zK9 (t:=tk+1) (ch:=[e,it]) (T:=s.heap.objs.size) (vs:=[.int i,x]) (its:=[.int i tk,y]) (h2:=h2) I hf
   (λb o hb q=>by simp at hb;exact(sb.2 b hb.1).trans (kp b o hb.1 hb.2 q)) (K01 _) hT (.cons ⟨tk,rfl⟩ (.cons ru .nil)) (by show 2<=sizeLine;decide)
  refine⟨.ref s.heap.objs.size,_,J,rfl,⟨_,x,I.hok.fresh (K01 _),rfl,λxs' h'=>by rw[I.tuple_inj h' q1];exact hx,rfl⟩,?_,λb hb=>?_⟩
  ·exact⟨⟨_,by simpa using eo2⟩,st'.1.at λo q=>(sb.2 _ (K4u d1)).trans q⟩
  ·have:b<s.heap.objs.size:=by
    simp at hb;rcases hb with rfl|rfl
    ·exact elt
    ·exact ilt
   rw[Y3 (K0g this)];exact(hf b hb).1
 done:=by
  intro X hP hw hK hc i pins s σ H E I hf st hg;subst hP hw hK;obtain⟨xs,q1,hl⟩:=hg;obtain⟨its,rv,pl,hz⟩:=I.tuple q1;obtain⟨⟨old,ee⟩,g⟩:=st;have l1:=rv.length;have pT:s.heap.IsTuple t its.toArray:=pl;have en:i=its.toArray.size:=by simp;omega
  refine wpAny_pyNext_enum_endD (zl4 (by simp[I.ok.hd hc]) it t d2 its.toArray) ee ⟨by rw[<- en];exact g,pT⟩ λh' eb=>⟨rfl,?_⟩;have hf':∀b∈[it],FpOk X pins H b:=λb hb=>hf b (by simp at hb;simp[hb]);refine I.step (g':=s.gens) (t':=s.toks) (d':=s.drawn) (ch:=[it]) (λb hb=>⟨(hf' b hb).2.2.2.1,(hf' b hb).2.1,(hf' b hb).2.2.2.2.1,(hf' b hb).2.2.2.2.2⟩) (λb o _ _ hc e _=>?_) (λb o _ _ hc e _=>⟨o.slots,?_⟩)
   (λ_ _ _ _ n=>n) (λb o hc e=>⟨o,?_⟩) (λ_ _ e=>e) (λ_ _ _ e=>e) (λb ps e=>⟨#[],by rw[e];simp⟩) (λm hm=>?_) (λb u e=>?_) I.bare
  ·simp at hc;exact eb b o hc e
  ·simp at hc;exact eb b o hc e
  ·simp at hc;exact eb b o hc e
  ·obtain⟨o,es,ep,q,r⟩:=hm;exact⟨o,es,ep,eb _ o (λy=>(hf' it (by simp)).2.1 y.symm) q,r⟩
  ·refine(I.hok b u e).stay (λc v hc q=>?_) (λ_ q=>q) λ_ _ q=>q;refine eb c v (λy=>?_) q;subst y;rcases hc with y|y
   ·rw[<- y,(hf' c (by simp)).1]at e;cases e
   ·rw[(hf' c (by simp)).1]at y;cases y
 self:=λ_ _ _ _ _ st h=>by
  obtain⟨⟨old,ee⟩,g⟩:=st;exact wpAny_pyIter_enum ee h
section
variable {X:Cx}{EX:XX}{a:Expr}{elts:List Expr}{kk:Nat}{p pos pt:Pos}{ma:G->M D}
def zD2 (K:K2) (ta:TA):TI:=λσ H R=>ta σ H λvs H2=>∃t xs,vs=[.ref t]/\SqT K H2 t xs/\R (Ite K t) H2
theorem zy1 {ta:TA}(hg:Gl X "enumerate") (hm:X.mg "enumerate" = none) (ha:PA X [a] ta) (hs:K05 [a] X.env=[(false,eval a X.env)]:=by rfl):PI X (.Tuple elts kk pt) (.Call (.Name "enumerate" p) [a] [] pos) (zD2 X.K ta):=by
 intro pins s σ H R I h;refine Call_ (z4h I hg hm boot_enumerate (K3d (thn (ha pos pins s σ H _ I h) λus s1 ⟨vs,H1,I1,r1,q1⟩=>?_) (by rw[hs];rfl) rfl));obtain⟨t,xs,e,q2,q⟩:=q1;subst e;obtain⟨u,rfl,ru⟩:=vals1 r1;cases ru;obtain⟨its,rv,pl,hz⟩:=I1.tuple q2;have pT:s1.heap.IsTuple t its.toArray:=pl;have lt:t<s1.heap.objs.size:=by obtain⟨o,e,_⟩:=pl;exact K02 e
 refine Z0g PySem.F.called_enumerate (by decide) (PySem.F.typeCall_enumerate_1 _) (PySem.F.newCall_enumerate_1 _) (λobj=>K78 obj _) PySem.F.entry_enumerate_new (za3 t its.toArray) ⟨pT,?_⟩;have y1:(s1.heap.push { cls:=.type "tuple_iterator",data:=.fields #[.ref t,.int 0 0] }).objs.size=s1.heap.objs.size+1:=K1e ..;have x2:((s1.heap.push { cls:=.type "tuple_iterator",data:=.fields #[.ref t,.int 0 0] }).push { cls:=.type "enumerate",data:=.fields #[.none,.bool false,.ref s1.heap.objs.size,rawInt 0,.none,.none] }).get? (s1.heap.objs.size+1)=some { cls:=.type "enumerate",data:=.fields #[.none,.bool false,.ref s1.heap.objs.size,rawInt 0,.none,.none] }:=by rw[<- y1];exact K03 _ rfl
 have x1:((s1.heap.push { cls:=.type "tuple_iterator",data:=.fields #[.ref t,.int 0 0] }).push { cls:=.type "enumerate",data:=.fields #[.none,.bool false,.ref s1.heap.objs.size,rawInt 0,.none,.none] }).get? s1.heap.objs.size=some { cls:=.type "tuple_iterator",data:=.fields #[.ref t,.int 0 0] }:=K3 _ (K03 _ rfl);show _/\_;rw[y1];refine⟨⟨_,x2,rfl⟩,wpAny_pyIter_enum (e:=s1.heap.objs.size+1) (it:=s1.heap.objs.size) (i:=0) (old:=.none) x2 ?_⟩;refine⟨s1.heap.objs.size+1,_,_,_,H1,rfl,I1.kept (t':=s1.toks) (λc o q=>K3 _ (K3 _ q)),za5 (it:=s1.heap.objs.size) (t:=t) (K2d (K81 _)) (K0g lt) (K2d (K4p lt)),⟨⟨_,x2⟩,⟨_,x1,rfl,rfl⟩⟩,λb hb=>?_,q⟩;have hb':s1.heap.objs.size<=b:=by
  simp at hb;rcases hb with rfl|rfl
  ·exact K45 _
  ·exact K01 _
 exact I1.fpOk hb' (I1.hok.fresh hb')
def z41 (xs:List D):List D:=(K0h xs.length).map λ(i:Nat)=>.tup [.int i,(xs[i]?).getD .non]
def zf8 (ma:G->M D):G->M Src:=λγ=>do
 let l <- Z1 ma aNil γ
 match l with
 | [.tup xs]=>pure (.con (z41 xs))
 | _=>bad
theorem z8v {xs:List D}{i:Nat}{d:D}(h:(z41 xs)[i]?=some d):∃x,xs[i]?=some x/\d=.tup [.int i,x]:=by
 unfold z41 at h;rw[K8]at h;obtain⟨j,e1,e2⟩:=K06.mp h;obtain⟨h1,h2⟩:=K7.mp e1;simp at h1 h2;subst h2;rw[K5 h1]at e2;exact⟨_,K5 h1,e2.symm⟩
theorem zx6 (hc:X.calm=true) (hg:Gl X "enumerate") (hm:X.mg "enumerate" = none) (ha:SE X EX a ma) (hs:K05 [a] X.env=[(false,eval a X.env)]:=by rfl):SI X EX (.Tuple elts kk pt) (.Call (.Name "enumerate" p) [a] [] pos) (zf8 ma) :=
 ⟨PI.imp (zy1 hg hm (Z0 ha Z5 hs).h hs) λσ H R ⟨ρ,γ,h,rel,fin⟩=>⟨ρ,γ,h,rel,(Fin.bind fin).mono λl ρ1 h1 H1 p1 e1 r1 f1 vs rv=>by
  split at f1
  ·rename_i xs;simp only[RDs,RD]at rv;obtain⟨_,_,rfl,⟨t,us,rfl,q1,d1⟩,rfl⟩:=rv;refine⟨t,us,rfl,q1,f1 ρ1 H1 (Pre.refl _) (Ext.refl _ _) r1 _ λi ρ2 h4 H2 p2 e2 r2 _=>⟨λd hd=>?_,λhi=>?_⟩⟩
   ·have hd':(z41 xs)[i]?=some d:=hd;obtain⟨x,g1,rfl⟩:=z8v hd';obtain⟨v1,a1,b1⟩:=(d1.mono p2 e2).get g1;refine⟨⟨us,v1,e2.t _ _ q1,a1⟩,λv H3 ⟨T,x',n1,n2,n3,n5⟩=>?_⟩;have m1:=n3 us (e2.t _ _ q1);rw[a1]at m1;cases m1;subst n2;subst n5;have ext:Ext X.K H2 (L2.upd H2 T (.tup [.int i,v1])):=Ext.upd (.inl n1);refine⟨?_,r2.other n1,ext⟩;simp only[RD];exact⟨T,_,rfl,SqT.of z02,RDs.cons (by simp[RD]) (RDs.cons (b1.mono (Pre.refl _) ext) RDs.nil)⟩
   ·have hi':(z41 xs).length=i:=hi;unfold z41 at hi';rw[K4,K20]at hi';have l1:=d1.length;exact⟨us,e2.t _ _ q1,by omega⟩
  ·exact(show False from f1).elim⟩⟩
end
section
variable {X:Cx}{EX:XX}{elt tg iter tg1 iter1:Expr}{ifs1:List Expr}{sc:Scope}{pos:Pos}{N':List Str}{cap:List (Option Nat)}{own own1:List Nat}{mi mi1:G->M Src}{g g1:D->G->M G}{k:G->M Bool}{me:G->M D}
end
end FT
namespace L2
theorem range_all {α:Type}(r:List α):(K0h r.length).filterMap (λm=>r[m]?)=r:=by
 have:=pick_run r.toArray 0 r.length;rw[K5a]at this;have e:((λx=>r.toArray[x]?) ∘ λx=>0+x)=λm=>r[m]?:=by funext m;simp
 rw[e]at this;rw[this];simp
theorem z6G {α β:Type}{f g:α->Option β}:∀{l:List α},(∀x∈l,f x=g x)->l.filterMap f=l.filterMap g
 | [],_=>rfl
 | a::l,h=>by
  rw[K2u,K2u,h a K0u,z6G λx hx=>h x (K0o _ hx)]
theorem z49 {α:Type}(l:List α) (f:Nat->Option α) (hf:∀m,m<l.length->f m=l[l.length - 1 - m]?):(K0h l.length).filterMap f=l.reverse:=by
 have:=range_all l.reverse;rw[K2t]at this;rw[<- this];exact z6G λm hm=>by
  have hm':m<l.length:=by simpa using hm
  rw[hf m hm',List.getElem?_reverse hm']
theorem z8u (its:List Value):Z0o its.toArray none none (some (-1))=its.reverse.toArray:=by
 unfold Z0o;have b:K46 none none (some (-1)) its.toArray.size=((its.length:Int) - 1,-1,-1):=by
  unfold K46;rw[K9];rfl
 rw[b];unfold sliceRange;have c:(if (-1:Int) > 0 then (if (its.length:Int) - 1 < -1 then (-1 - ((its.length:Int) - 1)+-1 - 1) / -1 else 0) else if (its.length:Int) - 1 > -1 then ((its.length:Int) - 1 - -1 - -1 - 1) / - -1 else 0).toNat=its.length:=by
  rw[if_neg (by decide)];by_cases h:(its.length:Int) - 1 > -1
  ·rw[if_pos h];have:((its.length:Int) - 1 - -1 - -1 - 1) / - -1=its.length:=by
    rw[show (- -1:Int)=1 from rfl,Z08];omega
   rw[this,K0s]
  ·rw[if_neg h];omega
 dsimp only;rw[c,K5a];congr 1;refine z49 its _ λm hm=>?_;have:((its.length:Int) - 1+-1 * (m:Int)).toNat=its.length - 1 - m:=by omega
 show its.toArray[((its.length:Int) - 1+-1 * (m:Int)).toNat]?=_;rw[this];simp
section
variable {prog:K0d}{w:World}{A:Around}{E:Value->Shared->Prop}{s:Shared}
theorem z54 {sl:Addr}{t:Tok}{n:Nat}{Q:Int×Int×Nat->Shared->Prop}(hs:s.heap.IsSliceOf sl .none .none (.int (-1) t))
 (h:Q ((n:Int) - 1,-1,n) s):wpAny (model prog w) A (K3j (.ref sl) (pure (n:Int))) Q E s:=by
 obtain⟨os,h1,h2,h3⟩:=id hs;unfold K3j K7b;refine K1 (K1 (K1w h1 h3 (x:=.none) rfl (K1 (K1w h1 h3 (x:=.none) rfl (K1 (K1w h1 h3 (x:=.int (-1) t) rfl (K6 ?_)))))));refine K1 (slicePart_int ?_);show wpAny _ _ (if ((-1:Int)==0)=true then _ else _) _ _ s;rw[if_neg (by decide)];refine K1 (K76 (K1 (K76 (K1 (K6 ?_)))));have e1:K2y none none (-1) (n:Int)=((n:Int) - 1,-1):=rfl;have e2:K1m ((n:Int) - 1) (-1) (-1)=n:=by
  unfold K1m;rw[if_neg (by decide)];by_cases h:(n:Int) - 1 > -1
  ·rw[if_pos h,show (-(-1):Int)=1 from rfl,Z08];omega
  ·rw[if_neg h];omega
 show wpAny _ _ (match K2y none none (-1) (n:Int) with|(lo,hi)=>pure (lo,(-1:Int),K1m lo hi (-1))) _ _ s;rw[e1];show wpAny _ _ (pure ((n:Int) - 1,(-1:Int),K1m ((n:Int) - 1) (-1) (-1))) _ _ s;rw[e2];exact K6 h
theorem z7M {t sl:Addr}{items:Array Value}{k:Tok}{Q:Value->Shared->Prop}(ht:IsTup s.heap t items) (hs:s.heap.IsSliceOf sl .none .none (.int (-1) k))
 (h:Q (.ref s.heap.objs.size) { s with heap:=s.heap.push { cls:=.type "tuple",data:=.seq items.toList.reverse.toArray } }) (hsz:items.size<=sizeLine):wpAny (model prog w) A (K58 (.ref t) (.ref sl)) Q E s:=by
 have fits:sizeOk (.seq items.toList.reverse.toArray):=by
  show items.toList.reverse.toArray.size<=sizeLine;rw[K9,K2t,K15];exact hsz
 obtain⟨os,h1,h2,h3⟩:=id hs;have hT:s.TypeIs (.ref sl) "slice":=⟨os,h1,h2⟩;unfold K58
 try with_reducible refine K1u ?_
 first|refine K1 (K6 ?_)|skip
 refine K1 (K7n ht.typeIs (by decide) (K1 (K1j (name:=K2o "__getitem__") ht.typeIs K13 (K1p K13 ht.typeIs K6x ?_ (K79 _ _)))));show wpAny _ _ (K4r (.ref t) >>= _) _ _ s;refine K1 (K9l ht (K1 (K4b hT ?_)));rw[if_pos (by decide)];refine K1 (z54 hs ?_);show wpAny _ _ (if (((items.size:Int) - 1)==0&&(-1:Int)==1&&items.size==items.size)=true then _ else _) _ _ s;have no:¬ ((((items.size:Int) - 1)==0&&(-1:Int)==1&&items.size==items.size)=true):=by
  rw[show ((-1:Int)==1)=false from rfl,Bool.and_false,Z1d];exact K0v
 have e:((K0h items.size).filterMap λ(m:Nat)=>items[((items.size:Int) - 1+(m:Int) * -1).toNat]?).toArray=items.toList.reverse.toArray:=by
  congr 1;have:=z49 items.toList (λ(m:Nat)=>items[((items.size:Int) - 1+(m:Int) * -1).toNat]?) λm hm=>by
   rw[K15]at hm ⊢;have:((items.size:Int) - 1+(m:Int) * -1).toNat=items.size - 1 - m:=by omega
   rw[this,K25]
  rw[K15]at this;exact this
 rw[if_neg no,e]
 first
  | exact K1 (m:=K19 _) (K12 (K6 ⟨_,rfl,K6 h⟩) fits)
  | exact K1 (m:=K19 _) (K12 (K1 (K6 (K6 ⟨_,rfl,K6 h⟩))) fits)
  | exact K1 (K1 (m:=K19 _) (K12 (K6 (K6 ⟨_,rfl,K6 h⟩)) fits))
  | exact K1 (K1 (m:=K19 _) (K12 (K6 ⟨_,rfl,K6 h⟩) fits))
end
section
variable {X:Cx}{e st:Expr}{te ts:TE}{pos p2:Pos}
def RvR (X:Cx) (r:V->Hp->VK->Prop):Prop :=
 ∀(pins:List (Addr×Obj)) (s:Shared) (σ:St) (H:Hp) (x:V) (v:Value) (t:Tok) (sl:Addr) (Q:VK),Inv X pins σ H s->RelV x v->s.heap.IsSliceOf sl .none .none (.int (-1) t)->r x H Q ->
  ∃T id,K8e (.type T) "__getitem__" = pure (some (.builtin id))/\s.TypeIs v T/\wpAny (model X.prog X.w) X.A (K58 v (.ref sl)) (EP X pins σ Q) X.xe s
def tRv (r:V->Hp->VK->Prop) (te ts:TE):TE:=λσ H Q=>te σ H λx H1=>ts σ H1 λy H2=>y=.int (-1)/\r x H2 Q
theorem zN9 {r:V->Hp->VK->Prop}(hr:RvR X r) (he:PE X e te) (hs:PE X st ts):PE X (.Subscript e (.Slice none none (some st) p2) pos) (tRv r te ts):=by
 intro pins s σ H Q I h;refine K9v (thn (he pins s σ H _ I h) λv s1 ⟨x,H1,I1,r1,q1⟩=>?_);refine wpAny_Slice ?_;rw[K9o];refine K6 (K6 ?_);rw[evalPart_some];refine thn (hs pins s1 σ H1 _ I1 q1) λu s3 ⟨y,H3,I3,r3,q3⟩=>?_;obtain⟨rfl,q⟩:=q3;obtain⟨t,rfl⟩:=r3;have I4:Inv X pins σ H3 { s3 with heap:=s3.heap.push { cls:=.type "slice",data:=.fields #[.none,.none,.int (-1) t] } }:=I3.kept (t':=s3.toks) λb ob q=>K3 _ q;obtain⟨T,id,hT,ht,hg⟩:=hr pins _ σ H3 x v t s3.heap.objs.size Q I4 r1 (K9p ..) q;show wpAny (model X.prog X.w) X.A (K7t e (.Slice none none (some st) p2) v (.ref s3.heap.objs.size)) (EP X pins σ Q) X.xe { s3 with heap:=s3.heap.push { cls:=.type "slice",data:=.fields #[.none,.none,.int (-1) t] } };exact tail_any (ops:=[v,.ref s3.heap.objs.size]) ht hT hg (by with_unfolding_all rfl)
theorem RvR.or {r r':V->Hp->VK->Prop}(h:RvR X r) (h':RvR X r'):RvR X (λx H Q=>r x H Q\/r' x H Q):=by
 intro pins s σ H x v t sl Q I rx hs q;rcases q with q|q
 ·exact h pins s σ H x v t sl Q I rx hs q
 ·exact h' pins s σ H x v t sl Q I rx hs q
def rRvL (K:K2):V->Hp->VK->Prop:=λx H Q=>∃a xs,x=.ref a/\SqL K H a xs/\∀p,H p=none->Q (.ref p) (upd H p (.lst xs.reverse))
def rRvT (K:K2):V->Hp->VK->Prop:=λx H Q=>∃a xs,x=.ref a/\SqT K H a xs/\∀p,H p=none->Q (.ref p) (upd H p (.tup xs.reverse))
theorem rv_list:RvR X (rRvL X.K):=by
 intro pins s σ H x v t sl Q I rx hs h;obtain⟨a,xs,rfl,hx,q⟩:=h;cases rx;obtain⟨its,r,ht,hz⟩:=I.list hx;have hlen:=r.length;refine⟨"list",_,K7e.lookup,ht.isList.typeIs,?_⟩;refine K7u ht.isList hs .none .none (.int (-1) t) (by simp) ?_ (by rw[K9]<;>omega);rw[z8u];refine⟨.ref s.heap.objs.size,_,I.laid (t':=s.toks) (o:=.lst xs.reverse) (λb ob q=>K3 _ q) (K01 _) ?_,rfl,q _ (I.hok.fresh (K01 _))⟩;exact⟨by rw[K2t];exact hz,_,0,r.reverse,K03 _ rfl⟩
theorem zH6:RvR X (rRvT X.K):=by
 intro pins s σ H x v t sl Q I rx hs h;obtain⟨a,xs,rfl,hx,q⟩:=h;cases rx;obtain⟨its,r,ht,hz⟩:=I.tuple hx;have hlen:its.toArray.size=xs.length:=by rw[K9];exact r.length.symm
 refine⟨"tuple",_,K13.lookup,ht.typeIs,?_⟩;refine z7M ht hs ?_ (by rw[hlen];exact hz);refine⟨.ref s.heap.objs.size,_,I.laid (t':=s.toks) (o:=.tup xs.reverse) (λb ob q=>K3 _ q) (K01 _) ?_,rfl,q _ (I.hok.fresh (K01 _))⟩;exact⟨by rw[K2t];exact hz,_,r.reverse,FT.IsTup0.new _ _⟩
end
end L2
namespace FT
theorem RDs.reverse {K:K2}{ρ:List Addr}{H:Hp}:∀{ds:List D}{vs:List V},RDs K ρ H ds vs->RDs K ρ H ds.reverse vs.reverse
 | [],vs,h=>by
  simp only[RDs]at h;subst h;exact RDs.nil
 | d::ds,vs,h=>by
  simp only[RDs]at h;obtain⟨x,r,rfl,h2,h3⟩:=h;rw[K5v,K5v];exact(RDs.reverse h3).append (RDs.cons h2 RDs.nil)
theorem rds2 {K:K2}{ρ:List Addr}{H:Hp}{d d':D}{vs:List V}(h:RDs K ρ H [d,d'] vs):∃v v',vs=[v,v']/\RD K ρ H d v/\RD K ρ H d' v':=by
 simp only[RDs]at h;obtain⟨x,r,rfl,h2,y,q,rfl,h3,rfl⟩:=h;exact⟨x,y,rfl,h2,h3⟩
def fRev:D->M D
 | .tup xs=>pure (.tup xs.reverse)
 | .fl xs=>newL xs.reverse
 | .ref n=>do
  let xs <- getL n
  newL xs.reverse
 | _=>bad
def eRev (ma ms:G->M D):G->M D:=λγ=>do
 let x <- ma γ;let y <- ms γ
 match y with
 | .int i=>if i=-1 then fRev x else bad
 | _=>bad
def eNeg (ma:G->M D):G->M D:=λγ=>do
 let x <- ma γ
 match x with
 | .int i=>pure (.int (-i))
 | _=>bad
def fMin:List D->M D
 | [.int i,.int j]=>pure (.int (if j<i then j else i))
 | _=>bad
def fInt:List D->M D
 | [.int i]=>pure (.int i)
 | [.bl b]=>pure (.int (if b then 1 else 0))
 | _=>bad
section
variable {X:Cx}{EX:XX}{a b st:Expr}{pos p p2:Pos}{ma ms:G->M D}{mr:G->M (List D)}
theorem zu0 {ρ:List Addr}{h:AH}{H:Hp}{x:D}{v:V}{Q:VK}(r:RH X.K ρ h H) (rx:RD X.K ρ H x v) (fin:FE X.K EX ρ H Q (fRev x h)):rRvL X.K v H Q\/rRvT X.K v H Q:=by
 cases x<;>first|exact(show False from fin).elim|skip
 case tup xs =>
  simp only[RD]at rx;obtain⟨q,vs,rfl,h1,h2⟩:=rx;have fin':FE X.K EX ρ H Q (.ok (.tup xs.reverse) h):=fin;exact .inr ⟨q,vs,rfl,h1,λp hp=>FE.tup fin' r h2.reverse hp⟩
 case fl xs =>
  simp only[RD]at rx;obtain⟨q,vs,rfl,h1,h2⟩:=rx;have fin':FE X.K EX ρ H Q (newL xs.reverse h):=fin;unfold newL at fin';split at fin'
  ·exact .inl ⟨q,vs,rfl,h1.sq,λp hp=>FE.lst fin' r h2.reverse hp⟩
  ·exact fin'.elim
 case ref n =>
  simp only[RD]at rx;obtain⟨q,rfl,h1⟩:=rx;have fin':FE X.K EX ρ H Q ((getL n >>= λxs=>newL xs.reverse) h):=fin;have f1:=Fin.bind fin';cases e:getL n h with
  | bad=>rw[e]at f1;exact f1.elim
  | err z hz=>exact(z0V e).elim
  | ok xs h2 =>
   obtain⟨rfl,q1⟩:=z0S e;rw[e]at f1;have f2:=f1 ρ H (Pre.refl _) (Ext.refl _ _) r;dsimp only at f2;unfold newL at f2;split at f2
   ·obtain⟨a1,n1,vs,o1,d1⟩:=r.at q1;rw[h1]at n1;cases n1;exact .inl ⟨q,vs,rfl,SqL.of o1,λp hp=>FE.lst f2 r d1.reverse hp⟩
   ·exact f2.elim
theorem zJ8 (ha:SE X EX a ma) (hs:SE X EX st ms):SE X EX (.Subscript a (.Slice none none (some st) p2) pos) (eRev ma ms) :=
 ⟨PE.imp (zN9 (rv_list.or zH6) ha.h hs.h) λσ H Q ⟨ρ,γ,h,rel,fin⟩=>⟨ρ,γ,h,rel,(Fin.bind fin).mono λx ρ1 h1 H1 p1 e1 r1 f1 v rv=>⟨ρ1,γ,h1,⟨rel.g.mono p1 e1,r1⟩,(Fin.bind f1).mono λy ρ2 h2 H2 p2 e2 r2 f2 u ru=>by
  cases y<;>first|exact(show False from f2).elim|skip
  rename_i i;simp only[RD]at ru;subst ru;dsimp only at f2;split at f2
  ·rename_i hi;subst hi;exact⟨rfl,zu0 r2 (rv.mono p2 e2) f2⟩
  ·exact f2.elim⟩⟩⟩
theorem z4W (ha:SE X EX a ma):SE X EX (.UnaryOp .USub a pos) (eNeg ma) :=
 ⟨PE.imp (zW7 zM2 ha.h) λσ H Q ⟨ρ,γ,h,rel,fin⟩=>⟨ρ,γ,h,rel,(Fin.bind fin).mono λx ρ1 h1 H1 p1 e1 r1 f1 v rv=>by
  cases x<;>first|exact(show False from f1).elim|skip
  rename_i t;simp only[RD]at rv;exact⟨t,rv,FE.here (d:=.int (-t)) (h:=h1) (ρ:=ρ1) f1 r1 (by simp[RD])⟩⟩⟩
theorem zB3:AR X.K EX (λxs H Q=>∃i j,xs=[.int i,.int j]/\Q (.int (if j<i then j else i)) H) fMin:=by
 intro ρ h H ds vs Q r rd fin;unfold fMin at fin;split at fin
 ·obtain⟨v,u,rfl,rv,ru⟩:=rds2 rd;simp only[RD]at rv ru;subst rv;subst ru;exact⟨_,_,rfl,FE.here fin r (by simp[RD])⟩
 ·exact fin.elim
theorem zF9:AR X.K EX (λxs H Q=>(∃i,xs=[.int i]/\Q (.int i) H)\/∃k,xs=[.bl k]/\Q (.int (if k then 1 else 0)) H) fInt:=by
 intro ρ h H ds vs Q r rd fin;unfold fInt at fin;split at fin
 ·obtain⟨v,rfl,rv⟩:=rds1 rd;simp only[RD]at rv;subst rv;exact .inl ⟨_,rfl,FE.here fin r (by simp[RD])⟩
 ·obtain⟨v,rfl,rv⟩:=rds1 rd;simp only[RD]at rv;subst rv;exact .inr ⟨_,rfl,FE.here fin r (by simp[RD])⟩
 ·exact fin.elim
theorem zG9 (hc:X.calm=true) (hg:Gl X "min") (hm:X.mg "min" = none) (ha:SA X EX [a,b] mr) (he:K05 [a,b] X.env=(false,eval a X.env)::K05 [b] X.env:=by rfl) (hpl:(backTo pos (K05 [b] X.env)).any (·.1)=false:=by rfl):SE X EX (.Call (.Name "min" p) [a,b] [] pos) (j7 fMin mr) :=
 z1c (z1K (z8H hc) hg hm (by decide +kernel) ha.h (by decide) (by decide) he hpl) zB3
theorem z78 (hg:Gl X "int") (hm:X.mg "int" = none) (ha:SA X EX [a] mr) (he:K05 [a] X.env=[(false,eval a X.env)]:=by rfl):SE X EX (.Call (.Name "int" p) [a] [] pos) (j7 fInt mr) :=
 z1c (z1f z8B hg hm (by decide +kernel) ha.h (by decide) (by decide) he rfl) zF9
end
end FT
namespace L2
structure Kept (l:List Env) (e T:Addr) (h h':Heap):Prop where
 keep:∀b o,h.get? b=some o->b∉frs l->b≠e->b≠T->h'.get? b=some o
 slot:∀b o,h.get? b=some o->b∈frs l->∃sl,h'.get? b=some { o with slots:=sl }
section
variable {M:Model}{A:Around}{E:Value->Shared->Prop}{s:Shared}{base:Heap}{env:Env}{outer:List Env}{L e T:Addr}{cls:Value}{Q:Unit->Shared->Prop}
end
section
variable {X:Cx}{pins:List (Addr×Obj)}{σ:List (Option V)}{H H':Hp}{s:Shared}{h':Heap}
end
section
variable {M:Model}{A:Around}{E:Value->Shared->Prop}{h:Heap}{g:Array K6m}{d:Drawn}{t:Nat}{os:OsState}{C Ch e:Addr}{oe:Obj}{b:Bool}{Q:Bool->Shared->Prop}
 {nm q:Str} {N:Addr} {bs bm:List Value} {hdct:Bool} {sn:List Str} {sub:List Value} {ab:Bool} {col:Option Bool} {dd:Option Addr} {k0 k1 k2 k3 k5:Option Value} {newId:String}
 {nm' q':Str} {N':Addr} {bs' bm':List Value} {hdct':Bool} {sn':List Str} {sub':List Value} {ab':Bool} {col':Option Bool} {dd':Option Addr} {k0' k1' k2' k3' k5':Option Value} {newId':String}
end
section
variable {X:Cx}{pins:List (Addr×Obj)}{σ:St}{H:Hp}{s:Shared}{e:Value}
end
section
variable {X:Cx}{pins:List (Addr×Obj)}{σ:St}{H1:Hp}{s1 s':Shared}{e:Value}{E:XK}{cn n:Str}{Ch:Addr}{bmH:List Value}{np hpos:Pos}{b₀:Stmt}{suite:List Stmt}{EE:Value->Shared->Prop}{D:Ends}{ts:TS}
end
section
variable {M:Model}{A:Around}{E:Value->Shared->Prop}{h:Heap}{g:Array K6m}{d:Drawn}{t:Nat}{os:OsState}
end
section
variable {prog:K0d}{w:World}{A:Around}{E:Value->Shared->Prop}{h:Heap}{g:Array K6m}{d:Drawn}{t:Nat}{os:OsState}{a C:Addr}{o:Obj}
end
section
variable {X:Cx}{x:Str}{C:Addr}{bm:List Value}{B newId initId:String}{e₀:Expr}{rest:List Expr}{t:TA}{np cpos pos:Pos}{R:Hp->Prop}
end
section
variable {X:Cx}{CX:CXT}{k:Nat}{f:Addr}{fd:K2j}{ps:List Str}{sp:Sp}{E:XK}{x:Str}{p pos:Pos}{e:Expr}{es:List Expr}{t:TA}{EE:Value->Shared->Prop}{Q:VK}{pins:List (Addr×Obj)}{σ:St}{H:Hp}{s:Shared}
end
section
variable {X:Cx}{k:Nat}{f Ch:Addr}{fd:K2j}{ps:List Str}{sp:Sp}{x cn y:Str}{i:Nat}{p pos pos1 pos2 py np hpos:Pos}{e:Expr}{es:List Expr}{t:TA}{bmH:List Value}{b₀:Stmt}{suite:List Stmt}{ts:TS}
end
section
variable {X:Cx}{pins:List (Addr×Obj)}{σ:St}{H:Hp}{s:Shared}
end
section
variable {X:Cx}{pins:List (Addr×Obj)}{σ:St}{H1:Hp}{s1 s':Shared}{e:Value}{E:XK}{cn n:Str}{i:Nat}{Ch:Addr}{bmH:List Value}{np hpos:Pos}{b₀:Stmt}{suite:List Stmt}{EE:Value->Shared->Prop}{D:Ends}{ts:TS}
end
section
variable {X:Cx}{k:Nat}{f Ch:Addr}{fd:K2j}{ps:List Str}{sp:Sp}{x cn n:Str}{i:Nat}{p pos pos1 pos2 np hpos:Pos}{e:Expr}{es:List Expr}{t:TA}{bmH:List Value}{b₀:Stmt}{suite:List Stmt}{ts:TS}
end
end L2
namespace FT
section
variable {X:Cx}{EX:XX}{e c:Expr}{es:List Expr}{st:Stmt}{sts:List Stmt}{me:G->M D}{k:G->M Bool}{mr:G->M (List D)}{ms:G->M Out}
end
section
variable {P:K0d}{w:World}{K:K2}{mg:Str->Option Value}{base:Heap}{N:List Str}{qual c:Str}{scope:Scope}{f C:Addr}{cd:Value}{A:Around}{outer:List Env}{s:Shared}{H:Hp}{E:XK}{bm:List Value}
 {e₀:Expr} {rest:List Expr} {mr:G->M (List D)} {np cpos pos:Pos}
end
section
variable {X:Cx}{k n i:Nat}{x cn y:Str}{Ch:Addr}{bmH:List Value}{mf:List D->M D}{mr:G->M (List D)}{ok:Str->Bool}{ms:G->M Out}{e:Expr}{es:List Expr}{b₀:Stmt}{suite:List Stmt}{p pos pos1 pos2 py np hpos:Pos}
end
end FT
namespace L2
section
variable {X:Cx}
end
section
variable {X:Cx}
end
end L2
namespace FT
section
variable {X:Cx}{EX:XX}{a:Expr}{p p2 pos:Pos}{ma:G->M D}{k:Str->Option Bool}
end
theorem zq9 {P:K0d}{w:World}{K:K2}{mg:Str->Option Value}{base:Heap}{x:Str}{st:Stmt}{f:Addr}{fd:K2j}{ps:List Str}{k n:Nat}(F:Fun K x x st f fd) (hb:Binds K fd ps []) (mx:mg x=.(r f)) (hn:ps.length=n):Fn P w K mg base k x n (λ_=>bad) :=
 ⟨f,fd,ps,⟨λvs H Q E h=>h.1.trans hn.symm,λA outer s H args us vs Q E _ _ _ _ h=>by
  obtain⟨_,ρ,ds,hh,_,_,fin⟩:=h;exact(show False from fin).elim⟩,hb,F.kp,mx⟩
section
variable {X:Cx}{EX:XX}
end
section
variable {X:Cx}{EX:XX}{a:Expr}{p p2 pos:Pos}{ma:G->M D}{k:Str->Option Bool}
end
variable {α β:Type}
def W (m:M α) (h:AH) (Q:α->AH->Prop):Prop:=∃a h',m h=.ok a h'/\Q a h'
theorem j3 {m:M α}{f:α->M β}{h:AH}{Q:β->AH->Prop}:W (m >>= f) h Q↔W m h λa h1=>W (f a) h1 Q:=by
 constructor
 ·rintro⟨b,h2,e,q⟩;rw[bindM]at e;cases em:m h with
  | ok a h1=>rw[em]at e;exact⟨a,h1,em,b,h2,e,q⟩
  | err x h1=>rw[em]at e;cases e
  | bad=>rw[em]at e;cases e
 ·rintro⟨a,h1,e,b,h2,e',q⟩;exact⟨b,h2,by rw[M.bind_ok e,e'],q⟩
theorem W_pure {a:α}{h:AH}{Q:α->AH->Prop}:W (Z1h a:M α) h Q↔Q a h:=by
 constructor
 ·rintro⟨b,h2,e,q⟩;cases e;exact q
 ·exact λq=>⟨a,h,rfl,q⟩
theorem z11 {h:AH}{Q:α->AH->Prop}:W (bad:M α) h Q↔False:=by
 constructor
 ·rintro⟨b,h2,e,q⟩;cases e
 ·exact K2z
theorem z0T {c:Prop} [Decidable c] {m n:M α}{h:AH}{Q:α->AH->Prop}:W (if c then m else n) h Q↔if c then W m h Q else W n h Q:=by
 split<;>exact Iff.rfl
theorem W.mono {m:M α}{h:AH}{Q Q':α->AH->Prop}(z:W m h Q) (f:∀a h',Q a h'->Q' a h'):W m h Q':=let ⟨a,h',e,q⟩:=z;⟨a,h',e,f a h' q⟩
theorem W.of {m:M α}{h h':AH}{a:α}{Q:α->AH->Prop}(e:m h=.ok a h') (q:Q a h'):W m h Q:=⟨a,h',e,q⟩
theorem z7H {γ:G}{h:AH}{Q:Out->AH->Prop}:W (bNil γ) h Q↔Q (.nx γ) h:=W_pure
def zt3 (mt:G->M Out) (Q:Out->AH->Prop):Out->AH->Prop:=λo h=>match o with
 | .nx γ=>W (mt γ) h Q
 | o=>Q o h
theorem z0e {mt:G->M Out}{Q:Out->AH->Prop}{γ:G}{h:AH}:zt3 mt Q (.nx γ) h↔W (mt γ) h Q:=Iff.rfl
theorem z2e {mt:G->M Out}{Q:Out->AH->Prop}{d:D}{h:AH}:zt3 mt Q (.rt d) h↔Q (.rt d) h:=Iff.rfl
theorem w_cons {ms mt:G->M Out}{γ:G}{h:AH}{Q:Out->AH->Prop}:W (Z3 ms mt γ) h Q↔W (ms γ) h (zt3 mt Q):=by
 unfold Z3;rw[j3];constructor
 ·rintro⟨o,h1,e,q⟩;refine⟨o,h1,e,?_⟩;cases o with
  | nx γ=>exact q
  | rt d=>exact(W_pure (a:=Out.rt d) (Q:=Q)).mp q
  | bk d=>exact(W_pure (a:=Out.bk d) (Q:=Q)).mp q
  | ct d=>exact(W_pure (a:=Out.ct d) (Q:=Q)).mp q
 ·rintro⟨o,h1,e,q⟩;refine⟨o,h1,e,?_⟩;cases o with
  | nx γ=>exact q
  | rt d=>exact W_pure.mpr q
  | bk d=>exact W_pure.mpr q
  | ct d=>exact W_pure.mpr q
def runW (Q:D->AH->Prop):Out->AH->Prop:=λo h=>match o with
 | .nx _=>Q .non h
 | .rt d=>Q d h
 | _=>False
theorem z23 {n:Nat}{mb:G->M Out}{ds:List D}{h:AH}{Q:D->AH->Prop}(z:W (mb (z1l n ds)) h (runW Q)):W (runF n mb ds) h Q:=by
 unfold runF;rw[j3];refine z.mono λo h1 q=>?_;cases o with
 | nx γ=>exact W_pure.mpr q
 | rt d=>exact W_pure.mpr q
 | bk d=>exact q.elim
 | ct d=>exact q.elim
theorem z2s {i j:Int}:fAdd (.int i) (.int j)=pure (.int (i+j)):=rfl
theorem z9q {i j:Int}:fSub (.int i) (.int j)=pure (.int (i - j)):=rfl
theorem z9E {i j:Int}:fGt (.int i) (.int j)=pure (.bl (decide (j<i))):=rfl
theorem zd1 {i j:Int}:fGe (.int i) (.int j)=pure (.bl (decide (j<=i))):=rfl
theorem z91 {i j:Int}:fLt (.int i) (.int j)=pure (.bl (decide (i<j))):=rfl
theorem zr1 {i j:Int}:fLe (.int i) (.int j)=pure (.bl (decide (i<=j))):=rfl
theorem z4P {i j:Int}{b:Bool}:fEq b (.int i) (.int j)=pure (.bl (decide (i=j) != b)):=rfl
theorem z9g {i j:Int}(h:0<j):fMod (.int i) (.int j)=pure (.int (i % j)):=by
 unfold fMod fIC;dsimp only;rw[if_pos (decide_eq_true h)]
theorem div_ii {i j:Int}(h:0<j) (h2:j<1073741824):fDiv (.int i) (.int j)=pure (.int (i / j)):=by
 unfold fDiv fIC;dsimp only;rw[if_pos (by rw[decide_eq_true h,decide_eq_true h2];rfl)]
theorem z1u {b:Bool}:asB (.bl b)=pure b:=rfl
theorem z63 {b:Bool}:truD (.bl b)=pure b:=rfl
theorem z9J {n:Nat}{h:AH}{Q:Nat->AH->Prop}:W (z22 (.ref n)) h Q↔W (getL n) h λ_ h1=>Q n h1:=by
 unfold W z22 getL;dsimp only;cases e:h[n]? with
 | none=>exact⟨λ⟨_,_,z,_⟩=>(by cases z),λ⟨_,_,z,_⟩=>(by cases z)⟩
 | some o =>
  cases o with
  | set ks=>exact⟨λ⟨_,_,z,_⟩=>(by cases z),λ⟨_,_,z,_⟩=>(by cases z)⟩
  | dct=>exact⟨λ⟨_,_,z,_⟩=>(by cases z),λ⟨_,_,z,_⟩=>(by cases z)⟩
  | dK kvs=>exact⟨λ⟨_,_,z,_⟩=>(by cases z),λ⟨_,_,z,_⟩=>(by cases z)⟩
  | dF kvs=>exact⟨λ⟨_,_,z,_⟩=>(by cases z),λ⟨_,_,z,_⟩=>(by cases z)⟩
  | exc c=>exact⟨λ⟨_,_,z,_⟩=>(by cases z),λ⟨_,_,z,_⟩=>(by cases z)⟩
  | lst xs=>exact⟨λ⟨_,_,z,q⟩=>(by cases z;exact⟨xs,h,rfl,q⟩),λ⟨_,_,z,q⟩=>(by cases z;exact⟨n,h,rfl,q⟩)⟩
theorem z6c {b:Int}{t:String}:fIsi t (.int b)=pure (.bl (subT "int" t)):=rfl
theorem zr4 {b:List D}{t:String}:fIsi t (.tup b)=pure (.bl (subT "tuple" t)):=rfl
def forW (J:G->AH->Prop) (R:D->AH->Prop):Out->AH->Prop:=λo h=>match o with
 | .nx γ=>J γ h
 | .ct γ=>J γ h
 | .bk _=>False
 | .rt d=>R d h
def endW (J:G->AH->Prop) (R:D->AH->Prop):Out->AH->Prop:=λo h=>match o with
 | .nx γ=>J γ h
 | .ct _=>False
 | .bk _=>False
 | .rt d=>R d h
theorem z60 {src:Src}{g:D->G->M G}{body:G->M Out}(I:Nat->G->AH->Prop) (R:D->AH->Prop) (good:∀i γ h,I i γ h->src.good h):∀(items:List D) (n:Nat) (γ:G) (h:AH),
 (∀i d γ h,items[i]?=some d->I (n+i) γ h->W (g d γ) h λγ1 h1=>W (body γ1) h1 (forW (I (n+i+1)) R))->I n γ h ->
 W (forR src g body items γ) h (endW (I (n+items.length)) R)
 | [],n,γ,h,_,q=>⟨.nx γ,h,by unfold forR Src.chk;simp[good _ _ _ q],q⟩
 | d::r,n,γ,h,z,q=>by
  unfold forR;rw[j3];refine W.of (a:=()) (h':=h) (by unfold Src.chk;simp[good _ _ _ q]) ?_;rw[j3];refine(z 0 d γ h rfl q).mono λγ1 h1 q1=>?_;rw[j3];refine q1.mono λo h2 q2=>?_;have step:∀γ2,I (n+0+1) γ2 h2->W (forR src g body r γ2) h2 (endW (I (n+(d::r).length)) R):=λγ2 w=>by
   have:=z60 (src:=src) I R good r (n+1) γ2 h2 (λi d γ h e q=>by
    have:=z (i+1) d γ h (by simpa using e) (by rw[show n+(i+1)=n+1+i by omega];exact q);rw[show n+(i+1)+1=n+1+i+1 by omega]at this;exact this) (by simpa using w)
   rw[show n+1+r.length=n+(d::r).length by simp;omega]at this;exact this
  cases o with
  | nx γ2=>exact step γ2 q2
  | ct γ2=>exact step γ2 q2
  | bk γ2=>exact q2.elim
  | rt v=>exact W_pure.mpr q2
theorem z2U {ms mt:G->M Out}{γ:G}{h:AH}{Q:Out->AH->Prop}(J:G->AH->Prop) (z:W (ms γ) h (endW J λd h=>Q (.rt d) h)) (k:∀γ h,J γ h->W (mt γ) h Q):W (Z3 ms mt γ) h Q:=by
 rw[w_cons];refine z.mono λo h1 q=>?_;cases o with
 | nx γ=>exact k γ h1 q
 | rt d=>exact q
 | bk d=>exact q.elim
 | ct d=>exact q.elim
theorem z3T {n i:Nat}{d:D}(e:(z1h n)[i]?=some d):d=.int i/\i<n:=by
 unfold z1h at e;rw[K8]at e;obtain⟨j,e1,e2⟩:=K06.mp e;obtain⟨h1,h2⟩:=K7.mp e1;simp at h1 h2;subst h2;exact⟨e2.symm,h1⟩
theorem z0D {ma:G->M D}{i:Nat}{body:G->M Out}{γ:G}{h:AH}(I:Nat->G->AH->Prop) (R:D->AH->Prop) {Q:Out->AH->Prop}
 (hs:W (ma γ) h λd h1=>∃n:Nat,d=.int n/\n<4611686018427387904/\I 0 γ h1/\(∀k γ h,k<n->I k γ h->W (body (γ.set i (.(i k)))) h (forW (I (k+1)) R))/\(∀γ h',I n γ h'->Q (.nx γ) h')/\∀d h',R d h'->Q (.rt d) h') :
 W (sFor (z0s ma) (gN i) body γ) h Q:=by
 unfold sFor z0s;rw[j3,j3];refine hs.mono λd h1 ⟨n,e,hn,i0,st,fin⟩=>?_;subst e;dsimp only;rw[if_pos (by omega),W_pure];have:=z60 (src:=.con (z1h (n:Int).toNat)) (g:=gN i) (body:=body) I R (λ_ _ _ _=>trivial) (z1h (n:Int).toNat) 0 γ h1 (λk d γ h e q=>by
  obtain⟨rfl,hk⟩:=z3T e;rw[K6z]at q ⊢;exact W_pure.mpr (st k γ h (by simpa using hk) q)) i0
 rw[show 0+(z1h (n:Int).toNat).length=n by unfold z1h;simp]at this;refine this.mono λo h' q=>?_;cases o with
 | nx γ=>exact fin.1 γ h' q
 | rt d=>exact fin.2 d h' q
 | bk d=>exact q.elim
 | ct d=>exact q.elim
theorem z0U {mi:G->M Src}{g:D->G->M G}{body:G->M Out}{γ:G}{h:AH}(I:Nat->G->AH->Prop) (R:D->AH->Prop) {Q:Out->AH->Prop}
 (hs:W (mi γ) h λsrc h1=>I 0 γ h1/\(∀i γ h,I i γ h->src.good h)/\(∀i d γ h,src.items[i]?=some d->I i γ h->W (g d γ) h λγ1 h1=>W (body γ1) h1 (forW (I (i+1)) R))/\(∀γ h',I src.items.length γ h'->Q (.nx γ) h')/\∀d h',R d h'->Q (.rt d) h') :
 W (sFor mi g body γ) h Q:=by
 unfold sFor;rw[j3];refine hs.mono λsrc h1 ⟨i0,good,st,fin⟩=>?_;have:=z60 (src:=src) (g:=g) (body:=body) I R good src.items 0 γ h1 (λk d γ h e q=>by
  rw[K6z]at q ⊢;exact st k d γ h e q) i0
 rw[K6z]at this;refine this.mono λo h' q=>?_;cases o with
 | nx γ=>exact fin.1 γ h' q
 | rt d=>exact fin.2 d h' q
 | bk d=>exact q.elim
 | ct d=>exact q.elim
theorem z55 {ma:G->M D}{γ:G}{h h1:AH}{n:Nat}(e:ma γ h=.ok (.int n) h1) (hn:n<4611686018427387904):z0s ma γ h=.ok (.con (z1h n)) h1:=by
 unfold z0s;rw[M.bind_ok e];dsimp only;rw[if_pos (by omega)];rfl
theorem z2I {k:G->M Bool}{body:G->M Out}(I:Nat->G->AH->Prop) (E:G->AH->Prop) (R:D->AH->Prop)
 (z:∀m γ h,I m γ h->W (k γ) h λb h1=>if b=true then ∃m',m=m'+1/\W (body γ) h1 (forW (λγ h=>∃i,i<=m'/\I i γ h) R) else E γ h1):∀(n m:Nat) (γ:G) (h:AH),m<n->I m γ h ->
 W (z26 k body n γ) h (endW E R)
 | 0,m,γ,h,hm,_=>by omega
 | n+1,m,γ,h,hm,q=>by
  unfold z26;rw[j3];refine(z m γ h q).mono λb h1 q1=>?_;cases b with
  | false =>
   rw[if_neg (by decide)]at q1 ⊢;exact W_pure.mpr q1
  | true =>
   rw[if_pos rfl]at q1 ⊢;obtain⟨m',rfl,q2⟩:=q1;rw[j3];refine q2.mono λo h2 q3=>?_;cases o with
   | nx γ2=>obtain⟨i,hi,q4⟩:=q3;exact z2I I E R z n i γ2 h2 (by omega) q4
   | ct γ2=>obtain⟨i,hi,q4⟩:=q3;exact z2I I E R z n i γ2 h2 (by omega) q4
   | bk γ2=>exact q3.elim
   | rt v=>exact W_pure.mpr q3
theorem z4o {g:D->G->M G}{k:G->M Bool}{me:G->M D}{γ:G}{p:D->Bool}{f:D->D}(src:Src) (h0:AH) (hg:∀j,src.good (h0++j)):∀(items:List D) (acc:List D),acc.length+items.length<=1000000 ->
 (∀d∈items,∃γ1,(∀h,g d γ h=.ok γ1 h)/\(∀j,k γ1 (h0++j)=.ok (p d) (h0++j))/\(p d=true->∀j,me γ1 (h0++j)=.ok (f d) (h0++j))) ->
 z3L src g k me h0.length γ items (h0++[.lst acc])=.ok () (h0++[.lst (acc++(items.filter p).map f)])
 | [],acc,hl,hd=>by unfold z3L Src.chk;simp[hg]
 | d::r,acc,hl,hd=>by
  obtain⟨γ1,e1,e2,e3⟩:=hd d K0u;unfold z3L;have chk:src.chk (h0++[.lst acc])=.ok () (h0++[.lst acc]):=by unfold Src.chk;simp[hg]
  rw[M.bind_ok chk,M.bind_ok (e1 _),M.bind_ok (e2 _)];simp only[K07]at hl;have hr:∀d∈r,∃γ1,(∀h,g d γ h=.ok γ1 h)/\(∀j,k γ1 (h0++j)=.ok (p d) (h0++j))/\(p d=true->∀j,me γ1 (h0++j)=.ok (f d) (h0++j)):=λx hx=>hd x (K0o _ hx);cases hp:p d with
  | false =>
   rw[if_neg (by decide),z4o src h0 hg r acc (by omega) hr,Z0t,hp];rfl
  | true =>
   rw[if_pos rfl,M.bind_ok (e3 hp _)];have ap:w6 h0.length (f d) (h0++[.lst acc])=.ok .non (h0++[.lst (acc++[f d])]):=by
    unfold w6 updL;have g1:(h0++[O.lst acc])[h0.length]?=.(l acc):=by simp
    rw[g1];dsimp only;have hs:(acc++[f d]).length<=sizeLine:=by
     rw[K04,K1b];exact K0x (show acc.length+1<=1000000 by omega) (by decide)
    rw[if_pos hs];simp
   rw[M.bind_ok ap,z4o src h0 hg r (acc++[f d]) (by simp;omega) hr,Z0t,hp];simp
theorem z1A {cap:List (Option Nat)}{mi:G->M Src}{g:D->G->M G}{k:G->M Bool}{me:G->M D}{γ:G}{src:Src}{h:AH}(p:D->Bool) (f:D->D) (hi:mi γ h=.ok src h) (hg:∀j,src.good (h++j)) (hl:src.items.length<=1000000)
 (hd:∀d∈src.items,∃γ1,(∀h,g d (capG cap γ) h=.ok γ1 h)/\(∀j,k γ1 (h++j)=.ok (p d) (h++j))/\(p d=true->∀j,me γ1 (h++j)=.ok (f d) (h++j))) :
 z0C cap mi g k me γ h=.ok (.ref h.length) (h++[.lst ((src.items.filter p).map f)]):=by
 have e:=z4o (g:=g) (k:=k) (me:=me) (γ:=capG cap γ) (p:=p) (f:=f) src h hg src.items [] (by simpa using hl) hd;show (mi γ >>= _) h=_;rw[M.bind_ok hi];rw[M.bind_ok (m:=(λh=>Res.ok (K6k h) (h++[O.lst []]):M Nat)) (h:=h) rfl];rw[M.bind_ok (by simpa using e)];rfl
def Kp (r r':AH):Prop:=∀(n:Nat) (o:O),r[n]?=some o->r'[n]?=some o
theorem z9Z {src:Src}{g:D->G->M G}{k:G->M Bool}{me:G->M D}{n0:Nat}{γ:G}(I:Nat->AH->Prop) (good:∀i h,I i h->src.good h):∀(items:List D) (n:Nat) (h:AH),
 (∀i d h,items[i]?=some d->I (n+i) h->W (g d γ) h λγ1 h1=>W (k γ1) h1 λt h2=>if t=true then W (me γ1) h2 λv h3=>W (w6 n0 v) h3 λ_ h4=>I (n+i+1) h4 else I (n+i+1) h2)->I n h ->
 W (z3L src g k me n0 γ items) h λ_ h'=>I (n+items.length) h'
 | [],n,h,_,q=>⟨(),h,by unfold z3L Src.chk;simp[good _ _ q],q⟩
 | d::r,n,h,z,q=>by
  have more:∀h2,I (n+0+1) h2->W (z3L src g k me n0 γ r) h2 λ_ h'=>I (n+(d::r).length) h':=λh2 q2=>by
   have:=z9Z (src:=src) (g:=g) (k:=k) (me:=me) (n0:=n0) (γ:=γ) I good r (n+1) h2 (λi d h e q=>by
    have:=z (i+1) d h (by simpa using e) (by rw[show n+(i+1)=n+1+i by omega];exact q);rw[show n+(i+1)+1=n+1+i+1 by omega]at this;exact this) (by simpa using q2)
   rw[show n+1+r.length=n+(d::r).length by simp;omega]at this;exact this
  unfold z3L;rw[j3];refine W.of (a:=()) (h':=h) (by unfold Src.chk;simp[good _ _ q]) ?_;rw[j3];refine(z 0 d h rfl q).mono λγ1 h1 q1=>?_;rw[j3];refine q1.mono λt h2 q2=>?_;cases t with
  | false=>rw[if_neg (by decide)]at q2 ⊢;exact more h2 q2
  | true =>
   rw[if_pos rfl]at q2 ⊢;rw[j3];refine q2.mono λv h3 q3=>?_;rw[j3];exact q3.mono λ_ h4 q4=>more h4 q4
theorem zH9 {cap:List (Option Nat)}{mi:G->M Src}{g:D->G->M G}{k:G->M Bool}{me:G->M D}{γ:G}{h:AH}{Q:D->AH->Prop}
 (hs:W (mi γ) h λsrc h1=>∃I:Nat->AH->Prop,I 0 (h1++[.lst []])/\(∀i h,I i h->src.good h) /\
  (∀i d h,src.items[i]?=some d->I i h->W (g d (capG cap γ)) h λγ1 h1'=>W (k γ1) h1' λt h2=>if t=true then W (me γ1) h2 λv h3=>W (w6 h1.length v) h3 λ_ h4=>I (i+1) h4 else I (i+1) h2) /\
  ∀h',I src.items.length h'->Q (.ref h1.length) h'):W (z0C cap mi g k me γ) h Q:=by
 unfold z0C;rw[j3];refine hs.mono λsrc h1 ⟨I,i0,good,st,fin⟩=>?_;rw[j3];refine W.of (a:=h1.length) (h':=h1++[.lst []]) rfl ?_;rw[j3];have:=z9Z (src:=src) (g:=g) (k:=k) (me:=me) (n0:=h1.length) (γ:=capG cap γ) I good src.items 0 (h1++[.lst []]) (λi d h e q=>by
  rw[K6z]at q ⊢;exact st i d h e q) i0
 rw[K6z]at this;refine this.mono λ_ h' q=>?_;rw[W_pure];exact fin h' q
class Grow (I:AH->Prop):Prop where
 app:∀h j,I h->I (h++j)
section
variable {I:AH->Prop} [Grow I]
end
section
variable {I:AH->Prop} [Grow I] {J J':G->Prop}
end
def Pool (gr sm:List Int) (s c:Int) (r:AH):AH:=.lst (gr.map .int)::.lst (sm.map .int)::.lst [.ref 0,.ref 1,.int s,.int c]::r
def PS (h:AH) (k:Int) (r:AH):Prop:=∃gr sm s c,h=Pool gr sm s c r/\0<=s/\s<2147483647/\0<=c/\c<=k/\gr.length<=63/\sm.length<=63
theorem PS.up {h:AH}{k k':Int}{r:AH}(p:PS h k r) (hk:k<=k'):PS h k' r:=by
 obtain⟨gr,sm,s,c,e,h1,h2,h3,h4,h5,h6⟩:=p;exact⟨gr,sm,s,c,e,h1,h2,h3,by omega,h5,h6⟩
theorem PS.app {h:AH}{k:Int}{r:AH}(p:PS h k r) (j:AH):PS (h++j) k (r++j):=by
 obtain⟨gr,sm,s,c,e,q⟩:=p;exact⟨gr,sm,s,c,by rw[e];rfl,q⟩
theorem PS.get {h:AH}{k:Int}{r:AH}(p:PS h k r) (n:Nat):h[n+3]?=r[n]?:=by
 obtain⟨gr,sm,s,c,e,q⟩:=p;rw[e];rfl
theorem PS.len {h:AH}{k:Int}{r:AH}(p:PS h k r):h.length=r.length+3:=by
 obtain⟨gr,sm,s,c,e,q⟩:=p;rw[e];rfl
theorem PS.set {h:AH}{k:Int}{r:AH}(p:PS h k r) (n:Nat) (o:O):PS (h.set (n+3) o) k (r.set n o):=by
 obtain⟨gr,sm,s,c,e,q⟩:=p;exact⟨gr,sm,s,c,by rw[e];rfl,q⟩
theorem z2O {h:AH}{k:Int}{r:AH}{n:Nat}{xs:List D}{Q:List D->AH->Prop}(p:PS h k r) (e:r[n]?=.(l xs)) (q:Q xs h):W (getL (n+3)) h Q :=
 ⟨xs,h,by unfold getL;rw[p.get,e],q⟩
theorem z1D {h:AH}{k:Int}{r:AH}{xs:List D}{Q:D->AH->Prop}(p:PS h k r) (hl:xs.length<=1000000) (z:∀h',PS h' k (r++[.lst xs])->Q (.ref (r.length+3)) h'):W (newL xs) h Q :=
 ⟨.ref (r.length+3),h++[.lst xs],by unfold newL;rw[if_pos (K0x hl (by decide)),p.len],z _ (p.app _)⟩
theorem z73 {h:AH}{k:Int}{r:AH}{n:Nat}{xs:List D}{v:D}{Q:D->AH->Prop}(p:PS h k r) (e:r[n]?=.(l xs)) (hl:xs.length<1000000) (z:∀h',PS h' k (r.set n (.lst (xs++[v])))->Q .non h'):W (w6 (n+3) v) h Q :=
 ⟨.non,h.set (n+3) (.lst (xs++[v])),by
  unfold w6 updL;rw[p.get,e];dsimp only;rw[if_pos (K0x (by simp;omega:(xs++[v]).length<=1000000) (by decide))],z _ (p.set _ _)⟩
theorem z0F {r j:AH}{n:Nat}{o:O}(e:r[n]?=some o):(r++j)[n]?=some o:=by
 rw[K0w (K7.mp e).1,e]
theorem z1F {r:AH}{o:O}:(r++[o])[r.length]?=some o:=by simp
def zu2 (x:Str):Prop:=1<=x.length/\x.length<=8/\(∀c∈x.cps.toList,97<=c/\c<=122) /\
 x∉(["yes","no","not","and","or","step","some","all","next","once","ever","until","unless"]:List Str)
theorem len_str (x:Str):x.length=x.cps.toList.length:=by simp[K9s]
theorem z69 (a:Str):∀l:List Str,((l.map D.str).any λz=>eqF z (.str a))=decide (a∈l)
 | []=>by simp
 | b::l=>by
  rw[K0i,K26,z69 a l];simp only[eqF];rw[K17];simp only[K2w,beq_iff_eq,decide_eq_true_eq,K0c];constructor
  ·rintro(h|h)
   ·exact .inl h.symm
   ·exact .inr h
  ·rintro(h|h)
   ·exact .inl h.symm
   ·exact .inr h
theorem z3D:∀l:List Str,(l.map D.str).all z16=true
 | []=>rfl
 | _::l=>by rw[K0i,K50,z3D l];rfl
def low (x:Str):Prop:=∀c∈x.cps.toList,97<=c/\c<=122
def abc:Str:="abcdefghijklmnopqrstuvwxyz"
theorem zu1:abc.cps.toList=(K0h 26).map (·+97):=by decide +kernel
theorem zy3:abc.length=26:=by decide +kernel
theorem zN8 {d:Int}(h0:0<=d) (h1:d<26):fIx (.str abc) (.int d)=pure (.str ⟨#[d.toNat+97]⟩):=by
 unfold fIx;dsimp only;rw[if_pos (by rw[zy3];decide),zu1];obtain⟨n,rfl⟩:=K5j h0;have hn:n<26:=by omega
 rw[Y7 (v:=n+97) (by simp[hn])];simp
theorem z4u (x y:Str):(x++y).cps.toList=x.cps.toList++y.cps.toList:=Array.toList_append
theorem len_app (x y:Str):(x++y).length=x.length+y.length:=by rw[len_str,z4u,K04,<- len_str,<- len_str]
theorem zN5 {x y:Str}(h:x.length+y.length<=1000):fAdd (.str x) (.str y)=pure (.str (x++y)):=by
 show (if x.length+y.length<=sizeLine then _ else _)=_;rw[if_pos (K0x h (by decide))]
theorem z3O (c:Nat):K9s ⟨#[c]⟩=1:=rfl
theorem z5O {x:Str}{c:Nat}(h:low x) (h1:97<=c) (h2:c<=122):low (x++⟨#[c]⟩):=by
 intro d hd;rw[z4u]at hd;rcases K0n.mp hd with q|q
 ·exact h d q
 ·simp at q;omega
theorem z4F {x:Str}{h:AH}{k d:Int}{r:AH}{Q:D->AH->Prop}(h0:0<=d) (h1:d<26) (hx:x.length<=100) (q:Q (.str (x++⟨#[d.toNat+97]⟩)) h):W (fIx (.str abc) (.int d)) h λa h1=>W (fAdd (.str x) a) h1 Q:=by
 rw[zN8 h0 h1,W_pure,zN5 (by rw[z3O];omega),W_pure];exact q
def words:List Str:=["yes","no","not","and","or","step","some","all","next","once","ever","until","unless"]
def cand (x:Str) (l:Int) (i:Nat):Str:=x++⟨#[((l+i) % 26).toNat+97]⟩
theorem zb3 {x:Str}{l:Int}(h0:0<=l) {i j:Nat}(hi:i<26) (hj:j<26) (e:cand x l i=cand x l j):i=j:=by
 have e2:(cand x l i).cps.toList=(cand x l j).cps.toList:=by rw[e]
 unfold cand at e2;rw[z4u,z4u]at e2;have:=List.append_cancel_left e2;simp at this;omega
theorem zG8 {x:Str}{l:Int}(h0:0<=l) {ns:List Str}(hn:ns.length<=7) (h:∀i:Nat,i<26->cand x l i∈words\/cand x l i∈ns):False:=by
 have nd:((K0h 26).map (cand x l)).Nodup:=by
  rw[List.nodup_iff_pairwise_ne,K7k];refine List.Pairwise.imp_of_mem ?_ List.nodup_range;intro a b ha hb hne e;exact hne (zb3 h0 (by simpa using ha) (by simpa using hb) e)
 have sub:((K0h 26).map (cand x l)) ⊆ words++ns:=by
  intro y hy;obtain⟨i,hi,rfl⟩:=K0r.mp hy;exact K0n.mpr (h i (by simpa using hi))
 have:=nd.length_le_of_subset sub;rw[K4,K20,K04]at this;have w:words.length=13:=rfl;omega
theorem zj6 {h:AH}{k:Int}{r:AH}{n:Nat}{ns:List Str}{x:Str}{neg:Bool}(p:PS h k r) (e:r[n]?=.(l (ns.map .str))):fIn neg (.str x) (.ref (n+3)) h=.ok (.bl (decide (x∈ns) != neg)) h:=by
 have g:getL (n+3) h=.ok (ns.map .str) h:=by unfold getL;rw[p.get,e]
 unfold fIn seqD;rw[M.bind_ok g,z69,z3D];rfl
theorem z5L {h:AH}{k:Int}{r:AH}{n:Nat}{xs:List D}{i:Int}{d:D}{Q:D->AH->Prop}(p:PS h k r) (e:r[n]?=.(l xs)) (a:atI xs i=some d) (q:Q d h):W (fIx (.ref (n+3)) (.int i)) h Q:=by
 show W (getL (n+3) >>= λxs=>match atI xs i with|some d=>pure d|none=>bad) h Q;rw[j3];refine z2O p e ?_;rw[a];exact W_pure.mpr q
theorem zm5 {h:AH}{k:Int}{r:AH}{n:Nat}{xs:List D}{Q:D->AH->Prop}(p:PS h k r) (e:r[n]?=.(l xs)) (q:Q (.int xs.length) h):W (fLen [.ref (n+3)]) h Q:=by
 show W (getL (n+3) >>= λxs=>pure (.int xs.length)) h Q;rw[j3];refine z2O p e ?_;exact W_pure.mpr q
theorem zu8:low "":=by
 intro c hc;have:(K2o "").cps.toList=[]:=by decide +kernel
 rw[this]at hc;cases hc
theorem zq0:K9s "" = 0:=by decide +kernel
def NS (ns:List Str):Prop:=ns.Nodup/\∀x∈ns,zu2 x
def stD (l:List Nat):List D:=l.map λ(i:Nat)=>.int i
def stsD (st:List (List Nat)):List D:=st.map λl=>.tup (stD l)
def mksD (mk:List (List Str)):List D:=mk.map λl=>.tup (l.map .str)
def maD (st:List (List Nat)) (mk:List (List Str)):D:=.tup [.tup (stsD st),.tup (mksD mk)]
theorem z5v (l:List Str):(z2R l).length=l.length:=(K6t l leS).length_eq
theorem strs_map:∀l:List Str,z4C (l.map .str)=some l
 | []=>rfl
 | a::l=>by simp[z4C,strs_map l]
theorem z2r (ns:List Int) (p:D->Bool):((ns.map D.int).filter p).map (λd=>d)=(ns.filter λi=>p (.int i)).map D.int:=by
 rw[List.map_id',K8r];rfl
theorem zB6:fPow (.int 10) (.int 18)=pure (.int 1000000000000000000):=rfl
theorem z0o (xs:List D):fLen [.tup xs]=pure (.int xs.length):=rfl
theorem ix_tup {xs:List D}{i:Int}{d:D}(a:atI xs i=some d):fIx (.tup xs) (.int i)=pure d:=by
 have:fIx (.tup xs) (.int i)=(pure xs >>= λxs=>match atI xs i with|some d=>pure d|none=>bad):=rfl;rw[this];show (match atI xs i with|some d=>pure d|none=>bad)=_;rw[a]
theorem zE5 {l:List Nat}{c:Nat}(hc:c<l.length):atI (stD l) (c:Int)=.(i (((l[c]?).getD 0:Nat))):=by
 refine Y7 ?_;unfold stD;rw[K8,K5 hc];rfl
section
variable {P:K0d}{w:World}{K:K2}{mg:Str->Option Value}{base:Heap}
theorem zW5 {x:Str}{st:Stmt}{f:Addr}{fd:K2j}{N ps:List Str}{k n:Nat}{mb:G->M Out}(F:Fun K x x st f fd) (S:FnScope N ps (j9 st)) (hn:ps.length=n)
 (body:∀(cdv:Value) (A:Around) (outer:List Env) (s:Shared) (H:Hp) (E:XK),Room k (A.deeper (envOfC x (j9 st) s.heap.objs.size f cdv)) ->
  SB (cxOf CX0 P w K mg base N x (j9 st) f cdv A outer s H E).nox EX0 (z05 st) mb):FnOk P w K mg base CX0 (k+1) f fd ps (spB K (runF N.length mb) n):=by
 refine F.ok S (λvs H Q E h=>h.1.trans hn.symm) (λcdv A outer s H vs Q E hr h=>?_);obtain⟨hl,ρ,ds,h,rh,rd,fin⟩:=h;refine⟨_,(body cdv A outer s H E hr).h,ρ,z1l N.length ds,h,⟨z3U rd,rh⟩,?_⟩;refine(Fin.bind fin).mono λo ρ1 h1 H1 p1 e1 r1 f1=>?_;cases o with
 | nx γ=>exact λσ _=>FE.here (d:=.non) (h:=h1) f1 r1 (by simp[RD])
 | rt d=>exact λv rv=>f1 ρ1 H1 (Pre.refl _) (Ext.refl _ _) r1 v rv
 | bk γ=>exact(show False from f1).elim
 | ct γ=>exact(show False from f1).elim
theorem bindsTo1 {x p:Str}{st:Stmt}{f:Addr}{fd:K2j}(F:Fun K x x st f fd)
 (h:∀(kV doc pm:Value) (an:Option Addr) (cdv ct u:Value),bindArgs (K2b x x (z1k st) (z05 st) (j9 st) .none kV doc pm an cdv ct) ⟨[u],[]⟩=pure [(p,u)]):∀(s:Shared) (u:Value),K8d s fd ⟨[u],[]⟩ [(p,u)]:=by
 obtain⟨oc,od,kV,doc,pm,an,cdv,ct,osl,rfl,lk,hcd⟩:=F.ex;exact λs u=>.of_eq (h kV doc pm an cdv ct u)
end
theorem law_walk {l:Z12}{q:K0d}{loose:List Str}{XP:(Str->Option Value)->Heap->Prop}{YP:World->Heap->Prop}{d:DefRec}{K:Params->K2}{m:List D->M D}{p:Str}{lev:Nat}(hn:l.most=some 63) (hdf:d.params.defaults=[]) (hr:Room lev K8c)
 (hY:∀(w:World) (h:Heap),YP w h->(K w.params).In h)
 (F:∀(w:World) (mg:Str->Option Value) (fa:Addr) (h:Heap),(K w.params).In h->h.Ns K1x mg->mg d.name=.(r fa) ->
  ∃fd:K2j,(∀(s:Shared) (u:Value),K8d s fd ⟨[u],[]⟩ [(p,u)])/\∀base:Heap,(K w.params).In base->base.Ns K1x mg->FnOk l.prog w (K w.params) mg base CX0 lev fa fd [p] (spB (K w.params) m 1))
 (math:∀ns:List Int,ns.length<=63->∃h',m [.fl (ns.map .int)] []=.ok (.bl true) h') :
 Z1f q loose XP YP l.row.toRowW d [] (λf vs=>Z1a f vs):=by
 refine L2.walk_of (n:=63) (k:=lev) (x:=p) (CX:=λ_=>CX0) (sp:=λw=>spB (K w.params) m 1) hn (by decide) hdf hr hY F (λw H a ns hl hO hS=>?_) λ_ _ _ _ _ z=>z;obtain⟨h',e⟩:=math ns hl;have sq:SqLP (K w.params) H a (ns.map V.int):=by
  rcases hS with (h|⟨o,h⟩)|h
  ·rcases hO a with z|⟨ob,xs,z⟩<;>rw[h]at z<;>cases z
  ·exact .inl ⟨o,h⟩
  ·exact .inr h
 refine⟨rfl,[],[.fl (ns.map .int)],[],⟨rfl,λi j a h=>by simp at h,λn o a h=>by simp at h⟩,RDs.cons ?_ RDs.nil,?_⟩
 ·simp only[RD];exact⟨a,_,rfl,sq,z4M ns⟩
 ·rw[e];exact λρ' H' _ _ _ v rv=>by simpa [RD] using rv
mutual
def y8 (n:Nat):D->Bool
 | .ref i=>decide (i<n)
 | .tup xs=>k6 n xs
 | .fl xs=>k6 n xs
 | _=>true
def k6 (n:Nat):List D->Bool
 | []=>true
 | d::r=>y8 n d&&k6 n r
end
def refO (n:Nat):O->Bool
 | .lst xs=>k6 n xs
 | .dK kvs=>k6 n (kvs.map (·.2))
 | .dF kvs=>k6 n (kvs.map (·.2))
 | _=>true
def Kept (h h1:AH):Prop:=∀(i:Nat) (o:O),i<h.length->h1[i]?=some o->h[i]?=some o\/refO h.length o=true
section
variable {K:K2}{ρ ρ':List Addr}{H:Hp}
theorem z4E {ρ:List Addr}{n i:Nat}(h:i<n):(ρ.take n)[i]?=ρ[i]?:=by rw[K22,if_pos h]
mutual
theorem RD.cut {n:Nat}:∀{d:D}{v:V},y8 n d=true->RD K ρ H d v->RD K (ρ.take n) H d v
 | .non,v,_,h=>by simpa [RD] using h
 | .bl b,v,_,h=>by simpa [RD] using h
 | .int b,v,_,h=>by simpa [RD] using h
 | .str b,v,_,h=>by simpa [RD] using h
 | .tup ds,v,c,h=>by
  simp only[RD,y8]at h c ⊢;obtain⟨a,xs,h1,h2,h3⟩:=h;exact⟨a,xs,h1,h2,RDs.cut c h3⟩
 | .fl ds,v,c,h=>by
  simp only[RD,y8]at h c ⊢;obtain⟨a,xs,h1,h2,h3⟩:=h;exact⟨a,xs,h1,h2,RDs.cut c h3⟩
 | .ref i,v,c,h=>by
  simp only[RD,y8,decide_eq_true_eq]at h c ⊢;obtain⟨a,h1,h2⟩:=h;exact⟨a,h1,by rw[z4E c];exact h2⟩
theorem RDs.cut {n:Nat}:∀{ds:List D}{xs:List V},k6 n ds=true->RDs K ρ H ds xs->RDs K (ρ.take n) H ds xs
 | [],xs,_,h=>by simpa [RDs] using h
 | d::ds,xs,c,h=>by
  simp only[RDs,k6,K0f]at h c ⊢;obtain⟨x,r,h1,h2,h3⟩:=h;exact⟨x,r,h1,RD.cut c.1 h2,RDs.cut c.2 h3⟩
end
mutual
theorem RD.low:∀{d:D}{v:V},RD K ρ H d v->y8 ρ.length d=true
 | .non,v,h=>rfl
 | .bl b,v,h=>rfl
 | .int b,v,h=>rfl
 | .str b,v,h=>rfl
 | .tup ds,v,h=>by
  simp only[RD,y8]at h ⊢;obtain⟨a,xs,h1,h2,h3⟩:=h;exact RDs.low h3
 | .fl ds,v,h=>by
  simp only[RD,y8]at h ⊢;obtain⟨a,xs,h1,h2,h3⟩:=h;exact RDs.low h3
 | .ref i,v,h=>by
  simp only[RD,y8,decide_eq_true_eq]at h ⊢;obtain⟨a,h1,h2⟩:=h;exact(K7.mp h2).1
theorem RDs.low:∀{ds:List D}{xs:List V},RDs K ρ H ds xs->k6 ρ.length ds=true
 | [],xs,h=>rfl
 | d::ds,xs,h=>by
  simp only[RDs,k6,K0f]at h ⊢;obtain⟨x,r,h1,h2,h3⟩:=h;exact⟨RD.low h2,RDs.low h3⟩
end
theorem RK.cut {n:Nat}:∀{kvs:List (Key×D)}{vs:List (Key×V)},k6 n (kvs.map (·.2))=true->RK K ρ H kvs vs->RK K (ρ.take n) H kvs vs
 | _,_,_,.nil=>.nil
 | _,_,c,.cons a b=>by
  simp only[K0i,k6,K0f]at c;exact .cons ⟨a.1,a.2.cut c.1⟩ (RK.cut c.2 b)
theorem RK.low:∀{kvs:List (Key×D)}{vs:List (Key×V)},RK K ρ H kvs vs->k6 ρ.length (kvs.map (·.2))=true
 | _,_,.nil=>rfl
 | _,_,.cons a b=>by
  simp only[K0i,k6,K0f];exact⟨a.2.low,RK.low b⟩
theorem RO.cut {n:Nat}{o:O}{a:Addr}(c:refO n o=true) (h:RO K ρ H o a):RO K (ρ.take n) H o a:=by
 cases o with
 | lst ds=>obtain⟨xs,h1,h2⟩:=h;exact⟨xs,h1,h2.cut c⟩
 | set ks=>exact h
 | dct=>exact h
 | dK kvs=>obtain⟨vs,h1,h2⟩:=h;exact⟨vs,h1,h2.cut c⟩
 | dF kvs=>obtain⟨ob,vs,h1,h2⟩:=h;exact⟨ob,vs,h1,h2.cut c⟩
 | exc c=>exact h
theorem RO.low {o:O}{a:Addr}(h:RO K ρ H o a):refO ρ.length o=true:=by
 cases o with
 | lst ds=>obtain⟨xs,h1,h2⟩:=h;exact h2.low
 | set ks=>rfl
 | dct=>rfl
 | dK kvs=>obtain⟨vs,h1,h2⟩:=h;exact h2.low
 | dF kvs=>obtain⟨ob,vs,h1,h2⟩:=h;exact h2.low
 | exc c=>rfl
theorem RH.cut {h:AH}{n:Nat}(r:RH K ρ h H) (c:∀o∈h.take n,refO n o=true):RH K (ρ.take n) (h.take n) H:=by
 refine⟨by simp[r.len],λi j a h1 h2=>?_,λm o a h1 h2=>?_⟩
 ·rw[K22]at h1 h2;split at h1
  ·split at h2
   ·exact r.nd i j a h1 h2
   ·cases h2
  ·cases h1
 ·have hm:=K08 h1;rw[K22]at h1 h2;split at h1
  ·rename_i q;rw[if_pos q]at h2;exact(r.obj m o a h1 h2).cut (c o hm)
  ·cases h1
theorem RH.cut1 {h:AH}{n i:Nat}{o:O}(r:RH K ρ h H) (c:∀o∈h.take n,refO n o=true) (hn:n<=h.length) (hi:n<=i) (e:h[i]?=some o) (co:refO n o=true):∃a,ρ[i]?=some a/\RH K (ρ.take n++[a]) (h.take n++[o]) H:=by
 obtain⟨a,ea,ra⟩:=r.at e;have r1:=r.cut c;have ln:(ρ.take n).length=n:=by rw[K0e,r.len];omega
 have lh:(h.take n).length=n:=by rw[K0e];omega
 have ne:∀{m:Nat} {b:Addr},(ρ.take n)[m]?=some b->b≠a:=λ{m b} q z=>by
  have hm:=(K7.mp q).1;rw[ln]at hm;rw[z4E hm,z]at q;have:=r.nd m i a q ea;omega
 refine⟨a,ea,by simp[r1.len],λi j b h1 h2=>?_,λm u b h1 h2=>?_⟩
 ·rw[K3t]at h1 h2;split at h1<;>split at h2
  ·exact r1.nd i j b h1 h2
  ·rename_i q1 q2;rw[K1r]at h2;split at h2
   ·cases h2;exact absurd rfl (ne h1)
   ·cases h2
  ·rename_i q1 q2;rw[K1r]at h1;split at h1
   ·cases h1;exact absurd rfl (ne h2)
   ·cases h1
  ·rw[K1r]at h1 h2;split at h1
   ·split at h2
    ·omega
    ·cases h2
   ·cases h1
 ·rw[K3t]at h1 h2;rw[ln]at h2;rw[lh]at h1;split at h1
  ·rename_i q;rw[if_pos q]at h2;exact(r1.obj m u b h1 h2).mono (Pre.app _ _) (Ext.refl _ _) rfl
  ·rename_i q;rw[if_neg q]at h2;rw[K1r]at h1 h2;split at h1
   ·rename_i q0;rw[if_pos q0]at h2;cases h1;cases h2;exact(ra.cut co).mono (Pre.app _ _) (Ext.refl _ _) rfl
   ·cases h1
end
theorem z8T {K:K2}{ρ:List Addr}{h h1:AH}{H:Hp}(r:RH K ρ h H) (c:Kept h h1):∀o∈h1.take h.length,refO h.length o=true:=λo ho=>by
 obtain⟨i,hi⟩:=K2h ho;rw[K22]at hi;split at hi
 ·rename_i li;rcases c i o li hi with q|q
  ·obtain⟨a,_,ra⟩:=r.at q;rw[<- r.len];exact ra.low
  ·exact q
 ·cases hi
theorem z6Y (h j:AH):Kept h (h++j):=λi o li e=>.inl (by rw[K0w li]at e;exact e)
open Classical in
noncomputable def cln (m:M D):M D:=λh=>match m h with
 | .ok d h1=>if h.length<=h1.length/\Kept h h1 then
  (if y8 h.length d=true then .ok d (h1.take h.length) else match d with
   | .ref i=>(match h1[i]? with
    | some o=>if refO h.length o=true then .ok (.ref h.length) (h1.take h.length++[o]) else .ok d h1
    | none=>.ok d h1)
   | d=>.ok d h1)
  else .ok d h1
 | .err x h1=>.err x h1
 | .bad=>.bad
theorem FE.cln {K:K2}{EX:XX}{ρ:List Addr}{h:AH}{H:Hp}{Q:VK}{m:M D}(r:RH K ρ h H) (f:FE K EX ρ H Q (cln m h)):FE K EX ρ H Q (m h):=by
 unfold FT.cln at f;cases e:m h with
 | bad=>rw[e]at f;exact f
 | err x h1=>rw[e]at f;exact f
 | ok d h1 =>
  rw[e]at f;dsimp only at f;split at f
  ·rename_i c;obtain⟨hl,c⟩:=c;have cl:=z8T r c;have pre:∀{ρ1:List Addr},Pre ρ ρ1->Pre ρ (ρ1.take h.length):=λ{ρ1} p i a q=>by
    have:=(K7.mp q).1;rw[r.len]at this;rw[z4E this];exact p i a q
   split at f
   ·rename_i cd;exact λρ1 H1 p1 e1 r1 v rv=>f _ H1 (pre p1) e1 (r1.cut cl) v (rv.cut cd)
   ·rename_i nd;split at f
    ·rename_i i;split at f
     ·rename_i o eo;split at f
      ·rename_i co;intro ρ1 H1 p1 e1 r1 v rv;have hi:h.length<=i:=by
        simp only[y8,decide_eq_true_eq]at nd;omega
       obtain⟨a,ea,r2⟩:=r1.cut1 cl hl hi eo co;refine f _ H1 ((pre p1).trans (Pre.app _ _)) e1 r2 v ?_;simp only[RD]at rv ⊢;obtain⟨b,h2,h3⟩:=rv;rw[ea]at h3;cases h3;refine⟨a,h2,?_⟩;have ln:(ρ1.take h.length).length=h.length:=by rw[K0e,r1.len];omega
       rw[K1h (by omega),ln];simp
      ·exact f
     ·exact f
    ·exact f
  ·exact f
noncomputable def clE (m:G->M D):G->M D:=λγ=>cln (m γ)
theorem z0y {X:Cx}{EX:XX}{e:Expr}{m:G->M D}(h:SE X EX e m):SE X EX e (clE m) :=
 ⟨PE.imp h.h λσ H Q ⟨ρ,γ,h,rel,fin⟩=>⟨ρ,γ,h,rel,FE.cln rel.h fin⟩⟩
open Classical in
noncomputable def clT (m:G->M Bool):G->M Bool:=λγ h=>match m γ h with
 | .ok d h1=>if h.length<=h1.length/\Kept h h1 then .ok d (h1.take h.length) else .ok d h1
 | .err x h1=>.err x h1
 | .bad=>.bad
theorem RH.cut2 {K:K2}{ρ ρ1:List Addr}{h h1:AH}{H H1:Hp}(r:RH K ρ h H) (p1:Pre ρ ρ1) (r1:RH K ρ1 h1 H1) (c:Kept h h1):RH K (ρ1.take h.length) (h1.take h.length) H1/\Pre ρ (ρ1.take h.length):=by
 refine⟨r1.cut (z8T r c),λi a q=>?_⟩;have:=(K7.mp q).1;rw[r.len]at this;rw[z4E this];exact p1 i a q
theorem zO3 {X:Cx}{EX:XX}{e:Expr}{m:G->M Bool}(h:SC X EX e m):SC X EX e (clT m) :=
 ⟨PT.imp h.h λσ H Q ⟨ρ,γ,h,rel,fin⟩=>⟨ρ,γ,h,rel,by
  unfold clT at fin;cases e:m γ h with
  | bad=>rw[e]at fin;exact fin
  | err x h1=>rw[e]at fin;exact fin
  | ok d h1 =>
   rw[e]at fin;dsimp only at fin;split at fin
   ·rename_i c;exact λρ1 H1 p1 e1 r1=>let ⟨r2,p2⟩:=rel.h.cut2 p1 r1 c.2;fin _ H1 p2 e1 r2
   ·exact fin⟩⟩
theorem Fn.cln {P:K0d}{w:World}{K:K2}{mg:Str->Option Value}{base:Heap}{k:Nat}{x:Str}{n:Nat}{mf:List D->M D}(F:Fn P w K mg base k x n mf):Fn P w K mg base k x n (λds=>cln (mf ds)):=by
 obtain⟨f,fd,ps,h1,h2,h3,h4⟩:=F.ex;exact⟨f,fd,ps,h1.imp λvs H Q E ⟨hl,ρ,ds,h,rh,rd,fin⟩=>⟨hl,ρ,ds,h,rh,rd,FE.cln rh fin⟩,h2,h3,h4⟩
end FT
namespace L2
open PySem PySem.Spec PyProof.Rows PySem.Builtin
theorem z3c:fillsNumberSlot (.type "tuple") "mul" = pure false :=
 PySem.fillsNumberSlot_seq (id:="tuple.__mul__") (r:=some (.builtin "tuple.__rmul__")) K3f.lookup (by decide +kernel) K7w.lookup (by decide +kernel)
theorem z5y:seqRepeat? (.type "tuple")=pure (some (.builtin "tuple.__mul__")):=by
 unfold seqRepeat?;rw[Z0n (T:="tuple") (name:="__mul__") (id:="tuple.__mul__") K3f.lookup (by decide +kernel),Z0n (T:="tuple") (name:="__rmul__") (id:="tuple.__rmul__") K7w.lookup (by decide +kernel)];rfl
theorem zA9 (a:Int) (t:Tok) (l:Addr) (items:Array Value) (n:Nat) (dd:Option Addr) (sl:Array (Option Value)) :
 Meets (Builtin.«int.__rmul__» ⟨[.int a t,.ref l],[]⟩) (λ_ R s=>s.heap.get? l=some { cls:=.type "tuple",dict:=dd,data:=.seq items n,slots:=sl }/\R (.ok (.ret Value.notImplemented)) s) :=
 .of_wp λprog w A R s h=>by obtain⟨hp,g,d,tk,os⟩:=s;obtain⟨hl,h⟩:=h;wp_walk;exact⟨_,rfl,h⟩
theorem zI3 (l:Addr) (items:Array Value) (n:Nat) (dd:Option Addr) (sl:Array (Option Value)) (x:Int) (u:Tok) (h1:-(2 ^ 63)<=x) (h2:x<2 ^ 63) (hc:items.isEmpty=true\/x=1) :
 Meets (Builtin.«tuple.__mul__» ⟨[.ref l,.int x u],[]⟩) (λ_ R s=>s.heap.get? l=some { cls:=.type "tuple",dict:=dd,data:=.seq items n,slots:=sl }/\R (.ok (.ret (K1s l))) s) :=
 .of_wp λprog w A R s h=>by
  obtain⟨hp,g,d,tk,os⟩:=s;obtain⟨hl,h⟩:=h;have f1:=K5m;have c1:(decide (x < -(2 ^ 63))||decide (x >= 2 ^ 63))=false:=by simp;omega
  have c2:(items.isEmpty||x==1)=true:=by simpa using hc
  wp_walk using K18 hl
  refine K3a (by rw[c1];rfl) ?_
  wp_walk using K18 hl
  exact⟨_,rfl,h⟩
theorem zI6 (l:Addr) (items:Array Value) (n:Nat) (dd:Option Addr) (sl:Array (Option Value)) (x:Int) (u:Tok) (h1:-(2 ^ 63)<=x) (h2:x<2 ^ 63) (hc:items.isEmpty=false) (hx:x<=0) :
 Meets (Builtin.«tuple.__mul__» ⟨[.ref l,.int x u],[]⟩) (λ_ R s=>s.heap.get? l=some { cls:=.type "tuple",dict:=dd,data:=.seq items n,slots:=sl }/\R (.ok (.ret (K1s s.heap.objs.size))) { s with heap:=s.heap.push { cls:=K47 "tuple",data:=Z19 #[] },toks:=s.toks }) :=
 .of_wp λprog w A R s h=>by
  obtain⟨hp,g,d,tk,os⟩:=s;obtain⟨hl,h⟩:=h;have f1:=K5m;have c1:(decide (x < -(2 ^ 63))||decide (x >= 2 ^ 63))=false:=by simp;omega
  have c2:(items.isEmpty||x==1)=false:=by rw[hc];simp;omega
  have c3:(decide (x<=0)||items.isEmpty)=true:=by simp[hx]
  wp_walk using K18 hl
  refine K3a (by rw[c1];rfl) ?_
  wp_walk using K18 hl
  refine K3a (by rw[c2];rfl) ?_
  wp_walk using K18 hl
  exact⟨_,rfl,h⟩
theorem zO7 (l:Addr) (items:Array Value) (n:Nat) (dd:Option Addr) (sl:Array (Option Value)) (x:Int) (u:Tok) (h1:-(2 ^ 63)<=x) (h2:x<2 ^ 63) (hc:items.isEmpty=false) (hx:1<x) (hz:items.size * x.toNat<=sizeLine) :
 Meets (Builtin.«tuple.__mul__» ⟨[.ref l,.int x u],[]⟩) (λ_ R s=>s.heap.get? l=some { cls:=.type "tuple",dict:=dd,data:=.seq items n,slots:=sl }/\R (.ok (.ret (K1s s.heap.objs.size))) { s with heap:=s.heap.push { cls:=K47 "tuple",data:=Z19 (K6b (λx1 x2=>x1++x2) #[] (K0l x.toNat items)) },toks:=s.toks }) :=
 .of_wp λprog w A R s h=>by
  obtain⟨hp,g,d,tk,os⟩:=s;obtain⟨hl,h⟩:=h;have f1:=K5m;have c1:(decide (x < -(2 ^ 63))||decide (x >= 2 ^ 63))=false:=by simp;omega
  have c2:(items.isEmpty||x==1)=false:=by rw[hc];simp;omega
  have c3:(decide (x<=0)||items.isEmpty)=false:=by rw[hc];simp;omega
  have ez:(items.size:Int) * x=((items.size * x.toNat:Nat):Int):=by
   rw[Int.natCast_mul,K2v (by omega)]
  have sl4:(sizeLine:Nat)<=2 ^ 24:=by decide
  have c4:¬ (items.size:Int) * x > (2 ^ 63 - 1) / 8:=by rw[ez];omega
  have c5:Tuple.tupleTooMany ((items.size:Int) * x)=false:=by
   unfold Tuple.tupleTooMany;rw[ez,decide_eq_false_iff_not];omega
  wp_walk using K18 hl
  refine K3a (by rw[c1];rfl) ?_
  wp_walk using K18 hl
  refine K3a (by rw[c2];rfl) ?_
  wp_walk using K18 hl
  refine K3a (by rw[c3];rfl) ?_
  wp_walk using K18 hl
  rw[if_neg c4]
  wp_walk using K18 hl
  refine K3a (by rw[c5];rfl) ?_
  wp_walk using K18 hl
  have c6:¬ (K6b (λx1 x2=>x1++x2) #[] (K0l x.toNat items)).size > sizeLine:=by
   have f0:=foldl_rep items.toList x.toNat [];rw[K56]at f0;have:(K6b (λx1 x2=>x1++x2) #[] (K0l x.toNat items))=(K0l x.toNat items.toList).flatten.toArray:=f0;rw[this,K9,len_rep,K15,K5p];omega
  refine K3a (decide_eq_false c6) ?_
  wp_walk using K18 hl
  exact⟨_,rfl,h⟩
def zM4 (K:K2):R2:=λx y H Q=>∃a k xs,x=.ref a/\y=.int k/\SqT K H a xs/\-(2 ^ 63)<=k/\k<2 ^ 63/\xs.length * k.toNat<=sizeLine /\
 ((xs=[]\/k=1)->Q (.ref a) H)/\(∀p,H p=none->Q (.ref p) (upd H p (.tup (K0l k.toNat xs).flatten)))
theorem zr0 {X:Cx}:OpR X (K3b .Mult) (zM4 X.K):=by
 intro pins s σ H x y v u Q I rx ry h;obtain⟨a,k,xs,rfl,rfl,ha,h1,h2,hz,q1,q2⟩:=h;cases rx;obtain⟨t,rfl⟩:=ry;obtain⟨its,r1,p1,_⟩:=I.tuple ha;obtain⟨⟨cls,dd,data,sl⟩,ho,hc,n,hd⟩:=id p1;simp only at hc hd;subst hc hd;have go:∀(R:Value->Shared->Prop),wpAny (model X.prog X.w) X.A (call (.builtin "tuple.__mul__") [.ref a,.int k t]) R X.xe s->wpAny (model X.prog X.w) X.A (K3b .Mult (.ref a) (.int k t)) R X.xe s:=λR z =>
  K7d (T:="tuple") (U:="int") (by decide) ⟨_,ho,rfl⟩ (λs'=>K8f s' k t) z3c PySem.F.fills_int_mul K8y z5y PySem.F.slot_int_index.lookup
   (K3y K8y (K8f s k t) PySem.F.entry_int_rmul (PySem.F.args_int_rmul_2 _ _) (zA9 k t a its.toArray n dd sl) ⟨ho,rfl,⟨_,ho,rfl⟩,z⟩)
 refine go _ ?_;have ln:its.length=xs.length:=r1.length.symm;by_cases c:xs=[]\/k=1
 ·refine K3y K3f ⟨_,ho,rfl⟩ K5g (K53 _ _) (zI3 a its.toArray n dd sl k t h1 h2 ?_) ⟨ho,.ref a,H,I,rfl,q1 c⟩;rcases c with c|c
  ·left;have:its=[]:=r1.nil_iff.mpr c;rw[this];rfl
  ·exact .inr c
 ·have ne:its.toArray.isEmpty=false:=by
   cases its with
   | nil=>exact absurd (.inl (r1.nil_iff.mp rfl)) c
   | cons a r=>rfl
  by_cases k0:k<=0
  ·refine K3y K3f ⟨_,ho,rfl⟩ K5g (K53 _ _) (zI6 a its.toArray n dd sl k t h1 h2 ne k0) ⟨ho,?_⟩;have e0:k.toNat=0:=by omega
   refine⟨.ref s.heap.objs.size,_,I.laid (t':=s.toks) (o:=.tup (K0l k.toNat xs).flatten) (λb ob q=>K3 _ q) (K01 _) ?_,rfl,q2 _ (I.hok.fresh (K01 _))⟩;rw[e0];exact⟨by simp,_,.nil,FT.IsTup0.new _ _⟩
  ·have k2:1<k:=by
    have:k≠1:=λz=>c (.inr z);omega
   refine K3y K3f ⟨_,ho,rfl⟩ K5g (K53 _ _) (zO7 a its.toArray n dd sl k t h1 h2 ne k2 (by rw[K9,ln];exact hz)) ⟨ho,?_⟩;refine⟨.ref s.heap.objs.size,_,I.laid (t':=s.toks) (o:=.tup (K0l k.toNat xs).flatten) (λb ob q=>K3 _ q) (K01 _) ?_,rfl,q2 _ (I.hok.fresh (K01 _))⟩;refine⟨by rw[len_rep,K5p];exact hz,_,r1.rep k.toNat,?_⟩;have f0:=foldl_rep its k.toNat [];rw[K56]at f0;have e:(K6b (λx1 x2=>x1++x2) #[] (K0l k.toNat its.toArray))=(K0l k.toNat its).flatten.toArray:=f0;rw[e];exact FT.IsTup0.new _ _
end L2
namespace FT
def z4D:D->D->M D
 | .tup x,.int j=>if decide (-(2 ^ 63)<=j)&&decide (j<2 ^ 63)&&decide (j.toNat * x.length<=sizeLine) then pure (.tup (K0l j.toNat x).flatten) else bad
 | x,y=>fMul x y
theorem zs3 {X:Cx}{EX:XX}:BR X.K EX (λx y H Q=>(rI CMul (λi j=>.int (i * j)) x y H Q\/rRep x y H Q)\/zM4 X.K x y H Q) z4D:=by
 intro ρ h H x y v u Q r rx ry fin;unfold z4D at fin;split at fin
 ·rename_i ds j;simp only[RD]at rx ry;obtain⟨a,xs,rfl,sq,rd⟩:=rx;subst ry;split at fin
  ·rename_i hc;simp only[K0f,decide_eq_true_eq]at hc;have hl:=rd.length;refine .inr ⟨a,j,xs,rfl,rfl,sq,hc.1.1,hc.1.2,by rw[<- hl,K5p];exact hc.2,λc=>?_,λp hp=>FE.tup fin r (rd.flat j.toNat) hp⟩;refine FE.here fin r ?_;simp only[RD];refine⟨a,xs,rfl,sq,?_⟩;rcases c with c|c
   ·subst c;have:ds=[]:=by simpa using hl
    subst this;have:(K0l j.toNat ([]:List D)).flatten=[]:=by simp
    rw[this];exact rd
   ·subst c;have:(K0l (1:Int).toNat ds).flatten=ds:=by simp
    rw[this];exact rd
  ·exact fin.elim
 ·exact .inl (zJ6 ρ h H x y v u Q r rx ry fin)
theorem z4J {X:Cx}{EX:XX}{a b:Expr}{pos:Pos}{ma mb:G->M D}(ha:SE X EX a ma) (hb:SE X EX b mb):SE X EX (.BinOp a .Mult b pos) (e2 z4D ma mb):=z7G ((op_mul.or zE6).or zr0) zs3 ha hb
theorem za6 {α:Type}{M:Model}{A:Around}{E:Value->Shared->Prop}{Q:α->Shared->Prop}{s:Shared}{K:K2}{d:Addr}{name:Str}{v:Value}{t:Sem α}{part:Option Value}{k:Obj->Sem α}
 (X:K.In s.heap) (n:K2a K d name=some (some v)) (e:t=.load d part k) (z:∀o,nsLook name o=pure (some v)->wpAny M A (k o) Q E s):wpAny M A t Q E s:=by
 unfold K2a at n;split at n
 ·rename_i o1 o2 es sz o3 lk;have hg:=X _ _ lk;split at n
  ·rename_i e2 fe;cases n;rw[e];refine K1 (m:=loadPart d part) (wpAny_loadPart hg (z _ ?_));rw[nsLook_eq];unfold nsLookByArray;dsimp only;rw[<- K9x,fe]
  ·split at n<;>cases n
 ·cases n
def DefK (K:K2) (x:Str) (st:Stmt) (dk:Addr):Prop:=∃(f:Addr) (oc:Value) (od:Option Addr) (doc pm:Value) (an:Option Addr) (cdv ct:Value) (osl:Array (Option Value)),K2a K K1x x=some (.(r f)) /\
 K.lookup f=some ⟨oc,od,.func (K2b x x (z1k st) (z05 st) (j9 st) .none (.ref dk) doc pm an cdv ct),osl⟩/\K2m K cdv x=true/\K2l K (.ref f)=true
theorem defK_mk {K:K2}{x:Str}{st:Stmt}{f dk:Addr}{oc:Value}{od an:Option Addr}{sl:Array (Option Value)}{dc pm cd ct:Value}(a:K2a K K1x x=some (.(r f)))
 (l:K.lookup f=some ⟨oc,od,.func (K2b x x (z1k st) (z05 st) (j9 st) .none (.ref dk) dc pm an cd ct),sl⟩) (c:K2m K cd x=true) (k:K2l K (.ref f)=true):DefK K x st dk:=⟨f,oc,od,dc,pm,an,cd,ct,sl,a,l,c,k⟩
structure KD (K:K2) (dk:Addr) (name:Str) (d:D) (v:V) (u:Value):Prop where
 ns:K2a K dk name=some (some u)
 rel:RelV v u
 rd:∀ρ H,RD K ρ H d v
theorem kd_int {K:K2}{dk:Addr}{x:Str}{i:Int}{t:Tok}(h:K2a K dk x=some (some (.int i t))):KD K dk x (.int i) (.int i) (.int i t):=⟨h,⟨t,rfl⟩,λ_ _=>by simp[RD]⟩
structure FnR (P:K0d) (w:World) (K:K2) (mg:Str->Option Value) (base:Heap) (k:Nat) (x:Str) (st:Stmt) (dk:Addr) (ps:List Str) (mf:List D->M D):Prop where
 ex:∃(f:Addr) (doc pm:Value) (an:Option Addr) (cdv ct:Value),FnOk P w K mg base CX0 k f (K2b x x (z1k st) (z05 st) (j9 st) .none (.ref dk) doc pm an cdv ct) ps (spB K mf ps.length)/\K2l K (.ref f)=true/\mg x=.(r f)
theorem FnR.cln {P:K0d}{w:World}{K:K2}{mg:Str->Option Value}{base:Heap}{k:Nat}{x:Str}{st:Stmt}{dk:Addr}{ps:List Str}{mf:List D->M D}(F:FnR P w K mg base k x st dk ps mf):FnR P w K mg base k x st dk ps (λds=>FT.cln (mf ds)):=by
 obtain⟨f,doc,pm,an,cdv,ct,h1,h2,h3⟩:=F.ex;exact⟨f,doc,pm,an,cdv,ct,h1.imp λvs H Q E ⟨hl,ρ,ds,h,rh,rd,fin⟩=>⟨hl,ρ,ds,h,rh,rd,FE.cln rh fin⟩,h2,h3⟩
theorem zE7 {P:K0d}{w:World}{K:K2}{mg:Str->Option Value}{base:Heap}{x:Str}{st:Stmt}{dk:Addr}{N ps:List Str}{k:Nat}{mb:G->M Out}(T:DefK K x st dk) (mx:∀v,K2a K K1x x=some (some v)->mg x=some v) (S:FnScope N ps (j9 st))
 (body:∀(f:Addr) (cdv:Value) (A:Around) (outer:List Env) (s:Shared) (H:Hp) (E:XK),K2m K cdv x=true->Room k (A.deeper (envOfC x (j9 st) s.heap.objs.size f cdv)) ->
  SB (cxOf CX0 P w K mg base N x (j9 st) f cdv A outer s H E).nox EX0 (z05 st) mb):FnR P w K mg base (k+1) x st dk ps (runF N.length mb):=by
 obtain⟨f,oc,od,doc,pm,an,cdv,ct,osl,hf,lk,hcd,kp⟩:=T;refine⟨f,doc,pm,an,cdv,ct,?_,kp,mx _ hf⟩;refine zx2 lk hcd S (λvs H Q E h=>h.1) λA outer s H vs Q E hr h=>?_;obtain⟨hl,ρ,ds,h,rh,rd,fin⟩:=h;refine⟨_,(body f cdv A outer s H E hcd hr).h.nox,ρ,z1l N.length ds,h,⟨z3U rd,rh⟩,?_⟩;refine(Fin.bind fin).mono λo ρ1 h1 H1 p1 e1 r1 f1=>?_;cases o with
 | nx γ=>exact λσ _=>FE.here (d:=.non) (h:=h1) f1 r1 (by simp[RD])
 | rt d=>exact λv rv=>f1 ρ1 H1 (Pre.refl _) (Ext.refl _ _) r1 v rv
 | bk γ=>exact(show False from f1).elim
 | ct γ=>exact(show False from f1).elim
structure FnP (P:K0d) (w:World) (K:K2) (mg:Str->Option Value) (base:Heap) (k:Nat) (x:Str) (n:Nat) (ks:List Str) (d1 d2:List D) (mf:List D->M D):Prop where
 ex:∃f fd ps g gV v1 v2,FnOk P w K mg base CX0 k f fd ps (spB K mf ps.length)/\KBinds K fd ps ks g gV/\K2l K (.ref f)=true/\mg x=.(r f)/\(∀vs zs:List V,vs.length=n->zs.length=ks.length->gV vs zs=vs++(v1++zs++v2)/\(gV vs zs).length=ps.length) /\
  ∀ρ H,RDs K ρ H d1 v1/\RDs K ρ H d2 v2
theorem FnR.pat {P:K0d}{w:World}{K:K2}{mg:Str->Option Value}{base:Heap}{k:Nat}{x:Str}{st:Stmt}{dk:Addr}{ps:List Str}{mf:List D->M D}(F:FnR P w K mg base k x st dk ps mf) (n:Nat) (ks:List Str) {d1 d2:List D}{v1 v2:List V}{u1 u2:List Value}
 (r1:Vals v1 u1) (r2:Vals v2 u2) (e1:∀ρ H,RDs K ρ H d1 v1) (e2:∀ρ H,RDs K ρ H d2 v2) (hp:0<ps.length) (hl:n+(u1.length+ks.length+u2.length)=ps.length)
 (hB:∀(doc pm:Value) (an:Option Addr) (cdv ct:Value) (s:Shared) (us ws:List Value),K.In s.heap->us.length=n->ws.length=ks.length->K8d s (K2b x x (z1k st) (z05 st) (j9 st) .none (.ref dk) doc pm an cdv ct) ⟨us,ks.zip ws⟩ (ps.zip (us++(u1++ws++u2)))):FnP P w K mg base k x n ks d1 d2 mf:=by
 obtain⟨f,doc,pm,an,cdv,ct,h1,h2,h3⟩:=F.ex;refine⟨f,_,ps,λus ws=>if us.length=n/\ws.length=ks.length then us++(u1++ws++u2) else [],λus ws=>if us.length=n/\ws.length=ks.length then us++(v1++ws++v2) else [],v1,v2,h1,⟨λs us ws X q=>?_,λ{vs us zs ws} a b=>?_⟩,h2,h3,λvs zs a b=>?_,λρ H=>⟨e1 ρ H,e2 ρ H⟩⟩
 ·split at q
  ·rename_i c;rw[if_pos c];exact hB doc pm an cdv ct s us ws X c.1 c.2
  ·rw[K0b]at q;omega
 ·rw[a.length,b.length];split
  ·exact a.append ((r1.append b).append r2)
  ·exact .nil
 ·dsimp only;rw[if_pos ⟨a,b⟩];refine⟨rfl,?_⟩;simp only[K04,r1.length,r2.length];omega
structure SK (X:Cx) (EX:XX) (kws:List K42) (m:G->M (List D)):Prop where
 h:PK X kws (tL X.K EX m)
theorem PK.imp {X:Cx}{e:List K42}{t t':TA}(h:PK X e t) (f:∀σ H Q,t' σ H Q->t σ H Q):PK X e t':=λpos pins s σ H Q I z=>h pos pins s σ H Q I (f σ H Q z)
section
variable {X:Cx}{a e:Expr}{es:List Expr}{kws:List K42}{pos p kpos:Pos}{mr mk:G->M (List D)}{ma:G->M D}{nm:Option Str}{EX:XX}
theorem zO0:SK X EX [] aNil:=⟨PK.imp zM1 λσ H Q ⟨ρ,γ,h,rel,fin⟩=>fin ρ H (Pre.refl _) (Ext.refl _ _) rel.h [] RDs.nil⟩
def eFnP (n q:Nat) (d1 d2:List D) (mf:List D->M D) (mr mk:G->M (List D)):G->M D:=λγ=>do
 let xs <- mr γ;let zs <- mk γ
 if xs.length=n/\zs.length=q then mf (xs++(d1++zs++d2)) else bad
theorem zf4 {k n q:Nat}{x:Str}{ks:List Str}{d1 d2:List D}{mf:List D->M D}(F:FnP X.prog X.w X.K X.mg X.base k x n ks d1 d2 mf) (hr:Room k X.A) (hg:Gl X x) (ha:SA X EX0 (a::es) mr) (hk:SK X EX0 kws mk)
 (hall:(K4f pos (K2x kws X.env)).all (·.1.isSome)=true:=by rfl) (hks:(K4f pos (K2x kws X.env)).filterMap (·.1)=ks:=by rfl)
 (hdb:(x==("__debug__":Str))=false:=by decide) (he:K05 (a::es) X.env=(false,eval a X.env)::K05 es X.env:=by rfl)
 (hpl:((backTo pos (K05 (a::es) X.env)).any (·.1)||(K4f pos (K2x kws X.env)).any (·.1.isNone))=false:=by rfl) (hq:ks.length=q:=by rfl):SE X EX0 (.Call (.Name x p) (a::es) kws pos) (eFnP n q d1 d2 mf mr mk):=by
 subst hq;constructor;obtain⟨f,fd,ps,g,gV,v1,v2,h1,h2,h3,h4,h5,h6⟩:=F.ex;refine PE.imp (zb6 h1 hr hg h4 h3 h2 zE3 ha.h hk.h hall hks hdb he hpl) λσ H Q ⟨ρ,γ,h,rel,fin⟩=>⟨ρ,γ,h,rel,(Fin.bind fin).mono λxs ρ1 h1 H1 p1 e1 r1 f1 vs rvs=>⟨ρ1,γ,h1,⟨rel.g.mono p1 e1,r1⟩,(Fin.bind f1).mono λzs ρ2 h2 H2 p2 e2 r2 f2 us rus=>?_⟩⟩;show spB X.K mf ps.length (gV vs us) H2 Q E0;by_cases c:xs.length=n/\zs.length=ks.length
 ·rw[if_pos c]at f2;have l1:=rvs.length;have l2:=rus.length;obtain⟨q1,q2⟩:=h5 vs us (by omega) (by omega);refine⟨q2,ρ2,_,h2,r2,?_,f2⟩;rw[q1];exact(rvs.mono p2 e2).append (((h6 ρ2 H2).1.append rus).append (h6 ρ2 H2).2)
 ·rw[if_neg c]at f2;exact(show False from f2).elim
end
theorem ze0 {K:K2}:∀ρ H,RDs K ρ H [] []:=λ_ _=>RDs.nil
theorem ze7 {K:K2}{dk:Addr}{x:Str}{d:D}{v:V}{u:Value}(h:KD K dk x d v u):∀ρ H,RDs K ρ H [d] [v]:=λρ H=>RDs.cons (h.rd ρ H) RDs.nil
end FT
namespace L2
open PySem.AutoSeq1 (wpAny_loadPart')
section
variable {prog:K0d}{w:World}{A:Around}{E:Value->Shared->Prop}{s:Shared}
theorem z4s {Q:List Value->Shared->Prop}{r:Addr}{a b c:Int}{t u v:Tok}{n:Nat}(hh:A.handled=none) (hr:Z0b s.heap r a b c t u v) (hsmall:K4y a b c=true)
 (hn:K38 a b c=n) (hlen:n<=2 ^ 24)
 (hQ:∀h' tk (acc:Array Value),(∀b o,s.heap.get? b=some o->h'.get? b=some o)->Z0a (λi v=>∃t,v=.int (a+i * c) t) acc n->Q acc.toList { s with heap:=h',toks:=tk }):wpAny (model prog w) A (collect (.ref r)) Q E s:=by
 unfold collect;refine K1 (K75 (K2e PySem.F.entry_proto_collect ?_));rw[K1v PySem.F.plain_proto_collect _];show wpAny _ A.in1 (newList [] >>= λl=>again (.builtin "list.__iadd__" ⟨[l,.ref r],[]⟩)) _ _ s;refine K1 (K12 ?_);refine K6 ⟨K4k K4s _,K2e PySem.F.entry_list_iadd ?_⟩;rw[K1v K4s _];show wpAny _ A.in1 (K4o (.ref s.heap.objs.size) (.ref r) (.ref s.heap.objs.size)) _ _ _;have hS:(s.heap.push { cls:=.type "list",data:=.seq ([]:List Value).toArray }).get? s.heap.objs.size=some { cls:=.type "list",data:=.seq #[] }:=K03 _ rfl;refine K4a (wpAny_extend_range (A:=A) (R:=λrs s'=>rs=.ok (.ret (.ref s.heap.objs.size))/\∃h' tk acc' c',s'={ s with heap:=h',toks:=tk }/\(∀b o,s.heap.get? b=some o->h'.get? b=some o)/\h'.get? s.heap.objs.size=some { cls:=.type "list",dict:=none,data:=.seq acc' c',slots:=#[] }/\Z0a (λi v=>∃t,v=.int (a+i * c) t) acc' n)
  hh (K3 _ hr) hsmall hn hlen s.heap.objs.size (.ref s.heap.objs.size) _ hS λh' tk acc' c' hk hS' hacc=>⟨rfl,h',tk,acc',c',rfl,λb o e=>hk b o (K0g (K02 e)) (K3 _ e),hS',hacc⟩) (λfin s' h=>?_) (λe s' h=>?_)
 ·have fin':∀s',(∃h' tk acc' c',s'={ s with heap:=h',toks:=tk }/\(∀b o,s.heap.get? b=some o->h'.get? b=some o)/\h'.get? s.heap.objs.size=some { cls:=.type "list",dict:=none,data:=.seq acc' c',slots:=#[] }/\Z0a (λi v=>∃t,v=.int (a+i * c) t) acc' n)->wpAny (model prog w) A (match K1s s.heap.objs.size with
   | K1s a=>do
    match (<- load a).data with
     | Z19 xs _=>pure xs.toList
     | _=>Z0y "internal:collect"
   | _=>Z0y "internal:collect") Q E s':=λs' ⟨h',tk,acc',c',e,k,hS',hacc⟩=>by
   subst e;show wpAny _ A (load s.heap.objs.size >>= _) _ _ _;refine K1 (wpAny_load hS' ?_);exact K6 (hQ h' tk acc' k hacc)
  cases fin with
  | done f =>
   obtain⟨e,h⟩:=h;cases e;exact fin' s' h
  | again c'=>exact⟨h.1,K4v h.2 λrs s'' hr=>by obtain⟨rfl,h⟩:=hr;exact fin' s'' h⟩
 ·exact absurd h.1 (by simp)
end
theorem z2Y (r:Addr) (a b c:Int) (t u v:Tok) (n:Nat) (hsmall:K4y a b c=true) (hn:K38 a b c=n) (hlen:n<=2 ^ 24) :
 Meets (Builtin.«tuple.__new__» ⟨[.type "tuple",.ref r],[]⟩)
  (λA R s=>A.handled=none/\Z0b s.heap r a b c t u v/\∀(h':Heap) (tk:Nat) (acc:Array Value),(∀b o',s.heap.get? b=some o'->h'.get? b=some o')->Z0a (λi v=>∃t,v=.int (a+i * c) t) acc n->R (.ok (.ret (.ref h'.objs.size))) { s with heap:=h'.push { cls:=.type "tuple",data:=.seq acc },toks:=tk }) :=
 .of_wp λprog w A R s h=>by
  obtain⟨hp,g,d,tk,os⟩:=s;obtain⟨hh,hr,h⟩:=h;have hsub:=sub_tuple_self;have hinit:=init_tuple_lookup;have hmh:=madeHere_tuple;have hT:K6h ⟨hp,g,d,tk,os⟩ (.ref r) "range":=⟨_,hr,rfl⟩;have hh1:A.in1.handled=none:=hh
  wp_walk using K18 hr,K4b hT,z4s hh1 hr hsmall hn hlen
  intro h' tk' acc hk hacc;show wpAny _ _ (K19 acc.toList.toArray >>= λv=>ret v) _ _ _;unfold K19;refine K1 (K12 ?_ (show acc.toList.toArray.size<=sizeLine by simp only[Array.toArray_toList];rw[hacc.1,K95];omega));refine K6 ⟨_,rfl,?_⟩;have e:acc.toList.toArray=acc:=by simp
  rw[e];exact h h' tk' acc hk hacc
theorem z3e {prog:K0d}{w:World}{A:Around}{E:Value->Shared->Prop}{s:Shared}{Q:Value->Shared->Prop}{r:Addr}{a b c:Int}{t u v:Tok}{n:Nat}(hh:A.handled=none) (hr:Z0b s.heap r a b c t u v) (hsmall:K4y a b c=true)
 (hn:K38 a b c=n) (hlen:n<=2 ^ 24)
 (h:∀(h':Heap) (tk:Nat) (acc:Array Value),(∀b o',s.heap.get? b=some o'->h'.get? b=some o')->Z0a (λi v=>∃t,v=.int (a+i * c) t) acc n->Q (.ref h'.objs.size) { s with heap:=h'.push { cls:=.type "tuple",data:=.seq acc },toks:=tk }) :
 wpAny (model prog w) A (call (.type "tuple") [.ref r]) Q E s :=
 Z0g PySem.F.called_tuple (by decide) (PySem.F.typeCall_tuple_1 _) (PySem.F.newCall_tuple_1 _) (λobj=>K78 obj _) PySem.F.entry_tuple_new
  (z2Y r a b c t u v n hsmall hn hlen) ⟨hh,hr,λh' tk acc hk hacc=>⟨⟨_,K03 _ rfl,rfl⟩,h h' tk acc hk hacc⟩⟩
def rngO (p:Addr) (n:Int):HO:=.ext λh=>∃t u v,Z0b h p 0 n 1 t u v
theorem zC5 {P:K0d}{w:World}{H:Hp}{h:Heap}{p:Addr}{n:Int}{t u v:Tok}(e:Z0b h p 0 n 1 t u v):ObjOk P w H h p (rngO p n) :=
 ⟨⟨t,u,v,e⟩,⟨_,e⟩,λh1 h2 ⟨t,u,v,e⟩ k=>⟨t,u,v,k _ e⟩⟩
def z5R (n:Nat):List V:=(K0h n).map λ(i:Nat)=>V.int i
theorem z7D {acc:Array Value}{n:Nat}(h:Z0a (λi v=>∃t,v=K70 (0+i * 1) t) acc n):Vals (z5R n) acc.toList:=by
 obtain⟨hs,hi⟩:=h;have:∀(xs:List Value) (k:Nat),(∀j v,xs[j]?=some v->∃t,v=K70 (0+((k+j:Nat):Int) * 1) t)->Vals ((K92 k xs.length).map λ(i:Nat)=>V.int i) xs:=by
  intro xs;induction xs with
  | nil=>intro k _;exact .nil
  | cons x r ih =>
   intro k hk;rw[K07,K7z,K0i];refine .cons ?_ (ih (k+1) λj v e=>?_)
   ·obtain⟨t,rfl⟩:=hk 0 x rfl;exact⟨t,by simp⟩
   ·obtain⟨t,rfl⟩:=hk (j+1) v (by simpa using e);exact⟨t,by congr 3;omega⟩
 have q:=this acc.toList 0 (λj v e=>by
  obtain⟨t,rfl⟩:=hi j v (by simpa using e);exact⟨t,by simp⟩)
 unfold z5R;rw[K97,<- hs];simpa using q
section
variable {X:Cx}
theorem zd0:z2B X (.type "range") (λxs H Q=>∃j,xs=[.int j]/\∀p,H p=none->Q (.ref p) (upd H p (rngO p j))):=by
 intro pins s σ H xs us Q I r h;obtain⟨j,rfl,q⟩:=h;obtain⟨u,rfl,ru⟩:=vals1 r;obtain⟨t,rfl⟩:=ru;refine call_range_1 ⟨.ref s.heap.objs.size,_,I.laid (o:=rngO s.heap.objs.size j) (λb ob q=>K3 _ q) (K01 _) (zC5 (K03 _ rfl)),rfl,q _ (I.hok.fresh (K01 _))⟩
theorem zM5 {pins:List (Addr×Obj)}{σ:St}{H:Hp}{s:Shared}{p:Addr}{j:Int}(I:Inv X pins σ H s) (e:H p=some (rngO p j)):∃t u v,Z0b s.heap p 0 j 1 t u v:=(I.hok p _ e).1
theorem zu4 {j:Int}(h1:-(2 ^ 62)<=j) (h2:j<2 ^ 62):K4y 0 j 1=true:=small_one (by omega) (by omega) h1 h2
theorem zB0 (j:Int):K38 0 j 1=(j.toNat:Int):=by rw[rangeSize_one];split<;>omega
theorem z86 (hc:X.calm=true):z2B X (.type "tuple") (λxs H Q=>∃p j,xs=[.ref p]/\H p=some (rngO p j)/\-(2 ^ 62)<=j/\j<2 ^ 62/\j.toNat<=sizeLine/\∀l,H l=none->Q (.ref l) (upd H l (.tup (z5R j.toNat)))):=by
 intro pins s σ H xs us Q I r h;obtain⟨p,j,rfl,e,h1,h2,hl,q⟩:=h;obtain⟨u,rfl,ru⟩:=vals1 r;cases ru;obtain⟨t,u,v,hr⟩:=zM5 I e;have l4:(sizeLine:Nat)<=2 ^ 24:=by decide
 refine z3e (n:=j.toNat) (I.ok.hd hc) hr (zu4 h1 h2) (zB0 j) (by omega) λh' tk acc kp hacc=>?_;have hv:=z7D hacc;have I1:Inv X pins σ H { s with heap:=h',toks:=tk }:=I.kept kp;refine⟨.ref h'.objs.size,_,I1.laid (t':=tk) (o:=.tup (z5R j.toNat)) (λb ob z=>K3 _ z) (K01 _) ⟨by unfold z5R;simpa using hl,acc.toList,hv,?_⟩,rfl,q _ (I1.hok.fresh (K01 _))⟩;have:acc.toList.toArray=acc:=by simp
 rw[this];exact FT.IsTup0.new _ _
end
end L2
namespace FT
def eRng (tup:Bool) (ma:G->M D):G->M D:=λγ=>do
 let x <- ma γ
 match x with
 | .int j=>if decide (-(2 ^ 62)<=j)&&decide (j<2 ^ 62)&&decide (j.toNat<=sizeLine) then (if tup then pure (.tup (z1h j.toNat)) else newL (z1h j.toNat)) else bad
 | _=>bad
theorem z8w {K:K2}{ρ:List Addr}{H:Hp}{ι:Type}{f:ι->D}{g:ι->V}:∀(l:List ι),(∀i,RD K ρ H (f i) (g i))->RDs K ρ H (l.map f) (l.map g)
 | [],_=>RDs.nil
 | x::r,h=>RDs.cons (h x) (z8w r h)
theorem z87 {K:K2}{ρ:List Addr}{H:Hp}(n:Nat):RDs K ρ H (z1h n) (z5R n):=by
 unfold z1h z5R;exact z8w _ λi=>by simp[RD]
section
variable {X:Cx}{EX:XX}{a:Expr}{p p2 pos pos2:Pos}{ma:G->M D}
theorem zq4 (hc:X.calm=true) (hg:Gl X "tuple") (hm:X.mg "tuple" = none) (hg2:Gl X "range") (hm2:X.mg "range" = none) (ha:SE X EX a ma) (he:K05 [a] X.env=[(false,eval a X.env)]:=by rfl)
 (he2:K05 [.Call (.Name "range" p2) [a] [] pos2] X.env=[(false,eval (.Call (.Name "range" p2) [a] [] pos2) X.env)]:=by rfl):SE X EX (.Call (.Name "tuple" p) [.Call (.Name "range" p2) [a] [] pos2] [] pos) (eRng true ma) :=
 ⟨PE.imp (z1f (z86 hc) hg hm (by decide +kernel) (z1B (z1f zd0 hg2 hm2 (by decide +kernel) (z1B ha.h z2N he) (by decide) (by decide) he rfl) z2N he2) (by decide) (by decide) he2 rfl) λσ H Q ⟨ρ,γ,h,rel,fin⟩=>⟨ρ,γ,h,rel,(Fin.bind fin).mono λx ρ1 h1 H1 p1 e1 r1 f1 v rv=>by
  cases x<;>first|exact(show False from f1).elim|skip
  rename_i j;simp only[RD]at rv;subst rv;dsimp only at f1;split at f1
  ·rename_i c;simp only[K0f,decide_eq_true_eq]at c;rw[if_pos rfl]at f1;refine⟨j,rfl,λq hq=>⟨q,j,rfl,z02,c.1.1,c.1.2,c.2,λl hl=>?_⟩⟩;exact FE.tup (Fin.up (Pre.refl _) (Ext.upd (.inl hq)) f1) (r1.other hq) (z87 _) hl
  ·exact f1.elim⟩⟩
end
inductive Vw where
 | flat (d:D)|tup (xs:List D)|lst (xs:List D)|no
def vw (h:AH):D->Vw
 | .tup xs=>.tup xs
 | .fl xs=>.lst xs
 | .ref i=>match h[i]? with
  | .(l xs)=>.lst xs
  | _=>.no
 | d=>.flat d
def eqZ (f:D->D->Option Bool):List D->List D->Option Bool
 | [],[]=>some true
 | x::xs,y::ys=>match f x y,eqZ f xs ys with
  | some a,some b=>some (a&&b)
  | _,_=>none
 | _,_=>some false
def eqN:Nat->AH->D->D->Option Bool
 | 0,_,_,_=>none
 | n+1,h,x,y=>match vw h x,vw h y with
  | .flat a,.flat b=>some (eqF a b)
  | .tup xs,.tup ys=>eqZ (eqN n h) xs ys
  | .lst xs,.lst ys=>eqZ (eqN n h) xs ys
  | .no,_=>none
  | _,.no=>none
  | _,_=>some false
def eqE (f:D->D->Option Bool) (xs ys:List D) (j:Nat):Bool:=(f (xs.getD j .non) (ys.getD j .non)).getD false
theorem z4G {f:D->D->Option Bool}:∀{xs ys:List D}{b:Bool},eqZ f xs ys=some b ->
 (∀j x y,xs[j]?=some x->ys[j]?=some y->f x y=some (eqE f xs ys j))/\b=((K0h (min xs.length ys.length)).all (eqE f xs ys)&&xs.length==ys.length)
 | [],[],b,h=>by
  unfold eqZ at h;cases h;exact⟨λj x y e=>by simp at e,by simp⟩
 | [],y::ys,b,h=>by
  unfold eqZ at h;cases h;exact⟨λj x y e=>by simp at e,by simp⟩
 | x::xs,[],b,h=>by
  unfold eqZ at h;cases h;exact⟨λj x y _ e=>by simp at e,by simp⟩
 | x::xs,y::ys,b,h=>by
  unfold eqZ at h;split at h
  ·rename_i a c e1 e2;cases h;obtain⟨q1,q2⟩:=z4G e2;refine⟨λj p q ep eq=>?_,?_⟩
   ·cases j with
    | zero=>simp at ep eq;subst ep;subst eq;unfold eqE;simp[e1]
    | succ j=>simpa [eqE] using q1 j p q (by simpa using ep) (by simpa using eq)
   ·rw[q2];have:min (x::xs).length (y::ys).length=min xs.length ys.length+1:=by simp
    rw[this,List.range_succ_eq_map,K50,Z05,<- Bool.and_assoc];congr 1
    ·unfold eqE;simp[e1,Z07]
    ·simp
  ·cases h
section
variable {K:K2}{ρ:List Addr}{h:AH}{H:Hp}
theorem z24 {d a:D}(e:vw h d=.flat a):a=d/\z16 d=true:=by
 cases d<;>simp[vw]at e<;>first|(subst e;exact⟨rfl,rfl⟩)|skip
 split at e<;>cases e
theorem z3b {d:D}{xs:List D}{v:V}(e:vw h d=.tup xs) (r:RD K ρ H d v):∃a vs,v=.ref a/\SqT K H a vs/\RDs K ρ H xs vs:=by
 cases d<;>simp[vw]at e
 ·subst e;simpa [RD] using r
 ·split at e<;>cases e
theorem z38 {d:D}{xs:List D}{v:V}(rh:RH K ρ h H) (e:vw h d=.lst xs) (r:RD K ρ H d v):∃a vs,v=.ref a/\SqL K H a vs/\RDs K ρ H xs vs:=by
 cases d<;>simp[vw]at e
 ·subst e;simp only[RD]at r;obtain⟨a,vs,h1,h2,h3⟩:=r;exact⟨a,vs,h1,h2.sq,h3⟩
 ·split at e
  ·rename_i i xs' ei;cases e;simp only[RD]at r;obtain⟨a,h1,h2⟩:=r;obtain⟨a',h3,vs,h4,h5⟩:=rh.at ei;rw[h2]at h3;cases h3;exact⟨a,vs,h1,SqL.of h4,h5⟩
  ·cases e
end
section
variable {X:Cx}{pins:List (Addr×Obj)}{σ:L2.St}{ρ:List Addr}{h:AH}{H:Hp}{s:Shared}
theorem z4A {K:K2}{a:Addr}:∀{d:D},z16 d=true->RD K ρ H d (.ref a)->False
 | .non,_,r=>by simp[RD]at r
 | .bl _,_,r=>by simp[RD]at r
 | .int _,_,r=>by simp[RD]at r
 | .str _,_,r=>by simp[RD]at r
 | .tup _,f,_=>by cases f
 | .fl _,f,_=>by cases f
 | .ref _,f,_=>by cases f
theorem zc5:∀{d:D},z16 d=true->eqF d d=true
 | .non,_=>rfl
 | .bl _,_=>by simp[eqF]
 | .int _,_=>by simp[eqF]
 | .str _,_=>by simp[eqF]
 | .tup _,f=>by cases f
 | .fl _,f=>by cases f
 | .ref _,f=>by cases f
def flV:D->V
 | .bl b=>.bl b
 | .int i=>.int i
 | .str x=>.str x
 | _=>.non
theorem z47 {K:K2}:∀{d:D}{v:V},z16 d=true->RD K ρ H d v->v=flV d
 | .non,_,_,r=>by simp only[RD]at r;exact r
 | .bl _,_,_,r=>by simp only[RD]at r;exact r
 | .int _,_,_,r=>by simp only[RD]at r;exact r
 | .str _,_,_,r=>by simp only[RD]at r;exact r
 | .tup _,_,f,_=>by cases f
 | .fl _,_,f,_=>by cases f
 | .ref _,_,f,_=>by cases f
theorem zz6:∀{a b:D},z16 a=true->z16 b=true->flV a=flV b->a=b
 | .non,.non,_,_,_=>rfl
 | .bl _,.bl _,_,_,e=>by cases e;rfl
 | .int _,.int _,_,_,e=>by cases e;rfl
 | .str _,.str _,_,_,e=>by cases e;rfl
 | .non,.bl _,_,_,e=>by cases e
 | .non,.int _,_,_,e=>by cases e
 | .non,.str _,_,_,e=>by cases e
 | .bl _,.non,_,_,e=>by cases e
 | .bl _,.int _,_,_,e=>by cases e
 | .bl _,.str _,_,_,e=>by cases e
 | .int _,.non,_,_,e=>by cases e
 | .int _,.bl _,_,_,e=>by cases e
 | .int _,.str _,_,_,e=>by cases e
 | .str _,.non,_,_,e=>by cases e
 | .str _,.bl _,_,_,e=>by cases e
 | .str _,.int _,_,_,e=>by cases e
 | .tup _,_,f,_,_=>by cases f
 | .fl _,_,f,_,_=>by cases f
 | .ref _,_,f,_,_=>by cases f
 | _,.tup _,_,f,_=>by cases f
 | _,.fl _,_,f,_=>by cases f
 | _,.ref _,_,f,_=>by cases f
theorem list_inj {a:Addr}{xs ys:List V}(I:Inv X pins σ H s) (h1:SqL X.K H a xs) (h2:SqL X.K H a ys):xs=ys:=by
 obtain⟨its,r,⟨o,n,e,_,_,d⟩,_⟩:=I.list h1;obtain⟨its',r',⟨o',n',e',_,_,d'⟩,_⟩:=I.list h2;rw[e]at e';cases e';rw[d]at d';injection d' with d1 _
 have:its=its':=by simpa using congrArg Z04 d1
 subst this;exact r.inj r'
theorem z6m (I:Inv X pins σ H s) (rh:RH X.K ρ h H):∀(n:Nat) {d1 d2:D}{v:V}{b:Bool},RD X.K ρ H d1 v->RD X.K ρ H d2 v->eqN n h d1 d2=some b->b=true
 | 0,d1,d2,v,b,_,_,e=>by cases e
 | n+1,d1,d2,v,b,r1,r2,e=>by
  have elems:∀{xs ys:List D} {vs:List V},RDs X.K ρ H xs vs->RDs X.K ρ H ys vs->eqZ (eqN n h) xs ys=some b->b=true:=λ{xs ys vs} q1 q2 z=>by
   obtain⟨z1,z2⟩:=z4G z;have l1:=q1.length;have l2:=q2.length;rw[z2,K0f,K1z];refine⟨λj hj=>?_,by simp;omega⟩;have hj':j<xs.length:=by simp at hj;omega
   have e1:xs[j]?=some xs[j]:=K5 hj';have e2:ys[j]?=some ys[j]:=K5 (by omega);obtain⟨w1,a1,a2⟩:=q1.get e1;obtain⟨w2,b1,b2⟩:=q2.get e2;rw[a1]at b1;cases b1;exact z6m I rh n a2 b2 (z1 j _ _ e1 e2)
  unfold eqN at e;have nl:∀{a:Addr} {vs ws:List V},SqT X.K H a vs->SqL X.K H a ws->False:=λ{a vs ws} t1 t2=>by
   obtain⟨its,_,p1,_⟩:=I.tuple t1;obtain⟨its2,_,p2,_⟩:=I.list t2;exact SeqAt.ne_of_list_tuple p2.isList (show s.heap.IsTuple a its.toArray from p1) rfl
  cases e1:vw h d1 with
  | no=>rw[e1]at e;cases e2:vw h d2<;>rw[e2]at e<;>cases e
  | flat a =>
   rw[e1]at e;obtain⟨rfl,f1⟩:=z24 e1;cases e2:vw h d2 with
   | no=>rw[e2]at e;cases e
   | flat c =>
    rw[e2]at e;obtain⟨rfl,f2⟩:=z24 e2;cases e;have:=zz6 f1 f2 ((z47 f1 r1).symm.trans (z47 f2 r2));subst this;exact zc5 f1
   | tup ys=>obtain⟨a',vs,rfl,_,_⟩:=z3b e2 r2;exact(z4A f1 r1).elim
   | lst ys=>obtain⟨a',vs,rfl,_,_⟩:=z38 rh e2 r2;exact(z4A f1 r1).elim
  | tup xs =>
   rw[e1]at e;obtain⟨a,vs,rfl,t1,q1⟩:=z3b e1 r1;cases e2:vw h d2 with
   | no=>rw[e2]at e;cases e
   | flat c=>obtain⟨rfl,f2⟩:=z24 e2;exact(z4A f2 r2).elim
   | tup ys =>
    rw[e2]at e;obtain⟨a',ws,ea,t2,q2⟩:=z3b e2 r2;cases ea;have:=I.tuple_inj t1 t2;subst this;exact elems q1 q2 e
   | lst ys =>
    obtain⟨a',ws,ea,t2,q2⟩:=z38 rh e2 r2;cases ea;exact(nl t1 t2).elim
  | lst xs =>
   rw[e1]at e;obtain⟨a,vs,rfl,t1,q1⟩:=z38 rh e1 r1;cases e2:vw h d2 with
   | no=>rw[e2]at e;cases e
   | flat c=>obtain⟨rfl,f2⟩:=z24 e2;exact(z4A f2 r2).elim
   | lst ys =>
    rw[e2]at e;obtain⟨a',ws,ea,t2,q2⟩:=z38 rh e2 r2;cases ea;have:=list_inj I t1 t2;subst this;exact elems q1 q2 e
   | tup ys =>
    obtain⟨a',ws,ea,t2,q2⟩:=z3b e2 r2;cases ea;exact(nl t2 t1).elim
open SeqAt in
theorem mixT {A:Around}{u:Value}{d:D}{v:V}{K:K2}{a:Addr}{its:Array Value}(f:z16 d=true) (r:RD K ρ H d v) (ru:RelV v u) (p:s.heap.IsTuple a its) (hu:A.units<cLine):EqAt A s u (.ref a) false/\EqAt A s (.ref a) u false/\RcAt A s u (.ref a) false/\RcAt A s (.ref a) u false/\RcNeAt A s u (.ref a) true/\RcNeAt A s (.ref a) u true:=by
 have:=z47 f r;subst this;cases d with
 | non=>cases ru;exact⟨.none_tuple p hu,.tuple_none p hu,.none_tuple p hu,.tuple_none p hu,.none_tuple p hu,.tuple_none p hu⟩
 | bl b=>cases ru;exact⟨.bool_tuple b p hu,.tuple_bool b p hu,.bool_tuple b p hu,.tuple_bool b p hu,.bool_tuple b p hu,.tuple_bool b p hu⟩
 | int i=>obtain⟨t,rfl⟩:=ru;exact⟨.int_tuple i t p hu,.tuple_int i t p hu,.int_tuple i t p hu,.tuple_int i t p hu,.int_tuple i t p hu,.tuple_int i t p hu⟩
 | str x=>obtain⟨t,rfl⟩:=ru;exact⟨.str_tuple x t p hu,.tuple_str x t p hu,.str_tuple x t p hu,.tuple_str x t p hu,.str_tuple x t p hu,.tuple_str x t p hu⟩
 | tup _=>cases f
 | fl _=>cases f
 | ref _=>cases f
open SeqAt in
theorem mixL {A:Around}{u:Value}{d:D}{v:V}{K:K2}{a:Addr}{its:Array Value}(f:z16 d=true) (r:RD K ρ H d v) (ru:RelV v u) (p:s.heap.IsList a its) (hu:A.units<cLine):EqAt A s u (.ref a) false/\EqAt A s (.ref a) u false/\RcAt A s u (.ref a) false/\RcAt A s (.ref a) u false/\RcNeAt A s u (.ref a) true/\RcNeAt A s (.ref a) u true:=by
 have:=z47 f r;subst this;cases d with
 | non=>cases ru;exact⟨.none_list p hu,.list_none p hu,.none_list p hu,.list_none p hu,.none_list p hu,.list_none p hu⟩
 | bl b=>cases ru;exact⟨.bool_list b p hu,.list_bool b p hu,.bool_list b p hu,.list_bool b p hu,.bool_list b p hu,.list_bool b p hu⟩
 | int i=>obtain⟨t,rfl⟩:=ru;exact⟨.int_list i t p hu,.list_int i t p hu,.int_list i t p hu,.list_int i t p hu,.int_list i t p hu,.list_int i t p hu⟩
 | str x=>obtain⟨t,rfl⟩:=ru;exact⟨.str_list x t p hu,.list_str x t p hu,.str_list x t p hu,.list_str x t p hu,.str_list x t p hu,.list_str x t p hu⟩
 | tup _=>cases f
 | fl _=>cases f
 | ref _=>cases f
open SeqAt in
theorem zT2 {A:Around}{u1 u2:Value}:∀(d1 d2:D),z16 d1=true->z16 d2=true->RelV (flV d1) u1->RelV (flV d2) u2->EqAt A s u1 u2 (eqF d1 d2)/\RcAt A s u1 u2 (eqF d1 d2)/\RcNeAt A s u1 u2 (!(eqF d1 d2))
 | .non,.non,_,_,r1,r2=>by cases r1;cases r2;exact⟨EqAt.same _,RcAt.none_none,RcNeAt.none_none⟩
 | .non,(.bl b),_,_,r1,r2=>by cases r1;cases r2;exact⟨EqAt.none_bool b,RcAt.none_bool b,RcNeAt.none_bool b⟩
 | .non,(.int b),_,_,r1,r2=>by cases r1;obtain⟨t2,rfl⟩:=r2;exact⟨EqAt.none_int b t2,RcAt.none_int b t2,RcNeAt.none_int b t2⟩
 | .non,(.str b),_,_,r1,r2=>by cases r1;obtain⟨t2,rfl⟩:=r2;exact⟨EqAt.none_str b t2,RcAt.none_str b t2,RcNeAt.none_str b t2⟩
 | (.bl a),.non,_,_,r1,r2=>by cases r1;cases r2;exact⟨EqAt.bool_none a,RcAt.bool_none a,RcNeAt.bool_none a⟩
 | (.bl a),(.bl b),_,_,r1,r2=>by cases r1;cases r2;exact⟨EqAt.bool_bool a b,RcAt.bool_bool a b,RcNeAt.bool_bool a b⟩
 | (.bl a),(.int b),_,_,r1,r2=>by cases r1;obtain⟨t2,rfl⟩:=r2;exact⟨EqAt.bool_int a b t2,RcAt.bool_int a b t2,RcNeAt.bool_int a b t2⟩
 | (.bl a),(.str b),_,_,r1,r2=>by cases r1;obtain⟨t2,rfl⟩:=r2;exact⟨EqAt.bool_str a b t2,RcAt.bool_str a b t2,RcNeAt.bool_str a b t2⟩
 | (.int a),.non,_,_,r1,r2=>by obtain⟨t1,rfl⟩:=r1;cases r2;exact⟨EqAt.int_none a t1,RcAt.int_none a t1,RcNeAt.int_none a t1⟩
 | (.int a),(.bl b),_,_,r1,r2=>by obtain⟨t1,rfl⟩:=r1;cases r2;exact⟨EqAt.int_bool a t1 b,RcAt.int_bool a t1 b,RcNeAt.int_bool a t1 b⟩
 | (.int a),(.int b),_,_,r1,r2=>by obtain⟨t1,rfl⟩:=r1;obtain⟨t2,rfl⟩:=r2;exact⟨EqAt.int_int a t1 b t2,RcAt.int_int a t1 b t2,RcNeAt.int_int a t1 b t2⟩
 | (.int a),(.str b),_,_,r1,r2=>by obtain⟨t1,rfl⟩:=r1;obtain⟨t2,rfl⟩:=r2;exact⟨EqAt.int_str a t1 b t2,RcAt.int_str a t1 b t2,RcNeAt.int_str a t1 b t2⟩
 | (.str a),.non,_,_,r1,r2=>by obtain⟨t1,rfl⟩:=r1;cases r2;exact⟨EqAt.str_none a t1,RcAt.str_none a t1,RcNeAt.str_none a t1⟩
 | (.str a),(.bl b),_,_,r1,r2=>by obtain⟨t1,rfl⟩:=r1;cases r2;exact⟨EqAt.str_bool a t1 b,RcAt.str_bool a t1 b,RcNeAt.str_bool a t1 b⟩
 | (.str a),(.int b),_,_,r1,r2=>by obtain⟨t1,rfl⟩:=r1;obtain⟨t2,rfl⟩:=r2;exact⟨EqAt.str_int a t1 b t2,RcAt.str_int a t1 b t2,RcNeAt.str_int a t1 b t2⟩
 | (.str a),(.str b),_,_,r1,r2=>by obtain⟨t1,rfl⟩:=r1;obtain⟨t2,rfl⟩:=r2;exact⟨EqAt.str_str a t1 b t2,RcAt.str_str a t1 b t2,RcNeAt.str_str a t1 b t2⟩
 | .tup _,_,f,_,_,_=>by cases f
 | .fl _,_,f,_,_,_=>by cases f
 | .ref _,_,f,_,_,_=>by cases f
 | _,.tup _,_,f,_,_=>by cases f
 | _,.fl _,_,f,_,_=>by cases f
 | _,.ref _,_,f,_,_=>by cases f
open SeqAt in
theorem deq (I:Inv X pins σ H s) (rh:RH X.K ρ h H):∀(n:Nat) {A:Around}{d1 d2:D}{v1 v2:V}{u1 u2:Value}{b:Bool},A.units+n<cLine->RD X.K ρ H d1 v1->RD X.K ρ H d2 v2->RelV v1 u1->RelV v2 u2->eqN n h d1 d2=some b->EqAt A s u1 u2 b/\RcAt A s u1 u2 b/\RcNeAt A s u1 u2 (!b)
 | 0,A,d1,d2,v1,v2,u1,u2,b,_,_,_,_,_,e=>by cases e
 | n+1,A,d1,d2,v1,v2,u1,u2,b,hA,r1,r2,w1,w2,e=>by
  have hu:A.units<cLine:=by omega
  have e0:=e;unfold eqN at e;have elems:∀{xs ys:List D} {vs ws:List V} {its its2:List Value},RDs X.K ρ H xs vs->RDs X.K ρ H ys ws->Vals vs its->Vals ws its2->eqZ (eqN n h) xs ys=some b ->
   (∀j (h1:j<its.toArray.size) (h2:j<its2.toArray.size),EqAt A.in1 s its.toArray[j] its2.toArray[j] (eqE (eqN n h) xs ys j))/\b=((K0h (min its.toArray.size its2.toArray.size)).all (eqE (eqN n h) xs ys)&&its.toArray.size==its2.toArray.size):=λ{xs ys vs ws its its2} q1 q2 a1 a2 z=>by
   obtain⟨z1,z2⟩:=z4G z;have l1:=q1.length;have l2:=q2.length;have l3:=a1.length;have l4:=a2.length;refine⟨λj h1 h2=>?_,by rw[z2,K9,K9,<- l3,<- l4,<- l1,<- l2]⟩;have j1:j<xs.length:=by rw[K9]at h1;omega
   have j2:j<ys.length:=by rw[K9]at h2;omega
   have e1:xs[j]?=some xs[j]:=K5 j1;have e2:ys[j]?=some ys[j]:=K5 j2;obtain⟨x1,b1,c1⟩:=q1.get e1;obtain⟨x2,b2,c2⟩:=q2.get e2;obtain⟨y1,b3,c3⟩:=a1.get b1;obtain⟨y2,b4,c4⟩:=a2.get b2;have g1:its.toArray[j]=y1:=by
    have:=K5 (l:=its) (i:=j) (by simpa using h1);rw[b3]at this;simpa using(K1d this).symm
   have g2:its2.toArray[j]=y2:=by
    have:=K5 (l:=its2) (i:=j) (by simpa using h2);rw[b4]at this;simpa using(K1d this).symm
   rw[g1,g2];exact(deq I rh n (A:=A.in1) (show A.units+1+n<cLine by omega) c1 c2 c3 c4 (z1 j _ _ e1 e2)).1
  have same:∀{a a':Addr},v1=.ref a->v2=.ref a'->a=a'->b=true:=λ{a a'} x y z=>by
   subst z;rw[x]at r1;rw[y]at r2;exact z6m I rh (n+1) r1 r2 e0
  cases e1:vw h d1 with
  | no=>rw[e1]at e;cases e2:vw h d2<;>rw[e2]at e<;>cases e
  | flat a =>
   rw[e1]at e;obtain⟨rfl,f1⟩:=z24 e1;cases e2:vw h d2 with
   | no=>rw[e2]at e;cases e
   | flat c =>
    rw[e2]at e;obtain⟨rfl,f2⟩:=z24 e2;cases e;rw[z47 f1 r1]at w1;rw[z47 f2 r2]at w2;exact zT2 a c f1 f2 w1 w2
   | tup ys =>
    rw[e2]at e;cases e;obtain⟨a',vs,rfl,t2,_⟩:=z3b e2 r2;cases w2;obtain⟨its,_,p,_⟩:=I.tuple t2;obtain⟨m1,_,m3,_,m5,_⟩:=mixT (s:=s) f1 r1 w1 (show s.heap.IsTuple a' its.toArray from p) hu;exact⟨m1,m3,m5⟩
   | lst ys =>
    rw[e2]at e;cases e;obtain⟨a',vs,rfl,t2,_⟩:=z38 rh e2 r2;cases w2;obtain⟨its,_,p,_⟩:=I.list t2;obtain⟨m1,_,m3,_,m5,_⟩:=mixL (s:=s) f1 r1 w1 p.isList hu;exact⟨m1,m3,m5⟩
  | tup xs =>
   rw[e1]at e;obtain⟨a,vs,rfl,t1,q1⟩:=z3b e1 r1;cases w1;obtain⟨its,x1,p1,_⟩:=I.tuple t1;have p1:s.heap.IsTuple a its.toArray:=p1;cases e2:vw h d2 with
   | no=>rw[e2]at e;cases e
   | flat c =>
    rw[e2]at e;cases e;obtain⟨rfl,f2⟩:=z24 e2;obtain⟨_,m2,_,m4,_,m6⟩:=mixT (s:=s) f2 r2 w2 p1 hu;exact⟨m2,m4,m6⟩
   | tup ys =>
    rw[e2]at e;obtain⟨a',ws,rfl,t2,q2⟩:=z3b e2 r2;cases w2;obtain⟨its2,x2,p2,_⟩:=I.tuple t2;have p2:s.heap.IsTuple a' its2.toArray:=p2;obtain⟨g1,g2⟩:=elems q1 q2 x1 x2 e;have rc:=RcAt.tuples p1 p2 hu g1;have rn:=RcNeAt.tuples p1 p2 hu g1;rw[<- g2]at rc rn;refine⟨?_,rc,rn⟩;by_cases ea:a=a'
    ·rw[same rfl rfl ea];subst ea;exact EqAt.same _
    ·exact EqAt.of_refs ea rc
   | lst ys =>
    rw[e2]at e;cases e;obtain⟨a',ws,rfl,t2,q2⟩:=z38 rh e2 r2;cases w2;obtain⟨its2,x2,p2,_⟩:=I.list t2;exact⟨EqAt.tuple_list p1 p2.isList hu,RcAt.tuple_list p1 p2.isList hu,RcNeAt.tuple_list p1 p2.isList hu⟩
  | lst xs =>
   rw[e1]at e;obtain⟨a,vs,rfl,t1,q1⟩:=z38 rh e1 r1;cases w1;obtain⟨its,x1,p1,_⟩:=I.list t1;cases e2:vw h d2 with
   | no=>rw[e2]at e;cases e
   | flat c =>
    rw[e2]at e;cases e;obtain⟨rfl,f2⟩:=z24 e2;obtain⟨_,m2,_,m4,_,m6⟩:=mixL (s:=s) f2 r2 w2 p1.isList hu;exact⟨m2,m4,m6⟩
   | tup ys =>
    rw[e2]at e;cases e;obtain⟨a',ws,rfl,t2,q2⟩:=z3b e2 r2;cases w2;obtain⟨its2,x2,p2,_⟩:=I.tuple t2;exact⟨EqAt.list_tuple p1.isList p2 hu,RcAt.list_tuple p1.isList p2 hu,RcNeAt.list_tuple p1.isList p2 hu⟩
   | lst ys =>
    rw[e2]at e;obtain⟨a',ws,rfl,t2,q2⟩:=z38 rh e2 r2;cases w2;obtain⟨its2,x2,p2,_⟩:=I.list t2;obtain⟨g1,g2⟩:=elems q1 q2 x1 x2 e;have both:RcAt A s (.ref a) (.ref a') b/\RcNeAt A s (.ref a) (.ref a') (!b):=by
     by_cases hz:its.toArray.size=its2.toArray.size
     ·have:b=(K0h its.toArray.size).all (eqE (eqN n h) xs ys):=by rw[g2,<- hz,Nat.min_self];simp
      rw[this];exact⟨RcAt.lists p1.isList p2.isList hz hu g1,RcNeAt.lists p1.isList p2.isList hz hu g1⟩
     ·have:b=false:=by
       rw[g2,Bool.and_eq_false_iff];right;simpa using hz
      rw[this];exact⟨RcAt.lists_lengths p1.isList p2.isList (by simpa using hz) hu,RcNeAt.lists_lengths p1.isList p2.isList (by simpa using hz) hu⟩
    refine⟨?_,both⟩;by_cases ea:a=a'
    ·rw[same rfl rfl ea];subst ea;exact EqAt.same _
    ·exact EqAt.of_refs ea both.1
end
def fEqX (neg:Bool):D->D->M D:=λx y h=>match eqN 24 h x y with
 | some b=>.ok (.bl (b != neg)) h
 | none=>.bad
def inZ (h:AH) (x:D):List D->Option Bool
 | []=>some false
 | y::ys=>match eqN 24 h y x,inZ h x ys with
  | some a,some b=>some (a||b)
  | _,_=>none
def fInX (neg:Bool):D->D->M D:=λx y=>do
 let ys <- seqD y
 λh=>match inZ h x ys with
  | some b=>.ok (.bl (b != neg)) h
  | none=>.bad
theorem z2H {h:AH}{x:D}:∀{ys:List D}{b:Bool},inZ h x ys=some b->(∀y∈ys,∃a,eqN 24 h y x=some a)/\(b=true↔∃y∈ys,eqN 24 h y x=some true)
 | [],b,e=>by unfold inZ at e;cases e;exact⟨λy hy=>(by simp at hy),by simp⟩
 | y::ys,b,e=>by
  unfold inZ at e;split at e
  ·rename_i a c e1 e2;cases e;obtain⟨q1,q2⟩:=z2H e2;refine⟨λz hz=>?_,?_⟩
   ·rcases K0c.mp hz with q|q
    ·subst q;exact⟨_,e1⟩
    ·exact q1 z q
   ·rw[K2w,q2];constructor
    ·rintro(q|⟨z,hz,q⟩)
     ·exact⟨y,by simp,by rw[e1,q]⟩
     ·exact⟨z,by simp[hz],q⟩
    ·rintro⟨z,hz,q⟩;rcases K0c.mp hz with w|w
     ·subst w;rw[e1]at q;exact .inl (K1d q)
     ·exact .inr ⟨z,w,q⟩
  ·cases e
def rEqX (K:K2) (neg:Bool):R2:=λx y H Q=>∃ρ h d1 d2 b,RH K ρ h H/\RD K ρ H d1 x/\RD K ρ H d2 y/\eqN 24 h d1 d2=some b/\Q (.bl (b != neg)) H
def rInX (K:K2) (neg:Bool):R2:=λx y H Q=>∃ρ h d ds p xs b,RH K ρ h H/\RD K ρ H d x/\y=.ref p/\(SqL K H p xs\/SqT K H p xs)/\RDs K ρ H ds xs/\inZ h d ds=some b/\Q (.bl (b != neg)) H
section
variable {X:Cx}{EX:XX}
theorem zF7 (hu:X.A.units+30<cLine):OpR X (K1t .Eq) (rEqX X.K false):=by
 intro pins s σ H x y v u Q I rx ry h;obtain⟨ρ,h,d1,d2,b,rh,r1,r2,e,q⟩:=h;rw[K4q]at q;exact(deq I rh 24 (A:=X.A) (by omega) r1 r2 rx ry e).2.1 X.prog X.w X.xe (EP X pins σ Q) ⟨.bl b,H,I,rfl,q⟩
theorem zE1 (hu:X.A.units+30<cLine):OpR X (K1t .NotEq) (rEqX X.K true):=by
 intro pins s σ H x y v u Q I rx ry h;obtain⟨ρ,h,d1,d2,b,rh,r1,r2,e,q⟩:=h;rw[K6i]at q;exact(deq I rh 24 (A:=X.A) (by omega) r1 r2 rx ry e).2.2 X.prog X.w X.xe (EP X pins σ Q) ⟨.bl (!b),H,I,rfl,q⟩
open Classical in
theorem z3h {pins:List (Addr×Obj)}{σ:L2.St}{ρ:List Addr}{h:AH}{H:Hp}{s:Shared}{d:D}{ds:List D}{x:V}{v:Value}{xs:List V}{its:List Value}{b:Bool}(hu:X.A.units+30<cLine) (I:Inv X pins σ H s) (rh:RH X.K ρ h H) (rx:RD X.K ρ H d x) (wx:RelV x v) (rs:RDs X.K ρ H ds xs) (ws:Vals xs its) (e:inZ h d ds=some b) :
 ∃f:Value->Bool,(∀y∈its,K6a X.A.in1 s y v (f y))/\its.any f=b:=by
 obtain⟨q1,q2⟩:=z2H e;have ex:∀y∈its,∃a z w,z∈ds/\RD X.K ρ H z w/\RelV w y/\eqN 24 h z d=some a:=λy hy=>by
  obtain⟨j,hj⟩:=K2h hy;have lj:=(K7.mp hj).1;have a1:xs[j]?=some (xs[j]'(by rw[ws.length];exact lj)):=K5 _;obtain⟨y',c1,a2⟩:=ws.get a1;rw[hj]at c1;cases c1;obtain⟨z,b1,b2⟩:=rs.getV a1;have zm:=K08 b1;obtain⟨a,c⟩:=q1 z zm;exact⟨a,z,_,zm,b2,a2,c⟩
 have key:∀y∈its,∀a,(∃z w,z∈ds/\RD X.K ρ H z w/\RelV w y/\eqN 24 h z d=some a)->K6a X.A.in1 s y v a:=λy hy a ⟨z,w,zm,r1,r2,c⟩ =>
  (deq I rh 24 (A:=X.A.in1) (show X.A.units+1+24<cLine by omega) r1 rx r2 wx c).1
 refine⟨λy=>decide (∃z w,z∈ds/\RD X.K ρ H z w/\RelV w y/\eqN 24 h z d=some true),λy hy=>?_,?_⟩
 ·by_cases c:∃z w,z∈ds/\RD X.K ρ H z w/\RelV w y/\eqN 24 h z d=some true
  ·dsimp only;rw[decide_eq_true c];exact key y hy true c
  ·dsimp only;rw[decide_eq_false c];obtain⟨a,z,w,g⟩:=ex y hy;cases a with
   | false=>exact key y hy false ⟨z,w,g⟩
   | true=>exact absurd ⟨z,w,g⟩ c
 ·rw[K17,q2,K6e];constructor
  ·rintro⟨y,hy,c⟩;obtain⟨z,w,zm,_,_,c⟩:=of_decide_eq_true c;exact⟨z,zm,c⟩
  ·rintro⟨z,zm,c⟩;obtain⟨j,hj⟩:=K2h zm;obtain⟨w,a1,a2⟩:=rs.get hj;obtain⟨y,b1,b2⟩:=ws.get a1;exact⟨y,K08 b1,decide_eq_true ⟨z,w,zm,a2,b2,c⟩⟩
theorem zQ1 (hu:X.A.units+30<cLine):OpR X (K1t .In) (rInX X.K false):=by
 intro pins s σ H x y v u Q I rx ry h;obtain⟨ρ,h,d,ds,p,xs,b,rh,r1,rfl,sq,rs,e,q⟩:=h;cases ry;rw[K4q]at q;rcases sq with sq|sq
 ·obtain⟨its,ws,pl,_⟩:=I.list sq;obtain⟨f,f1,f2⟩:=z3h hu I rh r1 rx rs ws e;refine SeqAt.in_listAt f pl.isList (λy hy=>f1 y (by simpa using hy)) ⟨.bl b,H,I,?_,q⟩;rw[show its.toArray.any f=its.any f by simp,f2];rfl
 ·obtain⟨its,ws,pl,_⟩:=I.tuple sq;obtain⟨f,f1,f2⟩:=z3h hu I rh r1 rx rs ws e;refine SeqAt.in_tupleAt f pl (λy hy=>f1 y (by simpa using hy)) ⟨.bl b,H,I,?_,q⟩;rw[show its.toArray.any f=its.any f by simp,f2];rfl
theorem zy4 (hu:X.A.units+30<cLine):OpR X (K1t .NotIn) (rInX X.K true):=by
 intro pins s σ H x y v u Q I rx ry h;obtain⟨ρ,h,d,ds,p,xs,b,rh,r1,rfl,sq,rs,e,q⟩:=h;cases ry;rw[K6i]at q;rcases sq with sq|sq
 ·obtain⟨its,ws,pl,_⟩:=I.list sq;obtain⟨f,f1,f2⟩:=z3h hu I rh r1 rx rs ws e;refine K9w f pl.isList (λy hy=>f1 y (by simpa using hy)) ⟨.bl (!b),H,I,?_,q⟩;rw[show its.toArray.any f=its.any f by simp,f2];rfl
 ·obtain⟨its,ws,pl,_⟩:=I.tuple sq;obtain⟨f,f1,f2⟩:=z3h hu I rh r1 rx rs ws e;refine K9f f pl (λy hy=>f1 y (by simpa using hy)) ⟨.bl (!b),H,I,?_,q⟩;rw[show its.toArray.any f=its.any f by simp,f2];rfl
theorem zj3 {neg:Bool}:BR X.K EX (rEqX X.K neg) (fEqX neg):=by
 intro ρ h H x y v u Q r rx ry fin;unfold fEqX at fin;cases e:eqN 24 h x y with
 | none=>rw[e]at fin;exact fin.elim
 | some b=>rw[e]at fin;exact⟨ρ,h,x,y,b,r,rx,ry,e,FE.here fin r (by simp[RD])⟩
theorem zj1 {neg:Bool}:BR X.K EX (rInX X.K neg) (fInX neg):=by
 intro ρ h H x y v u Q r rx ry fin;have f1:=Fin.bind fin;cases e:seqD y h with
 | bad=>rw[e]at f1;exact f1.elim
 | err z hz=>exact(z2w e).elim
 | ok ys h1 =>
  obtain⟨rfl,q,xs,rfl,hs,hd⟩:=z1X r ry e;rw[e]at f1;have f2:=f1 ρ H (Pre.refl _) (Ext.refl _ _) r;dsimp only at f2;cases e2:inZ h1 x ys with
  | none=>rw[e2]at f2;exact f2.elim
  | some b=>rw[e2]at f2;exact⟨ρ,h1,x,ys,q,xs,b,r,rx,rfl,hs,hd,e2,FE.here f2 r (by simp[RD])⟩
theorem z3J (hu:X.A.units+30<cLine):CO X EX .Eq (fEqX false):=⟨_,zF7 hu,zj3⟩
theorem z3K (hu:X.A.units+30<cLine):CO X EX .NotEq (fEqX true):=⟨_,zE1 hu,zj3⟩
theorem zC3 (hu:X.A.units+30<cLine):CO X EX .In (fInX false):=⟨_,zQ1 hu,zj1⟩
theorem za8 (hu:X.A.units+30<cLine):CO X EX .NotIn (fInX true):=⟨_,zy4 hu,zj1⟩
theorem hu30 {A:Around}{k:Nat}(hr:Room k A):A.units+30<cLine:=K74 (K6v (by decide:30<=64) _) hr.units
end
variable {α β:Type}
theorem z17 (a:α) (f:α->M β):((Z1h a:M α) >>= f)=f a:=by funext h;rfl
theorem W_eq {m:M α}{v:α}{h:AH}{Q:α->AH->Prop}(e:m=pure v) (q:Q v h):W m h Q:=by rw[e,W_pure];exact q
theorem zS6 {xs:List D}{h:AH}{Q:D->AH->Prop}(hl:xs.length<=1000000) (q:Q (.ref h.length) (h++[.lst xs])):W (newL xs) h Q :=
 ⟨_,_,by unfold newL;rw[if_pos (K0x hl (by decide))],q⟩
mutual
theorem z2M {m n:Nat}(h:m<=n):∀{d:D},y8 m d=true->y8 n d=true
 | .non,_=>rfl
 | .bl _,_=>rfl
 | .int _,_=>rfl
 | .str _,_=>rfl
 | .tup ds,c=>by simp only[y8]at c ⊢;exact z28 h c
 | .fl ds,c=>by simp only[y8]at c ⊢;exact z28 h c
 | .ref i,c=>by simp only[y8,decide_eq_true_eq]at c ⊢;omega
theorem z28 {m n:Nat}(h:m<=n):∀{d:List D},k6 m d=true->k6 n d=true
 | [],_=>rfl
 | d::r,c=>by simp only[k6,K0f]at c ⊢;exact⟨z2M h c.1,z28 h c.2⟩
end
theorem z2d {n:Nat}:∀{xs:List D},(∀x∈xs,y8 n x=true)->k6 n xs=true
 | [],_=>rfl
 | x::r,h=>by simp only[k6,K0f];exact⟨h x (by simp),z2d λy hy=>h y (by simp[hy])⟩
theorem z4m {n:Nat}:∀{xs:List D},k6 n xs=true->∀x∈xs,y8 n x=true
 | [],_,x,hx=>by cases hx
 | y::r,h,x,hx=>by
  simp only[k6,K0f]at h;rcases K0c.mp hx with q|q
  ·subst q;exact h.1
  ·exact z4m h.2 x q
theorem q5 {n:Nat}{ι:Type}{f:ι->D}{l:List ι}(h:∀a,y8 n (f a)=true):k6 n (l.map f)=true:=z2d λx hx=>by
 obtain⟨a,_,rfl⟩:=K0r.mp hx;exact h a
theorem z0H {m:M D}{h:AH}{d:D}{j:AH}(e:m h=.ok d (h++j)) (c:y8 h.length d=true):cln m h=.ok d h:=by
 unfold cln;rw[e];dsimp only;rw[if_pos ⟨by simp,z6Y _ _⟩,if_pos c];simp
theorem z4O (d:D):cln (pure d)=pure d:=funext λh=>by
 unfold cln;rw[pureM];dsimp only;rw[if_pos ⟨K01 _,λ_ _ _ e=>.inl e⟩];split
 ·simp
 ·rename_i nd;split
  ·rename_i i;simp only[y8,decide_eq_true_eq]at nd;rw[K1c (by omega)]
  ·rfl
theorem zT7 {m:M D}{v:D}(c:y8 0 v=true) (z:∀h,W m h λa h'=>a=v/\∃j,h'=h++j):cln m=pure v:=funext λh=>by
 obtain⟨a,h',e,rfl,j,rfl⟩:=z h;exact z0H e (z2M (K35 _) c)
theorem zI4 {m:G->M Bool}{γ:G}{h:AH}{d:Bool}{j:AH}(e:m γ h=.ok d (h++j)):clT m γ h=.ok d h:=by
 unfold clT;rw[e];dsimp only;rw[if_pos ⟨by simp,z6Y _ _⟩];simp
theorem z66:∀bs:List Bool,blsD (bs.map .bl)=some bs
 | []=>rfl
 | b::r=>by simp[blsD,z66 r]
theorem filter_tt {l:List α}:l.filter (λ_=>true)=l:=by induction l<;>simp_all
theorem z6b {n:Nat}{mb:G->M Out}{ds:List D}{d:D}(e:mb (z1l n ds)=pure (.rt d)):runF n mb ds=pure d:=by unfold runF;rw[e];rfl
theorem ix0 {a:D}{r:List D}:fIx (.tup (a::r)) (.int 0)=pure a:=ix_tup (by simp[atI,ixN])
theorem ix1 {a b:D}{r:List D}:fIx (.tup (a::b::r)) (.int 1)=pure b:=ix_tup (Y7 (j:=1) rfl)
theorem ix2 {a b c:D}{r:List D}:fIx (.tup (a::b::c::r)) (.int 2)=pure c:=ix_tup (Y7 (j:=2) rfl)
theorem zU4 {x y:Str}{b:Bool}:fEq b (.str x) (.str y)=pure (.bl (decide (x=y) != b)):=rfl
theorem zV6:((2:Nat)<=sizeLine)=True:=by simp[sizeLine]
theorem zS9:((3:Nat)<=sizeLine)=True:=by simp[sizeLine]
structure SQ (st:List (List Nat)):Prop where
 l1:1<=st.length
 l2:st.length<=40
 s2:∀l∈st,∀x∈l,x<st.length
def nx (st:List (List Nat)) (a:Nat):List Nat:=(st[a]?).getD []
inductive Rch (st:List (List Nat)) (x:Nat):Nat->Prop
 | here:Rch st x x
 | step {a b:Nat}:Rch st x a->b∈nx st a->Rch st x b
theorem zF2 {st:List (List Nat)}(q:SQ st) {a b:Nat}(h:b∈nx st a):b<st.length:=by
 unfold nx at h;cases e:st[a]? with
 | none=>rw[e]at h;cases h
 | some l =>
  rw[e]at h;exact q.s2 l (K08 e) b h
theorem zl7 {st:List (List Nat)}(q:SQ st) {x a:Nat}(hx:x<st.length) (h:Rch st x a):a<st.length:=by
 cases h with
 | here=>exact hx
 | step _ h=>exact zF2 q h
theorem z3s (st:List (List Nat)):(stsD st).length=st.length:=by unfold stsD;simp
theorem zC9 {st:List (List Nat)}{a:Nat}(ha:a<st.length):atI (stsD st) (a:Int)=.(g ((stD (nx st a)))):=by
 refine Y7 ?_;unfold stsD nx;rw[K8,K5 ha];rfl
theorem zC8 {st:List (List Nat)}{mk:List (List Str)}:fIx (maD st mk) (.int 0)=pure (.tup (stsD st)):=ix_tup rfl
theorem zC2 {st:List (List Nat)}{a:Nat}(ha:a<st.length):fIx (.tup (stsD st)) (.int a)=pure (.tup (stD (nx st a))):=ix_tup (zC9 ha)
theorem z8A:∀l:List Nat,(stD l).all z16=true
 | []=>rfl
 | _::l=>z8A l
theorem zk8 (x:Nat):∀l:List Nat,((stD l).any λz=>eqF z (.int x))=decide (x∈l)
 | []=>by simp[stD]
 | b::l=>by
  rw[show stD (b::l)=.int b::stD l from rfl,K26,zk8 x l];simp only[eqF];rw[K17];simp only[K2w,beq_iff_eq,decide_eq_true_eq,K0c];constructor
  ·rintro(h|h)
   ·left;omega
   ·exact .inr h
  ·rintro(h|h)
   ·left;omega
   ·exact .inr h
theorem zW0 {x:Nat}{l:List Nat}{neg:Bool}:fIn neg (.int x) (.tup (stD l))=pure (.bl (decide (x∈l) != neg)):=by
 unfold fIn seqD;show (if z16 (.int x)&&(stD l).all z16 then _ else _)=_;rw[z8A,zk8];rfl
theorem z1Y (l:List Nat):(stD l).length=l.length:=by unfold stD;simp
theorem zc2 {l:List Nat}{n:Nat}(hl:l.Pairwise (·<·)) (hm:∀x∈l,x<n):l.length<=n:=by
 have nd:l.Nodup:=List.Pairwise.imp (λh=>K0g h) hl;have:=nd.length_le_of_subset (l₂:=K0h n) (λx hx=>K29.mpr (hm x hx));rwa [K20]at this
def zN (l:List Nat):List Int:=l.map λ(i:Nat)=>(i:Int)
def kN (l:List Nat):List Key:=l.map λ(i:Nat)=>.inl (i:Int)
def z40 (l:List Nat):List Nat:=(sortI (zN l)).map Z1i
theorem z9o:∀l:List Nat,z4Y (kN l)=some (zN l)
 | []=>rfl
 | a::l=>by
  show (z4Y (kN l)).map _=_;rw[z9o l];rfl
theorem z9M (l:List Nat):(sortI (zN l)).map D.int=stD (z40 l):=by
 unfold z40 stD;rw[K16];refine List.map_congr_left λa ha=>?_;have:a∈zN l:=(sortI_perm _).mem_iff.mp ha;obtain⟨i,_,rfl⟩:=K0r.mp this;rfl
theorem z2W (l:List Nat):(z40 l).Perm l:=by
 have:=(sortI_perm (zN l)).map Z1i;refine this.trans ?_;unfold zN;rw[K16];rw[show (Z1i ∘ λ(i:Nat)=>(i:Int))=id from funext λi=>rfl,List.map_id]
theorem z7w {l:List Nat}(nd:l.Nodup):(z40 l).Pairwise (·<·):=by
 have s:(z40 l).Pairwise (·<=·):=by
  unfold z40;rw[K7k];exact(z7d _).imp λ{a b} h=>by omega
 have n:(z40 l).Nodup:=(z2W l).nodup_iff.mpr nd;exact(List.Pairwise.and s n).imp λ{a b} q=>by omega
theorem za9 {l:List Nat}{x:Nat}:x∈z40 l↔x∈l:=(z2W l).mem_iff
theorem z3G (l:List Nat):(z40 l).length=l.length:=(z2W l).length_eq
theorem kN_mem {l:List Nat}{x:Nat}:(K3n (x:Int):Key)∈kN l↔x∈l:=by
 unfold kN;constructor
 ·intro h;obtain⟨i,hi,e⟩:=K0r.mp h;have:i=x:=by have:=Z1k e;omega
  exact this ▸ hi
 ·exact λh=>K0r.mpr ⟨x,h,rfl⟩
theorem zH2 (l:List Nat):(kN l).length=l.length:=by unfold kN;simp
theorem zG3 {l:List Nat}{x:Nat}(h:x∉l):putK (kN l) (.inl (x:Int))=kN (l++[x]):=by
 unfold putK;rw[if_neg (λq=>h (kN_mem.mp q))];unfold kN;simp
theorem z3H {S:List Nat}{n:Nat}(nd:S.Nodup) (hm:∀x∈S,x<n):S.length<=n:=by
 have:=nd.length_le_of_subset (l₂:=K0h n) (λx hx=>K29.mpr (hm x hx));rwa [K20]at this
theorem z5r {S:List Nat}{x:Nat}(nd:S.Nodup) (h:x∉S):(S++[x]).Nodup:=by
 rw[K21];refine⟨nd,by simp,λa ha b hb=>?_⟩;simp at hb;subst hb;exact λe=>h (e ▸ ha)
theorem z4w (l:List Nat) (x:Nat):stD l++[.int x]=stD (l++[x]):=by unfold stD;simp
theorem zC7 {l:List Nat}{i:Nat}{d:D}(h:(stD l)[i]?=some d):∃b:Nat,d=.int b/\l[i]?=some b:=by
 unfold stD at h;rw[K8]at h;obtain⟨b,e1,e2⟩:=K06.mp h;exact⟨b,e2.symm,e1⟩
section
variable {ma:G->M D}{g:D->G->M G}{k:G->M Bool}{ms mr mt:G->M Out}{γ γ':G}{h h1:AH}{d:D}{b:Bool}{Q:Out->AH->Prop}
theorem zs6 (d:D) (γ':G) (e:ma γ=pure d) (eg:g d γ=pure γ') (z:W (mt γ') h Q):W (Z3 (sAsg ma g) mt γ) h Q:=by
 rw[w_cons];unfold sAsg;rw[e,z17,eg,z17,W_pure];exact z
theorem Y9 (d:D) (γ':G) (e:ma γ h=.ok d h1) (eg:g d γ=pure γ') (z:W (mt γ') h1 Q):W (Z3 (sAsg ma g) mt γ) h Q:=by
 rw[w_cons];unfold sAsg;rw[j3];refine W.of e ?_;rw[eg,z17,W_pure];exact z
theorem z6T {i:Nat}(z:W (ma γ) h λd h1=>W (mt (γ.set i (some d))) h1 Q):W (Z3 (sAsg ma (gN i)) mt γ) h Q:=by
 rw[w_cons];unfold sAsg gN;rw[j3];refine z.mono λd h1 q=>?_;rw[z17,W_pure];exact q
theorem q_if (b:Bool) (e:k γ=pure b) (z:W (Z3 (if b=true then ms else mr) mt γ) h Q):W (Z3 (sIf k ms mr) mt γ) h Q:=by
 rw[w_cons]at z ⊢;unfold sIf;rw[e,z17];cases b<;>exact z
theorem J6 (b:Bool) (e:k γ h=.ok b h) (z:W (Z3 (if b=true then ms else mr) mt γ) h Q):W (Z3 (sIf k ms mr) mt γ) h Q:=by
 rw[w_cons]at z ⊢;unfold sIf;rw[j3];refine W.of e ?_;cases b<;>exact z
theorem zI5 (z:W (k γ) h λb h1=>W (Z3 (if b=true then ms else mr) mt γ) h1 Q):W (Z3 (sIf k ms mr) mt γ) h Q:=by
 rw[w_cons];unfold sIf;rw[j3];refine z.mono λb h1 q=>?_;rw[w_cons]at q;cases b<;>exact q
theorem zD9 (d:D) (e:ma γ=pure d) (z:Q (.rt d) h):W (Z3 (sRet ma) mt γ) h Q:=by
 rw[w_cons];unfold sRet;rw[e,z17,W_pure];exact z
theorem w8 (d:D) (e:ma γ h=.ok d h1) (z:Q (.rt d) h1):W (Z3 (sRet ma) mt γ) h Q:=by
 rw[w_cons];unfold sRet;rw[j3];refine W.of e ?_;rw[W_pure];exact z
theorem zJ0 (z:W (ma γ) h λd h1=>Q (.rt d) h1):W (Z3 (sRet ma) mt γ) h Q:=by
 rw[w_cons];unfold sRet;rw[j3];refine z.mono λd h1 q=>?_;rw[W_pure];exact q
theorem z6r (z:W (ma γ) h λd h1=>W (mt γ) h1 Q):W (Z3 (z0I ma) mt γ) h Q:=by
 rw[w_cons];unfold z0I;rw[j3];refine z.mono λd h1 q=>?_;rw[W_pure];exact q
theorem J4 (z:W (mt γ) h Q):W (Z3 bNil mt γ) h Q:=by rw[w_cons,z7H];exact z
theorem Y6 {Q:Out->AH->Prop}(z:Q (.nx γ) h):W (bNil γ) h Q:=by rw[z7H];exact z
theorem z9y {l:G->M Bool}(e:k γ h=.ok true h):cAnd k l γ h=l γ h:=by unfold cAnd;rw[M.bind_ok e];rfl
theorem z8h {l:G->M Bool}(e:k γ h=.ok false h):cAnd k l γ h=.ok false h:=by unfold cAnd;rw[M.bind_ok e];rfl
theorem zF4 {l:G->M Bool}(e:k γ h=.ok true h):cOr k l γ h=.ok true h:=by unfold cOr;rw[M.bind_ok e];rfl
theorem zI2 {l:G->M Bool}(e:k γ h=.ok false h):cOr k l γ h=l γ h:=by unfold cOr;rw[M.bind_ok e];rfl
theorem zA6 (d:D) (e:ma γ=pure d):Z3 (sRet ma) mt γ=pure (.rt d):=by
 unfold Z3 sRet;rw[e,z17,z17]
theorem z0h {ms1 ms2:G->M Out}(z:W (Z3 ms1 (Z3 ms2 mt) γ) h Q):W (Z3 (Z3 ms1 ms2) mt γ) h Q:=by
 rw[w_cons]at z ⊢;rw[w_cons];refine z.mono λo h1 q=>?_;cases o with
 | nx γ=>exact w_cons.mp q
 | rt d=>exact q
 | bk d=>exact q
 | ct d=>exact q
end
theorem z3Q {i j:Int}{neg:Bool}:fEqX neg (.int i) (.int j)=pure (.bl (decide (i=j) != neg)):=by
 funext h;show Res.ok (D.bl ((i==j) != neg)) h=_;have:(i==j)=decide (i=j):=by rw[K17];simp
 rw[this];rfl
theorem zL3 {a b:Bool}{neg:Bool}:fEqX neg (.bl a) (.bl b)=pure (.bl ((a==b) != neg)):=by funext h;rfl
theorem zp0 {mc:G->M D}{γ:G}{h h1:AH}{xs:List D}{neg:Bool}(e:mc γ h=newL xs h1) (hl:xs.length<=1000000):e2 (fEqX neg) mc (eLst aNil) γ h=.ok (.bl (xs.isEmpty != neg)) (h1++[.lst xs]++[.lst []]):=by
 have e':mc γ h=.ok (.ref h1.length) (h1++[.lst xs]):=by rw[e];unfold newL;rw[if_pos (K0x hl (by decide))]
 show (mc γ >>= _) h=_;rw[M.bind_ok e'];have e2':eLst aNil γ (h1++[.lst xs])=.ok (.ref (h1++[O.lst xs]).length) (h1++[.lst xs]++[.lst []]):=by
  unfold eLst aNil newL;simp
 rw[M.bind_ok e2'];have v1:vw (h1++[O.lst xs]++[O.lst []]) (.ref h1.length)=.lst xs:=by unfold vw;simp
 have v2:vw (h1++[O.lst xs]++[O.lst []]) (.ref (h1++[O.lst xs]).length)=.lst []:=by unfold vw;simp
 unfold fEqX eqN;rw[v1,v2];cases xs<;>rfl
theorem zp7 {mc:G->M D}{γ:G}{h j:AH}{xs:List D}{neg:Bool}(e:mc γ h=newL xs (h++j)) (hl:xs.length<=1000000):clT (λγ=>do let d <- e2 (fEqX neg) mc (eLst aNil) γ;asB d) γ h=.ok (xs.isEmpty != neg) h :=
 zI4 (j:=j++([.lst xs]++[.lst []])) (by rw[M.bind_ok (zp0 e hl)];simp[asB])
theorem zv4 {x:Str}{l:List Str}{neg:Bool}:fIn neg (.str x) (.tup (l.map .str))=pure (.bl (decide (x∈l) != neg)):=by
 unfold fIn seqD;show (if z16 (.str x)&&(l.map D.str).all z16 then _ else _)=_;rw[z3D,z69];rfl
theorem z7m (xs:List D) (n:Nat):cutD xs none (some (n:Int))=xs.take n:=by
 unfold cutD;rw[HT.sIx_none,HT.sIx_nat];simp[List.take_take]
theorem zP6 (xs:List D) (n:Nat):cutD xs (some (n:Int)) none=xs.drop n:=by
 unfold cutD;rw[HT.sIx_none,HT.sIx_nat];by_cases h:n<=xs.length
 ·rw[show min n xs.length=n by omega,K61 (by simp)]
 ·rw[show min n xs.length=xs.length by omega];simp;omega
def rp (n:Nat) (l:List Nat):List Nat:=(K0l n l).flatten
theorem zl2 {a b:Nat}(hb:0<b) (h:b<=1000000):fDiv (.int (a:Nat)) (.int (b:Nat))=pure (.int (a / b:Nat)):=by
 rw[div_ii (show (0:Int)<b by omega) (show (b:Int)<1073741824 by omega),Int.natCast_ediv]
theorem sl_tup {x:List D}{lo hi:Option Int}:fSl (.tup x) lo hi=pure (.tup (cutD x lo hi)):=rfl
def CL (r:AH):Prop:=True
theorem CL.app {r j:AH}(a:CL r) (b:CL j):CL (r++j):=trivial
theorem CL.one {xs:List D}(h:k6 3 xs=true):CL [.lst xs]:=trivial
theorem CL.put {r:AH}{xs:List D}(a:CL r) (h:k6 3 xs=true):CL (r++[.lst xs]):=a.app (.one h)
theorem z0w {n:Nat}(l:List Str):k6 n (l.map .str)=true:=q5 λ_=>rfl
theorem z0Q {n:Nat}(l:List Int):k6 n (l.map .int)=true:=q5 λ_=>rfl
theorem z9U {n:Nat}(l:List Nat):k6 n (stD l)=true:=q5 λ_=>rfl
theorem zG6 {n:Nat}(l:List Nat):y8 n (.tup (stD l))=true:=by simp only[y8];exact z9U l
theorem z93 {gr sm:List Int}{s c:Int}{r j:AH}:(Pool gr sm s c (r++j)).take (r.length+3)=Pool gr sm s c r:=by
 unfold Pool;simp
theorem z9p {gr sm gr' sm':List Int}{s c s' c':Int}{r j:AH}:Kept (Pool gr sm s c r) (Pool gr' sm' s' c' (r++j)):=λi o li e=>by
 have l3:(Pool gr sm s c r).length=r.length+3:=rfl;rw[l3]at li ⊢
 match i,e with
 | 0,e=>cases e;exact .inr (z0Q _)
 | 1,e=>cases e;exact .inr (z0Q _)
 | 2,e=>cases e;exact .inr (by simp[refO,k6,y8])
 | i+3,e =>
  left;have e:(r++j)[i]?=some o:=e;rw[K0w (by omega)]at e;exact e
theorem z6V {h h1:AH}{k k':Int}{r j:AH}(p:PS h k r) (q:CL r) (p1:PS h1 k' (r++j)):(h.length<=h1.length/\Kept h h1)/\PS (h1.take h.length) k' r:=by
 have l:=p.len;have l1:=p1.len;obtain⟨gr,sm,s,c,rfl,g⟩:=p1;obtain⟨gr0,sm0,s0,c0,rfl,g0⟩:=p;refine⟨⟨by rw[K04]at l1;omega,z9p⟩,?_⟩;rw[show (Pool gr0 sm0 s0 c0 r).length=r.length+3 from rfl,z93];exact⟨gr,sm,s,c,rfl,g⟩
theorem z4y {m:M D}{h:AH}{k:Int}{r:AH}{Q:D->AH->Prop}(p:PS h k r) (q:CL r) (z:W m h λd h1=>∃k' j,PS h1 k' (r++j)/\y8 3 d=true/\∀h2,PS h2 k' r->Q d h2):W (cln m) h Q:=by
 obtain⟨d,h1,e,k',j,p1,rd,f⟩:=z;obtain⟨c1,c2⟩:=z6V p q p1;refine⟨d,h1.take h.length,?_,f _ c2⟩;unfold cln;rw[e];dsimp only;rw[if_pos c1,if_pos (z2M (by rw[p.len];omega) rd)]
theorem zB5 {m:M D}{h:AH}{k:Int}{r:AH}{Q:D->AH->Prop}(p:PS h k r) (q:CL r) (z:W m h λd h1=>∃k' j i xs,d=.ref (i+3)/\PS h1 k' (r++j)/\r.length<=i/\(r++j)[i]?=.(l xs)/\k6 3 xs=true/\∀h2,PS h2 k' (r++[.lst xs])->Q (.ref (r.length+3)) h2):W (cln m) h Q:=by
 obtain⟨d,h1,e,k',j,i,xs,rfl,p1,hi,ei,rd,f⟩:=z;obtain⟨c1,c2⟩:=z6V p q p1;have l:=p.len;refine⟨.ref (r.length+3),h1.take h.length++[.lst xs],?_,f _ (c2.app _)⟩;unfold cln;rw[e];dsimp only;rw[if_pos c1,if_neg (by simp only[y8,decide_eq_true_eq];omega),p1.get,ei];dsimp only;rw[if_pos (show refO h.length (.lst xs)=true from z28 (by omega) rd),l]
theorem z5M {m:G->M D}{γ:G}{h:AH}{k:Int}{r:AH}{Q:D->AH->Prop}(p:PS h k r) (q:CL r) (z:W (m γ) h λd h1=>∃k' j,PS h1 k' (r++j)/\y8 3 d=true/\∀h2,PS h2 k' r->Q d h2):W (clE m γ) h Q:=z4y p q z
section
variable {h:AH}{k:Int}{r l:AH}{i:Nat}{xs:List D}{v:D}
theorem at_E:(r++l)[r.length+i]?=l[i]?:=by rw[K1h (by omega)];congr 1;omega
theorem zT1 {o:O}:(r++l).set (r.length+i) o=r++l.set i o:=by
 rw[K1i _ _ (by omega)];congr 2;omega
theorem z8E {Q:List D->AH->Prop}(p:PS h k (r++l)) (e:l[i]?=.(l xs)) (q:Q xs h):W (getL (r.length+i+3)) h Q:=z2O p (by rw[at_E];exact e) q
theorem zE9 {Q:D->AH->Prop}(p:PS h k (r++l)) (hl:xs.length<=1000000) (z:∀h',PS h' k (r++(l++[.lst xs]))->Q (.ref (r.length+l.length+3)) h'):W (newL xs) h Q :=
 z1D p hl λh' p'=>by rw[K10]at p';have:=z h' p';rwa [K04]
theorem zj8 {Q:D->AH->Prop}(p:PS h k (r++l)) (e:l[i]?=.(l xs)) (hl:xs.length<1000000) (z:∀h',PS h' k (r++l.set i (.lst (xs++[v])))->Q .non h'):W (w6 (r.length+i+3) v) h Q :=
 z73 p (by rw[at_E];exact e) hl λh' p'=>z h' (by rw[zT1]at p';exact p')
theorem z3w {Q:D->AH->Prop}(p:PS h k (r++l)) (e:l[i]?=.(l xs)) (q:Q (.tup xs) h):W (Y2 [.ref (r.length+i+3)]) h Q:=by
 have ft:∀i:Nat,Y2 [.ref i]=(do let x <- getL i;pure (.tup x)):=λ_=>rfl;rw[ft,j3];refine z8E p e ?_;rw[W_pure];exact q
theorem ze8 {Q:Nat->AH->Prop}(p:PS h k (r++l)) (e:l[i]?=.(l xs)) (q:Q (r.length+i+3) h):W (z22 (.ref (r.length+i+3))) h Q:=by
 rw[z9J];exact z8E p e q
theorem zP2 {j:Nat}{ys:List D}{Q:D->AH->Prop}(p:PS h k (r++l)) (e:l[i]?=.(l xs)) (e2:(r++l)[j]?=.(l ys)) (hl:xs.length+ys.length<=1000000) (z:∀h',PS h' k (r++(l++[.lst (xs++ys)]))->Q (.ref (r.length+l.length+3)) h'):W (fAdd (.ref (r.length+i+3)) (.ref (j+3))) h Q:=by
 show W (getL _ >>= λx=>getL _ >>= λy=>newL (x++y)) h Q;rw[j3];refine z8E p e ?_;rw[j3];refine z2O p e2 ?_;exact zE9 p (by simpa using hl) z
end
theorem z07 {ma:G->M D}{mt:G->M Out}{γ:G}{h:AH}{i:Nat}{Q:Out->AH->Prop}(J:D->AH->Prop) (z:W (ma γ) h J) (f:∀d h1,J d h1->W (mt (γ.set i (some d))) h1 Q):W (Z3 (sAsg ma (gN i)) mt γ) h Q:=z6T (z.mono f)
theorem z2T {ma:G->M D}{mt:G->M Out}{γ:G}{h:AH}{Q:Out->AH->Prop}(J:D->AH->Prop) (z:W (ma γ) h J) (f:∀d h1,J d h1->Q (.rt d) h1):W (Z3 (sRet ma) mt γ) h Q:=zJ0 (z.mono f)
theorem z90 {me:G->M D}{mt:G->M Out}{γ:G}{h:AH}{k:Int}{r l:AH}{a i:Nat}{xs:List D}{Q:Out->AH->Prop}(ea:γ[a]?=some (.(r (r.length+i+3)))) (p:PS h k (r++l)) (e:l[i]?=.(l xs)) (hl:xs.length<1000000) (J:D->Int->Prop)
 (z:W (me γ) h λv h1=>∃k',PS h1 k' (r++l)/\J v k') (f:∀v k' h2,J v k'->PS h2 k' (r++l.set i (.lst (xs++[v])))->W (mt γ) h2 Q):W (Z3 (z0I (eM1 w6 (eVar a) me)) mt γ) h Q:=by
 refine z6r ?_;unfold eM1;rw[j3];refine W_eq (v:=.ref (r.length+i+3)) (by unfold eVar;rw[ea]) ?_;rw[j3];refine ze8 p e ?_;rw[j3];refine z.mono λv h1 ⟨k',p1,j⟩=>?_;exact zj8 p1 e hl λh2 p2=>f v k' h2 j p2
theorem z75 {cap:List (Option Nat)}{mi:G->M Src}{g:D->G->M G}{kk:G->M Bool}{me:G->M D}{γ:G}{h:AH}{r l:AH}{Q:D->AH->Prop}(J:Nat->List D->Int->Prop)
 (hs:W (mi γ) h λsrc h1=>∃k,PS h1 k (r++l)/\J 0 [] k/\(∀h k xs,PS h k (r++(l++[.lst xs]))->src.good h) /\
  (∀i d h k xs,src.items[i]?=some d->J i xs k->PS h k (r++(l++[.lst xs]))->W (g d (capG cap γ)) h λγ1 h1'=>W (kk γ1) h1' λt h2=>if t=true then W (me γ1) h2 λv h3=>∃k',PS h3 k' (r++(l++[.lst xs]))/\xs.length<1000000/\J (i+1) (xs++[v]) k' else ∃k',PS h2 k' (r++(l++[.lst xs]))/\J (i+1) xs k') /\
  ∀h' xs k,J src.items.length xs k->PS h' k (r++(l++[.lst xs]))->Q (.ref (r.length+l.length+3)) h'):W (z0C cap mi g kk me γ) h Q:=by
 refine zH9 ?_;refine hs.mono λsrc h1 ⟨k,p1,j0,good,st,fin⟩=>?_;have l1:h1.length=r.length+l.length+3:=by rw[p1.len,K04]
 refine⟨λi h'=>∃xs k,J i xs k/\PS h' k (r++(l++[.lst xs])),⟨[],k,j0,by rw[<- K10];exact p1.app _⟩,λi h' ⟨xs,k,_,p⟩=>good h' k xs p,?_,?_⟩
 ·rintro i d h2 hd ⟨xs,k,jx,p2⟩;refine(st i d h2 k xs hd jx p2).mono λγ1 h3 w3=>w3.mono λt h4 w4=>?_;cases t with
  | false=>rw[if_neg (by decide)]at w4 ⊢;obtain⟨k',p4,j4⟩:=w4;exact⟨xs,k',j4,p4⟩
  | true =>
   rw[if_pos rfl]at w4 ⊢;refine w4.mono λv h5 ⟨k',p5,lx,j5⟩=>?_;rw[l1,show r.length+l.length+3=r.length+l.length+3 from rfl];refine zj8 (i:=l.length) p5 (by simp) lx λh6 p6=>?_;refine⟨_,k',j5,?_⟩;rw[K1i _ _ (K01 _),K8a]at p6;exact p6
 ·rintro h2 ⟨xs,k,jx,p2⟩;rw[l1];exact fin h2 xs k jx p2
def lkD (kvs:List (Key×D)) (k:Key):Option D:=(kvs.find? λkv=>decide (kv.1=k)).map (·.2)
def ptD (kvs:List (Key×D)) (k:Key) (v:D):List (Key×D) :=
 if (kvs.any λkv=>decide (kv.1=k))=true then kvs.map (λkv=>if kv.1=k then (kv.1,v) else kv) else kvs++[(k,v)]
section
variable {K:K2}{ρ:List Addr}{H:Hp}
theorem RK.len:∀{kvs:List (Key×D)}{vs:List (Key×V)},RK K ρ H kvs vs->kvs.length=vs.length
 | _,_,.nil=>rfl
 | _,_,.cons _ b=>by simp[RK.len b]
theorem RK.lk (k:Key):∀{kvs:List (Key×D)}{vs:List (Key×V)},RK K ρ H kvs vs->(lkD kvs k=none/\valV vs k=none)\/∃d v,lkD kvs k=some d/\valV vs k=some v/\RD K ρ H d v
 | _,_,.nil=>.inl ⟨rfl,rfl⟩
 | p::kvs,q::vs,.cons a b=>by
  by_cases e:p.1=k
  ·refine .inr ⟨p.2,q.2,by simp[lkD,K39,e],z3j (a.1.symm.trans e),a.2⟩
  ·rw[z3l (λz=>e (a.1.trans z))];have:lkD (p::kvs) k=lkD kvs k:=by simp[lkD,K39,e]
   rw[this];exact RK.lk k b
theorem RK.any (k:Key):∀{kvs:List (Key×D)}{vs:List (Key×V)},RK K ρ H kvs vs->(kvs.any λkv=>decide (kv.1=k))=vs.any λkv=>decide (kv.1=k)
 | _,_,.nil=>rfl
 | _,_,.cons a b=>by rw[K26,K26,RK.any k b,a.1]
theorem RK.rep (k:Key) {d:D}{v:V}(r:RD K ρ H d v):∀{kvs:List (Key×D)}{vs:List (Key×V)},RK K ρ H kvs vs->RK K ρ H (kvs.map (λkv=>if kv.1=k then (kv.1,d) else kv)) (vs.map (λkv=>if kv.1=k then (kv.1,v) else kv))
 | _,_,.nil=>.nil
 | p::kvs,q::vs,.cons a b=>by
  rw[K0i,K0i];refine .cons ?_ (RK.rep k r b);by_cases e:p.1=k
  ·rw[if_pos e,if_pos (a.1.symm.trans e)];exact⟨a.1,r⟩
  ·rw[if_neg e,if_neg (λz=>e (a.1.trans z))];exact a
theorem RK.snoc {k:Key}{d:D}{v:V}(r:RD K ρ H d v):∀{kvs:List (Key×D)}{vs:List (Key×V)},RK K ρ H kvs vs->RK K ρ H (kvs++[(k,d)]) (vs++[(k,v)])
 | _,_,.nil=>.cons ⟨rfl,r⟩ .nil
 | _,_,.cons a b=>.cons a (RK.snoc r b)
theorem RK.put (k:Key) {d:D}{v:V}(r:RD K ρ H d v) {kvs:List (Key×D)}{vs:List (Key×V)}(q:RK K ρ H kvs vs):RK K ρ H (ptD kvs k d) (L2.putK vs k v):=by
 unfold ptD L2.putK;rw[q.any k];split
 ·exact q.rep k r
 ·exact q.snoc r
theorem zi8 {d:D}{k:Key}{v:V}(e:keyD d=some k) (r:RD K ρ H d v):v=kV k:=by
 cases d<;>simp only[keyD]at e<;>first|(cases e;simp only[RD]at r;exact r)|cases e
end
def getK (n:Nat):M (List (Key×D)):=λh=>match h[n]? with
 | some (.dK kvs)=>.ok kvs h
 | some (.dF kvs)=>.ok kvs h
 | _=>.bad
def newK (kvs:List (Key×D)):M D:=λh=>if kvs.length<=sizeLine then .ok (.ref h.length) (h++[.dK kvs]) else .bad
def dicD:D->M (List (Key×D))
 | .ref n=>getK n
 | _=>bad
def z3S:D->D->M D:=λx y=>do
 let kvs <- dicD x
 match keyD y with
 | some k=>(match lkD kvs k with
  | some d=>pure d
  | none=>bad)
 | none=>bad
def fInD (neg:Bool):D->D->M D:=λy x=>do
 let kvs <- dicD x
 match keyD y with
 | some k=>pure (.bl ((lkD kvs k).isSome != neg))
 | none=>bad
def z5Y:D->D->D->M Unit:=λo i v=>match o with
 | .ref n=>(match keyD i with
  | some k=>λh=>match h[n]? with
   | some (.dK kvs)=>if kvs.length<sizeLine then .ok () (h.set n (.dK (ptD kvs k v))) else .bad
   | _=>.bad
  | none=>bad)
 | _=>bad
def gDx (mo mi:G->M D):D->G->M G:=λv γ=>do
 let o <- mo γ;let i <- mi γ;let _ <- z5Y o i v
 pure γ
section
variable {X:Cx}{EX:XX}{a o i e f:Expr}{pos apos cpos:Pos}{mo mi ma mb:G->M D}
theorem z6Z {K:K2}{ρ:List Addr}{h:AH}{H:Hp}{x:D}{u:V}{Z:List (Key×D)->List Addr->AH->Hp->Prop}(r:RH K ρ h H) (rx:RD K ρ H x u) (fin:Fin K EX ρ H Z (dicD x h)):∃n a kvs vs,x=.ref n/\u=.ref a/\ρ[n]?=some a/\(h[n]?=some (.dK kvs)\/h[n]?=some (.dF kvs))/\Rd H a (.dK vs)/\RK K ρ H kvs vs/\Z kvs ρ h H:=by
 cases x<;>first|exact(show False from fin).elim|skip
 rename_i n;simp only[RD]at rx;obtain⟨a,rfl,hq⟩:=rx;unfold dicD getK at fin;dsimp only at fin;cases e:h[n]? with
 | none=>rw[e]at fin;exact fin.elim
 | some ob =>
  cases ob with
  | lst xs=>rw[e]at fin;exact fin.elim
  | set xs=>rw[e]at fin;exact fin.elim
  | dct=>rw[e]at fin;exact fin.elim
  | exc c=>rw[e]at fin;exact fin.elim
  | dK kvs =>
   rw[e]at fin;obtain⟨a1,n1,vs,o1,d1⟩:=r.at e;rw[hq]at n1;cases n1;exact⟨n,a,kvs,vs,rfl,rfl,hq,.inl e,.inl o1,d1,fin ρ H (Pre.refl _) (Ext.refl _ _) r⟩
  | dF kvs =>
   rw[e]at fin;obtain⟨a1,n1,ob,vs,o1,d1⟩:=r.at e;rw[hq]at n1;cases n1;exact⟨n,a,kvs,vs,rfl,rfl,hq,.inr e,.inr ⟨ob,o1⟩,d1,fin ρ H (Pre.refl _) (Ext.refl _ _) r⟩
theorem zH8:SE X EX (.Dict [] [] pos) (λ_=>newK []) :=
 ⟨PE.imp zc3 λσ H Q ⟨ρ,γ,h,rel,fin⟩ p hp=>by
  unfold newK at fin;dsimp only at fin;rw[if_pos (show ([]:List (Key×D)).length<=sizeLine from K35 _)]at fin;refine fin (ρ++[p]) _ (Pre.app _ _) (Ext.upd (.inl hp)) (rel.h.pushO hp ⟨[],z02,.nil⟩) _ ?_;simp only[RD];refine⟨p,rfl,?_⟩;rw[<- rel.h.len];simp⟩
theorem z2V (hu:X.A.units+1<cLine) (ha:SE X EX o mo) (hb:SE X EX i mi) (hs:NoSl i:=by intro _ _;rfl):SE X EX (.Subscript o i pos) (e2 z3S mo mi) :=
 ⟨PE.imp (zr6 hu ha.h hb.h hs) λσ H Q ⟨ρ,γ,h,rel,fin⟩=>⟨ρ,γ,h,rel,(Fin.bind fin).mono λx ρ1 h1 H1 p1 e1 r1 f1 v rv=>⟨ρ1,γ,h1,⟨rel.g.mono p1 e1,r1⟩,(Fin.bind f1).mono λy ρ2 h2 H2 p2 e2 r2 f2 w rw'=>by
  obtain⟨n,ad,kvs,vs,rfl,rfl,hn,hk,hH,rk,f3⟩:=z6Z r2 (rv.mono p2 e2) (Fin.bind f2);cases ek:keyD y with
  | none=>rw[ek]at f3;exact f3.elim
  | some k =>
   rw[ek]at f3;have:=zi8 ek rw';subst this;rcases rk.lk k with ⟨z1,_⟩|⟨d,u,z1,z2,rd⟩
   ·dsimp only at f3;rw[z1]at f3;exact f3.elim
   ·dsimp only at f3;rw[z1]at f3;refine⟨ad,u,rfl,?_,FE.here f3 r2 rd⟩;rw[<- z2];exact .inl ⟨vs,k,hH,rfl,rfl⟩⟩⟩⟩
def rInD (neg:Bool):R2:=λy x H Q=>∃ad ov,x=.ref ad/\DGet H ad y ov/\Q (.bl (ov.isSome != neg)) H
theorem zI8 (hu:X.A.units+1<cLine):OpR X (K1t .In) (rInD false):=by
 intro pins s σ H x y v u Q I rx ry h;obtain⟨ad,ov,rfl,g,q⟩:=h;cases ry;rw[K4q]at q;exact d_in hu I g rx λs' I'=>⟨.bl _,H,I',rfl,q⟩
theorem zt0 (hu:X.A.units+1<cLine):OpR X (K1t .NotIn) (rInD true):=by
 intro pins s σ H x y v u Q I rx ry h;obtain⟨ad,ov,rfl,g,q⟩:=h;cases ry;rw[K6i]at q;exact zx1 hu I g rx λs' I'=>⟨.bl _,H,I',rfl,q⟩
theorem zk7 {neg:Bool}:BR X.K EX (rInD neg) (fInD neg):=by
 intro ρ h H y x w v Q r ry rx fin;obtain⟨n,ad,kvs,vs,rfl,rfl,hn,hk,hH,rk,f3⟩:=z6Z r rx (Fin.bind fin);cases ek:keyD y with
 | none=>rw[ek]at f3;exact f3.elim
 | some k =>
  rw[ek]at f3;have:=zi8 ek ry;subst this;refine⟨ad,valV vs k,rfl,.inl ⟨vs,k,hH,rfl,rfl⟩,?_⟩;have:(valV vs k).isSome=(lkD kvs k).isSome:=by
   rcases rk.lk k with ⟨z1,z2⟩|⟨d,u,z1,z2,_⟩<;>rw[z1,z2]<;>rfl
  rw[this];exact FE.here f3 r (by simp[RD])
theorem zD6 (hu:X.A.units+1<cLine):CO X EX .In (fInD false):=⟨_,zI8 hu,zk7⟩
theorem zw3 (hu:X.A.units+1<cLine):CO X EX .NotIn (fInD true):=⟨_,zt0 hu,zk7⟩
def zV0:V->V->V->Hp->(Hp->Prop)->Prop:=λo i v H Q=>∃ad H',o=.ref ad/\DPut H ad i v H'/\Q H'
theorem set_dict (hu:X.A.units+1<cLine):PSet X zV0:=by
 intro pins s σ H o i v ov iv u Q I ro ri rv h;obtain⟨ad,H',rfl,g,q⟩:=h;cases ro;exact z9L hu I g ri rv λs' I'=>⟨H',I',q⟩
theorem zK6 (hu:X.A.units+1<cLine) (ho:SE X EX o mo) (hi:SE X EX i mi)
 (ha:∀v,assign (.Subscript o i pos) X.env v=(do
  let ov <- K41 [v] (eval o X.env);let iv <- K41 [v,ov] (eval i X.env)
  K6j pos
  K41 [v,ov,iv] (Z17 ov iv v)
  release [v,ov,iv] []):=by intro _;rfl):SG X EX (.Subscript o i pos) (gDx mo mi) :=
 ⟨PG.imp (zm6 ho.h hi.h (set_dict hu) ha) λv σ H Q ⟨ρ,γ,h,d,rel,rd,fin⟩=>⟨ρ,γ,h,rel,(Fin.bind fin).mono λod ρ1 h1 H1 p1 e1 r1 f1 ov ro=>⟨ρ1,γ,h1,⟨rel.g.mono p1 e1,r1⟩,(Fin.bind f1).mono λid ρ2 h2 H2 p2 e2 r2 f2 iv ri=>by
  have f3:=Fin.bind f2;cases od<;>first|exact(show False from f3).elim|skip
  rename_i n;unfold z5Y at f3;dsimp only at f3;cases ek:keyD id with
  | none=>rw[ek]at f3;exact f3.elim
  | some k =>
   rw[ek]at f3;have:=zi8 ek ri;subst this;simp only[RD]at ro;obtain⟨q,rfl,hq⟩:=ro;have hq2:=p2 n q hq;dsimp only at f3;cases e4:h2[n]? with
   | none=>rw[e4]at f3;exact f3.elim
   | some ob =>
    cases ob with
    | lst xs=>rw[e4]at f3;exact f3.elim
    | set ks=>rw[e4]at f3;exact f3.elim
    | dct=>rw[e4]at f3;exact f3.elim
    | exc c=>rw[e4]at f3;exact f3.elim
    | dF c=>rw[e4]at f3;exact f3.elim
    | dK kvs =>
     rw[e4]at f3;dsimp only at f3;split at f3
     ·rename_i hl;obtain⟨a1,n1,vs,o1,d1⟩:=r2.at e4;rw[hq2]at n1;cases n1;have rv:=(rd.mono p1 e1).mono p2 e2;refine⟨q,_,rfl,DPut.k o1 (by rw[<- d1.len];exact hl),?_⟩;have ext:Ext X.K H2 (upd H2 q (.dK (L2.putK vs k v))):=Ext.upd (.inr ⟨_,o1,trivial⟩);have r3:RH X.K ρ2 (h2.set n (.dK (ptD kvs k d))) (upd H2 q (.dK (L2.putK vs k v))):=r2.setO e4 hq2 ⟨_,z02,(d1.put k rv).mono (Pre.refl _) ext⟩;exact f3 ρ2 _ (Pre.refl _) ext r3 ρ2 _ (Pre.refl _) (Ext.refl _ _) r3 σ (((rel.g.mono p1 e1).mono p2 e2).mono (Pre.refl _) ext)
     ·exact f3.elim⟩⟩⟩
end
def orM {α:Type} (m n:M α):M α:=λh=>match m h with
 | .bad=>n h
 | r=>r
def orE {α:Type} (m n:G->M α):G->M α:=λγ=>orM (m γ) (n γ)
section
variable {X:Cx}{EX:XX}{e tg:Expr}
theorem zb5 {α:Type}(m n:M α) (h:AH):orM m n h=m h\/orM m n h=n h:=by
 unfold orM;cases m h with
 | bad=>exact .inr rfl
 | ok a b=>exact .inl rfl
 | err a b=>exact .inl rfl
theorem zW2 {m n:G->M Src}(a:SI X EX tg e m) (b:SI X EX tg e n):SI X EX tg e (orE m n) :=
 ⟨λpins s σ H Q I ⟨ρ,γ,h,rel,fin⟩=>by
  rcases zb5 (m γ) (n γ) h with z|z<;>rw[show orE m n γ h=orM (m γ) (n γ) h from rfl,z]at fin
  ·exact a.h pins s σ H Q I ⟨ρ,γ,h,rel,fin⟩
  ·exact b.h pins s σ H Q I ⟨ρ,γ,h,rel,fin⟩⟩
end
theorem or_l {α:Type}{m n:G->M α}{γ:G}{h h1:AH}{v:α}(e:m γ h=.ok v h1):orE m n γ h=.ok v h1:=by unfold orE orM;rw[e]
theorem or_r {α:Type}{m n:G->M α}{γ:G}{h:AH}(e:m γ h=.bad):orE m n γ h=n γ h:=by unfold orE orM;rw[e]
theorem W_of {α:Type}{m:M α}{h h1:AH}{v:α}{Q:α->AH->Prop}(e:m h=.ok v h1) (q:Q v h1):W m h Q:=⟨_,_,e,q⟩
def kvN (l:List Nat):List (Key×D):=l.map λ(i:Nat)=>(.inl (i:Int),.bl true)
theorem zo1 (l:List Nat):(kvN l).length=l.length:=by unfold kvN;simp
theorem z9u (l:List Nat) (x:Nat):((kvN l).any λkv=>decide (kv.1=.inl (x:Int)))=decide (x∈l):=by
 induction l with
 | nil=>rfl
 | cons a l ih =>
  have:kvN (a::l)=(.inl (a:Int),.bl true)::kvN l:=rfl;rw[this,K26,ih];by_cases e:a=x
  ·subst e;simp
  ·have h1:¬ (K3n (a:Int):Key)=.inl (x:Int):=λz=>e (by injection z with z;exact_mod_cast z);simp[h1,show ¬ x=a from λz=>e z.symm]
theorem zL0 (l:List Nat) (x:Nat):(lkD (kvN l) (.inl (x:Int))).isSome=decide (x∈l):=by
 unfold lkD;rw[K5t,List.isSome_find?];exact z9u l x
theorem zv1 (l:List Nat) {x:Nat}(h:x∉l):ptD (kvN l) (.inl (x:Int)) (.bl true)=kvN (l++[x]):=by
 unfold ptD;rw[z9u,decide_eq_false h];simp[kvN]
theorem zU9 {h:AH}{n:Nat}{l:List Nat}{x:Nat}{neg:Bool}(e:h[n]?=some (.dK (kvN l))):fInD neg (.int x) (.ref n) h=.ok (.bl (decide (x∈l) != neg)) h:=by
 have e1:dicD (.ref n) h=.ok (kvN l) h:=by unfold dicD getK;dsimp only;rw[e]
 unfold fInD;rw[M.bind_ok e1];have:keyD (.int x)=some (.inl (x:Int)):=rfl;rw[this];show Res.ok (D.bl ((lkD (kvN l) (.inl (x:Int))).isSome != neg)) h=_;rw[zL0]
theorem zF1 {h:AH}{n:Nat}{l:List Nat}{x:Nat}(e:h[n]?=some (.dK (kvN l))) (hx:x∉l) (hl:l.length<1000):z5Y (.ref n) (.int x) (.bl true) h=.ok () (h.set n (.dK (kvN (l++[x])))):=by
 have:keyD (.int x)=some (.inl (x:Int)):=rfl;unfold z5Y;dsimp only;rw[this];dsimp only;rw[e];dsimp only;rw[if_pos (by rw[zo1];unfold sizeLine;omega),zv1 l hx]
def putN (acc:List Nat) (k:Nat):List Nat:=if k∈acc then acc else acc++[k]
def dedN (l:List Nat):List Nat:=l.foldl putN []
theorem zg7 {a:List Nat}{k x:Nat}:x∈putN a k↔x∈a\/x=k:=by
 unfold putN;split
 ·exact⟨.inl,λh=>h.elim id λe=>by subst e;assumption⟩
 ·simp
theorem zt1 {a:List Nat}{k:Nat}(h:a.Nodup):(putN a k).Nodup:=by
 unfold putN;split
 ·exact h
 ·exact z5r h ‹_›
theorem z6K {x:Nat}:∀{l a:List Nat},x∈l.foldl putN a↔x∈a\/x∈l
 | [],a=>by simp
 | k::l,a=>by rw[K3o,z6K,zg7,K0c];exact or_assoc
theorem zb2:∀{l a:List Nat},a.Nodup->(l.foldl putN a).Nodup
 | [],_,h=>h
 | _::l,_,h=>zb2 (l:=l) (zt1 h)
theorem dedN_mem {l:List Nat}{x:Nat}:x∈dedN l↔x∈l:=by unfold dedN;rw[z6K];simp
theorem z84 (l:List Nat):(dedN l).Nodup:=zb2 K93
theorem z8G:∀(l a:List Nat),(kN l).foldl putK (kN a)=kN (l.foldl putN a)
 | [],a=>rfl
 | k::l,a=>by
  have e:putK (kN a) (.inl (k:Int))=kN (putN a k):=by
   unfold putN;split
   ·rename_i h;unfold putK;rw[if_pos (kN_mem.mpr h)]
   ·exact zG3 ‹_›
  show (kN l).foldl putK (putK (kN a) (.inl (k:Int)))=_;rw[e];exact z8G l (putN a k)
theorem zL1 (l:List Nat):dedK (kN l)=kN (dedN l):=z8G l []
theorem zf5 {l:List Nat}{n:Nat}(h:∀x∈l,x<n):(dedN l).length<=n:=z3H (z84 l) λx hx=>h x (dedN_mem.mp hx)
theorem z8c:∀l:List Nat,z4t (stD l)=some (kN l)
 | []=>rfl
 | a::l=>by
  have:z4t (stD (a::l))=(match keyD (.int (a:Int)),z4t (stD l) with
   | some k,some ks=>some (k::ks)
   | _,_=>none):=rfl
  rw[this,z8c l];rfl
def setN (l:List Nat):List Nat:=z40 (dedN l)
theorem setN_mem {l:List Nat}{x:Nat}:x∈setN l↔x∈l:=by unfold setN;rw[za9,dedN_mem]
theorem z2S (l:List Nat):(setN l).Pairwise (·<·):=z7w (z84 l)
theorem z9h {l:List Nat}(h:l.Pairwise (·<·)):l.Nodup:=h.imp λh=>K0g h
theorem z6H {l m:List Nat}(a:l.Pairwise (·<·)) (b:m.Pairwise (·<·)) (h:∀x,x∈l↔x∈m):l=m :=
 ((List.perm_ext_iff_of_nodup (z9h a) (z9h b)).mpr h).eq_of_pairwise (λ_ _ _ _ h1 h2=>absurd h2 (Nat.lt_asymm h1)) a b
theorem zi6 {l m:List Nat}(h:∀x,x∈l↔x∈m):setN l=setN m:=z6H (z2S l) (z2S m) λx=>by rw[setN_mem,setN_mem];exact h x
theorem z71 {l:List Nat}{n:Nat}(h:∀x∈l,x<n):(setN l).length<=n:=by unfold setN;rw[z3G];exact zf5 h
inductive RchT (st:List (List Nat)) (T:List Nat) (x:Nat):Nat->Prop
 | here:RchT st T x x
 | step {a b:Nat}:RchT st T x a->b∈nx st a->b∉T->RchT st T x b
theorem rchT_nil {st:List (List Nat)}{x a:Nat}:RchT st [] x a↔Rch st x a:=by
 constructor
 ·intro h;induction h with
  | here=>exact .here
  | step _ b _ ih=>exact .step ih b
 ·intro h;induction h with
  | here=>exact .here
  | step _ b ih=>exact .step ih b (by simp)
theorem z8b {st:List (List Nat)}{T:List Nat}{x a n:Nat}(q:∀a,∀b∈nx st a,b<n) (hx:x<n) (h:RchT st T x a):a<n:=by
 induction h with
 | here=>exact hx
 | step _ b _ _=>exact q _ _ b
theorem zw2 {st:List (List Nat)}{T:List Nat}{x:Nat}{S:List Nat}(hx:x∈S) (cl:∀a∈S,∀b∈nx st a,b∈S\/b∈T) {a:Nat}(h:RchT st T x a):a∈S:=by
 induction h with
 | here=>exact hx
 | step _ b c ih=>exact(cl _ ih _ b).resolve_right c
structure FndT (st:List (List Nat)) (T:List Nat) (x:Nat) (S:List Nat):Prop where
 nd:S.Nodup
 rc:∀a∈S,RchT st T x a
 hx:x∈S
 nt:∀a∈S,a∉T
theorem FndT.put {st:List (List Nat)}{T:List Nat}{x a b:Nat}{S:List Nat}(f:FndT st T x S) (ha:a∈S) (hb:b∈nx st a) (nb:b∉S) (nt:b∉T):FndT st T x (S++[b]) :=
 ⟨z5r f.nd nb,λc hc=>by
  rcases K0n.mp hc with q|q
  ·exact f.rc c q
  ·simp at q;subst q;exact .step (f.rc a ha) hb nt,K2g _ f.hx,λc hc=>by
  rcases K0n.mp hc with q|q
  ·exact f.nt c q
  ·simp at q;subst q;exact nt⟩
theorem FndT.one {st:List (List Nat)}{T:List Nat}{x:Nat}(h:x∉T):FndT st T x [x]:=⟨by simp,λa ha=>by simp at ha;subst ha;exact .here,by simp,λa ha=>by simp at ha;subst ha;exact h⟩
section
variable {ma me:G->M D}{mt:G->M Out}{γ:G}{h:AH}{a b i:Nat}{xs:List D}{v:D}{Q:Out->AH->Prop}
theorem z2C (e:h[i]?=.(l xs)):z22 (.ref i) h=.ok i h:=by unfold z22;dsimp only;rw[e]
theorem z7j (e:h[i]?=.(l xs)) (hl:xs.length<1000000):w6 i v h=.ok .non (h.set i (.lst (xs++[v]))):=by
 unfold w6 updL;rw[e];dsimp only;rw[if_pos (by simp[sizeLine];omega)]
theorem zR5 (e:h[i]?=.(l (xs++[v]))) (hl:xs.length<1000000):fPop i h=.ok v (h.set i (.lst xs)):=by
 unfold fPop updL;rw[e];dsimp only;rw[show (xs++[v])[(xs++[v]).length - 1]?=some v by simp,Option.map_some];dsimp only;rw[if_pos (by simp[sizeLine];omega),List.dropLast_concat]
theorem z10 (ea:γ[a]?=some (.(r i))) (e:h[i]?=.(l xs)) (hl:xs.length<1000000) (ev:me γ h=.ok v h) (z:W (mt γ) (h.set i (.lst (xs++[v]))) Q):W (Z3 (z0I (eM1 w6 (eVar a) me)) mt γ) h Q:=by
 refine z6r ?_;have e1:eVar a γ=pure (.ref i):=by unfold eVar;rw[ea]
 unfold eM1;rw[e1,z17,j3];refine W_of (z2C e) ?_;rw[j3];exact W_of ev (W_of (z7j e hl) z)
theorem zR6 (ea:γ[a]?=some (.(r i))) (e:h[i]?=.(l (xs++[v]))) (hl:xs.length<1000000) (z:W (mt (γ.set b (some v))) (h.set i (.lst xs)) Q):W (Z3 (sAsg (eM0 fPop (eVar a)) (gN b)) mt γ) h Q:=by
 refine z6T ?_;have e1:eVar a γ=pure (.ref i):=by unfold eVar;rw[ea]
 unfold eM0;rw[e1,z17,j3];exact W_of (z2C e) (W_of (zR5 e hl) z)
theorem zm4 {l:List Nat}{x:Nat}(ea:γ[a]?=some (.(r i))) (eb:γ[b]?=some (.(i x))) (e:h[i]?=some (.dK (kvN l))) (hx:x∉l) (hl:l.length<1000) (z:W (mt γ) (h.set i (.dK (kvN (l++[x])))) Q):W (Z3 (sAsg (λ_=>pure (.bl true)) (gDx (eVar a) (eVar b))) mt γ) h Q:=by
 have e1:eVar a γ=pure (.ref i):=by unfold eVar;rw[ea]
 have e2:eVar b γ=pure (.int x):=by unfold eVar;rw[eb]
 rw[w_cons];unfold sAsg gDx;rw[z17,e1,z17,e2,z17];rw[j3,j3];refine W_of (zF1 e hx hl) ?_;rw[W_pure,W_pure];exact z
theorem z3Y (hl:xs.length<=1000000) (ev:∀h,me γ h=newL xs h) (z:W (mt (γ.set a (.(r h.length)))) (h++[.lst xs]) Q):W (Z3 (sAsg me (gN a)) mt γ) h Q:=by
 refine z6T ?_;have:me γ=newL xs:=funext ev;rw[this];exact zS6 hl z
theorem zQ4 (ea:γ[a]?=some (.(r i))) (e:h[i]?=.(l xs)):cVal (eVar a) γ h=.ok (!xs.isEmpty) h:=by
 have e1:eVar a γ=pure (.ref i):=by unfold eVar;rw[ea]
 unfold cVal;rw[e1,z17];unfold truD;dsimp only;have e2:getL i h=.ok xs h:=by unfold getL;rw[e]
 rw[M.bind_ok e2];rfl
theorem j8 {f:List D->M D}{d:D}{h1:AH}{r:Res D}(e:me γ h=.ok d h1) (e2:f [d] h1=r):j7 f (Z1 me aNil) γ h=r:=by
 have:Z1 me aNil γ h=.ok [d] h1:=by
  show (me γ >>= λx=>(do let r <- aNil γ;pure (x::r):M (List D))) h=_;rw[M.bind_ok e];rfl
 show (Z1 me aNil γ >>= f) h=_;rw[M.bind_ok this];exact e2
theorem z3I (e:h[i]?=.(l xs)):Y2 [.ref i] h=.ok (.tup xs) h:=by
 have ft:Y2 [.ref i]=(do let x <- getL i;pure (.tup x)):=rfl;have g:getL i h=.ok xs h:=by unfold getL;rw[e]
 rw[ft,M.bind_ok g];rfl
theorem z4B (e:h[i]?=.(l xs)):fLen [.ref i] h=.ok (.int xs.length) h:=by
 have ft:fLen [.ref i]=(do let x <- getL i;pure (.int x.length)):=rfl;have g:getL i h=.ok xs h:=by unfold getL;rw[e]
 rw[ft,M.bind_ok g];rfl
theorem ix_h {t:Int}{d:D}(e:h[i]?=.(l xs)) (a:atI xs t=some d):fIx (.ref i) (.int t) h=.ok d h:=by
 have ft:fIx (.ref i) (.int t)=(do let xs <- getL i;match atI xs t with|some d=>pure d|none=>bad):=rfl;have g:getL i h=.ok xs h:=by unfold getL;rw[e]
 rw[ft,M.bind_ok g,a];rfl
theorem z8S {ss:List Str}(e:h[i]?=.(l (ss.map .str))) (hl:ss.length<64):z2z [.ref i] h=.ok (.ref h.length) (h++[.lst ((z2R ss).map .str)]):=by
 have fs:z2z [.ref i]=(do
  let xs <- getL i
  if xs.length<64 then (match z4C xs with
   | some ss=>newL ((z2R ss).map .str)
   | none=>(match z5V xs with
    | some ns=>newL ((sortI ns).map .int)
    | none=>bad)) else bad):=rfl
 have g:getL i h=.ok (ss.map .str) h:=by unfold getL;rw[e]
 rw[fs,M.bind_ok g,if_pos (by simpa using hl),strs_map];dsimp only;unfold newL;rw[if_pos (by rw[K4,z5v];unfold sizeLine;omega)]
theorem zq6 (e:me γ h=.ok (.ref h.length) (h++[.lst xs])) (c:k6 0 xs=true):clE (j7 Y2 (Z1 me aNil)) γ h=.ok (.tup xs) h :=
 z0H (j:=[.lst xs]) (j8 e (z3I (by simp))) (by simp only[y8];exact z28 (K35 _) c)
theorem cb_h {b:Bool}{h1:AH}(e:me γ h=.ok (.bl b) h1):(λγ=>(do let d <- me γ;asB d:M Bool)) γ h=.ok b h1:=by
 dsimp only;rw[M.bind_ok e];rfl
theorem z13 {n:Nat}{mb:G->M Out}{ds:List D}{d:D}{h1:AH}(z:W (mb (z1l n ds)) h (runW λa h'=>a=d/\h'=h1)):runF n mb ds h=.ok d h1:=by
 obtain⟨_,_,a,rfl,rfl⟩:=z23 z;exact a
end
theorem z82 {f:D->D->Option Bool}{ι:Type} [DecidableEq ι] {enc:ι->D}(e:∀a b,f (enc a) (enc b)=some (decide (a=b))):∀l m:List ι,eqZ f (l.map enc) (m.map enc)=some (decide (l=m))
 | [],[]=>by simp[eqZ]
 | [],b::m=>by simp[eqZ]
 | a::l,[]=>by simp[eqZ]
 | a::l,b::m=>by
  rw[K0i,K0i];unfold eqZ;rw[e a b,z82 e l m];dsimp only;congr 1;rw[K17];simp
theorem z9F {n:Nat}{h:AH}(a b:Str):eqN (n+1) h (.str a) (.str b)=some (decide (a=b)):=by
 show some (a==b)=_;congr 1
theorem zq1 {ι:Type} [DecidableEq ι] {enc:ι->D}{n:Nat}{h:AH}(e:∀a b,eqN n h (enc a) (enc b)=some (decide (a=b))) (l m:List ι):eqN (n+1) h (.tup (l.map enc)) (.tup (m.map enc))=some (decide (l=m)):=z82 e l m
theorem z8V {neg:Bool}{h:AH}{x y:D}{b:Bool}(e:eqN 24 h x y=some b):fEqX neg x y h=.ok (.bl (b != neg)) h:=by
 unfold fEqX;rw[e]
section
variable {ma mb:G->M D}{γ:G}{h h1 h2:AH}
theorem e2_h {f:D->D->M D}{x y:D}{r:Res D}(e1:ma γ h=.ok x h1) (e2':mb γ h1=.ok y h2) (e3:f x y h2=r):e2 f ma mb γ h=r:=by
 show (ma γ >>= λx=>(mb γ >>= λy=>f x y)) h=_;rw[M.bind_ok e1,M.bind_ok e2',e3]
theorem fn_h {n:Nat}{f:List D->M D}{mr:G->M (List D)}{ds:List D}{r:Res D}(e:mr γ h=.ok ds h1) (hn:ds.length=n) (e2:f ds h1=r):eFn n f mr γ h=r:=by
 show (mr γ >>= λxs=>if xs.length=n then f xs else bad) h=_;rw[M.bind_ok e,if_pos hn,e2]
theorem ac_h {mr:G->M (List D)}{d:D}{ds:List D}(e:ma γ h=.ok d h1) (e2:mr γ h1=.ok ds h2):Z1 ma mr γ h=.ok (d::ds) h2:=by
 show (ma γ >>= λx=>(mr γ >>= λr=>(pure (x::r):M (List D)))) h=_;rw[M.bind_ok e,M.bind_ok e2];rfl
end
section
variable {prog:K0d}{w:World}{A:Around}{E:Value->Shared->Prop}{s:Shared}
end
section
variable {X:Cx}{EX:XX}{a o:Expr}{pos apos cpos p:Pos}{mo ma:G->M D}{mr:G->M (List D)}
def tBMT (K:K2) (r:V->List V->Hp->VK->Prop) (to:TE) (t:TA):TE:=λσ H Q=>to σ H λx H1=>(∃a xs,x=.ref a/\SqT K H1 a xs)/\t σ H1 λvs H2=>r x vs H2 Q
theorem tup_is {pins:List (Addr×Obj)}{σ:L2.St}{H:Hp}{s:Shared}{a:Addr}{xs:List V}(I:Inv X pins σ H s) (h:SqT X.K H a xs):s.TypeIs (.ref a) "tuple"/\∀b,K1s a=.ref b->∃ob,s.heap.get? b=some ob/\ob.dict=none:=by
 rcases h with h|⟨o,its,n,hk,hc,_⟩
 ·obtain⟨z,its,r,o,e,c,d⟩:=h.ok I.hok;exact⟨⟨o,e,c.1⟩,λb eb=>by cases eb;exact⟨o,e,c.2⟩⟩
 ·exact⟨⟨o,I.kIn a o hk,hc.1⟩,λb eb=>by cases eb;exact⟨o,I.kIn _ o hk,hc.2⟩⟩
theorem zD7 {e:Expr}{es:List Expr}{to:TE}{t:TA}{name:Str}{id:String}{r:V->List V->Hp->VK->Prop}(pa:PlainAttrs "tuple") (slot:Slot "tuple" name id) (hty:typeOf (.builtin id)=pure (.type "method_descriptor")) (hm:MtR X id r) (ho:PE X o to) (ha:PA X (e::es) t)
 (hbase:K3z o name X.env (eval o X.env)=eval o X.env:=by rfl)
 (hfew:((backTo cpos (K05 (e::es) X.env)).all (λx=>!x.1)&&(K4f cpos (K2x [] X.env)).all (λx=>x.1.isSome)
 &&decide ((e::es).length+([]:List K42).length+(if ([]:List K42).isEmpty then 0 else 1)<30))=true:=by rfl)
 (hline:(apos.endLine==cpos.line)=true:=by rfl) (hs:K05 (e::es) X.env=(false,eval e X.env)::K05 es X.env:=by rfl) (hplain:(backTo cpos (K05 es X.env)).any (·.1)=false:=by rfl) :
 PE X (.Call (.Attribute o name apos) (e::es) [] cpos) (tBMT X.K r to t):=by
 intro pins s σ H Q I h;refine K8n hbase hfew hline rfl (thn (ho pins s σ H _ I h) λv s1 ⟨x,H1,I1,r1,ty,q1⟩=>?_);obtain⟨a,xs,rfl,hq⟩:=ty;cases r1;obtain⟨h1,h2⟩:=tup_is I1 hq;refine⟨"tuple",id,pa,slot,hty,h1,h2,?_⟩;have hA:=ha cpos pins s1 σ H1 _ I1 q1;rw[hs]at hA ⊢;refine K60 (by show (false||(backTo cpos (K05 es X.env)).any (·.1))=false;rw[hplain]<;>rfl) (K96 ?_);exact thn hA λus s2 ⟨vs,H2,I2,r2,q2⟩=>hm pins s2 σ H2 (.ref a) vs (.ref a) us Q I2 rfl r2 q2
end
theorem z29 {h:AH}{o:O}:(h++[o])[h.length]?=some o:=by simp
theorem z8x {h:AH}{o o':O}:(h++[o]).set h.length o'=h++[o']:=by simp
section
variable {mo ma:G->M D}{γ:G}{h:AH}{i x:Nat}{l:List Nat}
end
section
variable {me ma:G->M D}{kb:G->M Bool}{γ:G}{h h1:AH}{a i:Nat}{b:Bool}{xs:List D}
theorem cv_h (e:me γ h=.ok (.bl b) h1):cVal me γ h=.ok b h1:=by
 unfold cVal;rw[M.bind_ok e];rfl
theorem cn_h (e:kb γ h=.ok b h1):cNot kb γ h=.ok (!b) h1:=by
 unfold cNot;rw[M.bind_ok e];rfl
theorem Z6 {d:D}(e:γ[a]?=some (some d)):eVar a γ h=.ok d h:=by unfold eVar;rw[e];rfl
theorem zO5 {bs:List Bool}(e:me γ h=.ok (.ref h.length) (h++[.lst (bs.map .bl)])):clE (j7 (fAll false) (Z1 me aNil)) γ h=.ok (.bl (bs.all id)) h :=
 z0H (j:=[.lst (bs.map .bl)]) (j8 e (by
  have g:getL h.length (h++[O.lst (bs.map .bl)])=.ok (bs.map .bl) (h++[O.lst (bs.map .bl)]):=by unfold getL;rw[z29]
  unfold fAll;dsimp only;rw[M.bind_ok g,z66];rfl)) rfl
theorem zH3 (e:me γ h=.ok (.ref i) h) (q:h[i]?=.(l xs)):z19 me γ h=.ok (.lst i xs) h:=by
 have g:getL i h=.ok xs h:=by unfold getL;rw[q]
 unfold z19;rw[M.bind_ok e];dsimp only;rw[M.bind_ok g];rfl
theorem z0Z (e:me γ h=.ok (.tup xs) h1):z0J me γ h=.ok (.con xs) h1:=by
 unfold z0J;rw[M.bind_ok e];rfl
theorem zX5 (e:me γ h=.ok (.ref i) h) (q:h[i]?=.(l xs)):orE (z0J me) (z19 me) γ h=.ok (.lst i xs) h:=by
 rw[or_r]
 ·exact zH3 e q
 ·unfold z0J;rw[M.bind_ok e];rfl
theorem zX4 (e:me γ h=.ok (.tup xs) h1):orE (z0J me) (z19 me) γ h=.ok (.con xs) h1:=or_l (z0Z e)
theorem zv3 {cap:List (Option Nat)}{mi:G->M Src}{g:D->G->M G}{src:Src}{l:List Nat}(p:Nat->Bool) (f:Nat->D) (hi:mi γ h=.ok src h) (hs:src.items=stD l) (hg:∀j,src.good (h++j)) (hl:l.length<=1000000)
 (hd:∀x∈l,∃γ1,(∀h,g (.int x) (capG cap γ) h=.ok γ1 h)/\(∀j,kb γ1 (h++j)=.ok (p x) (h++j))/\(p x=true->∀j,me γ1 (h++j)=.ok (f x) (h++j))):z0C cap mi g kb me γ h=.ok (.ref h.length) (h++[.lst ((l.filter p).map f)]):=by
 refine(z1A (src:=src) (λd=>match d with|.int t=>p t.toNat|_=>false) (λd=>match d with|.int t=>f t.toNat|_=>.non) hi hg (by rw[hs,z1Y];exact hl) λd hd'=>?_).trans ?_
 ·rw[hs]at hd';obtain⟨x,hx,rfl⟩:=K0r.mp hd';exact hd x hx
 ·rw[hs];unfold stD;rw[K8r,K16];rfl
end
theorem zk0 {ma mb:G->M D}{γ:G}{h h1 h2:AH}{x y:D}(e1:ma γ h=.ok x h1) (e2':mb γ h1=.ok y h2):eTup (Z1 ma (Z1 mb aNil)) γ h=.ok (.tup [x,y]) h2:=by
 have e3:Z1 ma (Z1 mb aNil) γ h=.ok [x,y] h2:=ac_h e1 (ac_h e2' rfl);unfold eTup;rw[M.bind_ok e3];rfl
def rowAt (row:List Nat) (o:Nat):Nat:=(row[o]?).getD 0
def led (st:List (List Nat)) (row:List Nat) (x:Nat):List Nat:=setN ((nx st x).map (rowAt row))
section
variable {raw:List Nat}
end
section
variable {bst st:List (List Nat)}{bmk mk:List (List Str)}{raw:List Nat}
end
theorem z7f {s:Shared}{M:Model}{A:Around}{a:Addr}{T id:String}{E:Value->Shared->Prop}{Q:Bool->Shared->Prop}(h:s.TypeIs (.ref a) T) (sl:Slot T (K2o "__iter__") id) (q:Q false s):wpAny M A (notIterableAtAll (.ref a)) Q E s:=by
 unfold notIterableAtAll;refine K1 (K8s h sl.lookup ?_);exact K6 q
def zV2 (K:K2) (ta:TE) (tr:TA):TA:=λσ H Q=>ta σ H λx H1=>∃a xs,x=.ref a/\(SqT K H1 a xs\/SqL K H1 a xs)/\tr σ H1 λys H2=>Q (xs++ys) H2
section
variable {X:Cx}{EX:XX}{e:Expr}{es:List Expr}{te:TE}{t:TA}{p pos:Pos}{ma:G->M D}{mr:G->M (List D)}
theorem zz0 (ha:PE X e te) (hr:PA X es t):PA X (.Starred e p::es) (zV2 X.K te t):=by
 intro pos pins s σ H Q I h;rw[arm_starEach_Starred];show wpAny _ _ (spliced ((true,do let v <- eval e X.env;K6j pos;pure v)::backTo pos (K05 es X.env))) _ _ s;refine PySem.W.ks_spliced (thn (ha pins s σ H _ I h) λu s1 ⟨x,H1,I1,r1,q1⟩=>?_);obtain⟨a,xs,rfl,hq,q⟩:=q1;cases r1;rcases hq with hq|hq
 ·obtain⟨its,rv,pl,hz⟩:=I1.tuple hq;have hl:=rv.length;obtain⟨o,ho,hc,n,hd⟩:=id pl;refine z7f ⟨o,ho,hc⟩ PySem.F.slot_tuple_iter ⟨rfl,wpAny_collect_seq a (.inr rfl) ho hc hd (λh' kp=>?_) (by rw[K9];omega)⟩;have I2:Inv X pins σ H1 { s1 with heap:=h' }:=I1.kept (t':=s1.toks) kp;exact thn (hr pos pins _ σ H1 _ I2 q) λus s3 ⟨ys,H3,I3,r3,q3⟩=>⟨xs++ys,H3,I3,by simpa using rv.append r3,q3⟩
 ·obtain⟨its,rv,pl,hz⟩:=I1.list hq;have hl:=rv.length;obtain⟨o,n,ho,hc,hdd,hd⟩:=id pl;refine z7f ⟨o,ho,hc⟩ PySem.F.slot_list_iter ⟨rfl,wpAny_collect_seq a (.inl rfl) ho hc hd (λh' kp=>?_) (by rw[K9];omega)⟩;have I2:Inv X pins σ H1 { s1 with heap:=h' }:=I1.kept (t':=s1.toks) kp;exact thn (hr pos pins _ σ H1 _ I2 q) λus s3 ⟨ys,H3,I3,r3,q3⟩=>⟨xs++ys,H3,I3,by simpa using rv.append r3,q3⟩
def z5W (ma:G->M D) (mr:G->M (List D)):G->M (List D):=λγ=>do
 let x <- ma γ
 match x with
 | .tup xs=>do
  let r <- mr γ
  pure (xs++r)
 | .ref n=>do
  let xs <- getL n;let r <- mr γ
  pure (xs++r)
 | _=>bad
theorem z9f (ha:SE X EX e ma) (hr:SA X EX es mr):SA X EX (.Starred e p::es) (z5W ma mr) :=
 ⟨PA.imp (zz0 ha.h hr.h) λσ H Q ⟨ρ,γ,h,rel,fin⟩=>⟨ρ,γ,h,rel,(Fin.bind fin).mono λx ρ1 h1 H1 p1 e1 r1 f1 v rv=>by
  cases x<;>first|exact(show False from f1).elim|skip
  ·rename_i xs;simp only[RD]at rv;obtain⟨q,vs,rfl,h2,h3⟩:=rv;exact⟨q,vs,rfl,.inl h2,ρ1,γ,h1,⟨rel.g.mono p1 e1,r1⟩,(Fin.bind f1).mono λds ρ2 h4 H2 p2 e2 r2 f2 ws rws =>
    f2 ρ2 H2 (Pre.refl _) (Ext.refl _ _) r2 (vs++ws) ((h3.mono p2 e2).append rws)⟩
  ·rename_i n;simp only[RD]at rv;obtain⟨q,rfl,hq⟩:=rv;have f2:=Fin.bind f1;cases e3:getL n h1 with
   | bad=>rw[e3]at f2;exact f2.elim
   | err z hz=>exact(z0V e3).elim
   | ok xs h3 =>
    obtain⟨rfl,q1⟩:=z0S e3;rw[e3]at f2;obtain⟨a1,n1,vs,o1,d1⟩:=r1.at q1;rw[hq]at n1;cases n1;have f3:=f2 ρ1 H1 (Pre.refl _) (Ext.refl _ _) r1;exact⟨_,vs,rfl,.inr (SqL.of o1),ρ1,γ,_,⟨rel.g.mono p1 e1,r1⟩,(Fin.bind f3).mono λds ρ2 h4 H2 p2 e2 r2 f2 ws rws =>
     f2 ρ2 H2 (Pre.refl _) (Ext.refl _ _) r2 (vs++ws) ((d1.mono p2 e2).append rws)⟩⟩⟩
end
end FT
namespace L2
section
variable {X:Cx}{tg:Expr}
end
end L2
namespace FT
section
variable {X:Cx}{EX:XX}{a b c tg:Expr}{p p2 pos pos2:Pos}{ma mb mc:G->M D}
end
end FT
namespace L2
section
variable {X:Cx}
end
end L2
namespace FT
section
variable {X:Cx}{EX:XX}{a b:Expr}{p p2 pos pos2:Pos}{ma mb:G->M D}
end
section
variable {X:Cx}{EX:XX}
end
section
variable {X:Cx}{EX:XX}{elt tg iter tg1 iter1:Expr}{ifs1:List Expr}{sc:Scope}{pos:Pos}{N':List Str}{cap:List (Option Nat)}{own own1:List Nat}{mi mi1:G->M Src}{g g1:D->G->M G}{k:G->M Bool}{me:G->M D}
end
def cnt (st:List (List Nat)):Nat->Nat->Nat
 | 0,_=>1
 | n+1,x=>((nx st x).map (cnt st n)).sum
def zV3 (w:List Nat):Nat:=w.getLast?.getD 0
def ext (st:List (List Nat)) (left:Nat) (w:List Nat):List (List Nat):=((nx st (zV3 w)).filter λy=>decide (0<cnt st left y)).map λy=>w++[y]
section
variable {st:List (List Nat)}
end
open Classical in
theorem z3i {ι:Type}{cap:List (Option Nat)}{mi:G->M Src}{g:D->G->M G}{kb:G->M Bool}{me:G->M D}{γ:G}{h h1:AH}{src:Src}{l:List ι}(enc:ι->D) (inj:∀x y,enc x=enc y->x=y) (p:ι->Bool) (f:ι->D) (hi:mi γ h=.ok src h) (hs:src.items=l.map enc) (hg:∀j,src.good (h++j)) (hl:l.length<=1000000)
 (hd:∀x∈l,∃γ1,(∀h,g (enc x) (capG cap γ) h=.ok γ1 h)/\(∀j,kb γ1 (h++j)=.ok (p x) (h++j))/\(p x=true->∀j,me γ1 (h++j)=.ok (f x) (h++j))):z0C cap mi g kb me γ h=.ok (.ref h.length) (h++[.lst ((l.filter p).map f)]):=by
 let p':D->Bool:=λd=>if e:∃x,enc x=d then p e.choose else false
 let f':D->D:=λd=>if e:∃x,enc x=d then f e.choose else .non
 have ep:∀x,p' (enc x)=p x:=λx=>by
  have e:∃y,enc y=enc x:=⟨x,rfl⟩;show (if e:∃y,enc y=enc x then p e.choose else false)=_;rw[dif_pos e,inj _ _ e.choose_spec]
 have ef:∀x,f' (enc x)=f x:=λx=>by
  have e:∃y,enc y=enc x:=⟨x,rfl⟩;show (if e:∃y,enc y=enc x then f e.choose else .non)=_;rw[dif_pos e,inj _ _ e.choose_spec]
 refine(z1A (src:=src) p' f' hi hg (by rw[hs,K4];exact hl) λd hd'=>?_).trans ?_
 ·rw[hs]at hd';obtain⟨x,hx,rfl⟩:=K0r.mp hd';rw[ep,ef];exact hd x hx
 ·rw[hs,K8r,K16];rw[show (p' ∘ enc)=p from funext ep,show (f' ∘ enc)=f from funext ef]
end FT
namespace L2
open PySem.AutoSeq1 (wpAny_loadPart')
section
variable {P:K0d}{w:World}{A:Around}{E:Value->Shared->Prop}{s:Shared}{I t:Addr}
end
section
variable {X:Cx}{tg:Expr}
end
end L2
namespace FT
section
variable {X:Cx}{EX:XX}{a tg:Expr}{p pos:Pos}{ma:G->M D}
end
end FT
namespace L2
open PySem.AutoSeq1 (wpAny_loadPart')
section
variable {X:Cx}
end
end L2
namespace FT
section
variable {X:Cx}{EX:XX}{a o:Expr}{cpos apos:Pos}{ma mo:G->M D}
end
section
variable {ka kb:G->M Bool}{γ:G}{h:AH}{r:Res Bool}
theorem z4S (e1:ka γ h=.ok false h) (e2':kb γ h=r):cOr ka kb γ h=r:=by
 unfold cOr;rw[M.bind_ok e1,if_neg (by decide)];exact e2'
end
theorem zH1 {xs:List D}{h:AH}(hl:xs.length<=1000000):newL xs h=.ok (.ref h.length) (h++[.lst xs]):=by
 unfold newL;rw[if_pos (K0x hl (by decide))]
theorem zz9 {k:G->M Bool}{body:G->M Out}{mt:G->M Out}{n m:Nat}{γ:G}{h:AH}{Q:Out->AH->Prop}(I:Nat->G->AH->Prop) (hm:m<n) (i0:I m γ h)
 (z:∀m γ h,I m γ h->∃b,k γ h=.ok b h/\if b=true then ∃m',m=m'+1/\W (body γ) h (forW (λγ h=>∃i,i<=m'/\I i γ h) λ_ _=>False) else W (mt γ) h Q):W (Z3 (z26 k body n) mt γ) h Q:=by
 rw[w_cons];refine(z2I I (λγ h=>W (mt γ) h Q) (λ_ _=>False) (λm γ h q=>?_) n m γ h hm i0).mono λo h1 q=>?_
 ·obtain⟨b,e,q1⟩:=z m γ h q;exact W_of e q1
 ·cases o with
  | nx γ=>exact q
  | rt d=>exact q.elim
  | bk d=>exact q.elim
  | ct d=>exact q.elim
def z7N (n:Nat) (i v:D):M Unit:=z5Y (.ref n) i v
noncomputable def z3a (src:Src) (g:D->G->M G) (k:G->M Bool) (me mv:G->M D) (n0:Nat) (γ:G):List D->M Unit
 | []=>do
  let _ <- src.chk
  pure ()
 | d::r=>do
  let _ <- src.chk;let γ1 <- g d γ;let t <- k γ1
  if t then do
   let y <- me γ1;let v <- mv γ1;let _ <- z7N n0 y v
   z3a src g k me mv n0 γ r
  else z3a src g k me mv n0 γ r
noncomputable def z6y (cap:List (Option Nat)) (mi:G->M Src) (g:D->G->M G) (k:G->M Bool) (me mv:G->M D):G->M D:=λγ=>do
 let src <- mi γ;let n0 <- (λh=>.ok h.length (h++[.dK []]):M Nat);let _ <- z3a src g k me mv n0 (capG cap γ) src.items
 pure (.ref n0)
section
variable {X:Cx}{EX:XX}{elt val tg iter c:Expr}{ifs:List Expr}{sc:Scope}{pos:Pos}{N':List Str}{cap:List (Option Nat)}{own:List Nat}{mi:G->M Src}{g:D->G->M G}{k kr:G->M Bool}{me mv:G->M D}
theorem zB1 {σ0:L2.St}{ρ0:List Addr}{n0:Nat}{Dd:Addr}(hD:ρ0[n0]?=some Dd):HB X EX own σ0 ρ0 (λγ1 K=>do let y <- me γ1;let v <- mv γ1;let _ <- z7N n0 y v;K) (bPut (tE X.K EX me) (tE X.K EX mv) Dd):=λ{σ γ1 ρ h H P K Z} p0 _ rg rh fin hz=>by
 refine⟨ρ,γ1,h,⟨rg,rh⟩,(Fin.bind fin).mono λyd ρ5 h5 H5 p5 e5 r5 f5 y ry=>⟨ρ5,γ1,h5,⟨rg.mono p5 e5,r5⟩,(Fin.bind f5).mono λd ρ6 h6 H6 p6 e6 r6 f6 v rv=>?_⟩⟩;have hq:ρ6[n0]?=some Dd:=((p0.trans p5).trans p6) _ _ hD;have f7:=Fin.bind f6;unfold z7N z5Y at f7;dsimp only at f7;cases ek:keyD yd with
 | none=>rw[ek]at f7;exact f7.elim
 | some kk =>
  rw[ek]at f7;dsimp only at f7;have hy:=zi8 ek ry;cases e7:h6[n0]? with
  | none=>rw[e7]at f7;exact f7.elim
  | some ob =>
   cases ob<;>first|(rw[e7]at f7;exact f7.elim)|skip
   rename_i kvs;rw[e7]at f7;dsimp only at f7;split at f7
   ·rename_i hl;obtain⟨a1,n1,vs,o1,d1⟩:=r6.at e7;rw[hq]at n1;cases n1;have ext2:Ext X.K H6 (upd H6 Dd (.dK (L2.putK vs kk v))):=Ext.upd (.inr (r6.tracked hq e7));have r7:RH X.K ρ6 (h6.set n0 (.dK (ptD kvs kk d))) (upd H6 Dd (.dK (L2.putK vs kk v))):=r6.setO e7 hq ⟨_,z02,(d1.put kk rv).mono (Pre.refl _) ext2⟩;have hl2:=d1.len;exact⟨kk,vs,hy,o1,by omega,hz ρ6 _ _ (p5.trans p6) ((e5.trans e6).trans ext2) r7 (f7 ρ6 _ (Pre.refl _) ext2 r7)⟩
   ·exact f7.elim
theorem zi7 (he:∀s H fp xe,SE (X.comp N' sc s H fp xe) EX elt me) (hv:∀s H fp xe,SE (X.comp N' sc s H fp xe) EX val mv):CmA X EX (.DictComp elt val [⟨tg,iter,ifs,0⟩] sc pos) sc tg iter ifs N' cap own mi g k (.dK []) (λn0 γ1 K=>do let y <- me γ1;let v <- mv γ1;let _ <- z7N n0 y v;K) (λsrc n0 γ=>z3a src g k me mv n0 γ) :=
 ⟨⟨_,_,_,_,bPut (tE X.K EX me) (tE X.K EX mv),zt6,λρ H Dd=>⟨[],z02,.nil⟩,λD s H fp xe=>zn6 (he s H fp xe).h (hv s H fp xe).h,λ_ hD=>zB1 hD⟩,λ_ _ _=>rfl,λ_ _ _ _ _=>rfl⟩
theorem zf0 (hc:X.calm=true) (S:CS X sc N' cap) (hi:SI X EX tg iter mi) (hg:∀s H fp xe,SGk (X.comp N' sc s H fp xe) EX tg own g) (ht:∀s H fp xe,SCs (X.comp N' sc s H fp xe) EX ifs k)
 (he:∀s H fp xe,SE (X.comp N' sc s H fp xe) EX elt me) (hv:∀s H fp xe,SE (X.comp N' sc s H fp xe) EX val mv) (hown:∀j∈own,cap[j]?=some none:=by decide) (hs:∀x,K24 iter X.env x=pure x:=by intro _;rfl):SE X EX (.DictComp elt val [⟨tg,iter,ifs,0⟩] sc pos) (z6y cap mi g k me mv) :=
 zF6 (zi7 he hv) hc S hi hg ht hown hs
end
end FT
namespace L2
section
variable {X:Cx}{tg:Expr}
end
end L2
namespace FT
section
variable {X:Cx}{EX:XX}{a tg:Expr}{ma:G->M D}
end
end FT
namespace L2
section
variable {X:Cx}{tg:Expr}
end
end L2
namespace FT
section
variable {X:Cx}{EX:XX}{a tg:Expr}{p pos:Pos}{ma:G->M D}
end
section
variable {P:K0d}{w:World}{A:Around}{E:Value->Shared->Prop}{s:Shared}
end
section
variable {X:Cx}{EX:XX}{p pos:Pos}
end
section
variable {st:List (List Nat)}{x y z:Nat}
end
structure KS where
 seen:List Nat
 ord:List Nat
 wt:List (Nat×Bool)
section
variable {st:List (List Nat)}{V:List Nat}{s:KS}
end
section
variable {st:List (List Nat)}{V:List Nat}{s:KS}
end
section
variable {s1 s2:List (List Nat)}{V:List Nat}
end
section
variable {st:List (List Nat)}{V:List Nat}{s:KS}
end
section
variable {cap:List (Option Nat)}{mi:G->M Src}{g:D->G->M G}{kb:G->M Bool}{me mv:G->M D}{γ:G}
end
theorem sm0 {h:AH}{o o':O}{j:AH}:(h++o::j).set h.length o'=h++o'::j:=by rw[K1i _ _ (K01 _),K8a];rfl
section
variable {X:Cx}{EX:XX}{elt val tg iter tg1 iter1:Expr}{ifs1:List Expr}{sc:Scope}{pos:Pos}{N':List Str}{cap:List (Option Nat)}{own own1:List Nat}{mi mi1:G->M Src}{g g1:D->G->M G}{k:G->M Bool}{me mv:G->M D}
end
end FT
namespace L2
section
variable {X:Cx}
end
end L2
namespace FT
section
variable {X:Cx}{EX:XX}{a:Expr}{mr:G->M (List D)}{p pos:Pos}
end
section
variable {X:Cx}{EX:XX}{a o:Expr}{p pos cpos apos:Pos}{ma mo:G->M D}{mr:G->M (List D)}
end
section
variable {α:Type}{us:List α}
theorem ar1 (hl:us.length=1):∃a,us=[a]:=match us,hl with|[a],_=>⟨a,rfl⟩
theorem ar2 (hl:us.length=2):∃a b,us=[a,b]:=match us,hl with|[a,b],_=>⟨a,b,rfl⟩
theorem ar3 (hl:us.length=3):∃a b c,us=[a,b,c]:=match us,hl with|[a,b,c],_=>⟨a,b,c,rfl⟩
theorem ar4 (hl:us.length=4):∃a b c d,us=[a,b,c,d]:=match us,hl with|[a,b,c,d],_=>⟨a,b,c,d,rfl⟩
theorem ar5 (hl:us.length=5):∃a b c d e,us=[a,b,c,d,e]:=match us,hl with|[a,b,c,d,e],_=>⟨a,b,c,d,e,rfl⟩
end
section
variable {X:Cx}{EX:XX}{k v:Expr}{pos:Pos}{mk mv:G->M D}
end
section
variable {prog:K0d}{w:World}{h₀:Heap}
end
section
variable {X:Cx}{pins:List (Addr×Obj)}{σ:L2.St}{H:Hp}{s:Shared}{ρ:List Addr}{h:AH}
end
section
variable {X:Cx}{EX:XX}{a:Expr}{p pos:Pos}{mr:G->M (List D)}
end
def Ths (P:Nat->D->Prop):Nat->List D->Prop
 | _,[]=>True
 | n,x::xs=>∃a b,P a x/\Ths P b xs/\a+b+2<=n
def Th (r:AH) (B:Nat):Nat->Nat->D->Prop
 | 0,_,_=>False
 | _+1,n,.non=>4<=n
 | _+1,n,.bl _=>5<=n
 | _+1,n,.int i=>i.natAbs<=B/\40<=n
 | _+1,n,.str x=>(reprText x).length<=n/\x.length<=1000
 | m+1,n,.tup xs=>∃a,Ths (Th r B m) a xs/\a+4<=n
 | _+1,_,.fl _=>False
 | m+1,n,.ref i=>∃j,i=j+3/\((∃xs a,r[j]?=.(l xs)/\Ths (Th r B m) a xs/\a+4<=n)\/(r[j]?=some (.dK [])\/r[j]?=some (.dK [(.inr "a",.int 1)])/\1<=m)/\40<=n)
section
variable {P P':Nat->D->Prop}{n m:Nat}{xs ys:List D}{d:D}
end
section
variable {X:Cx}{EX:XX}{mr:G->M (List D)}
end
section
variable {n i:Nat}{mf:List D->M D}{mr:G->M (List D)}{okf:Str->Bool}{ms mt:G->M Out}{γ:G}{h h1 h2:AH}{xs:List D}{Q:Out->AH->Prop}
end
section
variable {prog:K0d}{w:World}{A:Around}{E:Value->Shared->Prop}{s:Shared}
end
section
variable {X:Cx}{EX:XX}{mr:G->M (List D)}
end
section
variable {X:Cx}{EX:XX}{a:Expr}{elts:List Expr}{kk:Nat}{p pos pt:Pos}{ma:G->M D}
end
mutual
def z1g:D->Bool
 | .int _=>true
 | .str _=>true
 | .bl _=>true
 | .non=>true
 | .tup xs=>z04 xs
 | _=>false
def z04:List D->Bool
 | []=>true
 | d::r=>z1g d&&z04 r
end
theorem z3r {d:D}:∀{ds:List D},z04 ds=true->d∈ds->z1g d=true
 | [],_,h=>by cases h
 | x::r,p,h=>by
  simp only[z04,K0f]at p;rcases K0c.mp h with rfl|h
  ·exact p.1
  ·exact z3r p.2 h
section
variable {X:Cx}{pins:List (Addr×Obj)}{σ:L2.St}{H:Hp}{s:Shared}{ρ:List Addr}
mutual
theorem RD.one (I:Inv X pins σ H s):∀{z z':D}{v:V},z1g z=true->z1g z'=true->RD X.K ρ H z v->RD X.K ρ H z' v->z=z'
 | .non,z',v,_,p,h,h'=>by
  simp only[RD]at h;subst h;cases z'<;>simp_all [RD,z1g]
 | .bl b,z',v,_,p,h,h'=>by
  simp only[RD]at h;subst h;cases z'<;>simp_all [RD,z1g]
 | .int i,z',v,_,p,h,h'=>by
  simp only[RD]at h;subst h;cases z'<;>simp_all [RD,z1g]
 | .str x,z',v,_,p,h,h'=>by
  simp only[RD]at h;subst h;cases z'<;>simp_all [RD,z1g]
 | .tup ds,z',v,q,p,h,h'=>by
  simp only[RD]at h;obtain⟨a,xs,rfl,h2,h3⟩:=h;cases z' with
  | tup ds' =>
   simp only[RD]at h';obtain⟨a',xs',e,h5,h6⟩:=h';cases e;have e2:=I.tuple_inj h5 h2;subst e2;simp only[z1g]at q p;rw[RDs.one I q p h3 h6]
  | non=>simp[RD]at h'
  | bl b=>simp[RD]at h'
  | int b=>simp[RD]at h'
  | str b=>simp[RD]at h'
  | fl b=>simp[z1g]at p
  | ref b=>simp[z1g]at p
 | .fl ds,z',v,q,p,h,h'=>by simp[z1g]at q
 | .ref ds,z',v,q,p,h,h'=>by simp[z1g]at q
theorem RDs.one (I:Inv X pins σ H s):∀{ds ds':List D}{xs:List V},z04 ds=true->z04 ds'=true->RDs X.K ρ H ds xs->RDs X.K ρ H ds' xs->ds=ds'
 | [],ds',xs,_,_,h,h'=>by
  simp only[RDs]at h;subst h;cases ds' with
  | nil=>rfl
  | cons d r=>simp[RDs]at h'
 | d::r,ds',xs,q,p,h,h'=>by
  simp only[RDs]at h;obtain⟨x,xr,rfl,h2,h3⟩:=h;cases ds' with
  | nil=>simp[RDs]at h'
  | cons d' r' =>
   simp only[RDs]at h';obtain⟨x',xr',e,h5,h6⟩:=h';cases e;simp only[z04,K0f]at q p;rw[RD.one I q.1 p.1 h2 h5,RDs.one I q.2 p.2 h3 h6]
end
theorem zg0 {w w':V}{y:Value}(h:L2.RelV w y) (h':L2.RelV w' y):w=w':=by
 cases w<;>cases w'<;>simp only[L2.RelV]at h h'<;>first
  | (subst h;cases h';rfl)
  | (obtain⟨t,rfl⟩:=h;obtain⟨t',e⟩:=h';cases e;rfl)
  | (obtain⟨t,rfl⟩:=h;obtain⟨t',e⟩:=h';cases e;done)
  | (obtain⟨t,rfl⟩:=h;cases h';done)
  | (subst h;obtain⟨t',e⟩:=h';cases e;done)
  | (subst h;cases h';done)
open Classical in
theorem z6W {h:AH}{d:D}{ds:List D}{x:V}{v:Value}{xs:List V}{its:List Value}{b:Bool}(hu:X.A.units+30<cLine) (I:Inv X pins σ H s) (rh:RH X.K ρ h H) (pd:z04 ds=true) (rx:RD X.K ρ H d x) (wx:RelV x v) (rs:RDs X.K ρ H ds xs) (ws:Vals xs its) (e:inZ h d ds=some b) :
 ∃f:Value->Bool,(∀y∈its,K6a X.A.in1 s y v (f y))/\∀(i:Nat) (y:Value) (z:D),its[i]?=some y->ds[i]?=some z->(f y=true↔eqN 24 h z d=some true):=by
 obtain⟨q1,q2⟩:=z2H e;have ex:∀y∈its,∃a z w,z∈ds/\RD X.K ρ H z w/\RelV w y/\eqN 24 h z d=some a:=λy hy=>by
  obtain⟨j,hj⟩:=K2h hy;have lj:=(K7.mp hj).1;have a1:xs[j]?=some (xs[j]'(by rw[ws.length];exact lj)):=K5 _;obtain⟨y',c1,a2⟩:=ws.get a1;rw[hj]at c1;cases c1;obtain⟨z,b1,b2⟩:=rs.getV a1;have zm:=K08 b1;obtain⟨a,c⟩:=q1 z zm;exact⟨a,z,_,zm,b2,a2,c⟩
 have key:∀y∈its,∀a,(∃z w,z∈ds/\RD X.K ρ H z w/\RelV w y/\eqN 24 h z d=some a)->K6a X.A.in1 s y v a:=λy hy a ⟨z,w,zm,r1,r2,c⟩ =>
  (deq I rh 24 (A:=X.A.in1) (show X.A.units+1+24<cLine by omega) r1 rx r2 wx c).1
 refine⟨λy=>decide (∃z w,z∈ds/\RD X.K ρ H z w/\RelV w y/\eqN 24 h z d=some true),λy hy=>?_,λi y z hy hz=>?_⟩
 ·by_cases c:∃z w,z∈ds/\RD X.K ρ H z w/\RelV w y/\eqN 24 h z d=some true
  ·dsimp only;rw[decide_eq_true c];exact key y hy true c
  ·dsimp only;rw[decide_eq_false c];obtain⟨a,z,w,g⟩:=ex y hy;cases a with
   | false=>exact key y hy false ⟨z,w,g⟩
   | true=>exact absurd ⟨z,w,g⟩ c
 ·obtain⟨w,a1,a2⟩:=rs.get hz;obtain⟨y',b1,b2⟩:=ws.get a1;rw[hy]at b1;cases b1;have zm:=K08 hz;rw[decide_eq_true_eq];constructor
  ·rintro⟨z',w',zm',r1,r2,c⟩;rw[zg0 r2 b2]at r1;rw[RD.one I (z3r pd zm) (z3r pd zm') a2 r1];exact c
  ·exact λc=>⟨z,w,zm,a2,b2,c⟩
end
section
variable {X:Cx}{EX:XX}{o a:Expr}{apos cpos:Pos}{mo ma:G->M D}
def z2v (h:AH) (y:D) (xs:List D):Nat:=xs.findIdx λz=>decide (eqN 24 h z y=some true)
def zx0 (K:K2):V->List V->Hp->VK->Prop:=λx vs H Q=>∃ρ h l d ds u xs,x=.ref l/\vs=[u]/\RH K ρ h H/\RD K ρ H d u/\SqL K H l xs/\RDs K ρ H ds xs/\z04 ds=true/\ds.length<=100000/\inZ h d ds=some true/\Q (.int (z2v h d ds:Nat)) H
theorem z81 (hu:X.A.units+40<cLine):MtR X "list.index" (zx0 X.K):=by
 intro pins s σ H x vs v us Q I rx rv h;obtain⟨ρ,h,l,d,ds,u,xs,rfl,rfl,rh,rd,hq,rs,pd,hl,e,q⟩:=h;cases rx;obtain⟨w,rfl,rw'⟩:=rv.one;obtain⟨its,ws,pl,hz⟩:=I.list hq;obtain⟨f,f1,f2⟩:=z6W (by omega) I rh pd rd rw' rs ws e;obtain⟨⟨cls,dd,data,sl⟩,ho,hc,n,hd⟩:=id pl.isList;simp only at hc hd;subst hc hd;have l1:ds.length=its.length:=by rw[rs.length,ws.length]
 have hj:z2v h d ds<ds.length:=by
  obtain⟨_,q2⟩:=z2H e;obtain⟨z,zm,c⟩:=q2.mp rfl;exact K65 ⟨z,zm,decide_eq_true c⟩
 have at_:∀{m:Nat} (hm:m<its.length) ,f its[m]=decide (eqN 24 h (ds[m]'(by omega)) d=some true):=λ{m} hm=>by
  have:=f2 m its[m] (ds[m]'(by omega)) (K5 hm) (K5 (by omega));rw[K17,this,decide_eq_true_eq]
 refine K3y K82 ⟨_,ho,rfl⟩ PySem.F.entry_list_index (PySem.F.args_list_index_2 _ _)
  (PySem.SeqAt.list_indexAt l its.toArray n dd sl w f (z2v h d ds) (by simpa [<- l1] using hj) (by omega) ?_ ?_) ⟨ho,λy hy=>?_,⟨.int _,H,I.tok _,⟨_,rfl⟩,q⟩⟩
 ·show f its[z2v h d ds]=true;rw[at_ (by omega)];exact K99 (p:=λz=>decide (eqN 24 h z d=some true)) (w:=hj)
 ·intro m hm hlt;show f its[m]=false;rw[at_ (by simpa using hm)];have:=K8k (p:=λz=>decide (eqN 24 h z d=some true)) (xs:=ds) (i:=m) hlt;simpa using this
 ·exact f1 y (by simpa using hy)
def ixX (xs:List D) (y:D):M D:=λh=>if z04 xs=true/\xs.length<=100000/\inZ h y xs=some true then .ok (.int (z2v h y xs:Nat)) h else .bad
def z09 (n:Nat) (y:D):M D:=do
 let xs <- getL n
 ixX xs y
theorem z1a (hu:X.A.units+40<cLine) (ho:SE X EX o mo) (ha:SE X EX a ma)
 (hbase:K3z o "index" X.env (eval o X.env)=eval o X.env:=by rfl)
 (hfew:((backTo cpos (K05 [a] X.env)).all (λx=>!x.1)&&(K4f cpos (K2x [] X.env)).all (λx=>x.1.isSome)
 &&decide (([a]:List Expr).length+([]:List K42).length+(if ([]:List K42).isEmpty then 0 else 1)<30))=true:=by rfl)
 (hline:(apos.endLine==cpos.line)=true:=by rfl) (hs:K05 [a] X.env=[(false,eval a X.env)]:=by rfl) :
 SE X EX (.Call (.Attribute o "index" apos) [a] [] cpos) (eM1 z09 mo ma) :=
 ⟨PE.imp (zq7 K43 K82 PySem.F.type_list_index (z81 hu) ho.h (z1B ha.h z2N hs) hbase hfew hline hs rfl) (zn8 λρ h H n q y u Q r hq ru fin=>by
  have f2:Fin X.K EX ρ H _ _:=Fin.bind (show Fin X.K EX ρ H (λd ρ' _ H'=>∀v,RD X.K ρ' H' d v->Q v H') ((getL n >>= λxs=>ixX xs y) h) from fin);cases e3:getL n h with
  | bad=>rw[e3]at f2;exact f2.elim
  | err z hz=>exact(z0V e3).elim
  | ok xs h3 =>
   obtain⟨rfl,q1⟩:=z0S e3;rw[e3]at f2;obtain⟨a1,n1,vs,o1,d1⟩:=r.at q1;rw[hq]at n1;cases n1;have f3:FE X.K EX ρ H Q (ixX xs y _):=f2 ρ H (Pre.refl _) (Ext.refl _ _) r;unfold ixX at f3;split at f3
   ·rename_i c;exact⟨ρ,_,_,y,xs,u,vs,rfl,rfl,r,ru,SqL.of o1,d1,c.1,c.2.1,c.2.2,FE.here f3 r (by simp[RD])⟩
   ·exact f3.elim)⟩
theorem hu40 {A:Around}{k:Nat}(hr:Room k A):A.units+40<cLine:=K74 (K6v (by decide:40<=64) _) hr.units
end
abbrev Bl:=List (Nat×List Nat)
section
variable {n:Nat}{bl:Bl}
end
theorem z3m {m:M D}{h h0:AH}{i:Nat}{o:O}{j:AH}(e:m h=.ok (.ref i) (h0++j)) (l0:h0.length=h.length) (kp:Kept h h0) (hi:h.length<=i) (ei:(h0++j)[i]?=some o) (c:refO h.length o=true):cln m h=.ok (.ref h.length) (h0++[o]):=by
 have kp':Kept h (h0++j):=λi o li e=>kp i o li (by rw[K0w (by omega)]at e;exact e);unfold cln;rw[e];dsimp only;rw[if_pos ⟨by rw[K04];omega,kp'⟩,if_neg (by simp only[y8,decide_eq_true_eq];omega),ei];dsimp only;rw[if_pos c,<- l0,Z14 rfl]
theorem zs5 {m:M D}{h h0:AH}{d:D}{j:AH}(e:m h=.ok d (h0++j)) (l0:h0.length=h.length) (kp:Kept h h0) (c:y8 0 d=true):cln m h=.ok d h0:=by
 have kp':Kept h (h0++j):=λi o li e=>kp i o li (by rw[K0w (by omega)]at e;exact e);unfold cln;rw[e];dsimp only;rw[if_pos ⟨by rw[K04];omega,kp'⟩,if_pos (z2M (K35 _) c),<- l0,Z14 rfl]
theorem zf9 {h:AH}{b:Nat}{o:O}(c:refO h.length o=true):Kept h (h.set b o):=λi u li e=>by
 by_cases q:b=i
 ·subst q;rw[K1a li]at e;cases e;exact .inr c
 ·rw[K1f q]at e;exact .inl e
theorem z3f (h:AH):Kept h h:=λ_ _ _ e=>.inl e
theorem z5h {kvs:List (Key×D)}{k:Key}{v:D}(h:k∉kvs.map (·.1)):ptD kvs k v=kvs++[(k,v)]:=by
 unfold ptD;rw[if_neg];rw[K6e];rintro⟨p,hp,q⟩;exact h (K0r.mpr ⟨p,hp,of_decide_eq_true q⟩)
section
variable {cap:List (Option Nat)}{mi mi1:G->M Src}{g g1:D->G->M G}{kb:G->M Bool}{me mv:G->M D}{γ:G}
theorem z8D {h:AH}{n:Nat}{kvs:List (Key×D)}{y v:D}{k:Key}(e:h[n]?=some (.dK kvs)) (hk:keyD y=some k) (hl:kvs.length<1000000) (nk:k∉kvs.map (·.1)):z7N n y v h=.ok () (h.set n (.dK (kvs++[(k,v)]))):=by
 unfold z7N z5Y;dsimp only;rw[hk];dsimp only;rw[e];dsimp only;rw[if_pos (K0j hl (by decide)),z5h nk]
theorem z7a {γ':G}(f:D->Key×D) (src:Src) (h1:AH) (hg:∀j,src.good (h1++j)):∀(rest:List D) (kvs:List (Key×D)),(kvs.map (·.1)++rest.map λd=>(f d).1).Nodup->kvs.length+rest.length<=1000 ->
 (∀d∈rest,∃γ1 y,(∀h,g d γ' h=.ok γ1 h)/\(∀h,kb γ1 h=.ok true h)/\keyD y=some (f d).1/\(∀j,me γ1 (h1++j)=.ok y (h1++j))/\∀j,mv γ1 (h1++j)=.ok (f d).2 (h1++j)) ->
 z3a src g kb me mv h1.length γ' rest (h1++[.dK kvs])=.ok () (h1++[.dK (kvs++rest.map f)])
 | [],kvs,nd,hl,hd=>by
  unfold z3a;have c1:src.chk (h1++[.dK kvs])=.ok () (h1++[.dK kvs]):=by unfold Src.chk;rw[if_pos (hg _)]
  rw[M.bind_ok c1];simp
 | d::rest,kvs,nd,hl,hd=>by
  obtain⟨γ1,y,e1,e2,e3,e4,e5⟩:=hd d (by simp);have nk:(f d).1∉kvs.map (·.1):=λq=>(K21.mp nd).2.2 _ q _ (by simp) rfl;have c1:src.chk (h1++[.dK kvs])=.ok () (h1++[.dK kvs]):=by unfold Src.chk;rw[if_pos (hg _)]
  have c5:=z8D (n:=h1.length) (v:=(f d).2) (z29 (h:=h1) (o:=.dK kvs)) e3 (by rw[K07]at hl;omega) nk;rw[z8x]at c5;have ih:=z7a (γ':=γ') f src h1 hg rest (kvs++[f d]) (by rw[K0z,K10];exact nd) (by rw[K04];simp at hl ⊢;omega) λx hx=>hd x (by simp[hx]);unfold z3a;rw[M.bind_ok c1,M.bind_ok (e1 _),M.bind_ok (e2 _),if_pos rfl,M.bind_ok (e4 _),M.bind_ok (e5 _),M.bind_ok c5,ih];simp
theorem zz7 {h h1:AH}{src:Src}(f:D->Key×D) (hi:mi γ h=.ok src h1) (hg:∀j,src.good (h1++j)) (nd:(src.items.map λd=>(f d).1).Nodup) (hl:src.items.length<=1000)
 (hd:∀d∈src.items,∃γ1 y,(∀h,g d (capG cap γ) h=.ok γ1 h)/\(∀h,kb γ1 h=.ok true h)/\keyD y=some (f d).1/\(∀j,me γ1 (h1++j)=.ok y (h1++j))/\∀j,mv γ1 (h1++j)=.ok (f d).2 (h1++j)) :
 z6y cap mi g kb me mv γ h=.ok (.ref h1.length) (h1++[.dK (src.items.map f)]):=by
 have r:=z7a (γ':=capG cap γ) (kb:=kb) (me:=me) (mv:=mv) (g:=g) f src h1 hg src.items [] (by simpa using nd) (by simpa using hl) hd;unfold z6y;rw[M.bind_ok hi];show (z3a src g kb me mv h1.length (capG cap γ) src.items >>= λ_=>(pure (D.ref h1.length):M D)) (h1++[O.dK []])=_;rw[M.bind_ok r];simp
end
theorem z2q {m:M D}{h:AH}{d:D}(e:m h=.ok d h) (c:y8 0 d=true):cln m h=.ok d h:=z0H (j:=[]) (by rw[e,K2c]) (z2M (K35 h.length) c)
theorem z1E {ma:G->M D}{γ:G}{h:AH}{d:D}{T:String}{b:Bool}(e1:ma γ h=.ok d h) (e2':fIsi T d h=.ok (.bl b) h):eIsi T ma γ h=.ok (.bl b) h:=by
 unfold eIsi;rw[M.bind_ok e1,e2']
theorem zU6 {me:G->M D}{γ:G}{h:AH}{bs:List Bool}(e:me γ h=.ok (.ref h.length) (h++[.lst (bs.map .bl)])):clE (j7 (fAll true) (Z1 me aNil)) γ h=.ok (.bl (bs.any id)) h :=
 z0H (j:=[.lst (bs.map .bl)]) (j8 e (by
  have g:getL h.length (h++[O.lst (bs.map .bl)])=.ok (bs.map .bl) (h++[O.lst (bs.map .bl)]):=by unfold getL;rw[z29]
  unfold fAll;dsimp only;rw[M.bind_ok g,z66];rfl)) rfl
section
variable {st:List (List Nat)}{mk:List (List Str)}{H:List Nat}
end
inductive Sy where
 | yes
 | mark (s:Str)
 | step (k:Nat)
 | neg (k:Nat)
 | con (a b:Nat)
abbrev Tru:=List (List Bool)
def tv (T:Tru) (i x:Nat):Bool:=(((T[i]?).getD [])[x]?).getD false
section
variable {st:List (List Nat)}{mk:List (List Str)}{R:List Sy}{r:Sy}{T S:Tru}{i x:Nat}{bl:Bl}
end
theorem z5z {prog:K0d}{w:World}{A:Around}{E:Value->Shared->Prop}{s:Shared}{t:Addr}{vs:List Value}{v:Value}{f:Value->Bool}{j:Nat}{Q:Value->Shared->Prop}(ht:IsTup s.heap t vs.toArray) (hf:∀y∈vs,K6a A.in1 s y v (f y)) (hj:j<vs.length) (hit:f vs[j]=true) (hno:∀m (hm:m<vs.length),m<j->f vs[m]=false) (h:Q (.int j s.toks) { s with toks:=s.toks+1 }) :
 wpAny (model prog w) A (call (.builtin "tuple.index") [.ref t,v]) Q E s:=by
 have hT:s.heap.IsTuple t vs.toArray:=ht;obtain⟨o,ho,hc,n,hd⟩:=id hT;refine K1p F.slot_tuple_index ⟨o,ho,hc⟩ F.entry_tuple_index ?_ (F.args_tuple_index_2 _ _);unfold Builtin.«tuple.index»
 wp_walk
 rw[hd];refine K6 ?_;refine K6 ?_;dsimp only;refine K1 (K6 ?_);refine K1 (K6 ?_);refine K1 ?_;rw[Std.Legacy.Range.forIn_eq_forIn_range'];simp only[Std.Legacy.Range.size,Nat.sub_zero,Nat.add_sub_cancel,Nat.div_one,Nat.min_self,K9];refine wpAny_forIn_list _
  (λrest b s'=>s'=s/\b=(none,())/\∃i,rest=K92 i (vs.length - i)/\i<=j)
  _ ?_ ?_ _ _ ⟨rfl,rfl,0,by simp,K35 _⟩
 ·rintro x rest b s' ⟨rfl,rfl,i,hr,hle⟩;have hlt:i<vs.length:=by omega
  obtain⟨rfl,hrest⟩:x=i/\rest=K92 (i+1) (vs.length - (i+1)):=by
   have e:vs.length - i=(vs.length - (i+1))+1:=by omega
   rw[e,K7z]at hr;injection hr with h1 h2
   exact⟨h1,h2⟩
  have e1:vs.toArray[x]?=some vs[x]:=by simp[hlt]
  rw[e1];dsimp only;refine K1 (hf _ (K30 hlt) prog w _ _ ?_);by_cases e3:x=j
  ·subst e3;rw[hit,if_pos rfl]
   wp_walk
   exact⟨_,rfl,h⟩
  ·rw[hno x hlt (by omega),if_neg (by decide)];exact K6 ⟨rfl,rfl,x+1,hrest,by omega⟩
 ·rintro b s' ⟨rfl,rfl,i,hr,hle⟩;have:vs.length - i=0:=by
   cases e:vs.length - i with
   | zero=>rfl
   | succ m=>rw[e,K7z]at hr;cases hr
  omega
section
variable {X:Cx}{EX:XX}{o a:Expr}{apos cpos:Pos}{mo ma:G->M D}
def zi4 (K:K2):V->List V->Hp->VK->Prop:=λx vs H Q=>∃ρ h l d ds u xs,x=.ref l/\vs=[u]/\RH K ρ h H/\RD K ρ H d u/\SqT K H l xs/\RDs K ρ H ds xs/\z04 ds=true/\inZ h d ds=some true/\Q (.int (z2v h d ds:Nat)) H
theorem z7Z (hu:X.A.units+40<cLine):MtR X "tuple.index" (zi4 X.K):=by
 intro pins s σ H x vs v us Q I rx rv h;obtain⟨ρ,h,l,d,ds,u,xs,rfl,rfl,rh,rd,hq,rs,pd,e,q⟩:=h;cases rx;obtain⟨w,rfl,rw'⟩:=rv.one;obtain⟨its,ws,pl,hz⟩:=I.tuple hq;obtain⟨f,f1,f2⟩:=z6W (by omega) I rh pd rd rw' rs ws e;have l1:ds.length=its.length:=by rw[rs.length,ws.length]
 have hj:z2v h d ds<ds.length:=by
  obtain⟨_,q2⟩:=z2H e;obtain⟨z,zm,c⟩:=q2.mp rfl;exact K65 ⟨z,zm,decide_eq_true c⟩
 have at_:∀{m:Nat} (hm:m<its.length) ,f its[m]=decide (eqN 24 h (ds[m]'(by omega)) d=some true):=λ{m} hm=>by
  have:=f2 m its[m] (ds[m]'(by omega)) (K5 hm) (K5 (by omega));rw[K17,this,decide_eq_true_eq]
 refine z5z pl f1 (by omega:z2v h d ds<its.length) ?_ (λm hm hlt=>?_) ⟨.int _,H,I.tok _,⟨_,rfl⟩,q⟩
 ·rw[at_ (by omega)];exact K99 (p:=λz=>decide (eqN 24 h z d=some true)) (w:=hj)
 ·rw[at_ (by omega)];have:=K8k (p:=λz=>decide (eqN 24 h z d=some true)) (xs:=ds) (i:=m) hlt;simpa using this
def z2l (mo ma:G->M D):G->M D:=λγ=>do
 let o <- mo γ
 match o with
 | .tup xs=>do
  let y <- ma γ
  ixX xs y
 | _=>bad
theorem z45 (hu:X.A.units+40<cLine) (ho:SE X EX o mo) (ha:SE X EX a ma)
 (hbase:K3z o "index" X.env (eval o X.env)=eval o X.env:=by rfl)
 (hfew:((backTo cpos (K05 [a] X.env)).all (λx=>!x.1)&&(K4f cpos (K2x [] X.env)).all (λx=>x.1.isSome)
 &&decide (([a]:List Expr).length+([]:List K42).length+(if ([]:List K42).isEmpty then 0 else 1)<30))=true:=by rfl)
 (hline:(apos.endLine==cpos.line)=true:=by rfl) (hs:K05 [a] X.env=[(false,eval a X.env)]:=by rfl) :
 SE X EX (.Call (.Attribute o "index" apos) [a] [] cpos) (z2l mo ma) :=
 ⟨PE.imp (zD7 PySem.F.plainAttrs_tuple PySem.F.slot_tuple_index PySem.F.type_tuple_index (z7Z hu) ho.h (z1B ha.h z2N hs) hbase hfew hline hs rfl) λσ H Q ⟨ρ,γ,h,rel,fin⟩=>⟨ρ,γ,h,rel,(Fin.bind fin).mono λx ρ1 h1 H1 p1 e1 r1 f1 v rv=>by
  cases x<;>first|exact(show False from f1).elim|skip
  rename_i xs;simp only[RD]at rv;obtain⟨q,vs,rfl,h2,h3⟩:=rv;exact⟨⟨q,vs,rfl,h2⟩,ρ1,γ,h1,⟨rel.g.mono p1 e1,r1⟩,(Fin.bind f1).mono λy ρ2 h4 H2 p2 e2 r2 f2 u ru=>by
   have f3:FE X.K EX ρ2 H2 Q (ixX xs y _):=f2;unfold ixX at f3;split at f3
   ·rename_i c;exact⟨ρ2,_,_,y,xs,u,vs,rfl,rfl,r2,ru,e2.t _ _ h2,h3.mono p2 e2,c.1,c.2.2,FE.here f3 r2 (by simp[RD])⟩
   ·exact f3.elim⟩⟩⟩
end
end FT
namespace L2
section
variable {P:K0d}{w:World}{A:Around}{E:Value->Shared->Prop}{s:Shared}
theorem z4z:K8e (.type "tuple") "keys" = pure none:=by rw[K8u,K69];kernel_rfl
theorem zy8 {a:Addr}{xs:Array Value}{k:Nat}{sl:Array (Option Value)}{Q:Option Value->Shared->Prop}(hx:s.heap.get? a=some { cls:=.type "tuple",dict:=none,data:=.seq xs k,slots:=sl }) (hA:A.handled=none)
 (h:∀h' tk,(∀b ob,s.heap.get? b=some ob->h'.get? b=some ob)->Q none { s with heap:=h',toks:=tk }):wpAny (model P w) A (getAttr? (.ref a) "keys") Q E s:=by
 obtain⟨hp,g,d,tk,os⟩:=s;have hT:∀tk',(⟨hp,g,d,tk',os⟩:Shared).TypeIs (.ref a) "tuple":=λ_=>⟨_,hx,rfl⟩;have f1:=sub_AttributeError;have f3:=F.slot_tuple_getattribute.lookup;have f4:=F.slot_tuple_getattribute.bind (.ref a);have f5:=am_tuple_getattr_none;unfold getAttr? getAttrBy? getAttrBy
 repeat (any_goals (first|assumption|exact hT _|((with_reducible show wpAny _ _ (call (Value.builtin "tuple.__getattribute__") _ _) _ _ _);refine K3y F.slot_tuple_getattribute (hT _) am_entry_tuple_getattribute (F.args_tuple_getattribute_2 _ _) (meets_getattribute_miss_tuple a xs k sl "keys" _ z4z (by decide +kernel) (by decide)) ⟨hx,hA,λh' tk' e hx'=>?_⟩)|wp_step))
 obtain⟨t',u',he⟩:=hx'.there;show wpAny _ _ (getattributeRaised _ _ _ _ _ _ _) _ _ _;unfold getattributeRaised
 repeat (any_goals (first|assumption|wp_step))
 exact h _ _ hx'.keeps
theorem z5t:entryFor table "dict.update.loop" = some Builtin.«dict.update.loop»:=entryFor_of_tree (by kernel_rfl)
theorem z2P:plainId "dict.update.loop" = true:=by decide +kernel
theorem pair_items {p:Addr}{o:Obj}{its:Array Value}{m:Nat}{Q:List Value->Shared->Prop}(ho:s.heap.get? p=some o) (hc:o.cls=.type "tuple") (hd:o.data=.seq its m) (h:Q its.toList s):wpAny (model P w) A (K89 (.ref p)) Q E s:=by
 have hT:s.TypeIs (.ref p) "tuple":=⟨_,ho,hc⟩;obtain⟨hp,g,d,tk,os⟩:=s;unfold K89
 repeat (any_goals (first|assumption|wp_step))
 rw[hd];exact K6 (K6 h)
end
section
variable {P:K0d}{w:World}{A:Around}{R:Result->Shared->Prop}{I:Addr}{fp wr:List Addr}{G:Array K6m->Array K6m->Prop}{n:Nat}{PV:Nat->Value->Prop}{St:Nat->Shared->Prop}{KK:Type} [DecidableEq KK] {knd:KeyKind P w KK}
theorem zh8 (W:WalksS P w A.in1 I fp wr G n PV St) (d:Addr) (hdf:d∉fp) (h0:Heap) (key:Nat->KK) (val:Nat->Value)
 (hv:∀i v,PV i v->∃(p:Addr) (ku:Value) (o:Obj) (m:Nat),v=.ref p/\knd.is (key i) ku=true/\p∉wr/\p≠d/\h0.get? p=some o/\o.cls=.type "tuple"/\o.data=.seq #[ku,val i] m) (hn:n<=1000) :
 ∀(k i:Nat) (x:Int) (tt:Tok) (s:Shared) (kvs:List (KK×Value)),i+k=n->St i s->(∀b o,b∉d::wr->h0.get? b=some o->s.heap.get? b=some o)->s.heap.DictOf knd d kvs->kvs.length<=i ->
  (∀s',Moved (d::wr) G s s'->s'.heap.DictOf knd d ((K92 i k).foldl (λacc m=>stored acc (key m) (val m)) kvs)->R (.ok (.ret .none)) s') ->
  K5u (model P w) A (.builtin "dict.update.loop" ⟨[.ref d,.ref I,.int x tt,.none],[]⟩) R s:=by
 have nw:d∉wr:=λh=>hdf (W.sub _ h);have up:∀b∈wr,b∈d::wr:=λb hb=>K0o _ hb;have dst:∀{h h':Heap} {kvs:List (KK×Value)},h.DictOf knd d kvs->(∀o,h.get? d=some o->h'.get? d=some o)->h'.DictOf knd d kvs:=λ{h h' kvs} x y=>by
  obtain⟨o,es,ep,ho,r⟩:=x;exact⟨o,es,ep,y o ho,r⟩
 intro k;induction k with
 | zero =>
  intro i x tt s kvs hk st h0s hS hl hR;obtain rfl:i=n:=by omega
  refine K2e z5t ?_;rw[K1v z2P _];show wpAny _ A.in1 (pyNext (.ref I) >>= _) _ _ s;refine K1 (W.done s _ _ st λs' hm=>?_);show wpAny _ A.in1 (Builtin.Dict.addKeywords d [] >>= λ_=>ret K2n) _ _ s';refine K1 (K6 (K6 (hR s' (hm.mono up) ?_)));exact dst hS λo e=>hm.heap d o nw e
 | succ k ih =>
  intro i x tt s kvs hk st h0s hS hl hR;refine K2e z5t ?_;rw[K1v z2P _];show wpAny _ A.in1 (pyNext (.ref I) >>= _) _ _ s;refine K1 (W.item i s _ _ (by omega) st λv s' hP st' hm=>?_);obtain⟨p,ku,o,m,rfl,hkey,pw,pd,ho,hc,hd⟩:=hv i v hP;have ho':s'.heap.get? p=some o:=hm.heap p o pw (h0s p o (by simp only[K0c,not_or];exact⟨pd,pw⟩) ho);have hS':s'.heap.DictOf knd d kvs:=dst hS λo e=>hm.heap d o nw e;refine K1 (K1u ?_);refine K1 (wpAny_tryCatch (pair_items ho' hc hd ?_));show wpAny _ A.in1 (K41 [ku,val i] (dictSet d ku (val i))) _ _ s';refine K1u (K9j hkey hS' (λh' dd sb=>?_) (by have q:(1000:Nat)<=sizeLine:=(by decide);omega));refine K6 ⟨K4k z2P _,?_⟩;refine ih (i+1) _ _ _ (stored kvs (key i) (val i)) (by omega) (W.frame _ s' _ _ st' (K45 _) λb hb o e=>?_) (λb o hb e=>?_) dd (by have:=stored_length_le kvs (key i) (val i);omega) λs'' hm'' S3=>?_
  ·rw[sb.2 b (λz:b=d=>hdf (z ▸ hb))];exact e
  ·simp only[K0c,not_or]at hb;rw[sb.2 b hb.1];exact hm.heap b o hb.2 (h0s b o (by simp only[K0c,not_or];exact hb) e)
  ·refine hR s'' (Moved.trans W.gtrans ((hm.mono up).then_heap (K45 _) λb o hb e=>?_) hm'') S3;rw[sb.2 b (λz:b=d=>hb (by rw[z];exact K0u))];exact e
end
section
variable {P:K0d}{w:World}{A:Around}{E:Value->Shared->Prop}{s:Shared}{KK:Type} [DecidableEq KK] {knd:KeyKind P w KK}
theorem z7y {l:Addr}{ol:Obj}{items:Array Value}{nl:Nat}{key:Nat->KK}{val:Nat->Value}{Q:Value->Shared->Prop}(hh:A.handled=none) (hol:s.heap.get? l=some ol) (hcl:ol.cls=.type "tuple"/\ol.dict=none) (hdl:ol.data=.seq items nl)
 (hv:∀i v,items[i]?=some v->∃(p:Addr) (ku:Value) (o:Obj) (m:Nat),v=.ref p/\knd.is (key i) ku=true/\s.heap.get? p=some o/\o.cls=.type "tuple"/\o.data=.seq #[ku,val i] m) (hn:items.size<=1000)
 (h:∀h' tk d,s.heap.get? d=none->h'.DictOf knd d ((K0h items.size).foldl (λacc m=>stored acc (key m) (val m)) [])->(∀b o,s.heap.get? b=some o->h'.get? b=some o)->s.heap.objs.size<=d->Q (.ref d) { s with heap:=h',toks:=tk }) :
 wpAny (model P w) A (call (.type "dict") [.ref l]) Q E s:=by
 obtain⟨ocls,odict,odata,oslots⟩:=ol;obtain⟨hc1,hc2⟩:=hcl;simp only at hc1 hc2 hdl;subst hc1 hc2 hdl;refine callType_codes (Q₁:=λobj s₁=>obj=.ref s.heap.objs.size/\s₁={ s with heap:=s.heap.push { cls:=.type "dict",data:=.dict #[] } }) F.kt_called_dict (F.kt_typeCall_dict_1 _) F.entry_dict_init (kt_code_dict_new _ ⟨rfl,rfl⟩) ?_;rintro obj s₁ ⟨rfl,rfl⟩;have hnew:(s.heap.push { cls:=.type "dict",data:=.dict #[] }).DictOf knd s.heap.objs.size []:=Z11 s.heap;have gl:(s.heap.push { cls:=.type "dict",data:=.dict #[] }).get? l=some { cls:=.type "tuple",dict:=none,data:=.seq items nl,slots:=oslots }:=K3 _ hol;have hT:K6h { s with heap:=s.heap.push { cls:=.type "dict",data:=.dict #[] } } (.ref l) "tuple":=⟨_,gl,rfl⟩;have hh2:A.in1.in1.handled=none:=by simp[hh]
 refine⟨hnew.typeIs,F.args_dict_init_2 _ _,?_⟩;unfold Builtin.«dict.__init__»;refine K1 ?_;unfold Builtin.Dict.selfAndRest;refine K1 (wpAny_notOrdered_dict hnew.typeIs ?_);show wpAny _ _ (pure (s.heap.objs.size,[K1s l])) _ _ _;refine K6 ?_;show wpAny _ _ (K7y "dict.__init__" s.heap.objs.size (.ref l) [] .none) _ _ _;unfold K7y;refine K1 (K4b hT ?_);rw[if_pos (by decide)];refine K1 (zy8 gl hh2 λh1 tk1 k1=>?_);dsimp only[Option.isNone];rw[if_pos rfl];refine K1 (K49 ?_);have gl1:h1.IsTuple l items:=⟨_,k1 _ _ gl,rfl,nl,rfl⟩;have lls:l<s.heap.objs.size:=K02 hol;have kd:∀b o,(s.heap.push { cls:=.type "dict",data:=.dict #[] }).get? b=some o->b<h1.objs.size:=λb o e=>K02 (k1 b o e);have dlt:s.heap.objs.size<h1.objs.size:=kd _ _ (K03 _ rfl);have neI:l≠h1.objs.size:=K0g (K5q lls dlt);have nf:s.heap.objs.size∉[h1.objs.size,l]:=by
  simp only[K0c,K0k,K1y,or_false,not_or];exact⟨K0g dlt,K2d lls⟩
 refine K1 (K2f gl1 (K6 ?_));refine⟨K4k z2P _,?_⟩;have h3:A.in1.in1.in1.handled=none:=by simp[hh]
 refine zh8 (A:=A.in1) (knd:=knd) ((Walks.tuple hh2 h1.objs.size l neI items).toS) s.heap.objs.size nf s.heap key val (λi v e=>?_) hn items.size 0 _ _ _ [] (by omega) ?_ ?_ ?_ (K01 _) λs' hm S3=>?_
 ·obtain⟨p,ku,o,m,e1,e2,e3,e4,e5⟩:=hv i v e;have pl:=K02 e3;exact⟨p,ku,o,m,e1,e2,by simp only[K0k];exact K0g (K5q pl dlt),K0g pl,e3,e4,e5⟩
 ·exact⟨⟨_,K03 _ rfl,rfl,rfl⟩,⟨_,K3 _ (k1 _ _ gl),rfl,nl,rfl⟩⟩
 ·exact λb o _ e=>K3 _ (k1 _ _ (K3 _ e))
 ·obtain⟨o,es,ep,ho,r⟩:=hnew;exact⟨o,es,ep,K3 _ (k1 _ _ ho),r⟩
 ·obtain⟨h',g',d',tk',os'⟩:=s';have e1:g'=s.gens:=hm.gens;have e2:d'=s.drawn:=hm.drawn;have e3:os'=s.os:=hm.os;subst e1;subst e2;subst e3;rw[<- K97]at S3;refine⟨rfl,h h' tk' s.heap.objs.size (K9a (K01 _)) S3 (λb o e=>hm.heap b o ?_ (K3 _ (k1 _ _ (K3 _ e)))) (K01 _)⟩;have:=K02 e;simp only[K0c,K0k,K1y,or_false,not_or];exact⟨K0g this,K0g (K5q this dlt)⟩
end
open PySem PySem.Spec PyProof.Rows FT
section
variable {X:Cx}
theorem Inv.tup0 {pins:List (Addr×Obj)}{σ:L2.St}{H:Hp}{s:Shared}{a:Addr}{xs:List V}(I:Inv X pins σ H s) (h:SqT X.K H a xs):∃its:List Value,Vals xs its/\IsTup0 s.heap a its.toArray/\xs.length<=sizeLine:=by
 rcases h with h|⟨o,its,n,hk,hc,hs,hz,r⟩
 ·obtain⟨z,its,r,p⟩:=h.ok I.hok;exact⟨its,r,p,z⟩
 ·refine⟨its.toList,r,⟨o,I.kIn a o hk,hc,n,by simpa using hs⟩,?_⟩;have:=Vals.length r;rw[this];simpa using hz
def z5U (ps:List (Key×V)):List (Key×V):=ps.foldl (λacc p=>putK acc p.1 p.2) []
theorem pairs_at {pins:List (Addr×Obj)}{σ:L2.St}{H:Hp}{s:Shared}(I:Inv X pins σ H s):∀{as:List Addr}{ps:List (Key×V)},Paired (λa p=>SqT X.K H a [kV p.1,p.2]) as ps ->
 ∃vus:List Value,Vals (ps.map (·.2)) vus/\∀(i:Nat) a,as[i]?=some a->∃(ku:Value) (o:Obj) (m:Nat),z21 ((ps[i]?).getD (.inl 0,.non)).1 ku=true/\s.heap.get? a=some o/\o.cls=.type "tuple"/\o.data=.seq #[ku,(vus[i]?).getD .none] m
 | _,_,.nil=>⟨[],.nil,λi a e=>by simp at e⟩
 | _,_,.cons (a:=a) (b:=p) h t=>by
  obtain⟨vus,r,z⟩:=pairs_at I t;obtain⟨its,r2,⟨o,ho,hc,m,hd⟩,_⟩:=I.tup0 h;obtain⟨ku,vu,rfl,rk,rv⟩:∃ku vu,its=[ku,vu]/\RelV (kV p.1) ku/\RelV p.2 vu:=by
   cases r2 with
   | cons rk r3=>cases r3 with
    | cons rv r4=>cases r4 with
     | nil=>exact⟨_,_,rfl,rk,rv⟩
  refine⟨vu::vus,.cons rv r,λi b e=>?_⟩;cases i with
  | zero =>
   cases (show a=b by simpa using e);exact⟨ku,o,m,z9T rk,ho,hc.1,by simpa using hd⟩
  | succ i=>exact z i b (by simpa using e)
theorem z9I {ps:List (Key×V)}{vus:List Value}(r:Vals (ps.map (·.2)) vus):∀n,n<=ps.length->KV ((ps.take n).foldl (λacc p=>putK acc p.1 p.2) []) ((K0h n).foldl (λacc m=>stored acc ((ps[m]?).getD (.inl 0,.non)).1 ((vus[m]?).getD .none)) [])
 | 0,_=>.nil
 | n+1,h=>by
  have hn:n<ps.length:=by omega
  have e:ps[n]?=some ps[n]:=K5 hn;have e2:(ps.map (·.2))[n]?=some ps[n].2:=by rw[K8,e];rfl
  obtain⟨u,eu,ru⟩:=Vals.get r e2;rw[K27,e,K55,K5w,K5w];show KV (putK _ ps[n].1 ps[n].2) (stored _ _ _);have e3:(ps[n]?).getD (K3n 0,V.non)=ps[n]:=by rw[e];rfl
  rw[e3,eu];exact(z9I r n (by omega)).put _ ru
theorem z7U (hc:X.calm=true):z2B X (.type "dict") (λxs H Q=>∃l as ps,xs=[.ref l]/\SqT X.K H l (as.map .ref)/\Paired (λa p=>SqT X.K H a [kV p.1,p.2]) as ps/\ps.length<=1000/\∀d,H d=none->Q (.ref d) (upd H d (.dK (z5U ps)))):=by
 intro pins s σ H xs us Q I r h;obtain⟨l,as,ps,rfl,hl,pr,hn,q⟩:=h;obtain⟨u,rfl,ru⟩:=vals1 r;cases ru;have hh:=I.ok.hd hc;obtain⟨its,r',⟨ol,hol,hcl,nl,hdl⟩,hz⟩:=I.tup0 hl;obtain⟨vus,rv,at_⟩:=pairs_at I pr;have pl:=K3w pr;have le:its.length=ps.length:=by rw[<- Vals.length r',K4,pl]
 have sz:its.toArray.size=ps.length:=by rw[K9,le]
 have kl:(z5U ps).length<=sizeLine:=by
  have:∀(l acc:List (Key×V)),(l.foldl (λacc p=>putK acc p.1 p.2) acc).length<=acc.length+l.length:=λl=>by
   induction l with
   | nil=>intro acc;simp
   | cons p l ih =>
    intro acc;have:=ih (putK acc p.1 p.2);have:=z1V acc p.1 p.2;simp only[K3o,K07];omega
  have:=this ps [];have q:(1000:Nat)<=sizeLine:=(by decide);simp only[K0b]at this;unfold z5U;omega
 refine z7y (knd:=z06 X.prog X.w) (key:=λi=>((ps[i]?).getD (.inl 0,.non)).1) (val:=λi=>(vus[i]?).getD .none) hh hol hcl hdl (λi v e=>?_) (by rw[sz];exact hn) λh' tk d hd dd kp ld=>?_
 ·have e':its[i]?=some v:=by simpa using e
  have il:=(K7.mp e').1;obtain⟨a,ea⟩:∃a,as[i]?=some a:=⟨_,K5 (by rw[pl,<- le];exact il)⟩;obtain⟨u,eu,ru⟩:=Vals.get r' (show (as.map V.ref)[i]?=.(r a) by rw[K8,ea];rfl);rw[e']at eu;cases eu;cases ru;obtain⟨ku,o,m,z1,z2,z3,z4⟩:=at_ i a ea;exact⟨a,ku,o,m,rfl,z1,z2,z3,z4⟩
 ·rw[sz]at dd;have rel:=z9I rv ps.length (K01 _);rw[K1g]at rel;have lm:K3x<s.heap.objs.size:=I.big;exact⟨.ref d,_,I.laid (t':=tk) (o:=.dK (z5U ps)) kp ld (z96 kl (beq_eq_false_iff_ne.mpr (K4u (K0g (K0j lm ld)))) rel dd),rfl,q _ (I.hok.fresh ld)⟩
end
end L2
namespace FT
def z2K:List D->Option (List (Key×D))
 | []=>some []
 | .tup [y,v]::r=>(match keyD y,z2K r with
  | some k,some l=>some ((k,v)::l)
  | _,_=>none)
 | _::_=>none
def z4a:List D->M D
 | [.tup xs]=>(match z2K xs with
  | some ps=>if ps.length<=1000 then newK (ps.foldl (λacc p=>ptD acc p.1 p.2) []) else bad
  | none=>bad)
 | _=>bad
section
variable {X:Cx}{EX:XX}{a:Expr}{p pos:Pos}{mr:G->M (List D)}
theorem z57 {K:K2}{ρ:List Addr}{H:Hp}:∀{ds:List D}{kvs:List (Key×D)}{vs:List V},z2K ds=some kvs->RDs K ρ H ds vs->∃(as:List Addr) (ps:List (Key×V)),vs=as.map .ref/\Paired (λa p=>SqT K H a [kV p.1,p.2]) as ps/\RK K ρ H kvs ps
 | [],kvs,vs,e,r=>by
  cases e;simp only[RDs]at r;subst r;exact⟨[],[],rfl,.nil,.nil⟩
 | d::ds,kvs,vs,e,r=>by
  simp only[RDs]at r;obtain⟨x,vr,rfl,rd,rr⟩:=r;obtain⟨y,v,k,l,rfl,ek,ep,rfl⟩:∃y v k l,d=.tup [y,v]/\keyD y=some k/\z2K ds=some l/\kvs=(k,v)::l:=by
   cases d with
   | tup zs =>
    rcases zs with _|⟨y,_|⟨v,_|⟨z,zs⟩⟩⟩
    ·cases e
    ·cases e
    ·have e':(match keyD y,z2K ds with
      | some k,some l=>some ((k,v)::l)
      | _,_=>none)=some kvs:=e
     cases ek:keyD y with
     | none=>rw[ek]at e';cases e'
     | some k =>
      cases ep:z2K ds with
      | none=>rw[ek,ep]at e';cases e'
      | some l =>
       rw[ek,ep]at e';cases e';exact⟨y,v,k,l,rfl,ek,rfl,rfl⟩
    ·cases e
   | _=>cases e
  obtain⟨as,ps,rfl,pr,rk⟩:=z57 ep rr;simp only[RD]at rd;obtain⟨a,xs,rfl,hs,rx⟩:=rd;obtain⟨x1,r1,rfl,d1,rx⟩:=(show ∃x r,xs=x::r/\RD K ρ H y x/\RDs K ρ H [v] r by simpa only[RDs] using rx);obtain⟨x2,rfl,d2⟩:=rds1 rx;have ky:=z9V ek d1;subst ky;exact⟨a::as,(k,x2)::ps,rfl,.cons hs pr,.cons ⟨rfl,d2⟩ rk⟩
theorem z6I {K:K2}{ρ:List Addr}{H:Hp}:∀{kvs:List (Key×D)}{ps:List (Key×V)},RK K ρ H kvs ps->∀{acc:List (Key×D)}{acc':List (Key×V)},RK K ρ H acc acc'->RK K ρ H (kvs.foldl (λacc p=>ptD acc p.1 p.2) acc) (ps.foldl (λacc p=>L2.putK acc p.1 p.2) acc')
 | _,_,.nil,acc,acc',q=>q
 | _,_,.cons (a:=a) (b:=b) h t,acc,acc',q=>by
  obtain⟨h1,h2⟩:=h;have:=q.put a.1 h2;rw[K3o,K3o];refine z6I t ?_;rw[<- h1];exact this
theorem zv0:AR X.K EX (λxs H Q=>∃l as ps,xs=[.ref l]/\SqT X.K H l (as.map .ref)/\Paired (λa p=>SqT X.K H a [kV p.1,p.2]) as ps/\ps.length<=1000/\∀d,H d=none->Q (.ref d) (upd H d (.dK (z5U ps)))) z4a:=by
 intro ρ h H ds vs Q r rd fin;unfold z4a at fin;split at fin
 ·rename_i xs;obtain⟨v,rfl,rv⟩:=rds1 rd;simp only[RD]at rv;obtain⟨l,ys,rfl,hs,rx⟩:=rv;cases e:z2K xs with
  | none=>rw[e]at fin;exact fin.elim
  | some kvs =>
   rw[e]at fin;dsimp only at fin;split at fin
   ·rename_i hl;obtain⟨as,ps,rfl,pr,rk⟩:=z57 e rx;refine⟨l,as,ps,rfl,hs,pr,by rw[<- rk.len];exact hl,λd hd=>?_⟩;unfold newK at fin;split at fin
    ·have ext:Ext X.K H (upd H d (.dK (z5U ps))):=Ext.upd (.inl hd);have rr:RH X.K (ρ++[d]) (h++[.dK (kvs.foldl (λacc p=>ptD acc p.1 p.2) [])]) (upd H d (.dK (z5U ps))):=r.pushO hd ⟨_,z02,(z6I rk .nil).mono (Pre.app _ _) ext⟩;refine fin (ρ++[d]) _ (Pre.app _ _) ext rr (.ref d) ?_;simp only[RD];exact⟨d,rfl,by rw[<- r.len];simp⟩
    ·exact fin.elim
   ·exact fin.elim
 ·exact fin.elim
theorem zg9 (hc:X.calm=true) (hg:Gl X "dict") (hm:X.mg "dict" = none) (ha:SA X EX [a] mr) (he:K05 [a] X.env=[(false,eval a X.env)]:=by rfl):SE X EX (.Call (.Name "dict" p) [a] [] pos) (j7 z4a mr) :=
 z1c (z1f (z7U hc) hg hm (by decide +kernel) ha.h (by decide) (by decide) he rfl) zv0
end
abbrev Mx (K:K2) (mg:Str->Option Value) (x:Str):Prop:=∀v,K2a K K1x x=some (some v)->mg x=some v
abbrev Bnd (st:Stmt) (x:Str) (ps:List Str):Prop:=∀(kV doc pm:Value) (an:Option Addr) (cdv ct:Value) (us:List Value),us.length=ps.length->bindArgs (K2b x x (z1k st) (z05 st) (j9 st) .none kV doc pm an cdv ct) ⟨us,[]⟩=pure (ps.zip us)
def scB (N P:List Str) (sc:Scope):Bool:=sc.kind==.function&&!sc.isCoroutine&&!sc.isGenerator&&decide N.Nodup&&decide (P.length<=N.length)&&P.all (λx=>sc.names.lookup x==some .local||sc.names.lookup x==some .cell)&&sc.names.all λy=>y.2 != .free
theorem zD3 {N:List Str}{n:Nat}{sc:Scope}(h:scB N (N.take n) sc=true):FnScope N (N.take n) sc:=by
 unfold scB at h;simp only[K0f,K5x,decide_eq_true_eq]at h;obtain⟨⟨⟨⟨⟨⟨h1,h2⟩,h3⟩,h4⟩,h5⟩,h6⟩,h7⟩:=h;refine⟨by simpa using h1,h2,h3,h4,by simp,λx hx=>?_,λy hy=>?_⟩
 ·have:=K1z.mp h6 x hx;rw[K2w]at this;rcases this with z|z
  ·exact .inl (by simpa using z)
  ·exact .inr (by simpa using z)
 ·have:=K1z.mp h7 y hy;simpa using this
section
variable {P:K0d}{w:World}{K:K2}{mg:Str->Option Value}{base:Heap}{x:Str}{st:Stmt}{k n:Nat}
theorem dfN (N:List Str) (mb:G->M Out) (T:DefAt K x st) (mx:Mx K mg x) (hs:scB N (N.take n) (j9 st)=true) (hn:(N.take n).length=n) (hb:Bnd st x (N.take n))
 (body:∀{f:Addr} {cdv:Value} {A:Around} {outer:List Env} {s:Shared} {H:Hp} {E:XK},K2m K cdv x=true->Room k (A.deeper (envOfC x (j9 st) s.heap.objs.size f cdv))->N.Nodup ->
  SB (cxOf CX0 P w K mg base N x (j9 st) f cdv A outer s H E).nox EX0 (z05 st) mb):Fn P w K mg base (k+1) x n (runF N.length mb):=by
 obtain⟨f,fd,hf,F⟩:=T;exact zm0 F (zD3 hs) (F.binds hb) (mx _ hf) hn λ_ _ _ _ _ _ hcd hr=>body hcd hr (zD3 hs).nd
theorem dfC (N:List Str) (mb:G->M Out) (T:DefAt K x st) (mx:Mx K mg x) (hs:scB N (N.take n) (j9 st)=true) (hn:(N.take n).length=n) (hb:Bnd st x (N.take n))
 (body:∀{f:Addr} {cdv:Value} {A:Around} {outer:List Env} {s:Shared} {H:Hp} {E:XK},K2m K cdv x=true->Room k (A.deeper (envOfC x (j9 st) s.heap.objs.size f cdv))->N.Nodup ->
  SB (cxOf CX0 P w K mg base N x (j9 st) f cdv A outer s H E).nox EX0 (z05 st) mb):Fn P w K mg base (k+1) x n λds=>cln (runF N.length mb ds):=Fn.cln (dfN N mb T mx hs hn hb body)
end
variable {P:K0d}{w:World}{K:K2}{mg:Str->Option Value}{base:Heap}
def top (i:Nat):Stmt:=PySem.Challenge.pw_fairtrees_k11_whole_walks_of_commands.main.body.getD i (.Pass ⟨0,0,0,0⟩)
noncomputable def c_MOST:D:=.int 40
noncomputable def z2k:G->M Out :=
 (Z3 (sRet (eIsi "tuple" (eVar 0))) bNil)
noncomputable def z2p:List D->M D:=λds=>cln (runF 1 z2k ds)
theorem ok_is_tuple (T:DefAt K "is_tuple" (top 5)) (mx:Mx K mg "is_tuple") (F04:mg "isinstance" = none) (F01:mg "tuple" = none):Fn P w K mg base 1 "is_tuple" 1 z2p :=
 dfC ["thing"] z2k T mx (by decide +kernel) rfl (λ_ _ _ _ _ _ us hl=>(by obtain⟨_,rfl⟩:=ar1 hl;rfl)) λhcd hr nd =>
  (Z2 (y6 (z1s rfl F04 rfl F01 (by decide +kernel) (by decide) (z9 0))) Z7)
noncomputable def z3o:G->M Out :=
 (Z3 (sRet (clE (j7 Y2 (Z1 (j7 z1M (Z1 (j7 z3F (Z1 (eVar 0) aNil)) aNil)) aNil)))) bNil)
noncomputable def z1o:List D->M D:=λds=>cln (runF 1 z3o ds)
theorem ok_set_of (T:DefAt K "set_of" (top 7)) (mx:Mx K mg "set_of") (F0s:mg "set" = none) (F07:mg "sorted" = none) (F01:mg "tuple" = none):Fn P w K mg base 1 "set_of" 1 z1o :=
 dfC ["standings"] z3o T mx (by decide +kernel) rfl (λ_ _ _ _ _ _ us hl=>(by obtain⟨_,rfl⟩:=ar1 hl;rfl)) λhcd hr nd =>
  (Z2 (y6 (z0y (v8 rfl F01 (Z0 (z7Q rfl rfl F07 (Z0 (zh0 rfl rfl F0s (Z0 (z9 0) Z5)) Z5)) Z5)))) Z7)
noncomputable def z1O:G->M Out :=
 (Z3 (sIf (λγ=>do let d <- e2 (fInX true) (eVar 1) (eVar 0) γ;asB d) (Z3 (sIf (λγ=>do let d <- e2 fGe (j7 fLen (Z1 (eVar 0) aNil)) (eVar 2) γ;asB d) (Z3 (λ_=>bad) bNil) bNil) (Z3 (z0I (eM1 w6 (eVar 0) (eVar 1))) bNil)) bNil) (Z3 (sRet (eM1 z09 (eVar 0) (eVar 1))) bNil))
noncomputable def z1d:List D->M D:=λds=>cln (runF 3 z1O ds)
theorem ok_number_of (T:DefAt K "number_of" (top 10)) (mx:Mx K mg "number_of") (F00:mg "len" = none):Fn P w K mg base 1 "number_of" 3 z1d :=
 dfC ["rooms","room","most"] z1O T mx (by decide +kernel) rfl (λ_ _ _ _ _ _ us hl=>(by obtain⟨_,_,_,rfl⟩:=ar3 hl;rfl)) λhcd hr nd =>
  (Z2 (s_if (sc_c (za8 (hu30 hr)) (z9 1) (z9 0)) (Z2 (s_if (sc_c zd6 (z00 rfl F00 (Z0 (z9 0) Z5)) (z9 2)) (Z2 zz5 Z7) Z7) (Z2 (z0X (v7 (z9 0) (z9 1))) Z7)) Z7) (Z2 (y6 (z1a (hu40 hr) (z9 0) (z9 1))) Z7))
noncomputable def z1t:G->M Out :=
 (Z3 (sAsg (clE (j7 Y2 (Z1 (z0C [none,none,none] (z0J (e2 fIx (eVar 0) (λ_=>pure (.int 0)))) (gT 3 (z01 (gN 0) (z01 (gN 1) (z01 (gN 2) z33)))) (λ_=>pure true) (eVar 2)) aNil))) (gN 1)) (Z3 (sRet (eIf (cVal (e2 fIx (eVar 0) (λ_=>pure (.int 3)))) (eTup (z5W (eVar 1) (Z1 (eNeg (λ_=>pure (.int 1))) aNil))) (eVar 1))) bNil))
noncomputable def z1w:List D->M D:=λds=>cln (runF 2 z1t ds)
theorem ok_first_room (T:DefAt K "first_room" (top 11)) (mx:Mx K mg "first_room") (F01:mg "tuple" = none):Fn P w K mg base 1 "first_room" 1 z1w :=
 dfC ["program","firsts"] z1t T mx (by decide +kernel) rfl (λ_ _ _ _ _ _ us hl=>(by obtain⟨_,rfl⟩:=ar1 hl;rfl)) λhcd hr nd =>
  (Z2 (y0 1 nd (z0y (v8 rfl F01 (Z0 (z0M (N':=["name","size","first"]) (cap:=[none,none,none]) rfl (z27 (by first|rfl|kernel_rfl!)) (z0W (j6 (z9 0) Z4)) (λ_ _ _ _=>(z62 rfl (z1j (J5 0 (show (["name","size","first"]:List Str).Nodup by decide +kernel)) (z1j (J5 1 (show (["name","size","first"]:List Str).Nodup by decide +kernel)) (z1j (J5 2 (show (["name","size","first"]:List Str).Nodup by decide +kernel)) z4v))))) (λ_ _ _ _=>z1b) (λ_ _ _ _=>(z9 2))) Z5)))) (Z2 (y6 (zt9 (J7 (j6 (z9 0) Z4)) (z1Z (z9f (z9 1) (Z0 (z4W Z4) Z5))) (z9 1))) Z7))
noncomputable def z2c:G->M Out :=
 (Z3 (sRet (z6y [none,none] (iZip (e2 fIx (eVar 0) (λ_=>pure (.int 0))) (eVar 1)) (gT 2 (z01 (gN 0) (z01 (gN 1) z33))) (λ_=>pure true) (e2 fIx (eVar 0) (λ_=>pure (.int 0))) (eVar 1))) bNil)
noncomputable def z1G:List D->M D:=λds=>cln (runF 2 z2c ds)
theorem ok_held_in (T:DefAt K "held_in" (top 14)) (mx:Mx K mg "held_in") (F0t:mg "zip" = none):Fn P w K mg base 1 "held_in" 2 z1G :=
 dfC ["program","room"] z2c T mx (by decide +kernel) rfl (λ_ _ _ _ _ _ us hl=>(by obtain⟨_,_,rfl⟩:=ar2 hl;rfl)) λhcd hr nd =>
  (Z2 (y6 (zf0 (N':=["cell","worth"]) (cap:=[none,none]) rfl (z27 (by first|rfl|kernel_rfl!)) (zO9 rfl rfl F0t (j6 (z9 0) Z4) (z9 1)) (λ_ _ _ _=>(z62 rfl (z1j (J5 0 (show (["cell","worth"]:List Str).Nodup by decide +kernel)) (z1j (J5 1 (show (["cell","worth"]:List Str).Nodup by decide +kernel)) z4v)))) (λ_ _ _ _=>z1b) (λ_ _ _ _=>(j6 (z9 0) Z4)) (λ_ _ _ _=>(z9 1)))) Z7)
noncomputable def z2i:G->M Out :=
 (Z3 (sIf (cVal (eFn 1 z2p (Z1 (eVar 0) aNil))) (Z3 (sRet (e2 fAdd (e2 z3S (eVar 1) (e2 fIx (eVar 0) (λ_=>pure (.int 0)))) (e2 fIx (eVar 0) (λ_=>pure (.int 1))))) bNil) bNil) (Z3 (sRet (eVar 0)) bNil))
noncomputable def z18:List D->M D:=λds=>cln (runF 2 z2i ds)
theorem ok_worth_of (T:DefAt K "worth_of" (top 15)) (mx:Mx K mg "worth_of") (F0u:Fn P w K mg base 1 "is_tuple" 1 z2p):Fn P w K mg base 2 "worth_of" 2 z18 :=
 dfC ["worth","held"] z2i T mx (by decide +kernel) rfl (λ_ _ _ _ _ _ us hl=>(by obtain⟨_,_,rfl⟩:=ar2 hl;rfl)) λhcd hr nd =>
  (Z2 (s_if (J7 (Z9 F0u (hr.mono (by decide)) rfl (Z0 (z9 0) Z5))) (Z2 (y6 (z0v (z2V (z44 hr) (z9 1) (j6 (z9 0) Z4)) (j6 (z9 0) Z4))) Z7) Z7) (Z2 (y6 (z9 0)) Z7))
noncomputable def z1Q:G->M Out :=
 (Z3 (sAsg (eVar 0) (gT 3 (z01 (gN 2) (z01 (gN 3) (z01 (gN 4) z33))))) (Z3 (sAsg (eFn 2 z18 (Z1 (eVar 4) (Z1 (eVar 1) aNil))) (gN 5)) (Z3 (sIf (λγ=>do let d <- e2 (fEq false) (eVar 3) (λ_=>pure (.str "is")) γ;asB d) (Z3 (sRet (e2 (fEqX false) (e2 z3S (eVar 1) (eVar 2)) (eVar 5))) bNil) bNil) (Z3 (sIf (λγ=>do let d <- e2 (fEq false) (eVar 3) (λ_=>pure (.str "not")) γ;asB d) (Z3 (sRet (e2 (fEqX true) (e2 z3S (eVar 1) (eVar 2)) (eVar 5))) bNil) bNil) (Z3 (sRet (e2 fLt (e2 z3S (eVar 1) (eVar 2)) (eVar 5))) bNil)))))
noncomputable def z0q:List D->M D:=λds=>cln (runF 6 z1Q ds)
theorem ok_does_hold (T:DefAt K "does_hold" (top 17)) (mx:Mx K mg "does_hold") (F0b:Fn P w K mg base 2 "worth_of" 2 z18):Fn P w K mg base 3 "does_hold" 2 z0q :=
 dfC ["test","held","name","sign","worth","other"] z1Q T mx (by decide +kernel) rfl (λ_ _ _ _ _ _ us hl=>(by obtain⟨_,_,rfl⟩:=ar2 hl;rfl)) λhcd hr nd =>
  (Z2 (z4L (z9 0) (z3E rfl (v3 (k9 2 nd) (v3 (k9 3 nd) (v3 (k9 4 nd) z2D))))) (Z2 (y0 5 nd (Z9 F0b (hr.mono (by decide)) rfl (Z0 (z9 4) (Z0 (z9 1) Z5)))) (Z2 (s_if (sc_c z2Q (z9 3) v5) (Z2 (y6 (se_c (z3J (hu30 hr)) (z2V (z44 hr) (z9 1) (z9 2)) (z9 5))) Z7) Z7) (Z2 (s_if (sc_c z2Q (z9 3) v5) (Z2 (y6 (se_c (z3K (hu30 hr)) (z2V (z44 hr) (z9 1) (z9 2)) (z9 5))) Z7) Z7) (Z2 (y6 (se_c zg5 (z2V (z44 hr) (z9 1) (z9 2)) (z9 5))) Z7)))))
noncomputable def z2o:G->M Out :=
 (Z3 (sRet (clE (j7 (fAll false) (Z1 (z0C [some 1,none] (z0J (e2 fIx (eVar 0) (λ_=>pure (.int 1)))) (gN 1) (λ_=>pure true) (eFn 2 z0q (Z1 (eVar 1) (Z1 (eVar 0) aNil)))) aNil)))) bNil)
noncomputable def z0K:List D->M D:=λds=>cln (runF 2 z2o ds)
theorem ok_can_come (T:DefAt K "can_come" (top 16)) (mx:Mx K mg "can_come") (F0c:mg "all" = none) (F0d:Fn P w K mg base 3 "does_hold" 2 z0q):Fn P w K mg base 4 "can_come" 2 z0K :=
 dfC ["command","held"] z2o T mx (by decide +kernel) rfl (λ_ _ _ _ _ _ us hl=>(by obtain⟨_,_,rfl⟩:=ar2 hl;rfl)) λhcd hr nd =>
  (Z2 (y6 (z0y (zl1 rfl rfl F0c (Z0 (z0M (N':=["held","test"]) (cap:=[some 1,none]) rfl (z27 (by first|rfl|kernel_rfl!)) (z0W (j6 (z9 0) Z4)) (λ_ _ _ _=>(J5 1 (show (["held","test"]:List Str).Nodup by decide +kernel))) (λ_ _ _ _=>z1b) (λ_ _ _ _=>(Z9 F0d (hr.mono (by decide)) rfl (Z0 (z9 1) (Z0 (z9 0) Z5))))) Z5)))) Z7)
noncomputable def z12:G->M Out :=
 (Z3 (sAsg (j7 z4a (Z1 (e2 fIx (e2 fIx (e2 fIx (eVar 0) (λ_=>pure (.int 1))) (eVar 1)) (λ_=>pure (.int 2))) aNil)) (gN 3)) (Z3 (sAsg (eLst aNil) (gN 4)) (Z3 (sFor (z0J (e2 fIx (eVar 0) (λ_=>pure (.int 0)))) (gT 3 (z01 (gN 5) (z01 (gN 6) (z01 (gN 7) z33)))) (Z3 (z0I (eM1 w6 (eVar 4) (eIf (λγ=>do let d <- e2 (fInD false) (eVar 5) (eVar 3) γ;asB d) (e2 fMod (eFn 2 z18 (Z1 (e2 z3S (eVar 3) (eVar 5)) (Z1 (eVar 2) aNil))) (eVar 6)) (e2 z3S (eVar 2) (eVar 5))))) bNil)) (Z3 (sRet (eIf (cVal (e2 fIx (eVar 0) (λ_=>pure (.int 3)))) (eTup (z5W (eVar 4) (Z1 (eVar 1) aNil))) (j7 Y2 (Z1 (eVar 4) aNil)))) bNil))))
noncomputable def z14:List D->M D:=λds=>cln (runF 8 z12 ds)
theorem ok_room_behind (T:DefAt K "room_behind" (top 13)) (mx:Mx K mg "room_behind") (F0v:mg "dict" = none) (F01:mg "tuple" = none) (F0b:Fn P w K mg base 2 "worth_of" 2 z18):Fn P w K mg base 3 "room_behind" 3 z14 :=
 dfC ["program","number","held","puts","told","name","size","first"] z12 T mx (by decide +kernel) rfl (λ_ _ _ _ _ _ us hl=>(by obtain⟨_,_,_,rfl⟩:=ar3 hl;rfl)) λhcd hr nd =>
  (Z2 (y0 3 nd (zg9 rfl rfl F0v (Z0 (j6 (j6 (j6 (z9 0) Z4) (z9 1)) Z4) Z5))) (Z2 (y0 4 nd (z0c Z5)) (Z2 (z1C K0y rfl (z0W (j6 (z9 0) Z4)) (z3E rfl (v3 (k9 5 nd) (v3 (k9 6 nd) (v3 (k9 7 nd) z2D)))) (Z2 (z0X (v7 (z9 4) (zt9 (sc_c (zD6 (z44 hr)) (z9 5) (z9 3)) (z2t (Z9 F0b (hr.mono (by decide)) rfl (Z0 (z2V (z44 hr) (z9 3) (z9 5)) (Z0 (z9 2) Z5))) (z9 6)) (z2V (z44 hr) (z9 2) (z9 5))))) Z7)) (Z2 (y6 (zt9 (J7 (j6 (z9 0) Z4)) (z1Z (z9f (z9 4) (Z0 (z9 1) Z5))) (v8 rfl F01 (Z0 (z9 4) Z5)))) Z7))))
noncomputable def z0R:G->M Out :=
 (Z3 (sAsg (eFn 2 z1G (Z1 (eVar 0) (Z1 (eVar 1) aNil))) (gN 2)) (Z3 (sAsg (eLst aNil) (gN 3)) (Z3 (sFor (zf8 (e2 fIx (eVar 0) (λ_=>pure (.int 1)))) (gT 2 (z01 (gN 4) (z01 (gN 5) z33))) (Z3 (sIf (cVal (eFn 2 z0K (Z1 (eVar 5) (Z1 (eVar 2) aNil)))) (Z3 (z0I (eM1 w6 (eVar 3) (eFn 3 z14 (Z1 (eVar 0) (Z1 (eVar 4) (Z1 (eVar 2) aNil)))))) bNil) bNil) bNil)) (Z3 (sRet (eVar 3)) bNil))))
noncomputable def z1v:List D->M D:=λds=>cln (runF 6 z0R ds)
theorem ok_rooms_next (T:DefAt K "rooms_next" (top 12)) (mx:Mx K mg "rooms_next") (F0w:mg "enumerate" = none) (F0e:Fn P w K mg base 4 "can_come" 2 z0K) (F0f:Fn P w K mg base 1 "held_in" 2 z1G) (F0x:Fn P w K mg base 3 "room_behind" 3 z14):Fn P w K mg base 5 "rooms_next" 2 z1v :=
 dfC ["program","room","held","told","number","command"] z0R T mx (by decide +kernel) rfl (λ_ _ _ _ _ _ us hl=>(by obtain⟨_,_,rfl⟩:=ar2 hl;rfl)) λhcd hr nd =>
  (Z2 (y0 2 nd (Z9 F0f (hr.mono (by decide)) rfl (Z0 (z9 0) (Z0 (z9 1) Z5)))) (Z2 (y0 3 nd (z0c Z5)) (Z2 (z1C K0y rfl (zx6 rfl rfl F0w (j6 (z9 0) Z4)) (z3E rfl (v3 (k9 4 nd) (v3 (k9 5 nd) z2D))) (Z2 (s_if (J7 (Z9 F0e (hr.mono (by decide)) rfl (Z0 (z9 5) (Z0 (z9 2) Z5)))) (Z2 (z0X (v7 (z9 3) (Z9 F0x (hr.mono (by decide)) rfl (Z0 (z9 0) (Z0 (z9 4) (Z0 (z9 2) Z5)))))) Z7) Z7) Z7)) (Z2 (y6 (z9 3)) Z7))))
noncomputable def z3u:G->M Out :=
 (Z3 (sAsg (eFn 2 z1G (Z1 (eVar 0) (Z1 (eVar 2) aNil))) (gN 3)) (Z3 (sIf (λγ=>do let d <- e2 (fEq false) (j7 fLen (Z1 (eVar 1) aNil)) (λ_=>pure (.int 3)) γ;asB d) (Z3 (sRet (eFn 2 z0q (Z1 (eVar 1) (Z1 (eVar 3) aNil)))) bNil) bNil) (Z3 (sAsg (eVar 1) (gT 2 (z01 (gN 4) (z01 (gN 5) z33)))) (Z3 (sAsg (eM1 z09 (z0C [none] (z0J (e2 fIx (eVar 0) (λ_=>pure (.int 1)))) (gN 0) (λ_=>pure true) (e2 fIx (eVar 0) (λ_=>pure (.int 0)))) (eVar 5)) (gN 6)) (Z3 (sIf (λγ=>do let d <- e2 (fEq false) (eVar 4) (λ_=>pure (.str "can")) γ;asB d) (Z3 (sRet (eFn 2 z0K (Z1 (e2 fIx (e2 fIx (eVar 0) (λ_=>pure (.int 1))) (eVar 6)) (Z1 (eVar 3) aNil)))) bNil) bNil) (Z3 (sRet (e2 (fEqX false) (e2 fIx (eVar 2) (eNeg (λ_=>pure (.int 1)))) (eVar 6))) bNil))))))
noncomputable def z4T:List D->M D:=λds=>cln (runF 7 z3u ds)
theorem ok_is_so (T:DefAt K "is_so" (top 20)) (mx:Mx K mg "is_so") (F00:mg "len" = none) (F0e:Fn P w K mg base 4 "can_come" 2 z0K) (F0d:Fn P w K mg base 3 "does_hold" 2 z0q) (F0f:Fn P w K mg base 1 "held_in" 2 z1G):Fn P w K mg base 5 "is_so" 3 z4T :=
 dfC ["program","thing","room","held","word","name","number"] z3u T mx (by decide +kernel) rfl (λ_ _ _ _ _ _ us hl=>(by obtain⟨_,_,_,rfl⟩:=ar3 hl;rfl)) λhcd hr nd =>
  (Z2 (y0 3 nd (Z9 F0f (hr.mono (by decide)) rfl (Z0 (z9 0) (Z0 (z9 2) Z5)))) (Z2 (s_if (sc_c z2Q (z00 rfl F00 (Z0 (z9 1) Z5)) Z4) (Z2 (y6 (Z9 F0d (hr.mono (by decide)) rfl (Z0 (z9 1) (Z0 (z9 3) Z5)))) Z7) Z7) (Z2 (z4L (z9 1) (z3E rfl (v3 (k9 4 nd) (v3 (k9 5 nd) z2D)))) (Z2 (y0 6 nd (z1a (hu40 hr) (z0M (N':=["command"]) (cap:=[none]) rfl (z27 (by first|rfl|kernel_rfl!)) (z0W (j6 (z9 0) Z4)) (λ_ _ _ _=>(J5 0 (show (["command"]:List Str).Nodup by decide +kernel))) (λ_ _ _ _=>z1b) (λ_ _ _ _=>(j6 (z9 0) Z4))) (z9 5))) (Z2 (s_if (sc_c z2Q (z9 4) v5) (Z2 (y6 (Z9 F0e (hr.mono (by decide)) rfl (Z0 (j6 (j6 (z9 0) Z4) (z9 6)) (Z0 (z9 3) Z5)))) Z7) Z7) (Z2 (y6 (se_c (z3J (hu30 hr)) (j6 (z9 2) (z4W Z4)) (z9 6))) Z7))))))
noncomputable def z3k:G->M Out :=
 (Z3 (sRet (clE (j7 (fAll false) (Z1 (z0C [some 0,some 2,none] (z0J (eVar 1)) (gN 2) (λ_=>pure true) (eFn 3 z4T (Z1 (eVar 0) (Z1 (eVar 2) (Z1 (eVar 1) aNil))))) aNil)))) bNil)
noncomputable def z3q:List D->M D:=λds=>cln (runF 3 z3k ds)
theorem ok_is_met (T:DefAt K "is_met" (top 19)) (mx:Mx K mg "is_met") (F0c:mg "all" = none) (F0y:Fn P w K mg base 5 "is_so" 3 z4T):Fn P w K mg base 6 "is_met" 3 z3q :=
 dfC ["program","row","room"] z3k T mx (by decide +kernel) rfl (λ_ _ _ _ _ _ us hl=>(by obtain⟨_,_,_,rfl⟩:=ar3 hl;rfl)) λhcd hr nd =>
  (Z2 (y6 (z0y (zl1 rfl rfl F0c (Z0 (z0M (N':=["program","room","thing"]) (cap:=[some 0,some 2,none]) rfl (z27 (by first|rfl|kernel_rfl!)) (z0W (z9 1)) (λ_ _ _ _=>(J5 2 (show (["program","room","thing"]:List Str).Nodup by decide +kernel))) (λ_ _ _ _=>z1b) (λ_ _ _ _=>(Z9 F0y (hr.mono (by decide)) rfl (Z0 (z9 0) (Z0 (z9 2) (Z0 (z9 1) Z5)))))) Z5)))) Z7)
noncomputable def z2f:G->M Out :=
 (Z3 (sRet (clE (j7 Y2 (Z1 (j7 z2z (Z1 (z0C [some 0,some 1,none,none] (z0J (e2 fIx (eVar 0) (λ_=>pure (.int 2)))) (gT 2 (z01 (gN 2) (z01 (gN 3) z33))) (cVal (clE (j7 (fAll true) (Z1 (z0C [some 0,some 1,none] (z0J (eVar 3)) (gN 2) (λ_=>pure true) (eFn 3 z3q (Z1 (eVar 0) (Z1 (eVar 2) (Z1 (eVar 1) aNil))))) aNil)))) (eVar 2)) aNil)) aNil)))) bNil)
noncomputable def z2n:List D->M D:=λds=>cln (runF 2 z2f ds)
theorem ok_names_at (T:DefAt K "names_at" (top 18)) (mx:Mx K mg "names_at") (F0z:mg "any" = none) (F07:mg "sorted" = none) (F01:mg "tuple" = none) (F0A:Fn P w K mg base 6 "is_met" 3 z3q):Fn P w K mg base 7 "names_at" 2 z2n :=
 dfC ["program","room"] z2f T mx (by decide +kernel) rfl (λ_ _ _ _ _ _ us hl=>(by obtain⟨_,_,rfl⟩:=ar2 hl;rfl)) λhcd hr nd =>
  (Z2 (y6 (z0y (v8 rfl F01 (Z0 (z4Z rfl rfl F07 (Z0 (z0M (N':=["program","room","name","rows"]) (cap:=[some 0,some 1,none,none]) rfl (z27 (by first|rfl|kernel_rfl!)) (z0W (j6 (z9 0) Z4)) (λ_ _ _ _=>(z62 rfl (z1j (J5 2 (show (["program","room","name","rows"]:List Str).Nodup by decide +kernel)) (z1j (J5 3 (show (["program","room","name","rows"]:List Str).Nodup by decide +kernel)) z4v)))) (λ_ _ _ _=>(z2X (J7 (z0y (zK1 rfl rfl F0z (Z0 (z0M (N':=["program","room","row"]) (cap:=[some 0,some 1,none]) rfl (z27 (by first|rfl|kernel_rfl!)) (z0W (z9 3)) (λ_ _ _ _=>(J5 2 (show (["program","room","row"]:List Str).Nodup by decide +kernel))) (λ_ _ _ _=>z1b) (λ_ _ _ _=>(Z9 F0A (hr.mono (by decide)) rfl (Z0 (z9 0) (Z0 (z9 2) (Z0 (z9 1) Z5)))))) Z5)))))) (λ_ _ _ _=>(z9 2))) Z5)) Z5)))) Z7)
noncomputable def z7I:G->M Out :=
 (Z3 (sAsg (eLst aNil) (gN 2)) (Z3 (z0I (eFn 3 z1d (Z1 (eVar 2) (Z1 (eFn 1 z1w (Z1 (eVar 0) aNil)) (Z1 (eVar 1) aNil))))) (Z3 (sAsg (eLst aNil) (gN 3)) (Z3 (sAsg (eLst aNil) (gN 4)) (Z3 (z26 (λγ=>do let d <- e2 fLt (j7 fLen (Z1 (eVar 3) aNil)) (j7 fLen (Z1 (eVar 2) aNil)) γ;asB d) (Z3 (sAsg (e2 fIx (eVar 2) (j7 fLen (Z1 (eVar 3) aNil))) (gN 5)) (Z3 (sAsg (eLst aNil) (gN 6)) (Z3 (sFor (z19 (eFn 2 z1v (Z1 (eVar 0) (Z1 (eVar 5) aNil)))) (gN 7) (Z3 (z0I (eM1 w6 (eVar 6) (eFn 3 z1d (Z1 (eVar 2) (Z1 (eVar 7) (Z1 (eVar 1) aNil)))))) bNil)) (Z3 (z0I (eM1 w6 (eVar 3) (eFn 1 z1o (Z1 (eVar 6) aNil)))) (Z3 (z0I (eM1 w6 (eVar 4) (eFn 2 z2n (Z1 (eVar 0) (Z1 (eVar 5) aNil))))) bNil))))) 1000000) (Z3 (sRet (eTup (Z1 (eTup (Z1 (j7 Y2 (Z1 (eVar 3) aNil)) (Z1 (j7 Y2 (Z1 (eVar 4) aNil)) aNil))) (Z1 (j7 Y2 (Z1 (eVar 2) aNil)) aNil)))) bNil))))))
noncomputable def z68:List D->M D:=λds=>cln (runF 8 z7I ds)
theorem sc_lay:FnScope ["program","most","rooms","steps","marks","room","leads","other"] ["program","most"] (j9 (top 9)):=⟨rfl,rfl,rfl,by decide +kernel,rfl,by decide +kernel,by decide +kernel⟩
theorem ok_lay {P:K0d}{w:World}{K:K2}{mg:Str->Option Value}{base:Heap}{dk:Addr}(T:DefK K "lay" (top 9) dk) (mx:∀v,K2a K K1x "lay" = some (some v)->mg "lay" = some v) (F00:mg "len" = none) (F01:mg "tuple" = none) (F0B:Fn P w K mg base 1 "first_room" 1 z1w) (F0C:Fn P w K mg base 7 "names_at" 2 z2n) (F0p:Fn P w K mg base 1 "number_of" 3 z1d) (F0D:Fn P w K mg base 5 "rooms_next" 2 z1v) (F0g:Fn P w K mg base 1 "set_of" 1 z1o):FnR P w K mg base 8 "lay" (top 9) dk ["program","most"] z68 :=
 FnR.cln <| zE7 T mx sc_lay λf cdv A outer s H E hcd hr=>(show SB (cxOf CX0 P w K mg base ["program","most","rooms","steps","marks","room","leads","other"] "lay" (j9 (top 9)) f cdv A outer s H E).nox EX0 (z05 (top 9)) z7I from
  have nd:(["program","most","rooms","steps","marks","room","leads","other"]:List Str).Nodup:=sc_lay.nd
  (Z2 (y0 2 nd (z0c Z5)) (Z2 (z0X (Z9 F0p (hr.mono (by decide)) rfl (Z0 (z9 2) (Z0 (Z9 F0B (hr.mono (by decide)) rfl (Z0 (z9 0) Z5)) (Z0 (z9 1) Z5))))) (Z2 (y0 3 nd (z0c Z5)) (Z2 (y0 4 nd (z0c Z5)) (Z2 (z9A 1000000 K0y (sc_c zg5 (z00 rfl F00 (Z0 (z9 3) Z5)) (z00 rfl F00 (Z0 (z9 2) Z5))) (Z2 (y0 5 nd (j6 (z9 2) (z00 rfl F00 (Z0 (z9 3) Z5)))) (Z2 (y0 6 nd (z0c Z5)) (Z2 (z1C K0y rfl (z1I (Z9 F0D (hr.mono (by decide)) rfl (Z0 (z9 0) (Z0 (z9 5) Z5)))) (k9 7 nd) (Z2 (z0X (v7 (z9 6) (Z9 F0p (hr.mono (by decide)) rfl (Z0 (z9 2) (Z0 (z9 7) (Z0 (z9 1) Z5)))))) Z7)) (Z2 (z0X (v7 (z9 3) (Z9 F0g (hr.mono (by decide)) rfl (Z0 (z9 6) Z5)))) (Z2 (z0X (v7 (z9 4) (Z9 F0C (hr.mono (by decide)) rfl (Z0 (z9 0) (Z0 (z9 5) Z5))))) Z7)))))) (Z2 (y6 (z1Z (Z0 (z1Z (Z0 (v8 rfl F01 (Z0 (z9 3) Z5)) (Z0 (v8 rfl F01 (Z0 (z9 4) Z5)) Z5))) (Z0 (v8 rfl F01 (Z0 (z9 2) Z5)) Z5)))) Z7)))))))
theorem pt_lay__k {P:K0d}{w:World}{K:K2}{mg:Str->Option Value}{base:Heap}{dk:Addr}{v_most:V}{u_most:Value}(D_most:KD K dk "most" c_MOST v_most u_most) (F:FnR P w K mg base 8 "lay" (top 9) dk ["program","most"] z68):FnP P w K mg base 8 "lay" 1 [] [] [c_MOST] z68 :=
 F.pat 1 [] .nil (.cons D_most.rel .nil) ze0 (ze7 D_most) (by decide) rfl λdoc pm an cdv ct s us ws X h1 h2=>match us,h1,ws,h2 with|[_],_,[],_=>λM A E Q q=>za6 X D_most.ns rfl λomost hlmost=>(by dsimp only[Sem.bind];rw[hlmost];exact K6 q)
noncomputable def z0L:G->M Out :=
 (Z3 (sAsg (λ_=>pure (.bl true)) (gDx (eVar 2) (eVar 1))) (Z3 (sAsg (eLst aNil) (gN 3)) (Z3 (sAsg (eLst (Z1 (eVar 1) aNil)) (gN 4)) (Z3 (z26 (cVal (eVar 4)) (Z3 (sAsg (eM0 fPop (eVar 4)) (gN 5)) (Z3 (z0I (eM1 w6 (eVar 3) (eVar 5))) (Z3 (sFor (z0J (e2 fIx (eVar 0) (eVar 5))) (gN 6) (Z3 (sIf (λγ=>do let d <- e2 (fInD true) (eVar 6) (eVar 2) γ;asB d) (Z3 (sAsg (λ_=>pure (.bl true)) (gDx (eVar 2) (eVar 6))) (Z3 (z0I (eM1 w6 (eVar 4) (eVar 6))) bNil)) bNil) bNil)) bNil))) 1000000) (Z3 (sRet (eFn 1 z1o (Z1 (eVar 3) aNil))) bNil)))))
noncomputable def z1W:List D->M D:=λds=>cln (runF 7 z0L ds)
theorem ok_take_from (T:DefAt K "take_from" (top 22)) (mx:Mx K mg "take_from") (F0g:Fn P w K mg base 1 "set_of" 1 z1o):Fn P w K mg base 2 "take_from" 3 z1W :=
 dfC ["leads","start","taken","part","waiting","one","other"] z0L T mx (by decide +kernel) rfl (λ_ _ _ _ _ _ us hl=>(by obtain⟨_,_,_,rfl⟩:=ar3 hl;rfl)) λhcd hr nd =>
  (Z2 (z4L z1m (zK6 (z44 hr) (z9 2) (z9 1))) (Z2 (y0 3 nd (z0c Z5)) (Z2 (y0 4 nd (z0c (Z0 (z9 1) Z5))) (Z2 (z9A 1000000 K0y (J7 (z9 4)) (Z2 (y0 5 nd (zG0 (z9 4))) (Z2 (z0X (v7 (z9 3) (z9 5))) (Z2 (z1C K0y rfl (z0W (j6 (z9 0) (z9 5))) (k9 6 nd) (Z2 (s_if (sc_c (zw3 (z44 hr)) (z9 6) (z9 2)) (Z2 (z4L z1m (zK6 (z44 hr) (z9 2) (z9 6))) (Z2 (z0X (v7 (z9 4) (z9 6))) Z7)) Z7) Z7)) Z7)))) (Z2 (y6 (Z9 F0g (hr.mono (by decide)) rfl (Z0 (z9 3) Z5))) Z7)))))
noncomputable def z25:G->M Out :=
 (Z3 (sRet (eFn 3 z1W (Z1 (e2 fIx (eVar 0) (λ_=>pure (.int 0))) (Z1 (eVar 1) (Z1 (λ_=>newK []) aNil))))) bNil)
noncomputable def z2a:List D->M D:=λds=>cln (runF 2 z25 ds)
theorem ok_reached (T:DefAt K "reached" (top 24)) (mx:Mx K mg "reached") (F0E:Fn P w K mg base 2 "take_from" 3 z1W):Fn P w K mg base 3 "reached" 2 z2a :=
 dfC ["machine","standing"] z25 T mx (by decide +kernel) rfl (λ_ _ _ _ _ _ us hl=>(by obtain⟨_,_,rfl⟩:=ar2 hl;rfl)) λhcd hr nd =>
  (Z2 (y6 (Z9 F0E (hr.mono (by decide)) rfl (Z0 (j6 (z9 0) Z4) (Z0 (z9 1) (Z0 zH8 Z5))))) Z7)
noncomputable def z1R:G->M Out :=
 (Z3 (z3t 1 [none] (z19 (eVar 0)) (gN 0) (λγ=>do let d <- e2 fGe (eVar 0) (e2 fPow (λ_=>pure (.int 10)) (λ_=>pure (.int 18))) γ;asB d) (eVar 0)) (Z3 (sRet (eLst (Z1 (eVar 1) (Z1 (z0C [none] (z19 (eVar 0)) (gN 0) (λγ=>do let d <- e2 fLt (eVar 0) (e2 fPow (λ_=>pure (.int 10)) (λ_=>pure (.int 18))) γ;asB d) (eVar 0)) (Z1 (λ_=>pure (.int 5)) (Z1 (λ_=>pure (.int 0)) aNil)))))) bNil))
noncomputable def z1U:List D->M D:=runF 2 z1R
theorem ok__law_pool (T:DefAt K "_law_pool" (top 26)) (mx:Mx K mg "_law_pool"):Fn P w K mg base 1 "_law_pool" 1 z1U :=
 dfN ["_law_script","_law_great"] z1R T mx (by decide +kernel) rfl (λ_ _ _ _ _ _ us hl=>(by obtain⟨_,rfl⟩:=ar1 hl;rfl)) λhcd hr nd =>
  (Z2 (z9S 1 (N':=["_law_cell"]) (cap:=[none]) rfl (z27 (by first|rfl|kernel_rfl!)) (z1I (z9 0)) (λ_ _ _ _=>(J5 0 (show (["_law_cell"]:List Str).Nodup by decide +kernel))) (λ_ _ _ _=>(z2X (sc_c zd6 (z9 0) (z9e Z4 Z4)))) (λ_ _ _ _=>(z9 0)) nd) (Z2 (y6 (z0c (Z0 (z9 1) (Z0 (z0M (N':=["_law_cell"]) (cap:=[none]) rfl (z27 (by first|rfl|kernel_rfl!)) (z1I (z9 0)) (λ_ _ _ _=>(J5 0 (show (["_law_cell"]:List Str).Nodup by decide +kernel))) (λ_ _ _ _=>(z2X (sc_c zg5 (z9 0) (z9e Z4 Z4)))) (λ_ _ _ _=>(z9 0))) (Z0 Z4 (Z0 Z4 Z5)))))) Z7))
noncomputable def z1i:G->M Out :=
 (Z3 (sIf (λγ=>do let d <- e2 fGt (j7 fLen (Z1 (e2 fIx (eVar 0) (λ_=>pure (.int 0))) aNil)) (λ_=>pure (.int 0)) γ;asB d) (Z3 (sAsg (e2 fIx (e2 fIx (eVar 0) (λ_=>pure (.int 0))) (λ_=>pure (.int 0))) (gN 2)) (Z3 (sAsg (e2 fDiv (eVar 2) (eVar 1)) (gIx (e2 fIx (eVar 0) (λ_=>pure (.int 0))) (λ_=>pure (.int 0)))) (Z3 (sIf (λγ=>do let d <- e2 (fEq false) (e2 fDiv (eVar 2) (eVar 1)) (λ_=>pure (.int 0)) γ;asB d) (Z3 (z0I (eM1 z4g (e2 fIx (eVar 0) (λ_=>pure (.int 0))) (λ_=>pure (.int 0)))) bNil) bNil) (Z3 (sRet (e2 fMod (eVar 2) (eVar 1))) bNil)))) bNil) (Z3 (sAsg (e2 fAdd (e2 fIx (eVar 0) (λ_=>pure (.int 3))) (λ_=>pure (.int 1))) (gIx (eVar 0) (λ_=>pure (.int 3)))) (Z3 (sAsg (λ_=>pure (.int 0)) (gN 2)) (Z3 (sIf (λγ=>do let d <- e2 fGt (j7 fLen (Z1 (e2 fIx (eVar 0) (λ_=>pure (.int 1))) aNil)) (λ_=>pure (.int 0)) γ;asB d) (Z3 (sAsg (e2 fIx (e2 fIx (eVar 0) (λ_=>pure (.int 1))) (e2 fMod (e2 fIx (eVar 0) (λ_=>pure (.int 3))) (j7 fLen (Z1 (e2 fIx (eVar 0) (λ_=>pure (.int 1))) aNil)))) (gN 2)) bNil) bNil) (Z3 (sAsg (e2 z4D (e2 fMod (eVar 2) (λ_=>pure (.int 2147483629))) (e2 fAdd (e2 z4D (e2 fIx (eVar 0) (λ_=>pure (.int 3))) (e2 fIx (eVar 0) (λ_=>pure (.int 3)))) (λ_=>pure (.int 1)))) (gN 2)) (Z3 (sAsg (e2 fMod (e2 fAdd (e2 fAdd (e2 z4D (e2 fIx (eVar 0) (λ_=>pure (.int 2))) (λ_=>pure (.int 48271))) (eVar 2)) (e2 z4D (λ_=>pure (.int 97)) (e2 fIx (eVar 0) (λ_=>pure (.int 3))))) (λ_=>pure (.int 2147483647))) (gIx (eVar 0) (λ_=>pure (.int 2)))) (Z3 (sRet (e2 fMod (e2 fDiv (e2 fMod (e2 fPow (e2 fIx (eVar 0) (λ_=>pure (.int 2))) (λ_=>pure (.int 5))) (λ_=>pure (.int 2147483629))) (λ_=>pure (.int 64))) (eVar 1))) bNil)))))))
noncomputable def Z8:List D->M D:=runF 3 z1i
theorem ok__law_draw (T:DefAt K "_law_draw" (top 27)) (mx:Mx K mg "_law_draw") (F00:mg "len" = none):Fn P w K mg base 1 "_law_draw" 2 Z8 :=
 dfN ["_law_pool_here","_law_many","_law_cell"] z1i T mx (by decide +kernel) rfl (λ_ _ _ _ _ _ us hl=>(by obtain⟨_,_,rfl⟩:=ar2 hl;rfl)) λhcd hr nd =>
  (Z2 (s_if (sc_c z56 (z00 rfl F00 (Z0 (j6 (z9 0) Z4) Z5)) Z4) (Z2 (y0 2 nd (j6 (j6 (z9 0) Z4) Z4)) (Z2 (z4L (z5F (z9 2) (z9 1)) (z8y (j6 (z9 0) Z4) Z4)) (Z2 (s_if (sc_c z2Q (z5F (z9 2) (z9 1)) Z4) (Z2 (z0X (ze9 (j6 (z9 0) Z4) Z4)) Z7) Z7) (Z2 (y6 (z2t (z9 2) (z9 1))) Z7)))) Z7) (Z2 (z4L (z0v (j6 (z9 0) Z4) Z4) (z8y (z9 0) Z4)) (Z2 (y0 2 nd Z4) (Z2 (s_if (sc_c z56 (z00 rfl F00 (Z0 (j6 (z9 0) Z4) Z5)) Z4) (Z2 (y0 2 nd (j6 (j6 (z9 0) Z4) (z2t (j6 (z9 0) Z4) (z00 rfl F00 (Z0 (j6 (z9 0) Z4) Z5))))) Z7) Z7) (Z2 (y0 2 nd (z4J (z2t (z9 2) Z4) (z0v (z4J (j6 (z9 0) Z4) (j6 (z9 0) Z4)) Z4))) (Z2 (z4L (z2t (z0v (z0v (z4J (j6 (z9 0) Z4) Z4) (z9 2)) (z4J Z4 (j6 (z9 0) Z4))) Z4) (z8y (z9 0) Z4)) (Z2 (y6 (z2t (z5F (z2t (z9e (j6 (z9 0) Z4) Z4) Z4) Z4) (z9 1))) Z7)))))))
noncomputable def z1e:G->M Out :=
 (Z3 (sAsg (λ_=>pure (.str "abcdefghijklmnopqrstuvwxyz")) (gN 3)) (Z3 (sAsg (eVar 1) (gN 4)) (Z3 (sFor (z0s (eFn 2 Z8 (Z1 (eVar 0) (Z1 (λ_=>pure (.int 4)) aNil)))) (gN 5) (Z3 (sAsg (e2 fAdd (eVar 4) (e2 fIx (eVar 3) (eFn 2 Z8 (Z1 (eVar 0) (Z1 (λ_=>pure (.int 26)) aNil))))) (gN 4)) bNil)) (Z3 (sAsg (eFn 2 Z8 (Z1 (eVar 0) (Z1 (λ_=>pure (.int 26)) aNil))) (gN 6)) (Z3 (sAsg (eLst (Z1 (λ_=>pure (.str "yes")) (Z1 (λ_=>pure (.str "no")) (Z1 (λ_=>pure (.str "not")) (Z1 (λ_=>pure (.str "and")) (Z1 (λ_=>pure (.str "or")) (Z1 (λ_=>pure (.str "step")) (Z1 (λ_=>pure (.str "some")) (Z1 (λ_=>pure (.str "all")) (Z1 (λ_=>pure (.str "next")) (Z1 (λ_=>pure (.str "once")) (Z1 (λ_=>pure (.str "ever")) (Z1 (λ_=>pure (.str "until")) (Z1 (λ_=>pure (.str "unless")) aNil)))))))))))))) (gN 7)) (Z3 (sFor (z0s (λ_=>pure (.int 26))) (gN 5) (Z3 (sAsg (e2 fAdd (eVar 4) (e2 fIx (eVar 3) (e2 fMod (e2 fAdd (eVar 6) (eVar 5)) (λ_=>pure (.int 26))))) (gN 8)) (Z3 (sIf (cAnd (λγ=>do let d <- e2 (fIn true) (eVar 8) (eVar 7) γ;asB d) (λγ=>do let d <- e2 (fIn true) (eVar 8) (eVar 2) γ;asB d)) (Z3 (sRet (eVar 8)) bNil) bNil) bNil))) (Z3 (sRet (e2 fAdd (eVar 4) (λ_=>pure (.str "x")))) bNil)))))))
noncomputable def z1L:List D->M D:=λds=>cln (runF 9 z1e ds)
theorem ok__law_name (T:DefAt K "_law_name" (top 28)) (mx:Mx K mg "_law_name") (F03:mg "range" = none) (F02:Fn P w K mg base 1 "_law_draw" 2 Z8):Fn P w K mg base 2 "_law_name" 3 z1L :=
 dfC ["_law_pool_here","_law_start","_law_taken","_law_letters","_law_name_here","_law_k","_law_last","_law_words","_law_found"] z1e T mx (by decide +kernel) rfl (λ_ _ _ _ _ _ us hl=>(by obtain⟨_,_,_,rfl⟩:=ar3 hl;rfl)) λhcd hr nd =>
  (Z2 (y0 3 nd v5) (Z2 (y0 4 nd (z9 1)) (Z2 (z1C K0y rfl (z0B rfl F03 (Z9 F02 (hr.mono (by decide)) rfl (Z0 (z9 0) (Z0 Z4 Z5)))) (k9 5 nd) (Z2 (y0 4 nd (z0v (z9 4) (j6 (z9 3) (Z9 F02 (hr.mono (by decide)) rfl (Z0 (z9 0) (Z0 Z4 Z5)))))) Z7)) (Z2 (y0 6 nd (Z9 F02 (hr.mono (by decide)) rfl (Z0 (z9 0) (Z0 Z4 Z5)))) (Z2 (y0 7 nd (z0c (Z0 v5 (Z0 v5 (Z0 v5 (Z0 v5 (Z0 v5 (Z0 v5 (Z0 v5 (Z0 v5 (Z0 v5 (Z0 v5 (Z0 v5 (Z0 v5 (Z0 v5 Z5))))))))))))))) (Z2 (z1C K0y rfl (z0B rfl F03 Z4) (k9 5 nd) (Z2 (y0 8 nd (z0v (z9 4) (j6 (z9 3) (z2t (z0v (z9 6) (z9 5)) Z4)))) (Z2 (s_if (SW.sc (z3y (sc_c z3p (z9 8) (z9 7)) (z2x (sc_c z3p (z9 8) (z9 2))))) (Z2 (y6 (z9 8)) Z7) Z7) Z7))) (Z2 (y6 (z0v (z9 4) v5)) Z7)))))))
noncomputable def z1r:G->M Out :=
 (Z3 (sAsg (λ_=>pure (.str "abcdefghijklmnopqrstuvwxyz")) (gN 2)) (Z3 (sAsg (λ_=>pure (.str "")) (gN 3)) (Z3 (sFor (z0s (clE (e2 fIx (eLst (Z1 (λ_=>pure (.int 0)) (Z1 (λ_=>pure (.int 0)) (Z1 (λ_=>pure (.int 1)) (Z1 (λ_=>pure (.int 4)) aNil))))) (eFn 2 Z8 (Z1 (eVar 0) (Z1 (λ_=>pure (.int 4)) aNil)))))) (gN 4) (Z3 (sAsg (e2 fAdd (eVar 3) (e2 fIx (eVar 2) (eFn 2 Z8 (Z1 (eVar 0) (Z1 (λ_=>pure (.int 26)) aNil))))) (gN 3)) bNil)) (Z3 (sAsg (eLst aNil) (gN 5)) (Z3 (sFor (z0s (eVar 1)) (gN 4) (Z3 (z0I (eM1 w6 (eVar 5) (eFn 3 z1L (Z1 (eVar 0) (Z1 (eVar 3) (Z1 (eVar 5) aNil)))))) bNil)) (Z3 (sRet (eVar 5)) bNil))))))
noncomputable def z0i:List D->M D:=λds=>cln (runF 6 z1r ds)
theorem ok__law_names (T:DefAt K "_law_names" (top 29)) (mx:Mx K mg "_law_names") (F03:mg "range" = none) (F02:Fn P w K mg base 1 "_law_draw" 2 Z8) (F0F:Fn P w K mg base 2 "_law_name" 3 z1L):Fn P w K mg base 3 "_law_names" 2 z0i :=
 dfC ["_law_pool_here","_law_many","_law_letters","_law_start","_law_k","_law_names_here"] z1r T mx (by decide +kernel) rfl (λ_ _ _ _ _ _ us hl=>(by obtain⟨_,_,rfl⟩:=ar2 hl;rfl)) λhcd hr nd =>
  (Z2 (y0 2 nd v5) (Z2 (y0 3 nd v5) (Z2 (z1C K0y rfl (z0B rfl F03 (z0y (j6 (z0c (Z0 Z4 (Z0 Z4 (Z0 Z4 (Z0 Z4 Z5))))) (Z9 F02 (hr.mono (by decide)) rfl (Z0 (z9 0) (Z0 Z4 Z5)))))) (k9 4 nd) (Z2 (y0 3 nd (z0v (z9 3) (j6 (z9 2) (Z9 F02 (hr.mono (by decide)) rfl (Z0 (z9 0) (Z0 Z4 Z5)))))) Z7)) (Z2 (y0 5 nd (z0c Z5)) (Z2 (z1C K0y rfl (z0B rfl F03 (z9 1)) (k9 4 nd) (Z2 (z0X (v7 (z9 5) (Z9 F0F (hr.mono (by decide)) rfl (Z0 (z9 0) (Z0 (z9 3) (Z0 (z9 5) Z5)))))) Z7)) (Z2 (y6 (z9 5)) Z7))))))
noncomputable def x6:G->M Out :=
 (Z3 (sRet (eAnd (eIsi "int" (eVar 0)) (eAnd (eNot (eIsi "bool" (eVar 0))) (e3 fLe fLt (eVar 1) (eVar 0) (eVar 2))))) bNil)
noncomputable def z08:List D->M D:=λds=>cln (runF 3 x6 ds)
theorem ok__law_number (T:DefAt K "_law_number" (top 30)) (mx:Mx K mg "_law_number") (F08:mg "bool" = none) (F05:mg "int" = none) (F04:mg "isinstance" = none):Fn P w K mg base 1 "_law_number" 3 z08 :=
 dfC ["_law_thing","_law_low","_law_high"] x6 T mx (by decide +kernel) rfl (λ_ _ _ _ _ _ us hl=>(by obtain⟨_,_,_,rfl⟩:=ar3 hl;rfl)) λhcd hr nd =>
  (Z2 (y6 (z2b (z1s rfl F04 rfl F05 (by decide +kernel) (by decide) (z9 0)) (z2b (z8J (z1s rfl F04 rfl F08 (by decide +kernel) (by decide) (z9 0))) (z4d (zN6 zt8 zg5 (z9 1) (z9 0) (z9 2)))))) Z7)
noncomputable def z0P:G->M Out :=
 (Z3 (sRet (eAnd (eIsi "tuple" (eVar 0)) (e3 fLe fLe (eVar 1) (j7 fLen (Z1 (eVar 0) aNil)) (eVar 2)))) bNil)
noncomputable def y9:List D->M D:=λds=>cln (runF 3 z0P ds)
theorem ok__law_tuple (T:DefAt K "_law_tuple" (top 31)) (mx:Mx K mg "_law_tuple") (F04:mg "isinstance" = none) (F00:mg "len" = none) (F01:mg "tuple" = none):Fn P w K mg base 1 "_law_tuple" 3 y9 :=
 dfC ["_law_thing","_law_least","_law_most"] z0P T mx (by decide +kernel) rfl (λ_ _ _ _ _ _ us hl=>(by obtain⟨_,_,_,rfl⟩:=ar3 hl;rfl)) λhcd hr nd =>
  (Z2 (y6 (z2b (z1s rfl F04 rfl F01 (by decide +kernel) (by decide) (z9 0)) (z4d (zN6 zt8 zt8 (z9 1) (z00 rfl F00 (Z0 (z9 0) Z5)) (z9 2))))) Z7)
noncomputable def z0x:G->M Out :=
 (Z3 (sIf (cNot (cVal (eFn 3 y9 (Z1 (eVar 0) (Z1 (λ_=>pure (.int 0)) (Z1 (eVar 1) aNil)))))) (Z3 (sRet (λ_=>pure (.bl false))) bNil) bNil) (Z3 (sFor (z0s (j7 fLen (Z1 (eVar 0) aNil))) (gN 2) (Z3 (sIf (cOr (cNot (cVal (eFn 3 z08 (Z1 (e2 fIx (eVar 0) (eVar 2)) (Z1 (λ_=>pure (.int 0)) (Z1 (eVar 1) aNil)))))) (cAnd (λγ=>do let d <- e2 fGt (eVar 2) (λ_=>pure (.int 0)) γ;asB d) (λγ=>do let d <- e2 fGe (e2 fIx (eVar 0) (e2 fSub (eVar 2) (λ_=>pure (.int 1)))) (e2 fIx (eVar 0) (eVar 2)) γ;asB d))) (Z3 (sRet (λ_=>pure (.bl false))) bNil) bNil) bNil)) (Z3 (sRet (λ_=>pure (.bl true))) bNil)))
noncomputable def z0z:List D->M D:=λds=>cln (runF 3 z0x ds)
theorem ok__law_good_set (T:DefAt K "_law_good_set" (top 32)) (mx:Mx K mg "_law_good_set") (F00:mg "len" = none) (F03:mg "range" = none) (F0h:Fn P w K mg base 1 "_law_number" 3 z08) (F06:Fn P w K mg base 1 "_law_tuple" 3 y9):Fn P w K mg base 2 "_law_good_set" 2 z0z :=
 dfC ["_law_thing","_law_many","_law_k"] z0x T mx (by decide +kernel) rfl (λ_ _ _ _ _ _ us hl=>(by obtain⟨_,_,rfl⟩:=ar2 hl;rfl)) λhcd hr nd =>
  (Z2 (s_if (z0t (J7 (Z9 F06 (hr.mono (by decide)) rfl (Z0 (z9 0) (Z0 Z4 (Z0 (z9 1) Z5)))))) (Z2 (y6 z1m) Z7) Z7) (Z2 (z1C K0y rfl (z0B rfl F03 (z00 rfl F00 (Z0 (z9 0) Z5))) (k9 2 nd) (Z2 (s_if (SW.sc (z3d (z0t (J7 (Z9 F0h (hr.mono (by decide)) rfl (Z0 (j6 (z9 0) (z9 2)) (Z0 Z4 (Z0 (z9 1) Z5)))))) (z2L (SW.sc (z3y (sc_c z56 (z9 2) Z4) (z2x (sc_c zd6 (j6 (z9 0) (zk1 (z9 2) Z4)) (j6 (z9 0) (z9 2))))))))) (Z2 (y6 z1m) Z7) Z7) Z7)) (Z2 (y6 z1m) Z7)))
noncomputable def Y5 (mS:List D->M D):G->M Out :=
 (Z3 (sIf (cVal (eIsi "tuple" (eVar 1))) (Z3 (sIf (cOr (cNot (cVal (eIsi "tuple" (eVar 0)))) (λγ=>do let d <- e2 (fEqX true) (j7 fLen (Z1 (eVar 0) aNil)) (j7 fLen (Z1 (eVar 1) aNil)) γ;asB d)) (Z3 (sRet (λ_=>pure (.bl false))) bNil) bNil) (Z3 (sFor (z0s (j7 fLen (Z1 (eVar 1) aNil))) (gN 2) (Z3 (sIf (cNot (cVal (eFn 2 mS (Z1 (e2 fIx (eVar 0) (eVar 2)) (Z1 (e2 fIx (eVar 1) (eVar 2)) aNil))))) (Z3 (sRet (λ_=>pure (.bl false))) bNil) bNil) bNil)) (Z3 (sRet (λ_=>pure (.bl true))) bNil))) bNil) (Z3 (sIf (cVal (eIsi "bool" (eVar 1))) (Z3 (sRet (eAnd (eIsi "bool" (eVar 0)) (e2 (fEqX false) (eVar 0) (eVar 1)))) bNil) bNil) (Z3 (sIf (cVal (eIsi "int" (eVar 1))) (Z3 (sRet (eAnd (eIsi "int" (eVar 0)) (eAnd (eNot (eIsi "bool" (eVar 0))) (e2 (fEqX false) (eVar 0) (eVar 1))))) bNil) bNil) (Z3 (sIf (cVal (eIsi "str" (eVar 1))) (Z3 (sRet (eAnd (eIsi "str" (eVar 0)) (e2 (fEqX false) (eVar 0) (eVar 1)))) bNil) bNil) (Z3 (sRet (eAnd (e2 (fIs false) (eVar 1) (λ_=>pure .non)) (e2 (fIs false) (eVar 0) (λ_=>pure .non)))) bNil)))))
noncomputable def J0:Nat->List D->M D
 | 0=>λ_=>bad
 | k+1=>runF 3 (Y5 (J0 k))
theorem sc__law_same:FnScope ["_law_found","_law_due","_law_k"] ["_law_found","_law_due"] (j9 (top 33)):=⟨rfl,rfl,rfl,by decide +kernel,rfl,by decide +kernel,by decide +kernel⟩
theorem ok__law_same {P:K0d}{w:World}{K:K2}{mg:Str->Option Value}{base:Heap}(T:DefAt K "_law_same" (top 33)) (mx:∀v,K2a K K1x "_law_same" = some (some v)->mg "_law_same" = some v) (F08:mg "bool" = none) (F05:mg "int" = none) (F04:mg "isinstance" = none) (F00:mg "len" = none) (F03:mg "range" = none) (F0q:mg "str" = none) (F01:mg "tuple" = none):∀k:Nat,Fn P w K mg base (1+k) "_law_same" 2 (J0 k):=by
 obtain⟨f,fd,hf,F⟩:=T;have hb:Binds K fd ["_law_found","_law_due"] []:=F.binds λ_ _ _ _ _ _ us hl=>(by obtain⟨_,_,rfl⟩:=ar2 hl;rfl);intro k;induction k with
 | zero=>exact zq9 F hb (mx _ hf) rfl
 | succ k F0U =>
  exact zm0 (k:=1+k) F sc__law_same hb (mx _ hf) rfl λcdv A outer s H E hcd hr=>(show SB (cxOf CX0 P w K mg base ["_law_found","_law_due","_law_k"] "_law_same" (j9 (top 33)) f cdv A outer s H E).nox EX0 (z05 (top 33)) (Y5 (J0 k)) from
   have nd:(["_law_found","_law_due","_law_k"]:List Str).Nodup:=sc__law_same.nd
   (Z2 (s_if (J7 (z1s rfl F04 rfl F01 (by decide +kernel) (by decide) (z9 1))) (Z2 (s_if (SW.sc (z3d (z0t (J7 (z1s rfl F04 rfl F01 (by decide +kernel) (by decide) (z9 0)))) (z2L (sc_c (z3K (hu30 hr)) (z00 rfl F00 (Z0 (z9 0) Z5)) (z00 rfl F00 (Z0 (z9 1) Z5)))))) (Z2 (y6 z1m) Z7) Z7) (Z2 (z1C K0y rfl (z0B rfl F03 (z00 rfl F00 (Z0 (z9 1) Z5))) (k9 2 nd) (Z2 (s_if (z0t (J7 (Z9 F0U (hr.mono (by omega)) rfl (Z0 (j6 (z9 0) (z9 2)) (Z0 (j6 (z9 1) (z9 2)) Z5))))) (Z2 (y6 z1m) Z7) Z7) Z7)) (Z2 (y6 z1m) Z7))) Z7) (Z2 (s_if (J7 (z1s rfl F04 rfl F08 (by decide +kernel) (by decide) (z9 1))) (Z2 (y6 (z2b (z1s rfl F04 rfl F08 (by decide +kernel) (by decide) (z9 0)) (z4d (se_c (z3J (hu30 hr)) (z9 0) (z9 1))))) Z7) Z7) (Z2 (s_if (J7 (z1s rfl F04 rfl F05 (by decide +kernel) (by decide) (z9 1))) (Z2 (y6 (z2b (z1s rfl F04 rfl F05 (by decide +kernel) (by decide) (z9 0)) (z2b (z8J (z1s rfl F04 rfl F08 (by decide +kernel) (by decide) (z9 0))) (z4d (se_c (z3J (hu30 hr)) (z9 0) (z9 1)))))) Z7) Z7) (Z2 (s_if (J7 (z1s rfl F04 rfl F0q (by decide +kernel) (by decide) (z9 1))) (Z2 (y6 (z2b (z1s rfl F04 rfl F0q (by decide +kernel) (by decide) (z9 0)) (z4d (se_c (z3J (hu30 hr)) (z9 0) (z9 1))))) Z7) Z7) (Z2 (y6 (z2b (se_c zO1 (z9 1) z5f) (z4d (se_c zO1 (z9 0) z5f)))) Z7))))))
noncomputable def z1y:G->M Out :=
 (Z3 (sIf (λγ=>do let d <- e2 (fEq false) (eFn 2 Z8 (Z1 (eVar 0) (Z1 (λ_=>pure (.int 2)) aNil))) (λ_=>pure (.int 0)) γ;asB d) (Z3 (sRet (eFn 2 Z8 (Z1 (eVar 0) (Z1 (clE (e2 fIx (eLst (Z1 (λ_=>pure (.int 3)) (Z1 (λ_=>pure (.int 9)) aNil))) (eFn 2 Z8 (Z1 (eVar 0) (Z1 (λ_=>pure (.int 2)) aNil))))) aNil)))) bNil) bNil) (Z3 (sRet (eTup (Z1 (e2 fIx (eVar 1) (eFn 2 Z8 (Z1 (eVar 0) (Z1 (j7 fLen (Z1 (eVar 1) aNil)) aNil)))) (Z1 (e2 fSub (eFn 2 Z8 (Z1 (eVar 0) (Z1 (λ_=>pure (.int 17)) aNil))) (λ_=>pure (.int 8))) aNil)))) bNil))
noncomputable def z0k:List D->M D:=λds=>cln (runF 2 z1y ds)
theorem ok__law_worth (T:DefAt K "_law_worth" (top 34)) (mx:Mx K mg "_law_worth") (F00:mg "len" = none) (F02:Fn P w K mg base 1 "_law_draw" 2 Z8):Fn P w K mg base 2 "_law_worth" 2 z0k :=
 dfC ["_law_pool_here","_law_names_here"] z1y T mx (by decide +kernel) rfl (λ_ _ _ _ _ _ us hl=>(by obtain⟨_,_,rfl⟩:=ar2 hl;rfl)) λhcd hr nd =>
  (Z2 (s_if (sc_c z2Q (Z9 F02 (hr.mono (by decide)) rfl (Z0 (z9 0) (Z0 Z4 Z5))) Z4) (Z2 (y6 (Z9 F02 (hr.mono (by decide)) rfl (Z0 (z9 0) (Z0 (z0y (j6 (z0c (Z0 Z4 (Z0 Z4 Z5))) (Z9 F02 (hr.mono (by decide)) rfl (Z0 (z9 0) (Z0 Z4 Z5))))) Z5)))) Z7) Z7) (Z2 (y6 (z1Z (Z0 (j6 (z9 1) (Z9 F02 (hr.mono (by decide)) rfl (Z0 (z9 0) (Z0 (z00 rfl F00 (Z0 (z9 1) Z5)) Z5)))) (Z0 (zk1 (Z9 F02 (hr.mono (by decide)) rfl (Z0 (z9 0) (Z0 Z4 Z5))) Z4) Z5)))) Z7))
noncomputable def z1N:G->M Out :=
 (Z3 (sAsg (e2 fIx (eVar 1) (eFn 2 Z8 (Z1 (eVar 0) (Z1 (j7 fLen (Z1 (eVar 1) aNil)) aNil)))) (gN 2)) (Z3 (sRet (eTup (Z1 (eVar 2) (Z1 (clE (e2 fIx (eLst (Z1 (λ_=>pure (.str "is")) (Z1 (λ_=>pure (.str "not")) (Z1 (λ_=>pure (.str "under")) aNil)))) (eFn 2 Z8 (Z1 (eVar 0) (Z1 (λ_=>pure (.int 3)) aNil))))) (Z1 (eFn 2 z0k (Z1 (eVar 0) (Z1 (eVar 1) aNil))) aNil))))) bNil))
noncomputable def z0r:List D->M D:=λds=>cln (runF 3 z1N ds)
theorem ok__law_test (T:DefAt K "_law_test" (top 35)) (mx:Mx K mg "_law_test") (F00:mg "len" = none) (F02:Fn P w K mg base 1 "_law_draw" 2 Z8) (F0i:Fn P w K mg base 2 "_law_worth" 2 z0k):Fn P w K mg base 3 "_law_test" 2 z0r :=
 dfC ["_law_pool_here","_law_names_here","_law_name_here"] z1N T mx (by decide +kernel) rfl (λ_ _ _ _ _ _ us hl=>(by obtain⟨_,_,rfl⟩:=ar2 hl;rfl)) λhcd hr nd =>
  (Z2 (y0 2 nd (j6 (z9 1) (Z9 F02 (hr.mono (by decide)) rfl (Z0 (z9 0) (Z0 (z00 rfl F00 (Z0 (z9 1) Z5)) Z5))))) (Z2 (y6 (z1Z (Z0 (z9 2) (Z0 (z0y (j6 (z0c (Z0 v5 (Z0 v5 (Z0 v5 Z5)))) (Z9 F02 (hr.mono (by decide)) rfl (Z0 (z9 0) (Z0 Z4 Z5))))) (Z0 (Z9 F0i (hr.mono (by decide)) rfl (Z0 (z9 0) (Z0 (z9 1) Z5))) Z5))))) Z7))
noncomputable def z1q:G->M Out :=
 (Z3 (sAsg (eLst aNil) (gN 3)) (Z3 (sFor (z19 (eVar 1)) (gN 4) (Z3 (sAsg (e2 fAdd (λ_=>pure (.int 1)) (eFn 2 Z8 (Z1 (eVar 0) (Z1 (j7 fMin (Z1 (clE (e2 fIx (eLst (Z1 (λ_=>pure (.int 9)) (Z1 (λ_=>pure (.int 3)) (Z1 (λ_=>pure (.int 4)) aNil)))) (eFn 2 Z8 (Z1 (eVar 0) (Z1 (λ_=>pure (.int 3)) aNil))))) (Z1 (eVar 2) aNil))) aNil)))) (gN 5)) (Z3 (sAsg (e2 fDiv (eVar 2) (eVar 5)) (gN 2)) (Z3 (z0I (eM1 w6 (eVar 3) (eTup (Z1 (eVar 4) (Z1 (eVar 5) (Z1 (eFn 2 Z8 (Z1 (eVar 0) (Z1 (eVar 5) aNil))) aNil)))))) bNil)))) (Z3 (sRet (j7 Y2 (Z1 (eVar 3) aNil))) bNil)))
noncomputable def z1p:List D->M D:=λds=>cln (runF 6 z1q ds)
theorem ok__law_cells (T:DefAt K "_law_cells" (top 36)) (mx:Mx K mg "_law_cells") (F0G:mg "min" = none) (F01:mg "tuple" = none) (F02:Fn P w K mg base 1 "_law_draw" 2 Z8):Fn P w K mg base 2 "_law_cells" 3 z1p :=
 dfC ["_law_pool_here","_law_names_here","_law_room","_law_cells_here","_law_name_here","_law_size"] z1q T mx (by decide +kernel) rfl (λ_ _ _ _ _ _ us hl=>(by obtain⟨_,_,_,rfl⟩:=ar3 hl;rfl)) λhcd hr nd =>
  (Z2 (y0 3 nd (z0c Z5)) (Z2 (z1C K0y rfl (z1I (z9 1)) (k9 4 nd) (Z2 (y0 5 nd (z0v Z4 (Z9 F02 (hr.mono (by decide)) rfl (Z0 (z9 0) (Z0 (zG9 rfl rfl F0G (Z0 (z0y (j6 (z0c (Z0 Z4 (Z0 Z4 (Z0 Z4 Z5)))) (Z9 F02 (hr.mono (by decide)) rfl (Z0 (z9 0) (Z0 Z4 Z5))))) (Z0 (z9 2) Z5))) Z5))))) (Z2 (y0 2 nd (z5F (z9 2) (z9 5))) (Z2 (z0X (v7 (z9 3) (z1Z (Z0 (z9 4) (Z0 (z9 5) (Z0 (Z9 F02 (hr.mono (by decide)) rfl (Z0 (z9 0) (Z0 (z9 5) Z5))) Z5)))))) Z7)))) (Z2 (y6 (v8 rfl F01 (Z0 (z9 3) Z5))) Z7)))
noncomputable def z0O:G->M Out :=
 (Z3 (sAsg (clE (j7 Y2 (Z1 (z0C [some 0,some 2,none] (z0s (clE (e2 fIx (eLst (Z1 (λ_=>pure (.int 0)) (Z1 (λ_=>pure (.int 1)) (Z1 (λ_=>pure (.int 1)) (Z1 (λ_=>pure (.int 2)) (Z1 (λ_=>pure (.int 4)) aNil)))))) (eFn 2 Z8 (Z1 (eVar 0) (Z1 (λ_=>pure (.int 5)) aNil)))))) (gN 2) (λ_=>pure true) (eFn 2 z0r (Z1 (eVar 0) (Z1 (eVar 1) aNil)))) aNil))) (gN 3)) (Z3 (sAsg (eFn 2 Z8 (Z1 (eVar 0) (Z1 (j7 fLen (Z1 (eVar 2) aNil)) aNil))) (gN 4)) (Z3 (sAsg (e2 fAdd (z0G (eVar 2) (z1P (eVar 4)) z20) (z0G (eVar 2) z20 (z1P (eVar 4)))) (gN 5)) (Z3 (sAsg (clE (j7 Y2 (Z1 (z0C [some 0,some 2,none] (z19 (eVar 5)) (gN 2) (λγ=>do let d <- e2 fGt (eFn 2 Z8 (Z1 (eVar 0) (Z1 (λ_=>pure (.int 3)) aNil))) (λ_=>pure (.int 0)) γ;asB d) (eTup (Z1 (eVar 2) (Z1 (eFn 2 z0k (Z1 (eVar 0) (Z1 (eVar 1) aNil))) aNil)))) aNil))) (gN 6)) (Z3 (sRet (eTup (Z1 (eVar 1) (Z1 (eVar 3) (Z1 (eVar 6) aNil))))) bNil)))))
noncomputable def z0p:List D->M D:=λds=>cln (runF 7 z0O ds)
theorem ok__law_command (T:DefAt K "_law_command" (top 37)) (mx:Mx K mg "_law_command") (F00:mg "len" = none) (F03:mg "range" = none) (F01:mg "tuple" = none) (F02:Fn P w K mg base 1 "_law_draw" 2 Z8) (F0j:Fn P w K mg base 3 "_law_test" 2 z0r) (F0i:Fn P w K mg base 2 "_law_worth" 2 z0k):Fn P w K mg base 4 "_law_command" 3 z0p :=
 dfC ["_law_pool_here","_law_name_here","_law_names_here","_law_tests","_law_turn","_law_some","_law_sets"] z0O T mx (by decide +kernel) rfl (λ_ _ _ _ _ _ us hl=>(by obtain⟨_,_,_,rfl⟩:=ar3 hl;rfl)) λhcd hr nd =>
  (Z2 (y0 3 nd (z0y (v8 rfl F01 (Z0 (z0M (N':=["_law_pool_here","_law_names_here","_law_k"]) (cap:=[some 0,some 2,none]) rfl (z27 (by first|rfl|kernel_rfl!)) (z0B rfl F03 (z0y (j6 (z0c (Z0 Z4 (Z0 Z4 (Z0 Z4 (Z0 Z4 (Z0 Z4 Z5)))))) (Z9 F02 (hr.mono (by decide)) rfl (Z0 (z9 0) (Z0 Z4 Z5)))))) (λ_ _ _ _=>(J5 2 (show (["_law_pool_here","_law_names_here","_law_k"]:List Str).Nodup by decide +kernel))) (λ_ _ _ _=>z1b) (λ_ _ _ _=>(Z9 F0j (hr.mono (by decide)) rfl (Z0 (z9 0) (Z0 (z9 1) Z5))))) Z5)))) (Z2 (y0 4 nd (Z9 F02 (hr.mono (by decide)) rfl (Z0 (z9 0) (Z0 (z00 rfl F00 (Z0 (z9 2) Z5)) Z5)))) (Z2 (y0 5 nd (z0v (z1J (z9 2) (z2E (z9 4)) z2A) (z1J (z9 2) z2A (z2E (z9 4))))) (Z2 (y0 6 nd (z0y (v8 rfl F01 (Z0 (z0M (N':=["_law_pool_here","_law_names_here","_law_one"]) (cap:=[some 0,some 2,none]) rfl (z27 (by first|rfl|kernel_rfl!)) (z1I (z9 5)) (λ_ _ _ _=>(J5 2 (show (["_law_pool_here","_law_names_here","_law_one"]:List Str).Nodup by decide +kernel))) (λ_ _ _ _=>(z2X (sc_c z56 (Z9 F02 (hr.mono (by decide)) rfl (Z0 (z9 0) (Z0 Z4 Z5))) Z4))) (λ_ _ _ _=>(z1Z (Z0 (z9 2) (Z0 (Z9 F0i (hr.mono (by decide)) rfl (Z0 (z9 0) (Z0 (z9 1) Z5))) Z5))))) Z5)))) (Z2 (y6 (z1Z (Z0 (z9 1) (Z0 (z9 3) (Z0 (z9 6) Z5))))) Z7)))))
noncomputable def z2m:G->M Out :=
 (Z3 (sIf (cAnd (λγ=>do let d <- e2 fGt (j7 fLen (Z1 (eVar 2) aNil)) (λ_=>pure (.int 0)) γ;asB d) (λγ=>do let d <- e2 (fEq false) (eFn 2 Z8 (Z1 (eVar 0) (Z1 (λ_=>pure (.int 2)) aNil))) (λ_=>pure (.int 0)) γ;asB d)) (Z3 (sAsg (clE (e2 fIx (eLst (Z1 (λ_=>pure (.str "can")) (Z1 (λ_=>pure (.str "last")) aNil))) (eFn 2 Z8 (Z1 (eVar 0) (Z1 (e2 fAdd (λ_=>pure (.int 1)) (j7 fInt (Z1 (eVar 3) aNil))) aNil))))) (gN 4)) (Z3 (sRet (eTup (Z1 (eVar 4) (Z1 (e2 fIx (eVar 2) (eFn 2 Z8 (Z1 (eVar 0) (Z1 (j7 fLen (Z1 (eVar 2) aNil)) aNil)))) aNil)))) bNil)) bNil) (Z3 (sRet (eFn 2 z0r (Z1 (eVar 0) (Z1 (eVar 1) aNil)))) bNil))
noncomputable def z1H:List D->M D:=λds=>cln (runF 5 z2m ds)
theorem ok__law_ask (T:DefAt K "_law_ask" (top 38)) (mx:Mx K mg "_law_ask") (F05:mg "int" = none) (F00:mg "len" = none) (F02:Fn P w K mg base 1 "_law_draw" 2 Z8) (F0j:Fn P w K mg base 3 "_law_test" 2 z0r):Fn P w K mg base 4 "_law_ask" 4 z1H :=
 dfC ["_law_pool_here","_law_cells_here","_law_commands","_law_keeps","_law_word"] z2m T mx (by decide +kernel) rfl (λ_ _ _ _ _ _ us hl=>(by obtain⟨_,_,_,_,rfl⟩:=ar4 hl;rfl)) λhcd hr nd =>
  (Z2 (s_if (SW.sc (z3y (sc_c z56 (z00 rfl F00 (Z0 (z9 2) Z5)) Z4) (z2x (sc_c z2Q (Z9 F02 (hr.mono (by decide)) rfl (Z0 (z9 0) (Z0 Z4 Z5))) Z4)))) (Z2 (y0 4 nd (z0y (j6 (z0c (Z0 v5 (Z0 v5 Z5))) (Z9 F02 (hr.mono (by decide)) rfl (Z0 (z9 0) (Z0 (z0v Z4 (z78 rfl F05 (Z0 (z9 3) Z5))) Z5)))))) (Z2 (y6 (z1Z (Z0 (z9 4) (Z0 (j6 (z9 2) (Z9 F02 (hr.mono (by decide)) rfl (Z0 (z9 0) (Z0 (z00 rfl F00 (Z0 (z9 2) Z5)) Z5)))) Z5)))) Z7)) Z7) (Z2 (y6 (Z9 F0j (hr.mono (by decide)) rfl (Z0 (z9 0) (Z0 (z9 1) Z5)))) Z7))
noncomputable def z1z:G->M Out :=
 (Z3 (sAsg (eLst aNil) (gN 5)) (Z3 (sFor (z19 (eVar 1)) (gN 6) (Z3 (sAsg (eLst aNil) (gN 7)) (Z3 (sFor (z0s (clE (e2 fIx (eLst (Z1 (λ_=>pure (.int 1)) (Z1 (λ_=>pure (.int 0)) (Z1 (λ_=>pure (.int 1)) (Z1 (λ_=>pure (.int 2)) (Z1 (λ_=>pure (.int 1)) (Z1 (λ_=>pure (.int 4)) aNil))))))) (eFn 2 Z8 (Z1 (eVar 0) (Z1 (λ_=>pure (.int 6)) aNil)))))) (gN 8) (Z3 (sAsg (clE (e2 fIx (eLst (Z1 (λ_=>pure (.int 1)) (Z1 (λ_=>pure (.int 0)) (Z1 (λ_=>pure (.int 1)) (Z1 (λ_=>pure (.int 2)) (Z1 (λ_=>pure (.int 4)) (Z1 (λ_=>pure (.int 1)) aNil))))))) (eFn 2 Z8 (Z1 (eVar 0) (Z1 (λ_=>pure (.int 6)) aNil))))) (gN 9)) (Z3 (z0I (eM1 w6 (eVar 7) (clE (j7 Y2 (Z1 (z0C [some 0,some 2,some 3,some 4,none] (z0s (eVar 9)) (gN 4) (λ_=>pure true) (eFn 4 z1H (Z1 (eVar 0) (Z1 (eVar 1) (Z1 (eVar 2) (Z1 (eVar 3) aNil)))))) aNil))))) bNil))) (Z3 (z0I (eM1 w6 (eVar 5) (eTup (Z1 (eVar 6) (Z1 (j7 Y2 (Z1 (eVar 7) aNil)) aNil))))) bNil)))) (Z3 (sRet (j7 Y2 (Z1 (eVar 5) aNil))) bNil)))
noncomputable def z1n:List D->M D:=λds=>cln (runF 10 z1z ds)
theorem ok__law_marks (T:DefAt K "_law_marks" (top 39)) (mx:Mx K mg "_law_marks") (F03:mg "range" = none) (F01:mg "tuple" = none) (F0H:Fn P w K mg base 4 "_law_ask" 4 z1H) (F02:Fn P w K mg base 1 "_law_draw" 2 Z8):Fn P w K mg base 5 "_law_marks" 5 z1n :=
 dfC ["_law_pool_here","_law_names_here","_law_cells_here","_law_commands","_law_keeps","_law_marks_here","_law_name_here","_law_rows","_law_k","_law_many"] z1z T mx (by decide +kernel) rfl (λ_ _ _ _ _ _ us hl=>(by obtain⟨_,_,_,_,_,rfl⟩:=ar5 hl;rfl)) λhcd hr nd =>
  (Z2 (y0 5 nd (z0c Z5)) (Z2 (z1C K0y rfl (z1I (z9 1)) (k9 6 nd) (Z2 (y0 7 nd (z0c Z5)) (Z2 (z1C K0y rfl (z0B rfl F03 (z0y (j6 (z0c (Z0 Z4 (Z0 Z4 (Z0 Z4 (Z0 Z4 (Z0 Z4 (Z0 Z4 Z5))))))) (Z9 F02 (hr.mono (by decide)) rfl (Z0 (z9 0) (Z0 Z4 Z5)))))) (k9 8 nd) (Z2 (y0 9 nd (z0y (j6 (z0c (Z0 Z4 (Z0 Z4 (Z0 Z4 (Z0 Z4 (Z0 Z4 (Z0 Z4 Z5))))))) (Z9 F02 (hr.mono (by decide)) rfl (Z0 (z9 0) (Z0 Z4 Z5)))))) (Z2 (z0X (v7 (z9 7) (z0y (v8 rfl F01 (Z0 (z0M (N':=["_law_pool_here","_law_cells_here","_law_commands","_law_keeps","_law_j"]) (cap:=[some 0,some 2,some 3,some 4,none]) rfl (z27 (by first|rfl|kernel_rfl!)) (z0B rfl F03 (z9 9)) (λ_ _ _ _=>(J5 4 (show (["_law_pool_here","_law_cells_here","_law_commands","_law_keeps","_law_j"]:List Str).Nodup by decide +kernel))) (λ_ _ _ _=>z1b) (λ_ _ _ _=>(Z9 F0H (hr.mono (by decide)) rfl (Z0 (z9 0) (Z0 (z9 1) (Z0 (z9 2) (Z0 (z9 3) Z5))))))) Z5))))) Z7))) (Z2 (z0X (v7 (z9 5) (z1Z (Z0 (z9 6) (Z0 (v8 rfl F01 (Z0 (z9 7) Z5)) Z5))))) Z7)))) (Z2 (y6 (v8 rfl F01 (Z0 (z9 5) Z5))) Z7)))
noncomputable def z0N:G->M Out :=
 (Z3 (sAsg (e2 (fEq false) (eFn 2 Z8 (Z1 (eVar 0) (Z1 (λ_=>pure (.int 2)) aNil))) (λ_=>pure (.int 1))) (gN 4)) (Z3 (sAsg (e2 (fEq false) (eFn 2 Z8 (Z1 (eVar 0) (Z1 (λ_=>pure (.int 3)) aNil))) (λ_=>pure (.int 0))) (gN 5)) (Z3 (sAsg (e2 fAdd (λ_=>pure (.int 1)) (eFn 2 Z8 (Z1 (eVar 0) (Z1 (λ_=>pure (.int 4)) aNil)))) (gN 6)) (Z3 (sAsg (eFn 2 Z8 (Z1 (eVar 0) (Z1 (e2 fAdd (eVar 2) (λ_=>pure (.int 1))) aNil))) (gN 2)) (Z3 (sAsg (eFn 2 Z8 (Z1 (eVar 0) (Z1 (e2 fAdd (eVar 3) (λ_=>pure (.int 1))) aNil))) (gN 3)) (Z3 (sAsg (eFn 2 z0i (Z1 (eVar 0) (Z1 (λ_=>pure (.int 8)) aNil))) (gN 7)) (Z3 (sAsg (z0G (eVar 7) z20 (z1P (eVar 6))) (gN 8)) (Z3 (sAsg (z0G (eRev (eVar 7) (eNeg (λ_=>pure (.int 1)))) z20 (z1P (eVar 3))) (gN 9)) (Z3 (sIf (cNot (cVal (eVar 5))) (Z3 (sAsg (eFn 2 z0i (Z1 (eVar 0) (Z1 (eVar 6) aNil))) (gN 8)) (Z3 (sAsg (eFn 2 z0i (Z1 (eVar 0) (Z1 (eVar 3) aNil))) (gN 9)) bNil)) bNil) (Z3 (sAsg (z0G (eVar 7) z20 (z1P (eVar 2))) (gN 7)) (Z3 (sIf (cVal (eVar 4)) (Z3 (sAsg (e2 fDiv (eVar 1) (e2 fAdd (λ_=>pure (.int 1)) (eVar 2))) (gN 1)) bNil) bNil) (Z3 (sAsg (eFn 3 z1p (Z1 (eVar 0) (Z1 (eVar 8) (Z1 (eVar 1) aNil)))) (gN 10)) (Z3 (sAsg (clE (j7 Y2 (Z1 (z0C [some 0,some 8,none] (z19 (eVar 7)) (gN 2) (λ_=>pure true) (eFn 3 z0p (Z1 (eVar 0) (Z1 (eVar 2) (Z1 (eVar 1) aNil))))) aNil))) (gN 11)) (Z3 (sRet (eTup (Z1 (eVar 10) (Z1 (eVar 11) (Z1 (eFn 5 z1n (Z1 (eVar 0) (Z1 (eVar 9) (Z1 (eVar 8) (Z1 (eVar 7) (Z1 (eVar 4) aNil)))))) (Z1 (eVar 4) aNil)))))) bNil))))))))))))))
noncomputable def v9:List D->M D:=λds=>cln (runF 12 z0N ds)
theorem ok__law_program (T:DefAt K "_law_program" (top 40)) (mx:Mx K mg "_law_program") (F01:mg "tuple" = none) (F0I:Fn P w K mg base 2 "_law_cells" 3 z1p) (F0J:Fn P w K mg base 4 "_law_command" 3 z0p) (F02:Fn P w K mg base 1 "_law_draw" 2 Z8) (F0K:Fn P w K mg base 5 "_law_marks" 5 z1n) (F0o:Fn P w K mg base 3 "_law_names" 2 z0i):Fn P w K mg base 6 "_law_program" 4 v9 :=
 dfC ["_law_pool_here","_law_room","_law_commands","_law_marks_here","_law_keeps","_law_shared","_law_many","_law_called","_law_cells_here","_law_worn_here","_law_inner","_law_rows"] z0N T mx (by decide +kernel) rfl (λ_ _ _ _ _ _ us hl=>(by obtain⟨_,_,_,_,rfl⟩:=ar4 hl;rfl)) λhcd hr nd =>
  (Z2 (y0 4 nd (se_c z2Q (Z9 F02 (hr.mono (by decide)) rfl (Z0 (z9 0) (Z0 Z4 Z5))) Z4)) (Z2 (y0 5 nd (se_c z2Q (Z9 F02 (hr.mono (by decide)) rfl (Z0 (z9 0) (Z0 Z4 Z5))) Z4)) (Z2 (y0 6 nd (z0v Z4 (Z9 F02 (hr.mono (by decide)) rfl (Z0 (z9 0) (Z0 Z4 Z5))))) (Z2 (y0 2 nd (Z9 F02 (hr.mono (by decide)) rfl (Z0 (z9 0) (Z0 (z0v (z9 2) Z4) Z5)))) (Z2 (y0 3 nd (Z9 F02 (hr.mono (by decide)) rfl (Z0 (z9 0) (Z0 (z0v (z9 3) Z4) Z5)))) (Z2 (y0 7 nd (Z9 F0o (hr.mono (by decide)) rfl (Z0 (z9 0) (Z0 Z4 Z5)))) (Z2 (y0 8 nd (z1J (z9 7) z2A (z2E (z9 6)))) (Z2 (y0 9 nd (z1J (zJ8 (z9 7) (z4W Z4)) z2A (z2E (z9 3)))) (Z2 (s_if (z0t (J7 (z9 5))) (Z2 (y0 8 nd (Z9 F0o (hr.mono (by decide)) rfl (Z0 (z9 0) (Z0 (z9 6) Z5)))) (Z2 (y0 9 nd (Z9 F0o (hr.mono (by decide)) rfl (Z0 (z9 0) (Z0 (z9 3) Z5)))) Z7)) Z7) (Z2 (y0 7 nd (z1J (z9 7) z2A (z2E (z9 2)))) (Z2 (s_if (J7 (z9 4)) (Z2 (y0 1 nd (z5F (z9 1) (z0v Z4 (z9 2)))) Z7) Z7) (Z2 (y0 10 nd (Z9 F0I (hr.mono (by decide)) rfl (Z0 (z9 0) (Z0 (z9 8) (Z0 (z9 1) Z5))))) (Z2 (y0 11 nd (z0y (v8 rfl F01 (Z0 (z0M (N':=["_law_pool_here","_law_cells_here","_law_name_here"]) (cap:=[some 0,some 8,none]) rfl (z27 (by first|rfl|kernel_rfl!)) (z1I (z9 7)) (λ_ _ _ _=>(J5 2 (show (["_law_pool_here","_law_cells_here","_law_name_here"]:List Str).Nodup by decide +kernel))) (λ_ _ _ _=>z1b) (λ_ _ _ _=>(Z9 F0J (hr.mono (by decide)) rfl (Z0 (z9 0) (Z0 (z9 2) (Z0 (z9 1) Z5)))))) Z5)))) (Z2 (y6 (z1Z (Z0 (z9 10) (Z0 (z9 11) (Z0 (Z9 F0K (hr.mono (by decide)) rfl (Z0 (z9 0) (Z0 (z9 9) (Z0 (z9 8) (Z0 (z9 7) (Z0 (z9 4) Z5)))))) (Z0 (z9 4) Z5)))))) Z7))))))))))))))
noncomputable def z0u:G->M Out :=
 (Z3 (sIf (cVal (eIsi "tuple" (eVar 0))) (Z3 (sRet (e2 fAdd (e2 fIx (eVar 2) (eM1 z09 (eVar 1) (e2 fIx (eVar 0) (λ_=>pure (.int 0))))) (e2 fIx (eVar 0) (λ_=>pure (.int 1))))) bNil) bNil) (Z3 (sRet (eVar 0)) bNil))
noncomputable def z03:List D->M D:=λds=>cln (runF 3 z0u ds)
theorem ok__law_comes_to (T:DefAt K "_law_comes_to" (top 41)) (mx:Mx K mg "_law_comes_to") (F04:mg "isinstance" = none) (F01:mg "tuple" = none):Fn P w K mg base 1 "_law_comes_to" 3 z03 :=
 dfC ["_law_worth_here","_law_names_here","_law_room"] z0u T mx (by decide +kernel) rfl (λ_ _ _ _ _ _ us hl=>(by obtain⟨_,_,_,rfl⟩:=ar3 hl;rfl)) λhcd hr nd =>
  (Z2 (s_if (J7 (z1s rfl F04 rfl F01 (by decide +kernel) (by decide) (z9 0))) (Z2 (y6 (z0v (j6 (z9 2) (z1a (hu40 hr) (z9 1) (j6 (z9 0) Z4))) (j6 (z9 0) Z4))) Z7) Z7) (Z2 (y6 (z9 0)) Z7))
noncomputable def z0A:G->M Out :=
 (Z3 (sFor (orE (z0J (eVar 0)) (z19 (eVar 0))) (gT 3 (z01 (gN 3) (z01 (gN 4) (z01 (gN 5) z33)))) (Z3 (sAsg (e2 fIx (eVar 2) (eM1 z09 (eVar 1) (eVar 3))) (gN 6)) (Z3 (sAsg (eFn 3 z03 (Z1 (eVar 5) (Z1 (eVar 1) (Z1 (eVar 2) aNil)))) (gN 7)) (Z3 (sIf (cOr (cAnd (λγ=>do let d <- e2 (fEq false) (eVar 4) (λ_=>pure (.str "is")) γ;asB d) (λγ=>do let d <- e2 (fEqX true) (eVar 6) (eVar 7) γ;asB d)) (cOr (cAnd (λγ=>do let d <- e2 (fEq false) (eVar 4) (λ_=>pure (.str "not")) γ;asB d) (λγ=>do let d <- e2 (fEqX false) (eVar 6) (eVar 7) γ;asB d)) (cAnd (λγ=>do let d <- e2 (fEq false) (eVar 4) (λ_=>pure (.str "under")) γ;asB d) (λγ=>do let d <- e2 fGe (eVar 6) (eVar 7) γ;asB d)))) (Z3 (sRet (λ_=>pure (.bl false))) bNil) bNil) bNil)))) (Z3 (sRet (λ_=>pure (.bl true))) bNil))
noncomputable def J2:List D->M D:=λds=>cln (runF 8 z0A ds)
theorem ok__law_all_hold (T:DefAt K "_law_all_hold" (top 42)) (mx:Mx K mg "_law_all_hold") (F0k:Fn P w K mg base 1 "_law_comes_to" 3 z03):Fn P w K mg base 2 "_law_all_hold" 3 J2 :=
 dfC ["_law_tests","_law_names_here","_law_room","_law_name_here","_law_sign","_law_worth_here","_law_held","_law_due"] z0A T mx (by decide +kernel) rfl (λ_ _ _ _ _ _ us hl=>(by obtain⟨_,_,_,rfl⟩:=ar3 hl;rfl)) λhcd hr nd =>
  (Z2 (z1C K0y rfl (zW2 (z0W (z9 0)) (z1I (z9 0))) (z3E rfl (v3 (k9 3 nd) (v3 (k9 4 nd) (v3 (k9 5 nd) z2D)))) (Z2 (y0 6 nd (j6 (z9 2) (z1a (hu40 hr) (z9 1) (z9 3)))) (Z2 (y0 7 nd (Z9 F0k (hr.mono (by decide)) rfl (Z0 (z9 5) (Z0 (z9 1) (Z0 (z9 2) Z5))))) (Z2 (s_if (SW.sc (z3d (SW.sc (z3y (sc_c z2Q (z9 4) v5) (z2x (sc_c (z3K (hu30 hr)) (z9 6) (z9 7))))) (z3d (SW.sc (z3y (sc_c z2Q (z9 4) v5) (z2x (sc_c (z3J (hu30 hr)) (z9 6) (z9 7))))) (z2L (SW.sc (z3y (sc_c z2Q (z9 4) v5) (z2x (sc_c zd6 (z9 6) (z9 7))))))))) (Z2 (y6 z1m) Z7) Z7) Z7)))) (Z2 (y6 z1m) Z7))
noncomputable def J9:G->M Out :=
 (Z3 (sRet (z0C [none] (z0J (eVar 0)) (gN 0) (λ_=>pure true) (e2 fIx (eVar 0) (λ_=>pure (.int 0))))) bNil)
noncomputable def J8:List D->M D:=λds=>cln (runF 1 J9 ds)
theorem ok__law_names_of (T:DefAt K "_law_names_of" (top 43)) (mx:Mx K mg "_law_names_of"):Fn P w K mg base 1 "_law_names_of" 1 J8 :=
 dfC ["_law_rows"] J9 T mx (by decide +kernel) rfl (λ_ _ _ _ _ _ us hl=>(by obtain⟨_,rfl⟩:=ar1 hl;rfl)) λhcd hr nd =>
  (Z2 (y6 (z0M (N':=["_law_row"]) (cap:=[none]) rfl (z27 (by first|rfl|kernel_rfl!)) (z0W (z9 0)) (λ_ _ _ _=>(J5 0 (show (["_law_row"]:List Str).Nodup by decide +kernel))) (λ_ _ _ _=>z1b) (λ_ _ _ _=>(j6 (z9 0) Z4)))) Z7)
noncomputable def z0d:G->M Out :=
 (Z3 (sAsg (eFn 1 J8 (Z1 (e2 fIx (eVar 0) (λ_=>pure (.int 0))) aNil)) (gN 3)) (Z3 (sIf (cNot (cVal (eFn 3 J2 (Z1 (e2 fIx (e2 fIx (e2 fIx (eVar 0) (λ_=>pure (.int 1))) (eVar 1)) (λ_=>pure (.int 1))) (Z1 (eVar 3) (Z1 (eVar 2) aNil)))))) (Z3 (sRet (λ_=>pure .non)) bNil) bNil) (Z3 (sAsg (j7 zc7 (Z1 (eVar 2) aNil)) (gN 4)) (Z3 (sFor (z0J (e2 fIx (e2 fIx (e2 fIx (eVar 0) (λ_=>pure (.int 1))) (eVar 1)) (λ_=>pure (.int 2)))) (gT 2 (z01 (gN 5) (z01 (gN 6) z33))) (Z3 (sAsg (eM1 z09 (eVar 3) (eVar 5)) (gN 7)) (Z3 (sAsg (e2 fMod (eFn 3 z03 (Z1 (eVar 6) (Z1 (eVar 3) (Z1 (eVar 2) aNil)))) (e2 fIx (e2 fIx (e2 fIx (eVar 0) (λ_=>pure (.int 0))) (eVar 7)) (λ_=>pure (.int 1)))) (gIx (eVar 4) (eVar 7))) bNil))) (Z3 (sIf (cVal (e2 fIx (eVar 0) (λ_=>pure (.int 3)))) (Z3 (sAsg (eVar 1) (gIx (eVar 4) (j7 fLen (Z1 (eVar 3) aNil)))) bNil) bNil) (Z3 (sRet (j7 Y2 (Z1 (eVar 4) aNil))) bNil))))))
noncomputable def Y1:List D->M D:=λds=>cln (runF 8 z0d ds)
theorem ok__law_next_room (T:DefAt K "_law_next_room" (top 44)) (mx:Mx K mg "_law_next_room") (F00:mg "len" = none) (F0L:mg "list" = none) (F01:mg "tuple" = none) (F09:Fn P w K mg base 2 "_law_all_hold" 3 J2) (F0k:Fn P w K mg base 1 "_law_comes_to" 3 z03) (F0a:Fn P w K mg base 1 "_law_names_of" 1 J8):Fn P w K mg base 3 "_law_next_room" 3 Y1 :=
 dfC ["_law_program_here","_law_k","_law_room","_law_names_here","_law_found","_law_name_here","_law_worth_here","_law_at"] z0d T mx (by decide +kernel) rfl (λ_ _ _ _ _ _ us hl=>(by obtain⟨_,_,_,rfl⟩:=ar3 hl;rfl)) λhcd hr nd =>
  (Z2 (y0 3 nd (Z9 F0a (hr.mono (by decide)) rfl (Z0 (j6 (z9 0) Z4) Z5))) (Z2 (s_if (z0t (J7 (Z9 F09 (hr.mono (by decide)) rfl (Z0 (j6 (j6 (j6 (z9 0) Z4) (z9 1)) Z4) (Z0 (z9 3) (Z0 (z9 2) Z5)))))) (Z2 (y6 z5f) Z7) Z7) (Z2 (y0 4 nd (zt7 rfl F0L (Z0 (z9 2) Z5))) (Z2 (z1C K0y rfl (z0W (j6 (j6 (j6 (z9 0) Z4) (z9 1)) Z4)) (z3E rfl (v3 (k9 5 nd) (v3 (k9 6 nd) z2D))) (Z2 (y0 7 nd (z1a (hu40 hr) (z9 3) (z9 5))) (Z2 (z4L (z2t (Z9 F0k (hr.mono (by decide)) rfl (Z0 (z9 6) (Z0 (z9 3) (Z0 (z9 2) Z5)))) (j6 (j6 (j6 (z9 0) Z4) (z9 7)) Z4)) (z8y (z9 4) (z9 7))) Z7))) (Z2 (s_if (J7 (j6 (z9 0) Z4)) (Z2 (z4L (z9 1) (z8y (z9 4) (z00 rfl F00 (Z0 (z9 3) Z5)))) Z7) Z7) (Z2 (y6 (v8 rfl F01 (Z0 (z9 4) Z5))) Z7))))))
noncomputable def z0m:G->M Out :=
 (Z3 (z3t 1 [none] (z0J (e2 fIx (eVar 0) (λ_=>pure (.int 0)))) (gN 0) (λ_=>pure true) (e2 fIx (eVar 0) (λ_=>pure (.int 2)))) (Z3 (sIf (cVal (e2 fIx (eVar 0) (λ_=>pure (.int 3)))) (Z3 (z0I (eM1 w6 (eVar 1) (eNeg (λ_=>pure (.int 1))))) bNil) bNil) (Z3 (sRet (j7 Y2 (Z1 (eVar 1) aNil))) bNil)))
noncomputable def Y4:List D->M D:=λds=>cln (runF 2 z0m ds)
theorem ok__law_first_room (T:DefAt K "_law_first_room" (top 45)) (mx:Mx K mg "_law_first_room") (F01:mg "tuple" = none):Fn P w K mg base 1 "_law_first_room" 1 Y4 :=
 dfC ["_law_program_here","_law_found"] z0m T mx (by decide +kernel) rfl (λ_ _ _ _ _ _ us hl=>(by obtain⟨_,rfl⟩:=ar1 hl;rfl)) λhcd hr nd =>
  (Z2 (z9S 1 (N':=["_law_cell"]) (cap:=[none]) rfl (z27 (by first|rfl|kernel_rfl!)) (z0W (j6 (z9 0) Z4)) (λ_ _ _ _=>(J5 0 (show (["_law_cell"]:List Str).Nodup by decide +kernel))) (λ_ _ _ _=>z1b) (λ_ _ _ _=>(j6 (z9 0) Z4)) nd) (Z2 (s_if (J7 (j6 (z9 0) Z4)) (Z2 (z0X (v7 (z9 1) (z4W Z4))) Z7) Z7) (Z2 (y6 (v8 rfl F01 (Z0 (z9 1) Z5))) Z7)))
noncomputable def z0a:G->M Out :=
 (Z3 (sAsg (eFn 1 J8 (Z1 (e2 fIx (eVar 0) (λ_=>pure (.int 0))) aNil)) (gN 3)) (Z3 (sAsg (eFn 1 J8 (Z1 (e2 fIx (eVar 0) (λ_=>pure (.int 1))) aNil)) (gN 4)) (Z3 (sFor (z0J (eVar 1)) (gN 5) (Z3 (sIf (λγ=>do let d <- e2 (fEq false) (j7 fLen (Z1 (eVar 5) aNil)) (λ_=>pure (.int 3)) γ;asB d) (Z3 (sIf (cNot (cVal (eFn 3 J2 (Z1 (eLst (Z1 (eVar 5) aNil)) (Z1 (eVar 3) (Z1 (eVar 2) aNil)))))) (Z3 (sRet (λ_=>pure (.bl false))) bNil) bNil) bNil) (Z3 (sIf (λγ=>do let d <- e2 (fEq false) (e2 fIx (eVar 5) (λ_=>pure (.int 0))) (λ_=>pure (.str "can")) γ;asB d) (Z3 (sIf (cNot (cVal (eFn 3 J2 (Z1 (e2 fIx (e2 fIx (e2 fIx (eVar 0) (λ_=>pure (.int 1))) (eM1 z09 (eVar 4) (e2 fIx (eVar 5) (λ_=>pure (.int 1))))) (λ_=>pure (.int 1))) (Z1 (eVar 3) (Z1 (eVar 2) aNil)))))) (Z3 (sRet (λ_=>pure (.bl false))) bNil) bNil) bNil) (Z3 (sIf (λγ=>do let d <- e2 (fEqX true) (e2 fIx (eVar 2) (j7 fLen (Z1 (eVar 3) aNil))) (eM1 z09 (eVar 4) (e2 fIx (eVar 5) (λ_=>pure (.int 1)))) γ;asB d) (Z3 (sRet (λ_=>pure (.bl false))) bNil) bNil) bNil)) bNil)) bNil)) (Z3 (sRet (λ_=>pure (.bl true))) bNil))))
noncomputable def z0b:List D->M D:=λds=>cln (runF 6 z0a ds)
theorem ok__law_row_holds (T:DefAt K "_law_row_holds" (top 46)) (mx:Mx K mg "_law_row_holds") (F00:mg "len" = none) (F09:Fn P w K mg base 2 "_law_all_hold" 3 J2) (F0a:Fn P w K mg base 1 "_law_names_of" 1 J8):Fn P w K mg base 3 "_law_row_holds" 3 z0b :=
 dfC ["_law_program_here","_law_row","_law_room","_law_names_here","_law_called","_law_ask_here"] z0a T mx (by decide +kernel) rfl (λ_ _ _ _ _ _ us hl=>(by obtain⟨_,_,_,rfl⟩:=ar3 hl;rfl)) λhcd hr nd =>
  (Z2 (y0 3 nd (Z9 F0a (hr.mono (by decide)) rfl (Z0 (j6 (z9 0) Z4) Z5))) (Z2 (y0 4 nd (Z9 F0a (hr.mono (by decide)) rfl (Z0 (j6 (z9 0) Z4) Z5))) (Z2 (z1C K0y rfl (z0W (z9 1)) (k9 5 nd) (Z2 (s_if (sc_c z2Q (z00 rfl F00 (Z0 (z9 5) Z5)) Z4) (Z2 (s_if (z0t (J7 (Z9 F09 (hr.mono (by decide)) rfl (Z0 (z0c (Z0 (z9 5) Z5)) (Z0 (z9 3) (Z0 (z9 2) Z5)))))) (Z2 (y6 z1m) Z7) Z7) Z7) (Z2 (s_if (sc_c z2Q (j6 (z9 5) Z4) v5) (Z2 (s_if (z0t (J7 (Z9 F09 (hr.mono (by decide)) rfl (Z0 (j6 (j6 (j6 (z9 0) Z4) (z1a (hu40 hr) (z9 4) (j6 (z9 5) Z4))) Z4) (Z0 (z9 3) (Z0 (z9 2) Z5)))))) (Z2 (y6 z1m) Z7) Z7) Z7) (Z2 (s_if (sc_c (z3K (hu30 hr)) (j6 (z9 2) (z00 rfl F00 (Z0 (z9 3) Z5))) (z1a (hu40 hr) (z9 4) (j6 (z9 5) Z4))) (Z2 (y6 z1m) Z7) Z7) Z7)) Z7)) Z7)) (Z2 (y6 z1m) Z7))))
noncomputable def z1S:G->M Out :=
 (Z3 (sAsg (eLst aNil) (gN 2)) (Z3 (sFor (z0J (e2 fIx (eVar 0) (λ_=>pure (.int 2)))) (gT 2 (z01 (gN 3) (z01 (gN 4) z33))) (Z3 (sFor (z0J (eVar 4)) (gN 5) (Z3 (sIf (cAnd (λγ=>do let d <- e2 (fIn true) (eVar 3) (eVar 2) γ;asB d) (cVal (eFn 3 z0b (Z1 (eVar 0) (Z1 (eVar 5) (Z1 (eVar 1) aNil)))))) (Z3 (z0I (eM1 w6 (eVar 2) (eVar 3))) bNil) bNil) bNil)) bNil)) (Z3 (sRet (clE (j7 Y2 (Z1 (j7 z2z (Z1 (eVar 2) aNil)) aNil)))) bNil)))
noncomputable def z1T:List D->M D:=λds=>cln (runF 6 z1S ds)
theorem ok__law_worn (T:DefAt K "_law_worn" (top 47)) (mx:Mx K mg "_law_worn") (F07:mg "sorted" = none) (F01:mg "tuple" = none) (F0M:Fn P w K mg base 3 "_law_row_holds" 3 z0b):Fn P w K mg base 4 "_law_worn" 2 z1T :=
 dfC ["_law_program_here","_law_room","_law_found","_law_name_here","_law_rows","_law_row"] z1S T mx (by decide +kernel) rfl (λ_ _ _ _ _ _ us hl=>(by obtain⟨_,_,rfl⟩:=ar2 hl;rfl)) λhcd hr nd =>
  (Z2 (y0 2 nd (z0c Z5)) (Z2 (z1C K0y rfl (z0W (j6 (z9 0) Z4)) (z3E rfl (v3 (k9 3 nd) (v3 (k9 4 nd) z2D))) (Z2 (z1C K0y rfl (z0W (z9 4)) (k9 5 nd) (Z2 (s_if (SW.sc (z3y (sc_c z3p (z9 3) (z9 2)) (z2x (J7 (Z9 F0M (hr.mono (by decide)) rfl (Z0 (z9 0) (Z0 (z9 5) (Z0 (z9 1) Z5)))))))) (Z2 (z0X (v7 (z9 2) (z9 3))) Z7) Z7) Z7)) Z7)) (Z2 (y6 (z0y (v8 rfl F01 (Z0 (z4Z rfl rfl F07 (Z0 (z9 2) Z5)) Z5)))) Z7)))
noncomputable def z0f:G->M Out :=
 (Z3 (sIf (cOr (cNot (cVal (eFn 3 y9 (Z1 (eVar 1) (Z1 (λ_=>pure (.int 2)) (Z1 (λ_=>pure (.int 2)) aNil)))))) (cOr (cNot (cVal (eFn 3 y9 (Z1 (e2 fIx (eVar 1) (λ_=>pure (.int 0))) (Z1 (λ_=>pure (.int 2)) (Z1 (λ_=>pure (.int 2)) aNil)))))) (cNot (cVal (eFn 3 y9 (Z1 (e2 fIx (eVar 1) (λ_=>pure (.int 1))) (Z1 (λ_=>pure (.int 1)) (Z1 (λ_=>pure (.int 40)) aNil)))))))) (Z3 (sRet (λ_=>pure (.bl false))) bNil) bNil) (Z3 (sAsg (j7 fLen (Z1 (e2 fIx (eVar 1) (λ_=>pure (.int 1))) aNil)) (gN 2)) (Z3 (sAsg (e2 fAdd (j7 fLen (Z1 (e2 fIx (eVar 0) (λ_=>pure (.int 0))) aNil)) (j7 fInt (Z1 (e2 fIx (eVar 0) (λ_=>pure (.int 3))) aNil))) (gN 3)) (Z3 (sIf (cOr (cNot (cVal (eFn 3 y9 (Z1 (e2 fIx (e2 fIx (eVar 1) (λ_=>pure (.int 0))) (λ_=>pure (.int 0))) (Z1 (eVar 2) (Z1 (eVar 2) aNil)))))) (cNot (cVal (eFn 3 y9 (Z1 (e2 fIx (e2 fIx (eVar 1) (λ_=>pure (.int 0))) (λ_=>pure (.int 1))) (Z1 (eVar 2) (Z1 (eVar 2) aNil))))))) (Z3 (sRet (λ_=>pure (.bl false))) bNil) bNil) (Z3 (sFor (z0s (eVar 2)) (gN 4) (Z3 (sAsg (e2 fIx (e2 fIx (eVar 1) (λ_=>pure (.int 1))) (eVar 4)) (gN 5)) (Z3 (sIf (cOr (cNot (cVal (eFn 3 y9 (Z1 (eVar 5) (Z1 (eVar 3) (Z1 (eVar 3) aNil)))))) (clT (λγ=>do let d <- e2 (fEqX true) (z0C [none] (z0J (eVar 5)) (gN 0) (cNot (cVal (eFn 3 z08 (Z1 (eVar 0) (Z1 (eNeg (λ_=>pure (.int 1))) (Z1 (λ_=>pure (.int 9)) aNil)))))) (eVar 0)) (eLst aNil) γ;asB d))) (Z3 (sRet (λ_=>pure (.bl false))) bNil) bNil) (Z3 (sIf (cOr (cNot (cVal (eFn 2 z0z (Z1 (e2 fIx (e2 fIx (e2 fIx (eVar 1) (λ_=>pure (.int 0))) (λ_=>pure (.int 0))) (eVar 4)) (Z1 (eVar 2) aNil))))) (cOr (cNot (cVal (eFn 3 y9 (Z1 (e2 fIx (e2 fIx (e2 fIx (eVar 1) (λ_=>pure (.int 0))) (λ_=>pure (.int 1))) (eVar 4)) (Z1 (λ_=>pure (.int 0)) (Z1 (λ_=>pure (.int 8)) aNil)))))) (λγ=>do let d <- e2 (fInX false) (eVar 5) (z0G (e2 fIx (eVar 1) (λ_=>pure (.int 1))) z20 (z1P (eVar 4))) γ;asB d))) (Z3 (sRet (λ_=>pure (.bl false))) bNil) bNil) bNil)))) (Z3 (sRet (e2 (fEqX false) (e2 fIx (e2 fIx (eVar 1) (λ_=>pure (.int 1))) (λ_=>pure (.int 0))) (eFn 1 Y4 (Z1 (eVar 0) aNil)))) bNil))))))
noncomputable def z0g:List D->M D:=λds=>cln (runF 6 z0f ds)
theorem ok__law_good_layout (T:DefAt K "_law_good_layout" (top 48)) (mx:Mx K mg "_law_good_layout") (F05:mg "int" = none) (F00:mg "len" = none) (F03:mg "range" = none) (F0l:Fn P w K mg base 1 "_law_first_room" 1 Y4) (F0N:Fn P w K mg base 2 "_law_good_set" 2 z0z) (F0h:Fn P w K mg base 1 "_law_number" 3 z08) (F06:Fn P w K mg base 1 "_law_tuple" 3 y9):Fn P w K mg base 3 "_law_good_layout" 2 z0g :=
 dfC ["_law_program_here","_law_told","_law_many","_law_long","_law_k","_law_room"] z0f T mx (by decide +kernel) rfl (λ_ _ _ _ _ _ us hl=>(by obtain⟨_,_,rfl⟩:=ar2 hl;rfl)) λhcd hr nd =>
  (Z2 (s_if (SW.sc (z3d (z0t (J7 (Z9 F06 (hr.mono (by decide)) rfl (Z0 (z9 1) (Z0 Z4 (Z0 Z4 Z5)))))) (z3d (z0t (J7 (Z9 F06 (hr.mono (by decide)) rfl (Z0 (j6 (z9 1) Z4) (Z0 Z4 (Z0 Z4 Z5)))))) (z2L (z0t (J7 (Z9 F06 (hr.mono (by decide)) rfl (Z0 (j6 (z9 1) Z4) (Z0 Z4 (Z0 Z4 Z5)))))))))) (Z2 (y6 z1m) Z7) Z7) (Z2 (y0 2 nd (z00 rfl F00 (Z0 (j6 (z9 1) Z4) Z5))) (Z2 (y0 3 nd (z0v (z00 rfl F00 (Z0 (j6 (z9 0) Z4) Z5)) (z78 rfl F05 (Z0 (j6 (z9 0) Z4) Z5)))) (Z2 (s_if (SW.sc (z3d (z0t (J7 (Z9 F06 (hr.mono (by decide)) rfl (Z0 (j6 (j6 (z9 1) Z4) Z4) (Z0 (z9 2) (Z0 (z9 2) Z5)))))) (z2L (z0t (J7 (Z9 F06 (hr.mono (by decide)) rfl (Z0 (j6 (j6 (z9 1) Z4) Z4) (Z0 (z9 2) (Z0 (z9 2) Z5))))))))) (Z2 (y6 z1m) Z7) Z7) (Z2 (z1C K0y rfl (z0B rfl F03 (z9 2)) (k9 4 nd) (Z2 (y0 5 nd (j6 (j6 (z9 1) Z4) (z9 4))) (Z2 (s_if (SW.sc (z3d (z0t (J7 (Z9 F06 (hr.mono (by decide)) rfl (Z0 (z9 5) (Z0 (z9 3) (Z0 (z9 3) Z5)))))) (z2L (zO3 (sc_c (z3K (hu30 hr)) (z0M (N':=["_law_one"]) (cap:=[none]) rfl (z27 (by first|rfl|kernel_rfl!)) (z0W (z9 5)) (λ_ _ _ _=>(J5 0 (show (["_law_one"]:List Str).Nodup by decide +kernel))) (λ_ _ _ _=>(z2X (z0t (J7 (Z9 F0h (hr.mono (by decide)) rfl (Z0 (z9 0) (Z0 (z4W Z4) (Z0 Z4 Z5)))))))) (λ_ _ _ _=>(z9 0))) (z0c Z5)))))) (Z2 (y6 z1m) Z7) Z7) (Z2 (s_if (SW.sc (z3d (z0t (J7 (Z9 F0N (hr.mono (by decide)) rfl (Z0 (j6 (j6 (j6 (z9 1) Z4) Z4) (z9 4)) (Z0 (z9 2) Z5))))) (z3d (z0t (J7 (Z9 F06 (hr.mono (by decide)) rfl (Z0 (j6 (j6 (j6 (z9 1) Z4) Z4) (z9 4)) (Z0 Z4 (Z0 Z4 Z5)))))) (z2L (sc_c (zC3 (hu30 hr)) (z9 5) (z1J (j6 (z9 1) Z4) z2A (z2E (z9 4)))))))) (Z2 (y6 z1m) Z7) Z7) Z7)))) (Z2 (y6 (se_c (z3J (hu30 hr)) (j6 (j6 (z9 1) Z4) Z4) (Z9 F0l (hr.mono (by decide)) rfl (Z0 (z9 0) Z5)))) Z7))))))
noncomputable def z15:G->M Out :=
 (Z3 (z3t 4 [some 0,some 3,none] (z0s (j7 fLen (Z1 (e2 fIx (eVar 0) (λ_=>pure (.int 1))) aNil))) (gN 2) (λγ=>do let d <- e2 (fIs true) (eFn 3 Y1 (Z1 (eVar 0) (Z1 (eVar 2) (Z1 (eVar 1) aNil)))) (λ_=>pure .non) γ;asB d) (eVar 2)) (Z3 (sIf (cOr (λγ=>do let d <- e2 (fEqX true) (e2 fIx (e2 fIx (eVar 1) (λ_=>pure (.int 1))) (eVar 2)) (eVar 3) γ;asB d) (λγ=>do let d <- e2 (fEqX true) (e2 fGt (j7 fLen (Z1 (eVar 4) aNil)) (λ_=>pure (.int 0))) (e2 fGt (j7 fLen (Z1 (e2 fIx (e2 fIx (e2 fIx (eVar 1) (λ_=>pure (.int 0))) (λ_=>pure (.int 0))) (eVar 2)) aNil)) (λ_=>pure (.int 0))) γ;asB d)) (Z3 (sRet (λ_=>pure (.bl false))) bNil) bNil) (Z3 (sRet (eFn 2 (J0 5) (Z1 (e2 fIx (e2 fIx (e2 fIx (eVar 1) (λ_=>pure (.int 0))) (λ_=>pure (.int 1))) (eVar 2)) (Z1 (eFn 2 z1T (Z1 (eVar 0) (Z1 (eVar 3) aNil))) aNil)))) bNil)))
noncomputable def z0l:List D->M D:=λds=>cln (runF 5 z15 ds)
theorem ok__law_stands (T:DefAt K "_law_stands" (top 49)) (mx:Mx K mg "_law_stands") (F00:mg "len" = none) (F03:mg "range" = none) (F0m:Fn P w K mg base 3 "_law_next_room" 3 Y1) (F0n:Fn P w K mg base 6 "_law_same" 2 (J0 5)) (F0O:Fn P w K mg base 4 "_law_worn" 2 z1T):Fn P w K mg base 7 "_law_stands" 4 z0l :=
 dfC ["_law_program_here","_law_told","_law_at","_law_room","_law_some"] z15 T mx (by decide +kernel) rfl (λ_ _ _ _ _ _ us hl=>(by obtain⟨_,_,_,_,rfl⟩:=ar4 hl;rfl)) λhcd hr nd =>
  (Z2 (z9S 4 (N':=["_law_program_here","_law_room","_law_k"]) (cap:=[some 0,some 3,none]) rfl (z27 (by first|rfl|kernel_rfl!)) (z0B rfl F03 (z00 rfl F00 (Z0 (j6 (z9 0) Z4) Z5))) (λ_ _ _ _=>(J5 2 (show (["_law_program_here","_law_room","_law_k"]:List Str).Nodup by decide +kernel))) (λ_ _ _ _=>(z2X (sc_c z6t (Z9 F0m (hr.mono (by decide)) rfl (Z0 (z9 0) (Z0 (z9 2) (Z0 (z9 1) Z5)))) z5f))) (λ_ _ _ _=>(z9 2)) nd) (Z2 (s_if (SW.sc (z3d (sc_c (z3K (hu30 hr)) (j6 (j6 (z9 1) Z4) (z9 2)) (z9 3)) (z2L (sc_c (z3K (hu30 hr)) (se_c z56 (z00 rfl F00 (Z0 (z9 4) Z5)) Z4) (se_c z56 (z00 rfl F00 (Z0 (j6 (j6 (j6 (z9 1) Z4) Z4) (z9 2)) Z5)) Z4))))) (Z2 (y6 z1m) Z7) Z7) (Z2 (y6 (Z9 F0n (hr.mono (by decide)) rfl (Z0 (j6 (j6 (j6 (z9 1) Z4) Z4) (z9 2)) (Z0 (Z9 F0O (hr.mono (by decide)) rfl (Z0 (z9 0) (Z0 (z9 3) Z5))) Z5)))) Z7)))
noncomputable def zf6:G->M Out :=
 (Z3 (sAsg (eFn 1 z1U (Z1 (eVar 0) aNil)) (gN 1)) (Z3 (sAsg (eFn 4 v9 (Z1 (eVar 1) (Z1 (λ_=>pure (.int 40)) (Z1 (λ_=>pure (.int 8)) (Z1 (λ_=>pure (.int 4)) aNil))))) (gN 2)) (Z3 (sAsg (eFnP 1 0 [] [c_MOST] z68 (Z1 (eVar 2) aNil) aNil) (gN 3)) (Z3 (sIf (cNot (cVal (eFn 2 z0g (Z1 (eVar 2) (Z1 (eVar 3) aNil))))) (Z3 (sRet (λ_=>pure (.bl false))) bNil) bNil) (Z3 (sAsg (e2 fIx (eVar 3) (λ_=>pure (.int 1))) (gN 4)) (Z3 (sAsg (j7 fLen (Z1 (e2 fIx (eVar 2) (λ_=>pure (.int 1))) aNil)) (gN 5)) (Z3 (sAsg (λ_=>pure (.int 0)) (gN 6)) (Z3 (sAsg (eFn 1 Y4 (Z1 (eVar 2) aNil)) (gN 7)) (Z3 (sFor (z19 (z0G (eVar 0) z20 (z1P (λ_=>pure (.int 63))))) (gN 8) (Z3 (sIf (cNot (cVal (eFn 4 z0l (Z1 (eVar 2) (Z1 (eVar 3) (Z1 (eVar 6) (Z1 (eVar 7) aNil))))))) (Z3 (sRet (λ_=>pure (.bl false))) bNil) bNil) (Z3 (sIf (λγ=>do let d <- e2 fGt (eVar 5) (λ_=>pure (.int 0)) γ;asB d) (Z3 (sAsg (eFn 3 Y1 (Z1 (eVar 2) (Z1 (e2 fMod (eVar 8) (eVar 5)) (Z1 (eVar 7) aNil)))) (gN 9)) (Z3 (sIf (λγ=>do let d <- e2 (fIs true) (eVar 9) (λ_=>pure .non) γ;asB d) (Z3 (sIf (cOr (λγ=>do let d <- e2 (fInX true) (eVar 9) (eVar 4) γ;asB d) (λγ=>do let d <- e2 (fIn true) (z2l (eVar 4) (eVar 9)) (e2 fIx (e2 fIx (e2 fIx (eVar 3) (λ_=>pure (.int 0))) (λ_=>pure (.int 0))) (eVar 6)) γ;asB d)) (Z3 (sRet (λ_=>pure (.bl false))) bNil) bNil) (Z3 (sAsg (z2l (eVar 4) (eVar 9)) (gN 6)) (Z3 (sAsg (eVar 9) (gN 7)) bNil))) bNil) bNil)) bNil) bNil))) (Z3 (sIf (cNot (cVal (eFn 4 z0l (Z1 (eVar 2) (Z1 (eVar 3) (Z1 (eVar 6) (Z1 (eVar 7) aNil))))))) (Z3 (sRet (λ_=>pure (.bl false))) bNil) bNil) (Z3 (sRet (eFn 2 (J0 5) (Z1 (eFn 2 z2a (Z1 (e2 fIx (eVar 3) (λ_=>pure (.int 0))) (Z1 (λ_=>pure (.int 0)) aNil))) (Z1 (eRng true (j7 fLen (Z1 (eVar 4) aNil))) aNil)))) bNil)))))))))))
noncomputable def m_law:List D->M D:=runF 10 zf6
theorem sc_law:FnScope ["_law_script","_law_pool_here","_law_program_here","_law_told","_law_rooms","_law_many","_law_at","_law_room","_law_cell","_law_to"] ["_law_script"] (j9 (top 50)):=⟨rfl,rfl,rfl,by decide +kernel,rfl,by decide +kernel,by decide +kernel⟩
theorem zV1 (g0:Int) (gr sm:List Int) (s c:Int) (r:AH) (n:Int) (hn:0<n) (hn2:n<1073741824) (hg:gr.length<=63) :
 ∃gr',gr'.length<=gr.length+1/\Z8 [.ref 2,.int n] (Pool (g0::gr) sm s c r)=.ok (.int (g0 % n)) (Pool gr' sm s c r):=by
 unfold Z8 runF z1i Pool z1l;have hl:gr.length<=sizeLine:=K0x hg (by decide);by_cases h0:g0 / n=0
 ·refine⟨gr,by omega,?_⟩;simp[Z3,bNil,sIf,sAsg,sRet,z0I,e2,j7,Z1,aNil,eVar,fIx,seqD,getL,fLen,fGt,fCmp,fI,asB,gIx,gN,fSet,fDiv,fIC,eM1,z22,z4g,updL,fEq,eqD,fMod,atI,ixN,hn,hn2,h0,K80,hl]
 ·refine⟨g0 / n::gr,by simp,?_⟩;simp[Z3,bNil,sIf,sAsg,sRet,z0I,e2,j7,Z1,aNil,eVar,fIx,seqD,getL,fLen,fGt,fCmp,fI,asB,gIx,gN,fSet,fDiv,fIC,eM1,z22,z4g,updL,fEq,eqD,fMod,atI,ixN,hn,hn2,h0]
theorem zR7 (sm:List Int) (s c:Int) (r:AH) (n:Int) (hn:0<n) (hn2:n<1073741824) (hs:0<=s) (hs2:s<2147483647) (hc:0<=c) (hc2:c<1000000) (hm:sm.length<=63) :
 ∃s' d,Z8 [.ref 2,.int n] (Pool [] sm s c r)=.ok (.int d) (Pool [] sm s' (c+1) r)/\0<=d/\d<n/\0<=s'/\s'<2147483647:=by
 have k1:-18446744073709551616<c+1:=by omega
 have k2:c+1<18446744073709551616:=by omega
 have k3:-18446744073709551616<s:=by omega
 have k4:s<18446744073709551616:=by omega
 have key:∀x:Int,(∃y:Int,Z8 [.ref 2,.int n] (Pool [] sm s c r)=.ok (.int ((((s * 48271+x % 2147483629 * ((c+1) * (c+1)+1)+97 * (c+1)) % 2147483647) ^ 5) % 2147483629 / 64 % n)) (Pool [] sm ((s * 48271+x % 2147483629 * ((c+1) * (c+1)+1)+97 * (c+1)) % 2147483647) (c+1) r)) ->
  ∃s' d,Z8 [.ref 2,.int n] (Pool [] sm s c r)=.ok (.int d) (Pool [] sm s' (c+1) r)/\0<=d/\d<n/\0<=s'/\s'<2147483647:=λx ⟨_,e⟩ =>
  ⟨_,_,e,K3p _ (by omega),K32 _ hn,K3p _ (by decide),K32 _ (by decide)⟩
 have p1:∀z:Int,-18446744073709551616<z % 2147483647:=λz=>by omega
 have p2:∀z:Int,z % 2147483647<18446744073709551616:=λz=>by omega
 have p3:∀z:Int,-18446744073709551616<z % 2147483629:=λz=>by omega
 have p4:∀z:Int,z % 2147483629<18446744073709551616:=λz=>by omega
 cases sm with
 | nil =>
  refine key 0 ⟨0,?_⟩;unfold Z8 runF z1i Pool z1l;simp[Z3,bNil,sIf,sAsg,sRet,z0I,e2,j7,Z1,aNil,eVar,fIx,seqD,getL,fLen,fGt,fCmp,fI,asB,gIx,gN,fSet,fDiv,fIC,eM1,z22,z4g,updL,fEq,eqD,fMod,fAdd,fMul,z4D,fPow,atI,ixN,hn,hn2,k1,k2,k3,k4,p1,p2,p3,p4]
 | cons m0 sm =>
  have hl:(0:Int)<(sm.length:Int)+1:=by omega
  have hi:0<=(c+1) % ((sm.length:Int)+1):=K3p _ (by omega);have hi2:(c+1) % ((sm.length:Int)+1)<(sm.length:Int)+1:=K32 _ hl;obtain⟨x,hx⟩:∃x,(D.int m0::sm.map D.int)[((c+1) % ((sm.length:Int)+1)).toNat]?=.(i x):=by
   have e:(D.int m0::sm.map D.int)=(m0::sm).map D.int:=rfl;rw[e,K8,K5 (by simp;omega)];exact⟨_,rfl⟩
  have hx2:∀hj,(D.int m0::List.map D.int sm)[((c+1) % ((sm.length:Int)+1)).toNat]'hj=D.int x:=λhj=>K1d ((K5 hj).symm.trans hx);refine key x ⟨0,?_⟩;unfold Z8 runF z1i Pool z1l;simp[Z3,bNil,sIf,sAsg,sRet,z0I,e2,j7,Z1,aNil,eVar,fIx,seqD,getL,fLen,fGt,fCmp,fI,asB,gIx,gN,fSet,fDiv,fIC,eM1,z22,z4g,updL,fEq,eqD,fMod,fAdd,fMul,z4D,fPow,atI,ixN,hn,hn2,k1,k2,k3,k4,p1,p2,p3,p4,hi,hi2,hl,hx,hx2]
theorem draw {h:AH}{k n:Int}{r:AH}(p:PS h k r) (hk:k<1000000) (hn:0<n) (hn2:n<1073741824):∃d h',Z8 [.ref 2,.int n] h=.ok (.int d) h'/\0<=d/\d<n/\PS h' (k+1) r:=by
 obtain⟨gr,sm,s,c,rfl,h1,h2,h3,h4,h5,h6⟩:=p;cases gr with
 | nil =>
  obtain⟨s',d,e,q1,q2,q3,q4⟩:=zR7 sm s c r n hn hn2 h1 h2 h3 (by omega) h6;exact⟨d,_,e,q1,q2,[],sm,s',c+1,rfl,q3,q4,by omega,by omega,by simp,h6⟩
 | cons g0 gr =>
  simp at h5;obtain⟨gr',l,e⟩:=zV1 g0 gr sm s c r n hn hn2 (by omega);exact⟨_,_,e,K3p _ (by omega),K32 _ hn,gr',sm,s,c,rfl,h1,h2,h3,by omega,by omega,h6⟩
theorem z0j {h:AH}{k n:Int}{r:AH}{Q:D->AH->Prop}(p:PS h k r) (hk:k<1000000) (hn:0<n) (hn2:n<1073741824) (z:∀d h',0<=d->d<n->PS h' (k+1) r->Q (.int d) h'):W (Z8 [.ref 2,.int n]) h Q:=by
 obtain⟨d,h',e,d0,d1,p'⟩:=draw p hk hn hn2;exact⟨_,_,e,z d h' d0 d1 p'⟩
theorem zi0 {ns:List Int}(hn:ns.length<=63):W (z1U [.fl (ns.map .int)]) [] (λd h'=>d=.ref 2/\PS h' 0 []):=by
 refine z23 ?_;show W (z1R [some (.fl (ns.map .int)),none]) [] _;unfold z1R z3t;rw[w_cons];simp only[K0q,K0m,j3,W_pure,z0e,e2,eVar,gN,sAsg];have src:∀(γ:G) (h:AH),γ[0]?=some (some (.fl (ns.map .int)))->z19 (eVar 0) γ h=.ok (.con (ns.map .int)) h:=λγ h e=>by
  unfold z19 eVar;rw[e];rfl
 refine W.of (z1A (src:=.con (ns.map .int)) (λd=>match d with|.int t=>decide (1000000000000000000<=t)|_=>false) (λd=>d) (src _ _ rfl) (λ_=>trivial) (by simp[Src.items];omega) λd hd=>?_) ?_
 ·obtain⟨t,ht,rfl⟩:=K0r.mp hd;refine⟨[.(i t)],λh=>rfl,λj=>?_,λ_ j=>rfl⟩;simp only[K00,bindM,pureM,zB6,zd1,z1u]
 rw[show (Src.con (ns.map D.int)).items=ns.map D.int from rfl,z2r];rw[w_cons];simp only[K0a,K00,K0b,j3,W_pure,Z1,aNil,z2e,eLst,eVar,sRet];refine W.of (z1A (src:=.con (ns.map .int)) (λd=>match d with|.int t=>decide (t<1000000000000000000)|_=>false) (λd=>d) (src _ _ rfl) (λ_=>trivial) (by simp[Src.items];omega) λd hd=>?_) ?_
 ·obtain⟨t,ht,rfl⟩:=K0r.mp hd;refine⟨[.(i t)],λh=>rfl,λj=>?_,λ_ j=>rfl⟩;simp only[K00,bindM,pureM,zB6,z91,z1u]
 rw[show (Src.con (ns.map D.int)).items=ns.map D.int from rfl,z2r];refine W.of (a:=.ref 2) (h':=Pool (ns.filter λi=>decide (1000000000000000000<=i)) (ns.filter λi=>decide (i<1000000000000000000)) 5 0 []) ?_ ?_
 ·unfold newL;rw[if_pos (by simp;decide)];rfl
 ·refine⟨rfl,_,_,5,0,rfl,by decide,by decide,by decide,by decide,?_,?_⟩
  ·exact K0x (K3l _ _) hn
  ·exact K0x (K3l _ _) hn
theorem z8m {h:AH}{k:Int}{r:AH}{i:Nat}{start:Str}{ns:List Str}(p:PS h k r) (hk:k<900000) (lo:low start) (hs:start.length<=4) (e:r[i]?=.(l (ns.map .str))) (hn:ns.length<=7) :
 W (runF 9 z1e [.ref 2,.str start,.ref (i+3)]) h (λd h'=>∃x j,d=.str x/\PS h' (k+5) (r++j)/\zu2 x/\x∉ns):=by
 refine z23 ?_;show W (z1e [.(r 2),.(s start),.(r (i+3)),none,none,none,none,none,none]) h _;unfold z1e;rw[show ("abcdefghijklmnopqrstuvwxyz":Str)=abc from rfl];rw[w_cons];simp only[K0q,K0m,j3,W_pure,z0e,e2,eVar,gN,sAsg];rw[w_cons];simp only[K0a,K00,K0q,K0m,j3,W_pure,z0e,eVar,gN,sAsg];rw[w_cons];refine z0D (λc γ h=>∃x w,γ=[.(r 2),.(s start),.(r (i+3)),.(s abc),.(s x),w,none,none,none]/\PS h (k+1+c) r/\low x/\x.length<=4+c) (λ_ _=>False) ?_;simp only[K00,K07,K0b,K0t,z11,j3,z0T,W_pure,Z1,aNil,z0e,z2e,eFn,eVar,if_true];refine z0j p (by omega) (by decide) (by decide) λd h1 d0 d1 p1=>?_;refine⟨d.toNat,by rw[K2v d0],by omega,⟨start,none,rfl,by simpa using p1,lo,by omega⟩,?_,?_,λ_ _ q=>q.elim⟩
 ·rintro c γ h2 hc ⟨x,w,rfl,p2,lx,hx⟩;rw[w_cons];simp only[K0a,K00,K07,K0b,K0q,K0m,K0t,z11,j3,z0T,W_pure,Z1,aNil,z0e,e2,eFn,eVar,gN,if_true,sAsg,z7H];refine z0j p2 (by omega) (by decide) (by decide) λd h1 d0 d1 p1=>?_;refine z4F (k:=k) (r:=r) d0 d1 (by omega) ?_;refine⟨_,_,rfl,p1.up (by omega),z5O lx (by omega) (by omega),by rw[len_app,z3O];omega⟩
 rintro γ h2 ⟨x,w,rfl,p2,lx,hx⟩;rw[w_cons];simp only[K00,K07,K0b,K0q,K0m,K0t,z11,j3,z0T,W_pure,Z1,aNil,z0e,eFn,eVar,gN,if_true,sAsg];refine z0j (p2.up (show _<=k+4 by omega)) (by omega) (by decide) (by decide) λl h3 l0 l1 p3=>?_;rw[w_cons];simp only[K0q,K0m,j3,W_pure,Z1,aNil,z0e,eLst,gN,sAsg];rw[show [D.str "yes",D.str "no",D.str "not",D.str "and",D.str "or",D.str "step",D.str "some",D.str "all",D.str "next",D.str "once",D.str "ever",D.str "until",D.str "unless"]=words.map D.str from rfl];refine z1D p3 (by decide) λh4 p4=>?_;rw[w_cons];refine z0D (λc γ h=>∃w w',γ=[.(r 2),.(s start),.(r (i+3)),.(s abc),.(s x),w,.(i l),.(r (r.length+3)),w']/\PS h (k+5) (r++[.lst (words.map .str)])/\∀c':Nat,c'<c->cand x l c'∈words\/cand x l c'∈ns) (λd h=>∃c:Nat,d=.str (cand x l c)/\cand x l c∉words/\cand x l c∉ns/\PS h (k+5) (r++[.lst (words.map .str)])) ?_;rw[W_pure];refine⟨26,rfl,by decide,⟨_,_,rfl,p4.up (by omega),λc' hc=>by omega⟩,?_,?_,?_⟩
 ·rintro c γ h5 hc ⟨w,w',rfl,p5,hb⟩;rw[w_cons];simp only[K0a,K00,K0q,K0m,j3,W_pure,z2s,z0e,e2,eVar,gN,sAsg];have m1:fMod (.int (l+c)) (.int 26)=pure (.int ((l+c) % 26)):=rfl;rw[m1,W_pure];refine z4F (k:=k) (r:=r) (K3p _ (by decide)) (K32 _ (by decide)) (by omega) ?_;rw[w_cons];simp only[K31,K0a,K00,j3,z0T,W_pure,cAnd,z0e,if_false,sIf,z7H];refine W.of (zj6 p5 z1F) ?_;rw[z1u,W_pure];by_cases q1:cand x l c∈words
  ·have:(decide (x++{ cps:=#[((l+(c:Int)) % 26).toNat+97] }∈words) != true)=false:=by
    rw[show decide (x++{ cps:=#[((l+(c:Int)) % 26).toNat+97] }∈words)=true from decide_eq_true q1];rfl
   rw[this];simp only[K31,if_false];refine⟨_,_,rfl,p5,λc' hc'=>?_⟩;by_cases e':c'=c
   ·subst e';exact .inl q1
   ·exact hb c' (by omega)
  ·have:(decide (x++{ cps:=#[((l+(c:Int)) % 26).toNat+97] }∈words) != true)=true:=by
    rw[show decide (x++{ cps:=#[((l+(c:Int)) % 26).toNat+97] }∈words)=false from decide_eq_false q1];rfl
   rw[this];simp only[if_true];refine W.of (zj6 p5 (z0F e)) ?_;by_cases q2:cand x l c∈ns
   ·have:(decide (x++{ cps:=#[((l+(c:Int)) % 26).toNat+97] }∈ns) != true)=false:=by
     rw[show decide (x++{ cps:=#[((l+(c:Int)) % 26).toNat+97] }∈ns)=true from decide_eq_true q2];rfl
    rw[this];simp only[K31,W_pure,z1u,if_false];refine⟨_,_,rfl,p5,λc' hc'=>?_⟩;by_cases e':c'=c
    ·subst e';exact .inr q2
    ·exact hb c' (by omega)
   ·have:(decide (x++{ cps:=#[((l+(c:Int)) % 26).toNat+97] }∈ns) != true)=true:=by
     rw[show decide (x++{ cps:=#[((l+(c:Int)) % 26).toNat+97] }∈ns)=false from decide_eq_false q2];rfl
    rw[this];simp only[W_pure,z1u,if_true];rw[w_cons];simp only[K0a,K00,j3,W_pure,z2e,eVar,sRet];exact⟨c,rfl,q1,q2,p5⟩
 ·rintro γ h5 ⟨w,w',rfl,p5,hb⟩;exact(zG8 l0 hn hb).elim
 ·rintro d h5 ⟨c,rfl,q1,q2,p5⟩;refine⟨cand x l c,[.lst (words.map .str)],rfl,p5,⟨?_,?_,?_,q1⟩,q2⟩
  ·unfold cand;rw[len_app,z3O];omega
  ·unfold cand;rw[len_app,z3O];omega
  ·exact z5O lx (by omega) (by omega)
theorem zi1 {h:AH}{k:Int}{r:AH}{i:Nat}{start:Str}{ns:List Str}(p:PS h k r) (c:CL r) (hk:k<900000) (lo:low start) (hs:start.length<=4) (e:r[i]?=.(l (ns.map .str))) (hn:ns.length<=7) :
 W (z1L [.ref 2,.str start,.ref (i+3)]) h (λd h'=>∃x,d=.str x/\PS h' (k+5) r/\zu2 x/\x∉ns) :=
 z4y p c ((z8m p hk lo hs e hn).mono λd h1 ⟨x,j,e,p1,g,n⟩=>⟨_,j,p1,by subst e;rfl,λh2 p2=>⟨x,e,p2,g,n⟩⟩)
theorem z5m {h:AH}{k:Int}{r:AH}{n:Nat}(p:PS h k r) (cl:CL r) (hk:k<800000) (hn:n<=8) {Q:D->AH->Prop}(z:∀ns h',ns.length=n->NS ns->PS h' (k+45) (r++[.lst (ns.map .str)])->Q (.ref (r.length+3)) h') :
 W (z0i [.ref 2,.int n]) h Q:=by
 refine zB5 p cl ?_;refine z23 ?_;show W (z1r [.(r 2),.(i n),none,none,none,none]) h _;unfold z1r;rw[show ("abcdefghijklmnopqrstuvwxyz":Str)=abc from rfl];refine zs6 (.str abc) _ rfl rfl ?_;refine zs6 (.str "") _ rfl rfl ?_;rw[w_cons];refine z0D (λc γ h=>∃x w,γ=[.(r 2),.(i n),.(s abc),.(s x),w,none]/\PS h (k+1+c) r/\low x/\x.length<=c) (λ_ _=>False) ?_;refine z5M p cl ?_;simp only[K00,K07,K0b,K0q,K0m,K0t,z11,j3,z0T,W_pure,Z1,aNil,z0e,z2e,e2,eFn,eLst,eVar,if_true];refine z1D p (by decide) λh1 p1=>?_;refine z0j p1 (by omega) (by decide) (by decide) λd h2 d0 d1 p2=>?_;obtain⟨v,hv,ea⟩:∃v:Nat,v<=4/\atI [D.int 0,D.int 0,D.int 1,D.int 4] d=.(i v):=by
  have:d=0\/d=1\/d=2\/d=3:=by omega
  rcases this with rfl|rfl|rfl|rfl
  ·exact⟨0,by decide,rfl⟩
  ·exact⟨0,by decide,rfl⟩
  ·exact⟨1,by decide,rfl⟩
  ·exact⟨4,by decide,rfl⟩
 refine z5L p2 z1F ea ?_;refine⟨_,_,p2,rfl,λh2 p2=>⟨v,rfl,by omega,⟨_,none,rfl,by simpa using p2,zu8,by rw[zq0];omega⟩,?_,?_,λ_ _ q=>q.elim⟩⟩
 ·rintro c γ h3 hc ⟨x,w,rfl,p3,lx,hx⟩;rw[w_cons];simp only[K0a,K00,K07,K0b,K0q,K0m,K0t,z11,j3,z0T,W_pure,Z1,aNil,z0e,e2,eFn,eVar,gN,if_true,sAsg,z7H];refine z0j p3 (by omega) (by decide) (by decide) λd h1 d0 d1 p1=>?_;refine z4F (k:=k) (r:=r) d0 d1 (by omega) ?_;refine⟨_,_,rfl,p1.up (by omega),z5O lx (by omega) (by omega),by rw[len_app,z3O];omega⟩
 rintro γ h3 ⟨x,w,rfl,p3,lx,hx⟩;refine z6T ?_;simp only[K0q,K0m,j3,W_pure,aNil,eLst];refine z1D p3 (by decide) λh4 p4=>?_;rw[w_cons];refine z0D (λc γ h=>∃ns w,γ=[.(r 2),.(i n),.(s abc),.(s x),w,.(r (r.length+3))]/\PS h (k+5+5 * c) (r++[.lst (ns.map .str)])/\ns.length=c/\NS ns) (λ_ _=>False) ?_;simp only[K0a,K00,W_pure,z0e,z2e,eVar];refine⟨n,rfl,by omega,⟨[],_,rfl,p4.up (by omega),rfl,⟨K93,by simp⟩⟩,?_,?_,λ_ _ q=>q.elim⟩
 ·rintro c γ h5 hc ⟨ns,w,rfl,p5,l5,n5⟩;rw[w_cons];simp only[K0a,K00,K07,K0b,K0q,K0m,K0t,z9J,z11,j3,z0T,W_pure,Z1,aNil,z0e,eFn,eM1,eVar,if_true,z0I,z7H];refine z2O p5 z1F ?_;refine(zi1 p5 (cl.put (z0w ns)) (by omega) lx (by omega) z1F (by omega)).mono λy h6 ⟨z,ey,p6,gz,nz⟩=>?_;subst ey;refine z73 p6 z1F (by simp;omega) λh7 p7=>?_;refine⟨ns++[z],_,rfl,?_,by simp[l5],⟨?_,?_⟩⟩
  ·have:=p7.up (k':=k+5+5 * ((c+1:Nat):Int)) (by omega);simpa using this
  ·rw[K21];refine⟨n5.1,by simp,λa ha b hb=>?_⟩;simp at hb;subst hb;exact λe=>nz (e ▸ ha)
  ·intro y hy;rcases K0n.mp hy with q|q
   ·exact n5.2 y q
   ·simp at q;subst q;exact gz
 ·rintro γ h5 ⟨ns,w,rfl,p5,l5,n5⟩;exact zD9 _ rfl ⟨k+45,_,r.length,_,rfl,p5.up (by omega),K01 _,z1F,z0w ns,λh2 p2=>z ns h2 l5 n5 p2⟩
theorem zg3 {x:D}{l:List Nat}{h:AH}(e:seqD x h=.ok (stD l) h) (hl:l.length<=2000) (hd:(setN l).length<64):z1o [x] h=.ok (.tup (stD (setN l))) h:=by
 have dl:(dedN l).length=(setN l).length:=by unfold setN;rw[z3G]
 have e1:z3F [x] h=.ok (.ref h.length) (h++[.set (kN (dedN l))]):=by
  unfold z3F;dsimp only;rw[M.bind_ok e,z8c];dsimp only;rw[if_pos (by rw[zH2];omega),zL1];rfl
 have e2:z1M [.ref h.length] (h++[.set (kN (dedN l))])=.ok (.ref (h.length+1)) (h++[.set (kN (dedN l)),.lst (stD (setN l))]):=by
  unfold z1M;dsimp only;have g:getS h.length (h++[.set (kN (dedN l))])=.ok (kN (dedN l)) (h++[.set (kN (dedN l))]):=by
   unfold getS;rw[show (h++[O.set (kN (dedN l))])[h.length]?=some (.set (kN (dedN l))) by simp]
  rw[M.bind_ok g,z9o];dsimp only;rw[if_pos (by unfold zN;rw[K4];omega),z9M];unfold newL;rw[if_pos (by rw[z1Y,z3G];unfold sizeLine;omega)];simp[setN]
 have e3:Y2 [.ref (h.length+1)] (h++[.set (kN (dedN l)),.lst (stD (setN l))])=.ok (.tup (stD (setN l))) (h++[.set (kN (dedN l)),.lst (stD (setN l))]):=by
  have ft:∀i:Nat,Y2 [.ref i]=(do let x <- getL i;pure (.tup x)):=λ_=>rfl;rw[ft];have g:getL (h.length+1) (h++[.set (kN (dedN l)),.lst (stD (setN l))])=.ok (stD (setN l)) (h++[.set (kN (dedN l)),.lst (stD (setN l))]):=by
   unfold getL;rw[show (h++[O.set (kN (dedN l)),O.lst (stD (setN l))])[h.length+1]?=.(l ((stD (setN l)))) by simp]
  rw[M.bind_ok g];rfl
 have e4:clE (j7 Y2 (Z1 (j7 z1M (Z1 (j7 z3F (Z1 (eVar 0) aNil)) aNil)) aNil)) [some x] h=.ok (.tup (stD (setN l))) h:=by
  refine z0H (j:=[.set (kN (dedN l)),.lst (stD (setN l))]) ?_ (by simp only[y8];exact q5 λ_=>rfl);exact j8 (j8 (j8 (show eVar 0 [some x] h=.ok x h from rfl) e1) e2) e3
 have e5:runF 1 z3o [x] h=.ok (.tup (stD (setN l))) h:=z13 (w8 (h1:=h) _ e4 ⟨rfl,rfl⟩);show cln (runF 1 z3o [x]) h=_;refine z0H (j:=[]) (by rw[K2c];exact e5) (by simp only[y8];exact q5 λ_=>rfl)
theorem z6v {l:List Nat}{h:AH}{n:Nat}(e:h[n]?=.(l (stD l))) (hl:l.length<=2000) (hd:(setN l).length<64):z1o [.ref n] h=.ok (.tup (stD (setN l))) h:=zg3 (by unfold seqD getL;dsimp only;rw[e]) hl hd
inductive Wr where
 | num (i:Int)
 | cell (x:Str) (i:Int)
structure Ts where
 x:Str
 s:Str
 w:Wr
structure Cm where
 x:Str
 ts:List Ts
 ps:List (Str×Wr)
structure Ce where
 x:Str
 sz:Int
 f:Int
inductive Ask where
 | test (t:Ts)
 | can (x:Str)
 | last (x:Str)
structure Pg where
 ce:List Ce
 cm:List Cm
 ma:List (Str×List (List Ask))
 kp:Bool
def wrD:Wr->D
 | .num i=>.int i
 | .cell x i=>.tup [.str x,.int i]
def tsD (t:Ts):D:=.tup [.str t.x,.str t.s,wrD t.w]
def psD (p:Str×Wr):D:=.tup [.str p.1,wrD p.2]
def cmD (c:Cm):D:=.tup [.str c.x,.tup (c.ts.map tsD),.tup (c.ps.map psD)]
def ceD (c:Ce):D:=.tup [.str c.x,.int c.sz,.int c.f]
def askD:Ask->D
 | .test t=>tsD t
 | .can x=>.tup [.str "can",.str x]
 | .last x=>.tup [.str "last",.str x]
def roD (l:List Ask):D:=.tup (l.map askD)
def mkD (m:Str×List (List Ask)):D:=.tup [.str m.1,.tup (m.2.map roD)]
def pgD (p:Pg):D:=.tup [.tup (p.ce.map ceD),.tup (p.cm.map cmD),.tup (p.ma.map mkD),.bl p.kp]
def rmD (R:List Int):D:=.tup (R.map .int)
def nms (ce:List Ce):List Str:=ce.map (·.x)
def atR (ns:List Str) (R:List Int) (x:Str):Int:=(R[ns.idxOf x]?).getD 0
def wrth (ns:List Str) (R:List Int):Wr->Int
 | .num i=>i
 | .cell x i=>atR ns R x+i
def z0E (ns:List Str) (R:List Int) (t:Ts):Bool :=
 if t.s = "is" then decide (atR ns R t.x=wrth ns R t.w) else if t.s = "not" then !decide (atR ns R t.x=wrth ns R t.w) else decide (atR ns R t.x<wrth ns R t.w)
def GW (ns:List Str):Wr->Prop
 | .num _=>True
 | .cell x _=>x∈ns
def GT (ns:List Str) (t:Ts):Prop:=t.x∈ns/\GW ns t.w/\(t.s = "is"\/t.s = "not"\/t.s = "under")
structure GC (ns:List Str) (c:Cm):Prop where
 ts:∀t∈c.ts,GT ns t
 ps:∀p∈c.ps,p.1∈ns/\GW ns p.2
 nd:(c.ps.map (·.1)).Nodup
 tl:c.ts.length<=4
 pl:c.ps.length<=4
def GA (p:Pg):Ask->Prop
 | .test t=>GT (nms p.ce) t
 | .can x=>x∈p.cm.map (·.x)
 | .last x=>p.kp=true/\x∈p.cm.map (·.x)
structure GM (p:Pg):Prop where
 nd:(p.ma.map (·.1)).Nodup
 l8:p.ma.length<=8
 rl:∀m∈p.ma,m.2.length<=8
 al:∀m∈p.ma,∀l∈m.2,l.length<=8
 ga:∀m∈p.ma,∀l∈m.2,∀a∈l,GA p a
structure GP (p:Pg):Prop where
 gm:GM p
 nd:(nms p.ce).Nodup
 l1:0<p.ce.length
 l4:p.ce.length<=4
 c8:p.cm.length<=8
 cs:∀c∈p.ce,0<c.sz/\c.sz<=9/\0<=c.f/\c.f<c.sz
 gc:∀c∈p.cm,GC (nms p.ce) c
def hk (ce:List Ce) (R:List Int):List (Key×D):=List.zipWith (λc v=>(K6y c.x,D.int v)) ce R
theorem ze5:∀{ce:List Ce}{R:List Int}{x:Str},x∈nms ce->ce.length<=R.length->lkD (hk ce R) (.inr x)=.(i ((atR (nms ce) R x)))
 | [],R,x,h,_=>by simp[nms]at h
 | c::ce,[],x,_,l=>by simp at l
 | c::ce,v::R,x,h,l=>by
  by_cases e:c.x=x
  ·subst e;simp[lkD,hk,atR,nms,K6r]
  ·have m:x∈nms ce:=by
    simp only[nms,K0i,K0c]at h;exact h.resolve_left λz=>e z.symm
   have ih:=ze5 (R:=R) m (by simpa using l);have e1:atR (nms (c::ce)) (v::R) x=atR (nms ce) R x:=by
    unfold atR nms;rw[K0i,K6r,show (c.x==x)=false from beq_eq_false_iff_ne.mpr e];rfl
   rw[e1,<- ih];unfold lkD hk;rw[K8i,K8l (by simp[e])]
theorem zd3 {h:AH}{i:Nat}{kvs:List (Key×D)}{y d:D}{k:Key}(e:h[i]?=some (.dK kvs)) (hk:keyD y=some k) (l:lkD kvs k=some d):z3S (.ref i) y h=.ok d h:=by
 have g:dicD (.ref i) h=.ok kvs h:=by
  show getK i h=_;unfold getK;rw[e]
 unfold z3S;rw[M.bind_ok g,hk];dsimp only;rw[l];rfl
theorem zR0 {h:AH}{i:Nat}{kvs:List (Key×D)}{y:D}{k:Key}{neg:Bool}(e:h[i]?=some (.dK kvs)) (hk:keyD y=some k):fInD neg y (.ref i) h=.ok (.bl ((lkD kvs k).isSome != neg)) h:=by
 have g:dicD (.ref i) h=.ok kvs h:=by
  show getK i h=_;unfold getK;rw[e]
 unfold fInD;rw[M.bind_ok g,hk];rfl
theorem z7l {h:AH}{w:Wr}:z2p [wrD w] h=.ok (.bl (match w with|.num _=>false|.cell _ _=>true)) h:=by
 refine z2q (z13 ?_) rfl;show W (z2k [some (wrD w)]) h _;unfold z2k;refine w8 _ (z1E (Z6 rfl) ?_) ⟨rfl,rfl⟩;cases w<;>rfl
section
variable {ns:List Str}{ce:List Ce}{R:List Int}{h:AH}{i:Nat}
theorem z8K {w:Wr}(e:h[i]?=some (.dK (hk ce R))) (g:GW (nms ce) w) (hl:ce.length<=R.length):z18 [wrD w,.ref i] h=.ok (.int (wrth (nms ce) R w)) h:=by
 refine z2q (z13 ?_) rfl;show W (z2i [some (wrD w),.(r i)]) h _;unfold z2i;cases w with
 | num n =>
  refine J6 false (cv_h (fn_h (ds:=[wrD (.num n)]) (ac_h (Z6 rfl) rfl) rfl z7l)) ?_;rw[if_neg (by decide)];exact J4 (w8 _ (Z6 rfl) ⟨rfl,rfl⟩)
 | cell x n =>
  refine J6 true (cv_h (fn_h (ds:=[wrD (.cell x n)]) (ac_h (Z6 rfl) rfl) rfl z7l)) ?_;rw[if_pos rfl];refine z0h (w8 (.int (atR (nms ce) R x+n)) (e2_h (x:=.int (atR (nms ce) R x)) (y:=.int n) (e2_h (Z6 rfl) (e2_h (x:=.tup [.str x,.int n]) (Z6 rfl) (y:=.int 0) rfl (by rw[ix0];rfl)) (zd3 e rfl (ze5 g hl))) (e2_h (x:=.tup [.str x,.int n]) (Z6 rfl) (y:=.int 1) rfl (by rw[ix1];rfl)) (by rw[z2s];rfl)) ⟨rfl,rfl⟩)
theorem z42 {x y:Str}{b:Bool}(e:decide (x=y)=b):fEq false (.str x) (.str y) h=.ok (.bl b) h:=by
 rw[zU4,e,K4q];rfl
theorem zl0 {t:Ts}(e:h[i]?=some (.dK (hk ce R))) (g:GT (nms ce) t) (hl:ce.length<=R.length):z0q [tsD t,.ref i] h=.ok (.bl (z0E (nms ce) R t)) h:=by
 obtain⟨x,s,w⟩:=t;obtain⟨g1,g2,g3⟩:=g;simp only at g1 g2 g3;refine z2q (z13 ?_) rfl;show W (z1Q [some (tsD ⟨x,s,w⟩),.(r i),none,none,none,none]) h _;unfold z1Q;refine Y9 (tsD ⟨x,s,w⟩) [some (tsD ⟨x,s,w⟩),.(r i),.(s x),.(s s),some (wrD w),none] (Z6 rfl) rfl ?_;refine Y9 (.int (wrth (nms ce) R w)) [some (tsD ⟨x,s,w⟩),.(r i),.(s x),.(s s),some (wrD w),.(i ((wrth (nms ce) R w)))] (fn_h (ds:=[wrD w,.ref i]) (ac_h (Z6 rfl) (ac_h (Z6 rfl) rfl)) rfl (z8K e g2 hl)) rfl ?_;have ge:∀(γ:G),γ[1]?=some (.(r i))->γ[2]?=some (.(s x))->e2 z3S (eVar 1) (eVar 2) γ h=.ok (.int (atR (nms ce) R x)) h:=λγ a b=>e2_h (Z6 a) (Z6 b) (zd3 e rfl (ze5 g1 hl));rcases g3 with rfl|rfl|rfl
 ·refine J6 true (cb_h (e2_h (Z6 rfl) (y:=.str "is") rfl (z42 (by decide +kernel)))) ?_;rw[if_pos rfl];refine z0h (w8 _ (e2_h (ge _ rfl rfl) (Z6 rfl) (by rw[z3Q];rfl)) ⟨?_,rfl⟩);unfold z0E;rw[if_pos rfl,K4q]
 ·refine J6 false (cb_h (e2_h (Z6 rfl) (y:=.str "is") rfl (z42 (by decide +kernel)))) ?_;rw[if_neg (by decide)];refine J4 (J6 true (cb_h (e2_h (Z6 rfl) (y:=.str "not") rfl (z42 (by decide +kernel)))) ?_);rw[if_pos rfl];refine z0h (w8 _ (e2_h (ge _ rfl rfl) (Z6 rfl) (by rw[z3Q];rfl)) ⟨?_,rfl⟩);unfold z0E;rw[if_neg (show ¬ ("not":Str) = "is" by decide +kernel),if_pos rfl,K6i]
 ·refine J6 false (cb_h (e2_h (Z6 rfl) (y:=.str "is") rfl (z42 (by decide +kernel)))) ?_;rw[if_neg (by decide)];refine J4 (J6 false (cb_h (e2_h (Z6 rfl) (y:=.str "not") rfl (z42 (by decide +kernel)))) ?_);rw[if_neg (by decide)];refine J4 (w8 _ (e2_h (ge _ rfl rfl) (Z6 rfl) (by rw[z91];rfl)) ⟨?_,rfl⟩);unfold z0E;rw[if_neg (show ¬ ("under":Str) = "is" by decide +kernel),if_neg (show ¬ ("under":Str) = "not" by decide +kernel)]
theorem z8z:∀x y:Ts,tsD x=tsD y->x=y:=by
 rintro⟨x,s,w⟩ ⟨y,t,v⟩ e;simp only[tsD,D.tup.injEq,K4c,D.str.injEq,and_true]at e;obtain⟨rfl,rfl,e⟩:=e;cases w<;>cases v<;>simp_all [wrD]
theorem zN3 {c:Cm}(e:h[i]?=some (.dK (hk ce R))) (g:GC (nms ce) c) (hl:ce.length<=R.length):z0K [cmD c,.ref i] h=.ok (.bl (c.ts.all (z0E (nms ce) R))) h:=by
 refine z2q (z13 ?_) rfl;show W (z2o [some (cmD c),.(r i)]) h _;unfold z2o;refine w8 (.bl ((c.ts.map (z0E (nms ce) R)).all id)) (zO5 ?_) ⟨?_,rfl⟩
 ·refine(z3i (h1:=h) (src:=.con (c.ts.map tsD)) tsD z8z (λ_=>true) (λt=>.bl (z0E (nms ce) R t)) (z0Z (e2_h (Z6 rfl) (y:=.int 1) rfl (by show fIx (.tup _) _ _=_;rw[ix1];rfl))) rfl (λ_=>trivial) (by have:=g.tl;omega) λt ht=>⟨[.(r i),some (tsD t)],λh=>rfl,λj=>rfl,λ_ j=>?_⟩).trans ?_
  ·exact fn_h (ds:=[tsD t,.ref i]) (ac_h (Z6 rfl) (ac_h (Z6 rfl) rfl)) rfl (zl0 (by rw[K0w (K7.mp e).1];exact e) (g.ts t ht) hl)
  ·rw[filter_tt,K16];rfl
 ·rw[Z05];rfl
end
theorem z9r:∀{ce:List Ce}{R:List Int},ce.length<=R.length->(hk ce R).map (·.1)=(nms ce).map K6y
 | [],R,_=>by simp[hk,nms]
 | c::ce,[],l=>by simp at l
 | c::ce,v::R,l=>by
  have:=z9r (ce:=ce) (R:=R) (by simpa using l);simp only[hk,nms,K8i,K0i]at this ⊢;rw[this]
theorem z5d {l:List Str}(h:l.Nodup):(l.map (K6y:Str->Key)).Nodup:=by
 exact List.Pairwise.map _ (λa b n e=>n (Z1j e)) h
def kvH:D->Key×D
 | .tup [.tup (.str x::_),v]=>(.inr x,v)
 | _=>(.inl 0,.non)
theorem zk5 (ce:List Ce) (R:List Int):(zipD (ce.map ceD) (R.map .int)).map kvH=hk ce R:=by
 unfold zipD hk;rw[List.zipWith_map,List.map_zipWith];rfl
theorem zD0 {n:Nat}(ce:List Ce) (R:List Int):refO n (.dK (hk ce R))=true:=by
 show k6 n ((hk ce R).map (·.2))=true;refine z2d λx hx=>?_;obtain⟨y,hy,rfl⟩:=K0r.mp hx;unfold hk at hy;rw[List.mem_iff_getElem?]at hy;obtain⟨j,e⟩:=hy;rw[K8z]at e;cases e1:ce[j]?<;>cases e2:R[j]?<;>rw[e1,e2]at e<;>cases e;rfl
section
variable {p:Pg}{R:List Int}{h:AH}
theorem pg0:fIx (pgD p) (.int 0) h=.ok (.tup (p.ce.map ceD)) h:=by unfold pgD;rw[ix0];rfl
theorem pg1:fIx (pgD p) (.int 1) h=.ok (.tup (p.cm.map cmD)) h:=by unfold pgD;rw[ix1];rfl
theorem pg2:fIx (pgD p) (.int 2) h=.ok (.tup (p.ma.map mkD)) h:=by unfold pgD;rw[ix2];rfl
theorem pg3:fIx (pgD p) (.int 3) h=.ok (.bl p.kp) h:=by
 unfold pgD;rw[ix_tup (show atI _ (3:Int)=some (.bl p.kp) from Y7 (j:=3) rfl)];rfl
theorem zj4 (g:GP p) (hl:p.ce.length<=R.length):z1G [pgD p,rmD R] h=.ok (.ref h.length) (h++[.dK (hk p.ce R)]):=by
 show cln (runF 2 z2c [pgD p,rmD R]) h=_;refine z3m (j:=[.dK (hk p.ce R)]) (z13 ?_) rfl (z3f h) (K01 _) z29 (zD0 _ _);show W (z2c [some (pgD p),some (rmD R)]) h _;unfold z2c;refine w8 (.ref h.length) ?_ ⟨rfl,rfl⟩;have src:iZip (e2 fIx (eVar 0) (λ_=>pure (.int 0))) (eVar 1) [some (pgD p),some (rmD R)] h=.ok (.con (zipD (p.ce.map ceD) (R.map .int))) h:=by
  unfold iZip;rw[M.bind_ok (ac_h (e2_h (Z6 rfl) (y:=.int 0) rfl pg0) (ac_h (Z6 rfl) rfl))];rfl
 refine(zz7 (src:=.con (zipD (p.ce.map ceD) (R.map .int))) kvH src (λ_=>trivial) ?_ ?_ λd hd=>?_).trans ?_
 ·show ((zipD (p.ce.map ceD) (R.map .int)).map λd=>(kvH d).1).Nodup;rw[show ((zipD (p.ce.map ceD) (R.map .int)).map λd=>(kvH d).1)=((zipD (p.ce.map ceD) (R.map .int)).map kvH).map (·.1) by rw[K16];rfl,zk5,z9r hl];exact z5d g.nd
 ·show (zipD (p.ce.map ceD) (R.map .int)).length<=1000;have:=g.l4;unfold zipD;rw[K9g,K4];omega
 ·obtain⟨j,e⟩:=K2h (show d∈zipD (p.ce.map ceD) (R.map .int) from hd);obtain⟨x,y,ex,ey,rfl⟩:=zj2 e;rw[K8]at ex ey;obtain⟨c,_,rfl⟩:=K06.mp ex;obtain⟨v,_,rfl⟩:=K06.mp ey;exact⟨[some (ceD c),.(i v)],.str c.x,λh=>rfl,λh=>rfl,rfl,λj=>e2_h (Z6 rfl) (y:=.int 0) rfl (by unfold ceD;rw[ix0];rfl),λj=>Z6 rfl⟩
 ·show Res.ok _ (h++[.dK ((zipD (p.ce.map ceD) (R.map .int)).map kvH)])=_;rw[zk5]
def kvW (q:Str×Wr):Key×D:=(.inr q.1,wrD q.2)
theorem z6D:∀l:List (Str×Wr),z2K (l.map psD)=some (l.map kvW)
 | []=>rfl
 | q::l=>by
  show (match keyD (.str q.1),z2K (l.map psD) with
   | some k,some l=>some ((k,wrD q.2)::l)
   | _,_=>none)=_
  rw[z6D l];rfl
theorem z8f:∀(l acc:List (Key×D)),((acc++l).map (·.1)).Nodup->l.foldl (λacc p=>ptD acc p.1 p.2) acc=acc++l
 | [],acc,_=>by simp
 | q::l,acc,nd=>by
  rw[K3o,z5h,z8f l (acc++[q])]
  ·simp
  ·simpa using nd
  ·intro z;rw[K0z,K0i]at nd;exact(K21.mp nd).2.2 _ z _ (by simp) rfl
theorem zv9 (x:Str):∀l:List (Str×Wr),lkD (l.map kvW) (.inr x)=(l.lookup x).map wrD
 | []=>rfl
 | (y,w)::l=>by
  have ih:=zv9 x l;unfold lkD at ih ⊢;by_cases e:y=x
  ·subst e;simp[kvW,List.lookup]
  ·rw[K0i,K8l (by simp[kvW,e]),ih,K1q,show (x==y)=false from beq_eq_false_iff_ne.mpr λz=>e z.symm]
theorem zu5 {c:Cm}{ns:List Str}(g:GC ns c):z4a [.tup (c.ps.map psD)] h=.ok (.ref h.length) (h++[.dK (c.ps.map kvW)]):=by
 unfold z4a;dsimp only;rw[z6D];dsimp only;have l:=g.pl;rw[if_pos (by rw[K4];omega),z8f _ [] (by
  rw[K56,K16];have:=z5d g.nd;rw[K16]at this;exact this),K56]
 unfold newK;rw[if_pos (by rw[K4];exact K0x l (by decide))]
theorem z9N {k:G->M Bool}{ma mb:G->M D}{γ:G}{b:Bool}{r:Res D}(e:k γ h=.ok b h) (e2:(if b=true then ma else mb) γ h=r):eIf k ma mb γ h=r:=by
 unfold eIf;rw[M.bind_ok e,<- e2];cases b<;>rfl
def newV (ns:List Str) (R:List Int) (c:Cm) (q:Ce):Int:=match c.ps.lookup q.x with
 | some w=>wrth ns R w % q.sz
 | none=>atR ns R q.x
def beh (p:Pg) (R:List Int) (k:Nat) (c:Cm):List Int:=p.ce.map (newV (nms p.ce) R c)++if p.kp=true then [(k:Int)] else []
theorem z6A {x:Str}{w:Wr}:∀{l:List (Str×Wr)},l.lookup x=some w->(x,w)∈l
 | [],e=>by cases e
 | (y,v)::l,e=>by
  rw[K1q]at e;split at e
  ·rename_i q;cases e;rw[beq_iff_eq.mp q];exact K0u
  ·exact K0o _ (z6A e)
theorem zh5 {i k:Nat}{c:Cm}(g:GP p) (hl:p.ce.length<=R.length) (ec:p.cm[k]?=some c) (e:h[i]?=some (.dK (hk p.ce R))):z14 [pgD p,.int (k:Nat),.ref i] h=.ok (rmD (beh p R k c)) h:=by
 have gc:=g.gc c (K08 ec);have li:=(K7.mp e).1;refine z0H (j:=[.dK (c.ps.map kvW),.lst ((p.ce.map (newV (nms p.ce) R c)).map .int)]) (z13 ?_) (by unfold rmD;simp only[y8];exact z0Q _);show W (z12 [some (pgD p),.(i (k:Nat)),.(r i),none,none,none,none,none]) h _;unfold z12;refine Y9 (.ref h.length) [some (pgD p),.(i (k:Nat)),.(r i),.(r h.length),none,none,none,none] (h1:=h++[.dK (c.ps.map kvW)]) (j8 (e2_h (x:=cmD c) (e2_h (x:=.tup (p.cm.map cmD)) (y:=.int (k:Nat)) (e2_h (Z6 rfl) (y:=.int 1) rfl pg1) (Z6 rfl) (by rw[ix_tup (Y7 (by rw[K8,ec];rfl))];rfl)) (y:=.int 2) rfl (by unfold cmD;rw[ix2];rfl)) (zu5 gc)) rfl ?_;refine z3Y (xs:=[]) (by simp) (λh=>rfl) ?_;rw[K10];show W (Z3 _ _ [some (pgD p),.(i (k:Nat)),.(r i),.(r h.length),.(r ((h++[O.dK (c.ps.map kvW)]).length)),none,none,none]) (h++[.dK (c.ps.map kvW),.lst []]) _;rw[show (h++[O.dK (c.ps.map kvW)]).length=h.length+1 by simp];refine z2U (λγ h1=>∃a b d,γ=[some (pgD p),.(i (k:Nat)),.(r i),.(r h.length),.(r (h.length+1)),a,b,d]/\h1=h++[.dK (c.ps.map kvW),.lst ((p.ce.map (newV (nms p.ce) R c)).map .int)]) ?_ ?_
 ·refine z0U (λt γ h1=>∃a b d,γ=[some (pgD p),.(i (k:Nat)),.(r i),.(r h.length),.(r (h.length+1)),a,b,d]/\h1=h++[.dK (c.ps.map kvW),.lst (((p.ce.take t).map (newV (nms p.ce) R c)).map .int)]) (λ_ _=>False) ?_;refine W.of (z0Z (e2_h (Z6 rfl) (y:=.int 0) rfl pg0)) ⟨⟨_,_,_,rfl,rfl⟩,λ_ _ _ _=>trivial,?_,?_,λ_ _ q=>q.elim⟩
  ·rintro t d γ h1 hd ⟨a1,a2,a3,rfl,rfl⟩;have hd':(p.ce.map ceD)[t]?=some d:=hd;rw[K8]at hd';obtain⟨q,eq,rfl⟩:=K06.mp hd';have lt:=(K7.mp eq).1;have qm:q∈p.ce:=K08 eq;have e1:(h++[O.dK (c.ps.map kvW),O.lst (((p.ce.take t).map (newV (nms p.ce) R c)).map .int)])[i]?=some (.dK (hk p.ce R)):=by rw[K0w li];exact e
   have e2':(h++[O.dK (c.ps.map kvW),O.lst (((p.ce.take t).map (newV (nms p.ce) R c)).map .int)])[h.length]?=some (.dK (c.ps.map kvW)):=by simp
   have e3:(h++[O.dK (c.ps.map kvW),O.lst (((p.ce.take t).map (newV (nms p.ce) R c)).map .int)])[h.length+1]?=.(l ((((p.ce.take t).map (newV (nms p.ce) R c)).map .int))):=by simp
   refine W.of (a:=[some (pgD p),.(i (k:Nat)),.(r i),.(r h.length),.(r (h.length+1)),.(s q.x),.(i q.sz),.(i q.f)]) rfl ?_;refine z10 rfl e3 (by have:=g.l4;simp;omega) (v:=.int (newV (nms p.ce) R c q)) ?_ ?_
   ·refine z9N (b:=(c.ps.lookup q.x).isSome) (cb_h (e2_h (Z6 rfl) (Z6 rfl) (by rw[zR0 e2' (k:=.inr q.x) rfl,zv9];simp))) ?_;unfold newV;cases el:c.ps.lookup q.x with
    | none =>
     show e2 z3S _ _ _ _=_;exact e2_h (Z6 rfl) (Z6 rfl) (zd3 e1 rfl (ze5 (K0r.mpr ⟨q,qm,rfl⟩) hl))
    | some w =>
     show e2 fMod _ _ _ _=_;have gw:=(gc.ps (q.x,w) (z6A el)).2;refine e2_h (x:=.int (wrth (nms p.ce) R w)) (fn_h (ds:=[wrD w,.ref i]) (ac_h (e2_h (Z6 rfl) (Z6 rfl) (zd3 (d:=wrD w) e2' rfl (by rw[zv9,el];rfl))) (ac_h (Z6 rfl) rfl)) rfl (z8K e1 gw hl)) (Z6 rfl) (by rw[z9g (g.cs q qm).1];rfl)
   ·refine Y6 ⟨_,_,_,rfl,?_⟩;rw[K1i _ _ (by omega),show h.length+1 - h.length=1 by omega];rw[K27,eq];simp
  ·rintro γ h1 ⟨a1,a2,a3,rfl,rfl⟩;refine⟨_,_,_,rfl,?_⟩;show _++[_,O.lst (((p.ce.take (p.ce.map ceD).length).map _).map _)]=_;rw[K4,K1g]
 ·rintro γ h1 ⟨a1,a2,a3,rfl,rfl⟩;have e3:(h++[O.dK (c.ps.map kvW),O.lst ((p.ce.map (newV (nms p.ce) R c)).map .int)])[h.length+1]?=.(l (((p.ce.map (newV (nms p.ce) R c)).map .int))):=by simp
  refine w8 (rmD (beh p R k c)) (z9N (cv_h (e2_h (Z6 rfl) (y:=.int 3) rfl pg3)) ?_) ⟨rfl,rfl⟩;unfold beh;cases ek:p.kp with
  | true =>
   rw[if_pos rfl,if_pos rfl];have st:z5W (eVar 4) (Z1 (eVar 1) aNil) [some (pgD p),.(i (k:Nat)),.(r i),.(r h.length),.(r (h.length+1)),a1,a2,a3] (h++[O.dK (c.ps.map kvW),O.lst ((p.ce.map (newV (nms p.ce) R c)).map .int)])=.ok ((p.ce.map (newV (nms p.ce) R c)).map .int++[.int (k:Nat)]) (h++[O.dK (c.ps.map kvW),O.lst ((p.ce.map (newV (nms p.ce) R c)).map .int)]):=by
    unfold z5W;rw[M.bind_ok (Z6 (d:=.ref (h.length+1)) rfl)];dsimp only;have gl:getL (h.length+1) (h++[O.dK (c.ps.map kvW),O.lst ((p.ce.map (newV (nms p.ce) R c)).map .int)])=.ok ((p.ce.map (newV (nms p.ce) R c)).map .int) (h++[O.dK (c.ps.map kvW),O.lst ((p.ce.map (newV (nms p.ce) R c)).map .int)]):=by unfold getL;rw[e3]
    rw[M.bind_ok gl,M.bind_ok (ac_h (Z6 rfl) (ds:=[]) rfl)];rfl
   unfold eTup;rw[M.bind_ok st,if_pos (K0x (show _<=5 by have:=g.l4;simp;omega) (by decide))];unfold rmD;rw[K0z];rfl
  | false =>
   rw[if_neg (by decide),if_neg (by decide),K2c];exact j8 (Z6 rfl) (z3I e3)
end
section
variable {ι:Type} [DecidableEq ι] [BEq ι] [LawfulBEq ι] {enc:ι->D}{h:AH}
theorem z3C (e:∀a b,eqN 24 h (enc a) (enc b)=some (decide (a=b))) (a:ι):∀l:List ι,inZ h (enc a) (l.map enc)=some (decide (a∈l))
 | []=>by simp[inZ]
 | b::l=>by
  rw[K0i];unfold inZ;rw[e,z3C e a l];dsimp only;congr 1;rw[K17,K2w,decide_eq_true_eq,decide_eq_true_eq,decide_eq_true_eq,K0c,eq_comm]
theorem z52 (e:∀a b,eqN 24 h (enc a) (enc b)=some (decide (a=b))) (a:ι) (l:List ι):z2v h (enc a) (l.map enc)=l.idxOf a:=by
 unfold z2v List.idxOf;rw[List.findIdx_map];congr 1;funext b;show decide (eqN 24 h (enc b) (enc a)=some true)=(b==a);rw[e,K17];simp
theorem z6B {i:Nat}{a:ι}{l:List ι}(e:∀a b,eqN 24 h (enc a) (enc b)=some (decide (a=b))) (hp:z04 (l.map enc)=true) (hl:l.length<=100000) (ei:h[i]?=.(l (l.map enc))) (ha:a∈l):z09 i (enc a) h=.ok (.int (l.idxOf a:Nat)) h:=by
 have g:getL i h=.ok (l.map enc) h:=by unfold getL;rw[ei]
 unfold z09;rw[M.bind_ok g];unfold ixX;rw[if_pos ⟨hp,by rw[K4];exact hl,by rw[z3C e,decide_eq_true ha]⟩,z52 e]
theorem zR1 {a:ι}{l:List ι}(e:∀a b,eqN 24 h (enc a) (enc b)=some (decide (a=b))) (hp:z04 (l.map enc)=true) (hl:l.length<=100000) (ha:a∈l):ixX (l.map enc) (enc a) h=.ok (.int (l.idxOf a:Nat)) h:=by
 unfold ixX;rw[if_pos ⟨hp,by rw[K4];exact hl,by rw[z3C e,decide_eq_true ha]⟩,z52 e]
end
theorem zW8 {n:Nat}{h:AH}(a b:Int):eqN (n+1) h (.int a) (.int b)=some (decide (a=b)):=by
 unfold eqN;show some (eqF (.int a) (.int b))=_;rfl
theorem z4l {h:AH}(a b:List Int):eqN 24 h (rmD a) (rmD b)=some (decide (a=b)):=zq1 (enc:=.int) zW8 a b
theorem z48:∀l:List Int,z04 (l.map .int)=true
 | []=>rfl
 | a::l=>by simp only[K0i,z04,z1g,z48 l,Bool.and_self]
theorem z3M:∀l:List (List Int),z04 (l.map rmD)=true
 | []=>rfl
 | a::l=>by
  rw[K0i];unfold z04;rw[z3M l,K4j];show z04 (a.map .int)=true;exact z48 a
theorem z3n:∀l:List Str,z04 (l.map .str)=true
 | []=>rfl
 | a::l=>by simp only[K0i,z04,z1g,z3n l,Bool.and_self]
def stp (L:List (List Int)) (R:List Int):List (List Int):=if R∈L then L else L++[R]
theorem z4x {n:Nat}(L:List (List Int)):k6 n (L.map rmD)=true:=q5 λa=>by unfold rmD;simp only[y8];exact z0Q a
theorem z89 {h:AH}{i:Nat}{R:List Int}{L:List (List Int)}{neg:Bool}(e:h[i]?=.(l (L.map rmD))):fInX neg (rmD R) (.ref i) h=.ok (.bl (decide (R∈L) != neg)) h:=by
 have g:seqD (.ref i) h=.ok (L.map rmD) h:=by
  show getL i h=_;unfold getL;rw[e]
 unfold fInX;rw[M.bind_ok g,z3C z4l]
theorem z8e {h:AH}{R:List Int}{L:List (List Int)}{neg:Bool}:fInX neg (rmD R) (.tup (L.map rmD)) h=.ok (.bl (decide (R∈L) != neg)) h:=by
 have g:seqD (.tup (L.map rmD)) h=.ok (L.map rmD) h:=rfl;unfold fInX;rw[M.bind_ok g,z3C z4l]
theorem z4r {L:List (List Int)}{R:List Int}:R∈stp L R:=by
 unfold stp;split
 ·assumption
 ·simp
theorem z6P {h:AH}{i:Nat}{R:List Int}{L:List (List Int)}(e:h[i]?=.(l (L.map rmD))) (hl:R∈L\/L.length<40) (l40:L.length<=40):z1d [.ref i,rmD R,.int 40] h=.ok (.int ((stp L R).idxOf R:Nat)) (h.set i (.lst ((stp L R).map rmD))):=by
 have li:=(K7.mp e).1;refine zs5 (j:=[]) (h0:=h.set i (.lst ((stp L R).map rmD))) ?_ (by simp) (zf9 (show k6 _ _=true from z4x _)) rfl;rw[K2c];refine z13 ?_;show W (z1O [.(r i),some (rmD R),.(i 40)]) h _;unfold z1O;have fin:∀h1:AH,h1=h.set i (.lst ((stp L R).map rmD))->eM1 z09 (eVar 0) (eVar 1) [.(r i),some (rmD R),.(i 40)] h1=.ok (.int ((stp L R).idxOf R:Nat)) h1:=λh1 e1=>by
  have e2:h1[i]?=.(l (((stp L R).map rmD))):=by rw[e1,K1a li]
  show (eVar 0 _ >>= λo=>z22 o >>= λn=>eVar 1 _ >>= λy=>z09 n y) h1=_;rw[M.bind_ok (Z6 rfl),M.bind_ok (z2C e2),M.bind_ok (Z6 rfl)];refine z6B z4l (z3M _) ?_ e2 z4r;unfold stp;split
  ·omega
  ·rw[K04,K1b];omega
 by_cases q:R∈L
 ·refine J6 false (cb_h (e2_h (Z6 rfl) (Z6 rfl) (by rw[z89 e,decide_eq_true q];rfl))) ?_;rw[if_neg (by decide)];have es:h=h.set i (.lst ((stp L R).map rmD)):=by
   unfold stp;rw[if_pos q];refine K4n λj=>?_;by_cases c:i=j
   ·subst c;rw[K1a li,e]
   ·rw[K1f c]
  refine J4 (w8 _ (fin h es) ⟨rfl,es⟩)
 ·refine J6 true (cb_h (e2_h (Z6 rfl) (Z6 rfl) (by rw[z89 e,decide_eq_false q];rfl))) ?_;rw[if_pos rfl];have l2:=hl.resolve_left q;refine z0h (J6 false (cb_h (e2_h (j8 (Z6 rfl) (z4B e)) (Z6 rfl) (by rw[zd1,K4,decide_eq_false (by omega)];rfl))) ?_);rw[if_neg (by decide)];refine J4 (z0h (z10 rfl e (by rw[K4];omega) (Z6 rfl) (J4 ?_)));have es:h.set i (.lst (L.map rmD++[rmD R]))=h.set i (.lst ((stp L R).map rmD)):=by
   unfold stp;rw[if_neg q,K0z];rfl
  exact w8 _ (fin _ es) ⟨rfl,es⟩
section
variable {p:Pg}{R:List Int}{h:AH}
def nxF (p:Pg) (R:List Int) (k:Nat):Option (List Int):=match p.cm[k]? with
 | some c=>if c.ts.all (z0E (nms p.ce) R)=true then some (beh p R k c) else none
 | none=>none
def nxt (p:Pg) (R:List Int) (n:Nat):List (List Int):=(K0h n).filterMap (nxF p R)
theorem z4V (n:Nat):nxt p R (n+1)=nxt p R n++(nxF p R n).toList:=by
 unfold nxt;rw[K55,List.filterMap_append];congr 1
theorem z8g (n:Nat):(nxt p R n).length<=n:=by
 unfold nxt;have:=List.length_filterMap_le (nxF p R) (K0h n);rwa [K20]at this
theorem zB2 (g:GP p) (hl:p.ce.length<=R.length):z1v [pgD p,rmD R] h=.ok (.ref h.length) (h++[.lst ((nxt p R p.cm.length).map rmD)]):=by
 show cln (runF 6 z0R [pgD p,rmD R]) h=_;refine z3m (i:=h.length+1) (j:=[.dK (hk p.ce R),.lst ((nxt p R p.cm.length).map rmD)]) (z13 ?_) rfl (z3f h) (by omega) (by simp) (show k6 _ _=true from z4x _);show W (z0R [some (pgD p),some (rmD R),none,none,none,none]) h _;unfold z0R;refine Y9 (.ref h.length) [some (pgD p),some (rmD R),.(r h.length),none,none,none] (fn_h (ds:=[pgD p,rmD R]) (ac_h (Z6 rfl) (ac_h (Z6 rfl) rfl)) rfl (zj4 g hl)) rfl ?_;refine z3Y (xs:=[]) (by simp) (λh=>rfl) ?_;rw[K10];show W (Z3 _ _ [some (pgD p),some (rmD R),.(r h.length),.(r ((h++[O.dK (hk p.ce R)]).length)),none,none]) (h++[.dK (hk p.ce R),.lst []]) _;rw[show (h++[O.dK (hk p.ce R)]).length=h.length+1 by simp];refine z2U (λγ h1=>∃a b,γ=[some (pgD p),some (rmD R),.(r h.length),.(r (h.length+1)),a,b]/\h1=h++[.dK (hk p.ce R),.lst ((nxt p R p.cm.length).map rmD)]) ?_ ?_
 ·refine z0U (λt γ h1=>∃a b,γ=[some (pgD p),some (rmD R),.(r h.length),.(r (h.length+1)),a,b]/\h1=h++[.dK (hk p.ce R),.lst ((nxt p R t).map rmD)]) (λ_ _=>False) ?_;have src:zf8 (e2 fIx (eVar 0) (λ_=>pure (.int 1))) [some (pgD p),some (rmD R),.(r h.length),.(r (h.length+1)),none,none] (h++[.dK (hk p.ce R),.lst []])=.ok (.con (z41 (p.cm.map cmD))) (h++[.dK (hk p.ce R),.lst []]):=by
   unfold zf8;rw[M.bind_ok (ac_h (e2_h (Z6 rfl) (y:=.int 1) rfl pg1) rfl)];rfl
  refine W.of src ⟨⟨_,_,rfl,rfl⟩,λ_ _ _ _=>trivial,?_,?_,λ_ _ q=>q.elim⟩
  ·rintro t d γ h1 hd ⟨a1,a2,rfl,rfl⟩;obtain⟨x,ex,rfl⟩:=z8v (show (z41 (p.cm.map cmD))[t]?=some d from hd);rw[K8]at ex;obtain⟨c,ec,rfl⟩:=K06.mp ex;have lt:=(K7.mp ec).1;have gc:=g.gc c (K08 ec);have e1:(h++[O.dK (hk p.ce R),O.lst ((nxt p R t).map rmD)])[h.length]?=some (.dK (hk p.ce R)):=by simp
   have e3:(h++[O.dK (hk p.ce R),O.lst ((nxt p R t).map rmD)])[h.length+1]?=.(l (((nxt p R t).map rmD))):=by simp
   refine W.of (a:=[some (pgD p),some (rmD R),.(r h.length),.(r (h.length+1)),.(i (t:Nat)),some (cmD c)]) rfl ?_;refine J6 (c.ts.all (z0E (nms p.ce) R)) (cv_h (fn_h (ds:=[cmD c,.ref h.length]) (ac_h (Z6 rfl) (ac_h (Z6 rfl) rfl)) rfl (zN3 e1 gc hl))) ?_;have en:nxF p R t=if c.ts.all (z0E (nms p.ce) R)=true then some (beh p R t c) else none:=by unfold nxF;rw[ec]
   by_cases q:c.ts.all (z0E (nms p.ce) R)=true
   ·rw[if_pos q]at en ⊢;refine z0h (z10 rfl e3 (by have:=@z8g p R t;have:=g.c8;simp;omega) (v:=rmD (beh p R t c)) (fn_h (ds:=[pgD p,.int (t:Nat),.ref h.length]) (ac_h (Z6 rfl) (ac_h (Z6 rfl) (ac_h (Z6 rfl) rfl))) rfl (zh5 g hl ec e1)) (J4 (Y6 ⟨_,_,rfl,?_⟩)));rw[K1i _ _ (by omega),show h.length+1 - h.length=1 by omega,z4V,en];simp
   ·rw[if_neg q]at en ⊢;refine J4 (Y6 ⟨_,_,rfl,?_⟩);rw[z4V,en];simp
  ·rintro γ h1 ⟨a1,a2,rfl,rfl⟩;refine⟨_,_,rfl,?_⟩;show _++[_,O.lst ((nxt p R (z41 (p.cm.map cmD)).length).map _)]=_;unfold z41;simp
 ·rintro γ h1 ⟨a1,a2,rfl,rfl⟩;exact w8 (.ref (h.length+1)) (Z6 rfl) ⟨rfl,rfl⟩
def fstR (p:Pg):List Int:=p.ce.map (·.f)++if p.kp=true then [-1] else []
def cmN (p:Pg):List Str:=p.cm.map (·.x)
def askH (p:Pg) (R:List Int):Ask->Bool
 | .test t=>z0E (nms p.ce) R t
 | .can x=>match p.cm[(cmN p).idxOf x]? with
  | some c=>c.ts.all (z0E (nms p.ce) R)
  | none=>false
 | .last x=>decide (R[p.ce.length]?=some ((cmN p).idxOf x:Int))
theorem z79:∀x y:Ask,askD x=askD y->x=y:=by
 rintro(t|x|x) (u|y|y) e
 ·exact congrArg _ (z8z _ _ e)
 ·simp[askD,tsD]at e
 ·simp[askD,tsD]at e
 ·simp[askD,tsD]at e
 ·simp only[askD,D.tup.injEq,K4c,D.str.injEq,and_true]at e;rw[e.2]
 ·simp only[askD,D.tup.injEq,K4c,D.str.injEq,and_true]at e;exact absurd e.1 (by decide +kernel)
 ·simp[askD,tsD]at e
 ·simp only[askD,D.tup.injEq,K4c,D.str.injEq,and_true]at e;exact absurd e.1 (by decide +kernel)
 ·simp only[askD,D.tup.injEq,K4c,D.str.injEq,and_true]at e;rw[e.2]
theorem z99:∀x y:List Ask,roD x=roD y->x=y:=λx y e=>by
 simp only[roD,D.tup.injEq]at e;exact(K9z (λa b q=>z79 a b q)).mp e
theorem zy6:∀x y:Str×List (List Ask),mkD x=mkD y->x=y:=by
 rintro⟨x,l⟩ ⟨y,m⟩ e;simp only[mkD,D.tup.injEq,K4c,D.str.injEq,and_true]at e;rw[e.1,(K9z (λa b q=>z99 a b q)).mp e.2]
theorem zj9 {x:Str}(hx:x∈cmN p):∃c,p.cm[(cmN p).idxOf x]?=some c/\c∈p.cm:=by
 have lt:=K33.mpr hx;unfold cmN at lt ⊢;rw[K4]at lt;exact⟨_,K5 lt,K30 lt⟩
theorem zb9 {γ:G}{h:AH}(c8:p.cm.length<=8) (e0:γ[0]?=some (some (pgD p))):z0C [none] (z0J (e2 fIx (eVar 0) (λ_=>pure (.int 1)))) (gN 0) (λ_=>pure true) (e2 fIx (eVar 0) (λ_=>pure (.int 0))) γ h=.ok (.ref h.length) (h++[.lst ((cmN p).map .str)]):=by
 refine(z1A (src:=.con (p.cm.map cmD)) (λ_=>true) (λd=>match d with|.tup (v::_)=>v|_=>.non) (z0Z (e2_h (Z6 e0) (y:=.int 1) rfl pg1)) (λ_=>trivial) (by simp[Src.items];omega) λd hd=>?_).trans ?_
 ·obtain⟨c,_,rfl⟩:=K0r.mp (show d∈p.cm.map cmD from hd);exact⟨[some (cmD c)],λh=>rfl,λj=>rfl,λ_ j=>e2_h (Z6 rfl) (y:=.int 0) rfl (by unfold cmD;rw[ix0];rfl)⟩
 ·rw[filter_tt];show Res.ok _ (h++[.lst ((p.cm.map cmD).map _)])=_;unfold cmN;rw[K16,K16];rfl
theorem eq_S {h:AH}(a b:Str):eqN 24 h (.str a) (.str b)=some (decide (a=b)):=z9F a b
theorem so_h {a:Ask}{h:AH}(g:GP p) (hl:R.length=p.ce.length+if p.kp=true then 1 else 0) (ga:GA p a):z4T [pgD p,askD a,rmD R] h=.ok (.bl (askH p R a)) h:=by
 have le:p.ce.length<=R.length:=by omega
 have g8:=g.c8;have key:W (runF 7 z3u [pgD p,askD a,rmD R]) h λd h'=>d=.bl (askH p R a)/\∃j,h'=h++j:=by
  refine z23 ?_;show W (z3u [some (pgD p),some (askD a),some (rmD R),none,none,none,none]) h _;unfold z3u;refine Y9 (.ref h.length) [some (pgD p),some (askD a),some (rmD R),.(r h.length),none,none,none] (fn_h (ds:=[pgD p,rmD R]) (ac_h (Z6 rfl) (ac_h (Z6 rfl) rfl)) rfl (zj4 g le)) rfl ?_;have hd:∀J:AH,(h++[O.dK (hk p.ce R)]++J)[h.length]?=some (.dK (hk p.ce R)):=λJ=>by simp
  have two:∀(w x:Str),x∈cmN p->(∀v,(w = "can"/\v=askH p R (.can x))\/(¬ w = "can"/\R[p.ce.length]?≠none/\R.length=p.ce.length+1/\v=askH p R (.last x))->W (Z3 (sIf (λγ=>do let d <- e2 (fEq false) (j7 fLen (Z1 (eVar 1) aNil)) (λ_=>pure (.int 3)) γ;asB d) (Z3 (sRet (eFn 2 z0q (Z1 (eVar 1) (Z1 (eVar 3) aNil)))) bNil) bNil) (Z3 (sAsg (eVar 1) (gT 2 (z01 (gN 4) (z01 (gN 5) z33)))) (Z3 (sAsg (eM1 z09 (z0C [none] (z0J (e2 fIx (eVar 0) (λ_=>pure (.int 1)))) (gN 0) (λ_=>pure true) (e2 fIx (eVar 0) (λ_=>pure (.int 0)))) (eVar 5)) (gN 6)) (Z3 (sIf (λγ=>do let d <- e2 (fEq false) (eVar 4) (λ_=>pure (.str "can")) γ;asB d) (Z3 (sRet (eFn 2 z0K (Z1 (e2 fIx (e2 fIx (eVar 0) (λ_=>pure (.int 1))) (eVar 6)) (Z1 (eVar 3) aNil)))) bNil) bNil) (Z3 (sRet (e2 (fEqX false) (e2 fIx (eVar 2) (eNeg (λ_=>pure (.int 1)))) (eVar 6))) bNil)))) [some (pgD p),.(g [.str w,.str x]),some (rmD R),.(r h.length),none,none,none]) (h++[.dK (hk p.ce R)]) (runW λd h'=>d=.bl v/\∃j,h'=h++j)):=λw x hx v hv=>by
   refine J6 false (cb_h (e2_h (j8 (Z6 rfl) (by rw[z0o];rfl)) (y:=.int 3) rfl (by rw[z4P];rfl))) ?_;rw[if_neg (by decide)];refine J4 (Y9 (.tup [.str w,.str x]) [some (pgD p),.(g [.str w,.str x]),some (rmD R),.(r h.length),.(s w),.(s x),none] (Z6 rfl) rfl ?_);have en:(h++[O.dK (hk p.ce R)]++[O.lst ((cmN p).map .str)])[(h++[O.dK (hk p.ce R)]).length]?=.(l (((cmN p).map .str))):=z29;refine Y9 (.int ((cmN p).idxOf x:Nat)) [some (pgD p),.(g [.str w,.str x]),some (rmD R),.(r h.length),.(s w),.(s x),.(i (((cmN p).idxOf x:Nat)))] (h1:=h++[.dK (hk p.ce R)]++[.lst ((cmN p).map .str)]) ?_ rfl ?_
   ·show (z0C _ _ _ _ _ _ >>= λo=>z22 o >>= λn=>eVar 5 _ >>= λy=>z09 n y) (h++[O.dK (hk p.ce R)])=_;rw[M.bind_ok (zb9 g8 rfl),M.bind_ok (z2C en),M.bind_ok (Z6 rfl)];exact z6B (enc:=.str) eq_S (z3n _) (by unfold cmN;rw[K4];omega) en hx
   obtain⟨c,ec,cm⟩:=zj9 hx;rcases hv with ⟨rfl,rfl⟩|⟨nw,nn,rl,rfl⟩
   ·refine J6 true (cb_h (e2_h (Z6 rfl) (y:=.str "can") rfl (z42 (by decide +kernel)))) ?_;rw[if_pos rfl];refine z0h (w8 _ (fn_h (ds:=[cmD c,.ref h.length]) (ac_h (e2_h (x:=.tup (p.cm.map cmD)) (e2_h (Z6 rfl) (y:=.int 1) rfl pg1) (Z6 rfl) (by rw[ix_tup (Y7 (by rw[K8,ec];rfl))];rfl)) (ac_h (Z6 rfl) rfl)) rfl (zN3 (hd _) (g.gc c cm) le)) ⟨?_,_,by rw[K10]⟩);show D.bl _=D.bl (match p.cm[(cmN p).idxOf x]? with
     | some c=>c.ts.all (z0E (nms p.ce) R)
     | none=>false)
    rw[ec]
   ·refine J6 false (cb_h (e2_h (Z6 rfl) (y:=.str "can") rfl (z42 (decide_eq_false nw)))) ?_;rw[if_neg (by decide)];obtain⟨v,ev⟩:∃v,R[p.ce.length]?=some v:=⟨_,K5 (by omega)⟩;have el:fIx (rmD R) (.int (-1)) (h++[O.dK (hk p.ce R)]++[O.lst ((cmN p).map .str)])=.ok (.int v) (h++[O.dK (hk p.ce R)]++[O.lst ((cmN p).map .str)]):=by
     unfold rmD;have:atI (R.map D.int) (-1)=.(i v):=by
      unfold atI ixN;rw[K4,rl];rw[if_neg (by decide),if_pos (by omega),show (-1+((p.ce.length+1:Nat):Int)).toNat=p.ce.length by omega,Option.bind_some,K8,ev];rfl
     rw[ix_tup this];rfl
    refine J4 (w8 _ (e2_h (e2_h (Z6 rfl) (y:=.int (-1)) rfl el) (Z6 rfl) (by rw[z3Q];rfl)) ⟨?_,_,by rw[K10]⟩);show D.bl _=D.bl (decide (R[p.ce.length]?=some ((cmN p).idxOf x:Int)));rw[ev];simp
  cases a with
  | test t =>
   refine J6 true (cb_h (e2_h (j8 (Z6 (d:=tsD t) rfl) (by unfold tsD;rw[z0o];rfl)) (y:=.int 3) rfl (by rw[z4P];rfl))) ?_;rw[if_pos rfl];exact z0h (w8 _ (fn_h (ds:=[tsD t,.ref h.length]) (ac_h (Z6 rfl) (ac_h (Z6 rfl) rfl)) rfl (zl0 (by simp) ga le)) ⟨rfl,_,rfl⟩)
  | can x=>exact two "can" x ga _ (.inl ⟨rfl,rfl⟩)
  | last x =>
   have rl:R.length=p.ce.length+1:=by rw[hl,if_pos ga.1]
   exact two "last" x ga.2 _ (.inr ⟨by decide +kernel,by rw[K5 (by omega)];simp,rl,rfl⟩)
 obtain⟨d,h1,e1,rfl,j,rfl⟩:=key;exact z0H e1 rfl
def worn (p:Pg) (R:List Int):List Str:=z2R ((p.ma.filter λm=>m.2.any λl=>l.all (askH p R)).map (·.1))
theorem zU5 {l:List Ask}{h:AH}(g:GP p) (hl:R.length=p.ce.length+if p.kp=true then 1 else 0) (l8:l.length<=8) (ga:∀a∈l,GA p a):z3q [pgD p,roD l,rmD R] h=.ok (.bl (l.all (askH p R))) h:=by
 refine z2q (z13 ?_) rfl;show W (z3k [some (pgD p),some (roD l),some (rmD R)]) h _;unfold z3k;refine w8 (.bl ((l.map (askH p R)).all id)) (zO5 ?_) ⟨?_,rfl⟩
 ·refine(z3i (h1:=h) (src:=.con (l.map askD)) askD z79 (λ_=>true) (λa=>.bl (askH p R a)) (z0Z (Z6 rfl)) rfl (λ_=>trivial) (by omega) λa ha=>⟨[some (pgD p),some (rmD R),some (askD a)],λh=>rfl,λj=>rfl,λ_ j=>?_⟩).trans ?_
  ·exact fn_h (ds:=[pgD p,askD a,rmD R]) (ac_h (Z6 rfl) (ac_h (Z6 rfl) (ac_h (Z6 rfl) rfl))) rfl (so_h g hl (ga a ha))
  ·rw[filter_tt,K16];rfl
 ·rw[Z05];rfl
theorem zt5 {h:AH}(g:GP p) (hl:R.length=p.ce.length+if p.kp=true then 1 else 0):z2n [pgD p,rmD R] h=.ok (.tup ((worn p R).map .str)) h:=by
 have gm:=g.gm;have l8:=gm.l8;refine z2q (z13 ?_) (by simp only[y8];exact z0w _);show W (z2f [some (pgD p),some (rmD R)]) h _;unfold z2f;obtain⟨ss,es⟩:∃ss,ss=(p.ma.filter λm=>m.2.any λl=>l.all (askH p R)).map (·.1):=⟨_,rfl⟩;have ls:ss.length<=8:=by
  have:=K3l (λm:Str×List (List Ask)=>m.2.any λl=>l.all (askH p R)) p.ma;rw[es,K4];omega
 refine w8 (.tup ((worn p R).map .str)) (z0H (j:=[.lst (ss.map .str),.lst ((z2R ss).map .str)]) ?_ (by simp only[y8];exact z0w _)) ⟨rfl,rfl⟩;refine j8 (j8 (h1:=h++[.lst (ss.map .str)]) ?_ (z8S (ss:=ss) (i:=h.length) (by simp) (by omega))) ?_
 ·refine(z3i (h1:=h) (src:=.con (p.ma.map mkD)) mkD zy6 (λm=>m.2.any λl=>l.all (askH p R)) (λm=>.str m.1) (z0Z (e2_h (Z6 rfl) (y:=.int 2) rfl pg2)) rfl (λ_=>trivial) (by omega) λm hm=>⟨[some (pgD p),some (rmD R),.(s m.1),.(g (m.2.map roD))],λh=>rfl,λj=>?_,λ_ j=>Z6 rfl⟩).trans ?_
  ·refine cv_h (b:=m.2.any λl=>l.all (askH p R)) ?_;rw[show (m.2.any λl=>l.all (askH p R))=((m.2.map λl=>l.all (askH p R)).any id) by rw[List.any_map];rfl];refine zU6 ((z3i (h1:=h++j) (src:=.con (m.2.map roD)) roD z99 (λ_=>true) (λl=>.bl (l.all (askH p R))) (z0Z (Z6 rfl)) rfl (λ_=>trivial) (by have:=gm.rl m hm;omega) λl ml=>⟨[some (pgD p),some (rmD R),some (roD l)],λh=>rfl,λj=>rfl,λ_ j=>?_⟩).trans ?_)
   ·exact fn_h (ds:=[pgD p,roD l,rmD R]) (ac_h (Z6 rfl) (ac_h (Z6 rfl) (ac_h (Z6 rfl) rfl))) rfl (zU5 g hl (gm.al m hm l ml) (gm.ga m hm l ml))
   ·rw[filter_tt,K16];rfl
  ·rw[es,K16];rfl
 ·rw[z3I (xs:=(z2R ss).map .str) (by simp)];rw[K10];unfold worn;rw[es];rfl
theorem zn7 (g:GP p):z1w [pgD p] h=.ok (rmD (fstR p)) h:=by
 refine z2q (z13 ?_) (by unfold rmD;simp only[y8];exact z0Q _);show W (z1t [some (pgD p),none]) h _;unfold z1t;have l4:=g.l4;refine Y9 (rmD (p.ce.map (·.f))) [some (pgD p),some (rmD (p.ce.map (·.f)))] (zq6 ?_ (z0Q _)) rfl ?_
 ·refine(z1A (src:=.con (p.ce.map ceD)) (λ_=>true) (λd=>match d with|.tup (_::_::v::_)=>v|_=>.non) (z0Z (e2_h (Z6 rfl) (y:=.int 0) rfl pg0)) (λ_=>trivial) (by simp[Src.items];omega) λd hd=>?_).trans ?_
  ·obtain⟨c,_,rfl⟩:=K0r.mp (show d∈p.ce.map ceD from hd);exact⟨[.(s c.x),.(i c.sz),.(i c.f)],λh=>rfl,λj=>rfl,λ_ j=>Z6 rfl⟩
  ·rw[filter_tt,K16];show Res.ok _ (h++[.lst ((p.ce.map ceD).map _)])=_;rw[K16];rfl
 ·refine w8 (rmD (fstR p)) (z9N (cv_h (e2_h (Z6 rfl) (y:=.int 3) rfl pg3)) ?_) ⟨rfl,rfl⟩;unfold fstR;cases ek:p.kp with
  | true =>
   rw[if_pos rfl,if_pos rfl];have st:z5W (eVar 1) (Z1 (eNeg (λ_=>pure (.int 1))) aNil) [some (pgD p),some (rmD (p.ce.map (·.f)))] h=.ok ((p.ce.map (·.f)).map .int++[.int (-1)]) h:=by
    unfold z5W;rw[M.bind_ok (Z6 (d:=rmD (p.ce.map (·.f))) rfl)];unfold rmD;dsimp only;rw[M.bind_ok (ac_h (ds:=[]) (d:=.int (-1)) rfl rfl)];rfl
   unfold eTup;rw[M.bind_ok st,if_pos (K0x (show _<=5 by simp;omega) (by decide))];unfold rmD;rw[K0z];rfl
  | false =>
   rw[if_neg (by decide),if_neg (by decide),K2c];exact Z6 rfl
end
theorem z7s {i n:Nat}(h2:i<n):z08 [.int i,.int 0,.int n]=pure (.bl true):=by
 have h1:(0:Int)<=i:=by omega
 have h3:(i:Int)<n:=by omega
 show cln (runF 3 x6 [.int i,.int 0,.int n])=_;rw[z6b (d:=.bl true),z4O];show x6 [.(i i),.(i 0),.(i n)]=_;unfold x6;refine zA6 _ ?_;simp only[K0a,K00,z1u,z17,decide_eq_true h1,decide_eq_true h3,e3,eAnd,eIsi,eNot,eVar,if_true,z6c,zr1,z91];rfl
theorem z8C {xs:List D}{m n:Nat}(h0:m<=xs.length) (h1:xs.length<=n):y9 [.tup xs,.int m,.int n]=pure (.bl true):=by
 have h2:(xs.length:Int)<=n:=by omega
 have h3:(m:Int)<=xs.length:=by omega
 show cln (runF 3 z0P [.tup xs,.int m,.int n])=_;rw[z6b (d:=.bl true),z4O];show z0P [.(g xs),.(i m),.(i n)]=_;unfold z0P;refine zA6 _ ?_;simp only[K0a,K00,Z1,aNil,z1u,z17,decide_eq_true h2,decide_eq_true h3,e3,eAnd,j7,eIsi,eVar,if_true,zr4,zr1,z0o];rfl
theorem zs0 {xs:List D}{n:Nat}(h1:xs.length<=n):y9 [.tup xs,.int 0,.int n]=pure (.bl true):=z8C (m:=0) (K35 _) h1
def box:List (Int×Nat)->List (List Int)
 | []=>[[]]
 | q::r=>(K0h q.2).flatMap λ(i:Nat)=>(box r).map λR=>(q.1+(i:Int))::R
def prN:List (Int×Nat)->Nat
 | []=>1
 | q::r=>q.2 * prN r
def InB:List (Int×Nat)->List Int->Prop
 | [],[]=>True
 | q::r,v::R=>q.1<=v/\v<q.1+(q.2:Int)/\InB r R
 | _,_=>False
theorem z7v {α:Type}{g:Nat->List α}{m:Nat}(e:∀i,(g i).length=m):∀n,((K0h n).flatMap g).length=n * m
 | 0=>by simp
 | n+1=>by rw[K55,List.flatMap_append,K04,z7v e n,List.flatMap_singleton,e,Nat.succ_mul]
theorem z98:∀l:List (Int×Nat),(box l).length=prN l
 | []=>rfl
 | q::r=>by
  unfold box prN;rw[z7v (m:=prN r)];intro i;rw[K4,z98 r]
theorem z9D:∀{l:List (Int×Nat)}{R:List Int},InB l R->R∈box l
 | [],[],_=>by simp[box]
 | q::r,v::R,h=>by
  obtain⟨h1,h2,h3⟩:=h;unfold box;rw[List.mem_flatMap];refine⟨(v - q.1).toNat,by rw[K29];omega,K0r.mpr ⟨R,z9D h3,?_⟩⟩;rw[show q.1+((v - q.1).toNat:Int)=v by omega]
 | [],_::_,h=>h.elim
 | _::_,[],h=>h.elim
theorem InB.len:∀{l:List (Int×Nat)}{R:List Int},InB l R->R.length=l.length
 | [],[],_=>rfl
 | _::_,_::_,h=>by simp[InB.len h.2.2]
 | [],_::_,h=>h.elim
 | _::_,[],h=>h.elim
theorem InB.app:∀{l:List (Int×Nat)}{R:List Int}{t:List (Int×Nat)}{S:List Int},InB l R->InB t S->InB (l++t) (R++S)
 | [],[],_,_,_,h=>h
 | _::_,_::_,_,_,a,h=>⟨a.1,a.2.1,InB.app a.2.2 h⟩
 | [],_::_,_,_,h,_=>h.elim
 | _::_,[],_,_,h,_=>h.elim
def dimC (c:Ce):Int×Nat:=(0,c.sz.toNat)
theorem InB.map {f:Ce->Int}:∀{ce:List Ce},(∀c∈ce,0<=f c/\f c<c.sz)->InB (ce.map dimC) (ce.map f)
 | [],_=>trivial
 | c::ce,h=>⟨(h c K0u).1,by have:=h c K0u;show f c<0+(c.sz.toNat:Int);omega,InB.map λx hx=>h x (K0o _ hx)⟩
theorem zH4 {t:List (Int×Nat)}:∀{ce:List Ce}{R:List Int},(nms ce).Nodup->InB (ce.map dimC++t) R->∀q∈ce,0<=atR (nms ce) R q.x/\atR (nms ce) R q.x<q.sz
 | [],R,_,_,q,hq=>by cases hq
 | c::ce,[],_,h,_,_=>h.elim
 | c::ce,v::R,nd,h,q,hq=>by
  obtain⟨h1,h2,h3⟩:=h;have nd':(c.x::nms ce).Nodup:=nd;rw[K6p]at nd';rcases K0c.mp hq with rfl|hq
  ·have e:atR (nms (q::ce)) (v::R) q.x=v:=by simp[atR,nms,K6r]
   rw[e];have h1':(0:Int)<=v:=h1;have h2':v<0+(q.sz.toNat:Int):=h2;omega
  ·have ne:c.x≠q.x:=λe=>nd'.1 (by rw[e];exact K0r.mpr ⟨q,hq,rfl⟩);have e1:atR (nms (c::ce)) (v::R) q.x=atR (nms ce) R q.x:=by
    unfold atR nms;rw[K0i,K6r,show (c.x==q.x)=false from beq_eq_false_iff_ne.mpr ne];rfl
   rw[e1];exact zH4 nd'.2 h3 q hq
def dims (p:Pg):List (Int×Nat):=p.ce.map dimC++if p.kp=true then [(-1,p.cm.length+1)] else []
section
variable {p:Pg}{R:List Int}
def GR (p:Pg) (R:List Int):Prop:=InB (dims p) R
theorem GR.len (r:GR p R):R.length=p.ce.length+if p.kp=true then 1 else 0:=by
 rw[InB.len r];unfold dims;rw[K04,K4];split<;>rfl
theorem GR.le (r:GR p R):p.ce.length<=R.length:=by rw[r.len];omega
theorem zL2 (g:GP p):GR p (fstR p):=by
 unfold GR dims fstR;refine InB.app (InB.map λc hc=>⟨(g.cs c hc).2.2.1,(g.cs c hc).2.2.2⟩) ?_;split
 ·exact⟨Int.le_refl _,by show (-1:Int) < -1+((p.cm.length+1:Nat):Int);omega,trivial⟩
 ·trivial
theorem zM6 {k:Nat}{c:Cm}(g:GP p) (r:GR p R) (ec:p.cm[k]?=some c):GR p (beh p R k c):=by
 unfold GR dims beh;refine InB.app (InB.map λq hq=>?_) ?_
 ·unfold newV;have s:=(g.cs q hq).1;split
  ·exact⟨K3p _ (by omega),K32 _ s⟩
  ·exact zH4 g.nd r q hq
 ·have lt:=(K7.mp ec).1;split
  ·exact⟨by show (-1:Int)<=(k:Int);omega,by show (k:Int) < -1+((p.cm.length+1:Nat):Int);omega,trivial⟩
  ·trivial
theorem zT4 {k:Nat}{S:List Int}(g:GP p) (r:GR p R) (e:nxF p R k=some S):GR p S:=by
 unfold nxF at e;split at e
 ·rename_i c ec;split at e
  ·cases e;exact zM6 g r ec
  ·cases e
 ·cases e
theorem zl6 {n:Nat}(g:GP p) (r:GR p R):∀S∈nxt p R n,GR p S:=λS hS=>by
 obtain⟨k,_,e⟩:=K5f.mp hS;exact zT4 g r e
structure GL (p:Pg) (L:List (List Int)):Prop where
 nd:L.Nodup
 inn:∀R∈L,GR p R
theorem GL.le {L:List (List Int)}(b:prN (dims p)<=40) (l:GL p L):L.length<=40:=by
 have:=List.Nodup.length_le_of_subset l.nd (λR hR=>z9D (l.inn R hR));rw[z98]at this;omega
theorem GL.stp {L:List (List Int)}(l:GL p L) (r:GR p R):GL p (stp L R):=by
 unfold FT.stp;split
 ·exact l
 ·rename_i q;refine⟨?_,λS hS=>?_⟩
  ·rw[K21];refine⟨l.nd,by simp,λa ha b hb=>?_⟩;rw[K0k]at hb;subst hb;exact λe=>q (e ▸ ha)
  ·rcases K0n.mp hS with z|z
   ·exact l.inn S z
   ·rw[K0k]at z;subst z;exact r
theorem GL.room {L:List (List Int)}(b:prN (dims p)<=40) (l:GL p L) (r:GR p R):R∈L\/L.length<40:=by
 by_cases q:R∈L
 ·exact .inl q
 ·have:=(l.stp r).le b;unfold FT.stp at this;rw[if_neg q,K04,K1b]at this;exact .inr (by omega)
def stL (L:List (List Int)) (rs:List (List Int)):List (List Int):=rs.foldl stp L
def lds (L:List (List Int)):List (List Int)->List Nat
 | []=>[]
 | r::rs=>(stp L r).idxOf r::lds (stp L r) rs
theorem zo9 (L:List (List Int)) (R:List Int):L <+: stp L R:=by
 unfold stp;split
 ·exact K4e
 ·exact K9y _ _
theorem z2F:∀(rs L:List (List Int)),L <+: stL L rs
 | [],L=>K4e
 | r::rs,L=>(zo9 L r).trans (z2F rs (stp L r))
theorem z6C:∀{rs L:List (List Int)},GL p L->(∀S∈rs,GR p S)->GL p (stL L rs)
 | [],L,l,_=>l
 | r::rs,L,l,h=>z6C (rs:=rs) (l.stp (h r K0u)) λS hS=>h S (K0o _ hS)
theorem zh9 (L rs:List (List Int)) (r:List Int):stL L (rs++[r])=stp (stL L rs) r:=by
 unfold stL;rw[K5w];rfl
theorem z6S:∀(rs L:List (List Int)) (r:List Int),lds L (rs++[r])=lds L rs++[(stp (stL L rs) r).idxOf r]
 | [],L,r=>rfl
 | x::rs,L,r=>by
  show _::lds (stp L x) (rs++[r])=_;rw[z6S rs];rfl
theorem z5Z:∀(rs L:List (List Int)),(lds L rs).length=rs.length
 | [],_=>rfl
 | x::rs,L=>by
  show (lds (stp L x) rs).length+1=_;rw[z5Z rs,K07]
theorem z8s:∀(rs L:List (List Int)),∀x∈lds L rs,x<(stL L rs).length
 | [],_,x,h=>by cases h
 | r::rs,L,x,h=>by
  rcases K0c.mp h with rfl|h
  ·exact K0j (K33.mpr z4r) (z2F rs (stp L r)).length_le
  ·exact z8s rs (stp L r) x h
def lay1 (p:Pg) (s:List (List Int)×List (List Nat)):List (List Int)×List (List Nat):=match s.1[s.2.length]? with
 | none=>s
 | some R=>(stL s.1 (nxt p R p.cm.length),s.2++[setN (lds s.1 (nxt p R p.cm.length))])
def layS (p:Pg):Nat->List (List Int)×List (List Nat)
 | 0=>([fstR p],[])
 | t+1=>lay1 p (layS p t)
structure LI (p:Pg) (s:List (List Int)×List (List Nat)):Prop where
 gl:GL p s.1
 le:s.2.length<=s.1.length
 z0:s.1[0]?=some (fstR p)
 rise:∀l∈s.2,l.Pairwise (·<·)
 lt:∀l∈s.2,∀x∈l,x<s.1.length
theorem z3z {α:Type}{L M:List α}{i:Nat}{x:α}(h:L <+: M) (e:L[i]?=some x):M[i]?=some x:=by
 obtain⟨t,rfl⟩:=h;rw[K0w (K7.mp e).1,e]
theorem LI.one {s:List (List Int)×List (List Nat)}(g:GP p) (l:LI p s):LI p (lay1 p s):=by
 unfold lay1;split
 ·exact l
 ·rename_i R e;have lt:=(K7.mp e).1;have r:=l.gl.inn R (K08 e);have pre:=z2F (nxt p R p.cm.length) s.1;refine⟨z6C l.gl (zl6 g r),?_,z3z pre l.z0,λm hm=>?_,λm hm x hx=>?_⟩
  ·have:=pre.length_le;rw[K04,K1b];show _<=(stL s.1 _).length;omega
  ·rcases K0n.mp hm with z|z
   ·exact l.rise m z
   ·rw[K0k]at z;subst z;exact z2S _
  ·rcases K0n.mp hm with z|z
   ·exact K0j (l.lt m z x hx) pre.length_le
   ·rw[K0k]at z;subst z;exact z8s _ _ x (setN_mem.mp hx)
theorem LI.at (g:GP p):∀t,LI p (layS p t)
 | 0=>⟨⟨by simp[layS],λR hR=>by rw[K0k.mp hR];exact zL2 g⟩,by simp[layS],rfl,λl hl=>(by cases hl),λl hl=>(by cases hl)⟩
 | t+1=>(LI.at g t).one g
theorem z2g {t:Nat}(e:(layS p t).1.length<=(layS p t).2.length):∀d,layS p (t+d)=layS p t
 | 0=>rfl
 | d+1=>by
  show lay1 p (layS p (t+d))=_;rw[z2g e d];unfold lay1;rw[K1c e]
theorem z3N (g:GP p):∀t,(layS p t).2.length=t\/(layS p t).1.length=(layS p t).2.length
 | 0=>.inl rfl
 | t+1=>by
  by_cases c:(layS p t).1.length<=(layS p t).2.length
  ·rw[show layS p (t+1)=layS p t from z2g c 1];exact .inr (Nat.le_antisymm c (LI.at g t).le)
  ·rcases z3N g t with e|e
   ·left;show (lay1 p (layS p t)).2.length=t+1;unfold lay1;rw[K5 (by omega)];dsimp only;rw[K04,K1b,e]
   ·exact absurd (K3r e) c
theorem z4N (g:GP p) (b:prN (dims p)<=40):(layS p 40).1.length=(layS p 40).2.length:=by
 rcases z3N g 40 with e|e
 ·have:=(LI.at g 40).gl.le b;have:=(LI.at g 40).le;omega
 ·exact e
end
def HP (h:AH) (r s m:List D) (J:AH):AH:=h++(.lst r::.lst s::.lst m::J)
section
variable {h J:AH}{r s m x:List D}
theorem HP0:(HP h r s m J)[h.length]?=.(l r):=by unfold HP;simp
theorem HP1:(HP h r s m J)[h.length+1]?=.(l s):=by unfold HP;simp
theorem HP2:(HP h r s m J)[h.length+2]?=.(l m):=by unfold HP;simp
theorem HPJ (j:Nat):(HP h r s m J)[h.length+3+j]?=J[j]?:=by
 unfold HP;rw[K1h (by omega),show h.length+3+j - h.length=j+1+1+1 by omega];rfl
theorem HPs0:(HP h r s m J).set h.length (.lst x)=HP h x s m J:=by unfold HP;simp
theorem HPs1:(HP h r s m J).set (h.length+1) (.lst x)=HP h r x m J:=by unfold HP;simp
theorem HPs2:(HP h r s m J).set (h.length+2) (.lst x)=HP h r s x J:=by unfold HP;simp
theorem HPsJ (j:Nat) {o:O}:(HP h r s m J).set (h.length+3+j) o=HP h r s m (J.set j o):=by
 unfold HP;rw[K1i _ _ (by omega),show h.length+3+j - h.length=j+1+1+1 by omega];rfl
theorem zI9 {X:AH}:HP h r s m J++X=HP h r s m (J++X):=by unfold HP;simp
theorem zB4:(HP h r s m J).length=h.length+3+J.length:=by unfold HP;simp;omega
end
theorem z85 {me:G->M D}{γ:G}{h h1:AH}{i:Nat}{xs:List D}(e:me γ h=.ok (.ref i) h1) (q:h1[i]?=.(l xs)):z19 me γ h=.ok (.lst i xs) h1:=by
 have g:getL i h1=.ok xs h1:=by unfold getL;rw[q]
 unfold z19;rw[M.bind_ok e];dsimp only;rw[M.bind_ok g];rfl
theorem zP7 {me:G->M D}{mt:G->M Out}{γ:G}{h h1:AH}{a i:Nat}{xs ys:List D}{v:D}{Q:Out->AH->Prop}(ea:γ[a]?=some (.(r i))) (e0:h[i]?=.(l ys)) (ev:me γ h=.ok v h1) (e:h1[i]?=.(l xs)) (hl:xs.length<1000000) (z:W (mt γ) (h1.set i (.lst (xs++[v]))) Q):W (Z3 (z0I (eM1 w6 (eVar a) me)) mt γ) h Q:=by
 refine z6r (W.of (a:=.non) (h':=h1.set i (.lst (xs++[v]))) ?_ z);show (eVar a γ >>= λo=>z22 o >>= λn=>me γ >>= λy=>w6 n y) h=_;rw[M.bind_ok (Z6 ea),M.bind_ok (z2C e0),M.bind_ok ev,z7j e hl]
def mkR (p:Pg) (R:List Int):D:=.tup ((worn p R).map .str)
def layD (p:Pg) (s:List (List Int)×List (List Nat)):D:=.tup [.tup [.tup (stsD s.2),.tup ((s.1.take s.2.length).map (mkR p))],.tup (s.1.map rmD)]
theorem zu9 (p:Pg) (R:List Int) (n:Nat):y8 n (mkR p R)=true:=by unfold mkR;simp only[y8];exact z0w _
theorem zs2 (p:Pg) (s:List (List Int)×List (List Nat)) (n:Nat):y8 n (layD p s)=true:=by
 unfold layD stsD;simp only[y8,k6,K4j,K0f];exact⟨⟨q5 λa=>zG6 a,q5 λa=>zu9 p a n⟩,z4x _⟩
section
variable {p:Pg}{h:AH}
theorem zU2 (g:GP p) (b:prN (dims p)<=40):z68 [pgD p,.int 40] h=.ok (layD p (layS p 40)) h:=by
 have key:W (z7I [some (pgD p),.(i 40),none,none,none,none,none,none]) h (runW λa h'=>a=layD p (layS p 40)/\∃j,h'=h++j):=by
  unfold z7I;refine z3Y (xs:=[]) (by simp) (λh=>rfl) ?_;show W (Z3 _ _ [some (pgD p),.(i 40),.(r h.length),none,none,none,none,none]) (h++[.lst []]) _;refine z6r (W.of (a:=.int 0) (h':=h++[.lst [rmD (fstR p)]]) ?_ ?_)
  ·refine fn_h (ds:=[.ref h.length,rmD (fstR p),.int 40]) (ac_h (Z6 rfl) (ac_h (fn_h (ds:=[pgD p]) (ac_h (Z6 rfl) rfl) rfl (zn7 g)) (ac_h (Z6 rfl) rfl))) rfl ?_;have n:=z6P (h:=h++[.lst []]) (i:=h.length) (R:=fstR p) (L:=[]) (by simp) (.inr (by decide)) (by decide);rw[show stp [] (fstR p)=[fstR p] from if_neg (by simp)]at n;rw[n];simp
  refine z3Y (xs:=[]) (by simp) (λh=>rfl) ?_;refine z3Y (xs:=[]) (by simp) (λh=>rfl) ?_;rw[show (h++[O.lst [rmD (fstR p)]]).length=h.length+1 by simp,show (h++[O.lst [rmD (fstR p)]]++[O.lst []]).length=h.length+2 by simp,show h++[O.lst [rmD (fstR p)]]++[O.lst []]++[O.lst []]=HP h ((layS p 0).1.map rmD) (stsD (layS p 0).2) (((layS p 0).1.take 0).map (mkR p)) [] by unfold HP layS stsD;simp];show W (Z3 _ _ [some (pgD p),.(i 40),.(r h.length),.(r (h.length+1)),.(r (h.length+2)),none,none,none]) _ _;refine zz9 (m:=40) (λm γ h1=>∃(t:Nat) (a b d:Option D) (J:AH),t+m=40/\(layS p t).2.length=t/\γ=[some (pgD p),.(i 40),.(r h.length),.(r (h.length+1)),.(r (h.length+2)),a,b,d]/\h1=HP h ((layS p t).1.map rmD) (stsD (layS p t).2) (((layS p t).1.take t).map (mkR p)) J) (by decide) ⟨0,_,_,_,_,rfl,rfl,rfl,rfl⟩ ?_;rintro m γ h1 ⟨t,a1,a2,a3,J,tm,lt,rfl,rfl⟩;have li:=LI.at g t;have l40:=li.gl.le b;refine⟨decide (t<(layS p t).1.length),?_,?_⟩
  ·refine cb_h (e2_h (j8 (Z6 rfl) (z4B HP1)) (j8 (Z6 rfl) (z4B HP0)) ?_);rw[z91,z3s,lt,K4];show Res.ok (D.bl (decide ((t:Int)<((layS p t).1.length:Int)))) _=_;rw[show decide ((t:Int)<((layS p t).1.length:Int))=decide (t<(layS p t).1.length) by rw[decide_eq_decide];omega]
  by_cases c:t<(layS p t).1.length
  ·rw[if_pos (decide_eq_true c)];obtain⟨m',rfl⟩:∃m',m=m'+1:=⟨m - 1,by omega⟩;refine⟨m',rfl,?_⟩;obtain⟨R,eR⟩:∃R,(layS p t).1[t]?=some R:=⟨_,K5 c⟩;have gr:=li.gl.inn R (K08 eR);obtain⟨L,eL⟩:∃L,L=(layS p t).1:=⟨_,rfl⟩;obtain⟨S,eS⟩:∃S,S=(layS p t).2:=⟨_,rfl⟩;have el:layS p (t+1)=(stL L (nxt p R p.cm.length),S++[setN (lds L (nxt p R p.cm.length))]):=by
    show lay1 p (layS p t)=_;unfold lay1;rw[lt,eR,<- eL,<- eS]
   obtain⟨rs,ers⟩:∃rs,rs=nxt p R p.cm.length:=⟨_,rfl⟩;rw[<- ers]at el;rw[<- eS]at lt;rw[<- eL,<- eS];rw[<- eL]at eR c l40;have gL:GL p L:=eL ▸ li.gl;have r8:rs.length<=8:=by rw[ers];exact K0x (z8g _) g.c8
   have rin:∀S∈rs,GR p S:=by rw[ers];exact zl6 g gr
   refine Y9 (rmD R) [some (pgD p),.(i 40),.(r h.length),.(r (h.length+1)),.(r (h.length+2)),some (rmD R),a2,a3] (e2_h (Z6 rfl) (j8 (Z6 rfl) (z4B HP1)) (by rw[z3s,lt];exact ix_h HP0 (Y7 (by rw[K8,eR];rfl)))) rfl ?_;refine z3Y (xs:=[]) (by simp) (λh=>rfl) ?_;rw[zB4,zI9];show W (Z3 _ _ [some (pgD p),.(i 40),.(r h.length),.(r (h.length+1)),.(r (h.length+2)),some (rmD R),.(r (h.length+3+J.length)),a3]) _ _;refine z2U (λγ h1=>∃d,γ=[some (pgD p),.(i 40),.(r h.length),.(r (h.length+1)),.(r (h.length+2)),some (rmD R),.(r (h.length+3+J.length)),d]/\h1=HP h ((stL L rs).map rmD) (stsD S) ((L.take t).map (mkR p)) (J++[.lst (stD (lds L rs)),.lst (rs.map rmD)])) ?_ ?_
   ·refine z0U (λu γ h1=>∃d,γ=[some (pgD p),.(i 40),.(r h.length),.(r (h.length+1)),.(r (h.length+2)),some (rmD R),.(r (h.length+3+J.length)),d]/\h1=HP h ((stL L (rs.take u)).map rmD) (stsD S) ((L.take t).map (mkR p)) (J++[.lst (stD (lds L (rs.take u))),.lst (rs.map rmD)])) (λ_ _=>False) ?_;refine W.of (a:=.lst (h.length+3+(J.length+1)) (rs.map rmD)) (h':=HP h (L.map rmD) (stsD S) ((L.take t).map (mkR p)) (J++[.lst [],.lst (rs.map rmD)])) (z85 (fn_h (ds:=[pgD p,rmD R]) (ac_h (Z6 rfl) (ac_h (Z6 rfl) rfl)) rfl ?_) ?_) ⟨⟨_,rfl,rfl⟩,?_,?_,?_,λ_ _ q=>q.elim⟩
    ·rw[zB2 g gr.le,zB4,zI9,K04,K10,ers];rfl
    ·rw[HPJ];simp
    ·rintro u γ h1 ⟨d,rfl,rfl⟩;show (HP h _ _ _ _)[h.length+3+(J.length+1)]?=.(l (rs.map rmD));rw[HPJ];simp
    ·rintro u d γ h1 hd ⟨w,rfl,rfl⟩;have hd':(rs.map rmD)[u]?=some d:=hd;rw[K8]at hd';obtain⟨T,eT,rfl⟩:=K06.mp hd';have tk:rs.take (u+1)=rs.take u++[T]:=by rw[K27,eT];rfl
     have gT:=rin T (K08 eT);have gl1:GL p (stL L (rs.take u)):=z6C gL λS hS=>rin S (K98 hS);refine W.of (a:=[some (pgD p),.(i 40),.(r h.length),.(r (h.length+1)),.(r (h.length+2)),some (rmD R),.(r (h.length+3+J.length)),some (rmD T)]) rfl ?_;have gJ:∀(r:List D) (l:List D),(HP h r (stsD S) ((L.take t).map (mkR p)) (J++[.lst l,.lst (rs.map rmD)]))[h.length+3+J.length]?=.(l l):=λr l=>by rw[HPJ];simp
     refine zP7 rfl (gJ _ _) (v:=.int ((stp (stL L (rs.take u)) T).idxOf T:Nat)) (fn_h (ds:=[.ref h.length,rmD T,.int 40]) (ac_h (Z6 rfl) (ac_h (Z6 rfl) (ac_h (Z6 rfl) rfl))) rfl (z6P HP0 (gl1.room b gT) (gl1.le b))) (by rw[HPs0];exact gJ _ _) (by rw[z1Y,z5Z,K0e];omega) (Y6 ⟨_,rfl,?_⟩);rw[HPs0,HPsJ,z4w,tk,zh9,z6S];simp
    ·rintro γ h1 ⟨d,rfl,rfl⟩;refine⟨_,rfl,?_⟩;show HP h ((stL L (rs.take (rs.map rmD).length)).map rmD) _ _ (J++[.lst (stD (lds L (rs.take (rs.map rmD).length))),_])=_;rw[K4,K1g]
   ·rintro γ h1 ⟨d,rfl,rfl⟩;have gJ:∀(r s:List D) (l:List D),(HP h r s ((L.take t).map (mkR p)) (J++[.lst l,.lst (rs.map rmD)]))[h.length+3+J.length]?=.(l l):=λr s l=>by rw[HPJ];simp
    have ll:(setN (lds L rs)).length<64:=by
     have:=z71 (z8s rs L);have:=(z6C gL rin).le b;omega
    refine z10 rfl HP1 (by rw[z3s];omega) (v:=.tup (stD (setN (lds L rs)))) (fn_h (ds:=[.ref (h.length+3+J.length)]) (ac_h (Z6 rfl) rfl) rfl (z6v (gJ _ _ _) (by rw[z5Z];omega) ll)) ?_;rw[HPs1];refine z10 rfl HP2 (by rw[K4,K0e];omega) (v:=mkR p R) (fn_h (ds:=[pgD p,rmD R]) (ac_h (Z6 rfl) (ac_h (Z6 rfl) rfl)) rfl (zt5 g gr.len)) ?_;rw[HPs2];refine Y6 ⟨m',K01 _,t+1,_,_,_,J++[.lst (stD (lds L rs)),.lst (rs.map rmD)],by omega,by rw[el];simp[lt],rfl,?_⟩;rw[el];have tk:(stL L rs).take (t+1)=L.take t++[R]:=by
     obtain⟨X,eX⟩:=z2F rs L;rw[<- eX,K6o (by omega),K27,eR];rfl
    show HP h _ (stsD S++[.tup (stD (setN (lds L rs)))]) _ _=HP h _ (stsD (S++[setN (lds L rs)])) (((stL L rs).take (t+1)).map (mkR p)) _;rw[tk];unfold stsD;rw[K0z,K0z];rfl
  ·rw[if_neg (by rw[decide_eq_true_eq];exact c)];have es:layS p 40=layS p t:=by
    have:=z2g (p:=p) (t:=t) (by omega) m;rw[tm]at this;exact this
   have cl:(layS p t).1.length<=1000000:=by omega
   rw[es];refine w8 (h1:=HP h ((layS p t).1.map rmD) (stsD (layS p t).2) (((layS p t).1.take t).map (mkR p)) J) (layD p (layS p t)) ?_ ⟨rfl,_,rfl⟩;have:=zk0 (zk0 (j8 (Z6 (γ:=[some (pgD p),.(i 40),.(r h.length),.(r (h.length+1)),.(r (h.length+2)),a1,a2,a3]) (a:=3) rfl) (z3I (HP1 (h:=h) (r:=(layS p t).1.map rmD) (s:=stsD (layS p t).2) (m:=((layS p t).1.take t).map (mkR p)) (J:=J)))) (j8 (Z6 (a:=4) rfl) (z3I HP2))) (j8 (Z6 (a:=2) rfl) (z3I HP0));rw[this];unfold layD;rw[lt]
 show cln (runF 8 z7I [pgD p,.int 40]) h=_;obtain⟨o,h1,e1,e2⟩:=key;have:W (runF 8 z7I [pgD p,.int 40]) h λa h'=>a=layD p (layS p 40)/\∃j,h'=h++j:=z23 ⟨o,h1,e1,e2⟩;obtain⟨_,_,e3,rfl,j,rfl⟩:=this;exact z0H e3 (zs2 _ _ _)
end
theorem z9s {ce:List Ce}{R:List Int}{x:Str}(hx:x∈nms ce) (hl:ce.length<=R.length):R[(nms ce).idxOf x]?=some (atR (nms ce) R x):=by
 have h1:=K33.mpr hx;have h2:(nms ce).length=ce.length:=by unfold nms;simp
 unfold atR;rw[K5 (by omega)];rfl
theorem zq3 {R:List Int}{a:Nat}{v:Int}{h:AH}(e:R[a]?=some v):fIx (rmD R) (.int (a:Nat)) h=.ok (.int v) h:=by
 unfold rmD;rw[ix_tup (Y7 (by rw[K8,e];rfl))];rfl
section
variable {ce:List Ce}{R:List Int}{h:AH}{i:Nat}
theorem z6x (hl:ce.length<=1000):J8 [.tup (ce.map ceD)] h=.ok (.ref h.length) (h++[.lst ((nms ce).map .str)]):=by
 show cln (runF 1 J9 [.tup (ce.map ceD)]) h=_;refine z3m (j:=[.lst ((nms ce).map .str)]) (z13 ?_) rfl (z3f h) (K01 _) z29 (show k6 _ _=true from z0w _);show W (J9 [.(g (ce.map ceD))]) h _;unfold J9;refine w8 (.ref h.length) ?_ ⟨rfl,rfl⟩;refine(z1A (src:=.con (ce.map ceD)) (λ_=>true) (λd=>match d with|.tup (v::_)=>v|_=>.non) (z0Z (Z6 rfl)) (λ_=>trivial) (by simp[Src.items];omega) λd hd=>?_).trans ?_
 ·obtain⟨c,_,rfl⟩:=K0r.mp (show d∈ce.map ceD from hd);exact⟨[some (ceD c)],λh=>rfl,λj=>rfl,λ_ j=>e2_h (Z6 rfl) (y:=.int 0) rfl (by unfold ceD;rw[ix0];rfl)⟩
 ·rw[filter_tt];show Res.ok _ (h++[.lst ((ce.map ceD).map _)])=_;unfold nms;rw[K16,K16];rfl
theorem z8i {x:Str}(e:h[i]?=.(l (((nms ce).map .str)))) (hx:x∈nms ce) (hl:ce.length<=1000) {mo ma:G->M D}{γ:G}(eo:mo γ h=.ok (.ref i) h) (ea:ma γ h=.ok (.str x) h):eM1 z09 mo ma γ h=.ok (.int ((nms ce).idxOf x:Nat)) h:=by
 show (mo γ >>= λo=>z22 o >>= λn=>ma γ >>= λy=>z09 n y) h=_;rw[M.bind_ok eo,M.bind_ok (z2C e),M.bind_ok ea];exact z6B (enc:=.str) eq_S (z3n _) (by unfold nms;rw[K4];omega) e hx
theorem z9w {w:Wr}(e:h[i]?=.(l (((nms ce).map .str)))) (g:GW (nms ce) w) (hl:ce.length<=R.length) (h4:ce.length<=1000):z03 [wrD w,.ref i,rmD R] h=.ok (.int (wrth (nms ce) R w)) h:=by
 refine z2q (z13 ?_) rfl;show W (z0u [some (wrD w),.(r i),some (rmD R)]) h _;unfold z0u;cases w with
 | num n =>
  refine J6 false (cv_h (z1E (Z6 rfl) rfl)) ?_;rw[if_neg (by decide)];exact J4 (w8 _ (Z6 rfl) ⟨rfl,rfl⟩)
 | cell x n =>
  refine J6 true (cv_h (z1E (Z6 rfl) rfl)) ?_;rw[if_pos rfl];refine z0h (w8 (.int (atR (nms ce) R x+n)) (e2_h (x:=.int (atR (nms ce) R x)) (y:=.int n) (e2_h (Z6 rfl) (z8i e g h4 (Z6 rfl) (e2_h (x:=.tup [.str x,.int n]) (Z6 rfl) (y:=.int 0) rfl (by rw[ix0];rfl))) (zq3 (z9s g hl))) (e2_h (x:=.tup [.str x,.int n]) (Z6 rfl) (y:=.int 1) rfl (by rw[ix1];rfl)) (by rw[z2s];rfl)) ⟨rfl,rfl⟩)
theorem zn2 {k l:G->M Bool}{γ:G}{a b:Bool}(e1:k γ h=.ok a h) (e2:l γ h=.ok b h):cOr k l γ h=.ok (a||b) h:=by
 cases a with
 | true=>exact zF4 e1
 | false=>rw[zI2 e1,e2];rfl
theorem z3x {k l:G->M Bool}{γ:G}{a b:Bool}(e1:k γ h=.ok a h) (e2:l γ h=.ok b h):cAnd k l γ h=.ok (a&&b) h:=by
 cases a with
 | true=>rw[z9y e1,e2];rfl
 | false=>exact z8h e1
theorem z4n {ts:List Ts}{d0:D}{src:Src}(c0:y8 0 (.bl true)=true) (es:∀γ:G,γ[0]?=some (some d0)->orE (z0J (eVar 0)) (z19 (eVar 0)) γ h=.ok src h) (ei:src.items=ts.map tsD) (eg:src.good h) (e:h[i]?=.(l (((nms ce).map .str)))) (g:∀t∈ts,GT (nms ce) t) (hl:ce.length<=R.length) (h4:ce.length<=1000):J2 [d0,.ref i,rmD R] h=.ok (.bl (ts.all (z0E (nms ce) R))) h:=by
 refine z2q (z13 ?_) rfl;show W (z0A [some d0,.(r i),some (rmD R),none,none,none,none,none]) h _;unfold z0A;rw[w_cons];refine z0U (λt γ h1=>∃a b c d f,γ=[some d0,.(r i),some (rmD R),a,b,c,d,f]/\h1=h/\(ts.take t).all (z0E (nms ce) R)=true) (λd h1=>d=.bl false/\h1=h/\ts.all (z0E (nms ce) R)=false) ?_;refine W.of (es _ rfl) ⟨⟨_,_,_,_,_,rfl,rfl,rfl⟩,λ_ _ _ q=>by obtain⟨_,_,_,_,_,_,rfl,_⟩:=q;exact eg,?_,?_,?_⟩
 ·rintro t d γ h1 hd ⟨a1,a2,a3,a4,a5,rfl,rfl,hp⟩;have hd':(ts.map tsD)[t]?=some d:=by rw[<- ei];exact hd
  rw[K8]at hd';obtain⟨⟨x,s,w⟩,eq,rfl⟩:=K06.mp hd';have tm:(⟨x,s,w⟩:Ts)∈ts:=K08 eq;obtain⟨g1,g2,g3⟩:=g _ tm;simp only at g1 g2 g3;refine W.of (a:=[some d0,.(r i),some (rmD R),.(s x),.(s s),some (wrD w),a4,a5]) rfl ?_;refine Y9 (.int (atR (nms ce) R x)) [some d0,.(r i),some (rmD R),.(s x),.(s s),some (wrD w),.(i ((atR (nms ce) R x))),a5] (e2_h (Z6 rfl) (z8i e g1 h4 (Z6 rfl) (Z6 rfl)) (zq3 (z9s g1 hl))) rfl ?_;refine Y9 (.int (wrth (nms ce) R w)) [some d0,.(r i),some (rmD R),.(s x),.(s s),some (wrD w),.(i ((atR (nms ce) R x))),.(i ((wrth (nms ce) R w)))] (fn_h (ds:=[wrD w,.ref i,rmD R]) (ac_h (Z6 rfl) (ac_h (Z6 rfl) (ac_h (Z6 rfl) rfl))) rfl (z9w e g2 hl h4)) rfl ?_;refine J6 (!z0E (nms ce) R ⟨x,s,w⟩) ?_ ?_
  ·have E:∀(y:Str),(λγ=>do let d <- e2 (fEq false) (eVar 4) (λ_=>pure (.str y)) γ;asB d:G->M Bool) [some d0,.(r i),some (rmD R),.(s x),.(s s),some (wrD w),.(i ((atR (nms ce) R x))),.(i ((wrth (nms ce) R w)))] h1=.ok (decide (s=y)) h1:=λy=>cb_h (e2_h (Z6 rfl) (y:=.str y) rfl (z42 rfl));have C:∀(neg:Bool),(λγ=>do let d <- e2 (fEqX neg) (eVar 6) (eVar 7) γ;asB d:G->M Bool) [some d0,.(r i),some (rmD R),.(s x),.(s s),some (wrD w),.(i ((atR (nms ce) R x))),.(i ((wrth (nms ce) R w)))] h1=.ok (decide (atR (nms ce) R x=wrth (nms ce) R w) != neg) h1:=λneg=>cb_h (e2_h (Z6 rfl) (Z6 rfl) (by rw[z3Q];rfl));have U:(λγ=>do let d <- e2 fGe (eVar 6) (eVar 7) γ;asB d:G->M Bool) [some d0,.(r i),some (rmD R),.(s x),.(s s),some (wrD w),.(i ((atR (nms ce) R x))),.(i ((wrth (nms ce) R w)))] h1=.ok (decide (wrth (nms ce) R w<=atR (nms ce) R x)) h1:=cb_h (e2_h (Z6 rfl) (Z6 rfl) (by rw[zd1];rfl));rw[zn2 (z3x (E "is") (C true)) (zn2 (z3x (E "not") (C false)) (z3x (E "under") U))];congr 1;unfold z0E;rcases g3 with rfl|rfl|rfl
   ·rw[decide_eq_true (show ("is":Str) = "is" from rfl),decide_eq_false (show ¬ ("is":Str) = "not" by decide +kernel),decide_eq_false (show ¬ ("is":Str) = "under" by decide +kernel)];simp
   ·rw[decide_eq_true (show ("not":Str) = "not" from rfl),decide_eq_false (show ¬ ("not":Str) = "is" by decide +kernel),decide_eq_false (show ¬ ("not":Str) = "under" by decide +kernel)];simp only[if_neg (show ¬ ("not":Str) = "is" by decide +kernel),if_pos];simp
   ·rw[decide_eq_true (show ("under":Str) = "under" from rfl),decide_eq_false (show ¬ ("under":Str) = "is" by decide +kernel),decide_eq_false (show ¬ ("under":Str) = "not" by decide +kernel)];simp only[if_neg (show ¬ ("under":Str) = "is" by decide +kernel),if_neg (show ¬ ("under":Str) = "not" by decide +kernel)];by_cases q:atR (nms ce) R x<wrth (nms ce) R w
    ·rw[decide_eq_true q,decide_eq_false (show ¬ wrth (nms ce) R w<=atR (nms ce) R x by omega)];simp
    ·rw[decide_eq_false q,decide_eq_true (show wrth (nms ce) R w<=atR (nms ce) R x by omega)];simp
  ·cases q:z0E (nms ce) R ⟨x,s,w⟩ with
   | true =>
    rw[if_neg (by decide)];refine J4 (Y6 ⟨_,_,_,_,_,rfl,rfl,?_⟩);rw[K27,eq,Z16,hp,K4i];simpa using q
   | false =>
    rw[if_pos (show (!false)=true from rfl)];refine z0h (w8 (.bl false) rfl ⟨rfl,rfl,?_⟩);rw[Z0d];exact⟨_,tm,by rw[q];decide⟩
 ·rintro γ h1 ⟨a1,a2,a3,a4,a5,rfl,rfl,hp⟩;rw[ei,K4,K1g]at hp;exact w8 (.bl true) rfl ⟨by rw[hp],rfl⟩
 ·rintro d h1 ⟨rfl,rfl,hp⟩;exact⟨by rw[hp],rfl⟩
theorem z5x {ts:List Ts}(e:h[i]?=.(l (((nms ce).map .str)))) (g:∀t∈ts,GT (nms ce) t) (hl:ce.length<=R.length) (h4:ce.length<=1000):J2 [.tup (ts.map tsD),.ref i,rmD R] h=.ok (.bl (ts.all (z0E (nms ce) R))) h :=
 z4n (src:=.con (ts.map tsD)) rfl (λγ e=>zX4 (Z6 e)) rfl trivial e g hl h4
theorem z7L {ts:List Ts}{j:Nat}(ej:h[j]?=.(l (ts.map tsD))) (e:h[i]?=.(l (((nms ce).map .str)))) (g:∀t∈ts,GT (nms ce) t) (hl:ce.length<=R.length) (h4:ce.length<=1000):J2 [.ref j,.ref i,rmD R] h=.ok (.bl (ts.all (z0E (nms ce) R))) h :=
 z4n (src:=.lst j (ts.map tsD)) rfl (λγ e=>zX5 (Z6 e) ej) rfl ej e g hl h4
end
section
variable {p:Pg}{R:List Int}{h:AH}
theorem z8r (g:GP p):Y4 [pgD p] h=.ok (rmD (fstR p)) h:=by
 refine z0H (j:=[.lst ((fstR p).map .int)]) (z13 ?_) (by unfold rmD;simp only[y8];exact z0Q _);show W (z0m [some (pgD p),none]) h _;unfold z0m z3t;have l4:=g.l4;refine Y9 (.ref h.length) [some (pgD p),.(r h.length)] (h1:=h++[.lst ((p.ce.map (·.f)).map .int)]) ?_ rfl ?_
 ·refine(z1A (src:=.con (p.ce.map ceD)) (λ_=>true) (λd=>match d with|.tup (_::_::v::_)=>v|_=>.non) (z0Z (e2_h (Z6 rfl) (y:=.int 0) rfl pg0)) (λ_=>trivial) (by simp[Src.items];omega) λd hd=>?_).trans ?_
  ·obtain⟨c,_,rfl⟩:=K0r.mp (show d∈p.ce.map ceD from hd);exact⟨[some (ceD c)],λh=>rfl,λj=>rfl,λ_ j=>e2_h (Z6 rfl) (y:=.int 2) rfl (by unfold ceD;rw[ix2];rfl)⟩
  ·rw[filter_tt];show Res.ok _ (h++[.lst ((p.ce.map ceD).map _)])=_;rw[K16,K16];rfl
 ·refine J6 p.kp (cv_h (e2_h (Z6 rfl) (y:=.int 3) rfl pg3)) ?_;unfold fstR;cases ek:p.kp with
  | true =>
   rw[if_pos rfl,if_pos rfl];refine z0h (z10 rfl z29 (by simp;omega) (v:=.int (-1)) rfl (J4 ?_));rw[z8x,K0z];exact w8 _ (j8 (Z6 rfl) (z3I z29)) ⟨by unfold rmD;rw[K0z];rfl,rfl⟩
  | false =>
   rw[if_neg (by decide),if_neg (by decide),K2c];exact J4 (w8 _ (j8 (Z6 rfl) (z3I z29)) ⟨rfl,rfl⟩)
end
theorem zm9 {ma mb:G->M D}{mt:G->M Out}{γ:G}{h:AH}{a i t:Nat}{xs:List D}{v:D}{Q:Out->AH->Prop}(ev:ma γ h=.ok v h) (ea:γ[a]?=some (.(r i))) (eb:mb γ h=.ok (.int (t:Nat)) h) (e:h[i]?=.(l xs)) (ht:t<xs.length)
 (z:W (mt γ) (h.set i (.lst (xs.set t v))) Q):W (Z3 (sAsg ma (gIx (eVar a) mb)) mt γ) h Q:=by
 have e1:gIx (eVar a) mb v γ h=.ok γ (h.set i (.lst (xs.set t v))):=by
  unfold gIx;rw[M.bind_ok (Z6 ea),M.bind_ok eb];have:fSet (.ref i) (.int (t:Nat)) v h=.ok () (h.set i (.lst (xs.set t v))):=by
   unfold fSet;dsimp only;rw[e];dsimp only;rw[show ixN xs.length (t:Int)=some t by unfold ixN;rw[if_pos (by omega),if_pos (by omega)];rfl]
  rw[M.bind_ok this];rfl
 obtain⟨o,h',e2,q⟩:=z;refine⟨o,h',?_,q⟩;unfold Z3 sAsg;rw[M.bind_ok (show (do let d <- ma γ;let γ1 <- gIx (eVar a) mb d γ;pure (.nx γ1):M Out) h=.ok (.nx γ) _ by rw[M.bind_ok ev,M.bind_ok e1];rfl)];exact e2
theorem z6U {ce:List Ce}{j:Nat}{c:Ce}(nd:(nms ce).Nodup) (e:ce[j]?=some c):(nms ce).idxOf c.x=j:=by
 have e1:(nms ce)[j]?=some c.x:=by unfold nms;rw[K8,e];rfl
 obtain⟨lt,e2⟩:=K7.mp e1;rw[<- e2];exact nd.idxOf_getElem j lt
def valP (ns:List Str) (R:List Int) (ps:List (Str×Wr)) (q:Ce):Int:=match ps.lookup q.x with
 | some w=>wrth ns R w % q.sz
 | none=>atR ns R q.x
structure FI (p:Pg) (R:List Int) (ps:List (Str×Wr)) (F:List Int):Prop where
 len:F.length=R.length
 at_:∀(j:Nat) q,p.ce[j]?=some q->F[j]?=some (valP (nms p.ce) R ps q)
 up:∀j:Nat,p.ce.length<=j->F[j]?=R[j]?
theorem z6N {x:Str}(y:Str) (w:Wr):∀l:List (Str×Wr),y∉l.map (·.1)->(l++[(y,w)]).lookup x=if x=y then some w else l.lookup x
 | [],_=>by
  show (match x==y with
   | true=>some w
   | false=>none)=_
  by_cases e:x=y
  ·subst e;simp
  ·rw[if_neg e,show (x==y)=false from beq_eq_false_iff_ne.mpr e];rfl
 | (z,v)::l,h=>by
  rw[List.cons_append,K1q,K1q,z6N y w l (λm=>h (K0o _ m))];have ne:z≠y:=λe=>h (by rw[<- e];exact K0u);by_cases q:x=z
  ·subst q;rw[show (x==x)=true from beq_self_eq_true x];dsimp only;rw[if_neg ne]
  ·rw[show (x==z)=false from beq_eq_false_iff_ne.mpr q]
section
variable {p:Pg}{R:List Int}{h:AH}
theorem zo6 (g:GP p) (hl:p.ce.length<=R.length):FI p R [] R:=by
 refine⟨rfl,λj q e=>?_,λ_ _=>rfl⟩;have:=z9s (R:=R) (K0r.mpr ⟨q,K08 e,rfl⟩:q.x∈nms p.ce) hl;rw[z6U g.nd e]at this;exact this
theorem zn9 {ps:List (Str×Wr)}{F:List Int}{x:Str}{w:Wr}{q:Ce}{a:Nat}(g:GP p) (f:FI p R ps F) (hl:p.ce.length<=R.length) (nx:x∉ps.map (·.1)) (eq:p.ce[a]?=some q) (ex:q.x=x):FI p R (ps++[(x,w)]) (F.set a (wrth (nms p.ce) R w % q.sz)):=by
 have la:=(K7.mp eq).1;refine⟨by rw[Z15];exact f.len,λj c e=>?_,λj hj=>?_⟩
 ·unfold valP;rw[z6N x w ps nx];by_cases c1:a=j
  ·subst c1;rw[eq]at e;cases e;rw[if_pos ex,K1a (by rw[f.len];omega)]
  ·have ne:c.x≠x:=λz=>c1 (by
    have h1:=z6U g.nd eq;have h2:=z6U g.nd e;rw[ex]at h1;rw[z]at h2;omega)
   rw[if_neg ne,K1f c1];exact f.at_ j c e
 ·rw[K1f (by omega)];exact f.up j hj
theorem zO8 {c:Cm}{F:List Int}{k:Nat}(r:GR p R) (f:FI p R c.ps F):(if p.kp=true then F.set p.ce.length (k:Int) else F)=beh p R k c:=by
 have e1:F.take p.ce.length=p.ce.map (newV (nms p.ce) R c):=by
  refine K4n λj=>?_;by_cases q:j<p.ce.length
  ·rw[K22,if_pos q,K8,K5 q];exact f.at_ j _ (K5 q)
  ·rw[K22,if_neg q,K1c (by rw[K4];omega)]
 have l:=f.len;rw[r.len]at l;unfold beh;cases ek:p.kp with
 | true =>
  rw[ek,if_pos rfl]at l;rw[if_pos rfl,if_pos rfl,<- e1];refine K4n λj=>?_;by_cases q:p.ce.length=j
  ·subst q;rw[K1a (by omega),K1h (by rw[K0e];omega),K0e,show p.ce.length - min p.ce.length F.length=0 by omega];rfl
  ·rw[K1f q];by_cases z:j<p.ce.length
   ·rw[K0w (by rw[K0e];omega),K22,if_pos z]
   ·rw[K1c (by omega),K1c (by rw[K04,K0e,K1b];omega)]
 | false =>
  rw[ek,if_neg (by decide)]at l;rw[if_neg (by decide),if_neg (by decide),K2c,<- e1,K61 (by omega)]
def optD:Option (List Int)->D
 | some S=>rmD S
 | none=>.non
theorem zn1 {k:Nat}(g:GP p) (r:GR p R) (hk:k<p.cm.length):Y1 [pgD p,.int (k:Nat),rmD R] h=.ok (optD (nxF p R k)) h:=by
 obtain⟨c,ec⟩:∃c,p.cm[k]?=some c:=⟨_,K5 hk⟩;have gc:=g.gc c (K08 ec);have hl:=r.le;have l4:=g.l4;have en:nxF p R k=if c.ts.all (z0E (nms p.ce) R)=true then some (beh p R k c) else none:=by unfold nxF;rw[ec]
 have key:W (runF 8 z0d [pgD p,.int (k:Nat),rmD R]) h λa h'=>a=optD (nxF p R k)/\∃j,h'=h++j:=by
  refine z23 ?_;show W (z0d [some (pgD p),.(i (k:Nat)),some (rmD R),none,none,none,none,none]) h _;unfold z0d;have row:∀(γ:G) (h1:AH) (t:Nat) (d:D),γ[0]?=some (some (pgD p))->γ[1]?=some (.(i (k:Nat)))->fIx (cmD c) (.int (t:Nat)) h1=.ok d h1->e2 fIx (e2 fIx (e2 fIx (eVar 0) (λ_=>pure (.int 1))) (eVar 1)) (λ_=>pure (.int (t:Nat))) γ h1=.ok d h1:=λγ h1 t d a b e =>
   e2_h (x:=cmD c) (y:=.int (t:Nat)) (e2_h (x:=.tup (p.cm.map cmD)) (e2_h (Z6 a) (y:=.int 1) rfl pg1) (Z6 b) (by rw[ix_tup (Y7 (by rw[K8,ec];rfl))];rfl)) rfl e
  refine Y9 (.ref h.length) [some (pgD p),.(i (k:Nat)),some (rmD R),.(r h.length),none,none,none,none] (h1:=h++[.lst ((nms p.ce).map .str)]) (fn_h (ds:=[.tup (p.ce.map ceD)]) (ac_h (e2_h (Z6 rfl) (y:=.int 0) rfl pg0) rfl) rfl (z6x (by omega))) rfl ?_;have nm:∀J:AH,(h++(.lst ((nms p.ce).map .str)::J))[h.length]?=.(l (((nms p.ce).map .str))):=λJ=>by simp
  refine J6 (!c.ts.all (z0E (nms p.ce) R)) (cn_h (cv_h (fn_h (ds:=[.tup (c.ts.map tsD),.ref h.length,rmD R]) (ac_h (row _ _ 1 _ rfl rfl (by unfold cmD;rw[show ((1:Nat):Int)=1 from rfl,ix1];rfl)) (ac_h (Z6 rfl) (ac_h (Z6 rfl) rfl))) rfl (z5x (nm []) gc.ts hl (by omega))))) ?_;by_cases q:c.ts.all (z0E (nms p.ce) R)=true
  ·rw[if_pos q]at en;rw[q,if_neg (by decide),en];refine J4 (z3Y (xs:=R.map .int) (by rw[K4,r.len];split<;>omega) (λh=>rfl) ?_);rw[K10,show (h++[O.lst ((nms p.ce).map .str)]).length=h.length+1 by simp];show W (Z3 _ _ [some (pgD p),.(i (k:Nat)),some (rmD R),.(r h.length),.(r (h.length+1)),none,none,none]) (h++[.lst ((nms p.ce).map .str),.lst (R.map .int)]) _;have fd:∀F:List Int,(h++[O.lst ((nms p.ce).map .str),O.lst (F.map .int)])[h.length+1]?=.(l (F.map .int)):=λF=>by simp
   have fs:∀(F:List Int) (a:Nat) (v:Int),(h++[O.lst ((nms p.ce).map .str),O.lst (F.map .int)]).set (h.length+1) (.lst ((F.map D.int).set a (.int v)))=h++[O.lst ((nms p.ce).map .str),O.lst ((F.set a v).map .int)]:=λF a v=>by
    rw[K1i _ _ (by omega),show h.length+1 - h.length=1 by omega,List.map_set];rfl
   refine z2U (λγ h1=>∃F a b d,γ=[some (pgD p),.(i (k:Nat)),some (rmD R),.(r h.length),.(r (h.length+1)),a,b,d]/\h1=h++[.lst ((nms p.ce).map .str),.lst (F.map .int)]/\FI p R c.ps F) ?_ ?_
   ·refine z0U (λt γ h1=>∃F a b d,γ=[some (pgD p),.(i (k:Nat)),some (rmD R),.(r h.length),.(r (h.length+1)),a,b,d]/\h1=h++[.lst ((nms p.ce).map .str),.lst (F.map .int)]/\FI p R (c.ps.take t) F) (λ_ _=>False) ?_;refine W.of (z0Z (row _ _ 2 (.tup (c.ps.map psD)) rfl rfl (by unfold cmD;rw[show ((2:Nat):Int)=2 from rfl,ix2];rfl))) ⟨⟨R,_,_,_,rfl,rfl,zo6 g hl⟩,λ_ _ _ _=>trivial,?_,?_,λ_ _ q=>q.elim⟩
    ·rintro t d γ h1 hd ⟨F,a1,a2,a3,rfl,rfl,fi⟩;have hd':(c.ps.map psD)[t]?=some d:=hd;rw[K8]at hd';obtain⟨⟨x,w⟩,eq,rfl⟩:=K06.mp hd';obtain⟨gx,gw⟩:=gc.ps _ (K08 eq);simp only at gx gw;obtain⟨lt,eq'⟩:=K7.mp eq;have tk:c.ps.take (t+1)=c.ps.take t++[(x,w)]:=by rw[K27,eq];rfl
     have nx:x∉(c.ps.take t).map (·.1):=λz=>by
      have nd:=gc.nd;rw[<- K67 (t+1) c.ps,tk,K0z,K0z]at nd;have:=(K21.mp (K21.mp nd).1).2.2 x z x (by simp);exact this rfl
     obtain⟨q,hq,ex⟩:=K0r.mp gx;obtain⟨a,ea⟩:=K2h hq;have ia:(nms p.ce).idxOf x=a:=by rw[<- ex];exact z6U g.nd ea
     have la:=(K7.mp ea).1;refine W.of (a:=[some (pgD p),.(i (k:Nat)),some (rmD R),.(r h.length),.(r (h.length+1)),.(s x),some (wrD w),a3]) rfl ?_;refine Y9 (.int (a:Nat)) [some (pgD p),.(i (k:Nat)),some (rmD R),.(r h.length),.(r (h.length+1)),.(s x),some (wrD w),.(i (a:Nat))] (h1:=h++[.lst ((nms p.ce).map .str),.lst (F.map .int)]) ?_ rfl ?_
     ·rw[<- ia];exact z8i (nm _) gx (by omega) (Z6 rfl) (Z6 rfl)
     refine zm9 (v:=.int (wrth (nms p.ce) R w % q.sz)) (e2_h (fn_h (ds:=[wrD w,.ref h.length,rmD R]) (ac_h (Z6 rfl) (ac_h (Z6 rfl) (ac_h (Z6 rfl) rfl))) rfl (z9w (nm _) gw hl (by omega))) (e2_h (x:=ceD q) (e2_h (e2_h (Z6 rfl) (y:=.int 0) rfl pg0) (Z6 rfl) (by rw[ix_tup (Y7 (by rw[K8,ea];rfl))];rfl)) (y:=.int 1) rfl (by unfold ceD;rw[ix1];rfl)) (by rw[z9g (g.cs q hq).1];rfl)) rfl (Z6 rfl) (fd F) (by rw[K4,fi.len];omega) (Y6 ⟨F.set a (wrth (nms p.ce) R w % q.sz),_,_,_,rfl,fs F a _,?_⟩);rw[tk];exact zn9 g fi hl nx ea ex
    ·rintro γ h1 ⟨F,a1,a2,a3,rfl,rfl,fi⟩;refine⟨F,_,_,_,rfl,rfl,?_⟩;rw[show (Src.con (c.ps.map psD)).items.length=c.ps.length by simp[Src.items],K1g]at fi;exact fi
   ·rintro γ h1 ⟨F,a1,a2,a3,rfl,rfl,fi⟩;have fe:=zO8 (k:=k) r fi;refine J6 p.kp (cv_h (e2_h (Z6 rfl) (y:=.int 3) rfl pg3)) ?_;cases ek:p.kp with
    | true =>
     rw[ek,if_pos rfl]at fe;rw[if_pos rfl];refine z0h (zm9 (t:=p.ce.length) (v:=.int (k:Nat)) (Z6 rfl) rfl (j8 (Z6 rfl) (by rw[z4B (nm _)];unfold nms;simp)) (fd F) (by rw[K4,fi.len,r.len,ek,if_pos rfl];omega) (J4 ?_));rw[fs,fe];exact w8 _ (j8 (Z6 rfl) (z3I (fd _))) ⟨rfl,_,rfl⟩
    | false =>
     rw[ek,if_neg (by decide)]at fe;rw[if_neg (by decide),fe];exact J4 (w8 _ (j8 (Z6 rfl) (z3I (fd _))) ⟨rfl,_,rfl⟩)
  ·rw[if_neg q]at en;rw[Bool.eq_false_iff.mpr q,if_pos (show (!false)=true from rfl),en];exact z0h (w8 .non rfl ⟨rfl,_,rfl⟩)
 obtain⟨d,h1,e1,rfl,j,rfl⟩:=key;refine z0H e1 ?_;cases nxF p R k with
 | none=>rfl
 | some S=>unfold optD rmD;simp only[y8];exact z0Q _
end
theorem zJ3 {l:List Nat}{n:Nat}(hn:n<=1000) (hl:l.Pairwise (·<·)) (hm:∀x∈l,x<n):z0z [.tup (stD l),.int n]=pure (.bl true):=by
 have len:=zc2 hl hm;refine zT7 rfl λh=>?_;refine z23 ?_;show W (z0x [.(g (stD l)),.(i n),none]) h _;unfold z0x;refine q_if false ?_ ?_
 ·simp only[K7o,K0a,K00,K07,K0b,K0t,Z1,aNil,z17,cNot,cVal,eFn,eVar,if_true,z63,zs0 (xs:=stD l) (n:=n) (by rw[z1Y];omega)]
 rw[if_neg (by decide)];refine J4 ?_;rw[w_cons];refine z0D (λc γ h'=>∃w,γ=[.(g (stD l)),.(i n),w]/\h'=h) (λ_ _=>False) ?_;simp only[K00,j3,W_pure,Z1,aNil,z0e,z2e,e2,j7,eVar,z0o];refine⟨l.length,by rw[z1Y],by omega,⟨_,rfl,trivial⟩,?_,?_,λ_ _ q=>q.elim⟩
 ·rintro c γ h2 hc ⟨w,rfl,rfl⟩;have mc:(l[c]?).getD 0=l[c]:=by rw[K5 hc];rfl
  have lt:=hm _ (K30 hc);refine q_if false ?_ ?_
  ·have e1:fIx (.tup (stD l)) (.int c)=pure (.int (l[c]:Nat)):=by rw[ix_tup (zE5 hc),mc]
   by_cases c0:(0:Int)<c
   ·have e2':((c:Int) - 1)=((c - 1:Nat):Int):=by omega
    have hc1:c - 1<l.length:=by omega
    have lt2:=K4x.mp hl (c - 1) c hc1 hc (by omega);have mc1:(l[c - 1]?).getD 0=l[c - 1]:=by rw[K5 hc1];rfl
    have e3:fIx (.tup (stD l)) (.int ((c:Int) - 1))=pure (.int (l[c - 1]:Nat)):=by rw[e2',ix_tup (zE5 hc1),mc1]
    simp only[K31,K7o,K0a,K00,K07,K0b,K0q,K0m,K0t,Z1,aNil,z1u,z17,cAnd,cNot,cOr,cVal,decide_eq_false (show ¬((l[c - 1]:Nat):Int) >= (l[c]:Nat) by omega),decide_eq_true c0,e1,e2,e3,eFn,eVar,zd1,z9E,if_false,if_true,z7s lt,z9q,z63]
   ·simp only[K31,K7o,K0a,K00,K07,K0b,K0q,K0m,K0t,Z1,aNil,z1u,z17,cAnd,cNot,cOr,cVal,decide_eq_false c0,e1,e2,eFn,eVar,z9E,if_false,if_true,z7s lt,z9q,z63]
  rw[if_neg (by decide)];exact J4 (Y6 ⟨_,rfl,rfl⟩)
 ·rintro γ h2 ⟨w,rfl,rfl⟩;exact zD9 _ rfl ⟨rfl,[],by simp⟩
theorem ze4 {v a b:Int}(h1:a<=v) (h2:v<b):z08 [.int v,.int a,.int b]=pure (.bl true):=by
 show cln (runF 3 x6 [.int v,.int a,.int b])=_;rw[z6b (d:=.bl true),z4O];show x6 [.(i v),.(i a),.(i b)]=_;unfold x6;refine zA6 _ ?_;simp only[K0a,K00,z1u,z17,decide_eq_true h1,decide_eq_true h2,e3,eAnd,eIsi,eNot,eVar,if_true,z6c,zr1,z91];rfl
theorem InB.all:∀{l:List (Int×Nat)}{R:List Int},InB l R->(∀q∈l,-1<=q.1/\q.1+(q.2:Int)<=9)->∀v∈R,-1<=v/\v<9
 | [],[],_,_,v,h=>by cases h
 | q::l,w::R,a,b,v,h=>by
  obtain⟨a1,a2,a3⟩:=a;have c:=b q K0u;rcases K0c.mp h with rfl|h
  ·omega
  ·exact InB.all a3 (λx hx=>b x (K0o _ hx)) v h
 | [],_::_,a,_,_,_=>a.elim
 | _::_,[],a,_,_,_=>a.elim
section
variable {p:Pg}{R:List Int}{h:AH}
theorem GR.nine (g:GP p) (r:GR p R):∀v∈R,-1<=v/\v<9:=by
 refine InB.all r λq hq=>?_;unfold dims at hq;rcases K0n.mp hq with z|z
 ·obtain⟨c,hc,rfl⟩:=K0r.mp z;have:=g.cs c hc;show (-1:Int)<=0/\(0:Int)+(c.sz.toNat:Int)<=9;omega
 ·have:=g.c8;split at z
  ·rw[K0k]at z;subst z;show (-1:Int)<=-1/\(-1:Int)+((p.cm.length+1:Nat):Int)<=9;omega
  ·cases z
theorem z32 (t:Nat):∀d,(layS p t).1 <+: (layS p (t+d)).1
 | 0=>K4e
 | d+1=>by
  refine(z32 t d).trans ?_;show _ <+: (lay1 p (layS p (t+d))).1;unfold lay1;split
  ·exact K4e
  ·exact z2F _ _
theorem z8F:∀t,(layS p t).2.length<=t
 | 0=>K01 _
 | t+1=>by
  have:=z8F t;show (lay1 p (layS p t)).2.length<=t+1;unfold lay1;split
  ·omega
  ·rw[K04,K1b];omega
theorem z9j {t:Nat}(g:GP p) (b:prN (dims p)<=40) (lt:t<(layS p 40).1.length):∃R,(layS p 40).1[t]?=some R/\(layS p (t+1)).1=stL (layS p t).1 (nxt p R p.cm.length):=by
 have l40:=(LI.at g 40).gl.le b;have e40:t+(40 - t)=40:=by omega
 have c:¬ (layS p t).1.length<=(layS p t).2.length:=λc=>by
  have:=z2g c (40 - t);rw[e40]at this;have l2:=z8F (p:=p) t;rw[this]at lt;omega
 have et:(layS p t).2.length=t:=by
  rcases z3N g t with e|e
  ·exact e
  ·exact absurd (K3r e) c
 have e1:(layS p t).1[t]?=some ((layS p t).1[t]'(by omega)):=K5 _;refine⟨_,by have:=z3z (z32 (p:=p) t (40 - t)) e1;rw[e40]at this;exact this,?_⟩;show (lay1 p (layS p t)).1=_;unfold lay1;rw[et,e1]
theorem z9b {L M:List (List Int)}{x:List Int}(q:L <+: M) (hx:x∈L):M.idxOf x=L.idxOf x:=by
 obtain⟨t,rfl⟩:=q;rw[List.idxOf_append,if_pos hx]
theorem sl_h {ma mb:G->M D}{γ:G}{xs:List D}{c:Nat}(e1:ma γ h=.ok (.tup xs) h) (e2':mb γ h=.ok (.int (c:Nat)) h):z0G ma z20 (z1P mb) γ h=.ok (.tup (xs.take c)) h:=by
 have e3:z1P mb γ h=.ok (some (c:Int)) h:=by
  unfold z1P;rw[M.bind_ok e2'];rfl
 have e4:z20 γ h=.ok none h:=rfl;unfold z0G;rw[M.bind_ok e1,M.bind_ok e4,M.bind_ok e3,sl_tup,z7m];rfl
theorem ly0 (s:List (List Int)×List (List Nat)):fIx (layD p s) (.int 0) h=.ok (.tup [.tup (stsD s.2),.tup ((s.1.take s.2.length).map (mkR p))]) h:=by unfold layD;rw[ix0];rfl
theorem ly1 (s:List (List Int)×List (List Nat)):fIx (layD p s) (.int 1) h=.ok (.tup (s.1.map rmD)) h:=by unfold layD;rw[ix1];rfl
theorem z6o (g:GP p):(worn p R).length<=8:=by
 unfold worn;rw[z5v,K4];exact K0x (K3l _ _) g.gm.l8
theorem z6e (g:GP p) (b:prN (dims p)<=40):z0g [pgD p,layD p (layS p 40)] h=.ok (.bl true) h:=by
 obtain⟨s,es⟩:∃s,s=layS p 40:=⟨_,rfl⟩;have li:LI p s:=es ▸ LI.at g 40;have ll:s.1.length=s.2.length:=es ▸ z4N g b;rw[<- es];have l40:=li.gl.le b;have l1:0<s.1.length:=(K7.mp li.z0).1;have l4:=g.l4;refine z2q (z13 ?_) rfl;show W (z0f [some (pgD p),some (layD p s),none,none,none,none]) h _;unfold z0f;have t0:∀(γ:G) (h:AH),γ[1]?=some (some (layD p s))->e2 fIx (eVar 1) (λ_=>pure (.int 0)) γ h=.ok (.tup [.tup (stsD s.2),.tup ((s.1.take s.2.length).map (mkR p))]) h:=λγ h e=>e2_h (Z6 e) (y:=.int 0) rfl (ly0 s);have t1:∀(γ:G) (h:AH),γ[1]?=some (some (layD p s))->e2 fIx (eVar 1) (λ_=>pure (.int 1)) γ h=.ok (.tup (s.1.map rmD)) h:=λγ h e=>e2_h (Z6 e) (y:=.int 1) rfl (ly1 s);have t00:∀(γ:G) (h:AH),γ[1]?=some (some (layD p s))->e2 fIx (e2 fIx (eVar 1) (λ_=>pure (.int 0))) (λ_=>pure (.int 0)) γ h=.ok (.tup (stsD s.2)) h:=λγ h e=>e2_h (t0 γ h e) (y:=.int 0) rfl (by rw[ix0];rfl);have t01:∀(γ:G) (h:AH),γ[1]?=some (some (layD p s))->e2 fIx (e2 fIx (eVar 1) (λ_=>pure (.int 0))) (λ_=>pure (.int 1)) γ h=.ok (.tup ((s.1.take s.2.length).map (mkR p))) h:=λγ h e=>e2_h (t0 γ h e) (y:=.int 1) rfl (by rw[ix1];rfl);have tq:∀(γ:G) (h:AH) (xs:List D) (m n:Nat) (ma mb mc:G->M D),ma γ h=.ok (.tup xs) h->mb γ h=.ok (.int (m:Nat)) h->mc γ h=.ok (.int (n:Nat)) h->m<=xs.length->xs.length<=n->cNot (cVal (eFn 3 y9 (Z1 ma (Z1 mb (Z1 mc aNil))))) γ h=.ok false h:=λγ h xs m n ma mb mc e1 e2 e3 a1 a2 =>
  cn_h (b:=true) (cv_h (fn_h (ds:=[.tup xs,.int (m:Nat),.int (n:Nat)]) (ac_h e1 (ac_h e2 (ac_h e3 rfl))) rfl (by rw[z8C a1 a2];rfl)))
 refine J6 false (z4S (tq _ _ _ 2 2 _ _ _ (show _=Res.ok (D.tup [_,_]) h from Z6 rfl) rfl rfl (by simp) (by simp)) (z4S (tq _ _ _ 2 2 _ _ _ (t0 _ _ rfl) rfl rfl (by simp) (by simp)) (tq _ _ _ 1 40 _ _ _ (t1 _ _ rfl) rfl rfl (by rw[K4];omega) (by rw[K4];omega)))) ?_;rw[if_neg (by decide)];refine J4 (Y9 (.int (s.1.length:Nat)) [some (pgD p),some (layD p s),.(i (s.1.length:Nat)),none,none,none] (j8 (t1 _ _ rfl) (by rw[z0o,K4];rfl)) rfl ?_);obtain⟨lg,elg⟩:∃lg:Nat,lg=p.ce.length+if p.kp=true then 1 else 0:=⟨_,rfl⟩
 refine Y9 (.int (lg:Nat)) [some (pgD p),some (layD p s),.(i (s.1.length:Nat)),.(i (lg:Nat)),none,none] (e2_h (x:=.int (p.ce.length:Nat)) (y:=.int (if p.kp=true then 1 else 0)) (j8 (e2_h (Z6 rfl) (y:=.int 0) rfl pg0) (by rw[z0o,K4];rfl)) (j8 (e2_h (Z6 rfl) (y:=.int 3) rfl pg3) rfl) (by rw[z2s,elg];cases p.kp<;>rfl)) rfl ?_;refine J6 false (z4S (tq _ _ _ s.1.length s.1.length _ _ _ (t00 _ _ rfl) (Z6 rfl) (Z6 rfl) (by rw[z3s];omega) (by rw[z3s];omega)) (tq _ _ _ s.1.length s.1.length _ _ _ (t01 _ _ rfl) (Z6 rfl) (Z6 rfl) (by rw[K4,K0e];omega) (by rw[K4,K0e];omega))) ?_;rw[if_neg (by decide)];refine J4 ?_;rw[w_cons];refine z0D (λc γ h'=>∃a d,γ=[some (pgD p),some (layD p s),.(i (s.1.length:Nat)),.(i (lg:Nat)),a,d]/\h'=h) (λ_ _=>False) ?_;refine W.of (a:=.int (s.1.length:Nat)) (h':=h) (Z6 rfl) ⟨s.1.length,rfl,by omega,⟨_,_,rfl,rfl⟩,?_,?_,λ_ _ q=>q.elim⟩
 ·rintro c γ h1 hc ⟨a1,a2,rfl,rfl⟩;obtain⟨R,eR⟩:∃R,s.1[c]?=some R:=⟨_,K5 hc⟩;have gr:=li.gl.inn R (K08 eR);obtain⟨row,er⟩:∃row,s.2[c]?=some row:=⟨_,K5 (by omega)⟩;have rm:=K08 er;show W (Z3 _ _ [some (pgD p),some (layD p s),.(i (s.1.length:Nat)),.(i (lg:Nat)),.(i (c:Nat)),a2]) h1 _;refine Y9 (rmD R) [some (pgD p),some (layD p s),.(i (s.1.length:Nat)),.(i (lg:Nat)),.(i (c:Nat)),some (rmD R)] (e2_h (t1 _ _ rfl) (Z6 rfl) (by rw[ix_tup (Y7 (by rw[K8,eR];rfl))];rfl)) rfl ?_;have len:R.length=lg:=by rw[gr.len,elg]
  refine J6 false (z4S (tq _ _ (R.map .int) lg lg _ _ _ (Z6 rfl) (Z6 rfl) (Z6 rfl) (by rw[K4];omega) (by rw[K4];omega)) ?_) ?_
  ·refine(zp7 (j:=[]) (xs:=[]) ?_ (by simp)).trans rfl;rw[K2c];refine(z1A (src:=.con (R.map .int)) (λ_=>false) (λd=>d) (z0Z (Z6 rfl)) (λ_=>trivial) (by simp[Src.items];rw[len,elg];split<;>omega) λd hd=>?_).trans ?_
   ·obtain⟨v,hv,rfl⟩:=K0r.mp (show d∈R.map D.int from hd);obtain⟨v1,v2⟩:=gr.nine g v hv;exact⟨[.(i v)],λh=>rfl,λj=>cn_h (b:=true) (cv_h (fn_h (ds:=[.int v,.int (-1),.int 9]) (ac_h (Z6 rfl) (ac_h (d:=.int (-1)) rfl (ac_h (d:=.int 9) rfl rfl))) rfl (by rw[ze4 v1 v2];rfl))),λz=>by cases z⟩
   ·rw[show ((Src.con (R.map D.int)).items.filter λ_=>false)=[] by simp];rfl
  rw[if_neg (by decide)];refine J4 (J6 false (z4S (cn_h (b:=true) (cv_h (fn_h (ds:=[.tup (stD row),.int (s.1.length:Nat)]) (ac_h (e2_h (t00 _ _ rfl) (Z6 rfl) (by rw[ix_tup (Y7 (by unfold stsD;rw[K8,er];rfl))];rfl)) (ac_h (Z6 rfl) rfl)) rfl (by rw[zJ3 (by omega) (li.rise row rm) (li.lt row rm)];rfl)))) (z4S (tq _ _ ((worn p R).map .str) 0 8 _ _ _ (e2_h (t01 _ _ rfl) (Z6 rfl) (by rw[ix_tup (Y7 (by rw[K8,K22,if_pos (by omega),eR];rfl))];rfl)) rfl rfl (K35 _) (by rw[K4];exact z6o g)) (cb_h (e2_h (Z6 rfl) (sl_h (t1 _ _ rfl) (Z6 rfl)) (by
   rw[<- K4h,z8e,decide_eq_false]
   ·rfl
   ·intro z;obtain⟨i,hi⟩:=K2h z;rw[K22]at hi;split at hi
    ·rename_i lt;have hi':=(K7.mp hi);have hc':=(K7.mp eR);exact K4x.mp li.gl.nd i c hi'.1 hc'.1 lt (by rw[hi'.2,hc'.2])
    ·cases hi))))) ?_)
  rw[if_neg (by decide)];exact J4 (Y6 ⟨_,_,rfl,rfl⟩)
 ·rintro γ h1 ⟨a1,a2,rfl,rfl⟩;refine w8 (.bl true) (e2_h (x:=rmD (fstR p)) (y:=rmD (fstR p)) (e2_h (t1 _ _ rfl) (y:=.int 0) rfl (by rw[show (0:Int)=((0:Nat):Int) from rfl,ix_tup (Y7 (by rw[K8,li.z0];rfl))];rfl)) (fn_h (ds:=[pgD p]) (ac_h (Z6 rfl) rfl) rfl (z8r g)) (by rw[z8V (z4l _ _),decide_eq_true rfl];rfl)) ⟨rfl,rfl⟩
end
def HQ (h:AH) (n c:List D) (J:AH):AH:=h++(.lst n::.lst c::J)
section
variable {h J:AH}{n c:List D}
theorem HQ0:(HQ h n c J)[h.length]?=.(l n):=by unfold HQ;simp
theorem HQ1:(HQ h n c J)[h.length+1]?=.(l c):=by unfold HQ;simp
theorem zJ1 {X:AH}:HQ h n c J++X=HQ h n c (J++X):=by unfold HQ;simp
end
theorem zW6 {kk:G->M Bool}{ms mr mt:G->M Out}{γ:G}{h h1:AH}{b:Bool}{Q:Out->AH->Prop}(e:kk γ h=.ok b h1) (z:W (Z3 (if b=true then ms else mr) mt γ) h1 Q):W (Z3 (sIf kk ms mr) mt γ) h Q:=zI5 ⟨b,h1,e,z⟩
section
variable {p:Pg}{R:List Int}{h:AH}
theorem z8n (g:GP p):J8 [.tup (p.cm.map cmD)] h=.ok (.ref h.length) (h++[.lst ((cmN p).map .str)]):=by
 have c8:=g.c8;show cln (runF 1 J9 [.tup (p.cm.map cmD)]) h=_;refine z3m (j:=[.lst ((cmN p).map .str)]) (z13 ?_) rfl (z3f h) (K01 _) z29 (show k6 _ _=true from z0w _);show W (J9 [.(g (p.cm.map cmD))]) h _;unfold J9;refine w8 (.ref h.length) ?_ ⟨rfl,rfl⟩;refine(z1A (src:=.con (p.cm.map cmD)) (λ_=>true) (λd=>match d with|.tup (v::_)=>v|_=>.non) (z0Z (Z6 rfl)) (λ_=>trivial) (by simp[Src.items];omega) λd hd=>?_).trans ?_
 ·obtain⟨c,_,rfl⟩:=K0r.mp (show d∈p.cm.map cmD from hd);exact⟨[some (cmD c)],λh=>rfl,λj=>rfl,λ_ j=>e2_h (Z6 rfl) (y:=.int 0) rfl (by unfold cmD;rw[ix0];rfl)⟩
 ·rw[filter_tt];show Res.ok _ (h++[.lst ((p.cm.map cmD).map _)])=_;unfold cmN;rw[K16,K16];rfl
theorem zx4 {row:List Ask}(g:GP p) (r:GR p R) (ga:∀a∈row,GA p a):z0b [pgD p,roD row,rmD R] h=.ok (.bl (row.all (askH p R))) h:=by
 have le:=r.le;have l4:=g.l4;have c8:=g.c8;have key:W (runF 6 z0a [pgD p,roD row,rmD R]) h λd h'=>d=.bl (row.all (askH p R))/\∃j,h'=h++j:=by
  refine z23 ?_;show W (z0a [some (pgD p),some (roD row),some (rmD R),none,none,none]) h _;unfold z0a;refine Y9 (.ref h.length) [some (pgD p),some (roD row),some (rmD R),.(r h.length),none,none] (h1:=h++[.lst ((nms p.ce).map .str)]) (fn_h (ds:=[.tup (p.ce.map ceD)]) (ac_h (e2_h (Z6 rfl) (y:=.int 0) rfl pg0) rfl) rfl (z6x (by omega))) rfl ?_;refine Y9 (.ref (h.length+1)) [some (pgD p),some (roD row),some (rmD R),.(r h.length),.(r (h.length+1)),none] (h1:=HQ h ((nms p.ce).map .str) ((cmN p).map .str) []) (fn_h (ds:=[.tup (p.cm.map cmD)]) (ac_h (e2_h (Z6 rfl) (y:=.int 1) rfl pg1) rfl) rfl (by rw[z8n g];unfold HQ;simp)) rfl ?_;rw[w_cons];refine z0U (λt γ h1=>∃(a:Option D) (J:AH),γ=[some (pgD p),some (roD row),some (rmD R),.(r h.length),.(r (h.length+1)),a]/\h1=HQ h ((nms p.ce).map .str) ((cmN p).map .str) J/\(row.take t).all (askH p R)=true) (λd h1=>d=.bl false/\(∃j,h1=h++j)/\row.all (askH p R)=false) ?_;refine W.of (z0Z (Z6 rfl)) ⟨⟨_,_,rfl,rfl,rfl⟩,λ_ _ _ _=>trivial,?_,?_,?_⟩
  ·rintro t d γ h1 hd ⟨a1,J,rfl,rfl,hp⟩;have hd':(row.map askD)[t]?=some d:=hd;rw[K8]at hd';obtain⟨a,eq,rfl⟩:=K06.mp hd';have am:=K08 eq;have gA:=ga a am;refine W.of (a:=[some (pgD p),some (roD row),some (rmD R),.(r h.length),.(r (h.length+1)),some (askD a)]) rfl ?_;have out:∀(b:Bool) (J':AH) (mt:G->M Out),b=askH p R a->mt=bNil\/mt=Z3 bNil bNil\/mt=Z3 bNil (Z3 bNil bNil)->W (Z3 (if (!b)=true then Z3 (sRet (λ_=>pure (.bl false))) bNil else bNil) mt [some (pgD p),some (roD row),some (rmD R),.(r h.length),.(r (h.length+1)),some (askD a)]) (HQ h ((nms p.ce).map .str) ((cmN p).map .str) J') (forW (λγ h1=>∃(a:Option D) (J:AH),γ=[some (pgD p),some (roD row),some (rmD R),.(r h.length),.(r (h.length+1)),a]/\h1=HQ h ((nms p.ce).map .str) ((cmN p).map .str) J/\(row.take (t+1)).all (askH p R)=true) (λd h1=>d=.bl false/\(∃j,h1=h++j)/\row.all (askH p R)=false)):=λb J' mt eb hm=>by
    cases b with
    | true =>
     rw[if_neg (by decide)];have fin:forW (λγ h1=>∃(a:Option D) (J:AH),γ=[some (pgD p),some (roD row),some (rmD R),.(r h.length),.(r (h.length+1)),a]/\h1=HQ h ((nms p.ce).map .str) ((cmN p).map .str) J/\(row.take (t+1)).all (askH p R)=true) (λd h1=>d=.bl false/\(∃j,h1=h++j)/\row.all (askH p R)=false) (.nx [some (pgD p),some (roD row),some (rmD R),.(r h.length),.(r (h.length+1)),some (askD a)]) (HQ h ((nms p.ce).map .str) ((cmN p).map .str) J'):=⟨_,J',rfl,rfl,by rw[K27,eq,Z16,hp,K4i];simpa using eb.symm⟩;rcases hm with rfl|rfl|rfl
     ·exact J4 (Y6 fin)
     ·exact J4 (J4 (Y6 fin))
     ·exact J4 (J4 (J4 (Y6 fin)))
    | false =>
     rw[if_pos (show (!false)=true from rfl)];refine z0h (w8 (.bl false) rfl ⟨rfl,⟨_,rfl⟩,?_⟩);rw[Z0d];exact⟨a,am,by rw[<- eb];decide⟩
   have cn:∀(γ:G) (J:AH) (w x:Str),γ[5]?=some (.(g [.str w,.str x]))->γ[4]?=some (.(r (h.length+1)))->x∈cmN p->eM1 z09 (eVar 4) (e2 fIx (eVar 5) (λ_=>pure (.int 1))) γ (HQ h ((nms p.ce).map .str) ((cmN p).map .str) J)=.ok (.int ((cmN p).idxOf x:Nat)) (HQ h ((nms p.ce).map .str) ((cmN p).map .str) J):=λγ J w x e5 e4 hx=>by
    show (eVar 4 γ >>= λo=>z22 o >>= λn=>e2 fIx (eVar 5) (λ_=>pure (.int 1)) γ >>= λy=>z09 n y) _=_;rw[M.bind_ok (Z6 e4),M.bind_ok (z2C HQ1),M.bind_ok (e2_h (Z6 e5) (y:=.int 1) rfl (by rw[ix1];rfl))];exact z6B (enc:=.str) eq_S (z3n _) (by unfold cmN;rw[K4];omega) HQ1 hx
   cases a with
   | test t' =>
    refine J6 true (cb_h (e2_h (j8 (Z6 (d:=tsD t') rfl) (by unfold tsD;rw[z0o];rfl)) (y:=.int 3) rfl (by rw[z4P];rfl))) ?_;rw[if_pos rfl];have el:∀H:AH,eLst (Z1 (eVar 5) aNil) [some (pgD p),some (roD row),some (rmD R),.(r h.length),.(r (h.length+1)),some (askD (.test t'))] H=.ok (.ref H.length) (H++[.lst ([t'].map tsD)]):=λH=>by
     show (Z1 (eVar 5) aNil _ >>= λxs=>newL xs) H=_;rw[M.bind_ok (ac_h (Z6 rfl) (ds:=[]) rfl)];exact zH1 (by simp)
    refine z0h (zW6 (b:=!([t'].all (z0E (nms p.ce) R))) (h1:=HQ h ((nms p.ce).map .str) ((cmN p).map .str) (J++[.lst ([t'].map tsD)])) (cn_h (cv_h (fn_h (ds:=[.ref (HQ h ((nms p.ce).map .str) ((cmN p).map .str) J).length,.ref h.length,rmD R]) (h1:=HQ h ((nms p.ce).map .str) ((cmN p).map .str) (J++[.lst ([t'].map tsD)])) (ac_h (by rw[<- zJ1];exact el _) (ac_h (Z6 rfl) (ac_h (Z6 rfl) rfl))) rfl (z7L (by rw[<- zJ1];exact z29) HQ0 (λu hu=>by rw[K0k.mp hu];exact gA) le (by omega))))) (out _ _ _ (by simp[askH]) (.inr (.inl rfl))))
   | can x =>
    refine J6 false (cb_h (e2_h (j8 (Z6 (d:=.tup [.str "can",.str x]) rfl) (by rw[z0o];rfl)) (y:=.int 3) rfl (by rw[z4P];rfl))) ?_;rw[if_neg (by decide)];refine z0h (J6 true (cb_h (e2_h (e2_h (Z6 (d:=.tup [.str "can",.str x]) rfl) (y:=.int 0) rfl (by rw[ix0];rfl)) (y:=.str "can") rfl (z42 (by decide +kernel)))) ?_);rw[if_pos rfl];obtain⟨c,ec,cm⟩:=zj9 gA;have row1:∀(γ:G) (J:AH),γ[0]?=some (some (pgD p))->γ[5]?=some (.(g [.str "can",.str x]))->γ[4]?=some (.(r (h.length+1)))->e2 fIx (e2 fIx (e2 fIx (eVar 0) (λ_=>pure (.int 1))) (eM1 z09 (eVar 4) (e2 fIx (eVar 5) (λ_=>pure (.int 1))))) (λ_=>pure (.int 1)) γ (HQ h ((nms p.ce).map .str) ((cmN p).map .str) J)=.ok (.tup (c.ts.map tsD)) (HQ h ((nms p.ce).map .str) ((cmN p).map .str) J):=λγ J e0 e5 e4 =>
     e2_h (x:=cmD c) (y:=.int 1) (e2_h (x:=.tup (p.cm.map cmD)) (e2_h (Z6 e0) (y:=.int 1) rfl pg1) (cn γ J _ x e5 e4 gA) (by rw[ix_tup (Y7 (by rw[K8,ec];rfl))];rfl)) rfl (by unfold cmD;rw[ix1];rfl)
    refine z0h (J6 (!(c.ts.all (z0E (nms p.ce) R))) (cn_h (cv_h (fn_h (ds:=[.tup (c.ts.map tsD),.ref h.length,rmD R]) (ac_h (row1 _ J rfl rfl rfl) (ac_h (Z6 rfl) (ac_h (Z6 rfl) rfl))) rfl (z5x HQ0 (g.gc c cm).ts le (by omega))))) (out _ _ _ (by
     show _=(match p.cm[(cmN p).idxOf x]? with
      | some c=>c.ts.all (z0E (nms p.ce) R)
      | none=>false)
     rw[ec]) (.inr (.inr rfl))))
   | last x =>
    obtain⟨ek,hx⟩:=gA;have rl:R.length=p.ce.length+1:=by rw[r.len,if_pos ek]
    obtain⟨v,ev⟩:∃v,R[p.ce.length]?=some v:=⟨_,K5 (by omega)⟩;refine J6 false (cb_h (e2_h (j8 (Z6 (d:=.tup [.str "last",.str x]) rfl) (by rw[z0o];rfl)) (y:=.int 3) rfl (by rw[z4P];rfl))) ?_;rw[if_neg (by decide)];refine z0h (J6 false (cb_h (e2_h (e2_h (Z6 (d:=.tup [.str "last",.str x]) rfl) (y:=.int 0) rfl (by rw[ix0];rfl)) (y:=.str "can") rfl (z42 (by decide +kernel)))) ?_);rw[if_neg (by decide)];refine z0h (J6 (!(decide (v=((cmN p).idxOf x:Int)))) (cb_h (e2_h (e2_h (y:=.int (p.ce.length:Nat)) (Z6 rfl) (j8 (Z6 rfl) (by rw[z4B HQ0];unfold nms;simp)) (zq3 ev)) (cn _ J "last" x rfl rfl hx) (by rw[z3Q,K6i];rfl))) (out _ _ _ (by
     show _=decide (R[p.ce.length]?=some ((cmN p).idxOf x:Int));rw[ev];simp) (.inr (.inr rfl))))
  ·rintro γ h1 ⟨a1,J,rfl,rfl,hp⟩;rw[show (Src.con (row.map askD)).items.length=row.length by simp[Src.items],K1g]at hp;exact w8 (.bl true) rfl ⟨by rw[hp],_,rfl⟩
  ·rintro d h1 ⟨rfl,⟨j,rfl⟩,hp⟩;exact⟨by rw[hp],j,rfl⟩
 obtain⟨d,h1,e1,rfl,j,rfl⟩:=key;exact z0H e1 rfl
end
section
variable {p:Pg}{R:List Int}{h:AH}
theorem z8M {i:Nat}{x:Str}{l:List Str}{neg:Bool}(e:h[i]?=.(l (l.map .str))):fIn neg (.str x) (.ref i) h=.ok (.bl (decide (x∈l) != neg)) h:=by
 have g:getL i h=.ok (l.map .str) h:=by unfold getL;rw[e]
 have t:=congrFun (zv4 (x:=x) (l:=l) (neg:=neg)) h;unfold fIn seqD at t ⊢;rw[M.bind_ok g];exact t
def z3Z (p:Pg) (R:List Int) (ms:List (Str×List (List Ask))):List Str:=(ms.filter λm=>m.2.any λl=>l.all (askH p R)).map (·.1)
theorem z9v (ms:List (Str×List (List Ask))):∀x∈z3Z p R ms,x∈ms.map (·.1):=λx hx=>by
 obtain⟨m,hm,rfl⟩:=K0r.mp hx;exact K0r.mpr ⟨m,(Z10.mp hm).1,rfl⟩
theorem z59 (ms:List (Str×List (List Ask))):(z3Z p R ms).length<=ms.length:=by
 unfold z3Z;rw[K4];exact K3l _ _
theorem zJ4 (g:GP p) (r:GR p R):z1T [pgD p,rmD R] h=.ok (.tup ((worn p R).map .str)) h:=by
 have gm:=g.gm;have l8:=gm.l8;refine z0H (j:=[.lst ((z3Z p R p.ma).map .str)]) (z13 ?_) (by simp only[y8];exact z0w _);show W (z1S [some (pgD p),some (rmD R),none,none,none,none]) h _;unfold z1S;refine z3Y (xs:=[]) (by simp) (λh=>rfl) ?_;show W (Z3 _ _ [some (pgD p),some (rmD R),.(r h.length),none,none,none]) (h++[.lst []]) _;refine z2U (λγ h1=>∃a b c,γ=[some (pgD p),some (rmD R),.(r h.length),a,b,c]/\h1=h++[.lst ((z3Z p R p.ma).map .str)]) ?_ ?_
 ·refine z0U (λt γ h1=>∃a b c,γ=[some (pgD p),some (rmD R),.(r h.length),a,b,c]/\h1=h++[.lst ((z3Z p R (p.ma.take t)).map .str)]) (λ_ _=>False) ?_;refine W.of (z0Z (e2_h (Z6 rfl) (y:=.int 2) rfl pg2)) ⟨⟨_,_,_,rfl,rfl⟩,λ_ _ _ _=>trivial,?_,?_,λ_ _ q=>q.elim⟩
  ·rintro t d γ h1 hd ⟨a1,a2,a3,rfl,rfl⟩;have hd':(p.ma.map mkD)[t]?=some d:=hd;rw[K8]at hd';obtain⟨m,eq,rfl⟩:=K06.mp hd';have mm:=K08 eq;have tk:p.ma.take (t+1)=p.ma.take t++[m]:=by rw[K27,eq];rfl
   have rl:=gm.rl m mm;obtain⟨P,eP⟩:∃P,P=z3Z p R (p.ma.take t):=⟨_,rfl⟩;have nP:m.1∉P:=λz=>by
    rw[eP]at z;have z':=z9v _ _ z;have nd:=gm.nd;rw[<- K67 (t+1) p.ma,tk,K0z,K0z]at nd;exact(K21.mp (K21.mp nd).1).2.2 m.1 z' m.1 (by simp) rfl
   have lP:P.length<=8:=by
    have:=z59 (p:=p) (R:=R) (p.ma.take t);rw[<- eP,K0e]at this;omega
   rw[<- eP];refine W.of (a:=[some (pgD p),some (rmD R),.(r h.length),.(s m.1),.(g (m.2.map roD)),a3]) rfl ?_;rw[w_cons];refine z0U (λu γ h1=>∃c,γ=[some (pgD p),some (rmD R),.(r h.length),.(s m.1),.(g (m.2.map roD)),c]/\h1=h++[.lst ((if ((m.2.take u).any λl=>l.all (askH p R))=true then P++[m.1] else P).map .str)]) (λ_ _=>False) ?_;refine W.of (z0Z (Z6 rfl)) ⟨⟨_,rfl,by simp⟩,λ_ _ _ _=>trivial,?_,?_,λ_ _ q=>q.elim⟩
   ·rintro u d γ h1 hd ⟨a3,rfl,rfl⟩;have hd':(m.2.map roD)[u]?=some d:=hd;rw[K8]at hd';obtain⟨row,er,rfl⟩:=K06.mp hd';have rm:=K08 er;have tk2:m.2.take (u+1)=m.2.take u++[row]:=by rw[K27,er];rfl
    refine W.of (a:=[some (pgD p),some (rmD R),.(r h.length),.(s m.1),.(g (m.2.map roD)),some (roD row)]) rfl ?_;have hr:=λH=>zx4 (h:=H) g r (gm.ga m mm row rm);rw[tk2,List.any_append];cases ea:(m.2.take u).any λl=>l.all (askH p R) with
    | true =>
     rw[if_pos rfl];refine J6 false (z3x (a:=false) (b:=row.all (askH p R)) (cb_h (e2_h (Z6 rfl) (Z6 rfl) (by rw[z8M (l:=P++[m.1]) (by simp),decide_eq_true (by simp)];rfl))) (cv_h (fn_h (ds:=[pgD p,roD row,rmD R]) (ac_h (Z6 rfl) (ac_h (Z6 rfl) (ac_h (Z6 rfl) rfl))) rfl (hr _)))) ?_;rw[if_neg (by decide)];exact J4 (Y6 ⟨_,rfl,by rw[Bool.true_or,if_pos rfl]⟩)
    | false =>
     rw[if_neg (by decide)];refine J6 (row.all (askH p R)) (by
      have:=z3x (a:=true) (b:=row.all (askH p R)) (γ:=[some (pgD p),some (rmD R),.(r h.length),.(s m.1),.(g (m.2.map roD)),some (roD row)]) (h:=h++[.lst (P.map .str)]) (k:=λγ=>do let d <- e2 (fIn true) (eVar 3) (eVar 2) γ;asB d) (l:=cVal (eFn 3 z0b (Z1 (eVar 0) (Z1 (eVar 5) (Z1 (eVar 1) aNil))))) (cb_h (e2_h (Z6 rfl) (Z6 rfl) (by rw[z8M (l:=P) (by simp),decide_eq_false nP];rfl))) (cv_h (fn_h (ds:=[pgD p,roD row,rmD R]) (ac_h (Z6 rfl) (ac_h (Z6 rfl) (ac_h (Z6 rfl) rfl))) rfl (hr _)));rw[K4i]at this;exact this) ?_
     cases eb:row.all (askH p R) with
     | true =>
      rw[if_pos rfl];refine z0h (z10 rfl z29 (by rw[K4];omega) (v:=.str m.1) (Z6 rfl) (J4 (J4 (Y6 ⟨_,rfl,?_⟩))));rw[z8x];simp[eb]
     | false =>
      rw[if_neg (by decide)];refine J4 (Y6 ⟨_,rfl,?_⟩);simp[eb]
   ·rintro γ h1 ⟨a3,rfl,rfl⟩;refine Y6 ⟨_,_,_,rfl,?_⟩;rw[show (Src.con (m.2.map roD)).items.length=m.2.length by simp[Src.items],K1g,tk];unfold z3Z at eP ⊢;rw[Z00,K0z,<- eP];cases ea:m.2.any λl=>l.all (askH p R)<;>simp[ea]
  ·rintro γ h1 ⟨a1,a2,a3,rfl,rfl⟩;refine⟨_,_,_,rfl,?_⟩;rw[show (Src.con (p.ma.map mkD)).items.length=p.ma.length by simp[Src.items],K1g]
 ·rintro γ h1 ⟨a1,a2,a3,rfl,rfl⟩;refine w8 (.tup ((worn p R).map .str)) (z0H (j:=[.lst ((z2R (z3Z p R p.ma)).map .str)]) (j8 (j8 (Z6 rfl) (z8S (ss:=z3Z p R p.ma) z29 (by have:=z59 (p:=p) (R:=R) p.ma;omega))) (z3I z29)) (by simp only[y8];exact z0w _)) ⟨rfl,rfl⟩
end
section
variable {γ:G}{h:AH}{k:Int}{r:AH}{i:Nat}{ns:List Str}{Q:D->AH->Prop}
theorem ats {xs:List D}{d:Int}(h0:0<=d) (h1:d<xs.length):∃x,x∈xs/\atI xs d=some x:=by
 obtain⟨j,rfl⟩:=K5j h0;have lt:j<xs.length:=by omega
 exact⟨xs[j],K30 lt,Y7 (K5 lt)⟩
theorem z5i {me:G->M (List D)}{n:Int}{xs:List D}(p:PS h k r) (hk:k<1000000) (e0:γ[0]?=some (.(r 2))) (el:∀h,eLst me γ h=newL xs h) (hn:(xs.length:Int)=n) (h0:0<n) (h1:n<1000) (c:k6 3 xs=true) (z:∀d h',d∈xs->PS h' (k+1) r->Q d h'):W (clE (e2 fIx (eLst me) (eFn 2 Z8 (Z1 (eVar 0) (Z1 (λ_=>pure (.int n)) aNil)))) γ) h Q:=by
 refine z5M p trivial ?_;show W (eLst me γ >>= λx=>(eFn 2 Z8 (Z1 (eVar 0) (Z1 (λ_=>pure (.int n)) aNil)) γ >>= λy=>fIx x y)) h _;rw[j3];refine(show W (newL xs) h _->W (eLst me γ) h _ from λ⟨a,b,e,q⟩=>⟨a,b,by rw[el,e],q⟩) ?_;refine z1D p (by omega) λh1 p1=>?_;simp only[K07,K0b,K0t,z11,j3,z0T,W_pure,Z1,aNil,e0,eFn,eVar,if_true];refine z0j p1 hk h0 (by omega) λd h2 d0 d1 p2=>?_;obtain⟨x,hx,ea⟩:=ats (xs:=xs) d0 (by omega);exact z5L p2 z1F ea ⟨_,_,p2,z4m c _ hx,λh3 p3=>z x h3 hx p3⟩
theorem zm7 (p:PS h k r) (hk:k<1000000) (e0:γ[0]?=some (.(r 2))) (e1:γ[1]?=some (.(r (i+3)))) (e:r[i]?=.(l (ns.map .str))) (l0:0<ns.length) (l8:ns.length<=8) (z:∀x h',x∈ns->PS h' (k+1) r->Q (.str x) h'):W (e2 fIx (eVar 1) (eFn 2 Z8 (Z1 (eVar 0) (Z1 (j7 fLen (Z1 (eVar 1) aNil)) aNil))) γ) h Q:=by
 simp only[K07,K0b,K0t,z11,j3,z0T,W_pure,Z1,aNil,e0,e1,e2,j7,eFn,eVar,if_true];refine zm5 p e ?_;refine z0j p hk (by rw[K4];omega) (by rw[K4];omega) λd h2 d0 d1 p2=>?_;obtain⟨x,hx,ea⟩:=ats (xs:=ns.map .str) d0 d1;obtain⟨y,hy,rfl⟩:=K0r.mp hx;exact z5L p2 e ea (z y h2 hy p2)
theorem z34 {f:List D->M D}{ma mb:G->M D}(z:W (ma γ) h λa h1=>W (mb γ) h1 λb h2=>W (f [a,b]) h2 Q):W (eFn 2 f (Z1 ma (Z1 mb aNil)) γ) h Q:=by
 simp only[K07,K0b,K0t,z11,j3,z0T,W_pure,Z1,aNil,eFn,if_true];exact z
theorem zB7 {f:List D->M D}{ma mb mc:G->M D}(z:W (ma γ) h λa h1=>W (mb γ) h1 λb h2=>W (mc γ) h2 λc h3=>W (f [a,b,c]) h3 Q):W (eFn 3 f (Z1 ma (Z1 mb (Z1 mc aNil))) γ) h Q:=by
 simp only[K07,K0b,K0t,z11,j3,z0T,W_pure,Z1,aNil,eFn,if_true];exact z
theorem z7k {ma mb:G->M D}(z:W (ma γ) h λa h1=>W (mb γ) h1 λb h2=>Q (.tup [a,b]) h2):W (eTup (Z1 ma (Z1 mb aNil)) γ) h Q:=by
 simp only[K07,K0b,K0t,z11,j3,z0T,W_pure,Z1,aNil,eTup,if_true,zV6];exact z
theorem z9k {ma mb mc:G->M D}(z:W (ma γ) h λa h1=>W (mb γ) h1 λb h2=>W (mc γ) h2 λc h3=>Q (.tup [a,b,c]) h3):W (eTup (Z1 ma (Z1 mb (Z1 mc aNil))) γ) h Q:=by
 simp only[K07,K0b,K0t,z11,j3,z0T,W_pure,Z1,aNil,eTup,if_true,zS9];exact z
theorem Y0 {a:Nat}{d:D}(e:γ[a]?=some (some d)) (z:Q d h):W (eVar a γ) h Q:=by
 simp only[W_pure,e,eVar];exact z
theorem zH7 {k:G->M Bool}{ms mr mt:G->M Out}{Q:Out->AH->Prop}(J:Bool->AH->Prop) (z:W (k γ) h J) (f:∀b h1,J b h1->W (Z3 (if b=true then ms else mr) mt γ) h1 Q):W (Z3 (sIf k ms mr) mt γ) h Q:=zI5 (z.mono f)
theorem zm8 (n:Nat) (w:Wr):y8 n (wrD w)=true:=by cases w<;>rfl
theorem z6R (n:Nat) (t:Ts):y8 n (tsD t)=true:=by
 unfold tsD;simp only[y8,k6,zm8,K4j]
theorem z97 (p:PS h k r) (hk:k<900000) (e:r[i]?=.(l (ns.map .str))) (l0:0<ns.length) (l8:ns.length<=8) (z:∀w h',GW ns w->PS h' (k+3) r->Q (wrD w) h'):W (z0k [.ref 2,.ref (i+3)]) h Q:=by
 refine z4y p trivial ?_;refine z23 ?_;show W (z1y [.(r 2),.(r (i+3))]) h _;unfold z1y;refine zH7 (λ_ h1=>PS h1 (k+1) r) ?_ λb h1 p1=>?_
 ·simp only[K00,K07,K0b,K0t,z11,j3,z0T,W_pure,Z1,aNil,e2,eFn,eVar,if_true];refine z0j p (by omega) (by decide) (by decide) λd h1 d0 d1 p1=>?_;simp only[W_pure,z1u,z4P];exact p1
 cases b with
 | true =>
  rw[if_pos rfl];refine z0h (z2T (λd h2=>∃v:Int,d=.int v/\PS h2 (k+3) r) ?_ ?_)
  ·refine z34 (Y0 rfl ?_);refine z5i (xs:=[.int 3,.int 9]) p1 (by omega) rfl (λh=>rfl) rfl (by decide) (by decide) rfl λd h2 hd p2=>?_;simp only[K0c,K1y,or_false]at hd;rcases hd with rfl|rfl
   ·exact z0j p2 (by omega) (by decide) (by decide) λd h3 d0 d1 p3=>⟨d,rfl,p3.up (by omega)⟩
   ·exact z0j p2 (by omega) (by decide) (by decide) λd h3 d0 d1 p3=>⟨d,rfl,p3.up (by omega)⟩
  ·rintro _ h2 ⟨v,rfl,p2⟩;exact⟨k+3,[],by simpa using p2,rfl,λh3 p3=>z (.num v) h3 trivial p3⟩
 | false =>
  rw[if_neg (by decide)];refine J4 (z2T (λd h2=>∃x v,x∈ns/\d=.tup [.str x,.int v]/\PS h2 (k+3) r) ?_ ?_)
  ·refine z7k (zm7 p1 (by omega) rfl rfl e l0 l8 λx h2 hx p2=>?_);simp only[K00,K07,K0b,K0t,z11,j3,z0T,W_pure,Z1,aNil,e2,eFn,eVar,if_true];refine z0j p2 (by omega) (by decide) (by decide) λd h3 d0 d1 p3=>?_;simp only[W_pure,z9q];exact⟨x,_,hx,rfl,p3.up (by omega)⟩
  ·rintro _ h2 ⟨x,v,hx,rfl,p2⟩;exact⟨k+3,[],by simpa using p2,rfl,λh3 p3=>z (.cell x v) h3 hx p3⟩
theorem zj7 (p:PS h k r) (hk:k<800000) (e:r[i]?=.(l (ns.map .str))) (l0:0<ns.length) (l8:ns.length<=8) (z:∀t h',GT ns t->PS h' (k+5) r->Q (tsD t) h'):W (z0r [.ref 2,.ref (i+3)]) h Q:=by
 refine z4y p trivial ?_;refine z23 ?_;show W (z1N [.(r 2),.(r (i+3)),none]) h _;unfold z1N;refine z07 (λd h1=>∃x,x∈ns/\d=.str x/\PS h1 (k+1) r) ?_ ?_
 ·exact zm7 p (by omega) rfl rfl e l0 l8 λx h2 hx p2=>⟨x,hx,rfl,p2⟩
 rintro _ h1 ⟨x,hx,rfl,p1⟩;refine z2T (λd h2=>∃t,GT ns t/\d=tsD t/\PS h2 (k+5) r) ?_ ?_
 ·refine z9k (Y0 rfl ?_);refine z5i (xs:=[.str "is",.str "not",.str "under"]) p1 (by omega) rfl (λh=>rfl) rfl (by decide) (by decide) rfl λd h2 hd p2=>?_;obtain⟨s,rfl,hs⟩:∃s:Str,d=.str s/\(s = "is"\/s = "not"\/s = "under"):=by
   simp only[K0c,K1y,or_false]at hd;rcases hd with rfl|rfl|rfl
   ·exact⟨_,rfl,.inl rfl⟩
   ·exact⟨_,rfl,.inr (.inl rfl)⟩
   ·exact⟨_,rfl,.inr (.inr rfl)⟩
  refine z34 (Y0 rfl (Y0 rfl ?_));exact z97 p2 (by omega) e l0 l8 λw h3 gw p3=>⟨⟨x,s,w⟩,⟨hx,gw,hs⟩,rfl,p3.up (by omega)⟩
 ·rintro _ h2 ⟨t,gt,rfl,p2⟩;exact⟨k+5,[],by simpa using p2,z6R _ _,λh3 p3=>z t h3 gt p3⟩
theorem zl8 {ma:G->M D}{Q:Src->AH->Prop}(z:W (ma γ) h λd h1=>∃n:Nat,d=.int (n:Nat)/\n<=1000000/\Q (.con (z1h n)) h1):W (z0s ma γ) h Q:=by
 obtain⟨_,h1,e,n,rfl,hn,q⟩:=z;exact W.of (z55 e (by omega)) q
theorem zx9 (p:PS h k r) (hk:k<700000) (e:r[i]?=.(l (ns.map .str))) (l0:0<ns.length) (l8:ns.length<=8) (e0:γ[0]?=some (.(r 2))) (e2:γ[2]?=some (.(r (i+3)))) (z:∀(ts:List Ts) h',(∀t∈ts,GT ns t)->ts.length<=4->PS h' (k+21) r->Q (.tup (ts.map tsD)) h') :
 W (clE (j7 Y2 (Z1 (z0C [some 0,some 2,none] (z0s (clE (FT.e2 fIx (eLst (Z1 (λ_=>pure (.int 0)) (Z1 (λ_=>pure (.int 1)) (Z1 (λ_=>pure (.int 1)) (Z1 (λ_=>pure (.int 2)) (Z1 (λ_=>pure (.int 4)) aNil)))))) (eFn 2 Z8 (Z1 (eVar 0) (Z1 (λ_=>pure (.int 5)) aNil)))))) (gN 2) (λ_=>pure true) (eFn 2 z0r (Z1 (eVar 0) (Z1 (eVar 1) aNil)))) aNil)) γ) h Q:=by
 refine z5M p trivial ?_;simp only[j7,Z1,aNil,j3,W_pure];refine z75 (r:=r) (l:=[]) (λc xs k'=>∃ts:List Ts,xs=ts.map tsD/\(∀t∈ts,GT ns t)/\ts.length=c/\k'=k+1+5 * c) ?_;refine zl8 (z5i (xs:=[.int 0,.int 1,.int 1,.int 2,.int 4]) p (by omega) e0 (λh=>rfl) rfl (by decide) (by decide) rfl λd h1 hd p1=>?_);obtain⟨n,rfl,hn⟩:∃n:Nat,d=.int (n:Nat)/\n<=4:=by
  simp only[K0c,K1y,or_false]at hd;rcases hd with rfl|rfl|rfl|rfl|rfl
  ·exact⟨0,rfl,by omega⟩
  ·exact⟨1,rfl,by omega⟩
  ·exact⟨1,rfl,by omega⟩
  ·exact⟨2,rfl,by omega⟩
  ·exact⟨4,rfl,by omega⟩
 refine⟨n,rfl,by omega,k+1,by simpa using p1,⟨[],rfl,by simp,rfl,by simp⟩,λ_ _ _ _=>trivial,?_,?_⟩
 ·rintro c d h2 k2 xs hd ⟨ts,rfl,g,lc,rfl⟩ p2;obtain⟨rfl,hc⟩:=z3T hd;simp only[capG,K0i,K4t,e0,e2,K6c,K6d];simp only[gN,W_pure,K0q,K0m,if_true];refine z34 (Y0 rfl (Y0 rfl ?_));refine zj7 (ns:=ns) p2 (by omega) (z0F e) l0 l8 λt h3 gt p3=>?_;refine⟨_,p3,by rw[K4];omega,ts++[t],by simp,λu hu=>?_,by simp[lc],by omega⟩;rcases K0n.mp hu with q|q
  ·exact g u q
  ·rw[K0k]at q;subst q;exact gt
 ·rintro h2 xs k2 ⟨ts,rfl,g,lc,rfl⟩ p2;rw[show (Src.con (z1h n)).items.length=n by simp[Src.items,z1h]]at lc p2;exact z3w (i:=0) p2 rfl ⟨_,_,p2,by simp only[y8];exact q5 λa=>z6R _ a,λh3 p3=>z ts h3 g (by omega) (p3.up (by omega))⟩
end
section
variable {γ:G}{h:AH}{k:Int}{r:AH}{i:Nat}{ns:List Str}{Q:D->AH->Prop}
theorem e2_w {f:D->D->M D}{ma mb:G->M D}(z:W (ma γ) h λa h1=>W (mb γ) h1 λb h2=>W (f a b) h2 Q):W (e2 f ma mb γ) h Q:=by
 simp only[j3,e2];exact z
theorem lo_w {t:Nat}{xs:List D}(p:PS h k r) (ea:γ[2]?=some (.(r (i+3)))) (et:γ[4]?=some (.(i (t:Nat)))) (e:r[i]?=.(l xs)) (hl:xs.length<=1000) (z:∀h',PS h' k (r++[.lst (xs.drop t)])->Q (.ref (r.length+3)) h'):W (z0G (eVar 2) (z1P (eVar 4)) z20 γ) h Q:=by
 simp only[j3,W_pure,z0G,eVar,ea,et,z20,z1P];show W (getL (i+3) >>= λxs=>newL (cutD xs (some (t:Int)) none)) h _;rw[j3];refine z2O p e ?_;rw[zP6];exact z1D p (by rw[K3g];omega) z
theorem hi_w {a b:Nat}{t:Nat}{xs:List D}(p:PS h k r) (ea:γ[a]?=some (.(r (i+3)))) (et:γ[b]?=some (.(i (t:Nat)))) (e:r[i]?=.(l xs)) (hl:xs.length<=1000) (z:∀h',PS h' k (r++[.lst (xs.take t)])->Q (.ref (r.length+3)) h'):W (z0G (eVar a) z20 (z1P (eVar b)) γ) h Q:=by
 simp only[j3,W_pure,z0G,eVar,ea,et,z20,z1P];show W (getL (i+3) >>= λxs=>newL (cutD xs none (some (t:Int)))) h _;rw[j3];refine z2O p e ?_;rw[z7m];exact z1D p (by rw[K0e];omega) z
theorem seqW {a:Nat}{xs:List D}{Q:Src->AH->Prop}(p:PS h k r) (ea:γ[a]?=some (.(r (i+3)))) (e:r[i]?=.(l xs)) (q:Q (.lst (i+3) xs) h):W (z19 (eVar a) γ) h Q:=by
 refine W.of (a:=.lst (i+3) xs) (h':=h) ?_ q;have g:getL (i+3) h=.ok xs h:=by unfold getL;rw[p.get,e]
 unfold z19 eVar;rw[ea];show (getL (i+3) >>= λxs=>pure (Src.lst (i+3) xs)) h=_;rw[M.bind_ok g];rfl
theorem zl3 (n:Nat) (q:Str×Wr):y8 n (psD q)=true:=by
 unfold psD;simp only[y8,k6,zm8,K4j]
theorem z8Y (n:Nat) (c:Cm):y8 n (cmD c)=true:=by
 unfold cmD;simp only[y8,k6,K4j,K4i,K0f];exact⟨q5 λa=>z6R _ a,q5 λa=>zl3 _ a⟩
theorem zG5 {rot:List Str}{j:Nat}(p:PS h k r) (hk:k<600000) (e:r[i]?=.(l (ns.map .str))) (l0:0<ns.length) (l8:ns.length<=8) (er:r[j]?=.(l (rot.map .str))) (lr:rot.length<=8) (e0:γ[0]?=some (.(r 2))) (e2:γ[2]?=some (.(r (i+3)))) (e5:γ[5]?=some (.(r (j+3))))
 (z:∀(ps:List (Str×Wr)) h',(ps.map (·.1)).Sublist rot->(∀q∈ps,GW ns q.2)->PS h' (k+40) r->Q (.tup (ps.map psD)) h') :
 W (clE (j7 Y2 (Z1 (z0C [some 0,some 2,none] (z19 (eVar 5)) (gN 2) (λγ=>do let d <- FT.e2 fGt (eFn 2 Z8 (Z1 (eVar 0) (Z1 (λ_=>pure (.int 3)) aNil))) (λ_=>pure (.int 0)) γ;asB d) (eTup (Z1 (eVar 2) (Z1 (eFn 2 z0k (Z1 (eVar 0) (Z1 (eVar 1) aNil))) aNil)))) aNil)) γ) h Q:=by
 refine z5M p trivial ?_;simp only[j7,Z1,aNil,j3,W_pure];refine z75 (r:=r) (l:=[]) (λc xs k'=>∃ps:List (Str×Wr),xs=ps.map psD/\(ps.map (·.1)).Sublist (rot.take c)/\(∀q∈ps,GW ns q.2)/\k'=k+4 * c) ?_;refine seqW p e5 er ⟨k,by simpa using p,⟨[],rfl,by simp,by simp,by simp⟩,λh' k' xs' ph=>?_,?_,?_⟩
 ·show h'[j+3]?=_;rw[ph.get,z0F er]
 ·rintro c d h2 k2 xs hd ⟨ps,rfl,sl,g,rfl⟩ p2;have hd':(rot.map D.str)[c]?=some d:=hd;rw[K8]at hd';obtain⟨y,ey,rfl⟩:=K06.mp hd';obtain⟨lc,ey'⟩:=K7.mp ey;have tk:rot.take (c+1)=rot.take c++[y]:=by rw[<- ey',K64 lc]
  have l8':ps.length<=8:=by
   have:=sl.length_le;rw[K4,K0e]at this;omega
  simp only[capG,K0i,K4t,e0,e2,K6c,K6d];simp only[gN,W_pure,K0q,K0m];refine W.mono (Q:=λ(t:Bool) h3=>PS h3 (k+4 * c+1) (r++([]++[.lst (ps.map psD)]))) ?_ λt h3 p3=>?_
  ·simp only[FT.e2,K00,K07,K0b,K0t,z11,j3,z0T,W_pure,Z1,aNil,eFn,eVar,if_true];refine z0j p2 (by omega) (by decide) (by decide) λd h3 d0 d1 p3=>?_;simp only[W_pure,z1u,z9E];exact p3
  ·cases t with
   | true =>
    rw[if_pos rfl];refine z7k (Y0 rfl (z34 (Y0 rfl (Y0 rfl ?_))));refine z97 (ns:=ns) p3 (by omega) (z0F e) l0 l8 λw h4 gw p4=>?_;refine⟨_,p4,by rw[K4];omega,ps++[(y,w)],by simp[psD],?_,λq hq=>?_,by omega⟩
    ·rw[tk,K0z];exact sl.append (List.Sublist.refl _)
    ·rcases K0n.mp hq with z|z
     ·exact g q z
     ·rw[K0k]at z;subst z;exact gw
   | false =>
    rw[if_neg (by decide)];exact⟨_,p3.up (by omega),ps,rfl,by rw[tk];exact sl.trans (List.sublist_append_left _ _),g,rfl⟩
 ·rintro h2 xs k2 ⟨ps,rfl,sl,g,rfl⟩ p2;rw[show (Src.lst (j+3) (rot.map D.str)).items.length=rot.length by simp[Src.items]]at sl p2;rw[K1g]at sl;exact z3w (i:=0) p2 rfl ⟨_,_,p2,by simp only[y8];exact q5 λa=>zl3 _ a,λh3 p3=>z ps h3 sl g (p3.up (by omega))⟩
theorem z9R {x:Str}(p:PS h k r) (hk:k<500000) (e:r[i]?=.(l (ns.map .str))) (nd:ns.Nodup) (l0:0<ns.length) (l4:ns.length<=4) (z:∀c h',c.x=x->GC ns c->PS h' (k+100) r->Q (cmD c) h'):W (z0p [.ref 2,.str x,.ref (i+3)]) h Q:=by
 refine z4y p trivial ?_;refine z23 ?_;show W (z0O [.(r 2),.(s x),.(r (i+3)),none,none,none,none]) h _;unfold z0O;refine z07 (λd h1=>∃ts:List Ts,d=.tup (ts.map tsD)/\(∀t∈ts,GT ns t)/\ts.length<=4/\PS h1 (k+21) r) ?_ ?_
 ·exact zx9 p (by omega) e l0 (by omega) rfl rfl λts h1 g l p1=>⟨ts,rfl,g,l,p1⟩
 rintro _ h1 ⟨ts,rfl,gts,lts,p1⟩;refine z07 (λd h2=>∃t:Nat,d=.int (t:Nat)/\PS h2 (k+22) r) ?_ ?_
 ·simp only[K0a,K00,K07,K0b,K0q,K0m,K0t,z11,j3,z0T,W_pure,Z1,aNil,j7,eFn,eVar,if_true];refine zm5 p1 e ?_;refine z0j p1 (by omega) (by rw[K4];omega) (by rw[K4];omega) λd h2 d0 d1 p2=>?_;exact⟨d.toNat,by rw[K2v d0],p2.up (by omega)⟩
 rintro _ h2 ⟨t,rfl,p2⟩;refine z07 (λd h3=>d=.ref (r.length+2+3)/\PS h3 (k+22) (r++[.lst ((ns.map .str).drop t),.lst ((ns.map .str).take t),.lst ((ns.drop t++ns.take t).map .str)])) ?_ ?_
 ·refine e2_w (lo_w p2 rfl rfl e (by rw[K4];omega) λh3 p3=>?_);refine hi_w p3 rfl rfl (z0F e) (by rw[K4];omega) λh4 p4=>?_;rw[K10]at p4;rw[show (r++[O.lst ((ns.map D.str).drop t)]).length=r.length+1 by simp];refine zP2 (i:=0) (j:=r.length+1) (ys:=(ns.map D.str).take t) p4 rfl (by rw[at_E];rfl) (by rw[K3g,K0e,K4];omega) λh5 p5=>?_;refine⟨rfl,?_⟩;rw[K0z,List.map_drop,K4h];exact p5
 rintro _ h3 ⟨rfl,p3⟩;refine z07 (λd h4=>∃ps:List (Str×Wr),d=.tup (ps.map psD)/\(ps.map (·.1)).Sublist (ns.drop t++ns.take t)/\(∀q∈ps,GW ns q.2)/\PS h4 (k+62) (r++[.lst ((ns.map .str).drop t),.lst ((ns.map .str).take t),.lst ((ns.drop t++ns.take t).map .str)])) ?_ ?_
 ·refine zG5 (j:=r.length+2) p3 (by omega) (z0F e) l0 (by omega) (by rw[at_E];rfl) (by rw[K04,K3g,K0e];omega) rfl rfl rfl λps h4 sl g p4=>⟨ps,rfl,sl,g,p4.up (by omega)⟩
 rintro _ h4 ⟨ps,rfl,sl,gps,p4⟩;refine z2T (λd h5=>d=cmD ⟨x,ts,ps⟩/\h5=h4) (z9k (Y0 rfl (Y0 rfl (Y0 rfl ⟨rfl,rfl⟩)))) ?_;rintro _ _ ⟨rfl,rfl⟩;refine⟨_,_,p4,z8Y _ _,λh5 p5=>z _ h5 rfl ⟨gts,λq hq=>⟨?_,gps q hq⟩,?_,lts,?_⟩ (p5.up (by omega))⟩
 ·have:=sl.subset (K0r.mpr ⟨q,hq,rfl⟩);rcases K0n.mp this with z|z
  ·exact List.mem_of_mem_drop z
  ·exact K98 z
 ·refine sl.nodup ?_;have nd':=nd;rw[<- K67 t ns]at nd';exact List.perm_append_comm.nodup_iff.mp nd'
 ·have:=sl.length_le;rw[K4,K04,K3g,K0e]at this;show ps.length<=4;omega
end
theorem z8X:∀(l t:List (Int×Nat)),prN (l++t)=prN l * prN t
 | [],t=>by simp[prN]
 | q::l,t=>by
  show q.2 * prN (l++t)=q.2 * prN l * prN t;rw[z8X l t,Nat.mul_assoc]
theorem zn0 (n:Nat) (c:Ce):y8 n (ceD c)=true:=rfl
section
variable {γ:G}{h:AH}{k:Int}{r:AH}{i:Nat}{ns:List Str}{Q:D->AH->Prop}
def CeOk (c:Ce):Prop:=0<c.sz/\c.sz<=9/\0<=c.f/\c.f<c.sz
theorem zu7 {room:Nat}(p:PS h k r) (hk:k<500000) (e:r[i]?=.(l (ns.map .str))) (l4:ns.length<=8) (r1:0<room) (r40:room<=40) (z:∀ce h',nms ce=ns->(∀c∈ce,CeOk c)->prN (ce.map dimC)<=room->PS h' (k+100) r->Q (.tup (ce.map ceD)) h'):W (z1p [.ref 2,.ref (i+3),.int (room:Nat)]) h Q:=by
 refine z4y p trivial ?_;refine z23 ?_;show W (z1q [.(r 2),.(r (i+3)),.(i (room:Nat)),none,none,none]) h _;unfold z1q;refine z07 (λd h1=>d=.ref (r.length+0+3)/\PS h1 k (r++[.lst []])) ?_ ?_
 ·simp only[j3,W_pure,aNil,eLst];exact z1D p (by decide) λh1 p1=>⟨rfl,p1⟩
 rintro _ h1 ⟨rfl,p1⟩;refine z2U (λγ h2=>∃ce a b c,γ=[.(r 2),.(r (i+3)),a,.(r (r.length+0+3)),b,c]/\PS h2 (k+100) (r++[.lst (ce.map ceD)])/\nms ce=ns/\(∀c∈ce,CeOk c)/\prN (ce.map dimC)<=room) ?_ ?_
 ·refine z0U (λt γ h2=>∃(ce:List Ce) (room':Nat) (b c:Option D),γ=[.(r 2),.(r (i+3)),.(i (room':Nat)),.(r (r.length+0+3)),b,c]/\PS h2 (k+3 * t) (r++[.lst (ce.map ceD)])/\nms ce=ns.take t/\(∀c∈ce,CeOk c)/\0<room'/\room' * prN (ce.map dimC)<=room) (λ_ _=>False) ?_;refine seqW p1 rfl (z0F e) ⟨⟨[],room,_,_,rfl,by simpa using p1,by simp[nms],by simp,r1,by simp[prN]⟩,?_,?_,?_,λ_ _ q=>q.elim⟩
  ·rintro t γ h2 ⟨ce,room',b,c,rfl,p2,_⟩;show h2[i+3]?=_;rw[p2.get,z0F e]
  ·rintro t d γ h2 hd ⟨ce,room',b,c,rfl,p2,en,ok,r0,rp⟩;have hd':(ns.map D.str)[t]?=some d:=hd;rw[K8]at hd';obtain⟨x,ex,rfl⟩:=K06.mp hd';obtain⟨lt,ex'⟩:=K7.mp ex;have tk:ns.take (t+1)=ns.take t++[x]:=by rw[<- ex',K64 lt]
   have lce:ce.length<=t:=by
    have:=congrArg K6k en;unfold nms at this;rw[K4,K0e]at this;omega
   have pr1:0<prN (ce.map dimC)\/prN (ce.map dimC)=0:=by omega
   have room40:room'<=1000000\/prN (ce.map dimC)=0:=by
    rcases pr1 with q|q
    ·left;have:=Nat.le_mul_of_pos_right room' q;omega
    ·exact .inr q
   refine W.of (a:=[.(r 2),.(r (i+3)),.(i (room':Nat)),.(r (r.length+0+3)),.(s x),c]) rfl ?_;refine z07 (λd h3=>∃s:Nat,d=.int (s:Nat)/\0<s/\s<=9/\s<=room'/\PS h3 (k+3 * t+2) (r++[.lst (ce.map ceD)])) ?_ ?_
   ·refine e2_w ?_;refine W.of (a:=.int 1) (h':=h2) rfl ?_;refine z34 (Y0 rfl ?_);refine W.mono (Q:=λd h3=>∃m:Nat,d=.int (m:Nat)/\0<m/\m<=9/\m<=room'/\PS h3 (k+3 * t+1) (r++[.lst (ce.map ceD)])) ?_ ?_
    ·simp only[j7,Z1,aNil,j3,W_pure];refine z5i (xs:=[.int 9,.int 3,.int 4]) p2 (by omega) rfl (λh=>rfl) rfl (by decide) (by decide) rfl λd h3 hd p3=>?_;obtain⟨m,rfl,m0,m9⟩:∃m:Nat,d=.int (m:Nat)/\0<m/\m<=9:=by
      simp only[K0c,K1y,or_false]at hd;rcases hd with rfl|rfl|rfl
      ·exact⟨9,rfl,by omega,by omega⟩
      ·exact⟨3,rfl,by omega,by omega⟩
      ·exact⟨4,rfl,by omega,by omega⟩
     refine Y0 rfl ?_;show W (pure (D.int (if (room':Int)<(m:Int) then (room':Int) else (m:Int))):M D) h3 _;rw[W_pure];by_cases q:(room':Int)<(m:Int)
     ·rw[if_pos q];exact⟨room',rfl,r0,by omega,K01 _,p3⟩
     ·rw[if_neg q];exact⟨m,rfl,m0,m9,by omega,p3⟩
    ·rintro _ h3 ⟨m,rfl,m0,m9,mr,p3⟩;refine z0j p3 (by omega) (by omega) (by omega) λd h4 d0 d1 p4=>?_;rw[z2s,W_pure];exact⟨(1+d).toNat,by rw[K2v (by omega)],by omega,by omega,by omega,p4.up (by omega)⟩
   rintro _ h3 ⟨s,rfl,s0,s9,sr,p3⟩;refine zs6 (.int ((room' / s:Nat):Nat)) _ (show e2 fDiv (eVar 2) (eVar 5) _=_ by
    show fDiv (.int (room':Nat)) (.int (s:Nat))=_;exact zl2 s0 (by omega)) rfl ?_
   refine z90 (i:=0) rfl p3 rfl (by rw[K4];omega) (λv k'=>∃f:Int,v=ceD ⟨x,s,f⟩/\0<=f/\f<s/\k'=k+3 * t+3) ?_ ?_
   ·refine z9k (Y0 rfl (Y0 rfl (z34 (Y0 rfl (Y0 rfl ?_)))));exact z0j p3 (by omega) (by omega) (by omega) λd h4 d0 d1 p4=>⟨_,p4,d,rfl,d0,d1,by omega⟩
   rintro _ _ h4 ⟨f,rfl,f0,f1,rfl⟩ p4;refine Y6 ⟨ce++[⟨x,s,f⟩],room' / s,_,_,rfl,?_,?_,λc hc=>?_,Nat.div_pos sr s0,?_⟩
   ·have:=p4.up (k':=k+3 * ((t+1:Nat):Int)) (by omega);simpa using this
   ·unfold nms;rw[K0z,tk,<- en];rfl
   ·rcases K0n.mp hc with q|q
    ·exact ok c q
    ·rw[K0k]at q;subst q;exact⟨by show (0:Int)<(s:Int);omega,by show (s:Int)<=9;omega,f0,f1⟩
   ·rw[K0z,z8X];show room' / s * (prN (ce.map dimC) * (((s:Int).toNat) * 1))<=room;rw[K0s,Nat.mul_one,K5p (prN _) s,<- Nat.mul_assoc];exact K0x (K9b _ (K9i room' s)) rp
  ·rintro γ h2 ⟨ce,room',b,c,rfl,p2,en,ok,r0,rp⟩;rw[show (Src.lst (i+3) (ns.map D.str)).items.length=ns.length by simp[Src.items]]at p2 en;rw[K1g]at en;exact⟨ce,_,_,_,rfl,p2.up (by omega),en,ok,K0x (Nat.le_mul_of_pos_left _ r0) rp⟩
 ·rintro γ h2 ⟨ce,a,b,c,rfl,p2,en,ok,rp⟩;refine z2T (λd h3=>d=.tup (ce.map ceD)/\h3=h2) ?_ ?_
  ·simp only[j7,Z1,aNil,j3,W_pure];exact Y0 rfl (z3w (i:=0) p2 rfl ⟨rfl,rfl⟩)
  rintro _ _ ⟨rfl,rfl⟩;exact⟨_,_,p2,by simp only[y8];exact q5 λa=>zn0 _ a,λh3 p3=>z ce h3 en ok rp p3⟩
end
section
variable {γ:G}{h:AH}{k:Int}{r:AH}{i j:Nat}{N C:List Str}{kp:Bool}{Q:D->AH->Prop}
def GAn (N C:List Str) (kp:Bool):Ask->Prop
 | .test t=>GT N t
 | .can x=>x∈C
 | .last x=>kp=true/\x∈C
theorem z6l (n:Nat) (a:Ask):y8 n (askD a)=true:=by
 cases a with
 | test t=>exact z6R n t
 | can x=>rfl
 | last x=>rfl
theorem zT6 (p:PS h k r) (hk:k<700000) (e:r[i]?=.(l (N.map .str))) (l0:0<N.length) (l8:N.length<=8) (ec:r[j]?=.(l (C.map .str))) (c8:C.length<=8) (z:∀a h',GAn N C kp a->PS h' (k+10) r->Q (askD a) h'):W (z1H [.ref 2,.ref (i+3),.ref (j+3),.bl kp]) h Q:=by
 refine z4y p trivial ?_;refine z23 ?_;show W (z2m [.(r 2),.(r (i+3)),.(r (j+3)),some (.bl kp),none]) h _;unfold z2m;have e1:(λγ=>do let d <- e2 fGt (j7 fLen (Z1 (eVar 2) aNil)) (λ_=>pure (.int 0)) γ;asB d:G->M Bool) [.(r 2),.(r (i+3)),.(r (j+3)),some (.bl kp),none] h=.ok (decide (0<C.length)) h:=cb_h (e2_h (j8 (Z6 rfl) (z4B (by rw[p.get];exact ec))) (y:=.int 0) rfl (by
  rw[z9E,K4];show Res.ok (D.bl (decide ((0:Int)<(C.length:Int)))) _=_;rw[show decide ((0:Int)<(C.length:Int))=decide (0<C.length) by rw[decide_eq_decide];omega]))
 refine zH7 (λb h1=>(b=true->0<C.length)/\PS h1 (k+1) r) ?_ λb h1 ⟨hb,p1⟩=>?_
 ·by_cases q:0<C.length
  ·rw[decide_eq_true q]at e1;have w:W ((λγ=>do let d <- e2 (fEq false) (eFn 2 Z8 (Z1 (eVar 0) (Z1 (λ_=>pure (.int 2)) aNil))) (λ_=>pure (.int 0)) γ;asB d:G->M Bool) [.(r 2),.(r (i+3)),.(r (j+3)),some (.bl kp),none]) h λb h1=>(b=true->0<C.length)/\PS h1 (k+1) r:=by
    simp only[K00,K07,K0b,K0t,z11,j3,z0T,W_pure,Z1,aNil,e2,eFn,eVar,if_true];refine z0j p (by omega) (by decide) (by decide) λd h1 d0 d1 p1=>?_;simp only[W_pure,z1u,z4P];exact⟨λ_=>q,p1⟩
   obtain⟨a,b,e3,f⟩:=w;exact⟨a,b,(z9y e1).trans e3,f⟩
  ·rw[decide_eq_false q]at e1;exact⟨false,h,z8h e1,(λz=>absurd z (by decide)),p.up (by omega)⟩
 cases b with
 | true =>
  rw[if_pos rfl];have c0:=hb rfl;refine z0h (z07 (λd h2=>∃w:Str,d=.str w/\(w = "can"\/(w = "last"/\kp=true))/\PS h2 (k+2) r) ?_ ?_)
  ·refine z5M p1 trivial ?_;refine e2_w ?_;have el:∀(γ:G) (h:AH),eLst (Z1 (λ_=>pure (.str "can")) (Z1 (λ_=>pure (.str "last")) aNil)) γ h=newL [.str "can",.str "last"] h:=λγ h=>rfl;refine(show W (newL [.str "can",.str "last"]) h1 _->W (eLst _ _) h1 _ from λ⟨a,b,e,q⟩=>⟨a,b,by rw[el,e],q⟩) ?_;refine z1D p1 (by decide) λh2 p2=>?_;refine z34 (Y0 rfl ?_);refine W.of (a:=.int (1+if kp=true then 1 else 0)) (h':=h2) (e2_h (x:=.int 1) rfl (j8 (Z6 rfl) rfl) (by rw[z2s];rfl)) ?_;refine z0j p2 (by omega) (by split<;>omega) (by split<;>omega) λd h3 d0 d1 p3=>?_;cases kp with
   | true =>
    rw[if_pos rfl]at d1;have:d=0\/d=1:=by omega
    rcases this with rfl|rfl
    ·exact z5L p3 z1F rfl ⟨_,_,p3,rfl,λh4 p4=>⟨_,rfl,.inl rfl,p4.up (by omega)⟩⟩
    ·exact z5L p3 z1F rfl ⟨_,_,p3,rfl,λh4 p4=>⟨_,rfl,.inr ⟨rfl,rfl⟩,p4.up (by omega)⟩⟩
   | false =>
    rw[if_neg (by decide)]at d1;have:d=0:=by omega
    subst this;exact z5L p3 z1F rfl ⟨_,_,p3,rfl,λh4 p4=>⟨_,rfl,.inl rfl,p4.up (by omega)⟩⟩
  rintro _ h2 ⟨w,rfl,hw,p2⟩;refine z0h (z2T (λd h3=>∃a,d=askD a/\GAn N C kp a/\PS h3 (k+3) r) ?_ ?_)
  ·refine z7k (Y0 rfl ?_);refine e2_w (Y0 rfl (z34 (Y0 rfl ?_)));refine W.of (a:=.int (C.length:Nat)) (h':=h2) (j8 (Z6 rfl) (by rw[z4B (by rw[p2.get];exact ec),K4])) ?_;refine z0j p2 (by omega) (by omega) (by omega) λd h3 d0 d1 p3=>?_;obtain⟨x,hx,ea⟩:=ats (xs:=C.map D.str) d0 (by rw[K4];exact d1);obtain⟨y,hy,rfl⟩:=K0r.mp hx;refine z5L p3 ec ea ?_;rcases hw with rfl|⟨rfl,ek⟩
   ·exact⟨.can y,rfl,hy,p3.up (by omega)⟩
   ·exact⟨.last y,rfl,⟨ek,hy⟩,p3.up (by omega)⟩
  ·rintro _ h3 ⟨a,rfl,ga,p3⟩;exact⟨_,[],by simpa using p3,z6l _ a,λh4 p4=>z a h4 ga (p4.up (by omega))⟩
 | false =>
  rw[if_neg (by decide)];refine J4 (z2T (λd h3=>∃a,d=askD a/\GAn N C kp a/\PS h3 (k+6) r) ?_ ?_)
  ·exact z34 (Y0 rfl (Y0 rfl (zj7 p1 (by omega) e l0 l8 λt h3 gt p3=>⟨.test t,rfl,gt,p3.up (by omega)⟩)))
  ·rintro _ h3 ⟨a,rfl,ga,p3⟩;exact⟨_,[],by simpa using p3,z6l _ a,λh4 p4=>z a h4 ga (p4.up (by omega))⟩
end
section
variable {γ:G}{h:AH}{k:Int}{r:AH}{i j:Nat}{N C:List Str}{kp:Bool}{Q:D->AH->Prop}
theorem zU0 {f:List D->M D}{ma mb mc md:G->M D}(z:W (ma γ) h λa h1=>W (mb γ) h1 λb h2=>W (mc γ) h2 λc h3=>W (md γ) h3 λd h4=>W (f [a,b,c,d]) h4 Q):W (eFn 4 f (Z1 ma (Z1 mb (Z1 mc (Z1 md aNil)))) γ) h Q:=by
 simp only[K07,K0b,K0t,z11,j3,z0T,W_pure,Z1,aNil,eFn,if_true];exact z
theorem zk4 (n:Nat) (l:List Ask):y8 n (roD l)=true:=by
 unfold roD;simp only[y8];exact q5 λa=>z6l n a
theorem zR4 {n:Nat}(p:PS h k r) (hk:k<600000) (e:r[i]?=.(l (N.map .str))) (l0:0<N.length) (l8:N.length<=8) (ec:r[j]?=.(l (C.map .str))) (c8:C.length<=8) (n4:n<=4) (e0:γ[0]?=some (.(r 2))) (e2:γ[2]?=some (.(r (i+3)))) (e3:γ[3]?=some (.(r (j+3)))) (e4:γ[4]?=some (some (.bl kp))) (e9:γ[9]?=some (.(i (n:Nat))))
 (z:∀(l:List Ask) h',l.length<=4->(∀a∈l,GAn N C kp a)->PS h' (k+40) r->Q (roD l) h') :
 W (clE (j7 Y2 (Z1 (z0C [some 0,some 2,some 3,some 4,none] (z0s (eVar 9)) (gN 4) (λ_=>pure true) (eFn 4 z1H (Z1 (eVar 0) (Z1 (eVar 1) (Z1 (eVar 2) (Z1 (eVar 3) aNil)))))) aNil)) γ) h Q:=by
 refine z5M p trivial ?_;simp only[j7,Z1,aNil,j3,W_pure];refine z75 (r:=r) (l:=[]) (λc xs k'=>∃l:List Ask,xs=l.map askD/\(∀a∈l,GAn N C kp a)/\l.length=c/\k'=k+10 * c) ?_;refine zl8 (Y0 e9 ⟨n,rfl,by omega,k,by simpa using p,⟨[],rfl,by simp,rfl,by simp⟩,λ_ _ _ _=>trivial,?_,?_⟩)
 ·rintro c d h2 k2 xs hd ⟨l,rfl,g,lc,rfl⟩ p2;obtain⟨rfl,hc⟩:=z3T hd;simp only[capG,K0i,K4t,e0,e2,e3,e4,K6c,K6d];simp only[gN,W_pure,K0q,K0m,if_true];refine zU0 (Y0 rfl (Y0 rfl (Y0 rfl (Y0 rfl ?_))));refine zT6 p2 (by omega) (z0F e) l0 l8 (z0F ec) c8 λa h4 ga p4=>?_;refine⟨_,p4,by rw[K4];omega,l++[a],by simp,λu hu=>?_,by simp[lc],by omega⟩;rcases K0n.mp hu with z|z
  ·exact g u z
  ·rw[K0k]at z;subst z;exact ga
 ·rintro h2 xs k2 ⟨l,rfl,g,lc,rfl⟩ p2;rw[show (Src.con (z1h n)).items.length=n by simp[Src.items,z1h]]at lc p2;exact z3w (i:=0) p2 rfl ⟨_,_,p2,zk4 _ l,λh3 p3=>z l h3 (by omega) g (p3.up (by omega))⟩
theorem zK7 {me:G->M (List D)}{xs:List D}(p:PS h k r) (hk:k<1000000) (e0:γ[0]?=some (.(r 2))) (el:∀h,eLst me γ h=newL xs h) (hn:xs.length=6) (hx:∀d∈xs,∃n:Nat,d=.int (n:Nat)/\n<=4) (z:∀(n:Nat) h',n<=4->PS h' (k+1) r->Q (.int (n:Nat)) h'):W (clE (e2 fIx (eLst me) (eFn 2 Z8 (Z1 (eVar 0) (Z1 (λ_=>pure (.int 6)) aNil)))) γ) h Q:=by
 refine z5i (xs:=xs) p hk e0 el (by rw[hn];rfl) (by decide) (by decide) (z2d λx hd=>?_) λd h1 hd p1=>?_
 ·obtain⟨n,rfl,_⟩:=hx x hd;rfl
 ·obtain⟨n,rfl,n4⟩:=hx d hd;exact z n h1 n4 p1
end
section
variable {γ:G}{h:AH}{k:Int}{r:AH}{i j w:Nat}{M N C:List Str}{kp:Bool}{Q:D->AH->Prop}
def GRs (N C:List Str) (kp:Bool) (rs:List (List Ask)):Prop:=rs.length<=4/\∀l∈rs,l.length<=4/\∀a∈l,GAn N C kp a
theorem zl9 (n:Nat) (m:Str×List (List Ask)):y8 n (mkD m)=true:=by
 unfold mkD;simp only[y8,k6,K4j,K4i];exact q5 λa=>zk4 n a
theorem zz3 (p:PS h k r) (hk:k<300000) (ew:r[w]?=.(l (M.map .str))) (lM:M.length<=8) (e:r[i]?=.(l (N.map .str))) (l0:0<N.length) (l8:N.length<=8) (ec:r[j]?=.(l (C.map .str))) (c8:C.length<=8) (z:∀(ma:List (Str×List (List Ask))) h',ma.map (·.1)=M->(∀m∈ma,GRs N C kp m.2)->PS h' (k+3000) r->Q (.tup (ma.map mkD)) h'):W (z1n [.ref 2,.ref (w+3),.ref (i+3),.ref (j+3),.bl kp]) h Q:=by
 refine z4y p trivial ?_;refine z23 ?_;show W (z1z [.(r 2),.(r (w+3)),.(r (i+3)),.(r (j+3)),some (.bl kp),none,none,none,none,none]) h _;unfold z1z;refine z07 (λd h1=>d=.ref (r.length+0+3)/\PS h1 k (r++[.lst []])) ?_ ?_
 ·simp only[j3,W_pure,aNil,eLst];exact z1D p (by decide) λh1 p1=>⟨rfl,p1⟩
 rintro _ h1 ⟨rfl,p1⟩;refine z2U (λγ h2=>∃(ma:List (Str×List (List Ask))) (J:AH) (a b c d:Option D),γ=[.(r 2),.(r (w+3)),.(r (i+3)),.(r (j+3)),some (.bl kp),.(r (r.length+0+3)),a,b,c,d]/\PS h2 (k+3000) (r++.lst (ma.map mkD)::J)/\ma.map (·.1)=M/\(∀m∈ma,GRs N C kp m.2)) ?_ ?_
 ·refine z0U (λt γ h2=>∃(ma:List (Str×List (List Ask))) (J:AH) (a b c d:Option D),γ=[.(r 2),.(r (w+3)),.(r (i+3)),.(r (j+3)),some (.bl kp),.(r (r.length+0+3)),a,b,c,d]/\PS h2 (k+300 * t) (r++.lst (ma.map mkD)::J)/\ma.map (·.1)=M.take t/\(∀m∈ma,GRs N C kp m.2)) (λ_ _=>False) ?_;refine seqW p1 rfl (z0F ew) ⟨⟨[],[],_,_,_,_,rfl,by simpa using p1,by simp,by simp⟩,?_,?_,?_,λ_ _ q=>q.elim⟩
  ·rintro t γ h2 ⟨ma,J,a,b,c,d,rfl,p2,_⟩;show h2[w+3]?=_;rw[p2.get,z0F ew]
  ·rintro t d γ h2 hd ⟨ma,J,a,b,c,f,rfl,p2,em,gm⟩;have hd':(M.map D.str)[t]?=some d:=hd;rw[K8]at hd';obtain⟨x,ex,rfl⟩:=K06.mp hd';obtain⟨lt,ex'⟩:=K7.mp ex;have tk:M.take (t+1)=M.take t++[x]:=by rw[K27,ex];rfl
   have lma:ma.length<=t:=by
    have:=congrArg K6k em;rw[K4,K0e]at this;omega
   refine W.of (a:=[.(r 2),.(r (w+3)),.(r (i+3)),.(r (j+3)),some (.bl kp),.(r (r.length+0+3)),.(s x),b,c,f]) rfl ?_;refine z07 (λd h3=>d=.ref (r.length+(J.length+1)+3)/\PS h3 (k+300 * t) (r++(.lst (ma.map mkD)::J++[.lst []]))) ?_ ?_
   ·simp only[j3,W_pure,aNil,eLst];refine z1D p2 (by decide) λh3 p3=>⟨by simp,by rw[K10]at p3;exact p3⟩
   rintro _ h3 ⟨rfl,p3⟩;refine z2U (λγ h4=>∃(rs:List (List Ask)) (c d:Option D),γ=[.(r 2),.(r (w+3)),.(r (i+3)),.(r (j+3)),some (.bl kp),.(r (r.length+0+3)),.(s x),.(r ((r.length+(J.length+1)+3))),c,d]/\PS h4 (k+300 * t+250) (r++(.lst (ma.map mkD)::J++[.lst (rs.map roD)]))/\GRs N C kp rs) ?_ ?_
   ·refine z0D (λu γ h4=>∃(rs:List (List Ask)) (c d:Option D),γ=[.(r 2),.(r (w+3)),.(r (i+3)),.(r (j+3)),some (.bl kp),.(r (r.length+0+3)),.(s x),.(r ((r.length+(J.length+1)+3))),c,d]/\PS h4 (k+300 * t+1+50 * u) (r++(.lst (ma.map mkD)::J++[.lst (rs.map roD)]))/\rs.length=u/\∀l∈rs,l.length<=4/\∀a∈l,GAn N C kp a) (λ_ _=>False) ?_;refine zK7 (xs:=[.int 1,.int 0,.int 1,.int 2,.int 1,.int 4]) p3 (by omega) rfl (λh=>rfl) rfl (λd hd=>?_) λn h4 n4 p4=>⟨n,rfl,by omega,⟨[],_,_,rfl,by simpa using p4,rfl,by simp⟩,?_,?_,λ_ _ q=>q.elim⟩
    ·simp only[K0c,K1y,or_false]at hd;rcases hd with rfl|rfl|rfl|rfl|rfl|rfl
     ·exact⟨1,rfl,by omega⟩
     ·exact⟨0,rfl,by omega⟩
     ·exact⟨1,rfl,by omega⟩
     ·exact⟨2,rfl,by omega⟩
     ·exact⟨1,rfl,by omega⟩
     ·exact⟨4,rfl,by omega⟩
    ·rintro u γ h5 hu ⟨rs,c,f,rfl,p5,lrs,grs⟩;show W (Z3 _ _ [.(r 2),.(r (w+3)),.(r (i+3)),.(r (j+3)),some (.bl kp),.(r (r.length+0+3)),.(s x),.(r ((r.length+(J.length+1)+3))),.(i (u:Nat)),f]) h5 _;refine z07 (λd h6=>∃n:Nat,d=.int (n:Nat)/\n<=4/\PS h6 (k+300 * t+1+50 * u+1) (r++(.lst (ma.map mkD)::J++[.lst (rs.map roD)]))) ?_ ?_
     ·refine zK7 (xs:=[.int 1,.int 0,.int 1,.int 2,.int 4,.int 1]) p5 (by omega) rfl (λh=>rfl) rfl (λd hd=>?_) λn h6 n4 p6=>⟨n,rfl,n4,p6⟩;simp only[K0c,K1y,or_false]at hd;rcases hd with rfl|rfl|rfl|rfl|rfl|rfl
      ·exact⟨1,rfl,by omega⟩
      ·exact⟨0,rfl,by omega⟩
      ·exact⟨1,rfl,by omega⟩
      ·exact⟨2,rfl,by omega⟩
      ·exact⟨4,rfl,by omega⟩
      ·exact⟨1,rfl,by omega⟩
     rintro _ h6 ⟨n,rfl,n4,p6⟩;refine z90 (i:=J.length+1) (xs:=rs.map roD) rfl p6 (by simp) (by rw[K4];omega) (λv k'=>∃l:List Ask,v=roD l/\l.length<=4/\(∀a∈l,GAn N C kp a)/\k'=k+300 * t+1+50 * u+41) ?_ ?_
     ·exact zR4 p6 (by omega) (z0F e) l0 l8 (z0F ec) c8 n4 rfl rfl rfl rfl rfl λl h7 l4 ga p7=>⟨_,p7,l,rfl,l4,ga,by omega⟩
     rintro _ _ h7 ⟨l,rfl,l4,ga,rfl⟩ p7;refine Y6 ⟨rs++[l],_,_,rfl,?_,by simp[lrs],λq hq=>?_⟩
     ·have es:(O.lst (ma.map mkD)::J++[O.lst (rs.map roD)]).set (J.length+1) (.lst (rs.map roD++[roD l]))=.lst (ma.map mkD)::J++[.lst ((rs++[l]).map roD)]:=by
       rw[K0z];simp
      rw[es]at p7;exact p7.up (by omega)
     ·rcases K0n.mp hq with z|z
      ·exact grs q z
      ·rw[K0k]at z;subst z;exact⟨l4,ga⟩
    ·rintro γ h5 ⟨rs,c,f,rfl,p5,lrs,grs⟩;exact⟨rs,_,_,rfl,p5.up (by omega),by omega,grs⟩
   rintro γ h4 ⟨rs,c,f,rfl,p4,grs⟩;refine z90 (i:=0) (l:=.lst (ma.map mkD)::J++[.lst (rs.map roD)]) rfl p4 rfl (by rw[K4];omega) (λv k'=>v=mkD (x,rs)/\k'=k+300 * t+250) ?_ ?_
   ·refine z7k (Y0 rfl ?_);simp only[j7,Z1,aNil,j3,W_pure];refine Y0 rfl (z3w (i:=J.length+1) p4 (by simp) ⟨_,p4,rfl,rfl⟩)
   rintro _ _ h5 ⟨rfl,rfl⟩ p5;refine Y6 ⟨ma++[(x,rs)],J++[.lst (rs.map roD)],_,_,_,_,rfl,?_,?_,λm hm=>?_⟩
   ·have:=p5.up (k':=k+300 * ((t+1:Nat):Int)) (by omega);simpa using this
   ·rw[K0z,em,tk];rfl
   ·rcases K0n.mp hm with z|z
    ·exact gm m z
    ·rw[K0k]at z;subst z;exact grs
  ·rintro γ h2 ⟨ma,J,a,b,c,d,rfl,p2,em,gm⟩;rw[show (Src.lst (w+3) (M.map D.str)).items.length=M.length by simp[Src.items]]at p2 em;rw[K1g]at em;exact⟨ma,J,_,_,_,_,rfl,p2.up (by omega),em,gm⟩
 ·rintro γ h2 ⟨ma,J,a,b,c,d,rfl,p2,em,gm⟩;refine z2T (λd h3=>d=.tup (ma.map mkD)/\h3=h2) ?_ ?_
  ·simp only[j7,Z1,aNil,j3,W_pure];exact Y0 rfl (z3w (i:=0) p2 rfl ⟨rfl,rfl⟩)
  rintro _ _ ⟨rfl,rfl⟩;exact⟨_,_,p2,by simp only[y8];exact q5 λa=>zl9 _ a,λh3 p3=>z ma h3 em gm p3⟩
end
section
variable {γ:G}{h:AH}{k:Int}{r:AH}{i:Nat}{ns:List Str}{Q:D->AH->Prop}
theorem zD4 {A:List Str}{j:Nat}(p:PS h k r) (hk:k<400000) (e:r[i]?=.(l (ns.map .str))) (nd:ns.Nodup) (l0:0<ns.length) (l4:ns.length<=4) (ea:r[j]?=.(l (A.map .str))) (la:A.length<=8) (e0:γ[0]?=some (.(r 2))) (e7:γ[7]?=some (.(r (j+3)))) (e8:γ[8]?=some (.(r (i+3))))
 (z:∀(cm:List Cm) h',(∀c∈cm,GC ns c)->cm.map (·.x)=A->PS h' (k+1000) r->Q (.tup (cm.map cmD)) h') :
 W (clE (j7 Y2 (Z1 (z0C [some 0,some 8,none] (z19 (eVar 7)) (gN 2) (λ_=>pure true) (eFn 3 z0p (Z1 (eVar 0) (Z1 (eVar 2) (Z1 (eVar 1) aNil))))) aNil)) γ) h Q:=by
 refine z5M p trivial ?_;simp only[j7,Z1,aNil,j3,W_pure];refine z75 (r:=r) (l:=[]) (λc xs k'=>∃cm:List Cm,xs=cm.map cmD/\(∀q∈cm,GC ns q)/\cm.map (·.x)=A.take c/\k'=k+100 * c) ?_;refine seqW p e7 ea ⟨k,by simpa using p,⟨[],rfl,by simp,by simp,by simp⟩,λh' k' xs' ph=>?_,?_,?_⟩
 ·show h'[j+3]?=_;rw[ph.get,z0F ea]
 ·rintro c d h2 k2 xs hd ⟨cm,rfl,g,lc,rfl⟩ p2;have hd':(A.map D.str)[c]?=some d:=hd;rw[K8]at hd';obtain⟨y,ey,rfl⟩:=K06.mp hd';have lt:=(K7.mp ey).1;have tkA:A.take (c+1)=A.take c++[y]:=by rw[K27,ey];rfl
  have lcc:cm.length<=c:=by
   have:=congrArg K6k lc;rw[K4,K0e]at this;omega
  simp only[capG,K0i,K4t,e0,e8,K6c,K6d];simp only[gN,W_pure,K0q,K0m,if_true];refine zB7 (Y0 rfl (Y0 rfl (Y0 rfl ?_)));refine z9R p2 (by omega) (z0F e) nd l0 l4 λq h4 eq gq p4=>?_;refine⟨_,p4,by rw[K4];omega,cm++[q],by simp,λu hu=>?_,by rw[K0z,lc,tkA,<- eq];rfl,by omega⟩;rcases K0n.mp hu with z|z
  ·exact g u z
  ·rw[K0k]at z;subst z;exact gq
 ·rintro h2 xs k2 ⟨cm,rfl,g,lc,rfl⟩ p2;rw[show (Src.lst (j+3) (A.map D.str)).items.length=A.length by simp[Src.items]]at lc p2;rw[K1g]at lc;exact z3w (i:=0) p2 rfl ⟨_,_,p2,by simp only[y8];exact q5 λa=>z8Y _ a,λh3 p3=>z cm h3 g lc (p3.up (by omega))⟩
end
section
variable {γ:G}{h:AH}{k:Int}{r:AH}{Q:D->AH->Prop}
theorem zx8 {ns:List Str}(n:Nat) (s:NS ns):(ns.take n).Nodup:=s.1.sublist (K7j _ _)
theorem zB9 (n:Nat) (p:Pg):y8 n (pgD p)=true:=by
 unfold pgD;simp only[y8,k6,K4j,K4i,K0f];exact⟨q5 λa=>zn0 _ a,q5 λa=>z8Y _ a,q5 λa=>zl9 _ a⟩
theorem if_w {kk:G->M Bool}{ms mr:G->M Out}{b:Bool}{Q:Out->AH->Prop}(e:kk γ h=.ok b h) (z:W ((if b=true then ms else mr) γ) h Q):W (sIf kk ms mr γ) h Q:=by
 obtain⟨o,h',e2,q⟩:=z;refine⟨o,h',?_,q⟩;unfold sIf;rw[M.bind_ok e,<- e2];cases b<;>rfl
theorem zQ7:((4:Nat)<=sizeLine)=True:=by simp[sizeLine]
theorem zX2 {f:List D->M D}{ma mb mc md me:G->M D}(z:W (ma γ) h λa h1=>W (mb γ) h1 λb h2=>W (mc γ) h2 λc h3=>W (md γ) h3 λd h4=>W (me γ) h4 λe h5=>W (f [a,b,c,d,e]) h5 Q):W (eFn 5 f (Z1 ma (Z1 mb (Z1 mc (Z1 md (Z1 me aNil))))) γ) h Q:=by
 simp only[K07,K0b,K0t,z11,j3,z0T,W_pure,Z1,aNil,eFn,if_true];exact z
theorem zH5 {ma mb mc md:G->M D}(z:W (ma γ) h λa h1=>W (mb γ) h1 λb h2=>W (mc γ) h2 λc h3=>W (md γ) h3 λd h4=>Q (.tup [a,b,c,d]) h4):W (eTup (Z1 ma (Z1 mb (Z1 mc (Z1 md aNil)))) γ) h Q:=by
 simp only[K07,K0b,K0t,z11,j3,z0T,W_pure,Z1,aNil,eTup,if_true,zQ7];exact z
theorem z9H {cmds mks room0:Nat}(p:PS h k r) (hk:k<100000) (hc:cmds<=8) (hm:mks<=4) (hr9:9<=room0) (hr40:room0<=40) (z:∀pg h',GP pg->prN (dims pg)<=40->PS h' (k+5000) r->Q (pgD pg) h'):W (v9 [.ref 2,.int (room0:Nat),.int (cmds:Nat),.int (mks:Nat)]) h Q:=by
 refine z4y p trivial ?_;refine z23 ?_;show W (z0N [.(r 2),.(i (room0:Nat)),.(i (cmds:Nat)),.(i (mks:Nat)),none,none,none,none,none,none,none,none]) h _;unfold z0N;refine z07 (λd h1=>∃kp:Bool,d=.bl kp/\PS h1 (k+1) r) ?_ ?_
 ·refine e2_w (z34 (Y0 rfl ?_));refine W.of (a:=.int 2) (h':=h) rfl ?_;refine z0j p (by omega) (by decide) (by decide) λd h1 d0 d1 p1=>?_;refine W.of (a:=.int 1) (h':=h1) rfl ?_;rw[z4P,W_pure];exact⟨_,rfl,p1⟩
 rintro _ h1 ⟨kp,rfl,p1⟩;refine z07 (λd h1=>∃sh:Bool,d=.bl sh/\PS h1 (k+2) r) ?_ ?_
 ·refine e2_w (z34 (Y0 rfl ?_));refine W.of (a:=.int 3) (h':=h1) rfl ?_;refine z0j p1 (by omega) (by decide) (by decide) λd h1 d0 d1 p1=>?_;refine W.of (a:=.int 0) (h':=h1) rfl ?_;rw[z4P,W_pure];exact⟨_,rfl,p1.up (by omega)⟩
 rintro _ h2 ⟨sh,rfl,p2⟩;refine z07 (λd h1=>∃m:Nat,d=.int (m:Nat)/\0<m/\m<=4/\PS h1 (k+3) r) ?_ ?_
 ·simp only[K00,K07,K0b,K0q,K0m,K0t,z11,j3,z0T,W_pure,Z1,aNil,e2,eFn,eVar,if_true];refine z0j p2 (by omega) (by decide) (by decide) λd h1 d0 d1 p1=>?_;rw[z2s,W_pure];exact⟨(1+d).toNat,by rw[K2v (by omega)],by omega,by omega,p1.up (by omega)⟩
 rintro _ h3 ⟨m,rfl,m0,m4,p3⟩;refine z07 (λd h1=>∃c:Nat,d=.int (c:Nat)/\c<=cmds/\PS h1 (k+4) r) ?_ ?_
 ·simp only[K0a,K00,K07,K0b,K0q,K0m,K0t,z11,j3,z0T,W_pure,Z1,aNil,z2s,e2,eFn,eVar,if_true];refine z0j p3 (by omega) (by omega) (by omega) λd h1 d0 d1 p1=>?_;exact⟨d.toNat,by rw[K2v (by omega)],by omega,p1.up (by omega)⟩
 rintro _ h4 ⟨c,rfl,cc,p4⟩;refine z07 (λd h1=>∃mm:Nat,d=.int (mm:Nat)/\mm<=mks/\PS h1 (k+5) r) ?_ ?_
 ·simp only[K0a,K00,K07,K0b,K0q,K0m,K0t,z11,j3,z0T,W_pure,Z1,aNil,z2s,e2,eFn,eVar,if_true];refine z0j p4 (by omega) (by omega) (by omega) λd h1 d0 d1 p1=>?_;exact⟨d.toNat,by rw[K2v (by omega)],by omega,p1.up (by omega)⟩
 rintro _ h5 ⟨mm,rfl,lmm,p5⟩;refine z07 (λd h1=>∃A:List Str,A.length=8/\NS A/\d=.ref (r.length+3)/\PS h1 (k+50) (r++[.lst (A.map .str)])) ?_ ?_
 ·refine z34 (Y0 rfl ?_);refine W.of (a:=.int 8) (h':=h5) rfl ?_;exact z5m (n:=8) p5 trivial (by omega) (by decide) λns h' l s q=>⟨ns,l,s,rfl,q.up (by omega)⟩
 rintro _ h6 ⟨A,lA,sA,rfl,p6⟩;refine z07 (λd h1=>d=.ref (r.length+1+3)/\PS h1 (k+50) (r++[.lst (A.map .str),.lst ((A.take m).map .str)])) ?_ ?_
 ·refine hi_w p6 rfl rfl z1F (by rw[K4];omega) λh7 p7=>⟨by simp,?_⟩;rw[K10,<- K4h]at p7;exact p7
 rintro _ h7 ⟨rfl,p7⟩;refine z07 (λd h1=>∃X,d=.ref (r.length+3+3)/\PS h1 (k+50) (r++[.lst (A.map .str),.lst ((A.take m).map .str),X,.lst ((A.reverse.take mm).map .str)])) ?_ ?_
 ·have e:∀γ:G,γ[7]?=some (.(r (r.length+3)))->γ[3]?=some (.(i (mm:Nat)))->W (z0G (eRev (eVar 7) (eNeg (λ_=>pure (.int 1)))) z20 (z1P (eVar 3)) γ) h7 λd h1=>∃X,d=.ref (r.length+3+3)/\PS h1 (k+50) (r++[.lst (A.map .str),.lst ((A.take m).map .str),X,.lst ((A.reverse.take mm).map .str)]):=λγ ea eb=>by
   unfold z0G;rw[j3];have er:eRev (eVar 7) (eNeg (λ_=>pure (.int 1))) γ=fRev (.ref (r.length+3)):=by
    unfold eRev eNeg eVar;rw[ea];rfl
   rw[er];show W (getL (r.length+3) >>= λxs=>newL xs.reverse) h7 _;rw[j3];refine z2O p7 (at_E (i:=0)) ?_;refine z1D p7 (by rw[K2t,K4];omega) λh8 p8=>?_;simp only[j3,W_pure,eVar,eb,z20,z1P];show W (getL _ >>= λxs=>newL (cutD xs none (some (mm:Int)))) h8 _;rw[j3];refine z2O p8 z1F ?_;rw[z7m];refine z1D p8 (by rw[K0e,K2t,K4];omega) λh9 p9=>⟨.lst ((A.map D.str).reverse),by simp,?_⟩;rw[show (A.reverse.take mm).map D.str=(A.map D.str).reverse.take mm by rw[K4h,List.map_reverse]];simpa using p9
  exact e _ rfl rfl
 rintro _ h8 ⟨X,rfl,p8⟩;refine z2U (λγ h9=>∃(l:AH) (ci wi:Nat) (N M:List Str),γ=[.(r 2),.(i (room0:Nat)),.(i (c:Nat)),.(i (mm:Nat)),some (.bl kp),some (.bl sh),.(i (m:Nat)),.(r (r.length+3)),.(r (ci+3)),.(r (wi+3)),none,none]/\PS h9 (k+150) (r++.lst (A.map .str)::l)/\(r++.lst (A.map .str)::l)[ci]?=.(l (N.map .str))/\(r++.lst (A.map .str)::l)[wi]?=.(l (M.map .str))/\N.Nodup/\N.length=m/\M.Nodup/\M.length<=8) ?_ ?_
 ·have ln:∀{Q:D->AH->Prop} (γ:G) (n:Nat) (a:Nat) (h:AH) (k':Int) (r':AH),PS h k' r'->k'<800000->n<=8->γ[0]?=some (.(r 2))->γ[a]?=some (.(i (n:Nat)))->(∀ns h',ns.length=n->NS ns->PS h' (k'+45) (r'++[.lst (ns.map .str)])->Q (.ref (r'.length+3)) h')->W (eFn 2 z0i (Z1 (eVar 0) (Z1 (eVar a) aNil)) γ) h Q:=λγ n a h k' r' p hk hn e0 ea z=>z34 (Y0 e0 (Y0 ea (z5m p trivial hk hn z)));refine if_w (b:=!sh) (cn_h (cv_h (Z6 rfl))) ?_;cases sh with
  | true =>
   rw[if_neg (by decide)];exact Y6 ⟨[.lst ((A.take m).map .str),X,.lst ((A.reverse.take mm).map .str)],r.length+1,r.length+3,A.take m,A.reverse.take mm,rfl,p8.up (by omega),by rw[at_E];rfl,by rw[at_E];rfl,zx8 m sA,by rw[K0e];omega,((List.reverse_perm A).nodup_iff.mpr sA.1).sublist (K7j _ _),by rw[K0e,K2t];omega⟩
  | false =>
   rw[if_pos (show (!false)=true from rfl)];refine z07 (λd h1=>∃N:List Str,N.length=m/\NS N/\d=.ref (r.length+4+3)/\PS h1 (k+95) (r++[.lst (A.map .str),.lst ((A.take m).map .str),X,.lst ((A.reverse.take mm).map .str),.lst (N.map .str)])) ?_ ?_
   ·refine ln _ m 6 _ _ _ p8 (by omega) (by omega) rfl rfl λns h' l s q=>⟨ns,l,s,by simp,?_⟩;rw[K10]at q;exact q.up (by omega)
   rintro _ h9 ⟨N,lN,sN,rfl,p9⟩;refine z07 (λd h1=>∃M:List Str,M.length=mm/\NS M/\d=.ref (r.length+5+3)/\PS h1 (k+140) (r++[.lst (A.map .str),.lst ((A.take m).map .str),X,.lst ((A.reverse.take mm).map .str),.lst (N.map .str),.lst (M.map .str)])) ?_ ?_
   ·refine ln _ mm 3 _ _ _ p9 (by omega) (by omega) rfl rfl λns h' l s q=>⟨ns,l,s,by simp,?_⟩;rw[K10]at q;exact q.up (by omega)
   rintro _ h10 ⟨M,lM,sM,rfl,p10⟩;exact Y6 ⟨[.lst ((A.take m).map .str),X,.lst ((A.reverse.take mm).map .str),.lst (N.map .str),.lst (M.map .str)],r.length+4,r.length+5,N,M,rfl,p10.up (by omega),by rw[at_E];rfl,by rw[at_E];rfl,sN.1,lN,sM.1,by omega⟩
 rintro γ h9 ⟨l,ci,wi,N,M,rfl,p9,eN,eW,nN,lN,nM,lM⟩;refine z07 (λd h1=>∃(j:Nat) (s:AH),s=r++.lst (A.map .str)::(l++[.lst ((A.take c).map .str)])/\d=.ref (j+3)/\PS h1 (k+150) s/\s[j]?=.(l (((A.take c).map .str)))/\s[ci]?=.(l (N.map .str))/\s[wi]?=.(l (M.map .str))) ?_ ?_
 ·refine hi_w (a:=7) (b:=2) (i:=r.length) (xs:=A.map .str) p9 rfl rfl (by simp) (by rw[K4];omega) λh10 p10=>?_;have es:r++O.lst (A.map D.str)::(l++[O.lst ((A.take c).map D.str)])=(r++O.lst (A.map D.str)::l)++[.lst ((A.map D.str).take c)]:=by rw[K4h];simp
  exact⟨_,_,rfl,rfl,by rw[es];exact p10,by rw[es,<- K4h];exact z1F,by rw[es];exact z0F eN,by rw[es];exact z0F eW⟩
 rintro _ h10 ⟨j,s,es,rfl,p10,eA,eN',eW'⟩;have lc:(A.take c).length=c:=by rw[K0e];omega
 refine z2U (λγ h11=>∃room:Nat,γ=[.(r 2),.(i (room:Nat)),.(i (c:Nat)),.(i (mm:Nat)),some (.bl kp),some (.bl sh),.(i (m:Nat)),.(r (j+3)),.(r (ci+3)),.(r (wi+3)),none,none]/\h11=h10/\0<room/\room<=room0/\room * (if kp=true then c+1 else 1)<=room0) ?_ ?_
 ·refine if_w (b:=kp) (cv_h (Z6 rfl)) ?_;cases kp with
  | true =>
   rw[if_pos rfl];have d1:room0 / (1+c) * (1+c)<=room0:=K9i _ _;have d2:room0 / (1+c)<=room0:=Nat.div_le_self _ _;refine Y9 (.int ((room0 / (1+c):Nat):Int)) _ (h1:=h10) (e2_h (x:=.int (room0:Nat)) (y:=.int ((1+c:Nat):Int)) (Z6 rfl) (e2_h (x:=.int 1) rfl (Z6 rfl) (by rw[z2s];rfl)) (by rw[zl2 (by omega) (by omega)];rfl)) rfl ?_;exact Y6 ⟨room0 / (1+c),rfl,rfl,Nat.div_pos (by omega) (by omega),d2,by rw[if_pos rfl,Nat.add_comm c 1];exact d1⟩
  | false =>
   rw[if_neg (by decide)];exact Y6 ⟨room0,rfl,rfl,by omega,by omega,by rw[if_neg (by decide)];omega⟩
 rintro γ h11 ⟨room,rfl,rfl,r0,r40,rp⟩;refine z07 (λd h1=>∃ce,d=.tup (ce.map ceD)/\nms ce=N/\(∀c∈ce,CeOk c)/\prN (ce.map dimC)<=room/\PS h1 (k+250) s) ?_ ?_
 ·exact zB7 (Y0 rfl (Y0 rfl (Y0 rfl (zu7 p10 (by omega) eN' (by omega) r0 (by omega) λce h' a b c q=>⟨ce,rfl,a,b,c,q.up (by omega)⟩))))
 rintro _ h12 ⟨ce,rfl,en,ok,pr,p12⟩;refine z07 (λd h1=>∃cm:List Cm,d=.tup (cm.map cmD)/\(∀c∈cm,GC N c)/\cm.map (·.x)=A.take c/\PS h1 (k+1250) s) ?_ ?_
 ·exact zD4 p12 (by omega) eN' nN (by omega) (by omega) eA (by omega) rfl rfl rfl λcm h' a b q=>⟨cm,rfl,a,b,q.up (by omega)⟩
 rintro _ h13 ⟨cm,rfl,gc,ecm,p13⟩;have lcm:cm.length=c:=by rw[<- lc,<- ecm,K4]
 have lce:ce.length=N.length:=by rw[<- en];unfold nms;rw[K4]
 refine z2T (λd h1=>∃ma:List (Str×List (List Ask)),d=pgD ⟨ce,cm,ma,kp⟩/\ma.map (·.1)=M/\(∀m∈ma,GRs N (A.take c) kp m.2)/\PS h1 (k+4300) s) ?_ ?_
 ·exact zH5 (Y0 rfl (Y0 rfl (zX2 (Y0 rfl (Y0 rfl (Y0 rfl (Y0 rfl (Y0 rfl (zz3 p13 (by omega) eW' lM eN' (by omega) (by omega) eA (by omega) λma h' em gm q=>Y0 rfl ⟨ma,rfl,em,gm,q.up (by omega)⟩)))))))))
 rintro _ h14 ⟨ma,rfl,em,gm,p14⟩;rw[es]at p14;refine⟨_,_,p14,zB9 _ _,λh15 p15=>z ⟨ce,cm,ma,kp⟩ h15 ⟨?_,by rw[en];exact nN,by show 0<ce.length;omega,by show ce.length<=4;omega,by show cm.length<=8;omega,ok,by rw[en];exact gc⟩ ?_ (p15.up (by omega))⟩
 ·refine⟨by rw[em];exact nM,by
   have:=congrArg K6k em;rw[K4]at this;show ma.length<=8;omega,λm hm=>by have:=(gm m hm).1;omega,λm hm l hl=>by have:=((gm m hm).2 l hl).1;omega,λm hm l hl a ha=>?_⟩
  have ga:=((gm m hm).2 l hl).2 a ha;cases a with
  | test t=>show GT (nms ce) t;rw[en];exact ga
  | can x=>show x∈cm.map (·.x);rw[ecm];exact ga
  | last x=>exact⟨ga.1,by show x∈cm.map (·.x);rw[ecm];exact ga.2⟩
 unfold dims;rw[z8X];show prN (ce.map dimC) * prN (if kp=true then [(-1,cm.length+1)] else [])<=40;refine K0x (K9b _ pr) ?_;rw[lcm];cases kp with
 | true =>
  rw[if_pos rfl]at rp ⊢;show room * ((c+1) * 1)<=40;rw[Nat.mul_one];omega
 | false =>
  rw[if_neg (by decide)]at rp ⊢;show room * 1<=40;omega
end
def Slf (n:Nat) (x:D):Prop:=∀h,J0 n [x,x] h=.ok (.bl true) h
theorem zD1 {n:Nat}(s:Str):Slf (n+1) (.str s):=λh=>by
 show runF 3 (Y5 (J0 n)) [.str s,.str s] h=_;refine z13 ?_;show W (Y5 (J0 n) [.(s s),.(s s),none]) h _;unfold Y5;refine J6 false (cv_h (z1E (Z6 rfl) rfl)) ?_;rw[if_neg (by decide)];refine J4 (J6 false (cv_h (z1E (Z6 rfl) rfl)) ?_);rw[if_neg (by decide)];refine J4 (J6 false (cv_h (z1E (Z6 rfl) rfl)) ?_);rw[if_neg (by decide)];refine J4 (J6 true (cv_h (z1E (Z6 rfl) rfl)) ?_);rw[if_pos rfl];have e1:eIsi "str" (eVar 0) [.(s s),.(s s),none] h=.ok (.bl true) h:=z1E (Z6 rfl) rfl;have e2':e2 (fEqX false) (eVar 0) (eVar 1) [.(s s),.(s s),none] h=.ok (.bl true) h:=e2_h (Z6 rfl) (Z6 rfl) (by rw[z8V (z9F s s),decide_eq_true rfl];rfl);refine z0h (w8 (.bl true) ?_ ⟨rfl,rfl⟩);unfold eAnd;rw[M.bind_ok e1];exact e2'
theorem zm3 {n:Nat}{xs:List D}(hl:xs.length<=1000) (z:∀x∈xs,Slf n x):Slf (n+1) (.tup xs):=λh=>by
 show runF 3 (Y5 (J0 n)) [.tup xs,.tup xs] h=_;refine z13 ?_;show W (Y5 (J0 n) [.(g xs),.(g xs),none]) h _;unfold Y5;refine J6 true (cv_h (z1E (Z6 rfl) rfl)) ?_;rw[if_pos rfl];refine z0h (J6 false (z4S (cn_h (b:=true) (cv_h (z1E (Z6 rfl) rfl))) (cb_h (e2_h (j8 (Z6 rfl) (by rw[z0o];rfl)) (j8 (Z6 rfl) (by rw[z0o];rfl)) (by rw[z3Q,decide_eq_true rfl];rfl)))) ?_);rw[if_neg (by decide)];refine J4 (z0h ?_);rw[w_cons];refine z0D (λc γ h'=>∃w,γ=[.(g xs),.(g xs),w]/\h'=h) (λ_ _=>False) ?_;refine W.of (a:=.int (xs.length:Nat)) (h':=h) (j8 (Z6 rfl) (by rw[z0o];rfl)) ⟨xs.length,rfl,by omega,⟨_,rfl,rfl⟩,?_,?_,λ_ _ q=>q.elim⟩
 ·rintro c γ h1 hc ⟨w,rfl,rfl⟩;have e:∀(γ:G) (a:Nat),γ[a]?=some (.(g xs))->γ[2]?=some (.(i (c:Nat)))->e2 fIx (eVar a) (eVar 2) γ h1=.ok xs[c] h1:=λγ a ea eb=>e2_h (Z6 ea) (Z6 eb) (by rw[ix_tup (Y7 (K5 hc))];rfl);show W (Z3 _ _ [.(g xs),.(g xs),.(i (c:Nat))]) h1 _;refine J6 false (cn_h (b:=true) (cv_h (fn_h (ds:=[xs[c],xs[c]]) (ac_h (e _ 0 rfl rfl) (ac_h (e _ 1 rfl rfl) rfl)) rfl (z _ (K30 hc) h1)))) ?_;rw[if_neg (by decide)];exact J4 (Y6 ⟨_,rfl,rfl⟩)
 ·rintro γ h1 ⟨w,rfl,rfl⟩;exact z0h (w8 (.bl true) rfl ⟨rfl,rfl⟩)
theorem z7E {n:Nat}{l:List Str}(hl:l.length<=1000):Slf (n+2) (.tup (l.map .str)):=zm3 (by rw[K4];exact hl) λx hx=>by
 obtain⟨v,_,rfl⟩:=K0r.mp hx;exact zD1 v
section
variable {p:Pg}{R:List Int}{h:AH}
theorem z8O {M:List (List Int)}:∀(rs L:List (List Int)),stL L rs <+: M->lds L rs=rs.map M.idxOf
 | [],_,_=>rfl
 | r::rs,L,q=>by
  show (stp L r).idxOf r::lds (stp L r) rs=_;rw[z8O rs (stp L r) q,K0i,z9b ((z2F rs (stp L r)).trans q) z4r]
theorem zb0:∀{rs L:List (List Int)},∀S∈rs,S∈stL L rs
 | r::rs,L,S,h=>by
  rcases K0c.mp h with rfl|h
  ·exact(z2F rs (stp L S)).subset z4r
  ·exact zb0 (rs:=rs) (L:=stp L r) S h
theorem z8L {t:Nat}(g:GP p) (b:prN (dims p)<=40) (lt:t<(layS p 40).1.length):∃R,(layS p 40).1[t]?=some R/\(layS p 40).2[t]?=some (setN ((nxt p R p.cm.length).map (layS p 40).1.idxOf))/\(layS p t).1[t]?=some R/\∀S∈nxt p R p.cm.length,S∈(layS p 40).1:=by
 have l40:=(LI.at g 40).gl.le b;have e40:t+1+(40 - (t+1))=40:=by omega
 obtain⟨R,eR,e1⟩:=z9j g b lt;have pre:stL (layS p t).1 (nxt p R p.cm.length) <+: (layS p 40).1:=by
  have:=z32 (p:=p) (t+1) (40 - (t+1));rw[e40,e1]at this;exact this
 have e2:∀d,(layS p (t+1)).2 <+: (layS p (t+1+d)).2:=λd=>by
  induction d with
  | zero=>exact K4e
  | succ d ih =>
   refine ih.trans ?_;show _ <+: (lay1 p (layS p (t+1+d))).2;unfold lay1;split
   ·exact K4e
   ·exact K9y _ _
 have e3:=e2 (40 - (t+1));rw[e40]at e3;have c:¬ (layS p t).1.length<=(layS p t).2.length:=λc=>by
  have:=z2g c (40 - t);rw[show t+(40 - t)=40 by omega]at this;have l2:=z8F (p:=p) t;rw[this]at lt;omega
 have et:(layS p t).2.length=t:=by
  rcases z3N g t with e|e
  ·exact e
  ·exact absurd (K3r e) c
 have eT:(layS p t).1[t]?=some R:=by
  have q:(layS p t).1[t]?=some ((layS p t).1[t]'(by omega)):=K5 _;have:=z3z (z32 (p:=p) t (40 - t)) q;rw[show t+(40 - t)=40 by omega,eR]at this;rw[q];exact this.symm
 refine⟨R,eR,z3z e3 ?_,eT,λS hS=>pre.subset (zb0 S hS)⟩;show (lay1 p (layS p t)).2[t]?=_;unfold lay1;rw[et,eT];dsimp only;rw[K1h (by omega),et,K8a,z8O _ _ pre];rfl
end
noncomputable def rowI:G->M Src:=z0J (e2 fIx (eVar 0) (eVar 5))
def tkH (h:AH) (n:Nat) (T S P wt:List Nat):AH:=h.set n (.dK (kvN (T++S)))++[.lst (stD P),.lst (stD wt)]
section
variable {h:AH}{n:Nat}{T S P wt:List Nat}(hn:n<h.length)
include hn
theorem tk_n:(tkH h n T S P wt)[n]?=some (.dK (kvN (T++S))):=by
 unfold tkH;rw[K0w (by simpa using hn),K1a hn]
omit hn in
theorem tk_p:(tkH h n T S P wt)[h.length]?=.(l (stD P)):=by
 unfold tkH;rw[K1h (by simp)];simp
omit hn in
theorem tk_w:(tkH h n T S P wt)[h.length+1]?=.(l (stD wt)):=by
 unfold tkH;rw[K1h (by simp)];simp
theorem zw4 {x:Nat}:(tkH h n T S P wt).set n (.dK (kvN (T++S++[x])))=tkH h n T (S++[x]) P wt:=by
 unfold tkH;rw[List.set_append_left _ _ (by simpa using hn),List.set_set,K10]
omit hn in
theorem zr2 {P':List Nat}:(tkH h n T S P wt).set h.length (.lst (stD P'))=tkH h n T S P' wt:=by
 unfold tkH;rw[K1i _ _ (by simp)];simp
omit hn in
theorem z92 {wt':List Nat}:(tkH h n T S P wt).set (h.length+1) (.lst (stD wt'))=tkH h n T S P wt':=by
 unfold tkH;rw[K1i _ _ (by simp)];simp
omit hn in
theorem z9l {i:Nat}(hi:i<h.length) (ne:i≠n):(tkH h n T S P wt)[i]?=h[i]?:=by
 unfold tkH;rw[K0w (by simpa using hi),K1f (K4u ne)]
end
theorem zJ2 {st:List (List Nat)}{ld:D}{T:List Nat}{x n N:Nat}{h:AH}(hT:h[n]?=some (.dK (kvN T))) (xT:x∉T) (nT:T.Nodup) (lT:∀a∈T,a<N) (hN:N<=60) (ln:∀a,∀b∈nx st a,b<N) (hx:x<N)
 (hrow:∀h1:AH,(∀i,i<h.length->i≠n->h1[i]?=h[i]?)->∀a,RchT st T x a->∀p w b,∃src,rowI [some ld,.(i x),.(r n),p,w,.(i a),b] h1=.ok src h1/\src.items=stD (nx st a)/\∀h2:AH,(∀i,i<h.length->i≠n->h2[i]?=h[i]?)->src.good h2) :
 ∃S,z1W [ld,.int x,.ref n] h=.ok (.tup (stD (setN S))) (h.set n (.dK (kvN (T++S))))/\FndT st T x S/\∀a∈S,∀b∈nx st a,b∈S\/b∈T:=by
 have hn:n<h.length:=by
  by_cases q:n<h.length
  ·exact q
  ·rw[K1c (by omega)]at hT;cases hT
 have lT':T.length<=N:=z3H nT lT;have lS:∀{S},FndT st T x S->S.length<=N:=λf=>z3H f.nd λa ha=>z8b ln hx (f.rc a ha)
 suffices z:W (runF 7 z0L [ld,.int x,.ref n]) h λd h1=>∃S P,d=.tup (stD (setN S))/\h1=tkH h n T S P []/\FndT st T x S/\∀a∈S,∀b∈nx st a,b∈S\/b∈T by
  obtain⟨d,h1,e,S,P,rfl,rfl,f,c⟩:=z;refine⟨S,?_,f,c⟩;show cln (runF 7 z0L [ld,.int x,.ref n]) h=_;unfold cln;rw[e];have kp:h.length<=(tkH h n T S P []).length/\Kept h (tkH h n T S P []):=by
   refine⟨by unfold tkH;simp,λi o li eo=>?_⟩;by_cases q:i=n
   ·subst q;rw[tk_n hn]at eo;cases eo;refine .inr ?_;simp only[refO];unfold kvN;rw[K16];exact q5 λ_=>rfl
   ·rw[z9l li q]at eo;exact .inl eo
  dsimp only;rw[if_pos kp];have r1:y8 h.length (.tup (stD (setN S)))=true:=by simp only[y8];exact q5 λ_=>rfl
  rw[if_pos r1];congr 1;unfold tkH;rw[K6o (by simp),K61 (by simp)]
 refine z23 ?_;show W (z0L [some ld,.(i x),.(r n),none,none,none,none]) h _;unfold z0L;refine zm4 rfl rfl hT xT (by omega) ?_;refine z3Y (xs:=[]) (by simp) (λh=>rfl) ?_;refine z3Y (xs:=[.int x]) (by simp) (λh=>rfl) ?_;rw[show h.set n (O.dK (kvN (T++[x])))++[O.lst []]++[O.lst [D.int x]]=tkH h n T [x] [] [x] by unfold tkH;rw[K10];rfl];rw[show (h.set n (O.dK (kvN (T++[x])))++[O.lst []]).length=h.length+1 by simp,show (h.set n (O.dK (kvN (T++[x])))).length=h.length by simp];refine z2U (λγ h'=>∃S P a b,γ=[some ld,.(i x),.(r n),.(r h.length),.(r (h.length+1)),a,b]/\h'=tkH h n T S P []/\FndT st T x S/\(∀a,a∈S↔a∈P)/\P.length=S.length/\∀a∈S,∀b∈nx st a,b∈S\/b∈T) ?_ ?_
 ·refine z2I (λm γ h'=>∃S P wt a b,γ=[some ld,.(i x),.(r n),.(r h.length),.(r (h.length+1)),a,b]/\h'=tkH h n T S P wt/\FndT st T x S/\(∀a,a∈S↔a∈P\/a∈wt)/\P.length+wt.length=S.length/\(∀a∈S,a∈wt\/∀b∈nx st a,b∈S\/b∈T)/\m+P.length=N) _ _ ?_ 1000000 N _ _ (by omega) ⟨[x],[],[x],none,none,rfl,rfl,FndT.one xT,by simp,rfl,by simp,by simp⟩;rintro m γ h4 ⟨S,P,wt,a,b,rfl,rfl,fn,mem,len,cl,me⟩;have sl:=lS fn;refine W_of (zQ4 rfl tk_w) ?_;cases hw:wt.reverse with
  | nil =>
   have:wt=[]:=by simpa using hw
   subst this;rw[if_neg (by simp[stD])];exact⟨S,P,a,b,rfl,rfl,fn,λa=>by simpa using mem a,by simpa using len,λa ha=>by simpa using cl a ha⟩
  | cons y yr =>
   obtain⟨wr,rfl⟩:∃wr,wt=wr++[y]:=⟨yr.reverse,by rw[<- List.reverse_reverse wt,hw];simp⟩;rw[if_pos (by simp[stD])];simp at len;have yS:y∈S:=(mem y).mpr (.inr (by simp));refine⟨m - 1,by omega,?_⟩;refine zR6 (i:=h.length+1) (xs:=stD wr) (v:=.int y) rfl (by rw[z4w];exact tk_w) (by rw[z1Y];omega) ?_;rw[z92];refine z10 (i:=h.length) (xs:=stD P) (v:=.int y) rfl tk_p (by rw[z1Y];omega) rfl ?_;rw[z4w,zr2];refine z2U (λγ h'=>∃S wt b,γ=[some ld,.(i x),.(r n),.(r h.length),.(r (h.length+1)),.(i y),b]/\h'=tkH h n T S (P++[y]) wt/\FndT st T x S/\(∀a,a∈S↔a∈P++[y]\/a∈wt)/\P.length+1+wt.length=S.length/\(∀a∈S,a∈wt\/a=y\/∀b∈nx st a,b∈S\/b∈T)/\∀b∈nx st y,b∈S\/b∈T) ?_ ?_
   ·refine z0U (λc γ h'=>∃S wt b,γ=[some ld,.(i x),.(r n),.(r h.length),.(r (h.length+1)),.(i y),b]/\h'=tkH h n T S (P++[y]) wt/\FndT st T x S/\(∀a,a∈S↔a∈P++[y]\/a∈wt)/\P.length+1+wt.length=S.length/\(∀a∈S,a∈wt\/a=y\/∀b∈nx st a,b∈S\/b∈T)/\∀i b,i<c->(nx st y)[i]?=some b->b∈S\/b∈T) (λ_ _=>False) ?_;obtain⟨src,e1,e2,e3⟩:=hrow (tkH h n T S (P++[y]) wr) (λi hi ne=>z9l hi ne) y (fn.rc y yS) (.(r h.length)) (.(r (h.length+1))) b;refine W_of e1 ?_;rw[e2];refine⟨⟨S,wr,b,rfl,rfl,fn,λa=>?_,by omega,λa ha=>?_,λi b hi=>by omega⟩,?_,?_,?_,λ_ _ q=>q.elim⟩
    ·rw[mem a];simp only[K0n,K0k];constructor
     ·rintro(q|q|q)
      ·exact .inl (.inl q)
      ·exact .inr q
      ·exact .inl (.inr q)
     ·rintro((q|q)|q)
      ·exact .inl q
      ·exact .inr (.inr q)
      ·exact .inr (.inl q)
    ·rcases cl a ha with q|q
     ·rcases K0n.mp q with q|q
      ·exact .inl q
      ·simp at q;exact .inr (.inl q)
     ·exact .inr (.inr q)
    ·rintro i γ h' ⟨S,wt,b,rfl,rfl,_⟩;exact e3 _ λi hi ne=>z9l hi ne
    ·rintro c d γ h6 hd ⟨S,wt,b,rfl,rfl,fn,mem,len,cl,hc⟩;obtain⟨e,rfl,he⟩:=zC7 hd;have en:e∈nx st y:=K08 he;have yS:y∈S:=(mem y).mpr (.inl (by simp));have sl:=lS fn;refine W_of (show gN 6 (.int e) [some ld,.(i x),.(r n),.(r h.length),.(r (h.length+1)),.(i y),b] _=.ok [some ld,.(i x),.(r n),.(r h.length),.(r (h.length+1)),.(i y),.(i e)] _ from rfl) ?_;have f1:FT.e2 (fInD true) (eVar 6) (eVar 2) [some ld,.(i x),.(r n),.(r h.length),.(r (h.length+1)),.(i y),.(i (e:Int))] (tkH h n T S (P++[y]) wt)=.ok (.bl (decide (e∈T++S) != true)) (tkH h n T S (P++[y]) wt):=by
      exact zU9 (tk_n hn)
     refine J6 _ (cb_h f1) ?_;by_cases eS:e∈T++S
     ·rw[decide_eq_true eS];rw[if_neg (by decide)];refine J4 (Y6 ⟨S,wt,_,rfl,rfl,fn,mem,len,cl,λi b hi hb=>?_⟩);by_cases ic:i=c
      ·subst ic;rw[he]at hb;cases hb;exact(K0n.mp eS).symm
      ·exact hc i b (by omega) hb
     ·rw[decide_eq_false eS];rw[if_pos (by decide)];have eT:e∉T:=λq=>eS (K2g _ q);have eS':e∉S:=λq=>eS (K11 _ q);have fn2:=fn.put yS en eS' eT;have sl2:=lS fn2;simp at sl2;refine z0h ?_;refine zm4 (l:=T++S) (x:=e) rfl rfl (tk_n hn) eS (by simp;omega) ?_;rw[zw4 hn];refine z0h ?_;refine z10 (i:=h.length+1) (xs:=stD wt) (v:=.int e) rfl tk_w (by rw[z1Y];omega) rfl ?_;rw[z4w,z92];refine J4 (Y6 ⟨S++[e],wt++[e],_,rfl,rfl,fn2,λa=>?_,by simp;omega,λa ha=>?_,λi b hi hb=>?_⟩)
      ·rw[K0n,mem a,K0n (s:=wt)];exact or_assoc
      ·rcases K0n.mp ha with q|q
       ·rcases cl a q with q|q|q
        ·exact .inl (K2g _ q)
        ·exact .inr (.inl q)
        ·exact .inr (.inr λb hb=>(q b hb).imp (K2g _) id)
       ·exact .inl (K11 _ q)
      ·by_cases ic:i=c
       ·subst ic;rw[he]at hb;cases hb;exact .inl (by simp)
       ·exact(hc i b (by omega) hb).imp (K2g _) id
    ·rintro γ h6 ⟨S,wt,b,rfl,rfl,fn,mem,len,cl,hc⟩;refine⟨S,wt,b,rfl,rfl,fn,mem,len,cl,λb hb=>?_⟩;obtain⟨i,hi,e⟩:=K40 hb;exact hc i b (by simpa [z1Y] using hi) (by rw[<- e];exact K5 hi)
   ·rintro γ h6 ⟨S,wt,b,rfl,rfl,fn,mem,len,cl,all⟩;have sl:=lS fn;refine Y6 ⟨m - 1,K01 _,S,P++[y],wt,_,_,rfl,rfl,fn,mem,by simp;omega,λa ha=>?_,by simp;omega⟩;rcases cl a ha with q|q|q
    ·exact .inl q
    ·subst q;exact .inr all
    ·exact .inr q
 ·rintro γ h4 ⟨S,P,a,b,rfl,rfl,fn,mem,len,cl⟩;have sl:=lS fn;have sz:setN P=setN S:=zi6 λx=>(mem x).symm;have lz:(setN S).length<=N:=z71 λa ha=>z8b ln hx (fn.rc a ha);refine w8 (h1:=tkH h n T S P []) (.tup (stD (setN S))) ?_ ⟨S,P,rfl,rfl,fn,cl⟩;have e1:z1o [.ref h.length] (tkH h n T S P [])=.ok (.tup (stD (setN P))) (tkH h n T S P []):=z6v tk_p (by omega) (by rw[sz];omega);rw[sz]at e1;simp only[K0a,K00,K07,K0b,K0t,Z1,aNil,z17,eFn,eVar,if_true];exact e1
section
variable {p:Pg}{h:AH}
theorem zx7 (g:GP p) (b:prN (dims p)<=40):(layS p (layS p 40).1.length).1=(layS p 40).1:=by
 obtain⟨n,en⟩:∃n,n=(layS p 40).1.length:=⟨_,rfl⟩;have l40:=(LI.at g 40).gl.le b;rw[<- en]at l40 ⊢;have e40:n+(40 - n)=40:=by omega
 by_cases c:(layS p n).1.length<=(layS p n).2.length
 ·have:=z2g c (40 - n);rw[e40]at this;rw[this]
 ·exfalso;have et:(layS p n).2.length=n:=by
   rcases z3N g n with e|e
   ·exact e
   ·exact absurd (K3r e) c
  have:=(z32 (p:=p) n (40 - n)).length_le;rw[e40]at this;omega
theorem za1:∀{rs L:List (List Int)},∀S∈stL L rs,S∈L\/S∈rs
 | [],L,S,h=>.inl h
 | r::rs,L,S,h=>by
  rcases za1 (rs:=rs) (L:=stp L r) S h with z|z
  ·unfold stp at z;split at z
   ·exact .inl z
   ·rcases K0n.mp z with z|z
    ·exact .inl z
    ·rw[K0k]at z;exact .inr (z ▸ K0u)
  ·exact .inr (K0o _ z)
theorem zD5 {L:List (List Int)}{i:Nat}{S:List Int}(nd:L.Nodup) (e:L[i]?=some S):L.idxOf S=i:=by
 obtain⟨lt,e2⟩:=K7.mp e;rw[<- e2];exact nd.idxOf_getElem i lt
theorem z5X (g:GP p) (b:prN (dims p)<=40):∀t,t<=(layS p 40).1.length->∀i,i<(layS p t).1.length->Rch (layS p 40).2 0 i
 | 0,_,i,hi=>by
  rw[show i=0 by simp only[layS,K1b]at hi;omega];exact .here
 | t+1,ht,i,hi=>by
  have l40:=(LI.at g 40).gl.le b;have nd:=(LI.at g 40).gl.nd;obtain⟨R,eR,eD,eT,inM⟩:=z8L (t:=t) g b (by omega);obtain⟨R',eR',e1⟩:=z9j (t:=t) g b (by omega);rw[eR]at eR';cases eR';have pre:∀t,t<=40->(layS p t).1 <+: (layS p 40).1:=λt h=>by
   have:=z32 (p:=p) t (40 - t);rw[show t+(40 - t)=40 by omega]at this;exact this
  obtain⟨S,eS⟩:∃S,(layS p (t+1)).1[i]?=some S:=⟨_,K5 hi⟩;have ix:=zD5 nd (z3z (pre (t+1) (by omega)) eS);have mS:=K08 eS;rw[e1]at mS;rcases za1 S mS with z|z
  ·refine z5X g b t (by omega) i ?_;rw[<- ix,z9b (pre t (by omega)) z];exact K33.mpr z
  ·refine .step (z5X g b t (by omega) t (K7.mp eT).1) ?_;unfold nx;rw[eD];show i∈setN _;rw[setN_mem,<- ix];exact K6u z
theorem zE4 (s:List (List Int)×List (List Nat)):(D.tup [.tup (stsD s.2),.tup ((s.1.take s.2.length).map (mkR p))])=maD s.2 ((s.1.take s.2.length).map (worn p)):=by
 unfold maD mksD;rw[K16];rfl
theorem zN7 (g:GP p) (b:prN (dims p)<=40):SQ (layS p 40).2:=by
 have li:=LI.at g 40;have ll:=z4N g b;have l0:=(K7.mp li.z0).1;exact⟨by omega,by have:=li.gl.le b;omega,λl hl x hx=>by rw[<- ll];exact li.lt l hl x hx⟩
theorem z5K {st:List (List Nat)}{mk:List (List Str)}(q:SQ st) (all:∀i,i<st.length->Rch st 0 i):z2a [maD st mk,.int ((0:Nat):Int)] h=.ok (.tup (stD (K0h st.length))) h:=by
 have l1:=q.l1;have l2:=q.l2;obtain⟨S,e,f,c⟩:=zJ2 (st:=st) (ld:=.tup (stsD st)) (T:=[]) (x:=0) (n:=h.length) (N:=st.length) (h:=h++[.dK []]) (by simp[kvN]) (by simp) (by simp) (by simp) (by omega) (λa b hb=>zF2 q hb) l1 (λh1 _ a ra p w b=>⟨.con (stD (nx st a)),by
  have al:a<st.length:=zl7 q l1 (rchT_nil.mp ra);have:e2 fIx (eVar 0) (eVar 5) [.(g (stsD st)),.(i (((0:Nat):Int))),.(r h.length),p,w,.(i a),b]=pure (.tup (stD (nx st a))):=by simp only[K0a,K00,z17,e2,eVar,zC2 al]
  unfold rowI z0J;rw[this,z17];rfl,rfl,λ_ _=>trivial⟩)
 have es':setN S=K0h st.length:=z6H (z2S S) K8j λa=>by
  rw[setN_mem,K29];exact⟨λha=>zl7 q l1 (rchT_nil.mp (f.rc a ha)),λr=>zw2 f.hx (λa ha b hb=>c a ha b hb) (rchT_nil.mpr (all a r))⟩
 rw[es']at e;rw[K1i _ _ (K01 _),K8a,K0m]at e;show cln (runF 2 z25 [maD st mk,.int ((0:Nat):Int)]) h=_;refine z0H (j:=[.dK (kvN ([]++S))]) (z13 ?_) (by simp only[y8];exact z9U _);show W (z25 [some (maD st mk),.(i (((0:Nat):Int)))]) h _;unfold z25;refine w8 _ (fn_h (ac_h (d:=.tup (stsD st)) (h1:=h) ?_ (ac_h (d:=.int ((0:Nat):Int)) (h1:=h) rfl (ac_h (d:=.ref h.length) (h1:=h++[.dK []]) rfl rfl))) rfl e) ⟨rfl,rfl⟩;exact e2_h (Z6 rfl) (y:=.int 0) rfl (by rw[zC8];rfl)
end
theorem zQ5 {n:Nat}(i:Int):Slf (n+1) (.int i):=λh=>by
 show runF 3 (Y5 (J0 n)) [.int i,.int i] h=_;refine z13 ?_;show W (Y5 (J0 n) [.(i i),.(i i),none]) h _;unfold Y5;refine J6 false (cv_h (z1E (Z6 rfl) rfl)) ?_;rw[if_neg (by decide)];refine J4 (J6 false (cv_h (z1E (Z6 rfl) rfl)) ?_);rw[if_neg (by decide)];refine J4 (J6 true (cv_h (z1E (Z6 rfl) rfl)) ?_);rw[if_pos rfl];have e:eAnd (eIsi "int" (eVar 0)) (eAnd (eNot (eIsi "bool" (eVar 0))) (e2 (fEqX false) (eVar 0) (eVar 1))) [.(i i),.(i i),none]=pure (.bl true):=by
  simp only[K4q,K0a,K00,z1u,z17,decide_true,e2,eAnd,eIsi,eNot,eVar,z3Q,z6c];rfl
 exact z0h (w8 (.bl true) (by rw[e];rfl) ⟨rfl,rfl⟩)
section
variable {h:AH}{p:Pg}
theorem zR8 {S:List Int}{γ:G}(e:γ[9]?=some (some (rmD S))):(λγ=>do let d <- e2 (fIs true) (eVar 9) (λ_=>pure .non) γ;asB d:G->M Bool) γ h=.ok true h:=cb_h (e2_h (Z6 e) (y:=.non) rfl rfl)
theorem zX3 {γ:G}(e:γ[9]?=some (some .non)):(λγ=>do let d <- e2 (fIs true) (eVar 9) (λ_=>pure .non) γ;asB d:G->M Bool) γ h=.ok false h:=cb_h (e2_h (Z6 e) (y:=.non) rfl rfl)
theorem zV8 {γ:G}{L:List (List Int)}{S:List Int}{a b:Nat}(ea:γ[a]?=some (.(g (L.map rmD)))) (eb:γ[b]?=some (some (rmD S))) (hl:L.length<=1000) (hS:S∈L):z2l (eVar a) (eVar b) γ h=.ok (.int (L.idxOf S:Nat)) h:=by
 unfold z2l;rw[M.bind_ok (Z6 ea)];dsimp only;rw[M.bind_ok (Z6 eb)];exact zR1 z4l (z3M _) (by omega) hS
theorem zF8 {γ:G}{a:Nat}(g:GP p) (b:prN (dims p)<=40) (e:γ[a]?=some (some (pgD p))):eFnP 1 0 [] [c_MOST] z68 (Z1 (eVar a) aNil) aNil γ h=.ok (layD p (layS p 40)) h:=by
 unfold eFnP;rw[M.bind_ok (ac_h (Z6 e) (ds:=[]) rfl),M.bind_ok (show aNil γ h=.ok [] h from rfl),if_pos ⟨rfl,rfl⟩];exact zU2 g b
theorem gt0 {n:Nat}:fGt (.int (n:Nat)) (.int 0) h=.ok (.bl (decide (n > 0))) h:=by
 rw[z9E];show Res.ok (D.bl (decide (0<(n:Int)))) h=_;rw[show decide (0<(n:Int))=decide (n > 0) from decide_eq_decide.mpr (by omega)]
theorem isO {R:List Int}{u:Nat}:fIs true (optD (nxF p R u)) .non h=.ok (.bl (nxF p R u).isSome) h:=by cases nxF p R u<;>rfl
theorem z4e (R:List Int):∀n:Nat,((K0h n).filter λu=>(nxF p R u).isSome).length=(nxt p R n).length
 | 0=>rfl
 | n+1=>by
  rw[K55,Z00,K04,z4e R n,z4V,K04];congr 1;cases e:nxF p R n<;>simp[e]
theorem zi3 {i:Nat}{R:List Int}{s:List (List Int)×List (List Nat)}(es:s=layS p 40) (g:GP p) (b:prN (dims p)<=40) (eR:s.1[i]?=some R):z0l [pgD p,layD p s,.int (i:Nat),rmD R] h=.ok (.bl true) h:=by
 have li:LI p s:=es ▸ LI.at g 40;have ll:s.1.length=s.2.length:=es ▸ z4N g b;have l40:=li.gl.le b;have c8:=g.c8;have hi:=(K7.mp eR).1;obtain⟨R',eR',eD,_,inM⟩:=z8L (p:=p) (t:=i) g b (by rw[<- es];exact hi);rw[<- es]at eR' eD inM;rw[eR]at eR';cases eR';have gr:=li.gl.inn R (K08 eR);obtain⟨F,eF⟩:∃F,F=(K0h p.cm.length).filter λu=>(nxF p R u).isSome:=⟨_,rfl⟩;have lF:F.length=(nxt p R p.cm.length).length:=by rw[eF];exact z4e R _
 have cc:z0C [some 0,some 3,none] (z0s (j7 fLen (Z1 (e2 fIx (eVar 0) (λ_=>pure (.int 1))) aNil))) (gN 2) (λγ=>do let d <- e2 (fIs true) (eFn 3 Y1 (Z1 (eVar 0) (Z1 (eVar 2) (Z1 (eVar 1) aNil)))) (λ_=>pure .non) γ;asB d) (eVar 2) [some (pgD p),some (layD p s),.(i (i:Nat)),some (rmD R),none] h=.ok (.ref h.length) (h++[.lst (stD F)]):=by
  rw[eF];exact zv3 (src:=.con (z1h p.cm.length)) (l:=K0h p.cm.length) (λu=>(nxF p R u).isSome) (λx=>.int x) (z55 (j8 (e2_h (Z6 rfl) (y:=.int 1) rfl pg1) (by rw[z0o,K4];rfl)) (by omega)) rfl (λ_=>trivial) (by simp;omega) λu hu=>⟨[some (pgD p),some (rmD R),.(i (u:Nat))],λ_=>rfl,λj=>cb_h (e2_h (fn_h (ds:=[pgD p,.int (u:Nat),rmD R]) (ac_h (Z6 rfl) (ac_h (Z6 rfl) (ac_h (Z6 rfl) rfl))) rfl (zn1 g gr (by simpa using hu))) (y:=.non) rfl isO),λ_ _=>rfl⟩
 have ld:∀(γ:G) (h:AH) (a:Int) (ds:List D) (d:D),γ[1]?=some (some (layD p s))->γ[2]?=some (.(i (i:Nat)))->(∀h,fIx (.tup [.tup (stsD s.2),.tup ((s.1.take s.2.length).map (mkR p))]) (.int a) h=.ok (.tup ds) h)->ds[i]?=some d->e2 fIx (e2 fIx (e2 fIx (eVar 1) (λ_=>pure (.int 0))) (λ_=>pure (.int a))) (eVar 2) γ h=.ok d h:=λγ h a ds d e4 e6 ea ed =>
  e2_h (e2_h (e2_h (Z6 e4) (y:=.int 0) rfl (ly0 s)) (y:=.int (a:Int)) rfl (ea h)) (Z6 e6) (by rw[ix_tup (Y7 ed)];rfl)
 refine z0H (j:=[.lst (stD F)]) (z13 ?_) rfl;show W (z15 [some (pgD p),some (layD p s),.(i (i:Nat)),some (rmD R),none]) h _;unfold z15 z3t;refine Y9 (.ref h.length) [some (pgD p),some (layD p s),.(i (i:Nat)),some (rmD R),.(r h.length)] cc rfl ?_;have same:(decide (F.length > 0)==decide ((setN ((nxt p R p.cm.length).map s.1.idxOf)).length > 0))=true:=by
  rw[lF];have:(nxt p R p.cm.length).length > 0↔(setN ((nxt p R p.cm.length).map s.1.idxOf)).length > 0:=by
   rw[gt_iff_lt,gt_iff_lt,K6g,K6g];constructor
   ·rintro⟨S,hS⟩;exact⟨_,setN_mem.mpr (K6u hS)⟩
   ·rintro⟨x,hx⟩;obtain⟨S,hS,_⟩:=K0r.mp (setN_mem.mp hx);exact⟨S,hS⟩
  rw[beq_iff_eq,decide_eq_decide];exact this
 refine J6 false (z4S (cb_h (e2_h (e2_h (e2_h (Z6 rfl) (y:=.int 1) rfl (ly1 s)) (Z6 rfl) (by rw[ix_tup (Y7 (by rw[K8,eR];rfl))];rfl)) (Z6 rfl) (by rw[z8V (neg:=true) (z4l R R),decide_eq_true rfl];rfl))) (cb_h (e2_h (x:=.bl (decide (F.length > 0))) (e2_h (j8 (Z6 rfl) (z4B z29)) (y:=.int 0) rfl (by rw[z1Y];exact gt0)) (e2_h (y:=.int 0) (j8 (ld _ _ 0 (stsD s.2) (.tup (stD (setN ((nxt p R p.cm.length).map s.1.idxOf)))) rfl rfl (λh=>by rw[ix0];rfl) (by unfold stsD;rw[K8,eD];rfl)) (by rw[z0o];rfl)) rfl (by rw[z1Y];exact gt0)) (y:=.bl (decide ((setN ((nxt p R p.cm.length).map s.1.idxOf)).length > 0))) (by rw[zL3,same];rfl)))) ?_;rw[if_neg (by decide)];refine J4 (w8 (.bl true) (fn_h (ds:=[mkR p R,mkR p R]) (ac_h (ld _ _ 1 ((s.1.take s.2.length).map (mkR p)) (mkR p R) rfl rfl (λh=>by rw[ix1];rfl) (by rw[<- ll,K1g,K8,eR];rfl)) (ac_h (fn_h (ds:=[pgD p,rmD R]) (ac_h (Z6 rfl) (ac_h (Z6 rfl) rfl)) rfl (zJ4 g gr)) rfl)) rfl (z7E (by have:=z6o (R:=R) g;omega) _)) ⟨rfl,rfl⟩)
end
theorem math:∀ns:List Int,ns.length<=63->∃h',m_law [.fl (ns.map .int)] []=.ok (.bl true) h':=by
 intro ns hn;have key:W (m_law [.fl (ns.map .int)]) [] λd _=>d=.bl true:=by
  refine z23 ?_;show W (zf6 [some (.fl (ns.map .int)),none,none,none,none,none,none,none,none,none]) [] _;unfold zf6;refine z07 (λd h1=>d=.ref 2/\PS h1 0 []) ?_ ?_
  ·simp only[K00,K07,K0b,K0t,z11,j3,z0T,W_pure,Z1,aNil,eFn,eVar,if_true];exact zi0 hn
  rintro _ h1 ⟨rfl,p1⟩;have dr:∀(γ:G) (h:AH),γ[1]?=some (.(r 2))->PS h 0 []->W (eFn 4 v9 (Z1 (eVar 1) (Z1 (λ_=>pure (.int 40)) (Z1 (λ_=>pure (.int 8)) (Z1 (λ_=>pure (.int 4)) aNil)))) γ) h λd h1=>∃p,d=pgD p/\GP p/\prN (dims p)<=40:=λγ h e p=>by
   have:eFn 4 v9 (Z1 (eVar 1) (Z1 (λ_=>pure (.int 40)) (Z1 (λ_=>pure (.int 8)) (Z1 (λ_=>pure (.int 4)) aNil)))) γ h=v9 [.ref 2,.int ((40:Nat):Int),.int ((8:Nat):Int),.int ((4:Nat):Int)] h:=fn_h (ac_h (Z6 e) (ac_h (d:=.int 40) rfl (ac_h (d:=.int 8) rfl (ac_h (d:=.int 4) (ds:=[]) rfl rfl)))) rfl rfl;obtain⟨a,b,e2,q⟩:=z9H (cmds:=8) (mks:=4) (room0:=40) (Q:=λd h1=>∃p,d=pgD p/\GP p/\prN (dims p)<=40) p (by omega) (by omega) (by omega) (by omega) (by omega) λpg h' g b q=>⟨pg,rfl,g,b⟩;exact⟨a,b,this.trans e2,q⟩
  refine z07 _ (dr _ _ rfl p1) ?_;rintro _ h3 ⟨p,rfl,g,b⟩;obtain⟨s,es⟩:∃s,s=layS p 40:=⟨_,rfl⟩;have li:LI p s:=es ▸ LI.at g 40;have ll:s.1.length=s.2.length:=es ▸ z4N g b;have l40:=li.gl.le b;have c8:=g.c8;refine Y9 (layD p s) [some (.fl (ns.map .int)),.(r 2),some (pgD p),some (layD p s),none,none,none,none,none,none] (es ▸ zF8 g b rfl) rfl ?_;refine J6 false (cn_h (b:=true) (cv_h (fn_h (ds:=[pgD p,layD p s]) (ac_h (Z6 rfl) (ac_h (Z6 rfl) rfl)) rfl (es ▸ z6e g b)))) ?_;rw[if_neg (by decide)];refine J4 (Y9 (.tup (s.1.map rmD)) [some (.fl (ns.map .int)),.(r 2),some (pgD p),some (layD p s),.(g (s.1.map rmD)),none,none,none,none,none] (e2_h (Z6 rfl) (y:=.int 1) rfl (ly1 s)) rfl ?_);refine Y9 (.int (p.cm.length:Nat)) [some (.fl (ns.map .int)),.(r 2),some (pgD p),some (layD p s),.(g (s.1.map rmD)),.(i (p.cm.length:Nat)),none,none,none,none] (j8 (e2_h (Z6 rfl) (y:=.int 1) rfl pg1) (by rw[z0o,K4];rfl)) rfl ?_;refine Y9 (.int ((0:Nat):Int)) [some (.fl (ns.map .int)),.(r 2),some (pgD p),some (layD p s),.(g (s.1.map rmD)),.(i (p.cm.length:Nat)),.(i (((0:Nat):Int))),none,none,none] rfl rfl ?_;refine Y9 (rmD (fstR p)) [some (.fl (ns.map .int)),.(r 2),some (pgD p),some (layD p s),.(g (s.1.map rmD)),.(i (p.cm.length:Nat)),.(i (((0:Nat):Int))),some (rmD (fstR p)),none,none] (fn_h (ds:=[pgD p]) (ac_h (Z6 rfl) rfl) rfl (z8r g)) rfl ?_;have stand:∀(γ:G) (h:AH) (i:Nat) (R:List Int),γ[2]?=some (some (pgD p))->γ[3]?=some (some (layD p s))->γ[6]?=some (.(i (i:Nat)))->γ[7]?=some (some (rmD R))->s.1[i]?=some R->cNot (cVal (eFn 4 z0l (Z1 (eVar 2) (Z1 (eVar 3) (Z1 (eVar 6) (Z1 (eVar 7) aNil)))))) γ h=.ok false h:=λγ h i R a2 a3 a6 a7 eR =>
   cn_h (b:=true) (cv_h (fn_h (ds:=[pgD p,layD p s,.int (i:Nat),rmD R]) (ac_h (Z6 a2) (ac_h (Z6 a3) (ac_h (Z6 a6) (ac_h (Z6 a7) rfl)))) rfl (zi3 es g b eR)))
  obtain⟨cs,ecs⟩:∃cs,cs=ns.take 63:=⟨_,rfl⟩;have sl:z0G (eVar 0) z20 (z1P (λ_=>pure (.int 63))) [some (.fl (ns.map .int)),.(r 2),some (pgD p),some (layD p s),.(g (s.1.map rmD)),.(i (p.cm.length:Nat)),.(i (((0:Nat):Int))),some (rmD (fstR p)),none,none] h3=.ok (.ref h3.length) (h3++[.lst (cs.map .int)]):=by
   have e3:z1P (λ_=>pure (.int 63)) [some (.fl (ns.map .int)),.(r 2),some (pgD p),some (layD p s),.(g (s.1.map rmD)),.(i (p.cm.length:Nat)),.(i (((0:Nat):Int))),some (rmD (fstR p)),none,none] h3=.ok (some (63:Int)) h3:=rfl;unfold z0G;rw[M.bind_ok (Z6 rfl),M.bind_ok (show z20 _ h3=.ok none h3 from rfl),M.bind_ok e3];show newL (cutD _ none (some ((63:Nat):Int))) h3=_;rw[z7m,<- K4h,<- ecs];exact zH1 (by rw[K4,ecs,K0e];omega)
  refine z2U (λγ h1=>∃(i:Nat) (R:List Int) (x8 x9:Option D),γ=[some (.fl (ns.map .int)),.(r 2),some (pgD p),some (layD p s),.(g (s.1.map rmD)),.(i (p.cm.length:Nat)),.(i (i:Nat)),some (rmD R),x8,x9]/\s.1[i]?=some R) ?_ ?_
  ·refine z0U (λt γ h1=>∃(i:Nat) (R:List Int) (x8 x9:Option D),γ=[some (.fl (ns.map .int)),.(r 2),some (pgD p),some (layD p s),.(g (s.1.map rmD)),.(i (p.cm.length:Nat)),.(i (i:Nat)),some (rmD R),x8,x9]/\s.1[i]?=some R/\h1=h3++[.lst (cs.map .int)]) (λ_ _=>False) ?_;refine W.of (z85 sl z29) ⟨⟨0,fstR p,none,none,rfl,li.z0,rfl⟩,λt γ h1 q=>?_,?_,?_,λ_ _ q=>q.elim⟩
   ·obtain⟨_,_,_,_,_,_,rfl⟩:=q;exact z29
   ·rintro t d γ h1 hd ⟨i,R,x8,x9,rfl,eR,rfl⟩;have hd':(cs.map D.int)[t]?=some d:=hd;rw[K8]at hd';obtain⟨c,ec,rfl⟩:=K06.mp hd';have hi:=(K7.mp eR).1;have gr:=li.gl.inn R (K08 eR);refine W.of (a:=[some (.fl (ns.map .int)),.(r 2),some (pgD p),some (layD p s),.(g (s.1.map rmD)),.(i (p.cm.length:Nat)),.(i (i:Nat)),some (rmD R),.(i c),x9]) rfl ?_;refine J6 false (stand _ _ i R rfl rfl rfl rfl eR) ?_;rw[if_neg (by decide)];refine J4 (J6 (decide (p.cm.length > 0)) (cb_h (e2_h (Z6 rfl) (y:=.int 0) rfl gt0)) ?_);by_cases m0:p.cm.length > 0
    ·rw[decide_eq_true m0,if_pos rfl];obtain⟨u,eu⟩:∃u:Nat,c % (p.cm.length:Int)=(u:Int):=K5j (K3p _ (by omega));have hu:u<p.cm.length:=by have:=K32 c (show 0<(p.cm.length:Int) by omega);omega
     refine z0h (Y9 (optD (nxF p R u)) [some (.fl (ns.map .int)),.(r 2),some (pgD p),some (layD p s),.(g (s.1.map rmD)),.(i (p.cm.length:Nat)),.(i (i:Nat)),some (rmD R),.(i c),some (optD (nxF p R u))] (fn_h (ds:=[pgD p,.int (u:Nat),rmD R]) (ac_h (Z6 rfl) (ac_h (e2_h (Z6 rfl) (Z6 rfl) (by rw[z9g (by omega),eu];rfl)) (ac_h (Z6 rfl) rfl))) rfl (zn1 g gr hu)) rfl ?_);cases en:nxF p R u with
     | none =>
      refine z0h (J6 false (zX3 rfl) ?_);rw[if_neg (by decide)];exact J4 (J4 (J4 (Y6 ⟨i,R,_,_,rfl,eR,rfl⟩)))
     | some S =>
      obtain⟨R',eR',eD,_,inM⟩:=z8L (p:=p) (t:=i) g b (by rw[<- es];exact hi);rw[<- es]at eR' eD inM;rw[eR]at eR';cases eR';have mS:S∈nxt p R p.cm.length:=K5f.mpr ⟨u,by rw[K29];exact hu,en⟩;have inS:=inM S mS;have eS:s.1[s.1.idxOf S]?=some S:=by
       have lt:=K33.mpr inS;rw[K5 lt,List.getElem_idxOf lt]
      have ixe:∀(γ:G) (h:AH),γ[4]?=some (.(g (s.1.map rmD)))->γ[9]?=some (some (rmD S))->z2l (eVar 4) (eVar 9) γ h=.ok (.int (s.1.idxOf S:Nat)) h:=λγ h a b=>zV8 a b (by omega) inS;have mI:s.1.idxOf S∈setN ((nxt p R p.cm.length).map s.1.idxOf):=setN_mem.mpr (K6u mS);refine z0h (J6 true (zR8 rfl) ?_);rw[if_pos rfl];refine z0h (J6 false (z4S (cb_h (e2_h (Z6 rfl) (Z6 rfl) (by show fInX true (rmD S) _ _=_;rw[z8e,decide_eq_true inS];rfl))) (cb_h (e2_h (ixe _ _ rfl rfl) (e2_h (e2_h (e2_h (Z6 rfl) (y:=.int 0) rfl (ly0 s)) (y:=.int 0) rfl (by rw[ix0];rfl)) (Z6 rfl) (by rw[ix_tup (Y7 (show (stsD s.2)[i]?=.(g ((stD (setN ((nxt p R p.cm.length).map s.1.idxOf))))) by unfold stsD;rw[K8,eD];rfl))];rfl)) (by rw[zW0,decide_eq_true mI];rfl)))) ?_);rw[if_neg (by decide)];refine J4 (z0h (Y9 (.int (s.1.idxOf S:Nat)) [some (.fl (ns.map .int)),.(r 2),some (pgD p),some (layD p s),.(g (s.1.map rmD)),.(i (p.cm.length:Nat)),.(i (s.1.idxOf S:Nat)),some (rmD R),.(i c),some (rmD S)] (ixe _ _ rfl rfl) rfl ?_));refine z0h (Y9 (rmD S) [some (.fl (ns.map .int)),.(r 2),some (pgD p),some (layD p s),.(g (s.1.map rmD)),.(i (p.cm.length:Nat)),.(i (s.1.idxOf S:Nat)),some (rmD S),.(i c),some (rmD S)] (Z6 rfl) rfl ?_);exact J4 (J4 (J4 (Y6 ⟨s.1.idxOf S,S,_,_,rfl,eS,rfl⟩)))
    ·rw[decide_eq_false m0,if_neg (by decide)];exact J4 (Y6 ⟨i,R,_,_,rfl,eR,rfl⟩)
   ·rintro γ h1 ⟨i,R,x8,x9,rfl,eR,rfl⟩;exact⟨i,R,x8,x9,rfl,eR⟩
  rintro γ h1 ⟨i,R,x8,x9,rfl,eR⟩;refine J6 false (stand _ _ i R rfl rfl rfl rfl eR) ?_;rw[if_neg (by decide)];refine J4 ?_;have all:∀i,i<s.2.length->Rch s.2 0 i:=λi hi=>by
   have q:=z5X g b s.1.length (by rw[<- es];exact K01 _) i;have f:=zx7 g b;rw[<- es]at q f;rw[f]at q;exact q (by omega)
  have e1:eFn 2 z2a (Z1 (e2 fIx (eVar 3) (λ_=>pure (.int 0))) (Z1 (λ_=>pure (.int 0)) aNil)) [some (.fl (ns.map .int)),.(r 2),some (pgD p),some (layD p s),.(g (s.1.map rmD)),.(i (p.cm.length:Nat)),.(i (i:Nat)),some (rmD R),x8,x9] h1=.ok (.tup (stD (K0h s.2.length))) h1 :=
   fn_h (ds:=[maD s.2 ((s.1.take s.2.length).map (worn p)),.int ((0:Nat):Int)]) (ac_h (e2_h (Z6 rfl) (y:=.int 0) rfl (by rw[ly0,zE4])) (ac_h (d:=.int ((0:Nat):Int)) rfl rfl)) rfl (z5K (es ▸ zN7 g b) all)
  have e2':eRng true (j7 fLen (Z1 (eVar 4) aNil)) [some (.fl (ns.map .int)),.(r 2),some (pgD p),some (layD p s),.(g (s.1.map rmD)),.(i (p.cm.length:Nat)),.(i (i:Nat)),some (rmD R),x8,x9] h1=.ok (.tup (stD (K0h s.2.length))) h1:=by
   have e0:j7 fLen (Z1 (eVar 4) aNil) [some (.fl (ns.map .int)),.(r 2),some (pgD p),some (layD p s),.(g (s.1.map rmD)),.(i (p.cm.length:Nat)),.(i (i:Nat)),some (rmD R),x8,x9] h1=.ok (.int (s.2.length:Nat)) h1:=j8 (Z6 rfl) (by rw[z0o,K4,ll];rfl);unfold eRng;rw[M.bind_ok e0];dsimp only;rw[if_pos (by
    rw[K0s,decide_eq_true (show -(2 ^ 62)<=(s.2.length:Int) by omega),decide_eq_true (show (s.2.length:Int)<2 ^ 62 by omega),decide_eq_true (show s.2.length<=sizeLine by unfold sizeLine;omega)];rfl),K0s]
   rfl
  refine w8 (h1:=h1) (.bl true) (fn_h (ds:=[.tup (stD (K0h s.2.length)),.tup (stD (K0h s.2.length))]) (ac_h e1 (ac_h e2' rfl)) rfl (zm3 (by rw[z1Y,K20];omega) (λx hx=>?_) _)) rfl;obtain⟨v,_,rfl⟩:=K0r.mp (show x∈(K0h s.2.length).map _ from hx);exact zQ5 _
 obtain⟨d,h',e,rfl⟩:=key;exact⟨h',e⟩
theorem okL_law {P:K0d}{w:World}{K:K2}{mg:Str->Option Value}{base:Heap}{f:Addr}{fd:K2j}(F:Fun K "law" "law" (top 50) f fd) (F00:mg "len" = none) (F03:mg "range" = none) (F01:mg "tuple" = none) (F0l:Fn P w K mg base 1 "_law_first_room" 1 Y4) (F0P:Fn P w K mg base 3 "_law_good_layout" 2 z0g) (F0m:Fn P w K mg base 3 "_law_next_room" 3 Y1) (F0Q:Fn P w K mg base 1 "_law_pool" 1 z1U) (F0R:Fn P w K mg base 6 "_law_program" 4 v9) (F0n:Fn P w K mg base 6 "_law_same" 2 (J0 5)) (F0r:Fn P w K mg base 7 "_law_stands" 4 z0l) (F0S:FnP P w K mg base 8 "lay" 1 [] [] [c_MOST] z68) (F0T:Fn P w K mg base 3 "reached" 2 z2a):FnOk P w K mg base CX0 9 f fd ["_law_script"] (spB K m_law 1) :=
 zW5 F sc_law rfl λcdv A outer s H E hr=>(show SB (cxOf CX0 P w K mg base ["_law_script","_law_pool_here","_law_program_here","_law_told","_law_rooms","_law_many","_law_at","_law_room","_law_cell","_law_to"] "law" (j9 (top 50)) f cdv A outer s H E).nox EX0 (z05 (top 50)) zf6 from
  have nd:(["_law_script","_law_pool_here","_law_program_here","_law_told","_law_rooms","_law_many","_law_at","_law_room","_law_cell","_law_to"]:List Str).Nodup:=sc_law.nd
  (Z2 (y0 1 nd (Z9 F0Q (hr.mono (by decide)) rfl (Z0 (z9 0) Z5))) (Z2 (y0 2 nd (Z9 F0R (hr.mono (by decide)) rfl (Z0 (z9 1) (Z0 Z4 (Z0 Z4 (Z0 Z4 Z5)))))) (Z2 (y0 3 nd (zf4 F0S (hr.mono (by decide)) rfl (Z0 (z9 2) Z5) zO0)) (Z2 (s_if (z0t (J7 (Z9 F0P (hr.mono (by decide)) rfl (Z0 (z9 2) (Z0 (z9 3) Z5))))) (Z2 (y6 z1m) Z7) Z7) (Z2 (y0 4 nd (j6 (z9 3) Z4)) (Z2 (y0 5 nd (z00 rfl F00 (Z0 (j6 (z9 2) Z4) Z5))) (Z2 (y0 6 nd Z4) (Z2 (y0 7 nd (Z9 F0l (hr.mono (by decide)) rfl (Z0 (z9 2) Z5))) (Z2 (z1C K0y rfl (z1I (z1J (z9 0) z2A (z2E Z4))) (k9 8 nd) (Z2 (s_if (z0t (J7 (Z9 F0r (hr.mono (by decide)) rfl (Z0 (z9 2) (Z0 (z9 3) (Z0 (z9 6) (Z0 (z9 7) Z5))))))) (Z2 (y6 z1m) Z7) Z7) (Z2 (s_if (sc_c z56 (z9 5) Z4) (Z2 (y0 9 nd (Z9 F0m (hr.mono (by decide)) rfl (Z0 (z9 2) (Z0 (z2t (z9 8) (z9 5)) (Z0 (z9 7) Z5))))) (Z2 (s_if (sc_c z6t (z9 9) z5f) (Z2 (s_if (SW.sc (z3d (sc_c (za8 (hu30 hr)) (z9 9) (z9 4)) (z2L (sc_c z3p (z45 (hu40 hr) (z9 4) (z9 9)) (j6 (j6 (j6 (z9 3) Z4) Z4) (z9 6)))))) (Z2 (y6 z1m) Z7) Z7) (Z2 (y0 6 nd (z45 (hu40 hr) (z9 4) (z9 9))) (Z2 (y0 7 nd (z9 9)) Z7))) Z7) Z7)) Z7) Z7))) (Z2 (s_if (z0t (J7 (Z9 F0r (hr.mono (by decide)) rfl (Z0 (z9 2) (Z0 (z9 3) (Z0 (z9 6) (Z0 (z9 7) Z5))))))) (Z2 (y6 z1m) Z7) Z7) (Z2 (y6 (Z9 F0n (hr.mono (by decide)) rfl (Z0 (Z9 F0T (hr.mono (by decide)) rfl (Z0 (j6 (z9 3) Z4) (Z0 Z4 Z5))) (Z0 (zq4 rfl rfl F01 rfl F03 (z00 rfl F00 (Z0 (z9 4) Z5))) Z5)))) Z7))))))))))))
end FT
open PySem PySem.W PyProof.Rows
set_option maxRecDepth 100000 in
set_option maxHeartbeats 0 in
theorem PySem.Challenge.cw_fairtrees_k11_whole_walks_of_commands_holds : PySem.Challenge.rw_fairtrees_k11_whole_walks_of_commands.Holds := by
 refine FT.pack.2 ?_;unfold FT.pack;dsimp only
 k_fill
 refine FT.law_walk (l:=K0) (lev:=9) (p:="_law_script") (m:=FT.m_law) rfl rfl ⟨rfl,by decide,by decide,rfl⟩ (λw h Y=>PySem.W.kIn_of Y) ?F FT.math
 case F =>
  intro w mg fa h KX G hmg;have F0V:FT.DefAt (L2.KOf KX) "is_tuple" (FT.top 5):=by
   dsimp only[L2.KOf];refine' FT.defAt_mk ?a ?l ?c ?k;(case a=>k_is);(case l=>k_is);(case c=>k_is);(case k=>k_is)
  have F0W:FT.DefAt (L2.KOf KX) "set_of" (FT.top 7):=by
   dsimp only[L2.KOf];refine' FT.defAt_mk ?a ?l ?c ?k;(case a=>k_is);(case l=>k_is);(case c=>k_is);(case k=>k_is)
  have F0X:FT.DefAt (L2.KOf KX) "number_of" (FT.top 10):=by
   dsimp only[L2.KOf];refine' FT.defAt_mk ?a ?l ?c ?k;(case a=>k_is);(case l=>k_is);(case c=>k_is);(case k=>k_is)
  have F0Y:FT.DefAt (L2.KOf KX) "first_room" (FT.top 11):=by
   dsimp only[L2.KOf];refine' FT.defAt_mk ?a ?l ?c ?k;(case a=>k_is);(case l=>k_is);(case c=>k_is);(case k=>k_is)
  have F0Z:FT.DefAt (L2.KOf KX) "held_in" (FT.top 14):=by
   dsimp only[L2.KOf];refine' FT.defAt_mk ?a ?l ?c ?k;(case a=>k_is);(case l=>k_is);(case c=>k_is);(case k=>k_is)
  have F10:FT.DefAt (L2.KOf KX) "worth_of" (FT.top 15):=by
   dsimp only[L2.KOf];refine' FT.defAt_mk ?a ?l ?c ?k;(case a=>k_is);(case l=>k_is);(case c=>k_is);(case k=>k_is)
  have F11:FT.DefAt (L2.KOf KX) "does_hold" (FT.top 17):=by
   dsimp only[L2.KOf];refine' FT.defAt_mk ?a ?l ?c ?k;(case a=>k_is);(case l=>k_is);(case c=>k_is);(case k=>k_is)
  have F12:FT.DefAt (L2.KOf KX) "can_come" (FT.top 16):=by
   dsimp only[L2.KOf];refine' FT.defAt_mk ?a ?l ?c ?k;(case a=>k_is);(case l=>k_is);(case c=>k_is);(case k=>k_is)
  have F13:FT.DefAt (L2.KOf KX) "room_behind" (FT.top 13):=by
   dsimp only[L2.KOf];refine' FT.defAt_mk ?a ?l ?c ?k;(case a=>k_is);(case l=>k_is);(case c=>k_is);(case k=>k_is)
  have F14:FT.DefAt (L2.KOf KX) "rooms_next" (FT.top 12):=by
   dsimp only[L2.KOf];refine' FT.defAt_mk ?a ?l ?c ?k;(case a=>k_is);(case l=>k_is);(case c=>k_is);(case k=>k_is)
  have F15:FT.DefAt (L2.KOf KX) "is_so" (FT.top 20):=by
   dsimp only[L2.KOf];refine' FT.defAt_mk ?a ?l ?c ?k;(case a=>k_is);(case l=>k_is);(case c=>k_is);(case k=>k_is)
  have F16:FT.DefAt (L2.KOf KX) "is_met" (FT.top 19):=by
   dsimp only[L2.KOf];refine' FT.defAt_mk ?a ?l ?c ?k;(case a=>k_is);(case l=>k_is);(case c=>k_is);(case k=>k_is)
  have F17:FT.DefAt (L2.KOf KX) "names_at" (FT.top 18):=by
   dsimp only[L2.KOf];refine' FT.defAt_mk ?a ?l ?c ?k;(case a=>k_is);(case l=>k_is);(case c=>k_is);(case k=>k_is)
  obtain⟨dk_lay,F18,v_lay_most,u_lay_most,D_lay_most⟩:∃dk,FT.DefK (L2.KOf KX) "lay" (FT.top 9) dk/\∃v u,FT.KD (L2.KOf KX) dk "most" FT.c_MOST v u:=by
   dsimp only[L2.KOf]
   refine' ⟨_,FT.defK_mk ?qa ?ql ?qc ?qk,_,_,FT.kd_int ?qn0⟩;(case qa=>k_is);(case ql=>k_is);(case qc=>k_is);(case qk=>k_is);(case qn0=>k_is)
  have F19:FT.DefAt (L2.KOf KX) "take_from" (FT.top 22):=by
   dsimp only[L2.KOf];refine' FT.defAt_mk ?a ?l ?c ?k;(case a=>k_is);(case l=>k_is);(case c=>k_is);(case k=>k_is)
  have F1a:FT.DefAt (L2.KOf KX) "reached" (FT.top 24):=by
   dsimp only[L2.KOf];refine' FT.defAt_mk ?a ?l ?c ?k;(case a=>k_is);(case l=>k_is);(case c=>k_is);(case k=>k_is)
  have F1b:FT.DefAt (L2.KOf KX) "_law_pool" (FT.top 26):=by
   dsimp only[L2.KOf];refine' FT.defAt_mk ?a ?l ?c ?k;(case a=>k_is);(case l=>k_is);(case c=>k_is);(case k=>k_is)
  have F1c:FT.DefAt (L2.KOf KX) "_law_draw" (FT.top 27):=by
   dsimp only[L2.KOf];refine' FT.defAt_mk ?a ?l ?c ?k;(case a=>k_is);(case l=>k_is);(case c=>k_is);(case k=>k_is)
  have F1d:FT.DefAt (L2.KOf KX) "_law_name" (FT.top 28):=by
   dsimp only[L2.KOf];refine' FT.defAt_mk ?a ?l ?c ?k;(case a=>k_is);(case l=>k_is);(case c=>k_is);(case k=>k_is)
  have F1e:FT.DefAt (L2.KOf KX) "_law_names" (FT.top 29):=by
   dsimp only[L2.KOf];refine' FT.defAt_mk ?a ?l ?c ?k;(case a=>k_is);(case l=>k_is);(case c=>k_is);(case k=>k_is)
  have F1f:FT.DefAt (L2.KOf KX) "_law_number" (FT.top 30):=by
   dsimp only[L2.KOf];refine' FT.defAt_mk ?a ?l ?c ?k;(case a=>k_is);(case l=>k_is);(case c=>k_is);(case k=>k_is)
  have F1g:FT.DefAt (L2.KOf KX) "_law_tuple" (FT.top 31):=by
   dsimp only[L2.KOf];refine' FT.defAt_mk ?a ?l ?c ?k;(case a=>k_is);(case l=>k_is);(case c=>k_is);(case k=>k_is)
  have F1h:FT.DefAt (L2.KOf KX) "_law_good_set" (FT.top 32):=by
   dsimp only[L2.KOf];refine' FT.defAt_mk ?a ?l ?c ?k;(case a=>k_is);(case l=>k_is);(case c=>k_is);(case k=>k_is)
  have F1i:FT.DefAt (L2.KOf KX) "_law_same" (FT.top 33):=by
   dsimp only[L2.KOf];refine' FT.defAt_mk ?a ?l ?c ?k;(case a=>k_is);(case l=>k_is);(case c=>k_is);(case k=>k_is)
  have F1j:FT.DefAt (L2.KOf KX) "_law_worth" (FT.top 34):=by
   dsimp only[L2.KOf];refine' FT.defAt_mk ?a ?l ?c ?k;(case a=>k_is);(case l=>k_is);(case c=>k_is);(case k=>k_is)
  have F1k:FT.DefAt (L2.KOf KX) "_law_test" (FT.top 35):=by
   dsimp only[L2.KOf];refine' FT.defAt_mk ?a ?l ?c ?k;(case a=>k_is);(case l=>k_is);(case c=>k_is);(case k=>k_is)
  have F1l:FT.DefAt (L2.KOf KX) "_law_cells" (FT.top 36):=by
   dsimp only[L2.KOf];refine' FT.defAt_mk ?a ?l ?c ?k;(case a=>k_is);(case l=>k_is);(case c=>k_is);(case k=>k_is)
  have F1m:FT.DefAt (L2.KOf KX) "_law_command" (FT.top 37):=by
   dsimp only[L2.KOf];refine' FT.defAt_mk ?a ?l ?c ?k;(case a=>k_is);(case l=>k_is);(case c=>k_is);(case k=>k_is)
  have F1n:FT.DefAt (L2.KOf KX) "_law_ask" (FT.top 38):=by
   dsimp only[L2.KOf];refine' FT.defAt_mk ?a ?l ?c ?k;(case a=>k_is);(case l=>k_is);(case c=>k_is);(case k=>k_is)
  have F1o:FT.DefAt (L2.KOf KX) "_law_marks" (FT.top 39):=by
   dsimp only[L2.KOf];refine' FT.defAt_mk ?a ?l ?c ?k;(case a=>k_is);(case l=>k_is);(case c=>k_is);(case k=>k_is)
  have F1p:FT.DefAt (L2.KOf KX) "_law_program" (FT.top 40):=by
   dsimp only[L2.KOf];refine' FT.defAt_mk ?a ?l ?c ?k;(case a=>k_is);(case l=>k_is);(case c=>k_is);(case k=>k_is)
  have F1q:FT.DefAt (L2.KOf KX) "_law_comes_to" (FT.top 41):=by
   dsimp only[L2.KOf];refine' FT.defAt_mk ?a ?l ?c ?k;(case a=>k_is);(case l=>k_is);(case c=>k_is);(case k=>k_is)
  have F1r:FT.DefAt (L2.KOf KX) "_law_all_hold" (FT.top 42):=by
   dsimp only[L2.KOf];refine' FT.defAt_mk ?a ?l ?c ?k;(case a=>k_is);(case l=>k_is);(case c=>k_is);(case k=>k_is)
  have F1s:FT.DefAt (L2.KOf KX) "_law_names_of" (FT.top 43):=by
   dsimp only[L2.KOf];refine' FT.defAt_mk ?a ?l ?c ?k;(case a=>k_is);(case l=>k_is);(case c=>k_is);(case k=>k_is)
  have F1t:FT.DefAt (L2.KOf KX) "_law_next_room" (FT.top 44):=by
   dsimp only[L2.KOf];refine' FT.defAt_mk ?a ?l ?c ?k;(case a=>k_is);(case l=>k_is);(case c=>k_is);(case k=>k_is)
  have F1u:FT.DefAt (L2.KOf KX) "_law_first_room" (FT.top 45):=by
   dsimp only[L2.KOf];refine' FT.defAt_mk ?a ?l ?c ?k;(case a=>k_is);(case l=>k_is);(case c=>k_is);(case k=>k_is)
  have F1v:FT.DefAt (L2.KOf KX) "_law_row_holds" (FT.top 46):=by
   dsimp only[L2.KOf];refine' FT.defAt_mk ?a ?l ?c ?k;(case a=>k_is);(case l=>k_is);(case c=>k_is);(case k=>k_is)
  have F1w:FT.DefAt (L2.KOf KX) "_law_worn" (FT.top 47):=by
   dsimp only[L2.KOf];refine' FT.defAt_mk ?a ?l ?c ?k;(case a=>k_is);(case l=>k_is);(case c=>k_is);(case k=>k_is)
  have F1x:FT.DefAt (L2.KOf KX) "_law_good_layout" (FT.top 48):=by
   dsimp only[L2.KOf];refine' FT.defAt_mk ?a ?l ?c ?k;(case a=>k_is);(case l=>k_is);(case c=>k_is);(case k=>k_is)
  have F1y:FT.DefAt (L2.KOf KX) "_law_stands" (FT.top 49):=by
   dsimp only[L2.KOf];refine' FT.defAt_mk ?a ?l ?c ?k;(case a=>k_is);(case l=>k_is);(case c=>k_is);(case k=>k_is)
  have F1z:FT.DefAt (L2.KOf KX) "law" (FT.top 50):=by
   dsimp only[L2.KOf];refine' FT.defAt_mk ?a ?l ?c ?k;(case a=>k_is);(case l=>k_is);(case c=>k_is);(case k=>k_is)
  have F04:mg "isinstance" = none:=K14 KX G (by k_is);have F01:mg "tuple" = none:=K14 KX G (by k_is);have F0s:mg "set" = none:=K14 KX G (by k_is);have F07:mg "sorted" = none:=K14 KX G (by k_is);have F00:mg "len" = none:=K14 KX G (by k_is);have F0t:mg "zip" = none:=K14 KX G (by k_is);have F0c:mg "all" = none:=K14 KX G (by k_is);have F0v:mg "dict" = none:=K14 KX G (by k_is);have F0w:mg "enumerate" = none:=K14 KX G (by k_is);have F0z:mg "any" = none:=K14 KX G (by k_is);have F03:mg "range" = none:=K14 KX G (by k_is);have F08:mg "bool" = none:=K14 KX G (by k_is);have F05:mg "int" = none:=K14 KX G (by k_is);have F0q:mg "str" = none:=K14 KX G (by k_is);have F0G:mg "min" = none:=K14 KX G (by k_is);have F0L:mg "list" = none:=K14 KX G (by k_is);obtain⟨f,fd,hf,F⟩:=F1z;have e:=hmg.symm.trans (K09 KX G hf);cases e;refine⟨fd,FT.bindsTo1 F (λ_ _ _ _ _ _ _=>rfl),λbase _ _=>?_⟩;have F0u:=FT.ok_is_tuple (P:=K0.prog) (w:=w) (base:=base) F0V (λv e=>K09 KX G e) F04 F01;have F0g:=FT.ok_set_of (P:=K0.prog) (w:=w) (base:=base) F0W (λv e=>K09 KX G e) F0s F07 F01;have F0p:=FT.ok_number_of (P:=K0.prog) (w:=w) (base:=base) F0X (λv e=>K09 KX G e) F00;have F0B:=FT.ok_first_room (P:=K0.prog) (w:=w) (base:=base) F0Y (λv e=>K09 KX G e) F01;have F0f:=FT.ok_held_in (P:=K0.prog) (w:=w) (base:=base) F0Z (λv e=>K09 KX G e) F0t;have F0b:=FT.ok_worth_of (P:=K0.prog) (w:=w) (base:=base) F10 (λv e=>K09 KX G e) F0u;have F0d:=FT.ok_does_hold (P:=K0.prog) (w:=w) (base:=base) F11 (λv e=>K09 KX G e) F0b;have F0e:=FT.ok_can_come (P:=K0.prog) (w:=w) (base:=base) F12 (λv e=>K09 KX G e) F0c F0d;have F0x:=FT.ok_room_behind (P:=K0.prog) (w:=w) (base:=base) F13 (λv e=>K09 KX G e) F0v F01 F0b;have F0D:=FT.ok_rooms_next (P:=K0.prog) (w:=w) (base:=base) F14 (λv e=>K09 KX G e) F0w F0e F0f F0x;have F0y:=FT.ok_is_so (P:=K0.prog) (w:=w) (base:=base) F15 (λv e=>K09 KX G e) F00 F0e F0d F0f;have F0A:=FT.ok_is_met (P:=K0.prog) (w:=w) (base:=base) F16 (λv e=>K09 KX G e) F0c F0y;have F0C:=FT.ok_names_at (P:=K0.prog) (w:=w) (base:=base) F17 (λv e=>K09 KX G e) F0z F07 F01 F0A;have F1A:=FT.ok_lay (P:=K0.prog) (w:=w) (base:=base) F18 (λv e=>K09 KX G e) F00 F01 F0B F0C F0p F0D F0g;have F0S:=FT.pt_lay__k D_lay_most F1A;have F0E:=FT.ok_take_from (P:=K0.prog) (w:=w) (base:=base) F19 (λv e=>K09 KX G e) F0g;have F0T:=FT.ok_reached (P:=K0.prog) (w:=w) (base:=base) F1a (λv e=>K09 KX G e) F0E;have F0Q:=FT.ok__law_pool (P:=K0.prog) (w:=w) (base:=base) F1b (λv e=>K09 KX G e);have F02:=FT.ok__law_draw (P:=K0.prog) (w:=w) (base:=base) F1c (λv e=>K09 KX G e) F00;have F0F:=FT.ok__law_name (P:=K0.prog) (w:=w) (base:=base) F1d (λv e=>K09 KX G e) F03 F02;have F0o:=FT.ok__law_names (P:=K0.prog) (w:=w) (base:=base) F1e (λv e=>K09 KX G e) F03 F02 F0F;have F0h:=FT.ok__law_number (P:=K0.prog) (w:=w) (base:=base) F1f (λv e=>K09 KX G e) F08 F05 F04;have F06:=FT.ok__law_tuple (P:=K0.prog) (w:=w) (base:=base) F1g (λv e=>K09 KX G e) F04 F00 F01;have F0N:=FT.ok__law_good_set (P:=K0.prog) (w:=w) (base:=base) F1h (λv e=>K09 KX G e) F00 F03 F0h F06;have F0n:=FT.ok__law_same (P:=K0.prog) (w:=w) (base:=base) F1i (λv e=>K09 KX G e) F08 F05 F04 F00 F03 F0q F01 5;have F0i:=FT.ok__law_worth (P:=K0.prog) (w:=w) (base:=base) F1j (λv e=>K09 KX G e) F00 F02;have F0j:=FT.ok__law_test (P:=K0.prog) (w:=w) (base:=base) F1k (λv e=>K09 KX G e) F00 F02 F0i;have F0I:=FT.ok__law_cells (P:=K0.prog) (w:=w) (base:=base) F1l (λv e=>K09 KX G e) F0G F01 F02;have F0J:=FT.ok__law_command (P:=K0.prog) (w:=w) (base:=base) F1m (λv e=>K09 KX G e) F00 F03 F01 F02 F0j F0i;have F0H:=FT.ok__law_ask (P:=K0.prog) (w:=w) (base:=base) F1n (λv e=>K09 KX G e) F05 F00 F02 F0j;have F0K:=FT.ok__law_marks (P:=K0.prog) (w:=w) (base:=base) F1o (λv e=>K09 KX G e) F03 F01 F0H F02;have F0R:=FT.ok__law_program (P:=K0.prog) (w:=w) (base:=base) F1p (λv e=>K09 KX G e) F01 F0I F0J F02 F0K F0o;have F0k:=FT.ok__law_comes_to (P:=K0.prog) (w:=w) (base:=base) F1q (λv e=>K09 KX G e) F04 F01;have F09:=FT.ok__law_all_hold (P:=K0.prog) (w:=w) (base:=base) F1r (λv e=>K09 KX G e) F0k;have F0a:=FT.ok__law_names_of (P:=K0.prog) (w:=w) (base:=base) F1s (λv e=>K09 KX G e);have F0m:=FT.ok__law_next_room (P:=K0.prog) (w:=w) (base:=base) F1t (λv e=>K09 KX G e) F00 F0L F01 F09 F0k F0a;have F0l:=FT.ok__law_first_room (P:=K0.prog) (w:=w) (base:=base) F1u (λv e=>K09 KX G e) F01;have F0M:=FT.ok__law_row_holds (P:=K0.prog) (w:=w) (base:=base) F1v (λv e=>K09 KX G e) F00 F09 F0a;have F0O:=FT.ok__law_worn (P:=K0.prog) (w:=w) (base:=base) F1w (λv e=>K09 KX G e) F07 F01 F0M;have F0P:=FT.ok__law_good_layout (P:=K0.prog) (w:=w) (base:=base) F1x (λv e=>K09 KX G e) F05 F00 F03 F0l F0N F0h F06;have F0r:=FT.ok__law_stands (P:=K0.prog) (w:=w) (base:=base) F1y (λv e=>K09 KX G e) F00 F03 F0m F0n F0O;exact FT.okL_law F F00 F03 F01 F0l F0P F0m F0Q F0R F0n F0r F0S F0T