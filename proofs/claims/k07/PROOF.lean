import PyProof.Rows.All
import Wide.All
import OpenK.AllK
import Wide.FinOn
import Lean
import PyProof.EqAt
import PyProof.EqKinds
import PyProof.TupleCall
import PyProof.DictCompW
import PyProof.NeKinds
import PyProof.ListRange
import PyProof.TupleOfSeq
import PyProof.SeqI3
import PyProof.DictWalks
import PyProof.SetNew
import PyProof.ReprReads
import PyProof.StrHeap
import PyProof.ReprLen
import PyProof.WalkInts
import KE.KDictSum
import PyProof.Draws
import KE.KDictOf
import PyProof.AttrMissHeap
import PySem.Challenge.RW_fairtrees_k07_whole_layout_is_the_comman
set_option Elab.async false
set_option linter.all false
set_option maxRecDepth 100000
set_option maxHeartbeats 4000000
namespace L2
end L2
open PySem renaming wpAny_bind->K0,wpAny_pure->K5,starEach->K05,Program->K08,wpAny_newObj_type->K16,wpAny_callSpecial?_slot->K1a,wpAny_loadPart'->K1b,wpAny_call_entry->K1g,wpAny_field->K1k,mainGlobals->K1q,wpAny_holding->K1s,compareOp->K22,wpAny_seqItems->K2a,keywordEach->K2b,mem_of_lookup->K2f,foldedSetIterable->K2g,FuncData->K2k,codeAny_builtin->K2o,wpAny_pyIter_tuple->K2p,swapsWith->K2s,assignEach->K2y,wpAny_mono->K37,wpAny_setField->K3b,Keyword->K3d,wpAny_ite_false->K3f,binaryOp->K3g,sliceBounds->K3l,wpAny_askSetting->K3n,backToKw->K3r,wpAny_setField_rec->K3s,wpAny_passesOwn->K3x,wpAny_typeOf->K42,wpAny_truthy_bool->K43,wpAny_setState_of->K44,wpAny_rule->K47,sysModules->K48,attributeBase->K49,SetTable->K4b,call_meets->K4g,wpAny_standAt->K4r,plainId_quiet->K4s,behindInMarks->K4t,codeAny_mono->K54,bootBuiltins->K55,holding->K56,getItem->K5i,wpAny_Call_Name_kw->K5l,NameKind->K5w,codeAny->K61,isSubtype_type->K66,wpAny_sequenceKey->K67,wpAny_pyIter_list->K68,not_mem_of_deeper->K69,fits_of_scanBound->K6a,builtinLookup_eq_fast->K6f,standAt->K6n,relayAll->K6q,GenState->K6r,wpAny_updateSeq_pair->K6s,wpAny_specialOf->K6x,letOwnedTupleGo->K6y,wpAny_setEntries_of->K71,wpAny_runValue->K7f,firstArgMember->K7h,wpAny_binaryOp_repeat_ref->K7o,slot_list_getitem->K7p,wpAny_onRaise->K81,wpAny_attempt->K82,wpAny_getItem_list_slice->K84,wpAny_comprehension_free->K85,seqIndex?->K89,wpAny_isInstance->K8e,noFill_tuple_add->K8f,setNext->K8l,callerA->K8m,BindsTo->K8n,typeLookup->K8o,typeIs_int->K8p,ReadAtMost->K8q,wpAny_Call_method_late->K8z,wpAny_execs_nil->K94,typeLookup_type->K95,codeAny_of_tree->K96,wpAny_of_eq->K9c,wpAny_letGo->K9d,subscripted->K9e,wpAny_listPart->K9g,call_repr_slot->K9h,valueAt->K9p,wpAny_dictSet_pairs->K9u,signature?_of->K9x,seq_tuple_add->K9y,evalPart_none->K9z,wpAny_load->Z06,setsByText->Z07,notedBy->Z0q,seqIndex_neg->Z0t,concat_meets->Z0u,Fin->Z0x,seqSlot_of->Z11,tupleKind->Z12,slicePick->Z13,seqItems?->Z14,pickOrder->Z15,PassesOwn->Z16,sizeLine_eq->Z1d,seqIndex_of->Z1e,setItem->Z1p,call->Z1r,Spec->Z23
open PySem.Challenge renaming rw_fairtrees_k07_whole_layout_is_the_comman->K1
open PySem.W renaming Frag->K2,mg_of->K0b,mg_none_of->K14,kia_one->K1p,keepIn->K1z,nsIn->K25,fnOf->K2l,codeIn->K2v,emptyDict->K2w,instObj->K3v,kitOne->K5u,findIn->K5v,hideAll_none->K6p,methodObj->K7r,kitx_list->K7s,kitx_dict->K7t,cellsFrom_some->K8r,hideAll->K92,lookIn->K99,of_hideAll->Z04,kitx_tuple->Z05,specialIn->Z0o,plainGet->Z10,OpenLaw->Z1h,WalkO->Z1v,isFn->Z1z
open PySem.Heap renaming get?_push_of_some->K4,lt_size->K02,get?_push_size->K04,size_push->K18,SameBut->K3h,get?_update_other->K3j,get?_update_self->K3u,get?_none_of_le->K9k,IsTuple->Z0j,ExtBut->Z1c
open List renaming length_map->K6,getElem?_eq_getElem->K7,getElem?_eq_some_iff->K8,size_toArray->K9,getElem?_map->K00,getElem?_cons_zero->K01,length_append->K06,length_cons->K07,mem_cons->K0a,length_nil->K0c,mem_of_getElem?->K0d,map_cons->K0f,length_take->K0g,mem_cons_of_mem->K0j,getElem?_cons_succ->K0k,mem_singleton->K0m,replicate->K0n,range->K0o,mem_append->K0p,set_cons_zero->K0r,set_cons_succ->K0s,mem_cons_self->K0t,mem_map->K0v,map_append->K0w,append_assoc->K0z,mem_append_right->K10,getElem?_append_left->K11,getElem?_set_self->K19,map_map->K1d,getElem?_set_ne->K1e,take_length->K1f,length_singleton->K1i,getElem?_eq_none->K1j,lookup_cons->K1u,getElem?_singleton->K1v,length_range->K1w,nodup_append->K1x,mem_range->K20,not_mem_nil->K21,all_eq_true->K23,filterMap_cons->K24,getElem?_take->K28,getElem?_append_right->K2c,append_nil->K2d,set_append_right->K2h,take_succ->K2i,mem_append_left->K2q,getElem?_of_mem->K2r,any_cons->K2t,replicate_succ->K30,length_reverse->K31,getElem_mem->K36,idxOf_lt_length_iff->K38,find?_cons->K3e,length_drop->K3m,length_filter_le->K3t,foldl_cons->K3w,flatten_cons->K3z,getElem?_append->K40,length_eq_zero_iff->K4a,mem_filterMap->K4h,prefix_rfl->K4m,ext_getElem?->K4v,map_nil->K52,pairwise_iff_getElem->K57,getElem_of_mem->K58,map_take->K5a,all_cons->K5b,nil_append->K5f,forIn_cons->K5g,filterMap_map->K5j,not_lt->K5q,forIn_nil->K5z,reverse_cons->K62,foldl_append->K63,take_succ_eq_append_getElem->K6b,findIdx_lt_length_of_exists->K6c,take_append_drop->K6d,foldl->K6h,filter_cons->K6k,any_eq_true->K6l,length->K6o,nodup_cons->K6t,range_succ->K6v,idxOf_cons->K6w,mergeSort_perm->K6z,nodup_nil->K7a,find?_eq_none->K7d,mem_of_find?_eq_some->K7m,drop_eq_getElem_cons->K7n,take_sublist->K7u,pairwise_map->K7v,pairwise_mergeSort->K8g,getElem?_replicate->K8h,zipWith_cons_cons->K8u,take_of_length_le->K8v,not_of_lt_findIdx->K8w,find?_cons_of_neg->K8x,drop_eq_nil_of_le->K8y,of_mem_zip->K93,getElem?_zipWith->K98,mem_of_mem_take->K9i,findIdx_getElem->K9j,getD->K9o,length_zipWith->K9r,getElem?_range->K9s,prefix_append->Z0c,map_inj_right->Z0d,all_map->Z0i,all_eq_false->Z0s,zipIdx_cons->Z17,range'_succ->Z18,range'->Z1b,mem_filter->Z1f,zipIdx_nil->Z1i,take_left'->Z1j,length_set->Z1k,find?_some->Z1l,filter_map->Z1m,all_append->Z1n
open Nat renaming le_refl->K03,ne_of_lt->K0e,lt_of_lt_of_le->K0i,le_trans->K0l,reduceAdd->K0y,ne_of_gt->K26,lt_irrefl->K2u,zero_le->K3a,le_of_eq->K3y,le_succ->K4d,le_of_lt->K4f,lt_succ_of_lt->K4x,le_add_right->K53,mul_comm->K5x,lt_trans->K5y,lt_succ_self->K6m,add_le_add_left->K70,zero_add->K74,lt_of_le_of_lt->K7e,mul_le_mul_right->K9l,div_mul_le_self->K9t,sub_self->Z0m,le_of_succ_le->Z0v,le_max_right->Z19,le_max_left->Z1o
open Option renaming map_eq_some_iff->K09,join_some->K6i,join_none->K6j,getD_none->K87,isSome_map->Z0p
open Bool renaming and_eq_true->K0h,false_ne_true->K0u,eq_iff_iff->K17,false_eq_true->K29,or_eq_true->K33,true_and->K4p,and_true->K4q,bne_false->K60,not_eq_true'->K64,not_true->K7y,bne_true->K7z,true_or->Z0k,false_and->Z1t
open PySem.SetTable renaming below->K0q,grown->K39,Probe->Z1s,laid->Z1u
open Int renaming toNat_natCast->K0x,toNat_of_nonneg->K32,emod_lt_of_pos->K3q,emod_nonneg->K4n,eq_ofNat_of_zero_le->K8i,ediv_one->Z0n,toNat->Z1y
open PySem.PassesOwn renaming never->K12
open PyProof.Rows renaming slot_tuple_getitem->K13,callWith_type1->K3i,entry_tuple_getitem->K72,AllBare->K76,slicePart_none->K7g,args_tuple_getitem->K7i,IntsAre->K7w,subscriptTail->K83,subscriptTail_builtinR->K90,tupleItemsOf_->K9w,Subscript_->Z08
open Array renaming length_toList->K15,getElem?_eq_getElem->K1o,getElem?_toList->K35,getElem?_eq_some_iff->K3o,find?_toList->Z0a,append_assoc->Z0b,toList->Z0h,toList_push->Z0r
open PySem.PyData renaming shown->K1c,shownAll->K1t,depth->K2m,showable->K4k,depthAll->K4l,showableAll->K7b,depthAll_vals_le->K8c,depthAll_keys_le->K8d,shownKv->K9a,depthKv->K9b,tuple->Z20
open Option.some renaming inj->K1h,injEq->Z0g
open PySem.Heap.SameBut renaming update->K1l,refl->Z0f
open PySem.Builtin.SmallTypes renaming nextOf->K1m,ownedTupleIsFree->K2j,ownedTupleHandOut->K59
open PySem.Builtin.Slice renaming slicePlaces->K1n,sliceAdjust->K34,sliceApplied->K3p,sliceFields->K7k
open PySem.Builtin.Tuple renaming tupleExact->K1r,tupleItemsOf->K50,tupleIsExact->K7c
open PySem.Around renaming under_plainId->K1y
open False renaming elim->K27
open PySem.Value renaming ref->K2e,none->K2x,type->K4e,bool->K78,int->K9m,str->Z0w,isStrOf->Z1w
open PySem.Str renaming ofString->K2n,length->Z03
open PySem.F renaming slot_tuple_iterator_next->K2z,slot_tuple_mul->K3k,slot_zip_next->K4u,plain_list_iadd->K51,args_tuple_mul_2->K5d,args_tuple_add_2->K5e,args_tuple_iterator_next_1->K5m,plainAttrs_list->K5n,entry_tuple_mul->K5o,entry_tuple_add->K5p,entry_tuple_iterator_next->K5s,slot_tuple_add->K65,slot_tuple_rmul->K86,slot_list_index->K8a,args_zip_next_1->K8b,entry_zip_next->K8s,slot_int_rmul->K97
open PySem.SetTable.below renaming go->K3c
open Sum renaming inl->K41,inr->K73
open PySem.Paired renaming length->K45
open PySem.Builtin.List renaming listSameRef->K46,listExtendWith->K4w,listTooLong->K5c,listSubscript?->K75,listAllItems->K7l
open List.Nodup renaming length_le_of_subset->K4c
open List.cons renaming injEq->K4i
open ForInStep renaming yield->K4j
open PySem.NameKind renaming free->K4o
open True renaming intro->K4y
open PySem.Obj renaming mapSeq->K4z,data_mapFields->K5k,isFreed_of_fields->K6e,putSet->K79,mapFields->K9v
open Ne renaming symm->K5h
open PyProof.Rows.F renaming plain_set_update_loop->K5r,entry_set_update_loop->K8j
open PySem.AutoSeq1 renaming idx_int->K5t
open PySem.SeqAt renaming EqAt->K6g,notIn_tupleAt->K9q,notIn_listAt->Z09
open PySem.Builtin.Frozenset renaming updateFrom->K6u
open PySem.W.KFB renaming if_not->K77
open PySem.Calls renaming Name_function_global->K7j,callWith_builtin->K8t,evalArgs_plain->K9f
open PySem.SetTable.probe renaming go->K7q
open PySem.Shared renaming TypeIs->K7x,heap->Z1a
open List.Perm renaming eq_of_pairwise->K80,cons->Z1q
open PySem.Builtin.Dict renaming updateFrom->K88,pairItems->K8k
open PySem.ReadAtMost renaming cons->K91
open Pure renaming pure->K9n
open PySem.Heap.IsSliceOf renaming new->Z00
open PySem.SeqAt.EqAt renaming str_int->Z01,int_str->Z02
open PySem.pickOrder renaming go->Z0e
open Function renaming comp_def->Z0l
open PySem.IsL renaming isList->Z0y
open And renaming intro->Z0z
open PySem.Heap.DictOf renaming new->Z1g
open PySem.Clear renaming nil->Z1x
open Sum.inr renaming inj->Z21
open Sum.inl renaming inj->Z22
open PySem PySem.Spec PyProof.Rows L2
set_option hygiene false
local macro_rules
|`(.(r $t))=>`(some (.ref $t))
|`(.(i $t))=>`(some (.int $t))
|`(.(g $t))=>`(some (.tup $t))
|`(.(l $t))=>`(some (.lst $t))
|`(.(s $t))=>`(some (.str $t))
|`(.(p $t))=>`((fun _=>pure (.int $t)))
set_option hygiene true
namespace L2
abbrev Key:=Sum Int Str
def z1O:Key->Value->Bool
 | .inl k,v=>Value.isInt k v
 | .inr x,v=>Z1w x v
def keyH (w:World):Key->Int
 | .inl k=>hashInt k
 | .inr x=>hashStr w x
theorem J0:∀{k:Key}{v:Value},z1O k v=true->(∃i t,k=K41 i/\v=K9m i t)\/(∃x t,k=K73 x/\v=Z0w x t)
 | .inl i,v,h=>by
  obtain⟨t,e⟩:=Value.isInt_shape (k:=i) (v:=v) h;exact .inl ⟨i,t,rfl,e⟩
 | .inr x,v,h=>by
  obtain⟨t,e⟩:=Value.isStrOf_shape (x:=x) (v:=v) h;exact .inr ⟨x,t,rfl,e⟩
theorem z5p (i:Int) (t:Tok):z1O (.inl i) (.int i t)=true:=by simp[z1O,Value.isInt]
theorem z5t (x:Str) (t:Tok):z1O (.inr x) (.str x t)=true:=by simp[z1O,Z1w]
theorem zE6 (a b:Int):decide ((K41 a:Key)=K41 b)=(a==b):=by
 by_cases e:a=b
 ·subst e;simp
 ·have h:¬ (K41 a:Key)=K41 b:=λq=>e (Z22 q);rw[decide_eq_false h];exact(beq_eq_false_iff_ne.mpr e).symm
theorem zD7 (a b:Str):decide ((K73 a:Key)=K73 b)=decide (a=b):=by
 by_cases e:a=b
 ·subst e;simp
 ·have h:¬ (K73 a:Key)=K73 b:=λq=>e (Z21 q);rw[decide_eq_false h,decide_eq_false e]
theorem zz9 (a:Int) (b:Str):decide ((K41 a:Key)=K73 b)=false:=decide_eq_false (λq=>nomatch q)
theorem zL1 (a:Str) (b:Int):decide ((K73 a:Key)=K41 b)=false:=decide_eq_false (λq=>nomatch q)
def v9 (prog:K08) (w:World):PySem.KeyKind prog w Key where
 is:=z1O
 hash:=keyH w
 inj:=λv a b ha hb=>by
  rcases J0 ha with ⟨i,t,rfl,rfl⟩|⟨x,t,rfl,rfl⟩
  ·rcases J0 hb with ⟨j,u,rfl,e⟩|⟨y,u,rfl,e⟩
   ·injection e with e1 _;rw[e1]
   ·exact nomatch e
  ·rcases J0 hb with ⟨j,u,rfl,e⟩|⟨y,u,rfl,e⟩
   ·exact nomatch e
   ·injection e with e1 _;rw[e1]
 byValue:=λk v h=>by
  rcases J0 h with ⟨i,t,rfl,rfl⟩|⟨x,t,rfl,rfl⟩<;>rfl
 pyHash:=λhv h=>by
  rcases J0 hv with ⟨i,t,rfl,rfl⟩|⟨x,t,rfl,rfl⟩
  ·exact wpAny_pyHash_int h
  ·exact wpAny_pyHash_str h
 eqBool:=λhu hv h=>by
  rcases J0 hu with ⟨i,t,rfl,rfl⟩|⟨x,t,rfl,rfl⟩
  ·rcases J0 hv with ⟨j,u,rfl,rfl⟩|⟨y,u,rfl,rfl⟩
   ·rw[zE6]at h;exact wpAny_eqBool_int h
   ·rw[zz9]at h;exact Z02 i t y u _ _ _ _ h
  ·rcases J0 hv with ⟨j,u,rfl,rfl⟩|⟨y,u,rfl,rfl⟩
   ·rw[zL1]at h;exact Z01 x t j u _ _ _ _ h
   ·rw[zD7]at h;exact wpAny_eqBool_str h
 «strs»:=λk x t v h=>by
  rcases J0 h with ⟨i,u,rfl,e⟩|⟨y,u,rfl,e⟩
  ·exact nomatch e
  ·injection e with e1 _
   subst e1;cases v<;>rfl
theorem z5P (prog:K08) (w:World) (i:Int) (t:Tok):(v9 prog w).is (.inl i) (.int i t)=true:=z5p i t
theorem z5K (prog:K08) (w:World) (x:Str) (t:Tok):(v9 prog w).is (.inr x) (.str x t)=true:=z5t x t
end L2
namespace FT
abbrev Rise (xs:Array Nat):Prop:=xs.toList.Pairwise (·<·)
instance keyMem (k:Key) (ks:List Key):Decidable (k∈ks):=@List.instDecidableMemOfLawfulBEq Key instBEqOfDecidableEq inferInstance k ks
section
variable (w:World)
def KE (k:Key) (e:Int×Value):Prop:=z1O k e.2=true/\e.1=keyH w k
def SetAt (h:Heap) (a:Addr) (ks:List Key):Prop :=
 ∃o es ep t ks',h.get? a=some o/\o.ExactSet/\o.data=.set es ep t/\Paired (KE w) ks' es.toList/\ks'.Perm ks/\ks.Nodup/\es.size<scanBound/\t.fits es.size=true/\Rise t.place /\
  (t.led=true\/w.params.followText "set-order" = true)
end
def IsTup0 (h:Heap) (a:Addr) (items:Array Value):Prop:=∃o,h.get? a=some o/\(o.cls=.type "tuple"/\o.dict=none)/\∃n,o.data=.seq items n
theorem IsTup0.new (h:Heap) (items:Array Value):IsTup0 (h.push { cls:=.type "tuple",data:=.seq items }) h.objs.size items:=⟨_,K04 _ rfl,⟨rfl,rfl⟩,_,rfl⟩
theorem IsTup0.tup {h:Heap}{a:Addr}{items:Array Value}(x:IsTup0 h a items):IsTup h a items:=let ⟨o,e,c,d⟩:=x;⟨o,e,c.1,d⟩
theorem IsTup0.lt {h:Heap}{a:Addr}{items:Array Value}(x:IsTup0 h a items):a<h.objs.size:=let ⟨_,e,_⟩:=x;K02 e
end FT
namespace L2
inductive V where
 | non|bl (b:Bool)|int (i:Int)|str (x:Str)|byt (b:Array UInt8)|flt (b:UInt64)|ref (a:Addr)|ty (n:String)
 deriving DecidableEq
def RelV:V->Value->Prop
 | .non,u=>u=K2x
 | .bl b,u=>u=K78 b
 | .int i,u=>∃t,u=K9m i t
 | .str x,u=>∃t,u=Z0w x t
 | .byt b,u=>∃t,u=Value.bytes b t
 | .flt b,u=>∃t,u=Value.float b t
 | .ref a,u=>u=K2e a
 | .ty n,u=>u=K4e n
abbrev Vals:List V->List Value->Prop:=Paired RelV
theorem Vals.length {xs:List V}{us:List Value}(r:Vals xs us):xs.length=us.length:=K45 r
theorem Vals.get:∀{xs:List V}{us:List Value}{i:Nat}{x:V},Vals xs us->xs[i]?=some x->∃u,us[i]?=some u/\RelV x u
 | _,_,_,_,.nil,e=>by simp at e
 | _,_,0,_,.cons r _,e=>by simp at e;subst e;exact⟨_,rfl,r⟩
 | _,_,i+1,x,.cons _ t,e=>by
  obtain⟨u,h1,h2⟩:=Vals.get (i:=i) (x:=x) t (by simpa using e);exact⟨u,by simpa using h1,h2⟩
theorem Vals.set {x:V}{u:Value}(r:RelV x u):∀{xs:List V}{us:List Value}(i:Nat),Vals xs us->Vals (xs.set i x) (us.set i u)
 | _,_,_,.nil=>.nil
 | _,_,0,.cons _ t=>.cons r t
 | _,_,i+1,.cons q t=>.cons q (Vals.set r i t)
theorem Vals.append:∀{xs ys:List V}{us ws:List Value},Vals xs us->Vals ys ws->Vals (xs++ys) (us++ws)
 | _,_,_,_,.nil,s=>s
 | _,_,_,_,.cons r t,s=>.cons r (Vals.append t s)
theorem Vals.take:∀{xs:List V}{us:List Value}(n:Nat),Vals xs us->Vals (xs.take n) (us.take n)
 | _,_,0,_=>.nil
 | _,_,_+1,.nil=>.nil
 | _,_,n+1,.cons r t=>.cons r (Vals.take n t)
theorem Vals.drop:∀{xs:List V}{us:List Value}(n:Nat),Vals xs us->Vals (xs.drop n) (us.drop n)
 | _,_,0,r=>r
 | _,_,_+1,.nil=>.nil
 | _,_,n+1,.cons _ t=>Vals.drop n t
def RelO:Option V->Option Value->Prop
 | some v,some u=>RelV v u
 | none,none=>True
 | _,_=>False
def KV {κ:Type}:List (κ×V)->List (κ×Value)->Prop:=Paired λ(p:κ×V) (q:κ×Value)=>p.1=q.1/\RelV p.2 q.2
def kV:Key->V
 | .inl i=>.int i
 | .inr x=>.str x
inductive HO where
 | lst (xs:List V)
 | tup (xs:List V)
 | dK (kvs:List (Key×V))|dT (kvs:List (List Key×V))
 | set (ks:List Key)
 | ins (C dx:Addr) (fs:List (Str×V))
 | own (x:Addr)
 | xd (fs:List (Str×V))
 | met (f x:Addr)
 | rng (lo hi:Int)
 | frz (o:Obj) (u:HO)
 | tbl (ps:Array Value)
 | ext (φ:Heap->Prop)
abbrev Hp:=Addr->Option HO
def upd (H:Hp) (a:Addr) (o:HO):Hp:=λb=>if b=a then some o else H b
theorem z08 {H:Hp}{a:Addr}{o:HO}:upd H a o a=some o:=by unfold upd;rw[if_pos rfl]
theorem Y1 {H:Hp}{a b:Addr}{o:HO}(h:b≠a):upd H a o b=H b:=by unfold upd;rw[if_neg h]
theorem Y5 {H:Hp}{a b:Addr}{o:HO}(h:H a=some o) (h':H b=none):a≠b:=by
 intro e;subst e;rw[h]at h';cases h'
section
variable (P:K08) (w:World)
def ObjOk (H:Hp) (h:Heap) (a:Addr):HO->Prop
 | .lst xs=>xs.length<=sizeLine/\∃(its:List Value) (n:Nat),Vals xs its/\h.get? a=some { cls:=.type "list",data:=.seq its.toArray n }
 | .tup xs=>xs.length<=sizeLine/\∃its:List Value,Vals xs its/\FT.IsTup0 h a its.toArray
 | .dK kvs=>kvs.length<=sizeLine/\(a==K48)=false/\∃vs,KV kvs vs/\h.DictOf (v9 P w) a vs
 | .dT kvs=>kvs.length<=sizeLine/\(a==K48)=false/\∃xs:List (List Key×Addr×Value),
  Paired (λ(p:List Key×V) (q:List Key×Addr×Value)=>p.1=q.1/\H q.2.1=.(g (p.1.map kV))/\RelV p.2 q.2.2) kvs xs /\
  ∃o es ep,h.get? a=some o/\o.ExactDict/\o.data=.dict es ep/\es.toList=xs.map (entryOfKey (Z12 (v9 P w)))/\(xs.map (·.1)).Nodup
 | .set ks=>FT.SetAt w h a ks
 | .ins C dx fs=>H dx=some (.own a)/\fs.length<=1000/\dx≠a/\h.get? a=some (K3v C dx) /\
  ∃mA,h.Ns1 dx mA/\(∀f,RelO (fs.lookup f) (mA f))/\PySem.Within mA (fs.map (·.1))
 | .own _=>∃o,h.get? a=some o
 | .xd fs=>∃mA,h.Ns1 a mA/\∀f,RelO (fs.lookup f) (mA f)
 | .rng lo hi=>∃t u v,h.get? a=some { cls:=.type "range",data:=.fields #[.int lo t,.int hi u,.int 1 v] }
 | .frz o u=>h.get? a=some o/\ObjOk H h a u
 | .tbl ps=>h.get? a=some { cls:=.none,data:=.fields ps }
 | .met f x=>h.get? a=some (K7r (.ref f) (.ref x))
 | .ext φ=>φ h/\(∃o,h.get? a=some o)/\∀h1 h2:Heap,φ h1->(∀o,h1.get? a=some o->h2.get? a=some o)->φ h2
def HOk (H:Hp) (h:Heap):Prop:=∀a o,H a=some o->ObjOk P w H h a o
end
section
variable {P:K08}{w:World}{H H':Hp}{h h':Heap}{a:Addr}{o:HO}
theorem ObjOk.lt (x:ObjOk P w H h a o):a<h.objs.size:=by
 cases o with
 | lst xs=>obtain⟨_,_,_,_,e⟩:=x;exact K02 e
 | tup xs=>obtain⟨_,_,_,p⟩:=x;exact p.lt
 | dK kvs=>obtain⟨_,_,_,_,o,_,_,e,_⟩:=x;exact K02 e
 | dT kvs=>obtain⟨_,_,_,_,o,_,_,e,_⟩:=x;exact K02 e
 | set ks=>obtain⟨o,_,_,_,_,e,_⟩:=x;exact K02 e
 | ins C dx fs=>obtain⟨_,_,_,e,_⟩:=x;exact K02 e
 | own y=>obtain⟨_,e⟩:=x;exact K02 e
 | xd fs=>obtain⟨_,⟨_,_,_,e,_⟩,_⟩:=x;exact K02 e
 | rng lo hi=>obtain⟨_,_,_,e⟩:=x;exact K02 e
 | frz ob u=>obtain⟨e,_⟩:=x;exact K02 e
 | tbl ps=>exact K02 (show h.get? a=some _ from x)
 | met f y=>exact K02 (show h.get? a=some _ from x)
 | ext φ=>obtain⟨_,⟨_,e⟩,_⟩:=x;exact K02 e
theorem Paired.mapP {α β:Type}{F G:α->β->Prop}:∀{l₁:List α}{l₂:List β},Paired F l₁ l₂->(∀a b,F a b->G a b)->Paired G l₁ l₂
 | _,_,.nil,_=>.nil
 | _,_,.cons r t,f=>.cons (f _ _ r) (Paired.mapP t f)
theorem ObjOk.stay (x:ObjOk P w H h a o) (k:∀b u,(b=a\/H b=some (.own a))->h.get? b=some u->h'.get? b=some u)
 (ho:∀b,H b=some (.own a)->H' b=some (.own a)) (ht:∀b xs,H b=.(g xs)->H' b=.(g xs)):ObjOk P w H' h' a o:=by
 induction o with
 | lst xs=>obtain⟨z,its,n,r,e⟩:=x;exact⟨z,its,n,r,k _ _ (.inl rfl) e⟩
 | tup xs=>obtain⟨z,its,r,ob,e,c⟩:=x;exact⟨z,its,r,ob,k _ _ (.inl rfl) e,c⟩
 | dK kvs=>obtain⟨z,y,vs,r,ob,es,ep,e,c⟩:=x;exact⟨z,y,vs,r,ob,es,ep,k _ _ (.inl rfl) e,c⟩
 | dT kvs =>
  obtain⟨z,y,xs,r,ob,es,ep,e,c⟩:=x;exact⟨z,y,xs,Paired.mapP r λp q z=>⟨z.1,ht _ _ z.2.1,z.2.2⟩,ob,es,ep,k _ _ (.inl rfl) e,c⟩
 | set ks=>obtain⟨ob,es,ep,t,k',e,c⟩:=x;exact⟨ob,es,ep,t,k',k _ _ (.inl rfl) e,c⟩
 | ins C dx fs =>
  obtain⟨d,z,ne,e,mA,⟨od,es,ep,e2,c⟩,r⟩:=x;exact⟨ho _ d,z,ne,k _ _ (.inl rfl) e,mA,⟨od,es,ep,k _ _ (.inr d) e2,c⟩,r⟩
 | own y=>obtain⟨ob,e⟩:=x;exact⟨ob,k _ _ (.inl rfl) e⟩
 | xd fs=>obtain⟨mA,⟨od,es,ep,e,c⟩,r⟩:=x;exact⟨mA,⟨od,es,ep,k _ _ (.inl rfl) e,c⟩,r⟩
 | rng lo hi=>obtain⟨t,u,v,e⟩:=x;exact⟨t,u,v,k _ _ (.inl rfl) e⟩
 | frz ob u ih=>obtain⟨e,q⟩:=x;exact⟨k _ _ (.inl rfl) e,ih q⟩
 | tbl ps =>
  have e:h.get? a=some { cls:=.none,data:=.fields ps }:=x;show h'.get? a=some { cls:=.none,data:=.fields ps };exact k a _ (.inl rfl) e
 | met f y =>
  have e:h.get? a=some (K7r (.ref f) (.ref y)):=x;show h'.get? a=some (K7r (.ref f) (.ref y));exact k a _ (.inl rfl) e
 | ext φ=>obtain⟨p,⟨o,e⟩,st⟩:=x;exact⟨st _ _ p λo q=>k _ _ (.inl rfl) q,⟨o,k _ _ (.inl rfl) e⟩,st⟩
theorem HOk.lt (x:HOk P w H h) (e:H a=some o):a<h.objs.size:=(x a o e).lt
theorem HOk.fresh (x:HOk P w H h) (e:h.objs.size<=a):H a=none:=by
 cases q:H a with
 | none=>rfl
 | some u=>exact absurd (K0i (x.lt q) e) (K2u _)
theorem HOk.kept (x:HOk P w H h) (k:∀b u,h.get? b=some u->h'.get? b=some u):HOk P w H h':=λa o e =>
 (x a o e).stay (λb u _ q=>k b u q) (λ_ q=>q) λ_ _ q=>q
theorem HOk.laid (x:HOk P w H h) (k:∀b u,h.get? b=some u->h'.get? b=some u) (hp:h.objs.size<=a) (new:ObjOk P w (upd H a o) h' a o):HOk P w (upd H a o) h':=λb u e=>by
 have hn:=x.fresh hp;by_cases hb:b=a
 ·subst hb;rw[z08]at e;cases e;exact new
 ·rw[Y1 hb]at e;exact(x b u e).stay (λc v _ q=>k c v q) (λc q=>by rw[Y1 (Y5 q hn)];exact q) λc xs q=>by rw[Y1 (Y5 q hn)];exact q
end
def Rd (H:Hp) (a:Addr) (u:HO):Prop:=H a=some u\/∃o,H a=some (.frz o u)
theorem Rd.of {H:Hp}{a:Addr}{u:HO}(h:H a=some u):Rd H a u:=.inl h
theorem Rd.ok {P:K08}{w:World}{H:Hp}{h:Heap}{a:Addr}{u:HO}(r:Rd H a u) (x:HOk P w H h):ObjOk P w H h a u:=by
 rcases r with r|⟨o,r⟩
 ·exact x a u r
 ·obtain⟨_,q⟩:=x a _ r;exact q
def Mut:Option HO->Prop
 | .(l _)=>True
 | some (.dK _)=>True
 | some (.dT _)=>True
 | some (.set _)=>True
 | some (.ins _ _ _)=>True
 | some (.ext _)=>True
 | _=>False
section
variable {P:K08}{w:World}{H:Hp}{h h':Heap}{x e:Addr}{o':HO}
theorem HOk.write (ok:HOk P w H h) (mu:Mut (H x)) (he:e=x\/H e=some (.own x)) (k:∀b u,b≠e->h.get? b=some u->h'.get? b=some u) (heo:∃u,h'.get? e=some u)
 (new:ObjOk P w (upd H x o') h' x o'):HOk P w (upd H x o') h':=λb u q=>by
 have nown:∀c y,H c=some (.own y)->c≠x:=λc y r z=>by subst z;rw[r]at mu;exact mu
 have ntup:∀c xs,H c=.(g xs)->c≠x:=λc xs r z=>by subst z;rw[r]at mu;exact mu
 by_cases hb:b=x
 ·subst hb;rw[z08]at q;cases q;exact new
 ·rw[Y1 hb]at q;by_cases hbe:b=e
  ·have q':H b=some (.own x):=by
    rcases he with z|z
    ·exact absurd (hbe.trans z) hb
    ·rw[hbe];exact z
   rw[q]at q';cases q';obtain⟨v,hv⟩:=heo;exact⟨v,by rw[hbe];exact hv⟩
  ·refine(ok b u q).stay (λc v hc r=>k c v ?_ r) (λc r=>by rw[Y1 (nown c b r)];exact r) λc xs r=>by rw[Y1 (ntup c xs r)];exact r
   rcases hc with rfl|hc
   ·exact hbe
   ·rintro rfl;rcases he with z|z
    ·exact nown c b hc z
    ·rw[hc]at z;cases z;exact hb rfl
end
structure Un (fs ex:List Addr) (H H':Hp) (h h':Heap):Prop where
 keep:∀b o,h.get? b=some o->H b=none->b∉fs->b∉ex->h'.get? b=some o
 slot:∀b o,h.get? b=some o->H b=none->b∈fs->b∉ex->∃sl,h'.get? b=some { o with slots:=sl }
 free:∀b o,h.get? b=some o->H b=none->b∉ex->H' b=none
 there:∀b o,h.get? b=some o->b∉ex->∃o',h'.get? b=some o'
 tups:∀b xs,H b=.(g xs)->H' b=.(g xs)
 frzs:∀b o u,H b=some (.frz o u)->H' b=some (.frz o u)
 tbls:∀b ps,H b=some (.tbl ps)->∃more,H' b=some (.tbl (ps++more))
section
variable {fs fs' ex ex':List Addr}{H H1 H2:Hp}{h h1 h2 h':Heap}{a x e:Addr}{o:HO}
theorem Un.any (u:Un fs ex H H1 h h1) {b:Addr}{ob:Obj}(q:h.get? b=some ob) (n:H b=none) (hx:b∉ex):∃sl,h1.get? b=some { ob with slots:=sl }:=by
 by_cases hb:b∈fs
 ·exact u.slot b ob q n hb hx
 ·exact⟨ob.slots,u.keep b ob q n hb hx⟩
theorem Un.trans (a:Un fs ex H H1 h h1) (b:Un fs ex H1 H2 h1 h2):Un fs ex H H2 h h2 where
 keep:=λc ob q n hc hx=>b.keep c ob (a.keep c ob q n hc hx) (a.free c ob q n hx) hc hx
 slot:=λc ob q n hc hx=>by
  obtain⟨sl,e1⟩:=a.slot c ob q n hc hx;obtain⟨sl',e2⟩:=b.slot c _ e1 (a.free c ob q n hx) hc hx;exact⟨sl',e2⟩
 free:=λc ob q n hx=>by
  obtain⟨o',e1⟩:=a.there c ob q hx;exact b.free c o' e1 (a.free c ob q n hx) hx
 there:=λc ob q hx=>by
  obtain⟨o',e1⟩:=a.there c ob q hx;exact b.there c o' e1 hx
 tups:=λc xs q=>b.tups c xs (a.tups c xs q)
 frzs:=λc ob xs q=>b.frzs c ob xs (a.frzs c ob xs q)
 tbls:=λc ps q=>by
  obtain⟨m1,e1⟩:=a.tbls c ps q;obtain⟨m2,e2⟩:=b.tbls c _ e1;exact⟨m1++m2,by rw[e2,Z0b]⟩
theorem Un.kept (k:∀b u,h.get? b=some u->h'.get? b=some u):Un fs ex H H h h' :=
 ⟨λb ob q _ _ _=>k b ob q,λb ob q _ _ _=>⟨ob.slots,k b ob q⟩,λ_ _ _ n _=>n,λb ob q _=>⟨ob,k b ob q⟩,λ_ _ q=>q,λ_ _ _ q=>q,λ_ ps q=>⟨#[],by rw[q];simp⟩⟩
theorem Un.refl:Un fs ex H H h h:=Un.kept λ_ _ q=>q
theorem Un.laid (k:∀b u,h.get? b=some u->h'.get? b=some u) (hp:h.objs.size<=a) (hn:H a=none):Un fs ex H (upd H a o) h h' where
 keep:=λb u q _ _ _=>k b u q
 slot:=λb u q _ _ _=>⟨u.slots,k b u q⟩
 free:=λb u q n _=>by rw[Y1 (K0e (K0i (K02 q) hp))];exact n
 there:=λb u q _=>⟨u,k b u q⟩
 tups:=λb xs q=>by rw[Y1 (Y5 q hn)];exact q
 frzs:=λb u xs q=>by rw[Y1 (Y5 q hn)];exact q
 tbls:=λb ps q=>⟨#[],by rw[Y1 (Y5 q hn),q];simp⟩
theorem Un.write (mu:Mut (H x)) (he:e=x\/H e=some (.own x)) (k:∀b u,b≠e->h.get? b=some u->h'.get? b=some u) (heo:∃u,h'.get? e=some u):Un fs ex H (upd H x o) h h':=by
 have hx:∀b,H b=none->b≠x:=λb n z=>by subst z;rw[n]at mu;exact mu
 have hb:∀b,H b=none->b≠e:=λb n z=>by
  subst z;rcases he with r|r
  ·exact hx b n r
  ·rw[n]at r;cases r
 have hm:∀b u,H b=some u->¬ Mut (some u)->b≠x:=λb u q nm z=>by subst z;rw[q]at mu;exact nm mu
 refine⟨λb u q n _ _=>k b u (hb b n) q,λb u q n _ _=>⟨u.slots,k b u (hb b n) q⟩,λb u q n _=>by rw[Y1 (hx b n)];exact n,λb u q _=>?_,
  λb xs q=>by rw[Y1 (hm b _ q λz=>z)];exact q,λb u xs q=>by rw[Y1 (hm b _ q λz=>z)];exact q,λb ps q=>⟨#[],by rw[Y1 (hm b _ q λz=>z),q];simp⟩⟩
 by_cases hbe:b=e
 ·subst hbe;exact heo
 ·exact⟨u,k b u hbe q⟩
theorem Un.mono (u:Un fs ex H H1 h h1) (hs:∀b∈fs,b∈fs') (hx:∀b∈ex,b∈ex'):Un fs' ex' H H1 h h1 :=
 ⟨λb ob q n hb he=>u.keep b ob q n (λz=>hb (hs b z)) λz=>he (hx b z),λ_ _ q n _ he=>u.any q n λz=>he (hx _ z),λb ob q n he=>u.free b ob q n λz=>he (hx b z),λb ob q he=>u.there b ob q λz=>he (hx b z),u.tups,u.frzs,u.tbls⟩
end
def trk (h:Heap) (H:Hp):List Addr:=(K0o h.objs.size).filter λa=>(H a).isSome
def hidT (h:Heap) (H:Hp):Heap:=K92 h (trk h H)
theorem z8N (h:Heap) (H:Hp):(hidT h H).objs.size=h.objs.size:=PySem.W.hideAll_size _ _
theorem z9Q {h:Heap}{H:Hp}{b:Addr}{o:Obj}(e:h.get? b=some o) (n:H b=none):(hidT h H).get? b=some o :=
 PySem.W.hideAll_get _ e λhm=>by
  have q:(H b).isSome=true:=(Z1f.mp hm).2;rw[n]at q;simp at q
theorem zn0 {h:Heap}{H:Hp}{b:Addr}{o:Obj}(e:(hidT h H).get? b=some o):h.get? b=some o/\H b=none:=by
 have e':h.get? b=some o:=Z04 (trk h H) e;refine⟨e',?_⟩;cases q:H b with
 | none=>rfl
 | some x =>
  have hm:b∈trk h H:=Z1f.mpr ⟨K20.mpr (K02 e'),by simp[q]⟩;have z:(hidT h H).get? b=none:=K6p (trk h H) hm;rw[z]at e;cases e
def zl7 (g h:Heap) (L:Addr):List (Addr×Obj):=(K0o h.objs.size).filterMap λa=>if a=L\/(g.get? a).isSome=true then none else (h.get? a).map λo=>(a,o)
def rest (g h:Heap) (L d:Addr):List (Addr×Obj):=(zl7 g h L).filter λp=>decide (p.1≠d)
structure Mod (K:K2) (mg:Str->Option Value) (base:Heap):Prop where
 kin:K.In base
 glob:base.Ns K1q mg
 blt:∃mb,base.Ns builtinsNs mb/\∀x:Str,x≠"__name__"->mb x=K55 x
 nolimit:base.NoLimit
structure Cx where
 prog:K08
 w:World
 K:K2
 mg:Str->Option Value
 base:Heap
 A:Around
 N:List Str
 s₀:Shared
 H₀:Hp
 env:Env
 outer:List Env
 stack:List Env
 ex:List Addr
 fn:Str->Bool
 calm:Bool
 pn:List (Addr×Obj)
 xe:Value->Shared->Prop
def frs (l:List Env):List Addr:=l.filterMap (·.frame)
abbrev Cx.fs (X:Cx):List Addr:=frs X.outer
def Vis (sc:Scope) (x:Str):Prop:=sc.names.lookup x=some .local\/sc.names.lookup x=some .cell\/sc.names.lookup x=some .free
def Loc (sc:Scope) (x:Str):Prop:=sc.names.lookup x=some .local\/sc.names.lookup x=some .cell
def Look (env:Env) (h:Heap) (m:Str->Option Value) (x:Str) (u:Value):Prop :=
 (env.kindOf x=some .local/\m x=some u)\/((env.kindOf x=some .cell\/env.kindOf x=some .free)/\∃c,env.cells.lookup x=some c/\h.IsCell c (some u))
structure Cx.Ok (X:Cx):Prop where
 mod:Mod X.K X.mg X.base
 kind:X.env.scope.kind=.function
 glob:X.env.globals=K1q
 blt:X.env.builtins=builtinsNs
 above:X.s₀.heap.objs.size<=X.env.locals
 inj:∀x y c,X.env.cells.lookup x=some c->X.env.cells.lookup y=some c->x=y
 has:∀x,(X.env.kindOf x=some .cell\/X.env.kindOf x=some .free)->∃c,X.env.cells.lookup x=some c
 cab:∀x c,X.fn x=true->X.env.cells.lookup x=some c->X.s₀.heap.objs.size<=c
 hd:X.calm=true->X.A.handled=none
 frames:X.A.frames=some X.stack
 stk:X.stack=X.outer\/(X.stack=X.env::X.outer/\X.env.frame=some X.env.locals)
 exf:∀b∈X.ex,b≠X.env.locals/\∀x c,X.env.cells.lookup x=some c->c≠b
 bs:∀b o,X.base.get? b=some o->X.s₀.heap.get? b=some o/\X.H₀ b=none
 bsz:X.base.objs.size<=X.s₀.heap.objs.size
 noex:∀b o,X.base.get? b=some o->b∉X.ex
 exfs:∀b∈X.ex,b∉X.fs
 funs:X.s₀.heap.FunFrames X.base X.outer
 frf:∀b∈X.fs,X.H₀ b=none
structure Inv (X:Cx) (pins:List (Addr×Obj)) (σ:List (Option V)) (H:Hp) (s:Shared):Prop where
 ok:X.Ok
 os:s.os=X.s₀.os
 bare:K76 s.gens
 base:Un X.fs X.ex X.H₀ H X.s₀.heap s.heap
 loc:∃m,s.heap.Ns X.env.locals m/\∀(i:Nat) (x:Str) (v:V),X.N[i]?=some x->σ[i]?=some (some v)->Vis X.env.scope x->∃u,RelV v u/\Look X.env s.heap m x u
 cell:∀x c,X.env.cells.lookup x=some c->∃v,s.heap.IsCell c v
 free:H X.env.locals=none
 freeC:∀x c,X.env.cells.lookup x=some c->H c=none
 pin:∀p∈X.pn++pins,s.heap.get? p.1=some p.2/\H p.1=none/\p.1≠X.env.locals/\p.1∉X.fs/\∀v,p.2.data≠.cell v
 hok:HOk X.prog X.w H s.heap
 len:σ.length=X.N.length
section
variable {X:Cx}{pins:List (Addr×Obj)}{σ:List (Option V)}{H H':Hp}{s:Shared}{h':Heap}
theorem Cx.Ok.nofr (ok:X.Ok) {b:Addr}{o:Obj}(e:X.base.get? b=some o):b∉X.fs:=λhb=>by
 have:=(ok.funs.mem hb).1;rw[e]at this;cases this
theorem Inv.bs (I:Inv X pins σ H s):∀b o,X.base.get? b=some o->s.heap.get? b=some o/\H b=none:=λb o e =>
 ⟨I.base.keep b o (I.ok.bs b o e).1 (I.ok.bs b o e).2 (I.ok.nofr e) (I.ok.noex b o e),I.base.free b o (I.ok.bs b o e).1 (I.ok.bs b o e).2 (I.ok.noex b o e)⟩
theorem Inv.bk (I:Inv X pins σ H s):∀b o,X.base.get? b=some o->s.heap.get? b=some o:=λb o e=>(I.bs b o e).1
theorem Inv.mod (I:Inv X pins σ H s):Mod X.K X.mg X.base:=I.ok.mod
theorem Inv.kIn (I:Inv X pins σ H s):X.K.In s.heap:=I.ok.mod.kin.keeps I.bk
theorem Inv.nolimit (I:Inv X pins σ H s):s.heap.NoLimit:=I.ok.mod.nolimit.keeps I.bk
theorem Inv.fr (I:Inv X pins σ H s):∃m,Fr X.base X.env.locals s.heap m :=
 let ⟨m,hn,_⟩:=I.loc
 ⟨m,hn,I.bk,K0l I.ok.bsz I.ok.above⟩
theorem Inv.lt (I:Inv X pins σ H s):X.env.locals<s.heap.objs.size:=let ⟨_,hn,_⟩:=I.loc;hn.lt
theorem Inv.sz (I:Inv X pins σ H s):X.s₀.heap.objs.size<=s.heap.objs.size:=K0l I.ok.above (K4f I.lt)
theorem Inv.nofs (I:Inv X pins σ H s) {a:Addr}(h:s.heap.objs.size<=a):a∉X.fs:=λhb=>by
 obtain⟨_,o,ho,_⟩:=I.ok.funs.mem hb;exact absurd (K0i (K02 ho) (K0l I.sz h)) (K2u _)
theorem Inv.cne (I:Inv X pins σ H s):∀x c,X.env.cells.lookup x=some c->c≠X.env.locals:=λx c e z=>by
 obtain⟨v,o,ho,hd⟩:=I.cell x c e;obtain⟨m,⟨o',es,ep,ho',hd',_⟩,_⟩:=I.loc;rw[z,ho']at ho;cases ho;rw[hd']at hd;cases hd
theorem Inv.funs (I:Inv X pins σ H s):s.heap.FunFrames X.base X.outer:=by
 have all:∀(l:List Env),(∀b∈frs l,b∈X.fs)->X.s₀.heap.FunFrames X.base l->s.heap.FunFrames X.base l:=by
  intro l;induction l with
  | nil=>intro _ _;trivial
  | cons env r ih =>
   intro hs hl;obtain⟨hk,⟨L,o,hf,hn,ho,hd⟩,hr⟩:=hl;have hL:L∈X.fs:=hs L (by unfold frs;rw[K24,hf];exact K0t);obtain⟨sl,e⟩:=I.base.slot L o ho (I.ok.frf L hL) hL λz=>I.ok.exfs L z hL;exact⟨hk,⟨L,_,hf,hn,e,hd⟩,ih (λb hb=>hs b (by unfold frs;rw[K24,hf];exact K0j _ hb)) hr⟩
 exact all X.outer (λ_ hb=>hb) I.ok.funs
theorem Inv.stack (I:Inv X pins σ H s):s.heap.FunFrames X.base X.stack:=by
 rcases I.ok.stk with e|⟨e,hf⟩
 ·rw[e];exact I.funs
 ·rw[e];obtain⟨m,hn,_⟩:=I.loc;refine .cons (by rw[I.ok.kind];decide) hf hn ?_ I.funs;exact K9k (K0l I.ok.bsz I.ok.above)
theorem Inv.stkSub (I:Inv X pins σ H s):∀b∈frs X.stack,b∈X.env.locals::X.fs:=λb hb=>by
 rcases I.ok.stk with e|⟨e,hf⟩
 ·rw[e]at hb;exact K0j _ hb
 ·rw[e]at hb;unfold frs at hb;rw[K24,hf]at hb;exact hb
theorem Inv.stkFree (I:Inv X pins σ H s):∀b∈frs X.stack,H b=none:=λb hb=>by
 rcases K0a.mp (I.stkSub b hb) with e|hb
 ·rw[e];exact I.free
 ·obtain⟨_,o,ho,_⟩:=I.ok.funs.mem hb;exact I.base.free b o ho (I.ok.frf b hb) λz=>I.ok.exfs b z hb
theorem Inv.step {g':Array K6r}{t':Nat}{d':Drawn}{ch:List Addr}(I:Inv X pins σ H s)
 (hch:∀b∈ch,(b∈X.ex\/X.s₀.heap.objs.size<=b)/\b≠X.env.locals/\(∀x c,X.env.cells.lookup x=some c->c≠b)/\∀p∈X.pn++pins,p.1≠b)
 (keep:∀b o,b≠X.env.locals->b∉X.fs->b∉ch->s.heap.get? b=some o->H b=none->h'.get? b=some o)
 (slot:∀b o,b≠X.env.locals->b∈X.fs->b∉ch->s.heap.get? b=some o->H b=none->∃sl,h'.get? b=some { o with slots:=sl }) (free:∀b o,b∉ch->s.heap.get? b=some o->H b=none->H' b=none)
 (there:∀b o,b∉ch->s.heap.get? b=some o->∃o',h'.get? b=some o')
 (tups:∀b xs,H b=.(g xs)->H' b=.(g xs)) (frzs:∀b o u,H b=some (.frz o u)->H' b=some (.frz o u)) (tbls:∀b ps,H b=some (.tbl ps)->∃more,H' b=some (.tbl (ps++more)))
 (ns:∀m,s.heap.Ns X.env.locals m->h'.Ns X.env.locals m) (hok:HOk X.prog X.w H' h') (hg:K76 g') :
 Inv X pins σ H' { s with heap:=h',gens:=g',drawn:=d',toks:=t' }:=by
 have neL:∀b o,X.s₀.heap.get? b=some o->b≠X.env.locals:=λb o e=>K0e (K0i (K02 e) I.ok.above);have neC:∀b o,X.s₀.heap.get? b=some o->b∉X.ex->b∉ch:=λb o e hx hb=>by
  rcases(hch b hb).1 with z|z
  ·exact hx z
  ·exact absurd (K0i (K02 e) z) (K2u _)
 have cellK:∀x c,X.env.cells.lookup x=some c->∀v,s.heap.IsCell c v->h'.IsCell c v:=λx c e v ⟨o,ho,hd⟩=>by
  have nch:c∉ch:=λz=>(hch c z).2.2.1 x c e rfl;by_cases hc:c∈X.fs
  ·obtain⟨sl,q⟩:=slot c o (I.cne x c e) hc nch ho (I.freeC x c e);exact⟨_,q,hd⟩
  ·exact⟨o,keep c o (I.cne x c e) hc nch ho (I.freeC x c e),hd⟩
 refine⟨I.ok,I.os,hg,⟨λb o e n hb hx=>?_,λb o e n hb hx=>?_,λb o e n hx=>?_,λb o e hx=>?_,λb xs e=>tups b xs (I.base.tups b xs e),λb o xs e=>frzs b o xs (I.base.frzs b o xs e),λb ps e=>?_⟩,?_,λx c e=>?_,?_,λx c e=>?_,λp hp=>?_,hok,I.len⟩
 ·exact keep b o (neL b o e) hb (neC b o e hx) (I.base.keep b o e n hb hx) (I.base.free b o e n hx)
 ·obtain⟨sl,e1⟩:=I.base.slot b o e n hb hx;obtain⟨sl',e2⟩:=slot b _ (neL b o e) hb (neC b o e hx) e1 (I.base.free b o e n hx);exact⟨sl',e2⟩
 ·obtain⟨o',e1⟩:=I.base.there b o e hx;exact free b o' (neC b o e hx) e1 (I.base.free b o e n hx)
 ·obtain⟨o',e1⟩:=I.base.there b o e hx;exact there b o' (neC b o e hx) e1
 ·obtain⟨m1,e1⟩:=I.base.tbls b ps e;obtain⟨m2,e2⟩:=tbls b _ e1;exact⟨m1++m2,by rw[e2,Z0b]⟩
 ·obtain⟨m,hn,hl⟩:=I.loc;refine⟨m,ns m hn,λi x v e1 e2 e3=>?_⟩;obtain⟨u,r,l⟩:=hl i x v e1 e2 e3;refine⟨u,r,?_⟩;rcases l with l|⟨k,c,e,z⟩
  ·exact .inl l
  ·exact .inr ⟨k,c,e,cellK x c e _ z⟩
 ·obtain⟨v,z⟩:=I.cell x c e;exact⟨v,cellK x c e v z⟩
 ·obtain⟨m,⟨o,_,_,ho,_⟩,_⟩:=I.loc;exact free _ o (λz=>(hch _ z).2.1 rfl) ho I.free
 ·obtain⟨v,o,ho,hd⟩:=I.cell x c e;exact free c o (λz=>(hch c z).2.2.1 x c e rfl) ho (I.freeC x c e)
 ·obtain⟨e,n,ne,nf,d⟩:=I.pin p hp;have nch:p.1∉ch:=λz=>(hch p.1 z).2.2.2 p hp rfl;exact⟨keep p.1 p.2 ne nf nch e n,free p.1 p.2 nch e n,ne,nf,d⟩
theorem Inv.un {t':Nat}(I:Inv X pins σ H s) (u:Un X.fs [] H H' s.heap h') (hok:HOk X.prog X.w H' h'):Inv X pins σ H' { s with heap:=h',toks:=t' }:=by
 obtain⟨m,⟨o,es,ep,ho,r⟩,_⟩:=id I.loc;obtain⟨sl,hL⟩:=u.any ho I.free (by simp);exact I.step (g':=s.gens) (d':=s.drawn) (ch:=[]) (λ_ z=>nomatch z) (λb o _ hb _ e n=>u.keep b o e n hb (by simp)) (λb o _ hb _ e n=>u.slot b o e n hb (by simp)) (λb o _ e n=>u.free b o e n (by simp)) (λb o _ e=>u.there b o e (by simp)) u.tups u.frzs u.tbls (λm' hm=>by
  obtain⟨o',es',ep',ho',r'⟩:=hm;rw[ho]at ho';cases ho';exact⟨_,es',ep',hL,r'⟩) hok I.bare
theorem Inv.call {g':Array K6r}{t':Nat}{d':Drawn}{ch:List Addr}(I:Inv X pins σ H s) (u:Un (frs X.stack) ch H H' s.heap h') (hok:HOk X.prog X.w H' h') (hg:K76 g')
 (hch:∀b∈ch,(b∈X.ex\/X.s₀.heap.objs.size<=b)/\b≠X.env.locals/\(∀x c,X.env.cells.lookup x=some c->c≠b)/\∀p∈X.pn++pins,p.1≠b) :
 Inv X pins σ H' { s with heap:=h',gens:=g',drawn:=d',toks:=t' }:=by
 obtain⟨m,⟨o,es,ep,ho,r⟩,_⟩:=id I.loc;obtain⟨sl,hL⟩:=u.any ho I.free λz=>(hch _ z).2.1 rfl;exact I.step (ch:=ch) hch (λb o hL hb hc e n=>u.keep b o e n (λz=>(K0a.mp (I.stkSub b z)).elim hL hb) hc) (λb o _ _ hc e n=>u.any e n hc) (λb o hc e n=>u.free b o e n hc) (λb o hc e=>u.there b o e hc) u.tups u.frzs u.tbls (λm' hm=>by
  obtain⟨o',es',ep',ho',r'⟩:=hm;rw[ho]at ho';cases ho';exact⟨_,es',ep',hL,r'⟩) hok hg
theorem Inv.turned {t':Nat}{it:Addr}(I:Inv X pins σ H s) (k:∀b o,b≠it->s.heap.get? b=some o->h'.get? b=some o) (hn:H it=none) (hL:it≠X.env.locals)
 (h1:it∈X.ex\/X.s₀.heap.objs.size<=it) (h2:∀x c,X.env.cells.lookup x=some c->c≠it) (h3:∀p∈X.pn++pins,p.1≠it):Inv X pins σ H { s with heap:=h',toks:=t' }:=by
 have nit:∀b u,H b=some u->b≠it:=λb u e z=>by rw[z,hn]at e;cases e
 refine I.step (g':=s.gens) (d':=s.drawn) (ch:=[it]) (λb hb=>?_) (λb o _ _ hc e _=>k b o (λz=>hc (by simp[z])) e) (λb o _ _ hc e _=>⟨o.slots,k b o (λz=>hc (by simp[z])) e⟩) (λ_ _ _ _ n=>n)
  (λb o hc e=>⟨o,k b o (λz=>hc (by simp[z])) e⟩) (λ_ _ e=>e) (λ_ _ _ e=>e) (λb ps e=>⟨#[],by rw[e];simp⟩) (λm hm=>?_) (λb u e=>?_) I.bare
 ·have e:b=it:=by simpa using hb
  subst e;exact⟨h1,hL,h2,h3⟩
 ·obtain⟨o,es,ep,ho,r⟩:=hm;exact⟨o,es,ep,k _ o (K5h hL) ho,r⟩
 ·refine(I.hok b u e).stay (λc v hc q=>k c v ?_ q) (λ_ q=>q) λ_ _ q=>q;rcases hc with z|z
  ·rw[z];exact nit b u e
  ·exact nit c _ z
theorem Inv.tok (I:Inv X pins σ H s) (t:Nat):Inv X pins σ H { s with toks:=t }:=I.un (h':=s.heap) (t':=t) Un.refl I.hok
theorem Inv.kept {t':Nat}(I:Inv X pins σ H s) (k:∀b u,s.heap.get? b=some u->h'.get? b=some u):Inv X pins σ H { s with heap:=h',toks:=t' }:=I.un (Un.kept k) (I.hok.kept k)
theorem Inv.laid {a:Addr}{o:HO}{t':Nat}(I:Inv X pins σ H s) (k:∀b u,s.heap.get? b=some u->h'.get? b=some u) (hp:s.heap.objs.size<=a) (new:ObjOk X.prog X.w (upd H a o) h' a o) :
 Inv X pins σ (upd H a o) { s with heap:=h',toks:=t' }:=I.un (Un.laid k hp (I.hok.fresh hp)) (I.hok.laid k hp new)
theorem Inv.write {x e:Addr}{o:HO}{t':Nat}(I:Inv X pins σ H s) (mu:Mut (H x)) (he:e=x\/H e=some (.own x)) (k:∀b u,b≠e->s.heap.get? b=some u->h'.get? b=some u) (heo:∃u,h'.get? e=some u)
 (new:ObjOk X.prog X.w (upd H x o) h' x o):Inv X pins σ (upd H x o) { s with heap:=h',toks:=t' }:=I.un (Un.write mu he k heo) (I.hok.write mu he k heo new)
theorem Inv.weak {σ':List (Option V)}(I:Inv X pins σ H s) (hl:σ'.length=σ.length) (w:∀(i:Nat) v,σ'[i]?=some (some v)->σ[i]?=some (some v)):Inv X pins σ' H s :=
 ⟨I.ok,I.os,I.bare,I.base,let ⟨m,hn,hl'⟩:=I.loc;⟨m,hn,λi x v e1 e2 e3=>hl' i x v e1 (w i v e2) e3⟩,I.cell,I.free,I.freeC,I.pin,I.hok,hl.trans I.len⟩
theorem Inv.pins_of {pins':List (Addr×Obj)}(I:Inv X pins σ H s) (h:∀p∈pins',s.heap.get? p.1=some p.2/\H p.1=none/\p.1≠X.env.locals/\p.1∉X.fs/\∀v,p.2.data≠.cell v):Inv X pins' σ H s :=
 ⟨I.ok,I.os,I.bare,I.base,I.loc,I.cell,I.free,I.freeC,λp hp=>(K0p.mp hp).elim (λz=>I.pin p (K2q _ z)) (h p),I.hok,I.len⟩
theorem z6U {N:List Str}(hN:N.Nodup) {i j:Nat}{x:Str}(a:N[i]?=some x) (b:N[j]?=some x):i=j:=by
 obtain⟨h1,e1⟩:=K8.mp a;obtain⟨h2,e2⟩:=K8.mp b;exact(List.getElem_inj hN).mp (e1.trans e2.symm)
theorem z8B {M:Model}{A:Around}{E:Value->Shared->Prop}{i:Nat}{x:Str}{v:V}{u:Value}{Q:Unit->Shared->Prop}(I:Inv X pins σ H s) (hN:X.N.Nodup) (hi:X.N[i]?=some x) (hx:Loc X.env.scope x) (r:RelV v u)
 (h:∀s',Inv X pins (σ.set i (some v)) H s'->(∃a,K3h a s.heap s'.heap/\(a=X.env.locals\/X.env.cells.lookup x=some a))->Q () s') (hf:X.fn x=true\/X.env.scope.names.lookup x=some .local:=by first|exact .inl rfl|exact .inr rfl|assumption):wpAny M A (storeName X.env x u) Q E s:=by
 obtain⟨m,hn,hl⟩:=id I.loc;have hcls:(X.env.scope.kind==.class||(X.env.scope.kind==.module&&X.env.locals != X.env.globals))=false:=by rw[I.ok.kind];rfl
 have hiσ:i<σ.length:=by rw[I.len];exact(K8.mp hi).1
 have cne:=I.cne;have tracked:∀{a:Addr} {h':Heap},(∃o,s.heap.get? a=some o/\H a=none)->K3h a s.heap h'->HOk X.prog X.w H h':=λ{a h'} ha hs b ob e=>by
  obtain⟨_,_,hfree⟩:=ha;refine(I.hok b ob e).stay (λc w' hc q=>(hs.2 c ?_).trans q) (λ_ q=>q) λ_ _ q=>q;rintro rfl;rcases hc with rfl|hc
  ·rw[hfree]at e;cases e
  ·rw[hfree]at hc;cases hc
 rcases hx with hk|hk
 ·refine wpAny_storeName_local hk hn (λh' hn' hs=>?_) hcls;obtain⟨oL,_,_,hoL,_⟩:=id hn;refine h _ ⟨I.ok,I.os,I.bare,⟨λb o e n hb hx=>?_,λb o e n hb hx=>?_,I.base.free,λb o e hx=>?_,I.base.tups,I.base.frzs,I.base.tbls⟩,⟨_,hn',λj y v' e1 e2 e3=>?_⟩,λy c e=>?_,I.free,I.freeC,λp hp=>?_,tracked ⟨oL,hoL,I.free⟩ hs,by simpa using I.len⟩ ⟨_,hs,.inl rfl⟩
  ·exact(hs.2 b (K0e (K0i (K02 e) I.ok.above))).trans (I.base.keep b o e n hb hx)
  ·obtain⟨sl,e1⟩:=I.base.slot b o e n hb hx;exact⟨sl,(hs.2 b (K0e (K0i (K02 e) I.ok.above))).trans e1⟩
  ·obtain⟨o',e1⟩:=I.base.there b o e hx;exact⟨o',(hs.2 b (K0e (K0i (K02 e) I.ok.above))).trans e1⟩
  ·by_cases hj:j=i
   ·subst hj;rw[hi]at e1;cases e1;rw[K19 hiσ]at e2;cases e2;exact⟨u,r,.inl ⟨hk,by simp⟩⟩
   ·rw[K1e (K5h hj)]at e2;obtain⟨u',r',q⟩:=hl j y v' e1 e2 e3;refine⟨u',r',?_⟩;rcases q with ⟨k,e⟩|⟨k,c,e,z⟩
    ·refine .inl ⟨k,?_⟩;have:y≠x:=λe=>hj (z6U hN e1 (e ▸ hi));simp[this,e]
    ·exact .inr ⟨k,c,e,z.sameBut hs (cne y c e)⟩
  ·obtain⟨w',z⟩:=I.cell y c e;exact⟨w',z.sameBut hs (cne y c e)⟩
  ·obtain⟨e,n,ne,nf,d⟩:=I.pin p hp;exact⟨(hs.2 p.1 ne).trans e,n,ne,nf,d⟩
 ·have hfn:X.fn x=true:=by
   rcases hf with z|z
   ·exact z
   ·rw[z]at hk;cases hk
  obtain⟨c,hc⟩:=I.ok.has x (.inl hk);obtain⟨w',z⟩:=I.cell x c hc;refine wpAny_storeName_cell I.ok.kind hk hc z (λh' hc' hs=>?_);obtain⟨oc,hoc,hocd⟩:=id z;refine h { s with heap:=h' } ⟨I.ok,I.os,I.bare,⟨λb o e n hb hx=>?_,λb o e n hb hx=>?_,I.base.free,λb o e hx=>?_,I.base.tups,I.base.frzs,I.base.tbls⟩,⟨m,hn.sameBut hs (K5h (cne x c hc)),λj y v' e1 e2 e3=>?_⟩,λy c' e=>?_,I.free,I.freeC,λp hp=>?_,tracked ⟨oc,hoc,I.freeC x c hc⟩ hs,by simpa using I.len⟩ ⟨c,hs,.inr hc⟩
  ·exact(hs.2 b (K0e (K0i (K02 e) (I.ok.cab x c hfn hc)))).trans (I.base.keep b o e n hb hx)
  ·obtain⟨sl,e1⟩:=I.base.slot b o e n hb hx;exact⟨sl,(hs.2 b (K0e (K0i (K02 e) (I.ok.cab x c hfn hc)))).trans e1⟩
  ·obtain⟨o',e1⟩:=I.base.there b o e hx;exact⟨o',(hs.2 b (K0e (K0i (K02 e) (I.ok.cab x c hfn hc)))).trans e1⟩
  ·by_cases hj:j=i
   ·subst hj;rw[hi]at e1;cases e1;rw[K19 hiσ]at e2;cases e2;exact⟨u,r,.inr ⟨.inl hk,c,hc,hc'⟩⟩
   ·rw[K1e (K5h hj)]at e2;obtain⟨u',r',q⟩:=hl j y v' e1 e2 e3;refine⟨u',r',?_⟩;rcases q with q|⟨k,c',e,z'⟩
    ·exact .inl q
    ·refine .inr ⟨k,c',e,z'.sameBut hs ?_⟩;rintro rfl;exact hj (z6U hN e1 (I.ok.inj _ _ _ e hc ▸ hi))
  ·by_cases hcc:c'=c
   ·subst hcc;exact⟨_,hc'⟩
   ·obtain⟨w2,z2⟩:=I.cell y c' e;exact⟨w2,z2.sameBut hs hcc⟩
  ·obtain⟨e,n,ne,nf,d⟩:=I.pin p hp;refine⟨(hs.2 p.1 ?_).trans e,n,ne,nf,d⟩;intro q;rw[q,hoc]at e;have q':oc=p.2:=K1h e;exact d w' (by rw[<- q'];exact hocd)
theorem z6Y {M:Model}{A:Around}{E:Value->Shared->Prop}{i:Nat}{x:Str}{v:V}{u:Value}{Q:Unit->Shared->Prop}(I:Inv X pins σ H s) (hN:X.N.Nodup) (hi:X.N[i]?=some x) (hx:Loc X.env.scope x) (r:RelV v u)
 (h:∀s',Inv X pins (σ.set i (some v)) H s'->Q () s') (hf:X.fn x=true\/X.env.scope.names.lookup x=some .local:=by first|exact .inl rfl|exact .inr rfl|assumption):wpAny M A (storeName X.env x u) Q E s :=
 z8B I hN hi hx r (λs' I' _=>h s' I') hf
theorem Inv.call' {s':Shared}{ch:List Addr}(I:Inv X pins σ H s) (ho:s'.os=s.os) (u:Un (frs X.stack) ch H H' s.heap s'.heap) (hok:HOk X.prog X.w H' s'.heap) (hg:K76 s'.gens)
 (hch:∀b∈ch,(b∈X.ex\/X.s₀.heap.objs.size<=b)/\b≠X.env.locals/\(∀x c,X.env.cells.lookup x=some c->c≠b)/\∀p∈X.pn++pins,p.1≠b):Inv X pins σ H' s':=by
 obtain⟨h',g',d',t',o'⟩:=s';have e:o'=s.os:=ho;subst e;exact I.call (g':=g') (t':=t') (d':=d') u hok hg hch
end
abbrev XK:=Value->Option Addr->Hp->Prop
abbrev St:=List (Option V)
abbrev VK:=V->Hp->Prop
abbrev TE:=St->Hp->VK->Prop
abbrev TT:=St->Hp->(Bool->Hp->Prop)->Prop
abbrev TA:=St->Hp->(List V->Hp->Prop)->Prop
structure Ends where
 nx:St->Hp->Prop
 rt:VK
 bk:St->Hp->Prop:=λ_ _=>False
 ct:St->Hp->Prop:=λ_ _=>False
abbrev TS:=Ends->St->Hp->Prop
def EP (X:Cx) (pins:List (Addr×Obj)) (σ:St) (Q:VK) (u:Value) (s':Shared):Prop:=∃v H',Inv X pins σ H' s'/\RelV v u/\Q v H'
def TP (X:Cx) (pins:List (Addr×Obj)) (σ:St) (Q:Bool->Hp->Prop) (b:Bool) (s':Shared):Prop:=∃H',Inv X pins σ H' s'/\Q b H'
def AP (X:Cx) (pins:List (Addr×Obj)) (σ:St) (Q:List V->Hp->Prop) (us:List Value) (s':Shared):Prop:=∃vs H',Inv X pins σ H' s'/\Vals vs us/\Q vs H'
def SP (X:Cx) (pins:List (Addr×Obj)) (D:Ends) (f:Flow) (s':Shared):Prop :=
 match f with
 | .next=>∃σ' H',Inv X pins σ' H' s'/\D.nx σ' H'
 | .brk=>∃σ' H',Inv X pins σ' H' s'/\D.bk σ' H'
 | .cont=>∃σ' H',Inv X pins σ' H' s'/\D.ct σ' H'
 | .ret u=>∃v σ' H',Inv X pins σ' H' s'/\RelV v u/\D.rt v H'
def PE (X:Cx) (e:Expr) (t:TE):Prop :=
 ∀(pins:List (Addr×Obj)) (s:Shared) (σ:St) (H:Hp) (Q:VK),Inv X pins σ H s->t σ H Q->wpAny (model X.prog X.w) X.A (eval e X.env) (EP X pins σ Q) X.xe s
def PT (X:Cx) (e:Expr) (t:TT):Prop :=
 ∀(pins:List (Addr×Obj)) (s:Shared) (σ:St) (H:Hp) (Q:Bool->Hp->Prop),Inv X pins σ H s->t σ H Q->wpAny (model X.prog X.w) X.A (isTrue e X.env (eval e X.env)) (TP X pins σ Q) X.xe s
def PW (X:Cx) (e:Expr) (t:TT):Prop :=
 ∀(whole:Sem Value) (pins:List (Addr×Obj)) (s:Shared) (σ:St) (H:Hp) (Q:Bool->Hp->Prop),Inv X pins σ H s->t σ H Q->wpAny (model X.prog X.w) X.A (isTrue e X.env whole) (TP X pins σ Q) X.xe s
theorem PW.pt {X:Cx}{e:Expr}{t:TT}(h:PW X e t):PT X e t:=h _
def PA (X:Cx) (es:List Expr) (t:TA):Prop :=
 ∀(pos:Pos) (pins:List (Addr×Obj)) (s:Shared) (σ:St) (H:Hp) (Q:List V->Hp->Prop),Inv X pins σ H s->t σ H Q->wpAny (model X.prog X.w) X.A (spliced (backTo pos (K05 es X.env))) (AP X pins σ Q) X.xe s
def PS (X:Cx) (st:Stmt) (t:TS):Prop :=
 ∀(pins:List (Addr×Obj)) (s:Shared) (σ:St) (H:Hp) (D:Ends),Inv X pins σ H s->t D σ H->wpAny (model X.prog X.w) X.A (exec st X.env) (SP X pins D) X.xe s
def PSs (X:Cx) (st:List Stmt) (t:TS):Prop :=
 ∀(pins:List (Addr×Obj)) (s:Shared) (σ:St) (H:Hp) (D:Ends),Inv X pins σ H s->t D σ H->wpAny (model X.prog X.w) X.A (execs st X.env) (SP X pins D) X.xe s
theorem thn {α:Type}{t:Sem α}{Q Q':α->Shared->Prop}{M:Model}{A:Around}{E:Value->Shared->Prop}{s:Shared}(h:wpAny M A t Q E s) (hQ:∀a s,Q a s->Q' a s):wpAny M A t Q' E s:=K37 h hQ λ_ _ x=>x
section
variable {X:Cx}
def tVar (i:Nat):TE:=λσ H Q=>∃v,σ[i]?=some (some v)/\Q v H
def tC (v:V):TE:=λ_ H Q=>Q v H
theorem zG6 {i:Nat}{x:Str}{pos:Pos}(hN:X.N[i]?=some x) (hv:Vis X.env.scope x) (hd:(x==("__debug__":Str))=false:=by decide) (hcd:(x==("__classdict__":Str))=false:=by decide):PE X (.Name x pos) (tVar i):=by
 intro pins s σ H Q I h;obtain⟨v,e,h⟩:=h;obtain⟨m,hn,hl⟩:=I.loc;obtain⟨u,r,l⟩:=hl i x v hN e hv;have fin:EP X pins σ Q u s:=⟨v,H,I,r,h⟩;rcases l with ⟨hk,hm⟩|⟨hk,c,hc,hcell⟩
 ·exact wpAny_Name (wpAny_loadName_local I.ok.kind hk hn hm fin) hd
 ·rcases hk with hk|hk
  ·exact wpAny_Name (wpAny_loadName_cell I.ok.kind hk hc hcell fin) hd
  ·exact wpAny_Name (wpAny_loadName_free I.ok.kind hk hc hcell fin hcd) hd
theorem zI9 {i j pos}:PE X (.Constant (.int i) j pos) (tC (.int i)):=λ_ _ _ H _ I h=>wpAny_Constant_int ⟨.int i,H,I.tok _,⟨_,rfl⟩,h⟩
theorem zQ5 {b j pos}:PE X (.Constant (.bool b) j pos) (tC (.bl b)):=λ_ _ _ H _ I h=>Constant_bool ⟨.bl b,H,I,rfl,h⟩
theorem zA8 {j pos}:PE X (.Constant .none j pos) (tC .non):=λ_ _ _ H _ I h=>Constant_none ⟨.non,H,I,rfl,h⟩
theorem zF3 {x j pos}:PE X (.Constant (.str x) j pos) (tC (.str x)):=λ_ _ _ H _ I h=>Calls.Constant_str ⟨.str x,H,I.tok _,⟨_,rfl⟩,h⟩
def Gl (X:Cx) (x:Str):Prop:=X.env.kindOf x=some .globalImplicit
theorem z88 {E:Value->Shared->Prop}{pins:List (Addr×Obj)}{s:Shared}{σ:St}{H:Hp}{x:Str}{u:Value}{pos:Pos}{Q:Value->Shared->Prop}(I:Inv X pins σ H s) (hg:Gl X x) (hm:X.mg x=some u) (h:Q u s)
 (hd:(x==("__debug__":Str))=false:=by decide):wpAny (model X.prog X.w) X.A (eval (.Name x pos) X.env) Q E s :=
 K7j I.ok.kind hg (Calls.loadGlobal_global (by rw[I.ok.glob];exact I.mod.glob.keeps I.bk) hm h) hd
theorem z47 {E:Value->Shared->Prop}{pins:List (Addr×Obj)}{s:Shared}{σ:St}{H:Hp}{x:Str}{u:Value}{pos:Pos}{Q:Value->Shared->Prop}(I:Inv X pins σ H s) (hg:Gl X x) (hm:X.mg x=none) (hv:K55 x=some u) (h:Q u s)
 (hn:x≠"__name__":=by decide) (hd:(x==("__debug__":Str))=false:=by decide):wpAny (model X.prog X.w) X.A (eval (.Name x pos) X.env) Q E s:=by
 obtain⟨mb,h1,h2⟩:=I.mod.blt;exact K7j I.ok.kind hg (Calls.loadGlobal_builtin (by rw[I.ok.glob];exact I.mod.glob.keeps I.bk) hm (by rw[I.ok.blt];exact h1.keeps I.bk) ((h2 x hn).trans hv) h) hd
theorem zw3 {x:Str}{v:V}{u:Value}{pos:Pos}(hg:Gl X x) (hm:X.mg x=none) (hv:K55 x=some u) (r:RelV v u) (hn:x≠"__name__":=by decide) (hd:(x==("__debug__":Str))=false:=by decide):PE X (.Name x pos) (tC v) :=
 λ_ _ _ H _ I h=>z47 I hg hm hv ⟨v,H,I,r,h⟩ hn hd
variable {a b:Expr}{ta tb:TE}{pos:Pos}
def tB (t:TE):TT:=λσ H Q=>t σ H λx H1=>∃c,x=.bl c/\Q c H1
variable {tA tB':TT}{rest:List Expr}
def tAnd (t u:TT):TT:=λσ H Q=>t σ H λc H1=>if c=true then u σ H1 Q else Q false H1
def tOr (t u:TT):TT:=λσ H Q=>t σ H λc H1=>if c=true then Q true H1 else u σ H1 Q
def tNot (t:TT):TT:=λσ H Q=>t σ H λc H1=>Q (!c) H1
theorem zs8 (ha:PT X a tA):PW X (.BoolOp .And [a] pos) tA:=by
 intro wh pins s σ H Q I h;refine isTrue_and (thn (ha pins s σ H Q I h) λc s1 e=>?_);cases c with
 | true=>exact isTrue_and_nil e
 | false=>exact e
theorem zH5 (ha:PT X a tA):PW X (.BoolOp .Or [a] pos) tA:=by
 intro wh pins s σ H Q I h;refine isTrue_or (thn (ha pins s σ H Q I h) λc s1 e=>?_);cases c with
 | false=>exact isTrue_or_nil e
 | true=>exact e
theorem zK9 (ha:PT X a tA) (hb:PW X (.BoolOp .And (b::rest) pos) tB'):PW X (.BoolOp .And (a::b::rest) pos) (tAnd tA tB'):=by
 intro wh pins s σ H Q I h;refine isTrue_and (thn (ha pins s σ H _ I h) λc s1 ⟨H1,I1,q1⟩=>?_);cases c with
 | true=>exact hb wh pins s1 σ H1 Q I1 q1
 | false=>exact⟨H1,I1,q1⟩
theorem zQ2 (ha:PT X a tA) (hb:PW X (.BoolOp .Or (b::rest) pos) tB'):PW X (.BoolOp .Or (a::b::rest) pos) (tOr tA tB'):=by
 intro wh pins s σ H Q I h;refine isTrue_or (thn (ha pins s σ H _ I h) λc s1 ⟨H1,I1,q1⟩=>?_);cases c with
 | true=>exact⟨H1,I1,q1⟩
 | false=>exact hb wh pins s1 σ H1 Q I1 q1
theorem zJ7 (ha:PT X a tA):PT X (.UnaryOp .Not a pos) (tNot tA):=by
 intro pins s σ H Q I h;exact isTrue_not (ha pins s σ H (λc H1=>Q (!c) H1) I h)
def zN4 (ta tb:TE):TE:=λσ H Q=>ta σ H λx H1=>∃c,x=.bl c/\if c=true then tb σ H1 Q else Q (.bl false) H1
def zQ0 (ta:TE):TE:=λσ H Q=>ta σ H λx H1=>∃c,x=.bl c/\Q (.bl (!c)) H1
theorem zI8 {op}{t:TE}(h:PE X a t):PE X (.BoolOp op [a] pos) t:=λpins s σ H Q I hw=>BoolOp_one (h pins s σ H Q I hw)
theorem zJ3 (ha:PE X a ta) (hb:PE X (.BoolOp .And (b::rest) pos) tb):PE X (.BoolOp .And (a::b::rest) pos) (zN4 ta tb):=by
 intro pins s σ H Q I h;refine BoolOp_and (thn (ha pins s σ H _ I h) λv s1 ⟨x,H1,I1,r1,q1⟩=>?_);obtain⟨c,rfl,q1⟩:=q1;cases r1;refine K43 ?_;cases c with
 | true=>exact hb pins s1 σ H1 Q I1 q1
 | false=>exact⟨.bl false,H1,I1,rfl,q1⟩
theorem zD4 (ha:PE X a ta):PE X (.UnaryOp .Not a pos) (zQ0 ta):=by
 intro pins s σ H Q I h;refine UnaryOp_ (thn (ha pins s σ H _ I h) λv s1 ⟨x,H1,I1,r1,q1⟩=>?_);obtain⟨c,rfl,q1⟩:=q1;cases r1;exact not_of (K43 ⟨.bl (!c),H1,I1,rfl,q1⟩)
def tIf (t:TT) (ta tb:TE):TE:=λσ H Q=>t σ H λc H1=>if c=true then ta σ H1 Q else tb σ H1 Q
theorem z9K {c:Expr}(hc:PT X c tA) (ha:PE X a ta) (hb:PE X b tb):PE X (.IfExp c a b pos) (tIf tA ta tb):=by
 intro pins s σ H Q I h;refine wpAny_IfExp (thn (hc pins s σ H _ I h) λd s1 ⟨H1,I1,q1⟩=>?_);cases d with
 | true=>exact ha pins s1 σ H1 Q I1 q1
 | false=>exact hb pins s1 σ H1 Q I1 q1
end
def SqL (K:K2) (H:Hp) (a:Addr) (xs:List V):Prop :=
 Rd H a (.lst xs) \/
  ∃(o:Obj) (its:Array Value) (n:Nat),K.lookup a=some o/\o.cls=.type "list"/\o.dict=none/\o.data=.seq its n/\its.size<=sizeLine/\Vals xs its.toList
def SqT (K:K2) (H:Hp) (a:Addr) (xs:List V):Prop :=
 Rd H a (.tup xs) \/
  ∃(o:Obj) (its:Array Value) (n:Nat),K.lookup a=some o/\(o.cls=.type "tuple"/\o.dict=none)/\o.data=.seq its n/\its.size<=sizeLine/\Vals xs its.toList
def absV:Value->Option V
 | .none=>some .non
 | .bool b=>some (.bl b)
 | .int i _=>some (.int i)
 | .str x _=>some (.str x)
 | .bytes b _=>some (.byt b)
 | .float b _=>some (.flt b)
 | .ref a=>some (.ref a)
 | .type n=>some (.ty n)
 | _=>none
theorem RelV.abs {x:V}{u:Value}(r:RelV x u):absV u=some x:=by
 cases x with
 | non=>cases r;rfl
 | bl _=>cases r;rfl
 | int _=>obtain⟨t,rfl⟩:=r;rfl
 | str _=>obtain⟨t,rfl⟩:=r;rfl
 | byt _=>obtain⟨t,rfl⟩:=r;rfl
 | flt _=>obtain⟨t,rfl⟩:=r;rfl
 | ref _=>cases r;rfl
 | ty _=>cases r;rfl
theorem RelV.inj {x y:V}{u:Value}(r:RelV x u) (q:RelV y u):x=y:=K1h (r.abs.symm.trans q.abs)
theorem Vals.inj:∀{xs ys:List V}{us:List Value},Vals xs us->Vals ys us->xs=ys
 | _,_,_,.nil,.nil=>rfl
 | _,_,_,.cons r t,.cons r' t'=>by rw[r.inj r',Vals.inj t t']
section
variable {X:Cx}{pins:List (Addr×Obj)}{σ:St}{H:Hp}{s:Shared}{a:Addr}{xs ys:List V}
theorem SqL.of {K:K2}(h:H a=.(l xs)):SqL K H a xs:=.inl (.inl h)
theorem SqT.of {K:K2}(h:H a=.(g xs)):SqT K H a xs:=.inl (.inl h)
theorem Inv.list (I:Inv X pins σ H s) (h:SqL X.K H a xs):∃its:List Value,Vals xs its/\PlainL s.heap a its.toArray/\xs.length<=sizeLine:=by
 rcases h with h|⟨o,its,n,hk,hc,hd,hs,hz,r⟩
 ·obtain⟨z,its,n,r,e⟩:=h.ok I.hok;exact⟨its,r,⟨_,n,e,rfl,rfl,rfl⟩,z⟩
 ·refine⟨its.toList,r,⟨o,n,I.kIn a o hk,hc,hd,by simpa using hs⟩,?_⟩;have e:=r.length;simp only[K15]at e;omega
theorem Inv.tuple (I:Inv X pins σ H s) (h:SqT X.K H a xs):∃its:List Value,Vals xs its/\IsTup s.heap a its.toArray/\xs.length<=sizeLine:=by
 rcases h with h|⟨o,its,n,hk,hc,hs,hz,r⟩
 ·obtain⟨z,its,r,p⟩:=h.ok I.hok;exact⟨its,r,p.tup,z⟩
 ·refine⟨its.toList,r,⟨o,I.kIn a o hk,hc.1,n,by simpa using hs⟩,?_⟩;have e:=r.length;simp only[K15]at e;omega
theorem Inv.list_inj (I:Inv X pins σ H s) (h:SqL X.K H a xs) (h':SqL X.K H a ys):xs=ys:=by
 obtain⟨its,r,⟨o,n,e,_,_,d⟩,_⟩:=I.list h;obtain⟨its',r',⟨o',n',e',_,_,d'⟩,_⟩:=I.list h';rw[e]at e';cases e';rw[d]at d';injection d' with d1 _
 have:its=its':=by simpa using congrArg Z0h d1
 subst this;exact r.inj r'
theorem Inv.tuple_inj (I:Inv X pins σ H s) (h:SqT X.K H a xs) (h':SqT X.K H a ys):xs=ys:=by
 obtain⟨its,r,⟨o,e,_,n,d⟩,_⟩:=I.tuple h;obtain⟨its',r',⟨o',e',_,n',d'⟩,_⟩:=I.tuple h';rw[e]at e';cases e';rw[d]at d';injection d' with d1 _
 have:its=its':=by simpa using congrArg Z0h d1
 subst this;exact r.inj r'
end
abbrev Cx.wish (X:Cx) (E:Value->Shared->Prop):Cx:={ X with xe:=E }
abbrev Cx.nox (X:Cx):Cx:=X.wish λ_ _=>False
theorem Cx.Ok.wish {X:Cx}(ok:X.Ok) (E:Value->Shared->Prop):(X.wish E).Ok :=
 ⟨ok.mod,ok.kind,ok.glob,ok.blt,ok.above,ok.inj,ok.has,ok.cab,ok.hd,ok.frames,ok.stk,ok.exf,ok.bs,ok.bsz,ok.noex,ok.exfs,ok.funs,ok.frf⟩
theorem Cx.Ok.unwish {X:Cx}{E:Value->Shared->Prop}(ok:(X.wish E).Ok):X.Ok :=
 ⟨ok.mod,ok.kind,ok.glob,ok.blt,ok.above,ok.inj,ok.has,ok.cab,ok.hd,ok.frames,ok.stk,ok.exf,ok.bs,ok.bsz,ok.noex,ok.exfs,ok.funs,ok.frf⟩
section
variable {X:Cx}{pins:List (Addr×Obj)}{σ:St}{H:Hp}{s:Shared}{E:Value->Shared->Prop}
theorem Inv.wish (I:Inv X pins σ H s) (E:Value->Shared->Prop):Inv (X.wish E) pins σ H s:=⟨I.ok.wish E,I.os,I.bare,I.base,I.loc,I.cell,I.free,I.freeC,I.pin,I.hok,I.len⟩
theorem Inv.unwish (I:Inv (X.wish E) pins σ H s):Inv X pins σ H s:=⟨I.ok.unwish,I.os,I.bare,I.base,I.loc,I.cell,I.free,I.freeC,I.pin,I.hok,I.len⟩
theorem SP.unwish {D:Ends}{f:Flow}{s':Shared}(h:SP (X.wish E) pins D f s'):SP X pins D f s':=by
 cases f with
 | next=>obtain⟨σ',H',I,q⟩:=h;exact⟨σ',H',I.unwish,q⟩
 | brk=>obtain⟨σ',H',I,q⟩:=h;exact⟨σ',H',I.unwish,q⟩
 | cont=>obtain⟨σ',H',I,q⟩:=h;exact⟨σ',H',I.unwish,q⟩
 | ret u=>obtain⟨v,σ',H',I,r,q⟩:=h;exact⟨v,σ',H',I.unwish,r,q⟩
theorem PE.nox {e:Expr}{t:TE}(h:PE X.nox e t):PE X e t:=λpins s σ H Q I hw =>
 K37 (h pins s σ H Q (I.wish _) hw) (λ_ _ ⟨v,H',I',r,q⟩=>⟨v,H',I'.unwish,r,q⟩) λ_ _ z=>K27 z
theorem PT.nox {e:Expr}{t:TT}(h:PT X.nox e t):PT X e t:=λpins s σ H Q I hw =>
 K37 (h pins s σ H Q (I.wish _) hw) (λ_ _ ⟨H',I',q⟩=>⟨H',I'.unwish,q⟩) λ_ _ z=>K27 z
theorem PSs.nox {st:List Stmt}{t:TS}(h:PSs X.nox st t):PSs X st t:=λpins s σ H D I hw =>
 K37 (h pins s σ H D (I.wish _) hw) (λ_ _ q=>q.unwish) λ_ _ z=>K27 z
end
section
variable {X:Cx}{st:Stmt}{rest:List Stmt}{t u:TS}{e:Expr}{te:TE}{pos:Pos}
def zP8:TS:=λD σ H=>D.nx σ H
def tSeq (t u:TS):TS:=λD σ H=>t { D with nx:=u D } σ H
theorem zl4:PSs X [] zP8:=λ_ _ σ H _ I h=>K94 ⟨σ,H,I,h⟩
theorem zd6 (h1:PS X st t) (h2:PSs X rest u):PSs X (st::rest) (tSeq t u):=by
 intro pins s σ H D I h;refine wpAny_execs_cons (thn (h1 pins s σ H { D with nx:=u D } I h) λf s1 q=>?_);cases f with
 | next =>
  obtain⟨σ',H',I',q⟩:=q;exact h2 pins s1 σ' H' D I' q
 | ret v=>exact q
 | brk=>exact q
 | cont=>exact q
theorem Inv.quiet {pins:List (Addr×Obj)}{σ:St}{H:Hp}{s:Shared}(I:Inv X pins σ H s):interactive X.env=false:=by simp[interactive,I.ok.kind]
def zN3 (te:TE):TS:=λD σ H=>te σ H λ_ H1=>D.nx σ H1
theorem zt6 (he:PE X e te) (hs:K2s e none pos.line X.env=pure false:=by rfl):PS X (.Expr e pos) (zN3 te):=by
 intro pins s σ H D I h;exact wpAny_Expr_any (thn (he pins s σ H _ I h) λv s1 ⟨x,H1,I1,r1,q1⟩=>⟨σ,H1,I1,q1⟩) I.quiet hs
def tRet (te:TE):TS:=λD σ H=>te σ H D.rt
theorem zH3 (he:PE X e te):PS X (.Return (some e) pos) (tRet te):=by
 intro pins s σ H D I h;exact wpAny_Return_some (thn (he pins s σ H _ I h) λv s1 ⟨x,H1,I1,r1,q1⟩=>⟨x,σ,H1,I1,r1,q1⟩)
def tIfS (c:TT) (t u:TS):TS:=λD σ H=>c σ H λb H1=>if b=true then t D σ H1 else u D σ H1
theorem zM9 {c:Expr}{a b:List Stmt}{tc:TT}(hc:PT X c tc) (ha:PSs X a t) (hb:PSs X b u):PS X (.If c a b pos) (tIfS tc t u):=by
 intro pins s σ H D I h;refine wpAny_If (thn (hc pins s σ H _ I h) λd s1 ⟨H1,I1,q1⟩=>?_);cases d with
 | true=>exact ha pins s1 σ H1 D I1 q1
 | false=>exact hb pins s1 σ H1 D I1 q1
def zB7:TS:=λ_ _ _=>False
theorem zb8:PS X st zB7:=λ_ _ _ _ _ _ h=>h.elim
end
abbrev TG:=V->St->Hp->(St->Hp->Prop)->Prop
abbrev TGs:=List V->St->Hp->(St->Hp->Prop)->Prop
def PG (X:Cx) (target:Expr) (t:TG):Prop :=
 ∀(pins:List (Addr×Obj)) (s:Shared) (σ:St) (H:Hp) (v:V) (u:Value) (Q:St->Hp->Prop),Inv X pins σ H s->RelV v u->t v σ H Q ->
  wpAny (model X.prog X.w) X.A (assign target X.env u) (λ_ s'=>∃σ' H',Inv X pins σ' H' s'/\Q σ' H') X.xe s
def PGs (X:Cx) (ts:List Expr) (t:TGs):Prop :=
 ∀(pins:List (Addr×Obj)) (s:Shared) (σ:St) (H:Hp) (vs:List V) (us:List Value) (Q:St->Hp->Prop),Inv X pins σ H s->Vals vs us->t vs σ H Q ->
  wpAny (model X.prog X.w) X.A (assignInOrder ((K2y ts X.env).map (·.2)) us) (λ_ s'=>∃σ' H',Inv X pins σ' H' s'/\Q σ' H') X.xe s
abbrev TSet:=V->V->V->Hp->(Hp->Prop)->Prop
def PSet (X:Cx) (t:TSet):Prop :=
 ∀(pins:List (Addr×Obj)) (s:Shared) (σ:St) (H:Hp) (o i v:V) (ov iv u:Value) (Q:Hp->Prop),Inv X pins σ H s->RelV o ov->RelV i iv->RelV v u->t o i v H Q ->
  wpAny (model X.prog X.w) X.A (Z1p ov iv u) (λ_ s'=>∃H',Inv X pins σ H' s'/\Q H') X.xe s
section
variable {X:Cx}{pos:Pos}
def zG3 (i:Nat):TG:=λv σ H Q=>Q (σ.set i (some v)) H
theorem z5D {i:Nat}{x:Str}(hN:X.N.Nodup) (hi:X.N[i]?=some x) (hx:Loc X.env.scope x) (hf:X.fn x=true\/X.env.scope.names.lookup x=some .local:=by first|exact .inl rfl|exact .inr rfl|assumption):PG X (.Name x pos) (zG3 i):=by
 intro pins s σ H v u Q I r h;exact wpAny_assign_Name (z6Y I hN hi hx r (λs' I'=>⟨_,H,I',h⟩) hf)
def gNil:TGs:=λvs σ H Q=>vs=[]/\Q σ H
def zP5 (t:TG) (u:TGs):TGs:=λvs σ H Q=>∃v r,vs=v::r/\t v σ H λσ' H'=>u r σ' H' Q
theorem z8A:PGs X [] gNil:=by
 intro pins s σ H vs us Q I r h;obtain⟨e,h⟩:=h;subst e;cases r;exact assignInOrder_nil ⟨σ,H,I,h⟩
theorem z6I {e:Expr}{es:List Expr}{t:TG}{u:TGs}(h1:PG X e t) (h2:PGs X es u)
 (hs:(K2y (e::es) X.env).map (·.2)=assign e X.env::(K2y es X.env).map (·.2):=by rfl):PGs X (e::es) (zP5 t u):=by
 intro pins s σ H vs us Q I r h;obtain⟨v,vr,e1,h⟩:=h;subst e1;cases r with
 | cons r rr =>
  rw[hs];refine assignInOrder_cons (thn (h1 pins s σ H _ _ _ I r h) λ_ s1 ⟨σ1,H1,I1,q1⟩=>?_);exact h2 pins s1 σ1 H1 _ _ Q I1 rr q1
def gTup (K:K2) (n:Nat) (t:TGs):TG:=λv σ H Q=>∃a xs,v=.ref a/\SqT K H a xs/\xs.length=n/\t xs σ H Q
theorem zh4 {es:List Expr}{k:Nat}{t:TGs}{n:Nat}(hc:X.calm=true) (h:PGs X es t)
 (hn:(K2y es X.env).length=n:=by rfl) (hst:(K2y es X.env).findIdx? (·.1)=none:=by rfl):PG X (.Tuple es k pos) (gTup X.K n t):=by
 intro pins s σ H v u Q I r hw;obtain⟨a,xs,e1,hq,hl,hw⟩:=hw;subst e1;cases r;obtain⟨its,rv,ht,hz⟩:=I.tuple hq;refine assign_Tuple_tuple (I.ok.hd hc) ht (by simp[hn,<- hl,rv.length]) hst λh' hx=>?_;have I1:Inv X pins σ H { s with heap:=h' }:=I.kept (t':=s.toks) λb o e=>hx b o (K0e (K02 e)) e;exact h pins _ σ H xs _ Q I1 (by simpa using rv) hw
def gSub (to ti:TE) (t:TSet):TG:=λv σ H Q=>to σ H λo H1=>ti σ H1 λi H2=>t o i v H2 λH3=>Q σ H3
theorem zM0 {o i:Expr}{to ti:TE}{t:TSet}(ho:PE X o to) (hi:PE X i ti) (hs:PSet X t)
 (ha:∀v,assign (.Subscript o i pos) X.env v=(do
  let ov <- K56 [v] (eval o X.env);let iv <- K56 [v,ov] (eval i X.env)
  K6n pos
  K56 [v,ov,iv] (Z1p ov iv v)
  release [v,ov,iv] []):=by intro _;rfl):PG X (.Subscript o i pos) (gSub to ti t):=by
 intro pins s σ H v u Q I r h;rw[ha];refine K0 (K1s (thn (ho pins s σ H _ I h) λov s1 ⟨x,H1,I1,r1,q1⟩=>?_));refine K0 (K1s (thn (hi pins s1 σ H1 _ I1 q1) λiv s2 ⟨y,H2,I2,r2,q2⟩=>?_));refine K0 (K4r (K0 (K1s (thn (hs pins s2 σ H2 x y v ov iv u _ I2 r1 r2 r q2) λ_ s3 ⟨H3,I3,q3⟩=>?_))));exact wpAny_release ⟨σ,H3,I3,q3⟩
def tAsg (te:TE) (g:TG):TS:=λD σ H=>te σ H λx H1=>g x σ H1 D.nx
theorem zI4 {tg e:Expr}{te:TE}{g:TG}(he:PE X e te) (hg:PG X tg g) (hs:swapsWithSole [tg] e pos.line X.env=pure false:=by rfl) (hw:swappedStores [tg] e X.env=pure none:=by rfl)
 (h1:(K2y [tg] X.env).map (·.2)=[assign tg X.env]:=by rfl):PS X (.Assign [tg] e pos) (tAsg te g):=by
 intro pins s σ H D I h;refine wpAny_Assign_stores (thn (he pins s σ H _ I h) λv s1 ⟨x,H1,I1,r1,q1⟩=>?_) hs hw;rw[h1];exact thn (hg pins s1 σ H1 x v _ I1 r1 q1) λ_ s2 q=>q
theorem zA0 {i:Nat}{x:Str}{e:Expr}{te:TE}{pos':Pos}(hN:X.N.Nodup) (hi:X.N[i]?=some x) (hx:Loc X.env.scope x) (he:PE X e te) (hs:K2s e (some (.Name x pos')) pos.line X.env=pure false:=by rfl) (hf:X.fn x=true\/X.env.scope.names.lookup x=some .local:=by first|exact .inl rfl|exact .inr rfl|assumption) :
 PS X (.Assign [.Name x pos'] e pos) (tAsg te (zG3 i)):=by
 intro pins s σ H D I h;refine wpAny_Assign_Name (thn (he pins s σ H _ I h) λv s1 ⟨y,H1,I1,r1,q1⟩=>?_) hs;exact z6Y I1 hN hi hx r1 (λs2 I2=>⟨_,H1,I2,q1⟩) hf
end
section
variable {X:Cx}{pos:Pos}
def zD3 (c:TT) (tb:TS):TS:=λD σ H=>∃W:Nat->St->Hp->Prop,(∃m,W m σ H)/\∀m σ H,W m σ H ->
 c σ H λb H1=>if b=true then ∃N:St->Hp->Prop,(∀σ' H',N σ' H'->∃m',m'<m/\W m' σ' H')/\tb { D with nx:=N,ct:=N,bk:=D.nx } σ H1 else D.nx σ H1
theorem zc8 {c:Expr}{body:List Stmt}{tc:TT}{tb:TS}(hp:Z16 (model X.prog X.w) X.A X.env X.xe) (hc:PT X c tc) (hb:PSs X body tb):PS X (.While c body [] pos) (zD3 tc tb):=by
 intro pins s σ H D I h;obtain⟨W,⟨m0,w0⟩,turn⟩:=h;refine wpAny_While (codeAny_whileLoop (λn s'=>∃σ' H',Inv X pins σ' H' s'/\W n σ' H') ?_ m0 ⟨σ,H,I,w0⟩);rintro n s1 ⟨σ1,H1,I1,w1⟩;refine K3x hp (thn (hc pins s1 σ1 H1 _ I1 (turn n σ1 H1 w1)) λb s2 ⟨H2,I2,q2⟩=>?_);cases b with
 | true =>
  obtain⟨N,hN,q2⟩:=q2;rw[if_pos rfl];refine K3x hp (thn (hb pins s2 σ1 H2 _ I2 q2) λf s3 q3=>?_);cases f with
  | next =>
   obtain⟨σ3,H3,I3,n3⟩:=q3;obtain⟨m',hm,w3⟩:=hN σ3 H3 n3;exact⟨m',hm,σ3,H3,I3,w3⟩
  | cont =>
   obtain⟨σ3,H3,I3,n3⟩:=q3;obtain⟨m',hm,w3⟩:=hN σ3 H3 n3;exact⟨m',hm,σ3,H3,I3,w3⟩
  | brk=>exact q3
  | ret v=>exact q3
 | false =>
  rw[if_neg K0u];exact K94 ⟨σ1,H2,I2,q2⟩
end
structure It where
 go:Nat->Hp->Prop
 yld:Nat->Hp->V->Hp->Prop
 stop:Nat->Hp->Prop
def FpOk (X:Cx) (pins:List (Addr×Obj)) (H:Hp) (b:Addr):Prop :=
 H b=none/\b≠X.env.locals/\b∉X.fs/\(b∈X.ex\/X.s₀.heap.objs.size<=b)/\(∀x c,X.env.cells.lookup x=some c->c≠b)/\∀p∈X.pn++pins,p.1≠b
theorem Inv.fpOk {X:Cx}{pins:List (Addr×Obj)}{σ:St}{H H':Hp}{s:Shared}{b:Addr}(I:Inv X pins σ H s) (hb:s.heap.objs.size<=b) (hn:H' b=none):FpOk X pins H' b:=by
 refine⟨hn,K26 (K0i I.lt hb),I.nofs hb,.inr (K0l I.sz hb),λx c e z=>?_,λp hp z=>?_⟩
 ·obtain⟨v,q⟩:=I.cell x c e;exact absurd (K0i q.lt (by rw[z];exact hb)) (K2u _)
 ·exact absurd (K0i (K02 (I.pin p hp).1) (by rw[z];exact hb)) (K2u _)
structure Turn (P:K08) (w:World) (K:K2) (tg:Expr) (J:It) (fp:List Addr) (it:Addr) (tn:Nat->Heap->Prop):Prop where
 mem:it∈fp
 obj:∀i h,tn i h->∀b∈fp,∃o,h.get? b=some o/\∀v,o.data≠.cell v
 keep:∀i h h',tn i h->(∀b∈fp,∀o,h.get? b=some o->h'.get? b=some o)->tn i h'
 item:∀(X:Cx),X.prog=P->X.w=w->X.K=K->X.calm=true->∀(i:Nat) (pins:List (Addr×Obj)) (s:Shared) (σ:St) (H:Hp) (E:Value->Shared->Prop),Inv X pins σ H s->(∀b∈fp,FpOk X pins H b)->tn i s.heap->J.go i H ->
  wpAny (model P w) X.A (pyNext (.ref it)) (λr s1=>∃u,r=some u /\
   wpAny (model P w) X.A (K6y tg (.ref it) u) (λ_ s2=>∃x H',Inv X pins σ H' s2/\RelV x u/\J.yld i H x H'/\tn (i+1) s2.heap/\∀b∈fp,H' b=none) E s1) E s
 done:∀(X:Cx),X.prog=P->X.w=w->X.K=K->X.calm=true->∀(i:Nat) (pins:List (Addr×Obj)) (s:Shared) (σ:St) (H:Hp) (E:Value->Shared->Prop),Inv X pins σ H s->(∀b∈fp,FpOk X pins H b)->tn i s.heap->J.stop i H ->
  wpAny (model P w) X.A (pyNext (.ref it)) (λr s1=>r=none/\Inv X pins σ H s1) E s
 self:∀(A:Around) (i:Nat) (s:Shared) (Q:Value->Shared->Prop) (E:Value->Shared->Prop),tn i s.heap->Q (.ref it) s->wpAny (model P w) A (pyIter (.ref it)) Q E s
abbrev TI:=St->Hp->(It->Hp->Prop)->Prop
def PIE (X:Cx) (pins:List (Addr×Obj)) (σ:St) (tg:Expr) (R:It->Hp->Prop) (itv:Value) (s2:Shared):Prop :=
 ∃(it:Addr) (fp:List Addr) (tn:Nat->Heap->Prop) (J:It) (H':Hp),itv=.ref it/\Inv X pins σ H' s2/\Turn X.prog X.w X.K tg J fp it tn/\tn 0 s2.heap/\(∀b∈fp,FpOk X pins H' b)/\R J H'
def PI (X:Cx) (tg iter:Expr) (wi:TI):Prop :=
 ∀(pins:List (Addr×Obj)) (s:Shared) (σ:St) (H:Hp) (R:It->Hp->Prop),Inv X pins σ H s->wi σ H R ->
  wpAny (model X.prog X.w) X.A (eval iter X.env) (λv s1=>wpAny (model X.prog X.w) X.A (pyIter v) (PIE X pins σ tg R) X.xe s1) X.xe s
theorem zr8 {M:Model}{A:Around}{E:Value->Shared->Prop}{s:Shared}{tg:Expr}{it:Addr}{u:Value}{o:Obj}{n:String}{vs:Array Value}{Q:Unit->Shared->Prop}(ho:s.heap.get? it=some o) (hc:o.cls=.type n) (hd:o.data=.fields vs)
 (hn:["enumerate","zip","dict_itemiterator","dict_reverseitemiterator","odict_iterator","itertools.zip_longest","itertools.pairwise"].contains n=false) (hQ:Q () s):wpAny M A (K6y tg (.ref it) u) Q E s:=by
 unfold K6y;cases tg<;>first
  | exact K5 hQ
  | (cases u<;>first
      | exact K5 hQ
      | (refine K0 (Z06 ho ?_)
         rw[hc,hd];show wpAny M A (if (["enumerate","zip","dict_itemiterator","dict_reverseitemiterator","odict_iterator","itertools.zip_longest","itertools.pairwise"].contains n&&vs[0]?==some (rawInt _))=true then _ else _) Q E s;rw[if_neg (by intro h;rw[hn,Z1t]at h;cases h)];exact K5 hQ))
def Itl (K:K2) (a:Addr):It :=
 ⟨λi H=>∃xs x,SqL K H a xs/\xs[i]?=some x,λi H x H'=>H'=H/\∀xs,SqL K H a xs->xs[i]?=some x,λi H=>∃xs,SqL K H a xs/\xs.length<=i⟩
def Itt (K:K2) (a:Addr):It :=
 ⟨λi H=>∃xs x,SqT K H a xs/\xs[i]?=some x,λi H x H'=>H'=H/\∀xs,SqT K H a xs->xs[i]?=some x,λi H=>∃xs,SqT K H a xs/\xs.length<=i⟩
def Itr (lo:Int) (n:Nat):It:=⟨λi _=>i<n,λi H x H'=>H'=H/\x=.int (lo+i),λi _=>n<=i⟩
theorem z7K {P:K08}{w:World}{K:K2}{tg:Expr}(a it:Addr):Turn P w K tg (Itl K a) [it] it (λi h=>h.IsListIter it a i) where
 mem:=by simp
 obj:=λi h st b hb=>by
  have e:b=it:=by simpa using hb
  subst e;obtain⟨o,e,c,d⟩:=st;exact⟨o,e,λv z=>by rw[d]at z;cases z⟩
 keep:=λi h h' st k=>st.at λo e=>k it (by simp) o e
 item:=by
  intro X hP hw hK hc i pins s σ H E I hf st hg;subst hP hw hK;obtain⟨xs,x,hq,hx⟩:=hg;obtain⟨its,rv,p,hz⟩:=I.list hq;obtain⟨u,hu,ru⟩:=rv.get hx;obtain⟨f0,f1,f2,f3,f4,f5⟩:=hf it (by simp);refine wpAny_pyNext_list_item st p.isList (x:=u) (by simpa using hu) λh' st' sb=>?_;have I1:Inv X pins σ H { s with heap:=h' }:=I.turned (t':=s.toks) (λb o hb e=>(sb.2 b hb).trans e) f0 f1 f3 f4 f5;obtain⟨o,e,c,d⟩:=id st';exact⟨u,rfl,zr8 (s:={ s with heap:=h' }) e c d (by decide) ⟨x,H,I1,ru,⟨rfl,λys hy=>by rw[I.list_inj hy hq];exact hx⟩,st',λb hb=>(hf b hb).1⟩⟩
 done:=by
  intro X hP hw hK hc i pins s σ H E I hf st hg;subst hP hw hK;obtain⟨xs,hq,hx⟩:=hg;obtain⟨its,rv,p,hz⟩:=I.list hq;obtain⟨f0,f1,f2,f3,f4,f5⟩:=hf it (by simp);have hl:=rv.length;exact wpAny_pyNext_list_end (I.ok.hd hc) st p.isList (by simp;omega) λh' eb=>⟨rfl,I.turned (t':=s.toks) (λb o hb e=>eb b o hb e) f0 f1 f3 f4 f5⟩
 self:=λ_ _ _ _ _ st h=>wpAny_pyIter_listiter st h
theorem z7x {P:K08}{w:World}{K:K2}{tg:Expr}(a it:Addr):Turn P w K tg (Itt K a) [it] it (λi h=>h.IsTupleIter it a i) where
 mem:=by simp
 obj:=λi h st b hb=>by
  have e:b=it:=by simpa using hb
  subst e;obtain⟨o,e,c,d⟩:=st;exact⟨o,e,λv z=>by rw[d]at z;cases z⟩
 keep:=λi h h' st k=>st.at λo e=>k it (by simp) o e
 item:=by
  intro X hP hw hK hc i pins s σ H E I hf st hg;subst hP hw hK;obtain⟨xs,x,hq,hx⟩:=hg;obtain⟨its,rv,p,hz⟩:=I.tuple hq;obtain⟨u,hu,ru⟩:=rv.get hx;obtain⟨f0,f1,f2,f3,f4,f5⟩:=hf it (by simp);refine wpAny_pyNext_tuple_item st (show s.heap.IsTuple a its.toArray from p) (x:=u) (by simpa using hu) λh' st' sb=>?_;have I1:Inv X pins σ H { s with heap:=h' }:=I.turned (t':=s.toks) (λb o hb e=>(sb.2 b hb).trans e) f0 f1 f3 f4 f5;obtain⟨o,e,c,d⟩:=id st';exact⟨u,rfl,zr8 (s:={ s with heap:=h' }) e c d (by decide) ⟨x,H,I1,ru,⟨rfl,λys hy=>by rw[I.tuple_inj hy hq];exact hx⟩,st',λb hb=>(hf b hb).1⟩⟩
 done:=by
  intro X hP hw hK hc i pins s σ H E I hf st hg;subst hP hw hK;obtain⟨xs,hq,hx⟩:=hg;obtain⟨its,rv,p,hz⟩:=I.tuple hq;obtain⟨f0,f1,f2,f3,f4,f5⟩:=hf it (by simp);have hl:=rv.length;exact wpAny_pyNext_tuple_end (I.ok.hd hc) st (show s.heap.IsTuple a its.toArray from p) (by simp;omega) λh' eb=>⟨rfl,I.turned (t':=s.toks) (λb o hb e=>eb b o hb e) f0 f1 f3 f4 f5⟩
 self:=λ_ _ _ _ _ st h=>wpAny_pyIter_tupleiter st h
theorem z7d {P:K08}{w:World}{K:K2}{tg:Expr}(it:Addr) (lo:Int) (n:Nat):Turn P w K tg (Itr lo n) [it] it (λi h=>IsRangeIter h it (lo+(i:Nat) * 1) ((n:Int) - (i:Nat)) 1) where
 mem:=by simp
 obj:=λi h st b hb=>by
  have e:b=it:=by simpa using hb
  subst e;exact⟨_,st,λv z=>by
   have z':Data.fields _=Data.cell v:=z;cases z'⟩
 keep:=λi h h' st k=>k it (by simp) _ st
 item:=by
  intro X hP hw hK hc i pins s σ H E I hf st hg;subst hP hw hK;obtain⟨f0,f1,f2,f3,f4,f5⟩:=hf it (by simp);have W:=Walks.range (prog:=X.prog) (w:=X.w) (I.ok.hd hc) it lo 1 n;refine W.item i s _ _ hg st λv h' tk hv st' kk=>?_;obtain⟨t,rfl⟩:=hv;have I1:Inv X pins σ H { s with heap:=h',toks:=tk }:=I.turned (λb o hb e=>kk b o (by simpa using hb) e) f0 f1 f3 f4 f5;refine⟨_,rfl,zr8 (s:={ s with heap:=h',toks:=tk }) (n:="range_iterator") st' rfl rfl (by decide) ⟨.int (lo+i),H,I1,⟨t,?_⟩,⟨rfl,rfl⟩,st',λb hb=>(hf b hb).1⟩⟩;rw[Int.mul_one]
 done:=by
  intro X hP hw hK hc i pins s σ H E I hf st hg;subst hP hw hK;obtain⟨f0,f1,f2,f3,f4,f5⟩:=hf it (by simp);exact wpAny_pyNext_range_end (I.ok.hd hc) st (by have:n<=i:=hg;omega) λh' eb=>⟨rfl,I.turned (t':=s.toks) (λb o hb e=>eb b o hb e) f0 f1 f3 f4 f5⟩
 self:=λ_ _ _ _ _ st h=>wpAny_pyIter_rangeiter st h
section
variable {X:Cx}{tg:Expr}
def zO0 (K:K2) (tl:TE):TI:=λσ H R=>tl σ H λx H1=>∃a,x=.ref a/\(∃xs,SqL K H1 a xs)/\R (Itl K a) H1
def iTup (K:K2) (tl:TE):TI:=λσ H R=>tl σ H λx H1=>∃a,x=.ref a/\(∃xs,SqT K H1 a xs)/\R (Itt K a) H1
theorem zs2 {l:Expr}{tl:TE}(hl:PE X l tl):PI X tg l (zO0 X.K tl):=by
 intro pins s σ H R I h;refine thn (hl pins s σ H _ I h) λv s1 ⟨x,H1,I1,r1,q1⟩=>?_;obtain⟨a,e,⟨xs,hq⟩,q⟩:=q1;subst e;cases r1;obtain⟨its,rv,p,hz⟩:=I1.list hq;refine K68 p.isList ?_;refine⟨s1.heap.objs.size,[s1.heap.objs.size],_,_,H1,rfl,I1.kept (t':=s1.toks) λb o e=>K4 _ e,z7K a _,⟨_,K04 _ rfl,rfl,rfl⟩,λb hb=>?_,q⟩;have e:b=s1.heap.objs.size:=by simpa using hb
 subst e;exact I1.fpOk (K03 _) (I1.hok.fresh (K03 _))
theorem zF1 {l:Expr}{tl:TE}(hl:PE X l tl):PI X tg l (iTup X.K tl):=by
 intro pins s σ H R I h;refine thn (hl pins s σ H _ I h) λv s1 ⟨x,H1,I1,r1,q1⟩=>?_;obtain⟨a,e,⟨xs,hq⟩,q⟩:=q1;subst e;cases r1;obtain⟨its,rv,p,hz⟩:=I1.tuple hq;refine K2p (show s1.heap.IsTuple a its.toArray from p) ?_;refine⟨s1.heap.objs.size,[s1.heap.objs.size],_,_,H1,rfl,I1.kept (t':=s1.toks) λb o e=>K4 _ e,z7x a _,⟨_,K04 _ rfl,rfl,rfl⟩,λb hb=>?_,q⟩;have e:b=s1.heap.objs.size:=by simpa using hb
 subst e;exact I1.fpOk (K03 _) (I1.hok.fresh (K03 _))
theorem z9U {pins:List (Addr×Obj)}{σ:St}{H:Hp}{s:Shared}{R:It->Hp->Prop}{E:Value->Shared->Prop}{lo hi:Int}{t u v:Tok}{tk:Nat}(I:Inv X pins σ H s) (h1:-(2 ^ 62)<=lo) (h2:lo<2 ^ 62) (h3:-(2 ^ 62)<=hi) (h4:hi<2 ^ 62)
 (q:R (Itr lo (hi - lo).toNat) H):wpAny (model X.prog X.w) X.A (pyIter (.ref s.heap.objs.size)) (PIE X pins σ tg R) E { s with heap:=s.heap.push { cls:=.type "range",data:=.fields #[.int lo t,.int hi u,.int 1 v] },toks:=tk }:=by
 refine wpAny_pyIter_range (IsRange.new ..) (small_one h1 h2 h3 h4) ?_;have I1:Inv X pins σ H { s with heap:=s.heap.push { cls:=.type "range",data:=.fields #[.int lo t,.int hi u,.int 1 v] },toks:=tk }:=I.kept λb o e=>K4 _ e;refine⟨(s.heap.push { cls:=.type "range",data:=.fields #[.int lo t,.int hi u,.int 1 v] }).objs.size,[(s.heap.push { cls:=.type "range",data:=.fields #[.int lo t,.int hi u,.int 1 v] }).objs.size],_,_,H,rfl,
  I1.kept (t':=tk) λb o e=>K4 _ e,z7d _ lo (hi - lo).toNat,?_,λb hb=>?_,q⟩
 ·have e1:lo+((0:Nat):Int) * 1=lo:=by simp
  have e2:(((hi - lo).toNat:Nat):Int) - ((0:Nat):Int)=Builtin.Range.rangeSize lo hi 1:=by rw[rangeSize_one];split<;>omega
  show IsRangeIter _ _ (lo+((0:Nat):Int) * 1) ((((hi - lo).toNat:Nat):Int) - ((0:Nat):Int)) 1;rw[e1,e2];exact K04 _ rfl
 ·have e:b=(s.heap.push { cls:=.type "range",data:=.fields #[.int lo t,.int hi u,.int 1 v] }).objs.size:=by simpa using hb
  subst e;exact I1.fpOk (K03 _) (I1.hok.fresh (K03 _))
def zN6 (ta:TA):TI:=λσ H R=>ta σ H λvs H1=>∃j:Int,vs=[.int j]/\-(2 ^ 62)<=j/\j<2 ^ 62/\R (Itr 0 j.toNat) H1
theorem z9z {a:Expr}{ta:TA}{p pos:Pos}(hg:Gl X "range") (hm:X.mg "range" = none) (ha:PA X [a] ta) (hs:K05 [a] X.env=[(false,eval a X.env)]:=by rfl):PI X tg (.Call (.Name "range" p) [a] [] pos) (zN6 ta):=by
 intro pins s σ H R I h;refine Call_ (z47 I hg hm boot_range (K3i (thn (ha pos pins s σ H _ I h) λus s1 ⟨vs,H1,I1,r1,q1⟩=>?_) hs rfl));obtain⟨j,e,q1,q2,q⟩:=q1;subst e;cases r1 with
 | cons r rr =>
  cases rr;obtain⟨t,rfl⟩:=r;exact call_range_1 (z9U I1 (by omega) (by omega) q1 q2 (by simpa using q))
def tFor (wi:TI) (g:TG) (tb:TS):TS:=λD σ H=>wi σ H λJ H1=>∃W:Nat->Nat->St->Hp->Prop,(∃m,W 0 m σ H1)/\∀i m σ H,W i m σ H ->
 (J.stop i H/\D.nx σ H)\/(J.go i H/\∃N:St->Hp->Prop,(∀σ' H',N σ' H'->∃m',m'<m/\W (i+1) m' σ' H')/\∀x H',J.yld i H x H'->g x σ H' λσ2 H2=>tb { D with nx:=N,ct:=N,bk:=D.nx } σ2 H2)
def z4R (fp:List Addr) (h:Heap):List (Addr×Obj):=fp.filterMap λb=>(h.get? b).map λo=>(b,o)
theorem z1Z {fp:List Addr}{h:Heap}{b:Addr}{o:Obj}(hb:b∈fp) (e:h.get? b=some o):(b,o)∈z4R fp h:=K4h.mpr ⟨b,hb,by rw[e];rfl⟩
theorem z8S {fp:List Addr}{h:Heap}{p:Addr×Obj}(hp:p∈z4R fp h):p.1∈fp/\h.get? p.1=some p.2:=by
 obtain⟨b,hb,e⟩:=K4h.mp hp;cases q:h.get? b with
 | none=>rw[q]at e;cases e
 | some o =>
  rw[q]at e;have e':(b,o)=p:=K1h e;subst e';exact⟨hb,q⟩
theorem Inv.pinned {pins:List (Addr×Obj)}{σ:St}{H:Hp}{s:Shared}{fp:List Addr}(I:Inv X pins σ H s) (hf:∀b∈fp,FpOk X pins H b) (ho:∀b∈fp,∃o,s.heap.get? b=some o/\∀v,o.data≠.cell v):Inv X (pins++z4R fp s.heap) σ H s :=
 I.pins_of λp hp=>(K0p.mp hp).elim (λz=>I.pin p (K10 _ z)) λz=>by
  obtain⟨hb,e⟩:=z8S z;obtain⟨f0,f1,f2,_⟩:=hf p.1 hb;obtain⟨o,e',d⟩:=ho p.1 hb;rw[e]at e';cases e';exact⟨e,f0,f1,f2,d⟩
theorem Inv.unpinned {pins pl:List (Addr×Obj)}{σ:St}{H:Hp}{s:Shared}(I:Inv X (pins++pl) σ H s):Inv X pins σ H s:=I.pins_of λp hp=>I.pin p (K10 _ (K2q _ hp))
theorem zD2 {iter:Expr}{body:List Stmt}{wi:TI}{g:TG}{tb:TS}{pos:Pos}(hp:Z16 (model X.prog X.w) X.A X.env X.xe) (hc:X.calm=true) (hi:PI X tg iter wi) (hg:PG X tg g) (hb:PSs X body tb)
 (hs:∀x,K2g iter X.env x=pure x:=by intro _;rfl):PS X (.For tg iter body [] pos) (tFor wi g tb):=by
 intro pins s σ H D I h;refine wpAny_For (thn (hi pins s σ H _ I h) λv s1 h1=>thn h1 λitv s2 h2=>?_) hs;obtain⟨it,fp,tn,J,H2,e,I2,T,st2,f2,W,⟨m0,w0⟩,turn⟩:=h2;subst e;have stat:∀{H':Hp},(∀b∈fp,H' b=none)->∀b∈fp,FpOk X pins H' b:=λhn b hb=>⟨hn b hb,(f2 b hb).2⟩;refine codeAny_forLoop_any (λn s'=>∃i σ' H',Inv X pins σ' H' s'/\tn i s'.heap/\(∀b∈fp,H' b=none)/\W i n σ' H') ?_ m0 ⟨0,σ,H2,I2,st2,λb hb=>(f2 b hb).1,w0⟩;rintro n s3 ⟨i,σ3,H3,I3,st3,fr3,w3⟩;rcases turn i n σ3 H3 w3 with ⟨stop,qn⟩|⟨go,N,hN,step⟩
 ·refine K3x hp (thn (T.done X rfl rfl rfl hc i pins s3 σ3 H3 X.xe I3 (stat fr3) st3 stop) λr s4 ⟨hr,I4⟩=>?_);subst hr;exact K94 ⟨σ3,H3,I4,qn⟩
 ·refine K3x hp (thn (T.item X rfl rfl rfl hc i pins s3 σ3 H3 X.xe I3 (stat fr3) st3 go) λr s4 ⟨u,hr,h4⟩=>?_);subst hr;refine K3x hp (thn h4 λ_ s5 ⟨x,H5,I5,r5,y5,st5,fr5⟩=>?_);have I5':=I5.pinned (stat fr5) (T.obj _ _ st5);refine K3x hp (thn (hg _ s5 σ3 H5 x u _ I5' r5 (step x H5 y5)) λ_ s6 ⟨σ6,H6,I6,q6⟩=>?_);refine K3x hp (thn (hb _ s6 σ6 H6 _ I6 q6) λf s7 q7=>?_);have again:∀{σ7:St} {H7:Hp},Inv X (pins++z4R fp s5.heap) σ7 H7 s7->N σ7 H7->∃m,m<n/\∃i σ' H',Inv X pins σ' H' s7/\tn i s7.heap/\(∀b∈fp,H' b=none)/\W i m σ' H':=λ{σ7 H7} I7 n7=>by
   obtain⟨m',hm,w7⟩:=hN σ7 H7 n7;refine⟨m',hm,i+1,σ7,H7,I7.unpinned,T.keep _ _ _ st5 λb hb o e=>(I7.pin (b,o) (K10 _ (K10 _ (z1Z hb e)))).1,λb hb=>?_,w7⟩;obtain⟨o,e,d⟩:=T.obj _ _ st5 b hb;exact(I7.pin (b,o) (K10 _ (K10 _ (z1Z hb e)))).2.1
  cases f with
  | next=>obtain⟨σ7,H7,I7,n7⟩:=q7;exact again I7 n7
  | cont=>obtain⟨σ7,H7,I7,n7⟩:=q7;exact again I7 n7
  | brk=>obtain⟨σ7,H7,I7,q7⟩:=q7;exact⟨σ7,H7,I7.unpinned,q7⟩
  | ret v=>obtain⟨x7,σ7,H7,I7,r7,q7⟩:=q7;exact⟨x7,σ7,H7,I7.unpinned,r7,q7⟩
end
theorem z0h {lo:Int}{n:Nat}{g:TG}{tb:TS}{D:Ends}{σ:St}{H:Hp}(Pv:Nat->St->Hp->Prop) (h0:Pv 0 σ H)
 (hs:∀i σ H,i<n->Pv i σ H->g (.int (lo+i)) σ H λσ2 H2=>tb { D with nx:=Pv (i+1),ct:=Pv (i+1),bk:=D.nx } σ2 H2) (hd:∀σ H,Pv n σ H->D.nx σ H) :
 ∃W:Nat->Nat->St->Hp->Prop,(∃m,W 0 m σ H)/\∀i m σ H,W i m σ H ->
  ((Itr lo n).stop i H/\D.nx σ H)\/((Itr lo n).go i H/\∃N:St->Hp->Prop,(∀σ' H',N σ' H'->∃m',m'<m/\W (i+1) m' σ' H')/\∀x H',(Itr lo n).yld i H x H'->g x σ H' λσ2 H2=>tb { D with nx:=N,ct:=N,bk:=D.nx } σ2 H2):=by
 refine⟨λi m σ H=>m=n - i/\i<=n/\Pv i σ H,⟨n,by simp,K3a _,h0⟩,?_⟩;rintro i m σ H ⟨rfl,hi,p⟩;by_cases hlt:i<n
 ·refine .inr ⟨hlt,Pv (i+1),λσ' H' p'=>⟨n - (i+1),by omega,rfl,hlt,p'⟩,λx H' y=>?_⟩;obtain⟨e,y⟩:=y;subst e y;exact hs i σ _ hlt p
 ·have e:i=n:=by omega
  subst e;exact .inl ⟨K03 _,hd σ H p⟩
abbrev R2:=V->V->Hp->VK->Prop
def OpR (X:Cx) (f:Value->Value->Sem Value) (r:R2):Prop :=
 ∀(pins:List (Addr×Obj)) (s:Shared) (σ:St) (H:Hp) (x y:V) (v u:Value) (Q:VK),Inv X pins σ H s->RelV x v->RelV y u->r x y H Q ->
  wpAny (model X.prog X.w) X.A (f v u) (EP X pins σ Q) X.xe s
def UnR (X:Cx) (f:Value->Sem Value) (r:V->Hp->VK->Prop):Prop :=
 ∀(pins:List (Addr×Obj)) (s:Shared) (σ:St) (H:Hp) (x:V) (v:Value) (Q:VK),Inv X pins σ H s->RelV x v->r x H Q ->
  wpAny (model X.prog X.w) X.A (f v) (EP X pins σ Q) X.xe s
def CallR (X:Cx) (f:Value) (r:List V->Hp->VK->Prop):Prop :=
 ∀(pins:List (Addr×Obj)) (s:Shared) (σ:St) (H:Hp) (xs:List V) (us:List Value) (Q:VK),Inv X pins σ H s->Vals xs us->r xs H Q ->
  wpAny (model X.prog X.w) X.A (call f us) (EP X pins σ Q) X.xe s
def TruR (X:Cx) (r:V->Hp->(Bool->Hp->Prop)->Prop):Prop :=
 ∀(pins:List (Addr×Obj)) (s:Shared) (σ:St) (H:Hp) (x:V) (v:Value) (Q:Bool->Hp->Prop),Inv X pins σ H s->RelV x v->r x H Q ->
  wpAny (model X.prog X.w) X.A (truthy v) (TP X pins σ Q) X.xe s
def tOp (r:R2) (ta tb:TE):TE:=λσ H Q=>ta σ H λx H1=>tb σ H1 λy H2=>r x y H2 Q
def tUn (r:V->Hp->VK->Prop) (ta:TE):TE:=λσ H Q=>ta σ H λx H1=>r x H1 Q
def rI (C:Int->Int->Prop) (g:Int->Int->V):R2:=λx y H Q=>∃i j,x=.int i/\y=.int j/\C i j/\Q (g i j) H
def rI0 (g:Int->Int->V):R2:=λx y H Q=>∃i j,x=.int i/\y=.int j/\Q (g i j) H
def rU (g:Int->V):V->Hp->VK->Prop:=λx H Q=>∃i,x=.int i/\Q (g i) H
section
variable {X:Cx}{a b c:Expr}{ta tb tc:TE}{pos:Pos}
theorem binT (ha:PE X a ta) (hb:PE X b tb) {pins:List (Addr×Obj)}{s:Shared}{σ:St}{H:Hp}{R:V->V->Hp->Prop}(I:Inv X pins σ H s)
 (h:ta σ H λx H1=>tb σ H1 λy H2=>R x y H2) {Q:Value->Shared->Prop} {f:Value->Value->Sem Value}
 (hf:∀v u s2 x y H2,Inv X pins σ H2 s2->RelV x v->RelV y u->R x y H2->wpAny (model X.prog X.w) X.A (f v u) Q X.xe s2) :
 wpAny (model X.prog X.w) X.A (eval a X.env) (λv s₁=>wpAny (model X.prog X.w) X.A (eval b X.env) (λu s₂=>wpAny (model X.prog X.w) X.A (f v u) Q X.xe s₂) X.xe s₁) X.xe s:=by
 refine thn (ha pins s σ H _ I h) λv s1 ⟨x,H1,I1,r1,q1⟩=>?_;refine thn (hb pins s1 σ H1 _ I1 q1) λu s2 ⟨y,H2,I2,r2,q2⟩=>?_;exact hf v u s2 x y H2 I2 r1 r2 q2
theorem zR8 {op:Operator}{r:R2}(ho:OpR X (K3g op) r) (ha:PE X a ta) (hb:PE X b tb):PE X (.BinOp a op b pos) (tOp r ta tb):=by
 intro pins s σ H Q I h;exact wpAny_BinOp (binT ha hb I h λv u s2 x y H2 I2 rx ry q=>ho pins s2 σ H2 x y v u Q I2 rx ry q)
theorem zP9 {op:UnaryOp}{r:V->Hp->VK->Prop}(ho:UnR X (unaryOp op) r) (ha:PE X a ta):PE X (.UnaryOp op a pos) (tUn r ta):=by
 intro pins s σ H Q I h;exact UnaryOp_ (thn (ha pins s σ H _ I h) λv s1 ⟨x,H1,I1,r1,q1⟩=>ho pins s1 σ H1 x v Q I1 r1 q1)
theorem opI {f:Value->Value->Sem Value}{C:Int->Int->Prop}{g:Int->Int->Int}
 (rule:∀(i j:Int) (t u:Tok) (s:Shared) (Q:Value->Shared->Prop) (E:Value->Shared->Prop),C i j->Q (.int (g i j) s.toks) { s with toks:=s.toks+1 }->wpAny (model X.prog X.w) X.A (f (.int i t) (.int j u)) Q E s) :
 OpR X f (rI C λi j=>.int (g i j)):=by
 intro pins s σ H x y v u Q I rx ry h;obtain⟨i,j,rfl,rfl,hc,q⟩:=h;obtain⟨t,rfl⟩:=rx;obtain⟨t',rfl⟩:=ry;exact rule i j t t' s _ _ hc ⟨.int (g i j),H,I.tok _,⟨_,rfl⟩,q⟩
theorem opI0 {f:Value->Value->Sem Value}{g:Int->Int->Int}
 (rule:∀(i j:Int) (t u:Tok) (s:Shared) (Q:Value->Shared->Prop) (E:Value->Shared->Prop),Q (.int (g i j) s.toks) { s with toks:=s.toks+1 }->wpAny (model X.prog X.w) X.A (f (.int i t) (.int j u)) Q E s) :
 OpR X f (rI0 λi j=>.int (g i j)):=by
 intro pins s σ H x y v u Q I rx ry h;obtain⟨i,j,rfl,rfl,q⟩:=h;obtain⟨t,rfl⟩:=rx;obtain⟨t',rfl⟩:=ry;exact rule i j t t' s _ _ ⟨.int (g i j),H,I.tok _,⟨_,rfl⟩,q⟩
theorem opB0 {f:Value->Value->Sem Value}{g:Int->Int->Bool}
 (rule:∀(i j:Int) (t u:Tok) (s:Shared) (Q:Value->Shared->Prop) (E:Value->Shared->Prop),Q (.bool (g i j)) s->wpAny (model X.prog X.w) X.A (f (.int i t) (.int j u)) Q E s) :
 OpR X f (rI0 λi j=>.bl (g i j)):=by
 intro pins s σ H x y v u Q I rx ry h;obtain⟨i,j,rfl,rfl,q⟩:=h;obtain⟨t,rfl⟩:=rx;obtain⟨t',rfl⟩:=ry;exact rule i j t t' s _ _ ⟨.bl (g i j),H,I,rfl,q⟩
def CDiv (i j:Int):Prop:=0<j/\j<1073741824
def CPow (i j:Int):Prop:=0<=j/\j<=1000000/\i.natAbs<2 ^ 64
def CMul (i j:Int):Prop:=(-(2 ^ 64)<i/\i<2 ^ 64)\/(-(2 ^ 64)<j/\j<2 ^ 64)
theorem CMul.ok {i j:Int}(h:CMul i j):IntMulOk i j:=by
 rcases h with ⟨h1,h2⟩|⟨h1,h2⟩
 ·exact .of_left (intBits_le_64 h1 h2)
 ·exact .of_right (intBits_le_64 h1 h2)
theorem op_add:OpR X (K3g .Add) (rI0 λi j=>.int (i+j)):=opI0 λ_ _ _ _ _ _ _ q=>add_int q
theorem zH9:OpR X (K3g .Sub) (rI0 λi j=>.int (i - j)):=opI0 λ_ _ _ _ _ _ _ q=>sub_int q
theorem op_mul:OpR X (K3g .Mult) (rI CMul λi j=>.int (i * j)):=opI λ_ _ _ _ _ _ _ hc q=>mul_int q hc.ok
theorem zt5:OpR X (K3g .FloorDiv) (rI CDiv λi j=>.int (i / j)):=opI λi j _ _ _ _ _ hc q=>by
 have h1:(0:Int)<j:=hc.1;have h2:j<1073741824:=hc.2;exact floordiv_int (by omega) (by rw[Int.fdiv_eq_ediv_of_nonneg i (by omega)];exact q) (.inl (PyProof.noPylong_small (by omega)))
theorem zD8:OpR X (K3g .Mod) (rI (λ_ j=>0<j) λi j=>.int (i % j)):=opI λi j _ _ _ _ _ hc q=>by
 have h1:(0:Int)<j:=hc;exact mod_int' (by omega) (by rw[Int.fmod_eq_emod_of_nonneg i (by omega)];exact q)
theorem zK6:OpR X (K3g .Pow) (rI CPow λi j=>.int (i ^ j.toNat)):=opI λ_ _ _ _ _ _ _ hc q=>pow_int_small hc.1 hc.2.1 hc.2.2 q
theorem unI {f:Value->Sem Value}{g:Int->Int}
 (rule:∀(i:Int) (t:Tok) (s:Shared) (Q:Value->Shared->Prop) (E:Value->Shared->Prop),Q (.int (g i) s.toks) { s with toks:=s.toks+1 }->wpAny (model X.prog X.w) X.A (f (.int i t)) Q E s) :
 UnR X f (rU λi=>.int (g i)):=by
 intro pins s σ H x v Q I rx h;obtain⟨i,rfl,q⟩:=h;obtain⟨t,rfl⟩:=rx;exact rule i t s _ _ ⟨.int (g i),H,I.tok _,⟨_,rfl⟩,q⟩
theorem zA3:UnR X (unaryOp .USub) (rU λi=>.int (-i)):=unI λ_ _ _ _ _ q=>neg_int q
end
def scal:V->V->Bool
 | .non,.non=>true|.non,.int _=>true|.int _,.non=>true|.non,.bl _=>true|.bl _,.non=>true|.non,.str _=>true|.str _,.non=>true
 | .int _,.int _=>true|.bl _,.bl _=>true|.str _,.str _=>true|.byt _,.byt _=>true
 | .int _,.str _=>true|.str _,.int _=>true|.bl _,.str _=>true|.str _,.bl _=>true
 | _,_=>false
def rEq:R2:=λx y H Q=>scal x y=true/\Q (.bl (decide (x=y))) H
theorem zx0 {i j:Int}:decide (V.int i=V.int j)=(i==j):=by
 rw[K17];simp
theorem zG1 {i j:Bool}:decide (V.bl i=V.bl j)=(i==j):=by
 rw[K17];simp
theorem zq8 {i j:Str}:decide (V.str i=V.str j)=(i==j):=by
 rw[K17];simp
theorem zs3 {i j:Array UInt8}:decide (V.byt i=V.byt j)=(i.toList==j.toList):=by
 rw[K17];cases i;cases j;simp
section
variable {X:Cx}{a b c:Expr}{ta tb tc:TE}{pos:Pos}
theorem z0R {pins:List (Addr×Obj)}{σ:St}{H:Hp}{s:Shared}{Q:VK}{k k':Bool}(I:Inv X pins σ H s) (q:Q (.bl k) H) (e:k=k'):EP X pins σ Q (.bool k') s:=by
 subst e;exact⟨.bl k,H,I,rfl,q⟩
theorem zP3:OpR X (K22 .Eq) rEq:=by
 intro pins s σ H x y v u Q I rx ry h;obtain⟨hs,q⟩:=h;cases x with
 | non =>
  cases rx;cases y with
  | non=>cases ry;exact PySem.EqNone.eq_none_none (z0R I q (by simp))
  | bl j=>cases ry;exact PySem.EqNone.eq_none_bool (z0R I q (by simp))
  | int j=>obtain⟨t',rfl⟩:=ry;exact PySem.EqNone.eq_none_int (z0R I q (by simp))
  | str j=>obtain⟨t',rfl⟩:=ry;exact PySem.EqNone.eq_none_str (z0R I q (by simp))
  | _=>exact absurd (show false=true from hs) K0u
 | bl i =>
  cases rx;cases y with
  | non=>cases ry;exact PySem.EqNone.eq_bool_none (z0R I q (by simp))
  | bl j=>cases ry;exact eq_bool (z0R I q zG1)
  | str j=>obtain⟨t',rfl⟩:=ry;exact PySem.EqMixed.eq_bool_str (z0R I q (by simp))
  | _=>exact absurd (show false=true from hs) K0u
 | int i =>
  obtain⟨t,rfl⟩:=rx;cases y with
  | non=>cases ry;exact PySem.EqNone.eq_int_none (z0R I q (by simp))
  | int j=>obtain⟨t',rfl⟩:=ry;exact eq_int (z0R I q zx0)
  | str j=>obtain⟨t',rfl⟩:=ry;exact PySem.EqMixed.eq_int_str (z0R I q (by simp))
  | _=>exact absurd (show false=true from hs) K0u
 | str i =>
  obtain⟨t,rfl⟩:=rx;cases y with
  | non=>cases ry;exact PySem.EqNone.eq_str_none (z0R I q (by simp))
  | bl j=>cases ry;exact PySem.EqMixed.eq_str_bool (z0R I q (by simp))
  | int j=>obtain⟨t',rfl⟩:=ry;exact PySem.EqMixed.eq_str_int (z0R I q (by simp))
  | str j=>obtain⟨t',rfl⟩:=ry;exact eq_str (z0R I q zq8)
  | _=>exact absurd (show false=true from hs) K0u
 | byt i =>
  obtain⟨t,rfl⟩:=rx;cases y with
  | byt j=>obtain⟨t',rfl⟩:=ry;exact PySem.W.eq_bytes (z0R I q zs3)
  | _=>exact absurd (show false=true from hs) K0u
 | _=>cases y<;>exact absurd (show false=true from hs) K0u
theorem op_lt:OpR X (K22 .Lt) (rI0 λi j=>.bl (decide (i<j))):=opB0 λ_ _ _ _ _ _ _ q=>lt_int q
theorem op_le:OpR X (K22 .LtE) (rI0 λi j=>.bl (decide (i<=j))):=opB0 λ_ _ _ _ _ _ _ q=>le_int q
theorem zN1:OpR X (K22 .Gt) (rI0 λi j=>.bl (decide (j<i))):=opB0 λ_ _ _ _ _ _ _ q=>gt_int q
theorem zS4:OpR X (K22 .GtE) (rI0 λi j=>.bl (decide (j<=i))):=opB0 λ_ _ _ _ _ _ _ q=>ge_int q
theorem z8D:OpR X (K22 .Lt) (λx y H Q=>∃i j,x=.str i/\y=.str j/\Q (.bl (decide (i.cps.toList<j.cps.toList))) H):=by
 intro pins s σ H x y v u Q I rx ry h;obtain⟨i,j,rfl,rfl,q⟩:=h;obtain⟨t,rfl⟩:=rx;obtain⟨t',rfl⟩:=ry;exact lt_str (z0R I q rfl)
theorem OpR.or {f:Value->Value->Sem Value}{r r':R2}(h:OpR X f r) (h':OpR X f r'):OpR X f (λx y H Q=>r x y H Q\/r' x y H Q):=by
 intro pins s σ H x y v u Q I rx ry q;rcases q with q|q
 ·exact h pins s σ H x y v u Q I rx ry q
 ·exact h' pins s σ H x y v u Q I rx ry q
theorem zh1 (b:Expr) {op:CmpOp}(h:op≠.In:=by decide) (h2:op≠.NotIn:=by decide):K4t op b=false:=by
 have e1:(op==CmpOp.In)=false:=by cases op<;>first|rfl|exact absurd rfl h
 have e2:(op==CmpOp.NotIn)=false:=by cases op<;>first|rfl|exact absurd rfl h2
 cases b<;>simp[K4t,e1,e2]
theorem zn2 {op:CmpOp}{r:R2}(ho:OpR X (K22 op) r) (ha:PE X a ta) (hb:PE X b tb) (hm:K4t op b=false):PE X (.Compare a [op] [b] pos) (tOp r ta tb):=by
 intro pins s σ H Q I h;exact wpAny_Compare1 (binT ha hb I h λv u s2 x y H2 I2 rx ry q=>ho pins s2 σ H2 x y v u Q I2 rx ry q) hm
def zx8 (t:TE):TT:=λσ H Q=>t σ H λx H'=>∃k,x=.bl k/\Q k H'
theorem zl5 {op:CmpOp}{r:R2}(ho:OpR X (K22 op) r) (ha:PE X a ta) (hb:PE X b tb) (hm:K4t op b=false):PT X (.Compare a [op] [b] pos) (zx8 (tOp r ta tb)):=by
 intro pins s σ H Q I h;refine wpAny_isTrue_Compare1 (thn (ha pins s σ H _ I h) λv s1 ⟨x,H1,I1,r1,q1⟩=>thn (hb pins s1 σ H1 _ I1 q1) λu s2 ⟨y,H2,I2,r2,q2⟩ =>
  thn (ho pins s2 σ H2 x y v u _ I2 r1 r2 q2) λc s3 ⟨z,H3,I3,r3,k,e,q3⟩=>?_) hm
 subst e;cases r3;exact K43 ⟨H3,I3,q3⟩
def zg3 (r r':R2) (ta tb tc:TE):TE:=λσ H Q=>ta σ H λx H1=>tb σ H1 λy H2=>r x y H2 λz H3=>∃k,z=.bl k /\
 (if k=true then tc σ H3 λw' H4=>r' y w' H4 Q else Q (.bl false) H3)
theorem ze5 {op op':CmpOp}{r r':R2}(ho:OpR X (K22 op) r) (ho':OpR X (K22 op') r') (ha:PE X a ta) (hb:PE X b tb) (hc:PE X c tc)
 (hm:lastMarks [op,op'] [b,c]=false:=by with_unfolding_all rfl):PE X (.Compare a [op,op'] [b,c] pos) (zg3 r r' ta tb tc):=by
 intro pins s σ H Q I h;refine Compare_chain (thn (ha pins s σ H _ I h) λv s1 ⟨x,H1,I1,r1,q1⟩=>chain_link (thn (hb pins s1 σ H1 _ I1 q1) λu s2 ⟨y,H2,I2,r2,q2⟩ =>
  thn (ho pins s2 σ H2 x y v u _ I2 r1 r2 q2) λd s3 ⟨z,H3,I3,r3,k,e,q3⟩=>?_)) hm
 subst e;cases r3;refine K43 ?_;cases k with
 | false=>exact ite_ff ⟨.bl false,H3,I3,rfl,q3⟩
 | true=>exact ite_tt (chain_last (thn (hc pins s3 σ H3 _ I3 q3) λw' s4 ⟨z',H4,I4,r4,q4⟩=>ho' pins s4 σ H4 y z' u w' Q I4 r2 r4 q4))
def TruV (K:K2) (x:V) (H:Hp) (k:Bool):Prop :=
 match x with
 | .non=>k=false
 | .bl b=>k=b
 | .int i=>k=(i != 0)
 | .str y=>y.length<=sizeLine/\k=((y.length:Int) != 0)
 | .byt y=>y.size<=sizeLine/\k=((y.size:Int) != 0)
 | .ref p=>(∃xs,SqL K H p xs/\k = !xs.isEmpty)\/(∃xs,SqT K H p xs/\k = !xs.isEmpty)\/∃kvs,H p=some (.dK kvs)/\k = !kvs.isEmpty
 | _=>False
theorem z7v {κ:Type}{kvs:List (κ×V)}{vs:List (κ×Value)}(r:KV kvs vs):(!vs.isEmpty) = !kvs.isEmpty:=by
 cases r<;>rfl
theorem z4b {xs:List V}{its:List Value}(r:Vals xs its):(!its.toArray.isEmpty) = !xs.isEmpty:=by
 cases r<;>simp
theorem z3X:(sizeLine:Nat)<2 ^ 63:=by rw[Z1d];decide
theorem zJ5:TruR X (λx H Q=>∃k,TruV X.K x H k/\Q k H):=by
 intro pins s σ H x v Q I rx h;obtain⟨k,e,q⟩:=h;have hl:=z3X;have hs:sizeLine=16777216:=Z1d;cases x with
 | non =>
  cases rx;have e':k=false:=e;subst e';exact truthy_none ⟨H,I,q⟩
 | bl b =>
  cases rx;have e':k=b:=e;subst e';exact K43 ⟨H,I,q⟩
 | int i =>
  obtain⟨t,rfl⟩:=rx;have e':k=(i != 0):=e;subst e';exact PySem.P.truthy_int ⟨H,I,q⟩
 | str y =>
  obtain⟨t,rfl⟩:=rx;obtain⟨hy,e'⟩:y.length<=sizeLine/\k=((y.length:Int) != 0):=e;subst e';exact PySem.P.truthy_str (by omega) ⟨H,I.tok _,q⟩
 | byt y =>
  obtain⟨t,rfl⟩:=rx;obtain⟨hy,e'⟩:y.size<=sizeLine/\k=((y.size:Int) != 0):=e;subst e';exact PySem.W.truthy_bytes (by omega) ⟨H,I.tok _,q⟩
 | ref p =>
  cases rx;have e':(∃xs,SqL X.K H p xs/\k = !xs.isEmpty)\/(∃xs,SqT X.K H p xs/\k = !xs.isEmpty)\/∃kvs,H p=some (.dK kvs)/\k = !kvs.isEmpty:=e;rcases e' with ⟨xs,hx,e'⟩|⟨xs,hx,e'⟩|⟨kvs,hx,e'⟩
  ·subst e';obtain⟨its,r,pl,hz⟩:=I.list hx;have hlen:=r.length;exact wpAny_truthy_list pl.isList (by simp only[K9];omega) ⟨H,I.tok _,by rw[z4b r];exact q⟩
  ·subst e';obtain⟨its,r,pl,hz⟩:=I.tuple hx;have hlen:=r.length;exact truthy_tuple pl (by simp only[K9];omega) ⟨H,I.tok _,by rw[z4b r];exact q⟩
  ·subst e';obtain⟨hz,hS,vs,r,m⟩:kvs.length<=sizeLine/\(p==K48)=false/\∃vs,KV kvs vs/\s.heap.DictOf (v9 X.prog X.w) p vs:=I.hok p _ hx;have hlen:kvs.length=vs.length:=K45 r;exact wpAny_truthy_dict hS m (by omega) ⟨H,I.tok _,by rw[z7v r];exact q⟩
 | _=>exact(show False from e).elim
theorem zb5 (ha:PE X a ta) (he:∀whole,isTrue a X.env whole=(do let v <- whole;K6n a.pos;K56 [v] (truthy v))) :
 PT X a (λσ H Q=>ta σ H λx H'=>∃k,TruV X.K x H' k/\Q k H'):=by
 intro pins s σ H Q I h;exact isTrue_plain (thn (ha pins s σ H _ I h) λv s1 ⟨x,H1,I1,r1,q1⟩=>zJ5 pins s1 σ H1 x v Q I1 r1 q1) (he _)
theorem op_add_str:OpR X (K3g .Add) (λx y H Q=>∃i j,x=.str i/\y=.str j/\i.length+j.length<=sizeLine/\Q (.str (i++j)) H):=by
 intro pins s σ H x y v u Q I rx ry h;obtain⟨i,j,rfl,rfl,hz,q⟩:=h;obtain⟨t,rfl⟩:=rx;obtain⟨t',rfl⟩:=ry;exact add_str (λt' tk=>⟨.str (i++j),H,I.tok _,⟨_,rfl⟩,q⟩) hz
theorem vals1 {x:V}{us:List Value}(r:Vals [x] us):∃u,us=[u]/\RelV x u:=by
 cases r with
 | cons r1 r2=>cases r2;exact⟨_,rfl,r1⟩
theorem vals2 {x y:V}{us:List Value}(r:Vals [x,y] us):∃u w',us=[u,w']/\RelV x u/\RelV y w':=by
 cases r with
 | cons r1 r2 =>
  cases r2 with
  | cons r3 r4=>cases r4;exact⟨_,_,rfl,r1,r3⟩
theorem z8j (hc:X.calm=true):CallR X (.builtin "min") (λxs H Q=>∃i j,xs=[.int i,.int j]/\Q (.int (if j<i then j else i)) H):=by
 intro pins s σ H xs us Q I r h;obtain⟨i,j,rfl,q⟩:=h;obtain⟨u,w',rfl,⟨t,rfl⟩,⟨t',rfl⟩⟩:=vals2 r;refine min_two_ints (I.ok.hd hc) λh' tk k=>⟨_,H,I.kept k,?_,q⟩;by_cases hj:j<i
 ·rw[if_pos hj,if_pos hj];exact⟨_,rfl⟩
 ·rw[if_neg hj,if_neg hj];exact⟨_,rfl⟩
theorem z83:CallR X (.type "int") (λxs H Q=>(∃i,xs=[.int i]/\Q (.int i) H)\/∃k,xs=[.bl k]/\Q (.int (if k then 1 else 0)) H):=by
 intro pins s σ H xs us Q I r h;rcases h with ⟨i,rfl,q⟩|⟨k,rfl,q⟩
 ·obtain⟨u,rfl,t,rfl⟩:=vals1 r;exact call_int_int ⟨.int i,H,I,⟨_,rfl⟩,q⟩
 ·obtain⟨u,rfl,r1⟩:=vals1 r;cases r1;exact call_int_bool ⟨.int (if k then 1 else 0),H,I.tok _,⟨_,rfl⟩,q⟩
def LenV (K:K2) (x:V) (H:Hp) (n:Nat):Prop :=
 match x with
 | .str y=>y.length<=sizeLine/\n=y.length
 | .byt y=>y.size<=sizeLine/\n=y.size
 | .ref p=>(∃xs,SqL K H p xs/\n=xs.length)\/∃xs,SqT K H p xs/\n=xs.length
 | _=>False
theorem zb0:CallR X (.builtin "len") (λxs H Q=>∃x n,xs=[x]/\LenV X.K x H n/\Q (.int n) H):=by
 intro pins s σ H xs us Q I r h;obtain⟨x,n,rfl,e,q⟩:=h;obtain⟨u,rfl,rx⟩:=vals1 r;have hl:=z3X;have hs:sizeLine=16777216:=Z1d;cases x with
 | str y =>
  obtain⟨t,rfl⟩:=rx;obtain⟨hy,e'⟩:y.length<=sizeLine/\n=y.length:=e;subst e';exact len_str (by omega) ⟨.int _,H,I.tok _,⟨_,rfl⟩,q⟩
 | byt y =>
  obtain⟨t,rfl⟩:=rx;obtain⟨hy,e'⟩:y.size<=sizeLine/\n=y.size:=e;subst e';exact PySem.W.len_bytes (by omega) ⟨.int _,H,I.tok _,⟨_,rfl⟩,q⟩
 | ref p =>
  cases rx;have e':(∃xs,SqL X.K H p xs/\n=xs.length)\/∃xs,SqT X.K H p xs/\n=xs.length:=e;rcases e' with ⟨xs,hx,e'⟩|⟨xs,hx,e'⟩
  ·subst e';obtain⟨its,r',pl,hz⟩:=I.list hx;have hlen:=r'.length;exact Calls.call_len_list pl.isList (by simp only[K9];omega) ⟨.int xs.length,H,I.tok _,⟨_,by simp only[K9];rw[hlen]⟩,q⟩
  ·subst e';obtain⟨its,r',pl,hz⟩:=I.tuple hx;have hlen:=r'.length;exact len_tuple pl (by simp only[K9];omega) ⟨.int xs.length,H,I.tok _,⟨_,by simp only[K9];rw[hlen]⟩,q⟩
 | _=>exact(show False from e).elim
end
structure ObjM (h:Heap) (x dx C:Addr) (mA:Str->Option Value):Prop where
 obj:h.get? x=some (K3v C dx)
 ns:h.Ns1 dx mA
 ne:dx≠x
theorem z9s {h:Heap}{dx:Addr}{mA:Str->Option Value}(n:h.Ns1 dx mA):∃od,h.get? dx=some od/\∀name,K99 name od=some (mA name):=by
 obtain⟨o,es,ep,ho,hd,hk,_,hm⟩:=n;refine⟨o,ho,λname=>?_⟩;have e:=hm name;unfold nsFind findBy at e;rw[<- Z0a]at e;unfold K99;rw[hd];dsimp only;split
 ·rename_i y q;rw[q]at e;exact congrArg some e
 ·rename_i q;rw[q]at e;have a:es.toList.any (·.refKey)=false:=by
   rw[List.any_eq_false];intro y hy;obtain⟨z,t,hkey⟩:=hk y (Array.mem_toList_iff.mp hy);simp[DictEntry.refKey,hkey]
  have a':¬ es.toList.any (·.refKey)=true:=by rw[a];exact K0u
  rw[if_neg a'];exact congrArg some e
theorem ObjM.look {h:Heap}{x dx C:Addr}{mA:Str->Option Value}(I:ObjM h x dx C mA):∃od,PySem.W.InstAt h x (K3v C dx) C (some od)/\∀name,K99 name od=some (mA name) :=
 let ⟨od,ho,hl⟩:=z9s I.ns
 ⟨od,⟨I.obj,rfl,rfl,ho⟩,hl⟩
section
variable {prog:K08}{w:World}{A:Around}{E:Value->Shared->Prop}{s:Shared}{K:K2}{x dx C f:Addr}{mA:Str->Option Value}{name:Str}{v:Value}
end
theorem RelO.some_of {v:V}{o:Option Value}(r:RelO (some v) o):∃u,o=some u/\RelV v u:=by
 cases o with
 | none=>exact(show False from r).elim
 | some u=>exact⟨u,rfl,r⟩
section
variable {P:K08}{w:World}{H H':Hp}{h h':Heap}{a C dx:Addr}{fs fs':List (Str×V)}
theorem zw2 (hok:HOk P w H h) (e:H a=some (.ins C dx fs)):∃mA,ObjM h a dx C mA/\(∀f,RelO (fs.lookup f) (mA f))/\PySem.Within mA (fs.map (·.1))/\fs.length<=1000/\H dx=some (.own a):=by
 obtain⟨d,z,ne,ob,mA,n,r,q⟩:=(show ObjOk P w H h a (.ins C dx fs) from hok a _ e);exact⟨mA,⟨ob,n,ne⟩,r,q,z,d⟩
end
structure Cls (K:K2) (C:Addr):Prop where
 pg:Z10 K C Str.empty=true
 hd:PySem.W.hasDictIn K C=true
 po:PySem.W.plainOver K C=true
 sa:K5v K (.ref C) "__setattr__" = some (some (.builtin "object.__setattr__"))
theorem Cls.get {K:K2}{C:Addr}(c:Cls K C) (f:Str):Z10 K C f=true:=c.pg
structure Con (K:K2) (C:Addr) (f:Str) (v:V) (u:Value):Prop where
 at_:K5v K (.ref C) f=some (some u)
 rel:RelV v u
 get:Z0o K u "__get__" = some none
 cp:PySem.W.copiedNames.contains f=false
structure Meth (K:K2) (C:Addr) (m:Str) (f:Addr):Prop where
 at_:K5v K (.ref C) m=some (.(r f))
 fn:Z1z K (.ref f)=true
 kp:K1z K (.ref f)=true
section
variable {X:Cx}{pins:List (Addr×Obj)}{σ:St}{H:Hp}{s:Shared}{a C dx:Addr}{fs:List (Str×V)}{f:Str}{v:V}{A:Around}{E:Value->Shared->Prop}
theorem Inv.made (I:Inv X pins σ H s):Inv X pins σ (upd (upd H s.heap.objs.size (.own (s.heap.objs.size+1))) (s.heap.objs.size+1) (.ins C s.heap.objs.size []))
 { s with heap:=(s.heap.push K2w).push (K3v C s.heap.objs.size) }:=by
 have e1:(s.heap.push K2w).get? s.heap.objs.size=some K2w:=K04 s.heap rfl;have e2:((s.heap.push K2w).push (K3v C s.heap.objs.size)).get? (s.heap.objs.size+1)=some (K3v C s.heap.objs.size):=by
  have:=K04 (s.heap.push K2w) (o:=K3v C s.heap.objs.size) rfl;rwa [K18]at this
 have e3:(s.heap.push K2w).Ns s.heap.objs.size (λ_=>none):=⟨K2w,#[],_,e1,rfl,(λe he=>absurd he (by simp)),λ_=>rfl⟩;have I1:=I.laid (a:=s.heap.objs.size) (o:=.own (s.heap.objs.size+1)) (h':=s.heap.push K2w) (t':=s.toks) (λb u q=>K4 _ q) (K03 _) ⟨_,e1⟩;refine I1.laid (a:=s.heap.objs.size+1) (o:=.ins C s.heap.objs.size []) (t':=s.toks) (λb u q=>K4 _ q) (K3y (K18 _ _)) ?_;have ne:s.heap.objs.size≠s.heap.objs.size+1:=K0e (K6m _);refine⟨by rw[Y1 ne,z08],K3a _,ne,e2,λ_=>none,(Heap.Ns1.of_empty e3).at λo q=>K4 _ q,λ_=>K4y,λy hy=>absurd rfl hy⟩
end
section
variable {X:Cx}{o e value:Expr}{f:Str}{pos pos' tpos:Pos}{ta tv:TE}
end
section
variable {X:Cx}{pins:List (Addr×Obj)}{σ:St}{H:Hp}{s:Shared}{A:Around}{E:Value->Shared->Prop}{Q:Value->Shared->Prop}{c:Value}{b:Bool}
inductive TyOf (K:K2) (H:Hp):V->Value->Prop where
 | non:TyOf K H .non (.type "NoneType")
 | bl (x:Bool):TyOf K H (.bl x) (.type "bool")
 | int (i:Int):TyOf K H (.int i) (.type "int")
 | str (x:Str):TyOf K H (.str x) (.type "str")
 | flt (x:UInt64):TyOf K H (.flt x) (.type "float")
 | lst {a:Addr} {xs:List V} (e:H a=.(l xs)):TyOf K H (.ref a) (.type "list")
 | frz {a:Addr} {o:Obj} {xs:List V} (e:H a=some (.frz o (.lst xs))):TyOf K H (.ref a) (.type "list")
 | tup {a:Addr} {xs:List V} (e:H a=.(g xs)):TyOf K H (.ref a) (.type "tuple")
 | dK {a:Addr} {kvs:List (Key×V)} (e:H a=some (.dK kvs)):TyOf K H (.ref a) (.type "dict")
 | dT {a:Addr} {kvs:List (List Key×V)} (e:H a=some (.dT kvs)):TyOf K H (.ref a) (.type "dict")
 | ins {a C dx:Addr} {fs:List (Str×V)} (e:H a=some (.ins C dx fs)) (cl:Cls K C) (ha:K5v K (.ref C) "__class__" = some (some (.builtin "object.__class__")))
  (hn:Z0o K (.builtin "object.__class__") "__get__" = some (some (.builtin "getset_descriptor.__get__"))) (htk:PySem.W.takesIn K (.builtin "object.__class__")=some true)
  (hm:PySem.W.mroIn K C (.type "object")=some true):TyOf K H (.ref a) (.ref C)
theorem z9u {x:V}{u t:Value}(I:Inv X pins σ H s) (rx:RelV x u) (ty:TyOf X.K H x t) (e:K5u X.K t c=some b) (h:∀tk,Q (.bool b) { s with toks:=tk }) :
 wpAny (model X.prog X.w) A (call (.builtin "isinstance") [u,c]) Q E s:=by
 cases ty with
 | non=>cases (show u=K2x from rx);exact K1p PySem.W.kitx_none I.kIn K4y e (λz=>nomatch z) h
 | bl y=>cases (show u=K78 y from rx);exact K1p PySem.W.kitx_bool I.kIn K4y e (λz=>nomatch z) h
 | int i=>obtain⟨t,q⟩:=(show ∃t,u=K9m i t from rx);cases q;exact K1p PySem.W.kitx_int I.kIn K4y e (λz=>nomatch z) h
 | str y=>obtain⟨t,q⟩:=(show ∃t,u=Z0w y t from rx);cases q;exact K1p PySem.W.kitx_str I.kIn K4y e (λz=>nomatch z) h
 | flt y=>obtain⟨t,q⟩:=(show ∃t,u=Value.float y t from rx);cases q;exact K1p PySem.W.kitx_float I.kIn K4y e (λz=>nomatch z) h
 | @lst a xs ea =>
  cases (show u=K2e a from rx);obtain⟨_,_,n,_,h1⟩:=(show ObjOk X.prog X.w H s.heap a (.lst xs) from I.hok a _ ea);exact K1p K7s I.kIn ⟨_,h1,rfl⟩ e (λz=>nomatch z) h
 | @frz a ob xs ea =>
  cases (show u=K2e a from rx);obtain⟨_,_,_,n,_,h1⟩:=(show ObjOk X.prog X.w H s.heap a (.frz ob (.lst xs)) from I.hok a _ ea);exact K1p K7s I.kIn ⟨_,h1,rfl⟩ e (λz=>nomatch z) h
 | @tup a xs ea =>
  cases (show u=K2e a from rx);obtain⟨_,_,_,p⟩:=(show ObjOk X.prog X.w H s.heap a (.tup xs) from I.hok a _ ea);obtain⟨o,h1,h2,_⟩:=p;exact K1p Z05 I.kIn ⟨o,h1,h2.1⟩ e (λz=>nomatch z) h
 | @dK a kvs ea =>
  cases (show u=K2e a from rx);obtain⟨_,_,vs,_,p⟩:=(show ObjOk X.prog X.w H s.heap a (.dK kvs) from I.hok a _ ea);obtain⟨o,es,ep,h1,h2,_⟩:=p;exact K1p K7t I.kIn ⟨o,h1,h2.1⟩ e (λz=>nomatch z) h
 | @dT a kvs ea =>
  cases (show u=K2e a from rx);obtain⟨_,_,xs,_,o,es,ep,h1,h2,_⟩:=(show ObjOk X.prog X.w H s.heap a (.dT kvs) from I.hok a _ ea);exact K1p K7t I.kIn ⟨o,h1,h2.1⟩ e (λz=>nomatch z) h
 | @ins a C dx fs ea cl ha hn htk hm =>
  cases (show u=K2e a from rx);obtain⟨mA,O,_⟩:=zw2 I.hok ea;obtain⟨od,J,_⟩:=O.look;exact K1p (PySem.W.kitx_own (cl.get _) cl.hd ha hn htk hm) I.kIn J e (λz=>nomatch z) h
end
structure Room (k:Nat) (A:Around):Prop where
 hd:A.handled=none
 dp:A.depth+3 * k+5<recursionLimit
 un:A.units+16 * k+200<cLine
 gd:A.guards=some []
theorem Room.mono {j k:Nat}{A:Around}(r:Room k A) (h:j<=k):Room j A:=⟨r.hd,by have:=r.dp;omega,by have:=r.un;omega,r.gd⟩
theorem Room.deeper {k:Nat}{A:Around}(r:Room (k+1) A) (env:Env):Room k (A.deeper env) :=
 ⟨r.hd,by have:=r.dp;show A.depth+1+3 * k+5<_;omega,by have:=r.un;show A.units+3+16 * k+200<_;omega,r.gd⟩
theorem Room.in1 {k:Nat}{A:Around}(r:Room (k+1) A):Room k A.in1 :=
 ⟨r.hd,by have:=r.dp;show A.depth+3 * k+5<_;omega,by have:=r.un;show A.units+1+16 * k+200<_;omega,r.gd⟩
theorem Room.depth {k:Nat}{A:Around}(r:Room k A):A.depth<recursionLimit:=by have:=r.dp;omega
theorem Room.units {k:Nat}{A:Around}(r:Room k A):A.units+64<cLine:=by have:=r.un;omega
def tNil:TA:=λ_ H Q=>Q [] H
def z8K (ta:TE) (tr:TA):TA:=λσ H Q=>ta σ H λx H1=>tr σ H1 λxs H2=>Q (x::xs) H2
section
variable {X:Cx}{e:Expr}{es:List Expr}{te:TE}{t:TA}{pos:Pos}
theorem z3u:PA X [] tNil:=λ_ _ _ _ H Q I h=>Calls.spliced_nil ⟨[],H,I,.nil,h⟩
theorem z1S (ha:PE X e te) (hr:PA X es t) (hs:K05 (e::es) X.env=(false,eval e X.env)::K05 es X.env:=by rfl):PA X (e::es) (z8K te t):=by
 intro pos pins s σ H Q I h;rw[hs];show wpAny _ _ (spliced ((false,eval e X.env)::backTo pos (K05 es X.env))) _ _ s;refine Calls.spliced_cons (thn (ha pins s σ H _ I h) λu s1 ⟨x,H1,I1,r1,q1⟩=>?_);exact thn (hr pos pins s1 σ H1 _ I1 q1) λus s2 ⟨xs,H2,I2,r2,q2⟩=>⟨x::xs,H2,I2,.cons r1 r2,q2⟩
def tTup (t:TA):TE:=λσ H Q=>t σ H λxs H1=>xs.length<=sizeLine/\∀p,H1 p=none->Q (.ref p) (upd H1 p (.tup xs))
def tLst (t:TA):TE:=λσ H Q=>t σ H λxs H1=>xs.length<=sizeLine/\∀p,H1 p=none->Q (.ref p) (upd H1 p (.lst xs))
theorem zF9 {x1}(h:PA X es t):PE X (.Tuple es x1 pos) (tTup t):=by
 intro pins s σ H Q I hq;refine wpAny_Tuple_spliced (thn (h pos pins s σ H _ I hq) λus s1 ⟨xs,H1,I1,r,z,q⟩=>⟨by rw[<- r.length];exact z,?_⟩);have hf:H1 s1.heap.objs.size=none:=I1.hok.fresh (K03 _);refine⟨.ref s1.heap.objs.size,upd H1 s1.heap.objs.size (.tup xs),I1.laid (t':=s1.toks) (λb u e=>K4 _ e) (K03 _) ?_,rfl,q _ hf⟩;exact⟨z,us,r,⟨_,K04 _ rfl,⟨rfl,rfl⟩,_,rfl⟩⟩
theorem zL3 (h:PA X es t):PE X (.List es pos) (tLst t):=by
 intro pins s σ H Q I hq;refine wpAny_List_spliced (thn (h pos pins s σ H _ I hq) λus s1 ⟨xs,H1,I1,r,z,q⟩=>⟨by rw[<- r.length];exact z,?_⟩);have hf:H1 s1.heap.objs.size=none:=I1.hok.fresh (K03 _);refine⟨.ref s1.heap.objs.size,upd H1 s1.heap.objs.size (.lst xs),I1.laid (t':=s1.toks) (λb u e=>K4 _ e) (K03 _) ?_,rfl,q _ hf⟩;exact⟨z,us,0,r,K04 _ rfl⟩
end
abbrev Sp:=List V->Hp->VK->XK->Prop
abbrev CXT:=List Env->Hp->Shared->XK->Value->Shared->Prop
structure Env0 (P:K08) (w:World) (K:K2) (mg:Str->Option Value) (base:Heap) (A:Around) (outer:List Env) (s:Shared) (H:Hp):Prop where
 frames:A.frames=some outer
 mod:Mod K mg base
 bs:∀b o,base.get? b=some o->s.heap.get? b=some o/\H b=none
 bsz:base.objs.size<=s.heap.objs.size
 funs:s.heap.FunFrames base outer
 frf:∀b∈frs outer,H b=none
 hok:HOk P w H s.heap
 bare:K76 s.gens
def CE (outer:List Env) (P:K08) (w:World) (H:Hp) (s:Shared) (Q:VK) (u:Value) (s':Shared):Prop :=
 ∃v H',s'.os=s.os/\K76 s'.gens/\Un (frs outer) [] H H' s.heap s'.heap/\HOk P w H' s'.heap/\RelV v u/\Q v H'
def CR (CX:CXT) (outer:List Env) (P:K08) (w:World) (H:Hp) (s:Shared) (Q:VK) (E:XK) (r:Result) (s':Shared):Prop :=
 match r with
 | .ok (.ret u)=>CE outer P w H s Q u s'
 | .ok _=>False
 | .error e=>CX outer H s E e s'
structure FnOk (P:K08) (w:World) (K:K2) (mg:Str->Option Value) (base:Heap) (CX:CXT) (k:Nat) (f:Addr) (fd:K2k) (ps:List Str) (sp:Sp):Prop where
 len:∀vs H Q E,sp vs H Q E->vs.length=ps.length
 run:∀(A:Around) (outer:List Env) (s:Shared) (H:Hp) (args:Args) (us:List Value) (vs:List V) (Q:VK) (E:XK),Room k A->Env0 P w K mg base A outer s H->K8n s fd args (ps.zip us)->Vals vs us->sp vs H Q E ->
  K61 (model P w) A (.call (.ref f) args) (CR CX outer P w H s Q E) s
theorem FnOk.mono {P:K08}{w:World}{K:K2}{mg:Str->Option Value}{base:Heap}{CX:CXT}{j k:Nat}{f:Addr}{fd:K2k}{ps:List Str}{sp:Sp}(F:FnOk P w K mg base CX j f fd ps sp) (h:j<=k) :
 FnOk P w K mg base CX k f fd ps sp:=⟨F.len,λA outer s H args us vs Q E hr=>F.run A outer s H args us vs Q E (hr.mono h)⟩
theorem FnOk.imp {P:K08}{w:World}{K:K2}{mg:Str->Option Value}{base:Heap}{CX:CXT}{k:Nat}{f:Addr}{fd:K2k}{ps:List Str}{sp sp':Sp}(F:FnOk P w K mg base CX k f fd ps sp)
 (h:∀vs H Q E,sp' vs H Q E->sp vs H Q E):FnOk P w K mg base CX k f fd ps sp' :=
 ⟨λvs H Q E q=>F.len vs H Q E (h _ _ _ _ q),λA outer s H args us vs Q E hr he hb hv hs=>F.run A outer s H args us vs Q E hr he hb hv (h _ _ _ _ hs)⟩
theorem Env0.in1 {P:K08}{w:World}{K:K2}{mg:Str->Option Value}{base:Heap}{A:Around}{outer:List Env}{s:Shared}{H:Hp}(e:Env0 P w K mg base A outer s H) :
 Env0 P w K mg base A.in1 outer s H:=⟨e.frames,e.mod,e.bs,e.bsz,e.funs,e.frf,e.hok,e.bare⟩
section
variable {X:Cx}{pins:List (Addr×Obj)}{σ:St}{H:Hp}{s s':Shared}
theorem Inv.env0 (I:Inv X pins σ H s):Env0 X.prog X.w X.K X.mg X.base X.A X.stack s H :=
 ⟨I.ok.frames,I.ok.mod,I.bs,K0l I.ok.bsz I.sz,I.stack,I.stkFree,I.hok,I.bare⟩
theorem Inv.after {Q:VK}{u:Value}(I:Inv X pins σ H s) (h:CE X.stack X.prog X.w H s Q u s'):EP X pins σ Q u s':=by
 obtain⟨v,H',os,bare,un,hok,r,q⟩:=h;obtain⟨hh,g,d,t,os'⟩:=s';obtain rfl:os'=s.os:=os;exact⟨v,H',I.call (h':=hh) (g':=g) (d':=d) (t':=t) (ch:=[]) un hok bare (λb z=>absurd z (by simp)),r,q⟩
end
def zS2 (sp:Sp) (dvs:List V) (E:XK) (t:TA):TE:=λσ H Q=>t σ H λvs H1=>sp (vs++dvs) H1 Q E
def Binds (K:K2) (fd:K2k) (ps:List Str) (ds:List Value):Prop :=
 ∀(s:Shared) (us:List Value),K.In s.heap->(us++ds).length=ps.length->K8n s fd ⟨us,[]⟩ (ps.zip (us++ds))
theorem Binds.all {K:K2}{fd:K2k}{ps:List Str}(h:∀us:List Value,us.length=ps.length->bindArgs fd ⟨us,[]⟩=pure (ps.zip us)):Binds K fd ps []:=λs us _ hl=>by
 rw[K2d]at hl ⊢;exact .of_eq (h us hl)
def z5o (CX:CXT) (X:Cx) (E:XK):Prop:=∀(pins:List (Addr×Obj)) (σ:St) (H:Hp) (s:Shared) (e:Value) (s':Shared),Inv X pins σ H s->CX X.stack H s E e s'->X.xe e s'
section
variable {X:Cx}{CX:CXT}{k:Nat}{f C:Addr}{fd:K2k}{ps:List Str}{sp:Sp}{dvs:List V}{ds:List Value}{E:XK}{x m:Str}{p pos apos:Pos}{e o:Expr}{es:List Expr}{ta:TE}{t:TA}
theorem zB5 {pins:List (Addr×Obj)}{σ:St}{H:Hp}{s:Shared}{Q:VK}{us:List Value}{vs:List V}(F:FnOk X.prog X.w X.K X.mg X.base CX k f fd ps sp) (hr:Room k X.A) (hb:Binds X.K fd ps ds) (hd:Vals dvs ds) (hx:z5o CX X E)
 (I:Inv X pins σ H s) (r:Vals vs us) (h:sp (vs++dvs) H Q E):wpAny (model X.prog X.w) X.A (call (.ref f) us) (EP X pins σ Q) X.xe s:=by
 have r2:Vals (vs++dvs) (us++ds):=r.append hd;have hl:(us++ds).length=ps.length:=by rw[<- r2.length];exact F.len _ _ _ _ h
 refine wpAny_call (K54 (F.run X.A X.stack s H ⟨us,[]⟩ (us++ds) (vs++dvs) Q E hr I.env0 (hb s us I.kIn hl) r2 h) λr s' hq=>?_);cases r with
 | error e=>exact hx pins σ H s e s' I hq
 | ok fl =>
  cases fl with
  | ret u=>exact I.after hq
  | next=>exact K27 hq
  | brk=>exact K27 hq
  | cont=>exact K27 hq
theorem zv8 (F:FnOk X.prog X.w X.K X.mg X.base CX k f fd ps sp) (hr:Room k X.A) (hg:Gl X x) (hm:X.mg x=.(r f)) (hk:K1z X.K (.ref f)=true) (hb:Binds X.K fd ps ds) (hd:Vals dvs ds) (hx:z5o CX X E)
 (ha:PA X (e::es) t) (hdb:(x==("__debug__":Str))=false:=by decide) (he:K05 (e::es) X.env=(false,eval e X.env)::K05 es X.env:=by rfl) (hpl:(backTo pos (K05 es X.env)).any (·.1)=false:=by rfl) :
 PE X (.Call (.Name x p) (e::es) [] pos) (zS2 sp dvs E t):=by
 intro pins s σ H Q I h;refine K5l (z88 I hg hm ?_ hdb);refine PySem.W.callWith_K (h₀:=X.base) I.ok.mod.kin hk (thn (ha pos pins s σ H _ I h) λus s1 ⟨vs,H1,I1,r,q⟩=>⟨I1.kIn,?_⟩) he hpl;exact zB5 F hr hb hd hx I1 r q
structure Mk (K:K2) (C f:Addr):Prop where
 makes:PySem.W.makesIn K C=true
 init:K5v K (.ref C) "__init__" = some (.(r f))
 fn:Z1z K (.ref f)=true
 kp:K1z K (.ref C)=true
end
def PK (X:Cx) (kws:List K3d) (t:TA):Prop :=
 ∀(pos:Pos) (pins:List (Addr×Obj)) (s:Shared) (σ:St) (H:Hp) (Q:List V->Hp->Prop),Inv X pins σ H s->t σ H Q->wpAny (model X.prog X.w) X.A (evalAll ((K3r pos (K2b kws X.env)).map (·.2))) (AP X pins σ Q) X.xe s
section
variable {X:Cx}{CX:CXT}{k:Nat}{f C:Addr}{fd:K2k}{ps ks:List Str}{sp:Sp}{E:XK}{x m:Str}{p pos apos kpos:Pos}{e o:Expr}{es:List Expr}{kws:List K3d}{te ta:TE}{t tk:TA}{nm:Option Str}
theorem zJ1:PK X [] tNil:=λ_ _ _ _ H Q I h=>wpAny_evalAll_nil ⟨[],H,I,.nil,h⟩
theorem zk1 (ha:PE X e te) (hr:PK X kws t):PK X (⟨nm,e,kpos⟩::kws) (z8K te t):=by
 intro pos pins s σ H Q I h;show wpAny _ _ (evalAll ((do let v <- eval e X.env;K6n pos;pure v)::(K3r pos (K2b kws X.env)).map (·.2))) _ _ s;refine wpAny_evalAll_cons (K0 (thn (ha pins s σ H _ I h) λu s1 ⟨x,H1,I1,r1,q1⟩=>K0 (K4r (K5 ?_))));exact thn (hr pos pins s1 σ H1 _ I1 q1) λus s2 ⟨xs,H2,I2,r2,q2⟩=>⟨x::xs,H2,I2,.cons r1 r2,q2⟩
structure KBinds (K:K2) (fd:K2k) (ps ks:List Str) (g:List Value->List Value->List Value) (gV:List V->List V->List V):Prop where
 to:∀(s:Shared) (us ws:List Value),K.In s.heap->(g us ws).length=ps.length->K8n s fd ⟨us,ks.zip ws⟩ (ps.zip (g us ws))
 rel:∀{vs:List V} {us:List Value} {zs:List V} {ws:List Value},Vals vs us->Vals zs ws->Vals (gV vs zs) (g us ws)
def zy9 (sp:Sp) (gV:List V->List V->List V) (E:XK) (t tk:TA):TE:=λσ H Q=>t σ H λvs H1=>tk σ H1 λzs H2=>sp (gV vs zs) H2 Q E
variable {g:List Value->List Value->List Value}{gV:List V->List V->List V}
theorem zk3 {pins:List (Addr×Obj)}{σ:St}{H:Hp}{s:Shared}{Q:VK}{us ws:List Value}{vs zs:List V}(F:FnOk X.prog X.w X.K X.mg X.base CX k f fd ps sp) (hr:Room k X.A) (hb:KBinds X.K fd ps ks g gV) (hx:z5o CX X E)
 (I:Inv X pins σ H s) (r:Vals vs us) (rz:Vals zs ws) (h:sp (gV vs zs) H Q E):wpAny (model X.prog X.w) X.A (call (.ref f) us (ks.zip ws)) (EP X pins σ Q) X.xe s:=by
 have r2:=hb.rel r rz;have hl:(g us ws).length=ps.length:=by rw[<- r2.length];exact F.len _ _ _ _ h
 refine wpAny_call (K54 (F.run X.A X.stack s H ⟨us,ks.zip ws⟩ (g us ws) (gV vs zs) Q E hr I.env0 (hb.to s us ws I.kIn hl) r2 h) λr s' hq=>?_);cases r with
 | error e=>exact hx pins σ H s e s' I hq
 | ok fl =>
  cases fl with
  | ret u=>exact I.after hq
  | next=>exact K27 hq
  | brk=>exact K27 hq
  | cont=>exact K27 hq
theorem z9I (F:FnOk X.prog X.w X.K X.mg X.base CX k f fd ps sp) (hr:Room k X.A) (hg:Gl X x) (hm:X.mg x=.(r f)) (hk:K1z X.K (.ref f)=true) (hb:KBinds X.K fd ps ks g gV) (hx:z5o CX X E)
 (ha:PA X (e::es) t) (hkw:PK X kws tk) (hall:(K3r pos (K2b kws X.env)).all (·.1.isSome)=true:=by rfl) (hks:(K3r pos (K2b kws X.env)).filterMap (·.1)=ks:=by rfl)
 (hdb:(x==("__debug__":Str))=false:=by decide) (he:K05 (e::es) X.env=(false,eval e X.env)::K05 es X.env:=by rfl)
 (hpl:((backTo pos (K05 (e::es) X.env)).any (·.1)||(K3r pos (K2b kws X.env)).any (·.1.isNone))=false:=by rfl) :
 PE X (.Call (.Name x p) (e::es) kws pos) (zy9 sp gV E t tk):=by
 intro pins s σ H Q I h;refine K5l (z88 I hg hm ?_ hdb);refine PySem.W.callWith_KW (h₀:=X.base) I.ok.mod.kin hk hall (thn (ha pos pins s σ H _ I h) λus s1 ⟨vs,H1,I1,r,q⟩=>?_) hpl he;refine thn (hkw pos pins s1 σ H1 _ I1 q) λws s2 ⟨zs,H2,I2,rz,q2⟩=>⟨I2.kIn,?_⟩;rw[hks];exact zk3 F hr hb hx I2 r rz q2
end
structure FnScope (N P:List Str) (sc:Scope):Prop where
 kind:sc.kind=.function
 co:sc.isCoroutine=false
 gen:sc.isGenerator=false
 nd:N.Nodup
 pre:N.take P.length=P
 par:∀x∈P,sc.names.lookup x=some .local\/sc.names.lookup x=some .cell
 nofree:∀y∈sc.names,y.2≠.free
theorem z4J {kindOf:Str->Option K5w}{x:Str}:∀{binds:List (Str×Value)}{m:Str->Option Value},(∀v,(x,v)∉binds)->bindL kindOf binds m x=m x
 | [],_,_=>rfl
 | (n,v)::r,m,h=>by
  unfold bindL;rw[z4J λw hw=>h w (K0j _ hw)];split
  ·have:x≠n:=by rintro rfl;exact h v K0t
   simp[this]
  ·rfl
theorem z4M {kindOf:Str->Option K5w}{x:Str}:∀{binds:List (Str×Value)}{m:Str->Option Value},(∀v,(x,v)∉binds)->bindC kindOf binds m x=m x
 | [],_,_=>rfl
 | (n,v)::r,m,h=>by
  unfold bindC;rw[z4M λw hw=>h w (K0j _ hw)];split
  ·rfl
  ·have:x≠n:=by rintro rfl;exact h v K0t
   simp[this]
theorem z57 {kindOf:Str->Option K5w}{x:Str}{v:Value}:∀{P:List Str}{vs:List Value}{i:Nat}{m:Str->Option Value},P.Nodup->P[i]?=some x->vs[i]?=some v->kindOf x=some .local ->
 bindL kindOf (P.zip vs) m x=some v
 | [],_,_,_,_,h,_,_=>by simp at h
 | _::_,[],_,_,_,_,h,_=>by simp at h
 | p::P,w::vs,0,m,nd,h1,h2,hk=>by
  simp at h1 h2;subst h1;subst h2;show bindL kindOf ((p,w)::P.zip vs) m p=_;unfold bindL;rw[z4J λv hv=>(K6t.mp nd).1 (K93 hv).1,if_pos hk];simp
 | p::P,w::vs,i+1,m,nd,h1,h2,hk=>by
  show bindL kindOf ((p,w)::P.zip vs) m x=_;unfold bindL;exact z57 (i:=i) (K6t.mp nd).2 (by simpa using h1) (by simpa using h2) hk
theorem z4Z {kindOf:Str->Option K5w}{x:Str}{v:Value}:∀{P:List Str}{vs:List Value}{i:Nat}{m:Str->Option Value},P.Nodup->P[i]?=some x->vs[i]?=some v->kindOf x≠some .local ->
 bindC kindOf (P.zip vs) m x=some v
 | [],_,_,_,_,h,_,_=>by simp at h
 | _::_,[],_,_,_,_,h,_=>by simp at h
 | p::P,w::vs,0,m,nd,h1,h2,hk=>by
  simp at h1 h2;subst h1;subst h2;show bindC kindOf ((p,w)::P.zip vs) m p=_;unfold bindC;rw[z4M λv hv=>(K6t.mp nd).1 (K93 hv).1,if_neg hk];simp
 | p::P,w::vs,i+1,m,nd,h1,h2,hk=>by
  show bindC kindOf ((p,w)::P.zip vs) m x=_;unfold bindC;exact z4Z (i:=i) (K6t.mp nd).2 (by simpa using h1) (by simpa using h2) hk
def start (N:List Str) (vs:List V):St:=vs.map some++K0n (N.length - vs.length) none
def cxOf (CX:CXT) (P:K08) (w:World) (K:K2) (mg:Str->Option Value) (base:Heap) (N:List Str) (qual:Str) (scope:Scope) (f:Addr) (cd:Value) (A:Around) (outer:List Env) (s:Shared) (H:Hp) (E:XK):Cx where
 prog:=P
 w:=w
 K:=K
 mg:=mg
 base:=base
 A:=A.deeper (envOfC qual scope s.heap.objs.size f cd)
 N:=N
 s₀:=s
 H₀:=H
 env:=envOfC qual scope s.heap.objs.size f cd
 outer:=outer
 stack:=envOfC qual scope s.heap.objs.size f cd::outer
 ex:=[]
 calm:=true
 fn:=λ_=>true
 pn:=[]
 xe:=λe s'=>wpAny (model P w) (A.deeper (envOfC qual scope s.heap.objs.size f cd)) (leaving (envOfC qual scope s.heap.objs.size f cd) e) (λ_ s''=>CX outer H s E e s'') (λe' s''=>CX outer H s E e' s'') s'
theorem z6G {sc:Scope}{n:Nat}{x:Str}(h:sc.names.lookup x=some .cell):∃c,(cellsFrom n sc.names []).lookup x=some c:=by
 have q:=K8r sc.names n [] (.inl h);exact Option.isSome_iff_exists.mp q
theorem z8M {CX:CXT}{P:K08}{w:World}{K:K2}{mg:Str->Option Value}{base:Heap}{N ps:List Str}{qual:Str}{scope:Scope}{f:Addr}{cd:Value}{A:Around}{outer:List Env}{s s1:Shared}{H:Hp}{E:XK}{us:List Value}{vs:List V}
 (S:FnScope N ps scope) (hd:A.handled=none) (e0:Env0 P w K mg base A outer s H) (hl:vs.length=ps.length) (r:Vals vs us)
 (x:InCallC s s.heap.objs.size (bindL (envOfC qual scope s.heap.objs.size f cd).kindOf (ps.zip us) λ_=>none) (cellsFrom (s.heap.objs.size+1) scope.names []) (bindC (envOfC qual scope s.heap.objs.size f cd).kindOf (ps.zip us) λ_=>none) s1) :
 Inv (cxOf CX P w K mg base N qual scope f cd A outer s H E) [] (start N vs) H s1:=by
 have hpl:ps.length<=N.length:=by have:=congrArg K6o S.pre;rw[K0g]at this;omega
 obtain⟨h1,tk,rfl,hk⟩:=x.done;have noA:∀b:Addr,b∉(cxOf CX P w K mg base N qual scope f cd A outer s H E).ex:=λb z=>absurd (show b∈([]:List Addr) from z) (by simp);refine⟨⟨e0.mod,S.kind,rfl,rfl,K03 _,λy z c h1 h2=>?_,λy hy=>?_,λy c _ h=>?_,λ_=>hd,Around.frames_deeper e0.frames,.inr ⟨rfl,rfl⟩,λb z=>absurd z (noA b),e0.bs,e0.bsz,λb _ _=>noA b,λb z=>absurd z (noA b),e0.funs,e0.frf⟩,
  rfl,e0.bare,Un.kept hk,⟨_,x.toInCall.ns,λi y v h1 h2 h3=>?_⟩,λy c h=>⟨_,x.cell y c h⟩,e0.hok.fresh (K03 _),λy c h=>?_,λp hp=>absurd (show p∈([]:List (Addr×Obj)) from hp) (by simp),e0.hok.kept hk,?_⟩
 ·exact name_of_addr x.apart (K2f h1) (K2f h2)
 ·have hy:scope.names.lookup y=some .cell\/scope.names.lookup y=some .free:=hy;rcases hy with hy|hy
  ·exact z6G hy
  ·exact absurd rfl (S.nofree _ (K2f hy))
 ·exact K4f (x.above y c (K2f h))
 ·have hi:i<vs.length:=by
   unfold start at h2;by_cases hi:i<vs.length
   ·exact hi
   ·rw[K2c (by simpa using hi)]at h2;rw[K8h]at h2;split at h2<;>cases h2
  have ha:vs[i]?=some v:=by
   unfold start at h2;rw[K11 (by simpa using hi),K00]at h2;cases e:vs[i]? with
   | none=>rw[e]at h2;cases h2
   | some a=>rw[e]at h2;cases h2;rfl
  obtain⟨u,hu,rv⟩:=r.get ha;have hp:ps[i]?=some y:=by
   rw[<- S.pre,List.getElem?_take_of_lt (by omega)];exact h1
  have ndP:ps.Nodup:=by rw[<- S.pre];exact S.nd.sublist (K7u _ _)
  refine⟨u,rv,?_⟩;rcases S.par y (K0d hp) with k|k
  ·exact .inl ⟨k,z57 ndP hp hu k⟩
  ·obtain⟨c,e⟩:=z6G (n:=s.heap.objs.size+1) k;refine .inr ⟨.inl k,c,e,?_⟩;have q:=x.cell y c e;rw[z4Z ndP hp hu (by show scope.names.lookup y≠_;rw[k];decide)]at q;exact q
 ·exact e0.hok.fresh (K4f (x.above y c (K2f h)))
 ·unfold start;show _=N.length;rw[K06,K6,List.length_replicate];omega
theorem zv6 {CX:CXT}{P:K08}{w:World}{K:K2}{mg:Str->Option Value}{base:Heap}{k:Nat}{f:Addr}{name qual:Str}{params:Arguments}{body:List Stmt}{scope:Scope}{dV kV doc pm cdv ct oc:Value}{an od:Option Addr}
 {osl:Array (Option Value)} {N ps:List Str} {sp:Sp} (lk:K.lookup f=some ⟨oc,od,.func (K2l name qual params body scope dV kV doc pm an cdv ct),osl⟩) (hcd:K2v K cdv qual=true) (S:FnScope N ps scope)
 (len:∀vs H Q E,sp vs H Q E->vs.length=ps.length)
 (hbody:∀(A:Around) (outer:List Env) (s:Shared) (H:Hp) (vs:List V) (Q:VK) (E:XK),Room k (A.deeper (envOfC qual scope s.heap.objs.size f cdv))->sp vs H Q E ->
  ∃t,PSs (cxOf CX P w K mg base N qual scope f cdv A outer s H E) body t/\t { nx:=λ_ H'=>Q .non H',rt:=Q } (start N vs) H) :
 FnOk P w K mg base CX (k+1) f (K2l name qual params body scope dV kV doc pm an cdv ct) ps sp:=by
 refine⟨len,λA outer s H args us vs Q E hr e0 hb r hsp=>?_⟩;have hl:=len _ _ _ _ hsp;have KX:K.In s.heap:=e0.mod.kin.keeps λb o e=>(e0.bs b o e).1;have lim:s.heap.NoLimit:=e0.mod.nolimit.keeps λb o e=>(e0.bs b o e).1;have hkind:∀y∈ps.zip us,scope.names.lookup y.1=some .local\/(scope.names.lookup y.1=some .cell/\((cellsFrom (s.heap.objs.size+1) scope.names []).lookup y.1).isSome=true):=λ⟨n,v⟩ hy=>by
  rcases S.par n (K93 hy).1 with q|q
  ·exact .inl q
  ·exact .inr ⟨q,K8r _ _ _ (.inl q)⟩
 refine codeAny_call_function hr.depth (KX _ _ lk) rfl S.co S.gen rfl (PySem.W.codeRec_of KX hcd) (hb _ _ _ _ ?_);refine wpAny_newFunctionEnv_cells S.kind hkind λenv he s1 x=>?_;subst he;refine⟨lim.keeps x.toInCall.keep,codeAny_func ?_⟩;obtain⟨t,ht,hq⟩:=hbody A outer s H vs Q E (hr.deeper _) hsp;have I:Inv (cxOf CX P w K mg base N qual scope f cdv A outer s H E) [] (start N vs) H s1:=z8M S hr.hd e0 hl r x;refine K37 (ht [] s1 (start N vs) H _ I hq) (λfl s' hs=>?_) λe s' hs=>hs;have fin:∀{σ':St} {H':Hp} {v:V} {u:Value},Inv (cxOf CX P w K mg base N qual scope f cdv A outer s H E) [] σ' H' s'->RelV v u->Q v H'->CE outer P w H s Q u s' :=
  λ{σ' H' v u} J rv q=>⟨v,H',J.os,J.bare,J.base,J.hok,rv,q⟩
 cases fl with
 | ret u =>
  obtain⟨v,σ',H',J,rv,q⟩:=hs;exact fin J rv q
 | next =>
  obtain⟨σ',H',J,q⟩:=hs;exact fin (v:=V.non) (u:=K2x) J rfl q
 | brk =>
  obtain⟨_,_,_,q⟩:=hs;exact K27 q
 | cont =>
  obtain⟨_,_,_,q⟩:=hs;exact K27 q
section
variable {X:Cx}{x:Str}{p pos:Pos}{e:Expr}{es:List Expr}{t:TA}{id T:String}{r:List V->Hp->VK->Prop}
def tCB (r:List V->Hp->VK->Prop) (t:TA):TE:=λσ H Q=>t σ H λvs H1=>r vs H1 Q
theorem z1G (hc:CallR X (.builtin id) r) (hg:Gl X x) (hm:X.mg x=none) (hv:K55 x=some (.builtin id)) (ha:PA X (e::es) t) (hn:x≠"__name__":=by decide) (hdb:(x==("__debug__":Str))=false:=by decide)
 (he:K05 (e::es) X.env=(false,eval e X.env)::K05 es X.env:=by rfl) (hpl:(backTo pos (K05 es X.env)).any (·.1)=false:=by rfl):PE X (.Call (.Name x p) (e::es) [] pos) (tCB r t):=by
 intro pins s σ H Q I h;refine K5l (z47 I hg hm hv ?_ hn hdb);exact PyProof.Rows.callWith_builtin1 (thn (ha pos pins s σ H _ I h) λus s1 ⟨vs,H1,I1,r1,q1⟩=>hc pins s1 σ H1 vs us Q I1 r1 q1) he hpl
theorem z1Y (hc:CallR X (.type T) r) (hg:Gl X x) (hm:X.mg x=none) (hv:K55 x=some (.type T)) (ha:PA X (e::es) t) (hn:x≠"__name__":=by decide) (hdb:(x==("__debug__":Str))=false:=by decide)
 (he:K05 (e::es) X.env=(false,eval e X.env)::K05 es X.env:=by rfl) (hpl:(backTo pos (K05 es X.env)).any (·.1)=false:=by rfl):PE X (.Call (.Name x p) (e::es) [] pos) (tCB r t):=by
 intro pins s σ H Q I h;refine K5l (z47 I hg hm hv ?_ hn hdb);exact K3i (thn (ha pos pins s σ H _ I h) λus s1 ⟨vs,H1,I1,r1,q1⟩=>hc pins s1 σ H1 vs us Q I1 r1 q1) he hpl
end
end L2
namespace HT
open PySem PyProof.Rows
section
open PySem.SeqAt
open PySem.AutoSeq1 (wpAny_loadPart')
open PySem.MeetsSeq PySem.MeetsSeq2 PySem.MeetsSeq3
end
section
variable {prog:K08}{w:World}{A:Around}{E:Value->Shared->Prop}{s:Shared}
theorem cat_tup {t b:Addr}{vs ws:List Value}{Q:Value->Shared->Prop}(ht:IsTup s.heap t vs.toArray) (hb:IsTup s.heap b ws.toArray) (hv:vs≠[])
 (h1:ws=[]->Q (.ref t) s) (h2:ws≠[]->Q (.ref s.heap.objs.size) { s with heap:=s.heap.push { cls:=.type "tuple",data:=.seq (vs++ws).toArray } })
 (hsz:vs.length+ws.length<=sizeLine):wpAny (model prog w) A (K3g .Add (.ref t) (.ref b)) Q E s:=by
 obtain⟨⟨cls,dd,data,sl⟩,ho,hc,n,hd⟩:=id ht;obtain⟨⟨cls2,dd2,data2,sl2⟩,ho2,hc2,n2,hd2⟩:=id hb;simp only at hc hd hc2 hd2;subst hc hd hc2 hd2;have e:vs.toArray++ws.toArray=(vs++ws).toArray:=by simp
 by_cases hw:ws=[]
 ·exact Z0u ⟨_,ho,rfl⟩ ⟨_,ho2,rfl⟩ K8f K9y K65 K5p (K5e _ _)
   (tuple_addW1 t b vs.toArray ws.toArray n n2 dd dd2 sl sl2 (by simpa using hv) (by simp[hw])) ⟨ho,ho2,h1 hw⟩
 ·refine Z0u ⟨_,ho,rfl⟩ ⟨_,ho2,rfl⟩ K8f K9y K65 K5p (K5e _ _)
   (tuple_addW2 t b vs.toArray ws.toArray n n2 dd dd2 sl sl2 (by simpa using hv) (by simpa using hw) (by rw[K9,K9];exact hsz)) ⟨ho,ho2,?_⟩
  rw[e];exact h2 hw
def sIx (n d:Nat):Option Int->Nat
 | none=>d
 | some v=>if v<0 then (v+(n:Int)).toNat else min v.toNat n
theorem sIx_none (n d:Nat):sIx n d none=d:=rfl
theorem sIx_nat (n d k:Nat):sIx n d (some (k:Int))=min k n:=by
 show (if (k:Int)<0 then ((k:Int)+(n:Int)).toNat else min (k:Int).toNat n)=min k n;rw[if_neg (by omega),K0x]
theorem zH7 (n d:Nat) (hd:d<=n) (o:Option Int):sIx n d o<=n:=by
 cases o with
 | none=>exact hd
 | some v =>
  show (if v<0 then (v+(n:Int)).toNat else min v.toNat n)<=n;by_cases hv:v<0
  ·rw[if_pos hv];omega
  ·rw[if_neg hv];exact Nat.min_le_right _ _
theorem z82 (v:Int) (n d:Nat):(if v<0 then max (v+(n:Int)) 0 else min v (n:Int))=((sIx n d (some v):Nat):Int):=by
 show (if v<0 then max (v+(n:Int)) 0 else min v (n:Int))=(((if v<0 then (v+(n:Int)).toNat else min v.toNat n):Nat):Int);by_cases hv:v<0
 ·simp only[if_pos hv];omega
 ·simp only[if_neg hv];omega
theorem z7t (lo hi:Option Int) (n:Nat):K34 lo hi 1 (n:Int)=(((sIx n 0 lo:Nat):Int),((sIx n n hi:Nat):Int)):=by
 have h1:¬ ((1:Int)<0):=by omega
 unfold K34;simp only[h1,if_false];refine Prod.ext ?_ ?_
 ·cases lo with
  | none=>rfl
  | some v=>exact z82 v n 0
 ·cases hi with
  | none=>rfl
  | some v=>exact z82 v n n
theorem z7j (i j:Nat):K1n (i:Int) (j:Int) 1=j - i:=by
 unfold K1n;have h1:(1:Int) > 0:=by omega
 simp only[h1,if_true,Z0n];split<;>omega
theorem z3T {v:Value}{o:Option Int}{Q:Option Int->Shared->Prop}(p:IsPart v o) (h:Q o s):wpAny (model prog w) A (Builtin.Slice.slicePartIndex v) Q E s:=by
 cases p with
 | none=>exact K7g h
 | int i t=>exact slicePart_int h
theorem sliceApplied_gen {sl:Addr}{vl vu:Value}{lo hi:Option Int}{n:Nat}{Q:Int×Int×Nat->Shared->Prop}(hs:s.heap.IsSliceOf sl vl vu .none) (pl:IsPart vl lo) (pu:IsPart vu hi)
 (h:Q (((sIx n 0 lo:Nat):Int),1,sIx n n hi - sIx n 0 lo) s):wpAny (model prog w) A (K3p (.ref sl) (pure (n:Int))) Q E s:=by
 obtain⟨os,hos,hcs,hds⟩:=id hs;unfold K3p K7k;refine K0 (K0 (K1k hos hds (x:=vl) rfl (K0 (K1k hos hds (x:=vu) rfl (K0 (K1k hos hds (x:=.none) rfl (K5 ?_)))))));refine K0 (K7g ?_);show wpAny _ _ (if ((1:Int)==0)=true then _ else _) _ _ s;rw[if_neg (by decide)];refine K0 (z3T pl (K0 (z3T pu (K0 (K5 ?_)))));show wpAny _ _ (match K34 lo hi 1 (n:Int) with|(lo,hi)=>pure (lo,(1:Int),K1n lo hi 1)) _ _ s;rw[z7t lo hi n];show wpAny _ _ (pure (((sIx n 0 lo:Nat):Int),(1:Int),K1n ((sIx n 0 lo:Nat):Int) ((sIx n n hi:Nat):Int) 1)) _ _ s;rw[z7j];exact K5 h
theorem z9S (xs:Array Value) (i k:Nat):((K0o k).filterMap λ(m:Nat)=>xs[((i:Int)+(m:Int) * 1).toNat]?).toArray=((xs.toList.drop i).take k).toArray:=by
 have e:(λ(m:Nat)=>xs[((i:Int)+(m:Int) * 1).toNat]?)=λm=>xs[i+m]?:=by
  funext m;have:((i:Int)+(m:Int) * 1).toNat=i+m:=by omega
  rw[this]
 rw[e];have:=pick_run xs i k;rw[K5j]at this;have e2:((λx=>xs[x]?) ∘ λx=>i+x)=λm=>xs[i+m]?:=rfl;rw[e2]at this;rw[this]
theorem getItem_tuple_cut {t sl:Addr}{items:Array Value}{vl vu:Value}{lo hi:Option Int}{Q:Value->Shared->Prop}(ht:IsTup s.heap t items) (hs:s.heap.IsSliceOf sl vl vu .none) (pl:IsPart vl lo) (pu:IsPart vu hi)
 (hw:¬ (sIx items.size 0 lo=0/\sIx items.size items.size hi=items.size))
 (h:Q (.ref s.heap.objs.size) { s with heap:=s.heap.push { cls:=.type "tuple",data:=.seq ((items.toList.drop (sIx items.size 0 lo)).take (sIx items.size items.size hi - sIx items.size 0 lo)).toArray } })
 (hsz:items.size<=sizeLine):wpAny (model prog w) A (K5i (.ref t) (.ref sl)) Q E s:=by
 have htake:sizeOk (.seq ((items.toList.drop (sIx items.size 0 lo)).take (sIx items.size items.size hi - sIx items.size 0 lo)).toArray):=by
  show ((items.toList.drop (sIx items.size 0 lo)).take (sIx items.size items.size hi - sIx items.size 0 lo)).toArray.size<=sizeLine;rw[K9,K0g,K3m,K15];omega
 have hj:sIx items.size items.size hi<=items.size:=zH7 _ _ (K03 _) hi;obtain⟨os,hos,hcs,hds⟩:=id hs;have hTs:s.TypeIs (.ref sl) "slice":=⟨os,hos,hcs⟩;unfold K5i
 try with_reducible refine K1s ?_
 first|refine K0 (K5 ?_)|skip
 refine K0 (K67 ht.typeIs (by decide) ?_);refine K0 (K1a (name:=K2n "__getitem__") ht.typeIs K13
  (K1g K13 ht.typeIs K72 ?_ (K7i _ _)))
 show wpAny _ _ (K50 (.ref t) >>= _) _ _ s;refine K0 (K9w ht ?_);refine K0 (K42 hTs ?_);rw[if_pos (by decide)];refine K0 (sliceApplied_gen hs pl pu ?_);have hno:¬ ((((sIx items.size 0 lo:Nat):Int)==0&&(1:Int)==1&&(sIx items.size items.size hi - sIx items.size 0 lo)==items.size)=true):=by
  intro q;rw[K0h,K0h]at q;have q1:((sIx items.size 0 lo:Nat):Int)=0:=eq_of_beq q.1.1;have q2:sIx items.size items.size hi - sIx items.size 0 lo=items.size:=eq_of_beq q.2;exact hw ⟨by omega,by omega⟩
 show wpAny _ _ (if (((sIx items.size 0 lo:Nat):Int)==0&&(1:Int)==1&&(sIx items.size items.size hi - sIx items.size 0 lo)==items.size)=true then _ else _) _ _ s;rw[if_neg hno,z9S]
 first
  | exact K0 (m:=K1r _) (K16 (K5 ⟨_,rfl,K5 h⟩) htake)
  | exact K0 (m:=K1r _) (K16 (K0 (K5 (K5 ⟨_,rfl,K5 h⟩))) htake)
  | exact K0 (K0 (m:=K1r _) (K16 (K5 (K5 ⟨_,rfl,K5 h⟩)) htake))
  | exact K0 (K0 (m:=K1r _) (K16 (K5 ⟨_,rfl,K5 h⟩) htake))
end
end HT
namespace L2
abbrev TO:=St->Hp->(Option Int->Hp->Prop)->Prop
def PO (X:Cx) (e:Option Expr) (t:TO):Prop :=
 ∀(pins:List (Addr×Obj)) (s:Shared) (σ:St) (H:Hp) (Q:Option Int->Hp->Prop),Inv X pins σ H s->t σ H Q ->
  wpAny (model X.prog X.w) X.A (evalPart e X.env) (λu s'=>∃o H',Inv X pins σ H' s'/\IsPart u o/\Q o H') X.xe s
def zj9:TO:=λ_ H Q=>Q none H
def zM7 (t:TE):TO:=λσ H Q=>t σ H λx H1=>∃i,x=.int i/\Q (some i) H1
theorem intsAre_of {ns:List Int}:∀{us:List Value},Vals (ns.map V.int) us->K7w us ns:=by
 induction ns with
 | nil=>intro us r;rw[K52]at r;cases r;exact .nil
 | cons n ns ih =>
  intro us r;rw[K0f]at r;cases r with
  | cons r1 r2 =>
   obtain⟨t,e⟩:=r1;subst e;exact .cons n t (ih r2)
section
variable {X:Cx}{e:Expr}{te:TE}{lo hi:Option Expr}{tl th:TO}{pos p2:Pos}
theorem zv7:PO X none zj9:=by
 intro pins s σ H Q I h;rw[K9z];exact K5 ⟨none,H,I,.none,h⟩
theorem zs0 (h:PE X e te):PO X (some e) (zM7 te):=by
 intro pins s σ H Q I hw;rw[evalPart_some];refine thn (h pins s σ H _ I hw) λu s1 ⟨x,H1,I1,r1,q1⟩=>?_;obtain⟨i,rfl,q⟩:=q1;obtain⟨t,rfl⟩:=r1;exact⟨some i,H1,I1,.int i t,q⟩
def SlR (X:Cx) (r:V->Option Int->Option Int->Hp->VK->Prop):Prop :=
 ∀(pins:List (Addr×Obj)) (s:Shared) (σ:St) (H:Hp) (x:V) (v vl vu:Value) (lo hi:Option Int) (sl:Addr) (Q:VK),Inv X pins σ H s->RelV x v->s.heap.IsSliceOf sl vl vu .none->IsPart vl lo->IsPart vu hi->r x lo hi H Q ->
  ∃T id,K8o (.type T) "__getitem__" = pure (some (.builtin id))/\s.TypeIs v T/\wpAny (model X.prog X.w) X.A (K5i v (.ref sl)) (EP X pins σ Q) X.xe s
theorem SlR.or {r r':V->Option Int->Option Int->Hp->VK->Prop}(h:SlR X r) (h':SlR X r'):SlR X (λx lo hi H Q=>r x lo hi H Q\/r' x lo hi H Q):=by
 intro pins s σ H x v vl vu lo hi sl Q I rx hs pl pu q;rcases q with q|q
 ·exact h pins s σ H x v vl vu lo hi sl Q I rx hs pl pu q
 ·exact h' pins s σ H x v vl vu lo hi sl Q I rx hs pl pu q
def tSl (r:V->Option Int->Option Int->Hp->VK->Prop) (te:TE) (tl th:TO):TE:=λσ H Q=>te σ H λx H1=>tl σ H1 λl H2=>th σ H2 λu H3=>r x l u H3 Q
theorem za6 {r:V->Option Int->Option Int->Hp->VK->Prop}(hr:SlR X r) (he:PE X e te) (hl:PO X lo tl) (hu:PO X hi th):PE X (.Subscript e (.Slice lo hi none p2) pos) (tSl r te tl th):=by
 intro pins s σ H Q I h;refine Z08 (thn (he pins s σ H _ I h) λv s1 ⟨x,H1,I1,r1,q1⟩=>?_);refine wpAny_Slice (thn (hl pins s1 σ H1 _ I1 q1) λvl s2 ⟨l,H2,I2,pl,q2⟩=>thn (hu pins s2 σ H2 _ I2 q2) λvu s3 ⟨u,H3,I3,pu,q3⟩=>?_);rw[K9z];refine K5 ?_;have I4:Inv X pins σ H3 { s3 with heap:=s3.heap.push { cls:=.type "slice",data:=.fields #[vl,vu,.none] } }:=I3.kept (t':=s3.toks) λb ob q=>K4 _ q;obtain⟨T,id,hT,ht,hg⟩:=hr pins { s3 with heap:=s3.heap.push { cls:=.type "slice",data:=.fields #[vl,vu,.none] } } σ H3 x v vl vu l u s3.heap.objs.size Q I4 r1 (Z00 ..) pl pu q3;show wpAny (model X.prog X.w) X.A (K83 e (.Slice lo hi none p2) v (.ref s3.heap.objs.size)) (EP X pins σ Q) X.xe { s3 with heap:=s3.heap.push { cls:=.type "slice",data:=.fields #[vl,vu,.none] } };exact tail_any (ops:=[.ref s3.heap.objs.size,v]) ht hT hg (by with_unfolding_all rfl)
def cutV (xs:List V) (lo hi:Option Int):List V:=(xs.drop (HT.sIx xs.length 0 lo)).take (HT.sIx xs.length xs.length hi - HT.sIx xs.length 0 lo)
theorem z3v (xs:List V) (lo hi:Option Int):(cutV xs lo hi).length<=xs.length:=by
 unfold cutV;rw[K0g,K3m];omega
def rSlT (K:K2):V->Option Int->Option Int->Hp->VK->Prop:=λx lo hi H Q=>∃a xs,x=.ref a/\SqT K H a xs /\
 ¬ (HT.sIx xs.length 0 lo=0/\HT.sIx xs.length xs.length hi=xs.length)/\∀p,H p=none->Q (.ref p) (upd H p (.tup (cutV xs lo hi)))
theorem sl_tup:SlR X (rSlT X.K):=by
 intro pins s σ H x v vl vu lo hi sl Q I rx hs pl pu h;obtain⟨a,xs,rfl,hx,hw,q⟩:=h;cases rx;obtain⟨its,r,ht,hz⟩:=I.tuple hx;have hlen:its.toArray.size=xs.length:=by rw[K9];exact r.length.symm
 refine⟨"tuple",_,K13.lookup,ht.typeIs,?_⟩;refine HT.getItem_tuple_cut ht hs pl pu (by rw[hlen];exact hw) ?_ (by rw[hlen];exact hz);rw[hlen];refine⟨.ref s.heap.objs.size,_,I.laid (t':=s.toks) (o:=.tup (cutV xs lo hi)) (λb ob q=>K4 _ q) (K03 _) ?_,rfl,q _ (I.hok.fresh (K03 _))⟩;exact⟨K0l (z3v xs lo hi) hz,_,(r.drop (HT.sIx xs.length 0 lo)).take (HT.sIx xs.length xs.length hi - HT.sIx xs.length 0 lo),FT.IsTup0.new _ _⟩
def zs1 (K:K2):R2:=λx y H Q=>∃a b xs ys,x=.ref a/\y=.ref b/\SqT K H a xs/\SqT K H b ys/\xs≠[]/\xs.length+ys.length<=sizeLine /\
 (ys=[]->Q (.ref a) H)/\(ys≠[]->∀p,H p=none->Q (.ref p) (upd H p (.tup (xs++ys))))
theorem Vals.nil_iff {xs:List V}{us:List Value}(r:Vals xs us):us=[]↔xs=[]:=by
 cases r with
 | nil=>simp
 | cons _ _=>simp
theorem op_catT:OpR X (K3g .Add) (zs1 X.K):=by
 intro pins s σ H x y v u Q I rx ry h;obtain⟨a,b,xs,ys,rfl,rfl,ha,hb,hx,hz,q1,q2⟩:=h;cases rx;cases ry;obtain⟨its,r1,p1,_⟩:=I.tuple ha;obtain⟨its2,r2,p2,_⟩:=I.tuple hb;refine HT.cat_tup p1 p2 (λz=>hx (r1.nil_iff.mp z)) (λz=>⟨.ref a,H,I,rfl,q1 (r2.nil_iff.mp z)⟩) (λz=>?_) (by rw[<- r1.length,<- r2.length];exact hz);refine⟨.ref s.heap.objs.size,_,I.laid (t':=s.toks) (o:=.tup (xs++ys)) (λb ob q=>K4 _ q) (K03 _) ?_,rfl,q2 (λw=>z (r2.nil_iff.mpr w)) _ (I.hok.fresh (K03 _))⟩;exact⟨by rw[K06];exact hz,_,r1.append r2,FT.IsTup0.new _ _⟩
end
def ixN (n:Nat) (i:Int):Option Nat:=if 0<=i then (if i<n then some i.toNat else none) else if -(n:Int)<=i then some (i+n).toNat else none
def atI {α:Type} (xs:List α) (i:Int):Option α:=(ixN xs.length i).bind λj=>xs[j]?
theorem z9g {n:Nat}{i:Int}{j:Nat}(h:ixN n i=some j):K89 i n=some j/\j<n/\-(n:Int)<=i/\i<n:=by
 unfold ixN at h;by_cases h0:0<=i
 ·rw[if_pos h0]at h;by_cases h1:i<n
  ·rw[if_pos h1]at h;have e:i.toNat=j:=K1h h;exact⟨by rw[Z1e h0 h1,e],by omega,by omega,h1⟩
  ·rw[if_neg h1]at h;cases h
 ·rw[if_neg h0]at h;by_cases h1:-(n:Int)<=i
  ·rw[if_pos h1]at h;have e:(i+n).toNat=j:=K1h h;exact⟨by rw[Z0t (by omega) h1,e],by omega,h1,by omega⟩
  ·rw[if_neg h1]at h;cases h
theorem z5W {α:Type}{xs:List α}{i:Int}{v:α}(h:atI xs i=some v):∃j,K89 i xs.length=some j/\xs[j]?=some v/\j<xs.length/\-(xs.length:Int)<=i/\i<xs.length:=by
 unfold atI at h;cases e:ixN xs.length i with
 | none=>rw[e]at h;cases h
 | some j =>
  rw[e]at h;obtain⟨h1,h2,h3,h4⟩:=z9g e;exact⟨j,h1,h,h2,h3,h4⟩
theorem v3 {α:Type}{xs:List α}{j:Nat}{v:α}(h:xs[j]?=some v):atI xs (j:Int)=some v:=by
 have hj:j<xs.length:=(K8.mp h).1;have e:ixN xs.length (j:Int)=some j:=by
  unfold ixN;rw[if_pos (by omega),if_pos (by omega)];simp
 unfold atI;rw[e];exact h
def z86 (b:Expr):Prop:=∀o i,K9e b false o i=operate [o,i] (K5i o i)
def IxR (X:Cx) (r:R2):Prop :=
 ∀(value slice:Expr) (pins:List (Addr×Obj)) (s:Shared) (σ:St) (H:Hp) (x y:V) (v u:Value) (Q:VK),Inv X pins σ H s->RelV x v->RelV y u->r x y H Q ->
  K9e slice false v u=operate [v,u] (K5i v u)->wpAny (model X.prog X.w) X.A (K83 value slice v u) (EP X pins σ Q) X.xe s
def MtR (X:Cx) (id:String) (r:V->List V->Hp->VK->Prop):Prop :=
 ∀(pins:List (Addr×Obj)) (s:Shared) (σ:St) (H:Hp) (x:V) (xs:List V) (v:Value) (us:List Value) (Q:VK),Inv X pins σ H s->RelV x v->Vals xs us->r x xs H Q ->
  wpAny (model X.prog X.w) X.A (call (.builtin id) (v::us)) (EP X pins σ Q) X.xe s
section
variable {X:Cx}{a b:Expr}{ta tb:TE}{pos:Pos}
theorem IxR.or {r r':R2}(h:IxR X r) (h':IxR X r'):IxR X (λx y H Q=>r x y H Q\/r' x y H Q):=by
 intro value slice pins s σ H x y v u Q I rx ry q hs;rcases q with q|q
 ·exact h value slice pins s σ H x y v u Q I rx ry q hs
 ·exact h' value slice pins s σ H x y v u Q I rx ry q hs
theorem MtR.or {id:String}{r r':V->List V->Hp->VK->Prop}(h:MtR X id r) (h':MtR X id r'):MtR X id (λx xs H Q=>r x xs H Q\/r' x xs H Q):=by
 intro pins s σ H x xs v us Q I rx rs q;rcases q with q|q
 ·exact h pins s σ H x xs v us Q I rx rs q
 ·exact h' pins s σ H x xs v us Q I rx rs q
theorem zR6 {r:R2}(hr:IxR X r) (ha:PE X a ta) (hb:PE X b tb) (hs:z86 b):PE X (.Subscript a b pos) (tOp r ta tb):=by
 intro pins s σ H Q I h;exact Z08 (binT ha hb I h λv u s2 x y H2 I2 rx ry q=>hr a b pins s2 σ H2 x y v u Q I2 rx ry q (hs _ _))
def rIxL (K:K2):R2:=λx y H Q=>∃p xs i v,x=.ref p/\y=.int i/\SqL K H p xs/\atI xs i=some v/\Q v H
def rIxT (K:K2):R2:=λx y H Q=>∃p xs i v,x=.ref p/\y=.int i/\SqT K H p xs/\atI xs i=some v/\Q v H
def rIxS:R2:=λx y H Q=>∃z i c,x=.str z/\y=.int i/\z.length<=sizeLine/\atI z.cps.toList i=some c/\Q (.str ⟨#[c]⟩) H
theorem ix_list:IxR X (rIxL X.K):=by
 intro value slice pins s σ H x y v u Q I rx ry h hs;obtain⟨p,xs,i,z,rfl,rfl,hq,he,q⟩:=h;cases rx;obtain⟨t,rfl⟩:=ry;obtain⟨its,r,pl,hz⟩:=I.list hq;obtain⟨j,h1,h2,h3,h4,h5⟩:=z5W he;obtain⟨w,ew,rw'⟩:=r.get h2;have hl:=r.length;have hn:=z3X;have fin:EP X pins σ Q w s:=⟨z,H,I,rw',q⟩;by_cases h0:0<=i
 ·have hj:i.toNat=j:=by
   rw[Z1e h0 h5]at h1;exact K1h h1
  exact item_listR pl.isList h0 (by omega) (by rw[hj];simpa using ew) fin hs
 ·have hj:(i+(its.toArray.size:Int)).toNat=j:=by
   rw[Z0t (by omega) h4]at h1;rw[K9,<- hl];exact K1h h1
  exact K90 (x:=w) pl.isList.typeIs K7p.lookup
   (wpAny_getItem_list_neg (Q:=λr s'=>r=w/\EP X pins σ Q r s') pl.isList (by omega) (by rw[K9]<;>omega) (by omega) (by rw[hj];simpa using ew) ⟨rfl,fin⟩) hs
theorem ix_tup:IxR X (rIxT X.K):=by
 intro value slice pins s σ H x y v u Q I rx ry h hs;obtain⟨p,xs,i,z,rfl,rfl,hq,he,q⟩:=h;cases rx;obtain⟨t,rfl⟩:=ry;obtain⟨its,r,pl,hz⟩:=I.tuple hq;obtain⟨j,h1,h2,h3,h4,h5⟩:=z5W he;obtain⟨w,ew,rw'⟩:=r.get h2;have hl:=r.length;have hn:=z3X;have fin:EP X pins σ Q w s:=⟨z,H,I,rw',q⟩;exact K90 (x:=w) pl.typeIs slot_tuple_getitem.lookup
  (getItem_tuple (j:=j) (Q:=λr s'=>r=w/\EP X pins σ Q r s') pl (by omega) (by omega) (by rw[K9,<- hl];exact h1) (by simpa using ew) ⟨rfl,fin⟩) hs
theorem zD5:IxR X rIxS:=by
 intro value slice pins s σ H x y v u Q I rx ry h hs;obtain⟨z,i,c,rfl,rfl,hz,he,q⟩:=h;obtain⟨t,rfl⟩:=rx;obtain⟨t',rfl⟩:=ry;obtain⟨j,h1,h2,h3,h4,h5⟩:=z5W he;have hl:z.cps.toList.length=z.length:=by simp[Z03]
 rw[hl]at h1 h4 h5;have hn:=z3X;exact tail_any (typeIs_str s z t) slot_str_getitem.lookup (getItem_str (c:=c) (by
  have e1:decide (i < -(2 ^ 63:Int))=false:=decide_eq_false (by omega);have e2:decide (i >= 2 ^ 63)=false:=decide_eq_false (by omega);rw[e1,e2,Bool.or_false]) (by rw[h1];simpa using h2) ⟨.str ⟨#[c]⟩,H,I.tok _,⟨_,rfl⟩,q⟩) hs
def rIx (K:K2):R2:=λx y H Q=>rIxL K x y H Q\/rIxT K x y H Q\/rIxS x y H Q
theorem zB4:IxR X (rIx X.K):=ix_list.or (ix_tup.or zD5)
theorem z7B (its:List Value) (n j:Nat) (u:Value):K4z (·.setIfInBounds j u) { cls:=.type "list",data:=.seq its.toArray n }={ cls:=.type "list",data:=.seq (its.set j u).toArray n }:=by
 simp[K4z]
theorem Inv.lst {pins:List (Addr×Obj)}{σ:St}{H:Hp}{s:Shared}{p:Addr}{xs:List V}(I:Inv X pins σ H s) (h:H p=.(l xs)) :
 ∃(its:List Value) (n:Nat),Vals xs its/\s.heap.get? p=some { cls:=.type "list",data:=.seq its.toArray n }/\xs.length<=sizeLine:=by
 obtain⟨z,its,n,r,e⟩:=I.hok p _ h;exact⟨its,n,r,e,z⟩
theorem Inv.lstUpd {pins:List (Addr×Obj)}{σ:St}{H:Hp}{s:Shared}{p:Addr}{xs ys:List V}{its its':List Value}{n n':Nat}{f:Obj->Obj}(I:Inv X pins σ H s) (h:H p=.(l xs))
 (ho:s.heap.get? p=some { cls:=.type "list",data:=.seq its.toArray n }) (hf:f { cls:=.type "list",data:=.seq its.toArray n }={ cls:=.type "list",data:=.seq its'.toArray n' }) (r:Vals ys its') (hz:ys.length<=sizeLine) (t:Nat) :
 Inv X pins σ (upd H p (.lst ys)) { s with heap:=s.heap.update p f,toks:=t }:=by
 have e:(s.heap.update p f).get? p=some { cls:=.type "list",data:=.seq its'.toArray n' }:=by
  rw[K3u f ho (by rw[hf]<;>rfl),hf]
 refine I.write (x:=p) (e:=p) (by rw[h];trivial) (.inl rfl) (λb u hb q=>(K3j _ _ (K5h hb)).trans q) ⟨_,e⟩ ?_;exact⟨hz,its',n',r,e⟩
def zR5:V->V->V->Hp->(Hp->Prop)->Prop:=λo i v H Q=>∃p xs k j,o=.ref p/\i=.int k/\H p=.(l xs)/\ixN xs.length k=some j/\Q (upd H p (.lst (xs.set j v)))
theorem set_list:PSet X zR5:=by
 intro pins s σ H o i v ov iv u Q I ro ri rv h;obtain⟨p,xs,k,j,rfl,rfl,hp,hj,q⟩:=h;cases ro;obtain⟨t,rfl⟩:=ri;obtain⟨its,n,r,ho,hz⟩:=I.lst hp;obtain⟨h1,h2,h3,h4⟩:=z9g hj;have hl:=r.length;have hn:=z3X;have I':Inv X pins σ (upd H p (.lst (xs.set j v))) { s with heap:=s.heap.update p (K4z (·.setIfInBounds j u)) } :=
  I.lstUpd hp ho (z7B its n j u) (r.set rv j) (by rw[Z1k];exact hz) s.toks
 by_cases h0:0<=k
 ·have hk:k.toNat=j:=by
   rw[Z1e h0 h4]at h1;exact K1h h1
  exact PySem.W.ki_setAt ho h0 (by omega) (by rw[K9,<- hl];exact h4) (by rw[hk];exact⟨_,I',q⟩)
 ·have hk:(k+(its.toArray.size:Int)).toNat=j:=by
   rw[Z0t (by omega) h3]at h1;rw[K9,<- hl];exact K1h h1
  exact PySem.W.ki_setBack ho (by omega) (by rw[K9,<- hl];exact h3) (by omega) (by rw[hk];exact⟨_,I',q⟩)
theorem z4X (lo hi:Option Int) (n:Nat):(K3l lo hi none n).1=((HT.sIx n 0 lo:Nat):Int)/\(K3l lo hi none n).2.1=((HT.sIx n n hi:Nat):Int)/\(K3l lo hi none n).2.2=1:=by
 refine⟨?_,?_,rfl⟩
 ·cases lo with
  | none=>simp[K3l,HT.sIx]
  | some i =>
   simp only[K3l,HT.sIx,K87,show (1:Int) > 0 by decide,if_true];by_cases h:i<0
   ·simp only[h,if_true]<;>omega
   ·simp only[h,if_false]<;>omega
 ·cases hi with
  | none=>simp[K3l,HT.sIx]
  | some i =>
   simp only[K3l,HT.sIx,K87,show (1:Int) > 0 by decide,if_true];by_cases h:i<0
   ·simp only[h,if_true]<;>omega
   ·simp only[h,if_false]<;>omega
theorem z4g (its:List Value) (lo hi:Option Int):Z13 its.toArray lo hi none=((its.drop (HT.sIx its.length 0 lo)).take (HT.sIx its.length its.length hi - HT.sIx its.length 0 lo)).toArray:=by
 obtain⟨h1,h2,h3⟩:=z4X lo hi its.toArray.size;unfold Z13;rw[h1,h2,h3];simp only[sliceRange_one,pick_run,K9]<;>rfl
def rSlL (K:K2):V->Option Int->Option Int->Hp->VK->Prop:=λx lo hi H Q=>∃a xs,x=.ref a/\SqL K H a xs/\∀p,H p=none->Q (.ref p) (upd H p (.lst (cutV xs lo hi)))
theorem sl_list:SlR X (rSlL X.K):=by
 intro pins s σ H x v vl vu lo hi sl Q I rx hs pl pu h;obtain⟨a,xs,rfl,hx,q⟩:=h;cases rx;obtain⟨its,r,ht,hz⟩:=I.list hx;have hlen:=r.length;refine⟨"list",_,K7p.lookup,ht.isList.typeIs,?_⟩;refine K84 ht.isList hs pl pu .none (by simp) ?_ (by rw[K9]<;>omega);rw[z4g,<- hlen];refine⟨.ref s.heap.objs.size,_,I.laid (t':=s.toks) (o:=.lst (cutV xs lo hi)) (λb ob q=>K4 _ q) (K03 _) ?_,rfl,q _ (I.hok.fresh (K03 _))⟩;exact⟨K0l (z3v xs lo hi) hz,_,0,(r.drop (HT.sIx xs.length 0 lo)).take (HT.sIx xs.length xs.length hi - HT.sIx xs.length 0 lo),K04 _ rfl⟩
def z3S:V->Bool
 | .non=>true
 | .bl _=>true
 | .int _=>true
 | .str _=>true
 | _=>false
def eqV:V->V->Bool
 | .non,.non=>true
 | .bl a,.bl b=>a==b
 | .bl a,.int b=>(if a then 1 else 0)==b
 | .int a,.bl b=>a==(if b then 1 else 0)
 | .int a,.int b=>a==b
 | .str a,.str b=>a==b
 | _,_=>false
theorem zz8 {A:Around}{s:Shared}{y x:V}{u v:Value}(ry:RelV y u) (rx:RelV x v) (fy:z3S y=true) (fx:z3S x=true):K6g A s u v (eqV y x):=by
 cases y with
 | non =>
  cases ry;cases x with
  | non=>cases rx;exact K6g.same _
  | bl b=>cases rx;exact K6g.none_bool b
  | int b=>obtain⟨t,rfl⟩:=rx;exact K6g.none_int b t
  | str b=>obtain⟨t,rfl⟩:=rx;exact K6g.none_str b t
  | _=>exact absurd (show false=true from fx) K0u
 | bl a =>
  cases ry;cases x with
  | non=>cases rx;exact K6g.bool_none a
  | bl b=>cases rx;exact K6g.bool_bool a b
  | int b=>obtain⟨t,rfl⟩:=rx;exact K6g.bool_int a b t
  | str b=>obtain⟨t,rfl⟩:=rx;exact K6g.bool_str a b t
  | _=>exact absurd (show false=true from fx) K0u
 | int a =>
  obtain⟨t',rfl⟩:=ry;cases x with
  | non=>cases rx;exact K6g.int_none a t'
  | bl b=>cases rx;exact K6g.int_bool a t' b
  | int b=>obtain⟨t,rfl⟩:=rx;exact K6g.int_int a t' b t
  | str b=>obtain⟨t,rfl⟩:=rx;exact Z02 a t' b t
  | _=>exact absurd (show false=true from fx) K0u
 | str a =>
  obtain⟨t',rfl⟩:=ry;cases x with
  | non=>cases rx;exact K6g.str_none a t'
  | bl b=>cases rx;exact K6g.str_bool a t' b
  | int b=>obtain⟨t,rfl⟩:=rx;exact Z01 a t' b t
  | str b=>obtain⟨t,rfl⟩:=rx;exact K6g.str_str a t' b t
  | _=>exact absurd (show false=true from fx) K0u
 | _=>exact absurd (show false=true from fy) K0u
def eqU (x:V) (u:Value):Bool:=match u with
 | .none=>eqV .non x
 | .bool b=>eqV (.bl b) x
 | .int i _=>eqV (.int i) x
 | .str z _=>eqV (.str z) x
 | _=>false
theorem zg8 {x y:V}{u:Value}(r:RelV y u) (f:z3S y=true):eqU x u=eqV y x:=by
 cases y with
 | non=>cases r;rfl
 | bl b=>cases r;rfl
 | int i=>obtain⟨t,rfl⟩:=r;rfl
 | str z=>obtain⟨t,rfl⟩:=r;rfl
 | _=>exact absurd (show false=true from f) K0u
theorem z5S {x:V}:∀{xs:List V}{us:List Value},Vals xs us->xs.all z3S=true->us.any (eqU x)=xs.any λy=>eqV y x
 | _,_,.nil,_=>rfl
 | y::xs,u::us,.cons r t,f=>by
  rw[K5b,K0h]at f;rw[K2t,K2t,zg8 r f.1,z5S t f.2]
theorem z4E {A:Around}{s:Shared}{x:V}{v:Value}(rx:RelV x v) (fx:z3S x=true):∀{xs:List V}{us:List Value},Vals xs us->xs.all z3S=true->∀u∈us,K6g A s u v (eqU x u)
 | _,_,.nil,_=>λu hu=>by cases hu
 | y::xs,u::us,.cons r t,f=>λu' hu=>by
  rw[K5b,K0h]at f;rcases K0a.mp hu with rfl|hu
  ·rw[zg8 r f.1];exact zz8 r rx f.1 fx
  ·exact z4E rx fx t f.2 u' hu
def inV (x:V) (xs:List V):Bool:=xs.any λy=>eqV y x
def rIn (K:K2) (neg:Bool):R2:=λx y H Q=>∃p xs,y=.ref p/\(SqL K H p xs\/SqT K H p xs)/\z3S x=true/\xs.all z3S=true/\Q (.bl (if neg then !inV x xs else inV x xs)) H
theorem z5r:OpR X (K22 .NotIn) (rIn X.K true):=by
 intro pins s σ H x y v u Q I rx ry h;obtain⟨p,xs,rfl,hq,fx,fs,q⟩:=h;cases ry;rcases hq with hq|hq
 ·obtain⟨its,r,pl,hz⟩:=I.list hq;refine Z09 (eqU x) pl.isList (λw hw=>z4E rx fx r fs w (by simpa using hw)) ⟨.bl _,H,I,rfl,?_⟩;rw[show its.toArray.any (eqU x)=its.any (eqU x) by simp,z5S r fs];exact q
 ·obtain⟨its,r,pl,hz⟩:=I.tuple hq;refine K9q (eqU x) pl (λw hw=>z4E rx fx r fs w (by simpa using hw)) ⟨.bl _,H,I,rfl,?_⟩;rw[show its.toArray.any (eqU x)=its.any (eqU x) by simp,z5S r fs];exact q
theorem CallR.or {f:Value}{r r':List V->Hp->VK->Prop}(h:CallR X f r) (h':CallR X f r'):CallR X f (λxs H Q=>r xs H Q\/r' xs H Q):=by
 intro pins s σ H xs us Q I rs q;rcases q with q|q
 ·exact h pins s σ H xs us Q I rs q
 ·exact h' pins s σ H xs us Q I rs q
theorem z53:CallR X (.type "list") (λxs H Q=>∃p ys,xs=[.ref p]/\(SqL X.K H p ys\/SqT X.K H p ys)/\∀l,H l=none->Q (.ref l) (upd H l (.lst ys))):=by
 intro pins s σ H xs us Q I r h;obtain⟨p,ys,rfl,hq,q⟩:=h;obtain⟨u,rfl,rx⟩:=vals1 r;cases rx;have fin:∀(its:List Value),Vals ys its->ys.length<=sizeLine->∀(h':Heap) (c':Nat),(∀b o',s.heap.get? b=some o'->h'.get? b=some o') ->
  h'.get? s.heap.objs.size=some { cls:=.type "list",dict:=none,data:=.seq its.toArray c',slots:=#[] }->EP X pins σ Q (.ref s.heap.objs.size) { s with heap:=h' }:=λits r' hz h' c' kp e =>
  ⟨.ref s.heap.objs.size,_,I.laid (t':=s.toks) kp (K03 _) (show ObjOk X.prog X.w _ h' _ (.lst ys) from⟨hz,its,c',r',e⟩),rfl,q _ (I.hok.fresh (K03 _))⟩
 rcases hq with hq|hq
 ·obtain⟨its,r',pl,hz⟩:=I.list hq;have hlen:=r'.length;obtain⟨o,ho,hc,n,hd⟩:=pl.isList;exact call_list_seq p (.inl rfl) ho hc hd (λh' c' kp e=>fin its r' hz h' c' kp e) (by simp only[K9]<;>omega)
 ·obtain⟨its,r',pl,hz⟩:=I.tuple hq;have hlen:=r'.length;obtain⟨o,ho,hc,n,hd⟩:=pl;exact call_list_seq p (.inr rfl) ho hc hd (λh' c' kp e=>fin its r' hz h' c' kp e) (by simp only[K9]<;>omega)
theorem z4f:CallR X (.type "tuple") (λxs H Q=>∃p ys,xs=[.ref p]/\((SqL X.K H p ys/\∀l,H l=none->Q (.ref l) (upd H l (.tup ys)))\/(SqT X.K H p ys/\Q (.ref p) H))):=by
 intro pins s σ H xs us Q I r h;obtain⟨p,ys,rfl,h⟩:=h;obtain⟨u,rfl,rx⟩:=vals1 r;cases rx;rcases h with ⟨hq,q⟩|⟨hq,q⟩
 ·obtain⟨its,r',pl,hz⟩:=I.list hq;have hlen:=r'.length;refine call_tuple_list pl.isList (λh' kp=>?_) (by simp only[K9]<;>omega);have I1:Inv X pins σ H { s with heap:=h' }:=I.kept (t':=s.toks) kp;have I2:Inv X pins σ (upd H h'.objs.size (.tup ys)) { s with heap:=h'.push { cls:=.type "tuple",data:=.seq its.toArray } } :=
   I1.laid (t':=s.toks) (λb o e=>K4 _ e) (K03 _) (show ObjOk X.prog X.w _ _ _ (.tup ys) from⟨hz,its,r',FT.IsTup0.new _ _⟩)
  exact⟨.ref h'.objs.size,_,I2,rfl,q _ (I1.hok.fresh (K03 _))⟩
 ·obtain⟨its,r',pl,hz⟩:=I.tuple hq;exact call_tuple_same pl ⟨.ref p,H,I,rfl,q⟩
def tyV (K:K2) (T:String) (x:V) (H:Hp):Prop:=match x with
 | .str _=>T = "str"
 | .int _=>T = "int"
 | .ref p=>(T = "list"/\∃xs,SqL K H p xs)\/(T = "tuple"/\∃o,K.lookup p=some o/\o.cls=.type "tuple"/\o.dict=none) \/
  (T = "dict"/\((∃kvs,H p=some (.dK kvs))\/∃kvs,H p=some (.dT kvs)))\/(T = "set"/\∃ks,H p=some (.set ks))
 | _=>False
theorem zI7 {pins:List (Addr×Obj)}{σ:St}{H:Hp}{s:Shared}{T:String}{x:V}{v:Value}(I:Inv X pins σ H s) (r:RelV x v) (ty:tyV X.K T x H) :
 s.TypeIs v T/\∀a,v=.ref a->∃ob,s.heap.get? a=some ob/\ob.dict=none:=by
 cases x with
 | str z =>
  obtain⟨t,rfl⟩:=r;cases (show T = "str" from ty);exact⟨typeIs_str s z t,λ_ e=>nomatch e⟩
 | int i =>
  obtain⟨t,rfl⟩:=r;cases (show T = "int" from ty);exact⟨K8p s i t,λ_ e=>nomatch e⟩
 | ref p =>
  cases r;rcases ty with ⟨rfl,xs,hq⟩|⟨rfl,o,hk,hc,hd⟩|⟨rfl,hk⟩|⟨rfl,ks,hk⟩
  ·obtain⟨its,_,pl,_⟩:=I.list hq;refine⟨pl.isList.typeIs,λa e=>?_⟩;cases e;obtain⟨o,n,e,c,hd,_⟩:=pl;exact⟨o,e,hd⟩
  ·refine⟨⟨o,I.kIn p o hk,hc⟩,λa e=>?_⟩;cases e;exact⟨o,I.kIn _ o hk,hd⟩
  ·have z:∃o,s.heap.get? p=some o/\o.ExactDict:=by
    rcases hk with ⟨kvs,hk⟩|⟨kvs,hk⟩
    ·obtain⟨_,_,_,_,o,_,_,e,ex,_⟩:=I.hok p _ hk;exact⟨o,e,ex⟩
    ·obtain⟨_,_,_,_,o,_,_,e,ex,_⟩:=I.hok p _ hk;exact⟨o,e,ex⟩
   obtain⟨o,e,ex⟩:=z;refine⟨⟨o,e,ex.1⟩,λa e2=>?_⟩;cases e2;exact⟨o,e,ex.2.1⟩
  ·obtain⟨o,_,_,_,_,e,ex,_⟩:=I.hok p _ hk;refine⟨⟨o,e,ex.1⟩,λa e2=>?_⟩;cases e2;exact⟨o,e,ex.2.1⟩
 | _=>exact K27 ty
def tBM (K:K2) (T:String) (r:V->List V->Hp->VK->Prop) (to:TE) (t:TA):TE:=λσ H Q=>to σ H λx H1=>tyV K T x H1/\t σ H1 λxs H2=>r x xs H2 Q
variable {o e:Expr}{es:List Expr}{to:TE}{t:TA}{name:Str}{apos cpos:Pos}{T id:String}{r:V->List V->Hp->VK->Prop}
theorem zu8 (pa:PlainAttrs T) (slot:Slot T name id) (hty:typeOf (.builtin id)=pure (.type "method_descriptor")) (hm:MtR X id r) (ho:PE X o to) (ha:PA X (e::es) t)
 (hbase:K49 o name X.env (eval o X.env)=eval o X.env:=by rfl)
 (hfew:((backTo cpos (K05 (e::es) X.env)).all (λx=>!x.1)&&(K3r cpos (K2b [] X.env)).all (λx=>x.1.isSome)
 &&decide ((e::es).length+([]:List K3d).length+(if ([]:List K3d).isEmpty then 0 else 1)<30))=true:=by rfl)
 (hline:(apos.endLine==cpos.line)=true:=by rfl) (hs:K05 (e::es) X.env=(false,eval e X.env)::K05 es X.env:=by rfl) (hplain:(backTo cpos (K05 es X.env)).any (·.1)=false:=by rfl) :
 PE X (.Call (.Attribute o name apos) (e::es) [] cpos) (tBM X.K T r to t):=by
 intro pins s σ H Q I h;refine K8z hbase hfew hline rfl (thn (ho pins s σ H _ I h) λv s1 ⟨x,H1,I1,r1,ty,q1⟩=>?_);obtain⟨h1,h2⟩:=zI7 I1 r1 ty;refine⟨T,id,pa,slot,hty,h1,h2,?_⟩;have hA:=ha cpos pins s1 σ H1 _ I1 q1;rw[hs]at hA ⊢;refine K8t (by show (false||(backTo cpos (K05 es X.env)).any (·.1))=false;rw[hplain]<;>rfl) (K9f ?_);exact thn hA λus s2 ⟨vs,H2,I2,r2,q2⟩=>hm pins s2 σ H2 x vs v us Q I2 r1 r2 q2
end
def MtM (X:Cx) (id:String) (r:V->List V->Hp->VK->Prop):Prop :=
 ∀(pins:List (Addr×Obj)) (s:Shared) (σ:St) (H:Hp) (x:V) (xs:List V) (v:Value) (us:List Value) (Q:VK),Inv X pins σ H s->RelV x v->Vals xs us->r x xs H Q ->
  wpAny (model X.prog X.w) X.A (call (.builtin id) (v::us)) (EP X pins σ Q) X.xe s
theorem Vals.one:∀{x:V}{us:List Value},Vals [x] us->∃u,us=[u]/\RelV x u
 | _,_,.cons r .nil=>⟨_,rfl,r⟩
theorem Vals.two:∀{x y:V}{us:List Value},Vals [x,y] us->∃u v,us=[u,v]/\RelV x u/\RelV y v
 | _,_,_,.cons r (.cons q .nil)=>⟨_,_,rfl,r,q⟩
theorem Vals.zero:∀{us:List Value},Vals [] us->us=[]
 | _,.nil=>rfl
theorem Vals.eraseIdx:∀{xs:List V}{us:List Value}(i:Nat),Vals xs us->Vals (xs.eraseIdx i) (us.eraseIdx i)
 | _,_,_,.nil=>.nil
 | _,_,0,.cons _ t=>t
 | _,_,i+1,.cons r t=>.cons r (Vals.eraseIdx i t)
theorem Vals.reverse {xs:List V}{us:List Value}(h:Vals xs us):Vals xs.reverse us.reverse:=by
 induction h with
 | nil=>exact .nil
 | cons r t ih=>rw[K62,K62];exact Vals.append ih (.cons r .nil)
theorem Vals.rep {xs:List V}{us:List Value}(h:Vals xs us):∀k:Nat,Vals (K0n k xs).flatten (K0n k us).flatten
 | 0=>.nil
 | k+1=>by
  rw[K30,K30,K3z,K3z];exact Vals.append h (Vals.rep h k)
theorem z54 {α:Type}:∀(l:List α) (i:Nat),(l.eraseIdx i).length<=l.length
 | [],_=>K03 _
 | _::_,0=>K4d _
 | _::r,i+1=>Nat.succ_le_succ (z54 r i)
theorem foldl_rep (its:List Value):∀(k:Nat) (acc:List Value),
 K6h (λx1 x2=>x1++x2) acc.toArray (K0n k its.toArray)=(acc++(K0n k its).flatten).toArray
 | 0,acc=>by simp
 | k+1,acc=>by
  have e:acc.toArray++its.toArray=(acc++its).toArray:=by simp
  have e2:(acc++its)++(K0n k its).flatten=acc++(K0n (k+1) its).flatten:=by
   rw[K30,K3z,K0z]
  rw[<- e2,<- foldl_rep its k (acc++its),<- e,K30,K3w]
section
variable {X:Cx}{pins:List (Addr×Obj)}{σ:St}{H:Hp}{s:Shared}{l b:Addr}{xs ys zs:List V}
theorem Inv.lset {its its':List Value}{n:Nat}{f:Array Value->Array Value}{t':Nat}(I:Inv X pins σ H s) (hH:H l=.(l xs))
 (e:s.heap.get? l=some { cls:=.type "list",data:=.seq its.toArray n }) (hf:f its.toArray=its'.toArray) (hv:Vals ys its') (hz:ys.length<=sizeLine) :
 Inv X pins σ (upd H l (.lst ys)) { s with heap:=s.heap.update l (K4z f),toks:=t' }:=by
 have q:=PySem.IsL.update e f;rw[hf]at q;refine I.write (x:=l) (e:=l) (by rw[hH];exact trivial) (.inl rfl) (λb' u hb hu=>(K3j s.heap (K4z f) (K5h hb)).trans hu) ⟨_,q⟩ ?_;exact⟨hz,its',_,hv,q⟩
theorem Inv.lnew {its:List Value}{t':Nat}(I:Inv X pins σ H s) (hv:Vals ys its) (hz:ys.length<=sizeLine) :
 Inv X pins σ (upd H s.heap.objs.size (.lst ys)) { s with heap:=s.heap.push { cls:=.type "list",data:=.seq its.toArray },toks:=t' } :=
 I.laid (λ_ _ q=>K4 _ q) (K03 _) ⟨hz,its,0,hv,K04 _ rfl⟩
theorem Inv.fresh (I:Inv X pins σ H s):H s.heap.objs.size=none:=I.hok.fresh (K03 _)
theorem Inv.lstM (I:Inv X pins σ H s) (hH:H l=.(l xs)):xs.length<=sizeLine/\∃(its:List Value) (n:Nat),Vals xs its/\xs.length=its.length/\s.heap.get? l=some { cls:=.type "list",data:=.seq its.toArray n }:=by
 obtain⟨z,its,n,r,e⟩:=I.hok l _ hH;exact⟨z,its,n,r,r.length,e⟩
theorem z4s {n:Nat}(h:n<=sizeLine):K5c n=false:=by
 unfold K5c;exact decide_eq_false (by omega)
end
section
variable {X:Cx}
def zx7:V->List V->Hp->VK->Prop:=λx vs H Q=>∃l xs y,x=.ref l/\vs=[y]/\H l=.(l xs)/\xs.length<sizeLine/\Q .non (upd H l (.lst (xs++[y])))
theorem z4H:MtM X "list.append" zx7:=by
 intro pins s σ H x vs v us Q I rx rv h;obtain⟨l,xs,y,rfl,rfl,hH,hz,q⟩:=h;cases rx;obtain⟨u,rfl,ru⟩:=rv.one;obtain⟨z,its,n,r,hl,e⟩:=I.lstM hH;refine K4g F.slot_list_append ⟨_,e,rfl⟩ F.entry_list_append (F.args_list_append_2 _ _) (PySem.list_append l its.toArray n u (by rw[K9];omega)) ⟨e,?_⟩;refine⟨.non,_,I.lset (its':=its++[u]) hH e (by simp) (r.append (.cons ru .nil)) ?_,rfl,q⟩;rw[K06,K1i];omega
def zy8:V->List V->Hp->VK->Prop:=λx vs H Q=>∃l xs i k y,x=.ref l/\vs=[.int i]/\H l=.(l xs)/\-(2 ^ 63)<=i/\i<2 ^ 63/\K89 i xs.length=some k/\xs[k]?=some y/\Q y (upd H l (.lst (xs.eraseIdx k)))
theorem zb4:MtM X "list.pop" zy8:=by
 intro pins s σ H x vs v us Q I rx rv h;obtain⟨l,xs,i,k,y,rfl,rfl,hH,h1,h2,hk,hy,q⟩:=h;cases rx;obtain⟨u,rfl,ru⟩:=rv.one;obtain⟨t,rfl⟩:=ru;obtain⟨z,its,n,r,hl,e⟩:=I.lstM hH;obtain⟨w,hw,rw'⟩:=r.get hy;refine K4g F.slot_list_pop ⟨_,e,rfl⟩ F.entry_list_pop (F.args_list_pop_2 _ _)
  (MeetsSeq.list_pop_at l its.toArray n i t k w (fitsIndex_both h1 h2) (by rw[K9,<- hl];exact hk) (by rw[<- K35];exact hw) (by rw[K9];omega)) ⟨e,?_⟩
 refine⟨y,_,I.lset (its':=its.eraseIdx k) hH e ?_ (r.eraseIdx k) ?_,rw',q⟩
 ·show its.toArray.eraseIdxIfInBounds k=(its.eraseIdx k).toArray;rw[List.eraseIdxIfInBounds_toArray]
 ·have:=z54 xs k;omega
def rCat:R2:=λx y H Q=>∃l b xs zs,x=.ref l/\y=.ref b/\H l=.(l xs)/\H b=.(l zs)/\xs.length+zs.length<=sizeLine/\∀p,H p=none->Q (.ref p) (upd H p (.lst (xs++zs)))
theorem op_cat:OpR X (K3g .Add) rCat:=by
 intro pins s σ H x y v u Q I rx ry h;obtain⟨l,b,xs,zs,rfl,rfl,hH,hB,hz,q⟩:=h;cases rx;cases ry;obtain⟨z,its,n,r,hl,e⟩:=I.lstM hH;obtain⟨z2,its2,n2,r2,hl2,e2⟩:=I.lstM hB;refine PySem.P.add_list e e2 ?_ (by rw[K9,K9];omega);have ea:its.toArray++its2.toArray=(its++its2).toArray:=by simp
 rw[ea];exact⟨.ref _,_,I.lnew (t':=s.toks) (r.append r2) (by rw[K06];omega),rfl,q _ I.fresh⟩
def rRep:R2:=λx y H Q=>∃l k xs,x=.ref l/\y=.int k/\H l=.(l xs)/\-(2 ^ 63)<=k/\k<2 ^ 63/\xs.length * k.toNat<=sizeLine /\
 ∀p,H p=none->Q (.ref p) (upd H p (.lst (K0n k.toNat xs).flatten))
theorem len_rep {α:Type}(xs:List α) (k:Nat):(K0n k xs).flatten.length=k * xs.length:=by
 induction k with
 | zero=>simp
 | succ k ih=>rw[K30,K3z,K06,ih,Nat.succ_mul,Nat.add_comm]
theorem zC9:OpR X (K3g .Mult) rRep:=by
 intro pins s σ H x y v u Q I rx ry h;obtain⟨l,k,xs,rfl,rfl,hH,h1,h2,hz,q⟩:=h;cases rx;obtain⟨t,rfl⟩:=ry;obtain⟨z,its,n,r,hl,e⟩:=I.lstM hH;have hlen:its.toArray.size * k.toNat<=sizeLine:=by rw[K9,<- hl];exact hz
 have hcap:¬ its.toArray.size * k.toNat > (2 ^ 63 - 1) / 8:=by
  have:(sizeLine:Nat)<=(2 ^ 63 - 1) / 8:=by decide
  omega
 have hfit:¬ (!Builtin.List.listFitsIndex k)=true:=by
  rw[fitsIndex_both h1 h2];exact K0u
 have hlong:¬ K5c (its.toArray.size * k.toNat)=true:=by
  rw[z4s hlen];exact K0u
 have hnew:K6h (λx1 x2=>x1++x2) #[] (K0n (if its.toArray.isEmpty=true then 0 else k.toNat) its.toArray)=(K0n k.toNat its).flatten.toArray:=by
  have f0:∀m:Nat,K6h (λx1 x2=>x1++x2) #[] (K0n m its.toArray)=(K0n m its).flatten.toArray:=λm=>by
   have:=foldl_rep its m [];rw[K5f]at this;exact this
  rw[f0];cases its with
  | nil=>simp
  | cons a r'=>rw[if_neg (by simp)]
 refine K7o (T:="list") (U:="int") (by decide) ⟨_,e,rfl⟩ (λs'=>K8p s' k t) noFill_list_mul F.fills_int_mul F.slot_int_rmul repeat_list F.slot_int_index.lookup
  (K4g F.slot_int_rmul (K8p s k t) F.entry_int_rmul (F.args_int_rmul_2 _ _) (int___rmul___int_list k t l its.toArray n)
   ⟨e,rfl,⟨_,e,rfl⟩,K4g F.slot_list_mul ⟨_,e,rfl⟩ F.entry_list_mul (F.args_list_mul_2 _ _) (AutoListH.list___mul___list_int_3 l its.toArray n k t hfit hcap hlong) ⟨e,?_⟩⟩)
 rw[hnew];exact⟨.ref _,_,I.lnew (t':=s.toks) (r.rep k.toNat) (by rw[len_rep,K5x];exact hz),rfl,q _ I.fresh⟩
end
section
variable {prog:K08}{w:World}{A:Around}{E:Value->Shared->Prop}{s:Shared}
theorem z7C {a c n:Nat}(hac:a<=c) (hc:c<=n):K3l (some (a:Int)) (some (c:Int)) none n=((a:Int),(c:Int),1):=by
 simp only[K3l,K87];have h1:¬ ((a:Int)<0):=by omega
 have h2:¬ ((c:Int)<0):=by omega
 simp only[h1,h2,if_false,show (1:Int) > 0 by decide,if_true];congr 1
 ·omega
 ·congr 1;omega
set_option maxRecDepth 100000 in
theorem zd7 {l b sl:Addr}{items new:Array Value}{n n2:Nat}{vl vu:Value}{a c:Nat}{Q:Unit->Shared->Prop}
 (e:s.heap.get? l=some { cls:=.type "list",data:=.seq items n }) (e2:s.heap.get? b=some { cls:=.type "list",data:=.seq new n2 }) (hne:l≠b)
 (hs:s.heap.IsSliceOf sl vl vu .none) (pl:IsPart vl (some (a:Int))) (pu:IsPart vu (some (c:Int))) (hac:a<=c) (hc:c<=items.size)
 (hsz:items.size+new.size<=sizeLine) (h:Q () { s with heap:=s.heap.update l (K4z λxs=>xs.extract 0 a++new++xs.extract c xs.size) }) :
 wpAny (model prog w) A (Z1p (.ref l) (.ref sl) (.ref b)) Q E s:=by
 have hl:s.heap.IsList l items:=Z0y e;have hb:s.heap.IsList b new:=Z0y e2;obtain⟨os,hos,hcs,hds⟩:=id hs;have hTs:s.TypeIs (.ref sl) "slice":=⟨os,hos,hcs⟩;have hstep:¬ ((rawPart none==rawInt 0)=true):=K0u;have hsame:K46 (.ref l) (.ref b)=false:=by
  unfold K46;exact beq_eq_false_iff_ne.mpr hne
 have hmax:(max (a:Int) (c:Int)).toNat=c:=by omega
 have hz':((λxs:Array Value=>xs.extract 0 a++new++xs.extract c xs.size) items).size<=sizeLine+1:=by
  simp only[Array.size_append,Array.size_extract];omega
 unfold Z1p
 try with_reducible refine K1s ?_
 first|refine K0 (K5 ?_)|skip
 refine K0 (K67 hl.typeIs (by decide) ?_);refine K0 (K1a (name:=K2n "__setitem__") hl.typeIs slot_list_setitem
  (K1g slot_list_setitem hl.typeIs entry_list_setitem ?_ (args_list_setitem _ _ _)))
 show wpAny _ _ (K75 (.ref sl) >>= _) _ _ s;refine K0 ?_;unfold K75;refine K0 (K6x hTs slice_no_index ?_);simp only[Option.isNone_none,if_true];refine K5 ?_;show wpAny _ _ (typeOf (.ref sl) >>= _) _ _ s;refine K0 (K42 hTs ?_)
 first
  | rw[if_neg (by decide)]
  | refine K77 (by decide) ?_
 rw[listSliceParts_eq];refine K0 (K0 (K1k hos hds (x:=.none) rfl (K0 (K9g .none ?_))));rw[if_neg hstep];refine K0 (K1k hos hds (x:=vl) rfl (K0 (K9g pl ?_)));refine K0 (K1k hos hds (x:=vu) rfl (K0 (K9g pu (K5 ?_))))
 first
  | simp only[hsame,K29,if_false]
  | refine K77 hsame ?_
  | (dsimp only
     rw[if_neg (by rw[hsame];exact K0u)])
 refine K0 (m:=K7l (.ref b) "must assign iterable to extended slice") ?_;unfold K7l;refine K0 (K42 hb.typeIs ?_)
 first
  | refine PySem.W.KFB.if_so (by decide) ?_
  | rw[if_pos (by decide)]
  | simp only[beq_self_eq_true,Z0k,if_true]
 unfold Builtin.List.listItems;refine K0 (K2a e2 rfl (K5 ?_));refine K0 (K0 (K2a e rfl (K5 ?_)));refine K0 (K9c ((sliceIndices_raw (some (a:Int)) (some (c:Int)) none items.size (by simp)).trans (congrArg (pure:Int×Int×Int->Sem (Int×Int×Int)) (z7C hac hc))) ?_);show wpAny _ _ (if ((1:Int)==1)=true then _ else _) _ _ s;rw[if_pos (by decide)];refine K0 (K47 ?_)
 first
  | simp only[z4s hsz,K29,if_false]
  | refine K77 (z4s hsz) ?_
 first|refine K0 (K5 ?_)|skip
 show wpAny _ _ (updateSeq l (λxs=>xs.extract 0 ((a:Int)).toNat++new++xs.extract (max (a:Int) (c:Int)).toNat xs.size) >>= _) _ _ s;rw[hmax,K0x];refine K0 (wpAny_updateSeq (hz:=K0l (K53 _ _) hsz) (_hz':=hz') e rfl ?_);refine K0 (K9d ?_)
 first
  | exact K0 (K5 (K5 ⟨.none,rfl,K5 h⟩))
  | exact K5 ⟨.none,rfl,K5 h⟩
end
section
variable {X:Cx}
end
end L2
namespace Att
open PySem PySem.W PySem.Calls PyProof.Rows
theorem z3w {P:Params}{h:Heap}:∀(ns:List Int) (vs:List Value),WellAll P h vs (ns.map WData.int)->K7w vs ns:=by
 intro ns;induction ns with
 | nil =>
  intro vs w;rw[K52]at w;cases w;exact .nil
 | cons n ns ih =>
  intro vs w;rw[K0f]at w;cases w with
  | cons a b =>
   cases a;exact .cons _ _ (ih _ b)
theorem z98 {l:OpenLaw}{n:Nat}(hn:l.most=some n) {P:Params}{h:Heap}{args:List WData}{vals:List Value}
 (hpre:l.row.toRowW.claim.pre args=true) (hwl:WellAll P h vals args) :
 ∃a vs ns,vals=[K2e a]/\args=[WData.list (ns.map WData.int)]/\h.get? a=some { cls:=.type "list",data:=.seq vs.toArray }/\K7w vs ns/\ns.length<=n:=by
 have hsh:WShape.hasAll [] args [.list .int]=true:=(pre_splitW hpre).1;have hc:l.pre.holds [] { args:=args }=true:=(pre_splitW hpre).2;obtain⟨d,r,rfl,h1,h2⟩:=hasAllW_cons hsh;obtain rfl:=hasAllW_nil h2;obtain⟨xs,rfl,h3⟩:=hasW_list h1;obtain⟨ns,rfl⟩:=items_int h3;have hlen:ns.length<=n:=by
  unfold OpenLaw.pre at hc;have h4:(WTm.not (.lt (.lit (.int (n:Int))) (.len (.arg 0)))).holds [] { args:=[.list (ns.map .int)] }=true:=by
   have h4:=(holds_andW hc).1;rw[hn]at h4;exact h4
  have h5:=condW_of h4 (w_not (w_lt w_lit (w_len_list (w_arg rfl))));rw[K6]at h5;refine Nat.le_of_not_lt λq=>?_;have q':(n:Int)<((ns.length:Nat):Int):=by omega
  first
   | (rw[decide_eq_true q']at h5;exact absurd h5 (by decide))
   | (simp at h5;omega)
 cases hwl with
 | cons w1 w2 =>
  cases w2;cases w1 with
  | list ho hall=>exact⟨_,_,ns,rfl,rfl,ho,z3w ns _ hall,hlen⟩
theorem z8E (l:OpenLaw) (args:List WData):l.row.toRowW.claim.post args (.bool true) args=true :=
 postW_of (r:=l.row.toRowW) (X:=(true==true))
  (show WShape.has [] (.bool true) .bool=true by first|rfl|decide|simp[WShape.has,WShape.arms,WShape.armsAll])
  (show (WTm.eq .res (.lit (.bool true))).value [] { args:=args,res:=some (.bool true),after:=args }=some (.bool (true==true)) from w_eq_bool (w_res rfl) w_lit) rfl
theorem attach_call {l:OpenLaw}{n:Nat}{q:K08}{loose:List Str}{XP:(Str->Option Value)->Heap->Prop}{YP:World->Heap->Prop}{d:DefRec}
 (hn:l.most=some n) (hdf:d.params.defaults=[])
 (call:∀(w:World) (s₀ s₁:Shared) (mg mb:Str->Option Value) (fa:Addr) (o:Obj) (pm cd doc:Value) (a:Addr) (vs:List Value) (ns:List Int),
  Ground q loose [] XP w s₀ mg mb s₁.heap->YP w s₁.heap ->
  s₁.heap.get? fa=some o->o.data=.func (docDef d.name d.params d.body d.scope pm cd doc)->s₁.heap.CodeRec cd d.name->mg d.name=.(r fa) ->
  s₁.heap.get? a=some { cls:=.type "list",data:=.seq vs.toArray }->K7w vs ns->ns.length<=n->s₁.gens = #[] ->
  K61 (model l.prog w) K8m (.call (.ref fa) ⟨[.ref a],[]⟩) (λr s'=>r=.ok (.ret (.bool true))/\OldK s₁.heap s'.heap/\s'.os=s₁.os/\K76 s'.gens) s₁) :
 WalkO q loose XP YP l.row.toRowW d [] (λf vs=>Z1r f vs):=by
 intro w s₀ s₁ mg mb G Y fa o pm cd doc dV kV ho hd hcd hD hmg hg args vals as hpre hlay hrd hwl hlo;obtain rfl:dV=.none:=Dflts.none hD hdf;obtain rfl:kV=.none:=Dflts.noKw hD;obtain⟨a,vs,ns,rfl,rfl,hobj,hints,hlen⟩:=z98 hn hpre hwl;refine enter_call (K54 (call w s₀ s₁ mg mb fa o pm cd doc a vs ns G Y ho (fd_plain hd) hcd hmg hobj hints hlen hg) λr s' hq=>?_);obtain⟨rfl,h2,h3,h4⟩:=hq;exact⟨.inl ⟨.bool true,.bool true,[],rfl,λ_=>rfl,.bool true,z8E l _,λ_=>⟨List.Pairwise.nil,λ_ hm=>(nomatch hm)⟩⟩,h2,h3,h4⟩
section
variable {prog:K08}{w:World}{A:Around}{E:Value->Shared->Prop}{s:Shared}{K:Frag}
end
end Att
namespace L2
theorem z3n:∀{vs:List Value}{ns:List Int},K7w vs ns->Vals (ns.map V.int) vs
 | _,_,.nil=>.nil
 | _,_,.cons n t h=>.cons ⟨t,rfl⟩ (z3n h)
def Only (H:Hp):Prop:=∀b,H b=none\/∃o xs,H b=some (.frz o (.lst xs))
theorem z9F {P:K08}{w:World}{K:K2}{mg mb:Str->Option Value}{CX:CXT}{k:Nat}{fa a:Addr}{fd:K2k}{x:Str}{sp:Sp}{s₁:Shared}{vs:List Value}{ns:List Int}
 (KX:K.In s₁.heap) (hns:s₁.heap.Ns K1q mg) (hb:s₁.heap.Ns builtinsNs mb) (hbb:∀x:Str,x≠"__name__"->mb x=K55 x) (hlim:s₁.heap.NoLimit) (hg:s₁.gens = #[])
 (ha:s₁.heap.get? a=some { cls:=.type "list",data:=.seq vs.toArray }) (hi:K7w vs ns) (hl:ns.length<=sizeLine) (hr:Room k K8m)
 (F:∀base:Heap,K.In base->base.Ns K1q mg->FnOk P w K mg base CX k fa fd [x] sp) (hbind:∀(s:Shared) (u:Value),K8n s fd ⟨[u],[]⟩ [(x,u)])
 (hsp:∀H:Hp,Only H->SqL K H a (ns.map V.int)->sp [.ref a] H (λv _=>v=.bl true) λ_ _ _=>False)
 (hCX:∀H e s',CX [] H s₁ (λ_ _ _=>False) e s'->False) :
 K61 (model P w) K8m (.call (.ref fa) ⟨[.ref a],[]⟩) (λr s'=>r=.ok (.ret (.bool true))/\OldK s₁.heap s'.heap/\s'.os=s₁.os/\K76 s'.gens) s₁:=by
 have rv:=z3n hi;have lenV:=hi.length;have core:∀H:Hp,Only H->SqL K H a (ns.map V.int)->HOk P w H s₁.heap->(∀b,H b≠none->b=a)->(H a≠none->K.lookup a=none) ->
  K61 (model P w) K8m (.call (.ref fa) ⟨[.ref a],[]⟩) (λr s'=>r=.ok (.ret (.bool true))/\OldK s₁.heap s'.heap/\s'.os=s₁.os/\K76 s'.gens) s₁:=by
  intro H hO hS hok hA hK;have base_of:∀{b:Addr} {o:Obj},s₁.heap.get? b=some o->H b=none->(hidT s₁.heap H).get? b=some o:=λe n=>z9Q e n;have noA:∀{b:Addr} {o:Obj} {es:Array DictEntry} {ep:Nat},s₁.heap.get? b=some o->o.data=.dict es ep->H b=none:=λ{b o es ep} e d=>by
   cases q:H b with
   | none=>rfl
   | some u =>
    have e':b=a:=hA b (by rw[q];simp);subst e';rw[ha]at e;cases e;have d':Data.seq vs.toArray _=Data.dict es ep:=d;cases d'
  have nsK:∀{b:Addr} {m:Str->Option Value},s₁.heap.Ns b m->(hidT s₁.heap H).Ns b m:=λ{b m} ⟨o,es,ep,e,d,r⟩=>⟨o,es,ep,base_of e (noA e d),d,r⟩;have hKb:K.In (hidT s₁.heap H):=λb o e=>base_of (KX b o e) (by
   cases q:H b with
   | none=>rfl
   | some u =>
    have e':b=a:=hA b (by rw[q];simp);subst e';rw[hK (by rw[q];simp)]at e;cases e)
  have hM:Mod K mg (hidT s₁.heap H):=⟨hKb,nsK hns,⟨mb,nsK hb,hbb⟩,let ⟨mc,h1,h2⟩:=hlim;⟨mc,nsK h1,h2⟩⟩;have e0:Env0 P w K mg (hidT s₁.heap H) K8m [] s₁ H:=⟨rfl,hM,λb o e=>zn0 e,K3y (z8N _ _),trivial,λb hb=>absurd (show b∈([]:List Addr) from hb) (by simp),hok,.of_eq hg⟩;refine K54 ((F _ hKb (nsK hns)).run K8m [] s₁ H ⟨[.ref a],[]⟩ [.ref a] [.ref a] _ _ hr e0 (hbind s₁ (.ref a)) (.cons rfl .nil) (hsp H hO hS)) λr s' h=>?_;cases r with
  | error e=>exact(hCX H e s' h).elim
  | ok fl =>
   cases fl with
   | next=>exact K27 h
   | brk=>exact K27 h
   | cont=>exact K27 h
   | ret u =>
    obtain⟨v,H',os,bare,un,hok',r',q⟩:=h;have q':v=.bl true:=q;subst q';obtain rfl:u=K78 true:=r';refine⟨rfl,OldK.of_keep λb o e=>?_,os,bare⟩;cases q:H b with
    | none=>exact un.keep b o e q (by intro z;exact absurd (show b∈([]:List Addr) from z) (by simp)) (by simp)
    | some u =>
     rcases hO b with z|⟨ob,xs,z⟩
     ·rw[q]at z;cases z
     ·have z2:=un.frzs b ob _ z;obtain⟨e1,_⟩:=hok b _ z;obtain⟨e2,_⟩:=hok' b _ z2;rw[e]at e1;cases e1;exact e2
 cases hk:K.lookup a with
 | some o =>
  have e:=KX a o hk;rw[ha]at e;cases e;refine core (λ_=>none) (λ_=>.inl rfl) (.inr ⟨_,vs.toArray,_,hk,rfl,rfl,rfl,by rw[K9,lenV];exact hl,by simpa using rv⟩) (λb u z=>by have z':(none:Option HO)=some u:=z;cases z') (λb z=>absurd rfl z) λz=>absurd rfl z
 | none =>
  refine core (λb=>if b=a then some (.frz { cls:=.type "list",data:=.seq vs.toArray } (.lst (ns.map V.int))) else none) (λb=>?_) (.inl (.inr ⟨{ cls:=.type "list",data:=.seq vs.toArray },if_pos rfl⟩)) (λb u z=>?_) (λb z=>?_) λ_=>hk
  ·by_cases hb:b=a
   ·exact .inr ⟨_,_,if_pos hb⟩
   ·exact .inl (if_neg hb)
  ·by_cases hb:b=a
   ·have z':=(if_pos hb).symm.trans z;cases z';subst hb;exact⟨ha,by rw[K6];exact hl,vs,_,rv,ha⟩
   ·have z':=(if_neg hb).symm.trans z;cases z'
  ·by_cases hb:b=a
   ·exact hb
   ·exact absurd (if_neg hb) z
abbrev KOf {K:K2} {h:Heap} (_:K.In h):K2:=K
theorem walk_of {l:Z1h}{n k:Nat}{q:K08}{loose:List Str}{XP:(Str->Option Value)->Heap->Prop}{YP:World->Heap->Prop}{d:DefRec}{K:Params->K2}{CX:World->CXT}{sp:World->Sp}{x:Str}
 (hn:l.most=some n) (hn2:n<=sizeLine) (hdf:d.params.defaults=[]) (hr:Room k K8m)
 (hY:∀(w:World) (h:Heap),YP w h->(K w.params).In h)
 (F:∀(w:World) (mg:Str->Option Value) (fa:Addr) (h:Heap),(K w.params).In h->h.Ns K1q mg->mg d.name=.(r fa) ->
  ∃fd:K2k,(∀(s:Shared) (u:Value),K8n s fd ⟨[u],[]⟩ [(x,u)]) /\
   ∀base:Heap,(K w.params).In base->base.Ns K1q mg->FnOk l.prog w (K w.params) mg base (CX w) k fa fd [x] (sp w))
 (hsp:∀(w:World) (H:Hp) (a:Addr) (ns:List Int),ns.length<=n->Only H->SqL (K w.params) H a (ns.map V.int)->sp w [.ref a] H (λv _=>v=.bl true) λ_ _ _=>False)
 (hCX:∀(w:World) (H:Hp) (s:Shared) (e:Value) (s':Shared),CX w [] H s (λ_ _ _=>False) e s'->False) :
 Z1v q loose XP YP l.row.toRowW d [] (λf vs=>Z1r f vs):=by
 refine Att.attach_call hn hdf λw s₀ s₁ mg mb fa o pm cd doc a vs ns G Y ho hd hcd hmg hobj hints hlen hg=>?_;have KX:=hY w _ Y;obtain⟨fd,hb,hF⟩:=F w mg fa _ KX G.T.g hmg;exact z9F KX G.T.g G.T.b G.T.builtins G.T.nolimit hg hobj hints (K0l hlen hn2) hr hF hb (λH hO hS=>hsp w H a ns hlen hO hS) λH e s'=>hCX w H s₁ e s'
def z12 (s:Stmt):Arguments:=match s with
 | .FunctionDef _ a _ _ _ _ _ _ _ _=>a
 | _=>{ posonlyargs:=[],args:=[],vararg:=none,kwonlyargs:=[],kw_defaults:=[],kwarg:=none,defaults:=[] }
def v7 (s:Stmt):List Stmt:=match s with
 | .FunctionDef _ _ b _ _ _ _ _ _ _=>b
 | _=>[]
def j8 (s:Stmt):Scope:=match s with
 | .FunctionDef _ _ _ _ _ _ sc _ _ _=>sc
 | _=>{ kind:=.function,names:=[],isGenerator:=false,isCoroutine:=false }
abbrev CX0:CXT:=λ_ _ _ _ _ _=>False
abbrev E0:XK:=λ_ _ _=>False
theorem zH2 {X:Cx}:z5o CX0 X E0:=λ_ _ _ _ _ _ _ h=>h.elim
structure Fun (K:K2) (x qual:Str) (st:Stmt) (f:Addr) (fd:K2k):Prop where
 ex:∃(oc:Value) (od:Option Addr) (kV doc pm:Value) (an:Option Addr) (cdv ct:Value) (osl:Array (Option Value)),
  fd=K2l x qual (z12 st) (v7 st) (j8 st) .none kV doc pm an cdv ct/\K.lookup f=some ⟨oc,od,.func fd,osl⟩/\K2v K cdv qual=true
 kp:K1z K (.ref f)=true
section
variable {P:K08}{w:World}{K:K2}{mg:Str->Option Value}{base:Heap}
theorem Fun.ok {x qual:Str}{st:Stmt}{f:Addr}{fd:K2k}{N ps:List Str}{k:Nat}{sp:Sp}(F:Fun K x qual st f fd) (S:FnScope N ps (j8 st)) (len:∀vs H Q E,sp vs H Q E->vs.length=ps.length)
 (hbody:∀(cdv:Value) (A:Around) (outer:List Env) (s:Shared) (H:Hp) (vs:List V) (Q:VK) (E:XK),Room k (A.deeper (envOfC qual (j8 st) s.heap.objs.size f cdv))->sp vs H Q E ->
  ∃t,PSs (cxOf CX0 P w K mg base N qual (j8 st) f cdv A outer s H E).nox (v7 st) t/\t { nx:=λ_ H'=>Q .non H',rt:=Q } (start N vs) H):FnOk P w K mg base CX0 (k+1) f fd ps sp:=by
 obtain⟨oc,od,kV,doc,pm,an,cdv,ct,osl,rfl,lk,hcd⟩:=F.ex;refine zv6 lk hcd S len λA outer s H vs Q E hr hsp=>?_;obtain⟨t,h,q⟩:=hbody cdv A outer s H vs Q E hr hsp;exact⟨t,h.nox,q⟩
theorem Fun.binds {x qual:Str}{st:Stmt}{f:Addr}{fd:K2k}{ps:List Str}(F:Fun K x qual st f fd)
 (h:∀(kV doc pm:Value) (an:Option Addr) (cdv ct:Value) (us:List Value),us.length=ps.length->bindArgs (K2l x qual (z12 st) (v7 st) (j8 st) .none kV doc pm an cdv ct) ⟨us,[]⟩=pure (ps.zip us)):Binds K fd ps []:=by
 obtain⟨oc,od,kV,doc,pm,an,cdv,ct,osl,rfl,lk,hcd⟩:=F.ex;exact .all (h kV doc pm an cdv ct)
theorem zF7 {x qual:Str}{st:Stmt}{f:Addr}{oc:Value}{od an:Option Addr}{osl:Array (Option Value)}{kV doc pm cdv ct:Value}(l:K.lookup f=some ⟨oc,od,.func (K2l x qual (z12 st) (v7 st) (j8 st) .none kV doc pm an cdv ct),osl⟩)
 (c:K2v K cdv qual=true) (k:K1z K (.ref f)=true):Fun K x qual st f (K2l x qual (z12 st) (v7 st) (j8 st) .none kV doc pm an cdv ct):=⟨⟨oc,od,kV,doc,pm,an,cdv,ct,osl,rfl,l,c⟩,k⟩
end
theorem z5A {A:Around}{k:Nat}(hr:Room k A):A.units+1<cLine:=K7e (K70 (by decide:1<=64) _) hr.units
section
variable {X:Cx}
end
def Same (H H':Hp):Prop:=∀b o,H b=some o->H' b=some o
theorem Same.refl (H:Hp):Same H H:=λ_ _ h=>h
theorem Same.trans {H H1 H2:Hp}(a:Same H H1) (b:Same H1 H2):Same H H2:=λc o h=>b c o (a c o h)
theorem Same.free {H H':Hp}(e:Same H H') {l:Addr}(h:H' l=Option.none):H l=Option.none:=by
 cases q:H l with
 | none=>rfl
 | some o =>
  rw[e l o q]at h;cases h
theorem Same.seq {K:K2}{H H':Hp}{a:Addr}{xs:List V}(e:Same H H') (h:SqL K H a xs):SqL K H' a xs:=by
 rcases h with (h|⟨o,h⟩)|h
 ·exact .inl (.inl (e _ _ h))
 ·exact .inl (.inr ⟨o,e _ _ h⟩)
 ·exact .inr h
section
variable {κ:Type} [DecidableEq κ]
def valV (kvs:List (κ×V)) (k:κ):Option V:=(kvs.find? λkv=>decide (kv.1=k)).map (·.2)
def putK (kvs:List (κ×V)) (k:κ) (v:V):List (κ×V) :=
 if (kvs.any λkv=>decide (kv.1=k))=true then kvs.map (λkv=>if kv.1=k then (kv.1,v) else kv) else kvs++[(k,v)]
def zE3 (kvs:List (κ×V)) (k:κ):List (κ×V):=kvs.filter λkv=>decide (kv.1≠k)
theorem z36 {p:κ×V}{r:List (κ×V)}{k:κ}(e:p.1=k):valV (p::r) k=some p.2:=by simp[valV,K3e,e]
theorem z3d {p:κ×V}{r:List (κ×V)}{k:κ}(e:¬ p.1=k):valV (p::r) k=valV r k:=by simp[valV,K3e,e]
theorem z76 (k:κ):∀kvs:List (κ×V),(kvs.any λkv=>decide (kv.1=k))=(valV kvs k).isSome
 | []=>rfl
 | p::r=>by
  rw[K2t];by_cases e:p.1=k
  ·simp only[z36 e,decide_eq_true e,Z0k,Option.isSome_some]
  ·rw[z3d e,decide_eq_false e,Bool.false_or];exact z76 k r
theorem z3o (kvs:List (κ×V)) (k:κ) (v:V):(putK kvs k v).length<=kvs.length+1:=by
 unfold putK;split
 ·rw[K6];omega
 ·rw[K06,K07,K0c];omega
theorem RelO.isSome_eq {o:Option V}{u:Option Value}(r:RelO o u):o.isSome=u.isSome:=by
 cases o with
 | none=>cases u with
  | none=>rfl
  | some _=>exact(show False from r).elim
 | some _=>cases u with
  | none=>exact(show False from r).elim
  | some _=>rfl
theorem RelO.getD {o:Option V}{u:Option Value}{d:V}{d':Value}(r:RelO o u) (rd:RelV d d'):RelV (o.getD d) (u.getD d'):=by
 cases o with
 | none=>cases u with
  | none=>exact rd
  | some _=>exact(show False from r).elim
 | some _=>cases u with
  | none=>exact(show False from r).elim
  | some _=>exact r
theorem KV.val {kvs:List (κ×V)}{vs:List (κ×Value)}(r:KV kvs vs) (k:κ):RelO (valV kvs k) (K9p vs k):=by
 unfold KV at r;induction r with
 | nil=>exact K4y
 | @cons p q ps qs h t ih =>
  obtain⟨h1,h2⟩:=h;by_cases e:p.1=k
  ·have e':q.1=k:=h1.symm.trans e;have b:K9p (q::qs) k=some q.2:=by simp[K9p,K3e,e']
   rw[z36 e,b];exact h2
  ·have e':¬ q.1=k:=λz=>e (h1.trans z);have b:K9p (q::qs) k=K9p qs k:=by simp[K9p,K3e,e']
   rw[z3d e,b];exact ih
theorem KV.any {kvs:List (κ×V)}{vs:List (κ×Value)}(r:KV kvs vs) (k:κ):(kvs.any λkv=>decide (kv.1=k))=vs.any λkv=>decide (kv.1=k):=by
 unfold KV at r;induction r with
 | nil=>rfl
 | cons h t ih=>rw[K2t,K2t,ih,h.1]
theorem KV.repl {kvs:List (κ×V)}{vs:List (κ×Value)}(r:KV kvs vs) (k:κ) {y:V}{u:Value}(ry:RelV y u) :
 KV (kvs.map λkv=>if kv.1=k then (kv.1,y) else kv) (vs.map λkv=>if kv.1=k then (kv.1,u) else kv):=by
 unfold KV at r ⊢;induction r with
 | nil=>exact .nil
 | @cons p q ps qs h t ih =>
  rw[K0f,K0f];refine .cons ?_ ih;obtain⟨h1,h2⟩:=h;by_cases e:p.1=k
  ·rw[if_pos e,if_pos (h1.symm.trans e)];exact⟨h1,ry⟩
  ·rw[if_neg e,if_neg (λz=>e (h1.trans z))];exact⟨h1,h2⟩
theorem KV.put {kvs:List (κ×V)}{vs:List (κ×Value)}(r:KV kvs vs) (k:κ) {y:V}{u:Value}(ry:RelV y u):KV (putK kvs k y) (stored vs k u):=by
 unfold putK stored;rw[r.any k];by_cases e:(vs.any λkv=>decide (kv.1=k))=true
 ·rw[if_pos e,if_pos e];exact r.repl k ry
 ·rw[if_neg e,if_neg e];exact Paired.snoc r ⟨rfl,ry⟩
theorem KV.drop {kvs:List (κ×V)}{vs:List (κ×Value)}(r:KV kvs vs) (k:κ):KV (zE3 kvs k) (without vs k):=by
 unfold KV at r ⊢;unfold zE3 without;induction r with
 | nil=>exact .nil
 | @cons p q ps qs h t ih =>
  obtain⟨h1,h2⟩:=h;rw[K6k,K6k];by_cases e:p.1=k
  ·have a:¬ decide (p.1≠k)=true:=by simp[e]
   have b:¬ decide (q.1≠k)=true:=by simp[h1.symm.trans e]
   rw[if_neg a,if_neg b];exact ih
  ·have e':¬ q.1=k:=λz=>e (h1.trans z);have a:decide (p.1≠k)=true:=by simp[e]
   have b:decide (q.1≠k)=true:=by simp[e']
   rw[if_pos a,if_pos b];exact .cons ⟨h1,h2⟩ ih
theorem KV.keys {kvs:List (κ×V)}{vs:List (κ×Value)}(r:KV kvs vs):kvs.map (·.1)=vs.map (·.1):=by
 unfold KV at r;induction r with
 | nil=>rfl
 | cons h t ih=>rw[K0f,K0f,ih,h.1]
theorem KV.length {kvs:List (κ×V)}{vs:List (κ×Value)}(r:KV kvs vs):kvs.length=vs.length:=K45 r
end
theorem zd9 {P:K08}{w:World}{k:Key}{u:Value}(r:RelV (kV k) u):(v9 P w).is k u=true:=by
 cases k with
 | inl i=>obtain⟨t,e⟩:=(show ∃t,u=K9m i t from r);subst e;exact z5P P w i t
 | inr x=>obtain⟨t,e⟩:=(show ∃t,u=Z0w x t from r);subst e;exact z5K P w x t
theorem z4L {P:K08}{w:World}:∀{ks:List Key}{us:List Value},Vals (ks.map kV) us->ItemsAre (v9 P w) ks us
 | [],_,r=>by rw[K52]at r;cases r;exact .nil
 | k::ks,_,r=>by
  rw[K0f]at r;cases r with
  | cons h t=>exact .cons (zd9 h) (z4L t)
abbrev KT (H:Hp):List (List Key×V)->List (List Key×Addr×Value)->Prop:=Paired λp q=>p.1=q.1/\H q.2.1=.(g (p.1.map kV))/\RelV p.2 q.2.2
theorem KT.val {H:Hp}{kvs:List (List Key×V)}{xs:List (List Key×Addr×Value)}(r:KT H kvs xs) (k:List Key):RelO (valV kvs k) ((atKey xs k).map (·.2)):=by
 induction r with
 | nil=>exact K4y
 | @cons p q ps qs h t ih =>
  obtain⟨h1,_,h2⟩:=h;by_cases e:p.1=k
  ·have e':q.1=k:=h1.symm.trans e;have b:atKey (q::qs) k=some q.2:=by simp[atKey,K3e,e']
   rw[z36 e,b];exact h2
  ·have e':¬ q.1=k:=λz=>e (h1.trans z);have b:atKey (q::qs) k=atKey qs k:=by simp[atKey,K3e,e']
   rw[z3d e,b];exact ih
theorem KT.repl {H:Hp}{kvs:List (List Key×V)}{xs:List (List Key×Addr×Value)}(r:KT H kvs xs) (k:List Key) {y:V}{u:Value}(ry:RelV y u) :
 KT H (kvs.map λkv=>if kv.1=k then (kv.1,y) else kv) (xs.map (putAt k u)):=by
 induction r with
 | nil=>exact .nil
 | @cons p q ps qs h t ih =>
  rw[K0f,K0f];refine .cons ?_ ih;obtain⟨h1,h2,h3⟩:=h;unfold putAt;by_cases e:p.1=k
  ·rw[if_pos e,if_pos (h1.symm.trans e)];exact⟨h1,h2,ry⟩
  ·rw[if_neg e,if_neg (λz=>e (h1.trans z))];exact⟨h1,h2,h3⟩
theorem KT.put {H:Hp}{kvs:List (List Key×V)}{xs:List (List Key×Addr×Value)}(r:KT H kvs xs) (k:List Key) {b:Addr}{y:V}{u:Value}(hb:H b=.(g (k.map kV))) (ry:RelV y u) :
 KT H (putK kvs k y) (storedH xs k b u):=by
 have e:(kvs.any λkv=>decide (kv.1=k))=(atKey xs k).isSome:=by
  rw[z76,(r.val k).isSome_eq,Z0p]
 unfold putK storedH;rw[e];by_cases q:(atKey xs k).isSome=true
 ·rw[if_pos q,if_pos q];exact r.repl k ry
 ·rw[if_neg q,if_neg q];exact Paired.snoc r ⟨rfl,hb,ry⟩
theorem KT.keeps {H H':Hp}{kvs:List (List Key×V)}{xs:List (List Key×Addr×Value)}(r:KT H kvs xs) (ht:∀b ys,H b=.(g ys)->H' b=.(g ys)):KT H' kvs xs :=
 Paired.mapP r λ_ _ z=>⟨z.1,ht _ _ z.2.1,z.2.2⟩
section
variable {P:K08}{w:World}{H:Hp}{h:Heap}{a:Addr}
theorem zK8 {u:HO}(ok:HOk P w H h) (e:Rd H a u):ObjOk P w H h a u:=e.ok ok
theorem zf0 {kvs:List (Key×V)}(ok:HOk P w H h) (e:Rd H a (.dK kvs)):kvs.length<=sizeLine/\(a==K48)=false/\∃vs,KV kvs vs/\h.DictOf (v9 P w) a vs :=
 show ObjOk P w H h a (.dK kvs) from zK8 ok e
theorem zN9 {kvs:List (Key×V)}(ok:HOk P w H h) (e:H a=some (.dK kvs)):kvs.length<=sizeLine/\(a==K48)=false/\∃vs,KV kvs vs/\h.DictOf (v9 P w) a vs:=zf0 ok (.inl e)
theorem z9D {ks:List Key}(ok:HOk P w H h) (e:H a=.(g (ks.map kV))):(Z12 (v9 P w)).is h ks a:=by
 obtain⟨_,its,r,o,h1,h2,n,h3⟩:=(show ObjOk P w H h a (.tup (ks.map kV)) from ok a _ e);exact⟨o,its.toArray,n,h1,h2.1,h3,by simpa using z4L r⟩
theorem zs7 {kvs:List (List Key×V)}(ok:HOk P w H h) (e:Rd H a (.dT kvs)):kvs.length<=sizeLine/\(a==K48)=false /\
 ∃xs,KT H kvs xs/\h.DictOfH (Z12 (v9 P w)) a xs:=by
 obtain⟨z,y,xs,r,o,es,ep,h1,h2,h3,h4,h5⟩:=(show ObjOk P w H h a (.dT kvs) from zK8 ok e);refine⟨z,y,xs,r,o,es,ep,h1,h2,h3,h4,λx hx=>?_,h5⟩;have all:∀{l:List (List Key×V)} {m:List (List Key×Addr×Value)},KT H l m->∀x∈m,(Z12 (v9 P w)).is h x.1 x.2.1:=by
  intro l m q;induction q with
  | nil=>intro x hx;exact nomatch hx
  | @cons p q ps qs hq t ih =>
   intro x hx;rcases K0a.mp hx with e|hx
   ·subst e;exact z9D ok (by rw[<- hq.1];exact hq.2.1)
   ·exact ih x hx
 exact all r x hx
end
def DGet (H:Hp) (a:Addr) (y:V) (r:Option V):Prop :=
 (∃kvs k,Rd H a (.dK kvs)/\y=kV k/\r=valV kvs k)\/∃kvs k b,Rd H a (.dT kvs)/\y=.ref b/\H b=.(g (k.map kV))/\r=valV kvs k
def DPut (H:Hp) (a:Addr) (y v:V) (H':Hp):Prop :=
 (∃kvs k,H a=some (.dK kvs)/\y=kV k/\kvs.length<sizeLine/\H'=upd H a (.dK (putK kvs k v))) \/
 ∃kvs k b,H a=some (.dT kvs)/\y=.ref b/\H b=.(g (k.map kV))/\kvs.length<sizeLine/\H'=upd H a (.dT (putK kvs k v))
theorem DGet.k {H:Hp}{a:Addr}{kvs:List (Key×V)}{k:Key}(e:H a=some (.dK kvs)):DGet H a (kV k) (valV kvs k):=.inl ⟨kvs,k,.inl e,rfl,rfl⟩
theorem DGet.t {H:Hp}{a b:Addr}{kvs:List (List Key×V)}{k:List Key}(e:H a=some (.dT kvs)) (eb:H b=.(g (k.map kV))):DGet H a (.ref b) (valV kvs k):=.inr ⟨kvs,k,b,.inl e,rfl,eb,rfl⟩
theorem DPut.k {H:Hp}{a:Addr}{kvs:List (Key×V)}{k:Key}{v:V}(e:H a=some (.dK kvs)) (hl:kvs.length<sizeLine):DPut H a (kV k) v (upd H a (.dK (putK kvs k v))):=.inl ⟨kvs,k,e,rfl,hl,rfl⟩
theorem DPut.t {H:Hp}{a b:Addr}{kvs:List (List Key×V)}{k:List Key}{v:V}(e:H a=some (.dT kvs)) (eb:H b=.(g (k.map kV))) (hl:kvs.length<sizeLine) :
 DPut H a (.ref b) v (upd H a (.dT (putK kvs k v))):=.inr ⟨kvs,k,b,e,rfl,eb,hl,rfl⟩
section
variable {X:Cx}{pins:List (Addr×Obj)}{σ:St}{H:Hp}{s:Shared}{a:Addr}{y v:V}{u r:Value}{o:Option V}{A:Around}{E:Value->Shared->Prop}
theorem Inv.big (I:Inv X pins σ H s):K48<s.heap.objs.size:=by
 have h:K1q<s.heap.objs.size:=(I.mod.glob.keeps I.bk).lt;exact K5y (by decide) h
theorem z9n {Q:Value->Shared->Prop}(hu:A.units+1<cLine) (I:Inv X pins σ H s) (g:DGet H a y (some v)) (ry:RelV y u) (h:∀w' s',Inv X pins σ H s'->RelV v w'->Q w' s') :
 wpAny (model X.prog X.w) A (K5i (.ref a) u) Q E s:=by
 rcases g with ⟨kvs,k,e,ey,l⟩|⟨kvs,k,b,e,ey,eb,l⟩
 ·subst ey;obtain⟨z,hd,vs,rel,dd⟩:=zf0 I.hok e;obtain⟨w',hw,rw'⟩:=RelO.some_of (v:=v) (o:=K9p vs k) (by rw[l];exact rel.val k);exact wpAny_getItem_of (zd9 ry) dd.mapOf hw (h w' _ (I.tok _) rw')
 ·subst ey;cases (show u=K2e b from ry);obtain⟨z,hd,xs,rel,dd⟩:=zs7 I.hok e;obtain⟨w',hw,rw'⟩:=RelO.some_of (v:=v) (o:=(atKey xs k).map (·.2)) (by rw[l];exact rel.val k);obtain⟨p,hp,hp2⟩:=K09.mp hw;refine wpAny_getItem_heap (tupleKind_room_in1 hu) (z9D I.hok eb) dd hp ?_;rw[hp2];exact h w' _ (I.tok _) rw'
theorem d_in {Q:Value->Shared->Prop}(hu:A.units+1<cLine) (I:Inv X pins σ H s) (g:DGet H a y o) (ry:RelV y u) (h:∀s',Inv X pins σ H s'->Q (.bool o.isSome) s') :
 wpAny (model X.prog X.w) A (K22 .In u (.ref a)) Q E s:=by
 rcases g with ⟨kvs,k,e,ey,l⟩|⟨kvs,k,b,e,ey,eb,l⟩
 ·subst ey;obtain⟨z,hd,vs,rel,dd⟩:=zf0 I.hok e;refine wpAny_in_of (zd9 ry) hd dd.mapOf ?_;rw[<- (rel.val k).isSome_eq,<- l];exact h _ (I.tok _)
 ·subst ey;cases (show u=K2e b from ry);obtain⟨z,hd,xs,rel,dd⟩:=zs7 I.hok e;refine wpAny_in_heap (tupleKind_room_in1 hu) (z9D I.hok eb) hd dd ?_;have q:=(rel.val k).isSome_eq;rw[Z0p]at q;rw[<- q,<- l];exact h _ (I.tok _)
theorem zn9 {h':Heap}{t':Nat}{ob:HO}(I:Inv X pins σ H s) (mu:Mut (H a)) (hs:K3h a s.heap h') (he:∃q,h'.get? a=some q) (new:ObjOk X.prog X.w (upd H a ob) h' a ob) :
 Inv X pins σ (upd H a ob) { s with heap:=h',toks:=t' } :=
 I.write (x:=a) (e:=a) mu (.inl rfl) (λb q hb z=>(hs.2 b hb).trans z) he new
theorem zf8 {P:K08}{w:World}{H':Hp}{h':Heap}{kvs:List (Key×V)}{vs:List (Key×Value)}(z:kvs.length<=sizeLine) (hd:(a==K48)=false) (rel:KV kvs vs) (dd:h'.DictOf (v9 P w) a vs) :
 ObjOk P w H' h' a (.dK kvs):=⟨z,hd,vs,rel,dd⟩
end
section
variable {X:Cx}{pins:List (Addr×Obj)}{σ:St}{H:Hp}{s:Shared}{a:Addr}{kvs:List (Key×V)}{k:Key}{u:Value}{A:Around}{E:Value->Shared->Prop}
end
def NoSl (i:Expr):Prop:=∀ov iv,K9e i false ov iv=operate [ov,iv] (K5i ov iv)
theorem zl2 {prog:K08}{w:World}{A:Around}{E:Value->Shared->Prop}{s:Shared}{env:Env}{value slice:Expr}{pos:Pos}{T id:String}{Q:Value->Shared->Prop}
 (hl:K8o (.type T) "__getitem__" = pure (some (.builtin id))) (hs:NoSl slice)
 (h:wpAny (model prog w) A (eval value env) (λo s₁=>wpAny (model prog w) A (eval slice env) (λi s₂=>s₂.TypeIs o T/\wpAny (model prog w) A (K5i o i) Q E s₂) E s₁) E s) :
 wpAny (model prog w) A (eval (.Subscript value slice pos) env) Q E s:=by
 refine Z08 (K37 h (λo s₁ h₁=>K37 h₁ (λi s₂ h₂=>?_) λ_ _ x=>x) λ_ _ x=>x);obtain⟨hT,h₂⟩:=h₂;unfold K83;refine K0 ?_;rw[getitemInPython_of_ne hT.not_modules];refine K0 (K6x hT hl ?_);have fin:wpAny (model prog w) A (K9e slice false o i) (λr s₃=>wpAny (model prog w) A (letTemporaryGo value o r >>= λ_=>pure r) Q E s₃) E s₂:=by
  rw[hs o i];exact wpAny_operating (K37 h₂ (λr s₃ h₃=>K0 (wpAny_letTemporaryGo (K5 h₃))) λ_ _ x=>x)
 first
  | exact K5 (K0 fin)
  | exact K0 (K5 (K0 fin))
  | exact K0 fin
theorem z62 {X:Cx}{pins:List (Addr×Obj)}{σ:St}{H:Hp}{s:Shared}{a:Addr}{y:V}{o:Option V}(I:Inv X pins σ H s) (g:DGet H a y o):s.TypeIs (.ref a) "dict":=by
 rcases g with ⟨kvs,k,e,_,_⟩|⟨kvs,k,b,e,_,_,_⟩
 ·obtain⟨_,_,vs,_,dd⟩:=zf0 I.hok e;exact dd.typeIs
 ·obtain⟨_,_,xs,_,dd⟩:=zs7 I.hok e;exact dd.typeIs
def zR1 (td ty:TE):TE:=λσ H Q=>td σ H λx H1=>ty σ H1 λy H2=>∃a v,x=.ref a/\DGet H2 a y (some v)/\Q v H2
section
variable {X:Cx}{o i e value:Expr}{pos pos' tpos:Pos}{td ty tv:TE}
theorem zp7 (hu:X.A.units+1<cLine) (ho:PE X o td) (hi:PE X i ty) (hs:NoSl i):PE X (.Subscript o i pos) (zR1 td ty):=by
 intro pins s σ H Q I h;refine zl2 PySem.F.slot_dict_getitem.lookup hs (thn (ho pins s σ H _ I h) λu s1 ⟨x,H1,I1,rx,q1⟩=>thn (hi pins s1 σ H1 _ I1 q1) λiv s2 ⟨y,H2,I2,ry,a,v,ex,g,q2⟩=>?_);subst ex;obtain rfl:u=K2e a:=rx;exact⟨z62 I2 g,z9n hu I2 g ry λw' s3 I3 rw'=>⟨v,H2,I3,rw',q2⟩⟩
end
theorem zc0 {P:K08}{w:World}{H:Hp}(h:Heap) (hb:K48<h.objs.size):ObjOk P w H (h.push { cls:=.type "dict",data:=.dict #[] }) h.objs.size (.dK []) :=
 ⟨K3a _,beq_eq_false_iff_ne.mpr (K5h (K0e hb)),[],.nil,Z1g h⟩
section
variable {X:Cx}{pos:Pos}
end
structure M1 (X:Cx) (o:Expr) (m:Str) (apos:Pos) (e:Expr) (cpos:Pos):Prop where
 base:K49 o m X.env (eval o X.env)=eval o X.env
 few:((backTo cpos (K05 [e] X.env)).all (λx=>!x.1)&&(K3r cpos (K2b [] X.env)).all (λx=>x.1.isSome)
 &&decide (([e]:List Expr).length+([]:List K3d).length+(if ([]:List K3d).isEmpty then 0 else 1)<30))=true
 line:(apos.endLine==cpos.line)=true
 trees:backTo cpos (K05 [e] X.env)=[(false,eval e X.env)]
structure M2 (X:Cx) (o:Expr) (m:Str) (apos:Pos) (e f:Expr) (cpos:Pos):Prop where
 base:K49 o m X.env (eval o X.env)=eval o X.env
 few:((backTo cpos (K05 [e,f] X.env)).all (λx=>!x.1)&&(K3r cpos (K2b [] X.env)).all (λx=>x.1.isSome)
 &&decide (([e,f]:List Expr).length+([]:List K3d).length+(if ([]:List K3d).isEmpty then 0 else 1)<30))=true
 line:(apos.endLine==cpos.line)=true
 trees:backTo cpos (K05 [e,f] X.env)=[(false,eval e X.env),(false,eval f X.env)]
section
variable {X:Cx}{pins:List (Addr×Obj)}{σ:St}{H:Hp}{s:Shared}{a:Addr}{y d:V}{u r:Value}{o:Option V}{A:Around}{E:Value->Shared->Prop}
end
section
variable {X:Cx}{o e f:Expr}{apos cpos:Pos}{td ty tx:TE}
end
abbrev z70 (ifs:List Expr) (env:Env):Sem Bool :=
 forIn ifs true λc r=>if r=true then do { let ok <- isTrue c env (eval c env);pure (K4j ok) } else pure (K4j r)
def z0j (env:Env):List (Str×K5w)->List (Str×Addr)->List (Str×Addr)
 | [],acc=>acc
 | (n,k)::r,acc=>z0j env r (if k==.free then match env.cells.lookup n with|some c=>(n,c)::acc|none=>acc else acc)
theorem z2N {env:Env}:∀(names:List (Str×K5w)) (acc:List (Str×Addr)),(∀x∈names,x.2=.free->∃c,env.cells.lookup x.1=some c) ->
 (forIn names acc λ(x:Str×K5w) (r:List (Str×Addr))=>(if (x.2==K4o)=true then do { let c <- cellOf env x.1;pure (K4j ((x.1,c)::r)) } else pure (K4j r):Sem (ForInStep (List (Str×Addr)))))=(pure (z0j env names acc):Sem _)
 | [],acc,_=>by rw[K5z];rfl
 | (n,k)::r,acc,h=>by
  rw[K5g];have hr:∀x∈r,x.2=.free->∃c,env.cells.lookup x.1=some c:=λx hx=>h x (K0j _ hx);by_cases hk:k=.free
  ·subst hk;obtain⟨c,hc⟩:=h (n,.free) K0t rfl;have hc':env.cells.lookup n=some c:=hc;simp only[z0j,beq_self_eq_true,if_true,cellOf,hc',pure_bind];exact z2N r _ hr
  ·have hb:(k==K4o)=false:=by simpa using hk
   simp only[z0j,hb,K29,if_false,pure_bind];exact z2N r _ hr
theorem z2G {scope:Scope}{env:Env}(h:∀x∈scope.names,x.2=.free->∃c,env.cells.lookup x.1=some c) :
 closureFor scope env=pure (z0j env scope.names []):=by
 unfold closureFor;exact congrArg (λm:Sem (List (Str×Addr))=>m >>= λz=>pure z) (z2N scope.names [] h)
theorem z72 {env:Env}:∀(names:List (Str×K5w)) (acc:List (Str×Addr)) {x:Str}{c:Addr},(z0j env names acc).lookup x=some c ->
 env.cells.lookup x=some c\/acc.lookup x=some c
 | [],acc,x,c,h=>.inr h
 | (n,k)::r,acc,x,c,h=>by
  rcases z72 r _ h with q|q
  ·exact .inl q
  ·by_cases hk:(k==K4o)=true
   ·rw[if_pos hk]at q;cases e:env.cells.lookup n with
    | none=>rw[e]at q;exact .inr q
    | some c' =>
     rw[e]at q;simp only[K1u]at q;cases hx:x==n with
     | true =>
      rw[hx]at q;cases q;have:x=n:=by simpa using hx
      subst this;exact .inl e
     | false=>rw[hx]at q;exact .inr q
   ·rw[if_neg hk]at q;exact .inr q
theorem z6z {env:Env}{x:Str}{c:Addr}(hc:env.cells.lookup x=some c):∀(names:List (Str×K5w)) (acc:List (Str×Addr)),
 acc.lookup x=some c->(z0j env names acc).lookup x=some c
 | [],acc,h=>h
 | (n,k)::r,acc,h=>by
  refine z6z hc r _ ?_;by_cases hk:(k==K4o)=true
  ·rw[if_pos hk];cases e:env.cells.lookup n with
   | none=>exact h
   | some c' =>
    simp only[K1u];cases hx:x==n with
    | true =>
     have:x=n:=by simpa using hx
     subst this;rw[hc]at e;exact e.symm
    | false=>exact h
  ·rw[if_neg hk];exact h
theorem z5Z {env:Env}{x:Str}{c:Addr}(hc:env.cells.lookup x=some c):∀(names:List (Str×K5w)) (acc:List (Str×Addr)),
 (x,K4o)∈names->(z0j env names acc).lookup x=some c
 | [],_,h=>absurd h (by simp)
 | (n,k)::r,acc,h=>by
  rcases K0a.mp h with e|h
  ·cases e;refine z6z hc r _ ?_;rw[if_pos (by simp),hc];simp[K1u]
  ·exact z5Z hc r _ h
theorem z2j {sc:Scope}{env:Env}{x:Str}{k:NameKind}(h:(relabel sc env).names.lookup x=some k) :
 ∃k0,sc.names.lookup x=some k0/\(k=k0\/(k=.cell/\k0=.free)):=by
 unfold relabel at h;dsimp only at h;generalize sc.names=ns at h ⊢;induction ns with
 | nil=>simp at h
 | cons a r ih =>
  obtain⟨n,k1⟩:=a;simp only[K0f]at h;by_cases hc:(k1==K4o&&env.scope.kind==.function&&env.kindOf n==some .cell)=true
  ·rw[if_pos hc]at h;simp only[K1u]at h ⊢;cases hx:x==n with
   | true =>
    rw[hx]at h;cases h;refine⟨k1,rfl,.inr ⟨rfl,?_⟩⟩;simp only[K0h]at hc;simpa using hc.1.1
   | false=>rw[hx]at h;exact ih h
  ·rw[if_neg hc]at h;simp only[K1u]at h ⊢;cases hx:x==n with
   | true=>rw[hx]at h;cases h;exact⟨_,rfl,.inl rfl⟩
   | false=>rw[hx]at h;exact ih h
theorem z5g {sc:Scope}{env:Env}{x:Str}(h:sc.names.lookup x=some .free) :
 (relabel sc env).names.lookup x=some .cell\/(relabel sc env).names.lookup x=some .free:=by
 unfold relabel;dsimp only;generalize sc.names=ns at h ⊢;induction ns with
 | nil=>simp at h
 | cons a r ih =>
  obtain⟨n,k1⟩:=a;simp only[K0f];simp only[K1u]at h;by_cases hc:(k1==K4o&&env.scope.kind==.function&&env.kindOf n==some .cell)=true
  ·rw[if_pos hc];simp only[K1u];cases hx:x==n with
   | true=>exact .inl rfl
   | false=>rw[hx]at h;exact ih h
  ·rw[if_neg hc];simp only[K1u];cases hx:x==n with
   | true=>rw[hx]at h;exact .inr h
   | false=>rw[hx]at h;exact ih h
structure CS (X:Cx) (sc:Scope) (N':List Str) (cap:List (Option Nat)):Prop where
 kind:sc.kind=.function
 nocell:∀y∈sc.names,y.2≠.cell
 loc:∀x∈sc.names,x.2=.local->sc.names.lookup x.1=some .local
 fr:∀x∈sc.names,x.2=.free->X.env.kindOf x.1=some .cell\/X.env.kindOf x.1=some .free
 len:cap.length=N'.length
 capt:∀(i j:Nat),cap[i]?=some (some j)->∃x,N'[i]?=some x/\X.N[j]?=some x/\sc.names.lookup x=some .free
def z3B (cap:List (Option Nat)) (σ:St):St:=cap.map λo=>match o with|some j=>(σ[j]?).join|none=>none
def Cx.comp (X:Cx) (N':List Str) (sc:Scope) (s:Shared) (H:Hp) (fp:List Addr) (xe:Value->Shared->Prop):Cx :=
 { X with N:=N',s₀:=s,H₀:=H,env:=compEnvC sc (z0j X.env sc.names []) s.heap.objs.size X.env,outer:=X.stack,stack:=X.stack,ex:=fp,fn:=λ_=>false,pn:=[],xe:=xe }
section
variable {X:Cx}{pins:List (Addr×Obj)}{σ:St}{H:Hp}{s:Shared}{sc:Scope}{N':List Str}{cap:List (Option Nat)}{fp:List Addr}{xe:Value->Shared->Prop}{h':Heap}
theorem CS.cells (S:CS X sc N' cap) (I:Inv X pins σ H s):∀x∈sc.names,x.2=.free->∃c,X.env.cells.lookup x.1=some c:=λx hx hf =>
 I.ok.has x.1 (S.fr x hx hf)
theorem Inv.compIn {t:Nat}(I:Inv X pins σ H s) (S:CS X sc N' cap) (hf:∀b∈fp,FpOk X pins H b) (hlt:∀b∈fp,b<s.heap.objs.size)
 (hns:h'.Ns s.heap.objs.size λ_=>none) (hk:∀b o,s.heap.get? b=some o->h'.get? b=some o) :
 Inv (X.comp N' sc s H fp xe) [] (z3B cap σ) H { s with heap:=h',toks:=t }:=by
 have hfrom:∀{x c},(z0j X.env sc.names []).lookup x=some c->X.env.cells.lookup x=some c:=λ{x c} q=>by
  rcases z72 _ _ q with z|z
  ·exact z
  ·simp at z
 have hlook:∀ {x},((relabel sc X.env).names.lookup x=some .cell\/(relabel sc X.env).names.lookup x=some .free)->sc.names.lookup x=some .free:=fun {x} q=>by
  rcases q with q|q
  ·obtain⟨k0,e,z⟩:=z2j q;rcases z with z|z
   ·subst z;exact absurd rfl (S.nocell _ (K2f e))
   ·rw[e,z.2]
  ·obtain⟨k0,e,z⟩:=z2j q;rcases z with z|z
   ·rw[e,z]
   ·cases z.1
 refine⟨⟨I.ok.mod,?_,I.ok.glob,I.ok.blt,K03 _,λx y c h1 h2=>I.ok.inj x y c (hfrom h1) (hfrom h2),λx hx=>?_,λx c q=>absurd (show false=true from q) (by decide),I.ok.hd,I.ok.frames,.inl rfl,λb hb=>⟨?_,λx c q=>?_⟩,
  I.bs,K0l I.ok.bsz I.sz,λb o e hb=>?_,λb hb hz=>?_,I.stack,I.stkFree⟩,
  rfl,I.bare,Un.kept hk,⟨_,hns,λi x v h1 h2 h3=>?_⟩,λx c q=>?_,I.hok.fresh (K03 _),λx c q=>I.freeC x c (hfrom q),λp hp=>absurd (show p∈([]:List (Addr×Obj)) from hp) (by simp),I.hok.kept hk,?_⟩
 ·exact S.kind
 ·have e:=hlook hx;have e2:=K2f e;obtain⟨c,hc⟩:=I.ok.has x (S.fr _ e2 rfl);exact⟨c,z5Z hc _ _ e2⟩
 ·exact K0e (hlt b hb)
 ·exact(hf b hb).2.2.2.2.1 x c (hfrom q)
 ·rcases(hf b hb).2.2.2.1 with z|z
  ·exact I.ok.noex b o e z
  ·exact absurd (K0i (K02 e) (K0l I.ok.bsz z)) (K2u _)
 ·rcases K0a.mp (I.stkSub b hz) with z|z
  ·exact(hf b hb).2.1 z
  ·exact(hf b hb).2.2.1 z
 ·have h2':(cap.map λo=>match o with|some j=>(σ[j]?).join|none=>none)[i]?=some (some v):=h2;rw[K00]at h2';cases e:cap[i]? with
  | none=>rw[e]at h2';cases h2'
  | some o =>
   rw[e]at h2';cases o with
   | none=>simp at h2'
   | some j =>
    have hj:σ[j]?=some (some v):=by
     have h4:(σ[j]?).join=some v:=by simpa using h2'
     cases e2:σ[j]? with
     | none=>rw[e2]at h4;simp at h4
     | some o2=>rw[e2]at h4;simp at h4;rw[h4]
    obtain⟨y,n1,n2,n3⟩:=S.capt i j e;have ey:y=x:=by
     have h1':N'[i]?=some x:=h1;rw[n1]at h1';exact K1h h1'
    subst ey;have hm:=K2f n3;have hkind:=S.fr _ hm rfl;obtain⟨m,hn,hl⟩:=I.loc;have vis:Vis X.env.scope y:=by
     rcases hkind with z|z
     ·exact .inr (.inl z)
     ·exact .inr (.inr z)
    obtain⟨u,r,l⟩:=hl j y v n2 hj vis;refine⟨u,r,.inr ?_⟩;rcases l with ⟨z,_⟩|⟨_,c,hc,hcell⟩
    ·have z':X.env.kindOf y=some .local:=z;rcases hkind with q|q<;>(have q':X.env.kindOf y=_:=q;rw[z']at q';cases q')
    ·obtain⟨o,ho,hd⟩:=hcell;exact⟨z5g n3,c,z5Z hc _ _ hm,o,hk c o ho,hd⟩
 ·obtain⟨v,o,ho,hd⟩:=I.cell x c (hfrom q);exact⟨v,o,hk c o ho,hd⟩
 ·show (cap.map _).length=N'.length;rw[K6];exact S.len
theorem Inv.compOut {pins':List (Addr×Obj)}{σ':St}{H':Hp}{s':Shared}(I:Inv X pins σ H s) (hf:∀b∈fp,FpOk X pins H b)
 (J:Inv (X.comp N' sc s H fp xe) pins' σ' H' s') (hs:K3h s.heap.objs.size s'.heap h'):Inv X pins σ H' { s' with heap:=h' }:=by
 have hu:Un (frs X.stack) fp H H' s.heap s'.heap:=J.base;have hC:H' s.heap.objs.size=none:=J.free;have lt:∀{b:Addr} {o:Obj},s.heap.get? b=some o->b≠s.heap.objs.size:=λe=>K0e (K02 e);refine I.call' (s':={ s' with heap:=h' }) (ch:=fp) J.os ⟨λb o e n h1 h2=>?_,λb o e n h1 h2=>?_,hu.free,λb o e h1=>?_,hu.tups,hu.frzs,hu.tbls⟩ (λb u e=>?_) J.bare (λb hb=>⟨(hf b hb).2.2.2.1,(hf b hb).2.1,(hf b hb).2.2.2.2.1,(hf b hb).2.2.2.2.2⟩)
 ·exact(hs.2 b (lt e)).trans (hu.keep b o e n h1 h2)
 ·obtain⟨sl,q⟩:=hu.slot b o e n h1 h2;exact⟨sl,(hs.2 b (lt e)).trans q⟩
 ·obtain⟨o',q⟩:=hu.there b o e h1;exact⟨o',(hs.2 b (lt e)).trans q⟩
 ·refine(J.hok b u e).stay (λc v hc q=>?_) (λ_ q=>q) λ_ _ q=>q;have ne:c≠s.heap.objs.size:=by
   rintro rfl;rcases hc with z|z
   ·rw[<- z,hC]at e;cases e
   ·rw[hC]at z;cases z
  exact(hs.2 c ne).trans q
end
def PTs (X:Cx) (ifs:List Expr) (t:TT):Prop :=
 ∀(pins:List (Addr×Obj)) (s:Shared) (σ:St) (H:Hp) (Q:Bool->Hp->Prop),Inv X pins σ H s->t σ H Q->wpAny (model X.prog X.w) X.A (z70 ifs X.env) (TP X pins σ Q) X.xe s
def zp0:TT:=λ_ H Q=>Q true H
def zJ2 (t r:TT):TT:=λσ H Q=>t σ H λb H1=>if b=true then r σ H1 Q else Q false H1
theorem z4O {X:Cx}{E:Value->Shared->Prop}{Q:Bool->Shared->Prop}:∀{ifs:List Expr}{s:Shared},Q false s ->
 wpAny (model X.prog X.w) X.A (forIn ifs false λc r=>if r=true then do { let ok <- isTrue c X.env (eval c X.env);pure (K4j ok) } else pure (K4j r)) Q E s
 | [],s,h=>by rw[K5z];exact K5 h
 | c::r,s,h=>by
  rw[K5g];refine K0 ?_;rw[if_neg (by decide)];exact K5 (z4O h)
theorem z8f {X:Cx}:PTs X [] zp0:=λpins s σ H Q I h=>by
 unfold z70;rw[K5z];exact K5 ⟨H,I,h⟩
theorem zd2 {X:Cx}{c:Expr}{r:List Expr}{t u:TT}(h1:PT X c t) (h2:PTs X r u):PTs X (c::r) (zJ2 t u):=λpins s σ H Q I h=>by
 unfold z70;rw[K5g];refine K0 ?_;rw[if_pos rfl];refine K0 (thn (h1 pins s σ H _ I h) λb s1 ⟨H1,I1,q1⟩=>K5 ?_);cases b with
 | true=>exact h2 pins s1 σ H1 Q I1 (by simpa using q1)
 | false=>exact z4O ⟨H1,I1,by simpa using q1⟩
def z8q (p:Pos) (tg:Expr) (ifs:List Expr) (it:Value) (env:Env) (b:Sem Unit) (c:Code):Sem Fin:=do
 K6n p
 match <- pyNext it with
 | none=>pure (.done .next)
 | some v =>
  K6y tg it v
  assign tg env v
  let ok <- z70 ifs env
  if ok then b
  again c
abbrev TB:=St->Hp->(Hp->Prop)->Prop
def Kp (σ σ':St):Prop:=∀(j:Nat) v,σ[j]?=some (some v)->σ'[j]?=some (some v)
def PBd (X:Cx) (b:Sem Unit) (t:TB):Prop :=
 ∀(pins:List (Addr×Obj)) (s:Shared) (σ:St) (H:Hp) (Q:Hp->Prop),Inv X pins σ H s->t σ H Q->wpAny (model X.prog X.w) X.A b (λ_ s'=>∃σ' H',Inv X pins σ' H' s'/\Kp σ σ'/\Q H') X.xe s
def runG (g:TG) (ti:TT) (tb:TB) (σ:St) (J:It) (Q:Hp->Prop) (H:Hp):Prop :=
 ∃W:Nat->Nat->Hp->Prop,(∃m,W 0 m H)/\∀i m H,W i m H ->
  (J.stop i H/\Q H)\/(J.go i H/\∀x H1,J.yld i H x H1->g x σ H1 λσ2 H2=>Kp σ σ2 /\
   ti σ2 H2 λok H3=>if ok=true then tb σ2 H3 λH4=>∃m',m'<m/\W (i+1) m' H4 else ∃m',m'<m/\W (i+1) m' H3)
def CK (ce:Expr):Prop:=(∃elt gens sc pos,ce=.ListComp elt gens sc pos)\/∃k v gens sc pos,ce=.DictComp k v gens sc pos
section
variable {X:Cx}{ce elt val tg iter tg1 iter1:Expr}{ifs ifs1:List Expr}{sc:Scope}{pos p:Pos}{N':List Str}{cap:List (Option Nat)}{g g1:TG}{wi wi1:TI}{ti ti1:TT}{te tv:TE}{tb:TB}{b:Sem Unit}{D:Addr}
theorem zR2 {pins:List (Addr×Obj)}{σ0:St}{H2:Hp}{s2:Shared}{it:Addr}{fp:List Addr}{tn:Nat->Heap->Prop}{J:It}{R:Result->Shared->Prop}{Q:Hp->Prop}{k:Nat}{acc:Value}
 (htn:compTurn ce k (.ref it) acc X.env=z8q p tg ifs (.ref it) X.env b (.compLoop ce k (.ref it) acc X.env)) (hce:CK ce) (hc:X.calm=true)
 (hg:PG (X.wish (Z0q (model X.prog X.w) X.A X.env λe s'=>R (.error e) s')) tg g) (ht:PTs (X.wish (Z0q (model X.prog X.w) X.A X.env λe s'=>R (.error e) s')) ifs ti) (hb:PBd (X.wish (Z0q (model X.prog X.w) X.A X.env λe s'=>R (.error e) s')) b tb)
 (I2:Inv X pins σ0 H2 s2) (T:Turn X.prog X.w X.K tg J fp it tn) (st2:tn 0 s2.heap) (f2:∀b∈fp,FpOk X pins H2 b)
 (hq:runG g ti tb σ0 J Q H2) (hR:∀s' H',Inv X pins σ0 H' s'->Q H'->R (.ok .next) s') :
 K61 (model X.prog X.w) X.A (.compLoop ce k (.ref it) acc X.env) R s2:=by
 have stat:∀{H':Hp},(∀b∈fp,H' b=none)->∀b∈fp,FpOk X pins H' b:=λhn b hb=>⟨hn b hb,(f2 b hb).2⟩;obtain⟨W,⟨m0,w0⟩,turn⟩:=hq;refine codeAny_loop rfl (λn s'=>∃i H',Inv X pins σ0 H' s'/\tn i s'.heap/\(∀b∈fp,H' b=none)/\W i n H') (λn s5 hI=>?_) m0 ⟨0,H2,I2,st2,λb hb=>(f2 b hb).1,w0⟩;obtain⟨i,H5,I5,st5,fr5,w5⟩:=hI;have hu:X.A.under (.compLoop ce k (.ref it) acc X.env)=X.A/\(model X.prog X.w).den (.compLoop ce k (.ref it) acc X.env)=(compTurn ce k (.ref it) acc X.env).onRaise (λx=>do noteFrame x X.env;theTreesLotGoes x):=by
  rcases hce with ⟨_,_,_,_,rfl⟩|⟨_,_,_,_,_,rfl⟩<;>exact⟨rfl,rfl⟩
 rw[hu.1,hu.2];refine wpAny_noted ?_;rw[htn];unfold z8q;refine K0 (K4r (K0 ?_));rcases turn i n H5 w5 with ⟨stop,qn⟩|⟨go,step⟩
 ·refine thn (T.done X rfl rfl rfl hc i pins s5 _ H5 _ I5 (stat fr5) st5 stop) λr s6 ⟨hr,I6⟩=>?_;subst hr;exact K5 (hR s6 H5 I6 qn)
 ·refine thn (T.item X rfl rfl rfl hc i pins s5 _ H5 _ I5 (stat fr5) st5 go) λr s6 ⟨u,hr,h6⟩=>?_;subst hr;refine K0 (thn h6 λ_ s7 ⟨x,H7,I7,r7,y7,st7,fr7⟩=>?_);have I7':=I7.pinned (stat fr7) (T.obj _ _ st7);refine K0 (thn (hg _ s7 _ H7 x u _ (I7'.wish _) r7 (step x H7 y7)) λ_ s8 ⟨σ8,H8,I8,k8,q8⟩=>?_);refine K0 (thn (ht _ s8 σ8 H8 _ I8 q8) λok s9 ⟨H9,I9,q9⟩=>?_);have again:∀{σa:St} {Ha:Hp} {sa:Shared},Inv (X.wish (Z0q (model X.prog X.w) X.A X.env λe s'=>R (.error e) s')) (pins++z4R fp s7.heap) σa Ha sa->Kp σ0 σa ->
   Inv X pins σ0 Ha sa/\tn (i+1) sa.heap/\∀b∈fp,Ha b=none:=λ{σa Ha sa} Iw ka=>by
   have Ia:=Iw.unwish;refine⟨Ia.unpinned.weak (I5.len.trans Ia.len.symm) ka,T.keep _ _ _ st7 λb hb o e=>(Ia.pin (b,o) (K10 _ (K10 _ (z1Z hb e)))).1,λb hb=>?_⟩;obtain⟨o,e,d⟩:=T.obj _ _ st7 b hb;exact(Ia.pin (b,o) (K10 _ (K10 _ (z1Z hb e)))).2.1
  cases ok with
  | false =>
   have q9':∃m',m'<n/\W (i+1) m' H9:=by simpa using q9
   obtain⟨m',hm,w9⟩:=q9';obtain⟨a1,a2,a3⟩:=again I9 k8;exact K5 ⟨rfl,m',hm,i+1,H9,a1,a2,a3,w9⟩
  | true =>
   rw[if_pos rfl]at q9;refine K0 (thn (hb _ s9 σ8 H9 _ I9 q9) λ_ sa ⟨σa,Ha,Ia,ka,m',hm,wa⟩=>?_);obtain⟨a1,a2,a3⟩:=again Ia λj v h=>ka j v (k8 j v h);exact K5 ⟨rfl,m',hm,i+1,Ha,a1,a2,a3,wa⟩
theorem z0Y {env:Env}{prog:K08}{w:World}{A:Around}{R:Result->Shared->Prop}{s:Shared}{k:Nat}{it acc:Value}(hce:CK ce) (hcl:(clausesOf ce)[k]?=some ⟨tg,iter,ifs,0⟩) (h0:K61 (model prog w) A (.compLoop ce k it acc env) R s)
 (h:wpAny (model prog w) A (pyIter it) (λit' s'=>K61 (model prog w) A (.compLoop ce k it' acc env) R s')
  (Z0q (model prog w) A env λx s'=>R (.error x) s') s) :
 K61 (model prog w) A (.compStart ce k it acc env) R s:=by
 refine K96 ?_;have hu:A.under (.compStart ce k it acc env)=A/\(model prog w).den (.compStart ce k it acc env)=(compStart ce k it acc env).onRaise (λx=>do noteFrame x env;K6n theWindowsPlace):=by
  rcases hce with ⟨_,_,_,_,rfl⟩|⟨_,_,_,_,_,rfl⟩<;>exact⟨rfl,rfl⟩
 rw[hu.1,hu.2];refine wpAny_notedAt ?_;unfold compStart;rw[hcl];show wpAny _ _ (ask >>= _) _ _ s;refine K0 (K3n (wpAny_ite ?_));split
 ·first
   | exact K0 (K5 (K5 (Z0z rfl h0)))
   | exact K5 (Z0z rfl h0)
 ·first
   | exact K0 (K47 (K0 (K4r (K0 (K37 h (λit' s' h'=>K5 (Z0z rfl h')) λ_ _ x=>x)))))
   | (refine K0 (K47 ?_);show wpAny _ _ (K6n iter.pos >>= _) _ _ s;exact K0 (K4r (K0 (K37 h (λit' s' h'=>K5 (Z0z rfl h')) λ_ _ x=>x))))
end
def MkO (mk:Sem Value) (o0:HO):Prop:=∀(X:Cx) (pins:List (Addr×Obj)) (σ:St) (H:Hp) (s:Shared) (E:Value->Shared->Prop) (Q:Value->Shared->Prop),Inv X pins σ H s ->
 (∀s',Inv X pins σ (upd H s.heap.objs.size o0) s'->(∀b o,s.heap.get? b=some o->s'.heap.get? b=some o)->Q (.ref s.heap.objs.size) s')->wpAny (model X.prog X.w) X.A mk Q E s
theorem zt8:MkO (newList []) (.lst []):=λX pins σ H s E Q I h=>by
 refine K16 ?_;exact h _ (I.lnew (ys:=[]) (its:=[]) (t':=s.toks) .nil (K3a _)) λb o e=>K4 _ e
theorem zs5:MkO newDict (.dK []):=λX pins σ H s E Q I h=>by
 refine K16 ?_;exact h _ (I.laid (a:=s.heap.objs.size) (o:=.dK []) (t':=s.toks) (h':=s.heap.push { cls:=.type "dict",dict:=none,data:=.dict #[] }) (λ_ _ q=>K4 _ q) (K03 _) (zc0 s.heap I.big)) λb o e=>K4 _ e
structure CmE (ce:Expr) (sc:Scope) (tg iter:Expr) (ifs:List Expr) (mk:Sem Value) (o0:HO) (bd:Addr->Env->Sem Unit) (p:Pos):Prop where
 ck:CK ce
 cl:∃gs,clausesOf ce=⟨tg,iter,ifs,0⟩::gs
 tn:∀it D env,compTurn ce 0 (.ref it) (.ref D) env=z8q p tg ifs (.ref it) env (bd D env) (.compLoop ce 0 (.ref it) (.ref D) env)
 nw:MkO mk o0
 ev:∀env,∃pp,eval ce env=comprehension ce sc env pp mk false (eval iter env) none
 us:∀env f,∃pp,evalThenUse ce env f=(comprehension ce sc env pp mk false (eval iter env) (some f) >>= λ_=>pure ())
section
variable {X:Cx}{ce elt val tg iter tg1 iter1:Expr}{ifs ifs1:List Expr}{sc:Scope}{pos p p1:Pos}{N':List Str}{cap:List (Option Nat)}{g g1:TG}{wi wi1:TI}{ti ti1:TT}{te tv:TE}{tb tb1:TB}{b1:Sem Unit}{D:Addr}{mk:Sem Value}{o0:HO}{bd:Addr->Env->Sem Unit}{tbd:Addr->TB}
theorem zK2 {pins:List (Addr×Obj)}{σ:St}{H2:Hp}{s2:Shared}{it:Addr}{fp:List Addr}{tn:Nat->Heap->Prop}{J:It}{E:Value->Shared->Prop}{RR:Value->Addr->Result->Shared->Prop}{Q:Addr->Hp->Prop}
 (C:CmE ce sc tg iter ifs mk o0 bd p) (hc:X.calm=true) (S:CS X sc N' cap) (hg:∀s H fp xe,PG (X.comp N' sc s H fp xe) tg g) (ht:∀s H fp xe,PTs (X.comp N' sc s H fp xe) ifs ti) (hb:∀D s H fp xe,PBd (X.comp N' sc s H fp xe) (bd D (X.comp N' sc s H fp xe).env) (tbd D))
 (I2:Inv X pins σ H2 s2) (T:Turn X.prog X.w X.K tg J fp it tn) (st2:tn 0 s2.heap) (f2:∀b∈fp,FpOk X pins H2 b)
 (hq:∀D,H2 D=none->runG g ti (tbd D) (z3B cap σ) J (Q D) (upd H2 D o0))
 (hRR:∀(D:Addr) (s3:Shared) (H3:Hp) (xe:Value->Shared->Prop) (H':Hp) (pins':List (Addr×Obj)) (σ':St) (s':Shared),Inv X pins σ H3 s3->(∀b∈fp,FpOk X pins H3 b)->Inv (X.comp N' sc s3 H3 fp xe) pins' σ' H' s'->Q D H'->RR (.ref D) s3.heap.objs.size (.ok .next) s') :
 wpAny (model X.prog X.w) X.A mk (λacc s3=>wpAny (model X.prog X.w) X.A (newFunctionEnv sc X.env.globals (z0j X.env sc.names []) [] X.env.qual none .none (some X.env)) (λcenv s4 =>
  codeAny (model X.prog X.w) X.A (.compStart ce 0 (.ref it) acc { cenv with scope:=relabel sc X.env }) (RR acc cenv.locals) s4) E s3) E s2:=by
 refine C.nw X pins σ H2 s2 E _ I2 λs3 I3 kp3=>?_;have hfr:H2 s2.heap.objs.size=none:=I2.fresh;have lt2:∀b∈fp,b<s2.heap.objs.size:=λb hb=>by
  obtain⟨o,e,_⟩:=T.obj _ _ st2 b hb;exact K02 e
 generalize s2.heap.objs.size=D at I3 hfr lt2 ⊢;have r0:=hq D hfr;have f3:∀b∈fp,FpOk X pins (upd H2 D o0) b:=λb hb=>⟨by rw[Y1 (K0e (lt2 b hb))];exact(f2 b hb).1,(f2 b hb).2⟩;have st3:tn 0 s3.heap:=T.keep _ _ _ st2 λb hb o e=>kp3 b o e;have lt3:∀b∈fp,b<s3.heap.objs.size:=λb hb=>by
  obtain⟨o,e,_⟩:=T.obj _ _ st3 b hb;exact K02 e
 generalize upd H2 D o0=H3 at I3 r0 f3;refine wpAny_newFunctionEnv S.nocell (λx hx=>absurd hx (by simp)) (λh1 hns hsb=>?_) S.kind;have kp4:∀b o,s3.heap.get? b=some o->h1.get? b=some o:=λb o e=>by
  rw[hsb.2 b (K0e (K02 e))];exact K4 _ e
 have hns':h1.Ns s3.heap.objs.size λ_=>none:=hns;have st4:tn 0 h1:=T.keep _ _ _ st3 λb hb o e=>kp4 b o e;have loop:K61 (model X.prog X.w) X.A (.compLoop ce 0 (.ref it) (.ref D) (compEnvC sc (z0j X.env sc.names []) s3.heap.objs.size X.env))
  (RR (.ref D) s3.heap.objs.size) { s3 with heap:=h1,toks:=s3.toks+([]:List (Str×Value)).length }:=by
  let xe:Value->Shared->Prop:=Z0q (model X.prog X.w) X.A (compEnvC sc (z0j X.env sc.names []) s3.heap.objs.size X.env) λe s'=>RR (.ref D) s3.heap.objs.size (.error e) s';have I4:Inv (X.comp N' sc s3 H3 fp xe) [] (z3B cap σ) H3 { s3 with heap:=h1,toks:=s3.toks+([]:List (Str×Value)).length }:=I3.compIn S f3 lt3 hns' kp4;exact zR2 (X:=X.comp N' sc s3 H3 fp xe) (C.tn _ _ _) C.ck hc (hg s3 H3 fp _) (ht s3 H3 fp _) (hb D s3 H3 fp _) I4 T st4 (λb hb=>by
   obtain⟨q1,q2⟩:=I4.ok.exf b hb;exact⟨(f3 b hb).1,q1,I4.ok.exfs b hb,.inl hb,q2,λp hp=>absurd (show p∈([]:List (Addr×Obj)) from hp) (by simp)⟩) r0 λs' H' I' q=>hRR D s3 H3 xe H' [] _ s' I3 f3 I' q
 obtain⟨gs,cl⟩:=C.cl;exact z0Y C.ck (by rw[cl];rfl) loop (T.self _ 0 _ _ _ st4 loop)
def tCm (o0:HO) (cap:List (Option Nat)) (wi:TI) (g:TG) (ti:TT) (tbd:Addr->TB):TE:=λσ H Q=>wi σ H λJ H1=>∀D,H1 D=none->runG g ti (tbd D) (z3B cap σ) J (λH'=>Q (.ref D) H') (upd H1 D o0)
theorem zR0 (C:CmE ce sc tg iter ifs mk o0 bd p) (hc:X.calm=true) (S:CS X sc N' cap) (hi:PI X tg iter wi) (hg:∀s H fp xe,PG (X.comp N' sc s H fp xe) tg g) (ht:∀s H fp xe,PTs (X.comp N' sc s H fp xe) ifs ti)
 (hb:∀D s H fp xe,PBd (X.comp N' sc s H fp xe) (bd D (X.comp N' sc s H fp xe).env) (tbd D)) (hs:∀x,K2g iter X.env x=pure x):PE X ce (tCm o0 cap wi g ti tbd):=by
 intro pins s σ H Q I h;obtain⟨pp,ev⟩:=C.ev X.env;obtain⟨gs,cl⟩:=C.cl;rw[ev];refine K85 (use:=none) cl hs (z2G (S.cells I)) S.kind S.loc (thn (hi pins s σ H _ I h) λv s1 h1=>thn h1 λitv s2 h2=>?_);obtain⟨it,fp,tn,J,H2,e,I2,T,st2,f2,rq⟩:=h2;subst e;refine zK2 (RR:=λacc C=>compPost (model X.prog X.w) X.A X.xe none (EP X pins σ Q) acc C) (Q:=λD H'=>Q (.ref D) H') C hc S hg ht hb I2 T st2 f2 rq ?_;intro D s3 H3 xe H' pins' σ' s' I3 f3 J3 q;obtain⟨m,hn,_⟩:=id J3.loc;exact⟨m,hn,λh' hs=>⟨.ref D,H',I3.compOut f3 J3 hs,rfl,q⟩⟩
def sCm (o0:HO) (cap:List (Option Nat)) (wi:TI) (g:TG) (ti:TT) (tbd:Addr->TB) (i:Nat):TS:=λD σ H=>wi σ H λJ H1=>∀d,H1 d=none->runG g ti (tbd d) (z3B cap σ) J (λH'=>D.nx (σ.set i (.(r d))) H') (upd H1 d o0)
theorem zO7 {y:Str}{py spos:Pos}{i:Nat}(C:CmE ce sc tg iter ifs mk o0 bd p) (hc:X.calm=true) (S:CS X sc N' cap) (hi:PI X tg iter wi) (hg:∀s H fp xe,PG (X.comp N' sc s H fp xe) tg g) (ht:∀s H fp xe,PTs (X.comp N' sc s H fp xe) ifs ti)
 (hb:∀D s H fp xe,PBd (X.comp N' sc s H fp xe) (bd D (X.comp N' sc s H fp xe).env) (tbd D)) (hN:X.N.Nodup) (hy:X.N[i]?=some y) (hl:X.env.scope.names.lookup y=some .local)
 (hsw:K2s ce (some (.Name y py)) spos.line X.env=pure true) (hs:∀x,K2g iter X.env x=pure x):PS X (.Assign [.Name y py] ce spos) (sCm o0 cap wi g ti tbd i):=by
 intro pins s σ H D I h;rw[exec_Assign_Name_used _ _ _ _ hsw];obtain⟨pp,us⟩:=C.us X.env (assign (.Name y py) X.env);obtain⟨gs,cl⟩:=C.cl;rw[us];refine K0 (K4r (K0 ?_));refine K0 (K37 (K85 (use:=some (assign (.Name y py) X.env)) (Q:=λ_ s'=>SP X pins D .next s') cl hs (z2G (S.cells I)) S.kind S.loc
  (thn (hi pins s σ H _ I h) λv s1 h1=>thn h1 λitv s2 h2=>?_)) (λ_ s' hq=>K5 (K5 hq)) λ_ _ z=>z)
 obtain⟨it,fp,tn,J,H2,e,I2,T,st2,f2,rq⟩:=h2;subst e;refine zK2 (RR:=λacc C=>compPost (model X.prog X.w) X.A X.xe (some (assign (.Name y py) X.env)) (λ_ s'=>SP X pins D .next s') acc C) (Q:=λd H'=>D.nx (σ.set i (.(r d))) H') C hc S hg ht hb I2 T st2 f2 rq ?_;intro d s3 H3 xe H' pins' σ' s' I3 f3 J3 q;obtain⟨m,hn,_⟩:=id J3.loc;have Is:Inv X pins σ H' s':=I3.compOut (h':=s'.heap) f3 J3 (Z0f _ _);obtain⟨oC,es,ep,hoC,hdC,hrC⟩:=id hn;have hC:H' s3.heap.objs.size=none:=J3.free;have neL:s3.heap.objs.size≠X.env.locals:=K26 I3.lt;have nfs:s3.heap.objs.size∉X.fs:=I3.nofs (K03 _);have Ip:Inv X (pins++[(s3.heap.objs.size,oC)]) σ H' s':=Is.pins_of λp hp=>by
  rcases K0p.mp hp with z|z
  ·exact Is.pin p (K10 _ z)
  ·obtain rfl:p=(s3.heap.objs.size,oC):=by simpa using z
   exact⟨hoC,hC,neL,nfs,λv hv=>by have hdC':oC.data=_:=hdC;rw[hdC']at hv;cases hv⟩
 show wpAny _ X.A (assign (.Name y py) X.env (.ref d)) _ _ s';refine thn (z5D (X:=X) (i:=i) hN hy (.inl hl) (.inr hl) _ s' σ H' (.ref d) (.ref d) (λσ2 H2=>D.nx σ2 H2) Ip rfl q) λ_ s4 ⟨σ4,H4,I4,q4⟩=>?_;have pn:=I4.pin (s3.heap.objs.size,oC) (K10 _ (K10 _ (by simp)));refine⟨m,⟨oC,es,ep,pn.1,hdC,hrC⟩,λh' hs=>⟨σ4,H4,?_,q4⟩⟩;have I4u:Inv X pins σ4 H4 s4:=I4.unpinned;have st:=I4u.step (g':=s4.gens) (t':=s4.toks) (d':=s4.drawn) (h':=h') (H':=H4) (ch:=[s3.heap.objs.size]) (λb hb=>?_) (λb o _ _ hc e _=>(hs.2 b (by simpa using hc)).trans e)
  (λb o _ _ hc e _=>⟨o.slots,(hs.2 b (by simpa using hc)).trans e⟩) (λ_ _ _ _ n=>n) (λb o hc e=>⟨o,(hs.2 b (by simpa using hc)).trans e⟩) (λ_ _ e=>e) (λ_ _ _ e=>e) (λb ps e=>⟨#[],by rw[e];simp⟩) (λm hm=>?_) (λb u e=>?_) I4u.bare
 ·exact st
 ·have e:b=s3.heap.objs.size:=by simpa using hb
  subst e;refine⟨.inr I3.sz,neL,λx c e2 z=>?_,λp hp z=>?_⟩
  ·obtain⟨v,q2⟩:=I3.cell x c e2;exact absurd q2.lt (by rw[z];exact K2u _)
  ·have e3:=(I3.pin p hp).1;exact absurd (K02 e3) (by rw[z];exact K2u _)
 ·obtain⟨o,es',ep',ho',r'⟩:=hm;exact⟨o,es',ep',(hs.2 _ (K5h neL)).trans ho',r'⟩
 ·refine(I4u.hok b u e).stay (λc v hc q=>?_) (λ_ q=>q) λ_ _ q=>q;have n4:H4 s3.heap.objs.size=none:=pn.2.1;have ne:c≠s3.heap.objs.size:=by
   rintro rfl;rcases hc with z|z
   ·rw[<- z,n4]at e;cases e
   ·rw[n4]at z;cases z
  exact(hs.2 c ne).trans q
def bApp (te:TE) (D:Addr):TB:=λσ H Q=>te σ H λv H4=>∃acc,H4 D=.(l acc)/\acc.length<sizeLine/\Q (upd H4 D (.lst (acc++[v])))
theorem zl6 (he:PE X elt te):PBd X (do let _ <- call (.builtin "list.append") [.ref D,<- eval elt X.env]) (bApp te D):=λpins s σ H Q I h=>by
 refine K0 (thn (he pins s σ H _ I h) λv sa ⟨y,Ha,Ia,ra,acc,ea,za,q⟩=>?_);refine K0 (thn (z4H (X:=X) _ sa σ Ha (.ref D) [y] (.ref D) [v] (λ_ H'=>H'=upd Ha D (.lst (acc++[y]))) Ia rfl (.cons ra .nil) ⟨D,acc,y,rfl,rfl,ea,za,rfl⟩) λ_ sb ⟨_,Hb,Ib,_,eb⟩=>K5 ?_);subst eb;exact⟨σ,_,Ib,λ_ _ h=>h,q⟩
theorem z8t {pins:List (Addr×Obj)}{σ:St}{H:Hp}{s:Shared}{a:Addr}{kvs:List (Key×V)}{k:Key}{v:V}{u r:Value}{A:Around}{E:Value->Shared->Prop}{Q:Unit->Shared->Prop}
 (I:Inv X pins σ H s) (e:H a=some (.dK kvs)) (l:kvs.length<sizeLine) (ry:RelV (kV k) u) (rv:RelV v r) (h:∀s',Inv X pins σ (upd H a (.dK (putK kvs k v))) s'->Q () s') :
 wpAny (model X.prog X.w) A (dictSet a u r) Q E s:=by
 obtain⟨z,hd,vs,rel,dd⟩:=zN9 I.hok e;have hz:vs.length<=sizeLine:=by rw[<- rel.length];exact z
 have hl:(putK kvs k v).length<=sizeLine:=by have:=z3o kvs k v;omega
 refine K9u (hsz:=hz) (zd9 ry) dd λh' dd' hs=>h _ ?_;have he:∃q,h'.get? a=some q:=let ⟨q,_,_,hq,_⟩:=dd';⟨q,hq⟩;exact zn9 I (by rw[e];exact K4y) hs he (zf8 hl hd (rel.put k rv) dd')
def bPut (te tv:TE) (D:Addr):TB:=λσ H Q=>te σ H λy H4=>tv σ H4 λv H5=>∃k kvs,y=kV k/\H5 D=some (.dK kvs)/\kvs.length<sizeLine/\Q (upd H5 D (.dK (putK kvs k v)))
theorem zv4 (he:PE X elt te) (hv:PE X val tv):PBd X (do
 let kv <- eval elt X.env;let vv <- K56 [kv] (eval val X.env)
 K6n { elt.pos with endLine:=val.pos.endLine,endCol:=val.pos.endCol }
 K56 [kv,vv] (dictSet D kv vv)) (bPut te tv D):=λpins s σ H Q I h=>by
 refine K0 (thn (he pins s σ H _ I h) λkv sa ⟨y,Ha,Ia,ra,qa⟩=>?_);refine K0 (K1s (thn (hv pins sa σ Ha _ Ia qa) λvv sb ⟨z,Hb,Ib,rb,kk,kvs,ey,eb,zb,q⟩=>?_));subst ey;exact K0 (K4r (K1s (z8t Ib eb zb ra rb λs' I'=>⟨σ,_,I',λ_ _ h=>h,q⟩)))
end
theorem zw6 {elt tg iter:Expr}{ifs:List Expr}{sc:Scope}{pos:Pos}:CmE (.ListComp elt [⟨tg,iter,ifs,0⟩] sc pos) sc tg iter ifs (newList []) (.lst []) (λD env=>do let _ <- call (.builtin "list.append") [.ref D,<- eval elt env]) iter.pos :=
 ⟨.inl ⟨_,_,_,_,rfl⟩,⟨_,rfl⟩,λ_ _ _=>rfl,zt8,λ_=>⟨_,rfl⟩,λ_ _=>⟨_,rfl⟩⟩
theorem zo7 {elt val tg iter:Expr}{ifs:List Expr}{sc:Scope}{pos:Pos}:CmE (.DictComp elt val [⟨tg,iter,ifs,0⟩] sc pos) sc tg iter ifs newDict (.dK []) (λD env=>do
 let kv <- eval elt env;let vv <- K56 [kv] (eval val env)
 K6n { elt.pos with endLine:=val.pos.endLine,endCol:=val.pos.endCol }
 K56 [kv,vv] (dictSet D kv vv)) iter.pos :=
 ⟨.inr ⟨_,_,_,_,_,rfl⟩,⟨_,rfl⟩,λ_ _ _=>rfl,zs5,λ_=>⟨_,rfl⟩,λ_ _=>⟨_,rfl⟩⟩
open PySem
def excO (a C:Addr):HO:=.ext λh=>∃o,h.get? a=some o/\o.cls=.ref C
def dctO (a:Addr):HO:=.ext λh=>∃o,h.get? a=some o/\o.cls=.type "dict"
end L2
namespace FT
inductive D where
 | non|bl (b:Bool)|int (i:Int)|str (x:Str)|tup (xs:List D)|fl (xs:List D)|ref (n:Nat)
inductive O where
 | lst (xs:List D)
 | set (ks:List Key)
 | dct
 | dK (kvs:List (Key×D))
 | dF (kvs:List (Key×D))
 | exc (c:Str)
abbrev AH:=List O
abbrev G:=List (Option D)
structure Exn where
 cls:Str
 fs:List (Str×D)
inductive Res (α:Type) where
 | ok (a:α) (h:AH)|err (x:Exn) (h:AH)|bad
abbrev M (α:Type):=AH->Res α
def M.pure {α:Type} (a:α):M α:=λh=>.ok a h
def M.bind {α β:Type} (m:M α) (f:α->M β):M β:=λh=>match m h with
 | .ok a h1=>f a h1
 | .err x h1=>.err x h1
 | .bad=>.bad
instance:Monad M where
 pure:=M.pure
 bind:=M.bind
def bad {α:Type}:M α:=λ_=>.bad
theorem M.bind_eq {α β:Type}(m:M α) (f:α->M β) (h:AH):(m >>= f) h=match m h with
 | .ok a h1=>f a h1
 | .err x h1=>.err x h1
 | .bad=>.bad:=rfl
theorem M.bind_ok {α β:Type}{m:M α}{f:α->M β}{h h1:AH}{a:α}(e:m h=.ok a h1):(m >>= f) h=f a h1:=by rw[M.bind_eq,e]
def SqLP (K:K2) (H:Hp) (a:Addr) (xs:List V):Prop :=
 (∃o,H a=some (.frz o (.lst xs))) \/
  ∃(o:Obj) (its:Array Value) (n:Nat),K.lookup a=some o/\o.cls=.type "list"/\o.dict=none/\o.data=.seq its n/\its.size<=sizeLine/\Vals xs its.toList
theorem SqLP.sq {K:K2}{H:Hp}{a:Addr}{xs:List V}(h:SqLP K H a xs):SqL K H a xs:=by
 rcases h with ⟨o,h⟩|h
 ·exact .inl (.inr ⟨o,h⟩)
 ·exact .inr h
mutual
def RD (K:K2) (ρ:List Addr) (H:Hp):D->V->Prop
 | .non,v=>v=.non
 | .bl b,v=>v=.bl b
 | .int i,v=>v=.int i
 | .str x,v=>v=.str x
 | .tup ds,v=>∃a xs,v=.ref a/\SqT K H a xs/\RDs K ρ H ds xs
 | .fl ds,v=>∃a xs,v=.ref a/\SqLP K H a xs/\RDs K ρ H ds xs
 | .ref n,v=>∃a,v=.ref a/\ρ[n]?=some a
def RDs (K:K2) (ρ:List Addr) (H:Hp):List D->List V->Prop
 | [],xs=>xs=[]
 | d::ds,xs=>∃x r,xs=x::r/\RD K ρ H d x/\RDs K ρ H ds r
end
def Pre (ρ ρ':List Addr):Prop:=∀(n:Nat) a,ρ[n]?=some a->ρ'[n]?=some a
theorem Pre.refl (ρ:List Addr):Pre ρ ρ:=λ_ _ h=>h
theorem Pre.trans {a b c:List Addr}(x:Pre a b) (y:Pre b c):Pre a c:=λn z h=>y n z (x n z h)
theorem Pre.app (ρ r:List Addr):Pre ρ (ρ++r):=λn a h=>by
 rw[K11 (K8.mp h).1];exact h
structure Ext (K:K2) (H H':Hp):Prop where
 t:∀a xs,SqT K H a xs->SqT K H' a xs
 l:∀a xs,SqLP K H a xs->SqLP K H' a xs
 d:∀a o vs,H a=some (.frz o (.dK vs))->H' a=some (.frz o (.dK vs))
theorem Ext.refl (K:K2) (H:Hp):Ext K H H:=⟨λ_ _ h=>h,λ_ _ h=>h,λ_ _ _ h=>h⟩
theorem Ext.trans {K:K2}{a b c:Hp}(x:Ext K a b) (y:Ext K b c):Ext K a c:=⟨λz xs h=>y.t z xs (x.t z xs h),λz xs h=>y.l z xs (x.l z xs h),λz o vs h=>y.d z o vs (x.d z o vs h)⟩
def Trk:HO->Prop
 | .lst _=>True
 | .set _=>True
 | .ext _=>True
 | .dK _=>True
 | _=>False
theorem Ext.upd {K:K2}{H:Hp}{p:Addr}{o:HO}(h:H p=none\/∃u,H p=some u/\Trk u):Ext K H (upd H p o):=by
 have ne:∀{b:Addr} {u:HO},H b=some u->¬ Trk u->b≠p:=λ{b u} e n z=>by
  subst z;rcases h with h|⟨u',h,tr⟩
  ·rw[h]at e;cases e
  ·rw[h]at e;cases e;exact n tr
 refine⟨λa xs q=>?_,λa xs q=>?_,λa o vs q=>by rw[Y1 (ne q (λz=>z))];exact q⟩
 ·rcases q with (q|⟨u,q⟩)|q
  ·exact .inl (.inl (by rw[Y1 (ne q (λz=>z))];exact q))
  ·exact .inl (.inr ⟨u,by rw[Y1 (ne q (λz=>z))];exact q⟩)
  ·exact .inr q
 ·rcases q with ⟨u,q⟩|q
  ·exact .inl ⟨u,by rw[Y1 (ne q (λz=>z))];exact q⟩
  ·exact .inr q
section
variable {K:K2}{ρ ρ':List Addr}{H H':Hp}
mutual
theorem RD.mono (p:Pre ρ ρ') (e:Ext K H H'):∀{d:D}{v:V},RD K ρ H d v->RD K ρ' H' d v
 | .non,v,h=>by simpa [RD] using h
 | .bl b,v,h=>by simpa [RD] using h
 | .int b,v,h=>by simpa [RD] using h
 | .str b,v,h=>by simpa [RD] using h
 | .tup ds,v,h=>by
  simp only[RD]at h ⊢;obtain⟨a,xs,h1,h2,h3⟩:=h;exact⟨a,xs,h1,e.t a xs h2,RDs.mono p e h3⟩
 | .fl ds,v,h=>by
  simp only[RD]at h ⊢;obtain⟨a,xs,h1,h2,h3⟩:=h;exact⟨a,xs,h1,e.l a xs h2,RDs.mono p e h3⟩
 | .ref n,v,h=>by
  simp only[RD]at h ⊢;obtain⟨a,h1,h2⟩:=h;exact⟨a,h1,p n a h2⟩
theorem RDs.mono (p:Pre ρ ρ') (e:Ext K H H'):∀{ds:List D}{xs:List V},RDs K ρ H ds xs->RDs K ρ' H' ds xs
 | [],xs,h=>by simpa [RDs] using h
 | d::ds,xs,h=>by
  simp only[RDs]at h ⊢;obtain⟨x,r,h1,h2,h3⟩:=h;exact⟨x,r,h1,RD.mono p e h2,RDs.mono p e h3⟩
end
theorem RDs.nil:RDs K ρ H [] []:=by simp[RDs]
theorem RDs.cons {d:D}{ds:List D}{x:V}{xs:List V}(h:RD K ρ H d x) (t:RDs K ρ H ds xs):RDs K ρ H (d::ds) (x::xs):=by
 simp only[RDs];exact⟨x,xs,rfl,h,t⟩
theorem RDs.pair:∀{ds:List D}{xs:List V},RDs K ρ H ds xs->Paired (RD K ρ H) ds xs
 | [],xs,h=>by simp only[RDs]at h;subst h;exact .nil
 | d::ds,xs,h=>by
  simp only[RDs]at h;obtain⟨x,r,rfl,h2,h3⟩:=h;exact .cons h2 h3.pair
theorem RDs.of:∀{ds:List D}{xs:List V},Paired (RD K ρ H) ds xs->RDs K ρ H ds xs
 | _,_,.nil=>RDs.nil
 | _,_,.cons a b=>RDs.cons a (RDs.of b)
theorem RDs.length {ds:List D}{xs:List V}(h:RDs K ρ H ds xs):ds.length=xs.length:=K45 h.pair
theorem RDs.append {a b:List D}{xs ys:List V}(h:RDs K ρ H a xs) (t:RDs K ρ H b ys):RDs K ρ H (a++b) (xs++ys):=by
 induction a generalizing xs with
 | nil=>simp only[RDs]at h;subst h;exact t
 | cons d ds ih =>
  simp only[RDs]at h;obtain⟨x,r,rfl,h2,h3⟩:=h;exact RDs.cons h2 (ih h3)
theorem RDs.get {ds:List D}{xs:List V}{i:Nat}{d:D}(h:RDs K ρ H ds xs) (e:ds[i]?=some d):∃x,xs[i]?=some x/\RD K ρ H d x:=by
 induction ds generalizing xs i with
 | nil=>simp at e
 | cons a ds ih =>
  simp only[RDs]at h;obtain⟨x,r,rfl,h2,h3⟩:=h;cases i with
  | zero=>simp at e;subst e;exact⟨x,rfl,h2⟩
  | succ i =>
   obtain⟨y,h4,h5⟩:=ih h3 (by simpa using e);exact⟨y,by simpa using h4,h5⟩
theorem RDs.getV {ds:List D}{xs:List V}{i:Nat}{x:V}(h:RDs K ρ H ds xs) (e:xs[i]?=some x):∃d,ds[i]?=some d/\RD K ρ H d x:=by
 have hl:=h.length;have hi:=(K8.mp e).1;obtain⟨y,h1,h2⟩:=h.get (K7 (l:=ds) (i:=i) (by omega));rw[e]at h1;cases h1;exact⟨_,K7 (by omega),h2⟩
theorem RDs.drop {ds:List D}{xs:List V}(n:Nat) (h:RDs K ρ H ds xs):RDs K ρ H (ds.drop n) (xs.drop n):=by
 induction n generalizing ds xs with
 | zero=>exact h
 | succ n ih=>cases ds with
  | nil=>simp only[RDs]at h;subst h;exact RDs.nil
  | cons d ds=>simp only[RDs]at h;obtain⟨x,r,rfl,h2,h3⟩:=h;exact ih h3
theorem RDs.take {ds:List D}{xs:List V}(n:Nat) (h:RDs K ρ H ds xs):RDs K ρ H (ds.take n) (xs.take n):=by
 induction n generalizing ds xs with
 | zero=>exact RDs.nil
 | succ n ih=>cases ds with
  | nil=>simp only[RDs]at h;subst h;exact RDs.nil
  | cons d ds=>simp only[RDs]at h;obtain⟨x,r,rfl,h2,h3⟩:=h;exact RDs.cons h2 (ih h3)
theorem RDs.set {ds:List D}{xs:List V}{d:D}{x:V}(n:Nat) (h:RDs K ρ H ds xs) (hd:RD K ρ H d x):RDs K ρ H (ds.set n d) (xs.set n x):=by
 induction n generalizing ds xs with
 | zero=>cases ds with
  | nil=>simp only[RDs]at h;subst h;exact RDs.nil
  | cons a ds=>simp only[RDs]at h;obtain⟨y,r,rfl,h2,h3⟩:=h;exact RDs.cons hd h3
 | succ n ih=>cases ds with
  | nil=>simp only[RDs]at h;subst h;exact RDs.nil
  | cons a ds=>simp only[RDs]at h;obtain⟨y,r,rfl,h2,h3⟩:=h;exact RDs.cons h2 (ih h3)
theorem RDs.eraseIdx {ds:List D}{xs:List V}(n:Nat) (h:RDs K ρ H ds xs):RDs K ρ H (ds.eraseIdx n) (xs.eraseIdx n):=by
 induction n generalizing ds xs with
 | zero=>cases ds with
  | nil=>simp only[RDs]at h;subst h;exact RDs.nil
  | cons a ds=>simp only[RDs]at h;obtain⟨y,r,rfl,h2,h3⟩:=h;exact h3
 | succ n ih=>cases ds with
  | nil=>simp only[RDs]at h;subst h;exact RDs.nil
  | cons a ds=>simp only[RDs]at h;obtain⟨y,r,rfl,h2,h3⟩:=h;exact RDs.cons h2 (ih h3)
theorem RDs.flat {ds:List D}{xs:List V}(n:Nat) (h:RDs K ρ H ds xs):RDs K ρ H (K0n n ds).flatten (K0n n xs).flatten:=by
 induction n with
 | zero=>exact RDs.nil
 | succ n ih=>rw[K30,K3z,K30,K3z];exact h.append ih
def RK (K:K2) (ρ:List Addr) (H:Hp):List (Key×D)->List (Key×V)->Prop:=Paired λp q=>p.1=q.1/\RD K ρ H p.2 q.2
theorem RK.imp {α β:Type}{P Q:α->β->Prop}(f:∀a b,P a b->Q a b):∀{xs:List α}{ys:List β},Paired P xs ys->Paired Q xs ys
 | _,_,.nil=>.nil
 | _,_,.cons a b=>.cons (f _ _ a) (RK.imp f b)
theorem RK.mono {kvs:List (Key×D)}{vs:List (Key×V)}(p:Pre ρ ρ') (e:Ext K H H') (r:RK K ρ H kvs vs):RK K ρ' H' kvs vs:=RK.imp (λ_ _ h=>⟨h.1,h.2.mono p e⟩) r
def RO (K:K2) (ρ:List Addr) (H:Hp) (o:O) (a:Addr):Prop:=match o with
 | .lst ds=>∃xs,H a=.(l xs)/\RDs K ρ H ds xs
 | .set ks=>H a=some (.set ks)
 | .dct=>H a=some (dctO a)
 | .dK kvs=>∃vs,H a=some (.dK vs)/\RK K ρ H kvs vs
 | .dF kvs=>∃ob vs,H a=some (.frz ob (.dK vs))/\RK K ρ H kvs vs
 | .exc c=>∃C,K25 K K1q c=some (.(r C))/\H a=some (excO a C)
structure RH (K:K2) (ρ:List Addr) (h:AH) (H:Hp):Prop where
 len:ρ.length=h.length
 nd:∀(i j:Nat) a,ρ[i]?=some a->ρ[j]?=some a->i=j
 obj:∀(n:Nat) o a,h[n]?=some o->ρ[n]?=some a->RO K ρ H o a
theorem RH.at {h:AH}(r:RH K ρ h H) {n:Nat}{o:O}(e:h[n]?=some o):∃a,ρ[n]?=some a/\RO K ρ H o a:=by
 have hi:=(K8.mp e).1;have hj:n<ρ.length:=by rw[r.len];exact hi
 have q:ρ[n]?=some ρ[n]:=K7 hj;exact⟨_,q,r.obj n o _ e q⟩
def O.fz:O->Bool
 | .dF _=>true
 | _=>false
theorem RO.there {o:O}{a:Addr}(z:RO K ρ H o a):∃u,H a=some u/\(o.fz=false->Trk u):=by
 cases o with
 | lst ds=>obtain⟨xs,z,_⟩:=z;exact⟨_,z,λ_=>trivial⟩
 | set ks=>exact⟨_,z,λ_=>trivial⟩
 | dct=>exact⟨_,z,λ_=>trivial⟩
 | dK kvs=>obtain⟨vs,z,_⟩:=z;exact⟨_,z,λ_=>trivial⟩
 | dF kvs=>obtain⟨ob,vs,z,_⟩:=z;exact⟨_,z,λq=>by cases q⟩
 | exc c=>obtain⟨C,_,z⟩:=z;exact⟨_,z,λ_=>trivial⟩
theorem RH.there {h:AH}(r:RH K ρ h H) {n:Nat}{a:Addr}(e:ρ[n]?=some a):∃u,H a=some u:=by
 have hi:=(K8.mp e).1;have hj:n<h.length:=by rw[<- r.len];exact hi
 obtain⟨u,z,_⟩:=(r.obj n _ a (K7 hj) e).there;exact⟨u,z⟩
theorem RH.tracked {h:AH}(r:RH K ρ h H) {n:Nat}{a:Addr}{o:O}(e:ρ[n]?=some a) (eo:h[n]?=some o) (nf:o.fz=false:=by rfl):∃u,H a=some u/\Trk u:=by
 obtain⟨u,z,q⟩:=(r.obj n _ a eo e).there;exact⟨u,z,q nf⟩
theorem RO.mono {o:O}{a:Addr}(p:Pre ρ ρ') (e:Ext K H H') (hs:H' a=H a) (r:RO K ρ H o a):RO K ρ' H' o a:=by
 cases o with
 | lst ds=>obtain⟨xs,h1,h2⟩:=r;exact⟨xs,hs.trans h1,h2.mono p e⟩
 | set ks=>exact hs.trans r
 | dct=>exact hs.trans r
 | dK kvs=>obtain⟨vs,h1,h2⟩:=r;exact⟨vs,hs.trans h1,h2.mono p e⟩
 | dF kvs=>obtain⟨ob,vs,h1,h2⟩:=r;exact⟨ob,vs,hs.trans h1,h2.mono p e⟩
 | exc c=>obtain⟨C,h1,h2⟩:=r;exact⟨C,h1,hs.trans h2⟩
theorem RH.other {h:AH}{p:Addr}{o:HO}(r:RH K ρ h H) (hp:H p=none):RH K ρ h (upd H p o) :=
 ⟨r.len,r.nd,λn u a h1 h2=>(r.obj n u a h1 h2).mono (Pre.refl _) (Ext.upd (.inl hp)) (by
  obtain⟨u,q⟩:=r.there h2;exact Y1 (Y5 q hp))⟩
theorem RH.pushO {h:AH}{p:Addr}{o':O}{u:HO}(r:RH K ρ h H) (hp:H p=none) (hd:RO K (ρ++[p]) (upd H p u) o' p):RH K (ρ++[p]) (h++[o']) (upd H p u):=by
 have ne:∀{n:Nat} {a:Addr},ρ[n]?=some a->a≠p:=λe=>by
  obtain⟨xs,q⟩:=r.there e;exact Y5 q hp
 have ext:Ext K H (L2.upd H p u):=Ext.upd (.inl hp);refine⟨by simp[r.len],λi j a h1 h2=>?_,λn o a h1 h2=>?_⟩
 ·rw[K40]at h1 h2;split at h1<;>split at h2
  ·exact r.nd i j a h1 h2
  ·rename_i hi hj;rw[K1v]at h2;split at h2
   ·cases h2;exact absurd rfl (ne h1)
   ·cases h2
  ·rename_i hi hj;rw[K1v]at h1;split at h1
   ·cases h1;exact absurd rfl (ne h2)
   ·cases h1
  ·rename_i hi hj;rw[K1v]at h1 h2;split at h1
   ·split at h2
    ·omega
    ·cases h2
   ·cases h1
 ·rw[K40]at h1 h2;rw[r.len]at h2;split at h1
  ·rename_i hn;rw[if_pos hn]at h2;exact(r.obj n o a h1 h2).mono (Pre.app _ _) ext (Y1 (ne h2))
  ·rename_i hn;rw[if_neg hn]at h2;rw[K1v]at h1 h2;split at h1
   ·rename_i h0;rw[if_pos h0]at h2;cases h1;cases h2;exact hd
   ·cases h1
theorem RH.push {h:AH}{p:Addr}{ds:List D}{xs:List V}(r:RH K ρ h H) (hp:H p=none) (hd:RDs K ρ H ds xs):RH K (ρ++[p]) (h++[.lst ds]) (upd H p (.lst xs)) :=
 r.pushO hp ⟨xs,z08,hd.mono (Pre.app _ _) (Ext.upd (.inl hp))⟩
theorem RH.pushS {h:AH}{p:Addr}{ks:List Key}(r:RH K ρ h H) (hp:H p=none):RH K (ρ++[p]) (h++[.set ks]) (upd H p (.set ks)):=r.pushO hp z08
theorem RH.setO {h:AH}{n:Nat}{a:Addr}{o0 o':O}{u:HO}(r:RH K ρ h H) (e:h[n]?=some o0) (ea:ρ[n]?=some a) (hd:RO K ρ (upd H a u) o' a) (nf:o0.fz=false:=by rfl):RH K ρ (h.set n o') (upd H a u):=by
 have ext:Ext K H (L2.upd H a u):=Ext.upd (.inr (r.tracked ea e nf));refine⟨by simp[r.len],r.nd,λm o b h1 h2=>?_⟩;by_cases hm:m=n
 ·subst hm;rw[ea]at h2;cases h2;have hi:=(K8.mp e).1;rw[K19 hi]at h1;cases h1;exact hd
 ·rw[K1e (λz=>hm z.symm)]at h1;exact(r.obj m o b h1 h2).mono (Pre.refl _) ext (Y1 λz=>hm (r.nd m n b h2 (by rw[z];exact ea)))
theorem RH.set {h:AH}{n:Nat}{a:Addr}{ds0 ds:List D}{xs:List V}(r:RH K ρ h H) (e:h[n]?=.(l ds0)) (ea:ρ[n]?=some a) (hd:RDs K ρ H ds xs):RH K ρ (h.set n (.lst ds)) (upd H a (.lst xs)) :=
 r.setO e ea ⟨xs,z08,hd.mono (Pre.refl _) (Ext.upd (.inr (r.tracked ea e)))⟩
structure RG (K:K2) (ρ:List Addr) (H:Hp) (γ:G) (σ:L2.St):Prop where
 len:γ.length=σ.length
 var:∀(i:Nat) d,γ[i]?=some (some d)->∃v,σ[i]?=some (some v)/\RD K ρ H d v
theorem RG.mono {γ:G}{σ:L2.St}(p:Pre ρ ρ') (e:Ext K H H') (r:RG K ρ H γ σ):RG K ρ' H' γ σ :=
 ⟨r.len,λi d h=>let ⟨v,h1,h2⟩:=r.var i d h;⟨v,h1,h2.mono p e⟩⟩
theorem RG.set {γ:G}{σ:L2.St}{d:D}{v:V}(r:RG K ρ H γ σ) (i:Nat) (hd:RD K ρ H d v):RG K ρ H (γ.set i (some d)) (σ.set i (some v)):=by
 refine⟨by simp[r.len],λj d' h=>?_⟩;by_cases hj:i=j
 ·subst hj;have hi:i<γ.length:=by
   have:=(K8.mp h).1;simpa using this
  rw[K19 hi]at h;cases h;exact⟨v,K19 (by rw[<- r.len];exact hi),hd⟩
 ·rw[K1e hj]at h ⊢;exact r.var j d' h
structure Rel (K:K2) (ρ:List Addr) (γ:G) (h:AH) (σ:L2.St) (H:Hp):Prop where
 g:RG K ρ H γ σ
 h:RH K ρ h H
abbrev XX:=Exn->List Addr->AH->Hp->Prop
def Fin {α:Type} (K:K2) (EX:XX) (ρ:List Addr) (H:Hp) (P:α->List Addr->AH->Hp->Prop):Res α->Prop
 | .ok a h'=>∀ρ' H',Pre ρ ρ'->Ext K H H'->RH K ρ' h' H'->P a ρ' h' H'
 | .err x h'=>∀ρ' H',Pre ρ ρ'->Ext K H H'->RH K ρ' h' H'->EX x ρ' h' H'
 | .bad=>False
variable {EX:XX}{α β:Type}
theorem Fin.up {P:α->List Addr->AH->Hp->Prop}{r:Res α}(p:Pre ρ ρ') (e:Ext K H H') (f:Fin K EX ρ H P r):Fin K EX ρ' H' P r:=by
 cases r with
 | ok a h=>exact λρ2 H2 p2 e2 r2=>f ρ2 H2 (p.trans p2) (e.trans e2) r2
 | err x h=>exact λρ2 H2 p2 e2 r2=>f ρ2 H2 (p.trans p2) (e.trans e2) r2
 | bad=>exact f
theorem Fin.mono {P P':α->List Addr->AH->Hp->Prop}{r:Res α}(f:Fin K EX ρ H P r) (h:∀a ρ' h' H',Pre ρ ρ'->Ext K H H'->RH K ρ' h' H'->P a ρ' h' H'->P' a ρ' h' H'):Fin K EX ρ H P' r:=by
 cases r with
 | ok a h1=>exact λρ2 H2 p2 e2 r2=>h a ρ2 h1 H2 p2 e2 r2 (f ρ2 H2 p2 e2 r2)
 | err x h1=>exact f
 | bad=>exact f
theorem Fin.bind {P:β->List Addr->AH->Hp->Prop}{m:M α}{f:α->M β}{h:AH}(z:Fin K EX ρ H P ((m >>= f) h)):Fin K EX ρ H (λa ρ1 h1 H1=>Fin K EX ρ1 H1 P (f a h1)) (m h):=by
 rw[M.bind_eq]at z;cases e:m h with
 | ok a h1=>rw[e]at z;exact λρ2 H2 p2 e2 r2=>Fin.up p2 e2 z
 | err x h1=>rw[e]at z;exact z
 | bad=>rw[e]at z;exact z
end
def tE (K:K2) (EX:XX) (m:G->M D):TE:=λσ H Q=>∃ρ γ h,Rel K ρ γ h σ H/\Fin K EX ρ H (λd ρ' _ H'=>∀v,RD K ρ' H' d v->Q v H') (m γ h)
def tT (K:K2) (EX:XX) (m:G->M Bool):TT:=λσ H Q=>∃ρ γ h,Rel K ρ γ h σ H/\Fin K EX ρ H (λb _ _ H'=>Q b H') (m γ h)
def tL (K:K2) (EX:XX) (m:G->M (List D)):TA:=λσ H Q=>∃ρ γ h,Rel K ρ γ h σ H/\Fin K EX ρ H (λds ρ' _ H'=>∀vs,RDs K ρ' H' ds vs->Q vs H') (m γ h)
inductive Out where
 | nx (γ:G)|rt (d:D)|bk (γ:G)|ct (γ:G)
def OutP (K:K2) (D:Ends) (o:Out) (ρ:List Addr) (H:Hp):Prop:=match o with
 | .nx γ=>∀σ,RG K ρ H γ σ->D.nx σ H
 | .rt d=>∀v,RD K ρ H d v->D.rt v H
 | .bk γ=>∀σ,RG K ρ H γ σ->D.bk σ H
 | .ct γ=>∀σ,RG K ρ H γ σ->D.ct σ H
def tB (K:K2) (EX:XX) (m:G->M Out):TS:=λD σ H=>∃ρ γ h,Rel K ρ γ h σ H/\Fin K EX ρ H (λo ρ' _ H'=>OutP K D o ρ' H') (m γ h)
structure SE (X:Cx) (EX:XX) (e:Expr) (m:G->M D):Prop where
 h:PE X e (tE X.K EX m)
structure SC (X:Cx) (EX:XX) (e:Expr) (m:G->M Bool):Prop where
 h:PT X e (tT X.K EX m)
structure SA (X:Cx) (EX:XX) (es:List Expr) (m:G->M (List D)):Prop where
 h:PA X es (tL X.K EX m)
structure S1 (X:Cx) (EX:XX) (st:Stmt) (m:G->M Out):Prop where
 h:PS X st (tB X.K EX m)
structure SB (X:Cx) (EX:XX) (st:List Stmt) (m:G->M Out):Prop where
 h:PSs X st (tB X.K EX m)
theorem PE.imp {X:Cx}{e:Expr}{t t':TE}(h:PE X e t) (f:∀σ H Q,t' σ H Q->t σ H Q):PE X e t':=λpins s σ H Q I z=>h pins s σ H Q I (f σ H Q z)
theorem PT.imp {X:Cx}{e:Expr}{t t':TT}(h:PT X e t) (f:∀σ H Q,t' σ H Q->t σ H Q):PT X e t':=λpins s σ H Q I z=>h pins s σ H Q I (f σ H Q z)
theorem PA.imp {X:Cx}{e:List Expr}{t t':TA}(h:PA X e t) (f:∀σ H Q,t' σ H Q->t σ H Q):PA X e t':=λpos pins s σ H Q I z=>h pos pins s σ H Q I (f σ H Q z)
theorem PS.imp {X:Cx}{e:Stmt}{t t':TS}(h:PS X e t) (f:∀σ H Q,t' Q σ H->t Q σ H):PS X e t':=λpins s σ H Q I z=>h pins s σ H Q I (f σ H Q z)
theorem PSs.imp {X:Cx}{e:List Stmt}{t t':TS}(h:PSs X e t) (f:∀σ H Q,t' Q σ H->t Q σ H):PSs X e t':=λpins s σ H Q I z=>h pins s σ H Q I (f σ H Q z)
abbrev FE (K:K2) (EX:XX) (ρ:List Addr) (H:Hp) (Q:VK) (r:Res D):Prop:=Fin K EX ρ H (λd ρ' _ H'=>∀v,RD K ρ' H' d v->Q v H') r
theorem FE.here {K:K2}{EX:XX}{ρ:List Addr}{H:Hp}{Q:VK}{d:D}{h:AH}{v:V}(f:FE K EX ρ H Q (.ok d h)) (r:RH K ρ h H) (rd:RD K ρ H d v):Q v H:=f ρ H (Pre.refl _) (Ext.refl _ _) r v rd
theorem FE.tup {K:K2}{EX:XX}{ρ:List Addr}{H:Hp}{Q:VK}{ds:List D}{xs:List V}{h:AH}{p:Addr}(f:FE K EX ρ H Q (.ok (.tup ds) h)) (r:RH K ρ h H) (hd:RDs K ρ H ds xs) (hp:H p=none):Q (.ref p) (upd H p (.tup xs)):=by
 have e:Ext K H (L2.upd H p (.tup xs)):=Ext.upd (.inl hp);refine f ρ _ (Pre.refl _) e (r.other hp) _ ?_;simp only[RD];exact⟨p,xs,rfl,SqT.of z08,hd.mono (Pre.refl _) e⟩
theorem FE.lst {K:K2}{EX:XX}{ρ:List Addr}{H:Hp}{Q:VK}{ds:List D}{xs:List V}{h:AH}{p:Addr}(f:FE K EX ρ H Q (.ok (.ref h.length) (h++[.lst ds]))) (r:RH K ρ h H) (hd:RDs K ρ H ds xs) (hp:H p=none):Q (.ref p) (upd H p (.lst xs)):=by
 refine f (ρ++[p]) _ (Pre.app _ _) (Ext.upd (.inl hp)) (r.push hp hd) _ ?_;simp only[RD];refine⟨p,rfl,?_⟩;rw[<- r.len];simp
def getL (n:Nat):M (List D):=λh=>match h[n]? with
 | .(l xs)=>.ok xs h
 | _=>.bad
def newL (xs:List D):M D:=λh=>if xs.length<=sizeLine then .ok (.ref h.length) (h++[.lst xs]) else .bad
section
variable {X:Cx}{EX:XX}{a b c e:Expr}{pos:Pos}{ma mb mc:G->M D}
def eVar (i:Nat):G->M D:=λγ=>match γ[i]? with
 | some (some d)=>pure d
 | _=>bad
theorem z9 (i:Nat) {x:Str}(hN:X.N[i]?=some x:=by rfl) (hv:Vis X.env.scope x:=by first|exact Or.inl rfl|exact Or.inr (Or.inl rfl)|exact Or.inr (Or.inr rfl))
 (hd:(x==("__debug__":Str))=false:=by decide) (hcd:(x==("__classdict__":Str))=false:=by decide):SE X EX (.Name x pos) (eVar i) :=
 ⟨PE.imp (zG6 hN hv hd hcd) λσ H Q ⟨ρ,γ,h,rel,f⟩=>by
  have f':FE X.K EX ρ H Q (eVar i γ h):=f;unfold eVar at f';cases e:γ[i]? with
  | none=>rw[e]at f';exact f'.elim
  | some o=>cases o with
   | none=>rw[e]at f';exact f'.elim
   | some d =>
    rw[e]at f';obtain⟨v,h1,h2⟩:=rel.g.var i d e;exact⟨v,h1,FE.here f' rel.h h2⟩⟩
theorem z34 {d:D}{v:V}(h:PE X e (tC v)) (r:∀ρ H,RD X.K ρ H d v):SE X EX e (λ_=>pure d) :=
 ⟨PE.imp h λσ H Q ⟨ρ,γ,h,rel,f⟩=>FE.here f rel.h (r ρ H)⟩
theorem Z4 {i:Int}{j:Nat}:SE X EX (.Constant (.int i) j pos) (λ_=>pure (.int i)):=z34 zI9 λ_ _=>by simp[RD]
theorem z1s {i:Bool}{j:Nat}:SE X EX (.Constant (.bool i) j pos) (λ_=>pure (.bl i)):=z34 zQ5 λ_ _=>by simp[RD]
theorem z6v {j:Nat}:SE X EX (.Constant .none j pos) (λ_=>pure .non):=z34 zA8 λ_ _=>by simp[RD]
theorem Y7 {i:Str}{j:Nat}:SE X EX (.Constant (.str i) j pos) (λ_=>pure (.str i)):=z34 zF3 λ_ _=>by simp[RD]
def BR (K:K2) (EX:XX) (r:R2) (f:D->D->M D):Prop:=∀ρ h H x y v u Q,RH K ρ h H->RD K ρ H x v->RD K ρ H y u->FE K EX ρ H Q (f x y h)->r v u H Q
def e2 (f:D->D->M D) (ma mb:G->M D):G->M D:=λγ=>do
 let x <- ma γ;let y <- mb γ
 f x y
theorem z8J {r:R2}{f:D->D->M D}{ta tb:TE}(h:PE X e (tOp r (tE X.K EX ma) (tE X.K EX mb))) (hr:BR X.K EX r f):SE X EX e (e2 f ma mb) :=
 ⟨PE.imp h λσ H Q ⟨ρ,γ,h,rel,fin⟩=>⟨ρ,γ,h,rel,(Fin.bind fin).mono λx ρ1 h1 H1 p1 e1 r1 f1 v rv=>⟨ρ1,γ,h1,⟨rel.g.mono p1 e1,r1⟩,(Fin.bind f1).mono λy ρ2 h2 H2 p2 e2 r2 f2 u ru =>
  hr ρ2 h2 H2 x y v u Q r2 (rv.mono p2 e2) ru f2⟩⟩⟩
theorem z7m {op:Operator}{r:R2}{f:D->D->M D}(ho:OpR X (K3g op) r) (hr:BR X.K EX r f) (ha:SE X EX a ma) (hb:SE X EX b mb):SE X EX (.BinOp a op b pos) (e2 f ma mb) :=
 z8J (ta:=tE X.K EX ma) (tb:=tE X.K EX mb) (zR8 ho ha.h hb.h) hr
theorem zz4 {op:CmpOp}{r:R2}{f:D->D->M D}(ho:OpR X (K22 op) r) (hr:BR X.K EX r f) (ha:SE X EX a ma) (hb:SE X EX b mb) (hm:K4t op b=false):SE X EX (.Compare a [op] [b] pos) (e2 f ma mb) :=
 z8J (ta:=tE X.K EX ma) (tb:=tE X.K EX mb) (zn2 ho ha.h hb.h hm) hr
theorem BR.or {K:K2}{r r':R2}{f g f':D->D->M D}(h:BR K EX r f) (h':BR K EX r' g) (e:∀x y,(∀z,f' x y z=f x y z)\/(∀z,f' x y z=g x y z)):BR K EX (λx y H Q=>r x y H Q\/r' x y H Q) f':=by
 intro ρ h0 H x y v u Q r0 rx ry fin;rcases e x y with z|z
 ·exact .inl (h ρ h0 H x y v u Q r0 rx ry (by rw[<- z h0];exact fin))
 ·exact .inr (h' ρ h0 H x y v u Q r0 rx ry (by rw[<- z h0];exact fin))
def fI (g:Int->Int->D):D->D->M D
 | .int i,.int j=>pure (g i j)
 | _,_=>bad
theorem zr2 {K:K2}{g:Int->Int->D}{g':Int->Int->V}(hg:∀i j ρ H,RD K ρ H (g i j) (g' i j)):BR K EX (rI0 g') (fI g):=by
 intro ρ h H x y v u Q r rx ry fin;unfold fI at fin;split at fin
 ·simp only[RD]at rx ry;subst rx;subst ry;exact⟨_,_,rfl,rfl,FE.here fin r (hg _ _ _ _)⟩
 ·exact fin.elim
def fIC (C:Int->Int->Bool) (g:Int->Int->D):D->D->M D
 | .int i,.int j=>if C i j then pure (g i j) else bad
 | _,_=>bad
theorem zu3 {K:K2}{C:Int->Int->Bool}{C':Int->Int->Prop}{g:Int->Int->D}{g':Int->Int->V}(hc:∀i j,C i j=true->C' i j) (hg:∀i j ρ H,RD K ρ H (g i j) (g' i j)):BR K EX (rI C' g') (fIC C g):=by
 intro ρ h H x y v u Q r rx ry fin;unfold fIC at fin;split at fin
 ·simp only[RD]at rx ry;subst rx;subst ry;split at fin
  ·rename_i hC;exact⟨_,_,rfl,rfl,hc _ _ hC,FE.here fin r (hg _ _ _ _)⟩
  ·exact fin.elim
 ·exact fin.elim
def fSub:=fI λi j=>.int (i - j)
def fDiv:=fIC (λ_ j=>decide (0<j)&&decide (j<1073741824)) λi j=>.int (i / j)
def fMod:=fIC (λ_ j=>decide (0<j)) λi j=>.int (i % j)
def fPow:=fIC (λi j=>decide (0<=j)&&decide (j<=1000)&&decide (-(2 ^ 64)<i)&&decide (i<2 ^ 64)) λi j=>.int (i ^ j.toNat)
theorem zj7 (ha:SE X EX a ma) (hb:SE X EX b mb):SE X EX (.BinOp a .Sub b pos) (e2 fSub ma mb):=z7m zH9 (zr2 λi j ρ H=>by simp[RD]) ha hb
theorem z5b (ha:SE X EX a ma) (hb:SE X EX b mb):SE X EX (.BinOp a .FloorDiv b pos) (e2 fDiv ma mb):=z7m zt5 (zu3 (λi j h=>by simp at h;exact h) λi j ρ H=>by simp[RD]) ha hb
theorem z2y (ha:SE X EX a ma) (hb:SE X EX b mb):SE X EX (.BinOp a .Mod b pos) (e2 fMod ma mb):=z7m zD8 (zu3 (λi j h=>by simpa using h) λi j ρ H=>by simp[RD]) ha hb
theorem z7R (ha:SE X EX a ma) (hb:SE X EX b mb):SE X EX (.BinOp a .Pow b pos) (e2 fPow ma mb):=z7m zK6 (zu3 (λi j h=>by
 simp at h;refine⟨h.1.1.1,by omega,?_⟩;have h1:=h.1.2;have h2:=h.2;omega) λi j ρ H=>by simp[RD]) ha hb
def fAdd:D->D->M D
 | .int i,.int j=>pure (.int (i+j))
 | .str i,.str j=>if i.length+j.length<=sizeLine then pure (.str (i++j)) else bad
 | .ref i,.ref j=>do
  let x <- getL i;let y <- getL j
  newL (x++y)
 | .tup x,.tup y=>if !decide (x.length+y.length<=sizeLine) then bad else pure (.tup (x++y))
 | _,_=>bad
theorem z0N {n:Nat}{h h1:AH}{xs:List D}(e:getL n h=.ok xs h1):h1=h/\h[n]?=.(l xs):=by
 unfold getL at e;split at e
 ·rename_i q;cases e;exact⟨rfl,q⟩
 ·cases e
theorem z0M {n:Nat}{h h1:AH}{x:Exn}(e:getL n h=.err x h1):False:=by
 unfold getL at e;split at e<;>cases e
def zn7 (K:K2):R2:=λx y H Q=>∃a b ys,x=.ref a/\y=.ref b/\SqT K H a []/\SqT K H b ys/\Q (.ref b) H
theorem zr7:OpR X (K3g .Add) (zn7 X.K):=by
 intro pins s σ H x y v u Q I rx ry h;obtain⟨a,b,ys,rfl,rfl,ha,hb,q⟩:=h;cases rx;cases ry;obtain⟨its,r1,p1,_⟩:=I.tuple ha;obtain⟨its2,r2,p2,_⟩:=I.tuple hb;have e:its=[]:=(r1.nil_iff).mpr rfl;subst e;obtain⟨⟨cls,dd,data,sl⟩,ho,hc,n,hd⟩:=id p1;obtain⟨⟨cls2,dd2,data2,sl2⟩,ho2,hc2,n2,hd2⟩:=id p2;simp only at hc hd hc2 hd2;subst hc hd hc2 hd2;exact Z0u ⟨_,ho,rfl⟩ ⟨_,ho2,rfl⟩ K8f K9y K65 K5p (K5e _ _) (tuple_addW0 a b _ _ n n2 dd dd2 sl sl2 rfl) ⟨ho,ho2,.ref b,H,I,rfl,q⟩
theorem zs6:OpR X (K3g .Add) (λx y H Q=>rI0 (λi j=>.int (i+j)) x y H Q\/(∃i j,x=.str i/\y=.str j/\i.length+j.length<=sizeLine/\Q (.str (i++j)) H)\/rCat x y H Q\/zs1 X.K x y H Q\/zn7 X.K x y H Q) :=
 op_add.or (op_add_str.or (op_cat.or (op_catT.or zr7)))
theorem zm7:BR X.K EX (λx y H Q=>rI0 (λi j=>.int (i+j)) x y H Q\/(∃i j,x=.str i/\y=.str j/\i.length+j.length<=sizeLine/\Q (.str (i++j)) H)\/rCat x y H Q\/zs1 X.K x y H Q\/zn7 X.K x y H Q) fAdd:=by
 intro ρ h H x y v u Q r rx ry fin;unfold fAdd at fin;split at fin
 ·simp only[RD]at rx ry;subst rx;subst ry;exact .inl ⟨_,_,rfl,rfl,FE.here fin r (by simp[RD])⟩
 ·simp only[RD]at rx ry;subst rx;subst ry;split at fin
  ·rename_i hl;exact .inr (.inl ⟨_,_,rfl,rfl,hl,FE.here fin r (by simp[RD])⟩)
  ·exact fin.elim
 ·rename_i i j;simp only[RD]at rx ry;obtain⟨ai,rfl,hi⟩:=rx;obtain⟨aj,rfl,hj⟩:=ry;have f1:=Fin.bind fin;cases e:getL i h with
  | bad=>rw[e]at f1;exact f1.elim
  | err z hz=>exact(z0M e).elim
  | ok xs h1 =>
   obtain⟨rfl,q1⟩:=z0N e;rw[e]at f1;have f2:=Fin.bind (f1 ρ H (Pre.refl _) (Ext.refl _ _) r);cases e3:getL j h1 with
   | bad=>rw[e3]at f2;exact f2.elim
   | err z hz=>exact(z0M e3).elim
   | ok ys h2 =>
    obtain⟨rfl,q2⟩:=z0N e3;rw[e3]at f2;have f3:=f2 ρ H (Pre.refl _) (Ext.refl _ _) r;dsimp only at f3;unfold newL at f3;split at f3
    ·rename_i hl;obtain⟨a1,n1,xs1,o1,d1⟩:=r.at q1;obtain⟨a2,n2,xs2,o2,d2⟩:=r.at q2;rw[hi]at n1;cases n1;rw[hj]at n2;cases n2;refine .inr (.inr (.inl ⟨_,_,_,_,rfl,rfl,o1,o2,?_,λp hp=>FE.lst f3 r (d1.append d2) hp⟩));rw[<- d1.length,<- d2.length,<- K06];exact hl
    ·exact f3.elim
 ·rename_i x y;simp only[RD]at rx ry;obtain⟨ax,xs,rfl,hx,dx⟩:=rx;obtain⟨ay,ys,rfl,hy,dy⟩:=ry;split at fin
  ·exact fin.elim
  ·rename_i hc;simp at hc;have l1:=dx.length;have l2:=dy.length;by_cases hxe:xs=[]
   ·subst hxe;have xe:x=[]:=by simpa using l1
    subst xe;refine .inr (.inr (.inr (.inr ⟨ax,ay,ys,rfl,rfl,hx,hy,FE.here fin r ?_⟩)));simp only[RD];exact⟨ay,ys,rfl,hy,by simpa using dy⟩
   refine .inr (.inr (.inr (.inl ⟨ax,ay,xs,ys,rfl,rfl,hx,hy,hxe,by omega,λe=>?_,λe p hp=>FE.tup fin r (dx.append dy) hp⟩)))
   ·subst e;refine FE.here fin r ?_;simp only[RD];have:y=[]:=by simpa using l2
    subst this;exact⟨ax,xs,rfl,hx,by simpa using dx⟩
 ·exact fin.elim
theorem z0t (ha:SE X EX a ma) (hb:SE X EX b mb):SE X EX (.BinOp a .Add b pos) (e2 fAdd ma mb):=z7m zs6 zm7 ha hb
def fMul:D->D->M D
 | .int i,.int j=>if (decide (-(2 ^ 64)<i)&&decide (i<2 ^ 64))||(decide (-(2 ^ 64)<j)&&decide (j<2 ^ 64)) then pure (.int (i * j)) else bad
 | .ref i,.int j=>do
  let x <- getL i
  if decide (-(2 ^ 63)<=j)&&decide (j<2 ^ 63) then newL (K0n j.toNat x).flatten else bad
 | _,_=>bad
theorem zF0:BR X.K EX (λx y H Q=>rI CMul (λi j=>.int (i * j)) x y H Q\/rRep x y H Q) fMul:=by
 intro ρ h H x y v u Q r rx ry fin;unfold fMul at fin;split at fin
 ·simp only[RD]at rx ry;subst rx;subst ry;split at fin
  ·rename_i hc;refine .inl ⟨_,_,rfl,rfl,?_,FE.here fin r (by simp[RD])⟩;simp only[K33,K0h,decide_eq_true_eq]at hc;exact hc
  ·exact fin.elim
 ·rename_i i j;simp only[RD]at rx ry;obtain⟨ai,rfl,hi⟩:=rx;subst ry;have f1:=Fin.bind fin;cases e:getL i h with
  | bad=>rw[e]at f1;exact f1.elim
  | err z hz=>exact(z0M e).elim
  | ok xs h1 =>
   obtain⟨rfl,q1⟩:=z0N e;rw[e]at f1;have f2:=f1 ρ H (Pre.refl _) (Ext.refl _ _) r;dsimp only at f2;split at f2
   ·rename_i hb;simp only[K0h,decide_eq_true_eq]at hb;unfold newL at f2;split at f2
    ·rename_i hl;obtain⟨a1,n1,xs1,o1,d1⟩:=r.at q1;rw[hi]at n1;cases n1;refine .inr ⟨_,_,_,rfl,rfl,o1,hb.1,hb.2,?_,λp hp=>FE.lst f2 r (d1.flat j.toNat) hp⟩;rw[L2.len_rep,d1.length]at hl;rw[K5x];exact hl
    ·exact f2.elim
   ·exact f2.elim
 ·exact fin.elim
def fCmp (g:Int->Int->Bool):D->D->M D:=fI λi j=>.bl (g i j)
def fLt:D->D->M D
 | .int i,.int j=>pure (.bl (decide (i<j)))
 | .str i,.str j=>pure (.bl (decide (i.cps.toList<j.cps.toList)))
 | _,_=>bad
def fLe:D->D->M D
 | .int i,.int j=>pure (.bl (decide (i<=j)))
 | .str i,.str j=>pure (.bl (!decide (j.cps.toList<i.cps.toList)))
 | _,_=>bad
def fGt:D->D->M D:=fCmp λi j=>decide (j<i)
def fGe:D->D->M D:=fCmp λi j=>decide (j<=i)
theorem z7M:OpR X (K22 .LtE) (λx y H Q=>∃i j,x=.str i/\y=.str j/\Q (.bl (!decide (j.cps.toList<i.cps.toList))) H):=by
 intro pins s σ H x y v u Q I rx ry h;obtain⟨i,j,rfl,rfl,q⟩:=h;obtain⟨t,rfl⟩:=rx;obtain⟨t',rfl⟩:=ry;exact PySem.P.le_str ⟨.bl _,H,I,rfl,q⟩
theorem zR9 {K:K2}:BR K EX (λx y H Q=>rI0 (λi j=>.bl (decide (i<j))) x y H Q\/∃i j,x=.str i/\y=.str j/\Q (.bl (decide (i.cps.toList<j.cps.toList))) H) fLt:=by
 intro ρ h H x y v u Q r rx ry fin;unfold fLt at fin;split at fin
 ·simp only[RD]at rx ry;subst rx;subst ry;exact .inl ⟨_,_,rfl,rfl,FE.here fin r (by simp[RD])⟩
 ·simp only[RD]at rx ry;subst rx;subst ry;exact .inr ⟨_,_,rfl,rfl,FE.here fin r (by simp[RD])⟩
 ·exact fin.elim
theorem zM8 {K:K2}:BR K EX (λx y H Q=>rI0 (λi j=>.bl (decide (i<=j))) x y H Q\/∃i j,x=.str i/\y=.str j/\Q (.bl (!decide (j.cps.toList<i.cps.toList))) H) fLe:=by
 intro ρ h H x y v u Q r rx ry fin;unfold fLe at fin;split at fin
 ·simp only[RD]at rx ry;subst rx;subst ry;exact .inl ⟨_,_,rfl,rfl,FE.here fin r (by simp[RD])⟩
 ·simp only[RD]at rx ry;subst rx;subst ry;exact .inr ⟨_,_,rfl,rfl,FE.here fin r (by simp[RD])⟩
 ·exact fin.elim
def eqD:D->D->Option Bool
 | .int i,.int j=>some (decide (i=j))
 | .str i,.str j=>some (decide (i=j))
 | .bl i,.bl j=>some (decide (i=j))
 | .non,.non=>some true
 | .int _,.str _=>some false
 | .str _,.int _=>some false
 | .non,.int _=>some false
 | .int _,.non=>some false
 | .non,.str _=>some false
 | .str _,.non=>some false
 | _,_=>none
def fEq (neg:Bool):D->D->M D:=λx y=>match eqD x y with
 | some b=>pure (.bl (b != neg))
 | none=>bad
theorem zu7 {K:K2}{ρ:List Addr}{H:Hp}{x y:D}{v u:V}{k:Bool}(e:eqD x y=some k) (rx:RD K ρ H x v) (ry:RD K ρ H y u):scal v u=true/\decide (v=u)=k:=by
 cases x<;>cases y<;>first
  | (have e':none=some k:=e
     exact nomatch e')
  | (simp only[eqD]at e
     simp only[RD]at rx ry;subst rx;subst ry;cases e;exact⟨rfl,by simp⟩)
theorem zR4 {K:K2}:BR K EX rEq (fEq false):=by
 intro ρ h H x y v u Q r rx ry fin;unfold fEq at fin;cases hk:eqD x y with
 | none=>rw[hk]at fin;exact fin.elim
 | some k =>
  rw[hk]at fin;obtain⟨h1,h2⟩:=zu7 hk rx ry;refine⟨h1,?_⟩;rw[h2];refine FE.here fin r ?_;cases k<;>simp[RD]
def z1a:D->Bool
 | .non=>true
 | .bl _=>true
 | .int _=>true
 | .str _=>true
 | _=>false
def eqF:D->D->Bool
 | .non,.non=>true
 | .bl a,.bl b=>a==b
 | .bl a,.int b=>(if a then 1 else 0)==b
 | .int a,.bl b=>a==(if b then 1 else 0)
 | .int a,.int b=>a==b
 | .str a,.str b=>a==b
 | _,_=>false
def seqD:D->M (List D)
 | .tup xs=>pure xs
 | .fl xs=>pure xs
 | .ref n=>getL n
 | _=>bad
def fIn (neg:Bool):D->D->M D:=λx y=>do
 let ys <- seqD y
 if z1a x&&ys.all z1a then pure (.bl ((ys.any λz=>eqF z x) != neg)) else bad
theorem z6M {K:K2}{ρ:List Addr}{H:Hp}{x:D}{v:V}(f:z1a x=true) (r:RD K ρ H x v):z3S v=true:=by
 cases x<;>simp only[RD]at r<;>first|(subst r;rfl)|cases f
theorem zu9 {K:K2}{ρ:List Addr}{H:Hp}{x y:D}{v u:V}(f:z1a x=true) (f':z1a y=true) (r:RD K ρ H x v) (r':RD K ρ H y u):eqV v u=eqF x y:=by
 cases x with
 | non=>simp only[RD]at r;subst r;cases y<;>first|(simp only[RD]at r';subst r';rfl)|cases f'
 | bl b=>simp only[RD]at r;subst r;cases y<;>first|(simp only[RD]at r';subst r';rfl)|cases f'
 | int b=>simp only[RD]at r;subst r;cases y<;>first|(simp only[RD]at r';subst r';rfl)|cases f'
 | str b=>simp only[RD]at r;subst r;cases y<;>first|(simp only[RD]at r';subst r';rfl)|cases f'
 | tup b=>cases f
 | fl b=>cases f
 | ref b=>cases f
theorem z5m {K:K2}{ρ:List Addr}{H:Hp}:∀{xs:List D}{vs:List V},RDs K ρ H xs vs->xs.all z1a=true->vs.all z3S=true
 | [],vs,r,_=>by simp only[RDs]at r;subst r;rfl
 | x::xs,vs,r,f=>by
  simp only[RDs]at r;obtain⟨v,r2,rfl,h1,h2⟩:=r;rw[K5b,K0h]at f ⊢;exact⟨z6M f.1 h1,z5m h2 f.2⟩
theorem z9p {K:K2}{ρ:List Addr}{H:Hp}{x:D}{v:V}(f:z1a x=true) (r:RD K ρ H x v):∀{xs:List D}{vs:List V},RDs K ρ H xs vs->xs.all z1a=true->(vs.any λy=>eqV y v)=xs.any λz=>eqF z x
 | [],vs,rs,_=>by simp only[RDs]at rs;subst rs;rfl
 | y::xs,vs,rs,fs=>by
  simp only[RDs]at rs;obtain⟨u,r2,rfl,h1,h2⟩:=rs;rw[K5b,K0h]at fs;rw[K2t,K2t,zu9 fs.1 f h1 r,z9p f r h2 fs.2]
theorem z1A {K:K2}{ρ:List Addr}{h h1:AH}{H:Hp}{y:D}{u:V}{ys:List D}(r:RH K ρ h H) (ry:RD K ρ H y u) (e:seqD y h=.ok ys h1):h1=h/\∃p xs,u=.ref p/\(SqL K H p xs\/SqT K H p xs)/\RDs K ρ H ys xs:=by
 unfold seqD at e;split at e
 ·cases e;simp only[RD]at ry;obtain⟨p,xs,rfl,h2,h3⟩:=ry;exact⟨rfl,p,xs,rfl,.inr h2,h3⟩
 ·cases e;simp only[RD]at ry;obtain⟨p,xs,rfl,h2,h3⟩:=ry;exact⟨rfl,p,xs,rfl,.inl h2.sq,h3⟩
 ·obtain⟨rfl,q⟩:=z0N e;simp only[RD]at ry;obtain⟨p,rfl,h2⟩:=ry;obtain⟨a,n1,xs,o1,d1⟩:=r.at q;rw[h2]at n1;cases n1;exact⟨rfl,p,xs,rfl,.inl (SqL.of o1),d1⟩
 ·cases e
theorem z2t {y:D}{h h1:AH}{x:Exn}(e:seqD y h=.err x h1):False:=by
 unfold seqD at e;split at e
 ·cases e
 ·cases e
 ·exact z0M e
 ·cases e
theorem zP7 {K:K2}{neg:Bool}:BR K EX (rIn K neg) (fIn neg):=by
 intro ρ h H x y v u Q r rx ry fin;have f1:=Fin.bind fin;cases e:seqD y h with
 | bad=>rw[e]at f1;exact f1.elim
 | err z hz=>exact(z2t e).elim
 | ok ys h1 =>
  obtain⟨rfl,p,xs,rfl,hs,hd⟩:=z1A r ry e;rw[e]at f1;have f2:=f1 ρ H (Pre.refl _) (Ext.refl _ _) r;dsimp only at f2;split at f2
  ·rename_i hc;rw[K0h]at hc;refine⟨p,xs,rfl,hs,z6M hc.1 rx,z5m hd hc.2,?_⟩;refine FE.here f2 r ?_;unfold inV;rw[z9p hc.1 rx hd hc.2];cases neg<;>simp[RD]
  ·exact f2.elim
end
section
variable {env:Env}{es:List Expr}
theorem z5x {c k p}:K05 (.Constant c k p::es) env=(false,eval (.Constant c k p) env)::K05 es env:=rfl
theorem zm2 {c p}:K05 (.Name c p::es) env=(false,eval (.Name c p) env)::K05 es env:=rfl
theorem zm6 {a b c p}:K05 (.Call a b c p::es) env=(false,eval (.Call a b c p) env)::K05 es env:=rfl
theorem zb3 {a b c p}:K05 (.BinOp a b c p::es) env=(false,eval (.BinOp a b c p) env)::K05 es env:=rfl
theorem z7r {a b c p}:K05 (.Compare a b c p::es) env=(false,eval (.Compare a b c p) env)::K05 es env:=rfl
theorem z5c {a b p}:K05 (.Subscript a b p::es) env=(false,eval (.Subscript a b p) env)::K05 es env:=rfl
theorem za2 {a b p}:K05 (.Tuple a b p::es) env=(false,eval (.Tuple a b p) env)::K05 es env:=rfl
theorem zk2 {a p}:K05 (.List a p::es) env=(false,eval (.List a p) env)::K05 es env:=rfl
theorem z7l {a b p}:K05 (.UnaryOp a b p::es) env=(false,eval (.UnaryOp a b p) env)::K05 es env:=rfl
theorem z5L {a b c p}:K05 (.ListComp a b c p::es) env=(false,eval (.ListComp a b c p) env)::K05 es env:=rfl
end
section
variable {X:Cx}{EX:XX}{a b c e:Expr}{pos:Pos}{ma mb mc:G->M D}
def CO (X:Cx) (EX:XX) (op:CmpOp) (f:D->D->M D):Prop:=∃r,OpR X (K22 op) r/\BR X.K EX r f
theorem zc7:CO X EX .Lt fLt:=⟨_,op_lt.or z8D,zR9⟩
theorem zu1:CO X EX .LtE fLe:=⟨_,op_le.or z7M,zM8⟩
theorem z9A:CO X EX .Gt fGt:=⟨_,zN1,zr2 λi j ρ H=>by simp[RD]⟩
theorem zd8:CO X EX .GtE fGe:=⟨_,zS4,zr2 λi j ρ H=>by simp[RD]⟩
theorem z2s:CO X EX .Eq (fEq false):=⟨_,zP3,zR4⟩
theorem z39:CO X EX .NotIn (fIn true):=⟨_,z5r,zP7⟩
def fIs (neg:Bool):D->D->M D:=λx y=>match y with
 | .non=>(match x with
  | .non=>pure (.bl (true != neg))
  | .bl _=>pure (.bl (false != neg))
  | .int _=>pure (.bl (false != neg))
  | .str _=>pure (.bl (false != neg))
  | .tup _=>pure (.bl (false != neg))
  | .ref _=>pure (.bl (false != neg))
  | .fl _=>pure (.bl (false != neg)))
 | .bl k=>(match x with
  | .bl j=>pure (.bl ((j==k) != neg))
  | .non=>pure (.bl (false != neg))
  | .int _=>pure (.bl (false != neg))
  | .str _=>pure (.bl (false != neg))
  | .tup _=>pure (.bl (false != neg))
  | .ref _=>pure (.bl (false != neg))
  | .fl _=>pure (.bl (false != neg)))
 | _=>bad
theorem z6x (neg:Bool):OpR X (K22 (if neg then .IsNot else .Is)) (λx y H Q=>(y=.non/\Q (.bl ((decide (x=.non)) != neg)) H)\/∃k,y=.bl k/\Q (.bl ((decide (x=.bl k)) != neg)) H):=by
 intro pins s σ H x y v u Q I rx ry h;have pl:∀{a b:Value},plainIs a b=true->EP X pins σ Q (.bool ((a==b) != neg)) s->wpAny (model X.prog X.w) X.A (K22 (if neg then .IsNot else .Is) a b) (EP X pins σ Q) X.xe s:=λ{a b} hp hq=>by
  cases neg with
  | false=>exact wpAny_is_plain hp (by simpa using hq)
  | true=>exact wpAny_isNot_plain hp (by simpa using hq)
 rcases h with ⟨rfl,q⟩|⟨k,rfl,q⟩
 ·cases ry;have fin:∀{a:Value} {w:Bool},w=decide (x=.non)->(a==K2x)=w->EP X pins σ Q (.bool ((a==K2x) != neg)) s:=λ{a w} e1 e2=>by
   rw[e2,e1];exact⟨.bl _,H,I,rfl,q⟩
  cases x with
  | non=>cases rx;exact pl rfl (fin (w:=true) (by simp) rfl)
  | bl j=>cases rx;exact pl rfl (fin (w:=false) (by simp) rfl)
  | int j=>obtain⟨t,rfl⟩:=rx;exact pl rfl (fin (w:=false) (by simp) rfl)
  | str j=>obtain⟨t,rfl⟩:=rx;exact pl rfl (fin (w:=false) (by simp) rfl)
  | byt j=>obtain⟨t,rfl⟩:=rx;exact pl rfl (fin (w:=false) (by simp) rfl)
  | flt j=>obtain⟨t,rfl⟩:=rx;exact pl rfl (fin (w:=false) (by simp) rfl)
  | ref j=>cases rx;exact pl rfl (fin (w:=false) (by simp) rfl)
  | ty j=>cases rx;exact pl rfl (fin (w:=false) (by simp) rfl)
 ·cases ry;have fin:∀{a:Value} {w:Bool},w=decide (x=.bl k)->(a==K78 k)=w->EP X pins σ Q (.bool ((a==K78 k) != neg)) s:=λ{a w} e1 e2=>by
   rw[e2,e1];exact⟨.bl _,H,I,rfl,q⟩
  cases x with
  | non=>cases rx;exact pl rfl (fin (w:=false) (by simp) rfl)
  | bl j=>cases rx;exact pl rfl (fin (w:=(j==k)) (by rw[K17];simp) (by cases j<;>cases k<;>rfl))
  | int j=>obtain⟨t,rfl⟩:=rx;exact pl rfl (fin (w:=false) (by simp) rfl)
  | str j=>obtain⟨t,rfl⟩:=rx;exact pl rfl (fin (w:=false) (by simp) rfl)
  | byt j=>obtain⟨t,rfl⟩:=rx;exact pl rfl (fin (w:=false) (by simp) rfl)
  | flt j=>obtain⟨t,rfl⟩:=rx;exact pl rfl (fin (w:=false) (by simp) rfl)
  | ref j=>cases rx;exact pl rfl (fin (w:=false) (by simp) rfl)
  | ty j=>cases rx;exact pl rfl (fin (w:=false) (by simp) rfl)
theorem z8m {K:K2}{ρ:List Addr}{H:Hp}{x:D}{v:V}(rx:RD K ρ H x v):decide (v=.non)=(match x with|.non=>true|_=>false):=by
 cases x<;>simp only[RD]at rx
 case non=>subst rx;simp
 case bl=>subst rx;simp
 case int=>subst rx;simp
 case str=>subst rx;simp
 case tup=>obtain⟨a,xs,rfl,_⟩:=rx;simp
 case fl=>obtain⟨a,xs,rfl,_⟩:=rx;simp
 case ref=>obtain⟨a,rfl,_⟩:=rx;simp
theorem zc5 {K:K2}{ρ:List Addr}{H:Hp}{x:D}{v:V}{k:Bool}(rx:RD K ρ H x v):decide (v=.bl k)=(match x with|.bl j=>j==k|_=>false):=by
 cases x<;>simp only[RD]at rx
 case non=>subst rx;simp
 case bl j=>subst rx;cases j<;>cases k<;>rfl
 case int=>subst rx;simp
 case str=>subst rx;simp
 case tup=>obtain⟨a,xs,rfl,_⟩:=rx;simp
 case fl=>obtain⟨a,xs,rfl,_⟩:=rx;simp
 case ref=>obtain⟨a,rfl,_⟩:=rx;simp
theorem zI2 {K:K2}(neg:Bool):BR K EX (λx y H Q=>(y=.non/\Q (.bl ((decide (x=.non)) != neg)) H)\/∃k,y=.bl k/\Q (.bl ((decide (x=.bl k)) != neg)) H) (fIs neg):=by
 intro ρ h H x y v u Q r rx ry fin;cases y with
 | non =>
  simp only[RD]at ry;refine .inl ⟨ry,?_⟩;rw[z8m rx];cases x<;>first|exact(show False from fin).elim|exact FE.here fin r (by simp[RD])
 | bl k =>
  simp only[RD]at ry;refine .inr ⟨k,ry,?_⟩;rw[zc5 rx];cases x<;>first|exact(show False from fin).elim|exact FE.here fin r (by simp[RD])
 | _=>exact(show False from fin).elim
theorem zK1:CO X EX .Is (fIs false):=⟨_,z6x false,zI2 false⟩
theorem z9X:CO X EX .IsNot (fIs true):=⟨_,z6x true,zI2 true⟩
theorem se_c {op:CmpOp}{f:D->D->M D}(h:CO X EX op f) (ha:SE X EX a ma) (hb:SE X EX b mb) (hm:K4t op b=false:=by first|exact zh1 _|with_unfolding_all rfl):SE X EX (.Compare a [op] [b] pos) (e2 f ma mb):=by
 obtain⟨r,h1,h2⟩:=h;exact zz4 h1 h2 ha hb hm
def asB:D->M Bool
 | .bl b=>pure b
 | _=>bad
theorem zQ9 {t:TE}{m:G->M D}(h:∀σ H Q,tE X.K EX m σ H Q->t σ H Q):∀σ H Q,tT X.K EX (λγ=>do let d <- m γ;asB d) σ H Q->zx8 t σ H Q:=by
 intro σ H Q ⟨ρ,γ,h0,rel,fin⟩;refine h σ H _ ⟨ρ,γ,h0,rel,(Fin.bind fin).mono λd ρ1 h1 H1 p1 e1 r1 f1 v rv=>?_⟩;cases d<;>first|exact(show False from f1).elim|skip
 rename_i b;simp only[RD]at rv;exact⟨b,rv,f1 ρ1 H1 (Pre.refl _) (Ext.refl _ _) r1⟩
theorem sc_c {op:CmpOp}{f:D->D->M D}(h:CO X EX op f) (ha:SE X EX a ma) (hb:SE X EX b mb) (hm:K4t op b=false:=by first|exact zh1 _|with_unfolding_all rfl):SC X EX (.Compare a [op] [b] pos) (λγ=>do let d <- e2 f ma mb γ;asB d):=by
 constructor;obtain⟨r,h1,h2⟩:=h;refine PT.imp (zl5 h1 ha.h hb.h hm) (zQ9 λσ H Q ⟨ρ,γ,h,rel,fin⟩=>?_);exact⟨ρ,γ,h,rel,(Fin.bind fin).mono λx ρ1 h1 H1 p1 e1 r1 f1 v rv=>⟨ρ1,γ,h1,⟨rel.g.mono p1 e1,r1⟩,(Fin.bind f1).mono λy ρ2 h3 H2 p2 e2 r2 f2 u ru =>
  h2 ρ2 h3 H2 x y v u Q r2 (rv.mono p2 e2) ru f2⟩⟩
def e3 (f g:D->D->M D) (ma mb mc:G->M D):G->M D:=λγ=>do
 let x <- ma γ;let y <- mb γ;let k <- f x y;let t <- asB k
 if t then do
  let z <- mc γ
  g y z
 else pure (.bl false)
theorem ze0 {r r':R2}{f g:D->D->M D}(h2:BR X.K EX r f) (h4:BR X.K EX r' g):∀σ H Q,tE X.K EX (e3 f g ma mb mc) σ H Q->zg3 r r' (tE X.K EX ma) (tE X.K EX mb) (tE X.K EX mc) σ H Q:=by
 intro σ H Q ⟨ρ,γ,h,rel,fin⟩;refine⟨ρ,γ,h,rel,(Fin.bind fin).mono λx ρ1 h1 H1 p1 e1 r1 f1 v rv=>⟨ρ1,γ,h1,⟨rel.g.mono p1 e1,r1⟩,(Fin.bind f1).mono λy ρ2 h3 H2 p2 e2 r2 f2 u ru=>?_⟩⟩;refine h2 ρ2 h3 H2 x y v u _ r2 (rv.mono p2 e2) ru ((Fin.bind f2).mono λk ρ3 h5 H3 p3 e3 r3 f3 z rz=>?_);cases k<;>first|exact(show False from f3).elim|skip
 rename_i t;simp only[RD]at rz;refine⟨t,rz,?_⟩;cases t with
 | false =>
  rw[if_neg (by decide)];exact FE.here (d:=.bl false) (h:=h5) (ρ:=ρ3) f3 r3 (by simp[RD])
 | true =>
  rw[if_pos rfl];have f4:Fin X.K EX ρ3 H3 (λd ρ' _ H'=>∀v,RD X.K ρ' H' d v->Q v H') ((mc γ >>= λz=>g y z) h5):=f3;exact⟨ρ3,γ,h5,⟨((rel.g.mono p1 e1).mono p2 e2).mono p3 e3,r3⟩,(Fin.bind f4).mono λw ρ4 h6 H4 p4 e4 r4 f5 q rq=>h4 ρ4 h6 H4 y w u q Q r4 ((ru.mono p3 e3).mono p4 e4) rq f5⟩
theorem zB0 {op op':CmpOp}{f g:D->D->M D}(h:CO X EX op f) (h':CO X EX op' g) (ha:SE X EX a ma) (hb:SE X EX b mb) (hc:SE X EX c mc) (hm:lastMarks [op,op'] [b,c]=false:=by with_unfolding_all rfl):SE X EX (.Compare a [op,op'] [b,c] pos) (e3 f g ma mb mc):=by
 constructor;obtain⟨r,h1,h2⟩:=h;obtain⟨r',h3,h4⟩:=h';exact PE.imp (ze5 h1 h3 ha.h hb.h hc.h hm) (ze0 h2 h4)
def eAnd (ma mb:G->M D):G->M D:=λγ=>do
 let x <- ma γ;let t <- asB x
 if t then mb γ else pure (.bl false)
def eNot (ma:G->M D):G->M D:=λγ=>do
 let x <- ma γ;let t <- asB x
 pure (.bl (!t))
variable {rest:List Expr}
theorem z3Y {op:PySem.BoolOp}(ha:SE X EX a ma):SE X EX (.BoolOp op [a] pos) ma:=⟨zI8 ha.h⟩
theorem z1T (ha:SE X EX a ma) (hb:SE X EX (.BoolOp .And (b::rest) pos) mb):SE X EX (.BoolOp .And (a::b::rest) pos) (eAnd ma mb) :=
 ⟨PE.imp (zJ3 ha.h hb.h) λσ H Q ⟨ρ,γ,h,rel,fin⟩=>⟨ρ,γ,h,rel,(Fin.bind fin).mono λx ρ1 h1 H1 p1 e1 r1 f1 v rv=>by
  cases x<;>first|exact(show False from f1).elim|skip
  rename_i t;simp only[RD]at rv;refine⟨t,rv,?_⟩;cases t with
  | true=>exact⟨ρ1,γ,h1,⟨rel.g.mono p1 e1,r1⟩,f1⟩
  | false=>exact FE.here (d:=.bl false) (h:=h1) (ρ:=ρ1) f1 r1 (by simp[RD])⟩⟩
theorem z8a (ha:SE X EX a ma):SE X EX (.UnaryOp .Not a pos) (eNot ma) :=
 ⟨PE.imp (zD4 ha.h) λσ H Q ⟨ρ,γ,h,rel,fin⟩=>⟨ρ,γ,h,rel,(Fin.bind fin).mono λx ρ1 h1 H1 p1 e1 r1 f1 v rv=>by
  cases x<;>first|exact(show False from f1).elim|skip
  rename_i t;simp only[RD]at rv;exact⟨t,rv,FE.here (d:=.bl (!t)) (h:=h1) (ρ:=ρ1) f1 r1 (by simp[RD])⟩⟩⟩
structure SW (X:Cx) (EX:XX) (e:Expr) (m:G->M Bool):Prop where
 h:PW X e (tT X.K EX m)
theorem PW.imp {X:Cx}{e:Expr}{t t':TT}(h:PW X e t) (f:∀σ H Q,t' σ H Q->t σ H Q):PW X e t':=λw pins s σ H Q I z=>h w pins s σ H Q I (f σ H Q z)
variable {ka kb kc:G->M Bool}
def cAnd (ka kb:G->M Bool):G->M Bool:=λγ=>do
 let t <- ka γ
 if t then kb γ else pure false
def cOr (ka kb:G->M Bool):G->M Bool:=λγ=>do
 let t <- ka γ
 if t then pure true else kb γ
def cNot (ka:G->M Bool):G->M Bool:=λγ=>do
 let t <- ka γ
 pure (!t)
theorem z2q (ha:SC X EX a ka):SW X EX (.BoolOp .And [a] pos) ka:=⟨zs8 ha.h⟩
theorem z2W (ha:SC X EX a ka):SW X EX (.BoolOp .Or [a] pos) ka:=⟨zH5 ha.h⟩
theorem z3y (ha:SC X EX a ka) (hb:SW X EX (.BoolOp .And (b::rest) pos) kb):SW X EX (.BoolOp .And (a::b::rest) pos) (cAnd ka kb) :=
 ⟨PW.imp (zK9 ha.h hb.h) λσ H Q ⟨ρ,γ,h,rel,fin⟩=>⟨ρ,γ,h,rel,(Fin.bind fin).mono λt ρ1 h1 H1 p1 e1 r1 f1=>by
  cases t with
  | true=>exact⟨ρ1,γ,h1,⟨rel.g.mono p1 e1,r1⟩,f1⟩
  | false=>exact f1 ρ1 H1 (Pre.refl _) (Ext.refl _ _) r1⟩⟩
theorem z3l (ha:SC X EX a ka) (hb:SW X EX (.BoolOp .Or (b::rest) pos) kb):SW X EX (.BoolOp .Or (a::b::rest) pos) (cOr ka kb) :=
 ⟨PW.imp (zQ2 ha.h hb.h) λσ H Q ⟨ρ,γ,h,rel,fin⟩=>⟨ρ,γ,h,rel,(Fin.bind fin).mono λt ρ1 h1 H1 p1 e1 r1 f1=>by
  cases t with
  | false=>exact⟨ρ1,γ,h1,⟨rel.g.mono p1 e1,r1⟩,f1⟩
  | true=>exact f1 ρ1 H1 (Pre.refl _) (Ext.refl _ _) r1⟩⟩
theorem SW.sc (h:SW X EX e ka):SC X EX e ka:=⟨PW.pt h.h⟩
theorem z0v (ha:SC X EX a ka):SC X EX (.UnaryOp .Not a pos) (cNot ka) :=
 ⟨PT.imp (zJ7 ha.h) λσ H Q ⟨ρ,γ,h,rel,fin⟩=>⟨ρ,γ,h,rel,(Fin.bind fin).mono λt ρ1 h1 H1 p1 e1 r1 f1=>f1 ρ1 H1 (Pre.refl _) (Ext.refl _ _) r1⟩⟩
def truD:D->M Bool
 | .non=>pure false
 | .bl b=>pure b
 | .int i=>pure (i != 0)
 | .str y=>if y.length<=sizeLine then pure (decide (y.length≠0)) else bad
 | .tup xs=>pure (!xs.isEmpty)
 | .fl xs=>pure (!xs.isEmpty)
 | .ref n=>do
  let xs <- getL n
  pure (!xs.isEmpty)
def cVal (ma:G->M D):G->M Bool:=λγ=>do
 let x <- ma γ
 truD x
theorem isE {K:K2}{ρ:List Addr}{H:Hp}{ds:List D}{xs:List V}(h:RDs K ρ H ds xs):ds.isEmpty=xs.isEmpty:=by
 have:=h.length;cases ds<;>cases xs<;>simp at this ⊢
theorem zn3 {ρ:List Addr}{h:AH}{H:Hp}{x:D}{v:V}{Q:Bool->Hp->Prop}(r:RH X.K ρ h H) (rx:RD X.K ρ H x v) (f:Fin X.K EX ρ H (λb _ _ H'=>Q b H') (truD x h)):∃k,TruV X.K v H k/\Q k H:=by
 cases x with
 | non=>simp only[RD]at rx;subst rx;exact⟨false,rfl,f ρ H (Pre.refl _) (Ext.refl _ _) r⟩
 | bl b=>simp only[RD]at rx;subst rx;exact⟨b,rfl,f ρ H (Pre.refl _) (Ext.refl _ _) r⟩
 | int b=>simp only[RD]at rx;subst rx;exact⟨_,rfl,f ρ H (Pre.refl _) (Ext.refl _ _) r⟩
 | str y =>
  simp only[RD]at rx;subst rx;have f':Fin X.K EX ρ H (λb _ _ H'=>Q b H') ((if y.length<=sizeLine then pure (decide (y.length≠0)) else bad:M Bool) h):=f;by_cases hl:y.length<=sizeLine
  ·rw[if_pos hl]at f';refine⟨decide (y.length≠0),⟨hl,?_⟩,f' ρ H (Pre.refl _) (Ext.refl _ _) r⟩;rw[K17];simp
  ·rw[if_neg hl]at f';exact f'.elim
 | tup xs =>
  simp only[RD]at rx;obtain⟨a,vs,rfl,h1,h2⟩:=rx;exact⟨!xs.isEmpty,.inr (.inl ⟨vs,h1,by rw[isE h2]⟩),f ρ H (Pre.refl _) (Ext.refl _ _) r⟩
 | fl xs =>
  simp only[RD]at rx;obtain⟨a,vs,rfl,h1,h2⟩:=rx;exact⟨!xs.isEmpty,.inl ⟨vs,h1.sq,by rw[isE h2]⟩,f ρ H (Pre.refl _) (Ext.refl _ _) r⟩
 | ref n =>
  have f1:=Fin.bind f;cases e:getL n h with
  | bad=>rw[e]at f1;exact f1.elim
  | err z hz=>exact(z0M e).elim
  | ok xs h1 =>
   obtain⟨rfl,q1⟩:=z0N e;rw[e]at f1;have f2:=f1 ρ H (Pre.refl _) (Ext.refl _ _) r;simp only[RD]at rx;obtain⟨a,rfl,h2⟩:=rx;obtain⟨a1,n1,vs,o1,d1⟩:=r.at q1;rw[h2]at n1;cases n1;exact⟨!xs.isEmpty,.inl ⟨vs,SqL.of o1,by rw[isE d1]⟩,f2 ρ H (Pre.refl _) (Ext.refl _ _) r⟩
theorem J7 (ha:SE X EX a ma) (he:∀whole,isTrue a X.env whole=(do let v <- whole;K6n a.pos;K56 [v] (truthy v)):=by intro _;rfl):SC X EX a (cVal ma) :=
 ⟨PT.imp (zb5 ha.h he) λσ H Q ⟨ρ,γ,h,rel,fin⟩=>⟨ρ,γ,h,rel,(Fin.bind fin).mono λx ρ1 h1 H1 p1 e1 r1 f1 v rv=>zn3 r1 rv f1⟩⟩
def eIf (k:G->M Bool) (ma mb:G->M D):G->M D:=λγ=>do
 let t <- k γ
 if t then ma γ else mb γ
theorem zn5 (hc:SC X EX c kc) (ha:SE X EX a ma) (hb:SE X EX b mb):SE X EX (.IfExp c a b pos) (eIf kc ma mb) :=
 ⟨PE.imp (z9K hc.h ha.h hb.h) λσ H Q ⟨ρ,γ,h,rel,fin⟩=>⟨ρ,γ,h,rel,(Fin.bind fin).mono λt ρ1 h1 H1 p1 e1 r1 f1=>by
  cases t with
  | true=>exact⟨ρ1,γ,h1,⟨rel.g.mono p1 e1,r1⟩,f1⟩
  | false=>exact⟨ρ1,γ,h1,⟨rel.g.mono p1 e1,r1⟩,f1⟩⟩⟩
def aNil:G->M (List D):=λ_=>pure []
def Z1 (ma:G->M D) (mr:G->M (List D)):G->M (List D):=λγ=>do
 let x <- ma γ;let r <- mr γ
 pure (x::r)
variable {es:List Expr}{mr:G->M (List D)}
theorem Z5:SA X EX [] aNil:=⟨PA.imp z3u λσ H Q ⟨ρ,γ,h,rel,fin⟩=>fin ρ H (Pre.refl _) (Ext.refl _ _) rel.h [] RDs.nil⟩
theorem Z0 (ha:SE X EX a ma) (hr:SA X EX es mr) (hs:K05 (a::es) X.env=(false,eval a X.env)::K05 es X.env:=by first|exact z5x|exact zm2|exact zm6|exact zb3|exact z7r|exact z5c|exact za2|exact zk2|exact z7l|exact z5L|rfl):SA X EX (a::es) (Z1 ma mr) :=
 ⟨PA.imp (z1S ha.h hr.h hs) λσ H Q ⟨ρ,γ,h,rel,fin⟩=>⟨ρ,γ,h,rel,(Fin.bind fin).mono λx ρ1 h1 H1 p1 e1 r1 f1 v rv=>⟨ρ1,γ,h1,⟨rel.g.mono p1 e1,r1⟩,(Fin.bind f1).mono λds ρ2 h2 H2 p2 e2 r2 f2 vs rvs =>
  f2 ρ2 H2 (Pre.refl _) (Ext.refl _ _) r2 (v::vs) (RDs.cons (rv.mono p2 e2) rvs)⟩⟩⟩
def eTup (mr:G->M (List D)):G->M D:=λγ=>do
 let xs <- mr γ
 if xs.length<=sizeLine then pure (.tup xs) else bad
def eLst (mr:G->M (List D)):G->M D:=λγ=>do
 let xs <- mr γ
 newL xs
theorem z1M {k:Nat}(h:SA X EX es mr):SE X EX (.Tuple es k pos) (eTup mr) :=
 ⟨PE.imp (zF9 h.h) λσ H Q ⟨ρ,γ,h,rel,fin⟩=>⟨ρ,γ,h,rel,(Fin.bind fin).mono λxs ρ1 h1 H1 p1 e1 r1 f1 vs rvs=>by
  by_cases hl:xs.length<=sizeLine
  ·rw[if_pos hl]at f1;exact⟨by rw[<- rvs.length];exact hl,λp hp=>FE.tup (h:=h1) f1 r1 rvs hp⟩
  ·rw[if_neg hl]at f1;exact(show False from f1).elim⟩⟩
theorem z0b (h:SA X EX es mr):SE X EX (.List es pos) (eLst mr) :=
 ⟨PE.imp (zL3 h.h) λσ H Q ⟨ρ,γ,h,rel,fin⟩=>⟨ρ,γ,h,rel,(Fin.bind fin).mono λxs ρ1 h1 H1 p1 e1 r1 f1 vs rvs=>by
  unfold newL at f1;split at f1
  ·rename_i hl;exact⟨by rw[<- rvs.length];exact hl,λp hp=>FE.lst (h:=h1) f1 r1 rvs hp⟩
  ·exact(show False from f1).elim⟩⟩
def fIx:D->D->M D
 | .str z,.int i=>if z.length<=sizeLine then (match atI z.cps.toList i with
  | some c=>pure (.str ⟨#[c]⟩)
  | none=>bad) else bad
 | x,.int i=>do
  let xs <- seqD x
  match atI xs i with
  | some d=>pure d
  | none=>bad
 | _,_=>bad
theorem zr4 {K:K2}{ρ:List Addr}{H:Hp}{ds:List D}{xs:List V}{i:Int}{d:D}(h:RDs K ρ H ds xs) (e:atI ds i=some d):∃x,atI xs i=some x/\RD K ρ H d x:=by
 unfold atI at e ⊢;rw[<- h.length];cases q:ixN ds.length i with
 | none=>rw[q]at e;cases e
 | some j=>rw[q]at e;exact h.get e
theorem zN5:BR X.K EX (rIx X.K) fIx:=by
 intro ρ h H x y v u Q r rx ry fin;unfold fIx at fin;split at fin
 ·simp only[RD]at rx ry;subst rx;subst ry;rename_i z i;by_cases hl:z.length<=sizeLine
  ·rw[if_pos hl]at fin;cases hc:atI z.cps.toList i with
   | none=>rw[hc]at fin;exact fin.elim
   | some c =>
    rw[hc]at fin;exact .inr (.inr ⟨_,_,c,rfl,rfl,hl,hc,FE.here fin r (by simp[RD])⟩)
  ·rw[if_neg hl]at fin;exact fin.elim
 ·rename_i i _;simp only[RD]at ry;subst ry;have f1:=Fin.bind fin;cases e:seqD x h with
  | bad=>rw[e]at f1;exact f1.elim
  | err z hz=>exact(z2t e).elim
  | ok ys h1 =>
   obtain⟨rfl,p,xs,rfl,hs,hd⟩:=z1A r rx e;rw[e]at f1;have f2:=f1 ρ H (Pre.refl _) (Ext.refl _ _) r;dsimp only at f2;cases q:atI ys i with
   | none=>rw[q]at f2;exact f2.elim
   | some d =>
    rw[q]at f2;obtain⟨w,h2,h3⟩:=zr4 hd q;rcases hs with hs|hs
    ·exact .inl ⟨p,xs,i,w,rfl,rfl,hs,h2,FE.here f2 r h3⟩
    ·exact .inr (.inl ⟨p,xs,i,w,rfl,rfl,hs,h2,FE.here f2 r h3⟩)
 ·exact fin.elim
theorem j6 (ha:SE X EX a ma) (hb:SE X EX b mb) (hs:z86 b:=by intro _ _;rfl):SE X EX (.Subscript a b pos) (e2 fIx ma mb) :=
 z8J (ta:=tE X.K EX ma) (tb:=tE X.K EX mb) (zR6 zB4 ha.h hb.h hs) zN5
end
section
variable {X:Cx}{EX:XX}{a b c e:Expr}{pos p p2:Pos}{ma mb mc:G->M D}{es:List Expr}{mr:G->M (List D)}
def AR (K:K2) (EX:XX) (r:List V->Hp->VK->Prop) (f:List D->M D):Prop:=∀ρ h H ds vs Q,RH K ρ h H->RDs K ρ H ds vs->FE K EX ρ H Q (f ds h)->r vs H Q
def j7 (f:List D->M D) (mr:G->M (List D)):G->M D:=λγ=>do
 let xs <- mr γ
 f xs
theorem z10 {r:List V->Hp->VK->Prop}{f:List D->M D}(h:PE X e (tCB r (tL X.K EX mr))) (hr:AR X.K EX r f):SE X EX e (j7 f mr) :=
 ⟨PE.imp h λσ H Q ⟨ρ,γ,h,rel,fin⟩=>⟨ρ,γ,h,rel,(Fin.bind fin).mono λxs ρ1 h1 H1 p1 e1 r1 f1 vs rvs=>hr ρ1 h1 H1 xs vs Q r1 rvs f1⟩⟩
theorem rds1 {K:K2}{ρ:List Addr}{H:Hp}{d:D}{vs:List V}(h:RDs K ρ H [d] vs):∃v,vs=[v]/\RD K ρ H d v:=by
 simp only[RDs]at h;obtain⟨x,r,rfl,h2,rfl⟩:=h;exact⟨x,rfl,h2⟩
def fLen:List D->M D
 | [.str z]=>if z.length<=sizeLine then pure (.int z.length) else bad
 | [x]=>do
  let xs <- seqD x
  pure (.int xs.length)
 | _=>bad
theorem zL6:AR X.K EX (λxs H Q=>∃x n,xs=[x]/\LenV X.K x H n/\Q (.int n) H) fLen:=by
 intro ρ h H ds vs Q r rd fin;unfold fLen at fin;split at fin
 ·rename_i z;obtain⟨v,rfl,rv⟩:=rds1 rd;simp only[RD]at rv;subst rv;by_cases hl:z.length<=sizeLine
  ·rw[if_pos hl]at fin;exact⟨_,z.length,rfl,⟨hl,rfl⟩,FE.here fin r (by simp[RD])⟩
  ·rw[if_neg hl]at fin;exact fin.elim
 ·rename_i x _;obtain⟨v,rfl,rv⟩:=rds1 rd;have f1:=Fin.bind fin;cases e:seqD x h with
  | bad=>rw[e]at f1;exact f1.elim
  | err z hz=>exact(z2t e).elim
  | ok ys h1 =>
   obtain⟨rfl,p,xs,rfl,hs,hd⟩:=z1A r rv e;rw[e]at f1;have f2:=f1 ρ H (Pre.refl _) (Ext.refl _ _) r;refine⟨_,ys.length,rfl,?_,FE.here f2 r (by simp[RD])⟩;rw[hd.length];rcases hs with hs|hs
   ·exact .inl ⟨xs,hs,rfl⟩
   ·exact .inr ⟨xs,hs,rfl⟩
 ·exact fin.elim
theorem z07 (hg:Gl X "len") (hm:X.mg "len" = none) (ha:SA X EX [a] mr) (he:K05 [a] X.env=[(false,eval a X.env)]:=by rfl):SE X EX (.Call (.Name "len" p) [a] [] pos) (j7 fLen mr) :=
 z10 (z1G zb0 hg hm PySem.boot_len ha.h (by decide) (by decide) he rfl) zL6
def J9:List D->M D
 | [.tup xs]=>pure (.tup xs)
 | [x]=>do
  let xs <- seqD x
  pure (.tup xs)
 | _=>bad
theorem zf2:AR X.K EX (λxs H Q=>∃p ys,xs=[.ref p]/\((SqL X.K H p ys/\∀l,H l=none->Q (.ref l) (upd H l (.tup ys)))\/(SqT X.K H p ys/\Q (.ref p) H))) J9:=by
 intro ρ h H ds vs Q r rd fin;unfold J9 at fin;split at fin
 ·obtain⟨v,rfl,rv⟩:=rds1 rd;have rv':=rv;simp only[RD]at rv;obtain⟨q,xs,rfl,h1,h2⟩:=rv;exact⟨q,xs,rfl,.inr ⟨h1,FE.here fin r rv'⟩⟩
 ·rename_i x hx;obtain⟨v,rfl,rv⟩:=rds1 rd;have f1:=Fin.bind fin;cases e:seqD x h with
  | bad=>rw[e]at f1;exact f1.elim
  | err z hz=>exact(z2t e).elim
  | ok ys h1 =>
   obtain⟨rfl,q,xs,rfl,hs,hd⟩:=z1A r rv e;rw[e]at f1;have f2:=f1 ρ H (Pre.refl _) (Ext.refl _ _) r;refine⟨q,xs,rfl,?_⟩;rcases hs with hs|hs
   ·exact .inl ⟨hs,λl hl=>FE.tup f2 r hd hl⟩
   ·refine .inr ⟨hs,FE.here f2 r ?_⟩;simp only[RD];exact⟨q,xs,rfl,hs,hd⟩
 ·exact fin.elim
theorem Y3 (hg:Gl X "tuple") (hm:X.mg "tuple" = none) (ha:SA X EX [a] mr) (he:K05 [a] X.env=[(false,eval a X.env)]:=by rfl):SE X EX (.Call (.Name "tuple" p) [a] [] pos) (j7 J9 mr) :=
 z10 (z1Y z4f hg hm (by decide +kernel) ha.h (by decide) (by decide) he rfl) zf2
def za8:List D->M D
 | [x]=>do
  let xs <- seqD x
  newL xs
 | _=>bad
theorem zw4:AR X.K EX (λxs H Q=>∃p ys,xs=[.ref p]/\(SqL X.K H p ys\/SqT X.K H p ys)/\∀l,H l=none->Q (.ref l) (upd H l (.lst ys))) za8:=by
 intro ρ h H ds vs Q r rd fin;unfold za8 at fin;split at fin
 ·rename_i x;obtain⟨v,rfl,rv⟩:=rds1 rd;have f1:=Fin.bind fin;cases e:seqD x h with
  | bad=>rw[e]at f1;exact f1.elim
  | err z hz=>exact(z2t e).elim
  | ok ys h1 =>
   obtain⟨rfl,q,xs,rfl,hs,hd⟩:=z1A r rv e;rw[e]at f1;have f2:=f1 ρ H (Pre.refl _) (Ext.refl _ _) r;unfold newL at f2;dsimp only at f2;split at f2
   ·exact⟨q,xs,rfl,hs,λl hl=>FE.lst f2 r hd hl⟩
   ·exact f2.elim
 ·exact fin.elim
theorem zx6 (hg:Gl X "list") (hm:X.mg "list" = none) (ha:SA X EX [a] mr) (he:K05 [a] X.env=[(false,eval a X.env)]:=by rfl):SE X EX (.Call (.Name "list" p) [a] [] pos) (j7 za8 mr) :=
 z10 (z1Y z53 hg hm (by decide +kernel) ha.h (by decide) (by decide) he rfl) zw4
def tyD:D->M String
 | .non=>pure "NoneType"
 | .bl _=>pure "bool"
 | .int _=>pure "int"
 | .str _=>pure "str"
 | .tup _=>pure "tuple"
 | .fl _=>pure "list"
 | .ref n=>λh=>match h[n]? with
  | .(l _)=>.ok "list" h
  | some .dct=>.ok "dict" h
  | some (.dK _)=>.ok "dict" h
  | _=>.bad
def subT (t T:String):Bool:=t==T||(t=="bool"&&T=="int")
def tyNames:List String:=["NoneType","bool","int","str","tuple","list","dict"]
def tyAsked:List String:=["bool","int","str","tuple","list","dict"]
theorem zv1:tyNames.all (λt=>tyAsked.all λT=>decide (K5u [] (.type t) (.type T)=some (subT t T)))=true:=by decide +kernel
theorem z6N {K:K2}{t T:String}(h1:t∈tyNames) (h2:T∈tyAsked):K5u K (.type t) (.type T)=some (subT t T):=by
 have q:=zv1;rw[K23]at q;have q2:=q t h1;rw[K23]at q2;have q3:=q2 T h2;exact of_decide_eq_true q3
def fIsi (T:String):D->M D:=λx=>do
 let t <- tyD x
 pure (.bl (subT t T))
theorem zv0 {pins:List (Addr×Obj)}{σ:L2.St}{H:Hp}{s:Shared}{E:Value->Shared->Prop}{Q:Value->Shared->Prop}{q:Addr}{c:Value}{k:Bool}{xs:List V}(I:Inv X pins σ H s) (h:SqT X.K H q xs) (e:K5u X.K (.type "tuple") c=some k) (hQ:∀tk,Q (.bool k) { s with toks:=tk }) :
 wpAny (model X.prog X.w) X.A (call (.builtin "isinstance") [.ref q,c]) Q E s:=by
 obtain⟨its,_,ht,_⟩:=I.tuple h;obtain⟨o,h1,h2,_⟩:=ht;exact K1p Z05 I.kIn ⟨o,h1,h2⟩ e (λz=>nomatch z) hQ
theorem zr5 {pins:List (Addr×Obj)}{σ:L2.St}{H:Hp}{s:Shared}{E:Value->Shared->Prop}{Q:Value->Shared->Prop}{q:Addr}{c:Value}{k:Bool}{xs:List V}(I:Inv X pins σ H s) (h:SqL X.K H q xs) (e:K5u X.K (.type "list") c=some k) (hQ:∀tk,Q (.bool k) { s with toks:=tk }) :
 wpAny (model X.prog X.w) X.A (call (.builtin "isinstance") [.ref q,c]) Q E s:=by
 obtain⟨its,_,ht,_⟩:=I.list h;obtain⟨o,n,h1,h2,_⟩:=ht;exact K1p K7s I.kIn ⟨o,h1,h2⟩ e (λz=>nomatch z) hQ
def TyV (K:K2) (H:Hp) (v:V) (t:String):Prop:=match v with
 | .non=>t = "NoneType"
 | .bl _=>t = "bool"
 | .int _=>t = "int"
 | .str _=>t = "str"
 | .ref q=>(t = "tuple"/\∃xs,SqT K H q xs)\/(t = "list"/\∃xs,SqL K H q xs)\/(t = "dict"/\(H q=some (dctO q)\/∃kvs,H q=some (.dK kvs)))
 | _=>False
theorem z9G {T:String}(hT:T∈tyAsked):CallR X (.builtin "isinstance") (λxs H Q=>∃x t,xs=[x,.ty T]/\TyV X.K H x t/\Q (.bl (subT t T)) H):=by
 intro pins s σ H xs us Q I r h;obtain⟨x,t,rfl,ty,q⟩:=h;obtain⟨u,w',rfl,rx,rt⟩:=vals2 r;cases rt;have fin:∀tk,EP X pins σ Q (.bool (subT t T)) { s with toks:=tk }:=λtk=>⟨.bl _,H,I.tok tk,rfl,q⟩;have tb:∀{z:V} {t':Value},z=x->TyOf X.K H z t'->t'=.type t->t∈tyNames->wpAny (model X.prog X.w) X.A (call (.builtin "isinstance") [u,.type T]) (EP X pins σ Q) X.xe s:=λ{z t'} e1 ty' e2 hn=>by
  subst e1;subst e2;exact z9u I rx ty' (z6N hn hT) fin
 cases x with
 | non=>exact tb rfl .non (by rw[show t = "NoneType" from ty]) (by rw[show t = "NoneType" from ty];decide)
 | bl y=>exact tb rfl (.bl y) (by rw[show t = "bool" from ty]) (by rw[show t = "bool" from ty];decide)
 | int y=>exact tb rfl (.int y) (by rw[show t = "int" from ty]) (by rw[show t = "int" from ty];decide)
 | str y=>exact tb rfl (.str y) (by rw[show t = "str" from ty]) (by rw[show t = "str" from ty];decide)
 | ref y =>
  cases rx;rcases(show (t = "tuple"/\∃xs,SqT X.K H y xs)\/(t = "list"/\∃xs,SqL X.K H y xs)\/(t = "dict"/\(H y=some (dctO y)\/∃kvs,H y=some (.dK kvs))) from ty) with ⟨rfl,xs,hs⟩|⟨rfl,xs,hs⟩|⟨rfl,hs|⟨kvs,hs⟩⟩
  ·exact zv0 I hs (z6N (by decide) hT) fin
  ·exact zr5 I hs (z6N (by decide) hT) fin
  ·exact K1p K7t I.kIn (I.hok y _ hs).1 (z6N (by decide) hT) (λz=>nomatch z) fin
  ·exact tb rfl (.dK hs) rfl (by decide)
 | byt y=>exact(show False from ty).elim
 | flt y=>exact(show False from ty).elim
 | ty y=>exact(show False from ty).elim
theorem zq3 {K:K2}{ρ:List Addr}{h h1:AH}{H:Hp}{x:D}{v:V}{t:String}(r:RH K ρ h H) (rx:RD K ρ H x v) (e:tyD x h=.ok t h1):h1=h/\TyV K H v t:=by
 cases x with
 | non=>cases e;simp only[RD]at rx;subst rx;exact⟨rfl,rfl⟩
 | bl y=>cases e;simp only[RD]at rx;subst rx;exact⟨rfl,rfl⟩
 | int y=>cases e;simp only[RD]at rx;subst rx;exact⟨rfl,rfl⟩
 | str y=>cases e;simp only[RD]at rx;subst rx;exact⟨rfl,rfl⟩
 | tup y=>cases e;simp only[RD]at rx;obtain⟨q,xs,rfl,h2,_⟩:=rx;exact⟨rfl,.inl ⟨rfl,xs,h2⟩⟩
 | fl y=>cases e;simp only[RD]at rx;obtain⟨q,xs,rfl,h2,_⟩:=rx;exact⟨rfl,.inr (.inl ⟨rfl,xs,h2.sq⟩)⟩
 | ref n =>
  simp only[RD]at rx;obtain⟨q,rfl,h2⟩:=rx;unfold tyD at e;dsimp only at e;cases q1:h[n]? with
  | none=>rw[q1]at e;cases e
  | some ob =>
   rw[q1]at e;cases ob with
   | set ks=>cases e
   | dK kvs =>
    cases e;obtain⟨a1,n1,vs,o1,d1⟩:=r.at q1;rw[h2]at n1;cases n1;exact⟨rfl,.inr (.inr ⟨rfl,.inr ⟨_,o1⟩⟩)⟩
   | dF kvs=>cases e
   | exc c=>cases e
   | lst ds =>
    cases e;obtain⟨a1,n1,vs,o1,d1⟩:=r.at q1;rw[h2]at n1;cases n1;exact⟨rfl,.inr (.inl ⟨rfl,vs,SqL.of o1⟩)⟩
   | dct =>
    cases e;obtain⟨a1,n1,o1⟩:=r.at q1;rw[h2]at n1;cases n1;exact⟨rfl,.inr (.inr ⟨rfl,.inl o1⟩)⟩
theorem zJ6 {x:D}{h h1:AH}{z:Exn}(e:tyD x h=.err z h1):False:=by
 cases x with
 | ref n =>
  unfold tyD at e;dsimp only at e;split at e<;>cases e
 | _=>cases e
def eIsi (T:String) (ma:G->M D):G->M D:=λγ=>do
 let x <- ma γ
 fIsi T x
theorem z1k {T:Str}{T':String}(hg:Gl X "isinstance") (hm:X.mg "isinstance" = none) (hgT:Gl X T) (hmT:X.mg T=none) (hv:K55 T=some (.type T')) (hT:T'∈tyAsked) (ha:SE X EX a ma) (hn:T≠"__name__":=by decide) (hd:(T==("__debug__":Str))=false:=by decide)
 (he:K05 [a,.Name T p2] X.env=[(false,eval a X.env),(false,eval (.Name T p2) X.env)]:=by rfl) (he2:K05 [.Name T p2] X.env=[(false,eval (.Name T p2) X.env)]:=by rfl):SE X EX (.Call (.Name "isinstance" p) [a,.Name T p2] [] pos) (eIsi T' ma):=by
 constructor;have hA:PA X [a,.Name T p2] (z8K (tE X.K EX ma) (z8K (tC (.ty T')) tNil)):=z1S ha.h (z1S (zw3 hgT hmT hv rfl hn hd) z3u he2) (by rw[he,he2]);refine PE.imp (z1G (z9G hT) hg hm (by decide +kernel) hA (by decide) (by decide) (by rw[he,he2]) (by rw[he2];rfl)) λσ H Q ⟨ρ,γ,h,rel,fin⟩=>⟨ρ,γ,h,rel,(Fin.bind fin).mono λx ρ1 h1 H1 p1 e1 r1 f1 v rv=>?_⟩;have f2:=Fin.bind f1;cases e:tyD x h1 with
 | bad=>rw[e]at f2;exact f2.elim
 | err z hz=>exact(zJ6 e).elim
 | ok t h2 =>
  obtain⟨rfl,ty⟩:=zq3 r1 rv e;rw[e]at f2;have f3:=f2 ρ1 H1 (Pre.refl _) (Ext.refl _ _) r1;exact⟨v,t,rfl,ty,FE.here f3 r1 (by simp[RD])⟩
def blsD:List D->Option (List Bool)
 | []=>some []
 | .bl b::r=>(blsD r).map (b::·)
 | _::_=>none
def fAll (any:Bool):List D->M D
 | [.ref n]=>do
  let xs <- getL n
  match blsD xs with
  | some bs=>pure (.bl (if any then bs.any id else bs.all id))
  | none=>bad
 | _=>bad
theorem z8C {K:K2}{ρ:List Addr}{H:Hp}:∀{xs:List D}{bs:List Bool}{vs:List V},blsD xs=some bs->RDs K ρ H xs vs->vs=bs.map V.bl
 | [],bs,vs,e,r=>by simp only[RDs]at r;cases e;subst r;rfl
 | x::xs,bs,vs,e,r=>by
  simp only[RDs]at r;obtain⟨v,r2,rfl,h1,h2⟩:=r;cases x<;>first|(simp only[blsD]at e;cases e;done)|skip
  rename_i b;simp only[blsD]at e;obtain⟨bs',e1,rfl⟩:=K09.mp e;simp only[RD]at h1;subst h1;rw[z8C e1 h2];rfl
theorem z67:∀{bs:List Bool}{us:List Value},Vals (bs.map V.bl) us->us=bs.map K78
 | [],us,h=>by cases h;rfl
 | b::bs,us,h=>by
  cases h with
  | cons h1 h2=>cases h1;rw[z67 h2];rfl
theorem range_all {bs:List Bool}:((K0o bs.length).all λi=>bs.getD i false)=bs.all id:=by
 rw[K17,K23,K23];constructor
 ·intro h x hx;obtain⟨i,hi,rfl⟩:=K58 hx;have:=h i (K20.mpr hi);simpa [K9o,hi] using this
 ·intro h i hi;have hi':=K20.mp hi;have:=h bs[i] (K36 hi');simpa [K9o,hi'] using this
theorem range_any {bs:List Bool}:((K0o bs.length).any λi=>bs.getD i false)=bs.any id:=by
 rw[K17,K6l,K6l];constructor
 ·rintro⟨i,hi,h⟩;have hi':=K20.mp hi;refine⟨bs[i],K36 hi',?_⟩;simpa [K9o,hi'] using h
 ·rintro⟨x,hx,h⟩;obtain⟨i,hi,rfl⟩:=K58 hx;exact⟨i,K20.mpr hi,by simpa [K9o,hi] using h⟩
theorem z3r (any:Bool) (hc:X.calm=true):CallR X (.builtin (if any then "any" else "all")) (λxs H Q=>∃(q:Addr) (bs:List Bool),xs=[.ref q]/\SqL X.K H q (bs.map V.bl)/\Q (.bl (if any then bs.any id else bs.all id)) H):=by
 intro pins s σ H xs us Q I r h;obtain⟨q,bs,rfl,hq,hQ⟩:=h;obtain⟨u,rfl,ru⟩:=vals1 r;cases ru;obtain⟨its,rv,pl,hz⟩:=I.list hq;have ei:=z67 rv;have ne:q≠s.heap.objs.size:=K0e (by obtain⟨o,n,e,_⟩:=pl;exact K02 e);have pl':=pl.isList;have hwalk:=Walks.list (prog:=X.prog) (w:=X.w) (A:=X.A.in1) (show X.A.in1.handled=none from I.ok.hd hc) s.heap.objs.size q ne its.toArray;have len:its.toArray.size=bs.length:=by rw[ei];simp
 have st0:(s.heap.push { cls:=.type "list_iterator",data:=.fields #[.ref q,.int 0 0] }).IsListIter s.heap.objs.size q 0/\(s.heap.push { cls:=.type "list_iterator",data:=.fields #[.ref q,.int 0 0] }).IsList q its.toArray :=
  ⟨⟨_,K04 _ rfl,rfl,rfl⟩,pl'.at λo e=>K4 _ e⟩
 have tr:TruthOf X.prog X.w X.A.in1 (λi v=>its.toArray[i]?=some v) λi=>bs.getD i false:=λi v s' Q' E' hv hq'=>by
  have hv':its[i]?=some v:=by simpa using hv
  rw[ei,K00]at hv';cases eb:bs[i]? with
  | none=>rw[eb]at hv';cases hv'
  | some b =>
   rw[eb]at hv';cases hv';have:bs.getD i false=b:=by simp[K9o,eb]
   dsimp only at hq';rw[this]at hq';exact K43 hq'
 have fin:∀k,k=(if any then bs.any id else bs.all id)->∀h' tk,(∀b o,b∉[s.heap.objs.size]->(s.heap.push { cls:=.type "list_iterator",data:=.fields #[.ref q,.int 0 0] }).get? b=some o->h'.get? b=some o) ->
  EP X pins σ Q (.bool k) { s with heap:=h',toks:=tk }:=λk ek h' tk hk=>by
  subst ek;refine⟨.bl _,H,I.kept λb o e=>hk b o ?_ (K4 _ e),rfl,hQ⟩;intro z;have:b=s.heap.objs.size:=by simpa using z
  exact absurd (K02 e) (by rw[this];exact K2u _)
 cases any with
 | false =>
  refine call_all_walk (K68 pl' ⟨_,_,_,_,_,_,_,rfl,hwalk,st0,tr,λh' tk hk=>?_⟩);exact fin _ (by rw[len];exact range_all) h' tk hk
 | true =>
  refine call_any_walk (K68 pl' ⟨_,_,_,_,_,_,_,rfl,hwalk,st0,tr,λh' tk hk=>?_⟩);exact fin _ (by rw[len];exact range_any) h' tk hk
theorem zi3 {any:Bool}:AR X.K EX (λxs H Q=>∃(q:Addr) (bs:List Bool),xs=[.ref q]/\SqL X.K H q (bs.map V.bl)/\Q (.bl (if any then bs.any id else bs.all id)) H) (fAll any):=by
 intro ρ h H ds vs Q r rd fin;unfold fAll at fin;split at fin
 ·rename_i n;obtain⟨v,rfl,rv⟩:=rds1 rd;have f1:=Fin.bind fin;cases e:getL n h with
  | bad=>rw[e]at f1;exact f1.elim
  | err z hz=>exact(z0M e).elim
  | ok xs h1 =>
   obtain⟨rfl,q1⟩:=z0N e;rw[e]at f1;have f2:=f1 ρ H (Pre.refl _) (Ext.refl _ _) r;dsimp only at f2;cases eb:blsD xs with
   | none=>rw[eb]at f2;exact f2.elim
   | some bs =>
    rw[eb]at f2;simp only[RD]at rv;obtain⟨q,rfl,h2⟩:=rv;obtain⟨a1,n1,vs,o1,d1⟩:=r.at q1;rw[h2]at n1;cases n1;have ev:=z8C eb d1;subst ev;exact⟨q,bs,rfl,SqL.of o1,FE.here f2 r (by simp[RD])⟩
 ·exact fin.elim
theorem zi2 (hc:X.calm=true) (hg:Gl X "all") (hm:X.mg "all" = none) (ha:SA X EX [a] mr) (he:K05 [a] X.env=[(false,eval a X.env)]:=by rfl):SE X EX (.Call (.Name "all" p) [a] [] pos) (j7 (fAll false) mr) :=
 z10 (z1G (z3r false hc) hg hm (by decide +kernel) ha.h (by decide) (by decide) he rfl) zi3
theorem zJ9 (hc:X.calm=true) (hg:Gl X "any") (hm:X.mg "any" = none) (ha:SA X EX [a] mr) (he:K05 [a] X.env=[(false,eval a X.env)]:=by rfl):SE X EX (.Call (.Name "any" p) [a] [] pos) (j7 (fAll true) mr) :=
 z10 (z1G (z3r true hc) hg hm (by decide +kernel) ha.h (by decide) (by decide) he rfl) zi3
end
abbrev EX0:XX:=λ_ _ _ _=>False
def spB (K:K2) (mf:List D->M D) (n:Nat):Sp:=λvs H Q _=>vs.length=n/\∃ρ ds h,RH K ρ h H/\RDs K ρ H ds vs/\FE K EX0 ρ H Q (mf ds h)
structure Fn (P:K08) (w:World) (K:K2) (mg:Str->Option Value) (base:Heap) (k:Nat) (x:Str) (n:Nat) (mf:List D->M D):Prop where
 ex:∃f fd ps,FnOk P w K mg base CX0 k f fd ps (spB K mf n)/\Binds K fd ps []/\K1z K (.ref f)=true/\mg x=.(r f)
theorem Fn.up {P:K08}{w:World}{K:K2}{mg:Str->Option Value}{base:Heap}{j k:Nat}{x:Str}{n:Nat}{mf:List D->M D}(F:Fn P w K mg base j x n mf) (h:j<=k):Fn P w K mg base k x n mf:=by
 obtain⟨f,fd,ps,h1,h2,h3,h4⟩:=F.ex;exact⟨f,fd,ps,h1.mono h,h2,h3,h4⟩
def eFn (n:Nat) (mf:List D->M D) (mr:G->M (List D)):G->M D:=λγ=>do
 let xs <- mr γ
 if xs.length=n then mf xs else bad
section
variable {X:Cx}{a b c e:Expr}{pos p p2:Pos}{ma mb mc:G->M D}{es:List Expr}{mr:G->M (List D)}{k n:Nat}{x:Str}{mf:List D->M D}
theorem Z9 (F:Fn X.prog X.w X.K X.mg X.base k x n mf) (hr:Room k X.A) (hg:Gl X x) (ha:SA X EX0 (a::es) mr) (hdb:(x==("__debug__":Str))=false:=by decide)
 (he:K05 (a::es) X.env=(false,eval a X.env)::K05 es X.env:=by rfl) (hpl:(backTo pos (K05 es X.env)).any (·.1)=false:=by rfl):SE X EX0 (.Call (.Name x p) (a::es) [] pos) (eFn n mf mr):=by
 constructor;obtain⟨f,fd,ps,h1,h2,h3,h4⟩:=F.ex;refine PE.imp (zv8 h1 hr hg h4 h3 h2 .nil zH2 ha.h hdb he hpl) λσ H Q ⟨ρ,γ,h,rel,fin⟩=>⟨ρ,γ,h,rel,(Fin.bind fin).mono λxs ρ1 h1 H1 p1 e1 r1 f1 vs rvs=>?_⟩;show spB X.K mf n (vs++[]) H1 Q E0;rw[K2d];by_cases hl:xs.length=n
 ·rw[if_pos hl]at f1;exact⟨by rw[<- rvs.length];exact hl,ρ1,xs,h1,r1,rvs,f1⟩
 ·rw[if_neg hl]at f1;exact(show False from f1).elim
end
def z0Y (n:Nat) (ds:List D):G:=ds.map some++K0n (n - ds.length) none
def runF (n:Nat) (mb:G->M Out) (ds:List D):M D:=do
 let o <- mb (z0Y n ds)
 match o with
 | .nx _=>pure .non
 | .rt d=>pure d
 | _=>bad
section
variable {P:K08}{w:World}{K:K2}{mg:Str->Option Value}{base:Heap}
theorem z3k {ρ:List Addr}{H:Hp}{N:List Str}{ds:List D}{vs:List V}(h:RDs K ρ H ds vs):RG K ρ H (z0Y N.length ds) (L2.start N vs):=by
 have hl:=h.length;refine⟨by unfold z0Y L2.start;simp[hl],λi d e=>?_⟩;unfold z0Y at e;unfold L2.start;rw[K40]at e ⊢;rw[K6]at e ⊢;rw[<- hl];split at e
 ·rename_i hi;rw[if_pos hi];rw[K00]at e ⊢;cases q:ds[i]? with
  | none=>rw[q]at e;cases e
  | some d' =>
   rw[q]at e;cases e;obtain⟨v,h1,h2⟩:=h.get q;exact⟨v,by rw[h1];rfl,h2⟩
 ·rw[K8h]at e;split at e<;>cases e
end
section
variable {env:Env}{t:Option Expr}{l:Nat}{tg:List Expr}
theorem z8F {a p}:K2s (.List a p) t l env=pure false:=rfl
theorem z79 {a b p}:K2s (.Tuple a b p) t l env=pure false:=rfl
theorem z3p {c k p}:K2s (.Constant c k p) t l env=pure false:=rfl
theorem z8O {c p}:K2s (.Name c p) t l env=pure false:=rfl
theorem z96 {a b c p}:K2s (.Call a b c p) t l env=pure false:=rfl
theorem z6w {a b c p}:K2s (.BinOp a b c p) t l env=pure false:=rfl
theorem z4a {a b c p}:K2s (.Compare a b c p) t l env=pure false:=rfl
theorem z2U {a b p}:K2s (.Subscript a b p) t l env=pure false:=rfl
theorem z43 {a b p}:K2s (.UnaryOp a b p) t l env=pure false:=rfl
theorem z50 {a b p}:K2s (.BoolOp a b p) t l env=pure false:=rfl
theorem z6b {a b c p}:K2s (.IfExp a b c p) t l env=pure false:=rfl
end
section
variable {X:Cx}{EX:XX}{a b c e:Expr}{pos p p2:Pos}{ma mb mc:G->M D}{ka kb kc:G->M Bool}{st:Stmt}{sts:List Stmt}{ms mt:G->M Out}
def bNil:G->M Out:=λγ=>pure (.nx γ)
def Z3 (ms mt:G->M Out):G->M Out:=λγ=>do
 let o <- ms γ
 match o with
 | .nx γ'=>mt γ'
 | o=>pure o
theorem Z8:SB X EX [] bNil:=⟨PSs.imp zl4 λσ H D ⟨ρ,γ,h,rel,fin⟩=>fin ρ H (Pre.refl _) (Ext.refl _ _) rel.h σ rel.g⟩
theorem Z2 (h1:S1 X EX st ms) (h2:SB X EX sts mt):SB X EX (st::sts) (Z3 ms mt) :=
 ⟨PSs.imp (zd6 h1.h h2.h) λσ H D ⟨ρ,γ,h,rel,fin⟩=>⟨ρ,γ,h,rel,(Fin.bind fin).mono λo ρ1 h1 H1 p1 e1 r1 f1=>by
  cases o with
  | nx γ'=>exact λσ' rg=>⟨ρ1,γ',h1,⟨rg,r1⟩,f1⟩
  | rt d=>exact f1 ρ1 H1 (Pre.refl _) (Ext.refl _ _) r1
  | bk γ'=>exact f1 ρ1 H1 (Pre.refl _) (Ext.refl _ _) r1
  | ct γ'=>exact f1 ρ1 H1 (Pre.refl _) (Ext.refl _ _) r1⟩⟩
theorem zr1:S1 X EX st (λ_=>bad):=⟨PS.imp zb8 λσ H D ⟨ρ,γ,h,rel,fin⟩=>(show False from fin)⟩
def sRet (ma:G->M D):G->M Out:=λγ=>do
 let d <- ma γ
 pure (.rt d)
theorem y8 (ha:SE X EX a ma):S1 X EX (.Return (some a) pos) (sRet ma) :=
 ⟨PS.imp (zH3 ha.h) λσ H D ⟨ρ,γ,h,rel,fin⟩=>⟨ρ,γ,h,rel,(Fin.bind fin).mono λd ρ1 h1 H1 p1 e1 r1 f1 v rv=>f1 ρ1 H1 (Pre.refl _) (Ext.refl _ _) r1 v rv⟩⟩
def z0K (ma:G->M D):G->M Out:=λγ=>do
 let _ <- ma γ
 pure (.nx γ)
theorem z14 (ha:SE X EX a ma) (hs:K2s a none pos.line X.env=pure false:=by first|exact z8F|exact z79|exact z3p|exact z8O|exact z96|exact z6w|exact z4a|exact z2U|exact z43|exact z50|exact z6b|rfl):S1 X EX (.Expr a pos) (z0K ma) :=
 ⟨PS.imp (zt6 ha.h hs) λσ H D ⟨ρ,γ,h,rel,fin⟩=>⟨ρ,γ,h,rel,(Fin.bind fin).mono λd ρ1 h1 H1 p1 e1 r1 f1 v rv=>f1 ρ1 H1 (Pre.refl _) (Ext.refl _ _) r1 σ (rel.g.mono p1 e1)⟩⟩
def sIf (k:G->M Bool) (ms mt:G->M Out):G->M Out:=λγ=>do
 let t <- k γ
 if t then ms γ else mt γ
theorem s_if {sts':List Stmt}(hc:SC X EX c kc) (h1:SB X EX sts ms) (h2:SB X EX sts' mt):S1 X EX (.If c sts sts' pos) (sIf kc ms mt) :=
 ⟨PS.imp (zM9 hc.h h1.h h2.h) λσ H D ⟨ρ,γ,h,rel,fin⟩=>⟨ρ,γ,h,rel,(Fin.bind fin).mono λt ρ1 h1 H1 p1 e1 r1 f1=>by
  cases t with
  | true=>exact⟨ρ1,γ,h1,⟨rel.g.mono p1 e1,r1⟩,f1⟩
  | false=>exact⟨ρ1,γ,h1,⟨rel.g.mono p1 e1,r1⟩,f1⟩⟩⟩
def tG (K:K2) (EX:XX) (m:D->G->M G):TG:=λv σ H Q=>∃ρ γ h d,Rel K ρ γ h σ H/\RD K ρ H d v/\Fin K EX ρ H (λγ' ρ' _ H'=>∀σ',RG K ρ' H' γ' σ'->Q σ' H') (m d γ h)
def tGs (K:K2) (EX:XX) (m:List D->G->M G):TGs:=λvs σ H Q=>∃ρ γ h ds,Rel K ρ γ h σ H/\RDs K ρ H ds vs/\Fin K EX ρ H (λγ' ρ' _ H'=>∀σ',RG K ρ' H' γ' σ'->Q σ' H') (m ds γ h)
structure SG (X:Cx) (EX:XX) (tg:Expr) (m:D->G->M G):Prop where
 h:PG X tg (tG X.K EX m)
structure SGs (X:Cx) (EX:XX) (tg:List Expr) (m:List D->G->M G):Prop where
 h:PGs X tg (tGs X.K EX m)
theorem PG.imp {X:Cx}{e:Expr}{t t':TG}(h:PG X e t) (f:∀v σ H Q,t' v σ H Q->t v σ H Q):PG X e t':=λpins s σ H v u Q I r z=>h pins s σ H v u Q I r (f v σ H Q z)
theorem PGs.imp {X:Cx}{e:List Expr}{t t':TGs}(h:PGs X e t) (f:∀v σ H Q,t' v σ H Q->t v σ H Q):PGs X e t':=λpins s σ H v u Q I r z=>h pins s σ H v u Q I r (f v σ H Q z)
def tGk (K:K2) (EX:XX) (own:List Nat) (m:D->G->M G):TG:=λv σ H Q=>∃ρ γ h d,Rel K ρ γ h σ H/\RD K ρ H d v/\Fin K EX ρ H (λγ' ρ' _ H'=>∀σ',RG K ρ' H' γ' σ'->(∀j:Nat,j∉own->σ'[j]?=σ[j]?)->Q σ' H') (m d γ h)
def tGks (K:K2) (EX:XX) (own:List Nat) (m:List D->G->M G):TGs:=λvs σ H Q=>∃ρ γ h ds,Rel K ρ γ h σ H/\RDs K ρ H ds vs/\Fin K EX ρ H (λγ' ρ' _ H'=>∀σ',RG K ρ' H' γ' σ'->(∀j:Nat,j∉own->σ'[j]?=σ[j]?)->Q σ' H') (m ds γ h)
structure SGk (X:Cx) (EX:XX) (tg:Expr) (own:List Nat) (m:D->G->M G):Prop where
 h:PG X tg (tGk X.K EX own m)
structure SGks (X:Cx) (EX:XX) (tg:List Expr) (own:List Nat) (m:List D->G->M G):Prop where
 h:PGs X tg (tGks X.K EX own m)
def gN (i:Nat):D->G->M G:=λd γ=>pure (γ.set i (some d))
theorem w6 (i:Nat) {x:Str}(hN:X.N.Nodup) (hi:X.N[i]?=some x:=by rfl) (hx:Loc X.env.scope x:=by first|exact Or.inl rfl|exact Or.inr rfl) (hf:X.fn x=true\/X.env.scope.names.lookup x=some .local:=by first|exact .inl rfl|exact .inr rfl|assumption):SG X EX (.Name x pos) (gN i) :=
 ⟨PG.imp (z5D hN hi hx hf) λv σ H Q ⟨ρ,γ,h,d,rel,rd,fin⟩=>fin ρ H (Pre.refl _) (Ext.refl _ _) rel.h _ (rel.g.set i rd)⟩
theorem J8 (i:Nat) {x:Str}(hN:X.N.Nodup) (hi:X.N[i]?=some x:=by rfl) (hx:Loc X.env.scope x:=by first|exact Or.inl rfl|exact Or.inr rfl) (hf:X.fn x=true\/X.env.scope.names.lookup x=some .local:=by first|exact .inl rfl|exact .inr rfl|assumption):SGk X EX (.Name x pos) [i] (gN i) :=
 ⟨PG.imp (z5D hN hi hx hf) λv σ H Q ⟨ρ,γ,h,d,rel,rd,fin⟩=>fin ρ H (Pre.refl _) (Ext.refl _ _) rel.h _ (rel.g.set i rd) λj hj=>K1e (λz=>hj (by simp[z]))⟩
def z2P:List D->G->M G:=λds γ=>match ds with
 | []=>pure γ
 | _=>bad
def x8 (m:D->G->M G) (ms:List D->G->M G):List D->G->M G:=λds γ=>match ds with
 | []=>bad
 | d::r=>do
  let γ1 <- m d γ
  ms r γ1
theorem z2n:SGs X EX [] z2P:=⟨PGs.imp z8A λv σ H Q ⟨ρ,γ,h,ds,rel,rd,fin⟩=>by
 cases ds with
 | nil=>simp only[RDs]at rd;exact⟨rd,fin ρ H (Pre.refl _) (Ext.refl _ _) rel.h σ rel.g⟩
 | cons d r=>exact(show False from fin).elim⟩
theorem Y8 {es:List Expr}{m:D->G->M G}{mr:List D->G->M G}(h1:SG X EX e m) (h2:SGs X EX es mr) (hs:(K2y (e::es) X.env).map (·.2)=assign e X.env::(K2y es X.env).map (·.2):=by rfl):SGs X EX (e::es) (x8 m mr) :=
 ⟨PGs.imp (z6I h1.h h2.h hs) λvs σ H Q ⟨ρ,γ,h,ds,rel,rd,fin⟩=>by
  cases ds with
  | nil=>exact(show False from fin).elim
  | cons d r =>
   simp only[RDs]at rd;obtain⟨v,vr,rfl,h3,h4⟩:=rd;have fin':Fin X.K EX ρ H (λγ' ρ' _ H'=>∀σ',RG X.K ρ' H' γ' σ'->Q σ' H') ((m d γ >>= λγ1=>mr r γ1) h):=fin;exact⟨v,vr,rfl,ρ,γ,h,d,rel,h3,(Fin.bind fin').mono λγ1 ρ1 h1 H1 p1 e1 r1 f1 σ1 g1=>⟨ρ1,γ1,h1,r,⟨g1,r1⟩,h4.mono p1 e1,f1⟩⟩⟩
theorem z4k:SGks X EX [] [] z2P:=⟨PGs.imp z8A λv σ H Q ⟨ρ,γ,h,ds,rel,rd,fin⟩=>by
 cases ds with
 | nil=>simp only[RDs]at rd;exact⟨rd,fin ρ H (Pre.refl _) (Ext.refl _ _) rel.h σ rel.g λ_ _=>rfl⟩
 | cons d r=>exact(show False from fin).elim⟩
theorem z17 {es:List Expr}{o1 o2:List Nat}{m:D->G->M G}{mr:List D->G->M G}(h1:SGk X EX e o1 m) (h2:SGks X EX es o2 mr) (hs:(K2y (e::es) X.env).map (·.2)=assign e X.env::(K2y es X.env).map (·.2):=by rfl):SGks X EX (e::es) (o1++o2) (x8 m mr) :=
 ⟨PGs.imp (z6I h1.h h2.h hs) λvs σ H Q ⟨ρ,γ,h,ds,rel,rd,fin⟩=>by
  cases ds with
  | nil=>exact(show False from fin).elim
  | cons d r =>
   simp only[RDs]at rd;obtain⟨v,vr,rfl,h3,h4⟩:=rd;have fin':Fin X.K EX ρ H (λγ' ρ' _ H'=>∀σ',RG X.K ρ' H' γ' σ'->(∀j:Nat,j∉o1++o2->σ'[j]?=σ[j]?)->Q σ' H') ((m d γ >>= λγ1=>mr r γ1) h):=fin;refine⟨v,vr,rfl,ρ,γ,h,d,rel,h3,(Fin.bind fin').mono λγ1 ρ1 h1 H1 p1 e1 r1 f1 σ1 g1 k1=>⟨ρ1,γ1,h1,r,⟨g1,r1⟩,h4.mono p1 e1,f1.mono λγ2 ρ2 h2 H2 p2 e2 r2 f2 σ2 g2 k2=>f2 σ2 g2 λj hj=>?_⟩⟩;rw[K0p,not_or]at hj;rw[k2 j hj.2,k1 j hj.1]⟩
def gT (n:Nat) (m:List D->G->M G):D->G->M G:=λd γ=>match d with
 | .tup xs=>if xs.length=n then m xs γ else bad
 | _=>bad
theorem z3H {es:List Expr}{k n:Nat}{m:List D->G->M G}(hc:X.calm=true) (h:SGs X EX es m) (hn:(K2y es X.env).length=n:=by rfl) (hst:(K2y es X.env).findIdx? (·.1)=none:=by rfl):SG X EX (.Tuple es k pos) (gT n m) :=
 ⟨PG.imp (zh4 hc h.h hn hst) λv σ H Q ⟨ρ,γ,h,d,rel,rd,fin⟩=>by
  cases d<;>first|exact(show False from fin).elim|skip
  rename_i xs;simp only[RD]at rd;obtain⟨q,vs,rfl,h1,h2⟩:=rd;have fin':Fin X.K EX ρ H (λγ' ρ' _ H'=>∀σ',RG X.K ρ' H' γ' σ'->Q σ' H') ((if xs.length=n then m xs γ else bad) h):=fin;by_cases hl:xs.length=n
  ·rw[if_pos hl]at fin';exact⟨q,vs,rfl,h1,by rw[<- h2.length];exact hl,ρ,γ,h,xs,rel,h2,fin'⟩
  ·rw[if_neg hl]at fin';exact(show False from fin').elim⟩
theorem z5H {es:List Expr}{k n:Nat}{own:List Nat}{m:List D->G->M G}(hc:X.calm=true) (h:SGks X EX es own m) (hn:(K2y es X.env).length=n:=by rfl) (hst:(K2y es X.env).findIdx? (·.1)=none:=by rfl):SGk X EX (.Tuple es k pos) own (gT n m) :=
 ⟨PG.imp (zh4 hc h.h hn hst) λv σ H Q ⟨ρ,γ,h,d,rel,rd,fin⟩=>by
  cases d<;>first|exact(show False from fin).elim|skip
  rename_i xs;simp only[RD]at rd;obtain⟨q,vs,rfl,h1,h2⟩:=rd;have fin':Fin X.K EX ρ H (λγ' ρ' _ H'=>∀σ',RG X.K ρ' H' γ' σ'->(∀j:Nat,j∉own->σ'[j]?=σ[j]?)->Q σ' H') ((if xs.length=n then m xs γ else bad) h):=fin;by_cases hl:xs.length=n
  ·rw[if_pos hl]at fin';exact⟨q,vs,rfl,h1,by rw[<- h2.length];exact hl,ρ,γ,h,xs,rel,h2,fin'⟩
  ·rw[if_neg hl]at fin';exact(show False from fin').elim⟩
def fSet:D->D->D->M Unit:=λo i v=>match o,i with
 | .ref n,.int k=>λh=>match h[n]? with
  | .(l xs)=>(match ixN xs.length k with
   | some j=>.ok () (h.set n (.lst (xs.set j v)))
   | none=>.bad)
  | _=>.bad
 | _,_=>bad
def gIx (mo mi:G->M D):D->G->M G:=λv γ=>do
 let o <- mo γ;let i <- mi γ;let _ <- fSet o i v
 pure γ
theorem z8V {o i:Expr}{mo mi:G->M D}(ho:SE X EX o mo) (hi:SE X EX i mi)
 (ha:∀v,assign (.Subscript o i pos) X.env v=(do
  let ov <- K56 [v] (eval o X.env);let iv <- K56 [v,ov] (eval i X.env)
  K6n pos
  K56 [v,ov,iv] (Z1p ov iv v)
  release [v,ov,iv] []):=by intro _;rfl):SG X EX (.Subscript o i pos) (gIx mo mi) :=
 ⟨PG.imp (zM0 ho.h hi.h set_list ha) λv σ H Q ⟨ρ,γ,h,d,rel,rd,fin⟩=>⟨ρ,γ,h,rel,(Fin.bind fin).mono λod ρ1 h1 H1 p1 e1 r1 f1 ov ro=>⟨ρ1,γ,h1,⟨rel.g.mono p1 e1,r1⟩,(Fin.bind f1).mono λid ρ2 h2 H2 p2 e2 r2 f2 iv ri=>by
  have f3:=Fin.bind f2;cases od<;>first|exact(show False from f3).elim|skip
  rename_i n;cases id<;>first|exact(show False from f3).elim|skip
  rename_i k;simp only[RD]at ro ri;obtain⟨q,rfl,hq⟩:=ro;subst ri;have hq2:=p2 n q hq;unfold fSet at f3;dsimp only at f3;cases e4:h2[n]? with
  | none=>rw[e4]at f3;exact(show False from f3).elim
  | some ob =>
   cases ob with
   | set ks=>rw[e4]at f3;exact(show False from f3).elim
   | dct=>rw[e4]at f3;exact(show False from f3).elim
   | dK kvs=>rw[e4]at f3;exact(show False from f3).elim
   | dF kvs=>rw[e4]at f3;exact(show False from f3).elim
   | exc c=>rw[e4]at f3;exact(show False from f3).elim
   | lst xs =>
    rw[e4]at f3;dsimp only at f3;cases e5:ixN xs.length k with
    | none=>rw[e5]at f3;exact(show False from f3).elim
    | some j =>
     rw[e5]at f3;obtain⟨a1,n1,vs,o1,d1⟩:=r2.at e4;rw[hq2]at n1;cases n1;have rd2:=(rd.mono p1 e1).mono p2 e2;have dd:=d1.set j rd2;refine⟨q,vs,k,j,rfl,rfl,o1,by rw[<- d1.length];exact e5,?_⟩;have ext:Ext X.K H2 (upd H2 q (.lst (vs.set j v))):=Ext.upd (.inr ⟨_,o1,trivial⟩);have f4:=f3 ρ2 _ (Pre.refl _) ext (r2.set e4 hq2 dd);exact f4 ρ2 _ (Pre.refl _) (Ext.refl _ _) (r2.set e4 hq2 dd) σ (((rel.g.mono p1 e1).mono p2 e2).mono (Pre.refl _) ext)⟩⟩⟩
def sAsg (ma:G->M D) (g:D->G->M G):G->M Out:=λγ=>do
 let d <- ma γ;let γ1 <- g d γ
 pure (.nx γ1)
theorem z5U {tg:Expr}{g:D->G->M G}(ha:SE X EX a ma) (hg:SG X EX tg g) (hs:swapsWithSole [tg] a pos.line X.env=pure false:=by rfl) (hw:swappedStores [tg] a X.env=pure none:=by rfl)
 (h1:(K2y [tg] X.env).map (·.2)=[assign tg X.env]:=by rfl):S1 X EX (.Assign [tg] a pos) (sAsg ma g) :=
 ⟨PS.imp (zI4 ha.h hg.h hs hw h1) λσ H D ⟨ρ,γ,h,rel,fin⟩=>⟨ρ,γ,h,rel,(Fin.bind fin).mono λd ρ1 h1 H1 p1 e1 r1 f1 v rv=>⟨ρ1,γ,h1,d,⟨rel.g.mono p1 e1,r1⟩,rv,(Fin.bind f1).mono λγ1 ρ2 h2 H2 p2 e2 r2 f2 σ2 g2 =>
  f2 ρ2 H2 (Pre.refl _) (Ext.refl _ _) r2 σ2 g2⟩⟩⟩
theorem y6 (i:Nat) {x:Str}(hN:X.N.Nodup) (ha:SE X EX a ma) (hi:X.N[i]?=some x:=by rfl) (hx:Loc X.env.scope x:=by first|exact Or.inl rfl|exact Or.inr rfl) (hs:K2s a (some (.Name x p)) pos.line X.env=pure false:=by first|exact z8F|exact z79|exact z3p|exact z8O|exact z96|exact z6w|exact z4a|exact z2U|exact z43|exact z50|exact z6b|rfl)
 (hf:X.fn x=true\/X.env.scope.names.lookup x=some .local:=by first|exact .inl rfl|exact .inr rfl|assumption):S1 X EX (.Assign [.Name x p] a pos) (sAsg ma (gN i)) :=
 ⟨PS.imp (zA0 hN hi hx ha.h hs hf) λσ H D ⟨ρ,γ,h,rel,fin⟩=>⟨ρ,γ,h,rel,(Fin.bind fin).mono λd ρ1 h1 H1 p1 e1 r1 f1 v rv=>f1 ρ1 H1 (Pre.refl _) (Ext.refl _ _) r1 _ ((rel.g.mono p1 e1).set i rv)⟩⟩
end
section
variable {X:Cx}{EX:XX}{a o e:Expr}{pos cpos apos:Pos}{ma mo:G->M D}
def updL (n:Nat) (f:List D->Option (D×List D)):M D:=λh=>match h[n]? with
 | .(l xs)=>(match f xs with
  | some (d,ys)=>if ys.length<=sizeLine then .ok d (h.set n (.lst ys)) else .bad
  | none=>.bad)
 | _=>.bad
def z1Q:D->M Nat
 | .ref n=>λh=>match h[n]? with
  | .(l _)=>.ok n h
  | _=>.bad
 | _=>bad
def w8 (n:Nat) (v:D):M D:=updL n λxs=>some (.non,xs++[v])
def z3W (n:Nat) (i:D):M D:=match i with
 | .int k=>updL n λxs=>if -(2 ^ 63)<=k/\k<2 ^ 63 then (match K89 k xs.length with
  | some j=>(xs[j]?).map λd=>(d,xs.eraseIdx j)
  | none=>none) else none
 | _=>bad
def eM1 (f:Nat->D->M D) (mo ma:G->M D):G->M D:=λγ=>do
 let o <- mo γ;let n <- z1Q o;let v <- ma γ
 f n v
theorem z6p {K:K2}{ρ:List Addr}{h:AH}{H:Hp}{Q:VK}{n:Nat}{q:Addr}{f:List D->Option (D×List D)}(r:RH K ρ h H) (hq:ρ[n]?=some q) (fin:FE K EX ρ H Q (updL n f h)) :
 ∃xs d ys vs,f xs=some (d,ys)/\ys.length<=sizeLine/\H q=.(l vs)/\RDs K ρ H xs vs/\∀v ws,RD K ρ H d v->RDs K ρ H ys ws->Q v (upd H q (.lst ws)):=by
 unfold updL at fin;cases e:h[n]? with
 | none=>rw[e]at fin;exact fin.elim
 | some ob =>
  cases ob with
  | set ks=>rw[e]at fin;exact fin.elim
  | dct=>rw[e]at fin;exact fin.elim
  | dK kvs=>rw[e]at fin;exact fin.elim
  | dF kvs=>rw[e]at fin;exact fin.elim
  | exc c=>rw[e]at fin;exact fin.elim
  | lst xs =>
   rw[e]at fin;dsimp only at fin;cases e2:f xs with
   | none=>rw[e2]at fin;exact fin.elim
   | some dy =>
    obtain⟨d,ys⟩:=dy;rw[e2]at fin;dsimp only at fin;split at fin
    ·rename_i hl;obtain⟨a1,n1,vs,o1,d1⟩:=r.at e;rw[hq]at n1;cases n1;refine⟨xs,d,ys,vs,e2,hl,o1,d1,λv ws rv rw'=>?_⟩;have ext:Ext K H (upd H q (.lst ws)):=Ext.upd (.inr ⟨_,o1,trivial⟩);exact fin ρ _ (Pre.refl _) ext (r.set e hq rw') v (rv.mono (Pre.refl _) ext)
    ·exact fin.elim
theorem zr6 {K:K2}{ρ:List Addr}{h:AH}{H:Hp}{n:Nat}{q:Addr}{Z:Nat->List Addr->AH->Hp->Prop}(r:RH K ρ h H) (hq:ρ[n]?=some q) (f:Fin K EX ρ H Z (z1Q (.ref n) h)):tyV K "list" (.ref q) H/\Z n ρ h H:=by
 unfold z1Q at f;dsimp only at f;cases e:h[n]? with
 | none=>rw[e]at f;exact f.elim
 | some ob =>
  cases ob with
  | set ks=>rw[e]at f;exact f.elim
  | dct=>rw[e]at f;exact f.elim
  | dK kvs=>rw[e]at f;exact f.elim
  | dF kvs=>rw[e]at f;exact f.elim
  | exc c=>rw[e]at f;exact f.elim
  | lst xs =>
   rw[e]at f;obtain⟨a1,n1,vs,o1,d1⟩:=r.at e;rw[hq]at n1;cases n1;exact⟨.inl ⟨rfl,vs,SqL.of o1⟩,f ρ H (Pre.refl _) (Ext.refl _ _) r⟩
theorem zl3 {f:Nat->D->M D}{r:V->List V->Hp->VK->Prop}(hr:∀ρ h H n q y u Q,RH X.K ρ h H->ρ[n]?=some q->RD X.K ρ H y u->FE X.K EX ρ H Q (f n y h)->r (.ref q) [u] H Q) :
 ∀σ H Q,tE X.K EX (eM1 f mo ma) σ H Q->tBM X.K "list" r (tE X.K EX mo) (z8K (tE X.K EX ma) tNil) σ H Q:=λσ H Q ⟨ρ,γ,h,rel,fin⟩=>⟨ρ,γ,h,rel,(Fin.bind fin).mono λx ρ1 h1 H1 p1 e1 r1 f1 v rv=>by
 have f2:=Fin.bind f1;cases x<;>first|exact(show False from f2).elim|skip
 rename_i n;simp only[RD]at rv;obtain⟨q,rfl,hq⟩:=rv;obtain⟨lt,f3⟩:=zr6 r1 hq f2;exact⟨lt,ρ1,γ,h1,⟨rel.g.mono p1 e1,r1⟩,(Fin.bind f3).mono λy ρ2 h2 H2 p2 e2 r2 f4 u ru=>hr ρ2 h2 H2 n q y u Q r2 (p2 n q hq) ru f4⟩⟩
theorem v5 (ho:SE X EX o mo) (ha:SE X EX a ma)
 (hbase:K49 o "append" X.env (eval o X.env)=eval o X.env:=by rfl)
 (hfew:((backTo cpos (K05 [a] X.env)).all (λx=>!x.1)&&(K3r cpos (K2b [] X.env)).all (λx=>x.1.isSome)
 &&decide (([a]:List Expr).length+([]:List K3d).length+(if ([]:List K3d).isEmpty then 0 else 1)<30))=true:=by rfl)
 (hline:(apos.endLine==cpos.line)=true:=by rfl) (hs:K05 [a] X.env=[(false,eval a X.env)]:=by rfl) :
 SE X EX (.Call (.Attribute o "append" apos) [a] [] cpos) (eM1 w8 mo ma) :=
 ⟨PE.imp (zu8 K5n PySem.F.slot_list_append PySem.F.type_list_append z4H ho.h (z1S ha.h z3u hs) hbase hfew hline hs rfl) (zl3 λρ h H n q y u Q r hq ru fin=>by
  obtain⟨xs,d,ys,vs,g1,g2,g3,g4,g5⟩:=z6p r hq fin;cases g1;have hl:=g4.length;rw[K06,K1i]at g2;exact⟨q,vs,u,rfl,rfl,g3,by omega,g5 _ _ (by simp[RD]) (g4.append (RDs.cons ru RDs.nil))⟩)⟩
theorem zc4 (ho:SE X EX o mo) (ha:SE X EX a ma)
 (hbase:K49 o "pop" X.env (eval o X.env)=eval o X.env:=by rfl)
 (hfew:((backTo cpos (K05 [a] X.env)).all (λx=>!x.1)&&(K3r cpos (K2b [] X.env)).all (λx=>x.1.isSome)
 &&decide (([a]:List Expr).length+([]:List K3d).length+(if ([]:List K3d).isEmpty then 0 else 1)<30))=true:=by rfl)
 (hline:(apos.endLine==cpos.line)=true:=by rfl) (hs:K05 [a] X.env=[(false,eval a X.env)]:=by rfl) :
 SE X EX (.Call (.Attribute o "pop" apos) [a] [] cpos) (eM1 z3W mo ma) :=
 ⟨PE.imp (zu8 K5n PySem.F.slot_list_pop PySem.F.type_list_pop zb4 ho.h (z1S ha.h z3u hs) hbase hfew hline hs rfl) (zl3 λρ h H n q y u Q r hq ru fin=>by
  cases y<;>first|exact(show False from fin).elim|skip
  rename_i k;simp only[RD]at ru;subst ru;obtain⟨xs,d,ys,vs,g1,g2,g3,g4,g5⟩:=z6p r hq fin;split at g1
  ·rename_i hk;cases e5:K89 k xs.length with
   | none=>rw[e5]at g1;cases g1
   | some j =>
    rw[e5]at g1;obtain⟨d',e1,e2⟩:=K09.mp g1;cases e2;obtain⟨v,e3,e4⟩:=g4.get e1;exact⟨q,vs,k,j,v,rfl,rfl,g3,hk.1,hk.2,by rw[<- g4.length];exact e5,e3,g5 _ _ e4 (g4.eraseIdx j)⟩
  ·cases g1)⟩
end
inductive Src where
 | con (xs:List D)
 | lst (n:Nat) (xs:List D)
 | obj (n:Nat) (o:O) (xs:List D)
def Src.items:Src->List D
 | .con xs=>xs
 | .lst _ xs=>xs
 | .obj _ _ xs=>xs
def Src.good:Src->AH->Prop
 | .con _,_=>True
 | .lst n xs,h=>h[n]?=.(l xs)
 | .obj n o _,h=>h[n]?=some o
open Classical in
noncomputable def Src.chk (s:Src):M Unit:=λh=>if s.good h then .ok () h else .bad
def JOK (K:K2) (src:Src) (ρ:List Addr) (H:Hp) (J:It):Prop:=∀i ρ1 h1 H1,Pre ρ ρ1->Ext K H H1->RH K ρ1 h1 H1->src.good h1 ->
 (∀d,src.items[i]?=some d->J.go i H1/\∀x H2,J.yld i H1 x H2->RD K ρ1 H2 d x/\RH K ρ1 h1 H2/\Ext K H1 H2)/\(src.items.length=i->J.stop i H1)
def tI (K:K2) (EX:XX) (m:G->M Src):TI:=λσ H R=>∃ρ γ h,Rel K ρ γ h σ H/\Fin K EX ρ H (λsrc ρ' _ H'=>∀J,JOK K src ρ' H' J->R J H') (m γ h)
structure SI (X:Cx) (EX:XX) (tg iter:Expr) (m:G->M Src):Prop where
 h:PI X tg iter (tI X.K EX m)
theorem PI.imp {X:Cx}{tg e:Expr}{t t':TI}(h:PI X tg e t) (f:∀σ H R,t' σ H R->t σ H R):PI X tg e t':=λpins s σ H R I z=>h pins s σ H R I (f σ H R z)
section
variable {X:Cx}{EX:XX}{a o e tg:Expr}{pos cpos apos p:Pos}{ma mo:G->M D}{mr:G->M (List D)}
def z1b (ma:G->M D):G->M Src:=λγ=>do
 let x <- ma γ
 match x with
 | .fl xs=>pure (.con xs)
 | .ref n=>do
  let xs <- getL n
  pure (.lst n xs)
 | _=>bad
theorem z1P (ha:SE X EX a ma):SI X EX tg a (z1b ma) :=
 ⟨PI.imp (zs2 ha.h) λσ H R ⟨ρ,γ,h,rel,fin⟩=>⟨ρ,γ,h,rel,(Fin.bind fin).mono λx ρ1 h1 H1 p1 e1 r1 f1 v rv=>by
  cases x<;>first|exact(show False from f1).elim|skip
  case fl xs =>
   simp only[RD]at rv;obtain⟨q,vs,rfl,h2,h3⟩:=rv;refine⟨q,rfl,⟨vs,h2.sq⟩,f1 ρ1 H1 (Pre.refl _) (Ext.refl _ _) r1 _ λi ρ2 h4 H2 p2 e2 r2 _=>⟨λd hd=>?_,λhi=>?_⟩⟩
   ·have h3':=h3.mono p2 e2;obtain⟨x,g1,g2⟩:=h3'.get hd;refine⟨⟨vs,x,(e2.l _ _ h2).sq,g1⟩,λy H3 ⟨z1,z2⟩=>?_⟩;subst z1;have:=z2 vs (e2.l _ _ h2).sq;rw[g1]at this;cases this;exact⟨g2,r2,Ext.refl _ _⟩
   ·exact⟨vs,(e2.l _ _ h2).sq,by rw[<- h3.length];exact K3y hi⟩
  case ref n =>
   have f2:Fin X.K EX ρ1 H1 (λsrc ρ' _ H'=>∀J,JOK X.K src ρ' H' J->R J H') ((getL n >>= λxs=>(pure (.lst n xs):M Src)) h1):=f1;have f3:=Fin.bind f2;cases e3:getL n h1 with
   | bad=>rw[e3]at f3;exact f3.elim
   | err z hz=>exact(z0M e3).elim
   | ok xs h3 =>
    obtain⟨rfl,q1⟩:=z0N e3;rw[e3]at f3;simp only[RD]at rv;obtain⟨q,rfl,hq⟩:=rv;obtain⟨a1,n1,vs,o1,d1⟩:=r1.at q1;rw[hq]at n1;cases n1;have f4:=f3 ρ1 H1 (Pre.refl _) (Ext.refl _ _) r1;refine⟨q,rfl,⟨vs,SqL.of o1⟩,f4 ρ1 H1 (Pre.refl _) (Ext.refl _ _) r1 _ λi ρ2 h4 H2 p2 e2 r2 g=>?_⟩;have g':h4[n]?=.(l xs):=g;obtain⟨a2,n2,vs2,o2,d2⟩:=r2.at g';rw[p2 n q hq]at n2;cases n2;refine⟨λd hd=>?_,λhi=>⟨vs2,SqL.of o2,by rw[<- d2.length];exact K3y hi⟩⟩;obtain⟨x,g1,g2⟩:=d2.get hd;refine⟨⟨vs2,x,SqL.of o2,g1⟩,λy H3 ⟨z1,z2⟩=>?_⟩;subst z1;have:=z2 vs2 (SqL.of o2);rw[g1]at this;cases this;exact⟨g2,r2,Ext.refl _ _⟩⟩⟩
def z0S (ma:G->M D):G->M Src:=λγ=>do
 let x <- ma γ
 match x with
 | .tup xs=>pure (.con xs)
 | _=>bad
theorem z19 (ha:SE X EX a ma):SI X EX tg a (z0S ma) :=
 ⟨PI.imp (zF1 ha.h) λσ H R ⟨ρ,γ,h,rel,fin⟩=>⟨ρ,γ,h,rel,(Fin.bind fin).mono λx ρ1 h1 H1 p1 e1 r1 f1 v rv=>by
  cases x<;>first|exact(show False from f1).elim|skip
  rename_i xs;simp only[RD]at rv;obtain⟨q,vs,rfl,h2,h3⟩:=rv;refine⟨q,rfl,⟨vs,h2⟩,f1 ρ1 H1 (Pre.refl _) (Ext.refl _ _) r1 _ λi ρ2 h4 H2 p2 e2 r2 _=>⟨λd hd=>?_,λhi=>?_⟩⟩
  ·have h3':=h3.mono p2 e2;obtain⟨x,g1,g2⟩:=h3'.get hd;refine⟨⟨vs,x,e2.t _ _ h2,g1⟩,λy H3 ⟨z1,z2⟩=>?_⟩;subst z1;have:=z2 vs (e2.t _ _ h2);rw[g1]at this;cases this;exact⟨g2,r2,Ext.refl _ _⟩
  ·exact⟨vs,e2.t _ _ h2,by rw[<- h3.length];exact K3y hi⟩⟩⟩
def z1N (n:Nat):List D:=(K0o n).map λ(i:Nat)=>.int i
def z0q (ma:G->M D):G->M Src:=λγ=>do
 let x <- ma γ
 match x with
 | .int j=>if -(2 ^ 62)<=j/\j<2 ^ 62 then pure (.con (z1N j.toNat)) else bad
 | _=>bad
theorem z0m (hg:Gl X "range") (hm:X.mg "range" = none) (ha:SE X EX a ma) (hs:K05 [a] X.env=[(false,eval a X.env)]:=by rfl):SI X EX tg (.Call (.Name "range" p) [a] [] pos) (z0q ma) :=
 ⟨PI.imp (z9z hg hm (z1S ha.h z3u hs) hs) λσ H R ⟨ρ,γ,h,rel,fin⟩=>⟨ρ,γ,h,rel,(Fin.bind fin).mono λx ρ1 h1 H1 p1 e1 r1 f1 v rv=>by
  cases x<;>first|exact(show False from f1).elim|skip
  rename_i j;simp only[RD]at rv;subst rv;have f2:Fin X.K EX ρ1 H1 (λsrc ρ' _ H'=>∀J,JOK X.K src ρ' H' J->R J H') ((if -(2 ^ 62)<=j/\j<2 ^ 62 then pure (.con (z1N j.toNat)) else bad:M Src) h1):=f1;by_cases hj:-(2 ^ 62)<=j/\j<2 ^ 62
  ·rw[if_pos hj]at f2;refine⟨j,rfl,hj.1,hj.2,f2 ρ1 H1 (Pre.refl _) (Ext.refl _ _) r1 _ λi ρ2 h4 H2 p2 e2 r2 _=>⟨λd hd=>?_,λhi=>?_⟩⟩
   ·have hd':(z1N j.toNat)[i]?=some d:=hd;unfold z1N at hd';rw[K00]at hd';have hi:i<j.toNat:=by
     by_cases hi:i<j.toNat
     ·exact hi
     ·rw[K1j (by simpa using hi)]at hd';cases hd'
    rw[K9s hi]at hd';cases hd';refine⟨hi,λy H3 ⟨z1,z2⟩=>?_⟩;subst z1;subst z2;exact⟨by simp[RD],r2,Ext.refl _ _⟩
   ·have hi':(z1N j.toNat).length=i:=hi;unfold z1N at hi';rw[K6,K1w]at hi';exact K3y hi'
  ·rw[if_neg hj]at f2;exact f2.elim⟩⟩
end
noncomputable def forR (src:Src) (g:D->G->M G) (body:G->M Out):List D->G->M Out
 | [],γ=>do
  let _ <- src.chk
  pure (.nx γ)
 | d::r,γ=>do
  let _ <- src.chk;let γ1 <- g d γ;let o <- body γ1
  match o with
  | .nx γ2=>forR src g body r γ2
  | .ct γ2=>forR src g body r γ2
  | .bk γ2=>pure (.nx γ2)
  | .rt v=>pure (.rt v)
noncomputable def sFor (mi:G->M Src) (g:D->G->M G) (body:G->M Out):G->M Out:=λγ=>do
 let src <- mi γ
 forR src g body src.items γ
theorem z6h {K:K2}{EX:XX}{ρ:List Addr}{H:Hp}{α:Type}{P:α->List Addr->AH->Hp->Prop}{src:Src}{f:Unit->M α}{h:AH}(fin:Fin K EX ρ H P ((src.chk >>= f) h)) (r:RH K ρ h H):src.good h/\Fin K EX ρ H P (f () h):=by
 have f1:=Fin.bind fin;unfold Src.chk at f1;split at f1
 ·rename_i hg;exact⟨hg,f1 ρ H (Pre.refl _) (Ext.refl _ _) r⟩
 ·exact f1.elim
section
variable {X:Cx}{EX:XX}{a o e tg c:Expr}{pos cpos apos p:Pos}{ma mo:G->M D}{mi:G->M Src}{g:D->G->M G}{mb:G->M Out}{sts:List Stmt}{kc:G->M Bool}
theorem z1y (hp:Z16 (model X.prog X.w) X.A X.env X.xe) (hc:X.calm=true) (hi:SI X EX tg e mi) (hg:SG X EX tg g) (hb:SB X EX sts mb) (hs:∀x,K2g e X.env x=pure x:=by intro _;rfl):S1 X EX (.For tg e sts [] pos) (sFor mi g mb) :=
 ⟨PS.imp (zD2 hp hc hi.h hg.h hb.h hs) λσ H D ⟨ρ,γ,h,rel,fin⟩=>⟨ρ,γ,h,rel,(Fin.bind fin).mono λsrc ρ0 h0 H0 p0 e0 r0 f0 J hJ=>by
  refine⟨λi m σ H=>m+i=src.items.length/\∃ρ γ h,Pre ρ0 ρ/\Ext X.K H0 H/\Rel X.K ρ γ h σ H/\Fin X.K EX ρ H (λo ρ' _ H'=>OutP X.K D o ρ' H') (forR src g mb (src.items.drop i) γ h),
   ⟨src.items.length,rfl,ρ0,γ,h0,Pre.refl _,Ext.refl _ _,⟨rel.g.mono p0 e0,r0⟩,f0⟩,?_⟩
  rintro i m σ1 H1 ⟨hm,ρ1,γ1,h1,p1,e1,rel1,f1⟩;by_cases hi:i<src.items.length
  ·have hd:src.items.drop i=src.items[i]::src.items.drop (i+1):=K7n hi;rw[hd]at f1;unfold forR at f1;obtain⟨good,f2⟩:=z6h f1 rel1.h;obtain⟨j1,j2⟩:=hJ i ρ1 h1 H1 p1 e1 rel1.h good;obtain⟨go,yld⟩:=j1 src.items[i] (K7 hi);refine .inr ⟨go,λσ' H'=>∃ρ γ h,Pre ρ0 ρ/\Ext X.K H0 H'/\Rel X.K ρ γ h σ' H'/\Fin X.K EX ρ H' (λo ρ' _ H'=>OutP X.K D o ρ' H') (forR src g mb (src.items.drop (i+1)) γ h),λσ' H' z=>⟨m - 1,by omega,by omega,z⟩,λx H2 y=>?_⟩;obtain⟨rd,rh,ext⟩:=yld x H2 y;refine⟨ρ1,γ1,h1,_,⟨rel1.g.mono (Pre.refl _) ext,rh⟩,rd,(Fin.bind (Fin.up (Pre.refl _) ext f2)).mono λγ2 ρ3 h3 H3 p3 e3 r3 f3 σ3 g3=>⟨ρ3,γ2,h3,⟨g3,r3⟩,(Fin.bind f3).mono λo ρ4 h4 H4 p4 e4 r4 f4=>?_⟩⟩;have pp:Pre ρ0 ρ4:=(p1.trans p3).trans p4;have ee:Ext X.K H0 H4:=((e1.trans ext).trans e3).trans e4;cases o with
   | nx γ5=>exact λσ5 g5=>⟨ρ4,γ5,h4,pp,ee,⟨g5,r4⟩,f4⟩
   | ct γ5=>exact λσ5 g5=>⟨ρ4,γ5,h4,pp,ee,⟨g5,r4⟩,f4⟩
   | bk γ5=>exact λσ5 g5=>f4 ρ4 H4 (Pre.refl _) (Ext.refl _ _) r4 σ5 g5
   | rt d=>exact λv rv=>f4 ρ4 H4 (Pre.refl _) (Ext.refl _ _) r4 v rv
  ·have hd:src.items.drop i=[]:=K8y (by omega);rw[hd]at f1;unfold forR at f1;obtain⟨good,f2⟩:=z6h f1 rel1.h;obtain⟨j1,j2⟩:=hJ i ρ1 h1 H1 p1 e1 rel1.h good;exact .inl ⟨j2 (by omega),f2 ρ1 H1 (Pre.refl _) (Ext.refl _ _) rel1.h σ1 rel1.g⟩⟩⟩
def z2i (k:G->M Bool) (body:G->M Out):Nat->G->M Out
 | 0,_=>bad
 | n+1,γ=>do
  let t <- k γ
  if t then do
   let o <- body γ
   match o with
   | .nx γ2=>z2i k body n γ2
   | .ct γ2=>z2i k body n γ2
   | .bk γ2=>pure (.nx γ2)
   | .rt v=>pure (.rt v)
  else pure (.nx γ)
theorem zp8 (n:Nat) (hp:Z16 (model X.prog X.w) X.A X.env X.xe) (hc:SC X EX c kc) (hb:SB X EX sts mb):S1 X EX (.While c sts [] pos) (z2i kc mb n) :=
 ⟨PS.imp (zc8 hp hc.h hb.h) λσ H D ⟨ρ,γ,h,rel,fin⟩=>by
  refine⟨λm σ H=>∃ρ γ h,Rel X.K ρ γ h σ H/\Fin X.K EX ρ H (λo ρ' _ H'=>OutP X.K D o ρ' H') (z2i kc mb m γ h),⟨n,ρ,γ,h,rel,fin⟩,?_⟩;rintro m σ1 H1 ⟨ρ1,γ1,h1,rel1,f1⟩;cases m with
  | zero=>exact(show False from f1).elim
  | succ m =>
   unfold z2i at f1;refine⟨ρ1,γ1,h1,rel1,(Fin.bind f1).mono λt ρ2 h2 H2 p2 e2 r2 f2=>?_⟩;cases t with
   | false=>exact f2 ρ2 H2 (Pre.refl _) (Ext.refl _ _) r2 σ1 (rel1.g.mono p2 e2)
   | true =>
    rw[if_pos rfl]at f2 ⊢;refine⟨λσ' H'=>∃ρ γ h,Rel X.K ρ γ h σ' H'/\Fin X.K EX ρ H' (λo ρ' _ H'=>OutP X.K D o ρ' H') (z2i kc mb m γ h),λσ' H' z=>⟨m,by omega,z⟩,ρ2,γ1,h2,⟨rel1.g.mono p2 e2,r2⟩,(Fin.bind f2).mono λo ρ4 h4 H4 p4 e4 r4 f4=>?_⟩;cases o with
    | nx γ5=>exact λσ5 g5=>⟨ρ4,γ5,h4,⟨g5,r4⟩,f4⟩
    | ct γ5=>exact λσ5 g5=>⟨ρ4,γ5,h4,⟨g5,r4⟩,f4⟩
    | bk γ5=>exact λσ5 g5=>f4 ρ4 H4 (Pre.refl _) (Ext.refl _ _) r4 σ5 g5
    | rt d=>exact λv rv=>f4 ρ4 H4 (Pre.refl _) (Ext.refl _ _) r4 v rv⟩
end
def capG (cap:List (Option Nat)) (γ:G):G:=cap.map λo=>match o with|some j=>(γ[j]?).join|none=>none
theorem zl9 {K:K2}{ρ:List Addr}{H:Hp}{γ:G}{σ:L2.St}(cap:List (Option Nat)) (r:RG K ρ H γ σ):RG K ρ H (capG cap γ) (z3B cap σ):=by
 refine⟨by simp[capG,z3B],λi d e=>?_⟩;unfold capG at e;unfold z3B;rw[K00]at e ⊢;cases q:cap[i]? with
 | none=>rw[q]at e;cases e
 | some o =>
  rw[q]at e;cases o with
  | none=>simp at e
  | some j =>
   have e2:(γ[j]?).join=some d:=by simpa using e
   have e3:γ[j]?=some (some d):=by
    cases q2:γ[j]? with
    | none=>rw[q2]at e2;simp at e2
    | some o2=>rw[q2]at e2;simp at e2;rw[e2]
   obtain⟨v,h1,h2⟩:=r.var j d e3;exact⟨v,by simp[h1],h2⟩
noncomputable def z3t (src:Src) (g:D->G->M G) (k:G->M Bool) (me:G->M D) (n0:Nat) (γ:G):List D->M Unit
 | []=>do
  let _ <- src.chk
  pure ()
 | d::r=>do
  let _ <- src.chk;let γ1 <- g d γ;let t <- k γ1
  if t then do
   let v <- me γ1;let _ <- w8 n0 v
   z3t src g k me n0 γ r
  else z3t src g k me n0 γ r
noncomputable def z0F (cap:List (Option Nat)) (mi:G->M Src) (g:D->G->M G) (k:G->M Bool) (me:G->M D):G->M D:=λγ=>do
 let src <- mi γ;let n0 <- (λh=>.ok h.length (h++[.lst []]):M Nat);let _ <- z3t src g k me n0 (capG cap γ) src.items
 pure (.ref n0)
structure SCs (X:Cx) (EX:XX) (ifs:List Expr) (m:G->M Bool):Prop where
 h:PTs X ifs (tT X.K EX m)
theorem PTs.imp {X:Cx}{e:List Expr}{t t':TT}(h:PTs X e t) (f:∀σ H Q,t' σ H Q->t σ H Q):PTs X e t':=λpins s σ H Q I z=>h pins s σ H Q I (f σ H Q z)
section
variable {X:Cx}{EX:XX}{elt tg iter c:Expr}{ifs:List Expr}{sc:Scope}{pos:Pos}{N':List Str}{cap:List (Option Nat)}{own:List Nat}{mi:G->M Src}{g:D->G->M G}{k kr:G->M Bool}{me:G->M D}
theorem z13:SCs X EX [] (λ_=>pure true):=⟨PTs.imp z8f λσ H Q ⟨ρ,γ,h,rel,fin⟩=>fin ρ H (Pre.refl _) (Ext.refl _ _) rel.h⟩
theorem z3L (h:SC X EX c k):SCs X EX [c] k:=⟨PTs.imp (zd2 h.h z8f) λσ H Q ⟨ρ,γ,h,rel,fin⟩=>⟨ρ,γ,h,rel,fin.mono λt ρ1 h1 H1 p1 e1 r1 f1=>by
 cases t with
 | true=>exact f1
 | false=>exact f1⟩⟩
def HB (X:Cx) (EX:XX) (own:List Nat) (σ0:L2.St) (ρ0:List Addr) (b:G->M Unit->M Unit) (tb:TB):Prop :=
 ∀{σ:L2.St} {γ1:G} {ρ:List Addr} {h:AH} {H:Hp} {P:Unit->List Addr->AH->Hp->Prop} {K:M Unit} {Z:Hp->Prop},Pre ρ0 ρ->(∀j,j∉own->σ[j]?=σ0[j]?)->RG X.K ρ H γ1 σ->RH X.K ρ h H->Fin X.K EX ρ H P (b γ1 K h) ->
  (∀ρ' h' H',Pre ρ ρ'->Ext X.K H H'->RH X.K ρ' h' H'->Fin X.K EX ρ' H' P (K h')->Z H')->tb σ H Z
theorem zB2 {F:List D->M Unit}{b:G->M Unit->M Unit}{tb:TB}{σ0:L2.St}{H0:Hp}{ρ0:List Addr}{h0:AH}{γ:G}{src:Src}{J:It}{P:Hp->Prop}
 (hnil:F []=(do let _ <- src.chk;pure ())) (hcons:∀d r,F (d::r)=(do let _ <- src.chk;let γ1 <- g d γ;let t <- k γ1;if t then b γ1 (F r) else F r))
 (r0:RH X.K ρ0 h0 H0) (rg:RG X.K ρ0 H0 γ σ0) (hJ:JOK X.K src ρ0 H0 J) (hown:∀j∈own,∀v,σ0[j]?≠some (some v)) (hb:HB X EX own σ0 ρ0 b tb)
 (fin:Fin X.K EX ρ0 H0 (λ_ ρ' h' H'=>RH X.K ρ' h' H'->Ext X.K H0 H'->Pre ρ0 ρ'->P H') (F src.items h0)):runG (tGk X.K EX own g) (tT X.K EX k) tb σ0 J P H0:=by
 refine⟨λi m H=>m+i=src.items.length/\∃ρ h,Pre ρ0 ρ/\Ext X.K H0 H/\RH X.K ρ h H /\
  Fin X.K EX ρ H (λ_ ρ' h' H'=>RH X.K ρ' h' H'->Ext X.K H0 H'->Pre ρ0 ρ'->P H') (F (src.items.drop i) h),
  ⟨src.items.length,rfl,_,_,Pre.refl _,Ext.refl _ _,r0,fin⟩,?_⟩
 rintro i m H1 ⟨hm,ρ1,h1,p1,e1,r1,f1⟩;by_cases hi:i<src.items.length
 ·rw[show src.items.drop i=src.items[i]::src.items.drop (i+1) from K7n hi,hcons]at f1;obtain⟨good,f2⟩:=z6h f1 r1;obtain⟨j1,j2⟩:=hJ i ρ1 h1 H1 p1 e1 r1 good;obtain⟨go,yld⟩:=j1 src.items[i] (K7 hi);refine .inr ⟨go,λx H2 y=>?_⟩;obtain⟨rd,rh,ext⟩:=yld x H2 y;refine⟨ρ1,_,h1,_,⟨rg.mono p1 (e1.trans ext),rh⟩,rd,(Fin.bind (Fin.up (Pre.refl _) ext f2)).mono λγ2 ρ3 h3 H3 p3 e3 r3 f3 σ3 g3 k3=>⟨λj v hv=>?_,ρ3,γ2,h3,⟨g3,r3⟩,(Fin.bind f3).mono λt ρ4 h4 H4 p4 e4 r4 f4=>?_⟩⟩
  ·rw[k3 j λhj=>hown j hj v hv];exact hv
  ·have pp:Pre ρ0 ρ4:=(p1.trans p3).trans p4;have ee:Ext X.K H0 H4:=((e1.trans ext).trans e3).trans e4;cases t with
   | false =>
    rw[if_neg (by decide)]at f4;dsimp only;rw[if_neg (by decide)];exact⟨m - 1,by omega,by omega,ρ4,h4,pp,ee,r4,f4⟩
   | true =>
    rw[if_pos rfl]at f4;dsimp only;rw[if_pos rfl];exact hb pp k3 (g3.mono p4 e4) r4 f4 λρ5 h5 H5 p5 e5 r5 f5=>⟨m - 1,by omega,by omega,ρ5,h5,pp.trans p5,ee.trans e5,r5,f5⟩
 ·rw[show src.items.drop i=[] from K8y (by omega),hnil]at f1;obtain⟨good,f2⟩:=z6h f1 r1;obtain⟨j1,j2⟩:=hJ i ρ1 h1 H1 p1 e1 r1 good;exact .inl ⟨j2 (by omega),f2 ρ1 H1 (Pre.refl _) (Ext.refl _ _) r1 r1 e1 p1⟩
theorem zF2 {σ0:L2.St}{ρ0:List Addr}{n0:Nat}{Dd:Addr}(hD:ρ0[n0]?=some Dd):HB X EX own σ0 ρ0 (λγ1 K=>do let v <- me γ1;let _ <- w8 n0 v;K) (bApp (tE X.K EX me) Dd):=λ{σ γ1 ρ h H P K Z} p0 _ rg rh fin hz=>by
 refine⟨ρ,γ1,h,⟨rg,rh⟩,(Fin.bind fin).mono λd ρ5 h5 H5 p5 e5 r5 f5 v rv=>?_⟩;have hq:ρ5[n0]?=some Dd:=(p0.trans p5) _ _ hD;have f6:=Fin.bind f5;unfold w8 updL at f6;cases e7:h5[n0]? with
 | none=>rw[e7]at f6;exact f6.elim
 | some ob =>
  cases ob<;>first|(rw[e7]at f6;exact f6.elim)|skip
  rename_i xs;rw[e7]at f6;dsimp only at f6;split at f6
  ·rename_i hl;obtain⟨a1,n1,vs,o1,d1⟩:=r5.at e7;rw[hq]at n1;cases n1;have ext2:Ext X.K H5 (upd H5 Dd (.lst (vs++[v]))):=Ext.upd (.inr ⟨_,o1,trivial⟩);have r6:=r5.set e7 hq (d1.append (RDs.cons rv RDs.nil));rw[K06,K1i]at hl;have hl2:=d1.length;exact⟨vs,o1,by omega,hz ρ5 _ _ p5 (e5.trans ext2) r6 (f6 ρ5 _ (Pre.refl _) ext2 r6)⟩
  ·exact f6.elim
structure CmA (X:Cx) (EX:XX) (ce:Expr) (sc:Scope) (tg iter:Expr) (ifs:List Expr) (N':List Str) (cap:List (Option Nat)) (own:List Nat) (mi:G->M Src) (g:D->G->M G) (k:G->M Bool) (oo:O) (b:Nat->G->M Unit->M Unit) (F:Src->Nat->G->List D->M Unit):Prop where
 ex:∃(mk:Sem Value) (o0:HO) (bd:Addr->Env->Sem Unit) (p:Pos) (tbd:Addr->L2.TB),CmE ce sc tg iter ifs mk o0 bd p/\(∀(ρ:List Addr) (H:Hp) (Dd:Addr),RO X.K ρ (upd H Dd o0) oo Dd)/\(∀D s H fp xe,PBd (X.comp N' sc s H fp xe) (bd D (X.comp N' sc s H fp xe).env) (tbd D)) /\
  ∀{σ0:L2.St} {ρ0:List Addr} {n0:Nat} {Dd:Addr},(∀(j:Nat),cap[j]?=some none->∀v,σ0[j]?≠some (some v))->ρ0[n0]?=some Dd->HB X EX own σ0 ρ0 (b n0) (tbd Dd)
 nil:∀src n0 γ,F src n0 γ []=(do let _ <- src.chk;pure ())
 cons:∀src n0 γ d r,F src n0 γ (d::r)=(do let _ <- src.chk;let γ1 <- g d γ;let t <- k γ1;if t then b n0 γ1 (F src n0 γ r) else F src n0 γ r)
noncomputable def eCm (cap:List (Option Nat)) (mi:G->M Src) (oo:O) (F:Src->Nat->G->List D->M Unit):G->M D:=λγ=>do
 let src <- mi γ;let n0 <- (λh=>.ok h.length (h++[oo]):M Nat);let _ <- F src n0 (capG cap γ) src.items
 pure (.ref n0)
theorem zg2 {ce:Expr}{oo:O}{b:Nat->G->M Unit->M Unit}{F:Src->Nat->G->List D->M Unit}{o0:HO}{tbd:Addr->TB}{σ:L2.St}{γ:G}{src:Src}{ρ0:List Addr}{h0:AH}{H0:Hp}{J:It}{Dd:Addr}{Q:Hp->Prop}
 (A:CmA X EX ce sc tg iter ifs N' cap own mi g k oo b F) (ho:∀(ρ:List Addr) (H:Hp) (Dd:Addr),RO X.K ρ (upd H Dd o0) oo Dd) (hb:∀{σ0:L2.St} {ρ0:List Addr} {n0:Nat} {Dd:Addr},(∀(j:Nat),cap[j]?=some none->∀v,σ0[j]?≠some (some v))->ρ0[n0]?=some Dd->HB X EX own σ0 ρ0 (b n0) (tbd Dd))
 (hown:∀j∈own,cap[j]?=some none) (r0:RH X.K ρ0 h0 H0) (rg:RG X.K ρ0 H0 γ σ) (hJ:JOK X.K src ρ0 H0 J) (hD:H0 Dd=none) {R:D->List Addr->AH->Hp->Prop}
 (fin:Fin X.K EX ρ0 H0 R ((do let n0 <- (λh=>.ok h.length (h++[oo]):M Nat);let _ <- F src n0 (capG cap γ) src.items;pure (.ref n0):M D) h0))
 (z:∀ρ' h' H',Pre ρ0 ρ'->Ext X.K H0 H'->RH X.K ρ' h' H'->R (.ref h0.length) ρ' h' H'->RD X.K ρ' H' (.ref h0.length) (.ref Dd)->Q H') :
 runG (tGk X.K EX own g) (tT X.K EX k) (tbd Dd) (z3B cap σ) J Q (upd H0 Dd o0):=by
 have rP:RH X.K (ρ0++[Dd]) (h0++[oo]) (upd H0 Dd o0):=r0.pushO hD (ho _ _ _);have eP:Ext X.K H0 (upd H0 Dd o0):=Ext.upd (.inl hD);have f2:=(Fin.bind fin) (ρ0++[Dd]) _ (Pre.app _ _) eP rP;have at0:(ρ0++[Dd])[h0.length]?=some Dd:=by rw[<- r0.len];simp
 have non:∀(j:Nat),cap[j]?=some none->∀v,(z3B cap σ)[j]?≠some (some v):=λj e v hv=>by
  unfold z3B at hv;rw[K00,e]at hv;simp at hv
 refine zB2 (A.nil src h0.length (capG cap γ)) (A.cons src h0.length (capG cap γ)) rP ((zl9 cap rg).mono (Pre.app _ _) eP) (λi ρ1 h1 H1 p e r good=>hJ i ρ1 h1 H1 ((Pre.app _ _).trans p) (eP.trans e) r good) (λj hj=>non j (hown j hj)) (hb non at0) ((Fin.bind f2).mono λ_ ρ5 h5 H5 p5 e5 r5 f5 rr ee pp=>?_);refine z ρ5 h5 H5 ((Pre.app _ _).trans pp) (eP.trans ee) rr (f5 ρ5 H5 (Pre.refl _) (Ext.refl _ _) rr) ?_;simp only[RD];exact⟨Dd,rfl,pp _ _ at0⟩
theorem zy1 {ce:Expr}{oo:O}{b:Nat->G->M Unit->M Unit}{F:Src->Nat->G->List D->M Unit}(A:CmA X EX ce sc tg iter ifs N' cap own mi g k oo b F) (hc:X.calm=true) (S:CS X sc N' cap) (hi:SI X EX tg iter mi) (hg:∀s H fp xe,SGk (X.comp N' sc s H fp xe) EX tg own g) (ht:∀s H fp xe,SCs (X.comp N' sc s H fp xe) EX ifs k)
 (hown:∀j∈own,cap[j]?=some none) (hs:∀x,K2g iter X.env x=pure x):SE X EX ce (eCm cap mi oo F):=by
 obtain⟨mk,o0,bd,p,tbd,C,ho,hbd,hb⟩:=A.ex;exact⟨PE.imp (zR0 (g:=tGk X.K EX own g) (ti:=tT X.K EX k) C hc S hi.h (λs H fp xe=>(hg s H fp xe).h) (λs H fp xe=>(ht s H fp xe).h) hbd hs) λσ H Q ⟨ρ,γ,h,rel,fin⟩=>⟨ρ,γ,h,rel,(Fin.bind fin).mono λsrc ρ0 h0 H0 p0 e0 r0 f0 J hJ Dd hD =>
  zg2 A ho hb hown r0 (rel.g.mono p0 e0) hJ hD f0 λρ' h' H' p' e' r' q rd=>q _ rd⟩⟩
theorem s_cm {ce:Expr}{oo:O}{b:Nat->G->M Unit->M Unit}{F:Src->Nat->G->List D->M Unit}(i:Nat) {y:Str}{py spos:Pos}(A:CmA X EX ce sc tg iter ifs N' cap own mi g k oo b F) (hc:X.calm=true) (S:CS X sc N' cap) (hi:SI X EX tg iter mi) (hg:∀s H fp xe,SGk (X.comp N' sc s H fp xe) EX tg own g) (ht:∀s H fp xe,SCs (X.comp N' sc s H fp xe) EX ifs k)
 (hown:∀j∈own,cap[j]?=some none) (hN:X.N.Nodup) (hy:X.N[i]?=some y) (hl:X.env.scope.names.lookup y=some .local) (hsw:K2s ce (some (.Name y py)) spos.line X.env=pure true) (hs:∀x,K2g iter X.env x=pure x) :
 S1 X EX (.Assign [.Name y py] ce spos) (sAsg (eCm cap mi oo F) (gN i)):=by
 obtain⟨mk,o0,bd,p,tbd,C,ho,hbd,hb⟩:=A.ex;exact⟨PS.imp (zO7 (g:=tGk X.K EX own g) (ti:=tT X.K EX k) C hc S hi.h (λs H fp xe=>(hg s H fp xe).h) (λs H fp xe=>(ht s H fp xe).h) hbd hN hy hl hsw hs) λσ H D ⟨ρ,γ,h,rel,fin⟩=>⟨ρ,γ,h,rel,(Fin.bind (Fin.bind fin)).mono λsrc ρ0 h0 H0 p0 e0 r0 f0 J hJ Dd hD =>
  zg2 A ho hb hown r0 (rel.g.mono p0 e0) hJ hD f0 λρ' h' H' p' e' r' q rd=>(q ρ' H' (Pre.refl _) (Ext.refl _ _) r') _ (((rel.g.mono p0 e0).mono p' e').set i rd)⟩⟩
theorem z6j (he:∀s H fp xe,SE (X.comp N' sc s H fp xe) EX elt me):CmA X EX (.ListComp elt [⟨tg,iter,ifs,0⟩] sc pos) sc tg iter ifs N' cap own mi g k (.lst []) (λn0 γ1 K=>do let v <- me γ1;let _ <- w8 n0 v;K) (λsrc n0 γ=>z3t src g k me n0 γ) :=
 ⟨⟨_,_,_,_,bApp (tE X.K EX me),zw6,λρ H Dd=>⟨[],z08,RDs.nil⟩,λD s H fp xe=>zl6 (he s H fp xe).h,λ_ hD=>zF2 hD⟩,λ_ _ _=>rfl,λ_ _ _ _ _=>rfl⟩
theorem z0E (hc:X.calm=true) (S:CS X sc N' cap) (hi:SI X EX tg iter mi) (hg:∀s H fp xe,SGk (X.comp N' sc s H fp xe) EX tg own g) (ht:∀s H fp xe,SCs (X.comp N' sc s H fp xe) EX ifs k)
 (he:∀s H fp xe,SE (X.comp N' sc s H fp xe) EX elt me) (hown:∀j∈own,cap[j]?=some none:=by decide) (hs:∀x,K2g iter X.env x=pure x:=by intro _;rfl):SE X EX (.ListComp elt [⟨tg,iter,ifs,0⟩] sc pos) (z0F cap mi g k me) :=
 zy1 (z6j he) hc S hi hg ht hown hs
noncomputable def z4Y (i:Nat) (cap:List (Option Nat)) (mi:G->M Src) (g:D->G->M G) (k:G->M Bool) (me:G->M D):G->M Out:=sAsg (z0F cap mi g k me) (gN i)
theorem zg7 (i:Nat) {y:Str}{py spos:Pos}(hc:X.calm=true) (S:CS X sc N' cap) (hi:SI X EX tg iter mi) (hg:∀s H fp xe,SGk (X.comp N' sc s H fp xe) EX tg own g) (ht:∀s H fp xe,SCs (X.comp N' sc s H fp xe) EX ifs k)
 (he:∀s H fp xe,SE (X.comp N' sc s H fp xe) EX elt me) (hN:X.N.Nodup) (hy:X.N[i]?=some y:=by rfl) (hl:X.env.scope.names.lookup y=some .local:=by rfl) (hown:∀j∈own,cap[j]?=some none:=by decide)
 (hsw:K2s (.ListComp elt [⟨tg,iter,ifs,0⟩] sc pos) (some (.Name y py)) spos.line X.env=pure true:=by rfl) (hs:∀x,K2g iter X.env x=pure x:=by intro _;rfl) :
 S1 X EX (.Assign [.Name y py] (.ListComp elt [⟨tg,iter,ifs,0⟩] sc pos) spos) (z4Y i cap mi g k me) :=
 s_cm i (z6j he) hc S hi hg ht hown hN hy hl hsw hs
end
def csOk (osc:Scope) (N:List Str) (sc:Scope) (N':List Str) (cap:List (Option Nat)):Bool :=
 (sc.kind==.function)&&sc.names.all (λy=>y.2 != .cell)&&sc.names.all (λx=>x.2 != .local||sc.names.lookup x.1==some .local) &&
 sc.names.all (λx=>x.2 != .free||(osc.names.lookup x.1==some .cell||osc.names.lookup x.1==some .free))&&(cap.length==N'.length) &&
 (K0o cap.length).all λi=>match cap[i]? with
  | some (some j)=>(match N'[i]?,N[j]? with
   | some x,some y=>x==y&&sc.names.lookup x==some .free
   | _,_=>false)
  | _=>true
theorem z2d {X:Cx}{sc:Scope}{N':List Str}{cap:List (Option Nat)}(h:csOk X.env.scope X.N sc N' cap=true):CS X sc N' cap:=by
 unfold csOk at h;simp only[K0h]at h;obtain⟨⟨⟨⟨⟨h1,h2⟩,h3⟩,h4⟩,h5⟩,h6⟩:=h;refine⟨by simpa using h1,λy hy=>?_,λx hx hl=>?_,λx hx hf=>?_,by simpa using h5,λi j e=>?_⟩
 ·have:=K23.mp h2 y hy;simpa using this
 ·have:=K23.mp h3 x hx;simpa [hl] using this
 ·have:=K23.mp h4 x hx;have:(X.env.scope.names.lookup x.1==some .cell||X.env.scope.names.lookup x.1==some .free)=true:=by simpa [hf] using this
  rw[K33]at this;rcases this with z|z
  ·exact .inl (show X.env.scope.names.lookup x.1=_ by simpa using z)
  ·exact .inr (show X.env.scope.names.lookup x.1=_ by simpa using z)
 ·have hi:i<cap.length:=(K8.mp e).1;have:=K23.mp h6 i (K20.mpr hi);rw[e]at this;dsimp only at this;cases e1:N'[i]? with
  | none=>rw[e1]at this;cases this
  | some x =>
   cases e2:X.N[j]? with
   | none=>rw[e1,e2]at this;cases this
   | some y =>
    rw[e1,e2]at this;simp only[K0h]at this;have exy:x=y:=by simpa using this.1
    subst exy;exact⟨x,rfl,rfl,by simpa using this.2⟩
def DefAt (K:K2) (x:Str) (st:Stmt):Prop:=∃f fd,K25 K K1q x=some (.(r f))/\Fun K x x st f fd
theorem defAt_mk {K:K2}{x:Str}{st:Stmt}{f:Addr}{oc:Value}{od an:Option Addr}{sl:Array (Option Value)}{kV dc pm cd ct:Value}(a:K25 K K1q x=some (.(r f)))
 (l:K.lookup f=some ⟨oc,od,.func (K2l x x (z12 st) (v7 st) (j8 st) .none kV dc pm an cd ct),sl⟩) (c:K2v K cd x=true) (k:K1z K (.ref f)=true):DefAt K x st :=
 ⟨f,_,a,zF7 l c k⟩
structure Cst (K:K2) (mg:Str->Option Value) (x:Str) (d:D):Prop where
 ex:∃v u,mg x=some u/\RelV v u/\∀ρ H,RD K ρ H d v
section
variable {prog:K08}{w:World}{A:Around}{E:Value->Shared->Prop}{s:Shared}
theorem z4o {it t:Addr}{i:Nat}{items:Array Value}{x:Value}{Q:Value->Shared->Prop}(hit:s.heap.IsTupleIter it t i) (ht:s.heap.IsTuple t items) (hx:items[i]?=some x)
 (hQ:∀h',h'.IsTupleIter it t (i+1)->K3h it s.heap h'->Q x { s with heap:=h' }):wpAny (model prog w) A (K1m (.ref it)) Q E s:=by
 obtain⟨oi,e1,c1,d1⟩:=id hit;obtain⟨ot,e2,_,nt,d2⟩:=ht;unfold K1m;refine K0 (K1a (name:=K2n "__next__") hit.typeIs K2z
  (K1g K2z hit.typeIs K5s ?_ (K5m _)))
 show wpAny _ _ (field (.ref it) 0 >>= _) _ _ s;refine K0 (K1k e1 d1 (x:=.ref t) rfl ?_);show wpAny _ _ (if (K2e t==K2x)=true then _ else _) _ _ s;have nn:¬ (K2e t==K2x)=true:=K0u;rw[if_neg nn];show wpAny _ _ (field (.ref it) 1 >>= _) _ _ s;refine K0 (K1k e1 d1 (x:=.int i 0) rfl ?_);show wpAny _ _ (Z14 (.ref t) >>= _) _ _ s;refine K0 (K2a e2 d2 ?_);simp only[K0x,hx];refine K0 (K3b e1 d1 (by simp) (K5 ⟨x,rfl,K5 (hQ _ ?_ (K1l ..))⟩));exact⟨_,K3u _ e1 (K6e (K5k d1 _)),(Obj.cls_mapFields ..).trans c1,by
  rw[K5k d1];simp[rawInt]⟩
theorem z95 {it t:Addr}{i:Nat}{items:Array Value}{Q:Value->Shared->Prop}(hh:A.handled=none) (hit:s.heap.IsTupleIter it t i) (ht:s.heap.IsTuple t items) (hx:items[i]?=none)
 (hE:∀h' e,Z1c it s.heap h'->(∃o,h'.get? e=some o/\o.cls=.type "StopIteration")->E (.ref e) { s with heap:=h' }):wpAny (model prog w) A (K1m (.ref it)) Q E s:=by
 obtain⟨oi,e1,c1,d1⟩:=id hit;obtain⟨ot,e2,_,nt,d2⟩:=ht;unfold K1m;refine K0 (K1a (name:=K2n "__next__") hit.typeIs K2z
  (K1g K2z hit.typeIs K5s ?_ (K5m _)))
 show wpAny _ _ (field (.ref it) 0 >>= _) _ _ s;refine K0 (K1k e1 d1 (x:=.ref t) rfl ?_);show wpAny _ _ (if (K2e t==K2x)=true then _ else _) _ _ s;have nn:¬ (K2e t==K2x)=true:=K0u;rw[if_neg nn];show wpAny _ _ (field (.ref it) 1 >>= _) _ _ s;refine K0 (K1k e1 d1 (x:=.int i 0) rfl ?_);show wpAny _ _ (Z14 (.ref t) >>= _) _ _ s;refine K0 (K2a e2 d2 ?_);simp only[K0x,hx];refine K0 (K47 (K0 (K3b e1 d1 (by simp) ?_)));show wpAny _ _ (newExc (.type "StopIteration") [] >>= _) _ _ _;refine K0 ?_;simp only[newExc,newTuple];refine K0 (K16 ?_ (by size_fits));refine K0 (m:=K7h _ _) (K9c (a:=K2x) (by first|rfl|(simp only[K7h];rfl)) ?_);refine K16 ?_ (by size_fits);simp only[raiseNew];refine K0 (wpAny_handled ?_)
 first|rw[show A.in1.handled=none from hh]|rw[hh]
 refine K0 (K5 (wpAny_throw ?_));exact hE _ _ (((K1l ..).extBut.push _).push _) ⟨_,K04 _ rfl,rfl⟩
structure ZS (h:Heap) (z TI TO i1 i2 t1 t2:Addr) (i:Nat) (f0:Value):Prop where
 zip:IsZip h z TI TO f0
 ti:IsPair h TI (.ref i1) (.ref i2)
 to:∃a b,IsPair h TO a b
 n1:h.IsTupleIter i1 t1 i
 n2:h.IsTupleIter i2 t2 i
structure ZA (z TI TO i1 i2:Addr):Prop where
 a1:TI≠z
 a2:TO≠z
 a3:i1≠z
 a4:i2≠z
 a5:TI≠TO
 a6:TI≠i1
 a7:TI≠i2
 a8:TO≠i1
 a9:TO≠i2
 a0:i1≠i2
structure ZO (z TO i1 i2 t:Addr):Prop where
 o1:t≠z
 o2:t≠TO
 o3:t≠i1
 o4:t≠i2
theorem zs4 {z TI TO i1 i2 t1 t2:Addr}{i:Nat}{xs ys:Array Value}{x y:Value}{Q:Value->Shared->Prop}(D:ZA z TI TO i1 i2) (O1:ZO z TO i1 i2 t1) (O2:ZO z TO i1 i2 t2)
 (Z:ZS s.heap z TI TO i1 i2 t1 t2 i .none) (hl1:s.heap.IsTuple t1 xs) (hl2:s.heap.IsTuple t2 ys) (hx:xs[i]?=some x) (hy:ys[i]?=some y)
 (hQ:∀h',ZS h' z TI TO i1 i2 t1 t2 (i+1) (rawInt s.heap.objs.size)->IsPair h' s.heap.objs.size x y->h'.objs.size=s.heap.objs.size+1 ->
  (∀c o,c≠z->c≠TO->c≠i1->c≠i2->s.heap.get? c=some o->h'.get? c=some o)->Q (.ref s.heap.objs.size) { s with heap:=h' }) :
 wpAny (model prog w) A (Builtin.«zip.__next__» ⟨[.ref z],[]⟩) (λfin s'=>∃v,fin=.done (.ret v)/\Q v s') E s:=by
 obtain⟨zz,zi,⟨a,b,zo⟩,g1,g2⟩:=Z;show wpAny _ _ (field (.ref z) 2 >>= _) _ _ _;refine K0 (K1k zz rfl (x:=.bool false) rfl ?_);show wpAny _ _ (field (.ref z) 3 >>= _) _ _ _;refine K0 (K1k zz rfl (x:=.ref TI) rfl ?_);refine K0 (K2a zi rfl ?_);show wpAny _ _ (K2j (.ref z) >>= _) _ _ _;refine K0 ?_;unfold K2j;refine K0 (K1k zz rfl (x:=.none) rfl (K5 ?_));simp only[if_true];refine K0 (K47 ?_);refine K0 (K1k zz rfl (x:=.ref TO) rfl ?_);refine K0 (K3s zz (by simp) λk1 z1 s1=>?_)
 replace z1:IsZip k1 z TI TO .ellipsis:=z1
 refine K0 ?_;simp only[Z17,Z1i,K5g,K5z];refine K0 (K0 (K81 ?_));show wpAny _ _ (K1m (.ref i1) >>= _) _ _ _;refine K0 (z4o (g1.extBut s1.extBut D.a3) (hl1.extBut s1.extBut O1.o1) hx λk2 g12 s2=>K5 ?_);have zo2:IsPair k2 TO a b:=s2.extBut _ _ D.a8 (s1.extBut _ _ D.a2 zo);refine K0 (K2a zo2 rfl ?_);refine K0 (K6s zo2 λk3 zo3 s3=>?_)
 replace zo3:IsPair k3 TO x b:=zo3
 refine K0 (K9d (K5 ?_));refine K0 (K0 (K81 ?_));show wpAny _ _ (K1m (.ref i2) >>= _) _ _ _;refine K0 (z4o (((g2.extBut s1.extBut D.a4).extBut s2.extBut D.a0.symm).extBut s3.extBut D.a9.symm)
  (((hl2.extBut s1.extBut O2.o1).extBut s2.extBut O2.o3).extBut s3.extBut O2.o2) hy λk4 g24 s4=>K5 ?_)
 have zo4:IsPair k4 TO x b:=s4.extBut _ _ D.a9 zo3;refine K0 (K2a zo4 rfl ?_);refine K0 (K6s zo4 λk5 zo5 s5=>?_)
 replace zo5:IsPair k5 TO x y:=zo5
 refine K0 (K9d (K5 (K5 ?_)));refine K0 (K2a zo5 rfl ?_);refine K0 (wpAny_newTuple ?_);have sz:k5.objs.size=s.heap.objs.size:=by rw[s5.1,s4.1,s3.1,s2.1,s1.1]
 have z5:IsZip k5 z TI TO .ellipsis:=s5.extBut _ _ D.a2.symm (s4.extBut _ _ D.a4.symm (s3.extBut _ _ D.a2.symm (s2.extBut _ _ D.a3.symm z1)));have kk:∀c o,c≠z->c≠TO->c≠i1->c≠i2->s.heap.get? c=some o->k5.get? c=some o:=λc o c1 c2 c3 c4 e =>
  s5.extBut _ _ c2 (s4.extBut _ _ c4 (s3.extBut _ _ c2 (s2.extBut _ _ c3 (s1.extBut _ _ c1 e))))
 have g15:k5.IsTupleIter i1 t1 (i+1):=((g12.extBut s3.extBut D.a8.symm).extBut s4.extBut D.a0).extBut s5.extBut D.a8.symm;have g25:k5.IsTupleIter i2 t2 (i+1):=g24.extBut s5.extBut D.a9.symm;have zlt:z<k5.objs.size:=K02 z5;show wpAny _ _ (K59 (.ref z) (.ref k5.objs.size) >>= _) _ _ _;refine K0 ?_;unfold K59;have z6:IsZip (k5.push { cls:=.type "tuple",data:=.seq #[x,y] }) z TI TO .ellipsis:=K4 _ z5;refine K0 (K3s z6 (by simp) λk7 z7 s7=>?_)
 replace z7:IsZip k7 z TI TO (rawInt k5.objs.size):=z7
 refine K3s z7 (by simp) λk8 z8 s8=>?_
 replace z8:IsZip k8 z TI TO (rawInt k5.objs.size):=z8
 have up:∀c o,c≠z->k5.get? c=some o->k8.get? c=some o:=λc o c1 e=>s8.extBut _ _ c1 (s7.extBut _ _ c1 (K4 _ e));have t8:IsPair k8 k5.objs.size x y:=s8.extBut _ _ (K26 zlt) (s7.extBut _ _ (K26 zlt) (K04 _ rfl));have sz8:k8.objs.size=k5.objs.size+1:=by rw[s8.1,s7.1,K18]
 rw[sz]at z8 t8 sz8;refine K5 ⟨_,rfl,?_⟩;show Q (.ref k5.objs.size) _;rw[sz];exact hQ k8 ⟨z8,up _ _ D.a1 (kk _ _ D.a1 D.a5 D.a6 D.a7 zi),⟨_,_,up _ _ D.a2 zo5⟩,g15.at λo e=>up _ o D.a3 e,g25.at λo e=>up _ o D.a4 e⟩ t8 sz8 λc o c1 c2 c3 c4 e=>up c o c1 (kk c o c1 c2 c3 c4 e)
theorem zF6 {z TI TO i1 i2 t1 t2:Addr}{i:Nat}{xs ys:Array Value}{Q:Z0x->Shared->Prop}(hh:A.handled=none) (D:ZA z TI TO i1 i2) (O1:ZO z TO i1 i2 t1) (O2:ZO z TO i1 i2 t2)
 (Z:ZS s.heap z TI TO i1 i2 t1 t2 i .none) (hl1:s.heap.IsTuple t1 xs) (hl2:s.heap.IsTuple t2 ys) (hend:xs[i]?=none\/ys[i]?=none)
 (hE:∀h' e,(∀c o,c≠z->c≠TO->c≠i1->c≠i2->s.heap.get? c=some o->h'.get? c=some o)->(∃o,h'.get? e=some o/\o.cls=.type "StopIteration")->E (.ref e) { s with heap:=h' }) :
 wpAny (model prog w) A (Builtin.«zip.__next__» ⟨[.ref z],[]⟩) Q E s:=by
 obtain⟨zz,zi,⟨a,b,zo⟩,g1,g2⟩:=Z;show wpAny _ _ (field (.ref z) 2 >>= _) _ _ _;refine K0 (K1k zz rfl (x:=.bool false) rfl ?_);show wpAny _ _ (field (.ref z) 3 >>= _) _ _ _;refine K0 (K1k zz rfl (x:=.ref TI) rfl ?_);refine K0 (K2a zi rfl ?_);show wpAny _ _ (K2j (.ref z) >>= _) _ _ _;refine K0 ?_;unfold K2j;refine K0 (K1k zz rfl (x:=.none) rfl (K5 ?_));simp only[if_true];refine K0 (K47 ?_);refine K0 (K1k zz rfl (x:=.ref TO) rfl ?_);refine K0 (K3s zz (by simp) λk1 z1 s1=>?_)
 replace z1:IsZip k1 z TI TO .ellipsis:=z1
 refine K0 ?_;simp only[Z17,Z1i,K5g,K5z];refine K0 (K0 (K81 ?_));show wpAny _ _ (K1m (.ref i1) >>= _) _ _ _;cases hx:xs[i]? with
 | none =>
  refine K0 (z95 hh (g1.extBut s1.extBut D.a3) (hl1.extBut s1.extBut O1.o1) hx λk2 e s2 he=>?_);obtain⟨oe,q1,q2⟩:=he;have z2:IsZip k2 z TI TO .ellipsis:=s2 _ _ D.a3.symm z1;have ez:e≠z:=λq=>by subst q;rw[z2]at q1;cases q1;simp at q2
  exact K3s z2 (by simp) λk3 _ s3=>hE k3 e (λc o c1 _ c3 _ q=>s3.extBut _ _ c1 (s2 _ _ c3 (s1.extBut _ _ c1 q))) ⟨oe,s3.extBut _ _ ez q1,q2⟩
 | some x =>
  have hy:ys[i]?=none:=by rcases hend with q|q;rw[hx]at q;cases q;exact q
  refine K0 (z4o (g1.extBut s1.extBut D.a3) (hl1.extBut s1.extBut O1.o1) hx λk2 g12 s2=>K5 ?_);have zo2:IsPair k2 TO a b:=s2.extBut _ _ D.a8 (s1.extBut _ _ D.a2 zo);refine K0 (K2a zo2 rfl ?_);refine K0 (K6s zo2 λk3 zo3 s3=>?_);refine K0 (K9d (K5 ?_));refine K0 (K0 (K81 ?_));show wpAny _ _ (K1m (.ref i2) >>= _) _ _ _;refine K0 (z95 hh (((g2.extBut s1.extBut D.a4).extBut s2.extBut D.a0.symm).extBut s3.extBut D.a9.symm)
   (((hl2.extBut s1.extBut O2.o1).extBut s2.extBut O2.o3).extBut s3.extBut O2.o2) hy λk4 e s4 he=>?_)
  obtain⟨oe,q1,q2⟩:=he;have z4:IsZip k4 z TI TO .ellipsis:=s4 _ _ D.a4.symm (s3.extBut _ _ D.a2.symm (s2.extBut _ _ D.a3.symm z1));have ez:e≠z:=λq=>by subst q;rw[z4]at q1;cases q1;simp at q2
  exact K3s z4 (by simp) λk5 _ s5=>hE k5 e (λc o c1 c2 c3 c4 q=>s5.extBut _ _ c1 (s4 _ _ c4 (s3.extBut _ _ c2 (s2.extBut _ _ c3 (s1.extBut _ _ c1 q))))) ⟨oe,s5.extBut _ _ ez q1,q2⟩
theorem zo9 {z TI TO i1 i2 t1 t2:Addr}{i:Nat}{xs ys:Array Value}{x y:Value}{Q:Option Value->Shared->Prop}(D:ZA z TI TO i1 i2) (O1:ZO z TO i1 i2 t1) (O2:ZO z TO i1 i2 t2)
 (Z:ZS s.heap z TI TO i1 i2 t1 t2 i .none) (hl1:s.heap.IsTuple t1 xs) (hl2:s.heap.IsTuple t2 ys) (hx:xs[i]?=some x) (hy:ys[i]?=some y)
 (hQ:∀h',ZS h' z TI TO i1 i2 t1 t2 (i+1) (rawInt s.heap.objs.size)->IsPair h' s.heap.objs.size x y->h'.objs.size=s.heap.objs.size+1 ->
  (∀c o,c≠z->c≠TO->c≠i1->c≠i2->s.heap.get? c=some o->h'.get? c=some o)->Q (.(r s.heap.objs.size)) { s with heap:=h' }) :
 wpAny (model prog w) A (pyNext (.ref z)) Q E s:=by
 have hT:s.TypeIs (.ref z) "zip":=⟨_,Z.zip,rfl⟩;unfold pyNext;exact K0 (K82 (K1a (name:=K2n "__next__") hT K4u
  (K1g K4u hT K8s (zs4 D O1 O2 Z hl1 hl2 hx hy λh' q1 q2 q3 q4=>K5 (hQ h' q1 q2 q3 q4)) (K8b _))))
theorem zk5 {z TI TO i1 i2 t1 t2:Addr}{i:Nat}{xs ys:Array Value}{Q:Option Value->Shared->Prop}(hh:A.handled=none) (D:ZA z TI TO i1 i2) (O1:ZO z TO i1 i2 t1) (O2:ZO z TO i1 i2 t2)
 (Z:ZS s.heap z TI TO i1 i2 t1 t2 i .none) (hl1:s.heap.IsTuple t1 xs) (hl2:s.heap.IsTuple t2 ys) (hend:xs[i]?=none\/ys[i]?=none)
 (hQ:∀h',(∀c o,c≠z->c≠TO->c≠i1->c≠i2->s.heap.get? c=some o->h'.get? c=some o)->Q none { s with heap:=h' }):wpAny (model prog w) A (pyNext (.ref z)) Q E s:=by
 have hT:s.TypeIs (.ref z) "zip":=⟨_,Z.zip,rfl⟩;unfold pyNext;refine K0 (K82 (K1a (name:=K2n "__next__") hT K4u
  (K1g K4u hT K8s (zF6 hh D O1 O2 Z hl1 hl2 hend λh' e kk he=>?_) (K8b _))))
 obtain⟨o,q1,q2⟩:=he;refine K0 (K8e (T:="StopIteration") (b:=true) ⟨o,q1,q2⟩ isSubtype_stop ?_);exact K5 (hQ _ kk)
theorem z9b {z TI TO i1 i2 t1 t2:Addr}{i:Nat}{f0:Value}{Q:Value->Shared->Prop}(Z:ZS s.heap z TI TO i1 i2 t1 t2 i f0) (h:Q (.ref z) s):wpAny (model prog w) A (pyIter (.ref z)) Q E s:=wpAny_pyIter_zip Z.zip h
end
abbrev zp1 (h:Heap) (l1:Addr):Heap:=h.push { cls:=.type "tuple_iterator",data:=.fields #[.ref l1,.int 0 0] }
abbrev zp2 (h:Heap) (l1 l2:Addr):Heap:=(zp1 h l1).push { cls:=.type "tuple_iterator",data:=.fields #[.ref l2,.int 0 0] }
abbrev zp3 (h:Heap) (l1 l2:Addr):Heap:=(zp2 h l1 l2).push { cls:=.type "tuple",data:=.seq #[.ref h.objs.size,.ref (zp1 h l1).objs.size] }
abbrev zp4 (h:Heap) (l1 l2:Addr):Heap:=(zp3 h l1 l2).push { cls:=.type "tuple",data:=.seq #[.none,.none] }
abbrev zp5 (h:Heap) (l1 l2:Addr):Heap:=(zp4 h l1 l2).push { cls:=.type "zip",data:=.fields #[.none,.bool false,.bool false,.ref (zp2 h l1 l2).objs.size,.ref (zp3 h l1 l2).objs.size] }
theorem zb9 (l1 l2:Addr) (xs ys:Array Value) :
 Meets (Builtin.«zip.__new__» ⟨[.type "zip",.ref l1,.ref l2],[]⟩) (λ_ R s=>s.heap.IsTuple l1 xs/\s.heap.IsTuple l2 ys/\R (.ok (.ret (.ref (zp4 s.heap l1 l2).objs.size))) { s with heap:=zp5 s.heap l1 l2 }) :=
 .of_wp λprog w A R s h=>by
  obtain⟨hp,g,d,tk,os⟩:=s;obtain⟨q1,q2,h⟩:=h;have hsub:=sub_zip;have L1:Z0j (Z1a ⟨hp,g,d,tk,os⟩) l1 xs:=q1;have L2:Z0j (Z1a ⟨hp.push { cls:=.type "tuple_iterator",data:=.fields #[.ref l1,.int 0 0] },g,d,tk,os⟩) l2 ys:=Z0j.push q2 _
  wp_walk using K2p L1,K2p L2
  exact⟨_,rfl,h⟩
theorem za9 {prog:K08}{w:World}{A:Around}{E:Value->Shared->Prop}{s:Shared}{l1 l2:Addr}{xs ys:Array Value}{Q:Value->Shared->Prop}(hl1:s.heap.IsTuple l1 xs) (hl2:s.heap.IsTuple l2 ys)
 (h:∀h',ZS h' (s.heap.objs.size+4) (s.heap.objs.size+2) (s.heap.objs.size+3) s.heap.objs.size (s.heap.objs.size+1) l1 l2 0 .none->h'.objs.size=s.heap.objs.size+5 ->
  (∀c o,s.heap.get? c=some o->h'.get? c=some o)->Q (.ref (s.heap.objs.size+4)) { s with heap:=h' }):wpAny (model prog w) A (call (.type "zip") [.ref l1,.ref l2]) Q E s:=by
 refine callType_new PySem.F.called_zip (by decide) (PySem.F.typeCall_zip_2 _ _) (PySem.F.newCall_zip_2 _ _) (λobj=>PySem.F.args_object_init_3 obj _ _) PySem.F.entry_zip_new (zb9 l1 l2 xs ys) ⟨hl1,hl2,?_⟩;have y1:(zp1 s.heap l1).objs.size=s.heap.objs.size+1:=K18 ..;have y2:(zp2 s.heap l1 l2).objs.size=s.heap.objs.size+2:=by rw[K18,y1]
 have y3:(zp3 s.heap l1 l2).objs.size=s.heap.objs.size+3:=by rw[K18,y2]
 have y4:(zp4 s.heap l1 l2).objs.size=s.heap.objs.size+4:=by rw[K18,y3]
 have y5:(zp5 s.heap l1 l2).objs.size=s.heap.objs.size+5:=by rw[K18,y4]
 have x5:(zp5 s.heap l1 l2).get? (zp4 s.heap l1 l2).objs.size=some _:=K04 _ rfl;have x4:(zp5 s.heap l1 l2).get? (zp3 s.heap l1 l2).objs.size=some _:=K4 _ (K04 _ rfl);have x3:(zp5 s.heap l1 l2).get? (zp2 s.heap l1 l2).objs.size=some _:=K4 _ (K4 _ (K04 _ rfl));have x2:(zp5 s.heap l1 l2).get? (zp1 s.heap l1).objs.size=some _:=K4 _ (K4 _ (K4 _ (K04 _ rfl)));have x1:(zp5 s.heap l1 l2).get? s.heap.objs.size=some _:=K4 _ (K4 _ (K4 _ (K4 _ (K04 _ rfl))));show _/\_;rw[y2,y3,y4]at x5;rw[y1,y2]at x3;rw[y3]at x4;rw[y1]at x2;rw[y4];exact⟨⟨_,x5,rfl⟩,h _ ⟨x5,x3,⟨_,_,x4⟩,⟨_,x1,rfl,rfl⟩,⟨_,x2,rfl,rfl⟩⟩ y5 λc o q =>
  K4 _ (K4 _ (K4 _ (K4 _ (K4 _ q))))⟩
theorem zz1 {X:Cx}{pins:List (Addr×Obj)}{σ:L2.St}{H:Hp}{s:Shared}{ch:List Addr}{T:Addr}{vs:List V}{its:List Value}{h2:Heap}{t:Nat}(I:L2.Inv X pins σ H s)
 (hf:∀b∈ch,FpOk X pins H b) (kp:∀b o,b∉ch->s.heap.get? b=some o->h2.get? b=some o) (hT:s.heap.objs.size<=T) (tup:IsTup0 h2 T its.toArray) (rv:Vals vs its) (hz:vs.length<=sizeLine) :
 L2.Inv X pins σ (upd H T (.tup vs)) { s with heap:=h2,toks:=t }:=by
 have hn:H T=none:=I.hok.fresh hT;have ne:∀{b:Addr} {o:Obj},s.heap.get? b=some o->b≠T:=λe=>K0e (K0i (K02 e) hT);refine I.step (g':=s.gens) (d':=s.drawn) (ch:=ch) (λb hb=>⟨(hf b hb).2.2.2.1,(hf b hb).2.1,(hf b hb).2.2.2.2.1,(hf b hb).2.2.2.2.2⟩) (λb o _ _ hc e _=>kp b o hc e) (λb o _ _ hc e _=>⟨o.slots,kp b o hc e⟩)
  (λb o _ e n=>by rw[Y1 (ne e)];exact n) (λb o hc e=>⟨o,kp b o hc e⟩) (λb xs e=>by rw[Y1 (Y5 e hn)];exact e) (λb o u e=>by rw[Y1 (Y5 e hn)];exact e)
  (λb ps e=>⟨#[],by rw[Y1 (Y5 e hn),e];simp⟩) (λm hm=>?_) (λb u e=>?_) I.bare
 ·obtain⟨o,es,ep,q,r⟩:=hm;exact⟨o,es,ep,kp _ o (λz=>(hf _ z).2.1 rfl) q,r⟩
 ·by_cases hb:b=T
  ·subst hb;rw[z08]at e;cases e;exact⟨hz,its,rv,tup⟩
  ·rw[Y1 hb]at e;refine(I.hok b u e).stay (λc v hc q=>kp c v (λz=>?_) q) (λc q=>?_) λc xs q=>?_
   ·rcases hc with y|y
    ·rw[y]at z;rw[(hf b z).1]at e;cases e
    ·rw[(hf c z).1]at y;cases y
   ·rw[Y1 (Y5 q hn)];exact q
   ·rw[Y1 (Y5 q hn)];exact q
def Itz (K:K2) (t1 t2:Addr):It :=
 ⟨λi H=>∃xs ys x y,SqT K H t1 xs/\SqT K H t2 ys/\xs[i]?=some x/\ys[i]?=some y,
  λi H v H'=>∃T x y,H T=none/\v=.ref T/\(∀xs,SqT K H t1 xs->xs[i]?=some x)/\(∀ys,SqT K H t2 ys->ys[i]?=some y)/\H'=upd H T (.tup [x,y]),
  λi H=>∃xs ys,SqT K H t1 xs/\SqT K H t2 ys/\(xs.length<=i\/ys.length<=i)⟩
theorem za5 {P:K08}{w:World}{K:K2}{elts:List Expr}{kk:Nat}{pos:Pos}{z TI TO i1 i2 t1 t2:Addr}(D:ZA z TI TO i1 i2) (O1:ZO z TO i1 i2 t1) (O2:ZO z TO i1 i2 t2) :
 Turn P w K (.Tuple elts kk pos) (Itz K t1 t2) [z,TI,TO,i1,i2] z (λi h=>ZS h z TI TO i1 i2 t1 t2 i .none) where
 mem:=by simp
 obj:=λi h st b hb=>by
  obtain⟨zz,zi,⟨a,b',zo⟩,g1,g2⟩:=st;obtain⟨o1,e1,_,d1⟩:=g1;obtain⟨o2,e2,_,d2⟩:=g2;simp at hb;rcases hb with rfl|rfl|rfl|rfl|rfl
  ·exact⟨_,zz,λv q=>by cases q⟩
  ·exact⟨_,zi,λv q=>by cases q⟩
  ·exact⟨_,zo,λv q=>by cases q⟩
  ·exact⟨_,e1,λv q=>by rw[d1]at q;cases q⟩
  ·exact⟨_,e2,λv q=>by rw[d2]at q;cases q⟩
 keep:=λi h h' st k=>by
  obtain⟨zz,zi,⟨a,b',zo⟩,g1,g2⟩:=st;exact⟨k z (by simp) _ zz,k TI (by simp) _ zi,⟨a,b',k TO (by simp) _ zo⟩,g1.at λo e=>k i1 (by simp) o e,g2.at λo e=>k i2 (by simp) o e⟩
 item:=by
  intro X hP hw hK hc i pins s σ H E I hf st hg;subst hP hw hK;obtain⟨xs,ys,x,y,q1,q2,hx,hy⟩:=hg;obtain⟨its1,rv1,p1,z1⟩:=I.tuple q1;obtain⟨its2,rv2,p2,z2⟩:=I.tuple q2;obtain⟨u1,hu1,ru1⟩:=rv1.get hx;obtain⟨u2,hu2,ru2⟩:=rv2.get hy;refine zo9 D O1 O2 st (show s.heap.IsTuple t1 its1.toArray from p1) (show s.heap.IsTuple t2 its2.toArray from p2) (x:=u1) (y:=u2) (by simpa using hu1) (by simpa using hu2) λh' Z' pr sz kp=>?_;refine⟨_,rfl,wpAny_letOwnedTupleGo_zip Z'.zip λh2 zz2 sb=>?_⟩;have nT:∀b∈[z,TI,TO,i1,i2],H b=none:=λb hb=>(hf b hb).1;have zlt:z<s.heap.objs.size:=K02 st.zip;have lt5:∀b∈[z,TI,TO,i1,i2],b<s.heap.objs.size:=λb hb=>by
   obtain⟨zz,zi,⟨a,b',zo⟩,g1,g2⟩:=st;obtain⟨o1,e1,_,d1⟩:=g1;obtain⟨o2,e2,_,d2⟩:=g2;simp at hb;rcases hb with rfl|rfl|rfl|rfl|rfl
   ·exact K02 zz
   ·exact K02 zi
   ·exact K02 zo
   ·exact K02 e1
   ·exact K02 e2
  have hT:IsTup0 h2 s.heap.objs.size [u1,u2].toArray:=⟨_,(sb.2 _ (K26 zlt)).trans pr,⟨rfl,rfl⟩,_,rfl⟩;have J:=zz1 (t:=s.toks) (ch:=[z,TO,i1,i2]) (T:=s.heap.objs.size) (vs:=[x,y]) (its:=[u1,u2]) (h2:=h2) I (λb hb=>hf b (by simp at hb ⊢;rcases hb with q|q|q|q<;>simp[q]))
   (λb o hb e=>by simp at hb;exact(sb.2 b hb.1).trans (kp b o hb.1 hb.2.1 hb.2.2.1 hb.2.2.2 e)) (K03 _) hT (.cons ru1 (.cons ru2 .nil)) (by show 2<=sizeLine;decide)
  refine⟨.ref s.heap.objs.size,_,J,rfl,⟨_,x,y,I.hok.fresh (K03 _),rfl,λxs' h'=>by rw[I.tuple_inj h' q1];exact hx,λys' h'=>by rw[I.tuple_inj h' q2];exact hy,rfl⟩,?_,λb hb=>?_⟩
  ·obtain⟨zz,zi,⟨a,b',zo⟩,g1,g2⟩:=Z';exact⟨zz2,(sb.2 _ D.a1).trans zi,⟨a,b',(sb.2 _ D.a2).trans zo⟩,g1.at λo e=>(sb.2 _ D.a3).trans e,g2.at λo e=>(sb.2 _ D.a4).trans e⟩
  ·rw[Y1 (K0e (lt5 b hb))];exact nT b hb
 done:=by
  intro X hP hw hK hc i pins s σ H E I hf st hg;subst hP hw hK;obtain⟨xs,ys,q1,q2,hl⟩:=hg;obtain⟨its1,rv1,p1,z1⟩:=I.tuple q1;obtain⟨its2,rv2,p2,z2⟩:=I.tuple q2;have l1:=rv1.length;have l2:=rv2.length;refine zk5 (I.ok.hd hc) D O1 O2 st (show s.heap.IsTuple t1 its1.toArray from p1) (show s.heap.IsTuple t2 its2.toArray from p2) ?_ λh' kp=>⟨rfl,?_⟩
  ·rcases hl with q|q
   ·exact .inl (by simp;omega)
   ·exact .inr (by simp;omega)
  ·have hf':∀b∈[z,TO,i1,i2],FpOk X pins H b:=λb hb=>hf b (by simp at hb ⊢;rcases hb with q|q|q|q<;>simp[q]);refine I.step (g':=s.gens) (t':=s.toks) (d':=s.drawn) (ch:=[z,TO,i1,i2]) (λb hb=>⟨(hf' b hb).2.2.2.1,(hf' b hb).2.1,(hf' b hb).2.2.2.2.1,(hf' b hb).2.2.2.2.2⟩) (λb o _ _ hc e _=>?_) (λb o _ _ hc e _=>⟨o.slots,?_⟩)
    (λ_ _ _ _ n=>n) (λb o hc e=>⟨o,?_⟩) (λ_ _ e=>e) (λ_ _ _ e=>e) (λb ps e=>⟨#[],by rw[e];simp⟩) (λm hm=>?_) (λb u e=>?_) I.bare
   ·simp at hc;exact kp b o hc.1 hc.2.1 hc.2.2.1 hc.2.2.2 e
   ·simp at hc;exact kp b o hc.1 hc.2.1 hc.2.2.1 hc.2.2.2 e
   ·simp at hc;exact kp b o hc.1 hc.2.1 hc.2.2.1 hc.2.2.2 e
   ·obtain⟨o,es,ep,q,r⟩:=hm;exact⟨o,es,ep,kp _ o (λy=>(hf' z (by simp)).2.1 y.symm) (λy=>(hf' TO (by simp)).2.1 y.symm) (λy=>(hf' i1 (by simp)).2.1 y.symm) (λy=>(hf' i2 (by simp)).2.1 y.symm) q,r⟩
   ·refine(I.hok b u e).stay (λc v hc q=>?_) (λ_ q=>q) λ_ _ q=>q;have tr:∀d∈[z,TO,i1,i2],c≠d:=λd hd y=>by
     subst y;rcases hc with y|y
     ·rw[<- y,(hf' c hd).1]at e;cases e
     ·rw[(hf' c hd).1]at y;cases y
    exact kp c v (tr z (by simp)) (tr TO (by simp)) (tr i1 (by simp)) (tr i2 (by simp)) q
 self:=λ_ _ _ _ _ st h=>z9b st h
section
variable {X:Cx}{EX:XX}{a b:Expr}{elts:List Expr}{kk:Nat}{p pos pt:Pos}{ma mb:G->M D}
theorem zC4 (n:Nat):ZA (n+4) (n+2) (n+3) n (n+1):=by
 constructor<;>(intro h;have h':(_:Nat)=(_:Nat):=h;omega)
theorem zi7 (n t:Nat) (h:t<n):ZO (n+4) (n+3) n (n+1) t:=by
 constructor<;>(intro h;have h':(_:Nat)=(_:Nat):=h;omega)
def zQ1 (K:K2) (ta:TA):TI:=λσ H R=>ta σ H λvs H2=>∃t1 t2 xs ys,vs=[.ref t1,.ref t2]/\SqT K H2 t1 xs/\SqT K H2 t2 ys/\R (Itz K t1 t2) H2
theorem zA9 {ta:TA}(hg:Gl X "zip") (hm:X.mg "zip" = none) (ha:PA X [a,b] ta)
 (hs:K05 [a,b] X.env=[(false,eval a X.env),(false,eval b X.env)]:=by rfl) (hs2:K05 [b] X.env=[(false,eval b X.env)]:=by rfl):PI X (.Tuple elts kk pt) (.Call (.Name "zip" p) [a,b] [] pos) (zQ1 X.K ta):=by
 intro pins s σ H R I h;refine Call_ (z47 I hg hm boot_zip (K3i (thn (ha pos pins s σ H _ I h) λus s1 ⟨vs,H1,I1,r1,q1⟩=>?_) (by rw[hs,hs2]) (by rw[hs2];rfl)));obtain⟨t1,t2,xs,ys,e,q2,q3,q⟩:=q1;subst e;cases r1 with
 | cons r rr =>
  cases rr with
  | cons r' rr =>
   cases rr;cases r;cases r';obtain⟨its1,rv1,p1,z1⟩:=I1.tuple q2;obtain⟨its2,rv2,p2,z2⟩:=I1.tuple q3;refine za9 (show s1.heap.IsTuple t1 its1.toArray from p1) (show s1.heap.IsTuple t2 its2.toArray from p2) λh' Z sz kp=>?_;refine z9b (s:={ s1 with heap:=h' }) Z ?_;have lt1:t1<s1.heap.objs.size:=by obtain⟨o,e,_⟩:=p1;exact K02 e
   have lt2:t2<s1.heap.objs.size:=by obtain⟨o,e,_⟩:=p2;exact K02 e
   refine⟨s1.heap.objs.size+4,_,_,_,H1,rfl,I1.kept (t':=s1.toks) kp,za5 (zC4 _) (t1:=t1) (t2:=t2) (zi7 _ _ lt1) (zi7 _ _ lt2),Z,λb hb=>?_,q⟩;have hb':s1.heap.objs.size<=b:=by
    simp at hb;rcases hb with rfl|rfl|rfl|rfl|rfl
    ·exact K53 _ _
    ·exact K53 _ _
    ·exact K53 _ _
    ·exact K03 _
    ·exact K53 _ _
   exact I1.fpOk hb' (I1.hok.fresh hb')
def zipD (xs ys:List D):List D:=List.zipWith (λa b=>.tup [a,b]) xs ys
def iZip (ma mb:G->M D):G->M Src:=λγ=>do
 let l <- Z1 ma (Z1 mb aNil) γ
 match l with
 | [.tup xs,.tup ys]=>pure (.con (zipD xs ys))
 | _=>bad
theorem zh3 {xs ys:List D}{i:Nat}{d:D}(h:(zipD xs ys)[i]?=some d):∃x y,xs[i]?=some x/\ys[i]?=some y/\d=.tup [x,y]:=by
 unfold zipD at h;rw[K98]at h;cases e1:xs[i]? with
 | none=>rw[e1]at h;cases h
 | some x =>
  cases e2:ys[i]? with
  | none=>rw[e1,e2]at h;cases h
  | some y=>rw[e1,e2]at h;cases h;exact⟨x,y,rfl,rfl,rfl⟩
theorem zA7 (hc:X.calm=true) (hg:Gl X "zip") (hm:X.mg "zip" = none) (ha:SE X EX a ma) (hb:SE X EX b mb)
 (hs:K05 [a,b] X.env=[(false,eval a X.env),(false,eval b X.env)]:=by rfl) (hs2:K05 [b] X.env=[(false,eval b X.env)]:=by rfl):SI X EX (.Tuple elts kk pt) (.Call (.Name "zip" p) [a,b] [] pos) (iZip ma mb) :=
 ⟨PI.imp (zA9 hg hm (Z0 ha (Z0 hb Z5 hs2) (by rw[hs,hs2])).h hs hs2) λσ H R ⟨ρ,γ,h,rel,fin⟩=>⟨ρ,γ,h,rel,(Fin.bind fin).mono λl ρ1 h1 H1 p1 e1 r1 f1 vs rv=>by
  split at f1
  ·rename_i xs ys;simp only[RDs,RD]at rv;obtain⟨_,_,rfl,⟨t1,us,rfl,q1,d1⟩,_,_,rfl,⟨t2,ws,rfl,q2,d2⟩,rfl⟩:=rv;refine⟨t1,t2,us,ws,rfl,q1,q2,f1 ρ1 H1 (Pre.refl _) (Ext.refl _ _) r1 _ λi ρ2 h4 H2 p2 e2 r2 _=>⟨λd hd=>?_,λhi=>?_⟩⟩
   ·have hd':(zipD xs ys)[i]?=some d:=hd;obtain⟨x,y,g1,g2,rfl⟩:=zh3 hd';obtain⟨v1,a1,b1⟩:=(d1.mono p2 e2).get g1;obtain⟨v2,a2,b2⟩:=(d2.mono p2 e2).get g2;refine⟨⟨us,ws,v1,v2,e2.t _ _ q1,e2.t _ _ q2,a1,a2⟩,λv H3 ⟨T,x',y',n1,n2,n3,n4,n5⟩=>?_⟩;have m1:=n3 us (e2.t _ _ q1);have m2:=n4 ws (e2.t _ _ q2);rw[a1]at m1;cases m1;rw[a2]at m2;cases m2;subst n2;subst n5;have ext:Ext X.K H2 (L2.upd H2 T (.tup [v1,v2])):=Ext.upd (.inl n1);refine⟨?_,r2.other n1,ext⟩;simp only[RD];exact⟨T,_,rfl,SqT.of z08,RDs.cons (b1.mono (Pre.refl _) ext) (RDs.cons (b2.mono (Pre.refl _) ext) RDs.nil)⟩
   ·have hi':(zipD xs ys).length=i:=hi;unfold zipD at hi';rw[K9r]at hi';have l1:=d1.length;have l2:=d2.length;exact⟨us,ws,e2.t _ _ q1,e2.t _ _ q2,by omega⟩
  ·exact(show False from f1).elim⟩⟩
end
section
variable {X:Cx}{EX:XX}{a b:Expr}{tg:Expr}{p pos p2:Pos}{ma mb:G->M D}
theorem z9e {A:Around}{E:Value->Shared->Prop}{s:Shared}{t sl:Addr}{items:Array Value}{vl vu:Value}{lo hi:Option Int}{Q:Value->Shared->Prop}(ht:IsTup s.heap t items) (hs:s.heap.IsSliceOf sl vl vu .none) (pl:IsPart vl lo) (pu:IsPart vu hi)
 (hw:HT.sIx items.size 0 lo=0/\HT.sIx items.size items.size hi=items.size) (h:Q (.ref t) s):wpAny (model X.prog X.w) A (K5i (.ref t) (.ref sl)) Q E s:=by
 obtain⟨os,hos,hcs,hds⟩:=id hs;have hTs:s.TypeIs (.ref sl) "slice":=⟨os,hos,hcs⟩;unfold K5i
 try with_reducible refine K1s ?_
 first|refine K0 (K5 ?_)|skip
 refine K0 (K67 ht.typeIs (by decide) ?_);refine K0 (K1a (name:=K2n "__getitem__") ht.typeIs K13
  (K1g K13 ht.typeIs K72 ?_ (K7i _ _)))
 show wpAny _ _ (K50 (.ref t) >>= _) _ _ s;refine K0 (K9w ht ?_);refine K0 (K42 hTs ?_);rw[if_pos (by decide)];refine K0 (HT.sliceApplied_gen hs pl pu ?_);have yes:((((HT.sIx items.size 0 lo:Nat):Int)==0&&(1:Int)==1&&(HT.sIx items.size items.size hi - HT.sIx items.size 0 lo)==items.size)=true):=by
  rw[hw.1,hw.2];simp
 show wpAny _ _ (if (((HT.sIx items.size 0 lo:Nat):Int)==0&&(1:Int)==1&&(HT.sIx items.size items.size hi - HT.sIx items.size 0 lo)==items.size)=true then _ else _) _ _ s;rw[if_pos yes];refine K0 (m:=K7c (.ref t)) ?_;unfold K7c;refine K0 (K42 ht.typeIs (K5 ?_));rw[if_pos (by decide)];exact K0 (K47 (K5 ⟨_,rfl,K5 h⟩))
def rSlW (K:K2):V->Option Int->Option Int->Hp->VK->Prop:=λx lo hi H Q=>∃a xs,x=.ref a/\SqT K H a xs/\(HT.sIx xs.length 0 lo=0/\HT.sIx xs.length xs.length hi=xs.length)/\Q (.ref a) H
theorem zb1:SlR X (rSlW X.K):=by
 intro pins s σ H x v vl vu lo hi sl Q I rx hs pl pu h;obtain⟨a,xs,rfl,hx,hw,q⟩:=h;cases rx;obtain⟨its,r,ht,hz⟩:=I.tuple hx;have hlen:its.toArray.size=xs.length:=by rw[K9];exact r.length.symm
 exact⟨"tuple",_,K13.lookup,ht.typeIs,z9e ht hs pl pu (by rw[hlen];exact hw) ⟨.ref a,H,I,rfl,q⟩⟩
def cutD (xs:List D) (lo hi:Option Int):List D:=(xs.drop (HT.sIx xs.length 0 lo)).take (HT.sIx xs.length xs.length hi - HT.sIx xs.length 0 lo)
theorem z5F {K:K2}{ρ:List Addr}{H:Hp}{ds:List D}{xs:List V}(h:RDs K ρ H ds xs) (lo hi:Option Int):RDs K ρ H (cutD ds lo hi) (cutV xs lo hi):=by
 unfold cutD cutV;rw[h.length];exact(h.drop _).take _
def fSl:D->Option Int->Option Int->M D
 | .tup xs,lo,hi=>pure (.tup (cutD xs lo hi))
 | .fl xs,lo,hi=>newL (cutD xs lo hi)
 | .ref n,lo,hi=>do
  let xs <- getL n
  newL (cutD xs lo hi)
 | _,_,_=>bad
def tO (K:K2) (EX:XX) (m:G->M (Option Int)):TO:=λσ H Q=>∃ρ γ h,Rel K ρ γ h σ H/\Fin K EX ρ H (λo _ _ H'=>Q o H') (m γ h)
structure SO (X:Cx) (EX:XX) (e:Option Expr) (m:G->M (Option Int)):Prop where
 h:PO X e (tO X.K EX m)
theorem PO.imp {X:Cx}{e:Option Expr}{t t':TO}(h:PO X e t) (f:∀σ H Q,t' σ H Q->t σ H Q):PO X e t':=λpins s σ H Q I z=>h pins s σ H Q I (f σ H Q z)
def z2r:G->M (Option Int):=λ_=>pure none
def z2c (ma:G->M D):G->M (Option Int):=λγ=>do
 let x <- ma γ
 match x with
 | .int i=>pure (some i)
 | _=>bad
theorem z2Q:SO X EX none z2r:=⟨PO.imp zv7 λσ H Q ⟨ρ,γ,h,rel,fin⟩=>fin ρ H (Pre.refl _) (Ext.refl _ _) rel.h⟩
theorem z2J (ha:SE X EX a ma):SO X EX (some a) (z2c ma):=⟨PO.imp (zs0 ha.h) λσ H Q ⟨ρ,γ,h,rel,fin⟩=>⟨ρ,γ,h,rel,(Fin.bind fin).mono λx ρ1 h1 H1 p1 e1 r1 f1 v rv=>by
 cases x<;>first|exact(show False from f1).elim|skip
 rename_i i;simp only[RD]at rv;exact⟨i,rv,f1 ρ1 H1 (Pre.refl _) (Ext.refl _ _) r1⟩⟩⟩
def z0X (ma:G->M D) (ml mh:G->M (Option Int)):G->M D:=λγ=>do
 let x <- ma γ;let lo <- ml γ;let hi <- mh γ
 fSl x lo hi
theorem zE4 {ρ:List Addr}{h:AH}{H:Hp}{x:D}{v:V}{lo hi:Option Int}{Q:VK}(r:RH X.K ρ h H) (rx:RD X.K ρ H x v) (fin:FE X.K EX ρ H Q (fSl x lo hi h)):rSlL X.K v lo hi H Q\/rSlT X.K v lo hi H Q\/rSlW X.K v lo hi H Q:=by
 cases x<;>first|exact(show False from fin).elim|skip
 case tup xs =>
  have rx':=rx;simp only[RD]at rx;obtain⟨q,vs,rfl,h1,h2⟩:=rx;have fin':FE X.K EX ρ H Q (.ok (.tup (cutD xs lo hi)) h):=fin;by_cases hw:HT.sIx vs.length 0 lo=0/\HT.sIx vs.length vs.length hi=vs.length
  ·refine .inr (.inr ⟨q,vs,rfl,h1,hw,FE.here fin' r ?_⟩);have e:cutD xs lo hi=xs:=by
    unfold cutD;rw[h2.length,hw.1,hw.2,List.drop_zero,Nat.sub_zero,<- h2.length,K1f]
   rw[e];exact rx'
  ·exact .inr (.inl ⟨q,vs,rfl,h1,hw,λp hp=>FE.tup fin' r (z5F h2 lo hi) hp⟩)
 case fl xs =>
  simp only[RD]at rx;obtain⟨q,vs,rfl,h1,h2⟩:=rx;have fin':FE X.K EX ρ H Q (newL (cutD xs lo hi) h):=fin;unfold newL at fin';split at fin'
  ·exact .inl ⟨q,vs,rfl,h1.sq,λp hp=>FE.lst fin' r (z5F h2 lo hi) hp⟩
  ·exact fin'.elim
 case ref n =>
  simp only[RD]at rx;obtain⟨q,rfl,h1⟩:=rx;have fin':FE X.K EX ρ H Q ((getL n >>= λxs=>newL (cutD xs lo hi)) h):=fin;have f1:=Fin.bind fin';cases e:getL n h with
  | bad=>rw[e]at f1;exact f1.elim
  | err z hz=>exact(z0M e).elim
  | ok xs h2 =>
   obtain⟨rfl,q1⟩:=z0N e;rw[e]at f1;have f2:=f1 ρ H (Pre.refl _) (Ext.refl _ _) r;dsimp only at f2;unfold newL at f2;split at f2
   ·obtain⟨a1,n1,vs,o1,d1⟩:=r.at q1;rw[h1]at n1;cases n1;exact .inl ⟨q,vs,rfl,SqL.of o1,λp hp=>FE.lst f2 r (z5F d1 lo hi) hp⟩
   ·exact f2.elim
theorem z27 {lo hi:Option Expr}{ml mh:G->M (Option Int)}(ha:SE X EX a ma) (hl:SO X EX lo ml) (hh:SO X EX hi mh):SE X EX (.Subscript a (.Slice lo hi none p2) pos) (z0X ma ml mh) :=
 ⟨PE.imp (za6 (sl_list.or (sl_tup.or zb1)) ha.h hl.h hh.h) λσ H Q ⟨ρ,γ,h,rel,fin⟩=>⟨ρ,γ,h,rel,(Fin.bind fin).mono λx ρ1 h1 H1 p1 e1 r1 f1 v rv=>⟨ρ1,γ,h1,⟨rel.g.mono p1 e1,r1⟩,(Fin.bind f1).mono λl ρ2 h2 H2 p2 e2 r2 f2 =>
  ⟨ρ2,γ,h2,⟨(rel.g.mono p1 e1).mono p2 e2,r2⟩,(Fin.bind f2).mono λu ρ3 h3 H3 p3 e3 r3 f3=>zE4 r3 ((rv.mono p2 e2).mono p3 e3) f3⟩⟩⟩⟩
end
def leS (a b:Str):Bool:=!decide (b.cps.toList<a.cps.toList)
theorem z5v {a b c:Str}(h1:leS a b=true) (h2:leS b c=true):leS a c=true:=by
 simp only[leS,K64,decide_eq_false_iff_not]at *;exact K5q.mpr (List.le_trans (K5q.mp h1) (K5q.mp h2))
theorem z8w (a b:Str):(leS a b||leS b a)=true:=by
 simp only[leS,K33,K64,decide_eq_false_iff_not];rcases List.le_total a.cps.toList b.cps.toList with h|h
 ·exact .inl (K5q.mpr h)
 ·exact .inr (K5q.mpr h)
theorem zj8 {a b:Str}(h:a.cps.toList=b.cps.toList):a=b:=by
 cases a;cases b;congr 1;exact Array.toList_inj.mp h
theorem z9Z {a b:Str}(h1:leS a b=true) (h2:leS b a=true):a=b:=by
 simp only[leS,K64,decide_eq_false_iff_not]at *;exact zj8 (List.le_antisymm (K5q.mp h1) (K5q.mp h2))
def z1V (l:List Str):List Str:=l.mergeSort leS
theorem z7q (l:List Str):(z1V l).Perm l:=K6z l leS
theorem z9J (l:List Str):(z1V l).Pairwise (λa b=>leS a b=true):=K8g (le:=leS) (λa b c h1 h2=>z5v h1 h2) z8w l
theorem z4I:∀(p:Str) (l:List Str),risingS p l=true->(p::l).Pairwise (λa b=>leS a b=true)
 | p,[],_=>by simp
 | p,x::r,h=>by
  have h':(!ltCps x.cps.toList p.cps.toList&&risingS x r)=true:=h;rw[K0h,ltCps_eq]at h';have ih:=z4I x r h'.2;have px:leS p x=true:=h'.1;refine List.pairwise_cons.mpr ⟨λy hy=>?_,ih⟩;rcases K0a.mp hy with rfl|hy
  ·exact px
  ·exact z5v px ((List.pairwise_cons.mp ih).1 y hy)
theorem zb6 {l l':List Str}(p:l'.Perm l) (h:sortedS l'=true):l'=z1V l:=by
 have pw:l'.Pairwise (λa b=>leS a b=true):=by
  cases l' with
  | nil=>exact .nil
  | cons x r=>exact z4I x r h
 exact K80 (λa b _ _=>z9Z) pw (z9J l) (p.trans (z7q l).symm)
def leI (a b:Int):Bool:=decide (a<=b)
def sortI (l:List Int):List Int:=l.mergeSort leI
theorem sortI_perm (l:List Int):(sortI l).Perm l:=K6z l leI
theorem z6D (l:List Int):(sortI l).Pairwise (λa b=>a<=b):=by
 have:=K8g (le:=leI) (λa b c h1 h2=>by simp only[leI,decide_eq_true_eq]at *;omega) (λa b=>by simp only[leI,K33,decide_eq_true_eq];omega) l;exact this.imp λh=>by simpa [leI] using h
theorem z74 {l l':List Int}(p:l'.Perm l) (h:l'.Pairwise (·<=·)):l'=sortI l :=
 K80 (λa b _ _ h1 h2=>Int.le_antisymm h1 h2) h (z6D l) (p.trans (sortI_perm l).symm)
def z32:List D->Option (List Str)
 | []=>some []
 | .str b::r=>(z32 r).map (b::·)
 | _::_=>none
def z3O:List D->Option (List Int)
 | []=>some []
 | .int b::r=>(z3O r).map (b::·)
 | _::_=>none
def z1q:List D->M D
 | [.ref n]=>do
  let xs <- getL n
  if xs.length<64 then (match z32 xs with
   | some ss=>newL ((z1V ss).map .str)
   | none=>(match z3O xs with
    | some ns=>newL ((sortI ns).map .int)
    | none=>bad)) else bad
 | _=>bad
theorem z6F {K:K2}{ρ:List Addr}{H:Hp}:∀{xs:List D}{bs:List Str}{vs:List V},z32 xs=some bs->RDs K ρ H xs vs->vs=bs.map V.str
 | [],bs,vs,e,r=>by simp only[RDs]at r;cases e;subst r;rfl
 | x::xs,bs,vs,e,r=>by
  simp only[RDs]at r;obtain⟨v,r2,rfl,h1,h2⟩:=r;cases x<;>first|(simp only[z32]at e;cases e;done)|skip
  rename_i b;simp only[z32]at e;obtain⟨bs',e1,rfl⟩:=K09.mp e;simp only[RD]at h1;subst h1;rw[z6F e1 h2];rfl
theorem z6A {K:K2}{ρ:List Addr}{H:Hp}:∀{xs:List D}{bs:List Int}{vs:List V},z3O xs=some bs->RDs K ρ H xs vs->vs=bs.map V.int
 | [],bs,vs,e,r=>by simp only[RDs]at r;cases e;subst r;rfl
 | x::xs,bs,vs,e,r=>by
  simp only[RDs]at r;obtain⟨v,r2,rfl,h1,h2⟩:=r;cases x<;>first|(simp only[z3O]at e;cases e;done)|skip
  rename_i b;simp only[z3O]at e;obtain⟨bs',e1,rfl⟩:=K09.mp e;simp only[RD]at h1;subst h1;rw[z6A e1 h2];rfl
theorem z6P:∀{bs:List Str}{us:List Value},Vals (bs.map V.str) us->StrsAre us bs
 | [],us,h=>by cases h;exact .nil
 | b::bs,us,h=>by
  cases h with
  | cons h1 h2=>obtain⟨t,rfl⟩:=h1;exact .cons b t (z6P h2)
theorem z6B:∀{us:List Value}{bs:List Str},StrsAre us bs->Vals (bs.map V.str) us
 | _,_,.nil=>.nil
 | _,_,.cons y t r=>.cons ⟨t,rfl⟩ (z6B r)
theorem z6q:∀{us:List Value}{bs:List Int},K7w us bs->Vals (bs.map V.int) us:=λh=>z3n h
section
variable {X:Cx}{EX:XX}{a:Expr}{p pos:Pos}{mr:G->M (List D)}
theorem z5G:CallR X (.builtin "sorted") (λxs H Q=>∃l ys,xs=[.ref l]/\SqL X.K H l ys/\ys.length<64 /\
 ((∃ss,ys=ss.map V.str/\∀q,H q=none->Q (.ref q) (upd H q (.lst ((z1V ss).map V.str))))\/(∃ns,ys=ns.map V.int/\∀q,H q=none->Q (.ref q) (upd H q (.lst ((sortI ns).map V.int)))))):=by
 intro pins s σ H xs us Q I r h;obtain⟨l,ys,rfl,hq,h64,h⟩:=h;obtain⟨u,rfl,ru⟩:=vals1 r;cases ru;obtain⟨its,rv,pl,hz⟩:=I.list hq;have hl:=rv.length;have fin:∀(out:Array Value) (zs:List V),Vals zs out.toList->zs.length=ys.length->(∀q,H q=none->Q (.ref q) (upd H q (.lst zs)))->EP X pins σ Q (.ref (s.heap.objs.size+1)) { s with heap:=sortedAll s.heap its out }:=λout zs h1 h2 h3=>by
  obtain⟨e,he⟩:=sortedAll_at s.heap its out;refine⟨.ref (s.heap.objs.size+1),_,I.laid (t':=s.toks) (o:=.lst zs) (λb o q=>sortedAll_old q) (K4d _) ⟨by omega,out.toList,e,h1,?_⟩,rfl,h3 _ (I.hok.fresh (K4d _))⟩;rw[he]
 rcases h with ⟨ss,rfl,h⟩|⟨ns,rfl,h⟩
 ·refine sorted_strs pl.isList (z6P rv) (by omega) λout ss' h1 h2 h3=>?_;have e:=zb6 h2 h3;subst e;exact fin out _ (z6B h1) (by rw[K6,K6,h2.length_eq]) h
 ·have hi:K7w its ns:=L2.intsAre_of rv;refine sorted_ints pl.isList hi (by omega) λout ns' h1 h2 h3=>?_;have e:=z74 h2 h3;subst e;exact fin out _ (z6q h1) (by rw[K6,K6,h2.length_eq]) h
theorem z7a {K:K2}{ρ:List Addr}{H:Hp}:∀(l:List Str),RDs K ρ H (l.map .str) (l.map V.str)
 | []=>RDs.nil
 | x::r=>RDs.cons (by simp[RD]) (z7a r)
theorem z4p {K:K2}{ρ:List Addr}{H:Hp}:∀(l:List Int),RDs K ρ H (l.map .int) (l.map V.int)
 | []=>RDs.nil
 | x::r=>RDs.cons (by simp[RD]) (z4p r)
theorem z9i:AR X.K EX (λxs H Q=>∃l ys,xs=[.ref l]/\SqL X.K H l ys/\ys.length<64 /\
 ((∃ss,ys=ss.map V.str/\∀q,H q=none->Q (.ref q) (upd H q (.lst ((z1V ss).map V.str))))\/(∃ns,ys=ns.map V.int/\∀q,H q=none->Q (.ref q) (upd H q (.lst ((sortI ns).map V.int)))))) z1q:=by
 intro ρ h H ds vs Q r rd fin;unfold z1q at fin;split at fin
 ·rename_i n;obtain⟨v,rfl,rv⟩:=rds1 rd;have f1:=Fin.bind fin;cases e:getL n h with
  | bad=>rw[e]at f1;exact f1.elim
  | err z hz=>exact(z0M e).elim
  | ok xs h1 =>
   obtain⟨rfl,q1⟩:=z0N e;rw[e]at f1;have f2:=f1 ρ H (Pre.refl _) (Ext.refl _ _) r;dsimp only at f2;simp only[RD]at rv;obtain⟨q,rfl,h2⟩:=rv;obtain⟨a1,n1,ws,o1,d1⟩:=r.at q1;rw[h2]at n1;cases n1;by_cases hl:xs.length<64
   ·rw[if_pos hl]at f2;refine⟨q,ws,rfl,SqL.of o1,by rw[<- d1.length];exact hl,?_⟩;cases eb:z32 xs with
    | some ss =>
     rw[eb]at f2;have f3:FE X.K EX ρ H Q (newL ((z1V ss).map .str) h1):=f2;unfold newL at f3;split at f3
     ·exact .inl ⟨ss,z6F eb d1,λp hp=>FE.lst f3 r (z7a _) hp⟩
     ·exact f3.elim
    | none =>
     rw[eb]at f2;cases en:z3O xs with
     | some ns =>
      rw[en]at f2;have f3:FE X.K EX ρ H Q (newL ((sortI ns).map .int) h1):=f2;unfold newL at f3;split at f3
      ·exact .inr ⟨ns,z6A en d1,λp hp=>FE.lst f3 r (z4p _) hp⟩
      ·exact f3.elim
     | none=>rw[en]at f2;exact(show False from f2).elim
   ·rw[if_neg hl]at f2;exact(show False from f2).elim
 ·exact fin.elim
theorem z3q (hc:X.calm=true) (hg:Gl X "sorted") (hm:X.mg "sorted" = none) (ha:SA X EX [a] mr) (he:K05 [a] X.env=[(false,eval a X.env)]:=by rfl):SE X EX (.Call (.Name "sorted" p) [a] [] pos) (j7 z1q mr) :=
 z10 (z1G z5G hg hm boot_sorted ha.h (by decide) (by decide) he rfl) z9i
end
@[simp] theorem bindM {α β:Type} (m:M α) (f:α->M β) (h:AH):(m >>= f) h=match m h with
 | .ok a h1=>f a h1
 | .err x h1=>.err x h1
 | .bad=>.bad:=rfl
@[simp] theorem pureM {α:Type} (a:α) (h:AH):(K9n a:M α) h=.ok a h:=rfl
@[simp] theorem badM {α:Type} (h:AH):(bad:M α) h=.bad:=rfl
@[simp] theorem iteM {α:Type} {c:Prop} [Decidable c] (a b:M α) (h:AH):(if c then a else b) h=if c then a h else b h:=by split<;>rfl
def Pu {α:Type} (m:M α) (a:α):Prop:=∀h,∃j,m h=.ok a (h++j)
theorem Pu.pure {α:Type}(a:α):Pu (K9n a:M α) a:=λh=>⟨[],by simp⟩
theorem Pu.bind {α β:Type}{m:M α}{f:α->M β}{a:α}{b:β}(h1:Pu m a) (h2:Pu (f a) b):Pu (m >>= f) b:=λh=>by
 obtain⟨j,e⟩:=h1 h;obtain⟨j',e'⟩:=h2 (h++j);exact⟨j++j',by rw[M.bind_ok e,e',K0z]⟩
theorem Pu.of {α:Type}{m:M α}{a:α}(h:∀x,m x=.ok a x):Pu m a:=λx=>⟨[],by rw[h];simp⟩
theorem Rise.lt {xs:Array Nat}(h:Rise xs) {i j a b:Nat}(ha:xs[i]?=some a) (hb:xs[j]?=some b) (hij:i<j):a<b:=by
 obtain⟨h1,e1⟩:=K3o.mp ha;obtain⟨h2,e2⟩:=K3o.mp hb;have:=K57.mp h i j (by simpa using h1) (by simpa using h2) hij;simp only[Array.getElem_toList]at this;rw[e1,e2]at this;exact this
theorem z4n {xs:Array Nat}(h:Rise xs) (j:Nat):∀(fuel lo hi:Nat),hi - lo<=fuel->lo<=hi->hi<=xs.size->(∀(i:Nat) a,i<lo->xs[i]?=some a->a<j)->(∀(i:Nat) a,hi<=i->xs[i]?=some a->j<=a) ->
 (K3c xs j fuel lo hi)<=xs.size/\(∀(i:Nat) a,i<K3c xs j fuel lo hi->xs[i]?=some a->a<j)/\∀(i:Nat) a,K3c xs j fuel lo hi<=i->xs[i]?=some a->j<=a
 | 0,lo,hi,hf,hl,hs,h1,h2=>by
  have:hi=lo:=by omega
  subst this;exact⟨by simp only[K3c];omega,by simpa only[K3c] using h1,by simpa only[K3c] using h2⟩
 | fuel+1,lo,hi,hf,hl,hs,h1,h2=>by
  rw[K3c];split
  ·rename_i hlt;have hm:(lo+hi) / 2<xs.size:=by omega
   have e:xs[(lo+hi) / 2]?=some xs[(lo+hi) / 2]:=K1o hm;have ed:xs.getD ((lo+hi) / 2) j=xs[(lo+hi) / 2]:=by rw[Array.getD_eq_getD_getElem?,e];rfl
   dsimp only;rw[ed];split
   ·rename_i q;refine z4n h j fuel _ hi (by omega) (by omega) hs (λi a hi' ha=>?_) h2;by_cases z:i=(lo+hi) / 2
    ·subst z;rw[e]at ha;cases ha;exact q
    ·exact K5y (h.lt ha e (by omega)) q
   ·rename_i q;refine z4n h j fuel lo _ (by omega) (by omega) (by omega) h1 (λi a hi' ha=>?_);by_cases z:i=(lo+hi) / 2
    ·subst z;rw[e]at ha;cases ha;omega
    ·have:=h.lt e ha (by omega);omega
  ·exact⟨by omega,h1,λi a hi' ha=>h2 i a (by omega) ha⟩
theorem z2I {xs:Array Nat}(h:Rise xs) (j:Nat):K0q xs j<=xs.size/\(∀(i:Nat) a,i<K0q xs j->xs[i]?=some a->a<j)/\∀(i:Nat) a,K0q xs j<=i->xs[i]?=some a->j<=a:=by
 unfold K0q;refine z4n h j xs.size 0 xs.size (by omega) (by omega) (by omega) (λi a hi=>by omega) (λi a hi ha=>?_);have:=(K3o.mp ha).1;omega
theorem z7k {xs:Array Nat}(h:Rise xs) {i j:Nat}(e:xs[i]?=some j):K0q xs (j+1)=i+1:=by
 obtain⟨b1,b2,b3⟩:=z2I h (j+1);have hi:=(K3o.mp e).1;have l1:i<K0q xs (j+1):=by
  by_cases q:i<K0q xs (j+1)
  ·exact q
  ·have:=b3 i j (by omega) e;omega
 by_cases q:K0q xs (j+1)=i+1
 ·exact q
 ·have hlt:i+1<xs.size:=by omega
  have e2:xs[i+1]?=some xs[i+1]:=K1o hlt;have a1:=b2 (i+1) _ (by omega) e2;have a2:=h.lt e e2 (by omega);omega
theorem z7z {xs:Array Nat}(h:Rise xs):K0q xs 0=0:=by
 obtain⟨b1,b2,b3⟩:=z2I h 0;by_cases q:K0q xs 0=0
 ·exact q
 ·have hlt:0<xs.size:=by omega
  have e2:xs[0]?=some xs[0]:=K1o hlt;have:=b2 0 _ (by omega) e2;omega
theorem z9Y {t:K4b}{j:Nat}(h:Rise t.place) (hj:t.place[K0q t.place j]?≠some j):Rise (t.put j).1.place:=by
 obtain⟨b1,b2,b3⟩:=z2I h j;show (K4b.insertAt t.place (K0q t.place j) j).toList.Pairwise _;rw[K4b.toList_insertAt];have tk:∀a∈t.place.toList.take (K0q t.place j),a<j:=λa ha=>by
  obtain⟨i,hi,e⟩:=K58 ha;rw[List.getElem_take]at e;have hi2:i<K0q t.place j:=by
   rw[K0g]at hi;omega
  have hi3:i<t.place.size:=by omega
  exact b2 i a hi2 (by rw[K1o hi3];simpa using e)
 have dr:∀a∈t.place.toList.drop (K0q t.place j),j<a:=λa ha=>by
  obtain⟨i,hi,e⟩:=K58 ha;rw[List.getElem_drop]at e;have hi3:K0q t.place j+i<t.place.size:=by
   rw[K3m]at hi;simp at hi;omega
  have e2:t.place[K0q t.place j+i]?=some a:=by rw[K1o hi3];simpa using e
  have:=b3 _ a (by omega) e2;by_cases q:a=j
  ·subst q;cases i with
   | zero=>exact absurd e2 hj
   | succ i =>
    have hlt:K0q t.place a<t.place.size:=by omega
    have e3:t.place[K0q t.place a]?=some t.place[K0q t.place a]:=K1o hlt;have a1:=b3 _ _ (K03 _) e3;have a2:=h.lt e3 e2 (by omega);omega
  ·omega
 have p1:=List.Pairwise.take (i:=K0q t.place j) h;have p2:=List.Pairwise.drop (i:=K0q t.place j) h;simp only[List.pairwise_append,List.pairwise_cons]
 first
  | (refine⟨p1,⟨dr,p2⟩,λa ha b hb=>?_⟩
     rcases K0a.mp hb with rfl|hb
     ·exact tk a ha
     ·exact K5y (tk a ha) (dr b hb))
  | skip
theorem z6g {t:K4b}{j:Nat}(h:∀i,t.slot j≠.live i):t.place[K0q t.place j]?≠some j:=λe=>by
 refine h (K0q t.place j) ?_;unfold K4b.slot;dsimp only;rw[e,if_pos (by simp)]
theorem z4B {t:K4b}{ha:Nat->Int}{hx:Int}:∀(fuel:Nat) (p:Z1s) (j:Nat) (dm:Option Nat),(∀d,p.dummy=some d->t.slot d=.dummy)->K7q t ha hx fuel p=some (.empty j dm)->t.slot j=.empty/\∀d,dm=some d->t.slot d=.dummy
 | 0,p,j,dm,hd,e=>by simp[K7q]at e
 | fuel+1,p,j,dm,hd,e=>by
  rw[K7q]at e;have adv:∀q:Z1s,(t.advance q).dummy=q.dummy:=λq=>by
   unfold K4b.advance;split<;>rfl
  split at e
  ·rename_i hs;cases e;exact⟨hs,hd⟩
  ·rename_i hs;refine z4B fuel _ j dm (λd z=>?_) e;rw[adv]at z;cases z;exact hs
  ·split at e
   ·cases e
   ·refine z4B fuel _ j dm (λd z=>?_) e;rw[adv]at z;exact hd d z
theorem z9V {t:K4b}{hx:Int}{j:Nat}{b:Bool}(e:t.freeSlot hx=some (j,b)):t.place[K0q t.place j]?≠some j:=by
 unfold K4b.freeSlot K4b.probe at e;split at e
 ·rename_i j' dm hp;obtain⟨s1,s2⟩:=z4B _ _ j' dm (λd z=>by simp[K4b.probeStart]at z) hp;cases dm with
  | none=>cases e;exact z6g (λi z=>by rw[show t.slot (none.getD j')=_ from s1]at z;cases z)
  | some d=>cases e;exact z6g (λi z=>by rw[show t.slot ((some d).getD j')=_ from s2 d rfl]at z;cases z)
 ·cases e
theorem z23 (n:Nat):Rise (Array.range n):=by
 show (Array.range n).toList.Pairwise _;rw[Array.toList_range];exact List.pairwise_lt_range
theorem z5R {t:K4b}{es:Array (Int×Value)}{hx:Int}{x:Value}(h:Rise t.place):Rise (layNew t es hx x).2.1.place/\(layNew t es hx x).2.1.led=t.led:=by
 unfold layNew;split
 ·rename_i sl wd e;dsimp only;unfold K4b.orStandIn;split
  ·exact⟨z9Y h (z9V e),rfl⟩
  ·exact⟨z23 _,rfl⟩
 ·exact⟨z23 _,rfl⟩
theorem z8d {mask finger moves:Nat}{led plain:Bool}{hs:Array Int}{t:K4b}{o:Array Nat}(e:Z1u mask finger moves led plain hs=some (t,o)):Rise t.place/\t.led=led:=by
 unfold Z1u at e;cases hl:K4b.layClean mask hs with
 | none=>rw[hl]at e;cases e
 | some ow =>
  rw[hl]at e;cases e;refine⟨?_,rfl⟩;unfold Rise;dsimp only;rw[K7v,List.pairwise_filterMap];refine List.pairwise_lt_range.imp λ{a b} hab c hc d hd=>?_;cases h1:ow.getD a none with
  | none=>rw[h1]at hc;cases hc
  | some u =>
   cases h2:ow.getD b none with
   | none=>rw[h2]at hd;cases hd
   | some v =>
    rw[h1]at hc;rw[h2]at hd;cases hc;cases hd;exact hab
theorem z7y {t:K4b}{es:Array (Int×Value)}{n:Nat}:Rise (K6q t es n).2.1.place/\(K6q t es n).2.1.led=t.led:=by
 unfold K6q;split
 ·rename_i t' o e;obtain⟨r1,r2⟩:=z8d e;dsimp only;split
  ·exact⟨r1,r2⟩
  ·exact⟨z23 _,rfl⟩
 ·exact⟨z23 _,rfl⟩
section
variable {P:K08}{w:World}
theorem z2o {α β:Type}{R:α->β->Prop}{l' l:List β}(p:l'.Perm l):∀{ks:List α},Paired R ks l->∃ks',ks'.Perm ks/\Paired R ks' l':=by
 induction p with
 | nil=>intro ks h;exact⟨ks,.refl _,h⟩
 | cons x _ ih =>
  intro ks h;cases h with
  | cons a b =>
   obtain⟨ks',q1,q2⟩:=ih b;exact⟨_::ks',.cons _ q1,.cons a q2⟩
 | swap x y l =>
  intro ks h;cases h with
  | cons a b =>
   cases b with
   | cons c d=>exact⟨_::_::_,.swap _ _ _,.cons c (.cons a d)⟩
 | trans _ _ ih1 ih2 =>
  intro ks h;obtain⟨k1,a1,a2⟩:=ih2 h;obtain⟨k2,b1,b2⟩:=ih1 a2;exact⟨k2,b1.trans a1,b2⟩
theorem z3F {α β:Type}{R:α->β->Prop}:∀{ks:List α}{l:List β}{k:α}{x:β},Paired R ks l->R k x->Paired R (ks++[k]) (l++[x])
 | _,_,_,_,.nil,h=>.cons h .nil
 | _,_,_,_,.cons a b,h=>.cons a (z3F b h)
theorem z2H {α β:Type}{R:α->β->Prop}:∀{ks:List α}{l:List β}{x:β},Paired R ks l->x∈l->∃k∈ks,R k x
 | _,_,_,.cons a b,h=>by
  rcases K0a.mp h with rfl|h
  ·exact⟨_,K0t,a⟩
  ·obtain⟨k,h1,h2⟩:=z2H b h;exact⟨k,K0j _ h1,h2⟩
theorem z3J {α β:Type}{R:α->β->Prop}:∀{ks:List α}{l:List β}{k:α},Paired R ks l->k∈ks->∃x∈l,R k x
 | _,_,_,.cons a b,h=>by
  rcases K0a.mp h with rfl|h
  ·exact⟨_,K0t,a⟩
  ·obtain⟨k,h1,h2⟩:=z3J b h;exact⟨k,K0j _ h1,h2⟩
theorem z69 {k:Key}{v:Value}(h:z1O k v=true):v.scannable=true:=by
 rcases J0 h with ⟨i,t,rfl,rfl⟩|⟨x,t,rfl,rfl⟩<;>rfl
theorem z6C {ks:List Key}{l:List (Int×Value)}(h:Paired (KE w) ks l):ElemsOf (v9 P w) l:=λe he=>by
 obtain⟨k,_,h1,h2⟩:=z2H h he;exact⟨⟨k,h1,h2⟩,z69 h1⟩
theorem zv2 {k k':Key}{v:Value}(h:z1O k v=true) (h':z1O k' v=true):k=k':=by
 rcases J0 h with ⟨i,t,rfl,rfl⟩|⟨x,t,rfl,rfl⟩
 ·rcases J0 h' with ⟨j,u,rfl,e⟩|⟨y,u,rfl,e⟩
  ·cases e;rfl
  ·cases e
 ·rcases J0 h' with ⟨j,u,rfl,e⟩|⟨y,u,rfl,e⟩
  ·cases e
  ·cases e;rfl
theorem mem_of {ks:List Key}{l:List (Int×Value)}(h:Paired (KE w) ks l) (k:Key):k∈ks↔∃e∈l,z1O k e.2=true:=by
 constructor
 ·intro hk;obtain⟨e,h1,h2,_⟩:=z3J h hk;exact⟨e,h1,h2⟩
 ·rintro⟨e,h1,h2⟩;obtain⟨k',h3,h4,_⟩:=z2H h h1;exact zv2 h2 h4 ▸ h3
theorem SetAt.setOf {h:Heap}{a:Addr}{ks:List Key}(x:SetAt w h a ks):h.SetOf (v9 P w) a (λk=>decide (k∈ks)) ks.length:=by
 obtain⟨o,es,ep,t,ks',h1,h2,h3,h4,h5,h6,h7,h8,h9,_⟩:=x;refine⟨o,es,ep,t,h1,h2,h3,z6C h4,λk=>?_,h7,h8,?_⟩
 ·rw[decide_eq_true_eq,<- h5.mem_iff];exact mem_of h4 k
 ·rw[<- h5.length_eq,K45 h4,K15]
theorem SetAt.stay {h h':Heap}{a:Addr}{ks:List Key}(x:SetAt w h a ks) (k:∀o,h.get? a=some o->h'.get? a=some o):SetAt w h' a ks:=by
 obtain⟨o,es,ep,t,ks',h1,h2⟩:=x;exact⟨o,es,ep,t,ks',k o h1,h2⟩
theorem SetAt.perm {h:Heap}{a:Addr}{ks ks2:List Key}(x:SetAt w h a ks) (p:ks.Perm ks2):SetAt w h a ks2:=by
 obtain⟨o,es,ep,t,ks',h1,h2,h3,h4,h5,h6,h7⟩:=x;exact⟨o,es,ep,t,ks',h1,h2,h3,h4,h5.trans p,p.nodup_iff.mp h6,h7⟩
theorem z7J {h:Heap}{led:Bool}(hl:led=true\/w.params.followText "set-order" = true):SetAt w (h.push { cls:=.type "set",dict:=none,data:=.set #[] 0 (.fresh 0 0 led) }) h.objs.size [] :=
 ⟨_,#[],0,_,[],K04 _ rfl,⟨rfl,rfl,rfl⟩,rfl,.nil,.refl _,K7a,by decide,by rfl,by show ([]:List Nat).Pairwise _;exact .nil,hl⟩
variable {A:Around}{E:Value->Shared->Prop}{s:Shared}{a:Addr}
theorem z6X {ks:List Key}{o:Obj}{es es':Array (Int×Value)}{ep:Nat}{t t':K4b}{ks':List Key}{h:Heap}(ho:h.get? a=some o) (hex:o.ExactSet) (hd:o.data=.set es ep t) (h4:Paired (KE w) ks' es'.toList) (h5:ks'.Perm ks) (h6:ks.Nodup)
 (hb:es'.size<scanBound) (hf:t'.fits es'.size=true) (hr:Rise t'.place) (hl:t'.led=true\/w.params.followText "set-order" = true) :
 SetAt w (h.update a (K79 es' t')) a ks/\∃o',(h.update a (K79 es' t')).get? a=some o'/\o'.ExactSet/\o'.data=.set es' (ep+1) t':=by
 have g:(h.update a (K79 es' t')).get? a=some { o with data:=.set es' (ep+1) t' }:=by
  have:=K3u (K79 es' t') ho (by rw[putSet_of es' t' hd];rfl);rw[putSet_of es' t' hd]at this;exact this
 exact⟨⟨_,es',ep+1,t',ks',g,hex,rfl,h4,h5,h6,hb,hf,hr,hl⟩,_,g,hex,rfl⟩
theorem tail_at {ks ks1:List Key}{o:Obj}{es es1:Array (Int×Value)}{ep:Nat}{t t2:K4b}{wd:Bool}{gw:Bool->Sem Unit}{R:Option Bool->Shared->Prop}(hG:∀(g:Bool) (s1:Shared) (Z:Unit->Shared->Prop),Z () s1->wpAny (model P w) A (gw g) Z E s1)
 (ho:s.heap.get? a=some o) (hex:o.ExactSet) (hd:o.data=.set es ep t) (h4:Paired (KE w) ks1 es1.toList) (h5:ks1.Perm ks) (h6:ks.Nodup) (hb:es1.size<scanBound) (hf:t2.fits es1.size=true) (hr:Rise t2.place) (hl:t2.led=true\/w.params.followText "set-order" = true)
 (h:∀h',K3h a s.heap h'->SetAt w h' a ks->R (some true) { s with heap:=h' }) :
 wpAny (model P w) A (storeSet a es1 t2 >>= λ_=>if (!wd&&t2.tooFull)=true then (gw (K6q t2 es1 (K39 es1.size)).2.2 >>= λ_=>storeSet a (K6q t2 es1 (K39 es1.size)).1 (K6q t2 es1 (K39 es1.size)).2.1 >>= λ_=>pure (some true)) else pure (some true)) R E s:=by
 obtain⟨S1,o1,g1,x1,d1⟩:=z6X (h:=s.heap) (t':=t2) ho hex hd h4 h5 h6 hb hf hr hl;have sb:=K1l s.heap a (K79 es1 t2);refine K0 (wpAny_storeSet_of ho hd ?_ (K6a hb));split
 ·have rp:=relayAll_perm t2 es1 (K39 es1.size);have rf:=relayAll_fits t2 es1 (K39 es1.size);have rr:=z7y (t:=t2) (es:=es1) (n:=K39 es1.size);obtain⟨ks2,p1,p2⟩:=z2o rp h4;have sz:(K6q t2 es1 (K39 es1.size)).1.size=es1.size:=by rw[<- K15,rp.length_eq,K15]
  have b2:(K6q t2 es1 (K39 es1.size)).1.size<scanBound:=by rw[sz];exact hb
  refine K0 (hG _ _ _ (K0 (wpAny_storeSet_of g1 d1 (K5 ?_) (K6a b2))));obtain⟨S2,_⟩:=z6X (h:=s.heap.update a (K79 es1 t2)) (t':=(K6q t2 es1 (K39 es1.size)).2.1) g1 x1 d1 p2 (p1.trans h5) h6 b2 rf rr.1 (by rw[rr.2];exact hl);exact h _ (sb.trans (K1l _ a _)) S2
 ·exact K5 (h _ sb S1)
theorem zA1 {ks:List Key}{k:Key}{x:Value}{Q:Bool->Shared->Prop}(hk:z1O k x=true) (hS:SetAt w s.heap a ks) (hroom:ks.length+1<scanBound)
 (h:∀h' b,K3h a s.heap h'->SetAt w h' a (if k∈ks then ks else ks++[k])->Q b { s with heap:=h' }) :
 wpAny (model P w) A (setAddHashed a x (keyH w k)) Q E s:=by
 obtain⟨o,es,ep,t,ks',ho,hex,hd,h4,h5,h6,h7,h8,h9,h0⟩:=hS;have el:=z6C (P:=P) h4;have sc:=z69 hk;have hn:es.size=ks.length:=by rw[<- h5.length_eq,K45 h4,K15]
 unfold setAddHashed setAddHashedIn;refine K1s (K0 (K44 ho hd h8 ?_));dsimp only;rw[byScan_of sc h7 el,if_pos rfl];unfold setAddByScan;refine K0 (K0 (K47 (K0 (wpAny_setScan_of (knd:=v9 P w) (k:=k) hk ho hd h8 el ?_))));cases hr:List.findIdx? (λe=>(v9 P w).is k e.2) es.toList with
 | some j =>
  dsimp only;obtain⟨hj,hp,_⟩:=List.findIdx?_eq_some_iff_getElem.mp hr;have hm:k∈ks:=h5.mem_iff.mp ((mem_of h4 k).mpr ⟨_,K36 hj,hp⟩);have:=h s.heap false (Z0f a s.heap) (by rw[if_pos hm];exact⟨o,es,ep,t,ks',ho,hex,hd,h4,h5,h6,h7,h8,h9,h0⟩);exact K5 (K5 this)
 | none =>
  dsimp only;have hm:k∉ks:=λz=>by
   obtain⟨e,he,hp⟩:=(mem_of h4 k).mp (h5.mem_iff.mpr z);have:=List.findIdx?_eq_none_iff.mp hr e he;rw[show (v9 P w).is k e.2=true from hp]at this;cases this
  rw[if_neg hm]at h;have np:=layNew_perm t es (keyH w k) x;have nf:=layNew_fits t es (keyH w k) x;have nr:=z5R (t:=t) (es:=es) (hx:=keyH w k) (x:=x) h9;have hG:∀(g:Bool) (s1:Shared) (R:Unit->Shared->Prop),R () s1->wpAny (model P w) A (match g with|true=>rule "set.scan.the-table-gave-way" | false=>pure ()) R E s1 :=
   λg s1 R q=>by cases g<;>first|exact K5 q|exact K47 q
  generalize hL:layNew t es (keyH w k) x=L at np nf nr ⊢;obtain⟨es1,t1,wd,gv⟩:=L;dsimp only at np nf nr ⊢;rw[Z0r]at np;obtain⟨ks1,p1,p2⟩:=z2o np (z3F h4 (show KE w k (keyH w k,x) from⟨hk,rfl⟩));have nd:(ks++[k]).Nodup:=by
   rw[K1x];exact⟨h6,by simp,λu hu v hv=>by simp at hv;subst hv;exact λz=>hm (z ▸ hu)⟩
  have b1:es1.size<scanBound:=by
   rw[<- K15,np.length_eq,K06,K15];simpa [hn] using hroom
  have p3:ks1.Perm (ks++[k]):=p1.trans (h5.append_right [k]);have l1:t1.led=true\/w.params.followText "set-order" = true:=by rw[nr.2];exact h0
  refine K0 (hG _ _ _ ?_);split
  ·rw[hashByValue_scannable 8 sc];refine K0 (K5 ?_);refine tail_at (t2:=if plainKind x=true then t1 else { t1 with plain:=false }) hG ho hex hd p2 p3 nd b1 ?_ ?_ ?_ λh' sb S=>K5 (h h' true sb S)
   ·split
    ·exact nf
    ·exact K4b.fits_plain_off nf
   ·split
    ·exact nr.1
    ·exact nr.1
   ·split
    ·exact l1
    ·exact l1
  ·refine K0 (K5 ?_);simp only[if_pos];exact tail_at hG ho hex hd p2 p3 nd b1 nf nr.1 l1 λh' sb S=>K5 (h h' true sb S)
end
def putK (acc:List Key) (k:Key):List Key:=if k∈acc then acc else acc++[k]
def dedK (ks:List Key):List Key:=ks.foldl putK []
theorem za1 (acc:List Key) (k:Key):(putK acc k).length<=acc.length+1:=by
 unfold putK;split
 ·omega
 ·simp
theorem z5n:∀(ks acc:List Key),(ks.foldl putK acc).length<=acc.length+ks.length
 | [],acc=>by simp
 | k::ks,acc=>by
  have h1:=z5n ks (putK acc k);have h2:=za1 acc k;simp only[K3w,K07];omega
theorem za7 (ks:List Key):(dedK ks).length<=ks.length:=by
 have:=z5n ks [];simpa [dedK] using this
theorem z97 (ks:List Key) (k:Key):dedK (ks++[k])=putK (dedK ks) k:=by
 unfold dedK;rw[K63];rfl
section
variable {P:K08}{w:World}{A:Around}{E:Value->Shared->Prop}{s:Shared}{a:Addr}
theorem SetAt.typeIs {ks:List Key}(x:SetAt w s.heap a ks):s.TypeIs (.ref a) "set":=(x.setOf (P:=default)).typeIs
theorem z91 {ks:List Key}{k:Key}{x:Value}{Q:Bool->Shared->Prop}(hk:z1O k x=true) (hS:SetAt w s.heap a ks) (hroom:ks.length+1<scanBound)
 (h:∀h' b,K3h a s.heap h'->SetAt w h' a (putK ks k)->Q b { s with heap:=h',toks:=s.toks+1 }):wpAny (model P w) A (setAdd a x) Q E s:=by
 unfold setAdd;refine K1s (K0 ((v9 P w).pyHash (k:=k) hk ?_));exact zA1 (s:={ s with toks:=s.toks+1 }) hk hS hroom λh' b sb S=>h h' b sb S
end
section
variable {P:K08}{w:World}{A:Around}{R:Result->Shared->Prop}{I:Addr}{fp wr:List Addr}{G:Array K6r->Array K6r->Prop}{n:Nat}{PV:Nat->Value->Prop}{St:Nat->Shared->Prop}
theorem z51 (W:WalksS P w A.in1 I fp wr G n PV St) (S:Addr) (hSf:S∉fp) (key:Nat->Key) (hv:∀i v,PV i v->z1O (key i) v=true) (hb:n+1<scanBound) :
 ∀(k i:Nat) (s:Shared),i+k=n->St i s->SetAt w s.heap S (dedK ((K0o i).map key)) ->
  (∀s',Moved (S::wr) G s s'->SetAt w s'.heap S (dedK ((K0o n).map key))->R (.ok (.ret .none)) s') ->
  K61 (model P w) A (.builtin "set.update.loop" ⟨[.ref S,.ref I],[]⟩) R s:=by
 have nw:S∉wr:=λh=>hSf (W.sub _ h);have up:∀b∈wr,b∈S::wr:=λb hb=>K0j _ hb;intro k;induction k with
 | zero =>
  intro i s hk st hS hR;obtain rfl:i=n:=by omega
  refine K2o K8j ?_;rw[K1y K5r _];show wpAny _ A.in1 (pyNext (.ref I) >>= _) _ _ s;refine K0 (W.done s _ _ st λs' hm=>?_);show wpAny _ A.in1 (ret K2x) _ _ s';exact K5 (hR s' (hm.mono up) (hS.stay λo e=>hm.heap S o nw e))
 | succ k ih =>
  intro i s hk st hS hR;refine K2o K8j ?_;rw[K1y K5r _];show wpAny _ A.in1 (pyNext (.ref I) >>= _) _ _ s;refine K0 (W.item i s _ _ (by omega) st λv s' hP st' hm=>?_);show wpAny _ A.in1 (K56 [v] (setAdd S v) >>= _) _ _ s';have room:(dedK ((K0o i).map key)).length+1<scanBound:=by
   have:=za7 ((K0o i).map key);rw[K6,K1w]at this;omega
  refine K0 (K1s (z91 (hv i v hP) (hS.stay λo e=>hm.heap S o nw e) room λh' b sb S2=>?_));have nx:dedK ((K0o (i+1)).map key)=putK (dedK ((K0o i).map key)) (key i):=by
   rw[K6v,K0w];exact z97 _ _
  refine K5 ⟨K4s K5r _,ih (i+1) _ (by omega) (W.frame _ s' _ _ st' (K4d _) λb hb o e=>?_) (by rw[nx];exact S2) λs'' hm'' S3=>?_⟩
  ·rw[sb.2 b (λz:b=S=>hSf (z ▸ hb))];exact e
  ·refine hR s'' (Moved.trans W.gtrans ((hm.mono up).then_heap (K4d _) λb o hb e=>?_) hm'') S3;rw[sb.2 b (λz:b=S=>hb (by rw[z];exact K0t))];exact e
end
theorem z7c:isSubtype (.type "tuple") (.type "set")=pure false:=by rw[K66];kernel_rfl
theorem z5E:isSubtype (.type "tuple") (.type "frozenset")=pure false:=by rw[K66];kernel_rfl
abbrev z1j (w:World):Obj:={ cls:=.type "set",dict:=none,data:=.set #[] 0 (.fresh 0 0 (!w.params.followText "set-order")) }
theorem zG5 (w:World):(!w.params.followText "set-order")=true\/w.params.followText "set-order" = true:=by
 cases w.params.followText "set-order"<;>simp
section
variable {P:K08}{w:World}{A:Around}{E:Value->Shared->Prop}{s:Shared}
theorem fresh_at {h:Heap}:SetAt w (h.push (z1j w)) h.objs.size []:=z7J (zG5 w)
theorem newCode (a:Value) {Q:Value->Shared->Prop}(h:Q (.ref s.heap.objs.size) { s with heap:=s.heap.push (z1j w) }) :
 K61 (model P w) A (.call (.builtin "set.__new__") ⟨[.type "set",a],[]⟩) (wants Q E) s:=by
 refine K96 (show wpAny _ A.in1 (do checkBuiltinCall "set.__new__" ⟨[.type "set",a],[]⟩;again (.builtin "set.__new__" ⟨[.type "set",a],[]⟩)) _ _ s from ?_);refine K0 (K9c (F.newCall_set_1 a) (K5 ⟨K4s F.plain_set_new _,K2o F.entry_set_new ?_⟩));rw[K1y F.plain_set_new _];unfold Builtin.«set.__new__» Builtin.Frozenset.newClass;have hz:=sub_set_self;obtain⟨hp,g,d,tk,os⟩:=s;dsimp only
 wp_walk
 refine K3n (K5 ?_);dsimp only;simp only[newObj];refine K0 (wpAny_alloc (K5 ?_));exact K5 h
theorem z7P {T:String}{l:Addr}{items:Array Value}{key:Nat->Key}{Q:Value->Shared->Prop}(hT:T = "list"\/T = "tuple") (hh:A.handled=none) (hl:∃o,s.heap.get? l=some o/\o.cls=.type T/\∃n,o.data=.seq items n)
 (hv:∀(i:Nat) v,items[i]?=some v->z1O (key i) v=true) (hb:items.size+1<scanBound)
 (h:∀h' tk,SetAt w h' s.heap.objs.size (dedK ((K0o items.size).map key))->(∀b o,s.heap.get? b=some o->h'.get? b=some o)->Q (.ref s.heap.objs.size) { s with heap:=h',toks:=tk }) :
 wpAny (model P w) A (call (.type "set") [.ref l]) Q E s:=by
 obtain⟨c,tl,hmro⟩:=F.called_set.mro;have z1:=F.called_set.made;have z2:=F.called_set.sub;have z3:=F.called_set.notType;have z4:=F.called_set.canCreate;have z5:=F.typeCall_set_1 (.ref l);obtain⟨ol,hol,hcl,nl,hdl⟩:=hl;obtain⟨ocls,odict,odata,oslots⟩:=ol;simp only at hcl hdl;subst hcl;subst hdl;refine wpAny_call (K96 (show wpAny _ _ (callAny (.type "set") _) _ _ _ from ?_));refine K5 ⟨Code.quiet_builtin _ (by decide +kernel),K2o F.entry_type_call ?_⟩;rw[Around.under_plain (weight_type_call_type "set" [.ref l] []) rfl]
 repeat (any_goals (first|assumption|wp_step))
 refine K54 (newCode (.ref l) (E:=E) (Q:=λobj s1=>obj=.ref s.heap.objs.size/\s1={ s with heap:=s.heap.push (z1j w) }) ⟨rfl,rfl⟩) λr s1 hr=>?_;cases r with
 | error e=>exact hr
 | ok fl =>
  cases fl with
  | next=>exact hr.elim
  | brk=>exact hr.elim
  | cont=>exact hr.elim
  | ret obj =>
   obtain⟨rfl,rfl⟩:=hr;have gS:(s.heap.push (z1j w)).get? s.heap.objs.size=some (z1j w):=K04 _ rfl;have tS:K7x { s with heap:=s.heap.push (z1j w) } (.ref s.heap.objs.size) "set":=⟨_,gS,rfl⟩;have y1:=F.called_set.init.lookup;have y2:=F.called_set.init.bind (.ref s.heap.objs.size)
   repeat (any_goals (first|assumption|wp_step))
   refine K54 (codeAny_call_builtin (R:=wants (λr s2=>r=.none/\∃h' tk,s2={ s with heap:=h',toks:=tk }/\SetAt w h' s.heap.objs.size (dedK ((K0o items.size).map key))/\∀b o,s.heap.get? b=some o->h'.get? b=some o) E) F.called_set.init.plain F.entry_set_init (check_set_init_1 tS ?_)) λr2 s2 hr2=>?_
   ·have gl:(s.heap.push (z1j w)).get? l=some { cls:=.type T,dict:=odict,data:=.seq items nl,slots:=oslots }:=K4 _ hol;have hll:l<s.heap.objs.size:=K02 hol;have h3:A.in1.in1.in1.handled=none:=by simp[hh]
    have neI:l≠(s.heap.push (z1j w)).objs.size:=by rw[K18];exact K0e (K4x hll)
    have nf:s.heap.objs.size∉[(s.heap.push (z1j w)).objs.size,l]:=by
     rw[K18];simp only[K0a,K0m,K21,or_false,not_or];exact⟨K0e (K6m _),K26 hll⟩
    have start:∀ob:Obj,SetAt w ((s.heap.push (z1j w)).push ob) s.heap.objs.size (dedK ((K0o 0).map key)):=λob=>fresh_at.stay λo e=>K4 _ e;have fin:∀(ob:Obj) s',Moved [s.heap.objs.size,(s.heap.push (z1j w)).objs.size] (λg g'=>g'=g) { s with heap:=(s.heap.push (z1j w)).push ob } s'->SetAt w s'.heap s.heap.objs.size (dedK ((K0o items.size).map key)) ->
     ∃h' tk,s'={ s with heap:=h',toks:=tk }/\SetAt w h' s.heap.objs.size (dedK ((K0o items.size).map key))/\∀b o,s.heap.get? b=some o->h'.get? b=some o:=λob s' hm S2=>by
     obtain⟨h',g',d',tk',os'⟩:=s';have e1:g'=s.gens:=hm.gens;have e2:d'=s.drawn:=hm.drawn;have e3:os'=s.os:=hm.os;subst e1;subst e2;subst e3;refine⟨h',tk',rfl,S2,λb o e=>hm.heap b o ?_ (K4 _ (K4 _ e))⟩;have:=K02 e;rw[K18];simp only[K0a,K0m,K21,or_false,not_or];exact⟨K0e this,K0e (K4x this)⟩
    rcases hT with rfl|rfl
    ·have x1:=F.sub_list_set;have x2:=F.sub_list_frozenset;have x3:(K4e "list"==K4e "dict")=false:=by decide
     have il:(s.heap.push (z1j w)).IsList l items:=⟨_,gl,rfl,nl,rfl⟩;unfold Builtin.«set.__init__» noKeywords K6u;generalize hPI:pyIter=PI
     wp_walk
     subst hPI;refine K68 il (K0 (K7f ?_));refine z51 ((Walks.list h3 _ l neI items).toS) s.heap.objs.size nf key (λi v e=>hv i v e) hb items.size 0 _ (by omega) ⟨⟨_,K04 _ rfl,rfl,rfl⟩,il.push _⟩ (start _) λs' hm S2=>?_;obtain⟨h',tk,rfl,q1,q2⟩:=fin _ s' hm S2;exact K5 (show wpAny _ _ (ret K2x) _ _ _ from K5 ⟨rfl,h',tk,rfl,q1,q2⟩)
    ·have x1:=z7c;have x2:=z5E;have x3:(K4e "tuple"==K4e "dict")=false:=by decide
     have il:(s.heap.push (z1j w)).IsTuple l items:=⟨_,gl,rfl,nl,rfl⟩;unfold Builtin.«set.__init__» noKeywords K6u;generalize hPI:pyIter=PI
     wp_walk
     subst hPI;refine K2p il (K0 (K7f ?_));refine z51 ((Walks.tuple h3 _ l neI items).toS) s.heap.objs.size nf key (λi v e=>hv i v e) hb items.size 0 _ (by omega) ⟨⟨_,K04 _ rfl,rfl,rfl⟩,⟨_,K4 _ gl,rfl,nl,rfl⟩⟩ (start _) λs' hm S2=>?_;obtain⟨h',tk,rfl,q1,q2⟩:=fin _ s' hm S2;exact K5 (show wpAny _ _ (ret K2x) _ _ _ from K5 ⟨rfl,h',tk,rfl,q1,q2⟩)
   ·cases r2 with
    | error e=>exact hr2
    | ok f2 =>
     cases f2 with
     | next=>exact hr2.elim
     | brk=>exact hr2.elim
     | cont=>exact hr2.elim
     | ret r =>
      obtain⟨rfl,h',tk,rfl,q1,q2⟩:=hr2
      repeat (any_goals (first|assumption|wp_step))
      exact h _ _ q1 q2
end
theorem z2K {α:Type}:∀(l:List α) (i:Nat) (h:i<l.length),(l[i]::l.eraseIdx i).Perm l
 | [],i,h=>by simp at h
 | a::l,0,h=>.refl _
 | a::l,i+1,h=>by
  have:=z2K l i (by simpa using h);exact(List.Perm.swap a _ _).trans (Z1q a this)
theorem z4W {α:Type}{l:List α}{i n:Nat}(h:i<l.length) (e:l.length=n+1):(l.eraseIdx i).length=n:=by
 rw[List.length_eraseIdx,if_pos h,e];rfl
theorem z8r {α:Type}(f:Nat->Nat):∀(n k:Nat) (left:List α) (out:Array α),left.length=n->(Z0e f n k left out).toList.Perm (out.toList++left)
 | 0,k,left,out,h=>by
  have:left=[]:=K4a.mp h;subst this;simp[Z0e]
 | n+1,k,left,out,h=>by
  have hl:f k % left.length<left.length:=Nat.mod_lt _ (by omega);rw[Z0e,K7 hl];dsimp only;refine(z8r f n (k+1) _ _ (z4W hl h)).trans ?_;rw[Z0r,K0z];refine List.Perm.append_left _ ?_;exact z2K left _ hl
theorem z8X {α:Type}(f:Nat->Nat) (xs:Array α):(Z15 f xs).toList.Perm xs.toList:=by
 unfold Z15;have:=z8r f xs.size 0 xs.toList #[] (by simp);simpa using this
theorem slot_si_next:Slot "set_iterator" "__next__" "set_iterator.__next__" :=
 .of (owner:="set_iterator") (n:="__next__") (by rw[K95,K6f];kernel_rfl) (by decide +kernel) (by decide +kernel) (by decide +kernel) (by first|exact .inl (by decide +kernel)|exact .inr (by decide +kernel)) (by rw[K66];kernel_rfl)
theorem z2D:entryFor table "set_iterator.__next__" = some Builtin.«set_iterator.__next__»:=entryFor_of_tree (by kernel_rfl)
theorem z6J:Manifest.owners.lookup (String.ofList ['r','o','t','a','r','e','t','i','_','t','e','s'].reverse)=some Manifest.sig_set_iterator:=by kernel_rfl
theorem z2Y (a:Value):argsOk "set_iterator.__next__" ⟨[a],[]⟩:=by
 unfold argsOk;rw[K9x (id:="set_iterator.__next__") (n:=['_','_','t','x','e','n','_','_']) (o:=['r','o','t','a','r','e','t','i','_','t','e','s']) (by kernel_rfl) z6J];kernel_rfl
theorem z2V:Slot "set_iterator" "__iter__" "set_iterator.__iter__" :=
 .of (owner:="set_iterator") (n:="__iter__") (by rw[K95,K6f];kernel_rfl) (by decide +kernel) (by decide +kernel) (by decide +kernel) (by first|exact .inl (by decide +kernel)|exact .inr (by decide +kernel)) (by rw[K66];kernel_rfl)
theorem z4S:entryFor table "set.__iter__" = some Builtin.«frozenset.__iter__» :=
 entryFor_alias (id':="frozenset.__iter__") (by kernel_rfl) rfl (by decide +kernel) (by kernel_rfl)
theorem z5T (a:Value):argsOk "set.__iter__" ⟨[a],[]⟩:=by
 unfold argsOk;rw[K9x (id:="set.__iter__") (n:=['_','_','r','e','t','i','_','_']) (o:=['t','e','s']) (by kernel_rfl) F.owner_set];kernel_rfl
section
variable {P:K08}{w:World}{A:Around}{E:Value->Shared->Prop}{s:Shared}
theorem z41 {α:Type}:∀(n:Nat) (xs:List α) (s:Shared) (Q:List α->Shared->Prop),xs.length=n->(∀ys d',ys.Perm xs->Q ys { s with drawn:=d' })->wpAny (model P w) A (drawOrder n xs) Q E s
 | 0,xs,s,Q,h,hq=>by
  have:xs=[]:=K4a.mp h;subst this;exact K5 (hq [] s.drawn (.refl _))
 | n+1,xs,s,Q,h,hq=>by
  cases xs with
  | nil=>simp at h
  | cons x xs =>
   rw[drawOrder.eq_3 _ _ (λz=>by cases z)];refine K0 ?_;refine λΓ p _=>⟨by simp,?_⟩;generalize hi:(model P w).w.draws .order (s.drawn.get .order) % (x::xs).length=i;have il:i<(x::xs).length:=by rw[<- hi];exact Nat.mod_lt _ (by simp)
   show wpAny (model P w) A (match (x::xs)[i]? with|some x_1=>(do return x_1::(<- drawOrder n ((x::xs).eraseIdx i)))|none=>unsupported "internal:drawOrder") Q E { s with drawn:=s.drawn.bump .order };rw[K7 il];dsimp only;refine K0 (z41 n _ _ _ (z4W il h) λys d' pm=>K5 ?_);exact hq _ d' ((Z1q _ pm).trans (z2K _ i il))
end
theorem z4F:entryFor table "set_iterator.__iter__" = some Builtin.«dict_keyiterator.__iter__» :=
 entryFor_alias (id':="dict_keyiterator.__iter__") (by kernel_rfl) rfl (by decide +kernel) (by kernel_rfl)
theorem z5e (a:Value):argsOk "set_iterator.__iter__" ⟨[a],[]⟩:=by
 unfold argsOk;rw[K9x (id:="set_iterator.__iter__") (n:=['_','_','r','e','t','i','_','_']) (o:=['r','o','t','a','r','e','t','i','_','t','e','s']) (by kernel_rfl) z6J];kernel_rfl
abbrev z5I (first:Value) (i:Nat) (S:Addr) (n ep:Nat):Obj:={ cls:=.type "set_iterator",data:=.fields #[first,rawInt i,.ref S,rawInt n,rawInt ep] }
section
variable (w:World) (S:Addr) (es:Array (Int×Value)) (ep:Nat) (t:K4b)
inductive Stand (h:Heap) (i:Nat):Value->List (Int×Value)->Prop where
 | txt (b:w.params.followText "set-order" = true):Stand h i (rawInt 0) (Z15 (w.params.setOrder S ep) es).toList
 | drw (T:Addr) (pl:List Nat) (b:w.params.followText "set-order" = false) (hT:∃o n,h.get? T=some o/\o.data=.seq (pl.map λ(j:Nat)=>rawInt j).toArray n) (hp:pl.Perm (K0o es.size)):Stand h i (.ref T) (pl.filterMap λj=>es[j]?)
 | slo (sl:Nat) (b:w.params.followText "set-order" = false) (c:(!t.plain&&decide (es.size > 1))=false) (l:t.led=true) (e:K0q t.place sl=i):Stand h i (rawInt sl) es.toList
end
theorem z42 {α:Type}{es:Array α}:∀{pl:List Nat},(∀j∈pl,j<es.size)->∀(i:Nat),(pl.filterMap λj=>es[j]?)[i]?=(pl[i]?).bind λj=>es[j]?
 | [],h,i=>by simp
 | a::pl,h,i=>by
  have hb:=h a K0t;have ha:es[a]?=some es[a]:=K1o hb;rw[K24,ha];cases i with
  | zero=>simp[ha]
  | succ i=>simpa using z42 (λj hj=>h j (K0j _ hj)) i
theorem Stand.perm {w:World}{S:Addr}{es:Array (Int×Value)}{ep:Nat}{t:K4b}{h:Heap}{i:Nat}{f:Value}{ord:List (Int×Value)}(x:Stand w S es ep t h i f ord):ord.Perm es.toList:=by
 cases x with
 | txt b=>exact z8X _ _
 | drw T pl b hT hp =>
  refine(hp.filterMap _).trans ?_;rw[filterMap_getElem?_range]
 | slo sl b c l e=>exact .refl _
section
variable {P:K08}{w:World}{A:Around}{E:Value->Shared->Prop}{s:Shared}{S I:Addr}{es:Array (Int×Value)}{ep:Nat}{t:K4b}{i:Nat}{f:Value}{ord:List (Int×Value)}{o:Obj}
theorem z78 {sl:Nat}{Q:Option (Value×Nat)->Shared->Prop}(ho:s.heap.get? S=some o) (hd:o.data=.set es ep t) (hf:t.fits es.size=true) (b:w.params.followText "set-order" = true)
 (h:Q (((Z15 (w.params.setOrder S ep) es)[i]?).map λe=>(e.2,sl)) s):wpAny (model P w) A (K8l S sl i ep) Q E s:=by
 unfold K8l Z07;refine K0 (K44 ho hd hf (K0 (K0 (K3n (K5 ?_)))));dsimp only;rw[show (model P w).w.params.followText "set-order" = true from b,if_pos rfl,if_neg (by simp)];unfold setWalk Z07;refine K0 (K0 (K44 ho hd hf (K0 (K0 (K3n (K5 ?_))))));dsimp only;rw[show (model P w).w.params.followText "set-order" = true from b,if_pos rfl];refine K0 (K3n (K5 (K5 ?_)));exact h
theorem z6a {sl:Nat}{Q:Option (Value×Nat)->Shared->Prop}(ho:s.heap.get? S=some o) (hd:o.data=.set es ep t) (hf:t.fits es.size=true) (b:w.params.followText "set-order" = false)
 (c:(!t.plain&&decide (es.size > 1))=false) (l:t.led=true) (h:Q (match es[K0q t.place sl]?,t.place[K0q t.place sl]? with|some (_,x),some j=>some (x,j+1)|_,_=>none) s):wpAny (model P w) A (K8l S sl i ep) Q E s:=by
 unfold K8l Z07;refine K0 (K44 ho hd hf (K0 (K0 (K3n (K5 ?_)))));dsimp only;rw[show (model P w).w.params.followText "set-order" = false from b,if_neg (by decide)];rw[if_neg (by show ¬ ((!t.plain&&decide (es.size > 1))=true);rw[c];decide)];refine K0 ?_;show wpAny _ _ (if (!t.led&&!es.isEmpty)=true then _ else _) _ _ _;rw[if_neg (by rw[l];simp)];exact K5 (K5 h)
theorem zo1 {e:Int×Value}{Q:Option Value->Shared->Prop}(ho:s.heap.get? S=some o) (hd:o.data=.set es ep t) (hf:t.fits es.size=true) (hr:Rise t.place) (hI:s.heap.get? I=some (z5I f i S es.size ep)) (st:Stand w S es ep t s.heap i f ord) (he:ord[i]?=some e) (hSI:S≠I)
 (hQ:∀h' f',K3h I s.heap h'->h'.get? I=some (z5I f' (i+1) S es.size ep)->Stand w S es ep t h' (i+1) f' ord->(∀T,f'=.ref T->f=.ref T)->Q (some e.2) { s with heap:=h' }):wpAny (model P w) A (pyNext (.ref I)) Q E s:=by
 have hT:s.TypeIs (.ref I) "set_iterator":=⟨_,hI,rfl⟩;unfold pyNext;refine K0 (K82 (K1a (name:=K2n "__next__") hT slot_si_next (K1g slot_si_next hT z2D ?_ (z2Y _))));show wpAny _ _ (fieldsOf (.ref I) >>= _) _ _ s;refine K0 (wpAny_fieldsOf hI rfl ?_);show wpAny _ _ (setEntries S >>= _) _ _ s;refine K0 (K71 ho hd hf ?_);rw[if_neg (by simp)];have upd:∀(h0:Heap) (vs:Array Value) (j:Nat) (v:Value),h0.get? I=some { cls:=.type "set_iterator",data:=.fields vs }->(h0.update I (K9v (·.setIfInBounds j v))).get? I=some { cls:=.type "set_iterator",data:=.fields (vs.setIfInBounds j v) }:=λh0 vs j v e=>by
  have:=K3u (K9v (·.setIfInBounds j v)) e (K6e (K5k rfl _));exact this
 have fin:∀(f':Value) (j:Nat) (R:Z0x->Shared->Prop) (R2:Value->Shared->Prop),(∀h',K3h I s.heap h'->h'.get? I=some (z5I f' (i+1) S es.size ep)->R (.done (.ret e.2)) { s with heap:=h' }) ->
  wpAny (model P w) A.in1 (setField (.ref I) 0 f' >>= λ_=>setField (.ref I) 1 (rawInt ((i:Int)+1)) >>= λ_=>ret e.2) R R2 s:=λf' j R R2 q=>by
  have u1:=upd s.heap _ 0 f' hI;refine K0 (K3b hI rfl (by simp) (K0 (K3b u1 rfl (by simp) (K5 (q _ ((K1l ..).trans (K1l ..)) ?_)))));rw[upd _ _ 1 _ u1];simp[rawInt]
 cases st with
 | txt b =>
  show wpAny _ _ (K8l S (0:Int).toNat (i:Int).toNat (ep:Int).toNat >>= _) _ _ _;rw[K0x,K0x];refine K0 (z78 ho hd hf b ?_);rw[<- K35,he];exact fin (rawInt 0) 0 _ _ λh' sb q=>⟨_,rfl,K5 (hQ h' _ sb q (.txt b) λT z=>by cases z)⟩
 | slo sl b c l e2 =>
  have hi:i<es.size:=by simpa using(K8.mp he).1
  have he2:es[i]?=some e:=by rw[<- K35];exact he
  have sz:t.place.size=es.size:=by
   unfold K4b.fits at hf;simp at hf;exact hf.1
  have hp:t.place[i]?=some (t.place[i]'(by omega)):=K1o (by omega);show wpAny _ _ (K8l S (sl:Int).toNat (i:Int).toNat (ep:Int).toNat >>= _) _ _ _;rw[K0x,K0x,K0x];refine K0 (z6a ho hd hf b c l ?_);rw[e2,he2,hp];refine fin (rawInt ((t.place[i]'(by omega)+1:Nat):Int)) 0 _ _ λh' sb q=>⟨_,rfl,K5 (hQ h' _ sb q (.slo _ b c l (z7k hr hp)) λT z=>by cases z)⟩
 | drw T pl b hT hp =>
  obtain⟨oT,nT,gT,dT⟩:=hT;have hb:∀j∈pl,j<es.size:=λj hj=>by simpa using hp.mem_iff.mp hj
  rw[z42 hb]at he;cases hpi:pl[i]? with
  | none=>rw[hpi]at he;cases he
  | some j =>
   rw[hpi]at he;have hej:es[j]?=some e:=he;have hTI:T≠I:=λz=>by
    subst z;rw[hI]at gT;cases gT;cases dT
   show wpAny _ _ (Z14 (.ref T) >>= _) _ _ _;refine K0 (K2a gT dT ?_);dsimp only;rw[K0x,show ((pl.map λ(j:Nat)=>rawInt j).toArray)[i]?=some (rawInt j) by simp[hpi]];show wpAny _ _ (setNextDrawn S (j:Int).toNat (ep:Int).toNat >>= _) _ _ _;rw[K0x,K0x];unfold setNextDrawn;refine K0 (K0 (K44 ho hd hf ?_));dsimp only;rw[if_neg (by simp),hej];refine K5 ?_;have u1:=upd s.heap _ 1 (rawInt ((i:Int)+1)) hI;refine K0 (K3b hI rfl (by simp) (K5 ⟨_,rfl,K5 (hQ _ (.ref T) (K1l ..) ?_ (.drw T pl b ⟨oT,nT,?_,dT⟩ hp) λ_ z=>z)⟩))
   ·rw[u1];simp[rawInt]
   ·rw[K3j _ _ (K5h hTI)];exact gT
theorem zs9 {Q:Option Value->Shared->Prop}(hh:A.handled=none) (ho:s.heap.get? S=some o) (hd:o.data=.set es ep t) (hf:t.fits es.size=true) (hI:s.heap.get? I=some (z5I f es.size S es.size ep)) (st:Stand w S es ep t s.heap es.size f ord)
 (hQ:∀h',Z1c I s.heap h'->Q none { s with heap:=h' }):wpAny (model P w) A (pyNext (.ref I)) Q E s:=by
 have hT:s.TypeIs (.ref I) "set_iterator":=⟨_,hI,rfl⟩;have hl:ord.length=es.size:=by rw[st.perm.length_eq,K15]
 unfold pyNext;refine K0 (K82 (K1a (name:=K2n "__next__") hT slot_si_next (K1g slot_si_next hT z2D ?_ (z2Y _))));show wpAny _ _ (fieldsOf (.ref I) >>= _) _ _ s;refine K0 (wpAny_fieldsOf hI rfl ?_);show wpAny _ _ (setEntries S >>= _) _ _ s;refine K0 (K71 ho hd hf ?_);rw[if_neg (by simp)];have stop:∀(h1:Heap) (Z:Z0x->Shared->Prop),Z1c I s.heap h1->wpAny (model P w) A.in1 (newExc (.type "StopIteration") [] >>= λx=>(raiseNew x:Sem Z0x)) Z (λe s'=>wpAny (model P w) A (do let __do_lift <- isInstance e (K4e "StopIteration");if __do_lift=true then pure none else throw e) Q E s') { s with heap:=h1 }:=λh1 Z eb=>by
  refine K0 ?_;simp only[newExc,newTuple];refine K0 (K16 ?_ (by size_fits));refine K0 (m:=K7h _ _) (K9c (a:=K2x) (by first|rfl|(simp only[K7h];rfl)) ?_);refine K16 ?_ (by size_fits);simp only[raiseNew];refine K0 (wpAny_handled ?_);rw[show A.in1.handled=none by simp[hh]];refine K0 (K5 (wpAny_throw ?_));refine K0 (K8e (T:="StopIteration") (b:=true) ⟨_,K04 _ rfl,rfl⟩ isSubtype_stop ?_);exact K5 (hQ _ ((eb.push _).push _))
 cases st with
 | txt b =>
  show wpAny _ _ (K8l S (0:Int).toNat (es.size:Int).toNat (ep:Int).toNat >>= _) _ _ _;rw[K0x,K0x];refine K0 (z78 ho hd hf b ?_);rw[<- K35,K1j (by omega)];exact K0 (K3b hI rfl (by simp) (stop _ _ (K1l ..).extBut))
 | slo sl b c l e2 =>
  show wpAny _ _ (K8l S (sl:Int).toNat (es.size:Int).toNat (ep:Int).toNat >>= _) _ _ _;rw[K0x,K0x,K0x];refine K0 (z6a ho hd hf b c l ?_);rw[e2,Array.getElem?_eq_none (K03 _)];exact K0 (K3b hI rfl (by simp) (stop _ _ (K1l ..).extBut))
 | drw T pl b hT hp =>
  obtain⟨oT,nT,gT,dT⟩:=hT;have lp:pl.length=es.size:=by rw[hp.length_eq,K1w]
  show wpAny _ _ (Z14 (.ref T) >>= _) _ _ _;refine K0 (K2a gT dT ?_);dsimp only;rw[K0x,show ((pl.map λ(j:Nat)=>rawInt j).toArray)[es.size]?=none by simp[lp]];have u1:(s.heap.update I (K9v (·.setIfInBounds 0 (rawInt 0)))).get? I=some { cls:=.type "set_iterator",data:=.fields (#[.ref T,rawInt es.size,.ref S,rawInt es.size,rawInt ep].setIfInBounds 0 (rawInt 0)) } :=
   K3u _ hI (K6e (K5k rfl _))
  exact K0 (K3b hI rfl (by simp) (K0 (K3b u1 rfl (by simp) (stop _ _ ((K1l ..).trans (K1l ..)).extBut))))
end
theorem z9O {P:K08}{w:World}{A:Around}{S I:Addr}{es:Array (Int×Value)}{ep:Nat}{t:K4b}{ord:List (Int×Value)}{o:Obj}{tl:List Addr}(hh:A.handled=none) (hd:o.data=.set es ep t) (hf:t.fits es.size=true) (hr:Rise t.place) (hSI:S≠I) (hl:ord.length=es.size) (htl:I∉tl) :
 Walks P w A I (I::S::tl) [I] es.size (λi v=>∃e,ord[i]?=some e/\v=e.2) (λi h=>h.get? S=some o/\∃f,(∀T,f=.ref T->T∈tl)/\h.get? I=some (z5I f i S es.size ep)/\Stand w S es ep t h i f ord) where
 sub:=λb hb=>by simp at hb;simp[hb]
 frame:=λi h h' st hk=>by
  obtain⟨q1,f,q2,q3,q4⟩:=st;refine⟨hk S (by simp) _ q1,f,q2,hk I (by simp) _ q3,?_⟩;cases q4 with
  | txt b=>exact .txt b
  | slo sl b c l e2=>exact .slo sl b c l e2
  | drw T pl b hT hp =>
   obtain⟨oT,nT,gT,dT⟩:=hT;exact .drw T pl b ⟨oT,nT,hk T (by simp[q2 T rfl]) _ gT,dT⟩ hp
 item:=λi s Q E hi st hQ=>by
  obtain⟨q1,f,q2,q3,q4⟩:=st;have he:ord[i]?=some (ord[i]'(by omega)):=K7 (by omega);refine zo1 q1 hd hf hr q3 q4 he hSI λh' f' sb g st' tt=>?_;refine hQ _ h' s.toks ⟨_,he,rfl⟩ ⟨?_,f',λT z=>q2 T (tt T z),g,st'⟩ λb ob hb e=>?_
  ·rw[sb.2 S hSI];exact q1
  ·rw[sb.2 b (λz=>hb (by simp[z]))];exact e
 done:=λs Q E st hQ=>by
  obtain⟨q1,f,q2,q3,q4⟩:=st;exact zs9 hh q1 hd hf q3 q4 λh' eb=>hQ h' s.toks λb ob hb e=>eb b ob (λz=>hb (by simp[z])) e
 self:=λi s Q E st hQ=>by
  obtain⟨q1,f,q2,q3,q4⟩:=st;have hT:s.TypeIs (.ref I) "set_iterator":=⟨_,q3,rfl⟩;refine wpAny_pyIter_slot hT z2V (K1g z2V hT z4F ?_ (z5e _));show wpAny _ _ (ret (.ref I)) _ _ s;exact K5 ⟨_,rfl,"set_iterator",_,hT,slot_si_next.lookup,hQ⟩
section
variable {P:K08}{w:World}{A:Around}{E:Value->Shared->Prop}{s:Shared}{S:Addr}{es:Array (Int×Value)}{ep:Nat}{t:K4b}{o:Obj}
theorem zf1 {Q:Value->Shared->Prop}(ho:s.heap.get? S=some o) (hc:o.ExactSet) (hd:o.data=.set es ep t) (hf:t.fits es.size=true) (hr:Rise t.place) (hb:es.size<scanBound) (hl:t.led=true\/w.params.followText "set-order" = true)
 (hQ:∀(h':Heap) (d':Drawn) (I:Addr) (f:Value) (ord:List (Int×Value)) (tl:List Addr),(∀b ob,s.heap.get? b=some ob->h'.get? b=some ob)->s.heap.objs.size<=I->h'.get? I=some (z5I f 0 S es.size ep)->(∀T,f=.ref T->T∈tl)->(∀T∈tl,s.heap.objs.size<=T/\T<h'.objs.size/\T≠I)->Stand w S es ep t h' 0 f ord->Q (.ref I) { s with heap:=h',drawn:=d' }) :
 wpAny (model P w) A (pyIter (.ref S)) Q E s:=by
 have hT:s.TypeIs (.ref S) "set":=⟨o,ho,hc.1⟩;refine wpAny_pyIter_slot hT F.slot_set_iter (K1g F.slot_set_iter hT z4S ?_ (z5T _));unfold Builtin.«frozenset.__iter__» Builtin.Frozenset.slot0 slotArgs;simp only[List.isEmpty_nil,K7y,K29,↓reduceIte,bind_assoc,K0c,bne_self_eq_false];unfold Builtin.Frozenset.addrOf Builtin.Frozenset.sizeOf;refine K0 (K5 ?_)
 try dsimp only
 refine K0 (K5 ?_);refine K0 (K0 (K71 ho hd hf (K5 ?_)));unfold setDrawn Z07;refine K0 (K0 (K44 ho hd hf (K0 (K0 (K3n (K5 (K5 ?_)))))));dsimp only;have tailW:∀(h0:Heap) (d0:Drawn) (first:Value) (ord:List (Int×Value)) (tl:List Addr),(∀b ob,s.heap.get? b=some ob->h0.get? b=some ob)->s.heap.objs.size<=h0.objs.size->(∀T,first=.ref T->T∈tl)->(∀T∈tl,s.heap.objs.size<=T/\T<h0.objs.size) ->
  (∀h',(∀b ob,h0.get? b=some ob->h'.get? b=some ob)->Stand w S es ep t h' 0 first ord) ->
  wpAny (model P w) A.in1 (setEpoch S >>= λe=>newFields "set_iterator" [first,rawInt 0,.ref S,rawInt es.size,rawInt e] >>= λv=>ret v) (λfin s'=>∃v,fin=.done (.ret v)/\∃T' r,s'.TypeIs v T'/\K8o (K4e T') (K2n "__next__")=pure (some r)/\Q v s') E { s with heap:=h0,drawn:=d0 }:=λh0 d0 first ord tl k1 k2 k3 k4 k5=>by
  refine K0 (wpAny_setEpoch_of (s:={ s with heap:=h0,drawn:=d0 }) (k1 S o ho) hd hf ?_);refine K0 (K16 (K5 ⟨_,rfl,"set_iterator",_,⟨_,K04 _ rfl,rfl⟩,slot_si_next.lookup,?_⟩));refine hQ _ d0 h0.objs.size first ord tl (λb ob e=>K4 _ (k1 b ob e)) k2 (K04 _ rfl) k3 (λT hT=>?_) (k5 _ λb ob e=>K4 _ e)
  obtain⟨z1,z2⟩:=k4 T hT;exact⟨z1,by rw[K18];exact K4x z2,K0e z2⟩
 cases hb':w.params.followText "set-order" with
 | true =>
  rw[show (model P w).w.params.followText "set-order" = true from hb',if_neg (by simp)];refine K0 (K5 ?_);exact tailW s.heap s.drawn (rawInt 0) _ [] (λ_ _ e=>e) (K03 _) (λT z=>by cases z) (λT z=>by cases z) λh' _=>.txt hb'
 | false =>
  rw[show (model P w).w.params.followText "set-order" = false from hb'];have led:t.led=true:=by
   rcases hl with hl|hl
   ·exact hl
   ·rw[hb']at hl;cases hl
  show wpAny _ _ (if (!false&&(!t.plain&&decide (es.size > 1)))=true then _ else _) _ _ _;rw[Bool.not_false,K4p];cases hdr:(!t.plain&&decide (es.size > 1)) with
  | false =>
   rw[if_neg (by decide)];refine K0 (K5 ?_);exact tailW s.heap s.drawn (rawInt 0) _ [] (λ_ _ e=>e) (K03 _) (λT z=>by cases z) (λT z=>by cases z) λh' _=>.slo 0 hb' hdr led (z7z hr)
  | true =>
   rw[if_pos rfl];refine K0 (z41 es.size (K0o es.size) s _ (by simp) λys d' pm=>?_);have ly:(ys.map λ(i:Nat)=>rawInt i).length<=sizeLine:=by
    rw[K6,pm.length_eq,K1w];exact K6a hb
   refine K0 (wpAny_newTuple ?_ ly);refine tailW (s.heap.push { cls:=.type "tuple",data:=.seq (ys.map λ(i:Nat)=>rawInt i).toArray }) d' (.ref s.heap.objs.size) _ [s.heap.objs.size] (λb ob e=>K4 _ e) (by rw[K18];exact K4d _)
    (λT z=>by cases z;exact K0m.mpr rfl) (λT z=>?_) λh' k=>.drw s.heap.objs.size ys hb' ⟨_,_,k _ _ (K04 _ rfl),rfl⟩ pm
   have:=K0m.mp z;subst this;exact⟨K03 _,by rw[K18];exact K6m _⟩
theorem z5w {Q:List Value->Shared->Prop}(hh:A.handled=none) (ho:s.heap.get? S=some o) (hc:o.ExactSet) (hd:o.data=.set es ep t) (hf:t.fits es.size=true) (hr:Rise t.place) (hb:es.size<scanBound) (hl:t.led=true\/w.params.followText "set-order" = true)
 (hQ:∀(h':Heap) (d':Drawn) (tk:Nat) (ord:List (Int×Value)),(∀b ob,s.heap.get? b=some ob->h'.get? b=some ob)->s.heap.objs.size<=h'.objs.size->ord.Perm es.toList->Q (ord.map (·.2)) { s with heap:=h',drawn:=d',toks:=tk }) :
 wpAny (model P w) A (collect (.ref S)) Q E s:=by
 have hS:S<s.heap.objs.size:=K02 ho;unfold collect;refine K0 (K7f (K2o F.entry_proto_collect ?_));rw[K1y F.plain_proto_collect _];show wpAny _ A.in1 (newList [] >>= λl=>again (.builtin "list.__iadd__" ⟨[l,.ref S],[]⟩)) _ _ s;refine K0 (K16 (K5 ⟨K4s K51 _,K2o F.entry_list_iadd ?_⟩));rw[K1y K51 _];show wpAny _ A.in1 (K4w (.ref s.heap.objs.size) (.ref S) (.ref s.heap.objs.size)) _ _ _;unfold K4w;have g1:(s.heap.push { cls:=.type "list",data:=.seq ([]:List Value).toArray }).get? S=some o:=K4 _ ho;have tS:K7x { s with heap:=s.heap.push { cls:=.type "list",data:=.seq ([]:List Value).toArray } } (.ref S) "set":=⟨o,g1,hc.1⟩;refine K0 (K42 tS ?_);have n1:K46 (.ref s.heap.objs.size) (.ref S)=false:=by
  simp only[K46];exact beq_eq_false_iff_ne.mpr (K26 hS)
 rw[if_neg (by rw[n1];decide)];refine K0 (zf1 (s:={ s with heap:=s.heap.push { cls:=.type "list",data:=.seq ([]:List Value).toArray } }) g1 hc hd hf hr hb hl λh1 d1 I f ord tl k1 k2 k3 k4 k5 st=>?_);have g2:h1.get? S=some o:=k1 S o g1;have gL:h1.get? s.heap.objs.size=some { cls:=.type "list",data:=.seq ([]:List Value).toArray }:=k1 _ _ (K04 _ rfl);have tS2:K7x { s with heap:=h1,drawn:=d1 } (.ref S) "set":=⟨o,g2,hc.1⟩;refine K0 (K1s ?_);unfold Builtin.List.listLengthHint;refine K0 (K6x tS2 F.slot_set_len.lookup ?_);have sp:splitId "set.__len__" = some ("set","__len__"):=by decide +kernel
 dsimp only;rw[sp];dsimp only;refine K0 (K8e (b:=true) tS2 (by rw[K66];kernel_rfl) ?_);rw[if_neg (by decide),if_pos (by decide +kernel)];refine K0 (K42 tS2 (K5 ?_));rw[if_pos (by decide +kernel)];have u1:=get?_update_seq (c:="list") (xs:=([]:List Value).toArray) (n:=0) gL (·.push .none);have u2:=get?_update_seq u1 (·.pop);refine K0 (K47 ?_);unfold Builtin.List.listTouch;refine K0 (K0 (listUpdate_at (s:={ s with heap:=h1,drawn:=d1 }) gL rfl (listUpdate_at (s:={ s with heap:=h1.update s.heap.objs.size (K4z (·.push .none)),drawn:=d1 }) u1 rfl ?_)));generalize hh2:(h1.update s.heap.objs.size (K4z (·.push .none))).update s.heap.objs.size (K4z (·.pop))=h2 at u2 ⊢;have keep2:∀b ob,b≠s.heap.objs.size->h1.get? b=some ob->h2.get? b=some ob:=λb ob hb e=>by
  rw[<- hh2,K3j _ _ (K5h hb),K3j _ _ (K5h hb)];exact e
 have hIs:s.heap.objs.size+1<=I:=by rw[K18]at k2;exact k2
 have hSI:S≠I:=K0e (K0i hS (Z0v hIs));have lo:ord.length=es.size:=by rw[st.perm.length_eq,K15]
 have W:=z9O (P:=P) (w:=w) (A:=A.in1) (S:=S) (I:=I) (ord:=ord) (o:=o) (tl:=tl) (by simp[hh]) hd hf hr hSI lo (λz=>(k5 I z).2.2 rfl);have hLf:s.heap.objs.size∉I::S::tl:=by
  simp only[K0a,not_or];refine⟨K0e hIs,K26 hS,λz=>?_⟩;have:=(k5 _ z).1;rw[K18]at this;exact K2u _ this
 have st0:(λi (h:Heap)=>h.get? S=some o/\∃f,(∀T,f=.ref T->T∈tl)/\h.get? I=some (z5I f i S es.size ep)/\Stand w S es ep t h i f ord) 0 h2:=by
  refine⟨keep2 S o (K0e hS) g2,f,k4,keep2 I _ (K26 hIs) k3,?_⟩;cases st with
  | txt b=>exact .txt b
  | slo sl b c l e2=>exact .slo sl b c l e2
  | drw T pl b hT hp =>
   obtain⟨oT,nT,gT,dT⟩:=hT;refine .drw T pl b ⟨oT,nT,keep2 T oT (λz=>?_) gT,dT⟩ hp;have:=(k5 T (k4 T rfl)).1;rw[K18,z]at this;exact K2u _ this
 refine K5 ⟨K4s F.plain_extend_loop _,codeAny_extend_loopS W.toS (K6a hb) s.heap.objs.size hLf _ es.size 0 { s with heap:=h2,drawn:=d1 } #[] 2 (by omega) (K3a _) st0 (by simpa [seqObj] using u2) (ItemsOf.nil _) λs' acc c' hm gS' hacc=>?_⟩;show wpAny _ A (load s.heap.objs.size >>= _) _ _ s';refine K0 (Z06 gS' (K5 ?_));have ea:acc.toList=ord.map (·.2):=by
  refine K4v λj=>?_;rw[K00,K35];cases hj:acc[j]? with
  | none =>
   have h1:=Array.getElem?_eq_none_iff.mp hj;rw[hacc.1]at h1;rw[K1j (by omega)];rfl
  | some v =>
   obtain⟨e,h1,h2⟩:=hacc.2 j v hj;rw[h1,h2];rfl
 rw[ea];obtain⟨h',g',d',tk',os'⟩:=s';have e1:g'=s.gens:=hm.gens;have e2:d'=d1:=hm.drawn;have e3:os'=s.os:=hm.os;subst e1;subst e2;subst e3;refine hQ h' d' tk' ord (λb ob e=>?_) ?_ st.perm
 ·have hb2:b≠s.heap.objs.size:=K0e (K02 e);refine hm.heap b ob ?_ (keep2 b ob hb2 (k1 b ob (K4 _ e)));simp only[K0a,K0m,K21,or_false,not_or];exact⟨hb2,K0e (K0i (K02 e) (Z0v hIs))⟩
 ·exact K4f (K02 gS')
end
theorem z7O {k:Key}{u:Value}(r:RelV (kV k) u):z1O k u=true:=by
 cases k with
 | inl i=>obtain⟨t,rfl⟩:=r;exact z5p i t
 | inr x=>obtain⟨t,rfl⟩:=r;exact z5t x t
theorem z5s:∀{ks:List Key}{us:List Value},Vals (ks.map kV) us->∀(i:Nat) u,us[i]?=some u->∃k,ks[i]?=some k/\z1O k u=true
 | [],_,h,i,u,e=>by cases h;simp at e
 | k::ks,_,.cons h1 h2,0,u,e=>by simp at e;subst e;exact⟨k,rfl,z7O h1⟩
 | k::ks,_,.cons h1 h2,i+1,u,e=>by
  obtain⟨k',q1,q2⟩:=z5s h2 i u (by simpa using e);exact⟨k',by simpa using q1,q2⟩
theorem z7p (ks:List Key):(K0o ks.length).map (λi=>(ks[i]?).getD (.inl 0))=ks:=by
 refine K4v λi=>?_;rw[K00];by_cases h:i<ks.length
 ·rw[K9s h,K7 h];simp[K7 h]
 ·rw[K1j (by simpa using h),K1j (by omega)];rfl
section
variable {X:Cx}
theorem z9m (hc:X.calm=true):CallR X (.type "set") (λxs H Q=>∃l ks,xs=[.ref l]/\(SqL X.K H l (ks.map kV)\/SqT X.K H l (ks.map kV))/\ks.length+1<scanBound/\∀q,H q=none->Q (.ref q) (upd H q (.set (dedK ks)))):=by
 intro pins s σ H xs us Q I r h;obtain⟨l,ks,rfl,hq,hb,q⟩:=h;obtain⟨u,rfl,ru⟩:=vals1 r;cases ru;have hh:=I.ok.hd hc;have go:∀{its:List Value} {T:String},T = "list"\/T = "tuple"->Vals (ks.map kV) its->(∃o,s.heap.get? l=some o/\o.cls=.type T/\∃n,o.data=.seq its.toArray n)->wpAny (model X.prog X.w) X.A (call (.type "set") [.ref l]) (EP X pins σ Q) X.xe s:=λ{its T} hT rv hl=>by
  have le:its.length=ks.length:=by rw[<- rv.length,K6]
  refine z7P (key:=λi=>(ks[i]?).getD (.inl 0)) hT hh hl (λi v e=>?_) (by rw[K9,le];exact hb) λh' tk S2 kp=>?_
  ·obtain⟨k,e1,e2⟩:=z5s rv i v (by simpa using e);rw[e1];exact e2
  ·rw[show its.toArray.size=ks.length by rw[K9,le],z7p]at S2;exact⟨.ref s.heap.objs.size,_,I.laid (t':=tk) (o:=.set (dedK ks)) kp (K03 _) S2,rfl,q _ I.fresh⟩
 rcases hq with hq|hq
 ·obtain⟨its,r',pl,hz⟩:=I.list hq;exact go (.inl rfl) r' pl.isList
 ·obtain⟨its,r',pl,hz⟩:=I.tuple hq;exact go (.inr rfl) r' pl
theorem zk9 {pins:List (Addr×Obj)}{σ:L2.St}{H:Hp}{s:Shared}{a:Addr}{ks:List Key}(I:L2.Inv X pins σ H s) (h:H a=some (.set ks)):SetAt X.w s.heap a ks:=I.hok a _ h
theorem z9r:∀{ns:List Int}{l:List (Int×Value)}{w:World}{ks:List Key},ks=ns.map K41->Paired (KE w) ks l->K7w (l.map (·.2)) ns
 | [],l,w,ks,e,h=>by subst e;cases h;exact .nil
 | n::ns,l,w,ks,e,h=>by
  subst e;cases h with
  | cons h1 h2 =>
   rcases J0 h1.1 with ⟨i,t,e1,e2⟩|⟨x,t,e1,e2⟩
   ·cases e1;rw[K0f,e2];exact .cons _ t (z9r rfl h2)
   ·cases e1
theorem ze9 {ns:List Int}:∀{ks:List Key},ks.Perm (ns.map K41)->∃ms:List Int,ks=ms.map K41/\ms.Perm ns:=λ{ks} p=>by
 have:∀k∈ks,∃i:Int,k=K41 i:=λk hk=>by
  obtain⟨i,_,e⟩:=K0v.mp (p.mem_iff.mp hk);exact⟨i,e.symm⟩
 have e:ks=(ks.filterMap λk=>match k with|.inl i=>some i|.inr _=>none).map K41:=by
  clear p;induction ks with
  | nil=>rfl
  | cons k ks ih =>
   obtain⟨i,rfl⟩:=this k K0t;rw[K24];dsimp only;rw[K0f,<- ih λk hk=>this k (K0j _ hk)]
 refine⟨_,e,?_⟩;have q:=p.filterMap λk=>match k with|.inl i=>some i|.inr _=>none
 refine q.trans ?_;rw[K5j];have:(List.filterMap ((λk:Key=>match k with|.inl i=>some i|.inr _=>none) ∘ K41) ns)=ns:=by
  induction ns with
  | nil=>rfl
  | cons n ns ih=>simp[Z0l]
 rw[this]
theorem z5h (hc:X.calm=true):CallR X (.builtin "sorted") (λxs H Q=>∃a ns,xs=[.ref a]/\H a=some (.set (ns.map K41))/\ns.length<64/\∀q,H q=none->Q (.ref q) (upd H q (.lst ((sortI ns).map V.int)))):=by
 intro pins s σ H xs us Q I r h;obtain⟨a,ns,rfl,hH,h64,q⟩:=h;obtain⟨u,rfl,ru⟩:=vals1 r;cases ru;obtain⟨o,es,ep,t,ks',h1,h2,h3,h4,h5,h6,h7,h8,h9,h0⟩:=zk9 I hH;refine Calls.call_function_entry kind_sorted plain_sorted entry_sorted (args_sorted1 _) ?_;unfold Builtin.«sorted»;refine K0 (m:=checkCount "sorted" 1 1 _) (K5 ?_);refine K0 (z5w (by simp[I.ok.hd hc]) h1 h2 h3 h8 h9 h7 h0 λh' d' tk ord kp sz pm=>?_);obtain⟨k2,p1,p2⟩:=z2o pm h4;obtain⟨ms,rfl,pm2⟩:=ze9 (p1.trans h5);have ia:=z9r rfl p2;have l1:(ord.map (·.2)).length=ns.length:=by rw[<- pm2.length_eq,K6,<- K45 p2,K6]
 refine K0 (wpAny_newList ?_ (by rw[l1];exact K4f (K0i h64 (by decide))));have gL:(h'.push (seqObj "list" (ord.map (·.2)).toArray 0)).get? h'.objs.size=some (seqObj "list" (ord.map (·.2)).toArray 0):=K04 _ rfl;refine K0 (K1s (K1g slot_list_sort ⟨_,gL,rfl⟩ entry_list_sort (list_sort_tree gL ia (by rw[l1];exact h64) λout ns' a1 a2 a3=>⟨_,rfl,?_⟩) (args_list_sort _)));refine K5 ⟨_,rfl,?_⟩;obtain⟨e,ge⟩:=sortedHeap_at (out:=out) gL;have es':ns'=sortI ns:=z74 (a2.trans pm2) a3;subst es';have un:∀b ob,s.heap.get? b=some ob->(sortedHeap (h'.push (seqObj "list" (ord.map (·.2)).toArray 0)) h'.objs.size (ord.map (·.2)) out).get? b=some ob:=λb ob eb=>by
  have lt:=K02 (kp b ob eb);rw[sortedHeap_old (K0e lt) (by rw[K18];exact K4x lt)];exact K4 _ (kp b ob eb)
 have ho:=I.hok.laid (a:=h'.objs.size) (o:=.lst ((sortI ns).map V.int)) un sz ⟨by rw[K6,(sortI_perm ns).length_eq];exact K4f (K0i h64 (by decide)),out.toList,e,z6q a1,ge⟩;exact⟨.ref h'.objs.size,_,I.call' (s':={ s with heap:=_,drawn:=d',toks:=tk }) (ch:=[]) rfl (Un.laid un sz (I.hok.fresh sz)) ho I.bare (λb z=>absurd z (by simp)),rfl,q _ (I.hok.fresh sz)⟩
end
section
variable {P:K08}{w:World}{A:Around}{E:Value->Shared->Prop}{s:Shared}
end
def keyD:D->Option Key
 | .int i=>some (.inl i)
 | .str x=>some (.inr x)
 | _=>none
def z4e:List D->Option (List Key)
 | []=>some []
 | d::r=>match keyD d,z4e r with
  | some k,some ks=>some (k::ks)
  | _,_=>none
theorem z7Y {K:K2}{ρ:List Addr}{H:Hp}{d:D}{k:Key}{v:V}(e:keyD d=some k) (r:RD K ρ H d v):v=kV k:=by
 cases d<;>first|(simp only[keyD]at e;cases e;done)|skip
 ·simp only[keyD,Z0g]at e;subst e;simp only[RD]at r;exact r
 ·simp only[keyD,Z0g]at e;subst e;simp only[RD]at r;exact r
theorem z6d {K:K2}{ρ:List Addr}{H:Hp}:∀{ds:List D}{ks:List Key}{vs:List V},z4e ds=some ks->RDs K ρ H ds vs->vs=ks.map kV
 | [],ks,vs,e,r=>by simp only[RDs]at r;cases e;subst r;rfl
 | d::ds,ks,vs,e,r=>by
  simp only[RDs]at r;obtain⟨v,r2,rfl,h1,h2⟩:=r;rw[z4e]at e;cases e1:keyD d with
  | none=>rw[e1]at e;cases e
  | some k =>
   rw[e1]at e;cases e2:z4e ds with
   | none=>rw[e2]at e;cases e
   | some ks' =>
    rw[e2]at e;cases e;rw[z7Y e1 h1,z6d e2 h2];rfl
def getS (n:Nat):M (List Key):=λh=>match h[n]? with
 | some (.set ks)=>.ok ks h
 | _=>.bad
def newSet (ks:List Key):M D:=λh=>.ok (.ref h.length) (h++[.set ks])
def z3A:List D->M D
 | [x]=>do
  let xs <- seqD x
  match z4e xs with
  | some ks=>if ks.length+1<4096 then newSet (dedK ks) else bad
  | none=>bad
 | _=>bad
def z52:List Key->Option (List Int)
 | []=>some []
 | .inl i::r=>(z52 r).map (i::·)
 | .inr _::_=>none
theorem z6S:∀{ks:List Key}{ns:List Int},z52 ks=some ns->ks=ns.map K41
 | [],ns,e=>by cases e;rfl
 | .inl i::r,ns,e=>by
  rw[z52]at e;obtain⟨ms,e1,rfl⟩:=K09.mp e;rw[z6S e1];rfl
 | .inr _::_,ns,e=>by rw[z52]at e;cases e
def z1L:List D->M D
 | [.ref n]=>do
  let ks <- getS n
  match z52 ks with
  | some ns=>if ns.length<64 then newL ((sortI ns).map .int) else bad
  | none=>bad
 | _=>bad
section
variable {X:Cx}{EX:XX}{a o:Expr}{p pos apos cpos:Pos}{ma mo:G->M D}{mr:G->M (List D)}
theorem zd4 {K:K2}{ρ:List Addr}{h:AH}{H:Hp}{n:Nat}{q:Addr}{Z:List Key->List Addr->AH->Hp->Prop}(r:RH K ρ h H) (hq:ρ[n]?=some q) (f:Fin K EX ρ H Z (getS n h)):∃ks,H q=some (.set ks)/\Z ks ρ h H:=by
 unfold getS at f;cases e:h[n]? with
 | none=>rw[e]at f;exact f.elim
 | some ob =>
  cases ob with
  | lst xs=>rw[e]at f;exact f.elim
  | dct=>rw[e]at f;exact f.elim
  | dK kvs=>rw[e]at f;exact f.elim
  | dF kvs=>rw[e]at f;exact f.elim
  | exc c=>rw[e]at f;exact f.elim
  | set ks =>
   rw[e]at f;obtain⟨a1,n1,o1⟩:=r.at e;rw[hq]at n1;cases n1;exact⟨ks,o1,f ρ H (Pre.refl _) (Ext.refl _ _) r⟩
theorem z7u {K:K2}{ρ:List Addr}{h:AH}{H:Hp}{ks:List Key}{Q:VK}{q:Addr}(r:RH K ρ h H) (hq:H q=none) (f:FE K EX ρ H Q (newSet ks h)):Q (.ref q) (upd H q (.set ks)):=by
 refine f (ρ++[q]) _ (Pre.app _ _) (Ext.upd (.inl hq)) (r.pushS hq) (.ref q) ?_;simp only[RD];exact⟨q,rfl,by rw[<- r.len];simp⟩
theorem zD0:AR X.K EX (λxs H Q=>∃l ks,xs=[.ref l]/\(SqL X.K H l (ks.map kV)\/SqT X.K H l (ks.map kV))/\ks.length+1<scanBound/\∀q,H q=none->Q (.ref q) (upd H q (.set (dedK ks)))) z3A:=by
 intro ρ h H ds vs Q r rd fin;unfold z3A at fin;split at fin
 ·rename_i x;obtain⟨v,rfl,rv⟩:=rds1 rd;have f1:=Fin.bind fin;cases e:seqD x h with
  | bad=>rw[e]at f1;exact f1.elim
  | err z hz=>exact(z2t e).elim
  | ok ys h1 =>
   obtain⟨rfl,p,xs,rfl,hs,hd⟩:=z1A r rv e;rw[e]at f1;have f2:=f1 ρ H (Pre.refl _) (Ext.refl _ _) r;dsimp only at f2;cases e2:z4e ys with
   | none=>rw[e2]at f2;exact f2.elim
   | some ks =>
    rw[e2]at f2;dsimp only at f2;split at f2
    ·rename_i hl;have ek:=z6d e2 hd;subst ek;exact⟨p,ks,rfl,hs,hl,λq hq=>z7u r hq f2⟩
    ·exact f2.elim
 ·exact fin.elim
theorem z9P (hc:X.calm=true) (hg:Gl X "set") (hm:X.mg "set" = none) (ha:SA X EX [a] mr) (he:K05 [a] X.env=[(false,eval a X.env)]:=by rfl):SE X EX (.Call (.Name "set" p) [a] [] pos) (j7 z3A mr) :=
 z10 (z1Y (z9m hc) hg hm (by decide +kernel) ha.h (by decide) (by decide) he rfl) zD0
theorem z7i:AR X.K EX (λxs H Q=>∃a ns,xs=[.ref a]/\H a=some (.set (ns.map K41))/\ns.length<64/\∀q,H q=none->Q (.ref q) (upd H q (.lst ((sortI ns).map V.int)))) z1L:=by
 intro ρ h H ds vs Q r rd fin;unfold z1L at fin;split at fin
 ·rename_i n;obtain⟨v,rfl,rv⟩:=rds1 rd;simp only[RD]at rv;obtain⟨q,rfl,hq⟩:=rv;obtain⟨ks,h1,f2⟩:=zd4 r hq (Fin.bind fin);cases e:z52 ks with
  | none=>rw[e]at f2;exact f2.elim
  | some ns =>
   rw[e]at f2;dsimp only at f2;split at f2
   ·rename_i hl;refine⟨q,ns,rfl,by rw[h1,z6S e],hl,λl hl2=>?_⟩;unfold newL at f2;split at f2
    ·refine f2 (ρ++[l]) _ (Pre.app _ _) (Ext.upd (.inl hl2)) (r.push hl2 ?_) (.ref l) ?_
     ·have:∀ms:List Int,RDs X.K ρ H (ms.map D.int) (ms.map V.int):=λms=>by
       induction ms with
       | nil=>exact RDs.nil
       | cons m ms ih=>exact RDs.cons (by simp[RD]) ih
      exact this _
     ·simp only[RD];exact⟨l,rfl,by rw[<- r.len];simp⟩
    ·exact f2.elim
   ·exact f2.elim
 ·exact fin.elim
theorem z7n (hc:X.calm=true) (hg:Gl X "sorted") (hm:X.mg "sorted" = none) (ha:SA X EX [a] mr) (he:K05 [a] X.env=[(false,eval a X.env)]:=by rfl):SE X EX (.Call (.Name "sorted" p) [a] [] pos) (j7 z1L mr) :=
 z10 (z1G (z5h hc) hg hm boot_sorted ha.h (by decide) (by decide) he rfl) z7i
end
theorem zj0 {P:K08}{w:World}{K:K2}{mg:Str->Option Value}{base:Heap}{x:Str}{st:Stmt}{f:Addr}{fd:K2k}{N ps:List Str}{k n:Nat}{mb:G->M Out}(F:Fun K x x st f fd) (S:FnScope N ps (j8 st)) (hb:Binds K fd ps []) (mx:mg x=.(r f)) (hn:ps.length=n)
 (body:∀(cdv:Value) (A:Around) (outer:List Env) (s:Shared) (H:Hp) (E:XK),K2v K cdv x=true->Room k (A.deeper (envOfC x (j8 st) s.heap.objs.size f cdv)) ->
  SB (cxOf CX0 P w K mg base N x (j8 st) f cdv A outer s H E).nox EX0 (v7 st) mb):Fn P w K mg base (k+1) x n (runF N.length mb):=by
 refine⟨f,fd,ps,?_,hb,F.kp,mx⟩;obtain⟨oc,od,kV,doc,pm,an,cdv,ct,osl,rfl,lk,hcd⟩:=F.ex;refine zv6 lk hcd S (λvs H Q E h=>h.1.trans hn.symm) λA outer s H vs Q E hr h=>?_;obtain⟨hl,ρ,ds,h,rh,rd,fin⟩:=h;refine⟨_,(body cdv A outer s H E hcd hr).h.nox,ρ,z0Y N.length ds,h,⟨z3k rd,rh⟩,?_⟩;refine(Fin.bind fin).mono λo ρ1 h1 H1 p1 e1 r1 f1=>?_;cases o with
 | nx γ=>exact λσ _=>FE.here (d:=.non) (h:=h1) f1 r1 (by simp[RD])
 | rt d=>exact λv rv=>f1 ρ1 H1 (Pre.refl _) (Ext.refl _ _) r1 v rv
 | bk γ=>exact(show False from f1).elim
 | ct γ=>exact(show False from f1).elim
section
variable {X:Cx}
end
section
variable {X:Cx}{EX:XX}
end
theorem z9q (t:Addr) (items:Array Value) :
 Meets (Builtin.«enumerate.__new__» ⟨[.type "enumerate",.ref t],[]⟩) (λ_ R s=>s.heap.IsTuple t items /\
  R (.ok (.ret (.ref (s.heap.push { cls:=.type "tuple_iterator",data:=.fields #[.ref t,.int 0 0] }).objs.size)))
   { s with heap:=(s.heap.push { cls:=.type "tuple_iterator",data:=.fields #[.ref t,.int 0 0] }).push { cls:=.type "enumerate",data:=.fields #[.none,.bool false,.ref s.heap.objs.size,rawInt 0,.none,.none] } }) :=
 .of_wp λprog w A R s h=>by
  obtain⟨hp,g,d,tk,os⟩:=s;obtain⟨q1,h⟩:=h;have hsub:=sub_enumerate;have L1:Z0j (Z1a ⟨hp,g,d,tk,os⟩) t items:=q1
  wp_walk
  refine wpAny_stack_any λst=>K5 ?_;split
  ·rename_i c _ _ _ _ _;cases (c==K4e "enumerate")
   ·wp_walk using K2p L1
    exact⟨_,rfl,h⟩
   ·wp_walk using K2p L1
    exact⟨_,rfl,h⟩
  ·wp_walk using K2p L1
   exact⟨_,rfl,h⟩
theorem zh2 {P:K08}{w:World}{A:Around}(hh:A.handled=none) (it t:Addr) (hne:t≠it) (items:Array Value) :
 Draws P w A it [it,t] items.size (λi v=>items[i]?=some v) (λi h=>h.IsTupleIter it t i/\h.IsTuple t items) where
 live:=λ_ _ st=>let ⟨o,ho,_⟩:=st.1;⟨o,ho⟩
 frame:=λ_ _ _ st hk=>⟨st.1.at λo e=>hk it (by simp) o e,st.2.at λo e=>hk t (by simp) o e⟩
 item:=λi s Q E hi st hQ=>z4o st.1 st.2 (x:=items[i]) (by simp[hi]) λh' hit sb=>hQ _ h' s.toks (by simp[hi]) ⟨hit,st.2.extBut sb.extBut hne⟩ sb
 done:=λs Q E st hE=>z95 hh st.1 st.2 (by simp) hE
def Ite (K:K2) (t:Addr):It :=
 ⟨λi H=>∃xs x,SqT K H t xs/\xs[i]?=some x,
  λi H v H'=>∃T x,H T=none/\v=.ref T/\(∀xs,SqT K H t xs->xs[i]?=some x)/\H'=upd H T (.tup [.int i,x]),
  λi H=>∃xs,SqT K H t xs/\xs.length=i⟩
theorem z9k {P:K08}{w:World}{K:K2}{elts:List Expr}{kk:Nat}{pos:Pos}{e it t:Addr}(d1:e≠it) (d2:t≠it) (d3:e≠t) :
 Turn P w K (.Tuple elts kk pos) (Ite K t) [e,it] e (λi h=>(∃old,IsEnum h e it i old)/\h.IsTupleIter it t i) where
 mem:=by simp
 obj:=λi h st b hb=>by
  obtain⟨⟨old,ee⟩,o,ei,_,di⟩:=st;simp at hb;rcases hb with rfl|rfl
  ·exact⟨_,ee,λv q=>by cases q⟩
  ·exact⟨_,ei,λv q=>by rw[di]at q;cases q⟩
 keep:=λi h h' st k=>by
  obtain⟨⟨old,ee⟩,g⟩:=st;exact⟨⟨old,k e (by simp) _ ee⟩,g.at λo q=>k it (by simp) o q⟩
 item:=by
  intro X hP hw hK hc i pins s σ H E I hf st hg;subst hP hw hK;obtain⟨xs,x,q1,hx⟩:=hg;obtain⟨its,rv,pl,hz⟩:=I.tuple q1;obtain⟨u,hu,ru⟩:=rv.get hx;obtain⟨⟨old,ee⟩,g⟩:=st;have hi:i<its.toArray.size:=by
   have:=(K8.mp hu).1;simpa using this
  have pT:s.heap.IsTuple t its.toArray:=pl;refine wpAny_pyNext_enum_itemD (zh2 (by simp[I.ok.hd hc]) it t d2 its.toArray) ee ⟨g,pT⟩ hi d1 (by simp[d1,d3]) λy h' tk hy eo st' gT sz kp=>?_;have ey:y=u:=by
   have:its.toArray[i]?=some u:=by simpa using hu
   rw[hy]at this;exact K1h this
  subst ey;refine⟨_,rfl,wpAny_letOwnedTupleGo_enum eo λh2 eo2 sb=>?_⟩;have elt:e<s.heap.objs.size:=K02 ee;have ilt:it<s.heap.objs.size:=by obtain⟨o,q,_⟩:=g;exact K02 q
  have hT:IsTup0 h2 s.heap.objs.size [K9m i tk,y].toArray:=⟨_,(sb.2 _ (K26 elt)).trans gT,⟨rfl,rfl⟩,_,rfl⟩;have J:=zz1 (t:=tk+1) (ch:=[e,it]) (T:=s.heap.objs.size) (vs:=[.int i,x]) (its:=[.int i tk,y]) (h2:=h2) I hf
   (λb o hb q=>by simp at hb;exact(sb.2 b hb.1).trans (kp b o hb.1 hb.2 q)) (K03 _) hT (.cons ⟨tk,rfl⟩ (.cons ru .nil)) (by show 2<=sizeLine;decide)
  refine⟨.ref s.heap.objs.size,_,J,rfl,⟨_,x,I.hok.fresh (K03 _),rfl,λxs' h'=>by rw[I.tuple_inj h' q1];exact hx,rfl⟩,?_,λb hb=>?_⟩
  ·exact⟨⟨_,by simpa using eo2⟩,st'.1.at λo q=>(sb.2 _ (K5h d1)).trans q⟩
  ·have:b<s.heap.objs.size:=by
    simp at hb;rcases hb with rfl|rfl
    ·exact elt
    ·exact ilt
   rw[Y1 (K0e this)];exact(hf b hb).1
 done:=by
  intro X hP hw hK hc i pins s σ H E I hf st hg;subst hP hw hK;obtain⟨xs,q1,hl⟩:=hg;obtain⟨its,rv,pl,hz⟩:=I.tuple q1;obtain⟨⟨old,ee⟩,g⟩:=st;have l1:=rv.length;have pT:s.heap.IsTuple t its.toArray:=pl;have en:i=its.toArray.size:=by simp;omega
  refine wpAny_pyNext_enum_endD (zh2 (by simp[I.ok.hd hc]) it t d2 its.toArray) ee ⟨by rw[<- en];exact g,pT⟩ λh' eb=>⟨rfl,?_⟩;have hf':∀b∈[it],FpOk X pins H b:=λb hb=>hf b (by simp at hb;simp[hb]);refine I.step (g':=s.gens) (t':=s.toks) (d':=s.drawn) (ch:=[it]) (λb hb=>⟨(hf' b hb).2.2.2.1,(hf' b hb).2.1,(hf' b hb).2.2.2.2.1,(hf' b hb).2.2.2.2.2⟩) (λb o _ _ hc e _=>?_) (λb o _ _ hc e _=>⟨o.slots,?_⟩)
   (λ_ _ _ _ n=>n) (λb o hc e=>⟨o,?_⟩) (λ_ _ e=>e) (λ_ _ _ e=>e) (λb ps e=>⟨#[],by rw[e];simp⟩) (λm hm=>?_) (λb u e=>?_) I.bare
  ·simp at hc;exact eb b o hc e
  ·simp at hc;exact eb b o hc e
  ·simp at hc;exact eb b o hc e
  ·obtain⟨o,es,ep,q,r⟩:=hm;exact⟨o,es,ep,eb _ o (λy=>(hf' it (by simp)).2.1 y.symm) q,r⟩
  ·refine(I.hok b u e).stay (λc v hc q=>?_) (λ_ q=>q) λ_ _ q=>q;refine eb c v (λy=>?_) q;subst y;rcases hc with y|y
   ·rw[<- y,(hf' c (by simp)).1]at e;cases e
   ·rw[(hf' c (by simp)).1]at y;cases y
 self:=λ_ _ _ _ _ st h=>by
  obtain⟨⟨old,ee⟩,g⟩:=st;exact wpAny_pyIter_enum ee h
section
variable {X:Cx}{EX:XX}{a:Expr}{elts:List Expr}{kk:Nat}{p pos pt:Pos}{ma:G->M D}
def zz3 (K:K2) (ta:TA):TI:=λσ H R=>ta σ H λvs H2=>∃t xs,vs=[.ref t]/\SqT K H2 t xs/\R (Ite K t) H2
theorem zq6 {ta:TA}(hg:Gl X "enumerate") (hm:X.mg "enumerate" = none) (ha:PA X [a] ta) (hs:K05 [a] X.env=[(false,eval a X.env)]:=by rfl):PI X (.Tuple elts kk pt) (.Call (.Name "enumerate" p) [a] [] pos) (zz3 X.K ta):=by
 intro pins s σ H R I h;refine Call_ (z47 I hg hm boot_enumerate (K3i (thn (ha pos pins s σ H _ I h) λus s1 ⟨vs,H1,I1,r1,q1⟩=>?_) (by rw[hs];rfl) rfl));obtain⟨t,xs,e,q2,q⟩:=q1;subst e;obtain⟨u,rfl,ru⟩:=vals1 r1;cases ru;obtain⟨its,rv,pl,hz⟩:=I1.tuple q2;have pT:s1.heap.IsTuple t its.toArray:=pl;have lt:t<s1.heap.objs.size:=by obtain⟨o,e,_⟩:=pl;exact K02 e
 refine callType_new PySem.F.called_enumerate (by decide) (PySem.F.typeCall_enumerate_1 _) (PySem.F.newCall_enumerate_1 _) (λobj=>PySem.F.args_object_init_2 obj _) PySem.F.entry_enumerate_new (z9q t its.toArray) ⟨pT,?_⟩;have y1:(s1.heap.push { cls:=.type "tuple_iterator",data:=.fields #[.ref t,.int 0 0] }).objs.size=s1.heap.objs.size+1:=K18 ..;have x2:((s1.heap.push { cls:=.type "tuple_iterator",data:=.fields #[.ref t,.int 0 0] }).push { cls:=.type "enumerate",data:=.fields #[.none,.bool false,.ref s1.heap.objs.size,rawInt 0,.none,.none] }).get? (s1.heap.objs.size+1)=some { cls:=.type "enumerate",data:=.fields #[.none,.bool false,.ref s1.heap.objs.size,rawInt 0,.none,.none] }:=by rw[<- y1];exact K04 _ rfl
 have x1:((s1.heap.push { cls:=.type "tuple_iterator",data:=.fields #[.ref t,.int 0 0] }).push { cls:=.type "enumerate",data:=.fields #[.none,.bool false,.ref s1.heap.objs.size,rawInt 0,.none,.none] }).get? s1.heap.objs.size=some { cls:=.type "tuple_iterator",data:=.fields #[.ref t,.int 0 0] }:=K4 _ (K04 _ rfl);show _/\_;rw[y1];refine⟨⟨_,x2,rfl⟩,wpAny_pyIter_enum (e:=s1.heap.objs.size+1) (it:=s1.heap.objs.size) (i:=0) (old:=.none) x2 ?_⟩;refine⟨s1.heap.objs.size+1,_,_,_,H1,rfl,I1.kept (t':=s1.toks) (λc o q=>K4 _ (K4 _ q)),z9k (it:=s1.heap.objs.size) (t:=t) (K26 (K6m _)) (K0e lt) (K26 (K4x lt)),⟨⟨_,x2⟩,⟨_,x1,rfl,rfl⟩⟩,λb hb=>?_,q⟩;have hb':s1.heap.objs.size<=b:=by
  simp at hb;rcases hb with rfl|rfl
  ·exact K4d _
  ·exact K03 _
 exact I1.fpOk hb' (I1.hok.fresh hb')
def z3P (xs:List D):List D:=(K0o xs.length).map λ(i:Nat)=>.tup [.int i,(xs[i]?).getD .non]
def ze6 (ma:G->M D):G->M Src:=λγ=>do
 let l <- Z1 ma aNil γ
 match l with
 | [.tup xs]=>pure (.con (z3P xs))
 | _=>bad
theorem z7U {xs:List D}{i:Nat}{d:D}(h:(z3P xs)[i]?=some d):∃x,xs[i]?=some x/\d=.tup [.int i,x]:=by
 unfold z3P at h;rw[K00]at h;obtain⟨j,e1,e2⟩:=K09.mp h;obtain⟨h1,h2⟩:=K8.mp e1;simp at h1 h2;subst h2;rw[K7 h1]at e2;exact⟨_,K7 h1,e2.symm⟩
theorem zk4 (hc:X.calm=true) (hg:Gl X "enumerate") (hm:X.mg "enumerate" = none) (ha:SE X EX a ma) (hs:K05 [a] X.env=[(false,eval a X.env)]:=by rfl):SI X EX (.Tuple elts kk pt) (.Call (.Name "enumerate" p) [a] [] pos) (ze6 ma) :=
 ⟨PI.imp (zq6 hg hm (Z0 ha Z5 hs).h hs) λσ H R ⟨ρ,γ,h,rel,fin⟩=>⟨ρ,γ,h,rel,(Fin.bind fin).mono λl ρ1 h1 H1 p1 e1 r1 f1 vs rv=>by
  split at f1
  ·rename_i xs;simp only[RDs,RD]at rv;obtain⟨_,_,rfl,⟨t,us,rfl,q1,d1⟩,rfl⟩:=rv;refine⟨t,us,rfl,q1,f1 ρ1 H1 (Pre.refl _) (Ext.refl _ _) r1 _ λi ρ2 h4 H2 p2 e2 r2 _=>⟨λd hd=>?_,λhi=>?_⟩⟩
   ·have hd':(z3P xs)[i]?=some d:=hd;obtain⟨x,g1,rfl⟩:=z7U hd';obtain⟨v1,a1,b1⟩:=(d1.mono p2 e2).get g1;refine⟨⟨us,v1,e2.t _ _ q1,a1⟩,λv H3 ⟨T,x',n1,n2,n3,n5⟩=>?_⟩;have m1:=n3 us (e2.t _ _ q1);rw[a1]at m1;cases m1;subst n2;subst n5;have ext:Ext X.K H2 (L2.upd H2 T (.tup [.int i,v1])):=Ext.upd (.inl n1);refine⟨?_,r2.other n1,ext⟩;simp only[RD];exact⟨T,_,rfl,SqT.of z08,RDs.cons (by simp[RD]) (RDs.cons (b1.mono (Pre.refl _) ext) RDs.nil)⟩
   ·have hi':(z3P xs).length=i:=hi;unfold z3P at hi';rw[K6,K1w]at hi';have l1:=d1.length;exact⟨us,e2.t _ _ q1,by omega⟩
  ·exact(show False from f1).elim⟩⟩
end
section
variable {X:Cx}{EX:XX}{elt tg iter tg1 iter1:Expr}{ifs1:List Expr}{sc:Scope}{pos:Pos}{N':List Str}{cap:List (Option Nat)}{own own1:List Nat}{mi mi1:G->M Src}{g g1:D->G->M G}{k:G->M Bool}{me:G->M D}
end
end FT
namespace L2
theorem range_all {α:Type}(r:List α):(K0o r.length).filterMap (λm=>r[m]?)=r:=by
 have:=pick_run r.toArray 0 r.length;rw[K5j]at this;have e:((λx=>r.toArray[x]?) ∘ λx=>0+x)=λm=>r[m]?:=by funext m;simp
 rw[e]at this;rw[this];simp
theorem z6W {α β:Type}{f g:α->Option β}:∀{l:List α},(∀x∈l,f x=g x)->l.filterMap f=l.filterMap g
 | [],_=>rfl
 | a::l,h=>by
  rw[K24,K24,h a K0t,z6W λx hx=>h x (K0j _ hx)]
theorem z4c {α:Type}(l:List α) (f:Nat->Option α) (hf:∀m,m<l.length->f m=l[l.length - 1 - m]?):(K0o l.length).filterMap f=l.reverse:=by
 have:=range_all l.reverse;rw[K31]at this;rw[<- this];exact z6W λm hm=>by
  have hm':m<l.length:=by simpa using hm
  rw[hf m hm',List.getElem?_reverse hm']
theorem z89 (its:List Value):Z13 its.toArray none none (some (-1))=its.reverse.toArray:=by
 unfold Z13;have b:K3l none none (some (-1)) its.toArray.size=((its.length:Int) - 1,-1,-1):=by
  unfold K3l;rw[K9];rfl
 rw[b];unfold sliceRange;have c:(if (-1:Int) > 0 then (if (its.length:Int) - 1 < -1 then (-1 - ((its.length:Int) - 1)+-1 - 1) / -1 else 0) else if (its.length:Int) - 1 > -1 then ((its.length:Int) - 1 - -1 - -1 - 1) / - -1 else 0).toNat=its.length:=by
  rw[if_neg (by decide)];by_cases h:(its.length:Int) - 1 > -1
  ·rw[if_pos h];have:((its.length:Int) - 1 - -1 - -1 - 1) / - -1=its.length:=by
    rw[show (- -1:Int)=1 from rfl,Z0n];omega
   rw[this,K0x]
  ·rw[if_neg h];omega
 dsimp only;rw[c,K5j];congr 1;refine z4c its _ λm hm=>?_;have:((its.length:Int) - 1+-1 * (m:Int)).toNat=its.length - 1 - m:=by omega
 show its.toArray[((its.length:Int) - 1+-1 * (m:Int)).toNat]?=_;rw[this];simp
section
variable {prog:K08}{w:World}{A:Around}{E:Value->Shared->Prop}{s:Shared}
theorem z4P {sl:Addr}{t:Tok}{n:Nat}{Q:Int×Int×Nat->Shared->Prop}(hs:s.heap.IsSliceOf sl .none .none (.int (-1) t))
 (h:Q ((n:Int) - 1,-1,n) s):wpAny (model prog w) A (K3p (.ref sl) (pure (n:Int))) Q E s:=by
 obtain⟨os,h1,h2,h3⟩:=id hs;unfold K3p K7k;refine K0 (K0 (K1k h1 h3 (x:=.none) rfl (K0 (K1k h1 h3 (x:=.none) rfl (K0 (K1k h1 h3 (x:=.int (-1) t) rfl (K5 ?_)))))));refine K0 (slicePart_int ?_);show wpAny _ _ (if ((-1:Int)==0)=true then _ else _) _ _ s;rw[if_neg (by decide)];refine K0 (K7g (K0 (K7g (K0 (K5 ?_)))));have e1:K34 none none (-1) (n:Int)=((n:Int) - 1,-1):=rfl;have e2:K1n ((n:Int) - 1) (-1) (-1)=n:=by
  unfold K1n;rw[if_neg (by decide)];by_cases h:(n:Int) - 1 > -1
  ·rw[if_pos h,show (-(-1):Int)=1 from rfl,Z0n];omega
  ·rw[if_neg h];omega
 show wpAny _ _ (match K34 none none (-1) (n:Int) with|(lo,hi)=>pure (lo,(-1:Int),K1n lo hi (-1))) _ _ s;rw[e1];show wpAny _ _ (pure ((n:Int) - 1,(-1:Int),K1n ((n:Int) - 1) (-1) (-1))) _ _ s;rw[e2];exact K5 h
theorem z7A {t sl:Addr}{items:Array Value}{k:Tok}{Q:Value->Shared->Prop}(ht:IsTup s.heap t items) (hs:s.heap.IsSliceOf sl .none .none (.int (-1) k))
 (h:Q (.ref s.heap.objs.size) { s with heap:=s.heap.push { cls:=.type "tuple",data:=.seq items.toList.reverse.toArray } }) (hsz:items.size<=sizeLine):wpAny (model prog w) A (K5i (.ref t) (.ref sl)) Q E s:=by
 have fits:sizeOk (.seq items.toList.reverse.toArray):=by
  show items.toList.reverse.toArray.size<=sizeLine;rw[K9,K31,K15];exact hsz
 obtain⟨os,h1,h2,h3⟩:=id hs;have hT:s.TypeIs (.ref sl) "slice":=⟨os,h1,h2⟩;unfold K5i
 try with_reducible refine K1s ?_
 first|refine K0 (K5 ?_)|skip
 refine K0 (K67 ht.typeIs (by decide) (K0 (K1a (name:=K2n "__getitem__") ht.typeIs K13 (K1g K13 ht.typeIs K72 ?_ (K7i _ _)))));show wpAny _ _ (K50 (.ref t) >>= _) _ _ s;refine K0 (K9w ht (K0 (K42 hT ?_)));rw[if_pos (by decide)];refine K0 (z4P hs ?_);show wpAny _ _ (if (((items.size:Int) - 1)==0&&(-1:Int)==1&&items.size==items.size)=true then _ else _) _ _ s;have no:¬ ((((items.size:Int) - 1)==0&&(-1:Int)==1&&items.size==items.size)=true):=by
  rw[show ((-1:Int)==1)=false from rfl,Bool.and_false,Z1t];exact K0u
 have e:((K0o items.size).filterMap λ(m:Nat)=>items[((items.size:Int) - 1+(m:Int) * -1).toNat]?).toArray=items.toList.reverse.toArray:=by
  congr 1;have:=z4c items.toList (λ(m:Nat)=>items[((items.size:Int) - 1+(m:Int) * -1).toNat]?) λm hm=>by
   rw[K15]at hm ⊢;have:((items.size:Int) - 1+(m:Int) * -1).toNat=items.size - 1 - m:=by omega
   rw[this,K35]
  rw[K15]at this;exact this
 rw[if_neg no,e]
 first
  | exact K0 (m:=K1r _) (K16 (K5 ⟨_,rfl,K5 h⟩) fits)
  | exact K0 (m:=K1r _) (K16 (K0 (K5 (K5 ⟨_,rfl,K5 h⟩))) fits)
  | exact K0 (K0 (m:=K1r _) (K16 (K5 (K5 ⟨_,rfl,K5 h⟩)) fits))
  | exact K0 (K0 (m:=K1r _) (K16 (K5 ⟨_,rfl,K5 h⟩) fits))
end
section
variable {X:Cx}{e st:Expr}{te ts:TE}{pos p2:Pos}
def RvR (X:Cx) (r:V->Hp->VK->Prop):Prop :=
 ∀(pins:List (Addr×Obj)) (s:Shared) (σ:St) (H:Hp) (x:V) (v:Value) (t:Tok) (sl:Addr) (Q:VK),Inv X pins σ H s->RelV x v->s.heap.IsSliceOf sl .none .none (.int (-1) t)->r x H Q ->
  ∃T id,K8o (.type T) "__getitem__" = pure (some (.builtin id))/\s.TypeIs v T/\wpAny (model X.prog X.w) X.A (K5i v (.ref sl)) (EP X pins σ Q) X.xe s
def tRv (r:V->Hp->VK->Prop) (te ts:TE):TE:=λσ H Q=>te σ H λx H1=>ts σ H1 λy H2=>y=.int (-1)/\r x H2 Q
theorem zE5 {r:V->Hp->VK->Prop}(hr:RvR X r) (he:PE X e te) (hs:PE X st ts):PE X (.Subscript e (.Slice none none (some st) p2) pos) (tRv r te ts):=by
 intro pins s σ H Q I h;refine Z08 (thn (he pins s σ H _ I h) λv s1 ⟨x,H1,I1,r1,q1⟩=>?_);refine wpAny_Slice ?_;rw[K9z];refine K5 (K5 ?_);rw[evalPart_some];refine thn (hs pins s1 σ H1 _ I1 q1) λu s3 ⟨y,H3,I3,r3,q3⟩=>?_;obtain⟨rfl,q⟩:=q3;obtain⟨t,rfl⟩:=r3;have I4:Inv X pins σ H3 { s3 with heap:=s3.heap.push { cls:=.type "slice",data:=.fields #[.none,.none,.int (-1) t] } }:=I3.kept (t':=s3.toks) λb ob q=>K4 _ q;obtain⟨T,id,hT,ht,hg⟩:=hr pins _ σ H3 x v t s3.heap.objs.size Q I4 r1 (Z00 ..) q;show wpAny (model X.prog X.w) X.A (K83 e (.Slice none none (some st) p2) v (.ref s3.heap.objs.size)) (EP X pins σ Q) X.xe { s3 with heap:=s3.heap.push { cls:=.type "slice",data:=.fields #[.none,.none,.int (-1) t] } };exact tail_any (ops:=[v,.ref s3.heap.objs.size]) ht hT hg (by with_unfolding_all rfl)
theorem RvR.or {r r':V->Hp->VK->Prop}(h:RvR X r) (h':RvR X r'):RvR X (λx H Q=>r x H Q\/r' x H Q):=by
 intro pins s σ H x v t sl Q I rx hs q;rcases q with q|q
 ·exact h pins s σ H x v t sl Q I rx hs q
 ·exact h' pins s σ H x v t sl Q I rx hs q
def rRvL (K:K2):V->Hp->VK->Prop:=λx H Q=>∃a xs,x=.ref a/\SqL K H a xs/\∀p,H p=none->Q (.ref p) (upd H p (.lst xs.reverse))
def rRvT (K:K2):V->Hp->VK->Prop:=λx H Q=>∃a xs,x=.ref a/\SqT K H a xs/\∀p,H p=none->Q (.ref p) (upd H p (.tup xs.reverse))
theorem rv_list:RvR X (rRvL X.K):=by
 intro pins s σ H x v t sl Q I rx hs h;obtain⟨a,xs,rfl,hx,q⟩:=h;cases rx;obtain⟨its,r,ht,hz⟩:=I.list hx;have hlen:=r.length;refine⟨"list",_,K7p.lookup,ht.isList.typeIs,?_⟩;refine K84 ht.isList hs .none .none (.int (-1) t) (by simp) ?_ (by rw[K9]<;>omega);rw[z89];refine⟨.ref s.heap.objs.size,_,I.laid (t':=s.toks) (o:=.lst xs.reverse) (λb ob q=>K4 _ q) (K03 _) ?_,rfl,q _ (I.hok.fresh (K03 _))⟩;exact⟨by rw[K31];exact hz,_,0,r.reverse,K04 _ rfl⟩
theorem zK4:RvR X (rRvT X.K):=by
 intro pins s σ H x v t sl Q I rx hs h;obtain⟨a,xs,rfl,hx,q⟩:=h;cases rx;obtain⟨its,r,ht,hz⟩:=I.tuple hx;have hlen:its.toArray.size=xs.length:=by rw[K9];exact r.length.symm
 refine⟨"tuple",_,K13.lookup,ht.typeIs,?_⟩;refine z7A ht hs ?_ (by rw[hlen];exact hz);refine⟨.ref s.heap.objs.size,_,I.laid (t':=s.toks) (o:=.tup xs.reverse) (λb ob q=>K4 _ q) (K03 _) ?_,rfl,q _ (I.hok.fresh (K03 _))⟩;exact⟨by rw[K31];exact hz,_,r.reverse,FT.IsTup0.new _ _⟩
end
end L2
namespace FT
theorem RDs.reverse {K:K2}{ρ:List Addr}{H:Hp}:∀{ds:List D}{vs:List V},RDs K ρ H ds vs->RDs K ρ H ds.reverse vs.reverse
 | [],vs,h=>by
  simp only[RDs]at h;subst h;exact RDs.nil
 | d::ds,vs,h=>by
  simp only[RDs]at h;obtain⟨x,r,rfl,h2,h3⟩:=h;rw[K62,K62];exact(RDs.reverse h3).append (RDs.cons h2 RDs.nil)
theorem rds2 {K:K2}{ρ:List Addr}{H:Hp}{d d':D}{vs:List V}(h:RDs K ρ H [d,d'] vs):∃v v',vs=[v,v']/\RD K ρ H d v/\RD K ρ H d' v':=by
 simp only[RDs]at h;obtain⟨x,r,rfl,h2,y,q,rfl,h3,rfl⟩:=h;exact⟨x,y,rfl,h2,h3⟩
def fRev:D->M D
 | .tup xs=>pure (.tup xs.reverse)
 | .fl xs=>newL xs.reverse
 | .ref n=>do
  let xs <- getL n
  newL xs.reverse
 | _=>bad
def eRev (ma ms:G->M D):G->M D:=λγ=>do
 let x <- ma γ;let y <- ms γ
 match y with
 | .int i=>if i=-1 then fRev x else bad
 | _=>bad
def eNeg (ma:G->M D):G->M D:=λγ=>do
 let x <- ma γ
 match x with
 | .int i=>pure (.int (-i))
 | _=>bad
def fMin:List D->M D
 | [.int i,.int j]=>pure (.int (if j<i then j else i))
 | _=>bad
def fInt:List D->M D
 | [.int i]=>pure (.int i)
 | [.bl b]=>pure (.int (if b then 1 else 0))
 | _=>bad
section
variable {X:Cx}{EX:XX}{a b st:Expr}{pos p p2:Pos}{ma ms:G->M D}{mr:G->M (List D)}
theorem zl8 {ρ:List Addr}{h:AH}{H:Hp}{x:D}{v:V}{Q:VK}(r:RH X.K ρ h H) (rx:RD X.K ρ H x v) (fin:FE X.K EX ρ H Q (fRev x h)):rRvL X.K v H Q\/rRvT X.K v H Q:=by
 cases x<;>first|exact(show False from fin).elim|skip
 case tup xs =>
  simp only[RD]at rx;obtain⟨q,vs,rfl,h1,h2⟩:=rx;have fin':FE X.K EX ρ H Q (.ok (.tup xs.reverse) h):=fin;exact .inr ⟨q,vs,rfl,h1,λp hp=>FE.tup fin' r h2.reverse hp⟩
 case fl xs =>
  simp only[RD]at rx;obtain⟨q,vs,rfl,h1,h2⟩:=rx;have fin':FE X.K EX ρ H Q (newL xs.reverse h):=fin;unfold newL at fin';split at fin'
  ·exact .inl ⟨q,vs,rfl,h1.sq,λp hp=>FE.lst fin' r h2.reverse hp⟩
  ·exact fin'.elim
 case ref n =>
  simp only[RD]at rx;obtain⟨q,rfl,h1⟩:=rx;have fin':FE X.K EX ρ H Q ((getL n >>= λxs=>newL xs.reverse) h):=fin;have f1:=Fin.bind fin';cases e:getL n h with
  | bad=>rw[e]at f1;exact f1.elim
  | err z hz=>exact(z0M e).elim
  | ok xs h2 =>
   obtain⟨rfl,q1⟩:=z0N e;rw[e]at f1;have f2:=f1 ρ H (Pre.refl _) (Ext.refl _ _) r;dsimp only at f2;unfold newL at f2;split at f2
   ·obtain⟨a1,n1,vs,o1,d1⟩:=r.at q1;rw[h1]at n1;cases n1;exact .inl ⟨q,vs,rfl,SqL.of o1,λp hp=>FE.lst f2 r d1.reverse hp⟩
   ·exact f2.elim
theorem zM2 (ha:SE X EX a ma) (hs:SE X EX st ms):SE X EX (.Subscript a (.Slice none none (some st) p2) pos) (eRev ma ms) :=
 ⟨PE.imp (zE5 (rv_list.or zK4) ha.h hs.h) λσ H Q ⟨ρ,γ,h,rel,fin⟩=>⟨ρ,γ,h,rel,(Fin.bind fin).mono λx ρ1 h1 H1 p1 e1 r1 f1 v rv=>⟨ρ1,γ,h1,⟨rel.g.mono p1 e1,r1⟩,(Fin.bind f1).mono λy ρ2 h2 H2 p2 e2 r2 f2 u ru=>by
  cases y<;>first|exact(show False from f2).elim|skip
  rename_i i;simp only[RD]at ru;subst ru;dsimp only at f2;split at f2
  ·rename_i hi;subst hi;exact⟨rfl,zl8 r2 (rv.mono p2 e2) f2⟩
  ·exact f2.elim⟩⟩⟩
theorem z5i (ha:SE X EX a ma):SE X EX (.UnaryOp .USub a pos) (eNeg ma) :=
 ⟨PE.imp (zP9 zA3 ha.h) λσ H Q ⟨ρ,γ,h,rel,fin⟩=>⟨ρ,γ,h,rel,(Fin.bind fin).mono λx ρ1 h1 H1 p1 e1 r1 f1 v rv=>by
  cases x<;>first|exact(show False from f1).elim|skip
  rename_i t;simp only[RD]at rv;exact⟨t,rv,FE.here (d:=.int (-t)) (h:=h1) (ρ:=ρ1) f1 r1 (by simp[RD])⟩⟩⟩
theorem zz5:AR X.K EX (λxs H Q=>∃i j,xs=[.int i,.int j]/\Q (.int (if j<i then j else i)) H) fMin:=by
 intro ρ h H ds vs Q r rd fin;unfold fMin at fin;split at fin
 ·obtain⟨v,u,rfl,rv,ru⟩:=rds2 rd;simp only[RD]at rv ru;subst rv;subst ru;exact⟨_,_,rfl,FE.here fin r (by simp[RD])⟩
 ·exact fin.elim
theorem zL2:AR X.K EX (λxs H Q=>(∃i,xs=[.int i]/\Q (.int i) H)\/∃k,xs=[.bl k]/\Q (.int (if k then 1 else 0)) H) fInt:=by
 intro ρ h H ds vs Q r rd fin;unfold fInt at fin;split at fin
 ·obtain⟨v,rfl,rv⟩:=rds1 rd;simp only[RD]at rv;subst rv;exact .inl ⟨_,rfl,FE.here fin r (by simp[RD])⟩
 ·obtain⟨v,rfl,rv⟩:=rds1 rd;simp only[RD]at rv;subst rv;exact .inr ⟨_,rfl,FE.here fin r (by simp[RD])⟩
 ·exact fin.elim
theorem zL9 (hc:X.calm=true) (hg:Gl X "min") (hm:X.mg "min" = none) (ha:SA X EX [a,b] mr) (he:K05 [a,b] X.env=(false,eval a X.env)::K05 [b] X.env:=by rfl) (hpl:(backTo pos (K05 [b] X.env)).any (·.1)=false:=by rfl):SE X EX (.Call (.Name "min" p) [a,b] [] pos) (j7 fMin mr) :=
 z10 (z1G (z8j hc) hg hm (by decide +kernel) ha.h (by decide) (by decide) he hpl) zz5
theorem z6Z (hg:Gl X "int") (hm:X.mg "int" = none) (ha:SA X EX [a] mr) (he:K05 [a] X.env=[(false,eval a X.env)]:=by rfl):SE X EX (.Call (.Name "int" p) [a] [] pos) (j7 fInt mr) :=
 z10 (z1Y z83 hg hm (by decide +kernel) ha.h (by decide) (by decide) he rfl) zL2
end
end FT
namespace L2
structure Fly (base:Heap) (l:List Env) (e T:Addr) (cls:Value) (h:Heap):Prop where
 stays:base.StaysIn h
 ne:base.get? e=none
 nT:base.get? T=none
 fr:h.FunFrames base l
 tr:∃a0 oe vs oT ts,h.get? e=some oe/\(oe.cls=cls/\vs[0]?=some a0)/\oe.data=.fields vs/\vs[1]?=.(r T)/\T≠e/\h.get? T=some oT/\oT.data=.fields ts/\ts[3]?=some .none
theorem Fly.of {base:Heap}{l:List Env}{e:Addr}{cls a0:Value}{h:Heap}(x:Heap.FlyingW base l e cls a0 h):∃T,Fly base l e T cls h:=by
 obtain⟨f1,f2,f3,oe,vs,T,oT,ts,a1,a2,a3,a4,a5,a6,a7,a8,a9⟩:=x;exact⟨T,f1,f2,a5,f3,a0,oe,vs,oT,ts,a1,a2,a3,a4,a6,a7,a8,a9⟩
def bigB (h:Heap) (l:List Env) (e T:Addr):Heap:=K92 h (frs l++[e,T])
theorem zq4 {h:Heap}{l:List Env}{e T b:Addr}{o:Obj}(q:(bigB h l e T).get? b=some o):h.get? b=some o:=Z04 _ q
theorem z56 {h:Heap}{l:List Env}{e T b:Addr}(z:b∈frs l\/b=e\/b=T):(bigB h l e T).get? b=none :=
 K6p _ (K0p.mpr (by
  rcases z with z|rfl|rfl
  ·exact .inl z
  ·exact .inr (by simp)
  ·exact .inr (by simp)))
theorem z7F {base h:Heap}{as:List Addr}:∀{l:List Env},h.FunFrames base l->(∀b∈frs l,b∈as)->h.FunFrames (K92 h as) l
 | [],_,_=>trivial
 | env::r,⟨hk,⟨L,o,hf,_,ho,hd⟩,hr⟩,hin=>⟨hk,⟨L,o,hf,K6p _ (hin L (by unfold frs;rw[K24,hf];exact K0t)),ho,hd⟩,
  z7F hr λb hb=>hin b (by unfold frs at hb ⊢;rw[K24];cases env.frame with|none=>exact hb|some x=>exact K0j _ hb)⟩
theorem Fly.big {base:Heap}{l:List Env}{e T:Addr}{cls:Value}{h:Heap}(x:Fly base l e T cls h):∃a0,Heap.FlyingW (bigB h l e T) l e cls a0 h:=by
 obtain⟨a0,oe,vs,oT,ts,a1,a2,a3,a4,a6,a7,a8,a9⟩:=x.tr;exact⟨a0,λb o q=>zq4 q,z56 (.inr (.inl rfl)),z7F x.fr λb hb=>K2q _ hb,oe,vs,T,oT,ts,a1,a2,a3,a4,z56 (.inr (.inr rfl)),a6,a7,a8,a9⟩
structure Kept (l:List Env) (e T:Addr) (h h':Heap):Prop where
 keep:∀b o,h.get? b=some o->b∉frs l->b≠e->b≠T->h'.get? b=some o
 slot:∀b o,h.get? b=some o->b∈frs l->∃sl,h'.get? b=some { o with slots:=sl }
section
variable {M:Model}{A:Around}{E:Value->Shared->Prop}{s:Shared}{base:Heap}{env:Env}{outer:List Env}{L e T:Addr}{cls:Value}{Q:Unit->Shared->Prop}
end
section
variable {X:Cx}{pins:List (Addr×Obj)}{σ:List (Option V)}{H H':Hp}{s:Shared}{h':Heap}
theorem ObjOk.there {P:K08}{w:World}{h:Heap}{a:Addr}{o:HO}(x:ObjOk P w H h a o):∃u,h.get? a=some u:=by
 cases o with
 | lst xs=>obtain⟨_,_,_,_,e⟩:=x;exact⟨_,e⟩
 | tup xs=>obtain⟨_,_,_,u,e,_⟩:=x;exact⟨_,e⟩
 | dK kvs=>obtain⟨_,_,_,_,u,_,_,e,_⟩:=x;exact⟨_,e⟩
 | dT kvs=>obtain⟨_,_,_,_,u,_,_,e,_⟩:=x;exact⟨_,e⟩
 | set ks=>obtain⟨u,_,_,_,_,e,_⟩:=x;exact⟨_,e⟩
 | ins C dx fs=>obtain⟨_,_,_,e,_⟩:=x;exact⟨_,e⟩
 | own y=>obtain⟨_,e⟩:=x;exact⟨_,e⟩
 | xd fs=>obtain⟨_,⟨_,_,_,e,_⟩,_⟩:=x;exact⟨_,e⟩
 | rng lo hi=>obtain⟨_,_,_,e⟩:=x;exact⟨_,e⟩
 | frz ob u=>obtain⟨e,_⟩:=x;exact⟨_,e⟩
 | tbl ps=>exact⟨_,(show h.get? a=some _ from x)⟩
 | met f y=>exact⟨_,(show h.get? a=some _ from x)⟩
 | ext φ=>obtain⟨_,⟨_,e⟩,_⟩:=x;exact⟨_,e⟩
theorem HOk.none {P:K08}{w:World}{h:Heap}{a:Addr}(x:HOk P w H h) (e:h.get? a=.none):H a=.none:=by
 cases q:H a with
 | none=>rfl
 | some u=>obtain⟨o,z⟩:=(x a u q).there;rw[e]at z;cases z
theorem HOk.trk {P:K08}{w:World}{h h':Heap}(x:HOk P w H h) (k:∀b u o,H b=some u->h.get? b=some o->h'.get? b=some o):HOk P w H h':=λa o e =>
 (x a o e).stay (λb u hb q=>by
  rcases hb with rfl|hb
  ·exact k _ _ _ e q
  ·exact k _ _ _ hb q) (λ_ q=>q) λ_ _ q=>q
end
def CXE (P:K08) (w:World) (base:Heap):CXT:=λouter H s E e s'=>∃a T C H',e=.ref a/\Fly base outer a T (.ref C) s'.heap/\s.heap.get? a=none/\s.heap.get? T=none/\H' a=none/\H' T=none/\s'.os=s.os/\K76 s'.gens /\
 Un (frs outer) [] H H' s.heap s'.heap/\HOk P w H' s'.heap/\E (.ref C) none H'
section
variable {M:Model}{A:Around}{E:Value->Shared->Prop}{h:Heap}{g:Array K6r}{d:Drawn}{t:Nat}{os:OsState}{C Ch e:Addr}{oe:Obj}{b:Bool}{Q:Bool->Shared->Prop}
 {nm q:Str} {N:Addr} {bs bm:List Value} {hdct:Bool} {sn:List Str} {sub:List Value} {ab:Bool} {col:Option Bool} {dd:Option Addr} {k0 k1 k2 k3 k5:Option Value} {newId:String}
 {nm' q':Str} {N':Addr} {bs' bm':List Value} {hdct':Bool} {sn':List Str} {sub':List Value} {ab':Bool} {col':Option Bool} {dd':Option Addr} {k0' k1' k2' k3' k5':Option Value} {newId':String}
end
section
variable {X:Cx}{pins:List (Addr×Obj)}{σ:St}{H:Hp}{s:Shared}{e:Value}
end
structure Clss (K:K2) (C:Addr) (bm:List Value):Prop where
 ex:∃nm q N bs hdct sn sub ab col dd k0 k1 k2 k3 k5 newId,K.lookup C=some (excClassObj nm q C N bs bm hdct sn sub ab col dd k0 k1 k2 k3 k5 newId)
section
variable {X:Cx}{pins:List (Addr×Obj)}{σ:St}{H1:Hp}{s1 s':Shared}{e:Value}{E:XK}{cn n:Str}{Ch:Addr}{bmH:List Value}{np hpos:Pos}{b₀:Stmt}{suite:List Stmt}{EE:Value->Shared->Prop}{D:Ends}{ts:TS}
end
def zj1:List Str:=["__getattribute__","__getattr__","__class__"]
inductive Tail3 (h:Heap) (bmB:List Value):List Value->Prop
 | base:Tail3 h bmB bmB
 | own {A:Addr} {c0:Value} {dd:Option Addr} {cd:ClassData} {sl:Array (Option Value)} {mA:Str->Option Value} {tl:List Value}:h.get? A=some { cls:=c0,dict:=dd,data:=.cls cd,slots:=sl }->h.Ns cd.ns mA->(∀n∈zj1,mA n=none)->Tail3 h bmB tl->Tail3 h bmB (.ref A::tl)
theorem Tail3.has {h:Heap}{bmB tl:List Value}(T:Tail3 h bmB tl) {x:String}{b:Bool}(e:bmB.contains (.type x)=b):tl.contains (.type x)=b:=by
 induction T with
 | base=>exact e
 | own _ _ _ _ ih=>rw[List.contains_cons,ih];rfl
section
variable {M:Model}{A:Around}{E:Value->Shared->Prop}{h:Heap}{g:Array K6r}{d:Drawn}{t:Nat}{os:OsState}
structure Ex3 (h:Heap) (C:Addr) (B:String) (bmB:List Value):Prop where
 ex:∃nm q N bs bm hdct sn sub ab col dd k0 k1 k2 k3 k5 newId mN,h.get? C=some (excClassObj nm q C N bs bm hdct sn sub ab col dd k0 k1 k2 k3 k5 newId)/\h.Ns N mN/\(∀n∈zj1,mN n=none)/\Tail3 h bmB bm
end
abbrev bmV:List Value:=[.type "ValueError",.type "Exception",.type "BaseException",.type "object"]
section
variable {prog:K08}{w:World}{A:Around}{E:Value->Shared->Prop}{h:Heap}{g:Array K6r}{d:Drawn}{t:Nat}{os:OsState}{a C:Addr}{o:Obj}
end
section
variable {X:Cx}{x:Str}{C:Addr}{bm:List Value}{B newId initId:String}{e₀:Expr}{rest:List Expr}{t:TA}{np cpos pos:Pos}{R:Hp->Prop}
end
section
variable {X:Cx}{CX:CXT}{k:Nat}{f:Addr}{fd:K2k}{ps:List Str}{sp:Sp}{E:XK}{x:Str}{p pos:Pos}{e:Expr}{es:List Expr}{t:TA}{EE:Value->Shared->Prop}{Q:VK}{pins:List (Addr×Obj)}{σ:St}{H:Hp}{s:Shared}
theorem PA.quiet (h:PA X.nox (e::es) t) (pos:Pos) (I:Inv X pins σ H s) {Q:List V->Hp->Prop}(q:t σ H Q):wpAny (model X.prog X.w) X.A (spliced (backTo pos (K05 (e::es) X.env))) (AP X pins σ Q) EE s :=
 K37 (h pos pins s σ H Q (I.wish _) q) (λ_ _ ⟨vs,H',I',r,q⟩=>⟨vs,H',I'.unwish,r,q⟩) λ_ _ z=>K27 z
end
section
variable {X:Cx}{k:Nat}{f Ch:Addr}{fd:K2k}{ps:List Str}{sp:Sp}{x cn y:Str}{i:Nat}{p pos pos1 pos2 py np hpos:Pos}{e:Expr}{es:List Expr}{t:TA}{bmH:List Value}{b₀:Stmt}{suite:List Stmt}{ts:TS}
end
section
variable {X:Cx}{pins:List (Addr×Obj)}{σ:St}{H:Hp}{s:Shared}
end
section
variable {X:Cx}{pins:List (Addr×Obj)}{σ:St}{H1:Hp}{s1 s':Shared}{e:Value}{E:XK}{cn n:Str}{i:Nat}{Ch:Addr}{bmH:List Value}{np hpos:Pos}{b₀:Stmt}{suite:List Stmt}{EE:Value->Shared->Prop}{D:Ends}{ts:TS}
end
section
variable {X:Cx}{k:Nat}{f Ch:Addr}{fd:K2k}{ps:List Str}{sp:Sp}{x cn n:Str}{i:Nat}{p pos pos1 pos2 np hpos:Pos}{e:Expr}{es:List Expr}{t:TA}{bmH:List Value}{b₀:Stmt}{suite:List Stmt}{ts:TS}
end
structure K3 (K:K2) (mg:Str->Option Value) (c:Str) (C:Addr) (bm:List Value):Prop where
 ns:K25 K K1q c=some (.(r C))
 gl:mg c=.(r C)
 cl:Clss K C bm
 obj:∃o cd,K.lookup C=some o/\o.data=.cls cd
 ex:∀h,K.In h->Ex3 h C "ValueError" bmV
 own:∀h,K.In h->OwnCls c C bmV "ValueError.__new__" mg h
 base:bm.contains (.type "BaseException")=true
 up:∀h,K.In h->Tail3 h bmV (.ref C::bm)/\OwnTail h bmV (.ref C::bm)
end L2
namespace FT
section
variable {X:Cx}{EX:XX}{e c:Expr}{es:List Expr}{st:Stmt}{sts:List Stmt}{me:G->M D}{k:G->M Bool}{mr:G->M (List D)}{ms:G->M Out}
theorem PS.nox {t:TS}(h:L2.PS X.nox st t):L2.PS X st t:=λpins s σ H D I hw =>
 K37 (h pins s σ H D (I.wish _) hw) (λ_ _ q=>q.unwish) λ_ _ z=>K27 z
end
def EXof (K:K2) (E:XK):XX:=λx _ _ H'=>∀C,K25 K K1q x.cls=some (.(r C))->E (.ref C) none H'
section
variable {P:K08}{w:World}{K:K2}{mg:Str->Option Value}{base:Heap}{N:List Str}{qual c:Str}{scope:Scope}{f C:Addr}{cd:Value}{A:Around}{outer:List Env}{s:Shared}{H:Hp}{E:XK}{bm:List Value}
 {e₀:Expr} {rest:List Expr} {mr:G->M (List D)} {np cpos pos:Pos}
end
def spX (K:K2) (mf:List D->M D) (n:Nat):Sp:=λvs H Q E=>vs.length=n/\∃ρ ds h,RH K ρ h H/\RDs K ρ H ds vs/\FE K (EXof K E) ρ H Q (mf ds h)
structure FnX (P:K08) (w:World) (K:K2) (mg:Str->Option Value) (base:Heap) (k:Nat) (x:Str) (n:Nat) (mf:List D->M D):Prop where
 ex:∃f fd ps,FnOk P w K mg base (CXE P w base) k f fd ps (spX K mf n)/\Binds K fd ps []/\K1z K (.ref f)=true/\mg x=.(r f)
section
variable {X:Cx}{k n i:Nat}{x cn y:Str}{Ch:Addr}{bmH:List Value}{mf:List D->M D}{mr:G->M (List D)}{ok:Str->Bool}{ms:G->M Out}{e:Expr}{es:List Expr}{b₀:Stmt}{suite:List Stmt}{p pos pos1 pos2 py np hpos:Pos}
end
end FT
namespace L2
section
variable {X:Cx}
end
section
variable {X:Cx}
end
end L2
namespace FT
section
variable {X:Cx}{EX:XX}{a:Expr}{p p2 pos:Pos}{ma:G->M D}{k:Str->Option Bool}
end
theorem zo0 {P:K08}{w:World}{K:K2}{mg:Str->Option Value}{base:Heap}{x:Str}{st:Stmt}{f:Addr}{fd:K2k}{ps:List Str}{k n:Nat}(F:Fun K x x st f fd) (hb:Binds K fd ps []) (mx:mg x=.(r f)) (hn:ps.length=n):Fn P w K mg base k x n (λ_=>bad) :=
 ⟨f,fd,ps,⟨λvs H Q E h=>h.1.trans hn.symm,λA outer s H args us vs Q E _ _ _ _ h=>by
  obtain⟨_,ρ,ds,hh,_,_,fin⟩:=h;exact(show False from fin).elim⟩,hb,F.kp,mx⟩
section
variable {X:Cx}{EX:XX}
end
section
variable {X:Cx}{EX:XX}{a:Expr}{p p2 pos:Pos}{ma:G->M D}{k:Str->Option Bool}
end
variable {α β:Type}
def W (m:M α) (h:AH) (Q:α->AH->Prop):Prop:=∃a h',m h=.ok a h'/\Q a h'
theorem j3 {m:M α}{f:α->M β}{h:AH}{Q:β->AH->Prop}:W (m >>= f) h Q↔W m h λa h1=>W (f a) h1 Q:=by
 constructor
 ·rintro⟨b,h2,e,q⟩;rw[bindM]at e;cases em:m h with
  | ok a h1=>rw[em]at e;exact⟨a,h1,em,b,h2,e,q⟩
  | err x h1=>rw[em]at e;cases e
  | bad=>rw[em]at e;cases e
 ·rintro⟨a,h1,e,b,h2,e',q⟩;exact⟨b,h2,by rw[M.bind_ok e,e'],q⟩
theorem W_pure {a:α}{h:AH}{Q:α->AH->Prop}:W (K9n a:M α) h Q↔Q a h:=by
 constructor
 ·rintro⟨b,h2,e,q⟩;cases e;exact q
 ·exact λq=>⟨a,h,rfl,q⟩
theorem z0T {h:AH}{Q:α->AH->Prop}:W (bad:M α) h Q↔False:=by
 constructor
 ·rintro⟨b,h2,e,q⟩;cases e
 ·exact K27
theorem z0O {c:Prop} [Decidable c] {m n:M α}{h:AH}{Q:α->AH->Prop}:W (if c then m else n) h Q↔if c then W m h Q else W n h Q:=by
 split<;>exact Iff.rfl
theorem W.mono {m:M α}{h:AH}{Q Q':α->AH->Prop}(z:W m h Q) (f:∀a h',Q a h'->Q' a h'):W m h Q':=let ⟨a,h',e,q⟩:=z;⟨a,h',e,f a h' q⟩
theorem W.of {m:M α}{h h':AH}{a:α}{Q:α->AH->Prop}(e:m h=.ok a h') (q:Q a h'):W m h Q:=⟨a,h',e,q⟩
theorem z7e {γ:G}{h:AH}{Q:Out->AH->Prop}:W (bNil γ) h Q↔Q (.nx γ) h:=W_pure
def zv5 (mt:G->M Out) (Q:Out->AH->Prop):Out->AH->Prop:=λo h=>match o with
 | .nx γ=>W (mt γ) h Q
 | o=>Q o h
theorem z09 {mt:G->M Out}{Q:Out->AH->Prop}{γ:G}{h:AH}:zv5 mt Q (.nx γ) h↔W (mt γ) h Q:=Iff.rfl
theorem z22 {mt:G->M Out}{Q:Out->AH->Prop}{d:D}{h:AH}:zv5 mt Q (.rt d) h↔Q (.rt d) h:=Iff.rfl
theorem w_cons {ms mt:G->M Out}{γ:G}{h:AH}{Q:Out->AH->Prop}:W (Z3 ms mt γ) h Q↔W (ms γ) h (zv5 mt Q):=by
 unfold Z3;rw[j3];constructor
 ·rintro⟨o,h1,e,q⟩;refine⟨o,h1,e,?_⟩;cases o with
  | nx γ=>exact q
  | rt d=>exact(W_pure (a:=Out.rt d) (Q:=Q)).mp q
  | bk d=>exact(W_pure (a:=Out.bk d) (Q:=Q)).mp q
  | ct d=>exact(W_pure (a:=Out.ct d) (Q:=Q)).mp q
 ·rintro⟨o,h1,e,q⟩;refine⟨o,h1,e,?_⟩;cases o with
  | nx γ=>exact q
  | rt d=>exact W_pure.mpr q
  | bk d=>exact W_pure.mpr q
  | ct d=>exact W_pure.mpr q
def runW (Q:D->AH->Prop):Out->AH->Prop:=λo h=>match o with
 | .nx _=>Q .non h
 | .rt d=>Q d h
 | _=>False
theorem z1W {n:Nat}{mb:G->M Out}{ds:List D}{h:AH}{Q:D->AH->Prop}(z:W (mb (z0Y n ds)) h (runW Q)):W (runF n mb ds) h Q:=by
 unfold runF;rw[j3];refine z.mono λo h1 q=>?_;cases o with
 | nx γ=>exact W_pure.mpr q
 | rt d=>exact W_pure.mpr q
 | bk d=>exact q.elim
 | ct d=>exact q.elim
theorem z2f {i j:Int}:fAdd (.int i) (.int j)=pure (.int (i+j)):=rfl
theorem z9d {i j:Int}:fSub (.int i) (.int j)=pure (.int (i - j)):=rfl
theorem zd1 {i j:Int}:fGt (.int i) (.int j)=pure (.bl (decide (j<i))):=rfl
theorem zf7 {i j:Int}:fGe (.int i) (.int j)=pure (.bl (decide (j<=i))):=rfl
theorem z94 {i j:Int}:fLt (.int i) (.int j)=pure (.bl (decide (i<j))):=rfl
theorem zq9 {i j:Int}:fLe (.int i) (.int j)=pure (.bl (decide (i<=j))):=rfl
theorem z3R {i j:Int}{b:Bool}:fEq b (.int i) (.int j)=pure (.bl (decide (i=j) != b)):=rfl
theorem zf9 {i j:Int}(h:0<j):fMod (.int i) (.int j)=pure (.int (i % j)):=by
 unfold fMod fIC;dsimp only;rw[if_pos (decide_eq_true h)]
theorem div_ii {i j:Int}(h:0<j) (h2:j<1073741824):fDiv (.int i) (.int j)=pure (.int (i / j)):=by
 unfold fDiv fIC;dsimp only;rw[if_pos (by rw[decide_eq_true h,decide_eq_true h2];rfl)]
theorem z1x {b:Bool}:asB (.bl b)=pure b:=rfl
theorem z5N {b:Bool}:truD (.bl b)=pure b:=rfl
theorem z9f {n:Nat}{h:AH}{Q:Nat->AH->Prop}:W (z1Q (.ref n)) h Q↔W (getL n) h λ_ h1=>Q n h1:=by
 unfold W z1Q getL;dsimp only;cases e:h[n]? with
 | none=>exact⟨λ⟨_,_,z,_⟩=>(by cases z),λ⟨_,_,z,_⟩=>(by cases z)⟩
 | some o =>
  cases o with
  | set ks=>exact⟨λ⟨_,_,z,_⟩=>(by cases z),λ⟨_,_,z,_⟩=>(by cases z)⟩
  | dct=>exact⟨λ⟨_,_,z,_⟩=>(by cases z),λ⟨_,_,z,_⟩=>(by cases z)⟩
  | dK kvs=>exact⟨λ⟨_,_,z,_⟩=>(by cases z),λ⟨_,_,z,_⟩=>(by cases z)⟩
  | dF kvs=>exact⟨λ⟨_,_,z,_⟩=>(by cases z),λ⟨_,_,z,_⟩=>(by cases z)⟩
  | exc c=>exact⟨λ⟨_,_,z,_⟩=>(by cases z),λ⟨_,_,z,_⟩=>(by cases z)⟩
  | lst xs=>exact⟨λ⟨_,_,z,q⟩=>(by cases z;exact⟨xs,h,rfl,q⟩),λ⟨_,_,z,q⟩=>(by cases z;exact⟨n,h,rfl,q⟩)⟩
theorem z9a {b:Int}{t:String}:fIsi t (.int b)=pure (.bl (subT "int" t)):=rfl
theorem zu5 {b:List D}{t:String}:fIsi t (.tup b)=pure (.bl (subT "tuple" t)):=rfl
theorem W.pu {m:M α}{a:α}{h:AH}{Q:α->AH->Prop}(p:Pu m a) (q:∀j,Q a (h++j)):W m h Q:=let ⟨j,e⟩:=p h;⟨a,h++j,e,q j⟩
def forW (J:G->AH->Prop) (R:D->AH->Prop):Out->AH->Prop:=λo h=>match o with
 | .nx γ=>J γ h
 | .ct γ=>J γ h
 | .bk _=>False
 | .rt d=>R d h
def endW (J:G->AH->Prop) (R:D->AH->Prop):Out->AH->Prop:=λo h=>match o with
 | .nx γ=>J γ h
 | .ct _=>False
 | .bk _=>False
 | .rt d=>R d h
theorem z5M {src:Src}{g:D->G->M G}{body:G->M Out}(I:Nat->G->AH->Prop) (R:D->AH->Prop) (good:∀i γ h,I i γ h->src.good h):∀(items:List D) (n:Nat) (γ:G) (h:AH),
 (∀i d γ h,items[i]?=some d->I (n+i) γ h->W (g d γ) h λγ1 h1=>W (body γ1) h1 (forW (I (n+i+1)) R))->I n γ h ->
 W (forR src g body items γ) h (endW (I (n+items.length)) R)
 | [],n,γ,h,_,q=>⟨.nx γ,h,by unfold forR Src.chk;simp[good _ _ _ q],q⟩
 | d::r,n,γ,h,z,q=>by
  unfold forR;rw[j3];refine W.of (a:=()) (h':=h) (by unfold Src.chk;simp[good _ _ _ q]) ?_;rw[j3];refine(z 0 d γ h rfl q).mono λγ1 h1 q1=>?_;rw[j3];refine q1.mono λo h2 q2=>?_;have step:∀γ2,I (n+0+1) γ2 h2->W (forR src g body r γ2) h2 (endW (I (n+(d::r).length)) R):=λγ2 w=>by
   have:=z5M (src:=src) I R good r (n+1) γ2 h2 (λi d γ h e q=>by
    have:=z (i+1) d γ h (by simpa using e) (by rw[show n+(i+1)=n+1+i by omega];exact q);rw[show n+(i+1)+1=n+1+i+1 by omega]at this;exact this) (by simpa using w)
   rw[show n+1+r.length=n+(d::r).length by simp;omega]at this;exact this
  cases o with
  | nx γ2=>exact step γ2 q2
  | ct γ2=>exact step γ2 q2
  | bk γ2=>exact q2.elim
  | rt v=>exact W_pure.mpr q2
theorem z2O {ms mt:G->M Out}{γ:G}{h:AH}{Q:Out->AH->Prop}(J:G->AH->Prop) (z:W (ms γ) h (endW J λd h=>Q (.rt d) h)) (k:∀γ h,J γ h->W (mt γ) h Q):W (Z3 ms mt γ) h Q:=by
 rw[w_cons];refine z.mono λo h1 q=>?_;cases o with
 | nx γ=>exact k γ h1 q
 | rt d=>exact q
 | bk d=>exact q.elim
 | ct d=>exact q.elim
theorem z3j {n i:Nat}{d:D}(e:(z1N n)[i]?=some d):d=.int i/\i<n:=by
 unfold z1N at e;rw[K00]at e;obtain⟨j,e1,e2⟩:=K09.mp e;obtain⟨h1,h2⟩:=K8.mp e1;simp at h1 h2;subst h2;exact⟨e2.symm,h1⟩
theorem z0h {ma:G->M D}{i:Nat}{body:G->M Out}{γ:G}{h:AH}(I:Nat->G->AH->Prop) (R:D->AH->Prop) {Q:Out->AH->Prop}
 (hs:W (ma γ) h λd h1=>∃n:Nat,d=.int n/\n<4611686018427387904/\I 0 γ h1/\(∀k γ h,k<n->I k γ h->W (body (γ.set i (.(i k)))) h (forW (I (k+1)) R))/\(∀γ h',I n γ h'->Q (.nx γ) h')/\∀d h',R d h'->Q (.rt d) h') :
 W (sFor (z0q ma) (gN i) body γ) h Q:=by
 unfold sFor z0q;rw[j3,j3];refine hs.mono λd h1 ⟨n,e,hn,i0,st,fin⟩=>?_;subst e;dsimp only;rw[if_pos (by omega),W_pure];have:=z5M (src:=.con (z1N (n:Int).toNat)) (g:=gN i) (body:=body) I R (λ_ _ _ _=>trivial) (z1N (n:Int).toNat) 0 γ h1 (λk d γ h e q=>by
  obtain⟨rfl,hk⟩:=z3j e;rw[K74]at q ⊢;exact W_pure.mpr (st k γ h (by simpa using hk) q)) i0
 rw[show 0+(z1N (n:Int).toNat).length=n by unfold z1N;simp]at this;refine this.mono λo h' q=>?_;cases o with
 | nx γ=>exact fin.1 γ h' q
 | rt d=>exact fin.2 d h' q
 | bk d=>exact q.elim
 | ct d=>exact q.elim
theorem z1p {mi:G->M Src}{g:D->G->M G}{body:G->M Out}{γ:G}{h:AH}(I:Nat->G->AH->Prop) (R:D->AH->Prop) {Q:Out->AH->Prop}
 (hs:W (mi γ) h λsrc h1=>I 0 γ h1/\(∀i γ h,I i γ h->src.good h)/\(∀i d γ h,src.items[i]?=some d->I i γ h->W (g d γ) h λγ1 h1=>W (body γ1) h1 (forW (I (i+1)) R))/\(∀γ h',I src.items.length γ h'->Q (.nx γ) h')/\∀d h',R d h'->Q (.rt d) h') :
 W (sFor mi g body γ) h Q:=by
 unfold sFor;rw[j3];refine hs.mono λsrc h1 ⟨i0,good,st,fin⟩=>?_;have:=z5M (src:=src) (g:=g) (body:=body) I R good src.items 0 γ h1 (λk d γ h e q=>by
  rw[K74]at q ⊢;exact st k d γ h e q) i0
 rw[K74]at this;refine this.mono λo h' q=>?_;cases o with
 | nx γ=>exact fin.1 γ h' q
 | rt d=>exact fin.2 d h' q
 | bk d=>exact q.elim
 | ct d=>exact q.elim
theorem z8U {ma:G->M D}{γ:G}{h h1:AH}{n:Nat}(e:ma γ h=.ok (.int n) h1) (hn:n<4611686018427387904):z0q ma γ h=.ok (.con (z1N n)) h1:=by
 unfold z0q;rw[M.bind_ok e];dsimp only;rw[if_pos (by omega)];rfl
theorem z3E {k:G->M Bool}{body:G->M Out}(I:Nat->G->AH->Prop) (E:G->AH->Prop) (R:D->AH->Prop)
 (z:∀m γ h,I m γ h->W (k γ) h λb h1=>if b=true then ∃m',m=m'+1/\W (body γ) h1 (forW (λγ h=>∃i,i<=m'/\I i γ h) R) else E γ h1):∀(n m:Nat) (γ:G) (h:AH),m<n->I m γ h ->
 W (z2i k body n γ) h (endW E R)
 | 0,m,γ,h,hm,_=>by omega
 | n+1,m,γ,h,hm,q=>by
  unfold z2i;rw[j3];refine(z m γ h q).mono λb h1 q1=>?_;cases b with
  | false =>
   rw[if_neg (by decide)]at q1 ⊢;exact W_pure.mpr q1
  | true =>
   rw[if_pos rfl]at q1 ⊢;obtain⟨m',rfl,q2⟩:=q1;rw[j3];refine q2.mono λo h2 q3=>?_;cases o with
   | nx γ2=>obtain⟨i,hi,q4⟩:=q3;exact z3E I E R z n i γ2 h2 (by omega) q4
   | ct γ2=>obtain⟨i,hi,q4⟩:=q3;exact z3E I E R z n i γ2 h2 (by omega) q4
   | bk γ2=>exact q3.elim
   | rt v=>exact W_pure.mpr q3
theorem z4r {g:D->G->M G}{k:G->M Bool}{me:G->M D}{γ:G}{p:D->Bool}{f:D->D}(src:Src) (h0:AH) (hg:∀j,src.good (h0++j)):∀(items:List D) (acc:List D),acc.length+items.length<=1000000 ->
 (∀d∈items,∃γ1,(∀h,g d γ h=.ok γ1 h)/\(∀j,k γ1 (h0++j)=.ok (p d) (h0++j))/\(p d=true->∀j,me γ1 (h0++j)=.ok (f d) (h0++j))) ->
 z3t src g k me h0.length γ items (h0++[.lst acc])=.ok () (h0++[.lst (acc++(items.filter p).map f)])
 | [],acc,hl,hd=>by unfold z3t Src.chk;simp[hg]
 | d::r,acc,hl,hd=>by
  obtain⟨γ1,e1,e2,e3⟩:=hd d K0t;unfold z3t;have chk:src.chk (h0++[.lst acc])=.ok () (h0++[.lst acc]):=by unfold Src.chk;simp[hg]
  rw[M.bind_ok chk,M.bind_ok (e1 _),M.bind_ok (e2 _)];simp only[K07]at hl;have hr:∀d∈r,∃γ1,(∀h,g d γ h=.ok γ1 h)/\(∀j,k γ1 (h0++j)=.ok (p d) (h0++j))/\(p d=true->∀j,me γ1 (h0++j)=.ok (f d) (h0++j)):=λx hx=>hd x (K0j _ hx);cases hp:p d with
  | false =>
   rw[if_neg (by decide),z4r src h0 hg r acc (by omega) hr,K6k,hp];rfl
  | true =>
   rw[if_pos rfl,M.bind_ok (e3 hp _)];have ap:w8 h0.length (f d) (h0++[.lst acc])=.ok .non (h0++[.lst (acc++[f d])]):=by
    unfold w8 updL;have g1:(h0++[O.lst acc])[h0.length]?=.(l acc):=by simp
    rw[g1];dsimp only;have hs:(acc++[f d]).length<=sizeLine:=by
     rw[K06,K1i];exact K0l (show acc.length+1<=1000000 by omega) (by decide)
    rw[if_pos hs];simp
   rw[M.bind_ok ap,z4r src h0 hg r (acc++[f d]) (by simp;omega) hr,K6k,hp];simp
theorem z1D {cap:List (Option Nat)}{mi:G->M Src}{g:D->G->M G}{k:G->M Bool}{me:G->M D}{γ:G}{src:Src}{h:AH}(p:D->Bool) (f:D->D) (hi:mi γ h=.ok src h) (hg:∀j,src.good (h++j)) (hl:src.items.length<=1000000)
 (hd:∀d∈src.items,∃γ1,(∀h,g d (capG cap γ) h=.ok γ1 h)/\(∀j,k γ1 (h++j)=.ok (p d) (h++j))/\(p d=true->∀j,me γ1 (h++j)=.ok (f d) (h++j))) :
 z0F cap mi g k me γ h=.ok (.ref h.length) (h++[.lst ((src.items.filter p).map f)]):=by
 have e:=z4r (g:=g) (k:=k) (me:=me) (γ:=capG cap γ) (p:=p) (f:=f) src h hg src.items [] (by simpa using hl) hd;show (mi γ >>= _) h=_;rw[M.bind_ok hi];rw[M.bind_ok (m:=(λh=>Res.ok (K6o h) (h++[O.lst []]):M Nat)) (h:=h) rfl];rw[M.bind_ok (by simpa using e)];rfl
def Kp (r r':AH):Prop:=∀(n:Nat) (o:O),r[n]?=some o->r'[n]?=some o
theorem Kp.refl (r:AH):Kp r r:=λ_ _ e=>e
theorem Kp.trans {a b c:AH}(h:Kp a b) (h':Kp b c):Kp a c:=λn o e=>h' n o (h n o e)
theorem Kp.app (r j:AH):Kp r (r++j):=λn o e=>by
 rw[K11 (K8.mp e).1,e]
theorem Kp.set {r r':AH}{n:Nat}{o:O}(h:Kp r r') (hn:r.length<=n):Kp r (r'.set n o):=λm o' e=>by
 have:=(K8.mp e).1;rw[K1e (by omega)];exact h m o' e
theorem Kp.len {r r':AH}(h:Kp r r'):r.length<=r'.length:=by
 by_cases e:r.length=0
 ·omega
 ·have:=h (r.length - 1) r[r.length - 1] (K7 (by omega));have:=(K8.mp this).1;omega
theorem z9h {src:Src}{g:D->G->M G}{k:G->M Bool}{me:G->M D}{n0:Nat}{γ:G}(I:Nat->AH->Prop) (good:∀i h,I i h->src.good h):∀(items:List D) (n:Nat) (h:AH),
 (∀i d h,items[i]?=some d->I (n+i) h->W (g d γ) h λγ1 h1=>W (k γ1) h1 λt h2=>if t=true then W (me γ1) h2 λv h3=>W (w8 n0 v) h3 λ_ h4=>I (n+i+1) h4 else I (n+i+1) h2)->I n h ->
 W (z3t src g k me n0 γ items) h λ_ h'=>I (n+items.length) h'
 | [],n,h,_,q=>⟨(),h,by unfold z3t Src.chk;simp[good _ _ q],q⟩
 | d::r,n,h,z,q=>by
  have more:∀h2,I (n+0+1) h2->W (z3t src g k me n0 γ r) h2 λ_ h'=>I (n+(d::r).length) h':=λh2 q2=>by
   have:=z9h (src:=src) (g:=g) (k:=k) (me:=me) (n0:=n0) (γ:=γ) I good r (n+1) h2 (λi d h e q=>by
    have:=z (i+1) d h (by simpa using e) (by rw[show n+(i+1)=n+1+i by omega];exact q);rw[show n+(i+1)+1=n+1+i+1 by omega]at this;exact this) (by simpa using q2)
   rw[show n+1+r.length=n+(d::r).length by simp;omega]at this;exact this
  unfold z3t;rw[j3];refine W.of (a:=()) (h':=h) (by unfold Src.chk;simp[good _ _ q]) ?_;rw[j3];refine(z 0 d h rfl q).mono λγ1 h1 q1=>?_;rw[j3];refine q1.mono λt h2 q2=>?_;cases t with
  | false=>rw[if_neg (by decide)]at q2 ⊢;exact more h2 q2
  | true =>
   rw[if_pos rfl]at q2 ⊢;rw[j3];refine q2.mono λv h3 q3=>?_;rw[j3];exact q3.mono λ_ h4 q4=>more h4 q4
theorem zL5 {cap:List (Option Nat)}{mi:G->M Src}{g:D->G->M G}{k:G->M Bool}{me:G->M D}{γ:G}{h:AH}{Q:D->AH->Prop}
 (hs:W (mi γ) h λsrc h1=>∃I:Nat->AH->Prop,I 0 (h1++[.lst []])/\(∀i h,I i h->src.good h) /\
  (∀i d h,src.items[i]?=some d->I i h->W (g d (capG cap γ)) h λγ1 h1'=>W (k γ1) h1' λt h2=>if t=true then W (me γ1) h2 λv h3=>W (w8 h1.length v) h3 λ_ h4=>I (i+1) h4 else I (i+1) h2) /\
  ∀h',I src.items.length h'->Q (.ref h1.length) h'):W (z0F cap mi g k me γ) h Q:=by
 unfold z0F;rw[j3];refine hs.mono λsrc h1 ⟨I,i0,good,st,fin⟩=>?_;rw[j3];refine W.of (a:=h1.length) (h':=h1++[.lst []]) rfl ?_;rw[j3];have:=z9h (src:=src) (g:=g) (k:=k) (me:=me) (n0:=h1.length) (γ:=capG cap γ) I good src.items 0 (h1++[.lst []]) (λi d h e q=>by
  rw[K74]at q ⊢;exact st i d h e q) i0
 rw[K74]at this;refine this.mono λ_ h' q=>?_;rw[W_pure];exact fin h' q
def Pi (I:AH->Prop) {α:Type} (m:M α) (a:α):Prop:=∀h,I h->∃j,m h=.ok a (h++j)
class Grow (I:AH->Prop):Prop where
 app:∀h j,I h->I (h++j)
section
variable {I:AH->Prop} [Grow I]
theorem Pi.pure {α:Type}(a:α):Pi I (K9n a:M α) a:=λh _=>⟨[],by simp⟩
theorem Pi.bind {α β:Type}{m:M α}{f:α->M β}{a:α}{b:β}(h1:Pi I m a) (h2:Pi I (f a) b):Pi I (m >>= f) b:=λh i=>by
 obtain⟨j,e⟩:=h1 h i;obtain⟨j',e'⟩:=h2 (h++j) (Grow.app h j i);exact⟨j++j',by rw[M.bind_ok e,e',K0z]⟩
theorem Pi.of {α:Type}{m:M α}{a:α}(h:∀x,m x=.ok a x):Pi I m a:=λx _=>⟨[],by rw[h];simp⟩
theorem Pi.at {α:Type}{m:M α}{a:α}(h:∀x,I x->m x=.ok a x):Pi I m a:=λx i=>⟨[],by rw[h x i];simp⟩
end
section
variable {I:AH->Prop} [Grow I] {J J':G->Prop}
end
def Pool (gr sm:List Int) (s c:Int) (r:AH):AH:=.lst (gr.map .int)::.lst (sm.map .int)::.lst [.ref 0,.ref 1,.int s,.int c]::r
def PS (h:AH) (k:Int) (r:AH):Prop:=∃gr sm s c,h=Pool gr sm s c r/\0<=s/\s<2147483647/\0<=c/\c<=k/\gr.length<=63/\sm.length<=63
theorem PS.up {h:AH}{k k':Int}{r:AH}(p:PS h k r) (hk:k<=k'):PS h k' r:=by
 obtain⟨gr,sm,s,c,e,h1,h2,h3,h4,h5,h6⟩:=p;exact⟨gr,sm,s,c,e,h1,h2,h3,by omega,h5,h6⟩
theorem PS.app {h:AH}{k:Int}{r:AH}(p:PS h k r) (j:AH):PS (h++j) k (r++j):=by
 obtain⟨gr,sm,s,c,e,q⟩:=p;exact⟨gr,sm,s,c,by rw[e];rfl,q⟩
theorem PS.get {h:AH}{k:Int}{r:AH}(p:PS h k r) (n:Nat):h[n+3]?=r[n]?:=by
 obtain⟨gr,sm,s,c,e,q⟩:=p;rw[e];rfl
theorem PS.len {h:AH}{k:Int}{r:AH}(p:PS h k r):h.length=r.length+3:=by
 obtain⟨gr,sm,s,c,e,q⟩:=p;rw[e];rfl
theorem PS.set {h:AH}{k:Int}{r:AH}(p:PS h k r) (n:Nat) (o:O):PS (h.set (n+3) o) k (r.set n o):=by
 obtain⟨gr,sm,s,c,e,q⟩:=p;exact⟨gr,sm,s,c,by rw[e];rfl,q⟩
theorem z2u {h:AH}{k:Int}{r:AH}{n:Nat}{xs:List D}{Q:List D->AH->Prop}(p:PS h k r) (e:r[n]?=.(l xs)) (q:Q xs h):W (getL (n+3)) h Q :=
 ⟨xs,h,by unfold getL;rw[p.get,e],q⟩
theorem z1v {h:AH}{k:Int}{r:AH}{xs:List D}{Q:D->AH->Prop}(p:PS h k r) (hl:xs.length<=1000000) (z:∀h',PS h' k (r++[.lst xs])->Q (.ref (r.length+3)) h'):W (newL xs) h Q :=
 ⟨.ref (r.length+3),h++[.lst xs],by unfold newL;rw[if_pos (K0l hl (by decide)),p.len],z _ (p.app _)⟩
theorem z6m {h:AH}{k:Int}{r:AH}{n:Nat}{xs:List D}{v:D}{Q:D->AH->Prop}(p:PS h k r) (e:r[n]?=.(l xs)) (hl:xs.length<1000000) (z:∀h',PS h' k (r.set n (.lst (xs++[v])))->Q .non h'):W (w8 (n+3) v) h Q :=
 ⟨.non,h.set (n+3) (.lst (xs++[v])),by
  unfold w8 updL;rw[p.get,e];dsimp only;rw[if_pos (K0l (by simp;omega:(xs++[v]).length<=1000000) (by decide))],z _ (p.set _ _)⟩
theorem z0r {r j:AH}{n:Nat}{o:O}(e:r[n]?=some o):(r++j)[n]?=some o:=by
 rw[K11 (K8.mp e).1,e]
theorem z1w {r:AH}{o:O}:(r++[o])[r.length]?=some o:=by simp
def z80 (x:Str):Prop:=1<=x.length/\x.length<=8/\(∀c∈x.cps.toList,97<=c/\c<=122) /\
 x∉(["yes","no","not","and","or","step","some","all","next","once","ever","until","unless"]:List Str)
theorem len_str (x:Str):x.length=x.cps.toList.length:=by simp[Z03]
theorem z5z (a:Str):∀l:List Str,((l.map D.str).any λz=>eqF z (.str a))=decide (a∈l)
 | []=>by simp
 | b::l=>by
  rw[K0f,K2t,z5z a l];simp only[eqF];rw[K17];simp only[K33,beq_iff_eq,decide_eq_true_eq,K0a];constructor
  ·rintro(h|h)
   ·exact .inl h.symm
   ·exact .inr h
  ·rintro(h|h)
   ·exact .inl h.symm
   ·exact .inr h
theorem z3M:∀l:List Str,(l.map D.str).all z1a=true
 | []=>rfl
 | _::l=>by rw[K0f,K5b,z3M l];rfl
def low (x:Str):Prop:=∀c∈x.cps.toList,97<=c/\c<=122
def abc:Str:="abcdefghijklmnopqrstuvwxyz"
theorem zk0:abc.cps.toList=(K0o 26).map (·+97):=by decide +kernel
theorem zu6:abc.length=26:=by decide +kernel
theorem zx9 {d:Int}(h0:0<=d) (h1:d<26):fIx (.str abc) (.int d)=pure (.str ⟨#[d.toNat+97]⟩):=by
 unfold fIx;dsimp only;rw[if_pos (by rw[zu6];decide),zk0];obtain⟨n,rfl⟩:=K8i h0;have hn:n<26:=by omega
 rw[v3 (v:=n+97) (by simp[hn])];simp
theorem z4t (x y:Str):(x++y).cps.toList=x.cps.toList++y.cps.toList:=Array.toList_append
theorem len_app (x y:Str):(x++y).length=x.length+y.length:=by rw[len_str,z4t,K06,<- len_str,<- len_str]
theorem zI5 {x y:Str}(h:x.length+y.length<=1000):fAdd (.str x) (.str y)=pure (.str (x++y)):=by
 show (if x.length+y.length<=sizeLine then _ else _)=_;rw[if_pos (K0l h (by decide))]
theorem z3h (c:Nat):Z03 ⟨#[c]⟩=1:=rfl
theorem z5y {x:Str}{c:Nat}(h:low x) (h1:97<=c) (h2:c<=122):low (x++⟨#[c]⟩):=by
 intro d hd;rw[z4t]at hd;rcases K0p.mp hd with q|q
 ·exact h d q
 ·simp at q;omega
theorem z4v {x:Str}{h:AH}{k d:Int}{r:AH}{Q:D->AH->Prop}(h0:0<=d) (h1:d<26) (hx:x.length<=100) (q:Q (.str (x++⟨#[d.toNat+97]⟩)) h):W (fIx (.str abc) (.int d)) h λa h1=>W (fAdd (.str x) a) h1 Q:=by
 rw[zx9 h0 h1,W_pure,zI5 (by rw[z3h];omega),W_pure];exact q
def words:List Str:=["yes","no","not","and","or","step","some","all","next","once","ever","until","unless"]
def cand (x:Str) (l:Int) (i:Nat):Str:=x++⟨#[((l+i) % 26).toNat+97]⟩
theorem zf4 {x:Str}{l:Int}(h0:0<=l) {i j:Nat}(hi:i<26) (hj:j<26) (e:cand x l i=cand x l j):i=j:=by
 have e2:(cand x l i).cps.toList=(cand x l j).cps.toList:=by rw[e]
 unfold cand at e2;rw[z4t,z4t]at e2;have:=List.append_cancel_left e2;simp at this;omega
theorem zI1 {x:Str}{l:Int}(h0:0<=l) {ns:List Str}(hn:ns.length<=7) (h:∀i:Nat,i<26->cand x l i∈words\/cand x l i∈ns):False:=by
 have nd:((K0o 26).map (cand x l)).Nodup:=by
  rw[List.nodup_iff_pairwise_ne,K7v];refine List.Pairwise.imp_of_mem ?_ List.nodup_range;intro a b ha hb hne e;exact hne (zf4 h0 (by simpa using ha) (by simpa using hb) e)
 have sub:((K0o 26).map (cand x l)) ⊆ words++ns:=by
  intro y hy;obtain⟨i,hi,rfl⟩:=K0v.mp hy;exact K0p.mpr (h i (by simpa using hi))
 have:=nd.length_le_of_subset sub;rw[K6,K1w,K06]at this;have w:words.length=13:=rfl;omega
theorem zh0 {h:AH}{k:Int}{r:AH}{n:Nat}{ns:List Str}{x:Str}{neg:Bool}(p:PS h k r) (e:r[n]?=.(l (ns.map .str))):fIn neg (.str x) (.ref (n+3)) h=.ok (.bl (decide (x∈ns) != neg)) h:=by
 have g:getL (n+3) h=.ok (ns.map .str) h:=by unfold getL;rw[p.get,e]
 unfold fIn seqD;rw[M.bind_ok g,z5z,z3M];rfl
theorem z5J {h:AH}{k:Int}{r:AH}{n:Nat}{xs:List D}{i:Int}{d:D}{Q:D->AH->Prop}(p:PS h k r) (e:r[n]?=.(l xs)) (a:atI xs i=some d) (q:Q d h):W (fIx (.ref (n+3)) (.int i)) h Q:=by
 show W (getL (n+3) >>= λxs=>match atI xs i with|some d=>pure d|none=>bad) h Q;rw[j3];refine z2u p e ?_;rw[a];exact W_pure.mpr q
theorem zi4 {h:AH}{k:Int}{r:AH}{n:Nat}{xs:List D}{Q:D->AH->Prop}(p:PS h k r) (e:r[n]?=.(l xs)) (q:Q (.int xs.length) h):W (fLen [.ref (n+3)]) h Q:=by
 show W (getL (n+3) >>= λxs=>pure (.int xs.length)) h Q;rw[j3];refine z2u p e ?_;exact W_pure.mpr q
theorem zw1:low "":=by
 intro c hc;have:(K2n "").cps.toList=[]:=by decide +kernel
 rw[this]at hc;cases hc
theorem zm9:Z03 "" = 0:=by decide +kernel
def NS (ns:List Str):Prop:=ns.Nodup/\∀x∈ns,z80 x
def stD (l:List Nat):List D:=l.map λ(i:Nat)=>.int i
structure MK (l:List Str):Prop where
 len:l.length<=8
 good:∀x∈l,z80 x
 rise:l.Pairwise λa b=>a.cps.toList<b.cps.toList
structure MA (st:List (List Nat)) (mk:List (List Str)):Prop where
 l1:1<=st.length
 l2:st.length<=40
 l3:mk.length=st.length
 s1:∀l∈st,l.Pairwise (·<·)
 s2:∀l∈st,∀x∈l,x<st.length
 m1:∀l∈mk,MK l
def stsD (st:List (List Nat)):List D:=st.map λl=>.tup (stD l)
theorem z3m (l:List Str):(z1V l).length=l.length:=(K6z l leS).length_eq
theorem strs_map:∀l:List Str,z32 (l.map .str)=some l
 | []=>rfl
 | a::l=>by simp[z32,strs_map l]
theorem z2k (ns:List Int) (p:D->Bool):((ns.map D.int).filter p).map (λd=>d)=(ns.filter λi=>p (.int i)).map D.int:=by
 rw[List.map_id',Z1m];rfl
theorem zI6:fPow (.int 10) (.int 18)=pure (.int 1000000000000000000):=rfl
theorem z0A (xs:List D):fLen [.tup xs]=pure (.int xs.length):=rfl
theorem ix_tup {xs:List D}{i:Int}{d:D}(a:atI xs i=some d):fIx (.tup xs) (.int i)=pure d:=by
 have:fIx (.tup xs) (.int i)=(pure xs >>= λxs=>match atI xs i with|some d=>pure d|none=>bad):=rfl;rw[this];show (match atI xs i with|some d=>pure d|none=>bad)=_;rw[a]
theorem zK7 {l:List Nat}{c:Nat}(hc:c<l.length):atI (stD l) (c:Int)=.(i (((l[c]?).getD 0:Nat))):=by
 refine v3 ?_;unfold stD;rw[K00,K7 hc];rfl
section
variable {P:K08}{w:World}{K:K2}{mg:Str->Option Value}{base:Heap}
theorem zM6 {x:Str}{st:Stmt}{f:Addr}{fd:K2k}{N ps:List Str}{k n:Nat}{mb:G->M Out}(F:Fun K x x st f fd) (S:FnScope N ps (j8 st)) (hn:ps.length=n)
 (body:∀(cdv:Value) (A:Around) (outer:List Env) (s:Shared) (H:Hp) (E:XK),Room k (A.deeper (envOfC x (j8 st) s.heap.objs.size f cdv)) ->
  SB (cxOf CX0 P w K mg base N x (j8 st) f cdv A outer s H E).nox EX0 (v7 st) mb):FnOk P w K mg base CX0 (k+1) f fd ps (spB K (runF N.length mb) n):=by
 refine F.ok S (λvs H Q E h=>h.1.trans hn.symm) (λcdv A outer s H vs Q E hr h=>?_);obtain⟨hl,ρ,ds,h,rh,rd,fin⟩:=h;refine⟨_,(body cdv A outer s H E hr).h,ρ,z0Y N.length ds,h,⟨z3k rd,rh⟩,?_⟩;refine(Fin.bind fin).mono λo ρ1 h1 H1 p1 e1 r1 f1=>?_;cases o with
 | nx γ=>exact λσ _=>FE.here (d:=.non) (h:=h1) f1 r1 (by simp[RD])
 | rt d=>exact λv rv=>f1 ρ1 H1 (Pre.refl _) (Ext.refl _ _) r1 v rv
 | bk γ=>exact(show False from f1).elim
 | ct γ=>exact(show False from f1).elim
theorem bindsTo1 {x p:Str}{st:Stmt}{f:Addr}{fd:K2k}(F:Fun K x x st f fd)
 (h:∀(kV doc pm:Value) (an:Option Addr) (cdv ct u:Value),bindArgs (K2l x x (z12 st) (v7 st) (j8 st) .none kV doc pm an cdv ct) ⟨[u],[]⟩=pure [(p,u)]):∀(s:Shared) (u:Value),K8n s fd ⟨[u],[]⟩ [(p,u)]:=by
 obtain⟨oc,od,kV,doc,pm,an,cdv,ct,osl,rfl,lk,hcd⟩:=F.ex;exact λs u=>.of_eq (h kV doc pm an cdv ct u)
end
theorem law_walk {l:Z1h}{q:K08}{loose:List Str}{XP:(Str->Option Value)->Heap->Prop}{YP:World->Heap->Prop}{d:DefRec}{K:Params->K2}{m:List D->M D}{p:Str}{lev:Nat}(hn:l.most=some 63) (hdf:d.params.defaults=[]) (hr:Room lev K8m)
 (hY:∀(w:World) (h:Heap),YP w h->(K w.params).In h)
 (F:∀(w:World) (mg:Str->Option Value) (fa:Addr) (h:Heap),(K w.params).In h->h.Ns K1q mg->mg d.name=.(r fa) ->
  ∃fd:K2k,(∀(s:Shared) (u:Value),K8n s fd ⟨[u],[]⟩ [(p,u)])/\∀base:Heap,(K w.params).In base->base.Ns K1q mg->FnOk l.prog w (K w.params) mg base CX0 lev fa fd [p] (spB (K w.params) m 1))
 (math:∀ns:List Int,ns.length<=63->∃h',m [.fl (ns.map .int)] []=.ok (.bl true) h') :
 Z1v q loose XP YP l.row.toRowW d [] (λf vs=>Z1r f vs):=by
 refine L2.walk_of (n:=63) (k:=lev) (x:=p) (CX:=λ_=>CX0) (sp:=λw=>spB (K w.params) m 1) hn (by decide) hdf hr hY F (λw H a ns hl hO hS=>?_) λ_ _ _ _ _ z=>z;obtain⟨h',e⟩:=math ns hl;have sq:SqLP (K w.params) H a (ns.map V.int):=by
  rcases hS with (h|⟨o,h⟩)|h
  ·rcases hO a with z|⟨ob,xs,z⟩<;>rw[h]at z<;>cases z
  ·exact .inl ⟨o,h⟩
  ·exact .inr h
 refine⟨rfl,[],[.fl (ns.map .int)],[],⟨rfl,λi j a h=>by simp at h,λn o a h=>by simp at h⟩,RDs.cons ?_ RDs.nil,?_⟩
 ·simp only[RD];exact⟨a,_,rfl,sq,z4p ns⟩
 ·rw[e];exact λρ' H' _ _ _ v rv=>by simpa [RD] using rv
mutual
def y9 (n:Nat):D->Bool
 | .ref i=>decide (i<n)
 | .tup xs=>k9 n xs
 | .fl xs=>k9 n xs
 | _=>true
def k9 (n:Nat):List D->Bool
 | []=>true
 | d::r=>y9 n d&&k9 n r
end
def refO (n:Nat):O->Bool
 | .lst xs=>k9 n xs
 | .dK kvs=>k9 n (kvs.map (·.2))
 | .dF kvs=>k9 n (kvs.map (·.2))
 | _=>true
def Kept (h h1:AH):Prop:=∀(i:Nat) (o:O),i<h.length->h1[i]?=some o->h[i]?=some o\/refO h.length o=true
section
variable {K:K2}{ρ ρ':List Addr}{H:Hp}
theorem z4h {ρ:List Addr}{n i:Nat}(h:i<n):(ρ.take n)[i]?=ρ[i]?:=by rw[K28,if_pos h]
mutual
theorem RD.cut {n:Nat}:∀{d:D}{v:V},y9 n d=true->RD K ρ H d v->RD K (ρ.take n) H d v
 | .non,v,_,h=>by simpa [RD] using h
 | .bl b,v,_,h=>by simpa [RD] using h
 | .int b,v,_,h=>by simpa [RD] using h
 | .str b,v,_,h=>by simpa [RD] using h
 | .tup ds,v,c,h=>by
  simp only[RD,y9]at h c ⊢;obtain⟨a,xs,h1,h2,h3⟩:=h;exact⟨a,xs,h1,h2,RDs.cut c h3⟩
 | .fl ds,v,c,h=>by
  simp only[RD,y9]at h c ⊢;obtain⟨a,xs,h1,h2,h3⟩:=h;exact⟨a,xs,h1,h2,RDs.cut c h3⟩
 | .ref i,v,c,h=>by
  simp only[RD,y9,decide_eq_true_eq]at h c ⊢;obtain⟨a,h1,h2⟩:=h;exact⟨a,h1,by rw[z4h c];exact h2⟩
theorem RDs.cut {n:Nat}:∀{ds:List D}{xs:List V},k9 n ds=true->RDs K ρ H ds xs->RDs K (ρ.take n) H ds xs
 | [],xs,_,h=>by simpa [RDs] using h
 | d::ds,xs,c,h=>by
  simp only[RDs,k9,K0h]at h c ⊢;obtain⟨x,r,h1,h2,h3⟩:=h;exact⟨x,r,h1,RD.cut c.1 h2,RDs.cut c.2 h3⟩
end
mutual
theorem RD.low:∀{d:D}{v:V},RD K ρ H d v->y9 ρ.length d=true
 | .non,v,h=>rfl
 | .bl b,v,h=>rfl
 | .int b,v,h=>rfl
 | .str b,v,h=>rfl
 | .tup ds,v,h=>by
  simp only[RD,y9]at h ⊢;obtain⟨a,xs,h1,h2,h3⟩:=h;exact RDs.low h3
 | .fl ds,v,h=>by
  simp only[RD,y9]at h ⊢;obtain⟨a,xs,h1,h2,h3⟩:=h;exact RDs.low h3
 | .ref i,v,h=>by
  simp only[RD,y9,decide_eq_true_eq]at h ⊢;obtain⟨a,h1,h2⟩:=h;exact(K8.mp h2).1
theorem RDs.low:∀{ds:List D}{xs:List V},RDs K ρ H ds xs->k9 ρ.length ds=true
 | [],xs,h=>rfl
 | d::ds,xs,h=>by
  simp only[RDs,k9,K0h]at h ⊢;obtain⟨x,r,h1,h2,h3⟩:=h;exact⟨RD.low h2,RDs.low h3⟩
end
theorem RK.cut {n:Nat}:∀{kvs:List (Key×D)}{vs:List (Key×V)},k9 n (kvs.map (·.2))=true->RK K ρ H kvs vs->RK K (ρ.take n) H kvs vs
 | _,_,_,.nil=>.nil
 | _,_,c,.cons a b=>by
  simp only[K0f,k9,K0h]at c;exact .cons ⟨a.1,a.2.cut c.1⟩ (RK.cut c.2 b)
theorem RK.low:∀{kvs:List (Key×D)}{vs:List (Key×V)},RK K ρ H kvs vs->k9 ρ.length (kvs.map (·.2))=true
 | _,_,.nil=>rfl
 | _,_,.cons a b=>by
  simp only[K0f,k9,K0h];exact⟨a.2.low,RK.low b⟩
theorem RO.cut {n:Nat}{o:O}{a:Addr}(c:refO n o=true) (h:RO K ρ H o a):RO K (ρ.take n) H o a:=by
 cases o with
 | lst ds=>obtain⟨xs,h1,h2⟩:=h;exact⟨xs,h1,h2.cut c⟩
 | set ks=>exact h
 | dct=>exact h
 | dK kvs=>obtain⟨vs,h1,h2⟩:=h;exact⟨vs,h1,h2.cut c⟩
 | dF kvs=>obtain⟨ob,vs,h1,h2⟩:=h;exact⟨ob,vs,h1,h2.cut c⟩
 | exc c=>exact h
theorem RO.low {o:O}{a:Addr}(h:RO K ρ H o a):refO ρ.length o=true:=by
 cases o with
 | lst ds=>obtain⟨xs,h1,h2⟩:=h;exact h2.low
 | set ks=>rfl
 | dct=>rfl
 | dK kvs=>obtain⟨vs,h1,h2⟩:=h;exact h2.low
 | dF kvs=>obtain⟨ob,vs,h1,h2⟩:=h;exact h2.low
 | exc c=>rfl
theorem RH.cut {h:AH}{n:Nat}(r:RH K ρ h H) (c:∀o∈h.take n,refO n o=true):RH K (ρ.take n) (h.take n) H:=by
 refine⟨by simp[r.len],λi j a h1 h2=>?_,λm o a h1 h2=>?_⟩
 ·rw[K28]at h1 h2;split at h1
  ·split at h2
   ·exact r.nd i j a h1 h2
   ·cases h2
  ·cases h1
 ·have hm:=K0d h1;rw[K28]at h1 h2;split at h1
  ·rename_i q;rw[if_pos q]at h2;exact(r.obj m o a h1 h2).cut (c o hm)
  ·cases h1
theorem RH.cut1 {h:AH}{n i:Nat}{o:O}(r:RH K ρ h H) (c:∀o∈h.take n,refO n o=true) (hn:n<=h.length) (hi:n<=i) (e:h[i]?=some o) (co:refO n o=true):∃a,ρ[i]?=some a/\RH K (ρ.take n++[a]) (h.take n++[o]) H:=by
 obtain⟨a,ea,ra⟩:=r.at e;have r1:=r.cut c;have ln:(ρ.take n).length=n:=by rw[K0g,r.len];omega
 have lh:(h.take n).length=n:=by rw[K0g];omega
 have ne:∀{m:Nat} {b:Addr},(ρ.take n)[m]?=some b->b≠a:=λ{m b} q z=>by
  have hm:=(K8.mp q).1;rw[ln]at hm;rw[z4h hm,z]at q;have:=r.nd m i a q ea;omega
 refine⟨a,ea,by simp[r1.len],λi j b h1 h2=>?_,λm u b h1 h2=>?_⟩
 ·rw[K40]at h1 h2;split at h1<;>split at h2
  ·exact r1.nd i j b h1 h2
  ·rename_i q1 q2;rw[K1v]at h2;split at h2
   ·cases h2;exact absurd rfl (ne h1)
   ·cases h2
  ·rename_i q1 q2;rw[K1v]at h1;split at h1
   ·cases h1;exact absurd rfl (ne h2)
   ·cases h1
  ·rw[K1v]at h1 h2;split at h1
   ·split at h2
    ·omega
    ·cases h2
   ·cases h1
 ·rw[K40]at h1 h2;rw[ln]at h2;rw[lh]at h1;split at h1
  ·rename_i q;rw[if_pos q]at h2;exact(r1.obj m u b h1 h2).mono (Pre.app _ _) (Ext.refl _ _) rfl
  ·rename_i q;rw[if_neg q]at h2;rw[K1v]at h1 h2;split at h1
   ·rename_i q0;rw[if_pos q0]at h2;cases h1;cases h2;exact(ra.cut co).mono (Pre.app _ _) (Ext.refl _ _) rfl
   ·cases h1
end
theorem z8P {K:K2}{ρ:List Addr}{h h1:AH}{H:Hp}(r:RH K ρ h H) (c:Kept h h1):∀o∈h1.take h.length,refO h.length o=true:=λo ho=>by
 obtain⟨i,hi⟩:=K2r ho;rw[K28]at hi;split at hi
 ·rename_i li;rcases c i o li hi with q|q
  ·obtain⟨a,_,ra⟩:=r.at q;rw[<- r.len];exact ra.low
  ·exact q
 ·cases hi
theorem z77 (h j:AH):Kept h (h++j):=λi o li e=>.inl (by rw[K11 li]at e;exact e)
open Classical in
noncomputable def cln (m:M D):M D:=λh=>match m h with
 | .ok d h1=>if h.length<=h1.length/\Kept h h1 then
  (if y9 h.length d=true then .ok d (h1.take h.length) else match d with
   | .ref i=>(match h1[i]? with
    | some o=>if refO h.length o=true then .ok (.ref h.length) (h1.take h.length++[o]) else .ok d h1
    | none=>.ok d h1)
   | d=>.ok d h1)
  else .ok d h1
 | .err x h1=>.err x h1
 | .bad=>.bad
theorem FE.cln {K:K2}{EX:XX}{ρ:List Addr}{h:AH}{H:Hp}{Q:VK}{m:M D}(r:RH K ρ h H) (f:FE K EX ρ H Q (cln m h)):FE K EX ρ H Q (m h):=by
 unfold FT.cln at f;cases e:m h with
 | bad=>rw[e]at f;exact f
 | err x h1=>rw[e]at f;exact f
 | ok d h1 =>
  rw[e]at f;dsimp only at f;split at f
  ·rename_i c;obtain⟨hl,c⟩:=c;have cl:=z8P r c;have pre:∀{ρ1:List Addr},Pre ρ ρ1->Pre ρ (ρ1.take h.length):=λ{ρ1} p i a q=>by
    have:=(K8.mp q).1;rw[r.len]at this;rw[z4h this];exact p i a q
   split at f
   ·rename_i cd;exact λρ1 H1 p1 e1 r1 v rv=>f _ H1 (pre p1) e1 (r1.cut cl) v (rv.cut cd)
   ·rename_i nd;split at f
    ·rename_i i;split at f
     ·rename_i o eo;split at f
      ·rename_i co;intro ρ1 H1 p1 e1 r1 v rv;have hi:h.length<=i:=by
        simp only[y9,decide_eq_true_eq]at nd;omega
       obtain⟨a,ea,r2⟩:=r1.cut1 cl hl hi eo co;refine f _ H1 ((pre p1).trans (Pre.app _ _)) e1 r2 v ?_;simp only[RD]at rv ⊢;obtain⟨b,h2,h3⟩:=rv;rw[ea]at h3;cases h3;refine⟨a,h2,?_⟩;have ln:(ρ1.take h.length).length=h.length:=by rw[K0g,r1.len];omega
       rw[K2c (by omega),ln];simp
      ·exact f
     ·exact f
    ·exact f
  ·exact f
noncomputable def clE (m:G->M D):G->M D:=λγ=>cln (m γ)
theorem z0z {X:Cx}{EX:XX}{e:Expr}{m:G->M D}(h:SE X EX e m):SE X EX e (clE m) :=
 ⟨PE.imp h.h λσ H Q ⟨ρ,γ,h,rel,fin⟩=>⟨ρ,γ,h,rel,FE.cln rel.h fin⟩⟩
open Classical in
noncomputable def clT (m:G->M Bool):G->M Bool:=λγ h=>match m γ h with
 | .ok d h1=>if h.length<=h1.length/\Kept h h1 then .ok d (h1.take h.length) else .ok d h1
 | .err x h1=>.err x h1
 | .bad=>.bad
theorem RH.cut2 {K:K2}{ρ ρ1:List Addr}{h h1:AH}{H H1:Hp}(r:RH K ρ h H) (p1:Pre ρ ρ1) (r1:RH K ρ1 h1 H1) (c:Kept h h1):RH K (ρ1.take h.length) (h1.take h.length) H1/\Pre ρ (ρ1.take h.length):=by
 refine⟨r1.cut (z8P r c),λi a q=>?_⟩;have:=(K8.mp q).1;rw[r.len]at this;rw[z4h this];exact p1 i a q
theorem zF5 {X:Cx}{EX:XX}{e:Expr}{m:G->M Bool}(h:SC X EX e m):SC X EX e (clT m) :=
 ⟨PT.imp h.h λσ H Q ⟨ρ,γ,h,rel,fin⟩=>⟨ρ,γ,h,rel,by
  unfold clT at fin;cases e:m γ h with
  | bad=>rw[e]at fin;exact fin
  | err x h1=>rw[e]at fin;exact fin
  | ok d h1 =>
   rw[e]at fin;dsimp only at fin;split at fin
   ·rename_i c;exact λρ1 H1 p1 e1 r1=>let ⟨r2,p2⟩:=rel.h.cut2 p1 r1 c.2;fin _ H1 p2 e1 r2
   ·exact fin⟩⟩
theorem Fn.cln {P:K08}{w:World}{K:K2}{mg:Str->Option Value}{base:Heap}{k:Nat}{x:Str}{n:Nat}{mf:List D->M D}(F:Fn P w K mg base k x n mf):Fn P w K mg base k x n (λds=>cln (mf ds)):=by
 obtain⟨f,fd,ps,h1,h2,h3,h4⟩:=F.ex;exact⟨f,fd,ps,h1.imp λvs H Q E ⟨hl,ρ,ds,h,rh,rd,fin⟩=>⟨hl,ρ,ds,h,rh,rd,FE.cln rh fin⟩,h2,h3,h4⟩
theorem FnX.cln {P:K08}{w:World}{K:K2}{mg:Str->Option Value}{base:Heap}{k:Nat}{x:Str}{n:Nat}{mf:List D->M D}(F:FnX P w K mg base k x n mf):FnX P w K mg base k x n (λds=>cln (mf ds)):=by
 obtain⟨f,fd,ps,h1,h2,h3,h4⟩:=F.ex;exact⟨f,fd,ps,h1.imp λvs H Q E ⟨hl,ρ,ds,h,rh,rd,fin⟩=>⟨hl,ρ,ds,h,rh,rd,FE.cln rh fin⟩,h2,h3,h4⟩
end FT
namespace L2
open PySem PySem.Spec PyProof.Rows PySem.Builtin
theorem z30:fillsNumberSlot (.type "tuple") "mul" = pure false :=
 PySem.fillsNumberSlot_seq (id:="tuple.__mul__") (r:=some (.builtin "tuple.__rmul__")) K3k.lookup (by decide +kernel) K86.lookup (by decide +kernel)
theorem z5a:seqRepeat? (.type "tuple")=pure (some (.builtin "tuple.__mul__")):=by
 unfold seqRepeat?;rw[Z11 (T:="tuple") (name:="__mul__") (id:="tuple.__mul__") K3k.lookup (by decide +kernel),Z11 (T:="tuple") (name:="__rmul__") (id:="tuple.__rmul__") K86.lookup (by decide +kernel)];rfl
theorem zv3 (a:Int) (t:Tok) (l:Addr) (items:Array Value) (n:Nat) (dd:Option Addr) (sl:Array (Option Value)) :
 Meets (Builtin.«int.__rmul__» ⟨[.int a t,.ref l],[]⟩) (λ_ R s=>s.heap.get? l=some { cls:=.type "tuple",dict:=dd,data:=.seq items n,slots:=sl }/\R (.ok (.ret Value.notImplemented)) s) :=
 .of_wp λprog w A R s h=>by obtain⟨hp,g,d,tk,os⟩:=s;obtain⟨hl,h⟩:=h;wp_walk;exact⟨_,rfl,h⟩
theorem zJ8 (l:Addr) (items:Array Value) (n:Nat) (dd:Option Addr) (sl:Array (Option Value)) (x:Int) (u:Tok) (h1:-(2 ^ 63)<=x) (h2:x<2 ^ 63) (hc:items.isEmpty=true\/x=1) :
 Meets (Builtin.«tuple.__mul__» ⟨[.ref l,.int x u],[]⟩) (λ_ R s=>s.heap.get? l=some { cls:=.type "tuple",dict:=dd,data:=.seq items n,slots:=sl }/\R (.ok (.ret (K2e l))) s) :=
 .of_wp λprog w A R s h=>by
  obtain⟨hp,g,d,tk,os⟩:=s;obtain⟨hl,h⟩:=h;have f1:=K5t;have c1:(decide (x < -(2 ^ 63))||decide (x >= 2 ^ 63))=false:=by simp;omega
  have c2:(items.isEmpty||x==1)=true:=by simpa using hc
  wp_walk using K1b hl
  refine K3f (by rw[c1];rfl) ?_
  wp_walk using K1b hl
  exact⟨_,rfl,h⟩
theorem zI0 (l:Addr) (items:Array Value) (n:Nat) (dd:Option Addr) (sl:Array (Option Value)) (x:Int) (u:Tok) (h1:-(2 ^ 63)<=x) (h2:x<2 ^ 63) (hc:items.isEmpty=false) (hx:x<=0) :
 Meets (Builtin.«tuple.__mul__» ⟨[.ref l,.int x u],[]⟩) (λ_ R s=>s.heap.get? l=some { cls:=.type "tuple",dict:=dd,data:=.seq items n,slots:=sl }/\R (.ok (.ret (K2e s.heap.objs.size))) { s with heap:=s.heap.push { cls:=K4e "tuple",data:=Data.seq #[] },toks:=s.toks }) :=
 .of_wp λprog w A R s h=>by
  obtain⟨hp,g,d,tk,os⟩:=s;obtain⟨hl,h⟩:=h;have f1:=K5t;have c1:(decide (x < -(2 ^ 63))||decide (x >= 2 ^ 63))=false:=by simp;omega
  have c2:(items.isEmpty||x==1)=false:=by rw[hc];simp;omega
  have c3:(decide (x<=0)||items.isEmpty)=true:=by simp[hx]
  wp_walk using K1b hl
  refine K3f (by rw[c1];rfl) ?_
  wp_walk using K1b hl
  refine K3f (by rw[c2];rfl) ?_
  wp_walk using K1b hl
  exact⟨_,rfl,h⟩
theorem zD9 (l:Addr) (items:Array Value) (n:Nat) (dd:Option Addr) (sl:Array (Option Value)) (x:Int) (u:Tok) (h1:-(2 ^ 63)<=x) (h2:x<2 ^ 63) (hc:items.isEmpty=false) (hx:1<x) (hz:items.size * x.toNat<=sizeLine) :
 Meets (Builtin.«tuple.__mul__» ⟨[.ref l,.int x u],[]⟩) (λ_ R s=>s.heap.get? l=some { cls:=.type "tuple",dict:=dd,data:=.seq items n,slots:=sl }/\R (.ok (.ret (K2e s.heap.objs.size))) { s with heap:=s.heap.push { cls:=K4e "tuple",data:=Data.seq (K6h (λx1 x2=>x1++x2) #[] (K0n x.toNat items)) },toks:=s.toks }) :=
 .of_wp λprog w A R s h=>by
  obtain⟨hp,g,d,tk,os⟩:=s;obtain⟨hl,h⟩:=h;have f1:=K5t;have c1:(decide (x < -(2 ^ 63))||decide (x >= 2 ^ 63))=false:=by simp;omega
  have c2:(items.isEmpty||x==1)=false:=by rw[hc];simp;omega
  have c3:(decide (x<=0)||items.isEmpty)=false:=by rw[hc];simp;omega
  have ez:(items.size:Int) * x=((items.size * x.toNat:Nat):Int):=by
   rw[Int.natCast_mul,K32 (by omega)]
  have sl4:(sizeLine:Nat)<=2 ^ 24:=by decide
  have c4:¬ (items.size:Int) * x > (2 ^ 63 - 1) / 8:=by rw[ez];omega
  have c5:Tuple.tupleTooMany ((items.size:Int) * x)=false:=by
   unfold Tuple.tupleTooMany;rw[ez,decide_eq_false_iff_not];omega
  wp_walk using K1b hl
  refine K3f (by rw[c1];rfl) ?_
  wp_walk using K1b hl
  refine K3f (by rw[c2];rfl) ?_
  wp_walk using K1b hl
  refine K3f (by rw[c3];rfl) ?_
  wp_walk using K1b hl
  rw[if_neg c4]
  wp_walk using K1b hl
  refine K3f (by rw[c5];rfl) ?_
  wp_walk using K1b hl
  have c6:¬ (K6h (λx1 x2=>x1++x2) #[] (K0n x.toNat items)).size > sizeLine:=by
   have f0:=foldl_rep items.toList x.toNat [];rw[K5f]at f0;have:(K6h (λx1 x2=>x1++x2) #[] (K0n x.toNat items))=(K0n x.toNat items.toList).flatten.toArray:=f0;rw[this,K9,len_rep,K15,K5x];omega
  refine K3f (decide_eq_false c6) ?_
  wp_walk using K1b hl
  exact⟨_,rfl,h⟩
def zF4 (K:K2):R2:=λx y H Q=>∃a k xs,x=.ref a/\y=.int k/\SqT K H a xs/\-(2 ^ 63)<=k/\k<2 ^ 63/\xs.length * k.toNat<=sizeLine /\
 ((xs=[]\/k=1)->Q (.ref a) H)/\(∀p,H p=none->Q (.ref p) (upd H p (.tup (K0n k.toNat xs).flatten)))
theorem zr9 {X:Cx}:OpR X (K3g .Mult) (zF4 X.K):=by
 intro pins s σ H x y v u Q I rx ry h;obtain⟨a,k,xs,rfl,rfl,ha,h1,h2,hz,q1,q2⟩:=h;cases rx;obtain⟨t,rfl⟩:=ry;obtain⟨its,r1,p1,_⟩:=I.tuple ha;obtain⟨⟨cls,dd,data,sl⟩,ho,hc,n,hd⟩:=id p1;simp only at hc hd;subst hc hd;have go:∀(R:Value->Shared->Prop),wpAny (model X.prog X.w) X.A (call (.builtin "tuple.__mul__") [.ref a,.int k t]) R X.xe s->wpAny (model X.prog X.w) X.A (K3g .Mult (.ref a) (.int k t)) R X.xe s:=λR z =>
  K7o (T:="tuple") (U:="int") (by decide) ⟨_,ho,rfl⟩ (λs'=>K8p s' k t) z30 PySem.F.fills_int_mul K97 z5a PySem.F.slot_int_index.lookup
   (K4g K97 (K8p s k t) PySem.F.entry_int_rmul (PySem.F.args_int_rmul_2 _ _) (zv3 k t a its.toArray n dd sl) ⟨ho,rfl,⟨_,ho,rfl⟩,z⟩)
 refine go _ ?_;have ln:its.length=xs.length:=r1.length.symm;by_cases c:xs=[]\/k=1
 ·refine K4g K3k ⟨_,ho,rfl⟩ K5o (K5d _ _) (zJ8 a its.toArray n dd sl k t h1 h2 ?_) ⟨ho,.ref a,H,I,rfl,q1 c⟩;rcases c with c|c
  ·left;have:its=[]:=r1.nil_iff.mpr c;rw[this];rfl
  ·exact .inr c
 ·have ne:its.toArray.isEmpty=false:=by
   cases its with
   | nil=>exact absurd (.inl (r1.nil_iff.mp rfl)) c
   | cons a r=>rfl
  by_cases k0:k<=0
  ·refine K4g K3k ⟨_,ho,rfl⟩ K5o (K5d _ _) (zI0 a its.toArray n dd sl k t h1 h2 ne k0) ⟨ho,?_⟩;have e0:k.toNat=0:=by omega
   refine⟨.ref s.heap.objs.size,_,I.laid (t':=s.toks) (o:=.tup (K0n k.toNat xs).flatten) (λb ob q=>K4 _ q) (K03 _) ?_,rfl,q2 _ (I.hok.fresh (K03 _))⟩;rw[e0];exact⟨by simp,_,.nil,FT.IsTup0.new _ _⟩
  ·have k2:1<k:=by
    have:k≠1:=λz=>c (.inr z);omega
   refine K4g K3k ⟨_,ho,rfl⟩ K5o (K5d _ _) (zD9 a its.toArray n dd sl k t h1 h2 ne k2 (by rw[K9,ln];exact hz)) ⟨ho,?_⟩;refine⟨.ref s.heap.objs.size,_,I.laid (t':=s.toks) (o:=.tup (K0n k.toNat xs).flatten) (λb ob q=>K4 _ q) (K03 _) ?_,rfl,q2 _ (I.hok.fresh (K03 _))⟩;refine⟨by rw[len_rep,K5x];exact hz,_,r1.rep k.toNat,?_⟩;have f0:=foldl_rep its k.toNat [];rw[K5f]at f0;have e:(K6h (λx1 x2=>x1++x2) #[] (K0n k.toNat its.toArray))=(K0n k.toNat its).flatten.toArray:=f0;rw[e];exact FT.IsTup0.new _ _
end L2
namespace FT
def z4w:D->D->M D
 | .tup x,.int j=>if decide (-(2 ^ 63)<=j)&&decide (j<2 ^ 63)&&decide (j.toNat * x.length<=sizeLine) then pure (.tup (K0n j.toNat x).flatten) else bad
 | x,y=>fMul x y
theorem zq1 {X:Cx}{EX:XX}:BR X.K EX (λx y H Q=>(rI CMul (λi j=>.int (i * j)) x y H Q\/rRep x y H Q)\/zF4 X.K x y H Q) z4w:=by
 intro ρ h H x y v u Q r rx ry fin;unfold z4w at fin;split at fin
 ·rename_i ds j;simp only[RD]at rx ry;obtain⟨a,xs,rfl,sq,rd⟩:=rx;subst ry;split at fin
  ·rename_i hc;simp only[K0h,decide_eq_true_eq]at hc;have hl:=rd.length;refine .inr ⟨a,j,xs,rfl,rfl,sq,hc.1.1,hc.1.2,by rw[<- hl,K5x];exact hc.2,λc=>?_,λp hp=>FE.tup fin r (rd.flat j.toNat) hp⟩;refine FE.here fin r ?_;simp only[RD];refine⟨a,xs,rfl,sq,?_⟩;rcases c with c|c
   ·subst c;have:ds=[]:=by simpa using hl
    subst this;have:(K0n j.toNat ([]:List D)).flatten=[]:=by simp
    rw[this];exact rd
   ·subst c;have:(K0n (1:Int).toNat ds).flatten=ds:=by simp
    rw[this];exact rd
  ·exact fin.elim
 ·exact .inl (zF0 ρ h H x y v u Q r rx ry fin)
theorem z4x {X:Cx}{EX:XX}{a b:Expr}{pos:Pos}{ma mb:G->M D}(ha:SE X EX a ma) (hb:SE X EX b mb):SE X EX (.BinOp a .Mult b pos) (e2 z4w ma mb):=z7m ((op_mul.or zC9).or zr9) zq1 ha hb
theorem z7E {α:Type}{M:Model}{A:Around}{E:Value->Shared->Prop}{Q:α->Shared->Prop}{s:Shared}{K:K2}{d:Addr}{name:Str}{v:Value}{t:Sem α}{part:Option Value}{k:Obj->Sem α}
 (X:K.In s.heap) (n:K25 K d name=some (some v)) (e:t=.load d part k) (z:∀o,nsLook name o=pure (some v)->wpAny M A (k o) Q E s):wpAny M A t Q E s:=by
 unfold K25 at n;split at n
 ·rename_i o1 o2 es sz o3 lk;have hg:=X _ _ lk;split at n
  ·rename_i e2 fe;cases n;rw[e];refine K0 (m:=loadPart d part) (wpAny_loadPart hg (z _ ?_));rw[nsLook_eq];unfold nsLookByArray;dsimp only;rw[<- Z0a,fe]
  ·split at n<;>cases n
 ·cases n
def DefK (K:K2) (x:Str) (st:Stmt) (dk:Addr):Prop:=∃(f:Addr) (oc:Value) (od:Option Addr) (doc pm:Value) (an:Option Addr) (cdv ct:Value) (osl:Array (Option Value)),K25 K K1q x=some (.(r f)) /\
 K.lookup f=some ⟨oc,od,.func (K2l x x (z12 st) (v7 st) (j8 st) .none (.ref dk) doc pm an cdv ct),osl⟩/\K2v K cdv x=true/\K1z K (.ref f)=true
theorem defK_mk {K:K2}{x:Str}{st:Stmt}{f dk:Addr}{oc:Value}{od an:Option Addr}{sl:Array (Option Value)}{dc pm cd ct:Value}(a:K25 K K1q x=some (.(r f)))
 (l:K.lookup f=some ⟨oc,od,.func (K2l x x (z12 st) (v7 st) (j8 st) .none (.ref dk) dc pm an cd ct),sl⟩) (c:K2v K cd x=true) (k:K1z K (.ref f)=true):DefK K x st dk:=⟨f,oc,od,dc,pm,an,cd,ct,sl,a,l,c,k⟩
structure KD (K:K2) (dk:Addr) (name:Str) (d:D) (v:V) (u:Value):Prop where
 ns:K25 K dk name=some (some u)
 rel:RelV v u
 rd:∀ρ H,RD K ρ H d v
theorem kd_int {K:K2}{dk:Addr}{x:Str}{i:Int}{t:Tok}(h:K25 K dk x=some (some (.int i t))):KD K dk x (.int i) (.int i) (.int i t):=⟨h,⟨t,rfl⟩,λ_ _=>by simp[RD]⟩
structure FnR (P:K08) (w:World) (K:K2) (mg:Str->Option Value) (base:Heap) (k:Nat) (x:Str) (st:Stmt) (dk:Addr) (ps:List Str) (mf:List D->M D):Prop where
 ex:∃(f:Addr) (doc pm:Value) (an:Option Addr) (cdv ct:Value),FnOk P w K mg base CX0 k f (K2l x x (z12 st) (v7 st) (j8 st) .none (.ref dk) doc pm an cdv ct) ps (spB K mf ps.length)/\K1z K (.ref f)=true/\mg x=.(r f)
theorem FnR.cln {P:K08}{w:World}{K:K2}{mg:Str->Option Value}{base:Heap}{k:Nat}{x:Str}{st:Stmt}{dk:Addr}{ps:List Str}{mf:List D->M D}(F:FnR P w K mg base k x st dk ps mf):FnR P w K mg base k x st dk ps (λds=>FT.cln (mf ds)):=by
 obtain⟨f,doc,pm,an,cdv,ct,h1,h2,h3⟩:=F.ex;exact⟨f,doc,pm,an,cdv,ct,h1.imp λvs H Q E ⟨hl,ρ,ds,h,rh,rd,fin⟩=>⟨hl,ρ,ds,h,rh,rd,FE.cln rh fin⟩,h2,h3⟩
theorem zJ4 {P:K08}{w:World}{K:K2}{mg:Str->Option Value}{base:Heap}{x:Str}{st:Stmt}{dk:Addr}{N ps:List Str}{k:Nat}{mb:G->M Out}(T:DefK K x st dk) (mx:∀v,K25 K K1q x=some (some v)->mg x=some v) (S:FnScope N ps (j8 st))
 (body:∀(f:Addr) (cdv:Value) (A:Around) (outer:List Env) (s:Shared) (H:Hp) (E:XK),K2v K cdv x=true->Room k (A.deeper (envOfC x (j8 st) s.heap.objs.size f cdv)) ->
  SB (cxOf CX0 P w K mg base N x (j8 st) f cdv A outer s H E).nox EX0 (v7 st) mb):FnR P w K mg base (k+1) x st dk ps (runF N.length mb):=by
 obtain⟨f,oc,od,doc,pm,an,cdv,ct,osl,hf,lk,hcd,kp⟩:=T;refine⟨f,doc,pm,an,cdv,ct,?_,kp,mx _ hf⟩;refine zv6 lk hcd S (λvs H Q E h=>h.1) λA outer s H vs Q E hr h=>?_;obtain⟨hl,ρ,ds,h,rh,rd,fin⟩:=h;refine⟨_,(body f cdv A outer s H E hcd hr).h.nox,ρ,z0Y N.length ds,h,⟨z3k rd,rh⟩,?_⟩;refine(Fin.bind fin).mono λo ρ1 h1 H1 p1 e1 r1 f1=>?_;cases o with
 | nx γ=>exact λσ _=>FE.here (d:=.non) (h:=h1) f1 r1 (by simp[RD])
 | rt d=>exact λv rv=>f1 ρ1 H1 (Pre.refl _) (Ext.refl _ _) r1 v rv
 | bk γ=>exact(show False from f1).elim
 | ct γ=>exact(show False from f1).elim
structure FnP (P:K08) (w:World) (K:K2) (mg:Str->Option Value) (base:Heap) (k:Nat) (x:Str) (n:Nat) (ks:List Str) (d1 d2:List D) (mf:List D->M D):Prop where
 ex:∃f fd ps g gV v1 v2,FnOk P w K mg base CX0 k f fd ps (spB K mf ps.length)/\KBinds K fd ps ks g gV/\K1z K (.ref f)=true/\mg x=.(r f)/\(∀vs zs:List V,vs.length=n->zs.length=ks.length->gV vs zs=vs++(v1++zs++v2)/\(gV vs zs).length=ps.length) /\
  ∀ρ H,RDs K ρ H d1 v1/\RDs K ρ H d2 v2
theorem FnR.pat {P:K08}{w:World}{K:K2}{mg:Str->Option Value}{base:Heap}{k:Nat}{x:Str}{st:Stmt}{dk:Addr}{ps:List Str}{mf:List D->M D}(F:FnR P w K mg base k x st dk ps mf) (n:Nat) (ks:List Str) {d1 d2:List D}{v1 v2:List V}{u1 u2:List Value}
 (r1:Vals v1 u1) (r2:Vals v2 u2) (e1:∀ρ H,RDs K ρ H d1 v1) (e2:∀ρ H,RDs K ρ H d2 v2) (hp:0<ps.length) (hl:n+(u1.length+ks.length+u2.length)=ps.length)
 (hB:∀(doc pm:Value) (an:Option Addr) (cdv ct:Value) (s:Shared) (us ws:List Value),K.In s.heap->us.length=n->ws.length=ks.length->K8n s (K2l x x (z12 st) (v7 st) (j8 st) .none (.ref dk) doc pm an cdv ct) ⟨us,ks.zip ws⟩ (ps.zip (us++(u1++ws++u2)))):FnP P w K mg base k x n ks d1 d2 mf:=by
 obtain⟨f,doc,pm,an,cdv,ct,h1,h2,h3⟩:=F.ex;refine⟨f,_,ps,λus ws=>if us.length=n/\ws.length=ks.length then us++(u1++ws++u2) else [],λus ws=>if us.length=n/\ws.length=ks.length then us++(v1++ws++v2) else [],v1,v2,h1,⟨λs us ws X q=>?_,λ{vs us zs ws} a b=>?_⟩,h2,h3,λvs zs a b=>?_,λρ H=>⟨e1 ρ H,e2 ρ H⟩⟩
 ·split at q
  ·rename_i c;rw[if_pos c];exact hB doc pm an cdv ct s us ws X c.1 c.2
  ·rw[K0c]at q;omega
 ·rw[a.length,b.length];split
  ·exact a.append ((r1.append b).append r2)
  ·exact .nil
 ·dsimp only;rw[if_pos ⟨a,b⟩];refine⟨rfl,?_⟩;simp only[K06,r1.length,r2.length];omega
structure SK (X:Cx) (EX:XX) (kws:List K3d) (m:G->M (List D)):Prop where
 h:PK X kws (tL X.K EX m)
theorem PK.imp {X:Cx}{e:List K3d}{t t':TA}(h:PK X e t) (f:∀σ H Q,t' σ H Q->t σ H Q):PK X e t':=λpos pins s σ H Q I z=>h pos pins s σ H Q I (f σ H Q z)
section
variable {X:Cx}{a e:Expr}{es:List Expr}{kws:List K3d}{pos p kpos:Pos}{mr mk:G->M (List D)}{ma:G->M D}{nm:Option Str}{EX:XX}
theorem zg6:SK X EX [] aNil:=⟨PK.imp zJ1 λσ H Q ⟨ρ,γ,h,rel,fin⟩=>fin ρ H (Pre.refl _) (Ext.refl _ _) rel.h [] RDs.nil⟩
theorem zq5 (ha:SE X EX e ma) (hr:SK X EX kws mr):SK X EX (⟨nm,e,kpos⟩::kws) (Z1 ma mr) :=
 ⟨PK.imp (zk1 ha.h hr.h) λσ H Q ⟨ρ,γ,h,rel,fin⟩=>⟨ρ,γ,h,rel,(Fin.bind fin).mono λx ρ1 h1 H1 p1 e1 r1 f1 v rv=>⟨ρ1,γ,h1,⟨rel.g.mono p1 e1,r1⟩,(Fin.bind f1).mono λxs ρ2 h2 H2 p2 e2 r2 f2 vs rvs =>
  f2 ρ2 H2 (Pre.refl _) (Ext.refl _ _) r2 (v::vs) (RDs.cons (rv.mono p2 e2) rvs)⟩⟩⟩
def eFnP (n q:Nat) (d1 d2:List D) (mf:List D->M D) (mr mk:G->M (List D)):G->M D:=λγ=>do
 let xs <- mr γ;let zs <- mk γ
 if xs.length=n/\zs.length=q then mf (xs++(d1++zs++d2)) else bad
theorem z6c {k n q:Nat}{x:Str}{ks:List Str}{d1 d2:List D}{mf:List D->M D}(F:FnP X.prog X.w X.K X.mg X.base k x n ks d1 d2 mf) (hr:Room k X.A) (hg:Gl X x) (ha:SA X EX0 (a::es) mr) (hk:SK X EX0 kws mk)
 (hall:(K3r pos (K2b kws X.env)).all (·.1.isSome)=true:=by rfl) (hks:(K3r pos (K2b kws X.env)).filterMap (·.1)=ks:=by rfl)
 (hdb:(x==("__debug__":Str))=false:=by decide) (he:K05 (a::es) X.env=(false,eval a X.env)::K05 es X.env:=by rfl)
 (hpl:((backTo pos (K05 (a::es) X.env)).any (·.1)||(K3r pos (K2b kws X.env)).any (·.1.isNone))=false:=by rfl) (hq:ks.length=q:=by rfl):SE X EX0 (.Call (.Name x p) (a::es) kws pos) (eFnP n q d1 d2 mf mr mk):=by
 subst hq;constructor;obtain⟨f,fd,ps,g,gV,v1,v2,h1,h2,h3,h4,h5,h6⟩:=F.ex;refine PE.imp (z9I h1 hr hg h4 h3 h2 zH2 ha.h hk.h hall hks hdb he hpl) λσ H Q ⟨ρ,γ,h,rel,fin⟩=>⟨ρ,γ,h,rel,(Fin.bind fin).mono λxs ρ1 h1 H1 p1 e1 r1 f1 vs rvs=>⟨ρ1,γ,h1,⟨rel.g.mono p1 e1,r1⟩,(Fin.bind f1).mono λzs ρ2 h2 H2 p2 e2 r2 f2 us rus=>?_⟩⟩;show spB X.K mf ps.length (gV vs us) H2 Q E0;by_cases c:xs.length=n/\zs.length=ks.length
 ·rw[if_pos c]at f2;have l1:=rvs.length;have l2:=rus.length;obtain⟨q1,q2⟩:=h5 vs us (by omega) (by omega);refine⟨q2,ρ2,_,h2,r2,?_,f2⟩;rw[q1];exact(rvs.mono p2 e2).append (((h6 ρ2 H2).1.append rus).append (h6 ρ2 H2).2)
 ·rw[if_neg c]at f2;exact(show False from f2).elim
end
theorem z4i {K:K2}:∀ρ H,RDs K ρ H [] []:=λ_ _=>RDs.nil
theorem zc6 {K:K2}{dk:Addr}{x:Str}{d:D}{v:V}{u:Value}(h:KD K dk x d v u):∀ρ H,RDs K ρ H [d] [v]:=λρ H=>RDs.cons (h.rd ρ H) RDs.nil
end FT
namespace L2
open PySem.AutoSeq1 (wpAny_loadPart')
section
variable {prog:K08}{w:World}{A:Around}{E:Value->Shared->Prop}{s:Shared}
end
section
variable {X:Cx}
end
end L2
namespace FT
section
variable {X:Cx}{EX:XX}{a:Expr}{p p2 pos pos2:Pos}{ma:G->M D}
end
inductive Vw where
 | flat (d:D)|tup (xs:List D)|lst (xs:List D)|no
def vw (h:AH):D->Vw
 | .tup xs=>.tup xs
 | .fl xs=>.lst xs
 | .ref i=>match h[i]? with
  | .(l xs)=>.lst xs
  | _=>.no
 | d=>.flat d
def eqZ (f:D->D->Option Bool):List D->List D->Option Bool
 | [],[]=>some true
 | x::xs,y::ys=>match f x y,eqZ f xs ys with
  | some a,some b=>some (a&&b)
  | _,_=>none
 | _,_=>some false
def eqN:Nat->AH->D->D->Option Bool
 | 0,_,_,_=>none
 | n+1,h,x,y=>match vw h x,vw h y with
  | .flat a,.flat b=>some (eqF a b)
  | .tup xs,.tup ys=>eqZ (eqN n h) xs ys
  | .lst xs,.lst ys=>eqZ (eqN n h) xs ys
  | .no,_=>none
  | _,.no=>none
  | _,_=>some false
def eqE (f:D->D->Option Bool) (xs ys:List D) (j:Nat):Bool:=(f (xs.getD j .non) (ys.getD j .non)).getD false
theorem z4l {f:D->D->Option Bool}:∀{xs ys:List D}{b:Bool},eqZ f xs ys=some b ->
 (∀j x y,xs[j]?=some x->ys[j]?=some y->f x y=some (eqE f xs ys j))/\b=((K0o (min xs.length ys.length)).all (eqE f xs ys)&&xs.length==ys.length)
 | [],[],b,h=>by
  unfold eqZ at h;cases h;exact⟨λj x y e=>by simp at e,by simp⟩
 | [],y::ys,b,h=>by
  unfold eqZ at h;cases h;exact⟨λj x y e=>by simp at e,by simp⟩
 | x::xs,[],b,h=>by
  unfold eqZ at h;cases h;exact⟨λj x y _ e=>by simp at e,by simp⟩
 | x::xs,y::ys,b,h=>by
  unfold eqZ at h;split at h
  ·rename_i a c e1 e2;cases h;obtain⟨q1,q2⟩:=z4l e2;refine⟨λj p q ep eq=>?_,?_⟩
   ·cases j with
    | zero=>simp at ep eq;subst ep;subst eq;unfold eqE;simp[e1]
    | succ j=>simpa [eqE] using q1 j p q (by simpa using ep) (by simpa using eq)
   ·rw[q2];have:min (x::xs).length (y::ys).length=min xs.length ys.length+1:=by simp
    rw[this,List.range_succ_eq_map,K5b,Z0i,<- Bool.and_assoc];congr 1
    ·unfold eqE;simp[e1,Z0l]
    ·simp
  ·cases h
section
variable {K:K2}{ρ:List Addr}{h:AH}{H:Hp}
theorem z1U {d a:D}(e:vw h d=.flat a):a=d/\z1a d=true:=by
 cases d<;>simp[vw]at e<;>first|(subst e;exact⟨rfl,rfl⟩)|skip
 split at e<;>cases e
theorem z2X {d:D}{xs:List D}{v:V}(e:vw h d=.tup xs) (r:RD K ρ H d v):∃a vs,v=.ref a/\SqT K H a vs/\RDs K ρ H xs vs:=by
 cases d<;>simp[vw]at e
 ·subst e;simpa [RD] using r
 ·split at e<;>cases e
theorem z2T {d:D}{xs:List D}{v:V}(rh:RH K ρ h H) (e:vw h d=.lst xs) (r:RD K ρ H d v):∃a vs,v=.ref a/\SqL K H a vs/\RDs K ρ H xs vs:=by
 cases d<;>simp[vw]at e
 ·subst e;simp only[RD]at r;obtain⟨a,vs,h1,h2,h3⟩:=r;exact⟨a,vs,h1,h2.sq,h3⟩
 ·split at e
  ·rename_i i xs' ei;cases e;simp only[RD]at r;obtain⟨a,h1,h2⟩:=r;obtain⟨a',h3,vs,h4,h5⟩:=rh.at ei;rw[h2]at h3;cases h3;exact⟨a,vs,h1,SqL.of h4,h5⟩
  ·cases e
end
section
variable {X:Cx}{pins:List (Addr×Obj)}{σ:L2.St}{ρ:List Addr}{h:AH}{H:Hp}{s:Shared}
theorem z4A {K:K2}{a:Addr}:∀{d:D},z1a d=true->RD K ρ H d (.ref a)->False
 | .non,_,r=>by simp[RD]at r
 | .bl _,_,r=>by simp[RD]at r
 | .int _,_,r=>by simp[RD]at r
 | .str _,_,r=>by simp[RD]at r
 | .tup _,f,_=>by cases f
 | .fl _,f,_=>by cases f
 | .ref _,f,_=>by cases f
theorem zf6:∀{d:D},z1a d=true->eqF d d=true
 | .non,_=>rfl
 | .bl _,_=>by simp[eqF]
 | .int _,_=>by simp[eqF]
 | .str _,_=>by simp[eqF]
 | .tup _,f=>by cases f
 | .fl _,f=>by cases f
 | .ref _,f=>by cases f
def flV:D->V
 | .bl b=>.bl b
 | .int i=>.int i
 | .str x=>.str x
 | _=>.non
theorem z45 {K:K2}:∀{d:D}{v:V},z1a d=true->RD K ρ H d v->v=flV d
 | .non,_,_,r=>by simp only[RD]at r;exact r
 | .bl _,_,_,r=>by simp only[RD]at r;exact r
 | .int _,_,_,r=>by simp only[RD]at r;exact r
 | .str _,_,_,r=>by simp only[RD]at r;exact r
 | .tup _,_,f,_=>by cases f
 | .fl _,_,f,_=>by cases f
 | .ref _,_,f,_=>by cases f
theorem zq0:∀{a b:D},z1a a=true->z1a b=true->flV a=flV b->a=b
 | .non,.non,_,_,_=>rfl
 | .bl _,.bl _,_,_,e=>by cases e;rfl
 | .int _,.int _,_,_,e=>by cases e;rfl
 | .str _,.str _,_,_,e=>by cases e;rfl
 | .non,.bl _,_,_,e=>by cases e
 | .non,.int _,_,_,e=>by cases e
 | .non,.str _,_,_,e=>by cases e
 | .bl _,.non,_,_,e=>by cases e
 | .bl _,.int _,_,_,e=>by cases e
 | .bl _,.str _,_,_,e=>by cases e
 | .int _,.non,_,_,e=>by cases e
 | .int _,.bl _,_,_,e=>by cases e
 | .int _,.str _,_,_,e=>by cases e
 | .str _,.non,_,_,e=>by cases e
 | .str _,.bl _,_,_,e=>by cases e
 | .str _,.int _,_,_,e=>by cases e
 | .tup _,_,f,_,_=>by cases f
 | .fl _,_,f,_,_=>by cases f
 | .ref _,_,f,_,_=>by cases f
 | _,.tup _,_,f,_=>by cases f
 | _,.fl _,_,f,_=>by cases f
 | _,.ref _,_,f,_=>by cases f
theorem list_inj {a:Addr}{xs ys:List V}(I:Inv X pins σ H s) (h1:SqL X.K H a xs) (h2:SqL X.K H a ys):xs=ys:=by
 obtain⟨its,r,⟨o,n,e,_,_,d⟩,_⟩:=I.list h1;obtain⟨its',r',⟨o',n',e',_,_,d'⟩,_⟩:=I.list h2;rw[e]at e';cases e';rw[d]at d';injection d' with d1 _
 have:its=its':=by simpa using congrArg Z0h d1
 subst this;exact r.inj r'
theorem z6H (I:Inv X pins σ H s) (rh:RH X.K ρ h H):∀(n:Nat) {d1 d2:D}{v:V}{b:Bool},RD X.K ρ H d1 v->RD X.K ρ H d2 v->eqN n h d1 d2=some b->b=true
 | 0,d1,d2,v,b,_,_,e=>by cases e
 | n+1,d1,d2,v,b,r1,r2,e=>by
  have elems:∀{xs ys:List D} {vs:List V},RDs X.K ρ H xs vs->RDs X.K ρ H ys vs->eqZ (eqN n h) xs ys=some b->b=true:=λ{xs ys vs} q1 q2 z=>by
   obtain⟨z1,z2⟩:=z4l z;have l1:=q1.length;have l2:=q2.length;rw[z2,K0h,K23];refine⟨λj hj=>?_,by simp;omega⟩;have hj':j<xs.length:=by simp at hj;omega
   have e1:xs[j]?=some xs[j]:=K7 hj';have e2:ys[j]?=some ys[j]:=K7 (by omega);obtain⟨w1,a1,a2⟩:=q1.get e1;obtain⟨w2,b1,b2⟩:=q2.get e2;rw[a1]at b1;cases b1;exact z6H I rh n a2 b2 (z1 j _ _ e1 e2)
  unfold eqN at e;have nl:∀{a:Addr} {vs ws:List V},SqT X.K H a vs->SqL X.K H a ws->False:=λ{a vs ws} t1 t2=>by
   obtain⟨its,_,p1,_⟩:=I.tuple t1;obtain⟨its2,_,p2,_⟩:=I.list t2;exact SeqAt.ne_of_list_tuple p2.isList (show s.heap.IsTuple a its.toArray from p1) rfl
  cases e1:vw h d1 with
  | no=>rw[e1]at e;cases e2:vw h d2<;>rw[e2]at e<;>cases e
  | flat a =>
   rw[e1]at e;obtain⟨rfl,f1⟩:=z1U e1;cases e2:vw h d2 with
   | no=>rw[e2]at e;cases e
   | flat c =>
    rw[e2]at e;obtain⟨rfl,f2⟩:=z1U e2;cases e;have:=zq0 f1 f2 ((z45 f1 r1).symm.trans (z45 f2 r2));subst this;exact zf6 f1
   | tup ys=>obtain⟨a',vs,rfl,_,_⟩:=z2X e2 r2;exact(z4A f1 r1).elim
   | lst ys=>obtain⟨a',vs,rfl,_,_⟩:=z2T rh e2 r2;exact(z4A f1 r1).elim
  | tup xs =>
   rw[e1]at e;obtain⟨a,vs,rfl,t1,q1⟩:=z2X e1 r1;cases e2:vw h d2 with
   | no=>rw[e2]at e;cases e
   | flat c=>obtain⟨rfl,f2⟩:=z1U e2;exact(z4A f2 r2).elim
   | tup ys =>
    rw[e2]at e;obtain⟨a',ws,ea,t2,q2⟩:=z2X e2 r2;cases ea;have:=I.tuple_inj t1 t2;subst this;exact elems q1 q2 e
   | lst ys =>
    obtain⟨a',ws,ea,t2,q2⟩:=z2T rh e2 r2;cases ea;exact(nl t1 t2).elim
  | lst xs =>
   rw[e1]at e;obtain⟨a,vs,rfl,t1,q1⟩:=z2T rh e1 r1;cases e2:vw h d2 with
   | no=>rw[e2]at e;cases e
   | flat c=>obtain⟨rfl,f2⟩:=z1U e2;exact(z4A f2 r2).elim
   | lst ys =>
    rw[e2]at e;obtain⟨a',ws,ea,t2,q2⟩:=z2T rh e2 r2;cases ea;have:=list_inj I t1 t2;subst this;exact elems q1 q2 e
   | tup ys =>
    obtain⟨a',ws,ea,t2,q2⟩:=z2X e2 r2;cases ea;exact(nl t2 t1).elim
open SeqAt in
theorem mixT {A:Around}{u:Value}{d:D}{v:V}{K:K2}{a:Addr}{its:Array Value}(f:z1a d=true) (r:RD K ρ H d v) (ru:RelV v u) (p:s.heap.IsTuple a its) (hu:A.units<cLine):EqAt A s u (.ref a) false/\EqAt A s (.ref a) u false/\RcAt A s u (.ref a) false/\RcAt A s (.ref a) u false/\RcNeAt A s u (.ref a) true/\RcNeAt A s (.ref a) u true:=by
 have:=z45 f r;subst this;cases d with
 | non=>cases ru;exact⟨.none_tuple p hu,.tuple_none p hu,.none_tuple p hu,.tuple_none p hu,.none_tuple p hu,.tuple_none p hu⟩
 | bl b=>cases ru;exact⟨.bool_tuple b p hu,.tuple_bool b p hu,.bool_tuple b p hu,.tuple_bool b p hu,.bool_tuple b p hu,.tuple_bool b p hu⟩
 | int i=>obtain⟨t,rfl⟩:=ru;exact⟨.int_tuple i t p hu,.tuple_int i t p hu,.int_tuple i t p hu,.tuple_int i t p hu,.int_tuple i t p hu,.tuple_int i t p hu⟩
 | str x=>obtain⟨t,rfl⟩:=ru;exact⟨.str_tuple x t p hu,.tuple_str x t p hu,.str_tuple x t p hu,.tuple_str x t p hu,.str_tuple x t p hu,.tuple_str x t p hu⟩
 | tup _=>cases f
 | fl _=>cases f
 | ref _=>cases f
open SeqAt in
theorem mixL {A:Around}{u:Value}{d:D}{v:V}{K:K2}{a:Addr}{its:Array Value}(f:z1a d=true) (r:RD K ρ H d v) (ru:RelV v u) (p:s.heap.IsList a its) (hu:A.units<cLine):EqAt A s u (.ref a) false/\EqAt A s (.ref a) u false/\RcAt A s u (.ref a) false/\RcAt A s (.ref a) u false/\RcNeAt A s u (.ref a) true/\RcNeAt A s (.ref a) u true:=by
 have:=z45 f r;subst this;cases d with
 | non=>cases ru;exact⟨.none_list p hu,.list_none p hu,.none_list p hu,.list_none p hu,.none_list p hu,.list_none p hu⟩
 | bl b=>cases ru;exact⟨.bool_list b p hu,.list_bool b p hu,.bool_list b p hu,.list_bool b p hu,.bool_list b p hu,.list_bool b p hu⟩
 | int i=>obtain⟨t,rfl⟩:=ru;exact⟨.int_list i t p hu,.list_int i t p hu,.int_list i t p hu,.list_int i t p hu,.int_list i t p hu,.list_int i t p hu⟩
 | str x=>obtain⟨t,rfl⟩:=ru;exact⟨.str_list x t p hu,.list_str x t p hu,.str_list x t p hu,.list_str x t p hu,.str_list x t p hu,.list_str x t p hu⟩
 | tup _=>cases f
 | fl _=>cases f
 | ref _=>cases f
open SeqAt in
theorem zS0 {A:Around}{u1 u2:Value}:∀(d1 d2:D),z1a d1=true->z1a d2=true->RelV (flV d1) u1->RelV (flV d2) u2->EqAt A s u1 u2 (eqF d1 d2)/\RcAt A s u1 u2 (eqF d1 d2)/\RcNeAt A s u1 u2 (!(eqF d1 d2))
 | .non,.non,_,_,r1,r2=>by cases r1;cases r2;exact⟨EqAt.same _,RcAt.none_none,RcNeAt.none_none⟩
 | .non,(.bl b),_,_,r1,r2=>by cases r1;cases r2;exact⟨EqAt.none_bool b,RcAt.none_bool b,RcNeAt.none_bool b⟩
 | .non,(.int b),_,_,r1,r2=>by cases r1;obtain⟨t2,rfl⟩:=r2;exact⟨EqAt.none_int b t2,RcAt.none_int b t2,RcNeAt.none_int b t2⟩
 | .non,(.str b),_,_,r1,r2=>by cases r1;obtain⟨t2,rfl⟩:=r2;exact⟨EqAt.none_str b t2,RcAt.none_str b t2,RcNeAt.none_str b t2⟩
 | (.bl a),.non,_,_,r1,r2=>by cases r1;cases r2;exact⟨EqAt.bool_none a,RcAt.bool_none a,RcNeAt.bool_none a⟩
 | (.bl a),(.bl b),_,_,r1,r2=>by cases r1;cases r2;exact⟨EqAt.bool_bool a b,RcAt.bool_bool a b,RcNeAt.bool_bool a b⟩
 | (.bl a),(.int b),_,_,r1,r2=>by cases r1;obtain⟨t2,rfl⟩:=r2;exact⟨EqAt.bool_int a b t2,RcAt.bool_int a b t2,RcNeAt.bool_int a b t2⟩
 | (.bl a),(.str b),_,_,r1,r2=>by cases r1;obtain⟨t2,rfl⟩:=r2;exact⟨EqAt.bool_str a b t2,RcAt.bool_str a b t2,RcNeAt.bool_str a b t2⟩
 | (.int a),.non,_,_,r1,r2=>by obtain⟨t1,rfl⟩:=r1;cases r2;exact⟨EqAt.int_none a t1,RcAt.int_none a t1,RcNeAt.int_none a t1⟩
 | (.int a),(.bl b),_,_,r1,r2=>by obtain⟨t1,rfl⟩:=r1;cases r2;exact⟨EqAt.int_bool a t1 b,RcAt.int_bool a t1 b,RcNeAt.int_bool a t1 b⟩
 | (.int a),(.int b),_,_,r1,r2=>by obtain⟨t1,rfl⟩:=r1;obtain⟨t2,rfl⟩:=r2;exact⟨EqAt.int_int a t1 b t2,RcAt.int_int a t1 b t2,RcNeAt.int_int a t1 b t2⟩
 | (.int a),(.str b),_,_,r1,r2=>by obtain⟨t1,rfl⟩:=r1;obtain⟨t2,rfl⟩:=r2;exact⟨EqAt.int_str a t1 b t2,RcAt.int_str a t1 b t2,RcNeAt.int_str a t1 b t2⟩
 | (.str a),.non,_,_,r1,r2=>by obtain⟨t1,rfl⟩:=r1;cases r2;exact⟨EqAt.str_none a t1,RcAt.str_none a t1,RcNeAt.str_none a t1⟩
 | (.str a),(.bl b),_,_,r1,r2=>by obtain⟨t1,rfl⟩:=r1;cases r2;exact⟨EqAt.str_bool a t1 b,RcAt.str_bool a t1 b,RcNeAt.str_bool a t1 b⟩
 | (.str a),(.int b),_,_,r1,r2=>by obtain⟨t1,rfl⟩:=r1;obtain⟨t2,rfl⟩:=r2;exact⟨EqAt.str_int a t1 b t2,RcAt.str_int a t1 b t2,RcNeAt.str_int a t1 b t2⟩
 | (.str a),(.str b),_,_,r1,r2=>by obtain⟨t1,rfl⟩:=r1;obtain⟨t2,rfl⟩:=r2;exact⟨EqAt.str_str a t1 b t2,RcAt.str_str a t1 b t2,RcNeAt.str_str a t1 b t2⟩
 | .tup _,_,f,_,_,_=>by cases f
 | .fl _,_,f,_,_,_=>by cases f
 | .ref _,_,f,_,_,_=>by cases f
 | _,.tup _,_,f,_,_=>by cases f
 | _,.fl _,_,f,_,_=>by cases f
 | _,.ref _,_,f,_,_=>by cases f
open SeqAt in
theorem deq (I:Inv X pins σ H s) (rh:RH X.K ρ h H):∀(n:Nat) {A:Around}{d1 d2:D}{v1 v2:V}{u1 u2:Value}{b:Bool},A.units+n<cLine->RD X.K ρ H d1 v1->RD X.K ρ H d2 v2->RelV v1 u1->RelV v2 u2->eqN n h d1 d2=some b->EqAt A s u1 u2 b/\RcAt A s u1 u2 b/\RcNeAt A s u1 u2 (!b)
 | 0,A,d1,d2,v1,v2,u1,u2,b,_,_,_,_,_,e=>by cases e
 | n+1,A,d1,d2,v1,v2,u1,u2,b,hA,r1,r2,w1,w2,e=>by
  have hu:A.units<cLine:=by omega
  have e0:=e;unfold eqN at e;have elems:∀{xs ys:List D} {vs ws:List V} {its its2:List Value},RDs X.K ρ H xs vs->RDs X.K ρ H ys ws->Vals vs its->Vals ws its2->eqZ (eqN n h) xs ys=some b ->
   (∀j (h1:j<its.toArray.size) (h2:j<its2.toArray.size),EqAt A.in1 s its.toArray[j] its2.toArray[j] (eqE (eqN n h) xs ys j))/\b=((K0o (min its.toArray.size its2.toArray.size)).all (eqE (eqN n h) xs ys)&&its.toArray.size==its2.toArray.size):=λ{xs ys vs ws its its2} q1 q2 a1 a2 z=>by
   obtain⟨z1,z2⟩:=z4l z;have l1:=q1.length;have l2:=q2.length;have l3:=a1.length;have l4:=a2.length;refine⟨λj h1 h2=>?_,by rw[z2,K9,K9,<- l3,<- l4,<- l1,<- l2]⟩;have j1:j<xs.length:=by rw[K9]at h1;omega
   have j2:j<ys.length:=by rw[K9]at h2;omega
   have e1:xs[j]?=some xs[j]:=K7 j1;have e2:ys[j]?=some ys[j]:=K7 j2;obtain⟨x1,b1,c1⟩:=q1.get e1;obtain⟨x2,b2,c2⟩:=q2.get e2;obtain⟨y1,b3,c3⟩:=a1.get b1;obtain⟨y2,b4,c4⟩:=a2.get b2;have g1:its.toArray[j]=y1:=by
    have:=K7 (l:=its) (i:=j) (by simpa using h1);rw[b3]at this;simpa using(K1h this).symm
   have g2:its2.toArray[j]=y2:=by
    have:=K7 (l:=its2) (i:=j) (by simpa using h2);rw[b4]at this;simpa using(K1h this).symm
   rw[g1,g2];exact(deq I rh n (A:=A.in1) (show A.units+1+n<cLine by omega) c1 c2 c3 c4 (z1 j _ _ e1 e2)).1
  have same:∀{a a':Addr},v1=.ref a->v2=.ref a'->a=a'->b=true:=λ{a a'} x y z=>by
   subst z;rw[x]at r1;rw[y]at r2;exact z6H I rh (n+1) r1 r2 e0
  cases e1:vw h d1 with
  | no=>rw[e1]at e;cases e2:vw h d2<;>rw[e2]at e<;>cases e
  | flat a =>
   rw[e1]at e;obtain⟨rfl,f1⟩:=z1U e1;cases e2:vw h d2 with
   | no=>rw[e2]at e;cases e
   | flat c =>
    rw[e2]at e;obtain⟨rfl,f2⟩:=z1U e2;cases e;rw[z45 f1 r1]at w1;rw[z45 f2 r2]at w2;exact zS0 a c f1 f2 w1 w2
   | tup ys =>
    rw[e2]at e;cases e;obtain⟨a',vs,rfl,t2,_⟩:=z2X e2 r2;cases w2;obtain⟨its,_,p,_⟩:=I.tuple t2;obtain⟨m1,_,m3,_,m5,_⟩:=mixT (s:=s) f1 r1 w1 (show s.heap.IsTuple a' its.toArray from p) hu;exact⟨m1,m3,m5⟩
   | lst ys =>
    rw[e2]at e;cases e;obtain⟨a',vs,rfl,t2,_⟩:=z2T rh e2 r2;cases w2;obtain⟨its,_,p,_⟩:=I.list t2;obtain⟨m1,_,m3,_,m5,_⟩:=mixL (s:=s) f1 r1 w1 p.isList hu;exact⟨m1,m3,m5⟩
  | tup xs =>
   rw[e1]at e;obtain⟨a,vs,rfl,t1,q1⟩:=z2X e1 r1;cases w1;obtain⟨its,x1,p1,_⟩:=I.tuple t1;have p1:s.heap.IsTuple a its.toArray:=p1;cases e2:vw h d2 with
   | no=>rw[e2]at e;cases e
   | flat c =>
    rw[e2]at e;cases e;obtain⟨rfl,f2⟩:=z1U e2;obtain⟨_,m2,_,m4,_,m6⟩:=mixT (s:=s) f2 r2 w2 p1 hu;exact⟨m2,m4,m6⟩
   | tup ys =>
    rw[e2]at e;obtain⟨a',ws,rfl,t2,q2⟩:=z2X e2 r2;cases w2;obtain⟨its2,x2,p2,_⟩:=I.tuple t2;have p2:s.heap.IsTuple a' its2.toArray:=p2;obtain⟨g1,g2⟩:=elems q1 q2 x1 x2 e;have rc:=RcAt.tuples p1 p2 hu g1;have rn:=RcNeAt.tuples p1 p2 hu g1;rw[<- g2]at rc rn;refine⟨?_,rc,rn⟩;by_cases ea:a=a'
    ·rw[same rfl rfl ea];subst ea;exact EqAt.same _
    ·exact EqAt.of_refs ea rc
   | lst ys =>
    rw[e2]at e;cases e;obtain⟨a',ws,rfl,t2,q2⟩:=z2T rh e2 r2;cases w2;obtain⟨its2,x2,p2,_⟩:=I.list t2;exact⟨EqAt.tuple_list p1 p2.isList hu,RcAt.tuple_list p1 p2.isList hu,RcNeAt.tuple_list p1 p2.isList hu⟩
  | lst xs =>
   rw[e1]at e;obtain⟨a,vs,rfl,t1,q1⟩:=z2T rh e1 r1;cases w1;obtain⟨its,x1,p1,_⟩:=I.list t1;cases e2:vw h d2 with
   | no=>rw[e2]at e;cases e
   | flat c =>
    rw[e2]at e;cases e;obtain⟨rfl,f2⟩:=z1U e2;obtain⟨_,m2,_,m4,_,m6⟩:=mixL (s:=s) f2 r2 w2 p1.isList hu;exact⟨m2,m4,m6⟩
   | tup ys =>
    rw[e2]at e;cases e;obtain⟨a',ws,rfl,t2,q2⟩:=z2X e2 r2;cases w2;obtain⟨its2,x2,p2,_⟩:=I.tuple t2;exact⟨EqAt.list_tuple p1.isList p2 hu,RcAt.list_tuple p1.isList p2 hu,RcNeAt.list_tuple p1.isList p2 hu⟩
   | lst ys =>
    rw[e2]at e;obtain⟨a',ws,rfl,t2,q2⟩:=z2T rh e2 r2;cases w2;obtain⟨its2,x2,p2,_⟩:=I.list t2;obtain⟨g1,g2⟩:=elems q1 q2 x1 x2 e;have both:RcAt A s (.ref a) (.ref a') b/\RcNeAt A s (.ref a) (.ref a') (!b):=by
     by_cases hz:its.toArray.size=its2.toArray.size
     ·have:b=(K0o its.toArray.size).all (eqE (eqN n h) xs ys):=by rw[g2,<- hz,Nat.min_self];simp
      rw[this];exact⟨RcAt.lists p1.isList p2.isList hz hu g1,RcNeAt.lists p1.isList p2.isList hz hu g1⟩
     ·have:b=false:=by
       rw[g2,Bool.and_eq_false_iff];right;simpa using hz
      rw[this];exact⟨RcAt.lists_lengths p1.isList p2.isList (by simpa using hz) hu,RcNeAt.lists_lengths p1.isList p2.isList (by simpa using hz) hu⟩
    refine⟨?_,both⟩;by_cases ea:a=a'
    ·rw[same rfl rfl ea];subst ea;exact EqAt.same _
    ·exact EqAt.of_refs ea both.1
end
def fEqX (neg:Bool):D->D->M D:=λx y h=>match eqN 24 h x y with
 | some b=>.ok (.bl (b != neg)) h
 | none=>.bad
def inZ (h:AH) (x:D):List D->Option Bool
 | []=>some false
 | y::ys=>match eqN 24 h y x,inZ h x ys with
  | some a,some b=>some (a||b)
  | _,_=>none
def fInX (neg:Bool):D->D->M D:=λx y=>do
 let ys <- seqD y
 λh=>match inZ h x ys with
  | some b=>.ok (.bl (b != neg)) h
  | none=>.bad
theorem z2x {h:AH}{x:D}:∀{ys:List D}{b:Bool},inZ h x ys=some b->(∀y∈ys,∃a,eqN 24 h y x=some a)/\(b=true↔∃y∈ys,eqN 24 h y x=some true)
 | [],b,e=>by unfold inZ at e;cases e;exact⟨λy hy=>(by simp at hy),by simp⟩
 | y::ys,b,e=>by
  unfold inZ at e;split at e
  ·rename_i a c e1 e2;cases e;obtain⟨q1,q2⟩:=z2x e2;refine⟨λz hz=>?_,?_⟩
   ·rcases K0a.mp hz with q|q
    ·subst q;exact⟨_,e1⟩
    ·exact q1 z q
   ·rw[K33,q2];constructor
    ·rintro(q|⟨z,hz,q⟩)
     ·exact⟨y,by simp,by rw[e1,q]⟩
     ·exact⟨z,by simp[hz],q⟩
    ·rintro⟨z,hz,q⟩;rcases K0a.mp hz with w|w
     ·subst w;rw[e1]at q;exact .inl (K1h q)
     ·exact .inr ⟨z,w,q⟩
  ·cases e
def rEqX (K:K2) (neg:Bool):R2:=λx y H Q=>∃ρ h d1 d2 b,RH K ρ h H/\RD K ρ H d1 x/\RD K ρ H d2 y/\eqN 24 h d1 d2=some b/\Q (.bl (b != neg)) H
def rInX (K:K2) (neg:Bool):R2:=λx y H Q=>∃ρ h d ds p xs b,RH K ρ h H/\RD K ρ H d x/\y=.ref p/\(SqL K H p xs\/SqT K H p xs)/\RDs K ρ H ds xs/\inZ h d ds=some b/\Q (.bl (b != neg)) H
section
variable {X:Cx}{EX:XX}
theorem zA2 (hu:X.A.units+30<cLine):OpR X (K22 .Eq) (rEqX X.K false):=by
 intro pins s σ H x y v u Q I rx ry h;obtain⟨ρ,h,d1,d2,b,rh,r1,r2,e,q⟩:=h;rw[K60]at q;exact(deq I rh 24 (A:=X.A) (by omega) r1 r2 rx ry e).2.1 X.prog X.w X.xe (EP X pins σ Q) ⟨.bl b,H,I,rfl,q⟩
theorem zI3 (hu:X.A.units+30<cLine):OpR X (K22 .NotEq) (rEqX X.K true):=by
 intro pins s σ H x y v u Q I rx ry h;obtain⟨ρ,h,d1,d2,b,rh,r1,r2,e,q⟩:=h;rw[K7z]at q;exact(deq I rh 24 (A:=X.A) (by omega) r1 r2 rx ry e).2.2 X.prog X.w X.xe (EP X pins σ Q) ⟨.bl (!b),H,I,rfl,q⟩
open Classical in
theorem z3c {pins:List (Addr×Obj)}{σ:L2.St}{ρ:List Addr}{h:AH}{H:Hp}{s:Shared}{d:D}{ds:List D}{x:V}{v:Value}{xs:List V}{its:List Value}{b:Bool}(hu:X.A.units+30<cLine) (I:Inv X pins σ H s) (rh:RH X.K ρ h H) (rx:RD X.K ρ H d x) (wx:RelV x v) (rs:RDs X.K ρ H ds xs) (ws:Vals xs its) (e:inZ h d ds=some b) :
 ∃f:Value->Bool,(∀y∈its,K6g X.A.in1 s y v (f y))/\its.any f=b:=by
 obtain⟨q1,q2⟩:=z2x e;have ex:∀y∈its,∃a z w,z∈ds/\RD X.K ρ H z w/\RelV w y/\eqN 24 h z d=some a:=λy hy=>by
  obtain⟨j,hj⟩:=K2r hy;have lj:=(K8.mp hj).1;have a1:xs[j]?=some (xs[j]'(by rw[ws.length];exact lj)):=K7 _;obtain⟨y',c1,a2⟩:=ws.get a1;rw[hj]at c1;cases c1;obtain⟨z,b1,b2⟩:=rs.getV a1;have zm:=K0d b1;obtain⟨a,c⟩:=q1 z zm;exact⟨a,z,_,zm,b2,a2,c⟩
 have key:∀y∈its,∀a,(∃z w,z∈ds/\RD X.K ρ H z w/\RelV w y/\eqN 24 h z d=some a)->K6g X.A.in1 s y v a:=λy hy a ⟨z,w,zm,r1,r2,c⟩ =>
  (deq I rh 24 (A:=X.A.in1) (show X.A.units+1+24<cLine by omega) r1 rx r2 wx c).1
 refine⟨λy=>decide (∃z w,z∈ds/\RD X.K ρ H z w/\RelV w y/\eqN 24 h z d=some true),λy hy=>?_,?_⟩
 ·by_cases c:∃z w,z∈ds/\RD X.K ρ H z w/\RelV w y/\eqN 24 h z d=some true
  ·dsimp only;rw[decide_eq_true c];exact key y hy true c
  ·dsimp only;rw[decide_eq_false c];obtain⟨a,z,w,g⟩:=ex y hy;cases a with
   | false=>exact key y hy false ⟨z,w,g⟩
   | true=>exact absurd ⟨z,w,g⟩ c
 ·rw[K17,q2,K6l];constructor
  ·rintro⟨y,hy,c⟩;obtain⟨z,w,zm,_,_,c⟩:=of_decide_eq_true c;exact⟨z,zm,c⟩
  ·rintro⟨z,zm,c⟩;obtain⟨j,hj⟩:=K2r zm;obtain⟨w,a1,a2⟩:=rs.get hj;obtain⟨y,b1,b2⟩:=ws.get a1;exact⟨y,K0d b1,decide_eq_true ⟨z,w,zm,a2,b2,c⟩⟩
theorem zH4 (hu:X.A.units+30<cLine):OpR X (K22 .In) (rInX X.K false):=by
 intro pins s σ H x y v u Q I rx ry h;obtain⟨ρ,h,d,ds,p,xs,b,rh,r1,rfl,sq,rs,e,q⟩:=h;cases ry;rw[K60]at q;rcases sq with sq|sq
 ·obtain⟨its,ws,pl,_⟩:=I.list sq;obtain⟨f,f1,f2⟩:=z3c hu I rh r1 rx rs ws e;refine SeqAt.in_listAt f pl.isList (λy hy=>f1 y (by simpa using hy)) ⟨.bl b,H,I,?_,q⟩;rw[show its.toArray.any f=its.any f by simp,f2];rfl
 ·obtain⟨its,ws,pl,_⟩:=I.tuple sq;obtain⟨f,f1,f2⟩:=z3c hu I rh r1 rx rs ws e;refine SeqAt.in_tupleAt f pl (λy hy=>f1 y (by simpa using hy)) ⟨.bl b,H,I,?_,q⟩;rw[show its.toArray.any f=its.any f by simp,f2];rfl
theorem zo6 (hu:X.A.units+30<cLine):OpR X (K22 .NotIn) (rInX X.K true):=by
 intro pins s σ H x y v u Q I rx ry h;obtain⟨ρ,h,d,ds,p,xs,b,rh,r1,rfl,sq,rs,e,q⟩:=h;cases ry;rw[K7z]at q;rcases sq with sq|sq
 ·obtain⟨its,ws,pl,_⟩:=I.list sq;obtain⟨f,f1,f2⟩:=z3c hu I rh r1 rx rs ws e;refine Z09 f pl.isList (λy hy=>f1 y (by simpa using hy)) ⟨.bl (!b),H,I,?_,q⟩;rw[show its.toArray.any f=its.any f by simp,f2];rfl
 ·obtain⟨its,ws,pl,_⟩:=I.tuple sq;obtain⟨f,f1,f2⟩:=z3c hu I rh r1 rx rs ws e;refine K9q f pl (λy hy=>f1 y (by simpa using hy)) ⟨.bl (!b),H,I,?_,q⟩;rw[show its.toArray.any f=its.any f by simp,f2];rfl
theorem zj3 {neg:Bool}:BR X.K EX (rEqX X.K neg) (fEqX neg):=by
 intro ρ h H x y v u Q r rx ry fin;unfold fEqX at fin;cases e:eqN 24 h x y with
 | none=>rw[e]at fin;exact fin.elim
 | some b=>rw[e]at fin;exact⟨ρ,h,x,y,b,r,rx,ry,e,FE.here fin r (by simp[RD])⟩
theorem zg4 {neg:Bool}:BR X.K EX (rInX X.K neg) (fInX neg):=by
 intro ρ h H x y v u Q r rx ry fin;have f1:=Fin.bind fin;cases e:seqD y h with
 | bad=>rw[e]at f1;exact f1.elim
 | err z hz=>exact(z2t e).elim
 | ok ys h1 =>
  obtain⟨rfl,q,xs,rfl,hs,hd⟩:=z1A r ry e;rw[e]at f1;have f2:=f1 ρ H (Pre.refl _) (Ext.refl _ _) r;dsimp only at f2;cases e2:inZ h1 x ys with
  | none=>rw[e2]at f2;exact f2.elim
  | some b=>rw[e2]at f2;exact⟨ρ,h1,x,ys,q,xs,b,r,rx,rfl,hs,hd,e2,FE.here f2 r (by simp[RD])⟩
theorem z3z (hu:X.A.units+30<cLine):CO X EX .Eq (fEqX false):=⟨_,zA2 hu,zj3⟩
theorem z3V (hu:X.A.units+30<cLine):CO X EX .NotEq (fEqX true):=⟨_,zI3 hu,zj3⟩
theorem zK0 (hu:X.A.units+30<cLine):CO X EX .In (fInX false):=⟨_,zH4 hu,zg4⟩
theorem z7S (hu:X.A.units+30<cLine):CO X EX .NotIn (fInX true):=⟨_,zo6 hu,zg4⟩
theorem hu30 {A:Around}{k:Nat}(hr:Room k A):A.units+30<cLine:=K7e (K70 (by decide:30<=64) _) hr.units
end
variable {α β:Type}
theorem z2m (a:α) (f:α->M β):((K9n a:M α) >>= f)=f a:=by funext h;rfl
theorem W_eq {m:M α}{v:α}{h:AH}{Q:α->AH->Prop}(e:m=pure v) (q:Q v h):W m h Q:=by rw[e,W_pure];exact q
theorem zR7 {xs:List D}{h:AH}{Q:D->AH->Prop}(hl:xs.length<=1000000) (q:Q (.ref h.length) (h++[.lst xs])):W (newL xs) h Q :=
 ⟨_,_,by unfold newL;rw[if_pos (K0l hl (by decide))],q⟩
mutual
theorem z2C {m n:Nat}(h:m<=n):∀{d:D},y9 m d=true->y9 n d=true
 | .non,_=>rfl
 | .bl _,_=>rfl
 | .int _,_=>rfl
 | .str _,_=>rfl
 | .tup ds,c=>by simp only[y9]at c ⊢;exact z1X h c
 | .fl ds,c=>by simp only[y9]at c ⊢;exact z1X h c
 | .ref i,c=>by simp only[y9,decide_eq_true_eq]at c ⊢;omega
theorem z1X {m n:Nat}(h:m<=n):∀{d:List D},k9 m d=true->k9 n d=true
 | [],_=>rfl
 | d::r,c=>by simp only[k9,K0h]at c ⊢;exact⟨z2C h c.1,z1X h c.2⟩
end
theorem z25 {n:Nat}:∀{xs:List D},(∀x∈xs,y9 n x=true)->k9 n xs=true
 | [],_=>rfl
 | x::r,h=>by simp only[k9,K0h];exact⟨h x (by simp),z25 λy hy=>h y (by simp[hy])⟩
theorem z3U {n:Nat}:∀{xs:List D},k9 n xs=true->∀x∈xs,y9 n x=true
 | [],_,x,hx=>by cases hx
 | y::r,h,x,hx=>by
  simp only[k9,K0h]at h;rcases K0a.mp hx with q|q
  ·subst q;exact h.1
  ·exact z3U h.2 x q
theorem y0 {n:Nat}{ι:Type}{f:ι->D}{l:List ι}(h:∀a,y9 n (f a)=true):k9 n (l.map f)=true:=z25 λx hx=>by
 obtain⟨a,_,rfl⟩:=K0v.mp hx;exact h a
theorem z0Q {m:M D}{h:AH}{d:D}{j:AH}(e:m h=.ok d (h++j)) (c:y9 h.length d=true):cln m h=.ok d h:=by
 unfold cln;rw[e];dsimp only;rw[if_pos ⟨by simp,z77 _ _⟩,if_pos c];simp
theorem z4j (d:D):cln (pure d)=pure d:=funext λh=>by
 unfold cln;rw[pureM];dsimp only;rw[if_pos ⟨K03 _,λ_ _ _ e=>.inl e⟩];split
 ·simp
 ·rename_i nd;split
  ·rename_i i;simp only[y9,decide_eq_true_eq]at nd;rw[K1j (by omega)]
  ·rfl
theorem zQ7 {m:M D}{v:D}(c:y9 0 v=true) (z:∀h,W m h λa h'=>a=v/\∃j,h'=h++j):cln m=pure v:=funext λh=>by
 obtain⟨a,h',e,rfl,j,rfl⟩:=z h;exact z0Q e (z2C (K3a _) c)
theorem zA6 {m:G->M Bool}{γ:G}{h:AH}{d:Bool}{j:AH}(e:m γ h=.ok d (h++j)):clT m γ h=.ok d h:=by
 unfold clT;rw[e];dsimp only;rw[if_pos ⟨by simp,z77 _ _⟩];simp
theorem z5B:∀bs:List Bool,blsD (bs.map .bl)=some bs
 | []=>rfl
 | b::r=>by simp[blsD,z5B r]
theorem filter_tt {l:List α}:l.filter (λ_=>true)=l:=by induction l<;>simp_all
theorem z5Y {n:Nat}{mb:G->M Out}{ds:List D}{d:D}(e:mb (z0Y n ds)=pure (.rt d)):runF n mb ds=pure d:=by unfold runF;rw[e];rfl
theorem ix0 {a:D}{r:List D}:fIx (.tup (a::r)) (.int 0)=pure a:=ix_tup (by simp[atI,ixN])
theorem ix1 {a b:D}{r:List D}:fIx (.tup (a::b::r)) (.int 1)=pure b:=ix_tup (v3 (j:=1) rfl)
theorem ix2 {a b c:D}{r:List D}:fIx (.tup (a::b::c::r)) (.int 2)=pure c:=ix_tup (v3 (j:=2) rfl)
theorem zN8 {x y:Str}{b:Bool}:fEq b (.str x) (.str y)=pure (.bl (decide (x=y) != b)):=rfl
theorem zN0:((2:Nat)<=sizeLine)=True:=by simp[sizeLine]
theorem zQ8:((3:Nat)<=sizeLine)=True:=by simp[sizeLine]
structure SQ (st:List (List Nat)):Prop where
 l1:1<=st.length
 l2:st.length<=40
 s2:∀l∈st,∀x∈l,x<st.length
def nx (st:List (List Nat)) (a:Nat):List Nat:=(st[a]?).getD []
inductive Rch (st:List (List Nat)) (x:Nat):Nat->Prop
 | here:Rch st x x
 | step {a b:Nat}:Rch st x a->b∈nx st a->Rch st x b
theorem zN2 {st:List (List Nat)}(q:SQ st) {a b:Nat}(h:b∈nx st a):b<st.length:=by
 unfold nx at h;cases e:st[a]? with
 | none=>rw[e]at h;cases h
 | some l =>
  rw[e]at h;exact q.s2 l (K0d e) b h
theorem zL4 {st:List (List Nat)}(q:SQ st) {x a:Nat}(hx:x<st.length) (h:Rch st x a):a<st.length:=by
 cases h with
 | here=>exact hx
 | step _ h=>exact zN2 q h
theorem z3C (st:List (List Nat)):(stsD st).length=st.length:=by unfold stsD;simp
theorem z8k:∀l:List Nat,(stD l).all z1a=true
 | []=>rfl
 | _::l=>z8k l
theorem zh5 (x:Nat):∀l:List Nat,((stD l).any λz=>eqF z (.int x))=decide (x∈l)
 | []=>by simp[stD]
 | b::l=>by
  rw[show stD (b::l)=.int b::stD l from rfl,K2t,zh5 x l];simp only[eqF];rw[K17];simp only[K33,beq_iff_eq,decide_eq_true_eq,K0a];constructor
  ·rintro(h|h)
   ·left;omega
   ·exact .inr h
  ·rintro(h|h)
   ·left;omega
   ·exact .inr h
theorem z2w (l:List Nat):(stD l).length=l.length:=by unfold stD;simp
theorem za4 {l:List Nat}{n:Nat}(hl:l.Pairwise (·<·)) (hm:∀x∈l,x<n):l.length<=n:=by
 have nd:l.Nodup:=List.Pairwise.imp (λh=>K0e h) hl;have:=nd.length_le_of_subset (l₂:=K0o n) (λx hx=>K20.mpr (hm x hx));rwa [K1w]at this
def zN (l:List Nat):List Int:=l.map λ(i:Nat)=>(i:Int)
def kN (l:List Nat):List Key:=l.map λ(i:Nat)=>.inl (i:Int)
def z2e (l:List Nat):List Nat:=(sortI (zN l)).map Z1y
theorem z99:∀l:List Nat,z52 (kN l)=some (zN l)
 | []=>rfl
 | a::l=>by
  show (z52 (kN l)).map _=_;rw[z99 l];rfl
theorem z6r:∀l:List Nat,z3O (stD l)=some (zN l)
 | []=>rfl
 | a::l=>by
  show (z3O (stD l)).map _=_;rw[z6r l];rfl
theorem z5k (l:List Nat):(sortI (zN l)).map D.int=stD (z2e l):=by
 unfold z2e stD;rw[K1d];refine List.map_congr_left λa ha=>?_;have:a∈zN l:=(sortI_perm _).mem_iff.mp ha;obtain⟨i,_,rfl⟩:=K0v.mp this;rfl
theorem z2S (l:List Nat):(z2e l).Perm l:=by
 have:=(sortI_perm (zN l)).map Z1y;refine this.trans ?_;unfold zN;rw[K1d];rw[show (Z1y ∘ λ(i:Nat)=>(i:Int))=id from funext λi=>rfl,List.map_id]
theorem z46 {l:List Nat}(nd:l.Nodup):(z2e l).Pairwise (·<·):=by
 have s:(z2e l).Pairwise (·<=·):=by
  unfold z2e;rw[K7v];exact(z6D _).imp λ{a b} h=>by omega
 have n:(z2e l).Nodup:=(z2S l).nodup_iff.mpr nd;exact(List.Pairwise.and s n).imp λ{a b} q=>by omega
theorem z5l {l:List Nat}{x:Nat}:x∈z2e l↔x∈l:=(z2S l).mem_iff
theorem z1u (l:List Nat):(z2e l).length=l.length:=(z2S l).length_eq
theorem kN_mem {l:List Nat}{x:Nat}:(K41 (x:Int):Key)∈kN l↔x∈l:=by
 unfold kN;constructor
 ·intro h;obtain⟨i,hi,e⟩:=K0v.mp h;have:i=x:=by have:=Z22 e;omega
  exact this ▸ hi
 ·exact λh=>K0v.mpr ⟨x,h,rfl⟩
theorem zC8 (l:List Nat):(kN l).length=l.length:=by unfold kN;simp
theorem zE1 {l:List Nat}{x:Nat}(h:x∉l):putK (kN l) (.inl (x:Int))=kN (l++[x]):=by
 unfold putK;rw[if_neg (λq=>h (kN_mem.mp q))];unfold kN;simp
theorem z7L {S:List Nat}{n:Nat}(nd:S.Nodup) (hm:∀x∈S,x<n):S.length<=n:=by
 have:=nd.length_le_of_subset (l₂:=K0o n) (λx hx=>K20.mpr (hm x hx));rwa [K1w]at this
theorem z3D {S:List Nat}{x:Nat}(nd:S.Nodup) (h:x∉S):(S++[x]).Nodup:=by
 rw[K1x];refine⟨nd,by simp,λa ha b hb=>?_⟩;simp at hb;subst hb;exact λe=>h (e ▸ ha)
theorem z93 (l:List Nat) (x:Nat):stD l++[.int x]=stD (l++[x]):=by unfold stD;simp
structure Fnd (st:List (List Nat)) (x:Nat) (S:List Nat):Prop where
 nd:S.Nodup
 rc:∀a∈S,Rch st x a
 hx:x∈S
theorem Fnd.lt {st:List (List Nat)}{x:Nat}{S:List Nat}(f:Fnd st x S) (q:SQ st) (hx:x<st.length):∀a∈S,a<st.length:=λa ha=>zL4 q hx (f.rc a ha)
theorem Fnd.put {st:List (List Nat)}{x a b:Nat}{S:List Nat}(f:Fnd st x S) (ha:a∈S) (hb:b∈nx st a) (nb:b∉S):Fnd st x (S++[b]) :=
 ⟨z3D f.nd nb,λc hc=>by
  rcases K0p.mp hc with q|q
  ·exact f.rc c q
  ·simp at q;subst q;exact .step (f.rc a ha) hb,K2q _ f.hx⟩
theorem Fnd.one (st:List (List Nat)) (x:Nat):Fnd st x [x]:=⟨by simp,λa ha=>by simp at ha;subst ha;exact .here,by simp⟩
section
variable {ma:G->M D}{g:D->G->M G}{k:G->M Bool}{ms mr mt:G->M Out}{γ γ':G}{h h1:AH}{d:D}{b:Bool}{Q:Out->AH->Prop}
theorem zv9 (d:D) (γ':G) (e:ma γ=pure d) (eg:g d γ=pure γ') (z:W (mt γ') h Q):W (Z3 (sAsg ma g) mt γ) h Q:=by
 rw[w_cons];unfold sAsg;rw[e,z2m,eg,z2m,W_pure];exact z
theorem z05 (d:D) (γ':G) (e:ma γ h=.ok d h1) (eg:g d γ=pure γ') (z:W (mt γ') h1 Q):W (Z3 (sAsg ma g) mt γ) h Q:=by
 rw[w_cons];unfold sAsg;rw[j3];refine W.of e ?_;rw[eg,z2m,W_pure];exact z
theorem z8c {i:Nat}(z:W (ma γ) h λd h1=>W (mt (γ.set i (some d))) h1 Q):W (Z3 (sAsg ma (gN i)) mt γ) h Q:=by
 rw[w_cons];unfold sAsg gN;rw[j3];refine z.mono λd h1 q=>?_;rw[z2m,W_pure];exact q
theorem q_if (b:Bool) (e:k γ=pure b) (z:W (Z3 (if b=true then ms else mr) mt γ) h Q):W (Z3 (sIf k ms mr) mt γ) h Q:=by
 rw[w_cons]at z ⊢;unfold sIf;rw[e,z2m];cases b<;>exact z
theorem Y2 (b:Bool) (e:k γ h=.ok b h) (z:W (Z3 (if b=true then ms else mr) mt γ) h Q):W (Z3 (sIf k ms mr) mt γ) h Q:=by
 rw[w_cons]at z ⊢;unfold sIf;rw[j3];refine W.of e ?_;cases b<;>exact z
theorem zG4 (z:W (k γ) h λb h1=>W (Z3 (if b=true then ms else mr) mt γ) h1 Q):W (Z3 (sIf k ms mr) mt γ) h Q:=by
 rw[w_cons];unfold sIf;rw[j3];refine z.mono λb h1 q=>?_;rw[w_cons]at q;cases b<;>exact q
theorem zy0 (d:D) (e:ma γ=pure d) (z:Q (.rt d) h):W (Z3 (sRet ma) mt γ) h Q:=by
 rw[w_cons];unfold sRet;rw[e,z2m,W_pure];exact z
theorem J2 (d:D) (e:ma γ h=.ok d h1) (z:Q (.rt d) h1):W (Z3 (sRet ma) mt γ) h Q:=by
 rw[w_cons];unfold sRet;rw[j3];refine W.of e ?_;rw[W_pure];exact z
theorem zG9 (z:W (ma γ) h λd h1=>Q (.rt d) h1):W (Z3 (sRet ma) mt γ) h Q:=by
 rw[w_cons];unfold sRet;rw[j3];refine z.mono λd h1 q=>?_;rw[W_pure];exact q
theorem z6E (z:W (ma γ) h λd h1=>W (mt γ) h1 Q):W (Z3 (z0K ma) mt γ) h Q:=by
 rw[w_cons];unfold z0K;rw[j3];refine z.mono λd h1 q=>?_;rw[W_pure];exact q
theorem Y0 (z:W (mt γ) h Q):W (Z3 bNil mt γ) h Q:=by rw[w_cons,z7e];exact z
theorem Y4 {Q:Out->AH->Prop}(z:Q (.nx γ) h):W (bNil γ) h Q:=by rw[z7e];exact z
theorem z9v {l:G->M Bool}(e:k γ h=.ok true h):cAnd k l γ h=l γ h:=by unfold cAnd;rw[M.bind_ok e];rfl
theorem z9t {l:G->M Bool}(e:k γ h=.ok false h):cAnd k l γ h=.ok false h:=by unfold cAnd;rw[M.bind_ok e];rfl
theorem zy2 {l:G->M Bool}(e:k γ h=.ok true h):cOr k l γ h=.ok true h:=by unfold cOr;rw[M.bind_ok e];rfl
theorem zG0 {l:G->M Bool}(e:k γ h=.ok false h):cOr k l γ h=l γ h:=by unfold cOr;rw[M.bind_ok e];rfl
theorem zw9 (d:D) (e:ma γ=pure d):Z3 (sRet ma) mt γ=pure (.rt d):=by
 unfold Z3 sRet;rw[e,z2m,z2m]
theorem z0s {ms1 ms2:G->M Out}(z:W (Z3 ms1 (Z3 ms2 mt) γ) h Q):W (Z3 (Z3 ms1 ms2) mt γ) h Q:=by
 rw[w_cons]at z ⊢;rw[w_cons];refine z.mono λo h1 q=>?_;cases o with
 | nx γ=>exact w_cons.mp q
 | rt d=>exact q
 | bk d=>exact q
 | ct d=>exact q
end
theorem z44 {i j:Int}{neg:Bool}:fEqX neg (.int i) (.int j)=pure (.bl (decide (i=j) != neg)):=by
 funext h;show Res.ok (D.bl ((i==j) != neg)) h=_;have:(i==j)=decide (i=j):=by rw[K17];simp
 rw[this];rfl
theorem zt2 {mc:G->M D}{γ:G}{h h1:AH}{xs:List D}{neg:Bool}(e:mc γ h=newL xs h1) (hl:xs.length<=1000000):e2 (fEqX neg) mc (eLst aNil) γ h=.ok (.bl (xs.isEmpty != neg)) (h1++[.lst xs]++[.lst []]):=by
 have e':mc γ h=.ok (.ref h1.length) (h1++[.lst xs]):=by rw[e];unfold newL;rw[if_pos (K0l hl (by decide))]
 show (mc γ >>= _) h=_;rw[M.bind_ok e'];have e2':eLst aNil γ (h1++[.lst xs])=.ok (.ref (h1++[O.lst xs]).length) (h1++[.lst xs]++[.lst []]):=by
  unfold eLst aNil newL;simp
 rw[M.bind_ok e2'];have v1:vw (h1++[O.lst xs]++[O.lst []]) (.ref h1.length)=.lst xs:=by unfold vw;simp
 have v2:vw (h1++[O.lst xs]++[O.lst []]) (.ref (h1++[O.lst xs]).length)=.lst []:=by unfold vw;simp
 unfold fEqX eqN;rw[v1,v2];cases xs<;>rfl
theorem zq2 {mc:G->M D}{γ:G}{h j:AH}{xs:List D}{neg:Bool}(e:mc γ h=newL xs (h++j)) (hl:xs.length<=1000000):clT (λγ=>do let d <- e2 (fEqX neg) mc (eLst aNil) γ;asB d) γ h=.ok (xs.isEmpty != neg) h :=
 zA6 (j:=j++([.lst xs]++[.lst []])) (by rw[M.bind_ok (zt2 e hl)];simp[asB])
theorem zn8 {x:Str}{l:List Str}{neg:Bool}:fIn neg (.str x) (.tup (l.map .str))=pure (.bl (decide (x∈l) != neg)):=by
 unfold fIn seqD;show (if z1a (.str x)&&(l.map D.str).all z1a then _ else _)=_;rw[z3M,z5z];rfl
theorem z8g (xs:List D) (n:Nat):cutD xs none (some (n:Int))=xs.take n:=by
 unfold cutD;rw[HT.sIx_none,HT.sIx_nat];simp[List.take_take]
theorem zL8 (xs:List D) (n:Nat):cutD xs (some (n:Int)) none=xs.drop n:=by
 unfold cutD;rw[HT.sIx_none,HT.sIx_nat];by_cases h:n<=xs.length
 ·rw[show min n xs.length=n by omega,K8v (by simp)]
 ·rw[show min n xs.length=xs.length by omega];simp;omega
def rp (n:Nat) (l:List Nat):List Nat:=(K0n n l).flatten
theorem zj2 {a b:Nat}(hb:0<b) (h:b<=1000000):fDiv (.int (a:Nat)) (.int (b:Nat))=pure (.int (a / b:Nat)):=by
 rw[div_ii (show (0:Int)<b by omega) (show (b:Int)<1073741824 by omega),Int.natCast_ediv]
theorem sl_tup {x:List D}{lo hi:Option Int}:fSl (.tup x) lo hi=pure (.tup (cutD x lo hi)):=rfl
def CL (r:AH):Prop:=True
theorem CL.nil:CL []:=trivial
theorem CL.app {r j:AH}(a:CL r) (b:CL j):CL (r++j):=trivial
theorem CL.one {xs:List D}(h:k9 3 xs=true):CL [.lst xs]:=trivial
theorem CL.put {r:AH}{xs:List D}(a:CL r) (h:k9 3 xs=true):CL (r++[.lst xs]):=a.app (.one h)
theorem z0x {n:Nat}(l:List Str):k9 n (l.map .str)=true:=y0 λ_=>rfl
theorem z0I {n:Nat}(l:List Int):k9 n (l.map .int)=true:=y0 λ_=>rfl
theorem zu0 {n:Nat}(l:List Nat):k9 n (stD l)=true:=y0 λ_=>rfl
theorem zL7 {n:Nat}(l:List Nat):y9 n (.tup (stD l))=true:=by simp only[y9];exact zu0 l
theorem z8W {gr sm:List Int}{s c:Int}{r j:AH}:(Pool gr sm s c (r++j)).take (r.length+3)=Pool gr sm s c r:=by
 unfold Pool;simp
theorem z84 {gr sm gr' sm':List Int}{s c s' c':Int}{r j:AH}:Kept (Pool gr sm s c r) (Pool gr' sm' s' c' (r++j)):=λi o li e=>by
 have l3:(Pool gr sm s c r).length=r.length+3:=rfl;rw[l3]at li ⊢
 match i,e with
 | 0,e=>cases e;exact .inr (z0I _)
 | 1,e=>cases e;exact .inr (z0I _)
 | 2,e=>cases e;exact .inr (by simp[refO,k9,y9])
 | i+3,e =>
  left;have e:(r++j)[i]?=some o:=e;rw[K11 (by omega)]at e;exact e
theorem z6e {h h1:AH}{k k':Int}{r j:AH}(p:PS h k r) (q:CL r) (p1:PS h1 k' (r++j)):(h.length<=h1.length/\Kept h h1)/\PS (h1.take h.length) k' r:=by
 have l:=p.len;have l1:=p1.len;obtain⟨gr,sm,s,c,rfl,g⟩:=p1;obtain⟨gr0,sm0,s0,c0,rfl,g0⟩:=p;refine⟨⟨by rw[K06]at l1;omega,z84⟩,?_⟩;rw[show (Pool gr0 sm0 s0 c0 r).length=r.length+3 from rfl,z8W];exact⟨gr,sm,s,c,rfl,g⟩
theorem z4u {m:M D}{h:AH}{k:Int}{r:AH}{Q:D->AH->Prop}(p:PS h k r) (q:CL r) (z:W m h λd h1=>∃k' j,PS h1 k' (r++j)/\y9 3 d=true/\∀h2,PS h2 k' r->Q d h2):W (cln m) h Q:=by
 obtain⟨d,h1,e,k',j,p1,rd,f⟩:=z;obtain⟨c1,c2⟩:=z6e p q p1;refine⟨d,h1.take h.length,?_,f _ c2⟩;unfold cln;rw[e];dsimp only;rw[if_pos c1,if_pos (z2C (by rw[p.len];omega) rd)]
theorem zC2 {m:M D}{h:AH}{k:Int}{r:AH}{Q:D->AH->Prop}(p:PS h k r) (q:CL r) (z:W m h λd h1=>∃k' j i xs,d=.ref (i+3)/\PS h1 k' (r++j)/\r.length<=i/\(r++j)[i]?=.(l xs)/\k9 3 xs=true/\∀h2,PS h2 k' (r++[.lst xs])->Q (.ref (r.length+3)) h2):W (cln m) h Q:=by
 obtain⟨d,h1,e,k',j,i,xs,rfl,p1,hi,ei,rd,f⟩:=z;obtain⟨c1,c2⟩:=z6e p q p1;have l:=p.len;refine⟨.ref (r.length+3),h1.take h.length++[.lst xs],?_,f _ (c2.app _)⟩;unfold cln;rw[e];dsimp only;rw[if_pos c1,if_neg (by simp only[y9,decide_eq_true_eq];omega),p1.get,ei];dsimp only;rw[if_pos (show refO h.length (.lst xs)=true from z1X (by omega) rd),l]
theorem z61 {m:G->M D}{γ:G}{h:AH}{k:Int}{r:AH}{Q:D->AH->Prop}(p:PS h k r) (q:CL r) (z:W (m γ) h λd h1=>∃k' j,PS h1 k' (r++j)/\y9 3 d=true/\∀h2,PS h2 k' r->Q d h2):W (clE m γ) h Q:=z4u p q z
section
variable {h:AH}{k:Int}{r l:AH}{i:Nat}{xs:List D}{v:D}
theorem at_E:(r++l)[r.length+i]?=l[i]?:=by rw[K2c (by omega)];congr 1;omega
theorem zN7 {o:O}:(r++l).set (r.length+i) o=r++l.set i o:=by
 rw[K2h _ _ (by omega)];congr 2;omega
theorem z8x {Q:List D->AH->Prop}(p:PS h k (r++l)) (e:l[i]?=.(l xs)) (q:Q xs h):W (getL (r.length+i+3)) h Q:=z2u p (by rw[at_E];exact e) q
theorem zB9 {Q:D->AH->Prop}(p:PS h k (r++l)) (hl:xs.length<=1000000) (z:∀h',PS h' k (r++(l++[.lst xs]))->Q (.ref (r.length+l.length+3)) h'):W (newL xs) h Q :=
 z1v p hl λh' p'=>by rw[K0z]at p';have:=z h' p';rwa [K06]
theorem zi1 {Q:D->AH->Prop}(p:PS h k (r++l)) (e:l[i]?=.(l xs)) (hl:xs.length<1000000) (z:∀h',PS h' k (r++l.set i (.lst (xs++[v])))->Q .non h'):W (w8 (r.length+i+3) v) h Q :=
 z6m p (by rw[at_E];exact e) hl λh' p'=>z h' (by rw[zN7]at p';exact p')
theorem z3i {Q:D->AH->Prop}(p:PS h k (r++l)) (e:l[i]?=.(l xs)) (q:Q (.tup xs) h):W (J9 [.ref (r.length+i+3)]) h Q:=by
 have ft:∀i:Nat,J9 [.ref i]=(do let x <- getL i;pure (.tup x)):=λ_=>rfl;rw[ft,j3];refine z8x p e ?_;rw[W_pure];exact q
theorem ze7 {Q:Nat->AH->Prop}(p:PS h k (r++l)) (e:l[i]?=.(l xs)) (q:Q (r.length+i+3) h):W (z1Q (.ref (r.length+i+3))) h Q:=by
 rw[z9f];exact z8x p e q
theorem zC3 {j:Nat}{ys:List D}{Q:D->AH->Prop}(p:PS h k (r++l)) (e:l[i]?=.(l xs)) (e2:(r++l)[j]?=.(l ys)) (hl:xs.length+ys.length<=1000000) (z:∀h',PS h' k (r++(l++[.lst (xs++ys)]))->Q (.ref (r.length+l.length+3)) h'):W (fAdd (.ref (r.length+i+3)) (.ref (j+3))) h Q:=by
 show W (getL _ >>= λx=>getL _ >>= λy=>newL (x++y)) h Q;rw[j3];refine z8x p e ?_;rw[j3];refine z2u p e2 ?_;exact zB9 p (by simpa using hl) z
end
theorem x9 {ma:G->M D}{mt:G->M Out}{γ:G}{h:AH}{i:Nat}{Q:Out->AH->Prop}(J:D->AH->Prop) (z:W (ma γ) h J) (f:∀d h1,J d h1->W (mt (γ.set i (some d))) h1 Q):W (Z3 (sAsg ma (gN i)) mt γ) h Q:=z8c (z.mono f)
theorem z2E {ma:G->M D}{mt:G->M Out}{γ:G}{h:AH}{Q:Out->AH->Prop}(J:D->AH->Prop) (z:W (ma γ) h J) (f:∀d h1,J d h1->Q (.rt d) h1):W (Z3 (sRet ma) mt γ) h Q:=zG9 (z.mono f)
theorem z7X {me:G->M D}{mt:G->M Out}{γ:G}{h:AH}{k:Int}{r l:AH}{a i:Nat}{xs:List D}{Q:Out->AH->Prop}(ea:γ[a]?=some (.(r (r.length+i+3)))) (p:PS h k (r++l)) (e:l[i]?=.(l xs)) (hl:xs.length<1000000) (J:D->Int->Prop)
 (z:W (me γ) h λv h1=>∃k',PS h1 k' (r++l)/\J v k') (f:∀v k' h2,J v k'->PS h2 k' (r++l.set i (.lst (xs++[v])))->W (mt γ) h2 Q):W (Z3 (z0K (eM1 w8 (eVar a) me)) mt γ) h Q:=by
 refine z6E ?_;unfold eM1;rw[j3];refine W_eq (v:=.ref (r.length+i+3)) (by unfold eVar;rw[ea]) ?_;rw[j3];refine ze7 p e ?_;rw[j3];refine z.mono λv h1 ⟨k',p1,j⟩=>?_;exact zi1 p1 e hl λh2 p2=>f v k' h2 j p2
theorem z6T {cap:List (Option Nat)}{mi:G->M Src}{g:D->G->M G}{kk:G->M Bool}{me:G->M D}{γ:G}{h:AH}{r l:AH}{Q:D->AH->Prop}(J:Nat->List D->Int->Prop)
 (hs:W (mi γ) h λsrc h1=>∃k,PS h1 k (r++l)/\J 0 [] k/\(∀h k xs,PS h k (r++(l++[.lst xs]))->src.good h) /\
  (∀i d h k xs,src.items[i]?=some d->J i xs k->PS h k (r++(l++[.lst xs]))->W (g d (capG cap γ)) h λγ1 h1'=>W (kk γ1) h1' λt h2=>if t=true then W (me γ1) h2 λv h3=>∃k',PS h3 k' (r++(l++[.lst xs]))/\xs.length<1000000/\J (i+1) (xs++[v]) k' else ∃k',PS h2 k' (r++(l++[.lst xs]))/\J (i+1) xs k') /\
  ∀h' xs k,J src.items.length xs k->PS h' k (r++(l++[.lst xs]))->Q (.ref (r.length+l.length+3)) h'):W (z0F cap mi g kk me γ) h Q:=by
 refine zL5 ?_;refine hs.mono λsrc h1 ⟨k,p1,j0,good,st,fin⟩=>?_;have l1:h1.length=r.length+l.length+3:=by rw[p1.len,K06]
 refine⟨λi h'=>∃xs k,J i xs k/\PS h' k (r++(l++[.lst xs])),⟨[],k,j0,by rw[<- K0z];exact p1.app _⟩,λi h' ⟨xs,k,_,p⟩=>good h' k xs p,?_,?_⟩
 ·rintro i d h2 hd ⟨xs,k,jx,p2⟩;refine(st i d h2 k xs hd jx p2).mono λγ1 h3 w3=>w3.mono λt h4 w4=>?_;cases t with
  | false=>rw[if_neg (by decide)]at w4 ⊢;obtain⟨k',p4,j4⟩:=w4;exact⟨xs,k',j4,p4⟩
  | true =>
   rw[if_pos rfl]at w4 ⊢;refine w4.mono λv h5 ⟨k',p5,lx,j5⟩=>?_;rw[l1,show r.length+l.length+3=r.length+l.length+3 from rfl];refine zi1 (i:=l.length) p5 (by simp) lx λh6 p6=>?_;refine⟨_,k',j5,?_⟩;rw[K2h _ _ (K03 _),Z0m]at p6;exact p6
 ·rintro h2 ⟨xs,k,jx,p2⟩;rw[l1];exact fin h2 xs k jx p2
def lkD (kvs:List (Key×D)) (k:Key):Option D:=(kvs.find? λkv=>decide (kv.1=k)).map (·.2)
def ptD (kvs:List (Key×D)) (k:Key) (v:D):List (Key×D) :=
 if (kvs.any λkv=>decide (kv.1=k))=true then kvs.map (λkv=>if kv.1=k then (kv.1,v) else kv) else kvs++[(k,v)]
section
variable {K:K2}{ρ:List Addr}{H:Hp}
theorem RK.len:∀{kvs:List (Key×D)}{vs:List (Key×V)},RK K ρ H kvs vs->kvs.length=vs.length
 | _,_,.nil=>rfl
 | _,_,.cons _ b=>by simp[RK.len b]
theorem RK.lk (k:Key):∀{kvs:List (Key×D)}{vs:List (Key×V)},RK K ρ H kvs vs->(lkD kvs k=none/\valV vs k=none)\/∃d v,lkD kvs k=some d/\valV vs k=some v/\RD K ρ H d v
 | _,_,.nil=>.inl ⟨rfl,rfl⟩
 | p::kvs,q::vs,.cons a b=>by
  by_cases e:p.1=k
  ·refine .inr ⟨p.2,q.2,by simp[lkD,K3e,e],z36 (a.1.symm.trans e),a.2⟩
  ·rw[z3d (λz=>e (a.1.trans z))];have:lkD (p::kvs) k=lkD kvs k:=by simp[lkD,K3e,e]
   rw[this];exact RK.lk k b
theorem RK.any (k:Key):∀{kvs:List (Key×D)}{vs:List (Key×V)},RK K ρ H kvs vs->(kvs.any λkv=>decide (kv.1=k))=vs.any λkv=>decide (kv.1=k)
 | _,_,.nil=>rfl
 | _,_,.cons a b=>by rw[K2t,K2t,RK.any k b,a.1]
theorem RK.rep (k:Key) {d:D}{v:V}(r:RD K ρ H d v):∀{kvs:List (Key×D)}{vs:List (Key×V)},RK K ρ H kvs vs->RK K ρ H (kvs.map (λkv=>if kv.1=k then (kv.1,d) else kv)) (vs.map (λkv=>if kv.1=k then (kv.1,v) else kv))
 | _,_,.nil=>.nil
 | p::kvs,q::vs,.cons a b=>by
  rw[K0f,K0f];refine .cons ?_ (RK.rep k r b);by_cases e:p.1=k
  ·rw[if_pos e,if_pos (a.1.symm.trans e)];exact⟨a.1,r⟩
  ·rw[if_neg e,if_neg (λz=>e (a.1.trans z))];exact a
theorem RK.snoc {k:Key}{d:D}{v:V}(r:RD K ρ H d v):∀{kvs:List (Key×D)}{vs:List (Key×V)},RK K ρ H kvs vs->RK K ρ H (kvs++[(k,d)]) (vs++[(k,v)])
 | _,_,.nil=>.cons ⟨rfl,r⟩ .nil
 | _,_,.cons a b=>.cons a (RK.snoc r b)
theorem RK.put (k:Key) {d:D}{v:V}(r:RD K ρ H d v) {kvs:List (Key×D)}{vs:List (Key×V)}(q:RK K ρ H kvs vs):RK K ρ H (ptD kvs k d) (L2.putK vs k v):=by
 unfold ptD L2.putK;rw[q.any k];split
 ·exact q.rep k r
 ·exact q.snoc r
theorem zm0 {d:D}{k:Key}{v:V}(e:keyD d=some k) (r:RD K ρ H d v):v=kV k:=by
 cases d<;>simp only[keyD]at e<;>first|(cases e;simp only[RD]at r;exact r)|cases e
end
def getK (n:Nat):M (List (Key×D)):=λh=>match h[n]? with
 | some (.dK kvs)=>.ok kvs h
 | some (.dF kvs)=>.ok kvs h
 | _=>.bad
def newK (kvs:List (Key×D)):M D:=λh=>if kvs.length<=sizeLine then .ok (.ref h.length) (h++[.dK kvs]) else .bad
def dicD:D->M (List (Key×D))
 | .ref n=>getK n
 | _=>bad
def z2R:D->D->M D:=λx y=>do
 let kvs <- dicD x
 match keyD y with
 | some k=>(match lkD kvs k with
  | some d=>pure d
  | none=>bad)
 | none=>bad
def fInD (neg:Bool):D->D->M D:=λy x=>do
 let kvs <- dicD x
 match keyD y with
 | some k=>pure (.bl ((lkD kvs k).isSome != neg))
 | none=>bad
def zn4:D->D->D->M Unit:=λo i v=>match o with
 | .ref n=>(match keyD i with
  | some k=>λh=>match h[n]? with
   | some (.dK kvs)=>if kvs.length<sizeLine then .ok () (h.set n (.dK (ptD kvs k v))) else .bad
   | _=>.bad
  | none=>bad)
 | _=>bad
section
variable {X:Cx}{EX:XX}{a o i e f:Expr}{pos apos cpos:Pos}{mo mi ma mb:G->M D}
theorem z6n {K:K2}{ρ:List Addr}{h:AH}{H:Hp}{x:D}{u:V}{Z:List (Key×D)->List Addr->AH->Hp->Prop}(r:RH K ρ h H) (rx:RD K ρ H x u) (fin:Fin K EX ρ H Z (dicD x h)):∃n a kvs vs,x=.ref n/\u=.ref a/\ρ[n]?=some a/\(h[n]?=some (.dK kvs)\/h[n]?=some (.dF kvs))/\Rd H a (.dK vs)/\RK K ρ H kvs vs/\Z kvs ρ h H:=by
 cases x<;>first|exact(show False from fin).elim|skip
 rename_i n;simp only[RD]at rx;obtain⟨a,rfl,hq⟩:=rx;unfold dicD getK at fin;dsimp only at fin;cases e:h[n]? with
 | none=>rw[e]at fin;exact fin.elim
 | some ob =>
  cases ob with
  | lst xs=>rw[e]at fin;exact fin.elim
  | set xs=>rw[e]at fin;exact fin.elim
  | dct=>rw[e]at fin;exact fin.elim
  | exc c=>rw[e]at fin;exact fin.elim
  | dK kvs =>
   rw[e]at fin;obtain⟨a1,n1,vs,o1,d1⟩:=r.at e;rw[hq]at n1;cases n1;exact⟨n,a,kvs,vs,rfl,rfl,hq,.inl e,.inl o1,d1,fin ρ H (Pre.refl _) (Ext.refl _ _) r⟩
  | dF kvs =>
   rw[e]at fin;obtain⟨a1,n1,ob,vs,o1,d1⟩:=r.at e;rw[hq]at n1;cases n1;exact⟨n,a,kvs,vs,rfl,rfl,hq,.inr e,.inr ⟨ob,o1⟩,d1,fin ρ H (Pre.refl _) (Ext.refl _ _) r⟩
theorem z2M (hu:X.A.units+1<cLine) (ha:SE X EX o mo) (hb:SE X EX i mi) (hs:NoSl i:=by intro _ _;rfl):SE X EX (.Subscript o i pos) (e2 z2R mo mi) :=
 ⟨PE.imp (zp7 hu ha.h hb.h hs) λσ H Q ⟨ρ,γ,h,rel,fin⟩=>⟨ρ,γ,h,rel,(Fin.bind fin).mono λx ρ1 h1 H1 p1 e1 r1 f1 v rv=>⟨ρ1,γ,h1,⟨rel.g.mono p1 e1,r1⟩,(Fin.bind f1).mono λy ρ2 h2 H2 p2 e2 r2 f2 w rw'=>by
  obtain⟨n,ad,kvs,vs,rfl,rfl,hn,hk,hH,rk,f3⟩:=z6n r2 (rv.mono p2 e2) (Fin.bind f2);cases ek:keyD y with
  | none=>rw[ek]at f3;exact f3.elim
  | some k =>
   rw[ek]at f3;have:=zm0 ek rw';subst this;rcases rk.lk k with ⟨z1,_⟩|⟨d,u,z1,z2,rd⟩
   ·dsimp only at f3;rw[z1]at f3;exact f3.elim
   ·dsimp only at f3;rw[z1]at f3;refine⟨ad,u,rfl,?_,FE.here f3 r2 rd⟩;rw[<- z2];exact .inl ⟨vs,k,hH,rfl,rfl⟩⟩⟩⟩
def rInD (neg:Bool):R2:=λy x H Q=>∃ad ov,x=.ref ad/\DGet H ad y ov/\Q (.bl (ov.isSome != neg)) H
theorem zz7 (hu:X.A.units+1<cLine):OpR X (K22 .In) (rInD false):=by
 intro pins s σ H x y v u Q I rx ry h;obtain⟨ad,ov,rfl,g,q⟩:=h;cases ry;rw[K60]at q;exact d_in hu I g rx λs' I'=>⟨.bl _,H,I',rfl,q⟩
theorem zC6 {neg:Bool}:BR X.K EX (rInD neg) (fInD neg):=by
 intro ρ h H y x w v Q r ry rx fin;obtain⟨n,ad,kvs,vs,rfl,rfl,hn,hk,hH,rk,f3⟩:=z6n r rx (Fin.bind fin);cases ek:keyD y with
 | none=>rw[ek]at f3;exact f3.elim
 | some k =>
  rw[ek]at f3;have:=zm0 ek ry;subst this;refine⟨ad,valV vs k,rfl,.inl ⟨vs,k,hH,rfl,rfl⟩,?_⟩;have:(valV vs k).isSome=(lkD kvs k).isSome:=by
   rcases rk.lk k with ⟨z1,z2⟩|⟨d,u,z1,z2,_⟩<;>rw[z1,z2]<;>rfl
  rw[this];exact FE.here f3 r (by simp[RD])
theorem zA4 (hu:X.A.units+1<cLine):CO X EX .In (fInD false):=⟨_,zz7 hu,zC6⟩
end
def orM {α:Type} (m n:M α):M α:=λh=>match m h with
 | .bad=>n h
 | r=>r
def orE {α:Type} (m n:G->M α):G->M α:=λγ=>orM (m γ) (n γ)
section
variable {X:Cx}{EX:XX}{e tg:Expr}
theorem zf3 {α:Type}(m n:M α) (h:AH):orM m n h=m h\/orM m n h=n h:=by
 unfold orM;cases m h with
 | bad=>exact .inr rfl
 | ok a b=>exact .inl rfl
 | err a b=>exact .inl rfl
theorem zS1 {m n:G->M Src}(a:SI X EX tg e m) (b:SI X EX tg e n):SI X EX tg e (orE m n) :=
 ⟨λpins s σ H Q I ⟨ρ,γ,h,rel,fin⟩=>by
  rcases zf3 (m γ) (n γ) h with z|z<;>rw[show orE m n γ h=orM (m γ) (n γ) h from rfl,z]at fin
  ·exact a.h pins s σ H Q I ⟨ρ,γ,h,rel,fin⟩
  ·exact b.h pins s σ H Q I ⟨ρ,γ,h,rel,fin⟩⟩
end
theorem or_l {α:Type}{m n:G->M α}{γ:G}{h h1:AH}{v:α}(e:m γ h=.ok v h1):orE m n γ h=.ok v h1:=by unfold orE orM;rw[e]
theorem or_r {α:Type}{m n:G->M α}{γ:G}{h:AH}(e:m γ h=.bad):orE m n γ h=n γ h:=by unfold orE orM;rw[e]
theorem W_of {α:Type}{m:M α}{h h1:AH}{v:α}{Q:α->AH->Prop}(e:m h=.ok v h1) (q:Q v h1):W m h Q:=⟨_,_,e,q⟩
def putN (acc:List Nat) (k:Nat):List Nat:=if k∈acc then acc else acc++[k]
def dedN (l:List Nat):List Nat:=l.foldl putN []
theorem z9R {a:List Nat}{k x:Nat}:x∈putN a k↔x∈a\/x=k:=by
 unfold putN;split
 ·exact⟨.inl,λh=>h.elim id λe=>by subst e;assumption⟩
 ·simp
theorem zk6 {a:List Nat}{k:Nat}(h:a.Nodup):(putN a k).Nodup:=by
 unfold putN;split
 ·exact h
 ·exact z3D h ‹_›
theorem z63 {x:Nat}:∀{l a:List Nat},x∈l.foldl putN a↔x∈a\/x∈l
 | [],a=>by simp
 | k::l,a=>by rw[K3w,z63,z9R,K0a];exact or_assoc
theorem z9x:∀{l a:List Nat},a.Nodup->(l.foldl putN a).Nodup
 | [],_,h=>h
 | _::l,_,h=>z9x (l:=l) (zk6 h)
theorem dedN_mem {l:List Nat}{x:Nat}:x∈dedN l↔x∈l:=by unfold dedN;rw[z63];simp
theorem z7V (l:List Nat):(dedN l).Nodup:=z9x K7a
theorem z8h:∀(l a:List Nat),(kN l).foldl putK (kN a)=kN (l.foldl putN a)
 | [],a=>rfl
 | k::l,a=>by
  have e:putK (kN a) (.inl (k:Int))=kN (putN a k):=by
   unfold putN;split
   ·rename_i h;unfold putK;rw[if_pos (kN_mem.mpr h)]
   ·exact zE1 ‹_›
  show (kN l).foldl putK (putK (kN a) (.inl (k:Int)))=_;rw[e];exact z8h l (putN a k)
theorem zE2 (l:List Nat):dedK (kN l)=kN (dedN l):=z8h l []
theorem z9W {l:List Nat}{n:Nat}(h:∀x∈l,x<n):(dedN l).length<=n:=z7L (z7V l) λx hx=>h x (dedN_mem.mp hx)
theorem z8Y:∀l:List Nat,z4e (stD l)=some (kN l)
 | []=>rfl
 | a::l=>by
  have:z4e (stD (a::l))=(match keyD (.int (a:Int)),z4e (stD l) with
   | some k,some ks=>some (k::ks)
   | _,_=>none):=rfl
  rw[this,z8Y l];rfl
def setN (l:List Nat):List Nat:=z2e (dedN l)
theorem setN_mem {l:List Nat}{x:Nat}:x∈setN l↔x∈l:=by unfold setN;rw[z5l,dedN_mem]
theorem z4V (l:List Nat):(setN l).Pairwise (·<·):=z46 (z7V l)
theorem z9y {l:List Nat}(h:l.Pairwise (·<·)):l.Nodup:=h.imp λh=>K0e h
theorem zf5 {l m:List Nat}(a:l.Pairwise (·<·)) (b:m.Pairwise (·<·)) (h:∀x,x∈l↔x∈m):l=m :=
 ((List.perm_ext_iff_of_nodup (z9y a) (z9y b)).mpr h).eq_of_pairwise (λ_ _ _ _ h1 h2=>absurd h2 (Nat.lt_asymm h1)) a b
theorem zc3 {l:List Nat}{n:Nat}(h:∀x∈l,x<n):(setN l).length<=n:=by unfold setN;rw[z1u];exact z9W h
inductive RchT (st:List (List Nat)) (T:List Nat) (x:Nat):Nat->Prop
 | here:RchT st T x x
 | step {a b:Nat}:RchT st T x a->b∈nx st a->b∉T->RchT st T x b
structure FndT (st:List (List Nat)) (T:List Nat) (x:Nat) (S:List Nat):Prop where
 nd:S.Nodup
 rc:∀a∈S,RchT st T x a
 hx:x∈S
 nt:∀a∈S,a∉T
theorem FndT.put {st:List (List Nat)}{T:List Nat}{x a b:Nat}{S:List Nat}(f:FndT st T x S) (ha:a∈S) (hb:b∈nx st a) (nb:b∉S) (nt:b∉T):FndT st T x (S++[b]) :=
 ⟨z3D f.nd nb,λc hc=>by
  rcases K0p.mp hc with q|q
  ·exact f.rc c q
  ·simp at q;subst q;exact .step (f.rc a ha) hb nt,K2q _ f.hx,λc hc=>by
  rcases K0p.mp hc with q|q
  ·exact f.nt c q
  ·simp at q;subst q;exact nt⟩
theorem FndT.one {st:List (List Nat)}{T:List Nat}{x:Nat}(h:x∉T):FndT st T x [x]:=⟨by simp,λa ha=>by simp at ha;subst ha;exact .here,by simp,λa ha=>by simp at ha;subst ha;exact h⟩
section
variable {ma me:G->M D}{mt:G->M Out}{γ:G}{h:AH}{a b i:Nat}{xs:List D}{v:D}{Q:Out->AH->Prop}
theorem z2L (e:h[i]?=.(l xs)):z1Q (.ref i) h=.ok i h:=by unfold z1Q;dsimp only;rw[e]
theorem z6Q (e:h[i]?=.(l xs)) (hl:xs.length<1000000):w8 i v h=.ok .non (h.set i (.lst (xs++[v]))):=by
 unfold w8 updL;rw[e];dsimp only;rw[if_pos (by simp[sizeLine];omega)]
theorem z1g (ea:γ[a]?=some (.(r i))) (e:h[i]?=.(l xs)) (hl:xs.length<1000000) (ev:me γ h=.ok v h) (z:W (mt γ) (h.set i (.lst (xs++[v]))) Q):W (Z3 (z0K (eM1 w8 (eVar a) me)) mt γ) h Q:=by
 refine z6E ?_;have e1:eVar a γ=pure (.ref i):=by unfold eVar;rw[ea]
 unfold eM1;rw[e1,z2m,j3];refine W_of (z2L e) ?_;rw[j3];exact W_of ev (W_of (z6Q e hl) z)
theorem z5q (hl:xs.length<=1000000) (ev:∀h,me γ h=newL xs h) (z:W (mt (γ.set a (.(r h.length)))) (h++[.lst xs]) Q):W (Z3 (sAsg me (gN a)) mt γ) h Q:=by
 refine z8c ?_;have:me γ=newL xs:=funext ev;rw[this];exact zR7 hl z
theorem j9 {f:List D->M D}{d:D}{h1:AH}{r:Res D}(e:me γ h=.ok d h1) (e2:f [d] h1=r):j7 f (Z1 me aNil) γ h=r:=by
 have:Z1 me aNil γ h=.ok [d] h1:=by
  show (me γ >>= λx=>(do let r <- aNil γ;pure (x::r):M (List D))) h=_;rw[M.bind_ok e];rfl
 show (Z1 me aNil γ >>= f) h=_;rw[M.bind_ok this];exact e2
theorem z33 (e:h[i]?=.(l xs)):J9 [.ref i] h=.ok (.tup xs) h:=by
 have ft:J9 [.ref i]=(do let x <- getL i;pure (.tup x)):=rfl;have g:getL i h=.ok xs h:=by unfold getL;rw[e]
 rw[ft,M.bind_ok g];rfl
theorem z4N (e:h[i]?=.(l xs)):fLen [.ref i] h=.ok (.int xs.length) h:=by
 have ft:fLen [.ref i]=(do let x <- getL i;pure (.int x.length)):=rfl;have g:getL i h=.ok xs h:=by unfold getL;rw[e]
 rw[ft,M.bind_ok g];rfl
theorem ix_h {t:Int}{d:D}(e:h[i]?=.(l xs)) (a:atI xs t=some d):fIx (.ref i) (.int t) h=.ok d h:=by
 have ft:fIx (.ref i) (.int t)=(do let xs <- getL i;match atI xs t with|some d=>pure d|none=>bad):=rfl;have g:getL i h=.ok xs h:=by unfold getL;rw[e]
 rw[ft,M.bind_ok g,a];rfl
theorem z7H {ss:List Str}(e:h[i]?=.(l (ss.map .str))) (hl:ss.length<64):z1q [.ref i] h=.ok (.ref h.length) (h++[.lst ((z1V ss).map .str)]):=by
 have fs:z1q [.ref i]=(do
  let xs <- getL i
  if xs.length<64 then (match z32 xs with
   | some ss=>newL ((z1V ss).map .str)
   | none=>(match z3O xs with
    | some ns=>newL ((sortI ns).map .int)
    | none=>bad)) else bad):=rfl
 have g:getL i h=.ok (ss.map .str) h:=by unfold getL;rw[e]
 rw[fs,M.bind_ok g,if_pos (by simpa using hl),strs_map];dsimp only;unfold newL;rw[if_pos (by rw[K6,z3m];unfold sizeLine;omega)]
theorem zl1 (e:me γ h=.ok (.ref h.length) (h++[.lst xs])) (c:k9 0 xs=true):clE (j7 J9 (Z1 me aNil)) γ h=.ok (.tup xs) h :=
 z0Q (j:=[.lst xs]) (j9 e (z33 (by simp))) (by simp only[y9];exact z1X (K3a _) c)
theorem cb_h {b:Bool}{h1:AH}(e:me γ h=.ok (.bl b) h1):(λγ=>(do let d <- me γ;asB d:M Bool)) γ h=.ok b h1:=by
 dsimp only;rw[M.bind_ok e];rfl
theorem z1o {n:Nat}{mb:G->M Out}{ds:List D}{d:D}{h1:AH}(z:W (mb (z0Y n ds)) h (runW λa h'=>a=d/\h'=h1)):runF n mb ds h=.ok d h1:=by
 obtain⟨_,_,a,rfl,rfl⟩:=z1W z;exact a
end
theorem z8n {f:D->D->Option Bool}{ι:Type} [DecidableEq ι] {enc:ι->D}(e:∀a b,f (enc a) (enc b)=some (decide (a=b))):∀l m:List ι,eqZ f (l.map enc) (m.map enc)=some (decide (l=m))
 | [],[]=>by simp[eqZ]
 | [],b::m=>by simp[eqZ]
 | a::l,[]=>by simp[eqZ]
 | a::l,b::m=>by
  rw[K0f,K0f];unfold eqZ;rw[e a b,z8n e l m];dsimp only;congr 1;rw[K17];simp
theorem zp6 {n:Nat}{h:AH}(a b:Nat):eqN (n+1) h (.int a) (.int b)=some (decide (a=b)):=by
 show some ((a:Int)==(b:Int))=_;congr 1;rw[K17,beq_iff_eq,decide_eq_true_eq];exact Int.ofNat_inj
theorem z9c {n:Nat}{h:AH}(a b:Str):eqN (n+1) h (.str a) (.str b)=some (decide (a=b)):=by
 show some (a==b)=_;congr 1
theorem z8G {ι:Type} [DecidableEq ι] {enc:ι->D}{n:Nat}{h:AH}(e:∀a b,eqN n h (enc a) (enc b)=some (decide (a=b))) (l m:List ι):eqN (n+1) h (.tup (l.map enc)) (.tup (m.map enc))=some (decide (l=m)):=z8n e l m
theorem z7Z {neg:Bool}{h:AH}{x y:D}{b:Bool}(e:eqN 24 h x y=some b):fEqX neg x y h=.ok (.bl (b != neg)) h:=by
 unfold fEqX;rw[e]
theorem zz0 {l m:List Nat}{neg:Bool}:fEqX neg (.tup (stD l)) (.tup (stD m))=pure (.bl (decide (l=m) != neg)):=funext λh=>z7Z (z8G (enc:=λ(i:Nat)=>.int i) zp6 l m)
section
variable {ma mb:G->M D}{γ:G}{h h1 h2:AH}
theorem e2_h {f:D->D->M D}{x y:D}{r:Res D}(e1:ma γ h=.ok x h1) (e2':mb γ h1=.ok y h2) (e3:f x y h2=r):e2 f ma mb γ h=r:=by
 show (ma γ >>= λx=>(mb γ >>= λy=>f x y)) h=_;rw[M.bind_ok e1,M.bind_ok e2',e3]
theorem fn_h {n:Nat}{f:List D->M D}{mr:G->M (List D)}{ds:List D}{r:Res D}(e:mr γ h=.ok ds h1) (hn:ds.length=n) (e2:f ds h1=r):eFn n f mr γ h=r:=by
 show (mr γ >>= λxs=>if xs.length=n then f xs else bad) h=_;rw[M.bind_ok e,if_pos hn,e2]
theorem ac_h {mr:G->M (List D)}{d:D}{ds:List D}(e:ma γ h=.ok d h1) (e2:mr γ h1=.ok ds h2):Z1 ma mr γ h=.ok (d::ds) h2:=by
 show (ma γ >>= λx=>(mr γ >>= λr=>(pure (x::r):M (List D)))) h=_;rw[M.bind_ok e,M.bind_ok e2];rfl
end
section
variable {prog:K08}{w:World}{A:Around}{E:Value->Shared->Prop}{s:Shared}
end
section
variable {X:Cx}{EX:XX}{a o:Expr}{pos apos cpos p:Pos}{mo ma:G->M D}{mr:G->M (List D)}
def tBMT (K:K2) (r:V->List V->Hp->VK->Prop) (to:TE) (t:TA):TE:=λσ H Q=>to σ H λx H1=>(∃a xs,x=.ref a/\SqT K H1 a xs)/\t σ H1 λvs H2=>r x vs H2 Q
theorem tup_is {pins:List (Addr×Obj)}{σ:L2.St}{H:Hp}{s:Shared}{a:Addr}{xs:List V}(I:Inv X pins σ H s) (h:SqT X.K H a xs):s.TypeIs (.ref a) "tuple"/\∀b,K2e a=.ref b->∃ob,s.heap.get? b=some ob/\ob.dict=none:=by
 rcases h with h|⟨o,its,n,hk,hc,_⟩
 ·obtain⟨z,its,r,o,e,c,d⟩:=h.ok I.hok;exact⟨⟨o,e,c.1⟩,λb eb=>by cases eb;exact⟨o,e,c.2⟩⟩
 ·exact⟨⟨o,I.kIn a o hk,hc.1⟩,λb eb=>by cases eb;exact⟨o,I.kIn _ o hk,hc.2⟩⟩
theorem zC5 {e:Expr}{es:List Expr}{to:TE}{t:TA}{name:Str}{id:String}{r:V->List V->Hp->VK->Prop}(pa:PlainAttrs "tuple") (slot:Slot "tuple" name id) (hty:typeOf (.builtin id)=pure (.type "method_descriptor")) (hm:MtR X id r) (ho:PE X o to) (ha:PA X (e::es) t)
 (hbase:K49 o name X.env (eval o X.env)=eval o X.env:=by rfl)
 (hfew:((backTo cpos (K05 (e::es) X.env)).all (λx=>!x.1)&&(K3r cpos (K2b [] X.env)).all (λx=>x.1.isSome)
 &&decide ((e::es).length+([]:List K3d).length+(if ([]:List K3d).isEmpty then 0 else 1)<30))=true:=by rfl)
 (hline:(apos.endLine==cpos.line)=true:=by rfl) (hs:K05 (e::es) X.env=(false,eval e X.env)::K05 es X.env:=by rfl) (hplain:(backTo cpos (K05 es X.env)).any (·.1)=false:=by rfl) :
 PE X (.Call (.Attribute o name apos) (e::es) [] cpos) (tBMT X.K r to t):=by
 intro pins s σ H Q I h;refine K8z hbase hfew hline rfl (thn (ho pins s σ H _ I h) λv s1 ⟨x,H1,I1,r1,ty,q1⟩=>?_);obtain⟨a,xs,rfl,hq⟩:=ty;cases r1;obtain⟨h1,h2⟩:=tup_is I1 hq;refine⟨"tuple",id,pa,slot,hty,h1,h2,?_⟩;have hA:=ha cpos pins s1 σ H1 _ I1 q1;rw[hs]at hA ⊢;refine K8t (by show (false||(backTo cpos (K05 es X.env)).any (·.1))=false;rw[hplain]<;>rfl) (K9f ?_);exact thn hA λus s2 ⟨vs,H2,I2,r2,q2⟩=>hm pins s2 σ H2 (.ref a) vs (.ref a) us Q I2 rfl r2 q2
end
theorem z8e {h:AH}{n:Nat}{l:List Nat}{x:Nat}{neg:Bool}(e:h[n]?=.(l (stD l))):fIn neg (.int x) (.ref n) h=.ok (.bl (decide (x∈l) != neg)) h:=by
 have g:getL n h=.ok (stD l) h:=by unfold getL;rw[e]
 unfold fIn seqD;rw[M.bind_ok g,z8k,zh5];rfl
theorem z1H {h:AH}{o:O}:(h++[o])[h.length]?=some o:=by simp
theorem z65 {h:AH}{o o':O}:(h++[o]).set h.length o'=h++[o']:=by simp
theorem zm8 {h:AH}{i:Nat}{S:List Nat}(hl:S.length<64) (e:h[i]?=.(l (stD S))):z1q [.ref i] h=.ok (.ref h.length) (h++[.lst (stD (z2e S))]):=by
 have fs:z1q [.ref i]=(do
  let xs <- getL i
  if xs.length<64 then (match z32 xs with
   | some ss=>newL ((z1V ss).map .str)
   | none=>(match z3O xs with
    | some ns=>newL ((sortI ns).map .int)
    | none=>bad)) else bad):=rfl
 have g:getL i h=.ok (stD S) h:=by unfold getL;rw[e]
 cases S with
 | nil =>
  rw[fs,M.bind_ok g,if_pos (by rw[z2w];exact hl)];have e1:z32 (stD [])=some []:=rfl;have e2:(z1V []).map D.str=stD (z2e []):=by
   have a:z1V []=[]:=K4a.mp (by rw[z3m];rfl);have b:z2e []=[]:=K4a.mp (by rw[z1u];rfl);rw[a,b];rfl
  rw[e1];dsimp only;rw[e2];unfold newL;rw[if_pos (by rw[z2w,z1u];unfold sizeLine;simp)]
 | cons a S =>
  have sn:z32 (stD (a::S))=none:=rfl;rw[fs,M.bind_ok g,if_pos (by rw[z2w];exact hl),sn,z6r];dsimp only;rw[z5k];unfold newL;rw[if_pos (by rw[z2w,z1u];unfold sizeLine;omega)]
section
variable {mo ma:G->M D}{γ:G}{h:AH}{i x:Nat}{l:List Nat}
end
section
variable {me ma:G->M D}{kb:G->M Bool}{γ:G}{h h1:AH}{a i:Nat}{b:Bool}{xs:List D}
theorem cv_h (e:me γ h=.ok (.bl b) h1):cVal me γ h=.ok b h1:=by
 unfold cVal;rw[M.bind_ok e];rfl
theorem cn_h (e:kb γ h=.ok b h1):cNot kb γ h=.ok (!b) h1:=by
 unfold cNot;rw[M.bind_ok e];rfl
theorem Z6 {d:D}(e:γ[a]?=some (some d)):eVar a γ h=.ok d h:=by unfold eVar;rw[e];rfl
theorem zL0 {bs:List Bool}(e:me γ h=.ok (.ref h.length) (h++[.lst (bs.map .bl)])):clE (j7 (fAll false) (Z1 me aNil)) γ h=.ok (.bl (bs.all id)) h :=
 z0Q (j:=[.lst (bs.map .bl)]) (j9 e (by
  have g:getL h.length (h++[O.lst (bs.map .bl)])=.ok (bs.map .bl) (h++[O.lst (bs.map .bl)]):=by unfold getL;rw[z1H]
  unfold fAll;dsimp only;rw[M.bind_ok g,z5B];rfl)) rfl
theorem zH1 (e:me γ h=.ok (.ref i) h) (q:h[i]?=.(l xs)):z1b me γ h=.ok (.lst i xs) h:=by
 have g:getL i h=.ok xs h:=by unfold getL;rw[q]
 unfold z1b;rw[M.bind_ok e];dsimp only;rw[M.bind_ok g];rfl
theorem z0P (e:me γ h=.ok (.tup xs) h1):z0S me γ h=.ok (.con xs) h1:=by
 unfold z0S;rw[M.bind_ok e];rfl
theorem zO2 (e:me γ h=.ok (.ref i) h) (q:h[i]?=.(l xs)):orE (z0S me) (z1b me) γ h=.ok (.lst i xs) h:=by
 rw[or_r]
 ·exact zH1 e q
 ·unfold z0S;rw[M.bind_ok e];rfl
theorem zO4 (e:me γ h=.ok (.tup xs) h1):orE (z0S me) (z1b me) γ h=.ok (.con xs) h1:=or_l (z0P e)
end
theorem zh9 {ma mb:G->M D}{γ:G}{h h1 h2:AH}{x y:D}(e1:ma γ h=.ok x h1) (e2':mb γ h1=.ok y h2):eTup (Z1 ma (Z1 mb aNil)) γ h=.ok (.tup [x,y]) h2:=by
 have e3:Z1 ma (Z1 mb aNil) γ h=.ok [x,y] h2:=ac_h e1 (ac_h e2' rfl);unfold eTup;rw[M.bind_ok e3];rfl
def rowAt (row:List Nat) (o:Nat):Nat:=(row[o]?).getD 0
def mkAt (mk:List (List Str)) (i:Nat):List Str:=(mk[i]?).getD []
def Canon (row:List Nat):Prop:=∀i v,row[i]?=some v->∀u,u<v->u∈row.take i
def led (st:List (List Nat)) (row:List Nat) (x:Nat):List Nat:=setN ((nx st x).map (rowAt row))
structure Steady (st:List (List Nat)) (mk:List (List Str)) (row:List Nat):Prop where
 len:row.length=st.length
 can:Canon row
 like:∀i,i<row.length->mkAt mk i=mkAt mk (row.idxOf (rowAt row i))/\led st row i=led st row (row.idxOf (rowAt row i))
structure Cop (bst:List (List Nat)) (bmk:List (List Str)) (st:List (List Nat)) (mk:List (List Str)) (raw:List Nat):Prop where
 l:st.length=raw.length
 kd:∀x,x∈raw↔x<bst.length
 rise:∀i,i<raw.length->(nx st i).Pairwise (·<·)
 lt:∀i,i<raw.length->∀o∈nx st i,o<raw.length
 st:∀i,i<raw.length->∀t,t∈(nx st i).map (rowAt raw)↔t∈nx bst (rowAt raw i)
 ml:mk=raw.map (mkAt bmk)
section
variable {raw:List Nat}
end
section
variable {bst st:List (List Nat)}{bmk mk:List (List Str)}{raw:List Nat}
end
theorem z6s {s:Shared}{M:Model}{A:Around}{a:Addr}{T id:String}{E:Value->Shared->Prop}{Q:Bool->Shared->Prop}(h:s.TypeIs (.ref a) T) (sl:Slot T (K2n "__iter__") id) (q:Q false s):wpAny M A (notIterableAtAll (.ref a)) Q E s:=by
 unfold notIterableAtAll;refine K0 (K6x h sl.lookup ?_);exact K5 q
def zO5 (K:K2) (ta:TE) (tr:TA):TA:=λσ H Q=>ta σ H λx H1=>∃a xs,x=.ref a/\(SqT K H1 a xs\/SqL K H1 a xs)/\tr σ H1 λys H2=>Q (xs++ys) H2
section
variable {X:Cx}{EX:XX}{e:Expr}{es:List Expr}{te:TE}{t:TA}{p pos:Pos}{ma:G->M D}{mr:G->M (List D)}
theorem Vals.app {xs ys:List V}{us ws:List Value}(a:Vals xs us) (b:Vals ys ws):Vals (xs++ys) (us++ws):=a.append b
theorem zw7 (ha:PE X e te) (hr:PA X es t):PA X (.Starred e p::es) (zO5 X.K te t):=by
 intro pos pins s σ H Q I h;rw[arm_starEach_Starred];show wpAny _ _ (spliced ((true,do let v <- eval e X.env;K6n pos;pure v)::backTo pos (K05 es X.env))) _ _ s;refine PySem.W.ks_spliced (thn (ha pins s σ H _ I h) λu s1 ⟨x,H1,I1,r1,q1⟩=>?_);obtain⟨a,xs,rfl,hq,q⟩:=q1;cases r1;rcases hq with hq|hq
 ·obtain⟨its,rv,pl,hz⟩:=I1.tuple hq;have hl:=rv.length;obtain⟨o,ho,hc,n,hd⟩:=id pl;refine z6s ⟨o,ho,hc⟩ PySem.F.slot_tuple_iter ⟨rfl,wpAny_collect_seq a (.inr rfl) ho hc hd (λh' kp=>?_) (by rw[K9];omega)⟩;have I2:Inv X pins σ H1 { s1 with heap:=h' }:=I1.kept (t':=s1.toks) kp;exact thn (hr pos pins _ σ H1 _ I2 q) λus s3 ⟨ys,H3,I3,r3,q3⟩=>⟨xs++ys,H3,I3,by simpa using rv.append r3,q3⟩
 ·obtain⟨its,rv,pl,hz⟩:=I1.list hq;have hl:=rv.length;obtain⟨o,n,ho,hc,hdd,hd⟩:=id pl;refine z6s ⟨o,ho,hc⟩ PySem.F.slot_list_iter ⟨rfl,wpAny_collect_seq a (.inl rfl) ho hc hd (λh' kp=>?_) (by rw[K9];omega)⟩;have I2:Inv X pins σ H1 { s1 with heap:=h' }:=I1.kept (t':=s1.toks) kp;exact thn (hr pos pins _ σ H1 _ I2 q) λus s3 ⟨ys,H3,I3,r3,q3⟩=>⟨xs++ys,H3,I3,by simpa using rv.append r3,q3⟩
def z5C (ma:G->M D) (mr:G->M (List D)):G->M (List D):=λγ=>do
 let x <- ma γ
 match x with
 | .tup xs=>do
  let r <- mr γ
  pure (xs++r)
 | .ref n=>do
  let xs <- getL n;let r <- mr γ
  pure (xs++r)
 | _=>bad
theorem z9E (ha:SE X EX e ma) (hr:SA X EX es mr):SA X EX (.Starred e p::es) (z5C ma mr) :=
 ⟨PA.imp (zw7 ha.h hr.h) λσ H Q ⟨ρ,γ,h,rel,fin⟩=>⟨ρ,γ,h,rel,(Fin.bind fin).mono λx ρ1 h1 H1 p1 e1 r1 f1 v rv=>by
  cases x<;>first|exact(show False from f1).elim|skip
  ·rename_i xs;simp only[RD]at rv;obtain⟨q,vs,rfl,h2,h3⟩:=rv;exact⟨q,vs,rfl,.inl h2,ρ1,γ,h1,⟨rel.g.mono p1 e1,r1⟩,(Fin.bind f1).mono λds ρ2 h4 H2 p2 e2 r2 f2 ws rws =>
    f2 ρ2 H2 (Pre.refl _) (Ext.refl _ _) r2 (vs++ws) ((h3.mono p2 e2).append rws)⟩
  ·rename_i n;simp only[RD]at rv;obtain⟨q,rfl,hq⟩:=rv;have f2:=Fin.bind f1;cases e3:getL n h1 with
   | bad=>rw[e3]at f2;exact f2.elim
   | err z hz=>exact(z0M e3).elim
   | ok xs h3 =>
    obtain⟨rfl,q1⟩:=z0N e3;rw[e3]at f2;obtain⟨a1,n1,vs,o1,d1⟩:=r1.at q1;rw[hq]at n1;cases n1;have f3:=f2 ρ1 H1 (Pre.refl _) (Ext.refl _ _) r1;exact⟨_,vs,rfl,.inr (SqL.of o1),ρ1,γ,_,⟨rel.g.mono p1 e1,r1⟩,(Fin.bind f3).mono λds ρ2 h4 H2 p2 e2 r2 f2 ws rws =>
     f2 ρ2 H2 (Pre.refl _) (Ext.refl _ _) r2 (vs++ws) ((d1.mono p2 e2).append rws)⟩⟩⟩
end
end FT
namespace L2
section
variable {X:Cx}{tg:Expr}
end
end L2
namespace FT
section
variable {X:Cx}{EX:XX}{a b c tg:Expr}{p p2 pos pos2:Pos}{ma mb mc:G->M D}
end
end FT
namespace L2
section
variable {X:Cx}
end
end L2
namespace FT
section
variable {X:Cx}{EX:XX}{a b:Expr}{p p2 pos pos2:Pos}{ma mb:G->M D}
end
section
variable {X:Cx}{EX:XX}
end
section
variable {X:Cx}{EX:XX}{elt tg iter tg1 iter1:Expr}{ifs1:List Expr}{sc:Scope}{pos:Pos}{N':List Str}{cap:List (Option Nat)}{own own1:List Nat}{mi mi1:G->M Src}{g g1:D->G->M G}{k:G->M Bool}{me:G->M D}
end
def cnt (st:List (List Nat)):Nat->Nat->Nat
 | 0,_=>1
 | n+1,x=>((nx st x).map (cnt st n)).sum
def zP6 (w:List Nat):Nat:=w.getLast?.getD 0
def ext (st:List (List Nat)) (left:Nat) (w:List Nat):List (List Nat):=((nx st (zP6 w)).filter λy=>decide (0<cnt st left y)).map λy=>w++[y]
section
variable {st:List (List Nat)}
end
open Classical in
theorem z38 {ι:Type}{cap:List (Option Nat)}{mi:G->M Src}{g:D->G->M G}{kb:G->M Bool}{me:G->M D}{γ:G}{h h1:AH}{src:Src}{l:List ι}(enc:ι->D) (inj:∀x y,enc x=enc y->x=y) (p:ι->Bool) (f:ι->D) (hi:mi γ h=.ok src h) (hs:src.items=l.map enc) (hg:∀j,src.good (h++j)) (hl:l.length<=1000000)
 (hd:∀x∈l,∃γ1,(∀h,g (enc x) (capG cap γ) h=.ok γ1 h)/\(∀j,kb γ1 (h++j)=.ok (p x) (h++j))/\(p x=true->∀j,me γ1 (h++j)=.ok (f x) (h++j))):z0F cap mi g kb me γ h=.ok (.ref h.length) (h++[.lst ((l.filter p).map f)]):=by
 let p':D->Bool:=λd=>if e:∃x,enc x=d then p e.choose else false
 let f':D->D:=λd=>if e:∃x,enc x=d then f e.choose else .non
 have ep:∀x,p' (enc x)=p x:=λx=>by
  have e:∃y,enc y=enc x:=⟨x,rfl⟩;show (if e:∃y,enc y=enc x then p e.choose else false)=_;rw[dif_pos e,inj _ _ e.choose_spec]
 have ef:∀x,f' (enc x)=f x:=λx=>by
  have e:∃y,enc y=enc x:=⟨x,rfl⟩;show (if e:∃y,enc y=enc x then f e.choose else .non)=_;rw[dif_pos e,inj _ _ e.choose_spec]
 refine(z1D (src:=src) p' f' hi hg (by rw[hs,K6];exact hl) λd hd'=>?_).trans ?_
 ·rw[hs]at hd';obtain⟨x,hx,rfl⟩:=K0v.mp hd';rw[ep,ef];exact hd x hx
 ·rw[hs,Z1m,K1d];rw[show (p' ∘ enc)=p from funext ep,show (f' ∘ enc)=f from funext ef]
end FT
namespace L2
open PySem.AutoSeq1 (wpAny_loadPart')
section
variable {P:K08}{w:World}{A:Around}{E:Value->Shared->Prop}{s:Shared}{I t:Addr}
end
section
variable {X:Cx}{tg:Expr}
end
end L2
namespace FT
section
variable {X:Cx}{EX:XX}{a tg:Expr}{p pos:Pos}{ma:G->M D}
end
end FT
namespace L2
open PySem.AutoSeq1 (wpAny_loadPart')
section
variable {X:Cx}
end
end L2
namespace FT
section
variable {X:Cx}{EX:XX}{a o:Expr}{cpos apos:Pos}{ma mo:G->M D}
end
section
variable {ka kb:G->M Bool}{γ:G}{h:AH}{r:Res Bool}
theorem z5Q (e1:ka γ h=.ok false h) (e2':kb γ h=r):cOr ka kb γ h=r:=by
 unfold cOr;rw[M.bind_ok e1,if_neg (by decide)];exact e2'
end
theorem zF8 {xs:List D}{h:AH}(hl:xs.length<=1000000):newL xs h=.ok (.ref h.length) (h++[.lst xs]):=by
 unfold newL;rw[if_pos (K0l hl (by decide))]
theorem zo8 {k:G->M Bool}{body:G->M Out}{mt:G->M Out}{n m:Nat}{γ:G}{h:AH}{Q:Out->AH->Prop}(I:Nat->G->AH->Prop) (hm:m<n) (i0:I m γ h)
 (z:∀m γ h,I m γ h->∃b,k γ h=.ok b h/\if b=true then ∃m',m=m'+1/\W (body γ) h (forW (λγ h=>∃i,i<=m'/\I i γ h) λ_ _=>False) else W (mt γ) h Q):W (Z3 (z2i k body n) mt γ) h Q:=by
 rw[w_cons];refine(z3E I (λγ h=>W (mt γ) h Q) (λ_ _=>False) (λm γ h q=>?_) n m γ h hm i0).mono λo h1 q=>?_
 ·obtain⟨b,e,q1⟩:=z m γ h q;exact W_of e q1
 ·cases o with
  | nx γ=>exact q
  | rt d=>exact q.elim
  | bk d=>exact q.elim
  | ct d=>exact q.elim
def z7s (n:Nat) (i v:D):M Unit:=zn4 (.ref n) i v
noncomputable def z2Z (src:Src) (g:D->G->M G) (k:G->M Bool) (me mv:G->M D) (n0:Nat) (γ:G):List D->M Unit
 | []=>do
  let _ <- src.chk
  pure ()
 | d::r=>do
  let _ <- src.chk;let γ1 <- g d γ;let t <- k γ1
  if t then do
   let y <- me γ1;let v <- mv γ1;let _ <- z7s n0 y v
   z2Z src g k me mv n0 γ r
  else z2Z src g k me mv n0 γ r
noncomputable def z6u (cap:List (Option Nat)) (mi:G->M Src) (g:D->G->M G) (k:G->M Bool) (me mv:G->M D):G->M D:=λγ=>do
 let src <- mi γ;let n0 <- (λh=>.ok h.length (h++[.dK []]):M Nat);let _ <- z2Z src g k me mv n0 (capG cap γ) src.items
 pure (.ref n0)
section
variable {X:Cx}{EX:XX}{elt val tg iter c:Expr}{ifs:List Expr}{sc:Scope}{pos:Pos}{N':List Str}{cap:List (Option Nat)}{own:List Nat}{mi:G->M Src}{g:D->G->M G}{k kr:G->M Bool}{me mv:G->M D}
theorem zy6 {σ0:L2.St}{ρ0:List Addr}{n0:Nat}{Dd:Addr}(hD:ρ0[n0]?=some Dd):HB X EX own σ0 ρ0 (λγ1 K=>do let y <- me γ1;let v <- mv γ1;let _ <- z7s n0 y v;K) (bPut (tE X.K EX me) (tE X.K EX mv) Dd):=λ{σ γ1 ρ h H P K Z} p0 _ rg rh fin hz=>by
 refine⟨ρ,γ1,h,⟨rg,rh⟩,(Fin.bind fin).mono λyd ρ5 h5 H5 p5 e5 r5 f5 y ry=>⟨ρ5,γ1,h5,⟨rg.mono p5 e5,r5⟩,(Fin.bind f5).mono λd ρ6 h6 H6 p6 e6 r6 f6 v rv=>?_⟩⟩;have hq:ρ6[n0]?=some Dd:=((p0.trans p5).trans p6) _ _ hD;have f7:=Fin.bind f6;unfold z7s zn4 at f7;dsimp only at f7;cases ek:keyD yd with
 | none=>rw[ek]at f7;exact f7.elim
 | some kk =>
  rw[ek]at f7;dsimp only at f7;have hy:=zm0 ek ry;cases e7:h6[n0]? with
  | none=>rw[e7]at f7;exact f7.elim
  | some ob =>
   cases ob<;>first|(rw[e7]at f7;exact f7.elim)|skip
   rename_i kvs;rw[e7]at f7;dsimp only at f7;split at f7
   ·rename_i hl;obtain⟨a1,n1,vs,o1,d1⟩:=r6.at e7;rw[hq]at n1;cases n1;have ext2:Ext X.K H6 (upd H6 Dd (.dK (L2.putK vs kk v))):=Ext.upd (.inr (r6.tracked hq e7));have r7:RH X.K ρ6 (h6.set n0 (.dK (ptD kvs kk d))) (upd H6 Dd (.dK (L2.putK vs kk v))):=r6.setO e7 hq ⟨_,z08,(d1.put kk rv).mono (Pre.refl _) ext2⟩;have hl2:=d1.len;exact⟨kk,vs,hy,o1,by omega,hz ρ6 _ _ (p5.trans p6) ((e5.trans e6).trans ext2) r7 (f7 ρ6 _ (Pre.refl _) ext2 r7)⟩
   ·exact f7.elim
theorem zd3 (he:∀s H fp xe,SE (X.comp N' sc s H fp xe) EX elt me) (hv:∀s H fp xe,SE (X.comp N' sc s H fp xe) EX val mv):CmA X EX (.DictComp elt val [⟨tg,iter,ifs,0⟩] sc pos) sc tg iter ifs N' cap own mi g k (.dK []) (λn0 γ1 K=>do let y <- me γ1;let v <- mv γ1;let _ <- z7s n0 y v;K) (λsrc n0 γ=>z2Z src g k me mv n0 γ) :=
 ⟨⟨_,_,_,_,bPut (tE X.K EX me) (tE X.K EX mv),zo7,λρ H Dd=>⟨[],z08,.nil⟩,λD s H fp xe=>zv4 (he s H fp xe).h (hv s H fp xe).h,λ_ hD=>zy6 hD⟩,λ_ _ _=>rfl,λ_ _ _ _ _=>rfl⟩
theorem ze4 (hc:X.calm=true) (S:CS X sc N' cap) (hi:SI X EX tg iter mi) (hg:∀s H fp xe,SGk (X.comp N' sc s H fp xe) EX tg own g) (ht:∀s H fp xe,SCs (X.comp N' sc s H fp xe) EX ifs k)
 (he:∀s H fp xe,SE (X.comp N' sc s H fp xe) EX elt me) (hv:∀s H fp xe,SE (X.comp N' sc s H fp xe) EX val mv) (hown:∀j∈own,cap[j]?=some none:=by decide) (hs:∀x,K2g iter X.env x=pure x:=by intro _;rfl):SE X EX (.DictComp elt val [⟨tg,iter,ifs,0⟩] sc pos) (z6u cap mi g k me mv) :=
 zy1 (zd3 he hv) hc S hi hg ht hown hs
end
end FT
namespace L2
theorem KV.get:∀{kvs:List (Key×V)}{vs:List (Key×Value)},KV kvs vs->∀{i:Nat}{k:Key}{x:V},kvs[i]?=some (k,x)->∃u,vs[i]?=some (k,u)
 | _,_,.nil,i,k,x,e=>by simp at e
 | p::_,q::_,.cons a b,0,k,x,e=>by
  have e':p=(k,x):=by simpa using e
  subst e';obtain⟨a1,_⟩:=a;refine⟨q.2,?_⟩;show some q=_;rw[show k=q.1 from a1]
 | _::_,_::_,.cons a b,i+1,k,x,e=>KV.get b (by simpa using e)
section
variable {X:Cx}{tg:Expr}
end
end L2
namespace FT
def kD:Key->D
 | .inl i=>.int i
 | .inr x=>.str x
def zd0 (kvs:List (Key×D)):List D:=kvs.map λkv=>kD kv.1
theorem RK.get {K:K2}{ρ:List Addr}{H:Hp}:∀{kvs:List (Key×D)}{vs:List (Key×V)},RK K ρ H kvs vs->∀{i:Nat}{d:D},(zd0 kvs)[i]?=some d->∃k x,d=kD k/\vs[i]?=some (k,x)
 | _,_,.nil,i,d,e=>by simp[zd0]at e
 | p::_,q::_,.cons a b,0,d,e=>by
  have e':kD p.1=d:=by simpa [zd0] using e
  subst e';exact⟨q.1,q.2,by rw[a.1],rfl⟩
 | _::_,_::_,.cons a b,i+1,d,e=>RK.get b (by simpa [zd0] using e)
section
variable {X:Cx}{EX:XX}{a tg:Expr}{ma:G->M D}
end
end FT
namespace L2
section
variable {X:Cx}{tg:Expr}
end
end L2
namespace FT
section
variable {X:Cx}{EX:XX}{a tg:Expr}{p pos:Pos}{ma:G->M D}
end
section
variable {P:K08}{w:World}{A:Around}{E:Value->Shared->Prop}{s:Shared}
end
section
variable {X:Cx}{EX:XX}{p pos:Pos}
end
def Mut2 (st:List (List Nat)) (x y:Nat):Prop:=Rch st x y/\Rch st y x
section
variable {st:List (List Nat)}{x y z:Nat}
theorem Rch.trans (a:Rch st x y) (b:Rch st y z):Rch st x z:=by
 induction b with
 | here=>exact a
 | step _ h ih=>exact ih.step h
theorem Mut2.refl:Mut2 st x x:=⟨.here,.here⟩
theorem Mut2.symm (a:Mut2 st x y):Mut2 st y x:=⟨a.2,a.1⟩
theorem Mut2.trans (a:Mut2 st x y) (b:Mut2 st y z):Mut2 st x z:=⟨a.1.trans b.1,b.2.trans a.2⟩
theorem Rch.leaves {F:List Nat}(h:Rch st x y) (hx:x∈F) (hy:y∉F):∃a b,a∈F/\b∉F/\b∈nx st a/\Rch st x a/\Rch st b y:=by
 induction h with
 | here=>exact(hy hx).elim
 | @step a b h1 h2 ih =>
  by_cases ha:a∈F
  ·exact⟨a,b,ha,hy,h2,h1,.here⟩
  ·obtain⟨c,d,q1,q2,q3,q4,q5⟩:=ih ha;exact⟨c,d,q1,q2,q3,q4,q5.step h2⟩
end
structure KS where
 seen:List Nat
 ord:List Nat
 wt:List (Nat×Bool)
def opens (wt:List (Nat×Bool)):List Nat:=(wt.filter λp=>p.2).map (·.1)
structure KI (st:List (List Nat)) (V:List Nat) (s:KS):Prop where
 nd:s.seen.Nodup
 sub:∀x∈s.seen,x∈V
 wv:∀p∈s.wt,p.1∈V
 so:∀x,x∈s.seen↔x∈s.ord\/x∈opens s.wt
 on:(s.ord++opens s.wt).Nodup
 root:∀x∈V,x∈s.seen\/(x,false)∈s.wt
 nxo:∀l r x,s.wt=l++(x,true)::r->∀y∈nx st x,y∈s.seen\/(y,false)∈r
 nxf:∀x∈s.ord,∀y∈nx st x,y∈s.seen
 ch:∀l r x,s.wt=l++(x,true)::r->∀p∈r,Rch st x p.1
 q:∀y∈s.ord,∀v,v∉s.ord->Rch st y v->∃z,z∉s.ord/\Mut2 st z y
 k:∀l x r,s.ord=l++x::r->∀y∈l,Rch st y x->∃z,z∉l/\Mut2 st z y
section
variable {st:List (List Nat)}{V:List Nat}{s:KS}
theorem KI.out (i:KI st V s) {y v:Nat}(hy:y∈s.ord) (hv:v∉s.ord) (h:Rch st y v):∃a b,a∈s.ord/\b∈opens s.wt/\Rch st y a/\b∈nx st a:=by
 obtain⟨a,b,q1,q2,q3,q4,_⟩:=h.leaves hy hv;rcases(i.so b).mp (i.nxf a q1 b q3) with z|z
 ·exact(q2 z).elim
 ·exact⟨a,b,q1,z,q4,q3⟩
end
section
variable {st:List (List Nat)}{V:List Nat}{s:KS}
structure KEnd (st:List (List Nat)) (V O:List Nat):Prop where
 nd:O.Nodup
 mem:∀x,x∈O↔x∈V
 k:∀l x r,O=l++x::r->∀y∈l,Rch st y x->∃z,z∉l/\Mut2 st z y
end
open Classical in
noncomputable def scc (st:List (List Nat)) (V:List Nat) (x:Nat):List Nat:=V.filter λa=>decide (Mut2 st x a)
def Trn (s1 s2:List (List Nat)):Prop:=∀x y,y∈nx s2 x↔x∈nx s1 y
section
variable {s1 s2:List (List Nat)}{V:List Nat}
theorem Rch.turn (t:Trn s1 s2) {x y:Nat}(h:Rch s2 x y):Rch s1 y x:=by
 induction h with
 | here=>exact .here
 | step _ h2 ih=>exact(Rch.here.step ((t _ _).mp h2)).trans ih
theorem Rch.inV {st:List (List Nat)}(hv:∀x∈V,∀y∈nx st x,y∈V) {x y:Nat}(h:Rch st x y) (hx:x∈V):y∈V:=by
 induction h with
 | here=>exact hx
 | step _ h2 ih=>exact hv _ ih _ h2
structure MI (s1:List (List Nat)) (V done T:List Nat):Prop where
 cl:∀a∈T,∀b∈nx s1 a,b∈T
 dn:∀a∈done,a∈T
 tv:∀a∈T,a∈V
end
section
variable {st:List (List Nat)}{V:List Nat}{s:KS}
end
section
variable {cap:List (Option Nat)}{mi:G->M Src}{g:D->G->M G}{kb:G->M Bool}{me mv:G->M D}{γ:G}
end
theorem sm0 {h:AH}{o o':O}{j:AH}:(h++o::j).set h.length o'=h++o'::j:=by rw[K2h _ _ (K03 _),Z0m];rfl
section
variable {X:Cx}{EX:XX}{elt val tg iter tg1 iter1:Expr}{ifs1:List Expr}{sc:Scope}{pos:Pos}{N':List Str}{cap:List (Option Nat)}{own own1:List Nat}{mi mi1:G->M Src}{g g1:D->G->M G}{k:G->M Bool}{me mv:G->M D}
end
end FT
namespace L2
section
variable {X:Cx}
end
end L2
namespace FT
def zB6 (n:Nat):M (List (Key×D)):=λh=>match h[n]? with
 | some (.dK kvs)=>.ok kvs h
 | some (.dF kvs)=>.ok kvs h
 | _=>.bad
section
variable {X:Cx}{EX:XX}{a:Expr}{mr:G->M (List D)}{p pos:Pos}
end
section
variable {X:Cx}{EX:XX}{a o:Expr}{p pos cpos apos:Pos}{ma mo:G->M D}{mr:G->M (List D)}
end
def cp (x:Str):List Nat:=x.cps.toList
section
variable {α:Type}{us:List α}
theorem ar1 (hl:us.length=1):∃a,us=[a]:=match us,hl with|[a],_=>⟨a,rfl⟩
theorem ar2 (hl:us.length=2):∃a b,us=[a,b]:=match us,hl with|[a,b],_=>⟨a,b,rfl⟩
theorem ar3 (hl:us.length=3):∃a b c,us=[a,b,c]:=match us,hl with|[a,b,c],_=>⟨a,b,c,rfl⟩
theorem ar4 (hl:us.length=4):∃a b c d,us=[a,b,c,d]:=match us,hl with|[a,b,c,d],_=>⟨a,b,c,d,rfl⟩
theorem ar5 (hl:us.length=5):∃a b c d e,us=[a,b,c,d,e]:=match us,hl with|[a,b,c,d,e],_=>⟨a,b,c,d,e,rfl⟩
end
section
variable {X:Cx}{EX:XX}{k v:Expr}{pos:Pos}{mk mv:G->M D}
end
abbrev Grw (h h':Heap):Prop:=∀(b:Addr) (o:Obj),h.get? b=some o->h'.get? b=some o
structure RC (prog:K08) (w:World) (h₀:Heap) (u:Value) (p:PyData):Prop where
 rd:∃as,Reads h₀ u p as
 rk:p.showable=true->p.shown.length<=sizeLine->∃bs,K8q h₀ p.depth bs/\ReprK prog w bs h₀ p.depth u p.shown
 tp:p.showable=true->p.shown.length<=sizeLine->∀(A:Around) (E:Value->Shared->Prop) (s:Shared) (Q:Value->Shared->Prop),A.guards=some []->A.units+p.depth+1<cLine->Grw h₀ s.heap ->
  (∀h' u tk,Grw s.heap h'->Q (.str p.shown u) { s with heap:=h',toks:=tk })->wpAny (model prog w) A (call (.builtin "repr") [u]) Q E s
structure RCs (prog:K08) (w:World) (h₀:Heap) (us:List Value) (ps:List PyData):Prop where
 rd:∃as,ReadsAll h₀ us ps as
 rk:K7b ps=true->(∀t∈K1t ps,t.length<=sizeLine)->∃bs,K8q h₀ (K4l ps) bs/\ReprAllK prog w bs h₀ (K4l ps) us (K1t ps)
section
variable {prog:K08}{w:World}{h₀:Heap}
theorem RCs.nil:RCs prog w h₀ [] []:=⟨⟨[],.nil⟩,λ_ _=>⟨[],(λ_ h=>nomatch h),by simp only[K1t];exact .nil⟩⟩
theorem RCs.cons {u:Value}{us:List Value}{p:PyData}{ps:List PyData}(a:RC prog w h₀ u p) (b:RCs prog w h₀ us ps):RCs prog w h₀ (u::us) (p::ps):=by
 obtain⟨a1,ra⟩:=a.rd;obtain⟨a2,rb⟩:=b.rd;refine⟨⟨_,.cons ra rb⟩,λhs hz=>?_⟩;have hs':p.showable=true/\K7b ps=true:=by simpa [K7b] using hs
 obtain⟨b1,hb1,k1⟩:=a.rk hs'.1 (hz _ (by simp only[K1t];exact K0t ..));obtain⟨b2,hb2,k2⟩:=b.rk hs'.2 (λt ht=>hz t (by simp only[K1t];exact K0j _ ht));refine⟨b1++b2,?_,?_⟩
 ·simp only[K4l];exact(hb1.mono (Z1o _ _)).append (hb2.mono (Z19 _ _))
 ·simp only[K4l,K1t];exact .cons ((k1.more λb hb=>K2q _ hb).level_le (Z1o _ _)) (k2.more_le (λb hb=>K10 _ hb) (Z19 _ _))
theorem RC.none:RC prog w h₀ .none .none :=
 ⟨⟨_,.none⟩,λ_ _=>⟨[],(λ_ h=>nomatch h),by simp only[K1c];exact .of_is ReprIs.none _ _ _⟩,λ_ _ A E s Q _ _ _ hQ=>P.repr_of_none (by simp only[K1c]at hQ;exact hQ s.heap _ _ λ_ _ e=>e)⟩
theorem RC.bool (b:Bool):RC prog w h₀ (.bool b) (.bool b) :=
 ⟨⟨_,.bool b⟩,λ_ _=>⟨[],(λ_ h=>nomatch h),by simp only[K1c];exact .of_is (ReprIs.bool b) _ _ _⟩,λ_ _ A E s Q _ _ _ hQ=>P.repr_of_bool (by simp only[K1c]at hQ;exact hQ s.heap _ _ λ_ _ e=>e)⟩
theorem RC.int (i:Int) (t:Tok):RC prog w h₀ (.int i t) (.int i) :=
 ⟨⟨_,.int i t⟩,λhs _=>⟨[],(λ_ h=>nomatch h),by simp only[K1c];exact .of_is (ReprIs.int t (by simpa [K4k] using hs)) _ _ _⟩,
  λhs _ A E s Q _ _ _ hQ=>P.repr_of_int (by simpa [K4k] using hs) (by simp only[K1c]at hQ;exact hQ s.heap _ _ λ_ _ e=>e)⟩
theorem RC.str (x:Str) (t:Tok):RC prog w h₀ (.str x t) (.str x) :=
 ⟨⟨_,.str x t⟩,λ_ hz=>⟨[],(λ_ h=>nomatch h),by simp only[K1c];exact .of_is (ReprIs.str x t (by simpa only[K1c] using hz)) _ _ _⟩,
  λ_ hz A E s Q _ _ _ hQ=>P.repr_of_str (by simp only[K1c]at hQ;exact hQ s.heap _ _ λ_ _ e=>e) (by simpa only[K1c] using hz)⟩
theorem RC.list {a:Addr}{o:Obj}{its:List Value}{n:Nat}{ps:List PyData}(h1:h₀.get? a=some o) (h2:o.cls=.type "list") (h3:o.data=.seq its.toArray n) (b:RCs prog w h₀ its ps):RC prog w h₀ (.ref a) (.list ps):=by
 obtain⟨as,ra⟩:=b.rd;have r:Reads h₀ (.ref a) (.list ps) _:=.list h1 h2 h3 ra;refine⟨⟨_,r⟩,λhs hz=>?_,λhs hz A E s Q hg hu hk0 hQ=>?_⟩
 ·have hz':(listText (K1t ps)).length<=sizeLine:=by simpa only[K1c] using hz
  obtain⟨bs,hb,hk⟩:=b.rk (by simpa [K4k] using hs) λt ht=>K0l (listText_mem_le ht) hz';have hna:a∉bs:=K69 r (by simp only[K2m];omega) hb;refine⟨a::bs,K91 r (by simp only[K2m];omega) hb,?_⟩;simp only[K2m,K1c];cases its with
  | nil =>
   cases ra;simp only[K1t,listText_nil];exact ReprK.listEmpty h1 h2 h3
  | cons x l=>exact ReprK.list h1 h2 h3 hna (by simpa using hk.length_eq) (λi y e=>hk.item i y (by simpa using e))
 ·have hz':(listText (K1t ps)).length<=sizeLine:=by simpa only[K1c] using hz
  obtain⟨bs,hb,hk⟩:=b.rk (by simpa [K4k] using hs) λt ht=>K0l (listText_mem_le ht) hz';have hna:a∉bs:=K69 r (by simp only[K2m];omega) hb;simp only[K2m]at hu;simp only[K1c]at hQ;refine K9h (by omega) ⟨_,hk0 _ _ h1,h2⟩ F.slot_list_repr.toG ?_;cases its with
  | nil =>
   cases ra;simp only[K1t,listText_nil]at hQ;exact call_list_repr_empty ⟨_,hk0 _ _ h1,h2⟩ (hk0 _ _ h1) h3 ⟨_,_,rfl,hQ s.heap _ _ λ_ _ e=>e⟩
  | cons x l =>
   exact call_list_reprK h1 h2 h3 hna (by simpa using hk.length_eq) (λi y e=>hk.item i y (by simpa using e)) (g:=[]) hg (λb _=>Z1x b) (by show A.units+1+_<_;omega) hk0 (λh' u tk hk'=>⟨_,_,rfl,hQ h' u tk hk'⟩) hz'
theorem RC.tuple {a:Addr}{o:Obj}{its:List Value}{n:Nat}{ps:List PyData}(h1:h₀.get? a=some o) (h2:o.cls=.type "tuple") (h3:o.data=.seq its.toArray n) (b:RCs prog w h₀ its ps):RC prog w h₀ (.ref a) (.tuple ps):=by
 obtain⟨as,ra⟩:=b.rd;have r:Reads h₀ (.ref a) (.tuple ps) _:=.tuple h1 h2 h3 ra;have key:(Z20 ps).showable=true->(Z20 ps).shown.length<=sizeLine->(tupleText (K1t ps)).length<=sizeLine/\∃bs,K8q h₀ (K4l ps) bs/\ReprAllK prog w bs h₀ (K4l ps) its (K1t ps)/\a∉bs:=λhs hz=>by
  have hz':(tupleText (K1t ps)).length<=sizeLine:=by simpa only[K1c] using hz
  obtain⟨bs,hb,hk⟩:=b.rk (by simpa [K4k] using hs) λt ht=>K0l (tupleText_mem_le ht) hz';exact⟨hz',bs,hb,hk,K69 r (by simp only[K2m];omega) hb⟩
 refine⟨⟨_,r⟩,λhs hz=>?_,λhs hz A E s Q hg hu hk0 hQ=>?_⟩
 ·obtain⟨hz',bs,hb,hk,hna⟩:=key hs hz;refine⟨a::bs,K91 r (by simp only[K2m];omega) hb,?_⟩;simp only[K2m,K1c];exact ReprK.tuple h1 h2 h3 hna hk
 ·obtain⟨hz',bs,hb,hk,hna⟩:=key hs hz;simp only[K2m]at hu;simp only[K1c]at hQ;refine K9h (by omega) ⟨_,hk0 _ _ h1,h2⟩ F.slot_tuple_repr ?_;exact call_tuple_reprK h1 h2 h3 hna hk (g:=[]) hg (λb _=>Z1x b) (by show A.units+1+_<_;omega) hk0 (λh' u tk hk'=>⟨_,_,rfl,hQ h' u tk hk'⟩) hz'
theorem RC.dict {a:Addr}{o:Obj}{es:Array DictEntry}{n:Nat}{ps:List (PyData×PyData)}(h1:h₀.get? a=some o) (h2:o.cls=.type "dict") (h3:o.data=.dict es n) (hsys:(a==K48)=false)
 (b:RCs prog w h₀ (es.toList.map (·.key)) (ps.map (·.1))) (c:RCs prog w h₀ (es.toList.map (·.val)) (ps.map (·.2))):RC prog w h₀ (.ref a) (.dict ps):=by
 obtain⟨as,ra⟩:=b.rd;obtain⟨cs,rc⟩:=c.rd;have r:Reads h₀ (.ref a) (.dict ps) _:=.dict h1 h2 h3 ra rc;have key:(PyData.dict ps).showable=true->(PyData.dict ps).shown.length<=sizeLine->(dictText (K9a ps)).length<=sizeLine/\∃bs,K8q h₀ (K9b ps) bs/\a∉bs/\ReprEntriesK prog w bs h₀ (K9b ps) es.toList (K9a ps):=λhs hz=>by
  have hz':(dictText (K9a ps)).length<=sizeLine:=by simpa only[K1c] using hz
  obtain⟨hs1,hs2⟩:=PyData.showableKv_split ps (by simpa [K4k] using hs);obtain⟨b1,hb1,k1⟩:=b.rk hs1 (λt ht=>let ⟨p,hp,hl⟩:=PyData.shownKv_key_le ps t ht;K0l hl (K0l (dictText_mem_le hp) hz'));obtain⟨b2,hb2,k2⟩:=c.rk hs2 (λt ht=>let ⟨p,hp,hl⟩:=PyData.shownKv_val_le ps t ht;K0l hl (K0l (dictText_mem_le hp) hz'));have hb:K8q h₀ (K9b ps) (b1++b2):=(hb1.mono (K8d ps)).append (hb2.mono (K8c ps));refine⟨hz',b1++b2,hb,K69 r (by simp only[K2m];omega) hb,?_⟩;rw[PyData.shownKv_eq];exact ReprEntriesK.of_two es.toList _ _ (k1.more_le (λb hb=>K2q _ hb) (K8d ps)) (k2.more_le (λb hb=>K10 _ hb) (K8c ps))
 refine⟨⟨_,r⟩,λhs hz=>?_,λhs hz A E s Q hg hu hk0 hQ=>?_⟩
 ·obtain⟨hz',bs,hb,hna,hk⟩:=key hs hz;refine⟨a::bs,K91 r (by simp only[K2m];omega) hb,?_⟩;simp only[K2m,K1c];exact ReprK.dict h1 h2 h3 hsys hna hk
 ·obtain⟨hz',bs,hb,hna,hk⟩:=key hs hz;simp only[K2m]at hu;simp only[K1c]at hQ;refine K9h (by omega) ⟨_,hk0 _ _ h1,h2⟩ F.slot_dict_repr ?_;exact call_dict_reprK h1 h2 h3 hsys hna hk (g:=[]) hg (λb _=>Z1x b) (by show A.units+1+_<_;omega) hk0 (λh' u tk hk'=>⟨_,_,rfl,hQ h' u tk hk'⟩) hz'
end
section
variable {X:Cx}{pins:List (Addr×Obj)}{σ:L2.St}{H:Hp}{s:Shared}{ρ:List Addr}{h:AH}
end
section
variable {X:Cx}{EX:XX}{a:Expr}{p pos:Pos}{mr:G->M (List D)}
end
def Ths (P:Nat->D->Prop):Nat->List D->Prop
 | _,[]=>True
 | n,x::xs=>∃a b,P a x/\Ths P b xs/\a+b+2<=n
def Th (r:AH) (B:Nat):Nat->Nat->D->Prop
 | 0,_,_=>False
 | _+1,n,.non=>4<=n
 | _+1,n,.bl _=>5<=n
 | _+1,n,.int i=>i.natAbs<=B/\40<=n
 | _+1,n,.str x=>(reprText x).length<=n/\x.length<=1000
 | m+1,n,.tup xs=>∃a,Ths (Th r B m) a xs/\a+4<=n
 | _+1,_,.fl _=>False
 | m+1,n,.ref i=>∃j,i=j+3/\((∃xs a,r[j]?=.(l xs)/\Ths (Th r B m) a xs/\a+4<=n)\/(r[j]?=some (.dK [])\/r[j]?=some (.dK [(.inr "a",.int 1)])/\1<=m)/\40<=n)
section
variable {P P':Nat->D->Prop}{n m:Nat}{xs ys:List D}{d:D}
theorem Ths.imp (f:∀a d,P a d->P' a d):∀{n:Nat}{xs:List D},Ths P n xs->Ths P' n xs
 | _,[],_=>trivial
 | _,x::xs,⟨a,b,h1,h2,h3⟩=>⟨a,b,f a x h1,Ths.imp f h2,h3⟩
theorem Ths.up (h:n<=m) (t:Ths P n xs):Ths P m xs:=by
 cases xs with
 | nil=>trivial
 | cons x xs=>obtain⟨a,b,h1,h2,h3⟩:=t;exact⟨a,b,h1,h2,by omega⟩
theorem Ths.app:∀{n m:Nat}{xs ys:List D},Ths P n xs->Ths P m ys->Ths P (n+m) (xs++ys)
 | n,m,[],ys,_,t=>t.up (by omega)
 | n,m,x::xs,ys,⟨a,b,h1,h2,h3⟩,t=>⟨a,b+m,h1,Ths.app h2 t,by omega⟩
theorem Ths.one (h:P n d):Ths P (n+2) [d]:=⟨n,0,h,trivial,by omega⟩
theorem Ths.sub {xs ys:List D}(s:xs.Sublist ys):∀{n:Nat},Ths P n ys->Ths P n xs:=by
 induction s with
 | slnil=>exact λt=>t
 | cons a s ih=>intro n ⟨a,b,h1,h2,h3⟩;exact(ih h2).up (by omega)
 | cons_cons a s ih=>intro n ⟨a,b,h1,h2,h3⟩;exact⟨a,b,h1,ih h2,h3⟩
theorem Ths.mem:∀{n:Nat}{xs:List D},Ths P n xs->d∈xs->∃a,a+2<=n/\P a d
 | n,[],_,h=>nomatch h
 | n,x::xs,⟨a,b,h1,h2,h3⟩,h=>by
  rcases K0a.mp h with rfl|h
  ·exact⟨a,by omega,h1⟩
  ·obtain⟨c,hc,p⟩:=Ths.mem h2 h;exact⟨c,by omega,p⟩
theorem Ths.len:∀{n:Nat}{xs:List D},Ths P n xs->2 * xs.length<=n
 | n,[],_=>by simp
 | n,x::xs,⟨a,b,h1,h2,h3⟩=>by have:=Ths.len h2;rw[K07];omega
theorem Ths.of {c:Nat}:∀{xs:List D},(∀d∈xs,P c d)->Ths P (xs.length * (c+2)) xs
 | [],_=>trivial
 | x::xs,h=>⟨c,xs.length * (c+2),h x (K0t ..),Ths.of λd hd=>h d (K0j _ hd),by rw[K07,Nat.add_mul];omega⟩
end
theorem Th.mono {r r':AH}{B B':Nat}(k:Kp r r') (hB:B<=B'):∀{m m' n n':Nat}{d:D},m<=m'->n<=n'->Th r B m n d->Th r' B' m' n' d
 | 0,_,_,_,_,_,_,h=>by simp only[Th]at h
 | m+1,0,_,_,_,hm,_,_=>by omega
 | m+1,m'+1,n,n',d,hm,hn,h=>by
  have ih:∀a d,Th r B m a d->Th r' B' m' a d:=λa d=>Th.mono k hB (by omega) (K03 a);cases d with
  | non=>simp only[Th]at h ⊢;omega
  | bl b=>simp only[Th]at h ⊢;omega
  | int i=>simp only[Th]at h ⊢;omega
  | str x=>simp only[Th]at h ⊢;omega
  | fl xs=>simp only[Th]at h
  | tup xs=>simp only[Th]at h ⊢;obtain⟨a,h1,h2⟩:=h;exact⟨a,h1.imp ih,by omega⟩
  | ref i =>
   simp only[Th]at h ⊢;obtain⟨j,e,h⟩:=h;refine⟨j,e,?_⟩;rcases h with ⟨xs,a,h1,h2,h3⟩|⟨h1|⟨h1,h4⟩,h2⟩
   ·exact .inl ⟨xs,a,k _ _ h1,h2.imp ih,by omega⟩
   ·exact .inr ⟨.inl (k _ _ h1),by omega⟩
   ·exact .inr ⟨.inr ⟨k _ _ h1,by omega⟩,by omega⟩
section
variable {X:Cx}{EX:XX}{mr:G->M (List D)}
end
section
variable {n i:Nat}{mf:List D->M D}{mr:G->M (List D)}{okf:Str->Bool}{ms mt:G->M Out}{γ:G}{h h1 h2:AH}{xs:List D}{Q:Out->AH->Prop}
end
section
variable {prog:K08}{w:World}{A:Around}{E:Value->Shared->Prop}{s:Shared}
open PySem.W in
theorem zM4 {T:String}{r d:Addr}{n:Nat}{P:Nat->Value->Prop}{OK:Heap->Prop}{R:List Value->Shared->Prop}(K:KdlSrc prog w T r d n P OK) (hh:A.handled=none) (ok:OK s.heap) (hn:n<=sizeLine)
 (z:∀(g:Heap) (tk:Nat) (acc:Array Value),(∀b o,s.heap.get? b=some o->g.get? b=some o)->s.heap.objs.size<=g.objs.size->ItemsOf P acc n->R acc.toList { s with heap:=g,toks:=tk }) :
 wpAny (model prog w) A (collect (.ref r)) R E s:=by
 obtain⟨t1,t2⟩:=K.there _ ok;obtain⟨S,hS⟩:∃S,S=s.heap.objs.size:=⟨_,rfl⟩;unfold collect;refine K0 (K7f (K2o entry_proto_collect' ?_));rw[K1y PySem.F.plain_proto_collect _];show wpAny _ A.in1 (newList [] >>= λl=>again (.builtin "list.__iadd__" ⟨[l,.ref r],[]⟩)) _ _ s;refine K0 (K16 (K5 ⟨K4s K51 _,K2o entry_list_iadd' ?_⟩));rw[K1y K51 _];obtain⟨o0,h0⟩:∃o0:Obj,o0={ cls:=.type "list",data:=.seq ([]:List Value).toArray }:=⟨_,rfl⟩;rw[<- h0];have at0:(s.heap.push o0).get? S=some { cls:=.type "list",data:=.seq #[] }:=by rw[hS,h0];exact K04 _ rfl
 rw[<- hS];show wpAny _ A.in1 (K4w (.ref S) (.ref r) (.ref S)) _ _ _;have old:∀{b:Addr} {o:Obj},s.heap.get? b=some o->b≠S:=λe=>by rw[hS];exact K0e (K02 e)
 have key:=kdl_extend (A:=A) (s:={ s with heap:=s.heap.push o0 })
  (R:=λ(q:Result) (s':Shared)=>∃(g:Heap) (tk:Nat) (acc:Array Value) (c:Nat),q=.ok (.ret (.ref S))/\s'={ s with heap:=g,toks:=tk }/\(∀b o,s.heap.get? b=some o->g.get? b=some o)/\g.get? S=some { cls:=.type "list",dict:=none,data:=.seq acc c,slots:=#[] }/\ItemsOf P acc n)
  K hh (K.keep _ _ ok λb _ o e=>K4 _ e) S (by rw[hS];exact K26 t1) (by rw[hS];exact K26 t2) (.ref S) 0 at0
  (λg tk acc c kp at1 it=>⟨g,tk,acc,c,rfl,rfl,λb o e=>kp b o (old e) (K4 _ e),at1,it⟩) hn
 have fin:∀(q:Result) (s2:Shared) (h:∃(g:Heap) (tk:Nat) (acc:Array Value) (c:Nat),q=.ok (.ret (.ref S))/\s2={ s with heap:=g,toks:=tk }/\(∀b o,s.heap.get? b=some o->g.get? b=some o)/\g.get? S=some { cls:=.type "list",dict:=none,data:=.seq acc c,slots:=#[] }/\ItemsOf P acc n),q=.ok (.ret (.ref S)):=λq s2 ⟨_,_,_,_,e,_⟩=>e;refine K37 key (λf s2 x=>?_) λe s2 x=>?_
 ·cases f with
  | done f =>
   obtain⟨g,tk,acc,c,e,rfl,kp,at1,it⟩:=x;cases e;show wpAny _ A (load S >>= _) _ _ _;refine K0 (Z06 at1 (K5 (z g tk acc kp ?_ it)));rw[<- hS];exact K4f (K02 at1)
  | again c₁ =>
   refine⟨x.1,K54 x.2 λq s3 y=>?_⟩;obtain⟨g,tk,acc,c,rfl,rfl,kp,at1,it⟩:=y;show wpAny _ A (load S >>= _) _ _ _;refine K0 (Z06 at1 (K5 (z g tk acc kp ?_ it)));rw[<- hS];exact K4f (K02 at1)
 ·obtain⟨_,_,_,_,e',_⟩:=x;cases e'
end
section
variable {X:Cx}{EX:XX}{mr:G->M (List D)}
end
section
variable {X:Cx}{EX:XX}{a:Expr}{elts:List Expr}{kk:Nat}{p pos pt:Pos}{ma:G->M D}
end
mutual
def z16:D->Bool
 | .int _=>true
 | .str _=>true
 | .bl _=>true
 | .non=>true
 | .tup xs=>z00 xs
 | _=>false
def z00:List D->Bool
 | []=>true
 | d::r=>z16 d&&z00 r
end
theorem z3I {d:D}:∀{ds:List D},z00 ds=true->d∈ds->z16 d=true
 | [],_,h=>by cases h
 | x::r,p,h=>by
  simp only[z00,K0h]at p;rcases K0a.mp h with rfl|h
  ·exact p.1
  ·exact z3I p.2 h
section
variable {X:Cx}{pins:List (Addr×Obj)}{σ:L2.St}{H:Hp}{s:Shared}{ρ:List Addr}
mutual
theorem RD.one (I:Inv X pins σ H s):∀{z z':D}{v:V},z16 z=true->z16 z'=true->RD X.K ρ H z v->RD X.K ρ H z' v->z=z'
 | .non,z',v,_,p,h,h'=>by
  simp only[RD]at h;subst h;cases z'<;>simp_all [RD,z16]
 | .bl b,z',v,_,p,h,h'=>by
  simp only[RD]at h;subst h;cases z'<;>simp_all [RD,z16]
 | .int i,z',v,_,p,h,h'=>by
  simp only[RD]at h;subst h;cases z'<;>simp_all [RD,z16]
 | .str x,z',v,_,p,h,h'=>by
  simp only[RD]at h;subst h;cases z'<;>simp_all [RD,z16]
 | .tup ds,z',v,q,p,h,h'=>by
  simp only[RD]at h;obtain⟨a,xs,rfl,h2,h3⟩:=h;cases z' with
  | tup ds' =>
   simp only[RD]at h';obtain⟨a',xs',e,h5,h6⟩:=h';cases e;have e2:=I.tuple_inj h5 h2;subst e2;simp only[z16]at q p;rw[RDs.one I q p h3 h6]
  | non=>simp[RD]at h'
  | bl b=>simp[RD]at h'
  | int b=>simp[RD]at h'
  | str b=>simp[RD]at h'
  | fl b=>simp[z16]at p
  | ref b=>simp[z16]at p
 | .fl ds,z',v,q,p,h,h'=>by simp[z16]at q
 | .ref ds,z',v,q,p,h,h'=>by simp[z16]at q
theorem RDs.one (I:Inv X pins σ H s):∀{ds ds':List D}{xs:List V},z00 ds=true->z00 ds'=true->RDs X.K ρ H ds xs->RDs X.K ρ H ds' xs->ds=ds'
 | [],ds',xs,_,_,h,h'=>by
  simp only[RDs]at h;subst h;cases ds' with
  | nil=>rfl
  | cons d r=>simp[RDs]at h'
 | d::r,ds',xs,q,p,h,h'=>by
  simp only[RDs]at h;obtain⟨x,xr,rfl,h2,h3⟩:=h;cases ds' with
  | nil=>simp[RDs]at h'
  | cons d' r' =>
   simp only[RDs]at h';obtain⟨x',xr',e,h5,h6⟩:=h';cases e;simp only[z00,K0h]at q p;rw[RD.one I q.1 p.1 h2 h5,RDs.one I q.2 p.2 h3 h6]
end
theorem z9H {w w':V}{y:Value}(h:L2.RelV w y) (h':L2.RelV w' y):w=w':=by
 cases w<;>cases w'<;>simp only[L2.RelV]at h h'<;>first
  | (subst h;cases h';rfl)
  | (obtain⟨t,rfl⟩:=h;obtain⟨t',e⟩:=h';cases e;rfl)
  | (obtain⟨t,rfl⟩:=h;obtain⟨t',e⟩:=h';cases e;done)
  | (obtain⟨t,rfl⟩:=h;cases h';done)
  | (subst h;obtain⟨t',e⟩:=h';cases e;done)
  | (subst h;cases h';done)
open Classical in
theorem z6V {h:AH}{d:D}{ds:List D}{x:V}{v:Value}{xs:List V}{its:List Value}{b:Bool}(hu:X.A.units+30<cLine) (I:Inv X pins σ H s) (rh:RH X.K ρ h H) (pd:z00 ds=true) (rx:RD X.K ρ H d x) (wx:RelV x v) (rs:RDs X.K ρ H ds xs) (ws:Vals xs its) (e:inZ h d ds=some b) :
 ∃f:Value->Bool,(∀y∈its,K6g X.A.in1 s y v (f y))/\∀(i:Nat) (y:Value) (z:D),its[i]?=some y->ds[i]?=some z->(f y=true↔eqN 24 h z d=some true):=by
 obtain⟨q1,q2⟩:=z2x e;have ex:∀y∈its,∃a z w,z∈ds/\RD X.K ρ H z w/\RelV w y/\eqN 24 h z d=some a:=λy hy=>by
  obtain⟨j,hj⟩:=K2r hy;have lj:=(K8.mp hj).1;have a1:xs[j]?=some (xs[j]'(by rw[ws.length];exact lj)):=K7 _;obtain⟨y',c1,a2⟩:=ws.get a1;rw[hj]at c1;cases c1;obtain⟨z,b1,b2⟩:=rs.getV a1;have zm:=K0d b1;obtain⟨a,c⟩:=q1 z zm;exact⟨a,z,_,zm,b2,a2,c⟩
 have key:∀y∈its,∀a,(∃z w,z∈ds/\RD X.K ρ H z w/\RelV w y/\eqN 24 h z d=some a)->K6g X.A.in1 s y v a:=λy hy a ⟨z,w,zm,r1,r2,c⟩ =>
  (deq I rh 24 (A:=X.A.in1) (show X.A.units+1+24<cLine by omega) r1 rx r2 wx c).1
 refine⟨λy=>decide (∃z w,z∈ds/\RD X.K ρ H z w/\RelV w y/\eqN 24 h z d=some true),λy hy=>?_,λi y z hy hz=>?_⟩
 ·by_cases c:∃z w,z∈ds/\RD X.K ρ H z w/\RelV w y/\eqN 24 h z d=some true
  ·dsimp only;rw[decide_eq_true c];exact key y hy true c
  ·dsimp only;rw[decide_eq_false c];obtain⟨a,z,w,g⟩:=ex y hy;cases a with
   | false=>exact key y hy false ⟨z,w,g⟩
   | true=>exact absurd ⟨z,w,g⟩ c
 ·obtain⟨w,a1,a2⟩:=rs.get hz;obtain⟨y',b1,b2⟩:=ws.get a1;rw[hy]at b1;cases b1;have zm:=K0d hz;rw[decide_eq_true_eq];constructor
  ·rintro⟨z',w',zm',r1,r2,c⟩;rw[z9H r2 b2]at r1;rw[RD.one I (z3I pd zm) (z3I pd zm') a2 r1];exact c
  ·exact λc=>⟨z,w,zm,a2,b2,c⟩
end
section
variable {X:Cx}{EX:XX}{o a:Expr}{apos cpos:Pos}{mo ma:G->M D}
def z2l (h:AH) (y:D) (xs:List D):Nat:=xs.findIdx λz=>decide (eqN 24 h z y=some true)
def zk7 (K:K2):V->List V->Hp->VK->Prop:=λx vs H Q=>∃ρ h l d ds u xs,x=.ref l/\vs=[u]/\RH K ρ h H/\RD K ρ H d u/\SqL K H l xs/\RDs K ρ H ds xs/\z00 ds=true/\ds.length<=100000/\inZ h d ds=some true/\Q (.int (z2l h d ds:Nat)) H
theorem z8Q (hu:X.A.units+40<cLine):MtR X "list.index" (zk7 X.K):=by
 intro pins s σ H x vs v us Q I rx rv h;obtain⟨ρ,h,l,d,ds,u,xs,rfl,rfl,rh,rd,hq,rs,pd,hl,e,q⟩:=h;cases rx;obtain⟨w,rfl,rw'⟩:=rv.one;obtain⟨its,ws,pl,hz⟩:=I.list hq;obtain⟨f,f1,f2⟩:=z6V (by omega) I rh pd rd rw' rs ws e;obtain⟨⟨cls,dd,data,sl⟩,ho,hc,n,hd⟩:=id pl.isList;simp only at hc hd;subst hc hd;have l1:ds.length=its.length:=by rw[rs.length,ws.length]
 have hj:z2l h d ds<ds.length:=by
  obtain⟨_,q2⟩:=z2x e;obtain⟨z,zm,c⟩:=q2.mp rfl;exact K6c ⟨z,zm,decide_eq_true c⟩
 have at_:∀{m:Nat} (hm:m<its.length) ,f its[m]=decide (eqN 24 h (ds[m]'(by omega)) d=some true):=λ{m} hm=>by
  have:=f2 m its[m] (ds[m]'(by omega)) (K7 hm) (K7 (by omega));rw[K17,this,decide_eq_true_eq]
 refine K4g K8a ⟨_,ho,rfl⟩ PySem.F.entry_list_index (PySem.F.args_list_index_2 _ _)
  (PySem.SeqAt.list_indexAt l its.toArray n dd sl w f (z2l h d ds) (by simpa [<- l1] using hj) (by omega) ?_ ?_) ⟨ho,λy hy=>?_,⟨.int _,H,I.tok _,⟨_,rfl⟩,q⟩⟩
 ·show f its[z2l h d ds]=true;rw[at_ (by omega)];exact K9j (p:=λz=>decide (eqN 24 h z d=some true)) (w:=hj)
 ·intro m hm hlt;show f its[m]=false;rw[at_ (by simpa using hm)];have:=K8w (p:=λz=>decide (eqN 24 h z d=some true)) (xs:=ds) (i:=m) hlt;simpa using this
 ·exact f1 y (by simpa using hy)
def ixX (xs:List D) (y:D):M D:=λh=>if z00 xs=true/\xs.length<=100000/\inZ h y xs=some true then .ok (.int (z2l h y xs:Nat)) h else .bad
def z01 (n:Nat) (y:D):M D:=do
 let xs <- getL n
 ixX xs y
theorem z0Z (hu:X.A.units+40<cLine) (ho:SE X EX o mo) (ha:SE X EX a ma)
 (hbase:K49 o "index" X.env (eval o X.env)=eval o X.env:=by rfl)
 (hfew:((backTo cpos (K05 [a] X.env)).all (λx=>!x.1)&&(K3r cpos (K2b [] X.env)).all (λx=>x.1.isSome)
 &&decide (([a]:List Expr).length+([]:List K3d).length+(if ([]:List K3d).isEmpty then 0 else 1)<30))=true:=by rfl)
 (hline:(apos.endLine==cpos.line)=true:=by rfl) (hs:K05 [a] X.env=[(false,eval a X.env)]:=by rfl) :
 SE X EX (.Call (.Attribute o "index" apos) [a] [] cpos) (eM1 z01 mo ma) :=
 ⟨PE.imp (zu8 K5n K8a PySem.F.type_list_index (z8Q hu) ho.h (z1S ha.h z3u hs) hbase hfew hline hs rfl) (zl3 λρ h H n q y u Q r hq ru fin=>by
  have f2:Fin X.K EX ρ H _ _:=Fin.bind (show Fin X.K EX ρ H (λd ρ' _ H'=>∀v,RD X.K ρ' H' d v->Q v H') ((getL n >>= λxs=>ixX xs y) h) from fin);cases e3:getL n h with
  | bad=>rw[e3]at f2;exact f2.elim
  | err z hz=>exact(z0M e3).elim
  | ok xs h3 =>
   obtain⟨rfl,q1⟩:=z0N e3;rw[e3]at f2;obtain⟨a1,n1,vs,o1,d1⟩:=r.at q1;rw[hq]at n1;cases n1;have f3:FE X.K EX ρ H Q (ixX xs y _):=f2 ρ H (Pre.refl _) (Ext.refl _ _) r;unfold ixX at f3;split at f3
   ·rename_i c;exact⟨ρ,_,_,y,xs,u,vs,rfl,rfl,r,ru,SqL.of o1,d1,c.1,c.2.1,c.2.2,FE.here f3 r (by simp[RD])⟩
   ·exact f3.elim)⟩
theorem hu40 {A:Around}{k:Nat}(hr:Room k A):A.units+40<cLine:=K7e (K70 (by decide:40<=64) _) hr.units
end
abbrev Bl:=List (Nat×List Nat)
def blk (bl:Bl) (k:Nat):List Nat:=((bl.find? λp=>decide (p.1=k)).map (·.2)).getD []
def keyOf (bl:Bl) (x:Nat):Nat:=((bl.find? λp=>decide (x∈p.2)).map (·.1)).getD 0
structure PB (n:Nat) (bl:Bl):Prop where
 hd:∀p∈bl,p.2.head?=some p.1
 rise:∀p∈bl,p.2.Pairwise (·<·)
 cov:∀x,x<n↔∃p∈bl,x∈p.2
 dis:∀p∈bl,∀q∈bl,∀x,x∈p.2->x∈q.2->p=q
 nd:(bl.map (·.1)).Nodup
theorem zu2 {l:List Nat}{k:Nat}(h:l.head?=some k):k∈l:=by
 cases l with
 | nil=>cases h
 | cons a l=>simp at h;simp[h]
section
variable {n:Nat}{bl:Bl}
theorem PB.bmem (b:PB n bl) {p:Nat×List Nat}(h:p∈bl):p.1∈p.2:=zu2 (b.hd p h)
theorem PB.uniq (b:PB n bl) {p q:Nat×List Nat}(hp:p∈bl) (hq:q∈bl) (e:p.1=q.1):p=q:=b.dis p hp q hq p.1 (b.bmem hp) (by rw[e];exact b.bmem hq)
theorem PB.blk (b:PB n bl) {p:Nat×List Nat}(h:p∈bl):FT.blk bl p.1=p.2:=by
 unfold FT.blk;cases e:bl.find? λq=>decide (q.1=p.1) with
 | none =>
  rw[K7d]at e;exact absurd (by simp) (e p h)
 | some q =>
  have m:=K7m e;have q1:=Z1l e;rw[b.uniq m h (by simpa using q1)];rfl
theorem PB.key (b:PB n bl) {p:Nat×List Nat}(h:p∈bl) {x:Nat}(hx:x∈p.2):keyOf bl x=p.1:=by
 unfold keyOf;cases e:bl.find? λq=>decide (x∈q.2) with
 | none =>
  rw[K7d]at e;exact absurd (by simpa using hx) (e p h)
 | some q =>
  have m:=K7m e;have q1:=Z1l e;rw[b.dis q m p h x (by simpa using q1) hx];rfl
theorem PB.at_ (b:PB n bl) {x:Nat}(hx:x<n):(keyOf bl x,FT.blk bl (keyOf bl x))∈bl/\x∈FT.blk bl (keyOf bl x):=by
 obtain⟨p,hp,hx⟩:=(b.cov x).mp hx;rw[b.key hp hx,b.blk hp];exact⟨hp,hx⟩
theorem PB.lt (b:PB n bl) {p:Nat×List Nat}(h:p∈bl) {x:Nat}(hx:x∈p.2):x<n:=(b.cov x).mpr ⟨p,h,hx⟩
theorem PB.klt (b:PB n bl) {k:Nat}(h:k∈bl.map (·.1)):k<n:=by
 obtain⟨p,hp,rfl⟩:=K0v.mp h;exact b.lt hp (b.bmem hp)
theorem PB.len (b:PB n bl):bl.length<=n:=by
 have:=b.nd.length_le_of_subset (l₂:=K0o n) λk hk=>K20.mpr (b.klt hk);simpa using this
def yesL (bl:Bl) (k:Nat) (f:Nat->Bool):List Nat:=(FT.blk bl k).filter f
def noL (bl:Bl) (k:Nat) (f:Nat->Bool):List Nat:=(FT.blk bl k).filter λx=>!f x
structure Cut (bl:Bl) (k:Nat) (f:Nat->Bool):Prop where
 hk:k∈bl.map (·.1)
 hy:yesL bl k f≠[]
 hn:noL bl k f≠[]
end
structure Stb (st:List (List Nat)) (mk:List (List Str)) (E:Nat->Nat->Prop):Prop where
 lt:∀x y,E x y->x<st.length/\y<st.length
 sym:∀x y,E x y->E y x
 marks:∀x y,E x y->mkAt mk x=mkAt mk y
 steps:∀x y,E x y->∀o∈nx st x,∃t∈nx st y,E o t
def kvB (bl:Bl):List (Key×D):=bl.map λp=>(.inl (p.1:Int),.tup (stD p.2))
theorem zx3 {a b:Nat}:((.inl (a:Int):Key)=.inl (b:Int))↔a=b:=by
 constructor
 ·intro h;injection h with h;omega
 ·rintro rfl;rfl
theorem lkB {bl:Bl}{k:Nat}(h:k∈bl.map (·.1)):lkD (kvB bl) (.inl (k:Int))=.(g ((stD (blk bl k)))):=by
 unfold lkD kvB blk;rw[List.find?_map];have:((λkv:Key×D=>decide (kv.1=.inl (k:Int))) ∘ λp:Nat×List Nat=>((.inl (p.1:Int):Key),D.tup (stD p.2)))=λp=>decide (p.1=k):=by
  funext p;show decide ((.inl (p.1:Int):Key)=.inl (k:Int))=_;rw[decide_eq_decide];exact zx3
 rw[this];cases e:bl.find? λp=>decide (p.1=k) with
 | none =>
  rw[K7d]at e;obtain⟨p,hp,q⟩:=K0v.mp h;exact absurd (by simpa using q) (e p hp)
 | some q=>rfl
def Dic (h:AH) (b:Nat) (bl:Bl):Prop:=h[b]?=some (.dK (kvB bl))\/h[b]?=some (.dF (kvB bl))
theorem Dic.app {h:AH}{b:Nat}{bl:Bl}(d:Dic h b bl) (j:AH):Dic (h++j) b bl:=d.imp (λe=>z0r e) λe=>z0r e
theorem Dic.lt {h:AH}{b:Nat}{bl:Bl}(d:Dic h b bl):b<h.length:=by rcases d with d|d<;>exact(K8.mp d).1
theorem Dic.get {h:AH}{b:Nat}{bl:Bl}(d:Dic h b bl) {k:Nat}(hk:k∈bl.map (·.1)):z2R (.ref b) (.int (k:Nat)) h=.ok (.tup (stD (blk bl k))) h:=by
 have g:getK b h=.ok (kvB bl) h:=by rcases d with d|d<;>(unfold getK;rw[d])
 unfold z2R;show (getK b >>= _) h=_;rw[M.bind_ok g];show (match lkD (kvB bl) (.inl (k:Int)) with|some d=>pure d|none=>bad) h=_;rw[lkB hk];rfl
theorem Dic.dk {h:AH}{b:Nat}{bl:Bl}(d:Dic h b bl):zB6 b h=.ok (kvB bl) h:=by rcases d with d|d<;>(unfold zB6;rw[d])
theorem Dic.set {h:AH}{b:Nat}{bl:Bl}(d:Dic h b bl):Dic (h.set b (.dF (kvB bl))) b bl:=.inr (K19 d.lt)
theorem z3b {m:M D}{h h0:AH}{i:Nat}{o:O}{j:AH}(e:m h=.ok (.ref i) (h0++j)) (l0:h0.length=h.length) (kp:Kept h h0) (hi:h.length<=i) (ei:(h0++j)[i]?=some o) (c:refO h.length o=true):cln m h=.ok (.ref h.length) (h0++[o]):=by
 have kp':Kept h (h0++j):=λi o li e=>kp i o li (by rw[K11 (by omega)]at e;exact e);unfold cln;rw[e];dsimp only;rw[if_pos ⟨by rw[K06];omega,kp'⟩,if_neg (by simp only[y9,decide_eq_true_eq];omega),ei];dsimp only;rw[if_pos c,<- l0,Z1j rfl]
theorem zm1 {m:M D}{h h0:AH}{d:D}{j:AH}(e:m h=.ok d (h0++j)) (l0:h0.length=h.length) (kp:Kept h h0) (c:y9 0 d=true):cln m h=.ok d h0:=by
 have kp':Kept h (h0++j):=λi o li e=>kp i o li (by rw[K11 (by omega)]at e;exact e);unfold cln;rw[e];dsimp only;rw[if_pos ⟨by rw[K06];omega,kp'⟩,if_pos (z2C (K3a _) c),<- l0,Z1j rfl]
theorem ze1 {h:AH}{b:Nat}{o:O}(c:refO h.length o=true):Kept h (h.set b o):=λi u li e=>by
 by_cases q:b=i
 ·subst q;rw[K19 li]at e;cases e;exact .inr c
 ·rw[K1e q]at e;exact .inl e
theorem z3a (h:AH):Kept h h:=λ_ _ _ e=>.inl e
theorem z4U {kvs:List (Key×D)}{k:Key}{v:D}(h:k∉kvs.map (·.1)):ptD kvs k v=kvs++[(k,v)]:=by
 unfold ptD;rw[if_neg];rw[K6l];rintro⟨p,hp,q⟩;exact h (K0v.mpr ⟨p,hp,of_decide_eq_true q⟩)
section
variable {cap:List (Option Nat)}{mi mi1:G->M Src}{g g1:D->G->M G}{kb:G->M Bool}{me mv:G->M D}{γ:G}
theorem z8Z {h:AH}{n:Nat}{kvs:List (Key×D)}{y v:D}{k:Key}(e:h[n]?=some (.dK kvs)) (hk:keyD y=some k) (hl:kvs.length<1000000) (nk:k∉kvs.map (·.1)):z7s n y v h=.ok () (h.set n (.dK (kvs++[(k,v)]))):=by
 unfold z7s zn4;dsimp only;rw[hk];dsimp only;rw[e];dsimp only;rw[if_pos (K0i hl (by decide)),z4U nk]
theorem z6o {γ':G}(f:D->Key×D) (src:Src) (h1:AH) (hg:∀j,src.good (h1++j)):∀(rest:List D) (kvs:List (Key×D)),(kvs.map (·.1)++rest.map λd=>(f d).1).Nodup->kvs.length+rest.length<=1000 ->
 (∀d∈rest,∃γ1 y,(∀h,g d γ' h=.ok γ1 h)/\(∀h,kb γ1 h=.ok true h)/\keyD y=some (f d).1/\(∀j,me γ1 (h1++j)=.ok y (h1++j))/\∀j,mv γ1 (h1++j)=.ok (f d).2 (h1++j)) ->
 z2Z src g kb me mv h1.length γ' rest (h1++[.dK kvs])=.ok () (h1++[.dK (kvs++rest.map f)])
 | [],kvs,nd,hl,hd=>by
  unfold z2Z;have c1:src.chk (h1++[.dK kvs])=.ok () (h1++[.dK kvs]):=by unfold Src.chk;rw[if_pos (hg _)]
  rw[M.bind_ok c1];simp
 | d::rest,kvs,nd,hl,hd=>by
  obtain⟨γ1,y,e1,e2,e3,e4,e5⟩:=hd d (by simp);have nk:(f d).1∉kvs.map (·.1):=λq=>(K1x.mp nd).2.2 _ q _ (by simp) rfl;have c1:src.chk (h1++[.dK kvs])=.ok () (h1++[.dK kvs]):=by unfold Src.chk;rw[if_pos (hg _)]
  have c5:=z8Z (n:=h1.length) (v:=(f d).2) (z1H (h:=h1) (o:=.dK kvs)) e3 (by rw[K07]at hl;omega) nk;rw[z65]at c5;have ih:=z6o (γ':=γ') f src h1 hg rest (kvs++[f d]) (by rw[K0w,K0z];exact nd) (by rw[K06];simp at hl ⊢;omega) λx hx=>hd x (by simp[hx]);unfold z2Z;rw[M.bind_ok c1,M.bind_ok (e1 _),M.bind_ok (e2 _),if_pos rfl,M.bind_ok (e4 _),M.bind_ok (e5 _),M.bind_ok c5,ih];simp
theorem zw0 {h h1:AH}{src:Src}(f:D->Key×D) (hi:mi γ h=.ok src h1) (hg:∀j,src.good (h1++j)) (nd:(src.items.map λd=>(f d).1).Nodup) (hl:src.items.length<=1000)
 (hd:∀d∈src.items,∃γ1 y,(∀h,g d (capG cap γ) h=.ok γ1 h)/\(∀h,kb γ1 h=.ok true h)/\keyD y=some (f d).1/\(∀j,me γ1 (h1++j)=.ok y (h1++j))/\∀j,mv γ1 (h1++j)=.ok (f d).2 (h1++j)) :
 z6u cap mi g kb me mv γ h=.ok (.ref h1.length) (h1++[.dK (src.items.map f)]):=by
 have r:=z6o (γ':=capG cap γ) (kb:=kb) (me:=me) (mv:=mv) (g:=g) f src h1 hg src.items [] (by simpa using nd) (by simpa using hl) hd;unfold z6u;rw[M.bind_ok hi];show (z2Z src g kb me mv h1.length (capG cap γ) src.items >>= λ_=>(pure (D.ref h1.length):M D)) (h1++[O.dK []])=_;rw[M.bind_ok r];simp
end
theorem z2h {m:M D}{h:AH}{d:D}(e:m h=.ok d h) (c:y9 0 d=true):cln m h=.ok d h:=z0Q (j:=[]) (by rw[e,K2d]) (z2C (K3a h.length) c)
theorem z2g {ma:G->M D}{γ:G}{h:AH}{d:D}{T:String}{b:Bool}(e1:ma γ h=.ok d h) (e2':fIsi T d h=.ok (.bl b) h):eIsi T ma γ h=.ok (.bl b) h:=by
 unfold eIsi;rw[M.bind_ok e1,e2']
theorem zQ3 {me:G->M D}{γ:G}{h:AH}{bs:List Bool}(e:me γ h=.ok (.ref h.length) (h++[.lst (bs.map .bl)])):clE (j7 (fAll true) (Z1 me aNil)) γ h=.ok (.bl (bs.any id)) h :=
 z0Q (j:=[.lst (bs.map .bl)]) (j9 e (by
  have g:getL h.length (h++[O.lst (bs.map .bl)])=.ok (bs.map .bl) (h++[O.lst (bs.map .bl)]):=by unfold getL;rw[z1H]
  unfold fAll;dsimp only;rw[M.bind_ok g,z5B];rfl)) rfl
structure CanH (n:Nat) (H:List Nat):Prop where
 len:H.length=n
 le:∀x,x<n->rowAt H x<=x
 fix:∀x,x<n->rowAt H (rowAt H x)=rowAt H x
section
variable {st:List (List Nat)}{mk:List (List Str)}{H:List Nat}
end
inductive Sy where
 | yes
 | mark (s:Str)
 | step (k:Nat)
 | neg (k:Nat)
 | con (a b:Nat)
def Sy.d:Sy->D
 | .yes=>.tup [.str "yes"]
 | .mark s=>.tup [.str "mark",.str s]
 | .step k=>.tup [.str "step",.int k]
 | .neg k=>.tup [.str "not",.int k]
 | .con a b=>.tup [.str "and",.int a,.int b]
def Sy.ok (n:Nat):Sy->Prop
 | .yes=>True
 | .mark s=>z80 s
 | .step k=>k<n
 | .neg k=>k<n
 | .con a b=>a<n/\b<n
abbrev Tru:=List (List Bool)
def tv (T:Tru) (i x:Nat):Bool:=(((T[i]?).getD [])[x]?).getD false
def Sy.f (st:List (List Nat)) (mk:List (List Str)) (T:Tru):Sy->Nat->Bool
 | .yes,_=>true
 | .mark s,x=>decide (s∈mkAt mk x)
 | .step k,x=>(nx st x).any (tv T k)
 | .neg k,x=>!tv T k x
 | .con a b,x=>tv T a x&&tv T b x
def Sy.t (st:List (List Nat)) (mk:List (List Str)) (T:Tru) (r:Sy):List Bool:=(K0o st.length).map (r.f st mk T)
def trus (st:List (List Nat)) (mk:List (List Str)) (R:List Sy):Tru:=R.foldl (λT r=>T++[r.t st mk T]) []
section
variable {st:List (List Nat)}{mk:List (List Str)}{R:List Sy}{r:Sy}{T S:Tru}{i x:Nat}{bl:Bl}
structure Sg (st:List (List Nat)) (mk:List (List Str)) (R:List Sy) (num:Nat->Nat) (bl:Bl):Prop where
 ok:∀(i:Nat) (r:Sy),R[i]?=some r->r.ok i
 lt:∀k∈bl.map (·.1),num k<R.length
 tr:∀k∈bl.map (·.1),∀x,x<st.length->tv (trus st mk R) (num k) x=decide (keyOf bl x=k)
end
theorem z5d {prog:K08}{w:World}{A:Around}{E:Value->Shared->Prop}{s:Shared}{t:Addr}{vs:List Value}{v:Value}{f:Value->Bool}{j:Nat}{Q:Value->Shared->Prop}(ht:IsTup s.heap t vs.toArray) (hf:∀y∈vs,K6g A.in1 s y v (f y)) (hj:j<vs.length) (hit:f vs[j]=true) (hno:∀m (hm:m<vs.length),m<j->f vs[m]=false) (h:Q (.int j s.toks) { s with toks:=s.toks+1 }) :
 wpAny (model prog w) A (call (.builtin "tuple.index") [.ref t,v]) Q E s:=by
 have hT:s.heap.IsTuple t vs.toArray:=ht;obtain⟨o,ho,hc,n,hd⟩:=id hT;refine K1g F.slot_tuple_index ⟨o,ho,hc⟩ F.entry_tuple_index ?_ (F.args_tuple_index_2 _ _);unfold Builtin.«tuple.index»
 wp_walk
 rw[hd];refine K5 ?_;refine K5 ?_;dsimp only;refine K0 (K5 ?_);refine K0 (K5 ?_);refine K0 ?_;rw[Std.Legacy.Range.forIn_eq_forIn_range'];simp only[Std.Legacy.Range.size,Nat.sub_zero,Nat.add_sub_cancel,Nat.div_one,Nat.min_self,K9];refine wpAny_forIn_list _
  (λrest b s'=>s'=s/\b=(none,())/\∃i,rest=Z1b i (vs.length - i)/\i<=j)
  _ ?_ ?_ _ _ ⟨rfl,rfl,0,by simp,K3a _⟩
 ·rintro x rest b s' ⟨rfl,rfl,i,hr,hle⟩;have hlt:i<vs.length:=by omega
  obtain⟨rfl,hrest⟩:x=i/\rest=Z1b (i+1) (vs.length - (i+1)):=by
   have e:vs.length - i=(vs.length - (i+1))+1:=by omega
   rw[e,Z18]at hr;injection hr with h1 h2
   exact⟨h1,h2⟩
  have e1:vs.toArray[x]?=some vs[x]:=by simp[hlt]
  rw[e1];dsimp only;refine K0 (hf _ (K36 hlt) prog w _ _ ?_);by_cases e3:x=j
  ·subst e3;rw[hit,if_pos rfl]
   wp_walk
   exact⟨_,rfl,h⟩
  ·rw[hno x hlt (by omega),if_neg (by decide)];exact K5 ⟨rfl,rfl,x+1,hrest,by omega⟩
 ·rintro b s' ⟨rfl,rfl,i,hr,hle⟩;have:vs.length - i=0:=by
   cases e:vs.length - i with
   | zero=>rfl
   | succ m=>rw[e,Z18]at hr;cases hr
  omega
section
variable {X:Cx}{EX:XX}{o a:Expr}{apos cpos:Pos}{mo ma:G->M D}
def zb2 (K:K2):V->List V->Hp->VK->Prop:=λx vs H Q=>∃ρ h l d ds u xs,x=.ref l/\vs=[u]/\RH K ρ h H/\RD K ρ H d u/\SqT K H l xs/\RDs K ρ H ds xs/\z00 ds=true/\inZ h d ds=some true/\Q (.int (z2l h d ds:Nat)) H
theorem z7h (hu:X.A.units+40<cLine):MtR X "tuple.index" (zb2 X.K):=by
 intro pins s σ H x vs v us Q I rx rv h;obtain⟨ρ,h,l,d,ds,u,xs,rfl,rfl,rh,rd,hq,rs,pd,e,q⟩:=h;cases rx;obtain⟨w,rfl,rw'⟩:=rv.one;obtain⟨its,ws,pl,hz⟩:=I.tuple hq;obtain⟨f,f1,f2⟩:=z6V (by omega) I rh pd rd rw' rs ws e;have l1:ds.length=its.length:=by rw[rs.length,ws.length]
 have hj:z2l h d ds<ds.length:=by
  obtain⟨_,q2⟩:=z2x e;obtain⟨z,zm,c⟩:=q2.mp rfl;exact K6c ⟨z,zm,decide_eq_true c⟩
 have at_:∀{m:Nat} (hm:m<its.length) ,f its[m]=decide (eqN 24 h (ds[m]'(by omega)) d=some true):=λ{m} hm=>by
  have:=f2 m its[m] (ds[m]'(by omega)) (K7 hm) (K7 (by omega));rw[K17,this,decide_eq_true_eq]
 refine z5d pl f1 (by omega:z2l h d ds<its.length) ?_ (λm hm hlt=>?_) ⟨.int _,H,I.tok _,⟨_,rfl⟩,q⟩
 ·rw[at_ (by omega)];exact K9j (p:=λz=>decide (eqN 24 h z d=some true)) (w:=hj)
 ·rw[at_ (by omega)];have:=K8w (p:=λz=>decide (eqN 24 h z d=some true)) (xs:=ds) (i:=m) hlt;simpa using this
def z26 (mo ma:G->M D):G->M D:=λγ=>do
 let o <- mo γ
 match o with
 | .tup xs=>do
  let y <- ma γ
  ixX xs y
 | _=>bad
theorem z3Z (hu:X.A.units+40<cLine) (ho:SE X EX o mo) (ha:SE X EX a ma)
 (hbase:K49 o "index" X.env (eval o X.env)=eval o X.env:=by rfl)
 (hfew:((backTo cpos (K05 [a] X.env)).all (λx=>!x.1)&&(K3r cpos (K2b [] X.env)).all (λx=>x.1.isSome)
 &&decide (([a]:List Expr).length+([]:List K3d).length+(if ([]:List K3d).isEmpty then 0 else 1)<30))=true:=by rfl)
 (hline:(apos.endLine==cpos.line)=true:=by rfl) (hs:K05 [a] X.env=[(false,eval a X.env)]:=by rfl) :
 SE X EX (.Call (.Attribute o "index" apos) [a] [] cpos) (z26 mo ma) :=
 ⟨PE.imp (zC5 PySem.F.plainAttrs_tuple PySem.F.slot_tuple_index PySem.F.type_tuple_index (z7h hu) ho.h (z1S ha.h z3u hs) hbase hfew hline hs rfl) λσ H Q ⟨ρ,γ,h,rel,fin⟩=>⟨ρ,γ,h,rel,(Fin.bind fin).mono λx ρ1 h1 H1 p1 e1 r1 f1 v rv=>by
  cases x<;>first|exact(show False from f1).elim|skip
  rename_i xs;simp only[RD]at rv;obtain⟨q,vs,rfl,h2,h3⟩:=rv;exact⟨⟨q,vs,rfl,h2⟩,ρ1,γ,h1,⟨rel.g.mono p1 e1,r1⟩,(Fin.bind f1).mono λy ρ2 h4 H2 p2 e2 r2 f2 u ru=>by
   have f3:FE X.K EX ρ2 H2 Q (ixX xs y _):=f2;unfold ixX at f3;split at f3
   ·rename_i c;exact⟨ρ2,_,_,y,xs,u,vs,rfl,rfl,r2,ru,e2.t _ _ h2,h3.mono p2 e2,c.1,c.2.2,FE.here f3 r2 (by simp[RD])⟩
   ·exact f3.elim⟩⟩⟩
end
end FT
namespace L2
section
variable {P:K08}{w:World}{A:Around}{E:Value->Shared->Prop}{s:Shared}
theorem z4y:K8o (.type "tuple") "keys" = pure none:=by rw[K95,K6f];kernel_rfl
theorem zt0 {a:Addr}{xs:Array Value}{k:Nat}{sl:Array (Option Value)}{Q:Option Value->Shared->Prop}(hx:s.heap.get? a=some { cls:=.type "tuple",dict:=none,data:=.seq xs k,slots:=sl }) (hA:A.handled=none)
 (h:∀h' tk,(∀b ob,s.heap.get? b=some ob->h'.get? b=some ob)->Q none { s with heap:=h',toks:=tk }):wpAny (model P w) A (getAttr? (.ref a) "keys") Q E s:=by
 obtain⟨hp,g,d,tk,os⟩:=s;have hT:∀tk',(⟨hp,g,d,tk',os⟩:Shared).TypeIs (.ref a) "tuple":=λ_=>⟨_,hx,rfl⟩;have f1:=sub_AttributeError;have f3:=F.slot_tuple_getattribute.lookup;have f4:=F.slot_tuple_getattribute.bind (.ref a);have f5:=am_tuple_getattr_none;unfold getAttr? getAttrBy? getAttrBy
 repeat (any_goals (first|assumption|exact hT _|((with_reducible show wpAny _ _ (call (Value.builtin "tuple.__getattribute__") _ _) _ _ _);refine K4g F.slot_tuple_getattribute (hT _) am_entry_tuple_getattribute (F.args_tuple_getattribute_2 _ _) (meets_getattribute_miss_tuple a xs k sl "keys" _ z4y (by decide +kernel) (by decide)) ⟨hx,hA,λh' tk' e hx'=>?_⟩)|wp_step))
 obtain⟨t',u',he⟩:=hx'.there;show wpAny _ _ (getattributeRaised _ _ _ _ _ _ _) _ _ _;unfold getattributeRaised
 repeat (any_goals (first|assumption|wp_step))
 exact h _ _ hx'.keeps
theorem z55:entryFor table "dict.update.loop" = some Builtin.«dict.update.loop»:=entryFor_of_tree (by kernel_rfl)
theorem z2A:plainId "dict.update.loop" = true:=by decide +kernel
theorem pair_items {p:Addr}{o:Obj}{its:Array Value}{m:Nat}{Q:List Value->Shared->Prop}(ho:s.heap.get? p=some o) (hc:o.cls=.type "tuple") (hd:o.data=.seq its m) (h:Q its.toList s):wpAny (model P w) A (K8k (.ref p)) Q E s:=by
 have hT:s.TypeIs (.ref p) "tuple":=⟨_,ho,hc⟩;obtain⟨hp,g,d,tk,os⟩:=s;unfold K8k
 repeat (any_goals (first|assumption|wp_step))
 rw[hd];exact K5 (K5 h)
end
section
variable {P:K08}{w:World}{A:Around}{R:Result->Shared->Prop}{I:Addr}{fp wr:List Addr}{G:Array K6r->Array K6r->Prop}{n:Nat}{PV:Nat->Value->Prop}{St:Nat->Shared->Prop}{KK:Type} [DecidableEq KK] {knd:KeyKind P w KK}
theorem z9L (W:WalksS P w A.in1 I fp wr G n PV St) (d:Addr) (hdf:d∉fp) (h0:Heap) (key:Nat->KK) (val:Nat->Value)
 (hv:∀i v,PV i v->∃(p:Addr) (ku:Value) (o:Obj) (m:Nat),v=.ref p/\knd.is (key i) ku=true/\p∉wr/\p≠d/\h0.get? p=some o/\o.cls=.type "tuple"/\o.data=.seq #[ku,val i] m) (hn:n<=1000) :
 ∀(k i:Nat) (x:Int) (tt:Tok) (s:Shared) (kvs:List (KK×Value)),i+k=n->St i s->(∀b o,b∉d::wr->h0.get? b=some o->s.heap.get? b=some o)->s.heap.DictOf knd d kvs->kvs.length<=i ->
  (∀s',Moved (d::wr) G s s'->s'.heap.DictOf knd d ((Z1b i k).foldl (λacc m=>stored acc (key m) (val m)) kvs)->R (.ok (.ret .none)) s') ->
  K61 (model P w) A (.builtin "dict.update.loop" ⟨[.ref d,.ref I,.int x tt,.none],[]⟩) R s:=by
 have nw:d∉wr:=λh=>hdf (W.sub _ h);have up:∀b∈wr,b∈d::wr:=λb hb=>K0j _ hb;have dst:∀{h h':Heap} {kvs:List (KK×Value)},h.DictOf knd d kvs->(∀o,h.get? d=some o->h'.get? d=some o)->h'.DictOf knd d kvs:=λ{h h' kvs} x y=>by
  obtain⟨o,es,ep,ho,r⟩:=x;exact⟨o,es,ep,y o ho,r⟩
 intro k;induction k with
 | zero =>
  intro i x tt s kvs hk st h0s hS hl hR;obtain rfl:i=n:=by omega
  refine K2o z55 ?_;rw[K1y z2A _];show wpAny _ A.in1 (pyNext (.ref I) >>= _) _ _ s;refine K0 (W.done s _ _ st λs' hm=>?_);show wpAny _ A.in1 (Builtin.Dict.addKeywords d [] >>= λ_=>ret K2x) _ _ s';refine K0 (K5 (K5 (hR s' (hm.mono up) ?_)));exact dst hS λo e=>hm.heap d o nw e
 | succ k ih =>
  intro i x tt s kvs hk st h0s hS hl hR;refine K2o z55 ?_;rw[K1y z2A _];show wpAny _ A.in1 (pyNext (.ref I) >>= _) _ _ s;refine K0 (W.item i s _ _ (by omega) st λv s' hP st' hm=>?_);obtain⟨p,ku,o,m,rfl,hkey,pw,pd,ho,hc,hd⟩:=hv i v hP;have ho':s'.heap.get? p=some o:=hm.heap p o pw (h0s p o (by simp only[K0a,not_or];exact⟨pd,pw⟩) ho);have hS':s'.heap.DictOf knd d kvs:=dst hS λo e=>hm.heap d o nw e;refine K0 (K1s ?_);refine K0 (wpAny_tryCatch (pair_items ho' hc hd ?_));show wpAny _ A.in1 (K56 [ku,val i] (dictSet d ku (val i))) _ _ s';refine K1s (K9u hkey hS' (λh' dd sb=>?_) (by have q:(1000:Nat)<=sizeLine:=(by decide);omega));refine K5 ⟨K4s z2A _,?_⟩;refine ih (i+1) _ _ _ (stored kvs (key i) (val i)) (by omega) (W.frame _ s' _ _ st' (K4d _) λb hb o e=>?_) (λb o hb e=>?_) dd (by have:=stored_length_le kvs (key i) (val i);omega) λs'' hm'' S3=>?_
  ·rw[sb.2 b (λz:b=d=>hdf (z ▸ hb))];exact e
  ·simp only[K0a,not_or]at hb;rw[sb.2 b hb.1];exact hm.heap b o hb.2 (h0s b o (by simp only[K0a,not_or];exact hb) e)
  ·refine hR s'' (Moved.trans W.gtrans ((hm.mono up).then_heap (K4d _) λb o hb e=>?_) hm'') S3;rw[sb.2 b (λz:b=d=>hb (by rw[z];exact K0t))];exact e
end
section
variable {P:K08}{w:World}{A:Around}{E:Value->Shared->Prop}{s:Shared}{KK:Type} [DecidableEq KK] {knd:KeyKind P w KK}
theorem z7f {l:Addr}{ol:Obj}{items:Array Value}{nl:Nat}{key:Nat->KK}{val:Nat->Value}{Q:Value->Shared->Prop}(hh:A.handled=none) (hol:s.heap.get? l=some ol) (hcl:ol.cls=.type "tuple"/\ol.dict=none) (hdl:ol.data=.seq items nl)
 (hv:∀i v,items[i]?=some v->∃(p:Addr) (ku:Value) (o:Obj) (m:Nat),v=.ref p/\knd.is (key i) ku=true/\s.heap.get? p=some o/\o.cls=.type "tuple"/\o.data=.seq #[ku,val i] m) (hn:items.size<=1000)
 (h:∀h' tk d,s.heap.get? d=none->h'.DictOf knd d ((K0o items.size).foldl (λacc m=>stored acc (key m) (val m)) [])->(∀b o,s.heap.get? b=some o->h'.get? b=some o)->s.heap.objs.size<=d->Q (.ref d) { s with heap:=h',toks:=tk }) :
 wpAny (model P w) A (call (.type "dict") [.ref l]) Q E s:=by
 obtain⟨ocls,odict,odata,oslots⟩:=ol;obtain⟨hc1,hc2⟩:=hcl;simp only at hc1 hc2 hdl;subst hc1 hc2 hdl;refine callType_codes (Q₁:=λobj s₁=>obj=.ref s.heap.objs.size/\s₁={ s with heap:=s.heap.push { cls:=.type "dict",data:=.dict #[] } }) F.kt_called_dict (F.kt_typeCall_dict_1 _) F.entry_dict_init (kt_code_dict_new _ ⟨rfl,rfl⟩) ?_;rintro obj s₁ ⟨rfl,rfl⟩;have hnew:(s.heap.push { cls:=.type "dict",data:=.dict #[] }).DictOf knd s.heap.objs.size []:=Z1g s.heap;have gl:(s.heap.push { cls:=.type "dict",data:=.dict #[] }).get? l=some { cls:=.type "tuple",dict:=none,data:=.seq items nl,slots:=oslots }:=K4 _ hol;have hT:K7x { s with heap:=s.heap.push { cls:=.type "dict",data:=.dict #[] } } (.ref l) "tuple":=⟨_,gl,rfl⟩;have hh2:A.in1.in1.handled=none:=by simp[hh]
 refine⟨hnew.typeIs,F.args_dict_init_2 _ _,?_⟩;unfold Builtin.«dict.__init__»;refine K0 ?_;unfold Builtin.Dict.selfAndRest;refine K0 (wpAny_notOrdered_dict hnew.typeIs ?_);show wpAny _ _ (pure (s.heap.objs.size,[K2e l])) _ _ _;refine K5 ?_;show wpAny _ _ (K88 "dict.__init__" s.heap.objs.size (.ref l) [] .none) _ _ _;unfold K88;refine K0 (K42 hT ?_);rw[if_pos (by decide)];refine K0 (zt0 gl hh2 λh1 tk1 k1=>?_);dsimp only[Option.isNone];rw[if_pos rfl];refine K0 (K47 ?_);have gl1:h1.IsTuple l items:=⟨_,k1 _ _ gl,rfl,nl,rfl⟩;have lls:l<s.heap.objs.size:=K02 hol;have kd:∀b o,(s.heap.push { cls:=.type "dict",data:=.dict #[] }).get? b=some o->b<h1.objs.size:=λb o e=>K02 (k1 b o e);have dlt:s.heap.objs.size<h1.objs.size:=kd _ _ (K04 _ rfl);have neI:l≠h1.objs.size:=K0e (K5y lls dlt);have nf:s.heap.objs.size∉[h1.objs.size,l]:=by
  simp only[K0a,K0m,K21,or_false,not_or];exact⟨K0e dlt,K26 lls⟩
 refine K0 (K2p gl1 (K5 ?_));refine⟨K4s z2A _,?_⟩;have h3:A.in1.in1.in1.handled=none:=by simp[hh]
 refine z9L (A:=A.in1) (knd:=knd) ((Walks.tuple hh2 h1.objs.size l neI items).toS) s.heap.objs.size nf s.heap key val (λi v e=>?_) hn items.size 0 _ _ _ [] (by omega) ?_ ?_ ?_ (K03 _) λs' hm S3=>?_
 ·obtain⟨p,ku,o,m,e1,e2,e3,e4,e5⟩:=hv i v e;have pl:=K02 e3;exact⟨p,ku,o,m,e1,e2,by simp only[K0m];exact K0e (K5y pl dlt),K0e pl,e3,e4,e5⟩
 ·exact⟨⟨_,K04 _ rfl,rfl,rfl⟩,⟨_,K4 _ (k1 _ _ gl),rfl,nl,rfl⟩⟩
 ·exact λb o _ e=>K4 _ (k1 _ _ (K4 _ e))
 ·obtain⟨o,es,ep,ho,r⟩:=hnew;exact⟨o,es,ep,K4 _ (k1 _ _ ho),r⟩
 ·obtain⟨h',g',d',tk',os'⟩:=s';have e1:g'=s.gens:=hm.gens;have e2:d'=s.drawn:=hm.drawn;have e3:os'=s.os:=hm.os;subst e1;subst e2;subst e3;rw[<- List.range_eq_range']at S3;refine⟨rfl,h h' tk' s.heap.objs.size (K9k (K03 _)) S3 (λb o e=>hm.heap b o ?_ (K4 _ (k1 _ _ (K4 _ e)))) (K03 _)⟩;have:=K02 e;simp only[K0a,K0m,K21,or_false,not_or];exact⟨K0e this,K0e (K5y this dlt)⟩
end
open PySem PySem.Spec PyProof.Rows FT
section
variable {X:Cx}
theorem Inv.tup0 {pins:List (Addr×Obj)}{σ:L2.St}{H:Hp}{s:Shared}{a:Addr}{xs:List V}(I:Inv X pins σ H s) (h:SqT X.K H a xs):∃its:List Value,Vals xs its/\IsTup0 s.heap a its.toArray/\xs.length<=sizeLine:=by
 rcases h with h|⟨o,its,n,hk,hc,hs,hz,r⟩
 ·obtain⟨z,its,r,p⟩:=h.ok I.hok;exact⟨its,r,p,z⟩
 ·refine⟨its.toList,r,⟨o,I.kIn a o hk,hc,n,by simpa using hs⟩,?_⟩;have:=Vals.length r;rw[this];simpa using hz
def z5X (ps:List (Key×V)):List (Key×V):=ps.foldl (λacc p=>putK acc p.1 p.2) []
theorem pairs_at {pins:List (Addr×Obj)}{σ:L2.St}{H:Hp}{s:Shared}(I:Inv X pins σ H s):∀{as:List Addr}{ps:List (Key×V)},Paired (λa p=>SqT X.K H a [kV p.1,p.2]) as ps ->
 ∃vus:List Value,Vals (ps.map (·.2)) vus/\∀(i:Nat) a,as[i]?=some a->∃(ku:Value) (o:Obj) (m:Nat),z1O ((ps[i]?).getD (.inl 0,.non)).1 ku=true/\s.heap.get? a=some o/\o.cls=.type "tuple"/\o.data=.seq #[ku,(vus[i]?).getD .none] m
 | _,_,.nil=>⟨[],.nil,λi a e=>by simp at e⟩
 | _,_,.cons (a:=a) (b:=p) h t=>by
  obtain⟨vus,r,z⟩:=pairs_at I t;obtain⟨its,r2,⟨o,ho,hc,m,hd⟩,_⟩:=I.tup0 h;obtain⟨ku,vu,rfl,rk,rv⟩:∃ku vu,its=[ku,vu]/\RelV (kV p.1) ku/\RelV p.2 vu:=by
   cases r2 with
   | cons rk r3=>cases r3 with
    | cons rv r4=>cases r4 with
     | nil=>exact⟨_,_,rfl,rk,rv⟩
  refine⟨vu::vus,.cons rv r,λi b e=>?_⟩;cases i with
  | zero =>
   cases (show a=b by simpa using e);exact⟨ku,o,m,z7O rk,ho,hc.1,by simpa using hd⟩
  | succ i=>exact z i b (by simpa using e)
theorem z7N {ps:List (Key×V)}{vus:List Value}(r:Vals (ps.map (·.2)) vus):∀n,n<=ps.length->KV ((ps.take n).foldl (λacc p=>putK acc p.1 p.2) []) ((K0o n).foldl (λacc m=>stored acc ((ps[m]?).getD (.inl 0,.non)).1 ((vus[m]?).getD .none)) [])
 | 0,_=>.nil
 | n+1,h=>by
  have hn:n<ps.length:=by omega
  have e:ps[n]?=some ps[n]:=K7 hn;have e2:(ps.map (·.2))[n]?=some ps[n].2:=by rw[K00,e];rfl
  obtain⟨u,eu,ru⟩:=Vals.get r e2;rw[K2i,e,K6v,K63,K63];show KV (putK _ ps[n].1 ps[n].2) (stored _ _ _);have e3:(ps[n]?).getD (K41 0,V.non)=ps[n]:=by rw[e];rfl
  rw[e3,eu];exact(z7N r n (by omega)).put _ ru
theorem z7D (hc:X.calm=true):CallR X (.type "dict") (λxs H Q=>∃l as ps,xs=[.ref l]/\SqT X.K H l (as.map .ref)/\Paired (λa p=>SqT X.K H a [kV p.1,p.2]) as ps/\ps.length<=1000/\∀d,H d=none->Q (.ref d) (upd H d (.dK (z5X ps)))):=by
 intro pins s σ H xs us Q I r h;obtain⟨l,as,ps,rfl,hl,pr,hn,q⟩:=h;obtain⟨u,rfl,ru⟩:=vals1 r;cases ru;have hh:=I.ok.hd hc;obtain⟨its,r',⟨ol,hol,hcl,nl,hdl⟩,hz⟩:=I.tup0 hl;obtain⟨vus,rv,at_⟩:=pairs_at I pr;have pl:=K45 pr;have le:its.length=ps.length:=by rw[<- Vals.length r',K6,pl]
 have sz:its.toArray.size=ps.length:=by rw[K9,le]
 have kl:(z5X ps).length<=sizeLine:=by
  have:∀(l acc:List (Key×V)),(l.foldl (λacc p=>putK acc p.1 p.2) acc).length<=acc.length+l.length:=λl=>by
   induction l with
   | nil=>intro acc;simp
   | cons p l ih =>
    intro acc;have:=ih (putK acc p.1 p.2);have:=z3o acc p.1 p.2;simp only[K3w,K07];omega
  have:=this ps [];have q:(1000:Nat)<=sizeLine:=(by decide);simp only[K0c]at this;unfold z5X;omega
 refine z7f (knd:=v9 X.prog X.w) (key:=λi=>((ps[i]?).getD (.inl 0,.non)).1) (val:=λi=>(vus[i]?).getD .none) hh hol hcl hdl (λi v e=>?_) (by rw[sz];exact hn) λh' tk d hd dd kp ld=>?_
 ·have e':its[i]?=some v:=by simpa using e
  have il:=(K8.mp e').1;obtain⟨a,ea⟩:∃a,as[i]?=some a:=⟨_,K7 (by rw[pl,<- le];exact il)⟩;obtain⟨u,eu,ru⟩:=Vals.get r' (show (as.map V.ref)[i]?=.(r a) by rw[K00,ea];rfl);rw[e']at eu;cases eu;cases ru;obtain⟨ku,o,m,z1,z2,z3,z4⟩:=at_ i a ea;exact⟨a,ku,o,m,rfl,z1,z2,z3,z4⟩
 ·rw[sz]at dd;have rel:=z7N rv ps.length (K03 _);rw[K1f]at rel;have lm:K48<s.heap.objs.size:=I.big;exact⟨.ref d,_,I.laid (t':=tk) (o:=.dK (z5X ps)) kp ld (zf8 kl (beq_eq_false_iff_ne.mpr (K5h (K0e (K0i lm ld)))) rel dd),rfl,q _ (I.hok.fresh ld)⟩
end
end L2
namespace FT
def z2v:List D->Option (List (Key×D))
 | []=>some []
 | .tup [y,v]::r=>(match keyD y,z2v r with
  | some k,some l=>some ((k,v)::l)
  | _,_=>none)
 | _::_=>none
def z48:List D->M D
 | [.tup xs]=>(match z2v xs with
  | some ps=>if ps.length<=1000 then newK (ps.foldl (λacc p=>ptD acc p.1 p.2) []) else bad
  | none=>bad)
 | _=>bad
section
variable {X:Cx}{EX:XX}{a:Expr}{p pos:Pos}{mr:G->M (List D)}
theorem z5f {K:K2}{ρ:List Addr}{H:Hp}:∀{ds:List D}{kvs:List (Key×D)}{vs:List V},z2v ds=some kvs->RDs K ρ H ds vs->∃(as:List Addr) (ps:List (Key×V)),vs=as.map .ref/\Paired (λa p=>SqT K H a [kV p.1,p.2]) as ps/\RK K ρ H kvs ps
 | [],kvs,vs,e,r=>by
  cases e;simp only[RDs]at r;subst r;exact⟨[],[],rfl,.nil,.nil⟩
 | d::ds,kvs,vs,e,r=>by
  simp only[RDs]at r;obtain⟨x,vr,rfl,rd,rr⟩:=r;obtain⟨y,v,k,l,rfl,ek,ep,rfl⟩:∃y v k l,d=.tup [y,v]/\keyD y=some k/\z2v ds=some l/\kvs=(k,v)::l:=by
   cases d with
   | tup zs =>
    rcases zs with _|⟨y,_|⟨v,_|⟨z,zs⟩⟩⟩
    ·cases e
    ·cases e
    ·have e':(match keyD y,z2v ds with
      | some k,some l=>some ((k,v)::l)
      | _,_=>none)=some kvs:=e
     cases ek:keyD y with
     | none=>rw[ek]at e';cases e'
     | some k =>
      cases ep:z2v ds with
      | none=>rw[ek,ep]at e';cases e'
      | some l =>
       rw[ek,ep]at e';cases e';exact⟨y,v,k,l,rfl,ek,rfl,rfl⟩
    ·cases e
   | _=>cases e
  obtain⟨as,ps,rfl,pr,rk⟩:=z5f ep rr;simp only[RD]at rd;obtain⟨a,xs,rfl,hs,rx⟩:=rd;obtain⟨x1,r1,rfl,d1,rx⟩:=(show ∃x r,xs=x::r/\RD K ρ H y x/\RDs K ρ H [v] r by simpa only[RDs] using rx);obtain⟨x2,rfl,d2⟩:=rds1 rx;have ky:=z7Y ek d1;subst ky;exact⟨a::as,(k,x2)::ps,rfl,.cons hs pr,.cons ⟨rfl,d2⟩ rk⟩
theorem z6R {K:K2}{ρ:List Addr}{H:Hp}:∀{kvs:List (Key×D)}{ps:List (Key×V)},RK K ρ H kvs ps->∀{acc:List (Key×D)}{acc':List (Key×V)},RK K ρ H acc acc'->RK K ρ H (kvs.foldl (λacc p=>ptD acc p.1 p.2) acc) (ps.foldl (λacc p=>L2.putK acc p.1 p.2) acc')
 | _,_,.nil,acc,acc',q=>q
 | _,_,.cons (a:=a) (b:=b) h t,acc,acc',q=>by
  obtain⟨h1,h2⟩:=h;have:=q.put a.1 h2;rw[K3w,K3w];refine z6R t ?_;rw[<- h1];exact this
theorem zl0:AR X.K EX (λxs H Q=>∃l as ps,xs=[.ref l]/\SqT X.K H l (as.map .ref)/\Paired (λa p=>SqT X.K H a [kV p.1,p.2]) as ps/\ps.length<=1000/\∀d,H d=none->Q (.ref d) (upd H d (.dK (z5X ps)))) z48:=by
 intro ρ h H ds vs Q r rd fin;unfold z48 at fin;split at fin
 ·rename_i xs;obtain⟨v,rfl,rv⟩:=rds1 rd;simp only[RD]at rv;obtain⟨l,ys,rfl,hs,rx⟩:=rv;cases e:z2v xs with
  | none=>rw[e]at fin;exact fin.elim
  | some kvs =>
   rw[e]at fin;dsimp only at fin;split at fin
   ·rename_i hl;obtain⟨as,ps,rfl,pr,rk⟩:=z5f e rx;refine⟨l,as,ps,rfl,hs,pr,by rw[<- rk.len];exact hl,λd hd=>?_⟩;unfold newK at fin;split at fin
    ·have ext:Ext X.K H (upd H d (.dK (z5X ps))):=Ext.upd (.inl hd);have rr:RH X.K (ρ++[d]) (h++[.dK (kvs.foldl (λacc p=>ptD acc p.1 p.2) [])]) (upd H d (.dK (z5X ps))):=r.pushO hd ⟨_,z08,(z6R rk .nil).mono (Pre.app _ _) ext⟩;refine fin (ρ++[d]) _ (Pre.app _ _) ext rr (.ref d) ?_;simp only[RD];exact⟨d,rfl,by rw[<- r.len];simp⟩
    ·exact fin.elim
   ·exact fin.elim
 ·exact fin.elim
theorem zd5 (hc:X.calm=true) (hg:Gl X "dict") (hm:X.mg "dict" = none) (ha:SA X EX [a] mr) (he:K05 [a] X.env=[(false,eval a X.env)]:=by rfl):SE X EX (.Call (.Name "dict" p) [a] [] pos) (j7 z48 mr) :=
 z10 (z1Y (z7D hc) hg hm (by decide +kernel) ha.h (by decide) (by decide) he rfl) zl0
end
abbrev Mx (K:K2) (mg:Str->Option Value) (x:Str):Prop:=∀v,K25 K K1q x=some (some v)->mg x=some v
abbrev Bnd (st:Stmt) (x:Str) (ps:List Str):Prop:=∀(kV doc pm:Value) (an:Option Addr) (cdv ct:Value) (us:List Value),us.length=ps.length->bindArgs (K2l x x (z12 st) (v7 st) (j8 st) .none kV doc pm an cdv ct) ⟨us,[]⟩=pure (ps.zip us)
def scB (N P:List Str) (sc:Scope):Bool:=sc.kind==.function&&!sc.isCoroutine&&!sc.isGenerator&&decide N.Nodup&&decide (P.length<=N.length)&&P.all (λx=>sc.names.lookup x==some .local||sc.names.lookup x==some .cell)&&sc.names.all λy=>y.2 != .free
theorem zM1 {N:List Str}{n:Nat}{sc:Scope}(h:scB N (N.take n) sc=true):FnScope N (N.take n) sc:=by
 unfold scB at h;simp only[K0h,K64,decide_eq_true_eq]at h;obtain⟨⟨⟨⟨⟨⟨h1,h2⟩,h3⟩,h4⟩,h5⟩,h6⟩,h7⟩:=h;refine⟨by simpa using h1,h2,h3,h4,by simp,λx hx=>?_,λy hy=>?_⟩
 ·have:=K23.mp h6 x hx;rw[K33]at this;rcases this with z|z
  ·exact .inl (by simpa using z)
  ·exact .inr (by simpa using z)
 ·have:=K23.mp h7 y hy;simpa using this
section
variable {P:K08}{w:World}{K:K2}{mg:Str->Option Value}{base:Heap}{x:Str}{st:Stmt}{k n:Nat}
theorem dfN (N:List Str) (mb:G->M Out) (T:DefAt K x st) (mx:Mx K mg x) (hs:scB N (N.take n) (j8 st)=true) (hn:(N.take n).length=n) (hb:Bnd st x (N.take n))
 (body:∀{f:Addr} {cdv:Value} {A:Around} {outer:List Env} {s:Shared} {H:Hp} {E:XK},K2v K cdv x=true->Room k (A.deeper (envOfC x (j8 st) s.heap.objs.size f cdv))->N.Nodup ->
  SB (cxOf CX0 P w K mg base N x (j8 st) f cdv A outer s H E).nox EX0 (v7 st) mb):Fn P w K mg base (k+1) x n (runF N.length mb):=by
 obtain⟨f,fd,hf,F⟩:=T;exact zj0 F (zM1 hs) (F.binds hb) (mx _ hf) hn λ_ _ _ _ _ _ hcd hr=>body hcd hr (zM1 hs).nd
theorem dfC (N:List Str) (mb:G->M Out) (T:DefAt K x st) (mx:Mx K mg x) (hs:scB N (N.take n) (j8 st)=true) (hn:(N.take n).length=n) (hb:Bnd st x (N.take n))
 (body:∀{f:Addr} {cdv:Value} {A:Around} {outer:List Env} {s:Shared} {H:Hp} {E:XK},K2v K cdv x=true->Room k (A.deeper (envOfC x (j8 st) s.heap.objs.size f cdv))->N.Nodup ->
  SB (cxOf CX0 P w K mg base N x (j8 st) f cdv A outer s H E).nox EX0 (v7 st) mb):Fn P w K mg base (k+1) x n λds=>cln (runF N.length mb ds):=Fn.cln (dfN N mb T mx hs hn hb body)
end
variable {P:K08}{w:World}{K:K2}{mg:Str->Option Value}{base:Heap}
def top (i:Nat):Stmt:=PySem.Challenge.pw_fairtrees_k07_whole_layout_is_the_comman.main.body.getD i (.Pass ⟨0,0,0,0⟩)
noncomputable def c_MOST:D:=.int 40
noncomputable def z28:G->M Out :=
 (Z3 (sRet (eIsi "tuple" (eVar 0))) bNil)
noncomputable def z20:List D->M D:=λds=>cln (runF 1 z28 ds)
theorem ok_is_tuple (T:DefAt K "is_tuple" (top 5)) (mx:Mx K mg "is_tuple") (F04:mg "isinstance" = none) (F00:mg "tuple" = none):Fn P w K mg base 1 "is_tuple" 1 z20 :=
 dfC ["thing"] z28 T mx (by decide +kernel) rfl (λ_ _ _ _ _ _ us hl=>(by obtain⟨_,rfl⟩:=ar1 hl;rfl)) λhcd hr nd =>
  (Z2 (y8 (z1k rfl F04 rfl F00 (by decide +kernel) (by decide) (z9 0))) Z8)
noncomputable def z37:G->M Out :=
 (Z3 (sRet (clE (j7 J9 (Z1 (j7 z1L (Z1 (j7 z3A (Z1 (eVar 0) aNil)) aNil)) aNil)))) bNil)
noncomputable def z2F:List D->M D:=λds=>cln (runF 1 z37 ds)
theorem ok_set_of (T:DefAt K "set_of" (top 7)) (mx:Mx K mg "set_of") (F0n:mg "set" = none) (F06:mg "sorted" = none) (F00:mg "tuple" = none):Fn P w K mg base 1 "set_of" 1 z2F :=
 dfC ["standings"] z37 T mx (by decide +kernel) rfl (λ_ _ _ _ _ _ us hl=>(by obtain⟨_,rfl⟩:=ar1 hl;rfl)) λhcd hr nd =>
  (Z2 (y8 (z0z (Y3 rfl F00 (Z0 (z7n rfl rfl F06 (Z0 (z9P rfl rfl F0n (Z0 (z9 0) Z5)) Z5)) Z5)))) Z8)
noncomputable def z1I:G->M Out :=
 (Z3 (sIf (λγ=>do let d <- e2 (fInX true) (eVar 1) (eVar 0) γ;asB d) (Z3 (sIf (λγ=>do let d <- e2 fGe (j7 fLen (Z1 (eVar 0) aNil)) (eVar 2) γ;asB d) (Z3 (λ_=>bad) bNil) bNil) (Z3 (z0K (eM1 w8 (eVar 0) (eVar 1))) bNil)) bNil) (Z3 (sRet (eM1 z01 (eVar 0) (eVar 1))) bNil))
noncomputable def z11:List D->M D:=λds=>cln (runF 3 z1I ds)
theorem ok_number_of (T:DefAt K "number_of" (top 10)) (mx:Mx K mg "number_of") (F01:mg "len" = none):Fn P w K mg base 1 "number_of" 3 z11 :=
 dfC ["rooms","room","most"] z1I T mx (by decide +kernel) rfl (λ_ _ _ _ _ _ us hl=>(by obtain⟨_,_,_,rfl⟩:=ar3 hl;rfl)) λhcd hr nd =>
  (Z2 (s_if (sc_c (z7S (hu30 hr)) (z9 1) (z9 0)) (Z2 (s_if (sc_c zd8 (z07 rfl F01 (Z0 (z9 0) Z5)) (z9 2)) (Z2 zr1 Z8) Z8) (Z2 (z14 (v5 (z9 0) (z9 1))) Z8)) Z8) (Z2 (y8 (z0Z (hu40 hr) (z9 0) (z9 1))) Z8))
noncomputable def z1h:G->M Out :=
 (Z3 (sAsg (clE (j7 J9 (Z1 (z0F [none,none,none] (z0S (e2 fIx (eVar 0) (λ_=>pure (.int 0)))) (gT 3 (x8 (gN 0) (x8 (gN 1) (x8 (gN 2) z2P)))) (λ_=>pure true) (eVar 2)) aNil))) (gN 1)) (Z3 (sRet (eIf (cVal (e2 fIx (eVar 0) (λ_=>pure (.int 3)))) (eTup (z5C (eVar 1) (Z1 (eNeg (λ_=>pure (.int 1))) aNil))) (eVar 1))) bNil))
noncomputable def z1l:List D->M D:=λds=>cln (runF 2 z1h ds)
theorem ok_first_room (T:DefAt K "first_room" (top 11)) (mx:Mx K mg "first_room") (F00:mg "tuple" = none):Fn P w K mg base 1 "first_room" 1 z1l :=
 dfC ["program","firsts"] z1h T mx (by decide +kernel) rfl (λ_ _ _ _ _ _ us hl=>(by obtain⟨_,rfl⟩:=ar1 hl;rfl)) λhcd hr nd =>
  (Z2 (y6 1 nd (z0z (Y3 rfl F00 (Z0 (z0E (N':=["name","size","first"]) (cap:=[none,none,none]) rfl (z2d (by first|rfl|kernel_rfl!)) (z19 (j6 (z9 0) Z4)) (λ_ _ _ _=>(z5H rfl (z17 (J8 0 (show (["name","size","first"]:List Str).Nodup by decide +kernel)) (z17 (J8 1 (show (["name","size","first"]:List Str).Nodup by decide +kernel)) (z17 (J8 2 (show (["name","size","first"]:List Str).Nodup by decide +kernel)) z4k))))) (λ_ _ _ _=>z13) (λ_ _ _ _=>(z9 2))) Z5)))) (Z2 (y8 (zn5 (J7 (j6 (z9 0) Z4)) (z1M (z9E (z9 1) (Z0 (z5i Z4) Z5))) (z9 1))) Z8))
noncomputable def z1R:G->M Out :=
 (Z3 (sRet (z6u [none,none] (iZip (e2 fIx (eVar 0) (λ_=>pure (.int 0))) (eVar 1)) (gT 2 (x8 (gN 0) (x8 (gN 1) z2P))) (λ_=>pure true) (e2 fIx (eVar 0) (λ_=>pure (.int 0))) (eVar 1))) bNil)
noncomputable def z1r:List D->M D:=λds=>cln (runF 2 z1R ds)
theorem ok_held_in (T:DefAt K "held_in" (top 14)) (mx:Mx K mg "held_in") (F0o:mg "zip" = none):Fn P w K mg base 1 "held_in" 2 z1r :=
 dfC ["program","room"] z1R T mx (by decide +kernel) rfl (λ_ _ _ _ _ _ us hl=>(by obtain⟨_,_,rfl⟩:=ar2 hl;rfl)) λhcd hr nd =>
  (Z2 (y8 (ze4 (N':=["cell","worth"]) (cap:=[none,none]) rfl (z2d (by first|rfl|kernel_rfl!)) (zA7 rfl rfl F0o (j6 (z9 0) Z4) (z9 1)) (λ_ _ _ _=>(z5H rfl (z17 (J8 0 (show (["cell","worth"]:List Str).Nodup by decide +kernel)) (z17 (J8 1 (show (["cell","worth"]:List Str).Nodup by decide +kernel)) z4k)))) (λ_ _ _ _=>z13) (λ_ _ _ _=>(j6 (z9 0) Z4)) (λ_ _ _ _=>(z9 1)))) Z8)
noncomputable def z29:G->M Out :=
 (Z3 (sIf (cVal (eFn 1 z20 (Z1 (eVar 0) aNil))) (Z3 (sRet (e2 fAdd (e2 z2R (eVar 1) (e2 fIx (eVar 0) (λ_=>pure (.int 0)))) (e2 fIx (eVar 0) (λ_=>pure (.int 1))))) bNil) bNil) (Z3 (sRet (eVar 0)) bNil))
noncomputable def z0W:List D->M D:=λds=>cln (runF 2 z29 ds)
theorem ok_worth_of (T:DefAt K "worth_of" (top 15)) (mx:Mx K mg "worth_of") (F0p:Fn P w K mg base 1 "is_tuple" 1 z20):Fn P w K mg base 2 "worth_of" 2 z0W :=
 dfC ["worth","held"] z29 T mx (by decide +kernel) rfl (λ_ _ _ _ _ _ us hl=>(by obtain⟨_,_,rfl⟩:=ar2 hl;rfl)) λhcd hr nd =>
  (Z2 (s_if (J7 (Z9 F0p (hr.mono (by decide)) rfl (Z0 (z9 0) Z5))) (Z2 (y8 (z0t (z2M (z5A hr) (z9 1) (j6 (z9 0) Z4)) (j6 (z9 0) Z4))) Z8) Z8) (Z2 (y8 (z9 0)) Z8))
noncomputable def z1F:G->M Out :=
 (Z3 (sAsg (eVar 0) (gT 3 (x8 (gN 2) (x8 (gN 3) (x8 (gN 4) z2P))))) (Z3 (sAsg (eFn 2 z0W (Z1 (eVar 4) (Z1 (eVar 1) aNil))) (gN 5)) (Z3 (sIf (λγ=>do let d <- e2 (fEq false) (eVar 3) (λ_=>pure (.str "is")) γ;asB d) (Z3 (sRet (e2 (fEqX false) (e2 z2R (eVar 1) (eVar 2)) (eVar 5))) bNil) bNil) (Z3 (sIf (λγ=>do let d <- e2 (fEq false) (eVar 3) (λ_=>pure (.str "not")) γ;asB d) (Z3 (sRet (e2 (fEqX true) (e2 z2R (eVar 1) (eVar 2)) (eVar 5))) bNil) bNil) (Z3 (sRet (e2 fLt (e2 z2R (eVar 1) (eVar 2)) (eVar 5))) bNil)))))
noncomputable def z0o:List D->M D:=λds=>cln (runF 6 z1F ds)
theorem ok_does_hold (T:DefAt K "does_hold" (top 17)) (mx:Mx K mg "does_hold") (F0b:Fn P w K mg base 2 "worth_of" 2 z0W):Fn P w K mg base 3 "does_hold" 2 z0o :=
 dfC ["test","held","name","sign","worth","other"] z1F T mx (by decide +kernel) rfl (λ_ _ _ _ _ _ us hl=>(by obtain⟨_,_,rfl⟩:=ar2 hl;rfl)) λhcd hr nd =>
  (Z2 (z5U (z9 0) (z3H rfl (Y8 (w6 2 nd) (Y8 (w6 3 nd) (Y8 (w6 4 nd) z2n))))) (Z2 (y6 5 nd (Z9 F0b (hr.mono (by decide)) rfl (Z0 (z9 4) (Z0 (z9 1) Z5)))) (Z2 (s_if (sc_c z2s (z9 3) Y7) (Z2 (y8 (se_c (z3z (hu30 hr)) (z2M (z5A hr) (z9 1) (z9 2)) (z9 5))) Z8) Z8) (Z2 (s_if (sc_c z2s (z9 3) Y7) (Z2 (y8 (se_c (z3V (hu30 hr)) (z2M (z5A hr) (z9 1) (z9 2)) (z9 5))) Z8) Z8) (Z2 (y8 (se_c zc7 (z2M (z5A hr) (z9 1) (z9 2)) (z9 5))) Z8)))))
noncomputable def z2a:G->M Out :=
 (Z3 (sRet (clE (j7 (fAll false) (Z1 (z0F [some 1,none] (z0S (e2 fIx (eVar 0) (λ_=>pure (.int 1)))) (gN 1) (λ_=>pure true) (eFn 2 z0o (Z1 (eVar 1) (Z1 (eVar 0) aNil)))) aNil)))) bNil)
noncomputable def z0D:List D->M D:=λds=>cln (runF 2 z2a ds)
theorem ok_can_come (T:DefAt K "can_come" (top 16)) (mx:Mx K mg "can_come") (F0c:mg "all" = none) (F0d:Fn P w K mg base 3 "does_hold" 2 z0o):Fn P w K mg base 4 "can_come" 2 z0D :=
 dfC ["command","held"] z2a T mx (by decide +kernel) rfl (λ_ _ _ _ _ _ us hl=>(by obtain⟨_,_,rfl⟩:=ar2 hl;rfl)) λhcd hr nd =>
  (Z2 (y8 (z0z (zi2 rfl rfl F0c (Z0 (z0E (N':=["held","test"]) (cap:=[some 1,none]) rfl (z2d (by first|rfl|kernel_rfl!)) (z19 (j6 (z9 0) Z4)) (λ_ _ _ _=>(J8 1 (show (["held","test"]:List Str).Nodup by decide +kernel))) (λ_ _ _ _=>z13) (λ_ _ _ _=>(Z9 F0d (hr.mono (by decide)) rfl (Z0 (z9 1) (Z0 (z9 0) Z5))))) Z5)))) Z8)
noncomputable def z0U:G->M Out :=
 (Z3 (sAsg (j7 z48 (Z1 (e2 fIx (e2 fIx (e2 fIx (eVar 0) (λ_=>pure (.int 1))) (eVar 1)) (λ_=>pure (.int 2))) aNil)) (gN 3)) (Z3 (sAsg (eLst aNil) (gN 4)) (Z3 (sFor (z0S (e2 fIx (eVar 0) (λ_=>pure (.int 0)))) (gT 3 (x8 (gN 5) (x8 (gN 6) (x8 (gN 7) z2P)))) (Z3 (z0K (eM1 w8 (eVar 4) (eIf (λγ=>do let d <- e2 (fInD false) (eVar 5) (eVar 3) γ;asB d) (e2 fMod (eFn 2 z0W (Z1 (e2 z2R (eVar 3) (eVar 5)) (Z1 (eVar 2) aNil))) (eVar 6)) (e2 z2R (eVar 2) (eVar 5))))) bNil)) (Z3 (sRet (eIf (cVal (e2 fIx (eVar 0) (λ_=>pure (.int 3)))) (eTup (z5C (eVar 4) (Z1 (eVar 1) aNil))) (j7 J9 (Z1 (eVar 4) aNil)))) bNil))))
noncomputable def z0V:List D->M D:=λds=>cln (runF 8 z0U ds)
theorem ok_room_behind (T:DefAt K "room_behind" (top 13)) (mx:Mx K mg "room_behind") (F0q:mg "dict" = none) (F00:mg "tuple" = none) (F0b:Fn P w K mg base 2 "worth_of" 2 z0W):Fn P w K mg base 3 "room_behind" 3 z0V :=
 dfC ["program","number","held","puts","told","name","size","first"] z0U T mx (by decide +kernel) rfl (λ_ _ _ _ _ _ us hl=>(by obtain⟨_,_,_,rfl⟩:=ar3 hl;rfl)) λhcd hr nd =>
  (Z2 (y6 3 nd (zd5 rfl rfl F0q (Z0 (j6 (j6 (j6 (z9 0) Z4) (z9 1)) Z4) Z5))) (Z2 (y6 4 nd (z0b Z5)) (Z2 (z1y K12 rfl (z19 (j6 (z9 0) Z4)) (z3H rfl (Y8 (w6 5 nd) (Y8 (w6 6 nd) (Y8 (w6 7 nd) z2n)))) (Z2 (z14 (v5 (z9 4) (zn5 (sc_c (zA4 (z5A hr)) (z9 5) (z9 3)) (z2y (Z9 F0b (hr.mono (by decide)) rfl (Z0 (z2M (z5A hr) (z9 3) (z9 5)) (Z0 (z9 2) Z5))) (z9 6)) (z2M (z5A hr) (z9 2) (z9 5))))) Z8)) (Z2 (y8 (zn5 (J7 (j6 (z9 0) Z4)) (z1M (z9E (z9 4) (Z0 (z9 1) Z5))) (Y3 rfl F00 (Z0 (z9 4) Z5)))) Z8))))
noncomputable def z0J:G->M Out :=
 (Z3 (sAsg (eFn 2 z1r (Z1 (eVar 0) (Z1 (eVar 1) aNil))) (gN 2)) (Z3 (sAsg (eLst aNil) (gN 3)) (Z3 (sFor (ze6 (e2 fIx (eVar 0) (λ_=>pure (.int 1)))) (gT 2 (x8 (gN 4) (x8 (gN 5) z2P))) (Z3 (sIf (cVal (eFn 2 z0D (Z1 (eVar 5) (Z1 (eVar 2) aNil)))) (Z3 (z0K (eM1 w8 (eVar 3) (eFn 3 z0V (Z1 (eVar 0) (Z1 (eVar 4) (Z1 (eVar 2) aNil)))))) bNil) bNil) bNil)) (Z3 (sRet (eVar 3)) bNil))))
noncomputable def z1f:List D->M D:=λds=>cln (runF 6 z0J ds)
theorem ok_rooms_next (T:DefAt K "rooms_next" (top 12)) (mx:Mx K mg "rooms_next") (F0r:mg "enumerate" = none) (F0e:Fn P w K mg base 4 "can_come" 2 z0D) (F0f:Fn P w K mg base 1 "held_in" 2 z1r) (F0s:Fn P w K mg base 3 "room_behind" 3 z0V):Fn P w K mg base 5 "rooms_next" 2 z1f :=
 dfC ["program","room","held","told","number","command"] z0J T mx (by decide +kernel) rfl (λ_ _ _ _ _ _ us hl=>(by obtain⟨_,_,rfl⟩:=ar2 hl;rfl)) λhcd hr nd =>
  (Z2 (y6 2 nd (Z9 F0f (hr.mono (by decide)) rfl (Z0 (z9 0) (Z0 (z9 1) Z5)))) (Z2 (y6 3 nd (z0b Z5)) (Z2 (z1y K12 rfl (zk4 rfl rfl F0r (j6 (z9 0) Z4)) (z3H rfl (Y8 (w6 4 nd) (Y8 (w6 5 nd) z2n))) (Z2 (s_if (J7 (Z9 F0e (hr.mono (by decide)) rfl (Z0 (z9 5) (Z0 (z9 2) Z5)))) (Z2 (z14 (v5 (z9 3) (Z9 F0s (hr.mono (by decide)) rfl (Z0 (z9 0) (Z0 (z9 4) (Z0 (z9 2) Z5)))))) Z8) Z8) Z8)) (Z2 (y8 (z9 3)) Z8))))
noncomputable def z3s:G->M Out :=
 (Z3 (sAsg (eFn 2 z1r (Z1 (eVar 0) (Z1 (eVar 2) aNil))) (gN 3)) (Z3 (sIf (λγ=>do let d <- e2 (fEq false) (j7 fLen (Z1 (eVar 1) aNil)) (λ_=>pure (.int 3)) γ;asB d) (Z3 (sRet (eFn 2 z0o (Z1 (eVar 1) (Z1 (eVar 3) aNil)))) bNil) bNil) (Z3 (sAsg (eVar 1) (gT 2 (x8 (gN 4) (x8 (gN 5) z2P)))) (Z3 (sAsg (eM1 z01 (z0F [none] (z0S (e2 fIx (eVar 0) (λ_=>pure (.int 1)))) (gN 0) (λ_=>pure true) (e2 fIx (eVar 0) (λ_=>pure (.int 0)))) (eVar 5)) (gN 6)) (Z3 (sIf (λγ=>do let d <- e2 (fEq false) (eVar 4) (λ_=>pure (.str "can")) γ;asB d) (Z3 (sRet (eFn 2 z0D (Z1 (e2 fIx (e2 fIx (eVar 0) (λ_=>pure (.int 1))) (eVar 6)) (Z1 (eVar 3) aNil)))) bNil) bNil) (Z3 (sRet (e2 (fEqX false) (e2 fIx (eVar 2) (eNeg (λ_=>pure (.int 1)))) (eVar 6))) bNil))))))
noncomputable def z4D:List D->M D:=λds=>cln (runF 7 z3s ds)
theorem ok_is_so (T:DefAt K "is_so" (top 20)) (mx:Mx K mg "is_so") (F01:mg "len" = none) (F0e:Fn P w K mg base 4 "can_come" 2 z0D) (F0d:Fn P w K mg base 3 "does_hold" 2 z0o) (F0f:Fn P w K mg base 1 "held_in" 2 z1r):Fn P w K mg base 5 "is_so" 3 z4D :=
 dfC ["program","thing","room","held","word","name","number"] z3s T mx (by decide +kernel) rfl (λ_ _ _ _ _ _ us hl=>(by obtain⟨_,_,_,rfl⟩:=ar3 hl;rfl)) λhcd hr nd =>
  (Z2 (y6 3 nd (Z9 F0f (hr.mono (by decide)) rfl (Z0 (z9 0) (Z0 (z9 2) Z5)))) (Z2 (s_if (sc_c z2s (z07 rfl F01 (Z0 (z9 1) Z5)) Z4) (Z2 (y8 (Z9 F0d (hr.mono (by decide)) rfl (Z0 (z9 1) (Z0 (z9 3) Z5)))) Z8) Z8) (Z2 (z5U (z9 1) (z3H rfl (Y8 (w6 4 nd) (Y8 (w6 5 nd) z2n)))) (Z2 (y6 6 nd (z0Z (hu40 hr) (z0E (N':=["command"]) (cap:=[none]) rfl (z2d (by first|rfl|kernel_rfl!)) (z19 (j6 (z9 0) Z4)) (λ_ _ _ _=>(J8 0 (show (["command"]:List Str).Nodup by decide +kernel))) (λ_ _ _ _=>z13) (λ_ _ _ _=>(j6 (z9 0) Z4))) (z9 5))) (Z2 (s_if (sc_c z2s (z9 4) Y7) (Z2 (y8 (Z9 F0e (hr.mono (by decide)) rfl (Z0 (j6 (j6 (z9 0) Z4) (z9 6)) (Z0 (z9 3) Z5)))) Z8) Z8) (Z2 (y8 (se_c (z3z (hu30 hr)) (j6 (z9 2) (z5i Z4)) (z9 6))) Z8))))))
noncomputable def z3e:G->M Out :=
 (Z3 (sRet (clE (j7 (fAll false) (Z1 (z0F [some 0,some 2,none] (z0S (eVar 1)) (gN 2) (λ_=>pure true) (eFn 3 z4D (Z1 (eVar 0) (Z1 (eVar 2) (Z1 (eVar 1) aNil))))) aNil)))) bNil)
noncomputable def z35:List D->M D:=λds=>cln (runF 3 z3e ds)
theorem ok_is_met (T:DefAt K "is_met" (top 19)) (mx:Mx K mg "is_met") (F0c:mg "all" = none) (F0t:Fn P w K mg base 5 "is_so" 3 z4D):Fn P w K mg base 6 "is_met" 3 z35 :=
 dfC ["program","row","room"] z3e T mx (by decide +kernel) rfl (λ_ _ _ _ _ _ us hl=>(by obtain⟨_,_,_,rfl⟩:=ar3 hl;rfl)) λhcd hr nd =>
  (Z2 (y8 (z0z (zi2 rfl rfl F0c (Z0 (z0E (N':=["program","room","thing"]) (cap:=[some 0,some 2,none]) rfl (z2d (by first|rfl|kernel_rfl!)) (z19 (z9 1)) (λ_ _ _ _=>(J8 2 (show (["program","room","thing"]:List Str).Nodup by decide +kernel))) (λ_ _ _ _=>z13) (λ_ _ _ _=>(Z9 F0t (hr.mono (by decide)) rfl (Z0 (z9 0) (Z0 (z9 2) (Z0 (z9 1) Z5)))))) Z5)))) Z8)
noncomputable def z2b:G->M Out :=
 (Z3 (sRet (clE (j7 J9 (Z1 (j7 z1q (Z1 (z0F [some 0,some 1,none,none] (z0S (e2 fIx (eVar 0) (λ_=>pure (.int 2)))) (gT 2 (x8 (gN 2) (x8 (gN 3) z2P))) (cVal (clE (j7 (fAll true) (Z1 (z0F [some 0,some 1,none] (z0S (eVar 3)) (gN 2) (λ_=>pure true) (eFn 3 z35 (Z1 (eVar 0) (Z1 (eVar 2) (Z1 (eVar 1) aNil))))) aNil)))) (eVar 2)) aNil)) aNil)))) bNil)
noncomputable def z24:List D->M D:=λds=>cln (runF 2 z2b ds)
theorem ok_names_at (T:DefAt K "names_at" (top 18)) (mx:Mx K mg "names_at") (F0u:mg "any" = none) (F06:mg "sorted" = none) (F00:mg "tuple" = none) (F0v:Fn P w K mg base 6 "is_met" 3 z35):Fn P w K mg base 7 "names_at" 2 z24 :=
 dfC ["program","room"] z2b T mx (by decide +kernel) rfl (λ_ _ _ _ _ _ us hl=>(by obtain⟨_,_,rfl⟩:=ar2 hl;rfl)) λhcd hr nd =>
  (Z2 (y8 (z0z (Y3 rfl F00 (Z0 (z3q rfl rfl F06 (Z0 (z0E (N':=["program","room","name","rows"]) (cap:=[some 0,some 1,none,none]) rfl (z2d (by first|rfl|kernel_rfl!)) (z19 (j6 (z9 0) Z4)) (λ_ _ _ _=>(z5H rfl (z17 (J8 2 (show (["program","room","name","rows"]:List Str).Nodup by decide +kernel)) (z17 (J8 3 (show (["program","room","name","rows"]:List Str).Nodup by decide +kernel)) z4k)))) (λ_ _ _ _=>(z3L (J7 (z0z (zJ9 rfl rfl F0u (Z0 (z0E (N':=["program","room","row"]) (cap:=[some 0,some 1,none]) rfl (z2d (by first|rfl|kernel_rfl!)) (z19 (z9 3)) (λ_ _ _ _=>(J8 2 (show (["program","room","row"]:List Str).Nodup by decide +kernel))) (λ_ _ _ _=>z13) (λ_ _ _ _=>(Z9 F0v (hr.mono (by decide)) rfl (Z0 (z9 0) (Z0 (z9 2) (Z0 (z9 1) Z5)))))) Z5)))))) (λ_ _ _ _=>(z9 2))) Z5)) Z5)))) Z8)
noncomputable def z7o:G->M Out :=
 (Z3 (sAsg (eLst aNil) (gN 2)) (Z3 (z0K (eFn 3 z11 (Z1 (eVar 2) (Z1 (eFn 1 z1l (Z1 (eVar 0) aNil)) (Z1 (eVar 1) aNil))))) (Z3 (sAsg (eLst aNil) (gN 3)) (Z3 (sAsg (eLst aNil) (gN 4)) (Z3 (z2i (λγ=>do let d <- e2 fLt (j7 fLen (Z1 (eVar 3) aNil)) (j7 fLen (Z1 (eVar 2) aNil)) γ;asB d) (Z3 (sAsg (e2 fIx (eVar 2) (j7 fLen (Z1 (eVar 3) aNil))) (gN 5)) (Z3 (sAsg (eLst aNil) (gN 6)) (Z3 (sFor (z1b (eFn 2 z1f (Z1 (eVar 0) (Z1 (eVar 5) aNil)))) (gN 7) (Z3 (z0K (eM1 w8 (eVar 6) (eFn 3 z11 (Z1 (eVar 2) (Z1 (eVar 7) (Z1 (eVar 1) aNil)))))) bNil)) (Z3 (z0K (eM1 w8 (eVar 3) (eFn 1 z2F (Z1 (eVar 6) aNil)))) (Z3 (z0K (eM1 w8 (eVar 4) (eFn 2 z24 (Z1 (eVar 0) (Z1 (eVar 5) aNil))))) bNil))))) 1000000) (Z3 (sRet (eTup (Z1 (eTup (Z1 (j7 J9 (Z1 (eVar 3) aNil)) (Z1 (j7 J9 (Z1 (eVar 4) aNil)) aNil))) (Z1 (j7 J9 (Z1 (eVar 2) aNil)) aNil)))) bNil))))))
noncomputable def z31:List D->M D:=λds=>cln (runF 8 z7o ds)
theorem sc_lay:FnScope ["program","most","rooms","steps","marks","room","leads","other"] ["program","most"] (j8 (top 9)):=⟨rfl,rfl,rfl,by decide +kernel,rfl,by decide +kernel,by decide +kernel⟩
theorem ok_lay {P:K08}{w:World}{K:K2}{mg:Str->Option Value}{base:Heap}{dk:Addr}(T:DefK K "lay" (top 9) dk) (mx:∀v,K25 K K1q "lay" = some (some v)->mg "lay" = some v) (F01:mg "len" = none) (F00:mg "tuple" = none) (F0w:Fn P w K mg base 1 "first_room" 1 z1l) (F0x:Fn P w K mg base 7 "names_at" 2 z24) (F0l:Fn P w K mg base 1 "number_of" 3 z11) (F0y:Fn P w K mg base 5 "rooms_next" 2 z1f) (F0z:Fn P w K mg base 1 "set_of" 1 z2F):FnR P w K mg base 8 "lay" (top 9) dk ["program","most"] z31 :=
 FnR.cln <| zJ4 T mx sc_lay λf cdv A outer s H E hcd hr=>(show SB (cxOf CX0 P w K mg base ["program","most","rooms","steps","marks","room","leads","other"] "lay" (j8 (top 9)) f cdv A outer s H E).nox EX0 (v7 (top 9)) z7o from
  have nd:(["program","most","rooms","steps","marks","room","leads","other"]:List Str).Nodup:=sc_lay.nd
  (Z2 (y6 2 nd (z0b Z5)) (Z2 (z14 (Z9 F0l (hr.mono (by decide)) rfl (Z0 (z9 2) (Z0 (Z9 F0w (hr.mono (by decide)) rfl (Z0 (z9 0) Z5)) (Z0 (z9 1) Z5))))) (Z2 (y6 3 nd (z0b Z5)) (Z2 (y6 4 nd (z0b Z5)) (Z2 (zp8 1000000 K12 (sc_c zc7 (z07 rfl F01 (Z0 (z9 3) Z5)) (z07 rfl F01 (Z0 (z9 2) Z5))) (Z2 (y6 5 nd (j6 (z9 2) (z07 rfl F01 (Z0 (z9 3) Z5)))) (Z2 (y6 6 nd (z0b Z5)) (Z2 (z1y K12 rfl (z1P (Z9 F0y (hr.mono (by decide)) rfl (Z0 (z9 0) (Z0 (z9 5) Z5)))) (w6 7 nd) (Z2 (z14 (v5 (z9 6) (Z9 F0l (hr.mono (by decide)) rfl (Z0 (z9 2) (Z0 (z9 7) (Z0 (z9 1) Z5)))))) Z8)) (Z2 (z14 (v5 (z9 3) (Z9 F0z (hr.mono (by decide)) rfl (Z0 (z9 6) Z5)))) (Z2 (z14 (v5 (z9 4) (Z9 F0x (hr.mono (by decide)) rfl (Z0 (z9 0) (Z0 (z9 5) Z5))))) Z8)))))) (Z2 (y8 (z1M (Z0 (z1M (Z0 (Y3 rfl F00 (Z0 (z9 3) Z5)) (Z0 (Y3 rfl F00 (Z0 (z9 4) Z5)) Z5))) (Z0 (Y3 rfl F00 (Z0 (z9 2) Z5)) Z5)))) Z8)))))))
theorem pt_lay__k {P:K08}{w:World}{K:K2}{mg:Str->Option Value}{base:Heap}{dk:Addr}{v_most:V}{u_most:Value}(D_most:KD K dk "most" c_MOST v_most u_most) (F:FnR P w K mg base 8 "lay" (top 9) dk ["program","most"] z31):FnP P w K mg base 8 "lay" 1 [] [] [c_MOST] z31 :=
 F.pat 1 [] .nil (.cons D_most.rel .nil) z4i (zc6 D_most) (by decide) rfl λdoc pm an cdv ct s us ws X h1 h2=>match us,h1,ws,h2 with|[_],_,[],_=>λM A E Q q=>z7E X D_most.ns rfl λomost hlmost=>(by dsimp only[Sem.bind];rw[hlmost];exact K5 q)
theorem pt_lay__kmost {P:K08}{w:World}{K:K2}{mg:Str->Option Value}{base:Heap}{dk:Addr}(F:FnR P w K mg base 8 "lay" (top 9) dk ["program","most"] z31):FnP P w K mg base 8 "lay" 1 ["most"] [] [] z31 :=
 F.pat 1 ["most"] .nil .nil z4i z4i (by decide) rfl λdoc pm an cdv ct s us ws X h1 h2=>match us,h1,ws,h2 with|[_],_,[_],_=>.of_eq rfl
noncomputable def z1B:G->M Out :=
 (Z3 (z4Y 1 [none] (z1b (eVar 0)) (gN 0) (λγ=>do let d <- e2 fGe (eVar 0) (e2 fPow (λ_=>pure (.int 10)) (λ_=>pure (.int 18))) γ;asB d) (eVar 0)) (Z3 (sRet (eLst (Z1 (eVar 1) (Z1 (z0F [none] (z1b (eVar 0)) (gN 0) (λγ=>do let d <- e2 fLt (eVar 0) (e2 fPow (λ_=>pure (.int 10)) (λ_=>pure (.int 18))) γ;asB d) (eVar 0)) (Z1 (λ_=>pure (.int 5)) (Z1 (λ_=>pure (.int 0)) aNil)))))) bNil))
noncomputable def z1z:List D->M D:=runF 2 z1B
theorem ok__law_pool (T:DefAt K "_law_pool" (top 22)) (mx:Mx K mg "_law_pool"):Fn P w K mg base 1 "_law_pool" 1 z1z :=
 dfN ["_law_script","_law_great"] z1B T mx (by decide +kernel) rfl (λ_ _ _ _ _ _ us hl=>(by obtain⟨_,rfl⟩:=ar1 hl;rfl)) λhcd hr nd =>
  (Z2 (zg7 1 (N':=["_law_cell"]) (cap:=[none]) rfl (z2d (by first|rfl|kernel_rfl!)) (z1P (z9 0)) (λ_ _ _ _=>(J8 0 (show (["_law_cell"]:List Str).Nodup by decide +kernel))) (λ_ _ _ _=>(z3L (sc_c zd8 (z9 0) (z7R Z4 Z4)))) (λ_ _ _ _=>(z9 0)) nd) (Z2 (y8 (z0b (Z0 (z9 1) (Z0 (z0E (N':=["_law_cell"]) (cap:=[none]) rfl (z2d (by first|rfl|kernel_rfl!)) (z1P (z9 0)) (λ_ _ _ _=>(J8 0 (show (["_law_cell"]:List Str).Nodup by decide +kernel))) (λ_ _ _ _=>(z3L (sc_c zc7 (z9 0) (z7R Z4 Z4)))) (λ_ _ _ _=>(z9 0))) (Z0 Z4 (Z0 Z4 Z5)))))) Z8))
noncomputable def z15:G->M Out :=
 (Z3 (sIf (λγ=>do let d <- e2 fGt (j7 fLen (Z1 (e2 fIx (eVar 0) (λ_=>pure (.int 0))) aNil)) (λ_=>pure (.int 0)) γ;asB d) (Z3 (sAsg (e2 fIx (e2 fIx (eVar 0) (λ_=>pure (.int 0))) (λ_=>pure (.int 0))) (gN 2)) (Z3 (sAsg (e2 fDiv (eVar 2) (eVar 1)) (gIx (e2 fIx (eVar 0) (λ_=>pure (.int 0))) (λ_=>pure (.int 0)))) (Z3 (sIf (λγ=>do let d <- e2 (fEq false) (e2 fDiv (eVar 2) (eVar 1)) (λ_=>pure (.int 0)) γ;asB d) (Z3 (z0K (eM1 z3W (e2 fIx (eVar 0) (λ_=>pure (.int 0))) (λ_=>pure (.int 0)))) bNil) bNil) (Z3 (sRet (e2 fMod (eVar 2) (eVar 1))) bNil)))) bNil) (Z3 (sAsg (e2 fAdd (e2 fIx (eVar 0) (λ_=>pure (.int 3))) (λ_=>pure (.int 1))) (gIx (eVar 0) (λ_=>pure (.int 3)))) (Z3 (sAsg (λ_=>pure (.int 0)) (gN 2)) (Z3 (sIf (λγ=>do let d <- e2 fGt (j7 fLen (Z1 (e2 fIx (eVar 0) (λ_=>pure (.int 1))) aNil)) (λ_=>pure (.int 0)) γ;asB d) (Z3 (sAsg (e2 fIx (e2 fIx (eVar 0) (λ_=>pure (.int 1))) (e2 fMod (e2 fIx (eVar 0) (λ_=>pure (.int 3))) (j7 fLen (Z1 (e2 fIx (eVar 0) (λ_=>pure (.int 1))) aNil)))) (gN 2)) bNil) bNil) (Z3 (sAsg (e2 z4w (e2 fMod (eVar 2) (λ_=>pure (.int 2147483629))) (e2 fAdd (e2 z4w (e2 fIx (eVar 0) (λ_=>pure (.int 3))) (e2 fIx (eVar 0) (λ_=>pure (.int 3)))) (λ_=>pure (.int 1)))) (gN 2)) (Z3 (sAsg (e2 fMod (e2 fAdd (e2 fAdd (e2 z4w (e2 fIx (eVar 0) (λ_=>pure (.int 2))) (λ_=>pure (.int 48271))) (eVar 2)) (e2 z4w (λ_=>pure (.int 97)) (e2 fIx (eVar 0) (λ_=>pure (.int 3))))) (λ_=>pure (.int 2147483647))) (gIx (eVar 0) (λ_=>pure (.int 2)))) (Z3 (sRet (e2 fMod (e2 fDiv (e2 fMod (e2 fPow (e2 fIx (eVar 0) (λ_=>pure (.int 2))) (λ_=>pure (.int 5))) (λ_=>pure (.int 2147483629))) (λ_=>pure (.int 64))) (eVar 1))) bNil)))))))
noncomputable def Z7:List D->M D:=runF 3 z15
theorem ok__law_draw (T:DefAt K "_law_draw" (top 23)) (mx:Mx K mg "_law_draw") (F01:mg "len" = none):Fn P w K mg base 1 "_law_draw" 2 Z7 :=
 dfN ["_law_pool_here","_law_many","_law_cell"] z15 T mx (by decide +kernel) rfl (λ_ _ _ _ _ _ us hl=>(by obtain⟨_,_,rfl⟩:=ar2 hl;rfl)) λhcd hr nd =>
  (Z2 (s_if (sc_c z9A (z07 rfl F01 (Z0 (j6 (z9 0) Z4) Z5)) Z4) (Z2 (y6 2 nd (j6 (j6 (z9 0) Z4) Z4)) (Z2 (z5U (z5b (z9 2) (z9 1)) (z8V (j6 (z9 0) Z4) Z4)) (Z2 (s_if (sc_c z2s (z5b (z9 2) (z9 1)) Z4) (Z2 (z14 (zc4 (j6 (z9 0) Z4) Z4)) Z8) Z8) (Z2 (y8 (z2y (z9 2) (z9 1))) Z8)))) Z8) (Z2 (z5U (z0t (j6 (z9 0) Z4) Z4) (z8V (z9 0) Z4)) (Z2 (y6 2 nd Z4) (Z2 (s_if (sc_c z9A (z07 rfl F01 (Z0 (j6 (z9 0) Z4) Z5)) Z4) (Z2 (y6 2 nd (j6 (j6 (z9 0) Z4) (z2y (j6 (z9 0) Z4) (z07 rfl F01 (Z0 (j6 (z9 0) Z4) Z5))))) Z8) Z8) (Z2 (y6 2 nd (z4x (z2y (z9 2) Z4) (z0t (z4x (j6 (z9 0) Z4) (j6 (z9 0) Z4)) Z4))) (Z2 (z5U (z2y (z0t (z0t (z4x (j6 (z9 0) Z4) Z4) (z9 2)) (z4x Z4 (j6 (z9 0) Z4))) Z4) (z8V (z9 0) Z4)) (Z2 (y8 (z2y (z5b (z2y (z7R (j6 (z9 0) Z4) Z4) Z4) Z4) (z9 1))) Z8)))))))
noncomputable def z18:G->M Out :=
 (Z3 (sAsg (λ_=>pure (.str "abcdefghijklmnopqrstuvwxyz")) (gN 3)) (Z3 (sAsg (eVar 1) (gN 4)) (Z3 (sFor (z0q (eFn 2 Z7 (Z1 (eVar 0) (Z1 (λ_=>pure (.int 4)) aNil)))) (gN 5) (Z3 (sAsg (e2 fAdd (eVar 4) (e2 fIx (eVar 3) (eFn 2 Z7 (Z1 (eVar 0) (Z1 (λ_=>pure (.int 26)) aNil))))) (gN 4)) bNil)) (Z3 (sAsg (eFn 2 Z7 (Z1 (eVar 0) (Z1 (λ_=>pure (.int 26)) aNil))) (gN 6)) (Z3 (sAsg (eLst (Z1 (λ_=>pure (.str "yes")) (Z1 (λ_=>pure (.str "no")) (Z1 (λ_=>pure (.str "not")) (Z1 (λ_=>pure (.str "and")) (Z1 (λ_=>pure (.str "or")) (Z1 (λ_=>pure (.str "step")) (Z1 (λ_=>pure (.str "some")) (Z1 (λ_=>pure (.str "all")) (Z1 (λ_=>pure (.str "next")) (Z1 (λ_=>pure (.str "once")) (Z1 (λ_=>pure (.str "ever")) (Z1 (λ_=>pure (.str "until")) (Z1 (λ_=>pure (.str "unless")) aNil)))))))))))))) (gN 7)) (Z3 (sFor (z0q (λ_=>pure (.int 26))) (gN 5) (Z3 (sAsg (e2 fAdd (eVar 4) (e2 fIx (eVar 3) (e2 fMod (e2 fAdd (eVar 6) (eVar 5)) (λ_=>pure (.int 26))))) (gN 8)) (Z3 (sIf (cAnd (λγ=>do let d <- e2 (fIn true) (eVar 8) (eVar 7) γ;asB d) (λγ=>do let d <- e2 (fIn true) (eVar 8) (eVar 2) γ;asB d)) (Z3 (sRet (eVar 8)) bNil) bNil) bNil))) (Z3 (sRet (e2 fAdd (eVar 4) (λ_=>pure (.str "x")))) bNil)))))))
noncomputable def z1C:List D->M D:=λds=>cln (runF 9 z18 ds)
theorem ok__law_name (T:DefAt K "_law_name" (top 24)) (mx:Mx K mg "_law_name") (F03:mg "range" = none) (F02:Fn P w K mg base 1 "_law_draw" 2 Z7):Fn P w K mg base 2 "_law_name" 3 z1C :=
 dfC ["_law_pool_here","_law_start","_law_taken","_law_letters","_law_name_here","_law_k","_law_last","_law_words","_law_found"] z18 T mx (by decide +kernel) rfl (λ_ _ _ _ _ _ us hl=>(by obtain⟨_,_,_,rfl⟩:=ar3 hl;rfl)) λhcd hr nd =>
  (Z2 (y6 3 nd Y7) (Z2 (y6 4 nd (z9 1)) (Z2 (z1y K12 rfl (z0m rfl F03 (Z9 F02 (hr.mono (by decide)) rfl (Z0 (z9 0) (Z0 Z4 Z5)))) (w6 5 nd) (Z2 (y6 4 nd (z0t (z9 4) (j6 (z9 3) (Z9 F02 (hr.mono (by decide)) rfl (Z0 (z9 0) (Z0 Z4 Z5)))))) Z8)) (Z2 (y6 6 nd (Z9 F02 (hr.mono (by decide)) rfl (Z0 (z9 0) (Z0 Z4 Z5)))) (Z2 (y6 7 nd (z0b (Z0 Y7 (Z0 Y7 (Z0 Y7 (Z0 Y7 (Z0 Y7 (Z0 Y7 (Z0 Y7 (Z0 Y7 (Z0 Y7 (Z0 Y7 (Z0 Y7 (Z0 Y7 (Z0 Y7 Z5))))))))))))))) (Z2 (z1y K12 rfl (z0m rfl F03 Z4) (w6 5 nd) (Z2 (y6 8 nd (z0t (z9 4) (j6 (z9 3) (z2y (z0t (z9 6) (z9 5)) Z4)))) (Z2 (s_if (SW.sc (z3y (sc_c z39 (z9 8) (z9 7)) (z2q (sc_c z39 (z9 8) (z9 2))))) (Z2 (y8 (z9 8)) Z8) Z8) Z8))) (Z2 (y8 (z0t (z9 4) Y7)) Z8)))))))
noncomputable def z1e:G->M Out :=
 (Z3 (sAsg (λ_=>pure (.str "abcdefghijklmnopqrstuvwxyz")) (gN 2)) (Z3 (sAsg (λ_=>pure (.str "")) (gN 3)) (Z3 (sFor (z0q (clE (e2 fIx (eLst (Z1 (λ_=>pure (.int 0)) (Z1 (λ_=>pure (.int 0)) (Z1 (λ_=>pure (.int 1)) (Z1 (λ_=>pure (.int 4)) aNil))))) (eFn 2 Z7 (Z1 (eVar 0) (Z1 (λ_=>pure (.int 4)) aNil)))))) (gN 4) (Z3 (sAsg (e2 fAdd (eVar 3) (e2 fIx (eVar 2) (eFn 2 Z7 (Z1 (eVar 0) (Z1 (λ_=>pure (.int 26)) aNil))))) (gN 3)) bNil)) (Z3 (sAsg (eLst aNil) (gN 5)) (Z3 (sFor (z0q (eVar 1)) (gN 4) (Z3 (z0K (eM1 w8 (eVar 5) (eFn 3 z1C (Z1 (eVar 0) (Z1 (eVar 3) (Z1 (eVar 5) aNil)))))) bNil)) (Z3 (sRet (eVar 5)) bNil))))))
noncomputable def z0f:List D->M D:=λds=>cln (runF 6 z1e ds)
theorem ok__law_names (T:DefAt K "_law_names" (top 25)) (mx:Mx K mg "_law_names") (F03:mg "range" = none) (F02:Fn P w K mg base 1 "_law_draw" 2 Z7) (F0A:Fn P w K mg base 2 "_law_name" 3 z1C):Fn P w K mg base 3 "_law_names" 2 z0f :=
 dfC ["_law_pool_here","_law_many","_law_letters","_law_start","_law_k","_law_names_here"] z1e T mx (by decide +kernel) rfl (λ_ _ _ _ _ _ us hl=>(by obtain⟨_,_,rfl⟩:=ar2 hl;rfl)) λhcd hr nd =>
  (Z2 (y6 2 nd Y7) (Z2 (y6 3 nd Y7) (Z2 (z1y K12 rfl (z0m rfl F03 (z0z (j6 (z0b (Z0 Z4 (Z0 Z4 (Z0 Z4 (Z0 Z4 Z5))))) (Z9 F02 (hr.mono (by decide)) rfl (Z0 (z9 0) (Z0 Z4 Z5)))))) (w6 4 nd) (Z2 (y6 3 nd (z0t (z9 3) (j6 (z9 2) (Z9 F02 (hr.mono (by decide)) rfl (Z0 (z9 0) (Z0 Z4 Z5)))))) Z8)) (Z2 (y6 5 nd (z0b Z5)) (Z2 (z1y K12 rfl (z0m rfl F03 (z9 1)) (w6 4 nd) (Z2 (z14 (v5 (z9 5) (Z9 F0A (hr.mono (by decide)) rfl (Z0 (z9 0) (Z0 (z9 3) (Z0 (z9 5) Z5)))))) Z8)) (Z2 (y8 (z9 5)) Z8))))))
noncomputable def Y6:G->M Out :=
 (Z3 (sRet (eAnd (eIsi "int" (eVar 0)) (eAnd (eNot (eIsi "bool" (eVar 0))) (e3 fLe fLt (eVar 1) (eVar 0) (eVar 2))))) bNil)
noncomputable def z02:List D->M D:=λds=>cln (runF 3 Y6 ds)
theorem ok__law_number (T:DefAt K "_law_number" (top 26)) (mx:Mx K mg "_law_number") (F08:mg "bool" = none) (F05:mg "int" = none) (F04:mg "isinstance" = none):Fn P w K mg base 1 "_law_number" 3 z02 :=
 dfC ["_law_thing","_law_low","_law_high"] Y6 T mx (by decide +kernel) rfl (λ_ _ _ _ _ _ us hl=>(by obtain⟨_,_,_,rfl⟩:=ar3 hl;rfl)) λhcd hr nd =>
  (Z2 (y8 (z1T (z1k rfl F04 rfl F05 (by decide +kernel) (by decide) (z9 0)) (z1T (z8a (z1k rfl F04 rfl F08 (by decide +kernel) (by decide) (z9 0))) (z3Y (zB0 zu1 zc7 (z9 1) (z9 0) (z9 2)))))) Z8)
noncomputable def z0L:G->M Out :=
 (Z3 (sRet (eAnd (eIsi "tuple" (eVar 0)) (e3 fLe fLe (eVar 1) (j7 fLen (Z1 (eVar 0) aNil)) (eVar 2)))) bNil)
noncomputable def k6:List D->M D:=λds=>cln (runF 3 z0L ds)
theorem ok__law_tuple (T:DefAt K "_law_tuple" (top 27)) (mx:Mx K mg "_law_tuple") (F04:mg "isinstance" = none) (F01:mg "len" = none) (F00:mg "tuple" = none):Fn P w K mg base 1 "_law_tuple" 3 k6 :=
 dfC ["_law_thing","_law_least","_law_top"] z0L T mx (by decide +kernel) rfl (λ_ _ _ _ _ _ us hl=>(by obtain⟨_,_,_,rfl⟩:=ar3 hl;rfl)) λhcd hr nd =>
  (Z2 (y8 (z1T (z1k rfl F04 rfl F00 (by decide +kernel) (by decide) (z9 0)) (z3Y (zB0 zu1 zu1 (z9 1) (z07 rfl F01 (Z0 (z9 0) Z5)) (z9 2))))) Z8)
noncomputable def z0y:G->M Out :=
 (Z3 (sIf (cNot (cVal (eFn 3 k6 (Z1 (eVar 0) (Z1 (λ_=>pure (.int 0)) (Z1 (eVar 1) aNil)))))) (Z3 (sRet (λ_=>pure (.bl false))) bNil) bNil) (Z3 (sFor (z0q (j7 fLen (Z1 (eVar 0) aNil))) (gN 2) (Z3 (sIf (cOr (cNot (cVal (eFn 3 z02 (Z1 (e2 fIx (eVar 0) (eVar 2)) (Z1 (λ_=>pure (.int 0)) (Z1 (eVar 1) aNil)))))) (cAnd (λγ=>do let d <- e2 fGt (eVar 2) (λ_=>pure (.int 0)) γ;asB d) (λγ=>do let d <- e2 fGe (e2 fIx (eVar 0) (e2 fSub (eVar 2) (λ_=>pure (.int 1)))) (e2 fIx (eVar 0) (eVar 2)) γ;asB d))) (Z3 (sRet (λ_=>pure (.bl false))) bNil) bNil) bNil)) (Z3 (sRet (λ_=>pure (.bl true))) bNil)))
noncomputable def z0u:List D->M D:=λds=>cln (runF 3 z0y ds)
theorem ok__law_good_set (T:DefAt K "_law_good_set" (top 28)) (mx:Mx K mg "_law_good_set") (F01:mg "len" = none) (F03:mg "range" = none) (F0g:Fn P w K mg base 1 "_law_number" 3 z02) (F07:Fn P w K mg base 1 "_law_tuple" 3 k6):Fn P w K mg base 2 "_law_good_set" 2 z0u :=
 dfC ["_law_thing","_law_many","_law_k"] z0y T mx (by decide +kernel) rfl (λ_ _ _ _ _ _ us hl=>(by obtain⟨_,_,rfl⟩:=ar2 hl;rfl)) λhcd hr nd =>
  (Z2 (s_if (z0v (J7 (Z9 F07 (hr.mono (by decide)) rfl (Z0 (z9 0) (Z0 Z4 (Z0 (z9 1) Z5)))))) (Z2 (y8 z1s) Z8) Z8) (Z2 (z1y K12 rfl (z0m rfl F03 (z07 rfl F01 (Z0 (z9 0) Z5))) (w6 2 nd) (Z2 (s_if (SW.sc (z3l (z0v (J7 (Z9 F0g (hr.mono (by decide)) rfl (Z0 (j6 (z9 0) (z9 2)) (Z0 Z4 (Z0 (z9 1) Z5)))))) (z2W (SW.sc (z3y (sc_c z9A (z9 2) Z4) (z2q (sc_c zd8 (j6 (z9 0) (zj7 (z9 2) Z4)) (j6 (z9 0) (z9 2))))))))) (Z2 (y8 z1s) Z8) Z8) Z8)) (Z2 (y8 z1s) Z8)))
noncomputable def z0g (mS:List D->M D):G->M Out :=
 (Z3 (sIf (cVal (eIsi "tuple" (eVar 1))) (Z3 (sIf (cOr (cNot (cVal (eIsi "tuple" (eVar 0)))) (λγ=>do let d <- e2 (fEqX true) (j7 fLen (Z1 (eVar 0) aNil)) (j7 fLen (Z1 (eVar 1) aNil)) γ;asB d)) (Z3 (sRet (λ_=>pure (.bl false))) bNil) bNil) (Z3 (sFor (z0q (j7 fLen (Z1 (eVar 1) aNil))) (gN 2) (Z3 (sIf (cNot (cVal (eFn 2 mS (Z1 (e2 fIx (eVar 0) (eVar 2)) (Z1 (e2 fIx (eVar 1) (eVar 2)) aNil))))) (Z3 (sRet (λ_=>pure (.bl false))) bNil) bNil) bNil)) (Z3 (sRet (λ_=>pure (.bl true))) bNil))) bNil) (Z3 (sIf (cVal (eIsi "bool" (eVar 1))) (Z3 (sRet (eAnd (eIsi "bool" (eVar 0)) (e2 (fEqX false) (eVar 0) (eVar 1)))) bNil) bNil) (Z3 (sIf (cVal (eIsi "int" (eVar 1))) (Z3 (sRet (eAnd (eIsi "int" (eVar 0)) (eAnd (eNot (eIsi "bool" (eVar 0))) (e2 (fEqX false) (eVar 0) (eVar 1))))) bNil) bNil) (Z3 (sIf (cVal (eIsi "str" (eVar 1))) (Z3 (sRet (eAnd (eIsi "str" (eVar 0)) (e2 (fEqX false) (eVar 0) (eVar 1)))) bNil) bNil) (Z3 (sRet (eAnd (e2 (fIs false) (eVar 1) (λ_=>pure .non)) (e2 (fIs false) (eVar 0) (λ_=>pure .non)))) bNil)))))
noncomputable def Y9:Nat->List D->M D
 | 0=>λ_=>bad
 | k+1=>runF 3 (z0g (Y9 k))
theorem sc__law_same:FnScope ["_law_found","_law_due","_law_k"] ["_law_found","_law_due"] (j8 (top 29)):=⟨rfl,rfl,rfl,by decide +kernel,rfl,by decide +kernel,by decide +kernel⟩
theorem ok__law_same {P:K08}{w:World}{K:K2}{mg:Str->Option Value}{base:Heap}(T:DefAt K "_law_same" (top 29)) (mx:∀v,K25 K K1q "_law_same" = some (some v)->mg "_law_same" = some v) (F08:mg "bool" = none) (F05:mg "int" = none) (F04:mg "isinstance" = none) (F01:mg "len" = none) (F03:mg "range" = none) (F0m:mg "str" = none) (F00:mg "tuple" = none):∀k:Nat,Fn P w K mg base (1+k) "_law_same" 2 (Y9 k):=by
 obtain⟨f,fd,hf,F⟩:=T;have hb:Binds K fd ["_law_found","_law_due"] []:=F.binds λ_ _ _ _ _ _ us hl=>(by obtain⟨_,_,rfl⟩:=ar2 hl;rfl);intro k;induction k with
 | zero=>exact zo0 F hb (mx _ hf) rfl
 | succ k F0T =>
  exact zj0 (k:=1+k) F sc__law_same hb (mx _ hf) rfl λcdv A outer s H E hcd hr=>(show SB (cxOf CX0 P w K mg base ["_law_found","_law_due","_law_k"] "_law_same" (j8 (top 29)) f cdv A outer s H E).nox EX0 (v7 (top 29)) (z0g (Y9 k)) from
   have nd:(["_law_found","_law_due","_law_k"]:List Str).Nodup:=sc__law_same.nd
   (Z2 (s_if (J7 (z1k rfl F04 rfl F00 (by decide +kernel) (by decide) (z9 1))) (Z2 (s_if (SW.sc (z3l (z0v (J7 (z1k rfl F04 rfl F00 (by decide +kernel) (by decide) (z9 0)))) (z2W (sc_c (z3V (hu30 hr)) (z07 rfl F01 (Z0 (z9 0) Z5)) (z07 rfl F01 (Z0 (z9 1) Z5)))))) (Z2 (y8 z1s) Z8) Z8) (Z2 (z1y K12 rfl (z0m rfl F03 (z07 rfl F01 (Z0 (z9 1) Z5))) (w6 2 nd) (Z2 (s_if (z0v (J7 (Z9 F0T (hr.mono (by omega)) rfl (Z0 (j6 (z9 0) (z9 2)) (Z0 (j6 (z9 1) (z9 2)) Z5))))) (Z2 (y8 z1s) Z8) Z8) Z8)) (Z2 (y8 z1s) Z8))) Z8) (Z2 (s_if (J7 (z1k rfl F04 rfl F08 (by decide +kernel) (by decide) (z9 1))) (Z2 (y8 (z1T (z1k rfl F04 rfl F08 (by decide +kernel) (by decide) (z9 0)) (z3Y (se_c (z3z (hu30 hr)) (z9 0) (z9 1))))) Z8) Z8) (Z2 (s_if (J7 (z1k rfl F04 rfl F05 (by decide +kernel) (by decide) (z9 1))) (Z2 (y8 (z1T (z1k rfl F04 rfl F05 (by decide +kernel) (by decide) (z9 0)) (z1T (z8a (z1k rfl F04 rfl F08 (by decide +kernel) (by decide) (z9 0))) (z3Y (se_c (z3z (hu30 hr)) (z9 0) (z9 1)))))) Z8) Z8) (Z2 (s_if (J7 (z1k rfl F04 rfl F0m (by decide +kernel) (by decide) (z9 1))) (Z2 (y8 (z1T (z1k rfl F04 rfl F0m (by decide +kernel) (by decide) (z9 0)) (z3Y (se_c (z3z (hu30 hr)) (z9 0) (z9 1))))) Z8) Z8) (Z2 (y8 (z1T (se_c zK1 (z9 1) z6v) (z3Y (se_c zK1 (z9 0) z6v)))) Z8))))))
noncomputable def z1d:G->M Out :=
 (Z3 (sIf (λγ=>do let d <- e2 (fEq false) (eFn 2 Z7 (Z1 (eVar 0) (Z1 (λ_=>pure (.int 2)) aNil))) (λ_=>pure (.int 0)) γ;asB d) (Z3 (sRet (eFn 2 Z7 (Z1 (eVar 0) (Z1 (clE (e2 fIx (eLst (Z1 (λ_=>pure (.int 3)) (Z1 (λ_=>pure (.int 9)) aNil))) (eFn 2 Z7 (Z1 (eVar 0) (Z1 (λ_=>pure (.int 2)) aNil))))) aNil)))) bNil) bNil) (Z3 (sRet (eTup (Z1 (e2 fIx (eVar 1) (eFn 2 Z7 (Z1 (eVar 0) (Z1 (j7 fLen (Z1 (eVar 1) aNil)) aNil)))) (Z1 (e2 fSub (eFn 2 Z7 (Z1 (eVar 0) (Z1 (λ_=>pure (.int 17)) aNil))) (λ_=>pure (.int 8))) aNil)))) bNil))
noncomputable def z0e:List D->M D:=λds=>cln (runF 2 z1d ds)
theorem ok__law_worth (T:DefAt K "_law_worth" (top 30)) (mx:Mx K mg "_law_worth") (F01:mg "len" = none) (F02:Fn P w K mg base 1 "_law_draw" 2 Z7):Fn P w K mg base 2 "_law_worth" 2 z0e :=
 dfC ["_law_pool_here","_law_names_here"] z1d T mx (by decide +kernel) rfl (λ_ _ _ _ _ _ us hl=>(by obtain⟨_,_,rfl⟩:=ar2 hl;rfl)) λhcd hr nd =>
  (Z2 (s_if (sc_c z2s (Z9 F02 (hr.mono (by decide)) rfl (Z0 (z9 0) (Z0 Z4 Z5))) Z4) (Z2 (y8 (Z9 F02 (hr.mono (by decide)) rfl (Z0 (z9 0) (Z0 (z0z (j6 (z0b (Z0 Z4 (Z0 Z4 Z5))) (Z9 F02 (hr.mono (by decide)) rfl (Z0 (z9 0) (Z0 Z4 Z5))))) Z5)))) Z8) Z8) (Z2 (y8 (z1M (Z0 (j6 (z9 1) (Z9 F02 (hr.mono (by decide)) rfl (Z0 (z9 0) (Z0 (z07 rfl F01 (Z0 (z9 1) Z5)) Z5)))) (Z0 (zj7 (Z9 F02 (hr.mono (by decide)) rfl (Z0 (z9 0) (Z0 Z4 Z5))) Z4) Z5)))) Z8))
noncomputable def z1K:G->M Out :=
 (Z3 (sAsg (e2 fIx (eVar 1) (eFn 2 Z7 (Z1 (eVar 0) (Z1 (j7 fLen (Z1 (eVar 1) aNil)) aNil)))) (gN 2)) (Z3 (sRet (eTup (Z1 (eVar 2) (Z1 (clE (e2 fIx (eLst (Z1 (λ_=>pure (.str "is")) (Z1 (λ_=>pure (.str "not")) (Z1 (λ_=>pure (.str "under")) aNil)))) (eFn 2 Z7 (Z1 (eVar 0) (Z1 (λ_=>pure (.int 3)) aNil))))) (Z1 (eFn 2 z0e (Z1 (eVar 0) (Z1 (eVar 1) aNil))) aNil))))) bNil))
noncomputable def z0p:List D->M D:=λds=>cln (runF 3 z1K ds)
theorem ok__law_test (T:DefAt K "_law_test" (top 31)) (mx:Mx K mg "_law_test") (F01:mg "len" = none) (F02:Fn P w K mg base 1 "_law_draw" 2 Z7) (F0h:Fn P w K mg base 2 "_law_worth" 2 z0e):Fn P w K mg base 3 "_law_test" 2 z0p :=
 dfC ["_law_pool_here","_law_names_here","_law_name_here"] z1K T mx (by decide +kernel) rfl (λ_ _ _ _ _ _ us hl=>(by obtain⟨_,_,rfl⟩:=ar2 hl;rfl)) λhcd hr nd =>
  (Z2 (y6 2 nd (j6 (z9 1) (Z9 F02 (hr.mono (by decide)) rfl (Z0 (z9 0) (Z0 (z07 rfl F01 (Z0 (z9 1) Z5)) Z5))))) (Z2 (y8 (z1M (Z0 (z9 2) (Z0 (z0z (j6 (z0b (Z0 Y7 (Z0 Y7 (Z0 Y7 Z5)))) (Z9 F02 (hr.mono (by decide)) rfl (Z0 (z9 0) (Z0 Z4 Z5))))) (Z0 (Z9 F0h (hr.mono (by decide)) rfl (Z0 (z9 0) (Z0 (z9 1) Z5))) Z5))))) Z8))
noncomputable def z1n:G->M Out :=
 (Z3 (sAsg (eLst aNil) (gN 3)) (Z3 (sFor (z1b (eVar 1)) (gN 4) (Z3 (sAsg (e2 fAdd (λ_=>pure (.int 1)) (eFn 2 Z7 (Z1 (eVar 0) (Z1 (j7 fMin (Z1 (clE (e2 fIx (eLst (Z1 (λ_=>pure (.int 9)) (Z1 (λ_=>pure (.int 3)) (Z1 (λ_=>pure (.int 4)) aNil)))) (eFn 2 Z7 (Z1 (eVar 0) (Z1 (λ_=>pure (.int 3)) aNil))))) (Z1 (eVar 2) aNil))) aNil)))) (gN 5)) (Z3 (sAsg (e2 fDiv (eVar 2) (eVar 5)) (gN 2)) (Z3 (z0K (eM1 w8 (eVar 3) (eTup (Z1 (eVar 4) (Z1 (eVar 5) (Z1 (eFn 2 Z7 (Z1 (eVar 0) (Z1 (eVar 5) aNil))) aNil)))))) bNil)))) (Z3 (sRet (j7 J9 (Z1 (eVar 3) aNil))) bNil)))
noncomputable def z1i:List D->M D:=λds=>cln (runF 6 z1n ds)
theorem ok__law_cells (T:DefAt K "_law_cells" (top 32)) (mx:Mx K mg "_law_cells") (F0B:mg "min" = none) (F00:mg "tuple" = none) (F02:Fn P w K mg base 1 "_law_draw" 2 Z7):Fn P w K mg base 2 "_law_cells" 3 z1i :=
 dfC ["_law_pool_here","_law_names_here","_law_room","_law_cells_here","_law_name_here","_law_size"] z1n T mx (by decide +kernel) rfl (λ_ _ _ _ _ _ us hl=>(by obtain⟨_,_,_,rfl⟩:=ar3 hl;rfl)) λhcd hr nd =>
  (Z2 (y6 3 nd (z0b Z5)) (Z2 (z1y K12 rfl (z1P (z9 1)) (w6 4 nd) (Z2 (y6 5 nd (z0t Z4 (Z9 F02 (hr.mono (by decide)) rfl (Z0 (z9 0) (Z0 (zL9 rfl rfl F0B (Z0 (z0z (j6 (z0b (Z0 Z4 (Z0 Z4 (Z0 Z4 Z5)))) (Z9 F02 (hr.mono (by decide)) rfl (Z0 (z9 0) (Z0 Z4 Z5))))) (Z0 (z9 2) Z5))) Z5))))) (Z2 (y6 2 nd (z5b (z9 2) (z9 5))) (Z2 (z14 (v5 (z9 3) (z1M (Z0 (z9 4) (Z0 (z9 5) (Z0 (Z9 F02 (hr.mono (by decide)) rfl (Z0 (z9 0) (Z0 (z9 5) Z5))) Z5)))))) Z8)))) (Z2 (y8 (Y3 rfl F00 (Z0 (z9 3) Z5))) Z8)))
noncomputable def z0H:G->M Out :=
 (Z3 (sAsg (clE (j7 J9 (Z1 (z0F [some 0,some 2,none] (z0q (clE (e2 fIx (eLst (Z1 (λ_=>pure (.int 0)) (Z1 (λ_=>pure (.int 1)) (Z1 (λ_=>pure (.int 1)) (Z1 (λ_=>pure (.int 2)) (Z1 (λ_=>pure (.int 4)) aNil)))))) (eFn 2 Z7 (Z1 (eVar 0) (Z1 (λ_=>pure (.int 5)) aNil)))))) (gN 2) (λ_=>pure true) (eFn 2 z0p (Z1 (eVar 0) (Z1 (eVar 1) aNil)))) aNil))) (gN 3)) (Z3 (sAsg (eFn 2 Z7 (Z1 (eVar 0) (Z1 (j7 fLen (Z1 (eVar 2) aNil)) aNil))) (gN 4)) (Z3 (sAsg (e2 fAdd (z0X (eVar 2) (z2c (eVar 4)) z2r) (z0X (eVar 2) z2r (z2c (eVar 4)))) (gN 5)) (Z3 (sAsg (clE (j7 J9 (Z1 (z0F [some 0,some 2,none] (z1b (eVar 5)) (gN 2) (λγ=>do let d <- e2 fGt (eFn 2 Z7 (Z1 (eVar 0) (Z1 (λ_=>pure (.int 3)) aNil))) (λ_=>pure (.int 0)) γ;asB d) (eTup (Z1 (eVar 2) (Z1 (eFn 2 z0e (Z1 (eVar 0) (Z1 (eVar 1) aNil))) aNil)))) aNil))) (gN 6)) (Z3 (sRet (eTup (Z1 (eVar 1) (Z1 (eVar 3) (Z1 (eVar 6) aNil))))) bNil)))))
noncomputable def z0l:List D->M D:=λds=>cln (runF 7 z0H ds)
theorem ok__law_command (T:DefAt K "_law_command" (top 33)) (mx:Mx K mg "_law_command") (F01:mg "len" = none) (F03:mg "range" = none) (F00:mg "tuple" = none) (F02:Fn P w K mg base 1 "_law_draw" 2 Z7) (F0i:Fn P w K mg base 3 "_law_test" 2 z0p) (F0h:Fn P w K mg base 2 "_law_worth" 2 z0e):Fn P w K mg base 4 "_law_command" 3 z0l :=
 dfC ["_law_pool_here","_law_name_here","_law_names_here","_law_tests","_law_turn","_law_some","_law_sets"] z0H T mx (by decide +kernel) rfl (λ_ _ _ _ _ _ us hl=>(by obtain⟨_,_,_,rfl⟩:=ar3 hl;rfl)) λhcd hr nd =>
  (Z2 (y6 3 nd (z0z (Y3 rfl F00 (Z0 (z0E (N':=["_law_pool_here","_law_names_here","_law_k"]) (cap:=[some 0,some 2,none]) rfl (z2d (by first|rfl|kernel_rfl!)) (z0m rfl F03 (z0z (j6 (z0b (Z0 Z4 (Z0 Z4 (Z0 Z4 (Z0 Z4 (Z0 Z4 Z5)))))) (Z9 F02 (hr.mono (by decide)) rfl (Z0 (z9 0) (Z0 Z4 Z5)))))) (λ_ _ _ _=>(J8 2 (show (["_law_pool_here","_law_names_here","_law_k"]:List Str).Nodup by decide +kernel))) (λ_ _ _ _=>z13) (λ_ _ _ _=>(Z9 F0i (hr.mono (by decide)) rfl (Z0 (z9 0) (Z0 (z9 1) Z5))))) Z5)))) (Z2 (y6 4 nd (Z9 F02 (hr.mono (by decide)) rfl (Z0 (z9 0) (Z0 (z07 rfl F01 (Z0 (z9 2) Z5)) Z5)))) (Z2 (y6 5 nd (z0t (z27 (z9 2) (z2J (z9 4)) z2Q) (z27 (z9 2) z2Q (z2J (z9 4))))) (Z2 (y6 6 nd (z0z (Y3 rfl F00 (Z0 (z0E (N':=["_law_pool_here","_law_names_here","_law_one"]) (cap:=[some 0,some 2,none]) rfl (z2d (by first|rfl|kernel_rfl!)) (z1P (z9 5)) (λ_ _ _ _=>(J8 2 (show (["_law_pool_here","_law_names_here","_law_one"]:List Str).Nodup by decide +kernel))) (λ_ _ _ _=>(z3L (sc_c z9A (Z9 F02 (hr.mono (by decide)) rfl (Z0 (z9 0) (Z0 Z4 Z5))) Z4))) (λ_ _ _ _=>(z1M (Z0 (z9 2) (Z0 (Z9 F0h (hr.mono (by decide)) rfl (Z0 (z9 0) (Z0 (z9 1) Z5))) Z5))))) Z5)))) (Z2 (y8 (z1M (Z0 (z9 1) (Z0 (z9 3) (Z0 (z9 6) Z5))))) Z8)))))
noncomputable def z21:G->M Out :=
 (Z3 (sIf (cAnd (λγ=>do let d <- e2 fGt (j7 fLen (Z1 (eVar 2) aNil)) (λ_=>pure (.int 0)) γ;asB d) (λγ=>do let d <- e2 (fEq false) (eFn 2 Z7 (Z1 (eVar 0) (Z1 (λ_=>pure (.int 2)) aNil))) (λ_=>pure (.int 0)) γ;asB d)) (Z3 (sAsg (clE (e2 fIx (eLst (Z1 (λ_=>pure (.str "can")) (Z1 (λ_=>pure (.str "last")) aNil))) (eFn 2 Z7 (Z1 (eVar 0) (Z1 (e2 fAdd (λ_=>pure (.int 1)) (j7 fInt (Z1 (eVar 3) aNil))) aNil))))) (gN 4)) (Z3 (sRet (eTup (Z1 (eVar 4) (Z1 (e2 fIx (eVar 2) (eFn 2 Z7 (Z1 (eVar 0) (Z1 (j7 fLen (Z1 (eVar 2) aNil)) aNil)))) aNil)))) bNil)) bNil) (Z3 (sRet (eFn 2 z0p (Z1 (eVar 0) (Z1 (eVar 1) aNil)))) bNil))
noncomputable def z1t:List D->M D:=λds=>cln (runF 5 z21 ds)
theorem ok__law_ask (T:DefAt K "_law_ask" (top 34)) (mx:Mx K mg "_law_ask") (F05:mg "int" = none) (F01:mg "len" = none) (F02:Fn P w K mg base 1 "_law_draw" 2 Z7) (F0i:Fn P w K mg base 3 "_law_test" 2 z0p):Fn P w K mg base 4 "_law_ask" 4 z1t :=
 dfC ["_law_pool_here","_law_cells_here","_law_commands","_law_keeps","_law_word"] z21 T mx (by decide +kernel) rfl (λ_ _ _ _ _ _ us hl=>(by obtain⟨_,_,_,_,rfl⟩:=ar4 hl;rfl)) λhcd hr nd =>
  (Z2 (s_if (SW.sc (z3y (sc_c z9A (z07 rfl F01 (Z0 (z9 2) Z5)) Z4) (z2q (sc_c z2s (Z9 F02 (hr.mono (by decide)) rfl (Z0 (z9 0) (Z0 Z4 Z5))) Z4)))) (Z2 (y6 4 nd (z0z (j6 (z0b (Z0 Y7 (Z0 Y7 Z5))) (Z9 F02 (hr.mono (by decide)) rfl (Z0 (z9 0) (Z0 (z0t Z4 (z6Z rfl F05 (Z0 (z9 3) Z5))) Z5)))))) (Z2 (y8 (z1M (Z0 (z9 4) (Z0 (j6 (z9 2) (Z9 F02 (hr.mono (by decide)) rfl (Z0 (z9 0) (Z0 (z07 rfl F01 (Z0 (z9 2) Z5)) Z5)))) Z5)))) Z8)) Z8) (Z2 (y8 (Z9 F0i (hr.mono (by decide)) rfl (Z0 (z9 0) (Z0 (z9 1) Z5)))) Z8))
noncomputable def z1c:G->M Out :=
 (Z3 (sAsg (eLst aNil) (gN 5)) (Z3 (sFor (z1b (eVar 1)) (gN 6) (Z3 (sAsg (eLst aNil) (gN 7)) (Z3 (sFor (z0q (clE (e2 fIx (eLst (Z1 (λ_=>pure (.int 1)) (Z1 (λ_=>pure (.int 0)) (Z1 (λ_=>pure (.int 1)) (Z1 (λ_=>pure (.int 2)) (Z1 (λ_=>pure (.int 1)) (Z1 (λ_=>pure (.int 4)) aNil))))))) (eFn 2 Z7 (Z1 (eVar 0) (Z1 (λ_=>pure (.int 6)) aNil)))))) (gN 8) (Z3 (sAsg (clE (e2 fIx (eLst (Z1 (λ_=>pure (.int 1)) (Z1 (λ_=>pure (.int 0)) (Z1 (λ_=>pure (.int 1)) (Z1 (λ_=>pure (.int 2)) (Z1 (λ_=>pure (.int 4)) (Z1 (λ_=>pure (.int 1)) aNil))))))) (eFn 2 Z7 (Z1 (eVar 0) (Z1 (λ_=>pure (.int 6)) aNil))))) (gN 9)) (Z3 (z0K (eM1 w8 (eVar 7) (clE (j7 J9 (Z1 (z0F [some 0,some 2,some 3,some 4,none] (z0q (eVar 9)) (gN 4) (λ_=>pure true) (eFn 4 z1t (Z1 (eVar 0) (Z1 (eVar 1) (Z1 (eVar 2) (Z1 (eVar 3) aNil)))))) aNil))))) bNil))) (Z3 (z0K (eM1 w8 (eVar 5) (eTup (Z1 (eVar 6) (Z1 (j7 J9 (Z1 (eVar 7) aNil)) aNil))))) bNil)))) (Z3 (sRet (j7 J9 (Z1 (eVar 5) aNil))) bNil)))
noncomputable def z1m:List D->M D:=λds=>cln (runF 10 z1c ds)
theorem ok__law_marks (T:DefAt K "_law_marks" (top 35)) (mx:Mx K mg "_law_marks") (F03:mg "range" = none) (F00:mg "tuple" = none) (F0C:Fn P w K mg base 4 "_law_ask" 4 z1t) (F02:Fn P w K mg base 1 "_law_draw" 2 Z7):Fn P w K mg base 5 "_law_marks" 5 z1m :=
 dfC ["_law_pool_here","_law_names_here","_law_cells_here","_law_commands","_law_keeps","_law_marks_here","_law_name_here","_law_rows","_law_k","_law_many"] z1c T mx (by decide +kernel) rfl (λ_ _ _ _ _ _ us hl=>(by obtain⟨_,_,_,_,_,rfl⟩:=ar5 hl;rfl)) λhcd hr nd =>
  (Z2 (y6 5 nd (z0b Z5)) (Z2 (z1y K12 rfl (z1P (z9 1)) (w6 6 nd) (Z2 (y6 7 nd (z0b Z5)) (Z2 (z1y K12 rfl (z0m rfl F03 (z0z (j6 (z0b (Z0 Z4 (Z0 Z4 (Z0 Z4 (Z0 Z4 (Z0 Z4 (Z0 Z4 Z5))))))) (Z9 F02 (hr.mono (by decide)) rfl (Z0 (z9 0) (Z0 Z4 Z5)))))) (w6 8 nd) (Z2 (y6 9 nd (z0z (j6 (z0b (Z0 Z4 (Z0 Z4 (Z0 Z4 (Z0 Z4 (Z0 Z4 (Z0 Z4 Z5))))))) (Z9 F02 (hr.mono (by decide)) rfl (Z0 (z9 0) (Z0 Z4 Z5)))))) (Z2 (z14 (v5 (z9 7) (z0z (Y3 rfl F00 (Z0 (z0E (N':=["_law_pool_here","_law_cells_here","_law_commands","_law_keeps","_law_j"]) (cap:=[some 0,some 2,some 3,some 4,none]) rfl (z2d (by first|rfl|kernel_rfl!)) (z0m rfl F03 (z9 9)) (λ_ _ _ _=>(J8 4 (show (["_law_pool_here","_law_cells_here","_law_commands","_law_keeps","_law_j"]:List Str).Nodup by decide +kernel))) (λ_ _ _ _=>z13) (λ_ _ _ _=>(Z9 F0C (hr.mono (by decide)) rfl (Z0 (z9 0) (Z0 (z9 1) (Z0 (z9 2) (Z0 (z9 3) Z5))))))) Z5))))) Z8))) (Z2 (z14 (v5 (z9 5) (z1M (Z0 (z9 6) (Z0 (Y3 rfl F00 (Z0 (z9 7) Z5)) Z5))))) Z8)))) (Z2 (y8 (Y3 rfl F00 (Z0 (z9 5) Z5))) Z8)))
noncomputable def z0G:G->M Out :=
 (Z3 (sAsg (e2 (fEq false) (eFn 2 Z7 (Z1 (eVar 0) (Z1 (λ_=>pure (.int 2)) aNil))) (λ_=>pure (.int 1))) (gN 4)) (Z3 (sAsg (e2 (fEq false) (eFn 2 Z7 (Z1 (eVar 0) (Z1 (λ_=>pure (.int 3)) aNil))) (λ_=>pure (.int 0))) (gN 5)) (Z3 (sAsg (e2 fAdd (λ_=>pure (.int 1)) (eFn 2 Z7 (Z1 (eVar 0) (Z1 (λ_=>pure (.int 4)) aNil)))) (gN 6)) (Z3 (sAsg (eFn 2 Z7 (Z1 (eVar 0) (Z1 (e2 fAdd (eVar 2) (λ_=>pure (.int 1))) aNil))) (gN 2)) (Z3 (sAsg (eFn 2 Z7 (Z1 (eVar 0) (Z1 (e2 fAdd (eVar 3) (λ_=>pure (.int 1))) aNil))) (gN 3)) (Z3 (sAsg (eFn 2 z0f (Z1 (eVar 0) (Z1 (λ_=>pure (.int 8)) aNil))) (gN 7)) (Z3 (sAsg (z0X (eVar 7) z2r (z2c (eVar 6))) (gN 8)) (Z3 (sAsg (z0X (eRev (eVar 7) (eNeg (λ_=>pure (.int 1)))) z2r (z2c (eVar 3))) (gN 9)) (Z3 (sIf (cNot (cVal (eVar 5))) (Z3 (sAsg (eFn 2 z0f (Z1 (eVar 0) (Z1 (eVar 6) aNil))) (gN 8)) (Z3 (sAsg (eFn 2 z0f (Z1 (eVar 0) (Z1 (eVar 3) aNil))) (gN 9)) bNil)) bNil) (Z3 (sAsg (z0X (eVar 7) z2r (z2c (eVar 2))) (gN 7)) (Z3 (sIf (cVal (eVar 4)) (Z3 (sAsg (e2 fDiv (eVar 1) (e2 fAdd (λ_=>pure (.int 1)) (eVar 2))) (gN 1)) bNil) bNil) (Z3 (sAsg (eFn 3 z1i (Z1 (eVar 0) (Z1 (eVar 8) (Z1 (eVar 1) aNil)))) (gN 10)) (Z3 (sAsg (clE (j7 J9 (Z1 (z0F [some 0,some 8,none] (z1b (eVar 7)) (gN 2) (λ_=>pure true) (eFn 3 z0l (Z1 (eVar 0) (Z1 (eVar 2) (Z1 (eVar 1) aNil))))) aNil))) (gN 11)) (Z3 (sRet (eTup (Z1 (eVar 10) (Z1 (eVar 11) (Z1 (eFn 5 z1m (Z1 (eVar 0) (Z1 (eVar 9) (Z1 (eVar 8) (Z1 (eVar 7) (Z1 (eVar 4) aNil)))))) (Z1 (eVar 4) aNil)))))) bNil))))))))))))))
noncomputable def x6:List D->M D:=λds=>cln (runF 12 z0G ds)
theorem ok__law_program (T:DefAt K "_law_program" (top 36)) (mx:Mx K mg "_law_program") (F00:mg "tuple" = none) (F0D:Fn P w K mg base 2 "_law_cells" 3 z1i) (F0E:Fn P w K mg base 4 "_law_command" 3 z0l) (F02:Fn P w K mg base 1 "_law_draw" 2 Z7) (F0F:Fn P w K mg base 5 "_law_marks" 5 z1m) (F0k:Fn P w K mg base 3 "_law_names" 2 z0f):Fn P w K mg base 6 "_law_program" 4 x6 :=
 dfC ["_law_pool_here","_law_room","_law_commands","_law_marks_here","_law_keeps","_law_shared","_law_many","_law_called","_law_cells_here","_law_worn_here","_law_inner","_law_rows"] z0G T mx (by decide +kernel) rfl (λ_ _ _ _ _ _ us hl=>(by obtain⟨_,_,_,_,rfl⟩:=ar4 hl;rfl)) λhcd hr nd =>
  (Z2 (y6 4 nd (se_c z2s (Z9 F02 (hr.mono (by decide)) rfl (Z0 (z9 0) (Z0 Z4 Z5))) Z4)) (Z2 (y6 5 nd (se_c z2s (Z9 F02 (hr.mono (by decide)) rfl (Z0 (z9 0) (Z0 Z4 Z5))) Z4)) (Z2 (y6 6 nd (z0t Z4 (Z9 F02 (hr.mono (by decide)) rfl (Z0 (z9 0) (Z0 Z4 Z5))))) (Z2 (y6 2 nd (Z9 F02 (hr.mono (by decide)) rfl (Z0 (z9 0) (Z0 (z0t (z9 2) Z4) Z5)))) (Z2 (y6 3 nd (Z9 F02 (hr.mono (by decide)) rfl (Z0 (z9 0) (Z0 (z0t (z9 3) Z4) Z5)))) (Z2 (y6 7 nd (Z9 F0k (hr.mono (by decide)) rfl (Z0 (z9 0) (Z0 Z4 Z5)))) (Z2 (y6 8 nd (z27 (z9 7) z2Q (z2J (z9 6)))) (Z2 (y6 9 nd (z27 (zM2 (z9 7) (z5i Z4)) z2Q (z2J (z9 3)))) (Z2 (s_if (z0v (J7 (z9 5))) (Z2 (y6 8 nd (Z9 F0k (hr.mono (by decide)) rfl (Z0 (z9 0) (Z0 (z9 6) Z5)))) (Z2 (y6 9 nd (Z9 F0k (hr.mono (by decide)) rfl (Z0 (z9 0) (Z0 (z9 3) Z5)))) Z8)) Z8) (Z2 (y6 7 nd (z27 (z9 7) z2Q (z2J (z9 2)))) (Z2 (s_if (J7 (z9 4)) (Z2 (y6 1 nd (z5b (z9 1) (z0t Z4 (z9 2)))) Z8) Z8) (Z2 (y6 10 nd (Z9 F0D (hr.mono (by decide)) rfl (Z0 (z9 0) (Z0 (z9 8) (Z0 (z9 1) Z5))))) (Z2 (y6 11 nd (z0z (Y3 rfl F00 (Z0 (z0E (N':=["_law_pool_here","_law_cells_here","_law_name_here"]) (cap:=[some 0,some 8,none]) rfl (z2d (by first|rfl|kernel_rfl!)) (z1P (z9 7)) (λ_ _ _ _=>(J8 2 (show (["_law_pool_here","_law_cells_here","_law_name_here"]:List Str).Nodup by decide +kernel))) (λ_ _ _ _=>z13) (λ_ _ _ _=>(Z9 F0E (hr.mono (by decide)) rfl (Z0 (z9 0) (Z0 (z9 2) (Z0 (z9 1) Z5)))))) Z5)))) (Z2 (y8 (z1M (Z0 (z9 10) (Z0 (z9 11) (Z0 (Z9 F0F (hr.mono (by decide)) rfl (Z0 (z9 0) (Z0 (z9 9) (Z0 (z9 8) (Z0 (z9 7) (Z0 (z9 4) Z5)))))) (Z0 (z9 4) Z5)))))) Z8))))))))))))))
noncomputable def z0B:G->M Out :=
 (Z3 (sIf (cVal (eIsi "tuple" (eVar 0))) (Z3 (sRet (e2 fAdd (e2 fIx (eVar 2) (eM1 z01 (eVar 1) (e2 fIx (eVar 0) (λ_=>pure (.int 0))))) (e2 fIx (eVar 0) (λ_=>pure (.int 1))))) bNil) bNil) (Z3 (sRet (eVar 0)) bNil))
noncomputable def v8:List D->M D:=λds=>cln (runF 3 z0B ds)
theorem ok__law_comes_to (T:DefAt K "_law_comes_to" (top 37)) (mx:Mx K mg "_law_comes_to") (F04:mg "isinstance" = none) (F00:mg "tuple" = none):Fn P w K mg base 1 "_law_comes_to" 3 v8 :=
 dfC ["_law_worth_here","_law_names_here","_law_room"] z0B T mx (by decide +kernel) rfl (λ_ _ _ _ _ _ us hl=>(by obtain⟨_,_,_,rfl⟩:=ar3 hl;rfl)) λhcd hr nd =>
  (Z2 (s_if (J7 (z1k rfl F04 rfl F00 (by decide +kernel) (by decide) (z9 0))) (Z2 (y8 (z0t (j6 (z9 2) (z0Z (hu40 hr) (z9 1) (j6 (z9 0) Z4))) (j6 (z9 0) Z4))) Z8) Z8) (Z2 (y8 (z9 0)) Z8))
noncomputable def z0w:G->M Out :=
 (Z3 (sFor (orE (z0S (eVar 0)) (z1b (eVar 0))) (gT 3 (x8 (gN 3) (x8 (gN 4) (x8 (gN 5) z2P)))) (Z3 (sAsg (e2 fIx (eVar 2) (eM1 z01 (eVar 1) (eVar 3))) (gN 6)) (Z3 (sAsg (eFn 3 v8 (Z1 (eVar 5) (Z1 (eVar 1) (Z1 (eVar 2) aNil)))) (gN 7)) (Z3 (sIf (cOr (cAnd (λγ=>do let d <- e2 (fEq false) (eVar 4) (λ_=>pure (.str "is")) γ;asB d) (λγ=>do let d <- e2 (fEqX true) (eVar 6) (eVar 7) γ;asB d)) (cOr (cAnd (λγ=>do let d <- e2 (fEq false) (eVar 4) (λ_=>pure (.str "not")) γ;asB d) (λγ=>do let d <- e2 (fEqX false) (eVar 6) (eVar 7) γ;asB d)) (cAnd (λγ=>do let d <- e2 (fEq false) (eVar 4) (λ_=>pure (.str "under")) γ;asB d) (λγ=>do let d <- e2 fGe (eVar 6) (eVar 7) γ;asB d)))) (Z3 (sRet (λ_=>pure (.bl false))) bNil) bNil) bNil)))) (Z3 (sRet (λ_=>pure (.bl true))) bNil))
noncomputable def J1:List D->M D:=λds=>cln (runF 8 z0w ds)
theorem ok__law_all_hold (T:DefAt K "_law_all_hold" (top 38)) (mx:Mx K mg "_law_all_hold") (F0j:Fn P w K mg base 1 "_law_comes_to" 3 v8):Fn P w K mg base 2 "_law_all_hold" 3 J1 :=
 dfC ["_law_tests","_law_names_here","_law_room","_law_name_here","_law_sign","_law_worth_here","_law_held","_law_due"] z0w T mx (by decide +kernel) rfl (λ_ _ _ _ _ _ us hl=>(by obtain⟨_,_,_,rfl⟩:=ar3 hl;rfl)) λhcd hr nd =>
  (Z2 (z1y K12 rfl (zS1 (z19 (z9 0)) (z1P (z9 0))) (z3H rfl (Y8 (w6 3 nd) (Y8 (w6 4 nd) (Y8 (w6 5 nd) z2n)))) (Z2 (y6 6 nd (j6 (z9 2) (z0Z (hu40 hr) (z9 1) (z9 3)))) (Z2 (y6 7 nd (Z9 F0j (hr.mono (by decide)) rfl (Z0 (z9 5) (Z0 (z9 1) (Z0 (z9 2) Z5))))) (Z2 (s_if (SW.sc (z3l (SW.sc (z3y (sc_c z2s (z9 4) Y7) (z2q (sc_c (z3V (hu30 hr)) (z9 6) (z9 7))))) (z3l (SW.sc (z3y (sc_c z2s (z9 4) Y7) (z2q (sc_c (z3z (hu30 hr)) (z9 6) (z9 7))))) (z2W (SW.sc (z3y (sc_c z2s (z9 4) Y7) (z2q (sc_c zd8 (z9 6) (z9 7))))))))) (Z2 (y8 z1s) Z8) Z8) Z8)))) (Z2 (y8 z1s) Z8))
noncomputable def J4:G->M Out :=
 (Z3 (sRet (z0F [none] (z0S (eVar 0)) (gN 0) (λ_=>pure true) (e2 fIx (eVar 0) (λ_=>pure (.int 0))))) bNil)
noncomputable def J6:List D->M D:=λds=>cln (runF 1 J4 ds)
theorem ok__law_names_of (T:DefAt K "_law_names_of" (top 39)) (mx:Mx K mg "_law_names_of"):Fn P w K mg base 1 "_law_names_of" 1 J6 :=
 dfC ["_law_rows"] J4 T mx (by decide +kernel) rfl (λ_ _ _ _ _ _ us hl=>(by obtain⟨_,rfl⟩:=ar1 hl;rfl)) λhcd hr nd =>
  (Z2 (y8 (z0E (N':=["_law_row"]) (cap:=[none]) rfl (z2d (by first|rfl|kernel_rfl!)) (z19 (z9 0)) (λ_ _ _ _=>(J8 0 (show (["_law_row"]:List Str).Nodup by decide +kernel))) (λ_ _ _ _=>z13) (λ_ _ _ _=>(j6 (z9 0) Z4)))) Z8)
noncomputable def z06:G->M Out :=
 (Z3 (sAsg (eFn 1 J6 (Z1 (e2 fIx (eVar 0) (λ_=>pure (.int 0))) aNil)) (gN 3)) (Z3 (sIf (cNot (cVal (eFn 3 J1 (Z1 (e2 fIx (e2 fIx (e2 fIx (eVar 0) (λ_=>pure (.int 1))) (eVar 1)) (λ_=>pure (.int 1))) (Z1 (eVar 3) (Z1 (eVar 2) aNil)))))) (Z3 (sRet (λ_=>pure .non)) bNil) bNil) (Z3 (sAsg (j7 za8 (Z1 (eVar 2) aNil)) (gN 4)) (Z3 (sFor (z0S (e2 fIx (e2 fIx (e2 fIx (eVar 0) (λ_=>pure (.int 1))) (eVar 1)) (λ_=>pure (.int 2)))) (gT 2 (x8 (gN 5) (x8 (gN 6) z2P))) (Z3 (sAsg (eM1 z01 (eVar 3) (eVar 5)) (gN 7)) (Z3 (sAsg (e2 fMod (eFn 3 v8 (Z1 (eVar 6) (Z1 (eVar 3) (Z1 (eVar 2) aNil)))) (e2 fIx (e2 fIx (e2 fIx (eVar 0) (λ_=>pure (.int 0))) (eVar 7)) (λ_=>pure (.int 1)))) (gIx (eVar 4) (eVar 7))) bNil))) (Z3 (sIf (cVal (e2 fIx (eVar 0) (λ_=>pure (.int 3)))) (Z3 (sAsg (eVar 1) (gIx (eVar 4) (j7 fLen (Z1 (eVar 3) aNil)))) bNil) bNil) (Z3 (sRet (j7 J9 (Z1 (eVar 4) aNil))) bNil))))))
noncomputable def z0n:List D->M D:=λds=>cln (runF 8 z06 ds)
theorem ok__law_next_room (T:DefAt K "_law_next_room" (top 40)) (mx:Mx K mg "_law_next_room") (F01:mg "len" = none) (F0G:mg "list" = none) (F00:mg "tuple" = none) (F09:Fn P w K mg base 2 "_law_all_hold" 3 J1) (F0j:Fn P w K mg base 1 "_law_comes_to" 3 v8) (F0a:Fn P w K mg base 1 "_law_names_of" 1 J6):Fn P w K mg base 3 "_law_next_room" 3 z0n :=
 dfC ["_law_program_here","_law_k","_law_room","_law_names_here","_law_found","_law_name_here","_law_worth_here","_law_at"] z06 T mx (by decide +kernel) rfl (λ_ _ _ _ _ _ us hl=>(by obtain⟨_,_,_,rfl⟩:=ar3 hl;rfl)) λhcd hr nd =>
  (Z2 (y6 3 nd (Z9 F0a (hr.mono (by decide)) rfl (Z0 (j6 (z9 0) Z4) Z5))) (Z2 (s_if (z0v (J7 (Z9 F09 (hr.mono (by decide)) rfl (Z0 (j6 (j6 (j6 (z9 0) Z4) (z9 1)) Z4) (Z0 (z9 3) (Z0 (z9 2) Z5)))))) (Z2 (y8 z6v) Z8) Z8) (Z2 (y6 4 nd (zx6 rfl F0G (Z0 (z9 2) Z5))) (Z2 (z1y K12 rfl (z19 (j6 (j6 (j6 (z9 0) Z4) (z9 1)) Z4)) (z3H rfl (Y8 (w6 5 nd) (Y8 (w6 6 nd) z2n))) (Z2 (y6 7 nd (z0Z (hu40 hr) (z9 3) (z9 5))) (Z2 (z5U (z2y (Z9 F0j (hr.mono (by decide)) rfl (Z0 (z9 6) (Z0 (z9 3) (Z0 (z9 2) Z5)))) (j6 (j6 (j6 (z9 0) Z4) (z9 7)) Z4)) (z8V (z9 4) (z9 7))) Z8))) (Z2 (s_if (J7 (j6 (z9 0) Z4)) (Z2 (z5U (z9 1) (z8V (z9 4) (z07 rfl F01 (Z0 (z9 3) Z5)))) Z8) Z8) (Z2 (y8 (Y3 rfl F00 (Z0 (z9 4) Z5))) Z8))))))
noncomputable def z0i:G->M Out :=
 (Z3 (z4Y 1 [none] (z0S (e2 fIx (eVar 0) (λ_=>pure (.int 0)))) (gN 0) (λ_=>pure true) (e2 fIx (eVar 0) (λ_=>pure (.int 2)))) (Z3 (sIf (cVal (e2 fIx (eVar 0) (λ_=>pure (.int 3)))) (Z3 (z0K (eM1 w8 (eVar 1) (eNeg (λ_=>pure (.int 1))))) bNil) bNil) (Z3 (sRet (j7 J9 (Z1 (eVar 1) aNil))) bNil)))
noncomputable def z0k:List D->M D:=λds=>cln (runF 2 z0i ds)
theorem ok__law_first_room (T:DefAt K "_law_first_room" (top 41)) (mx:Mx K mg "_law_first_room") (F00:mg "tuple" = none):Fn P w K mg base 1 "_law_first_room" 1 z0k :=
 dfC ["_law_program_here","_law_found"] z0i T mx (by decide +kernel) rfl (λ_ _ _ _ _ _ us hl=>(by obtain⟨_,rfl⟩:=ar1 hl;rfl)) λhcd hr nd =>
  (Z2 (zg7 1 (N':=["_law_cell"]) (cap:=[none]) rfl (z2d (by first|rfl|kernel_rfl!)) (z19 (j6 (z9 0) Z4)) (λ_ _ _ _=>(J8 0 (show (["_law_cell"]:List Str).Nodup by decide +kernel))) (λ_ _ _ _=>z13) (λ_ _ _ _=>(j6 (z9 0) Z4)) nd) (Z2 (s_if (J7 (j6 (z9 0) Z4)) (Z2 (z14 (v5 (z9 1) (z5i Z4))) Z8) Z8) (Z2 (y8 (Y3 rfl F00 (Z0 (z9 1) Z5))) Z8)))
noncomputable def z03:G->M Out :=
 (Z3 (sAsg (eFn 1 J6 (Z1 (e2 fIx (eVar 0) (λ_=>pure (.int 0))) aNil)) (gN 3)) (Z3 (sAsg (eFn 1 J6 (Z1 (e2 fIx (eVar 0) (λ_=>pure (.int 1))) aNil)) (gN 4)) (Z3 (sFor (z0S (eVar 1)) (gN 5) (Z3 (sIf (λγ=>do let d <- e2 (fEq false) (j7 fLen (Z1 (eVar 5) aNil)) (λ_=>pure (.int 3)) γ;asB d) (Z3 (sIf (cNot (cVal (eFn 3 J1 (Z1 (eLst (Z1 (eVar 5) aNil)) (Z1 (eVar 3) (Z1 (eVar 2) aNil)))))) (Z3 (sRet (λ_=>pure (.bl false))) bNil) bNil) bNil) (Z3 (sIf (λγ=>do let d <- e2 (fEq false) (e2 fIx (eVar 5) (λ_=>pure (.int 0))) (λ_=>pure (.str "can")) γ;asB d) (Z3 (sIf (cNot (cVal (eFn 3 J1 (Z1 (e2 fIx (e2 fIx (e2 fIx (eVar 0) (λ_=>pure (.int 1))) (eM1 z01 (eVar 4) (e2 fIx (eVar 5) (λ_=>pure (.int 1))))) (λ_=>pure (.int 1))) (Z1 (eVar 3) (Z1 (eVar 2) aNil)))))) (Z3 (sRet (λ_=>pure (.bl false))) bNil) bNil) bNil) (Z3 (sIf (λγ=>do let d <- e2 (fEqX true) (e2 fIx (eVar 2) (j7 fLen (Z1 (eVar 3) aNil))) (eM1 z01 (eVar 4) (e2 fIx (eVar 5) (λ_=>pure (.int 1)))) γ;asB d) (Z3 (sRet (λ_=>pure (.bl false))) bNil) bNil) bNil)) bNil)) bNil)) (Z3 (sRet (λ_=>pure (.bl true))) bNil))))
noncomputable def z04:List D->M D:=λds=>cln (runF 6 z03 ds)
theorem ok__law_row_holds (T:DefAt K "_law_row_holds" (top 42)) (mx:Mx K mg "_law_row_holds") (F01:mg "len" = none) (F09:Fn P w K mg base 2 "_law_all_hold" 3 J1) (F0a:Fn P w K mg base 1 "_law_names_of" 1 J6):Fn P w K mg base 3 "_law_row_holds" 3 z04 :=
 dfC ["_law_program_here","_law_row","_law_room","_law_names_here","_law_called","_law_ask_here"] z03 T mx (by decide +kernel) rfl (λ_ _ _ _ _ _ us hl=>(by obtain⟨_,_,_,rfl⟩:=ar3 hl;rfl)) λhcd hr nd =>
  (Z2 (y6 3 nd (Z9 F0a (hr.mono (by decide)) rfl (Z0 (j6 (z9 0) Z4) Z5))) (Z2 (y6 4 nd (Z9 F0a (hr.mono (by decide)) rfl (Z0 (j6 (z9 0) Z4) Z5))) (Z2 (z1y K12 rfl (z19 (z9 1)) (w6 5 nd) (Z2 (s_if (sc_c z2s (z07 rfl F01 (Z0 (z9 5) Z5)) Z4) (Z2 (s_if (z0v (J7 (Z9 F09 (hr.mono (by decide)) rfl (Z0 (z0b (Z0 (z9 5) Z5)) (Z0 (z9 3) (Z0 (z9 2) Z5)))))) (Z2 (y8 z1s) Z8) Z8) Z8) (Z2 (s_if (sc_c z2s (j6 (z9 5) Z4) Y7) (Z2 (s_if (z0v (J7 (Z9 F09 (hr.mono (by decide)) rfl (Z0 (j6 (j6 (j6 (z9 0) Z4) (z0Z (hu40 hr) (z9 4) (j6 (z9 5) Z4))) Z4) (Z0 (z9 3) (Z0 (z9 2) Z5)))))) (Z2 (y8 z1s) Z8) Z8) Z8) (Z2 (s_if (sc_c (z3V (hu30 hr)) (j6 (z9 2) (z07 rfl F01 (Z0 (z9 3) Z5))) (z0Z (hu40 hr) (z9 4) (j6 (z9 5) Z4))) (Z2 (y8 z1s) Z8) Z8) Z8)) Z8)) Z8)) (Z2 (y8 z1s) Z8))))
noncomputable def z1J:G->M Out :=
 (Z3 (sAsg (eLst aNil) (gN 2)) (Z3 (sFor (z0S (e2 fIx (eVar 0) (λ_=>pure (.int 2)))) (gT 2 (x8 (gN 3) (x8 (gN 4) z2P))) (Z3 (sFor (z0S (eVar 4)) (gN 5) (Z3 (sIf (cAnd (λγ=>do let d <- e2 (fIn true) (eVar 3) (eVar 2) γ;asB d) (cVal (eFn 3 z04 (Z1 (eVar 0) (Z1 (eVar 5) (Z1 (eVar 1) aNil)))))) (Z3 (z0K (eM1 w8 (eVar 2) (eVar 3))) bNil) bNil) bNil)) bNil)) (Z3 (sRet (clE (j7 J9 (Z1 (j7 z1q (Z1 (eVar 2) aNil)) aNil)))) bNil)))
noncomputable def z1E:List D->M D:=λds=>cln (runF 6 z1J ds)
theorem ok__law_worn (T:DefAt K "_law_worn" (top 43)) (mx:Mx K mg "_law_worn") (F06:mg "sorted" = none) (F00:mg "tuple" = none) (F0H:Fn P w K mg base 3 "_law_row_holds" 3 z04):Fn P w K mg base 4 "_law_worn" 2 z1E :=
 dfC ["_law_program_here","_law_room","_law_found","_law_name_here","_law_rows","_law_row"] z1J T mx (by decide +kernel) rfl (λ_ _ _ _ _ _ us hl=>(by obtain⟨_,_,rfl⟩:=ar2 hl;rfl)) λhcd hr nd =>
  (Z2 (y6 2 nd (z0b Z5)) (Z2 (z1y K12 rfl (z19 (j6 (z9 0) Z4)) (z3H rfl (Y8 (w6 3 nd) (Y8 (w6 4 nd) z2n))) (Z2 (z1y K12 rfl (z19 (z9 4)) (w6 5 nd) (Z2 (s_if (SW.sc (z3y (sc_c z39 (z9 3) (z9 2)) (z2q (J7 (Z9 F0H (hr.mono (by decide)) rfl (Z0 (z9 0) (Z0 (z9 5) (Z0 (z9 1) Z5)))))))) (Z2 (z14 (v5 (z9 2) (z9 3))) Z8) Z8) Z8)) Z8)) (Z2 (y8 (z0z (Y3 rfl F00 (Z0 (z3q rfl rfl F06 (Z0 (z9 2) Z5)) Z5)))) Z8)))
noncomputable def z0c:G->M Out :=
 (Z3 (sIf (cOr (cNot (cVal (eFn 3 k6 (Z1 (eVar 1) (Z1 (λ_=>pure (.int 2)) (Z1 (λ_=>pure (.int 2)) aNil)))))) (cOr (cNot (cVal (eFn 3 k6 (Z1 (e2 fIx (eVar 1) (λ_=>pure (.int 0))) (Z1 (λ_=>pure (.int 2)) (Z1 (λ_=>pure (.int 2)) aNil)))))) (cNot (cVal (eFn 3 k6 (Z1 (e2 fIx (eVar 1) (λ_=>pure (.int 1))) (Z1 (λ_=>pure (.int 1)) (Z1 (λ_=>pure (.int 40)) aNil)))))))) (Z3 (sRet (λ_=>pure (.bl false))) bNil) bNil) (Z3 (sAsg (j7 fLen (Z1 (e2 fIx (eVar 1) (λ_=>pure (.int 1))) aNil)) (gN 2)) (Z3 (sAsg (e2 fAdd (j7 fLen (Z1 (e2 fIx (eVar 0) (λ_=>pure (.int 0))) aNil)) (j7 fInt (Z1 (e2 fIx (eVar 0) (λ_=>pure (.int 3))) aNil))) (gN 3)) (Z3 (sIf (cOr (cNot (cVal (eFn 3 k6 (Z1 (e2 fIx (e2 fIx (eVar 1) (λ_=>pure (.int 0))) (λ_=>pure (.int 0))) (Z1 (eVar 2) (Z1 (eVar 2) aNil)))))) (cNot (cVal (eFn 3 k6 (Z1 (e2 fIx (e2 fIx (eVar 1) (λ_=>pure (.int 0))) (λ_=>pure (.int 1))) (Z1 (eVar 2) (Z1 (eVar 2) aNil))))))) (Z3 (sRet (λ_=>pure (.bl false))) bNil) bNil) (Z3 (sFor (z0q (eVar 2)) (gN 4) (Z3 (sAsg (e2 fIx (e2 fIx (eVar 1) (λ_=>pure (.int 1))) (eVar 4)) (gN 5)) (Z3 (sIf (cOr (cNot (cVal (eFn 3 k6 (Z1 (eVar 5) (Z1 (eVar 3) (Z1 (eVar 3) aNil)))))) (clT (λγ=>do let d <- e2 (fEqX true) (z0F [none] (z0S (eVar 5)) (gN 0) (cNot (cVal (eFn 3 z02 (Z1 (eVar 0) (Z1 (eNeg (λ_=>pure (.int 1))) (Z1 (λ_=>pure (.int 9)) aNil)))))) (eVar 0)) (eLst aNil) γ;asB d))) (Z3 (sRet (λ_=>pure (.bl false))) bNil) bNil) (Z3 (sIf (cOr (cNot (cVal (eFn 2 z0u (Z1 (e2 fIx (e2 fIx (e2 fIx (eVar 1) (λ_=>pure (.int 0))) (λ_=>pure (.int 0))) (eVar 4)) (Z1 (eVar 2) aNil))))) (cOr (cNot (cVal (eFn 3 k6 (Z1 (e2 fIx (e2 fIx (e2 fIx (eVar 1) (λ_=>pure (.int 0))) (λ_=>pure (.int 1))) (eVar 4)) (Z1 (λ_=>pure (.int 0)) (Z1 (λ_=>pure (.int 8)) aNil)))))) (λγ=>do let d <- e2 (fInX false) (eVar 5) (z0X (e2 fIx (eVar 1) (λ_=>pure (.int 1))) z2r (z2c (eVar 4))) γ;asB d))) (Z3 (sRet (λ_=>pure (.bl false))) bNil) bNil) bNil)))) (Z3 (sRet (e2 (fEqX false) (e2 fIx (e2 fIx (eVar 1) (λ_=>pure (.int 1))) (λ_=>pure (.int 0))) (eFn 1 z0k (Z1 (eVar 0) aNil)))) bNil))))))
noncomputable def z0a:List D->M D:=λds=>cln (runF 6 z0c ds)
theorem ok__law_good_layout (T:DefAt K "_law_good_layout" (top 44)) (mx:Mx K mg "_law_good_layout") (F05:mg "int" = none) (F01:mg "len" = none) (F03:mg "range" = none) (F0I:Fn P w K mg base 1 "_law_first_room" 1 z0k) (F0J:Fn P w K mg base 2 "_law_good_set" 2 z0u) (F0g:Fn P w K mg base 1 "_law_number" 3 z02) (F07:Fn P w K mg base 1 "_law_tuple" 3 k6):Fn P w K mg base 3 "_law_good_layout" 2 z0a :=
 dfC ["_law_program_here","_law_told","_law_many","_law_long","_law_k","_law_room"] z0c T mx (by decide +kernel) rfl (λ_ _ _ _ _ _ us hl=>(by obtain⟨_,_,rfl⟩:=ar2 hl;rfl)) λhcd hr nd =>
  (Z2 (s_if (SW.sc (z3l (z0v (J7 (Z9 F07 (hr.mono (by decide)) rfl (Z0 (z9 1) (Z0 Z4 (Z0 Z4 Z5)))))) (z3l (z0v (J7 (Z9 F07 (hr.mono (by decide)) rfl (Z0 (j6 (z9 1) Z4) (Z0 Z4 (Z0 Z4 Z5)))))) (z2W (z0v (J7 (Z9 F07 (hr.mono (by decide)) rfl (Z0 (j6 (z9 1) Z4) (Z0 Z4 (Z0 Z4 Z5)))))))))) (Z2 (y8 z1s) Z8) Z8) (Z2 (y6 2 nd (z07 rfl F01 (Z0 (j6 (z9 1) Z4) Z5))) (Z2 (y6 3 nd (z0t (z07 rfl F01 (Z0 (j6 (z9 0) Z4) Z5)) (z6Z rfl F05 (Z0 (j6 (z9 0) Z4) Z5)))) (Z2 (s_if (SW.sc (z3l (z0v (J7 (Z9 F07 (hr.mono (by decide)) rfl (Z0 (j6 (j6 (z9 1) Z4) Z4) (Z0 (z9 2) (Z0 (z9 2) Z5)))))) (z2W (z0v (J7 (Z9 F07 (hr.mono (by decide)) rfl (Z0 (j6 (j6 (z9 1) Z4) Z4) (Z0 (z9 2) (Z0 (z9 2) Z5))))))))) (Z2 (y8 z1s) Z8) Z8) (Z2 (z1y K12 rfl (z0m rfl F03 (z9 2)) (w6 4 nd) (Z2 (y6 5 nd (j6 (j6 (z9 1) Z4) (z9 4))) (Z2 (s_if (SW.sc (z3l (z0v (J7 (Z9 F07 (hr.mono (by decide)) rfl (Z0 (z9 5) (Z0 (z9 3) (Z0 (z9 3) Z5)))))) (z2W (zF5 (sc_c (z3V (hu30 hr)) (z0E (N':=["_law_one"]) (cap:=[none]) rfl (z2d (by first|rfl|kernel_rfl!)) (z19 (z9 5)) (λ_ _ _ _=>(J8 0 (show (["_law_one"]:List Str).Nodup by decide +kernel))) (λ_ _ _ _=>(z3L (z0v (J7 (Z9 F0g (hr.mono (by decide)) rfl (Z0 (z9 0) (Z0 (z5i Z4) (Z0 Z4 Z5)))))))) (λ_ _ _ _=>(z9 0))) (z0b Z5)))))) (Z2 (y8 z1s) Z8) Z8) (Z2 (s_if (SW.sc (z3l (z0v (J7 (Z9 F0J (hr.mono (by decide)) rfl (Z0 (j6 (j6 (j6 (z9 1) Z4) Z4) (z9 4)) (Z0 (z9 2) Z5))))) (z3l (z0v (J7 (Z9 F07 (hr.mono (by decide)) rfl (Z0 (j6 (j6 (j6 (z9 1) Z4) Z4) (z9 4)) (Z0 Z4 (Z0 Z4 Z5)))))) (z2W (sc_c (zK0 (hu30 hr)) (z9 5) (z27 (j6 (z9 1) Z4) z2Q (z2J (z9 4)))))))) (Z2 (y8 z1s) Z8) Z8) Z8)))) (Z2 (y8 (se_c (z3z (hu30 hr)) (j6 (j6 (z9 1) Z4) Z4) (Z9 F0I (hr.mono (by decide)) rfl (Z0 (z9 0) Z5)))) Z8))))))
noncomputable def zc1:G->M Out :=
 (Z3 (sAsg (eFn 1 z1z (Z1 (eVar 0) aNil)) (gN 1)) (Z3 (sAsg (e2 (fEq false) (eFn 2 Z7 (Z1 (eVar 1) (Z1 (λ_=>pure (.int 2)) aNil))) (λ_=>pure (.int 1))) (gN 2)) (Z3 (sAsg (eFn 4 x6 (Z1 (eVar 1) (Z1 (λ_=>pure (.int 24)) (Z1 (λ_=>pure (.int 5)) (Z1 (λ_=>pure (.int 4)) aNil))))) (gN 3)) (Z3 (sIf (cVal (eVar 2)) (Z3 (sAsg (eFnP 1 1 [] [] z31 (Z1 (eVar 3) aNil) (Z1 (λ_=>pure (.int 40)) aNil)) (gN 4)) bNil) (Z3 (sAsg (eFnP 1 0 [] [c_MOST] z31 (Z1 (eVar 3) aNil) aNil) (gN 4)) bNil)) (Z3 (sIf (cNot (cVal (eFn 2 z0a (Z1 (eVar 3) (Z1 (eVar 4) aNil))))) (Z3 (sRet (λ_=>pure (.bl false))) bNil) bNil) (Z3 (sAsg (e2 fIx (eVar 4) (λ_=>pure (.int 1))) (gN 5)) (Z3 (sFor (z0q (j7 fLen (Z1 (eVar 5) aNil))) (gN 6) (Z3 (sAsg (eLst aNil) (gN 7)) (Z3 (sFor (z0q (j7 fLen (Z1 (e2 fIx (eVar 3) (λ_=>pure (.int 1))) aNil))) (gN 8) (Z3 (sAsg (eFn 3 z0n (Z1 (eVar 3) (Z1 (eVar 8) (Z1 (e2 fIx (eVar 5) (eVar 6)) aNil)))) (gN 9)) (Z3 (sIf (λγ=>do let d <- e2 (fIs true) (eVar 9) (λ_=>pure .non) γ;asB d) (Z3 (sIf (λγ=>do let d <- e2 (fInX true) (eVar 9) (eVar 5) γ;asB d) (Z3 (sRet (λ_=>pure (.bl false))) bNil) bNil) (Z3 (sIf (λγ=>do let d <- e2 (fIn true) (z26 (eVar 5) (eVar 9)) (eVar 7) γ;asB d) (Z3 (z0K (eM1 w8 (eVar 7) (z26 (eVar 5) (eVar 9)))) bNil) bNil) bNil)) bNil) bNil))) (Z3 (sIf (cOr (λγ=>do let d <- e2 (fEqX true) (e2 fIx (e2 fIx (e2 fIx (eVar 4) (λ_=>pure (.int 0))) (λ_=>pure (.int 0))) (eVar 6)) (j7 J9 (Z1 (j7 z1q (Z1 (eVar 7) aNil)) aNil)) γ;asB d) (cNot (cVal (eFn 2 (Y9 5) (Z1 (e2 fIx (e2 fIx (e2 fIx (eVar 4) (λ_=>pure (.int 0))) (λ_=>pure (.int 1))) (eVar 6)) (Z1 (eFn 2 z1E (Z1 (eVar 3) (Z1 (e2 fIx (eVar 5) (eVar 6)) aNil))) aNil)))))) (Z3 (sRet (λ_=>pure (.bl false))) bNil) bNil) bNil)))) (Z3 (sRet (λ_=>pure (.bl true))) bNil))))))))
noncomputable def m_law:List D->M D:=runF 10 zc1
theorem sc_law:FnScope ["_law_script","_law_pool_here","_law_by_name","_law_program_here","_law_told","_law_rooms","_law_k","_law_onto","_law_j","_law_to"] ["_law_script"] (j8 (top 45)):=⟨rfl,rfl,rfl,by decide +kernel,rfl,by decide +kernel,by decide +kernel⟩
theorem zR3 (g0:Int) (gr sm:List Int) (s c:Int) (r:AH) (n:Int) (hn:0<n) (hn2:n<1073741824) (hg:gr.length<=63) :
 ∃gr',gr'.length<=gr.length+1/\Z7 [.ref 2,.int n] (Pool (g0::gr) sm s c r)=.ok (.int (g0 % n)) (Pool gr' sm s c r):=by
 unfold Z7 runF z15 Pool z0Y;have hl:gr.length<=sizeLine:=K0l hg (by decide);by_cases h0:g0 / n=0
 ·refine⟨gr,by omega,?_⟩;simp[Z3,bNil,sIf,sAsg,sRet,z0K,e2,j7,Z1,aNil,eVar,fIx,seqD,getL,fLen,fGt,fCmp,fI,asB,gIx,gN,fSet,fDiv,fIC,eM1,z1Q,z3W,updL,fEq,eqD,fMod,atI,ixN,hn,hn2,h0,K89,hl]
 ·refine⟨g0 / n::gr,by simp,?_⟩;simp[Z3,bNil,sIf,sAsg,sRet,z0K,e2,j7,Z1,aNil,eVar,fIx,seqD,getL,fLen,fGt,fCmp,fI,asB,gIx,gN,fSet,fDiv,fIC,eM1,z1Q,z3W,updL,fEq,eqD,fMod,atI,ixN,hn,hn2,h0]
theorem zS3 (sm:List Int) (s c:Int) (r:AH) (n:Int) (hn:0<n) (hn2:n<1073741824) (hs:0<=s) (hs2:s<2147483647) (hc:0<=c) (hc2:c<1000000) (hm:sm.length<=63) :
 ∃s' d,Z7 [.ref 2,.int n] (Pool [] sm s c r)=.ok (.int d) (Pool [] sm s' (c+1) r)/\0<=d/\d<n/\0<=s'/\s'<2147483647:=by
 have k1:-18446744073709551616<c+1:=by omega
 have k2:c+1<18446744073709551616:=by omega
 have k3:-18446744073709551616<s:=by omega
 have k4:s<18446744073709551616:=by omega
 have key:∀x:Int,(∃y:Int,Z7 [.ref 2,.int n] (Pool [] sm s c r)=.ok (.int ((((s * 48271+x % 2147483629 * ((c+1) * (c+1)+1)+97 * (c+1)) % 2147483647) ^ 5) % 2147483629 / 64 % n)) (Pool [] sm ((s * 48271+x % 2147483629 * ((c+1) * (c+1)+1)+97 * (c+1)) % 2147483647) (c+1) r)) ->
  ∃s' d,Z7 [.ref 2,.int n] (Pool [] sm s c r)=.ok (.int d) (Pool [] sm s' (c+1) r)/\0<=d/\d<n/\0<=s'/\s'<2147483647:=λx ⟨_,e⟩ =>
  ⟨_,_,e,K4n _ (by omega),K3q _ hn,K4n _ (by decide),K3q _ (by decide)⟩
 have p1:∀z:Int,-18446744073709551616<z % 2147483647:=λz=>by omega
 have p2:∀z:Int,z % 2147483647<18446744073709551616:=λz=>by omega
 have p3:∀z:Int,-18446744073709551616<z % 2147483629:=λz=>by omega
 have p4:∀z:Int,z % 2147483629<18446744073709551616:=λz=>by omega
 cases sm with
 | nil =>
  refine key 0 ⟨0,?_⟩;unfold Z7 runF z15 Pool z0Y;simp[Z3,bNil,sIf,sAsg,sRet,z0K,e2,j7,Z1,aNil,eVar,fIx,seqD,getL,fLen,fGt,fCmp,fI,asB,gIx,gN,fSet,fDiv,fIC,eM1,z1Q,z3W,updL,fEq,eqD,fMod,fAdd,fMul,z4w,fPow,atI,ixN,hn,hn2,k1,k2,k3,k4,p1,p2,p3,p4]
 | cons m0 sm =>
  have hl:(0:Int)<(sm.length:Int)+1:=by omega
  have hi:0<=(c+1) % ((sm.length:Int)+1):=K4n _ (by omega);have hi2:(c+1) % ((sm.length:Int)+1)<(sm.length:Int)+1:=K3q _ hl;obtain⟨x,hx⟩:∃x,(D.int m0::sm.map D.int)[((c+1) % ((sm.length:Int)+1)).toNat]?=.(i x):=by
   have e:(D.int m0::sm.map D.int)=(m0::sm).map D.int:=rfl;rw[e,K00,K7 (by simp;omega)];exact⟨_,rfl⟩
  have hx2:∀hj,(D.int m0::List.map D.int sm)[((c+1) % ((sm.length:Int)+1)).toNat]'hj=D.int x:=λhj=>K1h ((K7 hj).symm.trans hx);refine key x ⟨0,?_⟩;unfold Z7 runF z15 Pool z0Y;simp[Z3,bNil,sIf,sAsg,sRet,z0K,e2,j7,Z1,aNil,eVar,fIx,seqD,getL,fLen,fGt,fCmp,fI,asB,gIx,gN,fSet,fDiv,fIC,eM1,z1Q,z3W,updL,fEq,eqD,fMod,fAdd,fMul,z4w,fPow,atI,ixN,hn,hn2,k1,k2,k3,k4,p1,p2,p3,p4,hi,hi2,hl,hx,hx2]
theorem draw {h:AH}{k n:Int}{r:AH}(p:PS h k r) (hk:k<1000000) (hn:0<n) (hn2:n<1073741824):∃d h',Z7 [.ref 2,.int n] h=.ok (.int d) h'/\0<=d/\d<n/\PS h' (k+1) r:=by
 obtain⟨gr,sm,s,c,rfl,h1,h2,h3,h4,h5,h6⟩:=p;cases gr with
 | nil =>
  obtain⟨s',d,e,q1,q2,q3,q4⟩:=zS3 sm s c r n hn hn2 h1 h2 h3 (by omega) h6;exact⟨d,_,e,q1,q2,[],sm,s',c+1,rfl,q3,q4,by omega,by omega,by simp,h6⟩
 | cons g0 gr =>
  simp at h5;obtain⟨gr',l,e⟩:=zR3 g0 gr sm s c r n hn hn2 (by omega);exact⟨_,_,e,K4n _ (by omega),K3q _ hn,gr',sm,s,c,rfl,h1,h2,h3,by omega,by omega,h6⟩
theorem z0d {h:AH}{k n:Int}{r:AH}{Q:D->AH->Prop}(p:PS h k r) (hk:k<1000000) (hn:0<n) (hn2:n<1073741824) (z:∀d h',0<=d->d<n->PS h' (k+1) r->Q (.int d) h'):W (Z7 [.ref 2,.int n]) h Q:=by
 obtain⟨d,h',e,d0,d1,p'⟩:=draw p hk hn hn2;exact⟨_,_,e,z d h' d0 d1 p'⟩
theorem zc2 {ns:List Int}(hn:ns.length<=63):W (z1z [.fl (ns.map .int)]) [] (λd h'=>d=.ref 2/\PS h' 0 []):=by
 refine z1W ?_;show W (z1B [some (.fl (ns.map .int)),none]) [] _;unfold z1B z4Y;rw[w_cons];simp only[K0s,K0r,j3,W_pure,z09,e2,eVar,gN,sAsg];have src:∀(γ:G) (h:AH),γ[0]?=some (some (.fl (ns.map .int)))->z1b (eVar 0) γ h=.ok (.con (ns.map .int)) h:=λγ h e=>by
  unfold z1b eVar;rw[e];rfl
 refine W.of (z1D (src:=.con (ns.map .int)) (λd=>match d with|.int t=>decide (1000000000000000000<=t)|_=>false) (λd=>d) (src _ _ rfl) (λ_=>trivial) (by simp[Src.items];omega) λd hd=>?_) ?_
 ·obtain⟨t,ht,rfl⟩:=K0v.mp hd;refine⟨[.(i t)],λh=>rfl,λj=>?_,λ_ j=>rfl⟩;simp only[K01,bindM,pureM,zI6,zf7,z1x]
 rw[show (Src.con (ns.map D.int)).items=ns.map D.int from rfl,z2k];rw[w_cons];simp only[K0k,K01,K0c,j3,W_pure,Z1,aNil,z22,eLst,eVar,sRet];refine W.of (z1D (src:=.con (ns.map .int)) (λd=>match d with|.int t=>decide (t<1000000000000000000)|_=>false) (λd=>d) (src _ _ rfl) (λ_=>trivial) (by simp[Src.items];omega) λd hd=>?_) ?_
 ·obtain⟨t,ht,rfl⟩:=K0v.mp hd;refine⟨[.(i t)],λh=>rfl,λj=>?_,λ_ j=>rfl⟩;simp only[K01,bindM,pureM,zI6,z94,z1x]
 rw[show (Src.con (ns.map D.int)).items=ns.map D.int from rfl,z2k];refine W.of (a:=.ref 2) (h':=Pool (ns.filter λi=>decide (1000000000000000000<=i)) (ns.filter λi=>decide (i<1000000000000000000)) 5 0 []) ?_ ?_
 ·unfold newL;rw[if_pos (by simp;decide)];rfl
 ·refine⟨rfl,_,_,5,0,rfl,by decide,by decide,by decide,by decide,?_,?_⟩
  ·exact K0l (K3t _ _) hn
  ·exact K0l (K3t _ _) hn
theorem z7Q {h:AH}{k:Int}{r:AH}{i:Nat}{start:Str}{ns:List Str}(p:PS h k r) (hk:k<900000) (lo:low start) (hs:start.length<=4) (e:r[i]?=.(l (ns.map .str))) (hn:ns.length<=7) :
 W (runF 9 z18 [.ref 2,.str start,.ref (i+3)]) h (λd h'=>∃x j,d=.str x/\PS h' (k+5) (r++j)/\z80 x/\x∉ns):=by
 refine z1W ?_;show W (z18 [.(r 2),.(s start),.(r (i+3)),none,none,none,none,none,none]) h _;unfold z18;rw[show ("abcdefghijklmnopqrstuvwxyz":Str)=abc from rfl];rw[w_cons];simp only[K0s,K0r,j3,W_pure,z09,e2,eVar,gN,sAsg];rw[w_cons];simp only[K0k,K01,K0s,K0r,j3,W_pure,z09,eVar,gN,sAsg];rw[w_cons];refine z0h (λc γ h=>∃x w,γ=[.(r 2),.(s start),.(r (i+3)),.(s abc),.(s x),w,none,none,none]/\PS h (k+1+c) r/\low x/\x.length<=4+c) (λ_ _=>False) ?_;simp only[K01,K07,K0c,K0y,z0T,j3,z0O,W_pure,Z1,aNil,z09,z22,eFn,eVar,if_true];refine z0d p (by omega) (by decide) (by decide) λd h1 d0 d1 p1=>?_;refine⟨d.toNat,by rw[K32 d0],by omega,⟨start,none,rfl,by simpa using p1,lo,by omega⟩,?_,?_,λ_ _ q=>q.elim⟩
 ·rintro c γ h2 hc ⟨x,w,rfl,p2,lx,hx⟩;rw[w_cons];simp only[K0k,K01,K07,K0c,K0s,K0r,K0y,z0T,j3,z0O,W_pure,Z1,aNil,z09,e2,eFn,eVar,gN,if_true,sAsg,z7e];refine z0d p2 (by omega) (by decide) (by decide) λd h1 d0 d1 p1=>?_;refine z4v (k:=k) (r:=r) d0 d1 (by omega) ?_;refine⟨_,_,rfl,p1.up (by omega),z5y lx (by omega) (by omega),by rw[len_app,z3h];omega⟩
 rintro γ h2 ⟨x,w,rfl,p2,lx,hx⟩;rw[w_cons];simp only[K01,K07,K0c,K0s,K0r,K0y,z0T,j3,z0O,W_pure,Z1,aNil,z09,eFn,eVar,gN,if_true,sAsg];refine z0d (p2.up (show _<=k+4 by omega)) (by omega) (by decide) (by decide) λl h3 l0 l1 p3=>?_;rw[w_cons];simp only[K0s,K0r,j3,W_pure,Z1,aNil,z09,eLst,gN,sAsg];rw[show [D.str "yes",D.str "no",D.str "not",D.str "and",D.str "or",D.str "step",D.str "some",D.str "all",D.str "next",D.str "once",D.str "ever",D.str "until",D.str "unless"]=words.map D.str from rfl];refine z1v p3 (by decide) λh4 p4=>?_;rw[w_cons];refine z0h (λc γ h=>∃w w',γ=[.(r 2),.(s start),.(r (i+3)),.(s abc),.(s x),w,.(i l),.(r (r.length+3)),w']/\PS h (k+5) (r++[.lst (words.map .str)])/\∀c':Nat,c'<c->cand x l c'∈words\/cand x l c'∈ns) (λd h=>∃c:Nat,d=.str (cand x l c)/\cand x l c∉words/\cand x l c∉ns/\PS h (k+5) (r++[.lst (words.map .str)])) ?_;rw[W_pure];refine⟨26,rfl,by decide,⟨_,_,rfl,p4.up (by omega),λc' hc=>by omega⟩,?_,?_,?_⟩
 ·rintro c γ h5 hc ⟨w,w',rfl,p5,hb⟩;rw[w_cons];simp only[K0k,K01,K0s,K0r,j3,W_pure,z2f,z09,e2,eVar,gN,sAsg];have m1:fMod (.int (l+c)) (.int 26)=pure (.int ((l+c) % 26)):=rfl;rw[m1,W_pure];refine z4v (k:=k) (r:=r) (K4n _ (by decide)) (K3q _ (by decide)) (by omega) ?_;rw[w_cons];simp only[K29,K0k,K01,j3,z0O,W_pure,cAnd,z09,if_false,sIf,z7e];refine W.of (zh0 p5 z1w) ?_;rw[z1x,W_pure];by_cases q1:cand x l c∈words
  ·have:(decide (x++{ cps:=#[((l+(c:Int)) % 26).toNat+97] }∈words) != true)=false:=by
    rw[show decide (x++{ cps:=#[((l+(c:Int)) % 26).toNat+97] }∈words)=true from decide_eq_true q1];rfl
   rw[this];simp only[K29,if_false];refine⟨_,_,rfl,p5,λc' hc'=>?_⟩;by_cases e':c'=c
   ·subst e';exact .inl q1
   ·exact hb c' (by omega)
  ·have:(decide (x++{ cps:=#[((l+(c:Int)) % 26).toNat+97] }∈words) != true)=true:=by
    rw[show decide (x++{ cps:=#[((l+(c:Int)) % 26).toNat+97] }∈words)=false from decide_eq_false q1];rfl
   rw[this];simp only[if_true];refine W.of (zh0 p5 (z0r e)) ?_;by_cases q2:cand x l c∈ns
   ·have:(decide (x++{ cps:=#[((l+(c:Int)) % 26).toNat+97] }∈ns) != true)=false:=by
     rw[show decide (x++{ cps:=#[((l+(c:Int)) % 26).toNat+97] }∈ns)=true from decide_eq_true q2];rfl
    rw[this];simp only[K29,W_pure,z1x,if_false];refine⟨_,_,rfl,p5,λc' hc'=>?_⟩;by_cases e':c'=c
    ·subst e';exact .inr q2
    ·exact hb c' (by omega)
   ·have:(decide (x++{ cps:=#[((l+(c:Int)) % 26).toNat+97] }∈ns) != true)=true:=by
     rw[show decide (x++{ cps:=#[((l+(c:Int)) % 26).toNat+97] }∈ns)=false from decide_eq_false q2];rfl
    rw[this];simp only[W_pure,z1x,if_true];rw[w_cons];simp only[K0k,K01,j3,W_pure,z22,eVar,sRet];exact⟨c,rfl,q1,q2,p5⟩
 ·rintro γ h5 ⟨w,w',rfl,p5,hb⟩;exact(zI1 l0 hn hb).elim
 ·rintro d h5 ⟨c,rfl,q1,q2,p5⟩;refine⟨cand x l c,[.lst (words.map .str)],rfl,p5,⟨?_,?_,?_,q1⟩,q2⟩
  ·unfold cand;rw[len_app,z3h];omega
  ·unfold cand;rw[len_app,z3h];omega
  ·exact z5y lx (by omega) (by omega)
theorem zb7 {h:AH}{k:Int}{r:AH}{i:Nat}{start:Str}{ns:List Str}(p:PS h k r) (c:CL r) (hk:k<900000) (lo:low start) (hs:start.length<=4) (e:r[i]?=.(l (ns.map .str))) (hn:ns.length<=7) :
 W (z1C [.ref 2,.str start,.ref (i+3)]) h (λd h'=>∃x,d=.str x/\PS h' (k+5) r/\z80 x/\x∉ns) :=
 z4u p c ((z7Q p hk lo hs e hn).mono λd h1 ⟨x,j,e,p1,g,n⟩=>⟨_,j,p1,by subst e;rfl,λh2 p2=>⟨x,e,p2,g,n⟩⟩)
theorem z59 {h:AH}{k:Int}{r:AH}{n:Nat}(p:PS h k r) (cl:CL r) (hk:k<800000) (hn:n<=8) {Q:D->AH->Prop}(z:∀ns h',ns.length=n->NS ns->PS h' (k+45) (r++[.lst (ns.map .str)])->Q (.ref (r.length+3)) h') :
 W (z0f [.ref 2,.int n]) h Q:=by
 refine zC2 p cl ?_;refine z1W ?_;show W (z1e [.(r 2),.(i n),none,none,none,none]) h _;unfold z1e;rw[show ("abcdefghijklmnopqrstuvwxyz":Str)=abc from rfl];refine zv9 (.str abc) _ rfl rfl ?_;refine zv9 (.str "") _ rfl rfl ?_;rw[w_cons];refine z0h (λc γ h=>∃x w,γ=[.(r 2),.(i n),.(s abc),.(s x),w,none]/\PS h (k+1+c) r/\low x/\x.length<=c) (λ_ _=>False) ?_;refine z61 p cl ?_;simp only[K01,K07,K0c,K0s,K0r,K0y,z0T,j3,z0O,W_pure,Z1,aNil,z09,z22,e2,eFn,eLst,eVar,if_true];refine z1v p (by decide) λh1 p1=>?_;refine z0d p1 (by omega) (by decide) (by decide) λd h2 d0 d1 p2=>?_;obtain⟨v,hv,ea⟩:∃v:Nat,v<=4/\atI [D.int 0,D.int 0,D.int 1,D.int 4] d=.(i v):=by
  have:d=0\/d=1\/d=2\/d=3:=by omega
  rcases this with rfl|rfl|rfl|rfl
  ·exact⟨0,by decide,rfl⟩
  ·exact⟨0,by decide,rfl⟩
  ·exact⟨1,by decide,rfl⟩
  ·exact⟨4,by decide,rfl⟩
 refine z5J p2 z1w ea ?_;refine⟨_,_,p2,rfl,λh2 p2=>⟨v,rfl,by omega,⟨_,none,rfl,by simpa using p2,zw1,by rw[zm9];omega⟩,?_,?_,λ_ _ q=>q.elim⟩⟩
 ·rintro c γ h3 hc ⟨x,w,rfl,p3,lx,hx⟩;rw[w_cons];simp only[K0k,K01,K07,K0c,K0s,K0r,K0y,z0T,j3,z0O,W_pure,Z1,aNil,z09,e2,eFn,eVar,gN,if_true,sAsg,z7e];refine z0d p3 (by omega) (by decide) (by decide) λd h1 d0 d1 p1=>?_;refine z4v (k:=k) (r:=r) d0 d1 (by omega) ?_;refine⟨_,_,rfl,p1.up (by omega),z5y lx (by omega) (by omega),by rw[len_app,z3h];omega⟩
 rintro γ h3 ⟨x,w,rfl,p3,lx,hx⟩;refine z8c ?_;simp only[K0s,K0r,j3,W_pure,aNil,eLst];refine z1v p3 (by decide) λh4 p4=>?_;rw[w_cons];refine z0h (λc γ h=>∃ns w,γ=[.(r 2),.(i n),.(s abc),.(s x),w,.(r (r.length+3))]/\PS h (k+5+5 * c) (r++[.lst (ns.map .str)])/\ns.length=c/\NS ns) (λ_ _=>False) ?_;simp only[K0k,K01,W_pure,z09,z22,eVar];refine⟨n,rfl,by omega,⟨[],_,rfl,p4.up (by omega),rfl,⟨K7a,by simp⟩⟩,?_,?_,λ_ _ q=>q.elim⟩
 ·rintro c γ h5 hc ⟨ns,w,rfl,p5,l5,n5⟩;rw[w_cons];simp only[K0k,K01,K07,K0c,K0s,K0r,K0y,z9f,z0T,j3,z0O,W_pure,Z1,aNil,z09,eFn,eM1,eVar,if_true,z0K,z7e];refine z2u p5 z1w ?_;refine(zb7 p5 (cl.put (z0x ns)) (by omega) lx (by omega) z1w (by omega)).mono λy h6 ⟨z,ey,p6,gz,nz⟩=>?_;subst ey;refine z6m p6 z1w (by simp;omega) λh7 p7=>?_;refine⟨ns++[z],_,rfl,?_,by simp[l5],⟨?_,?_⟩⟩
  ·have:=p7.up (k':=k+5+5 * ((c+1:Nat):Int)) (by omega);simpa using this
  ·rw[K1x];refine⟨n5.1,by simp,λa ha b hb=>?_⟩;simp at hb;subst hb;exact λe=>nz (e ▸ ha)
  ·intro y hy;rcases K0p.mp hy with q|q
   ·exact n5.2 y q
   ·simp at q;subst q;exact gz
 ·rintro γ h5 ⟨ns,w,rfl,p5,l5,n5⟩;exact zy0 _ rfl ⟨k+45,_,r.length,_,rfl,p5.up (by omega),K03 _,z1w,z0x ns,λh2 p2=>z ns h2 l5 n5 p2⟩
theorem za3 {x:D}{l:List Nat}{h:AH}(e:seqD x h=.ok (stD l) h) (hl:l.length<=2000) (hd:(setN l).length<64):z2F [x] h=.ok (.tup (stD (setN l))) h:=by
 have dl:(dedN l).length=(setN l).length:=by unfold setN;rw[z1u]
 have e1:z3A [x] h=.ok (.ref h.length) (h++[.set (kN (dedN l))]):=by
  unfold z3A;dsimp only;rw[M.bind_ok e,z8Y];dsimp only;rw[if_pos (by rw[zC8];omega),zE2];rfl
 have e2:z1L [.ref h.length] (h++[.set (kN (dedN l))])=.ok (.ref (h.length+1)) (h++[.set (kN (dedN l)),.lst (stD (setN l))]):=by
  unfold z1L;dsimp only;have g:getS h.length (h++[.set (kN (dedN l))])=.ok (kN (dedN l)) (h++[.set (kN (dedN l))]):=by
   unfold getS;rw[show (h++[O.set (kN (dedN l))])[h.length]?=some (.set (kN (dedN l))) by simp]
  rw[M.bind_ok g,z99];dsimp only;rw[if_pos (by unfold zN;rw[K6];omega),z5k];unfold newL;rw[if_pos (by rw[z2w,z1u];unfold sizeLine;omega)];simp[setN]
 have e3:J9 [.ref (h.length+1)] (h++[.set (kN (dedN l)),.lst (stD (setN l))])=.ok (.tup (stD (setN l))) (h++[.set (kN (dedN l)),.lst (stD (setN l))]):=by
  have ft:∀i:Nat,J9 [.ref i]=(do let x <- getL i;pure (.tup x)):=λ_=>rfl;rw[ft];have g:getL (h.length+1) (h++[.set (kN (dedN l)),.lst (stD (setN l))])=.ok (stD (setN l)) (h++[.set (kN (dedN l)),.lst (stD (setN l))]):=by
   unfold getL;rw[show (h++[O.set (kN (dedN l)),O.lst (stD (setN l))])[h.length+1]?=.(l ((stD (setN l)))) by simp]
  rw[M.bind_ok g];rfl
 have e4:clE (j7 J9 (Z1 (j7 z1L (Z1 (j7 z3A (Z1 (eVar 0) aNil)) aNil)) aNil)) [some x] h=.ok (.tup (stD (setN l))) h:=by
  refine z0Q (j:=[.set (kN (dedN l)),.lst (stD (setN l))]) ?_ (by simp only[y9];exact y0 λ_=>rfl);exact j9 (j9 (j9 (show eVar 0 [some x] h=.ok x h from rfl) e1) e2) e3
 have e5:runF 1 z37 [x] h=.ok (.tup (stD (setN l))) h:=z1o (J2 (h1:=h) _ e4 ⟨rfl,rfl⟩);show cln (runF 1 z37 [x]) h=_;refine z0Q (j:=[]) (by rw[K2d];exact e5) (by simp only[y9];exact y0 λ_=>rfl)
theorem zc9 {l:List Nat}{h:AH}{n:Nat}(e:h[n]?=.(l (stD l))) (hl:l.length<=2000) (hd:(setN l).length<64):z2F [.ref n] h=.ok (.tup (stD (setN l))) h:=za3 (by unfold seqD getL;dsimp only;rw[e]) hl hd
inductive Wr where
 | num (i:Int)
 | cell (x:Str) (i:Int)
structure Ts where
 x:Str
 s:Str
 w:Wr
structure Cm where
 x:Str
 ts:List Ts
 ps:List (Str×Wr)
structure Ce where
 x:Str
 sz:Int
 f:Int
inductive Ask where
 | test (t:Ts)
 | can (x:Str)
 | last (x:Str)
structure Pg where
 ce:List Ce
 cm:List Cm
 ma:List (Str×List (List Ask))
 kp:Bool
def wrD:Wr->D
 | .num i=>.int i
 | .cell x i=>.tup [.str x,.int i]
def tsD (t:Ts):D:=.tup [.str t.x,.str t.s,wrD t.w]
def psD (p:Str×Wr):D:=.tup [.str p.1,wrD p.2]
def cmD (c:Cm):D:=.tup [.str c.x,.tup (c.ts.map tsD),.tup (c.ps.map psD)]
def ceD (c:Ce):D:=.tup [.str c.x,.int c.sz,.int c.f]
def askD:Ask->D
 | .test t=>tsD t
 | .can x=>.tup [.str "can",.str x]
 | .last x=>.tup [.str "last",.str x]
def roD (l:List Ask):D:=.tup (l.map askD)
def mkD (m:Str×List (List Ask)):D:=.tup [.str m.1,.tup (m.2.map roD)]
def pgD (p:Pg):D:=.tup [.tup (p.ce.map ceD),.tup (p.cm.map cmD),.tup (p.ma.map mkD),.bl p.kp]
def rmD (R:List Int):D:=.tup (R.map .int)
def nms (ce:List Ce):List Str:=ce.map (·.x)
def atR (ns:List Str) (R:List Int) (x:Str):Int:=(R[ns.idxOf x]?).getD 0
def wrth (ns:List Str) (R:List Int):Wr->Int
 | .num i=>i
 | .cell x i=>atR ns R x+i
def z0C (ns:List Str) (R:List Int) (t:Ts):Bool :=
 if t.s = "is" then decide (atR ns R t.x=wrth ns R t.w) else if t.s = "not" then !decide (atR ns R t.x=wrth ns R t.w) else decide (atR ns R t.x<wrth ns R t.w)
def GW (ns:List Str):Wr->Prop
 | .num _=>True
 | .cell x _=>x∈ns
def GT (ns:List Str) (t:Ts):Prop:=t.x∈ns/\GW ns t.w/\(t.s = "is"\/t.s = "not"\/t.s = "under")
structure GC (ns:List Str) (c:Cm):Prop where
 ts:∀t∈c.ts,GT ns t
 ps:∀p∈c.ps,p.1∈ns/\GW ns p.2
 nd:(c.ps.map (·.1)).Nodup
 tl:c.ts.length<=4
 pl:c.ps.length<=4
def GA (p:Pg):Ask->Prop
 | .test t=>GT (nms p.ce) t
 | .can x=>x∈p.cm.map (·.x)
 | .last x=>p.kp=true/\x∈p.cm.map (·.x)
structure GM (p:Pg):Prop where
 nd:(p.ma.map (·.1)).Nodup
 l8:p.ma.length<=8
 rl:∀m∈p.ma,m.2.length<=8
 al:∀m∈p.ma,∀l∈m.2,l.length<=8
 ga:∀m∈p.ma,∀l∈m.2,∀a∈l,GA p a
structure GP (p:Pg):Prop where
 gm:GM p
 nd:(nms p.ce).Nodup
 l1:0<p.ce.length
 l4:p.ce.length<=4
 c8:p.cm.length<=8
 cs:∀c∈p.ce,0<c.sz/\c.sz<=9/\0<=c.f/\c.f<c.sz
 gc:∀c∈p.cm,GC (nms p.ce) c
def hk (ce:List Ce) (R:List Int):List (Key×D):=List.zipWith (λc v=>(K73 c.x,D.int v)) ce R
theorem za0:∀{ce:List Ce}{R:List Int}{x:Str},x∈nms ce->ce.length<=R.length->lkD (hk ce R) (.inr x)=.(i ((atR (nms ce) R x)))
 | [],R,x,h,_=>by simp[nms]at h
 | c::ce,[],x,_,l=>by simp at l
 | c::ce,v::R,x,h,l=>by
  by_cases e:c.x=x
  ·subst e;simp[lkD,hk,atR,nms,K6w]
  ·have m:x∈nms ce:=by
    simp only[nms,K0f,K0a]at h;exact h.resolve_left λz=>e z.symm
   have ih:=za0 (R:=R) m (by simpa using l);have e1:atR (nms (c::ce)) (v::R) x=atR (nms ce) R x:=by
    unfold atR nms;rw[K0f,K6w,show (c.x==x)=false from beq_eq_false_iff_ne.mpr e];rfl
   rw[e1,<- ih];unfold lkD hk;rw[K8u,K8x (by simp[e])]
theorem z9T {h:AH}{i:Nat}{kvs:List (Key×D)}{y d:D}{k:Key}(e:h[i]?=some (.dK kvs)) (hk:keyD y=some k) (l:lkD kvs k=some d):z2R (.ref i) y h=.ok d h:=by
 have g:dicD (.ref i) h=.ok kvs h:=by
  show getK i h=_;unfold getK;rw[e]
 unfold z2R;rw[M.bind_ok g,hk];dsimp only;rw[l];rfl
theorem zO1 {h:AH}{i:Nat}{kvs:List (Key×D)}{y:D}{k:Key}{neg:Bool}(e:h[i]?=some (.dK kvs)) (hk:keyD y=some k):fInD neg y (.ref i) h=.ok (.bl ((lkD kvs k).isSome != neg)) h:=by
 have g:dicD (.ref i) h=.ok kvs h:=by
  show getK i h=_;unfold getK;rw[e]
 unfold fInD;rw[M.bind_ok g,hk];rfl
theorem z66 {h:AH}{w:Wr}:z20 [wrD w] h=.ok (.bl (match w with|.num _=>false|.cell _ _=>true)) h:=by
 refine z2h (z1o ?_) rfl;show W (z28 [some (wrD w)]) h _;unfold z28;refine J2 _ (z2g (Z6 rfl) ?_) ⟨rfl,rfl⟩;cases w<;>rfl
section
variable {ns:List Str}{ce:List Ce}{R:List Int}{h:AH}{i:Nat}
theorem z9o {w:Wr}(e:h[i]?=some (.dK (hk ce R))) (g:GW (nms ce) w) (hl:ce.length<=R.length):z0W [wrD w,.ref i] h=.ok (.int (wrth (nms ce) R w)) h:=by
 refine z2h (z1o ?_) rfl;show W (z29 [some (wrD w),.(r i)]) h _;unfold z29;cases w with
 | num n =>
  refine Y2 false (cv_h (fn_h (ds:=[wrD (.num n)]) (ac_h (Z6 rfl) rfl) rfl z66)) ?_;rw[if_neg (by decide)];exact Y0 (J2 _ (Z6 rfl) ⟨rfl,rfl⟩)
 | cell x n =>
  refine Y2 true (cv_h (fn_h (ds:=[wrD (.cell x n)]) (ac_h (Z6 rfl) rfl) rfl z66)) ?_;rw[if_pos rfl];refine z0s (J2 (.int (atR (nms ce) R x+n)) (e2_h (x:=.int (atR (nms ce) R x)) (y:=.int n) (e2_h (Z6 rfl) (e2_h (x:=.tup [.str x,.int n]) (Z6 rfl) (y:=.int 0) rfl (by rw[ix0];rfl)) (z9T e rfl (za0 g hl))) (e2_h (x:=.tup [.str x,.int n]) (Z6 rfl) (y:=.int 1) rfl (by rw[ix1];rfl)) (by rw[z2f];rfl)) ⟨rfl,rfl⟩)
theorem z3N {x y:Str}{b:Bool}(e:decide (x=y)=b):fEq false (.str x) (.str y) h=.ok (.bl b) h:=by
 rw[zN8,e,K60];rfl
theorem zh6 {t:Ts}(e:h[i]?=some (.dK (hk ce R))) (g:GT (nms ce) t) (hl:ce.length<=R.length):z0o [tsD t,.ref i] h=.ok (.bl (z0C (nms ce) R t)) h:=by
 obtain⟨x,s,w⟩:=t;obtain⟨g1,g2,g3⟩:=g;simp only at g1 g2 g3;refine z2h (z1o ?_) rfl;show W (z1F [some (tsD ⟨x,s,w⟩),.(r i),none,none,none,none]) h _;unfold z1F;refine z05 (tsD ⟨x,s,w⟩) [some (tsD ⟨x,s,w⟩),.(r i),.(s x),.(s s),some (wrD w),none] (Z6 rfl) rfl ?_;refine z05 (.int (wrth (nms ce) R w)) [some (tsD ⟨x,s,w⟩),.(r i),.(s x),.(s s),some (wrD w),.(i ((wrth (nms ce) R w)))] (fn_h (ds:=[wrD w,.ref i]) (ac_h (Z6 rfl) (ac_h (Z6 rfl) rfl)) rfl (z9o e g2 hl)) rfl ?_;have ge:∀(γ:G),γ[1]?=some (.(r i))->γ[2]?=some (.(s x))->e2 z2R (eVar 1) (eVar 2) γ h=.ok (.int (atR (nms ce) R x)) h:=λγ a b=>e2_h (Z6 a) (Z6 b) (z9T e rfl (za0 g1 hl));rcases g3 with rfl|rfl|rfl
 ·refine Y2 true (cb_h (e2_h (Z6 rfl) (y:=.str "is") rfl (z3N (by decide +kernel)))) ?_;rw[if_pos rfl];refine z0s (J2 _ (e2_h (ge _ rfl rfl) (Z6 rfl) (by rw[z44];rfl)) ⟨?_,rfl⟩);unfold z0C;rw[if_pos rfl,K60]
 ·refine Y2 false (cb_h (e2_h (Z6 rfl) (y:=.str "is") rfl (z3N (by decide +kernel)))) ?_;rw[if_neg (by decide)];refine Y0 (Y2 true (cb_h (e2_h (Z6 rfl) (y:=.str "not") rfl (z3N (by decide +kernel)))) ?_);rw[if_pos rfl];refine z0s (J2 _ (e2_h (ge _ rfl rfl) (Z6 rfl) (by rw[z44];rfl)) ⟨?_,rfl⟩);unfold z0C;rw[if_neg (show ¬ ("not":Str) = "is" by decide +kernel),if_pos rfl,K7z]
 ·refine Y2 false (cb_h (e2_h (Z6 rfl) (y:=.str "is") rfl (z3N (by decide +kernel)))) ?_;rw[if_neg (by decide)];refine Y0 (Y2 false (cb_h (e2_h (Z6 rfl) (y:=.str "not") rfl (z3N (by decide +kernel)))) ?_);rw[if_neg (by decide)];refine Y0 (J2 _ (e2_h (ge _ rfl rfl) (Z6 rfl) (by rw[z94];rfl)) ⟨?_,rfl⟩);unfold z0C;rw[if_neg (show ¬ ("under":Str) = "is" by decide +kernel),if_neg (show ¬ ("under":Str) = "not" by decide +kernel)]
theorem z8p:∀x y:Ts,tsD x=tsD y->x=y:=by
 rintro⟨x,s,w⟩ ⟨y,t,v⟩ e;simp only[tsD,D.tup.injEq,K4i,D.str.injEq,and_true]at e;obtain⟨rfl,rfl,e⟩:=e;cases w<;>cases v<;>simp_all [wrD]
theorem zG7 {c:Cm}(e:h[i]?=some (.dK (hk ce R))) (g:GC (nms ce) c) (hl:ce.length<=R.length):z0D [cmD c,.ref i] h=.ok (.bl (c.ts.all (z0C (nms ce) R))) h:=by
 refine z2h (z1o ?_) rfl;show W (z2a [some (cmD c),.(r i)]) h _;unfold z2a;refine J2 (.bl ((c.ts.map (z0C (nms ce) R)).all id)) (zL0 ?_) ⟨?_,rfl⟩
 ·refine(z38 (h1:=h) (src:=.con (c.ts.map tsD)) tsD z8p (λ_=>true) (λt=>.bl (z0C (nms ce) R t)) (z0P (e2_h (Z6 rfl) (y:=.int 1) rfl (by show fIx (.tup _) _ _=_;rw[ix1];rfl))) rfl (λ_=>trivial) (by have:=g.tl;omega) λt ht=>⟨[.(r i),some (tsD t)],λh=>rfl,λj=>rfl,λ_ j=>?_⟩).trans ?_
  ·exact fn_h (ds:=[tsD t,.ref i]) (ac_h (Z6 rfl) (ac_h (Z6 rfl) rfl)) rfl (zh6 (by rw[K11 (K8.mp e).1];exact e) (g.ts t ht) hl)
  ·rw[filter_tt,K1d];rfl
 ·rw[Z0i];rfl
end
theorem z8l:∀{ce:List Ce}{R:List Int},ce.length<=R.length->(hk ce R).map (·.1)=(nms ce).map K73
 | [],R,_=>by simp[hk,nms]
 | c::ce,[],l=>by simp at l
 | c::ce,v::R,l=>by
  have:=z8l (ce:=ce) (R:=R) (by simpa using l);simp only[hk,nms,K8u,K0f]at this ⊢;rw[this]
theorem z58 {l:List Str}(h:l.Nodup):(l.map (K73:Str->Key)).Nodup:=by
 exact List.Pairwise.map _ (λa b n e=>n (Z21 e)) h
def kvH:D->Key×D
 | .tup [.tup (.str x::_),v]=>(.inr x,v)
 | _=>(.inl 0,.non)
theorem zh8 (ce:List Ce) (R:List Int):(zipD (ce.map ceD) (R.map .int)).map kvH=hk ce R:=by
 unfold zipD hk;rw[List.zipWith_map,List.map_zipWith];rfl
theorem zB8 {n:Nat}(ce:List Ce) (R:List Int):refO n (.dK (hk ce R))=true:=by
 show k9 n ((hk ce R).map (·.2))=true;refine z25 λx hx=>?_;obtain⟨y,hy,rfl⟩:=K0v.mp hx;unfold hk at hy;rw[List.mem_iff_getElem?]at hy;obtain⟨j,e⟩:=hy;rw[K98]at e;cases e1:ce[j]?<;>cases e2:R[j]?<;>rw[e1,e2]at e<;>cases e;rfl
section
variable {p:Pg}{R:List Int}{h:AH}
theorem pg0:fIx (pgD p) (.int 0) h=.ok (.tup (p.ce.map ceD)) h:=by unfold pgD;rw[ix0];rfl
theorem pg1:fIx (pgD p) (.int 1) h=.ok (.tup (p.cm.map cmD)) h:=by unfold pgD;rw[ix1];rfl
theorem pg2:fIx (pgD p) (.int 2) h=.ok (.tup (p.ma.map mkD)) h:=by unfold pgD;rw[ix2];rfl
theorem pg3:fIx (pgD p) (.int 3) h=.ok (.bl p.kp) h:=by
 unfold pgD;rw[ix_tup (show atI _ (3:Int)=some (.bl p.kp) from v3 (j:=3) rfl)];rfl
theorem zg0 (g:GP p) (hl:p.ce.length<=R.length):z1r [pgD p,rmD R] h=.ok (.ref h.length) (h++[.dK (hk p.ce R)]):=by
 show cln (runF 2 z1R [pgD p,rmD R]) h=_;refine z3b (j:=[.dK (hk p.ce R)]) (z1o ?_) rfl (z3a h) (K03 _) z1H (zB8 _ _);show W (z1R [some (pgD p),some (rmD R)]) h _;unfold z1R;refine J2 (.ref h.length) ?_ ⟨rfl,rfl⟩;have src:iZip (e2 fIx (eVar 0) (λ_=>pure (.int 0))) (eVar 1) [some (pgD p),some (rmD R)] h=.ok (.con (zipD (p.ce.map ceD) (R.map .int))) h:=by
  unfold iZip;rw[M.bind_ok (ac_h (e2_h (Z6 rfl) (y:=.int 0) rfl pg0) (ac_h (Z6 rfl) rfl))];rfl
 refine(zw0 (src:=.con (zipD (p.ce.map ceD) (R.map .int))) kvH src (λ_=>trivial) ?_ ?_ λd hd=>?_).trans ?_
 ·show ((zipD (p.ce.map ceD) (R.map .int)).map λd=>(kvH d).1).Nodup;rw[show ((zipD (p.ce.map ceD) (R.map .int)).map λd=>(kvH d).1)=((zipD (p.ce.map ceD) (R.map .int)).map kvH).map (·.1) by rw[K1d];rfl,zh8,z8l hl];exact z58 g.nd
 ·show (zipD (p.ce.map ceD) (R.map .int)).length<=1000;have:=g.l4;unfold zipD;rw[K9r,K6];omega
 ·obtain⟨j,e⟩:=K2r (show d∈zipD (p.ce.map ceD) (R.map .int) from hd);obtain⟨x,y,ex,ey,rfl⟩:=zh3 e;rw[K00]at ex ey;obtain⟨c,_,rfl⟩:=K09.mp ex;obtain⟨v,_,rfl⟩:=K09.mp ey;exact⟨[some (ceD c),.(i v)],.str c.x,λh=>rfl,λh=>rfl,rfl,λj=>e2_h (Z6 rfl) (y:=.int 0) rfl (by unfold ceD;rw[ix0];rfl),λj=>Z6 rfl⟩
 ·show Res.ok _ (h++[.dK ((zipD (p.ce.map ceD) (R.map .int)).map kvH)])=_;rw[zh8]
def kvW (q:Str×Wr):Key×D:=(.inr q.1,wrD q.2)
theorem z6t:∀l:List (Str×Wr),z2v (l.map psD)=some (l.map kvW)
 | []=>rfl
 | q::l=>by
  show (match keyD (.str q.1),z2v (l.map psD) with
   | some k,some l=>some ((k,wrD q.2)::l)
   | _,_=>none)=_
  rw[z6t l];rfl
theorem z85:∀(l acc:List (Key×D)),((acc++l).map (·.1)).Nodup->l.foldl (λacc p=>ptD acc p.1 p.2) acc=acc++l
 | [],acc,_=>by simp
 | q::l,acc,nd=>by
  rw[K3w,z4U,z85 l (acc++[q])]
  ·simp
  ·simpa using nd
  ·intro z;rw[K0w,K0f]at nd;exact(K1x.mp nd).2.2 _ z _ (by simp) rfl
theorem zt4 (x:Str):∀l:List (Str×Wr),lkD (l.map kvW) (.inr x)=(l.lookup x).map wrD
 | []=>rfl
 | (y,w)::l=>by
  have ih:=zt4 x l;unfold lkD at ih ⊢;by_cases e:y=x
  ·subst e;simp[kvW,List.lookup]
  ·rw[K0f,K8x (by simp[kvW,e]),ih,K1u,show (x==y)=false from beq_eq_false_iff_ne.mpr λz=>e z.symm]
theorem zp9 {c:Cm}{ns:List Str}(g:GC ns c):z48 [.tup (c.ps.map psD)] h=.ok (.ref h.length) (h++[.dK (c.ps.map kvW)]):=by
 unfold z48;dsimp only;rw[z6t];dsimp only;have l:=g.pl;rw[if_pos (by rw[K6];omega),z85 _ [] (by
  rw[K5f,K1d];have:=z58 g.nd;rw[K1d]at this;exact this),K5f]
 unfold newK;rw[if_pos (by rw[K6];exact K0l l (by decide))]
theorem z8I {k:G->M Bool}{ma mb:G->M D}{γ:G}{b:Bool}{r:Res D}(e:k γ h=.ok b h) (e2:(if b=true then ma else mb) γ h=r):eIf k ma mb γ h=r:=by
 unfold eIf;rw[M.bind_ok e,<- e2];cases b<;>rfl
def newV (ns:List Str) (R:List Int) (c:Cm) (q:Ce):Int:=match c.ps.lookup q.x with
 | some w=>wrth ns R w % q.sz
 | none=>atR ns R q.x
def beh (p:Pg) (R:List Int) (k:Nat) (c:Cm):List Int:=p.ce.map (newV (nms p.ce) R c)++if p.kp=true then [(k:Int)] else []
theorem z73 {x:Str}{w:Wr}:∀{l:List (Str×Wr)},l.lookup x=some w->(x,w)∈l
 | [],e=>by cases e
 | (y,v)::l,e=>by
  rw[K1u]at e;split at e
  ·rename_i q;cases e;rw[beq_iff_eq.mp q];exact K0t
  ·exact K0j _ (z73 e)
theorem ze8 {i k:Nat}{c:Cm}(g:GP p) (hl:p.ce.length<=R.length) (ec:p.cm[k]?=some c) (e:h[i]?=some (.dK (hk p.ce R))):z0V [pgD p,.int (k:Nat),.ref i] h=.ok (rmD (beh p R k c)) h:=by
 have gc:=g.gc c (K0d ec);have li:=(K8.mp e).1;refine z0Q (j:=[.dK (c.ps.map kvW),.lst ((p.ce.map (newV (nms p.ce) R c)).map .int)]) (z1o ?_) (by unfold rmD;simp only[y9];exact z0I _);show W (z0U [some (pgD p),.(i (k:Nat)),.(r i),none,none,none,none,none]) h _;unfold z0U;refine z05 (.ref h.length) [some (pgD p),.(i (k:Nat)),.(r i),.(r h.length),none,none,none,none] (h1:=h++[.dK (c.ps.map kvW)]) (j9 (e2_h (x:=cmD c) (e2_h (x:=.tup (p.cm.map cmD)) (y:=.int (k:Nat)) (e2_h (Z6 rfl) (y:=.int 1) rfl pg1) (Z6 rfl) (by rw[ix_tup (v3 (by rw[K00,ec];rfl))];rfl)) (y:=.int 2) rfl (by unfold cmD;rw[ix2];rfl)) (zp9 gc)) rfl ?_;refine z5q (xs:=[]) (by simp) (λh=>rfl) ?_;rw[K0z];show W (Z3 _ _ [some (pgD p),.(i (k:Nat)),.(r i),.(r h.length),.(r ((h++[O.dK (c.ps.map kvW)]).length)),none,none,none]) (h++[.dK (c.ps.map kvW),.lst []]) _;rw[show (h++[O.dK (c.ps.map kvW)]).length=h.length+1 by simp];refine z2O (λγ h1=>∃a b d,γ=[some (pgD p),.(i (k:Nat)),.(r i),.(r h.length),.(r (h.length+1)),a,b,d]/\h1=h++[.dK (c.ps.map kvW),.lst ((p.ce.map (newV (nms p.ce) R c)).map .int)]) ?_ ?_
 ·refine z1p (λt γ h1=>∃a b d,γ=[some (pgD p),.(i (k:Nat)),.(r i),.(r h.length),.(r (h.length+1)),a,b,d]/\h1=h++[.dK (c.ps.map kvW),.lst (((p.ce.take t).map (newV (nms p.ce) R c)).map .int)]) (λ_ _=>False) ?_;refine W.of (z0P (e2_h (Z6 rfl) (y:=.int 0) rfl pg0)) ⟨⟨_,_,_,rfl,rfl⟩,λ_ _ _ _=>trivial,?_,?_,λ_ _ q=>q.elim⟩
  ·rintro t d γ h1 hd ⟨a1,a2,a3,rfl,rfl⟩;have hd':(p.ce.map ceD)[t]?=some d:=hd;rw[K00]at hd';obtain⟨q,eq,rfl⟩:=K09.mp hd';have lt:=(K8.mp eq).1;have qm:q∈p.ce:=K0d eq;have e1:(h++[O.dK (c.ps.map kvW),O.lst (((p.ce.take t).map (newV (nms p.ce) R c)).map .int)])[i]?=some (.dK (hk p.ce R)):=by rw[K11 li];exact e
   have e2':(h++[O.dK (c.ps.map kvW),O.lst (((p.ce.take t).map (newV (nms p.ce) R c)).map .int)])[h.length]?=some (.dK (c.ps.map kvW)):=by simp
   have e3:(h++[O.dK (c.ps.map kvW),O.lst (((p.ce.take t).map (newV (nms p.ce) R c)).map .int)])[h.length+1]?=.(l ((((p.ce.take t).map (newV (nms p.ce) R c)).map .int))):=by simp
   refine W.of (a:=[some (pgD p),.(i (k:Nat)),.(r i),.(r h.length),.(r (h.length+1)),.(s q.x),.(i q.sz),.(i q.f)]) rfl ?_;refine z1g rfl e3 (by have:=g.l4;simp;omega) (v:=.int (newV (nms p.ce) R c q)) ?_ ?_
   ·refine z8I (b:=(c.ps.lookup q.x).isSome) (cb_h (e2_h (Z6 rfl) (Z6 rfl) (by rw[zO1 e2' (k:=.inr q.x) rfl,zt4];simp))) ?_;unfold newV;cases el:c.ps.lookup q.x with
    | none =>
     show e2 z2R _ _ _ _=_;exact e2_h (Z6 rfl) (Z6 rfl) (z9T e1 rfl (za0 (K0v.mpr ⟨q,qm,rfl⟩) hl))
    | some w =>
     show e2 fMod _ _ _ _=_;have gw:=(gc.ps (q.x,w) (z73 el)).2;refine e2_h (x:=.int (wrth (nms p.ce) R w)) (fn_h (ds:=[wrD w,.ref i]) (ac_h (e2_h (Z6 rfl) (Z6 rfl) (z9T (d:=wrD w) e2' rfl (by rw[zt4,el];rfl))) (ac_h (Z6 rfl) rfl)) rfl (z9o e1 gw hl)) (Z6 rfl) (by rw[zf9 (g.cs q qm).1];rfl)
   ·refine Y4 ⟨_,_,_,rfl,?_⟩;rw[K2h _ _ (by omega),show h.length+1 - h.length=1 by omega];rw[K2i,eq];simp
  ·rintro γ h1 ⟨a1,a2,a3,rfl,rfl⟩;refine⟨_,_,_,rfl,?_⟩;show _++[_,O.lst (((p.ce.take (p.ce.map ceD).length).map _).map _)]=_;rw[K6,K1f]
 ·rintro γ h1 ⟨a1,a2,a3,rfl,rfl⟩;have e3:(h++[O.dK (c.ps.map kvW),O.lst ((p.ce.map (newV (nms p.ce) R c)).map .int)])[h.length+1]?=.(l (((p.ce.map (newV (nms p.ce) R c)).map .int))):=by simp
  refine J2 (rmD (beh p R k c)) (z8I (cv_h (e2_h (Z6 rfl) (y:=.int 3) rfl pg3)) ?_) ⟨rfl,rfl⟩;unfold beh;cases ek:p.kp with
  | true =>
   rw[if_pos rfl,if_pos rfl];have st:z5C (eVar 4) (Z1 (eVar 1) aNil) [some (pgD p),.(i (k:Nat)),.(r i),.(r h.length),.(r (h.length+1)),a1,a2,a3] (h++[O.dK (c.ps.map kvW),O.lst ((p.ce.map (newV (nms p.ce) R c)).map .int)])=.ok ((p.ce.map (newV (nms p.ce) R c)).map .int++[.int (k:Nat)]) (h++[O.dK (c.ps.map kvW),O.lst ((p.ce.map (newV (nms p.ce) R c)).map .int)]):=by
    unfold z5C;rw[M.bind_ok (Z6 (d:=.ref (h.length+1)) rfl)];dsimp only;have gl:getL (h.length+1) (h++[O.dK (c.ps.map kvW),O.lst ((p.ce.map (newV (nms p.ce) R c)).map .int)])=.ok ((p.ce.map (newV (nms p.ce) R c)).map .int) (h++[O.dK (c.ps.map kvW),O.lst ((p.ce.map (newV (nms p.ce) R c)).map .int)]):=by unfold getL;rw[e3]
    rw[M.bind_ok gl,M.bind_ok (ac_h (Z6 rfl) (ds:=[]) rfl)];rfl
   unfold eTup;rw[M.bind_ok st,if_pos (K0l (show _<=5 by have:=g.l4;simp;omega) (by decide))];unfold rmD;rw[K0w];rfl
  | false =>
   rw[if_neg (by decide),if_neg (by decide),K2d];exact j9 (Z6 rfl) (z33 e3)
end
section
variable {ι:Type} [DecidableEq ι] [BEq ι] [LawfulBEq ι] {enc:ι->D}{h:AH}
theorem z3K (e:∀a b,eqN 24 h (enc a) (enc b)=some (decide (a=b))) (a:ι):∀l:List ι,inZ h (enc a) (l.map enc)=some (decide (a∈l))
 | []=>by simp[inZ]
 | b::l=>by
  rw[K0f];unfold inZ;rw[e,z3K e a l];dsimp only;congr 1;rw[K17,K33,decide_eq_true_eq,decide_eq_true_eq,decide_eq_true_eq,K0a,eq_comm]
theorem z4Q (e:∀a b,eqN 24 h (enc a) (enc b)=some (decide (a=b))) (a:ι) (l:List ι):z2l h (enc a) (l.map enc)=l.idxOf a:=by
 unfold z2l List.idxOf;rw[List.findIdx_map];congr 1;funext b;show decide (eqN 24 h (enc b) (enc a)=some true)=(b==a);rw[e,K17];simp
theorem z6L {i:Nat}{a:ι}{l:List ι}(e:∀a b,eqN 24 h (enc a) (enc b)=some (decide (a=b))) (hp:z00 (l.map enc)=true) (hl:l.length<=100000) (ei:h[i]?=.(l (l.map enc))) (ha:a∈l):z01 i (enc a) h=.ok (.int (l.idxOf a:Nat)) h:=by
 have g:getL i h=.ok (l.map enc) h:=by unfold getL;rw[ei]
 unfold z01;rw[M.bind_ok g];unfold ixX;rw[if_pos ⟨hp,by rw[K6];exact hl,by rw[z3K e,decide_eq_true ha]⟩,z4Q e]
theorem zO8 {a:ι}{l:List ι}(e:∀a b,eqN 24 h (enc a) (enc b)=some (decide (a=b))) (hp:z00 (l.map enc)=true) (hl:l.length<=100000) (ha:a∈l):ixX (l.map enc) (enc a) h=.ok (.int (l.idxOf a:Nat)) h:=by
 unfold ixX;rw[if_pos ⟨hp,by rw[K6];exact hl,by rw[z3K e,decide_eq_true ha]⟩,z4Q e]
end
theorem zM5 {n:Nat}{h:AH}(a b:Int):eqN (n+1) h (.int a) (.int b)=some (decide (a=b)):=by
 unfold eqN;show some (eqF (.int a) (.int b))=_;rfl
theorem z5j {h:AH}(a b:List Int):eqN 24 h (rmD a) (rmD b)=some (decide (a=b)):=z8G (enc:=.int) zM5 a b
theorem z49:∀l:List Int,z00 (l.map .int)=true
 | []=>rfl
 | a::l=>by simp only[K0f,z00,z16,z49 l,Bool.and_self]
theorem z3G:∀l:List (List Int),z00 (l.map rmD)=true
 | []=>rfl
 | a::l=>by
  rw[K0f];unfold z00;rw[z3G l,K4q];show z00 (a.map .int)=true;exact z49 a
theorem z3g:∀l:List Str,z00 (l.map .str)=true
 | []=>rfl
 | a::l=>by simp only[K0f,z00,z16,z3g l,Bool.and_self]
def stp (L:List (List Int)) (R:List Int):List (List Int):=if R∈L then L else L++[R]
theorem z4G {n:Nat}(L:List (List Int)):k9 n (L.map rmD)=true:=y0 λa=>by unfold rmD;simp only[y9];exact z0I a
theorem z92 {h:AH}{i:Nat}{R:List Int}{L:List (List Int)}{neg:Bool}(e:h[i]?=.(l (L.map rmD))):fInX neg (rmD R) (.ref i) h=.ok (.bl (decide (R∈L) != neg)) h:=by
 have g:seqD (.ref i) h=.ok (L.map rmD) h:=by
  show getL i h=_;unfold getL;rw[e]
 unfold fInX;rw[M.bind_ok g,z3K z5j]
theorem z81 {h:AH}{R:List Int}{L:List (List Int)}{neg:Bool}:fInX neg (rmD R) (.tup (L.map rmD)) h=.ok (.bl (decide (R∈L) != neg)) h:=by
 have g:seqD (.tup (L.map rmD)) h=.ok (L.map rmD) h:=rfl;unfold fInX;rw[M.bind_ok g,z3K z5j]
theorem z4m {L:List (List Int)}{R:List Int}:R∈stp L R:=by
 unfold stp;split
 ·assumption
 ·simp
theorem z7b {h:AH}{i:Nat}{R:List Int}{L:List (List Int)}(e:h[i]?=.(l (L.map rmD))) (hl:R∈L\/L.length<40) (l40:L.length<=40):z11 [.ref i,rmD R,.int 40] h=.ok (.int ((stp L R).idxOf R:Nat)) (h.set i (.lst ((stp L R).map rmD))):=by
 have li:=(K8.mp e).1;refine zm1 (j:=[]) (h0:=h.set i (.lst ((stp L R).map rmD))) ?_ (by simp) (ze1 (show k9 _ _=true from z4G _)) rfl;rw[K2d];refine z1o ?_;show W (z1I [.(r i),some (rmD R),.(i 40)]) h _;unfold z1I;have fin:∀h1:AH,h1=h.set i (.lst ((stp L R).map rmD))->eM1 z01 (eVar 0) (eVar 1) [.(r i),some (rmD R),.(i 40)] h1=.ok (.int ((stp L R).idxOf R:Nat)) h1:=λh1 e1=>by
  have e2:h1[i]?=.(l (((stp L R).map rmD))):=by rw[e1,K19 li]
  show (eVar 0 _ >>= λo=>z1Q o >>= λn=>eVar 1 _ >>= λy=>z01 n y) h1=_;rw[M.bind_ok (Z6 rfl),M.bind_ok (z2L e2),M.bind_ok (Z6 rfl)];refine z6L z5j (z3G _) ?_ e2 z4m;unfold stp;split
  ·omega
  ·rw[K06,K1i];omega
 by_cases q:R∈L
 ·refine Y2 false (cb_h (e2_h (Z6 rfl) (Z6 rfl) (by rw[z92 e,decide_eq_true q];rfl))) ?_;rw[if_neg (by decide)];have es:h=h.set i (.lst ((stp L R).map rmD)):=by
   unfold stp;rw[if_pos q];refine K4v λj=>?_;by_cases c:i=j
   ·subst c;rw[K19 li,e]
   ·rw[K1e c]
  refine Y0 (J2 _ (fin h es) ⟨rfl,es⟩)
 ·refine Y2 true (cb_h (e2_h (Z6 rfl) (Z6 rfl) (by rw[z92 e,decide_eq_false q];rfl))) ?_;rw[if_pos rfl];have l2:=hl.resolve_left q;refine z0s (Y2 false (cb_h (e2_h (j9 (Z6 rfl) (z4N e)) (Z6 rfl) (by rw[zf7,K6,decide_eq_false (by omega)];rfl))) ?_);rw[if_neg (by decide)];refine Y0 (z0s (z1g rfl e (by rw[K6];omega) (Z6 rfl) (Y0 ?_)));have es:h.set i (.lst (L.map rmD++[rmD R]))=h.set i (.lst ((stp L R).map rmD)):=by
   unfold stp;rw[if_neg q,K0w];rfl
  exact J2 _ (fin _ es) ⟨rfl,es⟩
section
variable {p:Pg}{R:List Int}{h:AH}
def nxF (p:Pg) (R:List Int) (k:Nat):Option (List Int):=match p.cm[k]? with
 | some c=>if c.ts.all (z0C (nms p.ce) R)=true then some (beh p R k c) else none
 | none=>none
def nxt (p:Pg) (R:List Int) (n:Nat):List (List Int):=(K0o n).filterMap (nxF p R)
theorem z3f (n:Nat):nxt p R (n+1)=nxt p R n++(nxF p R n).toList:=by
 unfold nxt;rw[K6v,List.filterMap_append];congr 1
theorem z9l (n:Nat):(nxt p R n).length<=n:=by
 unfold nxt;have:=List.length_filterMap_le (nxF p R) (K0o n);rwa [K1w]at this
theorem zy5 (g:GP p) (hl:p.ce.length<=R.length):z1f [pgD p,rmD R] h=.ok (.ref h.length) (h++[.lst ((nxt p R p.cm.length).map rmD)]):=by
 show cln (runF 6 z0J [pgD p,rmD R]) h=_;refine z3b (i:=h.length+1) (j:=[.dK (hk p.ce R),.lst ((nxt p R p.cm.length).map rmD)]) (z1o ?_) rfl (z3a h) (by omega) (by simp) (show k9 _ _=true from z4G _);show W (z0J [some (pgD p),some (rmD R),none,none,none,none]) h _;unfold z0J;refine z05 (.ref h.length) [some (pgD p),some (rmD R),.(r h.length),none,none,none] (fn_h (ds:=[pgD p,rmD R]) (ac_h (Z6 rfl) (ac_h (Z6 rfl) rfl)) rfl (zg0 g hl)) rfl ?_;refine z5q (xs:=[]) (by simp) (λh=>rfl) ?_;rw[K0z];show W (Z3 _ _ [some (pgD p),some (rmD R),.(r h.length),.(r ((h++[O.dK (hk p.ce R)]).length)),none,none]) (h++[.dK (hk p.ce R),.lst []]) _;rw[show (h++[O.dK (hk p.ce R)]).length=h.length+1 by simp];refine z2O (λγ h1=>∃a b,γ=[some (pgD p),some (rmD R),.(r h.length),.(r (h.length+1)),a,b]/\h1=h++[.dK (hk p.ce R),.lst ((nxt p R p.cm.length).map rmD)]) ?_ ?_
 ·refine z1p (λt γ h1=>∃a b,γ=[some (pgD p),some (rmD R),.(r h.length),.(r (h.length+1)),a,b]/\h1=h++[.dK (hk p.ce R),.lst ((nxt p R t).map rmD)]) (λ_ _=>False) ?_;have src:ze6 (e2 fIx (eVar 0) (λ_=>pure (.int 1))) [some (pgD p),some (rmD R),.(r h.length),.(r (h.length+1)),none,none] (h++[.dK (hk p.ce R),.lst []])=.ok (.con (z3P (p.cm.map cmD))) (h++[.dK (hk p.ce R),.lst []]):=by
   unfold ze6;rw[M.bind_ok (ac_h (e2_h (Z6 rfl) (y:=.int 1) rfl pg1) rfl)];rfl
  refine W.of src ⟨⟨_,_,rfl,rfl⟩,λ_ _ _ _=>trivial,?_,?_,λ_ _ q=>q.elim⟩
  ·rintro t d γ h1 hd ⟨a1,a2,rfl,rfl⟩;obtain⟨x,ex,rfl⟩:=z7U (show (z3P (p.cm.map cmD))[t]?=some d from hd);rw[K00]at ex;obtain⟨c,ec,rfl⟩:=K09.mp ex;have lt:=(K8.mp ec).1;have gc:=g.gc c (K0d ec);have e1:(h++[O.dK (hk p.ce R),O.lst ((nxt p R t).map rmD)])[h.length]?=some (.dK (hk p.ce R)):=by simp
   have e3:(h++[O.dK (hk p.ce R),O.lst ((nxt p R t).map rmD)])[h.length+1]?=.(l (((nxt p R t).map rmD))):=by simp
   refine W.of (a:=[some (pgD p),some (rmD R),.(r h.length),.(r (h.length+1)),.(i (t:Nat)),some (cmD c)]) rfl ?_;refine Y2 (c.ts.all (z0C (nms p.ce) R)) (cv_h (fn_h (ds:=[cmD c,.ref h.length]) (ac_h (Z6 rfl) (ac_h (Z6 rfl) rfl)) rfl (zG7 e1 gc hl))) ?_;have en:nxF p R t=if c.ts.all (z0C (nms p.ce) R)=true then some (beh p R t c) else none:=by unfold nxF;rw[ec]
   by_cases q:c.ts.all (z0C (nms p.ce) R)=true
   ·rw[if_pos q]at en ⊢;refine z0s (z1g rfl e3 (by have:=@z9l p R t;have:=g.c8;simp;omega) (v:=rmD (beh p R t c)) (fn_h (ds:=[pgD p,.int (t:Nat),.ref h.length]) (ac_h (Z6 rfl) (ac_h (Z6 rfl) (ac_h (Z6 rfl) rfl))) rfl (ze8 g hl ec e1)) (Y0 (Y4 ⟨_,_,rfl,?_⟩)));rw[K2h _ _ (by omega),show h.length+1 - h.length=1 by omega,z3f,en];simp
   ·rw[if_neg q]at en ⊢;refine Y0 (Y4 ⟨_,_,rfl,?_⟩);rw[z3f,en];simp
  ·rintro γ h1 ⟨a1,a2,rfl,rfl⟩;refine⟨_,_,rfl,?_⟩;show _++[_,O.lst ((nxt p R (z3P (p.cm.map cmD)).length).map _)]=_;unfold z3P;simp
 ·rintro γ h1 ⟨a1,a2,rfl,rfl⟩;exact J2 (.ref (h.length+1)) (Z6 rfl) ⟨rfl,rfl⟩
def fstR (p:Pg):List Int:=p.ce.map (·.f)++if p.kp=true then [-1] else []
def cmN (p:Pg):List Str:=p.cm.map (·.x)
def askH (p:Pg) (R:List Int):Ask->Bool
 | .test t=>z0C (nms p.ce) R t
 | .can x=>match p.cm[(cmN p).idxOf x]? with
  | some c=>c.ts.all (z0C (nms p.ce) R)
  | none=>false
 | .last x=>decide (R[p.ce.length]?=some ((cmN p).idxOf x:Int))
theorem z68:∀x y:Ask,askD x=askD y->x=y:=by
 rintro(t|x|x) (u|y|y) e
 ·exact congrArg _ (z8p _ _ e)
 ·simp[askD,tsD]at e
 ·simp[askD,tsD]at e
 ·simp[askD,tsD]at e
 ·simp only[askD,D.tup.injEq,K4i,D.str.injEq,and_true]at e;rw[e.2]
 ·simp only[askD,D.tup.injEq,K4i,D.str.injEq,and_true]at e;exact absurd e.1 (by decide +kernel)
 ·simp[askD,tsD]at e
 ·simp only[askD,D.tup.injEq,K4i,D.str.injEq,and_true]at e;exact absurd e.1 (by decide +kernel)
 ·simp only[askD,D.tup.injEq,K4i,D.str.injEq,and_true]at e;rw[e.2]
theorem z9j:∀x y:List Ask,roD x=roD y->x=y:=λx y e=>by
 simp only[roD,D.tup.injEq]at e;exact(Z0d (λa b q=>z68 a b q)).mp e
theorem zn6:∀x y:Str×List (List Ask),mkD x=mkD y->x=y:=by
 rintro⟨x,l⟩ ⟨y,m⟩ e;simp only[mkD,D.tup.injEq,K4i,D.str.injEq,and_true]at e;rw[e.1,(Z0d (λa b q=>z9j a b q)).mp e.2]
theorem zj6 {x:Str}(hx:x∈cmN p):∃c,p.cm[(cmN p).idxOf x]?=some c/\c∈p.cm:=by
 have lt:=K38.mpr hx;unfold cmN at lt ⊢;rw[K6]at lt;exact⟨_,K7 lt,K36 lt⟩
theorem ze2 {γ:G}{h:AH}(c8:p.cm.length<=8) (e0:γ[0]?=some (some (pgD p))):z0F [none] (z0S (e2 fIx (eVar 0) (λ_=>pure (.int 1)))) (gN 0) (λ_=>pure true) (e2 fIx (eVar 0) (λ_=>pure (.int 0))) γ h=.ok (.ref h.length) (h++[.lst ((cmN p).map .str)]):=by
 refine(z1D (src:=.con (p.cm.map cmD)) (λ_=>true) (λd=>match d with|.tup (v::_)=>v|_=>.non) (z0P (e2_h (Z6 e0) (y:=.int 1) rfl pg1)) (λ_=>trivial) (by simp[Src.items];omega) λd hd=>?_).trans ?_
 ·obtain⟨c,_,rfl⟩:=K0v.mp (show d∈p.cm.map cmD from hd);exact⟨[some (cmD c)],λh=>rfl,λj=>rfl,λ_ j=>e2_h (Z6 rfl) (y:=.int 0) rfl (by unfold cmD;rw[ix0];rfl)⟩
 ·rw[filter_tt];show Res.ok _ (h++[.lst ((p.cm.map cmD).map _)])=_;unfold cmN;rw[K1d,K1d];rfl
theorem eq_S {h:AH}(a b:Str):eqN 24 h (.str a) (.str b)=some (decide (a=b)):=z9c a b
theorem so_h {a:Ask}{h:AH}(g:GP p) (hl:R.length=p.ce.length+if p.kp=true then 1 else 0) (ga:GA p a):z4D [pgD p,askD a,rmD R] h=.ok (.bl (askH p R a)) h:=by
 have le:p.ce.length<=R.length:=by omega
 have g8:=g.c8;have key:W (runF 7 z3s [pgD p,askD a,rmD R]) h λd h'=>d=.bl (askH p R a)/\∃j,h'=h++j:=by
  refine z1W ?_;show W (z3s [some (pgD p),some (askD a),some (rmD R),none,none,none,none]) h _;unfold z3s;refine z05 (.ref h.length) [some (pgD p),some (askD a),some (rmD R),.(r h.length),none,none,none] (fn_h (ds:=[pgD p,rmD R]) (ac_h (Z6 rfl) (ac_h (Z6 rfl) rfl)) rfl (zg0 g le)) rfl ?_;have hd:∀J:AH,(h++[O.dK (hk p.ce R)]++J)[h.length]?=some (.dK (hk p.ce R)):=λJ=>by simp
  have two:∀(w x:Str),x∈cmN p->(∀v,(w = "can"/\v=askH p R (.can x))\/(¬ w = "can"/\R[p.ce.length]?≠none/\R.length=p.ce.length+1/\v=askH p R (.last x))->W (Z3 (sIf (λγ=>do let d <- e2 (fEq false) (j7 fLen (Z1 (eVar 1) aNil)) (λ_=>pure (.int 3)) γ;asB d) (Z3 (sRet (eFn 2 z0o (Z1 (eVar 1) (Z1 (eVar 3) aNil)))) bNil) bNil) (Z3 (sAsg (eVar 1) (gT 2 (x8 (gN 4) (x8 (gN 5) z2P)))) (Z3 (sAsg (eM1 z01 (z0F [none] (z0S (e2 fIx (eVar 0) (λ_=>pure (.int 1)))) (gN 0) (λ_=>pure true) (e2 fIx (eVar 0) (λ_=>pure (.int 0)))) (eVar 5)) (gN 6)) (Z3 (sIf (λγ=>do let d <- e2 (fEq false) (eVar 4) (λ_=>pure (.str "can")) γ;asB d) (Z3 (sRet (eFn 2 z0D (Z1 (e2 fIx (e2 fIx (eVar 0) (λ_=>pure (.int 1))) (eVar 6)) (Z1 (eVar 3) aNil)))) bNil) bNil) (Z3 (sRet (e2 (fEqX false) (e2 fIx (eVar 2) (eNeg (λ_=>pure (.int 1)))) (eVar 6))) bNil)))) [some (pgD p),.(g [.str w,.str x]),some (rmD R),.(r h.length),none,none,none]) (h++[.dK (hk p.ce R)]) (runW λd h'=>d=.bl v/\∃j,h'=h++j)):=λw x hx v hv=>by
   refine Y2 false (cb_h (e2_h (j9 (Z6 rfl) (by rw[z0A];rfl)) (y:=.int 3) rfl (by rw[z3R];rfl))) ?_;rw[if_neg (by decide)];refine Y0 (z05 (.tup [.str w,.str x]) [some (pgD p),.(g [.str w,.str x]),some (rmD R),.(r h.length),.(s w),.(s x),none] (Z6 rfl) rfl ?_);have en:(h++[O.dK (hk p.ce R)]++[O.lst ((cmN p).map .str)])[(h++[O.dK (hk p.ce R)]).length]?=.(l (((cmN p).map .str))):=z1H;refine z05 (.int ((cmN p).idxOf x:Nat)) [some (pgD p),.(g [.str w,.str x]),some (rmD R),.(r h.length),.(s w),.(s x),.(i (((cmN p).idxOf x:Nat)))] (h1:=h++[.dK (hk p.ce R)]++[.lst ((cmN p).map .str)]) ?_ rfl ?_
   ·show (z0F _ _ _ _ _ _ >>= λo=>z1Q o >>= λn=>eVar 5 _ >>= λy=>z01 n y) (h++[O.dK (hk p.ce R)])=_;rw[M.bind_ok (ze2 g8 rfl),M.bind_ok (z2L en),M.bind_ok (Z6 rfl)];exact z6L (enc:=.str) eq_S (z3g _) (by unfold cmN;rw[K6];omega) en hx
   obtain⟨c,ec,cm⟩:=zj6 hx;rcases hv with ⟨rfl,rfl⟩|⟨nw,nn,rl,rfl⟩
   ·refine Y2 true (cb_h (e2_h (Z6 rfl) (y:=.str "can") rfl (z3N (by decide +kernel)))) ?_;rw[if_pos rfl];refine z0s (J2 _ (fn_h (ds:=[cmD c,.ref h.length]) (ac_h (e2_h (x:=.tup (p.cm.map cmD)) (e2_h (Z6 rfl) (y:=.int 1) rfl pg1) (Z6 rfl) (by rw[ix_tup (v3 (by rw[K00,ec];rfl))];rfl)) (ac_h (Z6 rfl) rfl)) rfl (zG7 (hd _) (g.gc c cm) le)) ⟨?_,_,by rw[K0z]⟩);show D.bl _=D.bl (match p.cm[(cmN p).idxOf x]? with
     | some c=>c.ts.all (z0C (nms p.ce) R)
     | none=>false)
    rw[ec]
   ·refine Y2 false (cb_h (e2_h (Z6 rfl) (y:=.str "can") rfl (z3N (decide_eq_false nw)))) ?_;rw[if_neg (by decide)];obtain⟨v,ev⟩:∃v,R[p.ce.length]?=some v:=⟨_,K7 (by omega)⟩;have el:fIx (rmD R) (.int (-1)) (h++[O.dK (hk p.ce R)]++[O.lst ((cmN p).map .str)])=.ok (.int v) (h++[O.dK (hk p.ce R)]++[O.lst ((cmN p).map .str)]):=by
     unfold rmD;have:atI (R.map D.int) (-1)=.(i v):=by
      unfold atI ixN;rw[K6,rl];rw[if_neg (by decide),if_pos (by omega),show (-1+((p.ce.length+1:Nat):Int)).toNat=p.ce.length by omega,Option.bind_some,K00,ev];rfl
     rw[ix_tup this];rfl
    refine Y0 (J2 _ (e2_h (e2_h (Z6 rfl) (y:=.int (-1)) rfl el) (Z6 rfl) (by rw[z44];rfl)) ⟨?_,_,by rw[K0z]⟩);show D.bl _=D.bl (decide (R[p.ce.length]?=some ((cmN p).idxOf x:Int)));rw[ev];simp
  cases a with
  | test t =>
   refine Y2 true (cb_h (e2_h (j9 (Z6 (d:=tsD t) rfl) (by unfold tsD;rw[z0A];rfl)) (y:=.int 3) rfl (by rw[z3R];rfl))) ?_;rw[if_pos rfl];exact z0s (J2 _ (fn_h (ds:=[tsD t,.ref h.length]) (ac_h (Z6 rfl) (ac_h (Z6 rfl) rfl)) rfl (zh6 (by simp) ga le)) ⟨rfl,_,rfl⟩)
  | can x=>exact two "can" x ga _ (.inl ⟨rfl,rfl⟩)
  | last x =>
   have rl:R.length=p.ce.length+1:=by rw[hl,if_pos ga.1]
   exact two "last" x ga.2 _ (.inr ⟨by decide +kernel,by rw[K7 (by omega)];simp,rl,rfl⟩)
 obtain⟨d,h1,e1,rfl,j,rfl⟩:=key;exact z0Q e1 rfl
def worn (p:Pg) (R:List Int):List Str:=z1V ((p.ma.filter λm=>m.2.any λl=>l.all (askH p R)).map (·.1))
theorem zQ6 {l:List Ask}{h:AH}(g:GP p) (hl:R.length=p.ce.length+if p.kp=true then 1 else 0) (l8:l.length<=8) (ga:∀a∈l,GA p a):z35 [pgD p,roD l,rmD R] h=.ok (.bl (l.all (askH p R))) h:=by
 refine z2h (z1o ?_) rfl;show W (z3e [some (pgD p),some (roD l),some (rmD R)]) h _;unfold z3e;refine J2 (.bl ((l.map (askH p R)).all id)) (zL0 ?_) ⟨?_,rfl⟩
 ·refine(z38 (h1:=h) (src:=.con (l.map askD)) askD z68 (λ_=>true) (λa=>.bl (askH p R a)) (z0P (Z6 rfl)) rfl (λ_=>trivial) (by omega) λa ha=>⟨[some (pgD p),some (rmD R),some (askD a)],λh=>rfl,λj=>rfl,λ_ j=>?_⟩).trans ?_
  ·exact fn_h (ds:=[pgD p,askD a,rmD R]) (ac_h (Z6 rfl) (ac_h (Z6 rfl) (ac_h (Z6 rfl) rfl))) rfl (so_h g hl (ga a ha))
  ·rw[filter_tt,K1d];rfl
 ·rw[Z0i];rfl
theorem zt3 {h:AH}(g:GP p) (hl:R.length=p.ce.length+if p.kp=true then 1 else 0):z24 [pgD p,rmD R] h=.ok (.tup ((worn p R).map .str)) h:=by
 have gm:=g.gm;have l8:=gm.l8;refine z2h (z1o ?_) (by simp only[y9];exact z0x _);show W (z2b [some (pgD p),some (rmD R)]) h _;unfold z2b;obtain⟨ss,es⟩:∃ss,ss=(p.ma.filter λm=>m.2.any λl=>l.all (askH p R)).map (·.1):=⟨_,rfl⟩;have ls:ss.length<=8:=by
  have:=K3t (λm:Str×List (List Ask)=>m.2.any λl=>l.all (askH p R)) p.ma;rw[es,K6];omega
 refine J2 (.tup ((worn p R).map .str)) (z0Q (j:=[.lst (ss.map .str),.lst ((z1V ss).map .str)]) ?_ (by simp only[y9];exact z0x _)) ⟨rfl,rfl⟩;refine j9 (j9 (h1:=h++[.lst (ss.map .str)]) ?_ (z7H (ss:=ss) (i:=h.length) (by simp) (by omega))) ?_
 ·refine(z38 (h1:=h) (src:=.con (p.ma.map mkD)) mkD zn6 (λm=>m.2.any λl=>l.all (askH p R)) (λm=>.str m.1) (z0P (e2_h (Z6 rfl) (y:=.int 2) rfl pg2)) rfl (λ_=>trivial) (by omega) λm hm=>⟨[some (pgD p),some (rmD R),.(s m.1),.(g (m.2.map roD))],λh=>rfl,λj=>?_,λ_ j=>Z6 rfl⟩).trans ?_
  ·refine cv_h (b:=m.2.any λl=>l.all (askH p R)) ?_;rw[show (m.2.any λl=>l.all (askH p R))=((m.2.map λl=>l.all (askH p R)).any id) by rw[List.any_map];rfl];refine zQ3 ((z38 (h1:=h++j) (src:=.con (m.2.map roD)) roD z9j (λ_=>true) (λl=>.bl (l.all (askH p R))) (z0P (Z6 rfl)) rfl (λ_=>trivial) (by have:=gm.rl m hm;omega) λl ml=>⟨[some (pgD p),some (rmD R),some (roD l)],λh=>rfl,λj=>rfl,λ_ j=>?_⟩).trans ?_)
   ·exact fn_h (ds:=[pgD p,roD l,rmD R]) (ac_h (Z6 rfl) (ac_h (Z6 rfl) (ac_h (Z6 rfl) rfl))) rfl (zQ6 g hl (gm.al m hm l ml) (gm.ga m hm l ml))
   ·rw[filter_tt,K1d];rfl
  ·rw[es,K1d];rfl
 ·rw[z33 (xs:=(z1V ss).map .str) (by simp)];rw[K0z];unfold worn;rw[es];rfl
theorem zw5 (g:GP p):z1l [pgD p] h=.ok (rmD (fstR p)) h:=by
 refine z2h (z1o ?_) (by unfold rmD;simp only[y9];exact z0I _);show W (z1h [some (pgD p),none]) h _;unfold z1h;have l4:=g.l4;refine z05 (rmD (p.ce.map (·.f))) [some (pgD p),some (rmD (p.ce.map (·.f)))] (zl1 ?_ (z0I _)) rfl ?_
 ·refine(z1D (src:=.con (p.ce.map ceD)) (λ_=>true) (λd=>match d with|.tup (_::_::v::_)=>v|_=>.non) (z0P (e2_h (Z6 rfl) (y:=.int 0) rfl pg0)) (λ_=>trivial) (by simp[Src.items];omega) λd hd=>?_).trans ?_
  ·obtain⟨c,_,rfl⟩:=K0v.mp (show d∈p.ce.map ceD from hd);exact⟨[.(s c.x),.(i c.sz),.(i c.f)],λh=>rfl,λj=>rfl,λ_ j=>Z6 rfl⟩
  ·rw[filter_tt,K1d];show Res.ok _ (h++[.lst ((p.ce.map ceD).map _)])=_;rw[K1d];rfl
 ·refine J2 (rmD (fstR p)) (z8I (cv_h (e2_h (Z6 rfl) (y:=.int 3) rfl pg3)) ?_) ⟨rfl,rfl⟩;unfold fstR;cases ek:p.kp with
  | true =>
   rw[if_pos rfl,if_pos rfl];have st:z5C (eVar 1) (Z1 (eNeg (λ_=>pure (.int 1))) aNil) [some (pgD p),some (rmD (p.ce.map (·.f)))] h=.ok ((p.ce.map (·.f)).map .int++[.int (-1)]) h:=by
    unfold z5C;rw[M.bind_ok (Z6 (d:=rmD (p.ce.map (·.f))) rfl)];unfold rmD;dsimp only;rw[M.bind_ok (ac_h (ds:=[]) (d:=.int (-1)) rfl rfl)];rfl
   unfold eTup;rw[M.bind_ok st,if_pos (K0l (show _<=5 by simp;omega) (by decide))];unfold rmD;rw[K0w];rfl
  | false =>
   rw[if_neg (by decide),if_neg (by decide),K2d];exact Z6 rfl
end
theorem z6i {i n:Nat}(h2:i<n):z02 [.int i,.int 0,.int n]=pure (.bl true):=by
 have h1:(0:Int)<=i:=by omega
 have h3:(i:Int)<n:=by omega
 show cln (runF 3 Y6 [.int i,.int 0,.int n])=_;rw[z5Y (d:=.bl true),z4j];show Y6 [.(i i),.(i 0),.(i n)]=_;unfold Y6;refine zw9 _ ?_;simp only[K0k,K01,z1x,z2m,decide_eq_true h1,decide_eq_true h3,e3,eAnd,eIsi,eNot,eVar,if_true,z9a,zq9,z94];rfl
theorem z8H {xs:List D}{m n:Nat}(h0:m<=xs.length) (h1:xs.length<=n):k6 [.tup xs,.int m,.int n]=pure (.bl true):=by
 have h2:(xs.length:Int)<=n:=by omega
 have h3:(m:Int)<=xs.length:=by omega
 show cln (runF 3 z0L [.tup xs,.int m,.int n])=_;rw[z5Y (d:=.bl true),z4j];show z0L [.(g xs),.(i m),.(i n)]=_;unfold z0L;refine zw9 _ ?_;simp only[K0k,K01,Z1,aNil,z1x,z2m,decide_eq_true h2,decide_eq_true h3,e3,eAnd,j7,eIsi,eVar,if_true,zu5,zq9,z0A];rfl
theorem zn1 {xs:List D}{n:Nat}(h1:xs.length<=n):k6 [.tup xs,.int 0,.int n]=pure (.bl true):=z8H (m:=0) (K3a _) h1
def box:List (Int×Nat)->List (List Int)
 | []=>[[]]
 | q::r=>(K0o q.2).flatMap λ(i:Nat)=>(box r).map λR=>(q.1+(i:Int))::R
def prN:List (Int×Nat)->Nat
 | []=>1
 | q::r=>q.2 * prN r
def InB:List (Int×Nat)->List Int->Prop
 | [],[]=>True
 | q::r,v::R=>q.1<=v/\v<q.1+(q.2:Int)/\InB r R
 | _,_=>False
theorem z6f {α:Type}{g:Nat->List α}{m:Nat}(e:∀i,(g i).length=m):∀n,((K0o n).flatMap g).length=n * m
 | 0=>by simp
 | n+1=>by rw[K6v,List.flatMap_append,K06,z6f e n,List.flatMap_singleton,e,Nat.succ_mul]
theorem z7G:∀l:List (Int×Nat),(box l).length=prN l
 | []=>rfl
 | q::r=>by
  unfold box prN;rw[z6f (m:=prN r)];intro i;rw[K6,z7G r]
theorem z8o:∀{l:List (Int×Nat)}{R:List Int},InB l R->R∈box l
 | [],[],_=>by simp[box]
 | q::r,v::R,h=>by
  obtain⟨h1,h2,h3⟩:=h;unfold box;rw[List.mem_flatMap];refine⟨(v - q.1).toNat,by rw[K20];omega,K0v.mpr ⟨R,z8o h3,?_⟩⟩;rw[show q.1+((v - q.1).toNat:Int)=v by omega]
 | [],_::_,h=>h.elim
 | _::_,[],h=>h.elim
theorem InB.len:∀{l:List (Int×Nat)}{R:List Int},InB l R->R.length=l.length
 | [],[],_=>rfl
 | _::_,_::_,h=>by simp[InB.len h.2.2]
 | [],_::_,h=>h.elim
 | _::_,[],h=>h.elim
theorem InB.app:∀{l:List (Int×Nat)}{R:List Int}{t:List (Int×Nat)}{S:List Int},InB l R->InB t S->InB (l++t) (R++S)
 | [],[],_,_,_,h=>h
 | _::_,_::_,_,_,a,h=>⟨a.1,a.2.1,InB.app a.2.2 h⟩
 | [],_::_,_,_,h,_=>h.elim
 | _::_,[],_,_,h,_=>h.elim
def dimC (c:Ce):Int×Nat:=(0,c.sz.toNat)
theorem InB.map {f:Ce->Int}:∀{ce:List Ce},(∀c∈ce,0<=f c/\f c<c.sz)->InB (ce.map dimC) (ce.map f)
 | [],_=>trivial
 | c::ce,h=>⟨(h c K0t).1,by have:=h c K0t;show f c<0+(c.sz.toNat:Int);omega,InB.map λx hx=>h x (K0j _ hx)⟩
theorem zy4 {t:List (Int×Nat)}:∀{ce:List Ce}{R:List Int},(nms ce).Nodup->InB (ce.map dimC++t) R->∀q∈ce,0<=atR (nms ce) R q.x/\atR (nms ce) R q.x<q.sz
 | [],R,_,_,q,hq=>by cases hq
 | c::ce,[],_,h,_,_=>h.elim
 | c::ce,v::R,nd,h,q,hq=>by
  obtain⟨h1,h2,h3⟩:=h;have nd':(c.x::nms ce).Nodup:=nd;rw[K6t]at nd';rcases K0a.mp hq with rfl|hq
  ·have e:atR (nms (q::ce)) (v::R) q.x=v:=by simp[atR,nms,K6w]
   rw[e];have h1':(0:Int)<=v:=h1;have h2':v<0+(q.sz.toNat:Int):=h2;omega
  ·have ne:c.x≠q.x:=λe=>nd'.1 (by rw[e];exact K0v.mpr ⟨q,hq,rfl⟩);have e1:atR (nms (c::ce)) (v::R) q.x=atR (nms ce) R q.x:=by
    unfold atR nms;rw[K0f,K6w,show (c.x==q.x)=false from beq_eq_false_iff_ne.mpr ne];rfl
   rw[e1];exact zy4 nd'.2 h3 q hq
def dims (p:Pg):List (Int×Nat):=p.ce.map dimC++if p.kp=true then [(-1,p.cm.length+1)] else []
section
variable {p:Pg}{R:List Int}
def GR (p:Pg) (R:List Int):Prop:=InB (dims p) R
theorem GR.len (r:GR p R):R.length=p.ce.length+if p.kp=true then 1 else 0:=by
 rw[InB.len r];unfold dims;rw[K06,K6];split<;>rfl
theorem GR.le (r:GR p R):p.ce.length<=R.length:=by rw[r.len];omega
theorem zE8 (g:GP p):GR p (fstR p):=by
 unfold GR dims fstR;refine InB.app (InB.map λc hc=>⟨(g.cs c hc).2.2.1,(g.cs c hc).2.2.2⟩) ?_;split
 ·exact⟨Int.le_refl _,by show (-1:Int) < -1+((p.cm.length+1:Nat):Int);omega,trivial⟩
 ·trivial
theorem zG8 {k:Nat}{c:Cm}(g:GP p) (r:GR p R) (ec:p.cm[k]?=some c):GR p (beh p R k c):=by
 unfold GR dims beh;refine InB.app (InB.map λq hq=>?_) ?_
 ·unfold newV;have s:=(g.cs q hq).1;split
  ·exact⟨K4n _ (by omega),K3q _ s⟩
  ·exact zy4 g.nd r q hq
 ·have lt:=(K8.mp ec).1;split
  ·exact⟨by show (-1:Int)<=(k:Int);omega,by show (k:Int) < -1+((p.cm.length+1:Nat):Int);omega,trivial⟩
  ·trivial
theorem zP1 {k:Nat}{S:List Int}(g:GP p) (r:GR p R) (e:nxF p R k=some S):GR p S:=by
 unfold nxF at e;split at e
 ·rename_i c ec;split at e
  ·cases e;exact zG8 g r ec
  ·cases e
 ·cases e
theorem zi8 {n:Nat}(g:GP p) (r:GR p R):∀S∈nxt p R n,GR p S:=λS hS=>by
 obtain⟨k,_,e⟩:=K4h.mp hS;exact zP1 g r e
structure GL (p:Pg) (L:List (List Int)):Prop where
 nd:L.Nodup
 inn:∀R∈L,GR p R
theorem GL.le {L:List (List Int)}(b:prN (dims p)<=40) (l:GL p L):L.length<=40:=by
 have:=K4c l.nd (λR hR=>z8o (l.inn R hR));rw[z7G]at this;omega
theorem GL.stp {L:List (List Int)}(l:GL p L) (r:GR p R):GL p (stp L R):=by
 unfold FT.stp;split
 ·exact l
 ·rename_i q;refine⟨?_,λS hS=>?_⟩
  ·rw[K1x];refine⟨l.nd,by simp,λa ha b hb=>?_⟩;rw[K0m]at hb;subst hb;exact λe=>q (e ▸ ha)
  ·rcases K0p.mp hS with z|z
   ·exact l.inn S z
   ·rw[K0m]at z;subst z;exact r
theorem GL.room {L:List (List Int)}(b:prN (dims p)<=40) (l:GL p L) (r:GR p R):R∈L\/L.length<40:=by
 by_cases q:R∈L
 ·exact .inl q
 ·have:=(l.stp r).le b;unfold FT.stp at this;rw[if_neg q,K06,K1i]at this;exact .inr (by omega)
def stL (L:List (List Int)) (rs:List (List Int)):List (List Int):=rs.foldl stp L
def lds (L:List (List Int)):List (List Int)->List Nat
 | []=>[]
 | r::rs=>(stp L r).idxOf r::lds (stp L r) rs
theorem zu4 (L:List (List Int)) (R:List Int):L <+: stp L R:=by
 unfold stp;split
 ·exact K4m
 ·exact Z0c _ _
theorem z2p:∀(rs L:List (List Int)),L <+: stL L rs
 | [],L=>K4m
 | r::rs,L=>(zu4 L r).trans (z2p rs (stp L r))
theorem z75:∀{rs L:List (List Int)},GL p L->(∀S∈rs,GR p S)->GL p (stL L rs)
 | [],L,l,_=>l
 | r::rs,L,l,h=>z75 (rs:=rs) (l.stp (h r K0t)) λS hS=>h S (K0j _ hS)
theorem z9N (L rs:List (List Int)) (r:List Int):stL L (rs++[r])=stp (stL L rs) r:=by
 unfold stL;rw[K63];rfl
theorem z6O:∀(rs L:List (List Int)) (r:List Int),lds L (rs++[r])=lds L rs++[(stp (stL L rs) r).idxOf r]
 | [],L,r=>rfl
 | x::rs,L,r=>by
  show _::lds (stp L x) (rs++[r])=_;rw[z6O rs];rfl
theorem z60:∀(rs L:List (List Int)),(lds L rs).length=rs.length
 | [],_=>rfl
 | x::rs,L=>by
  show (lds (stp L x) rs).length+1=_;rw[z60 rs,K07]
theorem z8v:∀(rs L:List (List Int)),∀x∈lds L rs,x<(stL L rs).length
 | [],_,x,h=>by cases h
 | r::rs,L,x,h=>by
  rcases K0a.mp h with rfl|h
  ·exact K0i (K38.mpr z4m) (z2p rs (stp L r)).length_le
  ·exact z8v rs (stp L r) x h
def lay1 (p:Pg) (s:List (List Int)×List (List Nat)):List (List Int)×List (List Nat):=match s.1[s.2.length]? with
 | none=>s
 | some R=>(stL s.1 (nxt p R p.cm.length),s.2++[setN (lds s.1 (nxt p R p.cm.length))])
def layS (p:Pg):Nat->List (List Int)×List (List Nat)
 | 0=>([fstR p],[])
 | t+1=>lay1 p (layS p t)
structure LI (p:Pg) (s:List (List Int)×List (List Nat)):Prop where
 gl:GL p s.1
 le:s.2.length<=s.1.length
 z0:s.1[0]?=some (fstR p)
 rise:∀l∈s.2,l.Pairwise (·<·)
 lt:∀l∈s.2,∀x∈l,x<s.1.length
theorem z4C {α:Type}{L M:List α}{i:Nat}{x:α}(h:L <+: M) (e:L[i]?=some x):M[i]?=some x:=by
 obtain⟨t,rfl⟩:=h;rw[K11 (K8.mp e).1,e]
theorem LI.one {s:List (List Int)×List (List Nat)}(g:GP p) (l:LI p s):LI p (lay1 p s):=by
 unfold lay1;split
 ·exact l
 ·rename_i R e;have lt:=(K8.mp e).1;have r:=l.gl.inn R (K0d e);have pre:=z2p (nxt p R p.cm.length) s.1;refine⟨z75 l.gl (zi8 g r),?_,z4C pre l.z0,λm hm=>?_,λm hm x hx=>?_⟩
  ·have:=pre.length_le;rw[K06,K1i];show _<=(stL s.1 _).length;omega
  ·rcases K0p.mp hm with z|z
   ·exact l.rise m z
   ·rw[K0m]at z;subst z;exact z4V _
  ·rcases K0p.mp hm with z|z
   ·exact K0i (l.lt m z x hx) pre.length_le
   ·rw[K0m]at z;subst z;exact z8v _ _ x (setN_mem.mp hx)
theorem LI.at (g:GP p):∀t,LI p (layS p t)
 | 0=>⟨⟨by simp[layS],λR hR=>by rw[K0m.mp hR];exact zE8 g⟩,by simp[layS],rfl,λl hl=>(by cases hl),λl hl=>(by cases hl)⟩
 | t+1=>(LI.at g t).one g
theorem z2z {t:Nat}(e:(layS p t).1.length<=(layS p t).2.length):∀d,layS p (t+d)=layS p t
 | 0=>rfl
 | d+1=>by
  show lay1 p (layS p (t+d))=_;rw[z2z e d];unfold lay1;rw[K1j e]
theorem z4q (g:GP p):∀t,(layS p t).2.length=t\/(layS p t).1.length=(layS p t).2.length
 | 0=>.inl rfl
 | t+1=>by
  by_cases c:(layS p t).1.length<=(layS p t).2.length
  ·rw[show layS p (t+1)=layS p t from z2z c 1];exact .inr (Nat.le_antisymm c (LI.at g t).le)
  ·rcases z4q g t with e|e
   ·left;show (lay1 p (layS p t)).2.length=t+1;unfold lay1;rw[K7 (by omega)];dsimp only;rw[K06,K1i,e]
   ·exact absurd (K3y e) c
theorem z8y (g:GP p) (b:prN (dims p)<=40):(layS p 40).1.length=(layS p 40).2.length:=by
 rcases z4q g 40 with e|e
 ·have:=(LI.at g 40).gl.le b;have:=(LI.at g 40).le;omega
 ·exact e
end
def HP (h:AH) (r s m:List D) (J:AH):AH:=h++(.lst r::.lst s::.lst m::J)
section
variable {h J:AH}{r s m x:List D}
theorem HP0:(HP h r s m J)[h.length]?=.(l r):=by unfold HP;simp
theorem HP1:(HP h r s m J)[h.length+1]?=.(l s):=by unfold HP;simp
theorem HP2:(HP h r s m J)[h.length+2]?=.(l m):=by unfold HP;simp
theorem HPJ (j:Nat):(HP h r s m J)[h.length+3+j]?=J[j]?:=by
 unfold HP;rw[K2c (by omega),show h.length+3+j - h.length=j+1+1+1 by omega];rfl
theorem HPs0:(HP h r s m J).set h.length (.lst x)=HP h x s m J:=by unfold HP;simp
theorem HPs1:(HP h r s m J).set (h.length+1) (.lst x)=HP h r x m J:=by unfold HP;simp
theorem HPs2:(HP h r s m J).set (h.length+2) (.lst x)=HP h r s x J:=by unfold HP;simp
theorem HPsJ (j:Nat) {o:O}:(HP h r s m J).set (h.length+3+j) o=HP h r s m (J.set j o):=by
 unfold HP;rw[K2h _ _ (by omega),show h.length+3+j - h.length=j+1+1+1 by omega];rfl
theorem zH0 {X:AH}:HP h r s m J++X=HP h r s m (J++X):=by unfold HP;simp
theorem zJ0:(HP h r s m J).length=h.length+3+J.length:=by unfold HP;simp;omega
end
theorem zx5 {me:G->M D}{γ:G}{h h1:AH}{i:Nat}{xs:List D}(e:me γ h=.ok (.ref i) h1) (q:h1[i]?=.(l xs)):z1b me γ h=.ok (.lst i xs) h1:=by
 have g:getL i h1=.ok xs h1:=by unfold getL;rw[q]
 unfold z1b;rw[M.bind_ok e];dsimp only;rw[M.bind_ok g];rfl
theorem zE0 {me:G->M D}{mt:G->M Out}{γ:G}{h h1:AH}{a i:Nat}{xs ys:List D}{v:D}{Q:Out->AH->Prop}(ea:γ[a]?=some (.(r i))) (e0:h[i]?=.(l ys)) (ev:me γ h=.ok v h1) (e:h1[i]?=.(l xs)) (hl:xs.length<1000000) (z:W (mt γ) (h1.set i (.lst (xs++[v]))) Q):W (Z3 (z0K (eM1 w8 (eVar a) me)) mt γ) h Q:=by
 refine z6E (W.of (a:=.non) (h':=h1.set i (.lst (xs++[v]))) ?_ z);show (eVar a γ >>= λo=>z1Q o >>= λn=>me γ >>= λy=>w8 n y) h=_;rw[M.bind_ok (Z6 ea),M.bind_ok (z2L e0),M.bind_ok ev,z6Q e hl]
def mkR (p:Pg) (R:List Int):D:=.tup ((worn p R).map .str)
def layD (p:Pg) (s:List (List Int)×List (List Nat)):D:=.tup [.tup [.tup (stsD s.2),.tup ((s.1.take s.2.length).map (mkR p))],.tup (s.1.map rmD)]
theorem zq7 (p:Pg) (R:List Int) (n:Nat):y9 n (mkR p R)=true:=by unfold mkR;simp only[y9];exact z0x _
theorem zx4 (p:Pg) (s:List (List Int)×List (List Nat)) (n:Nat):y9 n (layD p s)=true:=by
 unfold layD stsD;simp only[y9,k9,K4q,K0h];exact⟨⟨y0 λa=>zL7 a,y0 λa=>zq7 p a n⟩,z4G _⟩
section
variable {p:Pg}{h:AH}
theorem zK5 (g:GP p) (b:prN (dims p)<=40):z31 [pgD p,.int 40] h=.ok (layD p (layS p 40)) h:=by
 have key:W (z7o [some (pgD p),.(i 40),none,none,none,none,none,none]) h (runW λa h'=>a=layD p (layS p 40)/\∃j,h'=h++j):=by
  unfold z7o;refine z5q (xs:=[]) (by simp) (λh=>rfl) ?_;show W (Z3 _ _ [some (pgD p),.(i 40),.(r h.length),none,none,none,none,none]) (h++[.lst []]) _;refine z6E (W.of (a:=.int 0) (h':=h++[.lst [rmD (fstR p)]]) ?_ ?_)
  ·refine fn_h (ds:=[.ref h.length,rmD (fstR p),.int 40]) (ac_h (Z6 rfl) (ac_h (fn_h (ds:=[pgD p]) (ac_h (Z6 rfl) rfl) rfl (zw5 g)) (ac_h (Z6 rfl) rfl))) rfl ?_;have n:=z7b (h:=h++[.lst []]) (i:=h.length) (R:=fstR p) (L:=[]) (by simp) (.inr (by decide)) (by decide);rw[show stp [] (fstR p)=[fstR p] from if_neg (by simp)]at n;rw[n];simp
  refine z5q (xs:=[]) (by simp) (λh=>rfl) ?_;refine z5q (xs:=[]) (by simp) (λh=>rfl) ?_;rw[show (h++[O.lst [rmD (fstR p)]]).length=h.length+1 by simp,show (h++[O.lst [rmD (fstR p)]]++[O.lst []]).length=h.length+2 by simp,show h++[O.lst [rmD (fstR p)]]++[O.lst []]++[O.lst []]=HP h ((layS p 0).1.map rmD) (stsD (layS p 0).2) (((layS p 0).1.take 0).map (mkR p)) [] by unfold HP layS stsD;simp];show W (Z3 _ _ [some (pgD p),.(i 40),.(r h.length),.(r (h.length+1)),.(r (h.length+2)),none,none,none]) _ _;refine zo8 (m:=40) (λm γ h1=>∃(t:Nat) (a b d:Option D) (J:AH),t+m=40/\(layS p t).2.length=t/\γ=[some (pgD p),.(i 40),.(r h.length),.(r (h.length+1)),.(r (h.length+2)),a,b,d]/\h1=HP h ((layS p t).1.map rmD) (stsD (layS p t).2) (((layS p t).1.take t).map (mkR p)) J) (by decide) ⟨0,_,_,_,_,rfl,rfl,rfl,rfl⟩ ?_;rintro m γ h1 ⟨t,a1,a2,a3,J,tm,lt,rfl,rfl⟩;have li:=LI.at g t;have l40:=li.gl.le b;refine⟨decide (t<(layS p t).1.length),?_,?_⟩
  ·refine cb_h (e2_h (j9 (Z6 rfl) (z4N HP1)) (j9 (Z6 rfl) (z4N HP0)) ?_);rw[z94,z3C,lt,K6];show Res.ok (D.bl (decide ((t:Int)<((layS p t).1.length:Int)))) _=_;rw[show decide ((t:Int)<((layS p t).1.length:Int))=decide (t<(layS p t).1.length) by rw[decide_eq_decide];omega]
  by_cases c:t<(layS p t).1.length
  ·rw[if_pos (decide_eq_true c)];obtain⟨m',rfl⟩:∃m',m=m'+1:=⟨m - 1,by omega⟩;refine⟨m',rfl,?_⟩;obtain⟨R,eR⟩:∃R,(layS p t).1[t]?=some R:=⟨_,K7 c⟩;have gr:=li.gl.inn R (K0d eR);obtain⟨L,eL⟩:∃L,L=(layS p t).1:=⟨_,rfl⟩;obtain⟨S,eS⟩:∃S,S=(layS p t).2:=⟨_,rfl⟩;have el:layS p (t+1)=(stL L (nxt p R p.cm.length),S++[setN (lds L (nxt p R p.cm.length))]):=by
    show lay1 p (layS p t)=_;unfold lay1;rw[lt,eR,<- eL,<- eS]
   obtain⟨rs,ers⟩:∃rs,rs=nxt p R p.cm.length:=⟨_,rfl⟩;rw[<- ers]at el;rw[<- eS]at lt;rw[<- eL,<- eS];rw[<- eL]at eR c l40;have gL:GL p L:=eL ▸ li.gl;have r8:rs.length<=8:=by rw[ers];exact K0l (z9l _) g.c8
   have rin:∀S∈rs,GR p S:=by rw[ers];exact zi8 g gr
   refine z05 (rmD R) [some (pgD p),.(i 40),.(r h.length),.(r (h.length+1)),.(r (h.length+2)),some (rmD R),a2,a3] (e2_h (Z6 rfl) (j9 (Z6 rfl) (z4N HP1)) (by rw[z3C,lt];exact ix_h HP0 (v3 (by rw[K00,eR];rfl)))) rfl ?_;refine z5q (xs:=[]) (by simp) (λh=>rfl) ?_;rw[zJ0,zH0];show W (Z3 _ _ [some (pgD p),.(i 40),.(r h.length),.(r (h.length+1)),.(r (h.length+2)),some (rmD R),.(r (h.length+3+J.length)),a3]) _ _;refine z2O (λγ h1=>∃d,γ=[some (pgD p),.(i 40),.(r h.length),.(r (h.length+1)),.(r (h.length+2)),some (rmD R),.(r (h.length+3+J.length)),d]/\h1=HP h ((stL L rs).map rmD) (stsD S) ((L.take t).map (mkR p)) (J++[.lst (stD (lds L rs)),.lst (rs.map rmD)])) ?_ ?_
   ·refine z1p (λu γ h1=>∃d,γ=[some (pgD p),.(i 40),.(r h.length),.(r (h.length+1)),.(r (h.length+2)),some (rmD R),.(r (h.length+3+J.length)),d]/\h1=HP h ((stL L (rs.take u)).map rmD) (stsD S) ((L.take t).map (mkR p)) (J++[.lst (stD (lds L (rs.take u))),.lst (rs.map rmD)])) (λ_ _=>False) ?_;refine W.of (a:=.lst (h.length+3+(J.length+1)) (rs.map rmD)) (h':=HP h (L.map rmD) (stsD S) ((L.take t).map (mkR p)) (J++[.lst [],.lst (rs.map rmD)])) (zx5 (fn_h (ds:=[pgD p,rmD R]) (ac_h (Z6 rfl) (ac_h (Z6 rfl) rfl)) rfl ?_) ?_) ⟨⟨_,rfl,rfl⟩,?_,?_,?_,λ_ _ q=>q.elim⟩
    ·rw[zy5 g gr.le,zJ0,zH0,K06,K0z,ers];rfl
    ·rw[HPJ];simp
    ·rintro u γ h1 ⟨d,rfl,rfl⟩;show (HP h _ _ _ _)[h.length+3+(J.length+1)]?=.(l (rs.map rmD));rw[HPJ];simp
    ·rintro u d γ h1 hd ⟨w,rfl,rfl⟩;have hd':(rs.map rmD)[u]?=some d:=hd;rw[K00]at hd';obtain⟨T,eT,rfl⟩:=K09.mp hd';have tk:rs.take (u+1)=rs.take u++[T]:=by rw[K2i,eT];rfl
     have gT:=rin T (K0d eT);have gl1:GL p (stL L (rs.take u)):=z75 gL λS hS=>rin S (K9i hS);refine W.of (a:=[some (pgD p),.(i 40),.(r h.length),.(r (h.length+1)),.(r (h.length+2)),some (rmD R),.(r (h.length+3+J.length)),some (rmD T)]) rfl ?_;have gJ:∀(r:List D) (l:List D),(HP h r (stsD S) ((L.take t).map (mkR p)) (J++[.lst l,.lst (rs.map rmD)]))[h.length+3+J.length]?=.(l l):=λr l=>by rw[HPJ];simp
     refine zE0 rfl (gJ _ _) (v:=.int ((stp (stL L (rs.take u)) T).idxOf T:Nat)) (fn_h (ds:=[.ref h.length,rmD T,.int 40]) (ac_h (Z6 rfl) (ac_h (Z6 rfl) (ac_h (Z6 rfl) rfl))) rfl (z7b HP0 (gl1.room b gT) (gl1.le b))) (by rw[HPs0];exact gJ _ _) (by rw[z2w,z60,K0g];omega) (Y4 ⟨_,rfl,?_⟩);rw[HPs0,HPsJ,z93,tk,z9N,z6O];simp
    ·rintro γ h1 ⟨d,rfl,rfl⟩;refine⟨_,rfl,?_⟩;show HP h ((stL L (rs.take (rs.map rmD).length)).map rmD) _ _ (J++[.lst (stD (lds L (rs.take (rs.map rmD).length))),_])=_;rw[K6,K1f]
   ·rintro γ h1 ⟨d,rfl,rfl⟩;have gJ:∀(r s:List D) (l:List D),(HP h r s ((L.take t).map (mkR p)) (J++[.lst l,.lst (rs.map rmD)]))[h.length+3+J.length]?=.(l l):=λr s l=>by rw[HPJ];simp
    have ll:(setN (lds L rs)).length<64:=by
     have:=zc3 (z8v rs L);have:=(z75 gL rin).le b;omega
    refine z1g rfl HP1 (by rw[z3C];omega) (v:=.tup (stD (setN (lds L rs)))) (fn_h (ds:=[.ref (h.length+3+J.length)]) (ac_h (Z6 rfl) rfl) rfl (zc9 (gJ _ _ _) (by rw[z60];omega) ll)) ?_;rw[HPs1];refine z1g rfl HP2 (by rw[K6,K0g];omega) (v:=mkR p R) (fn_h (ds:=[pgD p,rmD R]) (ac_h (Z6 rfl) (ac_h (Z6 rfl) rfl)) rfl (zt3 g gr.len)) ?_;rw[HPs2];refine Y4 ⟨m',K03 _,t+1,_,_,_,J++[.lst (stD (lds L rs)),.lst (rs.map rmD)],by omega,by rw[el];simp[lt],rfl,?_⟩;rw[el];have tk:(stL L rs).take (t+1)=L.take t++[R]:=by
     obtain⟨X,eX⟩:=z2p rs L;rw[<- eX,List.take_append_of_le_length (by omega),K2i,eR];rfl
    show HP h _ (stsD S++[.tup (stD (setN (lds L rs)))]) _ _=HP h _ (stsD (S++[setN (lds L rs)])) (((stL L rs).take (t+1)).map (mkR p)) _;rw[tk];unfold stsD;rw[K0w,K0w];rfl
  ·rw[if_neg (by rw[decide_eq_true_eq];exact c)];have es:layS p 40=layS p t:=by
    have:=z2z (p:=p) (t:=t) (by omega) m;rw[tm]at this;exact this
   have cl:(layS p t).1.length<=1000000:=by omega
   rw[es];refine J2 (h1:=HP h ((layS p t).1.map rmD) (stsD (layS p t).2) (((layS p t).1.take t).map (mkR p)) J) (layD p (layS p t)) ?_ ⟨rfl,_,rfl⟩;have:=zh9 (zh9 (j9 (Z6 (γ:=[some (pgD p),.(i 40),.(r h.length),.(r (h.length+1)),.(r (h.length+2)),a1,a2,a3]) (a:=3) rfl) (z33 (HP1 (h:=h) (r:=(layS p t).1.map rmD) (s:=stsD (layS p t).2) (m:=((layS p t).1.take t).map (mkR p)) (J:=J)))) (j9 (Z6 (a:=4) rfl) (z33 HP2))) (j9 (Z6 (a:=2) rfl) (z33 HP0));rw[this];unfold layD;rw[lt]
 show cln (runF 8 z7o [pgD p,.int 40]) h=_;obtain⟨o,h1,e1,e2⟩:=key;have:W (runF 8 z7o [pgD p,.int 40]) h λa h'=>a=layD p (layS p 40)/\∃j,h'=h++j:=z1W ⟨o,h1,e1,e2⟩;obtain⟨_,_,e3,rfl,j,rfl⟩:=this;exact z0Q e3 (zx4 _ _ _)
end
theorem z8z {ce:List Ce}{R:List Int}{x:Str}(hx:x∈nms ce) (hl:ce.length<=R.length):R[(nms ce).idxOf x]?=some (atR (nms ce) R x):=by
 have h1:=K38.mpr hx;have h2:(nms ce).length=ce.length:=by unfold nms;simp
 unfold atR;rw[K7 (by omega)];rfl
theorem zm3 {R:List Int}{a:Nat}{v:Int}{h:AH}(e:R[a]?=some v):fIx (rmD R) (.int (a:Nat)) h=.ok (.int v) h:=by
 unfold rmD;rw[ix_tup (v3 (by rw[K00,e];rfl))];rfl
section
variable {ce:List Ce}{R:List Int}{h:AH}{i:Nat}
theorem z6l (hl:ce.length<=1000):J6 [.tup (ce.map ceD)] h=.ok (.ref h.length) (h++[.lst ((nms ce).map .str)]):=by
 show cln (runF 1 J4 [.tup (ce.map ceD)]) h=_;refine z3b (j:=[.lst ((nms ce).map .str)]) (z1o ?_) rfl (z3a h) (K03 _) z1H (show k9 _ _=true from z0x _);show W (J4 [.(g (ce.map ceD))]) h _;unfold J4;refine J2 (.ref h.length) ?_ ⟨rfl,rfl⟩;refine(z1D (src:=.con (ce.map ceD)) (λ_=>true) (λd=>match d with|.tup (v::_)=>v|_=>.non) (z0P (Z6 rfl)) (λ_=>trivial) (by simp[Src.items];omega) λd hd=>?_).trans ?_
 ·obtain⟨c,_,rfl⟩:=K0v.mp (show d∈ce.map ceD from hd);exact⟨[some (ceD c)],λh=>rfl,λj=>rfl,λ_ j=>e2_h (Z6 rfl) (y:=.int 0) rfl (by unfold ceD;rw[ix0];rfl)⟩
 ·rw[filter_tt];show Res.ok _ (h++[.lst ((ce.map ceD).map _)])=_;unfold nms;rw[K1d,K1d];rfl
theorem z8i {x:Str}(e:h[i]?=.(l (((nms ce).map .str)))) (hx:x∈nms ce) (hl:ce.length<=1000) {mo ma:G->M D}{γ:G}(eo:mo γ h=.ok (.ref i) h) (ea:ma γ h=.ok (.str x) h):eM1 z01 mo ma γ h=.ok (.int ((nms ce).idxOf x:Nat)) h:=by
 show (mo γ >>= λo=>z1Q o >>= λn=>ma γ >>= λy=>z01 n y) h=_;rw[M.bind_ok eo,M.bind_ok (z2L e),M.bind_ok ea];exact z6L (enc:=.str) eq_S (z3g _) (by unfold nms;rw[K6];omega) e hx
theorem z7W {w:Wr}(e:h[i]?=.(l (((nms ce).map .str)))) (g:GW (nms ce) w) (hl:ce.length<=R.length) (h4:ce.length<=1000):v8 [wrD w,.ref i,rmD R] h=.ok (.int (wrth (nms ce) R w)) h:=by
 refine z2h (z1o ?_) rfl;show W (z0B [some (wrD w),.(r i),some (rmD R)]) h _;unfold z0B;cases w with
 | num n =>
  refine Y2 false (cv_h (z2g (Z6 rfl) rfl)) ?_;rw[if_neg (by decide)];exact Y0 (J2 _ (Z6 rfl) ⟨rfl,rfl⟩)
 | cell x n =>
  refine Y2 true (cv_h (z2g (Z6 rfl) rfl)) ?_;rw[if_pos rfl];refine z0s (J2 (.int (atR (nms ce) R x+n)) (e2_h (x:=.int (atR (nms ce) R x)) (y:=.int n) (e2_h (Z6 rfl) (z8i e g h4 (Z6 rfl) (e2_h (x:=.tup [.str x,.int n]) (Z6 rfl) (y:=.int 0) rfl (by rw[ix0];rfl))) (zm3 (z8z g hl))) (e2_h (x:=.tup [.str x,.int n]) (Z6 rfl) (y:=.int 1) rfl (by rw[ix1];rfl)) (by rw[z2f];rfl)) ⟨rfl,rfl⟩)
theorem zi0 {k l:G->M Bool}{γ:G}{a b:Bool}(e1:k γ h=.ok a h) (e2:l γ h=.ok b h):cOr k l γ h=.ok (a||b) h:=by
 cases a with
 | true=>exact zy2 e1
 | false=>rw[zG0 e1,e2];rfl
theorem z3x {k l:G->M Bool}{γ:G}{a b:Bool}(e1:k γ h=.ok a h) (e2:l γ h=.ok b h):cAnd k l γ h=.ok (a&&b) h:=by
 cases a with
 | true=>rw[z9v e1,e2];rfl
 | false=>exact z9t e1
theorem z40 {ts:List Ts}{d0:D}{src:Src}(c0:y9 0 (.bl true)=true) (es:∀γ:G,γ[0]?=some (some d0)->orE (z0S (eVar 0)) (z1b (eVar 0)) γ h=.ok src h) (ei:src.items=ts.map tsD) (eg:src.good h) (e:h[i]?=.(l (((nms ce).map .str)))) (g:∀t∈ts,GT (nms ce) t) (hl:ce.length<=R.length) (h4:ce.length<=1000):J1 [d0,.ref i,rmD R] h=.ok (.bl (ts.all (z0C (nms ce) R))) h:=by
 refine z2h (z1o ?_) rfl;show W (z0w [some d0,.(r i),some (rmD R),none,none,none,none,none]) h _;unfold z0w;rw[w_cons];refine z1p (λt γ h1=>∃a b c d f,γ=[some d0,.(r i),some (rmD R),a,b,c,d,f]/\h1=h/\(ts.take t).all (z0C (nms ce) R)=true) (λd h1=>d=.bl false/\h1=h/\ts.all (z0C (nms ce) R)=false) ?_;refine W.of (es _ rfl) ⟨⟨_,_,_,_,_,rfl,rfl,rfl⟩,λ_ _ _ q=>by obtain⟨_,_,_,_,_,_,rfl,_⟩:=q;exact eg,?_,?_,?_⟩
 ·rintro t d γ h1 hd ⟨a1,a2,a3,a4,a5,rfl,rfl,hp⟩;have hd':(ts.map tsD)[t]?=some d:=by rw[<- ei];exact hd
  rw[K00]at hd';obtain⟨⟨x,s,w⟩,eq,rfl⟩:=K09.mp hd';have tm:(⟨x,s,w⟩:Ts)∈ts:=K0d eq;obtain⟨g1,g2,g3⟩:=g _ tm;simp only at g1 g2 g3;refine W.of (a:=[some d0,.(r i),some (rmD R),.(s x),.(s s),some (wrD w),a4,a5]) rfl ?_;refine z05 (.int (atR (nms ce) R x)) [some d0,.(r i),some (rmD R),.(s x),.(s s),some (wrD w),.(i ((atR (nms ce) R x))),a5] (e2_h (Z6 rfl) (z8i e g1 h4 (Z6 rfl) (Z6 rfl)) (zm3 (z8z g1 hl))) rfl ?_;refine z05 (.int (wrth (nms ce) R w)) [some d0,.(r i),some (rmD R),.(s x),.(s s),some (wrD w),.(i ((atR (nms ce) R x))),.(i ((wrth (nms ce) R w)))] (fn_h (ds:=[wrD w,.ref i,rmD R]) (ac_h (Z6 rfl) (ac_h (Z6 rfl) (ac_h (Z6 rfl) rfl))) rfl (z7W e g2 hl h4)) rfl ?_;refine Y2 (!z0C (nms ce) R ⟨x,s,w⟩) ?_ ?_
  ·have E:∀(y:Str),(λγ=>do let d <- e2 (fEq false) (eVar 4) (λ_=>pure (.str y)) γ;asB d:G->M Bool) [some d0,.(r i),some (rmD R),.(s x),.(s s),some (wrD w),.(i ((atR (nms ce) R x))),.(i ((wrth (nms ce) R w)))] h1=.ok (decide (s=y)) h1:=λy=>cb_h (e2_h (Z6 rfl) (y:=.str y) rfl (z3N rfl));have C:∀(neg:Bool),(λγ=>do let d <- e2 (fEqX neg) (eVar 6) (eVar 7) γ;asB d:G->M Bool) [some d0,.(r i),some (rmD R),.(s x),.(s s),some (wrD w),.(i ((atR (nms ce) R x))),.(i ((wrth (nms ce) R w)))] h1=.ok (decide (atR (nms ce) R x=wrth (nms ce) R w) != neg) h1:=λneg=>cb_h (e2_h (Z6 rfl) (Z6 rfl) (by rw[z44];rfl));have U:(λγ=>do let d <- e2 fGe (eVar 6) (eVar 7) γ;asB d:G->M Bool) [some d0,.(r i),some (rmD R),.(s x),.(s s),some (wrD w),.(i ((atR (nms ce) R x))),.(i ((wrth (nms ce) R w)))] h1=.ok (decide (wrth (nms ce) R w<=atR (nms ce) R x)) h1:=cb_h (e2_h (Z6 rfl) (Z6 rfl) (by rw[zf7];rfl));rw[zi0 (z3x (E "is") (C true)) (zi0 (z3x (E "not") (C false)) (z3x (E "under") U))];congr 1;unfold z0C;rcases g3 with rfl|rfl|rfl
   ·rw[decide_eq_true (show ("is":Str) = "is" from rfl),decide_eq_false (show ¬ ("is":Str) = "not" by decide +kernel),decide_eq_false (show ¬ ("is":Str) = "under" by decide +kernel)];simp
   ·rw[decide_eq_true (show ("not":Str) = "not" from rfl),decide_eq_false (show ¬ ("not":Str) = "is" by decide +kernel),decide_eq_false (show ¬ ("not":Str) = "under" by decide +kernel)];simp only[if_neg (show ¬ ("not":Str) = "is" by decide +kernel),if_pos];simp
   ·rw[decide_eq_true (show ("under":Str) = "under" from rfl),decide_eq_false (show ¬ ("under":Str) = "is" by decide +kernel),decide_eq_false (show ¬ ("under":Str) = "not" by decide +kernel)];simp only[if_neg (show ¬ ("under":Str) = "is" by decide +kernel),if_neg (show ¬ ("under":Str) = "not" by decide +kernel)];by_cases q:atR (nms ce) R x<wrth (nms ce) R w
    ·rw[decide_eq_true q,decide_eq_false (show ¬ wrth (nms ce) R w<=atR (nms ce) R x by omega)];simp
    ·rw[decide_eq_false q,decide_eq_true (show wrth (nms ce) R w<=atR (nms ce) R x by omega)];simp
  ·cases q:z0C (nms ce) R ⟨x,s,w⟩ with
   | true =>
    rw[if_neg (by decide)];refine Y0 (Y4 ⟨_,_,_,_,_,rfl,rfl,?_⟩);rw[K2i,eq,Z1n,hp,K4p];simpa using q
   | false =>
    rw[if_pos (show (!false)=true from rfl)];refine z0s (J2 (.bl false) rfl ⟨rfl,rfl,?_⟩);rw[Z0s];exact⟨_,tm,by rw[q];decide⟩
 ·rintro γ h1 ⟨a1,a2,a3,a4,a5,rfl,rfl,hp⟩;rw[ei,K6,K1f]at hp;exact J2 (.bl true) rfl ⟨by rw[hp],rfl⟩
 ·rintro d h1 ⟨rfl,rfl,hp⟩;exact⟨by rw[hp],rfl⟩
theorem z4T {ts:List Ts}(e:h[i]?=.(l (((nms ce).map .str)))) (g:∀t∈ts,GT (nms ce) t) (hl:ce.length<=R.length) (h4:ce.length<=1000):J1 [.tup (ts.map tsD),.ref i,rmD R] h=.ok (.bl (ts.all (z0C (nms ce) R))) h :=
 z40 (src:=.con (ts.map tsD)) rfl (λγ e=>zO4 (Z6 e)) rfl trivial e g hl h4
theorem z7w {ts:List Ts}{j:Nat}(ej:h[j]?=.(l (ts.map tsD))) (e:h[i]?=.(l (((nms ce).map .str)))) (g:∀t∈ts,GT (nms ce) t) (hl:ce.length<=R.length) (h4:ce.length<=1000):J1 [.ref j,.ref i,rmD R] h=.ok (.bl (ts.all (z0C (nms ce) R))) h :=
 z40 (src:=.lst j (ts.map tsD)) rfl (λγ e=>zO2 (Z6 e) ej) rfl ej e g hl h4
end
section
variable {p:Pg}{R:List Int}{h:AH}
theorem zt7 (g:GP p):z0k [pgD p] h=.ok (rmD (fstR p)) h:=by
 refine z0Q (j:=[.lst ((fstR p).map .int)]) (z1o ?_) (by unfold rmD;simp only[y9];exact z0I _);show W (z0i [some (pgD p),none]) h _;unfold z0i z4Y;have l4:=g.l4;refine z05 (.ref h.length) [some (pgD p),.(r h.length)] (h1:=h++[.lst ((p.ce.map (·.f)).map .int)]) ?_ rfl ?_
 ·refine(z1D (src:=.con (p.ce.map ceD)) (λ_=>true) (λd=>match d with|.tup (_::_::v::_)=>v|_=>.non) (z0P (e2_h (Z6 rfl) (y:=.int 0) rfl pg0)) (λ_=>trivial) (by simp[Src.items];omega) λd hd=>?_).trans ?_
  ·obtain⟨c,_,rfl⟩:=K0v.mp (show d∈p.ce.map ceD from hd);exact⟨[some (ceD c)],λh=>rfl,λj=>rfl,λ_ j=>e2_h (Z6 rfl) (y:=.int 2) rfl (by unfold ceD;rw[ix2];rfl)⟩
  ·rw[filter_tt];show Res.ok _ (h++[.lst ((p.ce.map ceD).map _)])=_;rw[K1d,K1d];rfl
 ·refine Y2 p.kp (cv_h (e2_h (Z6 rfl) (y:=.int 3) rfl pg3)) ?_;unfold fstR;cases ek:p.kp with
  | true =>
   rw[if_pos rfl,if_pos rfl];refine z0s (z1g rfl z1H (by simp;omega) (v:=.int (-1)) rfl (Y0 ?_));rw[z65,K0w];exact J2 _ (j9 (Z6 rfl) (z33 z1H)) ⟨by unfold rmD;rw[K0w];rfl,rfl⟩
  | false =>
   rw[if_neg (by decide),if_neg (by decide),K2d];exact Y0 (J2 _ (j9 (Z6 rfl) (z33 z1H)) ⟨rfl,rfl⟩)
end
theorem zg9 {ma mb:G->M D}{mt:G->M Out}{γ:G}{h:AH}{a i t:Nat}{xs:List D}{v:D}{Q:Out->AH->Prop}(ev:ma γ h=.ok v h) (ea:γ[a]?=some (.(r i))) (eb:mb γ h=.ok (.int (t:Nat)) h) (e:h[i]?=.(l xs)) (ht:t<xs.length)
 (z:W (mt γ) (h.set i (.lst (xs.set t v))) Q):W (Z3 (sAsg ma (gIx (eVar a) mb)) mt γ) h Q:=by
 have e1:gIx (eVar a) mb v γ h=.ok γ (h.set i (.lst (xs.set t v))):=by
  unfold gIx;rw[M.bind_ok (Z6 ea),M.bind_ok eb];have:fSet (.ref i) (.int (t:Nat)) v h=.ok () (h.set i (.lst (xs.set t v))):=by
   unfold fSet;dsimp only;rw[e];dsimp only;rw[show ixN xs.length (t:Int)=some t by unfold ixN;rw[if_pos (by omega),if_pos (by omega)];rfl]
  rw[M.bind_ok this];rfl
 obtain⟨o,h',e2,q⟩:=z;refine⟨o,h',?_,q⟩;unfold Z3 sAsg;rw[M.bind_ok (show (do let d <- ma γ;let γ1 <- gIx (eVar a) mb d γ;pure (.nx γ1):M Out) h=.ok (.nx γ) _ by rw[M.bind_ok ev,M.bind_ok e1];rfl)];exact e2
theorem z71 {ce:List Ce}{j:Nat}{c:Ce}(nd:(nms ce).Nodup) (e:ce[j]?=some c):(nms ce).idxOf c.x=j:=by
 have e1:(nms ce)[j]?=some c.x:=by unfold nms;rw[K00,e];rfl
 obtain⟨lt,e2⟩:=K8.mp e1;rw[<- e2];exact nd.idxOf_getElem j lt
def valP (ns:List Str) (R:List Int) (ps:List (Str×Wr)) (q:Ce):Int:=match ps.lookup q.x with
 | some w=>wrth ns R w % q.sz
 | none=>atR ns R q.x
structure FI (p:Pg) (R:List Int) (ps:List (Str×Wr)) (F:List Int):Prop where
 len:F.length=R.length
 at_:∀(j:Nat) q,p.ce[j]?=some q->F[j]?=some (valP (nms p.ce) R ps q)
 up:∀j:Nat,p.ce.length<=j->F[j]?=R[j]?
theorem z64 {x:Str}(y:Str) (w:Wr):∀l:List (Str×Wr),y∉l.map (·.1)->(l++[(y,w)]).lookup x=if x=y then some w else l.lookup x
 | [],_=>by
  show (match x==y with
   | true=>some w
   | false=>none)=_
  by_cases e:x=y
  ·subst e;simp
  ·rw[if_neg e,show (x==y)=false from beq_eq_false_iff_ne.mpr e];rfl
 | (z,v)::l,h=>by
  rw[List.cons_append,K1u,K1u,z64 y w l (λm=>h (K0j _ m))];have ne:z≠y:=λe=>h (by rw[<- e];exact K0t);by_cases q:x=z
  ·subst q;rw[show (x==x)=true from beq_self_eq_true x];dsimp only;rw[if_neg ne]
  ·rw[show (x==z)=false from beq_eq_false_iff_ne.mpr q]
section
variable {p:Pg}{R:List Int}{h:AH}
theorem zk8 (g:GP p) (hl:p.ce.length<=R.length):FI p R [] R:=by
 refine⟨rfl,λj q e=>?_,λ_ _=>rfl⟩;have:=z8z (R:=R) (K0v.mpr ⟨q,K0d e,rfl⟩:q.x∈nms p.ce) hl;rw[z71 g.nd e]at this;exact this
theorem zt9 {ps:List (Str×Wr)}{F:List Int}{x:Str}{w:Wr}{q:Ce}{a:Nat}(g:GP p) (f:FI p R ps F) (hl:p.ce.length<=R.length) (nx:x∉ps.map (·.1)) (eq:p.ce[a]?=some q) (ex:q.x=x):FI p R (ps++[(x,w)]) (F.set a (wrth (nms p.ce) R w % q.sz)):=by
 have la:=(K8.mp eq).1;refine⟨by rw[Z1k];exact f.len,λj c e=>?_,λj hj=>?_⟩
 ·unfold valP;rw[z64 x w ps nx];by_cases c1:a=j
  ·subst c1;rw[eq]at e;cases e;rw[if_pos ex,K19 (by rw[f.len];omega)]
  ·have ne:c.x≠x:=λz=>c1 (by
    have h1:=z71 g.nd eq;have h2:=z71 g.nd e;rw[ex]at h1;rw[z]at h2;omega)
   rw[if_neg ne,K1e c1];exact f.at_ j c e
 ·rw[K1e (by omega)];exact f.up j hj
theorem zH8 {c:Cm}{F:List Int}{k:Nat}(r:GR p R) (f:FI p R c.ps F):(if p.kp=true then F.set p.ce.length (k:Int) else F)=beh p R k c:=by
 have e1:F.take p.ce.length=p.ce.map (newV (nms p.ce) R c):=by
  refine K4v λj=>?_;by_cases q:j<p.ce.length
  ·rw[K28,if_pos q,K00,K7 q];exact f.at_ j _ (K7 q)
  ·rw[K28,if_neg q,K1j (by rw[K6];omega)]
 have l:=f.len;rw[r.len]at l;unfold beh;cases ek:p.kp with
 | true =>
  rw[ek,if_pos rfl]at l;rw[if_pos rfl,if_pos rfl,<- e1];refine K4v λj=>?_;by_cases q:p.ce.length=j
  ·subst q;rw[K19 (by omega),K2c (by rw[K0g];omega),K0g,show p.ce.length - min p.ce.length F.length=0 by omega];rfl
  ·rw[K1e q];by_cases z:j<p.ce.length
   ·rw[K11 (by rw[K0g];omega),K28,if_pos z]
   ·rw[K1j (by omega),K1j (by rw[K06,K0g,K1i];omega)]
 | false =>
  rw[ek,if_neg (by decide)]at l;rw[if_neg (by decide),if_neg (by decide),K2d,<- e1,K8v (by omega)]
def optD:Option (List Int)->D
 | some S=>rmD S
 | none=>.non
theorem zC7 {k:Nat}(g:GP p) (r:GR p R) (hk:k<p.cm.length):z0n [pgD p,.int (k:Nat),rmD R] h=.ok (optD (nxF p R k)) h:=by
 obtain⟨c,ec⟩:∃c,p.cm[k]?=some c:=⟨_,K7 hk⟩;have gc:=g.gc c (K0d ec);have hl:=r.le;have l4:=g.l4;have en:nxF p R k=if c.ts.all (z0C (nms p.ce) R)=true then some (beh p R k c) else none:=by unfold nxF;rw[ec]
 have key:W (runF 8 z06 [pgD p,.int (k:Nat),rmD R]) h λa h'=>a=optD (nxF p R k)/\∃j,h'=h++j:=by
  refine z1W ?_;show W (z06 [some (pgD p),.(i (k:Nat)),some (rmD R),none,none,none,none,none]) h _;unfold z06;have row:∀(γ:G) (h1:AH) (t:Nat) (d:D),γ[0]?=some (some (pgD p))->γ[1]?=some (.(i (k:Nat)))->fIx (cmD c) (.int (t:Nat)) h1=.ok d h1->e2 fIx (e2 fIx (e2 fIx (eVar 0) (λ_=>pure (.int 1))) (eVar 1)) (λ_=>pure (.int (t:Nat))) γ h1=.ok d h1:=λγ h1 t d a b e =>
   e2_h (x:=cmD c) (y:=.int (t:Nat)) (e2_h (x:=.tup (p.cm.map cmD)) (e2_h (Z6 a) (y:=.int 1) rfl pg1) (Z6 b) (by rw[ix_tup (v3 (by rw[K00,ec];rfl))];rfl)) rfl e
  refine z05 (.ref h.length) [some (pgD p),.(i (k:Nat)),some (rmD R),.(r h.length),none,none,none,none] (h1:=h++[.lst ((nms p.ce).map .str)]) (fn_h (ds:=[.tup (p.ce.map ceD)]) (ac_h (e2_h (Z6 rfl) (y:=.int 0) rfl pg0) rfl) rfl (z6l (by omega))) rfl ?_;have nm:∀J:AH,(h++(.lst ((nms p.ce).map .str)::J))[h.length]?=.(l (((nms p.ce).map .str))):=λJ=>by simp
  refine Y2 (!c.ts.all (z0C (nms p.ce) R)) (cn_h (cv_h (fn_h (ds:=[.tup (c.ts.map tsD),.ref h.length,rmD R]) (ac_h (row _ _ 1 _ rfl rfl (by unfold cmD;rw[show ((1:Nat):Int)=1 from rfl,ix1];rfl)) (ac_h (Z6 rfl) (ac_h (Z6 rfl) rfl))) rfl (z4T (nm []) gc.ts hl (by omega))))) ?_;by_cases q:c.ts.all (z0C (nms p.ce) R)=true
  ·rw[if_pos q]at en;rw[q,if_neg (by decide),en];refine Y0 (z5q (xs:=R.map .int) (by rw[K6,r.len];split<;>omega) (λh=>rfl) ?_);rw[K0z,show (h++[O.lst ((nms p.ce).map .str)]).length=h.length+1 by simp];show W (Z3 _ _ [some (pgD p),.(i (k:Nat)),some (rmD R),.(r h.length),.(r (h.length+1)),none,none,none]) (h++[.lst ((nms p.ce).map .str),.lst (R.map .int)]) _;have fd:∀F:List Int,(h++[O.lst ((nms p.ce).map .str),O.lst (F.map .int)])[h.length+1]?=.(l (F.map .int)):=λF=>by simp
   have fs:∀(F:List Int) (a:Nat) (v:Int),(h++[O.lst ((nms p.ce).map .str),O.lst (F.map .int)]).set (h.length+1) (.lst ((F.map D.int).set a (.int v)))=h++[O.lst ((nms p.ce).map .str),O.lst ((F.set a v).map .int)]:=λF a v=>by
    rw[K2h _ _ (by omega),show h.length+1 - h.length=1 by omega,List.map_set];rfl
   refine z2O (λγ h1=>∃F a b d,γ=[some (pgD p),.(i (k:Nat)),some (rmD R),.(r h.length),.(r (h.length+1)),a,b,d]/\h1=h++[.lst ((nms p.ce).map .str),.lst (F.map .int)]/\FI p R c.ps F) ?_ ?_
   ·refine z1p (λt γ h1=>∃F a b d,γ=[some (pgD p),.(i (k:Nat)),some (rmD R),.(r h.length),.(r (h.length+1)),a,b,d]/\h1=h++[.lst ((nms p.ce).map .str),.lst (F.map .int)]/\FI p R (c.ps.take t) F) (λ_ _=>False) ?_;refine W.of (z0P (row _ _ 2 (.tup (c.ps.map psD)) rfl rfl (by unfold cmD;rw[show ((2:Nat):Int)=2 from rfl,ix2];rfl))) ⟨⟨R,_,_,_,rfl,rfl,zk8 g hl⟩,λ_ _ _ _=>trivial,?_,?_,λ_ _ q=>q.elim⟩
    ·rintro t d γ h1 hd ⟨F,a1,a2,a3,rfl,rfl,fi⟩;have hd':(c.ps.map psD)[t]?=some d:=hd;rw[K00]at hd';obtain⟨⟨x,w⟩,eq,rfl⟩:=K09.mp hd';obtain⟨gx,gw⟩:=gc.ps _ (K0d eq);simp only at gx gw;obtain⟨lt,eq'⟩:=K8.mp eq;have tk:c.ps.take (t+1)=c.ps.take t++[(x,w)]:=by rw[K2i,eq];rfl
     have nx:x∉(c.ps.take t).map (·.1):=λz=>by
      have nd:=gc.nd;rw[<- K6d (t+1) c.ps,tk,K0w,K0w]at nd;have:=(K1x.mp (K1x.mp nd).1).2.2 x z x (by simp);exact this rfl
     obtain⟨q,hq,ex⟩:=K0v.mp gx;obtain⟨a,ea⟩:=K2r hq;have ia:(nms p.ce).idxOf x=a:=by rw[<- ex];exact z71 g.nd ea
     have la:=(K8.mp ea).1;refine W.of (a:=[some (pgD p),.(i (k:Nat)),some (rmD R),.(r h.length),.(r (h.length+1)),.(s x),some (wrD w),a3]) rfl ?_;refine z05 (.int (a:Nat)) [some (pgD p),.(i (k:Nat)),some (rmD R),.(r h.length),.(r (h.length+1)),.(s x),some (wrD w),.(i (a:Nat))] (h1:=h++[.lst ((nms p.ce).map .str),.lst (F.map .int)]) ?_ rfl ?_
     ·rw[<- ia];exact z8i (nm _) gx (by omega) (Z6 rfl) (Z6 rfl)
     refine zg9 (v:=.int (wrth (nms p.ce) R w % q.sz)) (e2_h (fn_h (ds:=[wrD w,.ref h.length,rmD R]) (ac_h (Z6 rfl) (ac_h (Z6 rfl) (ac_h (Z6 rfl) rfl))) rfl (z7W (nm _) gw hl (by omega))) (e2_h (x:=ceD q) (e2_h (e2_h (Z6 rfl) (y:=.int 0) rfl pg0) (Z6 rfl) (by rw[ix_tup (v3 (by rw[K00,ea];rfl))];rfl)) (y:=.int 1) rfl (by unfold ceD;rw[ix1];rfl)) (by rw[zf9 (g.cs q hq).1];rfl)) rfl (Z6 rfl) (fd F) (by rw[K6,fi.len];omega) (Y4 ⟨F.set a (wrth (nms p.ce) R w % q.sz),_,_,_,rfl,fs F a _,?_⟩);rw[tk];exact zt9 g fi hl nx ea ex
    ·rintro γ h1 ⟨F,a1,a2,a3,rfl,rfl,fi⟩;refine⟨F,_,_,_,rfl,rfl,?_⟩;rw[show (Src.con (c.ps.map psD)).items.length=c.ps.length by simp[Src.items],K1f]at fi;exact fi
   ·rintro γ h1 ⟨F,a1,a2,a3,rfl,rfl,fi⟩;have fe:=zH8 (k:=k) r fi;refine Y2 p.kp (cv_h (e2_h (Z6 rfl) (y:=.int 3) rfl pg3)) ?_;cases ek:p.kp with
    | true =>
     rw[ek,if_pos rfl]at fe;rw[if_pos rfl];refine z0s (zg9 (t:=p.ce.length) (v:=.int (k:Nat)) (Z6 rfl) rfl (j9 (Z6 rfl) (by rw[z4N (nm _)];unfold nms;simp)) (fd F) (by rw[K6,fi.len,r.len,ek,if_pos rfl];omega) (Y0 ?_));rw[fs,fe];exact J2 _ (j9 (Z6 rfl) (z33 (fd _))) ⟨rfl,_,rfl⟩
    | false =>
     rw[ek,if_neg (by decide)]at fe;rw[if_neg (by decide),fe];exact Y0 (J2 _ (j9 (Z6 rfl) (z33 (fd _))) ⟨rfl,_,rfl⟩)
  ·rw[if_neg q]at en;rw[Bool.eq_false_iff.mpr q,if_pos (show (!false)=true from rfl),en];exact z0s (J2 .non rfl ⟨rfl,_,rfl⟩)
 obtain⟨d,h1,e1,rfl,j,rfl⟩:=key;refine z0Q e1 ?_;cases nxF p R k with
 | none=>rfl
 | some S=>unfold optD rmD;simp only[y9];exact z0I _
end
theorem zK3 {l:List Nat}{n:Nat}(hn:n<=1000) (hl:l.Pairwise (·<·)) (hm:∀x∈l,x<n):z0u [.tup (stD l),.int n]=pure (.bl true):=by
 have len:=za4 hl hm;refine zQ7 rfl λh=>?_;refine z1W ?_;show W (z0y [.(g (stD l)),.(i n),none]) h _;unfold z0y;refine q_if false ?_ ?_
 ·simp only[K7y,K0k,K01,K07,K0c,K0y,Z1,aNil,z2m,cNot,cVal,eFn,eVar,if_true,z5N,zn1 (xs:=stD l) (n:=n) (by rw[z2w];omega)]
 rw[if_neg (by decide)];refine Y0 ?_;rw[w_cons];refine z0h (λc γ h'=>∃w,γ=[.(g (stD l)),.(i n),w]/\h'=h) (λ_ _=>False) ?_;simp only[K01,j3,W_pure,Z1,aNil,z09,z22,e2,j7,eVar,z0A];refine⟨l.length,by rw[z2w],by omega,⟨_,rfl,trivial⟩,?_,?_,λ_ _ q=>q.elim⟩
 ·rintro c γ h2 hc ⟨w,rfl,rfl⟩;have mc:(l[c]?).getD 0=l[c]:=by rw[K7 hc];rfl
  have lt:=hm _ (K36 hc);refine q_if false ?_ ?_
  ·have e1:fIx (.tup (stD l)) (.int c)=pure (.int (l[c]:Nat)):=by rw[ix_tup (zK7 hc),mc]
   by_cases c0:(0:Int)<c
   ·have e2':((c:Int) - 1)=((c - 1:Nat):Int):=by omega
    have hc1:c - 1<l.length:=by omega
    have lt2:=K57.mp hl (c - 1) c hc1 hc (by omega);have mc1:(l[c - 1]?).getD 0=l[c - 1]:=by rw[K7 hc1];rfl
    have e3:fIx (.tup (stD l)) (.int ((c:Int) - 1))=pure (.int (l[c - 1]:Nat)):=by rw[e2',ix_tup (zK7 hc1),mc1]
    simp only[K29,K7y,K0k,K01,K07,K0c,K0s,K0r,K0y,Z1,aNil,z1x,z2m,cAnd,cNot,cOr,cVal,decide_eq_false (show ¬((l[c - 1]:Nat):Int) >= (l[c]:Nat) by omega),decide_eq_true c0,e1,e2,e3,eFn,eVar,zf7,zd1,if_false,if_true,z6i lt,z9d,z5N]
   ·simp only[K29,K7y,K0k,K01,K07,K0c,K0s,K0r,K0y,Z1,aNil,z1x,z2m,cAnd,cNot,cOr,cVal,decide_eq_false c0,e1,e2,eFn,eVar,zd1,if_false,if_true,z6i lt,z9d,z5N]
  rw[if_neg (by decide)];exact Y0 (Y4 ⟨_,rfl,rfl⟩)
 ·rintro γ h2 ⟨w,rfl,rfl⟩;exact zy0 _ rfl ⟨rfl,[],by simp⟩
theorem ze3 {v a b:Int}(h1:a<=v) (h2:v<b):z02 [.int v,.int a,.int b]=pure (.bl true):=by
 show cln (runF 3 Y6 [.int v,.int a,.int b])=_;rw[z5Y (d:=.bl true),z4j];show Y6 [.(i v),.(i a),.(i b)]=_;unfold Y6;refine zw9 _ ?_;simp only[K0k,K01,z1x,z2m,decide_eq_true h1,decide_eq_true h2,e3,eAnd,eIsi,eNot,eVar,if_true,z9a,zq9,z94];rfl
theorem InB.all:∀{l:List (Int×Nat)}{R:List Int},InB l R->(∀q∈l,-1<=q.1/\q.1+(q.2:Int)<=9)->∀v∈R,-1<=v/\v<9
 | [],[],_,_,v,h=>by cases h
 | q::l,w::R,a,b,v,h=>by
  obtain⟨a1,a2,a3⟩:=a;have c:=b q K0t;rcases K0a.mp h with rfl|h
  ·omega
  ·exact InB.all a3 (λx hx=>b x (K0j _ hx)) v h
 | [],_::_,a,_,_,_=>a.elim
 | _::_,[],a,_,_,_=>a.elim
section
variable {p:Pg}{R:List Int}{h:AH}
theorem GR.nine (g:GP p) (r:GR p R):∀v∈R,-1<=v/\v<9:=by
 refine InB.all r λq hq=>?_;unfold dims at hq;rcases K0p.mp hq with z|z
 ·obtain⟨c,hc,rfl⟩:=K0v.mp z;have:=g.cs c hc;show (-1:Int)<=0/\(0:Int)+(c.sz.toNat:Int)<=9;omega
 ·have:=g.c8;split at z
  ·rw[K0m]at z;subst z;show (-1:Int)<=-1/\(-1:Int)+((p.cm.length+1:Nat):Int)<=9;omega
  ·cases z
theorem z4d (t:Nat):∀d,(layS p t).1 <+: (layS p (t+d)).1
 | 0=>K4m
 | d+1=>by
  refine(z4d t d).trans ?_;show _ <+: (lay1 p (layS p (t+d))).1;unfold lay1;split
  ·exact K4m
  ·exact z2p _ _
theorem z8L:∀t,(layS p t).2.length<=t
 | 0=>K03 _
 | t+1=>by
  have:=z8L t;show (lay1 p (layS p t)).2.length<=t+1;unfold lay1;split
  ·omega
  ·rw[K06,K1i];omega
theorem zx2 {t:Nat}(g:GP p) (b:prN (dims p)<=40) (lt:t<(layS p 40).1.length):∃R,(layS p 40).1[t]?=some R/\(layS p (t+1)).1=stL (layS p t).1 (nxt p R p.cm.length):=by
 have l40:=(LI.at g 40).gl.le b;have e40:t+(40 - t)=40:=by omega
 have c:¬ (layS p t).1.length<=(layS p t).2.length:=λc=>by
  have:=z2z c (40 - t);rw[e40]at this;have l2:=z8L (p:=p) t;rw[this]at lt;omega
 have et:(layS p t).2.length=t:=by
  rcases z4q g t with e|e
  ·exact e
  ·exact absurd (K3y e) c
 have e1:(layS p t).1[t]?=some ((layS p t).1[t]'(by omega)):=K7 _;refine⟨_,by have:=z4C (z4d (p:=p) t (40 - t)) e1;rw[e40]at this;exact this,?_⟩;show (lay1 p (layS p t)).1=_;unfold lay1;rw[et,e1]
theorem zm5 {L M:List (List Int)}{x:List Int}(q:L <+: M) (hx:x∈L):M.idxOf x=L.idxOf x:=by
 obtain⟨t,rfl⟩:=q;rw[List.idxOf_append,if_pos hx]
theorem sl_h {ma mb:G->M D}{γ:G}{xs:List D}{c:Nat}(e1:ma γ h=.ok (.tup xs) h) (e2':mb γ h=.ok (.int (c:Nat)) h):z0X ma z2r (z2c mb) γ h=.ok (.tup (xs.take c)) h:=by
 have e3:z2c mb γ h=.ok (some (c:Int)) h:=by
  unfold z2c;rw[M.bind_ok e2'];rfl
 have e4:z2r γ h=.ok none h:=rfl;unfold z0X;rw[M.bind_ok e1,M.bind_ok e4,M.bind_ok e3,sl_tup,z8g];rfl
theorem ly0 (s:List (List Int)×List (List Nat)):fIx (layD p s) (.int 0) h=.ok (.tup [.tup (stsD s.2),.tup ((s.1.take s.2.length).map (mkR p))]) h:=by unfold layD;rw[ix0];rfl
theorem ly1 (s:List (List Int)×List (List Nat)):fIx (layD p s) (.int 1) h=.ok (.tup (s.1.map rmD)) h:=by unfold layD;rw[ix1];rfl
theorem z6K (g:GP p):(worn p R).length<=8:=by
 unfold worn;rw[z3m,K6];exact K0l (K3t _ _) g.gm.l8
theorem z5V (g:GP p) (b:prN (dims p)<=40):z0a [pgD p,layD p (layS p 40)] h=.ok (.bl true) h:=by
 obtain⟨s,es⟩:∃s,s=layS p 40:=⟨_,rfl⟩;have li:LI p s:=es ▸ LI.at g 40;have ll:s.1.length=s.2.length:=es ▸ z8y g b;rw[<- es];have l40:=li.gl.le b;have l1:0<s.1.length:=(K8.mp li.z0).1;have l4:=g.l4;refine z2h (z1o ?_) rfl;show W (z0c [some (pgD p),some (layD p s),none,none,none,none]) h _;unfold z0c;have t0:∀(γ:G) (h:AH),γ[1]?=some (some (layD p s))->e2 fIx (eVar 1) (λ_=>pure (.int 0)) γ h=.ok (.tup [.tup (stsD s.2),.tup ((s.1.take s.2.length).map (mkR p))]) h:=λγ h e=>e2_h (Z6 e) (y:=.int 0) rfl (ly0 s);have t1:∀(γ:G) (h:AH),γ[1]?=some (some (layD p s))->e2 fIx (eVar 1) (λ_=>pure (.int 1)) γ h=.ok (.tup (s.1.map rmD)) h:=λγ h e=>e2_h (Z6 e) (y:=.int 1) rfl (ly1 s);have t00:∀(γ:G) (h:AH),γ[1]?=some (some (layD p s))->e2 fIx (e2 fIx (eVar 1) (λ_=>pure (.int 0))) (λ_=>pure (.int 0)) γ h=.ok (.tup (stsD s.2)) h:=λγ h e=>e2_h (t0 γ h e) (y:=.int 0) rfl (by rw[ix0];rfl);have t01:∀(γ:G) (h:AH),γ[1]?=some (some (layD p s))->e2 fIx (e2 fIx (eVar 1) (λ_=>pure (.int 0))) (λ_=>pure (.int 1)) γ h=.ok (.tup ((s.1.take s.2.length).map (mkR p))) h:=λγ h e=>e2_h (t0 γ h e) (y:=.int 1) rfl (by rw[ix1];rfl);have tq:∀(γ:G) (h:AH) (xs:List D) (m n:Nat) (ma mb mc:G->M D),ma γ h=.ok (.tup xs) h->mb γ h=.ok (.int (m:Nat)) h->mc γ h=.ok (.int (n:Nat)) h->m<=xs.length->xs.length<=n->cNot (cVal (eFn 3 k6 (Z1 ma (Z1 mb (Z1 mc aNil))))) γ h=.ok false h:=λγ h xs m n ma mb mc e1 e2 e3 a1 a2 =>
  cn_h (b:=true) (cv_h (fn_h (ds:=[.tup xs,.int (m:Nat),.int (n:Nat)]) (ac_h e1 (ac_h e2 (ac_h e3 rfl))) rfl (by rw[z8H a1 a2];rfl)))
 refine Y2 false (z5Q (tq _ _ _ 2 2 _ _ _ (show _=Res.ok (D.tup [_,_]) h from Z6 rfl) rfl rfl (by simp) (by simp)) (z5Q (tq _ _ _ 2 2 _ _ _ (t0 _ _ rfl) rfl rfl (by simp) (by simp)) (tq _ _ _ 1 40 _ _ _ (t1 _ _ rfl) rfl rfl (by rw[K6];omega) (by rw[K6];omega)))) ?_;rw[if_neg (by decide)];refine Y0 (z05 (.int (s.1.length:Nat)) [some (pgD p),some (layD p s),.(i (s.1.length:Nat)),none,none,none] (j9 (t1 _ _ rfl) (by rw[z0A,K6];rfl)) rfl ?_);obtain⟨lg,elg⟩:∃lg:Nat,lg=p.ce.length+if p.kp=true then 1 else 0:=⟨_,rfl⟩
 refine z05 (.int (lg:Nat)) [some (pgD p),some (layD p s),.(i (s.1.length:Nat)),.(i (lg:Nat)),none,none] (e2_h (x:=.int (p.ce.length:Nat)) (y:=.int (if p.kp=true then 1 else 0)) (j9 (e2_h (Z6 rfl) (y:=.int 0) rfl pg0) (by rw[z0A,K6];rfl)) (j9 (e2_h (Z6 rfl) (y:=.int 3) rfl pg3) rfl) (by rw[z2f,elg];cases p.kp<;>rfl)) rfl ?_;refine Y2 false (z5Q (tq _ _ _ s.1.length s.1.length _ _ _ (t00 _ _ rfl) (Z6 rfl) (Z6 rfl) (by rw[z3C];omega) (by rw[z3C];omega)) (tq _ _ _ s.1.length s.1.length _ _ _ (t01 _ _ rfl) (Z6 rfl) (Z6 rfl) (by rw[K6,K0g];omega) (by rw[K6,K0g];omega))) ?_;rw[if_neg (by decide)];refine Y0 ?_;rw[w_cons];refine z0h (λc γ h'=>∃a d,γ=[some (pgD p),some (layD p s),.(i (s.1.length:Nat)),.(i (lg:Nat)),a,d]/\h'=h) (λ_ _=>False) ?_;refine W.of (a:=.int (s.1.length:Nat)) (h':=h) (Z6 rfl) ⟨s.1.length,rfl,by omega,⟨_,_,rfl,rfl⟩,?_,?_,λ_ _ q=>q.elim⟩
 ·rintro c γ h1 hc ⟨a1,a2,rfl,rfl⟩;obtain⟨R,eR⟩:∃R,s.1[c]?=some R:=⟨_,K7 hc⟩;have gr:=li.gl.inn R (K0d eR);obtain⟨row,er⟩:∃row,s.2[c]?=some row:=⟨_,K7 (by omega)⟩;have rm:=K0d er;show W (Z3 _ _ [some (pgD p),some (layD p s),.(i (s.1.length:Nat)),.(i (lg:Nat)),.(i (c:Nat)),a2]) h1 _;refine z05 (rmD R) [some (pgD p),some (layD p s),.(i (s.1.length:Nat)),.(i (lg:Nat)),.(i (c:Nat)),some (rmD R)] (e2_h (t1 _ _ rfl) (Z6 rfl) (by rw[ix_tup (v3 (by rw[K00,eR];rfl))];rfl)) rfl ?_;have len:R.length=lg:=by rw[gr.len,elg]
  refine Y2 false (z5Q (tq _ _ (R.map .int) lg lg _ _ _ (Z6 rfl) (Z6 rfl) (Z6 rfl) (by rw[K6];omega) (by rw[K6];omega)) ?_) ?_
  ·refine(zq2 (j:=[]) (xs:=[]) ?_ (by simp)).trans rfl;rw[K2d];refine(z1D (src:=.con (R.map .int)) (λ_=>false) (λd=>d) (z0P (Z6 rfl)) (λ_=>trivial) (by simp[Src.items];rw[len,elg];split<;>omega) λd hd=>?_).trans ?_
   ·obtain⟨v,hv,rfl⟩:=K0v.mp (show d∈R.map D.int from hd);obtain⟨v1,v2⟩:=gr.nine g v hv;exact⟨[.(i v)],λh=>rfl,λj=>cn_h (b:=true) (cv_h (fn_h (ds:=[.int v,.int (-1),.int 9]) (ac_h (Z6 rfl) (ac_h (d:=.int (-1)) rfl (ac_h (d:=.int 9) rfl rfl))) rfl (by rw[ze3 v1 v2];rfl))),λz=>by cases z⟩
   ·rw[show ((Src.con (R.map D.int)).items.filter λ_=>false)=[] by simp];rfl
  rw[if_neg (by decide)];refine Y0 (Y2 false (z5Q (cn_h (b:=true) (cv_h (fn_h (ds:=[.tup (stD row),.int (s.1.length:Nat)]) (ac_h (e2_h (t00 _ _ rfl) (Z6 rfl) (by rw[ix_tup (v3 (by unfold stsD;rw[K00,er];rfl))];rfl)) (ac_h (Z6 rfl) rfl)) rfl (by rw[zK3 (by omega) (li.rise row rm) (li.lt row rm)];rfl)))) (z5Q (tq _ _ ((worn p R).map .str) 0 8 _ _ _ (e2_h (t01 _ _ rfl) (Z6 rfl) (by rw[ix_tup (v3 (by rw[K00,K28,if_pos (by omega),eR];rfl))];rfl)) rfl rfl (K3a _) (by rw[K6];exact z6K g)) (cb_h (e2_h (Z6 rfl) (sl_h (t1 _ _ rfl) (Z6 rfl)) (by
   rw[<- K5a,z81,decide_eq_false]
   ·rfl
   ·intro z;obtain⟨i,hi⟩:=K2r z;rw[K28]at hi;split at hi
    ·rename_i lt;have hi':=(K8.mp hi);have hc':=(K8.mp eR);exact K57.mp li.gl.nd i c hi'.1 hc'.1 lt (by rw[hi'.2,hc'.2])
    ·cases hi))))) ?_)
  rw[if_neg (by decide)];exact Y0 (Y4 ⟨_,_,rfl,rfl⟩)
 ·rintro γ h1 ⟨a1,a2,rfl,rfl⟩;refine J2 (.bl true) (e2_h (x:=rmD (fstR p)) (y:=rmD (fstR p)) (e2_h (t1 _ _ rfl) (y:=.int 0) rfl (by rw[show (0:Int)=((0:Nat):Int) from rfl,ix_tup (v3 (by rw[K00,li.z0];rfl))];rfl)) (fn_h (ds:=[pgD p]) (ac_h (Z6 rfl) rfl) rfl (zt7 g)) (by rw[z7Z (z5j _ _),decide_eq_true rfl];rfl)) ⟨rfl,rfl⟩
end
def HQ (h:AH) (n c:List D) (J:AH):AH:=h++(.lst n::.lst c::J)
section
variable {h J:AH}{n c:List D}
theorem HQ0:(HQ h n c J)[h.length]?=.(l n):=by unfold HQ;simp
theorem HQ1:(HQ h n c J)[h.length+1]?=.(l c):=by unfold HQ;simp
theorem zy3 {X:AH}:HQ h n c J++X=HQ h n c (J++X):=by unfold HQ;simp
end
theorem zG2 {kk:G->M Bool}{ms mr mt:G->M Out}{γ:G}{h h1:AH}{b:Bool}{Q:Out->AH->Prop}(e:kk γ h=.ok b h1) (z:W (Z3 (if b=true then ms else mr) mt γ) h1 Q):W (Z3 (sIf kk ms mr) mt γ) h Q:=zG4 ⟨b,h1,e,z⟩
section
variable {p:Pg}{R:List Int}{h:AH}
theorem z7I (g:GP p):J6 [.tup (p.cm.map cmD)] h=.ok (.ref h.length) (h++[.lst ((cmN p).map .str)]):=by
 have c8:=g.c8;show cln (runF 1 J4 [.tup (p.cm.map cmD)]) h=_;refine z3b (j:=[.lst ((cmN p).map .str)]) (z1o ?_) rfl (z3a h) (K03 _) z1H (show k9 _ _=true from z0x _);show W (J4 [.(g (p.cm.map cmD))]) h _;unfold J4;refine J2 (.ref h.length) ?_ ⟨rfl,rfl⟩;refine(z1D (src:=.con (p.cm.map cmD)) (λ_=>true) (λd=>match d with|.tup (v::_)=>v|_=>.non) (z0P (Z6 rfl)) (λ_=>trivial) (by simp[Src.items];omega) λd hd=>?_).trans ?_
 ·obtain⟨c,_,rfl⟩:=K0v.mp (show d∈p.cm.map cmD from hd);exact⟨[some (cmD c)],λh=>rfl,λj=>rfl,λ_ j=>e2_h (Z6 rfl) (y:=.int 0) rfl (by unfold cmD;rw[ix0];rfl)⟩
 ·rw[filter_tt];show Res.ok _ (h++[.lst ((p.cm.map cmD).map _)])=_;unfold cmN;rw[K1d,K1d];rfl
theorem zw8 {row:List Ask}(g:GP p) (r:GR p R) (ga:∀a∈row,GA p a):z04 [pgD p,roD row,rmD R] h=.ok (.bl (row.all (askH p R))) h:=by
 have le:=r.le;have l4:=g.l4;have c8:=g.c8;have key:W (runF 6 z03 [pgD p,roD row,rmD R]) h λd h'=>d=.bl (row.all (askH p R))/\∃j,h'=h++j:=by
  refine z1W ?_;show W (z03 [some (pgD p),some (roD row),some (rmD R),none,none,none]) h _;unfold z03;refine z05 (.ref h.length) [some (pgD p),some (roD row),some (rmD R),.(r h.length),none,none] (h1:=h++[.lst ((nms p.ce).map .str)]) (fn_h (ds:=[.tup (p.ce.map ceD)]) (ac_h (e2_h (Z6 rfl) (y:=.int 0) rfl pg0) rfl) rfl (z6l (by omega))) rfl ?_;refine z05 (.ref (h.length+1)) [some (pgD p),some (roD row),some (rmD R),.(r h.length),.(r (h.length+1)),none] (h1:=HQ h ((nms p.ce).map .str) ((cmN p).map .str) []) (fn_h (ds:=[.tup (p.cm.map cmD)]) (ac_h (e2_h (Z6 rfl) (y:=.int 1) rfl pg1) rfl) rfl (by rw[z7I g];unfold HQ;simp)) rfl ?_;rw[w_cons];refine z1p (λt γ h1=>∃(a:Option D) (J:AH),γ=[some (pgD p),some (roD row),some (rmD R),.(r h.length),.(r (h.length+1)),a]/\h1=HQ h ((nms p.ce).map .str) ((cmN p).map .str) J/\(row.take t).all (askH p R)=true) (λd h1=>d=.bl false/\(∃j,h1=h++j)/\row.all (askH p R)=false) ?_;refine W.of (z0P (Z6 rfl)) ⟨⟨_,_,rfl,rfl,rfl⟩,λ_ _ _ _=>trivial,?_,?_,?_⟩
  ·rintro t d γ h1 hd ⟨a1,J,rfl,rfl,hp⟩;have hd':(row.map askD)[t]?=some d:=hd;rw[K00]at hd';obtain⟨a,eq,rfl⟩:=K09.mp hd';have am:=K0d eq;have gA:=ga a am;refine W.of (a:=[some (pgD p),some (roD row),some (rmD R),.(r h.length),.(r (h.length+1)),some (askD a)]) rfl ?_;have out:∀(b:Bool) (J':AH) (mt:G->M Out),b=askH p R a->mt=bNil\/mt=Z3 bNil bNil\/mt=Z3 bNil (Z3 bNil bNil)->W (Z3 (if (!b)=true then Z3 (sRet (λ_=>pure (.bl false))) bNil else bNil) mt [some (pgD p),some (roD row),some (rmD R),.(r h.length),.(r (h.length+1)),some (askD a)]) (HQ h ((nms p.ce).map .str) ((cmN p).map .str) J') (forW (λγ h1=>∃(a:Option D) (J:AH),γ=[some (pgD p),some (roD row),some (rmD R),.(r h.length),.(r (h.length+1)),a]/\h1=HQ h ((nms p.ce).map .str) ((cmN p).map .str) J/\(row.take (t+1)).all (askH p R)=true) (λd h1=>d=.bl false/\(∃j,h1=h++j)/\row.all (askH p R)=false)):=λb J' mt eb hm=>by
    cases b with
    | true =>
     rw[if_neg (by decide)];have fin:forW (λγ h1=>∃(a:Option D) (J:AH),γ=[some (pgD p),some (roD row),some (rmD R),.(r h.length),.(r (h.length+1)),a]/\h1=HQ h ((nms p.ce).map .str) ((cmN p).map .str) J/\(row.take (t+1)).all (askH p R)=true) (λd h1=>d=.bl false/\(∃j,h1=h++j)/\row.all (askH p R)=false) (.nx [some (pgD p),some (roD row),some (rmD R),.(r h.length),.(r (h.length+1)),some (askD a)]) (HQ h ((nms p.ce).map .str) ((cmN p).map .str) J'):=⟨_,J',rfl,rfl,by rw[K2i,eq,Z1n,hp,K4p];simpa using eb.symm⟩;rcases hm with rfl|rfl|rfl
     ·exact Y0 (Y4 fin)
     ·exact Y0 (Y0 (Y4 fin))
     ·exact Y0 (Y0 (Y0 (Y4 fin)))
    | false =>
     rw[if_pos (show (!false)=true from rfl)];refine z0s (J2 (.bl false) rfl ⟨rfl,⟨_,rfl⟩,?_⟩);rw[Z0s];exact⟨a,am,by rw[<- eb];decide⟩
   have cn:∀(γ:G) (J:AH) (w x:Str),γ[5]?=some (.(g [.str w,.str x]))->γ[4]?=some (.(r (h.length+1)))->x∈cmN p->eM1 z01 (eVar 4) (e2 fIx (eVar 5) (λ_=>pure (.int 1))) γ (HQ h ((nms p.ce).map .str) ((cmN p).map .str) J)=.ok (.int ((cmN p).idxOf x:Nat)) (HQ h ((nms p.ce).map .str) ((cmN p).map .str) J):=λγ J w x e5 e4 hx=>by
    show (eVar 4 γ >>= λo=>z1Q o >>= λn=>e2 fIx (eVar 5) (λ_=>pure (.int 1)) γ >>= λy=>z01 n y) _=_;rw[M.bind_ok (Z6 e4),M.bind_ok (z2L HQ1),M.bind_ok (e2_h (Z6 e5) (y:=.int 1) rfl (by rw[ix1];rfl))];exact z6L (enc:=.str) eq_S (z3g _) (by unfold cmN;rw[K6];omega) HQ1 hx
   cases a with
   | test t' =>
    refine Y2 true (cb_h (e2_h (j9 (Z6 (d:=tsD t') rfl) (by unfold tsD;rw[z0A];rfl)) (y:=.int 3) rfl (by rw[z3R];rfl))) ?_;rw[if_pos rfl];have el:∀H:AH,eLst (Z1 (eVar 5) aNil) [some (pgD p),some (roD row),some (rmD R),.(r h.length),.(r (h.length+1)),some (askD (.test t'))] H=.ok (.ref H.length) (H++[.lst ([t'].map tsD)]):=λH=>by
     show (Z1 (eVar 5) aNil _ >>= λxs=>newL xs) H=_;rw[M.bind_ok (ac_h (Z6 rfl) (ds:=[]) rfl)];exact zF8 (by simp)
    refine z0s (zG2 (b:=!([t'].all (z0C (nms p.ce) R))) (h1:=HQ h ((nms p.ce).map .str) ((cmN p).map .str) (J++[.lst ([t'].map tsD)])) (cn_h (cv_h (fn_h (ds:=[.ref (HQ h ((nms p.ce).map .str) ((cmN p).map .str) J).length,.ref h.length,rmD R]) (h1:=HQ h ((nms p.ce).map .str) ((cmN p).map .str) (J++[.lst ([t'].map tsD)])) (ac_h (by rw[<- zy3];exact el _) (ac_h (Z6 rfl) (ac_h (Z6 rfl) rfl))) rfl (z7w (by rw[<- zy3];exact z1H) HQ0 (λu hu=>by rw[K0m.mp hu];exact gA) le (by omega))))) (out _ _ _ (by simp[askH]) (.inr (.inl rfl))))
   | can x =>
    refine Y2 false (cb_h (e2_h (j9 (Z6 (d:=.tup [.str "can",.str x]) rfl) (by rw[z0A];rfl)) (y:=.int 3) rfl (by rw[z3R];rfl))) ?_;rw[if_neg (by decide)];refine z0s (Y2 true (cb_h (e2_h (e2_h (Z6 (d:=.tup [.str "can",.str x]) rfl) (y:=.int 0) rfl (by rw[ix0];rfl)) (y:=.str "can") rfl (z3N (by decide +kernel)))) ?_);rw[if_pos rfl];obtain⟨c,ec,cm⟩:=zj6 gA;have row1:∀(γ:G) (J:AH),γ[0]?=some (some (pgD p))->γ[5]?=some (.(g [.str "can",.str x]))->γ[4]?=some (.(r (h.length+1)))->e2 fIx (e2 fIx (e2 fIx (eVar 0) (λ_=>pure (.int 1))) (eM1 z01 (eVar 4) (e2 fIx (eVar 5) (λ_=>pure (.int 1))))) (λ_=>pure (.int 1)) γ (HQ h ((nms p.ce).map .str) ((cmN p).map .str) J)=.ok (.tup (c.ts.map tsD)) (HQ h ((nms p.ce).map .str) ((cmN p).map .str) J):=λγ J e0 e5 e4 =>
     e2_h (x:=cmD c) (y:=.int 1) (e2_h (x:=.tup (p.cm.map cmD)) (e2_h (Z6 e0) (y:=.int 1) rfl pg1) (cn γ J _ x e5 e4 gA) (by rw[ix_tup (v3 (by rw[K00,ec];rfl))];rfl)) rfl (by unfold cmD;rw[ix1];rfl)
    refine z0s (Y2 (!(c.ts.all (z0C (nms p.ce) R))) (cn_h (cv_h (fn_h (ds:=[.tup (c.ts.map tsD),.ref h.length,rmD R]) (ac_h (row1 _ J rfl rfl rfl) (ac_h (Z6 rfl) (ac_h (Z6 rfl) rfl))) rfl (z4T HQ0 (g.gc c cm).ts le (by omega))))) (out _ _ _ (by
     show _=(match p.cm[(cmN p).idxOf x]? with
      | some c=>c.ts.all (z0C (nms p.ce) R)
      | none=>false)
     rw[ec]) (.inr (.inr rfl))))
   | last x =>
    obtain⟨ek,hx⟩:=gA;have rl:R.length=p.ce.length+1:=by rw[r.len,if_pos ek]
    obtain⟨v,ev⟩:∃v,R[p.ce.length]?=some v:=⟨_,K7 (by omega)⟩;refine Y2 false (cb_h (e2_h (j9 (Z6 (d:=.tup [.str "last",.str x]) rfl) (by rw[z0A];rfl)) (y:=.int 3) rfl (by rw[z3R];rfl))) ?_;rw[if_neg (by decide)];refine z0s (Y2 false (cb_h (e2_h (e2_h (Z6 (d:=.tup [.str "last",.str x]) rfl) (y:=.int 0) rfl (by rw[ix0];rfl)) (y:=.str "can") rfl (z3N (by decide +kernel)))) ?_);rw[if_neg (by decide)];refine z0s (Y2 (!(decide (v=((cmN p).idxOf x:Int)))) (cb_h (e2_h (e2_h (y:=.int (p.ce.length:Nat)) (Z6 rfl) (j9 (Z6 rfl) (by rw[z4N HQ0];unfold nms;simp)) (zm3 ev)) (cn _ J "last" x rfl rfl hx) (by rw[z44,K7z];rfl))) (out _ _ _ (by
     show _=decide (R[p.ce.length]?=some ((cmN p).idxOf x:Int));rw[ev];simp) (.inr (.inr rfl))))
  ·rintro γ h1 ⟨a1,J,rfl,rfl,hp⟩;rw[show (Src.con (row.map askD)).items.length=row.length by simp[Src.items],K1f]at hp;exact J2 (.bl true) rfl ⟨by rw[hp],_,rfl⟩
  ·rintro d h1 ⟨rfl,⟨j,rfl⟩,hp⟩;exact⟨by rw[hp],j,rfl⟩
 obtain⟨d,h1,e1,rfl,j,rfl⟩:=key;exact z0Q e1 rfl
end
section
variable {p:Pg}{R:List Int}{h:AH}
theorem z9w {i:Nat}{x:Str}{l:List Str}{neg:Bool}(e:h[i]?=.(l (l.map .str))):fIn neg (.str x) (.ref i) h=.ok (.bl (decide (x∈l) != neg)) h:=by
 have g:getL i h=.ok (l.map .str) h:=by unfold getL;rw[e]
 have t:=congrFun (zn8 (x:=x) (l:=l) (neg:=neg)) h;unfold fIn seqD at t ⊢;rw[M.bind_ok g];exact t
def z3Q (p:Pg) (R:List Int) (ms:List (Str×List (List Ask))):List Str:=(ms.filter λm=>m.2.any λl=>l.all (askH p R)).map (·.1)
theorem z87 (ms:List (Str×List (List Ask))):∀x∈z3Q p R ms,x∈ms.map (·.1):=λx hx=>by
 obtain⟨m,hm,rfl⟩:=K0v.mp hx;exact K0v.mpr ⟨m,(Z1f.mp hm).1,rfl⟩
theorem z5u (ms:List (Str×List (List Ask))):(z3Q p R ms).length<=ms.length:=by
 unfold z3Q;rw[K6];exact K3t _ _
theorem zz6 (g:GP p) (r:GR p R):z1E [pgD p,rmD R] h=.ok (.tup ((worn p R).map .str)) h:=by
 have gm:=g.gm;have l8:=gm.l8;refine z0Q (j:=[.lst ((z3Q p R p.ma).map .str)]) (z1o ?_) (by simp only[y9];exact z0x _);show W (z1J [some (pgD p),some (rmD R),none,none,none,none]) h _;unfold z1J;refine z5q (xs:=[]) (by simp) (λh=>rfl) ?_;show W (Z3 _ _ [some (pgD p),some (rmD R),.(r h.length),none,none,none]) (h++[.lst []]) _;refine z2O (λγ h1=>∃a b c,γ=[some (pgD p),some (rmD R),.(r h.length),a,b,c]/\h1=h++[.lst ((z3Q p R p.ma).map .str)]) ?_ ?_
 ·refine z1p (λt γ h1=>∃a b c,γ=[some (pgD p),some (rmD R),.(r h.length),a,b,c]/\h1=h++[.lst ((z3Q p R (p.ma.take t)).map .str)]) (λ_ _=>False) ?_;refine W.of (z0P (e2_h (Z6 rfl) (y:=.int 2) rfl pg2)) ⟨⟨_,_,_,rfl,rfl⟩,λ_ _ _ _=>trivial,?_,?_,λ_ _ q=>q.elim⟩
  ·rintro t d γ h1 hd ⟨a1,a2,a3,rfl,rfl⟩;have hd':(p.ma.map mkD)[t]?=some d:=hd;rw[K00]at hd';obtain⟨m,eq,rfl⟩:=K09.mp hd';have mm:=K0d eq;have tk:p.ma.take (t+1)=p.ma.take t++[m]:=by rw[K2i,eq];rfl
   have rl:=gm.rl m mm;obtain⟨P,eP⟩:∃P,P=z3Q p R (p.ma.take t):=⟨_,rfl⟩;have nP:m.1∉P:=λz=>by
    rw[eP]at z;have z':=z87 _ _ z;have nd:=gm.nd;rw[<- K6d (t+1) p.ma,tk,K0w,K0w]at nd;exact(K1x.mp (K1x.mp nd).1).2.2 m.1 z' m.1 (by simp) rfl
   have lP:P.length<=8:=by
    have:=z5u (p:=p) (R:=R) (p.ma.take t);rw[<- eP,K0g]at this;omega
   rw[<- eP];refine W.of (a:=[some (pgD p),some (rmD R),.(r h.length),.(s m.1),.(g (m.2.map roD)),a3]) rfl ?_;rw[w_cons];refine z1p (λu γ h1=>∃c,γ=[some (pgD p),some (rmD R),.(r h.length),.(s m.1),.(g (m.2.map roD)),c]/\h1=h++[.lst ((if ((m.2.take u).any λl=>l.all (askH p R))=true then P++[m.1] else P).map .str)]) (λ_ _=>False) ?_;refine W.of (z0P (Z6 rfl)) ⟨⟨_,rfl,by simp⟩,λ_ _ _ _=>trivial,?_,?_,λ_ _ q=>q.elim⟩
   ·rintro u d γ h1 hd ⟨a3,rfl,rfl⟩;have hd':(m.2.map roD)[u]?=some d:=hd;rw[K00]at hd';obtain⟨row,er,rfl⟩:=K09.mp hd';have rm:=K0d er;have tk2:m.2.take (u+1)=m.2.take u++[row]:=by rw[K2i,er];rfl
    refine W.of (a:=[some (pgD p),some (rmD R),.(r h.length),.(s m.1),.(g (m.2.map roD)),some (roD row)]) rfl ?_;have hr:=λH=>zw8 (h:=H) g r (gm.ga m mm row rm);rw[tk2,List.any_append];cases ea:(m.2.take u).any λl=>l.all (askH p R) with
    | true =>
     rw[if_pos rfl];refine Y2 false (z3x (a:=false) (b:=row.all (askH p R)) (cb_h (e2_h (Z6 rfl) (Z6 rfl) (by rw[z9w (l:=P++[m.1]) (by simp),decide_eq_true (by simp)];rfl))) (cv_h (fn_h (ds:=[pgD p,roD row,rmD R]) (ac_h (Z6 rfl) (ac_h (Z6 rfl) (ac_h (Z6 rfl) rfl))) rfl (hr _)))) ?_;rw[if_neg (by decide)];exact Y0 (Y4 ⟨_,rfl,by rw[Z0k,if_pos rfl]⟩)
    | false =>
     rw[if_neg (by decide)];refine Y2 (row.all (askH p R)) (by
      have:=z3x (a:=true) (b:=row.all (askH p R)) (γ:=[some (pgD p),some (rmD R),.(r h.length),.(s m.1),.(g (m.2.map roD)),some (roD row)]) (h:=h++[.lst (P.map .str)]) (k:=λγ=>do let d <- e2 (fIn true) (eVar 3) (eVar 2) γ;asB d) (l:=cVal (eFn 3 z04 (Z1 (eVar 0) (Z1 (eVar 5) (Z1 (eVar 1) aNil))))) (cb_h (e2_h (Z6 rfl) (Z6 rfl) (by rw[z9w (l:=P) (by simp),decide_eq_false nP];rfl))) (cv_h (fn_h (ds:=[pgD p,roD row,rmD R]) (ac_h (Z6 rfl) (ac_h (Z6 rfl) (ac_h (Z6 rfl) rfl))) rfl (hr _)));rw[K4p]at this;exact this) ?_
     cases eb:row.all (askH p R) with
     | true =>
      rw[if_pos rfl];refine z0s (z1g rfl z1H (by rw[K6];omega) (v:=.str m.1) (Z6 rfl) (Y0 (Y0 (Y4 ⟨_,rfl,?_⟩))));rw[z65];simp[eb]
     | false =>
      rw[if_neg (by decide)];refine Y0 (Y4 ⟨_,rfl,?_⟩);simp[eb]
   ·rintro γ h1 ⟨a3,rfl,rfl⟩;refine Y4 ⟨_,_,_,rfl,?_⟩;rw[show (Src.con (m.2.map roD)).items.length=m.2.length by simp[Src.items],K1f,tk];unfold z3Q at eP ⊢;rw[List.filter_append,K0w,<- eP];cases ea:m.2.any λl=>l.all (askH p R)<;>simp[ea]
  ·rintro γ h1 ⟨a1,a2,a3,rfl,rfl⟩;refine⟨_,_,_,rfl,?_⟩;rw[show (Src.con (p.ma.map mkD)).items.length=p.ma.length by simp[Src.items],K1f]
 ·rintro γ h1 ⟨a1,a2,a3,rfl,rfl⟩;refine J2 (.tup ((worn p R).map .str)) (z0Q (j:=[.lst ((z1V (z3Q p R p.ma)).map .str)]) (j9 (j9 (Z6 rfl) (z7H (ss:=z3Q p R p.ma) z1H (by have:=z5u (p:=p) (R:=R) p.ma;omega))) (z33 z1H)) (by simp only[y9];exact z0x _)) ⟨rfl,rfl⟩
end
section
variable {γ:G}{h:AH}{k:Int}{r:AH}{i:Nat}{ns:List Str}{Q:D->AH->Prop}
theorem ats {xs:List D}{d:Int}(h0:0<=d) (h1:d<xs.length):∃x,x∈xs/\atI xs d=some x:=by
 obtain⟨j,rfl⟩:=K8i h0;have lt:j<xs.length:=by omega
 exact⟨xs[j],K36 lt,v3 (K7 lt)⟩
theorem z4K {me:G->M (List D)}{n:Int}{xs:List D}(p:PS h k r) (hk:k<1000000) (e0:γ[0]?=some (.(r 2))) (el:∀h,eLst me γ h=newL xs h) (hn:(xs.length:Int)=n) (h0:0<n) (h1:n<1000) (c:k9 3 xs=true) (z:∀d h',d∈xs->PS h' (k+1) r->Q d h'):W (clE (e2 fIx (eLst me) (eFn 2 Z7 (Z1 (eVar 0) (Z1 (λ_=>pure (.int n)) aNil)))) γ) h Q:=by
 refine z61 p trivial ?_;show W (eLst me γ >>= λx=>(eFn 2 Z7 (Z1 (eVar 0) (Z1 (λ_=>pure (.int n)) aNil)) γ >>= λy=>fIx x y)) h _;rw[j3];refine(show W (newL xs) h _->W (eLst me γ) h _ from λ⟨a,b,e,q⟩=>⟨a,b,by rw[el,e],q⟩) ?_;refine z1v p (by omega) λh1 p1=>?_;simp only[K07,K0c,K0y,z0T,j3,z0O,W_pure,Z1,aNil,e0,eFn,eVar,if_true];refine z0d p1 hk h0 (by omega) λd h2 d0 d1 p2=>?_;obtain⟨x,hx,ea⟩:=ats (xs:=xs) d0 (by omega);exact z5J p2 z1w ea ⟨_,_,p2,z3U c _ hx,λh3 p3=>z x h3 hx p3⟩
theorem zh7 (p:PS h k r) (hk:k<1000000) (e0:γ[0]?=some (.(r 2))) (e1:γ[1]?=some (.(r (i+3)))) (e:r[i]?=.(l (ns.map .str))) (l0:0<ns.length) (l8:ns.length<=8) (z:∀x h',x∈ns->PS h' (k+1) r->Q (.str x) h'):W (e2 fIx (eVar 1) (eFn 2 Z7 (Z1 (eVar 0) (Z1 (j7 fLen (Z1 (eVar 1) aNil)) aNil))) γ) h Q:=by
 simp only[K07,K0c,K0y,z0T,j3,z0O,W_pure,Z1,aNil,e0,e1,e2,j7,eFn,eVar,if_true];refine zi4 p e ?_;refine z0d p hk (by rw[K6];omega) (by rw[K6];omega) λd h2 d0 d1 p2=>?_;obtain⟨x,hx,ea⟩:=ats (xs:=ns.map .str) d0 d1;obtain⟨y,hy,rfl⟩:=K0v.mp hx;exact z5J p2 e ea (z y h2 hy p2)
theorem z2B {f:List D->M D}{ma mb:G->M D}(z:W (ma γ) h λa h1=>W (mb γ) h1 λb h2=>W (f [a,b]) h2 Q):W (eFn 2 f (Z1 ma (Z1 mb aNil)) γ) h Q:=by
 simp only[K07,K0c,K0y,z0T,j3,z0O,W_pure,Z1,aNil,eFn,if_true];exact z
theorem zD6 {f:List D->M D}{ma mb mc:G->M D}(z:W (ma γ) h λa h1=>W (mb γ) h1 λb h2=>W (mc γ) h2 λc h3=>W (f [a,b,c]) h3 Q):W (eFn 3 f (Z1 ma (Z1 mb (Z1 mc aNil))) γ) h Q:=by
 simp only[K07,K0c,K0y,z0T,j3,z0O,W_pure,Z1,aNil,eFn,if_true];exact z
theorem z6y {ma mb:G->M D}(z:W (ma γ) h λa h1=>W (mb γ) h1 λb h2=>Q (.tup [a,b]) h2):W (eTup (Z1 ma (Z1 mb aNil)) γ) h Q:=by
 simp only[K07,K0c,K0y,z0T,j3,z0O,W_pure,Z1,aNil,eTup,if_true,zN0];exact z
theorem z8u {ma mb mc:G->M D}(z:W (ma γ) h λa h1=>W (mb γ) h1 λb h2=>W (mc γ) h2 λc h3=>Q (.tup [a,b,c]) h3):W (eTup (Z1 ma (Z1 mb (Z1 mc aNil))) γ) h Q:=by
 simp only[K07,K0c,K0y,z0T,j3,z0O,W_pure,Z1,aNil,eTup,if_true,zQ8];exact z
theorem J5 {a:Nat}{d:D}(e:γ[a]?=some (some d)) (z:Q d h):W (eVar a γ) h Q:=by
 simp only[W_pure,e,eVar];exact z
theorem zy7 {k:G->M Bool}{ms mr mt:G->M Out}{Q:Out->AH->Prop}(J:Bool->AH->Prop) (z:W (k γ) h J) (f:∀b h1,J b h1->W (Z3 (if b=true then ms else mr) mt γ) h1 Q):W (Z3 (sIf k ms mr) mt γ) h Q:=zG4 (z.mono f)
theorem zi9 (n:Nat) (w:Wr):y9 n (wrD w)=true:=by cases w<;>rfl
theorem z6k (n:Nat) (t:Ts):y9 n (tsD t)=true:=by
 unfold tsD;simp only[y9,k9,zi9,K4q]
theorem z8b (p:PS h k r) (hk:k<900000) (e:r[i]?=.(l (ns.map .str))) (l0:0<ns.length) (l8:ns.length<=8) (z:∀w h',GW ns w->PS h' (k+3) r->Q (wrD w) h'):W (z0e [.ref 2,.ref (i+3)]) h Q:=by
 refine z4u p trivial ?_;refine z1W ?_;show W (z1d [.(r 2),.(r (i+3))]) h _;unfold z1d;refine zy7 (λ_ h1=>PS h1 (k+1) r) ?_ λb h1 p1=>?_
 ·simp only[K01,K07,K0c,K0y,z0T,j3,z0O,W_pure,Z1,aNil,e2,eFn,eVar,if_true];refine z0d p (by omega) (by decide) (by decide) λd h1 d0 d1 p1=>?_;simp only[W_pure,z1x,z3R];exact p1
 cases b with
 | true =>
  rw[if_pos rfl];refine z0s (z2E (λd h2=>∃v:Int,d=.int v/\PS h2 (k+3) r) ?_ ?_)
  ·refine z2B (J5 rfl ?_);refine z4K (xs:=[.int 3,.int 9]) p1 (by omega) rfl (λh=>rfl) rfl (by decide) (by decide) rfl λd h2 hd p2=>?_;simp only[K0a,K21,or_false]at hd;rcases hd with rfl|rfl
   ·exact z0d p2 (by omega) (by decide) (by decide) λd h3 d0 d1 p3=>⟨d,rfl,p3.up (by omega)⟩
   ·exact z0d p2 (by omega) (by decide) (by decide) λd h3 d0 d1 p3=>⟨d,rfl,p3.up (by omega)⟩
  ·rintro _ h2 ⟨v,rfl,p2⟩;exact⟨k+3,[],by simpa using p2,rfl,λh3 p3=>z (.num v) h3 trivial p3⟩
 | false =>
  rw[if_neg (by decide)];refine Y0 (z2E (λd h2=>∃x v,x∈ns/\d=.tup [.str x,.int v]/\PS h2 (k+3) r) ?_ ?_)
  ·refine z6y (zh7 p1 (by omega) rfl rfl e l0 l8 λx h2 hx p2=>?_);simp only[K01,K07,K0c,K0y,z0T,j3,z0O,W_pure,Z1,aNil,e2,eFn,eVar,if_true];refine z0d p2 (by omega) (by decide) (by decide) λd h3 d0 d1 p3=>?_;simp only[W_pure,z9d];exact⟨x,_,hx,rfl,p3.up (by omega)⟩
  ·rintro _ h2 ⟨x,v,hx,rfl,p2⟩;exact⟨k+3,[],by simpa using p2,rfl,λh3 p3=>z (.cell x v) h3 hx p3⟩
theorem zi5 (p:PS h k r) (hk:k<800000) (e:r[i]?=.(l (ns.map .str))) (l0:0<ns.length) (l8:ns.length<=8) (z:∀t h',GT ns t->PS h' (k+5) r->Q (tsD t) h'):W (z0p [.ref 2,.ref (i+3)]) h Q:=by
 refine z4u p trivial ?_;refine z1W ?_;show W (z1K [.(r 2),.(r (i+3)),none]) h _;unfold z1K;refine x9 (λd h1=>∃x,x∈ns/\d=.str x/\PS h1 (k+1) r) ?_ ?_
 ·exact zh7 p (by omega) rfl rfl e l0 l8 λx h2 hx p2=>⟨x,hx,rfl,p2⟩
 rintro _ h1 ⟨x,hx,rfl,p1⟩;refine z2E (λd h2=>∃t,GT ns t/\d=tsD t/\PS h2 (k+5) r) ?_ ?_
 ·refine z8u (J5 rfl ?_);refine z4K (xs:=[.str "is",.str "not",.str "under"]) p1 (by omega) rfl (λh=>rfl) rfl (by decide) (by decide) rfl λd h2 hd p2=>?_;obtain⟨s,rfl,hs⟩:∃s:Str,d=.str s/\(s = "is"\/s = "not"\/s = "under"):=by
   simp only[K0a,K21,or_false]at hd;rcases hd with rfl|rfl|rfl
   ·exact⟨_,rfl,.inl rfl⟩
   ·exact⟨_,rfl,.inr (.inl rfl)⟩
   ·exact⟨_,rfl,.inr (.inr rfl)⟩
  refine z2B (J5 rfl (J5 rfl ?_));exact z8b p2 (by omega) e l0 l8 λw h3 gw p3=>⟨⟨x,s,w⟩,⟨hx,gw,hs⟩,rfl,p3.up (by omega)⟩
 ·rintro _ h2 ⟨t,gt,rfl,p2⟩;exact⟨k+5,[],by simpa using p2,z6k _ _,λh3 p3=>z t h3 gt p3⟩
theorem zj4 {ma:G->M D}{Q:Src->AH->Prop}(z:W (ma γ) h λd h1=>∃n:Nat,d=.int (n:Nat)/\n<=1000000/\Q (.con (z1N n)) h1):W (z0q ma γ) h Q:=by
 obtain⟨_,h1,e,n,rfl,hn,q⟩:=z;exact W.of (z8U e (by omega)) q
theorem zx1 (p:PS h k r) (hk:k<700000) (e:r[i]?=.(l (ns.map .str))) (l0:0<ns.length) (l8:ns.length<=8) (e0:γ[0]?=some (.(r 2))) (e2:γ[2]?=some (.(r (i+3)))) (z:∀(ts:List Ts) h',(∀t∈ts,GT ns t)->ts.length<=4->PS h' (k+21) r->Q (.tup (ts.map tsD)) h') :
 W (clE (j7 J9 (Z1 (z0F [some 0,some 2,none] (z0q (clE (FT.e2 fIx (eLst (Z1 (λ_=>pure (.int 0)) (Z1 (λ_=>pure (.int 1)) (Z1 (λ_=>pure (.int 1)) (Z1 (λ_=>pure (.int 2)) (Z1 (λ_=>pure (.int 4)) aNil)))))) (eFn 2 Z7 (Z1 (eVar 0) (Z1 (λ_=>pure (.int 5)) aNil)))))) (gN 2) (λ_=>pure true) (eFn 2 z0p (Z1 (eVar 0) (Z1 (eVar 1) aNil)))) aNil)) γ) h Q:=by
 refine z61 p trivial ?_;simp only[j7,Z1,aNil,j3,W_pure];refine z6T (r:=r) (l:=[]) (λc xs k'=>∃ts:List Ts,xs=ts.map tsD/\(∀t∈ts,GT ns t)/\ts.length=c/\k'=k+1+5 * c) ?_;refine zj4 (z4K (xs:=[.int 0,.int 1,.int 1,.int 2,.int 4]) p (by omega) e0 (λh=>rfl) rfl (by decide) (by decide) rfl λd h1 hd p1=>?_);obtain⟨n,rfl,hn⟩:∃n:Nat,d=.int (n:Nat)/\n<=4:=by
  simp only[K0a,K21,or_false]at hd;rcases hd with rfl|rfl|rfl|rfl|rfl
  ·exact⟨0,rfl,by omega⟩
  ·exact⟨1,rfl,by omega⟩
  ·exact⟨1,rfl,by omega⟩
  ·exact⟨2,rfl,by omega⟩
  ·exact⟨4,rfl,by omega⟩
 refine⟨n,rfl,by omega,k+1,by simpa using p1,⟨[],rfl,by simp,rfl,by simp⟩,λ_ _ _ _=>trivial,?_,?_⟩
 ·rintro c d h2 k2 xs hd ⟨ts,rfl,g,lc,rfl⟩ p2;obtain⟨rfl,hc⟩:=z3j hd;simp only[capG,K0f,K52,e0,e2,K6i,K6j];simp only[gN,W_pure,K0s,K0r,if_true];refine z2B (J5 rfl (J5 rfl ?_));refine zi5 (ns:=ns) p2 (by omega) (z0r e) l0 l8 λt h3 gt p3=>?_;refine⟨_,p3,by rw[K6];omega,ts++[t],by simp,λu hu=>?_,by simp[lc],by omega⟩;rcases K0p.mp hu with q|q
  ·exact g u q
  ·rw[K0m]at q;subst q;exact gt
 ·rintro h2 xs k2 ⟨ts,rfl,g,lc,rfl⟩ p2;rw[show (Src.con (z1N n)).items.length=n by simp[Src.items,z1N]]at lc p2;exact z3i (i:=0) p2 rfl ⟨_,_,p2,by simp only[y9];exact y0 λa=>z6k _ a,λh3 p3=>z ts h3 g (by omega) (p3.up (by omega))⟩
end
section
variable {γ:G}{h:AH}{k:Int}{r:AH}{i:Nat}{ns:List Str}{Q:D->AH->Prop}
theorem e2_w {f:D->D->M D}{ma mb:G->M D}(z:W (ma γ) h λa h1=>W (mb γ) h1 λb h2=>W (f a b) h2 Q):W (e2 f ma mb γ) h Q:=by
 simp only[j3,e2];exact z
theorem lo_w {t:Nat}{xs:List D}(p:PS h k r) (ea:γ[2]?=some (.(r (i+3)))) (et:γ[4]?=some (.(i (t:Nat)))) (e:r[i]?=.(l xs)) (hl:xs.length<=1000) (z:∀h',PS h' k (r++[.lst (xs.drop t)])->Q (.ref (r.length+3)) h'):W (z0X (eVar 2) (z2c (eVar 4)) z2r γ) h Q:=by
 simp only[j3,W_pure,z0X,eVar,ea,et,z2r,z2c];show W (getL (i+3) >>= λxs=>newL (cutD xs (some (t:Int)) none)) h _;rw[j3];refine z2u p e ?_;rw[zL8];exact z1v p (by rw[K3m];omega) z
theorem hi_w {a b:Nat}{t:Nat}{xs:List D}(p:PS h k r) (ea:γ[a]?=some (.(r (i+3)))) (et:γ[b]?=some (.(i (t:Nat)))) (e:r[i]?=.(l xs)) (hl:xs.length<=1000) (z:∀h',PS h' k (r++[.lst (xs.take t)])->Q (.ref (r.length+3)) h'):W (z0X (eVar a) z2r (z2c (eVar b)) γ) h Q:=by
 simp only[j3,W_pure,z0X,eVar,ea,et,z2r,z2c];show W (getL (i+3) >>= λxs=>newL (cutD xs none (some (t:Int)))) h _;rw[j3];refine z2u p e ?_;rw[z8g];exact z1v p (by rw[K0g];omega) z
theorem seqW {a:Nat}{xs:List D}{Q:Src->AH->Prop}(p:PS h k r) (ea:γ[a]?=some (.(r (i+3)))) (e:r[i]?=.(l xs)) (q:Q (.lst (i+3) xs) h):W (z1b (eVar a) γ) h Q:=by
 refine W.of (a:=.lst (i+3) xs) (h':=h) ?_ q;have g:getL (i+3) h=.ok xs h:=by unfold getL;rw[p.get,e]
 unfold z1b eVar;rw[ea];show (getL (i+3) >>= λxs=>pure (Src.lst (i+3) xs)) h=_;rw[M.bind_ok g];rfl
theorem zg5 (n:Nat) (q:Str×Wr):y9 n (psD q)=true:=by
 unfold psD;simp only[y9,k9,zi9,K4q]
theorem z7T (n:Nat) (c:Cm):y9 n (cmD c)=true:=by
 unfold cmD;simp only[y9,k9,K4q,K4p,K0h];exact⟨y0 λa=>z6k _ a,y0 λa=>zg5 _ a⟩
theorem zC0 {rot:List Str}{j:Nat}(p:PS h k r) (hk:k<600000) (e:r[i]?=.(l (ns.map .str))) (l0:0<ns.length) (l8:ns.length<=8) (er:r[j]?=.(l (rot.map .str))) (lr:rot.length<=8) (e0:γ[0]?=some (.(r 2))) (e2:γ[2]?=some (.(r (i+3)))) (e5:γ[5]?=some (.(r (j+3))))
 (z:∀(ps:List (Str×Wr)) h',(ps.map (·.1)).Sublist rot->(∀q∈ps,GW ns q.2)->PS h' (k+40) r->Q (.tup (ps.map psD)) h') :
 W (clE (j7 J9 (Z1 (z0F [some 0,some 2,none] (z1b (eVar 5)) (gN 2) (λγ=>do let d <- FT.e2 fGt (eFn 2 Z7 (Z1 (eVar 0) (Z1 (λ_=>pure (.int 3)) aNil))) (λ_=>pure (.int 0)) γ;asB d) (eTup (Z1 (eVar 2) (Z1 (eFn 2 z0e (Z1 (eVar 0) (Z1 (eVar 1) aNil))) aNil)))) aNil)) γ) h Q:=by
 refine z61 p trivial ?_;simp only[j7,Z1,aNil,j3,W_pure];refine z6T (r:=r) (l:=[]) (λc xs k'=>∃ps:List (Str×Wr),xs=ps.map psD/\(ps.map (·.1)).Sublist (rot.take c)/\(∀q∈ps,GW ns q.2)/\k'=k+4 * c) ?_;refine seqW p e5 er ⟨k,by simpa using p,⟨[],rfl,by simp,by simp,by simp⟩,λh' k' xs' ph=>?_,?_,?_⟩
 ·show h'[j+3]?=_;rw[ph.get,z0r er]
 ·rintro c d h2 k2 xs hd ⟨ps,rfl,sl,g,rfl⟩ p2;have hd':(rot.map D.str)[c]?=some d:=hd;rw[K00]at hd';obtain⟨y,ey,rfl⟩:=K09.mp hd';obtain⟨lc,ey'⟩:=K8.mp ey;have tk:rot.take (c+1)=rot.take c++[y]:=by rw[<- ey',K6b lc]
  have l8':ps.length<=8:=by
   have:=sl.length_le;rw[K6,K0g]at this;omega
  simp only[capG,K0f,K52,e0,e2,K6i,K6j];simp only[gN,W_pure,K0s,K0r];refine W.mono (Q:=λ(t:Bool) h3=>PS h3 (k+4 * c+1) (r++([]++[.lst (ps.map psD)]))) ?_ λt h3 p3=>?_
  ·simp only[FT.e2,K01,K07,K0c,K0y,z0T,j3,z0O,W_pure,Z1,aNil,eFn,eVar,if_true];refine z0d p2 (by omega) (by decide) (by decide) λd h3 d0 d1 p3=>?_;simp only[W_pure,z1x,zd1];exact p3
  ·cases t with
   | true =>
    rw[if_pos rfl];refine z6y (J5 rfl (z2B (J5 rfl (J5 rfl ?_))));refine z8b (ns:=ns) p3 (by omega) (z0r e) l0 l8 λw h4 gw p4=>?_;refine⟨_,p4,by rw[K6];omega,ps++[(y,w)],by simp[psD],?_,λq hq=>?_,by omega⟩
    ·rw[tk,K0w];exact sl.append (List.Sublist.refl _)
    ·rcases K0p.mp hq with z|z
     ·exact g q z
     ·rw[K0m]at z;subst z;exact gw
   | false =>
    rw[if_neg (by decide)];exact⟨_,p3.up (by omega),ps,rfl,by rw[tk];exact sl.trans (List.sublist_append_left _ _),g,rfl⟩
 ·rintro h2 xs k2 ⟨ps,rfl,sl,g,rfl⟩ p2;rw[show (Src.lst (j+3) (rot.map D.str)).items.length=rot.length by simp[Src.items]]at sl p2;rw[K1f]at sl;exact z3i (i:=0) p2 rfl ⟨_,_,p2,by simp only[y9];exact y0 λa=>zg5 _ a,λh3 p3=>z ps h3 sl g (p3.up (by omega))⟩
theorem z8T {x:Str}(p:PS h k r) (hk:k<500000) (e:r[i]?=.(l (ns.map .str))) (nd:ns.Nodup) (l0:0<ns.length) (l4:ns.length<=4) (z:∀c h',c.x=x->GC ns c->PS h' (k+100) r->Q (cmD c) h'):W (z0l [.ref 2,.str x,.ref (i+3)]) h Q:=by
 refine z4u p trivial ?_;refine z1W ?_;show W (z0H [.(r 2),.(s x),.(r (i+3)),none,none,none,none]) h _;unfold z0H;refine x9 (λd h1=>∃ts:List Ts,d=.tup (ts.map tsD)/\(∀t∈ts,GT ns t)/\ts.length<=4/\PS h1 (k+21) r) ?_ ?_
 ·exact zx1 p (by omega) e l0 (by omega) rfl rfl λts h1 g l p1=>⟨ts,rfl,g,l,p1⟩
 rintro _ h1 ⟨ts,rfl,gts,lts,p1⟩;refine x9 (λd h2=>∃t:Nat,d=.int (t:Nat)/\PS h2 (k+22) r) ?_ ?_
 ·simp only[K0k,K01,K07,K0c,K0s,K0r,K0y,z0T,j3,z0O,W_pure,Z1,aNil,j7,eFn,eVar,if_true];refine zi4 p1 e ?_;refine z0d p1 (by omega) (by rw[K6];omega) (by rw[K6];omega) λd h2 d0 d1 p2=>?_;exact⟨d.toNat,by rw[K32 d0],p2.up (by omega)⟩
 rintro _ h2 ⟨t,rfl,p2⟩;refine x9 (λd h3=>d=.ref (r.length+2+3)/\PS h3 (k+22) (r++[.lst ((ns.map .str).drop t),.lst ((ns.map .str).take t),.lst ((ns.drop t++ns.take t).map .str)])) ?_ ?_
 ·refine e2_w (lo_w p2 rfl rfl e (by rw[K6];omega) λh3 p3=>?_);refine hi_w p3 rfl rfl (z0r e) (by rw[K6];omega) λh4 p4=>?_;rw[K0z]at p4;rw[show (r++[O.lst ((ns.map D.str).drop t)]).length=r.length+1 by simp];refine zC3 (i:=0) (j:=r.length+1) (ys:=(ns.map D.str).take t) p4 rfl (by rw[at_E];rfl) (by rw[K3m,K0g,K6];omega) λh5 p5=>?_;refine⟨rfl,?_⟩;rw[K0w,List.map_drop,K5a];exact p5
 rintro _ h3 ⟨rfl,p3⟩;refine x9 (λd h4=>∃ps:List (Str×Wr),d=.tup (ps.map psD)/\(ps.map (·.1)).Sublist (ns.drop t++ns.take t)/\(∀q∈ps,GW ns q.2)/\PS h4 (k+62) (r++[.lst ((ns.map .str).drop t),.lst ((ns.map .str).take t),.lst ((ns.drop t++ns.take t).map .str)])) ?_ ?_
 ·refine zC0 (j:=r.length+2) p3 (by omega) (z0r e) l0 (by omega) (by rw[at_E];rfl) (by rw[K06,K3m,K0g];omega) rfl rfl rfl λps h4 sl g p4=>⟨ps,rfl,sl,g,p4.up (by omega)⟩
 rintro _ h4 ⟨ps,rfl,sl,gps,p4⟩;refine z2E (λd h5=>d=cmD ⟨x,ts,ps⟩/\h5=h4) (z8u (J5 rfl (J5 rfl (J5 rfl ⟨rfl,rfl⟩)))) ?_;rintro _ _ ⟨rfl,rfl⟩;refine⟨_,_,p4,z7T _ _,λh5 p5=>z _ h5 rfl ⟨gts,λq hq=>⟨?_,gps q hq⟩,?_,lts,?_⟩ (p5.up (by omega))⟩
 ·have:=sl.subset (K0v.mpr ⟨q,hq,rfl⟩);rcases K0p.mp this with z|z
  ·exact List.mem_of_mem_drop z
  ·exact K9i z
 ·refine sl.nodup ?_;have nd':=nd;rw[<- K6d t ns]at nd';exact List.perm_append_comm.nodup_iff.mp nd'
 ·have:=sl.length_le;rw[K6,K06,K3m,K0g]at this;show ps.length<=4;omega
end
theorem z8R:∀(l t:List (Int×Nat)),prN (l++t)=prN l * prN t
 | [],t=>by simp[prN]
 | q::l,t=>by
  show q.2 * prN (l++t)=q.2 * prN l * prN t;rw[z8R l t,Nat.mul_assoc]
theorem zj5 (n:Nat) (c:Ce):y9 n (ceD c)=true:=rfl
section
variable {γ:G}{h:AH}{k:Int}{r:AH}{i:Nat}{ns:List Str}{Q:D->AH->Prop}
def CeOk (c:Ce):Prop:=0<c.sz/\c.sz<=9/\0<=c.f/\c.f<c.sz
theorem zm4 {room:Nat}(p:PS h k r) (hk:k<500000) (e:r[i]?=.(l (ns.map .str))) (l4:ns.length<=8) (r1:0<room) (r40:room<=40) (z:∀ce h',nms ce=ns->(∀c∈ce,CeOk c)->prN (ce.map dimC)<=room->PS h' (k+100) r->Q (.tup (ce.map ceD)) h'):W (z1i [.ref 2,.ref (i+3),.int (room:Nat)]) h Q:=by
 refine z4u p trivial ?_;refine z1W ?_;show W (z1n [.(r 2),.(r (i+3)),.(i (room:Nat)),none,none,none]) h _;unfold z1n;refine x9 (λd h1=>d=.ref (r.length+0+3)/\PS h1 k (r++[.lst []])) ?_ ?_
 ·simp only[j3,W_pure,aNil,eLst];exact z1v p (by decide) λh1 p1=>⟨rfl,p1⟩
 rintro _ h1 ⟨rfl,p1⟩;refine z2O (λγ h2=>∃ce a b c,γ=[.(r 2),.(r (i+3)),a,.(r (r.length+0+3)),b,c]/\PS h2 (k+100) (r++[.lst (ce.map ceD)])/\nms ce=ns/\(∀c∈ce,CeOk c)/\prN (ce.map dimC)<=room) ?_ ?_
 ·refine z1p (λt γ h2=>∃(ce:List Ce) (room':Nat) (b c:Option D),γ=[.(r 2),.(r (i+3)),.(i (room':Nat)),.(r (r.length+0+3)),b,c]/\PS h2 (k+3 * t) (r++[.lst (ce.map ceD)])/\nms ce=ns.take t/\(∀c∈ce,CeOk c)/\0<room'/\room' * prN (ce.map dimC)<=room) (λ_ _=>False) ?_;refine seqW p1 rfl (z0r e) ⟨⟨[],room,_,_,rfl,by simpa using p1,by simp[nms],by simp,r1,by simp[prN]⟩,?_,?_,?_,λ_ _ q=>q.elim⟩
  ·rintro t γ h2 ⟨ce,room',b,c,rfl,p2,_⟩;show h2[i+3]?=_;rw[p2.get,z0r e]
  ·rintro t d γ h2 hd ⟨ce,room',b,c,rfl,p2,en,ok,r0,rp⟩;have hd':(ns.map D.str)[t]?=some d:=hd;rw[K00]at hd';obtain⟨x,ex,rfl⟩:=K09.mp hd';obtain⟨lt,ex'⟩:=K8.mp ex;have tk:ns.take (t+1)=ns.take t++[x]:=by rw[<- ex',K6b lt]
   have lce:ce.length<=t:=by
    have:=congrArg K6o en;unfold nms at this;rw[K6,K0g]at this;omega
   have pr1:0<prN (ce.map dimC)\/prN (ce.map dimC)=0:=by omega
   have room40:room'<=1000000\/prN (ce.map dimC)=0:=by
    rcases pr1 with q|q
    ·left;have:=Nat.le_mul_of_pos_right room' q;omega
    ·exact .inr q
   refine W.of (a:=[.(r 2),.(r (i+3)),.(i (room':Nat)),.(r (r.length+0+3)),.(s x),c]) rfl ?_;refine x9 (λd h3=>∃s:Nat,d=.int (s:Nat)/\0<s/\s<=9/\s<=room'/\PS h3 (k+3 * t+2) (r++[.lst (ce.map ceD)])) ?_ ?_
   ·refine e2_w ?_;refine W.of (a:=.int 1) (h':=h2) rfl ?_;refine z2B (J5 rfl ?_);refine W.mono (Q:=λd h3=>∃m:Nat,d=.int (m:Nat)/\0<m/\m<=9/\m<=room'/\PS h3 (k+3 * t+1) (r++[.lst (ce.map ceD)])) ?_ ?_
    ·simp only[j7,Z1,aNil,j3,W_pure];refine z4K (xs:=[.int 9,.int 3,.int 4]) p2 (by omega) rfl (λh=>rfl) rfl (by decide) (by decide) rfl λd h3 hd p3=>?_;obtain⟨m,rfl,m0,m9⟩:∃m:Nat,d=.int (m:Nat)/\0<m/\m<=9:=by
      simp only[K0a,K21,or_false]at hd;rcases hd with rfl|rfl|rfl
      ·exact⟨9,rfl,by omega,by omega⟩
      ·exact⟨3,rfl,by omega,by omega⟩
      ·exact⟨4,rfl,by omega,by omega⟩
     refine J5 rfl ?_;show W (pure (D.int (if (room':Int)<(m:Int) then (room':Int) else (m:Int))):M D) h3 _;rw[W_pure];by_cases q:(room':Int)<(m:Int)
     ·rw[if_pos q];exact⟨room',rfl,r0,by omega,K03 _,p3⟩
     ·rw[if_neg q];exact⟨m,rfl,m0,m9,by omega,p3⟩
    ·rintro _ h3 ⟨m,rfl,m0,m9,mr,p3⟩;refine z0d p3 (by omega) (by omega) (by omega) λd h4 d0 d1 p4=>?_;rw[z2f,W_pure];exact⟨(1+d).toNat,by rw[K32 (by omega)],by omega,by omega,by omega,p4.up (by omega)⟩
   rintro _ h3 ⟨s,rfl,s0,s9,sr,p3⟩;refine zv9 (.int ((room' / s:Nat):Nat)) _ (show e2 fDiv (eVar 2) (eVar 5) _=_ by
    show fDiv (.int (room':Nat)) (.int (s:Nat))=_;exact zj2 s0 (by omega)) rfl ?_
   refine z7X (i:=0) rfl p3 rfl (by rw[K6];omega) (λv k'=>∃f:Int,v=ceD ⟨x,s,f⟩/\0<=f/\f<s/\k'=k+3 * t+3) ?_ ?_
   ·refine z8u (J5 rfl (J5 rfl (z2B (J5 rfl (J5 rfl ?_)))));exact z0d p3 (by omega) (by omega) (by omega) λd h4 d0 d1 p4=>⟨_,p4,d,rfl,d0,d1,by omega⟩
   rintro _ _ h4 ⟨f,rfl,f0,f1,rfl⟩ p4;refine Y4 ⟨ce++[⟨x,s,f⟩],room' / s,_,_,rfl,?_,?_,λc hc=>?_,Nat.div_pos sr s0,?_⟩
   ·have:=p4.up (k':=k+3 * ((t+1:Nat):Int)) (by omega);simpa using this
   ·unfold nms;rw[K0w,tk,<- en];rfl
   ·rcases K0p.mp hc with q|q
    ·exact ok c q
    ·rw[K0m]at q;subst q;exact⟨by show (0:Int)<(s:Int);omega,by show (s:Int)<=9;omega,f0,f1⟩
   ·rw[K0w,z8R];show room' / s * (prN (ce.map dimC) * (((s:Int).toNat) * 1))<=room;rw[K0x,Nat.mul_one,K5x (prN _) s,<- Nat.mul_assoc];exact K0l (K9l _ (K9t room' s)) rp
  ·rintro γ h2 ⟨ce,room',b,c,rfl,p2,en,ok,r0,rp⟩;rw[show (Src.lst (i+3) (ns.map D.str)).items.length=ns.length by simp[Src.items]]at p2 en;rw[K1f]at en;exact⟨ce,_,_,_,rfl,p2.up (by omega),en,ok,K0l (Nat.le_mul_of_pos_left _ r0) rp⟩
 ·rintro γ h2 ⟨ce,a,b,c,rfl,p2,en,ok,rp⟩;refine z2E (λd h3=>d=.tup (ce.map ceD)/\h3=h2) ?_ ?_
  ·simp only[j7,Z1,aNil,j3,W_pure];exact J5 rfl (z3i (i:=0) p2 rfl ⟨rfl,rfl⟩)
  rintro _ _ ⟨rfl,rfl⟩;exact⟨_,_,p2,by simp only[y9];exact y0 λa=>zj5 _ a,λh3 p3=>z ce h3 en ok rp p3⟩
end
section
variable {γ:G}{h:AH}{k:Int}{r:AH}{i j:Nat}{N C:List Str}{kp:Bool}{Q:D->AH->Prop}
def GAn (N C:List Str) (kp:Bool):Ask->Prop
 | .test t=>GT N t
 | .can x=>x∈C
 | .last x=>kp=true/\x∈C
theorem z5O (n:Nat) (a:Ask):y9 n (askD a)=true:=by
 cases a with
 | test t=>exact z6k n t
 | can x=>rfl
 | last x=>rfl
theorem zS6 (p:PS h k r) (hk:k<700000) (e:r[i]?=.(l (N.map .str))) (l0:0<N.length) (l8:N.length<=8) (ec:r[j]?=.(l (C.map .str))) (c8:C.length<=8) (z:∀a h',GAn N C kp a->PS h' (k+10) r->Q (askD a) h'):W (z1t [.ref 2,.ref (i+3),.ref (j+3),.bl kp]) h Q:=by
 refine z4u p trivial ?_;refine z1W ?_;show W (z21 [.(r 2),.(r (i+3)),.(r (j+3)),some (.bl kp),none]) h _;unfold z21;have e1:(λγ=>do let d <- e2 fGt (j7 fLen (Z1 (eVar 2) aNil)) (λ_=>pure (.int 0)) γ;asB d:G->M Bool) [.(r 2),.(r (i+3)),.(r (j+3)),some (.bl kp),none] h=.ok (decide (0<C.length)) h:=cb_h (e2_h (j9 (Z6 rfl) (z4N (by rw[p.get];exact ec))) (y:=.int 0) rfl (by
  rw[zd1,K6];show Res.ok (D.bl (decide ((0:Int)<(C.length:Int)))) _=_;rw[show decide ((0:Int)<(C.length:Int))=decide (0<C.length) by rw[decide_eq_decide];omega]))
 refine zy7 (λb h1=>(b=true->0<C.length)/\PS h1 (k+1) r) ?_ λb h1 ⟨hb,p1⟩=>?_
 ·by_cases q:0<C.length
  ·rw[decide_eq_true q]at e1;have w:W ((λγ=>do let d <- e2 (fEq false) (eFn 2 Z7 (Z1 (eVar 0) (Z1 (λ_=>pure (.int 2)) aNil))) (λ_=>pure (.int 0)) γ;asB d:G->M Bool) [.(r 2),.(r (i+3)),.(r (j+3)),some (.bl kp),none]) h λb h1=>(b=true->0<C.length)/\PS h1 (k+1) r:=by
    simp only[K01,K07,K0c,K0y,z0T,j3,z0O,W_pure,Z1,aNil,e2,eFn,eVar,if_true];refine z0d p (by omega) (by decide) (by decide) λd h1 d0 d1 p1=>?_;simp only[W_pure,z1x,z3R];exact⟨λ_=>q,p1⟩
   obtain⟨a,b,e3,f⟩:=w;exact⟨a,b,(z9v e1).trans e3,f⟩
  ·rw[decide_eq_false q]at e1;exact⟨false,h,z9t e1,(λz=>absurd z (by decide)),p.up (by omega)⟩
 cases b with
 | true =>
  rw[if_pos rfl];have c0:=hb rfl;refine z0s (x9 (λd h2=>∃w:Str,d=.str w/\(w = "can"\/(w = "last"/\kp=true))/\PS h2 (k+2) r) ?_ ?_)
  ·refine z61 p1 trivial ?_;refine e2_w ?_;have el:∀(γ:G) (h:AH),eLst (Z1 (λ_=>pure (.str "can")) (Z1 (λ_=>pure (.str "last")) aNil)) γ h=newL [.str "can",.str "last"] h:=λγ h=>rfl;refine(show W (newL [.str "can",.str "last"]) h1 _->W (eLst _ _) h1 _ from λ⟨a,b,e,q⟩=>⟨a,b,by rw[el,e],q⟩) ?_;refine z1v p1 (by decide) λh2 p2=>?_;refine z2B (J5 rfl ?_);refine W.of (a:=.int (1+if kp=true then 1 else 0)) (h':=h2) (e2_h (x:=.int 1) rfl (j9 (Z6 rfl) rfl) (by rw[z2f];rfl)) ?_;refine z0d p2 (by omega) (by split<;>omega) (by split<;>omega) λd h3 d0 d1 p3=>?_;cases kp with
   | true =>
    rw[if_pos rfl]at d1;have:d=0\/d=1:=by omega
    rcases this with rfl|rfl
    ·exact z5J p3 z1w rfl ⟨_,_,p3,rfl,λh4 p4=>⟨_,rfl,.inl rfl,p4.up (by omega)⟩⟩
    ·exact z5J p3 z1w rfl ⟨_,_,p3,rfl,λh4 p4=>⟨_,rfl,.inr ⟨rfl,rfl⟩,p4.up (by omega)⟩⟩
   | false =>
    rw[if_neg (by decide)]at d1;have:d=0:=by omega
    subst this;exact z5J p3 z1w rfl ⟨_,_,p3,rfl,λh4 p4=>⟨_,rfl,.inl rfl,p4.up (by omega)⟩⟩
  rintro _ h2 ⟨w,rfl,hw,p2⟩;refine z0s (z2E (λd h3=>∃a,d=askD a/\GAn N C kp a/\PS h3 (k+3) r) ?_ ?_)
  ·refine z6y (J5 rfl ?_);refine e2_w (J5 rfl (z2B (J5 rfl ?_)));refine W.of (a:=.int (C.length:Nat)) (h':=h2) (j9 (Z6 rfl) (by rw[z4N (by rw[p2.get];exact ec),K6])) ?_;refine z0d p2 (by omega) (by omega) (by omega) λd h3 d0 d1 p3=>?_;obtain⟨x,hx,ea⟩:=ats (xs:=C.map D.str) d0 (by rw[K6];exact d1);obtain⟨y,hy,rfl⟩:=K0v.mp hx;refine z5J p3 ec ea ?_;rcases hw with rfl|⟨rfl,ek⟩
   ·exact⟨.can y,rfl,hy,p3.up (by omega)⟩
   ·exact⟨.last y,rfl,⟨ek,hy⟩,p3.up (by omega)⟩
  ·rintro _ h3 ⟨a,rfl,ga,p3⟩;exact⟨_,[],by simpa using p3,z5O _ a,λh4 p4=>z a h4 ga (p4.up (by omega))⟩
 | false =>
  rw[if_neg (by decide)];refine Y0 (z2E (λd h3=>∃a,d=askD a/\GAn N C kp a/\PS h3 (k+6) r) ?_ ?_)
  ·exact z2B (J5 rfl (J5 rfl (zi5 p1 (by omega) e l0 l8 λt h3 gt p3=>⟨.test t,rfl,gt,p3.up (by omega)⟩)))
  ·rintro _ h3 ⟨a,rfl,ga,p3⟩;exact⟨_,[],by simpa using p3,z5O _ a,λh4 p4=>z a h4 ga (p4.up (by omega))⟩
end
section
variable {γ:G}{h:AH}{k:Int}{r:AH}{i j:Nat}{N C:List Str}{kp:Bool}{Q:D->AH->Prop}
theorem zP2 {f:List D->M D}{ma mb mc md:G->M D}(z:W (ma γ) h λa h1=>W (mb γ) h1 λb h2=>W (mc γ) h2 λc h3=>W (md γ) h3 λd h4=>W (f [a,b,c,d]) h4 Q):W (eFn 4 f (Z1 ma (Z1 mb (Z1 mc (Z1 md aNil)))) γ) h Q:=by
 simp only[K07,K0c,K0y,z0T,j3,z0O,W_pure,Z1,aNil,eFn,if_true];exact z
theorem zg1 (n:Nat) (l:List Ask):y9 n (roD l)=true:=by
 unfold roD;simp only[y9];exact y0 λa=>z5O n a
theorem zO3 {n:Nat}(p:PS h k r) (hk:k<600000) (e:r[i]?=.(l (N.map .str))) (l0:0<N.length) (l8:N.length<=8) (ec:r[j]?=.(l (C.map .str))) (c8:C.length<=8) (n4:n<=4) (e0:γ[0]?=some (.(r 2))) (e2:γ[2]?=some (.(r (i+3)))) (e3:γ[3]?=some (.(r (j+3)))) (e4:γ[4]?=some (some (.bl kp))) (e9:γ[9]?=some (.(i (n:Nat))))
 (z:∀(l:List Ask) h',l.length<=4->(∀a∈l,GAn N C kp a)->PS h' (k+40) r->Q (roD l) h') :
 W (clE (j7 J9 (Z1 (z0F [some 0,some 2,some 3,some 4,none] (z0q (eVar 9)) (gN 4) (λ_=>pure true) (eFn 4 z1t (Z1 (eVar 0) (Z1 (eVar 1) (Z1 (eVar 2) (Z1 (eVar 3) aNil)))))) aNil)) γ) h Q:=by
 refine z61 p trivial ?_;simp only[j7,Z1,aNil,j3,W_pure];refine z6T (r:=r) (l:=[]) (λc xs k'=>∃l:List Ask,xs=l.map askD/\(∀a∈l,GAn N C kp a)/\l.length=c/\k'=k+10 * c) ?_;refine zj4 (J5 e9 ⟨n,rfl,by omega,k,by simpa using p,⟨[],rfl,by simp,rfl,by simp⟩,λ_ _ _ _=>trivial,?_,?_⟩)
 ·rintro c d h2 k2 xs hd ⟨l,rfl,g,lc,rfl⟩ p2;obtain⟨rfl,hc⟩:=z3j hd;simp only[capG,K0f,K52,e0,e2,e3,e4,K6i,K6j];simp only[gN,W_pure,K0s,K0r,if_true];refine zP2 (J5 rfl (J5 rfl (J5 rfl (J5 rfl ?_))));refine zS6 p2 (by omega) (z0r e) l0 l8 (z0r ec) c8 λa h4 ga p4=>?_;refine⟨_,p4,by rw[K6];omega,l++[a],by simp,λu hu=>?_,by simp[lc],by omega⟩;rcases K0p.mp hu with z|z
  ·exact g u z
  ·rw[K0m]at z;subst z;exact ga
 ·rintro h2 xs k2 ⟨l,rfl,g,lc,rfl⟩ p2;rw[show (Src.con (z1N n)).items.length=n by simp[Src.items,z1N]]at lc p2;exact z3i (i:=0) p2 rfl ⟨_,_,p2,zg1 _ l,λh3 p3=>z l h3 (by omega) g (p3.up (by omega))⟩
theorem zE9 {me:G->M (List D)}{xs:List D}(p:PS h k r) (hk:k<1000000) (e0:γ[0]?=some (.(r 2))) (el:∀h,eLst me γ h=newL xs h) (hn:xs.length=6) (hx:∀d∈xs,∃n:Nat,d=.int (n:Nat)/\n<=4) (z:∀(n:Nat) h',n<=4->PS h' (k+1) r->Q (.int (n:Nat)) h'):W (clE (e2 fIx (eLst me) (eFn 2 Z7 (Z1 (eVar 0) (Z1 (λ_=>pure (.int 6)) aNil)))) γ) h Q:=by
 refine z4K (xs:=xs) p hk e0 el (by rw[hn];rfl) (by decide) (by decide) (z25 λx hd=>?_) λd h1 hd p1=>?_
 ·obtain⟨n,rfl,_⟩:=hx x hd;rfl
 ·obtain⟨n,rfl,n4⟩:=hx d hd;exact z n h1 n4 p1
end
section
variable {γ:G}{h:AH}{k:Int}{r:AH}{i j w:Nat}{M N C:List Str}{kp:Bool}{Q:D->AH->Prop}
def GRs (N C:List Str) (kp:Bool) (rs:List (List Ask)):Prop:=rs.length<=4/\∀l∈rs,l.length<=4/\∀a∈l,GAn N C kp a
theorem zi6 (n:Nat) (m:Str×List (List Ask)):y9 n (mkD m)=true:=by
 unfold mkD;simp only[y9,k9,K4q,K4p];exact y0 λa=>zg1 n a
theorem zr3 (p:PS h k r) (hk:k<300000) (ew:r[w]?=.(l (M.map .str))) (lM:M.length<=8) (e:r[i]?=.(l (N.map .str))) (l0:0<N.length) (l8:N.length<=8) (ec:r[j]?=.(l (C.map .str))) (c8:C.length<=8) (z:∀(ma:List (Str×List (List Ask))) h',ma.map (·.1)=M->(∀m∈ma,GRs N C kp m.2)->PS h' (k+3000) r->Q (.tup (ma.map mkD)) h'):W (z1m [.ref 2,.ref (w+3),.ref (i+3),.ref (j+3),.bl kp]) h Q:=by
 refine z4u p trivial ?_;refine z1W ?_;show W (z1c [.(r 2),.(r (w+3)),.(r (i+3)),.(r (j+3)),some (.bl kp),none,none,none,none,none]) h _;unfold z1c;refine x9 (λd h1=>d=.ref (r.length+0+3)/\PS h1 k (r++[.lst []])) ?_ ?_
 ·simp only[j3,W_pure,aNil,eLst];exact z1v p (by decide) λh1 p1=>⟨rfl,p1⟩
 rintro _ h1 ⟨rfl,p1⟩;refine z2O (λγ h2=>∃(ma:List (Str×List (List Ask))) (J:AH) (a b c d:Option D),γ=[.(r 2),.(r (w+3)),.(r (i+3)),.(r (j+3)),some (.bl kp),.(r (r.length+0+3)),a,b,c,d]/\PS h2 (k+3000) (r++.lst (ma.map mkD)::J)/\ma.map (·.1)=M/\(∀m∈ma,GRs N C kp m.2)) ?_ ?_
 ·refine z1p (λt γ h2=>∃(ma:List (Str×List (List Ask))) (J:AH) (a b c d:Option D),γ=[.(r 2),.(r (w+3)),.(r (i+3)),.(r (j+3)),some (.bl kp),.(r (r.length+0+3)),a,b,c,d]/\PS h2 (k+300 * t) (r++.lst (ma.map mkD)::J)/\ma.map (·.1)=M.take t/\(∀m∈ma,GRs N C kp m.2)) (λ_ _=>False) ?_;refine seqW p1 rfl (z0r ew) ⟨⟨[],[],_,_,_,_,rfl,by simpa using p1,by simp,by simp⟩,?_,?_,?_,λ_ _ q=>q.elim⟩
  ·rintro t γ h2 ⟨ma,J,a,b,c,d,rfl,p2,_⟩;show h2[w+3]?=_;rw[p2.get,z0r ew]
  ·rintro t d γ h2 hd ⟨ma,J,a,b,c,f,rfl,p2,em,gm⟩;have hd':(M.map D.str)[t]?=some d:=hd;rw[K00]at hd';obtain⟨x,ex,rfl⟩:=K09.mp hd';obtain⟨lt,ex'⟩:=K8.mp ex;have tk:M.take (t+1)=M.take t++[x]:=by rw[K2i,ex];rfl
   have lma:ma.length<=t:=by
    have:=congrArg K6o em;rw[K6,K0g]at this;omega
   refine W.of (a:=[.(r 2),.(r (w+3)),.(r (i+3)),.(r (j+3)),some (.bl kp),.(r (r.length+0+3)),.(s x),b,c,f]) rfl ?_;refine x9 (λd h3=>d=.ref (r.length+(J.length+1)+3)/\PS h3 (k+300 * t) (r++(.lst (ma.map mkD)::J++[.lst []]))) ?_ ?_
   ·simp only[j3,W_pure,aNil,eLst];refine z1v p2 (by decide) λh3 p3=>⟨by simp,by rw[K0z]at p3;exact p3⟩
   rintro _ h3 ⟨rfl,p3⟩;refine z2O (λγ h4=>∃(rs:List (List Ask)) (c d:Option D),γ=[.(r 2),.(r (w+3)),.(r (i+3)),.(r (j+3)),some (.bl kp),.(r (r.length+0+3)),.(s x),.(r ((r.length+(J.length+1)+3))),c,d]/\PS h4 (k+300 * t+250) (r++(.lst (ma.map mkD)::J++[.lst (rs.map roD)]))/\GRs N C kp rs) ?_ ?_
   ·refine z0h (λu γ h4=>∃(rs:List (List Ask)) (c d:Option D),γ=[.(r 2),.(r (w+3)),.(r (i+3)),.(r (j+3)),some (.bl kp),.(r (r.length+0+3)),.(s x),.(r ((r.length+(J.length+1)+3))),c,d]/\PS h4 (k+300 * t+1+50 * u) (r++(.lst (ma.map mkD)::J++[.lst (rs.map roD)]))/\rs.length=u/\∀l∈rs,l.length<=4/\∀a∈l,GAn N C kp a) (λ_ _=>False) ?_;refine zE9 (xs:=[.int 1,.int 0,.int 1,.int 2,.int 1,.int 4]) p3 (by omega) rfl (λh=>rfl) rfl (λd hd=>?_) λn h4 n4 p4=>⟨n,rfl,by omega,⟨[],_,_,rfl,by simpa using p4,rfl,by simp⟩,?_,?_,λ_ _ q=>q.elim⟩
    ·simp only[K0a,K21,or_false]at hd;rcases hd with rfl|rfl|rfl|rfl|rfl|rfl
     ·exact⟨1,rfl,by omega⟩
     ·exact⟨0,rfl,by omega⟩
     ·exact⟨1,rfl,by omega⟩
     ·exact⟨2,rfl,by omega⟩
     ·exact⟨1,rfl,by omega⟩
     ·exact⟨4,rfl,by omega⟩
    ·rintro u γ h5 hu ⟨rs,c,f,rfl,p5,lrs,grs⟩;show W (Z3 _ _ [.(r 2),.(r (w+3)),.(r (i+3)),.(r (j+3)),some (.bl kp),.(r (r.length+0+3)),.(s x),.(r ((r.length+(J.length+1)+3))),.(i (u:Nat)),f]) h5 _;refine x9 (λd h6=>∃n:Nat,d=.int (n:Nat)/\n<=4/\PS h6 (k+300 * t+1+50 * u+1) (r++(.lst (ma.map mkD)::J++[.lst (rs.map roD)]))) ?_ ?_
     ·refine zE9 (xs:=[.int 1,.int 0,.int 1,.int 2,.int 4,.int 1]) p5 (by omega) rfl (λh=>rfl) rfl (λd hd=>?_) λn h6 n4 p6=>⟨n,rfl,n4,p6⟩;simp only[K0a,K21,or_false]at hd;rcases hd with rfl|rfl|rfl|rfl|rfl|rfl
      ·exact⟨1,rfl,by omega⟩
      ·exact⟨0,rfl,by omega⟩
      ·exact⟨1,rfl,by omega⟩
      ·exact⟨2,rfl,by omega⟩
      ·exact⟨4,rfl,by omega⟩
      ·exact⟨1,rfl,by omega⟩
     rintro _ h6 ⟨n,rfl,n4,p6⟩;refine z7X (i:=J.length+1) (xs:=rs.map roD) rfl p6 (by simp) (by rw[K6];omega) (λv k'=>∃l:List Ask,v=roD l/\l.length<=4/\(∀a∈l,GAn N C kp a)/\k'=k+300 * t+1+50 * u+41) ?_ ?_
     ·exact zO3 p6 (by omega) (z0r e) l0 l8 (z0r ec) c8 n4 rfl rfl rfl rfl rfl λl h7 l4 ga p7=>⟨_,p7,l,rfl,l4,ga,by omega⟩
     rintro _ _ h7 ⟨l,rfl,l4,ga,rfl⟩ p7;refine Y4 ⟨rs++[l],_,_,rfl,?_,by simp[lrs],λq hq=>?_⟩
     ·have es:(O.lst (ma.map mkD)::J++[O.lst (rs.map roD)]).set (J.length+1) (.lst (rs.map roD++[roD l]))=.lst (ma.map mkD)::J++[.lst ((rs++[l]).map roD)]:=by
       rw[K0w];simp
      rw[es]at p7;exact p7.up (by omega)
     ·rcases K0p.mp hq with z|z
      ·exact grs q z
      ·rw[K0m]at z;subst z;exact⟨l4,ga⟩
    ·rintro γ h5 ⟨rs,c,f,rfl,p5,lrs,grs⟩;exact⟨rs,_,_,rfl,p5.up (by omega),by omega,grs⟩
   rintro γ h4 ⟨rs,c,f,rfl,p4,grs⟩;refine z7X (i:=0) (l:=.lst (ma.map mkD)::J++[.lst (rs.map roD)]) rfl p4 rfl (by rw[K6];omega) (λv k'=>v=mkD (x,rs)/\k'=k+300 * t+250) ?_ ?_
   ·refine z6y (J5 rfl ?_);simp only[j7,Z1,aNil,j3,W_pure];refine J5 rfl (z3i (i:=J.length+1) p4 (by simp) ⟨_,p4,rfl,rfl⟩)
   rintro _ _ h5 ⟨rfl,rfl⟩ p5;refine Y4 ⟨ma++[(x,rs)],J++[.lst (rs.map roD)],_,_,_,_,rfl,?_,?_,λm hm=>?_⟩
   ·have:=p5.up (k':=k+300 * ((t+1:Nat):Int)) (by omega);simpa using this
   ·rw[K0w,em,tk];rfl
   ·rcases K0p.mp hm with z|z
    ·exact gm m z
    ·rw[K0m]at z;subst z;exact grs
  ·rintro γ h2 ⟨ma,J,a,b,c,d,rfl,p2,em,gm⟩;rw[show (Src.lst (w+3) (M.map D.str)).items.length=M.length by simp[Src.items]]at p2 em;rw[K1f]at em;exact⟨ma,J,_,_,_,_,rfl,p2.up (by omega),em,gm⟩
 ·rintro γ h2 ⟨ma,J,a,b,c,d,rfl,p2,em,gm⟩;refine z2E (λd h3=>d=.tup (ma.map mkD)/\h3=h2) ?_ ?_
  ·simp only[j7,Z1,aNil,j3,W_pure];exact J5 rfl (z3i (i:=0) p2 rfl ⟨rfl,rfl⟩)
  rintro _ _ ⟨rfl,rfl⟩;exact⟨_,_,p2,by simp only[y9];exact y0 λa=>zi6 _ a,λh3 p3=>z ma h3 em gm p3⟩
end
section
variable {γ:G}{h:AH}{k:Int}{r:AH}{i:Nat}{ns:List Str}{Q:D->AH->Prop}
theorem zA5 {A:List Str}{j:Nat}(p:PS h k r) (hk:k<400000) (e:r[i]?=.(l (ns.map .str))) (nd:ns.Nodup) (l0:0<ns.length) (l4:ns.length<=4) (ea:r[j]?=.(l (A.map .str))) (la:A.length<=8) (e0:γ[0]?=some (.(r 2))) (e7:γ[7]?=some (.(r (j+3)))) (e8:γ[8]?=some (.(r (i+3))))
 (z:∀(cm:List Cm) h',(∀c∈cm,GC ns c)->cm.map (·.x)=A->PS h' (k+1000) r->Q (.tup (cm.map cmD)) h') :
 W (clE (j7 J9 (Z1 (z0F [some 0,some 8,none] (z1b (eVar 7)) (gN 2) (λ_=>pure true) (eFn 3 z0l (Z1 (eVar 0) (Z1 (eVar 2) (Z1 (eVar 1) aNil))))) aNil)) γ) h Q:=by
 refine z61 p trivial ?_;simp only[j7,Z1,aNil,j3,W_pure];refine z6T (r:=r) (l:=[]) (λc xs k'=>∃cm:List Cm,xs=cm.map cmD/\(∀q∈cm,GC ns q)/\cm.map (·.x)=A.take c/\k'=k+100 * c) ?_;refine seqW p e7 ea ⟨k,by simpa using p,⟨[],rfl,by simp,by simp,by simp⟩,λh' k' xs' ph=>?_,?_,?_⟩
 ·show h'[j+3]?=_;rw[ph.get,z0r ea]
 ·rintro c d h2 k2 xs hd ⟨cm,rfl,g,lc,rfl⟩ p2;have hd':(A.map D.str)[c]?=some d:=hd;rw[K00]at hd';obtain⟨y,ey,rfl⟩:=K09.mp hd';have lt:=(K8.mp ey).1;have tkA:A.take (c+1)=A.take c++[y]:=by rw[K2i,ey];rfl
  have lcc:cm.length<=c:=by
   have:=congrArg K6o lc;rw[K6,K0g]at this;omega
  simp only[capG,K0f,K52,e0,e8,K6i,K6j];simp only[gN,W_pure,K0s,K0r,if_true];refine zD6 (J5 rfl (J5 rfl (J5 rfl ?_)));refine z8T p2 (by omega) (z0r e) nd l0 l4 λq h4 eq gq p4=>?_;refine⟨_,p4,by rw[K6];omega,cm++[q],by simp,λu hu=>?_,by rw[K0w,lc,tkA,<- eq];rfl,by omega⟩;rcases K0p.mp hu with z|z
  ·exact g u z
  ·rw[K0m]at z;subst z;exact gq
 ·rintro h2 xs k2 ⟨cm,rfl,g,lc,rfl⟩ p2;rw[show (Src.lst (j+3) (A.map D.str)).items.length=A.length by simp[Src.items]]at lc p2;rw[K1f]at lc;exact z3i (i:=0) p2 rfl ⟨_,_,p2,by simp only[y9];exact y0 λa=>z7T _ a,λh3 p3=>z cm h3 g lc (p3.up (by omega))⟩
end
section
variable {γ:G}{h:AH}{k:Int}{r:AH}{Q:D->AH->Prop}
theorem zt1 {ns:List Str}(n:Nat) (s:NS ns):(ns.take n).Nodup:=s.1.sublist (K7u _ _)
theorem zD1 (n:Nat) (p:Pg):y9 n (pgD p)=true:=by
 unfold pgD;simp only[y9,k9,K4q,K4p,K0h];exact⟨y0 λa=>zj5 _ a,y0 λa=>z7T _ a,y0 λa=>zi6 _ a⟩
theorem if_w {kk:G->M Bool}{ms mr:G->M Out}{b:Bool}{Q:Out->AH->Prop}(e:kk γ h=.ok b h) (z:W ((if b=true then ms else mr) γ) h Q):W (sIf kk ms mr γ) h Q:=by
 obtain⟨o,h',e2,q⟩:=z;refine⟨o,h',?_,q⟩;unfold sIf;rw[M.bind_ok e,<- e2];cases b<;>rfl
theorem zO6:((4:Nat)<=sizeLine)=True:=by simp[sizeLine]
theorem zO9 {f:List D->M D}{ma mb mc md me:G->M D}(z:W (ma γ) h λa h1=>W (mb γ) h1 λb h2=>W (mc γ) h2 λc h3=>W (md γ) h3 λd h4=>W (me γ) h4 λe h5=>W (f [a,b,c,d,e]) h5 Q):W (eFn 5 f (Z1 ma (Z1 mb (Z1 mc (Z1 md (Z1 me aNil))))) γ) h Q:=by
 simp only[K07,K0c,K0y,z0T,j3,z0O,W_pure,Z1,aNil,eFn,if_true];exact z
theorem zC1 {ma mb mc md:G->M D}(z:W (ma γ) h λa h1=>W (mb γ) h1 λb h2=>W (mc γ) h2 λc h3=>W (md γ) h3 λd h4=>Q (.tup [a,b,c,d]) h4):W (eTup (Z1 ma (Z1 mb (Z1 mc (Z1 md aNil)))) γ) h Q:=by
 simp only[K07,K0c,K0y,z0T,j3,z0O,W_pure,Z1,aNil,eTup,if_true,zO6];exact z
theorem z90 {cmds mks room0:Nat}(p:PS h k r) (hk:k<100000) (hc:cmds<=8) (hm:mks<=4) (hr9:9<=room0) (hr40:room0<=40) (z:∀pg h',GP pg->prN (dims pg)<=40->PS h' (k+5000) r->Q (pgD pg) h'):W (x6 [.ref 2,.int (room0:Nat),.int (cmds:Nat),.int (mks:Nat)]) h Q:=by
 refine z4u p trivial ?_;refine z1W ?_;show W (z0G [.(r 2),.(i (room0:Nat)),.(i (cmds:Nat)),.(i (mks:Nat)),none,none,none,none,none,none,none,none]) h _;unfold z0G;refine x9 (λd h1=>∃kp:Bool,d=.bl kp/\PS h1 (k+1) r) ?_ ?_
 ·refine e2_w (z2B (J5 rfl ?_));refine W.of (a:=.int 2) (h':=h) rfl ?_;refine z0d p (by omega) (by decide) (by decide) λd h1 d0 d1 p1=>?_;refine W.of (a:=.int 1) (h':=h1) rfl ?_;rw[z3R,W_pure];exact⟨_,rfl,p1⟩
 rintro _ h1 ⟨kp,rfl,p1⟩;refine x9 (λd h1=>∃sh:Bool,d=.bl sh/\PS h1 (k+2) r) ?_ ?_
 ·refine e2_w (z2B (J5 rfl ?_));refine W.of (a:=.int 3) (h':=h1) rfl ?_;refine z0d p1 (by omega) (by decide) (by decide) λd h1 d0 d1 p1=>?_;refine W.of (a:=.int 0) (h':=h1) rfl ?_;rw[z3R,W_pure];exact⟨_,rfl,p1.up (by omega)⟩
 rintro _ h2 ⟨sh,rfl,p2⟩;refine x9 (λd h1=>∃m:Nat,d=.int (m:Nat)/\0<m/\m<=4/\PS h1 (k+3) r) ?_ ?_
 ·simp only[K01,K07,K0c,K0s,K0r,K0y,z0T,j3,z0O,W_pure,Z1,aNil,e2,eFn,eVar,if_true];refine z0d p2 (by omega) (by decide) (by decide) λd h1 d0 d1 p1=>?_;rw[z2f,W_pure];exact⟨(1+d).toNat,by rw[K32 (by omega)],by omega,by omega,p1.up (by omega)⟩
 rintro _ h3 ⟨m,rfl,m0,m4,p3⟩;refine x9 (λd h1=>∃c:Nat,d=.int (c:Nat)/\c<=cmds/\PS h1 (k+4) r) ?_ ?_
 ·simp only[K0k,K01,K07,K0c,K0s,K0r,K0y,z0T,j3,z0O,W_pure,Z1,aNil,z2f,e2,eFn,eVar,if_true];refine z0d p3 (by omega) (by omega) (by omega) λd h1 d0 d1 p1=>?_;exact⟨d.toNat,by rw[K32 (by omega)],by omega,p1.up (by omega)⟩
 rintro _ h4 ⟨c,rfl,cc,p4⟩;refine x9 (λd h1=>∃mm:Nat,d=.int (mm:Nat)/\mm<=mks/\PS h1 (k+5) r) ?_ ?_
 ·simp only[K0k,K01,K07,K0c,K0s,K0r,K0y,z0T,j3,z0O,W_pure,Z1,aNil,z2f,e2,eFn,eVar,if_true];refine z0d p4 (by omega) (by omega) (by omega) λd h1 d0 d1 p1=>?_;exact⟨d.toNat,by rw[K32 (by omega)],by omega,p1.up (by omega)⟩
 rintro _ h5 ⟨mm,rfl,lmm,p5⟩;refine x9 (λd h1=>∃A:List Str,A.length=8/\NS A/\d=.ref (r.length+3)/\PS h1 (k+50) (r++[.lst (A.map .str)])) ?_ ?_
 ·refine z2B (J5 rfl ?_);refine W.of (a:=.int 8) (h':=h5) rfl ?_;exact z59 (n:=8) p5 trivial (by omega) (by decide) λns h' l s q=>⟨ns,l,s,rfl,q.up (by omega)⟩
 rintro _ h6 ⟨A,lA,sA,rfl,p6⟩;refine x9 (λd h1=>d=.ref (r.length+1+3)/\PS h1 (k+50) (r++[.lst (A.map .str),.lst ((A.take m).map .str)])) ?_ ?_
 ·refine hi_w p6 rfl rfl z1w (by rw[K6];omega) λh7 p7=>⟨by simp,?_⟩;rw[K0z,<- K5a]at p7;exact p7
 rintro _ h7 ⟨rfl,p7⟩;refine x9 (λd h1=>∃X,d=.ref (r.length+3+3)/\PS h1 (k+50) (r++[.lst (A.map .str),.lst ((A.take m).map .str),X,.lst ((A.reverse.take mm).map .str)])) ?_ ?_
 ·have e:∀γ:G,γ[7]?=some (.(r (r.length+3)))->γ[3]?=some (.(i (mm:Nat)))->W (z0X (eRev (eVar 7) (eNeg (λ_=>pure (.int 1)))) z2r (z2c (eVar 3)) γ) h7 λd h1=>∃X,d=.ref (r.length+3+3)/\PS h1 (k+50) (r++[.lst (A.map .str),.lst ((A.take m).map .str),X,.lst ((A.reverse.take mm).map .str)]):=λγ ea eb=>by
   unfold z0X;rw[j3];have er:eRev (eVar 7) (eNeg (λ_=>pure (.int 1))) γ=fRev (.ref (r.length+3)):=by
    unfold eRev eNeg eVar;rw[ea];rfl
   rw[er];show W (getL (r.length+3) >>= λxs=>newL xs.reverse) h7 _;rw[j3];refine z2u p7 (at_E (i:=0)) ?_;refine z1v p7 (by rw[K31,K6];omega) λh8 p8=>?_;simp only[j3,W_pure,eVar,eb,z2r,z2c];show W (getL _ >>= λxs=>newL (cutD xs none (some (mm:Int)))) h8 _;rw[j3];refine z2u p8 z1w ?_;rw[z8g];refine z1v p8 (by rw[K0g,K31,K6];omega) λh9 p9=>⟨.lst ((A.map D.str).reverse),by simp,?_⟩;rw[show (A.reverse.take mm).map D.str=(A.map D.str).reverse.take mm by rw[K5a,List.map_reverse]];simpa using p9
  exact e _ rfl rfl
 rintro _ h8 ⟨X,rfl,p8⟩;refine z2O (λγ h9=>∃(l:AH) (ci wi:Nat) (N M:List Str),γ=[.(r 2),.(i (room0:Nat)),.(i (c:Nat)),.(i (mm:Nat)),some (.bl kp),some (.bl sh),.(i (m:Nat)),.(r (r.length+3)),.(r (ci+3)),.(r (wi+3)),none,none]/\PS h9 (k+150) (r++.lst (A.map .str)::l)/\(r++.lst (A.map .str)::l)[ci]?=.(l (N.map .str))/\(r++.lst (A.map .str)::l)[wi]?=.(l (M.map .str))/\N.Nodup/\N.length=m/\M.Nodup/\M.length<=8) ?_ ?_
 ·have ln:∀{Q:D->AH->Prop} (γ:G) (n:Nat) (a:Nat) (h:AH) (k':Int) (r':AH),PS h k' r'->k'<800000->n<=8->γ[0]?=some (.(r 2))->γ[a]?=some (.(i (n:Nat)))->(∀ns h',ns.length=n->NS ns->PS h' (k'+45) (r'++[.lst (ns.map .str)])->Q (.ref (r'.length+3)) h')->W (eFn 2 z0f (Z1 (eVar 0) (Z1 (eVar a) aNil)) γ) h Q:=λγ n a h k' r' p hk hn e0 ea z=>z2B (J5 e0 (J5 ea (z59 p trivial hk hn z)));refine if_w (b:=!sh) (cn_h (cv_h (Z6 rfl))) ?_;cases sh with
  | true =>
   rw[if_neg (by decide)];exact Y4 ⟨[.lst ((A.take m).map .str),X,.lst ((A.reverse.take mm).map .str)],r.length+1,r.length+3,A.take m,A.reverse.take mm,rfl,p8.up (by omega),by rw[at_E];rfl,by rw[at_E];rfl,zt1 m sA,by rw[K0g];omega,((List.reverse_perm A).nodup_iff.mpr sA.1).sublist (K7u _ _),by rw[K0g,K31];omega⟩
  | false =>
   rw[if_pos (show (!false)=true from rfl)];refine x9 (λd h1=>∃N:List Str,N.length=m/\NS N/\d=.ref (r.length+4+3)/\PS h1 (k+95) (r++[.lst (A.map .str),.lst ((A.take m).map .str),X,.lst ((A.reverse.take mm).map .str),.lst (N.map .str)])) ?_ ?_
   ·refine ln _ m 6 _ _ _ p8 (by omega) (by omega) rfl rfl λns h' l s q=>⟨ns,l,s,by simp,?_⟩;rw[K0z]at q;exact q.up (by omega)
   rintro _ h9 ⟨N,lN,sN,rfl,p9⟩;refine x9 (λd h1=>∃M:List Str,M.length=mm/\NS M/\d=.ref (r.length+5+3)/\PS h1 (k+140) (r++[.lst (A.map .str),.lst ((A.take m).map .str),X,.lst ((A.reverse.take mm).map .str),.lst (N.map .str),.lst (M.map .str)])) ?_ ?_
   ·refine ln _ mm 3 _ _ _ p9 (by omega) (by omega) rfl rfl λns h' l s q=>⟨ns,l,s,by simp,?_⟩;rw[K0z]at q;exact q.up (by omega)
   rintro _ h10 ⟨M,lM,sM,rfl,p10⟩;exact Y4 ⟨[.lst ((A.take m).map .str),X,.lst ((A.reverse.take mm).map .str),.lst (N.map .str),.lst (M.map .str)],r.length+4,r.length+5,N,M,rfl,p10.up (by omega),by rw[at_E];rfl,by rw[at_E];rfl,sN.1,lN,sM.1,by omega⟩
 rintro γ h9 ⟨l,ci,wi,N,M,rfl,p9,eN,eW,nN,lN,nM,lM⟩;refine x9 (λd h1=>∃(j:Nat) (s:AH),s=r++.lst (A.map .str)::(l++[.lst ((A.take c).map .str)])/\d=.ref (j+3)/\PS h1 (k+150) s/\s[j]?=.(l (((A.take c).map .str)))/\s[ci]?=.(l (N.map .str))/\s[wi]?=.(l (M.map .str))) ?_ ?_
 ·refine hi_w (a:=7) (b:=2) (i:=r.length) (xs:=A.map .str) p9 rfl rfl (by simp) (by rw[K6];omega) λh10 p10=>?_;have es:r++O.lst (A.map D.str)::(l++[O.lst ((A.take c).map D.str)])=(r++O.lst (A.map D.str)::l)++[.lst ((A.map D.str).take c)]:=by rw[K5a];simp
  exact⟨_,_,rfl,rfl,by rw[es];exact p10,by rw[es,<- K5a];exact z1w,by rw[es];exact z0r eN,by rw[es];exact z0r eW⟩
 rintro _ h10 ⟨j,s,es,rfl,p10,eA,eN',eW'⟩;have lc:(A.take c).length=c:=by rw[K0g];omega
 refine z2O (λγ h11=>∃room:Nat,γ=[.(r 2),.(i (room:Nat)),.(i (c:Nat)),.(i (mm:Nat)),some (.bl kp),some (.bl sh),.(i (m:Nat)),.(r (j+3)),.(r (ci+3)),.(r (wi+3)),none,none]/\h11=h10/\0<room/\room<=room0/\room * (if kp=true then c+1 else 1)<=room0) ?_ ?_
 ·refine if_w (b:=kp) (cv_h (Z6 rfl)) ?_;cases kp with
  | true =>
   rw[if_pos rfl];have d1:room0 / (1+c) * (1+c)<=room0:=K9t _ _;have d2:room0 / (1+c)<=room0:=Nat.div_le_self _ _;refine z05 (.int ((room0 / (1+c):Nat):Int)) _ (h1:=h10) (e2_h (x:=.int (room0:Nat)) (y:=.int ((1+c:Nat):Int)) (Z6 rfl) (e2_h (x:=.int 1) rfl (Z6 rfl) (by rw[z2f];rfl)) (by rw[zj2 (by omega) (by omega)];rfl)) rfl ?_;exact Y4 ⟨room0 / (1+c),rfl,rfl,Nat.div_pos (by omega) (by omega),d2,by rw[if_pos rfl,Nat.add_comm c 1];exact d1⟩
  | false =>
   rw[if_neg (by decide)];exact Y4 ⟨room0,rfl,rfl,by omega,by omega,by rw[if_neg (by decide)];omega⟩
 rintro γ h11 ⟨room,rfl,rfl,r0,r40,rp⟩;refine x9 (λd h1=>∃ce,d=.tup (ce.map ceD)/\nms ce=N/\(∀c∈ce,CeOk c)/\prN (ce.map dimC)<=room/\PS h1 (k+250) s) ?_ ?_
 ·exact zD6 (J5 rfl (J5 rfl (J5 rfl (zm4 p10 (by omega) eN' (by omega) r0 (by omega) λce h' a b c q=>⟨ce,rfl,a,b,c,q.up (by omega)⟩))))
 rintro _ h12 ⟨ce,rfl,en,ok,pr,p12⟩;refine x9 (λd h1=>∃cm:List Cm,d=.tup (cm.map cmD)/\(∀c∈cm,GC N c)/\cm.map (·.x)=A.take c/\PS h1 (k+1250) s) ?_ ?_
 ·exact zA5 p12 (by omega) eN' nN (by omega) (by omega) eA (by omega) rfl rfl rfl λcm h' a b q=>⟨cm,rfl,a,b,q.up (by omega)⟩
 rintro _ h13 ⟨cm,rfl,gc,ecm,p13⟩;have lcm:cm.length=c:=by rw[<- lc,<- ecm,K6]
 have lce:ce.length=N.length:=by rw[<- en];unfold nms;rw[K6]
 refine z2E (λd h1=>∃ma:List (Str×List (List Ask)),d=pgD ⟨ce,cm,ma,kp⟩/\ma.map (·.1)=M/\(∀m∈ma,GRs N (A.take c) kp m.2)/\PS h1 (k+4300) s) ?_ ?_
 ·exact zC1 (J5 rfl (J5 rfl (zO9 (J5 rfl (J5 rfl (J5 rfl (J5 rfl (J5 rfl (zr3 p13 (by omega) eW' lM eN' (by omega) (by omega) eA (by omega) λma h' em gm q=>J5 rfl ⟨ma,rfl,em,gm,q.up (by omega)⟩)))))))))
 rintro _ h14 ⟨ma,rfl,em,gm,p14⟩;rw[es]at p14;refine⟨_,_,p14,zD1 _ _,λh15 p15=>z ⟨ce,cm,ma,kp⟩ h15 ⟨?_,by rw[en];exact nN,by show 0<ce.length;omega,by show ce.length<=4;omega,by show cm.length<=8;omega,ok,by rw[en];exact gc⟩ ?_ (p15.up (by omega))⟩
 ·refine⟨by rw[em];exact nM,by
   have:=congrArg K6o em;rw[K6]at this;show ma.length<=8;omega,λm hm=>by have:=(gm m hm).1;omega,λm hm l hl=>by have:=((gm m hm).2 l hl).1;omega,λm hm l hl a ha=>?_⟩
  have ga:=((gm m hm).2 l hl).2 a ha;cases a with
  | test t=>show GT (nms ce) t;rw[en];exact ga
  | can x=>show x∈cm.map (·.x);rw[ecm];exact ga
  | last x=>exact⟨ga.1,by show x∈cm.map (·.x);rw[ecm];exact ga.2⟩
 unfold dims;rw[z8R];show prN (ce.map dimC) * prN (if kp=true then [(-1,cm.length+1)] else [])<=40;refine K0l (K9l _ pr) ?_;rw[lcm];cases kp with
 | true =>
  rw[if_pos rfl]at rp ⊢;show room * ((c+1) * 1)<=40;rw[Nat.mul_one];omega
 | false =>
  rw[if_neg (by decide)]at rp ⊢;show room * 1<=40;omega
end
def Slf (n:Nat) (x:D):Prop:=∀h,Y9 n [x,x] h=.ok (.bl true) h
theorem zH6 {n:Nat}(s:Str):Slf (n+1) (.str s):=λh=>by
 show runF 3 (z0g (Y9 n)) [.str s,.str s] h=_;refine z1o ?_;show W (z0g (Y9 n) [.(s s),.(s s),none]) h _;unfold z0g;refine Y2 false (cv_h (z2g (Z6 rfl) rfl)) ?_;rw[if_neg (by decide)];refine Y0 (Y2 false (cv_h (z2g (Z6 rfl) rfl)) ?_);rw[if_neg (by decide)];refine Y0 (Y2 false (cv_h (z2g (Z6 rfl) rfl)) ?_);rw[if_neg (by decide)];refine Y0 (Y2 true (cv_h (z2g (Z6 rfl) rfl)) ?_);rw[if_pos rfl];have e1:eIsi "str" (eVar 0) [.(s s),.(s s),none] h=.ok (.bl true) h:=z2g (Z6 rfl) rfl;have e2':e2 (fEqX false) (eVar 0) (eVar 1) [.(s s),.(s s),none] h=.ok (.bl true) h:=e2_h (Z6 rfl) (Z6 rfl) (by rw[z7Z (z9c s s),decide_eq_true rfl];rfl);refine z0s (J2 (.bl true) ?_ ⟨rfl,rfl⟩);unfold eAnd;rw[M.bind_ok e1];exact e2'
theorem zB3 {n:Nat}{xs:List D}(hl:xs.length<=1000) (z:∀x∈xs,Slf n x):Slf (n+1) (.tup xs):=λh=>by
 show runF 3 (z0g (Y9 n)) [.tup xs,.tup xs] h=_;refine z1o ?_;show W (z0g (Y9 n) [.(g xs),.(g xs),none]) h _;unfold z0g;refine Y2 true (cv_h (z2g (Z6 rfl) rfl)) ?_;rw[if_pos rfl];refine z0s (Y2 false (z5Q (cn_h (b:=true) (cv_h (z2g (Z6 rfl) rfl))) (cb_h (e2_h (j9 (Z6 rfl) (by rw[z0A];rfl)) (j9 (Z6 rfl) (by rw[z0A];rfl)) (by rw[z44,decide_eq_true rfl];rfl)))) ?_);rw[if_neg (by decide)];refine Y0 (z0s ?_);rw[w_cons];refine z0h (λc γ h'=>∃w,γ=[.(g xs),.(g xs),w]/\h'=h) (λ_ _=>False) ?_;refine W.of (a:=.int (xs.length:Nat)) (h':=h) (j9 (Z6 rfl) (by rw[z0A];rfl)) ⟨xs.length,rfl,by omega,⟨_,rfl,rfl⟩,?_,?_,λ_ _ q=>q.elim⟩
 ·rintro c γ h1 hc ⟨w,rfl,rfl⟩;have e:∀(γ:G) (a:Nat),γ[a]?=some (.(g xs))->γ[2]?=some (.(i (c:Nat)))->e2 fIx (eVar a) (eVar 2) γ h1=.ok xs[c] h1:=λγ a ea eb=>e2_h (Z6 ea) (Z6 eb) (by rw[ix_tup (v3 (K7 hc))];rfl);show W (Z3 _ _ [.(g xs),.(g xs),.(i (c:Nat))]) h1 _;refine Y2 false (cn_h (b:=true) (cv_h (fn_h (ds:=[xs[c],xs[c]]) (ac_h (e _ 0 rfl rfl) (ac_h (e _ 1 rfl rfl) rfl)) rfl (z _ (K36 hc) h1)))) ?_;rw[if_neg (by decide)];exact Y0 (Y4 ⟨_,rfl,rfl⟩)
 ·rintro γ h1 ⟨w,rfl,rfl⟩;exact z0s (J2 (.bl true) rfl ⟨rfl,rfl⟩)
theorem z7g {n:Nat}{l:List Str}(hl:l.length<=1000):Slf (n+2) (.tup (l.map .str)):=zB3 (by rw[K6];exact hl) λx hx=>by
 obtain⟨v,_,rfl⟩:=K0v.mp hx;exact zH6 v
section
variable {p:Pg}{R:List Int}{h:AH}
theorem z8s {M:List (List Int)}:∀(rs L:List (List Int)),stL L rs <+: M->lds L rs=rs.map M.idxOf
 | [],_,_=>rfl
 | r::rs,L,q=>by
  show (stp L r).idxOf r::lds (stp L r) rs=_;rw[z8s rs (stp L r) q,K0f,zm5 ((z2p rs (stp L r)).trans q) z4m]
theorem z9C:∀{rs L:List (List Int)},∀S∈rs,S∈stL L rs
 | r::rs,L,S,h=>by
  rcases K0a.mp h with rfl|h
  ·exact(z2p rs (stp L S)).subset z4m
  ·exact z9C (rs:=rs) (L:=stp L r) S h
theorem zB1 {t:Nat}(g:GP p) (b:prN (dims p)<=40) (lt:t<(layS p 40).1.length):∃R,(layS p 40).1[t]?=some R/\(layS p 40).2[t]?=some (setN ((nxt p R p.cm.length).map (layS p 40).1.idxOf))/\(layS p t).1[t]?=some R/\∀S∈nxt p R p.cm.length,S∈(layS p 40).1:=by
 have l40:=(LI.at g 40).gl.le b;have e40:t+1+(40 - (t+1))=40:=by omega
 obtain⟨R,eR,e1⟩:=zx2 g b lt;have pre:stL (layS p t).1 (nxt p R p.cm.length) <+: (layS p 40).1:=by
  have:=z4d (p:=p) (t+1) (40 - (t+1));rw[e40,e1]at this;exact this
 have e2:∀d,(layS p (t+1)).2 <+: (layS p (t+1+d)).2:=λd=>by
  induction d with
  | zero=>exact K4m
  | succ d ih =>
   refine ih.trans ?_;show _ <+: (lay1 p (layS p (t+1+d))).2;unfold lay1;split
   ·exact K4m
   ·exact Z0c _ _
 have e3:=e2 (40 - (t+1));rw[e40]at e3;have c:¬ (layS p t).1.length<=(layS p t).2.length:=λc=>by
  have:=z2z c (40 - t);rw[show t+(40 - t)=40 by omega]at this;have l2:=z8L (p:=p) t;rw[this]at lt;omega
 have et:(layS p t).2.length=t:=by
  rcases z4q g t with e|e
  ·exact e
  ·exact absurd (K3y e) c
 have eT:(layS p t).1[t]?=some R:=by
  have q:(layS p t).1[t]?=some ((layS p t).1[t]'(by omega)):=K7 _;have:=z4C (z4d (p:=p) t (40 - t)) q;rw[show t+(40 - t)=40 by omega,eR]at this;rw[q];exact this.symm
 refine⟨R,eR,z4C e3 ?_,eT,λS hS=>pre.subset (z9C S hS)⟩;show (lay1 p (layS p t)).2[t]?=_;unfold lay1;rw[et,eT];dsimp only;rw[K2c (by omega),et,Z0m,z8s _ _ pre];rfl
end
section
variable {h:AH}{p:Pg}
theorem zP4 {S:List Int}{γ:G}(e:γ[9]?=some (some (rmD S))):(λγ=>do let d <- e2 (fIs true) (eVar 9) (λ_=>pure .non) γ;asB d:G->M Bool) γ h=.ok true h:=cb_h (e2_h (Z6 e) (y:=.non) rfl rfl)
theorem zS5 {γ:G}(e:γ[9]?=some (some .non)):(λγ=>do let d <- e2 (fIs true) (eVar 9) (λ_=>pure .non) γ;asB d:G->M Bool) γ h=.ok false h:=cb_h (e2_h (Z6 e) (y:=.non) rfl rfl)
theorem zP0 {γ:G}{L:List (List Int)}{S:List Int}{a b:Nat}(ea:γ[a]?=some (.(g (L.map rmD)))) (eb:γ[b]?=some (some (rmD S))) (hl:L.length<=1000) (hS:S∈L):z26 (eVar a) (eVar b) γ h=.ok (.int (L.idxOf S:Nat)) h:=by
 unfold z26;rw[M.bind_ok (Z6 ea)];dsimp only;rw[M.bind_ok (Z6 eb)];exact zO8 z5j (z3G _) (by omega) hS
theorem zE7 {γ:G}{a:Nat}(g:GP p) (b:prN (dims p)<=40) (e:γ[a]?=some (some (pgD p))):eFnP 1 0 [] [c_MOST] z31 (Z1 (eVar a) aNil) aNil γ h=.ok (layD p (layS p 40)) h:=by
 unfold eFnP;rw[M.bind_ok (ac_h (Z6 e) (ds:=[]) rfl),M.bind_ok (show aNil γ h=.ok [] h from rfl),if_pos ⟨rfl,rfl⟩];exact zK5 g b
theorem zM3 {γ:G}{a:Nat}(g:GP p) (b:prN (dims p)<=40) (e:γ[a]?=some (some (pgD p))):eFnP 1 1 [] [] z31 (Z1 (eVar a) aNil) (Z1 (λ_=>pure (.int 40)) aNil) γ h=.ok (layD p (layS p 40)) h:=by
 unfold eFnP;rw[M.bind_ok (ac_h (Z6 e) (ds:=[]) rfl),M.bind_ok (ac_h (d:=.int 40) (ds:=[]) (show (λ_=>pure (.int 40):G->M D) γ h=.ok (.int 40) h from rfl) rfl),if_pos ⟨rfl,rfl⟩];exact zK5 g b
theorem z4z {R S:List Int}{u:Nat}(e:nxF p R u=some S):nxt p R (u+1)=nxt p R u++[S]:=by rw[z3f,e];rfl
theorem z9M {R:List Int}{u:Nat}(e:nxF p R u=none):nxt p R (u+1)=nxt p R u:=by rw[z3f,e];exact K2d _
theorem z9B {R:List Int}{u n:Nat}(hu:u<=n):∀S∈nxt p R u,S∈nxt p R n:=λS hS=>by
 obtain⟨k,hk,e⟩:=K4h.mp hS;exact K4h.mpr ⟨k,by rw[K20]at hk ⊢;omega,e⟩
theorem zQ4 {k l:G->M Bool}{γ:G}{h h1:AH}{r:Res Bool}(e1:k γ h=.ok false h1) (e2:l γ h1=r):cOr k l γ h=r:=by
 unfold cOr;rw[M.bind_ok e1,if_neg (by decide)];exact e2
end
theorem math:∀ns:List Int,ns.length<=63->∃h',m_law [.fl (ns.map .int)] []=.ok (.bl true) h':=by
 intro ns hn;have key:W (m_law [.fl (ns.map .int)]) [] λd _=>d=.bl true:=by
  refine z1W ?_;show W (zc1 [some (.fl (ns.map .int)),none,none,none,none,none,none,none,none,none]) [] _;unfold zc1;refine x9 (λd h1=>d=.ref 2/\PS h1 0 []) ?_ ?_
  ·simp only[K01,K07,K0c,K0y,z0T,j3,z0O,W_pure,Z1,aNil,eFn,eVar,if_true];exact zc2 hn
  rintro _ h1 ⟨rfl,p1⟩;refine x9 (λd h1=>∃bn:Bool,d=.bl bn/\PS h1 1 []) ?_ ?_
  ·refine e2_w (z2B (J5 rfl ?_));refine W.of (a:=.int 2) (h':=h1) rfl ?_;refine z0d p1 (by omega) (by decide) (by decide) λd h1 d0 d1 p1=>?_;refine W.of (a:=.int 1) (h':=h1) rfl ?_;rw[z3R,W_pure];exact⟨_,rfl,p1.up (by omega)⟩
  rintro _ h2 ⟨bn,rfl,p2⟩;have dr:∀(γ:G) (h:AH),γ[1]?=some (.(r 2))->PS h 1 []->W (eFn 4 x6 (Z1 (eVar 1) (Z1 (λ_=>pure (.int 24)) (Z1 (λ_=>pure (.int 5)) (Z1 (λ_=>pure (.int 4)) aNil)))) γ) h λd h1=>∃p,d=pgD p/\GP p/\prN (dims p)<=40:=λγ h e p=>by
   have:eFn 4 x6 (Z1 (eVar 1) (Z1 (λ_=>pure (.int 24)) (Z1 (λ_=>pure (.int 5)) (Z1 (λ_=>pure (.int 4)) aNil)))) γ h=x6 [.ref 2,.int ((24:Nat):Int),.int ((5:Nat):Int),.int ((4:Nat):Int)] h:=fn_h (ac_h (Z6 e) (ac_h (d:=.int 24) rfl (ac_h (d:=.int 5) rfl (ac_h (d:=.int 4) (ds:=[]) rfl rfl)))) rfl rfl;obtain⟨a,b,e2,q⟩:=z90 (cmds:=5) (mks:=4) (room0:=24) (Q:=λd h1=>∃p,d=pgD p/\GP p/\prN (dims p)<=40) p (by omega) (by omega) (by omega) (by omega) (by omega) λpg h' g b q=>⟨pg,rfl,g,b⟩;exact⟨a,b,this.trans e2,q⟩
  refine x9 _ (dr _ _ rfl p2) ?_;rintro _ h3 ⟨p,rfl,g,b⟩;obtain⟨s,es⟩:∃s,s=layS p 40:=⟨_,rfl⟩;have li:LI p s:=es ▸ LI.at g 40;have ll:s.1.length=s.2.length:=es ▸ z8y g b;have l40:=li.gl.le b;refine z2O (λγ h1=>γ=[some (.fl (ns.map .int)),.(r 2),some (.bl bn),some (pgD p),some (layD p s),none,none,none,none,none]/\h1=h3) ?_ ?_
  ·refine if_w (b:=bn) (by cases bn<;>rfl) ?_;cases bn with
   | true =>
    rw[if_pos rfl];refine z05 (layD p s) [some (.fl (ns.map .int)),.(r 2),some (.bl true),some (pgD p),some (layD p s),none,none,none,none,none] (es ▸ zM3 g b rfl) rfl (Y4 ⟨rfl,rfl⟩)
   | false =>
    rw[if_neg (by decide)];refine z05 (layD p s) [some (.fl (ns.map .int)),.(r 2),some (.bl false),some (pgD p),some (layD p s),none,none,none,none,none] (es ▸ zE7 g b rfl) rfl (Y4 ⟨rfl,rfl⟩)
  rintro γ h1 ⟨rfl,rfl⟩;refine Y2 false (cn_h (b:=true) (cv_h (fn_h (ds:=[pgD p,layD p s]) (ac_h (Z6 rfl) (ac_h (Z6 rfl) rfl)) rfl (es ▸ z5V g b)))) ?_;rw[if_neg (by decide)];refine Y0 (z05 (.tup (s.1.map rmD)) [some (.fl (ns.map .int)),.(r 2),some (.bl bn),some (pgD p),some (layD p s),.(g (s.1.map rmD)),none,none,none,none] (e2_h (Z6 rfl) (y:=.int 1) rfl (ly1 s)) rfl ?_);refine z2O (λγ h1=>True) ?_ λγ h1 _=>J2 (.bl true) rfl rfl;refine z0h (λt γ h1=>∃x1 x2 x3 x4,γ=[some (.fl (ns.map .int)),.(r 2),some (.bl bn),some (pgD p),some (layD p s),.(g (s.1.map rmD)),x1,x2,x3,x4]) (λ_ _=>False) ?_;refine W.of (a:=.int (s.1.length:Nat)) (j9 (Z6 rfl) (by rw[z0A,K6];rfl)) ⟨s.1.length,rfl,by omega,⟨_,_,_,_,rfl⟩,?_,λ_ _ _=>trivial,λ_ _ q=>q.elim⟩;rintro t γ h1 ht ⟨x1,x2,x3,x4,rfl⟩;obtain⟨R,eR,eD,_,inM⟩:=zB1 (p:=p) (t:=t) g b (by rw[<- es];exact ht);rw[<- es]at eR eD inM;have gr:=li.gl.inn R (K0d eR);have gR:∀(γ:G) (h:AH),γ[5]?=some (.(g (s.1.map rmD)))->γ[6]?=some (.(i (t:Nat)))->e2 fIx (eVar 5) (eVar 6) γ h=.ok (rmD R) h:=λγ h e5 e6=>e2_h (Z6 e5) (Z6 e6) (by rw[ix_tup (v3 (by rw[K00,eR];rfl))];rfl);show W (Z3 _ _ [some (.fl (ns.map .int)),.(r 2),some (.bl bn),some (pgD p),some (layD p s),.(g (s.1.map rmD)),.(i (t:Nat)),x2,x3,x4]) h1 _;refine z05 (h1:=h1++[.lst []]) (.ref h1.length) [some (.fl (ns.map .int)),.(r 2),some (.bl bn),some (pgD p),some (layD p s),.(g (s.1.map rmD)),.(i (t:Nat)),.(r h1.length),x3,x4] (show newL [] h1=_ from zF8 (by simp)) rfl ?_;refine z2O (λγ h2=>∃(on:List Nat) (y z:Option D),γ=[some (.fl (ns.map .int)),.(r 2),some (.bl bn),some (pgD p),some (layD p s),.(g (s.1.map rmD)),.(i (t:Nat)),.(r h1.length),y,z]/\h2=h1++[.lst (stD on)]/\on.Nodup/\∀x,x∈on↔x∈(nxt p R p.cm.length).map s.1.idxOf) ?_ ?_
  ·refine z0h (λu γ h2=>∃(on:List Nat) (y z:Option D),γ=[some (.fl (ns.map .int)),.(r 2),some (.bl bn),some (pgD p),some (layD p s),.(g (s.1.map rmD)),.(i (t:Nat)),.(r h1.length),y,z]/\h2=h1++[.lst (stD on)]/\on.Nodup/\∀x,x∈on↔x∈(nxt p R u).map s.1.idxOf) (λ_ _=>False) ?_;refine W.of (a:=.int (p.cm.length:Nat)) (j9 (e2_h (Z6 rfl) (y:=.int 1) rfl pg1) (by rw[z0A,K6];rfl)) ⟨p.cm.length,rfl,by have:=g.c8;omega,⟨[],_,_,rfl,rfl,K7a,λx=>by simp[nxt]⟩,?_,λγ h q=>q,λ_ _ q=>q.elim⟩;rintro u γ h2 hu ⟨on,y,z,rfl,rfl,nd,mem⟩;show W (Z3 _ _ [some (.fl (ns.map .int)),.(r 2),some (.bl bn),some (pgD p),some (layD p s),.(g (s.1.map rmD)),.(i (t:Nat)),.(r h1.length),.(i (u:Nat)),z]) (h1++[.lst (stD on)]) _;refine z05 (optD (nxF p R u)) [some (.fl (ns.map .int)),.(r 2),some (.bl bn),some (pgD p),some (layD p s),.(g (s.1.map rmD)),.(i (t:Nat)),.(r h1.length),.(i (u:Nat)),some (optD (nxF p R u))] (fn_h (ds:=[pgD p,.int (u:Nat),rmD R]) (ac_h (Z6 rfl) (ac_h (Z6 rfl) (ac_h (gR _ _ rfl rfl) rfl))) rfl (zC7 g gr hu)) rfl ?_;cases en:nxF p R u with
   | none =>
    refine Y2 false (zS5 rfl) ?_;rw[if_neg (by decide)];exact Y0 (Y4 ⟨on,_,_,rfl,rfl,nd,by rw[z9M en];exact mem⟩)
   | some S =>
    have inS:S∈s.1:=inM S (z9B (u:=u+1) (n:=p.cm.length) (by omega) S (by rw[z4z en];simp));have ixe:∀(γ:G) (h:AH),γ[5]?=some (.(g (s.1.map rmD)))->γ[9]?=some (some (rmD S))->z26 (eVar 5) (eVar 9) γ h=.ok (.int (s.1.idxOf S:Nat)) h:=λγ h a b=>zP0 a b (by omega) inS;refine Y2 true (zP4 rfl) ?_;rw[if_pos rfl];refine z0s (Y2 false (cb_h (e2_h (Z6 rfl) (Z6 rfl) (by show fInX true (rmD S) _ _=_;rw[z81,decide_eq_true inS];rfl))) ?_);rw[if_neg (by decide)];refine Y0 (z0s ?_);by_cases q:s.1.idxOf S∈on
    ·refine Y2 false (cb_h (e2_h (ixe _ _ rfl rfl) (Z6 rfl) (by rw[z8e z1H,decide_eq_true q];rfl))) ?_;rw[if_neg (by decide)];refine Y0 (Y0 (Y4 ⟨on,_,_,rfl,rfl,nd,λx=>?_⟩));rw[z4z en,K0w,K0p,mem];constructor
     ·exact .inl
     ·rintro(z|z)
      ·exact z
      ·rw[List.map_singleton,K0m]at z;subst z;exact(mem _).mp q
    ·refine Y2 true (cb_h (e2_h (ixe _ _ rfl rfl) (Z6 rfl) (by rw[z8e z1H,decide_eq_false q];rfl))) ?_;rw[if_pos rfl];have lo:on.length<=40:=by
      have sub:∀x∈on,x∈K0o 40:=λx hx=>by
       obtain⟨S,hS,rfl⟩:=K0v.mp ((mem x).mp hx);rw[K20];have:=K38.mpr (inM S (z9B (n:=p.cm.length) (by omega) S hS));omega
      have:=K4c nd sub;rw[K1w]at this;exact this
     refine z0s (z1g rfl z1H (by rw[z2w];omega) (ixe _ _ rfl rfl) (Y0 (Y0 (Y0 (Y4 ⟨on++[s.1.idxOf S],_,_,rfl,?_,?_,λx=>?_⟩)))))
     ·rw[z65,z93]
     ·rw[K1x];exact⟨nd,by simp,λa ha c hc=>by rw[K0m.mp hc];exact λe=>q (e ▸ ha)⟩
     ·rw[z4z en,K0w,K0p,K0p,mem];rfl
  ·rintro γ h2 ⟨on,y,z,rfl,rfl,nd,mem⟩;have lo:on.length<=40:=by
    have sub:∀x∈on,x∈K0o 40:=λx hx=>by
     obtain⟨S,hS,rfl⟩:=K0v.mp ((mem x).mp hx);rw[K20];have:=K38.mpr (inM S hS);omega
    have:=K4c nd sub;rw[K1w]at this;exact this
   have so:z2e on=setN ((nxt p R p.cm.length).map s.1.idxOf):=zf5 (z46 nd) (z4V _) λx=>by rw[z5l,setN_mem,mem]
   have ld:∀(γ:G) (h:AH) (a:Int) (ds:List D) (d:D),γ[4]?=some (some (layD p s))->γ[6]?=some (.(i (t:Nat)))->(∀h,fIx (.tup [.tup (stsD s.2),.tup ((s.1.take s.2.length).map (mkR p))]) (.int a) h=.ok (.tup ds) h)->ds[t]?=some d->e2 fIx (e2 fIx (e2 fIx (eVar 4) (λ_=>pure (.int 0))) (λ_=>pure (.int a))) (eVar 6) γ h=.ok d h:=λγ h a ds d e4 e6 ea ed =>
    e2_h (e2_h (e2_h (Z6 e4) (y:=.int 0) rfl (ly0 s)) (y:=.int (a:Int)) rfl (ea h)) (Z6 e6) (by rw[ix_tup (v3 ed)];rfl)
   refine zG2 (b:=false) (h1:=h1++[.lst (stD on)]++[.lst (stD (z2e on))]) (zQ4 (h1:=h1++[.lst (stD on)]++[.lst (stD (z2e on))]) (cb_h (e2_h (ld _ _ 0 (stsD s.2) (.tup (stD (setN ((nxt p R p.cm.length).map s.1.idxOf)))) rfl rfl (λh=>by rw[ix0];rfl) (by unfold stsD;rw[K00,eD];rfl)) (j9 (j9 (Z6 rfl) (zm8 (by omega) z1H)) (z33 z1H)) (by rw[zz0,so,decide_eq_true rfl];rfl))) (cn_h (b:=true) (cv_h (fn_h (ds:=[mkR p R,mkR p R]) (ac_h (ld _ _ 1 ((s.1.take s.2.length).map (mkR p)) (mkR p R) rfl rfl (λh=>by rw[ix1];rfl) (by rw[<- ll,K1f,K00,eR];rfl)) (ac_h (fn_h (ds:=[pgD p,rmD R]) (ac_h (Z6 rfl) (ac_h (gR _ _ rfl rfl) rfl)) rfl (zz6 g gr)) rfl)) rfl (z7g (by have:=z6K (R:=R) g;omega) _))))) ?_;rw[if_neg (by decide)];exact Y0 (Y4 ⟨_,_,_,_,rfl⟩)
 obtain⟨d,h',e,rfl⟩:=key;exact⟨h',e⟩
theorem okL_law {P:K08}{w:World}{K:K2}{mg:Str->Option Value}{base:Heap}{f:Addr}{fd:K2k}(F:Fun K "law" "law" (top 45) f fd) (F01:mg "len" = none) (F03:mg "range" = none) (F06:mg "sorted" = none) (F00:mg "tuple" = none) (F02:Fn P w K mg base 1 "_law_draw" 2 Z7) (F0K:Fn P w K mg base 3 "_law_good_layout" 2 z0a) (F0L:Fn P w K mg base 3 "_law_next_room" 3 z0n) (F0M:Fn P w K mg base 1 "_law_pool" 1 z1z) (F0N:Fn P w K mg base 6 "_law_program" 4 x6) (F0O:Fn P w K mg base 6 "_law_same" 2 (Y9 5)) (F0P:Fn P w K mg base 4 "_law_worn" 2 z1E) (F0Q:FnP P w K mg base 8 "lay" 1 [] [] [c_MOST] z31) (F0R:FnP P w K mg base 8 "lay" 1 ["most"] [] [] z31):FnOk P w K mg base CX0 9 f fd ["_law_script"] (spB K m_law 1) :=
 zM6 F sc_law rfl λcdv A outer s H E hr=>(show SB (cxOf CX0 P w K mg base ["_law_script","_law_pool_here","_law_by_name","_law_program_here","_law_told","_law_rooms","_law_k","_law_onto","_law_j","_law_to"] "law" (j8 (top 45)) f cdv A outer s H E).nox EX0 (v7 (top 45)) zc1 from
  have nd:(["_law_script","_law_pool_here","_law_by_name","_law_program_here","_law_told","_law_rooms","_law_k","_law_onto","_law_j","_law_to"]:List Str).Nodup:=sc_law.nd
  (Z2 (y6 1 nd (Z9 F0M (hr.mono (by decide)) rfl (Z0 (z9 0) Z5))) (Z2 (y6 2 nd (se_c z2s (Z9 F02 (hr.mono (by decide)) rfl (Z0 (z9 1) (Z0 Z4 Z5))) Z4)) (Z2 (y6 3 nd (Z9 F0N (hr.mono (by decide)) rfl (Z0 (z9 1) (Z0 Z4 (Z0 Z4 (Z0 Z4 Z5)))))) (Z2 (s_if (J7 (z9 2)) (Z2 (y6 4 nd (z6c F0R (hr.mono (by decide)) rfl (Z0 (z9 3) Z5) (zq5 Z4 zg6))) Z8) (Z2 (y6 4 nd (z6c F0Q (hr.mono (by decide)) rfl (Z0 (z9 3) Z5) zg6)) Z8)) (Z2 (s_if (z0v (J7 (Z9 F0K (hr.mono (by decide)) rfl (Z0 (z9 3) (Z0 (z9 4) Z5))))) (Z2 (y8 z1s) Z8) Z8) (Z2 (y6 5 nd (j6 (z9 4) Z4)) (Z2 (z1y K12 rfl (z0m rfl F03 (z07 rfl F01 (Z0 (z9 5) Z5))) (w6 6 nd) (Z2 (y6 7 nd (z0b Z5)) (Z2 (z1y K12 rfl (z0m rfl F03 (z07 rfl F01 (Z0 (j6 (z9 3) Z4) Z5))) (w6 8 nd) (Z2 (y6 9 nd (Z9 F0L (hr.mono (by decide)) rfl (Z0 (z9 3) (Z0 (z9 8) (Z0 (j6 (z9 5) (z9 6)) Z5))))) (Z2 (s_if (sc_c z9X (z9 9) z6v) (Z2 (s_if (sc_c (z7S (hu30 hr)) (z9 9) (z9 5)) (Z2 (y8 z1s) Z8) Z8) (Z2 (s_if (sc_c z39 (z3Z (hu40 hr) (z9 5) (z9 9)) (z9 7)) (Z2 (z14 (v5 (z9 7) (z3Z (hu40 hr) (z9 5) (z9 9)))) Z8) Z8) Z8)) Z8) Z8))) (Z2 (s_if (SW.sc (z3l (sc_c (z3V (hu30 hr)) (j6 (j6 (j6 (z9 4) Z4) Z4) (z9 6)) (Y3 rfl F00 (Z0 (z3q rfl rfl F06 (Z0 (z9 7) Z5)) Z5))) (z2W (z0v (J7 (Z9 F0O (hr.mono (by decide)) rfl (Z0 (j6 (j6 (j6 (z9 4) Z4) Z4) (z9 6)) (Z0 (Z9 F0P (hr.mono (by decide)) rfl (Z0 (z9 3) (Z0 (j6 (z9 5) (z9 6)) Z5))) Z5)))))))) (Z2 (y8 z1s) Z8) Z8) Z8)))) (Z2 (y8 z1s) Z8)))))))))
def zr0:List Bool->List PySem.Stmt->List PySem.Stmt
 | true::r,x::xs=>x::zr0 r xs
 | false::r,_::xs=>zr0 r xs
 | _,_=>[]
def qv:PySem.Program:={ PySem.Challenge.pw_fairtrees_k07_whole_layout_is_the_comman with main:={ PySem.Challenge.pw_fairtrees_k07_whole_layout_is_the_comman.main with body:=zr0 [true,false,true,true,false,true,false,true,false,false,true,true,true,true,true,true,true,true,true,true,true,false,true,true,true,true,true,true,true,true,true,true,true,true,true,true,true,true,true,true,true,true,true,true,true,true] PySem.Challenge.pw_fairtrees_k07_whole_layout_is_the_comman.main.body } }
def looseQ:List PySem.Str:=[PySem.Str.ofString "lay"]
end FT
open PySem PySem.W PyProof.Rows
local macro_rules | `(tactic| o_head $H)=>`(tactic| (refine holds_open (q:=FT.qv) (loose:=FT.looseQ) (Xt:=fun s=>xlAt FT.qv [] s && recOk (RowW.records (OpenRow.toRowW (OpenLaw.row PySem.Challenge.rw_fairtrees_k07_whole_layout_is_the_comman))) s) (XP:=XL FT.qv []) (Yf:=Hook.obs $H) (Ya:=Hook.val $H) (YP:=Hook.says $H) (N:=30000) ?_ (Hook.of $H) (Hook.keeps $H) (fun s e=>xl_of s (Bool.and_eq_true_iff.mp e).1) XL.keeps (by rfl) (by rfl) (by rfl) (fun s e=>recFacts_of (Bool.and_eq_true_iff.mp e).2) (by rfl) (by first | assumption | decide +kernel) (by decide +kernel) ⟨rfl,rfl,rfl,rfl,rfl,by decide +kernel⟩ ?_ ?_))
set_option maxRecDepth 100000 in
set_option maxHeartbeats 0 in
theorem PySem.Challenge.cw_fairtrees_k07_whole_layout_is_the_comman_holds : PySem.Challenge.rw_fairtrees_k07_whole_layout_is_the_comman.Holds := by
 w_on;o_law;k_head
 next=>exact λw=>by kernel_rfl
 next=>w_witness2
 k_fill
 refine FT.law_walk (l:=K1) (lev:=9) (p:="_law_script") (m:=FT.m_law) rfl rfl ⟨rfl,by decide,by decide,rfl⟩ (λw h Y=>PySem.W.kIn_of Y) ?F FT.math
 case F =>
  intro w mg fa h KX G hmg;have F0U:FT.DefAt (L2.KOf KX) "is_tuple" (FT.top 5):=by
   dsimp only[L2.KOf];refine' FT.defAt_mk ?a ?l ?c ?k;(case a=>k_is);(case l=>k_is);(case c=>k_is);(case k=>k_is)
  have F0V:FT.DefAt (L2.KOf KX) "set_of" (FT.top 7):=by
   dsimp only[L2.KOf];refine' FT.defAt_mk ?a ?l ?c ?k;(case a=>k_is);(case l=>k_is);(case c=>k_is);(case k=>k_is)
  have F0W:FT.DefAt (L2.KOf KX) "number_of" (FT.top 10):=by
   dsimp only[L2.KOf];refine' FT.defAt_mk ?a ?l ?c ?k;(case a=>k_is);(case l=>k_is);(case c=>k_is);(case k=>k_is)
  have F0X:FT.DefAt (L2.KOf KX) "first_room" (FT.top 11):=by
   dsimp only[L2.KOf];refine' FT.defAt_mk ?a ?l ?c ?k;(case a=>k_is);(case l=>k_is);(case c=>k_is);(case k=>k_is)
  have F0Y:FT.DefAt (L2.KOf KX) "held_in" (FT.top 14):=by
   dsimp only[L2.KOf];refine' FT.defAt_mk ?a ?l ?c ?k;(case a=>k_is);(case l=>k_is);(case c=>k_is);(case k=>k_is)
  have F0Z:FT.DefAt (L2.KOf KX) "worth_of" (FT.top 15):=by
   dsimp only[L2.KOf];refine' FT.defAt_mk ?a ?l ?c ?k;(case a=>k_is);(case l=>k_is);(case c=>k_is);(case k=>k_is)
  have F10:FT.DefAt (L2.KOf KX) "does_hold" (FT.top 17):=by
   dsimp only[L2.KOf];refine' FT.defAt_mk ?a ?l ?c ?k;(case a=>k_is);(case l=>k_is);(case c=>k_is);(case k=>k_is)
  have F11:FT.DefAt (L2.KOf KX) "can_come" (FT.top 16):=by
   dsimp only[L2.KOf];refine' FT.defAt_mk ?a ?l ?c ?k;(case a=>k_is);(case l=>k_is);(case c=>k_is);(case k=>k_is)
  have F12:FT.DefAt (L2.KOf KX) "room_behind" (FT.top 13):=by
   dsimp only[L2.KOf];refine' FT.defAt_mk ?a ?l ?c ?k;(case a=>k_is);(case l=>k_is);(case c=>k_is);(case k=>k_is)
  have F13:FT.DefAt (L2.KOf KX) "rooms_next" (FT.top 12):=by
   dsimp only[L2.KOf];refine' FT.defAt_mk ?a ?l ?c ?k;(case a=>k_is);(case l=>k_is);(case c=>k_is);(case k=>k_is)
  have F14:FT.DefAt (L2.KOf KX) "is_so" (FT.top 20):=by
   dsimp only[L2.KOf];refine' FT.defAt_mk ?a ?l ?c ?k;(case a=>k_is);(case l=>k_is);(case c=>k_is);(case k=>k_is)
  have F15:FT.DefAt (L2.KOf KX) "is_met" (FT.top 19):=by
   dsimp only[L2.KOf];refine' FT.defAt_mk ?a ?l ?c ?k;(case a=>k_is);(case l=>k_is);(case c=>k_is);(case k=>k_is)
  have F16:FT.DefAt (L2.KOf KX) "names_at" (FT.top 18):=by
   dsimp only[L2.KOf];refine' FT.defAt_mk ?a ?l ?c ?k;(case a=>k_is);(case l=>k_is);(case c=>k_is);(case k=>k_is)
  obtain⟨dk_lay,F17,v_lay_most,u_lay_most,D_lay_most⟩:∃dk,FT.DefK (L2.KOf KX) "lay" (FT.top 9) dk/\∃v u,FT.KD (L2.KOf KX) dk "most" FT.c_MOST v u:=by
   dsimp only[L2.KOf]
   refine' ⟨_,FT.defK_mk ?qa ?ql ?qc ?qk,_,_,FT.kd_int ?qn0⟩;(case qa=>k_is);(case ql=>k_is);(case qc=>k_is);(case qk=>k_is);(case qn0=>k_is)
  have F18:FT.DefAt (L2.KOf KX) "_law_pool" (FT.top 22):=by
   dsimp only[L2.KOf];refine' FT.defAt_mk ?a ?l ?c ?k;(case a=>k_is);(case l=>k_is);(case c=>k_is);(case k=>k_is)
  have F19:FT.DefAt (L2.KOf KX) "_law_draw" (FT.top 23):=by
   dsimp only[L2.KOf];refine' FT.defAt_mk ?a ?l ?c ?k;(case a=>k_is);(case l=>k_is);(case c=>k_is);(case k=>k_is)
  have F1a:FT.DefAt (L2.KOf KX) "_law_name" (FT.top 24):=by
   dsimp only[L2.KOf];refine' FT.defAt_mk ?a ?l ?c ?k;(case a=>k_is);(case l=>k_is);(case c=>k_is);(case k=>k_is)
  have F1b:FT.DefAt (L2.KOf KX) "_law_names" (FT.top 25):=by
   dsimp only[L2.KOf];refine' FT.defAt_mk ?a ?l ?c ?k;(case a=>k_is);(case l=>k_is);(case c=>k_is);(case k=>k_is)
  have F1c:FT.DefAt (L2.KOf KX) "_law_number" (FT.top 26):=by
   dsimp only[L2.KOf];refine' FT.defAt_mk ?a ?l ?c ?k;(case a=>k_is);(case l=>k_is);(case c=>k_is);(case k=>k_is)
  have F1d:FT.DefAt (L2.KOf KX) "_law_tuple" (FT.top 27):=by
   dsimp only[L2.KOf];refine' FT.defAt_mk ?a ?l ?c ?k;(case a=>k_is);(case l=>k_is);(case c=>k_is);(case k=>k_is)
  have F1e:FT.DefAt (L2.KOf KX) "_law_good_set" (FT.top 28):=by
   dsimp only[L2.KOf];refine' FT.defAt_mk ?a ?l ?c ?k;(case a=>k_is);(case l=>k_is);(case c=>k_is);(case k=>k_is)
  have F1f:FT.DefAt (L2.KOf KX) "_law_same" (FT.top 29):=by
   dsimp only[L2.KOf];refine' FT.defAt_mk ?a ?l ?c ?k;(case a=>k_is);(case l=>k_is);(case c=>k_is);(case k=>k_is)
  have F1g:FT.DefAt (L2.KOf KX) "_law_worth" (FT.top 30):=by
   dsimp only[L2.KOf];refine' FT.defAt_mk ?a ?l ?c ?k;(case a=>k_is);(case l=>k_is);(case c=>k_is);(case k=>k_is)
  have F1h:FT.DefAt (L2.KOf KX) "_law_test" (FT.top 31):=by
   dsimp only[L2.KOf];refine' FT.defAt_mk ?a ?l ?c ?k;(case a=>k_is);(case l=>k_is);(case c=>k_is);(case k=>k_is)
  have F1i:FT.DefAt (L2.KOf KX) "_law_cells" (FT.top 32):=by
   dsimp only[L2.KOf];refine' FT.defAt_mk ?a ?l ?c ?k;(case a=>k_is);(case l=>k_is);(case c=>k_is);(case k=>k_is)
  have F1j:FT.DefAt (L2.KOf KX) "_law_command" (FT.top 33):=by
   dsimp only[L2.KOf];refine' FT.defAt_mk ?a ?l ?c ?k;(case a=>k_is);(case l=>k_is);(case c=>k_is);(case k=>k_is)
  have F1k:FT.DefAt (L2.KOf KX) "_law_ask" (FT.top 34):=by
   dsimp only[L2.KOf];refine' FT.defAt_mk ?a ?l ?c ?k;(case a=>k_is);(case l=>k_is);(case c=>k_is);(case k=>k_is)
  have F1l:FT.DefAt (L2.KOf KX) "_law_marks" (FT.top 35):=by
   dsimp only[L2.KOf];refine' FT.defAt_mk ?a ?l ?c ?k;(case a=>k_is);(case l=>k_is);(case c=>k_is);(case k=>k_is)
  have F1m:FT.DefAt (L2.KOf KX) "_law_program" (FT.top 36):=by
   dsimp only[L2.KOf];refine' FT.defAt_mk ?a ?l ?c ?k;(case a=>k_is);(case l=>k_is);(case c=>k_is);(case k=>k_is)
  have F1n:FT.DefAt (L2.KOf KX) "_law_comes_to" (FT.top 37):=by
   dsimp only[L2.KOf];refine' FT.defAt_mk ?a ?l ?c ?k;(case a=>k_is);(case l=>k_is);(case c=>k_is);(case k=>k_is)
  have F1o:FT.DefAt (L2.KOf KX) "_law_all_hold" (FT.top 38):=by
   dsimp only[L2.KOf];refine' FT.defAt_mk ?a ?l ?c ?k;(case a=>k_is);(case l=>k_is);(case c=>k_is);(case k=>k_is)
  have F1p:FT.DefAt (L2.KOf KX) "_law_names_of" (FT.top 39):=by
   dsimp only[L2.KOf];refine' FT.defAt_mk ?a ?l ?c ?k;(case a=>k_is);(case l=>k_is);(case c=>k_is);(case k=>k_is)
  have F1q:FT.DefAt (L2.KOf KX) "_law_next_room" (FT.top 40):=by
   dsimp only[L2.KOf];refine' FT.defAt_mk ?a ?l ?c ?k;(case a=>k_is);(case l=>k_is);(case c=>k_is);(case k=>k_is)
  have F1r:FT.DefAt (L2.KOf KX) "_law_first_room" (FT.top 41):=by
   dsimp only[L2.KOf];refine' FT.defAt_mk ?a ?l ?c ?k;(case a=>k_is);(case l=>k_is);(case c=>k_is);(case k=>k_is)
  have F1s:FT.DefAt (L2.KOf KX) "_law_row_holds" (FT.top 42):=by
   dsimp only[L2.KOf];refine' FT.defAt_mk ?a ?l ?c ?k;(case a=>k_is);(case l=>k_is);(case c=>k_is);(case k=>k_is)
  have F1t:FT.DefAt (L2.KOf KX) "_law_worn" (FT.top 43):=by
   dsimp only[L2.KOf];refine' FT.defAt_mk ?a ?l ?c ?k;(case a=>k_is);(case l=>k_is);(case c=>k_is);(case k=>k_is)
  have F1u:FT.DefAt (L2.KOf KX) "_law_good_layout" (FT.top 44):=by
   dsimp only[L2.KOf];refine' FT.defAt_mk ?a ?l ?c ?k;(case a=>k_is);(case l=>k_is);(case c=>k_is);(case k=>k_is)
  have F1v:FT.DefAt (L2.KOf KX) "law" (FT.top 45):=by
   dsimp only[L2.KOf];refine' FT.defAt_mk ?a ?l ?c ?k;(case a=>k_is);(case l=>k_is);(case c=>k_is);(case k=>k_is)
  have F04:mg "isinstance" = none:=K14 KX G (by k_is);have F00:mg "tuple" = none:=K14 KX G (by k_is);have F0n:mg "set" = none:=K14 KX G (by k_is);have F06:mg "sorted" = none:=K14 KX G (by k_is);have F01:mg "len" = none:=K14 KX G (by k_is);have F0o:mg "zip" = none:=K14 KX G (by k_is);have F0c:mg "all" = none:=K14 KX G (by k_is);have F0q:mg "dict" = none:=K14 KX G (by k_is);have F0r:mg "enumerate" = none:=K14 KX G (by k_is);have F0u:mg "any" = none:=K14 KX G (by k_is);have F03:mg "range" = none:=K14 KX G (by k_is);have F08:mg "bool" = none:=K14 KX G (by k_is);have F05:mg "int" = none:=K14 KX G (by k_is);have F0m:mg "str" = none:=K14 KX G (by k_is);have F0B:mg "min" = none:=K14 KX G (by k_is);have F0G:mg "list" = none:=K14 KX G (by k_is);obtain⟨f,fd,hf,F⟩:=F1v;have e:=hmg.symm.trans (K0b KX G hf);cases e;refine⟨fd,FT.bindsTo1 F (λ_ _ _ _ _ _ _=>rfl),λbase _ _=>?_⟩;have F0p:=FT.ok_is_tuple (P:=K1.prog) (w:=w) (base:=base) F0U (λv e=>K0b KX G e) F04 F00;have F0z:=FT.ok_set_of (P:=K1.prog) (w:=w) (base:=base) F0V (λv e=>K0b KX G e) F0n F06 F00;have F0l:=FT.ok_number_of (P:=K1.prog) (w:=w) (base:=base) F0W (λv e=>K0b KX G e) F01;have F0w:=FT.ok_first_room (P:=K1.prog) (w:=w) (base:=base) F0X (λv e=>K0b KX G e) F00;have F0f:=FT.ok_held_in (P:=K1.prog) (w:=w) (base:=base) F0Y (λv e=>K0b KX G e) F0o;have F0b:=FT.ok_worth_of (P:=K1.prog) (w:=w) (base:=base) F0Z (λv e=>K0b KX G e) F0p;have F0d:=FT.ok_does_hold (P:=K1.prog) (w:=w) (base:=base) F10 (λv e=>K0b KX G e) F0b;have F0e:=FT.ok_can_come (P:=K1.prog) (w:=w) (base:=base) F11 (λv e=>K0b KX G e) F0c F0d;have F0s:=FT.ok_room_behind (P:=K1.prog) (w:=w) (base:=base) F12 (λv e=>K0b KX G e) F0q F00 F0b;have F0y:=FT.ok_rooms_next (P:=K1.prog) (w:=w) (base:=base) F13 (λv e=>K0b KX G e) F0r F0e F0f F0s;have F0t:=FT.ok_is_so (P:=K1.prog) (w:=w) (base:=base) F14 (λv e=>K0b KX G e) F01 F0e F0d F0f;have F0v:=FT.ok_is_met (P:=K1.prog) (w:=w) (base:=base) F15 (λv e=>K0b KX G e) F0c F0t;have F0x:=FT.ok_names_at (P:=K1.prog) (w:=w) (base:=base) F16 (λv e=>K0b KX G e) F0u F06 F00 F0v;have F0S:=FT.ok_lay (P:=K1.prog) (w:=w) (base:=base) F17 (λv e=>K0b KX G e) F01 F00 F0w F0x F0l F0y F0z;have F0Q:=FT.pt_lay__k D_lay_most F0S;have F0R:=FT.pt_lay__kmost F0S;have F0M:=FT.ok__law_pool (P:=K1.prog) (w:=w) (base:=base) F18 (λv e=>K0b KX G e);have F02:=FT.ok__law_draw (P:=K1.prog) (w:=w) (base:=base) F19 (λv e=>K0b KX G e) F01;have F0A:=FT.ok__law_name (P:=K1.prog) (w:=w) (base:=base) F1a (λv e=>K0b KX G e) F03 F02;have F0k:=FT.ok__law_names (P:=K1.prog) (w:=w) (base:=base) F1b (λv e=>K0b KX G e) F03 F02 F0A;have F0g:=FT.ok__law_number (P:=K1.prog) (w:=w) (base:=base) F1c (λv e=>K0b KX G e) F08 F05 F04;have F07:=FT.ok__law_tuple (P:=K1.prog) (w:=w) (base:=base) F1d (λv e=>K0b KX G e) F04 F01 F00;have F0J:=FT.ok__law_good_set (P:=K1.prog) (w:=w) (base:=base) F1e (λv e=>K0b KX G e) F01 F03 F0g F07;have F0O:=FT.ok__law_same (P:=K1.prog) (w:=w) (base:=base) F1f (λv e=>K0b KX G e) F08 F05 F04 F01 F03 F0m F00 5;have F0h:=FT.ok__law_worth (P:=K1.prog) (w:=w) (base:=base) F1g (λv e=>K0b KX G e) F01 F02;have F0i:=FT.ok__law_test (P:=K1.prog) (w:=w) (base:=base) F1h (λv e=>K0b KX G e) F01 F02 F0h;have F0D:=FT.ok__law_cells (P:=K1.prog) (w:=w) (base:=base) F1i (λv e=>K0b KX G e) F0B F00 F02;have F0E:=FT.ok__law_command (P:=K1.prog) (w:=w) (base:=base) F1j (λv e=>K0b KX G e) F01 F03 F00 F02 F0i F0h;have F0C:=FT.ok__law_ask (P:=K1.prog) (w:=w) (base:=base) F1k (λv e=>K0b KX G e) F05 F01 F02 F0i;have F0F:=FT.ok__law_marks (P:=K1.prog) (w:=w) (base:=base) F1l (λv e=>K0b KX G e) F03 F00 F0C F02;have F0N:=FT.ok__law_program (P:=K1.prog) (w:=w) (base:=base) F1m (λv e=>K0b KX G e) F00 F0D F0E F02 F0F F0k;have F0j:=FT.ok__law_comes_to (P:=K1.prog) (w:=w) (base:=base) F1n (λv e=>K0b KX G e) F04 F00;have F09:=FT.ok__law_all_hold (P:=K1.prog) (w:=w) (base:=base) F1o (λv e=>K0b KX G e) F0j;have F0a:=FT.ok__law_names_of (P:=K1.prog) (w:=w) (base:=base) F1p (λv e=>K0b KX G e);have F0L:=FT.ok__law_next_room (P:=K1.prog) (w:=w) (base:=base) F1q (λv e=>K0b KX G e) F01 F0G F00 F09 F0j F0a;have F0I:=FT.ok__law_first_room (P:=K1.prog) (w:=w) (base:=base) F1r (λv e=>K0b KX G e) F00;have F0H:=FT.ok__law_row_holds (P:=K1.prog) (w:=w) (base:=base) F1s (λv e=>K0b KX G e) F01 F09 F0a;have F0P:=FT.ok__law_worn (P:=K1.prog) (w:=w) (base:=base) F1t (λv e=>K0b KX G e) F06 F00 F0H;have F0K:=FT.ok__law_good_layout (P:=K1.prog) (w:=w) (base:=base) F1u (λv e=>K0b KX G e) F05 F01 F03 F0I F0J F0g F07;exact FT.okL_law F F01 F03 F06 F00 F02 F0K F0L F0M F0N F0O F0P F0Q F0R