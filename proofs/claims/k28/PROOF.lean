import PyProof.Rows.All
import Wide.All
import OpenK.AllK
import Wide.FinOn
import PySem.Challenge.RW_fairtrees_k28_whole_until_both_ways
import Lean
import PyProof.EqAt
import PyProof.EqKinds
import PyProof.TupleCall
import PyProof.DictCompW
import PyProof.NeKinds
import PyProof.ListRange
import PyProof.TupleOfSeq
import PyProof.SeqI3
import PyProof.DictWalks
import PyProof.SetNew
import PyProof.ReprReads
import PyProof.StrHeap
import PyProof.ReprLen
import PyProof.WalkInts
import KE.KDictSum
import PyProof.Draws
import KE.KDictOf
import PyProof.AttrMissHeap
set_option Elab.async false
set_option linter.all false
set_option maxRecDepth 100000
set_option maxHeartbeats 4000000
namespace L2
end L2
open PySem.W renaming Frag->K0,emptyDict->K0z,keepIn->K10,mg_of->K11,kia_one->K12,findIn->K13,instObj->K16,mg_none_of->K1c,fnOf->K1w,codeIn->K29,nsIn->K2f,makesIn->K2n,kitOne->K4b,plainGet->K4o,hideAll_none->K4v,isFn->K51,lookIn->K5c,methodObj->K5x,kitx_list->K5y,kitx_dict->K5z,cellsFrom_some->K6n,hideAll->K6u,plainGet_of->K7q,Looks->K7v,of_hideAll->K82,kitx_tuple->K83,callWith_K->K84,specialIn->K8d,plainOver->K8e,hasDictIn->K8f,makes_of->K8q,OpenLaw->K90,WalkO->K95
open List renaming getElem?_cons_zero->K1,getElem?_eq_some_iff->K4,getElem?_eq_getElem->K6,getElem?_cons_succ->K7,length_append->K9,size_toArray->K00,length_cons->K01,replicate->K02,set_cons_zero->K03,set_cons_succ->K05,getElem?_append_left->K06,length_nil->K0c,length_singleton->K0d,append_assoc->K0e,mem_append->K0f,length_map->K0j,mem_append_right->K0m,getElem?_map->K0n,mem_of_getElem?->K0r,map_cons->K0s,getElem?_append_right->K0t,range->K0u,mem_cons_of_mem->K0x,mem_singleton->K14,getElem?_singleton->K19,mem_cons_self->K1d,all_eq_true->K1e,set_append_right->K1f,mem_cons->K1h,lookup_cons->K1i,getElem?_set_self->K1k,any_cons->K1q,mem_append_left->K1t,getElem?_set_ne->K1u,mem_map->K1v,mem_range->K1x,replicate_succ->K21,mem_filter->K23,length_replicate->K25,length_filter_le->K26,length_take->K28,find?_cons->K2b,append_nil->K2c,getElem_of_mem->K2e,map_map->K2g,length_range->K2p,flatten_cons->K2q,getElem?_append->K2s,mergeSort_perm->K2z,filterMap_cons->K30,getElem?_replicate->K33,map_nil->K35,not_lt->K3j,getElem?_of_mem->K3k,filter_cons->K3n,all_cons->K3r,getElem?_take->K3z,length_eq_zero_iff->K43,pairwise_mergeSort->K47,nodup_append->K4h,eraseIdxIfInBounds_toArray->K4m,foldl->K4n,take_length->K4q,getElem_mem->K4r,any_eq_true->K4s,nodup_cons->K4x,filter_map->K4y,take_zero->K5e,find?_eq_none->K5k,nodup_iff_pairwise_ne->K5o,pairwise_iff_getElem->K5q,mem_of_find?_eq_some->K5s,drop_eq_getElem_cons->K5t,length->K5v,pairwise_map->K60,filter_eq_nil_iff->K6p,drop_eq_nil_of_le->K6q,of_mem_zip->K6v,nil_append->K6w,map_append->K6x,length_set->K6y,forIn_cons->K6z,getElem?_eq_none->K75,dropLast_eq_take->K76,forIn_nil->K7b,pairwise_append->K7g,getD->K7j,map_congr_left->K7r,getElem?_range->K7s,filterMap_map->K87,take_sublist->K8j,take_add_one->K8k,nodup_range->K8u,length_drop->K8v,le_antisymm->K8w,getElem_inj->K8x,find?_some->K91
open PySem renaming wpAny_bind->K2,wpAny_pure->K04,starEach->K07,Program->K0a,wpAny_loadPart'->K0v,mainGlobals->K1a,compareOp->K1g,FuncData->K1l,mem_of_lookup->K1m,wpAny_newObj_type->K1n,foldedSetIterable->K1o,swapsWith->K1p,binaryOp->K27,wpAny_callSpecial?_slot->K2a,wpAny_ite_false->K2d,wpAny_holding->K2j,sysModules->K2k,wpAny_passesOwn->K2o,wpAny_field->K2t,wpAny_truthy_bool->K2u,wpAny_mono->K2x,assignEach->K2y,holding->K31,wpAny_call_entry->K32,sliceBounds->K34,behindInMarks->K3c,attributeBase->K3d,Keyword->K3f,call_meets->K3h,keywordEach->K3i,bootBuiltins->K3o,wpAny_standAt->K3u,wpAny_pyIter_tuple->K40,wpAny_Call_Name_kw->K41,NameKind->K4c,standAt->K4k,not_mem_of_deeper->K4l,codeAny->K4t,GenState->K4w,letOwnedTupleGo->K4z,wpAny_typeOf->K58,backToKw->K5j,wpAny_seqItems->K5l,tupleKind_room_in1->K5m,wpAny_binaryOp_repeat_ref->K5u,wpAny_sequenceKey->K61,wpAny_pyIter_list->K62,wpAny_comprehension_free->K67,seqIndex?->K6a,noFill_tuple_add->K6f,getItem->K6g,callerA->K6h,wpAny_rule->K6j,typeIs_int->K6k,ReadAtMost->K6l,codeAny_mono->K6m,wpAny_execs_nil->K70,sizeLine_eq->K7c,wpAny_listPart->K7e,call_repr_slot->K7f,setItem->K7m,BindsTo->K7n,tupleKind->K7o,seq_tuple_add->K7w,slot_list_getitem->K8a,valueAt->K8g,notedBy->K8h,bindArgs->K8i,seqIndex_neg->K8l,concat_meets->K8m,seqSlot_of->K8r,getMethod->K8s,PassesOwn->K8t,seqIndex_of->K8z,call->K93,Spec->K9b
open PySem.Challenge renaming rw_fairtrees_k28_whole_until_both_ways->K5
open PySem.Heap renaming get?_push_of_some->K8,lt_size->K09,get?_push_size->K0l,size_push->K4e,SameBut->K52,get?_update_other->K6r,get?_update_self->K77
open Nat renaming le_refl->K08,le_trans->K0h,lt_of_lt_of_le->K0i,reduceAdd->K0k,ne_of_lt->K0q,lt_irrefl->K2i,le_of_lt->K36,zero_le->K3g,ne_of_gt->K3l,le_of_eq->K3m,sub_self->K4d,zero_add->K53,mul_comm->K54,le_succ->K5w,lt_succ_self->K6b,add_le_add_left->K7t,lt_of_le_of_lt->K89,lt_succ_of_lt->K8n,le_max_right->K8y,le_max_left->K92
open Bool renaming and_eq_true->K0b,false_ne_true->K0g,eq_iff_iff->K18,false_eq_true->K1s,or_eq_true->K24,not_eq_true'->K2r,bne_true->K3s,bne_false->K4f,not_true->K63,false_and->K94
open PySem.Builtin renaming bitAnd->K0o
open Option.some renaming inj->K0p
open PySem.PyData renaming shown->K0w,shownAll->K17,depth->K1r,showable->K39,depthAll->K3a,showableAll->K5f,depthAll_vals_le->K6d,depthAll_keys_le->K6e,shownKv->K79,depthKv->K7a,tuple->K9a
open PySem.PassesOwn renaming never->K0y
open PyProof.Rows renaming slot_tuple_getitem->K15,callWith_type1->K3e,AllBare->K57,IntsAre->K6i,subscriptTail_builtinR->K6s,entry_tuple_getitem->K7u
open Option renaming map_eq_some_iff->K1b,isSome_map->K4g,join_some->K4p,getD_none->K69,toList_some->K85
open PySem.Value renaming ref->K1j,none->K3y,int->K7h,type->K7x,bool->K7y,str->K8o,isStrOf->K96
open False renaming elim->K1y
open PySem.F renaming slot_tuple_iterator_next->K1z,slot_tuple_mul->K2h,args_tuple_mul_2->K3v,args_tuple_add_2->K3w,args_tuple_iterator_next_1->K42,plainAttrs_list->K44,entry_tuple_mul->K45,entry_tuple_add->K46,entry_tuple_iterator_next->K48,slot_tuple_add->K4j,slot_tuple_rmul->K68,plain_list_iadd->K6c,type_list_pop->K71,slot_list_pop->K72,slot_int_rmul->K73
open Array renaming length_toList->K20,getElem?_eq_some_iff->K59,getElem?_toList->K74,append_assoc->K86,toList->K8c
open PySem.Str renaming ofString->K22,length->K81
open PySem.Builtin.SmallTypes renaming nextOf->K2l
open PySem.Builtin.Slice renaming slicePlaces->K2m,sliceAdjust->K3p,sliceApplied->K5i
open PySem.Builtin.Tuple renaming tupleExact->K2v,tupleItemsOf->K5g,tupleIsExact->K5h
open True renaming intro->K2w
open Int renaming emod_lt_of_pos->K37,emod_nonneg->K3x,toNat_natCast->K4i,toNat_of_nonneg->K50,fdiv_eq_ediv_of_nonneg->K5p,toNat->K98
open ForInStep renaming yield->K38
open PySem.NameKind renaming free->K3b
open PySem.Paired renaming length->K3q
open PySem.Builtin.List renaming listTooLong->K3t,listSubscript?->K56,listAllItems->K5r,listSameRef->K65
open List.Pairwise renaming nil->K49,imp_of_mem->K64,filter->K78,and->K8b
open PySem.AutoSeq1 renaming idx_int->K4a
open Sum renaming inl->K4u,inr->K7k
open Ne renaming symm->K55
open PySem.W.KFB renaming if_not->K5a
open PySem.SeqAt renaming EqAt->K5b
open PySem.Obj renaming mapSeq->K5d,data_mapFields->K88
open PySem.Calls renaming Name_function_global->K5n,callWith_builtin->K6o
open List.Perm renaming eq_of_pairwise->K66
open PySem.ReadAtMost renaming cons->K6t
open PySem.Around renaming under_plainId->K7d
open Pure renaming pure->K7i
open And renaming intro->K7l
open PySem.Heap.SameBut renaming update->K7p
open PySem.SeqAt.EqAt renaming str_int->K7z,int_str->K80
open PySem.IsL renaming isList->K8p
open PySem.Clear renaming nil->K97
open Classical renaming em->K99
open PySem PySem.Spec PyProof.Rows L2
set_option hygiene false
local macro_rules
|`(.(r $t))=>`(some (.ref $t))
|`(.(i $t))=>`(some (.int $t))
|`(.(g $t))=>`(some (.tup $t))
|`(.(l $t))=>`(some (.lst $t))
|`(.(s $t))=>`(some (.str $t))
|`(.(p $t))=>`((fun _=>pure (.int $t)))
set_option hygiene true
namespace FT
def z92:List Bool->List PySem.Stmt->List PySem.Stmt
 | true::r,x::xs=>x::z92 r xs
 | false::r,_::xs=>z92 r xs
 | _,_=>[]
def qv:PySem.Program:={ PySem.Challenge.pw_fairtrees_k28_whole_until_both_ways with main:={ PySem.Challenge.pw_fairtrees_k28_whole_until_both_ways.main with body:=z92 [true,false,true,true,false,true,true,true,false,true,true,true,true,true,false,true,true,true,true,false,true,true,true,true,true,false,false,false,false,true,true,true,false,true,true,true,true,true,true,true,true,true,true,true,true,true] PySem.Challenge.pw_fairtrees_k28_whole_until_both_ways.main.body } }
def looseQ:List PySem.Str:=[K22 "Way",K22 "Rounds",K22 "Worklist"]
end FT
section
open PySem PySem.W PyProof.Rows
local macro_rules | `(tactic| o_head $H)=>`(tactic| (refine holds_open (q:=FT.qv) (loose:=FT.looseQ) (Xt:=fun s=>xlAt FT.qv [] s && recOk (RowW.records (OpenRow.toRowW (OpenLaw.row PySem.Challenge.rw_fairtrees_k28_whole_until_both_ways))) s) (XP:=XL FT.qv []) (Yf:=Hook.obs $H) (Ya:=Hook.val $H) (YP:=Hook.says $H) (N:=30000) ?_ (Hook.of $H) (Hook.keeps $H) (fun s e=>xl_of s (Bool.and_eq_true_iff.mp e).1) XL.keeps (by rfl) (by rfl) (by rfl) (fun s e=>recFacts_of (Bool.and_eq_true_iff.mp e).2) (by rfl) (by first | assumption | decide +kernel) (by decide +kernel) ⟨rfl,rfl,rfl,rfl,rfl,by decide +kernel⟩ ?_ ?_))
set_option maxRecDepth 100000 in
set_option maxHeartbeats 0 in
noncomputable def FT.pack:PSigma fun P:Prop=>P->PySem.Challenge.rw_fairtrees_k28_whole_until_both_ways.Holds:=by
 refine⟨?P,λh=>?_⟩
 rotate_left
 ·w_on;o_law;k_head
  next=>exact λw=>by kernel_rfl
  next=>w_witness2
  exact h
end
namespace L2
abbrev Key:=Sum Int Str
def z1n:Key->Value->Bool
 | .inl k,v=>Value.isInt k v
 | .inr x,v=>K96 x v
def keyH (w:World):Key->Int
 | .inl k=>hashInt k
 | .inr x=>hashStr w x
theorem Z6:∀{k:Key}{v:Value},z1n k v=true->(∃i t,k=K4u i/\v=K7h i t)\/(∃x t,k=K7k x/\v=K8o x t)
 | .inl i,v,h=>by
  obtain⟨t,e⟩:=Value.isInt_shape (k:=i) (v:=v) h;exact .inl ⟨i,t,rfl,e⟩
 | .inr x,v,h=>by
  obtain⟨t,e⟩:=Value.isStrOf_shape (x:=x) (v:=v) h;exact .inr ⟨x,t,rfl,e⟩
theorem z5G (i:Int) (t:Tok):z1n (.inl i) (.int i t)=true:=by simp[z1n,Value.isInt]
theorem z4x (x:Str) (t:Tok):z1n (.inr x) (.str x t)=true:=by simp[z1n,K96]
theorem ze1 (a b:Int):decide ((K4u a:Key)=K4u b)=(a==b):=by
 by_cases e:a=b
 ·subst e;simp
 ·have h:¬ (K4u a:Key)=K4u b:=λq=>e (K4u.inj q);rw[decide_eq_false h];exact(beq_eq_false_iff_ne.mpr e).symm
theorem zb5 (a b:Str):decide ((K7k a:Key)=K7k b)=decide (a=b):=by
 by_cases e:a=b
 ·subst e;simp
 ·have h:¬ (K7k a:Key)=K7k b:=λq=>e (K7k.inj q);rw[decide_eq_false h,decide_eq_false e]
theorem z9l (a:Int) (b:Str):decide ((K4u a:Key)=K7k b)=false:=decide_eq_false (λq=>nomatch q)
theorem za7 (a:Str) (b:Int):decide ((K7k a:Key)=K4u b)=false:=decide_eq_false (λq=>nomatch q)
def J1 (prog:K0a) (w:World):PySem.KeyKind prog w Key where
 is:=z1n
 hash:=keyH w
 inj:=λv a b ha hb=>by
  rcases Z6 ha with ⟨i,t,rfl,rfl⟩|⟨x,t,rfl,rfl⟩
  ·rcases Z6 hb with ⟨j,u,rfl,e⟩|⟨y,u,rfl,e⟩
   ·injection e with e1 _;rw[e1]
   ·exact nomatch e
  ·rcases Z6 hb with ⟨j,u,rfl,e⟩|⟨y,u,rfl,e⟩
   ·exact nomatch e
   ·injection e with e1 _;rw[e1]
 byValue:=λk v h=>by
  rcases Z6 h with ⟨i,t,rfl,rfl⟩|⟨x,t,rfl,rfl⟩<;>rfl
 pyHash:=λhv h=>by
  rcases Z6 hv with ⟨i,t,rfl,rfl⟩|⟨x,t,rfl,rfl⟩
  ·exact wpAny_pyHash_int h
  ·exact wpAny_pyHash_str h
 eqBool:=λhu hv h=>by
  rcases Z6 hu with ⟨i,t,rfl,rfl⟩|⟨x,t,rfl,rfl⟩
  ·rcases Z6 hv with ⟨j,u,rfl,rfl⟩|⟨y,u,rfl,rfl⟩
   ·rw[ze1]at h;exact wpAny_eqBool_int h
   ·rw[z9l]at h;exact K80 i t y u _ _ _ _ h
  ·rcases Z6 hv with ⟨j,u,rfl,rfl⟩|⟨y,u,rfl,rfl⟩
   ·rw[za7]at h;exact K7z x t j u _ _ _ _ h
   ·rw[zb5]at h;exact wpAny_eqBool_str h
 «strs»:=λk x t v h=>by
  rcases Z6 h with ⟨i,u,rfl,e⟩|⟨y,u,rfl,e⟩
  ·exact nomatch e
  ·injection e with e1 _
   subst e1;cases v<;>rfl
theorem z3l (prog:K0a) (w:World) (i:Int) (t:Tok):(J1 prog w).is (.inl i) (.int i t)=true:=z5G i t
theorem z3C (prog:K0a) (w:World) (x:Str) (t:Tok):(J1 prog w).is (.inr x) (.str x t)=true:=z4x x t
end L2
namespace FT
abbrev Rise (xs:Array Nat):Prop:=xs.toList.Pairwise (·<·)
instance keyMem (k:Key) (ks:List Key):Decidable (k∈ks):=@List.instDecidableMemOfLawfulBEq Key instBEqOfDecidableEq inferInstance k ks
section
variable (w:World)
def KE (k:Key) (e:Int×Value):Prop:=z1n k e.2=true/\e.1=keyH w k
def SetAt (h:Heap) (a:Addr) (ks:List Key):Prop :=
 ∃o es ep t ks',h.get? a=some o/\o.ExactSet/\o.data=.set es ep t/\Paired (KE w) ks' es.toList/\ks'.Perm ks/\ks.Nodup/\es.size<scanBound/\t.fits es.size=true/\Rise t.place /\
  (t.led=true\/w.params.followText "set-order" = true)
end
def IsTup0 (h:Heap) (a:Addr) (items:Array Value):Prop:=∃o,h.get? a=some o/\(o.cls=.type "tuple"/\o.dict=none)/\∃n,o.data=.seq items n
theorem IsTup0.new (h:Heap) (items:Array Value):IsTup0 (h.push { cls:=.type "tuple",data:=.seq items }) h.objs.size items:=⟨_,K0l _ rfl,⟨rfl,rfl⟩,_,rfl⟩
theorem IsTup0.tup {h:Heap}{a:Addr}{items:Array Value}(x:IsTup0 h a items):IsTup h a items:=let ⟨o,e,c,d⟩:=x;⟨o,e,c.1,d⟩
theorem IsTup0.lt {h:Heap}{a:Addr}{items:Array Value}(x:IsTup0 h a items):a<h.objs.size:=let ⟨_,e,_⟩:=x;K09 e
end FT
namespace L2
inductive V where
 | non|bl (b:Bool)|int (i:Int)|str (x:Str)|byt (b:Array UInt8)|flt (b:UInt64)|ref (a:Addr)|ty (n:String)
 deriving DecidableEq
def RelV:V->Value->Prop
 | .non,u=>u=K3y
 | .bl b,u=>u=K7y b
 | .int i,u=>∃t,u=K7h i t
 | .str x,u=>∃t,u=K8o x t
 | .byt b,u=>∃t,u=Value.bytes b t
 | .flt b,u=>∃t,u=Value.float b t
 | .ref a,u=>u=K1j a
 | .ty n,u=>u=K7x n
abbrev Vals:List V->List Value->Prop:=Paired RelV
theorem Vals.length {xs:List V}{us:List Value}(r:Vals xs us):xs.length=us.length:=K3q r
theorem Vals.get:∀{xs:List V}{us:List Value}{i:Nat}{x:V},Vals xs us->xs[i]?=some x->∃u,us[i]?=some u/\RelV x u
 | _,_,_,_,.nil,e=>by simp at e
 | _,_,0,_,.cons r _,e=>by simp at e;subst e;exact⟨_,rfl,r⟩
 | _,_,i+1,x,.cons _ t,e=>by
  obtain⟨u,h1,h2⟩:=Vals.get (i:=i) (x:=x) t (by simpa using e);exact⟨u,by simpa using h1,h2⟩
theorem Vals.set {x:V}{u:Value}(r:RelV x u):∀{xs:List V}{us:List Value}(i:Nat),Vals xs us->Vals (xs.set i x) (us.set i u)
 | _,_,_,.nil=>.nil
 | _,_,0,.cons _ t=>.cons r t
 | _,_,i+1,.cons q t=>.cons q (Vals.set r i t)
theorem Vals.append:∀{xs ys:List V}{us ws:List Value},Vals xs us->Vals ys ws->Vals (xs++ys) (us++ws)
 | _,_,_,_,.nil,s=>s
 | _,_,_,_,.cons r t,s=>.cons r (Vals.append t s)
theorem Vals.take:∀{xs:List V}{us:List Value}(n:Nat),Vals xs us->Vals (xs.take n) (us.take n)
 | _,_,0,_=>.nil
 | _,_,_+1,.nil=>.nil
 | _,_,n+1,.cons r t=>.cons r (Vals.take n t)
theorem Vals.drop:∀{xs:List V}{us:List Value}(n:Nat),Vals xs us->Vals (xs.drop n) (us.drop n)
 | _,_,0,r=>r
 | _,_,_+1,.nil=>.nil
 | _,_,n+1,.cons _ t=>Vals.drop n t
theorem Vals.none_of:∀{xs:List V}{us:List Value}{i:Nat},Vals xs us->xs[i]?=none->us[i]?=none:=λ{xs us i} r e=>by
 have h1:=r.length;have h2:xs.length<=i:=List.getElem?_eq_none_iff.mp e;exact List.getElem?_eq_none_iff.mpr (by omega)
def RelO:Option V->Option Value->Prop
 | some v,some u=>RelV v u
 | none,none=>True
 | _,_=>False
def KV {κ:Type}:List (κ×V)->List (κ×Value)->Prop:=Paired λ(p:κ×V) (q:κ×Value)=>p.1=q.1/\RelV p.2 q.2
def kV:Key->V
 | .inl i=>.int i
 | .inr x=>.str x
inductive HO where
 | lst (xs:List V)
 | tup (xs:List V)
 | dK (kvs:List (Key×V))|dT (kvs:List (List Key×V))
 | set (ks:List Key)
 | ins (C dx:Addr) (fs:List (Str×V))
 | own (x:Addr)
 | xd (fs:List (Str×V))
 | met (f x:Addr)
 | rng (lo hi:Int)
 | frz (o:Obj) (u:HO)
 | tbl (ps:Array Value)
 | ext (φ:Heap->Prop)
abbrev Hp:=Addr->Option HO
def upd (H:Hp) (a:Addr) (o:HO):Hp:=λb=>if b=a then some o else H b
theorem J6 {H:Hp}{a:Addr}{o:HO}:upd H a o a=some o:=by unfold upd;rw[if_pos rfl]
theorem Z7 {H:Hp}{a b:Addr}{o:HO}(h:b≠a):upd H a o b=H b:=by unfold upd;rw[if_neg h]
theorem zi7 {H:Hp}{a b:Addr}{o u:HO}(h:H a=some o) (h':H b=some u) (d:o≠u):a≠b:=by
 intro e;subst e;rw[h]at h';exact d (K0p h')
theorem j6 {H:Hp}{a b:Addr}{o:HO}(h:H a=some o) (h':H b=none):a≠b:=by
 intro e;subst e;rw[h]at h';cases h'
section
variable (P:K0a) (w:World)
def ObjOk (H:Hp) (h:Heap) (a:Addr):HO->Prop
 | .lst xs=>xs.length<=sizeLine/\∃(its:List Value) (n:Nat),Vals xs its/\h.get? a=some { cls:=.type "list",data:=.seq its.toArray n }
 | .tup xs=>xs.length<=sizeLine/\∃its:List Value,Vals xs its/\FT.IsTup0 h a its.toArray
 | .dK kvs=>kvs.length<=sizeLine/\(a==K2k)=false/\∃vs,KV kvs vs/\h.DictOf (J1 P w) a vs
 | .dT kvs=>kvs.length<=sizeLine/\(a==K2k)=false/\∃xs:List (List Key×Addr×Value),
  Paired (λ(p:List Key×V) (q:List Key×Addr×Value)=>p.1=q.1/\H q.2.1=.(g (p.1.map kV))/\RelV p.2 q.2.2) kvs xs /\
  ∃o es ep,h.get? a=some o/\o.ExactDict/\o.data=.dict es ep/\es.toList=xs.map (entryOfKey (K7o (J1 P w)))/\(xs.map (·.1)).Nodup
 | .set ks=>FT.SetAt w h a ks
 | .ins C dx fs=>H dx=some (.own a)/\fs.length<=1000/\dx≠a/\h.get? a=some (K16 C dx) /\
  ∃mA,h.Ns1 dx mA/\(∀f,RelO (fs.lookup f) (mA f))/\PySem.Within mA (fs.map (·.1))
 | .own _=>∃o,h.get? a=some o
 | .xd fs=>∃mA,h.Ns1 a mA/\∀f,RelO (fs.lookup f) (mA f)
 | .rng lo hi=>∃t u v,h.get? a=some { cls:=.type "range",data:=.fields #[.int lo t,.int hi u,.int 1 v] }
 | .frz o u=>h.get? a=some o/\ObjOk H h a u
 | .tbl ps=>h.get? a=some { cls:=.none,data:=.fields ps }
 | .met f x=>h.get? a=some (K5x (.ref f) (.ref x))
 | .ext φ=>φ h/\(∃o,h.get? a=some o)/\∀h1 h2:Heap,φ h1->(∀o,h1.get? a=some o->h2.get? a=some o)->φ h2
def HOk (H:Hp) (h:Heap):Prop:=∀a o,H a=some o->ObjOk P w H h a o
end
section
variable {P:K0a}{w:World}{H H':Hp}{h h':Heap}{a:Addr}{o:HO}
theorem ObjOk.lt (x:ObjOk P w H h a o):a<h.objs.size:=by
 cases o with
 | lst xs=>obtain⟨_,_,_,_,e⟩:=x;exact K09 e
 | tup xs=>obtain⟨_,_,_,p⟩:=x;exact p.lt
 | dK kvs=>obtain⟨_,_,_,_,o,_,_,e,_⟩:=x;exact K09 e
 | dT kvs=>obtain⟨_,_,_,_,o,_,_,e,_⟩:=x;exact K09 e
 | set ks=>obtain⟨o,_,_,_,_,e,_⟩:=x;exact K09 e
 | ins C dx fs=>obtain⟨_,_,_,e,_⟩:=x;exact K09 e
 | own y=>obtain⟨_,e⟩:=x;exact K09 e
 | xd fs=>obtain⟨_,⟨_,_,_,e,_⟩,_⟩:=x;exact K09 e
 | rng lo hi=>obtain⟨_,_,_,e⟩:=x;exact K09 e
 | frz ob u=>obtain⟨e,_⟩:=x;exact K09 e
 | tbl ps=>exact K09 (show h.get? a=some _ from x)
 | met f y=>exact K09 (show h.get? a=some _ from x)
 | ext φ=>obtain⟨_,⟨_,e⟩,_⟩:=x;exact K09 e
theorem Paired.mapP {α β:Type}{F G:α->β->Prop}:∀{l₁:List α}{l₂:List β},Paired F l₁ l₂->(∀a b,F a b->G a b)->Paired G l₁ l₂
 | _,_,.nil,_=>.nil
 | _,_,.cons r t,f=>.cons (f _ _ r) (Paired.mapP t f)
theorem ObjOk.stay (x:ObjOk P w H h a o) (k:∀b u,(b=a\/H b=some (.own a))->h.get? b=some u->h'.get? b=some u)
 (ho:∀b,H b=some (.own a)->H' b=some (.own a)) (ht:∀b xs,H b=.(g xs)->H' b=.(g xs)):ObjOk P w H' h' a o:=by
 induction o with
 | lst xs=>obtain⟨z,its,n,r,e⟩:=x;exact⟨z,its,n,r,k _ _ (.inl rfl) e⟩
 | tup xs=>obtain⟨z,its,r,ob,e,c⟩:=x;exact⟨z,its,r,ob,k _ _ (.inl rfl) e,c⟩
 | dK kvs=>obtain⟨z,y,vs,r,ob,es,ep,e,c⟩:=x;exact⟨z,y,vs,r,ob,es,ep,k _ _ (.inl rfl) e,c⟩
 | dT kvs =>
  obtain⟨z,y,xs,r,ob,es,ep,e,c⟩:=x;exact⟨z,y,xs,Paired.mapP r λp q z=>⟨z.1,ht _ _ z.2.1,z.2.2⟩,ob,es,ep,k _ _ (.inl rfl) e,c⟩
 | set ks=>obtain⟨ob,es,ep,t,k',e,c⟩:=x;exact⟨ob,es,ep,t,k',k _ _ (.inl rfl) e,c⟩
 | ins C dx fs =>
  obtain⟨d,z,ne,e,mA,⟨od,es,ep,e2,c⟩,r⟩:=x;exact⟨ho _ d,z,ne,k _ _ (.inl rfl) e,mA,⟨od,es,ep,k _ _ (.inr d) e2,c⟩,r⟩
 | own y=>obtain⟨ob,e⟩:=x;exact⟨ob,k _ _ (.inl rfl) e⟩
 | xd fs=>obtain⟨mA,⟨od,es,ep,e,c⟩,r⟩:=x;exact⟨mA,⟨od,es,ep,k _ _ (.inl rfl) e,c⟩,r⟩
 | rng lo hi=>obtain⟨t,u,v,e⟩:=x;exact⟨t,u,v,k _ _ (.inl rfl) e⟩
 | frz ob u ih=>obtain⟨e,q⟩:=x;exact⟨k _ _ (.inl rfl) e,ih q⟩
 | tbl ps =>
  have e:h.get? a=some { cls:=.none,data:=.fields ps }:=x;show h'.get? a=some { cls:=.none,data:=.fields ps };exact k a _ (.inl rfl) e
 | met f y =>
  have e:h.get? a=some (K5x (.ref f) (.ref y)):=x;show h'.get? a=some (K5x (.ref f) (.ref y));exact k a _ (.inl rfl) e
 | ext φ=>obtain⟨p,⟨o,e⟩,st⟩:=x;exact⟨st _ _ p λo q=>k _ _ (.inl rfl) q,⟨o,k _ _ (.inl rfl) e⟩,st⟩
theorem HOk.lt (x:HOk P w H h) (e:H a=some o):a<h.objs.size:=(x a o e).lt
theorem HOk.fresh (x:HOk P w H h) (e:h.objs.size<=a):H a=none:=by
 cases q:H a with
 | none=>rfl
 | some u=>exact absurd (K0i (x.lt q) e) (K2i _)
theorem HOk.kept (x:HOk P w H h) (k:∀b u,h.get? b=some u->h'.get? b=some u):HOk P w H h':=λa o e =>
 (x a o e).stay (λb u _ q=>k b u q) (λ_ q=>q) λ_ _ q=>q
theorem HOk.laid (x:HOk P w H h) (k:∀b u,h.get? b=some u->h'.get? b=some u) (hp:h.objs.size<=a) (new:ObjOk P w (upd H a o) h' a o):HOk P w (upd H a o) h':=λb u e=>by
 have hn:=x.fresh hp;by_cases hb:b=a
 ·subst hb;rw[J6]at e;cases e;exact new
 ·rw[Z7 hb]at e;exact(x b u e).stay (λc v _ q=>k c v q) (λc q=>by rw[Z7 (j6 q hn)];exact q) λc xs q=>by rw[Z7 (j6 q hn)];exact q
end
def Rd (H:Hp) (a:Addr) (u:HO):Prop:=H a=some u\/∃o,H a=some (.frz o u)
theorem Rd.of {H:Hp}{a:Addr}{u:HO}(h:H a=some u):Rd H a u:=.inl h
theorem Rd.ok {P:K0a}{w:World}{H:Hp}{h:Heap}{a:Addr}{u:HO}(r:Rd H a u) (x:HOk P w H h):ObjOk P w H h a u:=by
 rcases r with r|⟨o,r⟩
 ·exact x a u r
 ·obtain⟨_,q⟩:=x a _ r;exact q
def Mut:Option HO->Prop
 | .(l _)=>True
 | some (.dK _)=>True
 | some (.dT _)=>True
 | some (.set _)=>True
 | some (.ins _ _ _)=>True
 | some (.ext _)=>True
 | _=>False
section
variable {P:K0a}{w:World}{H:Hp}{h h':Heap}{x e:Addr}{o':HO}
theorem HOk.write (ok:HOk P w H h) (mu:Mut (H x)) (he:e=x\/H e=some (.own x)) (k:∀b u,b≠e->h.get? b=some u->h'.get? b=some u) (heo:∃u,h'.get? e=some u)
 (new:ObjOk P w (upd H x o') h' x o'):HOk P w (upd H x o') h':=λb u q=>by
 have nown:∀c y,H c=some (.own y)->c≠x:=λc y r z=>by subst z;rw[r]at mu;exact mu
 have ntup:∀c xs,H c=.(g xs)->c≠x:=λc xs r z=>by subst z;rw[r]at mu;exact mu
 by_cases hb:b=x
 ·subst hb;rw[J6]at q;cases q;exact new
 ·rw[Z7 hb]at q;by_cases hbe:b=e
  ·have q':H b=some (.own x):=by
    rcases he with z|z
    ·exact absurd (hbe.trans z) hb
    ·rw[hbe];exact z
   rw[q]at q';cases q';obtain⟨v,hv⟩:=heo;exact⟨v,by rw[hbe];exact hv⟩
  ·refine(ok b u q).stay (λc v hc r=>k c v ?_ r) (λc r=>by rw[Z7 (nown c b r)];exact r) λc xs r=>by rw[Z7 (ntup c xs r)];exact r
   rcases hc with rfl|hc
   ·exact hbe
   ·rintro rfl;rcases he with z|z
    ·exact nown c b hc z
    ·rw[hc]at z;cases z;exact hb rfl
end
structure Un (fs ex:List Addr) (H H':Hp) (h h':Heap):Prop where
 keep:∀b o,h.get? b=some o->H b=none->b∉fs->b∉ex->h'.get? b=some o
 slot:∀b o,h.get? b=some o->H b=none->b∈fs->b∉ex->∃sl,h'.get? b=some { o with slots:=sl }
 free:∀b o,h.get? b=some o->H b=none->b∉ex->H' b=none
 there:∀b o,h.get? b=some o->b∉ex->∃o',h'.get? b=some o'
 tups:∀b xs,H b=.(g xs)->H' b=.(g xs)
 frzs:∀b o u,H b=some (.frz o u)->H' b=some (.frz o u)
 tbls:∀b ps,H b=some (.tbl ps)->∃more,H' b=some (.tbl (ps++more))
section
variable {fs fs' ex ex':List Addr}{H H1 H2:Hp}{h h1 h2 h':Heap}{a x e:Addr}{o:HO}
theorem Un.any (u:Un fs ex H H1 h h1) {b:Addr}{ob:Obj}(q:h.get? b=some ob) (n:H b=none) (hx:b∉ex):∃sl,h1.get? b=some { ob with slots:=sl }:=by
 by_cases hb:b∈fs
 ·exact u.slot b ob q n hb hx
 ·exact⟨ob.slots,u.keep b ob q n hb hx⟩
theorem Un.trans (a:Un fs ex H H1 h h1) (b:Un fs ex H1 H2 h1 h2):Un fs ex H H2 h h2 where
 keep:=λc ob q n hc hx=>b.keep c ob (a.keep c ob q n hc hx) (a.free c ob q n hx) hc hx
 slot:=λc ob q n hc hx=>by
  obtain⟨sl,e1⟩:=a.slot c ob q n hc hx;obtain⟨sl',e2⟩:=b.slot c _ e1 (a.free c ob q n hx) hc hx;exact⟨sl',e2⟩
 free:=λc ob q n hx=>by
  obtain⟨o',e1⟩:=a.there c ob q hx;exact b.free c o' e1 (a.free c ob q n hx) hx
 there:=λc ob q hx=>by
  obtain⟨o',e1⟩:=a.there c ob q hx;exact b.there c o' e1 hx
 tups:=λc xs q=>b.tups c xs (a.tups c xs q)
 frzs:=λc ob xs q=>b.frzs c ob xs (a.frzs c ob xs q)
 tbls:=λc ps q=>by
  obtain⟨m1,e1⟩:=a.tbls c ps q;obtain⟨m2,e2⟩:=b.tbls c _ e1;exact⟨m1++m2,by rw[e2,K86]⟩
theorem Un.kept (k:∀b u,h.get? b=some u->h'.get? b=some u):Un fs ex H H h h' :=
 ⟨λb ob q _ _ _=>k b ob q,λb ob q _ _ _=>⟨ob.slots,k b ob q⟩,λ_ _ _ n _=>n,λb ob q _=>⟨ob,k b ob q⟩,λ_ _ q=>q,λ_ _ _ q=>q,λ_ ps q=>⟨#[],by rw[q];simp⟩⟩
theorem Un.refl:Un fs ex H H h h:=Un.kept λ_ _ q=>q
theorem Un.laid (k:∀b u,h.get? b=some u->h'.get? b=some u) (hp:h.objs.size<=a) (hn:H a=none):Un fs ex H (upd H a o) h h' where
 keep:=λb u q _ _ _=>k b u q
 slot:=λb u q _ _ _=>⟨u.slots,k b u q⟩
 free:=λb u q n _=>by rw[Z7 (K0q (K0i (K09 q) hp))];exact n
 there:=λb u q _=>⟨u,k b u q⟩
 tups:=λb xs q=>by rw[Z7 (j6 q hn)];exact q
 frzs:=λb u xs q=>by rw[Z7 (j6 q hn)];exact q
 tbls:=λb ps q=>⟨#[],by rw[Z7 (j6 q hn),q];simp⟩
theorem Un.write (mu:Mut (H x)) (he:e=x\/H e=some (.own x)) (k:∀b u,b≠e->h.get? b=some u->h'.get? b=some u) (heo:∃u,h'.get? e=some u):Un fs ex H (upd H x o) h h':=by
 have hx:∀b,H b=none->b≠x:=λb n z=>by subst z;rw[n]at mu;exact mu
 have hb:∀b,H b=none->b≠e:=λb n z=>by
  subst z;rcases he with r|r
  ·exact hx b n r
  ·rw[n]at r;cases r
 have hm:∀b u,H b=some u->¬ Mut (some u)->b≠x:=λb u q nm z=>by subst z;rw[q]at mu;exact nm mu
 refine⟨λb u q n _ _=>k b u (hb b n) q,λb u q n _ _=>⟨u.slots,k b u (hb b n) q⟩,λb u q n _=>by rw[Z7 (hx b n)];exact n,λb u q _=>?_,
  λb xs q=>by rw[Z7 (hm b _ q λz=>z)];exact q,λb u xs q=>by rw[Z7 (hm b _ q λz=>z)];exact q,λb ps q=>⟨#[],by rw[Z7 (hm b _ q λz=>z),q];simp⟩⟩
 by_cases hbe:b=e
 ·subst hbe;exact heo
 ·exact⟨u,k b u hbe q⟩
theorem Un.mono (u:Un fs ex H H1 h h1) (hs:∀b∈fs,b∈fs') (hx:∀b∈ex,b∈ex'):Un fs' ex' H H1 h h1 :=
 ⟨λb ob q n hb he=>u.keep b ob q n (λz=>hb (hs b z)) λz=>he (hx b z),λ_ _ q n _ he=>u.any q n λz=>he (hx _ z),λb ob q n he=>u.free b ob q n λz=>he (hx b z),λb ob q he=>u.there b ob q λz=>he (hx b z),u.tups,u.frzs,u.tbls⟩
end
def trk (h:Heap) (H:Hp):List Addr:=(K0u h.objs.size).filter λa=>(H a).isSome
def hidT (h:Heap) (H:Hp):Heap:=K6u h (trk h H)
theorem z5K (h:Heap) (H:Hp):(hidT h H).objs.size=h.objs.size:=PySem.W.hideAll_size _ _
theorem z63 {h:Heap}{H:Hp}{b:Addr}{o:Obj}(e:h.get? b=some o) (n:H b=none):(hidT h H).get? b=some o :=
 PySem.W.hideAll_get _ e λhm=>by
  have q:(H b).isSome=true:=(K23.mp hm).2;rw[n]at q;simp at q
theorem z8G {h:Heap}{H:Hp}{b:Addr}{o:Obj}(e:(hidT h H).get? b=some o):h.get? b=some o/\H b=none:=by
 have e':h.get? b=some o:=K82 (trk h H) e;refine⟨e',?_⟩;cases q:H b with
 | none=>rfl
 | some x =>
  have hm:b∈trk h H:=K23.mpr ⟨K1x.mpr (K09 e'),by simp[q]⟩;have z:(hidT h H).get? b=none:=K4v (trk h H) hm;rw[z]at e;cases e
def z8B (g h:Heap) (L:Addr):List (Addr×Obj):=(K0u h.objs.size).filterMap λa=>if a=L\/(g.get? a).isSome=true then none else (h.get? a).map λo=>(a,o)
def rest (g h:Heap) (L d:Addr):List (Addr×Obj):=(z8B g h L).filter λp=>decide (p.1≠d)
structure Mod (K:K0) (mg:Str->Option Value) (base:Heap):Prop where
 kin:K.In base
 glob:base.Ns K1a mg
 blt:∃mb,base.Ns builtinsNs mb/\∀x:Str,x≠"__name__"->mb x=K3o x
 nolimit:base.NoLimit
structure Cx where
 prog:K0a
 w:World
 K:K0
 mg:Str->Option Value
 base:Heap
 A:Around
 N:List Str
 s₀:Shared
 H₀:Hp
 env:Env
 outer:List Env
 stack:List Env
 ex:List Addr
 fn:Str->Bool
 calm:Bool
 pn:List (Addr×Obj)
 xe:Value->Shared->Prop
def frs (l:List Env):List Addr:=l.filterMap (·.frame)
abbrev Cx.fs (X:Cx):List Addr:=frs X.outer
def Vis (sc:Scope) (x:Str):Prop:=sc.names.lookup x=some .local\/sc.names.lookup x=some .cell\/sc.names.lookup x=some .free
def Loc (sc:Scope) (x:Str):Prop:=sc.names.lookup x=some .local\/sc.names.lookup x=some .cell
def Look (env:Env) (h:Heap) (m:Str->Option Value) (x:Str) (u:Value):Prop :=
 (env.kindOf x=some .local/\m x=some u)\/((env.kindOf x=some .cell\/env.kindOf x=some .free)/\∃c,env.cells.lookup x=some c/\h.IsCell c (some u))
structure Cx.Ok (X:Cx):Prop where
 mod:Mod X.K X.mg X.base
 kind:X.env.scope.kind=.function
 glob:X.env.globals=K1a
 blt:X.env.builtins=builtinsNs
 above:X.s₀.heap.objs.size<=X.env.locals
 inj:∀x y c,X.env.cells.lookup x=some c->X.env.cells.lookup y=some c->x=y
 has:∀x,(X.env.kindOf x=some .cell\/X.env.kindOf x=some .free)->∃c,X.env.cells.lookup x=some c
 cab:∀x c,X.fn x=true->X.env.cells.lookup x=some c->X.s₀.heap.objs.size<=c
 hd:X.calm=true->X.A.handled=none
 frames:X.A.frames=some X.stack
 stk:X.stack=X.outer\/(X.stack=X.env::X.outer/\X.env.frame=some X.env.locals)
 exf:∀b∈X.ex,b≠X.env.locals/\∀x c,X.env.cells.lookup x=some c->c≠b
 bs:∀b o,X.base.get? b=some o->X.s₀.heap.get? b=some o/\X.H₀ b=none
 bsz:X.base.objs.size<=X.s₀.heap.objs.size
 noex:∀b o,X.base.get? b=some o->b∉X.ex
 exfs:∀b∈X.ex,b∉X.fs
 funs:X.s₀.heap.FunFrames X.base X.outer
 frf:∀b∈X.fs,X.H₀ b=none
structure Inv (X:Cx) (pins:List (Addr×Obj)) (σ:List (Option V)) (H:Hp) (s:Shared):Prop where
 ok:X.Ok
 os:s.os=X.s₀.os
 bare:K57 s.gens
 base:Un X.fs X.ex X.H₀ H X.s₀.heap s.heap
 loc:∃m,s.heap.Ns X.env.locals m/\∀(i:Nat) (x:Str) (v:V),X.N[i]?=some x->σ[i]?=some (some v)->Vis X.env.scope x->∃u,RelV v u/\Look X.env s.heap m x u
 cell:∀x c,X.env.cells.lookup x=some c->∃v,s.heap.IsCell c v
 free:H X.env.locals=none
 freeC:∀x c,X.env.cells.lookup x=some c->H c=none
 pin:∀p∈X.pn++pins,s.heap.get? p.1=some p.2/\H p.1=none/\p.1≠X.env.locals/\p.1∉X.fs/\∀v,p.2.data≠.cell v
 hok:HOk X.prog X.w H s.heap
 len:σ.length=X.N.length
section
variable {X:Cx}{pins:List (Addr×Obj)}{σ:List (Option V)}{H H':Hp}{s:Shared}{h':Heap}
theorem Cx.Ok.nofr (ok:X.Ok) {b:Addr}{o:Obj}(e:X.base.get? b=some o):b∉X.fs:=λhb=>by
 have:=(ok.funs.mem hb).1;rw[e]at this;cases this
theorem Inv.bs (I:Inv X pins σ H s):∀b o,X.base.get? b=some o->s.heap.get? b=some o/\H b=none:=λb o e =>
 ⟨I.base.keep b o (I.ok.bs b o e).1 (I.ok.bs b o e).2 (I.ok.nofr e) (I.ok.noex b o e),I.base.free b o (I.ok.bs b o e).1 (I.ok.bs b o e).2 (I.ok.noex b o e)⟩
theorem Inv.bk (I:Inv X pins σ H s):∀b o,X.base.get? b=some o->s.heap.get? b=some o:=λb o e=>(I.bs b o e).1
theorem Inv.mod (I:Inv X pins σ H s):Mod X.K X.mg X.base:=I.ok.mod
theorem Inv.kIn (I:Inv X pins σ H s):X.K.In s.heap:=I.ok.mod.kin.keeps I.bk
theorem Inv.nolimit (I:Inv X pins σ H s):s.heap.NoLimit:=I.ok.mod.nolimit.keeps I.bk
theorem Inv.fr (I:Inv X pins σ H s):∃m,Fr X.base X.env.locals s.heap m :=
 let ⟨m,hn,_⟩:=I.loc
 ⟨m,hn,I.bk,K0h I.ok.bsz I.ok.above⟩
theorem Inv.lt (I:Inv X pins σ H s):X.env.locals<s.heap.objs.size:=let ⟨_,hn,_⟩:=I.loc;hn.lt
theorem Inv.sz (I:Inv X pins σ H s):X.s₀.heap.objs.size<=s.heap.objs.size:=K0h I.ok.above (K36 I.lt)
theorem Inv.nofs (I:Inv X pins σ H s) {a:Addr}(h:s.heap.objs.size<=a):a∉X.fs:=λhb=>by
 obtain⟨_,o,ho,_⟩:=I.ok.funs.mem hb;exact absurd (K0i (K09 ho) (K0h I.sz h)) (K2i _)
theorem Inv.cne (I:Inv X pins σ H s):∀x c,X.env.cells.lookup x=some c->c≠X.env.locals:=λx c e z=>by
 obtain⟨v,o,ho,hd⟩:=I.cell x c e;obtain⟨m,⟨o',es,ep,ho',hd',_⟩,_⟩:=I.loc;rw[z,ho']at ho;cases ho;rw[hd']at hd;cases hd
theorem Inv.funs (I:Inv X pins σ H s):s.heap.FunFrames X.base X.outer:=by
 have all:∀(l:List Env),(∀b∈frs l,b∈X.fs)->X.s₀.heap.FunFrames X.base l->s.heap.FunFrames X.base l:=by
  intro l;induction l with
  | nil=>intro _ _;trivial
  | cons env r ih =>
   intro hs hl;obtain⟨hk,⟨L,o,hf,hn,ho,hd⟩,hr⟩:=hl;have hL:L∈X.fs:=hs L (by unfold frs;rw[K30,hf];exact K1d);obtain⟨sl,e⟩:=I.base.slot L o ho (I.ok.frf L hL) hL λz=>I.ok.exfs L z hL;exact⟨hk,⟨L,_,hf,hn,e,hd⟩,ih (λb hb=>hs b (by unfold frs;rw[K30,hf];exact K0x _ hb)) hr⟩
 exact all X.outer (λ_ hb=>hb) I.ok.funs
theorem Inv.stack (I:Inv X pins σ H s):s.heap.FunFrames X.base X.stack:=by
 rcases I.ok.stk with e|⟨e,hf⟩
 ·rw[e];exact I.funs
 ·rw[e];obtain⟨m,hn,_⟩:=I.loc;refine .cons (by rw[I.ok.kind];decide) hf hn ?_ I.funs;exact Heap.get?_none_of_le (K0h I.ok.bsz I.ok.above)
theorem Inv.stkSub (I:Inv X pins σ H s):∀b∈frs X.stack,b∈X.env.locals::X.fs:=λb hb=>by
 rcases I.ok.stk with e|⟨e,hf⟩
 ·rw[e]at hb;exact K0x _ hb
 ·rw[e]at hb;unfold frs at hb;rw[K30,hf]at hb;exact hb
theorem Inv.stkFree (I:Inv X pins σ H s):∀b∈frs X.stack,H b=none:=λb hb=>by
 rcases K1h.mp (I.stkSub b hb) with e|hb
 ·rw[e];exact I.free
 ·obtain⟨_,o,ho,_⟩:=I.ok.funs.mem hb;exact I.base.free b o ho (I.ok.frf b hb) λz=>I.ok.exfs b z hb
theorem Inv.step {g':Array K4w}{t':Nat}{d':Drawn}{ch:List Addr}(I:Inv X pins σ H s)
 (hch:∀b∈ch,(b∈X.ex\/X.s₀.heap.objs.size<=b)/\b≠X.env.locals/\(∀x c,X.env.cells.lookup x=some c->c≠b)/\∀p∈X.pn++pins,p.1≠b)
 (keep:∀b o,b≠X.env.locals->b∉X.fs->b∉ch->s.heap.get? b=some o->H b=none->h'.get? b=some o)
 (slot:∀b o,b≠X.env.locals->b∈X.fs->b∉ch->s.heap.get? b=some o->H b=none->∃sl,h'.get? b=some { o with slots:=sl }) (free:∀b o,b∉ch->s.heap.get? b=some o->H b=none->H' b=none)
 (there:∀b o,b∉ch->s.heap.get? b=some o->∃o',h'.get? b=some o')
 (tups:∀b xs,H b=.(g xs)->H' b=.(g xs)) (frzs:∀b o u,H b=some (.frz o u)->H' b=some (.frz o u)) (tbls:∀b ps,H b=some (.tbl ps)->∃more,H' b=some (.tbl (ps++more)))
 (ns:∀m,s.heap.Ns X.env.locals m->h'.Ns X.env.locals m) (hok:HOk X.prog X.w H' h') (hg:K57 g') :
 Inv X pins σ H' { s with heap:=h',gens:=g',drawn:=d',toks:=t' }:=by
 have neL:∀b o,X.s₀.heap.get? b=some o->b≠X.env.locals:=λb o e=>K0q (K0i (K09 e) I.ok.above);have neC:∀b o,X.s₀.heap.get? b=some o->b∉X.ex->b∉ch:=λb o e hx hb=>by
  rcases(hch b hb).1 with z|z
  ·exact hx z
  ·exact absurd (K0i (K09 e) z) (K2i _)
 have cellK:∀x c,X.env.cells.lookup x=some c->∀v,s.heap.IsCell c v->h'.IsCell c v:=λx c e v ⟨o,ho,hd⟩=>by
  have nch:c∉ch:=λz=>(hch c z).2.2.1 x c e rfl;by_cases hc:c∈X.fs
  ·obtain⟨sl,q⟩:=slot c o (I.cne x c e) hc nch ho (I.freeC x c e);exact⟨_,q,hd⟩
  ·exact⟨o,keep c o (I.cne x c e) hc nch ho (I.freeC x c e),hd⟩
 refine⟨I.ok,I.os,hg,⟨λb o e n hb hx=>?_,λb o e n hb hx=>?_,λb o e n hx=>?_,λb o e hx=>?_,λb xs e=>tups b xs (I.base.tups b xs e),λb o xs e=>frzs b o xs (I.base.frzs b o xs e),λb ps e=>?_⟩,?_,λx c e=>?_,?_,λx c e=>?_,λp hp=>?_,hok,I.len⟩
 ·exact keep b o (neL b o e) hb (neC b o e hx) (I.base.keep b o e n hb hx) (I.base.free b o e n hx)
 ·obtain⟨sl,e1⟩:=I.base.slot b o e n hb hx;obtain⟨sl',e2⟩:=slot b _ (neL b o e) hb (neC b o e hx) e1 (I.base.free b o e n hx);exact⟨sl',e2⟩
 ·obtain⟨o',e1⟩:=I.base.there b o e hx;exact free b o' (neC b o e hx) e1 (I.base.free b o e n hx)
 ·obtain⟨o',e1⟩:=I.base.there b o e hx;exact there b o' (neC b o e hx) e1
 ·obtain⟨m1,e1⟩:=I.base.tbls b ps e;obtain⟨m2,e2⟩:=tbls b _ e1;exact⟨m1++m2,by rw[e2,K86]⟩
 ·obtain⟨m,hn,hl⟩:=I.loc;refine⟨m,ns m hn,λi x v e1 e2 e3=>?_⟩;obtain⟨u,r,l⟩:=hl i x v e1 e2 e3;refine⟨u,r,?_⟩;rcases l with l|⟨k,c,e,z⟩
  ·exact .inl l
  ·exact .inr ⟨k,c,e,cellK x c e _ z⟩
 ·obtain⟨v,z⟩:=I.cell x c e;exact⟨v,cellK x c e v z⟩
 ·obtain⟨m,⟨o,_,_,ho,_⟩,_⟩:=I.loc;exact free _ o (λz=>(hch _ z).2.1 rfl) ho I.free
 ·obtain⟨v,o,ho,hd⟩:=I.cell x c e;exact free c o (λz=>(hch c z).2.2.1 x c e rfl) ho (I.freeC x c e)
 ·obtain⟨e,n,ne,nf,d⟩:=I.pin p hp;have nch:p.1∉ch:=λz=>(hch p.1 z).2.2.2 p hp rfl;exact⟨keep p.1 p.2 ne nf nch e n,free p.1 p.2 nch e n,ne,nf,d⟩
theorem Inv.un {t':Nat}(I:Inv X pins σ H s) (u:Un X.fs [] H H' s.heap h') (hok:HOk X.prog X.w H' h'):Inv X pins σ H' { s with heap:=h',toks:=t' }:=by
 obtain⟨m,⟨o,es,ep,ho,r⟩,_⟩:=id I.loc;obtain⟨sl,hL⟩:=u.any ho I.free (by simp);exact I.step (g':=s.gens) (d':=s.drawn) (ch:=[]) (λ_ z=>nomatch z) (λb o _ hb _ e n=>u.keep b o e n hb (by simp)) (λb o _ hb _ e n=>u.slot b o e n hb (by simp)) (λb o _ e n=>u.free b o e n (by simp)) (λb o _ e=>u.there b o e (by simp)) u.tups u.frzs u.tbls (λm' hm=>by
  obtain⟨o',es',ep',ho',r'⟩:=hm;rw[ho]at ho';cases ho';exact⟨_,es',ep',hL,r'⟩) hok I.bare
theorem Inv.call {g':Array K4w}{t':Nat}{d':Drawn}{ch:List Addr}(I:Inv X pins σ H s) (u:Un (frs X.stack) ch H H' s.heap h') (hok:HOk X.prog X.w H' h') (hg:K57 g')
 (hch:∀b∈ch,(b∈X.ex\/X.s₀.heap.objs.size<=b)/\b≠X.env.locals/\(∀x c,X.env.cells.lookup x=some c->c≠b)/\∀p∈X.pn++pins,p.1≠b) :
 Inv X pins σ H' { s with heap:=h',gens:=g',drawn:=d',toks:=t' }:=by
 obtain⟨m,⟨o,es,ep,ho,r⟩,_⟩:=id I.loc;obtain⟨sl,hL⟩:=u.any ho I.free λz=>(hch _ z).2.1 rfl;exact I.step (ch:=ch) hch (λb o hL hb hc e n=>u.keep b o e n (λz=>(K1h.mp (I.stkSub b z)).elim hL hb) hc) (λb o _ _ hc e n=>u.any e n hc) (λb o hc e n=>u.free b o e n hc) (λb o hc e=>u.there b o e hc) u.tups u.frzs u.tbls (λm' hm=>by
  obtain⟨o',es',ep',ho',r'⟩:=hm;rw[ho]at ho';cases ho';exact⟨_,es',ep',hL,r'⟩) hok hg
theorem Inv.turned {t':Nat}{it:Addr}(I:Inv X pins σ H s) (k:∀b o,b≠it->s.heap.get? b=some o->h'.get? b=some o) (hn:H it=none) (hL:it≠X.env.locals)
 (h1:it∈X.ex\/X.s₀.heap.objs.size<=it) (h2:∀x c,X.env.cells.lookup x=some c->c≠it) (h3:∀p∈X.pn++pins,p.1≠it):Inv X pins σ H { s with heap:=h',toks:=t' }:=by
 have nit:∀b u,H b=some u->b≠it:=λb u e z=>by rw[z,hn]at e;cases e
 refine I.step (g':=s.gens) (d':=s.drawn) (ch:=[it]) (λb hb=>?_) (λb o _ _ hc e _=>k b o (λz=>hc (by simp[z])) e) (λb o _ _ hc e _=>⟨o.slots,k b o (λz=>hc (by simp[z])) e⟩) (λ_ _ _ _ n=>n)
  (λb o hc e=>⟨o,k b o (λz=>hc (by simp[z])) e⟩) (λ_ _ e=>e) (λ_ _ _ e=>e) (λb ps e=>⟨#[],by rw[e];simp⟩) (λm hm=>?_) (λb u e=>?_) I.bare
 ·have e:b=it:=by simpa using hb
  subst e;exact⟨h1,hL,h2,h3⟩
 ·obtain⟨o,es,ep,ho,r⟩:=hm;exact⟨o,es,ep,k _ o (K55 hL) ho,r⟩
 ·refine(I.hok b u e).stay (λc v hc q=>k c v ?_ q) (λ_ q=>q) λ_ _ q=>q;rcases hc with z|z
  ·rw[z];exact nit b u e
  ·exact nit c _ z
theorem Inv.tok (I:Inv X pins σ H s) (t:Nat):Inv X pins σ H { s with toks:=t }:=I.un (h':=s.heap) (t':=t) Un.refl I.hok
theorem Inv.kept {t':Nat}(I:Inv X pins σ H s) (k:∀b u,s.heap.get? b=some u->h'.get? b=some u):Inv X pins σ H { s with heap:=h',toks:=t' }:=I.un (Un.kept k) (I.hok.kept k)
theorem Inv.laid {a:Addr}{o:HO}{t':Nat}(I:Inv X pins σ H s) (k:∀b u,s.heap.get? b=some u->h'.get? b=some u) (hp:s.heap.objs.size<=a) (new:ObjOk X.prog X.w (upd H a o) h' a o) :
 Inv X pins σ (upd H a o) { s with heap:=h',toks:=t' }:=I.un (Un.laid k hp (I.hok.fresh hp)) (I.hok.laid k hp new)
theorem Inv.write {x e:Addr}{o:HO}{t':Nat}(I:Inv X pins σ H s) (mu:Mut (H x)) (he:e=x\/H e=some (.own x)) (k:∀b u,b≠e->s.heap.get? b=some u->h'.get? b=some u) (heo:∃u,h'.get? e=some u)
 (new:ObjOk X.prog X.w (upd H x o) h' x o):Inv X pins σ (upd H x o) { s with heap:=h',toks:=t' }:=I.un (Un.write mu he k heo) (I.hok.write mu he k heo new)
theorem Inv.weak {σ':List (Option V)}(I:Inv X pins σ H s) (hl:σ'.length=σ.length) (w:∀(i:Nat) v,σ'[i]?=some (some v)->σ[i]?=some (some v)):Inv X pins σ' H s :=
 ⟨I.ok,I.os,I.bare,I.base,let ⟨m,hn,hl'⟩:=I.loc;⟨m,hn,λi x v e1 e2 e3=>hl' i x v e1 (w i v e2) e3⟩,I.cell,I.free,I.freeC,I.pin,I.hok,hl.trans I.len⟩
theorem Inv.pins_of {pins':List (Addr×Obj)}(I:Inv X pins σ H s) (h:∀p∈pins',s.heap.get? p.1=some p.2/\H p.1=none/\p.1≠X.env.locals/\p.1∉X.fs/\∀v,p.2.data≠.cell v):Inv X pins' σ H s :=
 ⟨I.ok,I.os,I.bare,I.base,I.loc,I.cell,I.free,I.freeC,λp hp=>(K0f.mp hp).elim (λz=>I.pin p (K1t _ z)) (h p),I.hok,I.len⟩
theorem z3S {N:List Str}(hN:N.Nodup) {i j:Nat}{x:Str}(a:N[i]?=some x) (b:N[j]?=some x):i=j:=by
 obtain⟨h1,e1⟩:=K4.mp a;obtain⟨h2,e2⟩:=K4.mp b;exact(K8x hN).mp (e1.trans e2.symm)
theorem z5E {M:Model}{A:Around}{E:Value->Shared->Prop}{i:Nat}{x:Str}{v:V}{u:Value}{Q:Unit->Shared->Prop}(I:Inv X pins σ H s) (hN:X.N.Nodup) (hi:X.N[i]?=some x) (hx:Loc X.env.scope x) (r:RelV v u)
 (h:∀s',Inv X pins (σ.set i (some v)) H s'->(∃a,K52 a s.heap s'.heap/\(a=X.env.locals\/X.env.cells.lookup x=some a))->Q () s') (hf:X.fn x=true\/X.env.scope.names.lookup x=some .local:=by first|exact .inl rfl|exact .inr rfl|assumption):wpAny M A (storeName X.env x u) Q E s:=by
 obtain⟨m,hn,hl⟩:=id I.loc;have hcls:(X.env.scope.kind==.class||(X.env.scope.kind==.module&&X.env.locals != X.env.globals))=false:=by rw[I.ok.kind];rfl
 have hiσ:i<σ.length:=by rw[I.len];exact(K4.mp hi).1
 have cne:=I.cne;have tracked:∀{a:Addr} {h':Heap},(∃o,s.heap.get? a=some o/\H a=none)->K52 a s.heap h'->HOk X.prog X.w H h':=λ{a h'} ha hs b ob e=>by
  obtain⟨_,_,hfree⟩:=ha;refine(I.hok b ob e).stay (λc w' hc q=>(hs.2 c ?_).trans q) (λ_ q=>q) λ_ _ q=>q;rintro rfl;rcases hc with rfl|hc
  ·rw[hfree]at e;cases e
  ·rw[hfree]at hc;cases hc
 rcases hx with hk|hk
 ·refine wpAny_storeName_local hk hn (λh' hn' hs=>?_) hcls;obtain⟨oL,_,_,hoL,_⟩:=id hn;refine h _ ⟨I.ok,I.os,I.bare,⟨λb o e n hb hx=>?_,λb o e n hb hx=>?_,I.base.free,λb o e hx=>?_,I.base.tups,I.base.frzs,I.base.tbls⟩,⟨_,hn',λj y v' e1 e2 e3=>?_⟩,λy c e=>?_,I.free,I.freeC,λp hp=>?_,tracked ⟨oL,hoL,I.free⟩ hs,by simpa using I.len⟩ ⟨_,hs,.inl rfl⟩
  ·exact(hs.2 b (K0q (K0i (K09 e) I.ok.above))).trans (I.base.keep b o e n hb hx)
  ·obtain⟨sl,e1⟩:=I.base.slot b o e n hb hx;exact⟨sl,(hs.2 b (K0q (K0i (K09 e) I.ok.above))).trans e1⟩
  ·obtain⟨o',e1⟩:=I.base.there b o e hx;exact⟨o',(hs.2 b (K0q (K0i (K09 e) I.ok.above))).trans e1⟩
  ·by_cases hj:j=i
   ·subst hj;rw[hi]at e1;cases e1;rw[K1k hiσ]at e2;cases e2;exact⟨u,r,.inl ⟨hk,by simp⟩⟩
   ·rw[K1u (K55 hj)]at e2;obtain⟨u',r',q⟩:=hl j y v' e1 e2 e3;refine⟨u',r',?_⟩;rcases q with ⟨k,e⟩|⟨k,c,e,z⟩
    ·refine .inl ⟨k,?_⟩;have:y≠x:=λe=>hj (z3S hN e1 (e ▸ hi));simp[this,e]
    ·exact .inr ⟨k,c,e,z.sameBut hs (cne y c e)⟩
  ·obtain⟨w',z⟩:=I.cell y c e;exact⟨w',z.sameBut hs (cne y c e)⟩
  ·obtain⟨e,n,ne,nf,d⟩:=I.pin p hp;exact⟨(hs.2 p.1 ne).trans e,n,ne,nf,d⟩
 ·have hfn:X.fn x=true:=by
   rcases hf with z|z
   ·exact z
   ·rw[z]at hk;cases hk
  obtain⟨c,hc⟩:=I.ok.has x (.inl hk);obtain⟨w',z⟩:=I.cell x c hc;refine wpAny_storeName_cell I.ok.kind hk hc z (λh' hc' hs=>?_);obtain⟨oc,hoc,hocd⟩:=id z;refine h { s with heap:=h' } ⟨I.ok,I.os,I.bare,⟨λb o e n hb hx=>?_,λb o e n hb hx=>?_,I.base.free,λb o e hx=>?_,I.base.tups,I.base.frzs,I.base.tbls⟩,⟨m,hn.sameBut hs (K55 (cne x c hc)),λj y v' e1 e2 e3=>?_⟩,λy c' e=>?_,I.free,I.freeC,λp hp=>?_,tracked ⟨oc,hoc,I.freeC x c hc⟩ hs,by simpa using I.len⟩ ⟨c,hs,.inr hc⟩
  ·exact(hs.2 b (K0q (K0i (K09 e) (I.ok.cab x c hfn hc)))).trans (I.base.keep b o e n hb hx)
  ·obtain⟨sl,e1⟩:=I.base.slot b o e n hb hx;exact⟨sl,(hs.2 b (K0q (K0i (K09 e) (I.ok.cab x c hfn hc)))).trans e1⟩
  ·obtain⟨o',e1⟩:=I.base.there b o e hx;exact⟨o',(hs.2 b (K0q (K0i (K09 e) (I.ok.cab x c hfn hc)))).trans e1⟩
  ·by_cases hj:j=i
   ·subst hj;rw[hi]at e1;cases e1;rw[K1k hiσ]at e2;cases e2;exact⟨u,r,.inr ⟨.inl hk,c,hc,hc'⟩⟩
   ·rw[K1u (K55 hj)]at e2;obtain⟨u',r',q⟩:=hl j y v' e1 e2 e3;refine⟨u',r',?_⟩;rcases q with q|⟨k,c',e,z'⟩
    ·exact .inl q
    ·refine .inr ⟨k,c',e,z'.sameBut hs ?_⟩;rintro rfl;exact hj (z3S hN e1 (I.ok.inj _ _ _ e hc ▸ hi))
  ·by_cases hcc:c'=c
   ·subst hcc;exact⟨_,hc'⟩
   ·obtain⟨w2,z2⟩:=I.cell y c' e;exact⟨w2,z2.sameBut hs hcc⟩
  ·obtain⟨e,n,ne,nf,d⟩:=I.pin p hp;refine⟨(hs.2 p.1 ?_).trans e,n,ne,nf,d⟩;intro q;rw[q,hoc]at e;have q':oc=p.2:=K0p e;exact d w' (by rw[<- q'];exact hocd)
theorem z3K {M:Model}{A:Around}{E:Value->Shared->Prop}{i:Nat}{x:Str}{v:V}{u:Value}{Q:Unit->Shared->Prop}(I:Inv X pins σ H s) (hN:X.N.Nodup) (hi:X.N[i]?=some x) (hx:Loc X.env.scope x) (r:RelV v u)
 (h:∀s',Inv X pins (σ.set i (some v)) H s'->Q () s') (hf:X.fn x=true\/X.env.scope.names.lookup x=some .local:=by first|exact .inl rfl|exact .inr rfl|assumption):wpAny M A (storeName X.env x u) Q E s :=
 z5E I hN hi hx r (λs' I' _=>h s' I') hf
theorem Inv.call' {s':Shared}{ch:List Addr}(I:Inv X pins σ H s) (ho:s'.os=s.os) (u:Un (frs X.stack) ch H H' s.heap s'.heap) (hok:HOk X.prog X.w H' s'.heap) (hg:K57 s'.gens)
 (hch:∀b∈ch,(b∈X.ex\/X.s₀.heap.objs.size<=b)/\b≠X.env.locals/\(∀x c,X.env.cells.lookup x=some c->c≠b)/\∀p∈X.pn++pins,p.1≠b):Inv X pins σ H' s':=by
 obtain⟨h',g',d',t',o'⟩:=s';have e:o'=s.os:=ho;subst e;exact I.call (g':=g') (t':=t') (d':=d') u hok hg hch
end
abbrev XK:=Value->Option Addr->Hp->Prop
abbrev St:=List (Option V)
abbrev VK:=V->Hp->Prop
abbrev TE:=St->Hp->VK->Prop
abbrev TT:=St->Hp->(Bool->Hp->Prop)->Prop
abbrev TA:=St->Hp->(List V->Hp->Prop)->Prop
structure Ends where
 nx:St->Hp->Prop
 rt:VK
 bk:St->Hp->Prop:=λ_ _=>False
 ct:St->Hp->Prop:=λ_ _=>False
abbrev TS:=Ends->St->Hp->Prop
def EP (X:Cx) (pins:List (Addr×Obj)) (σ:St) (Q:VK) (u:Value) (s':Shared):Prop:=∃v H',Inv X pins σ H' s'/\RelV v u/\Q v H'
def TP (X:Cx) (pins:List (Addr×Obj)) (σ:St) (Q:Bool->Hp->Prop) (b:Bool) (s':Shared):Prop:=∃H',Inv X pins σ H' s'/\Q b H'
def AP (X:Cx) (pins:List (Addr×Obj)) (σ:St) (Q:List V->Hp->Prop) (us:List Value) (s':Shared):Prop:=∃vs H',Inv X pins σ H' s'/\Vals vs us/\Q vs H'
def SP (X:Cx) (pins:List (Addr×Obj)) (D:Ends) (f:Flow) (s':Shared):Prop :=
 match f with
 | .next=>∃σ' H',Inv X pins σ' H' s'/\D.nx σ' H'
 | .brk=>∃σ' H',Inv X pins σ' H' s'/\D.bk σ' H'
 | .cont=>∃σ' H',Inv X pins σ' H' s'/\D.ct σ' H'
 | .ret u=>∃v σ' H',Inv X pins σ' H' s'/\RelV v u/\D.rt v H'
def PE (X:Cx) (e:Expr) (t:TE):Prop :=
 ∀(pins:List (Addr×Obj)) (s:Shared) (σ:St) (H:Hp) (Q:VK),Inv X pins σ H s->t σ H Q->wpAny (model X.prog X.w) X.A (eval e X.env) (EP X pins σ Q) X.xe s
def PT (X:Cx) (e:Expr) (t:TT):Prop :=
 ∀(pins:List (Addr×Obj)) (s:Shared) (σ:St) (H:Hp) (Q:Bool->Hp->Prop),Inv X pins σ H s->t σ H Q->wpAny (model X.prog X.w) X.A (isTrue e X.env (eval e X.env)) (TP X pins σ Q) X.xe s
def PW (X:Cx) (e:Expr) (t:TT):Prop :=
 ∀(whole:Sem Value) (pins:List (Addr×Obj)) (s:Shared) (σ:St) (H:Hp) (Q:Bool->Hp->Prop),Inv X pins σ H s->t σ H Q->wpAny (model X.prog X.w) X.A (isTrue e X.env whole) (TP X pins σ Q) X.xe s
theorem PW.pt {X:Cx}{e:Expr}{t:TT}(h:PW X e t):PT X e t:=h _
def PA (X:Cx) (es:List Expr) (t:TA):Prop :=
 ∀(pos:Pos) (pins:List (Addr×Obj)) (s:Shared) (σ:St) (H:Hp) (Q:List V->Hp->Prop),Inv X pins σ H s->t σ H Q->wpAny (model X.prog X.w) X.A (spliced (backTo pos (K07 es X.env))) (AP X pins σ Q) X.xe s
def PS (X:Cx) (st:Stmt) (t:TS):Prop :=
 ∀(pins:List (Addr×Obj)) (s:Shared) (σ:St) (H:Hp) (D:Ends),Inv X pins σ H s->t D σ H->wpAny (model X.prog X.w) X.A (exec st X.env) (SP X pins D) X.xe s
def PSs (X:Cx) (st:List Stmt) (t:TS):Prop :=
 ∀(pins:List (Addr×Obj)) (s:Shared) (σ:St) (H:Hp) (D:Ends),Inv X pins σ H s->t D σ H->wpAny (model X.prog X.w) X.A (execs st X.env) (SP X pins D) X.xe s
theorem thn {α:Type}{t:Sem α}{Q Q':α->Shared->Prop}{M:Model}{A:Around}{E:Value->Shared->Prop}{s:Shared}(h:wpAny M A t Q E s) (hQ:∀a s,Q a s->Q' a s):wpAny M A t Q' E s:=K2x h hQ λ_ _ x=>x
section
variable {X:Cx}
def tVar (i:Nat):TE:=λσ H Q=>∃v,σ[i]?=some (some v)/\Q v H
def tC (v:V):TE:=λ_ H Q=>Q v H
theorem z9R {i:Nat}{x:Str}{pos:Pos}(hN:X.N[i]?=some x) (hv:Vis X.env.scope x) (hd:(x==("__debug__":Str))=false:=by decide) (hcd:(x==("__classdict__":Str))=false:=by decide):PE X (.Name x pos) (tVar i):=by
 intro pins s σ H Q I h;obtain⟨v,e,h⟩:=h;obtain⟨m,hn,hl⟩:=I.loc;obtain⟨u,r,l⟩:=hl i x v hN e hv;have fin:EP X pins σ Q u s:=⟨v,H,I,r,h⟩;rcases l with ⟨hk,hm⟩|⟨hk,c,hc,hcell⟩
 ·exact wpAny_Name (wpAny_loadName_local I.ok.kind hk hn hm fin) hd
 ·rcases hk with hk|hk
  ·exact wpAny_Name (wpAny_loadName_cell I.ok.kind hk hc hcell fin) hd
  ·exact wpAny_Name (wpAny_loadName_free I.ok.kind hk hc hcell fin hcd) hd
theorem zg7 {i j pos}:PE X (.Constant (.int i) j pos) (tC (.int i)):=λ_ _ _ H _ I h=>wpAny_Constant_int ⟨.int i,H,I.tok _,⟨_,rfl⟩,h⟩
theorem zh8 {b j pos}:PE X (.Constant (.bool b) j pos) (tC (.bl b)):=λ_ _ _ H _ I h=>Constant_bool ⟨.bl b,H,I,rfl,h⟩
theorem zd5 {x j pos}:PE X (.Constant (.str x) j pos) (tC (.str x)):=λ_ _ _ H _ I h=>Calls.Constant_str ⟨.str x,H,I.tok _,⟨_,rfl⟩,h⟩
def Gl (X:Cx) (x:Str):Prop:=X.env.kindOf x=some .globalImplicit
theorem z4D {E:Value->Shared->Prop}{pins:List (Addr×Obj)}{s:Shared}{σ:St}{H:Hp}{x:Str}{u:Value}{pos:Pos}{Q:Value->Shared->Prop}(I:Inv X pins σ H s) (hg:Gl X x) (hm:X.mg x=some u) (h:Q u s)
 (hd:(x==("__debug__":Str))=false:=by decide):wpAny (model X.prog X.w) X.A (eval (.Name x pos) X.env) Q E s :=
 K5n I.ok.kind hg (Calls.loadGlobal_global (by rw[I.ok.glob];exact I.mod.glob.keeps I.bk) hm h) hd
theorem z39 {E:Value->Shared->Prop}{pins:List (Addr×Obj)}{s:Shared}{σ:St}{H:Hp}{x:Str}{u:Value}{pos:Pos}{Q:Value->Shared->Prop}(I:Inv X pins σ H s) (hg:Gl X x) (hm:X.mg x=none) (hv:K3o x=some u) (h:Q u s)
 (hn:x≠"__name__":=by decide) (hd:(x==("__debug__":Str))=false:=by decide):wpAny (model X.prog X.w) X.A (eval (.Name x pos) X.env) Q E s:=by
 obtain⟨mb,h1,h2⟩:=I.mod.blt;exact K5n I.ok.kind hg (Calls.loadGlobal_builtin (by rw[I.ok.glob];exact I.mod.glob.keeps I.bk) hm (by rw[I.ok.blt];exact h1.keeps I.bk) ((h2 x hn).trans hv) h) hd
theorem z8c {x:Str}{v:V}{u:Value}{pos:Pos}(hg:Gl X x) (hm:X.mg x=none) (hv:K3o x=some u) (r:RelV v u) (hn:x≠"__name__":=by decide) (hd:(x==("__debug__":Str))=false:=by decide):PE X (.Name x pos) (tC v) :=
 λ_ _ _ H _ I h=>z39 I hg hm hv ⟨v,H,I,r,h⟩ hn hd
variable {a b:Expr}{ta tb:TE}{pos:Pos}
def tB (t:TE):TT:=λσ H Q=>t σ H λx H1=>∃c,x=.bl c/\Q c H1
variable {tA tB':TT}{rest:List Expr}
def tAnd (t u:TT):TT:=λσ H Q=>t σ H λc H1=>if c=true then u σ H1 Q else Q false H1
def tOr (t u:TT):TT:=λσ H Q=>t σ H λc H1=>if c=true then Q true H1 else u σ H1 Q
def tNot (t:TT):TT:=λσ H Q=>t σ H λc H1=>Q (!c) H1
theorem z83 (ha:PT X a tA):PW X (.BoolOp .And [a] pos) tA:=by
 intro wh pins s σ H Q I h;refine isTrue_and (thn (ha pins s σ H Q I h) λc s1 e=>?_);cases c with
 | true=>exact isTrue_and_nil e
 | false=>exact e
theorem ze9 (ha:PT X a tA):PW X (.BoolOp .Or [a] pos) tA:=by
 intro wh pins s σ H Q I h;refine isTrue_or (thn (ha pins s σ H Q I h) λc s1 e=>?_);cases c with
 | false=>exact isTrue_or_nil e
 | true=>exact e
theorem zf4 (ha:PT X a tA) (hb:PW X (.BoolOp .And (b::rest) pos) tB'):PW X (.BoolOp .And (a::b::rest) pos) (tAnd tA tB'):=by
 intro wh pins s σ H Q I h;refine isTrue_and (thn (ha pins s σ H _ I h) λc s1 ⟨H1,I1,q1⟩=>?_);cases c with
 | true=>exact hb wh pins s1 σ H1 Q I1 q1
 | false=>exact⟨H1,I1,q1⟩
theorem zk1 (ha:PT X a tA) (hb:PW X (.BoolOp .Or (b::rest) pos) tB'):PW X (.BoolOp .Or (a::b::rest) pos) (tOr tA tB'):=by
 intro wh pins s σ H Q I h;refine isTrue_or (thn (ha pins s σ H _ I h) λc s1 ⟨H1,I1,q1⟩=>?_);cases c with
 | true=>exact⟨H1,I1,q1⟩
 | false=>exact hb wh pins s1 σ H1 Q I1 q1
theorem zb1 (ha:PT X a tA):PT X (.UnaryOp .Not a pos) (tNot tA):=by
 intro pins s σ H Q I h;exact isTrue_not (ha pins s σ H (λc H1=>Q (!c) H1) I h)
def zh7 (ta tb:TE):TE:=λσ H Q=>ta σ H λx H1=>∃c,x=.bl c/\if c=true then tb σ H1 Q else Q (.bl false) H1
def zj1 (ta:TE):TE:=λσ H Q=>ta σ H λx H1=>∃c,x=.bl c/\Q (.bl (!c)) H1
theorem z9d {op}{t:TE}(h:PE X a t):PE X (.BoolOp op [a] pos) t:=λpins s σ H Q I hw=>BoolOp_one (h pins s σ H Q I hw)
theorem z9c (ha:PE X a ta) (hb:PE X (.BoolOp .And (b::rest) pos) tb):PE X (.BoolOp .And (a::b::rest) pos) (zh7 ta tb):=by
 intro pins s σ H Q I h;refine BoolOp_and (thn (ha pins s σ H _ I h) λv s1 ⟨x,H1,I1,r1,q1⟩=>?_);obtain⟨c,rfl,q1⟩:=q1;cases r1;refine K2u ?_;cases c with
 | true=>exact hb pins s1 σ H1 Q I1 q1
 | false=>exact⟨.bl false,H1,I1,rfl,q1⟩
theorem zd8 (ha:PE X a ta):PE X (.UnaryOp .Not a pos) (zj1 ta):=by
 intro pins s σ H Q I h;refine UnaryOp_ (thn (ha pins s σ H _ I h) λv s1 ⟨x,H1,I1,r1,q1⟩=>?_);obtain⟨c,rfl,q1⟩:=q1;cases r1;exact not_of (K2u ⟨.bl (!c),H1,I1,rfl,q1⟩)
end
def SqL (K:K0) (H:Hp) (a:Addr) (xs:List V):Prop :=
 Rd H a (.lst xs) \/
  ∃(o:Obj) (its:Array Value) (n:Nat),K.lookup a=some o/\o.cls=.type "list"/\o.dict=none/\o.data=.seq its n/\its.size<=sizeLine/\Vals xs its.toList
def SqT (K:K0) (H:Hp) (a:Addr) (xs:List V):Prop :=
 Rd H a (.tup xs) \/
  ∃(o:Obj) (its:Array Value) (n:Nat),K.lookup a=some o/\(o.cls=.type "tuple"/\o.dict=none)/\o.data=.seq its n/\its.size<=sizeLine/\Vals xs its.toList
def absV:Value->Option V
 | .none=>some .non
 | .bool b=>some (.bl b)
 | .int i _=>some (.int i)
 | .str x _=>some (.str x)
 | .bytes b _=>some (.byt b)
 | .float b _=>some (.flt b)
 | .ref a=>some (.ref a)
 | .type n=>some (.ty n)
 | _=>none
theorem RelV.abs {x:V}{u:Value}(r:RelV x u):absV u=some x:=by
 cases x with
 | non=>cases r;rfl
 | bl _=>cases r;rfl
 | int _=>obtain⟨t,rfl⟩:=r;rfl
 | str _=>obtain⟨t,rfl⟩:=r;rfl
 | byt _=>obtain⟨t,rfl⟩:=r;rfl
 | flt _=>obtain⟨t,rfl⟩:=r;rfl
 | ref _=>cases r;rfl
 | ty _=>cases r;rfl
theorem RelV.inj {x y:V}{u:Value}(r:RelV x u) (q:RelV y u):x=y:=K0p (r.abs.symm.trans q.abs)
theorem Vals.inj:∀{xs ys:List V}{us:List Value},Vals xs us->Vals ys us->xs=ys
 | _,_,_,.nil,.nil=>rfl
 | _,_,_,.cons r t,.cons r' t'=>by rw[r.inj r',Vals.inj t t']
section
variable {X:Cx}{pins:List (Addr×Obj)}{σ:St}{H:Hp}{s:Shared}{a:Addr}{xs ys:List V}
theorem SqL.of {K:K0}(h:H a=.(l xs)):SqL K H a xs:=.inl (.inl h)
theorem SqT.of {K:K0}(h:H a=.(g xs)):SqT K H a xs:=.inl (.inl h)
theorem Inv.list (I:Inv X pins σ H s) (h:SqL X.K H a xs):∃its:List Value,Vals xs its/\PlainL s.heap a its.toArray/\xs.length<=sizeLine:=by
 rcases h with h|⟨o,its,n,hk,hc,hd,hs,hz,r⟩
 ·obtain⟨z,its,n,r,e⟩:=h.ok I.hok;exact⟨its,r,⟨_,n,e,rfl,rfl,rfl⟩,z⟩
 ·refine⟨its.toList,r,⟨o,n,I.kIn a o hk,hc,hd,by simpa using hs⟩,?_⟩;have e:=r.length;simp only[K20]at e;omega
theorem Inv.tuple (I:Inv X pins σ H s) (h:SqT X.K H a xs):∃its:List Value,Vals xs its/\IsTup s.heap a its.toArray/\xs.length<=sizeLine:=by
 rcases h with h|⟨o,its,n,hk,hc,hs,hz,r⟩
 ·obtain⟨z,its,r,p⟩:=h.ok I.hok;exact⟨its,r,p.tup,z⟩
 ·refine⟨its.toList,r,⟨o,I.kIn a o hk,hc.1,n,by simpa using hs⟩,?_⟩;have e:=r.length;simp only[K20]at e;omega
theorem Inv.list_inj (I:Inv X pins σ H s) (h:SqL X.K H a xs) (h':SqL X.K H a ys):xs=ys:=by
 obtain⟨its,r,⟨o,n,e,_,_,d⟩,_⟩:=I.list h;obtain⟨its',r',⟨o',n',e',_,_,d'⟩,_⟩:=I.list h';rw[e]at e';cases e';rw[d]at d';injection d' with d1 _
 have:its=its':=by simpa using congrArg K8c d1
 subst this;exact r.inj r'
theorem Inv.tuple_inj (I:Inv X pins σ H s) (h:SqT X.K H a xs) (h':SqT X.K H a ys):xs=ys:=by
 obtain⟨its,r,⟨o,e,_,n,d⟩,_⟩:=I.tuple h;obtain⟨its',r',⟨o',e',_,n',d'⟩,_⟩:=I.tuple h';rw[e]at e';cases e';rw[d]at d';injection d' with d1 _
 have:its=its':=by simpa using congrArg K8c d1
 subst this;exact r.inj r'
end
abbrev Cx.wish (X:Cx) (E:Value->Shared->Prop):Cx:={ X with xe:=E }
abbrev Cx.nox (X:Cx):Cx:=X.wish λ_ _=>False
theorem Cx.Ok.wish {X:Cx}(ok:X.Ok) (E:Value->Shared->Prop):(X.wish E).Ok :=
 ⟨ok.mod,ok.kind,ok.glob,ok.blt,ok.above,ok.inj,ok.has,ok.cab,ok.hd,ok.frames,ok.stk,ok.exf,ok.bs,ok.bsz,ok.noex,ok.exfs,ok.funs,ok.frf⟩
theorem Cx.Ok.unwish {X:Cx}{E:Value->Shared->Prop}(ok:(X.wish E).Ok):X.Ok :=
 ⟨ok.mod,ok.kind,ok.glob,ok.blt,ok.above,ok.inj,ok.has,ok.cab,ok.hd,ok.frames,ok.stk,ok.exf,ok.bs,ok.bsz,ok.noex,ok.exfs,ok.funs,ok.frf⟩
section
variable {X:Cx}{pins:List (Addr×Obj)}{σ:St}{H:Hp}{s:Shared}{E:Value->Shared->Prop}
theorem Inv.wish (I:Inv X pins σ H s) (E:Value->Shared->Prop):Inv (X.wish E) pins σ H s:=⟨I.ok.wish E,I.os,I.bare,I.base,I.loc,I.cell,I.free,I.freeC,I.pin,I.hok,I.len⟩
theorem Inv.unwish (I:Inv (X.wish E) pins σ H s):Inv X pins σ H s:=⟨I.ok.unwish,I.os,I.bare,I.base,I.loc,I.cell,I.free,I.freeC,I.pin,I.hok,I.len⟩
theorem SP.unwish {D:Ends}{f:Flow}{s':Shared}(h:SP (X.wish E) pins D f s'):SP X pins D f s':=by
 cases f with
 | next=>obtain⟨σ',H',I,q⟩:=h;exact⟨σ',H',I.unwish,q⟩
 | brk=>obtain⟨σ',H',I,q⟩:=h;exact⟨σ',H',I.unwish,q⟩
 | cont=>obtain⟨σ',H',I,q⟩:=h;exact⟨σ',H',I.unwish,q⟩
 | ret u=>obtain⟨v,σ',H',I,r,q⟩:=h;exact⟨v,σ',H',I.unwish,r,q⟩
theorem PE.nox {e:Expr}{t:TE}(h:PE X.nox e t):PE X e t:=λpins s σ H Q I hw =>
 K2x (h pins s σ H Q (I.wish _) hw) (λ_ _ ⟨v,H',I',r,q⟩=>⟨v,H',I'.unwish,r,q⟩) λ_ _ z=>K1y z
theorem PT.nox {e:Expr}{t:TT}(h:PT X.nox e t):PT X e t:=λpins s σ H Q I hw =>
 K2x (h pins s σ H Q (I.wish _) hw) (λ_ _ ⟨H',I',q⟩=>⟨H',I'.unwish,q⟩) λ_ _ z=>K1y z
theorem PSs.nox {st:List Stmt}{t:TS}(h:PSs X.nox st t):PSs X st t:=λpins s σ H D I hw =>
 K2x (h pins s σ H D (I.wish _) hw) (λ_ _ q=>q.unwish) λ_ _ z=>K1y z
end
section
variable {X:Cx}{st:Stmt}{rest:List Stmt}{t u:TS}{e:Expr}{te:TE}{pos:Pos}
def zk8:TS:=λD σ H=>D.nx σ H
def tSeq (t u:TS):TS:=λD σ H=>t { D with nx:=u D } σ H
theorem z8R:PSs X [] zk8:=λ_ _ σ H _ I h=>K70 ⟨σ,H,I,h⟩
theorem z6p (h1:PS X st t) (h2:PSs X rest u):PSs X (st::rest) (tSeq t u):=by
 intro pins s σ H D I h;refine wpAny_execs_cons (thn (h1 pins s σ H { D with nx:=u D } I h) λf s1 q=>?_);cases f with
 | next =>
  obtain⟨σ',H',I',q⟩:=q;exact h2 pins s1 σ' H' D I' q
 | ret v=>exact q
 | brk=>exact q
 | cont=>exact q
theorem Inv.quiet {pins:List (Addr×Obj)}{σ:St}{H:Hp}{s:Shared}(I:Inv X pins σ H s):interactive X.env=false:=by simp[interactive,I.ok.kind]
def zl1 (te:TE):TS:=λD σ H=>te σ H λ_ H1=>D.nx σ H1
theorem z8C (he:PE X e te) (hs:K1p e none pos.line X.env=pure false:=by rfl):PS X (.Expr e pos) (zl1 te):=by
 intro pins s σ H D I h;exact wpAny_Expr_any (thn (he pins s σ H _ I h) λv s1 ⟨x,H1,I1,r1,q1⟩=>⟨σ,H1,I1,q1⟩) I.quiet hs
def tRet (te:TE):TS:=λD σ H=>te σ H D.rt
theorem zb4 (he:PE X e te):PS X (.Return (some e) pos) (tRet te):=by
 intro pins s σ H D I h;exact wpAny_Return_some (thn (he pins s σ H _ I h) λv s1 ⟨x,H1,I1,r1,q1⟩=>⟨x,σ,H1,I1,r1,q1⟩)
def tIfS (c:TT) (t u:TS):TS:=λD σ H=>c σ H λb H1=>if b=true then t D σ H1 else u D σ H1
theorem zl8 {c:Expr}{a b:List Stmt}{tc:TT}(hc:PT X c tc) (ha:PSs X a t) (hb:PSs X b u):PS X (.If c a b pos) (tIfS tc t u):=by
 intro pins s σ H D I h;refine wpAny_If (thn (hc pins s σ H _ I h) λd s1 ⟨H1,I1,q1⟩=>?_);cases d with
 | true=>exact ha pins s1 σ H1 D I1 q1
 | false=>exact hb pins s1 σ H1 D I1 q1
end
abbrev TG:=V->St->Hp->(St->Hp->Prop)->Prop
abbrev TGs:=List V->St->Hp->(St->Hp->Prop)->Prop
def PG (X:Cx) (target:Expr) (t:TG):Prop :=
 ∀(pins:List (Addr×Obj)) (s:Shared) (σ:St) (H:Hp) (v:V) (u:Value) (Q:St->Hp->Prop),Inv X pins σ H s->RelV v u->t v σ H Q ->
  wpAny (model X.prog X.w) X.A (assign target X.env u) (λ_ s'=>∃σ' H',Inv X pins σ' H' s'/\Q σ' H') X.xe s
def PGs (X:Cx) (ts:List Expr) (t:TGs):Prop :=
 ∀(pins:List (Addr×Obj)) (s:Shared) (σ:St) (H:Hp) (vs:List V) (us:List Value) (Q:St->Hp->Prop),Inv X pins σ H s->Vals vs us->t vs σ H Q ->
  wpAny (model X.prog X.w) X.A (assignInOrder ((K2y ts X.env).map (·.2)) us) (λ_ s'=>∃σ' H',Inv X pins σ' H' s'/\Q σ' H') X.xe s
abbrev TSet:=V->V->V->Hp->(Hp->Prop)->Prop
def PSet (X:Cx) (t:TSet):Prop :=
 ∀(pins:List (Addr×Obj)) (s:Shared) (σ:St) (H:Hp) (o i v:V) (ov iv u:Value) (Q:Hp->Prop),Inv X pins σ H s->RelV o ov->RelV i iv->RelV v u->t o i v H Q ->
  wpAny (model X.prog X.w) X.A (K7m ov iv u) (λ_ s'=>∃H',Inv X pins σ H' s'/\Q H') X.xe s
section
variable {X:Cx}{pos:Pos}
def z9k (i:Nat):TG:=λv σ H Q=>Q (σ.set i (some v)) H
theorem z3s {i:Nat}{x:Str}(hN:X.N.Nodup) (hi:X.N[i]?=some x) (hx:Loc X.env.scope x) (hf:X.fn x=true\/X.env.scope.names.lookup x=some .local:=by first|exact .inl rfl|exact .inr rfl|assumption):PG X (.Name x pos) (z9k i):=by
 intro pins s σ H v u Q I r h;exact wpAny_assign_Name (z3K I hN hi hx r (λs' I'=>⟨_,H,I',h⟩) hf)
def gNil:TGs:=λvs σ H Q=>vs=[]/\Q σ H
def zl6 (t:TG) (u:TGs):TGs:=λvs σ H Q=>∃v r,vs=v::r/\t v σ H λσ' H'=>u r σ' H' Q
theorem z7Z:PGs X [] gNil:=by
 intro pins s σ H vs us Q I r h;obtain⟨e,h⟩:=h;subst e;cases r;exact assignInOrder_nil ⟨σ,H,I,h⟩
theorem z6a {e:Expr}{es:List Expr}{t:TG}{u:TGs}(h1:PG X e t) (h2:PGs X es u)
 (hs:(K2y (e::es) X.env).map (·.2)=assign e X.env::(K2y es X.env).map (·.2):=by rfl):PGs X (e::es) (zl6 t u):=by
 intro pins s σ H vs us Q I r h;obtain⟨v,vr,e1,h⟩:=h;subst e1;cases r with
 | cons r rr =>
  rw[hs];refine assignInOrder_cons (thn (h1 pins s σ H _ _ _ I r h) λ_ s1 ⟨σ1,H1,I1,q1⟩=>?_);exact h2 pins s1 σ1 H1 _ _ Q I1 rr q1
def gTup (K:K0) (n:Nat) (t:TGs):TG:=λv σ H Q=>∃a xs,v=.ref a/\SqT K H a xs/\xs.length=n/\t xs σ H Q
theorem zf2 {es:List Expr}{k:Nat}{t:TGs}{n:Nat}(hc:X.calm=true) (h:PGs X es t)
 (hn:(K2y es X.env).length=n:=by rfl) (hst:(K2y es X.env).findIdx? (·.1)=none:=by rfl):PG X (.Tuple es k pos) (gTup X.K n t):=by
 intro pins s σ H v u Q I r hw;obtain⟨a,xs,e1,hq,hl,hw⟩:=hw;subst e1;cases r;obtain⟨its,rv,ht,hz⟩:=I.tuple hq;refine assign_Tuple_tuple (I.ok.hd hc) ht (by simp[hn,<- hl,rv.length]) hst λh' hx=>?_;have I1:Inv X pins σ H { s with heap:=h' }:=I.kept (t':=s.toks) λb o e=>hx b o (K0q (K09 e)) e;exact h pins _ σ H xs _ Q I1 (by simpa using rv) hw
def gSub (to ti:TE) (t:TSet):TG:=λv σ H Q=>to σ H λo H1=>ti σ H1 λi H2=>t o i v H2 λH3=>Q σ H3
theorem z7j {o i:Expr}{to ti:TE}{t:TSet}(ho:PE X o to) (hi:PE X i ti) (hs:PSet X t)
 (ha:∀v,assign (.Subscript o i pos) X.env v=(do
  let ov <- K31 [v] (eval o X.env);let iv <- K31 [v,ov] (eval i X.env)
  K4k pos
  K31 [v,ov,iv] (K7m ov iv v)
  release [v,ov,iv] []):=by intro _;rfl):PG X (.Subscript o i pos) (gSub to ti t):=by
 intro pins s σ H v u Q I r h;rw[ha];refine K2 (K2j (thn (ho pins s σ H _ I h) λov s1 ⟨x,H1,I1,r1,q1⟩=>?_));refine K2 (K2j (thn (hi pins s1 σ H1 _ I1 q1) λiv s2 ⟨y,H2,I2,r2,q2⟩=>?_));refine K2 (K3u (K2 (K2j (thn (hs pins s2 σ H2 x y v ov iv u _ I2 r1 r2 r q2) λ_ s3 ⟨H3,I3,q3⟩=>?_))));exact wpAny_release ⟨σ,H3,I3,q3⟩
def tAsg (te:TE) (g:TG):TS:=λD σ H=>te σ H λx H1=>g x σ H1 D.nx
theorem zc8 {tg e:Expr}{te:TE}{g:TG}(he:PE X e te) (hg:PG X tg g) (hs:swapsWithSole [tg] e pos.line X.env=pure false:=by rfl) (hw:swappedStores [tg] e X.env=pure none:=by rfl)
 (h1:(K2y [tg] X.env).map (·.2)=[assign tg X.env]:=by rfl):PS X (.Assign [tg] e pos) (tAsg te g):=by
 intro pins s σ H D I h;refine wpAny_Assign_stores (thn (he pins s σ H _ I h) λv s1 ⟨x,H1,I1,r1,q1⟩=>?_) hs hw;rw[h1];exact thn (hg pins s1 σ H1 x v _ I1 r1 q1) λ_ s2 q=>q
theorem zg6 {i:Nat}{x:Str}{e:Expr}{te:TE}{pos':Pos}(hN:X.N.Nodup) (hi:X.N[i]?=some x) (hx:Loc X.env.scope x) (he:PE X e te) (hs:K1p e (some (.Name x pos')) pos.line X.env=pure false:=by rfl) (hf:X.fn x=true\/X.env.scope.names.lookup x=some .local:=by first|exact .inl rfl|exact .inr rfl|assumption) :
 PS X (.Assign [.Name x pos'] e pos) (tAsg te (z9k i)):=by
 intro pins s σ H D I h;refine wpAny_Assign_Name (thn (he pins s σ H _ I h) λv s1 ⟨y,H1,I1,r1,q1⟩=>?_) hs;exact z3K I1 hN hi hx r1 (λs2 I2=>⟨_,H1,I2,q1⟩) hf
end
section
variable {X:Cx}{pos:Pos}
def z9M (c:TT) (tb:TS):TS:=λD σ H=>∃W:Nat->St->Hp->Prop,(∃m,W m σ H)/\∀m σ H,W m σ H ->
 c σ H λb H1=>if b=true then ∃N:St->Hp->Prop,(∀σ' H',N σ' H'->∃m',m'<m/\W m' σ' H')/\tb { D with nx:=N,ct:=N,bk:=D.nx } σ H1 else D.nx σ H1
theorem z6o {c:Expr}{body:List Stmt}{tc:TT}{tb:TS}(hp:K8t (model X.prog X.w) X.A X.env X.xe) (hc:PT X c tc) (hb:PSs X body tb):PS X (.While c body [] pos) (z9M tc tb):=by
 intro pins s σ H D I h;obtain⟨W,⟨m0,w0⟩,turn⟩:=h;refine wpAny_While (codeAny_whileLoop (λn s'=>∃σ' H',Inv X pins σ' H' s'/\W n σ' H') ?_ m0 ⟨σ,H,I,w0⟩);rintro n s1 ⟨σ1,H1,I1,w1⟩;refine K2o hp (thn (hc pins s1 σ1 H1 _ I1 (turn n σ1 H1 w1)) λb s2 ⟨H2,I2,q2⟩=>?_);cases b with
 | true =>
  obtain⟨N,hN,q2⟩:=q2;rw[if_pos rfl];refine K2o hp (thn (hb pins s2 σ1 H2 _ I2 q2) λf s3 q3=>?_);cases f with
  | next =>
   obtain⟨σ3,H3,I3,n3⟩:=q3;obtain⟨m',hm,w3⟩:=hN σ3 H3 n3;exact⟨m',hm,σ3,H3,I3,w3⟩
  | cont =>
   obtain⟨σ3,H3,I3,n3⟩:=q3;obtain⟨m',hm,w3⟩:=hN σ3 H3 n3;exact⟨m',hm,σ3,H3,I3,w3⟩
  | brk=>exact q3
  | ret v=>exact q3
 | false =>
  rw[if_neg K0g];exact K70 ⟨σ1,H2,I2,q2⟩
end
structure It where
 go:Nat->Hp->Prop
 yld:Nat->Hp->V->Hp->Prop
 stop:Nat->Hp->Prop
def FpOk (X:Cx) (pins:List (Addr×Obj)) (H:Hp) (b:Addr):Prop :=
 H b=none/\b≠X.env.locals/\b∉X.fs/\(b∈X.ex\/X.s₀.heap.objs.size<=b)/\(∀x c,X.env.cells.lookup x=some c->c≠b)/\∀p∈X.pn++pins,p.1≠b
theorem Inv.fpOk {X:Cx}{pins:List (Addr×Obj)}{σ:St}{H H':Hp}{s:Shared}{b:Addr}(I:Inv X pins σ H s) (hb:s.heap.objs.size<=b) (hn:H' b=none):FpOk X pins H' b:=by
 refine⟨hn,K3l (K0i I.lt hb),I.nofs hb,.inr (K0h I.sz hb),λx c e z=>?_,λp hp z=>?_⟩
 ·obtain⟨v,q⟩:=I.cell x c e;exact absurd (K0i q.lt (by rw[z];exact hb)) (K2i _)
 ·exact absurd (K0i (K09 (I.pin p hp).1) (by rw[z];exact hb)) (K2i _)
structure Turn (P:K0a) (w:World) (K:K0) (tg:Expr) (J:It) (fp:List Addr) (it:Addr) (tn:Nat->Heap->Prop):Prop where
 mem:it∈fp
 obj:∀i h,tn i h->∀b∈fp,∃o,h.get? b=some o/\∀v,o.data≠.cell v
 keep:∀i h h',tn i h->(∀b∈fp,∀o,h.get? b=some o->h'.get? b=some o)->tn i h'
 item:∀(X:Cx),X.prog=P->X.w=w->X.K=K->X.calm=true->∀(i:Nat) (pins:List (Addr×Obj)) (s:Shared) (σ:St) (H:Hp) (E:Value->Shared->Prop),Inv X pins σ H s->(∀b∈fp,FpOk X pins H b)->tn i s.heap->J.go i H ->
  wpAny (model P w) X.A (pyNext (.ref it)) (λr s1=>∃u,r=some u /\
   wpAny (model P w) X.A (K4z tg (.ref it) u) (λ_ s2=>∃x H',Inv X pins σ H' s2/\RelV x u/\J.yld i H x H'/\tn (i+1) s2.heap/\∀b∈fp,H' b=none) E s1) E s
 done:∀(X:Cx),X.prog=P->X.w=w->X.K=K->X.calm=true->∀(i:Nat) (pins:List (Addr×Obj)) (s:Shared) (σ:St) (H:Hp) (E:Value->Shared->Prop),Inv X pins σ H s->(∀b∈fp,FpOk X pins H b)->tn i s.heap->J.stop i H ->
  wpAny (model P w) X.A (pyNext (.ref it)) (λr s1=>r=none/\Inv X pins σ H s1) E s
 self:∀(A:Around) (i:Nat) (s:Shared) (Q:Value->Shared->Prop) (E:Value->Shared->Prop),tn i s.heap->Q (.ref it) s->wpAny (model P w) A (pyIter (.ref it)) Q E s
abbrev TI:=St->Hp->(It->Hp->Prop)->Prop
def PIE (X:Cx) (pins:List (Addr×Obj)) (σ:St) (tg:Expr) (R:It->Hp->Prop) (itv:Value) (s2:Shared):Prop :=
 ∃(it:Addr) (fp:List Addr) (tn:Nat->Heap->Prop) (J:It) (H':Hp),itv=.ref it/\Inv X pins σ H' s2/\Turn X.prog X.w X.K tg J fp it tn/\tn 0 s2.heap/\(∀b∈fp,FpOk X pins H' b)/\R J H'
def PI (X:Cx) (tg iter:Expr) (wi:TI):Prop :=
 ∀(pins:List (Addr×Obj)) (s:Shared) (σ:St) (H:Hp) (R:It->Hp->Prop),Inv X pins σ H s->wi σ H R ->
  wpAny (model X.prog X.w) X.A (eval iter X.env) (λv s1=>wpAny (model X.prog X.w) X.A (pyIter v) (PIE X pins σ tg R) X.xe s1) X.xe s
theorem z8Z {M:Model}{A:Around}{E:Value->Shared->Prop}{s:Shared}{tg:Expr}{it:Addr}{u:Value}{o:Obj}{n:String}{vs:Array Value}{Q:Unit->Shared->Prop}(ho:s.heap.get? it=some o) (hc:o.cls=.type n) (hd:o.data=.fields vs)
 (hn:["enumerate","zip","dict_itemiterator","dict_reverseitemiterator","odict_iterator","itertools.zip_longest","itertools.pairwise"].contains n=false) (hQ:Q () s):wpAny M A (K4z tg (.ref it) u) Q E s:=by
 unfold K4z;cases tg<;>first
  | exact K04 hQ
  | (cases u<;>first
      | exact K04 hQ
      | (refine K2 (wpAny_load ho ?_)
         rw[hc,hd];show wpAny M A (if (["enumerate","zip","dict_itemiterator","dict_reverseitemiterator","odict_iterator","itertools.zip_longest","itertools.pairwise"].contains n&&vs[0]?==some (rawInt _))=true then _ else _) Q E s;rw[if_neg (by intro h;rw[hn,K94]at h;cases h)];exact K04 hQ))
def Itl (K:K0) (a:Addr):It :=
 ⟨λi H=>∃xs x,SqL K H a xs/\xs[i]?=some x,λi H x H'=>H'=H/\∀xs,SqL K H a xs->xs[i]?=some x,λi H=>∃xs,SqL K H a xs/\xs.length<=i⟩
def Itt (K:K0) (a:Addr):It :=
 ⟨λi H=>∃xs x,SqT K H a xs/\xs[i]?=some x,λi H x H'=>H'=H/\∀xs,SqT K H a xs->xs[i]?=some x,λi H=>∃xs,SqT K H a xs/\xs.length<=i⟩
def Itr (lo:Int) (n:Nat):It:=⟨λi _=>i<n,λi H x H'=>H'=H/\x=.int (lo+i),λi _=>n<=i⟩
theorem z5w {P:K0a}{w:World}{K:K0}{tg:Expr}(a it:Addr):Turn P w K tg (Itl K a) [it] it (λi h=>h.IsListIter it a i) where
 mem:=by simp
 obj:=λi h st b hb=>by
  have e:b=it:=by simpa using hb
  subst e;obtain⟨o,e,c,d⟩:=st;exact⟨o,e,λv z=>by rw[d]at z;cases z⟩
 keep:=λi h h' st k=>st.at λo e=>k it (by simp) o e
 item:=by
  intro X hP hw hK hc i pins s σ H E I hf st hg;subst hP hw hK;obtain⟨xs,x,hq,hx⟩:=hg;obtain⟨its,rv,p,hz⟩:=I.list hq;obtain⟨u,hu,ru⟩:=rv.get hx;obtain⟨f0,f1,f2,f3,f4,f5⟩:=hf it (by simp);refine wpAny_pyNext_list_item st p.isList (x:=u) (by simpa using hu) λh' st' sb=>?_;have I1:Inv X pins σ H { s with heap:=h' }:=I.turned (t':=s.toks) (λb o hb e=>(sb.2 b hb).trans e) f0 f1 f3 f4 f5;obtain⟨o,e,c,d⟩:=id st';exact⟨u,rfl,z8Z (s:={ s with heap:=h' }) e c d (by decide) ⟨x,H,I1,ru,⟨rfl,λys hy=>by rw[I.list_inj hy hq];exact hx⟩,st',λb hb=>(hf b hb).1⟩⟩
 done:=by
  intro X hP hw hK hc i pins s σ H E I hf st hg;subst hP hw hK;obtain⟨xs,hq,hx⟩:=hg;obtain⟨its,rv,p,hz⟩:=I.list hq;obtain⟨f0,f1,f2,f3,f4,f5⟩:=hf it (by simp);have hl:=rv.length;exact wpAny_pyNext_list_end (I.ok.hd hc) st p.isList (by simp;omega) λh' eb=>⟨rfl,I.turned (t':=s.toks) (λb o hb e=>eb b o hb e) f0 f1 f3 f4 f5⟩
 self:=λ_ _ _ _ _ st h=>wpAny_pyIter_listiter st h
theorem z4f {P:K0a}{w:World}{K:K0}{tg:Expr}(a it:Addr):Turn P w K tg (Itt K a) [it] it (λi h=>h.IsTupleIter it a i) where
 mem:=by simp
 obj:=λi h st b hb=>by
  have e:b=it:=by simpa using hb
  subst e;obtain⟨o,e,c,d⟩:=st;exact⟨o,e,λv z=>by rw[d]at z;cases z⟩
 keep:=λi h h' st k=>st.at λo e=>k it (by simp) o e
 item:=by
  intro X hP hw hK hc i pins s σ H E I hf st hg;subst hP hw hK;obtain⟨xs,x,hq,hx⟩:=hg;obtain⟨its,rv,p,hz⟩:=I.tuple hq;obtain⟨u,hu,ru⟩:=rv.get hx;obtain⟨f0,f1,f2,f3,f4,f5⟩:=hf it (by simp);refine wpAny_pyNext_tuple_item st (show s.heap.IsTuple a its.toArray from p) (x:=u) (by simpa using hu) λh' st' sb=>?_;have I1:Inv X pins σ H { s with heap:=h' }:=I.turned (t':=s.toks) (λb o hb e=>(sb.2 b hb).trans e) f0 f1 f3 f4 f5;obtain⟨o,e,c,d⟩:=id st';exact⟨u,rfl,z8Z (s:={ s with heap:=h' }) e c d (by decide) ⟨x,H,I1,ru,⟨rfl,λys hy=>by rw[I.tuple_inj hy hq];exact hx⟩,st',λb hb=>(hf b hb).1⟩⟩
 done:=by
  intro X hP hw hK hc i pins s σ H E I hf st hg;subst hP hw hK;obtain⟨xs,hq,hx⟩:=hg;obtain⟨its,rv,p,hz⟩:=I.tuple hq;obtain⟨f0,f1,f2,f3,f4,f5⟩:=hf it (by simp);have hl:=rv.length;exact wpAny_pyNext_tuple_end (I.ok.hd hc) st (show s.heap.IsTuple a its.toArray from p) (by simp;omega) λh' eb=>⟨rfl,I.turned (t':=s.toks) (λb o hb e=>eb b o hb e) f0 f1 f3 f4 f5⟩
 self:=λ_ _ _ _ _ st h=>wpAny_pyIter_tupleiter st h
theorem z4n {P:K0a}{w:World}{K:K0}{tg:Expr}(it:Addr) (lo:Int) (n:Nat):Turn P w K tg (Itr lo n) [it] it (λi h=>IsRangeIter h it (lo+(i:Nat) * 1) ((n:Int) - (i:Nat)) 1) where
 mem:=by simp
 obj:=λi h st b hb=>by
  have e:b=it:=by simpa using hb
  subst e;exact⟨_,st,λv z=>by
   have z':Data.fields _=Data.cell v:=z;cases z'⟩
 keep:=λi h h' st k=>k it (by simp) _ st
 item:=by
  intro X hP hw hK hc i pins s σ H E I hf st hg;subst hP hw hK;obtain⟨f0,f1,f2,f3,f4,f5⟩:=hf it (by simp);have W:=Walks.range (prog:=X.prog) (w:=X.w) (I.ok.hd hc) it lo 1 n;refine W.item i s _ _ hg st λv h' tk hv st' kk=>?_;obtain⟨t,rfl⟩:=hv;have I1:Inv X pins σ H { s with heap:=h',toks:=tk }:=I.turned (λb o hb e=>kk b o (by simpa using hb) e) f0 f1 f3 f4 f5;refine⟨_,rfl,z8Z (s:={ s with heap:=h',toks:=tk }) (n:="range_iterator") st' rfl rfl (by decide) ⟨.int (lo+i),H,I1,⟨t,?_⟩,⟨rfl,rfl⟩,st',λb hb=>(hf b hb).1⟩⟩;rw[Int.mul_one]
 done:=by
  intro X hP hw hK hc i pins s σ H E I hf st hg;subst hP hw hK;obtain⟨f0,f1,f2,f3,f4,f5⟩:=hf it (by simp);exact wpAny_pyNext_range_end (I.ok.hd hc) st (by have:n<=i:=hg;omega) λh' eb=>⟨rfl,I.turned (t':=s.toks) (λb o hb e=>eb b o hb e) f0 f1 f3 f4 f5⟩
 self:=λ_ _ _ _ _ st h=>wpAny_pyIter_rangeiter st h
section
variable {X:Cx}{tg:Expr}
def zh5 (K:K0) (tl:TE):TI:=λσ H R=>tl σ H λx H1=>∃a,x=.ref a/\(∃xs,SqL K H1 a xs)/\R (Itl K a) H1
def iTup (K:K0) (tl:TE):TI:=λσ H R=>tl σ H λx H1=>∃a,x=.ref a/\(∃xs,SqT K H1 a xs)/\R (Itt K a) H1
theorem z8D {l:Expr}{tl:TE}(hl:PE X l tl):PI X tg l (zh5 X.K tl):=by
 intro pins s σ H R I h;refine thn (hl pins s σ H _ I h) λv s1 ⟨x,H1,I1,r1,q1⟩=>?_;obtain⟨a,e,⟨xs,hq⟩,q⟩:=q1;subst e;cases r1;obtain⟨its,rv,p,hz⟩:=I1.list hq;refine K62 p.isList ?_;refine⟨s1.heap.objs.size,[s1.heap.objs.size],_,_,H1,rfl,I1.kept (t':=s1.toks) λb o e=>K8 _ e,z5w a _,⟨_,K0l _ rfl,rfl,rfl⟩,λb hb=>?_,q⟩;have e:b=s1.heap.objs.size:=by simpa using hb
 subst e;exact I1.fpOk (K08 _) (I1.hok.fresh (K08 _))
theorem zg8 {l:Expr}{tl:TE}(hl:PE X l tl):PI X tg l (iTup X.K tl):=by
 intro pins s σ H R I h;refine thn (hl pins s σ H _ I h) λv s1 ⟨x,H1,I1,r1,q1⟩=>?_;obtain⟨a,e,⟨xs,hq⟩,q⟩:=q1;subst e;cases r1;obtain⟨its,rv,p,hz⟩:=I1.tuple hq;refine K40 (show s1.heap.IsTuple a its.toArray from p) ?_;refine⟨s1.heap.objs.size,[s1.heap.objs.size],_,_,H1,rfl,I1.kept (t':=s1.toks) λb o e=>K8 _ e,z4f a _,⟨_,K0l _ rfl,rfl,rfl⟩,λb hb=>?_,q⟩;have e:b=s1.heap.objs.size:=by simpa using hb
 subst e;exact I1.fpOk (K08 _) (I1.hok.fresh (K08 _))
theorem z6m {pins:List (Addr×Obj)}{σ:St}{H:Hp}{s:Shared}{R:It->Hp->Prop}{E:Value->Shared->Prop}{lo hi:Int}{t u v:Tok}{tk:Nat}(I:Inv X pins σ H s) (h1:-(2 ^ 62)<=lo) (h2:lo<2 ^ 62) (h3:-(2 ^ 62)<=hi) (h4:hi<2 ^ 62)
 (q:R (Itr lo (hi - lo).toNat) H):wpAny (model X.prog X.w) X.A (pyIter (.ref s.heap.objs.size)) (PIE X pins σ tg R) E { s with heap:=s.heap.push { cls:=.type "range",data:=.fields #[.int lo t,.int hi u,.int 1 v] },toks:=tk }:=by
 refine wpAny_pyIter_range (IsRange.new ..) (small_one h1 h2 h3 h4) ?_;have I1:Inv X pins σ H { s with heap:=s.heap.push { cls:=.type "range",data:=.fields #[.int lo t,.int hi u,.int 1 v] },toks:=tk }:=I.kept λb o e=>K8 _ e;refine⟨(s.heap.push { cls:=.type "range",data:=.fields #[.int lo t,.int hi u,.int 1 v] }).objs.size,[(s.heap.push { cls:=.type "range",data:=.fields #[.int lo t,.int hi u,.int 1 v] }).objs.size],_,_,H,rfl,
  I1.kept (t':=tk) λb o e=>K8 _ e,z4n _ lo (hi - lo).toNat,?_,λb hb=>?_,q⟩
 ·have e1:lo+((0:Nat):Int) * 1=lo:=by simp
  have e2:(((hi - lo).toNat:Nat):Int) - ((0:Nat):Int)=Builtin.Range.rangeSize lo hi 1:=by rw[rangeSize_one];split<;>omega
  show IsRangeIter _ _ (lo+((0:Nat):Int) * 1) ((((hi - lo).toNat:Nat):Int) - ((0:Nat):Int)) 1;rw[e1,e2];exact K0l _ rfl
 ·have e:b=(s.heap.push { cls:=.type "range",data:=.fields #[.int lo t,.int hi u,.int 1 v] }).objs.size:=by simpa using hb
  subst e;exact I1.fpOk (K08 _) (I1.hok.fresh (K08 _))
def zj6 (ta:TA):TI:=λσ H R=>ta σ H λvs H1=>∃j:Int,vs=[.int j]/\-(2 ^ 62)<=j/\j<2 ^ 62/\R (Itr 0 j.toNat) H1
theorem z4J {a:Expr}{ta:TA}{p pos:Pos}(hg:Gl X "range") (hm:X.mg "range" = none) (ha:PA X [a] ta) (hs:K07 [a] X.env=[(false,eval a X.env)]:=by rfl):PI X tg (.Call (.Name "range" p) [a] [] pos) (zj6 ta):=by
 intro pins s σ H R I h;refine Call_ (z39 I hg hm boot_range (K3e (thn (ha pos pins s σ H _ I h) λus s1 ⟨vs,H1,I1,r1,q1⟩=>?_) hs rfl));obtain⟨j,e,q1,q2,q⟩:=q1;subst e;cases r1 with
 | cons r rr =>
  cases rr;obtain⟨t,rfl⟩:=r;exact call_range_1 (z6m I1 (by omega) (by omega) q1 q2 (by simpa using q))
def tFor (wi:TI) (g:TG) (tb:TS):TS:=λD σ H=>wi σ H λJ H1=>∃W:Nat->Nat->St->Hp->Prop,(∃m,W 0 m σ H1)/\∀i m σ H,W i m σ H ->
 (J.stop i H/\D.nx σ H)\/(J.go i H/\∃N:St->Hp->Prop,(∀σ' H',N σ' H'->∃m',m'<m/\W (i+1) m' σ' H')/\∀x H',J.yld i H x H'->g x σ H' λσ2 H2=>tb { D with nx:=N,ct:=N,bk:=D.nx } σ2 H2)
def z2O (fp:List Addr) (h:Heap):List (Addr×Obj):=fp.filterMap λb=>(h.get? b).map λo=>(b,o)
theorem z0O {fp:List Addr}{h:Heap}{b:Addr}{o:Obj}(hb:b∈fp) (e:h.get? b=some o):(b,o)∈z2O fp h:=List.mem_filterMap.mpr ⟨b,hb,by rw[e];rfl⟩
theorem z5j {fp:List Addr}{h:Heap}{p:Addr×Obj}(hp:p∈z2O fp h):p.1∈fp/\h.get? p.1=some p.2:=by
 obtain⟨b,hb,e⟩:=List.mem_filterMap.mp hp;cases q:h.get? b with
 | none=>rw[q]at e;cases e
 | some o =>
  rw[q]at e;have e':(b,o)=p:=K0p e;subst e';exact⟨hb,q⟩
theorem Inv.pinned {pins:List (Addr×Obj)}{σ:St}{H:Hp}{s:Shared}{fp:List Addr}(I:Inv X pins σ H s) (hf:∀b∈fp,FpOk X pins H b) (ho:∀b∈fp,∃o,s.heap.get? b=some o/\∀v,o.data≠.cell v):Inv X (pins++z2O fp s.heap) σ H s :=
 I.pins_of λp hp=>(K0f.mp hp).elim (λz=>I.pin p (K0m _ z)) λz=>by
  obtain⟨hb,e⟩:=z5j z;obtain⟨f0,f1,f2,_⟩:=hf p.1 hb;obtain⟨o,e',d⟩:=ho p.1 hb;rw[e]at e';cases e';exact⟨e,f0,f1,f2,d⟩
theorem Inv.unpinned {pins pl:List (Addr×Obj)}{σ:St}{H:Hp}{s:Shared}(I:Inv X (pins++pl) σ H s):Inv X pins σ H s:=I.pins_of λp hp=>I.pin p (K0m _ (K1t _ hp))
theorem zf7 {iter:Expr}{body:List Stmt}{wi:TI}{g:TG}{tb:TS}{pos:Pos}(hp:K8t (model X.prog X.w) X.A X.env X.xe) (hc:X.calm=true) (hi:PI X tg iter wi) (hg:PG X tg g) (hb:PSs X body tb)
 (hs:∀x,K1o iter X.env x=pure x:=by intro _;rfl):PS X (.For tg iter body [] pos) (tFor wi g tb):=by
 intro pins s σ H D I h;refine wpAny_For (thn (hi pins s σ H _ I h) λv s1 h1=>thn h1 λitv s2 h2=>?_) hs;obtain⟨it,fp,tn,J,H2,e,I2,T,st2,f2,W,⟨m0,w0⟩,turn⟩:=h2;subst e;have stat:∀{H':Hp},(∀b∈fp,H' b=none)->∀b∈fp,FpOk X pins H' b:=λhn b hb=>⟨hn b hb,(f2 b hb).2⟩;refine codeAny_forLoop_any (λn s'=>∃i σ' H',Inv X pins σ' H' s'/\tn i s'.heap/\(∀b∈fp,H' b=none)/\W i n σ' H') ?_ m0 ⟨0,σ,H2,I2,st2,λb hb=>(f2 b hb).1,w0⟩;rintro n s3 ⟨i,σ3,H3,I3,st3,fr3,w3⟩;rcases turn i n σ3 H3 w3 with ⟨stop,qn⟩|⟨go,N,hN,step⟩
 ·refine K2o hp (thn (T.done X rfl rfl rfl hc i pins s3 σ3 H3 X.xe I3 (stat fr3) st3 stop) λr s4 ⟨hr,I4⟩=>?_);subst hr;exact K70 ⟨σ3,H3,I4,qn⟩
 ·refine K2o hp (thn (T.item X rfl rfl rfl hc i pins s3 σ3 H3 X.xe I3 (stat fr3) st3 go) λr s4 ⟨u,hr,h4⟩=>?_);subst hr;refine K2o hp (thn h4 λ_ s5 ⟨x,H5,I5,r5,y5,st5,fr5⟩=>?_);have I5':=I5.pinned (stat fr5) (T.obj _ _ st5);refine K2o hp (thn (hg _ s5 σ3 H5 x u _ I5' r5 (step x H5 y5)) λ_ s6 ⟨σ6,H6,I6,q6⟩=>?_);refine K2o hp (thn (hb _ s6 σ6 H6 _ I6 q6) λf s7 q7=>?_);have again:∀{σ7:St} {H7:Hp},Inv X (pins++z2O fp s5.heap) σ7 H7 s7->N σ7 H7->∃m,m<n/\∃i σ' H',Inv X pins σ' H' s7/\tn i s7.heap/\(∀b∈fp,H' b=none)/\W i m σ' H':=λ{σ7 H7} I7 n7=>by
   obtain⟨m',hm,w7⟩:=hN σ7 H7 n7;refine⟨m',hm,i+1,σ7,H7,I7.unpinned,T.keep _ _ _ st5 λb hb o e=>(I7.pin (b,o) (K0m _ (K0m _ (z0O hb e)))).1,λb hb=>?_,w7⟩;obtain⟨o,e,d⟩:=T.obj _ _ st5 b hb;exact(I7.pin (b,o) (K0m _ (K0m _ (z0O hb e)))).2.1
  cases f with
  | next=>obtain⟨σ7,H7,I7,n7⟩:=q7;exact again I7 n7
  | cont=>obtain⟨σ7,H7,I7,n7⟩:=q7;exact again I7 n7
  | brk=>obtain⟨σ7,H7,I7,q7⟩:=q7;exact⟨σ7,H7,I7.unpinned,q7⟩
  | ret v=>obtain⟨x7,σ7,H7,I7,r7,q7⟩:=q7;exact⟨x7,σ7,H7,I7.unpinned,r7,q7⟩
end
theorem z03 {lo:Int}{n:Nat}{g:TG}{tb:TS}{D:Ends}{σ:St}{H:Hp}(Pv:Nat->St->Hp->Prop) (h0:Pv 0 σ H)
 (hs:∀i σ H,i<n->Pv i σ H->g (.int (lo+i)) σ H λσ2 H2=>tb { D with nx:=Pv (i+1),ct:=Pv (i+1),bk:=D.nx } σ2 H2) (hd:∀σ H,Pv n σ H->D.nx σ H) :
 ∃W:Nat->Nat->St->Hp->Prop,(∃m,W 0 m σ H)/\∀i m σ H,W i m σ H ->
  ((Itr lo n).stop i H/\D.nx σ H)\/((Itr lo n).go i H/\∃N:St->Hp->Prop,(∀σ' H',N σ' H'->∃m',m'<m/\W (i+1) m' σ' H')/\∀x H',(Itr lo n).yld i H x H'->g x σ H' λσ2 H2=>tb { D with nx:=N,ct:=N,bk:=D.nx } σ2 H2):=by
 refine⟨λi m σ H=>m=n - i/\i<=n/\Pv i σ H,⟨n,by simp,K3g _,h0⟩,?_⟩;rintro i m σ H ⟨rfl,hi,p⟩;by_cases hlt:i<n
 ·refine .inr ⟨hlt,Pv (i+1),λσ' H' p'=>⟨n - (i+1),by omega,rfl,hlt,p'⟩,λx H' y=>?_⟩;obtain⟨e,y⟩:=y;subst e y;exact hs i σ _ hlt p
 ·have e:i=n:=by omega
  subst e;exact .inl ⟨K08 _,hd σ H p⟩
abbrev R2:=V->V->Hp->VK->Prop
def OpR (X:Cx) (f:Value->Value->Sem Value) (r:R2):Prop :=
 ∀(pins:List (Addr×Obj)) (s:Shared) (σ:St) (H:Hp) (x y:V) (v u:Value) (Q:VK),Inv X pins σ H s->RelV x v->RelV y u->r x y H Q ->
  wpAny (model X.prog X.w) X.A (f v u) (EP X pins σ Q) X.xe s
def UnR (X:Cx) (f:Value->Sem Value) (r:V->Hp->VK->Prop):Prop :=
 ∀(pins:List (Addr×Obj)) (s:Shared) (σ:St) (H:Hp) (x:V) (v:Value) (Q:VK),Inv X pins σ H s->RelV x v->r x H Q ->
  wpAny (model X.prog X.w) X.A (f v) (EP X pins σ Q) X.xe s
def CallR (X:Cx) (f:Value) (r:List V->Hp->VK->Prop):Prop :=
 ∀(pins:List (Addr×Obj)) (s:Shared) (σ:St) (H:Hp) (xs:List V) (us:List Value) (Q:VK),Inv X pins σ H s->Vals xs us->r xs H Q ->
  wpAny (model X.prog X.w) X.A (call f us) (EP X pins σ Q) X.xe s
def TruR (X:Cx) (r:V->Hp->(Bool->Hp->Prop)->Prop):Prop :=
 ∀(pins:List (Addr×Obj)) (s:Shared) (σ:St) (H:Hp) (x:V) (v:Value) (Q:Bool->Hp->Prop),Inv X pins σ H s->RelV x v->r x H Q ->
  wpAny (model X.prog X.w) X.A (truthy v) (TP X pins σ Q) X.xe s
def tOp (r:R2) (ta tb:TE):TE:=λσ H Q=>ta σ H λx H1=>tb σ H1 λy H2=>r x y H2 Q
def tUn (r:V->Hp->VK->Prop) (ta:TE):TE:=λσ H Q=>ta σ H λx H1=>r x H1 Q
def rI (C:Int->Int->Prop) (g:Int->Int->V):R2:=λx y H Q=>∃i j,x=.int i/\y=.int j/\C i j/\Q (g i j) H
def rI0 (g:Int->Int->V):R2:=λx y H Q=>∃i j,x=.int i/\y=.int j/\Q (g i j) H
def rU (g:Int->V):V->Hp->VK->Prop:=λx H Q=>∃i,x=.int i/\Q (g i) H
section
variable {X:Cx}{a b c:Expr}{ta tb tc:TE}{pos:Pos}
theorem binT (ha:PE X a ta) (hb:PE X b tb) {pins:List (Addr×Obj)}{s:Shared}{σ:St}{H:Hp}{R:V->V->Hp->Prop}(I:Inv X pins σ H s)
 (h:ta σ H λx H1=>tb σ H1 λy H2=>R x y H2) {Q:Value->Shared->Prop} {f:Value->Value->Sem Value}
 (hf:∀v u s2 x y H2,Inv X pins σ H2 s2->RelV x v->RelV y u->R x y H2->wpAny (model X.prog X.w) X.A (f v u) Q X.xe s2) :
 wpAny (model X.prog X.w) X.A (eval a X.env) (λv s₁=>wpAny (model X.prog X.w) X.A (eval b X.env) (λu s₂=>wpAny (model X.prog X.w) X.A (f v u) Q X.xe s₂) X.xe s₁) X.xe s:=by
 refine thn (ha pins s σ H _ I h) λv s1 ⟨x,H1,I1,r1,q1⟩=>?_;refine thn (hb pins s1 σ H1 _ I1 q1) λu s2 ⟨y,H2,I2,r2,q2⟩=>?_;exact hf v u s2 x y H2 I2 r1 r2 q2
theorem zh9 {op:Operator}{r:R2}(ho:OpR X (K27 op) r) (ha:PE X a ta) (hb:PE X b tb):PE X (.BinOp a op b pos) (tOp r ta tb):=by
 intro pins s σ H Q I h;exact wpAny_BinOp (binT ha hb I h λv u s2 x y H2 I2 rx ry q=>ho pins s2 σ H2 x y v u Q I2 rx ry q)
theorem zl7 {op:UnaryOp}{r:V->Hp->VK->Prop}(ho:UnR X (unaryOp op) r) (ha:PE X a ta):PE X (.UnaryOp op a pos) (tUn r ta):=by
 intro pins s σ H Q I h;exact UnaryOp_ (thn (ha pins s σ H _ I h) λv s1 ⟨x,H1,I1,r1,q1⟩=>ho pins s1 σ H1 x v Q I1 r1 q1)
theorem opI {f:Value->Value->Sem Value}{C:Int->Int->Prop}{g:Int->Int->Int}
 (rule:∀(i j:Int) (t u:Tok) (s:Shared) (Q:Value->Shared->Prop) (E:Value->Shared->Prop),C i j->Q (.int (g i j) s.toks) { s with toks:=s.toks+1 }->wpAny (model X.prog X.w) X.A (f (.int i t) (.int j u)) Q E s) :
 OpR X f (rI C λi j=>.int (g i j)):=by
 intro pins s σ H x y v u Q I rx ry h;obtain⟨i,j,rfl,rfl,hc,q⟩:=h;obtain⟨t,rfl⟩:=rx;obtain⟨t',rfl⟩:=ry;exact rule i j t t' s _ _ hc ⟨.int (g i j),H,I.tok _,⟨_,rfl⟩,q⟩
theorem opI0 {f:Value->Value->Sem Value}{g:Int->Int->Int}
 (rule:∀(i j:Int) (t u:Tok) (s:Shared) (Q:Value->Shared->Prop) (E:Value->Shared->Prop),Q (.int (g i j) s.toks) { s with toks:=s.toks+1 }->wpAny (model X.prog X.w) X.A (f (.int i t) (.int j u)) Q E s) :
 OpR X f (rI0 λi j=>.int (g i j)):=by
 intro pins s σ H x y v u Q I rx ry h;obtain⟨i,j,rfl,rfl,q⟩:=h;obtain⟨t,rfl⟩:=rx;obtain⟨t',rfl⟩:=ry;exact rule i j t t' s _ _ ⟨.int (g i j),H,I.tok _,⟨_,rfl⟩,q⟩
theorem opB0 {f:Value->Value->Sem Value}{g:Int->Int->Bool}
 (rule:∀(i j:Int) (t u:Tok) (s:Shared) (Q:Value->Shared->Prop) (E:Value->Shared->Prop),Q (.bool (g i j)) s->wpAny (model X.prog X.w) X.A (f (.int i t) (.int j u)) Q E s) :
 OpR X f (rI0 λi j=>.bl (g i j)):=by
 intro pins s σ H x y v u Q I rx ry h;obtain⟨i,j,rfl,rfl,q⟩:=h;obtain⟨t,rfl⟩:=rx;obtain⟨t',rfl⟩:=ry;exact rule i j t t' s _ _ ⟨.bl (g i j),H,I,rfl,q⟩
def CDiv (i j:Int):Prop:=0<j/\j<1073741824
def CPow (i j:Int):Prop:=0<=j/\j<=1000000/\i.natAbs<2 ^ 64
def CMul (i j:Int):Prop:=(-(2 ^ 64)<i/\i<2 ^ 64)\/(-(2 ^ 64)<j/\j<2 ^ 64)
theorem CMul.ok {i j:Int}(h:CMul i j):IntMulOk i j:=by
 rcases h with ⟨h1,h2⟩|⟨h1,h2⟩
 ·exact .of_left (intBits_le_64 h1 h2)
 ·exact .of_right (intBits_le_64 h1 h2)
theorem z4r (k:Nat):(0:Int)<=2 ^ k:=by
 rw[two_pow_cast];exact Int.natCast_nonneg _
theorem op_add:OpR X (K27 .Add) (rI0 λi j=>.int (i+j)):=opI0 λ_ _ _ _ _ _ _ q=>add_int q
theorem za5:OpR X (K27 .Sub) (rI0 λi j=>.int (i - j)):=opI0 λ_ _ _ _ _ _ _ q=>sub_int q
theorem op_mul:OpR X (K27 .Mult) (rI CMul λi j=>.int (i * j)):=opI λ_ _ _ _ _ _ _ hc q=>mul_int q hc.ok
theorem z8z:OpR X (K27 .FloorDiv) (rI CDiv λi j=>.int (i / j)):=opI λi j _ _ _ _ _ hc q=>by
 have h1:(0:Int)<j:=hc.1;have h2:j<1073741824:=hc.2;exact floordiv_int (by omega) (by rw[K5p i (by omega)];exact q) (.inl (PyProof.noPylong_small (by omega)))
theorem zc6:OpR X (K27 .Mod) (rI (λ_ j=>0<j) λi j=>.int (i % j)):=opI λi j _ _ _ _ _ hc q=>by
 have h1:(0:Int)<j:=hc;exact mod_int' (by omega) (by rw[Int.fmod_eq_emod_of_nonneg i (by omega)];exact q)
theorem z9q:OpR X (K27 .Pow) (rI CPow λi j=>.int (i ^ j.toNat)):=opI λ_ _ _ _ _ _ _ hc q=>pow_int_small hc.1 hc.2.1 hc.2.2 q
theorem za3:OpR X (K27 .RShift) (rI (λ_ j=>0<=j) λi j=>.int (i / 2 ^ j.toNat)):=opI λi j _ _ _ _ _ hc q =>
 rshift_int hc (by rw[K5p i (z4r _)];exact q)
theorem za1:OpR X (K27 .BitAnd) (rI0 λi j=>.int (K0o i j)):=opI0 λ_ _ _ _ _ _ _ q=>and_int q
theorem unI {f:Value->Sem Value}{g:Int->Int}
 (rule:∀(i:Int) (t:Tok) (s:Shared) (Q:Value->Shared->Prop) (E:Value->Shared->Prop),Q (.int (g i) s.toks) { s with toks:=s.toks+1 }->wpAny (model X.prog X.w) X.A (f (.int i t)) Q E s) :
 UnR X f (rU λi=>.int (g i)):=by
 intro pins s σ H x v Q I rx h;obtain⟨i,rfl,q⟩:=h;obtain⟨t,rfl⟩:=rx;exact rule i t s _ _ ⟨.int (g i),H,I.tok _,⟨_,rfl⟩,q⟩
theorem z9y:UnR X (unaryOp .USub) (rU λi=>.int (-i)):=unI λ_ _ _ _ _ q=>neg_int q
end
def scal:V->V->Bool
 | .non,.non=>true|.non,.int _=>true|.int _,.non=>true|.non,.bl _=>true|.bl _,.non=>true|.non,.str _=>true|.str _,.non=>true
 | .int _,.int _=>true|.bl _,.bl _=>true|.str _,.str _=>true|.byt _,.byt _=>true
 | .int _,.str _=>true|.str _,.int _=>true|.bl _,.str _=>true|.str _,.bl _=>true
 | _,_=>false
def rEq:R2:=λx y H Q=>scal x y=true/\Q (.bl (decide (x=y))) H
theorem z8O {i j:Int}:decide (V.int i=V.int j)=(i==j):=by
 rw[K18];simp
theorem zd4 {i j:Bool}:decide (V.bl i=V.bl j)=(i==j):=by
 rw[K18];simp
theorem z8V {i j:Str}:decide (V.str i=V.str j)=(i==j):=by
 rw[K18];simp
theorem z7H {i j:Array UInt8}:decide (V.byt i=V.byt j)=(i.toList==j.toList):=by
 rw[K18];cases i;cases j;simp
section
variable {X:Cx}{a b c:Expr}{ta tb tc:TE}{pos:Pos}
theorem v8 {pins:List (Addr×Obj)}{σ:St}{H:Hp}{s:Shared}{Q:VK}{k k':Bool}(I:Inv X pins σ H s) (q:Q (.bl k) H) (e:k=k'):EP X pins σ Q (.bool k') s:=by
 subst e;exact⟨.bl k,H,I,rfl,q⟩
theorem zj8:OpR X (K1g .Eq) rEq:=by
 intro pins s σ H x y v u Q I rx ry h;obtain⟨hs,q⟩:=h;cases x with
 | non =>
  cases rx;cases y with
  | non=>cases ry;exact PySem.EqNone.eq_none_none (v8 I q (by simp))
  | bl j=>cases ry;exact PySem.EqNone.eq_none_bool (v8 I q (by simp))
  | int j=>obtain⟨t',rfl⟩:=ry;exact PySem.EqNone.eq_none_int (v8 I q (by simp))
  | str j=>obtain⟨t',rfl⟩:=ry;exact PySem.EqNone.eq_none_str (v8 I q (by simp))
  | _=>exact absurd (show false=true from hs) K0g
 | bl i =>
  cases rx;cases y with
  | non=>cases ry;exact PySem.EqNone.eq_bool_none (v8 I q (by simp))
  | bl j=>cases ry;exact eq_bool (v8 I q zd4)
  | str j=>obtain⟨t',rfl⟩:=ry;exact PySem.EqMixed.eq_bool_str (v8 I q (by simp))
  | _=>exact absurd (show false=true from hs) K0g
 | int i =>
  obtain⟨t,rfl⟩:=rx;cases y with
  | non=>cases ry;exact PySem.EqNone.eq_int_none (v8 I q (by simp))
  | int j=>obtain⟨t',rfl⟩:=ry;exact eq_int (v8 I q z8O)
  | str j=>obtain⟨t',rfl⟩:=ry;exact PySem.EqMixed.eq_int_str (v8 I q (by simp))
  | _=>exact absurd (show false=true from hs) K0g
 | str i =>
  obtain⟨t,rfl⟩:=rx;cases y with
  | non=>cases ry;exact PySem.EqNone.eq_str_none (v8 I q (by simp))
  | bl j=>cases ry;exact PySem.EqMixed.eq_str_bool (v8 I q (by simp))
  | int j=>obtain⟨t',rfl⟩:=ry;exact PySem.EqMixed.eq_str_int (v8 I q (by simp))
  | str j=>obtain⟨t',rfl⟩:=ry;exact eq_str (v8 I q z8V)
  | _=>exact absurd (show false=true from hs) K0g
 | byt i =>
  obtain⟨t,rfl⟩:=rx;cases y with
  | byt j=>obtain⟨t',rfl⟩:=ry;exact PySem.W.eq_bytes (v8 I q z7H)
  | _=>exact absurd (show false=true from hs) K0g
 | _=>cases y<;>exact absurd (show false=true from hs) K0g
theorem op_lt:OpR X (K1g .Lt) (rI0 λi j=>.bl (decide (i<j))):=opB0 λ_ _ _ _ _ _ _ q=>lt_int q
theorem op_le:OpR X (K1g .LtE) (rI0 λi j=>.bl (decide (i<=j))):=opB0 λ_ _ _ _ _ _ _ q=>le_int q
theorem zl4:OpR X (K1g .Gt) (rI0 λi j=>.bl (decide (j<i))):=opB0 λ_ _ _ _ _ _ _ q=>gt_int q
theorem zj5:OpR X (K1g .GtE) (rI0 λi j=>.bl (decide (j<=i))):=opB0 λ_ _ _ _ _ _ _ q=>ge_int q
theorem z5n:OpR X (K1g .Lt) (λx y H Q=>∃i j,x=.str i/\y=.str j/\Q (.bl (decide (i.cps.toList<j.cps.toList))) H):=by
 intro pins s σ H x y v u Q I rx ry h;obtain⟨i,j,rfl,rfl,q⟩:=h;obtain⟨t,rfl⟩:=rx;obtain⟨t',rfl⟩:=ry;exact lt_str (v8 I q rfl)
theorem OpR.or {f:Value->Value->Sem Value}{r r':R2}(h:OpR X f r) (h':OpR X f r'):OpR X f (λx y H Q=>r x y H Q\/r' x y H Q):=by
 intro pins s σ H x y v u Q I rx ry q;rcases q with q|q
 ·exact h pins s σ H x y v u Q I rx ry q
 ·exact h' pins s σ H x y v u Q I rx ry q
theorem z7p (b:Expr) {op:CmpOp}(h:op≠.In:=by decide) (h2:op≠.NotIn:=by decide):K3c op b=false:=by
 have e1:(op==CmpOp.In)=false:=by cases op<;>first|rfl|exact absurd rfl h
 have e2:(op==CmpOp.NotIn)=false:=by cases op<;>first|rfl|exact absurd rfl h2
 cases b<;>simp[K3c,e1,e2]
theorem z7P {op:CmpOp}{r:R2}(ho:OpR X (K1g op) r) (ha:PE X a ta) (hb:PE X b tb) (hm:K3c op b=false):PE X (.Compare a [op] [b] pos) (tOp r ta tb):=by
 intro pins s σ H Q I h;exact wpAny_Compare1 (binT ha hb I h λv u s2 x y H2 I2 rx ry q=>ho pins s2 σ H2 x y v u Q I2 rx ry q) hm
def zg2 (t:TE):TT:=λσ H Q=>t σ H λx H'=>∃k,x=.bl k/\Q k H'
theorem z7A {op:CmpOp}{r:R2}(ho:OpR X (K1g op) r) (ha:PE X a ta) (hb:PE X b tb) (hm:K3c op b=false):PT X (.Compare a [op] [b] pos) (zg2 (tOp r ta tb)):=by
 intro pins s σ H Q I h;refine wpAny_isTrue_Compare1 (thn (ha pins s σ H _ I h) λv s1 ⟨x,H1,I1,r1,q1⟩=>thn (hb pins s1 σ H1 _ I1 q1) λu s2 ⟨y,H2,I2,r2,q2⟩ =>
  thn (ho pins s2 σ H2 x y v u _ I2 r1 r2 q2) λc s3 ⟨z,H3,I3,r3,k,e,q3⟩=>?_) hm
 subst e;cases r3;exact K2u ⟨H3,I3,q3⟩
def z79 (r r':R2) (ta tb tc:TE):TE:=λσ H Q=>ta σ H λx H1=>tb σ H1 λy H2=>r x y H2 λz H3=>∃k,z=.bl k /\
 (if k=true then tc σ H3 λw' H4=>r' y w' H4 Q else Q (.bl false) H3)
theorem z6n {op op':CmpOp}{r r':R2}(ho:OpR X (K1g op) r) (ho':OpR X (K1g op') r') (ha:PE X a ta) (hb:PE X b tb) (hc:PE X c tc)
 (hm:lastMarks [op,op'] [b,c]=false:=by with_unfolding_all rfl):PE X (.Compare a [op,op'] [b,c] pos) (z79 r r' ta tb tc):=by
 intro pins s σ H Q I h;refine Compare_chain (thn (ha pins s σ H _ I h) λv s1 ⟨x,H1,I1,r1,q1⟩=>chain_link (thn (hb pins s1 σ H1 _ I1 q1) λu s2 ⟨y,H2,I2,r2,q2⟩ =>
  thn (ho pins s2 σ H2 x y v u _ I2 r1 r2 q2) λd s3 ⟨z,H3,I3,r3,k,e,q3⟩=>?_)) hm
 subst e;cases r3;refine K2u ?_;cases k with
 | false=>exact ite_ff ⟨.bl false,H3,I3,rfl,q3⟩
 | true=>exact ite_tt (chain_last (thn (hc pins s3 σ H3 _ I3 q3) λw' s4 ⟨z',H4,I4,r4,q4⟩=>ho' pins s4 σ H4 y z' u w' Q I4 r2 r4 q4))
def TruV (K:K0) (x:V) (H:Hp) (k:Bool):Prop :=
 match x with
 | .non=>k=false
 | .bl b=>k=b
 | .int i=>k=(i != 0)
 | .str y=>y.length<=sizeLine/\k=((y.length:Int) != 0)
 | .byt y=>y.size<=sizeLine/\k=((y.size:Int) != 0)
 | .ref p=>(∃xs,SqL K H p xs/\k = !xs.isEmpty)\/(∃xs,SqT K H p xs/\k = !xs.isEmpty)\/∃kvs,H p=some (.dK kvs)/\k = !kvs.isEmpty
 | _=>False
theorem z4o {κ:Type}{kvs:List (κ×V)}{vs:List (κ×Value)}(r:KV kvs vs):(!vs.isEmpty) = !kvs.isEmpty:=by
 cases r<;>rfl
theorem z2a {xs:List V}{its:List Value}(r:Vals xs its):(!its.toArray.isEmpty) = !xs.isEmpty:=by
 cases r<;>simp
theorem z2c:(sizeLine:Nat)<2 ^ 63:=by rw[K7c];decide
theorem zf9:TruR X (λx H Q=>∃k,TruV X.K x H k/\Q k H):=by
 intro pins s σ H x v Q I rx h;obtain⟨k,e,q⟩:=h;have hl:=z2c;have hs:sizeLine=16777216:=K7c;cases x with
 | non =>
  cases rx;have e':k=false:=e;subst e';exact truthy_none ⟨H,I,q⟩
 | bl b =>
  cases rx;have e':k=b:=e;subst e';exact K2u ⟨H,I,q⟩
 | int i =>
  obtain⟨t,rfl⟩:=rx;have e':k=(i != 0):=e;subst e';exact PySem.P.truthy_int ⟨H,I,q⟩
 | str y =>
  obtain⟨t,rfl⟩:=rx;obtain⟨hy,e'⟩:y.length<=sizeLine/\k=((y.length:Int) != 0):=e;subst e';exact PySem.P.truthy_str (by omega) ⟨H,I.tok _,q⟩
 | byt y =>
  obtain⟨t,rfl⟩:=rx;obtain⟨hy,e'⟩:y.size<=sizeLine/\k=((y.size:Int) != 0):=e;subst e';exact PySem.W.truthy_bytes (by omega) ⟨H,I.tok _,q⟩
 | ref p =>
  cases rx;have e':(∃xs,SqL X.K H p xs/\k = !xs.isEmpty)\/(∃xs,SqT X.K H p xs/\k = !xs.isEmpty)\/∃kvs,H p=some (.dK kvs)/\k = !kvs.isEmpty:=e;rcases e' with ⟨xs,hx,e'⟩|⟨xs,hx,e'⟩|⟨kvs,hx,e'⟩
  ·subst e';obtain⟨its,r,pl,hz⟩:=I.list hx;have hlen:=r.length;exact wpAny_truthy_list pl.isList (by simp only[K00];omega) ⟨H,I.tok _,by rw[z2a r];exact q⟩
  ·subst e';obtain⟨its,r,pl,hz⟩:=I.tuple hx;have hlen:=r.length;exact truthy_tuple pl (by simp only[K00];omega) ⟨H,I.tok _,by rw[z2a r];exact q⟩
  ·subst e';obtain⟨hz,hS,vs,r,m⟩:kvs.length<=sizeLine/\(p==K2k)=false/\∃vs,KV kvs vs/\s.heap.DictOf (J1 X.prog X.w) p vs:=I.hok p _ hx;have hlen:kvs.length=vs.length:=K3q r;exact wpAny_truthy_dict hS m (by omega) ⟨H,I.tok _,by rw[z4o r];exact q⟩
 | _=>exact(show False from e).elim
theorem z6y (ha:PE X a ta) (he:∀whole,isTrue a X.env whole=(do let v <- whole;K4k a.pos;K31 [v] (truthy v))) :
 PT X a (λσ H Q=>ta σ H λx H'=>∃k,TruV X.K x H' k/\Q k H'):=by
 intro pins s σ H Q I h;exact isTrue_plain (thn (ha pins s σ H _ I h) λv s1 ⟨x,H1,I1,r1,q1⟩=>zf9 pins s1 σ H1 x v Q I1 r1 q1) (he _)
theorem op_add_str:OpR X (K27 .Add) (λx y H Q=>∃i j,x=.str i/\y=.str j/\i.length+j.length<=sizeLine/\Q (.str (i++j)) H):=by
 intro pins s σ H x y v u Q I rx ry h;obtain⟨i,j,rfl,rfl,hz,q⟩:=h;obtain⟨t,rfl⟩:=rx;obtain⟨t',rfl⟩:=ry;exact add_str (λt' tk=>⟨.str (i++j),H,I.tok _,⟨_,rfl⟩,q⟩) hz
theorem vals1 {x:V}{us:List Value}(r:Vals [x] us):∃u,us=[u]/\RelV x u:=by
 cases r with
 | cons r1 r2=>cases r2;exact⟨_,rfl,r1⟩
theorem vals2 {x y:V}{us:List Value}(r:Vals [x,y] us):∃u w',us=[u,w']/\RelV x u/\RelV y w':=by
 cases r with
 | cons r1 r2 =>
  cases r2 with
  | cons r3 r4=>cases r4;exact⟨_,_,rfl,r1,r3⟩
theorem z5T:CallR X (.type "int") (λxs H Q=>(∃i,xs=[.int i]/\Q (.int i) H)\/∃k,xs=[.bl k]/\Q (.int (if k then 1 else 0)) H):=by
 intro pins s σ H xs us Q I r h;rcases h with ⟨i,rfl,q⟩|⟨k,rfl,q⟩
 ·obtain⟨u,rfl,t,rfl⟩:=vals1 r;exact call_int_int ⟨.int i,H,I,⟨_,rfl⟩,q⟩
 ·obtain⟨u,rfl,r1⟩:=vals1 r;cases r1;exact call_int_bool ⟨.int (if k then 1 else 0),H,I.tok _,⟨_,rfl⟩,q⟩
def LenV (K:K0) (x:V) (H:Hp) (n:Nat):Prop :=
 match x with
 | .str y=>y.length<=sizeLine/\n=y.length
 | .byt y=>y.size<=sizeLine/\n=y.size
 | .ref p=>(∃xs,SqL K H p xs/\n=xs.length)\/∃xs,SqT K H p xs/\n=xs.length
 | _=>False
theorem z6j:CallR X (.builtin "len") (λxs H Q=>∃x n,xs=[x]/\LenV X.K x H n/\Q (.int n) H):=by
 intro pins s σ H xs us Q I r h;obtain⟨x,n,rfl,e,q⟩:=h;obtain⟨u,rfl,rx⟩:=vals1 r;have hl:=z2c;have hs:sizeLine=16777216:=K7c;cases x with
 | str y =>
  obtain⟨t,rfl⟩:=rx;obtain⟨hy,e'⟩:y.length<=sizeLine/\n=y.length:=e;subst e';exact len_str (by omega) ⟨.int _,H,I.tok _,⟨_,rfl⟩,q⟩
 | byt y =>
  obtain⟨t,rfl⟩:=rx;obtain⟨hy,e'⟩:y.size<=sizeLine/\n=y.size:=e;subst e';exact PySem.W.len_bytes (by omega) ⟨.int _,H,I.tok _,⟨_,rfl⟩,q⟩
 | ref p =>
  cases rx;have e':(∃xs,SqL X.K H p xs/\n=xs.length)\/∃xs,SqT X.K H p xs/\n=xs.length:=e;rcases e' with ⟨xs,hx,e'⟩|⟨xs,hx,e'⟩
  ·subst e';obtain⟨its,r',pl,hz⟩:=I.list hx;have hlen:=r'.length;exact Calls.call_len_list pl.isList (by simp only[K00];omega) ⟨.int xs.length,H,I.tok _,⟨_,by simp only[K00];rw[hlen]⟩,q⟩
  ·subst e';obtain⟨its,r',pl,hz⟩:=I.tuple hx;have hlen:=r'.length;exact len_tuple pl (by simp only[K00];omega) ⟨.int xs.length,H,I.tok _,⟨_,by simp only[K00];rw[hlen]⟩,q⟩
 | _=>exact(show False from e).elim
end
structure ObjM (h:Heap) (x dx C:Addr) (mA:Str->Option Value):Prop where
 obj:h.get? x=some (K16 C dx)
 ns:h.Ns1 dx mA
 ne:dx≠x
theorem z5d {h:Heap}{dx:Addr}{mA:Str->Option Value}(n:h.Ns1 dx mA):∃od,h.get? dx=some od/\∀name,K5c name od=some (mA name):=by
 obtain⟨o,es,ep,ho,hd,hk,_,hm⟩:=n;refine⟨o,ho,λname=>?_⟩;have e:=hm name;unfold nsFind findBy at e;rw[<- Array.find?_toList]at e;unfold K5c;rw[hd];dsimp only;split
 ·rename_i y q;rw[q]at e;exact congrArg some e
 ·rename_i q;rw[q]at e;have a:es.toList.any (·.refKey)=false:=by
   rw[List.any_eq_false];intro y hy;obtain⟨z,t,hkey⟩:=hk y (Array.mem_toList_iff.mp hy);simp[DictEntry.refKey,hkey]
  have a':¬ es.toList.any (·.refKey)=true:=by rw[a];exact K0g
  rw[if_neg a'];exact congrArg some e
theorem ObjM.look {h:Heap}{x dx C:Addr}{mA:Str->Option Value}(I:ObjM h x dx C mA):∃od,PySem.W.InstAt h x (K16 C dx) C (some od)/\∀name,K5c name od=some (mA name) :=
 let ⟨od,ho,hl⟩:=z5d I.ns
 ⟨od,⟨I.obj,rfl,rfl,ho⟩,hl⟩
section
variable {prog:K0a}{w:World}{A:Around}{E:Value->Shared->Prop}{s:Shared}{K:K0}{x dx C f:Addr}{mA:Str->Option Value}{name:Str}{v:Value}
theorem z6z {pl:Sem Bool}{Q:Value×List Value->Shared->Prop}(X:K.In s.heap) (I:ObjM s.heap x dx C mA) (hg:K4o K C name=true)
 (hf:K13 K (.ref C) name=some (.(r f))) (ht:K51 K (.ref f)=true) (hv:mA name=none) (h:Q (.ref f,[.ref x]) s) :
 wpAny (model prog w) A (K8s (.ref x) name pl) Q E s:=by
 obtain⟨od,J,hl⟩:=I.look;exact PySem.W.method_fn X J (K7q hg).1 (K7q hg).2 hf (beq_iff_eq.mp ht) (by show (K5c name od).map (·.isSome)=some false;rw[hl,hv];rfl) h
theorem z5J {R:Result->Shared->Prop}(X:K.In s.heap) (hm:K2n K C=true)
 (hi:K13 K (.ref C) "__init__" = some (some (.builtin "object.__init__")))
 (hb:∀self,K7v (model prog w) s.heap (bindSpecial (.builtin "object.__init__") self) (.builtin "object.__init__",[self]))
 (h:K4t (model prog w) (A.under (.builtin "type.__call__" ⟨[.ref C],[]⟩)) (.call (.builtin "object.__init__") ⟨[.ref (s.heap.objs.size+1)],[]⟩) (PySem.W.InitBack (s.heap.objs.size+1) R)
  { s with heap:=(s.heap.push K0z).push (K16 C s.heap.objs.size) }) :
 K4t (model prog w) A (.call (.ref C) ⟨[],[]⟩) R s:=by
 obtain⟨hh,g,d,t,os⟩:=s;exact PySem.W.make_core (K8q X hm) (PySem.W.looks_findIn X hi) hb (.inr ⟨rfl,rfl⟩) h
end
theorem RelO.none_of {o:Option Value}(r:RelO none o):o=none:=by
 cases o with
 | none=>rfl
 | some u=>exact(show False from r).elim
section
variable {P:K0a}{w:World}{H H':Hp}{h h':Heap}{a C dx:Addr}{fs fs':List (Str×V)}
theorem z4F (hok:HOk P w H h) (e:H a=some (.ins C dx fs)):∃mA,ObjM h a dx C mA/\(∀f,RelO (fs.lookup f) (mA f))/\PySem.Within mA (fs.map (·.1))/\fs.length<=1000/\H dx=some (.own a):=by
 obtain⟨d,z,ne,ob,mA,n,r,q⟩:=(show ObjOk P w H h a (.ins C dx fs) from hok a _ e);exact⟨mA,⟨ob,n,ne⟩,r,q,z,d⟩
end
structure Cls (K:K0) (C:Addr):Prop where
 pg:K4o K C Str.empty=true
 hd:K8f K C=true
 po:K8e K C=true
 sa:K13 K (.ref C) "__setattr__" = some (some (.builtin "object.__setattr__"))
theorem Cls.get {K:K0}{C:Addr}(c:Cls K C) (f:Str):K4o K C f=true:=c.pg
structure Con (K:K0) (C:Addr) (f:Str) (v:V) (u:Value):Prop where
 at_:K13 K (.ref C) f=some (some u)
 rel:RelV v u
 get:K8d K u "__get__" = some none
 cp:PySem.W.copiedNames.contains f=false
structure Meth (K:K0) (C:Addr) (m:Str) (f:Addr):Prop where
 at_:K13 K (.ref C) m=some (.(r f))
 fn:K51 K (.ref f)=true
 kp:K10 K (.ref f)=true
section
variable {X:Cx}{pins:List (Addr×Obj)}{σ:St}{H:Hp}{s:Shared}{a C dx:Addr}{fs:List (Str×V)}{f:Str}{v:V}{A:Around}{E:Value->Shared->Prop}
theorem z4m {m:Str}{g:Addr}{pl:Sem Bool}{Q:Value×List Value->Shared->Prop}(I:Inv X pins σ H s) (e:H a=some (.ins C dx fs)) (c:Cls X.K C) (k:Meth X.K C m g) (l:fs.lookup m=none)
 (h:Q (.ref g,[.ref a]) s):wpAny (model X.prog X.w) A (K8s (.ref a) m pl) Q E s:=by
 obtain⟨mA,O,r,_,_,_⟩:=z4F I.hok e;have hn:mA m=none:=RelO.none_of (by rw[<- l];exact r m);exact z6z I.kIn O (c.get m) k.at_ k.fn hn h
theorem Inv.made (I:Inv X pins σ H s):Inv X pins σ (upd (upd H s.heap.objs.size (.own (s.heap.objs.size+1))) (s.heap.objs.size+1) (.ins C s.heap.objs.size []))
 { s with heap:=(s.heap.push K0z).push (K16 C s.heap.objs.size) }:=by
 have e1:(s.heap.push K0z).get? s.heap.objs.size=some K0z:=K0l s.heap rfl;have e2:((s.heap.push K0z).push (K16 C s.heap.objs.size)).get? (s.heap.objs.size+1)=some (K16 C s.heap.objs.size):=by
  have:=K0l (s.heap.push K0z) (o:=K16 C s.heap.objs.size) rfl;rwa [K4e]at this
 have e3:(s.heap.push K0z).Ns s.heap.objs.size (λ_=>none):=⟨K0z,#[],_,e1,rfl,(λe he=>absurd he (by simp)),λ_=>rfl⟩;have I1:=I.laid (a:=s.heap.objs.size) (o:=.own (s.heap.objs.size+1)) (h':=s.heap.push K0z) (t':=s.toks) (λb u q=>K8 _ q) (K08 _) ⟨_,e1⟩;refine I1.laid (a:=s.heap.objs.size+1) (o:=.ins C s.heap.objs.size []) (t':=s.toks) (λb u q=>K8 _ q) (K3m (K4e _ _)) ?_;have ne:s.heap.objs.size≠s.heap.objs.size+1:=K0q (K6b _);refine⟨by rw[Z7 ne,J6],K3g _,ne,e2,λ_=>none,(Heap.Ns1.of_empty e3).at λo q=>K8 _ q,λ_=>K2w,λy hy=>absurd rfl hy⟩
end
section
variable {X:Cx}{o e value:Expr}{f:Str}{pos pos' tpos:Pos}{ta tv:TE}
end
section
variable {X:Cx}{pins:List (Addr×Obj)}{σ:St}{H:Hp}{s:Shared}{A:Around}{E:Value->Shared->Prop}{Q:Value->Shared->Prop}{c:Value}{b:Bool}
inductive TyOf (K:K0) (H:Hp):V->Value->Prop where
 | non:TyOf K H .non (.type "NoneType")
 | bl (x:Bool):TyOf K H (.bl x) (.type "bool")
 | int (i:Int):TyOf K H (.int i) (.type "int")
 | str (x:Str):TyOf K H (.str x) (.type "str")
 | flt (x:UInt64):TyOf K H (.flt x) (.type "float")
 | lst {a:Addr} {xs:List V} (e:H a=.(l xs)):TyOf K H (.ref a) (.type "list")
 | frz {a:Addr} {o:Obj} {xs:List V} (e:H a=some (.frz o (.lst xs))):TyOf K H (.ref a) (.type "list")
 | tup {a:Addr} {xs:List V} (e:H a=.(g xs)):TyOf K H (.ref a) (.type "tuple")
 | dK {a:Addr} {kvs:List (Key×V)} (e:H a=some (.dK kvs)):TyOf K H (.ref a) (.type "dict")
 | dT {a:Addr} {kvs:List (List Key×V)} (e:H a=some (.dT kvs)):TyOf K H (.ref a) (.type "dict")
 | ins {a C dx:Addr} {fs:List (Str×V)} (e:H a=some (.ins C dx fs)) (cl:Cls K C) (ha:K13 K (.ref C) "__class__" = some (some (.builtin "object.__class__")))
  (hn:K8d K (.builtin "object.__class__") "__get__" = some (some (.builtin "getset_descriptor.__get__"))) (htk:PySem.W.takesIn K (.builtin "object.__class__")=some true)
  (hm:PySem.W.mroIn K C (.type "object")=some true):TyOf K H (.ref a) (.ref C)
theorem z5s {x:V}{u t:Value}(I:Inv X pins σ H s) (rx:RelV x u) (ty:TyOf X.K H x t) (e:K4b X.K t c=some b) (h:∀tk,Q (.bool b) { s with toks:=tk }) :
 wpAny (model X.prog X.w) A (call (.builtin "isinstance") [u,c]) Q E s:=by
 cases ty with
 | non=>cases (show u=K3y from rx);exact K12 PySem.W.kitx_none I.kIn K2w e (λz=>nomatch z) h
 | bl y=>cases (show u=K7y y from rx);exact K12 PySem.W.kitx_bool I.kIn K2w e (λz=>nomatch z) h
 | int i=>obtain⟨t,q⟩:=(show ∃t,u=K7h i t from rx);cases q;exact K12 PySem.W.kitx_int I.kIn K2w e (λz=>nomatch z) h
 | str y=>obtain⟨t,q⟩:=(show ∃t,u=K8o y t from rx);cases q;exact K12 PySem.W.kitx_str I.kIn K2w e (λz=>nomatch z) h
 | flt y=>obtain⟨t,q⟩:=(show ∃t,u=Value.float y t from rx);cases q;exact K12 PySem.W.kitx_float I.kIn K2w e (λz=>nomatch z) h
 | @lst a xs ea =>
  cases (show u=K1j a from rx);obtain⟨_,_,n,_,h1⟩:=(show ObjOk X.prog X.w H s.heap a (.lst xs) from I.hok a _ ea);exact K12 K5y I.kIn ⟨_,h1,rfl⟩ e (λz=>nomatch z) h
 | @frz a ob xs ea =>
  cases (show u=K1j a from rx);obtain⟨_,_,_,n,_,h1⟩:=(show ObjOk X.prog X.w H s.heap a (.frz ob (.lst xs)) from I.hok a _ ea);exact K12 K5y I.kIn ⟨_,h1,rfl⟩ e (λz=>nomatch z) h
 | @tup a xs ea =>
  cases (show u=K1j a from rx);obtain⟨_,_,_,p⟩:=(show ObjOk X.prog X.w H s.heap a (.tup xs) from I.hok a _ ea);obtain⟨o,h1,h2,_⟩:=p;exact K12 K83 I.kIn ⟨o,h1,h2.1⟩ e (λz=>nomatch z) h
 | @dK a kvs ea =>
  cases (show u=K1j a from rx);obtain⟨_,_,vs,_,p⟩:=(show ObjOk X.prog X.w H s.heap a (.dK kvs) from I.hok a _ ea);obtain⟨o,es,ep,h1,h2,_⟩:=p;exact K12 K5z I.kIn ⟨o,h1,h2.1⟩ e (λz=>nomatch z) h
 | @dT a kvs ea =>
  cases (show u=K1j a from rx);obtain⟨_,_,xs,_,o,es,ep,h1,h2,_⟩:=(show ObjOk X.prog X.w H s.heap a (.dT kvs) from I.hok a _ ea);exact K12 K5z I.kIn ⟨o,h1,h2.1⟩ e (λz=>nomatch z) h
 | @ins a C dx fs ea cl ha hn htk hm =>
  cases (show u=K1j a from rx);obtain⟨mA,O,_⟩:=z4F I.hok ea;obtain⟨od,J,_⟩:=O.look;exact K12 (PySem.W.kitx_own (cl.get _) cl.hd ha hn htk hm) I.kIn J e (λz=>nomatch z) h
end
structure Room (k:Nat) (A:Around):Prop where
 hd:A.handled=none
 dp:A.depth+3 * k+5<recursionLimit
 un:A.units+16 * k+200<cLine
 gd:A.guards=some []
theorem Room.mono {j k:Nat}{A:Around}(r:Room k A) (h:j<=k):Room j A:=⟨r.hd,by have:=r.dp;omega,by have:=r.un;omega,r.gd⟩
theorem Room.deeper {k:Nat}{A:Around}(r:Room (k+1) A) (env:Env):Room k (A.deeper env) :=
 ⟨r.hd,by have:=r.dp;show A.depth+1+3 * k+5<_;omega,by have:=r.un;show A.units+3+16 * k+200<_;omega,r.gd⟩
theorem Room.in1 {k:Nat}{A:Around}(r:Room (k+1) A):Room k A.in1 :=
 ⟨r.hd,by have:=r.dp;show A.depth+3 * k+5<_;omega,by have:=r.un;show A.units+1+16 * k+200<_;omega,r.gd⟩
theorem Room.depth {k:Nat}{A:Around}(r:Room k A):A.depth<recursionLimit:=by have:=r.dp;omega
theorem Room.units {k:Nat}{A:Around}(r:Room k A):A.units+64<cLine:=by have:=r.un;omega
def tNil:TA:=λ_ H Q=>Q [] H
def z6Y (ta:TE) (tr:TA):TA:=λσ H Q=>ta σ H λx H1=>tr σ H1 λxs H2=>Q (x::xs) H2
section
variable {X:Cx}{e:Expr}{es:List Expr}{te:TE}{t:TA}{pos:Pos}
theorem z2K:PA X [] tNil:=λ_ _ _ _ H Q I h=>Calls.spliced_nil ⟨[],H,I,.nil,h⟩
theorem z1a (ha:PE X e te) (hr:PA X es t) (hs:K07 (e::es) X.env=(false,eval e X.env)::K07 es X.env:=by rfl):PA X (e::es) (z6Y te t):=by
 intro pos pins s σ H Q I h;rw[hs];show wpAny _ _ (spliced ((false,eval e X.env)::backTo pos (K07 es X.env))) _ _ s;refine Calls.spliced_cons (thn (ha pins s σ H _ I h) λu s1 ⟨x,H1,I1,r1,q1⟩=>?_);exact thn (hr pos pins s1 σ H1 _ I1 q1) λus s2 ⟨xs,H2,I2,r2,q2⟩=>⟨x::xs,H2,I2,.cons r1 r2,q2⟩
def tTup (t:TA):TE:=λσ H Q=>t σ H λxs H1=>xs.length<=sizeLine/\∀p,H1 p=none->Q (.ref p) (upd H1 p (.tup xs))
def tLst (t:TA):TE:=λσ H Q=>t σ H λxs H1=>xs.length<=sizeLine/\∀p,H1 p=none->Q (.ref p) (upd H1 p (.lst xs))
theorem z9m {x1}(h:PA X es t):PE X (.Tuple es x1 pos) (tTup t):=by
 intro pins s σ H Q I hq;refine wpAny_Tuple_spliced (thn (h pos pins s σ H _ I hq) λus s1 ⟨xs,H1,I1,r,z,q⟩=>⟨by rw[<- r.length];exact z,?_⟩);have hf:H1 s1.heap.objs.size=none:=I1.hok.fresh (K08 _);refine⟨.ref s1.heap.objs.size,upd H1 s1.heap.objs.size (.tup xs),I1.laid (t':=s1.toks) (λb u e=>K8 _ e) (K08 _) ?_,rfl,q _ hf⟩;exact⟨z,us,r,⟨_,K0l _ rfl,⟨rfl,rfl⟩,_,rfl⟩⟩
theorem zg5 (h:PA X es t):PE X (.List es pos) (tLst t):=by
 intro pins s σ H Q I hq;refine wpAny_List_spliced (thn (h pos pins s σ H _ I hq) λus s1 ⟨xs,H1,I1,r,z,q⟩=>⟨by rw[<- r.length];exact z,?_⟩);have hf:H1 s1.heap.objs.size=none:=I1.hok.fresh (K08 _);refine⟨.ref s1.heap.objs.size,upd H1 s1.heap.objs.size (.lst xs),I1.laid (t':=s1.toks) (λb u e=>K8 _ e) (K08 _) ?_,rfl,q _ hf⟩;exact⟨z,us,0,r,K0l _ rfl⟩
end
abbrev Sp:=List V->Hp->VK->XK->Prop
abbrev CXT:=List Env->Hp->Shared->XK->Value->Shared->Prop
structure Env0 (P:K0a) (w:World) (K:K0) (mg:Str->Option Value) (base:Heap) (A:Around) (outer:List Env) (s:Shared) (H:Hp):Prop where
 frames:A.frames=some outer
 mod:Mod K mg base
 bs:∀b o,base.get? b=some o->s.heap.get? b=some o/\H b=none
 bsz:base.objs.size<=s.heap.objs.size
 funs:s.heap.FunFrames base outer
 frf:∀b∈frs outer,H b=none
 hok:HOk P w H s.heap
 bare:K57 s.gens
def CE (outer:List Env) (P:K0a) (w:World) (H:Hp) (s:Shared) (Q:VK) (u:Value) (s':Shared):Prop :=
 ∃v H',s'.os=s.os/\K57 s'.gens/\Un (frs outer) [] H H' s.heap s'.heap/\HOk P w H' s'.heap/\RelV v u/\Q v H'
def CR (CX:CXT) (outer:List Env) (P:K0a) (w:World) (H:Hp) (s:Shared) (Q:VK) (E:XK) (r:Result) (s':Shared):Prop :=
 match r with
 | .ok (.ret u)=>CE outer P w H s Q u s'
 | .ok _=>False
 | .error e=>CX outer H s E e s'
structure FnOk (P:K0a) (w:World) (K:K0) (mg:Str->Option Value) (base:Heap) (CX:CXT) (k:Nat) (f:Addr) (fd:K1l) (ps:List Str) (sp:Sp):Prop where
 len:∀vs H Q E,sp vs H Q E->vs.length=ps.length
 run:∀(A:Around) (outer:List Env) (s:Shared) (H:Hp) (args:Args) (us:List Value) (vs:List V) (Q:VK) (E:XK),Room k A->Env0 P w K mg base A outer s H->K7n s fd args (ps.zip us)->Vals vs us->sp vs H Q E ->
  K4t (model P w) A (.call (.ref f) args) (CR CX outer P w H s Q E) s
theorem FnOk.mono {P:K0a}{w:World}{K:K0}{mg:Str->Option Value}{base:Heap}{CX:CXT}{j k:Nat}{f:Addr}{fd:K1l}{ps:List Str}{sp:Sp}(F:FnOk P w K mg base CX j f fd ps sp) (h:j<=k) :
 FnOk P w K mg base CX k f fd ps sp:=⟨F.len,λA outer s H args us vs Q E hr=>F.run A outer s H args us vs Q E (hr.mono h)⟩
theorem FnOk.imp {P:K0a}{w:World}{K:K0}{mg:Str->Option Value}{base:Heap}{CX:CXT}{k:Nat}{f:Addr}{fd:K1l}{ps:List Str}{sp sp':Sp}(F:FnOk P w K mg base CX k f fd ps sp)
 (h:∀vs H Q E,sp' vs H Q E->sp vs H Q E):FnOk P w K mg base CX k f fd ps sp' :=
 ⟨λvs H Q E q=>F.len vs H Q E (h _ _ _ _ q),λA outer s H args us vs Q E hr he hb hv hs=>F.run A outer s H args us vs Q E hr he hb hv (h _ _ _ _ hs)⟩
theorem Env0.in1 {P:K0a}{w:World}{K:K0}{mg:Str->Option Value}{base:Heap}{A:Around}{outer:List Env}{s:Shared}{H:Hp}(e:Env0 P w K mg base A outer s H) :
 Env0 P w K mg base A.in1 outer s H:=⟨e.frames,e.mod,e.bs,e.bsz,e.funs,e.frf,e.hok,e.bare⟩
section
variable {X:Cx}{pins:List (Addr×Obj)}{σ:St}{H:Hp}{s s':Shared}
theorem Inv.env0 (I:Inv X pins σ H s):Env0 X.prog X.w X.K X.mg X.base X.A X.stack s H :=
 ⟨I.ok.frames,I.ok.mod,I.bs,K0h I.ok.bsz I.sz,I.stack,I.stkFree,I.hok,I.bare⟩
theorem Inv.after {Q:VK}{u:Value}(I:Inv X pins σ H s) (h:CE X.stack X.prog X.w H s Q u s'):EP X pins σ Q u s':=by
 obtain⟨v,H',os,bare,un,hok,r,q⟩:=h;obtain⟨hh,g,d,t,os'⟩:=s';obtain rfl:os'=s.os:=os;exact⟨v,H',I.call (h':=hh) (g':=g) (d':=d) (t':=t) (ch:=[]) un hok bare (λb z=>absurd z (by simp)),r,q⟩
end
def zh6 (sp:Sp) (dvs:List V) (E:XK) (t:TA):TE:=λσ H Q=>t σ H λvs H1=>sp (vs++dvs) H1 Q E
def zm2 (C:Addr) (m:Str) (sp:Sp) (dvs:List V) (E:XK) (ta:TE) (t:TA):TE:=λσ H Q=>ta σ H λx H1=>∃a dx fs,x=.ref a/\H1 a=some (.ins C dx fs)/\fs.lookup m=none /\
 t σ H1 λvs H2=>sp (x::(vs++dvs)) H2 Q E
def Binds (K:K0) (fd:K1l) (ps:List Str) (ds:List Value):Prop :=
 ∀(s:Shared) (us:List Value),K.In s.heap->(us++ds).length=ps.length->K7n s fd ⟨us,[]⟩ (ps.zip (us++ds))
theorem Binds.all {K:K0}{fd:K1l}{ps:List Str}(h:∀us:List Value,us.length=ps.length->K8i fd ⟨us,[]⟩=pure (ps.zip us)):Binds K fd ps []:=λs us _ hl=>by
 rw[K2c]at hl ⊢;exact .of_eq (h us hl)
def z3W (CX:CXT) (X:Cx) (E:XK):Prop:=∀(pins:List (Addr×Obj)) (σ:St) (H:Hp) (s:Shared) (e:Value) (s':Shared),Inv X pins σ H s->CX X.stack H s E e s'->X.xe e s'
section
variable {X:Cx}{CX:CXT}{k:Nat}{f C:Addr}{fd:K1l}{ps:List Str}{sp:Sp}{dvs:List V}{ds:List Value}{E:XK}{x m:Str}{p pos apos:Pos}{e o:Expr}{es:List Expr}{ta:TE}{t:TA}
theorem z7d {pins:List (Addr×Obj)}{σ:St}{H:Hp}{s:Shared}{Q:VK}{us:List Value}{vs:List V}(F:FnOk X.prog X.w X.K X.mg X.base CX k f fd ps sp) (hr:Room k X.A) (hb:Binds X.K fd ps ds) (hd:Vals dvs ds) (hx:z3W CX X E)
 (I:Inv X pins σ H s) (r:Vals vs us) (h:sp (vs++dvs) H Q E):wpAny (model X.prog X.w) X.A (call (.ref f) us) (EP X pins σ Q) X.xe s:=by
 have r2:Vals (vs++dvs) (us++ds):=r.append hd;have hl:(us++ds).length=ps.length:=by rw[<- r2.length];exact F.len _ _ _ _ h
 refine wpAny_call (K6m (F.run X.A X.stack s H ⟨us,[]⟩ (us++ds) (vs++dvs) Q E hr I.env0 (hb s us I.kIn hl) r2 h) λr s' hq=>?_);cases r with
 | error e=>exact hx pins σ H s e s' I hq
 | ok fl =>
  cases fl with
  | ret u=>exact I.after hq
  | next=>exact K1y hq
  | brk=>exact K1y hq
  | cont=>exact K1y hq
theorem z7v (F:FnOk X.prog X.w X.K X.mg X.base CX k f fd ps sp) (hr:Room k X.A) (hg:Gl X x) (hm:X.mg x=.(r f)) (hk:K10 X.K (.ref f)=true) (hb:Binds X.K fd ps ds) (hd:Vals dvs ds) (hx:z3W CX X E)
 (ha:PA X (e::es) t) (hdb:(x==("__debug__":Str))=false:=by decide) (he:K07 (e::es) X.env=(false,eval e X.env)::K07 es X.env:=by rfl) (hpl:(backTo pos (K07 es X.env)).any (·.1)=false:=by rfl) :
 PE X (.Call (.Name x p) (e::es) [] pos) (zh6 sp dvs E t):=by
 intro pins s σ H Q I h;refine K41 (z4D I hg hm ?_ hdb);refine K84 (h₀:=X.base) I.ok.mod.kin hk (thn (ha pos pins s σ H _ I h) λus s1 ⟨vs,H1,I1,r,q⟩=>⟨I1.kIn,?_⟩) he hpl;exact z7d F hr hb hd hx I1 r q
theorem z7F {pl:Sem Bool}(he:PE X o ta) (c:Cls X.K C) (hm:Meth X.K C m f) (F:FnOk X.prog X.w X.K X.mg X.base CX k f fd ps sp) (hr:Room k X.A) (hb:Binds X.K fd ps ds) (hd:Vals dvs ds) (hx:z3W CX X E) (ha:PA X (e::es) t)
 (hst:K07 (e::es) X.env=(false,eval e X.env)::K07 es X.env:=by rfl) (hpl:(backTo pos (K07 es X.env)).any (·.1)=false:=by rfl)
 (ht:eval (.Call (.Attribute o m apos) (e::es) [] pos) X.env=(do
  let ov <- eval o X.env
  K4k apos.atName
  let (f,first) <- K31 [ov] (K8s ov m pl)
  callWith pos f first (backTo pos (K07 (e::es) X.env)) (K5j pos (K3i [] X.env))):=by rfl) :
 PE X (.Call (.Attribute o m apos) (e::es) [] pos) (zm2 C m sp dvs E ta t):=by
 intro pins s σ H Q I h;refine PySem.W.methodCall_KW (pl:=pl) (thn (he pins s σ H _ I h) λu s1 ⟨x,H1,I1,rx,a,dx,fs,ex,ea,l,q⟩=>?_) ht;subst ex;obtain rfl:u=K1j a:=rx;refine z4m I1 ea c hm l ?_;refine K84 (first:=[.ref a]) (h₀:=X.base) I.ok.mod.kin hm.kp (thn (ha pos pins s1 σ H1 _ I1 q) λus s2 ⟨vs,H2,I2,r,q2⟩=>⟨I2.kIn,?_⟩) hst hpl;exact z7d (us:=.ref a::us) (vs:=.ref a::vs) F hr hb hd hx I2 (.cons rfl r) q2
structure Mk (K:K0) (C f:Addr):Prop where
 makes:K2n K C=true
 init:K13 K (.ref C) "__init__" = some (.(r f))
 fn:K51 K (.ref f)=true
 kp:K10 K (.ref C)=true
end
def PK (X:Cx) (kws:List K3f) (t:TA):Prop :=
 ∀(pos:Pos) (pins:List (Addr×Obj)) (s:Shared) (σ:St) (H:Hp) (Q:List V->Hp->Prop),Inv X pins σ H s->t σ H Q->wpAny (model X.prog X.w) X.A (evalAll ((K5j pos (K3i kws X.env)).map (·.2))) (AP X pins σ Q) X.xe s
section
variable {X:Cx}{CX:CXT}{k:Nat}{f C:Addr}{fd:K1l}{ps ks:List Str}{sp:Sp}{E:XK}{x m:Str}{p pos apos kpos:Pos}{e o:Expr}{es:List Expr}{kws:List K3f}{te ta:TE}{t tk:TA}{nm:Option Str}
structure KBinds (K:K0) (fd:K1l) (ps ks:List Str) (g:List Value->List Value->List Value) (gV:List V->List V->List V):Prop where
 to:∀(s:Shared) (us ws:List Value),K.In s.heap->(g us ws).length=ps.length->K7n s fd ⟨us,ks.zip ws⟩ (ps.zip (g us ws))
 rel:∀{vs:List V} {us:List Value} {zs:List V} {ws:List Value},Vals vs us->Vals zs ws->Vals (gV vs zs) (g us ws)
variable {g:List Value->List Value->List Value}{gV:List V->List V->List V}
end
structure FnScope (N P:List Str) (sc:Scope):Prop where
 kind:sc.kind=.function
 co:sc.isCoroutine=false
 gen:sc.isGenerator=false
 nd:N.Nodup
 pre:N.take P.length=P
 par:∀x∈P,sc.names.lookup x=some .local\/sc.names.lookup x=some .cell
 nofree:∀y∈sc.names,y.2≠.free
theorem z2S {kindOf:Str->Option K4c}{x:Str}:∀{binds:List (Str×Value)}{m:Str->Option Value},(∀v,(x,v)∉binds)->bindL kindOf binds m x=m x
 | [],_,_=>rfl
 | (n,v)::r,m,h=>by
  unfold bindL;rw[z2S λw hw=>h w (K0x _ hw)];split
  ·have:x≠n:=by rintro rfl;exact h v K1d
   simp[this]
  ·rfl
theorem z2U {kindOf:Str->Option K4c}{x:Str}:∀{binds:List (Str×Value)}{m:Str->Option Value},(∀v,(x,v)∉binds)->bindC kindOf binds m x=m x
 | [],_,_=>rfl
 | (n,v)::r,m,h=>by
  unfold bindC;rw[z2U λw hw=>h w (K0x _ hw)];split
  ·rfl
  ·have:x≠n:=by rintro rfl;exact h v K1d
   simp[this]
theorem z2N {kindOf:Str->Option K4c}{x:Str}{v:Value}:∀{P:List Str}{vs:List Value}{i:Nat}{m:Str->Option Value},P.Nodup->P[i]?=some x->vs[i]?=some v->kindOf x=some .local ->
 bindL kindOf (P.zip vs) m x=some v
 | [],_,_,_,_,h,_,_=>by simp at h
 | _::_,[],_,_,_,_,h,_=>by simp at h
 | p::P,w::vs,0,m,nd,h1,h2,hk=>by
  simp at h1 h2;subst h1;subst h2;show bindL kindOf ((p,w)::P.zip vs) m p=_;unfold bindL;rw[z2S λv hv=>(K4x.mp nd).1 (K6v hv).1,if_pos hk];simp
 | p::P,w::vs,i+1,m,nd,h1,h2,hk=>by
  show bindL kindOf ((p,w)::P.zip vs) m x=_;unfold bindL;exact z2N (i:=i) (K4x.mp nd).2 (by simpa using h1) (by simpa using h2) hk
theorem z2M {kindOf:Str->Option K4c}{x:Str}{v:Value}:∀{P:List Str}{vs:List Value}{i:Nat}{m:Str->Option Value},P.Nodup->P[i]?=some x->vs[i]?=some v->kindOf x≠some .local ->
 bindC kindOf (P.zip vs) m x=some v
 | [],_,_,_,_,h,_,_=>by simp at h
 | _::_,[],_,_,_,_,h,_=>by simp at h
 | p::P,w::vs,0,m,nd,h1,h2,hk=>by
  simp at h1 h2;subst h1;subst h2;show bindC kindOf ((p,w)::P.zip vs) m p=_;unfold bindC;rw[z2U λv hv=>(K4x.mp nd).1 (K6v hv).1,if_neg hk];simp
 | p::P,w::vs,i+1,m,nd,h1,h2,hk=>by
  show bindC kindOf ((p,w)::P.zip vs) m x=_;unfold bindC;exact z2M (i:=i) (K4x.mp nd).2 (by simpa using h1) (by simpa using h2) hk
def start (N:List Str) (vs:List V):St:=vs.map some++K02 (N.length - vs.length) none
def cxOf (CX:CXT) (P:K0a) (w:World) (K:K0) (mg:Str->Option Value) (base:Heap) (N:List Str) (qual:Str) (scope:Scope) (f:Addr) (cd:Value) (A:Around) (outer:List Env) (s:Shared) (H:Hp) (E:XK):Cx where
 prog:=P
 w:=w
 K:=K
 mg:=mg
 base:=base
 A:=A.deeper (envOfC qual scope s.heap.objs.size f cd)
 N:=N
 s₀:=s
 H₀:=H
 env:=envOfC qual scope s.heap.objs.size f cd
 outer:=outer
 stack:=envOfC qual scope s.heap.objs.size f cd::outer
 ex:=[]
 calm:=true
 fn:=λ_=>true
 pn:=[]
 xe:=λe s'=>wpAny (model P w) (A.deeper (envOfC qual scope s.heap.objs.size f cd)) (leaving (envOfC qual scope s.heap.objs.size f cd) e) (λ_ s''=>CX outer H s E e s'') (λe' s''=>CX outer H s E e' s'') s'
theorem z45 {sc:Scope}{n:Nat}{x:Str}(h:sc.names.lookup x=some .cell):∃c,(cellsFrom n sc.names []).lookup x=some c:=by
 have q:=K6n sc.names n [] (.inl h);exact Option.isSome_iff_exists.mp q
theorem z5g {CX:CXT}{P:K0a}{w:World}{K:K0}{mg:Str->Option Value}{base:Heap}{N ps:List Str}{qual:Str}{scope:Scope}{f:Addr}{cd:Value}{A:Around}{outer:List Env}{s s1:Shared}{H:Hp}{E:XK}{us:List Value}{vs:List V}
 (S:FnScope N ps scope) (hd:A.handled=none) (e0:Env0 P w K mg base A outer s H) (hl:vs.length=ps.length) (r:Vals vs us)
 (x:InCallC s s.heap.objs.size (bindL (envOfC qual scope s.heap.objs.size f cd).kindOf (ps.zip us) λ_=>none) (cellsFrom (s.heap.objs.size+1) scope.names []) (bindC (envOfC qual scope s.heap.objs.size f cd).kindOf (ps.zip us) λ_=>none) s1) :
 Inv (cxOf CX P w K mg base N qual scope f cd A outer s H E) [] (start N vs) H s1:=by
 have hpl:ps.length<=N.length:=by have:=congrArg K5v S.pre;rw[K28]at this;omega
 obtain⟨h1,tk,rfl,hk⟩:=x.done;have noA:∀b:Addr,b∉(cxOf CX P w K mg base N qual scope f cd A outer s H E).ex:=λb z=>absurd (show b∈([]:List Addr) from z) (by simp);refine⟨⟨e0.mod,S.kind,rfl,rfl,K08 _,λy z c h1 h2=>?_,λy hy=>?_,λy c _ h=>?_,λ_=>hd,Around.frames_deeper e0.frames,.inr ⟨rfl,rfl⟩,λb z=>absurd z (noA b),e0.bs,e0.bsz,λb _ _=>noA b,λb z=>absurd z (noA b),e0.funs,e0.frf⟩,
  rfl,e0.bare,Un.kept hk,⟨_,x.toInCall.ns,λi y v h1 h2 h3=>?_⟩,λy c h=>⟨_,x.cell y c h⟩,e0.hok.fresh (K08 _),λy c h=>?_,λp hp=>absurd (show p∈([]:List (Addr×Obj)) from hp) (by simp),e0.hok.kept hk,?_⟩
 ·exact name_of_addr x.apart (K1m h1) (K1m h2)
 ·have hy:scope.names.lookup y=some .cell\/scope.names.lookup y=some .free:=hy;rcases hy with hy|hy
  ·exact z45 hy
  ·exact absurd rfl (S.nofree _ (K1m hy))
 ·exact K36 (x.above y c (K1m h))
 ·have hi:i<vs.length:=by
   unfold start at h2;by_cases hi:i<vs.length
   ·exact hi
   ·rw[K0t (by simpa using hi)]at h2;rw[K33]at h2;split at h2<;>cases h2
  have ha:vs[i]?=some v:=by
   unfold start at h2;rw[K06 (by simpa using hi),K0n]at h2;cases e:vs[i]? with
   | none=>rw[e]at h2;cases h2
   | some a=>rw[e]at h2;cases h2;rfl
  obtain⟨u,hu,rv⟩:=r.get ha;have hp:ps[i]?=some y:=by
   rw[<- S.pre,List.getElem?_take_of_lt (by omega)];exact h1
  have ndP:ps.Nodup:=by rw[<- S.pre];exact S.nd.sublist (K8j _ _)
  refine⟨u,rv,?_⟩;rcases S.par y (K0r hp) with k|k
  ·exact .inl ⟨k,z2N ndP hp hu k⟩
  ·obtain⟨c,e⟩:=z45 (n:=s.heap.objs.size+1) k;refine .inr ⟨.inl k,c,e,?_⟩;have q:=x.cell y c e;rw[z2M ndP hp hu (by show scope.names.lookup y≠_;rw[k];decide)]at q;exact q
 ·exact e0.hok.fresh (K36 (x.above y c (K1m h)))
 ·unfold start;show _=N.length;rw[K9,K0j,K25];omega
theorem z7N {CX:CXT}{P:K0a}{w:World}{K:K0}{mg:Str->Option Value}{base:Heap}{k:Nat}{f:Addr}{name qual:Str}{params:Arguments}{body:List Stmt}{scope:Scope}{dV kV doc pm cdv ct oc:Value}{an od:Option Addr}
 {osl:Array (Option Value)} {N ps:List Str} {sp:Sp} (lk:K.lookup f=some ⟨oc,od,.func (K1w name qual params body scope dV kV doc pm an cdv ct),osl⟩) (hcd:K29 K cdv qual=true) (S:FnScope N ps scope)
 (len:∀vs H Q E,sp vs H Q E->vs.length=ps.length)
 (hbody:∀(A:Around) (outer:List Env) (s:Shared) (H:Hp) (vs:List V) (Q:VK) (E:XK),Room k (A.deeper (envOfC qual scope s.heap.objs.size f cdv))->sp vs H Q E ->
  ∃t,PSs (cxOf CX P w K mg base N qual scope f cdv A outer s H E) body t/\t { nx:=λ_ H'=>Q .non H',rt:=Q } (start N vs) H) :
 FnOk P w K mg base CX (k+1) f (K1w name qual params body scope dV kV doc pm an cdv ct) ps sp:=by
 refine⟨len,λA outer s H args us vs Q E hr e0 hb r hsp=>?_⟩;have hl:=len _ _ _ _ hsp;have KX:K.In s.heap:=e0.mod.kin.keeps λb o e=>(e0.bs b o e).1;have lim:s.heap.NoLimit:=e0.mod.nolimit.keeps λb o e=>(e0.bs b o e).1;have hkind:∀y∈ps.zip us,scope.names.lookup y.1=some .local\/(scope.names.lookup y.1=some .cell/\((cellsFrom (s.heap.objs.size+1) scope.names []).lookup y.1).isSome=true):=λ⟨n,v⟩ hy=>by
  rcases S.par n (K6v hy).1 with q|q
  ·exact .inl q
  ·exact .inr ⟨q,K6n _ _ _ (.inl q)⟩
 refine codeAny_call_function hr.depth (KX _ _ lk) rfl S.co S.gen rfl (PySem.W.codeRec_of KX hcd) (hb _ _ _ _ ?_);refine wpAny_newFunctionEnv_cells S.kind hkind λenv he s1 x=>?_;subst he;refine⟨lim.keeps x.toInCall.keep,codeAny_func ?_⟩;obtain⟨t,ht,hq⟩:=hbody A outer s H vs Q E (hr.deeper _) hsp;have I:Inv (cxOf CX P w K mg base N qual scope f cdv A outer s H E) [] (start N vs) H s1:=z5g S hr.hd e0 hl r x;refine K2x (ht [] s1 (start N vs) H _ I hq) (λfl s' hs=>?_) λe s' hs=>hs;have fin:∀{σ':St} {H':Hp} {v:V} {u:Value},Inv (cxOf CX P w K mg base N qual scope f cdv A outer s H E) [] σ' H' s'->RelV v u->Q v H'->CE outer P w H s Q u s' :=
  λ{σ' H' v u} J rv q=>⟨v,H',J.os,J.bare,J.base,J.hok,rv,q⟩
 cases fl with
 | ret u =>
  obtain⟨v,σ',H',J,rv,q⟩:=hs;exact fin J rv q
 | next =>
  obtain⟨σ',H',J,q⟩:=hs;exact fin (v:=V.non) (u:=K3y) J rfl q
 | brk =>
  obtain⟨_,_,_,q⟩:=hs;exact K1y q
 | cont =>
  obtain⟨_,_,_,q⟩:=hs;exact K1y q
section
variable {X:Cx}{x:Str}{p pos:Pos}{e:Expr}{es:List Expr}{t:TA}{id T:String}{r:List V->Hp->VK->Prop}
def tCB (r:List V->Hp->VK->Prop) (t:TA):TE:=λσ H Q=>t σ H λvs H1=>r vs H1 Q
theorem z0P (hc:CallR X (.builtin id) r) (hg:Gl X x) (hm:X.mg x=none) (hv:K3o x=some (.builtin id)) (ha:PA X (e::es) t) (hn:x≠"__name__":=by decide) (hdb:(x==("__debug__":Str))=false:=by decide)
 (he:K07 (e::es) X.env=(false,eval e X.env)::K07 es X.env:=by rfl) (hpl:(backTo pos (K07 es X.env)).any (·.1)=false:=by rfl):PE X (.Call (.Name x p) (e::es) [] pos) (tCB r t):=by
 intro pins s σ H Q I h;refine K41 (z39 I hg hm hv ?_ hn hdb);exact PyProof.Rows.callWith_builtin1 (thn (ha pos pins s σ H _ I h) λus s1 ⟨vs,H1,I1,r1,q1⟩=>hc pins s1 σ H1 vs us Q I1 r1 q1) he hpl
theorem z1I (hc:CallR X (.type T) r) (hg:Gl X x) (hm:X.mg x=none) (hv:K3o x=some (.type T)) (ha:PA X (e::es) t) (hn:x≠"__name__":=by decide) (hdb:(x==("__debug__":Str))=false:=by decide)
 (he:K07 (e::es) X.env=(false,eval e X.env)::K07 es X.env:=by rfl) (hpl:(backTo pos (K07 es X.env)).any (·.1)=false:=by rfl):PE X (.Call (.Name x p) (e::es) [] pos) (tCB r t):=by
 intro pins s σ H Q I h;refine K41 (z39 I hg hm hv ?_ hn hdb);exact K3e (thn (ha pos pins s σ H _ I h) λus s1 ⟨vs,H1,I1,r1,q1⟩=>hc pins s1 σ H1 vs us Q I1 r1 q1) he hpl
end
end L2
namespace HT
open PySem PyProof.Rows
section
open PySem.SeqAt
open PySem.AutoSeq1 (wpAny_loadPart')
open PySem.MeetsSeq PySem.MeetsSeq2 PySem.MeetsSeq3
end
section
variable {prog:K0a}{w:World}{A:Around}{E:Value->Shared->Prop}{s:Shared}
theorem cat_tup {t b:Addr}{vs ws:List Value}{Q:Value->Shared->Prop}(ht:IsTup s.heap t vs.toArray) (hb:IsTup s.heap b ws.toArray) (hv:vs≠[])
 (h1:ws=[]->Q (.ref t) s) (h2:ws≠[]->Q (.ref s.heap.objs.size) { s with heap:=s.heap.push { cls:=.type "tuple",data:=.seq (vs++ws).toArray } })
 (hsz:vs.length+ws.length<=sizeLine):wpAny (model prog w) A (K27 .Add (.ref t) (.ref b)) Q E s:=by
 obtain⟨⟨cls,dd,data,sl⟩,ho,hc,n,hd⟩:=id ht;obtain⟨⟨cls2,dd2,data2,sl2⟩,ho2,hc2,n2,hd2⟩:=id hb;simp only at hc hd hc2 hd2;subst hc hd hc2 hd2;have e:vs.toArray++ws.toArray=(vs++ws).toArray:=by simp
 by_cases hw:ws=[]
 ·exact K8m ⟨_,ho,rfl⟩ ⟨_,ho2,rfl⟩ K6f K7w K4j K46 (K3w _ _)
   (tuple_addW1 t b vs.toArray ws.toArray n n2 dd dd2 sl sl2 (by simpa using hv) (by simp[hw])) ⟨ho,ho2,h1 hw⟩
 ·refine K8m ⟨_,ho,rfl⟩ ⟨_,ho2,rfl⟩ K6f K7w K4j K46 (K3w _ _)
   (tuple_addW2 t b vs.toArray ws.toArray n n2 dd dd2 sl sl2 (by simpa using hv) (by simpa using hw) (by rw[K00,K00];exact hsz)) ⟨ho,ho2,?_⟩
  rw[e];exact h2 hw
def sIx (n d:Nat):Option Int->Nat
 | none=>d
 | some v=>if v<0 then (v+(n:Int)).toNat else min v.toNat n
theorem sIx_none (n d:Nat):sIx n d none=d:=rfl
theorem sIx_nat (n d k:Nat):sIx n d (some (k:Int))=min k n:=by
 show (if (k:Int)<0 then ((k:Int)+(n:Int)).toNat else min (k:Int).toNat n)=min k n;rw[if_neg (by omega),K4i]
theorem z9E (n d:Nat) (hd:d<=n) (o:Option Int):sIx n d o<=n:=by
 cases o with
 | none=>exact hd
 | some v =>
  show (if v<0 then (v+(n:Int)).toNat else min v.toNat n)<=n;by_cases hv:v<0
  ·rw[if_pos hv];omega
  ·rw[if_neg hv];exact Nat.min_le_right _ _
theorem z5W (v:Int) (n d:Nat):(if v<0 then max (v+(n:Int)) 0 else min v (n:Int))=((sIx n d (some v):Nat):Int):=by
 show (if v<0 then max (v+(n:Int)) 0 else min v (n:Int))=(((if v<0 then (v+(n:Int)).toNat else min v.toNat n):Nat):Int);by_cases hv:v<0
 ·simp only[if_pos hv];omega
 ·simp only[if_neg hv];omega
theorem z4u (lo hi:Option Int) (n:Nat):K3p lo hi 1 (n:Int)=(((sIx n 0 lo:Nat):Int),((sIx n n hi:Nat):Int)):=by
 have h1:¬ ((1:Int)<0):=by omega
 unfold K3p;simp only[h1,if_false];refine Prod.ext ?_ ?_
 ·cases lo with
  | none=>rfl
  | some v=>exact z5W v n 0
 ·cases hi with
  | none=>rfl
  | some v=>exact z5W v n n
theorem z4i (i j:Nat):K2m (i:Int) (j:Int) 1=j - i:=by
 unfold K2m;have h1:(1:Int) > 0:=by omega
 simp only[h1,if_true,Int.ediv_one];split<;>omega
theorem z2j {v:Value}{o:Option Int}{Q:Option Int->Shared->Prop}(p:IsPart v o) (h:Q o s):wpAny (model prog w) A (Builtin.Slice.slicePartIndex v) Q E s:=by
 cases p with
 | none=>exact slicePart_none h
 | int i t=>exact slicePart_int h
theorem sliceApplied_gen {sl:Addr}{vl vu:Value}{lo hi:Option Int}{n:Nat}{Q:Int×Int×Nat->Shared->Prop}(hs:s.heap.IsSliceOf sl vl vu .none) (pl:IsPart vl lo) (pu:IsPart vu hi)
 (h:Q (((sIx n 0 lo:Nat):Int),1,sIx n n hi - sIx n 0 lo) s):wpAny (model prog w) A (K5i (.ref sl) (pure (n:Int))) Q E s:=by
 obtain⟨os,hos,hcs,hds⟩:=id hs;unfold K5i Builtin.Slice.sliceFields;refine K2 (K2 (K2t hos hds (x:=vl) rfl (K2 (K2t hos hds (x:=vu) rfl (K2 (K2t hos hds (x:=.none) rfl (K04 ?_)))))));refine K2 (slicePart_none ?_);show wpAny _ _ (if ((1:Int)==0)=true then _ else _) _ _ s;rw[if_neg (by decide)];refine K2 (z2j pl (K2 (z2j pu (K2 (K04 ?_)))));show wpAny _ _ (match K3p lo hi 1 (n:Int) with|(lo,hi)=>pure (lo,(1:Int),K2m lo hi 1)) _ _ s;rw[z4u lo hi n];show wpAny _ _ (pure (((sIx n 0 lo:Nat):Int),(1:Int),K2m ((sIx n 0 lo:Nat):Int) ((sIx n n hi:Nat):Int) 1)) _ _ s;rw[z4i];exact K04 h
theorem z65 (xs:Array Value) (i k:Nat):((K0u k).filterMap λ(m:Nat)=>xs[((i:Int)+(m:Int) * 1).toNat]?).toArray=((xs.toList.drop i).take k).toArray:=by
 have e:(λ(m:Nat)=>xs[((i:Int)+(m:Int) * 1).toNat]?)=λm=>xs[i+m]?:=by
  funext m;have:((i:Int)+(m:Int) * 1).toNat=i+m:=by omega
  rw[this]
 rw[e];have:=pick_run xs i k;rw[K87]at this;have e2:((λx=>xs[x]?) ∘ λx=>i+x)=λm=>xs[i+m]?:=rfl;rw[e2]at this;rw[this]
theorem getItem_tuple_cut {t sl:Addr}{items:Array Value}{vl vu:Value}{lo hi:Option Int}{Q:Value->Shared->Prop}(ht:IsTup s.heap t items) (hs:s.heap.IsSliceOf sl vl vu .none) (pl:IsPart vl lo) (pu:IsPart vu hi)
 (hw:¬ (sIx items.size 0 lo=0/\sIx items.size items.size hi=items.size))
 (h:Q (.ref s.heap.objs.size) { s with heap:=s.heap.push { cls:=.type "tuple",data:=.seq ((items.toList.drop (sIx items.size 0 lo)).take (sIx items.size items.size hi - sIx items.size 0 lo)).toArray } })
 (hsz:items.size<=sizeLine):wpAny (model prog w) A (K6g (.ref t) (.ref sl)) Q E s:=by
 have htake:sizeOk (.seq ((items.toList.drop (sIx items.size 0 lo)).take (sIx items.size items.size hi - sIx items.size 0 lo)).toArray):=by
  show ((items.toList.drop (sIx items.size 0 lo)).take (sIx items.size items.size hi - sIx items.size 0 lo)).toArray.size<=sizeLine;rw[K00,K28,K8v,K20];omega
 have hj:sIx items.size items.size hi<=items.size:=z9E _ _ (K08 _) hi;obtain⟨os,hos,hcs,hds⟩:=id hs;have hTs:s.TypeIs (.ref sl) "slice":=⟨os,hos,hcs⟩;unfold K6g
 try with_reducible refine K2j ?_
 first|refine K2 (K04 ?_)|skip
 refine K2 (K61 ht.typeIs (by decide) ?_);refine K2 (K2a (name:=K22 "__getitem__") ht.typeIs K15
  (K32 K15 ht.typeIs K7u ?_ (args_tuple_getitem _ _)))
 show wpAny _ _ (K5g (.ref t) >>= _) _ _ s;refine K2 (tupleItemsOf_ ht ?_);refine K2 (K58 hTs ?_);rw[if_pos (by decide)];refine K2 (sliceApplied_gen hs pl pu ?_);have hno:¬ ((((sIx items.size 0 lo:Nat):Int)==0&&(1:Int)==1&&(sIx items.size items.size hi - sIx items.size 0 lo)==items.size)=true):=by
  intro q;rw[K0b,K0b]at q;have q1:((sIx items.size 0 lo:Nat):Int)=0:=eq_of_beq q.1.1;have q2:sIx items.size items.size hi - sIx items.size 0 lo=items.size:=eq_of_beq q.2;exact hw ⟨by omega,by omega⟩
 show wpAny _ _ (if (((sIx items.size 0 lo:Nat):Int)==0&&(1:Int)==1&&(sIx items.size items.size hi - sIx items.size 0 lo)==items.size)=true then _ else _) _ _ s;rw[if_neg hno,z65]
 first
  | exact K2 (m:=K2v _) (K1n (K04 ⟨_,rfl,K04 h⟩) htake)
  | exact K2 (m:=K2v _) (K1n (K2 (K04 (K04 ⟨_,rfl,K04 h⟩))) htake)
  | exact K2 (K2 (m:=K2v _) (K1n (K04 (K04 ⟨_,rfl,K04 h⟩)) htake))
  | exact K2 (K2 (m:=K2v _) (K1n (K04 ⟨_,rfl,K04 h⟩) htake))
end
end HT
namespace L2
abbrev TO:=St->Hp->(Option Int->Hp->Prop)->Prop
def PO (X:Cx) (e:Option Expr) (t:TO):Prop :=
 ∀(pins:List (Addr×Obj)) (s:Shared) (σ:St) (H:Hp) (Q:Option Int->Hp->Prop),Inv X pins σ H s->t σ H Q ->
  wpAny (model X.prog X.w) X.A (evalPart e X.env) (λu s'=>∃o H',Inv X pins σ H' s'/\IsPart u o/\Q o H') X.xe s
def z8k:TO:=λ_ H Q=>Q none H
def zk7 (t:TE):TO:=λσ H Q=>t σ H λx H1=>∃i,x=.int i/\Q (some i) H1
theorem intsAre_of {ns:List Int}:∀{us:List Value},Vals (ns.map V.int) us->K6i us ns:=by
 induction ns with
 | nil=>intro us r;rw[K35]at r;cases r;exact .nil
 | cons n ns ih =>
  intro us r;rw[K0s]at r;cases r with
  | cons r1 r2 =>
   obtain⟨t,e⟩:=r1;subst e;exact .cons n t (ih r2)
section
variable {X:Cx}{e:Expr}{te:TE}{lo hi:Option Expr}{tl th:TO}{pos p2:Pos}
theorem z7R:PO X none z8k:=by
 intro pins s σ H Q I h;rw[evalPart_none];exact K04 ⟨none,H,I,.none,h⟩
theorem z85 (h:PE X e te):PO X (some e) (zk7 te):=by
 intro pins s σ H Q I hw;rw[evalPart_some];refine thn (h pins s σ H _ I hw) λu s1 ⟨x,H1,I1,r1,q1⟩=>?_;obtain⟨i,rfl,q⟩:=q1;obtain⟨t,rfl⟩:=r1;exact⟨some i,H1,I1,.int i t,q⟩
def SlR (X:Cx) (r:V->Option Int->Option Int->Hp->VK->Prop):Prop :=
 ∀(pins:List (Addr×Obj)) (s:Shared) (σ:St) (H:Hp) (x:V) (v vl vu:Value) (lo hi:Option Int) (sl:Addr) (Q:VK),Inv X pins σ H s->RelV x v->s.heap.IsSliceOf sl vl vu .none->IsPart vl lo->IsPart vu hi->r x lo hi H Q ->
  ∃T id,typeLookup (.type T) "__getitem__" = pure (some (.builtin id))/\s.TypeIs v T/\wpAny (model X.prog X.w) X.A (K6g v (.ref sl)) (EP X pins σ Q) X.xe s
theorem SlR.or {r r':V->Option Int->Option Int->Hp->VK->Prop}(h:SlR X r) (h':SlR X r'):SlR X (λx lo hi H Q=>r x lo hi H Q\/r' x lo hi H Q):=by
 intro pins s σ H x v vl vu lo hi sl Q I rx hs pl pu q;rcases q with q|q
 ·exact h pins s σ H x v vl vu lo hi sl Q I rx hs pl pu q
 ·exact h' pins s σ H x v vl vu lo hi sl Q I rx hs pl pu q
def tSl (r:V->Option Int->Option Int->Hp->VK->Prop) (te:TE) (tl th:TO):TE:=λσ H Q=>te σ H λx H1=>tl σ H1 λl H2=>th σ H2 λu H3=>r x l u H3 Q
theorem z6X {r:V->Option Int->Option Int->Hp->VK->Prop}(hr:SlR X r) (he:PE X e te) (hl:PO X lo tl) (hu:PO X hi th):PE X (.Subscript e (.Slice lo hi none p2) pos) (tSl r te tl th):=by
 intro pins s σ H Q I h;refine Subscript_ (thn (he pins s σ H _ I h) λv s1 ⟨x,H1,I1,r1,q1⟩=>?_);refine wpAny_Slice (thn (hl pins s1 σ H1 _ I1 q1) λvl s2 ⟨l,H2,I2,pl,q2⟩=>thn (hu pins s2 σ H2 _ I2 q2) λvu s3 ⟨u,H3,I3,pu,q3⟩=>?_);rw[evalPart_none];refine K04 ?_;have I4:Inv X pins σ H3 { s3 with heap:=s3.heap.push { cls:=.type "slice",data:=.fields #[vl,vu,.none] } }:=I3.kept (t':=s3.toks) λb ob q=>K8 _ q;obtain⟨T,id,hT,ht,hg⟩:=hr pins { s3 with heap:=s3.heap.push { cls:=.type "slice",data:=.fields #[vl,vu,.none] } } σ H3 x v vl vu l u s3.heap.objs.size Q I4 r1 (Heap.IsSliceOf.new ..) pl pu q3;show wpAny (model X.prog X.w) X.A (subscriptTail e (.Slice lo hi none p2) v (.ref s3.heap.objs.size)) (EP X pins σ Q) X.xe { s3 with heap:=s3.heap.push { cls:=.type "slice",data:=.fields #[vl,vu,.none] } };exact tail_any (ops:=[.ref s3.heap.objs.size,v]) ht hT hg (by with_unfolding_all rfl)
def cutV (xs:List V) (lo hi:Option Int):List V:=(xs.drop (HT.sIx xs.length 0 lo)).take (HT.sIx xs.length xs.length hi - HT.sIx xs.length 0 lo)
theorem z1U (xs:List V) (lo hi:Option Int):(cutV xs lo hi).length<=xs.length:=by
 unfold cutV;rw[K28,K8v];omega
def rSlT (K:K0):V->Option Int->Option Int->Hp->VK->Prop:=λx lo hi H Q=>∃a xs,x=.ref a/\SqT K H a xs /\
 ¬ (HT.sIx xs.length 0 lo=0/\HT.sIx xs.length xs.length hi=xs.length)/\∀p,H p=none->Q (.ref p) (upd H p (.tup (cutV xs lo hi)))
theorem sl_tup:SlR X (rSlT X.K):=by
 intro pins s σ H x v vl vu lo hi sl Q I rx hs pl pu h;obtain⟨a,xs,rfl,hx,hw,q⟩:=h;cases rx;obtain⟨its,r,ht,hz⟩:=I.tuple hx;have hlen:its.toArray.size=xs.length:=by rw[K00];exact r.length.symm
 refine⟨"tuple",_,K15.lookup,ht.typeIs,?_⟩;refine HT.getItem_tuple_cut ht hs pl pu (by rw[hlen];exact hw) ?_ (by rw[hlen];exact hz);rw[hlen];refine⟨.ref s.heap.objs.size,_,I.laid (t':=s.toks) (o:=.tup (cutV xs lo hi)) (λb ob q=>K8 _ q) (K08 _) ?_,rfl,q _ (I.hok.fresh (K08 _))⟩;exact⟨K0h (z1U xs lo hi) hz,_,(r.drop (HT.sIx xs.length 0 lo)).take (HT.sIx xs.length xs.length hi - HT.sIx xs.length 0 lo),FT.IsTup0.new _ _⟩
def z7D (K:K0):R2:=λx y H Q=>∃a b xs ys,x=.ref a/\y=.ref b/\SqT K H a xs/\SqT K H b ys/\xs≠[]/\xs.length+ys.length<=sizeLine /\
 (ys=[]->Q (.ref a) H)/\(ys≠[]->∀p,H p=none->Q (.ref p) (upd H p (.tup (xs++ys))))
theorem Vals.nil_iff {xs:List V}{us:List Value}(r:Vals xs us):us=[]↔xs=[]:=by
 cases r with
 | nil=>simp
 | cons _ _=>simp
theorem op_catT:OpR X (K27 .Add) (z7D X.K):=by
 intro pins s σ H x y v u Q I rx ry h;obtain⟨a,b,xs,ys,rfl,rfl,ha,hb,hx,hz,q1,q2⟩:=h;cases rx;cases ry;obtain⟨its,r1,p1,_⟩:=I.tuple ha;obtain⟨its2,r2,p2,_⟩:=I.tuple hb;refine HT.cat_tup p1 p2 (λz=>hx (r1.nil_iff.mp z)) (λz=>⟨.ref a,H,I,rfl,q1 (r2.nil_iff.mp z)⟩) (λz=>?_) (by rw[<- r1.length,<- r2.length];exact hz);refine⟨.ref s.heap.objs.size,_,I.laid (t':=s.toks) (o:=.tup (xs++ys)) (λb ob q=>K8 _ q) (K08 _) ?_,rfl,q2 (λw=>z (r2.nil_iff.mpr w)) _ (I.hok.fresh (K08 _))⟩;exact⟨by rw[K9];exact hz,_,r1.append r2,FT.IsTup0.new _ _⟩
end
def ixN (n:Nat) (i:Int):Option Nat:=if 0<=i then (if i<n then some i.toNat else none) else if -(n:Int)<=i then some (i+n).toNat else none
def atI {α:Type} (xs:List α) (i:Int):Option α:=(ixN xs.length i).bind λj=>xs[j]?
theorem z5v {n:Nat}{i:Int}{j:Nat}(h:ixN n i=some j):K6a i n=some j/\j<n/\-(n:Int)<=i/\i<n:=by
 unfold ixN at h;by_cases h0:0<=i
 ·rw[if_pos h0]at h;by_cases h1:i<n
  ·rw[if_pos h1]at h;have e:i.toNat=j:=K0p h;exact⟨by rw[K8z h0 h1,e],by omega,by omega,h1⟩
  ·rw[if_neg h1]at h;cases h
 ·rw[if_neg h0]at h;by_cases h1:-(n:Int)<=i
  ·rw[if_pos h1]at h;have e:(i+n).toNat=j:=K0p h;exact⟨by rw[K8l (by omega) h1,e],by omega,h1,by omega⟩
  ·rw[if_neg h1]at h;cases h
theorem z3A {α:Type}{xs:List α}{i:Int}{v:α}(h:atI xs i=some v):∃j,K6a i xs.length=some j/\xs[j]?=some v/\j<xs.length/\-(xs.length:Int)<=i/\i<xs.length:=by
 unfold atI at h;cases e:ixN xs.length i with
 | none=>rw[e]at h;cases h
 | some j =>
  rw[e]at h;obtain⟨h1,h2,h3,h4⟩:=z5v e;exact⟨j,h1,h,h2,h3,h4⟩
theorem z1V {α:Type}{xs:List α}{j:Nat}{v:α}(h:xs[j]?=some v):atI xs (j:Int)=some v:=by
 have hj:j<xs.length:=(K4.mp h).1;have e:ixN xs.length (j:Int)=some j:=by
  unfold ixN;rw[if_pos (by omega),if_pos (by omega)];simp
 unfold atI;rw[e];exact h
def z5p (b:Expr):Prop:=∀o i,subscripted b false o i=operate [o,i] (K6g o i)
def IxR (X:Cx) (r:R2):Prop :=
 ∀(value slice:Expr) (pins:List (Addr×Obj)) (s:Shared) (σ:St) (H:Hp) (x y:V) (v u:Value) (Q:VK),Inv X pins σ H s->RelV x v->RelV y u->r x y H Q ->
  subscripted slice false v u=operate [v,u] (K6g v u)->wpAny (model X.prog X.w) X.A (subscriptTail value slice v u) (EP X pins σ Q) X.xe s
def MtR (X:Cx) (id:String) (r:V->List V->Hp->VK->Prop):Prop :=
 ∀(pins:List (Addr×Obj)) (s:Shared) (σ:St) (H:Hp) (x:V) (xs:List V) (v:Value) (us:List Value) (Q:VK),Inv X pins σ H s->RelV x v->Vals xs us->r x xs H Q ->
  wpAny (model X.prog X.w) X.A (call (.builtin id) (v::us)) (EP X pins σ Q) X.xe s
section
variable {X:Cx}{a b:Expr}{ta tb:TE}{pos:Pos}
theorem IxR.or {r r':R2}(h:IxR X r) (h':IxR X r'):IxR X (λx y H Q=>r x y H Q\/r' x y H Q):=by
 intro value slice pins s σ H x y v u Q I rx ry q hs;rcases q with q|q
 ·exact h value slice pins s σ H x y v u Q I rx ry q hs
 ·exact h' value slice pins s σ H x y v u Q I rx ry q hs
theorem MtR.or {id:String}{r r':V->List V->Hp->VK->Prop}(h:MtR X id r) (h':MtR X id r'):MtR X id (λx xs H Q=>r x xs H Q\/r' x xs H Q):=by
 intro pins s σ H x xs v us Q I rx rs q;rcases q with q|q
 ·exact h pins s σ H x xs v us Q I rx rs q
 ·exact h' pins s σ H x xs v us Q I rx rs q
theorem zi8 {r:R2}(hr:IxR X r) (ha:PE X a ta) (hb:PE X b tb) (hs:z5p b):PE X (.Subscript a b pos) (tOp r ta tb):=by
 intro pins s σ H Q I h;exact Subscript_ (binT ha hb I h λv u s2 x y H2 I2 rx ry q=>hr a b pins s2 σ H2 x y v u Q I2 rx ry q (hs _ _))
def rIxL (K:K0):R2:=λx y H Q=>∃p xs i v,x=.ref p/\y=.int i/\SqL K H p xs/\atI xs i=some v/\Q v H
def rIxT (K:K0):R2:=λx y H Q=>∃p xs i v,x=.ref p/\y=.int i/\SqT K H p xs/\atI xs i=some v/\Q v H
def rIxS:R2:=λx y H Q=>∃z i c,x=.str z/\y=.int i/\z.length<=sizeLine/\atI z.cps.toList i=some c/\Q (.str ⟨#[c]⟩) H
theorem ix_list:IxR X (rIxL X.K):=by
 intro value slice pins s σ H x y v u Q I rx ry h hs;obtain⟨p,xs,i,z,rfl,rfl,hq,he,q⟩:=h;cases rx;obtain⟨t,rfl⟩:=ry;obtain⟨its,r,pl,hz⟩:=I.list hq;obtain⟨j,h1,h2,h3,h4,h5⟩:=z3A he;obtain⟨w,ew,rw'⟩:=r.get h2;have hl:=r.length;have hn:=z2c;have fin:EP X pins σ Q w s:=⟨z,H,I,rw',q⟩;by_cases h0:0<=i
 ·have hj:i.toNat=j:=by
   rw[K8z h0 h5]at h1;exact K0p h1
  exact item_listR pl.isList h0 (by omega) (by rw[hj];simpa using ew) fin hs
 ·have hj:(i+(its.toArray.size:Int)).toNat=j:=by
   rw[K8l (by omega) h4]at h1;rw[K00,<- hl];exact K0p h1
  exact K6s (x:=w) pl.isList.typeIs K8a.lookup
   (wpAny_getItem_list_neg (Q:=λr s'=>r=w/\EP X pins σ Q r s') pl.isList (by omega) (by rw[K00]<;>omega) (by omega) (by rw[hj];simpa using ew) ⟨rfl,fin⟩) hs
theorem ix_tup:IxR X (rIxT X.K):=by
 intro value slice pins s σ H x y v u Q I rx ry h hs;obtain⟨p,xs,i,z,rfl,rfl,hq,he,q⟩:=h;cases rx;obtain⟨t,rfl⟩:=ry;obtain⟨its,r,pl,hz⟩:=I.tuple hq;obtain⟨j,h1,h2,h3,h4,h5⟩:=z3A he;obtain⟨w,ew,rw'⟩:=r.get h2;have hl:=r.length;have hn:=z2c;have fin:EP X pins σ Q w s:=⟨z,H,I,rw',q⟩;exact K6s (x:=w) pl.typeIs slot_tuple_getitem.lookup
  (getItem_tuple (j:=j) (Q:=λr s'=>r=w/\EP X pins σ Q r s') pl (by omega) (by omega) (by rw[K00,<- hl];exact h1) (by simpa using ew) ⟨rfl,fin⟩) hs
theorem z9a:IxR X rIxS:=by
 intro value slice pins s σ H x y v u Q I rx ry h hs;obtain⟨z,i,c,rfl,rfl,hz,he,q⟩:=h;obtain⟨t,rfl⟩:=rx;obtain⟨t',rfl⟩:=ry;obtain⟨j,h1,h2,h3,h4,h5⟩:=z3A he;have hl:z.cps.toList.length=z.length:=by simp[K81]
 rw[hl]at h1 h4 h5;have hn:=z2c;exact tail_any (typeIs_str s z t) slot_str_getitem.lookup (getItem_str (c:=c) (by
  have e1:decide (i < -(2 ^ 63:Int))=false:=decide_eq_false (by omega);have e2:decide (i >= 2 ^ 63)=false:=decide_eq_false (by omega);rw[e1,e2,Bool.or_false]) (by rw[h1];simpa using h2) ⟨.str ⟨#[c]⟩,H,I.tok _,⟨_,rfl⟩,q⟩) hs
def rIx (K:K0):R2:=λx y H Q=>rIxL K x y H Q\/rIxT K x y H Q\/rIxS x y H Q
theorem z9O:IxR X (rIx X.K):=ix_list.or (ix_tup.or z9a)
theorem z4h (its:List Value) (n j:Nat) (u:Value):K5d (·.setIfInBounds j u) { cls:=.type "list",data:=.seq its.toArray n }={ cls:=.type "list",data:=.seq (its.set j u).toArray n }:=by
 simp[K5d]
theorem Inv.lst {pins:List (Addr×Obj)}{σ:St}{H:Hp}{s:Shared}{p:Addr}{xs:List V}(I:Inv X pins σ H s) (h:H p=.(l xs)) :
 ∃(its:List Value) (n:Nat),Vals xs its/\s.heap.get? p=some { cls:=.type "list",data:=.seq its.toArray n }/\xs.length<=sizeLine:=by
 obtain⟨z,its,n,r,e⟩:=I.hok p _ h;exact⟨its,n,r,e,z⟩
theorem Inv.lstUpd {pins:List (Addr×Obj)}{σ:St}{H:Hp}{s:Shared}{p:Addr}{xs ys:List V}{its its':List Value}{n n':Nat}{f:Obj->Obj}(I:Inv X pins σ H s) (h:H p=.(l xs))
 (ho:s.heap.get? p=some { cls:=.type "list",data:=.seq its.toArray n }) (hf:f { cls:=.type "list",data:=.seq its.toArray n }={ cls:=.type "list",data:=.seq its'.toArray n' }) (r:Vals ys its') (hz:ys.length<=sizeLine) (t:Nat) :
 Inv X pins σ (upd H p (.lst ys)) { s with heap:=s.heap.update p f,toks:=t }:=by
 have e:(s.heap.update p f).get? p=some { cls:=.type "list",data:=.seq its'.toArray n' }:=by
  rw[K77 f ho (by rw[hf]<;>rfl),hf]
 refine I.write (x:=p) (e:=p) (by rw[h];trivial) (.inl rfl) (λb u hb q=>(K6r _ _ (K55 hb)).trans q) ⟨_,e⟩ ?_;exact⟨hz,its',n',r,e⟩
def zk6:V->V->V->Hp->(Hp->Prop)->Prop:=λo i v H Q=>∃p xs k j,o=.ref p/\i=.int k/\H p=.(l xs)/\ixN xs.length k=some j/\Q (upd H p (.lst (xs.set j v)))
theorem set_list:PSet X zk6:=by
 intro pins s σ H o i v ov iv u Q I ro ri rv h;obtain⟨p,xs,k,j,rfl,rfl,hp,hj,q⟩:=h;cases ro;obtain⟨t,rfl⟩:=ri;obtain⟨its,n,r,ho,hz⟩:=I.lst hp;obtain⟨h1,h2,h3,h4⟩:=z5v hj;have hl:=r.length;have hn:=z2c;have I':Inv X pins σ (upd H p (.lst (xs.set j v))) { s with heap:=s.heap.update p (K5d (·.setIfInBounds j u)) } :=
  I.lstUpd hp ho (z4h its n j u) (r.set rv j) (by rw[K6y];exact hz) s.toks
 by_cases h0:0<=k
 ·have hk:k.toNat=j:=by
   rw[K8z h0 h4]at h1;exact K0p h1
  exact PySem.W.ki_setAt ho h0 (by omega) (by rw[K00,<- hl];exact h4) (by rw[hk];exact⟨_,I',q⟩)
 ·have hk:(k+(its.toArray.size:Int)).toNat=j:=by
   rw[K8l (by omega) h3]at h1;rw[K00,<- hl];exact K0p h1
  exact PySem.W.ki_setBack ho (by omega) (by rw[K00,<- hl];exact h3) (by omega) (by rw[hk];exact⟨_,I',q⟩)
theorem z2V (lo hi:Option Int) (n:Nat):(K34 lo hi none n).1=((HT.sIx n 0 lo:Nat):Int)/\(K34 lo hi none n).2.1=((HT.sIx n n hi:Nat):Int)/\(K34 lo hi none n).2.2=1:=by
 refine⟨?_,?_,rfl⟩
 ·cases lo with
  | none=>simp[K34,HT.sIx]
  | some i =>
   simp only[K34,HT.sIx,K69,show (1:Int) > 0 by decide,if_true];by_cases h:i<0
   ·simp only[h,if_true]<;>omega
   ·simp only[h,if_false]<;>omega
 ·cases hi with
  | none=>simp[K34,HT.sIx]
  | some i =>
   simp only[K34,HT.sIx,K69,show (1:Int) > 0 by decide,if_true];by_cases h:i<0
   ·simp only[h,if_true]<;>omega
   ·simp only[h,if_false]<;>omega
theorem z2o (its:List Value) (lo hi:Option Int):slicePick its.toArray lo hi none=((its.drop (HT.sIx its.length 0 lo)).take (HT.sIx its.length its.length hi - HT.sIx its.length 0 lo)).toArray:=by
 obtain⟨h1,h2,h3⟩:=z2V lo hi its.toArray.size;unfold slicePick;rw[h1,h2,h3];simp only[sliceRange_one,pick_run,K00]<;>rfl
def rSlL (K:K0):V->Option Int->Option Int->Hp->VK->Prop:=λx lo hi H Q=>∃a xs,x=.ref a/\SqL K H a xs/\∀p,H p=none->Q (.ref p) (upd H p (.lst (cutV xs lo hi)))
theorem sl_list:SlR X (rSlL X.K):=by
 intro pins s σ H x v vl vu lo hi sl Q I rx hs pl pu h;obtain⟨a,xs,rfl,hx,q⟩:=h;cases rx;obtain⟨its,r,ht,hz⟩:=I.list hx;have hlen:=r.length;refine⟨"list",_,K8a.lookup,ht.isList.typeIs,?_⟩;refine wpAny_getItem_list_slice ht.isList hs pl pu .none (by simp) ?_ (by rw[K00]<;>omega);rw[z2o,<- hlen];refine⟨.ref s.heap.objs.size,_,I.laid (t':=s.toks) (o:=.lst (cutV xs lo hi)) (λb ob q=>K8 _ q) (K08 _) ?_,rfl,q _ (I.hok.fresh (K08 _))⟩;exact⟨K0h (z1U xs lo hi) hz,_,0,(r.drop (HT.sIx xs.length 0 lo)).take (HT.sIx xs.length xs.length hi - HT.sIx xs.length 0 lo),K0l _ rfl⟩
def z26:V->Bool
 | .non=>true
 | .bl _=>true
 | .int _=>true
 | .str _=>true
 | _=>false
def eqV:V->V->Bool
 | .non,.non=>true
 | .bl a,.bl b=>a==b
 | .bl a,.int b=>(if a then 1 else 0)==b
 | .int a,.bl b=>a==(if b then 1 else 0)
 | .int a,.int b=>a==b
 | .str a,.str b=>a==b
 | _,_=>false
theorem z9Y {A:Around}{s:Shared}{y x:V}{u v:Value}(ry:RelV y u) (rx:RelV x v) (fy:z26 y=true) (fx:z26 x=true):K5b A s u v (eqV y x):=by
 cases y with
 | non =>
  cases ry;cases x with
  | non=>cases rx;exact K5b.same _
  | bl b=>cases rx;exact K5b.none_bool b
  | int b=>obtain⟨t,rfl⟩:=rx;exact K5b.none_int b t
  | str b=>obtain⟨t,rfl⟩:=rx;exact K5b.none_str b t
  | _=>exact absurd (show false=true from fx) K0g
 | bl a =>
  cases ry;cases x with
  | non=>cases rx;exact K5b.bool_none a
  | bl b=>cases rx;exact K5b.bool_bool a b
  | int b=>obtain⟨t,rfl⟩:=rx;exact K5b.bool_int a b t
  | str b=>obtain⟨t,rfl⟩:=rx;exact K5b.bool_str a b t
  | _=>exact absurd (show false=true from fx) K0g
 | int a =>
  obtain⟨t',rfl⟩:=ry;cases x with
  | non=>cases rx;exact K5b.int_none a t'
  | bl b=>cases rx;exact K5b.int_bool a t' b
  | int b=>obtain⟨t,rfl⟩:=rx;exact K5b.int_int a t' b t
  | str b=>obtain⟨t,rfl⟩:=rx;exact K80 a t' b t
  | _=>exact absurd (show false=true from fx) K0g
 | str a =>
  obtain⟨t',rfl⟩:=ry;cases x with
  | non=>cases rx;exact K5b.str_none a t'
  | bl b=>cases rx;exact K5b.str_bool a t' b
  | int b=>obtain⟨t,rfl⟩:=rx;exact K7z a t' b t
  | str b=>obtain⟨t,rfl⟩:=rx;exact K5b.str_str a t' b t
  | _=>exact absurd (show false=true from fx) K0g
 | _=>exact absurd (show false=true from fy) K0g
def eqU (x:V) (u:Value):Bool:=match u with
 | .none=>eqV .non x
 | .bool b=>eqV (.bl b) x
 | .int i _=>eqV (.int i) x
 | .str z _=>eqV (.str z) x
 | _=>false
theorem z7e {x y:V}{u:Value}(r:RelV y u) (f:z26 y=true):eqU x u=eqV y x:=by
 cases y with
 | non=>cases r;rfl
 | bl b=>cases r;rfl
 | int i=>obtain⟨t,rfl⟩:=r;rfl
 | str z=>obtain⟨t,rfl⟩:=r;rfl
 | _=>exact absurd (show false=true from f) K0g
theorem z1L {x:V}:∀{xs:List V}{us:List Value},Vals xs us->xs.all z26=true->us.any (eqU x)=xs.any λy=>eqV y x
 | _,_,.nil,_=>rfl
 | y::xs,u::us,.cons r t,f=>by
  rw[K3r,K0b]at f;rw[K1q,K1q,z7e r f.1,z1L t f.2]
theorem z10 {A:Around}{s:Shared}{x:V}{v:Value}(rx:RelV x v) (fx:z26 x=true):∀{xs:List V}{us:List Value},Vals xs us->xs.all z26=true->∀u∈us,K5b A s u v (eqU x u)
 | _,_,.nil,_=>λu hu=>by cases hu
 | y::xs,u::us,.cons r t,f=>λu' hu=>by
  rw[K3r,K0b]at f;rcases K1h.mp hu with rfl|hu
  ·rw[z7e r f.1];exact z9Y r rx f.1 fx
  ·exact z10 rx fx t f.2 u' hu
def inV (x:V) (xs:List V):Bool:=xs.any λy=>eqV y x
def rIn (K:K0) (neg:Bool):R2:=λx y H Q=>∃p xs,y=.ref p/\(SqL K H p xs\/SqT K H p xs)/\z26 x=true/\xs.all z26=true/\Q (.bl (if neg then !inV x xs else inV x xs)) H
theorem z4A:OpR X (K1g .In) (rIn X.K false):=by
 intro pins s σ H x y v u Q I rx ry h;obtain⟨p,xs,rfl,hq,fx,fs,q⟩:=h;cases ry;rcases hq with hq|hq
 ·obtain⟨its,r,pl,hz⟩:=I.list hq;refine SeqAt.in_listAt (eqU x) pl.isList (λw hw=>z10 rx fx r fs w (by simpa using hw)) ⟨.bl _,H,I,rfl,?_⟩;rw[show its.toArray.any (eqU x)=its.any (eqU x) by simp,z1L r fs];exact q
 ·obtain⟨its,r,pl,hz⟩:=I.tuple hq;refine SeqAt.in_tupleAt (eqU x) pl (λw hw=>z10 rx fx r fs w (by simpa using hw)) ⟨.bl _,H,I,rfl,?_⟩;rw[show its.toArray.any (eqU x)=its.any (eqU x) by simp,z1L r fs];exact q
theorem z2G:OpR X (K1g .NotIn) (rIn X.K true):=by
 intro pins s σ H x y v u Q I rx ry h;obtain⟨p,xs,rfl,hq,fx,fs,q⟩:=h;cases ry;rcases hq with hq|hq
 ·obtain⟨its,r,pl,hz⟩:=I.list hq;refine SeqAt.notIn_listAt (eqU x) pl.isList (λw hw=>z10 rx fx r fs w (by simpa using hw)) ⟨.bl _,H,I,rfl,?_⟩;rw[show its.toArray.any (eqU x)=its.any (eqU x) by simp,z1L r fs];exact q
 ·obtain⟨its,r,pl,hz⟩:=I.tuple hq;refine SeqAt.notIn_tupleAt (eqU x) pl (λw hw=>z10 rx fx r fs w (by simpa using hw)) ⟨.bl _,H,I,rfl,?_⟩;rw[show its.toArray.any (eqU x)=its.any (eqU x) by simp,z1L r fs];exact q
theorem CallR.or {f:Value}{r r':List V->Hp->VK->Prop}(h:CallR X f r) (h':CallR X f r'):CallR X f (λxs H Q=>r xs H Q\/r' xs H Q):=by
 intro pins s σ H xs us Q I rs q;rcases q with q|q
 ·exact h pins s σ H xs us Q I rs q
 ·exact h' pins s σ H xs us Q I rs q
theorem z2Q:CallR X (.type "list") (λxs H Q=>∃p ys,xs=[.ref p]/\(SqL X.K H p ys\/SqT X.K H p ys)/\∀l,H l=none->Q (.ref l) (upd H l (.lst ys))):=by
 intro pins s σ H xs us Q I r h;obtain⟨p,ys,rfl,hq,q⟩:=h;obtain⟨u,rfl,rx⟩:=vals1 r;cases rx;have fin:∀(its:List Value),Vals ys its->ys.length<=sizeLine->∀(h':Heap) (c':Nat),(∀b o',s.heap.get? b=some o'->h'.get? b=some o') ->
  h'.get? s.heap.objs.size=some { cls:=.type "list",dict:=none,data:=.seq its.toArray c',slots:=#[] }->EP X pins σ Q (.ref s.heap.objs.size) { s with heap:=h' }:=λits r' hz h' c' kp e =>
  ⟨.ref s.heap.objs.size,_,I.laid (t':=s.toks) kp (K08 _) (show ObjOk X.prog X.w _ h' _ (.lst ys) from⟨hz,its,c',r',e⟩),rfl,q _ (I.hok.fresh (K08 _))⟩
 rcases hq with hq|hq
 ·obtain⟨its,r',pl,hz⟩:=I.list hq;have hlen:=r'.length;obtain⟨o,ho,hc,n,hd⟩:=pl.isList;exact call_list_seq p (.inl rfl) ho hc hd (λh' c' kp e=>fin its r' hz h' c' kp e) (by simp only[K00]<;>omega)
 ·obtain⟨its,r',pl,hz⟩:=I.tuple hq;have hlen:=r'.length;obtain⟨o,ho,hc,n,hd⟩:=pl;exact call_list_seq p (.inr rfl) ho hc hd (λh' c' kp e=>fin its r' hz h' c' kp e) (by simp only[K00]<;>omega)
theorem z2w:CallR X (.type "tuple") (λxs H Q=>∃p ys,xs=[.ref p]/\((SqL X.K H p ys/\∀l,H l=none->Q (.ref l) (upd H l (.tup ys)))\/(SqT X.K H p ys/\Q (.ref p) H))):=by
 intro pins s σ H xs us Q I r h;obtain⟨p,ys,rfl,h⟩:=h;obtain⟨u,rfl,rx⟩:=vals1 r;cases rx;rcases h with ⟨hq,q⟩|⟨hq,q⟩
 ·obtain⟨its,r',pl,hz⟩:=I.list hq;have hlen:=r'.length;refine call_tuple_list pl.isList (λh' kp=>?_) (by simp only[K00]<;>omega);have I1:Inv X pins σ H { s with heap:=h' }:=I.kept (t':=s.toks) kp;have I2:Inv X pins σ (upd H h'.objs.size (.tup ys)) { s with heap:=h'.push { cls:=.type "tuple",data:=.seq its.toArray } } :=
   I1.laid (t':=s.toks) (λb o e=>K8 _ e) (K08 _) (show ObjOk X.prog X.w _ _ _ (.tup ys) from⟨hz,its,r',FT.IsTup0.new _ _⟩)
  exact⟨.ref h'.objs.size,_,I2,rfl,q _ (I1.hok.fresh (K08 _))⟩
 ·obtain⟨its,r',pl,hz⟩:=I.tuple hq;exact call_tuple_same pl ⟨.ref p,H,I,rfl,q⟩
def tyV (K:K0) (T:String) (x:V) (H:Hp):Prop:=match x with
 | .str _=>T = "str"
 | .int _=>T = "int"
 | .ref p=>(T = "list"/\∃xs,SqL K H p xs)\/(T = "tuple"/\∃o,K.lookup p=some o/\o.cls=.type "tuple"/\o.dict=none) \/
  (T = "dict"/\((∃kvs,H p=some (.dK kvs))\/∃kvs,H p=some (.dT kvs)))\/(T = "set"/\∃ks,H p=some (.set ks))
 | _=>False
theorem z71 {pins:List (Addr×Obj)}{σ:St}{H:Hp}{s:Shared}{T:String}{x:V}{v:Value}(I:Inv X pins σ H s) (r:RelV x v) (ty:tyV X.K T x H) :
 s.TypeIs v T/\∀a,v=.ref a->∃ob,s.heap.get? a=some ob/\ob.dict=none:=by
 cases x with
 | str z =>
  obtain⟨t,rfl⟩:=r;cases (show T = "str" from ty);exact⟨typeIs_str s z t,λ_ e=>nomatch e⟩
 | int i =>
  obtain⟨t,rfl⟩:=r;cases (show T = "int" from ty);exact⟨K6k s i t,λ_ e=>nomatch e⟩
 | ref p =>
  cases r;rcases ty with ⟨rfl,xs,hq⟩|⟨rfl,o,hk,hc,hd⟩|⟨rfl,hk⟩|⟨rfl,ks,hk⟩
  ·obtain⟨its,_,pl,_⟩:=I.list hq;refine⟨pl.isList.typeIs,λa e=>?_⟩;cases e;obtain⟨o,n,e,c,hd,_⟩:=pl;exact⟨o,e,hd⟩
  ·refine⟨⟨o,I.kIn p o hk,hc⟩,λa e=>?_⟩;cases e;exact⟨o,I.kIn _ o hk,hd⟩
  ·have z:∃o,s.heap.get? p=some o/\o.ExactDict:=by
    rcases hk with ⟨kvs,hk⟩|⟨kvs,hk⟩
    ·obtain⟨_,_,_,_,o,_,_,e,ex,_⟩:=I.hok p _ hk;exact⟨o,e,ex⟩
    ·obtain⟨_,_,_,_,o,_,_,e,ex,_⟩:=I.hok p _ hk;exact⟨o,e,ex⟩
   obtain⟨o,e,ex⟩:=z;refine⟨⟨o,e,ex.1⟩,λa e2=>?_⟩;cases e2;exact⟨o,e,ex.2.1⟩
  ·obtain⟨o,_,_,_,_,e,ex,_⟩:=I.hok p _ hk;refine⟨⟨o,e,ex.1⟩,λa e2=>?_⟩;cases e2;exact⟨o,e,ex.2.1⟩
 | _=>exact K1y ty
def tBM0 (K:K0) (T:String) (r:V->List V->Hp->VK->Prop) (to:TE):TE:=λσ H Q=>to σ H λx H1=>tyV K T x H1/\r x [] H1 Q
def tBM (K:K0) (T:String) (r:V->List V->Hp->VK->Prop) (to:TE) (t:TA):TE:=λσ H Q=>to σ H λx H1=>tyV K T x H1/\t σ H1 λxs H2=>r x xs H2 Q
variable {o e:Expr}{es:List Expr}{to:TE}{t:TA}{name:Str}{apos cpos:Pos}{T id:String}{r:V->List V->Hp->VK->Prop}
theorem ze2 (pa:PlainAttrs T) (slot:Slot T name id) (hty:typeOf (.builtin id)=pure (.type "method_descriptor")) (hm:MtR X id r) (ho:PE X o to)
 (hbase:K3d o name X.env (eval o X.env)=eval o X.env:=by rfl) (hline:(apos.endLine==cpos.line)=true:=by rfl):PE X (.Call (.Attribute o name apos) [] [] cpos) (tBM0 X.K T r to):=by
 intro pins s σ H Q I h;refine wpAny_Call_method0_late hbase hline (thn (ho pins s σ H _ I h) λv s1 ⟨x,H1,I1,r1,ty,q1⟩=>?_);obtain⟨h1,h2⟩:=z71 I1 r1 ty;exact⟨T,id,pa,slot,hty,h1,h2,K6o rfl (PySem.evalArgs_none (hm pins s1 σ H1 x [] v [] Q I1 r1 .nil q1))⟩
theorem zh0 (pa:PlainAttrs T) (slot:Slot T name id) (hty:typeOf (.builtin id)=pure (.type "method_descriptor")) (hm:MtR X id r) (ho:PE X o to) (ha:PA X (e::es) t)
 (hbase:K3d o name X.env (eval o X.env)=eval o X.env:=by rfl)
 (hfew:((backTo cpos (K07 (e::es) X.env)).all (λx=>!x.1)&&(K5j cpos (K3i [] X.env)).all (λx=>x.1.isSome)
 &&decide ((e::es).length+([]:List K3f).length+(if ([]:List K3f).isEmpty then 0 else 1)<30))=true:=by rfl)
 (hline:(apos.endLine==cpos.line)=true:=by rfl) (hs:K07 (e::es) X.env=(false,eval e X.env)::K07 es X.env:=by rfl) (hplain:(backTo cpos (K07 es X.env)).any (·.1)=false:=by rfl) :
 PE X (.Call (.Attribute o name apos) (e::es) [] cpos) (tBM X.K T r to t):=by
 intro pins s σ H Q I h;refine wpAny_Call_method_late hbase hfew hline rfl (thn (ho pins s σ H _ I h) λv s1 ⟨x,H1,I1,r1,ty,q1⟩=>?_);obtain⟨h1,h2⟩:=z71 I1 r1 ty;refine⟨T,id,pa,slot,hty,h1,h2,?_⟩;have hA:=ha cpos pins s1 σ H1 _ I1 q1;rw[hs]at hA ⊢;refine K6o (by show (false||(backTo cpos (K07 es X.env)).any (·.1))=false;rw[hplain]<;>rfl) (Calls.evalArgs_plain ?_);exact thn hA λus s2 ⟨vs,H2,I2,r2,q2⟩=>hm pins s2 σ H2 x vs v us Q I2 r1 r2 q2
end
def MtM (X:Cx) (id:String) (r:V->List V->Hp->VK->Prop):Prop :=
 ∀(pins:List (Addr×Obj)) (s:Shared) (σ:St) (H:Hp) (x:V) (xs:List V) (v:Value) (us:List Value) (Q:VK),Inv X pins σ H s->RelV x v->Vals xs us->r x xs H Q ->
  wpAny (model X.prog X.w) X.A (call (.builtin id) (v::us)) (EP X pins σ Q) X.xe s
theorem Vals.one:∀{x:V}{us:List Value},Vals [x] us->∃u,us=[u]/\RelV x u
 | _,_,.cons r .nil=>⟨_,rfl,r⟩
theorem Vals.zero:∀{us:List Value},Vals [] us->us=[]
 | _,.nil=>rfl
theorem Vals.dropLast {xs:List V}{us:List Value}(h:Vals xs us):Vals xs.dropLast us.dropLast:=by
 induction h with
 | nil=>exact .nil
 | cons r t ih =>
  cases t with
  | nil=>exact .nil
  | cons q t'=>exact .cons r ih
theorem Vals.eraseIdx:∀{xs:List V}{us:List Value}(i:Nat),Vals xs us->Vals (xs.eraseIdx i) (us.eraseIdx i)
 | _,_,_,.nil=>.nil
 | _,_,0,.cons _ t=>t
 | _,_,i+1,.cons r t=>.cons r (Vals.eraseIdx i t)
theorem Vals.rep {xs:List V}{us:List Value}(h:Vals xs us):∀k:Nat,Vals (K02 k xs).flatten (K02 k us).flatten
 | 0=>.nil
 | k+1=>by
  rw[K21,K21,K2q,K2q];exact Vals.append h (Vals.rep h k)
theorem z4g {α:Type}(l:List α):l.eraseIdx (l.length - 1)=l.dropLast:=by
 induction l with
 | nil=>rfl
 | cons a r ih =>
  cases r with
  | nil=>rfl
  | cons b r =>
   have e:(a::b::r).length - 1=((b::r).length - 1)+1:=by
    have h1:(a::b::r).length=r.length+2:=rfl;have h2:(b::r).length=r.length+1:=rfl;omega
   rw[e,List.eraseIdx_cons_succ,ih]
   all_goals rfl
theorem z3d {α:Type}:∀(l:List α) (i:Nat),(l.eraseIdx i).length<=l.length
 | [],_=>K08 _
 | _::_,0=>K5w _
 | _::r,i+1=>Nat.succ_le_succ (z3d r i)
theorem foldl_rep (its:List Value):∀(k:Nat) (acc:List Value),
 K4n (λx1 x2=>x1++x2) acc.toArray (K02 k its.toArray)=(acc++(K02 k its).flatten).toArray
 | 0,acc=>by simp
 | k+1,acc=>by
  have e:acc.toArray++its.toArray=(acc++its).toArray:=by simp
  have e2:(acc++its)++(K02 k its).flatten=acc++(K02 (k+1) its).flatten:=by
   rw[K21,K2q,K0e]
  rw[<- e2,<- foldl_rep its k (acc++its),<- e,K21,List.foldl_cons]
section
variable {X:Cx}{pins:List (Addr×Obj)}{σ:St}{H:Hp}{s:Shared}{l b:Addr}{xs ys zs:List V}
theorem Inv.lset {its its':List Value}{n:Nat}{f:Array Value->Array Value}{t':Nat}(I:Inv X pins σ H s) (hH:H l=.(l xs))
 (e:s.heap.get? l=some { cls:=.type "list",data:=.seq its.toArray n }) (hf:f its.toArray=its'.toArray) (hv:Vals ys its') (hz:ys.length<=sizeLine) :
 Inv X pins σ (upd H l (.lst ys)) { s with heap:=s.heap.update l (K5d f),toks:=t' }:=by
 have q:=PySem.IsL.update e f;rw[hf]at q;refine I.write (x:=l) (e:=l) (by rw[hH];exact trivial) (.inl rfl) (λb' u hb hu=>(K6r s.heap (K5d f) (K55 hb)).trans hu) ⟨_,q⟩ ?_;exact⟨hz,its',_,hv,q⟩
theorem Inv.lnew {its:List Value}{t':Nat}(I:Inv X pins σ H s) (hv:Vals ys its) (hz:ys.length<=sizeLine) :
 Inv X pins σ (upd H s.heap.objs.size (.lst ys)) { s with heap:=s.heap.push { cls:=.type "list",data:=.seq its.toArray },toks:=t' } :=
 I.laid (λ_ _ q=>K8 _ q) (K08 _) ⟨hz,its,0,hv,K0l _ rfl⟩
theorem Inv.fresh (I:Inv X pins σ H s):H s.heap.objs.size=none:=I.hok.fresh (K08 _)
theorem Inv.lstM (I:Inv X pins σ H s) (hH:H l=.(l xs)):xs.length<=sizeLine/\∃(its:List Value) (n:Nat),Vals xs its/\xs.length=its.length/\s.heap.get? l=some { cls:=.type "list",data:=.seq its.toArray n }:=by
 obtain⟨z,its,n,r,e⟩:=I.hok l _ hH;exact⟨z,its,n,r,r.length,e⟩
theorem z2B {n:Nat}(h:n<=sizeLine):K3t n=false:=by
 unfold K3t;exact decide_eq_false (by omega)
end
section
variable {X:Cx}
def z8U:V->List V->Hp->VK->Prop:=λx vs H Q=>∃l xs y,x=.ref l/\vs=[y]/\H l=.(l xs)/\xs.length<sizeLine/\Q .non (upd H l (.lst (xs++[y])))
theorem z2H:MtM X "list.append" z8U:=by
 intro pins s σ H x vs v us Q I rx rv h;obtain⟨l,xs,y,rfl,rfl,hH,hz,q⟩:=h;cases rx;obtain⟨u,rfl,ru⟩:=rv.one;obtain⟨z,its,n,r,hl,e⟩:=I.lstM hH;refine K3h F.slot_list_append ⟨_,e,rfl⟩ F.entry_list_append (F.args_list_append_2 _ _) (PySem.list_append l its.toArray n u (by rw[K00];omega)) ⟨e,?_⟩;refine⟨.non,_,I.lset (its':=its++[u]) hH e (by simp) (r.append (.cons ru .nil)) ?_,rfl,q⟩;rw[K9,K0d];omega
def rPop:V->List V->Hp->VK->Prop:=λx vs H Q=>∃l xs y,x=.ref l/\vs=[]/\H l=.(l xs)/\xs[xs.length - 1]?=some y/\Q y (upd H l (.lst xs.dropLast))
theorem z9T:MtM X "list.pop" rPop:=by
 intro pins s σ H x vs v us Q I rx rv h;obtain⟨l,xs,y,rfl,rfl,hH,hy,q⟩:=h;cases rx;have hus:=rv.zero;subst hus;obtain⟨z,its,n,r,hl,e⟩:=I.lstM hH;obtain⟨u,hu,ru⟩:=r.get hy;have hy':its.toArray[its.toArray.size - 1]?=some u:=by
  show its.toArray[its.length - 1]?=some u;rw[<- K74,<- hl];exact hu
 refine K3h F.slot_list_pop ⟨_,e,rfl⟩ F.entry_list_pop (F.args_list_pop_1 _) (MeetsSeq.list_pop_last l its.toArray n u hy' (by rw[K00];omega)) ⟨e,?_⟩;refine⟨y,_,I.lset (its':=its.dropLast) hH e ?_ r.dropLast ?_,ru,q⟩
 ·show its.toArray.eraseIdxIfInBounds (its.toArray.size - 1)=its.dropLast.toArray;rw[K00,K4m,z4g]
 ·rw[List.length_dropLast];omega
def zf5:V->List V->Hp->VK->Prop:=λx vs H Q=>∃l xs i k y,x=.ref l/\vs=[.int i]/\H l=.(l xs)/\-(2 ^ 63)<=i/\i<2 ^ 63/\K6a i xs.length=some k/\xs[k]?=some y/\Q y (upd H l (.lst (xs.eraseIdx k)))
theorem z6N:MtM X "list.pop" zf5:=by
 intro pins s σ H x vs v us Q I rx rv h;obtain⟨l,xs,i,k,y,rfl,rfl,hH,h1,h2,hk,hy,q⟩:=h;cases rx;obtain⟨u,rfl,ru⟩:=rv.one;obtain⟨t,rfl⟩:=ru;obtain⟨z,its,n,r,hl,e⟩:=I.lstM hH;obtain⟨w,hw,rw'⟩:=r.get hy;refine K3h F.slot_list_pop ⟨_,e,rfl⟩ F.entry_list_pop (F.args_list_pop_2 _ _)
  (MeetsSeq.list_pop_at l its.toArray n i t k w (fitsIndex_both h1 h2) (by rw[K00,<- hl];exact hk) (by rw[<- K74];exact hw) (by rw[K00];omega)) ⟨e,?_⟩
 refine⟨y,_,I.lset (its':=its.eraseIdx k) hH e ?_ (r.eraseIdx k) ?_,rw',q⟩
 ·show its.toArray.eraseIdxIfInBounds k=(its.eraseIdx k).toArray;rw[K4m]
 ·have:=z3d xs k;omega
def rCat:R2:=λx y H Q=>∃l b xs zs,x=.ref l/\y=.ref b/\H l=.(l xs)/\H b=.(l zs)/\xs.length+zs.length<=sizeLine/\∀p,H p=none->Q (.ref p) (upd H p (.lst (xs++zs)))
theorem op_cat:OpR X (K27 .Add) rCat:=by
 intro pins s σ H x y v u Q I rx ry h;obtain⟨l,b,xs,zs,rfl,rfl,hH,hB,hz,q⟩:=h;cases rx;cases ry;obtain⟨z,its,n,r,hl,e⟩:=I.lstM hH;obtain⟨z2,its2,n2,r2,hl2,e2⟩:=I.lstM hB;refine PySem.P.add_list e e2 ?_ (by rw[K00,K00];omega);have ea:its.toArray++its2.toArray=(its++its2).toArray:=by simp
 rw[ea];exact⟨.ref _,_,I.lnew (t':=s.toks) (r.append r2) (by rw[K9];omega),rfl,q _ I.fresh⟩
def rRep:R2:=λx y H Q=>∃l k xs,x=.ref l/\y=.int k/\H l=.(l xs)/\-(2 ^ 63)<=k/\k<2 ^ 63/\xs.length * k.toNat<=sizeLine /\
 ∀p,H p=none->Q (.ref p) (upd H p (.lst (K02 k.toNat xs).flatten))
theorem len_rep {α:Type}(xs:List α) (k:Nat):(K02 k xs).flatten.length=k * xs.length:=by
 induction k with
 | zero=>simp
 | succ k ih=>rw[K21,K2q,K9,ih,Nat.succ_mul,Nat.add_comm]
theorem z9L:OpR X (K27 .Mult) rRep:=by
 intro pins s σ H x y v u Q I rx ry h;obtain⟨l,k,xs,rfl,rfl,hH,h1,h2,hz,q⟩:=h;cases rx;obtain⟨t,rfl⟩:=ry;obtain⟨z,its,n,r,hl,e⟩:=I.lstM hH;have hlen:its.toArray.size * k.toNat<=sizeLine:=by rw[K00,<- hl];exact hz
 have hcap:¬ its.toArray.size * k.toNat > (2 ^ 63 - 1) / 8:=by
  have:(sizeLine:Nat)<=(2 ^ 63 - 1) / 8:=by decide
  omega
 have hfit:¬ (!Builtin.List.listFitsIndex k)=true:=by
  rw[fitsIndex_both h1 h2];exact K0g
 have hlong:¬ K3t (its.toArray.size * k.toNat)=true:=by
  rw[z2B hlen];exact K0g
 have hnew:K4n (λx1 x2=>x1++x2) #[] (K02 (if its.toArray.isEmpty=true then 0 else k.toNat) its.toArray)=(K02 k.toNat its).flatten.toArray:=by
  have f0:∀m:Nat,K4n (λx1 x2=>x1++x2) #[] (K02 m its.toArray)=(K02 m its).flatten.toArray:=λm=>by
   have:=foldl_rep its m [];rw[K6w]at this;exact this
  rw[f0];cases its with
  | nil=>simp
  | cons a r'=>rw[if_neg (by simp)]
 refine K5u (T:="list") (U:="int") (by decide) ⟨_,e,rfl⟩ (λs'=>K6k s' k t) noFill_list_mul F.fills_int_mul F.slot_int_rmul repeat_list F.slot_int_index.lookup
  (K3h F.slot_int_rmul (K6k s k t) F.entry_int_rmul (F.args_int_rmul_2 _ _) (int___rmul___int_list k t l its.toArray n)
   ⟨e,rfl,⟨_,e,rfl⟩,K3h F.slot_list_mul ⟨_,e,rfl⟩ F.entry_list_mul (F.args_list_mul_2 _ _) (AutoListH.list___mul___list_int_3 l its.toArray n k t hfit hcap hlong) ⟨e,?_⟩⟩)
 rw[hnew];exact⟨.ref _,_,I.lnew (t':=s.toks) (r.rep k.toNat) (by rw[len_rep,K54];exact hz),rfl,q _ I.fresh⟩
end
section
variable {prog:K0a}{w:World}{A:Around}{E:Value->Shared->Prop}{s:Shared}
theorem z4j {a c n:Nat}(hac:a<=c) (hc:c<=n):K34 (some (a:Int)) (some (c:Int)) none n=((a:Int),(c:Int),1):=by
 simp only[K34,K69];have h1:¬ ((a:Int)<0):=by omega
 have h2:¬ ((c:Int)<0):=by omega
 simp only[h1,h2,if_false,show (1:Int) > 0 by decide,if_true];congr 1
 ·omega
 ·congr 1;omega
set_option maxRecDepth 100000 in
theorem z6G {l b sl:Addr}{items new:Array Value}{n n2:Nat}{vl vu:Value}{a c:Nat}{Q:Unit->Shared->Prop}
 (e:s.heap.get? l=some { cls:=.type "list",data:=.seq items n }) (e2:s.heap.get? b=some { cls:=.type "list",data:=.seq new n2 }) (hne:l≠b)
 (hs:s.heap.IsSliceOf sl vl vu .none) (pl:IsPart vl (some (a:Int))) (pu:IsPart vu (some (c:Int))) (hac:a<=c) (hc:c<=items.size)
 (hsz:items.size+new.size<=sizeLine) (h:Q () { s with heap:=s.heap.update l (K5d λxs=>xs.extract 0 a++new++xs.extract c xs.size) }) :
 wpAny (model prog w) A (K7m (.ref l) (.ref sl) (.ref b)) Q E s:=by
 have hl:s.heap.IsList l items:=K8p e;have hb:s.heap.IsList b new:=K8p e2;obtain⟨os,hos,hcs,hds⟩:=id hs;have hTs:s.TypeIs (.ref sl) "slice":=⟨os,hos,hcs⟩;have hstep:¬ ((rawPart none==rawInt 0)=true):=K0g;have hsame:K65 (.ref l) (.ref b)=false:=by
  unfold K65;exact beq_eq_false_iff_ne.mpr hne
 have hmax:(max (a:Int) (c:Int)).toNat=c:=by omega
 have hz':((λxs:Array Value=>xs.extract 0 a++new++xs.extract c xs.size) items).size<=sizeLine+1:=by
  simp only[Array.size_append,Array.size_extract];omega
 unfold K7m
 try with_reducible refine K2j ?_
 first|refine K2 (K04 ?_)|skip
 refine K2 (K61 hl.typeIs (by decide) ?_);refine K2 (K2a (name:=K22 "__setitem__") hl.typeIs slot_list_setitem
  (K32 slot_list_setitem hl.typeIs entry_list_setitem ?_ (args_list_setitem _ _ _)))
 show wpAny _ _ (K56 (.ref sl) >>= _) _ _ s;refine K2 ?_;unfold K56;refine K2 (wpAny_specialOf hTs slice_no_index ?_);simp only[Option.isNone_none,if_true];refine K04 ?_;show wpAny _ _ (typeOf (.ref sl) >>= _) _ _ s;refine K2 (K58 hTs ?_)
 first
  | rw[if_neg (by decide)]
  | refine K5a (by decide) ?_
 rw[listSliceParts_eq];refine K2 (K2 (K2t hos hds (x:=.none) rfl (K2 (K7e .none ?_))));rw[if_neg hstep];refine K2 (K2t hos hds (x:=vl) rfl (K2 (K7e pl ?_)));refine K2 (K2t hos hds (x:=vu) rfl (K2 (K7e pu (K04 ?_))))
 first
  | simp only[hsame,K1s,if_false]
  | refine K5a hsame ?_
  | (dsimp only
     rw[if_neg (by rw[hsame];exact K0g)])
 refine K2 (m:=K5r (.ref b) "must assign iterable to extended slice") ?_;unfold K5r;refine K2 (K58 hb.typeIs ?_)
 first
  | refine PySem.W.KFB.if_so (by decide) ?_
  | rw[if_pos (by decide)]
  | simp only[beq_self_eq_true,Bool.true_or,if_true]
 unfold Builtin.List.listItems;refine K2 (K5l e2 rfl (K04 ?_));refine K2 (K2 (K5l e rfl (K04 ?_)));refine K2 (wpAny_of_eq ((sliceIndices_raw (some (a:Int)) (some (c:Int)) none items.size (by simp)).trans (congrArg (pure:Int×Int×Int->Sem (Int×Int×Int)) (z4j hac hc))) ?_);show wpAny _ _ (if ((1:Int)==1)=true then _ else _) _ _ s;rw[if_pos (by decide)];refine K2 (K6j ?_)
 first
  | simp only[z2B hsz,K1s,if_false]
  | refine K5a (z2B hsz) ?_
 first|refine K2 (K04 ?_)|skip
 show wpAny _ _ (updateSeq l (λxs=>xs.extract 0 ((a:Int)).toNat++new++xs.extract (max (a:Int) (c:Int)).toNat xs.size) >>= _) _ _ s;rw[hmax,K4i];refine K2 (wpAny_updateSeq (hz:=K0h (Nat.le_add_right _ _) hsz) (_hz':=hz') e rfl ?_);refine K2 (wpAny_letGo ?_)
 first
  | exact K2 (K04 (K04 ⟨.none,rfl,K04 h⟩))
  | exact K04 ⟨.none,rfl,K04 h⟩
end
section
variable {X:Cx}
end
end L2
namespace Att
open PySem PySem.W PySem.Calls PyProof.Rows
theorem z1O {P:Params}{h:Heap}:∀(ns:List Int) (vs:List Value),WellAll P h vs (ns.map WData.int)->K6i vs ns:=by
 intro ns;induction ns with
 | nil =>
  intro vs w;rw[K35]at w;cases w;exact .nil
 | cons n ns ih =>
  intro vs w;rw[K0s]at w;cases w with
  | cons a b =>
   cases a;exact .cons _ _ (ih _ b)
theorem z5r {l:OpenLaw}{n:Nat}(hn:l.most=some n) {P:Params}{h:Heap}{args:List WData}{vals:List Value}
 (hpre:l.row.toRowW.claim.pre args=true) (hwl:WellAll P h vals args) :
 ∃a vs ns,vals=[K1j a]/\args=[WData.list (ns.map WData.int)]/\h.get? a=some { cls:=.type "list",data:=.seq vs.toArray }/\K6i vs ns/\ns.length<=n:=by
 have hsh:WShape.hasAll [] args [.list .int]=true:=(pre_splitW hpre).1;have hc:l.pre.holds [] { args:=args }=true:=(pre_splitW hpre).2;obtain⟨d,r,rfl,h1,h2⟩:=hasAllW_cons hsh;obtain rfl:=hasAllW_nil h2;obtain⟨xs,rfl,h3⟩:=hasW_list h1;obtain⟨ns,rfl⟩:=items_int h3;have hlen:ns.length<=n:=by
  unfold OpenLaw.pre at hc;have h4:(WTm.not (.lt (.lit (.int (n:Int))) (.len (.arg 0)))).holds [] { args:=[.list (ns.map .int)] }=true:=by
   have h4:=(holds_andW hc).1;rw[hn]at h4;exact h4
  have h5:=condW_of h4 (w_not (w_lt w_lit (w_len_list (w_arg rfl))));rw[K0j]at h5;refine Nat.le_of_not_lt λq=>?_;have q':(n:Int)<((ns.length:Nat):Int):=by omega
  first
   | (rw[decide_eq_true q']at h5;exact absurd h5 (by decide))
   | (simp at h5;omega)
 cases hwl with
 | cons w1 w2 =>
  cases w2;cases w1 with
  | list ho hall=>exact⟨_,_,ns,rfl,rfl,ho,z1O ns _ hall,hlen⟩
theorem z5l (l:OpenLaw) (args:List WData):l.row.toRowW.claim.post args (.bool true) args=true :=
 postW_of (r:=l.row.toRowW) (X:=(true==true))
  (show WShape.has [] (.bool true) .bool=true by first|rfl|decide|simp[WShape.has,WShape.arms,WShape.armsAll])
  (show (WTm.eq .res (.lit (.bool true))).value [] { args:=args,res:=some (.bool true),after:=args }=some (.bool (true==true)) from w_eq_bool (w_res rfl) w_lit) rfl
theorem attach_call {l:OpenLaw}{n:Nat}{q:K0a}{loose:List Str}{XP:(Str->Option Value)->Heap->Prop}{YP:World->Heap->Prop}{d:DefRec}
 (hn:l.most=some n) (hdf:d.params.defaults=[])
 (call:∀(w:World) (s₀ s₁:Shared) (mg mb:Str->Option Value) (fa:Addr) (o:Obj) (pm cd doc:Value) (a:Addr) (vs:List Value) (ns:List Int),
  Ground q loose [] XP w s₀ mg mb s₁.heap->YP w s₁.heap ->
  s₁.heap.get? fa=some o->o.data=.func (docDef d.name d.params d.body d.scope pm cd doc)->s₁.heap.CodeRec cd d.name->mg d.name=.(r fa) ->
  s₁.heap.get? a=some { cls:=.type "list",data:=.seq vs.toArray }->K6i vs ns->ns.length<=n->s₁.gens = #[] ->
  K4t (model l.prog w) K6h (.call (.ref fa) ⟨[.ref a],[]⟩) (λr s'=>r=.ok (.ret (.bool true))/\OldK s₁.heap s'.heap/\s'.os=s₁.os/\K57 s'.gens) s₁) :
 WalkO q loose XP YP l.row.toRowW d [] (λf vs=>K93 f vs):=by
 intro w s₀ s₁ mg mb G Y fa o pm cd doc dV kV ho hd hcd hD hmg hg args vals as hpre hlay hrd hwl hlo;obtain rfl:dV=.none:=Dflts.none hD hdf;obtain rfl:kV=.none:=Dflts.noKw hD;obtain⟨a,vs,ns,rfl,rfl,hobj,hints,hlen⟩:=z5r hn hpre hwl;refine enter_call (K6m (call w s₀ s₁ mg mb fa o pm cd doc a vs ns G Y ho (fd_plain hd) hcd hmg hobj hints hlen hg) λr s' hq=>?_);obtain⟨rfl,h2,h3,h4⟩:=hq;exact⟨.inl ⟨.bool true,.bool true,[],rfl,λ_=>rfl,.bool true,z5l l _,λ_=>⟨K49,λ_ hm=>(nomatch hm)⟩⟩,h2,h3,h4⟩
section
variable {prog:K0a}{w:World}{A:Around}{E:Value->Shared->Prop}{s:Shared}{K:Frag}
end
end Att
namespace L2
theorem z1K:∀{vs:List Value}{ns:List Int},K6i vs ns->Vals (ns.map V.int) vs
 | _,_,.nil=>.nil
 | _,_,.cons n t h=>.cons ⟨t,rfl⟩ (z1K h)
def Only (H:Hp):Prop:=∀b,H b=none\/∃o xs,H b=some (.frz o (.lst xs))
theorem z6B {P:K0a}{w:World}{K:K0}{mg mb:Str->Option Value}{CX:CXT}{k:Nat}{fa a:Addr}{fd:K1l}{x:Str}{sp:Sp}{s₁:Shared}{vs:List Value}{ns:List Int}
 (KX:K.In s₁.heap) (hns:s₁.heap.Ns K1a mg) (hb:s₁.heap.Ns builtinsNs mb) (hbb:∀x:Str,x≠"__name__"->mb x=K3o x) (hlim:s₁.heap.NoLimit) (hg:s₁.gens = #[])
 (ha:s₁.heap.get? a=some { cls:=.type "list",data:=.seq vs.toArray }) (hi:K6i vs ns) (hl:ns.length<=sizeLine) (hr:Room k K6h)
 (F:∀base:Heap,K.In base->base.Ns K1a mg->FnOk P w K mg base CX k fa fd [x] sp) (hbind:∀(s:Shared) (u:Value),K7n s fd ⟨[u],[]⟩ [(x,u)])
 (hsp:∀H:Hp,Only H->SqL K H a (ns.map V.int)->sp [.ref a] H (λv _=>v=.bl true) λ_ _ _=>False)
 (hCX:∀H e s',CX [] H s₁ (λ_ _ _=>False) e s'->False) :
 K4t (model P w) K6h (.call (.ref fa) ⟨[.ref a],[]⟩) (λr s'=>r=.ok (.ret (.bool true))/\OldK s₁.heap s'.heap/\s'.os=s₁.os/\K57 s'.gens) s₁:=by
 have rv:=z1K hi;have lenV:=hi.length;have core:∀H:Hp,Only H->SqL K H a (ns.map V.int)->HOk P w H s₁.heap->(∀b,H b≠none->b=a)->(H a≠none->K.lookup a=none) ->
  K4t (model P w) K6h (.call (.ref fa) ⟨[.ref a],[]⟩) (λr s'=>r=.ok (.ret (.bool true))/\OldK s₁.heap s'.heap/\s'.os=s₁.os/\K57 s'.gens) s₁:=by
  intro H hO hS hok hA hK;have base_of:∀{b:Addr} {o:Obj},s₁.heap.get? b=some o->H b=none->(hidT s₁.heap H).get? b=some o:=λe n=>z63 e n;have noA:∀{b:Addr} {o:Obj} {es:Array DictEntry} {ep:Nat},s₁.heap.get? b=some o->o.data=.dict es ep->H b=none:=λ{b o es ep} e d=>by
   cases q:H b with
   | none=>rfl
   | some u =>
    have e':b=a:=hA b (by rw[q];simp);subst e';rw[ha]at e;cases e;have d':Data.seq vs.toArray _=Data.dict es ep:=d;cases d'
  have nsK:∀{b:Addr} {m:Str->Option Value},s₁.heap.Ns b m->(hidT s₁.heap H).Ns b m:=λ{b m} ⟨o,es,ep,e,d,r⟩=>⟨o,es,ep,base_of e (noA e d),d,r⟩;have hKb:K.In (hidT s₁.heap H):=λb o e=>base_of (KX b o e) (by
   cases q:H b with
   | none=>rfl
   | some u =>
    have e':b=a:=hA b (by rw[q];simp);subst e';rw[hK (by rw[q];simp)]at e;cases e)
  have hM:Mod K mg (hidT s₁.heap H):=⟨hKb,nsK hns,⟨mb,nsK hb,hbb⟩,let ⟨mc,h1,h2⟩:=hlim;⟨mc,nsK h1,h2⟩⟩;have e0:Env0 P w K mg (hidT s₁.heap H) K6h [] s₁ H:=⟨rfl,hM,λb o e=>z8G e,K3m (z5K _ _),trivial,λb hb=>absurd (show b∈([]:List Addr) from hb) (by simp),hok,.of_eq hg⟩;refine K6m ((F _ hKb (nsK hns)).run K6h [] s₁ H ⟨[.ref a],[]⟩ [.ref a] [.ref a] _ _ hr e0 (hbind s₁ (.ref a)) (.cons rfl .nil) (hsp H hO hS)) λr s' h=>?_;cases r with
  | error e=>exact(hCX H e s' h).elim
  | ok fl =>
   cases fl with
   | next=>exact K1y h
   | brk=>exact K1y h
   | cont=>exact K1y h
   | ret u =>
    obtain⟨v,H',os,bare,un,hok',r',q⟩:=h;have q':v=.bl true:=q;subst q';obtain rfl:u=K7y true:=r';refine⟨rfl,OldK.of_keep λb o e=>?_,os,bare⟩;cases q:H b with
    | none=>exact un.keep b o e q (by intro z;exact absurd (show b∈([]:List Addr) from z) (by simp)) (by simp)
    | some u =>
     rcases hO b with z|⟨ob,xs,z⟩
     ·rw[q]at z;cases z
     ·have z2:=un.frzs b ob _ z;obtain⟨e1,_⟩:=hok b _ z;obtain⟨e2,_⟩:=hok' b _ z2;rw[e]at e1;cases e1;exact e2
 cases hk:K.lookup a with
 | some o =>
  have e:=KX a o hk;rw[ha]at e;cases e;refine core (λ_=>none) (λ_=>.inl rfl) (.inr ⟨_,vs.toArray,_,hk,rfl,rfl,rfl,by rw[K00,lenV];exact hl,by simpa using rv⟩) (λb u z=>by have z':(none:Option HO)=some u:=z;cases z') (λb z=>absurd rfl z) λz=>absurd rfl z
 | none =>
  refine core (λb=>if b=a then some (.frz { cls:=.type "list",data:=.seq vs.toArray } (.lst (ns.map V.int))) else none) (λb=>?_) (.inl (.inr ⟨{ cls:=.type "list",data:=.seq vs.toArray },if_pos rfl⟩)) (λb u z=>?_) (λb z=>?_) λ_=>hk
  ·by_cases hb:b=a
   ·exact .inr ⟨_,_,if_pos hb⟩
   ·exact .inl (if_neg hb)
  ·by_cases hb:b=a
   ·have z':=(if_pos hb).symm.trans z;cases z';subst hb;exact⟨ha,by rw[K0j];exact hl,vs,_,rv,ha⟩
   ·have z':=(if_neg hb).symm.trans z;cases z'
  ·by_cases hb:b=a
   ·exact hb
   ·exact absurd (if_neg hb) z
abbrev KOf {K:K0} {h:Heap} (_:K.In h):K0:=K
theorem walk_of {l:K90}{n k:Nat}{q:K0a}{loose:List Str}{XP:(Str->Option Value)->Heap->Prop}{YP:World->Heap->Prop}{d:DefRec}{K:Params->K0}{CX:World->CXT}{sp:World->Sp}{x:Str}
 (hn:l.most=some n) (hn2:n<=sizeLine) (hdf:d.params.defaults=[]) (hr:Room k K6h)
 (hY:∀(w:World) (h:Heap),YP w h->(K w.params).In h)
 (F:∀(w:World) (mg:Str->Option Value) (fa:Addr) (h:Heap),(K w.params).In h->h.Ns K1a mg->mg d.name=.(r fa) ->
  ∃fd:K1l,(∀(s:Shared) (u:Value),K7n s fd ⟨[u],[]⟩ [(x,u)]) /\
   ∀base:Heap,(K w.params).In base->base.Ns K1a mg->FnOk l.prog w (K w.params) mg base (CX w) k fa fd [x] (sp w))
 (hsp:∀(w:World) (H:Hp) (a:Addr) (ns:List Int),ns.length<=n->Only H->SqL (K w.params) H a (ns.map V.int)->sp w [.ref a] H (λv _=>v=.bl true) λ_ _ _=>False)
 (hCX:∀(w:World) (H:Hp) (s:Shared) (e:Value) (s':Shared),CX w [] H s (λ_ _ _=>False) e s'->False) :
 K95 q loose XP YP l.row.toRowW d [] (λf vs=>K93 f vs):=by
 refine Att.attach_call hn hdf λw s₀ s₁ mg mb fa o pm cd doc a vs ns G Y ho hd hcd hmg hobj hints hlen hg=>?_;have KX:=hY w _ Y;obtain⟨fd,hb,hF⟩:=F w mg fa _ KX G.T.g hmg;exact z6B KX G.T.g G.T.b G.T.builtins G.T.nolimit hg hobj hints (K0h hlen hn2) hr hF hb (λH hO hS=>hsp w H a ns hlen hO hS) λH e s'=>hCX w H s₁ e s'
def inClass (s:Stmt) (j:Nat):Stmt:=match s with
 | .ClassDef _ _ _ body _ _ _ _ _ _ _=>body.getD j (.Pass ⟨0,0,0,0⟩)
 | _=>.Pass ⟨0,0,0,0⟩
def z0h (s:Stmt):Arguments:=match s with
 | .FunctionDef _ a _ _ _ _ _ _ _ _=>a
 | _=>{ posonlyargs:=[],args:=[],vararg:=none,kwonlyargs:=[],kw_defaults:=[],kwarg:=none,defaults:=[] }
def J4 (s:Stmt):List Stmt:=match s with
 | .FunctionDef _ _ b _ _ _ _ _ _ _=>b
 | _=>[]
def Z3 (s:Stmt):Scope:=match s with
 | .FunctionDef _ _ _ _ _ _ sc _ _ _=>sc
 | _=>{ kind:=.function,names:=[],isGenerator:=false,isCoroutine:=false }
abbrev CX0:CXT:=λ_ _ _ _ _ _=>False
abbrev E0:XK:=λ_ _ _=>False
theorem zb7 {X:Cx}:z3W CX0 X E0:=λ_ _ _ _ _ _ _ h=>h.elim
structure Fun (K:K0) (x qual:Str) (st:Stmt) (f:Addr) (fd:K1l):Prop where
 ex:∃(oc:Value) (od:Option Addr) (kV doc pm:Value) (an:Option Addr) (cdv ct:Value) (osl:Array (Option Value)),
  fd=K1w x qual (z0h st) (J4 st) (Z3 st) .none kV doc pm an cdv ct/\K.lookup f=some ⟨oc,od,.func fd,osl⟩/\K29 K cdv qual=true
 kp:K10 K (.ref f)=true
section
variable {P:K0a}{w:World}{K:K0}{mg:Str->Option Value}{base:Heap}
theorem Fun.ok {x qual:Str}{st:Stmt}{f:Addr}{fd:K1l}{N ps:List Str}{k:Nat}{sp:Sp}(F:Fun K x qual st f fd) (S:FnScope N ps (Z3 st)) (len:∀vs H Q E,sp vs H Q E->vs.length=ps.length)
 (hbody:∀(cdv:Value) (A:Around) (outer:List Env) (s:Shared) (H:Hp) (vs:List V) (Q:VK) (E:XK),Room k (A.deeper (envOfC qual (Z3 st) s.heap.objs.size f cdv))->sp vs H Q E ->
  ∃t,PSs (cxOf CX0 P w K mg base N qual (Z3 st) f cdv A outer s H E).nox (J4 st) t/\t { nx:=λ_ H'=>Q .non H',rt:=Q } (start N vs) H):FnOk P w K mg base CX0 (k+1) f fd ps sp:=by
 obtain⟨oc,od,kV,doc,pm,an,cdv,ct,osl,rfl,lk,hcd⟩:=F.ex;refine z7N lk hcd S len λA outer s H vs Q E hr hsp=>?_;obtain⟨t,h,q⟩:=hbody cdv A outer s H vs Q E hr hsp;exact⟨t,h.nox,q⟩
theorem Fun.binds {x qual:Str}{st:Stmt}{f:Addr}{fd:K1l}{ps:List Str}(F:Fun K x qual st f fd)
 (h:∀(kV doc pm:Value) (an:Option Addr) (cdv ct:Value) (us:List Value),us.length=ps.length->K8i (K1w x qual (z0h st) (J4 st) (Z3 st) .none kV doc pm an cdv ct) ⟨us,[]⟩=pure (ps.zip us)):Binds K fd ps []:=by
 obtain⟨oc,od,kV,doc,pm,an,cdv,ct,osl,rfl,lk,hcd⟩:=F.ex;exact .all (h kV doc pm an cdv ct)
theorem z78 {x qual:Str}{st:Stmt}{f:Addr}{oc:Value}{od an:Option Addr}{osl:Array (Option Value)}{kV doc pm cdv ct:Value}(l:K.lookup f=some ⟨oc,od,.func (K1w x qual (z0h st) (J4 st) (Z3 st) .none kV doc pm an cdv ct),osl⟩)
 (c:K29 K cdv qual=true) (k:K10 K (.ref f)=true):Fun K x qual st f (K1w x qual (z0h st) (J4 st) (Z3 st) .none kV doc pm an cdv ct):=⟨⟨oc,od,kV,doc,pm,an,cdv,ct,osl,rfl,l,c⟩,k⟩
end
theorem z5U {A:Around}{k:Nat}(hr:Room k A):A.units+1<cLine:=K89 (K7t (by decide:1<=64) _) hr.units
section
variable {X:Cx}
end
def Same (H H':Hp):Prop:=∀b o,H b=some o->H' b=some o
theorem Same.refl (H:Hp):Same H H:=λ_ _ h=>h
theorem Same.trans {H H1 H2:Hp}(a:Same H H1) (b:Same H1 H2):Same H H2:=λc o h=>b c o (a c o h)
theorem Same.free {H H':Hp}(e:Same H H') {l:Addr}(h:H' l=Option.none):H l=Option.none:=by
 cases q:H l with
 | none=>rfl
 | some o =>
  rw[e l o q]at h;cases h
theorem Same.seq {K:K0}{H H':Hp}{a:Addr}{xs:List V}(e:Same H H') (h:SqL K H a xs):SqL K H' a xs:=by
 rcases h with (h|⟨o,h⟩)|h
 ·exact .inl (.inl (e _ _ h))
 ·exact .inl (.inr ⟨o,e _ _ h⟩)
 ·exact .inr h
section
variable {κ:Type} [DecidableEq κ]
def valV (kvs:List (κ×V)) (k:κ):Option V:=(kvs.find? λkv=>decide (kv.1=k)).map (·.2)
def putK (kvs:List (κ×V)) (k:κ) (v:V):List (κ×V) :=
 if (kvs.any λkv=>decide (kv.1=k))=true then kvs.map (λkv=>if kv.1=k then (kv.1,v) else kv) else kvs++[(k,v)]
def zc0 (kvs:List (κ×V)) (k:κ):List (κ×V):=kvs.filter λkv=>decide (kv.1≠k)
theorem z1D {p:κ×V}{r:List (κ×V)}{k:κ}(e:p.1=k):valV (p::r) k=some p.2:=by simp[valV,K2b,e]
theorem z1C {p:κ×V}{r:List (κ×V)}{k:κ}(e:¬ p.1=k):valV (p::r) k=valV r k:=by simp[valV,K2b,e]
theorem z3J (k:κ):∀kvs:List (κ×V),(kvs.any λkv=>decide (kv.1=k))=(valV kvs k).isSome
 | []=>rfl
 | p::r=>by
  rw[K1q];by_cases e:p.1=k
  ·simp only[z1D e,decide_eq_true e,Bool.true_or,Option.isSome_some]
  ·rw[z1C e,decide_eq_false e,Bool.false_or];exact z3J k r
theorem z0Y (kvs:List (κ×V)) (k:κ) (v:V):(putK kvs k v).length<=kvs.length+1:=by
 unfold putK;split
 ·rw[K0j];omega
 ·rw[K9,K01,K0c];omega
theorem RelO.isSome_eq {o:Option V}{u:Option Value}(r:RelO o u):o.isSome=u.isSome:=by
 cases o with
 | none=>cases u with
  | none=>rfl
  | some _=>exact(show False from r).elim
 | some _=>cases u with
  | none=>exact(show False from r).elim
  | some _=>rfl
theorem RelO.getD {o:Option V}{u:Option Value}{d:V}{d':Value}(r:RelO o u) (rd:RelV d d'):RelV (o.getD d) (u.getD d'):=by
 cases o with
 | none=>cases u with
  | none=>exact rd
  | some _=>exact(show False from r).elim
 | some _=>cases u with
  | none=>exact(show False from r).elim
  | some _=>exact r
theorem KV.val {kvs:List (κ×V)}{vs:List (κ×Value)}(r:KV kvs vs) (k:κ):RelO (valV kvs k) (K8g vs k):=by
 unfold KV at r;induction r with
 | nil=>exact K2w
 | @cons p q ps qs h t ih =>
  obtain⟨h1,h2⟩:=h;by_cases e:p.1=k
  ·have e':q.1=k:=h1.symm.trans e;have b:K8g (q::qs) k=some q.2:=by simp[K8g,K2b,e']
   rw[z1D e,b];exact h2
  ·have e':¬ q.1=k:=λz=>e (h1.trans z);have b:K8g (q::qs) k=K8g qs k:=by simp[K8g,K2b,e']
   rw[z1C e,b];exact ih
theorem KV.any {kvs:List (κ×V)}{vs:List (κ×Value)}(r:KV kvs vs) (k:κ):(kvs.any λkv=>decide (kv.1=k))=vs.any λkv=>decide (kv.1=k):=by
 unfold KV at r;induction r with
 | nil=>rfl
 | cons h t ih=>rw[K1q,K1q,ih,h.1]
theorem KV.repl {kvs:List (κ×V)}{vs:List (κ×Value)}(r:KV kvs vs) (k:κ) {y:V}{u:Value}(ry:RelV y u) :
 KV (kvs.map λkv=>if kv.1=k then (kv.1,y) else kv) (vs.map λkv=>if kv.1=k then (kv.1,u) else kv):=by
 unfold KV at r ⊢;induction r with
 | nil=>exact .nil
 | @cons p q ps qs h t ih =>
  rw[K0s,K0s];refine .cons ?_ ih;obtain⟨h1,h2⟩:=h;by_cases e:p.1=k
  ·rw[if_pos e,if_pos (h1.symm.trans e)];exact⟨h1,ry⟩
  ·rw[if_neg e,if_neg (λz=>e (h1.trans z))];exact⟨h1,h2⟩
theorem KV.put {kvs:List (κ×V)}{vs:List (κ×Value)}(r:KV kvs vs) (k:κ) {y:V}{u:Value}(ry:RelV y u):KV (putK kvs k y) (stored vs k u):=by
 unfold putK stored;rw[r.any k];by_cases e:(vs.any λkv=>decide (kv.1=k))=true
 ·rw[if_pos e,if_pos e];exact r.repl k ry
 ·rw[if_neg e,if_neg e];exact Paired.snoc r ⟨rfl,ry⟩
theorem KV.drop {kvs:List (κ×V)}{vs:List (κ×Value)}(r:KV kvs vs) (k:κ):KV (zc0 kvs k) (without vs k):=by
 unfold KV at r ⊢;unfold zc0 without;induction r with
 | nil=>exact .nil
 | @cons p q ps qs h t ih =>
  obtain⟨h1,h2⟩:=h;rw[K3n,K3n];by_cases e:p.1=k
  ·have a:¬ decide (p.1≠k)=true:=by simp[e]
   have b:¬ decide (q.1≠k)=true:=by simp[h1.symm.trans e]
   rw[if_neg a,if_neg b];exact ih
  ·have e':¬ q.1=k:=λz=>e (h1.trans z);have a:decide (p.1≠k)=true:=by simp[e]
   have b:decide (q.1≠k)=true:=by simp[e']
   rw[if_pos a,if_pos b];exact .cons ⟨h1,h2⟩ ih
theorem KV.length {kvs:List (κ×V)}{vs:List (κ×Value)}(r:KV kvs vs):kvs.length=vs.length:=K3q r
end
theorem z5h {P:K0a}{w:World}{k:Key}{u:Value}(r:RelV (kV k) u):(J1 P w).is k u=true:=by
 cases k with
 | inl i=>obtain⟨t,e⟩:=(show ∃t,u=K7h i t from r);subst e;exact z3l P w i t
 | inr x=>obtain⟨t,e⟩:=(show ∃t,u=K8o x t from r);subst e;exact z3C P w x t
theorem z2Z {P:K0a}{w:World}:∀{ks:List Key}{us:List Value},Vals (ks.map kV) us->ItemsAre (J1 P w) ks us
 | [],_,r=>by rw[K35]at r;cases r;exact .nil
 | k::ks,_,r=>by
  rw[K0s]at r;cases r with
  | cons h t=>exact .cons (z5h h) (z2Z t)
abbrev KT (H:Hp):List (List Key×V)->List (List Key×Addr×Value)->Prop:=Paired λp q=>p.1=q.1/\H q.2.1=.(g (p.1.map kV))/\RelV p.2 q.2.2
theorem KT.val {H:Hp}{kvs:List (List Key×V)}{xs:List (List Key×Addr×Value)}(r:KT H kvs xs) (k:List Key):RelO (valV kvs k) ((atKey xs k).map (·.2)):=by
 induction r with
 | nil=>exact K2w
 | @cons p q ps qs h t ih =>
  obtain⟨h1,_,h2⟩:=h;by_cases e:p.1=k
  ·have e':q.1=k:=h1.symm.trans e;have b:atKey (q::qs) k=some q.2:=by simp[atKey,K2b,e']
   rw[z1D e,b];exact h2
  ·have e':¬ q.1=k:=λz=>e (h1.trans z);have b:atKey (q::qs) k=atKey qs k:=by simp[atKey,K2b,e']
   rw[z1C e,b];exact ih
theorem KT.repl {H:Hp}{kvs:List (List Key×V)}{xs:List (List Key×Addr×Value)}(r:KT H kvs xs) (k:List Key) {y:V}{u:Value}(ry:RelV y u) :
 KT H (kvs.map λkv=>if kv.1=k then (kv.1,y) else kv) (xs.map (putAt k u)):=by
 induction r with
 | nil=>exact .nil
 | @cons p q ps qs h t ih =>
  rw[K0s,K0s];refine .cons ?_ ih;obtain⟨h1,h2,h3⟩:=h;unfold putAt;by_cases e:p.1=k
  ·rw[if_pos e,if_pos (h1.symm.trans e)];exact⟨h1,h2,ry⟩
  ·rw[if_neg e,if_neg (λz=>e (h1.trans z))];exact⟨h1,h2,h3⟩
theorem KT.put {H:Hp}{kvs:List (List Key×V)}{xs:List (List Key×Addr×Value)}(r:KT H kvs xs) (k:List Key) {b:Addr}{y:V}{u:Value}(hb:H b=.(g (k.map kV))) (ry:RelV y u) :
 KT H (putK kvs k y) (storedH xs k b u):=by
 have e:(kvs.any λkv=>decide (kv.1=k))=(atKey xs k).isSome:=by
  rw[z3J,(r.val k).isSome_eq,K4g]
 unfold putK storedH;rw[e];by_cases q:(atKey xs k).isSome=true
 ·rw[if_pos q,if_pos q];exact r.repl k ry
 ·rw[if_neg q,if_neg q];exact Paired.snoc r ⟨rfl,hb,ry⟩
theorem KT.keeps {H H':Hp}{kvs:List (List Key×V)}{xs:List (List Key×Addr×Value)}(r:KT H kvs xs) (ht:∀b ys,H b=.(g ys)->H' b=.(g ys)):KT H' kvs xs :=
 Paired.mapP r λ_ _ z=>⟨z.1,ht _ _ z.2.1,z.2.2⟩
section
variable {P:K0a}{w:World}{H:Hp}{h:Heap}{a:Addr}
theorem za8 {u:HO}(ok:HOk P w H h) (e:Rd H a u):ObjOk P w H h a u:=e.ok ok
theorem z6O {kvs:List (Key×V)}(ok:HOk P w H h) (e:Rd H a (.dK kvs)):kvs.length<=sizeLine/\(a==K2k)=false/\∃vs,KV kvs vs/\h.DictOf (J1 P w) a vs :=
 show ObjOk P w H h a (.dK kvs) from za8 ok e
theorem z8J {kvs:List (Key×V)}(ok:HOk P w H h) (e:H a=some (.dK kvs)):kvs.length<=sizeLine/\(a==K2k)=false/\∃vs,KV kvs vs/\h.DictOf (J1 P w) a vs:=z6O ok (.inl e)
theorem z3F {ks:List Key}(ok:HOk P w H h) (e:H a=.(g (ks.map kV))):(K7o (J1 P w)).is h ks a:=by
 obtain⟨_,its,r,o,h1,h2,n,h3⟩:=(show ObjOk P w H h a (.tup (ks.map kV)) from ok a _ e);exact⟨o,its.toArray,n,h1,h2.1,h3,by simpa using z2Z r⟩
theorem z7J {kvs:List (List Key×V)}(ok:HOk P w H h) (e:Rd H a (.dT kvs)):kvs.length<=sizeLine/\(a==K2k)=false /\
 ∃xs,KT H kvs xs/\h.DictOfH (K7o (J1 P w)) a xs:=by
 obtain⟨z,y,xs,r,o,es,ep,h1,h2,h3,h4,h5⟩:=(show ObjOk P w H h a (.dT kvs) from za8 ok e);refine⟨z,y,xs,r,o,es,ep,h1,h2,h3,h4,λx hx=>?_,h5⟩;have all:∀{l:List (List Key×V)} {m:List (List Key×Addr×Value)},KT H l m->∀x∈m,(K7o (J1 P w)).is h x.1 x.2.1:=by
  intro l m q;induction q with
  | nil=>intro x hx;exact nomatch hx
  | @cons p q ps qs hq t ih =>
   intro x hx;rcases K1h.mp hx with e|hx
   ·subst e;exact z3F ok (by rw[<- hq.1];exact hq.2.1)
   ·exact ih x hx
 exact all r x hx
theorem zl9 {kvs:List (List Key×V)}(ok:HOk P w H h) (e:H a=some (.dT kvs)):kvs.length<=sizeLine/\(a==K2k)=false /\
 ∃xs,KT H kvs xs/\h.DictOfH (K7o (J1 P w)) a xs:=z7J ok (.inl e)
end
def DGet (H:Hp) (a:Addr) (y:V) (r:Option V):Prop :=
 (∃kvs k,Rd H a (.dK kvs)/\y=kV k/\r=valV kvs k)\/∃kvs k b,Rd H a (.dT kvs)/\y=.ref b/\H b=.(g (k.map kV))/\r=valV kvs k
def DPut (H:Hp) (a:Addr) (y v:V) (H':Hp):Prop :=
 (∃kvs k,H a=some (.dK kvs)/\y=kV k/\kvs.length<sizeLine/\H'=upd H a (.dK (putK kvs k v))) \/
 ∃kvs k b,H a=some (.dT kvs)/\y=.ref b/\H b=.(g (k.map kV))/\kvs.length<sizeLine/\H'=upd H a (.dT (putK kvs k v))
theorem DGet.k {H:Hp}{a:Addr}{kvs:List (Key×V)}{k:Key}(e:H a=some (.dK kvs)):DGet H a (kV k) (valV kvs k):=.inl ⟨kvs,k,.inl e,rfl,rfl⟩
theorem DGet.t {H:Hp}{a b:Addr}{kvs:List (List Key×V)}{k:List Key}(e:H a=some (.dT kvs)) (eb:H b=.(g (k.map kV))):DGet H a (.ref b) (valV kvs k):=.inr ⟨kvs,k,b,.inl e,rfl,eb,rfl⟩
theorem DPut.k {H:Hp}{a:Addr}{kvs:List (Key×V)}{k:Key}{v:V}(e:H a=some (.dK kvs)) (hl:kvs.length<sizeLine):DPut H a (kV k) v (upd H a (.dK (putK kvs k v))):=.inl ⟨kvs,k,e,rfl,hl,rfl⟩
theorem DPut.t {H:Hp}{a b:Addr}{kvs:List (List Key×V)}{k:List Key}{v:V}(e:H a=some (.dT kvs)) (eb:H b=.(g (k.map kV))) (hl:kvs.length<sizeLine) :
 DPut H a (.ref b) v (upd H a (.dT (putK kvs k v))):=.inr ⟨kvs,k,b,e,rfl,eb,hl,rfl⟩
section
variable {X:Cx}{pins:List (Addr×Obj)}{σ:St}{H:Hp}{s:Shared}{a:Addr}{y v:V}{u r:Value}{o:Option V}{A:Around}{E:Value->Shared->Prop}
theorem Inv.big (I:Inv X pins σ H s):K2k<s.heap.objs.size:=by
 have h:K1a<s.heap.objs.size:=(I.mod.glob.keeps I.bk).lt;exact Nat.lt_trans (by decide) h
theorem d_in {Q:Value->Shared->Prop}(hu:A.units+1<cLine) (I:Inv X pins σ H s) (g:DGet H a y o) (ry:RelV y u) (h:∀s',Inv X pins σ H s'->Q (.bool o.isSome) s') :
 wpAny (model X.prog X.w) A (K1g .In u (.ref a)) Q E s:=by
 rcases g with ⟨kvs,k,e,ey,l⟩|⟨kvs,k,b,e,ey,eb,l⟩
 ·subst ey;obtain⟨z,hd,vs,rel,dd⟩:=z6O I.hok e;refine wpAny_in_of (z5h ry) hd dd.mapOf ?_;rw[<- (rel.val k).isSome_eq,<- l];exact h _ (I.tok _)
 ·subst ey;cases (show u=K1j b from ry);obtain⟨z,hd,xs,rel,dd⟩:=z7J I.hok e;refine wpAny_in_heap (K5m hu) (z3F I.hok eb) hd dd ?_;have q:=(rel.val k).isSome_eq;rw[K4g]at q;rw[<- q,<- l];exact h _ (I.tok _)
theorem z7Y {Q:Value->Shared->Prop}(hu:A.units+1<cLine) (I:Inv X pins σ H s) (g:DGet H a y o) (ry:RelV y u) (h:∀s',Inv X pins σ H s'->Q (.bool (!o.isSome)) s') :
 wpAny (model X.prog X.w) A (K1g .NotIn u (.ref a)) Q E s:=by
 rcases g with ⟨kvs,k,e,ey,l⟩|⟨kvs,k,b,e,ey,eb,l⟩
 ·subst ey;obtain⟨z,hd,vs,rel,dd⟩:=z6O I.hok e;refine wpAny_notIn_of (z5h ry) hd dd.mapOf ?_;rw[<- (rel.val k).isSome_eq,<- l];exact h _ (I.tok _)
 ·subst ey;cases (show u=K1j b from ry);obtain⟨z,hd,xs,rel,dd⟩:=z7J I.hok e;refine wpAny_notIn_heap (K5m hu) (z3F I.hok eb) hd dd ?_;have q:=(rel.val k).isSome_eq;rw[K4g]at q;rw[<- q,<- l];exact h _ (I.tok _)
theorem z3p {h':Heap}{t':Nat}{ob:HO}(I:Inv X pins σ H s) (mu:Mut (H a)) (hs:K52 a s.heap h') (he:∃q,h'.get? a=some q) (new:ObjOk X.prog X.w (upd H a ob) h' a ob) :
 Inv X pins σ (upd H a ob) { s with heap:=h',toks:=t' } :=
 I.write (x:=a) (e:=a) mu (.inl rfl) (λb q hb z=>(hs.2 b hb).trans z) he new
theorem z77 {P:K0a}{w:World}{H':Hp}{h':Heap}{kvs:List (Key×V)}{vs:List (Key×Value)}(z:kvs.length<=sizeLine) (hd:(a==K2k)=false) (rel:KV kvs vs) (dd:h'.DictOf (J1 P w) a vs) :
 ObjOk P w H' h' a (.dK kvs):=⟨z,hd,vs,rel,dd⟩
theorem z5z {H':Hp}{Q:Unit->Shared->Prop}(hu:A.units+1<cLine) (I:Inv X pins σ H s) (g:DPut H a y v H') (ry:RelV y u) (rv:RelV v r) (h:∀s',Inv X pins σ H' s'->Q () s') :
 wpAny (model X.prog X.w) A (K7m (.ref a) u r) Q E s:=by
 rcases g with ⟨kvs,k,e,ey,l,eH⟩|⟨kvs,k,b,e,ey,eb,l,eH⟩
 ·subst ey eH;obtain⟨z,hd,vs,rel,dd⟩:=z8J I.hok e;have hz:vs.length<=sizeLine:=by rw[<- rel.length];exact z
  have hl:(putK kvs k v).length<=sizeLine:=by have:=z0Y kvs k v;omega
  refine wpAny_setItem_pairs (hsz:=hz) (z5h ry) dd λh' dd' hs=>h _ ?_;have he:∃q,h'.get? a=some q:=let ⟨q,_,_,hq,_⟩:=dd';⟨q,hq⟩;exact z3p I (by rw[e];exact K2w) hs he (z77 hl hd (rel.put k rv) dd')
 ·subst ey eH;cases (show u=K1j b from ry);obtain⟨z,hd,xs,rel,dd⟩:=zl9 I.hok e;have hz:xs.length<=sizeLine:=by rw[<- K3q rel];exact z
  have hl:(putK kvs k v).length<=sizeLine:=by have:=z0Y kvs k v;omega
  refine wpAny_setItem_heap (hsz:=hz) (K5m hu) (z3F I.hok eb) dd λh' dd' hs=>h _ ?_;obtain⟨q,es,ep,hq,h2,h3,h4,_,h5⟩:=dd';refine z3p I (by rw[e];exact K2w) hs ⟨q,hq⟩ ⟨hl,hd,_,(rel.put k eb rv).keeps λc ys ec=>?_,q,es,ep,hq,h2,h3,h4,h5⟩;rw[Z7 (zi7 ec e (λz=>nomatch z))];exact ec
end
section
variable {X:Cx}{pins:List (Addr×Obj)}{σ:St}{H:Hp}{s:Shared}{a:Addr}{kvs:List (Key×V)}{k:Key}{u:Value}{A:Around}{E:Value->Shared->Prop}
theorem zi2 {Q:Value->Shared->Prop}(I:Inv X pins σ H s) (e:Rd H a (.dK kvs)) (h:∀t s',Inv X pins σ H s'->Q (.int kvs.length t) s'):wpAny (model X.prog X.w) A (call (.builtin "len") [.ref a]) Q E s:=by
 obtain⟨z,hd,vs,rel,dd⟩:=z6O I.hok e;refine call_len_dict hd dd (by rw[<- rel.length];rw[K7c]at z;omega) ?_;rw[<- rel.length];exact h _ _ (I.tok _)
end
section
variable {X:Cx}{o i e value:Expr}{pos pos' tpos:Pos}{td ty tv:TE}
end
theorem z6D {P:K0a}{w:World}{H:Hp}(h:Heap) (hb:K2k<h.objs.size):ObjOk P w H (h.push { cls:=.type "dict",data:=.dict #[] }) h.objs.size (.dK []) :=
 ⟨K3g _,beq_eq_false_iff_ne.mpr (K55 (K0q hb)),[],.nil,Heap.DictOf.new h⟩
section
variable {X:Cx}{pos:Pos}
end
structure M1 (X:Cx) (o:Expr) (m:Str) (apos:Pos) (e:Expr) (cpos:Pos):Prop where
 base:K3d o m X.env (eval o X.env)=eval o X.env
 few:((backTo cpos (K07 [e] X.env)).all (λx=>!x.1)&&(K5j cpos (K3i [] X.env)).all (λx=>x.1.isSome)
 &&decide (([e]:List Expr).length+([]:List K3f).length+(if ([]:List K3f).isEmpty then 0 else 1)<30))=true
 line:(apos.endLine==cpos.line)=true
 trees:backTo cpos (K07 [e] X.env)=[(false,eval e X.env)]
structure M2 (X:Cx) (o:Expr) (m:Str) (apos:Pos) (e f:Expr) (cpos:Pos):Prop where
 base:K3d o m X.env (eval o X.env)=eval o X.env
 few:((backTo cpos (K07 [e,f] X.env)).all (λx=>!x.1)&&(K5j cpos (K3i [] X.env)).all (λx=>x.1.isSome)
 &&decide (([e,f]:List Expr).length+([]:List K3f).length+(if ([]:List K3f).isEmpty then 0 else 1)<30))=true
 line:(apos.endLine==cpos.line)=true
 trees:backTo cpos (K07 [e,f] X.env)=[(false,eval e X.env),(false,eval f X.env)]
section
variable {X:Cx}{pins:List (Addr×Obj)}{σ:St}{H:Hp}{s:Shared}{a:Addr}{y d:V}{u r:Value}{o:Option V}{A:Around}{E:Value->Shared->Prop}
end
section
variable {X:Cx}{o e f:Expr}{apos cpos:Pos}{td ty tx:TE}
end
abbrev z4e (ifs:List Expr) (env:Env):Sem Bool :=
 forIn ifs true λc r=>if r=true then do { let ok <- isTrue c env (eval c env);pure (K38 ok) } else pure (K38 r)
def J7 (env:Env):List (Str×K4c)->List (Str×Addr)->List (Str×Addr)
 | [],acc=>acc
 | (n,k)::r,acc=>J7 env r (if k==.free then match env.cells.lookup n with|some c=>(n,c)::acc|none=>acc else acc)
theorem z1o {env:Env}:∀(names:List (Str×K4c)) (acc:List (Str×Addr)),(∀x∈names,x.2=.free->∃c,env.cells.lookup x.1=some c) ->
 (forIn names acc λ(x:Str×K4c) (r:List (Str×Addr))=>(if (x.2==K3b)=true then do { let c <- cellOf env x.1;pure (K38 ((x.1,c)::r)) } else pure (K38 r):Sem (ForInStep (List (Str×Addr)))))=(pure (J7 env names acc):Sem _)
 | [],acc,_=>by rw[K7b];rfl
 | (n,k)::r,acc,h=>by
  rw[K6z];have hr:∀x∈r,x.2=.free->∃c,env.cells.lookup x.1=some c:=λx hx=>h x (K0x _ hx);by_cases hk:k=.free
  ·subst hk;obtain⟨c,hc⟩:=h (n,.free) K1d rfl;have hc':env.cells.lookup n=some c:=hc;simp only[J7,beq_self_eq_true,if_true,cellOf,hc',pure_bind];exact z1o r _ hr
  ·have hb:(k==K3b)=false:=by simpa using hk
   simp only[J7,hb,K1s,if_false,pure_bind];exact z1o r _ hr
theorem z11 {scope:Scope}{env:Env}(h:∀x∈scope.names,x.2=.free->∃c,env.cells.lookup x.1=some c) :
 closureFor scope env=pure (J7 env scope.names []):=by
 unfold closureFor;exact congrArg (λm:Sem (List (Str×Addr))=>m >>= λz=>pure z) (z1o scope.names [] h)
theorem z41 {env:Env}:∀(names:List (Str×K4c)) (acc:List (Str×Addr)) {x:Str}{c:Addr},(J7 env names acc).lookup x=some c ->
 env.cells.lookup x=some c\/acc.lookup x=some c
 | [],acc,x,c,h=>.inr h
 | (n,k)::r,acc,x,c,h=>by
  rcases z41 r _ h with q|q
  ·exact .inl q
  ·by_cases hk:(k==K3b)=true
   ·rw[if_pos hk]at q;cases e:env.cells.lookup n with
    | none=>rw[e]at q;exact .inr q
    | some c' =>
     rw[e]at q;simp only[K1i]at q;cases hx:x==n with
     | true =>
      rw[hx]at q;cases q;have:x=n:=by simpa using hx
      subst this;exact .inl e
     | false=>rw[hx]at q;exact .inr q
   ·rw[if_neg hk]at q;exact .inr q
theorem z3X {env:Env}{x:Str}{c:Addr}(hc:env.cells.lookup x=some c):∀(names:List (Str×K4c)) (acc:List (Str×Addr)),
 acc.lookup x=some c->(J7 env names acc).lookup x=some c
 | [],acc,h=>h
 | (n,k)::r,acc,h=>by
  refine z3X hc r _ ?_;by_cases hk:(k==K3b)=true
  ·rw[if_pos hk];cases e:env.cells.lookup n with
   | none=>exact h
   | some c' =>
    simp only[K1i];cases hx:x==n with
    | true =>
     have:x=n:=by simpa using hx
     subst this;rw[hc]at e;exact e.symm
    | false=>exact h
  ·rw[if_neg hk];exact h
theorem z3g {env:Env}{x:Str}{c:Addr}(hc:env.cells.lookup x=some c):∀(names:List (Str×K4c)) (acc:List (Str×Addr)),
 (x,K3b)∈names->(J7 env names acc).lookup x=some c
 | [],_,h=>absurd h (by simp)
 | (n,k)::r,acc,h=>by
  rcases K1h.mp h with e|h
  ·cases e;refine z3X hc r _ ?_;rw[if_pos (by simp),hc];simp[K1i]
  ·exact z3g hc r _ h
theorem z0T {sc:Scope}{env:Env}{x:Str}{k:NameKind}(h:(relabel sc env).names.lookup x=some k) :
 ∃k0,sc.names.lookup x=some k0/\(k=k0\/(k=.cell/\k0=.free)):=by
 unfold relabel at h;dsimp only at h;generalize sc.names=ns at h ⊢;induction ns with
 | nil=>simp at h
 | cons a r ih =>
  obtain⟨n,k1⟩:=a;simp only[K0s]at h;by_cases hc:(k1==K3b&&env.scope.kind==.function&&env.kindOf n==some .cell)=true
  ·rw[if_pos hc]at h;simp only[K1i]at h ⊢;cases hx:x==n with
   | true =>
    rw[hx]at h;cases h;refine⟨k1,rfl,.inr ⟨rfl,?_⟩⟩;simp only[K0b]at hc;simpa using hc.1.1
   | false=>rw[hx]at h;exact ih h
  ·rw[if_neg hc]at h;simp only[K1i]at h ⊢;cases hx:x==n with
   | true=>rw[hx]at h;cases h;exact⟨_,rfl,.inl rfl⟩
   | false=>rw[hx]at h;exact ih h
theorem z36 {sc:Scope}{env:Env}{x:Str}(h:sc.names.lookup x=some .free) :
 (relabel sc env).names.lookup x=some .cell\/(relabel sc env).names.lookup x=some .free:=by
 unfold relabel;dsimp only;generalize sc.names=ns at h ⊢;induction ns with
 | nil=>simp at h
 | cons a r ih =>
  obtain⟨n,k1⟩:=a;simp only[K0s];simp only[K1i]at h;by_cases hc:(k1==K3b&&env.scope.kind==.function&&env.kindOf n==some .cell)=true
  ·rw[if_pos hc];simp only[K1i];cases hx:x==n with
   | true=>exact .inl rfl
   | false=>rw[hx]at h;exact ih h
  ·rw[if_neg hc];simp only[K1i];cases hx:x==n with
   | true=>rw[hx]at h;exact .inr h
   | false=>rw[hx]at h;exact ih h
structure CS (X:Cx) (sc:Scope) (N':List Str) (cap:List (Option Nat)):Prop where
 kind:sc.kind=.function
 nocell:∀y∈sc.names,y.2≠.cell
 loc:∀x∈sc.names,x.2=.local->sc.names.lookup x.1=some .local
 fr:∀x∈sc.names,x.2=.free->X.env.kindOf x.1=some .cell\/X.env.kindOf x.1=some .free
 len:cap.length=N'.length
 capt:∀(i j:Nat),cap[i]?=some (some j)->∃x,N'[i]?=some x/\X.N[j]?=some x/\sc.names.lookup x=some .free
def z1Z (cap:List (Option Nat)) (σ:St):St:=cap.map λo=>match o with|some j=>(σ[j]?).join|none=>none
def Cx.comp (X:Cx) (N':List Str) (sc:Scope) (s:Shared) (H:Hp) (fp:List Addr) (xe:Value->Shared->Prop):Cx :=
 { X with N:=N',s₀:=s,H₀:=H,env:=compEnvC sc (J7 X.env sc.names []) s.heap.objs.size X.env,outer:=X.stack,stack:=X.stack,ex:=fp,fn:=λ_=>false,pn:=[],xe:=xe }
section
variable {X:Cx}{pins:List (Addr×Obj)}{σ:St}{H:Hp}{s:Shared}{sc:Scope}{N':List Str}{cap:List (Option Nat)}{fp:List Addr}{xe:Value->Shared->Prop}{h':Heap}
theorem CS.cells (S:CS X sc N' cap) (I:Inv X pins σ H s):∀x∈sc.names,x.2=.free->∃c,X.env.cells.lookup x.1=some c:=λx hx hf =>
 I.ok.has x.1 (S.fr x hx hf)
theorem Inv.compIn {t:Nat}(I:Inv X pins σ H s) (S:CS X sc N' cap) (hf:∀b∈fp,FpOk X pins H b) (hlt:∀b∈fp,b<s.heap.objs.size)
 (hns:h'.Ns s.heap.objs.size λ_=>none) (hk:∀b o,s.heap.get? b=some o->h'.get? b=some o) :
 Inv (X.comp N' sc s H fp xe) [] (z1Z cap σ) H { s with heap:=h',toks:=t }:=by
 have hfrom:∀{x c},(J7 X.env sc.names []).lookup x=some c->X.env.cells.lookup x=some c:=λ{x c} q=>by
  rcases z41 _ _ q with z|z
  ·exact z
  ·simp at z
 have hlook:∀ {x},((relabel sc X.env).names.lookup x=some .cell\/(relabel sc X.env).names.lookup x=some .free)->sc.names.lookup x=some .free:=fun {x} q=>by
  rcases q with q|q
  ·obtain⟨k0,e,z⟩:=z0T q;rcases z with z|z
   ·subst z;exact absurd rfl (S.nocell _ (K1m e))
   ·rw[e,z.2]
  ·obtain⟨k0,e,z⟩:=z0T q;rcases z with z|z
   ·rw[e,z]
   ·cases z.1
 refine⟨⟨I.ok.mod,?_,I.ok.glob,I.ok.blt,K08 _,λx y c h1 h2=>I.ok.inj x y c (hfrom h1) (hfrom h2),λx hx=>?_,λx c q=>absurd (show false=true from q) (by decide),I.ok.hd,I.ok.frames,.inl rfl,λb hb=>⟨?_,λx c q=>?_⟩,
  I.bs,K0h I.ok.bsz I.sz,λb o e hb=>?_,λb hb hz=>?_,I.stack,I.stkFree⟩,
  rfl,I.bare,Un.kept hk,⟨_,hns,λi x v h1 h2 h3=>?_⟩,λx c q=>?_,I.hok.fresh (K08 _),λx c q=>I.freeC x c (hfrom q),λp hp=>absurd (show p∈([]:List (Addr×Obj)) from hp) (by simp),I.hok.kept hk,?_⟩
 ·exact S.kind
 ·have e:=hlook hx;have e2:=K1m e;obtain⟨c,hc⟩:=I.ok.has x (S.fr _ e2 rfl);exact⟨c,z3g hc _ _ e2⟩
 ·exact K0q (hlt b hb)
 ·exact(hf b hb).2.2.2.2.1 x c (hfrom q)
 ·rcases(hf b hb).2.2.2.1 with z|z
  ·exact I.ok.noex b o e z
  ·exact absurd (K0i (K09 e) (K0h I.ok.bsz z)) (K2i _)
 ·rcases K1h.mp (I.stkSub b hz) with z|z
  ·exact(hf b hb).2.1 z
  ·exact(hf b hb).2.2.1 z
 ·have h2':(cap.map λo=>match o with|some j=>(σ[j]?).join|none=>none)[i]?=some (some v):=h2;rw[K0n]at h2';cases e:cap[i]? with
  | none=>rw[e]at h2';cases h2'
  | some o =>
   rw[e]at h2';cases o with
   | none=>simp at h2'
   | some j =>
    have hj:σ[j]?=some (some v):=by
     have h4:(σ[j]?).join=some v:=by simpa using h2'
     cases e2:σ[j]? with
     | none=>rw[e2]at h4;simp at h4
     | some o2=>rw[e2]at h4;simp at h4;rw[h4]
    obtain⟨y,n1,n2,n3⟩:=S.capt i j e;have ey:y=x:=by
     have h1':N'[i]?=some x:=h1;rw[n1]at h1';exact K0p h1'
    subst ey;have hm:=K1m n3;have hkind:=S.fr _ hm rfl;obtain⟨m,hn,hl⟩:=I.loc;have vis:Vis X.env.scope y:=by
     rcases hkind with z|z
     ·exact .inr (.inl z)
     ·exact .inr (.inr z)
    obtain⟨u,r,l⟩:=hl j y v n2 hj vis;refine⟨u,r,.inr ?_⟩;rcases l with ⟨z,_⟩|⟨_,c,hc,hcell⟩
    ·have z':X.env.kindOf y=some .local:=z;rcases hkind with q|q<;>(have q':X.env.kindOf y=_:=q;rw[z']at q';cases q')
    ·obtain⟨o,ho,hd⟩:=hcell;exact⟨z36 n3,c,z3g hc _ _ hm,o,hk c o ho,hd⟩
 ·obtain⟨v,o,ho,hd⟩:=I.cell x c (hfrom q);exact⟨v,o,hk c o ho,hd⟩
 ·show (cap.map _).length=N'.length;rw[K0j];exact S.len
theorem Inv.compOut {pins':List (Addr×Obj)}{σ':St}{H':Hp}{s':Shared}(I:Inv X pins σ H s) (hf:∀b∈fp,FpOk X pins H b)
 (J:Inv (X.comp N' sc s H fp xe) pins' σ' H' s') (hs:K52 s.heap.objs.size s'.heap h'):Inv X pins σ H' { s' with heap:=h' }:=by
 have hu:Un (frs X.stack) fp H H' s.heap s'.heap:=J.base;have hC:H' s.heap.objs.size=none:=J.free;have lt:∀{b:Addr} {o:Obj},s.heap.get? b=some o->b≠s.heap.objs.size:=λe=>K0q (K09 e);refine I.call' (s':={ s' with heap:=h' }) (ch:=fp) J.os ⟨λb o e n h1 h2=>?_,λb o e n h1 h2=>?_,hu.free,λb o e h1=>?_,hu.tups,hu.frzs,hu.tbls⟩ (λb u e=>?_) J.bare (λb hb=>⟨(hf b hb).2.2.2.1,(hf b hb).2.1,(hf b hb).2.2.2.2.1,(hf b hb).2.2.2.2.2⟩)
 ·exact(hs.2 b (lt e)).trans (hu.keep b o e n h1 h2)
 ·obtain⟨sl,q⟩:=hu.slot b o e n h1 h2;exact⟨sl,(hs.2 b (lt e)).trans q⟩
 ·obtain⟨o',q⟩:=hu.there b o e h1;exact⟨o',(hs.2 b (lt e)).trans q⟩
 ·refine(J.hok b u e).stay (λc v hc q=>?_) (λ_ q=>q) λ_ _ q=>q;have ne:c≠s.heap.objs.size:=by
   rintro rfl;rcases hc with z|z
   ·rw[<- z,hC]at e;cases e
   ·rw[hC]at z;cases z
  exact(hs.2 c ne).trans q
end
def PTs (X:Cx) (ifs:List Expr) (t:TT):Prop :=
 ∀(pins:List (Addr×Obj)) (s:Shared) (σ:St) (H:Hp) (Q:Bool->Hp->Prop),Inv X pins σ H s->t σ H Q->wpAny (model X.prog X.w) X.A (z4e ifs X.env) (TP X pins σ Q) X.xe s
def z8t:TT:=λ_ H Q=>Q true H
def zd3 (t r:TT):TT:=λσ H Q=>t σ H λb H1=>if b=true then r σ H1 Q else Q false H1
theorem z33 {X:Cx}{E:Value->Shared->Prop}{Q:Bool->Shared->Prop}:∀{ifs:List Expr}{s:Shared},Q false s ->
 wpAny (model X.prog X.w) X.A (forIn ifs false λc r=>if r=true then do { let ok <- isTrue c X.env (eval c X.env);pure (K38 ok) } else pure (K38 r)) Q E s
 | [],s,h=>by rw[K7b];exact K04 h
 | c::r,s,h=>by
  rw[K6z];refine K2 ?_;rw[if_neg (by decide)];exact K04 (z33 h)
theorem z4y {X:Cx}:PTs X [] z8t:=λpins s σ H Q I h=>by
 unfold z4e;rw[K7b];exact K04 ⟨H,I,h⟩
theorem z6T {X:Cx}{c:Expr}{r:List Expr}{t u:TT}(h1:PT X c t) (h2:PTs X r u):PTs X (c::r) (zd3 t u):=λpins s σ H Q I h=>by
 unfold z4e;rw[K6z];refine K2 ?_;rw[if_pos rfl];refine K2 (thn (h1 pins s σ H _ I h) λb s1 ⟨H1,I1,q1⟩=>K04 ?_);cases b with
 | true=>exact h2 pins s1 σ H1 Q I1 (by simpa using q1)
 | false=>exact z33 ⟨H1,I1,by simpa using q1⟩
def z62 (p:Pos) (tg:Expr) (ifs:List Expr) (it:Value) (env:Env) (b:Sem Unit) (c:Code):Sem Fin:=do
 K4k p
 match <- pyNext it with
 | none=>pure (.done .next)
 | some v =>
  K4z tg it v
  assign tg env v
  let ok <- z4e ifs env
  if ok then b
  again c
abbrev TB:=St->Hp->(Hp->Prop)->Prop
def Kp (σ σ':St):Prop:=∀(j:Nat) v,σ[j]?=some (some v)->σ'[j]?=some (some v)
def PBd (X:Cx) (b:Sem Unit) (t:TB):Prop :=
 ∀(pins:List (Addr×Obj)) (s:Shared) (σ:St) (H:Hp) (Q:Hp->Prop),Inv X pins σ H s->t σ H Q->wpAny (model X.prog X.w) X.A b (λ_ s'=>∃σ' H',Inv X pins σ' H' s'/\Kp σ σ'/\Q H') X.xe s
def runG (g:TG) (ti:TT) (tb:TB) (σ:St) (J:It) (Q:Hp->Prop) (H:Hp):Prop :=
 ∃W:Nat->Nat->Hp->Prop,(∃m,W 0 m H)/\∀i m H,W i m H ->
  (J.stop i H/\Q H)\/(J.go i H/\∀x H1,J.yld i H x H1->g x σ H1 λσ2 H2=>Kp σ σ2 /\
   ti σ2 H2 λok H3=>if ok=true then tb σ2 H3 λH4=>∃m',m'<m/\W (i+1) m' H4 else ∃m',m'<m/\W (i+1) m' H3)
def CK (ce:Expr):Prop:=(∃elt gens sc pos,ce=.ListComp elt gens sc pos)\/∃k v gens sc pos,ce=.DictComp k v gens sc pos
section
variable {X:Cx}{ce elt val tg iter tg1 iter1:Expr}{ifs ifs1:List Expr}{sc:Scope}{pos p:Pos}{N':List Str}{cap:List (Option Nat)}{g g1:TG}{wi wi1:TI}{ti ti1:TT}{te tv:TE}{tb:TB}{b:Sem Unit}{D:Addr}
theorem zl2 {pins:List (Addr×Obj)}{σ0:St}{H2:Hp}{s2:Shared}{it:Addr}{fp:List Addr}{tn:Nat->Heap->Prop}{J:It}{R:Result->Shared->Prop}{Q:Hp->Prop}{k:Nat}{acc:Value}
 (htn:compTurn ce k (.ref it) acc X.env=z62 p tg ifs (.ref it) X.env b (.compLoop ce k (.ref it) acc X.env)) (hce:CK ce) (hc:X.calm=true)
 (hg:PG (X.wish (K8h (model X.prog X.w) X.A X.env λe s'=>R (.error e) s')) tg g) (ht:PTs (X.wish (K8h (model X.prog X.w) X.A X.env λe s'=>R (.error e) s')) ifs ti) (hb:PBd (X.wish (K8h (model X.prog X.w) X.A X.env λe s'=>R (.error e) s')) b tb)
 (I2:Inv X pins σ0 H2 s2) (T:Turn X.prog X.w X.K tg J fp it tn) (st2:tn 0 s2.heap) (f2:∀b∈fp,FpOk X pins H2 b)
 (hq:runG g ti tb σ0 J Q H2) (hR:∀s' H',Inv X pins σ0 H' s'->Q H'->R (.ok .next) s') :
 K4t (model X.prog X.w) X.A (.compLoop ce k (.ref it) acc X.env) R s2:=by
 have stat:∀{H':Hp},(∀b∈fp,H' b=none)->∀b∈fp,FpOk X pins H' b:=λhn b hb=>⟨hn b hb,(f2 b hb).2⟩;obtain⟨W,⟨m0,w0⟩,turn⟩:=hq;refine codeAny_loop rfl (λn s'=>∃i H',Inv X pins σ0 H' s'/\tn i s'.heap/\(∀b∈fp,H' b=none)/\W i n H') (λn s5 hI=>?_) m0 ⟨0,H2,I2,st2,λb hb=>(f2 b hb).1,w0⟩;obtain⟨i,H5,I5,st5,fr5,w5⟩:=hI;have hu:X.A.under (.compLoop ce k (.ref it) acc X.env)=X.A/\(model X.prog X.w).den (.compLoop ce k (.ref it) acc X.env)=(compTurn ce k (.ref it) acc X.env).onRaise (λx=>do noteFrame x X.env;theTreesLotGoes x):=by
  rcases hce with ⟨_,_,_,_,rfl⟩|⟨_,_,_,_,_,rfl⟩<;>exact⟨rfl,rfl⟩
 rw[hu.1,hu.2];refine wpAny_noted ?_;rw[htn];unfold z62;refine K2 (K3u (K2 ?_));rcases turn i n H5 w5 with ⟨stop,qn⟩|⟨go,step⟩
 ·refine thn (T.done X rfl rfl rfl hc i pins s5 _ H5 _ I5 (stat fr5) st5 stop) λr s6 ⟨hr,I6⟩=>?_;subst hr;exact K04 (hR s6 H5 I6 qn)
 ·refine thn (T.item X rfl rfl rfl hc i pins s5 _ H5 _ I5 (stat fr5) st5 go) λr s6 ⟨u,hr,h6⟩=>?_;subst hr;refine K2 (thn h6 λ_ s7 ⟨x,H7,I7,r7,y7,st7,fr7⟩=>?_);have I7':=I7.pinned (stat fr7) (T.obj _ _ st7);refine K2 (thn (hg _ s7 _ H7 x u _ (I7'.wish _) r7 (step x H7 y7)) λ_ s8 ⟨σ8,H8,I8,k8,q8⟩=>?_);refine K2 (thn (ht _ s8 σ8 H8 _ I8 q8) λok s9 ⟨H9,I9,q9⟩=>?_);have again:∀{σa:St} {Ha:Hp} {sa:Shared},Inv (X.wish (K8h (model X.prog X.w) X.A X.env λe s'=>R (.error e) s')) (pins++z2O fp s7.heap) σa Ha sa->Kp σ0 σa ->
   Inv X pins σ0 Ha sa/\tn (i+1) sa.heap/\∀b∈fp,Ha b=none:=λ{σa Ha sa} Iw ka=>by
   have Ia:=Iw.unwish;refine⟨Ia.unpinned.weak (I5.len.trans Ia.len.symm) ka,T.keep _ _ _ st7 λb hb o e=>(Ia.pin (b,o) (K0m _ (K0m _ (z0O hb e)))).1,λb hb=>?_⟩;obtain⟨o,e,d⟩:=T.obj _ _ st7 b hb;exact(Ia.pin (b,o) (K0m _ (K0m _ (z0O hb e)))).2.1
  cases ok with
  | false =>
   have q9':∃m',m'<n/\W (i+1) m' H9:=by simpa using q9
   obtain⟨m',hm,w9⟩:=q9';obtain⟨a1,a2,a3⟩:=again I9 k8;exact K04 ⟨rfl,m',hm,i+1,H9,a1,a2,a3,w9⟩
  | true =>
   rw[if_pos rfl]at q9;refine K2 (thn (hb _ s9 σ8 H9 _ I9 q9) λ_ sa ⟨σa,Ha,Ia,ka,m',hm,wa⟩=>?_);obtain⟨a1,a2,a3⟩:=again Ia λj v h=>ka j v (k8 j v h);exact K04 ⟨rfl,m',hm,i+1,Ha,a1,a2,a3,wa⟩
theorem z07 {env:Env}{prog:K0a}{w:World}{A:Around}{R:Result->Shared->Prop}{s:Shared}{k:Nat}{it acc:Value}(hce:CK ce) (hcl:(clausesOf ce)[k]?=some ⟨tg,iter,ifs,0⟩) (h0:K4t (model prog w) A (.compLoop ce k it acc env) R s)
 (h:wpAny (model prog w) A (pyIter it) (λit' s'=>K4t (model prog w) A (.compLoop ce k it' acc env) R s')
  (K8h (model prog w) A env λx s'=>R (.error x) s') s) :
 K4t (model prog w) A (.compStart ce k it acc env) R s:=by
 refine codeAny_of_tree ?_;have hu:A.under (.compStart ce k it acc env)=A/\(model prog w).den (.compStart ce k it acc env)=(compStart ce k it acc env).onRaise (λx=>do noteFrame x env;K4k theWindowsPlace):=by
  rcases hce with ⟨_,_,_,_,rfl⟩|⟨_,_,_,_,_,rfl⟩<;>exact⟨rfl,rfl⟩
 rw[hu.1,hu.2];refine wpAny_notedAt ?_;unfold compStart;rw[hcl];show wpAny _ _ (ask >>= _) _ _ s;refine K2 (wpAny_askSetting (wpAny_ite ?_));split
 ·first
   | exact K2 (K04 (K04 (K7l rfl h0)))
   | exact K04 (K7l rfl h0)
 ·first
   | exact K2 (K6j (K2 (K3u (K2 (K2x h (λit' s' h'=>K04 (K7l rfl h')) λ_ _ x=>x)))))
   | (refine K2 (K6j ?_);show wpAny _ _ (K4k iter.pos >>= _) _ _ s;exact K2 (K3u (K2 (K2x h (λit' s' h'=>K04 (K7l rfl h')) λ_ _ x=>x))))
end
def MkO (mk:Sem Value) (o0:HO):Prop:=∀(X:Cx) (pins:List (Addr×Obj)) (σ:St) (H:Hp) (s:Shared) (E:Value->Shared->Prop) (Q:Value->Shared->Prop),Inv X pins σ H s ->
 (∀s',Inv X pins σ (upd H s.heap.objs.size o0) s'->(∀b o,s.heap.get? b=some o->s'.heap.get? b=some o)->Q (.ref s.heap.objs.size) s')->wpAny (model X.prog X.w) X.A mk Q E s
theorem z8H:MkO (newList []) (.lst []):=λX pins σ H s E Q I h=>by
 refine K1n ?_;exact h _ (I.lnew (ys:=[]) (its:=[]) (t':=s.toks) .nil (K3g _)) λb o e=>K8 _ e
theorem z94:MkO newDict (.dK []):=λX pins σ H s E Q I h=>by
 refine K1n ?_;exact h _ (I.laid (a:=s.heap.objs.size) (o:=.dK []) (t':=s.toks) (h':=s.heap.push { cls:=.type "dict",dict:=none,data:=.dict #[] }) (λ_ _ q=>K8 _ q) (K08 _) (z6D s.heap I.big)) λb o e=>K8 _ e
structure CmE (ce:Expr) (sc:Scope) (tg iter:Expr) (ifs:List Expr) (mk:Sem Value) (o0:HO) (bd:Addr->Env->Sem Unit) (p:Pos):Prop where
 ck:CK ce
 cl:∃gs,clausesOf ce=⟨tg,iter,ifs,0⟩::gs
 tn:∀it D env,compTurn ce 0 (.ref it) (.ref D) env=z62 p tg ifs (.ref it) env (bd D env) (.compLoop ce 0 (.ref it) (.ref D) env)
 nw:MkO mk o0
 ev:∀env,∃pp,eval ce env=comprehension ce sc env pp mk false (eval iter env) none
 us:∀env f,∃pp,evalThenUse ce env f=(comprehension ce sc env pp mk false (eval iter env) (some f) >>= λ_=>pure ())
section
variable {X:Cx}{ce elt val tg iter tg1 iter1:Expr}{ifs ifs1:List Expr}{sc:Scope}{pos p p1:Pos}{N':List Str}{cap:List (Option Nat)}{g g1:TG}{wi wi1:TI}{ti ti1:TT}{te tv:TE}{tb tb1:TB}{b1:Sem Unit}{D:Addr}{mk:Sem Value}{o0:HO}{bd:Addr->Env->Sem Unit}{tbd:Addr->TB}
theorem zg4 {pins:List (Addr×Obj)}{σ:St}{H2:Hp}{s2:Shared}{it:Addr}{fp:List Addr}{tn:Nat->Heap->Prop}{J:It}{E:Value->Shared->Prop}{RR:Value->Addr->Result->Shared->Prop}{Q:Addr->Hp->Prop}
 (C:CmE ce sc tg iter ifs mk o0 bd p) (hc:X.calm=true) (S:CS X sc N' cap) (hg:∀s H fp xe,PG (X.comp N' sc s H fp xe) tg g) (ht:∀s H fp xe,PTs (X.comp N' sc s H fp xe) ifs ti) (hb:∀D s H fp xe,PBd (X.comp N' sc s H fp xe) (bd D (X.comp N' sc s H fp xe).env) (tbd D))
 (I2:Inv X pins σ H2 s2) (T:Turn X.prog X.w X.K tg J fp it tn) (st2:tn 0 s2.heap) (f2:∀b∈fp,FpOk X pins H2 b)
 (hq:∀D,H2 D=none->runG g ti (tbd D) (z1Z cap σ) J (Q D) (upd H2 D o0))
 (hRR:∀(D:Addr) (s3:Shared) (H3:Hp) (xe:Value->Shared->Prop) (H':Hp) (pins':List (Addr×Obj)) (σ':St) (s':Shared),Inv X pins σ H3 s3->(∀b∈fp,FpOk X pins H3 b)->Inv (X.comp N' sc s3 H3 fp xe) pins' σ' H' s'->Q D H'->RR (.ref D) s3.heap.objs.size (.ok .next) s') :
 wpAny (model X.prog X.w) X.A mk (λacc s3=>wpAny (model X.prog X.w) X.A (newFunctionEnv sc X.env.globals (J7 X.env sc.names []) [] X.env.qual none .none (some X.env)) (λcenv s4 =>
  codeAny (model X.prog X.w) X.A (.compStart ce 0 (.ref it) acc { cenv with scope:=relabel sc X.env }) (RR acc cenv.locals) s4) E s3) E s2:=by
 refine C.nw X pins σ H2 s2 E _ I2 λs3 I3 kp3=>?_;have hfr:H2 s2.heap.objs.size=none:=I2.fresh;have lt2:∀b∈fp,b<s2.heap.objs.size:=λb hb=>by
  obtain⟨o,e,_⟩:=T.obj _ _ st2 b hb;exact K09 e
 generalize s2.heap.objs.size=D at I3 hfr lt2 ⊢;have r0:=hq D hfr;have f3:∀b∈fp,FpOk X pins (upd H2 D o0) b:=λb hb=>⟨by rw[Z7 (K0q (lt2 b hb))];exact(f2 b hb).1,(f2 b hb).2⟩;have st3:tn 0 s3.heap:=T.keep _ _ _ st2 λb hb o e=>kp3 b o e;have lt3:∀b∈fp,b<s3.heap.objs.size:=λb hb=>by
  obtain⟨o,e,_⟩:=T.obj _ _ st3 b hb;exact K09 e
 generalize upd H2 D o0=H3 at I3 r0 f3;refine wpAny_newFunctionEnv S.nocell (λx hx=>absurd hx (by simp)) (λh1 hns hsb=>?_) S.kind;have kp4:∀b o,s3.heap.get? b=some o->h1.get? b=some o:=λb o e=>by
  rw[hsb.2 b (K0q (K09 e))];exact K8 _ e
 have hns':h1.Ns s3.heap.objs.size λ_=>none:=hns;have st4:tn 0 h1:=T.keep _ _ _ st3 λb hb o e=>kp4 b o e;have loop:K4t (model X.prog X.w) X.A (.compLoop ce 0 (.ref it) (.ref D) (compEnvC sc (J7 X.env sc.names []) s3.heap.objs.size X.env))
  (RR (.ref D) s3.heap.objs.size) { s3 with heap:=h1,toks:=s3.toks+([]:List (Str×Value)).length }:=by
  let xe:Value->Shared->Prop:=K8h (model X.prog X.w) X.A (compEnvC sc (J7 X.env sc.names []) s3.heap.objs.size X.env) λe s'=>RR (.ref D) s3.heap.objs.size (.error e) s';have I4:Inv (X.comp N' sc s3 H3 fp xe) [] (z1Z cap σ) H3 { s3 with heap:=h1,toks:=s3.toks+([]:List (Str×Value)).length }:=I3.compIn S f3 lt3 hns' kp4;exact zl2 (X:=X.comp N' sc s3 H3 fp xe) (C.tn _ _ _) C.ck hc (hg s3 H3 fp _) (ht s3 H3 fp _) (hb D s3 H3 fp _) I4 T st4 (λb hb=>by
   obtain⟨q1,q2⟩:=I4.ok.exf b hb;exact⟨(f3 b hb).1,q1,I4.ok.exfs b hb,.inl hb,q2,λp hp=>absurd (show p∈([]:List (Addr×Obj)) from hp) (by simp)⟩) r0 λs' H' I' q=>hRR D s3 H3 xe H' [] _ s' I3 f3 I' q
 obtain⟨gs,cl⟩:=C.cl;exact z07 C.ck (by rw[cl];rfl) loop (T.self _ 0 _ _ _ st4 loop)
def tCm (o0:HO) (cap:List (Option Nat)) (wi:TI) (g:TG) (ti:TT) (tbd:Addr->TB):TE:=λσ H Q=>wi σ H λJ H1=>∀D,H1 D=none->runG g ti (tbd D) (z1Z cap σ) J (λH'=>Q (.ref D) H') (upd H1 D o0)
theorem zj2 (C:CmE ce sc tg iter ifs mk o0 bd p) (hc:X.calm=true) (S:CS X sc N' cap) (hi:PI X tg iter wi) (hg:∀s H fp xe,PG (X.comp N' sc s H fp xe) tg g) (ht:∀s H fp xe,PTs (X.comp N' sc s H fp xe) ifs ti)
 (hb:∀D s H fp xe,PBd (X.comp N' sc s H fp xe) (bd D (X.comp N' sc s H fp xe).env) (tbd D)) (hs:∀x,K1o iter X.env x=pure x):PE X ce (tCm o0 cap wi g ti tbd):=by
 intro pins s σ H Q I h;obtain⟨pp,ev⟩:=C.ev X.env;obtain⟨gs,cl⟩:=C.cl;rw[ev];refine K67 (use:=none) cl hs (z11 (S.cells I)) S.kind S.loc (thn (hi pins s σ H _ I h) λv s1 h1=>thn h1 λitv s2 h2=>?_);obtain⟨it,fp,tn,J,H2,e,I2,T,st2,f2,rq⟩:=h2;subst e;refine zg4 (RR:=λacc C=>compPost (model X.prog X.w) X.A X.xe none (EP X pins σ Q) acc C) (Q:=λD H'=>Q (.ref D) H') C hc S hg ht hb I2 T st2 f2 rq ?_;intro D s3 H3 xe H' pins' σ' s' I3 f3 J3 q;obtain⟨m,hn,_⟩:=id J3.loc;exact⟨m,hn,λh' hs=>⟨.ref D,H',I3.compOut f3 J3 hs,rfl,q⟩⟩
def sCm (o0:HO) (cap:List (Option Nat)) (wi:TI) (g:TG) (ti:TT) (tbd:Addr->TB) (i:Nat):TS:=λD σ H=>wi σ H λJ H1=>∀d,H1 d=none->runG g ti (tbd d) (z1Z cap σ) J (λH'=>D.nx (σ.set i (.(r d))) H') (upd H1 d o0)
theorem zi6 {y:Str}{py spos:Pos}{i:Nat}(C:CmE ce sc tg iter ifs mk o0 bd p) (hc:X.calm=true) (S:CS X sc N' cap) (hi:PI X tg iter wi) (hg:∀s H fp xe,PG (X.comp N' sc s H fp xe) tg g) (ht:∀s H fp xe,PTs (X.comp N' sc s H fp xe) ifs ti)
 (hb:∀D s H fp xe,PBd (X.comp N' sc s H fp xe) (bd D (X.comp N' sc s H fp xe).env) (tbd D)) (hN:X.N.Nodup) (hy:X.N[i]?=some y) (hl:X.env.scope.names.lookup y=some .local)
 (hsw:K1p ce (some (.Name y py)) spos.line X.env=pure true) (hs:∀x,K1o iter X.env x=pure x):PS X (.Assign [.Name y py] ce spos) (sCm o0 cap wi g ti tbd i):=by
 intro pins s σ H D I h;rw[exec_Assign_Name_used _ _ _ _ hsw];obtain⟨pp,us⟩:=C.us X.env (assign (.Name y py) X.env);obtain⟨gs,cl⟩:=C.cl;rw[us];refine K2 (K3u (K2 ?_));refine K2 (K2x (K67 (use:=some (assign (.Name y py) X.env)) (Q:=λ_ s'=>SP X pins D .next s') cl hs (z11 (S.cells I)) S.kind S.loc
  (thn (hi pins s σ H _ I h) λv s1 h1=>thn h1 λitv s2 h2=>?_)) (λ_ s' hq=>K04 (K04 hq)) λ_ _ z=>z)
 obtain⟨it,fp,tn,J,H2,e,I2,T,st2,f2,rq⟩:=h2;subst e;refine zg4 (RR:=λacc C=>compPost (model X.prog X.w) X.A X.xe (some (assign (.Name y py) X.env)) (λ_ s'=>SP X pins D .next s') acc C) (Q:=λd H'=>D.nx (σ.set i (.(r d))) H') C hc S hg ht hb I2 T st2 f2 rq ?_;intro d s3 H3 xe H' pins' σ' s' I3 f3 J3 q;obtain⟨m,hn,_⟩:=id J3.loc;have Is:Inv X pins σ H' s':=I3.compOut (h':=s'.heap) f3 J3 (K52.refl _ _);obtain⟨oC,es,ep,hoC,hdC,hrC⟩:=id hn;have hC:H' s3.heap.objs.size=none:=J3.free;have neL:s3.heap.objs.size≠X.env.locals:=K3l I3.lt;have nfs:s3.heap.objs.size∉X.fs:=I3.nofs (K08 _);have Ip:Inv X (pins++[(s3.heap.objs.size,oC)]) σ H' s':=Is.pins_of λp hp=>by
  rcases K0f.mp hp with z|z
  ·exact Is.pin p (K0m _ z)
  ·obtain rfl:p=(s3.heap.objs.size,oC):=by simpa using z
   exact⟨hoC,hC,neL,nfs,λv hv=>by have hdC':oC.data=_:=hdC;rw[hdC']at hv;cases hv⟩
 show wpAny _ X.A (assign (.Name y py) X.env (.ref d)) _ _ s';refine thn (z3s (X:=X) (i:=i) hN hy (.inl hl) (.inr hl) _ s' σ H' (.ref d) (.ref d) (λσ2 H2=>D.nx σ2 H2) Ip rfl q) λ_ s4 ⟨σ4,H4,I4,q4⟩=>?_;have pn:=I4.pin (s3.heap.objs.size,oC) (K0m _ (K0m _ (by simp)));refine⟨m,⟨oC,es,ep,pn.1,hdC,hrC⟩,λh' hs=>⟨σ4,H4,?_,q4⟩⟩;have I4u:Inv X pins σ4 H4 s4:=I4.unpinned;have st:=I4u.step (g':=s4.gens) (t':=s4.toks) (d':=s4.drawn) (h':=h') (H':=H4) (ch:=[s3.heap.objs.size]) (λb hb=>?_) (λb o _ _ hc e _=>(hs.2 b (by simpa using hc)).trans e)
  (λb o _ _ hc e _=>⟨o.slots,(hs.2 b (by simpa using hc)).trans e⟩) (λ_ _ _ _ n=>n) (λb o hc e=>⟨o,(hs.2 b (by simpa using hc)).trans e⟩) (λ_ _ e=>e) (λ_ _ _ e=>e) (λb ps e=>⟨#[],by rw[e];simp⟩) (λm hm=>?_) (λb u e=>?_) I4u.bare
 ·exact st
 ·have e:b=s3.heap.objs.size:=by simpa using hb
  subst e;refine⟨.inr I3.sz,neL,λx c e2 z=>?_,λp hp z=>?_⟩
  ·obtain⟨v,q2⟩:=I3.cell x c e2;exact absurd q2.lt (by rw[z];exact K2i _)
  ·have e3:=(I3.pin p hp).1;exact absurd (K09 e3) (by rw[z];exact K2i _)
 ·obtain⟨o,es',ep',ho',r'⟩:=hm;exact⟨o,es',ep',(hs.2 _ (K55 neL)).trans ho',r'⟩
 ·refine(I4u.hok b u e).stay (λc v hc q=>?_) (λ_ q=>q) λ_ _ q=>q;have n4:H4 s3.heap.objs.size=none:=pn.2.1;have ne:c≠s3.heap.objs.size:=by
   rintro rfl;rcases hc with z|z
   ·rw[<- z,n4]at e;cases e
   ·rw[n4]at z;cases z
  exact(hs.2 c ne).trans q
def bApp (te:TE) (D:Addr):TB:=λσ H Q=>te σ H λv H4=>∃acc,H4 D=.(l acc)/\acc.length<sizeLine/\Q (upd H4 D (.lst (acc++[v])))
theorem z8K (he:PE X elt te):PBd X (do let _ <- call (.builtin "list.append") [.ref D,<- eval elt X.env]) (bApp te D):=λpins s σ H Q I h=>by
 refine K2 (thn (he pins s σ H _ I h) λv sa ⟨y,Ha,Ia,ra,acc,ea,za,q⟩=>?_);refine K2 (thn (z2H (X:=X) _ sa σ Ha (.ref D) [y] (.ref D) [v] (λ_ H'=>H'=upd Ha D (.lst (acc++[y]))) Ia rfl (.cons ra .nil) ⟨D,acc,y,rfl,rfl,ea,za,rfl⟩) λ_ sb ⟨_,Hb,Ib,_,eb⟩=>K04 ?_);subst eb;exact⟨σ,_,Ib,λ_ _ h=>h,q⟩
theorem z4M {pins:List (Addr×Obj)}{σ:St}{H:Hp}{s:Shared}{a:Addr}{kvs:List (Key×V)}{k:Key}{v:V}{u r:Value}{A:Around}{E:Value->Shared->Prop}{Q:Unit->Shared->Prop}
 (I:Inv X pins σ H s) (e:H a=some (.dK kvs)) (l:kvs.length<sizeLine) (ry:RelV (kV k) u) (rv:RelV v r) (h:∀s',Inv X pins σ (upd H a (.dK (putK kvs k v))) s'->Q () s') :
 wpAny (model X.prog X.w) A (dictSet a u r) Q E s:=by
 obtain⟨z,hd,vs,rel,dd⟩:=z8J I.hok e;have hz:vs.length<=sizeLine:=by rw[<- rel.length];exact z
 have hl:(putK kvs k v).length<=sizeLine:=by have:=z0Y kvs k v;omega
 refine wpAny_dictSet_pairs (hsz:=hz) (z5h ry) dd λh' dd' hs=>h _ ?_;have he:∃q,h'.get? a=some q:=let ⟨q,_,_,hq,_⟩:=dd';⟨q,hq⟩;exact z3p I (by rw[e];exact K2w) hs he (z77 hl hd (rel.put k rv) dd')
def bPut (te tv:TE) (D:Addr):TB:=λσ H Q=>te σ H λy H4=>tv σ H4 λv H5=>∃k kvs,y=kV k/\H5 D=some (.dK kvs)/\kvs.length<sizeLine/\Q (upd H5 D (.dK (putK kvs k v)))
theorem z8a (he:PE X elt te) (hv:PE X val tv):PBd X (do
 let kv <- eval elt X.env;let vv <- K31 [kv] (eval val X.env)
 K4k { elt.pos with endLine:=val.pos.endLine,endCol:=val.pos.endCol }
 K31 [kv,vv] (dictSet D kv vv)) (bPut te tv D):=λpins s σ H Q I h=>by
 refine K2 (thn (he pins s σ H _ I h) λkv sa ⟨y,Ha,Ia,ra,qa⟩=>?_);refine K2 (K2j (thn (hv pins sa σ Ha _ Ia qa) λvv sb ⟨z,Hb,Ib,rb,kk,kvs,ey,eb,zb,q⟩=>?_));subst ey;exact K2 (K3u (K2j (z4M Ib eb zb ra rb λs' I'=>⟨σ,_,I',λ_ _ h=>h,q⟩)))
end
theorem z93 {elt tg iter:Expr}{ifs:List Expr}{sc:Scope}{pos:Pos}:CmE (.ListComp elt [⟨tg,iter,ifs,0⟩] sc pos) sc tg iter ifs (newList []) (.lst []) (λD env=>do let _ <- call (.builtin "list.append") [.ref D,<- eval elt env]) iter.pos :=
 ⟨.inl ⟨_,_,_,_,rfl⟩,⟨_,rfl⟩,λ_ _ _=>rfl,z8H,λ_=>⟨_,rfl⟩,λ_ _=>⟨_,rfl⟩⟩
theorem z8Y {elt val tg iter:Expr}{ifs:List Expr}{sc:Scope}{pos:Pos}:CmE (.DictComp elt val [⟨tg,iter,ifs,0⟩] sc pos) sc tg iter ifs newDict (.dK []) (λD env=>do
 let kv <- eval elt env;let vv <- K31 [kv] (eval val env)
 K4k { elt.pos with endLine:=val.pos.endLine,endCol:=val.pos.endCol }
 K31 [kv,vv] (dictSet D kv vv)) iter.pos :=
 ⟨.inr ⟨_,_,_,_,_,rfl⟩,⟨_,rfl⟩,λ_ _ _=>rfl,z94,λ_=>⟨_,rfl⟩,λ_ _=>⟨_,rfl⟩⟩
open PySem
def excO (a C:Addr):HO:=.ext λh=>∃o,h.get? a=some o/\o.cls=.ref C
def dctO (a:Addr):HO:=.ext λh=>∃o,h.get? a=some o/\o.cls=.type "dict"
end L2
namespace FT
inductive D where
 | non|bl (b:Bool)|int (i:Int)|str (x:Str)|tup (xs:List D)|fl (xs:List D)|ref (n:Nat)
inductive O where
 | lst (xs:List D)
 | set (ks:List Key)
 | dct
 | dK (kvs:List (Key×D))
 | dF (kvs:List (Key×D))
 | exc (c:Str)
 | ins (c:Str) (fs:List (Str×D))
abbrev AH:=List O
abbrev G:=List (Option D)
structure Exn where
 cls:Str
 fs:List (Str×D)
inductive Res (α:Type) where
 | ok (a:α) (h:AH)|err (x:Exn) (h:AH)|bad
abbrev M (α:Type):=AH->Res α
def M.pure {α:Type} (a:α):M α:=λh=>.ok a h
def M.bind {α β:Type} (m:M α) (f:α->M β):M β:=λh=>match m h with
 | .ok a h1=>f a h1
 | .err x h1=>.err x h1
 | .bad=>.bad
instance:Monad M where
 pure:=M.pure
 bind:=M.bind
def bad {α:Type}:M α:=λ_=>.bad
theorem M.bind_eq {α β:Type}(m:M α) (f:α->M β) (h:AH):(m >>= f) h=match m h with
 | .ok a h1=>f a h1
 | .err x h1=>.err x h1
 | .bad=>.bad:=rfl
theorem M.bind_ok {α β:Type}{m:M α}{f:α->M β}{h h1:AH}{a:α}(e:m h=.ok a h1):(m >>= f) h=f a h1:=by rw[M.bind_eq,e]
def SqLP (K:K0) (H:Hp) (a:Addr) (xs:List V):Prop :=
 (∃o,H a=some (.frz o (.lst xs))) \/
  ∃(o:Obj) (its:Array Value) (n:Nat),K.lookup a=some o/\o.cls=.type "list"/\o.dict=none/\o.data=.seq its n/\its.size<=sizeLine/\Vals xs its.toList
theorem SqLP.sq {K:K0}{H:Hp}{a:Addr}{xs:List V}(h:SqLP K H a xs):SqL K H a xs:=by
 rcases h with ⟨o,h⟩|h
 ·exact .inl (.inr ⟨o,h⟩)
 ·exact .inr h
mutual
def RD (K:K0) (ρ:List Addr) (H:Hp):D->V->Prop
 | .non,v=>v=.non
 | .bl b,v=>v=.bl b
 | .int i,v=>v=.int i
 | .str x,v=>v=.str x
 | .tup ds,v=>∃a xs,v=.ref a/\SqT K H a xs/\RDs K ρ H ds xs
 | .fl ds,v=>∃a xs,v=.ref a/\SqLP K H a xs/\RDs K ρ H ds xs
 | .ref n,v=>∃a,v=.ref a/\ρ[n]?=some a
def RDs (K:K0) (ρ:List Addr) (H:Hp):List D->List V->Prop
 | [],xs=>xs=[]
 | d::ds,xs=>∃x r,xs=x::r/\RD K ρ H d x/\RDs K ρ H ds r
end
def Pre (ρ ρ':List Addr):Prop:=∀(n:Nat) a,ρ[n]?=some a->ρ'[n]?=some a
theorem Pre.refl (ρ:List Addr):Pre ρ ρ:=λ_ _ h=>h
theorem Pre.trans {a b c:List Addr}(x:Pre a b) (y:Pre b c):Pre a c:=λn z h=>y n z (x n z h)
theorem Pre.app (ρ r:List Addr):Pre ρ (ρ++r):=λn a h=>by
 rw[K06 (K4.mp h).1];exact h
structure Ext (K:K0) (H H':Hp):Prop where
 t:∀a xs,SqT K H a xs->SqT K H' a xs
 l:∀a xs,SqLP K H a xs->SqLP K H' a xs
 d:∀a o vs,H a=some (.frz o (.dK vs))->H' a=some (.frz o (.dK vs))
theorem Ext.refl (K:K0) (H:Hp):Ext K H H:=⟨λ_ _ h=>h,λ_ _ h=>h,λ_ _ _ h=>h⟩
theorem Ext.trans {K:K0}{a b c:Hp}(x:Ext K a b) (y:Ext K b c):Ext K a c:=⟨λz xs h=>y.t z xs (x.t z xs h),λz xs h=>y.l z xs (x.l z xs h),λz o vs h=>y.d z o vs (x.d z o vs h)⟩
def Trk:HO->Prop
 | .lst _=>True
 | .set _=>True
 | .ext _=>True
 | .dK _=>True
 | .ins _ _ _=>True
 | _=>False
theorem Ext.upd {K:K0}{H:Hp}{p:Addr}{o:HO}(h:H p=none\/∃u,H p=some u/\Trk u):Ext K H (upd H p o):=by
 have ne:∀{b:Addr} {u:HO},H b=some u->¬ Trk u->b≠p:=λ{b u} e n z=>by
  subst z;rcases h with h|⟨u',h,tr⟩
  ·rw[h]at e;cases e
  ·rw[h]at e;cases e;exact n tr
 refine⟨λa xs q=>?_,λa xs q=>?_,λa o vs q=>by rw[Z7 (ne q (λz=>z))];exact q⟩
 ·rcases q with (q|⟨u,q⟩)|q
  ·exact .inl (.inl (by rw[Z7 (ne q (λz=>z))];exact q))
  ·exact .inl (.inr ⟨u,by rw[Z7 (ne q (λz=>z))];exact q⟩)
  ·exact .inr q
 ·rcases q with ⟨u,q⟩|q
  ·exact .inl ⟨u,by rw[Z7 (ne q (λz=>z))];exact q⟩
  ·exact .inr q
section
variable {K:K0}{ρ ρ':List Addr}{H H':Hp}
mutual
theorem RD.mono (p:Pre ρ ρ') (e:Ext K H H'):∀{d:D}{v:V},RD K ρ H d v->RD K ρ' H' d v
 | .non,v,h=>by simpa [RD] using h
 | .bl b,v,h=>by simpa [RD] using h
 | .int b,v,h=>by simpa [RD] using h
 | .str b,v,h=>by simpa [RD] using h
 | .tup ds,v,h=>by
  simp only[RD]at h ⊢;obtain⟨a,xs,h1,h2,h3⟩:=h;exact⟨a,xs,h1,e.t a xs h2,RDs.mono p e h3⟩
 | .fl ds,v,h=>by
  simp only[RD]at h ⊢;obtain⟨a,xs,h1,h2,h3⟩:=h;exact⟨a,xs,h1,e.l a xs h2,RDs.mono p e h3⟩
 | .ref n,v,h=>by
  simp only[RD]at h ⊢;obtain⟨a,h1,h2⟩:=h;exact⟨a,h1,p n a h2⟩
theorem RDs.mono (p:Pre ρ ρ') (e:Ext K H H'):∀{ds:List D}{xs:List V},RDs K ρ H ds xs->RDs K ρ' H' ds xs
 | [],xs,h=>by simpa [RDs] using h
 | d::ds,xs,h=>by
  simp only[RDs]at h ⊢;obtain⟨x,r,h1,h2,h3⟩:=h;exact⟨x,r,h1,RD.mono p e h2,RDs.mono p e h3⟩
end
theorem RDs.nil:RDs K ρ H [] []:=by simp[RDs]
theorem RDs.cons {d:D}{ds:List D}{x:V}{xs:List V}(h:RD K ρ H d x) (t:RDs K ρ H ds xs):RDs K ρ H (d::ds) (x::xs):=by
 simp only[RDs];exact⟨x,xs,rfl,h,t⟩
theorem RDs.pair:∀{ds:List D}{xs:List V},RDs K ρ H ds xs->Paired (RD K ρ H) ds xs
 | [],xs,h=>by simp only[RDs]at h;subst h;exact .nil
 | d::ds,xs,h=>by
  simp only[RDs]at h;obtain⟨x,r,rfl,h2,h3⟩:=h;exact .cons h2 h3.pair
theorem RDs.of:∀{ds:List D}{xs:List V},Paired (RD K ρ H) ds xs->RDs K ρ H ds xs
 | _,_,.nil=>RDs.nil
 | _,_,.cons a b=>RDs.cons a (RDs.of b)
theorem RDs.length {ds:List D}{xs:List V}(h:RDs K ρ H ds xs):ds.length=xs.length:=K3q h.pair
theorem RDs.append {a b:List D}{xs ys:List V}(h:RDs K ρ H a xs) (t:RDs K ρ H b ys):RDs K ρ H (a++b) (xs++ys):=by
 induction a generalizing xs with
 | nil=>simp only[RDs]at h;subst h;exact t
 | cons d ds ih =>
  simp only[RDs]at h;obtain⟨x,r,rfl,h2,h3⟩:=h;exact RDs.cons h2 (ih h3)
theorem RDs.get {ds:List D}{xs:List V}{i:Nat}{d:D}(h:RDs K ρ H ds xs) (e:ds[i]?=some d):∃x,xs[i]?=some x/\RD K ρ H d x:=by
 induction ds generalizing xs i with
 | nil=>simp at e
 | cons a ds ih =>
  simp only[RDs]at h;obtain⟨x,r,rfl,h2,h3⟩:=h;cases i with
  | zero=>simp at e;subst e;exact⟨x,rfl,h2⟩
  | succ i =>
   obtain⟨y,h4,h5⟩:=ih h3 (by simpa using e);exact⟨y,by simpa using h4,h5⟩
theorem RDs.getV {ds:List D}{xs:List V}{i:Nat}{x:V}(h:RDs K ρ H ds xs) (e:xs[i]?=some x):∃d,ds[i]?=some d/\RD K ρ H d x:=by
 have hl:=h.length;have hi:=(K4.mp e).1;obtain⟨y,h1,h2⟩:=h.get (K6 (l:=ds) (i:=i) (by omega));rw[e]at h1;cases h1;exact⟨_,K6 (by omega),h2⟩
theorem RDs.drop {ds:List D}{xs:List V}(n:Nat) (h:RDs K ρ H ds xs):RDs K ρ H (ds.drop n) (xs.drop n):=by
 induction n generalizing ds xs with
 | zero=>exact h
 | succ n ih=>cases ds with
  | nil=>simp only[RDs]at h;subst h;exact RDs.nil
  | cons d ds=>simp only[RDs]at h;obtain⟨x,r,rfl,h2,h3⟩:=h;exact ih h3
theorem RDs.take {ds:List D}{xs:List V}(n:Nat) (h:RDs K ρ H ds xs):RDs K ρ H (ds.take n) (xs.take n):=by
 induction n generalizing ds xs with
 | zero=>exact RDs.nil
 | succ n ih=>cases ds with
  | nil=>simp only[RDs]at h;subst h;exact RDs.nil
  | cons d ds=>simp only[RDs]at h;obtain⟨x,r,rfl,h2,h3⟩:=h;exact RDs.cons h2 (ih h3)
theorem RDs.set {ds:List D}{xs:List V}{d:D}{x:V}(n:Nat) (h:RDs K ρ H ds xs) (hd:RD K ρ H d x):RDs K ρ H (ds.set n d) (xs.set n x):=by
 induction n generalizing ds xs with
 | zero=>cases ds with
  | nil=>simp only[RDs]at h;subst h;exact RDs.nil
  | cons a ds=>simp only[RDs]at h;obtain⟨y,r,rfl,h2,h3⟩:=h;exact RDs.cons hd h3
 | succ n ih=>cases ds with
  | nil=>simp only[RDs]at h;subst h;exact RDs.nil
  | cons a ds=>simp only[RDs]at h;obtain⟨y,r,rfl,h2,h3⟩:=h;exact RDs.cons h2 (ih h3)
theorem RDs.eraseIdx {ds:List D}{xs:List V}(n:Nat) (h:RDs K ρ H ds xs):RDs K ρ H (ds.eraseIdx n) (xs.eraseIdx n):=by
 induction n generalizing ds xs with
 | zero=>cases ds with
  | nil=>simp only[RDs]at h;subst h;exact RDs.nil
  | cons a ds=>simp only[RDs]at h;obtain⟨y,r,rfl,h2,h3⟩:=h;exact h3
 | succ n ih=>cases ds with
  | nil=>simp only[RDs]at h;subst h;exact RDs.nil
  | cons a ds=>simp only[RDs]at h;obtain⟨y,r,rfl,h2,h3⟩:=h;exact RDs.cons h2 (ih h3)
theorem RDs.flat {ds:List D}{xs:List V}(n:Nat) (h:RDs K ρ H ds xs):RDs K ρ H (K02 n ds).flatten (K02 n xs).flatten:=by
 induction n with
 | zero=>exact RDs.nil
 | succ n ih=>rw[K21,K2q,K21,K2q];exact h.append ih
def RK (K:K0) (ρ:List Addr) (H:Hp) {κ:Type}:List (κ×D)->List (κ×V)->Prop:=Paired λp q=>p.1=q.1/\RD K ρ H p.2 q.2
theorem RK.imp {α β:Type}{P Q:α->β->Prop}(f:∀a b,P a b->Q a b):∀{xs:List α}{ys:List β},Paired P xs ys->Paired Q xs ys
 | _,_,.nil=>.nil
 | _,_,.cons a b=>.cons (f _ _ a) (RK.imp f b)
theorem RK.mono {κ:Type}{kvs:List (κ×D)}{vs:List (κ×V)}(p:Pre ρ ρ') (e:Ext K H H') (r:RK K ρ H kvs vs):RK K ρ' H' kvs vs:=RK.imp (λ_ _ h=>⟨h.1,h.2.mono p e⟩) r
def RO (K:K0) (ρ:List Addr) (H:Hp) (o:O) (a:Addr):Prop:=match o with
 | .lst ds=>∃xs,H a=.(l xs)/\RDs K ρ H ds xs
 | .set ks=>H a=some (.set ks)
 | .dct=>H a=some (dctO a)
 | .dK kvs=>∃vs,H a=some (.dK vs)/\RK K ρ H kvs vs
 | .dF kvs=>∃ob vs,H a=some (.frz ob (.dK vs))/\RK K ρ H kvs vs
 | .exc c=>∃C,K2f K K1a c=some (.(r C))/\H a=some (excO a C)
 | .ins c fs=>∃C dx vs,K2f K K1a c=some (.(r C))/\H a=some (.ins C dx vs)/\RK K ρ H fs vs
structure RH (K:K0) (ρ:List Addr) (h:AH) (H:Hp):Prop where
 len:ρ.length=h.length
 nd:∀(i j:Nat) a,ρ[i]?=some a->ρ[j]?=some a->i=j
 obj:∀(n:Nat) o a,h[n]?=some o->ρ[n]?=some a->RO K ρ H o a
theorem RH.at {h:AH}(r:RH K ρ h H) {n:Nat}{o:O}(e:h[n]?=some o):∃a,ρ[n]?=some a/\RO K ρ H o a:=by
 have hi:=(K4.mp e).1;have hj:n<ρ.length:=by rw[r.len];exact hi
 have q:ρ[n]?=some ρ[n]:=K6 hj;exact⟨_,q,r.obj n o _ e q⟩
def O.fz:O->Bool
 | .dF _=>true
 | _=>false
theorem RO.there {o:O}{a:Addr}(z:RO K ρ H o a):∃u,H a=some u/\(o.fz=false->Trk u):=by
 cases o with
 | lst ds=>obtain⟨xs,z,_⟩:=z;exact⟨_,z,λ_=>trivial⟩
 | set ks=>exact⟨_,z,λ_=>trivial⟩
 | dct=>exact⟨_,z,λ_=>trivial⟩
 | dK kvs=>obtain⟨vs,z,_⟩:=z;exact⟨_,z,λ_=>trivial⟩
 | dF kvs=>obtain⟨ob,vs,z,_⟩:=z;exact⟨_,z,λq=>by cases q⟩
 | exc c=>obtain⟨C,_,z⟩:=z;exact⟨_,z,λ_=>trivial⟩
 | ins c fs=>obtain⟨C,dx,vs,_,z,_⟩:=z;exact⟨_,z,λ_=>trivial⟩
theorem RH.there {h:AH}(r:RH K ρ h H) {n:Nat}{a:Addr}(e:ρ[n]?=some a):∃u,H a=some u:=by
 have hi:=(K4.mp e).1;have hj:n<h.length:=by rw[<- r.len];exact hi
 obtain⟨u,z,_⟩:=(r.obj n _ a (K6 hj) e).there;exact⟨u,z⟩
theorem RH.tracked {h:AH}(r:RH K ρ h H) {n:Nat}{a:Addr}{o:O}(e:ρ[n]?=some a) (eo:h[n]?=some o) (nf:o.fz=false:=by rfl):∃u,H a=some u/\Trk u:=by
 obtain⟨u,z,q⟩:=(r.obj n _ a eo e).there;exact⟨u,z,q nf⟩
theorem RO.mono {o:O}{a:Addr}(p:Pre ρ ρ') (e:Ext K H H') (hs:H' a=H a) (r:RO K ρ H o a):RO K ρ' H' o a:=by
 cases o with
 | lst ds=>obtain⟨xs,h1,h2⟩:=r;exact⟨xs,hs.trans h1,h2.mono p e⟩
 | set ks=>exact hs.trans r
 | dct=>exact hs.trans r
 | dK kvs=>obtain⟨vs,h1,h2⟩:=r;exact⟨vs,hs.trans h1,h2.mono p e⟩
 | dF kvs=>obtain⟨ob,vs,h1,h2⟩:=r;exact⟨ob,vs,hs.trans h1,h2.mono p e⟩
 | exc c=>obtain⟨C,h1,h2⟩:=r;exact⟨C,h1,hs.trans h2⟩
 | ins c fs=>obtain⟨C,dx,vs,h1,h2,h3⟩:=r;exact⟨C,dx,vs,h1,hs.trans h2,h3.mono p e⟩
theorem RH.other {h:AH}{p:Addr}{o:HO}(r:RH K ρ h H) (hp:H p=none):RH K ρ h (upd H p o) :=
 ⟨r.len,r.nd,λn u a h1 h2=>(r.obj n u a h1 h2).mono (Pre.refl _) (Ext.upd (.inl hp)) (by
  obtain⟨u,q⟩:=r.there h2;exact Z7 (j6 q hp))⟩
theorem RH.pushO {h:AH}{p:Addr}{o':O}{u:HO}(r:RH K ρ h H) (hp:H p=none) (hd:RO K (ρ++[p]) (upd H p u) o' p):RH K (ρ++[p]) (h++[o']) (upd H p u):=by
 have ne:∀{n:Nat} {a:Addr},ρ[n]?=some a->a≠p:=λe=>by
  obtain⟨xs,q⟩:=r.there e;exact j6 q hp
 have ext:Ext K H (L2.upd H p u):=Ext.upd (.inl hp);refine⟨by simp[r.len],λi j a h1 h2=>?_,λn o a h1 h2=>?_⟩
 ·rw[K2s]at h1 h2;split at h1<;>split at h2
  ·exact r.nd i j a h1 h2
  ·rename_i hi hj;rw[K19]at h2;split at h2
   ·cases h2;exact absurd rfl (ne h1)
   ·cases h2
  ·rename_i hi hj;rw[K19]at h1;split at h1
   ·cases h1;exact absurd rfl (ne h2)
   ·cases h1
  ·rename_i hi hj;rw[K19]at h1 h2;split at h1
   ·split at h2
    ·omega
    ·cases h2
   ·cases h1
 ·rw[K2s]at h1 h2;rw[r.len]at h2;split at h1
  ·rename_i hn;rw[if_pos hn]at h2;exact(r.obj n o a h1 h2).mono (Pre.app _ _) ext (Z7 (ne h2))
  ·rename_i hn;rw[if_neg hn]at h2;rw[K19]at h1 h2;split at h1
   ·rename_i h0;rw[if_pos h0]at h2;cases h1;cases h2;exact hd
   ·cases h1
theorem RH.push {h:AH}{p:Addr}{ds:List D}{xs:List V}(r:RH K ρ h H) (hp:H p=none) (hd:RDs K ρ H ds xs):RH K (ρ++[p]) (h++[.lst ds]) (upd H p (.lst xs)) :=
 r.pushO hp ⟨xs,J6,hd.mono (Pre.app _ _) (Ext.upd (.inl hp))⟩
theorem RH.setO {h:AH}{n:Nat}{a:Addr}{o0 o':O}{u:HO}(r:RH K ρ h H) (e:h[n]?=some o0) (ea:ρ[n]?=some a) (hd:RO K ρ (upd H a u) o' a) (nf:o0.fz=false:=by rfl):RH K ρ (h.set n o') (upd H a u):=by
 have ext:Ext K H (L2.upd H a u):=Ext.upd (.inr (r.tracked ea e nf));refine⟨by simp[r.len],r.nd,λm o b h1 h2=>?_⟩;by_cases hm:m=n
 ·subst hm;rw[ea]at h2;cases h2;have hi:=(K4.mp e).1;rw[K1k hi]at h1;cases h1;exact hd
 ·rw[K1u (λz=>hm z.symm)]at h1;exact(r.obj m o b h1 h2).mono (Pre.refl _) ext (Z7 λz=>hm (r.nd m n b h2 (by rw[z];exact ea)))
theorem RH.set {h:AH}{n:Nat}{a:Addr}{ds0 ds:List D}{xs:List V}(r:RH K ρ h H) (e:h[n]?=.(l ds0)) (ea:ρ[n]?=some a) (hd:RDs K ρ H ds xs):RH K ρ (h.set n (.lst ds)) (upd H a (.lst xs)) :=
 r.setO e ea ⟨xs,J6,hd.mono (Pre.refl _) (Ext.upd (.inr (r.tracked ea e)))⟩
structure RG (K:K0) (ρ:List Addr) (H:Hp) (γ:G) (σ:L2.St):Prop where
 len:γ.length=σ.length
 var:∀(i:Nat) d,γ[i]?=some (some d)->∃v,σ[i]?=some (some v)/\RD K ρ H d v
theorem RG.mono {γ:G}{σ:L2.St}(p:Pre ρ ρ') (e:Ext K H H') (r:RG K ρ H γ σ):RG K ρ' H' γ σ :=
 ⟨r.len,λi d h=>let ⟨v,h1,h2⟩:=r.var i d h;⟨v,h1,h2.mono p e⟩⟩
theorem RG.set {γ:G}{σ:L2.St}{d:D}{v:V}(r:RG K ρ H γ σ) (i:Nat) (hd:RD K ρ H d v):RG K ρ H (γ.set i (some d)) (σ.set i (some v)):=by
 refine⟨by simp[r.len],λj d' h=>?_⟩;by_cases hj:i=j
 ·subst hj;have hi:i<γ.length:=by
   have:=(K4.mp h).1;simpa using this
  rw[K1k hi]at h;cases h;exact⟨v,K1k (by rw[<- r.len];exact hi),hd⟩
 ·rw[K1u hj]at h ⊢;exact r.var j d' h
structure Rel (K:K0) (ρ:List Addr) (γ:G) (h:AH) (σ:L2.St) (H:Hp):Prop where
 g:RG K ρ H γ σ
 h:RH K ρ h H
abbrev XX:=Exn->List Addr->AH->Hp->Prop
def Fin {α:Type} (K:K0) (EX:XX) (ρ:List Addr) (H:Hp) (P:α->List Addr->AH->Hp->Prop):Res α->Prop
 | .ok a h'=>∀ρ' H',Pre ρ ρ'->Ext K H H'->RH K ρ' h' H'->P a ρ' h' H'
 | .err x h'=>∀ρ' H',Pre ρ ρ'->Ext K H H'->RH K ρ' h' H'->EX x ρ' h' H'
 | .bad=>False
variable {EX:XX}{α β:Type}
theorem Fin.up {P:α->List Addr->AH->Hp->Prop}{r:Res α}(p:Pre ρ ρ') (e:Ext K H H') (f:Fin K EX ρ H P r):Fin K EX ρ' H' P r:=by
 cases r with
 | ok a h=>exact λρ2 H2 p2 e2 r2=>f ρ2 H2 (p.trans p2) (e.trans e2) r2
 | err x h=>exact λρ2 H2 p2 e2 r2=>f ρ2 H2 (p.trans p2) (e.trans e2) r2
 | bad=>exact f
theorem Fin.mono {P P':α->List Addr->AH->Hp->Prop}{r:Res α}(f:Fin K EX ρ H P r) (h:∀a ρ' h' H',Pre ρ ρ'->Ext K H H'->RH K ρ' h' H'->P a ρ' h' H'->P' a ρ' h' H'):Fin K EX ρ H P' r:=by
 cases r with
 | ok a h1=>exact λρ2 H2 p2 e2 r2=>h a ρ2 h1 H2 p2 e2 r2 (f ρ2 H2 p2 e2 r2)
 | err x h1=>exact f
 | bad=>exact f
theorem Fin.bind {P:β->List Addr->AH->Hp->Prop}{m:M α}{f:α->M β}{h:AH}(z:Fin K EX ρ H P ((m >>= f) h)):Fin K EX ρ H (λa ρ1 h1 H1=>Fin K EX ρ1 H1 P (f a h1)) (m h):=by
 rw[M.bind_eq]at z;cases e:m h with
 | ok a h1=>rw[e]at z;exact λρ2 H2 p2 e2 r2=>Fin.up p2 e2 z
 | err x h1=>rw[e]at z;exact z
 | bad=>rw[e]at z;exact z
end
def tE (K:K0) (EX:XX) (m:G->M D):TE:=λσ H Q=>∃ρ γ h,Rel K ρ γ h σ H/\Fin K EX ρ H (λd ρ' _ H'=>∀v,RD K ρ' H' d v->Q v H') (m γ h)
def tT (K:K0) (EX:XX) (m:G->M Bool):TT:=λσ H Q=>∃ρ γ h,Rel K ρ γ h σ H/\Fin K EX ρ H (λb _ _ H'=>Q b H') (m γ h)
def tL (K:K0) (EX:XX) (m:G->M (List D)):TA:=λσ H Q=>∃ρ γ h,Rel K ρ γ h σ H/\Fin K EX ρ H (λds ρ' _ H'=>∀vs,RDs K ρ' H' ds vs->Q vs H') (m γ h)
inductive Out where
 | nx (γ:G)|rt (d:D)|bk (γ:G)|ct (γ:G)
def OutP (K:K0) (D:Ends) (o:Out) (ρ:List Addr) (H:Hp):Prop:=match o with
 | .nx γ=>∀σ,RG K ρ H γ σ->D.nx σ H
 | .rt d=>∀v,RD K ρ H d v->D.rt v H
 | .bk γ=>∀σ,RG K ρ H γ σ->D.bk σ H
 | .ct γ=>∀σ,RG K ρ H γ σ->D.ct σ H
def tB (K:K0) (EX:XX) (m:G->M Out):TS:=λD σ H=>∃ρ γ h,Rel K ρ γ h σ H/\Fin K EX ρ H (λo ρ' _ H'=>OutP K D o ρ' H') (m γ h)
structure SE (X:Cx) (EX:XX) (e:Expr) (m:G->M D):Prop where
 h:PE X e (tE X.K EX m)
structure SC (X:Cx) (EX:XX) (e:Expr) (m:G->M Bool):Prop where
 h:PT X e (tT X.K EX m)
structure SA (X:Cx) (EX:XX) (es:List Expr) (m:G->M (List D)):Prop where
 h:PA X es (tL X.K EX m)
structure S1 (X:Cx) (EX:XX) (st:Stmt) (m:G->M Out):Prop where
 h:PS X st (tB X.K EX m)
structure SB (X:Cx) (EX:XX) (st:List Stmt) (m:G->M Out):Prop where
 h:PSs X st (tB X.K EX m)
theorem PE.imp {X:Cx}{e:Expr}{t t':TE}(h:PE X e t) (f:∀σ H Q,t' σ H Q->t σ H Q):PE X e t':=λpins s σ H Q I z=>h pins s σ H Q I (f σ H Q z)
theorem PT.imp {X:Cx}{e:Expr}{t t':TT}(h:PT X e t) (f:∀σ H Q,t' σ H Q->t σ H Q):PT X e t':=λpins s σ H Q I z=>h pins s σ H Q I (f σ H Q z)
theorem PA.imp {X:Cx}{e:List Expr}{t t':TA}(h:PA X e t) (f:∀σ H Q,t' σ H Q->t σ H Q):PA X e t':=λpos pins s σ H Q I z=>h pos pins s σ H Q I (f σ H Q z)
theorem PS.imp {X:Cx}{e:Stmt}{t t':TS}(h:PS X e t) (f:∀σ H Q,t' Q σ H->t Q σ H):PS X e t':=λpins s σ H Q I z=>h pins s σ H Q I (f σ H Q z)
theorem PSs.imp {X:Cx}{e:List Stmt}{t t':TS}(h:PSs X e t) (f:∀σ H Q,t' Q σ H->t Q σ H):PSs X e t':=λpins s σ H Q I z=>h pins s σ H Q I (f σ H Q z)
abbrev FE (K:K0) (EX:XX) (ρ:List Addr) (H:Hp) (Q:VK) (r:Res D):Prop:=Fin K EX ρ H (λd ρ' _ H'=>∀v,RD K ρ' H' d v->Q v H') r
theorem FE.here {K:K0}{EX:XX}{ρ:List Addr}{H:Hp}{Q:VK}{d:D}{h:AH}{v:V}(f:FE K EX ρ H Q (.ok d h)) (r:RH K ρ h H) (rd:RD K ρ H d v):Q v H:=f ρ H (Pre.refl _) (Ext.refl _ _) r v rd
theorem FE.tup {K:K0}{EX:XX}{ρ:List Addr}{H:Hp}{Q:VK}{ds:List D}{xs:List V}{h:AH}{p:Addr}(f:FE K EX ρ H Q (.ok (.tup ds) h)) (r:RH K ρ h H) (hd:RDs K ρ H ds xs) (hp:H p=none):Q (.ref p) (upd H p (.tup xs)):=by
 have e:Ext K H (L2.upd H p (.tup xs)):=Ext.upd (.inl hp);refine f ρ _ (Pre.refl _) e (r.other hp) _ ?_;simp only[RD];exact⟨p,xs,rfl,SqT.of J6,hd.mono (Pre.refl _) e⟩
theorem FE.lst {K:K0}{EX:XX}{ρ:List Addr}{H:Hp}{Q:VK}{ds:List D}{xs:List V}{h:AH}{p:Addr}(f:FE K EX ρ H Q (.ok (.ref h.length) (h++[.lst ds]))) (r:RH K ρ h H) (hd:RDs K ρ H ds xs) (hp:H p=none):Q (.ref p) (upd H p (.lst xs)):=by
 refine f (ρ++[p]) _ (Pre.app _ _) (Ext.upd (.inl hp)) (r.push hp hd) _ ?_;simp only[RD];refine⟨p,rfl,?_⟩;rw[<- r.len];simp
def getL (n:Nat):M (List D):=λh=>match h[n]? with
 | .(l xs)=>.ok xs h
 | _=>.bad
def newL (xs:List D):M D:=λh=>if xs.length<=sizeLine then .ok (.ref h.length) (h++[.lst xs]) else .bad
section
variable {X:Cx}{EX:XX}{a b c e:Expr}{pos:Pos}{ma mb mc:G->M D}
def eVar (i:Nat):G->M D:=λγ=>match γ[i]? with
 | some (some d)=>pure d
 | _=>bad
theorem z0 (i:Nat) {x:Str}(hN:X.N[i]?=some x:=by rfl) (hv:Vis X.env.scope x:=by first|exact Or.inl rfl|exact Or.inr (Or.inl rfl)|exact Or.inr (Or.inr rfl))
 (hd:(x==("__debug__":Str))=false:=by decide) (hcd:(x==("__classdict__":Str))=false:=by decide):SE X EX (.Name x pos) (eVar i) :=
 ⟨PE.imp (z9R hN hv hd hcd) λσ H Q ⟨ρ,γ,h,rel,f⟩=>by
  have f':FE X.K EX ρ H Q (eVar i γ h):=f;unfold eVar at f';cases e:γ[i]? with
  | none=>rw[e]at f';exact f'.elim
  | some o=>cases o with
   | none=>rw[e]at f';exact f'.elim
   | some d =>
    rw[e]at f';obtain⟨v,h1,h2⟩:=rel.g.var i d e;exact⟨v,h1,FE.here f' rel.h h2⟩⟩
theorem z2C {d:D}{v:V}(h:PE X e (tC v)) (r:∀ρ H,RD X.K ρ H d v):SE X EX e (λ_=>pure d) :=
 ⟨PE.imp h λσ H Q ⟨ρ,γ,h,rel,f⟩=>FE.here f rel.h (r ρ H)⟩
theorem z7 {i:Int}{j:Nat}:SE X EX (.Constant (.int i) j pos) (λ_=>pure (.int i)):=z2C zg7 λ_ _=>by simp[RD]
theorem z1T {i:Bool}{j:Nat}:SE X EX (.Constant (.bool i) j pos) (λ_=>pure (.bl i)):=z2C zh8 λ_ _=>by simp[RD]
theorem x4 {i:Str}{j:Nat}:SE X EX (.Constant (.str i) j pos) (λ_=>pure (.str i)):=z2C zd5 λ_ _=>by simp[RD]
def BR (K:K0) (EX:XX) (r:R2) (f:D->D->M D):Prop:=∀ρ h H x y v u Q,RH K ρ h H->RD K ρ H x v->RD K ρ H y u->FE K EX ρ H Q (f x y h)->r v u H Q
def e2 (f:D->D->M D) (ma mb:G->M D):G->M D:=λγ=>do
 let x <- ma γ;let y <- mb γ
 f x y
theorem z54 {r:R2}{f:D->D->M D}{ta tb:TE}(h:PE X e (tOp r (tE X.K EX ma) (tE X.K EX mb))) (hr:BR X.K EX r f):SE X EX e (e2 f ma mb) :=
 ⟨PE.imp h λσ H Q ⟨ρ,γ,h,rel,fin⟩=>⟨ρ,γ,h,rel,(Fin.bind fin).mono λx ρ1 h1 H1 p1 e1 r1 f1 v rv=>⟨ρ1,γ,h1,⟨rel.g.mono p1 e1,r1⟩,(Fin.bind f1).mono λy ρ2 h2 H2 p2 e2 r2 f2 u ru =>
  hr ρ2 h2 H2 x y v u Q r2 (rv.mono p2 e2) ru f2⟩⟩⟩
theorem z32 {op:Operator}{r:R2}{f:D->D->M D}(ho:OpR X (K27 op) r) (hr:BR X.K EX r f) (ha:SE X EX a ma) (hb:SE X EX b mb):SE X EX (.BinOp a op b pos) (e2 f ma mb) :=
 z54 (ta:=tE X.K EX ma) (tb:=tE X.K EX mb) (zh9 ho ha.h hb.h) hr
theorem z9X {op:CmpOp}{r:R2}{f:D->D->M D}(ho:OpR X (K1g op) r) (hr:BR X.K EX r f) (ha:SE X EX a ma) (hb:SE X EX b mb) (hm:K3c op b=false):SE X EX (.Compare a [op] [b] pos) (e2 f ma mb) :=
 z54 (ta:=tE X.K EX ma) (tb:=tE X.K EX mb) (z7P ho ha.h hb.h hm) hr
theorem BR.or {K:K0}{r r':R2}{f g f':D->D->M D}(h:BR K EX r f) (h':BR K EX r' g) (e:∀x y,(∀z,f' x y z=f x y z)\/(∀z,f' x y z=g x y z)):BR K EX (λx y H Q=>r x y H Q\/r' x y H Q) f':=by
 intro ρ h0 H x y v u Q r0 rx ry fin;rcases e x y with z|z
 ·exact .inl (h ρ h0 H x y v u Q r0 rx ry (by rw[<- z h0];exact fin))
 ·exact .inr (h' ρ h0 H x y v u Q r0 rx ry (by rw[<- z h0];exact fin))
def fI (g:Int->Int->D):D->D->M D
 | .int i,.int j=>pure (g i j)
 | _,_=>bad
theorem z6Z {K:K0}{g:Int->Int->D}{g':Int->Int->V}(hg:∀i j ρ H,RD K ρ H (g i j) (g' i j)):BR K EX (rI0 g') (fI g):=by
 intro ρ h H x y v u Q r rx ry fin;unfold fI at fin;split at fin
 ·simp only[RD]at rx ry;subst rx;subst ry;exact⟨_,_,rfl,rfl,FE.here fin r (hg _ _ _ _)⟩
 ·exact fin.elim
def fIC (C:Int->Int->Bool) (g:Int->Int->D):D->D->M D
 | .int i,.int j=>if C i j then pure (g i j) else bad
 | _,_=>bad
theorem z6c {K:K0}{C:Int->Int->Bool}{C':Int->Int->Prop}{g:Int->Int->D}{g':Int->Int->V}(hc:∀i j,C i j=true->C' i j) (hg:∀i j ρ H,RD K ρ H (g i j) (g' i j)):BR K EX (rI C' g') (fIC C g):=by
 intro ρ h H x y v u Q r rx ry fin;unfold fIC at fin;split at fin
 ·simp only[RD]at rx ry;subst rx;subst ry;split at fin
  ·rename_i hC;exact⟨_,_,rfl,rfl,hc _ _ hC,FE.here fin r (hg _ _ _ _)⟩
  ·exact fin.elim
 ·exact fin.elim
def fSub:=fI λi j=>.int (i - j)
def fDiv:=fIC (λ_ j=>decide (0<j)&&decide (j<1073741824)) λi j=>.int (i / j)
def fMod:=fIC (λ_ j=>decide (0<j)) λi j=>.int (i % j)
def fPow:=fIC (λi j=>decide (0<=j)&&decide (j<=1000)&&decide (-(2 ^ 64)<i)&&decide (i<2 ^ 64)) λi j=>.int (i ^ j.toNat)
def fShr:=fIC (λ_ j=>decide (0<=j)) λi j=>.int (i / 2 ^ j.toNat)
def fAnd:=fI λi j=>.int (K0o i j)
theorem z72 (ha:SE X EX a ma) (hb:SE X EX b mb):SE X EX (.BinOp a .Sub b pos) (e2 fSub ma mb):=z32 za5 (z6Z λi j ρ H=>by simp[RD]) ha hb
theorem z3E (ha:SE X EX a ma) (hb:SE X EX b mb):SE X EX (.BinOp a .FloorDiv b pos) (e2 fDiv ma mb):=z32 z8z (z6c (λi j h=>by simp at h;exact h) λi j ρ H=>by simp[RD]) ha hb
theorem z1t (ha:SE X EX a ma) (hb:SE X EX b mb):SE X EX (.BinOp a .Mod b pos) (e2 fMod ma mb):=z32 zc6 (z6c (λi j h=>by simpa using h) λi j ρ H=>by simp[RD]) ha hb
theorem z4E (ha:SE X EX a ma) (hb:SE X EX b mb):SE X EX (.BinOp a .Pow b pos) (e2 fPow ma mb):=z32 z9q (z6c (λi j h=>by
 simp at h;refine⟨h.1.1.1,by omega,?_⟩;have h1:=h.1.2;have h2:=h.2;omega) λi j ρ H=>by simp[RD]) ha hb
theorem z7a (ha:SE X EX a ma) (hb:SE X EX b mb):SE X EX (.BinOp a .RShift b pos) (e2 fShr ma mb):=z32 za3 (z6c (λi j h=>by simpa using h) λi j ρ H=>by simp[RD]) ha hb
theorem z46 (ha:SE X EX a ma) (hb:SE X EX b mb):SE X EX (.BinOp a .BitAnd b pos) (e2 fAnd ma mb):=z32 za1 (z6Z λi j ρ H=>by simp[RD]) ha hb
def fAdd:D->D->M D
 | .int i,.int j=>pure (.int (i+j))
 | .str i,.str j=>if i.length+j.length<=sizeLine then pure (.str (i++j)) else bad
 | .ref i,.ref j=>do
  let x <- getL i;let y <- getL j
  newL (x++y)
 | .tup x,.tup y=>if !decide (x.length+y.length<=sizeLine) then bad else pure (.tup (x++y))
 | _,_=>bad
theorem z0u {n:Nat}{h h1:AH}{xs:List D}(e:getL n h=.ok xs h1):h1=h/\h[n]?=.(l xs):=by
 unfold getL at e;split at e
 ·rename_i q;cases e;exact⟨rfl,q⟩
 ·cases e
theorem z0r {n:Nat}{h h1:AH}{x:Exn}(e:getL n h=.err x h1):False:=by
 unfold getL at e;split at e<;>cases e
def z8h (K:K0):R2:=λx y H Q=>∃a b ys,x=.ref a/\y=.ref b/\SqT K H a []/\SqT K H b ys/\Q (.ref b) H
theorem z8d:OpR X (K27 .Add) (z8h X.K):=by
 intro pins s σ H x y v u Q I rx ry h;obtain⟨a,b,ys,rfl,rfl,ha,hb,q⟩:=h;cases rx;cases ry;obtain⟨its,r1,p1,_⟩:=I.tuple ha;obtain⟨its2,r2,p2,_⟩:=I.tuple hb;have e:its=[]:=(r1.nil_iff).mpr rfl;subst e;obtain⟨⟨cls,dd,data,sl⟩,ho,hc,n,hd⟩:=id p1;obtain⟨⟨cls2,dd2,data2,sl2⟩,ho2,hc2,n2,hd2⟩:=id p2;simp only at hc hd hc2 hd2;subst hc hd hc2 hd2;exact K8m ⟨_,ho,rfl⟩ ⟨_,ho2,rfl⟩ K6f K7w K4j K46 (K3w _ _) (tuple_addW0 a b _ _ n n2 dd dd2 sl sl2 rfl) ⟨ho,ho2,.ref b,H,I,rfl,q⟩
theorem z8i:OpR X (K27 .Add) (λx y H Q=>rI0 (λi j=>.int (i+j)) x y H Q\/(∃i j,x=.str i/\y=.str j/\i.length+j.length<=sizeLine/\Q (.str (i++j)) H)\/rCat x y H Q\/z7D X.K x y H Q\/z8h X.K x y H Q) :=
 op_add.or (op_add_str.or (op_cat.or (op_catT.or z8d)))
theorem z8N:BR X.K EX (λx y H Q=>rI0 (λi j=>.int (i+j)) x y H Q\/(∃i j,x=.str i/\y=.str j/\i.length+j.length<=sizeLine/\Q (.str (i++j)) H)\/rCat x y H Q\/z7D X.K x y H Q\/z8h X.K x y H Q) fAdd:=by
 intro ρ h H x y v u Q r rx ry fin;unfold fAdd at fin;split at fin
 ·simp only[RD]at rx ry;subst rx;subst ry;exact .inl ⟨_,_,rfl,rfl,FE.here fin r (by simp[RD])⟩
 ·simp only[RD]at rx ry;subst rx;subst ry;split at fin
  ·rename_i hl;exact .inr (.inl ⟨_,_,rfl,rfl,hl,FE.here fin r (by simp[RD])⟩)
  ·exact fin.elim
 ·rename_i i j;simp only[RD]at rx ry;obtain⟨ai,rfl,hi⟩:=rx;obtain⟨aj,rfl,hj⟩:=ry;have f1:=Fin.bind fin;cases e:getL i h with
  | bad=>rw[e]at f1;exact f1.elim
  | err z hz=>exact(z0r e).elim
  | ok xs h1 =>
   obtain⟨rfl,q1⟩:=z0u e;rw[e]at f1;have f2:=Fin.bind (f1 ρ H (Pre.refl _) (Ext.refl _ _) r);cases e3:getL j h1 with
   | bad=>rw[e3]at f2;exact f2.elim
   | err z hz=>exact(z0r e3).elim
   | ok ys h2 =>
    obtain⟨rfl,q2⟩:=z0u e3;rw[e3]at f2;have f3:=f2 ρ H (Pre.refl _) (Ext.refl _ _) r;dsimp only at f3;unfold newL at f3;split at f3
    ·rename_i hl;obtain⟨a1,n1,xs1,o1,d1⟩:=r.at q1;obtain⟨a2,n2,xs2,o2,d2⟩:=r.at q2;rw[hi]at n1;cases n1;rw[hj]at n2;cases n2;refine .inr (.inr (.inl ⟨_,_,_,_,rfl,rfl,o1,o2,?_,λp hp=>FE.lst f3 r (d1.append d2) hp⟩));rw[<- d1.length,<- d2.length,<- K9];exact hl
    ·exact f3.elim
 ·rename_i x y;simp only[RD]at rx ry;obtain⟨ax,xs,rfl,hx,dx⟩:=rx;obtain⟨ay,ys,rfl,hy,dy⟩:=ry;split at fin
  ·exact fin.elim
  ·rename_i hc;simp at hc;have l1:=dx.length;have l2:=dy.length;by_cases hxe:xs=[]
   ·subst hxe;have xe:x=[]:=by simpa using l1
    subst xe;refine .inr (.inr (.inr (.inr ⟨ax,ay,ys,rfl,rfl,hx,hy,FE.here fin r ?_⟩)));simp only[RD];exact⟨ay,ys,rfl,hy,by simpa using dy⟩
   refine .inr (.inr (.inr (.inl ⟨ax,ay,xs,ys,rfl,rfl,hx,hy,hxe,by omega,λe=>?_,λe p hp=>FE.tup fin r (dx.append dy) hp⟩)))
   ·subst e;refine FE.here fin r ?_;simp only[RD];have:y=[]:=by simpa using l2
    subst this;exact⟨ax,xs,rfl,hx,by simpa using dx⟩
 ·exact fin.elim
theorem z0H (ha:SE X EX a ma) (hb:SE X EX b mb):SE X EX (.BinOp a .Add b pos) (e2 fAdd ma mb):=z32 z8i z8N ha hb
def fMul:D->D->M D
 | .int i,.int j=>if (decide (-(2 ^ 64)<i)&&decide (i<2 ^ 64))||(decide (-(2 ^ 64)<j)&&decide (j<2 ^ 64)) then pure (.int (i * j)) else bad
 | .ref i,.int j=>do
  let x <- getL i
  if decide (-(2 ^ 63)<=j)&&decide (j<2 ^ 63) then newL (K02 j.toNat x).flatten else bad
 | _,_=>bad
theorem zc4:BR X.K EX (λx y H Q=>rI CMul (λi j=>.int (i * j)) x y H Q\/rRep x y H Q) fMul:=by
 intro ρ h H x y v u Q r rx ry fin;unfold fMul at fin;split at fin
 ·simp only[RD]at rx ry;subst rx;subst ry;split at fin
  ·rename_i hc;refine .inl ⟨_,_,rfl,rfl,?_,FE.here fin r (by simp[RD])⟩;simp only[K24,K0b,decide_eq_true_eq]at hc;exact hc
  ·exact fin.elim
 ·rename_i i j;simp only[RD]at rx ry;obtain⟨ai,rfl,hi⟩:=rx;subst ry;have f1:=Fin.bind fin;cases e:getL i h with
  | bad=>rw[e]at f1;exact f1.elim
  | err z hz=>exact(z0r e).elim
  | ok xs h1 =>
   obtain⟨rfl,q1⟩:=z0u e;rw[e]at f1;have f2:=f1 ρ H (Pre.refl _) (Ext.refl _ _) r;dsimp only at f2;split at f2
   ·rename_i hb;simp only[K0b,decide_eq_true_eq]at hb;unfold newL at f2;split at f2
    ·rename_i hl;obtain⟨a1,n1,xs1,o1,d1⟩:=r.at q1;rw[hi]at n1;cases n1;refine .inr ⟨_,_,_,rfl,rfl,o1,hb.1,hb.2,?_,λp hp=>FE.lst f2 r (d1.flat j.toNat) hp⟩;rw[L2.len_rep,d1.length]at hl;rw[K54];exact hl
    ·exact f2.elim
   ·exact f2.elim
 ·exact fin.elim
def fCmp (g:Int->Int->Bool):D->D->M D:=fI λi j=>.bl (g i j)
def fLt:D->D->M D
 | .int i,.int j=>pure (.bl (decide (i<j)))
 | .str i,.str j=>pure (.bl (decide (i.cps.toList<j.cps.toList)))
 | _,_=>bad
def fLe:D->D->M D
 | .int i,.int j=>pure (.bl (decide (i<=j)))
 | .str i,.str j=>pure (.bl (!decide (j.cps.toList<i.cps.toList)))
 | _,_=>bad
def fGt:D->D->M D:=fCmp λi j=>decide (j<i)
def fGe:D->D->M D:=fCmp λi j=>decide (j<=i)
theorem z5X:OpR X (K1g .LtE) (λx y H Q=>∃i j,x=.str i/\y=.str j/\Q (.bl (!decide (j.cps.toList<i.cps.toList))) H):=by
 intro pins s σ H x y v u Q I rx ry h;obtain⟨i,j,rfl,rfl,q⟩:=h;obtain⟨t,rfl⟩:=rx;obtain⟨t',rfl⟩:=ry;exact PySem.P.le_str ⟨.bl _,H,I,rfl,q⟩
theorem zm1 {K:K0}:BR K EX (λx y H Q=>rI0 (λi j=>.bl (decide (i<j))) x y H Q\/∃i j,x=.str i/\y=.str j/\Q (.bl (decide (i.cps.toList<j.cps.toList))) H) fLt:=by
 intro ρ h H x y v u Q r rx ry fin;unfold fLt at fin;split at fin
 ·simp only[RD]at rx ry;subst rx;subst ry;exact .inl ⟨_,_,rfl,rfl,FE.here fin r (by simp[RD])⟩
 ·simp only[RD]at rx ry;subst rx;subst ry;exact .inr ⟨_,_,rfl,rfl,FE.here fin r (by simp[RD])⟩
 ·exact fin.elim
theorem zm6 {K:K0}:BR K EX (λx y H Q=>rI0 (λi j=>.bl (decide (i<=j))) x y H Q\/∃i j,x=.str i/\y=.str j/\Q (.bl (!decide (j.cps.toList<i.cps.toList))) H) fLe:=by
 intro ρ h H x y v u Q r rx ry fin;unfold fLe at fin;split at fin
 ·simp only[RD]at rx ry;subst rx;subst ry;exact .inl ⟨_,_,rfl,rfl,FE.here fin r (by simp[RD])⟩
 ·simp only[RD]at rx ry;subst rx;subst ry;exact .inr ⟨_,_,rfl,rfl,FE.here fin r (by simp[RD])⟩
 ·exact fin.elim
def eqD:D->D->Option Bool
 | .int i,.int j=>some (decide (i=j))
 | .str i,.str j=>some (decide (i=j))
 | .bl i,.bl j=>some (decide (i=j))
 | .non,.non=>some true
 | .int _,.str _=>some false
 | .str _,.int _=>some false
 | .non,.int _=>some false
 | .int _,.non=>some false
 | .non,.str _=>some false
 | .str _,.non=>some false
 | _,_=>none
def fEq (neg:Bool):D->D->M D:=λx y=>match eqD x y with
 | some b=>pure (.bl (b != neg))
 | none=>bad
theorem z7I {K:K0}{ρ:List Addr}{H:Hp}{x y:D}{v u:V}{k:Bool}(e:eqD x y=some k) (rx:RD K ρ H x v) (ry:RD K ρ H y u):scal v u=true/\decide (v=u)=k:=by
 cases x<;>cases y<;>first
  | (have e':none=some k:=e
     exact nomatch e')
  | (simp only[eqD]at e
     simp only[RD]at rx ry;subst rx;subst ry;cases e;exact⟨rfl,by simp⟩)
theorem zl0 {K:K0}:BR K EX rEq (fEq false):=by
 intro ρ h H x y v u Q r rx ry fin;unfold fEq at fin;cases hk:eqD x y with
 | none=>rw[hk]at fin;exact fin.elim
 | some k =>
  rw[hk]at fin;obtain⟨h1,h2⟩:=z7I hk rx ry;refine⟨h1,?_⟩;rw[h2];refine FE.here fin r ?_;cases k<;>simp[RD]
def z0k:D->Bool
 | .non=>true
 | .bl _=>true
 | .int _=>true
 | .str _=>true
 | _=>false
def eqF:D->D->Bool
 | .non,.non=>true
 | .bl a,.bl b=>a==b
 | .bl a,.int b=>(if a then 1 else 0)==b
 | .int a,.bl b=>a==(if b then 1 else 0)
 | .int a,.int b=>a==b
 | .str a,.str b=>a==b
 | _,_=>false
def seqD:D->M (List D)
 | .tup xs=>pure xs
 | .fl xs=>pure xs
 | .ref n=>getL n
 | _=>bad
def fIn (neg:Bool):D->D->M D:=λx y=>do
 let ys <- seqD y
 if z0k x&&ys.all z0k then pure (.bl ((ys.any λz=>eqF z x) != neg)) else bad
theorem z3Z {K:K0}{ρ:List Addr}{H:Hp}{x:D}{v:V}(f:z0k x=true) (r:RD K ρ H x v):z26 v=true:=by
 cases x<;>simp only[RD]at r<;>first|(subst r;rfl)|cases f
theorem z97 {K:K0}{ρ:List Addr}{H:Hp}{x y:D}{v u:V}(f:z0k x=true) (f':z0k y=true) (r:RD K ρ H x v) (r':RD K ρ H y u):eqV v u=eqF x y:=by
 cases x with
 | non=>simp only[RD]at r;subst r;cases y<;>first|(simp only[RD]at r';subst r';rfl)|cases f'
 | bl b=>simp only[RD]at r;subst r;cases y<;>first|(simp only[RD]at r';subst r';rfl)|cases f'
 | int b=>simp only[RD]at r;subst r;cases y<;>first|(simp only[RD]at r';subst r';rfl)|cases f'
 | str b=>simp only[RD]at r;subst r;cases y<;>first|(simp only[RD]at r';subst r';rfl)|cases f'
 | tup b=>cases f
 | fl b=>cases f
 | ref b=>cases f
theorem z2L {K:K0}{ρ:List Addr}{H:Hp}:∀{xs:List D}{vs:List V},RDs K ρ H xs vs->xs.all z0k=true->vs.all z26=true
 | [],vs,r,_=>by simp only[RDs]at r;subst r;rfl
 | x::xs,vs,r,f=>by
  simp only[RDs]at r;obtain⟨v,r2,rfl,h1,h2⟩:=r;rw[K3r,K0b]at f ⊢;exact⟨z3Z f.1 h1,z2L h2 f.2⟩
theorem z4H {K:K0}{ρ:List Addr}{H:Hp}{x:D}{v:V}(f:z0k x=true) (r:RD K ρ H x v):∀{xs:List D}{vs:List V},RDs K ρ H xs vs->xs.all z0k=true->(vs.any λy=>eqV y v)=xs.any λz=>eqF z x
 | [],vs,rs,_=>by simp only[RDs]at rs;subst rs;rfl
 | y::xs,vs,rs,fs=>by
  simp only[RDs]at rs;obtain⟨u,r2,rfl,h1,h2⟩:=rs;rw[K3r,K0b]at fs;rw[K1q,K1q,z97 fs.1 f h1 r,z4H f r h2 fs.2]
theorem z18 {K:K0}{ρ:List Addr}{h h1:AH}{H:Hp}{y:D}{u:V}{ys:List D}(r:RH K ρ h H) (ry:RD K ρ H y u) (e:seqD y h=.ok ys h1):h1=h/\∃p xs,u=.ref p/\(SqL K H p xs\/SqT K H p xs)/\RDs K ρ H ys xs:=by
 unfold seqD at e;split at e
 ·cases e;simp only[RD]at ry;obtain⟨p,xs,rfl,h2,h3⟩:=ry;exact⟨rfl,p,xs,rfl,.inr h2,h3⟩
 ·cases e;simp only[RD]at ry;obtain⟨p,xs,rfl,h2,h3⟩:=ry;exact⟨rfl,p,xs,rfl,.inl h2.sq,h3⟩
 ·obtain⟨rfl,q⟩:=z0u e;simp only[RD]at ry;obtain⟨p,rfl,h2⟩:=ry;obtain⟨a,n1,xs,o1,d1⟩:=r.at q;rw[h2]at n1;cases n1;exact⟨rfl,p,xs,rfl,.inl (SqL.of o1),d1⟩
 ·cases e
theorem z1H {y:D}{h h1:AH}{x:Exn}(e:seqD y h=.err x h1):False:=by
 unfold seqD at e;split at e
 ·cases e
 ·cases e
 ·exact z0r e
 ·cases e
theorem zg3 {K:K0}{neg:Bool}:BR K EX (rIn K neg) (fIn neg):=by
 intro ρ h H x y v u Q r rx ry fin;have f1:=Fin.bind fin;cases e:seqD y h with
 | bad=>rw[e]at f1;exact f1.elim
 | err z hz=>exact(z1H e).elim
 | ok ys h1 =>
  obtain⟨rfl,p,xs,rfl,hs,hd⟩:=z18 r ry e;rw[e]at f1;have f2:=f1 ρ H (Pre.refl _) (Ext.refl _ _) r;dsimp only at f2;split at f2
  ·rename_i hc;rw[K0b]at hc;refine⟨p,xs,rfl,hs,z3Z hc.1 rx,z2L hd hc.2,?_⟩;refine FE.here f2 r ?_;unfold inV;rw[z4H hc.1 rx hd hc.2];cases neg<;>simp[RD]
  ·exact f2.elim
end
section
variable {env:Env}{es:List Expr}
theorem z3w {c k p}:K07 (.Constant c k p::es) env=(false,eval (.Constant c k p) env)::K07 es env:=rfl
theorem z8A {c p}:K07 (.Name c p::es) env=(false,eval (.Name c p) env)::K07 es env:=rfl
theorem z7z {a b c p}:K07 (.Call a b c p::es) env=(false,eval (.Call a b c p) env)::K07 es env:=rfl
theorem z64 {a b c p}:K07 (.BinOp a b c p::es) env=(false,eval (.BinOp a b c p) env)::K07 es env:=rfl
theorem z4k {a b c p}:K07 (.Compare a b c p::es) env=(false,eval (.Compare a b c p) env)::K07 es env:=rfl
theorem z2X {a b p}:K07 (.Subscript a b p::es) env=(false,eval (.Subscript a b p) env)::K07 es env:=rfl
theorem z69 {a b p}:K07 (.Tuple a b p::es) env=(false,eval (.Tuple a b p) env)::K07 es env:=rfl
theorem z8I {a p}:K07 (.List a p::es) env=(false,eval (.List a p) env)::K07 es env:=rfl
theorem z4p {a b p}:K07 (.UnaryOp a b p::es) env=(false,eval (.UnaryOp a b p) env)::K07 es env:=rfl
theorem z3x {a b c p}:K07 (.ListComp a b c p::es) env=(false,eval (.ListComp a b c p) env)::K07 es env:=rfl
end
section
variable {X:Cx}{EX:XX}{a b c e:Expr}{pos:Pos}{ma mb mc:G->M D}
def CO (X:Cx) (EX:XX) (op:CmpOp) (f:D->D->M D):Prop:=∃r,OpR X (K1g op) r/\BR X.K EX r f
theorem za0:CO X EX .Lt fLt:=⟨_,op_lt.or z5n,zm1⟩
theorem z6h:CO X EX .LtE fLe:=⟨_,op_le.or z5X,zm6⟩
theorem z4v:CO X EX .Gt fGt:=⟨_,zl4,z6Z λi j ρ H=>by simp[RD]⟩
theorem zb6:CO X EX .GtE fGe:=⟨_,zj5,z6Z λi j ρ H=>by simp[RD]⟩
theorem z4s:CO X EX .Eq (fEq false):=⟨_,zj8,zl0⟩
theorem zm3:CO X EX .In (fIn false):=⟨_,z4A,zg3⟩
theorem z2y:CO X EX .NotIn (fIn true):=⟨_,z2G,zg3⟩
theorem se_c {op:CmpOp}{f:D->D->M D}(h:CO X EX op f) (ha:SE X EX a ma) (hb:SE X EX b mb) (hm:K3c op b=false:=by first|exact z7p _|with_unfolding_all rfl):SE X EX (.Compare a [op] [b] pos) (e2 f ma mb):=by
 obtain⟨r,h1,h2⟩:=h;exact z9X h1 h2 ha hb hm
def asB:D->M Bool
 | .bl b=>pure b
 | _=>bad
theorem zj3 {t:TE}{m:G->M D}(h:∀σ H Q,tE X.K EX m σ H Q->t σ H Q):∀σ H Q,tT X.K EX (λγ=>do let d <- m γ;asB d) σ H Q->zg2 t σ H Q:=by
 intro σ H Q ⟨ρ,γ,h0,rel,fin⟩;refine h σ H _ ⟨ρ,γ,h0,rel,(Fin.bind fin).mono λd ρ1 h1 H1 p1 e1 r1 f1 v rv=>?_⟩;cases d<;>first|exact(show False from f1).elim|skip
 rename_i b;simp only[RD]at rv;exact⟨b,rv,f1 ρ1 H1 (Pre.refl _) (Ext.refl _ _) r1⟩
theorem sc_c {op:CmpOp}{f:D->D->M D}(h:CO X EX op f) (ha:SE X EX a ma) (hb:SE X EX b mb) (hm:K3c op b=false:=by first|exact z7p _|with_unfolding_all rfl):SC X EX (.Compare a [op] [b] pos) (λγ=>do let d <- e2 f ma mb γ;asB d):=by
 constructor;obtain⟨r,h1,h2⟩:=h;refine PT.imp (z7A h1 ha.h hb.h hm) (zj3 λσ H Q ⟨ρ,γ,h,rel,fin⟩=>?_);exact⟨ρ,γ,h,rel,(Fin.bind fin).mono λx ρ1 h1 H1 p1 e1 r1 f1 v rv=>⟨ρ1,γ,h1,⟨rel.g.mono p1 e1,r1⟩,(Fin.bind f1).mono λy ρ2 h3 H2 p2 e2 r2 f2 u ru =>
  h2 ρ2 h3 H2 x y v u Q r2 (rv.mono p2 e2) ru f2⟩⟩
def e3 (f g:D->D->M D) (ma mb mc:G->M D):G->M D:=λγ=>do
 let x <- ma γ;let y <- mb γ;let k <- f x y;let t <- asB k
 if t then do
  let z <- mc γ
  g y z
 else pure (.bl false)
theorem z6u {r r':R2}{f g:D->D->M D}(h2:BR X.K EX r f) (h4:BR X.K EX r' g):∀σ H Q,tE X.K EX (e3 f g ma mb mc) σ H Q->z79 r r' (tE X.K EX ma) (tE X.K EX mb) (tE X.K EX mc) σ H Q:=by
 intro σ H Q ⟨ρ,γ,h,rel,fin⟩;refine⟨ρ,γ,h,rel,(Fin.bind fin).mono λx ρ1 h1 H1 p1 e1 r1 f1 v rv=>⟨ρ1,γ,h1,⟨rel.g.mono p1 e1,r1⟩,(Fin.bind f1).mono λy ρ2 h3 H2 p2 e2 r2 f2 u ru=>?_⟩⟩;refine h2 ρ2 h3 H2 x y v u _ r2 (rv.mono p2 e2) ru ((Fin.bind f2).mono λk ρ3 h5 H3 p3 e3 r3 f3 z rz=>?_);cases k<;>first|exact(show False from f3).elim|skip
 rename_i t;simp only[RD]at rz;refine⟨t,rz,?_⟩;cases t with
 | false =>
  rw[if_neg (by decide)];exact FE.here (d:=.bl false) (h:=h5) (ρ:=ρ3) f3 r3 (by simp[RD])
 | true =>
  rw[if_pos rfl];have f4:Fin X.K EX ρ3 H3 (λd ρ' _ H'=>∀v,RD X.K ρ' H' d v->Q v H') ((mc γ >>= λz=>g y z) h5):=f3;exact⟨ρ3,γ,h5,⟨((rel.g.mono p1 e1).mono p2 e2).mono p3 e3,r3⟩,(Fin.bind f4).mono λw ρ4 h6 H4 p4 e4 r4 f5 q rq=>h4 ρ4 h6 H4 y w u q Q r4 ((ru.mono p3 e3).mono p4 e4) rq f5⟩
theorem z9x {op op':CmpOp}{f g:D->D->M D}(h:CO X EX op f) (h':CO X EX op' g) (ha:SE X EX a ma) (hb:SE X EX b mb) (hc:SE X EX c mc) (hm:lastMarks [op,op'] [b,c]=false:=by with_unfolding_all rfl):SE X EX (.Compare a [op,op'] [b,c] pos) (e3 f g ma mb mc):=by
 constructor;obtain⟨r,h1,h2⟩:=h;obtain⟨r',h3,h4⟩:=h';exact PE.imp (z6n h1 h3 ha.h hb.h hc.h hm) (z6u h2 h4)
def eAnd (ma mb:G->M D):G->M D:=λγ=>do
 let x <- ma γ;let t <- asB x
 if t then mb γ else pure (.bl false)
def eNot (ma:G->M D):G->M D:=λγ=>do
 let x <- ma γ;let t <- asB x
 pure (.bl (!t))
variable {rest:List Expr}
theorem z53 {op:PySem.BoolOp}(ha:SE X EX a ma):SE X EX (.BoolOp op [a] pos) ma:=⟨z9d ha.h⟩
theorem z2z (ha:SE X EX a ma) (hb:SE X EX (.BoolOp .And (b::rest) pos) mb):SE X EX (.BoolOp .And (a::b::rest) pos) (eAnd ma mb) :=
 ⟨PE.imp (z9c ha.h hb.h) λσ H Q ⟨ρ,γ,h,rel,fin⟩=>⟨ρ,γ,h,rel,(Fin.bind fin).mono λx ρ1 h1 H1 p1 e1 r1 f1 v rv=>by
  cases x<;>first|exact(show False from f1).elim|skip
  rename_i t;simp only[RD]at rv;refine⟨t,rv,?_⟩;cases t with
  | true=>exact⟨ρ1,γ,h1,⟨rel.g.mono p1 e1,r1⟩,f1⟩
  | false=>exact FE.here (d:=.bl false) (h:=h1) (ρ:=ρ1) f1 r1 (by simp[RD])⟩⟩
theorem z7L (ha:SE X EX a ma):SE X EX (.UnaryOp .Not a pos) (eNot ma) :=
 ⟨PE.imp (zd8 ha.h) λσ H Q ⟨ρ,γ,h,rel,fin⟩=>⟨ρ,γ,h,rel,(Fin.bind fin).mono λx ρ1 h1 H1 p1 e1 r1 f1 v rv=>by
  cases x<;>first|exact(show False from f1).elim|skip
  rename_i t;simp only[RD]at rv;exact⟨t,rv,FE.here (d:=.bl (!t)) (h:=h1) (ρ:=ρ1) f1 r1 (by simp[RD])⟩⟩⟩
structure SW (X:Cx) (EX:XX) (e:Expr) (m:G->M Bool):Prop where
 h:PW X e (tT X.K EX m)
theorem PW.imp {X:Cx}{e:Expr}{t t':TT}(h:PW X e t) (f:∀σ H Q,t' σ H Q->t σ H Q):PW X e t':=λw pins s σ H Q I z=>h w pins s σ H Q I (f σ H Q z)
variable {ka kb kc:G->M Bool}
def cAnd (ka kb:G->M Bool):G->M Bool:=λγ=>do
 let t <- ka γ
 if t then kb γ else pure false
def cOr (ka kb:G->M Bool):G->M Bool:=λγ=>do
 let t <- ka γ
 if t then pure true else kb γ
def cNot (ka:G->M Bool):G->M Bool:=λγ=>do
 let t <- ka γ
 pure (!t)
theorem z2t (ha:SC X EX a ka):SW X EX (.BoolOp .And [a] pos) ka:=⟨z83 ha.h⟩
theorem z4K (ha:SC X EX a ka):SW X EX (.BoolOp .Or [a] pos) ka:=⟨ze9 ha.h⟩
theorem z44 (ha:SC X EX a ka) (hb:SW X EX (.BoolOp .And (b::rest) pos) kb):SW X EX (.BoolOp .And (a::b::rest) pos) (cAnd ka kb) :=
 ⟨PW.imp (zf4 ha.h hb.h) λσ H Q ⟨ρ,γ,h,rel,fin⟩=>⟨ρ,γ,h,rel,(Fin.bind fin).mono λt ρ1 h1 H1 p1 e1 r1 f1=>by
  cases t with
  | true=>exact⟨ρ1,γ,h1,⟨rel.g.mono p1 e1,r1⟩,f1⟩
  | false=>exact f1 ρ1 H1 (Pre.refl _) (Ext.refl _ _) r1⟩⟩
theorem z8n (ha:SC X EX a ka) (hb:SW X EX (.BoolOp .Or (b::rest) pos) kb):SW X EX (.BoolOp .Or (a::b::rest) pos) (cOr ka kb) :=
 ⟨PW.imp (zk1 ha.h hb.h) λσ H Q ⟨ρ,γ,h,rel,fin⟩=>⟨ρ,γ,h,rel,(Fin.bind fin).mono λt ρ1 h1 H1 p1 e1 r1 f1=>by
  cases t with
  | false=>exact⟨ρ1,γ,h1,⟨rel.g.mono p1 e1,r1⟩,f1⟩
  | true=>exact f1 ρ1 H1 (Pre.refl _) (Ext.refl _ _) r1⟩⟩
theorem SW.sc (h:SW X EX e ka):SC X EX e ka:=⟨PW.pt h.h⟩
theorem z31 (ha:SC X EX a ka):SC X EX (.UnaryOp .Not a pos) (cNot ka) :=
 ⟨PT.imp (zb1 ha.h) λσ H Q ⟨ρ,γ,h,rel,fin⟩=>⟨ρ,γ,h,rel,(Fin.bind fin).mono λt ρ1 h1 H1 p1 e1 r1 f1=>f1 ρ1 H1 (Pre.refl _) (Ext.refl _ _) r1⟩⟩
def truD:D->M Bool
 | .non=>pure false
 | .bl b=>pure b
 | .int i=>pure (i != 0)
 | .str y=>if y.length<=sizeLine then pure (decide (y.length≠0)) else bad
 | .tup xs=>pure (!xs.isEmpty)
 | .fl xs=>pure (!xs.isEmpty)
 | .ref n=>do
  let xs <- getL n
  pure (!xs.isEmpty)
def cVal (ma:G->M D):G->M Bool:=λγ=>do
 let x <- ma γ
 truD x
theorem isE {K:K0}{ρ:List Addr}{H:Hp}{ds:List D}{xs:List V}(h:RDs K ρ H ds xs):ds.isEmpty=xs.isEmpty:=by
 have:=h.length;cases ds<;>cases xs<;>simp at this ⊢
theorem z8j {ρ:List Addr}{h:AH}{H:Hp}{x:D}{v:V}{Q:Bool->Hp->Prop}(r:RH X.K ρ h H) (rx:RD X.K ρ H x v) (f:Fin X.K EX ρ H (λb _ _ H'=>Q b H') (truD x h)):∃k,TruV X.K v H k/\Q k H:=by
 cases x with
 | non=>simp only[RD]at rx;subst rx;exact⟨false,rfl,f ρ H (Pre.refl _) (Ext.refl _ _) r⟩
 | bl b=>simp only[RD]at rx;subst rx;exact⟨b,rfl,f ρ H (Pre.refl _) (Ext.refl _ _) r⟩
 | int b=>simp only[RD]at rx;subst rx;exact⟨_,rfl,f ρ H (Pre.refl _) (Ext.refl _ _) r⟩
 | str y =>
  simp only[RD]at rx;subst rx;have f':Fin X.K EX ρ H (λb _ _ H'=>Q b H') ((if y.length<=sizeLine then pure (decide (y.length≠0)) else bad:M Bool) h):=f;by_cases hl:y.length<=sizeLine
  ·rw[if_pos hl]at f';refine⟨decide (y.length≠0),⟨hl,?_⟩,f' ρ H (Pre.refl _) (Ext.refl _ _) r⟩;rw[K18];simp
  ·rw[if_neg hl]at f';exact f'.elim
 | tup xs =>
  simp only[RD]at rx;obtain⟨a,vs,rfl,h1,h2⟩:=rx;exact⟨!xs.isEmpty,.inr (.inl ⟨vs,h1,by rw[isE h2]⟩),f ρ H (Pre.refl _) (Ext.refl _ _) r⟩
 | fl xs =>
  simp only[RD]at rx;obtain⟨a,vs,rfl,h1,h2⟩:=rx;exact⟨!xs.isEmpty,.inl ⟨vs,h1.sq,by rw[isE h2]⟩,f ρ H (Pre.refl _) (Ext.refl _ _) r⟩
 | ref n =>
  have f1:=Fin.bind f;cases e:getL n h with
  | bad=>rw[e]at f1;exact f1.elim
  | err z hz=>exact(z0r e).elim
  | ok xs h1 =>
   obtain⟨rfl,q1⟩:=z0u e;rw[e]at f1;have f2:=f1 ρ H (Pre.refl _) (Ext.refl _ _) r;simp only[RD]at rx;obtain⟨a,rfl,h2⟩:=rx;obtain⟨a1,n1,vs,o1,d1⟩:=r.at q1;rw[h2]at n1;cases n1;exact⟨!xs.isEmpty,.inl ⟨vs,SqL.of o1,by rw[isE d1]⟩,f2 ρ H (Pre.refl _) (Ext.refl _ _) r⟩
theorem z16 (ha:SE X EX a ma) (he:∀whole,isTrue a X.env whole=(do let v <- whole;K4k a.pos;K31 [v] (truthy v)):=by intro _;rfl):SC X EX a (cVal ma) :=
 ⟨PT.imp (z6y ha.h he) λσ H Q ⟨ρ,γ,h,rel,fin⟩=>⟨ρ,γ,h,rel,(Fin.bind fin).mono λx ρ1 h1 H1 p1 e1 r1 f1 v rv=>z8j r1 rv f1⟩⟩
def aNil:G->M (List D):=λ_=>pure []
def z5 (ma:G->M D) (mr:G->M (List D)):G->M (List D):=λγ=>do
 let x <- ma γ;let r <- mr γ
 pure (x::r)
variable {es:List Expr}{mr:G->M (List D)}
theorem z9:SA X EX [] aNil:=⟨PA.imp z2K λσ H Q ⟨ρ,γ,h,rel,fin⟩=>fin ρ H (Pre.refl _) (Ext.refl _ _) rel.h [] RDs.nil⟩
theorem z3 (ha:SE X EX a ma) (hr:SA X EX es mr) (hs:K07 (a::es) X.env=(false,eval a X.env)::K07 es X.env:=by first|exact z3w|exact z8A|exact z7z|exact z64|exact z4k|exact z2X|exact z69|exact z8I|exact z4p|exact z3x|rfl):SA X EX (a::es) (z5 ma mr) :=
 ⟨PA.imp (z1a ha.h hr.h hs) λσ H Q ⟨ρ,γ,h,rel,fin⟩=>⟨ρ,γ,h,rel,(Fin.bind fin).mono λx ρ1 h1 H1 p1 e1 r1 f1 v rv=>⟨ρ1,γ,h1,⟨rel.g.mono p1 e1,r1⟩,(Fin.bind f1).mono λds ρ2 h2 H2 p2 e2 r2 f2 vs rvs =>
  f2 ρ2 H2 (Pre.refl _) (Ext.refl _ _) r2 (v::vs) (RDs.cons (rv.mono p2 e2) rvs)⟩⟩⟩
def eTup (mr:G->M (List D)):G->M D:=λγ=>do
 let xs <- mr γ
 if xs.length<=sizeLine then pure (.tup xs) else bad
def eLst (mr:G->M (List D)):G->M D:=λγ=>do
 let xs <- mr γ
 newL xs
theorem z7b {k:Nat}(h:SA X EX es mr):SE X EX (.Tuple es k pos) (eTup mr) :=
 ⟨PE.imp (z9m h.h) λσ H Q ⟨ρ,γ,h,rel,fin⟩=>⟨ρ,γ,h,rel,(Fin.bind fin).mono λxs ρ1 h1 H1 p1 e1 r1 f1 vs rvs=>by
  by_cases hl:xs.length<=sizeLine
  ·rw[if_pos hl]at f1;exact⟨by rw[<- rvs.length];exact hl,λp hp=>FE.tup (h:=h1) f1 r1 rvs hp⟩
  ·rw[if_neg hl]at f1;exact(show False from f1).elim⟩⟩
theorem z0m (h:SA X EX es mr):SE X EX (.List es pos) (eLst mr) :=
 ⟨PE.imp (zg5 h.h) λσ H Q ⟨ρ,γ,h,rel,fin⟩=>⟨ρ,γ,h,rel,(Fin.bind fin).mono λxs ρ1 h1 H1 p1 e1 r1 f1 vs rvs=>by
  unfold newL at f1;split at f1
  ·rename_i hl;exact⟨by rw[<- rvs.length];exact hl,λp hp=>FE.lst (h:=h1) f1 r1 rvs hp⟩
  ·exact(show False from f1).elim⟩⟩
def fIx:D->D->M D
 | .str z,.int i=>if z.length<=sizeLine then (match atI z.cps.toList i with
  | some c=>pure (.str ⟨#[c]⟩)
  | none=>bad) else bad
 | x,.int i=>do
  let xs <- seqD x
  match atI xs i with
  | some d=>pure d
  | none=>bad
 | _,_=>bad
theorem z8y {K:K0}{ρ:List Addr}{H:Hp}{ds:List D}{xs:List V}{i:Int}{d:D}(h:RDs K ρ H ds xs) (e:atI ds i=some d):∃x,atI xs i=some x/\RD K ρ H d x:=by
 unfold atI at e ⊢;rw[<- h.length];cases q:ixN ds.length i with
 | none=>rw[q]at e;cases e
 | some j=>rw[q]at e;exact h.get e
theorem zm5:BR X.K EX (rIx X.K) fIx:=by
 intro ρ h H x y v u Q r rx ry fin;unfold fIx at fin;split at fin
 ·simp only[RD]at rx ry;subst rx;subst ry;rename_i z i;by_cases hl:z.length<=sizeLine
  ·rw[if_pos hl]at fin;cases hc:atI z.cps.toList i with
   | none=>rw[hc]at fin;exact fin.elim
   | some c =>
    rw[hc]at fin;exact .inr (.inr ⟨_,_,c,rfl,rfl,hl,hc,FE.here fin r (by simp[RD])⟩)
  ·rw[if_neg hl]at fin;exact fin.elim
 ·rename_i i _;simp only[RD]at ry;subst ry;have f1:=Fin.bind fin;cases e:seqD x h with
  | bad=>rw[e]at f1;exact f1.elim
  | err z hz=>exact(z1H e).elim
  | ok ys h1 =>
   obtain⟨rfl,p,xs,rfl,hs,hd⟩:=z18 r rx e;rw[e]at f1;have f2:=f1 ρ H (Pre.refl _) (Ext.refl _ _) r;dsimp only at f2;cases q:atI ys i with
   | none=>rw[q]at f2;exact f2.elim
   | some d =>
    rw[q]at f2;obtain⟨w,h2,h3⟩:=z8y hd q;rcases hs with hs|hs
    ·exact .inl ⟨p,xs,i,w,rfl,rfl,hs,h2,FE.here f2 r h3⟩
    ·exact .inr (.inl ⟨p,xs,i,w,rfl,rfl,hs,h2,FE.here f2 r h3⟩)
 ·exact fin.elim
theorem y6 (ha:SE X EX a ma) (hb:SE X EX b mb) (hs:z5p b:=by intro _ _;rfl):SE X EX (.Subscript a b pos) (e2 fIx ma mb) :=
 z54 (ta:=tE X.K EX ma) (tb:=tE X.K EX mb) (zi8 z9O ha.h hb.h hs) zm5
end
section
variable {X:Cx}{EX:XX}{a b c e:Expr}{pos p p2:Pos}{ma mb mc:G->M D}{es:List Expr}{mr:G->M (List D)}
def AR (K:K0) (EX:XX) (r:List V->Hp->VK->Prop) (f:List D->M D):Prop:=∀ρ h H ds vs Q,RH K ρ h H->RDs K ρ H ds vs->FE K EX ρ H Q (f ds h)->r vs H Q
def Z5 (f:List D->M D) (mr:G->M (List D)):G->M D:=λγ=>do
 let xs <- mr γ
 f xs
theorem z0I {r:List V->Hp->VK->Prop}{f:List D->M D}(h:PE X e (tCB r (tL X.K EX mr))) (hr:AR X.K EX r f):SE X EX e (Z5 f mr) :=
 ⟨PE.imp h λσ H Q ⟨ρ,γ,h,rel,fin⟩=>⟨ρ,γ,h,rel,(Fin.bind fin).mono λxs ρ1 h1 H1 p1 e1 r1 f1 vs rvs=>hr ρ1 h1 H1 xs vs Q r1 rvs f1⟩⟩
theorem rds1 {K:K0}{ρ:List Addr}{H:Hp}{d:D}{vs:List V}(h:RDs K ρ H [d] vs):∃v,vs=[v]/\RD K ρ H d v:=by
 simp only[RDs]at h;obtain⟨x,r,rfl,h2,rfl⟩:=h;exact⟨x,rfl,h2⟩
def fLen:List D->M D
 | [.str z]=>if z.length<=sizeLine then pure (.int z.length) else bad
 | [x]=>do
  let xs <- seqD x
  pure (.int xs.length)
 | _=>bad
theorem zc9:AR X.K EX (λxs H Q=>∃x n,xs=[x]/\LenV X.K x H n/\Q (.int n) H) fLen:=by
 intro ρ h H ds vs Q r rd fin;unfold fLen at fin;split at fin
 ·rename_i z;obtain⟨v,rfl,rv⟩:=rds1 rd;simp only[RD]at rv;subst rv;by_cases hl:z.length<=sizeLine
  ·rw[if_pos hl]at fin;exact⟨_,z.length,rfl,⟨hl,rfl⟩,FE.here fin r (by simp[RD])⟩
  ·rw[if_neg hl]at fin;exact fin.elim
 ·rename_i x _;obtain⟨v,rfl,rv⟩:=rds1 rd;have f1:=Fin.bind fin;cases e:seqD x h with
  | bad=>rw[e]at f1;exact f1.elim
  | err z hz=>exact(z1H e).elim
  | ok ys h1 =>
   obtain⟨rfl,p,xs,rfl,hs,hd⟩:=z18 r rv e;rw[e]at f1;have f2:=f1 ρ H (Pre.refl _) (Ext.refl _ _) r;refine⟨_,ys.length,rfl,?_,FE.here f2 r (by simp[RD])⟩;rw[hd.length];rcases hs with hs|hs
   ·exact .inl ⟨xs,hs,rfl⟩
   ·exact .inr ⟨xs,hs,rfl⟩
 ·exact fin.elim
theorem z0S (hg:Gl X "len") (hm:X.mg "len" = none) (ha:SA X EX [a] mr) (he:K07 [a] X.env=[(false,eval a X.env)]:=by rfl):SE X EX (.Call (.Name "len" p) [a] [] pos) (Z5 fLen mr) :=
 z0I (z0P z6j hg hm PySem.boot_len ha.h (by decide) (by decide) he rfl) zc9
def k9:List D->M D
 | [.tup xs]=>pure (.tup xs)
 | [x]=>do
  let xs <- seqD x
  pure (.tup xs)
 | _=>bad
theorem z6F:AR X.K EX (λxs H Q=>∃p ys,xs=[.ref p]/\((SqL X.K H p ys/\∀l,H l=none->Q (.ref l) (upd H l (.tup ys)))\/(SqT X.K H p ys/\Q (.ref p) H))) k9:=by
 intro ρ h H ds vs Q r rd fin;unfold k9 at fin;split at fin
 ·obtain⟨v,rfl,rv⟩:=rds1 rd;have rv':=rv;simp only[RD]at rv;obtain⟨q,xs,rfl,h1,h2⟩:=rv;exact⟨q,xs,rfl,.inr ⟨h1,FE.here fin r rv'⟩⟩
 ·rename_i x hx;obtain⟨v,rfl,rv⟩:=rds1 rd;have f1:=Fin.bind fin;cases e:seqD x h with
  | bad=>rw[e]at f1;exact f1.elim
  | err z hz=>exact(z1H e).elim
  | ok ys h1 =>
   obtain⟨rfl,q,xs,rfl,hs,hd⟩:=z18 r rv e;rw[e]at f1;have f2:=f1 ρ H (Pre.refl _) (Ext.refl _ _) r;refine⟨q,xs,rfl,?_⟩;rcases hs with hs|hs
   ·exact .inl ⟨hs,λl hl=>FE.tup f2 r hd hl⟩
   ·refine .inr ⟨hs,FE.here f2 r ?_⟩;simp only[RD];exact⟨q,xs,rfl,hs,hd⟩
 ·exact fin.elim
theorem Y8 (hg:Gl X "tuple") (hm:X.mg "tuple" = none) (ha:SA X EX [a] mr) (he:K07 [a] X.env=[(false,eval a X.env)]:=by rfl):SE X EX (.Call (.Name "tuple" p) [a] [] pos) (Z5 k9 mr) :=
 z0I (z1I z2w hg hm (by decide +kernel) ha.h (by decide) (by decide) he rfl) z6F
def z3e:List D->M D
 | [x]=>do
  let xs <- seqD x
  newL xs
 | _=>bad
theorem z8L:AR X.K EX (λxs H Q=>∃p ys,xs=[.ref p]/\(SqL X.K H p ys\/SqT X.K H p ys)/\∀l,H l=none->Q (.ref l) (upd H l (.lst ys))) z3e:=by
 intro ρ h H ds vs Q r rd fin;unfold z3e at fin;split at fin
 ·rename_i x;obtain⟨v,rfl,rv⟩:=rds1 rd;have f1:=Fin.bind fin;cases e:seqD x h with
  | bad=>rw[e]at f1;exact f1.elim
  | err z hz=>exact(z1H e).elim
  | ok ys h1 =>
   obtain⟨rfl,q,xs,rfl,hs,hd⟩:=z18 r rv e;rw[e]at f1;have f2:=f1 ρ H (Pre.refl _) (Ext.refl _ _) r;unfold newL at f2;dsimp only at f2;split at f2
   ·exact⟨q,xs,rfl,hs,λl hl=>FE.lst f2 r hd hl⟩
   ·exact f2.elim
 ·exact fin.elim
theorem z2E (hg:Gl X "list") (hm:X.mg "list" = none) (ha:SA X EX [a] mr) (he:K07 [a] X.env=[(false,eval a X.env)]:=by rfl):SE X EX (.Call (.Name "list" p) [a] [] pos) (Z5 z3e mr) :=
 z0I (z1I z2Q hg hm (by decide +kernel) ha.h (by decide) (by decide) he rfl) z8L
def tyD:D->M String
 | .non=>pure "NoneType"
 | .bl _=>pure "bool"
 | .int _=>pure "int"
 | .str _=>pure "str"
 | .tup _=>pure "tuple"
 | .fl _=>pure "list"
 | .ref n=>λh=>match h[n]? with
  | .(l _)=>.ok "list" h
  | some .dct=>.ok "dict" h
  | some (.dK _)=>.ok "dict" h
  | _=>.bad
def subT (t T:String):Bool:=t==T||(t=="bool"&&T=="int")
def tyNames:List String:=["NoneType","bool","int","str","tuple","list","dict"]
def tyAsked:List String:=["bool","int","str","tuple","list","dict"]
theorem z7C:tyNames.all (λt=>tyAsked.all λT=>decide (K4b [] (.type t) (.type T)=some (subT t T)))=true:=by decide +kernel
theorem z3V {K:K0}{t T:String}(h1:t∈tyNames) (h2:T∈tyAsked):K4b K (.type t) (.type T)=some (subT t T):=by
 have q:=z7C;rw[K1e]at q;have q2:=q t h1;rw[K1e]at q2;have q3:=q2 T h2;exact of_decide_eq_true q3
def fIsi (T:String):D->M D:=λx=>do
 let t <- tyD x
 pure (.bl (subT t T))
theorem z7E {pins:List (Addr×Obj)}{σ:L2.St}{H:Hp}{s:Shared}{E:Value->Shared->Prop}{Q:Value->Shared->Prop}{q:Addr}{c:Value}{k:Bool}{xs:List V}(I:Inv X pins σ H s) (h:SqT X.K H q xs) (e:K4b X.K (.type "tuple") c=some k) (hQ:∀tk,Q (.bool k) { s with toks:=tk }) :
 wpAny (model X.prog X.w) X.A (call (.builtin "isinstance") [.ref q,c]) Q E s:=by
 obtain⟨its,_,ht,_⟩:=I.tuple h;obtain⟨o,h1,h2,_⟩:=ht;exact K12 K83 I.kIn ⟨o,h1,h2⟩ e (λz=>nomatch z) hQ
theorem z7y {pins:List (Addr×Obj)}{σ:L2.St}{H:Hp}{s:Shared}{E:Value->Shared->Prop}{Q:Value->Shared->Prop}{q:Addr}{c:Value}{k:Bool}{xs:List V}(I:Inv X pins σ H s) (h:SqL X.K H q xs) (e:K4b X.K (.type "list") c=some k) (hQ:∀tk,Q (.bool k) { s with toks:=tk }) :
 wpAny (model X.prog X.w) X.A (call (.builtin "isinstance") [.ref q,c]) Q E s:=by
 obtain⟨its,_,ht,_⟩:=I.list h;obtain⟨o,n,h1,h2,_⟩:=ht;exact K12 K5y I.kIn ⟨o,h1,h2⟩ e (λz=>nomatch z) hQ
def TyV (K:K0) (H:Hp) (v:V) (t:String):Prop:=match v with
 | .non=>t = "NoneType"
 | .bl _=>t = "bool"
 | .int _=>t = "int"
 | .str _=>t = "str"
 | .ref q=>(t = "tuple"/\∃xs,SqT K H q xs)\/(t = "list"/\∃xs,SqL K H q xs)\/(t = "dict"/\(H q=some (dctO q)\/∃kvs,H q=some (.dK kvs)))
 | _=>False
theorem z6i {T:String}(hT:T∈tyAsked):CallR X (.builtin "isinstance") (λxs H Q=>∃x t,xs=[x,.ty T]/\TyV X.K H x t/\Q (.bl (subT t T)) H):=by
 intro pins s σ H xs us Q I r h;obtain⟨x,t,rfl,ty,q⟩:=h;obtain⟨u,w',rfl,rx,rt⟩:=vals2 r;cases rt;have fin:∀tk,EP X pins σ Q (.bool (subT t T)) { s with toks:=tk }:=λtk=>⟨.bl _,H,I.tok tk,rfl,q⟩;have tb:∀{z:V} {t':Value},z=x->TyOf X.K H z t'->t'=.type t->t∈tyNames->wpAny (model X.prog X.w) X.A (call (.builtin "isinstance") [u,.type T]) (EP X pins σ Q) X.xe s:=λ{z t'} e1 ty' e2 hn=>by
  subst e1;subst e2;exact z5s I rx ty' (z3V hn hT) fin
 cases x with
 | non=>exact tb rfl .non (by rw[show t = "NoneType" from ty]) (by rw[show t = "NoneType" from ty];decide)
 | bl y=>exact tb rfl (.bl y) (by rw[show t = "bool" from ty]) (by rw[show t = "bool" from ty];decide)
 | int y=>exact tb rfl (.int y) (by rw[show t = "int" from ty]) (by rw[show t = "int" from ty];decide)
 | str y=>exact tb rfl (.str y) (by rw[show t = "str" from ty]) (by rw[show t = "str" from ty];decide)
 | ref y =>
  cases rx;rcases(show (t = "tuple"/\∃xs,SqT X.K H y xs)\/(t = "list"/\∃xs,SqL X.K H y xs)\/(t = "dict"/\(H y=some (dctO y)\/∃kvs,H y=some (.dK kvs))) from ty) with ⟨rfl,xs,hs⟩|⟨rfl,xs,hs⟩|⟨rfl,hs|⟨kvs,hs⟩⟩
  ·exact z7E I hs (z3V (by decide) hT) fin
  ·exact z7y I hs (z3V (by decide) hT) fin
  ·exact K12 K5z I.kIn (I.hok y _ hs).1 (z3V (by decide) hT) (λz=>nomatch z) fin
  ·exact tb rfl (.dK hs) rfl (by decide)
 | byt y=>exact(show False from ty).elim
 | flt y=>exact(show False from ty).elim
 | ty y=>exact(show False from ty).elim
theorem z8b {K:K0}{ρ:List Addr}{h h1:AH}{H:Hp}{x:D}{v:V}{t:String}(r:RH K ρ h H) (rx:RD K ρ H x v) (e:tyD x h=.ok t h1):h1=h/\TyV K H v t:=by
 cases x with
 | non=>cases e;simp only[RD]at rx;subst rx;exact⟨rfl,rfl⟩
 | bl y=>cases e;simp only[RD]at rx;subst rx;exact⟨rfl,rfl⟩
 | int y=>cases e;simp only[RD]at rx;subst rx;exact⟨rfl,rfl⟩
 | str y=>cases e;simp only[RD]at rx;subst rx;exact⟨rfl,rfl⟩
 | tup y=>cases e;simp only[RD]at rx;obtain⟨q,xs,rfl,h2,_⟩:=rx;exact⟨rfl,.inl ⟨rfl,xs,h2⟩⟩
 | fl y=>cases e;simp only[RD]at rx;obtain⟨q,xs,rfl,h2,_⟩:=rx;exact⟨rfl,.inr (.inl ⟨rfl,xs,h2.sq⟩)⟩
 | ref n =>
  simp only[RD]at rx;obtain⟨q,rfl,h2⟩:=rx;unfold tyD at e;dsimp only at e;cases q1:h[n]? with
  | none=>rw[q1]at e;cases e
  | some ob =>
   rw[q1]at e;cases ob with
   | set ks=>cases e
   | dK kvs =>
    cases e;obtain⟨a1,n1,vs,o1,d1⟩:=r.at q1;rw[h2]at n1;cases n1;exact⟨rfl,.inr (.inr ⟨rfl,.inr ⟨_,o1⟩⟩)⟩
   | dF kvs=>cases e
   | exc c=>cases e
   | ins _ _=>cases e
   | lst ds =>
    cases e;obtain⟨a1,n1,vs,o1,d1⟩:=r.at q1;rw[h2]at n1;cases n1;exact⟨rfl,.inr (.inl ⟨rfl,vs,SqL.of o1⟩)⟩
   | dct =>
    cases e;obtain⟨a1,n1,o1⟩:=r.at q1;rw[h2]at n1;cases n1;exact⟨rfl,.inr (.inr ⟨rfl,.inl o1⟩)⟩
theorem zb0 {x:D}{h h1:AH}{z:Exn}(e:tyD x h=.err z h1):False:=by
 cases x with
 | ref n =>
  unfold tyD at e;dsimp only at e;split at e<;>cases e
 | _=>cases e
def eIsi (T:String) (ma:G->M D):G->M D:=λγ=>do
 let x <- ma γ
 fIsi T x
theorem z4I {T:Str}{T':String}(hg:Gl X "isinstance") (hm:X.mg "isinstance" = none) (hgT:Gl X T) (hmT:X.mg T=none) (hv:K3o T=some (.type T')) (hT:T'∈tyAsked) (ha:SE X EX a ma) (hn:T≠"__name__":=by decide) (hd:(T==("__debug__":Str))=false:=by decide)
 (he:K07 [a,.Name T p2] X.env=[(false,eval a X.env),(false,eval (.Name T p2) X.env)]:=by rfl) (he2:K07 [.Name T p2] X.env=[(false,eval (.Name T p2) X.env)]:=by rfl):SE X EX (.Call (.Name "isinstance" p) [a,.Name T p2] [] pos) (eIsi T' ma):=by
 constructor;have hA:PA X [a,.Name T p2] (z6Y (tE X.K EX ma) (z6Y (tC (.ty T')) tNil)):=z1a ha.h (z1a (z8c hgT hmT hv rfl hn hd) z2K he2) (by rw[he,he2]);refine PE.imp (z0P (z6i hT) hg hm (by decide +kernel) hA (by decide) (by decide) (by rw[he,he2]) (by rw[he2];rfl)) λσ H Q ⟨ρ,γ,h,rel,fin⟩=>⟨ρ,γ,h,rel,(Fin.bind fin).mono λx ρ1 h1 H1 p1 e1 r1 f1 v rv=>?_⟩;have f2:=Fin.bind f1;cases e:tyD x h1 with
 | bad=>rw[e]at f2;exact f2.elim
 | err z hz=>exact(zb0 e).elim
 | ok t h2 =>
  obtain⟨rfl,ty⟩:=z8b r1 rv e;rw[e]at f2;have f3:=f2 ρ1 H1 (Pre.refl _) (Ext.refl _ _) r1;exact⟨v,t,rfl,ty,FE.here f3 r1 (by simp[RD])⟩
def blsD:List D->Option (List Bool)
 | []=>some []
 | .bl b::r=>(blsD r).map (b::·)
 | _::_=>none
def fAll (any:Bool):List D->M D
 | [.ref n]=>do
  let xs <- getL n
  match blsD xs with
  | some bs=>pure (.bl (if any then bs.any id else bs.all id))
  | none=>bad
 | _=>bad
theorem z4L {K:K0}{ρ:List Addr}{H:Hp}:∀{xs:List D}{bs:List Bool}{vs:List V},blsD xs=some bs->RDs K ρ H xs vs->vs=bs.map V.bl
 | [],bs,vs,e,r=>by simp only[RDs]at r;cases e;subst r;rfl
 | x::xs,bs,vs,e,r=>by
  simp only[RDs]at r;obtain⟨v,r2,rfl,h1,h2⟩:=r;cases x<;>first|(simp only[blsD]at e;cases e;done)|skip
  rename_i b;simp only[blsD]at e;obtain⟨bs',e1,rfl⟩:=K1b.mp e;simp only[RD]at h1;subst h1;rw[z4L e1 h2];rfl
theorem z3P:∀{bs:List Bool}{us:List Value},Vals (bs.map V.bl) us->us=bs.map K7y
 | [],us,h=>by cases h;rfl
 | b::bs,us,h=>by
  cases h with
  | cons h1 h2=>cases h1;rw[z3P h2];rfl
theorem range_all {bs:List Bool}:((K0u bs.length).all λi=>bs.getD i false)=bs.all id:=by
 rw[K18,K1e,K1e];constructor
 ·intro h x hx;obtain⟨i,hi,rfl⟩:=K2e hx;have:=h i (K1x.mpr hi);simpa [K7j,hi] using this
 ·intro h i hi;have hi':=K1x.mp hi;have:=h bs[i] (K4r hi');simpa [K7j,hi'] using this
theorem range_any {bs:List Bool}:((K0u bs.length).any λi=>bs.getD i false)=bs.any id:=by
 rw[K18,K4s,K4s];constructor
 ·rintro⟨i,hi,h⟩;have hi':=K1x.mp hi;refine⟨bs[i],K4r hi',?_⟩;simpa [K7j,hi'] using h
 ·rintro⟨x,hx,h⟩;obtain⟨i,hi,rfl⟩:=K2e hx;exact⟨i,K1x.mpr hi,by simpa [K7j,hi] using h⟩
theorem z3f (any:Bool) (hc:X.calm=true):CallR X (.builtin (if any then "any" else "all")) (λxs H Q=>∃(q:Addr) (bs:List Bool),xs=[.ref q]/\SqL X.K H q (bs.map V.bl)/\Q (.bl (if any then bs.any id else bs.all id)) H):=by
 intro pins s σ H xs us Q I r h;obtain⟨q,bs,rfl,hq,hQ⟩:=h;obtain⟨u,rfl,ru⟩:=vals1 r;cases ru;obtain⟨its,rv,pl,hz⟩:=I.list hq;have ei:=z3P rv;have ne:q≠s.heap.objs.size:=K0q (by obtain⟨o,n,e,_⟩:=pl;exact K09 e);have pl':=pl.isList;have hwalk:=Walks.list (prog:=X.prog) (w:=X.w) (A:=X.A.in1) (show X.A.in1.handled=none from I.ok.hd hc) s.heap.objs.size q ne its.toArray;have len:its.toArray.size=bs.length:=by rw[ei];simp
 have st0:(s.heap.push { cls:=.type "list_iterator",data:=.fields #[.ref q,.int 0 0] }).IsListIter s.heap.objs.size q 0/\(s.heap.push { cls:=.type "list_iterator",data:=.fields #[.ref q,.int 0 0] }).IsList q its.toArray :=
  ⟨⟨_,K0l _ rfl,rfl,rfl⟩,pl'.at λo e=>K8 _ e⟩
 have tr:TruthOf X.prog X.w X.A.in1 (λi v=>its.toArray[i]?=some v) λi=>bs.getD i false:=λi v s' Q' E' hv hq'=>by
  have hv':its[i]?=some v:=by simpa using hv
  rw[ei,K0n]at hv';cases eb:bs[i]? with
  | none=>rw[eb]at hv';cases hv'
  | some b =>
   rw[eb]at hv';cases hv';have:bs.getD i false=b:=by simp[K7j,eb]
   dsimp only at hq';rw[this]at hq';exact K2u hq'
 have fin:∀k,k=(if any then bs.any id else bs.all id)->∀h' tk,(∀b o,b∉[s.heap.objs.size]->(s.heap.push { cls:=.type "list_iterator",data:=.fields #[.ref q,.int 0 0] }).get? b=some o->h'.get? b=some o) ->
  EP X pins σ Q (.bool k) { s with heap:=h',toks:=tk }:=λk ek h' tk hk=>by
  subst ek;refine⟨.bl _,H,I.kept λb o e=>hk b o ?_ (K8 _ e),rfl,hQ⟩;intro z;have:b=s.heap.objs.size:=by simpa using z
  exact absurd (K09 e) (by rw[this];exact K2i _)
 cases any with
 | false =>
  refine call_all_walk (K62 pl' ⟨_,_,_,_,_,_,_,rfl,hwalk,st0,tr,λh' tk hk=>?_⟩);exact fin _ (by rw[len];exact range_all) h' tk hk
 | true =>
  refine call_any_walk (K62 pl' ⟨_,_,_,_,_,_,_,rfl,hwalk,st0,tr,λh' tk hk=>?_⟩);exact fin _ (by rw[len];exact range_any) h' tk hk
theorem z9g {any:Bool}:AR X.K EX (λxs H Q=>∃(q:Addr) (bs:List Bool),xs=[.ref q]/\SqL X.K H q (bs.map V.bl)/\Q (.bl (if any then bs.any id else bs.all id)) H) (fAll any):=by
 intro ρ h H ds vs Q r rd fin;unfold fAll at fin;split at fin
 ·rename_i n;obtain⟨v,rfl,rv⟩:=rds1 rd;have f1:=Fin.bind fin;cases e:getL n h with
  | bad=>rw[e]at f1;exact f1.elim
  | err z hz=>exact(z0r e).elim
  | ok xs h1 =>
   obtain⟨rfl,q1⟩:=z0u e;rw[e]at f1;have f2:=f1 ρ H (Pre.refl _) (Ext.refl _ _) r;dsimp only at f2;cases eb:blsD xs with
   | none=>rw[eb]at f2;exact f2.elim
   | some bs =>
    rw[eb]at f2;simp only[RD]at rv;obtain⟨q,rfl,h2⟩:=rv;obtain⟨a1,n1,vs,o1,d1⟩:=r.at q1;rw[h2]at n1;cases n1;have ev:=z4L eb d1;subst ev;exact⟨q,bs,rfl,SqL.of o1,FE.here f2 r (by simp[RD])⟩
 ·exact fin.elim
theorem za4 (hc:X.calm=true) (hg:Gl X "any") (hm:X.mg "any" = none) (ha:SA X EX [a] mr) (he:K07 [a] X.env=[(false,eval a X.env)]:=by rfl):SE X EX (.Call (.Name "any" p) [a] [] pos) (Z5 (fAll true) mr) :=
 z0I (z0P (z3f true hc) hg hm (by decide +kernel) ha.h (by decide) (by decide) he rfl) z9g
end
abbrev EX0:XX:=λ_ _ _ _=>False
def spB (K:K0) (mf:List D->M D) (n:Nat):Sp:=λvs H Q _=>vs.length=n/\∃ρ ds h,RH K ρ h H/\RDs K ρ H ds vs/\FE K EX0 ρ H Q (mf ds h)
structure Fn (P:K0a) (w:World) (K:K0) (mg:Str->Option Value) (base:Heap) (k:Nat) (x:Str) (n:Nat) (mf:List D->M D):Prop where
 ex:∃f fd ps,FnOk P w K mg base CX0 k f fd ps (spB K mf n)/\Binds K fd ps []/\K10 K (.ref f)=true/\mg x=.(r f)
theorem Fn.up {P:K0a}{w:World}{K:K0}{mg:Str->Option Value}{base:Heap}{j k:Nat}{x:Str}{n:Nat}{mf:List D->M D}(F:Fn P w K mg base j x n mf) (h:j<=k):Fn P w K mg base k x n mf:=by
 obtain⟨f,fd,ps,h1,h2,h3,h4⟩:=F.ex;exact⟨f,fd,ps,h1.mono h,h2,h3,h4⟩
def eFn (n:Nat) (mf:List D->M D) (mr:G->M (List D)):G->M D:=λγ=>do
 let xs <- mr γ
 if xs.length=n then mf xs else bad
section
variable {X:Cx}{a b c e:Expr}{pos p p2:Pos}{ma mb mc:G->M D}{es:List Expr}{mr:G->M (List D)}{k n:Nat}{x:Str}{mf:List D->M D}
theorem Z4 (F:Fn X.prog X.w X.K X.mg X.base k x n mf) (hr:Room k X.A) (hg:Gl X x) (ha:SA X EX0 (a::es) mr) (hdb:(x==("__debug__":Str))=false:=by decide)
 (he:K07 (a::es) X.env=(false,eval a X.env)::K07 es X.env:=by rfl) (hpl:(backTo pos (K07 es X.env)).any (·.1)=false:=by rfl):SE X EX0 (.Call (.Name x p) (a::es) [] pos) (eFn n mf mr):=by
 constructor;obtain⟨f,fd,ps,h1,h2,h3,h4⟩:=F.ex;refine PE.imp (z7v h1 hr hg h4 h3 h2 .nil zb7 ha.h hdb he hpl) λσ H Q ⟨ρ,γ,h,rel,fin⟩=>⟨ρ,γ,h,rel,(Fin.bind fin).mono λxs ρ1 h1 H1 p1 e1 r1 f1 vs rvs=>?_⟩;show spB X.K mf n (vs++[]) H1 Q E0;rw[K2c];by_cases hl:xs.length=n
 ·rw[if_pos hl]at f1;exact⟨by rw[<- rvs.length];exact hl,ρ1,xs,h1,r1,rvs,f1⟩
 ·rw[if_neg hl]at f1;exact(show False from f1).elim
end
def z07 (n:Nat) (ds:List D):G:=ds.map some++K02 (n - ds.length) none
def runF (n:Nat) (mb:G->M Out) (ds:List D):M D:=do
 let o <- mb (z07 n ds)
 match o with
 | .nx _=>pure .non
 | .rt d=>pure d
 | _=>bad
section
variable {P:K0a}{w:World}{K:K0}{mg:Str->Option Value}{base:Heap}
theorem z1X {ρ:List Addr}{H:Hp}{N:List Str}{ds:List D}{vs:List V}(h:RDs K ρ H ds vs):RG K ρ H (z07 N.length ds) (L2.start N vs):=by
 have hl:=h.length;refine⟨by unfold z07 L2.start;simp[hl],λi d e=>?_⟩;unfold z07 at e;unfold L2.start;rw[K2s]at e ⊢;rw[K0j]at e ⊢;rw[<- hl];split at e
 ·rename_i hi;rw[if_pos hi];rw[K0n]at e ⊢;cases q:ds[i]? with
  | none=>rw[q]at e;cases e
  | some d' =>
   rw[q]at e;cases e;obtain⟨v,h1,h2⟩:=h.get q;exact⟨v,by rw[h1];rfl,h2⟩
 ·rw[K33]at e;split at e<;>cases e
end
section
variable {env:Env}{t:Option Expr}{l:Nat}{tg:List Expr}
theorem z50 {a p}:K1p (.List a p) t l env=pure false:=rfl
theorem z3H {a b p}:K1p (.Tuple a b p) t l env=pure false:=rfl
theorem z1W {c k p}:K1p (.Constant c k p) t l env=pure false:=rfl
theorem z5e {c p}:K1p (.Name c p) t l env=pure false:=rfl
theorem z5q {a b c p}:K1p (.Call a b c p) t l env=pure false:=rfl
theorem z40 {a b c p}:K1p (.BinOp a b c p) t l env=pure false:=rfl
theorem z2f {a b c p}:K1p (.Compare a b c p) t l env=pure false:=rfl
theorem z1q {a b p}:K1p (.Subscript a b p) t l env=pure false:=rfl
theorem z2i {a b p}:K1p (.UnaryOp a b p) t l env=pure false:=rfl
theorem z2R {a b p}:K1p (.BoolOp a b p) t l env=pure false:=rfl
theorem z4b {a b c p}:K1p (.IfExp a b c p) t l env=pure false:=rfl
end
section
variable {X:Cx}{EX:XX}{a b c e:Expr}{pos p p2:Pos}{ma mb mc:G->M D}{ka kb kc:G->M Bool}{st:Stmt}{sts:List Stmt}{ms mt:G->M Out}
def bNil:G->M Out:=λγ=>pure (.nx γ)
def z6 (ms mt:G->M Out):G->M Out:=λγ=>do
 let o <- ms γ
 match o with
 | .nx γ'=>mt γ'
 | o=>pure o
theorem Z1:SB X EX [] bNil:=⟨PSs.imp z8R λσ H D ⟨ρ,γ,h,rel,fin⟩=>fin ρ H (Pre.refl _) (Ext.refl _ _) rel.h σ rel.g⟩
theorem z4 (h1:S1 X EX st ms) (h2:SB X EX sts mt):SB X EX (st::sts) (z6 ms mt) :=
 ⟨PSs.imp (z6p h1.h h2.h) λσ H D ⟨ρ,γ,h,rel,fin⟩=>⟨ρ,γ,h,rel,(Fin.bind fin).mono λo ρ1 h1 H1 p1 e1 r1 f1=>by
  cases o with
  | nx γ'=>exact λσ' rg=>⟨ρ1,γ',h1,⟨rg,r1⟩,f1⟩
  | rt d=>exact f1 ρ1 H1 (Pre.refl _) (Ext.refl _ _) r1
  | bk γ'=>exact f1 ρ1 H1 (Pre.refl _) (Ext.refl _ _) r1
  | ct γ'=>exact f1 ρ1 H1 (Pre.refl _) (Ext.refl _ _) r1⟩⟩
def sRet (ma:G->M D):G->M Out:=λγ=>do
 let d <- ma γ
 pure (.rt d)
theorem z08 (ha:SE X EX a ma):S1 X EX (.Return (some a) pos) (sRet ma) :=
 ⟨PS.imp (zb4 ha.h) λσ H D ⟨ρ,γ,h,rel,fin⟩=>⟨ρ,γ,h,rel,(Fin.bind fin).mono λd ρ1 h1 H1 p1 e1 r1 f1 v rv=>f1 ρ1 H1 (Pre.refl _) (Ext.refl _ _) r1 v rv⟩⟩
def z0z (ma:G->M D):G->M Out:=λγ=>do
 let _ <- ma γ
 pure (.nx γ)
theorem z1P (ha:SE X EX a ma) (hs:K1p a none pos.line X.env=pure false:=by first|exact z50|exact z3H|exact z1W|exact z5e|exact z5q|exact z40|exact z2f|exact z1q|exact z2i|exact z2R|exact z4b|rfl):S1 X EX (.Expr a pos) (z0z ma) :=
 ⟨PS.imp (z8C ha.h hs) λσ H D ⟨ρ,γ,h,rel,fin⟩=>⟨ρ,γ,h,rel,(Fin.bind fin).mono λd ρ1 h1 H1 p1 e1 r1 f1 v rv=>f1 ρ1 H1 (Pre.refl _) (Ext.refl _ _) r1 σ (rel.g.mono p1 e1)⟩⟩
def sIf (k:G->M Bool) (ms mt:G->M Out):G->M Out:=λγ=>do
 let t <- k γ
 if t then ms γ else mt γ
theorem s_if {sts':List Stmt}(hc:SC X EX c kc) (h1:SB X EX sts ms) (h2:SB X EX sts' mt):S1 X EX (.If c sts sts' pos) (sIf kc ms mt) :=
 ⟨PS.imp (zl8 hc.h h1.h h2.h) λσ H D ⟨ρ,γ,h,rel,fin⟩=>⟨ρ,γ,h,rel,(Fin.bind fin).mono λt ρ1 h1 H1 p1 e1 r1 f1=>by
  cases t with
  | true=>exact⟨ρ1,γ,h1,⟨rel.g.mono p1 e1,r1⟩,f1⟩
  | false=>exact⟨ρ1,γ,h1,⟨rel.g.mono p1 e1,r1⟩,f1⟩⟩⟩
def tG (K:K0) (EX:XX) (m:D->G->M G):TG:=λv σ H Q=>∃ρ γ h d,Rel K ρ γ h σ H/\RD K ρ H d v/\Fin K EX ρ H (λγ' ρ' _ H'=>∀σ',RG K ρ' H' γ' σ'->Q σ' H') (m d γ h)
def tGs (K:K0) (EX:XX) (m:List D->G->M G):TGs:=λvs σ H Q=>∃ρ γ h ds,Rel K ρ γ h σ H/\RDs K ρ H ds vs/\Fin K EX ρ H (λγ' ρ' _ H'=>∀σ',RG K ρ' H' γ' σ'->Q σ' H') (m ds γ h)
structure SG (X:Cx) (EX:XX) (tg:Expr) (m:D->G->M G):Prop where
 h:PG X tg (tG X.K EX m)
structure SGs (X:Cx) (EX:XX) (tg:List Expr) (m:List D->G->M G):Prop where
 h:PGs X tg (tGs X.K EX m)
theorem PG.imp {X:Cx}{e:Expr}{t t':TG}(h:PG X e t) (f:∀v σ H Q,t' v σ H Q->t v σ H Q):PG X e t':=λpins s σ H v u Q I r z=>h pins s σ H v u Q I r (f v σ H Q z)
theorem PGs.imp {X:Cx}{e:List Expr}{t t':TGs}(h:PGs X e t) (f:∀v σ H Q,t' v σ H Q->t v σ H Q):PGs X e t':=λpins s σ H v u Q I r z=>h pins s σ H v u Q I r (f v σ H Q z)
def tGk (K:K0) (EX:XX) (own:List Nat) (m:D->G->M G):TG:=λv σ H Q=>∃ρ γ h d,Rel K ρ γ h σ H/\RD K ρ H d v/\Fin K EX ρ H (λγ' ρ' _ H'=>∀σ',RG K ρ' H' γ' σ'->(∀j:Nat,j∉own->σ'[j]?=σ[j]?)->Q σ' H') (m d γ h)
def tGks (K:K0) (EX:XX) (own:List Nat) (m:List D->G->M G):TGs:=λvs σ H Q=>∃ρ γ h ds,Rel K ρ γ h σ H/\RDs K ρ H ds vs/\Fin K EX ρ H (λγ' ρ' _ H'=>∀σ',RG K ρ' H' γ' σ'->(∀j:Nat,j∉own->σ'[j]?=σ[j]?)->Q σ' H') (m ds γ h)
structure SGk (X:Cx) (EX:XX) (tg:Expr) (own:List Nat) (m:D->G->M G):Prop where
 h:PG X tg (tGk X.K EX own m)
structure SGks (X:Cx) (EX:XX) (tg:List Expr) (own:List Nat) (m:List D->G->M G):Prop where
 h:PGs X tg (tGks X.K EX own m)
def gN (i:Nat):D->G->M G:=λd γ=>pure (γ.set i (some d))
theorem Y3 (i:Nat) {x:Str}(hN:X.N.Nodup) (hi:X.N[i]?=some x:=by rfl) (hx:Loc X.env.scope x:=by first|exact Or.inl rfl|exact Or.inr rfl) (hf:X.fn x=true\/X.env.scope.names.lookup x=some .local:=by first|exact .inl rfl|exact .inr rfl|assumption):SG X EX (.Name x pos) (gN i) :=
 ⟨PG.imp (z3s hN hi hx hf) λv σ H Q ⟨ρ,γ,h,d,rel,rd,fin⟩=>fin ρ H (Pre.refl _) (Ext.refl _ _) rel.h _ (rel.g.set i rd)⟩
theorem J8 (i:Nat) {x:Str}(hN:X.N.Nodup) (hi:X.N[i]?=some x:=by rfl) (hx:Loc X.env.scope x:=by first|exact Or.inl rfl|exact Or.inr rfl) (hf:X.fn x=true\/X.env.scope.names.lookup x=some .local:=by first|exact .inl rfl|exact .inr rfl|assumption):SGk X EX (.Name x pos) [i] (gN i) :=
 ⟨PG.imp (z3s hN hi hx hf) λv σ H Q ⟨ρ,γ,h,d,rel,rd,fin⟩=>fin ρ H (Pre.refl _) (Ext.refl _ _) rel.h _ (rel.g.set i rd) λj hj=>K1u (λz=>hj (by simp[z]))⟩
def z8w:List D->G->M G:=λds γ=>match ds with
 | []=>pure γ
 | _=>bad
def z42 (m:D->G->M G) (ms:List D->G->M G):List D->G->M G:=λds γ=>match ds with
 | []=>bad
 | d::r=>do
  let γ1 <- m d γ
  ms r γ1
theorem z7S:SGs X EX [] z8w:=⟨PGs.imp z7Z λv σ H Q ⟨ρ,γ,h,ds,rel,rd,fin⟩=>by
 cases ds with
 | nil=>simp only[RDs]at rd;exact⟨rd,fin ρ H (Pre.refl _) (Ext.refl _ _) rel.h σ rel.g⟩
 | cons d r=>exact(show False from fin).elim⟩
theorem z3U {es:List Expr}{m:D->G->M G}{mr:List D->G->M G}(h1:SG X EX e m) (h2:SGs X EX es mr) (hs:(K2y (e::es) X.env).map (·.2)=assign e X.env::(K2y es X.env).map (·.2):=by rfl):SGs X EX (e::es) (z42 m mr) :=
 ⟨PGs.imp (z6a h1.h h2.h hs) λvs σ H Q ⟨ρ,γ,h,ds,rel,rd,fin⟩=>by
  cases ds with
  | nil=>exact(show False from fin).elim
  | cons d r =>
   simp only[RDs]at rd;obtain⟨v,vr,rfl,h3,h4⟩:=rd;have fin':Fin X.K EX ρ H (λγ' ρ' _ H'=>∀σ',RG X.K ρ' H' γ' σ'->Q σ' H') ((m d γ >>= λγ1=>mr r γ1) h):=fin;exact⟨v,vr,rfl,ρ,γ,h,d,rel,h3,(Fin.bind fin').mono λγ1 ρ1 h1 H1 p1 e1 r1 f1 σ1 g1=>⟨ρ1,γ1,h1,r,⟨g1,r1⟩,h4.mono p1 e1,f1⟩⟩⟩
def gT (n:Nat) (m:List D->G->M G):D->G->M G:=λd γ=>match d with
 | .tup xs=>if xs.length=n then m xs γ else bad
 | _=>bad
theorem z9U {es:List Expr}{k n:Nat}{m:List D->G->M G}(hc:X.calm=true) (h:SGs X EX es m) (hn:(K2y es X.env).length=n:=by rfl) (hst:(K2y es X.env).findIdx? (·.1)=none:=by rfl):SG X EX (.Tuple es k pos) (gT n m) :=
 ⟨PG.imp (zf2 hc h.h hn hst) λv σ H Q ⟨ρ,γ,h,d,rel,rd,fin⟩=>by
  cases d<;>first|exact(show False from fin).elim|skip
  rename_i xs;simp only[RD]at rd;obtain⟨q,vs,rfl,h1,h2⟩:=rd;have fin':Fin X.K EX ρ H (λγ' ρ' _ H'=>∀σ',RG X.K ρ' H' γ' σ'->Q σ' H') ((if xs.length=n then m xs γ else bad) h):=fin;by_cases hl:xs.length=n
  ·rw[if_pos hl]at fin';exact⟨q,vs,rfl,h1,by rw[<- h2.length];exact hl,ρ,γ,h,xs,rel,h2,fin'⟩
  ·rw[if_neg hl]at fin';exact(show False from fin').elim⟩
def fSet:D->D->D->M Unit:=λo i v=>match o,i with
 | .ref n,.int k=>λh=>match h[n]? with
  | .(l xs)=>(match ixN xs.length k with
   | some j=>.ok () (h.set n (.lst (xs.set j v)))
   | none=>.bad)
  | _=>.bad
 | _,_=>bad
def gIx (mo mi:G->M D):D->G->M G:=λv γ=>do
 let o <- mo γ;let i <- mi γ;let _ <- fSet o i v
 pure γ
theorem z7W {o i:Expr}{mo mi:G->M D}(ho:SE X EX o mo) (hi:SE X EX i mi)
 (ha:∀v,assign (.Subscript o i pos) X.env v=(do
  let ov <- K31 [v] (eval o X.env);let iv <- K31 [v,ov] (eval i X.env)
  K4k pos
  K31 [v,ov,iv] (K7m ov iv v)
  release [v,ov,iv] []):=by intro _;rfl):SG X EX (.Subscript o i pos) (gIx mo mi) :=
 ⟨PG.imp (z7j ho.h hi.h set_list ha) λv σ H Q ⟨ρ,γ,h,d,rel,rd,fin⟩=>⟨ρ,γ,h,rel,(Fin.bind fin).mono λod ρ1 h1 H1 p1 e1 r1 f1 ov ro=>⟨ρ1,γ,h1,⟨rel.g.mono p1 e1,r1⟩,(Fin.bind f1).mono λid ρ2 h2 H2 p2 e2 r2 f2 iv ri=>by
  have f3:=Fin.bind f2;cases od<;>first|exact(show False from f3).elim|skip
  rename_i n;cases id<;>first|exact(show False from f3).elim|skip
  rename_i k;simp only[RD]at ro ri;obtain⟨q,rfl,hq⟩:=ro;subst ri;have hq2:=p2 n q hq;unfold fSet at f3;dsimp only at f3;cases e4:h2[n]? with
  | none=>rw[e4]at f3;exact(show False from f3).elim
  | some ob =>
   cases ob with
   | set ks=>rw[e4]at f3;exact(show False from f3).elim
   | dct=>rw[e4]at f3;exact(show False from f3).elim
   | dK kvs=>rw[e4]at f3;exact(show False from f3).elim
   | dF kvs=>rw[e4]at f3;exact(show False from f3).elim
   | exc c=>rw[e4]at f3;exact(show False from f3).elim
   | ins _ _=>rw[e4]at f3;exact(show False from f3).elim
   | lst xs =>
    rw[e4]at f3;dsimp only at f3;cases e5:ixN xs.length k with
    | none=>rw[e5]at f3;exact(show False from f3).elim
    | some j =>
     rw[e5]at f3;obtain⟨a1,n1,vs,o1,d1⟩:=r2.at e4;rw[hq2]at n1;cases n1;have rd2:=(rd.mono p1 e1).mono p2 e2;have dd:=d1.set j rd2;refine⟨q,vs,k,j,rfl,rfl,o1,by rw[<- d1.length];exact e5,?_⟩;have ext:Ext X.K H2 (upd H2 q (.lst (vs.set j v))):=Ext.upd (.inr ⟨_,o1,trivial⟩);have f4:=f3 ρ2 _ (Pre.refl _) ext (r2.set e4 hq2 dd);exact f4 ρ2 _ (Pre.refl _) (Ext.refl _ _) (r2.set e4 hq2 dd) σ (((rel.g.mono p1 e1).mono p2 e2).mono (Pre.refl _) ext)⟩⟩⟩
def sAsg (ma:G->M D) (g:D->G->M G):G->M Out:=λγ=>do
 let d <- ma γ;let γ1 <- g d γ
 pure (.nx γ1)
theorem z4P {tg:Expr}{g:D->G->M G}(ha:SE X EX a ma) (hg:SG X EX tg g) (hs:swapsWithSole [tg] a pos.line X.env=pure false:=by rfl) (hw:swappedStores [tg] a X.env=pure none:=by rfl)
 (h1:(K2y [tg] X.env).map (·.2)=[assign tg X.env]:=by rfl):S1 X EX (.Assign [tg] a pos) (sAsg ma g) :=
 ⟨PS.imp (zc8 ha.h hg.h hs hw h1) λσ H D ⟨ρ,γ,h,rel,fin⟩=>⟨ρ,γ,h,rel,(Fin.bind fin).mono λd ρ1 h1 H1 p1 e1 r1 f1 v rv=>⟨ρ1,γ,h1,d,⟨rel.g.mono p1 e1,r1⟩,rv,(Fin.bind f1).mono λγ1 ρ2 h2 H2 p2 e2 r2 f2 σ2 g2 =>
  f2 ρ2 H2 (Pre.refl _) (Ext.refl _ _) r2 σ2 g2⟩⟩⟩
theorem j3 (i:Nat) {x:Str}(hN:X.N.Nodup) (ha:SE X EX a ma) (hi:X.N[i]?=some x:=by rfl) (hx:Loc X.env.scope x:=by first|exact Or.inl rfl|exact Or.inr rfl) (hs:K1p a (some (.Name x p)) pos.line X.env=pure false:=by first|exact z50|exact z3H|exact z1W|exact z5e|exact z5q|exact z40|exact z2f|exact z1q|exact z2i|exact z2R|exact z4b|rfl)
 (hf:X.fn x=true\/X.env.scope.names.lookup x=some .local:=by first|exact .inl rfl|exact .inr rfl|assumption):S1 X EX (.Assign [.Name x p] a pos) (sAsg ma (gN i)) :=
 ⟨PS.imp (zg6 hN hi hx ha.h hs hf) λσ H D ⟨ρ,γ,h,rel,fin⟩=>⟨ρ,γ,h,rel,(Fin.bind fin).mono λd ρ1 h1 H1 p1 e1 r1 f1 v rv=>f1 ρ1 H1 (Pre.refl _) (Ext.refl _ _) r1 _ ((rel.g.mono p1 e1).set i rv)⟩⟩
end
section
variable {X:Cx}{EX:XX}{a o e:Expr}{pos cpos apos:Pos}{ma mo:G->M D}
def updL (n:Nat) (f:List D->Option (D×List D)):M D:=λh=>match h[n]? with
 | .(l xs)=>(match f xs with
  | some (d,ys)=>if ys.length<=sizeLine then .ok d (h.set n (.lst ys)) else .bad
  | none=>.bad)
 | _=>.bad
def z1d:D->M Nat
 | .ref n=>λh=>match h[n]? with
  | .(l _)=>.ok n h
  | _=>.bad
 | _=>bad
def Z9 (n:Nat) (v:D):M D:=updL n λxs=>some (.non,xs++[v])
def fPop (n:Nat):M D:=updL n λxs=>(xs[xs.length - 1]?).map λd=>(d,xs.dropLast)
def z2g (n:Nat) (i:D):M D:=match i with
 | .int k=>updL n λxs=>if -(2 ^ 63)<=k/\k<2 ^ 63 then (match K6a k xs.length with
  | some j=>(xs[j]?).map λd=>(d,xs.eraseIdx j)
  | none=>none) else none
 | _=>bad
def eM1 (f:Nat->D->M D) (mo ma:G->M D):G->M D:=λγ=>do
 let o <- mo γ;let n <- z1d o;let v <- ma γ
 f n v
def eM0 (f:Nat->M D) (mo:G->M D):G->M D:=λγ=>do
 let o <- mo γ;let n <- z1d o
 f n
theorem z2p {K:K0}{ρ:List Addr}{h:AH}{H:Hp}{Q:VK}{n:Nat}{q:Addr}{f:List D->Option (D×List D)}(r:RH K ρ h H) (hq:ρ[n]?=some q) (fin:FE K EX ρ H Q (updL n f h)) :
 ∃xs d ys vs,f xs=some (d,ys)/\ys.length<=sizeLine/\H q=.(l vs)/\RDs K ρ H xs vs/\∀v ws,RD K ρ H d v->RDs K ρ H ys ws->Q v (upd H q (.lst ws)):=by
 unfold updL at fin;cases e:h[n]? with
 | none=>rw[e]at fin;exact fin.elim
 | some ob =>
  cases ob with
  | set ks=>rw[e]at fin;exact fin.elim
  | dct=>rw[e]at fin;exact fin.elim
  | dK kvs=>rw[e]at fin;exact fin.elim
  | dF kvs=>rw[e]at fin;exact fin.elim
  | exc c=>rw[e]at fin;exact fin.elim
  | ins _ _=>rw[e]at fin;exact fin.elim
  | lst xs =>
   rw[e]at fin;dsimp only at fin;cases e2:f xs with
   | none=>rw[e2]at fin;exact fin.elim
   | some dy =>
    obtain⟨d,ys⟩:=dy;rw[e2]at fin;dsimp only at fin;split at fin
    ·rename_i hl;obtain⟨a1,n1,vs,o1,d1⟩:=r.at e;rw[hq]at n1;cases n1;refine⟨xs,d,ys,vs,e2,hl,o1,d1,λv ws rv rw'=>?_⟩;have ext:Ext K H (upd H q (.lst ws)):=Ext.upd (.inr ⟨_,o1,trivial⟩);exact fin ρ _ (Pre.refl _) ext (r.set e hq rw') v (rv.mono (Pre.refl _) ext)
    ·exact fin.elim
theorem z5F {K:K0}{ρ:List Addr}{h:AH}{H:Hp}{n:Nat}{q:Addr}{Z:Nat->List Addr->AH->Hp->Prop}(r:RH K ρ h H) (hq:ρ[n]?=some q) (f:Fin K EX ρ H Z (z1d (.ref n) h)):tyV K "list" (.ref q) H/\Z n ρ h H:=by
 unfold z1d at f;dsimp only at f;cases e:h[n]? with
 | none=>rw[e]at f;exact f.elim
 | some ob =>
  cases ob with
  | set ks=>rw[e]at f;exact f.elim
  | dct=>rw[e]at f;exact f.elim
  | dK kvs=>rw[e]at f;exact f.elim
  | dF kvs=>rw[e]at f;exact f.elim
  | exc c=>rw[e]at f;exact f.elim
  | ins _ _=>rw[e]at f;exact f.elim
  | lst xs =>
   rw[e]at f;obtain⟨a1,n1,vs,o1,d1⟩:=r.at e;rw[hq]at n1;cases n1;exact⟨.inl ⟨rfl,vs,SqL.of o1⟩,f ρ H (Pre.refl _) (Ext.refl _ _) r⟩
theorem z9D {f:Nat->D->M D}{r:V->List V->Hp->VK->Prop}(hr:∀ρ h H n q y u Q,RH X.K ρ h H->ρ[n]?=some q->RD X.K ρ H y u->FE X.K EX ρ H Q (f n y h)->r (.ref q) [u] H Q) :
 ∀σ H Q,tE X.K EX (eM1 f mo ma) σ H Q->tBM X.K "list" r (tE X.K EX mo) (z6Y (tE X.K EX ma) tNil) σ H Q:=λσ H Q ⟨ρ,γ,h,rel,fin⟩=>⟨ρ,γ,h,rel,(Fin.bind fin).mono λx ρ1 h1 H1 p1 e1 r1 f1 v rv=>by
 have f2:=Fin.bind f1;cases x<;>first|exact(show False from f2).elim|skip
 rename_i n;simp only[RD]at rv;obtain⟨q,rfl,hq⟩:=rv;obtain⟨lt,f3⟩:=z5F r1 hq f2;exact⟨lt,ρ1,γ,h1,⟨rel.g.mono p1 e1,r1⟩,(Fin.bind f3).mono λy ρ2 h2 H2 p2 e2 r2 f4 u ru=>hr ρ2 h2 H2 n q y u Q r2 (p2 n q hq) ru f4⟩⟩
theorem zi0 {f:Nat->M D}{r:V->List V->Hp->VK->Prop}(hr:∀ρ h H n q Q,RH X.K ρ h H->ρ[n]?=some q->FE X.K EX ρ H Q (f n h)->r (.ref q) [] H Q) :
 ∀σ H Q,tE X.K EX (eM0 f mo) σ H Q->tBM0 X.K "list" r (tE X.K EX mo) σ H Q:=λσ H Q ⟨ρ,γ,h,rel,fin⟩=>⟨ρ,γ,h,rel,(Fin.bind fin).mono λx ρ1 h1 H1 p1 e1 r1 f1 v rv=>by
 have f2:=Fin.bind f1;cases x<;>first|exact(show False from f2).elim|skip
 rename_i n;simp only[RD]at rv;obtain⟨q,rfl,hq⟩:=rv;obtain⟨lt,f3⟩:=z5F r1 hq f2;exact⟨lt,hr ρ1 h1 H1 n q Q r1 hq f3⟩⟩
theorem z0j (ho:SE X EX o mo) (ha:SE X EX a ma)
 (hbase:K3d o "append" X.env (eval o X.env)=eval o X.env:=by rfl)
 (hfew:((backTo cpos (K07 [a] X.env)).all (λx=>!x.1)&&(K5j cpos (K3i [] X.env)).all (λx=>x.1.isSome)
 &&decide (([a]:List Expr).length+([]:List K3f).length+(if ([]:List K3f).isEmpty then 0 else 1)<30))=true:=by rfl)
 (hline:(apos.endLine==cpos.line)=true:=by rfl) (hs:K07 [a] X.env=[(false,eval a X.env)]:=by rfl) :
 SE X EX (.Call (.Attribute o "append" apos) [a] [] cpos) (eM1 Z9 mo ma) :=
 ⟨PE.imp (zh0 K44 PySem.F.slot_list_append PySem.F.type_list_append z2H ho.h (z1a ha.h z2K hs) hbase hfew hline hs rfl) (z9D λρ h H n q y u Q r hq ru fin=>by
  obtain⟨xs,d,ys,vs,g1,g2,g3,g4,g5⟩:=z2p r hq fin;cases g1;have hl:=g4.length;rw[K9,K0d]at g2;exact⟨q,vs,u,rfl,rfl,g3,by omega,g5 _ _ (by simp[RD]) (g4.append (RDs.cons ru RDs.nil))⟩)⟩
theorem RDs.dropLast {K:K0}{ρ:List Addr}{H:Hp}{ds:List D}{xs:List V}(h:RDs K ρ H ds xs):RDs K ρ H ds.dropLast xs.dropLast:=by
 rw[K76,K76,h.length];exact h.take _
theorem zd7 (ho:SE X EX o mo) (hbase:K3d o "pop" X.env (eval o X.env)=eval o X.env:=by rfl) (hline:(apos.endLine==cpos.line)=true:=by rfl) :
 SE X EX (.Call (.Attribute o "pop" apos) [] [] cpos) (eM0 fPop mo) :=
 ⟨PE.imp (ze2 K44 K72 K71 z9T ho.h hbase hline) (zi0 λρ h H n q Q r hq fin=>by
  obtain⟨xs,d,ys,vs,g1,g2,g3,g4,g5⟩:=z2p r hq fin;obtain⟨d',e1,e2⟩:=K1b.mp g1;cases e2;obtain⟨v,e3,e4⟩:=g4.get e1;rw[g4.length]at e3;exact⟨q,vs,v,rfl,rfl,g3,e3,g5 _ _ e4 g4.dropLast⟩)⟩
theorem z6W (ho:SE X EX o mo) (ha:SE X EX a ma)
 (hbase:K3d o "pop" X.env (eval o X.env)=eval o X.env:=by rfl)
 (hfew:((backTo cpos (K07 [a] X.env)).all (λx=>!x.1)&&(K5j cpos (K3i [] X.env)).all (λx=>x.1.isSome)
 &&decide (([a]:List Expr).length+([]:List K3f).length+(if ([]:List K3f).isEmpty then 0 else 1)<30))=true:=by rfl)
 (hline:(apos.endLine==cpos.line)=true:=by rfl) (hs:K07 [a] X.env=[(false,eval a X.env)]:=by rfl) :
 SE X EX (.Call (.Attribute o "pop" apos) [a] [] cpos) (eM1 z2g mo ma) :=
 ⟨PE.imp (zh0 K44 K72 K71 z6N ho.h (z1a ha.h z2K hs) hbase hfew hline hs rfl) (z9D λρ h H n q y u Q r hq ru fin=>by
  cases y<;>first|exact(show False from fin).elim|skip
  rename_i k;simp only[RD]at ru;subst ru;obtain⟨xs,d,ys,vs,g1,g2,g3,g4,g5⟩:=z2p r hq fin;split at g1
  ·rename_i hk;cases e5:K6a k xs.length with
   | none=>rw[e5]at g1;cases g1
   | some j =>
    rw[e5]at g1;obtain⟨d',e1,e2⟩:=K1b.mp g1;cases e2;obtain⟨v,e3,e4⟩:=g4.get e1;exact⟨q,vs,k,j,v,rfl,rfl,g3,hk.1,hk.2,by rw[<- g4.length];exact e5,e3,g5 _ _ e4 (g4.eraseIdx j)⟩
  ·cases g1)⟩
end
inductive Src where
 | con (xs:List D)
 | lst (n:Nat) (xs:List D)
 | obj (n:Nat) (o:O) (xs:List D)
def Src.items:Src->List D
 | .con xs=>xs
 | .lst _ xs=>xs
 | .obj _ _ xs=>xs
def Src.good:Src->AH->Prop
 | .con _,_=>True
 | .lst n xs,h=>h[n]?=.(l xs)
 | .obj n o _,h=>h[n]?=some o
open Classical in
noncomputable def Src.chk (s:Src):M Unit:=λh=>if s.good h then .ok () h else .bad
def JOK (K:K0) (src:Src) (ρ:List Addr) (H:Hp) (J:It):Prop:=∀i ρ1 h1 H1,Pre ρ ρ1->Ext K H H1->RH K ρ1 h1 H1->src.good h1 ->
 (∀d,src.items[i]?=some d->J.go i H1/\∀x H2,J.yld i H1 x H2->RD K ρ1 H2 d x/\RH K ρ1 h1 H2/\Ext K H1 H2)/\(src.items.length=i->J.stop i H1)
def tI (K:K0) (EX:XX) (m:G->M Src):TI:=λσ H R=>∃ρ γ h,Rel K ρ γ h σ H/\Fin K EX ρ H (λsrc ρ' _ H'=>∀J,JOK K src ρ' H' J->R J H') (m γ h)
structure SI (X:Cx) (EX:XX) (tg iter:Expr) (m:G->M Src):Prop where
 h:PI X tg iter (tI X.K EX m)
theorem PI.imp {X:Cx}{tg e:Expr}{t t':TI}(h:PI X tg e t) (f:∀σ H R,t' σ H R->t σ H R):PI X tg e t':=λpins s σ H R I z=>h pins s σ H R I (f σ H R z)
section
variable {X:Cx}{EX:XX}{a o e tg:Expr}{pos cpos apos p:Pos}{ma mo:G->M D}{mr:G->M (List D)}
def z1E (ma:G->M D):G->M Src:=λγ=>do
 let x <- ma γ
 match x with
 | .fl xs=>pure (.con xs)
 | .ref n=>do
  let xs <- getL n
  pure (.lst n xs)
 | _=>bad
theorem z2r (ha:SE X EX a ma):SI X EX tg a (z1E ma) :=
 ⟨PI.imp (z8D ha.h) λσ H R ⟨ρ,γ,h,rel,fin⟩=>⟨ρ,γ,h,rel,(Fin.bind fin).mono λx ρ1 h1 H1 p1 e1 r1 f1 v rv=>by
  cases x<;>first|exact(show False from f1).elim|skip
  case fl xs =>
   simp only[RD]at rv;obtain⟨q,vs,rfl,h2,h3⟩:=rv;refine⟨q,rfl,⟨vs,h2.sq⟩,f1 ρ1 H1 (Pre.refl _) (Ext.refl _ _) r1 _ λi ρ2 h4 H2 p2 e2 r2 _=>⟨λd hd=>?_,λhi=>?_⟩⟩
   ·have h3':=h3.mono p2 e2;obtain⟨x,g1,g2⟩:=h3'.get hd;refine⟨⟨vs,x,(e2.l _ _ h2).sq,g1⟩,λy H3 ⟨z1,z2⟩=>?_⟩;subst z1;have:=z2 vs (e2.l _ _ h2).sq;rw[g1]at this;cases this;exact⟨g2,r2,Ext.refl _ _⟩
   ·exact⟨vs,(e2.l _ _ h2).sq,by rw[<- h3.length];exact K3m hi⟩
  case ref n =>
   have f2:Fin X.K EX ρ1 H1 (λsrc ρ' _ H'=>∀J,JOK X.K src ρ' H' J->R J H') ((getL n >>= λxs=>(pure (.lst n xs):M Src)) h1):=f1;have f3:=Fin.bind f2;cases e3:getL n h1 with
   | bad=>rw[e3]at f3;exact f3.elim
   | err z hz=>exact(z0r e3).elim
   | ok xs h3 =>
    obtain⟨rfl,q1⟩:=z0u e3;rw[e3]at f3;simp only[RD]at rv;obtain⟨q,rfl,hq⟩:=rv;obtain⟨a1,n1,vs,o1,d1⟩:=r1.at q1;rw[hq]at n1;cases n1;have f4:=f3 ρ1 H1 (Pre.refl _) (Ext.refl _ _) r1;refine⟨q,rfl,⟨vs,SqL.of o1⟩,f4 ρ1 H1 (Pre.refl _) (Ext.refl _ _) r1 _ λi ρ2 h4 H2 p2 e2 r2 g=>?_⟩;have g':h4[n]?=.(l xs):=g;obtain⟨a2,n2,vs2,o2,d2⟩:=r2.at g';rw[p2 n q hq]at n2;cases n2;refine⟨λd hd=>?_,λhi=>⟨vs2,SqL.of o2,by rw[<- d2.length];exact K3m hi⟩⟩;obtain⟨x,g1,g2⟩:=d2.get hd;refine⟨⟨vs2,x,SqL.of o2,g1⟩,λy H3 ⟨z1,z2⟩=>?_⟩;subst z1;have:=z2 vs2 (SqL.of o2);rw[g1]at this;cases this;exact⟨g2,r2,Ext.refl _ _⟩⟩⟩
def z0Q (ma:G->M D):G->M Src:=λγ=>do
 let x <- ma γ
 match x with
 | .tup xs=>pure (.con xs)
 | _=>bad
theorem z17 (ha:SE X EX a ma):SI X EX tg a (z0Q ma) :=
 ⟨PI.imp (zg8 ha.h) λσ H R ⟨ρ,γ,h,rel,fin⟩=>⟨ρ,γ,h,rel,(Fin.bind fin).mono λx ρ1 h1 H1 p1 e1 r1 f1 v rv=>by
  cases x<;>first|exact(show False from f1).elim|skip
  rename_i xs;simp only[RD]at rv;obtain⟨q,vs,rfl,h2,h3⟩:=rv;refine⟨q,rfl,⟨vs,h2⟩,f1 ρ1 H1 (Pre.refl _) (Ext.refl _ _) r1 _ λi ρ2 h4 H2 p2 e2 r2 _=>⟨λd hd=>?_,λhi=>?_⟩⟩
  ·have h3':=h3.mono p2 e2;obtain⟨x,g1,g2⟩:=h3'.get hd;refine⟨⟨vs,x,e2.t _ _ h2,g1⟩,λy H3 ⟨z1,z2⟩=>?_⟩;subst z1;have:=z2 vs (e2.t _ _ h2);rw[g1]at this;cases this;exact⟨g2,r2,Ext.refl _ _⟩
  ·exact⟨vs,e2.t _ _ h2,by rw[<- h3.length];exact K3m hi⟩⟩⟩
def y8 (n:Nat):List D:=(K0u n).map λ(i:Nat)=>.int i
def w6 (ma:G->M D):G->M Src:=λγ=>do
 let x <- ma γ
 match x with
 | .int j=>if -(2 ^ 62)<=j/\j<2 ^ 62 then pure (.con (y8 j.toNat)) else bad
 | _=>bad
theorem J9 (hg:Gl X "range") (hm:X.mg "range" = none) (ha:SE X EX a ma) (hs:K07 [a] X.env=[(false,eval a X.env)]:=by rfl):SI X EX tg (.Call (.Name "range" p) [a] [] pos) (w6 ma) :=
 ⟨PI.imp (z4J hg hm (z1a ha.h z2K hs) hs) λσ H R ⟨ρ,γ,h,rel,fin⟩=>⟨ρ,γ,h,rel,(Fin.bind fin).mono λx ρ1 h1 H1 p1 e1 r1 f1 v rv=>by
  cases x<;>first|exact(show False from f1).elim|skip
  rename_i j;simp only[RD]at rv;subst rv;have f2:Fin X.K EX ρ1 H1 (λsrc ρ' _ H'=>∀J,JOK X.K src ρ' H' J->R J H') ((if -(2 ^ 62)<=j/\j<2 ^ 62 then pure (.con (y8 j.toNat)) else bad:M Src) h1):=f1;by_cases hj:-(2 ^ 62)<=j/\j<2 ^ 62
  ·rw[if_pos hj]at f2;refine⟨j,rfl,hj.1,hj.2,f2 ρ1 H1 (Pre.refl _) (Ext.refl _ _) r1 _ λi ρ2 h4 H2 p2 e2 r2 _=>⟨λd hd=>?_,λhi=>?_⟩⟩
   ·have hd':(y8 j.toNat)[i]?=some d:=hd;unfold y8 at hd';rw[K0n]at hd';have hi:i<j.toNat:=by
     by_cases hi:i<j.toNat
     ·exact hi
     ·rw[K75 (by simpa using hi)]at hd';cases hd'
    rw[K7s hi]at hd';cases hd';refine⟨hi,λy H3 ⟨z1,z2⟩=>?_⟩;subst z1;subst z2;exact⟨by simp[RD],r2,Ext.refl _ _⟩
   ·have hi':(y8 j.toNat).length=i:=hi;unfold y8 at hi';rw[K0j,K2p]at hi';exact K3m hi'
  ·rw[if_neg hj]at f2;exact f2.elim⟩⟩
end
noncomputable def forR (src:Src) (g:D->G->M G) (body:G->M Out):List D->G->M Out
 | [],γ=>do
  let _ <- src.chk
  pure (.nx γ)
 | d::r,γ=>do
  let _ <- src.chk;let γ1 <- g d γ;let o <- body γ1
  match o with
  | .nx γ2=>forR src g body r γ2
  | .ct γ2=>forR src g body r γ2
  | .bk γ2=>pure (.nx γ2)
  | .rt v=>pure (.rt v)
noncomputable def sFor (mi:G->M Src) (g:D->G->M G) (body:G->M Out):G->M Out:=λγ=>do
 let src <- mi γ
 forR src g body src.items γ
theorem z4d {K:K0}{EX:XX}{ρ:List Addr}{H:Hp}{α:Type}{P:α->List Addr->AH->Hp->Prop}{src:Src}{f:Unit->M α}{h:AH}(fin:Fin K EX ρ H P ((src.chk >>= f) h)) (r:RH K ρ h H):src.good h/\Fin K EX ρ H P (f () h):=by
 have f1:=Fin.bind fin;unfold Src.chk at f1;split at f1
 ·rename_i hg;exact⟨hg,f1 ρ H (Pre.refl _) (Ext.refl _ _) r⟩
 ·exact f1.elim
section
variable {X:Cx}{EX:XX}{a o e tg c:Expr}{pos cpos apos p:Pos}{ma mo:G->M D}{mi:G->M Src}{g:D->G->M G}{mb:G->M Out}{sts:List Stmt}{kc:G->M Bool}
theorem z1c (hp:K8t (model X.prog X.w) X.A X.env X.xe) (hc:X.calm=true) (hi:SI X EX tg e mi) (hg:SG X EX tg g) (hb:SB X EX sts mb) (hs:∀x,K1o e X.env x=pure x:=by intro _;rfl):S1 X EX (.For tg e sts [] pos) (sFor mi g mb) :=
 ⟨PS.imp (zf7 hp hc hi.h hg.h hb.h hs) λσ H D ⟨ρ,γ,h,rel,fin⟩=>⟨ρ,γ,h,rel,(Fin.bind fin).mono λsrc ρ0 h0 H0 p0 e0 r0 f0 J hJ=>by
  refine⟨λi m σ H=>m+i=src.items.length/\∃ρ γ h,Pre ρ0 ρ/\Ext X.K H0 H/\Rel X.K ρ γ h σ H/\Fin X.K EX ρ H (λo ρ' _ H'=>OutP X.K D o ρ' H') (forR src g mb (src.items.drop i) γ h),
   ⟨src.items.length,rfl,ρ0,γ,h0,Pre.refl _,Ext.refl _ _,⟨rel.g.mono p0 e0,r0⟩,f0⟩,?_⟩
  rintro i m σ1 H1 ⟨hm,ρ1,γ1,h1,p1,e1,rel1,f1⟩;by_cases hi:i<src.items.length
  ·have hd:src.items.drop i=src.items[i]::src.items.drop (i+1):=K5t hi;rw[hd]at f1;unfold forR at f1;obtain⟨good,f2⟩:=z4d f1 rel1.h;obtain⟨j1,j2⟩:=hJ i ρ1 h1 H1 p1 e1 rel1.h good;obtain⟨go,yld⟩:=j1 src.items[i] (K6 hi);refine .inr ⟨go,λσ' H'=>∃ρ γ h,Pre ρ0 ρ/\Ext X.K H0 H'/\Rel X.K ρ γ h σ' H'/\Fin X.K EX ρ H' (λo ρ' _ H'=>OutP X.K D o ρ' H') (forR src g mb (src.items.drop (i+1)) γ h),λσ' H' z=>⟨m - 1,by omega,by omega,z⟩,λx H2 y=>?_⟩;obtain⟨rd,rh,ext⟩:=yld x H2 y;refine⟨ρ1,γ1,h1,_,⟨rel1.g.mono (Pre.refl _) ext,rh⟩,rd,(Fin.bind (Fin.up (Pre.refl _) ext f2)).mono λγ2 ρ3 h3 H3 p3 e3 r3 f3 σ3 g3=>⟨ρ3,γ2,h3,⟨g3,r3⟩,(Fin.bind f3).mono λo ρ4 h4 H4 p4 e4 r4 f4=>?_⟩⟩;have pp:Pre ρ0 ρ4:=(p1.trans p3).trans p4;have ee:Ext X.K H0 H4:=((e1.trans ext).trans e3).trans e4;cases o with
   | nx γ5=>exact λσ5 g5=>⟨ρ4,γ5,h4,pp,ee,⟨g5,r4⟩,f4⟩
   | ct γ5=>exact λσ5 g5=>⟨ρ4,γ5,h4,pp,ee,⟨g5,r4⟩,f4⟩
   | bk γ5=>exact λσ5 g5=>f4 ρ4 H4 (Pre.refl _) (Ext.refl _ _) r4 σ5 g5
   | rt d=>exact λv rv=>f4 ρ4 H4 (Pre.refl _) (Ext.refl _ _) r4 v rv
  ·have hd:src.items.drop i=[]:=K6q (by omega);rw[hd]at f1;unfold forR at f1;obtain⟨good,f2⟩:=z4d f1 rel1.h;obtain⟨j1,j2⟩:=hJ i ρ1 h1 H1 p1 e1 rel1.h good;exact .inl ⟨j2 (by omega),f2 ρ1 H1 (Pre.refl _) (Ext.refl _ _) rel1.h σ1 rel1.g⟩⟩⟩
def z0R (k:G->M Bool) (body:G->M Out):Nat->G->M Out
 | 0,_=>bad
 | n+1,γ=>do
  let t <- k γ
  if t then do
   let o <- body γ
   match o with
   | .nx γ2=>z0R k body n γ2
   | .ct γ2=>z0R k body n γ2
   | .bk γ2=>pure (.nx γ2)
   | .rt v=>pure (.rt v)
  else pure (.nx γ)
theorem z5H (n:Nat) (hp:K8t (model X.prog X.w) X.A X.env X.xe) (hc:SC X EX c kc) (hb:SB X EX sts mb):S1 X EX (.While c sts [] pos) (z0R kc mb n) :=
 ⟨PS.imp (z6o hp hc.h hb.h) λσ H D ⟨ρ,γ,h,rel,fin⟩=>by
  refine⟨λm σ H=>∃ρ γ h,Rel X.K ρ γ h σ H/\Fin X.K EX ρ H (λo ρ' _ H'=>OutP X.K D o ρ' H') (z0R kc mb m γ h),⟨n,ρ,γ,h,rel,fin⟩,?_⟩;rintro m σ1 H1 ⟨ρ1,γ1,h1,rel1,f1⟩;cases m with
  | zero=>exact(show False from f1).elim
  | succ m =>
   unfold z0R at f1;refine⟨ρ1,γ1,h1,rel1,(Fin.bind f1).mono λt ρ2 h2 H2 p2 e2 r2 f2=>?_⟩;cases t with
   | false=>exact f2 ρ2 H2 (Pre.refl _) (Ext.refl _ _) r2 σ1 (rel1.g.mono p2 e2)
   | true =>
    rw[if_pos rfl]at f2 ⊢;refine⟨λσ' H'=>∃ρ γ h,Rel X.K ρ γ h σ' H'/\Fin X.K EX ρ H' (λo ρ' _ H'=>OutP X.K D o ρ' H') (z0R kc mb m γ h),λσ' H' z=>⟨m,by omega,z⟩,ρ2,γ1,h2,⟨rel1.g.mono p2 e2,r2⟩,(Fin.bind f2).mono λo ρ4 h4 H4 p4 e4 r4 f4=>?_⟩;cases o with
    | nx γ5=>exact λσ5 g5=>⟨ρ4,γ5,h4,⟨g5,r4⟩,f4⟩
    | ct γ5=>exact λσ5 g5=>⟨ρ4,γ5,h4,⟨g5,r4⟩,f4⟩
    | bk γ5=>exact λσ5 g5=>f4 ρ4 H4 (Pre.refl _) (Ext.refl _ _) r4 σ5 g5
    | rt d=>exact λv rv=>f4 ρ4 H4 (Pre.refl _) (Ext.refl _ _) r4 v rv⟩
end
def capG (cap:List (Option Nat)) (γ:G):G:=cap.map λo=>match o with|some j=>(γ[j]?).join|none=>none
theorem z8f {K:K0}{ρ:List Addr}{H:Hp}{γ:G}{σ:L2.St}(cap:List (Option Nat)) (r:RG K ρ H γ σ):RG K ρ H (capG cap γ) (z1Z cap σ):=by
 refine⟨by simp[capG,z1Z],λi d e=>?_⟩;unfold capG at e;unfold z1Z;rw[K0n]at e ⊢;cases q:cap[i]? with
 | none=>rw[q]at e;cases e
 | some o =>
  rw[q]at e;cases o with
  | none=>simp at e
  | some j =>
   have e2:(γ[j]?).join=some d:=by simpa using e
   have e3:γ[j]?=some (some d):=by
    cases q2:γ[j]? with
    | none=>rw[q2]at e2;simp at e2
    | some o2=>rw[q2]at e2;simp at e2;rw[e2]
   obtain⟨v,h1,h2⟩:=r.var j d e3;exact⟨v,by simp[h1],h2⟩
noncomputable def z1N (src:Src) (g:D->G->M G) (k:G->M Bool) (me:G->M D) (n0:Nat) (γ:G):List D->M Unit
 | []=>do
  let _ <- src.chk
  pure ()
 | d::r=>do
  let _ <- src.chk;let γ1 <- g d γ;let t <- k γ1
  if t then do
   let v <- me γ1;let _ <- Z9 n0 v
   z1N src g k me n0 γ r
  else z1N src g k me n0 γ r
noncomputable def z01 (cap:List (Option Nat)) (mi:G->M Src) (g:D->G->M G) (k:G->M Bool) (me:G->M D):G->M D:=λγ=>do
 let src <- mi γ;let n0 <- (λh=>.ok h.length (h++[.lst []]):M Nat);let _ <- z1N src g k me n0 (capG cap γ) src.items
 pure (.ref n0)
structure SCs (X:Cx) (EX:XX) (ifs:List Expr) (m:G->M Bool):Prop where
 h:PTs X ifs (tT X.K EX m)
theorem PTs.imp {X:Cx}{e:List Expr}{t t':TT}(h:PTs X e t) (f:∀σ H Q,t' σ H Q->t σ H Q):PTs X e t':=λpins s σ H Q I z=>h pins s σ H Q I (f σ H Q z)
section
variable {X:Cx}{EX:XX}{elt tg iter c:Expr}{ifs:List Expr}{sc:Scope}{pos:Pos}{N':List Str}{cap:List (Option Nat)}{own:List Nat}{mi:G->M Src}{g:D->G->M G}{k kr:G->M Bool}{me:G->M D}
theorem z1j:SCs X EX [] (λ_=>pure true):=⟨PTs.imp z4y λσ H Q ⟨ρ,γ,h,rel,fin⟩=>fin ρ H (Pre.refl _) (Ext.refl _ _) rel.h⟩
theorem z0X (h:SC X EX c k):SCs X EX [c] k:=⟨PTs.imp (z6T h.h z4y) λσ H Q ⟨ρ,γ,h,rel,fin⟩=>⟨ρ,γ,h,rel,fin.mono λt ρ1 h1 H1 p1 e1 r1 f1=>by
 cases t with
 | true=>exact f1
 | false=>exact f1⟩⟩
def HB (X:Cx) (EX:XX) (own:List Nat) (σ0:L2.St) (ρ0:List Addr) (b:G->M Unit->M Unit) (tb:TB):Prop :=
 ∀{σ:L2.St} {γ1:G} {ρ:List Addr} {h:AH} {H:Hp} {P:Unit->List Addr->AH->Hp->Prop} {K:M Unit} {Z:Hp->Prop},Pre ρ0 ρ->(∀j,j∉own->σ[j]?=σ0[j]?)->RG X.K ρ H γ1 σ->RH X.K ρ h H->Fin X.K EX ρ H P (b γ1 K h) ->
  (∀ρ' h' H',Pre ρ ρ'->Ext X.K H H'->RH X.K ρ' h' H'->Fin X.K EX ρ' H' P (K h')->Z H')->tb σ H Z
theorem z9j {F:List D->M Unit}{b:G->M Unit->M Unit}{tb:TB}{σ0:L2.St}{H0:Hp}{ρ0:List Addr}{h0:AH}{γ:G}{src:Src}{J:It}{P:Hp->Prop}
 (hnil:F []=(do let _ <- src.chk;pure ())) (hcons:∀d r,F (d::r)=(do let _ <- src.chk;let γ1 <- g d γ;let t <- k γ1;if t then b γ1 (F r) else F r))
 (r0:RH X.K ρ0 h0 H0) (rg:RG X.K ρ0 H0 γ σ0) (hJ:JOK X.K src ρ0 H0 J) (hown:∀j∈own,∀v,σ0[j]?≠some (some v)) (hb:HB X EX own σ0 ρ0 b tb)
 (fin:Fin X.K EX ρ0 H0 (λ_ ρ' h' H'=>RH X.K ρ' h' H'->Ext X.K H0 H'->Pre ρ0 ρ'->P H') (F src.items h0)):runG (tGk X.K EX own g) (tT X.K EX k) tb σ0 J P H0:=by
 refine⟨λi m H=>m+i=src.items.length/\∃ρ h,Pre ρ0 ρ/\Ext X.K H0 H/\RH X.K ρ h H /\
  Fin X.K EX ρ H (λ_ ρ' h' H'=>RH X.K ρ' h' H'->Ext X.K H0 H'->Pre ρ0 ρ'->P H') (F (src.items.drop i) h),
  ⟨src.items.length,rfl,_,_,Pre.refl _,Ext.refl _ _,r0,fin⟩,?_⟩
 rintro i m H1 ⟨hm,ρ1,h1,p1,e1,r1,f1⟩;by_cases hi:i<src.items.length
 ·rw[show src.items.drop i=src.items[i]::src.items.drop (i+1) from K5t hi,hcons]at f1;obtain⟨good,f2⟩:=z4d f1 r1;obtain⟨j1,j2⟩:=hJ i ρ1 h1 H1 p1 e1 r1 good;obtain⟨go,yld⟩:=j1 src.items[i] (K6 hi);refine .inr ⟨go,λx H2 y=>?_⟩;obtain⟨rd,rh,ext⟩:=yld x H2 y;refine⟨ρ1,_,h1,_,⟨rg.mono p1 (e1.trans ext),rh⟩,rd,(Fin.bind (Fin.up (Pre.refl _) ext f2)).mono λγ2 ρ3 h3 H3 p3 e3 r3 f3 σ3 g3 k3=>⟨λj v hv=>?_,ρ3,γ2,h3,⟨g3,r3⟩,(Fin.bind f3).mono λt ρ4 h4 H4 p4 e4 r4 f4=>?_⟩⟩
  ·rw[k3 j λhj=>hown j hj v hv];exact hv
  ·have pp:Pre ρ0 ρ4:=(p1.trans p3).trans p4;have ee:Ext X.K H0 H4:=((e1.trans ext).trans e3).trans e4;cases t with
   | false =>
    rw[if_neg (by decide)]at f4;dsimp only;rw[if_neg (by decide)];exact⟨m - 1,by omega,by omega,ρ4,h4,pp,ee,r4,f4⟩
   | true =>
    rw[if_pos rfl]at f4;dsimp only;rw[if_pos rfl];exact hb pp k3 (g3.mono p4 e4) r4 f4 λρ5 h5 H5 p5 e5 r5 f5=>⟨m - 1,by omega,by omega,ρ5,h5,pp.trans p5,ee.trans e5,r5,f5⟩
 ·rw[show src.items.drop i=[] from K6q (by omega),hnil]at f1;obtain⟨good,f2⟩:=z4d f1 r1;obtain⟨j1,j2⟩:=hJ i ρ1 h1 H1 p1 e1 r1 good;exact .inl ⟨j2 (by omega),f2 ρ1 H1 (Pre.refl _) (Ext.refl _ _) r1 r1 e1 p1⟩
theorem z9b {σ0:L2.St}{ρ0:List Addr}{n0:Nat}{Dd:Addr}(hD:ρ0[n0]?=some Dd):HB X EX own σ0 ρ0 (λγ1 K=>do let v <- me γ1;let _ <- Z9 n0 v;K) (bApp (tE X.K EX me) Dd):=λ{σ γ1 ρ h H P K Z} p0 _ rg rh fin hz=>by
 refine⟨ρ,γ1,h,⟨rg,rh⟩,(Fin.bind fin).mono λd ρ5 h5 H5 p5 e5 r5 f5 v rv=>?_⟩;have hq:ρ5[n0]?=some Dd:=(p0.trans p5) _ _ hD;have f6:=Fin.bind f5;unfold Z9 updL at f6;cases e7:h5[n0]? with
 | none=>rw[e7]at f6;exact f6.elim
 | some ob =>
  cases ob<;>first|(rw[e7]at f6;exact f6.elim)|skip
  rename_i xs;rw[e7]at f6;dsimp only at f6;split at f6
  ·rename_i hl;obtain⟨a1,n1,vs,o1,d1⟩:=r5.at e7;rw[hq]at n1;cases n1;have ext2:Ext X.K H5 (upd H5 Dd (.lst (vs++[v]))):=Ext.upd (.inr ⟨_,o1,trivial⟩);have r6:=r5.set e7 hq (d1.append (RDs.cons rv RDs.nil));rw[K9,K0d]at hl;have hl2:=d1.length;exact⟨vs,o1,by omega,hz ρ5 _ _ p5 (e5.trans ext2) r6 (f6 ρ5 _ (Pre.refl _) ext2 r6)⟩
  ·exact f6.elim
structure CmA (X:Cx) (EX:XX) (ce:Expr) (sc:Scope) (tg iter:Expr) (ifs:List Expr) (N':List Str) (cap:List (Option Nat)) (own:List Nat) (mi:G->M Src) (g:D->G->M G) (k:G->M Bool) (oo:O) (b:Nat->G->M Unit->M Unit) (F:Src->Nat->G->List D->M Unit):Prop where
 ex:∃(mk:Sem Value) (o0:HO) (bd:Addr->Env->Sem Unit) (p:Pos) (tbd:Addr->L2.TB),CmE ce sc tg iter ifs mk o0 bd p/\(∀(ρ:List Addr) (H:Hp) (Dd:Addr),RO X.K ρ (upd H Dd o0) oo Dd)/\(∀D s H fp xe,PBd (X.comp N' sc s H fp xe) (bd D (X.comp N' sc s H fp xe).env) (tbd D)) /\
  ∀{σ0:L2.St} {ρ0:List Addr} {n0:Nat} {Dd:Addr},(∀(j:Nat),cap[j]?=some none->∀v,σ0[j]?≠some (some v))->ρ0[n0]?=some Dd->HB X EX own σ0 ρ0 (b n0) (tbd Dd)
 nil:∀src n0 γ,F src n0 γ []=(do let _ <- src.chk;pure ())
 cons:∀src n0 γ d r,F src n0 γ (d::r)=(do let _ <- src.chk;let γ1 <- g d γ;let t <- k γ1;if t then b n0 γ1 (F src n0 γ r) else F src n0 γ r)
noncomputable def eCm (cap:List (Option Nat)) (mi:G->M Src) (oo:O) (F:Src->Nat->G->List D->M Unit):G->M D:=λγ=>do
 let src <- mi γ;let n0 <- (λh=>.ok h.length (h++[oo]):M Nat);let _ <- F src n0 (capG cap γ) src.items
 pure (.ref n0)
theorem z7t {ce:Expr}{oo:O}{b:Nat->G->M Unit->M Unit}{F:Src->Nat->G->List D->M Unit}{o0:HO}{tbd:Addr->TB}{σ:L2.St}{γ:G}{src:Src}{ρ0:List Addr}{h0:AH}{H0:Hp}{J:It}{Dd:Addr}{Q:Hp->Prop}
 (A:CmA X EX ce sc tg iter ifs N' cap own mi g k oo b F) (ho:∀(ρ:List Addr) (H:Hp) (Dd:Addr),RO X.K ρ (upd H Dd o0) oo Dd) (hb:∀{σ0:L2.St} {ρ0:List Addr} {n0:Nat} {Dd:Addr},(∀(j:Nat),cap[j]?=some none->∀v,σ0[j]?≠some (some v))->ρ0[n0]?=some Dd->HB X EX own σ0 ρ0 (b n0) (tbd Dd))
 (hown:∀j∈own,cap[j]?=some none) (r0:RH X.K ρ0 h0 H0) (rg:RG X.K ρ0 H0 γ σ) (hJ:JOK X.K src ρ0 H0 J) (hD:H0 Dd=none) {R:D->List Addr->AH->Hp->Prop}
 (fin:Fin X.K EX ρ0 H0 R ((do let n0 <- (λh=>.ok h.length (h++[oo]):M Nat);let _ <- F src n0 (capG cap γ) src.items;pure (.ref n0):M D) h0))
 (z:∀ρ' h' H',Pre ρ0 ρ'->Ext X.K H0 H'->RH X.K ρ' h' H'->R (.ref h0.length) ρ' h' H'->RD X.K ρ' H' (.ref h0.length) (.ref Dd)->Q H') :
 runG (tGk X.K EX own g) (tT X.K EX k) (tbd Dd) (z1Z cap σ) J Q (upd H0 Dd o0):=by
 have rP:RH X.K (ρ0++[Dd]) (h0++[oo]) (upd H0 Dd o0):=r0.pushO hD (ho _ _ _);have eP:Ext X.K H0 (upd H0 Dd o0):=Ext.upd (.inl hD);have f2:=(Fin.bind fin) (ρ0++[Dd]) _ (Pre.app _ _) eP rP;have at0:(ρ0++[Dd])[h0.length]?=some Dd:=by rw[<- r0.len];simp
 have non:∀(j:Nat),cap[j]?=some none->∀v,(z1Z cap σ)[j]?≠some (some v):=λj e v hv=>by
  unfold z1Z at hv;rw[K0n,e]at hv;simp at hv
 refine z9j (A.nil src h0.length (capG cap γ)) (A.cons src h0.length (capG cap γ)) rP ((z8f cap rg).mono (Pre.app _ _) eP) (λi ρ1 h1 H1 p e r good=>hJ i ρ1 h1 H1 ((Pre.app _ _).trans p) (eP.trans e) r good) (λj hj=>non j (hown j hj)) (hb non at0) ((Fin.bind f2).mono λ_ ρ5 h5 H5 p5 e5 r5 f5 rr ee pp=>?_);refine z ρ5 h5 H5 ((Pre.app _ _).trans pp) (eP.trans ee) rr (f5 ρ5 H5 (Pre.refl _) (Ext.refl _ _) rr) ?_;simp only[RD];exact⟨Dd,rfl,pp _ _ at0⟩
theorem zm4 {ce:Expr}{oo:O}{b:Nat->G->M Unit->M Unit}{F:Src->Nat->G->List D->M Unit}(A:CmA X EX ce sc tg iter ifs N' cap own mi g k oo b F) (hc:X.calm=true) (S:CS X sc N' cap) (hi:SI X EX tg iter mi) (hg:∀s H fp xe,SGk (X.comp N' sc s H fp xe) EX tg own g) (ht:∀s H fp xe,SCs (X.comp N' sc s H fp xe) EX ifs k)
 (hown:∀j∈own,cap[j]?=some none) (hs:∀x,K1o iter X.env x=pure x):SE X EX ce (eCm cap mi oo F):=by
 obtain⟨mk,o0,bd,p,tbd,C,ho,hbd,hb⟩:=A.ex;exact⟨PE.imp (zj2 (g:=tGk X.K EX own g) (ti:=tT X.K EX k) C hc S hi.h (λs H fp xe=>(hg s H fp xe).h) (λs H fp xe=>(ht s H fp xe).h) hbd hs) λσ H Q ⟨ρ,γ,h,rel,fin⟩=>⟨ρ,γ,h,rel,(Fin.bind fin).mono λsrc ρ0 h0 H0 p0 e0 r0 f0 J hJ Dd hD =>
  z7t A ho hb hown r0 (rel.g.mono p0 e0) hJ hD f0 λρ' h' H' p' e' r' q rd=>q _ rd⟩⟩
theorem s_cm {ce:Expr}{oo:O}{b:Nat->G->M Unit->M Unit}{F:Src->Nat->G->List D->M Unit}(i:Nat) {y:Str}{py spos:Pos}(A:CmA X EX ce sc tg iter ifs N' cap own mi g k oo b F) (hc:X.calm=true) (S:CS X sc N' cap) (hi:SI X EX tg iter mi) (hg:∀s H fp xe,SGk (X.comp N' sc s H fp xe) EX tg own g) (ht:∀s H fp xe,SCs (X.comp N' sc s H fp xe) EX ifs k)
 (hown:∀j∈own,cap[j]?=some none) (hN:X.N.Nodup) (hy:X.N[i]?=some y) (hl:X.env.scope.names.lookup y=some .local) (hsw:K1p ce (some (.Name y py)) spos.line X.env=pure true) (hs:∀x,K1o iter X.env x=pure x) :
 S1 X EX (.Assign [.Name y py] ce spos) (sAsg (eCm cap mi oo F) (gN i)):=by
 obtain⟨mk,o0,bd,p,tbd,C,ho,hbd,hb⟩:=A.ex;exact⟨PS.imp (zi6 (g:=tGk X.K EX own g) (ti:=tT X.K EX k) C hc S hi.h (λs H fp xe=>(hg s H fp xe).h) (λs H fp xe=>(ht s H fp xe).h) hbd hN hy hl hsw hs) λσ H D ⟨ρ,γ,h,rel,fin⟩=>⟨ρ,γ,h,rel,(Fin.bind (Fin.bind fin)).mono λsrc ρ0 h0 H0 p0 e0 r0 f0 J hJ Dd hD =>
  z7t A ho hb hown r0 (rel.g.mono p0 e0) hJ hD f0 λρ' h' H' p' e' r' q rd=>(q ρ' H' (Pre.refl _) (Ext.refl _ _) r') _ (((rel.g.mono p0 e0).mono p' e').set i rd)⟩⟩
theorem z3D (he:∀s H fp xe,SE (X.comp N' sc s H fp xe) EX elt me):CmA X EX (.ListComp elt [⟨tg,iter,ifs,0⟩] sc pos) sc tg iter ifs N' cap own mi g k (.lst []) (λn0 γ1 K=>do let v <- me γ1;let _ <- Z9 n0 v;K) (λsrc n0 γ=>z1N src g k me n0 γ) :=
 ⟨⟨_,_,_,_,bApp (tE X.K EX me),z93,λρ H Dd=>⟨[],J6,RDs.nil⟩,λD s H fp xe=>z8K (he s H fp xe).h,λ_ hD=>z9b hD⟩,λ_ _ _=>rfl,λ_ _ _ _ _=>rfl⟩
theorem z0G (hc:X.calm=true) (S:CS X sc N' cap) (hi:SI X EX tg iter mi) (hg:∀s H fp xe,SGk (X.comp N' sc s H fp xe) EX tg own g) (ht:∀s H fp xe,SCs (X.comp N' sc s H fp xe) EX ifs k)
 (he:∀s H fp xe,SE (X.comp N' sc s H fp xe) EX elt me) (hown:∀j∈own,cap[j]?=some none:=by decide) (hs:∀x,K1o iter X.env x=pure x:=by intro _;rfl):SE X EX (.ListComp elt [⟨tg,iter,ifs,0⟩] sc pos) (z01 cap mi g k me) :=
 zm4 (z3D he) hc S hi hg ht hown hs
noncomputable def z3b (i:Nat) (cap:List (Option Nat)) (mi:G->M Src) (g:D->G->M G) (k:G->M Bool) (me:G->M D):G->M Out:=sAsg (z01 cap mi g k me) (gN i)
theorem z7l (i:Nat) {y:Str}{py spos:Pos}(hc:X.calm=true) (S:CS X sc N' cap) (hi:SI X EX tg iter mi) (hg:∀s H fp xe,SGk (X.comp N' sc s H fp xe) EX tg own g) (ht:∀s H fp xe,SCs (X.comp N' sc s H fp xe) EX ifs k)
 (he:∀s H fp xe,SE (X.comp N' sc s H fp xe) EX elt me) (hN:X.N.Nodup) (hy:X.N[i]?=some y:=by rfl) (hl:X.env.scope.names.lookup y=some .local:=by rfl) (hown:∀j∈own,cap[j]?=some none:=by decide)
 (hsw:K1p (.ListComp elt [⟨tg,iter,ifs,0⟩] sc pos) (some (.Name y py)) spos.line X.env=pure true:=by rfl) (hs:∀x,K1o iter X.env x=pure x:=by intro _;rfl) :
 S1 X EX (.Assign [.Name y py] (.ListComp elt [⟨tg,iter,ifs,0⟩] sc pos) spos) (z3b i cap mi g k me) :=
 s_cm i (z3D he) hc S hi hg ht hown hN hy hl hsw hs
end
def csOk (osc:Scope) (N:List Str) (sc:Scope) (N':List Str) (cap:List (Option Nat)):Bool :=
 (sc.kind==.function)&&sc.names.all (λy=>y.2 != .cell)&&sc.names.all (λx=>x.2 != .local||sc.names.lookup x.1==some .local) &&
 sc.names.all (λx=>x.2 != .free||(osc.names.lookup x.1==some .cell||osc.names.lookup x.1==some .free))&&(cap.length==N'.length) &&
 (K0u cap.length).all λi=>match cap[i]? with
  | some (some j)=>(match N'[i]?,N[j]? with
   | some x,some y=>x==y&&sc.names.lookup x==some .free
   | _,_=>false)
  | _=>true
theorem z1b {X:Cx}{sc:Scope}{N':List Str}{cap:List (Option Nat)}(h:csOk X.env.scope X.N sc N' cap=true):CS X sc N' cap:=by
 unfold csOk at h;simp only[K0b]at h;obtain⟨⟨⟨⟨⟨h1,h2⟩,h3⟩,h4⟩,h5⟩,h6⟩:=h;refine⟨by simpa using h1,λy hy=>?_,λx hx hl=>?_,λx hx hf=>?_,by simpa using h5,λi j e=>?_⟩
 ·have:=K1e.mp h2 y hy;simpa using this
 ·have:=K1e.mp h3 x hx;simpa [hl] using this
 ·have:=K1e.mp h4 x hx;have:(X.env.scope.names.lookup x.1==some .cell||X.env.scope.names.lookup x.1==some .free)=true:=by simpa [hf] using this
  rw[K24]at this;rcases this with z|z
  ·exact .inl (show X.env.scope.names.lookup x.1=_ by simpa using z)
  ·exact .inr (show X.env.scope.names.lookup x.1=_ by simpa using z)
 ·have hi:i<cap.length:=(K4.mp e).1;have:=K1e.mp h6 i (K1x.mpr hi);rw[e]at this;dsimp only at this;cases e1:N'[i]? with
  | none=>rw[e1]at this;cases this
  | some x =>
   cases e2:X.N[j]? with
   | none=>rw[e1,e2]at this;cases this
   | some y =>
    rw[e1,e2]at this;simp only[K0b]at this;have exy:x=y:=by simpa using this.1
    subst exy;exact⟨x,rfl,rfl,by simpa using this.2⟩
def DefAt (K:K0) (x:Str) (st:Stmt):Prop:=∃f fd,K2f K K1a x=some (.(r f))/\Fun K x x st f fd
theorem defAt_mk {K:K0}{x:Str}{st:Stmt}{f:Addr}{oc:Value}{od an:Option Addr}{sl:Array (Option Value)}{kV dc pm cd ct:Value}(a:K2f K K1a x=some (.(r f)))
 (l:K.lookup f=some ⟨oc,od,.func (K1w x x (z0h st) (J4 st) (Z3 st) .none kV dc pm an cd ct),sl⟩) (c:K29 K cd x=true) (k:K10 K (.ref f)=true):DefAt K x st :=
 ⟨f,_,a,z78 l c k⟩
structure Cst (K:K0) (mg:Str->Option Value) (x:Str) (d:D):Prop where
 ex:∃v u,mg x=some u/\RelV v u/\∀ρ H,RD K ρ H d v
section
variable {prog:K0a}{w:World}{A:Around}{E:Value->Shared->Prop}{s:Shared}
theorem z8W {it t:Addr}{i:Nat}{items:Array Value}{x:Value}{Q:Value->Shared->Prop}(hit:s.heap.IsTupleIter it t i) (ht:s.heap.IsTuple t items) (hx:items[i]?=some x)
 (hQ:∀h',h'.IsTupleIter it t (i+1)->K52 it s.heap h'->Q x { s with heap:=h' }):wpAny (model prog w) A (K2l (.ref it)) Q E s:=by
 obtain⟨oi,e1,c1,d1⟩:=id hit;obtain⟨ot,e2,_,nt,d2⟩:=ht;unfold K2l;refine K2 (K2a (name:=K22 "__next__") hit.typeIs K1z
  (K32 K1z hit.typeIs K48 ?_ (K42 _)))
 show wpAny _ _ (field (.ref it) 0 >>= _) _ _ s;refine K2 (K2t e1 d1 (x:=.ref t) rfl ?_);show wpAny _ _ (if (K1j t==K3y)=true then _ else _) _ _ s;have nn:¬ (K1j t==K3y)=true:=K0g;rw[if_neg nn];show wpAny _ _ (field (.ref it) 1 >>= _) _ _ s;refine K2 (K2t e1 d1 (x:=.int i 0) rfl ?_);show wpAny _ _ (seqItems? (.ref t) >>= _) _ _ s;refine K2 (K5l e2 d2 ?_);simp only[K4i,hx];refine K2 (wpAny_setField e1 d1 (by simp) (K04 ⟨x,rfl,K04 (hQ _ ?_ (K7p ..))⟩));exact⟨_,K77 _ e1 (Obj.isFreed_of_fields (K88 d1 _)),(Obj.cls_mapFields ..).trans c1,by
  rw[K88 d1];simp[rawInt]⟩
theorem ze7 {it t:Addr}{i:Nat}{items:Array Value}{Q:Value->Shared->Prop}(hh:A.handled=none) (hit:s.heap.IsTupleIter it t i) (ht:s.heap.IsTuple t items) (hx:items[i]?=none)
 (hE:∀h' e,Heap.ExtBut it s.heap h'->(∃o,h'.get? e=some o/\o.cls=.type "StopIteration")->E (.ref e) { s with heap:=h' }):wpAny (model prog w) A (K2l (.ref it)) Q E s:=by
 obtain⟨oi,e1,c1,d1⟩:=id hit;obtain⟨ot,e2,_,nt,d2⟩:=ht;unfold K2l;refine K2 (K2a (name:=K22 "__next__") hit.typeIs K1z
  (K32 K1z hit.typeIs K48 ?_ (K42 _)))
 show wpAny _ _ (field (.ref it) 0 >>= _) _ _ s;refine K2 (K2t e1 d1 (x:=.ref t) rfl ?_);show wpAny _ _ (if (K1j t==K3y)=true then _ else _) _ _ s;have nn:¬ (K1j t==K3y)=true:=K0g;rw[if_neg nn];show wpAny _ _ (field (.ref it) 1 >>= _) _ _ s;refine K2 (K2t e1 d1 (x:=.int i 0) rfl ?_);show wpAny _ _ (seqItems? (.ref t) >>= _) _ _ s;refine K2 (K5l e2 d2 ?_);simp only[K4i,hx];refine K2 (K6j (K2 (wpAny_setField e1 d1 (by simp) ?_)));show wpAny _ _ (newExc (.type "StopIteration") [] >>= _) _ _ _;refine K2 ?_;simp only[newExc,newTuple];refine K2 (K1n ?_ (by size_fits));refine K2 (m:=firstArgMember _ _) (wpAny_of_eq (a:=K3y) (by first|rfl|(simp only[firstArgMember];rfl)) ?_);refine K1n ?_ (by size_fits);simp only[raiseNew];refine K2 (wpAny_handled ?_)
 first|rw[show A.in1.handled=none from hh]|rw[hh]
 refine K2 (K04 (wpAny_throw ?_));exact hE _ _ (((K7p ..).extBut.push _).push _) ⟨_,K0l _ rfl,rfl⟩
structure ZS (h:Heap) (z TI TO i1 i2 t1 t2:Addr) (i:Nat) (f0:Value):Prop where
 zip:IsZip h z TI TO f0
 ti:IsPair h TI (.ref i1) (.ref i2)
 to:∃a b,IsPair h TO a b
 n1:h.IsTupleIter i1 t1 i
 n2:h.IsTupleIter i2 t2 i
structure ZA (z TI TO i1 i2:Addr):Prop where
 a1:TI≠z
 a2:TO≠z
 a3:i1≠z
 a4:i2≠z
 a5:TI≠TO
 a6:TI≠i1
 a7:TI≠i2
 a8:TO≠i1
 a9:TO≠i2
 a0:i1≠i2
structure ZO (z TO i1 i2 t:Addr):Prop where
 o1:t≠z
 o2:t≠TO
 o3:t≠i1
 o4:t≠i2
end
theorem zk4 {X:Cx}{pins:List (Addr×Obj)}{σ:L2.St}{H:Hp}{s:Shared}{ch:List Addr}{T:Addr}{vs:List V}{its:List Value}{h2:Heap}{t:Nat}(I:L2.Inv X pins σ H s)
 (hf:∀b∈ch,FpOk X pins H b) (kp:∀b o,b∉ch->s.heap.get? b=some o->h2.get? b=some o) (hT:s.heap.objs.size<=T) (tup:IsTup0 h2 T its.toArray) (rv:Vals vs its) (hz:vs.length<=sizeLine) :
 L2.Inv X pins σ (upd H T (.tup vs)) { s with heap:=h2,toks:=t }:=by
 have hn:H T=none:=I.hok.fresh hT;have ne:∀{b:Addr} {o:Obj},s.heap.get? b=some o->b≠T:=λe=>K0q (K0i (K09 e) hT);refine I.step (g':=s.gens) (d':=s.drawn) (ch:=ch) (λb hb=>⟨(hf b hb).2.2.2.1,(hf b hb).2.1,(hf b hb).2.2.2.2.1,(hf b hb).2.2.2.2.2⟩) (λb o _ _ hc e _=>kp b o hc e) (λb o _ _ hc e _=>⟨o.slots,kp b o hc e⟩)
  (λb o _ e n=>by rw[Z7 (ne e)];exact n) (λb o hc e=>⟨o,kp b o hc e⟩) (λb xs e=>by rw[Z7 (j6 e hn)];exact e) (λb o u e=>by rw[Z7 (j6 e hn)];exact e)
  (λb ps e=>⟨#[],by rw[Z7 (j6 e hn),e];simp⟩) (λm hm=>?_) (λb u e=>?_) I.bare
 ·obtain⟨o,es,ep,q,r⟩:=hm;exact⟨o,es,ep,kp _ o (λz=>(hf _ z).2.1 rfl) q,r⟩
 ·by_cases hb:b=T
  ·subst hb;rw[J6]at e;cases e;exact⟨hz,its,rv,tup⟩
  ·rw[Z7 hb]at e;refine(I.hok b u e).stay (λc v hc q=>kp c v (λz=>?_) q) (λc q=>?_) λc xs q=>?_
   ·rcases hc with y|y
    ·rw[y]at z;rw[(hf b z).1]at e;cases e
    ·rw[(hf c z).1]at y;cases y
   ·rw[Z7 (j6 q hn)];exact q
   ·rw[Z7 (j6 q hn)];exact q
section
variable {X:Cx}{EX:XX}{a b:Expr}{elts:List Expr}{kk:Nat}{p pos pt:Pos}{ma mb:G->M D}
end
section
variable {X:Cx}{EX:XX}{a b:Expr}{tg:Expr}{p pos p2:Pos}{ma mb:G->M D}
theorem z5k {A:Around}{E:Value->Shared->Prop}{s:Shared}{t sl:Addr}{items:Array Value}{vl vu:Value}{lo hi:Option Int}{Q:Value->Shared->Prop}(ht:IsTup s.heap t items) (hs:s.heap.IsSliceOf sl vl vu .none) (pl:IsPart vl lo) (pu:IsPart vu hi)
 (hw:HT.sIx items.size 0 lo=0/\HT.sIx items.size items.size hi=items.size) (h:Q (.ref t) s):wpAny (model X.prog X.w) A (K6g (.ref t) (.ref sl)) Q E s:=by
 obtain⟨os,hos,hcs,hds⟩:=id hs;have hTs:s.TypeIs (.ref sl) "slice":=⟨os,hos,hcs⟩;unfold K6g
 try with_reducible refine K2j ?_
 first|refine K2 (K04 ?_)|skip
 refine K2 (K61 ht.typeIs (by decide) ?_);refine K2 (K2a (name:=K22 "__getitem__") ht.typeIs K15
  (K32 K15 ht.typeIs K7u ?_ (args_tuple_getitem _ _)))
 show wpAny _ _ (K5g (.ref t) >>= _) _ _ s;refine K2 (tupleItemsOf_ ht ?_);refine K2 (K58 hTs ?_);rw[if_pos (by decide)];refine K2 (HT.sliceApplied_gen hs pl pu ?_);have yes:((((HT.sIx items.size 0 lo:Nat):Int)==0&&(1:Int)==1&&(HT.sIx items.size items.size hi - HT.sIx items.size 0 lo)==items.size)=true):=by
  rw[hw.1,hw.2];simp
 show wpAny _ _ (if (((HT.sIx items.size 0 lo:Nat):Int)==0&&(1:Int)==1&&(HT.sIx items.size items.size hi - HT.sIx items.size 0 lo)==items.size)=true then _ else _) _ _ s;rw[if_pos yes];refine K2 (m:=K5h (.ref t)) ?_;unfold K5h;refine K2 (K58 ht.typeIs (K04 ?_));rw[if_pos (by decide)];exact K2 (K6j (K04 ⟨_,rfl,K04 h⟩))
def rSlW (K:K0):V->Option Int->Option Int->Hp->VK->Prop:=λx lo hi H Q=>∃a xs,x=.ref a/\SqT K H a xs/\(HT.sIx xs.length 0 lo=0/\HT.sIx xs.length xs.length hi=xs.length)/\Q (.ref a) H
theorem z6L:SlR X (rSlW X.K):=by
 intro pins s σ H x v vl vu lo hi sl Q I rx hs pl pu h;obtain⟨a,xs,rfl,hx,hw,q⟩:=h;cases rx;obtain⟨its,r,ht,hz⟩:=I.tuple hx;have hlen:its.toArray.size=xs.length:=by rw[K00];exact r.length.symm
 exact⟨"tuple",_,K15.lookup,ht.typeIs,z5k ht hs pl pu (by rw[hlen];exact hw) ⟨.ref a,H,I,rfl,q⟩⟩
def cutD (xs:List D) (lo hi:Option Int):List D:=(xs.drop (HT.sIx xs.length 0 lo)).take (HT.sIx xs.length xs.length hi - HT.sIx xs.length 0 lo)
theorem z3v {K:K0}{ρ:List Addr}{H:Hp}{ds:List D}{xs:List V}(h:RDs K ρ H ds xs) (lo hi:Option Int):RDs K ρ H (cutD ds lo hi) (cutV xs lo hi):=by
 unfold cutD cutV;rw[h.length];exact(h.drop _).take _
def fSl:D->Option Int->Option Int->M D
 | .tup xs,lo,hi=>pure (.tup (cutD xs lo hi))
 | .fl xs,lo,hi=>newL (cutD xs lo hi)
 | .ref n,lo,hi=>do
  let xs <- getL n
  newL (cutD xs lo hi)
 | _,_,_=>bad
def tO (K:K0) (EX:XX) (m:G->M (Option Int)):TO:=λσ H Q=>∃ρ γ h,Rel K ρ γ h σ H/\Fin K EX ρ H (λo _ _ H'=>Q o H') (m γ h)
structure SO (X:Cx) (EX:XX) (e:Option Expr) (m:G->M (Option Int)):Prop where
 h:PO X e (tO X.K EX m)
theorem PO.imp {X:Cx}{e:Option Expr}{t t':TO}(h:PO X e t) (f:∀σ H Q,t' σ H Q->t σ H Q):PO X e t':=λpins s σ H Q I z=>h pins s σ H Q I (f σ H Q z)
def z6C:G->M (Option Int):=λ_=>pure none
def z6M (ma:G->M D):G->M (Option Int):=λγ=>do
 let x <- ma γ
 match x with
 | .int i=>pure (some i)
 | _=>bad
theorem z8M:SO X EX none z6C:=⟨PO.imp z7R λσ H Q ⟨ρ,γ,h,rel,fin⟩=>fin ρ H (Pre.refl _) (Ext.refl _ _) rel.h⟩
theorem z7G (ha:SE X EX a ma):SO X EX (some a) (z6M ma):=⟨PO.imp (z85 ha.h) λσ H Q ⟨ρ,γ,h,rel,fin⟩=>⟨ρ,γ,h,rel,(Fin.bind fin).mono λx ρ1 h1 H1 p1 e1 r1 f1 v rv=>by
 cases x<;>first|exact(show False from f1).elim|skip
 rename_i i;simp only[RD]at rv;exact⟨i,rv,f1 ρ1 H1 (Pre.refl _) (Ext.refl _ _) r1⟩⟩⟩
def z3G (ma:G->M D) (ml mh:G->M (Option Int)):G->M D:=λγ=>do
 let x <- ma γ;let lo <- ml γ;let hi <- mh γ
 fSl x lo hi
theorem z9K {ρ:List Addr}{h:AH}{H:Hp}{x:D}{v:V}{lo hi:Option Int}{Q:VK}(r:RH X.K ρ h H) (rx:RD X.K ρ H x v) (fin:FE X.K EX ρ H Q (fSl x lo hi h)):rSlL X.K v lo hi H Q\/rSlT X.K v lo hi H Q\/rSlW X.K v lo hi H Q:=by
 cases x<;>first|exact(show False from fin).elim|skip
 case tup xs =>
  have rx':=rx;simp only[RD]at rx;obtain⟨q,vs,rfl,h1,h2⟩:=rx;have fin':FE X.K EX ρ H Q (.ok (.tup (cutD xs lo hi)) h):=fin;by_cases hw:HT.sIx vs.length 0 lo=0/\HT.sIx vs.length vs.length hi=vs.length
  ·refine .inr (.inr ⟨q,vs,rfl,h1,hw,FE.here fin' r ?_⟩);have e:cutD xs lo hi=xs:=by
    unfold cutD;rw[h2.length,hw.1,hw.2,List.drop_zero,Nat.sub_zero,<- h2.length,K4q]
   rw[e];exact rx'
  ·exact .inr (.inl ⟨q,vs,rfl,h1,hw,λp hp=>FE.tup fin' r (z3v h2 lo hi) hp⟩)
 case fl xs =>
  simp only[RD]at rx;obtain⟨q,vs,rfl,h1,h2⟩:=rx;have fin':FE X.K EX ρ H Q (newL (cutD xs lo hi) h):=fin;unfold newL at fin';split at fin'
  ·exact .inl ⟨q,vs,rfl,h1.sq,λp hp=>FE.lst fin' r (z3v h2 lo hi) hp⟩
  ·exact fin'.elim
 case ref n =>
  simp only[RD]at rx;obtain⟨q,rfl,h1⟩:=rx;have fin':FE X.K EX ρ H Q ((getL n >>= λxs=>newL (cutD xs lo hi)) h):=fin;have f1:=Fin.bind fin';cases e:getL n h with
  | bad=>rw[e]at f1;exact f1.elim
  | err z hz=>exact(z0r e).elim
  | ok xs h2 =>
   obtain⟨rfl,q1⟩:=z0u e;rw[e]at f1;have f2:=f1 ρ H (Pre.refl _) (Ext.refl _ _) r;dsimp only at f2;unfold newL at f2;split at f2
   ·obtain⟨a1,n1,vs,o1,d1⟩:=r.at q1;rw[h1]at n1;cases n1;exact .inl ⟨q,vs,rfl,SqL.of o1,λp hp=>FE.lst f2 r (z3v d1 lo hi) hp⟩
   ·exact f2.elim
theorem z6s {lo hi:Option Expr}{ml mh:G->M (Option Int)}(ha:SE X EX a ma) (hl:SO X EX lo ml) (hh:SO X EX hi mh):SE X EX (.Subscript a (.Slice lo hi none p2) pos) (z3G ma ml mh) :=
 ⟨PE.imp (z6X (sl_list.or (sl_tup.or z6L)) ha.h hl.h hh.h) λσ H Q ⟨ρ,γ,h,rel,fin⟩=>⟨ρ,γ,h,rel,(Fin.bind fin).mono λx ρ1 h1 H1 p1 e1 r1 f1 v rv=>⟨ρ1,γ,h1,⟨rel.g.mono p1 e1,r1⟩,(Fin.bind f1).mono λl ρ2 h2 H2 p2 e2 r2 f2 =>
  ⟨ρ2,γ,h2,⟨(rel.g.mono p1 e1).mono p2 e2,r2⟩,(Fin.bind f2).mono λu ρ3 h3 H3 p3 e3 r3 f3=>z9K r3 ((rv.mono p2 e2).mono p3 e3) f3⟩⟩⟩⟩
end
def leS (a b:Str):Bool:=!decide (b.cps.toList<a.cps.toList)
theorem z2Y {a b c:Str}(h1:leS a b=true) (h2:leS b c=true):leS a c=true:=by
 simp only[leS,K2r,decide_eq_false_iff_not]at *;exact K3j.mpr (List.le_trans (K3j.mp h1) (K3j.mp h2))
theorem z4G (a b:Str):(leS a b||leS b a)=true:=by
 simp only[leS,K24,K2r,decide_eq_false_iff_not];rcases List.le_total a.cps.toList b.cps.toList with h|h
 ·exact .inl (K3j.mpr h)
 ·exact .inr (K3j.mpr h)
theorem z51 {a b:Str}(h:a.cps.toList=b.cps.toList):a=b:=by
 cases a;cases b;congr 1;exact Array.toList_inj.mp h
theorem z6I {a b:Str}(h1:leS a b=true) (h2:leS b a=true):a=b:=by
 simp only[leS,K2r,decide_eq_false_iff_not]at *;exact z51 (K8w (K3j.mp h1) (K3j.mp h2))
def z09 (l:List Str):List Str:=l.mergeSort leS
theorem z4t (l:List Str):(z09 l).Perm l:=K2z l leS
theorem z6A (l:List Str):(z09 l).Pairwise (λa b=>leS a b=true):=K47 (le:=leS) (λa b c h1 h2=>z2Y h1 h2) z4G l
theorem z2I:∀(p:Str) (l:List Str),risingS p l=true->(p::l).Pairwise (λa b=>leS a b=true)
 | p,[],_=>by simp
 | p,x::r,h=>by
  have h':(!ltCps x.cps.toList p.cps.toList&&risingS x r)=true:=h;rw[K0b,ltCps_eq]at h';have ih:=z2I x r h'.2;have px:leS p x=true:=h'.1;refine List.pairwise_cons.mpr ⟨λy hy=>?_,ih⟩;rcases K1h.mp hy with rfl|hy
  ·exact px
  ·exact z2Y px ((List.pairwise_cons.mp ih).1 y hy)
theorem z6b {l l':List Str}(p:l'.Perm l) (h:sortedS l'=true):l'=z09 l:=by
 have pw:l'.Pairwise (λa b=>leS a b=true):=by
  cases l' with
  | nil=>exact .nil
  | cons x r=>exact z2I x r h
 exact K66 (λa b _ _=>z6I) pw (z6A l) (p.trans (z4t l).symm)
def leI (a b:Int):Bool:=decide (a<=b)
def sortI (l:List Int):List Int:=l.mergeSort leI
theorem sortI_perm (l:List Int):(sortI l).Perm l:=K2z l leI
theorem z3T (l:List Int):(sortI l).Pairwise (λa b=>a<=b):=by
 have:=K47 (le:=leI) (λa b c h1 h2=>by simp only[leI,decide_eq_true_eq]at *;omega) (λa b=>by simp only[leI,K24,decide_eq_true_eq];omega) l;exact this.imp λh=>by simpa [leI] using h
theorem z49 {l l':List Int}(p:l'.Perm l) (h:l'.Pairwise (·<=·)):l'=sortI l :=
 K66 (λa b _ _ h1 h2=>Int.le_antisymm h1 h2) h (z3T l) (p.trans (sortI_perm l).symm)
def z1w:List D->Option (List Str)
 | []=>some []
 | .str b::r=>(z1w r).map (b::·)
 | _::_=>none
def z1v:List D->Option (List Int)
 | []=>some []
 | .int b::r=>(z1v r).map (b::·)
 | _::_=>none
def x8:List D->M D
 | [.ref n]=>do
  let xs <- getL n
  if xs.length<64 then (match z1w xs with
   | some ss=>newL ((z09 ss).map .str)
   | none=>(match z1v xs with
    | some ns=>newL ((sortI ns).map .int)
    | none=>bad)) else bad
 | _=>bad
theorem z47 {K:K0}{ρ:List Addr}{H:Hp}:∀{xs:List D}{bs:List Str}{vs:List V},z1w xs=some bs->RDs K ρ H xs vs->vs=bs.map V.str
 | [],bs,vs,e,r=>by simp only[RDs]at r;cases e;subst r;rfl
 | x::xs,bs,vs,e,r=>by
  simp only[RDs]at r;obtain⟨v,r2,rfl,h1,h2⟩:=r;cases x<;>first|(simp only[z1w]at e;cases e;done)|skip
  rename_i b;simp only[z1w]at e;obtain⟨bs',e1,rfl⟩:=K1b.mp e;simp only[RD]at h1;subst h1;rw[z47 e1 h2];rfl
theorem z2D {K:K0}{ρ:List Addr}{H:Hp}:∀{xs:List D}{bs:List Int}{vs:List V},z1v xs=some bs->RDs K ρ H xs vs->vs=bs.map V.int
 | [],bs,vs,e,r=>by simp only[RDs]at r;cases e;subst r;rfl
 | x::xs,bs,vs,e,r=>by
  simp only[RDs]at r;obtain⟨v,r2,rfl,h1,h2⟩:=r;cases x<;>first|(simp only[z1v]at e;cases e;done)|skip
  rename_i b;simp only[z1v]at e;obtain⟨bs',e1,rfl⟩:=K1b.mp e;simp only[RD]at h1;subst h1;rw[z2D e1 h2];rfl
theorem z43:∀{bs:List Str}{us:List Value},Vals (bs.map V.str) us->StrsAre us bs
 | [],us,h=>by cases h;exact .nil
 | b::bs,us,h=>by
  cases h with
  | cons h1 h2=>obtain⟨t,rfl⟩:=h1;exact .cons b t (z43 h2)
theorem z48:∀{us:List Value}{bs:List Str},StrsAre us bs->Vals (bs.map V.str) us
 | _,_,.nil=>.nil
 | _,_,.cons y t r=>.cons ⟨t,rfl⟩ (z48 r)
theorem z3M:∀{us:List Value}{bs:List Int},K6i us bs->Vals (bs.map V.int) us:=λh=>z1K h
section
variable {X:Cx}{EX:XX}{a:Expr}{p pos:Pos}{mr:G->M (List D)}
theorem z3i:CallR X (.builtin "sorted") (λxs H Q=>∃l ys,xs=[.ref l]/\SqL X.K H l ys/\ys.length<64 /\
 ((∃ss,ys=ss.map V.str/\∀q,H q=none->Q (.ref q) (upd H q (.lst ((z09 ss).map V.str))))\/(∃ns,ys=ns.map V.int/\∀q,H q=none->Q (.ref q) (upd H q (.lst ((sortI ns).map V.int)))))):=by
 intro pins s σ H xs us Q I r h;obtain⟨l,ys,rfl,hq,h64,h⟩:=h;obtain⟨u,rfl,ru⟩:=vals1 r;cases ru;obtain⟨its,rv,pl,hz⟩:=I.list hq;have hl:=rv.length;have fin:∀(out:Array Value) (zs:List V),Vals zs out.toList->zs.length=ys.length->(∀q,H q=none->Q (.ref q) (upd H q (.lst zs)))->EP X pins σ Q (.ref (s.heap.objs.size+1)) { s with heap:=sortedAll s.heap its out }:=λout zs h1 h2 h3=>by
  obtain⟨e,he⟩:=sortedAll_at s.heap its out;refine⟨.ref (s.heap.objs.size+1),_,I.laid (t':=s.toks) (o:=.lst zs) (λb o q=>sortedAll_old q) (K5w _) ⟨by omega,out.toList,e,h1,?_⟩,rfl,h3 _ (I.hok.fresh (K5w _))⟩;rw[he]
 rcases h with ⟨ss,rfl,h⟩|⟨ns,rfl,h⟩
 ·refine sorted_strs pl.isList (z43 rv) (by omega) λout ss' h1 h2 h3=>?_;have e:=z6b h2 h3;subst e;exact fin out _ (z48 h1) (by rw[K0j,K0j,h2.length_eq]) h
 ·have hi:K6i its ns:=L2.intsAre_of rv;refine sorted_ints pl.isList hi (by omega) λout ns' h1 h2 h3=>?_;have e:=z49 h2 h3;subst e;exact fin out _ (z3M h1) (by rw[K0j,K0j,h2.length_eq]) h
theorem z3L {K:K0}{ρ:List Addr}{H:Hp}:∀(l:List Str),RDs K ρ H (l.map .str) (l.map V.str)
 | []=>RDs.nil
 | x::r=>RDs.cons (by simp[RD]) (z3L r)
theorem z1A {K:K0}{ρ:List Addr}{H:Hp}:∀(l:List Int),RDs K ρ H (l.map .int) (l.map V.int)
 | []=>RDs.nil
 | x::r=>RDs.cons (by simp[RD]) (z1A r)
theorem z57:AR X.K EX (λxs H Q=>∃l ys,xs=[.ref l]/\SqL X.K H l ys/\ys.length<64 /\
 ((∃ss,ys=ss.map V.str/\∀q,H q=none->Q (.ref q) (upd H q (.lst ((z09 ss).map V.str))))\/(∃ns,ys=ns.map V.int/\∀q,H q=none->Q (.ref q) (upd H q (.lst ((sortI ns).map V.int)))))) x8:=by
 intro ρ h H ds vs Q r rd fin;unfold x8 at fin;split at fin
 ·rename_i n;obtain⟨v,rfl,rv⟩:=rds1 rd;have f1:=Fin.bind fin;cases e:getL n h with
  | bad=>rw[e]at f1;exact f1.elim
  | err z hz=>exact(z0r e).elim
  | ok xs h1 =>
   obtain⟨rfl,q1⟩:=z0u e;rw[e]at f1;have f2:=f1 ρ H (Pre.refl _) (Ext.refl _ _) r;dsimp only at f2;simp only[RD]at rv;obtain⟨q,rfl,h2⟩:=rv;obtain⟨a1,n1,ws,o1,d1⟩:=r.at q1;rw[h2]at n1;cases n1;by_cases hl:xs.length<64
   ·rw[if_pos hl]at f2;refine⟨q,ws,rfl,SqL.of o1,by rw[<- d1.length];exact hl,?_⟩;cases eb:z1w xs with
    | some ss =>
     rw[eb]at f2;have f3:FE X.K EX ρ H Q (newL ((z09 ss).map .str) h1):=f2;unfold newL at f3;split at f3
     ·exact .inl ⟨ss,z47 eb d1,λp hp=>FE.lst f3 r (z3L _) hp⟩
     ·exact f3.elim
    | none =>
     rw[eb]at f2;cases en:z1v xs with
     | some ns =>
      rw[en]at f2;have f3:FE X.K EX ρ H Q (newL ((sortI ns).map .int) h1):=f2;unfold newL at f3;split at f3
      ·exact .inr ⟨ns,z2D en d1,λp hp=>FE.lst f3 r (z1A _) hp⟩
      ·exact f3.elim
     | none=>rw[en]at f2;exact(show False from f2).elim
   ·rw[if_neg hl]at f2;exact(show False from f2).elim
 ·exact fin.elim
theorem z1Q (hc:X.calm=true) (hg:Gl X "sorted") (hm:X.mg "sorted" = none) (ha:SA X EX [a] mr) (he:K07 [a] X.env=[(false,eval a X.env)]:=by rfl):SE X EX (.Call (.Name "sorted" p) [a] [] pos) (Z5 x8 mr) :=
 z0I (z0P z3i hg hm boot_sorted ha.h (by decide) (by decide) he rfl) z57
end
@[simp] theorem bindM {α β:Type} (m:M α) (f:α->M β) (h:AH):(m >>= f) h=match m h with
 | .ok a h1=>f a h1
 | .err x h1=>.err x h1
 | .bad=>.bad:=rfl
@[simp] theorem pureM {α:Type} (a:α) (h:AH):(K7i a:M α) h=.ok a h:=rfl
@[simp] theorem badM {α:Type} (h:AH):(bad:M α) h=.bad:=rfl
@[simp] theorem iteM {α:Type} {c:Prop} [Decidable c] (a b:M α) (h:AH):(if c then a else b) h=if c then a h else b h:=by split<;>rfl
def Pu {α:Type} (m:M α) (a:α):Prop:=∀h,∃j,m h=.ok a (h++j)
theorem Pu.pure {α:Type}(a:α):Pu (K7i a:M α) a:=λh=>⟨[],by simp⟩
theorem Pu.bind {α β:Type}{m:M α}{f:α->M β}{a:α}{b:β}(h1:Pu m a) (h2:Pu (f a) b):Pu (m >>= f) b:=λh=>by
 obtain⟨j,e⟩:=h1 h;obtain⟨j',e'⟩:=h2 (h++j);exact⟨j++j',by rw[M.bind_ok e,e',K0e]⟩
theorem Pu.of {α:Type}{m:M α}{a:α}(h:∀x,m x=.ok a x):Pu m a:=λx=>⟨[],by rw[h];simp⟩
theorem Rise.lt {xs:Array Nat}(h:Rise xs) {i j a b:Nat}(ha:xs[i]?=some a) (hb:xs[j]?=some b) (hij:i<j):a<b:=by
 obtain⟨h1,e1⟩:=K59.mp ha;obtain⟨h2,e2⟩:=K59.mp hb;have:=K5q.mp h i j (by simpa using h1) (by simpa using h2) hij;simp only[Array.getElem_toList]at this;rw[e1,e2]at this;exact this
section
variable {P:K0a}{w:World}
theorem z1h {α β:Type}{R:α->β->Prop}:∀{ks:List α}{l:List β}{x:β},Paired R ks l->x∈l->∃k∈ks,R k x
 | _,_,_,.cons a b,h=>by
  rcases K1h.mp h with rfl|h
  ·exact⟨_,K1d,a⟩
  ·obtain⟨k,h1,h2⟩:=z1h b h;exact⟨k,K0x _ h1,h2⟩
theorem z21 {α β:Type}{R:α->β->Prop}:∀{ks:List α}{l:List β}{k:α},Paired R ks l->k∈ks->∃x∈l,R k x
 | _,_,_,.cons a b,h=>by
  rcases K1h.mp h with rfl|h
  ·exact⟨_,K1d,a⟩
  ·obtain⟨k,h1,h2⟩:=z21 b h;exact⟨k,K0x _ h1,h2⟩
theorem z6e {k:Key}{v:Value}(h:z1n k v=true):v.scannable=true:=by
 rcases Z6 h with ⟨i,t,rfl,rfl⟩|⟨x,t,rfl,rfl⟩<;>rfl
theorem z6E {ks:List Key}{l:List (Int×Value)}(h:Paired (KE w) ks l):ElemsOf (J1 P w) l:=λe he=>by
 obtain⟨k,_,h1,h2⟩:=z1h h he;exact⟨⟨k,h1,h2⟩,z6e h1⟩
theorem z80 {k k':Key}{v:Value}(h:z1n k v=true) (h':z1n k' v=true):k=k':=by
 rcases Z6 h with ⟨i,t,rfl,rfl⟩|⟨x,t,rfl,rfl⟩
 ·rcases Z6 h' with ⟨j,u,rfl,e⟩|⟨y,u,rfl,e⟩
  ·cases e;rfl
  ·cases e
 ·rcases Z6 h' with ⟨j,u,rfl,e⟩|⟨y,u,rfl,e⟩
  ·cases e
  ·cases e;rfl
theorem mem_of {ks:List Key}{l:List (Int×Value)}(h:Paired (KE w) ks l) (k:Key):k∈ks↔∃e∈l,z1n k e.2=true:=by
 constructor
 ·intro hk;obtain⟨e,h1,h2,_⟩:=z21 h hk;exact⟨e,h1,h2⟩
 ·rintro⟨e,h1,h2⟩;obtain⟨k',h3,h4,_⟩:=z1h h h1;exact z80 h2 h4 ▸ h3
theorem SetAt.setOf {h:Heap}{a:Addr}{ks:List Key}(x:SetAt w h a ks):h.SetOf (J1 P w) a (λk=>decide (k∈ks)) ks.length:=by
 obtain⟨o,es,ep,t,ks',h1,h2,h3,h4,h5,h6,h7,h8,h9,_⟩:=x;refine⟨o,es,ep,t,h1,h2,h3,z6E h4,λk=>?_,h7,h8,?_⟩
 ·rw[decide_eq_true_eq,<- h5.mem_iff];exact mem_of h4 k
 ·rw[<- h5.length_eq,K3q h4,K20]
theorem SetAt.stay {h h':Heap}{a:Addr}{ks:List Key}(x:SetAt w h a ks) (k:∀o,h.get? a=some o->h'.get? a=some o):SetAt w h' a ks:=by
 obtain⟨o,es,ep,t,ks',h1,h2⟩:=x;exact⟨o,es,ep,t,ks',k o h1,h2⟩
variable {A:Around}{E:Value->Shared->Prop}{s:Shared}{a:Addr}
end
def putK (acc:List Key) (k:Key):List Key:=if k∈acc then acc else acc++[k]
section
variable {P:K0a}{w:World}{A:Around}{E:Value->Shared->Prop}{s:Shared}{a:Addr}
theorem SetAt.typeIs {ks:List Key}(x:SetAt w s.heap a ks):s.TypeIs (.ref a) "set":=(x.setOf (P:=default)).typeIs
end
section
variable {P:K0a}{w:World}{A:Around}{R:Result->Shared->Prop}{I:Addr}{fp wr:List Addr}{G:Array K4w->Array K4w->Prop}{n:Nat}{PV:Nat->Value->Prop}{St:Nat->Shared->Prop}
end
section
variable {P:K0a}{w:World}{A:Around}{E:Value->Shared->Prop}{s:Shared}
end
section
variable {P:K0a}{w:World}{A:Around}{E:Value->Shared->Prop}{s:Shared}
end
section
variable (w:World) (S:Addr) (es:Array (Int×Value)) (ep:Nat) (t:SetTable)
inductive Stand (h:Heap) (i:Nat):Value->List (Int×Value)->Prop where
 | txt (b:w.params.followText "set-order" = true):Stand h i (rawInt 0) (pickOrder (w.params.setOrder S ep) es).toList
 | drw (T:Addr) (pl:List Nat) (b:w.params.followText "set-order" = false) (hT:∃o n,h.get? T=some o/\o.data=.seq (pl.map λ(j:Nat)=>rawInt j).toArray n) (hp:pl.Perm (K0u es.size)):Stand h i (.ref T) (pl.filterMap λj=>es[j]?)
 | slo (sl:Nat) (b:w.params.followText "set-order" = false) (c:(!t.plain&&decide (es.size > 1))=false) (l:t.led=true) (e:SetTable.below t.place sl=i):Stand h i (rawInt sl) es.toList
end
section
variable {P:K0a}{w:World}{A:Around}{E:Value->Shared->Prop}{s:Shared}{S I:Addr}{es:Array (Int×Value)}{ep:Nat}{t:SetTable}{i:Nat}{f:Value}{ord:List (Int×Value)}{o:Obj}
end
section
variable {P:K0a}{w:World}{A:Around}{E:Value->Shared->Prop}{s:Shared}{S:Addr}{es:Array (Int×Value)}{ep:Nat}{t:SetTable}{o:Obj}
end
section
variable {X:Cx}
end
section
variable {P:K0a}{w:World}{A:Around}{E:Value->Shared->Prop}{s:Shared}
end
def keyD:D->Option Key
 | .int i=>some (.inl i)
 | .str x=>some (.inr x)
 | _=>none
section
variable {X:Cx}{EX:XX}{a o:Expr}{p pos apos cpos:Pos}{ma mo:G->M D}{mr:G->M (List D)}
end
theorem z98 {P:K0a}{w:World}{K:K0}{mg:Str->Option Value}{base:Heap}{x:Str}{st:Stmt}{f:Addr}{fd:K1l}{N ps:List Str}{k n:Nat}{mb:G->M Out}(F:Fun K x x st f fd) (S:FnScope N ps (Z3 st)) (hb:Binds K fd ps []) (mx:mg x=.(r f)) (hn:ps.length=n)
 (body:∀(cdv:Value) (A:Around) (outer:List Env) (s:Shared) (H:Hp) (E:XK),K29 K cdv x=true->Room k (A.deeper (envOfC x (Z3 st) s.heap.objs.size f cdv)) ->
  SB (cxOf CX0 P w K mg base N x (Z3 st) f cdv A outer s H E).nox EX0 (J4 st) mb):Fn P w K mg base (k+1) x n (runF N.length mb):=by
 refine⟨f,fd,ps,?_,hb,F.kp,mx⟩;obtain⟨oc,od,kV,doc,pm,an,cdv,ct,osl,rfl,lk,hcd⟩:=F.ex;refine z7N lk hcd S (λvs H Q E h=>h.1.trans hn.symm) λA outer s H vs Q E hr h=>?_;obtain⟨hl,ρ,ds,h,rh,rd,fin⟩:=h;refine⟨_,(body cdv A outer s H E hcd hr).h.nox,ρ,z07 N.length ds,h,⟨z1X rd,rh⟩,?_⟩;refine(Fin.bind fin).mono λo ρ1 h1 H1 p1 e1 r1 f1=>?_;cases o with
 | nx γ=>exact λσ _=>FE.here (d:=.non) (h:=h1) f1 r1 (by simp[RD])
 | rt d=>exact λv rv=>f1 ρ1 H1 (Pre.refl _) (Ext.refl _ _) r1 v rv
 | bk γ=>exact(show False from f1).elim
 | ct γ=>exact(show False from f1).elim
section
variable {X:Cx}
end
section
variable {X:Cx}{EX:XX}
end
theorem z60 (t:Addr) (items:Array Value) :
 Meets (Builtin.«enumerate.__new__» ⟨[.type "enumerate",.ref t],[]⟩) (λ_ R s=>s.heap.IsTuple t items /\
  R (.ok (.ret (.ref (s.heap.push { cls:=.type "tuple_iterator",data:=.fields #[.ref t,.int 0 0] }).objs.size)))
   { s with heap:=(s.heap.push { cls:=.type "tuple_iterator",data:=.fields #[.ref t,.int 0 0] }).push { cls:=.type "enumerate",data:=.fields #[.none,.bool false,.ref s.heap.objs.size,rawInt 0,.none,.none] } }) :=
 .of_wp λprog w A R s h=>by
  obtain⟨hp,g,d,tk,os⟩:=s;obtain⟨q1,h⟩:=h;have hsub:=sub_enumerate;have L1:Heap.IsTuple (Shared.heap ⟨hp,g,d,tk,os⟩) t items:=q1
  wp_walk
  refine wpAny_stack_any λst=>K04 ?_;split
  ·rename_i c _ _ _ _ _;cases (c==K7x "enumerate")
   ·wp_walk using K40 L1
    exact⟨_,rfl,h⟩
   ·wp_walk using K40 L1
    exact⟨_,rfl,h⟩
  ·wp_walk using K40 L1
   exact⟨_,rfl,h⟩
theorem z7f {P:K0a}{w:World}{A:Around}(hh:A.handled=none) (it t:Addr) (hne:t≠it) (items:Array Value) :
 Draws P w A it [it,t] items.size (λi v=>items[i]?=some v) (λi h=>h.IsTupleIter it t i/\h.IsTuple t items) where
 live:=λ_ _ st=>let ⟨o,ho,_⟩:=st.1;⟨o,ho⟩
 frame:=λ_ _ _ st hk=>⟨st.1.at λo e=>hk it (by simp) o e,st.2.at λo e=>hk t (by simp) o e⟩
 item:=λi s Q E hi st hQ=>z8W st.1 st.2 (x:=items[i]) (by simp[hi]) λh' hit sb=>hQ _ h' s.toks (by simp[hi]) ⟨hit,st.2.extBut sb.extBut hne⟩ sb
 done:=λs Q E st hE=>ze7 hh st.1 st.2 (by simp) hE
def Ite (K:K0) (t:Addr):It :=
 ⟨λi H=>∃xs x,SqT K H t xs/\xs[i]?=some x,
  λi H v H'=>∃T x,H T=none/\v=.ref T/\(∀xs,SqT K H t xs->xs[i]?=some x)/\H'=upd H T (.tup [.int i,x]),
  λi H=>∃xs,SqT K H t xs/\xs.length=i⟩
theorem z4N {P:K0a}{w:World}{K:K0}{elts:List Expr}{kk:Nat}{pos:Pos}{e it t:Addr}(d1:e≠it) (d2:t≠it) (d3:e≠t) :
 Turn P w K (.Tuple elts kk pos) (Ite K t) [e,it] e (λi h=>(∃old,IsEnum h e it i old)/\h.IsTupleIter it t i) where
 mem:=by simp
 obj:=λi h st b hb=>by
  obtain⟨⟨old,ee⟩,o,ei,_,di⟩:=st;simp at hb;rcases hb with rfl|rfl
  ·exact⟨_,ee,λv q=>by cases q⟩
  ·exact⟨_,ei,λv q=>by rw[di]at q;cases q⟩
 keep:=λi h h' st k=>by
  obtain⟨⟨old,ee⟩,g⟩:=st;exact⟨⟨old,k e (by simp) _ ee⟩,g.at λo q=>k it (by simp) o q⟩
 item:=by
  intro X hP hw hK hc i pins s σ H E I hf st hg;subst hP hw hK;obtain⟨xs,x,q1,hx⟩:=hg;obtain⟨its,rv,pl,hz⟩:=I.tuple q1;obtain⟨u,hu,ru⟩:=rv.get hx;obtain⟨⟨old,ee⟩,g⟩:=st;have hi:i<its.toArray.size:=by
   have:=(K4.mp hu).1;simpa using this
  have pT:s.heap.IsTuple t its.toArray:=pl;refine wpAny_pyNext_enum_itemD (z7f (by simp[I.ok.hd hc]) it t d2 its.toArray) ee ⟨g,pT⟩ hi d1 (by simp[d1,d3]) λy h' tk hy eo st' gT sz kp=>?_;have ey:y=u:=by
   have:its.toArray[i]?=some u:=by simpa using hu
   rw[hy]at this;exact K0p this
  subst ey;refine⟨_,rfl,wpAny_letOwnedTupleGo_enum eo λh2 eo2 sb=>?_⟩;have elt:e<s.heap.objs.size:=K09 ee;have ilt:it<s.heap.objs.size:=by obtain⟨o,q,_⟩:=g;exact K09 q
  have hT:IsTup0 h2 s.heap.objs.size [K7h i tk,y].toArray:=⟨_,(sb.2 _ (K3l elt)).trans gT,⟨rfl,rfl⟩,_,rfl⟩;have J:=zk4 (t:=tk+1) (ch:=[e,it]) (T:=s.heap.objs.size) (vs:=[.int i,x]) (its:=[.int i tk,y]) (h2:=h2) I hf
   (λb o hb q=>by simp at hb;exact(sb.2 b hb.1).trans (kp b o hb.1 hb.2 q)) (K08 _) hT (.cons ⟨tk,rfl⟩ (.cons ru .nil)) (by show 2<=sizeLine;decide)
  refine⟨.ref s.heap.objs.size,_,J,rfl,⟨_,x,I.hok.fresh (K08 _),rfl,λxs' h'=>by rw[I.tuple_inj h' q1];exact hx,rfl⟩,?_,λb hb=>?_⟩
  ·exact⟨⟨_,by simpa using eo2⟩,st'.1.at λo q=>(sb.2 _ (K55 d1)).trans q⟩
  ·have:b<s.heap.objs.size:=by
    simp at hb;rcases hb with rfl|rfl
    ·exact elt
    ·exact ilt
   rw[Z7 (K0q this)];exact(hf b hb).1
 done:=by
  intro X hP hw hK hc i pins s σ H E I hf st hg;subst hP hw hK;obtain⟨xs,q1,hl⟩:=hg;obtain⟨its,rv,pl,hz⟩:=I.tuple q1;obtain⟨⟨old,ee⟩,g⟩:=st;have l1:=rv.length;have pT:s.heap.IsTuple t its.toArray:=pl;have en:i=its.toArray.size:=by simp;omega
  refine wpAny_pyNext_enum_endD (z7f (by simp[I.ok.hd hc]) it t d2 its.toArray) ee ⟨by rw[<- en];exact g,pT⟩ λh' eb=>⟨rfl,?_⟩;have hf':∀b∈[it],FpOk X pins H b:=λb hb=>hf b (by simp at hb;simp[hb]);refine I.step (g':=s.gens) (t':=s.toks) (d':=s.drawn) (ch:=[it]) (λb hb=>⟨(hf' b hb).2.2.2.1,(hf' b hb).2.1,(hf' b hb).2.2.2.2.1,(hf' b hb).2.2.2.2.2⟩) (λb o _ _ hc e _=>?_) (λb o _ _ hc e _=>⟨o.slots,?_⟩)
   (λ_ _ _ _ n=>n) (λb o hc e=>⟨o,?_⟩) (λ_ _ e=>e) (λ_ _ _ e=>e) (λb ps e=>⟨#[],by rw[e];simp⟩) (λm hm=>?_) (λb u e=>?_) I.bare
  ·simp at hc;exact eb b o hc e
  ·simp at hc;exact eb b o hc e
  ·simp at hc;exact eb b o hc e
  ·obtain⟨o,es,ep,q,r⟩:=hm;exact⟨o,es,ep,eb _ o (λy=>(hf' it (by simp)).2.1 y.symm) q,r⟩
  ·refine(I.hok b u e).stay (λc v hc q=>?_) (λ_ q=>q) λ_ _ q=>q;refine eb c v (λy=>?_) q;subst y;rcases hc with y|y
   ·rw[<- y,(hf' c (by simp)).1]at e;cases e
   ·rw[(hf' c (by simp)).1]at y;cases y
 self:=λ_ _ _ _ _ st h=>by
  obtain⟨⟨old,ee⟩,g⟩:=st;exact wpAny_pyIter_enum ee h
section
variable {X:Cx}{EX:XX}{a:Expr}{elts:List Expr}{kk:Nat}{p pos pt:Pos}{ma:G->M D}
def z9t (K:K0) (ta:TA):TI:=λσ H R=>ta σ H λvs H2=>∃t xs,vs=[.ref t]/\SqT K H2 t xs/\R (Ite K t) H2
theorem z7u {ta:TA}(hg:Gl X "enumerate") (hm:X.mg "enumerate" = none) (ha:PA X [a] ta) (hs:K07 [a] X.env=[(false,eval a X.env)]:=by rfl):PI X (.Tuple elts kk pt) (.Call (.Name "enumerate" p) [a] [] pos) (z9t X.K ta):=by
 intro pins s σ H R I h;refine Call_ (z39 I hg hm boot_enumerate (K3e (thn (ha pos pins s σ H _ I h) λus s1 ⟨vs,H1,I1,r1,q1⟩=>?_) (by rw[hs];rfl) rfl));obtain⟨t,xs,e,q2,q⟩:=q1;subst e;obtain⟨u,rfl,ru⟩:=vals1 r1;cases ru;obtain⟨its,rv,pl,hz⟩:=I1.tuple q2;have pT:s1.heap.IsTuple t its.toArray:=pl;have lt:t<s1.heap.objs.size:=by obtain⟨o,e,_⟩:=pl;exact K09 e
 refine callType_new PySem.F.called_enumerate (by decide) (PySem.F.typeCall_enumerate_1 _) (PySem.F.newCall_enumerate_1 _) (λobj=>PySem.F.args_object_init_2 obj _) PySem.F.entry_enumerate_new (z60 t its.toArray) ⟨pT,?_⟩;have y1:(s1.heap.push { cls:=.type "tuple_iterator",data:=.fields #[.ref t,.int 0 0] }).objs.size=s1.heap.objs.size+1:=K4e ..;have x2:((s1.heap.push { cls:=.type "tuple_iterator",data:=.fields #[.ref t,.int 0 0] }).push { cls:=.type "enumerate",data:=.fields #[.none,.bool false,.ref s1.heap.objs.size,rawInt 0,.none,.none] }).get? (s1.heap.objs.size+1)=some { cls:=.type "enumerate",data:=.fields #[.none,.bool false,.ref s1.heap.objs.size,rawInt 0,.none,.none] }:=by rw[<- y1];exact K0l _ rfl
 have x1:((s1.heap.push { cls:=.type "tuple_iterator",data:=.fields #[.ref t,.int 0 0] }).push { cls:=.type "enumerate",data:=.fields #[.none,.bool false,.ref s1.heap.objs.size,rawInt 0,.none,.none] }).get? s1.heap.objs.size=some { cls:=.type "tuple_iterator",data:=.fields #[.ref t,.int 0 0] }:=K8 _ (K0l _ rfl);show _/\_;rw[y1];refine⟨⟨_,x2,rfl⟩,wpAny_pyIter_enum (e:=s1.heap.objs.size+1) (it:=s1.heap.objs.size) (i:=0) (old:=.none) x2 ?_⟩;refine⟨s1.heap.objs.size+1,_,_,_,H1,rfl,I1.kept (t':=s1.toks) (λc o q=>K8 _ (K8 _ q)),z4N (it:=s1.heap.objs.size) (t:=t) (K3l (K6b _)) (K0q lt) (K3l (K8n lt)),⟨⟨_,x2⟩,⟨_,x1,rfl,rfl⟩⟩,λb hb=>?_,q⟩;have hb':s1.heap.objs.size<=b:=by
  simp at hb;rcases hb with rfl|rfl
  ·exact K5w _
  ·exact K08 _
 exact I1.fpOk hb' (I1.hok.fresh hb')
def z27 (xs:List D):List D:=(K0u xs.length).map λ(i:Nat)=>.tup [.int i,(xs[i]?).getD .non]
def z6P (ma:G->M D):G->M Src:=λγ=>do
 let l <- z5 ma aNil γ
 match l with
 | [.tup xs]=>pure (.con (z27 xs))
 | _=>bad
theorem z5Q {xs:List D}{i:Nat}{d:D}(h:(z27 xs)[i]?=some d):∃x,xs[i]?=some x/\d=.tup [.int i,x]:=by
 unfold z27 at h;rw[K0n]at h;obtain⟨j,e1,e2⟩:=K1b.mp h;obtain⟨h1,h2⟩:=K4.mp e1;simp at h1 h2;subst h2;rw[K6 h1]at e2;exact⟨_,K6 h1,e2.symm⟩
theorem z96 (hc:X.calm=true) (hg:Gl X "enumerate") (hm:X.mg "enumerate" = none) (ha:SE X EX a ma) (hs:K07 [a] X.env=[(false,eval a X.env)]:=by rfl):SI X EX (.Tuple elts kk pt) (.Call (.Name "enumerate" p) [a] [] pos) (z6P ma) :=
 ⟨PI.imp (z7u hg hm (z3 ha z9 hs).h hs) λσ H R ⟨ρ,γ,h,rel,fin⟩=>⟨ρ,γ,h,rel,(Fin.bind fin).mono λl ρ1 h1 H1 p1 e1 r1 f1 vs rv=>by
  split at f1
  ·rename_i xs;simp only[RDs,RD]at rv;obtain⟨_,_,rfl,⟨t,us,rfl,q1,d1⟩,rfl⟩:=rv;refine⟨t,us,rfl,q1,f1 ρ1 H1 (Pre.refl _) (Ext.refl _ _) r1 _ λi ρ2 h4 H2 p2 e2 r2 _=>⟨λd hd=>?_,λhi=>?_⟩⟩
   ·have hd':(z27 xs)[i]?=some d:=hd;obtain⟨x,g1,rfl⟩:=z5Q hd';obtain⟨v1,a1,b1⟩:=(d1.mono p2 e2).get g1;refine⟨⟨us,v1,e2.t _ _ q1,a1⟩,λv H3 ⟨T,x',n1,n2,n3,n5⟩=>?_⟩;have m1:=n3 us (e2.t _ _ q1);rw[a1]at m1;cases m1;subst n2;subst n5;have ext:Ext X.K H2 (L2.upd H2 T (.tup [.int i,v1])):=Ext.upd (.inl n1);refine⟨?_,r2.other n1,ext⟩;simp only[RD];exact⟨T,_,rfl,SqT.of J6,RDs.cons (by simp[RD]) (RDs.cons (b1.mono (Pre.refl _) ext) RDs.nil)⟩
   ·have hi':(z27 xs).length=i:=hi;unfold z27 at hi';rw[K0j,K2p]at hi';have l1:=d1.length;exact⟨us,e2.t _ _ q1,by omega⟩
  ·exact(show False from f1).elim⟩⟩
end
section
variable {X:Cx}{EX:XX}{elt tg iter tg1 iter1:Expr}{ifs1:List Expr}{sc:Scope}{pos:Pos}{N':List Str}{cap:List (Option Nat)}{own own1:List Nat}{mi mi1:G->M Src}{g g1:D->G->M G}{k:G->M Bool}{me:G->M D}
end
end FT
namespace L2
theorem range_all {α:Type}(r:List α):(K0u r.length).filterMap (λm=>r[m]?)=r:=by
 have:=pick_run r.toArray 0 r.length;rw[K87]at this;have e:((λx=>r.toArray[x]?) ∘ λx=>0+x)=λm=>r[m]?:=by funext m;simp
 rw[e]at this;rw[this];simp
section
variable {prog:K0a}{w:World}{A:Around}{E:Value->Shared->Prop}{s:Shared}
end
section
variable {X:Cx}{e st:Expr}{te ts:TE}{pos p2:Pos}
def RvR (X:Cx) (r:V->Hp->VK->Prop):Prop :=
 ∀(pins:List (Addr×Obj)) (s:Shared) (σ:St) (H:Hp) (x:V) (v:Value) (t:Tok) (sl:Addr) (Q:VK),Inv X pins σ H s->RelV x v->s.heap.IsSliceOf sl .none .none (.int (-1) t)->r x H Q ->
  ∃T id,typeLookup (.type T) "__getitem__" = pure (some (.builtin id))/\s.TypeIs v T/\wpAny (model X.prog X.w) X.A (K6g v (.ref sl)) (EP X pins σ Q) X.xe s
theorem RvR.or {r r':V->Hp->VK->Prop}(h:RvR X r) (h':RvR X r'):RvR X (λx H Q=>r x H Q\/r' x H Q):=by
 intro pins s σ H x v t sl Q I rx hs q;rcases q with q|q
 ·exact h pins s σ H x v t sl Q I rx hs q
 ·exact h' pins s σ H x v t sl Q I rx hs q
end
end L2
namespace FT
def eNeg (ma:G->M D):G->M D:=λγ=>do
 let x <- ma γ
 match x with
 | .int i=>pure (.int (-i))
 | _=>bad
def fInt:List D->M D
 | [.int i]=>pure (.int i)
 | [.bl b]=>pure (.int (if b then 1 else 0))
 | _=>bad
section
variable {X:Cx}{EX:XX}{a b st:Expr}{pos p p2:Pos}{ma ms:G->M D}{mr:G->M (List D)}
theorem z9V (ha:SE X EX a ma):SE X EX (.UnaryOp .USub a pos) (eNeg ma) :=
 ⟨PE.imp (zl7 z9y ha.h) λσ H Q ⟨ρ,γ,h,rel,fin⟩=>⟨ρ,γ,h,rel,(Fin.bind fin).mono λx ρ1 h1 H1 p1 e1 r1 f1 v rv=>by
  cases x<;>first|exact(show False from f1).elim|skip
  rename_i t;simp only[RD]at rv;exact⟨t,rv,FE.here (d:=.int (-t)) (h:=h1) (ρ:=ρ1) f1 r1 (by simp[RD])⟩⟩⟩
theorem ze0:AR X.K EX (λxs H Q=>(∃i,xs=[.int i]/\Q (.int i) H)\/∃k,xs=[.bl k]/\Q (.int (if k then 1 else 0)) H) fInt:=by
 intro ρ h H ds vs Q r rd fin;unfold fInt at fin;split at fin
 ·obtain⟨v,rfl,rv⟩:=rds1 rd;simp only[RD]at rv;subst rv;exact .inl ⟨_,rfl,FE.here fin r (by simp[RD])⟩
 ·obtain⟨v,rfl,rv⟩:=rds1 rd;simp only[RD]at rv;subst rv;exact .inr ⟨_,rfl,FE.here fin r (by simp[RD])⟩
 ·exact fin.elim
theorem z6V (hg:Gl X "int") (hm:X.mg "int" = none) (ha:SA X EX [a] mr) (he:K07 [a] X.env=[(false,eval a X.env)]:=by rfl):SE X EX (.Call (.Name "int" p) [a] [] pos) (Z5 fInt mr) :=
 z0I (z1I z5T hg hm (by decide +kernel) ha.h (by decide) (by decide) he rfl) ze0
end
end FT
namespace L2
structure Fly (base:Heap) (l:List Env) (e T:Addr) (cls:Value) (h:Heap):Prop where
 stays:base.StaysIn h
 ne:base.get? e=none
 nT:base.get? T=none
 fr:h.FunFrames base l
 tr:∃a0 oe vs oT ts,h.get? e=some oe/\(oe.cls=cls/\vs[0]?=some a0)/\oe.data=.fields vs/\vs[1]?=.(r T)/\T≠e/\h.get? T=some oT/\oT.data=.fields ts/\ts[3]?=some .none
theorem Fly.of {base:Heap}{l:List Env}{e:Addr}{cls a0:Value}{h:Heap}(x:Heap.FlyingW base l e cls a0 h):∃T,Fly base l e T cls h:=by
 obtain⟨f1,f2,f3,oe,vs,T,oT,ts,a1,a2,a3,a4,a5,a6,a7,a8,a9⟩:=x;exact⟨T,f1,f2,a5,f3,a0,oe,vs,oT,ts,a1,a2,a3,a4,a6,a7,a8,a9⟩
def bigB (h:Heap) (l:List Env) (e T:Addr):Heap:=K6u h (frs l++[e,T])
theorem z8l {h:Heap}{l:List Env}{e T b:Addr}{o:Obj}(q:(bigB h l e T).get? b=some o):h.get? b=some o:=K82 _ q
theorem z3a {h:Heap}{l:List Env}{e T b:Addr}(z:b∈frs l\/b=e\/b=T):(bigB h l e T).get? b=none :=
 K4v _ (K0f.mpr (by
  rcases z with z|rfl|rfl
  ·exact .inl z
  ·exact .inr (by simp)
  ·exact .inr (by simp)))
theorem z5A {base h:Heap}{as:List Addr}:∀{l:List Env},h.FunFrames base l->(∀b∈frs l,b∈as)->h.FunFrames (K6u h as) l
 | [],_,_=>trivial
 | env::r,⟨hk,⟨L,o,hf,_,ho,hd⟩,hr⟩,hin=>⟨hk,⟨L,o,hf,K4v _ (hin L (by unfold frs;rw[K30,hf];exact K1d)),ho,hd⟩,
  z5A hr λb hb=>hin b (by unfold frs at hb ⊢;rw[K30];cases env.frame with|none=>exact hb|some x=>exact K0x _ hb)⟩
theorem Fly.big {base:Heap}{l:List Env}{e T:Addr}{cls:Value}{h:Heap}(x:Fly base l e T cls h):∃a0,Heap.FlyingW (bigB h l e T) l e cls a0 h:=by
 obtain⟨a0,oe,vs,oT,ts,a1,a2,a3,a4,a6,a7,a8,a9⟩:=x.tr;exact⟨a0,λb o q=>z8l q,z3a (.inr (.inl rfl)),z5A x.fr λb hb=>K1t _ hb,oe,vs,T,oT,ts,a1,a2,a3,a4,z3a (.inr (.inr rfl)),a6,a7,a8,a9⟩
structure Kept (l:List Env) (e T:Addr) (h h':Heap):Prop where
 keep:∀b o,h.get? b=some o->b∉frs l->b≠e->b≠T->h'.get? b=some o
 slot:∀b o,h.get? b=some o->b∈frs l->∃sl,h'.get? b=some { o with slots:=sl }
section
variable {M:Model}{A:Around}{E:Value->Shared->Prop}{s:Shared}{base:Heap}{env:Env}{outer:List Env}{L e T:Addr}{cls:Value}{Q:Unit->Shared->Prop}
end
section
variable {X:Cx}{pins:List (Addr×Obj)}{σ:List (Option V)}{H H':Hp}{s:Shared}{h':Heap}
theorem ObjOk.there {P:K0a}{w:World}{h:Heap}{a:Addr}{o:HO}(x:ObjOk P w H h a o):∃u,h.get? a=some u:=by
 cases o with
 | lst xs=>obtain⟨_,_,_,_,e⟩:=x;exact⟨_,e⟩
 | tup xs=>obtain⟨_,_,_,u,e,_⟩:=x;exact⟨_,e⟩
 | dK kvs=>obtain⟨_,_,_,_,u,_,_,e,_⟩:=x;exact⟨_,e⟩
 | dT kvs=>obtain⟨_,_,_,_,u,_,_,e,_⟩:=x;exact⟨_,e⟩
 | set ks=>obtain⟨u,_,_,_,_,e,_⟩:=x;exact⟨_,e⟩
 | ins C dx fs=>obtain⟨_,_,_,e,_⟩:=x;exact⟨_,e⟩
 | own y=>obtain⟨_,e⟩:=x;exact⟨_,e⟩
 | xd fs=>obtain⟨_,⟨_,_,_,e,_⟩,_⟩:=x;exact⟨_,e⟩
 | rng lo hi=>obtain⟨_,_,_,e⟩:=x;exact⟨_,e⟩
 | frz ob u=>obtain⟨e,_⟩:=x;exact⟨_,e⟩
 | tbl ps=>exact⟨_,(show h.get? a=some _ from x)⟩
 | met f y=>exact⟨_,(show h.get? a=some _ from x)⟩
 | ext φ=>obtain⟨_,⟨_,e⟩,_⟩:=x;exact⟨_,e⟩
theorem HOk.none {P:K0a}{w:World}{h:Heap}{a:Addr}(x:HOk P w H h) (e:h.get? a=.none):H a=.none:=by
 cases q:H a with
 | none=>rfl
 | some u=>obtain⟨o,z⟩:=(x a u q).there;rw[e]at z;cases z
theorem HOk.trk {P:K0a}{w:World}{h h':Heap}(x:HOk P w H h) (k:∀b u o,H b=some u->h.get? b=some o->h'.get? b=some o):HOk P w H h':=λa o e =>
 (x a o e).stay (λb u hb q=>by
  rcases hb with rfl|hb
  ·exact k _ _ _ e q
  ·exact k _ _ _ hb q) (λ_ q=>q) λ_ _ q=>q
end
def CXE (P:K0a) (w:World) (base:Heap):CXT:=λouter H s E e s'=>∃a T C H',e=.ref a/\Fly base outer a T (.ref C) s'.heap/\s.heap.get? a=none/\s.heap.get? T=none/\H' a=none/\H' T=none/\s'.os=s.os/\K57 s'.gens /\
 Un (frs outer) [] H H' s.heap s'.heap/\HOk P w H' s'.heap/\E (.ref C) none H'
section
variable {M:Model}{A:Around}{E:Value->Shared->Prop}{h:Heap}{g:Array K4w}{d:Drawn}{t:Nat}{os:OsState}{C Ch e:Addr}{oe:Obj}{b:Bool}{Q:Bool->Shared->Prop}
 {nm q:Str} {N:Addr} {bs bm:List Value} {hdct:Bool} {sn:List Str} {sub:List Value} {ab:Bool} {col:Option Bool} {dd:Option Addr} {k0 k1 k2 k3 k5:Option Value} {newId:String}
 {nm' q':Str} {N':Addr} {bs' bm':List Value} {hdct':Bool} {sn':List Str} {sub':List Value} {ab':Bool} {col':Option Bool} {dd':Option Addr} {k0' k1' k2' k3' k5':Option Value} {newId':String}
end
def Cx.inside (X:Cx) (e:Value):Cx:={ X with A:=X.A.mark (some e),calm:=false,xe:=λ_ _=>False }
section
variable {X:Cx}{pins:List (Addr×Obj)}{σ:St}{H:Hp}{s:Shared}{e:Value}
theorem Inv.inside (I:Inv X pins σ H s) (e:Value):Inv (X.inside e) pins σ H s :=
 ⟨⟨I.ok.mod,I.ok.kind,I.ok.glob,I.ok.blt,I.ok.above,I.ok.inj,I.ok.has,I.ok.cab,(λz=>nomatch z),I.ok.frames,I.ok.stk,I.ok.exf,I.ok.bs,I.ok.bsz,I.ok.noex,I.ok.exfs,I.ok.funs,I.ok.frf⟩,I.os,I.bare,I.base,I.loc,I.cell,I.free,I.freeC,I.pin,I.hok,I.len⟩
end
structure Clss (K:K0) (C:Addr) (bm:List Value):Prop where
 ex:∃nm q N bs hdct sn sub ab col dd k0 k1 k2 k3 k5 newId,K.lookup C=some (excClassObj nm q C N bs bm hdct sn sub ab col dd k0 k1 k2 k3 k5 newId)
section
variable {X:Cx}{pins:List (Addr×Obj)}{σ:St}{H1:Hp}{s1 s':Shared}{e:Value}{E:XK}{cn n:Str}{Ch:Addr}{bmH:List Value}{np hpos:Pos}{b₀:Stmt}{suite:List Stmt}{EE:Value->Shared->Prop}{D:Ends}{ts:TS}
theorem back {u:Value}(I1:Inv X pins σ H1 s1) (c:CXE X.prog X.w X.base X.stack H1 s1 E u s'):∃a T C H',u=.ref a/\Fly X.base X.stack a T (.ref C) s'.heap/\s1.heap.get? a=none/\s1.heap.get? T=none/\H' a=none/\H' T=none/\Inv X pins σ H' s'/\E (.ref C) none H':=by
 obtain⟨a,T,C,H',rfl,F,n1,n2,u1,u2,os,bare,un,hok,hE⟩:=c;obtain⟨hh,g,d,t,os'⟩:=s';obtain rfl:os'=s1.os:=os;exact⟨a,T,C,H',rfl,F,n1,n2,u1,u2,I1.call (h':=hh) (g':=g) (d':=d) (t':=t) (ch:=[]) un hok bare (λb z=>absurd z (by simp)),hE⟩
end
def z74:List Str:=["__getattribute__","__getattr__","__class__"]
inductive Tail3 (h:Heap) (bmB:List Value):List Value->Prop
 | base:Tail3 h bmB bmB
 | own {A:Addr} {c0:Value} {dd:Option Addr} {cd:ClassData} {sl:Array (Option Value)} {mA:Str->Option Value} {tl:List Value}:h.get? A=some { cls:=c0,dict:=dd,data:=.cls cd,slots:=sl }->h.Ns cd.ns mA->(∀n∈z74,mA n=none)->Tail3 h bmB tl->Tail3 h bmB (.ref A::tl)
theorem Tail3.has {h:Heap}{bmB tl:List Value}(T:Tail3 h bmB tl) {x:String}{b:Bool}(e:bmB.contains (.type x)=b):tl.contains (.type x)=b:=by
 induction T with
 | base=>exact e
 | own _ _ _ _ ih=>rw[List.contains_cons,ih];rfl
section
variable {M:Model}{A:Around}{E:Value->Shared->Prop}{h:Heap}{g:Array K4w}{d:Drawn}{t:Nat}{os:OsState}
structure Ex3 (h:Heap) (C:Addr) (B:String) (bmB:List Value):Prop where
 ex:∃nm q N bs bm hdct sn sub ab col dd k0 k1 k2 k3 k5 newId mN,h.get? C=some (excClassObj nm q C N bs bm hdct sn sub ab col dd k0 k1 k2 k3 k5 newId)/\h.Ns N mN/\(∀n∈z74,mN n=none)/\Tail3 h bmB bm
end
abbrev bmV:List Value:=[.type "ValueError",.type "Exception",.type "BaseException",.type "object"]
section
variable {prog:K0a}{w:World}{A:Around}{E:Value->Shared->Prop}{h:Heap}{g:Array K4w}{d:Drawn}{t:Nat}{os:OsState}{a C:Addr}{o:Obj}
end
section
variable {X:Cx}{x:Str}{C:Addr}{bm:List Value}{B newId initId:String}{e₀:Expr}{rest:List Expr}{t:TA}{np cpos pos:Pos}{R:Hp->Prop}
end
section
variable {X:Cx}{CX:CXT}{k:Nat}{f:Addr}{fd:K1l}{ps:List Str}{sp:Sp}{E:XK}{x:Str}{p pos:Pos}{e:Expr}{es:List Expr}{t:TA}{EE:Value->Shared->Prop}{Q:VK}{pins:List (Addr×Obj)}{σ:St}{H:Hp}{s:Shared}
theorem PA.quiet (h:PA X.nox (e::es) t) (pos:Pos) (I:Inv X pins σ H s) {Q:List V->Hp->Prop}(q:t σ H Q):wpAny (model X.prog X.w) X.A (spliced (backTo pos (K07 (e::es) X.env))) (AP X pins σ Q) EE s :=
 K2x (h pos pins s σ H Q (I.wish _) q) (λ_ _ ⟨vs,H',I',r,q⟩=>⟨vs,H',I'.unwish,r,q⟩) λ_ _ z=>K1y z
end
section
variable {X:Cx}{k:Nat}{f Ch:Addr}{fd:K1l}{ps:List Str}{sp:Sp}{x cn y:Str}{i:Nat}{p pos pos1 pos2 py np hpos:Pos}{e:Expr}{es:List Expr}{t:TA}{bmH:List Value}{b₀:Stmt}{suite:List Stmt}{ts:TS}
end
section
variable {X:Cx}{pins:List (Addr×Obj)}{σ:St}{H:Hp}{s:Shared}
end
section
variable {X:Cx}{pins:List (Addr×Obj)}{σ:St}{H1:Hp}{s1 s':Shared}{e:Value}{E:XK}{cn n:Str}{i:Nat}{Ch:Addr}{bmH:List Value}{np hpos:Pos}{b₀:Stmt}{suite:List Stmt}{EE:Value->Shared->Prop}{D:Ends}{ts:TS}
end
section
variable {X:Cx}{k:Nat}{f Ch:Addr}{fd:K1l}{ps:List Str}{sp:Sp}{x cn n:Str}{i:Nat}{p pos pos1 pos2 np hpos:Pos}{e:Expr}{es:List Expr}{t:TA}{bmH:List Value}{b₀:Stmt}{suite:List Stmt}{ts:TS}
end
structure K3 (K:K0) (mg:Str->Option Value) (c:Str) (C:Addr) (bm:List Value):Prop where
 ns:K2f K K1a c=some (.(r C))
 gl:mg c=.(r C)
 cl:Clss K C bm
 obj:∃o cd,K.lookup C=some o/\o.data=.cls cd
 ex:∀h,K.In h->Ex3 h C "ValueError" bmV
 own:∀h,K.In h->OwnCls c C bmV "ValueError.__new__" mg h
 base:bm.contains (.type "BaseException")=true
 up:∀h,K.In h->Tail3 h bmV (.ref C::bm)/\OwnTail h bmV (.ref C::bm)
end L2
namespace FT
section
variable {X:Cx}{EX:XX}{e c:Expr}{es:List Expr}{st:Stmt}{sts:List Stmt}{me:G->M D}{k:G->M Bool}{mr:G->M (List D)}{ms:G->M Out}
theorem PS.nox {t:TS}(h:L2.PS X.nox st t):L2.PS X st t:=λpins s σ H D I hw =>
 K2x (h pins s σ H D (I.wish _) hw) (λ_ _ q=>q.unwish) λ_ _ z=>K1y z
end
def EXof (K:K0) (E:XK):XX:=λx _ _ H'=>∀C,K2f K K1a x.cls=some (.(r C))->E (.ref C) none H'
section
variable {P:K0a}{w:World}{K:K0}{mg:Str->Option Value}{base:Heap}{N:List Str}{qual c:Str}{scope:Scope}{f C:Addr}{cd:Value}{A:Around}{outer:List Env}{s:Shared}{H:Hp}{E:XK}{bm:List Value}
 {e₀:Expr} {rest:List Expr} {mr:G->M (List D)} {np cpos pos:Pos}
end
def spX (K:K0) (mf:List D->M D) (n:Nat):Sp:=λvs H Q E=>vs.length=n/\∃ρ ds h,RH K ρ h H/\RDs K ρ H ds vs/\FE K (EXof K E) ρ H Q (mf ds h)
structure FnX (P:K0a) (w:World) (K:K0) (mg:Str->Option Value) (base:Heap) (k:Nat) (x:Str) (n:Nat) (mf:List D->M D):Prop where
 ex:∃f fd ps,FnOk P w K mg base (CXE P w base) k f fd ps (spX K mf n)/\Binds K fd ps []/\K10 K (.ref f)=true/\mg x=.(r f)
section
variable {X:Cx}{k n i:Nat}{x cn y:Str}{Ch:Addr}{bmH:List Value}{mf:List D->M D}{mr:G->M (List D)}{ok:Str->Bool}{ms:G->M Out}{e:Expr}{es:List Expr}{b₀:Stmt}{suite:List Stmt}{p pos pos1 pos2 py np hpos:Pos}
end
end FT
namespace L2
section
variable {X:Cx}
end
section
variable {X:Cx}
end
end L2
namespace FT
section
variable {X:Cx}{EX:XX}{a:Expr}{p p2 pos:Pos}{ma:G->M D}{k:Str->Option Bool}
end
section
variable {X:Cx}{EX:XX}
end
section
variable {X:Cx}{EX:XX}{a:Expr}{p p2 pos:Pos}{ma:G->M D}{k:Str->Option Bool}
end
variable {α β:Type}
def W (m:M α) (h:AH) (Q:α->AH->Prop):Prop:=∃a h',m h=.ok a h'/\Q a h'
theorem Z0 {m:M α}{f:α->M β}{h:AH}{Q:β->AH->Prop}:W (m >>= f) h Q↔W m h λa h1=>W (f a) h1 Q:=by
 constructor
 ·rintro⟨b,h2,e,q⟩;rw[bindM]at e;cases em:m h with
  | ok a h1=>rw[em]at e;exact⟨a,h1,em,b,h2,e,q⟩
  | err x h1=>rw[em]at e;cases e
  | bad=>rw[em]at e;cases e
 ·rintro⟨a,h1,e,b,h2,e',q⟩;exact⟨b,h2,by rw[M.bind_ok e,e'],q⟩
theorem W_pure {a:α}{h:AH}{Q:α->AH->Prop}:W (K7i a:M α) h Q↔Q a h:=by
 constructor
 ·rintro⟨b,h2,e,q⟩;cases e;exact q
 ·exact λq=>⟨a,h,rfl,q⟩
theorem z06 {h:AH}{Q:α->AH->Prop}:W (bad:M α) h Q↔False:=by
 constructor
 ·rintro⟨b,h2,e,q⟩;cases e
 ·exact K1y
theorem x9 {c:Prop} [Decidable c] {m n:M α}{h:AH}{Q:α->AH->Prop}:W (if c then m else n) h Q↔if c then W m h Q else W n h Q:=by
 split<;>exact Iff.rfl
theorem W.mono {m:M α}{h:AH}{Q Q':α->AH->Prop}(z:W m h Q) (f:∀a h',Q a h'->Q' a h'):W m h Q':=let ⟨a,h',e,q⟩:=z;⟨a,h',e,f a h' q⟩
theorem W.of {m:M α}{h h':AH}{a:α}{Q:α->AH->Prop}(e:m h=.ok a h') (q:Q a h'):W m h Q:=⟨a,h',e,q⟩
theorem z24 {γ:G}{h:AH}{Q:Out->AH->Prop}:W (bNil γ) h Q↔Q (.nx γ) h:=W_pure
def z7T (mt:G->M Out) (Q:Out->AH->Prop):Out->AH->Prop:=λo h=>match o with
 | .nx γ=>W (mt γ) h Q
 | o=>Q o h
theorem j7 {mt:G->M Out}{Q:Out->AH->Prop}{γ:G}{h:AH}:z7T mt Q (.nx γ) h↔W (mt γ) h Q:=Iff.rfl
theorem z0L {mt:G->M Out}{Q:Out->AH->Prop}{d:D}{h:AH}:z7T mt Q (.rt d) h↔Q (.rt d) h:=Iff.rfl
theorem w_cons {ms mt:G->M Out}{γ:G}{h:AH}{Q:Out->AH->Prop}:W (z6 ms mt γ) h Q↔W (ms γ) h (z7T mt Q):=by
 unfold z6;rw[Z0];constructor
 ·rintro⟨o,h1,e,q⟩;refine⟨o,h1,e,?_⟩;cases o with
  | nx γ=>exact q
  | rt d=>exact(W_pure (a:=Out.rt d) (Q:=Q)).mp q
  | bk d=>exact(W_pure (a:=Out.bk d) (Q:=Q)).mp q
  | ct d=>exact(W_pure (a:=Out.ct d) (Q:=Q)).mp q
 ·rintro⟨o,h1,e,q⟩;refine⟨o,h1,e,?_⟩;cases o with
  | nx γ=>exact q
  | rt d=>exact W_pure.mpr q
  | bk d=>exact W_pure.mpr q
  | ct d=>exact W_pure.mpr q
def runW (Q:D->AH->Prop):Out->AH->Prop:=λo h=>match o with
 | .nx _=>Q .non h
 | .rt d=>Q d h
 | _=>False
theorem z1x {n:Nat}{mb:G->M Out}{ds:List D}{h:AH}{Q:D->AH->Prop}(z:W (mb (z07 n ds)) h (runW Q)):W (runF n mb ds) h Q:=by
 unfold runF;rw[Z0];refine z.mono λo h1 q=>?_;cases o with
 | nx γ=>exact W_pure.mpr q
 | rt d=>exact W_pure.mpr q
 | bk d=>exact q.elim
 | ct d=>exact q.elim
theorem z75 {i j:Int}:fAdd (.int i) (.int j)=pure (.int (i+j)):=rfl
theorem z76 {i j:Int}:fSub (.int i) (.int j)=pure (.int (i - j)):=rfl
theorem z6Q {i j:Int}:fGt (.int i) (.int j)=pure (.bl (decide (j<i))):=rfl
theorem zf1 {i j:Int}:fGe (.int i) (.int j)=pure (.bl (decide (j<=i))):=rfl
theorem z9r {i j:Int}:fLt (.int i) (.int j)=pure (.bl (decide (i<j))):=rfl
theorem z8F {i j:Int}:fLe (.int i) (.int j)=pure (.bl (decide (i<=j))):=rfl
theorem z58 {i j:Int}{b:Bool}:fEq b (.int i) (.int j)=pure (.bl (decide (i=j) != b)):=rfl
theorem z7m {i j:Int}(h:0<=j):fShr (.int i) (.int j)=pure (.int (i / 2 ^ j.toNat)):=by
 unfold fShr fIC;dsimp only;rw[if_pos (decide_eq_true h)]
theorem v9 {b:Bool}:asB (.bl b)=pure b:=rfl
theorem z3B {b:Bool}:truD (.bl b)=pure b:=rfl
theorem z4Z {n:Nat}{h:AH}{Q:Nat->AH->Prop}:W (z1d (.ref n)) h Q↔W (getL n) h λ_ h1=>Q n h1:=by
 unfold W z1d getL;dsimp only;cases e:h[n]? with
 | none=>exact⟨λ⟨_,_,z,_⟩=>(by cases z),λ⟨_,_,z,_⟩=>(by cases z)⟩
 | some o =>
  cases o with
  | set ks=>exact⟨λ⟨_,_,z,_⟩=>(by cases z),λ⟨_,_,z,_⟩=>(by cases z)⟩
  | dct=>exact⟨λ⟨_,_,z,_⟩=>(by cases z),λ⟨_,_,z,_⟩=>(by cases z)⟩
  | dK kvs=>exact⟨λ⟨_,_,z,_⟩=>(by cases z),λ⟨_,_,z,_⟩=>(by cases z)⟩
  | dF kvs=>exact⟨λ⟨_,_,z,_⟩=>(by cases z),λ⟨_,_,z,_⟩=>(by cases z)⟩
  | exc c=>exact⟨λ⟨_,_,z,_⟩=>(by cases z),λ⟨_,_,z,_⟩=>(by cases z)⟩
  | ins _ _=>exact⟨λ⟨_,_,z,_⟩=>(by cases z),λ⟨_,_,z,_⟩=>(by cases z)⟩
  | lst xs=>exact⟨λ⟨_,_,z,q⟩=>(by cases z;exact⟨xs,h,rfl,q⟩),λ⟨_,_,z,q⟩=>(by cases z;exact⟨n,h,rfl,q⟩)⟩
theorem z7K {b:Int}{t:String}:fIsi t (.int b)=pure (.bl (subT "int" t)):=rfl
theorem z8S {b:List D}{t:String}:fIsi t (.tup b)=pure (.bl (subT "tuple" t)):=rfl
theorem W.pu {m:M α}{a:α}{h:AH}{Q:α->AH->Prop}(p:Pu m a) (q:∀j,Q a (h++j)):W m h Q:=let ⟨j,e⟩:=p h;⟨a,h++j,e,q j⟩
def forW (J:G->AH->Prop) (R:D->AH->Prop):Out->AH->Prop:=λo h=>match o with
 | .nx γ=>J γ h
 | .ct γ=>J γ h
 | .bk _=>False
 | .rt d=>R d h
def endW (J:G->AH->Prop) (R:D->AH->Prop):Out->AH->Prop:=λo h=>match o with
 | .nx γ=>J γ h
 | .ct _=>False
 | .bk _=>False
 | .rt d=>R d h
theorem z3r {src:Src}{g:D->G->M G}{body:G->M Out}(I:Nat->G->AH->Prop) (R:D->AH->Prop) (good:∀i γ h,I i γ h->src.good h):∀(items:List D) (n:Nat) (γ:G) (h:AH),
 (∀i d γ h,items[i]?=some d->I (n+i) γ h->W (g d γ) h λγ1 h1=>W (body γ1) h1 (forW (I (n+i+1)) R))->I n γ h ->
 W (forR src g body items γ) h (endW (I (n+items.length)) R)
 | [],n,γ,h,_,q=>⟨.nx γ,h,by unfold forR Src.chk;simp[good _ _ _ q],q⟩
 | d::r,n,γ,h,z,q=>by
  unfold forR;rw[Z0];refine W.of (a:=()) (h':=h) (by unfold Src.chk;simp[good _ _ _ q]) ?_;rw[Z0];refine(z 0 d γ h rfl q).mono λγ1 h1 q1=>?_;rw[Z0];refine q1.mono λo h2 q2=>?_;have step:∀γ2,I (n+0+1) γ2 h2->W (forR src g body r γ2) h2 (endW (I (n+(d::r).length)) R):=λγ2 w=>by
   have:=z3r (src:=src) I R good r (n+1) γ2 h2 (λi d γ h e q=>by
    have:=z (i+1) d γ h (by simpa using e) (by rw[show n+(i+1)=n+1+i by omega];exact q);rw[show n+(i+1)+1=n+1+i+1 by omega]at this;exact this) (by simpa using w)
   rw[show n+1+r.length=n+(d::r).length by simp;omega]at this;exact this
  cases o with
  | nx γ2=>exact step γ2 q2
  | ct γ2=>exact step γ2 q2
  | bk γ2=>exact q2.elim
  | rt v=>exact W_pure.mpr q2
theorem z1i {ms mt:G->M Out}{γ:G}{h:AH}{Q:Out->AH->Prop}(J:G->AH->Prop) (z:W (ms γ) h (endW J λd h=>Q (.rt d) h)) (k:∀γ h,J γ h->W (mt γ) h Q):W (z6 ms mt γ) h Q:=by
 rw[w_cons];refine z.mono λo h1 q=>?_;cases o with
 | nx γ=>exact k γ h1 q
 | rt d=>exact q
 | bk d=>exact q.elim
 | ct d=>exact q.elim
theorem z1G (n:Nat) (p:D->Bool) (f:D->D):((y8 n).filter p).map f=((K0u n).filter λ(i:Nat)=>p (.int i)).map λ(i:Nat)=>f (.int i):=by
 unfold y8;rw[K4y,K2g];rfl
theorem z0p {n i:Nat}{d:D}(e:(y8 n)[i]?=some d):d=.int i/\i<n:=by
 unfold y8 at e;rw[K0n]at e;obtain⟨j,e1,e2⟩:=K1b.mp e;obtain⟨h1,h2⟩:=K4.mp e1;simp at h1 h2;subst h2;exact⟨e2.symm,h1⟩
theorem z03 {ma:G->M D}{i:Nat}{body:G->M Out}{γ:G}{h:AH}(I:Nat->G->AH->Prop) (R:D->AH->Prop) {Q:Out->AH->Prop}
 (hs:W (ma γ) h λd h1=>∃n:Nat,d=.int n/\n<4611686018427387904/\I 0 γ h1/\(∀k γ h,k<n->I k γ h->W (body (γ.set i (.(i k)))) h (forW (I (k+1)) R))/\(∀γ h',I n γ h'->Q (.nx γ) h')/\∀d h',R d h'->Q (.rt d) h') :
 W (sFor (w6 ma) (gN i) body γ) h Q:=by
 unfold sFor w6;rw[Z0,Z0];refine hs.mono λd h1 ⟨n,e,hn,i0,st,fin⟩=>?_;subst e;dsimp only;rw[if_pos (by omega),W_pure];have:=z3r (src:=.con (y8 (n:Int).toNat)) (g:=gN i) (body:=body) I R (λ_ _ _ _=>trivial) (y8 (n:Int).toNat) 0 γ h1 (λk d γ h e q=>by
  obtain⟨rfl,hk⟩:=z0p e;rw[K53]at q ⊢;exact W_pure.mpr (st k γ h (by simpa using hk) q)) i0
 rw[show 0+(y8 (n:Int).toNat).length=n by unfold y8;simp]at this;refine this.mono λo h' q=>?_;cases o with
 | nx γ=>exact fin.1 γ h' q
 | rt d=>exact fin.2 d h' q
 | bk d=>exact q.elim
 | ct d=>exact q.elim
theorem z0W {mi:G->M Src}{g:D->G->M G}{body:G->M Out}{γ:G}{h:AH}(I:Nat->G->AH->Prop) (R:D->AH->Prop) {Q:Out->AH->Prop}
 (hs:W (mi γ) h λsrc h1=>I 0 γ h1/\(∀i γ h,I i γ h->src.good h)/\(∀i d γ h,src.items[i]?=some d->I i γ h->W (g d γ) h λγ1 h1=>W (body γ1) h1 (forW (I (i+1)) R))/\(∀γ h',I src.items.length γ h'->Q (.nx γ) h')/\∀d h',R d h'->Q (.rt d) h') :
 W (sFor mi g body γ) h Q:=by
 unfold sFor;rw[Z0];refine hs.mono λsrc h1 ⟨i0,good,st,fin⟩=>?_;have:=z3r (src:=src) (g:=g) (body:=body) I R good src.items 0 γ h1 (λk d γ h e q=>by
  rw[K53]at q ⊢;exact st k d γ h e q) i0
 rw[K53]at this;refine this.mono λo h' q=>?_;cases o with
 | nx γ=>exact fin.1 γ h' q
 | rt d=>exact fin.2 d h' q
 | bk d=>exact q.elim
 | ct d=>exact q.elim
theorem z0o {ma:G->M D}{γ:G}{h h1:AH}{n:Nat}(e:ma γ h=.ok (.int n) h1) (hn:n<4611686018427387904):w6 ma γ h=.ok (.con (y8 n)) h1:=by
 unfold w6;rw[M.bind_ok e];dsimp only;rw[if_pos (by omega)];rfl
theorem z12 {k:G->M Bool}{body:G->M Out}(I:Nat->G->AH->Prop) (E:G->AH->Prop) (R:D->AH->Prop)
 (z:∀m γ h,I m γ h->W (k γ) h λb h1=>if b=true then ∃m',m=m'+1/\W (body γ) h1 (forW (λγ h=>∃i,i<=m'/\I i γ h) R) else E γ h1):∀(n m:Nat) (γ:G) (h:AH),m<n->I m γ h ->
 W (z0R k body n γ) h (endW E R)
 | 0,m,γ,h,hm,_=>by omega
 | n+1,m,γ,h,hm,q=>by
  unfold z0R;rw[Z0];refine(z m γ h q).mono λb h1 q1=>?_;cases b with
  | false =>
   rw[if_neg (by decide)]at q1 ⊢;exact W_pure.mpr q1
  | true =>
   rw[if_pos rfl]at q1 ⊢;obtain⟨m',rfl,q2⟩:=q1;rw[Z0];refine q2.mono λo h2 q3=>?_;cases o with
   | nx γ2=>obtain⟨i,hi,q4⟩:=q3;exact z12 I E R z n i γ2 h2 (by omega) q4
   | ct γ2=>obtain⟨i,hi,q4⟩:=q3;exact z12 I E R z n i γ2 h2 (by omega) q4
   | bk γ2=>exact q3.elim
   | rt v=>exact W_pure.mpr q3
theorem z2v {g:D->G->M G}{k:G->M Bool}{me:G->M D}{γ:G}{p:D->Bool}{f:D->D}(src:Src) (h0:AH) (hg:∀j,src.good (h0++j)):∀(items:List D) (acc:List D),acc.length+items.length<=1000000 ->
 (∀d∈items,∃γ1,(∀h,g d γ h=.ok γ1 h)/\(∀j,k γ1 (h0++j)=.ok (p d) (h0++j))/\(p d=true->∀j,me γ1 (h0++j)=.ok (f d) (h0++j))) ->
 z1N src g k me h0.length γ items (h0++[.lst acc])=.ok () (h0++[.lst (acc++(items.filter p).map f)])
 | [],acc,hl,hd=>by unfold z1N Src.chk;simp[hg]
 | d::r,acc,hl,hd=>by
  obtain⟨γ1,e1,e2,e3⟩:=hd d K1d;unfold z1N;have chk:src.chk (h0++[.lst acc])=.ok () (h0++[.lst acc]):=by unfold Src.chk;simp[hg]
  rw[M.bind_ok chk,M.bind_ok (e1 _),M.bind_ok (e2 _)];simp only[K01]at hl;have hr:∀d∈r,∃γ1,(∀h,g d γ h=.ok γ1 h)/\(∀j,k γ1 (h0++j)=.ok (p d) (h0++j))/\(p d=true->∀j,me γ1 (h0++j)=.ok (f d) (h0++j)):=λx hx=>hd x (K0x _ hx);cases hp:p d with
  | false =>
   rw[if_neg (by decide),z2v src h0 hg r acc (by omega) hr,K3n,hp];rfl
  | true =>
   rw[if_pos rfl,M.bind_ok (e3 hp _)];have ap:Z9 h0.length (f d) (h0++[.lst acc])=.ok .non (h0++[.lst (acc++[f d])]):=by
    unfold Z9 updL;have g1:(h0++[O.lst acc])[h0.length]?=.(l acc):=by simp
    rw[g1];dsimp only;have hs:(acc++[f d]).length<=sizeLine:=by
     rw[K9,K0d];exact K0h (show acc.length+1<=1000000 by omega) (by decide)
    rw[if_pos hs];simp
   rw[M.bind_ok ap,z2v src h0 hg r (acc++[f d]) (by simp;omega) hr,K3n,hp];simp
theorem z1l {cap:List (Option Nat)}{mi:G->M Src}{g:D->G->M G}{k:G->M Bool}{me:G->M D}{γ:G}{src:Src}{h:AH}(p:D->Bool) (f:D->D) (hi:mi γ h=.ok src h) (hg:∀j,src.good (h++j)) (hl:src.items.length<=1000000)
 (hd:∀d∈src.items,∃γ1,(∀h,g d (capG cap γ) h=.ok γ1 h)/\(∀j,k γ1 (h++j)=.ok (p d) (h++j))/\(p d=true->∀j,me γ1 (h++j)=.ok (f d) (h++j))) :
 z01 cap mi g k me γ h=.ok (.ref h.length) (h++[.lst ((src.items.filter p).map f)]):=by
 have e:=z2v (g:=g) (k:=k) (me:=me) (γ:=capG cap γ) (p:=p) (f:=f) src h hg src.items [] (by simpa using hl) hd;show (mi γ >>= _) h=_;rw[M.bind_ok hi];rw[M.bind_ok (m:=(λh=>Res.ok (K5v h) (h++[O.lst []]):M Nat)) (h:=h) rfl];rw[M.bind_ok (by simpa using e)];rfl
def Kp (r r':AH):Prop:=∀(n:Nat) (o:O),r[n]?=some o->r'[n]?=some o
theorem Kp.refl (r:AH):Kp r r:=λ_ _ e=>e
theorem Kp.trans {a b c:AH}(h:Kp a b) (h':Kp b c):Kp a c:=λn o e=>h' n o (h n o e)
theorem Kp.app (r j:AH):Kp r (r++j):=λn o e=>by
 rw[K06 (K4.mp e).1,e]
theorem Kp.set {r r':AH}{n:Nat}{o:O}(h:Kp r r') (hn:r.length<=n):Kp r (r'.set n o):=λm o' e=>by
 have:=(K4.mp e).1;rw[K1u (by omega)];exact h m o' e
theorem Kp.len {r r':AH}(h:Kp r r'):r.length<=r'.length:=by
 by_cases e:r.length=0
 ·omega
 ·have:=h (r.length - 1) r[r.length - 1] (K6 (by omega));have:=(K4.mp this).1;omega
theorem z5o {src:Src}{g:D->G->M G}{k:G->M Bool}{me:G->M D}{n0:Nat}{γ:G}(I:Nat->AH->Prop) (good:∀i h,I i h->src.good h):∀(items:List D) (n:Nat) (h:AH),
 (∀i d h,items[i]?=some d->I (n+i) h->W (g d γ) h λγ1 h1=>W (k γ1) h1 λt h2=>if t=true then W (me γ1) h2 λv h3=>W (Z9 n0 v) h3 λ_ h4=>I (n+i+1) h4 else I (n+i+1) h2)->I n h ->
 W (z1N src g k me n0 γ items) h λ_ h'=>I (n+items.length) h'
 | [],n,h,_,q=>⟨(),h,by unfold z1N Src.chk;simp[good _ _ q],q⟩
 | d::r,n,h,z,q=>by
  have more:∀h2,I (n+0+1) h2->W (z1N src g k me n0 γ r) h2 λ_ h'=>I (n+(d::r).length) h':=λh2 q2=>by
   have:=z5o (src:=src) (g:=g) (k:=k) (me:=me) (n0:=n0) (γ:=γ) I good r (n+1) h2 (λi d h e q=>by
    have:=z (i+1) d h (by simpa using e) (by rw[show n+(i+1)=n+1+i by omega];exact q);rw[show n+(i+1)+1=n+1+i+1 by omega]at this;exact this) (by simpa using q2)
   rw[show n+1+r.length=n+(d::r).length by simp;omega]at this;exact this
  unfold z1N;rw[Z0];refine W.of (a:=()) (h':=h) (by unfold Src.chk;simp[good _ _ q]) ?_;rw[Z0];refine(z 0 d h rfl q).mono λγ1 h1 q1=>?_;rw[Z0];refine q1.mono λt h2 q2=>?_;cases t with
  | false=>rw[if_neg (by decide)]at q2 ⊢;exact more h2 q2
  | true =>
   rw[if_pos rfl]at q2 ⊢;rw[Z0];refine q2.mono λv h3 q3=>?_;rw[Z0];exact q3.mono λ_ h4 q4=>more h4 q4
theorem z5Z {cap:List (Option Nat)}{mi:G->M Src}{g:D->G->M G}{k:G->M Bool}{me:G->M D}{γ:G}{h:AH}{Q:D->AH->Prop}
 (hs:W (mi γ) h λsrc h1=>∃I:Nat->AH->Prop,I 0 (h1++[.lst []])/\(∀i h,I i h->src.good h) /\
  (∀i d h,src.items[i]?=some d->I i h->W (g d (capG cap γ)) h λγ1 h1'=>W (k γ1) h1' λt h2=>if t=true then W (me γ1) h2 λv h3=>W (Z9 h1.length v) h3 λ_ h4=>I (i+1) h4 else I (i+1) h2) /\
  ∀h',I src.items.length h'->Q (.ref h1.length) h'):W (z01 cap mi g k me γ) h Q:=by
 unfold z01;rw[Z0];refine hs.mono λsrc h1 ⟨I,i0,good,st,fin⟩=>?_;rw[Z0];refine W.of (a:=h1.length) (h':=h1++[.lst []]) rfl ?_;rw[Z0];have:=z5o (src:=src) (g:=g) (k:=k) (me:=me) (n0:=h1.length) (γ:=capG cap γ) I good src.items 0 (h1++[.lst []]) (λi d h e q=>by
  rw[K53]at q ⊢;exact st i d h e q) i0
 rw[K53]at this;refine this.mono λ_ h' q=>?_;rw[W_pure];exact fin h' q
def Pi (I:AH->Prop) {α:Type} (m:M α) (a:α):Prop:=∀h,I h->∃j,m h=.ok a (h++j)
class Grow (I:AH->Prop):Prop where
 app:∀h j,I h->I (h++j)
section
variable {I:AH->Prop} [Grow I]
theorem Pi.pure {α:Type}(a:α):Pi I (K7i a:M α) a:=λh _=>⟨[],by simp⟩
theorem Pi.bind {α β:Type}{m:M α}{f:α->M β}{a:α}{b:β}(h1:Pi I m a) (h2:Pi I (f a) b):Pi I (m >>= f) b:=λh i=>by
 obtain⟨j,e⟩:=h1 h i;obtain⟨j',e'⟩:=h2 (h++j) (Grow.app h j i);exact⟨j++j',by rw[M.bind_ok e,e',K0e]⟩
theorem Pi.of {α:Type}{m:M α}{a:α}(h:∀x,m x=.ok a x):Pi I m a:=λx _=>⟨[],by rw[h];simp⟩
theorem Pi.at {α:Type}{m:M α}{a:α}(h:∀x,I x->m x=.ok a x):Pi I m a:=λx i=>⟨[],by rw[h x i];simp⟩
end
section
variable {I:AH->Prop} [Grow I] {J J':G->Prop}
end
def Pool (gr sm:List Int) (s c:Int) (r:AH):AH:=.lst (gr.map .int)::.lst (sm.map .int)::.lst [.ref 0,.ref 1,.int s,.int c]::r
def PS (h:AH) (k:Int) (r:AH):Prop:=∃gr sm s c,h=Pool gr sm s c r/\0<=s/\s<2147483647/\0<=c/\c<=k/\gr.length<=63/\sm.length<=63
theorem PS.up {h:AH}{k k':Int}{r:AH}(p:PS h k r) (hk:k<=k'):PS h k' r:=by
 obtain⟨gr,sm,s,c,e,h1,h2,h3,h4,h5,h6⟩:=p;exact⟨gr,sm,s,c,e,h1,h2,h3,by omega,h5,h6⟩
theorem PS.app {h:AH}{k:Int}{r:AH}(p:PS h k r) (j:AH):PS (h++j) k (r++j):=by
 obtain⟨gr,sm,s,c,e,q⟩:=p;exact⟨gr,sm,s,c,by rw[e];rfl,q⟩
theorem PS.get {h:AH}{k:Int}{r:AH}(p:PS h k r) (n:Nat):h[n+3]?=r[n]?:=by
 obtain⟨gr,sm,s,c,e,q⟩:=p;rw[e];rfl
theorem PS.len {h:AH}{k:Int}{r:AH}(p:PS h k r):h.length=r.length+3:=by
 obtain⟨gr,sm,s,c,e,q⟩:=p;rw[e];rfl
theorem PS.set {h:AH}{k:Int}{r:AH}(p:PS h k r) (n:Nat) (o:O):PS (h.set (n+3) o) k (r.set n o):=by
 obtain⟨gr,sm,s,c,e,q⟩:=p;exact⟨gr,sm,s,c,by rw[e];rfl,q⟩
theorem z52 {h:AH}{k:Int}{r:AH}{n:Nat}{xs:List D}{Q:List D->AH->Prop}(p:PS h k r) (e:r[n]?=.(l xs)) (q:Q xs h):W (getL (n+3)) h Q :=
 ⟨xs,h,by unfold getL;rw[p.get,e],q⟩
theorem z1R {h:AH}{k:Int}{r:AH}{xs:List D}{Q:D->AH->Prop}(p:PS h k r) (hl:xs.length<=1000000) (z:∀h',PS h' k (r++[.lst xs])->Q (.ref (r.length+3)) h'):W (newL xs) h Q :=
 ⟨.ref (r.length+3),h++[.lst xs],by unfold newL;rw[if_pos (K0h hl (by decide)),p.len],z _ (p.app _)⟩
theorem z3Y {h:AH}{k:Int}{r:AH}{n:Nat}{xs:List D}{v:D}{Q:D->AH->Prop}(p:PS h k r) (e:r[n]?=.(l xs)) (hl:xs.length<1000000) (z:∀h',PS h' k (r.set n (.lst (xs++[v])))->Q .non h'):W (Z9 (n+3) v) h Q :=
 ⟨.non,h.set (n+3) (.lst (xs++[v])),by
  unfold Z9 updL;rw[p.get,e];dsimp only;rw[if_pos (K0h (by simp;omega:(xs++[v]).length<=1000000) (by decide))],z _ (p.set _ _)⟩
theorem z3O {r j:AH}{n:Nat}{o:O}(e:r[n]?=some o):(r++j)[n]?=some o:=by
 rw[K06 (K4.mp e).1,e]
theorem z2d {r:AH}{o:O}:(r++[o])[r.length]?=some o:=by simp
def z5c (x:Str):Prop:=1<=x.length/\x.length<=8/\(∀c∈x.cps.toList,97<=c/\c<=122) /\
 x∉(["yes","no","not","and","or","step","some","all","next","once","ever","until","unless"]:List Str)
theorem len_str (x:Str):x.length=x.cps.toList.length:=by simp[K81]
theorem z4T (a:Str):∀l:List Str,((l.map D.str).any λz=>eqF z (.str a))=decide (a∈l)
 | []=>by simp
 | b::l=>by
  rw[K0s,K1q,z4T a l];simp only[eqF];rw[K18];simp only[K24,beq_iff_eq,decide_eq_true_eq,K1h];constructor
  ·rintro(h|h)
   ·exact .inl h.symm
   ·exact .inr h
  ·rintro(h|h)
   ·exact .inl h.symm
   ·exact .inr h
theorem z30:∀l:List Str,(l.map D.str).all z0k=true
 | []=>rfl
 | _::l=>by rw[K0s,K3r,z30 l];rfl
def low (x:Str):Prop:=∀c∈x.cps.toList,97<=c/\c<=122
def abc:Str:="abcdefghijklmnopqrstuvwxyz"
theorem z8s:abc.cps.toList=(K0u 26).map (·+97):=by decide +kernel
theorem z8X:abc.length=26:=by decide +kernel
theorem ze3 {d:Int}(h0:0<=d) (h1:d<26):fIx (.str abc) (.int d)=pure (.str ⟨#[d.toNat+97]⟩):=by
 unfold fIx;dsimp only;rw[if_pos (by rw[z8X];decide),z8s];obtain⟨n,rfl⟩:=Int.eq_ofNat_of_zero_le h0;have hn:n<26:=by omega
 rw[z1V (v:=n+97) (by simp[hn])];simp
theorem z2k (x y:Str):(x++y).cps.toList=x.cps.toList++y.cps.toList:=Array.toList_append
theorem len_app (x y:Str):(x++y).length=x.length+y.length:=by rw[len_str,z2k,K9,<- len_str,<- len_str]
theorem z9Q {x y:Str}(h:x.length+y.length<=1000):fAdd (.str x) (.str y)=pure (.str (x++y)):=by
 show (if x.length+y.length<=sizeLine then _ else _)=_;rw[if_pos (K0h h (by decide))]
theorem z23 (c:Nat):K81 ⟨#[c]⟩=1:=rfl
theorem z3j {x:Str}{c:Nat}(h:low x) (h1:97<=c) (h2:c<=122):low (x++⟨#[c]⟩):=by
 intro d hd;rw[z2k]at hd;rcases K0f.mp hd with q|q
 ·exact h d q
 ·simp at q;omega
theorem z2m {x:Str}{h:AH}{k d:Int}{r:AH}{Q:D->AH->Prop}(h0:0<=d) (h1:d<26) (hx:x.length<=100) (q:Q (.str (x++⟨#[d.toNat+97]⟩)) h):W (fIx (.str abc) (.int d)) h λa h1=>W (fAdd (.str x) a) h1 Q:=by
 rw[ze3 h0 h1,W_pure,z9Q (by rw[z23];omega),W_pure];exact q
def words:List Str:=["yes","no","not","and","or","step","some","all","next","once","ever","until","unless"]
def cand (x:Str) (l:Int) (i:Nat):Str:=x++⟨#[((l+i) % 26).toNat+97]⟩
theorem z6H {x:Str}{l:Int}(h0:0<=l) {i j:Nat}(hi:i<26) (hj:j<26) (e:cand x l i=cand x l j):i=j:=by
 have e2:(cand x l i).cps.toList=(cand x l j).cps.toList:=by rw[e]
 unfold cand at e2;rw[z2k,z2k]at e2;have:=List.append_cancel_left e2;simp at this;omega
theorem z9J {x:Str}{l:Int}(h0:0<=l) {ns:List Str}(hn:ns.length<=7) (h:∀i:Nat,i<26->cand x l i∈words\/cand x l i∈ns):False:=by
 have nd:((K0u 26).map (cand x l)).Nodup:=by
  rw[K5o,K60];refine K64 ?_ K8u;intro a b ha hb hne e;exact hne (z6H h0 (by simpa using ha) (by simpa using hb) e)
 have sub:((K0u 26).map (cand x l)) ⊆ words++ns:=by
  intro y hy;obtain⟨i,hi,rfl⟩:=K1v.mp hy;exact K0f.mpr (h i (by simpa using hi))
 have:=nd.length_le_of_subset sub;rw[K0j,K2p,K9]at this;have w:words.length=13:=rfl;omega
theorem z70 {h:AH}{k:Int}{r:AH}{n:Nat}{ns:List Str}{x:Str}{neg:Bool}(p:PS h k r) (e:r[n]?=.(l (ns.map .str))):fIn neg (.str x) (.ref (n+3)) h=.ok (.bl (decide (x∈ns) != neg)) h:=by
 have g:getL (n+3) h=.ok (ns.map .str) h:=by unfold getL;rw[p.get,e]
 unfold fIn seqD;rw[M.bind_ok g,z4T,z30];rfl
theorem z7Q {h:AH}{k:Int}{r:AH}{n:Nat}{xs:List D}{i:Int}{d:D}{Q:D->AH->Prop}(p:PS h k r) (e:r[n]?=.(l xs)) (a:atI xs i=some d) (q:Q d h):W (fIx (.ref (n+3)) (.int i)) h Q:=by
 show W (getL (n+3) >>= λxs=>match atI xs i with|some d=>pure d|none=>bad) h Q;rw[Z0];refine z52 p e ?_;rw[a];exact W_pure.mpr q
theorem z7B:low "":=by
 intro c hc;have:(K22 "").cps.toList=[]:=by decide +kernel
 rw[this]at hc;cases hc
theorem z8x:K81 "" = 0:=by decide +kernel
def NS (ns:List Str):Prop:=ns.Nodup/\∀x∈ns,z5c x
def stD (l:List Nat):List D:=l.map λ(i:Nat)=>.int i
structure MK (l:List Str):Prop where
 len:l.length<=8
 good:∀x∈l,z5c x
 rise:l.Pairwise λa b=>a.cps.toList<b.cps.toList
structure MA (st:List (List Nat)) (mk:List (List Str)):Prop where
 l1:1<=st.length
 l2:st.length<=40
 l3:mk.length=st.length
 s1:∀l∈st,l.Pairwise (·<·)
 s2:∀l∈st,∀x∈l,x<st.length
 m1:∀l∈mk,MK l
def stsD (st:List (List Nat)):List D:=st.map λl=>.tup (stD l)
def mksD (mk:List (List Str)):List D:=mk.map λl=>.tup (l.map .str)
def maD (st:List (List Nat)) (mk:List (List Str)):D:=.tup [.tup (stsD st),.tup (mksD mk)]
theorem z29 (a b:Str):leS a b=true↔a.cps.toList<=b.cps.toList:=by
 unfold leS;simp[K3j]
theorem z4q {l:List Str}(h:l.Nodup):(z09 l).Pairwise λa b=>a.cps.toList<b.cps.toList:=by
 have s:(z09 l).Pairwise λa b=>leS a b=true:=K47 (λa b c h1 h2=>(z29 a c).mpr (List.le_trans ((z29 a b).mp h1) ((z29 b c).mp h2)))
  (λa b=>by
   rw[K24,z29,z29];exact List.le_total _ _) l
 have n:(z09 l).Nodup:=(K2z l leS).nodup_iff.mpr h;refine(K8b s n).imp λ{a b} q=>?_;obtain⟨q1,q2⟩:=q;have q3:=(z29 a b).mp q1;by_cases lt:a.cps.toList<b.cps.toList
 ·exact lt
 ·exact absurd (z51 (K8w q3 (K3j.mp lt))) q2
theorem z4S {l:List Str}{x:Str}:x∈z09 l↔x∈l:=(K2z l leS).mem_iff
theorem z1M (l:List Str):(z09 l).length=l.length:=(K2z l leS).length_eq
theorem strs_map:∀l:List Str,z1w (l.map .str)=some l
 | []=>rfl
 | a::l=>by simp[z1w,strs_map l]
def pick (ns:List Str) (p:Nat->Bool):List Str:=((K0u ns.length).filter p).map λi=>(ns[i]?).getD ""
theorem z90 {ns:List Str}(hn:NS ns) (hl:ns.length<=8) (p:Nat->Bool):MK (z09 (pick ns p)):=by
 have nd:(pick ns p).Nodup:=by
  unfold pick;rw[K5o,K60];refine K64 ?_ (K78 p K8u);intro a b ha hb hne e;have la:a<ns.length:=by simpa using(K23.mp ha).1
  have lb:b<ns.length:=by simpa using(K23.mp hb).1
  rw[K6 la,K6 lb]at e;simp at e;exact hne ((K8x hn.1).mp e)
 have le:(pick ns p).length<=ns.length:=by
  unfold pick;rw[K0j];refine K0h (K26 _ _) ?_;simp
 refine⟨by rw[z1M];omega,λx hx=>?_,z4q nd⟩;rw[z4S]at hx;unfold pick at hx;obtain⟨i,hi,rfl⟩:=K1v.mp hx;have la:i<ns.length:=by simpa using(K23.mp hi).1
 rw[K6 la];exact hn.2 _ (K4r la)
theorem z6K (ns:List Str) (p:Nat->Bool):(pick ns p).length<=ns.length:=by
 unfold pick;rw[K0j];refine K0h (K26 _ _) ?_;simp
def AM (st:List (List Nat)) (mk:List (List Str)) (n:Nat):Prop:=(∀l∈st,l.Pairwise (·<·))/\(∀l∈st,∀x∈l,x<n)/\∀l∈mk,MK l
theorem z6S {r:AH}{i:Nat}{o:O}(e:r[i]?=some o):i<r.length:=(K4.mp e).1
theorem z0V (ns:List Int) (p:D->Bool):((ns.map D.int).filter p).map (λd=>d)=(ns.filter λi=>p (.int i)).map D.int:=by
 rw[List.map_id',K4y];rfl
theorem zf3:fPow (.int 10) (.int 18)=pure (.int 1000000000000000000):=rfl
theorem z1m (xs:List D):fLen [.tup xs]=pure (.int xs.length):=rfl
theorem ix_tup {xs:List D}{i:Int}{d:D}(a:atI xs i=some d):fIx (.tup xs) (.int i)=pure d:=by
 have:fIx (.tup xs) (.int i)=(pure xs >>= λxs=>match atI xs i with|some d=>pure d|none=>bad):=rfl;rw[this];show (match atI xs i with|some d=>pure d|none=>bad)=_;rw[a]
theorem z9A {l:List Nat}{c:Nat}(hc:c<l.length):atI (stD l) (c:Int)=.(i (((l[c]?).getD 0:Nat))):=by
 refine z1V ?_;unfold stD;rw[K0n,K6 hc];rfl
section
variable {P:K0a}{w:World}{K:K0}{mg:Str->Option Value}{base:Heap}
theorem zi5 {x:Str}{st:Stmt}{f:Addr}{fd:K1l}{N ps:List Str}{k n:Nat}{mb:G->M Out}(F:Fun K x x st f fd) (S:FnScope N ps (Z3 st)) (hn:ps.length=n)
 (body:∀(cdv:Value) (A:Around) (outer:List Env) (s:Shared) (H:Hp) (E:XK),Room k (A.deeper (envOfC x (Z3 st) s.heap.objs.size f cdv)) ->
  SB (cxOf CX0 P w K mg base N x (Z3 st) f cdv A outer s H E).nox EX0 (J4 st) mb):FnOk P w K mg base CX0 (k+1) f fd ps (spB K (runF N.length mb) n):=by
 refine F.ok S (λvs H Q E h=>h.1.trans hn.symm) (λcdv A outer s H vs Q E hr h=>?_);obtain⟨hl,ρ,ds,h,rh,rd,fin⟩:=h;refine⟨_,(body cdv A outer s H E hr).h,ρ,z07 N.length ds,h,⟨z1X rd,rh⟩,?_⟩;refine(Fin.bind fin).mono λo ρ1 h1 H1 p1 e1 r1 f1=>?_;cases o with
 | nx γ=>exact λσ _=>FE.here (d:=.non) (h:=h1) f1 r1 (by simp[RD])
 | rt d=>exact λv rv=>f1 ρ1 H1 (Pre.refl _) (Ext.refl _ _) r1 v rv
 | bk γ=>exact(show False from f1).elim
 | ct γ=>exact(show False from f1).elim
theorem bindsTo1 {x p:Str}{st:Stmt}{f:Addr}{fd:K1l}(F:Fun K x x st f fd)
 (h:∀(kV doc pm:Value) (an:Option Addr) (cdv ct u:Value),K8i (K1w x x (z0h st) (J4 st) (Z3 st) .none kV doc pm an cdv ct) ⟨[u],[]⟩=pure [(p,u)]):∀(s:Shared) (u:Value),K7n s fd ⟨[u],[]⟩ [(p,u)]:=by
 obtain⟨oc,od,kV,doc,pm,an,cdv,ct,osl,rfl,lk,hcd⟩:=F.ex;exact λs u=>.of_eq (h kV doc pm an cdv ct u)
end
theorem law_walk {l:K90}{q:K0a}{loose:List Str}{XP:(Str->Option Value)->Heap->Prop}{YP:World->Heap->Prop}{d:DefRec}{K:Params->K0}{m:List D->M D}{p:Str}{lev:Nat}(hn:l.most=some 63) (hdf:d.params.defaults=[]) (hr:Room lev K6h)
 (hY:∀(w:World) (h:Heap),YP w h->(K w.params).In h)
 (F:∀(w:World) (mg:Str->Option Value) (fa:Addr) (h:Heap),(K w.params).In h->h.Ns K1a mg->mg d.name=.(r fa) ->
  ∃fd:K1l,(∀(s:Shared) (u:Value),K7n s fd ⟨[u],[]⟩ [(p,u)])/\∀base:Heap,(K w.params).In base->base.Ns K1a mg->FnOk l.prog w (K w.params) mg base CX0 lev fa fd [p] (spB (K w.params) m 1))
 (math:∀ns:List Int,ns.length<=63->∃h',m [.fl (ns.map .int)] []=.ok (.bl true) h') :
 K95 q loose XP YP l.row.toRowW d [] (λf vs=>K93 f vs):=by
 refine L2.walk_of (n:=63) (k:=lev) (x:=p) (CX:=λ_=>CX0) (sp:=λw=>spB (K w.params) m 1) hn (by decide) hdf hr hY F (λw H a ns hl hO hS=>?_) λ_ _ _ _ _ z=>z;obtain⟨h',e⟩:=math ns hl;have sq:SqLP (K w.params) H a (ns.map V.int):=by
  rcases hS with (h|⟨o,h⟩)|h
  ·rcases hO a with z|⟨ob,xs,z⟩<;>rw[h]at z<;>cases z
  ·exact .inl ⟨o,h⟩
  ·exact .inr h
 refine⟨rfl,[],[.fl (ns.map .int)],[],⟨rfl,λi j a h=>by simp at h,λn o a h=>by simp at h⟩,RDs.cons ?_ RDs.nil,?_⟩
 ·simp only[RD];exact⟨a,_,rfl,sq,z1A ns⟩
 ·rw[e];exact λρ' H' _ _ _ v rv=>by simpa [RD] using rv
mutual
def k6 (n:Nat):D->Bool
 | .ref i=>decide (i<n)
 | .tup xs=>Z8 n xs
 | .fl xs=>Z8 n xs
 | _=>true
def Z8 (n:Nat):List D->Bool
 | []=>true
 | d::r=>k6 n d&&Z8 n r
end
def refO (n:Nat):O->Bool
 | .lst xs=>Z8 n xs
 | .dK kvs=>Z8 n (kvs.map (·.2))
 | .dF kvs=>Z8 n (kvs.map (·.2))
 | .ins _ fs=>Z8 n (fs.map (·.2))
 | _=>true
def Kept (h h1:AH):Prop:=∀(i:Nat) (o:O),i<h.length->h1[i]?=some o->h[i]?=some o\/refO h.length o=true
section
variable {K:K0}{ρ ρ':List Addr}{H:Hp}
theorem z2F {ρ:List Addr}{n i:Nat}(h:i<n):(ρ.take n)[i]?=ρ[i]?:=by rw[K3z,if_pos h]
mutual
theorem RD.cut {n:Nat}:∀{d:D}{v:V},k6 n d=true->RD K ρ H d v->RD K (ρ.take n) H d v
 | .non,v,_,h=>by simpa [RD] using h
 | .bl b,v,_,h=>by simpa [RD] using h
 | .int b,v,_,h=>by simpa [RD] using h
 | .str b,v,_,h=>by simpa [RD] using h
 | .tup ds,v,c,h=>by
  simp only[RD,k6]at h c ⊢;obtain⟨a,xs,h1,h2,h3⟩:=h;exact⟨a,xs,h1,h2,RDs.cut c h3⟩
 | .fl ds,v,c,h=>by
  simp only[RD,k6]at h c ⊢;obtain⟨a,xs,h1,h2,h3⟩:=h;exact⟨a,xs,h1,h2,RDs.cut c h3⟩
 | .ref i,v,c,h=>by
  simp only[RD,k6,decide_eq_true_eq]at h c ⊢;obtain⟨a,h1,h2⟩:=h;exact⟨a,h1,by rw[z2F c];exact h2⟩
theorem RDs.cut {n:Nat}:∀{ds:List D}{xs:List V},Z8 n ds=true->RDs K ρ H ds xs->RDs K (ρ.take n) H ds xs
 | [],xs,_,h=>by simpa [RDs] using h
 | d::ds,xs,c,h=>by
  simp only[RDs,Z8,K0b]at h c ⊢;obtain⟨x,r,h1,h2,h3⟩:=h;exact⟨x,r,h1,RD.cut c.1 h2,RDs.cut c.2 h3⟩
end
mutual
theorem RD.low:∀{d:D}{v:V},RD K ρ H d v->k6 ρ.length d=true
 | .non,v,h=>rfl
 | .bl b,v,h=>rfl
 | .int b,v,h=>rfl
 | .str b,v,h=>rfl
 | .tup ds,v,h=>by
  simp only[RD,k6]at h ⊢;obtain⟨a,xs,h1,h2,h3⟩:=h;exact RDs.low h3
 | .fl ds,v,h=>by
  simp only[RD,k6]at h ⊢;obtain⟨a,xs,h1,h2,h3⟩:=h;exact RDs.low h3
 | .ref i,v,h=>by
  simp only[RD,k6,decide_eq_true_eq]at h ⊢;obtain⟨a,h1,h2⟩:=h;exact(K4.mp h2).1
theorem RDs.low:∀{ds:List D}{xs:List V},RDs K ρ H ds xs->Z8 ρ.length ds=true
 | [],xs,h=>rfl
 | d::ds,xs,h=>by
  simp only[RDs,Z8,K0b]at h ⊢;obtain⟨x,r,h1,h2,h3⟩:=h;exact⟨RD.low h2,RDs.low h3⟩
end
theorem RK.cut {κ:Type}{n:Nat}:∀{kvs:List (κ×D)}{vs:List (κ×V)},Z8 n (kvs.map (·.2))=true->RK K ρ H kvs vs->RK K (ρ.take n) H kvs vs
 | _,_,_,.nil=>.nil
 | _,_,c,.cons a b=>by
  simp only[K0s,Z8,K0b]at c;exact .cons ⟨a.1,a.2.cut c.1⟩ (RK.cut c.2 b)
theorem RK.low {κ:Type}:∀{kvs:List (κ×D)}{vs:List (κ×V)},RK K ρ H kvs vs->Z8 ρ.length (kvs.map (·.2))=true
 | _,_,.nil=>rfl
 | _,_,.cons a b=>by
  simp only[K0s,Z8,K0b];exact⟨a.2.low,RK.low b⟩
theorem RO.cut {n:Nat}{o:O}{a:Addr}(c:refO n o=true) (h:RO K ρ H o a):RO K (ρ.take n) H o a:=by
 cases o with
 | lst ds=>obtain⟨xs,h1,h2⟩:=h;exact⟨xs,h1,h2.cut c⟩
 | set ks=>exact h
 | dct=>exact h
 | dK kvs=>obtain⟨vs,h1,h2⟩:=h;exact⟨vs,h1,h2.cut c⟩
 | dF kvs=>obtain⟨ob,vs,h1,h2⟩:=h;exact⟨ob,vs,h1,h2.cut c⟩
 | exc c=>exact h
 | ins c' fs=>obtain⟨C,dx,vs,h1,h2,h3⟩:=h;exact⟨C,dx,vs,h1,h2,h3.cut c⟩
theorem RO.low {o:O}{a:Addr}(h:RO K ρ H o a):refO ρ.length o=true:=by
 cases o with
 | lst ds=>obtain⟨xs,h1,h2⟩:=h;exact h2.low
 | set ks=>rfl
 | dct=>rfl
 | dK kvs=>obtain⟨vs,h1,h2⟩:=h;exact h2.low
 | dF kvs=>obtain⟨ob,vs,h1,h2⟩:=h;exact h2.low
 | exc c=>rfl
 | ins c fs=>obtain⟨C,dx,vs,_,_,h3⟩:=h;exact h3.low
theorem RH.cut {h:AH}{n:Nat}(r:RH K ρ h H) (c:∀o∈h.take n,refO n o=true):RH K (ρ.take n) (h.take n) H:=by
 refine⟨by simp[r.len],λi j a h1 h2=>?_,λm o a h1 h2=>?_⟩
 ·rw[K3z]at h1 h2;split at h1
  ·split at h2
   ·exact r.nd i j a h1 h2
   ·cases h2
  ·cases h1
 ·have hm:=K0r h1;rw[K3z]at h1 h2;split at h1
  ·rename_i q;rw[if_pos q]at h2;exact(r.obj m o a h1 h2).cut (c o hm)
  ·cases h1
theorem RH.cut1 {h:AH}{n i:Nat}{o:O}(r:RH K ρ h H) (c:∀o∈h.take n,refO n o=true) (hn:n<=h.length) (hi:n<=i) (e:h[i]?=some o) (co:refO n o=true):∃a,ρ[i]?=some a/\RH K (ρ.take n++[a]) (h.take n++[o]) H:=by
 obtain⟨a,ea,ra⟩:=r.at e;have r1:=r.cut c;have ln:(ρ.take n).length=n:=by rw[K28,r.len];omega
 have lh:(h.take n).length=n:=by rw[K28];omega
 have ne:∀{m:Nat} {b:Addr},(ρ.take n)[m]?=some b->b≠a:=λ{m b} q z=>by
  have hm:=(K4.mp q).1;rw[ln]at hm;rw[z2F hm,z]at q;have:=r.nd m i a q ea;omega
 refine⟨a,ea,by simp[r1.len],λi j b h1 h2=>?_,λm u b h1 h2=>?_⟩
 ·rw[K2s]at h1 h2;split at h1<;>split at h2
  ·exact r1.nd i j b h1 h2
  ·rename_i q1 q2;rw[K19]at h2;split at h2
   ·cases h2;exact absurd rfl (ne h1)
   ·cases h2
  ·rename_i q1 q2;rw[K19]at h1;split at h1
   ·cases h1;exact absurd rfl (ne h2)
   ·cases h1
  ·rw[K19]at h1 h2;split at h1
   ·split at h2
    ·omega
    ·cases h2
   ·cases h1
 ·rw[K2s]at h1 h2;rw[ln]at h2;rw[lh]at h1;split at h1
  ·rename_i q;rw[if_pos q]at h2;exact(r1.obj m u b h1 h2).mono (Pre.app _ _) (Ext.refl _ _) rfl
  ·rename_i q;rw[if_neg q]at h2;rw[K19]at h1 h2;split at h1
   ·rename_i q0;rw[if_pos q0]at h2;cases h1;cases h2;exact(ra.cut co).mono (Pre.app _ _) (Ext.refl _ _) rfl
   ·cases h1
end
theorem z5m {K:K0}{ρ:List Addr}{h h1:AH}{H:Hp}(r:RH K ρ h H) (c:Kept h h1):∀o∈h1.take h.length,refO h.length o=true:=λo ho=>by
 obtain⟨i,hi⟩:=K3k ho;rw[K3z]at hi;split at hi
 ·rename_i li;rcases c i o li hi with q|q
  ·obtain⟨a,_,ra⟩:=r.at q;rw[<- r.len];exact ra.low
  ·exact q
 ·cases hi
theorem z2u (h j:AH):Kept h (h++j):=λi o li e=>.inl (by rw[K06 li]at e;exact e)
open Classical in
noncomputable def cln (m:M D):M D:=λh=>match m h with
 | .ok d h1=>if h.length<=h1.length/\Kept h h1 then
  (if k6 h.length d=true then .ok d (h1.take h.length) else match d with
   | .ref i=>(match h1[i]? with
    | some o=>if refO h.length o=true then .ok (.ref h.length) (h1.take h.length++[o]) else .ok d h1
    | none=>.ok d h1)
   | d=>.ok d h1)
  else .ok d h1
 | .err x h1=>.err x h1
 | .bad=>.bad
theorem FE.cln {K:K0}{EX:XX}{ρ:List Addr}{h:AH}{H:Hp}{Q:VK}{m:M D}(r:RH K ρ h H) (f:FE K EX ρ H Q (cln m h)):FE K EX ρ H Q (m h):=by
 unfold FT.cln at f;cases e:m h with
 | bad=>rw[e]at f;exact f
 | err x h1=>rw[e]at f;exact f
 | ok d h1 =>
  rw[e]at f;dsimp only at f;split at f
  ·rename_i c;obtain⟨hl,c⟩:=c;have cl:=z5m r c;have pre:∀{ρ1:List Addr},Pre ρ ρ1->Pre ρ (ρ1.take h.length):=λ{ρ1} p i a q=>by
    have:=(K4.mp q).1;rw[r.len]at this;rw[z2F this];exact p i a q
   split at f
   ·rename_i cd;exact λρ1 H1 p1 e1 r1 v rv=>f _ H1 (pre p1) e1 (r1.cut cl) v (rv.cut cd)
   ·rename_i nd;split at f
    ·rename_i i;split at f
     ·rename_i o eo;split at f
      ·rename_i co;intro ρ1 H1 p1 e1 r1 v rv;have hi:h.length<=i:=by
        simp only[k6,decide_eq_true_eq]at nd;omega
       obtain⟨a,ea,r2⟩:=r1.cut1 cl hl hi eo co;refine f _ H1 ((pre p1).trans (Pre.app _ _)) e1 r2 v ?_;simp only[RD]at rv ⊢;obtain⟨b,h2,h3⟩:=rv;rw[ea]at h3;cases h3;refine⟨a,h2,?_⟩;have ln:(ρ1.take h.length).length=h.length:=by rw[K28,r1.len];omega
       rw[K0t (by omega),ln];simp
      ·exact f
     ·exact f
    ·exact f
  ·exact f
noncomputable def clE (m:G->M D):G->M D:=λγ=>cln (m γ)
theorem z14 {X:Cx}{EX:XX}{e:Expr}{m:G->M D}(h:SE X EX e m):SE X EX e (clE m) :=
 ⟨PE.imp h.h λσ H Q ⟨ρ,γ,h,rel,fin⟩=>⟨ρ,γ,h,rel,FE.cln rel.h fin⟩⟩
open Classical in
noncomputable def clT (m:G->M Bool):G->M Bool:=λγ h=>match m γ h with
 | .ok d h1=>if h.length<=h1.length/\Kept h h1 then .ok d (h1.take h.length) else .ok d h1
 | .err x h1=>.err x h1
 | .bad=>.bad
theorem RH.cut2 {K:K0}{ρ ρ1:List Addr}{h h1:AH}{H H1:Hp}(r:RH K ρ h H) (p1:Pre ρ ρ1) (r1:RH K ρ1 h1 H1) (c:Kept h h1):RH K (ρ1.take h.length) (h1.take h.length) H1/\Pre ρ (ρ1.take h.length):=by
 refine⟨r1.cut (z5m r c),λi a q=>?_⟩;have:=(K4.mp q).1;rw[r.len]at this;rw[z2F this];exact p1 i a q
theorem zf8 {X:Cx}{EX:XX}{e:Expr}{m:G->M Bool}(h:SC X EX e m):SC X EX e (clT m) :=
 ⟨PT.imp h.h λσ H Q ⟨ρ,γ,h,rel,fin⟩=>⟨ρ,γ,h,rel,by
  unfold clT at fin;cases e:m γ h with
  | bad=>rw[e]at fin;exact fin
  | err x h1=>rw[e]at fin;exact fin
  | ok d h1 =>
   rw[e]at fin;dsimp only at fin;split at fin
   ·rename_i c;exact λρ1 H1 p1 e1 r1=>let ⟨r2,p2⟩:=rel.h.cut2 p1 r1 c.2;fin _ H1 p2 e1 r2
   ·exact fin⟩⟩
theorem Fn.cln {P:K0a}{w:World}{K:K0}{mg:Str->Option Value}{base:Heap}{k:Nat}{x:Str}{n:Nat}{mf:List D->M D}(F:Fn P w K mg base k x n mf):Fn P w K mg base k x n (λds=>cln (mf ds)):=by
 obtain⟨f,fd,ps,h1,h2,h3,h4⟩:=F.ex;exact⟨f,fd,ps,h1.imp λvs H Q E ⟨hl,ρ,ds,h,rh,rd,fin⟩=>⟨hl,ρ,ds,h,rh,rd,FE.cln rh fin⟩,h2,h3,h4⟩
theorem FnX.cln {P:K0a}{w:World}{K:K0}{mg:Str->Option Value}{base:Heap}{k:Nat}{x:Str}{n:Nat}{mf:List D->M D}(F:FnX P w K mg base k x n mf):FnX P w K mg base k x n (λds=>cln (mf ds)):=by
 obtain⟨f,fd,ps,h1,h2,h3,h4⟩:=F.ex;exact⟨f,fd,ps,h1.imp λvs H Q E ⟨hl,ρ,ds,h,rh,rd,fin⟩=>⟨hl,ρ,ds,h,rh,rd,FE.cln rh fin⟩,h2,h3,h4⟩
end FT
namespace L2
open PySem PySem.Spec PyProof.Rows PySem.Builtin
theorem z1y:fillsNumberSlot (.type "tuple") "mul" = pure false :=
 PySem.fillsNumberSlot_seq (id:="tuple.__mul__") (r:=some (.builtin "tuple.__rmul__")) K2h.lookup (by decide +kernel) K68.lookup (by decide +kernel)
theorem z37:seqRepeat? (.type "tuple")=pure (some (.builtin "tuple.__mul__")):=by
 unfold seqRepeat?;rw[K8r (T:="tuple") (name:="__mul__") (id:="tuple.__mul__") K2h.lookup (by decide +kernel),K8r (T:="tuple") (name:="__rmul__") (id:="tuple.__rmul__") K68.lookup (by decide +kernel)];rfl
theorem z88 (a:Int) (t:Tok) (l:Addr) (items:Array Value) (n:Nat) (dd:Option Addr) (sl:Array (Option Value)) :
 Meets (Builtin.«int.__rmul__» ⟨[.int a t,.ref l],[]⟩) (λ_ R s=>s.heap.get? l=some { cls:=.type "tuple",dict:=dd,data:=.seq items n,slots:=sl }/\R (.ok (.ret Value.notImplemented)) s) :=
 .of_wp λprog w A R s h=>by obtain⟨hp,g,d,tk,os⟩:=s;obtain⟨hl,h⟩:=h;wp_walk;exact⟨_,rfl,h⟩
theorem z9i (l:Addr) (items:Array Value) (n:Nat) (dd:Option Addr) (sl:Array (Option Value)) (x:Int) (u:Tok) (h1:-(2 ^ 63)<=x) (h2:x<2 ^ 63) (hc:items.isEmpty=true\/x=1) :
 Meets (Builtin.«tuple.__mul__» ⟨[.ref l,.int x u],[]⟩) (λ_ R s=>s.heap.get? l=some { cls:=.type "tuple",dict:=dd,data:=.seq items n,slots:=sl }/\R (.ok (.ret (K1j l))) s) :=
 .of_wp λprog w A R s h=>by
  obtain⟨hp,g,d,tk,os⟩:=s;obtain⟨hl,h⟩:=h;have f1:=K4a;have c1:(decide (x < -(2 ^ 63))||decide (x >= 2 ^ 63))=false:=by simp;omega
  have c2:(items.isEmpty||x==1)=true:=by simpa using hc
  wp_walk using K0v hl
  refine K2d (by rw[c1];rfl) ?_
  wp_walk using K0v hl
  exact⟨_,rfl,h⟩
theorem ze8 (l:Addr) (items:Array Value) (n:Nat) (dd:Option Addr) (sl:Array (Option Value)) (x:Int) (u:Tok) (h1:-(2 ^ 63)<=x) (h2:x<2 ^ 63) (hc:items.isEmpty=false) (hx:x<=0) :
 Meets (Builtin.«tuple.__mul__» ⟨[.ref l,.int x u],[]⟩) (λ_ R s=>s.heap.get? l=some { cls:=.type "tuple",dict:=dd,data:=.seq items n,slots:=sl }/\R (.ok (.ret (K1j s.heap.objs.size))) { s with heap:=s.heap.push { cls:=K7x "tuple",data:=Data.seq #[] },toks:=s.toks }) :=
 .of_wp λprog w A R s h=>by
  obtain⟨hp,g,d,tk,os⟩:=s;obtain⟨hl,h⟩:=h;have f1:=K4a;have c1:(decide (x < -(2 ^ 63))||decide (x >= 2 ^ 63))=false:=by simp;omega
  have c2:(items.isEmpty||x==1)=false:=by rw[hc];simp;omega
  have c3:(decide (x<=0)||items.isEmpty)=true:=by simp[hx]
  wp_walk using K0v hl
  refine K2d (by rw[c1];rfl) ?_
  wp_walk using K0v hl
  refine K2d (by rw[c2];rfl) ?_
  wp_walk using K0v hl
  exact⟨_,rfl,h⟩
theorem z9G (l:Addr) (items:Array Value) (n:Nat) (dd:Option Addr) (sl:Array (Option Value)) (x:Int) (u:Tok) (h1:-(2 ^ 63)<=x) (h2:x<2 ^ 63) (hc:items.isEmpty=false) (hx:1<x) (hz:items.size * x.toNat<=sizeLine) :
 Meets (Builtin.«tuple.__mul__» ⟨[.ref l,.int x u],[]⟩) (λ_ R s=>s.heap.get? l=some { cls:=.type "tuple",dict:=dd,data:=.seq items n,slots:=sl }/\R (.ok (.ret (K1j s.heap.objs.size))) { s with heap:=s.heap.push { cls:=K7x "tuple",data:=Data.seq (K4n (λx1 x2=>x1++x2) #[] (K02 x.toNat items)) },toks:=s.toks }) :=
 .of_wp λprog w A R s h=>by
  obtain⟨hp,g,d,tk,os⟩:=s;obtain⟨hl,h⟩:=h;have f1:=K4a;have c1:(decide (x < -(2 ^ 63))||decide (x >= 2 ^ 63))=false:=by simp;omega
  have c2:(items.isEmpty||x==1)=false:=by rw[hc];simp;omega
  have c3:(decide (x<=0)||items.isEmpty)=false:=by rw[hc];simp;omega
  have ez:(items.size:Int) * x=((items.size * x.toNat:Nat):Int):=by
   rw[Int.natCast_mul,K50 (by omega)]
  have sl4:(sizeLine:Nat)<=2 ^ 24:=by decide
  have c4:¬ (items.size:Int) * x > (2 ^ 63 - 1) / 8:=by rw[ez];omega
  have c5:Tuple.tupleTooMany ((items.size:Int) * x)=false:=by
   unfold Tuple.tupleTooMany;rw[ez,decide_eq_false_iff_not];omega
  wp_walk using K0v hl
  refine K2d (by rw[c1];rfl) ?_
  wp_walk using K0v hl
  refine K2d (by rw[c2];rfl) ?_
  wp_walk using K0v hl
  refine K2d (by rw[c3];rfl) ?_
  wp_walk using K0v hl
  rw[if_neg c4]
  wp_walk using K0v hl
  refine K2d (by rw[c5];rfl) ?_
  wp_walk using K0v hl
  have c6:¬ (K4n (λx1 x2=>x1++x2) #[] (K02 x.toNat items)).size > sizeLine:=by
   have f0:=foldl_rep items.toList x.toNat [];rw[K6w]at f0;have:(K4n (λx1 x2=>x1++x2) #[] (K02 x.toNat items))=(K02 x.toNat items.toList).flatten.toArray:=f0;rw[this,K00,len_rep,K20,K54];omega
  refine K2d (decide_eq_false c6) ?_
  wp_walk using K0v hl
  exact⟨_,rfl,h⟩
def z9u (K:K0):R2:=λx y H Q=>∃a k xs,x=.ref a/\y=.int k/\SqT K H a xs/\-(2 ^ 63)<=k/\k<2 ^ 63/\xs.length * k.toNat<=sizeLine /\
 ((xs=[]\/k=1)->Q (.ref a) H)/\(∀p,H p=none->Q (.ref p) (upd H p (.tup (K02 k.toNat xs).flatten)))
theorem z7O {X:Cx}:OpR X (K27 .Mult) (z9u X.K):=by
 intro pins s σ H x y v u Q I rx ry h;obtain⟨a,k,xs,rfl,rfl,ha,h1,h2,hz,q1,q2⟩:=h;cases rx;obtain⟨t,rfl⟩:=ry;obtain⟨its,r1,p1,_⟩:=I.tuple ha;obtain⟨⟨cls,dd,data,sl⟩,ho,hc,n,hd⟩:=id p1;simp only at hc hd;subst hc hd;have go:∀(R:Value->Shared->Prop),wpAny (model X.prog X.w) X.A (call (.builtin "tuple.__mul__") [.ref a,.int k t]) R X.xe s->wpAny (model X.prog X.w) X.A (K27 .Mult (.ref a) (.int k t)) R X.xe s:=λR z =>
  K5u (T:="tuple") (U:="int") (by decide) ⟨_,ho,rfl⟩ (λs'=>K6k s' k t) z1y PySem.F.fills_int_mul K73 z37 PySem.F.slot_int_index.lookup
   (K3h K73 (K6k s k t) PySem.F.entry_int_rmul (PySem.F.args_int_rmul_2 _ _) (z88 k t a its.toArray n dd sl) ⟨ho,rfl,⟨_,ho,rfl⟩,z⟩)
 refine go _ ?_;have ln:its.length=xs.length:=r1.length.symm;by_cases c:xs=[]\/k=1
 ·refine K3h K2h ⟨_,ho,rfl⟩ K45 (K3v _ _) (z9i a its.toArray n dd sl k t h1 h2 ?_) ⟨ho,.ref a,H,I,rfl,q1 c⟩;rcases c with c|c
  ·left;have:its=[]:=r1.nil_iff.mpr c;rw[this];rfl
  ·exact .inr c
 ·have ne:its.toArray.isEmpty=false:=by
   cases its with
   | nil=>exact absurd (.inl (r1.nil_iff.mp rfl)) c
   | cons a r=>rfl
  by_cases k0:k<=0
  ·refine K3h K2h ⟨_,ho,rfl⟩ K45 (K3v _ _) (ze8 a its.toArray n dd sl k t h1 h2 ne k0) ⟨ho,?_⟩;have e0:k.toNat=0:=by omega
   refine⟨.ref s.heap.objs.size,_,I.laid (t':=s.toks) (o:=.tup (K02 k.toNat xs).flatten) (λb ob q=>K8 _ q) (K08 _) ?_,rfl,q2 _ (I.hok.fresh (K08 _))⟩;rw[e0];exact⟨by simp,_,.nil,FT.IsTup0.new _ _⟩
  ·have k2:1<k:=by
    have:k≠1:=λz=>c (.inr z);omega
   refine K3h K2h ⟨_,ho,rfl⟩ K45 (K3v _ _) (z9G a its.toArray n dd sl k t h1 h2 ne k2 (by rw[K00,ln];exact hz)) ⟨ho,?_⟩;refine⟨.ref s.heap.objs.size,_,I.laid (t':=s.toks) (o:=.tup (K02 k.toNat xs).flatten) (λb ob q=>K8 _ q) (K08 _) ?_,rfl,q2 _ (I.hok.fresh (K08 _))⟩;refine⟨by rw[len_rep,K54];exact hz,_,r1.rep k.toNat,?_⟩;have f0:=foldl_rep its k.toNat [];rw[K6w]at f0;have e:(K4n (λx1 x2=>x1++x2) #[] (K02 k.toNat its.toArray))=(K02 k.toNat its).flatten.toArray:=f0;rw[e];exact FT.IsTup0.new _ _
end L2
namespace FT
def z1k:D->D->M D
 | .tup x,.int j=>if decide (-(2 ^ 63)<=j)&&decide (j<2 ^ 63)&&decide (j.toNat * x.length<=sizeLine) then pure (.tup (K02 j.toNat x).flatten) else bad
 | x,y=>fMul x y
theorem z8u {X:Cx}{EX:XX}:BR X.K EX (λx y H Q=>(rI CMul (λi j=>.int (i * j)) x y H Q\/rRep x y H Q)\/z9u X.K x y H Q) z1k:=by
 intro ρ h H x y v u Q r rx ry fin;unfold z1k at fin;split at fin
 ·rename_i ds j;simp only[RD]at rx ry;obtain⟨a,xs,rfl,sq,rd⟩:=rx;subst ry;split at fin
  ·rename_i hc;simp only[K0b,decide_eq_true_eq]at hc;have hl:=rd.length;refine .inr ⟨a,j,xs,rfl,rfl,sq,hc.1.1,hc.1.2,by rw[<- hl,K54];exact hc.2,λc=>?_,λp hp=>FE.tup fin r (rd.flat j.toNat) hp⟩;refine FE.here fin r ?_;simp only[RD];refine⟨a,xs,rfl,sq,?_⟩;rcases c with c|c
   ·subst c;have:ds=[]:=by simpa using hl
    subst this;have:(K02 j.toNat ([]:List D)).flatten=[]:=by simp
    rw[this];exact rd
   ·subst c;have:(K02 (1:Int).toNat ds).flatten=ds:=by simp
    rw[this];exact rd
  ·exact fin.elim
 ·exact .inl (zc4 ρ h H x y v u Q r rx ry fin)
theorem z20 {X:Cx}{EX:XX}{a b:Expr}{pos:Pos}{ma mb:G->M D}(ha:SE X EX a ma) (hb:SE X EX b mb):SE X EX (.BinOp a .Mult b pos) (e2 z1k ma mb):=z32 ((op_mul.or z9L).or z7O) z8u ha hb
structure KD (K:K0) (dk:Addr) (name:Str) (d:D) (v:V) (u:Value):Prop where
 ns:K2f K dk name=some (some u)
 rel:RelV v u
 rd:∀ρ H,RD K ρ H d v
structure FnR (P:K0a) (w:World) (K:K0) (mg:Str->Option Value) (base:Heap) (k:Nat) (x:Str) (st:Stmt) (dk:Addr) (ps:List Str) (mf:List D->M D):Prop where
 ex:∃(f:Addr) (doc pm:Value) (an:Option Addr) (cdv ct:Value),FnOk P w K mg base CX0 k f (K1w x x (z0h st) (J4 st) (Z3 st) .none (.ref dk) doc pm an cdv ct) ps (spB K mf ps.length)/\K10 K (.ref f)=true/\mg x=.(r f)
theorem FnR.cln {P:K0a}{w:World}{K:K0}{mg:Str->Option Value}{base:Heap}{k:Nat}{x:Str}{st:Stmt}{dk:Addr}{ps:List Str}{mf:List D->M D}(F:FnR P w K mg base k x st dk ps mf):FnR P w K mg base k x st dk ps (λds=>FT.cln (mf ds)):=by
 obtain⟨f,doc,pm,an,cdv,ct,h1,h2,h3⟩:=F.ex;exact⟨f,doc,pm,an,cdv,ct,h1.imp λvs H Q E ⟨hl,ρ,ds,h,rh,rd,fin⟩=>⟨hl,ρ,ds,h,rh,rd,FE.cln rh fin⟩,h2,h3⟩
structure FnP (P:K0a) (w:World) (K:K0) (mg:Str->Option Value) (base:Heap) (k:Nat) (x:Str) (n:Nat) (ks:List Str) (d1 d2:List D) (mf:List D->M D):Prop where
 ex:∃f fd ps g gV v1 v2,FnOk P w K mg base CX0 k f fd ps (spB K mf ps.length)/\KBinds K fd ps ks g gV/\K10 K (.ref f)=true/\mg x=.(r f)/\(∀vs zs:List V,vs.length=n->zs.length=ks.length->gV vs zs=vs++(v1++zs++v2)/\(gV vs zs).length=ps.length) /\
  ∀ρ H,RDs K ρ H d1 v1/\RDs K ρ H d2 v2
structure SK (X:Cx) (EX:XX) (kws:List K3f) (m:G->M (List D)):Prop where
 h:PK X kws (tL X.K EX m)
theorem PK.imp {X:Cx}{e:List K3f}{t t':TA}(h:PK X e t) (f:∀σ H Q,t' σ H Q->t σ H Q):PK X e t':=λpos pins s σ H Q I z=>h pos pins s σ H Q I (f σ H Q z)
section
variable {X:Cx}{a e:Expr}{es:List Expr}{kws:List K3f}{pos p kpos:Pos}{mr mk:G->M (List D)}{ma:G->M D}{nm:Option Str}{EX:XX}
end
end FT
namespace L2
open PySem.AutoSeq1 (wpAny_loadPart')
section
variable {prog:K0a}{w:World}{A:Around}{E:Value->Shared->Prop}{s:Shared}
end
section
variable {X:Cx}
end
end L2
namespace FT
section
variable {X:Cx}{EX:XX}{a:Expr}{p p2 pos pos2:Pos}{ma:G->M D}
end
inductive Vw where
 | flat (d:D)|tup (xs:List D)|lst (xs:List D)|no
def vw (h:AH):D->Vw
 | .tup xs=>.tup xs
 | .fl xs=>.lst xs
 | .ref i=>match h[i]? with
  | .(l xs)=>.lst xs
  | _=>.no
 | d=>.flat d
def eqZ (f:D->D->Option Bool):List D->List D->Option Bool
 | [],[]=>some true
 | x::xs,y::ys=>match f x y,eqZ f xs ys with
  | some a,some b=>some (a&&b)
  | _,_=>none
 | _,_=>some false
def eqN:Nat->AH->D->D->Option Bool
 | 0,_,_,_=>none
 | n+1,h,x,y=>match vw h x,vw h y with
  | .flat a,.flat b=>some (eqF a b)
  | .tup xs,.tup ys=>eqZ (eqN n h) xs ys
  | .lst xs,.lst ys=>eqZ (eqN n h) xs ys
  | .no,_=>none
  | _,.no=>none
  | _,_=>some false
def eqE (f:D->D->Option Bool) (xs ys:List D) (j:Nat):Bool:=(f (xs.getD j .non) (ys.getD j .non)).getD false
theorem z2l {f:D->D->Option Bool}:∀{xs ys:List D}{b:Bool},eqZ f xs ys=some b ->
 (∀j x y,xs[j]?=some x->ys[j]?=some y->f x y=some (eqE f xs ys j))/\b=((K0u (min xs.length ys.length)).all (eqE f xs ys)&&xs.length==ys.length)
 | [],[],b,h=>by
  unfold eqZ at h;cases h;exact⟨λj x y e=>by simp at e,by simp⟩
 | [],y::ys,b,h=>by
  unfold eqZ at h;cases h;exact⟨λj x y e=>by simp at e,by simp⟩
 | x::xs,[],b,h=>by
  unfold eqZ at h;cases h;exact⟨λj x y _ e=>by simp at e,by simp⟩
 | x::xs,y::ys,b,h=>by
  unfold eqZ at h;split at h
  ·rename_i a c e1 e2;cases h;obtain⟨q1,q2⟩:=z2l e2;refine⟨λj p q ep eq=>?_,?_⟩
   ·cases j with
    | zero=>simp at ep eq;subst ep;subst eq;unfold eqE;simp[e1]
    | succ j=>simpa [eqE] using q1 j p q (by simpa using ep) (by simpa using eq)
   ·rw[q2];have:min (x::xs).length (y::ys).length=min xs.length ys.length+1:=by simp
    rw[this,List.range_succ_eq_map,K3r,List.all_map,<- Bool.and_assoc];congr 1
    ·unfold eqE;simp[e1,Function.comp_def]
    ·simp
  ·cases h
section
variable {K:K0}{ρ:List Addr}{h:AH}{H:Hp}
theorem z0B {d a:D}(e:vw h d=.flat a):a=d/\z0k d=true:=by
 cases d<;>simp[vw]at e<;>first|(subst e;exact⟨rfl,rfl⟩)|skip
 split at e<;>cases e
theorem z1p {d:D}{xs:List D}{v:V}(e:vw h d=.tup xs) (r:RD K ρ H d v):∃a vs,v=.ref a/\SqT K H a vs/\RDs K ρ H xs vs:=by
 cases d<;>simp[vw]at e
 ·subst e;simpa [RD] using r
 ·split at e<;>cases e
theorem z1r {d:D}{xs:List D}{v:V}(rh:RH K ρ h H) (e:vw h d=.lst xs) (r:RD K ρ H d v):∃a vs,v=.ref a/\SqL K H a vs/\RDs K ρ H xs vs:=by
 cases d<;>simp[vw]at e
 ·subst e;simp only[RD]at r;obtain⟨a,vs,h1,h2,h3⟩:=r;exact⟨a,vs,h1,h2.sq,h3⟩
 ·split at e
  ·rename_i i xs' ei;cases e;simp only[RD]at r;obtain⟨a,h1,h2⟩:=r;obtain⟨a',h3,vs,h4,h5⟩:=rh.at ei;rw[h2]at h3;cases h3;exact⟨a,vs,h1,SqL.of h4,h5⟩
  ·cases e
end
section
variable {X:Cx}{pins:List (Addr×Obj)}{σ:L2.St}{ρ:List Addr}{h:AH}{H:Hp}{s:Shared}
theorem z2q {K:K0}{a:Addr}:∀{d:D},z0k d=true->RD K ρ H d (.ref a)->False
 | .non,_,r=>by simp[RD]at r
 | .bl _,_,r=>by simp[RD]at r
 | .int _,_,r=>by simp[RD]at r
 | .str _,_,r=>by simp[RD]at r
 | .tup _,f,_=>by cases f
 | .fl _,f,_=>by cases f
 | .ref _,f,_=>by cases f
theorem z6g:∀{d:D},z0k d=true->eqF d d=true
 | .non,_=>rfl
 | .bl _,_=>by simp[eqF]
 | .int _,_=>by simp[eqF]
 | .str _,_=>by simp[eqF]
 | .tup _,f=>by cases f
 | .fl _,f=>by cases f
 | .ref _,f=>by cases f
def flV:D->V
 | .bl b=>.bl b
 | .int i=>.int i
 | .str x=>.str x
 | _=>.non
theorem z2h {K:K0}:∀{d:D}{v:V},z0k d=true->RD K ρ H d v->v=flV d
 | .non,_,_,r=>by simp only[RD]at r;exact r
 | .bl _,_,_,r=>by simp only[RD]at r;exact r
 | .int _,_,_,r=>by simp only[RD]at r;exact r
 | .str _,_,_,r=>by simp only[RD]at r;exact r
 | .tup _,_,f,_=>by cases f
 | .fl _,_,f,_=>by cases f
 | .ref _,_,f,_=>by cases f
theorem z8q:∀{a b:D},z0k a=true->z0k b=true->flV a=flV b->a=b
 | .non,.non,_,_,_=>rfl
 | .bl _,.bl _,_,_,e=>by cases e;rfl
 | .int _,.int _,_,_,e=>by cases e;rfl
 | .str _,.str _,_,_,e=>by cases e;rfl
 | .non,.bl _,_,_,e=>by cases e
 | .non,.int _,_,_,e=>by cases e
 | .non,.str _,_,_,e=>by cases e
 | .bl _,.non,_,_,e=>by cases e
 | .bl _,.int _,_,_,e=>by cases e
 | .bl _,.str _,_,_,e=>by cases e
 | .int _,.non,_,_,e=>by cases e
 | .int _,.bl _,_,_,e=>by cases e
 | .int _,.str _,_,_,e=>by cases e
 | .str _,.non,_,_,e=>by cases e
 | .str _,.bl _,_,_,e=>by cases e
 | .str _,.int _,_,_,e=>by cases e
 | .tup _,_,f,_,_=>by cases f
 | .fl _,_,f,_,_=>by cases f
 | .ref _,_,f,_,_=>by cases f
 | _,.tup _,_,f,_=>by cases f
 | _,.fl _,_,f,_=>by cases f
 | _,.ref _,_,f,_=>by cases f
theorem list_inj {a:Addr}{xs ys:List V}(I:Inv X pins σ H s) (h1:SqL X.K H a xs) (h2:SqL X.K H a ys):xs=ys:=by
 obtain⟨its,r,⟨o,n,e,_,_,d⟩,_⟩:=I.list h1;obtain⟨its',r',⟨o',n',e',_,_,d'⟩,_⟩:=I.list h2;rw[e]at e';cases e';rw[d]at d';injection d' with d1 _
 have:its=its':=by simpa using congrArg K8c d1
 subst this;exact r.inj r'
theorem z4a (I:Inv X pins σ H s) (rh:RH X.K ρ h H):∀(n:Nat) {d1 d2:D}{v:V}{b:Bool},RD X.K ρ H d1 v->RD X.K ρ H d2 v->eqN n h d1 d2=some b->b=true
 | 0,d1,d2,v,b,_,_,e=>by cases e
 | n+1,d1,d2,v,b,r1,r2,e=>by
  have elems:∀{xs ys:List D} {vs:List V},RDs X.K ρ H xs vs->RDs X.K ρ H ys vs->eqZ (eqN n h) xs ys=some b->b=true:=λ{xs ys vs} q1 q2 z=>by
   obtain⟨z1,z2⟩:=z2l z;have l1:=q1.length;have l2:=q2.length;rw[z2,K0b,K1e];refine⟨λj hj=>?_,by simp;omega⟩;have hj':j<xs.length:=by simp at hj;omega
   have e1:xs[j]?=some xs[j]:=K6 hj';have e2:ys[j]?=some ys[j]:=K6 (by omega);obtain⟨w1,a1,a2⟩:=q1.get e1;obtain⟨w2,b1,b2⟩:=q2.get e2;rw[a1]at b1;cases b1;exact z4a I rh n a2 b2 (z1 j _ _ e1 e2)
  unfold eqN at e;have nl:∀{a:Addr} {vs ws:List V},SqT X.K H a vs->SqL X.K H a ws->False:=λ{a vs ws} t1 t2=>by
   obtain⟨its,_,p1,_⟩:=I.tuple t1;obtain⟨its2,_,p2,_⟩:=I.list t2;exact SeqAt.ne_of_list_tuple p2.isList (show s.heap.IsTuple a its.toArray from p1) rfl
  cases e1:vw h d1 with
  | no=>rw[e1]at e;cases e2:vw h d2<;>rw[e2]at e<;>cases e
  | flat a =>
   rw[e1]at e;obtain⟨rfl,f1⟩:=z0B e1;cases e2:vw h d2 with
   | no=>rw[e2]at e;cases e
   | flat c =>
    rw[e2]at e;obtain⟨rfl,f2⟩:=z0B e2;cases e;have:=z8q f1 f2 ((z2h f1 r1).symm.trans (z2h f2 r2));subst this;exact z6g f1
   | tup ys=>obtain⟨a',vs,rfl,_,_⟩:=z1p e2 r2;exact(z2q f1 r1).elim
   | lst ys=>obtain⟨a',vs,rfl,_,_⟩:=z1r rh e2 r2;exact(z2q f1 r1).elim
  | tup xs =>
   rw[e1]at e;obtain⟨a,vs,rfl,t1,q1⟩:=z1p e1 r1;cases e2:vw h d2 with
   | no=>rw[e2]at e;cases e
   | flat c=>obtain⟨rfl,f2⟩:=z0B e2;exact(z2q f2 r2).elim
   | tup ys =>
    rw[e2]at e;obtain⟨a',ws,ea,t2,q2⟩:=z1p e2 r2;cases ea;have:=I.tuple_inj t1 t2;subst this;exact elems q1 q2 e
   | lst ys =>
    obtain⟨a',ws,ea,t2,q2⟩:=z1r rh e2 r2;cases ea;exact(nl t1 t2).elim
  | lst xs =>
   rw[e1]at e;obtain⟨a,vs,rfl,t1,q1⟩:=z1r rh e1 r1;cases e2:vw h d2 with
   | no=>rw[e2]at e;cases e
   | flat c=>obtain⟨rfl,f2⟩:=z0B e2;exact(z2q f2 r2).elim
   | lst ys =>
    rw[e2]at e;obtain⟨a',ws,ea,t2,q2⟩:=z1r rh e2 r2;cases ea;have:=list_inj I t1 t2;subst this;exact elems q1 q2 e
   | tup ys =>
    obtain⟨a',ws,ea,t2,q2⟩:=z1p e2 r2;cases ea;exact(nl t2 t1).elim
open SeqAt in
theorem mixT {A:Around}{u:Value}{d:D}{v:V}{K:K0}{a:Addr}{its:Array Value}(f:z0k d=true) (r:RD K ρ H d v) (ru:RelV v u) (p:s.heap.IsTuple a its) (hu:A.units<cLine):EqAt A s u (.ref a) false/\EqAt A s (.ref a) u false/\RcAt A s u (.ref a) false/\RcAt A s (.ref a) u false/\RcNeAt A s u (.ref a) true/\RcNeAt A s (.ref a) u true:=by
 have:=z2h f r;subst this;cases d with
 | non=>cases ru;exact⟨.none_tuple p hu,.tuple_none p hu,.none_tuple p hu,.tuple_none p hu,.none_tuple p hu,.tuple_none p hu⟩
 | bl b=>cases ru;exact⟨.bool_tuple b p hu,.tuple_bool b p hu,.bool_tuple b p hu,.tuple_bool b p hu,.bool_tuple b p hu,.tuple_bool b p hu⟩
 | int i=>obtain⟨t,rfl⟩:=ru;exact⟨.int_tuple i t p hu,.tuple_int i t p hu,.int_tuple i t p hu,.tuple_int i t p hu,.int_tuple i t p hu,.tuple_int i t p hu⟩
 | str x=>obtain⟨t,rfl⟩:=ru;exact⟨.str_tuple x t p hu,.tuple_str x t p hu,.str_tuple x t p hu,.tuple_str x t p hu,.str_tuple x t p hu,.tuple_str x t p hu⟩
 | tup _=>cases f
 | fl _=>cases f
 | ref _=>cases f
open SeqAt in
theorem mixL {A:Around}{u:Value}{d:D}{v:V}{K:K0}{a:Addr}{its:Array Value}(f:z0k d=true) (r:RD K ρ H d v) (ru:RelV v u) (p:s.heap.IsList a its) (hu:A.units<cLine):EqAt A s u (.ref a) false/\EqAt A s (.ref a) u false/\RcAt A s u (.ref a) false/\RcAt A s (.ref a) u false/\RcNeAt A s u (.ref a) true/\RcNeAt A s (.ref a) u true:=by
 have:=z2h f r;subst this;cases d with
 | non=>cases ru;exact⟨.none_list p hu,.list_none p hu,.none_list p hu,.list_none p hu,.none_list p hu,.list_none p hu⟩
 | bl b=>cases ru;exact⟨.bool_list b p hu,.list_bool b p hu,.bool_list b p hu,.list_bool b p hu,.bool_list b p hu,.list_bool b p hu⟩
 | int i=>obtain⟨t,rfl⟩:=ru;exact⟨.int_list i t p hu,.list_int i t p hu,.int_list i t p hu,.list_int i t p hu,.int_list i t p hu,.list_int i t p hu⟩
 | str x=>obtain⟨t,rfl⟩:=ru;exact⟨.str_list x t p hu,.list_str x t p hu,.str_list x t p hu,.list_str x t p hu,.str_list x t p hu,.list_str x t p hu⟩
 | tup _=>cases f
 | fl _=>cases f
 | ref _=>cases f
open SeqAt in
theorem zi4 {A:Around}{u1 u2:Value}:∀(d1 d2:D),z0k d1=true->z0k d2=true->RelV (flV d1) u1->RelV (flV d2) u2->EqAt A s u1 u2 (eqF d1 d2)/\RcAt A s u1 u2 (eqF d1 d2)/\RcNeAt A s u1 u2 (!(eqF d1 d2))
 | .non,.non,_,_,r1,r2=>by cases r1;cases r2;exact⟨EqAt.same _,RcAt.none_none,RcNeAt.none_none⟩
 | .non,(.bl b),_,_,r1,r2=>by cases r1;cases r2;exact⟨EqAt.none_bool b,RcAt.none_bool b,RcNeAt.none_bool b⟩
 | .non,(.int b),_,_,r1,r2=>by cases r1;obtain⟨t2,rfl⟩:=r2;exact⟨EqAt.none_int b t2,RcAt.none_int b t2,RcNeAt.none_int b t2⟩
 | .non,(.str b),_,_,r1,r2=>by cases r1;obtain⟨t2,rfl⟩:=r2;exact⟨EqAt.none_str b t2,RcAt.none_str b t2,RcNeAt.none_str b t2⟩
 | (.bl a),.non,_,_,r1,r2=>by cases r1;cases r2;exact⟨EqAt.bool_none a,RcAt.bool_none a,RcNeAt.bool_none a⟩
 | (.bl a),(.bl b),_,_,r1,r2=>by cases r1;cases r2;exact⟨EqAt.bool_bool a b,RcAt.bool_bool a b,RcNeAt.bool_bool a b⟩
 | (.bl a),(.int b),_,_,r1,r2=>by cases r1;obtain⟨t2,rfl⟩:=r2;exact⟨EqAt.bool_int a b t2,RcAt.bool_int a b t2,RcNeAt.bool_int a b t2⟩
 | (.bl a),(.str b),_,_,r1,r2=>by cases r1;obtain⟨t2,rfl⟩:=r2;exact⟨EqAt.bool_str a b t2,RcAt.bool_str a b t2,RcNeAt.bool_str a b t2⟩
 | (.int a),.non,_,_,r1,r2=>by obtain⟨t1,rfl⟩:=r1;cases r2;exact⟨EqAt.int_none a t1,RcAt.int_none a t1,RcNeAt.int_none a t1⟩
 | (.int a),(.bl b),_,_,r1,r2=>by obtain⟨t1,rfl⟩:=r1;cases r2;exact⟨EqAt.int_bool a t1 b,RcAt.int_bool a t1 b,RcNeAt.int_bool a t1 b⟩
 | (.int a),(.int b),_,_,r1,r2=>by obtain⟨t1,rfl⟩:=r1;obtain⟨t2,rfl⟩:=r2;exact⟨EqAt.int_int a t1 b t2,RcAt.int_int a t1 b t2,RcNeAt.int_int a t1 b t2⟩
 | (.int a),(.str b),_,_,r1,r2=>by obtain⟨t1,rfl⟩:=r1;obtain⟨t2,rfl⟩:=r2;exact⟨EqAt.int_str a t1 b t2,RcAt.int_str a t1 b t2,RcNeAt.int_str a t1 b t2⟩
 | (.str a),.non,_,_,r1,r2=>by obtain⟨t1,rfl⟩:=r1;cases r2;exact⟨EqAt.str_none a t1,RcAt.str_none a t1,RcNeAt.str_none a t1⟩
 | (.str a),(.bl b),_,_,r1,r2=>by obtain⟨t1,rfl⟩:=r1;cases r2;exact⟨EqAt.str_bool a t1 b,RcAt.str_bool a t1 b,RcNeAt.str_bool a t1 b⟩
 | (.str a),(.int b),_,_,r1,r2=>by obtain⟨t1,rfl⟩:=r1;obtain⟨t2,rfl⟩:=r2;exact⟨EqAt.str_int a t1 b t2,RcAt.str_int a t1 b t2,RcNeAt.str_int a t1 b t2⟩
 | (.str a),(.str b),_,_,r1,r2=>by obtain⟨t1,rfl⟩:=r1;obtain⟨t2,rfl⟩:=r2;exact⟨EqAt.str_str a t1 b t2,RcAt.str_str a t1 b t2,RcNeAt.str_str a t1 b t2⟩
 | .tup _,_,f,_,_,_=>by cases f
 | .fl _,_,f,_,_,_=>by cases f
 | .ref _,_,f,_,_,_=>by cases f
 | _,.tup _,_,f,_,_=>by cases f
 | _,.fl _,_,f,_,_=>by cases f
 | _,.ref _,_,f,_,_=>by cases f
open SeqAt in
theorem deq (I:Inv X pins σ H s) (rh:RH X.K ρ h H):∀(n:Nat) {A:Around}{d1 d2:D}{v1 v2:V}{u1 u2:Value}{b:Bool},A.units+n<cLine->RD X.K ρ H d1 v1->RD X.K ρ H d2 v2->RelV v1 u1->RelV v2 u2->eqN n h d1 d2=some b->EqAt A s u1 u2 b/\RcAt A s u1 u2 b/\RcNeAt A s u1 u2 (!b)
 | 0,A,d1,d2,v1,v2,u1,u2,b,_,_,_,_,_,e=>by cases e
 | n+1,A,d1,d2,v1,v2,u1,u2,b,hA,r1,r2,w1,w2,e=>by
  have hu:A.units<cLine:=by omega
  have e0:=e;unfold eqN at e;have elems:∀{xs ys:List D} {vs ws:List V} {its its2:List Value},RDs X.K ρ H xs vs->RDs X.K ρ H ys ws->Vals vs its->Vals ws its2->eqZ (eqN n h) xs ys=some b ->
   (∀j (h1:j<its.toArray.size) (h2:j<its2.toArray.size),EqAt A.in1 s its.toArray[j] its2.toArray[j] (eqE (eqN n h) xs ys j))/\b=((K0u (min its.toArray.size its2.toArray.size)).all (eqE (eqN n h) xs ys)&&its.toArray.size==its2.toArray.size):=λ{xs ys vs ws its its2} q1 q2 a1 a2 z=>by
   obtain⟨z1,z2⟩:=z2l z;have l1:=q1.length;have l2:=q2.length;have l3:=a1.length;have l4:=a2.length;refine⟨λj h1 h2=>?_,by rw[z2,K00,K00,<- l3,<- l4,<- l1,<- l2]⟩;have j1:j<xs.length:=by rw[K00]at h1;omega
   have j2:j<ys.length:=by rw[K00]at h2;omega
   have e1:xs[j]?=some xs[j]:=K6 j1;have e2:ys[j]?=some ys[j]:=K6 j2;obtain⟨x1,b1,c1⟩:=q1.get e1;obtain⟨x2,b2,c2⟩:=q2.get e2;obtain⟨y1,b3,c3⟩:=a1.get b1;obtain⟨y2,b4,c4⟩:=a2.get b2;have g1:its.toArray[j]=y1:=by
    have:=K6 (l:=its) (i:=j) (by simpa using h1);rw[b3]at this;simpa using(K0p this).symm
   have g2:its2.toArray[j]=y2:=by
    have:=K6 (l:=its2) (i:=j) (by simpa using h2);rw[b4]at this;simpa using(K0p this).symm
   rw[g1,g2];exact(deq I rh n (A:=A.in1) (show A.units+1+n<cLine by omega) c1 c2 c3 c4 (z1 j _ _ e1 e2)).1
  have same:∀{a a':Addr},v1=.ref a->v2=.ref a'->a=a'->b=true:=λ{a a'} x y z=>by
   subst z;rw[x]at r1;rw[y]at r2;exact z4a I rh (n+1) r1 r2 e0
  cases e1:vw h d1 with
  | no=>rw[e1]at e;cases e2:vw h d2<;>rw[e2]at e<;>cases e
  | flat a =>
   rw[e1]at e;obtain⟨rfl,f1⟩:=z0B e1;cases e2:vw h d2 with
   | no=>rw[e2]at e;cases e
   | flat c =>
    rw[e2]at e;obtain⟨rfl,f2⟩:=z0B e2;cases e;rw[z2h f1 r1]at w1;rw[z2h f2 r2]at w2;exact zi4 a c f1 f2 w1 w2
   | tup ys =>
    rw[e2]at e;cases e;obtain⟨a',vs,rfl,t2,_⟩:=z1p e2 r2;cases w2;obtain⟨its,_,p,_⟩:=I.tuple t2;obtain⟨m1,_,m3,_,m5,_⟩:=mixT (s:=s) f1 r1 w1 (show s.heap.IsTuple a' its.toArray from p) hu;exact⟨m1,m3,m5⟩
   | lst ys =>
    rw[e2]at e;cases e;obtain⟨a',vs,rfl,t2,_⟩:=z1r rh e2 r2;cases w2;obtain⟨its,_,p,_⟩:=I.list t2;obtain⟨m1,_,m3,_,m5,_⟩:=mixL (s:=s) f1 r1 w1 p.isList hu;exact⟨m1,m3,m5⟩
  | tup xs =>
   rw[e1]at e;obtain⟨a,vs,rfl,t1,q1⟩:=z1p e1 r1;cases w1;obtain⟨its,x1,p1,_⟩:=I.tuple t1;have p1:s.heap.IsTuple a its.toArray:=p1;cases e2:vw h d2 with
   | no=>rw[e2]at e;cases e
   | flat c =>
    rw[e2]at e;cases e;obtain⟨rfl,f2⟩:=z0B e2;obtain⟨_,m2,_,m4,_,m6⟩:=mixT (s:=s) f2 r2 w2 p1 hu;exact⟨m2,m4,m6⟩
   | tup ys =>
    rw[e2]at e;obtain⟨a',ws,rfl,t2,q2⟩:=z1p e2 r2;cases w2;obtain⟨its2,x2,p2,_⟩:=I.tuple t2;have p2:s.heap.IsTuple a' its2.toArray:=p2;obtain⟨g1,g2⟩:=elems q1 q2 x1 x2 e;have rc:=RcAt.tuples p1 p2 hu g1;have rn:=RcNeAt.tuples p1 p2 hu g1;rw[<- g2]at rc rn;refine⟨?_,rc,rn⟩;by_cases ea:a=a'
    ·rw[same rfl rfl ea];subst ea;exact EqAt.same _
    ·exact EqAt.of_refs ea rc
   | lst ys =>
    rw[e2]at e;cases e;obtain⟨a',ws,rfl,t2,q2⟩:=z1r rh e2 r2;cases w2;obtain⟨its2,x2,p2,_⟩:=I.list t2;exact⟨EqAt.tuple_list p1 p2.isList hu,RcAt.tuple_list p1 p2.isList hu,RcNeAt.tuple_list p1 p2.isList hu⟩
  | lst xs =>
   rw[e1]at e;obtain⟨a,vs,rfl,t1,q1⟩:=z1r rh e1 r1;cases w1;obtain⟨its,x1,p1,_⟩:=I.list t1;cases e2:vw h d2 with
   | no=>rw[e2]at e;cases e
   | flat c =>
    rw[e2]at e;cases e;obtain⟨rfl,f2⟩:=z0B e2;obtain⟨_,m2,_,m4,_,m6⟩:=mixL (s:=s) f2 r2 w2 p1.isList hu;exact⟨m2,m4,m6⟩
   | tup ys =>
    rw[e2]at e;cases e;obtain⟨a',ws,rfl,t2,q2⟩:=z1p e2 r2;cases w2;obtain⟨its2,x2,p2,_⟩:=I.tuple t2;exact⟨EqAt.list_tuple p1.isList p2 hu,RcAt.list_tuple p1.isList p2 hu,RcNeAt.list_tuple p1.isList p2 hu⟩
   | lst ys =>
    rw[e2]at e;obtain⟨a',ws,rfl,t2,q2⟩:=z1r rh e2 r2;cases w2;obtain⟨its2,x2,p2,_⟩:=I.list t2;obtain⟨g1,g2⟩:=elems q1 q2 x1 x2 e;have both:RcAt A s (.ref a) (.ref a') b/\RcNeAt A s (.ref a) (.ref a') (!b):=by
     by_cases hz:its.toArray.size=its2.toArray.size
     ·have:b=(K0u its.toArray.size).all (eqE (eqN n h) xs ys):=by rw[g2,<- hz,Nat.min_self];simp
      rw[this];exact⟨RcAt.lists p1.isList p2.isList hz hu g1,RcNeAt.lists p1.isList p2.isList hz hu g1⟩
     ·have:b=false:=by
       rw[g2,Bool.and_eq_false_iff];right;simpa using hz
      rw[this];exact⟨RcAt.lists_lengths p1.isList p2.isList (by simpa using hz) hu,RcNeAt.lists_lengths p1.isList p2.isList (by simpa using hz) hu⟩
    refine⟨?_,both⟩;by_cases ea:a=a'
    ·rw[same rfl rfl ea];subst ea;exact EqAt.same _
    ·exact EqAt.of_refs ea both.1
end
def fEqX (neg:Bool):D->D->M D:=λx y h=>match eqN 24 h x y with
 | some b=>.ok (.bl (b != neg)) h
 | none=>.bad
def inZ (h:AH) (x:D):List D->Option Bool
 | []=>some false
 | y::ys=>match eqN 24 h y x,inZ h x ys with
  | some a,some b=>some (a||b)
  | _,_=>none
theorem z2A {h:AH}{x:D}:∀{ys:List D}{b:Bool},inZ h x ys=some b->(∀y∈ys,∃a,eqN 24 h y x=some a)/\(b=true↔∃y∈ys,eqN 24 h y x=some true)
 | [],b,e=>by unfold inZ at e;cases e;exact⟨λy hy=>(by simp at hy),by simp⟩
 | y::ys,b,e=>by
  unfold inZ at e;split at e
  ·rename_i a c e1 e2;cases e;obtain⟨q1,q2⟩:=z2A e2;refine⟨λz hz=>?_,?_⟩
   ·rcases K1h.mp hz with q|q
    ·subst q;exact⟨_,e1⟩
    ·exact q1 z q
   ·rw[K24,q2];constructor
    ·rintro(q|⟨z,hz,q⟩)
     ·exact⟨y,by simp,by rw[e1,q]⟩
     ·exact⟨z,by simp[hz],q⟩
    ·rintro⟨z,hz,q⟩;rcases K1h.mp hz with w|w
     ·subst w;rw[e1]at q;exact .inl (K0p q)
     ·exact .inr ⟨z,w,q⟩
  ·cases e
def rEqX (K:K0) (neg:Bool):R2:=λx y H Q=>∃ρ h d1 d2 b,RH K ρ h H/\RD K ρ H d1 x/\RD K ρ H d2 y/\eqN 24 h d1 d2=some b/\Q (.bl (b != neg)) H
section
variable {X:Cx}{EX:XX}
theorem ze4 (hu:X.A.units+30<cLine):OpR X (K1g .Eq) (rEqX X.K false):=by
 intro pins s σ H x y v u Q I rx ry h;obtain⟨ρ,h,d1,d2,b,rh,r1,r2,e,q⟩:=h;rw[K4f]at q;exact(deq I rh 24 (A:=X.A) (by omega) r1 r2 rx ry e).2.1 X.prog X.w X.xe (EP X pins σ Q) ⟨.bl b,H,I,rfl,q⟩
theorem za9 (hu:X.A.units+30<cLine):OpR X (K1g .NotEq) (rEqX X.K true):=by
 intro pins s σ H x y v u Q I rx ry h;obtain⟨ρ,h,d1,d2,b,rh,r1,r2,e,q⟩:=h;rw[K3s]at q;exact(deq I rh 24 (A:=X.A) (by omega) r1 r2 rx ry e).2.2 X.prog X.w X.xe (EP X pins σ Q) ⟨.bl (!b),H,I,rfl,q⟩
open Classical in
theorem zh2 {pins:List (Addr×Obj)}{σ:L2.St}{ρ:List Addr}{h:AH}{H:Hp}{s:Shared}{d:D}{ds:List D}{x:V}{v:Value}{xs:List V}{its:List Value}{b:Bool}(hu:X.A.units+30<cLine) (I:Inv X pins σ H s) (rh:RH X.K ρ h H) (rx:RD X.K ρ H d x) (wx:RelV x v) (rs:RDs X.K ρ H ds xs) (ws:Vals xs its) (e:inZ h d ds=some b) :
 ∃f:Value->Bool,(∀y∈its,K5b X.A.in1 s y v (f y))/\its.any f=b:=by
 obtain⟨q1,q2⟩:=z2A e;have ex:∀y∈its,∃a z w,z∈ds/\RD X.K ρ H z w/\RelV w y/\eqN 24 h z d=some a:=λy hy=>by
  obtain⟨j,hj⟩:=K3k hy;have lj:=(K4.mp hj).1;have a1:xs[j]?=some (xs[j]'(by rw[ws.length];exact lj)):=K6 _;obtain⟨y',c1,a2⟩:=ws.get a1;rw[hj]at c1;cases c1;obtain⟨z,b1,b2⟩:=rs.getV a1;have zm:=K0r b1;obtain⟨a,c⟩:=q1 z zm;exact⟨a,z,_,zm,b2,a2,c⟩
 have key:∀y∈its,∀a,(∃z w,z∈ds/\RD X.K ρ H z w/\RelV w y/\eqN 24 h z d=some a)->K5b X.A.in1 s y v a:=λy hy a ⟨z,w,zm,r1,r2,c⟩ =>
  (deq I rh 24 (A:=X.A.in1) (show X.A.units+1+24<cLine by omega) r1 rx r2 wx c).1
 refine⟨λy=>decide (∃z w,z∈ds/\RD X.K ρ H z w/\RelV w y/\eqN 24 h z d=some true),λy hy=>?_,?_⟩
 ·by_cases c:∃z w,z∈ds/\RD X.K ρ H z w/\RelV w y/\eqN 24 h z d=some true
  ·dsimp only;rw[decide_eq_true c];exact key y hy true c
  ·dsimp only;rw[decide_eq_false c];obtain⟨a,z,w,g⟩:=ex y hy;cases a with
   | false=>exact key y hy false ⟨z,w,g⟩
   | true=>exact absurd ⟨z,w,g⟩ c
 ·rw[K18,q2,K4s];constructor
  ·rintro⟨y,hy,c⟩;obtain⟨z,w,zm,_,_,c⟩:=of_decide_eq_true c;exact⟨z,zm,c⟩
  ·rintro⟨z,zm,c⟩;obtain⟨j,hj⟩:=K3k zm;obtain⟨w,a1,a2⟩:=rs.get hj;obtain⟨y,b1,b2⟩:=ws.get a1;exact⟨y,K0r b1,decide_eq_true ⟨z,w,zm,a2,b2,c⟩⟩
theorem z7s {neg:Bool}:BR X.K EX (rEqX X.K neg) (fEqX neg):=by
 intro ρ h H x y v u Q r rx ry fin;unfold fEqX at fin;cases e:eqN 24 h x y with
 | none=>rw[e]at fin;exact fin.elim
 | some b=>rw[e]at fin;exact⟨ρ,h,x,y,b,r,rx,ry,e,FE.here fin r (by simp[RD])⟩
theorem z9I (hu:X.A.units+30<cLine):CO X EX .Eq (fEqX false):=⟨_,ze4 hu,z7s⟩
theorem z7r (hu:X.A.units+30<cLine):CO X EX .NotEq (fEqX true):=⟨_,za9 hu,z7s⟩
theorem hu30 {A:Around}{k:Nat}(hr:Room k A):A.units+30<cLine:=K89 (K7t (by decide:30<=64) _) hr.units
end
variable {α β:Type}
theorem z0l (a:α) (f:α->M β):((K7i a:M α) >>= f)=f a:=by funext h;rfl
theorem W_eq {m:M α}{v:α}{h:AH}{Q:α->AH->Prop}(e:m=pure v) (q:Q v h):W m h Q:=by rw[e,W_pure];exact q
mutual
theorem z1B {m n:Nat}(h:m<=n):∀{d:D},k6 m d=true->k6 n d=true
 | .non,_=>rfl
 | .bl _,_=>rfl
 | .int _,_=>rfl
 | .str _,_=>rfl
 | .tup ds,c=>by simp only[k6]at c ⊢;exact z0C h c
 | .fl ds,c=>by simp only[k6]at c ⊢;exact z0C h c
 | .ref i,c=>by simp only[k6,decide_eq_true_eq]at c ⊢;omega
theorem z0C {m n:Nat}(h:m<=n):∀{d:List D},Z8 m d=true->Z8 n d=true
 | [],_=>rfl
 | d::r,c=>by simp only[Z8,K0b]at c ⊢;exact⟨z1B h c.1,z0C h c.2⟩
end
theorem z2e {n:Nat}:∀{xs:List D},(∀x∈xs,k6 n x=true)->Z8 n xs=true
 | [],_=>rfl
 | x::r,h=>by simp only[Z8,K0b];exact⟨h x (by simp),z2e λy hy=>h y (by simp[hy])⟩
theorem Y1 {n:Nat}{ι:Type}{f:ι->D}{l:List ι}(h:∀a,k6 n (f a)=true):Z8 n (l.map f)=true:=z2e λx hx=>by
 obtain⟨a,_,rfl⟩:=K1v.mp hx;exact h a
theorem z15 {m:M D}{h:AH}{d:D}{j:AH}(e:m h=.ok d (h++j)) (c:k6 h.length d=true):cln m h=.ok d h:=by
 unfold cln;rw[e];dsimp only;rw[if_pos ⟨by simp,z2u _ _⟩,if_pos c];simp
theorem z7U {m:M D}{h:AH}{i:Nat}{xs:List D}{j:AH}(e:m h=.ok (.ref i) (h++j)) (hi:h.length<=i) (ei:(h++j)[i]?=.(l xs)) (c:Z8 h.length xs=true):cln m h=.ok (.ref h.length) (h++[.lst xs]):=by
 unfold cln;rw[e];dsimp only;rw[if_pos ⟨by simp,z2u _ _⟩,if_neg (by simp only[k6,decide_eq_true_eq];omega),ei];dsimp only;rw[if_pos (show refO h.length (.lst xs)=true from c)];simp
theorem z3Q (d:D):cln (pure d)=pure d:=funext λh=>by
 unfold cln;rw[pureM];dsimp only;rw[if_pos ⟨K08 _,λ_ _ _ e=>.inl e⟩];split
 ·simp
 ·rename_i nd;split
  ·rename_i i;simp only[k6,decide_eq_true_eq]at nd;rw[K75 (by omega)]
  ·rfl
theorem zj9 {m:M D}{v:D}(c:k6 0 v=true) (z:∀h,W m h λa h'=>a=v/\∃j,h'=h++j):cln m=pure v:=funext λh=>by
 obtain⟨a,h',e,rfl,j,rfl⟩:=z h;exact z15 e (z1B (K3g _) c)
theorem zg9 {m:G->M Bool}{γ:G}{h:AH}{d:Bool}{j:AH}(e:m γ h=.ok d (h++j)):clT m γ h=.ok d h:=by
 unfold clT;rw[e];dsimp only;rw[if_pos ⟨by simp,z2u _ _⟩];simp
theorem z61:∀bs:List Bool,blsD (bs.map .bl)=some bs
 | []=>rfl
 | b::r=>by simp[blsD,z61 r]
theorem filter_tt {l:List α}:l.filter (λ_=>true)=l:=by induction l<;>simp_all
theorem z5P {n:Nat}{mb:G->M Out}{ds:List D}{d:D}(e:mb (z07 n ds)=pure (.rt d)):runF n mb ds=pure d:=by unfold runF;rw[e];rfl
structure SQ (st:List (List Nat)):Prop where
 l1:1<=st.length
 l2:st.length<=40
 s2:∀l∈st,∀x∈l,x<st.length
def nx (st:List (List Nat)) (a:Nat):List Nat:=(st[a]?).getD []
inductive Rch (st:List (List Nat)) (x:Nat):Nat->Prop
 | here:Rch st x x
 | step {a b:Nat}:Rch st x a->b∈nx st a->Rch st x b
theorem z87 {st:List (List Nat)}(q:SQ st) {a b:Nat}(h:b∈nx st a):b<st.length:=by
 unfold nx at h;cases e:st[a]? with
 | none=>rw[e]at h;cases h
 | some l =>
  rw[e]at h;exact q.s2 l (K0r e) b h
theorem zd0 {st:List (List Nat)}(q:SQ st) {x a:Nat}(hx:x<st.length) (h:Rch st x a):a<st.length:=by
 cases h with
 | here=>exact hx
 | step _ h=>exact z87 q h
theorem z0E (st:List (List Nat)):(stsD st).length=st.length:=by unfold stsD;simp
theorem zb3 {st:List (List Nat)}{a:Nat}(ha:a<st.length):atI (stsD st) (a:Int)=.(g ((stD (nx st a)))):=by
 refine z1V ?_;unfold stsD nx;rw[K0n,K6 ha];rfl
theorem z1Y {st:List (List Nat)}{mk:List (List Str)}:fIx (maD st mk) (.int 0)=pure (.tup (stsD st)):=ix_tup rfl
theorem zf0 {st:List (List Nat)}{mk:List (List Str)}:fIx (maD st mk) (.int 1)=pure (.tup (mksD mk)):=ix_tup rfl
theorem z9F {st:List (List Nat)}{a:Nat}(ha:a<st.length):fIx (.tup (stsD st)) (.int a)=pure (.tup (stD (nx st a))):=ix_tup (zb3 ha)
theorem z5O:∀l:List Nat,(stD l).all z0k=true
 | []=>rfl
 | _::l=>z5O l
theorem z7c (x:Nat):∀l:List Nat,((stD l).any λz=>eqF z (.int x))=decide (x∈l)
 | []=>by simp[stD]
 | b::l=>by
  rw[show stD (b::l)=.int b::stD l from rfl,K1q,z7c x l];simp only[eqF];rw[K18];simp only[K24,beq_iff_eq,decide_eq_true_eq,K1h];constructor
  ·rintro(h|h)
   ·left;omega
   ·exact .inr h
  ·rintro(h|h)
   ·left;omega
   ·exact .inr h
theorem y9 (l:List Nat):(stD l).length=l.length:=by unfold stD;simp
theorem z19 {l:List Nat}{n:Nat}(hl:l.Pairwise (·<·)) (hm:∀x∈l,x<n):l.length<=n:=by
 have nd:l.Nodup:=List.Pairwise.imp (λh=>K0q h) hl;have:=nd.length_le_of_subset (l₂:=K0u n) (λx hx=>K1x.mpr (hm x hx));rwa [K2p]at this
def zN (l:List Nat):List Int:=l.map λ(i:Nat)=>(i:Int)
def k7 (l:List Nat):List Nat:=(sortI (zN l)).map K98
theorem z2x:∀l:List Nat,z1v (stD l)=some (zN l)
 | []=>rfl
 | a::l=>by
  show (z1v (stD l)).map _=_;rw[z2x l];rfl
theorem z2W (l:List Nat):(sortI (zN l)).map D.int=stD (k7 l):=by
 unfold k7 stD;rw[K2g];refine K7r λa ha=>?_;have:a∈zN l:=(sortI_perm _).mem_iff.mp ha;obtain⟨i,_,rfl⟩:=K1v.mp this;rfl
theorem z1f (l:List Nat):(k7 l).Perm l:=by
 have:=(sortI_perm (zN l)).map K98;refine this.trans ?_;unfold zN;rw[K2g];rw[show (K98 ∘ λ(i:Nat)=>(i:Int))=id from funext λi=>rfl,List.map_id]
theorem z0M {l:List Nat}(nd:l.Nodup):(k7 l).Pairwise (·<·):=by
 have s:(k7 l).Pairwise (·<=·):=by
  unfold k7;rw[K60];exact(z3T _).imp λ{a b} h=>by omega
 have n:(k7 l).Nodup:=(z1f l).nodup_iff.mpr nd;exact(K8b s n).imp λ{a b} q=>by omega
theorem sortN_mem {l:List Nat}{x:Nat}:x∈k7 l↔x∈l:=(z1f l).mem_iff
theorem z0J (l:List Nat):(k7 l).length=l.length:=(z1f l).length_eq
theorem z5V {S:List Nat}{n:Nat}(nd:S.Nodup) (hm:∀x∈S,x<n):S.length<=n:=by
 have:=nd.length_le_of_subset (l₂:=K0u n) (λx hx=>K1x.mpr (hm x hx));rwa [K2p]at this
theorem z0A {S:List Nat}{x:Nat}(nd:S.Nodup) (h:x∉S):(S++[x]).Nodup:=by
 rw[K4h];refine⟨nd,by simp,λa ha b hb=>?_⟩;simp at hb;subst hb;exact λe=>h (e ▸ ha)
theorem z1e (l:List Nat) (x:Nat):stD l++[.int x]=stD (l++[x]):=by unfold stD;simp
theorem z3c {l:List Nat}{i:Nat}{d:D}(h:(stD l)[i]?=some d):∃b:Nat,d=.int b/\l[i]?=some b:=by
 unfold stD at h;rw[K0n]at h;obtain⟨b,e1,e2⟩:=K1b.mp h;exact⟨b,e2.symm,e1⟩
structure Fnd (st:List (List Nat)) (x:Nat) (S:List Nat):Prop where
 nd:S.Nodup
 rc:∀a∈S,Rch st x a
 hx:x∈S
theorem Fnd.lt {st:List (List Nat)}{x:Nat}{S:List Nat}(f:Fnd st x S) (q:SQ st) (hx:x<st.length):∀a∈S,a<st.length:=λa ha=>zd0 q hx (f.rc a ha)
theorem Fnd.put {st:List (List Nat)}{x a b:Nat}{S:List Nat}(f:Fnd st x S) (ha:a∈S) (hb:b∈nx st a) (nb:b∉S):Fnd st x (S++[b]) :=
 ⟨z0A f.nd nb,λc hc=>by
  rcases K0f.mp hc with q|q
  ·exact f.rc c q
  ·simp at q;subst q;exact .step (f.rc a ha) hb,K1t _ f.hx⟩
theorem Fnd.one (st:List (List Nat)) (x:Nat):Fnd st x [x]:=⟨by simp,λa ha=>by simp at ha;subst ha;exact .here,by simp⟩
section
variable {ma:G->M D}{g:D->G->M G}{k:G->M Bool}{ms mr mt:G->M Out}{γ γ':G}{h h1:AH}{d:D}{b:Bool}{Q:Out->AH->Prop}
theorem zb9 (d:D) (γ':G) (e:ma γ=pure d) (eg:g d γ=pure γ') (z:W (mt γ') h Q):W (z6 (sAsg ma g) mt γ) h Q:=by
 rw[w_cons];unfold sAsg;rw[e,z0l,eg,z0l,W_pure];exact z
theorem Y9 (d:D) (γ':G) (e:ma γ h=.ok d h1) (eg:g d γ=pure γ') (z:W (mt γ') h1 Q):W (z6 (sAsg ma g) mt γ) h Q:=by
 rw[w_cons];unfold sAsg;rw[Z0];refine W.of e ?_;rw[eg,z0l,W_pure];exact z
theorem z4z {i:Nat}(z:W (ma γ) h λd h1=>W (mt (γ.set i (some d))) h1 Q):W (z6 (sAsg ma (gN i)) mt γ) h Q:=by
 rw[w_cons];unfold sAsg gN;rw[Z0];refine z.mono λd h1 q=>?_;rw[z0l,W_pure];exact q
theorem q_if (b:Bool) (e:k γ=pure b) (z:W (z6 (if b=true then ms else mr) mt γ) h Q):W (z6 (sIf k ms mr) mt γ) h Q:=by
 rw[w_cons]at z ⊢;unfold sIf;rw[e,z0l];cases b<;>exact z
theorem z5a (b:Bool) (e:k γ h=.ok b h) (z:W (z6 (if b=true then ms else mr) mt γ) h Q):W (z6 (sIf k ms mr) mt γ) h Q:=by
 rw[w_cons]at z ⊢;unfold sIf;rw[Z0];refine W.of e ?_;cases b<;>exact z
theorem z9z (d:D) (e:ma γ=pure d) (z:Q (.rt d) h):W (z6 (sRet ma) mt γ) h Q:=by
 rw[w_cons];unfold sRet;rw[e,z0l,W_pure];exact z
theorem z1s (d:D) (e:ma γ h=.ok d h1) (z:Q (.rt d) h1):W (z6 (sRet ma) mt γ) h Q:=by
 rw[w_cons];unfold sRet;rw[Z0];refine W.of e ?_;rw[W_pure];exact z
theorem z7o (z:W (ma γ) h λd h1=>Q (.rt d) h1):W (z6 (sRet ma) mt γ) h Q:=by
 rw[w_cons];unfold sRet;rw[Z0];refine z.mono λd h1 q=>?_;rw[W_pure];exact q
theorem z5y (z:W (ma γ) h λd h1=>W (mt γ) h1 Q):W (z6 (z0z ma) mt γ) h Q:=by
 rw[w_cons];unfold z0z;rw[Z0];refine z.mono λd h1 q=>?_;rw[W_pure];exact q
theorem z1J (z:W (mt γ) h Q):W (z6 bNil mt γ) h Q:=by rw[w_cons,z24];exact z
theorem Y4 {Q:Out->AH->Prop}(z:Q (.nx γ) h):W (bNil γ) h Q:=by rw[z24];exact z
theorem zc5 (d:D) (e:ma γ=pure d):z6 (sRet ma) mt γ=pure (.rt d):=by
 unfold z6 sRet;rw[e,z0l,z0l]
theorem z67 {ms1 ms2:G->M Out}(z:W (z6 ms1 (z6 ms2 mt) γ) h Q):W (z6 (z6 ms1 ms2) mt γ) h Q:=by
 rw[w_cons]at z ⊢;rw[w_cons];refine z.mono λo h1 q=>?_;cases o with
 | nx γ=>exact w_cons.mp q
 | rt d=>exact q
 | bk d=>exact q
 | ct d=>exact q
end
theorem z9f {i j:Int}{neg:Bool}:fEqX neg (.int i) (.int j)=pure (.bl (decide (i=j) != neg)):=by
 funext h;show Res.ok (D.bl ((i==j) != neg)) h=_;have:(i==j)=decide (i=j):=by rw[K18];simp
 rw[this];rfl
theorem zc1 (xs:List D) (n:Nat):cutD xs none (some (n:Int))=xs.take n:=by
 unfold cutD;rw[HT.sIx_none,HT.sIx_nat];simp[List.take_take]
theorem sl_tup {x:List D}{lo hi:Option Int}:fSl (.tup x) lo hi=pure (.tup (cutD x lo hi)):=rfl
theorem zg1 (p r:List Nat):stD p++stD r=stD (p++r):=by unfold stD;simp
def CL (r:AH):Prop:=True
theorem CL.nil:CL []:=trivial
theorem CL.app {r j:AH}(a:CL r) (b:CL j):CL (r++j):=trivial
theorem CL.one {xs:List D}(h:Z8 3 xs=true):CL [.lst xs]:=trivial
theorem CL.put {r:AH}{xs:List D}(a:CL r) (h:Z8 3 xs=true):CL (r++[.lst xs]):=a.app (.one h)
theorem z0D {n:Nat}(l:List Str):Z8 n (l.map .str)=true:=Y1 λ_=>rfl
theorem z2P {n:Nat}(l:List Int):Z8 n (l.map .int)=true:=Y1 λ_=>rfl
theorem z1S {n:Nat}(l:List Nat):Z8 n (stD l)=true:=Y1 λ_=>rfl
theorem z1F {n:Nat}(l:List Nat):k6 n (.tup (stD l))=true:=by simp only[k6];exact z1S l
theorem z5D {gr sm:List Int}{s c:Int}{r j:AH}:(Pool gr sm s c (r++j)).take (r.length+3)=Pool gr sm s c r:=by
 unfold Pool;simp
theorem z5L {gr sm gr' sm':List Int}{s c s' c':Int}{r j:AH}:Kept (Pool gr sm s c r) (Pool gr' sm' s' c' (r++j)):=λi o li e=>by
 have l3:(Pool gr sm s c r).length=r.length+3:=rfl;rw[l3]at li ⊢
 match i,e with
 | 0,e=>cases e;exact .inr (z2P _)
 | 1,e=>cases e;exact .inr (z2P _)
 | 2,e=>cases e;exact .inr (by simp[refO,Z8,k6])
 | i+3,e =>
  left;have e:(r++j)[i]?=some o:=e;rw[K06 (by omega)]at e;exact e
theorem z3I {h h1:AH}{k k':Int}{r j:AH}(p:PS h k r) (q:CL r) (p1:PS h1 k' (r++j)):(h.length<=h1.length/\Kept h h1)/\PS (h1.take h.length) k' r:=by
 have l:=p.len;have l1:=p1.len;obtain⟨gr,sm,s,c,rfl,g⟩:=p1;obtain⟨gr0,sm0,s0,c0,rfl,g0⟩:=p;refine⟨⟨by rw[K9]at l1;omega,z5L⟩,?_⟩;rw[show (Pool gr0 sm0 s0 c0 r).length=r.length+3 from rfl,z5D];exact⟨gr,sm,s,c,rfl,g⟩
theorem z6l {m:M D}{h:AH}{k:Int}{r:AH}{Q:D->AH->Prop}(p:PS h k r) (q:CL r) (z:W m h λd h1=>∃k' j,PS h1 k' (r++j)/\k6 3 d=true/\∀h2,PS h2 k' r->Q d h2):W (cln m) h Q:=by
 obtain⟨d,h1,e,k',j,p1,rd,f⟩:=z;obtain⟨c1,c2⟩:=z3I p q p1;refine⟨d,h1.take h.length,?_,f _ c2⟩;unfold cln;rw[e];dsimp only;rw[if_pos c1,if_pos (z1B (by rw[p.len];omega) rd)]
theorem zd1 {m:M D}{h:AH}{k:Int}{r:AH}{Q:D->AH->Prop}(p:PS h k r) (q:CL r) (z:W m h λd h1=>∃k' j i xs,d=.ref (i+3)/\PS h1 k' (r++j)/\r.length<=i/\(r++j)[i]?=.(l xs)/\Z8 3 xs=true/\∀h2,PS h2 k' (r++[.lst xs])->Q (.ref (r.length+3)) h2):W (cln m) h Q:=by
 obtain⟨d,h1,e,k',j,i,xs,rfl,p1,hi,ei,rd,f⟩:=z;obtain⟨c1,c2⟩:=z3I p q p1;have l:=p.len;refine⟨.ref (r.length+3),h1.take h.length++[.lst xs],?_,f _ (c2.app _)⟩;unfold cln;rw[e];dsimp only;rw[if_pos c1,if_neg (by simp only[k6,decide_eq_true_eq];omega),p1.get,ei];dsimp only;rw[if_pos (show refO h.length (.lst xs)=true from z0C (by omega) rd),l]
theorem zd6 {m:G->M D}{γ:G}{h:AH}{k:Int}{r:AH}{Q:D->AH->Prop}(p:PS h k r) (q:CL r) (z:W (m γ) h λd h1=>∃k' j,PS h1 k' (r++j)/\k6 3 d=true/\∀h2,PS h2 k' r->Q d h2):W (clE m γ) h Q:=z6l p q z
section
variable {h:AH}{k:Int}{r l:AH}{i:Nat}{xs:List D}{v:D}
theorem at_E:(r++l)[r.length+i]?=l[i]?:=by rw[K0t (by omega)];congr 1;omega
theorem zl3 {o:O}:(r++l).set (r.length+i) o=r++l.set i o:=by
 rw[K1f _ _ (by omega)];congr 2;omega
theorem z7k {Q:List D->AH->Prop}(p:PS h k (r++l)) (e:l[i]?=.(l xs)) (q:Q xs h):W (getL (r.length+i+3)) h Q:=z52 p (by rw[at_E];exact e) q
theorem z7g {Q:D->AH->Prop}(p:PS h k (r++l)) (e:l[i]?=.(l xs)) (hl:xs.length<1000000) (z:∀h',PS h' k (r++l.set i (.lst (xs++[v])))->Q .non h'):W (Z9 (r.length+i+3) v) h Q :=
 z3Y p (by rw[at_E];exact e) hl λh' p'=>z h' (by rw[zl3]at p';exact p')
theorem z5b {Q:D->AH->Prop}(p:PS h k (r++l)) (e:l[i]?=.(l xs)) (q:Q (.tup xs) h):W (k9 [.ref (r.length+i+3)]) h Q:=by
 have ft:∀i:Nat,k9 [.ref i]=(do let x <- getL i;pure (.tup x)):=λ_=>rfl;rw[ft,Z0];refine z7k p e ?_;rw[W_pure];exact q
theorem z6d {Q:Nat->AH->Prop}(p:PS h k (r++l)) (e:l[i]?=.(l xs)) (q:Q (r.length+i+3) h):W (z1d (.ref (r.length+i+3))) h Q:=by
 rw[z4Z];exact z7k p e q
end
theorem z05 {ma:G->M D}{mt:G->M Out}{γ:G}{h:AH}{i:Nat}{Q:Out->AH->Prop}(J:D->AH->Prop) (z:W (ma γ) h J) (f:∀d h1,J d h1->W (mt (γ.set i (some d))) h1 Q):W (z6 (sAsg ma (gN i)) mt γ) h Q:=z4z (z.mono f)
theorem zc3 {ma:G->M D}{mt:G->M Out}{γ:G}{h:AH}{Q:Out->AH->Prop}(J:D->AH->Prop) (z:W (ma γ) h J) (f:∀d h1,J d h1->Q (.rt d) h1):W (z6 (sRet ma) mt γ) h Q:=z7o (z.mono f)
theorem z7n {me:G->M D}{mt:G->M Out}{γ:G}{h:AH}{k:Int}{r l:AH}{a i:Nat}{xs:List D}{Q:Out->AH->Prop}(ea:γ[a]?=some (.(r (r.length+i+3)))) (p:PS h k (r++l)) (e:l[i]?=.(l xs)) (hl:xs.length<1000000) (J:D->Int->Prop)
 (z:W (me γ) h λv h1=>∃k',PS h1 k' (r++l)/\J v k') (f:∀v k' h2,J v k'->PS h2 k' (r++l.set i (.lst (xs++[v])))->W (mt γ) h2 Q):W (z6 (z0z (eM1 Z9 (eVar a) me)) mt γ) h Q:=by
 refine z5y ?_;unfold eM1;rw[Z0];refine W_eq (v:=.ref (r.length+i+3)) (by unfold eVar;rw[ea]) ?_;rw[Z0];refine z6d p e ?_;rw[Z0];refine z.mono λv h1 ⟨k',p1,j⟩=>?_;exact z7g p1 e hl λh2 p2=>f v k' h2 j p2
theorem z7i {cap:List (Option Nat)}{mi:G->M Src}{g:D->G->M G}{kk:G->M Bool}{me:G->M D}{γ:G}{h:AH}{r l:AH}{Q:D->AH->Prop}(J:Nat->List D->Int->Prop)
 (hs:W (mi γ) h λsrc h1=>∃k,PS h1 k (r++l)/\J 0 [] k/\(∀h k xs,PS h k (r++(l++[.lst xs]))->src.good h) /\
  (∀i d h k xs,src.items[i]?=some d->J i xs k->PS h k (r++(l++[.lst xs]))->W (g d (capG cap γ)) h λγ1 h1'=>W (kk γ1) h1' λt h2=>if t=true then W (me γ1) h2 λv h3=>∃k',PS h3 k' (r++(l++[.lst xs]))/\xs.length<1000000/\J (i+1) (xs++[v]) k' else ∃k',PS h2 k' (r++(l++[.lst xs]))/\J (i+1) xs k') /\
  ∀h' xs k,J src.items.length xs k->PS h' k (r++(l++[.lst xs]))->Q (.ref (r.length+l.length+3)) h'):W (z01 cap mi g kk me γ) h Q:=by
 refine z5Z ?_;refine hs.mono λsrc h1 ⟨k,p1,j0,good,st,fin⟩=>?_;have l1:h1.length=r.length+l.length+3:=by rw[p1.len,K9]
 refine⟨λi h'=>∃xs k,J i xs k/\PS h' k (r++(l++[.lst xs])),⟨[],k,j0,by rw[<- K0e];exact p1.app _⟩,λi h' ⟨xs,k,_,p⟩=>good h' k xs p,?_,?_⟩
 ·rintro i d h2 hd ⟨xs,k,jx,p2⟩;refine(st i d h2 k xs hd jx p2).mono λγ1 h3 w3=>w3.mono λt h4 w4=>?_;cases t with
  | false=>rw[if_neg (by decide)]at w4 ⊢;obtain⟨k',p4,j4⟩:=w4;exact⟨xs,k',j4,p4⟩
  | true =>
   rw[if_pos rfl]at w4 ⊢;refine w4.mono λv h5 ⟨k',p5,lx,j5⟩=>?_;rw[l1,show r.length+l.length+3=r.length+l.length+3 from rfl];refine z7g (i:=l.length) p5 (by simp) lx λh6 p6=>?_;refine⟨_,k',j5,?_⟩;rw[K1f _ _ (K08 _),K4d]at p6;exact p6
 ·rintro h2 ⟨xs,k,jx,p2⟩;rw[l1];exact fin h2 xs k jx p2
def lkD (kvs:List (Key×D)) (k:Key):Option D:=(kvs.find? λkv=>decide (kv.1=k)).map (·.2)
def ptD (kvs:List (Key×D)) (k:Key) (v:D):List (Key×D) :=
 if (kvs.any λkv=>decide (kv.1=k))=true then kvs.map (λkv=>if kv.1=k then (kv.1,v) else kv) else kvs++[(k,v)]
section
variable {K:K0}{ρ:List Addr}{H:Hp}
theorem RK.len:∀{kvs:List (Key×D)}{vs:List (Key×V)},RK K ρ H kvs vs->kvs.length=vs.length
 | _,_,.nil=>rfl
 | _,_,.cons _ b=>by simp[RK.len b]
theorem RK.lk (k:Key):∀{kvs:List (Key×D)}{vs:List (Key×V)},RK K ρ H kvs vs->(lkD kvs k=none/\valV vs k=none)\/∃d v,lkD kvs k=some d/\valV vs k=some v/\RD K ρ H d v
 | _,_,.nil=>.inl ⟨rfl,rfl⟩
 | p::kvs,q::vs,.cons a b=>by
  by_cases e:p.1=k
  ·refine .inr ⟨p.2,q.2,by simp[lkD,K2b,e],z1D (a.1.symm.trans e),a.2⟩
  ·rw[z1C (λz=>e (a.1.trans z))];have:lkD (p::kvs) k=lkD kvs k:=by simp[lkD,K2b,e]
   rw[this];exact RK.lk k b
theorem RK.any (k:Key):∀{kvs:List (Key×D)}{vs:List (Key×V)},RK K ρ H kvs vs->(kvs.any λkv=>decide (kv.1=k))=vs.any λkv=>decide (kv.1=k)
 | _,_,.nil=>rfl
 | _,_,.cons a b=>by rw[K1q,K1q,RK.any k b,a.1]
theorem RK.rep (k:Key) {d:D}{v:V}(r:RD K ρ H d v):∀{kvs:List (Key×D)}{vs:List (Key×V)},RK K ρ H kvs vs->RK K ρ H (kvs.map (λkv=>if kv.1=k then (kv.1,d) else kv)) (vs.map (λkv=>if kv.1=k then (kv.1,v) else kv))
 | _,_,.nil=>.nil
 | p::kvs,q::vs,.cons a b=>by
  rw[K0s,K0s];refine .cons ?_ (RK.rep k r b);by_cases e:p.1=k
  ·rw[if_pos e,if_pos (a.1.symm.trans e)];exact⟨a.1,r⟩
  ·rw[if_neg e,if_neg (λz=>e (a.1.trans z))];exact a
theorem RK.snoc {k:Key}{d:D}{v:V}(r:RD K ρ H d v):∀{kvs:List (Key×D)}{vs:List (Key×V)},RK K ρ H kvs vs->RK K ρ H (kvs++[(k,d)]) (vs++[(k,v)])
 | _,_,.nil=>.cons ⟨rfl,r⟩ .nil
 | _,_,.cons a b=>.cons a (RK.snoc r b)
theorem RK.put (k:Key) {d:D}{v:V}(r:RD K ρ H d v) {kvs:List (Key×D)}{vs:List (Key×V)}(q:RK K ρ H kvs vs):RK K ρ H (ptD kvs k d) (L2.putK vs k v):=by
 unfold ptD L2.putK;rw[q.any k];split
 ·exact q.rep k r
 ·exact q.snoc r
theorem z86 {d:D}{k:Key}{v:V}(e:keyD d=some k) (r:RD K ρ H d v):v=kV k:=by
 cases d<;>simp only[keyD]at e<;>first|(cases e;simp only[RD]at r;exact r)|cases e
end
def getK (n:Nat):M (List (Key×D)):=λh=>match h[n]? with
 | some (.dK kvs)=>.ok kvs h
 | some (.dF kvs)=>.ok kvs h
 | _=>.bad
def dicD:D->M (List (Key×D))
 | .ref n=>getK n
 | _=>bad
def z9H:D->D->M D:=λx y=>do
 let kvs <- dicD x
 match keyD y with
 | some k=>(match lkD kvs k with
  | some d=>pure d
  | none=>bad)
 | none=>bad
def fInD (neg:Bool):D->D->M D:=λy x=>do
 let kvs <- dicD x
 match keyD y with
 | some k=>pure (.bl ((lkD kvs k).isSome != neg))
 | none=>bad
def z2T:D->D->D->M Unit:=λo i v=>match o with
 | .ref n=>(match keyD i with
  | some k=>λh=>match h[n]? with
   | some (.dK kvs)=>if kvs.length<sizeLine then .ok () (h.set n (.dK (ptD kvs k v))) else .bad
   | _=>.bad
  | none=>bad)
 | _=>bad
def gDx (mo mi:G->M D):D->G->M G:=λv γ=>do
 let o <- mo γ;let i <- mi γ;let _ <- z2T o i v
 pure γ
section
variable {X:Cx}{EX:XX}{a o i e f:Expr}{pos apos cpos:Pos}{mo mi ma mb:G->M D}
theorem z6v {K:K0}{ρ:List Addr}{h:AH}{H:Hp}{x:D}{u:V}{Z:List (Key×D)->List Addr->AH->Hp->Prop}(r:RH K ρ h H) (rx:RD K ρ H x u) (fin:Fin K EX ρ H Z (dicD x h)):∃n a kvs vs,x=.ref n/\u=.ref a/\ρ[n]?=some a/\(h[n]?=some (.dK kvs)\/h[n]?=some (.dF kvs))/\Rd H a (.dK vs)/\RK K ρ H kvs vs/\Z kvs ρ h H:=by
 cases x<;>first|exact(show False from fin).elim|skip
 rename_i n;simp only[RD]at rx;obtain⟨a,rfl,hq⟩:=rx;unfold dicD getK at fin;dsimp only at fin;cases e:h[n]? with
 | none=>rw[e]at fin;exact fin.elim
 | some ob =>
  cases ob with
  | lst xs=>rw[e]at fin;exact fin.elim
  | set xs=>rw[e]at fin;exact fin.elim
  | dct=>rw[e]at fin;exact fin.elim
  | exc c=>rw[e]at fin;exact fin.elim
  | ins _ _=>rw[e]at fin;exact fin.elim
  | dK kvs =>
   rw[e]at fin;obtain⟨a1,n1,vs,o1,d1⟩:=r.at e;rw[hq]at n1;cases n1;exact⟨n,a,kvs,vs,rfl,rfl,hq,.inl e,.inl o1,d1,fin ρ H (Pre.refl _) (Ext.refl _ _) r⟩
  | dF kvs =>
   rw[e]at fin;obtain⟨a1,n1,ob,vs,o1,d1⟩:=r.at e;rw[hq]at n1;cases n1;exact⟨n,a,kvs,vs,rfl,rfl,hq,.inr e,.inr ⟨ob,o1⟩,d1,fin ρ H (Pre.refl _) (Ext.refl _ _) r⟩
def rInD (neg:Bool):R2:=λy x H Q=>∃ad ov,x=.ref ad/\DGet H ad y ov/\Q (.bl (ov.isSome != neg)) H
theorem zc2 (hu:X.A.units+1<cLine):OpR X (K1g .In) (rInD false):=by
 intro pins s σ H x y v u Q I rx ry h;obtain⟨ad,ov,rfl,g,q⟩:=h;cases ry;rw[K4f]at q;exact d_in hu I g rx λs' I'=>⟨.bl _,H,I',rfl,q⟩
theorem z7X (hu:X.A.units+1<cLine):OpR X (K1g .NotIn) (rInD true):=by
 intro pins s σ H x y v u Q I rx ry h;obtain⟨ad,ov,rfl,g,q⟩:=h;cases ry;rw[K3s]at q;exact z7Y hu I g rx λs' I'=>⟨.bl _,H,I',rfl,q⟩
theorem z7q {neg:Bool}:BR X.K EX (rInD neg) (fInD neg):=by
 intro ρ h H y x w v Q r ry rx fin;obtain⟨n,ad,kvs,vs,rfl,rfl,hn,hk,hH,rk,f3⟩:=z6v r rx (Fin.bind fin);cases ek:keyD y with
 | none=>rw[ek]at f3;exact f3.elim
 | some k =>
  rw[ek]at f3;have:=z86 ek ry;subst this;refine⟨ad,valV vs k,rfl,.inl ⟨vs,k,hH,rfl,rfl⟩,?_⟩;have:(valV vs k).isSome=(lkD kvs k).isSome:=by
   rcases rk.lk k with ⟨z1,z2⟩|⟨d,u,z1,z2,_⟩<;>rw[z1,z2]<;>rfl
  rw[this];exact FE.here f3 r (by simp[RD])
theorem z73 (hu:X.A.units+1<cLine):CO X EX .In (fInD false):=⟨_,zc2 hu,z7q⟩
theorem z8P (hu:X.A.units+1<cLine):CO X EX .NotIn (fInD true):=⟨_,z7X hu,z7q⟩
def zi9:V->V->V->Hp->(Hp->Prop)->Prop:=λo i v H Q=>∃ad H',o=.ref ad/\DPut H ad i v H'/\Q H'
theorem set_dict (hu:X.A.units+1<cLine):PSet X zi9:=by
 intro pins s σ H o i v ov iv u Q I ro ri rv h;obtain⟨ad,H',rfl,g,q⟩:=h;cases ro;exact z5z hu I g ri rv λs' I'=>⟨H',I',q⟩
theorem zd9 (hu:X.A.units+1<cLine) (ho:SE X EX o mo) (hi:SE X EX i mi)
 (ha:∀v,assign (.Subscript o i pos) X.env v=(do
  let ov <- K31 [v] (eval o X.env);let iv <- K31 [v,ov] (eval i X.env)
  K4k pos
  K31 [v,ov,iv] (K7m ov iv v)
  release [v,ov,iv] []):=by intro _;rfl):SG X EX (.Subscript o i pos) (gDx mo mi) :=
 ⟨PG.imp (z7j ho.h hi.h (set_dict hu) ha) λv σ H Q ⟨ρ,γ,h,d,rel,rd,fin⟩=>⟨ρ,γ,h,rel,(Fin.bind fin).mono λod ρ1 h1 H1 p1 e1 r1 f1 ov ro=>⟨ρ1,γ,h1,⟨rel.g.mono p1 e1,r1⟩,(Fin.bind f1).mono λid ρ2 h2 H2 p2 e2 r2 f2 iv ri=>by
  have f3:=Fin.bind f2;cases od<;>first|exact(show False from f3).elim|skip
  rename_i n;unfold z2T at f3;dsimp only at f3;cases ek:keyD id with
  | none=>rw[ek]at f3;exact f3.elim
  | some k =>
   rw[ek]at f3;have:=z86 ek ri;subst this;simp only[RD]at ro;obtain⟨q,rfl,hq⟩:=ro;have hq2:=p2 n q hq;dsimp only at f3;cases e4:h2[n]? with
   | none=>rw[e4]at f3;exact f3.elim
   | some ob =>
    cases ob with
    | lst xs=>rw[e4]at f3;exact f3.elim
    | set ks=>rw[e4]at f3;exact f3.elim
    | dct=>rw[e4]at f3;exact f3.elim
    | exc c=>rw[e4]at f3;exact f3.elim
    | ins _ _=>rw[e4]at f3;exact f3.elim
    | dF c=>rw[e4]at f3;exact f3.elim
    | dK kvs =>
     rw[e4]at f3;dsimp only at f3;split at f3
     ·rename_i hl;obtain⟨a1,n1,vs,o1,d1⟩:=r2.at e4;rw[hq2]at n1;cases n1;have rv:=(rd.mono p1 e1).mono p2 e2;refine⟨q,_,rfl,DPut.k o1 (by rw[<- d1.len];exact hl),?_⟩;have ext:Ext X.K H2 (upd H2 q (.dK (L2.putK vs k v))):=Ext.upd (.inr ⟨_,o1,trivial⟩);have r3:RH X.K ρ2 (h2.set n (.dK (ptD kvs k d))) (upd H2 q (.dK (L2.putK vs k v))):=r2.setO e4 hq2 ⟨_,J6,(d1.put k rv).mono (Pre.refl _) ext⟩;exact f3 ρ2 _ (Pre.refl _) ext r3 ρ2 _ (Pre.refl _) (Ext.refl _ _) r3 σ (((rel.g.mono p1 e1).mono p2 e2).mono (Pre.refl _) ext)
     ·exact f3.elim⟩⟩⟩
end
def orM {α:Type} (m n:M α):M α:=λh=>match m h with
 | .bad=>n h
 | r=>r
def orE {α:Type} (m n:G->M α):G->M α:=λγ=>orM (m γ) (n γ)
section
variable {X:Cx}{EX:XX}{e tg:Expr}
theorem z6R {α:Type}(m n:M α) (h:AH):orM m n h=m h\/orM m n h=n h:=by
 unfold orM;cases m h with
 | bad=>exact .inr rfl
 | ok a b=>exact .inl rfl
 | err a b=>exact .inl rfl
theorem zj4 {m n:G->M D}(a:SE X EX e m) (b:SE X EX e n):SE X EX e (orE m n) :=
 ⟨λpins s σ H Q I ⟨ρ,γ,h,rel,fin⟩=>by
  rcases z6R (m γ) (n γ) h with z|z<;>rw[show orE m n γ h=orM (m γ) (n γ) h from rfl,z]at fin
  ·exact a.h pins s σ H Q I ⟨ρ,γ,h,rel,fin⟩
  ·exact b.h pins s σ H Q I ⟨ρ,γ,h,rel,fin⟩⟩
end
theorem or_l {α:Type}{m n:G->M α}{γ:G}{h h1:AH}{v:α}(e:m γ h=.ok v h1):orE m n γ h=.ok v h1:=by unfold orE orM;rw[e]
theorem or_r {α:Type}{m n:G->M α}{γ:G}{h:AH}(e:m γ h=.bad):orE m n γ h=n γ h:=by unfold orE orM;rw[e]
theorem W_of {α:Type}{m:M α}{h h1:AH}{v:α}{Q:α->AH->Prop}(e:m h=.ok v h1) (q:Q v h1):W m h Q:=⟨_,_,e,q⟩
def kvN (l:List Nat):List (Key×D):=l.map λ(i:Nat)=>(.inl (i:Int),.bl true)
theorem z3n (l:List Nat):(kvN l).length=l.length:=by unfold kvN;simp
theorem z3z (l:List Nat) (x:Nat):((kvN l).any λkv=>decide (kv.1=.inl (x:Int)))=decide (x∈l):=by
 induction l with
 | nil=>rfl
 | cons a l ih =>
  have:kvN (a::l)=(.inl (a:Int),.bl true)::kvN l:=rfl;rw[this,K1q,ih];by_cases e:a=x
  ·subst e;simp
  ·have h1:¬ (K4u (a:Int):Key)=.inl (x:Int):=λz=>e (by injection z with z;exact_mod_cast z);simp[h1,show ¬ x=a from λz=>e z.symm]
theorem z9s (l:List Nat) (x:Nat):(lkD (kvN l) (.inl (x:Int))).isSome=decide (x∈l):=by
 unfold lkD;rw[K4g,List.isSome_find?];exact z3z l x
theorem z5R (l:List Nat) {x:Nat}(h:x∉l):ptD (kvN l) (.inl (x:Int)) (.bl true)=kvN (l++[x]):=by
 unfold ptD;rw[z3z,decide_eq_false h];simp[kvN]
theorem z84 {h:AH}{n:Nat}{l:List Nat}{x:Nat}{neg:Bool}(e:h[n]?=some (.dK (kvN l))):fInD neg (.int x) (.ref n) h=.ok (.bl (decide (x∈l) != neg)) h:=by
 have e1:dicD (.ref n) h=.ok (kvN l) h:=by unfold dicD getK;dsimp only;rw[e]
 unfold fInD;rw[M.bind_ok e1];have:keyD (.int x)=some (.inl (x:Int)):=rfl;rw[this];show Res.ok (D.bl ((lkD (kvN l) (.inl (x:Int))).isSome != neg)) h=_;rw[z9s]
theorem z9o {h:AH}{n:Nat}{l:List Nat}{x:Nat}(e:h[n]?=some (.dK (kvN l))) (hx:x∉l) (hl:l.length<1000):z2T (.ref n) (.int x) (.bl true) h=.ok () (h.set n (.dK (kvN (l++[x])))):=by
 have:keyD (.int x)=some (.inl (x:Int)):=rfl;unfold z2T;dsimp only;rw[this];dsimp only;rw[e];dsimp only;rw[if_pos (by rw[z3n];unfold sizeLine;omega),z5R l hx]
def putN (acc:List Nat) (k:Nat):List Nat:=if k∈acc then acc else acc++[k]
def dedN (l:List Nat):List Nat:=l.foldl putN []
theorem putN_mem {a:List Nat}{k x:Nat}:x∈putN a k↔x∈a\/x=k:=by
 unfold putN;split
 ·exact⟨.inl,λh=>h.elim id λe=>by subst e;assumption⟩
 ·simp
theorem z91 {a:List Nat}{k:Nat}(h:a.Nodup):(putN a k).Nodup:=by
 unfold putN;split
 ·exact h
 ·exact z0A h ‹_›
def setN (l:List Nat):List Nat:=k7 (dedN l)
theorem z3o {l:List Nat}(h:l.Pairwise (·<·)):l.Nodup:=h.imp λh=>K0q h
theorem z6J {l m:List Nat}(a:l.Pairwise (·<·)) (b:m.Pairwise (·<·)) (h:∀x,x∈l↔x∈m):l=m :=
 ((List.perm_ext_iff_of_nodup (z3o a) (z3o b)).mpr h).eq_of_pairwise (λ_ _ _ _ h1 h2=>absurd h2 (Nat.lt_asymm h1)) a b
inductive RchT (st:List (List Nat)) (T:List Nat) (x:Nat):Nat->Prop
 | here:RchT st T x x
 | step {a b:Nat}:RchT st T x a->b∈nx st a->b∉T->RchT st T x b
structure FndT (st:List (List Nat)) (T:List Nat) (x:Nat) (S:List Nat):Prop where
 nd:S.Nodup
 rc:∀a∈S,RchT st T x a
 hx:x∈S
 nt:∀a∈S,a∉T
theorem FndT.put {st:List (List Nat)}{T:List Nat}{x a b:Nat}{S:List Nat}(f:FndT st T x S) (ha:a∈S) (hb:b∈nx st a) (nb:b∉S) (nt:b∉T):FndT st T x (S++[b]) :=
 ⟨z0A f.nd nb,λc hc=>by
  rcases K0f.mp hc with q|q
  ·exact f.rc c q
  ·simp at q;subst q;exact .step (f.rc a ha) hb nt,K1t _ f.hx,λc hc=>by
  rcases K0f.mp hc with q|q
  ·exact f.nt c q
  ·simp at q;subst q;exact nt⟩
theorem FndT.one {st:List (List Nat)}{T:List Nat}{x:Nat}(h:x∉T):FndT st T x [x]:=⟨by simp,λa ha=>by simp at ha;subst ha;exact .here,by simp,λa ha=>by simp at ha;subst ha;exact h⟩
section
variable {ma me:G->M D}{mt:G->M Out}{γ:G}{h:AH}{a b i:Nat}{xs:List D}{v:D}{Q:Out->AH->Prop}
theorem z3t (e:h[i]?=.(l xs)):z1d (.ref i) h=.ok i h:=by unfold z1d;dsimp only;rw[e]
theorem z1z (e:h[i]?=.(l xs)) (hl:xs.length<1000000):Z9 i v h=.ok .non (h.set i (.lst (xs++[v]))):=by
 unfold Z9 updL;rw[e];dsimp only;rw[if_pos (by simp[sizeLine];omega)]
theorem zl5 (e:h[i]?=.(l (xs++[v]))) (hl:xs.length<1000000):fPop i h=.ok v (h.set i (.lst xs)):=by
 unfold fPop updL;rw[e];dsimp only;rw[show (xs++[v])[(xs++[v]).length - 1]?=some v by simp,Option.map_some];dsimp only;rw[if_pos (by simp[sizeLine];omega),List.dropLast_concat]
theorem z3R (ea:γ[a]?=some (.(r i))) (e:h[i]?=.(l xs)) (hl:xs.length<1000000) (ev:me γ h=.ok v h) (z:W (mt γ) (h.set i (.lst (xs++[v]))) Q):W (z6 (z0z (eM1 Z9 (eVar a) me)) mt γ) h Q:=by
 refine z5y ?_;have e1:eVar a γ=pure (.ref i):=by unfold eVar;rw[ea]
 unfold eM1;rw[e1,z0l,Z0];refine W_of (z3t e) ?_;rw[Z0];exact W_of ev (W_of (z1z e hl) z)
theorem zj7 (ea:γ[a]?=some (.(r i))) (e:h[i]?=.(l (xs++[v]))) (hl:xs.length<1000000) (z:W (mt (γ.set b (some v))) (h.set i (.lst xs)) Q):W (z6 (sAsg (eM0 fPop (eVar a)) (gN b)) mt γ) h Q:=by
 refine z4z ?_;have e1:eVar a γ=pure (.ref i):=by unfold eVar;rw[ea]
 unfold eM0;rw[e1,z0l,Z0];exact W_of (z3t e) (W_of (zl5 e hl) z)
theorem z9N (ea:γ[a]?=some (.(r i))) (e:h[i]?=.(l xs)):cVal (eVar a) γ h=.ok (!xs.isEmpty) h:=by
 have e1:eVar a γ=pure (.ref i):=by unfold eVar;rw[ea]
 unfold cVal;rw[e1,z0l];unfold truD;dsimp only;have e2:getL i h=.ok xs h:=by unfold getL;rw[e]
 rw[M.bind_ok e2];rfl
theorem y0 {f:List D->M D}{d:D}{h1:AH}{r:Res D}(e:me γ h=.ok d h1) (e2:f [d] h1=r):Z5 f (z5 me aNil) γ h=r:=by
 have:z5 me aNil γ h=.ok [d] h1:=by
  show (me γ >>= λx=>(do let r <- aNil γ;pure (x::r):M (List D))) h=_;rw[M.bind_ok e];rfl
 show (z5 me aNil γ >>= f) h=_;rw[M.bind_ok this];exact e2
theorem z5S (e:h[i]?=.(l xs)):k9 [.ref i] h=.ok (.tup xs) h:=by
 have ft:k9 [.ref i]=(do let x <- getL i;pure (.tup x)):=rfl;have g:getL i h=.ok xs h:=by unfold getL;rw[e]
 rw[ft,M.bind_ok g];rfl
theorem zk2 (e:h[i]?=.(l xs)):fLen [.ref i] h=.ok (.int xs.length) h:=by
 have ft:fLen [.ref i]=(do let x <- getL i;pure (.int x.length)):=rfl;have g:getL i h=.ok xs h:=by unfold getL;rw[e]
 rw[ft,M.bind_ok g];rfl
theorem ix_h {t:Int}{d:D}(e:h[i]?=.(l xs)) (a:atI xs t=some d):fIx (.ref i) (.int t) h=.ok d h:=by
 have ft:fIx (.ref i) (.int t)=(do let xs <- getL i;match atI xs t with|some d=>pure d|none=>bad):=rfl;have g:getL i h=.ok xs h:=by unfold getL;rw[e]
 rw[ft,M.bind_ok g,a];rfl
theorem z82 {ss:List Str}(e:h[i]?=.(l (ss.map .str))) (hl:ss.length<64):x8 [.ref i] h=.ok (.ref h.length) (h++[.lst ((z09 ss).map .str)]):=by
 have fs:x8 [.ref i]=(do
  let xs <- getL i
  if xs.length<64 then (match z1w xs with
   | some ss=>newL ((z09 ss).map .str)
   | none=>(match z1v xs with
    | some ns=>newL ((sortI ns).map .int)
    | none=>bad)) else bad):=rfl
 have g:getL i h=.ok (ss.map .str) h:=by unfold getL;rw[e]
 rw[fs,M.bind_ok g,if_pos (by simpa using hl),strs_map];dsimp only;unfold newL;rw[if_pos (by rw[K0j,z1M];unfold sizeLine;omega)]
theorem z3k (e:me γ h=.ok (.ref h.length) (h++[.lst xs])) (c:Z8 0 xs=true):clE (Z5 k9 (z5 me aNil)) γ h=.ok (.tup xs) h :=
 z15 (j:=[.lst xs]) (y0 e (z5S (by simp))) (by simp only[k6];exact z0C (K3g _) c)
theorem cb_h {b:Bool}{h1:AH}(e:me γ h=.ok (.bl b) h1):(λγ=>(do let d <- me γ;asB d:M Bool)) γ h=.ok b h1:=by
 dsimp only;rw[M.bind_ok e];rfl
theorem z8m {n:Nat}{mb:G->M Out}{ds:List D}{d:D}{h1:AH}(z:W (mb (z07 n ds)) h (runW λa h'=>a=d/\h'=h1)):runF n mb ds h=.ok d h1:=by
 obtain⟨_,_,a,rfl,rfl⟩:=z1x z;exact a
end
theorem z4C {f:D->D->Option Bool}{ι:Type} [DecidableEq ι] {enc:ι->D}(e:∀a b,f (enc a) (enc b)=some (decide (a=b))):∀l m:List ι,eqZ f (l.map enc) (m.map enc)=some (decide (l=m))
 | [],[]=>by simp[eqZ]
 | [],b::m=>by simp[eqZ]
 | a::l,[]=>by simp[eqZ]
 | a::l,b::m=>by
  rw[K0s,K0s];unfold eqZ;rw[e a b,z4C e l m];dsimp only;congr 1;rw[K18];simp
theorem z8v {n:Nat}{h:AH}(a b:Nat):eqN (n+1) h (.int a) (.int b)=some (decide (a=b)):=by
 show some ((a:Int)==(b:Int))=_;congr 1;rw[K18,beq_iff_eq,decide_eq_true_eq];exact Int.ofNat_inj
theorem z95 {ι:Type} [DecidableEq ι] {enc:ι->D}{n:Nat}{h:AH}(e:∀a b,eqN n h (enc a) (enc b)=some (decide (a=b))) {l m:List ι}{i j:Nat}(hi:h[i]?=.(l (l.map enc))) (hj:h[j]?=.(l (m.map enc))):eqN (n+1) h (.ref i) (.ref j)=some (decide (l=m)):=by
 have v1:vw h (.ref i)=.lst (l.map enc):=by unfold vw;dsimp only;rw[hi]
 have v2:vw h (.ref j)=.lst (m.map enc):=by unfold vw;dsimp only;rw[hj]
 unfold eqN;rw[v1,v2];exact z4C e l m
theorem zd2 {neg:Bool}{h:AH}{x y:D}{b:Bool}(e:eqN 24 h x y=some b):fEqX neg x y h=.ok (.bl (b != neg)) h:=by
 unfold fEqX;rw[e]
theorem z4V {l m:List Nat}{neg:Bool}{h:AH}{i j:Nat}(hi:h[i]?=.(l (stD l))) (hj:h[j]?=.(l (stD m))):fEqX neg (.ref i) (.ref j) h=.ok (.bl (decide (l=m) != neg)) h:=zd2 (z95 (enc:=λ(i:Nat)=>.int i) z8v hi hj)
section
variable {ma mb:G->M D}{γ:G}{h h1 h2:AH}
theorem e2_h {f:D->D->M D}{x y:D}{r:Res D}(e1:ma γ h=.ok x h1) (e2':mb γ h1=.ok y h2) (e3:f x y h2=r):e2 f ma mb γ h=r:=by
 show (ma γ >>= λx=>(mb γ >>= λy=>f x y)) h=_;rw[M.bind_ok e1,M.bind_ok e2',e3]
theorem fn_h {n:Nat}{f:List D->M D}{mr:G->M (List D)}{ds:List D}{r:Res D}(e:mr γ h=.ok ds h1) (hn:ds.length=n) (e2:f ds h1=r):eFn n f mr γ h=r:=by
 show (mr γ >>= λxs=>if xs.length=n then f xs else bad) h=_;rw[M.bind_ok e,if_pos hn,e2]
theorem ac_h {mr:G->M (List D)}{d:D}{ds:List D}(e:ma γ h=.ok d h1) (e2:mr γ h1=.ok ds h2):z5 ma mr γ h=.ok (d::ds) h2:=by
 show (ma γ >>= λx=>(mr γ >>= λr=>(pure (x::r):M (List D)))) h=_;rw[M.bind_ok e,M.bind_ok e2];rfl
end
section
variable {prog:K0a}{w:World}{A:Around}{E:Value->Shared->Prop}{s:Shared}
end
section
variable {X:Cx}{EX:XX}{a o:Expr}{pos apos cpos p:Pos}{mo ma:G->M D}{mr:G->M (List D)}
end
theorem z5C {h:AH}{n:Nat}{l:List Nat}{x:Nat}{neg:Bool}(e:h[n]?=.(l (stD l))):fIn neg (.int x) (.ref n) h=.ok (.bl (decide (x∈l) != neg)) h:=by
 have g:getL n h=.ok (stD l) h:=by unfold getL;rw[e]
 unfold fIn seqD;rw[M.bind_ok g,z5O,z7c];rfl
theorem z0i {h:AH}{o:O}:(h++[o])[h.length]?=some o:=by simp
theorem z5B {h:AH}{o o':O}:(h++[o]).set h.length o'=h++[o']:=by simp
theorem z5N {h:AH}{i:Nat}{S:List Nat}(hl:S.length<64) (e:h[i]?=.(l (stD S))):x8 [.ref i] h=.ok (.ref h.length) (h++[.lst (stD (k7 S))]):=by
 have fs:x8 [.ref i]=(do
  let xs <- getL i
  if xs.length<64 then (match z1w xs with
   | some ss=>newL ((z09 ss).map .str)
   | none=>(match z1v xs with
    | some ns=>newL ((sortI ns).map .int)
    | none=>bad)) else bad):=rfl
 have g:getL i h=.ok (stD S) h:=by unfold getL;rw[e]
 cases S with
 | nil =>
  rw[fs,M.bind_ok g,if_pos (by rw[y9];exact hl)];have e1:z1w (stD [])=some []:=rfl;have e2:(z09 []).map D.str=stD (k7 []):=by
   have a:z09 []=[]:=K43.mp (by rw[z1M];rfl);have b:k7 []=[]:=K43.mp (by rw[z0J];rfl);rw[a,b];rfl
  rw[e1];dsimp only;rw[e2];unfold newL;rw[if_pos (by rw[y9,z0J];unfold sizeLine;simp)]
 | cons a S =>
  have sn:z1w (stD (a::S))=none:=rfl;rw[fs,M.bind_ok g,if_pos (by rw[y9];exact hl),sn,z2x];dsimp only;rw[z2W];unfold newL;rw[if_pos (by rw[y9,z0J];unfold sizeLine;omega)]
section
variable {mo ma:G->M D}{γ:G}{h:AH}{i x:Nat}{l:List Nat}
end
section
variable {me ma:G->M D}{kb:G->M Bool}{γ:G}{h h1:AH}{a i:Nat}{b:Bool}{xs:List D}
theorem cv_h (e:me γ h=.ok (.bl b) h1):cVal me γ h=.ok b h1:=by
 unfold cVal;rw[M.bind_ok e];rfl
theorem cn_h (e:kb γ h=.ok b h1):cNot kb γ h=.ok (!b) h1:=by
 unfold cNot;rw[M.bind_ok e];rfl
theorem Z2 {d:D}(e:γ[a]?=some (some d)):eVar a γ h=.ok d h:=by unfold eVar;rw[e];rfl
theorem za2 (e:me γ h=.ok (.ref i) h) (q:h[i]?=.(l xs)):z1E me γ h=.ok (.lst i xs) h:=by
 have g:getL i h=.ok xs h:=by unfold getL;rw[q]
 unfold z1E;rw[M.bind_ok e];dsimp only;rw[M.bind_ok g];rfl
theorem z13 (e:me γ h=.ok (.tup xs) h1):z0Q me γ h=.ok (.con xs) h1:=by
 unfold z0Q;rw[M.bind_ok e];rfl
theorem z4U {cap:List (Option Nat)}{mi:G->M Src}{g:D->G->M G}{src:Src}{l:List Nat}(p:Nat->Bool) (f:Nat->D) (hi:mi γ h=.ok src h) (hs:src.items=stD l) (hg:∀j,src.good (h++j)) (hl:l.length<=1000000)
 (hd:∀x∈l,∃γ1,(∀h,g (.int x) (capG cap γ) h=.ok γ1 h)/\(∀j,kb γ1 (h++j)=.ok (p x) (h++j))/\(p x=true->∀j,me γ1 (h++j)=.ok (f x) (h++j))):z01 cap mi g kb me γ h=.ok (.ref h.length) (h++[.lst ((l.filter p).map f)]):=by
 refine(z1l (src:=src) (λd=>match d with|.int t=>p t.toNat|_=>false) (λd=>match d with|.int t=>f t.toNat|_=>.non) hi hg (by rw[hs,y9];exact hl) λd hd'=>?_).trans ?_
 ·rw[hs]at hd';obtain⟨x,hx,rfl⟩:=K1v.mp hd';exact hd x hx
 ·rw[hs];unfold stD;rw[K4y,K2g];rfl
end
theorem za6 {n:Nat}(st:List (List Nat)) (mk:List (List Str)):k6 n (maD st mk)=true:=by
 unfold maD stsD mksD;simp only[k6,Z8,Bool.and_true,K0b];exact⟨Y1 λa=>z1F a,Y1 λa=>by simp only[k6];exact z0D _⟩
theorem z9e {ma mb:G->M D}{γ:G}{h h1 h2:AH}{x y:D}(e1:ma γ h=.ok x h1) (e2':mb γ h1=.ok y h2):eTup (z5 ma (z5 mb aNil)) γ h=.ok (.tup [x,y]) h2:=by
 have e3:z5 ma (z5 mb aNil) γ h=.ok [x,y] h2:=ac_h e1 (ac_h e2' rfl);unfold eTup;rw[M.bind_ok e3];rfl
theorem z8Q (n:Nat):y8 n=stD (K0u n):=rfl
theorem z9B {cap:List (Option Nat)}{mi:G->M Src}{g:D->G->M G}{kb:G->M Bool}{me:G->M D}{γ:G}{h h1:AH}{src:Src}{l:List Nat}(f:Nat->D) (hi:mi γ h=.ok src h1) (hs:src.items=stD l) (hg:∀j,src.good (h1++j)) (hl:l.length<1000000)
 (hd:∀x∈l,∃γ1,(∀h,g (.int x) (capG cap γ) h=.ok γ1 h)/\(∀h,kb γ1 h=.ok true h)/\∀j,∃j',me γ1 (h1++j)=.ok (f x) (h1++j++j')):∃j,z01 cap mi g kb me γ h=.ok (.ref h1.length) (h1++(.lst (l.map f)::j)):=by
 have:W (z01 cap mi g kb me γ) h λd h'=>d=.ref h1.length/\∃j,h'=h1++(.lst (l.map f)::j):=by
  refine z5Z ?_;refine W_of hi ⟨λi h'=>∃j,h'=h1++(.lst ((l.take i).map f)::j),⟨[],by simp⟩,?_,?_,?_⟩
  ·rintro i _ ⟨j,rfl⟩;exact hg _
  ·rintro i d _ e ⟨j,rfl⟩;rw[hs]at e;obtain⟨x,rfl,ex⟩:=z3c e;obtain⟨hi',ex'⟩:=K4.mp ex;obtain⟨γ1,e1,e2',e3⟩:=hd x (K0r ex);refine W_of (e1 _) (W_of (e2' _) ?_);rw[if_pos rfl];obtain⟨j',e4⟩:=e3 (.lst ((l.take i).map f)::j);refine W_of e4 ?_;refine W_of (z1z (i:=h1.length) (xs:=(l.take i).map f) (by simp) (by rw[K0j,K28];omega)) ?_;refine⟨j++j',?_⟩;rw[K0e,K1f _ _ (K08 _),K4d,List.cons_append,K03,List.take_succ_eq_append_getElem hi',ex',K6x];rfl
  ·rintro _ ⟨j,rfl⟩;rw[hs,y9,K4q];exact⟨rfl,j,rfl⟩
 obtain⟨d,h',e,rfl,j,rfl⟩:=this;exact⟨j,e⟩
def rowAt (row:List Nat) (o:Nat):Nat:=(row[o]?).getD 0
def mkAt (mk:List (List Str)) (i:Nat):List Str:=(mk[i]?).getD []
def Canon (row:List Nat):Prop:=∀i v,row[i]?=some v->∀u,u<v->u∈row.take i
def led (st:List (List Nat)) (row:List Nat) (x:Nat):List Nat:=setN ((nx st x).map (rowAt row))
structure Steady (st:List (List Nat)) (mk:List (List Str)) (row:List Nat):Prop where
 len:row.length=st.length
 can:Canon row
 like:∀i,i<row.length->mkAt mk i=mkAt mk (row.idxOf (rowAt row i))/\led st row i=led st row (row.idxOf (rowAt row i))
structure Cop (bst:List (List Nat)) (bmk:List (List Str)) (st:List (List Nat)) (mk:List (List Str)) (raw:List Nat):Prop where
 l:st.length=raw.length
 kd:∀x,x∈raw↔x<bst.length
 rise:∀i,i<raw.length->(nx st i).Pairwise (·<·)
 lt:∀i,i<raw.length->∀o∈nx st i,o<raw.length
 st:∀i,i<raw.length->∀t,t∈(nx st i).map (rowAt raw)↔t∈nx bst (rowAt raw i)
 ml:mk=raw.map (mkAt bmk)
section
variable {raw:List Nat}
end
section
variable {bst st:List (List Nat)}{bmk mk:List (List Str)}{raw:List Nat}
end
theorem zh4 {s:Shared}{M:Model}{A:Around}{a:Addr}{T id:String}{E:Value->Shared->Prop}{Q:Bool->Shared->Prop}(h:s.TypeIs (.ref a) T) (sl:Slot T (K22 "__iter__") id) (q:Q false s):wpAny M A (notIterableAtAll (.ref a)) Q E s:=by
 unfold notIterableAtAll;refine K2 (wpAny_specialOf h sl.lookup ?_);exact K04 q
section
variable {X:Cx}{EX:XX}{e:Expr}{es:List Expr}{te:TE}{t:TA}{p pos:Pos}{ma:G->M D}{mr:G->M (List D)}
theorem Vals.app {xs ys:List V}{us ws:List Value}(a:Vals xs us) (b:Vals ys ws):Vals (xs++ys) (us++ws):=a.append b
end
end FT
namespace L2
section
variable {X:Cx}{tg:Expr}
end
end L2
namespace FT
section
variable {X:Cx}{EX:XX}{a b c tg:Expr}{p p2 pos pos2:Pos}{ma mb mc:G->M D}
end
end FT
namespace L2
section
variable {X:Cx}
end
end L2
namespace FT
section
variable {X:Cx}{EX:XX}{a b:Expr}{p p2 pos pos2:Pos}{ma mb:G->M D}
end
section
variable {X:Cx}{EX:XX}
end
section
variable {X:Cx}{EX:XX}{elt tg iter tg1 iter1:Expr}{ifs1:List Expr}{sc:Scope}{pos:Pos}{N':List Str}{cap:List (Option Nat)}{own own1:List Nat}{mi mi1:G->M Src}{g g1:D->G->M G}{k:G->M Bool}{me:G->M D}
end
def cnt (st:List (List Nat)):Nat->Nat->Nat
 | 0,_=>1
 | n+1,x=>((nx st x).map (cnt st n)).sum
def zk3 (w:List Nat):Nat:=w.getLast?.getD 0
def ext (st:List (List Nat)) (left:Nat) (w:List Nat):List (List Nat):=((nx st (zk3 w)).filter λy=>decide (0<cnt st left y)).map λy=>w++[y]
section
variable {st:List (List Nat)}
end
open Classical in
theorem zh3 {ι:Type}{cap:List (Option Nat)}{mi:G->M Src}{g:D->G->M G}{kb:G->M Bool}{me:G->M D}{γ:G}{h h1:AH}{src:Src}{l:List ι}(enc:ι->D) (inj:∀x y,enc x=enc y->x=y) (p:ι->Bool) (f:ι->D) (hi:mi γ h=.ok src h) (hs:src.items=l.map enc) (hg:∀j,src.good (h++j)) (hl:l.length<=1000000)
 (hd:∀x∈l,∃γ1,(∀h,g (enc x) (capG cap γ) h=.ok γ1 h)/\(∀j,kb γ1 (h++j)=.ok (p x) (h++j))/\(p x=true->∀j,me γ1 (h++j)=.ok (f x) (h++j))):z01 cap mi g kb me γ h=.ok (.ref h.length) (h++[.lst ((l.filter p).map f)]):=by
 let p':D->Bool:=λd=>if e:∃x,enc x=d then p e.choose else false
 let f':D->D:=λd=>if e:∃x,enc x=d then f e.choose else .non
 have ep:∀x,p' (enc x)=p x:=λx=>by
  have e:∃y,enc y=enc x:=⟨x,rfl⟩;show (if e:∃y,enc y=enc x then p e.choose else false)=_;rw[dif_pos e,inj _ _ e.choose_spec]
 have ef:∀x,f' (enc x)=f x:=λx=>by
  have e:∃y,enc y=enc x:=⟨x,rfl⟩;show (if e:∃y,enc y=enc x then f e.choose else .non)=_;rw[dif_pos e,inj _ _ e.choose_spec]
 refine(z1l (src:=src) p' f' hi hg (by rw[hs,K0j];exact hl) λd hd'=>?_).trans ?_
 ·rw[hs]at hd';obtain⟨x,hx,rfl⟩:=K1v.mp hd';rw[ep,ef];exact hd x hx
 ·rw[hs,K4y,K2g];rw[show (p' ∘ enc)=p from funext ep,show (f' ∘ enc)=f from funext ef]
end FT
namespace L2
open PySem.AutoSeq1 (wpAny_loadPart')
section
variable {P:K0a}{w:World}{A:Around}{E:Value->Shared->Prop}{s:Shared}{I t:Addr}
end
section
variable {X:Cx}{tg:Expr}
end
end L2
namespace FT
section
variable {X:Cx}{EX:XX}{a tg:Expr}{p pos:Pos}{ma:G->M D}
end
end FT
namespace L2
open PySem.AutoSeq1 (wpAny_loadPart')
section
variable {X:Cx}
end
end L2
namespace FT
section
variable {X:Cx}{EX:XX}{a o:Expr}{cpos apos:Pos}{ma mo:G->M D}
end
section
variable {ka kb:G->M Bool}{γ:G}{h:AH}{r:Res Bool}
theorem zm0 (e1:ka γ h=.ok false h) (e2':kb γ h=r):cOr ka kb γ h=r:=by
 unfold cOr;rw[M.bind_ok e1,if_neg (by decide)];exact e2'
end
theorem z3u {xs:List D}{h:AH}(hl:xs.length<=1000000):newL xs h=.ok (.ref h.length) (h++[.lst xs]):=by
 unfold newL;rw[if_pos (K0h hl (by decide))]
def z4w (n:Nat) (i v:D):M Unit:=z2T (.ref n) i v
noncomputable def z0U (src:Src) (g:D->G->M G) (k:G->M Bool) (me mv:G->M D) (n0:Nat) (γ:G):List D->M Unit
 | []=>do
  let _ <- src.chk
  pure ()
 | d::r=>do
  let _ <- src.chk;let γ1 <- g d γ;let t <- k γ1
  if t then do
   let y <- me γ1;let v <- mv γ1;let _ <- z4w n0 y v
   z0U src g k me mv n0 γ r
  else z0U src g k me mv n0 γ r
noncomputable def z55 (cap:List (Option Nat)) (mi:G->M Src) (g:D->G->M G) (k:G->M Bool) (me mv:G->M D):G->M D:=λγ=>do
 let src <- mi γ;let n0 <- (λh=>.ok h.length (h++[.dK []]):M Nat);let _ <- z0U src g k me mv n0 (capG cap γ) src.items
 pure (.ref n0)
section
variable {X:Cx}{EX:XX}{elt val tg iter c:Expr}{ifs:List Expr}{sc:Scope}{pos:Pos}{N':List Str}{cap:List (Option Nat)}{own:List Nat}{mi:G->M Src}{g:D->G->M G}{k kr:G->M Bool}{me mv:G->M D}
theorem z9P {σ0:L2.St}{ρ0:List Addr}{n0:Nat}{Dd:Addr}(hD:ρ0[n0]?=some Dd):HB X EX own σ0 ρ0 (λγ1 K=>do let y <- me γ1;let v <- mv γ1;let _ <- z4w n0 y v;K) (bPut (tE X.K EX me) (tE X.K EX mv) Dd):=λ{σ γ1 ρ h H P K Z} p0 _ rg rh fin hz=>by
 refine⟨ρ,γ1,h,⟨rg,rh⟩,(Fin.bind fin).mono λyd ρ5 h5 H5 p5 e5 r5 f5 y ry=>⟨ρ5,γ1,h5,⟨rg.mono p5 e5,r5⟩,(Fin.bind f5).mono λd ρ6 h6 H6 p6 e6 r6 f6 v rv=>?_⟩⟩;have hq:ρ6[n0]?=some Dd:=((p0.trans p5).trans p6) _ _ hD;have f7:=Fin.bind f6;unfold z4w z2T at f7;dsimp only at f7;cases ek:keyD yd with
 | none=>rw[ek]at f7;exact f7.elim
 | some kk =>
  rw[ek]at f7;dsimp only at f7;have hy:=z86 ek ry;cases e7:h6[n0]? with
  | none=>rw[e7]at f7;exact f7.elim
  | some ob =>
   cases ob<;>first|(rw[e7]at f7;exact f7.elim)|skip
   rename_i kvs;rw[e7]at f7;dsimp only at f7;split at f7
   ·rename_i hl;obtain⟨a1,n1,vs,o1,d1⟩:=r6.at e7;rw[hq]at n1;cases n1;have ext2:Ext X.K H6 (upd H6 Dd (.dK (L2.putK vs kk v))):=Ext.upd (.inr (r6.tracked hq e7));have r7:RH X.K ρ6 (h6.set n0 (.dK (ptD kvs kk d))) (upd H6 Dd (.dK (L2.putK vs kk v))):=r6.setO e7 hq ⟨_,J6,(d1.put kk rv).mono (Pre.refl _) ext2⟩;have hl2:=d1.len;exact⟨kk,vs,hy,o1,by omega,hz ρ6 _ _ (p5.trans p6) ((e5.trans e6).trans ext2) r7 (f7 ρ6 _ (Pre.refl _) ext2 r7)⟩
   ·exact f7.elim
theorem z66 (he:∀s H fp xe,SE (X.comp N' sc s H fp xe) EX elt me) (hv:∀s H fp xe,SE (X.comp N' sc s H fp xe) EX val mv):CmA X EX (.DictComp elt val [⟨tg,iter,ifs,0⟩] sc pos) sc tg iter ifs N' cap own mi g k (.dK []) (λn0 γ1 K=>do let y <- me γ1;let v <- mv γ1;let _ <- z4w n0 y v;K) (λsrc n0 γ=>z0U src g k me mv n0 γ) :=
 ⟨⟨_,_,_,_,bPut (tE X.K EX me) (tE X.K EX mv),z8Y,λρ H Dd=>⟨[],J6,.nil⟩,λD s H fp xe=>z8a (he s H fp xe).h (hv s H fp xe).h,λ_ hD=>z9P hD⟩,λ_ _ _=>rfl,λ_ _ _ _ _=>rfl⟩
noncomputable def z1g (i:Nat) (cap:List (Option Nat)) (mi:G->M Src) (g:D->G->M G) (k:G->M Bool) (me mv:G->M D):G->M Out:=sAsg (z55 cap mi g k me mv) (gN i)
theorem z3q (i:Nat) {y:Str}{py spos:Pos}(hc:X.calm=true) (S:CS X sc N' cap) (hi:SI X EX tg iter mi) (hg:∀s H fp xe,SGk (X.comp N' sc s H fp xe) EX tg own g) (ht:∀s H fp xe,SCs (X.comp N' sc s H fp xe) EX ifs k)
 (he:∀s H fp xe,SE (X.comp N' sc s H fp xe) EX elt me) (hv:∀s H fp xe,SE (X.comp N' sc s H fp xe) EX val mv) (hN:X.N.Nodup) (hy:X.N[i]?=some y:=by rfl) (hl:X.env.scope.names.lookup y=some .local:=by rfl) (hown:∀j∈own,cap[j]?=some none:=by decide)
 (hsw:K1p (.DictComp elt val [⟨tg,iter,ifs,0⟩] sc pos) (some (.Name y py)) spos.line X.env=pure true:=by rfl) (hs:∀x,K1o iter X.env x=pure x:=by intro _;rfl) :
 S1 X EX (.Assign [.Name y py] (.DictComp elt val [⟨tg,iter,ifs,0⟩] sc pos) spos) (z1g i cap mi g k me mv) :=
 s_cm i (z66 he hv) hc S hi hg ht hown hN hy hl hsw hs
end
end FT
namespace L2
theorem zj0 {k:Key}{u:Value}(h:z1n k u=true):RelV (kV k) u:=by
 rcases Z6 h with ⟨i,t,rfl,rfl⟩|⟨x,t,rfl,rfl⟩
 ·exact⟨t,rfl⟩
 ·exact⟨t,rfl⟩
theorem KV.get:∀{kvs:List (Key×V)}{vs:List (Key×Value)},KV kvs vs->∀{i:Nat}{k:Key}{x:V},kvs[i]?=some (k,x)->∃u,vs[i]?=some (k,u)
 | _,_,.nil,i,k,x,e=>by simp at e
 | p::_,q::_,.cons a b,0,k,x,e=>by
  have e':p=(k,x):=by simpa using e
  subst e';obtain⟨a1,_⟩:=a;refine⟨q.2,?_⟩;show some q=_;rw[show k=q.1 from a1]
 | _::_,_::_,.cons a b,i+1,k,x,e=>KV.get b (by simpa using e)
section
variable {X:Cx}{tg:Expr}
end
end L2
namespace FT
def kD:Key->D
 | .inl i=>.int i
 | .inr x=>.str x
theorem ze6 {K:K0}{ρ:List Addr}{H:Hp}(k:Key):RD K ρ H (kD k) (kV k):=by cases k<;>simp[kD,kV,RD]
def z2n (kvs:List (Key×D)):List D:=kvs.map λkv=>kD kv.1
theorem RK.get {K:K0}{ρ:List Addr}{H:Hp}:∀{kvs:List (Key×D)}{vs:List (Key×V)},RK K ρ H kvs vs->∀{i:Nat}{d:D},(z2n kvs)[i]?=some d->∃k x,d=kD k/\vs[i]?=some (k,x)
 | _,_,.nil,i,d,e=>by simp[z2n]at e
 | p::_,q::_,.cons a b,0,d,e=>by
  have e':kD p.1=d:=by simpa [z2n] using e
  subst e';exact⟨q.1,q.2,by rw[a.1],rfl⟩
 | _::_,_::_,.cons a b,i+1,d,e=>RK.get b (by simpa [z2n] using e)
section
variable {X:Cx}{EX:XX}{a tg:Expr}{ma:G->M D}
end
end FT
namespace L2
section
variable {X:Cx}{tg:Expr}
end
end L2
namespace FT
section
variable {X:Cx}{EX:XX}{a tg:Expr}{p pos:Pos}{ma:G->M D}
end
section
variable {P:K0a}{w:World}{A:Around}{E:Value->Shared->Prop}{s:Shared}
end
section
variable {X:Cx}{EX:XX}{p pos:Pos}
end
def Mut2 (st:List (List Nat)) (x y:Nat):Prop:=Rch st x y/\Rch st y x
section
variable {st:List (List Nat)}{x y z:Nat}
theorem Rch.trans (a:Rch st x y) (b:Rch st y z):Rch st x z:=by
 induction b with
 | here=>exact a
 | step _ h ih=>exact ih.step h
theorem Mut2.refl:Mut2 st x x:=⟨.here,.here⟩
theorem Mut2.symm (a:Mut2 st x y):Mut2 st y x:=⟨a.2,a.1⟩
theorem Mut2.trans (a:Mut2 st x y) (b:Mut2 st y z):Mut2 st x z:=⟨a.1.trans b.1,b.2.trans a.2⟩
theorem Rch.leaves {F:List Nat}(h:Rch st x y) (hx:x∈F) (hy:y∉F):∃a b,a∈F/\b∉F/\b∈nx st a/\Rch st x a/\Rch st b y:=by
 induction h with
 | here=>exact(hy hx).elim
 | @step a b h1 h2 ih =>
  by_cases ha:a∈F
  ·exact⟨a,b,ha,hy,h2,h1,.here⟩
  ·obtain⟨c,d,q1,q2,q3,q4,q5⟩:=ih ha;exact⟨c,d,q1,q2,q3,q4,q5.step h2⟩
end
structure KS where
 seen:List Nat
 ord:List Nat
 wt:List (Nat×Bool)
def opens (wt:List (Nat×Bool)):List Nat:=(wt.filter λp=>p.2).map (·.1)
structure KI (st:List (List Nat)) (V:List Nat) (s:KS):Prop where
 nd:s.seen.Nodup
 sub:∀x∈s.seen,x∈V
 wv:∀p∈s.wt,p.1∈V
 so:∀x,x∈s.seen↔x∈s.ord\/x∈opens s.wt
 on:(s.ord++opens s.wt).Nodup
 root:∀x∈V,x∈s.seen\/(x,false)∈s.wt
 nxo:∀l r x,s.wt=l++(x,true)::r->∀y∈nx st x,y∈s.seen\/(y,false)∈r
 nxf:∀x∈s.ord,∀y∈nx st x,y∈s.seen
 ch:∀l r x,s.wt=l++(x,true)::r->∀p∈r,Rch st x p.1
 q:∀y∈s.ord,∀v,v∉s.ord->Rch st y v->∃z,z∉s.ord/\Mut2 st z y
 k:∀l x r,s.ord=l++x::r->∀y∈l,Rch st y x->∃z,z∉l/\Mut2 st z y
section
variable {st:List (List Nat)}{V:List Nat}{s:KS}
theorem KI.out (i:KI st V s) {y v:Nat}(hy:y∈s.ord) (hv:v∉s.ord) (h:Rch st y v):∃a b,a∈s.ord/\b∈opens s.wt/\Rch st y a/\b∈nx st a:=by
 obtain⟨a,b,q1,q2,q3,q4,_⟩:=h.leaves hy hv;rcases(i.so b).mp (i.nxf a q1 b q3) with z|z
 ·exact(q2 z).elim
 ·exact⟨a,b,q1,z,q4,q3⟩
end
section
variable {st:List (List Nat)}{V:List Nat}{s:KS}
structure KEnd (st:List (List Nat)) (V O:List Nat):Prop where
 nd:O.Nodup
 mem:∀x,x∈O↔x∈V
 k:∀l x r,O=l++x::r->∀y∈l,Rch st y x->∃z,z∉l/\Mut2 st z y
end
open Classical in
noncomputable def scc (st:List (List Nat)) (V:List Nat) (x:Nat):List Nat:=V.filter λa=>decide (Mut2 st x a)
def Trn (s1 s2:List (List Nat)):Prop:=∀x y,y∈nx s2 x↔x∈nx s1 y
section
variable {s1 s2:List (List Nat)}{V:List Nat}
theorem Rch.turn (t:Trn s1 s2) {x y:Nat}(h:Rch s2 x y):Rch s1 y x:=by
 induction h with
 | here=>exact .here
 | step _ h2 ih=>exact(Rch.here.step ((t _ _).mp h2)).trans ih
theorem Rch.back (t:Trn s1 s2) {x y:Nat}(h:Rch s1 x y):Rch s2 y x:=by
 induction h with
 | here=>exact .here
 | step _ h2 ih=>exact(Rch.here.step ((t _ _).mpr h2)).trans ih
theorem Rch.inV {st:List (List Nat)}(hv:∀x∈V,∀y∈nx st x,y∈V) {x y:Nat}(h:Rch st x y) (hx:x∈V):y∈V:=by
 induction h with
 | here=>exact hx
 | step _ h2 ih=>exact hv _ ih _ h2
structure MI (s1:List (List Nat)) (V done T:List Nat):Prop where
 cl:∀a∈T,∀b∈nx s1 a,b∈T
 dn:∀a∈done,a∈T
 tv:∀a∈T,a∈V
end
section
variable {st:List (List Nat)}{V:List Nat}{s:KS}
end
section
variable {cap:List (Option Nat)}{mi:G->M Src}{g:D->G->M G}{kb:G->M Bool}{me mv:G->M D}{γ:G}
theorem z4c {γ':G}(src:Src) (h1:AH) (hg:∀j,src.good (h1++j)):∀(rest pre:List Nat),(pre++rest).Nodup->(pre++rest).length<=1000 ->
 (∀x∈rest,∃γ1,(∀h,g (.int x) γ' h=.ok γ1 h)/\(∀h,kb γ1 h=.ok true h)/\(∀h,me γ1 h=.ok (.int x) h)/\∀h,mv γ1 h=.ok (.bl true) h) ->
 z0U src g kb me mv h1.length γ' (stD rest) (h1++[.dK (kvN pre)])=.ok () (h1++[.dK (kvN (pre++rest))])
 | [],pre,nd,hl,hd=>by
  unfold stD;rw[K35];unfold z0U;rw[K2c];have c1:src.chk (h1++[.dK (kvN pre)])=.ok () (h1++[.dK (kvN pre)]):=by unfold Src.chk;rw[if_pos (hg _)]
  rw[M.bind_ok c1];rfl
 | x::rest,pre,nd,hl,hd=>by
  obtain⟨γ1,e1,e2,e3,e4⟩:=hd x (by simp);have xp:x∉pre:=λq=>(K4h.mp nd).2.2 x q x (by simp) rfl;have ih:=z4c (γ':=γ') src h1 hg rest (pre++[x]) (by rw[K0e];exact nd) (by rw[K0e];exact hl) λy hy=>hd y (by simp[hy]);have c1:src.chk (h1++[.dK (kvN pre)])=.ok () (h1++[.dK (kvN pre)]):=by unfold Src.chk;rw[if_pos (hg _)]
  have c5:z4w h1.length (.int x) (.bl true) (h1++[.dK (kvN pre)])=.ok () (h1++[.dK (kvN (pre++[x]))]):=by
   unfold z4w;rw[z9o (l:=pre) z0i xp (by rw[K9,K01]at hl;omega),z5B]
  show z0U src g kb me mv h1.length γ' (.int x::stD rest) _=_;unfold z0U;rw[M.bind_ok c1,M.bind_ok (e1 _),M.bind_ok (e2 _),if_pos rfl,M.bind_ok (e3 _),M.bind_ok (e4 _),M.bind_ok c5,ih,K0e];rfl
theorem z3h {h h1:AH}{src:Src}{V:List Nat}(hi:mi γ h=.ok src h1) (hs:src.items=stD V) (hg:∀j,src.good (h1++j)) (nd:V.Nodup) (hl:V.length<=1000)
 (hd:∀x∈V,∃γ1,(∀h,g (.int x) (capG cap γ) h=.ok γ1 h)/\(∀h,kb γ1 h=.ok true h)/\(∀h,me γ1 h=.ok (.int x) h)/\∀h,mv γ1 h=.ok (.bl true) h) :
 z55 cap mi g kb me mv γ h=.ok (.ref h1.length) (h1++[.dK (kvN V)]):=by
 have r:=z4c (γ':=capG cap γ) (kb:=kb) (me:=me) (mv:=mv) (g:=g) src h1 hg V [] nd hl hd;unfold z55;rw[M.bind_ok hi];show (z0U src g kb me mv h1.length (capG cap γ) src.items >>= λ_=>(pure (D.ref h1.length):M D)) (h1++[O.dK []])=_;rw[hs];have r':z0U src g kb me mv h1.length (capG cap γ) (stD V) (h1++[.dK []])=_:=r;rw[M.bind_ok r'];rfl
end
theorem sm0 {h:AH}{o o':O}{j:AH}:(h++o::j).set h.length o'=h++o'::j:=by rw[K1f _ _ (K08 _),K4d];rfl
section
variable {X:Cx}{EX:XX}{elt val tg iter tg1 iter1:Expr}{ifs1:List Expr}{sc:Scope}{pos:Pos}{N':List Str}{cap:List (Option Nat)}{own own1:List Nat}{mi mi1:G->M Src}{g g1:D->G->M G}{k:G->M Bool}{me mv:G->M D}
end
end FT
namespace L2
theorem z1u:∀{vs:List (Key×V)}{us:List (Key×Value)},KV vs us->∀{l:List Value},l.length=us.length->(∀(j:Nat) v,l[j]?=some v->∃k x,us[j]?=some (k,x)/\z1n k v=true)->Vals (vs.map λkv=>kV kv.1) l
 | [],_,.nil,l,hl,h=>by
  cases l with
  | nil=>exact .nil
  | cons a l=>simp at hl
 | p::vs,q::us,.cons a b,l,hl,h=>by
  cases l with
  | nil=>simp at hl
  | cons v l =>
   obtain⟨k,x,e1,e2⟩:=h 0 v rfl;have e1':q=(k,x):=by simpa using e1
   subst e1';refine .cons ?_ (z1u b (by simpa using hl) λj v hv=>by simpa using h (j+1) v (by simpa using hv));have a1:p.1=k:=a.1;show RelV (kV p.1) v;rw[a1];exact zj0 e2
section
variable {X:Cx}
end
end L2
namespace FT
def z28 (n:Nat):M (List (Key×D)):=λh=>match h[n]? with
 | some (.dK kvs)=>.ok kvs h
 | some (.dF kvs)=>.ok kvs h
 | _=>.bad
theorem z2J {K:K0}{EX:XX}{ρ:List Addr}{h:AH}{H:Hp}{n:Nat}{q:Addr}{Z:List (Key×D)->List Addr->AH->Hp->Prop}(r:RH K ρ h H) (hq:ρ[n]?=some q) (f:Fin K EX ρ H Z (z28 n h)) :
 ∃kvs vs,(H q=some (.dK vs)\/∃ob,H q=some (.frz ob (.dK vs)))/\RK K ρ H kvs vs/\Z kvs ρ h H:=by
 unfold z28 at f;cases e:h[n]? with
 | none=>rw[e]at f;exact f.elim
 | some ob =>
  cases ob with
  | lst xs=>rw[e]at f;exact f.elim
  | set xs=>rw[e]at f;exact f.elim
  | dct=>rw[e]at f;exact f.elim
  | exc c=>rw[e]at f;exact f.elim
  | ins _ _=>rw[e]at f;exact f.elim
  | dK kvs =>
   rw[e]at f;obtain⟨a1,n1,vs,o1,d1⟩:=r.at e;rw[hq]at n1;cases n1;exact⟨kvs,vs,.inl o1,d1,f ρ H (Pre.refl _) (Ext.refl _ _) r⟩
  | dF kvs =>
   rw[e]at f;obtain⟨a1,n1,ob,vs,o1,d1⟩:=r.at e;rw[hq]at n1;cases n1;exact⟨kvs,vs,.inr ⟨ob,o1⟩,d1,f ρ H (Pre.refl _) (Ext.refl _ _) r⟩
theorem z34 {K:K0}{ρ:List Addr}{H:Hp}:∀{kvs:List (Key×D)}{vs:List (Key×V)},RK K ρ H kvs vs->RDs K ρ H (z2n kvs) (vs.map λkv=>kV kv.1)
 | _,_,.nil=>RDs.nil
 | p::_,q::_,.cons a b=>by
  refine RDs.cons ?_ (z34 b);have a1:p.1=q.1:=a.1;show RD K ρ H (kD p.1) (kV q.1);rw[a1];exact ze6 q.1
section
variable {X:Cx}{EX:XX}{a:Expr}{mr:G->M (List D)}{p pos:Pos}
end
section
variable {X:Cx}{EX:XX}{a o:Expr}{p pos cpos apos:Pos}{ma mo:G->M D}{mr:G->M (List D)}
end
def cp (x:Str):List Nat:=x.cps.toList
def nS (i:Nat):Str:=toString (i:Int)
section
variable {α:Type}{us:List α}
theorem ar1 (hl:us.length=1):∃a,us=[a]:=match us,hl with|[a],_=>⟨a,rfl⟩
theorem ar2 (hl:us.length=2):∃a b,us=[a,b]:=match us,hl with|[a,b],_=>⟨a,b,rfl⟩
theorem ar3 (hl:us.length=3):∃a b c,us=[a,b,c]:=match us,hl with|[a,b,c],_=>⟨a,b,c,rfl⟩
theorem ar4 (hl:us.length=4):∃a b c d,us=[a,b,c,d]:=match us,hl with|[a,b,c,d],_=>⟨a,b,c,d,rfl⟩
end
section
variable {X:Cx}{EX:XX}{k v:Expr}{pos:Pos}{mk mv:G->M D}
end
abbrev Grw (h h':Heap):Prop:=∀(b:Addr) (o:Obj),h.get? b=some o->h'.get? b=some o
structure RC (prog:K0a) (w:World) (h₀:Heap) (u:Value) (p:PyData):Prop where
 rd:∃as,Reads h₀ u p as
 rk:p.showable=true->p.shown.length<=sizeLine->∃bs,K6l h₀ p.depth bs/\ReprK prog w bs h₀ p.depth u p.shown
 tp:p.showable=true->p.shown.length<=sizeLine->∀(A:Around) (E:Value->Shared->Prop) (s:Shared) (Q:Value->Shared->Prop),A.guards=some []->A.units+p.depth+1<cLine->Grw h₀ s.heap ->
  (∀h' u tk,Grw s.heap h'->Q (.str p.shown u) { s with heap:=h',toks:=tk })->wpAny (model prog w) A (call (.builtin "repr") [u]) Q E s
structure RCs (prog:K0a) (w:World) (h₀:Heap) (us:List Value) (ps:List PyData):Prop where
 rd:∃as,ReadsAll h₀ us ps as
 rk:K5f ps=true->(∀t∈K17 ps,t.length<=sizeLine)->∃bs,K6l h₀ (K3a ps) bs/\ReprAllK prog w bs h₀ (K3a ps) us (K17 ps)
section
variable {prog:K0a}{w:World}{h₀:Heap}
theorem RCs.nil:RCs prog w h₀ [] []:=⟨⟨[],.nil⟩,λ_ _=>⟨[],(λ_ h=>nomatch h),by simp only[K17];exact .nil⟩⟩
theorem RCs.cons {u:Value}{us:List Value}{p:PyData}{ps:List PyData}(a:RC prog w h₀ u p) (b:RCs prog w h₀ us ps):RCs prog w h₀ (u::us) (p::ps):=by
 obtain⟨a1,ra⟩:=a.rd;obtain⟨a2,rb⟩:=b.rd;refine⟨⟨_,.cons ra rb⟩,λhs hz=>?_⟩;have hs':p.showable=true/\K5f ps=true:=by simpa [K5f] using hs
 obtain⟨b1,hb1,k1⟩:=a.rk hs'.1 (hz _ (by simp only[K17];exact K1d ..));obtain⟨b2,hb2,k2⟩:=b.rk hs'.2 (λt ht=>hz t (by simp only[K17];exact K0x _ ht));refine⟨b1++b2,?_,?_⟩
 ·simp only[K3a];exact(hb1.mono (K92 _ _)).append (hb2.mono (K8y _ _))
 ·simp only[K3a,K17];exact .cons ((k1.more λb hb=>K1t _ hb).level_le (K92 _ _)) (k2.more_le (λb hb=>K0m _ hb) (K8y _ _))
theorem RC.none:RC prog w h₀ .none .none :=
 ⟨⟨_,.none⟩,λ_ _=>⟨[],(λ_ h=>nomatch h),by simp only[K0w];exact .of_is ReprIs.none _ _ _⟩,λ_ _ A E s Q _ _ _ hQ=>P.repr_of_none (by simp only[K0w]at hQ;exact hQ s.heap _ _ λ_ _ e=>e)⟩
theorem RC.bool (b:Bool):RC prog w h₀ (.bool b) (.bool b) :=
 ⟨⟨_,.bool b⟩,λ_ _=>⟨[],(λ_ h=>nomatch h),by simp only[K0w];exact .of_is (ReprIs.bool b) _ _ _⟩,λ_ _ A E s Q _ _ _ hQ=>P.repr_of_bool (by simp only[K0w]at hQ;exact hQ s.heap _ _ λ_ _ e=>e)⟩
theorem RC.int (i:Int) (t:Tok):RC prog w h₀ (.int i t) (.int i) :=
 ⟨⟨_,.int i t⟩,λhs _=>⟨[],(λ_ h=>nomatch h),by simp only[K0w];exact .of_is (ReprIs.int t (by simpa [K39] using hs)) _ _ _⟩,
  λhs _ A E s Q _ _ _ hQ=>P.repr_of_int (by simpa [K39] using hs) (by simp only[K0w]at hQ;exact hQ s.heap _ _ λ_ _ e=>e)⟩
theorem RC.str (x:Str) (t:Tok):RC prog w h₀ (.str x t) (.str x) :=
 ⟨⟨_,.str x t⟩,λ_ hz=>⟨[],(λ_ h=>nomatch h),by simp only[K0w];exact .of_is (ReprIs.str x t (by simpa only[K0w] using hz)) _ _ _⟩,
  λ_ hz A E s Q _ _ _ hQ=>P.repr_of_str (by simp only[K0w]at hQ;exact hQ s.heap _ _ λ_ _ e=>e) (by simpa only[K0w] using hz)⟩
theorem RC.list {a:Addr}{o:Obj}{its:List Value}{n:Nat}{ps:List PyData}(h1:h₀.get? a=some o) (h2:o.cls=.type "list") (h3:o.data=.seq its.toArray n) (b:RCs prog w h₀ its ps):RC prog w h₀ (.ref a) (.list ps):=by
 obtain⟨as,ra⟩:=b.rd;have r:Reads h₀ (.ref a) (.list ps) _:=.list h1 h2 h3 ra;refine⟨⟨_,r⟩,λhs hz=>?_,λhs hz A E s Q hg hu hk0 hQ=>?_⟩
 ·have hz':(listText (K17 ps)).length<=sizeLine:=by simpa only[K0w] using hz
  obtain⟨bs,hb,hk⟩:=b.rk (by simpa [K39] using hs) λt ht=>K0h (listText_mem_le ht) hz';have hna:a∉bs:=K4l r (by simp only[K1r];omega) hb;refine⟨a::bs,K6t r (by simp only[K1r];omega) hb,?_⟩;simp only[K1r,K0w];cases its with
  | nil =>
   cases ra;simp only[K17,listText_nil];exact ReprK.listEmpty h1 h2 h3
  | cons x l=>exact ReprK.list h1 h2 h3 hna (by simpa using hk.length_eq) (λi y e=>hk.item i y (by simpa using e))
 ·have hz':(listText (K17 ps)).length<=sizeLine:=by simpa only[K0w] using hz
  obtain⟨bs,hb,hk⟩:=b.rk (by simpa [K39] using hs) λt ht=>K0h (listText_mem_le ht) hz';have hna:a∉bs:=K4l r (by simp only[K1r];omega) hb;simp only[K1r]at hu;simp only[K0w]at hQ;refine K7f (by omega) ⟨_,hk0 _ _ h1,h2⟩ F.slot_list_repr.toG ?_;cases its with
  | nil =>
   cases ra;simp only[K17,listText_nil]at hQ;exact call_list_repr_empty ⟨_,hk0 _ _ h1,h2⟩ (hk0 _ _ h1) h3 ⟨_,_,rfl,hQ s.heap _ _ λ_ _ e=>e⟩
  | cons x l =>
   exact call_list_reprK h1 h2 h3 hna (by simpa using hk.length_eq) (λi y e=>hk.item i y (by simpa using e)) (g:=[]) hg (λb _=>K97 b) (by show A.units+1+_<_;omega) hk0 (λh' u tk hk'=>⟨_,_,rfl,hQ h' u tk hk'⟩) hz'
theorem RC.tuple {a:Addr}{o:Obj}{its:List Value}{n:Nat}{ps:List PyData}(h1:h₀.get? a=some o) (h2:o.cls=.type "tuple") (h3:o.data=.seq its.toArray n) (b:RCs prog w h₀ its ps):RC prog w h₀ (.ref a) (.tuple ps):=by
 obtain⟨as,ra⟩:=b.rd;have r:Reads h₀ (.ref a) (.tuple ps) _:=.tuple h1 h2 h3 ra;have key:(K9a ps).showable=true->(K9a ps).shown.length<=sizeLine->(tupleText (K17 ps)).length<=sizeLine/\∃bs,K6l h₀ (K3a ps) bs/\ReprAllK prog w bs h₀ (K3a ps) its (K17 ps)/\a∉bs:=λhs hz=>by
  have hz':(tupleText (K17 ps)).length<=sizeLine:=by simpa only[K0w] using hz
  obtain⟨bs,hb,hk⟩:=b.rk (by simpa [K39] using hs) λt ht=>K0h (tupleText_mem_le ht) hz';exact⟨hz',bs,hb,hk,K4l r (by simp only[K1r];omega) hb⟩
 refine⟨⟨_,r⟩,λhs hz=>?_,λhs hz A E s Q hg hu hk0 hQ=>?_⟩
 ·obtain⟨hz',bs,hb,hk,hna⟩:=key hs hz;refine⟨a::bs,K6t r (by simp only[K1r];omega) hb,?_⟩;simp only[K1r,K0w];exact ReprK.tuple h1 h2 h3 hna hk
 ·obtain⟨hz',bs,hb,hk,hna⟩:=key hs hz;simp only[K1r]at hu;simp only[K0w]at hQ;refine K7f (by omega) ⟨_,hk0 _ _ h1,h2⟩ F.slot_tuple_repr ?_;exact call_tuple_reprK h1 h2 h3 hna hk (g:=[]) hg (λb _=>K97 b) (by show A.units+1+_<_;omega) hk0 (λh' u tk hk'=>⟨_,_,rfl,hQ h' u tk hk'⟩) hz'
theorem RC.dict {a:Addr}{o:Obj}{es:Array DictEntry}{n:Nat}{ps:List (PyData×PyData)}(h1:h₀.get? a=some o) (h2:o.cls=.type "dict") (h3:o.data=.dict es n) (hsys:(a==K2k)=false)
 (b:RCs prog w h₀ (es.toList.map (·.key)) (ps.map (·.1))) (c:RCs prog w h₀ (es.toList.map (·.val)) (ps.map (·.2))):RC prog w h₀ (.ref a) (.dict ps):=by
 obtain⟨as,ra⟩:=b.rd;obtain⟨cs,rc⟩:=c.rd;have r:Reads h₀ (.ref a) (.dict ps) _:=.dict h1 h2 h3 ra rc;have key:(PyData.dict ps).showable=true->(PyData.dict ps).shown.length<=sizeLine->(dictText (K79 ps)).length<=sizeLine/\∃bs,K6l h₀ (K7a ps) bs/\a∉bs/\ReprEntriesK prog w bs h₀ (K7a ps) es.toList (K79 ps):=λhs hz=>by
  have hz':(dictText (K79 ps)).length<=sizeLine:=by simpa only[K0w] using hz
  obtain⟨hs1,hs2⟩:=PyData.showableKv_split ps (by simpa [K39] using hs);obtain⟨b1,hb1,k1⟩:=b.rk hs1 (λt ht=>let ⟨p,hp,hl⟩:=PyData.shownKv_key_le ps t ht;K0h hl (K0h (dictText_mem_le hp) hz'));obtain⟨b2,hb2,k2⟩:=c.rk hs2 (λt ht=>let ⟨p,hp,hl⟩:=PyData.shownKv_val_le ps t ht;K0h hl (K0h (dictText_mem_le hp) hz'));have hb:K6l h₀ (K7a ps) (b1++b2):=(hb1.mono (K6e ps)).append (hb2.mono (K6d ps));refine⟨hz',b1++b2,hb,K4l r (by simp only[K1r];omega) hb,?_⟩;rw[PyData.shownKv_eq];exact ReprEntriesK.of_two es.toList _ _ (k1.more_le (λb hb=>K1t _ hb) (K6e ps)) (k2.more_le (λb hb=>K0m _ hb) (K6d ps))
 refine⟨⟨_,r⟩,λhs hz=>?_,λhs hz A E s Q hg hu hk0 hQ=>?_⟩
 ·obtain⟨hz',bs,hb,hna,hk⟩:=key hs hz;refine⟨a::bs,K6t r (by simp only[K1r];omega) hb,?_⟩;simp only[K1r,K0w];exact ReprK.dict h1 h2 h3 hsys hna hk
 ·obtain⟨hz',bs,hb,hna,hk⟩:=key hs hz;simp only[K1r]at hu;simp only[K0w]at hQ;refine K7f (by omega) ⟨_,hk0 _ _ h1,h2⟩ F.slot_dict_repr ?_;exact call_dict_reprK h1 h2 h3 hsys hna hk (g:=[]) hg (λb _=>K97 b) (by show A.units+1+_<_;omega) hk0 (λh' u tk hk'=>⟨_,_,rfl,hQ h' u tk hk'⟩) hz'
end
section
variable {X:Cx}{pins:List (Addr×Obj)}{σ:L2.St}{H:Hp}{s:Shared}{ρ:List Addr}{h:AH}
end
section
variable {X:Cx}{EX:XX}{a:Expr}{p pos:Pos}{mr:G->M (List D)}
end
def Ths (P:Nat->D->Prop):Nat->List D->Prop
 | _,[]=>True
 | n,x::xs=>∃a b,P a x/\Ths P b xs/\a+b+2<=n
def Th (r:AH) (B:Nat):Nat->Nat->D->Prop
 | 0,_,_=>False
 | _+1,n,.non=>4<=n
 | _+1,n,.bl _=>5<=n
 | _+1,n,.int i=>i.natAbs<=B/\40<=n
 | _+1,n,.str x=>(reprText x).length<=n/\x.length<=1000
 | m+1,n,.tup xs=>∃a,Ths (Th r B m) a xs/\a+4<=n
 | _+1,_,.fl _=>False
 | m+1,n,.ref i=>∃j,i=j+3/\((∃xs a,r[j]?=.(l xs)/\Ths (Th r B m) a xs/\a+4<=n)\/(r[j]?=some (.dK [])\/r[j]?=some (.dK [(.inr "a",.int 1)])/\1<=m)/\40<=n)
section
variable {P P':Nat->D->Prop}{n m:Nat}{xs ys:List D}{d:D}
theorem Ths.imp (f:∀a d,P a d->P' a d):∀{n:Nat}{xs:List D},Ths P n xs->Ths P' n xs
 | _,[],_=>trivial
 | _,x::xs,⟨a,b,h1,h2,h3⟩=>⟨a,b,f a x h1,Ths.imp f h2,h3⟩
theorem Ths.up (h:n<=m) (t:Ths P n xs):Ths P m xs:=by
 cases xs with
 | nil=>trivial
 | cons x xs=>obtain⟨a,b,h1,h2,h3⟩:=t;exact⟨a,b,h1,h2,by omega⟩
theorem Ths.app:∀{n m:Nat}{xs ys:List D},Ths P n xs->Ths P m ys->Ths P (n+m) (xs++ys)
 | n,m,[],ys,_,t=>t.up (by omega)
 | n,m,x::xs,ys,⟨a,b,h1,h2,h3⟩,t=>⟨a,b+m,h1,Ths.app h2 t,by omega⟩
theorem Ths.one (h:P n d):Ths P (n+2) [d]:=⟨n,0,h,trivial,by omega⟩
theorem Ths.sub {xs ys:List D}(s:xs.Sublist ys):∀{n:Nat},Ths P n ys->Ths P n xs:=by
 induction s with
 | slnil=>exact λt=>t
 | cons a s ih=>intro n ⟨a,b,h1,h2,h3⟩;exact(ih h2).up (by omega)
 | cons_cons a s ih=>intro n ⟨a,b,h1,h2,h3⟩;exact⟨a,b,h1,ih h2,h3⟩
theorem Ths.mem:∀{n:Nat}{xs:List D},Ths P n xs->d∈xs->∃a,a+2<=n/\P a d
 | n,[],_,h=>nomatch h
 | n,x::xs,⟨a,b,h1,h2,h3⟩,h=>by
  rcases K1h.mp h with rfl|h
  ·exact⟨a,by omega,h1⟩
  ·obtain⟨c,hc,p⟩:=Ths.mem h2 h;exact⟨c,by omega,p⟩
theorem Ths.len:∀{n:Nat}{xs:List D},Ths P n xs->2 * xs.length<=n
 | n,[],_=>by simp
 | n,x::xs,⟨a,b,h1,h2,h3⟩=>by have:=Ths.len h2;rw[K01];omega
theorem Ths.of {c:Nat}:∀{xs:List D},(∀d∈xs,P c d)->Ths P (xs.length * (c+2)) xs
 | [],_=>trivial
 | x::xs,h=>⟨c,xs.length * (c+2),h x (K1d ..),Ths.of λd hd=>h d (K0x _ hd),by rw[K01,Nat.add_mul];omega⟩
end
theorem Th.mono {r r':AH}{B B':Nat}(k:Kp r r') (hB:B<=B'):∀{m m' n n':Nat}{d:D},m<=m'->n<=n'->Th r B m n d->Th r' B' m' n' d
 | 0,_,_,_,_,_,_,h=>by simp only[Th]at h
 | m+1,0,_,_,_,hm,_,_=>by omega
 | m+1,m'+1,n,n',d,hm,hn,h=>by
  have ih:∀a d,Th r B m a d->Th r' B' m' a d:=λa d=>Th.mono k hB (by omega) (K08 a);cases d with
  | non=>simp only[Th]at h ⊢;omega
  | bl b=>simp only[Th]at h ⊢;omega
  | int i=>simp only[Th]at h ⊢;omega
  | str x=>simp only[Th]at h ⊢;omega
  | fl xs=>simp only[Th]at h
  | tup xs=>simp only[Th]at h ⊢;obtain⟨a,h1,h2⟩:=h;exact⟨a,h1.imp ih,by omega⟩
  | ref i =>
   simp only[Th]at h ⊢;obtain⟨j,e,h⟩:=h;refine⟨j,e,?_⟩;rcases h with ⟨xs,a,h1,h2,h3⟩|⟨h1|⟨h1,h4⟩,h2⟩
   ·exact .inl ⟨xs,a,k _ _ h1,h2.imp ih,by omega⟩
   ·exact .inr ⟨.inl (k _ _ h1),by omega⟩
   ·exact .inr ⟨.inr ⟨k _ _ h1,by omega⟩,by omega⟩
section
variable {X:Cx}{EX:XX}{mr:G->M (List D)}
end
section
variable {n i:Nat}{mf:List D->M D}{mr:G->M (List D)}{okf:Str->Bool}{ms mt:G->M Out}{γ:G}{h h1 h2:AH}{xs:List D}{Q:Out->AH->Prop}
end
section
variable {prog:K0a}{w:World}{A:Around}{E:Value->Shared->Prop}{s:Shared}
open PySem.W in
theorem z6x {T:String}{r d:Addr}{n:Nat}{P:Nat->Value->Prop}{OK:Heap->Prop}{R:List Value->Shared->Prop}(K:KdlSrc prog w T r d n P OK) (hh:A.handled=none) (ok:OK s.heap) (hn:n<=sizeLine)
 (z:∀(g:Heap) (tk:Nat) (acc:Array Value),(∀b o,s.heap.get? b=some o->g.get? b=some o)->s.heap.objs.size<=g.objs.size->ItemsOf P acc n->R acc.toList { s with heap:=g,toks:=tk }) :
 wpAny (model prog w) A (collect (.ref r)) R E s:=by
 obtain⟨t1,t2⟩:=K.there _ ok;obtain⟨S,hS⟩:∃S,S=s.heap.objs.size:=⟨_,rfl⟩;unfold collect;refine K2 (wpAny_runValue (codeAny_builtin entry_proto_collect' ?_));rw[K7d PySem.F.plain_proto_collect _];show wpAny _ A.in1 (newList [] >>= λl=>again (.builtin "list.__iadd__" ⟨[l,.ref r],[]⟩)) _ _ s;refine K2 (K1n (K04 ⟨plainId_quiet K6c _,codeAny_builtin entry_list_iadd' ?_⟩));rw[K7d K6c _];obtain⟨o0,h0⟩:∃o0:Obj,o0={ cls:=.type "list",data:=.seq ([]:List Value).toArray }:=⟨_,rfl⟩;rw[<- h0];have at0:(s.heap.push o0).get? S=some { cls:=.type "list",data:=.seq #[] }:=by rw[hS,h0];exact K0l _ rfl
 rw[<- hS];show wpAny _ A.in1 (Builtin.List.listExtendWith (.ref S) (.ref r) (.ref S)) _ _ _;have old:∀{b:Addr} {o:Obj},s.heap.get? b=some o->b≠S:=λe=>by rw[hS];exact K0q (K09 e)
 have key:=kdl_extend (A:=A) (s:={ s with heap:=s.heap.push o0 })
  (R:=λ(q:Result) (s':Shared)=>∃(g:Heap) (tk:Nat) (acc:Array Value) (c:Nat),q=.ok (.ret (.ref S))/\s'={ s with heap:=g,toks:=tk }/\(∀b o,s.heap.get? b=some o->g.get? b=some o)/\g.get? S=some { cls:=.type "list",dict:=none,data:=.seq acc c,slots:=#[] }/\ItemsOf P acc n)
  K hh (K.keep _ _ ok λb _ o e=>K8 _ e) S (by rw[hS];exact K3l t1) (by rw[hS];exact K3l t2) (.ref S) 0 at0
  (λg tk acc c kp at1 it=>⟨g,tk,acc,c,rfl,rfl,λb o e=>kp b o (old e) (K8 _ e),at1,it⟩) hn
 have fin:∀(q:Result) (s2:Shared) (h:∃(g:Heap) (tk:Nat) (acc:Array Value) (c:Nat),q=.ok (.ret (.ref S))/\s2={ s with heap:=g,toks:=tk }/\(∀b o,s.heap.get? b=some o->g.get? b=some o)/\g.get? S=some { cls:=.type "list",dict:=none,data:=.seq acc c,slots:=#[] }/\ItemsOf P acc n),q=.ok (.ret (.ref S)):=λq s2 ⟨_,_,_,_,e,_⟩=>e;refine K2x key (λf s2 x=>?_) λe s2 x=>?_
 ·cases f with
  | done f =>
   obtain⟨g,tk,acc,c,e,rfl,kp,at1,it⟩:=x;cases e;show wpAny _ A (load S >>= _) _ _ _;refine K2 (wpAny_load at1 (K04 (z g tk acc kp ?_ it)));rw[<- hS];exact K36 (K09 at1)
  | again c₁ =>
   refine⟨x.1,K6m x.2 λq s3 y=>?_⟩;obtain⟨g,tk,acc,c,rfl,rfl,kp,at1,it⟩:=y;show wpAny _ A (load S >>= _) _ _ _;refine K2 (wpAny_load at1 (K04 (z g tk acc kp ?_ it)));rw[<- hS];exact K36 (K09 at1)
 ·obtain⟨_,_,_,_,e',_⟩:=x;cases e'
end
section
variable {X:Cx}{EX:XX}{mr:G->M (List D)}
theorem z38 (hc:X.calm=true):CallR X (.builtin "sorted") (λxs H Q=>∃a vs ns,xs=[.ref a]/\(H a=some (.dK vs)\/∃ob,H a=some (.frz ob (.dK vs)))/\vs.map (λkv=>kV kv.1)=ns.map V.int/\ns.length<64/\∀q,H q=none->Q (.ref q) (upd H q (.lst ((sortI ns).map V.int)))):=by
 intro pins s σ H xs us Q I r h;obtain⟨a,vs,ns,rfl,hq,hk,h64,q⟩:=h;obtain⟨u,rfl,ru⟩:=vals1 r;cases ru;have vl:vs.length=ns.length:=by have:=congrArg K5v hk;simpa using this
 have go:∀{us:List (Key×Value)} {ep:Nat},KV vs us->(a==K2k)=false->s.heap.DictAt (J1 X.prog X.w) a us ep->wpAny (model X.prog X.w) X.A (call (.builtin "sorted") [.ref a]) (EP X pins σ Q) X.xe s:=λ{us ep} rel hd dat=>by
  have le:=rel.length;refine Calls.call_function_entry kind_sorted plain_sorted entry_sorted (args_sorted1 _) ?_;unfold Builtin.«sorted»;refine K2 (m:=checkCount "sorted" 1 1 _) (K04 ?_);refine K2 (z6x (PySem.W.kdl_dict hd) (by simp[I.ok.hd hc]) dat (by rw[<- le,vl];exact K36 (K0i h64 (by decide))) λh' tk acc kp sz it=>?_);have al:acc.toList.length=ns.length:=by rw[K20,<- vl,le];exact it.1
  have rv:Vals (ns.map V.int) acc.toList:=by
   rw[<- hk];exact z1u rel (by rw[K20];exact it.1) λj v hv=>it.2 j v (by simpa using hv)
  have ia:=intsAre_of rv;refine K2 (wpAny_newList ?_ (by rw[al];exact K36 (K0i h64 (by decide))));have gL:(h'.push (seqObj "list" acc.toList.toArray 0)).get? h'.objs.size=some (seqObj "list" acc.toList.toArray 0):=K0l _ rfl;refine K2 (K2j (K32 slot_list_sort ⟨_,gL,rfl⟩ entry_list_sort (list_sort_tree gL ia (by rw[al];exact h64) λout ns' a1 a2 a3=>⟨_,rfl,?_⟩) (args_list_sort _)));refine K04 ⟨_,rfl,?_⟩;obtain⟨e,ge⟩:=sortedHeap_at (out:=out) gL;have es':ns'=sortI ns:=z49 a2 a3;subst es';have un:∀b ob,s.heap.get? b=some ob->(sortedHeap (h'.push (seqObj "list" acc.toList.toArray 0)) h'.objs.size acc.toList out).get? b=some ob:=λb ob eb=>by
   have lt:=K09 (kp b ob eb);rw[sortedHeap_old (K0q lt) (by rw[K4e];exact K8n lt)];exact K8 _ (kp b ob eb)
  have ho:=I.hok.laid (a:=h'.objs.size) (o:=.lst ((sortI ns).map V.int)) un sz ⟨by rw[K0j,(sortI_perm ns).length_eq];exact K36 (K0i h64 (by decide)),out.toList,e,z3M a1,ge⟩;exact⟨.ref h'.objs.size,_,I.call' (s':={ s with heap:=_,toks:=tk }) (ch:=[]) rfl (Un.laid un sz (I.hok.fresh sz)) ho I.bare (λb z=>absurd z (by simp)),rfl,q _ (I.hok.fresh sz)⟩
 rcases hq with hq|⟨ob,hq⟩
 ·obtain⟨z,hd,us,rel,dd⟩:=z8J I.hok hq;obtain⟨ob,es,ep,ho,r1,r2,r3⟩:=id dd;exact go rel hd ⟨ob,es,ho,r1,r2,r3⟩
 ·obtain⟨go',z,hd,us,rel,dd⟩:=(show ObjOk X.prog X.w H s.heap a (.frz ob (.dK vs)) from I.hok a _ hq);obtain⟨ob',es,ep,ho,r1,r2,r3⟩:=id dd;exact go rel hd ⟨ob',es,ho,r1,r2,r3⟩
def z0t:List D->M D
 | [.ref n]=>do
  let kvs <- z28 n
  match z1v (z2n kvs) with
  | some ns=>if ns.length<64 then newL ((sortI ns).map .int) else bad
  | none=>bad
 | _=>bad
theorem z4l:AR X.K EX (λxs H Q=>∃a vs ns,xs=[.ref a]/\(H a=some (.dK vs)\/∃ob,H a=some (.frz ob (.dK vs)))/\vs.map (λkv=>kV kv.1)=ns.map V.int/\ns.length<64/\∀q,H q=none->Q (.ref q) (upd H q (.lst ((sortI ns).map V.int)))) z0t:=by
 intro ρ h H ds vs Q r rd fin;unfold z0t at fin;split at fin
 ·rename_i n;obtain⟨v,rfl,rv⟩:=rds1 rd;simp only[RD]at rv;obtain⟨q,rfl,hq⟩:=rv;have f2:=Fin.bind fin;obtain⟨kvs,vs,w1,rk,f3⟩:=z2J r hq f2;cases e:z1v (z2n kvs) with
  | none=>rw[e]at f3;exact f3.elim
  | some ns =>
   rw[e]at f3;dsimp only at f3;split at f3
   ·rename_i l64;have rr:=z2D e (z34 rk);refine⟨q,vs,ns,rfl,w1,rr,l64,λq' hq'=>?_⟩;unfold newL at f3;split at f3
    ·exact FE.lst f3 r (z1A _) hq'
    ·exact f3.elim
   ·exact f3.elim
 ·exact fin.elim
theorem z2b {a:Expr}{p pos:Pos}(hc:X.calm=true) (hg:Gl X "sorted") (hm:X.mg "sorted" = none) (ha:SA X EX [a] mr) (he:K07 [a] X.env=[(false,eval a X.env)]:=by rfl):SE X EX (.Call (.Name "sorted" p) [a] [] pos) (Z5 z0t mr) :=
 z0I (z0P (z38 hc) hg hm (by decide +kernel) ha.h (by decide) (by decide) he rfl) z4l
end
section
variable {X:Cx}{EX:XX}{a:Expr}{elts:List Expr}{kk:Nat}{p pos pt:Pos}{ma:G->M D}
end
mutual
def z0n:D->Bool
 | .int _=>true
 | .str _=>true
 | .bl _=>true
 | .non=>true
 | .tup xs=>z0F xs
 | _=>false
def z0F:List D->Bool
 | []=>true
 | d::r=>z0n d&&z0F r
end
theorem z22 {d:D}:∀{ds:List D},z0F ds=true->d∈ds->z0n d=true
 | [],_,h=>by cases h
 | x::r,p,h=>by
  simp only[z0F,K0b]at p;rcases K1h.mp h with rfl|h
  ·exact p.1
  ·exact z22 p.2 h
section
variable {X:Cx}{pins:List (Addr×Obj)}{σ:L2.St}{H:Hp}{s:Shared}{ρ:List Addr}
mutual
theorem RD.one (I:Inv X pins σ H s):∀{z z':D}{v:V},z0n z=true->z0n z'=true->RD X.K ρ H z v->RD X.K ρ H z' v->z=z'
 | .non,z',v,_,p,h,h'=>by
  simp only[RD]at h;subst h;cases z'<;>simp_all [RD,z0n]
 | .bl b,z',v,_,p,h,h'=>by
  simp only[RD]at h;subst h;cases z'<;>simp_all [RD,z0n]
 | .int i,z',v,_,p,h,h'=>by
  simp only[RD]at h;subst h;cases z'<;>simp_all [RD,z0n]
 | .str x,z',v,_,p,h,h'=>by
  simp only[RD]at h;subst h;cases z'<;>simp_all [RD,z0n]
 | .tup ds,z',v,q,p,h,h'=>by
  simp only[RD]at h;obtain⟨a,xs,rfl,h2,h3⟩:=h;cases z' with
  | tup ds' =>
   simp only[RD]at h';obtain⟨a',xs',e,h5,h6⟩:=h';cases e;have e2:=I.tuple_inj h5 h2;subst e2;simp only[z0n]at q p;rw[RDs.one I q p h3 h6]
  | non=>simp[RD]at h'
  | bl b=>simp[RD]at h'
  | int b=>simp[RD]at h'
  | str b=>simp[RD]at h'
  | fl b=>simp[z0n]at p
  | ref b=>simp[z0n]at p
 | .fl ds,z',v,q,p,h,h'=>by simp[z0n]at q
 | .ref ds,z',v,q,p,h,h'=>by simp[z0n]at q
theorem RDs.one (I:Inv X pins σ H s):∀{ds ds':List D}{xs:List V},z0F ds=true->z0F ds'=true->RDs X.K ρ H ds xs->RDs X.K ρ H ds' xs->ds=ds'
 | [],ds',xs,_,_,h,h'=>by
  simp only[RDs]at h;subst h;cases ds' with
  | nil=>rfl
  | cons d r=>simp[RDs]at h'
 | d::r,ds',xs,q,p,h,h'=>by
  simp only[RDs]at h;obtain⟨x,xr,rfl,h2,h3⟩:=h;cases ds' with
  | nil=>simp[RDs]at h'
  | cons d' r' =>
   simp only[RDs]at h';obtain⟨x',xr',e,h5,h6⟩:=h';cases e;simp only[z0F,K0b]at q p;rw[RD.one I q.1 p.1 h2 h5,RDs.one I q.2 p.2 h3 h6]
end
theorem z68 {w w':V}{y:Value}(h:L2.RelV w y) (h':L2.RelV w' y):w=w':=by
 cases w<;>cases w'<;>simp only[L2.RelV]at h h'<;>first
  | (subst h;cases h';rfl)
  | (obtain⟨t,rfl⟩:=h;obtain⟨t',e⟩:=h';cases e;rfl)
  | (obtain⟨t,rfl⟩:=h;obtain⟨t',e⟩:=h';cases e;done)
  | (obtain⟨t,rfl⟩:=h;cases h';done)
  | (subst h;obtain⟨t',e⟩:=h';cases e;done)
  | (subst h;cases h';done)
open Classical in
theorem zh1 {h:AH}{d:D}{ds:List D}{x:V}{v:Value}{xs:List V}{its:List Value}{b:Bool}(hu:X.A.units+30<cLine) (I:Inv X pins σ H s) (rh:RH X.K ρ h H) (pd:z0F ds=true) (rx:RD X.K ρ H d x) (wx:RelV x v) (rs:RDs X.K ρ H ds xs) (ws:Vals xs its) (e:inZ h d ds=some b) :
 ∃f:Value->Bool,(∀y∈its,K5b X.A.in1 s y v (f y))/\∀(i:Nat) (y:Value) (z:D),its[i]?=some y->ds[i]?=some z->(f y=true↔eqN 24 h z d=some true):=by
 obtain⟨q1,q2⟩:=z2A e;have ex:∀y∈its,∃a z w,z∈ds/\RD X.K ρ H z w/\RelV w y/\eqN 24 h z d=some a:=λy hy=>by
  obtain⟨j,hj⟩:=K3k hy;have lj:=(K4.mp hj).1;have a1:xs[j]?=some (xs[j]'(by rw[ws.length];exact lj)):=K6 _;obtain⟨y',c1,a2⟩:=ws.get a1;rw[hj]at c1;cases c1;obtain⟨z,b1,b2⟩:=rs.getV a1;have zm:=K0r b1;obtain⟨a,c⟩:=q1 z zm;exact⟨a,z,_,zm,b2,a2,c⟩
 have key:∀y∈its,∀a,(∃z w,z∈ds/\RD X.K ρ H z w/\RelV w y/\eqN 24 h z d=some a)->K5b X.A.in1 s y v a:=λy hy a ⟨z,w,zm,r1,r2,c⟩ =>
  (deq I rh 24 (A:=X.A.in1) (show X.A.units+1+24<cLine by omega) r1 rx r2 wx c).1
 refine⟨λy=>decide (∃z w,z∈ds/\RD X.K ρ H z w/\RelV w y/\eqN 24 h z d=some true),λy hy=>?_,λi y z hy hz=>?_⟩
 ·by_cases c:∃z w,z∈ds/\RD X.K ρ H z w/\RelV w y/\eqN 24 h z d=some true
  ·dsimp only;rw[decide_eq_true c];exact key y hy true c
  ·dsimp only;rw[decide_eq_false c];obtain⟨a,z,w,g⟩:=ex y hy;cases a with
   | false=>exact key y hy false ⟨z,w,g⟩
   | true=>exact absurd ⟨z,w,g⟩ c
 ·obtain⟨w,a1,a2⟩:=rs.get hz;obtain⟨y',b1,b2⟩:=ws.get a1;rw[hy]at b1;cases b1;have zm:=K0r hz;rw[decide_eq_true_eq];constructor
  ·rintro⟨z',w',zm',r1,r2,c⟩;rw[z68 r2 b2]at r1;rw[RD.one I (z22 pd zm) (z22 pd zm') a2 r1];exact c
  ·exact λc=>⟨z,w,zm,a2,b2,c⟩
end
section
variable {X:Cx}{EX:XX}{o a:Expr}{apos cpos:Pos}{mo ma:G->M D}
end
abbrev Bl:=List (Nat×List Nat)
def blk (bl:Bl) (k:Nat):List Nat:=((bl.find? λp=>decide (p.1=k)).map (·.2)).getD []
def keyOf (bl:Bl) (x:Nat):Nat:=((bl.find? λp=>decide (x∈p.2)).map (·.1)).getD 0
structure PB (n:Nat) (bl:Bl):Prop where
 hd:∀p∈bl,p.2.head?=some p.1
 rise:∀p∈bl,p.2.Pairwise (·<·)
 cov:∀x,x<n↔∃p∈bl,x∈p.2
 dis:∀p∈bl,∀q∈bl,∀x,x∈p.2->x∈q.2->p=q
 nd:(bl.map (·.1)).Nodup
theorem z8r {l:List Nat}{k:Nat}(h:l.head?=some k):k∈l:=by
 cases l with
 | nil=>cases h
 | cons a l=>simp at h;simp[h]
section
variable {n:Nat}{bl:Bl}
theorem PB.bmem (b:PB n bl) {p:Nat×List Nat}(h:p∈bl):p.1∈p.2:=z8r (b.hd p h)
theorem PB.uniq (b:PB n bl) {p q:Nat×List Nat}(hp:p∈bl) (hq:q∈bl) (e:p.1=q.1):p=q:=b.dis p hp q hq p.1 (b.bmem hp) (by rw[e];exact b.bmem hq)
theorem PB.blk (b:PB n bl) {p:Nat×List Nat}(h:p∈bl):FT.blk bl p.1=p.2:=by
 unfold FT.blk;cases e:bl.find? λq=>decide (q.1=p.1) with
 | none =>
  rw[K5k]at e;exact absurd (by simp) (e p h)
 | some q =>
  have m:=K5s e;have q1:=K91 e;rw[b.uniq m h (by simpa using q1)];rfl
theorem PB.key (b:PB n bl) {p:Nat×List Nat}(h:p∈bl) {x:Nat}(hx:x∈p.2):keyOf bl x=p.1:=by
 unfold keyOf;cases e:bl.find? λq=>decide (x∈q.2) with
 | none =>
  rw[K5k]at e;exact absurd (by simpa using hx) (e p h)
 | some q =>
  have m:=K5s e;have q1:=K91 e;rw[b.dis q m p h x (by simpa using q1) hx];rfl
theorem PB.at_ (b:PB n bl) {x:Nat}(hx:x<n):(keyOf bl x,FT.blk bl (keyOf bl x))∈bl/\x∈FT.blk bl (keyOf bl x):=by
 obtain⟨p,hp,hx⟩:=(b.cov x).mp hx;rw[b.key hp hx,b.blk hp];exact⟨hp,hx⟩
theorem PB.lt (b:PB n bl) {p:Nat×List Nat}(h:p∈bl) {x:Nat}(hx:x∈p.2):x<n:=(b.cov x).mpr ⟨p,h,hx⟩
theorem PB.klt (b:PB n bl) {k:Nat}(h:k∈bl.map (·.1)):k<n:=by
 obtain⟨p,hp,rfl⟩:=K1v.mp h;exact b.lt hp (b.bmem hp)
theorem PB.len (b:PB n bl):bl.length<=n:=by
 have:=b.nd.length_le_of_subset (l₂:=K0u n) λk hk=>K1x.mpr (b.klt hk);simpa using this
def yesL (bl:Bl) (k:Nat) (f:Nat->Bool):List Nat:=(FT.blk bl k).filter f
def noL (bl:Bl) (k:Nat) (f:Nat->Bool):List Nat:=(FT.blk bl k).filter λx=>!f x
structure Cut (bl:Bl) (k:Nat) (f:Nat->Bool):Prop where
 hk:k∈bl.map (·.1)
 hy:yesL bl k f≠[]
 hn:noL bl k f≠[]
end
structure Stb (st:List (List Nat)) (mk:List (List Str)) (E:Nat->Nat->Prop):Prop where
 lt:∀x y,E x y->x<st.length/\y<st.length
 sym:∀x y,E x y->E y x
 marks:∀x y,E x y->mkAt mk x=mkAt mk y
 steps:∀x y,E x y->∀o∈nx st x,∃t∈nx st y,E o t
def kvB (bl:Bl):List (Key×D):=bl.map λp=>(.inl (p.1:Int),.tup (stD p.2))
theorem z7V {a b:Nat}:((.inl (a:Int):Key)=.inl (b:Int))↔a=b:=by
 constructor
 ·intro h;injection h with h;omega
 ·rintro rfl;rfl
theorem lkB {bl:Bl}{k:Nat}(h:k∈bl.map (·.1)):lkD (kvB bl) (.inl (k:Int))=.(g ((stD (blk bl k)))):=by
 unfold lkD kvB blk;rw[List.find?_map];have:((λkv:Key×D=>decide (kv.1=.inl (k:Int))) ∘ λp:Nat×List Nat=>((.inl (p.1:Int):Key),D.tup (stD p.2)))=λp=>decide (p.1=k):=by
  funext p;show decide ((.inl (p.1:Int):Key)=.inl (k:Int))=_;rw[decide_eq_decide];exact z7V
 rw[this];cases e:bl.find? λp=>decide (p.1=k) with
 | none =>
  rw[K5k]at e;obtain⟨p,hp,q⟩:=K1v.mp h;exact absurd (by simpa using q) (e p hp)
 | some q=>rfl
def Dic (h:AH) (b:Nat) (bl:Bl):Prop:=h[b]?=some (.dK (kvB bl))\/h[b]?=some (.dF (kvB bl))
theorem Dic.app {h:AH}{b:Nat}{bl:Bl}(d:Dic h b bl) (j:AH):Dic (h++j) b bl:=d.imp (λe=>z3O e) λe=>z3O e
theorem Dic.lt {h:AH}{b:Nat}{bl:Bl}(d:Dic h b bl):b<h.length:=by rcases d with d|d<;>exact(K4.mp d).1
theorem Dic.get {h:AH}{b:Nat}{bl:Bl}(d:Dic h b bl) {k:Nat}(hk:k∈bl.map (·.1)):z9H (.ref b) (.int (k:Nat)) h=.ok (.tup (stD (blk bl k))) h:=by
 have g:getK b h=.ok (kvB bl) h:=by rcases d with d|d<;>(unfold getK;rw[d])
 unfold z9H;show (getK b >>= _) h=_;rw[M.bind_ok g];show (match lkD (kvB bl) (.inl (k:Int)) with|some d=>pure d|none=>bad) h=_;rw[lkB hk];rfl
theorem Dic.dk {h:AH}{b:Nat}{bl:Bl}(d:Dic h b bl):z28 b h=.ok (kvB bl) h:=by rcases d with d|d<;>(unfold z28;rw[d])
theorem Dic.set {h:AH}{b:Nat}{bl:Bl}(d:Dic h b bl):Dic (h.set b (.dF (kvB bl))) b bl:=.inr (K1k d.lt)
section
variable {cap:List (Option Nat)}{mi mi1:G->M Src}{g g1:D->G->M G}{kb:G->M Bool}{me mv:G->M D}{γ:G}
end
theorem z4O {m:M D}{h:AH}{d:D}(e:m h=.ok d h) (c:k6 0 d=true):cln m h=.ok d h:=z15 (j:=[]) (by rw[e,K2c]) (z1B (K3g h.length) c)
structure CanH (n:Nat) (H:List Nat):Prop where
 len:H.length=n
 le:∀x,x<n->rowAt H x<=x
 fix:∀x,x<n->rowAt H (rowAt H x)=rowAt H x
section
variable {st:List (List Nat)}{mk:List (List Str)}{H:List Nat}
end
inductive Sy where
 | yes
 | mark (s:Str)
 | step (k:Nat)
 | neg (k:Nat)
 | con (a b:Nat)
def Sy.d:Sy->D
 | .yes=>.tup [.str "yes"]
 | .mark s=>.tup [.str "mark",.str s]
 | .step k=>.tup [.str "step",.int k]
 | .neg k=>.tup [.str "not",.int k]
 | .con a b=>.tup [.str "and",.int a,.int b]
def Sy.ok (n:Nat):Sy->Prop
 | .yes=>True
 | .mark s=>z5c s
 | .step k=>k<n
 | .neg k=>k<n
 | .con a b=>a<n/\b<n
abbrev Tru:=List (List Bool)
def tv (T:Tru) (i x:Nat):Bool:=(((T[i]?).getD [])[x]?).getD false
def Sy.f (st:List (List Nat)) (mk:List (List Str)) (T:Tru):Sy->Nat->Bool
 | .yes,_=>true
 | .mark s,x=>decide (s∈mkAt mk x)
 | .step k,x=>(nx st x).any (tv T k)
 | .neg k,x=>!tv T k x
 | .con a b,x=>tv T a x&&tv T b x
def Sy.t (st:List (List Nat)) (mk:List (List Str)) (T:Tru) (r:Sy):List Bool:=(K0u st.length).map (r.f st mk T)
def trus (st:List (List Nat)) (mk:List (List Str)) (R:List Sy):Tru:=R.foldl (λT r=>T++[r.t st mk T]) []
section
variable {st:List (List Nat)}{mk:List (List Str)}{R:List Sy}{r:Sy}{T S:Tru}{i x:Nat}{bl:Bl}
structure Sg (st:List (List Nat)) (mk:List (List Str)) (R:List Sy) (num:Nat->Nat) (bl:Bl):Prop where
 ok:∀(i:Nat) (r:Sy),R[i]?=some r->r.ok i
 lt:∀k∈bl.map (·.1),num k<R.length
 tr:∀k∈bl.map (·.1),∀x,x<st.length->tv (trus st mk R) (num k) x=decide (keyOf bl x=k)
end
section
variable {X:Cx}{EX:XX}{o a:Expr}{apos cpos:Pos}{mo ma:G->M D}
end
end FT
namespace L2
section
variable {P:K0a}{w:World}{A:Around}{E:Value->Shared->Prop}{s:Shared}
end
section
variable {P:K0a}{w:World}{A:Around}{R:Result->Shared->Prop}{I:Addr}{fp wr:List Addr}{G:Array K4w->Array K4w->Prop}{n:Nat}{PV:Nat->Value->Prop}{St:Nat->Shared->Prop}{KK:Type} [DecidableEq KK] {knd:KeyKind P w KK}
end
section
variable {P:K0a}{w:World}{A:Around}{E:Value->Shared->Prop}{s:Shared}{KK:Type} [DecidableEq KK] {knd:KeyKind P w KK}
end
open PySem PySem.Spec PyProof.Rows FT
section
variable {X:Cx}
end
end L2
namespace FT
section
variable {X:Cx}{EX:XX}{a:Expr}{p pos:Pos}{mr:G->M (List D)}
end
abbrev Mx (K:K0) (mg:Str->Option Value) (x:Str):Prop:=∀v,K2f K K1a x=some (some v)->mg x=some v
abbrev Bnd (st:Stmt) (x:Str) (ps:List Str):Prop:=∀(kV doc pm:Value) (an:Option Addr) (cdv ct:Value) (us:List Value),us.length=ps.length->K8i (K1w x x (z0h st) (J4 st) (Z3 st) .none kV doc pm an cdv ct) ⟨us,[]⟩=pure (ps.zip us)
def scB (N P:List Str) (sc:Scope):Bool:=sc.kind==.function&&!sc.isCoroutine&&!sc.isGenerator&&decide N.Nodup&&decide (P.length<=N.length)&&P.all (λx=>sc.names.lookup x==some .local||sc.names.lookup x==some .cell)&&sc.names.all λy=>y.2 != .free
theorem z8g {N:List Str}{n:Nat}{sc:Scope}(h:scB N (N.take n) sc=true):FnScope N (N.take n) sc:=by
 unfold scB at h;simp only[K0b,K2r,decide_eq_true_eq]at h;obtain⟨⟨⟨⟨⟨⟨h1,h2⟩,h3⟩,h4⟩,h5⟩,h6⟩,h7⟩:=h;refine⟨by simpa using h1,h2,h3,h4,by simp,λx hx=>?_,λy hy=>?_⟩
 ·have:=K1e.mp h6 x hx;rw[K24]at this;rcases this with z|z
  ·exact .inl (by simpa using z)
  ·exact .inr (by simpa using z)
 ·have:=K1e.mp h7 y hy;simpa using this
section
variable {P:K0a}{w:World}{K:K0}{mg:Str->Option Value}{base:Heap}{x:Str}{st:Stmt}{k n:Nat}
theorem dfN (N:List Str) (mb:G->M Out) (T:DefAt K x st) (mx:Mx K mg x) (hs:scB N (N.take n) (Z3 st)=true) (hn:(N.take n).length=n) (hb:Bnd st x (N.take n))
 (body:∀{f:Addr} {cdv:Value} {A:Around} {outer:List Env} {s:Shared} {H:Hp} {E:XK},K29 K cdv x=true->Room k (A.deeper (envOfC x (Z3 st) s.heap.objs.size f cdv))->N.Nodup ->
  SB (cxOf CX0 P w K mg base N x (Z3 st) f cdv A outer s H E).nox EX0 (J4 st) mb):Fn P w K mg base (k+1) x n (runF N.length mb):=by
 obtain⟨f,fd,hf,F⟩:=T;exact z98 F (z8g hs) (F.binds hb) (mx _ hf) hn λ_ _ _ _ _ _ hcd hr=>body hcd hr (z8g hs).nd
theorem dfC (N:List Str) (mb:G->M Out) (T:DefAt K x st) (mx:Mx K mg x) (hs:scB N (N.take n) (Z3 st)=true) (hn:(N.take n).length=n) (hb:Bnd st x (N.take n))
 (body:∀{f:Addr} {cdv:Value} {A:Around} {outer:List Env} {s:Shared} {H:Hp} {E:XK},K29 K cdv x=true->Room k (A.deeper (envOfC x (Z3 st) s.heap.objs.size f cdv))->N.Nodup ->
  SB (cxOf CX0 P w K mg base N x (Z3 st) f cdv A outer s H E).nox EX0 (J4 st) mb):Fn P w K mg base (k+1) x n λds=>cln (runF N.length mb ds):=Fn.cln (dfN N mb T mx hs hn hb body)
end
end FT
namespace L2
section
variable {X:Cx}{o:Expr}{f:Str}{pos:Pos}{to:TE}
end
section
variable {X:Cx}{CX:CXT}{k:Nat}{f C:Addr}{fd:K1l}{ps:List Str}{sp:Sp}{E:XK}{x:Str}{p pos:Pos}{e:Expr}{es:List Expr}{t:TA}{EE:Value->Shared->Prop}{Q:VK}{pins:List (Addr×Obj)}{σ:St}{H:Hp}{s:Shared}
end
section
variable {X:Cx}{k:Nat}{f C Ch:Addr}{fd:K1l}{ps:List Str}{sp:Sp}{x cn n:Str}{i:Nat}{p pos pos1 pos2 np hpos:Pos}{e:Expr}{es:List Expr}{t:TA}{bmH:List Value}{b₀:Stmt}{suite:List Stmt}{ts:TS}
end
end L2
namespace FT
structure OwC (K:K0) (c:Str) (C:Addr):Prop where
 ns:K2f K K1a c=some (.(r C))
 cl:Cls K C
section
variable {K:K0}{ρ:List Addr}{H:Hp}
theorem RK.look {f:Str}:∀{fs:List (Str×D)}{vs:List (Str×V)},RK K ρ H fs vs->(∀d,fs.lookup f=some d->∃v,vs.lookup f=some v/\RD K ρ H d v)/\(fs.lookup f=none->vs.lookup f=none)
 | _,_,.nil=>⟨λd e=>(by cases e),λ_=>rfl⟩
 | _,_,.cons (a:=p) (b:=q) a b=>by
  obtain⟨k,d⟩:=p;obtain⟨k',v⟩:=q;obtain⟨a1,a2⟩:=a;simp only at a1 a2;subst a1;rw[K1i,K1i];cases e:f==k with
  | true=>exact⟨λd' z=>by cases z;exact⟨v,rfl,a2⟩,λz=>by cases z⟩
  | false=>exact RK.look b
theorem RK.lenS {κ:Type}:∀{fs:List (κ×D)}{vs:List (κ×V)},RK K ρ H fs vs->fs.length=vs.length
 | _,_,.nil=>rfl
 | _,_,.cons _ b=>by rw[K01,K01,RK.lenS b]
end
section
variable {X:Cx}{EX:XX}{c f m:Str}{C:Addr}{e o:Expr}{es:List Expr}{pos p:Pos}{me mo:G->M D}{mr:G->M (List D)}
theorem z9h {K:K0}{ρ:List Addr}{h:AH}{H:Hp}{n:Nat}{v:V}{fs:List (Str×D)}(T:OwC K c C) (r:RH K ρ h H) (e:h[n]?=some (.ins c fs)) (rv:RD K ρ H (.ref n) v):∃a dx vs,v=.ref a/\ρ[n]?=some a/\H a=some (.ins C dx vs)/\RK K ρ H fs vs:=by
 simp only[RD]at rv;obtain⟨a,rfl,hq⟩:=rv;obtain⟨a1,n1,C1,dx,vs,k1,o1,d1⟩:=r.at e;rw[hq]at n1;cases n1;rw[T.ns]at k1;cases k1;exact⟨a,dx,vs,rfl,hq,o1,d1⟩
end
structure InX (P:K0a) (w:World) (K:K0) (mg:Str->Option Value) (base:Heap) (k:Nat) (c:Str) (n:Nat) (mf:List D->M D):Prop where
 ex:∃C f fd ps,mg c=.(r C)/\OwC K c C/\Mk K C f/\FnOk P w K mg base (CXE P w base) k f fd ps (spX K mf (n+1))/\Binds K fd ps []
section
variable {X:Cx}{EX:XX}{c cn y:Str}{k n i:Nat}{Ch:Addr}{bmH:List Value}{ok:Str->Bool}{ms:G->M Out}{e:Expr}{es:List Expr}{b₀:Stmt}{suite:List Stmt}{pos p pos1 pos2 np hpos:Pos}{mr:G->M (List D)}{mf:List D->M D}
theorem z7M {K:K0}{ρ:List Addr}{h:AH}{H:Hp}{C a dx:Addr}{xs:List D}{vs:List V}(T:OwC K c C) (r:RH K ρ h H) (rvs:RDs K ρ H xs vs) (ha:H a=none) (hd:H dx=none) (ne:dx≠a) :
 let H':=upd (upd H dx (.own a)) a (.ins C dx []);
 Ext K H H'/\RH K (ρ++[a]) (h++[.ins c []]) H'/\RDs K (ρ++[a]) H' (.ref h.length::xs) (.ref a::vs):=by
 intro H';have ha2:(upd H dx (.own a)) a=none:=by rw[Z7 (K55 ne)];exact ha
 have x1:Ext K H (upd H dx (.own a)):=Ext.upd (.inl hd);have x2:Ext K (upd H dx (.own a)) H':=Ext.upd (.inl ha2);have r2:RH K (ρ++[a]) (h++[.ins c []]) H':=(r.other hd).pushO ha2 ⟨C,dx,[],T.ns,J6,.nil⟩;refine⟨x1.trans x2,r2,RDs.cons ?_ (rvs.mono (Pre.app _ _) (x1.trans x2))⟩;simp only[RD];exact⟨a,rfl,by rw[<- r.len];simp⟩
end
structure Mt (P:K0a) (w:World) (K:K0) (mg:Str->Option Value) (base:Heap) (k:Nat) (c m:Str) (n:Nat) (mf:List D->M D):Prop where
 ex:∃C f fd ps,OwC K c C/\Meth K C m f/\FnOk P w K mg base CX0 k f fd ps (spB K mf (n+1))/\Binds K fd ps []
def chkI (c m:Str) (d:D):M Unit:=λh=>match d with
 | .ref i=>(match h[i]? with
  | some (.ins c' fs)=>if c'=c/\fs.lookup m=none then .ok () h else .bad
  | _=>.bad)
 | _=>.bad
def eMt (c m:Str) (n:Nat) (mf:List D->M D) (mo:G->M D) (mr:G->M (List D)):G->M D:=λγ=>do
 let d <- mo γ
 chkI c m d
 let xs <- mr γ
 if xs.length=n then mf (d::xs) else bad
section
variable {X:Cx}{c m:Str}{k n:Nat}{e o:Expr}{es:List Expr}{pos apos:Pos}{mo:G->M D}{mr:G->M (List D)}{mf:List D->M D}
theorem zb2 {pl:Sem Bool}(F:Mt X.prog X.w X.K X.mg X.base k c m n mf) (hr:Room k X.A) (ho:SE X EX0 o mo) (ha:SA X EX0 (e::es) mr)
 (hst:K07 (e::es) X.env=(false,eval e X.env)::K07 es X.env:=by rfl) (hpl:(backTo pos (K07 es X.env)).any (·.1)=false:=by rfl)
 (ht:eval (.Call (.Attribute o m apos) (e::es) [] pos) X.env=(do
  let ov <- eval o X.env
  K4k apos.atName
  let (f,first) <- K31 [ov] (K8s ov m pl)
  callWith pos f first (backTo pos (K07 (e::es) X.env)) (K5j pos (K3i [] X.env))):=by rfl):SE X EX0 (.Call (.Attribute o m apos) (e::es) [] pos) (eMt c m n mf mo mr):=by
 constructor;obtain⟨C,f,fd,ps,T,hm,F1,hb⟩:=F.ex;refine PE.imp (z7F ho.h T.cl hm F1 hr hb .nil zb7 ha.h hst hpl ht) λσ H Q ⟨ρ,γ,h,rel,fin⟩=>⟨ρ,γ,h,rel,(Fin.bind fin).mono λd ρ1 h1 H1 p1 e1 r1 f1 v rv=>?_⟩;have f2:=Fin.bind f1;unfold chkI at f2;cases d<;>first|exact(show False from f2).elim|skip
 rename_i i;dsimp only at f2;split at f2
 ·rename_i c' fs eh;split at f2
  ·rename_i ec;obtain⟨ec,hn⟩:=ec;subst ec;obtain⟨a,dx,vs',rfl,hq,o1,d1⟩:=z9h T r1 eh rv;refine⟨a,dx,vs',rfl,o1,d1.look.2 hn,ρ1,γ,h1,⟨rel.g.mono p1 e1,r1⟩,(Fin.bind (f2 ρ1 H1 (Pre.refl _) (Ext.refl _ _) r1)).mono λxs ρ2 h2 H2 p2 e2 r2 f3 vs rvs=>?_⟩;show spB X.K mf (n+1) (_::(vs++[])) H2 Q E0;rw[K2c];by_cases hl:xs.length=n
   ·rw[if_pos hl]at f3;exact⟨by rw[K01,<- rvs.length,hl],ρ2,_,h2,r2,RDs.cons (rv.mono p2 e2) rvs,f3⟩
   ·rw[if_neg hl]at f3;exact(show False from f3).elim
  ·exact f2.elim
 ·exact f2.elim
end
def DefM (K:K0) (C:Addr) (m q:Str) (st:Stmt):Prop:=∃f fd,K13 K (.ref C) m=some (.(r f))/\K51 K (.ref f)=true/\Fun K m q st f fd
theorem defM_mk {K:K0}{C:Addr}{m q:Str}{st:Stmt}{f:Addr}{oc:Value}{od an:Option Addr}{sl:Array (Option Value)}{kV dc pm cd ct:Value}(a:K13 K (.ref C) m=some (.(r f))) (i:K51 K (.ref f)=true)
 (l:K.lookup f=some ⟨oc,od,.func (K1w m q (z0h st) (J4 st) (Z3 st) .none kV dc pm an cd ct),sl⟩) (c:K29 K cd q=true) (k:K10 K (.ref f)=true):DefM K C m q st :=
 ⟨f,_,a,i,z78 l c k⟩
theorem ki_mk {K:K0}{c:Str}{C:Addr}(a:K2f K K1a c=some (.(r C))) (pg:K4o K C Str.empty=true) (hd:K8f K C=true) (po:K8e K C=true) (sa:K13 K (.ref C) "__setattr__" = some (some (.builtin "object.__setattr__"))):OwC K c C:=⟨a,⟨pg,hd,po,sa⟩⟩
abbrev BndM (st:Stmt) (m q:Str) (ps:List Str):Prop:=∀(kV doc pm:Value) (an:Option Addr) (cdv ct:Value) (us:List Value),us.length=ps.length->K8i (K1w m q (z0h st) (J4 st) (Z3 st) .none kV doc pm an cdv ct) ⟨us,[]⟩=pure (ps.zip us)
section
variable {P:K0a}{w:World}{K:K0}{mg:Str->Option Value}{base:Heap}{c m q:Str}{C:Addr}{st:Stmt}{k n:Nat}
theorem dfM (N:List Str) (mb:G->M Out) (TI:OwC K c C) (T:DefM K C m q st) (hs:scB N (N.take (n+1)) (Z3 st)=true) (hn:(N.take (n+1)).length=n+1) (hb:BndM st m q (N.take (n+1)))
 (body:∀{f:Addr} {cdv:Value} {A:Around} {outer:List Env} {s:Shared} {H:Hp} {E:XK},K29 K cdv q=true->Room k (A.deeper (envOfC q (Z3 st) s.heap.objs.size f cdv))->N.Nodup ->
  SB (cxOf CX0 P w K mg base N q (Z3 st) f cdv A outer s H E).nox EX0 (J4 st) mb):Mt P w K mg base (k+1) c m n λds=>cln (runF N.length mb ds):=by
 obtain⟨f,fd,hf,hi,F⟩:=T;have S:=z8g hs;refine⟨C,f,fd,N.take (n+1),TI,⟨hf,hi,F.kp⟩,FnOk.imp (sp:=spB K (runF N.length mb) (n+1)) ?_ λvs H Q E ⟨hl,ρ,ds,h,rh,rd,fin⟩=>⟨hl,ρ,ds,h,rh,rd,FE.cln rh fin⟩,F.binds hb⟩;obtain⟨oc,od,kV,doc,pm,an,cdv,ct,osl,rfl,lk,hcd⟩:=F.ex;refine z7N lk hcd S (λvs H Q E h=>h.1.trans hn.symm) λA outer s H vs Q E hr h=>?_;obtain⟨hl,ρ,ds,h,rh,rd,fin⟩:=h;refine⟨_,(body hcd hr S.nd).h.nox,ρ,z07 N.length ds,h,⟨z1X rd,rh⟩,?_⟩;refine(Fin.bind fin).mono λo ρ1 h1 H1 p1 e1 r1 f1=>?_;cases o with
 | nx γ=>exact λσ _=>FE.here (d:=.non) (h:=h1) f1 r1 (by simp[RD])
 | rt d=>exact λv rv=>f1 ρ1 H1 (Pre.refl _) (Ext.refl _ _) r1 v rv
 | bk γ=>exact(show False from f1).elim
 | ct γ=>exact(show False from f1).elim
end
end FT
namespace L2
section
variable {X:Cx}{C:Addr}{x:Str}{p pos:Pos}
theorem z81 (mk:K2n X.K C=true) (hi:K13 X.K (.ref C) "__init__" = some (some (.builtin "object.__init__"))) (hk:K10 X.K (.ref C)=true) (hg:Gl X x) (hm:X.mg x=.(r C)) (hdb:(x==("__debug__":Str))=false:=by decide) :
 PE X (.Call (.Name x p) [] [] pos) (λ_ H Q=>∀y dx,H y=none->H dx=none->dx≠y->Q (.ref y) (upd (upd H dx (.own y)) y (.ins C dx []))):=by
 intro pins s σ H Q I h;refine K41 (z4D I hg hm ?_ hdb);refine PySem.W.callWith_K0 I.kIn hk ?_;have Y:=K8q (M:=model X.prog X.w) I.kIn mk;have I2:=Inv.made (C:=C) I;have hx:((s.heap.push K0z).push (K16 C s.heap.objs.size)).get? (s.heap.objs.size+1)=some (K16 C s.heap.objs.size):=by
  have:=K0l (s.heap.push K0z) (o:=K16 C s.heap.objs.size) rfl;rwa [K4e]at this
 have t1:K7v (model X.prog X.w) ((s.heap.push K0z).push (K16 C s.heap.objs.size)) (typeOf (.ref (s.heap.objs.size+1))) (.ref C):=(K7v.ld hx).andThen .now;have t2:K7v (model X.prog X.w) ((s.heap.push K0z).push (K16 C s.heap.objs.size)) (isInstance (.ref (s.heap.objs.size+1)) (.type "object")) true:=t1.andThen (Y.top.keeps λb o e=>K8 _ (K8 _ e));refine wpAny_call (z5J I.kIn mk hi (λself=>K7v.of_pure (PySem.W.oi_bind self)) ?_);refine codeAny_call_builtin PySem.W.oi_plain PySem.W.entry_oi (@PySem.W.check_slot (model X.prog X.w) _ _ _ "object.__init__" "object" "__init__" (.ref (s.heap.objs.size+1)) [] [] _ PySem.W.oi_kind PySem.W.oi_split t2 (PySem.W.oi_args (.ref (s.heap.objs.size+1))) ?_);rw[PySem.W.oi_run];exact K04 (K7l rfl ⟨V.ref (s.heap.objs.size+1),_,I2,rfl,h _ _ (I.hok.fresh (K5w _)) (I.hok.fresh (K08 _)) (K0q (K6b _))⟩)
theorem z5u:CallR X (.builtin "len") (λxs H Q=>∃a vs,xs=[.ref a]/\(H a=some (.dK vs)\/∃ob,H a=some (.frz ob (.dK vs)))/\Q (.int vs.length) H):=by
 intro pins s σ H xs us Q I r ⟨a,vs,ex,ea,q⟩;subst ex;obtain⟨u,rfl,ru⟩:=r.one;obtain rfl:u=K1j a:=ru;exact zi2 I ea λt s' I2=>⟨.int vs.length,H,I2,⟨_,rfl⟩,q⟩
end
end L2
namespace FT
structure InO (K:K0) (mg:Str->Option Value) (c:Str):Prop where
 ex:∃C,mg c=.(r C)/\OwC K c C/\K2n K C=true/\K13 K (.ref C) "__init__" = some (some (.builtin "object.__init__"))/\K10 K (.ref C)=true
def z2s (c:Str):G->M D:=λ_ h=>.ok (.ref h.length) (h++[.ins c []])
def z3m:List D->M D
 | [.ref n]=>do
  let kvs <- z28 n
  pure (.int kvs.length)
 | _=>bad
section
variable {X:Cx}{EX:XX}{c:Str}{a:Expr}{mr:G->M (List D)}{p pos:Pos}
theorem z5f (F:InO X.K X.mg c) (hg:Gl X c) (hdb:(c==("__debug__":Str))=false:=by decide):SE X EX (.Call (.Name c p) [] [] pos) (z2s c):=by
 constructor;obtain⟨C,hm,T,mk,hi,hk⟩:=F.ex;refine PE.imp (z81 mk hi hk hg hm hdb) λσ H Q ⟨ρ,γ,h,rel,fin⟩ y dx ny nd ne=>?_;obtain⟨x,r2,rd2⟩:=z7M (xs:=[]) (vs:=[]) T rel.h RDs.nil ny nd ne;have fin:Fin X.K EX ρ H _ (Res.ok (D.ref h.length) (h++[O.ins c []])):=fin;exact fin _ _ (Pre.app _ _) x r2 _ (by
  simp only[RD];exact⟨y,rfl,by rw[<- rel.h.len];simp⟩)
theorem z7x:AR X.K EX (λxs H Q=>∃a vs,xs=[.ref a]/\(H a=some (.dK vs)\/∃ob,H a=some (.frz ob (.dK vs)))/\Q (.int vs.length) H) z3m:=by
 intro ρ h H ds vs Q r rd fin;unfold z3m at fin;split at fin
 ·rename_i n;obtain⟨v,rfl,rv⟩:=rds1 rd;simp only[RD]at rv;obtain⟨q,rfl,hq⟩:=rv;obtain⟨kvs,vs,hh,rk,f2⟩:=z2J r hq (Fin.bind fin);refine⟨q,vs,rfl,hh,FE.here f2 r (by simp only[RD];rw[rk.lenS])⟩
 ·exact fin.elim
theorem z59 (hg:Gl X "len") (hm:X.mg "len" = none) (ha:SA X EX [a] mr) (he:K07 [a] X.env=[(false,eval a X.env)]:=by rfl):SE X EX (.Call (.Name "len" p) [a] [] pos) (Z5 z3m mr) :=
 z0I (z0P z5u hg hm (by decide +kernel) ha.h (by decide) (by decide) he (by rfl)) z7x
end
theorem inO_mk {K:K0}{mg:Str->Option Value}{c:Str}{C:Addr}(a:mg c=.(r C)) (T:OwC K c C) (b:K2n K C=true) (d:K13 K (.ref C) "__init__" = some (some (.builtin "object.__init__"))) (e:K10 K (.ref C)=true):InO K mg c:=⟨C,a,T,b,d,e⟩
variable {P:K0a}{w:World}{K:K0}{mg:Str->Option Value}{base:Heap}
def top (i:Nat):Stmt:=PySem.Challenge.pw_fairtrees_k28_whole_until_both_ways.main.body.getD i (.Pass ⟨0,0,0,0⟩)
noncomputable def z0w:G->M Out :=
 (z6 (z3b 1 [none] (z1E (eVar 0)) (gN 0) (λγ=>do let d <- e2 fGe (eVar 0) (e2 fPow (λ_=>pure (.int 10)) (λ_=>pure (.int 18))) γ;asB d) (eVar 0)) (z6 (sRet (eLst (z5 (eVar 1) (z5 (z01 [none] (z1E (eVar 0)) (gN 0) (λγ=>do let d <- e2 fLt (eVar 0) (e2 fPow (λ_=>pure (.int 10)) (λ_=>pure (.int 18))) γ;asB d) (eVar 0)) (z5 (λ_=>pure (.int 5)) (z5 (λ_=>pure (.int 0)) aNil)))))) bNil))
noncomputable def z0s:List D->M D:=runF 2 z0w
theorem ok__law_pool (T:DefAt K "_law_pool" (top 33)) (mx:Mx K mg "_law_pool"):Fn P w K mg base 1 "_law_pool" 1 z0s :=
 dfN ["_law_script","_law_great"] z0w T mx (by decide +kernel) rfl (λ_ _ _ _ _ _ us hl=>(by obtain⟨_,rfl⟩:=ar1 hl;rfl)) λhcd hr nd =>
  (z4 (z7l 1 (N':=["_law_cell"]) (cap:=[none]) rfl (z1b (by first|rfl|kernel_rfl!)) (z2r (z0 0)) (λ_ _ _ _=>(J8 0 (show (["_law_cell"]:List Str).Nodup by decide +kernel))) (λ_ _ _ _=>(z0X (sc_c zb6 (z0 0) (z4E z7 z7)))) (λ_ _ _ _=>(z0 0)) nd) (z4 (z08 (z0m (z3 (z0 1) (z3 (z0G (N':=["_law_cell"]) (cap:=[none]) rfl (z1b (by first|rfl|kernel_rfl!)) (z2r (z0 0)) (λ_ _ _ _=>(J8 0 (show (["_law_cell"]:List Str).Nodup by decide +kernel))) (λ_ _ _ _=>(z0X (sc_c za0 (z0 0) (z4E z7 z7)))) (λ_ _ _ _=>(z0 0))) (z3 z7 (z3 z7 z9)))))) Z1))
noncomputable def z04:G->M Out :=
 (z6 (sIf (λγ=>do let d <- e2 fGt (Z5 fLen (z5 (e2 fIx (eVar 0) (λ_=>pure (.int 0))) aNil)) (λ_=>pure (.int 0)) γ;asB d) (z6 (sAsg (e2 fIx (e2 fIx (eVar 0) (λ_=>pure (.int 0))) (λ_=>pure (.int 0))) (gN 2)) (z6 (sAsg (e2 fDiv (eVar 2) (eVar 1)) (gIx (e2 fIx (eVar 0) (λ_=>pure (.int 0))) (λ_=>pure (.int 0)))) (z6 (sIf (λγ=>do let d <- e2 (fEq false) (e2 fDiv (eVar 2) (eVar 1)) (λ_=>pure (.int 0)) γ;asB d) (z6 (z0z (eM1 z2g (e2 fIx (eVar 0) (λ_=>pure (.int 0))) (λ_=>pure (.int 0)))) bNil) bNil) (z6 (sRet (e2 fMod (eVar 2) (eVar 1))) bNil)))) bNil) (z6 (sAsg (e2 fAdd (e2 fIx (eVar 0) (λ_=>pure (.int 3))) (λ_=>pure (.int 1))) (gIx (eVar 0) (λ_=>pure (.int 3)))) (z6 (sAsg (λ_=>pure (.int 0)) (gN 2)) (z6 (sIf (λγ=>do let d <- e2 fGt (Z5 fLen (z5 (e2 fIx (eVar 0) (λ_=>pure (.int 1))) aNil)) (λ_=>pure (.int 0)) γ;asB d) (z6 (sAsg (e2 fIx (e2 fIx (eVar 0) (λ_=>pure (.int 1))) (e2 fMod (e2 fIx (eVar 0) (λ_=>pure (.int 3))) (Z5 fLen (z5 (e2 fIx (eVar 0) (λ_=>pure (.int 1))) aNil)))) (gN 2)) bNil) bNil) (z6 (sAsg (e2 z1k (e2 fMod (eVar 2) (λ_=>pure (.int 2147483629))) (e2 fAdd (e2 z1k (e2 fIx (eVar 0) (λ_=>pure (.int 3))) (e2 fIx (eVar 0) (λ_=>pure (.int 3)))) (λ_=>pure (.int 1)))) (gN 2)) (z6 (sAsg (e2 fMod (e2 fAdd (e2 fAdd (e2 z1k (e2 fIx (eVar 0) (λ_=>pure (.int 2))) (λ_=>pure (.int 48271))) (eVar 2)) (e2 z1k (λ_=>pure (.int 97)) (e2 fIx (eVar 0) (λ_=>pure (.int 3))))) (λ_=>pure (.int 2147483647))) (gIx (eVar 0) (λ_=>pure (.int 2)))) (z6 (sRet (e2 fMod (e2 fDiv (e2 fMod (e2 fPow (e2 fIx (eVar 0) (λ_=>pure (.int 2))) (λ_=>pure (.int 5))) (λ_=>pure (.int 2147483629))) (λ_=>pure (.int 64))) (eVar 1))) bNil)))))))
noncomputable def z8:List D->M D:=runF 3 z04
theorem ok__law_draw (T:DefAt K "_law_draw" (top 34)) (mx:Mx K mg "_law_draw") (F00:mg "len" = none):Fn P w K mg base 1 "_law_draw" 2 z8 :=
 dfN ["_law_pool_here","_law_many","_law_cell"] z04 T mx (by decide +kernel) rfl (λ_ _ _ _ _ _ us hl=>(by obtain⟨_,_,rfl⟩:=ar2 hl;rfl)) λhcd hr nd =>
  (z4 (s_if (sc_c z4v (z0S rfl F00 (z3 (y6 (z0 0) z7) z9)) z7) (z4 (j3 2 nd (y6 (y6 (z0 0) z7) z7)) (z4 (z4P (z3E (z0 2) (z0 1)) (z7W (y6 (z0 0) z7) z7)) (z4 (s_if (sc_c z4s (z3E (z0 2) (z0 1)) z7) (z4 (z1P (z6W (y6 (z0 0) z7) z7)) Z1) Z1) (z4 (z08 (z1t (z0 2) (z0 1))) Z1)))) Z1) (z4 (z4P (z0H (y6 (z0 0) z7) z7) (z7W (z0 0) z7)) (z4 (j3 2 nd z7) (z4 (s_if (sc_c z4v (z0S rfl F00 (z3 (y6 (z0 0) z7) z9)) z7) (z4 (j3 2 nd (y6 (y6 (z0 0) z7) (z1t (y6 (z0 0) z7) (z0S rfl F00 (z3 (y6 (z0 0) z7) z9))))) Z1) Z1) (z4 (j3 2 nd (z20 (z1t (z0 2) z7) (z0H (z20 (y6 (z0 0) z7) (y6 (z0 0) z7)) z7))) (z4 (z4P (z1t (z0H (z0H (z20 (y6 (z0 0) z7) z7) (z0 2)) (z20 z7 (y6 (z0 0) z7))) z7) (z7W (z0 0) z7)) (z4 (z08 (z1t (z3E (z1t (z4E (y6 (z0 0) z7) z7) z7) z7) (z0 1))) Z1)))))))
noncomputable def j8:G->M Out :=
 (z6 (sAsg (e2 fAdd (λ_=>pure (.int 1)) (eFn 2 z8 (z5 (eVar 0) (z5 (λ_=>pure (.int 40)) aNil)))) (gN 2)) (z6 (sIf (λγ=>do let d <- e2 (fEq false) (eFn 2 z8 (z5 (eVar 0) (z5 (λ_=>pure (.int 4)) aNil))) (λ_=>pure (.int 0)) γ;asB d) (z6 (sAsg (λ_=>pure (.int 40)) (gN 2)) bNil) bNil) (z6 (sAsg (eFn 2 z8 (z5 (eVar 0) (z5 (λ_=>pure (.int 3)) aNil))) (gN 3)) (z6 (sAsg (eLst aNil) (gN 4)) (z6 (sAsg (eLst aNil) (gN 5)) (z6 (sFor (w6 (eVar 2)) (gN 6) (z6 (sAsg (eLst (z5 (eFn 2 z8 (z5 (eVar 0) (z5 (λ_=>pure (.int 1048576)) aNil))) (z5 (eFn 2 z8 (z5 (eVar 0) (z5 (λ_=>pure (.int 1048576)) aNil))) aNil))) (gN 7)) (z6 (sIf (λγ=>do let d <- e2 fGt (eVar 3) (λ_=>pure (.int 0)) γ;asB d) (z6 (sAsg (eLst (z5 (e2 fAnd (e2 fIx (eVar 7) (λ_=>pure (.int 0))) (eFn 2 z8 (z5 (eVar 0) (z5 (λ_=>pure (.int 1048576)) aNil)))) (z5 (e2 fAnd (e2 fIx (eVar 7) (λ_=>pure (.int 1))) (eFn 2 z8 (z5 (eVar 0) (z5 (λ_=>pure (.int 1048576)) aNil)))) aNil))) (gN 7)) bNil) bNil) (z6 (z0z (eM1 Z9 (eVar 4) (clE (Z5 k9 (z5 (z01 [some 7,none] (w6 (eVar 2)) (gN 1) (λγ=>do let d <- e2 (fEq false) (e2 fAnd (e2 fShr (e2 fIx (eVar 0) (e2 fDiv (eVar 1) (λ_=>pure (.int 20)))) (e2 fMod (eVar 1) (λ_=>pure (.int 20)))) (λ_=>pure (.int 1))) (λ_=>pure (.int 1)) γ;asB d) (eVar 1)) aNil))))) (z6 (sAsg (eFn 2 z8 (z5 (eVar 0) (z5 (λ_=>pure (.int 256)) aNil))) (gN 8)) (z6 (z0z (eM1 Z9 (eVar 5) (clE (Z5 k9 (z5 (Z5 x8 (z5 (z01 [some 1,some 8,none] (w6 (Z5 fLen (z5 (eVar 1) aNil))) (gN 2) (λγ=>do let d <- e2 (fEq false) (e2 fAnd (e2 fShr (eVar 1) (eVar 2)) (λ_=>pure (.int 1))) (λ_=>pure (.int 1)) γ;asB d) (e2 fIx (eVar 0) (eVar 2))) aNil)) aNil))))) bNil)))))) (z6 (sRet (eTup (z5 (Z5 k9 (z5 (eVar 4) aNil)) (z5 (Z5 k9 (z5 (eVar 5) aNil)) aNil)))) bNil)))))))
noncomputable def j9:List D->M D:=λds=>cln (runF 9 j8 ds)
theorem ok__law_great_machine (T:DefAt K "_law_great_machine" (top 37)) (mx:Mx K mg "_law_great_machine") (F00:mg "len" = none) (F01:mg "range" = none) (F04:mg "sorted" = none) (F03:mg "tuple" = none) (F02:Fn P w K mg base 1 "_law_draw" 2 z8):Fn P w K mg base 2 "_law_great_machine" 2 j9 :=
 dfC ["_law_pool_here","_law_names_here","_law_many","_law_dense","_law_steps","_law_marks","_law_k","_law_bits","_law_worn"] j8 T mx (by decide +kernel) rfl (λ_ _ _ _ _ _ us hl=>(by obtain⟨_,_,rfl⟩:=ar2 hl;rfl)) λhcd hr nd =>
  (z4 (j3 2 nd (z0H z7 (Z4 F02 (hr.mono (by decide)) rfl (z3 (z0 0) (z3 z7 z9))))) (z4 (s_if (sc_c z4s (Z4 F02 (hr.mono (by decide)) rfl (z3 (z0 0) (z3 z7 z9))) z7) (z4 (j3 2 nd z7) Z1) Z1) (z4 (j3 3 nd (Z4 F02 (hr.mono (by decide)) rfl (z3 (z0 0) (z3 z7 z9)))) (z4 (j3 4 nd (z0m z9)) (z4 (j3 5 nd (z0m z9)) (z4 (z1c K0y rfl (J9 rfl F01 (z0 2)) (Y3 6 nd) (z4 (j3 7 nd (z0m (z3 (Z4 F02 (hr.mono (by decide)) rfl (z3 (z0 0) (z3 z7 z9))) (z3 (Z4 F02 (hr.mono (by decide)) rfl (z3 (z0 0) (z3 z7 z9))) z9)))) (z4 (s_if (sc_c z4v (z0 3) z7) (z4 (j3 7 nd (z0m (z3 (z46 (y6 (z0 7) z7) (Z4 F02 (hr.mono (by decide)) rfl (z3 (z0 0) (z3 z7 z9)))) (z3 (z46 (y6 (z0 7) z7) (Z4 F02 (hr.mono (by decide)) rfl (z3 (z0 0) (z3 z7 z9)))) z9)))) Z1) Z1) (z4 (z1P (z0j (z0 4) (z14 (Y8 rfl F03 (z3 (z0G (N':=["_law_bits","_law_to"]) (cap:=[some 7,none]) rfl (z1b (by first|rfl|kernel_rfl!)) (J9 rfl F01 (z0 2)) (λ_ _ _ _=>(J8 1 (show (["_law_bits","_law_to"]:List Str).Nodup by decide +kernel))) (λ_ _ _ _=>(z0X (sc_c z4s (z46 (z7a (y6 (z0 0) (z3E (z0 1) z7)) (z1t (z0 1) z7)) z7) z7))) (λ_ _ _ _=>(z0 1))) z9))))) (z4 (j3 8 nd (Z4 F02 (hr.mono (by decide)) rfl (z3 (z0 0) (z3 z7 z9)))) (z4 (z1P (z0j (z0 5) (z14 (Y8 rfl F03 (z3 (z1Q rfl rfl F04 (z3 (z0G (N':=["_law_names_here","_law_worn","_law_j"]) (cap:=[some 1,some 8,none]) rfl (z1b (by first|rfl|kernel_rfl!)) (J9 rfl F01 (z0S rfl F00 (z3 (z0 1) z9))) (λ_ _ _ _=>(J8 2 (show (["_law_names_here","_law_worn","_law_j"]:List Str).Nodup by decide +kernel))) (λ_ _ _ _=>(z0X (sc_c z4s (z46 (z7a (z0 1) (z0 2)) z7) z7))) (λ_ _ _ _=>(y6 (z0 0) (z0 2)))) z9)) z9))))) Z1)))))) (z4 (z08 (z7b (z3 (Y8 rfl F03 (z3 (z0 4) z9)) (z3 (Y8 rfl F03 (z3 (z0 5) z9)) z9)))) Z1)))))))
noncomputable def z0v:G->M Out :=
 (z6 (sAsg (eFn 2 z8 (z5 (eVar 0) (z5 (λ_=>pure (.int 4)) aNil))) (gN 2)) (z6 (sRet (clE (Z5 k9 (z5 (z01 [some 0,some 2,none] (w6 (eVar 1)) (gN 2) (λγ=>do let d <- e2 fLe (eFn 2 z8 (z5 (eVar 0) (z5 (λ_=>pure (.int 4)) aNil))) (eVar 1) γ;asB d) (eVar 2)) aNil)))) bNil))
noncomputable def Y7:List D->M D:=λds=>cln (runF 3 z0v ds)
theorem ok__law_some (T:DefAt K "_law_some" (top 41)) (mx:Mx K mg "_law_some") (F01:mg "range" = none) (F03:mg "tuple" = none) (F02:Fn P w K mg base 1 "_law_draw" 2 z8):Fn P w K mg base 2 "_law_some" 2 Y7 :=
 dfC ["_law_pool_here","_law_many","_law_dense"] z0v T mx (by decide +kernel) rfl (λ_ _ _ _ _ _ us hl=>(by obtain⟨_,_,rfl⟩:=ar2 hl;rfl)) λhcd hr nd =>
  (z4 (j3 2 nd (Z4 F02 (hr.mono (by decide)) rfl (z3 (z0 0) (z3 z7 z9)))) (z4 (z08 (z14 (Y8 rfl F03 (z3 (z0G (N':=["_law_pool_here","_law_dense","_law_one"]) (cap:=[some 0,some 2,none]) rfl (z1b (by first|rfl|kernel_rfl!)) (J9 rfl F01 (z0 1)) (λ_ _ _ _=>(J8 2 (show (["_law_pool_here","_law_dense","_law_one"]:List Str).Nodup by decide +kernel))) (λ_ _ _ _=>(z0X (sc_c z6h (Z4 F02 (hr.mono (by decide)) rfl (z3 (z0 0) (z3 z7 z9))) (z0 1)))) (λ_ _ _ _=>(z0 2))) z9)))) Z1))
noncomputable def z02:G->M Out :=
 (z6 (sAsg (λ_=>pure (.str "abcdefghijklmnopqrstuvwxyz")) (gN 3)) (z6 (sAsg (eVar 1) (gN 4)) (z6 (sFor (w6 (eFn 2 z8 (z5 (eVar 0) (z5 (λ_=>pure (.int 4)) aNil)))) (gN 5) (z6 (sAsg (e2 fAdd (eVar 4) (e2 fIx (eVar 3) (eFn 2 z8 (z5 (eVar 0) (z5 (λ_=>pure (.int 26)) aNil))))) (gN 4)) bNil)) (z6 (sAsg (eFn 2 z8 (z5 (eVar 0) (z5 (λ_=>pure (.int 26)) aNil))) (gN 6)) (z6 (sAsg (eLst (z5 (λ_=>pure (.str "yes")) (z5 (λ_=>pure (.str "no")) (z5 (λ_=>pure (.str "not")) (z5 (λ_=>pure (.str "and")) (z5 (λ_=>pure (.str "or")) (z5 (λ_=>pure (.str "step")) (z5 (λ_=>pure (.str "some")) (z5 (λ_=>pure (.str "all")) (z5 (λ_=>pure (.str "next")) (z5 (λ_=>pure (.str "once")) (z5 (λ_=>pure (.str "ever")) (z5 (λ_=>pure (.str "until")) (z5 (λ_=>pure (.str "unless")) aNil)))))))))))))) (gN 7)) (z6 (sFor (w6 (λ_=>pure (.int 26))) (gN 5) (z6 (sAsg (e2 fAdd (eVar 4) (e2 fIx (eVar 3) (e2 fMod (e2 fAdd (eVar 6) (eVar 5)) (λ_=>pure (.int 26))))) (gN 8)) (z6 (sIf (cAnd (λγ=>do let d <- e2 (fIn true) (eVar 8) (eVar 7) γ;asB d) (λγ=>do let d <- e2 (fIn true) (eVar 8) (eVar 2) γ;asB d)) (z6 (sRet (eVar 8)) bNil) bNil) bNil))) (z6 (sRet (e2 fAdd (eVar 4) (λ_=>pure (.str "x")))) bNil)))))))
noncomputable def z0q:List D->M D:=λds=>cln (runF 9 z02 ds)
theorem ok__law_name (T:DefAt K "_law_name" (top 35)) (mx:Mx K mg "_law_name") (F01:mg "range" = none) (F02:Fn P w K mg base 1 "_law_draw" 2 z8):Fn P w K mg base 2 "_law_name" 3 z0q :=
 dfC ["_law_pool_here","_law_start","_law_taken","_law_letters","_law_name_here","_law_k","_law_last","_law_words","_law_found"] z02 T mx (by decide +kernel) rfl (λ_ _ _ _ _ _ us hl=>(by obtain⟨_,_,_,rfl⟩:=ar3 hl;rfl)) λhcd hr nd =>
  (z4 (j3 3 nd x4) (z4 (j3 4 nd (z0 1)) (z4 (z1c K0y rfl (J9 rfl F01 (Z4 F02 (hr.mono (by decide)) rfl (z3 (z0 0) (z3 z7 z9)))) (Y3 5 nd) (z4 (j3 4 nd (z0H (z0 4) (y6 (z0 3) (Z4 F02 (hr.mono (by decide)) rfl (z3 (z0 0) (z3 z7 z9)))))) Z1)) (z4 (j3 6 nd (Z4 F02 (hr.mono (by decide)) rfl (z3 (z0 0) (z3 z7 z9)))) (z4 (j3 7 nd (z0m (z3 x4 (z3 x4 (z3 x4 (z3 x4 (z3 x4 (z3 x4 (z3 x4 (z3 x4 (z3 x4 (z3 x4 (z3 x4 (z3 x4 (z3 x4 z9))))))))))))))) (z4 (z1c K0y rfl (J9 rfl F01 z7) (Y3 5 nd) (z4 (j3 8 nd (z0H (z0 4) (y6 (z0 3) (z1t (z0H (z0 6) (z0 5)) z7)))) (z4 (s_if (SW.sc (z44 (sc_c z2y (z0 8) (z0 7)) (z2t (sc_c z2y (z0 8) (z0 2))))) (z4 (z08 (z0 8)) Z1) Z1) Z1))) (z4 (z08 (z0H (z0 4) x4)) Z1)))))))
noncomputable def z0e:G->M Out :=
 (z6 (sAsg (λ_=>pure (.str "abcdefghijklmnopqrstuvwxyz")) (gN 2)) (z6 (sAsg (λ_=>pure (.str "")) (gN 3)) (z6 (sFor (w6 (clE (e2 fIx (eLst (z5 (λ_=>pure (.int 0)) (z5 (λ_=>pure (.int 0)) (z5 (λ_=>pure (.int 1)) (z5 (λ_=>pure (.int 4)) aNil))))) (eFn 2 z8 (z5 (eVar 0) (z5 (λ_=>pure (.int 4)) aNil)))))) (gN 4) (z6 (sAsg (e2 fAdd (eVar 3) (e2 fIx (eVar 2) (eFn 2 z8 (z5 (eVar 0) (z5 (λ_=>pure (.int 26)) aNil))))) (gN 3)) bNil)) (z6 (sAsg (eLst aNil) (gN 5)) (z6 (sFor (w6 (eVar 1)) (gN 4) (z6 (z0z (eM1 Z9 (eVar 5) (eFn 3 z0q (z5 (eVar 0) (z5 (eVar 3) (z5 (eVar 5) aNil)))))) bNil)) (z6 (sRet (eVar 5)) bNil))))))
noncomputable def z0b:List D->M D:=λds=>cln (runF 6 z0e ds)
theorem ok__law_names (T:DefAt K "_law_names" (top 36)) (mx:Mx K mg "_law_names") (F01:mg "range" = none) (F02:Fn P w K mg base 1 "_law_draw" 2 z8) (F0a:Fn P w K mg base 2 "_law_name" 3 z0q):Fn P w K mg base 3 "_law_names" 2 z0b :=
 dfC ["_law_pool_here","_law_many","_law_letters","_law_start","_law_k","_law_names_here"] z0e T mx (by decide +kernel) rfl (λ_ _ _ _ _ _ us hl=>(by obtain⟨_,_,rfl⟩:=ar2 hl;rfl)) λhcd hr nd =>
  (z4 (j3 2 nd x4) (z4 (j3 3 nd x4) (z4 (z1c K0y rfl (J9 rfl F01 (z14 (y6 (z0m (z3 z7 (z3 z7 (z3 z7 (z3 z7 z9))))) (Z4 F02 (hr.mono (by decide)) rfl (z3 (z0 0) (z3 z7 z9)))))) (Y3 4 nd) (z4 (j3 3 nd (z0H (z0 3) (y6 (z0 2) (Z4 F02 (hr.mono (by decide)) rfl (z3 (z0 0) (z3 z7 z9)))))) Z1)) (z4 (j3 5 nd (z0m z9)) (z4 (z1c K0y rfl (J9 rfl F01 (z0 1)) (Y3 4 nd) (z4 (z1P (z0j (z0 5) (Z4 F0a (hr.mono (by decide)) rfl (z3 (z0 0) (z3 (z0 3) (z3 (z0 5) z9)))))) Z1)) (z4 (z08 (z0 5)) Z1))))))
noncomputable def z0K:G->M Out :=
 (z6 (sAsg (Z5 fLen (z5 (e2 fIx (eVar 0) (λ_=>pure (.int 0))) aNil)) (gN 1)) (z6 (sRet (eTup (z5 (clE (Z5 k9 (z5 (z01 [none] (w6 (eVar 1)) (gN 0) (λ_=>pure true) (Z5 k9 (z5 (e2 z1k (eLst (z5 (e2 fSub (eVar 0) (λ_=>pure (.int 1))) aNil)) (Z5 fInt (z5 (e2 fGt (eVar 0) (λ_=>pure (.int 0))) aNil))) aNil))) aNil))) (z5 (e2 fIx (eVar 0) (λ_=>pure (.int 1))) aNil)))) bNil))
noncomputable def z0N:List D->M D:=λds=>cln (runF 2 z0K ds)
theorem ok__law_row (T:DefAt K "_law_row" (top 42)) (mx:Mx K mg "_law_row") (F07:mg "int" = none) (F00:mg "len" = none) (F01:mg "range" = none) (F03:mg "tuple" = none):Fn P w K mg base 1 "_law_row" 1 z0N :=
 dfC ["_law_machine","_law_many"] z0K T mx (by decide +kernel) rfl (λ_ _ _ _ _ _ us hl=>(by obtain⟨_,rfl⟩:=ar1 hl;rfl)) λhcd hr nd =>
  (z4 (j3 1 nd (z0S rfl F00 (z3 (y6 (z0 0) z7) z9))) (z4 (z08 (z7b (z3 (z14 (Y8 rfl F03 (z3 (z0G (N':=["_law_k"]) (cap:=[none]) rfl (z1b (by first|rfl|kernel_rfl!)) (J9 rfl F01 (z0 1)) (λ_ _ _ _=>(J8 0 (show (["_law_k"]:List Str).Nodup by decide +kernel))) (λ_ _ _ _=>z1j) (λ_ _ _ _=>(Y8 rfl F03 (z3 (z20 (z0m (z3 (z72 (z0 0) z7) z9)) (z6V rfl F07 (z3 (se_c z4v (z0 0) z7) z9))) z9)))) z9))) (z3 (y6 (z0 0) z7) z9)))) Z1))
noncomputable def z0g:G->M Out :=
 (z6 (sRet (clE (Z5 (fAll true) (z5 (z01 [some 2,none] (z0Q (e2 fIx (e2 fIx (eVar 0) (λ_=>pure (.int 0))) (eVar 1))) (gN 1) (λ_=>pure true) (e2 (fInD false) (eVar 1) (eVar 0))) aNil)))) bNil)
noncomputable def z0f:List D->M D:=λds=>cln (runF 3 z0g ds)
theorem ok_leads_into (T:DefAt K "leads_into" (top 29)) (mx:Mx K mg "leads_into") (F0b:mg "any" = none):Fn P w K mg base 1 "leads_into" 3 z0f :=
 dfC ["machine","standing","told"] z0g T mx (by decide +kernel) rfl (λ_ _ _ _ _ _ us hl=>(by obtain⟨_,_,_,rfl⟩:=ar3 hl;rfl)) λhcd hr nd =>
  (z4 (z08 (z14 (za4 rfl rfl F0b (z3 (z0G (N':=["told","other"]) (cap:=[some 2,none]) rfl (z1b (by first|rfl|kernel_rfl!)) (z17 (y6 (y6 (z0 0) z7) (z0 1))) (λ_ _ _ _=>(J8 1 (show (["told","other"]:List Str).Nodup by decide +kernel))) (λ_ _ _ _=>z1j) (λ_ _ _ _=>(se_c (z73 (z5U hr)) (z0 1) (z0 0)))) z9)))) Z1)
noncomputable def J0:G->M Out :=
 (z6 (z1g 4 [none] (z0Q (eVar 3)) (gN 0) (λ_=>pure true) (eVar 0) (λ_=>pure (.bl true))) (z6 (sAsg (eNeg (λ_=>pure (.int 1))) (gN 5)) (z6 (z0R (λγ=>do let d <- e2 (fEqX true) (Z5 z3m (z5 (eVar 4) aNil)) (eVar 5) γ;asB d) (z6 (sAsg (Z5 z3m (z5 (eVar 4) aNil)) (gN 5)) (z6 (sFor (z0Q (eVar 2)) (gN 6) (z6 (sIf (cVal (eFn 3 z0f (z5 (eVar 1) (z5 (eVar 6) (z5 (eVar 4) aNil))))) (z6 (sAsg (λ_=>pure (.bl true)) (gDx (eVar 4) (eVar 6))) bNil) bNil) bNil)) bNil)) 1000000) (z6 (sRet (clE (Z5 k9 (z5 (Z5 z0t (z5 (eVar 4) aNil)) aNil)))) bNil))))
noncomputable def J5:List D->M D:=λds=>cln (runF 7 J0 ds)
theorem ok_Rounds__until {C_Rounds:Addr}(KI_Rounds:OwC K "Rounds" C_Rounds) (T:DefM K C_Rounds "until" "Rounds.until" (inClass (top 27) 0)) (F00:mg "len" = none) (F04:mg "sorted" = none) (F03:mg "tuple" = none) (F0c:Fn P w K mg base 1 "leads_into" 3 z0f):Mt P w K mg base 2 "Rounds" "until" 3 J5 :=
 dfM ["self","machine","within","goal","told","many","standing"] J0 KI_Rounds T (by decide +kernel) rfl (λ_ _ _ _ _ _ us hl=>(by obtain⟨_,_,_,_,rfl⟩:=ar4 hl;rfl)) λhcd hr nd =>
  (z4 (z3q 4 (N':=["standing"]) (cap:=[none]) rfl (z1b (by first|rfl|kernel_rfl!)) (z17 (z0 3)) (λ_ _ _ _=>(J8 0 (show (["standing"]:List Str).Nodup by decide +kernel))) (λ_ _ _ _=>z1j) (λ_ _ _ _=>(z0 0)) (λ_ _ _ _=>z1T) nd) (z4 (j3 5 nd (z9V z7)) (z4 (z5H 1000000 K0y (sc_c (z7r (hu30 hr)) (z59 rfl F00 (z3 (z0 4) z9)) (z0 5)) (z4 (j3 5 nd (z59 rfl F00 (z3 (z0 4) z9))) (z4 (z1c K0y rfl (z17 (z0 2)) (Y3 6 nd) (z4 (s_if (z16 (Z4 F0c (hr.mono (by decide)) rfl (z3 (z0 1) (z3 (z0 6) (z3 (z0 4) z9))))) (z4 (z4P z1T (zd9 (z5U hr) (z0 4) (z0 6))) Z1) Z1) Z1)) Z1))) (z4 (z08 (z14 (Y8 rfl F03 (z3 (z2b rfl rfl F04 (z3 (z0 4) z9)) z9)))) Z1))))
noncomputable def z0x:G->M Out :=
 (z6 (z3b 1 [none] (z0Q (e2 fIx (eVar 0) (λ_=>pure (.int 0)))) (gN 0) (λ_=>pure true) (eLst aNil)) (z6 (sFor (z6P (e2 fIx (eVar 0) (λ_=>pure (.int 0)))) (gT 2 (z42 (gN 2) (z42 (gN 3) z8w))) (z6 (sFor (z0Q (eVar 3)) (gN 4) (z6 (z0z (eM1 Z9 (e2 fIx (eVar 1) (eVar 4)) (eVar 2))) bNil)) bNil)) (z6 (sRet (eVar 1)) bNil)))
noncomputable def z0a:List D->M D:=runF 5 z0x
theorem ok_back_rows (T:DefAt K "back_rows" (top 18)) (mx:Mx K mg "back_rows") (F0d:mg "enumerate" = none):Fn P w K mg base 1 "back_rows" 1 z0a :=
 dfN ["machine","rows","standing","row","other"] z0x T mx (by decide +kernel) rfl (λ_ _ _ _ _ _ us hl=>(by obtain⟨_,rfl⟩:=ar1 hl;rfl)) λhcd hr nd =>
  (z4 (z7l 1 (N':=["standing"]) (cap:=[none]) rfl (z1b (by first|rfl|kernel_rfl!)) (z17 (y6 (z0 0) z7)) (λ_ _ _ _=>(J8 0 (show (["standing"]:List Str).Nodup by decide +kernel))) (λ_ _ _ _=>z1j) (λ_ _ _ _=>(z0m z9)) nd) (z4 (z1c K0y rfl (z96 rfl rfl F0d (y6 (z0 0) z7)) (z9U rfl (z3U (Y3 2 nd) (z3U (Y3 3 nd) z7S))) (z4 (z1c K0y rfl (z17 (z0 3)) (Y3 4 nd) (z4 (z1P (z0j (y6 (z0 1) (z0 4)) (z0 2))) Z1)) Z1)) (z4 (z08 (z0 1)) Z1)))
noncomputable def y3:G->M Out :=
 (z6 (sAsg (eFn 1 z0a (z5 (eVar 1) aNil)) (gN 4)) (z6 (z1g 5 [none] (z0Q (eVar 2)) (gN 0) (λ_=>pure true) (eVar 0) (λ_=>pure (.bl true))) (z6 (z1g 6 [none] (z0Q (eVar 3)) (gN 0) (λ_=>pure true) (eVar 0) (λ_=>pure (.bl true))) (z6 (sAsg (Z5 z3e (z5 (eVar 3) aNil)) (gN 7)) (z6 (z0R (cVal (eVar 7)) (z6 (sAsg (eM0 fPop (eVar 7)) (gN 8)) (z6 (sFor (z1E (e2 fIx (eVar 4) (eVar 8))) (gN 9) (z6 (sIf (cAnd (λγ=>do let d <- e2 (fInD false) (eVar 9) (eVar 5) γ;asB d) (λγ=>do let d <- e2 (fInD true) (eVar 9) (eVar 6) γ;asB d)) (z6 (sAsg (λ_=>pure (.bl true)) (gDx (eVar 6) (eVar 9))) (z6 (z0z (eM1 Z9 (eVar 7) (eVar 9))) bNil)) bNil) bNil)) bNil)) 1000000) (z6 (sRet (clE (Z5 k9 (z5 (Z5 z0t (z5 (eVar 6) aNil)) aNil)))) bNil))))))
noncomputable def y4:List D->M D:=λds=>cln (runF 10 y3 ds)
theorem ok_Worklist__until {C_Worklist:Addr}(KI_Worklist:OwC K "Worklist" C_Worklist) (T:DefM K C_Worklist "until" "Worklist.until" (inClass (top 28) 0)) (F05:mg "list" = none) (F04:mg "sorted" = none) (F03:mg "tuple" = none) (F0e:Fn P w K mg base 1 "back_rows" 1 z0a):Mt P w K mg base 2 "Worklist" "until" 3 y4 :=
 dfM ["self","machine","within","goal","back","inside","told","waiting","standing","other"] y3 KI_Worklist T (by decide +kernel) rfl (λ_ _ _ _ _ _ us hl=>(by obtain⟨_,_,_,_,rfl⟩:=ar4 hl;rfl)) λhcd hr nd =>
  (z4 (j3 4 nd (Z4 F0e (hr.mono (by decide)) rfl (z3 (z0 1) z9))) (z4 (z3q 5 (N':=["standing"]) (cap:=[none]) rfl (z1b (by first|rfl|kernel_rfl!)) (z17 (z0 2)) (λ_ _ _ _=>(J8 0 (show (["standing"]:List Str).Nodup by decide +kernel))) (λ_ _ _ _=>z1j) (λ_ _ _ _=>(z0 0)) (λ_ _ _ _=>z1T) nd) (z4 (z3q 6 (N':=["standing"]) (cap:=[none]) rfl (z1b (by first|rfl|kernel_rfl!)) (z17 (z0 3)) (λ_ _ _ _=>(J8 0 (show (["standing"]:List Str).Nodup by decide +kernel))) (λ_ _ _ _=>z1j) (λ_ _ _ _=>(z0 0)) (λ_ _ _ _=>z1T) nd) (z4 (j3 7 nd (z2E rfl F05 (z3 (z0 3) z9))) (z4 (z5H 1000000 K0y (z16 (z0 7)) (z4 (j3 8 nd (zd7 (z0 7))) (z4 (z1c K0y rfl (z2r (y6 (z0 4) (z0 8))) (Y3 9 nd) (z4 (s_if (SW.sc (z44 (sc_c (z73 (z5U hr)) (z0 9) (z0 5)) (z2t (sc_c (z8P (z5U hr)) (z0 9) (z0 6))))) (z4 (z4P z1T (zd9 (z5U hr) (z0 6) (z0 9))) (z4 (z1P (z0j (z0 7) (z0 9))) Z1)) Z1) Z1)) Z1))) (z4 (z08 (z14 (Y8 rfl F03 (z3 (z2b rfl rfl F04 (z3 (z0 6) z9)) z9)))) Z1))))))
noncomputable def x5:G->M Out :=
 (z6 (sRet (eAnd (eIsi "tuple" (eVar 0)) (e3 fLe fLe (eVar 1) (Z5 fLen (z5 (eVar 0) aNil)) (eVar 2)))) bNil)
noncomputable def x6:List D->M D:=λds=>cln (runF 3 x5 ds)
theorem ok__law_tuple (T:DefAt K "_law_tuple" (top 39)) (mx:Mx K mg "_law_tuple") (F06:mg "isinstance" = none) (F00:mg "len" = none) (F03:mg "tuple" = none):Fn P w K mg base 1 "_law_tuple" 3 x6 :=
 dfC ["_law_thing","_law_least","_law_most"] x5 T mx (by decide +kernel) rfl (λ_ _ _ _ _ _ us hl=>(by obtain⟨_,_,_,rfl⟩:=ar3 hl;rfl)) λhcd hr nd =>
  (z4 (z08 (z2z (z4I rfl F06 rfl F03 (by decide +kernel) (by decide) (z0 0)) (z53 (z9x z6h z6h (z0 1) (z0S rfl F00 (z3 (z0 0) z9)) (z0 2))))) Z1)
noncomputable def Y5:G->M Out :=
 (z6 (sRet (eAnd (eIsi "int" (eVar 0)) (eAnd (eNot (eIsi "bool" (eVar 0))) (e3 fLe fLt (eVar 1) (eVar 0) (eVar 2))))) bNil)
noncomputable def z00:List D->M D:=λds=>cln (runF 3 Y5 ds)
theorem ok__law_number (T:DefAt K "_law_number" (top 38)) (mx:Mx K mg "_law_number") (F0f:mg "bool" = none) (F07:mg "int" = none) (F06:mg "isinstance" = none):Fn P w K mg base 1 "_law_number" 3 z00 :=
 dfC ["_law_thing","_law_low","_law_high"] Y5 T mx (by decide +kernel) rfl (λ_ _ _ _ _ _ us hl=>(by obtain⟨_,_,_,rfl⟩:=ar3 hl;rfl)) λhcd hr nd =>
  (z4 (z08 (z2z (z4I rfl F06 rfl F07 (by decide +kernel) (by decide) (z0 0)) (z2z (z7L (z4I rfl F06 rfl F0f (by decide +kernel) (by decide) (z0 0))) (z53 (z9x z6h za0 (z0 1) (z0 0) (z0 2)))))) Z1)
noncomputable def Y2:G->M Out :=
 (z6 (sIf (cNot (cVal (eFn 3 x6 (z5 (eVar 0) (z5 (λ_=>pure (.int 0)) (z5 (eVar 1) aNil)))))) (z6 (sRet (λ_=>pure (.bl false))) bNil) bNil) (z6 (sFor (w6 (Z5 fLen (z5 (eVar 0) aNil))) (gN 2) (z6 (sIf (cOr (cNot (cVal (eFn 3 z00 (z5 (e2 fIx (eVar 0) (eVar 2)) (z5 (λ_=>pure (.int 0)) (z5 (eVar 1) aNil)))))) (cAnd (λγ=>do let d <- e2 fGt (eVar 2) (λ_=>pure (.int 0)) γ;asB d) (λγ=>do let d <- e2 fGe (e2 fIx (eVar 0) (e2 fSub (eVar 2) (λ_=>pure (.int 1)))) (e2 fIx (eVar 0) (eVar 2)) γ;asB d))) (z6 (sRet (λ_=>pure (.bl false))) bNil) bNil) bNil)) (z6 (sRet (λ_=>pure (.bl true))) bNil)))
noncomputable def J2:List D->M D:=λds=>cln (runF 3 Y2 ds)
theorem ok__law_good_set (T:DefAt K "_law_good_set" (top 40)) (mx:Mx K mg "_law_good_set") (F00:mg "len" = none) (F01:mg "range" = none) (F0g:Fn P w K mg base 1 "_law_number" 3 z00) (F0h:Fn P w K mg base 1 "_law_tuple" 3 x6):Fn P w K mg base 2 "_law_good_set" 2 J2 :=
 dfC ["_law_thing","_law_many","_law_k"] Y2 T mx (by decide +kernel) rfl (λ_ _ _ _ _ _ us hl=>(by obtain⟨_,_,rfl⟩:=ar2 hl;rfl)) λhcd hr nd =>
  (z4 (s_if (z31 (z16 (Z4 F0h (hr.mono (by decide)) rfl (z3 (z0 0) (z3 z7 (z3 (z0 1) z9)))))) (z4 (z08 z1T) Z1) Z1) (z4 (z1c K0y rfl (J9 rfl F01 (z0S rfl F00 (z3 (z0 0) z9))) (Y3 2 nd) (z4 (s_if (SW.sc (z8n (z31 (z16 (Z4 F0g (hr.mono (by decide)) rfl (z3 (y6 (z0 0) (z0 2)) (z3 z7 (z3 (z0 1) z9)))))) (z4K (SW.sc (z44 (sc_c z4v (z0 2) z7) (z2t (sc_c zb6 (y6 (z0 0) (z72 (z0 2) z7)) (y6 (z0 0) (z0 2))))))))) (z4 (z08 z1T) Z1) Z1) Z1)) (z4 (z08 z1T) Z1)))
noncomputable def x3:G->M Out :=
 (z6 (sAsg (Z5 z3e (z5 (eVar 2) aNil)) (gN 3)) (z6 (sAsg (Z5 z3e (z5 (eVar 2) aNil)) (gN 4)) (z6 (sFor (w6 (Z5 fLen (z5 (e2 fIx (eVar 0) (λ_=>pure (.int 0))) aNil))) (gN 5) (z6 (sAsg (eLst aNil) (gN 6)) (z6 (sFor (z0Q (eVar 1)) (gN 7) (z6 (sIf (cAnd (λγ=>do let d <- e2 (fIn true) (eVar 7) (eVar 3) γ;asB d) (clT (λγ=>do let d <- e2 (fEqX true) (z01 [some 4,none] (z0Q (e2 fIx (e2 fIx (eVar 0) (λ_=>pure (.int 0))) (eVar 7))) (gN 1) (λγ=>do let d <- e2 (fIn false) (eVar 1) (eVar 0) γ;asB d) (eVar 1)) (eLst aNil) γ;asB d))) (z6 (z0z (eM1 Z9 (eVar 6) (eVar 7))) bNil) bNil) bNil)) (z6 (sAsg (e2 fAdd (eVar 3) (eVar 6)) (gN 3)) (z6 (sAsg (eVar 6) (gN 4)) bNil))))) (z6 (sRet (Z5 x8 (z5 (eVar 3) aNil))) bNil))))
noncomputable def z0d:List D->M D:=λds=>cln (runF 8 x3 ds)
theorem ok__law_until (T:DefAt K "_law_until" (top 43)) (mx:Mx K mg "_law_until") (F00:mg "len" = none) (F05:mg "list" = none) (F01:mg "range" = none) (F04:mg "sorted" = none):Fn P w K mg base 1 "_law_until" 3 z0d :=
 dfC ["_law_machine","_law_within","_law_goal","_law_found","_law_fresh","_law_k","_law_later","_law_one"] x3 T mx (by decide +kernel) rfl (λ_ _ _ _ _ _ us hl=>(by obtain⟨_,_,_,rfl⟩:=ar3 hl;rfl)) λhcd hr nd =>
  (z4 (j3 3 nd (z2E rfl F05 (z3 (z0 2) z9))) (z4 (j3 4 nd (z2E rfl F05 (z3 (z0 2) z9))) (z4 (z1c K0y rfl (J9 rfl F01 (z0S rfl F00 (z3 (y6 (z0 0) z7) z9))) (Y3 5 nd) (z4 (j3 6 nd (z0m z9)) (z4 (z1c K0y rfl (z17 (z0 1)) (Y3 7 nd) (z4 (s_if (SW.sc (z44 (sc_c z2y (z0 7) (z0 3)) (z2t (zf8 (sc_c (z7r (hu30 hr)) (z0G (N':=["_law_fresh","_law_to"]) (cap:=[some 4,none]) rfl (z1b (by first|rfl|kernel_rfl!)) (z17 (y6 (y6 (z0 0) z7) (z0 7))) (λ_ _ _ _=>(J8 1 (show (["_law_fresh","_law_to"]:List Str).Nodup by decide +kernel))) (λ_ _ _ _=>(z0X (sc_c zm3 (z0 1) (z0 0)))) (λ_ _ _ _=>(z0 1))) (z0m z9)))))) (z4 (z1P (z0j (z0 6) (z0 7))) Z1) Z1) Z1)) (z4 (j3 3 nd (z0H (z0 3) (z0 6))) (z4 (j3 4 nd (z0 6)) Z1))))) (z4 (z08 (z1Q rfl rfl F04 (z3 (z0 3) z9))) Z1))))
noncomputable def z0c:G->M Out :=
 (z6 (sAsg (orE (eMt "Rounds" "until" 3 J5 (eVar 0) (z5 (eVar 1) (z5 (eVar 2) (z5 (eVar 3) aNil)))) (eMt "Worklist" "until" 3 y4 (eVar 0) (z5 (eVar 1) (z5 (eVar 2) (z5 (eVar 3) aNil))))) (gN 4)) (z6 (sRet (eAnd (eFn 2 J2 (z5 (eVar 4) (z5 (Z5 fLen (z5 (e2 fIx (eVar 1) (λ_=>pure (.int 0))) aNil)) aNil))) (clE (e2 (fEqX false) (Z5 z3e (z5 (eVar 4) aNil)) (eFn 3 z0d (z5 (eVar 1) (z5 (eVar 2) (z5 (eVar 3) aNil)))))))) bNil))
noncomputable def Y0:List D->M D:=λds=>cln (runF 5 z0c ds)
theorem ok__law_right (T:DefAt K "_law_right" (top 44)) (mx:Mx K mg "_law_right") (F00:mg "len" = none) (F05:mg "list" = none) (F0i:Mt P w K mg base 2 "Rounds" "until" 3 J5) (F0j:Mt P w K mg base 2 "Worklist" "until" 3 y4) (F0k:Fn P w K mg base 2 "_law_good_set" 2 J2) (F0l:Fn P w K mg base 1 "_law_until" 3 z0d):Fn P w K mg base 3 "_law_right" 4 Y0 :=
 dfC ["_law_way","_law_machine","_law_within","_law_goal","_law_found"] z0c T mx (by decide +kernel) rfl (λ_ _ _ _ _ _ us hl=>(by obtain⟨_,_,_,_,rfl⟩:=ar4 hl;rfl)) λhcd hr nd =>
  (z4 (j3 4 nd (zj4 (zb2 F0i (hr.mono (by decide)) (z0 0) (z3 (z0 1) (z3 (z0 2) (z3 (z0 3) z9)))) (zb2 F0j (hr.mono (by decide)) (z0 0) (z3 (z0 1) (z3 (z0 2) (z3 (z0 3) z9)))))) (z4 (z08 (z2z (Z4 F0k (hr.mono (by decide)) rfl (z3 (z0 4) (z3 (z0S rfl F00 (z3 (y6 (z0 1) z7) z9)) z9))) (z53 (z14 (se_c (z9I (hu30 hr)) (z2E rfl F05 (z3 (z0 4) z9)) (Z4 F0l (hr.mono (by decide)) rfl (z3 (z0 1) (z3 (z0 2) (z3 (z0 3) z9))))))))) Z1))
noncomputable def z6t:G->M Out :=
 (z6 (sAsg (eFn 1 z0s (z5 (eVar 0) aNil)) (gN 1)) (z6 (sAsg (e2 (fEq false) (eFn 2 z8 (z5 (eVar 1) (z5 (λ_=>pure (.int 4)) aNil))) (λ_=>pure (.int 0))) (gN 2)) (z6 (sAsg (eFn 2 j9 (z5 (eVar 1) (z5 (eFn 2 z0b (z5 (eVar 1) (z5 (λ_=>pure (.int 1)) aNil))) aNil))) (gN 3)) (z6 (sIf (cVal (eVar 2)) (z6 (sAsg (eFn 1 z0N (z5 (eVar 3) aNil)) (gN 3)) bNil) bNil) (z6 (sAsg (Z5 fLen (z5 (e2 fIx (eVar 3) (λ_=>pure (.int 0))) aNil)) (gN 4)) (z6 (sAsg (eFn 2 Y7 (z5 (eVar 1) (z5 (eVar 4) aNil))) (gN 5)) (z6 (sAsg (eFn 2 Y7 (z5 (eVar 1) (z5 (eVar 4) aNil))) (gN 6)) (z6 (sIf (cOr (cVal (eVar 2)) (λγ=>do let d <- e2 (fEq false) (eFn 2 z8 (z5 (eVar 1) (z5 (λ_=>pure (.int 2)) aNil))) (λ_=>pure (.int 0)) γ;asB d)) (z6 (sAsg (z3G (eVar 6) z6C (z6M (λ_=>pure (.int 1)))) (gN 6)) (z6 (sAsg (Z5 k9 (z5 (Z5 x8 (z5 (z01 [some 1,none] (w6 (eVar 4)) (gN 1) (λγ=>do let d <- e2 fGt (eFn 2 z8 (z5 (eVar 0) (z5 (λ_=>pure (.int 40)) aNil))) (λ_=>pure (.int 0)) γ;asB d) (eVar 1)) aNil)) aNil)) (gN 5)) bNil)) bNil) (z6 (sAsg (eFn 2 Y7 (z5 (eVar 1) (z5 (eVar 4) aNil))) (gN 7)) (z6 (sFor (z1E (eLst (z5 (z2s "Rounds") (z5 (z2s "Worklist") aNil)))) (gN 8) (z6 (sIf (cOr (cNot (cVal (eFn 4 Y0 (z5 (eVar 8) (z5 (eVar 3) (z5 (eVar 5) (z5 (eVar 6) aNil))))))) (cNot (cVal (eFn 4 Y0 (z5 (eVar 8) (z5 (eVar 3) (z5 (eVar 6) (z5 (eVar 7) aNil)))))))) (z6 (sRet (λ_=>pure (.bl false))) bNil) bNil) (z6 (sIf (cNot (cVal (eFn 4 Y0 (z5 (eVar 8) (z5 (eVar 3) (z5 (eVar 5) (z5 (eVar 6) aNil))))))) (z6 (sRet (λ_=>pure (.bl false))) bNil) bNil) bNil))) (z6 (sRet (λ_=>pure (.bl true))) bNil)))))))))))
noncomputable def m_law:List D->M D:=runF 9 z6t
theorem sc_law:FnScope ["_law_script","_law_pool_here","_law_row_here","_law_machine","_law_many","_law_within","_law_goal","_law_other","_law_way"] ["_law_script"] (Z3 (top 45)):=⟨rfl,rfl,rfl,by decide +kernel,rfl,by decide +kernel,by decide +kernel⟩
theorem zi3 (g0:Int) (gr sm:List Int) (s c:Int) (r:AH) (n:Int) (hn:0<n) (hn2:n<1073741824) (hg:gr.length<=63) :
 ∃gr',gr'.length<=gr.length+1/\z8 [.ref 2,.int n] (Pool (g0::gr) sm s c r)=.ok (.int (g0 % n)) (Pool gr' sm s c r):=by
 unfold z8 runF z04 Pool z07;have hl:gr.length<=sizeLine:=K0h hg (by decide);by_cases h0:g0 / n=0
 ·refine⟨gr,by omega,?_⟩;simp[z6,bNil,sIf,sAsg,sRet,z0z,e2,Z5,z5,aNil,eVar,fIx,seqD,getL,fLen,fGt,fCmp,fI,asB,gIx,gN,fSet,fDiv,fIC,eM1,z1d,z2g,updL,fEq,eqD,fMod,atI,ixN,hn,hn2,h0,K6a,hl]
 ·refine⟨g0 / n::gr,by simp,?_⟩;simp[z6,bNil,sIf,sAsg,sRet,z0z,e2,Z5,z5,aNil,eVar,fIx,seqD,getL,fLen,fGt,fCmp,fI,asB,gIx,gN,fSet,fDiv,fIC,eM1,z1d,z2g,updL,fEq,eqD,fMod,atI,ixN,hn,hn2,h0]
theorem zk9 (sm:List Int) (s c:Int) (r:AH) (n:Int) (hn:0<n) (hn2:n<1073741824) (hs:0<=s) (hs2:s<2147483647) (hc:0<=c) (hc2:c<1000000) (hm:sm.length<=63) :
 ∃s' d,z8 [.ref 2,.int n] (Pool [] sm s c r)=.ok (.int d) (Pool [] sm s' (c+1) r)/\0<=d/\d<n/\0<=s'/\s'<2147483647:=by
 have k1:-18446744073709551616<c+1:=by omega
 have k2:c+1<18446744073709551616:=by omega
 have k3:-18446744073709551616<s:=by omega
 have k4:s<18446744073709551616:=by omega
 have key:∀x:Int,(∃y:Int,z8 [.ref 2,.int n] (Pool [] sm s c r)=.ok (.int ((((s * 48271+x % 2147483629 * ((c+1) * (c+1)+1)+97 * (c+1)) % 2147483647) ^ 5) % 2147483629 / 64 % n)) (Pool [] sm ((s * 48271+x % 2147483629 * ((c+1) * (c+1)+1)+97 * (c+1)) % 2147483647) (c+1) r)) ->
  ∃s' d,z8 [.ref 2,.int n] (Pool [] sm s c r)=.ok (.int d) (Pool [] sm s' (c+1) r)/\0<=d/\d<n/\0<=s'/\s'<2147483647:=λx ⟨_,e⟩ =>
  ⟨_,_,e,K3x _ (by omega),K37 _ hn,K3x _ (by decide),K37 _ (by decide)⟩
 have p1:∀z:Int,-18446744073709551616<z % 2147483647:=λz=>by omega
 have p2:∀z:Int,z % 2147483647<18446744073709551616:=λz=>by omega
 have p3:∀z:Int,-18446744073709551616<z % 2147483629:=λz=>by omega
 have p4:∀z:Int,z % 2147483629<18446744073709551616:=λz=>by omega
 cases sm with
 | nil =>
  refine key 0 ⟨0,?_⟩;unfold z8 runF z04 Pool z07;simp[z6,bNil,sIf,sAsg,sRet,z0z,e2,Z5,z5,aNil,eVar,fIx,seqD,getL,fLen,fGt,fCmp,fI,asB,gIx,gN,fSet,fDiv,fIC,eM1,z1d,z2g,updL,fEq,eqD,fMod,fAdd,fMul,z1k,fPow,atI,ixN,hn,hn2,k1,k2,k3,k4,p1,p2,p3,p4]
 | cons m0 sm =>
  have hl:(0:Int)<(sm.length:Int)+1:=by omega
  have hi:0<=(c+1) % ((sm.length:Int)+1):=K3x _ (by omega);have hi2:(c+1) % ((sm.length:Int)+1)<(sm.length:Int)+1:=K37 _ hl;obtain⟨x,hx⟩:∃x,(D.int m0::sm.map D.int)[((c+1) % ((sm.length:Int)+1)).toNat]?=.(i x):=by
   have e:(D.int m0::sm.map D.int)=(m0::sm).map D.int:=rfl;rw[e,K0n,K6 (by simp;omega)];exact⟨_,rfl⟩
  have hx2:∀hj,(D.int m0::List.map D.int sm)[((c+1) % ((sm.length:Int)+1)).toNat]'hj=D.int x:=λhj=>K0p ((K6 hj).symm.trans hx);refine key x ⟨0,?_⟩;unfold z8 runF z04 Pool z07;simp[z6,bNil,sIf,sAsg,sRet,z0z,e2,Z5,z5,aNil,eVar,fIx,seqD,getL,fLen,fGt,fCmp,fI,asB,gIx,gN,fSet,fDiv,fIC,eM1,z1d,z2g,updL,fEq,eqD,fMod,fAdd,fMul,z1k,fPow,atI,ixN,hn,hn2,k1,k2,k3,k4,p1,p2,p3,p4,hi,hi2,hl,hx,hx2]
theorem draw {h:AH}{k n:Int}{r:AH}(p:PS h k r) (hk:k<1000000) (hn:0<n) (hn2:n<1073741824):∃d h',z8 [.ref 2,.int n] h=.ok (.int d) h'/\0<=d/\d<n/\PS h' (k+1) r:=by
 obtain⟨gr,sm,s,c,rfl,h1,h2,h3,h4,h5,h6⟩:=p;cases gr with
 | nil =>
  obtain⟨s',d,e,q1,q2,q3,q4⟩:=zk9 sm s c r n hn hn2 h1 h2 h3 (by omega) h6;exact⟨d,_,e,q1,q2,[],sm,s',c+1,rfl,q3,q4,by omega,by omega,by simp,h6⟩
 | cons g0 gr =>
  simp at h5;obtain⟨gr',l,e⟩:=zi3 g0 gr sm s c r n hn hn2 (by omega);exact⟨_,_,e,K3x _ (by omega),K37 _ hn,gr',sm,s,c,rfl,h1,h2,h3,by omega,by omega,h6⟩
theorem Y6 {h:AH}{k n:Int}{r:AH}{Q:D->AH->Prop}(p:PS h k r) (hk:k<1000000) (hn:0<n) (hn2:n<1073741824) (z:∀d h',0<=d->d<n->PS h' (k+1) r->Q (.int d) h'):W (z8 [.ref 2,.int n]) h Q:=by
 obtain⟨d,h',e,d0,d1,p'⟩:=draw p hk hn hn2;exact⟨_,_,e,z d h' d0 d1 p'⟩
theorem z6w {ns:List Int}(hn:ns.length<=63):W (z0s [.fl (ns.map .int)]) [] (λd h'=>d=.ref 2/\PS h' 0 []):=by
 refine z1x ?_;show W (z0w [some (.fl (ns.map .int)),none]) [] _;unfold z0w z3b;rw[w_cons];simp only[K05,K03,Z0,W_pure,j7,e2,eVar,gN,sAsg];have src:∀(γ:G) (h:AH),γ[0]?=some (some (.fl (ns.map .int)))->z1E (eVar 0) γ h=.ok (.con (ns.map .int)) h:=λγ h e=>by
  unfold z1E eVar;rw[e];rfl
 refine W.of (z1l (src:=.con (ns.map .int)) (λd=>match d with|.int t=>decide (1000000000000000000<=t)|_=>false) (λd=>d) (src _ _ rfl) (λ_=>trivial) (by simp[Src.items];omega) λd hd=>?_) ?_
 ·obtain⟨t,ht,rfl⟩:=K1v.mp hd;refine⟨[.(i t)],λh=>rfl,λj=>?_,λ_ j=>rfl⟩;simp only[K1,bindM,pureM,zf3,zf1,v9]
 rw[show (Src.con (ns.map D.int)).items=ns.map D.int from rfl,z0V];rw[w_cons];simp only[K7,K1,K0c,Z0,W_pure,z5,aNil,z0L,eLst,eVar,sRet];refine W.of (z1l (src:=.con (ns.map .int)) (λd=>match d with|.int t=>decide (t<1000000000000000000)|_=>false) (λd=>d) (src _ _ rfl) (λ_=>trivial) (by simp[Src.items];omega) λd hd=>?_) ?_
 ·obtain⟨t,ht,rfl⟩:=K1v.mp hd;refine⟨[.(i t)],λh=>rfl,λj=>?_,λ_ j=>rfl⟩;simp only[K1,bindM,pureM,zf3,z9r,v9]
 rw[show (Src.con (ns.map D.int)).items=ns.map D.int from rfl,z0V];refine W.of (a:=.ref 2) (h':=Pool (ns.filter λi=>decide (1000000000000000000<=i)) (ns.filter λi=>decide (i<1000000000000000000)) 5 0 []) ?_ ?_
 ·unfold newL;rw[if_pos (by simp;decide)];rfl
 ·refine⟨rfl,_,_,5,0,rfl,by decide,by decide,by decide,by decide,?_,?_⟩
  ·exact K0h (K26 _ _) hn
  ·exact K0h (K26 _ _) hn
theorem z4B {h:AH}{k:Int}{r:AH}{i:Nat}{start:Str}{ns:List Str}(p:PS h k r) (hk:k<900000) (lo:low start) (hs:start.length<=4) (e:r[i]?=.(l (ns.map .str))) (hn:ns.length<=7) :
 W (runF 9 z02 [.ref 2,.str start,.ref (i+3)]) h (λd h'=>∃x j,d=.str x/\PS h' (k+5) (r++j)/\z5c x/\x∉ns):=by
 refine z1x ?_;show W (z02 [.(r 2),.(s start),.(r (i+3)),none,none,none,none,none,none]) h _;unfold z02;rw[show ("abcdefghijklmnopqrstuvwxyz":Str)=abc from rfl];rw[w_cons];simp only[K05,K03,Z0,W_pure,j7,e2,eVar,gN,sAsg];rw[w_cons];simp only[K7,K1,K05,K03,Z0,W_pure,j7,eVar,gN,sAsg];rw[w_cons];refine z03 (λc γ h=>∃x w,γ=[.(r 2),.(s start),.(r (i+3)),.(s abc),.(s x),w,none,none,none]/\PS h (k+1+c) r/\low x/\x.length<=4+c) (λ_ _=>False) ?_;simp only[K1,K01,K0c,K0k,z06,Z0,x9,W_pure,z5,aNil,j7,z0L,eFn,eVar,if_true];refine Y6 p (by omega) (by decide) (by decide) λd h1 d0 d1 p1=>?_;refine⟨d.toNat,by rw[K50 d0],by omega,⟨start,none,rfl,by simpa using p1,lo,by omega⟩,?_,?_,λ_ _ q=>q.elim⟩
 ·rintro c γ h2 hc ⟨x,w,rfl,p2,lx,hx⟩;rw[w_cons];simp only[K7,K1,K01,K0c,K05,K03,K0k,z06,Z0,x9,W_pure,z5,aNil,j7,e2,eFn,eVar,gN,if_true,sAsg,z24];refine Y6 p2 (by omega) (by decide) (by decide) λd h1 d0 d1 p1=>?_;refine z2m (k:=k) (r:=r) d0 d1 (by omega) ?_;refine⟨_,_,rfl,p1.up (by omega),z3j lx (by omega) (by omega),by rw[len_app,z23];omega⟩
 rintro γ h2 ⟨x,w,rfl,p2,lx,hx⟩;rw[w_cons];simp only[K1,K01,K0c,K05,K03,K0k,z06,Z0,x9,W_pure,z5,aNil,j7,eFn,eVar,gN,if_true,sAsg];refine Y6 (p2.up (show _<=k+4 by omega)) (by omega) (by decide) (by decide) λl h3 l0 l1 p3=>?_;rw[w_cons];simp only[K05,K03,Z0,W_pure,z5,aNil,j7,eLst,gN,sAsg];rw[show [D.str "yes",D.str "no",D.str "not",D.str "and",D.str "or",D.str "step",D.str "some",D.str "all",D.str "next",D.str "once",D.str "ever",D.str "until",D.str "unless"]=words.map D.str from rfl];refine z1R p3 (by decide) λh4 p4=>?_;rw[w_cons];refine z03 (λc γ h=>∃w w',γ=[.(r 2),.(s start),.(r (i+3)),.(s abc),.(s x),w,.(i l),.(r (r.length+3)),w']/\PS h (k+5) (r++[.lst (words.map .str)])/\∀c':Nat,c'<c->cand x l c'∈words\/cand x l c'∈ns) (λd h=>∃c:Nat,d=.str (cand x l c)/\cand x l c∉words/\cand x l c∉ns/\PS h (k+5) (r++[.lst (words.map .str)])) ?_;rw[W_pure];refine⟨26,rfl,by decide,⟨_,_,rfl,p4.up (by omega),λc' hc=>by omega⟩,?_,?_,?_⟩
 ·rintro c γ h5 hc ⟨w,w',rfl,p5,hb⟩;rw[w_cons];simp only[K7,K1,K05,K03,Z0,W_pure,z75,j7,e2,eVar,gN,sAsg];have m1:fMod (.int (l+c)) (.int 26)=pure (.int ((l+c) % 26)):=rfl;rw[m1,W_pure];refine z2m (k:=k) (r:=r) (K3x _ (by decide)) (K37 _ (by decide)) (by omega) ?_;rw[w_cons];simp only[K1s,K7,K1,Z0,x9,W_pure,cAnd,j7,if_false,sIf,z24];refine W.of (z70 p5 z2d) ?_;rw[v9,W_pure];by_cases q1:cand x l c∈words
  ·have:(decide (x++{ cps:=#[((l+(c:Int)) % 26).toNat+97] }∈words) != true)=false:=by
    rw[show decide (x++{ cps:=#[((l+(c:Int)) % 26).toNat+97] }∈words)=true from decide_eq_true q1];rfl
   rw[this];simp only[K1s,if_false];refine⟨_,_,rfl,p5,λc' hc'=>?_⟩;by_cases e':c'=c
   ·subst e';exact .inl q1
   ·exact hb c' (by omega)
  ·have:(decide (x++{ cps:=#[((l+(c:Int)) % 26).toNat+97] }∈words) != true)=true:=by
    rw[show decide (x++{ cps:=#[((l+(c:Int)) % 26).toNat+97] }∈words)=false from decide_eq_false q1];rfl
   rw[this];simp only[if_true];refine W.of (z70 p5 (z3O e)) ?_;by_cases q2:cand x l c∈ns
   ·have:(decide (x++{ cps:=#[((l+(c:Int)) % 26).toNat+97] }∈ns) != true)=false:=by
     rw[show decide (x++{ cps:=#[((l+(c:Int)) % 26).toNat+97] }∈ns)=true from decide_eq_true q2];rfl
    rw[this];simp only[K1s,W_pure,v9,if_false];refine⟨_,_,rfl,p5,λc' hc'=>?_⟩;by_cases e':c'=c
    ·subst e';exact .inr q2
    ·exact hb c' (by omega)
   ·have:(decide (x++{ cps:=#[((l+(c:Int)) % 26).toNat+97] }∈ns) != true)=true:=by
     rw[show decide (x++{ cps:=#[((l+(c:Int)) % 26).toNat+97] }∈ns)=false from decide_eq_false q2];rfl
    rw[this];simp only[W_pure,v9,if_true];rw[w_cons];simp only[K7,K1,Z0,W_pure,z0L,eVar,sRet];exact⟨c,rfl,q1,q2,p5⟩
 ·rintro γ h5 ⟨w,w',rfl,p5,hb⟩;exact(z9J l0 hn hb).elim
 ·rintro d h5 ⟨c,rfl,q1,q2,p5⟩;refine⟨cand x l c,[.lst (words.map .str)],rfl,p5,⟨?_,?_,?_,q1⟩,q2⟩
  ·unfold cand;rw[len_app,z23];omega
  ·unfold cand;rw[len_app,z23];omega
  ·exact z3j lx (by omega) (by omega)
theorem z6k {h:AH}{k:Int}{r:AH}{i:Nat}{start:Str}{ns:List Str}(p:PS h k r) (c:CL r) (hk:k<900000) (lo:low start) (hs:start.length<=4) (e:r[i]?=.(l (ns.map .str))) (hn:ns.length<=7) :
 W (z0q [.ref 2,.str start,.ref (i+3)]) h (λd h'=>∃x,d=.str x/\PS h' (k+5) r/\z5c x/\x∉ns) :=
 z6l p c ((z4B p hk lo hs e hn).mono λd h1 ⟨x,j,e,p1,g,n⟩=>⟨_,j,p1,by subst e;rfl,λh2 p2=>⟨x,e,p2,g,n⟩⟩)
theorem z56 {h:AH}{k:Int}{r:AH}{n:Nat}(p:PS h k r) (cl:CL r) (hk:k<800000) (hn:n<=8) {Q:D->AH->Prop}(z:∀ns h',ns.length=n->NS ns->PS h' (k+45) (r++[.lst (ns.map .str)])->Q (.ref (r.length+3)) h') :
 W (z0b [.ref 2,.int n]) h Q:=by
 refine zd1 p cl ?_;refine z1x ?_;show W (z0e [.(r 2),.(i n),none,none,none,none]) h _;unfold z0e;rw[show ("abcdefghijklmnopqrstuvwxyz":Str)=abc from rfl];refine zb9 (.str abc) _ rfl rfl ?_;refine zb9 (.str "") _ rfl rfl ?_;rw[w_cons];refine z03 (λc γ h=>∃x w,γ=[.(r 2),.(i n),.(s abc),.(s x),w,none]/\PS h (k+1+c) r/\low x/\x.length<=c) (λ_ _=>False) ?_;refine zd6 p cl ?_;simp only[K1,K01,K0c,K05,K03,K0k,z06,Z0,x9,W_pure,z5,aNil,j7,z0L,e2,eFn,eLst,eVar,if_true];refine z1R p (by decide) λh1 p1=>?_;refine Y6 p1 (by omega) (by decide) (by decide) λd h2 d0 d1 p2=>?_;obtain⟨v,hv,ea⟩:∃v:Nat,v<=4/\atI [D.int 0,D.int 0,D.int 1,D.int 4] d=.(i v):=by
  have:d=0\/d=1\/d=2\/d=3:=by omega
  rcases this with rfl|rfl|rfl|rfl
  ·exact⟨0,by decide,rfl⟩
  ·exact⟨0,by decide,rfl⟩
  ·exact⟨1,by decide,rfl⟩
  ·exact⟨4,by decide,rfl⟩
 refine z7Q p2 z2d ea ?_;refine⟨_,_,p2,rfl,λh2 p2=>⟨v,rfl,by omega,⟨_,none,rfl,by simpa using p2,z7B,by rw[z8x];omega⟩,?_,?_,λ_ _ q=>q.elim⟩⟩
 ·rintro c γ h3 hc ⟨x,w,rfl,p3,lx,hx⟩;rw[w_cons];simp only[K7,K1,K01,K0c,K05,K03,K0k,z06,Z0,x9,W_pure,z5,aNil,j7,e2,eFn,eVar,gN,if_true,sAsg,z24];refine Y6 p3 (by omega) (by decide) (by decide) λd h1 d0 d1 p1=>?_;refine z2m (k:=k) (r:=r) d0 d1 (by omega) ?_;refine⟨_,_,rfl,p1.up (by omega),z3j lx (by omega) (by omega),by rw[len_app,z23];omega⟩
 rintro γ h3 ⟨x,w,rfl,p3,lx,hx⟩;refine z4z ?_;simp only[K05,K03,Z0,W_pure,aNil,eLst];refine z1R p3 (by decide) λh4 p4=>?_;rw[w_cons];refine z03 (λc γ h=>∃ns w,γ=[.(r 2),.(i n),.(s abc),.(s x),w,.(r (r.length+3))]/\PS h (k+5+5 * c) (r++[.lst (ns.map .str)])/\ns.length=c/\NS ns) (λ_ _=>False) ?_;simp only[K7,K1,W_pure,j7,z0L,eVar];refine⟨n,rfl,by omega,⟨[],_,rfl,p4.up (by omega),rfl,⟨List.nodup_nil,by simp⟩⟩,?_,?_,λ_ _ q=>q.elim⟩
 ·rintro c γ h5 hc ⟨ns,w,rfl,p5,l5,n5⟩;rw[w_cons];simp only[K7,K1,K01,K0c,K05,K03,K0k,z4Z,z06,Z0,x9,W_pure,z5,aNil,j7,eFn,eM1,eVar,if_true,z0z,z24];refine z52 p5 z2d ?_;refine(z6k p5 (cl.put (z0D ns)) (by omega) lx (by omega) z2d (by omega)).mono λy h6 ⟨z,ey,p6,gz,nz⟩=>?_;subst ey;refine z3Y p6 z2d (by simp;omega) λh7 p7=>?_;refine⟨ns++[z],_,rfl,?_,by simp[l5],⟨?_,?_⟩⟩
  ·have:=p7.up (k':=k+5+5 * ((c+1:Nat):Int)) (by omega);simpa using this
  ·rw[K4h];refine⟨n5.1,by simp,λa ha b hb=>?_⟩;simp at hb;subst hb;exact λe=>nz (e ▸ ha)
  ·intro y hy;rcases K0f.mp hy with q|q
   ·exact n5.2 y q
   ·simp at q;subst q;exact gz
 ·rintro γ h5 ⟨ns,w,rfl,p5,l5,n5⟩;exact z9z _ rfl ⟨k+45,_,r.length,_,rfl,p5.up (by omega),K08 _,z2d,z0D ns,λh2 p2=>z ns h2 l5 n5 p2⟩
def z4Q (b0 b1:Int) (m:Nat):List Nat:=(K0u m).filter λ(i:Nat)=>decide (K0o ((if (i:Int) / 20=0 then b0 else b1) / 2 ^ ((i:Int) % 20).toNat) 1=1)
theorem zb8 {γ:G}{m z:Nat}{b0 b1:Int}{h:AH}(e2':γ[2]?=some (.(i m))) (e7:γ[7]?=some (.(r z))) (hz:h[z]?=.(l [.int b0,.int b1])) (hm:m<=40) :
 clE (Z5 k9 (z5 (z01 [some 7,none] (w6 (eVar 2)) (gN 1) (λγ=>do let d <- e2 (fEq false) (e2 fAnd (e2 fShr (e2 fIx (eVar 0) (e2 fDiv (eVar 1) (λ_=>pure (.int 20)))) (e2 fMod (eVar 1) (λ_=>pure (.int 20)))) (λ_=>pure (.int 1))) (λ_=>pure (.int 1)) γ;asB d) (eVar 1)) aNil)) γ h=.ok (.tup (stD (z4Q b0 b1 m))) h:=by
 refine z3k ?_ (z1S _);refine(z1l (src:=.con (y8 m)) (λd=>match d with|.int t=>decide (K0o ((if t / 20=0 then b0 else b1) / 2 ^ (t % 20).toNat) 1=1)|_=>false) (λd=>d) (z0o (by unfold eVar;rw[e2'];rfl) (by omega)) (λ_=>trivial) (by simp[Src.items,y8];omega) λd hd=>?_).trans ?_
 ·obtain⟨t,ht,et⟩:=K2e hd;obtain⟨e5,e6⟩:=z0p (show (y8 m)[t]?=some d by rw[<- et];exact K6 ht);subst e5;refine⟨[.(r z),.(i t)],λh=>by simp only[capG,K0s,K35,e7,K4p];rfl,λj=>?_,λ_ j=>rfl⟩;have q2:atI [D.int b0,D.int b1] ((t:Int) / 20)=.(i ((if (t:Int) / 20=0 then b0 else b1))):=by
   have:(t:Int) / 20=0\/(t:Int) / 20=1:=by omega
   rcases this with q|q
   ·rw[q];rfl
   ·rw[q];rfl
  have q1:fIx (.ref z) (.int ((t:Int) / 20)) (h++j)=.ok (.int (if (t:Int) / 20=0 then b0 else b1)) (h++j):=ix_h (by rw[K06 (K4.mp hz).1];exact hz) q2;have q3:fDiv (.int t) (.int 20)=pure (.int ((t:Int) / 20)):=rfl;have q4:fMod (.int t) (.int 20)=pure (.int ((t:Int) % 20)):=rfl;have q5:∀x:Int,fShr (.int x) (.int ((t:Int) % 20))=pure (.int (x / 2 ^ ((t:Int) % 20).toNat)):=λx=>z7m (by omega);have an:∀x y:Int,fAnd (.int x) (.int y)=pure (.int (K0o x y)):=λ_ _=>rfl;simp only[FT.e2,eVar,K1,K7,bindM,pureM,q3,q1,q4,q5,an,z58,v9];simp
 ·rw[show (Src.con (y8 m)).items=y8 m from rfl,z1G];rfl
theorem zf6 {γ:G}{i:Nat}{ns:List Str}{wo:Int}{h:AH}(e1:γ[1]?=some (.(r i))) (e8:γ[8]?=some (.(i wo))) (hi:h[i]?=.(l (ns.map .str))) (hn:ns.length<=8) :
 clE (Z5 k9 (z5 (Z5 x8 (z5 (z01 [some 1,some 8,none] (w6 (Z5 fLen (z5 (eVar 1) aNil))) (gN 2) (λγ=>do let d <- e2 (fEq false) (e2 fAnd (e2 fShr (eVar 1) (eVar 2)) (λ_=>pure (.int 1))) (λ_=>pure (.int 1)) γ;asB d) (e2 fIx (eVar 0) (eVar 2))) aNil)) aNil)) γ h=.ok (.tup ((z09 (pick ns λt=>decide (K0o (wo / 2 ^ t) 1=1))).map .str)) h:=by
 have pe:(((y8 ns.length).filter λd=>match d with|.int t=>decide (K0o (wo / 2 ^ t.toNat) 1=1)|_=>false).map λd=>match d with|.int t=>D.str ((ns[t.toNat]?).getD "")|_=>.non)=(pick ns λt=>decide (K0o (wo / 2 ^ t) 1=1)).map .str:=by
  rw[z1G];unfold pick;rw[K2g];rfl
 have lp:=z6K ns λt=>decide (K0o (wo / 2 ^ t) 1=1);have c1:z01 [some 1,some 8,none] (w6 (Z5 fLen (z5 (eVar 1) aNil))) (gN 2) (λγ=>do let d <- e2 (fEq false) (e2 fAnd (e2 fShr (eVar 1) (eVar 2)) (λ_=>pure (.int 1))) (λ_=>pure (.int 1)) γ;asB d) (e2 fIx (eVar 0) (eVar 2)) γ h=.ok (.ref h.length) (h++[.lst ((pick ns λt=>decide (K0o (wo / 2 ^ t) 1=1)).map .str)]):=by
  refine(z1l (src:=.con (y8 ns.length)) (λd=>match d with|.int t=>decide (K0o (wo / 2 ^ t.toNat) 1=1)|_=>false) (λd=>match d with|.int t=>.str ((ns[t.toNat]?).getD "")|_=>.non) (z0o ?_ (by omega)) (λ_=>trivial) (by simp[Src.items,y8];omega) λd hd=>?_).trans ?_
  ·refine y0 (d:=.ref i) (h1:=h) (by unfold eVar;rw[e1];rfl) ?_;rw[zk2 hi,K0j]
  ·obtain⟨t,ht,et⟩:=K2e hd;obtain⟨e5,e6⟩:=z0p (show (y8 ns.length)[t]?=some d by rw[<- et];exact K6 ht);subst e5;refine⟨[.(r i),.(i wo),.(i t)],λh=>by simp only[capG,K0s,K35,e1,e8,K4p];rfl,λj=>?_,λ_ j=>?_⟩
   ·have q5:fShr (.int wo) (.int t)=pure (.int (wo / 2 ^ (t:Int).toNat)):=z7m (by omega);have an:∀x y:Int,fAnd (.int x) (.int y)=pure (.int (K0o x y)):=λ_ _=>rfl;simp only[FT.e2,eVar,K1,K7,bindM,pureM,q5,an,z58,v9];simp
   ·have q2:atI (ns.map D.str) (t:Int)=.(s (((ns[t]?).getD ""))):=by
     refine z1V ?_;rw[K0n,K6 e6];rfl
    exact ix_h (by rw[K06 (K4.mp hi).1];exact hi) q2
  ·rw[show (Src.con (y8 ns.length)).items=y8 ns.length from rfl,pe]
 refine z15 (j:=[.lst ((pick ns λt=>decide (K0o (wo / 2 ^ t) 1=1)).map .str),.lst ((z09 (pick ns λt=>decide (K0o (wo / 2 ^ t) 1=1))).map .str)]) ?_ (by simp only[k6];exact z0D _);refine y0 (y0 c1 (z82 (ss:=pick ns λt=>decide (K0o (wo / 2 ^ t) 1=1)) (by simp) (by omega))) ?_;rw[K0e];exact z5S (by simp)
theorem z3y {h:AH}{k:Int}{r:AH}{i:Nat}{ns:List Str}(p:PS h k r) (hk:k<700000) (e:r[i]?=.(l (ns.map .str))) (hn:ns.length<=8) (hg:NS ns) {Q:D->AH->Prop}(z:∀st mk h',MA st mk->PS h' (k+203) r->Q (maD st mk) h') :
 W (j9 [.ref 2,.ref (i+3)]) h Q:=by
 refine z6l p trivial ?_;refine z1x ?_;show W (j8 [.(r 2),.(r (i+3)),none,none,none,none,none,none,none]) h _;unfold j8;have i3:i<r.length:=z6S e;refine z05 (λd h1=>∃t:Int,0<=t/\t<40/\d=.int (1+t)/\PS h1 (k+1) r) ?_ ?_
 ·simp only[K1,K01,K0c,K0k,z06,Z0,x9,W_pure,z5,aNil,e2,eFn,eVar,if_true];refine Y6 p (by omega) (by decide) (by decide) λd h1 d0 d1 p1=>?_;rw[z75,W_pure];exact⟨d,d0,d1,rfl,p1⟩
 rintro _ h1 ⟨t,t0,t1,rfl,p1⟩;refine z1i (λγ h=>∃m:Nat,1<=m/\m<=40/\γ=[.(r 2),.(r (i+3)),.(i m),none,none,none,none,none,none]/\PS h (k+2) r) ?_ ?_
 ·simp only[K1,K01,K0c,K05,K03,K0k,z06,Z0,x9,W_pure,z5,aNil,e2,eFn,eVar,if_true,sIf,z24];refine Y6 p1 (by omega) (by decide) (by decide) λd' h2 d0' d1' p2=>?_;rw[z58,W_pure,v9,W_pure];split
  ·rw[w_cons];simp only[K05,K03,Z0,W_pure,j7,gN,sAsg,z24];exact⟨40,by omega,by omega,rfl,p2.up (by omega)⟩
  ·exact⟨(1+t).toNat,by omega,by omega,by rw[K50 (by omega)],p2.up (by omega)⟩
 rintro γ h2 ⟨m,m1,m2,rfl,p2⟩;refine z05 (λd h1=>∃t:Int,d=.int t/\PS h1 (k+3) r) ?_ ?_
 ·simp only[K1,K01,K0c,K0k,z06,Z0,x9,W_pure,z5,aNil,eFn,eVar,if_true];refine Y6 p2 (by omega) (by decide) (by decide) λd h1 d0 d1 p1=>?_;exact⟨d,rfl,p1.up (by omega)⟩
 rintro _ h3 ⟨dn,rfl,p3⟩;refine z05 (λd h1=>d=.ref (r.length+3)/\PS h1 (k+3) (r++[.lst (stsD [])])) ?_ ?_
 ·simp only[Z0,W_pure,aNil,eLst];exact z1R p3 (by decide) λh4 p4=>⟨rfl,p4⟩
 rintro _ h4 ⟨rfl,p4⟩;refine z05 (λd h1=>d=.ref (r.length+1+3)/\PS h1 (k+3) (r++[.lst (stsD []),.lst (mksD [])])) ?_ ?_
 ·simp only[Z0,W_pure,aNil,eLst];exact z1R p4 (by decide) λh5 p5=>⟨by simp,by rw[K0e]at p5;exact p5⟩
 rintro _ h5 ⟨rfl,p5⟩;refine z1i (λγ h=>∃st mk w w7 w8 j,γ=[.(r 2),.(r (i+3)),.(i m),.(i dn),.(r (r.length+0+3)),.(r (r.length+1+3)),w,w7,w8]/\PS h (k+203) (r++(.lst (stsD st)::.lst (mksD mk)::j))/\st.length=m/\mk.length=m/\AM st mk m) ?_ ?_
 ·refine z03 (λc γ h=>∃st mk w w7 w8 j,γ=[.(r 2),.(r (i+3)),.(i m),.(i dn),.(r (r.length+0+3)),.(r (r.length+1+3)),w,w7,w8]/\PS h (k+3+5 * c) (r++(.lst (stsD st)::.lst (mksD mk)::j))/\st.length=c/\mk.length=c/\AM st mk m) (λ_ _=>False) ?_;simp only[K7,K1,K05,K03,W_pure,e2,eVar];refine⟨m,rfl,by omega,⟨[],[],_,_,_,[],rfl,p5.up (by omega),rfl,rfl,by simp,by simp,by simp⟩,?_,?_,λ_ _ q=>q.elim⟩
  ·rintro c γ h6 hc ⟨st,mk,w,w7,w8,j,rfl,p6,l1,l2,am⟩;refine z05 (λd h1=>∃b0 b1:Int,d=.ref (r.length+(j.length+2)+3)/\PS h1 (k+3+5 * c+2) (r++(.lst (stsD st)::.lst (mksD mk)::(j++[.lst [.int b0,.int b1]])))) ?_ ?_
   ·simp only[K1,K01,K0c,K05,K03,K0k,z06,Z0,x9,W_pure,z5,aNil,eFn,eLst,eVar,if_true];refine Y6 p6 (by omega) (by decide) (by decide) λb0 h7 b00 b01 p7=>?_;refine Y6 p7 (by omega) (by decide) (by decide) λb1 h8 b10 b11 p8=>?_;exact z1R p8 (by simp) λh9 p9=>⟨b0,b1,by simp only[K9,K01],by rw[K0e]at p9;exact p9.up (by omega)⟩
   rintro _ h9 ⟨b0,b1,rfl,p9⟩;refine z1i (λγ h=>∃b0 b1 z j',γ=[.(r 2),.(r (i+3)),.(i m),.(i dn),.(r (r.length+0+3)),.(r (r.length+1+3)),.(i c),.(r (z+3)),w8]/\PS h (k+3+5 * c+4) (r++(.lst (stsD st)::.lst (mksD mk)::j'))/\(∀st',(r++(.lst st'::.lst (mksD mk)::j'))[z]?=.(l [.int b0,.int b1]))) ?_ ?_
   ·have eb:∀b0 b1:Int,∀o1 o2:O,∀j:AH,(r++(o1::o2::(j++[.lst [.int b0,.int b1]])))[r.length+(j.length+2)]?=.(l [.int b0,.int b1]):=λb0 b1 o1 o2 j=>by
     rw[K0t (by omega),show r.length+(j.length+2) - r.length=j.length+2 by omega];simp
    simp only[K7,K1,K05,K03,Z0,x9,W_pure,v9,z6Q,sIf,z24];split
    ·rw[w_cons];simp only[K7,K1,K01,K0c,K05,K03,K0k,z06,Z0,x9,W_pure,z5,aNil,j7,e2,eFn,eLst,eVar,gN,if_true,sAsg,z24];refine z7Q p9 (eb _ _ _ _ _) (show atI [D.int b0,D.int b1] 0=.(i b0) from rfl) ?_;refine Y6 p9 (by omega) (by decide) (by decide) λb2 h10 _ _ p10=>?_;have an:∀x y:Int,fAnd (.int x) (.int y)=pure (.int (K0o x y)):=λ_ _=>rfl;rw[an,W_pure];refine z7Q p10 (eb _ _ _ _ _) (show atI [D.int b0,D.int b1] 1=.(i b1) from rfl) ?_;refine Y6 p10 (by omega) (by decide) (by decide) λb3 h11 _ _ p11=>?_;rw[an,W_pure];refine z1R p11 (by simp) λh12 p12=>?_;refine⟨_,_,r.length+((j++[O.lst [D.int b0,D.int b1]]).length+2),(j++[O.lst [D.int b0,D.int b1]])++[.lst [.int (K0o b0 b2),.int (K0o b1 b3)]],by simp,?_,λst'=>eb _ _ _ _ _⟩;have:=p12.up (k':=k+3+5 * c+4) (by omega);simpa using this
    ·exact⟨b0,b1,_,_,rfl,p9.up (by omega),λst'=>eb _ _ _ _ _⟩
   rintro γ h10 ⟨b0,b1,z,j',rfl,p10,f4⟩;refine z7n (i:=0) rfl p10 rfl (by simp[stsD];omega) (λv k'=>v=.tup (stD (z4Q b0 b1 m))/\k'=k+3+5 * c+4) ?_ ?_
   ·exact W_of (zb8 rfl rfl (by rw[p10.get];exact f4 _) m2) ⟨_,p10,rfl,rfl⟩
   rintro _ _ h11 ⟨rfl,rfl⟩ p11;rw[K03,show stsD st++[D.tup (stD (z4Q b0 b1 m))]=stsD (st++[z4Q b0 b1 m]) by simp[stsD]]at p11;refine z05 (λd h1=>∃t:Int,d=.int t/\PS h1 (k+3+5 * c+5) (r++(.lst (stsD (st++[z4Q b0 b1 m]))::.lst (mksD mk)::j'))) ?_ ?_
   ·simp only[K1,K01,K0c,K0k,z06,Z0,x9,W_pure,z5,aNil,eFn,eVar,if_true];refine Y6 p11 (by omega) (by decide) (by decide) λwo h12 wo0 wo1 p12=>?_;exact⟨wo,rfl,p12.up (by omega)⟩
   rintro _ h12 ⟨wo,rfl,p12⟩;refine z7n (i:=1) rfl p12 rfl (by simp[mksD];omega) (λv k'=>v=.tup ((z09 (pick ns λt=>decide (K0o (wo / 2 ^ t) 1=1))).map .str)/\k'=k+3+5 * c+5) ?_ ?_
   ·exact W_of (zf6 rfl rfl (by rw[p12.get];exact z3O e) hn) ⟨_,p12,rfl,rfl⟩
   rintro _ _ h13 ⟨rfl,rfl⟩ p13;have mp:MK (z09 (pick ns λt=>decide (K0o (wo / 2 ^ t) 1=1))):=z90 hg hn _;rw[K05,K03]at p13;generalize z09 (pick ns λt=>decide (K0o (wo / 2 ^ t) 1=1))=pk at p13 mp;rw[show mksD mk++[D.tup (pk.map .str)]=mksD (mk++[pk]) by simp[mksD]]at p13;refine Y4 ⟨_,_,_,_,_,_,rfl,p13.up (by omega),by simp[l1],by simp[l2],?_,?_,?_⟩
   ·intro l hl;rcases K0f.mp hl with q|q
    ·exact am.1 l q
    ·simp at q;subst q;exact K78 _ List.pairwise_lt_range
   ·intro l hl;rcases K0f.mp hl with q|q
    ·exact am.2.1 l q
    ·simp at q;subst q;intro x hx;simpa using(K23.mp hx).1
   ·intro l hl;rcases K0f.mp hl with q|q
    ·exact am.2.2 l q
    ·simp at q;subst q;exact mp
  ·rintro γ h6 ⟨st,mk,w,w7,w8,j,rfl,p6,l1,l2,am⟩;exact⟨st,mk,w,w7,w8,j,rfl,p6.up (by omega),l1,l2,am⟩
 ·rintro γ h6 ⟨st,mk,w,w7,w8,j,rfl,p6,l1,l2,am⟩;refine zc3 (λd h1=>d=maD st mk/\h1=h6) ?_ ?_
  ·simp only[K7,K1,K01,K0c,K0k,z06,Z0,x9,W_pure,z5,aNil,Z5,eTup,eVar];refine z5b (i:=0) p6 rfl ?_;refine z5b (i:=1) p6 rfl ?_;rw[if_pos (by decide)];exact⟨rfl,rfl⟩
  rintro _ _ ⟨rfl,rfl⟩;refine⟨_,_,p6,?_,λh2 q2=>z st mk h2 ⟨by omega,by omega,by omega,am.1,by rw[l1];exact am.2.1,am.2.2⟩ q2⟩;unfold maD stsD mksD;simp only[k6,Z8,Bool.and_true,K0b];exact⟨Y1 λa=>z1F a,Y1 λa=>by simp only[k6];exact z0D _⟩
theorem z3N {i n:Nat}(h2:i<n):z00 [.int i,.int 0,.int n]=pure (.bl true):=by
 have h1:(0:Int)<=i:=by omega
 have h3:(i:Int)<n:=by omega
 show cln (runF 3 Y5 [.int i,.int 0,.int n])=_;rw[z5P (d:=.bl true),z3Q];show Y5 [.(i i),.(i 0),.(i n)]=_;unfold Y5;refine zc5 _ ?_;simp only[K7,K1,v9,z0l,decide_eq_true h1,decide_eq_true h3,e3,eAnd,eIsi,eNot,eVar,if_true,z7K,z8F,z9r];rfl
theorem z8p {xs:List D}{m n:Nat}(h0:m<=xs.length) (h1:xs.length<=n):x6 [.tup xs,.int m,.int n]=pure (.bl true):=by
 have h2:(xs.length:Int)<=n:=by omega
 have h3:(m:Int)<=xs.length:=by omega
 show cln (runF 3 x5 [.tup xs,.int m,.int n])=_;rw[z5P (d:=.bl true),z3Q];show x5 [.(g xs),.(i m),.(i n)]=_;unfold x5;refine zc5 _ ?_;simp only[K7,K1,z5,aNil,v9,z0l,decide_eq_true h2,decide_eq_true h3,e3,eAnd,Z5,eIsi,eVar,if_true,z8S,z8F,z1m];rfl
theorem z7w {xs:List D}{n:Nat}(h1:xs.length<=n):x6 [.tup xs,.int 0,.int n]=pure (.bl true):=z8p (m:=0) (K3g _) h1
theorem z99 {l:List Nat}{n:Nat}(hn:n<=1000) (hl:l.Pairwise (·<·)) (hm:∀x∈l,x<n):J2 [.tup (stD l),.int n]=pure (.bl true):=by
 have len:=z19 hl hm;refine zj9 rfl λh=>?_;refine z1x ?_;show W (Y2 [.(g (stD l)),.(i n),none]) h _;unfold Y2;refine q_if false ?_ ?_
 ·simp only[K63,K7,K1,K01,K0c,K0k,z5,aNil,z0l,cNot,cVal,eFn,eVar,if_true,z3B,z7w (xs:=stD l) (n:=n) (by rw[y9];omega)]
 rw[if_neg (by decide)];refine z1J ?_;rw[w_cons];refine z03 (λc γ h'=>∃w,γ=[.(g (stD l)),.(i n),w]/\h'=h) (λ_ _=>False) ?_;simp only[K1,Z0,W_pure,z5,aNil,j7,z0L,e2,Z5,eVar,z1m];refine⟨l.length,by rw[y9],by omega,⟨_,rfl,trivial⟩,?_,?_,λ_ _ q=>q.elim⟩
 ·rintro c γ h2 hc ⟨w,rfl,rfl⟩;have mc:(l[c]?).getD 0=l[c]:=by rw[K6 hc];rfl
  have lt:=hm _ (K4r hc);refine q_if false ?_ ?_
  ·have e1:fIx (.tup (stD l)) (.int c)=pure (.int (l[c]:Nat)):=by rw[ix_tup (z9A hc),mc]
   by_cases c0:(0:Int)<c
   ·have e2':((c:Int) - 1)=((c - 1:Nat):Int):=by omega
    have hc1:c - 1<l.length:=by omega
    have lt2:=K5q.mp hl (c - 1) c hc1 hc (by omega);have mc1:(l[c - 1]?).getD 0=l[c - 1]:=by rw[K6 hc1];rfl
    have e3:fIx (.tup (stD l)) (.int ((c:Int) - 1))=pure (.int (l[c - 1]:Nat)):=by rw[e2',ix_tup (z9A hc1),mc1]
    simp only[K1s,K63,K7,K1,K01,K0c,K05,K03,K0k,z5,aNil,v9,z0l,cAnd,cNot,cOr,cVal,decide_eq_false (show ¬((l[c - 1]:Nat):Int) >= (l[c]:Nat) by omega),decide_eq_true c0,e1,e2,e3,eFn,eVar,zf1,z6Q,if_false,if_true,z3N lt,z76,z3B]
   ·simp only[K1s,K63,K7,K1,K01,K0c,K05,K03,K0k,z5,aNil,v9,z0l,cAnd,cNot,cOr,cVal,decide_eq_false c0,e1,e2,eFn,eVar,z6Q,if_false,if_true,z3N lt,z76,z3B]
  rw[if_neg (by decide)];exact z1J (Y4 ⟨_,rfl,rfl⟩)
 ·rintro γ h2 ⟨w,rfl,rfl⟩;exact z9z _ rfl ⟨rfl,[],by simp⟩
inductive Ub (st:List (List Nat)) (W g:List Nat):Nat->Prop
 | goal {x:Nat}:x∈g->Ub st W g x
 | step {x y:Nat}:x∈W->y∈nx st x->Ub st W g y->Ub st W g x
def Clo (st:List (List Nat)) (W T:List Nat):Prop:=∀x∈W,∀y∈nx st x,y∈T->x∈T
theorem zk0 {st:List (List Nat)}{W g T:List Nat}(hg:∀x∈g,x∈T) (c:Clo st W T) {x:Nat}(u:Ub st W g x):x∈T:=by
 induction u with
 | goal h=>exact hg _ h
 | step a b _ ih=>exact c _ a _ b ih
structure UL (st:List (List Nat)) (W g u:List Nat):Prop where
 nd:u.Nodup
 iff:∀x,x∈u↔Ub st W g x
theorem UL.of {st:List (List Nat)}{W g T:List Nat}(nd:T.Nodup) (hg:∀x∈g,x∈T) (c:Clo st W T) (s:∀x∈T,Ub st W g x):UL st W g T:=⟨nd,λx=>⟨s x,zk0 hg c⟩⟩
theorem UL.same {st:List (List Nat)}{W g u v:List Nat}(a:UL st W g u) (b:UL st W g v):k7 u=k7 v :=
 z6J (z0M a.nd) (z0M b.nd) λx=>by rw[sortN_mem,sortN_mem,a.iff,b.iff]
theorem z0Z {st:List (List Nat)}{W g:List Nat}{N:Nat}(hW:∀x∈W,x<N) (hg:∀x∈g,x<N) {x:Nat}(u:Ub st W g x):x<N:=by
 cases u with
 | goal h=>exact hg _ h
 | step a _ _=>exact hW _ a
theorem z9C {st:List (List Nat)}{mk:List (List Str)}(q:MA st mk):SQ st:=⟨q.l1,q.l2,q.s2⟩
theorem ze5 {st:List (List Nat)}{mk:List (List Str)}(q:MA st mk) (x:Nat):(nx st x).Pairwise (·<·):=by
 unfold nx;cases e:st[x]? with
 | none=>exact K49
 | some l=>exact q.s1 l (K0r e)
theorem z5i {st:List (List Nat)}{mk:List (List Str)}(q:MA st mk) (x:Nat):(nx st x).length<=st.length:=z19 (ze5 q x) λy hy=>z87 (z9C q) hy
theorem z6f (l:List Nat) {x:Nat}(h:x∈l):ptD (kvN l) (.inl (x:Int)) (.bl true)=kvN l:=by
 unfold ptD;rw[z3z,decide_eq_true h,if_pos rfl];unfold kvN;rw[K2g];refine K7r λa _=>?_;show (if (K4u (a:Int):Key)=K4u (x:Int) then ((K4u (a:Int):Key),D.bl true) else _)=_;split<;>rfl
theorem z89 (l:List Nat) (x:Nat):ptD (kvN l) (.inl (x:Int)) (.bl true)=kvN (putN l x):=by
 unfold putN;by_cases h:x∈l
 ·rw[if_pos h,z6f l h]
 ·rw[if_neg h,z5R l h]
section
variable {h:AH}{γ:G}{mt:G->M Out}{Q:Out->AH->Prop}{a b i:Nat}
theorem z5M {l:List Nat}{x:Nat}(ea:γ[a]?=some (.(r i))) (eb:γ[b]?=some (.(i x))) (e:h[i]?=some (.dK (kvN l))) (hl:l.length<1000) (z:W (mt γ) (h.set i (.dK (kvN (putN l x)))) Q):W (z6 (sAsg (λ_=>pure (.bl true)) (gDx (eVar a) (eVar b))) mt γ) h Q:=by
 have e1:eVar a γ=pure (.ref i):=by unfold eVar;rw[ea]
 have e2:eVar b γ=pure (.int x):=by unfold eVar;rw[eb]
 have e3:z2T (.ref i) (.int x) (.bl true) h=.ok () (h.set i (.dK (kvN (putN l x)))):=by
  have:keyD (.int x)=some (.inl (x:Int)):=rfl;unfold z2T;dsimp only;rw[this];dsimp only;rw[e];dsimp only;rw[if_pos (by rw[z3n];unfold sizeLine;omega),z89]
 rw[w_cons];unfold sAsg gDx;rw[z0l,e1,z0l,e2,z0l];rw[Z0,Z0];refine W_of e3 ?_;rw[W_pure,W_pure];exact z
theorem z7h {l:List Nat}(e:h[i]?=some (.dK (kvN l))):z3m [.ref i] h=.ok (.int (l.length:Nat)) h:=by
 have g:z28 i h=.ok (kvN l) h:=by unfold z28;rw[e]
 unfold z3m;dsimp only;rw[M.bind_ok g,z3n];rfl
theorem z35 {l:List Nat}(e:h[i]?=some (.dK (kvN l))) (hl:l.length<64):z0t [.ref i] h=.ok (.ref h.length) (h++[.lst (stD (k7 l))]):=by
 have g:z28 i h=.ok (kvN l) h:=by unfold z28;rw[e]
 have e1:z2n (kvN l)=stD l:=by unfold z2n kvN stD;rw[K2g];rfl
 unfold z0t;dsimp only;rw[M.bind_ok g,e1,z2x];dsimp only;rw[if_pos (by unfold zN;rw[K0j];exact hl),z2W];unfold newL;rw[if_pos (K0h (by rw[y9,z0J];omega:_<=64) (by decide))]
theorem z9w {me:G->M D}{bs:List Bool}(e:me γ h=.ok (.ref h.length) (h++[.lst (bs.map .bl)])):clE (Z5 (fAll true) (z5 me aNil)) γ h=.ok (.bl (bs.any id)) h :=
 z15 (j:=[.lst (bs.map .bl)]) (y0 e (by
  have g:getL h.length (h++[O.lst (bs.map .bl)])=.ok (bs.map .bl) (h++[O.lst (bs.map .bl)]):=by unfold getL;rw[z0i]
  unfold fAll;dsimp only;rw[M.bind_ok g,z61];rfl)) rfl
theorem zg0 {st:List (List Nat)}{mk:List (List Str)}{ma mb:G->M D}{x:Nat}(ea:ma γ h=.ok (maD st mk) h) (eb:mb γ h=.ok (.int x) h) (hx:x<st.length):e2 fIx (e2 fIx ma (λ_=>pure (.int 0))) mb γ h=.ok (.tup (stD (nx st x))) h :=
 e2_h (e2_h ea (y:=.int 0) rfl (by rw[z1Y];rfl)) eb (by rw[z9F hx];rfl)
theorem z8e {st:List (List Nat)}{mk:List (List Str)}{T:List Nat}{x:Nat}(q:MA st mk) (e:h[i]?=some (.dK (kvN T))) (hx:x<st.length):z0f [maD st mk,.int x,.ref i] h=.ok (.bl ((nx st x).any λy=>decide (y∈T))) h:=by
 refine z4O ?_ rfl;refine z8m ?_;show W (z0g [some (maD st mk),.(i x),.(r i)]) h _;unfold z0g;have c:=z4U (cap:=[some 2,none]) (mi:=z0Q (e2 fIx (e2 fIx (eVar 0) (λ_=>pure (.int 0))) (eVar 1))) (g:=gN 1) (kb:=λ_=>pure true) (me:=e2 (fInD false) (eVar 1) (eVar 0)) (γ:=[some (maD st mk),.(i x),.(r i)]) (h:=h) (src:=.con (stD (nx st x))) (l:=nx st x) (λ_=>true) (λy=>.bl (decide (y∈T))) (z13 (zg0 (Z2 rfl) (Z2 rfl) hx)) rfl (λ_=>trivial) (by have:=z5i q x;have:=q.l2;omega) λy hy=>⟨[.(r i),.(i y)],λ_=>rfl,λ_=>rfl,λ_ j=>e2_h (Z2 rfl) (Z2 rfl) (by rw[z84 (l:=T) (by rw[K06 (K4.mp e).1];exact e),K4f])⟩;rw[filter_tt,show (nx st x).map (λy=>D.bl (decide (y∈T)))=((nx st x).map λy=>decide (y∈T)).map .bl by rw[K2g];rfl]at c;refine z1s _ (z9w c) ⟨?_,rfl⟩;rw[List.any_map];rfl
end
theorem any_iff {st:List (List Nat)}{T:List Nat}{x:Nat}:((nx st x).any λy=>decide (y∈T))=true↔∃y∈nx st x,y∈T:=by
 rw[K4s];simp only[decide_eq_true_eq]
theorem z6q {a:List Nat}{k:Nat}{x:Nat}(h:x∈a):x∈putN a k:=putN_mem.mpr (.inl h)
theorem z0y {T:List Nat}{N:Nat}(nd:T.Nodup) (l:∀x∈T,x<N):T.length<=N:=z5V nd l
structure Rd1 (st:List (List Nat)) (V g T T':List Nat) (c:Nat):Prop where
 nd:T'.Nodup
 s:∀x∈T',Ub st V g x
 ex:∃e,T'=T++e
 got:∀(i:Nat) x,i<c->V[i]?=some x->(∃y∈nx st x,y∈T)->x∈T'
theorem z6U {st:List (List Nat)}{mk:List (List Str)}{V g:List Nat}{n:Nat}{h:AH}(q:MA st mk) (Vl:∀x∈V,x<st.length) (gn:g.Nodup) (gl:∀x∈g,x<st.length) :
 ∃u,UL st V g u/\J5 [.ref n,maD st mk,.tup (stD V),.tup (stD g)] h=.ok (.tup (stD (k7 u))) h:=by
 have n40:=q.l2;have key:W (runF 7 J0 [.ref n,maD st mk,.tup (stD V),.tup (stD g)]) h λd h1=>(∃u,UL st V g u/\d=.tup (stD (k7 u)))/\∃j,h1=h++j:=by
  refine z1x ?_;show W (J0 [.(r n),some (maD st mk),.(g (stD V)),.(g (stD g)),none,none,none]) h _;unfold J0 z1g;have gle:g.length<=st.length:=z0y gn gl;refine Y9 (.ref h.length) [.(r n),some (maD st mk),.(g (stD V)),.(g (stD g)),.(r h.length),none,none] (z3h (src:=.con (stD g)) (z13 (Z2 rfl)) rfl (λ_=>trivial) gn (by omega) λx hx=>⟨[.(i x)],λ_=>rfl,λ_=>rfl,λ_=>rfl,λ_=>rfl⟩) rfl ?_;refine Y9 (.int (-1)) [.(r n),some (maD st mk),.(g (stD V)),.(g (stD g)),.(r h.length),.(i (-1)),none] rfl rfl ?_;refine z1i (λγ h1=>∃T v w,γ=[.(r n),some (maD st mk),.(g (stD V)),.(g (stD g)),.(r h.length),v,w]/\h1=h++[.dK (kvN T)]/\UL st V g T) ?_ ?_
  ·refine z12 (λm γ h1=>∃(T:List Nat) (many:Int) (w:Option D),γ=[.(r n),some (maD st mk),.(g (stD V)),.(g (stD g)),.(r h.length),.(i many),w]/\h1=h++[.dK (kvN T)]/\T.Nodup/\(∀x∈g,x∈T)/\(∀x∈T,Ub st V g x)/\(many=(T.length:Nat)->Clo st V T)/\m=2 * (st.length+1 - T.length)+(if many=(T.length:Nat) then 0 else 1)) _ _ ?_ 1000000 (2 * (st.length+1 - g.length)+1) _ _ (by omega) ⟨g,-1,_,rfl,rfl,gn,λx hx=>hx,λx hx=>.goal hx,λz=>by omega,by rw[if_neg (by omega)]⟩;rintro m γ h1 ⟨T,many,w,rfl,rfl,nd,hg,hs,hc,hm⟩;have aT:(h++[O.dK (kvN T)])[h.length]?=some (.dK (kvN T)):=z0i;have TN:T.length<=st.length:=z0y nd λx hx=>z0Z Vl gl (hs x hx);refine W.of (a:=!decide ((T.length:Int)=many)) (h':=h++[.dK (kvN T)]) (cb_h (e2_h (y0 (Z2 rfl) (z7h aT)) (Z2 rfl) (by rw[z9f,K3s];rfl))) ?_;by_cases e:(T.length:Int)=many
   ·rw[decide_eq_true e,K63,if_neg (by decide)];exact⟨T,_,_,rfl,rfl,.of nd hg (hc e.symm) hs⟩
   ·rw[decide_eq_false e,Bool.not_false,if_pos rfl];rw[if_neg (λz=>e z.symm)]at hm;refine⟨2 * (st.length+1 - T.length),hm,?_⟩;refine Y9 (.int (T.length:Nat)) [.(r n),some (maD st mk),.(g (stD V)),.(g (stD g)),.(r h.length),.(i (T.length:Nat)),w] (y0 (Z2 rfl) (z7h aT)) rfl ?_;refine z1i (λγ h2=>∃T' w,γ=[.(r n),some (maD st mk),.(g (stD V)),.(g (stD g)),.(r h.length),.(i (T.length:Nat)),w]/\h2=h++[.dK (kvN T')]/\Rd1 st V g T T' V.length) ?_ ?_
    ·refine z0W (λc γ h2=>∃T' w,γ=[.(r n),some (maD st mk),.(g (stD V)),.(g (stD g)),.(r h.length),.(i (T.length:Nat)),w]/\h2=h++[.dK (kvN T')]/\Rd1 st V g T T' c) (λ_ _=>False) ?_;refine W_of (z13 (Z2 rfl)) ⟨⟨T,w,rfl,rfl,nd,hs,⟨[],by simp⟩,λi x hi=>by omega⟩,λ_ _ _ _=>trivial,?_,?_,λ_ _ f=>f.elim⟩
     ·rintro c d γ h2 hd ⟨T',w,rfl,rfl,r⟩;obtain⟨x,rfl,ex⟩:=z3c (show (stD V)[c]?=some d from hd);have xW:=K0r ex;have aT':(h++[O.dK (kvN T')])[h.length]?=some (.dK (kvN T')):=z0i;have TN':T'.length<=st.length:=z0y r.nd λx hx=>z0Z Vl gl (r.s x hx);obtain⟨e',eT⟩:=r.ex;refine W.of (a:=[.(r n),some (maD st mk),.(g (stD V)),.(g (stD g)),.(r h.length),.(i (T.length:Nat)),.(i x)]) rfl ?_;refine z5a _ (cv_h (fn_h (ds:=[maD st mk,.int x,.ref h.length]) (ac_h (Z2 rfl) (ac_h (Z2 rfl) (ac_h (Z2 rfl) rfl))) rfl (z8e q aT' (Vl x xW)))) ?_;by_cases y:((nx st x).any λy=>decide (y∈T'))=true
      ·rw[y,if_pos rfl];refine z67 (z5M (l:=T') rfl rfl aT' (by omega) ?_);rw[z5B];obtain⟨z,z1,z2⟩:=any_iff.mp y;refine z1J (Y4 ⟨putN T' x,_,rfl,rfl,z91 r.nd,λv hv=>?_,?_,λi v hi hv hy=>?_⟩)
       ·rcases putN_mem.mp hv with p|rfl
        ·exact r.s v p
        ·exact .step xW z1 (r.s z z2)
       ·unfold putN;by_cases p:x∈T'
        ·rw[if_pos p];exact⟨e',eT⟩
        ·rw[if_neg p,eT];exact⟨e'++[x],by rw[K0e]⟩
       ·by_cases p:i<c
        ·exact z6q (r.got i v p hv hy)
        ·obtain rfl:i=c:=by omega
         rw[ex]at hv;cases hv;exact putN_mem.mpr (.inr rfl)
      ·rw[Bool.eq_false_iff.mpr y,if_neg (by decide)];refine z1J (Y4 ⟨T',_,rfl,rfl,r.nd,r.s,⟨e',eT⟩,λi v hi hv hy=>?_⟩);by_cases p:i<c
       ·exact r.got i v p hv hy
       ·obtain rfl:i=c:=by omega
        rw[ex]at hv;cases hv;obtain⟨z,z1,z2⟩:=hy;exact absurd (any_iff.mpr ⟨z,z1,by rw[eT];simp[z2]⟩) y
     ·rintro γ h2 ⟨T',w,rfl,rfl,r⟩;exact⟨T',w,rfl,rfl,by rw[show (Src.con (stD V)).items.length=V.length from y9 V]at r;exact r⟩
    ·rintro γ h2 ⟨T',w,rfl,rfl,r⟩;have TN':T'.length<=st.length:=z0y r.nd λx hx=>z0Z Vl gl (r.s x hx);obtain⟨e',eT⟩:=r.ex;refine Y4 ⟨_,?_,T',_,w,rfl,rfl,r.nd,λx hx=>by rw[eT];simp[hg x hx],r.s,λz=>?_,rfl⟩
     ·have l:=congrArg K5v eT;rw[K9]at l;split<;>omega
     ·have l:=congrArg K5v eT;rw[K9]at l;obtain rfl:e'=[]:=K43.mp (by omega);rw[K2c]at eT;subst eT;intro x hx y hy hyT;obtain⟨i,hi,ei⟩:=K2e hx;exact r.got i x hi (by rw[K6 hi,ei]) ⟨y,hy,hyT⟩
  ·rintro γ h1 ⟨T,v,w,rfl,rfl,ul⟩;have TN:T.length<=st.length:=z0y ul.nd λx hx=>z0Z Vl gl ((ul.iff x).mp hx);have aT:(h++[O.dK (kvN T)])[h.length]?=some (.dK (kvN T)):=z0i;refine z1s (.tup (stD (k7 T))) (z3k (y0 (Z2 rfl) (z35 aT (by omega))) (z1S _)) ⟨⟨T,ul,rfl⟩,[.dK (kvN T)],rfl⟩
 obtain⟨d,h1,e,⟨u,hu,rfl⟩,j,rfl⟩:=key;exact⟨u,hu,z15 e (z1F _)⟩
def z25 (L n:Nat):List D:=(K0u n).map λi=>.ref (L+1+i)
def bkH (h:AH) (B:List (List Nat)):AH:=h++(.lst (z25 h.length B.length)::B.map λb=>.lst (stD b))
def bAt (B:List (List Nat)) (y:Nat):List Nat:=(B[y]?).getD []
theorem z5t {B:List (List Nat)}{y z:Nat}{b:List Nat}(hy:y<B.length):bAt (B.set y b) z=if z=y then b else bAt B z:=by
 unfold bAt;by_cases e:z=y
 ·subst e;rw[if_pos rfl,K1k hy];rfl
 ·rw[if_neg e,K1u (λq=>e q.symm)]
section
variable {h:AH}{B:List (List Nat)}
theorem z5x:(bkH h B)[h.length]?=.(l (z25 h.length B.length)):=by
 unfold bkH;rw[K0t (K08 _),K4d];rfl
theorem z4Y {y:Nat}(hy:y<B.length):(bkH h B)[h.length+1+y]?=.(l ((stD (bAt B y)))):=by
 unfold bkH;rw[K0t (by omega),show h.length+1+y - h.length=y+1 by omega,K7,K0n];unfold bAt;rw[K6 hy];rfl
theorem z9Z {y:Nat}{b:List Nat}:(bkH h B).set (h.length+1+y) (.lst (stD b))=bkH h (B.set y b):=by
 unfold bkH;rw[K1f _ _ (by omega),show h.length+1+y - h.length=y+1 by omega,K05,K6y,List.map_set]
theorem z4X {L n y:Nat}(hy:y<n):atI (z25 L n) (y:Int)=.(r (L+1+y)):=by
 refine z1V ?_;unfold z25;rw[K0n,K7s hy];rfl
theorem z5Y:(bkH h B).length=h.length+1+B.length:=by
 unfold bkH;rw[K9,K01,K0j];omega
theorem z8E {i:Nat}:(bkH h (K02 i [])++[O.lst []]).set h.length (O.lst (z25 h.length i++[D.ref (h.length+1+i)]))=bkH h (K02 (i+1) []):=by
 unfold bkH;rw[K0e,K1f _ _ (K08 _),K4d,K25,K25];show h++(O.lst (z25 h.length i++[.ref (h.length+1+i)])::(List.map (λb=>O.lst (stD b)) (K02 i [])++[.lst []]))=_;congr 2
 ·unfold z25;rw[List.range_succ,K6x];rfl
 ·rw[List.replicate_succ',K6x];rfl
end
structure BK (st B:List (List Nat)):Prop where
 len:B.length=st.length
 iff:∀y x,x∈bAt B y↔x<st.length/\y∈nx st x
 sz:∀y,(bAt B y).length<=2000
structure BJ (st:List (List Nat)) (c t:Nat) (B:List (List Nat)):Prop where
 len:B.length=st.length
 iff:∀y x,x∈bAt B y↔(x<c/\y∈nx st x)\/(x=c/\y∈(nx st c).take t)
 sz:∀y,(bAt B y).length<=40 * c+t
theorem z9W {st:List (List Nat)}{mk:List (List Str)}{h:AH}(q:MA st mk):∃B,BK st B/\z0a [maD st mk] h=.ok (.ref h.length) (bkH h B):=by
 have n40:=q.l2;have key:W (z0a [maD st mk]) h λd h1=>d=.ref h.length/\∃B,BK st B/\h1=bkH h B:=by
  refine z1x ?_;show W (z0x [some (maD st mk),none,none,none,none]) h _;unfold z0x z3b;refine z05 (λd h1=>d=.ref h.length/\h1=bkH h (K02 st.length [])) ?_ ?_
  ·refine z5Z ?_;refine W_of (z13 (xs:=stsD st) (e2_h (Z2 rfl) (y:=.int 0) rfl (by rw[z1Y];rfl))) ⟨λi h'=>h'=bkH h (K02 i []),rfl,λ_ _ _=>trivial,?_,?_⟩
   ·rintro i d h' hd rfl;refine W.of (a:=[some d]) rfl ?_;refine W.of (a:=true) rfl ?_;rw[if_pos rfl];refine W_of (v:=.ref (bkH h (K02 i [])).length) (h1:=bkH h (K02 i [])++[.lst []]) rfl ?_;have hi:i<st.length:=by
     have:=(K4.mp (show (stsD st)[i]?=some d from hd)).1;rwa [z0E]at this
    have top:(bkH h (K02 i [])++[O.lst []])[h.length]?=.(l (z25 h.length i)):=by
     rw[K06 (by rw[z5Y];omega),z5x,K25]
    refine W_of (z1z top (by unfold z25;rw[K0j,K2p];omega)) ?_;rw[z5Y,K25,z8E]
   ·rintro h' rfl;exact⟨rfl,by rw[show (Src.con (stsD st)).items.length=st.length from z0E st]⟩
  rintro _ h1 ⟨rfl,rfl⟩;refine z1i (λγ h1=>∃B v2 v3 v4,γ=[some (maD st mk),.(r h.length),v2,v3,v4]/\h1=bkH h B/\BJ st st.length 0 B) ?_ ?_
  ·refine z0W (λc γ h1=>∃B v2 v3 v4,γ=[some (maD st mk),.(r h.length),v2,v3,v4]/\h1=bkH h B/\BJ st c 0 B) (λ_ _=>False) ?_;have src:z6P (e2 fIx (eVar 0) (λ_=>pure (.int 0))) [some (maD st mk),.(r h.length),none,none,none] (bkH h (K02 st.length []))=.ok (.con (z27 (stsD st))) (bkH h (K02 st.length [])):=by
    unfold z6P;rw[M.bind_ok (ac_h (e2_h (Z2 rfl) (y:=.int 0) rfl (by rw[z1Y];rfl)) (ds:=[]) rfl)];rfl
   refine W_of src ⟨⟨_,none,none,none,rfl,rfl,by rw[K25],λy x=>?_,λy=>?_⟩,λ_ _ _ _=>trivial,?_,?_,λ_ _ f=>f.elim⟩
   ·have:bAt (K02 st.length []) y=[]:=by
     unfold bAt;rw[K33];split<;>rfl
    rw[this,K5e];simp
   ·have:bAt (K02 st.length []) y=[]:=by
     unfold bAt;rw[K33];split<;>rfl
    rw[this];simp
   ·rintro c d γ h1 hd ⟨B,v2,v3,v4,rfl,rfl,bj⟩;obtain⟨r,er,rfl⟩:=z5Q (show (z27 (stsD st))[c]?=some d from hd);have hc:c<st.length:=by
     have:=(K4.mp er).1;rwa [z0E]at this
    obtain rfl:r=.tup (stD (nx st c)):=by
     unfold stsD at er;rw[K0n,K6 hc]at er;unfold nx;rw[K6 hc];exact(K0p er).symm
    have nl:=z5i q c;refine W_eq (v:=[some (maD st mk),.(r h.length),.(i c),.(g ((stD (nx st c)))),v4]) (by simp only[K01,K0c,K05,K03,K0k,z0l,z42,gN,z8w,gT,if_true]) ?_;refine z1i (λγ h1=>∃B v4,γ=[some (maD st mk),.(r h.length),.(i c),.(g ((stD (nx st c)))),v4]/\h1=bkH h B/\BJ st c (nx st c).length B) ?_ ?_
    ·refine z0W (λt γ h1=>∃B v4,γ=[some (maD st mk),.(r h.length),.(i c),.(g ((stD (nx st c)))),v4]/\h1=bkH h B/\BJ st c t B) (λ_ _=>False) ?_;refine W_of (z13 (Z2 rfl)) ⟨⟨B,v4,rfl,rfl,bj⟩,λ_ _ _ _=>trivial,?_,?_,λ_ _ f=>f.elim⟩
     ·rintro t d γ h1 hd ⟨B,v4,rfl,rfl,bj⟩;obtain⟨y,rfl,ey⟩:=z3c (show (stD (nx st c))[t]?=some d from hd);have ht:=(K4.mp ey).1;have yn:y<st.length:=z87 (z9C q) (K0r ey);refine W.of (a:=[some (maD st mk),.(r h.length),.(i c),.(g ((stD (nx st c)))),.(i y)]) rfl ?_;have yB:y<B.length:=by rw[bj.len];exact yn
      have eo:e2 fIx (eVar 1) (eVar 4) [some (maD st mk),.(r h.length),.(i c),.(g ((stD (nx st c)))),.(i y)] (bkH h B)=.ok (.ref (h.length+1+y)) (bkH h B):=e2_h (Z2 rfl) (Z2 rfl) (ix_h z5x (z4X yB));refine z5y ?_;unfold eM1;rw[Z0];refine W_of eo ?_;rw[Z0];refine W_of (z3t (z4Y yB)) ?_;rw[Z0];have sz:=bj.sz y;refine W_of (Z2 (d:=.int c) rfl) (W_of (z1z (z4Y yB) (by rw[y9];omega)) ?_);rw[z1e,z9Z];refine Y4 ⟨_,_,rfl,rfl,by rw[K6y];exact bj.len,λz x=>?_,λz=>?_⟩
      ·rw[z5t yB,K8k,ey];have b0:=bj.iff z x;by_cases e:z=y
       ·subst e;rw[if_pos rfl,K0f,b0];simp only[K85,K0f,K14];constructor
        ·rintro((a|⟨a,b⟩)|a)
         ·exact .inl a
         ·exact .inr ⟨a,.inl b⟩
         ·exact .inr ⟨a,.inr trivial⟩
        ·rintro(a|⟨a,b|b⟩)
         ·exact .inl (.inl a)
         ·exact .inl (.inr ⟨a,b⟩)
         ·exact .inr a
       ·rw[if_neg e,b0];simp only[K85,K0f,K14,e,or_false]
      ·rw[z5t yB];have:=bj.sz z;split
       ·rw[K9,K0d];omega
       ·omega
     ·rintro γ h1 ⟨B,v4,rfl,rfl,bj⟩;exact⟨B,v4,rfl,rfl,by rw[show (Src.con (stD (nx st c))).items.length=(nx st c).length from y9 _]at bj;exact bj⟩
    ·rintro γ h1 ⟨B,v4,rfl,rfl,bj⟩;refine Y4 ⟨B,_,_,_,rfl,rfl,bj.len,λy x=>?_,λy=>?_⟩
     ·rw[bj.iff,K4q,K5e];constructor
      ·rintro(⟨a,b⟩|⟨rfl,b⟩)
       ·exact .inl ⟨by omega,b⟩
       ·exact .inl ⟨by omega,b⟩
      ·rintro(⟨a,b⟩|⟨_,b⟩)
       ·by_cases e:x=c
        ·subst e;exact .inr ⟨rfl,b⟩
        ·exact .inl ⟨by omega,b⟩
       ·cases b
     ·have:=bj.sz y;omega
   ·rintro γ h1 ⟨B,v2,v3,v4,rfl,rfl,bj⟩;refine⟨B,v2,v3,v4,rfl,rfl,?_⟩;rw[show (Src.con (z27 (stsD st))).items.length=st.length by simp[Src.items,z27,z0E]]at bj;exact bj
  ·rintro γ h1 ⟨B,v2,v3,v4,rfl,rfl,bj⟩;refine z1s (.ref h.length) (Z2 rfl) ⟨rfl,B,⟨bj.len,λy x=>?_,λy=>?_⟩,rfl⟩
   ·rw[bj.iff,K5e];simp
   ·have:=bj.sz y;omega
 obtain⟨d,h1,e,rfl,B,bk,rfl⟩:=key;exact⟨B,bk,e⟩
def wkH (H:AH) (V T S:List Nat):AH:=H++[.dK (kvN V),.dK (kvN T),.lst (stD S)]
section
variable {H:AH}{V T S:List Nat}
theorem wk_i:(wkH H V T S)[H.length]?=some (.dK (kvN V)):=by unfold wkH;rw[K0t (K08 _),K4d];rfl
theorem wk_t:(wkH H V T S)[H.length+1]?=some (.dK (kvN T)):=by unfold wkH;rw[K0t (by omega),show H.length+1 - H.length=1 by omega];rfl
theorem wk_w:(wkH H V T S)[H.length+2]?=.(l (stD S)):=by unfold wkH;rw[K0t (by omega),show H.length+2 - H.length=2 by omega];rfl
theorem zk5 {T':List Nat}:(wkH H V T S).set (H.length+1) (.dK (kvN T'))=wkH H V T' S:=by unfold wkH;rw[K1f _ _ (by omega),show H.length+1 - H.length=1 by omega];rfl
theorem z9n {S':List Nat}:(wkH H V T S).set (H.length+2) (.lst (stD S'))=wkH H V T S':=by unfold wkH;rw[K1f _ _ (by omega),show H.length+2 - H.length=2 by omega];rfl
theorem z4W {i:Nat}{o:O}(e:H[i]?=some o):(wkH H V T S)[i]?=some o:=by unfold wkH;rw[K06 (K4.mp e).1];exact e
end
structure WkI (st:List (List Nat)) (V g T S:List Nat) (Y:Nat->Prop):Prop where
 nd:T.Nodup
 hg:∀x∈g,x∈T
 hs:∀x∈T,Ub st V g x
 sub:∀x∈S,x∈T
 sn:S.Nodup
 cl:∀y∈T,y∉S->¬ Y y->∀x∈V,y∈nx st x->x∈T
theorem z9v {st:List (List Nat)}{mk:List (List Str)}{V g:List Nat}{n:Nat}{h:AH}(q:MA st mk) (Vn:V.Nodup) (Vl:∀x∈V,x<st.length) (gn:g.Nodup) (gl:∀x∈g,x<st.length) :
 ∃u,UL st V g u/\y4 [.ref n,maD st mk,.tup (stD V),.tup (stD g)] h=.ok (.tup (stD (k7 u))) h:=by
 have n40:=q.l2;have key:W (runF 10 y3 [.ref n,maD st mk,.tup (stD V),.tup (stD g)]) h λd h1=>(∃u,UL st V g u/\d=.tup (stD (k7 u)))/\∃j,h1=h++j:=by
  refine z1x ?_;show W (y3 [.(r n),some (maD st mk),.(g (stD V)),.(g (stD g)),none,none,none,none,none,none]) h _;unfold y3 z1g;have gle:g.length<=st.length:=z0y gn gl;have Vle:V.length<=st.length:=z0y Vn Vl;obtain⟨B,bk,eb⟩:=z9W (h:=h) q;have bl:=z5Y (h:=h) (B:=B);have atB:∀y,y<st.length->(bkH h B)[h.length+1+y]?=.(l ((stD (bAt B y)))):=λy hy=>z4Y (by rw[bk.len];exact hy);have atR:(bkH h B)[h.length]?=.(l (z25 h.length st.length)):=by rw[<- bk.len];exact z5x
  obtain⟨K,eK⟩:∃K,K=bkH h B:=⟨_,rfl⟩;have hj:∃j,K=h++j:=⟨_,eK⟩;rw[<- eK]at eb bl atB atR;refine Y9 (.ref h.length) [.(r n),some (maD st mk),.(g (stD V)),.(g (stD g)),.(r h.length),none,none,none,none,none] (fn_h (ds:=[maD st mk]) (ac_h (Z2 rfl) rfl) rfl eb) rfl ?_;refine Y9 (.ref K.length) [.(r n),some (maD st mk),.(g (stD V)),.(g (stD g)),.(r h.length),.(r K.length),none,none,none,none] (z3h (src:=.con (stD V)) (z13 (Z2 rfl)) rfl (λ_=>trivial) Vn (by omega) λx hx=>⟨[.(i x)],λ_=>rfl,λ_=>rfl,λ_=>rfl,λ_=>rfl⟩) rfl ?_;refine Y9 (.ref (K.length+1)) [.(r n),some (maD st mk),.(g (stD V)),.(g (stD g)),.(r h.length),.(r K.length),.(r (K.length+1)),none,none,none] (h1:=K++[.dK (kvN V)]++[.dK (kvN g)]) (by
   have:=z3h (cap:=[none]) (mi:=z0Q (eVar 3)) (g:=gN 0) (kb:=λ_=>pure true) (me:=eVar 0) (mv:=λ_=>pure (.bl true)) (γ:=[.(r n),some (maD st mk),.(g (stD V)),.(g (stD g)),.(r h.length),.(r K.length),none,none,none,none]) (h:=K++[.dK (kvN V)]) (src:=.con (stD g)) (z13 (Z2 rfl)) rfl (λ_=>trivial) gn (by omega) λx hx=>⟨[.(i x)],λ_=>rfl,λ_=>rfl,λ_=>rfl,λ_=>rfl⟩;rw[this,K9,K0d]) rfl ?_
  refine Y9 (.ref (K.length+2)) [.(r n),some (maD st mk),.(g (stD V)),.(g (stD g)),.(r h.length),.(r K.length),.(r (K.length+1)),.(r (K.length+2)),none,none] (h1:=wkH K V g g) (y0 (Z2 rfl) (by
   show newL (stD g) _=_;rw[z3u (by rw[y9];omega)];unfold wkH;rw[K9,K9,K0d,K0d,K0e,K0e];rfl)) rfl ?_
  refine z1i (λγ h1=>∃T v w,γ=[.(r n),some (maD st mk),.(g (stD V)),.(g (stD g)),.(r h.length),.(r K.length),.(r (K.length+1)),.(r (K.length+2)),v,w]/\h1=wkH K V T []/\UL st V g T) ?_ ?_
  ·refine z12 (λm γ h1=>∃(T S:List Nat) (v w:Option D),γ=[.(r n),some (maD st mk),.(g (stD V)),.(g (stD g)),.(r h.length),.(r K.length),.(r (K.length+1)),.(r (K.length+2)),v,w]/\h1=wkH K V T S/\WkI st V g T S (λ_=>False)/\m=(st.length - T.length)+S.length) _ _ ?_ 1000000 ((st.length - g.length)+g.length) _ _ (by omega) ⟨g,g,_,_,rfl,rfl,⟨gn,λx hx=>hx,λx hx=>.goal hx,λx hx=>hx,gn,λy hy hn=>absurd hy hn⟩,rfl⟩;rintro m γ h1 ⟨T,S,v,w,rfl,rfl,wi,hm⟩;refine W.of (a:=!(stD S).isEmpty) (h':=wkH K V T S) (z9N rfl wk_w) ?_;rcases List.eq_nil_or_concat S with rfl|⟨S,y,rfl⟩
   ·exact⟨T,v,w,rfl,rfl,.of wi.nd wi.hg (λx hx y hy hT=>wi.cl y hT (by simp) (λf=>f) x hx hy) wi.hs⟩
   ·rw[List.concat_eq_append]at *;rw[show (!(stD (S++[y])).isEmpty)=true by unfold stD;simp,if_pos rfl];rw[K9,K0d]at hm;refine⟨(st.length - T.length)+S.length,by omega,?_⟩;have yT:=wi.sub y (by simp);have yl:=z0Z Vl gl (wi.hs y yT);have sn:=wi.sn;rw[K4h]at sn;obtain⟨sn,_,sy⟩:=sn;have ySn:y∉S:=λz=>sy y z y (by simp) rfl;have Sle:S.length<=st.length:=z0y sn λx hx=>z0Z Vl gl (wi.hs x (wi.sub x (by simp[hx])));refine zj7 (i:=K.length+2) (xs:=stD S) (v:=.int y) rfl (by rw[z1e];exact wk_w) (by rw[y9];omega) ?_;rw[z9n];show W _ _ _;have w0:WkI st V g T S (λz=>z=y):=⟨wi.nd,wi.hg,wi.hs,λx hx=>wi.sub x (by simp[hx]),sn,λy' hy' hn ne x hx hy=>wi.cl y' hy' (by simp[hn,ne]) (λf=>f) x hx hy⟩;refine z1i (λγ h2=>∃T' S' w,γ=[.(r n),some (maD st mk),.(g (stD V)),.(g (stD g)),.(r h.length),.(r K.length),.(r (K.length+1)),.(r (K.length+2)),.(i y),w]/\h2=wkH K V T' S'/\WkI st V g T' S' (λz=>z=y)/\y∈T'/\(∀(i:Nat) x,i<(bAt B y).length->(bAt B y)[i]?=some x->x∈V->x∈T')/\(st.length - T.length)+S.length=(st.length - T'.length)+S'.length) ?_ ?_
    ·refine z0W (λt γ h2=>∃T' S' w,γ=[.(r n),some (maD st mk),.(g (stD V)),.(g (stD g)),.(r h.length),.(r K.length),.(r (K.length+1)),.(r (K.length+2)),.(i y),w]/\h2=wkH K V T' S'/\WkI st V g T' S' (λz=>z=y)/\y∈T'/\(∀(i:Nat) x,i<t->(bAt B y)[i]?=some x->x∈V->x∈T')/\(st.length - T.length)+S.length=(st.length - T'.length)+S'.length) (λ_ _=>False) ?_;refine W_of (za2 (e2_h (Z2 rfl) (Z2 rfl) (ix_h (z4W atR) (z4X yl))) (z4W (atB y yl))) ⟨⟨T,S,w,rfl,rfl,w0,yT,λi x hi=>by omega,rfl⟩,?_,?_,?_,λ_ _ f=>f.elim⟩
     ·rintro t γ h2 ⟨T',S',w,rfl,rfl,_⟩;exact z4W (atB y yl)
     ·rintro t d γ h2 hd ⟨T',S',w,rfl,rfl,w1,yT',got,ms⟩;obtain⟨x,rfl,ex⟩:=z3c (show (stD (bAt B y))[t]?=some d from hd);obtain⟨xl,yx⟩:=(bk.iff y x).mp (K0r ex);refine W.of (a:=[.(r n),some (maD st mk),.(g (stD V)),.(g (stD g)),.(r h.length),.(r K.length),.(r (K.length+1)),.(r (K.length+2)),.(i y),.(i x)]) rfl ?_;have TN':T'.length<=st.length:=z0y w1.nd λx hx=>z0Z Vl gl (w1.hs x hx);have SN':S'.length<=st.length:=z0y w1.sn λx hx=>z0Z Vl gl (w1.hs x (w1.sub x hx));have c1:(λγ=>do let d <- e2 (fInD false) (eVar 9) (eVar 5) γ;asB d:G->M Bool) [.(r n),some (maD st mk),.(g (stD V)),.(g (stD g)),.(r h.length),.(r K.length),.(r (K.length+1)),.(r (K.length+2)),.(i y),.(i x)] (wkH K V T' S')=.ok (decide (x∈V)) (wkH K V T' S'):=cb_h (e2_h (Z2 rfl) (Z2 rfl) (by rw[z84 wk_i,K4f]));have c2:(λγ=>do let d <- e2 (fInD true) (eVar 9) (eVar 6) γ;asB d:G->M Bool) [.(r n),some (maD st mk),.(g (stD V)),.(g (stD g)),.(r h.length),.(r K.length),.(r (K.length+1)),.(r (K.length+2)),.(i y),.(i x)] (wkH K V T' S')=.ok (!decide (x∈T')) (wkH K V T' S'):=cb_h (e2_h (Z2 rfl) (Z2 rfl) (by rw[z84 wk_t,K3s]));refine z5a (decide (x∈V)&&!decide (x∈T')) (by
       unfold cAnd;rw[M.bind_ok c1];cases decide (x∈V) with
       | false=>rfl
       | true=>exact c2) ?_
      have gotn:(x∈V->x∈T')->∀(i:Nat) v,i<t+1->(bAt B y)[i]?=some v->v∈V->v∈T':=λhx i v hi hv vV=>by
       by_cases p:i<t
       ·exact got i v p hv vV
       ·obtain rfl:i=t:=by omega
        rw[ex]at hv;cases hv;exact hx vV
      by_cases xV:x∈V
      ·by_cases xT:x∈T'
       ·rw[decide_eq_true xV,decide_eq_true xT,if_neg (by decide)];exact z1J (Y4 ⟨T',S',_,rfl,rfl,w1,yT',gotn λ_=>xT,ms⟩)
       ·rw[decide_eq_true xV,decide_eq_false xT,if_pos (by decide)];have nd2:=z0A w1.nd xT;have TN2:(T'++[x]).length<=st.length:=z0y nd2 λv hv=>by
         rcases K0f.mp hv with p|p
         ·exact z0Z Vl gl (w1.hs v p)
         ·rw[K14]at p;rw[p];exact xl
        rw[K9,K0d]at TN2;refine z67 (z5M (l:=T') rfl rfl wk_t (by omega) ?_);rw[zk5,show putN T' x=T'++[x] by unfold putN;rw[if_neg xT]];refine z67 (z3R (i:=K.length+2) rfl wk_w (by rw[y9];omega) (Z2 rfl) ?_);rw[z1e,z9n];refine z1J (Y4 ⟨T'++[x],S'++[x],_,rfl,rfl,⟨nd2,λv hv=>by simp[w1.hg v hv],λv hv=>?_,λv hv=>?_,z0A w1.sn (λz=>xT (w1.sub x z)),λv hv hn ne u hu hy=>?_⟩,by simp[yT'],λi v hi hv vV=>?_,?_⟩)
        ·rcases K0f.mp hv with p|p
         ·exact w1.hs v p
         ·rw[K14]at p;rw[p];exact .step xV yx (w1.hs y yT')
        ·rcases K0f.mp hv with p|p
         ·simp[w1.sub v p]
         ·simp[K14.mp p]
        ·have v1:v∈T':=by
          rcases K0f.mp hv with p|p
          ·exact p
          ·exact absurd (by simp[K14.mp p]) hn
         have:=w1.cl v v1 (λz=>hn (by simp[z])) ne u hu hy;simp[this]
        ·by_cases p:i<t
         ·have:=got i v p hv vV;simp[this]
         ·obtain rfl:i=t:=by omega
          rw[ex]at hv;cases hv;simp
        ·rw[K9,K9,K0d];omega
      ·rw[decide_eq_false xV,K94,if_neg (by decide)];exact z1J (Y4 ⟨T',S',_,rfl,rfl,w1,yT',gotn λz=>absurd z xV,ms⟩)
     ·rintro γ h2 ⟨T',S',w,rfl,rfl,w1,yT',got,ms⟩;exact⟨T',S',w,rfl,rfl,w1,yT',by rw[show (Src.lst (h.length+1+y) (stD (bAt B y))).items.length=(bAt B y).length from y9 _]at got;exact got,ms⟩
    ·rintro γ h2 ⟨T',S',w,rfl,rfl,w1,yT',got,ms⟩;refine Y4 ⟨_,K3m ms.symm,T',S',_,w,rfl,rfl,⟨w1.nd,w1.hg,w1.hs,w1.sub,w1.sn,λv hv hn _ u hu hy=>?_⟩,rfl⟩;by_cases e:v=y
     ·subst e;obtain⟨i,hi,ei⟩:=K2e ((bk.iff v u).mpr ⟨Vl u hu,hy⟩);exact got i u hi (by rw[K6 hi,ei]) hu
     ·exact w1.cl v hv hn e u hu hy
  ·rintro γ h1 ⟨T,v,w,rfl,rfl,ul⟩;have TN:T.length<=st.length:=z0y ul.nd λx hx=>z0Z Vl gl ((ul.iff x).mp hx);obtain⟨j,ej⟩:=hj;refine z1s (.tup (stD (k7 T))) (z3k (y0 (Z2 rfl) (z35 wk_t (by omega))) (z1S _)) ⟨⟨T,ul,rfl⟩,_,by unfold wkH;rw[ej,K0e]⟩
 obtain⟨d,h1,e,⟨u,hu,rfl⟩,j,rfl⟩:=key;exact⟨u,hu,z15 e (z1F _)⟩
structure LI (st:List (List Nat)) (V g F L:List Nat) (c:Nat):Prop where
 nd:F.Nodup
 hg:∀x∈g,x∈F
 hs:∀x∈F,Ub st V g x
 sub:∀x∈L,x∈F
 cl:∀y∈F,y∉L->∀x∈V,y∈nx st x->x∈F
 cnt:L=[]\/c+1<=F.length
def nxB (st:List (List Nat)) (F L:List Nat) (x:Nat):Bool:=!decide (x∈F)&&!decide ((nx st x).filter (λy=>decide (y∈L))=[])
theorem nxB_iff {st:List (List Nat)}{F L:List Nat}{x:Nat}:nxB st F L x=true↔x∉F/\∃y∈nx st x,y∈L:=by
 unfold nxB;rw[K0b,K2r,K2r,decide_eq_false_iff_not,decide_eq_false_iff_not,K6p];simp only[decide_eq_true_eq];constructor
 ·rintro⟨a,b⟩;refine⟨a,?_⟩;rcases K99 (∃y∈nx st x,y∈L) with z|z
  ·exact z
  ·exact absurd (λy hy hL=>z ⟨y,hy,hL⟩) b
 ·rintro⟨a,y,hy,hL⟩;exact⟨a,λz=>z y hy hL⟩
theorem LI.next {st:List (List Nat)}{V g F L:List Nat}{c:Nat}(Vn:V.Nodup) (a:LI st V g F L c):LI st V g (F++V.filter (nxB st F L)) (V.filter (nxB st F L)) (c+1):=by
 refine⟨?_,λx hx=>by simp[a.hg x hx],λx hx=>?_,λx hx=>K0f.mpr (.inr hx),λy hy hn x hx hyx=>?_,?_⟩
 ·rw[K4h];refine⟨a.nd,Vn.filter _,λx hx z hz=>?_⟩;rintro rfl;exact(nxB_iff.mp (K23.mp hz).2).1 hx
 ·rcases K0f.mp hx with p|p
  ·exact a.hs x p
  ·obtain⟨p1,p2⟩:=K23.mp p;obtain⟨_,y,hy,hL⟩:=nxB_iff.mp p2;exact .step p1 hy (a.hs y (a.sub y hL))
 ·rw[K0f];rcases K0f.mp hy with p|p
  ·by_cases xF:x∈F
   ·exact .inl xF
   ·by_cases yL:y∈L
    ·exact .inr (K23.mpr ⟨hx,nxB_iff.mpr ⟨xF,y,hyx,yL⟩⟩)
    ·exact .inl (a.cl y p yL x hx hyx)
  ·exact absurd p hn
 ·rcases a.cnt with rfl|z
  ·left;rw[K6p];intro x hx z;obtain⟨_,y,_,hL⟩:=nxB_iff.mp z;cases hL
  ·rcases K99 (V.filter (nxB st F L)=[]) with e|e
   ·exact .inl e
   ·right;rw[K9];have:=List.length_pos_iff.mpr e;omega
section
variable {h:AH}{γ:G}
theorem zc7:eLst aNil γ h=.ok (.ref h.length) (h++[.lst []]):=rfl
theorem z9S {i j:Nat}{xs ys:List D}(ei:h[i]?=.(l xs)) (ej:h[j]?=.(l ys)) (l:xs.length+ys.length<=100000):fAdd (.ref i) (.ref j) h=.ok (.ref h.length) (h++[.lst (xs++ys)]):=by
 have g1:getL i h=.ok xs h:=by unfold getL;rw[ei]
 have g2:getL j h=.ok ys h:=by unfold getL;rw[ej]
 show ((getL i >>= λx=>getL j >>= λy=>newL (x++y)):M D) h=_;rw[M.bind_ok g1,M.bind_ok g2];unfold newL;rw[if_pos (K0h (by rw[K9];exact l) (by decide))]
theorem z8o {st:List (List Nat)}{mk:List (List Str)}{L:List Nat}{x b:Nat}{v1 v2 v3 v5 v6:Option D}(q:MA st mk) (eb:h[b]?=.(l (stD L))) (hx:x<st.length) :
 clT (λγ=>do let d <- e2 (fEqX true) (z01 [some 4,none] (z0Q (e2 fIx (e2 fIx (eVar 0) (λ_=>pure (.int 0))) (eVar 7))) (gN 1) (λγ=>do let d <- e2 (fIn false) (eVar 1) (eVar 0) γ;asB d) (eVar 1)) (eLst aNil) γ;asB d:G->M Bool) [some (maD st mk),v1,v2,v3,.(r b),v5,v6,.(i x)] h=.ok (!decide ((nx st x).filter (λy=>decide (y∈L))=[])) h:=by
 have n40:=q.l2;have nl:=z5i q x;have bl:=(K4.mp eb).1;have c:=z4U (cap:=[some 4,none]) (mi:=z0Q (e2 fIx (e2 fIx (eVar 0) (λ_=>pure (.int 0))) (eVar 7))) (g:=gN 1) (kb:=λγ=>do let d <- e2 (fIn false) (eVar 1) (eVar 0) γ;asB d) (me:=eVar 1) (γ:=[some (maD st mk),v1,v2,v3,.(r b),v5,v6,.(i x)]) (h:=h) (src:=.con (stD (nx st x))) (l:=nx st x) (λy=>decide (y∈L)) (λy=>.int y) (z13 (zg0 (Z2 rfl) (Z2 rfl) hx)) rfl (λ_=>trivial) (by omega) λy hy=>⟨[.(r b),.(i y)],λ_=>rfl,λj=>cb_h (e2_h (Z2 rfl) (Z2 rfl) (by rw[z5C (l:=L) (by rw[K06 bl];exact eb),K4f])),λ_ j=>rfl⟩;rw[show ((nx st x).filter λy=>decide (y∈L)).map (λ(y:Nat)=>D.int y)=stD ((nx st x).filter λy=>decide (y∈L)) from rfl]at c;refine zg9 (j:=[.lst (stD ((nx st x).filter λy=>decide (y∈L))),.lst (stD [])]) ?_;have e1:=e2_h (f:=fEqX true) c zc7 (z4V (l:=(nx st x).filter λy=>decide (y∈L)) (m:=[]) (neg:=true) (by rw[K06 (by simp)];exact z0i) z0i);rw[K0e,K3s]at e1;exact cb_h e1
theorem z8T {st:List (List Nat)}{mk:List (List Str)}{V g:List Nat}(q:MA st mk) (Vn:V.Nodup) (Vl:∀x∈V,x<st.length) (gn:g.Nodup) (gl:∀x∈g,x<st.length) :
 ∃u,UL st V g u/\z0d [maD st mk,.tup (stD V),.tup (stD g)] h=.ok (.ref h.length) (h++[.lst (stD (k7 u))]):=by
 have n40:=q.l2;have gle:g.length<=st.length:=z0y gn gl;have Vle:V.length<=st.length:=z0y Vn Vl;have key:W (runF 8 x3 [maD st mk,.tup (stD V),.tup (stD g)]) h λd h1=>∃u,UL st V g u/\∃i j,d=.ref i/\h1=h++j/\h.length<=i/\(h++j)[i]?=.(l ((stD (k7 u)))):=by
  refine z1x ?_;show W (x3 [some (maD st mk),.(g (stD V)),.(g (stD g)),none,none,none,none,none]) h _;unfold x3;refine Y9 (.ref h.length) [some (maD st mk),.(g (stD V)),.(g (stD g)),.(r h.length),none,none,none,none] (h1:=h++[.lst (stD g)]) (y0 (Z2 rfl) (by
   show newL (stD g) _=_;rw[z3u (by rw[y9];omega)])) rfl ?_
  refine Y9 (.ref (h.length+1)) [some (maD st mk),.(g (stD V)),.(g (stD g)),.(r h.length),.(r (h.length+1)),none,none,none] (h1:=h++[.lst (stD g)]++[.lst (stD g)]) (y0 (Z2 rfl) (by
   show newL (stD g) _=_;rw[z3u (by rw[y9];omega),K9,K0d])) rfl ?_
  refine z1i (λγ h1=>∃F a b v5 v6 v7,γ=[some (maD st mk),.(g (stD V)),.(g (stD g)),.(r a),.(r b),v5,v6,v7]/\(∃j,h1=h++j)/\h1[a]?=.(l (stD F))/\UL st V g F) ?_ ?_
  ·refine z0W (λc γ h1=>∃F L a b v5 v6 v7,γ=[some (maD st mk),.(g (stD V)),.(g (stD g)),.(r a),.(r b),v5,v6,v7]/\(∃j,h1=h++j)/\h1[a]?=.(l (stD F))/\h1[b]?=.(l (stD L))/\LI st V g F L c) (λ_ _=>False) ?_;refine W_of (z0o (n:=st.length) (y0 (e2_h (Z2 rfl) (y:=.int 0) rfl (by rw[z1Y];rfl)) (by rw[z1m,z0E];rfl)) (by omega)) ⟨⟨g,g,_,_,_,_,_,rfl,⟨_,by rw[K0e]⟩,by rw[K06 (by simp)];exact z0i,?_,gn,λx hx=>hx,λx hx=>.goal hx,λx hx=>hx,λy hy hn=>absurd hy hn,?_⟩,λ_ _ _ _=>trivial,?_,?_,λ_ _ f=>f.elim⟩
   ·have:=z0i (h:=h++[O.lst (stD g)]) (o:=.lst (stD g));rw[K9,K0d]at this;exact this
   ·cases g with
    | nil=>exact .inl rfl
    | cons a r=>exact .inr (by simp)
   ·rintro c d γ h1 hd ⟨F,L,a,b,v5,v6,v7,rfl,⟨j,rfl⟩,ea,eb,li⟩;obtain⟨rfl,hc⟩:=z0p (show (y8 st.length)[c]?=some d from hd);obtain⟨h1,eh1⟩:∃h1,h1=h++j:=⟨_,rfl⟩;rw[<- eh1]at ea eb ⊢;have al:=(K4.mp ea).1;have bl:=(K4.mp eb).1;refine W.of (a:=[some (maD st mk),.(g (stD V)),.(g (stD g)),.(r a),.(r b),.(i c),v6,v7]) rfl ?_;refine Y9 (.ref h1.length) [some (maD st mk),.(g (stD V)),.(g (stD g)),.(r a),.(r b),.(i c),.(r h1.length),v7] (h1:=h1++[.lst (stD [])]) rfl rfl ?_;refine z1i (λγ h2=>∃w,γ=[some (maD st mk),.(g (stD V)),.(g (stD g)),.(r a),.(r b),.(i c),.(r h1.length),w]/\h2=h1++[.lst (stD (V.filter (nxB st F L)))]) ?_ ?_
    ·refine z0W (λt γ h2=>∃w,γ=[some (maD st mk),.(g (stD V)),.(g (stD g)),.(r a),.(r b),.(i c),.(r h1.length),w]/\h2=h1++[.lst (stD ((V.take t).filter (nxB st F L)))]) (λ_ _=>False) ?_;refine W_of (z13 (Z2 rfl)) ⟨⟨v7,rfl,by rw[K5e];rfl⟩,λ_ _ _ _=>trivial,?_,?_,λ_ _ f=>f.elim⟩
     ·rintro t d γ h2 hd ⟨w,rfl,rfl⟩;obtain⟨x,rfl,ex⟩:=z3c (show (stD V)[t]?=some d from hd);have xl:=Vl x (K0r ex);refine W.of (a:=[some (maD st mk),.(g (stD V)),.(g (stD g)),.(r a),.(r b),.(i c),.(r h1.length),.(i x)]) rfl ?_;obtain⟨R,eR⟩:∃R,R=(V.take t).filter (nxB st F L):=⟨_,rfl⟩;have Rle:R.length<=st.length:=by
       have e1:R.length<=(V.take t).length:=by rw[eR];exact K26 _ _
       rw[K28]at e1;omega
      have nxt:(V.take (t+1)).filter (nxB st F L)=if nxB st F L x=true then R++[x] else R:=by
       rw[K8k,ex,List.filter_append,<- eR];show R++List.filter _ [x]=_;rw[K3n,List.filter_nil];split<;>simp_all
      rw[<- eR,nxt];have ea2:(h1++[O.lst (stD R)])[a]?=.(l (stD F)):=by rw[K06 al];exact ea
      have eb2:(h1++[O.lst (stD R)])[b]?=.(l (stD L)):=by rw[K06 bl];exact eb
      have c1:(λγ=>do let d <- e2 (fIn true) (eVar 7) (eVar 3) γ;asB d:G->M Bool) [some (maD st mk),.(g (stD V)),.(g (stD g)),.(r a),.(r b),.(i c),.(r h1.length),.(i x)] (h1++[O.lst (stD R)])=.ok (!decide (x∈F)) (h1++[O.lst (stD R)]):=cb_h (e2_h (Z2 rfl) (Z2 rfl) (by rw[z5C ea2,K3s]));refine z5a (nxB st F L x) (by
       unfold cAnd nxB;rw[M.bind_ok c1];cases decide (x∈F) with
       | true=>rfl
       | false=>exact z8o q eb2 xl) ?_
      by_cases y:nxB st F L x=true
      ·rw[if_pos y,if_pos y];refine z67 (z3R (i:=h1.length) rfl z0i (by rw[y9];omega) (Z2 rfl) ?_);rw[z5B,z1e];exact z1J (Y4 ⟨_,rfl,rfl⟩)
      ·rw[if_neg y,if_neg y];exact z1J (Y4 ⟨_,rfl,rfl⟩)
     ·rintro γ h2 ⟨w,rfl,rfl⟩;exact⟨w,rfl,by rw[show (Src.con (stD V)).items.length=V.length from y9 V,K4q]⟩
    ·rintro γ h2 ⟨w,rfl,rfl⟩;obtain⟨R,eR⟩:∃R,R=V.filter (nxB st F L):=⟨_,rfl⟩;have ln:=li.next Vn;rw[<- eR]at ln ⊢;have Rle:R.length<=st.length:=by
      have e1:R.length<=V.length:=by rw[eR];exact K26 _ _
      omega
     have Fle:F.length<=st.length:=z0y li.nd λx hx=>z0Z Vl gl (li.hs x hx);have ea2:(h1++[O.lst (stD R)])[a]?=.(l (stD F)):=by rw[K06 al];exact ea
     refine Y9 (.ref (h1++[O.lst (stD R)]).length) [some (maD st mk),.(g (stD V)),.(g (stD g)),.(r ((h1++[O.lst (stD R)]).length)),.(r b),.(i c),.(r h1.length),w] (e2_h (Z2 rfl) (Z2 rfl) (z9S ea2 z0i (by rw[y9,y9];omega))) rfl ?_;refine Y9 (.ref h1.length) [some (maD st mk),.(g (stD V)),.(g (stD g)),.(r ((h1++[O.lst (stD R)]).length)),.(r h1.length),.(i c),.(r h1.length),w] (Z2 rfl) rfl ?_;refine Y4 ⟨F++R,R,_,_,_,_,_,rfl,⟨_,by rw[eh1,K0e,K0e]⟩,by rw[zg1];exact z0i,by rw[K06 (by simp)];exact z0i,ln⟩
   ·rintro γ h1 ⟨F,L,a,b,v5,v6,v7,rfl,hj,ea,eb,li⟩;rw[show (Src.con (y8 st.length)).items.length=st.length by simp[Src.items,y8]]at li;have Fle:F.length<=st.length:=z0y li.nd λx hx=>z0Z Vl gl (li.hs x hx);have L0:L=[]:=by
     rcases li.cnt with z|z
     ·exact z
     ·omega
    subst L0;exact⟨F,a,b,v5,v6,v7,rfl,hj,ea,.of li.nd li.hg (λx hx y hy hF=>li.cl y hF (by simp) x hx hy) li.hs⟩
  ·rintro γ h1 ⟨F,a,b,v5,v6,v7,rfl,⟨j,rfl⟩,ea,ul⟩;have Fle:F.length<=st.length:=z0y ul.nd λx hx=>z0Z Vl gl ((ul.iff x).mp hx);refine z1s (.ref (h++j).length) (y0 (Z2 rfl) (z5N (by omega) ea)) ⟨F,ul,_,j++[.lst (stD (k7 F))],rfl,by rw[K0e],by simp,?_⟩;rw[<- K0e];exact z0i
 obtain⟨d,h1,e,u,hu,i,j,rfl,rfl,hi,ei⟩:=key;exact⟨u,hu,z7U e hi ei (z1S _)⟩
end
structure PT (N:Nat) (l:List Nat):Prop where
 r:l.Pairwise (·<·)
 l:∀x∈l,x<N
theorem PT.nd {N:Nat}{l:List Nat}(p:PT N l):l.Nodup:=z3o p.r
theorem PT.take {N:Nat}{l:List Nat}(p:PT N l) (k:Nat):PT N (l.take k):=⟨p.r.sublist (K8j k l),λx hx=>p.l x (List.mem_of_mem_take hx)⟩
section
variable {h:AH}{γ:G}
theorem z6r {α β:Type}{m:M α}{f:α->M β}(e:m h=.bad):(m >>= f) h=.bad:=by
 show (match m h with|.ok a h1=>f a h1|.err x h1=>.err x h1|.bad=>.bad)=_;rw[e]
theorem chkW {n:Nat}{c:Str}(g:h[n]?=some (.ins c [])):chkI c "until" (.ref n) h=.ok () h:=by
 unfold chkI;dsimp only;rw[g];dsimp only;rw[if_pos ⟨rfl,rfl⟩]
theorem chkN {n:Nat}{c c':Str}(g:h[n]?=some (.ins c [])) (ne:c≠c'):chkI c' "until" (.ref n) h=.bad:=by
 unfold chkI;dsimp only;rw[g];dsimp only;rw[if_neg (λz=>ne z.1)]
theorem mtW {n:Nat}{c:Str}{mf:List D->M D}{mr:G->M (List D)}{x y z d:D}(e:γ[0]?=some (.(r n))) (g:h[n]?=some (.ins c [])) (em:mr γ h=.ok [x,y,z] h) (f:mf [.ref n,x,y,z] h=.ok d h):eMt c "until" 3 mf (eVar 0) mr γ h=.ok d h:=by
 unfold eMt;rw[M.bind_ok (Z2 e),M.bind_ok (chkW g),M.bind_ok em,if_pos (show ([x,y,z]:List D).length=3 from rfl)];exact f
theorem mtN {n:Nat}{c c':Str}{mf:List D->M D}{mr:G->M (List D)}(e:γ[0]?=some (.(r n))) (g:h[n]?=some (.ins c [])) (ne:c≠c'):eMt c' "until" 3 mf (eVar 0) mr γ h=.bad:=by
 unfold eMt;rw[M.bind_ok (Z2 e)];exact z6r (chkN g ne)
theorem z4R {st:List (List Nat)}{mk:List (List Str)}{V g:List Nat}{n:Nat}(q:MA st mk) (pV:PT st.length V) (pg:PT st.length g) (w:h[n]?=some (.ins "Rounds" [])\/h[n]?=some (.ins "Worklist" [])) :
 Y0 [.ref n,maD st mk,.tup (stD V),.tup (stD g)] h=.ok (.bl true) h:=by
 have n40:=q.l2;refine z4O (z8m ?_) rfl;show W (z0c [.(r n),some (maD st mk),.(g (stD V)),.(g (stD g)),none]) h _;unfold z0c;have em:∀(γ:G),γ[1]?=some (some (maD st mk))->γ[2]?=some (.(g (stD V)))->γ[3]?=some (.(g (stD g)))->z5 (eVar 1) (z5 (eVar 2) (z5 (eVar 3) aNil)) γ h=.ok [maD st mk,.tup (stD V),.tup (stD g)] h:=λγ a b c=>ac_h (Z2 a) (ac_h (Z2 b) (ac_h (Z2 c) rfl));obtain⟨u,ul,eu⟩:∃u,UL st V g u/\orE (eMt "Rounds" "until" 3 J5 (eVar 0) (z5 (eVar 1) (z5 (eVar 2) (z5 (eVar 3) aNil)))) (eMt "Worklist" "until" 3 y4 (eVar 0) (z5 (eVar 1) (z5 (eVar 2) (z5 (eVar 3) aNil)))) [.(r n),some (maD st mk),.(g (stD V)),.(g (stD g)),none] h=.ok (.tup (stD (k7 u))) h:=by
  rcases w with w|w
  ·obtain⟨u,ul,e⟩:=z6U (n:=n) (h:=h) q pV.l pg.nd pg.l;exact⟨u,ul,or_l (mtW rfl w (em _ rfl rfl rfl) e)⟩
  ·obtain⟨u,ul,e⟩:=z9v (n:=n) (h:=h) q pV.nd pV.l pg.nd pg.l;exact⟨u,ul,by rw[or_r (mtN rfl w (by decide +kernel))];exact mtW rfl w (em _ rfl rfl rfl) e⟩
 have ule:u.length<=st.length:=z0y ul.nd λx hx=>z0Z pV.l pg.l ((ul.iff x).mp hx);refine Y9 (.tup (stD (k7 u))) [.(r n),some (maD st mk),.(g (stD V)),.(g (stD g)),.(g ((stD (k7 u))))] eu rfl ?_;refine z1s (h1:=h) (.bl true) ?_ ⟨rfl,rfl⟩;have f1:eFn 2 J2 (z5 (eVar 4) (z5 (Z5 fLen (z5 (e2 fIx (eVar 1) (λ_=>pure (.int 0))) aNil)) aNil)) [.(r n),some (maD st mk),.(g (stD V)),.(g (stD g)),.(g ((stD (k7 u))))] h=.ok (.bl true) h:=fn_h (ds:=[.tup (stD (k7 u)),.int (st.length:Nat)]) (ac_h (Z2 rfl) (ac_h (y0 (e2_h (Z2 rfl) (y:=.int 0) rfl (by rw[z1Y];rfl)) (by rw[z1m,z0E];rfl)) rfl)) rfl (by rw[z99 (by omega) (z0M ul.nd) λx hx=>z0Z pV.l pg.l ((ul.iff x).mp (sortN_mem.mp hx))];rfl);unfold eAnd;rw[M.bind_ok f1];obtain⟨v,vl,ev⟩:=z8T (h:=h++[.lst (stD (k7 u))]) q pV.nd pV.l pg.nd pg.l;refine z15 (j:=[.lst (stD (k7 u)),.lst (stD (k7 v))]) ?_ rfl;rw[List.append_cons];refine e2_h (y0 (Z2 rfl) (show newL (stD (k7 u)) h=_ from z3u (by rw[y9,z0J];omega))) (fn_h (ds:=[maD st mk,.tup (stD V),.tup (stD g)]) (ac_h (Z2 rfl) (ac_h (Z2 rfl) (ac_h (Z2 rfl) rfl))) rfl ev) ?_;rw[z4V (l:=k7 u) (m:=k7 v) (by rw[K06 (by simp)];exact z0i) z0i,ul.same vl,decide_eq_true rfl];rfl
end
def rowS (n:Nat):List (List Nat):=(K0u n).map λk=>if 0<k then [k - 1] else []
theorem z9p {st:List (List Nat)}{mk:List (List Str)}(q:MA st mk):MA (rowS st.length) mk:=by
 have e:(rowS st.length).length=st.length:=by unfold rowS;simp
 refine⟨by rw[e];exact q.l1,by rw[e];exact q.l2,by rw[e];exact q.l3,λl hl=>?_,λl hl x hx=>?_,q.m1⟩
 ·unfold rowS at hl;obtain⟨k,_,rfl⟩:=K1v.mp hl;split<;>simp
 ·rw[e];unfold rowS at hl;obtain⟨k,hk,rfl⟩:=K1v.mp hl;have:=K1x.mp hk;split at hx
  ·rw[K14]at hx;omega
  ·cases hx
theorem zi1 {st:List (List Nat)}{mk:List (List Str)}{h:AH}(q:MA st mk):z0N [maD st mk] h=.ok (maD (rowS st.length) mk) h:=by
 have n40:=q.l2;refine z4O (z8m ?_) (za6 _ _);show W (z0K [some (maD st mk),none]) h _;unfold z0K;refine Y9 (.int (st.length:Nat)) [some (maD st mk),.(i (st.length:Nat))] (y0 (e2_h (Z2 rfl) (y:=.int 0) rfl (by rw[z1Y];rfl)) (by rw[z1m,z0E];rfl)) rfl ?_;obtain⟨j,c⟩:=z9B (cap:=[none]) (mi:=w6 (eVar 1)) (g:=gN 0) (kb:=λ_=>pure true) (me:=Z5 k9 (z5 (e2 z1k (eLst (z5 (e2 fSub (eVar 0) (λ_=>pure (.int 1))) aNil)) (Z5 fInt (z5 (e2 fGt (eVar 0) (λ_=>pure (.int 0))) aNil))) aNil)) (γ:=[some (maD st mk),.(i (st.length:Nat))]) (h:=h) (src:=.con (y8 st.length)) (l:=K0u st.length) (λk=>.tup (stD (if 0<k then [k - 1] else []))) (z0o rfl (by omega)) (z8Q _) (λ_=>trivial) (by simp;omega) λx hx=>⟨[.(i x)],λ_=>rfl,λ_=>rfl,λj=>by
  have e1:eLst (z5 (e2 fSub (eVar 0) (λ_=>pure (.int 1))) aNil) [.(i x)] (h++j)=.ok (.ref (h++j).length) (h++j++[.lst [.int ((x:Int) - 1)]]):=rfl;have e2':Z5 fInt (z5 (e2 fGt (eVar 0) (λ_=>pure (.int 0))) aNil) [.(i x)] (h++j++[O.lst [.int ((x:Int) - 1)]])=.ok (.int (if decide ((0:Int)<x)=true then 1 else 0)) (h++j++[O.lst [.int ((x:Int) - 1)]]):=rfl;have e3:z1k (.ref (h++j).length) (.int (if decide ((0:Int)<x)=true then 1 else 0)) (h++j++[O.lst [.int ((x:Int) - 1)]])=.ok (.ref (h++j++[O.lst [.int ((x:Int) - 1)]]).length) (h++j++[O.lst [.int ((x:Int) - 1)]]++[.lst (stD (if 0<x then [x - 1] else []))]):=by
   show fMul (.ref (h++j).length) (.int (if decide ((0:Int)<x)=true then 1 else 0)) (h++j++[O.lst [.int ((x:Int) - 1)]])=_;have g:getL (h++j).length (h++j++[O.lst [.int ((x:Int) - 1)]])=.ok [.int ((x:Int) - 1)] (h++j++[O.lst [.int ((x:Int) - 1)]]):=by unfold getL;rw[z0i]
   unfold fMul;dsimp only;rw[M.bind_ok g];by_cases c:0<x
   ·rw[decide_eq_true (show (0:Int)<x by omega),show (if true=true then (1:Int) else 0)=1 from rfl,if_pos c,if_pos (by decide)];show newL [.int ((x:Int) - 1)] _=_;rw[z3u (by simp),show ((x:Int) - 1)=((x - 1:Nat):Int) by omega];rfl
   ·rw[decide_eq_false (show ¬ (0:Int)<x by omega),show (if false=true then (1:Int) else 0)=0 from rfl,if_neg c,if_pos (by decide)];show newL [] _=_;rw[z3u (by simp)];rfl
  exact⟨[.lst [.int ((x:Int) - 1)],.lst (stD (if 0<x then [x - 1] else []))],by rw[y0 (e2_h e1 e2' e3) (z5S z0i),K0e (h++j)];rfl⟩⟩
 have c2:clE (Z5 k9 (z5 (z01 [none] (w6 (eVar 1)) (gN 0) (λ_=>pure true) (Z5 k9 (z5 (e2 z1k (eLst (z5 (e2 fSub (eVar 0) (λ_=>pure (.int 1))) aNil)) (Z5 fInt (z5 (e2 fGt (eVar 0) (λ_=>pure (.int 0))) aNil))) aNil))) aNil)) [some (maD st mk),.(i (st.length:Nat))] h=.ok (.tup (stsD (rowS st.length))) h:=by
  refine z15 (j:=.lst (stsD (rowS st.length))::j) (y0 (by rw[c];unfold stsD rowS;rw[K2g];rfl) (z5S (by simp))) (by simp only[k6];exact Y1 λa=>z1F a)
 exact z1s (maD (rowS st.length) mk) (z9e c2 (e2_h (Z2 rfl) (y:=.int 1) rfl (by rw[zf0];rfl))) ⟨rfl,rfl⟩
theorem z5I {h:AH}{k:Int}{r:AH}{N:Nat}{Q:D->AH->Prop}(p:PS h k r) (hk:k<500000) (hN:N<=40) (z:∀l h',PT N l->PS h' (k+100) r->Q (.tup (stD l)) h'):W (Y7 [.ref 2,.int (N:Nat)]) h Q:=by
 refine z6l p trivial ?_;refine z1x ?_;show W (z0v [.(r 2),.(i (N:Nat)),none]) h _;unfold z0v;refine z05 (λd h1=>∃t:Int,d=.int t/\PS h1 (k+1) r) ?_ ?_
 ·simp only[K1,K01,K0c,K0k,z06,Z0,x9,W_pure,z5,aNil,eFn,eVar,if_true];exact Y6 p (by omega) (by omega) (by omega) λt h2 t0 t1 p2=>⟨t,rfl,p2⟩
 rintro _ h1 ⟨t,rfl,p1⟩;refine z7o ?_;refine zd6 p1 trivial ?_;simp only[K05,K03,Z0,W_pure,z5,aNil,e2,Z5,eFn,eVar];refine z7i (r:=r) (l:=[]) (λc xs k'=>∃l:List Nat,xs=stD l/\PT c l/\k'=k+1+c) ?_;refine W.of (a:=.con (y8 N)) (h':=h1) (z0o (n:=N) rfl (by omega)) ⟨k+1,by simpa using p1,⟨[],rfl,⟨K49,by simp⟩,by simp⟩,λ_ _ _ _=>trivial,?_,?_⟩
 ·rintro c d h4 k' xs hd ⟨l,rfl,pt,rfl⟩ p4;obtain⟨rfl,hc⟩:=z0p (show (y8 N)[c]?=some d from hd);simp only[capG,K0s,K35,K7,K1];simp only[K7,K1,K01,K0c,K05,K03,K0k,K4p,z06,Z0,x9,W_pure,eVar,gN,if_true];refine Y6 p4 (by omega) (by decide) (by decide) λu h5 u0 u1 p5=>?_;have ll:=z19 pt.r pt.l;rw[z8F,W_pure];simp only[W_pure,v9];by_cases b:u<=t
  ·rw[decide_eq_true b,if_pos rfl];refine⟨_,p5,by rw[y9];omega,l++[c],by rw[<- z1e],⟨?_,λx hx=>?_⟩,by omega⟩
   ·rw[K7g];exact⟨pt.r,by simp,λa ha b hb=>by rw[K14]at hb;subst hb;exact pt.l a ha⟩
   ·rcases K0f.mp hx with q|q
    ·have:=pt.l x q;omega
    ·rw[K14]at q;omega
  ·rw[decide_eq_false b,if_neg (by decide)];exact⟨_,p5,l,rfl,⟨pt.r,λx hx=>by have:=pt.l x hx;omega⟩,by omega⟩
 ·rintro h4 xs k' ⟨l,rfl,pt,rfl⟩ p4;rw[show (Src.con (y8 N)).items.length=N by simp[Src.items,y8]]at pt p4;refine z5b (i:=0) p4 rfl ⟨_,_,p4,z1F l,λh5 p5=>⟨k+100,[],by rw[K2c];exact p5.up (by omega),z1F l,λh6 p6=>z l h6 pt p6⟩⟩
theorem if_W {γ:G}{h:AH}{kk:G->M Bool}{ms mr:G->M Out}{Q:Out->AH->Prop}(z:W (kk γ) h λb h1=>W ((if b=true then ms else mr) γ) h1 Q):W (sIf kk ms mr γ) h Q:=by
 unfold sIf;rw[Z0];exact z.mono λb h1 w=>by cases b<;>exact w
theorem if_w {γ:G}{h:AH}{kk:G->M Bool}{ms mr:G->M Out}{b:Bool}{Q:Out->AH->Prop}(e:kk γ h=.ok b h) (z:W ((if b=true then ms else mr) γ) h Q):W (sIf kk ms mr γ) h Q:=if_W (W_of e z)
theorem math:∀ns:List Int,ns.length<=63->∃h',m_law [.fl (ns.map .int)] []=.ok (.bl true) h':=by
 intro ns hn;have key:W (m_law [.fl (ns.map .int)]) [] λd _=>d=.bl true:=by
  refine z1x ?_;show W (z6t [some (.fl (ns.map .int)),none,none,none,none,none,none,none,none]) [] _;unfold z6t;refine z05 (λd h1=>d=.ref 2/\PS h1 0 []) ?_ ?_
  ·simp only[K1,K01,K0c,K0k,z06,Z0,x9,W_pure,z5,aNil,eFn,eVar,if_true];exact z6w hn
  rintro _ h1 ⟨rfl,p1⟩;refine z05 (λd h2=>∃b,d=.bl b/\PS h2 1 []) ?_ ?_
  ·simp only[K7,K1,K01,K0c,K05,K03,K0k,z06,Z0,x9,W_pure,z5,aNil,e2,eFn,eVar,if_true];refine Y6 p1 (by omega) (by decide) (by decide) λu h2 u0 u1 p2=>?_;rw[z58,W_pure];exact⟨_,rfl,p2⟩
  rintro _ h2 ⟨b,rfl,p2⟩;refine z05 (λd h3=>∃st mk r,d=maD st mk/\MA st mk/\PS h3 1000 r) ?_ ?_
  ·simp only[K7,K1,K01,K0c,K05,K03,K0k,z06,Z0,x9,W_pure,z5,aNil,eFn,eVar,if_true];refine z56 (n:=1) p2 .nil (by omega) (by decide) λnn h3 ln nS p3=>?_;exact z3y (i:=0) p3 (by omega) rfl (by omega) nS λst mk h4 ma p4=>⟨st,mk,_,rfl,ma,p4.up (by omega)⟩
  rintro _ h3 ⟨st,mk,r,rfl,ma,p3⟩;refine z1i (λγ h4=>∃st mk r,γ=[some (.fl (ns.map .int)),.(r 2),some (.bl b),some (maD st mk),none,none,none,none,none]/\MA st mk/\PS h4 1000 r) ?_ ?_
  ·refine if_w (b:=b) (cv_h (Z2 rfl)) ?_;cases b with
   | true =>
    rw[if_pos rfl];exact Y9 (maD (rowS st.length) mk) _ (fn_h (ds:=[maD st mk]) (ac_h (Z2 rfl) rfl) rfl (zi1 ma)) rfl (Y4 ⟨_,mk,r,rfl,z9p ma,p3⟩)
   | false =>
    rw[if_neg (by decide)];exact Y4 ⟨st,mk,r,rfl,ma,p3⟩
  clear ma p3;rintro _ h4 ⟨st,mk,r,rfl,ma,p4⟩;have n40:=ma.l2;refine Y9 (.int (st.length:Nat)) [some (.fl (ns.map .int)),.(r 2),some (.bl b),some (maD st mk),.(i (st.length:Nat)),none,none,none,none] (y0 (e2_h (Z2 rfl) (y:=.int 0) rfl (by rw[z1Y];rfl)) (by rw[z1m,z0E];rfl)) rfl ?_;refine z05 (λd h5=>∃V,d=.tup (stD V)/\PT st.length V/\PS h5 1100 r) ?_ ?_
  ·simp only[K7,K1,K01,K0c,K0k,z06,Z0,x9,W_pure,z5,aNil,eFn,eVar,if_true];exact z5I p4 (by omega) n40 λl h' pt ps=>⟨l,rfl,pt,ps.up (by omega)⟩
  rintro _ h5 ⟨V,rfl,pV,p5⟩;refine z05 (λd h6=>∃g,d=.tup (stD g)/\PT st.length g/\PS h6 1200 r) ?_ ?_
  ·simp only[K7,K1,K01,K0c,K05,K03,K0k,z06,Z0,x9,W_pure,z5,aNil,eFn,eVar,if_true];exact z5I p5 (by omega) n40 λl h' pt ps=>⟨l,rfl,pt,ps.up (by omega)⟩
  rintro _ h6 ⟨g,rfl,pg,p6⟩;refine z1i (λγ h7=>∃V g r,γ=[some (.fl (ns.map .int)),.(r 2),some (.bl b),some (maD st mk),.(i (st.length:Nat)),.(g (stD V)),.(g (stD g)),none,none]/\PT st.length V/\PT st.length g/\PS h7 2000 r) ?_ ?_
  ·have body:∀h7 r,PS h7 1300 r->W (z6 (sAsg (z3G (eVar 6) z6C (z6M (λ_=>pure (.int 1)))) (gN 6)) (z6 (sAsg (Z5 k9 (z5 (Z5 x8 (z5 (z01 [some 1,none] (w6 (eVar 4)) (gN 1) (λγ=>do let d <- e2 fGt (eFn 2 z8 (z5 (eVar 0) (z5 (λ_=>pure (.int 40)) aNil))) (λ_=>pure (.int 0)) γ;asB d) (eVar 1)) aNil)) aNil)) (gN 5)) bNil) [some (.fl (ns.map .int)),.(r 2),some (.bl b),some (maD st mk),.(i (st.length:Nat)),.(g (stD V)),.(g (stD g)),none,none]) h7 (endW (λγ h7=>∃V g r,γ=[some (.fl (ns.map .int)),.(r 2),some (.bl b),some (maD st mk),.(i (st.length:Nat)),.(g (stD V)),.(g (stD g)),none,none]/\PT st.length V/\PT st.length g/\PS h7 2000 r) λd h=>(runW λd _=>d=.bl true) (.rt d) h):=λh7 r p7=>by
    refine Y9 (h1:=h7) (.tup (stD (g.take 1))) [some (.fl (ns.map .int)),.(r 2),some (.bl b),some (maD st mk),.(i (st.length:Nat)),.(g (stD V)),.(g ((stD (g.take 1)))),none,none] ?_ rfl ?_
    ·have e3:z6M (λ_=>pure (.int 1)) [some (.fl (ns.map .int)),.(r 2),some (.bl b),some (maD st mk),.(i (st.length:Nat)),.(g (stD V)),.(g (stD g)),none,none] h7=.ok (some ((1:Nat):Int)) h7:=rfl;unfold z3G;rw[M.bind_ok (Z2 (d:=.tup (stD g)) rfl),M.bind_ok (show z6C _ h7=.ok none h7 from rfl),M.bind_ok e3,sl_tup,zc1];unfold stD;rw[List.map_take];rfl
    refine z05 (λd h8=>∃V r',d=.tup (stD V)/\PT st.length V/\PS h8 2000 r') ?_ ?_
    ·simp only[Z0,W_pure,z5,aNil,e2,Z5,eFn,eVar];refine z7i (r:=r) (l:=[]) (λc xs k'=>∃l:List Nat,xs=stD l/\PT c l/\k'=1300+c) ?_;have es7:w6 (eVar 4) [some (.fl (ns.map .int)),.(r 2),some (.bl b),some (maD st mk),.(i (st.length:Nat)),.(g (stD V)),.(g ((stD (g.take 1)))),none,none] h7=.ok (.con (y8 st.length)) h7:=z0o (n:=st.length) (Z2 rfl) (by omega);refine W_of es7 ?_;refine⟨1300,by rw[K2c];exact p7,⟨[],rfl,⟨K49,by simp⟩,by simp⟩,λ_ _ _ _=>trivial,?_,?_⟩
     ·rintro c d h4 k' xs hd ⟨l,rfl,pt,rfl⟩ p4;obtain⟨rfl,hc⟩:=z0p (show (y8 st.length)[c]?=some d from hd);simp only[capG,K0s,K35,K7,K1];simp only[K7,K1,K01,K0c,K05,K03,K0k,K4p,z06,Z0,x9,W_pure,eVar,gN,if_true];refine Y6 p4 (by omega) (by decide) (by decide) λu h5 u0 u1 p5=>?_;have ll:=z19 pt.r pt.l;rw[z6Q,W_pure];simp only[W_pure,v9];by_cases b:0<u
      ·rw[decide_eq_true b,if_pos rfl];refine⟨_,p5,by rw[y9];omega,l++[c],by rw[<- z1e],⟨?_,λx hx=>?_⟩,by omega⟩
       ·rw[K7g];exact⟨pt.r,by simp,λa ha b hb=>by rw[K14]at hb;subst hb;exact pt.l a ha⟩
       ·rcases K0f.mp hx with q|q
        ·have:=pt.l x q;omega
        ·rw[K14]at q;omega
      ·rw[decide_eq_false b,if_neg (by decide)];exact⟨_,p5,l,rfl,⟨pt.r,λx hx=>by have:=pt.l x hx;omega⟩,by omega⟩
     ·rintro h4 xs k' ⟨l,rfl,pt,rfl⟩ p4;rw[show (Src.con (y8 st.length)).items.length=st.length by simp[Src.items,y8]]at pt p4;have ll:=z19 pt.r pt.l;refine W_of (z5N (S:=l) (by omega) (by
       have:=p4.get r.length;rw[show (r++([]++[O.lst (stD l)]))[r.length]?=.(l (stD l)) by simp]at this;exact this)) (W_of (z5S z0i) ?_)
      exact⟨k7 l,_,rfl,⟨z0M pt.nd,λx hx=>pt.l x (sortN_mem.mp hx)⟩,(p4.app _).up (by omega)⟩
    rintro _ h8 ⟨V,r',rfl,pV,p8⟩;exact Y4 ⟨V,g.take 1,r',rfl,pV,pg.take 1,p8⟩
   refine if_W ?_;unfold cOr;rw[Z0];refine W_of (cv_h (Z2 (d:=.bl b) rfl)) ?_;cases b with
   | true =>
    rw[if_pos rfl,W_pure,if_pos rfl];exact body h6 r (p6.up (by omega))
   | false =>
    rw[if_neg (by decide)];simp only[K7,K1,K01,K0c,K05,K03,K0k,z06,Z0,x9,W_pure,z5,aNil,e2,eFn,eVar,if_true];refine Y6 p6 (by omega) (by decide) (by decide) λu h7 u0 u1 p7=>?_;rw[z58,W_pure];simp only[W_pure,v9];split
    ·exact body h7 r (p7.up (by omega))
    ·exact Y4 ⟨V,g,r,rfl,pV,pg,p7.up (by omega)⟩
  clear pV pg;rintro _ h7 ⟨V,g,r,rfl,pV,pg,p7⟩;refine z05 (λd h8=>∃o,d=.tup (stD o)/\PT st.length o) ?_ ?_
  ·simp only[K7,K1,K01,K0c,K0k,z06,Z0,x9,W_pure,z5,aNil,eFn,eVar,if_true];exact z5I p7 (by omega) n40 λl h' pt ps=>⟨l,rfl,pt⟩
  rintro _ h8 ⟨o,rfl,po⟩;obtain⟨h9,e9⟩:∃h9,h9=h8++[O.ins "Rounds" []]++[.ins "Worklist" []]++[.lst [.ref h8.length,.ref (h8.length+1)]]:=⟨_,rfl⟩;have g0:h9[h8.length]?=some (.ins "Rounds" []):=by rw[e9];simp
  have g1:h9[h8.length+1]?=some (.ins "Worklist" []):=by
   rw[e9,K06 (by simp)];have:=z0i (h:=h8++[O.ins "Rounds" []]) (o:=.ins "Worklist" []);rw[K9,K0d]at this;exact this
  have g2:h9[h8.length+2]?=.(l [.ref h8.length,.ref (h8.length+1)]):=by
   rw[e9];have:=z0i (h:=h8++[O.ins "Rounds" []]++[.ins "Worklist" []]) (o:=.lst [.ref h8.length,.ref (h8.length+1)]);rw[K9,K9,K0d,K0d]at this;exact this
  have src:z1E (eLst (z5 (z2s "Rounds") (z5 (z2s "Worklist") aNil))) [some (.fl (ns.map .int)),.(r 2),some (.bl b),some (maD st mk),.(i (st.length:Nat)),.(g (stD V)),.(g (stD g)),.(g (stD o)),none] h8=.ok (.lst (h8.length+2) [.ref h8.length,.ref (h8.length+1)]) h9:=by
   have e1:eLst (z5 (z2s "Rounds") (z5 (z2s "Worklist") aNil)) [some (.fl (ns.map .int)),.(r 2),some (.bl b),some (maD st mk),.(i (st.length:Nat)),.(g (stD V)),.(g (stD g)),.(g (stD o)),none] h8=.ok (.ref (h8.length+2)) h9:=by
    have a2:z5 (z2s "Rounds") (z5 (z2s "Worklist") aNil) [some (.fl (ns.map .int)),.(r 2),some (.bl b),some (maD st mk),.(i (st.length:Nat)),.(g (stD V)),.(g (stD g)),.(g (stD o)),none] h8=.ok [.ref h8.length,.ref (h8.length+1)] (h8++[O.ins "Rounds" []]++[.ins "Worklist" []]):=by
     refine ac_h (h1:=h8++[O.ins "Rounds" []]) rfl (ac_h (h1:=h8++[O.ins "Rounds" []]++[.ins "Worklist" []]) (d:=.ref (h8.length+1)) ?_ rfl);show Res.ok (D.ref (h8++[O.ins "Rounds" []]).length) _=_;rw[K9,K0d]
    unfold eLst;rw[M.bind_ok a2];show newL _ _=_;rw[z3u (by simp),e9,K9,K9,K0d,K0d]
   have g:getL (h8.length+2) h9=.ok [.ref h8.length,.ref (h8.length+1)] h9:=by unfold getL;rw[g2]
   unfold z1E;rw[M.bind_ok e1];dsimp only;rw[M.bind_ok g];rfl
  rw[w_cons];refine z0W (λc γ h'=>∃v,γ=[some (.fl (ns.map .int)),.(r 2),some (.bl b),some (maD st mk),.(i (st.length:Nat)),.(g (stD V)),.(g (stD g)),.(g (stD o)),v]/\h'=h9) (λ_ _=>False) ?_;refine W_of src ⟨⟨_,rfl,rfl⟩,?_,?_,?_,λ_ _ f=>f.elim⟩
  ·rintro i γ h' ⟨v,rfl,rfl⟩;exact g2
  ·rintro c d γ h' hd ⟨v,rfl,rfl⟩;obtain⟨n,rfl,hw⟩:∃n,d=.ref n/\(h'[n]?=some (.ins "Rounds" [])\/h'[n]?=some (.ins "Worklist" [])):=by
    have hd:([.ref h8.length,.ref (h8.length+1)]:List D)[c]?=some d:=hd
    match c,hd with
    | 0,hd=>exact⟨_,(K0p hd).symm,.inl g0⟩
    | 1,hd=>exact⟨_,(K0p hd).symm,.inr g1⟩
   refine W.of (a:=[some (.fl (ns.map .int)),.(r 2),some (.bl b),some (maD st mk),.(i (st.length:Nat)),.(g (stD V)),.(g (stD g)),.(g (stD o)),.(r n)]) rfl ?_;have r1:=z4R (n:=n) ma pV pg hw;have r2:=z4R (n:=n) ma pg po hw;refine z5a false (zm0 (cn_h (b:=true) (cv_h (fn_h (ds:=[.ref n,maD st mk,.tup (stD V),.tup (stD g)]) (ac_h (Z2 rfl) (ac_h (Z2 rfl) (ac_h (Z2 rfl) (ac_h (Z2 rfl) rfl)))) rfl r1))) (cn_h (b:=true) (cv_h (fn_h (ds:=[.ref n,maD st mk,.tup (stD g),.tup (stD o)]) (ac_h (Z2 rfl) (ac_h (Z2 rfl) (ac_h (Z2 rfl) (ac_h (Z2 rfl) rfl)))) rfl r2)))) ?_;rw[if_neg (by decide)];refine z1J (z5a false (cn_h (b:=true) (cv_h (fn_h (ds:=[.ref n,maD st mk,.tup (stD V),.tup (stD g)]) (ac_h (Z2 rfl) (ac_h (Z2 rfl) (ac_h (Z2 rfl) (ac_h (Z2 rfl) rfl)))) rfl r1))) ?_);rw[if_neg (by decide)];exact z1J (Y4 ⟨_,rfl,rfl⟩)
  ·rintro γ h' ⟨v,rfl,rfl⟩;exact z1s (.bl true) rfl rfl
 obtain⟨d,h',e,rfl⟩:=key;exact⟨h',e⟩
theorem okL_law {P:K0a}{w:World}{K:K0}{mg:Str->Option Value}{base:Heap}{f:Addr}{fd:K1l}(F:Fun K "law" "law" (top 45) f fd) (F00:mg "len" = none) (F01:mg "range" = none) (F04:mg "sorted" = none) (F03:mg "tuple" = none) (M_Rounds:InO K mg "Rounds") (M_Worklist:InO K mg "Worklist") (F02:Fn P w K mg base 1 "_law_draw" 2 z8) (F0m:Fn P w K mg base 2 "_law_great_machine" 2 j9) (F0n:Fn P w K mg base 3 "_law_names" 2 z0b) (F0o:Fn P w K mg base 1 "_law_pool" 1 z0s) (F08:Fn P w K mg base 3 "_law_right" 4 Y0) (F0p:Fn P w K mg base 1 "_law_row" 1 z0N) (F09:Fn P w K mg base 2 "_law_some" 2 Y7):FnOk P w K mg base CX0 4 f fd ["_law_script"] (spB K m_law 1) :=
 zi5 F sc_law rfl λcdv A outer s H E hr=>(show SB (cxOf CX0 P w K mg base ["_law_script","_law_pool_here","_law_row_here","_law_machine","_law_many","_law_within","_law_goal","_law_other","_law_way"] "law" (Z3 (top 45)) f cdv A outer s H E).nox EX0 (J4 (top 45)) z6t from
  have nd:(["_law_script","_law_pool_here","_law_row_here","_law_machine","_law_many","_law_within","_law_goal","_law_other","_law_way"]:List Str).Nodup:=sc_law.nd
  (z4 (j3 1 nd (Z4 F0o (hr.mono (by decide)) rfl (z3 (z0 0) z9))) (z4 (j3 2 nd (se_c z4s (Z4 F02 (hr.mono (by decide)) rfl (z3 (z0 1) (z3 z7 z9))) z7)) (z4 (j3 3 nd (Z4 F0m (hr.mono (by decide)) rfl (z3 (z0 1) (z3 (Z4 F0n (hr.mono (by decide)) rfl (z3 (z0 1) (z3 z7 z9))) z9)))) (z4 (s_if (z16 (z0 2)) (z4 (j3 3 nd (Z4 F0p (hr.mono (by decide)) rfl (z3 (z0 3) z9))) Z1) Z1) (z4 (j3 4 nd (z0S rfl F00 (z3 (y6 (z0 3) z7) z9))) (z4 (j3 5 nd (Z4 F09 (hr.mono (by decide)) rfl (z3 (z0 1) (z3 (z0 4) z9)))) (z4 (j3 6 nd (Z4 F09 (hr.mono (by decide)) rfl (z3 (z0 1) (z3 (z0 4) z9)))) (z4 (s_if (SW.sc (z8n (z16 (z0 2)) (z4K (sc_c z4s (Z4 F02 (hr.mono (by decide)) rfl (z3 (z0 1) (z3 z7 z9))) z7)))) (z4 (j3 6 nd (z6s (z0 6) z8M (z7G z7))) (z4 (j3 5 nd (Y8 rfl F03 (z3 (z1Q rfl rfl F04 (z3 (z0G (N':=["_law_pool_here","_law_one"]) (cap:=[some 1,none]) rfl (z1b (by first|rfl|kernel_rfl!)) (J9 rfl F01 (z0 4)) (λ_ _ _ _=>(J8 1 (show (["_law_pool_here","_law_one"]:List Str).Nodup by decide +kernel))) (λ_ _ _ _=>(z0X (sc_c z4v (Z4 F02 (hr.mono (by decide)) rfl (z3 (z0 0) (z3 z7 z9))) z7))) (λ_ _ _ _=>(z0 1))) z9)) z9))) Z1)) Z1) (z4 (j3 7 nd (Z4 F09 (hr.mono (by decide)) rfl (z3 (z0 1) (z3 (z0 4) z9)))) (z4 (z1c K0y rfl (z2r (z0m (z3 (z5f M_Rounds rfl) (z3 (z5f M_Worklist rfl) z9)))) (Y3 8 nd) (z4 (s_if (SW.sc (z8n (z31 (z16 (Z4 F08 (hr.mono (by decide)) rfl (z3 (z0 8) (z3 (z0 3) (z3 (z0 5) (z3 (z0 6) z9))))))) (z4K (z31 (z16 (Z4 F08 (hr.mono (by decide)) rfl (z3 (z0 8) (z3 (z0 3) (z3 (z0 6) (z3 (z0 7) z9)))))))))) (z4 (z08 z1T) Z1) Z1) (z4 (s_if (z31 (z16 (Z4 F08 (hr.mono (by decide)) rfl (z3 (z0 8) (z3 (z0 3) (z3 (z0 5) (z3 (z0 6) z9))))))) (z4 (z08 z1T) Z1) Z1) Z1))) (z4 (z08 z1T) Z1))))))))))))
end FT
open PySem PySem.W PyProof.Rows
set_option maxRecDepth 100000 in
set_option maxHeartbeats 0 in
theorem PySem.Challenge.cw_fairtrees_k28_whole_until_both_ways_holds : PySem.Challenge.rw_fairtrees_k28_whole_until_both_ways.Holds := by
 refine FT.pack.2 ?_;unfold FT.pack;dsimp only
 k_fill
 refine FT.law_walk (l:=K5) (lev:=4) (p:="_law_script") (m:=FT.m_law) rfl rfl ⟨rfl,by decide,by decide,rfl⟩ (λw h Y=>PySem.W.kIn_of Y) ?F FT.math
 case F =>
  intro w mg fa h KX G hmg;have F0q:FT.DefAt (L2.KOf KX) "_law_pool" (FT.top 33):=by
   dsimp only[L2.KOf];refine' FT.defAt_mk ?a ?l ?c ?k;(case a=>k_is);(case l=>k_is);(case c=>k_is);(case k=>k_is)
  have F0r:FT.DefAt (L2.KOf KX) "_law_draw" (FT.top 34):=by
   dsimp only[L2.KOf];refine' FT.defAt_mk ?a ?l ?c ?k;(case a=>k_is);(case l=>k_is);(case c=>k_is);(case k=>k_is)
  have F0s:FT.DefAt (L2.KOf KX) "_law_great_machine" (FT.top 37):=by
   dsimp only[L2.KOf];refine' FT.defAt_mk ?a ?l ?c ?k;(case a=>k_is);(case l=>k_is);(case c=>k_is);(case k=>k_is)
  have F0t:FT.DefAt (L2.KOf KX) "_law_some" (FT.top 41):=by
   dsimp only[L2.KOf];refine' FT.defAt_mk ?a ?l ?c ?k;(case a=>k_is);(case l=>k_is);(case c=>k_is);(case k=>k_is)
  have F0u:FT.DefAt (L2.KOf KX) "_law_name" (FT.top 35):=by
   dsimp only[L2.KOf];refine' FT.defAt_mk ?a ?l ?c ?k;(case a=>k_is);(case l=>k_is);(case c=>k_is);(case k=>k_is)
  have F0v:FT.DefAt (L2.KOf KX) "_law_names" (FT.top 36):=by
   dsimp only[L2.KOf];refine' FT.defAt_mk ?a ?l ?c ?k;(case a=>k_is);(case l=>k_is);(case c=>k_is);(case k=>k_is)
  have F0w:FT.DefAt (L2.KOf KX) "_law_row" (FT.top 42):=by
   dsimp only[L2.KOf];refine' FT.defAt_mk ?a ?l ?c ?k;(case a=>k_is);(case l=>k_is);(case c=>k_is);(case k=>k_is)
  have F0x:FT.DefAt (L2.KOf KX) "leads_into" (FT.top 29):=by
   dsimp only[L2.KOf];refine' FT.defAt_mk ?a ?l ?c ?k;(case a=>k_is);(case l=>k_is);(case c=>k_is);(case k=>k_is)
  have F0y:FT.DefAt (L2.KOf KX) "back_rows" (FT.top 18):=by
   dsimp only[L2.KOf];refine' FT.defAt_mk ?a ?l ?c ?k;(case a=>k_is);(case l=>k_is);(case c=>k_is);(case k=>k_is)
  have F0z:FT.DefAt (L2.KOf KX) "_law_tuple" (FT.top 39):=by
   dsimp only[L2.KOf];refine' FT.defAt_mk ?a ?l ?c ?k;(case a=>k_is);(case l=>k_is);(case c=>k_is);(case k=>k_is)
  have F0A:FT.DefAt (L2.KOf KX) "_law_number" (FT.top 38):=by
   dsimp only[L2.KOf];refine' FT.defAt_mk ?a ?l ?c ?k;(case a=>k_is);(case l=>k_is);(case c=>k_is);(case k=>k_is)
  have F0B:FT.DefAt (L2.KOf KX) "_law_good_set" (FT.top 40):=by
   dsimp only[L2.KOf];refine' FT.defAt_mk ?a ?l ?c ?k;(case a=>k_is);(case l=>k_is);(case c=>k_is);(case k=>k_is)
  have F0C:FT.DefAt (L2.KOf KX) "_law_until" (FT.top 43):=by
   dsimp only[L2.KOf];refine' FT.defAt_mk ?a ?l ?c ?k;(case a=>k_is);(case l=>k_is);(case c=>k_is);(case k=>k_is)
  have F0D:FT.DefAt (L2.KOf KX) "_law_right" (FT.top 44):=by
   dsimp only[L2.KOf];refine' FT.defAt_mk ?a ?l ?c ?k;(case a=>k_is);(case l=>k_is);(case c=>k_is);(case k=>k_is)
  have F0E:FT.DefAt (L2.KOf KX) "law" (FT.top 45):=by
   dsimp only[L2.KOf];refine' FT.defAt_mk ?a ?l ?c ?k;(case a=>k_is);(case l=>k_is);(case c=>k_is);(case k=>k_is)
  have F00:mg "len" = none:=K1c KX G (by k_is);have F01:mg "range" = none:=K1c KX G (by k_is);have F04:mg "sorted" = none:=K1c KX G (by k_is);have F03:mg "tuple" = none:=K1c KX G (by k_is);have F07:mg "int" = none:=K1c KX G (by k_is);have F0b:mg "any" = none:=K1c KX G (by k_is);have F0d:mg "enumerate" = none:=K1c KX G (by k_is);have F05:mg "list" = none:=K1c KX G (by k_is);have F06:mg "isinstance" = none:=K1c KX G (by k_is);have F0f:mg "bool" = none:=K1c KX G (by k_is);obtain⟨C_Rounds,KI_Rounds,mk_Rounds,kc_Rounds,F0F,in_Rounds⟩:∃C_Rounds,FT.OwC (L2.KOf KX) "Rounds" C_Rounds/\K2n (L2.KOf KX) C_Rounds=true/\K10 (L2.KOf KX) (.ref C_Rounds)=true/\FT.DefM (L2.KOf KX) C_Rounds "until" "Rounds.until" (L2.inClass (FT.top 27) 0)/\K13 (L2.KOf KX) (.ref C_Rounds) "__init__" = some (some (.builtin "object.__init__")):=by
   dsimp only[L2.KOf]
   refine' ⟨_,FT.ki_mk ?qa ?qp ?qh ?qo ?qs,?qm,?qc,FT.defM_mk ?qa0 ?qi0 ?ql0 ?qd0 ?qk0,?qi⟩;(case qa=>k_is);(case qp=>k_is);(case qh=>k_is);(case qo=>k_is);(case qs=>k_is);(case qm=>k_is);(case qc=>k_is);(case qa0=>k_is);(case qi0=>k_is);(case ql0=>k_is);(case qd0=>k_is);(case qk0=>k_is);(case qi=>k_is)
  have M_Rounds:=FT.inO_mk (mg:=mg) (K11 KX G KI_Rounds.ns) KI_Rounds mk_Rounds in_Rounds kc_Rounds;obtain⟨C_Worklist,KI_Worklist,mk_Worklist,kc_Worklist,F0G,in_Worklist⟩:∃C_Worklist,FT.OwC (L2.KOf KX) "Worklist" C_Worklist/\K2n (L2.KOf KX) C_Worklist=true/\K10 (L2.KOf KX) (.ref C_Worklist)=true/\FT.DefM (L2.KOf KX) C_Worklist "until" "Worklist.until" (L2.inClass (FT.top 28) 0)/\K13 (L2.KOf KX) (.ref C_Worklist) "__init__" = some (some (.builtin "object.__init__")):=by
   dsimp only[L2.KOf]
   refine' ⟨_,FT.ki_mk ?qa ?qp ?qh ?qo ?qs,?qm,?qc,FT.defM_mk ?qa0 ?qi0 ?ql0 ?qd0 ?qk0,?qi⟩;(case qa=>k_is);(case qp=>k_is);(case qh=>k_is);(case qo=>k_is);(case qs=>k_is);(case qm=>k_is);(case qc=>k_is);(case qa0=>k_is);(case qi0=>k_is);(case ql0=>k_is);(case qd0=>k_is);(case qk0=>k_is);(case qi=>k_is)
  have M_Worklist:=FT.inO_mk (mg:=mg) (K11 KX G KI_Worklist.ns) KI_Worklist mk_Worklist in_Worklist kc_Worklist;obtain⟨f,fd,hf,F⟩:=F0E;have e:=hmg.symm.trans (K11 KX G hf);cases e;refine⟨fd,FT.bindsTo1 F (λ_ _ _ _ _ _ _=>rfl),λbase _ _=>?_⟩;have F0o:=FT.ok__law_pool (P:=K5.prog) (w:=w) (base:=base) F0q (λv e=>K11 KX G e);have F02:=FT.ok__law_draw (P:=K5.prog) (w:=w) (base:=base) F0r (λv e=>K11 KX G e) F00;have F0m:=FT.ok__law_great_machine (P:=K5.prog) (w:=w) (base:=base) F0s (λv e=>K11 KX G e) F00 F01 F04 F03 F02;have F09:=FT.ok__law_some (P:=K5.prog) (w:=w) (base:=base) F0t (λv e=>K11 KX G e) F01 F03 F02;have F0a:=FT.ok__law_name (P:=K5.prog) (w:=w) (base:=base) F0u (λv e=>K11 KX G e) F01 F02;have F0n:=FT.ok__law_names (P:=K5.prog) (w:=w) (base:=base) F0v (λv e=>K11 KX G e) F01 F02 F0a;have F0p:=FT.ok__law_row (P:=K5.prog) (w:=w) (base:=base) F0w (λv e=>K11 KX G e) F07 F00 F01 F03;have F0c:=FT.ok_leads_into (P:=K5.prog) (w:=w) (base:=base) F0x (λv e=>K11 KX G e) F0b;have F0i:=FT.ok_Rounds__until (P:=K5.prog) (w:=w) (mg:=mg) (base:=base) KI_Rounds F0F F00 F04 F03 F0c;have F0e:=FT.ok_back_rows (P:=K5.prog) (w:=w) (base:=base) F0y (λv e=>K11 KX G e) F0d;have F0j:=FT.ok_Worklist__until (P:=K5.prog) (w:=w) (mg:=mg) (base:=base) KI_Worklist F0G F05 F04 F03 F0e;have F0h:=FT.ok__law_tuple (P:=K5.prog) (w:=w) (base:=base) F0z (λv e=>K11 KX G e) F06 F00 F03;have F0g:=FT.ok__law_number (P:=K5.prog) (w:=w) (base:=base) F0A (λv e=>K11 KX G e) F0f F07 F06;have F0k:=FT.ok__law_good_set (P:=K5.prog) (w:=w) (base:=base) F0B (λv e=>K11 KX G e) F00 F01 F0g F0h;have F0l:=FT.ok__law_until (P:=K5.prog) (w:=w) (base:=base) F0C (λv e=>K11 KX G e) F00 F05 F01 F04;have F08:=FT.ok__law_right (P:=K5.prog) (w:=w) (base:=base) F0D (λv e=>K11 KX G e) F00 F05 F0i F0j F0k F0l;exact FT.okL_law F F00 F01 F04 F03 M_Rounds M_Worklist F02 F0m F0n F0o F08 F0p F09