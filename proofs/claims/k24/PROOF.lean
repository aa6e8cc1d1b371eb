import PyProof.Rows.All
import Wide.All
import OpenK.AllK
import Wide.FinOn
import PySem.Challenge.RW_fairtrees_k24_whole_equal_runs
import Lean
import PyProof.EqAt
import PyProof.EqKinds
import PyProof.TupleCall
import PyProof.DictCompW
import PyProof.NeKinds
import PyProof.ListRange
import PyProof.TupleOfSeq
import PyProof.SeqI3
import PyProof.DictWalks
import PyProof.SetNew
import PyProof.ReprReads
import PyProof.StrHeap
import PyProof.ReprLen
import PyProof.WalkInts
import KE.KDictSum
import PyProof.Draws
import KE.KDictOf
import PyProof.AttrMissHeap
import OpenK.KOps
import KE.KCallOwn
import PyProof.Rows.FStr
import PyProof.StrLaws
import OpenK.KNot
import PyProof.InstNe
set_option Elab.async false
set_option linter.all false
set_option maxRecDepth 100000
set_option maxHeartbeats 4000000
namespace L2
end L2
open PySem.W renaming Frag->K0,mg_of->K0f,findIn->K0m,kia_one->K10,keepIn->K19,nsIn->K1e,emptyDict->K1q,mg_none_of->K1v,fnOf->K1x,codeIn->K1y,instObj->K21,kitOne->K2r,hideAll->K2w,plainGet->K38,makesIn->K3h,hasDictIn->K3s,hideAll_none->K46,plainGet_of->K4g,isFn->K4j,lookIn->K4t,of_hideAll->K4w,specialIn->K5a,plainOver->K5b,methodObj->K5c,kitx_list->K5d,kitx_dict->K5e,fresh_of_stays->K6e,cellsFrom_some->K6f,takerIn->K6o,nsOkIn->K6z,hideAll_get->K7k,mroIn->K7n,kitx_tuple->K7w,callWith_K->K7x,handedIn->K8s,takesIn->K96,OpenLaw->K97,InstAt->K9h,WalkO->K9l,Looks->K9m
open PySem renaming wpAny_bind->K1,wpAny_pure->K4,starEach->K7,Program->K04,wpAny_mono->K0j,mainGlobals->K17,FuncData->K1i,wpAny_holding->K1m,mem_of_lookup->K1o,wpAny_truthy_bool->K1r,compareOp->K1s,swapsWith->K1w,foldedSetIterable->K1z,call_meets->K28,wpAny_ite_false->K29,binaryOp->K2a,attributeBase->K2e,wpAny_passesOwn->K2g,wpAny_newObj_type->K2l,assignEach->K2o,Keyword->K2q,sliceBounds->K2t,keywordEach->K2u,behindInMarks->K30,richCompare->K36,bootBuiltins->K3a,wpAny_standAt->K3e,wpAny_load->K3i,wpAny_Call_Name_kw->K3k,wpAny_callSpecial?_slot->K3p,NameKind->K3r,wpAny_typeOf->K3w,codeAny_mono->K3x,not_mem_of_deeper->K3y,typeIs_int->K42,codeAny->K45,backToKw->K47,GenState->K48,wpAny_field->K49,letOwnedTupleGo->K4e,codeAny_builtin->K4f,callSpecialIfBound?->K4i,holding->K4o,tryCompare->K52,wpAny_cRoomFor->K54,wpAny_binaryOp_repeat_ref->K59,standAt->K5g,wpAny_sequenceKey->K5i,wpAny_pyIter_list->K5j,wpAny_comprehension_free->K5n,seqIndex?->K5v,wpAny_call_entry->K60,noFill_tuple_add->K61,getItem->K69,callerA->K6a,wpAny_rule->K6b,sysModules->K6c,ReadAtMost->K6d,wpAny_execs_nil->K6v,sizeLine_eq->K78,wpAny_listPart->K7a,call_repr_slot->K7c,wpAny_loadName_local->K7e,BindsTo->K7j,wpAny_loadName_cell->K7l,seq_tuple_add->K7s,plainId_quiet->K7t,Spec->K7u,wpAny_call->K7y,typeIs_str->K7z,isInstance->K80,slot_list_getitem->K8a,Within->K8c,valueAt->K8h,notedBy->K8i,bindArgs->K8j,Operator->K8k,seqIndex_neg->K8m,concat_meets->K8n,seqSlot_of->K8u,getMethod->K8v,PassesOwn->K8w,seqIndex_of->K94,excClassObj->K95,setItem->K9e,call->K9g
open PySem.Challenge renaming rw_fairtrees_k24_whole_equal_runs->K2
open List renaming getElem?_eq_some_iff->K5,getElem?_eq_getElem->K6,size_toArray->K8,getElem?_cons_zero->K00,length_append->K01,length_cons->K02,getElem?_append_left->K03,replicate->K07,getElem?_cons_succ->K09,length_take->K0a,mem_cons_of_mem->K0c,mem_append_right->K0d,mem_append->K0g,getElem?_map->K0h,length_nil->K0k,length_singleton->K0l,getElem?_eq_none->K0n,set_cons_zero->K0o,set_cons_succ->K0p,range->K0q,all_eq_true->K0t,mem_cons_self->K0v,map_cons->K0z,lookup_cons->K11,length_drop->K1a,getElem?_singleton->K1b,mem_cons->K1c,mem_of_getElem?->K1d,getElem?_take->K1f,length_map->K1g,mem_range->K1k,getElem?_append_right->K1l,getElem?_set_self->K1n,replicate_succ->K1p,append_nil->K1u,filterMap_cons->K20,getElem?_set_ne->K23,flatten_cons->K24,find?_cons->K26,mem_map->K2h,mem_of_mem_take->K2i,mem_append_left->K2j,getElem?_append->K2k,append_assoc->K32,getElem?_of_mem->K37,getElem?_range->K3c,lookup->K3l,ext_getElem?->K3u,set_append_right->K3z,foldl->K40,filter_cons->K41,mem_of_mem_drop->K4a,nodup_cons->K4b,getElem_of_mem->K4h,map_map->K4k,find?_eq_none->K53,mem_of_find?_eq_some->K57,drop_eq_getElem_cons->K58,map_drop->K5k,any_cons->K5l,not_mem_nil->K5s,getElem_mem->K5t,any_eq_true->K5u,getElem?_replicate->K62,map_nil->K65,take_of_length_le->K6g,filter_eq_nil_iff->K6h,drop_eq_nil_of_le->K6i,of_mem_zip->K6p,nil_append->K6q,forIn_cons->K6r,filter_map->K6s,lookup_cons_self->K6x,length_filter_le->K6y,range'->K71,forIn_nil->K76,getD->K7g,sum_cons->K7o,map_take->K7p,all_cons->K7q,mem_singleton->K82,length_range'->K83,filterMap_map->K84,length_range->K8l,take_length->K8x,length->K92,map_append->K98,find?_some->K99,drop_zero->K9i
open PySem.Heap renaming get?_push_of_some->K9,lt_size->K08,get?_push_size->K0r,SameBut->K66,get?_update_other->K6j,MadeExcOf->K77,size_push->K9j
open Nat renaming le_refl->K05,le_trans->K0b,lt_of_lt_of_le->K0i,ne_of_lt->K12,reduceAdd->K14,mul_comm->K22,mod_lt->K27,lt_irrefl->K2d,mod_eq_of_lt->K2s,le_of_eq->K39,add_sub_cancel_left->K3o,mul_le_mul->K3t,le_of_lt->K4m,zero_add->K67,ne_of_gt->K68,dvd_of_mod_eq_zero->K6k,strongRecOn->K6t,div_le_self->K6u,zero_le->K74,le_succ->K75,sub_add_cancel->K85,mod_mod_of_dvd->K86,mod_eq_sub_mod->K87,lt_of_le_of_lt->K88,succ_mul->K8g,lt_trichotomy->K8o,lt_succ_self->K8y,le_max_right->K8z,add_mul->K93,mod_add_div->K9a,le_max_left->K9b,div_add_mod->K9c
open Bool renaming and_eq_true->K06,false_ne_true->K0w,false_eq_true->K0x,eq_iff_iff->K1h,bne_false->K1j,true_and->K44,or_eq_true->K4c,false_and->K4v,bne_true->K7r,not_false->K9k
open PySem.Value renaming ref->K0e,bool->K2n,none->K4s,str->K5p,int->K5q,type->K63,float->K91
open PySem.PyData renaming shown->K0s,shownAll->K18,depth->K1t,showable->K2x,depthAll->K2y,showableAll->K4x,depthAll_vals_le->K5y,depthAll_keys_le->K5z,shownKv->K72,depthKv->K73,tuple->K9q
open Option.some renaming inj->K0u
open Int renaming eq_ofNat_of_zero_le->K0y,emod_lt_of_pos->K3j,emod_nonneg->K4d,toNat_natCast->K5h,natCast_ediv->K90,natCast_mul->K9d
open PySem.AutoSeq1 renaming wpAny_loadPart'->K13,idx_int->K3q
open False renaming elim->K15
open PyProof.Rows renaming slot_tuple_getitem->K16,callWith_type1->K33,AllBare->K4p,subscriptTail_builtinR->K6l,joinParts_cons->K7b,entry_tuple_getitem->K7m,IntsAre->K9f
open PySem.Str renaming length_append->K25,ofString->K4l,join->K70,empty->K9o
open Option renaming map_eq_some_iff->K2b,getD_none->K5r,join_some->K8t
open PySem.F renaming slot_tuple_mul->K2c,args_tuple_mul_2->K3f,args_tuple_add_2->K3g,entry_tuple_mul->K3m,entry_tuple_add->K3n,slot_tuple_add->K3v,slot_tuple_rmul->K5o,plain_list_iadd->K5w,plainAttrs_list->K5x,slot_int_rmul->K6w,slot_list_contains->K7d,slot_NoneType_eq->K89
open PySem.Builtin.Slice renaming slicePlaces->K2f,sliceAdjust->K3b,sliceApplied->K50
open PySem.Builtin.Tuple renaming tupleExact->K2m,tupleItemsOf->K4y,tupleIsExact->K4z
open Array renaming length_toList->K2p,getElem?_eq_some_iff->K4q,append_assoc->K81,toList->K8d
open ForInStep renaming yield->K2v
open PySem.NameKind renaming free->K2z
open PySem.W.Looks renaming of_pure->K31,ld->K8p
open True renaming intro->K34
open PySem.Around renaming under_plainId->K35,under->K64
open PySem.Builtin.List renaming listTooLong->K3d,listSubscript?->K4n,listAllItems->K56,listSameRef->K5m
open PySem.Paired renaming length->K43
open PySem.W.KFB renaming if_not->K4r
open PySem.Obj renaming mapSeq->K4u
open PySem.Calls renaming Constant_str->K51,Name_function_global->K55,evalArgs_plain->K79
open Ne renaming symm->K5f
open PySem.ReadAtMost renaming cons->K6m
open PySem.PassesOwn renaming never->K6n
open Pure renaming pure->K7f
open Sum renaming inr->K7h,inl->K7i
open PySem.SeqAt renaming EqAt->K7v
open PySem.Txt renaming join->K8b
open PySem.Code renaming isFrame->K8e
open Function renaming comp_def->K8f
open PySem.IsL renaming isList->K8q
open And renaming intro->K8r
open PySem.Clear renaming nil->K9n
open Iff renaming rfl->K9p
open PySem PySem.Spec PyProof.Rows L2
set_option hygiene false
local macro_rules
|`(.(r $t))=>`(some (.ref $t))
|`(.(i $t))=>`(some (.int $t))
|`(.(g $t))=>`(some (.tup $t))
|`(.(l $t))=>`(some (.lst $t))
|`(.(s $t))=>`(some (.str $t))
|`(.(p $t))=>`((fun _=>pure (.int $t)))
set_option hygiene true
namespace FT
def z81:List Bool->List PySem.Stmt->List PySem.Stmt
 | true::r,x::xs=>x::z81 r xs
 | false::r,_::xs=>z81 r xs
 | _,_=>[]
def qv:PySem.Program:={ PySem.Challenge.pw_fairtrees_k24_whole_equal_runs with main:={ PySem.Challenge.pw_fairtrees_k24_whole_equal_runs.main with body:=z81 [true,true,false,true,true,false,true,true,true,true,false,false,true,true,true,true,true,false,true,true,true,true,true,true,true,true] PySem.Challenge.pw_fairtrees_k24_whole_equal_runs.main.body } }
def looseQ:List PySem.Str:=[PySem.Str.ofString "Run"]
end FT
section
open PySem PySem.W PyProof.Rows
local macro_rules | `(tactic| o_head $H)=>`(tactic| (refine holds_open (q:=FT.qv) (loose:=FT.looseQ) (Xt:=fun s=>xlAt FT.qv [] s && recOk (RowW.records (OpenRow.toRowW (OpenLaw.row PySem.Challenge.rw_fairtrees_k24_whole_equal_runs))) s) (XP:=XL FT.qv []) (Yf:=Hook.obs $H) (Ya:=Hook.val $H) (YP:=Hook.says $H) (N:=30000) ?_ (Hook.of $H) (Hook.keeps $H) (fun s e=>xl_of s (Bool.and_eq_true_iff.mp e).1) XL.keeps (by rfl) (by rfl) (by rfl) (fun s e=>recFacts_of (Bool.and_eq_true_iff.mp e).2) (by rfl) (by first | assumption | decide +kernel) (by decide +kernel) ⟨rfl,rfl,rfl,rfl,rfl,by decide +kernel⟩ ?_ ?_))
set_option maxRecDepth 100000 in
set_option maxHeartbeats 0 in
noncomputable def FT.pack:PSigma fun P:Prop=>P->PySem.Challenge.rw_fairtrees_k24_whole_equal_runs.Holds:=by
 refine⟨?P,λh=>?_⟩
 rotate_left
 ·w_on;o_law;k_head
  next=>exact λw=>by kernel_rfl
  next=>w_witness2
  exact h
end
namespace L2
abbrev Key:=Sum Int Str
def z31:Key->Value->Bool
 | .inl k,v=>Value.isInt k v
 | .inr x,v=>Value.isStrOf x v
def keyH (w:World):Key->Int
 | .inl k=>hashInt k
 | .inr x=>hashStr w x
theorem j3:∀{k:Key}{v:Value},z31 k v=true->(∃i t,k=K7i i/\v=K5q i t)\/(∃x t,k=K7h x/\v=K5p x t)
 | .inl i,v,h=>by
  obtain⟨t,e⟩:=Value.isInt_shape (k:=i) (v:=v) h;exact .inl ⟨i,t,rfl,e⟩
 | .inr x,v,h=>by
  obtain⟨t,e⟩:=Value.isStrOf_shape (x:=x) (v:=v) h;exact .inr ⟨x,t,rfl,e⟩
theorem z8P (a b:Int):decide ((K7i a:Key)=K7i b)=(a==b):=by
 by_cases e:a=b
 ·subst e;simp
 ·have h:¬ (K7i a:Key)=K7i b:=λq=>e (K7i.inj q);rw[decide_eq_false h];exact(beq_eq_false_iff_ne.mpr e).symm
theorem z9d (a b:Str):decide ((K7h a:Key)=K7h b)=decide (a=b):=by
 by_cases e:a=b
 ·subst e;simp
 ·have h:¬ (K7h a:Key)=K7h b:=λq=>e (K7h.inj q);rw[decide_eq_false h,decide_eq_false e]
theorem z8z (a:Int) (b:Str):decide ((K7i a:Key)=K7h b)=false:=decide_eq_false (λq=>nomatch q)
theorem ze6 (a:Str) (b:Int):decide ((K7h a:Key)=K7i b)=false:=decide_eq_false (λq=>nomatch q)
def z1r (prog:K04) (w:World):PySem.KeyKind prog w Key where
 is:=z31
 hash:=keyH w
 inj:=λv a b ha hb=>by
  rcases j3 ha with ⟨i,t,rfl,rfl⟩|⟨x,t,rfl,rfl⟩
  ·rcases j3 hb with ⟨j,u,rfl,e⟩|⟨y,u,rfl,e⟩
   ·injection e with e1 _;rw[e1]
   ·exact nomatch e
  ·rcases j3 hb with ⟨j,u,rfl,e⟩|⟨y,u,rfl,e⟩
   ·exact nomatch e
   ·injection e with e1 _;rw[e1]
 byValue:=λk v h=>by
  rcases j3 h with ⟨i,t,rfl,rfl⟩|⟨x,t,rfl,rfl⟩<;>rfl
 pyHash:=λhv h=>by
  rcases j3 hv with ⟨i,t,rfl,rfl⟩|⟨x,t,rfl,rfl⟩
  ·exact wpAny_pyHash_int h
  ·exact wpAny_pyHash_str h
 eqBool:=λhu hv h=>by
  rcases j3 hu with ⟨i,t,rfl,rfl⟩|⟨x,t,rfl,rfl⟩
  ·rcases j3 hv with ⟨j,u,rfl,rfl⟩|⟨y,u,rfl,rfl⟩
   ·rw[z8P]at h;exact wpAny_eqBool_int h
   ·rw[z8z]at h;exact K7v.int_str i t y u _ _ _ _ h
  ·rcases j3 hv with ⟨j,u,rfl,rfl⟩|⟨y,u,rfl,rfl⟩
   ·rw[ze6]at h;exact K7v.str_int x t j u _ _ _ _ h
   ·rw[z9d]at h;exact wpAny_eqBool_str h
 «strs»:=λk x t v h=>by
  rcases j3 h with ⟨i,u,rfl,e⟩|⟨y,u,rfl,e⟩
  ·exact nomatch e
  ·injection e with e1 _
   subst e1;cases v<;>rfl
end L2
namespace FT
abbrev Rise (xs:Array Nat):Prop:=xs.toList.Pairwise (·<·)
instance keyMem (k:Key) (ks:List Key):Decidable (k∈ks):=@List.instDecidableMemOfLawfulBEq Key instBEqOfDecidableEq inferInstance k ks
section
variable (w:World)
def KE (k:Key) (e:Int×Value):Prop:=z31 k e.2=true/\e.1=keyH w k
def SetAt (h:Heap) (a:Addr) (ks:List Key):Prop :=
 ∃o es ep t ks',h.get? a=some o/\o.ExactSet/\o.data=.set es ep t/\Paired (KE w) ks' es.toList/\ks'.Perm ks/\ks.Nodup/\es.size<scanBound/\t.fits es.size=true/\Rise t.place /\
  (t.led=true\/w.params.followText "set-order" = true)
end
def IsTup0 (h:Heap) (a:Addr) (items:Array Value):Prop:=∃o,h.get? a=some o/\(o.cls=.type "tuple"/\o.dict=none)/\∃n,o.data=.seq items n
theorem IsTup0.new (h:Heap) (items:Array Value):IsTup0 (h.push { cls:=.type "tuple",data:=.seq items }) h.objs.size items:=⟨_,K0r _ rfl,⟨rfl,rfl⟩,_,rfl⟩
theorem IsTup0.tup {h:Heap}{a:Addr}{items:Array Value}(x:IsTup0 h a items):IsTup h a items:=let ⟨o,e,c,d⟩:=x;⟨o,e,c.1,d⟩
theorem IsTup0.lt {h:Heap}{a:Addr}{items:Array Value}(x:IsTup0 h a items):a<h.objs.size:=let ⟨_,e,_⟩:=x;K08 e
end FT
namespace L2
inductive V where
 | non|bl (b:Bool)|int (i:Int)|str (x:Str)|byt (b:Array UInt8)|flt (b:UInt64)|ref (a:Addr)|ty (n:String)
 deriving DecidableEq
def RelV:V->Value->Prop
 | .non,u=>u=K4s
 | .bl b,u=>u=K2n b
 | .int i,u=>∃t,u=K5q i t
 | .str x,u=>∃t,u=K5p x t
 | .byt b,u=>∃t,u=Value.bytes b t
 | .flt b,u=>∃t,u=K91 b t
 | .ref a,u=>u=K0e a
 | .ty n,u=>u=K63 n
abbrev Vals:List V->List Value->Prop:=Paired RelV
theorem Vals.length {xs:List V}{us:List Value}(r:Vals xs us):xs.length=us.length:=K43 r
theorem Vals.get:∀{xs:List V}{us:List Value}{i:Nat}{x:V},Vals xs us->xs[i]?=some x->∃u,us[i]?=some u/\RelV x u
 | _,_,_,_,.nil,e=>by simp at e
 | _,_,0,_,.cons r _,e=>by simp at e;subst e;exact⟨_,rfl,r⟩
 | _,_,i+1,x,.cons _ t,e=>by
  obtain⟨u,h1,h2⟩:=Vals.get (i:=i) (x:=x) t (by simpa using e);exact⟨u,by simpa using h1,h2⟩
theorem Vals.set {x:V}{u:Value}(r:RelV x u):∀{xs:List V}{us:List Value}(i:Nat),Vals xs us->Vals (xs.set i x) (us.set i u)
 | _,_,_,.nil=>.nil
 | _,_,0,.cons _ t=>.cons r t
 | _,_,i+1,.cons q t=>.cons q (Vals.set r i t)
theorem Vals.append:∀{xs ys:List V}{us ws:List Value},Vals xs us->Vals ys ws->Vals (xs++ys) (us++ws)
 | _,_,_,_,.nil,s=>s
 | _,_,_,_,.cons r t,s=>.cons r (Vals.append t s)
theorem Vals.take:∀{xs:List V}{us:List Value}(n:Nat),Vals xs us->Vals (xs.take n) (us.take n)
 | _,_,0,_=>.nil
 | _,_,_+1,.nil=>.nil
 | _,_,n+1,.cons r t=>.cons r (Vals.take n t)
theorem Vals.drop:∀{xs:List V}{us:List Value}(n:Nat),Vals xs us->Vals (xs.drop n) (us.drop n)
 | _,_,0,r=>r
 | _,_,_+1,.nil=>.nil
 | _,_,n+1,.cons _ t=>Vals.drop n t
theorem Vals.none_of:∀{xs:List V}{us:List Value}{i:Nat},Vals xs us->xs[i]?=none->us[i]?=none:=λ{xs us i} r e=>by
 have h1:=r.length;have h2:xs.length<=i:=List.getElem?_eq_none_iff.mp e;exact List.getElem?_eq_none_iff.mpr (by omega)
def RelO:Option V->Option Value->Prop
 | some v,some u=>RelV v u
 | none,none=>True
 | _,_=>False
def KV {κ:Type}:List (κ×V)->List (κ×Value)->Prop:=Paired λ(p:κ×V) (q:κ×Value)=>p.1=q.1/\RelV p.2 q.2
def kV:Key->V
 | .inl i=>.int i
 | .inr x=>.str x
inductive HO where
 | lst (xs:List V)
 | tup (xs:List V)
 | dK (kvs:List (Key×V))|dT (kvs:List (List Key×V))
 | set (ks:List Key)
 | ins (C dx:Addr) (fs:List (Str×V))
 | own (x:Addr)
 | xd (fs:List (Str×V))
 | met (f x:Addr)
 | rng (lo hi:Int)
 | frz (o:Obj) (u:HO)
 | tbl (ps:Array Value)
 | ext (φ:Heap->Prop)
abbrev Hp:=Addr->Option HO
def upd (H:Hp) (a:Addr) (o:HO):Hp:=λb=>if b=a then some o else H b
theorem z03 {H:Hp}{a:Addr}{o:HO}:upd H a o a=some o:=by unfold upd;rw[if_pos rfl]
theorem y6 {H:Hp}{a b:Addr}{o:HO}(h:b≠a):upd H a o b=H b:=by unfold upd;rw[if_neg h]
theorem x3 {H:Hp}{a b:Addr}{o:HO}(h:H a=some o) (h':H b=none):a≠b:=by
 intro e;subst e;rw[h]at h';cases h'
section
variable (P:K04) (w:World)
def ObjOk (H:Hp) (h:Heap) (a:Addr):HO->Prop
 | .lst xs=>xs.length<=sizeLine/\∃(its:List Value) (n:Nat),Vals xs its/\h.get? a=some { cls:=.type "list",data:=.seq its.toArray n }
 | .tup xs=>xs.length<=sizeLine/\∃its:List Value,Vals xs its/\FT.IsTup0 h a its.toArray
 | .dK kvs=>kvs.length<=sizeLine/\(a==K6c)=false/\∃vs,KV kvs vs/\h.DictOf (z1r P w) a vs
 | .dT kvs=>kvs.length<=sizeLine/\(a==K6c)=false/\∃xs:List (List Key×Addr×Value),
  Paired (λ(p:List Key×V) (q:List Key×Addr×Value)=>p.1=q.1/\H q.2.1=.(g (p.1.map kV))/\RelV p.2 q.2.2) kvs xs /\
  ∃o es ep,h.get? a=some o/\o.ExactDict/\o.data=.dict es ep/\es.toList=xs.map (entryOfKey (tupleKind (z1r P w)))/\(xs.map (·.1)).Nodup
 | .set ks=>FT.SetAt w h a ks
 | .ins C dx fs=>H dx=some (.own a)/\fs.length<=1000/\dx≠a/\h.get? a=some (K21 C dx) /\
  ∃mA,h.Ns1 dx mA/\(∀f,RelO (fs.lookup f) (mA f))/\K8c mA (fs.map (·.1))
 | .own _=>∃o,h.get? a=some o
 | .xd fs=>∃mA,h.Ns1 a mA/\∀f,RelO (fs.lookup f) (mA f)
 | .rng lo hi=>∃t u v,h.get? a=some { cls:=.type "range",data:=.fields #[.int lo t,.int hi u,.int 1 v] }
 | .frz o u=>h.get? a=some o/\ObjOk H h a u
 | .tbl ps=>h.get? a=some { cls:=.none,data:=.fields ps }
 | .met f x=>h.get? a=some (K5c (.ref f) (.ref x))
 | .ext φ=>φ h/\(∃o,h.get? a=some o)/\∀h1 h2:Heap,φ h1->(∀o,h1.get? a=some o->h2.get? a=some o)->φ h2
def HOk (H:Hp) (h:Heap):Prop:=∀a o,H a=some o->ObjOk P w H h a o
end
section
variable {P:K04}{w:World}{H H':Hp}{h h':Heap}{a:Addr}{o:HO}
theorem ObjOk.lt (x:ObjOk P w H h a o):a<h.objs.size:=by
 cases o with
 | lst xs=>obtain⟨_,_,_,_,e⟩:=x;exact K08 e
 | tup xs=>obtain⟨_,_,_,p⟩:=x;exact p.lt
 | dK kvs=>obtain⟨_,_,_,_,o,_,_,e,_⟩:=x;exact K08 e
 | dT kvs=>obtain⟨_,_,_,_,o,_,_,e,_⟩:=x;exact K08 e
 | set ks=>obtain⟨o,_,_,_,_,e,_⟩:=x;exact K08 e
 | ins C dx fs=>obtain⟨_,_,_,e,_⟩:=x;exact K08 e
 | own y=>obtain⟨_,e⟩:=x;exact K08 e
 | xd fs=>obtain⟨_,⟨_,_,_,e,_⟩,_⟩:=x;exact K08 e
 | rng lo hi=>obtain⟨_,_,_,e⟩:=x;exact K08 e
 | frz ob u=>obtain⟨e,_⟩:=x;exact K08 e
 | tbl ps=>exact K08 (show h.get? a=some _ from x)
 | met f y=>exact K08 (show h.get? a=some _ from x)
 | ext φ=>obtain⟨_,⟨_,e⟩,_⟩:=x;exact K08 e
theorem Paired.mapP {α β:Type}{F G:α->β->Prop}:∀{l₁:List α}{l₂:List β},Paired F l₁ l₂->(∀a b,F a b->G a b)->Paired G l₁ l₂
 | _,_,.nil,_=>.nil
 | _,_,.cons r t,f=>.cons (f _ _ r) (Paired.mapP t f)
theorem ObjOk.stay (x:ObjOk P w H h a o) (k:∀b u,(b=a\/H b=some (.own a))->h.get? b=some u->h'.get? b=some u)
 (ho:∀b,H b=some (.own a)->H' b=some (.own a)) (ht:∀b xs,H b=.(g xs)->H' b=.(g xs)):ObjOk P w H' h' a o:=by
 induction o with
 | lst xs=>obtain⟨z,its,n,r,e⟩:=x;exact⟨z,its,n,r,k _ _ (.inl rfl) e⟩
 | tup xs=>obtain⟨z,its,r,ob,e,c⟩:=x;exact⟨z,its,r,ob,k _ _ (.inl rfl) e,c⟩
 | dK kvs=>obtain⟨z,y,vs,r,ob,es,ep,e,c⟩:=x;exact⟨z,y,vs,r,ob,es,ep,k _ _ (.inl rfl) e,c⟩
 | dT kvs =>
  obtain⟨z,y,xs,r,ob,es,ep,e,c⟩:=x;exact⟨z,y,xs,Paired.mapP r λp q z=>⟨z.1,ht _ _ z.2.1,z.2.2⟩,ob,es,ep,k _ _ (.inl rfl) e,c⟩
 | set ks=>obtain⟨ob,es,ep,t,k',e,c⟩:=x;exact⟨ob,es,ep,t,k',k _ _ (.inl rfl) e,c⟩
 | ins C dx fs =>
  obtain⟨d,z,ne,e,mA,⟨od,es,ep,e2,c⟩,r⟩:=x;exact⟨ho _ d,z,ne,k _ _ (.inl rfl) e,mA,⟨od,es,ep,k _ _ (.inr d) e2,c⟩,r⟩
 | own y=>obtain⟨ob,e⟩:=x;exact⟨ob,k _ _ (.inl rfl) e⟩
 | xd fs=>obtain⟨mA,⟨od,es,ep,e,c⟩,r⟩:=x;exact⟨mA,⟨od,es,ep,k _ _ (.inl rfl) e,c⟩,r⟩
 | rng lo hi=>obtain⟨t,u,v,e⟩:=x;exact⟨t,u,v,k _ _ (.inl rfl) e⟩
 | frz ob u ih=>obtain⟨e,q⟩:=x;exact⟨k _ _ (.inl rfl) e,ih q⟩
 | tbl ps =>
  have e:h.get? a=some { cls:=.none,data:=.fields ps }:=x;show h'.get? a=some { cls:=.none,data:=.fields ps };exact k a _ (.inl rfl) e
 | met f y =>
  have e:h.get? a=some (K5c (.ref f) (.ref y)):=x;show h'.get? a=some (K5c (.ref f) (.ref y));exact k a _ (.inl rfl) e
 | ext φ=>obtain⟨p,⟨o,e⟩,st⟩:=x;exact⟨st _ _ p λo q=>k _ _ (.inl rfl) q,⟨o,k _ _ (.inl rfl) e⟩,st⟩
theorem HOk.lt (x:HOk P w H h) (e:H a=some o):a<h.objs.size:=(x a o e).lt
theorem HOk.fresh (x:HOk P w H h) (e:h.objs.size<=a):H a=none:=by
 cases q:H a with
 | none=>rfl
 | some u=>exact absurd (K0i (x.lt q) e) (K2d _)
theorem HOk.kept (x:HOk P w H h) (k:∀b u,h.get? b=some u->h'.get? b=some u):HOk P w H h':=λa o e =>
 (x a o e).stay (λb u _ q=>k b u q) (λ_ q=>q) λ_ _ q=>q
theorem HOk.laid (x:HOk P w H h) (k:∀b u,h.get? b=some u->h'.get? b=some u) (hp:h.objs.size<=a) (new:ObjOk P w (upd H a o) h' a o):HOk P w (upd H a o) h':=λb u e=>by
 have hn:=x.fresh hp;by_cases hb:b=a
 ·subst hb;rw[z03]at e;cases e;exact new
 ·rw[y6 hb]at e;exact(x b u e).stay (λc v _ q=>k c v q) (λc q=>by rw[y6 (x3 q hn)];exact q) λc xs q=>by rw[y6 (x3 q hn)];exact q
end
def Rd (H:Hp) (a:Addr) (u:HO):Prop:=H a=some u\/∃o,H a=some (.frz o u)
theorem Rd.of {H:Hp}{a:Addr}{u:HO}(h:H a=some u):Rd H a u:=.inl h
theorem Rd.ok {P:K04}{w:World}{H:Hp}{h:Heap}{a:Addr}{u:HO}(r:Rd H a u) (x:HOk P w H h):ObjOk P w H h a u:=by
 rcases r with r|⟨o,r⟩
 ·exact x a u r
 ·obtain⟨_,q⟩:=x a _ r;exact q
def Mut:Option HO->Prop
 | .(l _)=>True
 | some (.dK _)=>True
 | some (.dT _)=>True
 | some (.set _)=>True
 | some (.ins _ _ _)=>True
 | some (.ext _)=>True
 | _=>False
section
variable {P:K04}{w:World}{H:Hp}{h h':Heap}{x e:Addr}{o':HO}
theorem HOk.write (ok:HOk P w H h) (mu:Mut (H x)) (he:e=x\/H e=some (.own x)) (k:∀b u,b≠e->h.get? b=some u->h'.get? b=some u) (heo:∃u,h'.get? e=some u)
 (new:ObjOk P w (upd H x o') h' x o'):HOk P w (upd H x o') h':=λb u q=>by
 have nown:∀c y,H c=some (.own y)->c≠x:=λc y r z=>by subst z;rw[r]at mu;exact mu
 have ntup:∀c xs,H c=.(g xs)->c≠x:=λc xs r z=>by subst z;rw[r]at mu;exact mu
 by_cases hb:b=x
 ·subst hb;rw[z03]at q;cases q;exact new
 ·rw[y6 hb]at q;by_cases hbe:b=e
  ·have q':H b=some (.own x):=by
    rcases he with z|z
    ·exact absurd (hbe.trans z) hb
    ·rw[hbe];exact z
   rw[q]at q';cases q';obtain⟨v,hv⟩:=heo;exact⟨v,by rw[hbe];exact hv⟩
  ·refine(ok b u q).stay (λc v hc r=>k c v ?_ r) (λc r=>by rw[y6 (nown c b r)];exact r) λc xs r=>by rw[y6 (ntup c xs r)];exact r
   rcases hc with rfl|hc
   ·exact hbe
   ·rintro rfl;rcases he with z|z
    ·exact nown c b hc z
    ·rw[hc]at z;cases z;exact hb rfl
end
structure Un (fs ex:List Addr) (H H':Hp) (h h':Heap):Prop where
 keep:∀b o,h.get? b=some o->H b=none->b∉fs->b∉ex->h'.get? b=some o
 slot:∀b o,h.get? b=some o->H b=none->b∈fs->b∉ex->∃sl,h'.get? b=some { o with slots:=sl }
 free:∀b o,h.get? b=some o->H b=none->b∉ex->H' b=none
 there:∀b o,h.get? b=some o->b∉ex->∃o',h'.get? b=some o'
 tups:∀b xs,H b=.(g xs)->H' b=.(g xs)
 frzs:∀b o u,H b=some (.frz o u)->H' b=some (.frz o u)
 tbls:∀b ps,H b=some (.tbl ps)->∃more,H' b=some (.tbl (ps++more))
section
variable {fs fs' ex ex':List Addr}{H H1 H2:Hp}{h h1 h2 h':Heap}{a x e:Addr}{o:HO}
theorem Un.any (u:Un fs ex H H1 h h1) {b:Addr}{ob:Obj}(q:h.get? b=some ob) (n:H b=none) (hx:b∉ex):∃sl,h1.get? b=some { ob with slots:=sl }:=by
 by_cases hb:b∈fs
 ·exact u.slot b ob q n hb hx
 ·exact⟨ob.slots,u.keep b ob q n hb hx⟩
theorem Un.trans (a:Un fs ex H H1 h h1) (b:Un fs ex H1 H2 h1 h2):Un fs ex H H2 h h2 where
 keep:=λc ob q n hc hx=>b.keep c ob (a.keep c ob q n hc hx) (a.free c ob q n hx) hc hx
 slot:=λc ob q n hc hx=>by
  obtain⟨sl,e1⟩:=a.slot c ob q n hc hx;obtain⟨sl',e2⟩:=b.slot c _ e1 (a.free c ob q n hx) hc hx;exact⟨sl',e2⟩
 free:=λc ob q n hx=>by
  obtain⟨o',e1⟩:=a.there c ob q hx;exact b.free c o' e1 (a.free c ob q n hx) hx
 there:=λc ob q hx=>by
  obtain⟨o',e1⟩:=a.there c ob q hx;exact b.there c o' e1 hx
 tups:=λc xs q=>b.tups c xs (a.tups c xs q)
 frzs:=λc ob xs q=>b.frzs c ob xs (a.frzs c ob xs q)
 tbls:=λc ps q=>by
  obtain⟨m1,e1⟩:=a.tbls c ps q;obtain⟨m2,e2⟩:=b.tbls c _ e1;exact⟨m1++m2,by rw[e2,K81]⟩
theorem Un.kept (k:∀b u,h.get? b=some u->h'.get? b=some u):Un fs ex H H h h' :=
 ⟨λb ob q _ _ _=>k b ob q,λb ob q _ _ _=>⟨ob.slots,k b ob q⟩,λ_ _ _ n _=>n,λb ob q _=>⟨ob,k b ob q⟩,λ_ _ q=>q,λ_ _ _ q=>q,λ_ ps q=>⟨#[],by rw[q];simp⟩⟩
theorem Un.refl:Un fs ex H H h h:=Un.kept λ_ _ q=>q
theorem Un.laid (k:∀b u,h.get? b=some u->h'.get? b=some u) (hp:h.objs.size<=a) (hn:H a=none):Un fs ex H (upd H a o) h h' where
 keep:=λb u q _ _ _=>k b u q
 slot:=λb u q _ _ _=>⟨u.slots,k b u q⟩
 free:=λb u q n _=>by rw[y6 (K12 (K0i (K08 q) hp))];exact n
 there:=λb u q _=>⟨u,k b u q⟩
 tups:=λb xs q=>by rw[y6 (x3 q hn)];exact q
 frzs:=λb u xs q=>by rw[y6 (x3 q hn)];exact q
 tbls:=λb ps q=>⟨#[],by rw[y6 (x3 q hn),q];simp⟩
theorem Un.write (mu:Mut (H x)) (he:e=x\/H e=some (.own x)) (k:∀b u,b≠e->h.get? b=some u->h'.get? b=some u) (heo:∃u,h'.get? e=some u):Un fs ex H (upd H x o) h h':=by
 have hx:∀b,H b=none->b≠x:=λb n z=>by subst z;rw[n]at mu;exact mu
 have hb:∀b,H b=none->b≠e:=λb n z=>by
  subst z;rcases he with r|r
  ·exact hx b n r
  ·rw[n]at r;cases r
 have hm:∀b u,H b=some u->¬ Mut (some u)->b≠x:=λb u q nm z=>by subst z;rw[q]at mu;exact nm mu
 refine⟨λb u q n _ _=>k b u (hb b n) q,λb u q n _ _=>⟨u.slots,k b u (hb b n) q⟩,λb u q n _=>by rw[y6 (hx b n)];exact n,λb u q _=>?_,
  λb xs q=>by rw[y6 (hm b _ q λz=>z)];exact q,λb u xs q=>by rw[y6 (hm b _ q λz=>z)];exact q,λb ps q=>⟨#[],by rw[y6 (hm b _ q λz=>z),q];simp⟩⟩
 by_cases hbe:b=e
 ·subst hbe;exact heo
 ·exact⟨u,k b u hbe q⟩
theorem Un.mono (u:Un fs ex H H1 h h1) (hs:∀b∈fs,b∈fs') (hx:∀b∈ex,b∈ex'):Un fs' ex' H H1 h h1 :=
 ⟨λb ob q n hb he=>u.keep b ob q n (λz=>hb (hs b z)) λz=>he (hx b z),λ_ _ q n _ he=>u.any q n λz=>he (hx _ z),λb ob q n he=>u.free b ob q n λz=>he (hx b z),λb ob q he=>u.there b ob q λz=>he (hx b z),u.tups,u.frzs,u.tbls⟩
end
def trk (h:Heap) (H:Hp):List Addr:=(K0q h.objs.size).filter λa=>(H a).isSome
def hidT (h:Heap) (H:Hp):Heap:=K2w h (trk h H)
theorem z49 (h:Heap) (H:Hp):(hidT h H).objs.size=h.objs.size:=PySem.W.hideAll_size _ _
theorem z5q {h:Heap}{H:Hp}{b:Addr}{o:Obj}(e:h.get? b=some o) (n:H b=none):(hidT h H).get? b=some o :=
 K7k _ e λhm=>by
  have q:(H b).isSome=true:=(List.mem_filter.mp hm).2;rw[n]at q;simp at q
theorem z8d {h:Heap}{H:Hp}{b:Addr}{o:Obj}(e:(hidT h H).get? b=some o):h.get? b=some o/\H b=none:=by
 have e':h.get? b=some o:=K4w (trk h H) e;refine⟨e',?_⟩;cases q:H b with
 | none=>rfl
 | some x =>
  have hm:b∈trk h H:=List.mem_filter.mpr ⟨K1k.mpr (K08 e'),by simp[q]⟩;have z:(hidT h H).get? b=none:=K46 (trk h H) hm;rw[z]at e;cases e
def z8v (g h:Heap) (L:Addr):List (Addr×Obj):=(K0q h.objs.size).filterMap λa=>if a=L\/(g.get? a).isSome=true then none else (h.get? a).map λo=>(a,o)
def rest (g h:Heap) (L d:Addr):List (Addr×Obj):=(z8v g h L).filter λp=>decide (p.1≠d)
structure Mod (K:K0) (mg:Str->Option Value) (base:Heap):Prop where
 kin:K.In base
 glob:base.Ns K17 mg
 blt:∃mb,base.Ns builtinsNs mb/\∀x:Str,x≠"__name__"->mb x=K3a x
 nolimit:base.NoLimit
structure Cx where
 prog:K04
 w:World
 K:K0
 mg:Str->Option Value
 base:Heap
 A:Around
 N:List Str
 s₀:Shared
 H₀:Hp
 env:Env
 outer:List Env
 stack:List Env
 ex:List Addr
 fn:Str->Bool
 calm:Bool
 pn:List (Addr×Obj)
 xe:Value->Shared->Prop
def frs (l:List Env):List Addr:=l.filterMap (·.frame)
abbrev Cx.fs (X:Cx):List Addr:=frs X.outer
def Vis (sc:Scope) (x:Str):Prop:=sc.names.lookup x=some .local\/sc.names.lookup x=some .cell\/sc.names.lookup x=some .free
def Loc (sc:Scope) (x:Str):Prop:=sc.names.lookup x=some .local\/sc.names.lookup x=some .cell
def Look (env:Env) (h:Heap) (m:Str->Option Value) (x:Str) (u:Value):Prop :=
 (env.kindOf x=some .local/\m x=some u)\/((env.kindOf x=some .cell\/env.kindOf x=some .free)/\∃c,env.cells.lookup x=some c/\h.IsCell c (some u))
structure Cx.Ok (X:Cx):Prop where
 mod:Mod X.K X.mg X.base
 kind:X.env.scope.kind=.function
 glob:X.env.globals=K17
 blt:X.env.builtins=builtinsNs
 above:X.s₀.heap.objs.size<=X.env.locals
 inj:∀x y c,X.env.cells.lookup x=some c->X.env.cells.lookup y=some c->x=y
 has:∀x,(X.env.kindOf x=some .cell\/X.env.kindOf x=some .free)->∃c,X.env.cells.lookup x=some c
 cab:∀x c,X.fn x=true->X.env.cells.lookup x=some c->X.s₀.heap.objs.size<=c
 hd:X.calm=true->X.A.handled=none
 frames:X.A.frames=some X.stack
 stk:X.stack=X.outer\/(X.stack=X.env::X.outer/\X.env.frame=some X.env.locals)
 exf:∀b∈X.ex,b≠X.env.locals/\∀x c,X.env.cells.lookup x=some c->c≠b
 bs:∀b o,X.base.get? b=some o->X.s₀.heap.get? b=some o/\X.H₀ b=none
 bsz:X.base.objs.size<=X.s₀.heap.objs.size
 noex:∀b o,X.base.get? b=some o->b∉X.ex
 exfs:∀b∈X.ex,b∉X.fs
 funs:X.s₀.heap.FunFrames X.base X.outer
 frf:∀b∈X.fs,X.H₀ b=none
structure Inv (X:Cx) (pins:List (Addr×Obj)) (σ:List (Option V)) (H:Hp) (s:Shared):Prop where
 ok:X.Ok
 os:s.os=X.s₀.os
 bare:K4p s.gens
 base:Un X.fs X.ex X.H₀ H X.s₀.heap s.heap
 loc:∃m,s.heap.Ns X.env.locals m/\∀(i:Nat) (x:Str) (v:V),X.N[i]?=some x->σ[i]?=some (some v)->Vis X.env.scope x->∃u,RelV v u/\Look X.env s.heap m x u
 cell:∀x c,X.env.cells.lookup x=some c->∃v,s.heap.IsCell c v
 free:H X.env.locals=none
 freeC:∀x c,X.env.cells.lookup x=some c->H c=none
 pin:∀p∈X.pn++pins,s.heap.get? p.1=some p.2/\H p.1=none/\p.1≠X.env.locals/\p.1∉X.fs/\∀v,p.2.data≠.cell v
 hok:HOk X.prog X.w H s.heap
 len:σ.length=X.N.length
section
variable {X:Cx}{pins:List (Addr×Obj)}{σ:List (Option V)}{H H':Hp}{s:Shared}{h':Heap}
theorem Cx.Ok.nofr (ok:X.Ok) {b:Addr}{o:Obj}(e:X.base.get? b=some o):b∉X.fs:=λhb=>by
 have:=(ok.funs.mem hb).1;rw[e]at this;cases this
theorem Inv.bs (I:Inv X pins σ H s):∀b o,X.base.get? b=some o->s.heap.get? b=some o/\H b=none:=λb o e =>
 ⟨I.base.keep b o (I.ok.bs b o e).1 (I.ok.bs b o e).2 (I.ok.nofr e) (I.ok.noex b o e),I.base.free b o (I.ok.bs b o e).1 (I.ok.bs b o e).2 (I.ok.noex b o e)⟩
theorem Inv.bk (I:Inv X pins σ H s):∀b o,X.base.get? b=some o->s.heap.get? b=some o:=λb o e=>(I.bs b o e).1
theorem Inv.mod (I:Inv X pins σ H s):Mod X.K X.mg X.base:=I.ok.mod
theorem Inv.kIn (I:Inv X pins σ H s):X.K.In s.heap:=I.ok.mod.kin.keeps I.bk
theorem Inv.nolimit (I:Inv X pins σ H s):s.heap.NoLimit:=I.ok.mod.nolimit.keeps I.bk
theorem Inv.fr (I:Inv X pins σ H s):∃m,Fr X.base X.env.locals s.heap m :=
 let ⟨m,hn,_⟩:=I.loc
 ⟨m,hn,I.bk,K0b I.ok.bsz I.ok.above⟩
theorem Inv.lt (I:Inv X pins σ H s):X.env.locals<s.heap.objs.size:=let ⟨_,hn,_⟩:=I.loc;hn.lt
theorem Inv.sz (I:Inv X pins σ H s):X.s₀.heap.objs.size<=s.heap.objs.size:=K0b I.ok.above (K4m I.lt)
theorem Inv.nofs (I:Inv X pins σ H s) {a:Addr}(h:s.heap.objs.size<=a):a∉X.fs:=λhb=>by
 obtain⟨_,o,ho,_⟩:=I.ok.funs.mem hb;exact absurd (K0i (K08 ho) (K0b I.sz h)) (K2d _)
theorem Inv.cne (I:Inv X pins σ H s):∀x c,X.env.cells.lookup x=some c->c≠X.env.locals:=λx c e z=>by
 obtain⟨v,o,ho,hd⟩:=I.cell x c e;obtain⟨m,⟨o',es,ep,ho',hd',_⟩,_⟩:=I.loc;rw[z,ho']at ho;cases ho;rw[hd']at hd;cases hd
theorem Inv.funs (I:Inv X pins σ H s):s.heap.FunFrames X.base X.outer:=by
 have all:∀(l:List Env),(∀b∈frs l,b∈X.fs)->X.s₀.heap.FunFrames X.base l->s.heap.FunFrames X.base l:=by
  intro l;induction l with
  | nil=>intro _ _;trivial
  | cons env r ih =>
   intro hs hl;obtain⟨hk,⟨L,o,hf,hn,ho,hd⟩,hr⟩:=hl;have hL:L∈X.fs:=hs L (by unfold frs;rw[K20,hf];exact K0v);obtain⟨sl,e⟩:=I.base.slot L o ho (I.ok.frf L hL) hL λz=>I.ok.exfs L z hL;exact⟨hk,⟨L,_,hf,hn,e,hd⟩,ih (λb hb=>hs b (by unfold frs;rw[K20,hf];exact K0c _ hb)) hr⟩
 exact all X.outer (λ_ hb=>hb) I.ok.funs
theorem Inv.stack (I:Inv X pins σ H s):s.heap.FunFrames X.base X.stack:=by
 rcases I.ok.stk with e|⟨e,hf⟩
 ·rw[e];exact I.funs
 ·rw[e];obtain⟨m,hn,_⟩:=I.loc;refine .cons (by rw[I.ok.kind];decide) hf hn ?_ I.funs;exact Heap.get?_none_of_le (K0b I.ok.bsz I.ok.above)
theorem Inv.stkSub (I:Inv X pins σ H s):∀b∈frs X.stack,b∈X.env.locals::X.fs:=λb hb=>by
 rcases I.ok.stk with e|⟨e,hf⟩
 ·rw[e]at hb;exact K0c _ hb
 ·rw[e]at hb;unfold frs at hb;rw[K20,hf]at hb;exact hb
theorem Inv.stkFree (I:Inv X pins σ H s):∀b∈frs X.stack,H b=none:=λb hb=>by
 rcases K1c.mp (I.stkSub b hb) with e|hb
 ·rw[e];exact I.free
 ·obtain⟨_,o,ho,_⟩:=I.ok.funs.mem hb;exact I.base.free b o ho (I.ok.frf b hb) λz=>I.ok.exfs b z hb
theorem Inv.step {g':Array K48}{t':Nat}{d':Drawn}{ch:List Addr}(I:Inv X pins σ H s)
 (hch:∀b∈ch,(b∈X.ex\/X.s₀.heap.objs.size<=b)/\b≠X.env.locals/\(∀x c,X.env.cells.lookup x=some c->c≠b)/\∀p∈X.pn++pins,p.1≠b)
 (keep:∀b o,b≠X.env.locals->b∉X.fs->b∉ch->s.heap.get? b=some o->H b=none->h'.get? b=some o)
 (slot:∀b o,b≠X.env.locals->b∈X.fs->b∉ch->s.heap.get? b=some o->H b=none->∃sl,h'.get? b=some { o with slots:=sl }) (free:∀b o,b∉ch->s.heap.get? b=some o->H b=none->H' b=none)
 (there:∀b o,b∉ch->s.heap.get? b=some o->∃o',h'.get? b=some o')
 (tups:∀b xs,H b=.(g xs)->H' b=.(g xs)) (frzs:∀b o u,H b=some (.frz o u)->H' b=some (.frz o u)) (tbls:∀b ps,H b=some (.tbl ps)->∃more,H' b=some (.tbl (ps++more)))
 (ns:∀m,s.heap.Ns X.env.locals m->h'.Ns X.env.locals m) (hok:HOk X.prog X.w H' h') (hg:K4p g') :
 Inv X pins σ H' { s with heap:=h',gens:=g',drawn:=d',toks:=t' }:=by
 have neL:∀b o,X.s₀.heap.get? b=some o->b≠X.env.locals:=λb o e=>K12 (K0i (K08 e) I.ok.above);have neC:∀b o,X.s₀.heap.get? b=some o->b∉X.ex->b∉ch:=λb o e hx hb=>by
  rcases(hch b hb).1 with z|z
  ·exact hx z
  ·exact absurd (K0i (K08 e) z) (K2d _)
 have cellK:∀x c,X.env.cells.lookup x=some c->∀v,s.heap.IsCell c v->h'.IsCell c v:=λx c e v ⟨o,ho,hd⟩=>by
  have nch:c∉ch:=λz=>(hch c z).2.2.1 x c e rfl;by_cases hc:c∈X.fs
  ·obtain⟨sl,q⟩:=slot c o (I.cne x c e) hc nch ho (I.freeC x c e);exact⟨_,q,hd⟩
  ·exact⟨o,keep c o (I.cne x c e) hc nch ho (I.freeC x c e),hd⟩
 refine⟨I.ok,I.os,hg,⟨λb o e n hb hx=>?_,λb o e n hb hx=>?_,λb o e n hx=>?_,λb o e hx=>?_,λb xs e=>tups b xs (I.base.tups b xs e),λb o xs e=>frzs b o xs (I.base.frzs b o xs e),λb ps e=>?_⟩,?_,λx c e=>?_,?_,λx c e=>?_,λp hp=>?_,hok,I.len⟩
 ·exact keep b o (neL b o e) hb (neC b o e hx) (I.base.keep b o e n hb hx) (I.base.free b o e n hx)
 ·obtain⟨sl,e1⟩:=I.base.slot b o e n hb hx;obtain⟨sl',e2⟩:=slot b _ (neL b o e) hb (neC b o e hx) e1 (I.base.free b o e n hx);exact⟨sl',e2⟩
 ·obtain⟨o',e1⟩:=I.base.there b o e hx;exact free b o' (neC b o e hx) e1 (I.base.free b o e n hx)
 ·obtain⟨o',e1⟩:=I.base.there b o e hx;exact there b o' (neC b o e hx) e1
 ·obtain⟨m1,e1⟩:=I.base.tbls b ps e;obtain⟨m2,e2⟩:=tbls b _ e1;exact⟨m1++m2,by rw[e2,K81]⟩
 ·obtain⟨m,hn,hl⟩:=I.loc;refine⟨m,ns m hn,λi x v e1 e2 e3=>?_⟩;obtain⟨u,r,l⟩:=hl i x v e1 e2 e3;refine⟨u,r,?_⟩;rcases l with l|⟨k,c,e,z⟩
  ·exact .inl l
  ·exact .inr ⟨k,c,e,cellK x c e _ z⟩
 ·obtain⟨v,z⟩:=I.cell x c e;exact⟨v,cellK x c e v z⟩
 ·obtain⟨m,⟨o,_,_,ho,_⟩,_⟩:=I.loc;exact free _ o (λz=>(hch _ z).2.1 rfl) ho I.free
 ·obtain⟨v,o,ho,hd⟩:=I.cell x c e;exact free c o (λz=>(hch c z).2.2.1 x c e rfl) ho (I.freeC x c e)
 ·obtain⟨e,n,ne,nf,d⟩:=I.pin p hp;have nch:p.1∉ch:=λz=>(hch p.1 z).2.2.2 p hp rfl;exact⟨keep p.1 p.2 ne nf nch e n,free p.1 p.2 nch e n,ne,nf,d⟩
theorem Inv.un {t':Nat}(I:Inv X pins σ H s) (u:Un X.fs [] H H' s.heap h') (hok:HOk X.prog X.w H' h'):Inv X pins σ H' { s with heap:=h',toks:=t' }:=by
 obtain⟨m,⟨o,es,ep,ho,r⟩,_⟩:=id I.loc;obtain⟨sl,hL⟩:=u.any ho I.free (by simp);exact I.step (g':=s.gens) (d':=s.drawn) (ch:=[]) (λ_ z=>nomatch z) (λb o _ hb _ e n=>u.keep b o e n hb (by simp)) (λb o _ hb _ e n=>u.slot b o e n hb (by simp)) (λb o _ e n=>u.free b o e n (by simp)) (λb o _ e=>u.there b o e (by simp)) u.tups u.frzs u.tbls (λm' hm=>by
  obtain⟨o',es',ep',ho',r'⟩:=hm;rw[ho]at ho';cases ho';exact⟨_,es',ep',hL,r'⟩) hok I.bare
theorem Inv.call {g':Array K48}{t':Nat}{d':Drawn}{ch:List Addr}(I:Inv X pins σ H s) (u:Un (frs X.stack) ch H H' s.heap h') (hok:HOk X.prog X.w H' h') (hg:K4p g')
 (hch:∀b∈ch,(b∈X.ex\/X.s₀.heap.objs.size<=b)/\b≠X.env.locals/\(∀x c,X.env.cells.lookup x=some c->c≠b)/\∀p∈X.pn++pins,p.1≠b) :
 Inv X pins σ H' { s with heap:=h',gens:=g',drawn:=d',toks:=t' }:=by
 obtain⟨m,⟨o,es,ep,ho,r⟩,_⟩:=id I.loc;obtain⟨sl,hL⟩:=u.any ho I.free λz=>(hch _ z).2.1 rfl;exact I.step (ch:=ch) hch (λb o hL hb hc e n=>u.keep b o e n (λz=>(K1c.mp (I.stkSub b z)).elim hL hb) hc) (λb o _ _ hc e n=>u.any e n hc) (λb o hc e n=>u.free b o e n hc) (λb o hc e=>u.there b o e hc) u.tups u.frzs u.tbls (λm' hm=>by
  obtain⟨o',es',ep',ho',r'⟩:=hm;rw[ho]at ho';cases ho';exact⟨_,es',ep',hL,r'⟩) hok hg
theorem Inv.turned {t':Nat}{it:Addr}(I:Inv X pins σ H s) (k:∀b o,b≠it->s.heap.get? b=some o->h'.get? b=some o) (hn:H it=none) (hL:it≠X.env.locals)
 (h1:it∈X.ex\/X.s₀.heap.objs.size<=it) (h2:∀x c,X.env.cells.lookup x=some c->c≠it) (h3:∀p∈X.pn++pins,p.1≠it):Inv X pins σ H { s with heap:=h',toks:=t' }:=by
 have nit:∀b u,H b=some u->b≠it:=λb u e z=>by rw[z,hn]at e;cases e
 refine I.step (g':=s.gens) (d':=s.drawn) (ch:=[it]) (λb hb=>?_) (λb o _ _ hc e _=>k b o (λz=>hc (by simp[z])) e) (λb o _ _ hc e _=>⟨o.slots,k b o (λz=>hc (by simp[z])) e⟩) (λ_ _ _ _ n=>n)
  (λb o hc e=>⟨o,k b o (λz=>hc (by simp[z])) e⟩) (λ_ _ e=>e) (λ_ _ _ e=>e) (λb ps e=>⟨#[],by rw[e];simp⟩) (λm hm=>?_) (λb u e=>?_) I.bare
 ·have e:b=it:=by simpa using hb
  subst e;exact⟨h1,hL,h2,h3⟩
 ·obtain⟨o,es,ep,ho,r⟩:=hm;exact⟨o,es,ep,k _ o (K5f hL) ho,r⟩
 ·refine(I.hok b u e).stay (λc v hc q=>k c v ?_ q) (λ_ q=>q) λ_ _ q=>q;rcases hc with z|z
  ·rw[z];exact nit b u e
  ·exact nit c _ z
theorem Inv.tok (I:Inv X pins σ H s) (t:Nat):Inv X pins σ H { s with toks:=t }:=I.un (h':=s.heap) (t':=t) Un.refl I.hok
theorem Inv.kept {t':Nat}(I:Inv X pins σ H s) (k:∀b u,s.heap.get? b=some u->h'.get? b=some u):Inv X pins σ H { s with heap:=h',toks:=t' }:=I.un (Un.kept k) (I.hok.kept k)
theorem Inv.laid {a:Addr}{o:HO}{t':Nat}(I:Inv X pins σ H s) (k:∀b u,s.heap.get? b=some u->h'.get? b=some u) (hp:s.heap.objs.size<=a) (new:ObjOk X.prog X.w (upd H a o) h' a o) :
 Inv X pins σ (upd H a o) { s with heap:=h',toks:=t' }:=I.un (Un.laid k hp (I.hok.fresh hp)) (I.hok.laid k hp new)
theorem Inv.write {x e:Addr}{o:HO}{t':Nat}(I:Inv X pins σ H s) (mu:Mut (H x)) (he:e=x\/H e=some (.own x)) (k:∀b u,b≠e->s.heap.get? b=some u->h'.get? b=some u) (heo:∃u,h'.get? e=some u)
 (new:ObjOk X.prog X.w (upd H x o) h' x o):Inv X pins σ (upd H x o) { s with heap:=h',toks:=t' }:=I.un (Un.write mu he k heo) (I.hok.write mu he k heo new)
theorem Inv.weak {σ':List (Option V)}(I:Inv X pins σ H s) (hl:σ'.length=σ.length) (w:∀(i:Nat) v,σ'[i]?=some (some v)->σ[i]?=some (some v)):Inv X pins σ' H s :=
 ⟨I.ok,I.os,I.bare,I.base,let ⟨m,hn,hl'⟩:=I.loc;⟨m,hn,λi x v e1 e2 e3=>hl' i x v e1 (w i v e2) e3⟩,I.cell,I.free,I.freeC,I.pin,I.hok,hl.trans I.len⟩
theorem Inv.pins_of {pins':List (Addr×Obj)}(I:Inv X pins σ H s) (h:∀p∈pins',s.heap.get? p.1=some p.2/\H p.1=none/\p.1≠X.env.locals/\p.1∉X.fs/\∀v,p.2.data≠.cell v):Inv X pins' σ H s :=
 ⟨I.ok,I.os,I.bare,I.base,I.loc,I.cell,I.free,I.freeC,λp hp=>(K0g.mp hp).elim (λz=>I.pin p (K2j _ z)) (h p),I.hok,I.len⟩
theorem z3K {N:List Str}(hN:N.Nodup) {i j:Nat}{x:Str}(a:N[i]?=some x) (b:N[j]?=some x):i=j:=by
 obtain⟨h1,e1⟩:=K5.mp a;obtain⟨h2,e2⟩:=K5.mp b;exact(List.getElem_inj hN).mp (e1.trans e2.symm)
theorem z57 {M:Model}{A:Around}{E:Value->Shared->Prop}{i:Nat}{x:Str}{v:V}{u:Value}{Q:Unit->Shared->Prop}(I:Inv X pins σ H s) (hN:X.N.Nodup) (hi:X.N[i]?=some x) (hx:Loc X.env.scope x) (r:RelV v u)
 (h:∀s',Inv X pins (σ.set i (some v)) H s'->(∃a,K66 a s.heap s'.heap/\(a=X.env.locals\/X.env.cells.lookup x=some a))->Q () s') (hf:X.fn x=true\/X.env.scope.names.lookup x=some .local:=by first|exact .inl rfl|exact .inr rfl|assumption):wpAny M A (storeName X.env x u) Q E s:=by
 obtain⟨m,hn,hl⟩:=id I.loc;have hcls:(X.env.scope.kind==.class||(X.env.scope.kind==.module&&X.env.locals != X.env.globals))=false:=by rw[I.ok.kind];rfl
 have hiσ:i<σ.length:=by rw[I.len];exact(K5.mp hi).1
 have cne:=I.cne;have tracked:∀{a:Addr} {h':Heap},(∃o,s.heap.get? a=some o/\H a=none)->K66 a s.heap h'->HOk X.prog X.w H h':=λ{a h'} ha hs b ob e=>by
  obtain⟨_,_,hfree⟩:=ha;refine(I.hok b ob e).stay (λc w' hc q=>(hs.2 c ?_).trans q) (λ_ q=>q) λ_ _ q=>q;rintro rfl;rcases hc with rfl|hc
  ·rw[hfree]at e;cases e
  ·rw[hfree]at hc;cases hc
 rcases hx with hk|hk
 ·refine wpAny_storeName_local hk hn (λh' hn' hs=>?_) hcls;obtain⟨oL,_,_,hoL,_⟩:=id hn;refine h _ ⟨I.ok,I.os,I.bare,⟨λb o e n hb hx=>?_,λb o e n hb hx=>?_,I.base.free,λb o e hx=>?_,I.base.tups,I.base.frzs,I.base.tbls⟩,⟨_,hn',λj y v' e1 e2 e3=>?_⟩,λy c e=>?_,I.free,I.freeC,λp hp=>?_,tracked ⟨oL,hoL,I.free⟩ hs,by simpa using I.len⟩ ⟨_,hs,.inl rfl⟩
  ·exact(hs.2 b (K12 (K0i (K08 e) I.ok.above))).trans (I.base.keep b o e n hb hx)
  ·obtain⟨sl,e1⟩:=I.base.slot b o e n hb hx;exact⟨sl,(hs.2 b (K12 (K0i (K08 e) I.ok.above))).trans e1⟩
  ·obtain⟨o',e1⟩:=I.base.there b o e hx;exact⟨o',(hs.2 b (K12 (K0i (K08 e) I.ok.above))).trans e1⟩
  ·by_cases hj:j=i
   ·subst hj;rw[hi]at e1;cases e1;rw[K1n hiσ]at e2;cases e2;exact⟨u,r,.inl ⟨hk,by simp⟩⟩
   ·rw[K23 (K5f hj)]at e2;obtain⟨u',r',q⟩:=hl j y v' e1 e2 e3;refine⟨u',r',?_⟩;rcases q with ⟨k,e⟩|⟨k,c,e,z⟩
    ·refine .inl ⟨k,?_⟩;have:y≠x:=λe=>hj (z3K hN e1 (e ▸ hi));simp[this,e]
    ·exact .inr ⟨k,c,e,z.sameBut hs (cne y c e)⟩
  ·obtain⟨w',z⟩:=I.cell y c e;exact⟨w',z.sameBut hs (cne y c e)⟩
  ·obtain⟨e,n,ne,nf,d⟩:=I.pin p hp;exact⟨(hs.2 p.1 ne).trans e,n,ne,nf,d⟩
 ·have hfn:X.fn x=true:=by
   rcases hf with z|z
   ·exact z
   ·rw[z]at hk;cases hk
  obtain⟨c,hc⟩:=I.ok.has x (.inl hk);obtain⟨w',z⟩:=I.cell x c hc;refine wpAny_storeName_cell I.ok.kind hk hc z (λh' hc' hs=>?_);obtain⟨oc,hoc,hocd⟩:=id z;refine h { s with heap:=h' } ⟨I.ok,I.os,I.bare,⟨λb o e n hb hx=>?_,λb o e n hb hx=>?_,I.base.free,λb o e hx=>?_,I.base.tups,I.base.frzs,I.base.tbls⟩,⟨m,hn.sameBut hs (K5f (cne x c hc)),λj y v' e1 e2 e3=>?_⟩,λy c' e=>?_,I.free,I.freeC,λp hp=>?_,tracked ⟨oc,hoc,I.freeC x c hc⟩ hs,by simpa using I.len⟩ ⟨c,hs,.inr hc⟩
  ·exact(hs.2 b (K12 (K0i (K08 e) (I.ok.cab x c hfn hc)))).trans (I.base.keep b o e n hb hx)
  ·obtain⟨sl,e1⟩:=I.base.slot b o e n hb hx;exact⟨sl,(hs.2 b (K12 (K0i (K08 e) (I.ok.cab x c hfn hc)))).trans e1⟩
  ·obtain⟨o',e1⟩:=I.base.there b o e hx;exact⟨o',(hs.2 b (K12 (K0i (K08 e) (I.ok.cab x c hfn hc)))).trans e1⟩
  ·by_cases hj:j=i
   ·subst hj;rw[hi]at e1;cases e1;rw[K1n hiσ]at e2;cases e2;exact⟨u,r,.inr ⟨.inl hk,c,hc,hc'⟩⟩
   ·rw[K23 (K5f hj)]at e2;obtain⟨u',r',q⟩:=hl j y v' e1 e2 e3;refine⟨u',r',?_⟩;rcases q with q|⟨k,c',e,z'⟩
    ·exact .inl q
    ·refine .inr ⟨k,c',e,z'.sameBut hs ?_⟩;rintro rfl;exact hj (z3K hN e1 (I.ok.inj _ _ _ e hc ▸ hi))
  ·by_cases hcc:c'=c
   ·subst hcc;exact⟨_,hc'⟩
   ·obtain⟨w2,z2⟩:=I.cell y c' e;exact⟨w2,z2.sameBut hs hcc⟩
  ·obtain⟨e,n,ne,nf,d⟩:=I.pin p hp;refine⟨(hs.2 p.1 ?_).trans e,n,ne,nf,d⟩;intro q;rw[q,hoc]at e;have q':oc=p.2:=K0u e;exact d w' (by rw[<- q'];exact hocd)
theorem z2i {M:Model}{A:Around}{E:Value->Shared->Prop}{i:Nat}{x:Str}{v:V}{u:Value}{Q:Unit->Shared->Prop}(I:Inv X pins σ H s) (hN:X.N.Nodup) (hi:X.N[i]?=some x) (hx:Loc X.env.scope x) (r:RelV v u)
 (h:∀s',Inv X pins (σ.set i (some v)) H s'->Q () s') (hf:X.fn x=true\/X.env.scope.names.lookup x=some .local:=by first|exact .inl rfl|exact .inr rfl|assumption):wpAny M A (storeName X.env x u) Q E s :=
 z57 I hN hi hx r (λs' I' _=>h s' I') hf
theorem Inv.call' {s':Shared}{ch:List Addr}(I:Inv X pins σ H s) (ho:s'.os=s.os) (u:Un (frs X.stack) ch H H' s.heap s'.heap) (hok:HOk X.prog X.w H' s'.heap) (hg:K4p s'.gens)
 (hch:∀b∈ch,(b∈X.ex\/X.s₀.heap.objs.size<=b)/\b≠X.env.locals/\(∀x c,X.env.cells.lookup x=some c->c≠b)/\∀p∈X.pn++pins,p.1≠b):Inv X pins σ H' s':=by
 obtain⟨h',g',d',t',o'⟩:=s';have e:o'=s.os:=ho;subst e;exact I.call (g':=g') (t':=t') (d':=d') u hok hg hch
end
abbrev XK:=Value->Option Addr->Hp->Prop
abbrev St:=List (Option V)
abbrev VK:=V->Hp->Prop
abbrev TE:=St->Hp->VK->Prop
abbrev TT:=St->Hp->(Bool->Hp->Prop)->Prop
abbrev TA:=St->Hp->(List V->Hp->Prop)->Prop
structure Ends where
 nx:St->Hp->Prop
 rt:VK
 bk:St->Hp->Prop:=λ_ _=>False
 ct:St->Hp->Prop:=λ_ _=>False
abbrev TS:=Ends->St->Hp->Prop
def EP (X:Cx) (pins:List (Addr×Obj)) (σ:St) (Q:VK) (u:Value) (s':Shared):Prop:=∃v H',Inv X pins σ H' s'/\RelV v u/\Q v H'
def TP (X:Cx) (pins:List (Addr×Obj)) (σ:St) (Q:Bool->Hp->Prop) (b:Bool) (s':Shared):Prop:=∃H',Inv X pins σ H' s'/\Q b H'
def AP (X:Cx) (pins:List (Addr×Obj)) (σ:St) (Q:List V->Hp->Prop) (us:List Value) (s':Shared):Prop:=∃vs H',Inv X pins σ H' s'/\Vals vs us/\Q vs H'
def SP (X:Cx) (pins:List (Addr×Obj)) (D:Ends) (f:Flow) (s':Shared):Prop :=
 match f with
 | .next=>∃σ' H',Inv X pins σ' H' s'/\D.nx σ' H'
 | .brk=>∃σ' H',Inv X pins σ' H' s'/\D.bk σ' H'
 | .cont=>∃σ' H',Inv X pins σ' H' s'/\D.ct σ' H'
 | .ret u=>∃v σ' H',Inv X pins σ' H' s'/\RelV v u/\D.rt v H'
def PE (X:Cx) (e:Expr) (t:TE):Prop :=
 ∀(pins:List (Addr×Obj)) (s:Shared) (σ:St) (H:Hp) (Q:VK),Inv X pins σ H s->t σ H Q->wpAny (model X.prog X.w) X.A (eval e X.env) (EP X pins σ Q) X.xe s
def PT (X:Cx) (e:Expr) (t:TT):Prop :=
 ∀(pins:List (Addr×Obj)) (s:Shared) (σ:St) (H:Hp) (Q:Bool->Hp->Prop),Inv X pins σ H s->t σ H Q->wpAny (model X.prog X.w) X.A (isTrue e X.env (eval e X.env)) (TP X pins σ Q) X.xe s
def PW (X:Cx) (e:Expr) (t:TT):Prop :=
 ∀(whole:Sem Value) (pins:List (Addr×Obj)) (s:Shared) (σ:St) (H:Hp) (Q:Bool->Hp->Prop),Inv X pins σ H s->t σ H Q->wpAny (model X.prog X.w) X.A (isTrue e X.env whole) (TP X pins σ Q) X.xe s
theorem PW.pt {X:Cx}{e:Expr}{t:TT}(h:PW X e t):PT X e t:=h _
def PA (X:Cx) (es:List Expr) (t:TA):Prop :=
 ∀(pos:Pos) (pins:List (Addr×Obj)) (s:Shared) (σ:St) (H:Hp) (Q:List V->Hp->Prop),Inv X pins σ H s->t σ H Q->wpAny (model X.prog X.w) X.A (spliced (backTo pos (K7 es X.env))) (AP X pins σ Q) X.xe s
def PS (X:Cx) (st:Stmt) (t:TS):Prop :=
 ∀(pins:List (Addr×Obj)) (s:Shared) (σ:St) (H:Hp) (D:Ends),Inv X pins σ H s->t D σ H->wpAny (model X.prog X.w) X.A (exec st X.env) (SP X pins D) X.xe s
def PSs (X:Cx) (st:List Stmt) (t:TS):Prop :=
 ∀(pins:List (Addr×Obj)) (s:Shared) (σ:St) (H:Hp) (D:Ends),Inv X pins σ H s->t D σ H->wpAny (model X.prog X.w) X.A (execs st X.env) (SP X pins D) X.xe s
theorem thn {α:Type}{t:Sem α}{Q Q':α->Shared->Prop}{M:Model}{A:Around}{E:Value->Shared->Prop}{s:Shared}(h:wpAny M A t Q E s) (hQ:∀a s,Q a s->Q' a s):wpAny M A t Q' E s:=K0j h hQ λ_ _ x=>x
section
variable {X:Cx}
def tVar (i:Nat):TE:=λσ H Q=>∃v,σ[i]?=some (some v)/\Q v H
def tC (v:V):TE:=λ_ H Q=>Q v H
theorem z8Y {i:Nat}{x:Str}{pos:Pos}(hN:X.N[i]?=some x) (hv:Vis X.env.scope x) (hd:(x==("__debug__":Str))=false:=by decide) (hcd:(x==("__classdict__":Str))=false:=by decide):PE X (.Name x pos) (tVar i):=by
 intro pins s σ H Q I h;obtain⟨v,e,h⟩:=h;obtain⟨m,hn,hl⟩:=I.loc;obtain⟨u,r,l⟩:=hl i x v hN e hv;have fin:EP X pins σ Q u s:=⟨v,H,I,r,h⟩;rcases l with ⟨hk,hm⟩|⟨hk,c,hc,hcell⟩
 ·exact wpAny_Name (K7e I.ok.kind hk hn hm fin) hd
 ·rcases hk with hk|hk
  ·exact wpAny_Name (K7l I.ok.kind hk hc hcell fin) hd
  ·exact wpAny_Name (wpAny_loadName_free I.ok.kind hk hc hcell fin hcd) hd
theorem zf5 {i j pos}:PE X (.Constant (.int i) j pos) (tC (.int i)):=λ_ _ _ H _ I h=>wpAny_Constant_int ⟨.int i,H,I.tok _,⟨_,rfl⟩,h⟩
theorem zj8 {b j pos}:PE X (.Constant (.bool b) j pos) (tC (.bl b)):=λ_ _ _ H _ I h=>Constant_bool ⟨.bl b,H,I,rfl,h⟩
theorem za8 {j pos}:PE X (.Constant .none j pos) (tC .non):=λ_ _ _ H _ I h=>Constant_none ⟨.non,H,I,rfl,h⟩
theorem z9r {x j pos}:PE X (.Constant (.str x) j pos) (tC (.str x)):=λ_ _ _ H _ I h=>K51 ⟨.str x,H,I.tok _,⟨_,rfl⟩,h⟩
def Gl (X:Cx) (x:Str):Prop:=X.env.kindOf x=some .globalImplicit
theorem z2e {E:Value->Shared->Prop}{pins:List (Addr×Obj)}{s:Shared}{σ:St}{H:Hp}{x:Str}{u:Value}{pos:Pos}{Q:Value->Shared->Prop}(I:Inv X pins σ H s) (hg:Gl X x) (hm:X.mg x=some u) (h:Q u s)
 (hd:(x==("__debug__":Str))=false:=by decide):wpAny (model X.prog X.w) X.A (eval (.Name x pos) X.env) Q E s :=
 K55 I.ok.kind hg (Calls.loadGlobal_global (by rw[I.ok.glob];exact I.mod.glob.keeps I.bk) hm h) hd
theorem z2J {E:Value->Shared->Prop}{pins:List (Addr×Obj)}{s:Shared}{σ:St}{H:Hp}{x:Str}{u:Value}{pos:Pos}{Q:Value->Shared->Prop}(I:Inv X pins σ H s) (hg:Gl X x) (hm:X.mg x=none) (hv:K3a x=some u) (h:Q u s)
 (hn:x≠"__name__":=by decide) (hd:(x==("__debug__":Str))=false:=by decide):wpAny (model X.prog X.w) X.A (eval (.Name x pos) X.env) Q E s:=by
 obtain⟨mb,h1,h2⟩:=I.mod.blt;exact K55 I.ok.kind hg (Calls.loadGlobal_builtin (by rw[I.ok.glob];exact I.mod.glob.keeps I.bk) hm (by rw[I.ok.blt];exact h1.keeps I.bk) ((h2 x hn).trans hv) h) hd
theorem z48 {x:Str}{v:V}{u:Value}{pos:Pos}(hg:Gl X x) (hm:X.mg x=some u) (r:RelV v u) (hd:(x==("__debug__":Str))=false:=by decide):PE X (.Name x pos) (tC v) :=
 λ_ _ _ H _ I h=>z2e I hg hm ⟨v,H,I,r,h⟩ hd
theorem z7I {x:Str}{v:V}{u:Value}{pos:Pos}(hg:Gl X x) (hm:X.mg x=none) (hv:K3a x=some u) (r:RelV v u) (hn:x≠"__name__":=by decide) (hd:(x==("__debug__":Str))=false:=by decide):PE X (.Name x pos) (tC v) :=
 λ_ _ _ H _ I h=>z2J I hg hm hv ⟨v,H,I,r,h⟩ hn hd
variable {a b:Expr}{ta tb:TE}{pos:Pos}
def tB (t:TE):TT:=λσ H Q=>t σ H λx H1=>∃c,x=.bl c/\Q c H1
variable {tA tB':TT}{rest:List Expr}
def tAnd (t u:TT):TT:=λσ H Q=>t σ H λc H1=>if c=true then u σ H1 Q else Q false H1
def tOr (t u:TT):TT:=λσ H Q=>t σ H λc H1=>if c=true then Q true H1 else u σ H1 Q
def tNot (t:TT):TT:=λσ H Q=>t σ H λc H1=>Q (!c) H1
theorem z74 (ha:PT X a tA):PW X (.BoolOp .And [a] pos) tA:=by
 intro wh pins s σ H Q I h;refine isTrue_and (thn (ha pins s σ H Q I h) λc s1 e=>?_);cases c with
 | true=>exact isTrue_and_nil e
 | false=>exact e
theorem za5 (ha:PT X a tA):PW X (.BoolOp .Or [a] pos) tA:=by
 intro wh pins s σ H Q I h;refine isTrue_or (thn (ha pins s σ H Q I h) λc s1 e=>?_);cases c with
 | false=>exact isTrue_or_nil e
 | true=>exact e
theorem z8H (ha:PT X a tA) (hb:PW X (.BoolOp .And (b::rest) pos) tB'):PW X (.BoolOp .And (a::b::rest) pos) (tAnd tA tB'):=by
 intro wh pins s σ H Q I h;refine isTrue_and (thn (ha pins s σ H _ I h) λc s1 ⟨H1,I1,q1⟩=>?_);cases c with
 | true=>exact hb wh pins s1 σ H1 Q I1 q1
 | false=>exact⟨H1,I1,q1⟩
theorem zg4 (ha:PT X a tA) (hb:PW X (.BoolOp .Or (b::rest) pos) tB'):PW X (.BoolOp .Or (a::b::rest) pos) (tOr tA tB'):=by
 intro wh pins s σ H Q I h;refine isTrue_or (thn (ha pins s σ H _ I h) λc s1 ⟨H1,I1,q1⟩=>?_);cases c with
 | true=>exact⟨H1,I1,q1⟩
 | false=>exact hb wh pins s1 σ H1 Q I1 q1
theorem zb3 (ha:PT X a tA):PT X (.UnaryOp .Not a pos) (tNot tA):=by
 intro pins s σ H Q I h;exact isTrue_not (ha pins s σ H (λc H1=>Q (!c) H1) I h)
def zm1 (ta tb:TE):TE:=λσ H Q=>ta σ H λx H1=>∃c,x=.bl c/\if c=true then tb σ H1 Q else Q (.bl false) H1
def zi2 (ta:TE):TE:=λσ H Q=>ta σ H λx H1=>∃c,x=.bl c/\Q (.bl (!c)) H1
theorem z91 {op}{t:TE}(h:PE X a t):PE X (.BoolOp op [a] pos) t:=λpins s σ H Q I hw=>BoolOp_one (h pins s σ H Q I hw)
theorem zb4 (ha:PE X a ta) (hb:PE X (.BoolOp .And (b::rest) pos) tb):PE X (.BoolOp .And (a::b::rest) pos) (zm1 ta tb):=by
 intro pins s σ H Q I h;refine BoolOp_and (thn (ha pins s σ H _ I h) λv s1 ⟨x,H1,I1,r1,q1⟩=>?_);obtain⟨c,rfl,q1⟩:=q1;cases r1;refine K1r ?_;cases c with
 | true=>exact hb pins s1 σ H1 Q I1 q1
 | false=>exact⟨.bl false,H1,I1,rfl,q1⟩
theorem z9J (ha:PE X a ta):PE X (.UnaryOp .Not a pos) (zi2 ta):=by
 intro pins s σ H Q I h;refine UnaryOp_ (thn (ha pins s σ H _ I h) λv s1 ⟨x,H1,I1,r1,q1⟩=>?_);obtain⟨c,rfl,q1⟩:=q1;cases r1;exact not_of (K1r ⟨.bl (!c),H1,I1,rfl,q1⟩)
end
def SqL (K:K0) (H:Hp) (a:Addr) (xs:List V):Prop :=
 Rd H a (.lst xs) \/
  ∃(o:Obj) (its:Array Value) (n:Nat),K.lookup a=some o/\o.cls=.type "list"/\o.dict=none/\o.data=.seq its n/\its.size<=sizeLine/\Vals xs its.toList
def SqT (K:K0) (H:Hp) (a:Addr) (xs:List V):Prop :=
 Rd H a (.tup xs) \/
  ∃(o:Obj) (its:Array Value) (n:Nat),K.lookup a=some o/\(o.cls=.type "tuple"/\o.dict=none)/\o.data=.seq its n/\its.size<=sizeLine/\Vals xs its.toList
def absV:Value->Option V
 | .none=>some .non
 | .bool b=>some (.bl b)
 | .int i _=>some (.int i)
 | .str x _=>some (.str x)
 | .bytes b _=>some (.byt b)
 | .float b _=>some (.flt b)
 | .ref a=>some (.ref a)
 | .type n=>some (.ty n)
 | _=>none
theorem RelV.abs {x:V}{u:Value}(r:RelV x u):absV u=some x:=by
 cases x with
 | non=>cases r;rfl
 | bl _=>cases r;rfl
 | int _=>obtain⟨t,rfl⟩:=r;rfl
 | str _=>obtain⟨t,rfl⟩:=r;rfl
 | byt _=>obtain⟨t,rfl⟩:=r;rfl
 | flt _=>obtain⟨t,rfl⟩:=r;rfl
 | ref _=>cases r;rfl
 | ty _=>cases r;rfl
theorem RelV.inj {x y:V}{u:Value}(r:RelV x u) (q:RelV y u):x=y:=K0u (r.abs.symm.trans q.abs)
theorem Vals.inj:∀{xs ys:List V}{us:List Value},Vals xs us->Vals ys us->xs=ys
 | _,_,_,.nil,.nil=>rfl
 | _,_,_,.cons r t,.cons r' t'=>by rw[r.inj r',Vals.inj t t']
section
variable {X:Cx}{pins:List (Addr×Obj)}{σ:St}{H:Hp}{s:Shared}{a:Addr}{xs ys:List V}
theorem SqL.of {K:K0}(h:H a=.(l xs)):SqL K H a xs:=.inl (.inl h)
theorem SqT.of {K:K0}(h:H a=.(g xs)):SqT K H a xs:=.inl (.inl h)
theorem Inv.list (I:Inv X pins σ H s) (h:SqL X.K H a xs):∃its:List Value,Vals xs its/\PlainL s.heap a its.toArray/\xs.length<=sizeLine:=by
 rcases h with h|⟨o,its,n,hk,hc,hd,hs,hz,r⟩
 ·obtain⟨z,its,n,r,e⟩:=h.ok I.hok;exact⟨its,r,⟨_,n,e,rfl,rfl,rfl⟩,z⟩
 ·refine⟨its.toList,r,⟨o,n,I.kIn a o hk,hc,hd,by simpa using hs⟩,?_⟩;have e:=r.length;simp only[K2p]at e;omega
theorem Inv.tuple (I:Inv X pins σ H s) (h:SqT X.K H a xs):∃its:List Value,Vals xs its/\IsTup s.heap a its.toArray/\xs.length<=sizeLine:=by
 rcases h with h|⟨o,its,n,hk,hc,hs,hz,r⟩
 ·obtain⟨z,its,r,p⟩:=h.ok I.hok;exact⟨its,r,p.tup,z⟩
 ·refine⟨its.toList,r,⟨o,I.kIn a o hk,hc.1,n,by simpa using hs⟩,?_⟩;have e:=r.length;simp only[K2p]at e;omega
theorem Inv.list_inj (I:Inv X pins σ H s) (h:SqL X.K H a xs) (h':SqL X.K H a ys):xs=ys:=by
 obtain⟨its,r,⟨o,n,e,_,_,d⟩,_⟩:=I.list h;obtain⟨its',r',⟨o',n',e',_,_,d'⟩,_⟩:=I.list h';rw[e]at e';cases e';rw[d]at d';injection d' with d1 _
 have:its=its':=by simpa using congrArg K8d d1
 subst this;exact r.inj r'
theorem Inv.tuple_inj (I:Inv X pins σ H s) (h:SqT X.K H a xs) (h':SqT X.K H a ys):xs=ys:=by
 obtain⟨its,r,⟨o,e,_,n,d⟩,_⟩:=I.tuple h;obtain⟨its',r',⟨o',e',_,n',d'⟩,_⟩:=I.tuple h';rw[e]at e';cases e';rw[d]at d';injection d' with d1 _
 have:its=its':=by simpa using congrArg K8d d1
 subst this;exact r.inj r'
end
abbrev Cx.wish (X:Cx) (E:Value->Shared->Prop):Cx:={ X with xe:=E }
abbrev Cx.nox (X:Cx):Cx:=X.wish λ_ _=>False
theorem Cx.Ok.wish {X:Cx}(ok:X.Ok) (E:Value->Shared->Prop):(X.wish E).Ok :=
 ⟨ok.mod,ok.kind,ok.glob,ok.blt,ok.above,ok.inj,ok.has,ok.cab,ok.hd,ok.frames,ok.stk,ok.exf,ok.bs,ok.bsz,ok.noex,ok.exfs,ok.funs,ok.frf⟩
theorem Cx.Ok.unwish {X:Cx}{E:Value->Shared->Prop}(ok:(X.wish E).Ok):X.Ok :=
 ⟨ok.mod,ok.kind,ok.glob,ok.blt,ok.above,ok.inj,ok.has,ok.cab,ok.hd,ok.frames,ok.stk,ok.exf,ok.bs,ok.bsz,ok.noex,ok.exfs,ok.funs,ok.frf⟩
section
variable {X:Cx}{pins:List (Addr×Obj)}{σ:St}{H:Hp}{s:Shared}{E:Value->Shared->Prop}
theorem Inv.wish (I:Inv X pins σ H s) (E:Value->Shared->Prop):Inv (X.wish E) pins σ H s:=⟨I.ok.wish E,I.os,I.bare,I.base,I.loc,I.cell,I.free,I.freeC,I.pin,I.hok,I.len⟩
theorem Inv.unwish (I:Inv (X.wish E) pins σ H s):Inv X pins σ H s:=⟨I.ok.unwish,I.os,I.bare,I.base,I.loc,I.cell,I.free,I.freeC,I.pin,I.hok,I.len⟩
theorem SP.unwish {D:Ends}{f:Flow}{s':Shared}(h:SP (X.wish E) pins D f s'):SP X pins D f s':=by
 cases f with
 | next=>obtain⟨σ',H',I,q⟩:=h;exact⟨σ',H',I.unwish,q⟩
 | brk=>obtain⟨σ',H',I,q⟩:=h;exact⟨σ',H',I.unwish,q⟩
 | cont=>obtain⟨σ',H',I,q⟩:=h;exact⟨σ',H',I.unwish,q⟩
 | ret u=>obtain⟨v,σ',H',I,r,q⟩:=h;exact⟨v,σ',H',I.unwish,r,q⟩
theorem PE.nox {e:Expr}{t:TE}(h:PE X.nox e t):PE X e t:=λpins s σ H Q I hw =>
 K0j (h pins s σ H Q (I.wish _) hw) (λ_ _ ⟨v,H',I',r,q⟩=>⟨v,H',I'.unwish,r,q⟩) λ_ _ z=>K15 z
theorem PT.nox {e:Expr}{t:TT}(h:PT X.nox e t):PT X e t:=λpins s σ H Q I hw =>
 K0j (h pins s σ H Q (I.wish _) hw) (λ_ _ ⟨H',I',q⟩=>⟨H',I'.unwish,q⟩) λ_ _ z=>K15 z
theorem PSs.nox {st:List Stmt}{t:TS}(h:PSs X.nox st t):PSs X st t:=λpins s σ H D I hw =>
 K0j (h pins s σ H D (I.wish _) hw) (λ_ _ q=>q.unwish) λ_ _ z=>K15 z
end
section
variable {X:Cx}{st:Stmt}{rest:List Stmt}{t u:TS}{e:Expr}{te:TE}{pos:Pos}
def zm3:TS:=λD σ H=>D.nx σ H
def tSeq (t u:TS):TS:=λD σ H=>t { D with nx:=u D } σ H
theorem z8h:PSs X [] zm3:=λ_ _ σ H _ I h=>K6v ⟨σ,H,I,h⟩
theorem z5v (h1:PS X st t) (h2:PSs X rest u):PSs X (st::rest) (tSeq t u):=by
 intro pins s σ H D I h;refine wpAny_execs_cons (thn (h1 pins s σ H { D with nx:=u D } I h) λf s1 q=>?_);cases f with
 | next =>
  obtain⟨σ',H',I',q⟩:=q;exact h2 pins s1 σ' H' D I' q
 | ret v=>exact q
 | brk=>exact q
 | cont=>exact q
theorem Inv.quiet {pins:List (Addr×Obj)}{σ:St}{H:Hp}{s:Shared}(I:Inv X pins σ H s):interactive X.env=false:=by simp[interactive,I.ok.kind]
def zk1 (te:TE):TS:=λD σ H=>te σ H λ_ H1=>D.nx σ H1
theorem z6Y (he:PE X e te) (hs:K1w e none pos.line X.env=pure false:=by rfl):PS X (.Expr e pos) (zk1 te):=by
 intro pins s σ H D I h;exact wpAny_Expr_any (thn (he pins s σ H _ I h) λv s1 ⟨x,H1,I1,r1,q1⟩=>⟨σ,H1,I1,q1⟩) I.quiet hs
def tRet (te:TE):TS:=λD σ H=>te σ H D.rt
theorem zd6 (he:PE X e te):PS X (.Return (some e) pos) (tRet te):=by
 intro pins s σ H D I h;exact wpAny_Return_some (thn (he pins s σ H _ I h) λv s1 ⟨x,H1,I1,r1,q1⟩=>⟨x,σ,H1,I1,r1,q1⟩)
def tIfS (c:TT) (t u:TS):TS:=λD σ H=>c σ H λb H1=>if b=true then t D σ H1 else u D σ H1
theorem zh6 {c:Expr}{a b:List Stmt}{tc:TT}(hc:PT X c tc) (ha:PSs X a t) (hb:PSs X b u):PS X (.If c a b pos) (tIfS tc t u):=by
 intro pins s σ H D I h;refine wpAny_If (thn (hc pins s σ H _ I h) λd s1 ⟨H1,I1,q1⟩=>?_);cases d with
 | true=>exact ha pins s1 σ H1 D I1 q1
 | false=>exact hb pins s1 σ H1 D I1 q1
end
abbrev TG:=V->St->Hp->(St->Hp->Prop)->Prop
abbrev TGs:=List V->St->Hp->(St->Hp->Prop)->Prop
def PG (X:Cx) (target:Expr) (t:TG):Prop :=
 ∀(pins:List (Addr×Obj)) (s:Shared) (σ:St) (H:Hp) (v:V) (u:Value) (Q:St->Hp->Prop),Inv X pins σ H s->RelV v u->t v σ H Q ->
  wpAny (model X.prog X.w) X.A (assign target X.env u) (λ_ s'=>∃σ' H',Inv X pins σ' H' s'/\Q σ' H') X.xe s
def PGs (X:Cx) (ts:List Expr) (t:TGs):Prop :=
 ∀(pins:List (Addr×Obj)) (s:Shared) (σ:St) (H:Hp) (vs:List V) (us:List Value) (Q:St->Hp->Prop),Inv X pins σ H s->Vals vs us->t vs σ H Q ->
  wpAny (model X.prog X.w) X.A (assignInOrder ((K2o ts X.env).map (·.2)) us) (λ_ s'=>∃σ' H',Inv X pins σ' H' s'/\Q σ' H') X.xe s
abbrev TSet:=V->V->V->Hp->(Hp->Prop)->Prop
def PSet (X:Cx) (t:TSet):Prop :=
 ∀(pins:List (Addr×Obj)) (s:Shared) (σ:St) (H:Hp) (o i v:V) (ov iv u:Value) (Q:Hp->Prop),Inv X pins σ H s->RelV o ov->RelV i iv->RelV v u->t o i v H Q ->
  wpAny (model X.prog X.w) X.A (K9e ov iv u) (λ_ s'=>∃H',Inv X pins σ H' s'/\Q H') X.xe s
abbrev TIp:=V->V->Hp->VK->Prop
def PIp (X:Cx) (op:K8k) (t:TIp):Prop :=
 ∀(pins:List (Addr×Obj)) (s:Shared) (σ:St) (H:Hp) (x y:V) (v u:Value) (Q:VK),Inv X pins σ H s->RelV x v->RelV y u->t x y H Q ->
  wpAny (model X.prog X.w) X.A (inplaceOp op v u) (EP X pins σ Q) X.xe s
section
variable {X:Cx}{pos:Pos}
def z9c (i:Nat):TG:=λv σ H Q=>Q (σ.set i (some v)) H
theorem z3f {i:Nat}{x:Str}(hN:X.N.Nodup) (hi:X.N[i]?=some x) (hx:Loc X.env.scope x) (hf:X.fn x=true\/X.env.scope.names.lookup x=some .local:=by first|exact .inl rfl|exact .inr rfl|assumption):PG X (.Name x pos) (z9c i):=by
 intro pins s σ H v u Q I r h;exact wpAny_assign_Name (z2i I hN hi hx r (λs' I'=>⟨_,H,I',h⟩) hf)
def gNil:TGs:=λvs σ H Q=>vs=[]/\Q σ H
def zg9 (t:TG) (u:TGs):TGs:=λvs σ H Q=>∃v r,vs=v::r/\t v σ H λσ' H'=>u r σ' H' Q
theorem z87:PGs X [] gNil:=by
 intro pins s σ H vs us Q I r h;obtain⟨e,h⟩:=h;subst e;cases r;exact assignInOrder_nil ⟨σ,H,I,h⟩
theorem z5O {e:Expr}{es:List Expr}{t:TG}{u:TGs}(h1:PG X e t) (h2:PGs X es u)
 (hs:(K2o (e::es) X.env).map (·.2)=assign e X.env::(K2o es X.env).map (·.2):=by rfl):PGs X (e::es) (zg9 t u):=by
 intro pins s σ H vs us Q I r h;obtain⟨v,vr,e1,h⟩:=h;subst e1;cases r with
 | cons r rr =>
  rw[hs];refine assignInOrder_cons (thn (h1 pins s σ H _ _ _ I r h) λ_ s1 ⟨σ1,H1,I1,q1⟩=>?_);exact h2 pins s1 σ1 H1 _ _ Q I1 rr q1
def gTup (K:K0) (n:Nat) (t:TGs):TG:=λv σ H Q=>∃a xs,v=.ref a/\SqT K H a xs/\xs.length=n/\t xs σ H Q
theorem z9y {es:List Expr}{k:Nat}{t:TGs}{n:Nat}(hc:X.calm=true) (h:PGs X es t)
 (hn:(K2o es X.env).length=n:=by rfl) (hst:(K2o es X.env).findIdx? (·.1)=none:=by rfl):PG X (.Tuple es k pos) (gTup X.K n t):=by
 intro pins s σ H v u Q I r hw;obtain⟨a,xs,e1,hq,hl,hw⟩:=hw;subst e1;cases r;obtain⟨its,rv,ht,hz⟩:=I.tuple hq;refine assign_Tuple_tuple (I.ok.hd hc) ht (by simp[hn,<- hl,rv.length]) hst λh' hx=>?_;have I1:Inv X pins σ H { s with heap:=h' }:=I.kept (t':=s.toks) λb o e=>hx b o (K12 (K08 e)) e;exact h pins _ σ H xs _ Q I1 (by simpa using rv) hw
def gSub (to ti:TE) (t:TSet):TG:=λv σ H Q=>to σ H λo H1=>ti σ H1 λi H2=>t o i v H2 λH3=>Q σ H3
theorem z9k {o i:Expr}{to ti:TE}{t:TSet}(ho:PE X o to) (hi:PE X i ti) (hs:PSet X t)
 (ha:∀v,assign (.Subscript o i pos) X.env v=(do
  let ov <- K4o [v] (eval o X.env);let iv <- K4o [v,ov] (eval i X.env)
  K5g pos
  K4o [v,ov,iv] (K9e ov iv v)
  release [v,ov,iv] []):=by intro _;rfl):PG X (.Subscript o i pos) (gSub to ti t):=by
 intro pins s σ H v u Q I r h;rw[ha];refine K1 (K1m (thn (ho pins s σ H _ I h) λov s1 ⟨x,H1,I1,r1,q1⟩=>?_));refine K1 (K1m (thn (hi pins s1 σ H1 _ I1 q1) λiv s2 ⟨y,H2,I2,r2,q2⟩=>?_));refine K1 (K3e (K1 (K1m (thn (hs pins s2 σ H2 x y v ov iv u _ I2 r1 r2 r q2) λ_ s3 ⟨H3,I3,q3⟩=>?_))));exact wpAny_release ⟨σ,H3,I3,q3⟩
def tAsg (te:TE) (g:TG):TS:=λD σ H=>te σ H λx H1=>g x σ H1 D.nx
theorem z9m {tg e:Expr}{te:TE}{g:TG}(he:PE X e te) (hg:PG X tg g) (hs:swapsWithSole [tg] e pos.line X.env=pure false:=by rfl) (hw:swappedStores [tg] e X.env=pure none:=by rfl)
 (h1:(K2o [tg] X.env).map (·.2)=[assign tg X.env]:=by rfl):PS X (.Assign [tg] e pos) (tAsg te g):=by
 intro pins s σ H D I h;refine wpAny_Assign_stores (thn (he pins s σ H _ I h) λv s1 ⟨x,H1,I1,r1,q1⟩=>?_) hs hw;rw[h1];exact thn (hg pins s1 σ H1 x v _ I1 r1 q1) λ_ s2 q=>q
theorem zb9 {i:Nat}{x:Str}{e:Expr}{te:TE}{pos':Pos}(hN:X.N.Nodup) (hi:X.N[i]?=some x) (hx:Loc X.env.scope x) (he:PE X e te) (hs:K1w e (some (.Name x pos')) pos.line X.env=pure false:=by rfl) (hf:X.fn x=true\/X.env.scope.names.lookup x=some .local:=by first|exact .inl rfl|exact .inr rfl|assumption) :
 PS X (.Assign [.Name x pos'] e pos) (tAsg te (z9c i)):=by
 intro pins s σ H D I h;refine wpAny_Assign_Name (thn (he pins s σ H _ I h) λv s1 ⟨y,H1,I1,r1,q1⟩=>?_) hs;exact z2i I1 hN hi hx r1 (λs2 I2=>⟨_,H1,I2,q1⟩) hf
def tAug (i:Nat) (te:TE) (ti:TIp):TS:=λD σ H=>∃x,σ[i]?=some (some x)/\te σ H λy H1=>ti x y H1 λz H2=>D.nx (σ.set i (some z)) H2
theorem z9E {i:Nat}{x:Str}{e:Expr}{te:TE}{op:K8k}{ti:TIp}{pos':Pos}(hN:X.N.Nodup) (hi:X.N[i]?=some x) (hx:Loc X.env.scope x) (he:PE X e te) (ho:PIp X op ti) (hf:X.fn x=true\/X.env.scope.names.lookup x=some .local:=by first|exact .inl rfl|exact .inr rfl|assumption) :
 PS X (.AugAssign (.Name x pos') op e pos) (tAug i te ti):=by
 intro pins s σ H D I h;obtain⟨v,e1,h⟩:=h;obtain⟨m,hn,hl⟩:=I.loc;have vis:Vis X.env.scope x:=by rcases hx with k|k;exact .inl k;exact .inr (.inl k)
 obtain⟨u,r,l⟩:=hl i x v hi e1 vis;refine wpAny_AugAssign_Name ?_;have go:wpAny (model X.prog X.w) X.A (eval e X.env) (λw s₂=>wpAny (model X.prog X.w) X.A (inplaceOp op u w) (λr s₃=>wpAny (model X.prog X.w) X.A (storeName X.env x r) (λ_=>SP X pins D .next) X.xe s₃) X.xe s₂) X.xe s:=by
  refine thn (he pins s σ H _ I h) λw s1 ⟨y,H1,I1,r1,q1⟩=>?_;refine thn (ho pins s1 σ H1 v y u w _ I1 r r1 q1) λz s2 ⟨zv,H2,I2,r2,q2⟩=>?_;exact z2i I2 hN hi hx r2 (λs3 I3=>⟨_,H2,I3,q2⟩) hf
 rcases l with ⟨hk,hm⟩|⟨hk,c,hc,hcell⟩
 ·exact K7e I.ok.kind hk hn hm go
 ·rcases hk with hk|hk
  ·exact K7l I.ok.kind hk hc hcell go
  ·rcases hx with k|k
   ·have:X.env.scope.names.lookup x=some .free:=hk;rw[k]at this;cases this
   ·have:X.env.scope.names.lookup x=some .free:=hk;rw[k]at this;cases this
def ipI (f:Int->Int->Int):TIp:=λx y H Q=>∃i j,x=.int i/\y=.int j/\Q (.int (f i j)) H
theorem z8F:PIp X .Sub (ipI λi j=>i - j):=by
 intro pins s σ H x y v u Q I r1 r2 h;obtain⟨i,j,e1,e2,q⟩:=h;subst e1;subst e2;obtain⟨t,rfl⟩:=r1;obtain⟨t',rfl⟩:=r2;exact isub_int ⟨.int _,H,I.tok _,⟨_,rfl⟩,q⟩
end
section
variable {X:Cx}{pos:Pos}
def z9t (c:TT) (tb:TS):TS:=λD σ H=>∃W:Nat->St->Hp->Prop,(∃m,W m σ H)/\∀m σ H,W m σ H ->
 c σ H λb H1=>if b=true then ∃N:St->Hp->Prop,(∀σ' H',N σ' H'->∃m',m'<m/\W m' σ' H')/\tb { D with nx:=N,ct:=N,bk:=D.nx } σ H1 else D.nx σ H1
theorem z5J {c:Expr}{body:List Stmt}{tc:TT}{tb:TS}(hp:K8w (model X.prog X.w) X.A X.env X.xe) (hc:PT X c tc) (hb:PSs X body tb):PS X (.While c body [] pos) (z9t tc tb):=by
 intro pins s σ H D I h;obtain⟨W,⟨m0,w0⟩,turn⟩:=h;refine wpAny_While (codeAny_whileLoop (λn s'=>∃σ' H',Inv X pins σ' H' s'/\W n σ' H') ?_ m0 ⟨σ,H,I,w0⟩);rintro n s1 ⟨σ1,H1,I1,w1⟩;refine K2g hp (thn (hc pins s1 σ1 H1 _ I1 (turn n σ1 H1 w1)) λb s2 ⟨H2,I2,q2⟩=>?_);cases b with
 | true =>
  obtain⟨N,hN,q2⟩:=q2;rw[if_pos rfl];refine K2g hp (thn (hb pins s2 σ1 H2 _ I2 q2) λf s3 q3=>?_);cases f with
  | next =>
   obtain⟨σ3,H3,I3,n3⟩:=q3;obtain⟨m',hm,w3⟩:=hN σ3 H3 n3;exact⟨m',hm,σ3,H3,I3,w3⟩
  | cont =>
   obtain⟨σ3,H3,I3,n3⟩:=q3;obtain⟨m',hm,w3⟩:=hN σ3 H3 n3;exact⟨m',hm,σ3,H3,I3,w3⟩
  | brk=>exact q3
  | ret v=>exact q3
 | false =>
  rw[if_neg K0w];exact K6v ⟨σ1,H2,I2,q2⟩
end
structure It where
 go:Nat->Hp->Prop
 yld:Nat->Hp->V->Hp->Prop
 stop:Nat->Hp->Prop
def FpOk (X:Cx) (pins:List (Addr×Obj)) (H:Hp) (b:Addr):Prop :=
 H b=none/\b≠X.env.locals/\b∉X.fs/\(b∈X.ex\/X.s₀.heap.objs.size<=b)/\(∀x c,X.env.cells.lookup x=some c->c≠b)/\∀p∈X.pn++pins,p.1≠b
theorem Inv.fpOk {X:Cx}{pins:List (Addr×Obj)}{σ:St}{H H':Hp}{s:Shared}{b:Addr}(I:Inv X pins σ H s) (hb:s.heap.objs.size<=b) (hn:H' b=none):FpOk X pins H' b:=by
 refine⟨hn,K68 (K0i I.lt hb),I.nofs hb,.inr (K0b I.sz hb),λx c e z=>?_,λp hp z=>?_⟩
 ·obtain⟨v,q⟩:=I.cell x c e;exact absurd (K0i q.lt (by rw[z];exact hb)) (K2d _)
 ·exact absurd (K0i (K08 (I.pin p hp).1) (by rw[z];exact hb)) (K2d _)
structure Turn (P:K04) (w:World) (K:K0) (tg:Expr) (J:It) (fp:List Addr) (it:Addr) (tn:Nat->Heap->Prop):Prop where
 mem:it∈fp
 obj:∀i h,tn i h->∀b∈fp,∃o,h.get? b=some o/\∀v,o.data≠.cell v
 keep:∀i h h',tn i h->(∀b∈fp,∀o,h.get? b=some o->h'.get? b=some o)->tn i h'
 item:∀(X:Cx),X.prog=P->X.w=w->X.K=K->X.calm=true->∀(i:Nat) (pins:List (Addr×Obj)) (s:Shared) (σ:St) (H:Hp) (E:Value->Shared->Prop),Inv X pins σ H s->(∀b∈fp,FpOk X pins H b)->tn i s.heap->J.go i H ->
  wpAny (model P w) X.A (pyNext (.ref it)) (λr s1=>∃u,r=some u /\
   wpAny (model P w) X.A (K4e tg (.ref it) u) (λ_ s2=>∃x H',Inv X pins σ H' s2/\RelV x u/\J.yld i H x H'/\tn (i+1) s2.heap/\∀b∈fp,H' b=none) E s1) E s
 done:∀(X:Cx),X.prog=P->X.w=w->X.K=K->X.calm=true->∀(i:Nat) (pins:List (Addr×Obj)) (s:Shared) (σ:St) (H:Hp) (E:Value->Shared->Prop),Inv X pins σ H s->(∀b∈fp,FpOk X pins H b)->tn i s.heap->J.stop i H ->
  wpAny (model P w) X.A (pyNext (.ref it)) (λr s1=>r=none/\Inv X pins σ H s1) E s
 self:∀(A:Around) (i:Nat) (s:Shared) (Q:Value->Shared->Prop) (E:Value->Shared->Prop),tn i s.heap->Q (.ref it) s->wpAny (model P w) A (pyIter (.ref it)) Q E s
abbrev TI:=St->Hp->(It->Hp->Prop)->Prop
def PIE (X:Cx) (pins:List (Addr×Obj)) (σ:St) (tg:Expr) (R:It->Hp->Prop) (itv:Value) (s2:Shared):Prop :=
 ∃(it:Addr) (fp:List Addr) (tn:Nat->Heap->Prop) (J:It) (H':Hp),itv=.ref it/\Inv X pins σ H' s2/\Turn X.prog X.w X.K tg J fp it tn/\tn 0 s2.heap/\(∀b∈fp,FpOk X pins H' b)/\R J H'
def PI (X:Cx) (tg iter:Expr) (wi:TI):Prop :=
 ∀(pins:List (Addr×Obj)) (s:Shared) (σ:St) (H:Hp) (R:It->Hp->Prop),Inv X pins σ H s->wi σ H R ->
  wpAny (model X.prog X.w) X.A (eval iter X.env) (λv s1=>wpAny (model X.prog X.w) X.A (pyIter v) (PIE X pins σ tg R) X.xe s1) X.xe s
theorem z7w {M:Model}{A:Around}{E:Value->Shared->Prop}{s:Shared}{tg:Expr}{it:Addr}{u:Value}{o:Obj}{n:String}{vs:Array Value}{Q:Unit->Shared->Prop}(ho:s.heap.get? it=some o) (hc:o.cls=.type n) (hd:o.data=.fields vs)
 (hn:["enumerate","zip","dict_itemiterator","dict_reverseitemiterator","odict_iterator","itertools.zip_longest","itertools.pairwise"].contains n=false) (hQ:Q () s):wpAny M A (K4e tg (.ref it) u) Q E s:=by
 unfold K4e;cases tg<;>first
  | exact K4 hQ
  | (cases u<;>first
      | exact K4 hQ
      | (refine K1 (K3i ho ?_)
         rw[hc,hd];show wpAny M A (if (["enumerate","zip","dict_itemiterator","dict_reverseitemiterator","odict_iterator","itertools.zip_longest","itertools.pairwise"].contains n&&vs[0]?==some (rawInt _))=true then _ else _) Q E s;rw[if_neg (by intro h;rw[hn,K4v]at h;cases h)];exact K4 hQ))
def Itl (K:K0) (a:Addr):It :=
 ⟨λi H=>∃xs x,SqL K H a xs/\xs[i]?=some x,λi H x H'=>H'=H/\∀xs,SqL K H a xs->xs[i]?=some x,λi H=>∃xs,SqL K H a xs/\xs.length<=i⟩
def Itt (K:K0) (a:Addr):It :=
 ⟨λi H=>∃xs x,SqT K H a xs/\xs[i]?=some x,λi H x H'=>H'=H/\∀xs,SqT K H a xs->xs[i]?=some x,λi H=>∃xs,SqT K H a xs/\xs.length<=i⟩
def Itr (lo:Int) (n:Nat):It:=⟨λi _=>i<n,λi H x H'=>H'=H/\x=.int (lo+i),λi _=>n<=i⟩
theorem z4H {P:K04}{w:World}{K:K0}{tg:Expr}(a it:Addr):Turn P w K tg (Itl K a) [it] it (λi h=>h.IsListIter it a i) where
 mem:=by simp
 obj:=λi h st b hb=>by
  have e:b=it:=by simpa using hb
  subst e;obtain⟨o,e,c,d⟩:=st;exact⟨o,e,λv z=>by rw[d]at z;cases z⟩
 keep:=λi h h' st k=>st.at λo e=>k it (by simp) o e
 item:=by
  intro X hP hw hK hc i pins s σ H E I hf st hg;subst hP hw hK;obtain⟨xs,x,hq,hx⟩:=hg;obtain⟨its,rv,p,hz⟩:=I.list hq;obtain⟨u,hu,ru⟩:=rv.get hx;obtain⟨f0,f1,f2,f3,f4,f5⟩:=hf it (by simp);refine wpAny_pyNext_list_item st p.isList (x:=u) (by simpa using hu) λh' st' sb=>?_;have I1:Inv X pins σ H { s with heap:=h' }:=I.turned (t':=s.toks) (λb o hb e=>(sb.2 b hb).trans e) f0 f1 f3 f4 f5;obtain⟨o,e,c,d⟩:=id st';exact⟨u,rfl,z7w (s:={ s with heap:=h' }) e c d (by decide) ⟨x,H,I1,ru,⟨rfl,λys hy=>by rw[I.list_inj hy hq];exact hx⟩,st',λb hb=>(hf b hb).1⟩⟩
 done:=by
  intro X hP hw hK hc i pins s σ H E I hf st hg;subst hP hw hK;obtain⟨xs,hq,hx⟩:=hg;obtain⟨its,rv,p,hz⟩:=I.list hq;obtain⟨f0,f1,f2,f3,f4,f5⟩:=hf it (by simp);have hl:=rv.length;exact wpAny_pyNext_list_end (I.ok.hd hc) st p.isList (by simp;omega) λh' eb=>⟨rfl,I.turned (t':=s.toks) (λb o hb e=>eb b o hb e) f0 f1 f3 f4 f5⟩
 self:=λ_ _ _ _ _ st h=>wpAny_pyIter_listiter st h
theorem z3P {P:K04}{w:World}{K:K0}{tg:Expr}(a it:Addr):Turn P w K tg (Itt K a) [it] it (λi h=>h.IsTupleIter it a i) where
 mem:=by simp
 obj:=λi h st b hb=>by
  have e:b=it:=by simpa using hb
  subst e;obtain⟨o,e,c,d⟩:=st;exact⟨o,e,λv z=>by rw[d]at z;cases z⟩
 keep:=λi h h' st k=>st.at λo e=>k it (by simp) o e
 item:=by
  intro X hP hw hK hc i pins s σ H E I hf st hg;subst hP hw hK;obtain⟨xs,x,hq,hx⟩:=hg;obtain⟨its,rv,p,hz⟩:=I.tuple hq;obtain⟨u,hu,ru⟩:=rv.get hx;obtain⟨f0,f1,f2,f3,f4,f5⟩:=hf it (by simp);refine wpAny_pyNext_tuple_item st (show s.heap.IsTuple a its.toArray from p) (x:=u) (by simpa using hu) λh' st' sb=>?_;have I1:Inv X pins σ H { s with heap:=h' }:=I.turned (t':=s.toks) (λb o hb e=>(sb.2 b hb).trans e) f0 f1 f3 f4 f5;obtain⟨o,e,c,d⟩:=id st';exact⟨u,rfl,z7w (s:={ s with heap:=h' }) e c d (by decide) ⟨x,H,I1,ru,⟨rfl,λys hy=>by rw[I.tuple_inj hy hq];exact hx⟩,st',λb hb=>(hf b hb).1⟩⟩
 done:=by
  intro X hP hw hK hc i pins s σ H E I hf st hg;subst hP hw hK;obtain⟨xs,hq,hx⟩:=hg;obtain⟨its,rv,p,hz⟩:=I.tuple hq;obtain⟨f0,f1,f2,f3,f4,f5⟩:=hf it (by simp);have hl:=rv.length;exact wpAny_pyNext_tuple_end (I.ok.hd hc) st (show s.heap.IsTuple a its.toArray from p) (by simp;omega) λh' eb=>⟨rfl,I.turned (t':=s.toks) (λb o hb e=>eb b o hb e) f0 f1 f3 f4 f5⟩
 self:=λ_ _ _ _ _ st h=>wpAny_pyIter_tupleiter st h
theorem z3Y {P:K04}{w:World}{K:K0}{tg:Expr}(it:Addr) (lo:Int) (n:Nat):Turn P w K tg (Itr lo n) [it] it (λi h=>IsRangeIter h it (lo+(i:Nat) * 1) ((n:Int) - (i:Nat)) 1) where
 mem:=by simp
 obj:=λi h st b hb=>by
  have e:b=it:=by simpa using hb
  subst e;exact⟨_,st,λv z=>by
   have z':Data.fields _=Data.cell v:=z;cases z'⟩
 keep:=λi h h' st k=>k it (by simp) _ st
 item:=by
  intro X hP hw hK hc i pins s σ H E I hf st hg;subst hP hw hK;obtain⟨f0,f1,f2,f3,f4,f5⟩:=hf it (by simp);have W:=Walks.range (prog:=X.prog) (w:=X.w) (I.ok.hd hc) it lo 1 n;refine W.item i s _ _ hg st λv h' tk hv st' kk=>?_;obtain⟨t,rfl⟩:=hv;have I1:Inv X pins σ H { s with heap:=h',toks:=tk }:=I.turned (λb o hb e=>kk b o (by simpa using hb) e) f0 f1 f3 f4 f5;refine⟨_,rfl,z7w (s:={ s with heap:=h',toks:=tk }) (n:="range_iterator") st' rfl rfl (by decide) ⟨.int (lo+i),H,I1,⟨t,?_⟩,⟨rfl,rfl⟩,st',λb hb=>(hf b hb).1⟩⟩;rw[Int.mul_one]
 done:=by
  intro X hP hw hK hc i pins s σ H E I hf st hg;subst hP hw hK;obtain⟨f0,f1,f2,f3,f4,f5⟩:=hf it (by simp);exact wpAny_pyNext_range_end (I.ok.hd hc) st (by have:n<=i:=hg;omega) λh' eb=>⟨rfl,I.turned (t':=s.toks) (λb o hb e=>eb b o hb e) f0 f1 f3 f4 f5⟩
 self:=λ_ _ _ _ _ st h=>wpAny_pyIter_rangeiter st h
section
variable {X:Cx}{tg:Expr}
def zk4 (K:K0) (tl:TE):TI:=λσ H R=>tl σ H λx H1=>∃a,x=.ref a/\(∃xs,SqL K H1 a xs)/\R (Itl K a) H1
def iTup (K:K0) (tl:TE):TI:=λσ H R=>tl σ H λx H1=>∃a,x=.ref a/\(∃xs,SqT K H1 a xs)/\R (Itt K a) H1
theorem z8r {l:Expr}{tl:TE}(hl:PE X l tl):PI X tg l (zk4 X.K tl):=by
 intro pins s σ H R I h;refine thn (hl pins s σ H _ I h) λv s1 ⟨x,H1,I1,r1,q1⟩=>?_;obtain⟨a,e,⟨xs,hq⟩,q⟩:=q1;subst e;cases r1;obtain⟨its,rv,p,hz⟩:=I1.list hq;refine K5j p.isList ?_;refine⟨s1.heap.objs.size,[s1.heap.objs.size],_,_,H1,rfl,I1.kept (t':=s1.toks) λb o e=>K9 _ e,z4H a _,⟨_,K0r _ rfl,rfl,rfl⟩,λb hb=>?_,q⟩;have e:b=s1.heap.objs.size:=by simpa using hb
 subst e;exact I1.fpOk (K05 _) (I1.hok.fresh (K05 _))
theorem z8Q {l:Expr}{tl:TE}(hl:PE X l tl):PI X tg l (iTup X.K tl):=by
 intro pins s σ H R I h;refine thn (hl pins s σ H _ I h) λv s1 ⟨x,H1,I1,r1,q1⟩=>?_;obtain⟨a,e,⟨xs,hq⟩,q⟩:=q1;subst e;cases r1;obtain⟨its,rv,p,hz⟩:=I1.tuple hq;refine wpAny_pyIter_tuple (show s1.heap.IsTuple a its.toArray from p) ?_;refine⟨s1.heap.objs.size,[s1.heap.objs.size],_,_,H1,rfl,I1.kept (t':=s1.toks) λb o e=>K9 _ e,z3P a _,⟨_,K0r _ rfl,rfl,rfl⟩,λb hb=>?_,q⟩;have e:b=s1.heap.objs.size:=by simpa using hb
 subst e;exact I1.fpOk (K05 _) (I1.hok.fresh (K05 _))
theorem z3G {pins:List (Addr×Obj)}{σ:St}{H:Hp}{s:Shared}{R:It->Hp->Prop}{E:Value->Shared->Prop}{lo hi:Int}{t u v:Tok}{tk:Nat}(I:Inv X pins σ H s) (h1:-(2 ^ 62)<=lo) (h2:lo<2 ^ 62) (h3:-(2 ^ 62)<=hi) (h4:hi<2 ^ 62)
 (q:R (Itr lo (hi - lo).toNat) H):wpAny (model X.prog X.w) X.A (pyIter (.ref s.heap.objs.size)) (PIE X pins σ tg R) E { s with heap:=s.heap.push { cls:=.type "range",data:=.fields #[.int lo t,.int hi u,.int 1 v] },toks:=tk }:=by
 refine wpAny_pyIter_range (IsRange.new ..) (small_one h1 h2 h3 h4) ?_;have I1:Inv X pins σ H { s with heap:=s.heap.push { cls:=.type "range",data:=.fields #[.int lo t,.int hi u,.int 1 v] },toks:=tk }:=I.kept λb o e=>K9 _ e;refine⟨(s.heap.push { cls:=.type "range",data:=.fields #[.int lo t,.int hi u,.int 1 v] }).objs.size,[(s.heap.push { cls:=.type "range",data:=.fields #[.int lo t,.int hi u,.int 1 v] }).objs.size],_,_,H,rfl,
  I1.kept (t':=tk) λb o e=>K9 _ e,z3Y _ lo (hi - lo).toNat,?_,λb hb=>?_,q⟩
 ·have e1:lo+((0:Nat):Int) * 1=lo:=by simp
  have e2:(((hi - lo).toNat:Nat):Int) - ((0:Nat):Int)=Builtin.Range.rangeSize lo hi 1:=by rw[rangeSize_one];split<;>omega
  show IsRangeIter _ _ (lo+((0:Nat):Int) * 1) ((((hi - lo).toNat:Nat):Int) - ((0:Nat):Int)) 1;rw[e1,e2];exact K0r _ rfl
 ·have e:b=(s.heap.push { cls:=.type "range",data:=.fields #[.int lo t,.int hi u,.int 1 v] }).objs.size:=by simpa using hb
  subst e;exact I1.fpOk (K05 _) (I1.hok.fresh (K05 _))
def zl2 (ta:TA):TI:=λσ H R=>ta σ H λvs H1=>∃j:Int,vs=[.int j]/\-(2 ^ 62)<=j/\j<2 ^ 62/\R (Itr 0 j.toNat) H1
def zg5 (ta:TA):TI:=λσ H R=>ta σ H λvs H1=>∃i j:Int,vs=[.int i,.int j]/\(-(2 ^ 62)<=i/\i<2 ^ 62/\-(2 ^ 62)<=j/\j<2 ^ 62)/\R (Itr i (j - i).toNat) H1
theorem z4A {a:Expr}{ta:TA}{p pos:Pos}(hg:Gl X "range") (hm:X.mg "range" = none) (ha:PA X [a] ta) (hs:K7 [a] X.env=[(false,eval a X.env)]:=by rfl):PI X tg (.Call (.Name "range" p) [a] [] pos) (zl2 ta):=by
 intro pins s σ H R I h;refine Call_ (z2J I hg hm boot_range (K33 (thn (ha pos pins s σ H _ I h) λus s1 ⟨vs,H1,I1,r1,q1⟩=>?_) hs rfl));obtain⟨j,e,q1,q2,q⟩:=q1;subst e;cases r1 with
 | cons r rr =>
  cases rr;obtain⟨t,rfl⟩:=r;exact call_range_1 (z3G I1 (by omega) (by omega) q1 q2 (by simpa using q))
theorem z5j {a b:Expr}{ta:TA}{p pos:Pos}(hg:Gl X "range") (hm:X.mg "range" = none) (ha:PA X [a,b] ta) (hs:K7 [a,b] X.env=[(false,eval a X.env),(false,eval b X.env)]:=by rfl) (hs2:K7 [b] X.env=[(false,eval b X.env)]:=by rfl) :
 PI X tg (.Call (.Name "range" p) [a,b] [] pos) (zg5 ta):=by
 intro pins s σ H R I h;refine Call_ (z2J I hg hm boot_range (K33 (thn (ha pos pins s σ H _ I h) λus s1 ⟨vs,H1,I1,r1,q1⟩=>?_) (by rw[hs,hs2]) (by rw[hs2];rfl)));obtain⟨i,j,e,⟨q1,q2,q3,q4⟩,q⟩:=q1;subst e;cases r1 with
 | cons r rr =>
  cases rr with
  | cons r' rr =>
   cases rr;obtain⟨t,rfl⟩:=r;obtain⟨t',rfl⟩:=r';exact call_range_2 (z3G I1 q1 q2 q3 q4 q)
def tFor (wi:TI) (g:TG) (tb:TS):TS:=λD σ H=>wi σ H λJ H1=>∃W:Nat->Nat->St->Hp->Prop,(∃m,W 0 m σ H1)/\∀i m σ H,W i m σ H ->
 (J.stop i H/\D.nx σ H)\/(J.go i H/\∃N:St->Hp->Prop,(∀σ' H',N σ' H'->∃m',m'<m/\W (i+1) m' σ' H')/\∀x H',J.yld i H x H'->g x σ H' λσ2 H2=>tb { D with nx:=N,ct:=N,bk:=D.nx } σ2 H2)
def z2M (fp:List Addr) (h:Heap):List (Addr×Obj):=fp.filterMap λb=>(h.get? b).map λo=>(b,o)
theorem z0v {fp:List Addr}{h:Heap}{b:Addr}{o:Obj}(hb:b∈fp) (e:h.get? b=some o):(b,o)∈z2M fp h:=List.mem_filterMap.mpr ⟨b,hb,by rw[e];rfl⟩
theorem z4b {fp:List Addr}{h:Heap}{p:Addr×Obj}(hp:p∈z2M fp h):p.1∈fp/\h.get? p.1=some p.2:=by
 obtain⟨b,hb,e⟩:=List.mem_filterMap.mp hp;cases q:h.get? b with
 | none=>rw[q]at e;cases e
 | some o =>
  rw[q]at e;have e':(b,o)=p:=K0u e;subst e';exact⟨hb,q⟩
theorem Inv.pinned {pins:List (Addr×Obj)}{σ:St}{H:Hp}{s:Shared}{fp:List Addr}(I:Inv X pins σ H s) (hf:∀b∈fp,FpOk X pins H b) (ho:∀b∈fp,∃o,s.heap.get? b=some o/\∀v,o.data≠.cell v):Inv X (pins++z2M fp s.heap) σ H s :=
 I.pins_of λp hp=>(K0g.mp hp).elim (λz=>I.pin p (K0d _ z)) λz=>by
  obtain⟨hb,e⟩:=z4b z;obtain⟨f0,f1,f2,_⟩:=hf p.1 hb;obtain⟨o,e',d⟩:=ho p.1 hb;rw[e]at e';cases e';exact⟨e,f0,f1,f2,d⟩
theorem Inv.unpinned {pins pl:List (Addr×Obj)}{σ:St}{H:Hp}{s:Shared}(I:Inv X (pins++pl) σ H s):Inv X pins σ H s:=I.pins_of λp hp=>I.pin p (K0d _ (K2j _ hp))
theorem z8I {iter:Expr}{body:List Stmt}{wi:TI}{g:TG}{tb:TS}{pos:Pos}(hp:K8w (model X.prog X.w) X.A X.env X.xe) (hc:X.calm=true) (hi:PI X tg iter wi) (hg:PG X tg g) (hb:PSs X body tb)
 (hs:∀x,K1z iter X.env x=pure x:=by intro _;rfl):PS X (.For tg iter body [] pos) (tFor wi g tb):=by
 intro pins s σ H D I h;refine wpAny_For (thn (hi pins s σ H _ I h) λv s1 h1=>thn h1 λitv s2 h2=>?_) hs;obtain⟨it,fp,tn,J,H2,e,I2,T,st2,f2,W,⟨m0,w0⟩,turn⟩:=h2;subst e;have stat:∀{H':Hp},(∀b∈fp,H' b=none)->∀b∈fp,FpOk X pins H' b:=λhn b hb=>⟨hn b hb,(f2 b hb).2⟩;refine codeAny_forLoop_any (λn s'=>∃i σ' H',Inv X pins σ' H' s'/\tn i s'.heap/\(∀b∈fp,H' b=none)/\W i n σ' H') ?_ m0 ⟨0,σ,H2,I2,st2,λb hb=>(f2 b hb).1,w0⟩;rintro n s3 ⟨i,σ3,H3,I3,st3,fr3,w3⟩;rcases turn i n σ3 H3 w3 with ⟨stop,qn⟩|⟨go,N,hN,step⟩
 ·refine K2g hp (thn (T.done X rfl rfl rfl hc i pins s3 σ3 H3 X.xe I3 (stat fr3) st3 stop) λr s4 ⟨hr,I4⟩=>?_);subst hr;exact K6v ⟨σ3,H3,I4,qn⟩
 ·refine K2g hp (thn (T.item X rfl rfl rfl hc i pins s3 σ3 H3 X.xe I3 (stat fr3) st3 go) λr s4 ⟨u,hr,h4⟩=>?_);subst hr;refine K2g hp (thn h4 λ_ s5 ⟨x,H5,I5,r5,y5,st5,fr5⟩=>?_);have I5':=I5.pinned (stat fr5) (T.obj _ _ st5);refine K2g hp (thn (hg _ s5 σ3 H5 x u _ I5' r5 (step x H5 y5)) λ_ s6 ⟨σ6,H6,I6,q6⟩=>?_);refine K2g hp (thn (hb _ s6 σ6 H6 _ I6 q6) λf s7 q7=>?_);have again:∀{σ7:St} {H7:Hp},Inv X (pins++z2M fp s5.heap) σ7 H7 s7->N σ7 H7->∃m,m<n/\∃i σ' H',Inv X pins σ' H' s7/\tn i s7.heap/\(∀b∈fp,H' b=none)/\W i m σ' H':=λ{σ7 H7} I7 n7=>by
   obtain⟨m',hm,w7⟩:=hN σ7 H7 n7;refine⟨m',hm,i+1,σ7,H7,I7.unpinned,T.keep _ _ _ st5 λb hb o e=>(I7.pin (b,o) (K0d _ (K0d _ (z0v hb e)))).1,λb hb=>?_,w7⟩;obtain⟨o,e,d⟩:=T.obj _ _ st5 b hb;exact(I7.pin (b,o) (K0d _ (K0d _ (z0v hb e)))).2.1
  cases f with
  | next=>obtain⟨σ7,H7,I7,n7⟩:=q7;exact again I7 n7
  | cont=>obtain⟨σ7,H7,I7,n7⟩:=q7;exact again I7 n7
  | brk=>obtain⟨σ7,H7,I7,q7⟩:=q7;exact⟨σ7,H7,I7.unpinned,q7⟩
  | ret v=>obtain⟨x7,σ7,H7,I7,r7,q7⟩:=q7;exact⟨x7,σ7,H7,I7.unpinned,r7,q7⟩
end
abbrev R2:=V->V->Hp->VK->Prop
def OpR (X:Cx) (f:Value->Value->Sem Value) (r:R2):Prop :=
 ∀(pins:List (Addr×Obj)) (s:Shared) (σ:St) (H:Hp) (x y:V) (v u:Value) (Q:VK),Inv X pins σ H s->RelV x v->RelV y u->r x y H Q ->
  wpAny (model X.prog X.w) X.A (f v u) (EP X pins σ Q) X.xe s
def UnR (X:Cx) (f:Value->Sem Value) (r:V->Hp->VK->Prop):Prop :=
 ∀(pins:List (Addr×Obj)) (s:Shared) (σ:St) (H:Hp) (x:V) (v:Value) (Q:VK),Inv X pins σ H s->RelV x v->r x H Q ->
  wpAny (model X.prog X.w) X.A (f v) (EP X pins σ Q) X.xe s
def CallR (X:Cx) (f:Value) (r:List V->Hp->VK->Prop):Prop :=
 ∀(pins:List (Addr×Obj)) (s:Shared) (σ:St) (H:Hp) (xs:List V) (us:List Value) (Q:VK),Inv X pins σ H s->Vals xs us->r xs H Q ->
  wpAny (model X.prog X.w) X.A (call f us) (EP X pins σ Q) X.xe s
def TruR (X:Cx) (r:V->Hp->(Bool->Hp->Prop)->Prop):Prop :=
 ∀(pins:List (Addr×Obj)) (s:Shared) (σ:St) (H:Hp) (x:V) (v:Value) (Q:Bool->Hp->Prop),Inv X pins σ H s->RelV x v->r x H Q ->
  wpAny (model X.prog X.w) X.A (truthy v) (TP X pins σ Q) X.xe s
def tOp (r:R2) (ta tb:TE):TE:=λσ H Q=>ta σ H λx H1=>tb σ H1 λy H2=>r x y H2 Q
def tUn (r:V->Hp->VK->Prop) (ta:TE):TE:=λσ H Q=>ta σ H λx H1=>r x H1 Q
def rI (C:Int->Int->Prop) (g:Int->Int->V):R2:=λx y H Q=>∃i j,x=.int i/\y=.int j/\C i j/\Q (g i j) H
def rI0 (g:Int->Int->V):R2:=λx y H Q=>∃i j,x=.int i/\y=.int j/\Q (g i j) H
def rU (g:Int->V):V->Hp->VK->Prop:=λx H Q=>∃i,x=.int i/\Q (g i) H
section
variable {X:Cx}{a b c:Expr}{ta tb tc:TE}{pos:Pos}
theorem binT (ha:PE X a ta) (hb:PE X b tb) {pins:List (Addr×Obj)}{s:Shared}{σ:St}{H:Hp}{R:V->V->Hp->Prop}(I:Inv X pins σ H s)
 (h:ta σ H λx H1=>tb σ H1 λy H2=>R x y H2) {Q:Value->Shared->Prop} {f:Value->Value->Sem Value}
 (hf:∀v u s2 x y H2,Inv X pins σ H2 s2->RelV x v->RelV y u->R x y H2->wpAny (model X.prog X.w) X.A (f v u) Q X.xe s2) :
 wpAny (model X.prog X.w) X.A (eval a X.env) (λv s₁=>wpAny (model X.prog X.w) X.A (eval b X.env) (λu s₂=>wpAny (model X.prog X.w) X.A (f v u) Q X.xe s₂) X.xe s₁) X.xe s:=by
 refine thn (ha pins s σ H _ I h) λv s1 ⟨x,H1,I1,r1,q1⟩=>?_;refine thn (hb pins s1 σ H1 _ I1 q1) λu s2 ⟨y,H2,I2,r2,q2⟩=>?_;exact hf v u s2 x y H2 I2 r1 r2 q2
theorem zm4 {op:K8k}{r:R2}(ho:OpR X (K2a op) r) (ha:PE X a ta) (hb:PE X b tb):PE X (.BinOp a op b pos) (tOp r ta tb):=by
 intro pins s σ H Q I h;exact wpAny_BinOp (binT ha hb I h λv u s2 x y H2 I2 rx ry q=>ho pins s2 σ H2 x y v u Q I2 rx ry q)
theorem zh2 {op:UnaryOp}{r:V->Hp->VK->Prop}(ho:UnR X (unaryOp op) r) (ha:PE X a ta):PE X (.UnaryOp op a pos) (tUn r ta):=by
 intro pins s σ H Q I h;exact UnaryOp_ (thn (ha pins s σ H _ I h) λv s1 ⟨x,H1,I1,r1,q1⟩=>ho pins s1 σ H1 x v Q I1 r1 q1)
theorem opI {f:Value->Value->Sem Value}{C:Int->Int->Prop}{g:Int->Int->Int}
 (rule:∀(i j:Int) (t u:Tok) (s:Shared) (Q:Value->Shared->Prop) (E:Value->Shared->Prop),C i j->Q (.int (g i j) s.toks) { s with toks:=s.toks+1 }->wpAny (model X.prog X.w) X.A (f (.int i t) (.int j u)) Q E s) :
 OpR X f (rI C λi j=>.int (g i j)):=by
 intro pins s σ H x y v u Q I rx ry h;obtain⟨i,j,rfl,rfl,hc,q⟩:=h;obtain⟨t,rfl⟩:=rx;obtain⟨t',rfl⟩:=ry;exact rule i j t t' s _ _ hc ⟨.int (g i j),H,I.tok _,⟨_,rfl⟩,q⟩
theorem opI0 {f:Value->Value->Sem Value}{g:Int->Int->Int}
 (rule:∀(i j:Int) (t u:Tok) (s:Shared) (Q:Value->Shared->Prop) (E:Value->Shared->Prop),Q (.int (g i j) s.toks) { s with toks:=s.toks+1 }->wpAny (model X.prog X.w) X.A (f (.int i t) (.int j u)) Q E s) :
 OpR X f (rI0 λi j=>.int (g i j)):=by
 intro pins s σ H x y v u Q I rx ry h;obtain⟨i,j,rfl,rfl,q⟩:=h;obtain⟨t,rfl⟩:=rx;obtain⟨t',rfl⟩:=ry;exact rule i j t t' s _ _ ⟨.int (g i j),H,I.tok _,⟨_,rfl⟩,q⟩
theorem opB0 {f:Value->Value->Sem Value}{g:Int->Int->Bool}
 (rule:∀(i j:Int) (t u:Tok) (s:Shared) (Q:Value->Shared->Prop) (E:Value->Shared->Prop),Q (.bool (g i j)) s->wpAny (model X.prog X.w) X.A (f (.int i t) (.int j u)) Q E s) :
 OpR X f (rI0 λi j=>.bl (g i j)):=by
 intro pins s σ H x y v u Q I rx ry h;obtain⟨i,j,rfl,rfl,q⟩:=h;obtain⟨t,rfl⟩:=rx;obtain⟨t',rfl⟩:=ry;exact rule i j t t' s _ _ ⟨.bl (g i j),H,I,rfl,q⟩
def CDiv (i j:Int):Prop:=0<j/\j<1073741824
def CPow (i j:Int):Prop:=0<=j/\j<=1000000/\i.natAbs<2 ^ 64
def CMul (i j:Int):Prop:=(-(2 ^ 64)<i/\i<2 ^ 64)\/(-(2 ^ 64)<j/\j<2 ^ 64)
theorem CMul.ok {i j:Int}(h:CMul i j):IntMulOk i j:=by
 rcases h with ⟨h1,h2⟩|⟨h1,h2⟩
 ·exact .of_left (intBits_le_64 h1 h2)
 ·exact .of_right (intBits_le_64 h1 h2)
theorem op_add:OpR X (K2a .Add) (rI0 λi j=>.int (i+j)):=opI0 λ_ _ _ _ _ _ _ q=>add_int q
theorem zc7:OpR X (K2a .Sub) (rI0 λi j=>.int (i - j)):=opI0 λ_ _ _ _ _ _ _ q=>sub_int q
theorem op_mul:OpR X (K2a .Mult) (rI CMul λi j=>.int (i * j)):=opI λ_ _ _ _ _ _ _ hc q=>mul_int q hc.ok
theorem z7p:OpR X (K2a .FloorDiv) (rI CDiv λi j=>.int (i / j)):=opI λi j _ _ _ _ _ hc q=>by
 have h1:(0:Int)<j:=hc.1;have h2:j<1073741824:=hc.2;exact floordiv_int (by omega) (by rw[Int.fdiv_eq_ediv_of_nonneg i (by omega)];exact q) (.inl (PyProof.noPylong_small (by omega)))
theorem z9w:OpR X (K2a .Mod) (rI (λ_ j=>0<j) λi j=>.int (i % j)):=opI λi j _ _ _ _ _ hc q=>by
 have h1:(0:Int)<j:=hc;exact mod_int' (by omega) (by rw[Int.fmod_eq_emod_of_nonneg i (by omega)];exact q)
theorem z8y:OpR X (K2a .Pow) (rI CPow λi j=>.int (i ^ j.toNat)):=opI λ_ _ _ _ _ _ _ hc q=>pow_int_small hc.1 hc.2.1 hc.2.2 q
theorem unI {f:Value->Sem Value}{g:Int->Int}
 (rule:∀(i:Int) (t:Tok) (s:Shared) (Q:Value->Shared->Prop) (E:Value->Shared->Prop),Q (.int (g i) s.toks) { s with toks:=s.toks+1 }->wpAny (model X.prog X.w) X.A (f (.int i t)) Q E s) :
 UnR X f (rU λi=>.int (g i)):=by
 intro pins s σ H x v Q I rx h;obtain⟨i,rfl,q⟩:=h;obtain⟨t,rfl⟩:=rx;exact rule i t s _ _ ⟨.int (g i),H,I.tok _,⟨_,rfl⟩,q⟩
theorem z8B:UnR X (unaryOp .USub) (rU λi=>.int (-i)):=unI λ_ _ _ _ _ q=>neg_int q
end
def scal:V->V->Bool
 | .non,.non=>true|.non,.int _=>true|.int _,.non=>true|.non,.bl _=>true|.bl _,.non=>true|.non,.str _=>true|.str _,.non=>true
 | .int _,.int _=>true|.bl _,.bl _=>true|.str _,.str _=>true|.byt _,.byt _=>true
 | .int _,.str _=>true|.str _,.int _=>true|.bl _,.str _=>true|.str _,.bl _=>true
 | _,_=>false
def rEq:R2:=λx y H Q=>scal x y=true/\Q (.bl (decide (x=y))) H
theorem z7r {i j:Int}:decide (V.int i=V.int j)=(i==j):=by
 rw[K1h];simp
theorem z9V {i j:Bool}:decide (V.bl i=V.bl j)=(i==j):=by
 rw[K1h];simp
theorem z7m {i j:Str}:decide (V.str i=V.str j)=(i==j):=by
 rw[K1h];simp
theorem z7j {i j:Array UInt8}:decide (V.byt i=V.byt j)=(i.toList==j.toList):=by
 rw[K1h];cases i;cases j;simp
section
variable {X:Cx}{a b c:Expr}{ta tb tc:TE}{pos:Pos}
theorem v5 {pins:List (Addr×Obj)}{σ:St}{H:Hp}{s:Shared}{Q:VK}{k k':Bool}(I:Inv X pins σ H s) (q:Q (.bl k) H) (e:k=k'):EP X pins σ Q (.bool k') s:=by
 subst e;exact⟨.bl k,H,I,rfl,q⟩
theorem zk0:OpR X (K1s .Eq) rEq:=by
 intro pins s σ H x y v u Q I rx ry h;obtain⟨hs,q⟩:=h;cases x with
 | non =>
  cases rx;cases y with
  | non=>cases ry;exact PySem.EqNone.eq_none_none (v5 I q (by simp))
  | bl j=>cases ry;exact PySem.EqNone.eq_none_bool (v5 I q (by simp))
  | int j=>obtain⟨t',rfl⟩:=ry;exact PySem.EqNone.eq_none_int (v5 I q (by simp))
  | str j=>obtain⟨t',rfl⟩:=ry;exact PySem.EqNone.eq_none_str (v5 I q (by simp))
  | _=>exact absurd (show false=true from hs) K0w
 | bl i =>
  cases rx;cases y with
  | non=>cases ry;exact PySem.EqNone.eq_bool_none (v5 I q (by simp))
  | bl j=>cases ry;exact eq_bool (v5 I q z9V)
  | str j=>obtain⟨t',rfl⟩:=ry;exact PySem.EqMixed.eq_bool_str (v5 I q (by simp))
  | _=>exact absurd (show false=true from hs) K0w
 | int i =>
  obtain⟨t,rfl⟩:=rx;cases y with
  | non=>cases ry;exact PySem.EqNone.eq_int_none (v5 I q (by simp))
  | int j=>obtain⟨t',rfl⟩:=ry;exact eq_int (v5 I q z7r)
  | str j=>obtain⟨t',rfl⟩:=ry;exact PySem.EqMixed.eq_int_str (v5 I q (by simp))
  | _=>exact absurd (show false=true from hs) K0w
 | str i =>
  obtain⟨t,rfl⟩:=rx;cases y with
  | non=>cases ry;exact PySem.EqNone.eq_str_none (v5 I q (by simp))
  | bl j=>cases ry;exact PySem.EqMixed.eq_str_bool (v5 I q (by simp))
  | int j=>obtain⟨t',rfl⟩:=ry;exact PySem.EqMixed.eq_str_int (v5 I q (by simp))
  | str j=>obtain⟨t',rfl⟩:=ry;exact eq_str (v5 I q z7m)
  | _=>exact absurd (show false=true from hs) K0w
 | byt i =>
  obtain⟨t,rfl⟩:=rx;cases y with
  | byt j=>obtain⟨t',rfl⟩:=ry;exact PySem.W.eq_bytes (v5 I q z7j)
  | _=>exact absurd (show false=true from hs) K0w
 | _=>cases y<;>exact absurd (show false=true from hs) K0w
theorem op_lt:OpR X (K1s .Lt) (rI0 λi j=>.bl (decide (i<j))):=opB0 λ_ _ _ _ _ _ _ q=>lt_int q
theorem op_le:OpR X (K1s .LtE) (rI0 λi j=>.bl (decide (i<=j))):=opB0 λ_ _ _ _ _ _ _ q=>le_int q
theorem zk2:OpR X (K1s .Gt) (rI0 λi j=>.bl (decide (j<i))):=opB0 λ_ _ _ _ _ _ _ q=>gt_int q
theorem zj3:OpR X (K1s .GtE) (rI0 λi j=>.bl (decide (j<=i))):=opB0 λ_ _ _ _ _ _ _ q=>ge_int q
theorem z53:OpR X (K1s .Lt) (λx y H Q=>∃i j,x=.str i/\y=.str j/\Q (.bl (decide (i.cps.toList<j.cps.toList))) H):=by
 intro pins s σ H x y v u Q I rx ry h;obtain⟨i,j,rfl,rfl,q⟩:=h;obtain⟨t,rfl⟩:=rx;obtain⟨t',rfl⟩:=ry;exact lt_str (v5 I q rfl)
theorem OpR.or {f:Value->Value->Sem Value}{r r':R2}(h:OpR X f r) (h':OpR X f r'):OpR X f (λx y H Q=>r x y H Q\/r' x y H Q):=by
 intro pins s σ H x y v u Q I rx ry q;rcases q with q|q
 ·exact h pins s σ H x y v u Q I rx ry q
 ·exact h' pins s σ H x y v u Q I rx ry q
theorem z6T (b:Expr) {op:CmpOp}(h:op≠.In:=by decide) (h2:op≠.NotIn:=by decide):K30 op b=false:=by
 have e1:(op==CmpOp.In)=false:=by cases op<;>first|rfl|exact absurd rfl h
 have e2:(op==CmpOp.NotIn)=false:=by cases op<;>first|rfl|exact absurd rfl h2
 cases b<;>simp[K30,e1,e2]
theorem z8o {op:CmpOp}{r:R2}(ho:OpR X (K1s op) r) (ha:PE X a ta) (hb:PE X b tb) (hm:K30 op b=false):PE X (.Compare a [op] [b] pos) (tOp r ta tb):=by
 intro pins s σ H Q I h;exact wpAny_Compare1 (binT ha hb I h λv u s2 x y H2 I2 rx ry q=>ho pins s2 σ H2 x y v u Q I2 rx ry q) hm
def z9U (t:TE):TT:=λσ H Q=>t σ H λx H'=>∃k,x=.bl k/\Q k H'
theorem z8g {op:CmpOp}{r:R2}(ho:OpR X (K1s op) r) (ha:PE X a ta) (hb:PE X b tb) (hm:K30 op b=false):PT X (.Compare a [op] [b] pos) (z9U (tOp r ta tb)):=by
 intro pins s σ H Q I h;refine wpAny_isTrue_Compare1 (thn (ha pins s σ H _ I h) λv s1 ⟨x,H1,I1,r1,q1⟩=>thn (hb pins s1 σ H1 _ I1 q1) λu s2 ⟨y,H2,I2,r2,q2⟩ =>
  thn (ho pins s2 σ H2 x y v u _ I2 r1 r2 q2) λc s3 ⟨z,H3,I3,r3,k,e,q3⟩=>?_) hm
 subst e;cases r3;exact K1r ⟨H3,I3,q3⟩
def z6L (r r':R2) (ta tb tc:TE):TE:=λσ H Q=>ta σ H λx H1=>tb σ H1 λy H2=>r x y H2 λz H3=>∃k,z=.bl k /\
 (if k=true then tc σ H3 λw' H4=>r' y w' H4 Q else Q (.bl false) H3)
theorem z5z {op op':CmpOp}{r r':R2}(ho:OpR X (K1s op) r) (ho':OpR X (K1s op') r') (ha:PE X a ta) (hb:PE X b tb) (hc:PE X c tc)
 (hm:lastMarks [op,op'] [b,c]=false:=by with_unfolding_all rfl):PE X (.Compare a [op,op'] [b,c] pos) (z6L r r' ta tb tc):=by
 intro pins s σ H Q I h;refine Compare_chain (thn (ha pins s σ H _ I h) λv s1 ⟨x,H1,I1,r1,q1⟩=>chain_link (thn (hb pins s1 σ H1 _ I1 q1) λu s2 ⟨y,H2,I2,r2,q2⟩ =>
  thn (ho pins s2 σ H2 x y v u _ I2 r1 r2 q2) λd s3 ⟨z,H3,I3,r3,k,e,q3⟩=>?_)) hm
 subst e;cases r3;refine K1r ?_;cases k with
 | false=>exact ite_ff ⟨.bl false,H3,I3,rfl,q3⟩
 | true=>exact ite_tt (chain_last (thn (hc pins s3 σ H3 _ I3 q3) λw' s4 ⟨z',H4,I4,r4,q4⟩=>ho' pins s4 σ H4 y z' u w' Q I4 r2 r4 q4))
def TruV (K:K0) (x:V) (H:Hp) (k:Bool):Prop :=
 match x with
 | .non=>k=false
 | .bl b=>k=b
 | .int i=>k=(i != 0)
 | .str y=>y.length<=sizeLine/\k=((y.length:Int) != 0)
 | .byt y=>y.size<=sizeLine/\k=((y.size:Int) != 0)
 | .ref p=>(∃xs,SqL K H p xs/\k = !xs.isEmpty)\/(∃xs,SqT K H p xs/\k = !xs.isEmpty)\/∃kvs,H p=some (.dK kvs)/\k = !kvs.isEmpty
 | _=>False
theorem z3U {κ:Type}{kvs:List (κ×V)}{vs:List (κ×Value)}(r:KV kvs vs):(!vs.isEmpty) = !kvs.isEmpty:=by
 cases r<;>rfl
theorem z1V {xs:List V}{its:List Value}(r:Vals xs its):(!its.toArray.isEmpty) = !xs.isEmpty:=by
 cases r<;>simp
theorem z1U:(sizeLine:Nat)<2 ^ 63:=by rw[K78];decide
theorem zc9:TruR X (λx H Q=>∃k,TruV X.K x H k/\Q k H):=by
 intro pins s σ H x v Q I rx h;obtain⟨k,e,q⟩:=h;have hl:=z1U;have hs:sizeLine=16777216:=K78;cases x with
 | non =>
  cases rx;have e':k=false:=e;subst e';exact truthy_none ⟨H,I,q⟩
 | bl b =>
  cases rx;have e':k=b:=e;subst e';exact K1r ⟨H,I,q⟩
 | int i =>
  obtain⟨t,rfl⟩:=rx;have e':k=(i != 0):=e;subst e';exact PySem.P.truthy_int ⟨H,I,q⟩
 | str y =>
  obtain⟨t,rfl⟩:=rx;obtain⟨hy,e'⟩:y.length<=sizeLine/\k=((y.length:Int) != 0):=e;subst e';exact PySem.P.truthy_str (by omega) ⟨H,I.tok _,q⟩
 | byt y =>
  obtain⟨t,rfl⟩:=rx;obtain⟨hy,e'⟩:y.size<=sizeLine/\k=((y.size:Int) != 0):=e;subst e';exact PySem.W.truthy_bytes (by omega) ⟨H,I.tok _,q⟩
 | ref p =>
  cases rx;have e':(∃xs,SqL X.K H p xs/\k = !xs.isEmpty)\/(∃xs,SqT X.K H p xs/\k = !xs.isEmpty)\/∃kvs,H p=some (.dK kvs)/\k = !kvs.isEmpty:=e;rcases e' with ⟨xs,hx,e'⟩|⟨xs,hx,e'⟩|⟨kvs,hx,e'⟩
  ·subst e';obtain⟨its,r,pl,hz⟩:=I.list hx;have hlen:=r.length;exact wpAny_truthy_list pl.isList (by simp only[K8];omega) ⟨H,I.tok _,by rw[z1V r];exact q⟩
  ·subst e';obtain⟨its,r,pl,hz⟩:=I.tuple hx;have hlen:=r.length;exact truthy_tuple pl (by simp only[K8];omega) ⟨H,I.tok _,by rw[z1V r];exact q⟩
  ·subst e';obtain⟨hz,hS,vs,r,m⟩:kvs.length<=sizeLine/\(p==K6c)=false/\∃vs,KV kvs vs/\s.heap.DictOf (z1r X.prog X.w) p vs:=I.hok p _ hx;have hlen:kvs.length=vs.length:=K43 r;exact wpAny_truthy_dict hS m (by omega) ⟨H,I.tok _,by rw[z3U r];exact q⟩
 | _=>exact(show False from e).elim
theorem z64 (ha:PE X a ta) (he:∀whole,isTrue a X.env whole=(do let v <- whole;K5g a.pos;K4o [v] (truthy v))) :
 PT X a (λσ H Q=>ta σ H λx H'=>∃k,TruV X.K x H' k/\Q k H'):=by
 intro pins s σ H Q I h;exact isTrue_plain (thn (ha pins s σ H _ I h) λv s1 ⟨x,H1,I1,r1,q1⟩=>zc9 pins s1 σ H1 x v Q I1 r1 q1) (he _)
theorem op_add_str:OpR X (K2a .Add) (λx y H Q=>∃i j,x=.str i/\y=.str j/\i.length+j.length<=sizeLine/\Q (.str (i++j)) H):=by
 intro pins s σ H x y v u Q I rx ry h;obtain⟨i,j,rfl,rfl,hz,q⟩:=h;obtain⟨t,rfl⟩:=rx;obtain⟨t',rfl⟩:=ry;exact add_str (λt' tk=>⟨.str (i++j),H,I.tok _,⟨_,rfl⟩,q⟩) hz
theorem vals1 {x:V}{us:List Value}(r:Vals [x] us):∃u,us=[u]/\RelV x u:=by
 cases r with
 | cons r1 r2=>cases r2;exact⟨_,rfl,r1⟩
theorem vals2 {x y:V}{us:List Value}(r:Vals [x,y] us):∃u w',us=[u,w']/\RelV x u/\RelV y w':=by
 cases r with
 | cons r1 r2 =>
  cases r2 with
  | cons r3 r4=>cases r4;exact⟨_,_,rfl,r1,r3⟩
theorem z2L:CallR X (.type "str") (λxs H Q=>∃i,xs=[.int i]/\i.natAbs.log2<1920/\Q (.str (toString i)) H):=by
 intro pins s σ H xs us Q I r h;obtain⟨i,rfl,hz,q⟩:=h;obtain⟨u,rfl,t,rfl⟩:=vals1 r;exact PySem.P.str_of_int hz ⟨.str _,H,I.tok _,⟨_,rfl⟩,q⟩
def LenV (K:K0) (x:V) (H:Hp) (n:Nat):Prop :=
 match x with
 | .str y=>y.length<=sizeLine/\n=y.length
 | .byt y=>y.size<=sizeLine/\n=y.size
 | .ref p=>(∃xs,SqL K H p xs/\n=xs.length)\/∃xs,SqT K H p xs/\n=xs.length
 | _=>False
theorem z6g:CallR X (.builtin "len") (λxs H Q=>∃x n,xs=[x]/\LenV X.K x H n/\Q (.int n) H):=by
 intro pins s σ H xs us Q I r h;obtain⟨x,n,rfl,e,q⟩:=h;obtain⟨u,rfl,rx⟩:=vals1 r;have hl:=z1U;have hs:sizeLine=16777216:=K78;cases x with
 | str y =>
  obtain⟨t,rfl⟩:=rx;obtain⟨hy,e'⟩:y.length<=sizeLine/\n=y.length:=e;subst e';exact len_str (by omega) ⟨.int _,H,I.tok _,⟨_,rfl⟩,q⟩
 | byt y =>
  obtain⟨t,rfl⟩:=rx;obtain⟨hy,e'⟩:y.size<=sizeLine/\n=y.size:=e;subst e';exact PySem.W.len_bytes (by omega) ⟨.int _,H,I.tok _,⟨_,rfl⟩,q⟩
 | ref p =>
  cases rx;have e':(∃xs,SqL X.K H p xs/\n=xs.length)\/∃xs,SqT X.K H p xs/\n=xs.length:=e;rcases e' with ⟨xs,hx,e'⟩|⟨xs,hx,e'⟩
  ·subst e';obtain⟨its,r',pl,hz⟩:=I.list hx;have hlen:=r'.length;exact Calls.call_len_list pl.isList (by simp only[K8];omega) ⟨.int xs.length,H,I.tok _,⟨_,by simp only[K8];rw[hlen]⟩,q⟩
  ·subst e';obtain⟨its,r',pl,hz⟩:=I.tuple hx;have hlen:=r'.length;exact len_tuple pl (by simp only[K8];omega) ⟨.int xs.length,H,I.tok _,⟨_,by simp only[K8];rw[hlen]⟩,q⟩
 | _=>exact(show False from e).elim
end
structure ObjM (h:Heap) (x dx C:Addr) (mA:Str->Option Value):Prop where
 obj:h.get? x=some (K21 C dx)
 ns:h.Ns1 dx mA
 ne:dx≠x
theorem z4n {h:Heap}{dx:Addr}{mA:Str->Option Value}(n:h.Ns1 dx mA):∃od,h.get? dx=some od/\∀name,K4t name od=some (mA name):=by
 obtain⟨o,es,ep,ho,hd,hk,_,hm⟩:=n;refine⟨o,ho,λname=>?_⟩;have e:=hm name;unfold nsFind findBy at e;rw[<- Array.find?_toList]at e;unfold K4t;rw[hd];dsimp only;split
 ·rename_i y q;rw[q]at e;exact congrArg some e
 ·rename_i q;rw[q]at e;have a:es.toList.any (·.refKey)=false:=by
   rw[List.any_eq_false];intro y hy;obtain⟨z,t,hkey⟩:=hk y (Array.mem_toList_iff.mp hy);simp[DictEntry.refKey,hkey]
  have a':¬ es.toList.any (·.refKey)=true:=by rw[a];exact K0w
  rw[if_neg a'];exact congrArg some e
theorem ObjM.look {h:Heap}{x dx C:Addr}{mA:Str->Option Value}(I:ObjM h x dx C mA):∃od,K9h h x (K21 C dx) C (some od)/\∀name,K4t name od=some (mA name) :=
 let ⟨od,ho,hl⟩:=z4n I.ns
 ⟨od,⟨I.obj,rfl,rfl,ho⟩,hl⟩
section
variable {prog:K04}{w:World}{A:Around}{E:Value->Shared->Prop}{s:Shared}{K:K0}{x dx C f:Addr}{mA:Str->Option Value}{name:Str}{v:Value}
theorem get_map {expr:Bool}{Q:Value->Shared->Prop}(X:K.In s.heap) (I:ObjM s.heap x dx C mA) (hg:K38 K C name=true) (hh:K3s K C=true)
 (ha:K0m K (.ref C) name=some none) (hv:mA name=some v) (hv':K8s v=true) (h:Q v { s with toks:=s.toks+1 }) :
 wpAny (model prog w) A (getAttr (.ref x) name expr) Q E s:=by
 obtain⟨od,J,hl⟩:=I.look;exact PySem.W.get_value X J (K4g hg).1 (PySem.W.findObj_own hh ha rfl (by rw[hl,hv])) hv' h
theorem z5V {pl:Sem Bool}{Q:Value×List Value->Shared->Prop}(X:K.In s.heap) (I:ObjM s.heap x dx C mA) (hg:K38 K C name=true)
 (hf:K0m K (.ref C) name=some (.(r f))) (ht:K4j K (.ref f)=true) (hv:mA name=none) (h:Q (.ref f,[.ref x]) s) :
 wpAny (model prog w) A (K8v (.ref x) name pl) Q E s:=by
 obtain⟨od,J,hl⟩:=I.look;exact PySem.W.method_fn X J (K4g hg).1 (K4g hg).2 hf (beq_iff_eq.mp ht) (by show (K4t name od).map (·.isSome)=some false;rw[hl,hv];rfl) h
theorem z7O {ns:List Str}{Q:Unit->Shared->Prop}(X:K.In s.heap) (I:ObjM s.heap x dx C mA)
 (hs:K0m K (.ref C) "__setattr__" = some (some (.builtin "object.__setattr__"))) (hp:K5b K C=true) (ht:K6o K C name=some none) (hh:K3s K C=true)
 (hw:K8c mA ns) (hsz:ns.length<=sizeLine)
 (h:∀h',ObjM h' x dx C (λy=>if y=name then some v else mA y)->K66 dx s.heap h'->Q () { s with heap:=h',toks:=s.toks+2 }) :
 wpAny (model prog w) A (setAttr (.ref x) name v) Q E s:=by
 obtain⟨od,J,hl⟩:=I.look;refine PySem.W.set_plain X J hs (PySem.W.osa_open (s:={ s with toks:=s.toks+1 }) (r:=none) X J hp ht λb=>?_);obtain⟨cd,hc,hd'⟩:=PySem.W.any_some hh;have hx:s.heap.get? x=some ⟨.ref C,some dx,.plain,#[]⟩:=I.obj;refine K1 (K4 (K1 (K1 (wpAny_loadPart hx (K1 (K9m.here (s:={ s with toks:=s.toks+1 }) (PySem.W.looks_clsIn X hc) ?_))))));rw[hd'];refine K4 (a:=some dx) (K1 (K4 (K1 ?_)));refine wpAny_nsSet1 (s:={ s with toks:=s.toks+1 }) I.ns λh' hn2 hs2=>?_;obtain⟨oD,esD,epD,hoD,hdD,hcD⟩:=hn2.count (K8c.cons name v hw);refine K1 (wpAny_lookBehind hoD (by rw[hdD];exact pastItsLine_dict (K0b hcD (by rw[K02];omega))) ?_);exact K4 (h _ ⟨(hs2.2 _ (K5f I.ne)).trans I.obj,hn2,I.ne⟩ hs2)
theorem z5D {R:Result->Shared->Prop}{vs:List Value}{kw:List (Str×Value)}(X:K.In s.heap) (hm:K3h K C=true)
 (hi:K0m K (.ref C) "__init__" = some (.(r f))) (hf:PySem.W.typeIn K (.ref f)=some (.type "function"))
 (h:K45 (model prog w) (A.under (.builtin "type.__call__" ⟨.ref C::vs,kw⟩)) (.call (.ref f) ⟨.ref (s.heap.objs.size+1)::vs,kw⟩) (PySem.W.InitBack (s.heap.objs.size+1) R)
  { s with heap:=(s.heap.push K1q).push (K21 C s.heap.objs.size) }) :
 K45 (model prog w) A (.call (.ref C) ⟨vs,kw⟩) R s:=by
 obtain⟨hh,g,d,t,os⟩:=s;exact PySem.W.make_core (PySem.W.makes_of X hm) (PySem.W.looks_findIn X hi) (λself=>PySem.W.bind_fn X self hf) (.inl rfl) h
end
def putF (f:Str) (v:V):List (Str×V)->List (Str×V)
 | []=>[(f,v)]
 | (g,x)::r=>if g=f then (g,v)::r else (g,x)::putF f v r
theorem z1u (f g:Str) (v:V):∀fs:List (Str×V),(putF f v fs).lookup g=if g=f then some v else fs.lookup g
 | []=>by
  show K3l g [(f,v)]=_;by_cases h:g=f
  ·have hb:(g==f)=true:=beq_iff_eq.mpr h;simp only[K3l,hb,if_pos h]
  ·have hb:(g==f)=false:=beq_eq_false_iff_ne.mpr h;simp only[K3l,hb,if_neg h]
 | (k,x)::r=>by
  have ih:=z1u f g v r;rw[show putF f v ((k,x)::r)=(if k=f then (k,v)::r else (k,x)::putF f v r) from rfl];by_cases hk:k=f
  ·rw[if_pos hk];by_cases h:g=k
   ·have hb:(g==k)=true:=beq_iff_eq.mpr h;simp only[K3l,hb,if_pos (h.trans hk)]
   ·have hb:(g==k)=false:=beq_eq_false_iff_ne.mpr h;simp only[K3l,hb,if_neg (λe:g=f=>h (e.trans hk.symm))]
  ·rw[if_neg hk];by_cases h:g=k
   ·have hb:(g==k)=true:=beq_iff_eq.mpr h;simp only[K3l,hb,if_neg (λe:g=f=>hk (h.symm.trans e))]
   ·have hb:(g==k)=false:=beq_eq_false_iff_ne.mpr h;simp only[K3l,hb];exact ih
theorem z1h (f:Str) (v:V):∀fs:List (Str×V),f∈(putF f v fs).map (·.1)/\∀g,g∈fs.map (·.1)->g∈(putF f v fs).map (·.1)
 | []=>⟨by simp[putF],λg h=>by simp at h⟩
 | (k,x)::r=>by
  obtain⟨i1,i2⟩:=z1h f v r;rw[show putF f v ((k,x)::r)=(if k=f then (k,v)::r else (k,x)::putF f v r) from rfl];by_cases hk:k=f
  ·rw[if_pos hk];subst hk;exact⟨by simp,λg h=>by simpa using h⟩
  ·rw[if_neg hk];refine⟨?_,λg h=>?_⟩
   ·rw[K0z];exact K0c _ i1
   ·rw[K0z]at h ⊢;rcases K1c.mp h with e|e
    ·exact K1c.mpr (.inl e)
    ·exact K0c _ (i2 g e)
theorem z1f (f:Str) (v:V):∀fs:List (Str×V),(putF f v fs).length<=fs.length+1
 | []=>by simp[putF]
 | (k,x)::r=>by
  have ih:=z1f f v r;rw[show putF f v ((k,x)::r)=(if k=f then (k,v)::r else (k,x)::putF f v r) from rfl];by_cases hk:k=f
  ·rw[if_pos hk,K02,K02];omega
  ·rw[if_neg hk,K02,K02];omega
theorem RelO.some_of {v:V}{o:Option Value}(r:RelO (some v) o):∃u,o=some u/\RelV v u:=by
 cases o with
 | none=>exact(show False from r).elim
 | some u=>exact⟨u,rfl,r⟩
theorem RelO.none_of {o:Option Value}(r:RelO none o):o=none:=by
 cases o with
 | none=>rfl
 | some u=>exact(show False from r).elim
theorem z4N {v:V}{u:Value}(r:RelV v u):K8s u=true:=by
 cases v with
 | non=>cases (show u=K4s from r);rfl
 | bl b=>cases (show u=K2n b from r);rfl
 | int i=>obtain⟨t,e⟩:=(show ∃t,u=K5q i t from r);cases e;rfl
 | str x=>obtain⟨t,e⟩:=(show ∃t,u=K5p x t from r);cases e;rfl
 | byt b=>obtain⟨t,e⟩:=(show ∃t,u=Value.bytes b t from r);cases e;rfl
 | flt b=>obtain⟨t,e⟩:=(show ∃t,u=K91 b t from r);cases e;rfl
 | ref a=>cases (show u=K0e a from r);rfl
 | ty n=>cases (show u=K63 n from r);rfl
section
variable {P:K04}{w:World}{H H':Hp}{h h':Heap}{a C dx:Addr}{fs fs':List (Str×V)}
theorem z11 (hok:HOk P w H h) (e:H a=some (.ins C dx fs)):∃mA,ObjM h a dx C mA/\(∀f,RelO (fs.lookup f) (mA f))/\K8c mA (fs.map (·.1))/\fs.length<=1000/\H dx=some (.own a):=by
 obtain⟨d,z,ne,ob,mA,n,r,q⟩:=(show ObjOk P w H h a (.ins C dx fs) from hok a _ e);exact⟨mA,⟨ob,n,ne⟩,r,q,z,d⟩
end
structure Cls (K:K0) (C:Addr):Prop where
 pg:K38 K C K9o=true
 hd:K3s K C=true
 po:K5b K C=true
 sa:K0m K (.ref C) "__setattr__" = some (some (.builtin "object.__setattr__"))
theorem Cls.get {K:K0}{C:Addr}(c:Cls K C) (f:Str):K38 K C f=true:=c.pg
def NoAttr (K:K0) (C:Addr) (f:Str):Prop:=K0m K (.ref C) f=some none
theorem NoAttr.taker {K:K0}{C:Addr}{f:Str}(n:NoAttr K C f):K6o K C f=some none:=by
 unfold K6o;rw[show K0m K (.ref C) f=some none from n];rfl
structure Con (K:K0) (C:Addr) (f:Str) (v:V) (u:Value):Prop where
 at_:K0m K (.ref C) f=some (some u)
 rel:RelV v u
 get:K5a K u "__get__" = some none
 cp:PySem.W.copiedNames.contains f=false
structure Meth (K:K0) (C:Addr) (m:Str) (f:Addr):Prop where
 at_:K0m K (.ref C) m=some (.(r f))
 fn:K4j K (.ref f)=true
 kp:K19 K (.ref f)=true
section
variable {X:Cx}{pins:List (Addr×Obj)}{σ:St}{H:Hp}{s:Shared}{a C dx:Addr}{fs:List (Str×V)}{f:Str}{v:V}{A:Around}{E:Value->Shared->Prop}
theorem z3Z {b:Bool}{Q:Value->Shared->Prop}(I:Inv X pins σ H s) (e:H a=some (.ins C dx fs)) (c:Cls X.K C) (n:NoAttr X.K C f) (l:fs.lookup f=some v)
 (h:∀u s',Inv X pins σ H s'->RelV v u->Q u s'):wpAny (model X.prog X.w) A (getAttr (.ref a) f b) Q E s:=by
 obtain⟨mA,O,r,_,_,_⟩:=z11 I.hok e;obtain⟨u,hu,ru⟩:=RelO.some_of (v:=v) (o:=mA f) (by rw[<- l];exact r f);exact get_map I.kIn O (c.get f) c.hd n hu (z4N ru) (h u _ (I.tok _) ru)
theorem z3R {m:Str}{g:Addr}{pl:Sem Bool}{Q:Value×List Value->Shared->Prop}(I:Inv X pins σ H s) (e:H a=some (.ins C dx fs)) (c:Cls X.K C) (k:Meth X.K C m g) (l:fs.lookup m=none)
 (h:Q (.ref g,[.ref a]) s):wpAny (model X.prog X.w) A (K8v (.ref a) m pl) Q E s:=by
 obtain⟨mA,O,r,_,_,_⟩:=z11 I.hok e;have hn:mA m=none:=RelO.none_of (by rw[<- l];exact r m);exact z5V I.kIn O (c.get m) k.at_ k.fn hn h
theorem z3W {y:V}{u:Value}{Q:Unit->Shared->Prop}(I:Inv X pins σ H s) (e:H a=some (.ins C dx fs)) (c:Cls X.K C) (n:NoAttr X.K C f) (hl:fs.length<1000) (ry:RelV y u)
 (h:∀s',Inv X pins σ (upd H a (.ins C dx (putF f y fs))) s'->Q () s'):wpAny (model X.prog X.w) A (setAttr (.ref a) f u) Q E s:=by
 obtain⟨mA,O,r,wi,_,ho⟩:=z11 I.hok e;have hz:(fs.map (·.1)).length<=sizeLine:=by rw[K1g,K78];omega
 refine z7O I.kIn O c.sa c.po n.taker c.hd wi hz λh' O' sb=>h _ ?_;have hd:∃o,h'.get? dx=some o:=let ⟨o,_,_,e',_⟩:=O'.ns;⟨o,e'⟩;refine I.write (x:=a) (e:=dx) (by rw[e];exact K34) (.inr ho) (λb q hb z=>(sb.2 b hb).trans z) hd ?_;refine⟨by rw[y6 O.ne];exact ho,?_,O.ne,O'.obj,_,O'.ns,λg=>?_,λg hg=>?_⟩
 ·have:=z1f f y fs;omega
 ·show RelO ((putF f y fs).lookup g) (if g=f then some u else mA g);rw[z1u];by_cases q:g=f
  ·rw[if_pos q,if_pos q];exact ry
  ·rw[if_neg q,if_neg q];exact r g
 ·by_cases q:g=f
  ·rw[q];exact(z1h f y fs).1
  ·refine(z1h f y fs).2 g (wi g λz=>hg ?_);show (if g=f then some u else mA g)=none;rw[if_neg q];exact z
theorem Inv.made (I:Inv X pins σ H s):Inv X pins σ (upd (upd H s.heap.objs.size (.own (s.heap.objs.size+1))) (s.heap.objs.size+1) (.ins C s.heap.objs.size []))
 { s with heap:=(s.heap.push K1q).push (K21 C s.heap.objs.size) }:=by
 have e1:(s.heap.push K1q).get? s.heap.objs.size=some K1q:=K0r s.heap rfl;have e2:((s.heap.push K1q).push (K21 C s.heap.objs.size)).get? (s.heap.objs.size+1)=some (K21 C s.heap.objs.size):=by
  have:=K0r (s.heap.push K1q) (o:=K21 C s.heap.objs.size) rfl;rwa [K9j]at this
 have e3:(s.heap.push K1q).Ns s.heap.objs.size (λ_=>none):=⟨K1q,#[],_,e1,rfl,(λe he=>absurd he (by simp)),λ_=>rfl⟩;have I1:=I.laid (a:=s.heap.objs.size) (o:=.own (s.heap.objs.size+1)) (h':=s.heap.push K1q) (t':=s.toks) (λb u q=>K9 _ q) (K05 _) ⟨_,e1⟩;refine I1.laid (a:=s.heap.objs.size+1) (o:=.ins C s.heap.objs.size []) (t':=s.toks) (λb u q=>K9 _ q) (K39 (K9j _ _)) ?_;have ne:s.heap.objs.size≠s.heap.objs.size+1:=K12 (K8y _);refine⟨by rw[y6 ne,z03],K74 _,ne,e2,λ_=>none,(Heap.Ns1.of_empty e3).at λo q=>K9 _ q,λ_=>K34,λy hy=>absurd rfl hy⟩
theorem z89 {prog:K04}{w:World}{env:Env}{e:Expr}{f:Str}{pos:Pos}{s:Shared}{Q:Value->Shared->Prop}(hb:K2e e f env (eval e env)=eval e env)
 (h:wpAny (model prog w) A (eval e env) (λo s₁=>wpAny (model prog w) A (getAttr o f true) Q E s₁) E s):wpAny (model prog w) A (eval (.Attribute e f pos) env) Q E s :=
 Attribute_any_ h (by rw[arm_eval_Attribute,hb])
end
def tFld (K:K0) (ta:TE) (f:Str):TE:=λσ H Q=>ta σ H λx H1=>∃a C dx fs v,x=.ref a/\H1 a=some (.ins C dx fs)/\Cls K C/\NoAttr K C f/\fs.lookup f=some v/\Q v H1
section
variable {X:Cx}{o e value:Expr}{f:Str}{pos pos' tpos:Pos}{ta tv:TE}
theorem za0 (he:PE X e ta) (hb:K2e e f X.env (eval e X.env)=eval e X.env):PE X (.Attribute e f pos) (tFld X.K ta f):=by
 intro pins s σ H Q I h;refine z89 hb (thn (he pins s σ H _ I h) λu s1 ⟨x,H1,I1,rx,a,C,dx,fs,v,ex,ea,c,n,l,q⟩=>?_);subst ex;obtain rfl:u=K0e a:=rx;exact z3Z I1 ea c n l λu' s2 I2 ru=>⟨v,H1,I2,ru,q⟩
end
section
variable {X:Cx}{pins:List (Addr×Obj)}{σ:St}{H:Hp}{s:Shared}{A:Around}{E:Value->Shared->Prop}{Q:Value->Shared->Prop}{c:Value}{b:Bool}
inductive TyOf (K:K0) (H:Hp):V->Value->Prop where
 | non:TyOf K H .non (.type "NoneType")
 | bl (x:Bool):TyOf K H (.bl x) (.type "bool")
 | int (i:Int):TyOf K H (.int i) (.type "int")
 | str (x:Str):TyOf K H (.str x) (.type "str")
 | flt (x:UInt64):TyOf K H (.flt x) (.type "float")
 | lst {a:Addr} {xs:List V} (e:H a=.(l xs)):TyOf K H (.ref a) (.type "list")
 | frz {a:Addr} {o:Obj} {xs:List V} (e:H a=some (.frz o (.lst xs))):TyOf K H (.ref a) (.type "list")
 | tup {a:Addr} {xs:List V} (e:H a=.(g xs)):TyOf K H (.ref a) (.type "tuple")
 | dK {a:Addr} {kvs:List (Key×V)} (e:H a=some (.dK kvs)):TyOf K H (.ref a) (.type "dict")
 | dT {a:Addr} {kvs:List (List Key×V)} (e:H a=some (.dT kvs)):TyOf K H (.ref a) (.type "dict")
 | ins {a C dx:Addr} {fs:List (Str×V)} (e:H a=some (.ins C dx fs)) (cl:Cls K C) (ha:K0m K (.ref C) "__class__" = some (some (.builtin "object.__class__")))
  (hn:K5a K (.builtin "object.__class__") "__get__" = some (some (.builtin "getset_descriptor.__get__"))) (htk:K96 K (.builtin "object.__class__")=some true)
  (hm:K7n K C (.type "object")=some true):TyOf K H (.ref a) (.ref C)
theorem z1v {x:V}{u t:Value}(I:Inv X pins σ H s) (rx:RelV x u) (ty:TyOf X.K H x t) (e:K2r X.K t c=some b) (h:∀tk,Q (.bool b) { s with toks:=tk }) :
 wpAny (model X.prog X.w) A (call (.builtin "isinstance") [u,c]) Q E s:=by
 cases ty with
 | non=>cases (show u=K4s from rx);exact K10 PySem.W.kitx_none I.kIn K34 e (λz=>nomatch z) h
 | bl y=>cases (show u=K2n y from rx);exact K10 PySem.W.kitx_bool I.kIn K34 e (λz=>nomatch z) h
 | int i=>obtain⟨t,q⟩:=(show ∃t,u=K5q i t from rx);cases q;exact K10 PySem.W.kitx_int I.kIn K34 e (λz=>nomatch z) h
 | str y=>obtain⟨t,q⟩:=(show ∃t,u=K5p y t from rx);cases q;exact K10 PySem.W.kitx_str I.kIn K34 e (λz=>nomatch z) h
 | flt y=>obtain⟨t,q⟩:=(show ∃t,u=K91 y t from rx);cases q;exact K10 PySem.W.kitx_float I.kIn K34 e (λz=>nomatch z) h
 | @lst a xs ea =>
  cases (show u=K0e a from rx);obtain⟨_,_,n,_,h1⟩:=(show ObjOk X.prog X.w H s.heap a (.lst xs) from I.hok a _ ea);exact K10 K5d I.kIn ⟨_,h1,rfl⟩ e (λz=>nomatch z) h
 | @frz a ob xs ea =>
  cases (show u=K0e a from rx);obtain⟨_,_,_,n,_,h1⟩:=(show ObjOk X.prog X.w H s.heap a (.frz ob (.lst xs)) from I.hok a _ ea);exact K10 K5d I.kIn ⟨_,h1,rfl⟩ e (λz=>nomatch z) h
 | @tup a xs ea =>
  cases (show u=K0e a from rx);obtain⟨_,_,_,p⟩:=(show ObjOk X.prog X.w H s.heap a (.tup xs) from I.hok a _ ea);obtain⟨o,h1,h2,_⟩:=p;exact K10 K7w I.kIn ⟨o,h1,h2.1⟩ e (λz=>nomatch z) h
 | @dK a kvs ea =>
  cases (show u=K0e a from rx);obtain⟨_,_,vs,_,p⟩:=(show ObjOk X.prog X.w H s.heap a (.dK kvs) from I.hok a _ ea);obtain⟨o,es,ep,h1,h2,_⟩:=p;exact K10 K5e I.kIn ⟨o,h1,h2.1⟩ e (λz=>nomatch z) h
 | @dT a kvs ea =>
  cases (show u=K0e a from rx);obtain⟨_,_,xs,_,o,es,ep,h1,h2,_⟩:=(show ObjOk X.prog X.w H s.heap a (.dT kvs) from I.hok a _ ea);exact K10 K5e I.kIn ⟨o,h1,h2.1⟩ e (λz=>nomatch z) h
 | @ins a C dx fs ea cl ha hn htk hm =>
  cases (show u=K0e a from rx);obtain⟨mA,O,_⟩:=z11 I.hok ea;obtain⟨od,J,_⟩:=O.look;exact K10 (PySem.W.kitx_own (cl.get _) cl.hd ha hn htk hm) I.kIn J e (λz=>nomatch z) h
end
structure Room (k:Nat) (A:Around):Prop where
 hd:A.handled=none
 dp:A.depth+3 * k+5<recursionLimit
 un:A.units+16 * k+200<cLine
 gd:A.guards=some []
theorem Room.mono {j k:Nat}{A:Around}(r:Room k A) (h:j<=k):Room j A:=⟨r.hd,by have:=r.dp;omega,by have:=r.un;omega,r.gd⟩
theorem Room.deeper {k:Nat}{A:Around}(r:Room (k+1) A) (env:Env):Room k (A.deeper env) :=
 ⟨r.hd,by have:=r.dp;show A.depth+1+3 * k+5<_;omega,by have:=r.un;show A.units+3+16 * k+200<_;omega,r.gd⟩
theorem Room.in1 {k:Nat}{A:Around}(r:Room (k+1) A):Room k A.in1 :=
 ⟨r.hd,by have:=r.dp;show A.depth+3 * k+5<_;omega,by have:=r.un;show A.units+1+16 * k+200<_;omega,r.gd⟩
theorem z3X {A:Around}{C:Addr}{us:List Value}{kw:List (Str×Value)}:(A.under (.builtin "type.__call__" ⟨.ref C::us,kw⟩)).depth=A.depth+1:=by
 first|rfl|simp[K64,Code.weight,Code.isCreation,Code.isGuard,Code.isCaller,Code.frames,K8e,guardIds]
theorem z3O {A:Around}{C:Addr}{us:List Value}{kw:List (Str×Value)}:(A.under (.builtin "type.__call__" ⟨.ref C::us,kw⟩)).units=A.units+1:=by
 first|rfl|simp[K64,Code.cUnits,Code.frames,K8e]
theorem z35 {A:Around}{C:Addr}{us:List Value}{kw:List (Str×Value)}:(A.under (.builtin "type.__call__" ⟨.ref C::us,kw⟩)).guards=A.guards:=by
 first|rfl|simp[K64,Code.guards,Code.isGuard,guardIds,pushGuards]
theorem Room.make {k:Nat}{A:Around}(r:Room (k+1) A) (C:Addr) (us:List Value) (kw:List (Str×Value)):Room k (A.under (.builtin "type.__call__" ⟨.ref C::us,kw⟩)) :=
 ⟨r.hd,by have:=r.dp;rw[z3X];omega,by have:=r.un;rw[z3O];omega,by rw[z35];exact r.gd⟩
theorem Room.depth {k:Nat}{A:Around}(r:Room k A):A.depth<recursionLimit:=by have:=r.dp;omega
theorem Room.units {k:Nat}{A:Around}(r:Room k A):A.units+64<cLine:=by have:=r.un;omega
def tNil:TA:=λ_ H Q=>Q [] H
def z3N (ta:TE) (tr:TA):TA:=λσ H Q=>ta σ H λx H1=>tr σ H1 λxs H2=>Q (x::xs) H2
section
variable {X:Cx}{e:Expr}{es:List Expr}{te:TE}{t:TA}{pos:Pos}
theorem z19:PA X [] tNil:=λ_ _ _ _ H Q I h=>Calls.spliced_nil ⟨[],H,I,.nil,h⟩
theorem z08 (ha:PE X e te) (hr:PA X es t) (hs:K7 (e::es) X.env=(false,eval e X.env)::K7 es X.env:=by rfl):PA X (e::es) (z3N te t):=by
 intro pos pins s σ H Q I h;rw[hs];show wpAny _ _ (spliced ((false,eval e X.env)::backTo pos (K7 es X.env))) _ _ s;refine Calls.spliced_cons (thn (ha pins s σ H _ I h) λu s1 ⟨x,H1,I1,r1,q1⟩=>?_);exact thn (hr pos pins s1 σ H1 _ I1 q1) λus s2 ⟨xs,H2,I2,r2,q2⟩=>⟨x::xs,H2,I2,.cons r1 r2,q2⟩
def tTup (t:TA):TE:=λσ H Q=>t σ H λxs H1=>xs.length<=sizeLine/\∀p,H1 p=none->Q (.ref p) (upd H1 p (.tup xs))
def tLst (t:TA):TE:=λσ H Q=>t σ H λxs H1=>xs.length<=sizeLine/\∀p,H1 p=none->Q (.ref p) (upd H1 p (.lst xs))
theorem z9S {x1}(h:PA X es t):PE X (.Tuple es x1 pos) (tTup t):=by
 intro pins s σ H Q I hq;refine wpAny_Tuple_spliced (thn (h pos pins s σ H _ I hq) λus s1 ⟨xs,H1,I1,r,z,q⟩=>⟨by rw[<- r.length];exact z,?_⟩);have hf:H1 s1.heap.objs.size=none:=I1.hok.fresh (K05 _);refine⟨.ref s1.heap.objs.size,upd H1 s1.heap.objs.size (.tup xs),I1.laid (t':=s1.toks) (λb u e=>K9 _ e) (K05 _) ?_,rfl,q _ hf⟩;exact⟨z,us,r,⟨_,K0r _ rfl,⟨rfl,rfl⟩,_,rfl⟩⟩
theorem z8J (h:PA X es t):PE X (.List es pos) (tLst t):=by
 intro pins s σ H Q I hq;refine wpAny_List_spliced (thn (h pos pins s σ H _ I hq) λus s1 ⟨xs,H1,I1,r,z,q⟩=>⟨by rw[<- r.length];exact z,?_⟩);have hf:H1 s1.heap.objs.size=none:=I1.hok.fresh (K05 _);refine⟨.ref s1.heap.objs.size,upd H1 s1.heap.objs.size (.lst xs),I1.laid (t':=s1.toks) (λb u e=>K9 _ e) (K05 _) ?_,rfl,q _ hf⟩;exact⟨z,us,0,r,K0r _ rfl⟩
end
abbrev Sp:=List V->Hp->VK->XK->Prop
abbrev CXT:=List Env->Hp->Shared->XK->Value->Shared->Prop
structure Env0 (P:K04) (w:World) (K:K0) (mg:Str->Option Value) (base:Heap) (A:Around) (outer:List Env) (s:Shared) (H:Hp):Prop where
 frames:A.frames=some outer
 mod:Mod K mg base
 bs:∀b o,base.get? b=some o->s.heap.get? b=some o/\H b=none
 bsz:base.objs.size<=s.heap.objs.size
 funs:s.heap.FunFrames base outer
 frf:∀b∈frs outer,H b=none
 hok:HOk P w H s.heap
 bare:K4p s.gens
def CE (outer:List Env) (P:K04) (w:World) (H:Hp) (s:Shared) (Q:VK) (u:Value) (s':Shared):Prop :=
 ∃v H',s'.os=s.os/\K4p s'.gens/\Un (frs outer) [] H H' s.heap s'.heap/\HOk P w H' s'.heap/\RelV v u/\Q v H'
def CR (CX:CXT) (outer:List Env) (P:K04) (w:World) (H:Hp) (s:Shared) (Q:VK) (E:XK) (r:Result) (s':Shared):Prop :=
 match r with
 | .ok (.ret u)=>CE outer P w H s Q u s'
 | .ok _=>False
 | .error e=>CX outer H s E e s'
structure FnOk (P:K04) (w:World) (K:K0) (mg:Str->Option Value) (base:Heap) (CX:CXT) (k:Nat) (f:Addr) (fd:K1i) (ps:List Str) (sp:Sp):Prop where
 len:∀vs H Q E,sp vs H Q E->vs.length=ps.length
 run:∀(A:Around) (outer:List Env) (s:Shared) (H:Hp) (args:Args) (us:List Value) (vs:List V) (Q:VK) (E:XK),Room k A->Env0 P w K mg base A outer s H->K7j s fd args (ps.zip us)->Vals vs us->sp vs H Q E ->
  K45 (model P w) A (.call (.ref f) args) (CR CX outer P w H s Q E) s
theorem FnOk.mono {P:K04}{w:World}{K:K0}{mg:Str->Option Value}{base:Heap}{CX:CXT}{j k:Nat}{f:Addr}{fd:K1i}{ps:List Str}{sp:Sp}(F:FnOk P w K mg base CX j f fd ps sp) (h:j<=k) :
 FnOk P w K mg base CX k f fd ps sp:=⟨F.len,λA outer s H args us vs Q E hr=>F.run A outer s H args us vs Q E (hr.mono h)⟩
theorem FnOk.imp {P:K04}{w:World}{K:K0}{mg:Str->Option Value}{base:Heap}{CX:CXT}{k:Nat}{f:Addr}{fd:K1i}{ps:List Str}{sp sp':Sp}(F:FnOk P w K mg base CX k f fd ps sp)
 (h:∀vs H Q E,sp' vs H Q E->sp vs H Q E):FnOk P w K mg base CX k f fd ps sp' :=
 ⟨λvs H Q E q=>F.len vs H Q E (h _ _ _ _ q),λA outer s H args us vs Q E hr he hb hv hs=>F.run A outer s H args us vs Q E hr he hb hv (h _ _ _ _ hs)⟩
theorem Env0.make {P:K04}{w:World}{K:K0}{mg:Str->Option Value}{base:Heap}{A:Around}{outer:List Env}{s:Shared}{H:Hp}(e:Env0 P w K mg base A outer s H) (C:Addr) (us:List Value) (kw:List (Str×Value)) :
 Env0 P w K mg base (A.under (.builtin "type.__call__" ⟨.ref C::us,kw⟩)) outer s H:=⟨by first|exact e.frames|(simpa [K64,Code.envs,K8e,pushEnvs] using e.frames),e.mod,e.bs,e.bsz,e.funs,e.frf,e.hok,e.bare⟩
theorem Env0.in1 {P:K04}{w:World}{K:K0}{mg:Str->Option Value}{base:Heap}{A:Around}{outer:List Env}{s:Shared}{H:Hp}(e:Env0 P w K mg base A outer s H) :
 Env0 P w K mg base A.in1 outer s H:=⟨e.frames,e.mod,e.bs,e.bsz,e.funs,e.frf,e.hok,e.bare⟩
section
variable {X:Cx}{pins:List (Addr×Obj)}{σ:St}{H:Hp}{s s':Shared}
theorem Inv.env0 (I:Inv X pins σ H s):Env0 X.prog X.w X.K X.mg X.base X.A X.stack s H :=
 ⟨I.ok.frames,I.ok.mod,I.bs,K0b I.ok.bsz I.sz,I.stack,I.stkFree,I.hok,I.bare⟩
theorem Inv.after {Q:VK}{u:Value}(I:Inv X pins σ H s) (h:CE X.stack X.prog X.w H s Q u s'):EP X pins σ Q u s':=by
 obtain⟨v,H',os,bare,un,hok,r,q⟩:=h;obtain⟨hh,g,d,t,os'⟩:=s';obtain rfl:os'=s.os:=os;exact⟨v,H',I.call (h':=hh) (g':=g) (d':=d) (t':=t) (ch:=[]) un hok bare (λb z=>absurd z (by simp)),r,q⟩
end
def zj6 (sp:Sp) (dvs:List V) (E:XK) (t:TA):TE:=λσ H Q=>t σ H λvs H1=>sp (vs++dvs) H1 Q E
def zm0 (C:Addr) (m:Str) (sp:Sp) (dvs:List V) (E:XK) (ta:TE) (t:TA):TE:=λσ H Q=>ta σ H λx H1=>∃a dx fs,x=.ref a/\H1 a=some (.ins C dx fs)/\fs.lookup m=none /\
 t σ H1 λvs H2=>sp (x::(vs++dvs)) H2 Q E
def zi6 (C:Addr) (sp:Sp) (dvs:List V) (E:XK) (t:TA):TE:=λσ H Q=>t σ H λvs H1=>∀x dx,H1 x=none->H1 dx=none->dx≠x ->
 sp (.ref x::(vs++dvs)) (upd (upd H1 dx (.own x)) x (.ins C dx [])) (λv H2=>v=.non/\Q (.ref x) H2) E
def Binds (K:K0) (fd:K1i) (ps:List Str) (ds:List Value):Prop :=
 ∀(s:Shared) (us:List Value),K.In s.heap->(us++ds).length=ps.length->K7j s fd ⟨us,[]⟩ (ps.zip (us++ds))
theorem Binds.all {K:K0}{fd:K1i}{ps:List Str}(h:∀us:List Value,us.length=ps.length->K8j fd ⟨us,[]⟩=pure (ps.zip us)):Binds K fd ps []:=λs us _ hl=>by
 rw[K1u]at hl ⊢;exact .of_eq (h us hl)
def z1R (CX:CXT) (X:Cx) (E:XK):Prop:=∀(pins:List (Addr×Obj)) (σ:St) (H:Hp) (s:Shared) (e:Value) (s':Shared),Inv X pins σ H s->CX X.stack H s E e s'->X.xe e s'
section
variable {X:Cx}{CX:CXT}{k:Nat}{f C:Addr}{fd:K1i}{ps:List Str}{sp:Sp}{dvs:List V}{ds:List Value}{E:XK}{x m:Str}{p pos apos:Pos}{e o:Expr}{es:List Expr}{ta:TE}{t:TA}
theorem z6J {pins:List (Addr×Obj)}{σ:St}{H:Hp}{s:Shared}{Q:VK}{us:List Value}{vs:List V}(F:FnOk X.prog X.w X.K X.mg X.base CX k f fd ps sp) (hr:Room k X.A) (hb:Binds X.K fd ps ds) (hd:Vals dvs ds) (hx:z1R CX X E)
 (I:Inv X pins σ H s) (r:Vals vs us) (h:sp (vs++dvs) H Q E):wpAny (model X.prog X.w) X.A (call (.ref f) us) (EP X pins σ Q) X.xe s:=by
 have r2:Vals (vs++dvs) (us++ds):=r.append hd;have hl:(us++ds).length=ps.length:=by rw[<- r2.length];exact F.len _ _ _ _ h
 refine K7y (K3x (F.run X.A X.stack s H ⟨us,[]⟩ (us++ds) (vs++dvs) Q E hr I.env0 (hb s us I.kIn hl) r2 h) λr s' hq=>?_);cases r with
 | error e=>exact hx pins σ H s e s' I hq
 | ok fl =>
  cases fl with
  | ret u=>exact I.after hq
  | next=>exact K15 hq
  | brk=>exact K15 hq
  | cont=>exact K15 hq
theorem z7R (F:FnOk X.prog X.w X.K X.mg X.base CX k f fd ps sp) (hr:Room k X.A) (hg:Gl X x) (hm:X.mg x=.(r f)) (hk:K19 X.K (.ref f)=true) (hb:Binds X.K fd ps ds) (hd:Vals dvs ds) (hx:z1R CX X E)
 (ha:PA X (e::es) t) (hdb:(x==("__debug__":Str))=false:=by decide) (he:K7 (e::es) X.env=(false,eval e X.env)::K7 es X.env:=by rfl) (hpl:(backTo pos (K7 es X.env)).any (·.1)=false:=by rfl) :
 PE X (.Call (.Name x p) (e::es) [] pos) (zj6 sp dvs E t):=by
 intro pins s σ H Q I h;refine K3k (z2e I hg hm ?_ hdb);refine K7x (h₀:=X.base) I.ok.mod.kin hk (thn (ha pos pins s σ H _ I h) λus s1 ⟨vs,H1,I1,r,q⟩=>⟨I1.kIn,?_⟩) he hpl;exact z6J F hr hb hd hx I1 r q
theorem z5Y {pl:Sem Bool}(he:PE X o ta) (c:Cls X.K C) (hm:Meth X.K C m f) (F:FnOk X.prog X.w X.K X.mg X.base CX k f fd ps sp) (hr:Room k X.A) (hb:Binds X.K fd ps ds) (hd:Vals dvs ds) (hx:z1R CX X E)
 (ht:eval (.Call (.Attribute o m apos) [] [] pos) X.env=(do
  let ov <- eval o X.env
  K5g apos.atName
  let (f,first) <- K4o [ov] (K8v ov m pl)
  callWith pos f first (backTo pos (K7 [] X.env)) (K47 pos (K2u [] X.env))):=by rfl) :
 PE X (.Call (.Attribute o m apos) [] [] pos) (zm0 C m sp dvs E ta tNil):=by
 intro pins s σ H Q I h;refine PySem.W.methodCall_KW (pl:=pl) (thn (he pins s σ H _ I h) λu s1 ⟨x,H1,I1,rx,a,dx,fs,ex,ea,l,q⟩=>?_) ht;subst ex;obtain rfl:u=K0e a:=rx;refine z3R I1 ea c hm l ?_;exact PySem.W.callWith_K0 (first:=[.ref a]) I1.kIn hm.kp (z6J (us:=[.ref a]) (vs:=[.ref a]) F hr hb hd hx I1 (.cons rfl .nil) q)
structure Mk (K:K0) (C f:Addr):Prop where
 makes:K3h K C=true
 init:K0m K (.ref C) "__init__" = some (.(r f))
 fn:K4j K (.ref f)=true
 kp:K19 K (.ref C)=true
theorem z60 {pins:List (Addr×Obj)}{σ:St}{H:Hp}{s:Shared}{Q:VK}{us:List Value}{vs:List V}(M:Mk X.K C f) (F:FnOk X.prog X.w X.K X.mg X.base CX k f fd ps sp) (hr:Room (k+1) X.A) (hb:Binds X.K fd ps ds) (hd:Vals dvs ds)
 (hx:z1R CX X E) (I:Inv X pins σ H s) (r:Vals vs us)
 (h:∀x dx,H x=none->H dx=none->dx≠x->sp (.ref x::(vs++dvs)) (upd (upd H dx (.own x)) x (.ins C dx [])) (λv H2=>v=.non/\Q (.ref x) H2) E) :
 wpAny (model X.prog X.w) X.A (call (.ref C) us) (EP X pins σ Q) X.xe s:=by
 have hq:=h (s.heap.objs.size+1) s.heap.objs.size (I.hok.fresh (K75 _)) (I.hok.fresh (K05 _)) (K12 (K8y _));have I2:=Inv.made (C:=C) I;have r2:Vals (V.ref (s.heap.objs.size+1)::(vs++dvs)) (K0e (s.heap.objs.size+1)::(us++ds)):=.cons rfl (r.append hd);have hl:(K0e (s.heap.objs.size+1)::us++ds).length=ps.length:=by
  have e:=r2.length;rw[F.len _ _ _ _ hq]at e;exact e.symm
 refine K7y (z5D (f:=f) I.kIn M.makes M.init (beq_iff_eq.mp M.fn) (K3x (F.run _ X.stack _ _ ⟨K0e (s.heap.objs.size+1)::us,[]⟩ (K0e (s.heap.objs.size+1)::(us++ds)) _ _ E (hr.make C us [])
  (I2.env0.make C us []) (hb _ (K0e (s.heap.objs.size+1)::us) I2.kIn hl) r2 hq) λr s' hq'=>?_))
 cases r with
 | error e=>exact hx pins σ _ _ e s' I2 hq'
 | ok fl =>
  cases fl with
  | ret u =>
   obtain⟨v,H',I3,rv,ev,q3⟩:=I2.after hq';subst ev;exact⟨rv,⟨V.ref (s.heap.objs.size+1),H',I3,rfl,q3⟩⟩
  | next=>exact K15 hq'
  | brk=>exact K15 hq'
  | cont=>exact K15 hq'
theorem z7M (M:Mk X.K C f) (F:FnOk X.prog X.w X.K X.mg X.base CX k f fd ps sp) (hr:Room (k+1) X.A) (hg:Gl X x) (hm:X.mg x=.(r C)) (hb:Binds X.K fd ps ds) (hd:Vals dvs ds) (hx:z1R CX X E)
 (ha:PA X (e::es) t) (hdb:(x==("__debug__":Str))=false:=by decide) (he:K7 (e::es) X.env=(false,eval e X.env)::K7 es X.env:=by rfl) (hpl:(backTo pos (K7 es X.env)).any (·.1)=false:=by rfl) :
 PE X (.Call (.Name x p) (e::es) [] pos) (zi6 C sp dvs E t):=by
 intro pins s σ H Q I h;refine K3k (z2e I hg hm ?_ hdb);refine K7x (h₀:=X.base) I.ok.mod.kin M.kp (thn (ha pos pins s σ H _ I h) λus s1 ⟨vs,H1,I1,r,q⟩=>⟨I1.kIn,?_⟩) he hpl;exact z60 M F hr hb hd hx I1 r q
end
def PK (X:Cx) (kws:List K2q) (t:TA):Prop :=
 ∀(pos:Pos) (pins:List (Addr×Obj)) (s:Shared) (σ:St) (H:Hp) (Q:List V->Hp->Prop),Inv X pins σ H s->t σ H Q->wpAny (model X.prog X.w) X.A (evalAll ((K47 pos (K2u kws X.env)).map (·.2))) (AP X pins σ Q) X.xe s
section
variable {X:Cx}{CX:CXT}{k:Nat}{f C:Addr}{fd:K1i}{ps ks:List Str}{sp:Sp}{E:XK}{x m:Str}{p pos apos kpos:Pos}{e o:Expr}{es:List Expr}{kws:List K2q}{te ta:TE}{t tk:TA}{nm:Option Str}
structure KBinds (K:K0) (fd:K1i) (ps ks:List Str) (g:List Value->List Value->List Value) (gV:List V->List V->List V):Prop where
 to:∀(s:Shared) (us ws:List Value),K.In s.heap->(g us ws).length=ps.length->K7j s fd ⟨us,ks.zip ws⟩ (ps.zip (g us ws))
 rel:∀{vs:List V} {us:List Value} {zs:List V} {ws:List Value},Vals vs us->Vals zs ws->Vals (gV vs zs) (g us ws)
variable {g:List Value->List Value->List Value}{gV:List V->List V->List V}
end
structure FnScope (N P:List Str) (sc:Scope):Prop where
 kind:sc.kind=.function
 co:sc.isCoroutine=false
 gen:sc.isGenerator=false
 nd:N.Nodup
 pre:N.take P.length=P
 par:∀x∈P,sc.names.lookup x=some .local\/sc.names.lookup x=some .cell
 nofree:∀y∈sc.names,y.2≠.free
theorem z2C {kindOf:Str->Option K3r}{x:Str}:∀{binds:List (Str×Value)}{m:Str->Option Value},(∀v,(x,v)∉binds)->bindL kindOf binds m x=m x
 | [],_,_=>rfl
 | (n,v)::r,m,h=>by
  unfold bindL;rw[z2C λw hw=>h w (K0c _ hw)];split
  ·have:x≠n:=by rintro rfl;exact h v K0v
   simp[this]
  ·rfl
theorem z2u {kindOf:Str->Option K3r}{x:Str}:∀{binds:List (Str×Value)}{m:Str->Option Value},(∀v,(x,v)∉binds)->bindC kindOf binds m x=m x
 | [],_,_=>rfl
 | (n,v)::r,m,h=>by
  unfold bindC;rw[z2u λw hw=>h w (K0c _ hw)];split
  ·rfl
  ·have:x≠n:=by rintro rfl;exact h v K0v
   simp[this]
theorem z2v {kindOf:Str->Option K3r}{x:Str}{v:Value}:∀{P:List Str}{vs:List Value}{i:Nat}{m:Str->Option Value},P.Nodup->P[i]?=some x->vs[i]?=some v->kindOf x=some .local ->
 bindL kindOf (P.zip vs) m x=some v
 | [],_,_,_,_,h,_,_=>by simp at h
 | _::_,[],_,_,_,_,h,_=>by simp at h
 | p::P,w::vs,0,m,nd,h1,h2,hk=>by
  simp at h1 h2;subst h1;subst h2;show bindL kindOf ((p,w)::P.zip vs) m p=_;unfold bindL;rw[z2C λv hv=>(K4b.mp nd).1 (K6p hv).1,if_pos hk];simp
 | p::P,w::vs,i+1,m,nd,h1,h2,hk=>by
  show bindL kindOf ((p,w)::P.zip vs) m x=_;unfold bindL;exact z2v (i:=i) (K4b.mp nd).2 (by simpa using h1) (by simpa using h2) hk
theorem z2P {kindOf:Str->Option K3r}{x:Str}{v:Value}:∀{P:List Str}{vs:List Value}{i:Nat}{m:Str->Option Value},P.Nodup->P[i]?=some x->vs[i]?=some v->kindOf x≠some .local ->
 bindC kindOf (P.zip vs) m x=some v
 | [],_,_,_,_,h,_,_=>by simp at h
 | _::_,[],_,_,_,_,h,_=>by simp at h
 | p::P,w::vs,0,m,nd,h1,h2,hk=>by
  simp at h1 h2;subst h1;subst h2;show bindC kindOf ((p,w)::P.zip vs) m p=_;unfold bindC;rw[z2u λv hv=>(K4b.mp nd).1 (K6p hv).1,if_neg hk];simp
 | p::P,w::vs,i+1,m,nd,h1,h2,hk=>by
  show bindC kindOf ((p,w)::P.zip vs) m x=_;unfold bindC;exact z2P (i:=i) (K4b.mp nd).2 (by simpa using h1) (by simpa using h2) hk
def start (N:List Str) (vs:List V):St:=vs.map some++K07 (N.length - vs.length) none
def cxOf (CX:CXT) (P:K04) (w:World) (K:K0) (mg:Str->Option Value) (base:Heap) (N:List Str) (qual:Str) (scope:Scope) (f:Addr) (cd:Value) (A:Around) (outer:List Env) (s:Shared) (H:Hp) (E:XK):Cx where
 prog:=P
 w:=w
 K:=K
 mg:=mg
 base:=base
 A:=A.deeper (envOfC qual scope s.heap.objs.size f cd)
 N:=N
 s₀:=s
 H₀:=H
 env:=envOfC qual scope s.heap.objs.size f cd
 outer:=outer
 stack:=envOfC qual scope s.heap.objs.size f cd::outer
 ex:=[]
 calm:=true
 fn:=λ_=>true
 pn:=[]
 xe:=λe s'=>wpAny (model P w) (A.deeper (envOfC qual scope s.heap.objs.size f cd)) (leaving (envOfC qual scope s.heap.objs.size f cd) e) (λ_ s''=>CX outer H s E e s'') (λe' s''=>CX outer H s E e' s'') s'
theorem z3v {sc:Scope}{n:Nat}{x:Str}(h:sc.names.lookup x=some .cell):∃c,(cellsFrom n sc.names []).lookup x=some c:=by
 have q:=K6f sc.names n [] (.inl h);exact Option.isSome_iff_exists.mp q
theorem z50 {CX:CXT}{P:K04}{w:World}{K:K0}{mg:Str->Option Value}{base:Heap}{N ps:List Str}{qual:Str}{scope:Scope}{f:Addr}{cd:Value}{A:Around}{outer:List Env}{s s1:Shared}{H:Hp}{E:XK}{us:List Value}{vs:List V}
 (S:FnScope N ps scope) (hd:A.handled=none) (e0:Env0 P w K mg base A outer s H) (hl:vs.length=ps.length) (r:Vals vs us)
 (x:InCallC s s.heap.objs.size (bindL (envOfC qual scope s.heap.objs.size f cd).kindOf (ps.zip us) λ_=>none) (cellsFrom (s.heap.objs.size+1) scope.names []) (bindC (envOfC qual scope s.heap.objs.size f cd).kindOf (ps.zip us) λ_=>none) s1) :
 Inv (cxOf CX P w K mg base N qual scope f cd A outer s H E) [] (start N vs) H s1:=by
 have hpl:ps.length<=N.length:=by have:=congrArg K92 S.pre;rw[K0a]at this;omega
 obtain⟨h1,tk,rfl,hk⟩:=x.done;have noA:∀b:Addr,b∉(cxOf CX P w K mg base N qual scope f cd A outer s H E).ex:=λb z=>absurd (show b∈([]:List Addr) from z) (by simp);refine⟨⟨e0.mod,S.kind,rfl,rfl,K05 _,λy z c h1 h2=>?_,λy hy=>?_,λy c _ h=>?_,λ_=>hd,Around.frames_deeper e0.frames,.inr ⟨rfl,rfl⟩,λb z=>absurd z (noA b),e0.bs,e0.bsz,λb _ _=>noA b,λb z=>absurd z (noA b),e0.funs,e0.frf⟩,
  rfl,e0.bare,Un.kept hk,⟨_,x.toInCall.ns,λi y v h1 h2 h3=>?_⟩,λy c h=>⟨_,x.cell y c h⟩,e0.hok.fresh (K05 _),λy c h=>?_,λp hp=>absurd (show p∈([]:List (Addr×Obj)) from hp) (by simp),e0.hok.kept hk,?_⟩
 ·exact name_of_addr x.apart (K1o h1) (K1o h2)
 ·have hy:scope.names.lookup y=some .cell\/scope.names.lookup y=some .free:=hy;rcases hy with hy|hy
  ·exact z3v hy
  ·exact absurd rfl (S.nofree _ (K1o hy))
 ·exact K4m (x.above y c (K1o h))
 ·have hi:i<vs.length:=by
   unfold start at h2;by_cases hi:i<vs.length
   ·exact hi
   ·rw[K1l (by simpa using hi)]at h2;rw[K62]at h2;split at h2<;>cases h2
  have ha:vs[i]?=some v:=by
   unfold start at h2;rw[K03 (by simpa using hi),K0h]at h2;cases e:vs[i]? with
   | none=>rw[e]at h2;cases h2
   | some a=>rw[e]at h2;cases h2;rfl
  obtain⟨u,hu,rv⟩:=r.get ha;have hp:ps[i]?=some y:=by
   rw[<- S.pre,List.getElem?_take_of_lt (by omega)];exact h1
  have ndP:ps.Nodup:=by rw[<- S.pre];exact S.nd.sublist (List.take_sublist _ _)
  refine⟨u,rv,?_⟩;rcases S.par y (K1d hp) with k|k
  ·exact .inl ⟨k,z2v ndP hp hu k⟩
  ·obtain⟨c,e⟩:=z3v (n:=s.heap.objs.size+1) k;refine .inr ⟨.inl k,c,e,?_⟩;have q:=x.cell y c e;rw[z2P ndP hp hu (by show scope.names.lookup y≠_;rw[k];decide)]at q;exact q
 ·exact e0.hok.fresh (K4m (x.above y c (K1o h)))
 ·unfold start;show _=N.length;rw[K01,K1g,List.length_replicate];omega
theorem z5H {CX:CXT}{P:K04}{w:World}{K:K0}{mg:Str->Option Value}{base:Heap}{k:Nat}{f:Addr}{name qual:Str}{params:Arguments}{body:List Stmt}{scope:Scope}{dV kV doc pm cdv ct oc:Value}{an od:Option Addr}
 {osl:Array (Option Value)} {N ps:List Str} {sp:Sp} (lk:K.lookup f=some ⟨oc,od,.func (K1x name qual params body scope dV kV doc pm an cdv ct),osl⟩) (hcd:K1y K cdv qual=true) (S:FnScope N ps scope)
 (len:∀vs H Q E,sp vs H Q E->vs.length=ps.length)
 (hbody:∀(A:Around) (outer:List Env) (s:Shared) (H:Hp) (vs:List V) (Q:VK) (E:XK),Room k (A.deeper (envOfC qual scope s.heap.objs.size f cdv))->sp vs H Q E ->
  ∃t,PSs (cxOf CX P w K mg base N qual scope f cdv A outer s H E) body t/\t { nx:=λ_ H'=>Q .non H',rt:=Q } (start N vs) H) :
 FnOk P w K mg base CX (k+1) f (K1x name qual params body scope dV kV doc pm an cdv ct) ps sp:=by
 refine⟨len,λA outer s H args us vs Q E hr e0 hb r hsp=>?_⟩;have hl:=len _ _ _ _ hsp;have KX:K.In s.heap:=e0.mod.kin.keeps λb o e=>(e0.bs b o e).1;have lim:s.heap.NoLimit:=e0.mod.nolimit.keeps λb o e=>(e0.bs b o e).1;have hkind:∀y∈ps.zip us,scope.names.lookup y.1=some .local\/(scope.names.lookup y.1=some .cell/\((cellsFrom (s.heap.objs.size+1) scope.names []).lookup y.1).isSome=true):=λ⟨n,v⟩ hy=>by
  rcases S.par n (K6p hy).1 with q|q
  ·exact .inl q
  ·exact .inr ⟨q,K6f _ _ _ (.inl q)⟩
 refine codeAny_call_function hr.depth (KX _ _ lk) rfl S.co S.gen rfl (PySem.W.codeRec_of KX hcd) (hb _ _ _ _ ?_);refine wpAny_newFunctionEnv_cells S.kind hkind λenv he s1 x=>?_;subst he;refine⟨lim.keeps x.toInCall.keep,codeAny_func ?_⟩;obtain⟨t,ht,hq⟩:=hbody A outer s H vs Q E (hr.deeper _) hsp;have I:Inv (cxOf CX P w K mg base N qual scope f cdv A outer s H E) [] (start N vs) H s1:=z50 S hr.hd e0 hl r x;refine K0j (ht [] s1 (start N vs) H _ I hq) (λfl s' hs=>?_) λe s' hs=>hs;have fin:∀{σ':St} {H':Hp} {v:V} {u:Value},Inv (cxOf CX P w K mg base N qual scope f cdv A outer s H E) [] σ' H' s'->RelV v u->Q v H'->CE outer P w H s Q u s' :=
  λ{σ' H' v u} J rv q=>⟨v,H',J.os,J.bare,J.base,J.hok,rv,q⟩
 cases fl with
 | ret u =>
  obtain⟨v,σ',H',J,rv,q⟩:=hs;exact fin J rv q
 | next =>
  obtain⟨σ',H',J,q⟩:=hs;exact fin (v:=V.non) (u:=K4s) J rfl q
 | brk =>
  obtain⟨_,_,_,q⟩:=hs;exact K15 q
 | cont =>
  obtain⟨_,_,_,q⟩:=hs;exact K15 q
section
variable {X:Cx}{x:Str}{p pos:Pos}{e:Expr}{es:List Expr}{t:TA}{id T:String}{r:List V->Hp->VK->Prop}
def tCB (r:List V->Hp->VK->Prop) (t:TA):TE:=λσ H Q=>t σ H λvs H1=>r vs H1 Q
theorem z1d (hc:CallR X (.builtin id) r) (hg:Gl X x) (hm:X.mg x=none) (hv:K3a x=some (.builtin id)) (ha:PA X (e::es) t) (hn:x≠"__name__":=by decide) (hdb:(x==("__debug__":Str))=false:=by decide)
 (he:K7 (e::es) X.env=(false,eval e X.env)::K7 es X.env:=by rfl) (hpl:(backTo pos (K7 es X.env)).any (·.1)=false:=by rfl):PE X (.Call (.Name x p) (e::es) [] pos) (tCB r t):=by
 intro pins s σ H Q I h;refine K3k (z2J I hg hm hv ?_ hn hdb);exact PyProof.Rows.callWith_builtin1 (thn (ha pos pins s σ H _ I h) λus s1 ⟨vs,H1,I1,r1,q1⟩=>hc pins s1 σ H1 vs us Q I1 r1 q1) he hpl
theorem z1w (hc:CallR X (.type T) r) (hg:Gl X x) (hm:X.mg x=none) (hv:K3a x=some (.type T)) (ha:PA X (e::es) t) (hn:x≠"__name__":=by decide) (hdb:(x==("__debug__":Str))=false:=by decide)
 (he:K7 (e::es) X.env=(false,eval e X.env)::K7 es X.env:=by rfl) (hpl:(backTo pos (K7 es X.env)).any (·.1)=false:=by rfl):PE X (.Call (.Name x p) (e::es) [] pos) (tCB r t):=by
 intro pins s σ H Q I h;refine K3k (z2J I hg hm hv ?_ hn hdb);exact K33 (thn (ha pos pins s σ H _ I h) λus s1 ⟨vs,H1,I1,r1,q1⟩=>hc pins s1 σ H1 vs us Q I1 r1 q1) he hpl
end
end L2
namespace HT
open PySem PyProof.Rows
section
open PySem.SeqAt
open PySem.AutoSeq1 (wpAny_loadPart')
open PySem.MeetsSeq PySem.MeetsSeq2 PySem.MeetsSeq3
end
section
variable {prog:K04}{w:World}{A:Around}{E:Value->Shared->Prop}{s:Shared}
theorem cat_tup {t b:Addr}{vs ws:List Value}{Q:Value->Shared->Prop}(ht:IsTup s.heap t vs.toArray) (hb:IsTup s.heap b ws.toArray) (hv:vs≠[])
 (h1:ws=[]->Q (.ref t) s) (h2:ws≠[]->Q (.ref s.heap.objs.size) { s with heap:=s.heap.push { cls:=.type "tuple",data:=.seq (vs++ws).toArray } })
 (hsz:vs.length+ws.length<=sizeLine):wpAny (model prog w) A (K2a .Add (.ref t) (.ref b)) Q E s:=by
 obtain⟨⟨cls,dd,data,sl⟩,ho,hc,n,hd⟩:=id ht;obtain⟨⟨cls2,dd2,data2,sl2⟩,ho2,hc2,n2,hd2⟩:=id hb;simp only at hc hd hc2 hd2;subst hc hd hc2 hd2;have e:vs.toArray++ws.toArray=(vs++ws).toArray:=by simp
 by_cases hw:ws=[]
 ·exact K8n ⟨_,ho,rfl⟩ ⟨_,ho2,rfl⟩ K61 K7s K3v K3n (K3g _ _)
   (tuple_addW1 t b vs.toArray ws.toArray n n2 dd dd2 sl sl2 (by simpa using hv) (by simp[hw])) ⟨ho,ho2,h1 hw⟩
 ·refine K8n ⟨_,ho,rfl⟩ ⟨_,ho2,rfl⟩ K61 K7s K3v K3n (K3g _ _)
   (tuple_addW2 t b vs.toArray ws.toArray n n2 dd dd2 sl sl2 (by simpa using hv) (by simpa using hw) (by rw[K8,K8];exact hsz)) ⟨ho,ho2,?_⟩
  rw[e];exact h2 hw
def sIx (n d:Nat):Option Int->Nat
 | none=>d
 | some v=>if v<0 then (v+(n:Int)).toNat else min v.toNat n
theorem sIx_none (n d:Nat):sIx n d none=d:=rfl
theorem sIx_nat (n d k:Nat):sIx n d (some (k:Int))=min k n:=by
 show (if (k:Int)<0 then ((k:Int)+(n:Int)).toNat else min (k:Int).toNat n)=min k n;rw[if_neg (by omega),K5h]
theorem z9M (n d:Nat) (hd:d<=n) (o:Option Int):sIx n d o<=n:=by
 cases o with
 | none=>exact hd
 | some v =>
  show (if v<0 then (v+(n:Int)).toNat else min v.toNat n)<=n;by_cases hv:v<0
  ·rw[if_pos hv];omega
  ·rw[if_neg hv];exact Nat.min_le_right _ _
theorem z54 (v:Int) (n d:Nat):(if v<0 then max (v+(n:Int)) 0 else min v (n:Int))=((sIx n d (some v):Nat):Int):=by
 show (if v<0 then max (v+(n:Int)) 0 else min v (n:Int))=(((if v<0 then (v+(n:Int)).toNat else min v.toNat n):Nat):Int);by_cases hv:v<0
 ·simp only[if_pos hv];omega
 ·simp only[if_neg hv];omega
theorem z3Q (lo hi:Option Int) (n:Nat):K3b lo hi 1 (n:Int)=(((sIx n 0 lo:Nat):Int),((sIx n n hi:Nat):Int)):=by
 have h1:¬ ((1:Int)<0):=by omega
 unfold K3b;simp only[h1,if_false];refine Prod.ext ?_ ?_
 ·cases lo with
  | none=>rfl
  | some v=>exact z54 v n 0
 ·cases hi with
  | none=>rfl
  | some v=>exact z54 v n n
theorem z44 (i j:Nat):K2f (i:Int) (j:Int) 1=j - i:=by
 unfold K2f;have h1:(1:Int) > 0:=by omega
 simp only[h1,if_true,Int.ediv_one];split<;>omega
theorem z1Q {v:Value}{o:Option Int}{Q:Option Int->Shared->Prop}(p:IsPart v o) (h:Q o s):wpAny (model prog w) A (Builtin.Slice.slicePartIndex v) Q E s:=by
 cases p with
 | none=>exact slicePart_none h
 | int i t=>exact slicePart_int h
theorem sliceApplied_gen {sl:Addr}{vl vu:Value}{lo hi:Option Int}{n:Nat}{Q:Int×Int×Nat->Shared->Prop}(hs:s.heap.IsSliceOf sl vl vu .none) (pl:IsPart vl lo) (pu:IsPart vu hi)
 (h:Q (((sIx n 0 lo:Nat):Int),1,sIx n n hi - sIx n 0 lo) s):wpAny (model prog w) A (K50 (.ref sl) (pure (n:Int))) Q E s:=by
 obtain⟨os,hos,hcs,hds⟩:=id hs;unfold K50 Builtin.Slice.sliceFields;refine K1 (K1 (K49 hos hds (x:=vl) rfl (K1 (K49 hos hds (x:=vu) rfl (K1 (K49 hos hds (x:=.none) rfl (K4 ?_)))))));refine K1 (slicePart_none ?_);show wpAny _ _ (if ((1:Int)==0)=true then _ else _) _ _ s;rw[if_neg (by decide)];refine K1 (z1Q pl (K1 (z1Q pu (K1 (K4 ?_)))));show wpAny _ _ (match K3b lo hi 1 (n:Int) with|(lo,hi)=>pure (lo,(1:Int),K2f lo hi 1)) _ _ s;rw[z3Q lo hi n];show wpAny _ _ (pure (((sIx n 0 lo:Nat):Int),(1:Int),K2f ((sIx n 0 lo:Nat):Int) ((sIx n n hi:Nat):Int) 1)) _ _ s;rw[z44];exact K4 h
theorem z6c (xs:Array Value) (i k:Nat):((K0q k).filterMap λ(m:Nat)=>xs[((i:Int)+(m:Int) * 1).toNat]?).toArray=((xs.toList.drop i).take k).toArray:=by
 have e:(λ(m:Nat)=>xs[((i:Int)+(m:Int) * 1).toNat]?)=λm=>xs[i+m]?:=by
  funext m;have:((i:Int)+(m:Int) * 1).toNat=i+m:=by omega
  rw[this]
 rw[e];have:=pick_run xs i k;rw[K84]at this;have e2:((λx=>xs[x]?) ∘ λx=>i+x)=λm=>xs[i+m]?:=rfl;rw[e2]at this;rw[this]
theorem getItem_tuple_cut {t sl:Addr}{items:Array Value}{vl vu:Value}{lo hi:Option Int}{Q:Value->Shared->Prop}(ht:IsTup s.heap t items) (hs:s.heap.IsSliceOf sl vl vu .none) (pl:IsPart vl lo) (pu:IsPart vu hi)
 (hw:¬ (sIx items.size 0 lo=0/\sIx items.size items.size hi=items.size))
 (h:Q (.ref s.heap.objs.size) { s with heap:=s.heap.push { cls:=.type "tuple",data:=.seq ((items.toList.drop (sIx items.size 0 lo)).take (sIx items.size items.size hi - sIx items.size 0 lo)).toArray } })
 (hsz:items.size<=sizeLine):wpAny (model prog w) A (K69 (.ref t) (.ref sl)) Q E s:=by
 have htake:sizeOk (.seq ((items.toList.drop (sIx items.size 0 lo)).take (sIx items.size items.size hi - sIx items.size 0 lo)).toArray):=by
  show ((items.toList.drop (sIx items.size 0 lo)).take (sIx items.size items.size hi - sIx items.size 0 lo)).toArray.size<=sizeLine;rw[K8,K0a,K1a,K2p];omega
 have hj:sIx items.size items.size hi<=items.size:=z9M _ _ (K05 _) hi;obtain⟨os,hos,hcs,hds⟩:=id hs;have hTs:s.TypeIs (.ref sl) "slice":=⟨os,hos,hcs⟩;unfold K69
 try with_reducible refine K1m ?_
 first|refine K1 (K4 ?_)|skip
 refine K1 (K5i ht.typeIs (by decide) ?_);refine K1 (K3p (name:=K4l "__getitem__") ht.typeIs K16
  (K60 K16 ht.typeIs K7m ?_ (args_tuple_getitem _ _)))
 show wpAny _ _ (K4y (.ref t) >>= _) _ _ s;refine K1 (tupleItemsOf_ ht ?_);refine K1 (K3w hTs ?_);rw[if_pos (by decide)];refine K1 (sliceApplied_gen hs pl pu ?_);have hno:¬ ((((sIx items.size 0 lo:Nat):Int)==0&&(1:Int)==1&&(sIx items.size items.size hi - sIx items.size 0 lo)==items.size)=true):=by
  intro q;rw[K06,K06]at q;have q1:((sIx items.size 0 lo:Nat):Int)=0:=eq_of_beq q.1.1;have q2:sIx items.size items.size hi - sIx items.size 0 lo=items.size:=eq_of_beq q.2;exact hw ⟨by omega,by omega⟩
 show wpAny _ _ (if (((sIx items.size 0 lo:Nat):Int)==0&&(1:Int)==1&&(sIx items.size items.size hi - sIx items.size 0 lo)==items.size)=true then _ else _) _ _ s;rw[if_neg hno,z6c]
 first
  | exact K1 (m:=K2m _) (K2l (K4 ⟨_,rfl,K4 h⟩) htake)
  | exact K1 (m:=K2m _) (K2l (K1 (K4 (K4 ⟨_,rfl,K4 h⟩))) htake)
  | exact K1 (K1 (m:=K2m _) (K2l (K4 (K4 ⟨_,rfl,K4 h⟩)) htake))
  | exact K1 (K1 (m:=K2m _) (K2l (K4 ⟨_,rfl,K4 h⟩) htake))
end
end HT
namespace L2
abbrev TO:=St->Hp->(Option Int->Hp->Prop)->Prop
def PO (X:Cx) (e:Option Expr) (t:TO):Prop :=
 ∀(pins:List (Addr×Obj)) (s:Shared) (σ:St) (H:Hp) (Q:Option Int->Hp->Prop),Inv X pins σ H s->t σ H Q ->
  wpAny (model X.prog X.w) X.A (evalPart e X.env) (λu s'=>∃o H',Inv X pins σ H' s'/\IsPart u o/\Q o H') X.xe s
def z7X:TO:=λ_ H Q=>Q none H
def zj0 (t:TE):TO:=λσ H Q=>t σ H λx H1=>∃i,x=.int i/\Q (some i) H1
section
variable {X:Cx}{e:Expr}{te:TE}{lo hi:Option Expr}{tl th:TO}{pos p2:Pos}
theorem z7n:PO X none z7X:=by
 intro pins s σ H Q I h;rw[evalPart_none];exact K4 ⟨none,H,I,.none,h⟩
theorem z7b (h:PE X e te):PO X (some e) (zj0 te):=by
 intro pins s σ H Q I hw;rw[evalPart_some];refine thn (h pins s σ H _ I hw) λu s1 ⟨x,H1,I1,r1,q1⟩=>?_;obtain⟨i,rfl,q⟩:=q1;obtain⟨t,rfl⟩:=r1;exact⟨some i,H1,I1,.int i t,q⟩
def SlR (X:Cx) (r:V->Option Int->Option Int->Hp->VK->Prop):Prop :=
 ∀(pins:List (Addr×Obj)) (s:Shared) (σ:St) (H:Hp) (x:V) (v vl vu:Value) (lo hi:Option Int) (sl:Addr) (Q:VK),Inv X pins σ H s->RelV x v->s.heap.IsSliceOf sl vl vu .none->IsPart vl lo->IsPart vu hi->r x lo hi H Q ->
  ∃T id,typeLookup (.type T) "__getitem__" = pure (some (.builtin id))/\s.TypeIs v T/\wpAny (model X.prog X.w) X.A (K69 v (.ref sl)) (EP X pins σ Q) X.xe s
theorem SlR.or {r r':V->Option Int->Option Int->Hp->VK->Prop}(h:SlR X r) (h':SlR X r'):SlR X (λx lo hi H Q=>r x lo hi H Q\/r' x lo hi H Q):=by
 intro pins s σ H x v vl vu lo hi sl Q I rx hs pl pu q;rcases q with q|q
 ·exact h pins s σ H x v vl vu lo hi sl Q I rx hs pl pu q
 ·exact h' pins s σ H x v vl vu lo hi sl Q I rx hs pl pu q
def tSl (r:V->Option Int->Option Int->Hp->VK->Prop) (te:TE) (tl th:TO):TE:=λσ H Q=>te σ H λx H1=>tl σ H1 λl H2=>th σ H2 λu H3=>r x l u H3 Q
theorem z69 {r:V->Option Int->Option Int->Hp->VK->Prop}(hr:SlR X r) (he:PE X e te) (hl:PO X lo tl) (hu:PO X hi th):PE X (.Subscript e (.Slice lo hi none p2) pos) (tSl r te tl th):=by
 intro pins s σ H Q I h;refine Subscript_ (thn (he pins s σ H _ I h) λv s1 ⟨x,H1,I1,r1,q1⟩=>?_);refine wpAny_Slice (thn (hl pins s1 σ H1 _ I1 q1) λvl s2 ⟨l,H2,I2,pl,q2⟩=>thn (hu pins s2 σ H2 _ I2 q2) λvu s3 ⟨u,H3,I3,pu,q3⟩=>?_);rw[evalPart_none];refine K4 ?_;have I4:Inv X pins σ H3 { s3 with heap:=s3.heap.push { cls:=.type "slice",data:=.fields #[vl,vu,.none] } }:=I3.kept (t':=s3.toks) λb ob q=>K9 _ q;obtain⟨T,id,hT,ht,hg⟩:=hr pins { s3 with heap:=s3.heap.push { cls:=.type "slice",data:=.fields #[vl,vu,.none] } } σ H3 x v vl vu l u s3.heap.objs.size Q I4 r1 (Heap.IsSliceOf.new ..) pl pu q3;show wpAny (model X.prog X.w) X.A (subscriptTail e (.Slice lo hi none p2) v (.ref s3.heap.objs.size)) (EP X pins σ Q) X.xe { s3 with heap:=s3.heap.push { cls:=.type "slice",data:=.fields #[vl,vu,.none] } };exact tail_any (ops:=[.ref s3.heap.objs.size,v]) ht hT hg (by with_unfolding_all rfl)
def cutV (xs:List V) (lo hi:Option Int):List V:=(xs.drop (HT.sIx xs.length 0 lo)).take (HT.sIx xs.length xs.length hi - HT.sIx xs.length 0 lo)
theorem z1z (xs:List V) (lo hi:Option Int):(cutV xs lo hi).length<=xs.length:=by
 unfold cutV;rw[K0a,K1a];omega
def rSlT (K:K0):V->Option Int->Option Int->Hp->VK->Prop:=λx lo hi H Q=>∃a xs,x=.ref a/\SqT K H a xs /\
 ¬ (HT.sIx xs.length 0 lo=0/\HT.sIx xs.length xs.length hi=xs.length)/\∀p,H p=none->Q (.ref p) (upd H p (.tup (cutV xs lo hi)))
theorem sl_tup:SlR X (rSlT X.K):=by
 intro pins s σ H x v vl vu lo hi sl Q I rx hs pl pu h;obtain⟨a,xs,rfl,hx,hw,q⟩:=h;cases rx;obtain⟨its,r,ht,hz⟩:=I.tuple hx;have hlen:its.toArray.size=xs.length:=by rw[K8];exact r.length.symm
 refine⟨"tuple",_,K16.lookup,ht.typeIs,?_⟩;refine HT.getItem_tuple_cut ht hs pl pu (by rw[hlen];exact hw) ?_ (by rw[hlen];exact hz);rw[hlen];refine⟨.ref s.heap.objs.size,_,I.laid (t':=s.toks) (o:=.tup (cutV xs lo hi)) (λb ob q=>K9 _ q) (K05 _) ?_,rfl,q _ (I.hok.fresh (K05 _))⟩;exact⟨K0b (z1z xs lo hi) hz,_,(r.drop (HT.sIx xs.length 0 lo)).take (HT.sIx xs.length xs.length hi - HT.sIx xs.length 0 lo),FT.IsTup0.new _ _⟩
def z6Z (K:K0):R2:=λx y H Q=>∃a b xs ys,x=.ref a/\y=.ref b/\SqT K H a xs/\SqT K H b ys/\xs≠[]/\xs.length+ys.length<=sizeLine /\
 (ys=[]->Q (.ref a) H)/\(ys≠[]->∀p,H p=none->Q (.ref p) (upd H p (.tup (xs++ys))))
theorem Vals.nil_iff {xs:List V}{us:List Value}(r:Vals xs us):us=[]↔xs=[]:=by
 cases r with
 | nil=>simp
 | cons _ _=>simp
theorem op_catT:OpR X (K2a .Add) (z6Z X.K):=by
 intro pins s σ H x y v u Q I rx ry h;obtain⟨a,b,xs,ys,rfl,rfl,ha,hb,hx,hz,q1,q2⟩:=h;cases rx;cases ry;obtain⟨its,r1,p1,_⟩:=I.tuple ha;obtain⟨its2,r2,p2,_⟩:=I.tuple hb;refine HT.cat_tup p1 p2 (λz=>hx (r1.nil_iff.mp z)) (λz=>⟨.ref a,H,I,rfl,q1 (r2.nil_iff.mp z)⟩) (λz=>?_) (by rw[<- r1.length,<- r2.length];exact hz);refine⟨.ref s.heap.objs.size,_,I.laid (t':=s.toks) (o:=.tup (xs++ys)) (λb ob q=>K9 _ q) (K05 _) ?_,rfl,q2 (λw=>z (r2.nil_iff.mpr w)) _ (I.hok.fresh (K05 _))⟩;exact⟨by rw[K01];exact hz,_,r1.append r2,FT.IsTup0.new _ _⟩
end
def ixN (n:Nat) (i:Int):Option Nat:=if 0<=i then (if i<n then some i.toNat else none) else if -(n:Int)<=i then some (i+n).toNat else none
def atI {α:Type} (xs:List α) (i:Int):Option α:=(ixN xs.length i).bind λj=>xs[j]?
theorem z4c {n:Nat}{i:Int}{j:Nat}(h:ixN n i=some j):K5v i n=some j/\j<n/\-(n:Int)<=i/\i<n:=by
 unfold ixN at h;by_cases h0:0<=i
 ·rw[if_pos h0]at h;by_cases h1:i<n
  ·rw[if_pos h1]at h;have e:i.toNat=j:=K0u h;exact⟨by rw[K94 h0 h1,e],by omega,by omega,h1⟩
  ·rw[if_neg h1]at h;cases h
 ·rw[if_neg h0]at h;by_cases h1:-(n:Int)<=i
  ·rw[if_pos h1]at h;have e:(i+n).toNat=j:=K0u h;exact⟨by rw[K8m (by omega) h1,e],by omega,h1,by omega⟩
  ·rw[if_neg h1]at h;cases h
theorem z2V {α:Type}{xs:List α}{i:Int}{v:α}(h:atI xs i=some v):∃j,K5v i xs.length=some j/\xs[j]?=some v/\j<xs.length/\-(xs.length:Int)<=i/\i<xs.length:=by
 unfold atI at h;cases e:ixN xs.length i with
 | none=>rw[e]at h;cases h
 | some j =>
  rw[e]at h;obtain⟨h1,h2,h3,h4⟩:=z4c e;exact⟨j,h1,h,h2,h3,h4⟩
theorem z32 {α:Type}{xs:List α}{j:Nat}{v:α}(h:xs[j]?=some v):atI xs (j:Int)=some v:=by
 have hj:j<xs.length:=(K5.mp h).1;have e:ixN xs.length (j:Int)=some j:=by
  unfold ixN;rw[if_pos (by omega),if_pos (by omega)];simp
 unfold atI;rw[e];exact h
def z4M (b:Expr):Prop:=∀o i,subscripted b false o i=operate [o,i] (K69 o i)
def IxR (X:Cx) (r:R2):Prop :=
 ∀(value slice:Expr) (pins:List (Addr×Obj)) (s:Shared) (σ:St) (H:Hp) (x y:V) (v u:Value) (Q:VK),Inv X pins σ H s->RelV x v->RelV y u->r x y H Q ->
  subscripted slice false v u=operate [v,u] (K69 v u)->wpAny (model X.prog X.w) X.A (subscriptTail value slice v u) (EP X pins σ Q) X.xe s
def MtR (X:Cx) (id:String) (r:V->List V->Hp->VK->Prop):Prop :=
 ∀(pins:List (Addr×Obj)) (s:Shared) (σ:St) (H:Hp) (x:V) (xs:List V) (v:Value) (us:List Value) (Q:VK),Inv X pins σ H s->RelV x v->Vals xs us->r x xs H Q ->
  wpAny (model X.prog X.w) X.A (call (.builtin id) (v::us)) (EP X pins σ Q) X.xe s
section
variable {X:Cx}{a b:Expr}{ta tb:TE}{pos:Pos}
theorem IxR.or {r r':R2}(h:IxR X r) (h':IxR X r'):IxR X (λx y H Q=>r x y H Q\/r' x y H Q):=by
 intro value slice pins s σ H x y v u Q I rx ry q hs;rcases q with q|q
 ·exact h value slice pins s σ H x y v u Q I rx ry q hs
 ·exact h' value slice pins s σ H x y v u Q I rx ry q hs
theorem MtR.or {id:String}{r r':V->List V->Hp->VK->Prop}(h:MtR X id r) (h':MtR X id r'):MtR X id (λx xs H Q=>r x xs H Q\/r' x xs H Q):=by
 intro pins s σ H x xs v us Q I rx rs q;rcases q with q|q
 ·exact h pins s σ H x xs v us Q I rx rs q
 ·exact h' pins s σ H x xs v us Q I rx rs q
theorem zj7 {r:R2}(hr:IxR X r) (ha:PE X a ta) (hb:PE X b tb) (hs:z4M b):PE X (.Subscript a b pos) (tOp r ta tb):=by
 intro pins s σ H Q I h;exact Subscript_ (binT ha hb I h λv u s2 x y H2 I2 rx ry q=>hr a b pins s2 σ H2 x y v u Q I2 rx ry q (hs _ _))
def rIxL (K:K0):R2:=λx y H Q=>∃p xs i v,x=.ref p/\y=.int i/\SqL K H p xs/\atI xs i=some v/\Q v H
def rIxT (K:K0):R2:=λx y H Q=>∃p xs i v,x=.ref p/\y=.int i/\SqT K H p xs/\atI xs i=some v/\Q v H
def rIxS:R2:=λx y H Q=>∃z i c,x=.str z/\y=.int i/\z.length<=sizeLine/\atI z.cps.toList i=some c/\Q (.str ⟨#[c]⟩) H
theorem ix_list:IxR X (rIxL X.K):=by
 intro value slice pins s σ H x y v u Q I rx ry h hs;obtain⟨p,xs,i,z,rfl,rfl,hq,he,q⟩:=h;cases rx;obtain⟨t,rfl⟩:=ry;obtain⟨its,r,pl,hz⟩:=I.list hq;obtain⟨j,h1,h2,h3,h4,h5⟩:=z2V he;obtain⟨w,ew,rw'⟩:=r.get h2;have hl:=r.length;have hn:=z1U;have fin:EP X pins σ Q w s:=⟨z,H,I,rw',q⟩;by_cases h0:0<=i
 ·have hj:i.toNat=j:=by
   rw[K94 h0 h5]at h1;exact K0u h1
  exact item_listR pl.isList h0 (by omega) (by rw[hj];simpa using ew) fin hs
 ·have hj:(i+(its.toArray.size:Int)).toNat=j:=by
   rw[K8m (by omega) h4]at h1;rw[K8,<- hl];exact K0u h1
  exact K6l (x:=w) pl.isList.typeIs K8a.lookup
   (wpAny_getItem_list_neg (Q:=λr s'=>r=w/\EP X pins σ Q r s') pl.isList (by omega) (by rw[K8]<;>omega) (by omega) (by rw[hj];simpa using ew) ⟨rfl,fin⟩) hs
theorem ix_tup:IxR X (rIxT X.K):=by
 intro value slice pins s σ H x y v u Q I rx ry h hs;obtain⟨p,xs,i,z,rfl,rfl,hq,he,q⟩:=h;cases rx;obtain⟨t,rfl⟩:=ry;obtain⟨its,r,pl,hz⟩:=I.tuple hq;obtain⟨j,h1,h2,h3,h4,h5⟩:=z2V he;obtain⟨w,ew,rw'⟩:=r.get h2;have hl:=r.length;have hn:=z1U;have fin:EP X pins σ Q w s:=⟨z,H,I,rw',q⟩;exact K6l (x:=w) pl.typeIs slot_tuple_getitem.lookup
  (getItem_tuple (j:=j) (Q:=λr s'=>r=w/\EP X pins σ Q r s') pl (by omega) (by omega) (by rw[K8,<- hl];exact h1) (by simpa using ew) ⟨rfl,fin⟩) hs
theorem za9:IxR X rIxS:=by
 intro value slice pins s σ H x y v u Q I rx ry h hs;obtain⟨z,i,c,rfl,rfl,hz,he,q⟩:=h;obtain⟨t,rfl⟩:=rx;obtain⟨t',rfl⟩:=ry;obtain⟨j,h1,h2,h3,h4,h5⟩:=z2V he;have hl:z.cps.toList.length=z.length:=by simp[Str.length]
 rw[hl]at h1 h4 h5;have hn:=z1U;exact tail_any (K7z s z t) slot_str_getitem.lookup (getItem_str (c:=c) (by
  have e1:decide (i < -(2 ^ 63:Int))=false:=decide_eq_false (by omega);have e2:decide (i >= 2 ^ 63)=false:=decide_eq_false (by omega);rw[e1,e2,Bool.or_false]) (by rw[h1];simpa using h2) ⟨.str ⟨#[c]⟩,H,I.tok _,⟨_,rfl⟩,q⟩) hs
def rIx (K:K0):R2:=λx y H Q=>rIxL K x y H Q\/rIxT K x y H Q\/rIxS x y H Q
theorem z9j:IxR X (rIx X.K):=ix_list.or (ix_tup.or za9)
theorem z3M (its:List Value) (n j:Nat) (u:Value):K4u (·.setIfInBounds j u) { cls:=.type "list",data:=.seq its.toArray n }={ cls:=.type "list",data:=.seq (its.set j u).toArray n }:=by
 simp[K4u]
theorem Inv.lst {pins:List (Addr×Obj)}{σ:St}{H:Hp}{s:Shared}{p:Addr}{xs:List V}(I:Inv X pins σ H s) (h:H p=.(l xs)) :
 ∃(its:List Value) (n:Nat),Vals xs its/\s.heap.get? p=some { cls:=.type "list",data:=.seq its.toArray n }/\xs.length<=sizeLine:=by
 obtain⟨z,its,n,r,e⟩:=I.hok p _ h;exact⟨its,n,r,e,z⟩
theorem Inv.lstUpd {pins:List (Addr×Obj)}{σ:St}{H:Hp}{s:Shared}{p:Addr}{xs ys:List V}{its its':List Value}{n n':Nat}{f:Obj->Obj}(I:Inv X pins σ H s) (h:H p=.(l xs))
 (ho:s.heap.get? p=some { cls:=.type "list",data:=.seq its.toArray n }) (hf:f { cls:=.type "list",data:=.seq its.toArray n }={ cls:=.type "list",data:=.seq its'.toArray n' }) (r:Vals ys its') (hz:ys.length<=sizeLine) (t:Nat) :
 Inv X pins σ (upd H p (.lst ys)) { s with heap:=s.heap.update p f,toks:=t }:=by
 have e:(s.heap.update p f).get? p=some { cls:=.type "list",data:=.seq its'.toArray n' }:=by
  rw[Heap.get?_update_self f ho (by rw[hf]<;>rfl),hf]
 refine I.write (x:=p) (e:=p) (by rw[h];trivial) (.inl rfl) (λb u hb q=>(K6j _ _ (K5f hb)).trans q) ⟨_,e⟩ ?_;exact⟨hz,its',n',r,e⟩
def zl5:V->V->V->Hp->(Hp->Prop)->Prop:=λo i v H Q=>∃p xs k j,o=.ref p/\i=.int k/\H p=.(l xs)/\ixN xs.length k=some j/\Q (upd H p (.lst (xs.set j v)))
theorem set_list:PSet X zl5:=by
 intro pins s σ H o i v ov iv u Q I ro ri rv h;obtain⟨p,xs,k,j,rfl,rfl,hp,hj,q⟩:=h;cases ro;obtain⟨t,rfl⟩:=ri;obtain⟨its,n,r,ho,hz⟩:=I.lst hp;obtain⟨h1,h2,h3,h4⟩:=z4c hj;have hl:=r.length;have hn:=z1U;have I':Inv X pins σ (upd H p (.lst (xs.set j v))) { s with heap:=s.heap.update p (K4u (·.setIfInBounds j u)) } :=
  I.lstUpd hp ho (z3M its n j u) (r.set rv j) (by rw[List.length_set];exact hz) s.toks
 by_cases h0:0<=k
 ·have hk:k.toNat=j:=by
   rw[K94 h0 h4]at h1;exact K0u h1
  exact PySem.W.ki_setAt ho h0 (by omega) (by rw[K8,<- hl];exact h4) (by rw[hk];exact⟨_,I',q⟩)
 ·have hk:(k+(its.toArray.size:Int)).toNat=j:=by
   rw[K8m (by omega) h3]at h1;rw[K8,<- hl];exact K0u h1
  exact PySem.W.ki_setBack ho (by omega) (by rw[K8,<- hl];exact h3) (by omega) (by rw[hk];exact⟨_,I',q⟩)
theorem z2G (lo hi:Option Int) (n:Nat):(K2t lo hi none n).1=((HT.sIx n 0 lo:Nat):Int)/\(K2t lo hi none n).2.1=((HT.sIx n n hi:Nat):Int)/\(K2t lo hi none n).2.2=1:=by
 refine⟨?_,?_,rfl⟩
 ·cases lo with
  | none=>simp[K2t,HT.sIx]
  | some i =>
   simp only[K2t,HT.sIx,K5r,show (1:Int) > 0 by decide,if_true];by_cases h:i<0
   ·simp only[h,if_true]<;>omega
   ·simp only[h,if_false]<;>omega
 ·cases hi with
  | none=>simp[K2t,HT.sIx]
  | some i =>
   simp only[K2t,HT.sIx,K5r,show (1:Int) > 0 by decide,if_true];by_cases h:i<0
   ·simp only[h,if_true]<;>omega
   ·simp only[h,if_false]<;>omega
theorem z2c (its:List Value) (lo hi:Option Int):slicePick its.toArray lo hi none=((its.drop (HT.sIx its.length 0 lo)).take (HT.sIx its.length its.length hi - HT.sIx its.length 0 lo)).toArray:=by
 obtain⟨h1,h2,h3⟩:=z2G lo hi its.toArray.size;unfold slicePick;rw[h1,h2,h3];simp only[sliceRange_one,pick_run,K8]<;>rfl
def rSlL (K:K0):V->Option Int->Option Int->Hp->VK->Prop:=λx lo hi H Q=>∃a xs,x=.ref a/\SqL K H a xs/\∀p,H p=none->Q (.ref p) (upd H p (.lst (cutV xs lo hi)))
theorem sl_list:SlR X (rSlL X.K):=by
 intro pins s σ H x v vl vu lo hi sl Q I rx hs pl pu h;obtain⟨a,xs,rfl,hx,q⟩:=h;cases rx;obtain⟨its,r,ht,hz⟩:=I.list hx;have hlen:=r.length;refine⟨"list",_,K8a.lookup,ht.isList.typeIs,?_⟩;refine wpAny_getItem_list_slice ht.isList hs pl pu .none (by simp) ?_ (by rw[K8]<;>omega);rw[z2c,<- hlen];refine⟨.ref s.heap.objs.size,_,I.laid (t':=s.toks) (o:=.lst (cutV xs lo hi)) (λb ob q=>K9 _ q) (K05 _) ?_,rfl,q _ (I.hok.fresh (K05 _))⟩;exact⟨K0b (z1z xs lo hi) hz,_,0,(r.drop (HT.sIx xs.length 0 lo)).take (HT.sIx xs.length xs.length hi - HT.sIx xs.length 0 lo),K0r _ rfl⟩
theorem CallR.or {f:Value}{r r':List V->Hp->VK->Prop}(h:CallR X f r) (h':CallR X f r'):CallR X f (λxs H Q=>r xs H Q\/r' xs H Q):=by
 intro pins s σ H xs us Q I rs q;rcases q with q|q
 ·exact h pins s σ H xs us Q I rs q
 ·exact h' pins s σ H xs us Q I rs q
theorem z29:CallR X (.type "tuple") (λxs H Q=>∃p ys,xs=[.ref p]/\((SqL X.K H p ys/\∀l,H l=none->Q (.ref l) (upd H l (.tup ys)))\/(SqT X.K H p ys/\Q (.ref p) H))):=by
 intro pins s σ H xs us Q I r h;obtain⟨p,ys,rfl,h⟩:=h;obtain⟨u,rfl,rx⟩:=vals1 r;cases rx;rcases h with ⟨hq,q⟩|⟨hq,q⟩
 ·obtain⟨its,r',pl,hz⟩:=I.list hq;have hlen:=r'.length;refine call_tuple_list pl.isList (λh' kp=>?_) (by simp only[K8]<;>omega);have I1:Inv X pins σ H { s with heap:=h' }:=I.kept (t':=s.toks) kp;have I2:Inv X pins σ (upd H h'.objs.size (.tup ys)) { s with heap:=h'.push { cls:=.type "tuple",data:=.seq its.toArray } } :=
   I1.laid (t':=s.toks) (λb o e=>K9 _ e) (K05 _) (show ObjOk X.prog X.w _ _ _ (.tup ys) from⟨hz,its,r',FT.IsTup0.new _ _⟩)
  exact⟨.ref h'.objs.size,_,I2,rfl,q _ (I1.hok.fresh (K05 _))⟩
 ·obtain⟨its,r',pl,hz⟩:=I.tuple hq;exact call_tuple_same pl ⟨.ref p,H,I,rfl,q⟩
def tyV (K:K0) (T:String) (x:V) (H:Hp):Prop:=match x with
 | .str _=>T = "str"
 | .int _=>T = "int"
 | .ref p=>(T = "list"/\∃xs,SqL K H p xs)\/(T = "tuple"/\∃o,K.lookup p=some o/\o.cls=.type "tuple"/\o.dict=none) \/
  (T = "dict"/\((∃kvs,H p=some (.dK kvs))\/∃kvs,H p=some (.dT kvs)))\/(T = "set"/\∃ks,H p=some (.set ks))
 | _=>False
theorem zc8 {pins:List (Addr×Obj)}{σ:St}{H:Hp}{s:Shared}{T:String}{x:V}{v:Value}(I:Inv X pins σ H s) (r:RelV x v) (ty:tyV X.K T x H) :
 s.TypeIs v T/\∀a,v=.ref a->∃ob,s.heap.get? a=some ob/\ob.dict=none:=by
 cases x with
 | str z =>
  obtain⟨t,rfl⟩:=r;cases (show T = "str" from ty);exact⟨K7z s z t,λ_ e=>nomatch e⟩
 | int i =>
  obtain⟨t,rfl⟩:=r;cases (show T = "int" from ty);exact⟨K42 s i t,λ_ e=>nomatch e⟩
 | ref p =>
  cases r;rcases ty with ⟨rfl,xs,hq⟩|⟨rfl,o,hk,hc,hd⟩|⟨rfl,hk⟩|⟨rfl,ks,hk⟩
  ·obtain⟨its,_,pl,_⟩:=I.list hq;refine⟨pl.isList.typeIs,λa e=>?_⟩;cases e;obtain⟨o,n,e,c,hd,_⟩:=pl;exact⟨o,e,hd⟩
  ·refine⟨⟨o,I.kIn p o hk,hc⟩,λa e=>?_⟩;cases e;exact⟨o,I.kIn _ o hk,hd⟩
  ·have z:∃o,s.heap.get? p=some o/\o.ExactDict:=by
    rcases hk with ⟨kvs,hk⟩|⟨kvs,hk⟩
    ·obtain⟨_,_,_,_,o,_,_,e,ex,_⟩:=I.hok p _ hk;exact⟨o,e,ex⟩
    ·obtain⟨_,_,_,_,o,_,_,e,ex,_⟩:=I.hok p _ hk;exact⟨o,e,ex⟩
   obtain⟨o,e,ex⟩:=z;refine⟨⟨o,e,ex.1⟩,λa e2=>?_⟩;cases e2;exact⟨o,e,ex.2.1⟩
  ·obtain⟨o,_,_,_,_,e,ex,_⟩:=I.hok p _ hk;refine⟨⟨o,e,ex.1⟩,λa e2=>?_⟩;cases e2;exact⟨o,e,ex.2.1⟩
 | _=>exact K15 ty
def tBM (K:K0) (T:String) (r:V->List V->Hp->VK->Prop) (to:TE) (t:TA):TE:=λσ H Q=>to σ H λx H1=>tyV K T x H1/\t σ H1 λxs H2=>r x xs H2 Q
variable {o e:Expr}{es:List Expr}{to:TE}{t:TA}{name:Str}{apos cpos:Pos}{T id:String}{r:V->List V->Hp->VK->Prop}
theorem z7x (pa:PlainAttrs T) (slot:Slot T name id) (hty:typeOf (.builtin id)=pure (.type "method_descriptor")) (hm:MtR X id r) (ho:PE X o to) (ha:PA X (e::es) t)
 (hbase:K2e o name X.env (eval o X.env)=eval o X.env:=by rfl)
 (hfew:((backTo cpos (K7 (e::es) X.env)).all (λx=>!x.1)&&(K47 cpos (K2u [] X.env)).all (λx=>x.1.isSome)
 &&decide ((e::es).length+([]:List K2q).length+(if ([]:List K2q).isEmpty then 0 else 1)<30))=true:=by rfl)
 (hline:(apos.endLine==cpos.line)=true:=by rfl) (hs:K7 (e::es) X.env=(false,eval e X.env)::K7 es X.env:=by rfl) (hplain:(backTo cpos (K7 es X.env)).any (·.1)=false:=by rfl) :
 PE X (.Call (.Attribute o name apos) (e::es) [] cpos) (tBM X.K T r to t):=by
 intro pins s σ H Q I h;refine wpAny_Call_method_late hbase hfew hline rfl (thn (ho pins s σ H _ I h) λv s1 ⟨x,H1,I1,r1,ty,q1⟩=>?_);obtain⟨h1,h2⟩:=zc8 I1 r1 ty;refine⟨T,id,pa,slot,hty,h1,h2,?_⟩;have hA:=ha cpos pins s1 σ H1 _ I1 q1;rw[hs]at hA ⊢;refine Calls.callWith_builtin (by show (false||(backTo cpos (K7 es X.env)).any (·.1))=false;rw[hplain]<;>rfl) (K79 ?_);exact thn hA λus s2 ⟨vs,H2,I2,r2,q2⟩=>hm pins s2 σ H2 x vs v us Q I2 r1 r2 q2
end
def MtM (X:Cx) (id:String) (r:V->List V->Hp->VK->Prop):Prop :=
 ∀(pins:List (Addr×Obj)) (s:Shared) (σ:St) (H:Hp) (x:V) (xs:List V) (v:Value) (us:List Value) (Q:VK),Inv X pins σ H s->RelV x v->Vals xs us->r x xs H Q ->
  wpAny (model X.prog X.w) X.A (call (.builtin id) (v::us)) (EP X pins σ Q) X.xe s
theorem Vals.one:∀{x:V}{us:List Value},Vals [x] us->∃u,us=[u]/\RelV x u
 | _,_,.cons r .nil=>⟨_,rfl,r⟩
theorem Vals.zero:∀{us:List Value},Vals [] us->us=[]
 | _,.nil=>rfl
theorem Vals.eraseIdx:∀{xs:List V}{us:List Value}(i:Nat),Vals xs us->Vals (xs.eraseIdx i) (us.eraseIdx i)
 | _,_,_,.nil=>.nil
 | _,_,0,.cons _ t=>t
 | _,_,i+1,.cons r t=>.cons r (Vals.eraseIdx i t)
theorem Vals.rep {xs:List V}{us:List Value}(h:Vals xs us):∀k:Nat,Vals (K07 k xs).flatten (K07 k us).flatten
 | 0=>.nil
 | k+1=>by
  rw[K1p,K1p,K24,K24];exact Vals.append h (Vals.rep h k)
theorem z2w {α:Type}:∀(l:List α) (i:Nat),(l.eraseIdx i).length<=l.length
 | [],_=>K05 _
 | _::_,0=>K75 _
 | _::r,i+1=>Nat.succ_le_succ (z2w r i)
theorem foldl_rep (its:List Value):∀(k:Nat) (acc:List Value),
 K40 (λx1 x2=>x1++x2) acc.toArray (K07 k its.toArray)=(acc++(K07 k its).flatten).toArray
 | 0,acc=>by simp
 | k+1,acc=>by
  have e:acc.toArray++its.toArray=(acc++its).toArray:=by simp
  have e2:(acc++its)++(K07 k its).flatten=acc++(K07 (k+1) its).flatten:=by
   rw[K1p,K24,K32]
  rw[<- e2,<- foldl_rep its k (acc++its),<- e,K1p,List.foldl_cons]
section
variable {X:Cx}{pins:List (Addr×Obj)}{σ:St}{H:Hp}{s:Shared}{l b:Addr}{xs ys zs:List V}
theorem Inv.lset {its its':List Value}{n:Nat}{f:Array Value->Array Value}{t':Nat}(I:Inv X pins σ H s) (hH:H l=.(l xs))
 (e:s.heap.get? l=some { cls:=.type "list",data:=.seq its.toArray n }) (hf:f its.toArray=its'.toArray) (hv:Vals ys its') (hz:ys.length<=sizeLine) :
 Inv X pins σ (upd H l (.lst ys)) { s with heap:=s.heap.update l (K4u f),toks:=t' }:=by
 have q:=PySem.IsL.update e f;rw[hf]at q;refine I.write (x:=l) (e:=l) (by rw[hH];exact trivial) (.inl rfl) (λb' u hb hu=>(K6j s.heap (K4u f) (K5f hb)).trans hu) ⟨_,q⟩ ?_;exact⟨hz,its',_,hv,q⟩
theorem Inv.lnew {its:List Value}{t':Nat}(I:Inv X pins σ H s) (hv:Vals ys its) (hz:ys.length<=sizeLine) :
 Inv X pins σ (upd H s.heap.objs.size (.lst ys)) { s with heap:=s.heap.push { cls:=.type "list",data:=.seq its.toArray },toks:=t' } :=
 I.laid (λ_ _ q=>K9 _ q) (K05 _) ⟨hz,its,0,hv,K0r _ rfl⟩
theorem Inv.fresh (I:Inv X pins σ H s):H s.heap.objs.size=none:=I.hok.fresh (K05 _)
theorem Inv.lstM (I:Inv X pins σ H s) (hH:H l=.(l xs)):xs.length<=sizeLine/\∃(its:List Value) (n:Nat),Vals xs its/\xs.length=its.length/\s.heap.get? l=some { cls:=.type "list",data:=.seq its.toArray n }:=by
 obtain⟨z,its,n,r,e⟩:=I.hok l _ hH;exact⟨z,its,n,r,r.length,e⟩
theorem z24 {n:Nat}(h:n<=sizeLine):K3d n=false:=by
 unfold K3d;exact decide_eq_false (by omega)
end
section
variable {X:Cx}
def z7q:V->List V->Hp->VK->Prop:=λx vs H Q=>∃l xs y,x=.ref l/\vs=[y]/\H l=.(l xs)/\xs.length<sizeLine/\Q .non (upd H l (.lst (xs++[y])))
theorem z2N:MtM X "list.append" z7q:=by
 intro pins s σ H x vs v us Q I rx rv h;obtain⟨l,xs,y,rfl,rfl,hH,hz,q⟩:=h;cases rx;obtain⟨u,rfl,ru⟩:=rv.one;obtain⟨z,its,n,r,hl,e⟩:=I.lstM hH;refine K28 F.slot_list_append ⟨_,e,rfl⟩ F.entry_list_append (F.args_list_append_2 _ _) (PySem.list_append l its.toArray n u (by rw[K8];omega)) ⟨e,?_⟩;refine⟨.non,_,I.lset (its':=its++[u]) hH e (by simp) (r.append (.cons ru .nil)) ?_,rfl,q⟩;rw[K01,K0l];omega
def z9l:V->List V->Hp->VK->Prop:=λx vs H Q=>∃l xs i k y,x=.ref l/\vs=[.int i]/\H l=.(l xs)/\-(2 ^ 63)<=i/\i<2 ^ 63/\K5v i xs.length=some k/\xs[k]?=some y/\Q y (upd H l (.lst (xs.eraseIdx k)))
theorem z5t:MtM X "list.pop" z9l:=by
 intro pins s σ H x vs v us Q I rx rv h;obtain⟨l,xs,i,k,y,rfl,rfl,hH,h1,h2,hk,hy,q⟩:=h;cases rx;obtain⟨u,rfl,ru⟩:=rv.one;obtain⟨t,rfl⟩:=ru;obtain⟨z,its,n,r,hl,e⟩:=I.lstM hH;obtain⟨w,hw,rw'⟩:=r.get hy;refine K28 F.slot_list_pop ⟨_,e,rfl⟩ F.entry_list_pop (F.args_list_pop_2 _ _)
  (MeetsSeq.list_pop_at l its.toArray n i t k w (fitsIndex_both h1 h2) (by rw[K8,<- hl];exact hk) (by rw[<- Array.getElem?_toList];exact hw) (by rw[K8];omega)) ⟨e,?_⟩
 refine⟨y,_,I.lset (its':=its.eraseIdx k) hH e ?_ (r.eraseIdx k) ?_,rw',q⟩
 ·show its.toArray.eraseIdxIfInBounds k=(its.eraseIdx k).toArray;rw[List.eraseIdxIfInBounds_toArray]
 ·have:=z2w xs k;omega
def rCat:R2:=λx y H Q=>∃l b xs zs,x=.ref l/\y=.ref b/\H l=.(l xs)/\H b=.(l zs)/\xs.length+zs.length<=sizeLine/\∀p,H p=none->Q (.ref p) (upd H p (.lst (xs++zs)))
theorem op_cat:OpR X (K2a .Add) rCat:=by
 intro pins s σ H x y v u Q I rx ry h;obtain⟨l,b,xs,zs,rfl,rfl,hH,hB,hz,q⟩:=h;cases rx;cases ry;obtain⟨z,its,n,r,hl,e⟩:=I.lstM hH;obtain⟨z2,its2,n2,r2,hl2,e2⟩:=I.lstM hB;refine PySem.P.add_list e e2 ?_ (by rw[K8,K8];omega);have ea:its.toArray++its2.toArray=(its++its2).toArray:=by simp
 rw[ea];exact⟨.ref _,_,I.lnew (t':=s.toks) (r.append r2) (by rw[K01];omega),rfl,q _ I.fresh⟩
def rRep:R2:=λx y H Q=>∃l k xs,x=.ref l/\y=.int k/\H l=.(l xs)/\-(2 ^ 63)<=k/\k<2 ^ 63/\xs.length * k.toNat<=sizeLine /\
 ∀p,H p=none->Q (.ref p) (upd H p (.lst (K07 k.toNat xs).flatten))
theorem len_rep {α:Type}(xs:List α) (k:Nat):(K07 k xs).flatten.length=k * xs.length:=by
 induction k with
 | zero=>simp
 | succ k ih=>rw[K1p,K24,K01,ih,K8g,Nat.add_comm]
theorem z9v:OpR X (K2a .Mult) rRep:=by
 intro pins s σ H x y v u Q I rx ry h;obtain⟨l,k,xs,rfl,rfl,hH,h1,h2,hz,q⟩:=h;cases rx;obtain⟨t,rfl⟩:=ry;obtain⟨z,its,n,r,hl,e⟩:=I.lstM hH;have hlen:its.toArray.size * k.toNat<=sizeLine:=by rw[K8,<- hl];exact hz
 have hcap:¬ its.toArray.size * k.toNat > (2 ^ 63 - 1) / 8:=by
  have:(sizeLine:Nat)<=(2 ^ 63 - 1) / 8:=by decide
  omega
 have hfit:¬ (!Builtin.List.listFitsIndex k)=true:=by
  rw[fitsIndex_both h1 h2];exact K0w
 have hlong:¬ K3d (its.toArray.size * k.toNat)=true:=by
  rw[z24 hlen];exact K0w
 have hnew:K40 (λx1 x2=>x1++x2) #[] (K07 (if its.toArray.isEmpty=true then 0 else k.toNat) its.toArray)=(K07 k.toNat its).flatten.toArray:=by
  have f0:∀m:Nat,K40 (λx1 x2=>x1++x2) #[] (K07 m its.toArray)=(K07 m its).flatten.toArray:=λm=>by
   have:=foldl_rep its m [];rw[K6q]at this;exact this
  rw[f0];cases its with
  | nil=>simp
  | cons a r'=>rw[if_neg (by simp)]
 refine K59 (T:="list") (U:="int") (by decide) ⟨_,e,rfl⟩ (λs'=>K42 s' k t) noFill_list_mul F.fills_int_mul F.slot_int_rmul repeat_list F.slot_int_index.lookup
  (K28 F.slot_int_rmul (K42 s k t) F.entry_int_rmul (F.args_int_rmul_2 _ _) (int___rmul___int_list k t l its.toArray n)
   ⟨e,rfl,⟨_,e,rfl⟩,K28 F.slot_list_mul ⟨_,e,rfl⟩ F.entry_list_mul (F.args_list_mul_2 _ _) (AutoListH.list___mul___list_int_3 l its.toArray n k t hfit hcap hlong) ⟨e,?_⟩⟩)
 rw[hnew];exact⟨.ref _,_,I.lnew (t':=s.toks) (r.rep k.toNat) (by rw[len_rep,K22];exact hz),rfl,q _ I.fresh⟩
end
section
variable {prog:K04}{w:World}{A:Around}{E:Value->Shared->Prop}{s:Shared}
theorem z3T {a c n:Nat}(hac:a<=c) (hc:c<=n):K2t (some (a:Int)) (some (c:Int)) none n=((a:Int),(c:Int),1):=by
 simp only[K2t,K5r];have h1:¬ ((a:Int)<0):=by omega
 have h2:¬ ((c:Int)<0):=by omega
 simp only[h1,h2,if_false,show (1:Int) > 0 by decide,if_true];congr 1
 ·omega
 ·congr 1;omega
set_option maxRecDepth 100000 in
theorem z5T {l b sl:Addr}{items new:Array Value}{n n2:Nat}{vl vu:Value}{a c:Nat}{Q:Unit->Shared->Prop}
 (e:s.heap.get? l=some { cls:=.type "list",data:=.seq items n }) (e2:s.heap.get? b=some { cls:=.type "list",data:=.seq new n2 }) (hne:l≠b)
 (hs:s.heap.IsSliceOf sl vl vu .none) (pl:IsPart vl (some (a:Int))) (pu:IsPart vu (some (c:Int))) (hac:a<=c) (hc:c<=items.size)
 (hsz:items.size+new.size<=sizeLine) (h:Q () { s with heap:=s.heap.update l (K4u λxs=>xs.extract 0 a++new++xs.extract c xs.size) }) :
 wpAny (model prog w) A (K9e (.ref l) (.ref sl) (.ref b)) Q E s:=by
 have hl:s.heap.IsList l items:=K8q e;have hb:s.heap.IsList b new:=K8q e2;obtain⟨os,hos,hcs,hds⟩:=id hs;have hTs:s.TypeIs (.ref sl) "slice":=⟨os,hos,hcs⟩;have hstep:¬ ((rawPart none==rawInt 0)=true):=K0w;have hsame:K5m (.ref l) (.ref b)=false:=by
  unfold K5m;exact beq_eq_false_iff_ne.mpr hne
 have hmax:(max (a:Int) (c:Int)).toNat=c:=by omega
 have hz':((λxs:Array Value=>xs.extract 0 a++new++xs.extract c xs.size) items).size<=sizeLine+1:=by
  simp only[Array.size_append,Array.size_extract];omega
 unfold K9e
 try with_reducible refine K1m ?_
 first|refine K1 (K4 ?_)|skip
 refine K1 (K5i hl.typeIs (by decide) ?_);refine K1 (K3p (name:=K4l "__setitem__") hl.typeIs slot_list_setitem
  (K60 slot_list_setitem hl.typeIs entry_list_setitem ?_ (args_list_setitem _ _ _)))
 show wpAny _ _ (K4n (.ref sl) >>= _) _ _ s;refine K1 ?_;unfold K4n;refine K1 (wpAny_specialOf hTs slice_no_index ?_);simp only[Option.isNone_none,if_true];refine K4 ?_;show wpAny _ _ (typeOf (.ref sl) >>= _) _ _ s;refine K1 (K3w hTs ?_)
 first
  | rw[if_neg (by decide)]
  | refine K4r (by decide) ?_
 rw[listSliceParts_eq];refine K1 (K1 (K49 hos hds (x:=.none) rfl (K1 (K7a .none ?_))));rw[if_neg hstep];refine K1 (K49 hos hds (x:=vl) rfl (K1 (K7a pl ?_)));refine K1 (K49 hos hds (x:=vu) rfl (K1 (K7a pu (K4 ?_))))
 first
  | simp only[hsame,K0x,if_false]
  | refine K4r hsame ?_
  | (dsimp only
     rw[if_neg (by rw[hsame];exact K0w)])
 refine K1 (m:=K56 (.ref b) "must assign iterable to extended slice") ?_;unfold K56;refine K1 (K3w hb.typeIs ?_)
 first
  | refine PySem.W.KFB.if_so (by decide) ?_
  | rw[if_pos (by decide)]
  | simp only[beq_self_eq_true,Bool.true_or,if_true]
 unfold Builtin.List.listItems;refine K1 (wpAny_seqItems e2 rfl (K4 ?_));refine K1 (K1 (wpAny_seqItems e rfl (K4 ?_)));refine K1 (wpAny_of_eq ((sliceIndices_raw (some (a:Int)) (some (c:Int)) none items.size (by simp)).trans (congrArg (pure:Int×Int×Int->Sem (Int×Int×Int)) (z3T hac hc))) ?_);show wpAny _ _ (if ((1:Int)==1)=true then _ else _) _ _ s;rw[if_pos (by decide)];refine K1 (K6b ?_)
 first
  | simp only[z24 hsz,K0x,if_false]
  | refine K4r (z24 hsz) ?_
 first|refine K1 (K4 ?_)|skip
 show wpAny _ _ (updateSeq l (λxs=>xs.extract 0 ((a:Int)).toNat++new++xs.extract (max (a:Int) (c:Int)).toNat xs.size) >>= _) _ _ s;rw[hmax,K5h];refine K1 (wpAny_updateSeq (hz:=K0b (Nat.le_add_right _ _) hsz) (_hz':=hz') e rfl ?_);refine K1 (wpAny_letGo ?_)
 first
  | exact K1 (K4 (K4 ⟨.none,rfl,K4 h⟩))
  | exact K4 ⟨.none,rfl,K4 h⟩
end
section
variable {X:Cx}
end
end L2
namespace Att
open PySem PySem.W PySem.Calls PyProof.Rows
theorem z1y {P:Params}{h:Heap}:∀(ns:List Int) (vs:List Value),WellAll P h vs (ns.map WData.int)->K9f vs ns:=by
 intro ns;induction ns with
 | nil =>
  intro vs w;rw[K65]at w;cases w;exact .nil
 | cons n ns ih =>
  intro vs w;rw[K0z]at w;cases w with
  | cons a b =>
   cases a;exact .cons _ _ (ih _ b)
theorem z4L {l:OpenLaw}{n:Nat}(hn:l.most=some n) {P:Params}{h:Heap}{args:List WData}{vals:List Value}
 (hpre:l.row.toRowW.claim.pre args=true) (hwl:WellAll P h vals args) :
 ∃a vs ns,vals=[K0e a]/\args=[WData.list (ns.map WData.int)]/\h.get? a=some { cls:=.type "list",data:=.seq vs.toArray }/\K9f vs ns/\ns.length<=n:=by
 have hsh:WShape.hasAll [] args [.list .int]=true:=(pre_splitW hpre).1;have hc:l.pre.holds [] { args:=args }=true:=(pre_splitW hpre).2;obtain⟨d,r,rfl,h1,h2⟩:=hasAllW_cons hsh;obtain rfl:=hasAllW_nil h2;obtain⟨xs,rfl,h3⟩:=hasW_list h1;obtain⟨ns,rfl⟩:=items_int h3;have hlen:ns.length<=n:=by
  unfold OpenLaw.pre at hc;have h4:(WTm.not (.lt (.lit (.int (n:Int))) (.len (.arg 0)))).holds [] { args:=[.list (ns.map .int)] }=true:=by
   have h4:=(holds_andW hc).1;rw[hn]at h4;exact h4
  have h5:=condW_of h4 (w_not (w_lt w_lit (w_len_list (w_arg rfl))));rw[K1g]at h5;refine Nat.le_of_not_lt λq=>?_;have q':(n:Int)<((ns.length:Nat):Int):=by omega
  first
   | (rw[decide_eq_true q']at h5;exact absurd h5 (by decide))
   | (simp at h5;omega)
 cases hwl with
 | cons w1 w2 =>
  cases w2;cases w1 with
  | list ho hall=>exact⟨_,_,ns,rfl,rfl,ho,z1y ns _ hall,hlen⟩
theorem z4m (l:OpenLaw) (args:List WData):l.row.toRowW.claim.post args (.bool true) args=true :=
 postW_of (r:=l.row.toRowW) (X:=(true==true))
  (show WShape.has [] (.bool true) .bool=true by first|rfl|decide|simp[WShape.has,WShape.arms,WShape.armsAll])
  (show (WTm.eq .res (.lit (.bool true))).value [] { args:=args,res:=some (.bool true),after:=args }=some (.bool (true==true)) from w_eq_bool (w_res rfl) w_lit) rfl
theorem attach_call {l:OpenLaw}{n:Nat}{q:K04}{loose:List Str}{XP:(Str->Option Value)->Heap->Prop}{YP:World->Heap->Prop}{d:DefRec}
 (hn:l.most=some n) (hdf:d.params.defaults=[])
 (call:∀(w:World) (s₀ s₁:Shared) (mg mb:Str->Option Value) (fa:Addr) (o:Obj) (pm cd doc:Value) (a:Addr) (vs:List Value) (ns:List Int),
  Ground q loose [] XP w s₀ mg mb s₁.heap->YP w s₁.heap ->
  s₁.heap.get? fa=some o->o.data=.func (docDef d.name d.params d.body d.scope pm cd doc)->s₁.heap.CodeRec cd d.name->mg d.name=.(r fa) ->
  s₁.heap.get? a=some { cls:=.type "list",data:=.seq vs.toArray }->K9f vs ns->ns.length<=n->s₁.gens = #[] ->
  K45 (model l.prog w) K6a (.call (.ref fa) ⟨[.ref a],[]⟩) (λr s'=>r=.ok (.ret (.bool true))/\OldK s₁.heap s'.heap/\s'.os=s₁.os/\K4p s'.gens) s₁) :
 WalkO q loose XP YP l.row.toRowW d [] (λf vs=>K9g f vs):=by
 intro w s₀ s₁ mg mb G Y fa o pm cd doc dV kV ho hd hcd hD hmg hg args vals as hpre hlay hrd hwl hlo;obtain rfl:dV=.none:=Dflts.none hD hdf;obtain rfl:kV=.none:=Dflts.noKw hD;obtain⟨a,vs,ns,rfl,rfl,hobj,hints,hlen⟩:=z4L hn hpre hwl;refine enter_call (K3x (call w s₀ s₁ mg mb fa o pm cd doc a vs ns G Y ho (fd_plain hd) hcd hmg hobj hints hlen hg) λr s' hq=>?_);obtain⟨rfl,h2,h3,h4⟩:=hq;exact⟨.inl ⟨.bool true,.bool true,[],rfl,λ_=>rfl,.bool true,z4m l _,λ_=>⟨List.Pairwise.nil,λ_ hm=>(nomatch hm)⟩⟩,h2,h3,h4⟩
section
variable {prog:K04}{w:World}{A:Around}{E:Value->Shared->Prop}{s:Shared}{K:Frag}
end
end Att
namespace L2
theorem z2t:∀{vs:List Value}{ns:List Int},K9f vs ns->Vals (ns.map V.int) vs
 | _,_,.nil=>.nil
 | _,_,.cons n t h=>.cons ⟨t,rfl⟩ (z2t h)
def Only (H:Hp):Prop:=∀b,H b=none\/∃o xs,H b=some (.frz o (.lst xs))
theorem z5x {P:K04}{w:World}{K:K0}{mg mb:Str->Option Value}{CX:CXT}{k:Nat}{fa a:Addr}{fd:K1i}{x:Str}{sp:Sp}{s₁:Shared}{vs:List Value}{ns:List Int}
 (KX:K.In s₁.heap) (hns:s₁.heap.Ns K17 mg) (hb:s₁.heap.Ns builtinsNs mb) (hbb:∀x:Str,x≠"__name__"->mb x=K3a x) (hlim:s₁.heap.NoLimit) (hg:s₁.gens = #[])
 (ha:s₁.heap.get? a=some { cls:=.type "list",data:=.seq vs.toArray }) (hi:K9f vs ns) (hl:ns.length<=sizeLine) (hr:Room k K6a)
 (F:∀base:Heap,K.In base->base.Ns K17 mg->FnOk P w K mg base CX k fa fd [x] sp) (hbind:∀(s:Shared) (u:Value),K7j s fd ⟨[u],[]⟩ [(x,u)])
 (hsp:∀H:Hp,Only H->SqL K H a (ns.map V.int)->sp [.ref a] H (λv _=>v=.bl true) λ_ _ _=>False)
 (hCX:∀H e s',CX [] H s₁ (λ_ _ _=>False) e s'->False) :
 K45 (model P w) K6a (.call (.ref fa) ⟨[.ref a],[]⟩) (λr s'=>r=.ok (.ret (.bool true))/\OldK s₁.heap s'.heap/\s'.os=s₁.os/\K4p s'.gens) s₁:=by
 have rv:=z2t hi;have lenV:=hi.length;have core:∀H:Hp,Only H->SqL K H a (ns.map V.int)->HOk P w H s₁.heap->(∀b,H b≠none->b=a)->(H a≠none->K.lookup a=none) ->
  K45 (model P w) K6a (.call (.ref fa) ⟨[.ref a],[]⟩) (λr s'=>r=.ok (.ret (.bool true))/\OldK s₁.heap s'.heap/\s'.os=s₁.os/\K4p s'.gens) s₁:=by
  intro H hO hS hok hA hK;have base_of:∀{b:Addr} {o:Obj},s₁.heap.get? b=some o->H b=none->(hidT s₁.heap H).get? b=some o:=λe n=>z5q e n;have noA:∀{b:Addr} {o:Obj} {es:Array DictEntry} {ep:Nat},s₁.heap.get? b=some o->o.data=.dict es ep->H b=none:=λ{b o es ep} e d=>by
   cases q:H b with
   | none=>rfl
   | some u =>
    have e':b=a:=hA b (by rw[q];simp);subst e';rw[ha]at e;cases e;have d':Data.seq vs.toArray _=Data.dict es ep:=d;cases d'
  have nsK:∀{b:Addr} {m:Str->Option Value},s₁.heap.Ns b m->(hidT s₁.heap H).Ns b m:=λ{b m} ⟨o,es,ep,e,d,r⟩=>⟨o,es,ep,base_of e (noA e d),d,r⟩;have hKb:K.In (hidT s₁.heap H):=λb o e=>base_of (KX b o e) (by
   cases q:H b with
   | none=>rfl
   | some u =>
    have e':b=a:=hA b (by rw[q];simp);subst e';rw[hK (by rw[q];simp)]at e;cases e)
  have hM:Mod K mg (hidT s₁.heap H):=⟨hKb,nsK hns,⟨mb,nsK hb,hbb⟩,let ⟨mc,h1,h2⟩:=hlim;⟨mc,nsK h1,h2⟩⟩;have e0:Env0 P w K mg (hidT s₁.heap H) K6a [] s₁ H:=⟨rfl,hM,λb o e=>z8d e,K39 (z49 _ _),trivial,λb hb=>absurd (show b∈([]:List Addr) from hb) (by simp),hok,.of_eq hg⟩;refine K3x ((F _ hKb (nsK hns)).run K6a [] s₁ H ⟨[.ref a],[]⟩ [.ref a] [.ref a] _ _ hr e0 (hbind s₁ (.ref a)) (.cons rfl .nil) (hsp H hO hS)) λr s' h=>?_;cases r with
  | error e=>exact(hCX H e s' h).elim
  | ok fl =>
   cases fl with
   | next=>exact K15 h
   | brk=>exact K15 h
   | cont=>exact K15 h
   | ret u =>
    obtain⟨v,H',os,bare,un,hok',r',q⟩:=h;have q':v=.bl true:=q;subst q';obtain rfl:u=K2n true:=r';refine⟨rfl,OldK.of_keep λb o e=>?_,os,bare⟩;cases q:H b with
    | none=>exact un.keep b o e q (by intro z;exact absurd (show b∈([]:List Addr) from z) (by simp)) (by simp)
    | some u =>
     rcases hO b with z|⟨ob,xs,z⟩
     ·rw[q]at z;cases z
     ·have z2:=un.frzs b ob _ z;obtain⟨e1,_⟩:=hok b _ z;obtain⟨e2,_⟩:=hok' b _ z2;rw[e]at e1;cases e1;exact e2
 cases hk:K.lookup a with
 | some o =>
  have e:=KX a o hk;rw[ha]at e;cases e;refine core (λ_=>none) (λ_=>.inl rfl) (.inr ⟨_,vs.toArray,_,hk,rfl,rfl,rfl,by rw[K8,lenV];exact hl,by simpa using rv⟩) (λb u z=>by have z':(none:Option HO)=some u:=z;cases z') (λb z=>absurd rfl z) λz=>absurd rfl z
 | none =>
  refine core (λb=>if b=a then some (.frz { cls:=.type "list",data:=.seq vs.toArray } (.lst (ns.map V.int))) else none) (λb=>?_) (.inl (.inr ⟨{ cls:=.type "list",data:=.seq vs.toArray },if_pos rfl⟩)) (λb u z=>?_) (λb z=>?_) λ_=>hk
  ·by_cases hb:b=a
   ·exact .inr ⟨_,_,if_pos hb⟩
   ·exact .inl (if_neg hb)
  ·by_cases hb:b=a
   ·have z':=(if_pos hb).symm.trans z;cases z';subst hb;exact⟨ha,by rw[K1g];exact hl,vs,_,rv,ha⟩
   ·have z':=(if_neg hb).symm.trans z;cases z'
  ·by_cases hb:b=a
   ·exact hb
   ·exact absurd (if_neg hb) z
abbrev KOf {K:K0} {h:Heap} (_:K.In h):K0:=K
theorem walk_of {l:K97}{n k:Nat}{q:K04}{loose:List Str}{XP:(Str->Option Value)->Heap->Prop}{YP:World->Heap->Prop}{d:DefRec}{K:Params->K0}{CX:World->CXT}{sp:World->Sp}{x:Str}
 (hn:l.most=some n) (hn2:n<=sizeLine) (hdf:d.params.defaults=[]) (hr:Room k K6a)
 (hY:∀(w:World) (h:Heap),YP w h->(K w.params).In h)
 (F:∀(w:World) (mg:Str->Option Value) (fa:Addr) (h:Heap),(K w.params).In h->h.Ns K17 mg->mg d.name=.(r fa) ->
  ∃fd:K1i,(∀(s:Shared) (u:Value),K7j s fd ⟨[u],[]⟩ [(x,u)]) /\
   ∀base:Heap,(K w.params).In base->base.Ns K17 mg->FnOk l.prog w (K w.params) mg base (CX w) k fa fd [x] (sp w))
 (hsp:∀(w:World) (H:Hp) (a:Addr) (ns:List Int),ns.length<=n->Only H->SqL (K w.params) H a (ns.map V.int)->sp w [.ref a] H (λv _=>v=.bl true) λ_ _ _=>False)
 (hCX:∀(w:World) (H:Hp) (s:Shared) (e:Value) (s':Shared),CX w [] H s (λ_ _ _=>False) e s'->False) :
 K9l q loose XP YP l.row.toRowW d [] (λf vs=>K9g f vs):=by
 refine Att.attach_call hn hdf λw s₀ s₁ mg mb fa o pm cd doc a vs ns G Y ho hd hcd hmg hobj hints hlen hg=>?_;have KX:=hY w _ Y;obtain⟨fd,hb,hF⟩:=F w mg fa _ KX G.T.g hmg;exact z5x KX G.T.g G.T.b G.T.builtins G.T.nolimit hg hobj hints (K0b hlen hn2) hr hF hb (λH hO hS=>hsp w H a ns hlen hO hS) λH e s'=>hCX w H s₁ e s'
def inClass (s:Stmt) (j:Nat):Stmt:=match s with
 | .ClassDef _ _ _ body _ _ _ _ _ _ _=>body.getD j (.Pass ⟨0,0,0,0⟩)
 | _=>.Pass ⟨0,0,0,0⟩
def z0c (s:Stmt):Arguments:=match s with
 | .FunctionDef _ a _ _ _ _ _ _ _ _=>a
 | _=>{ posonlyargs:=[],args:=[],vararg:=none,kwonlyargs:=[],kw_defaults:=[],kwarg:=none,defaults:=[] }
def k7 (s:Stmt):List Stmt:=match s with
 | .FunctionDef _ _ b _ _ _ _ _ _ _=>b
 | _=>[]
def Z3 (s:Stmt):Scope:=match s with
 | .FunctionDef _ _ _ _ _ _ sc _ _ _=>sc
 | _=>{ kind:=.function,names:=[],isGenerator:=false,isCoroutine:=false }
abbrev CX0:CXT:=λ_ _ _ _ _ _=>False
abbrev E0:XK:=λ_ _ _=>False
theorem z9b {X:Cx}:z1R CX0 X E0:=λ_ _ _ _ _ _ _ h=>h.elim
structure Fun (K:K0) (x qual:Str) (st:Stmt) (f:Addr) (fd:K1i):Prop where
 ex:∃(oc:Value) (od:Option Addr) (kV doc pm:Value) (an:Option Addr) (cdv ct:Value) (osl:Array (Option Value)),
  fd=K1x x qual (z0c st) (k7 st) (Z3 st) .none kV doc pm an cdv ct/\K.lookup f=some ⟨oc,od,.func fd,osl⟩/\K1y K cdv qual=true
 kp:K19 K (.ref f)=true
section
variable {P:K04}{w:World}{K:K0}{mg:Str->Option Value}{base:Heap}
theorem Fun.ok {x qual:Str}{st:Stmt}{f:Addr}{fd:K1i}{N ps:List Str}{k:Nat}{sp:Sp}(F:Fun K x qual st f fd) (S:FnScope N ps (Z3 st)) (len:∀vs H Q E,sp vs H Q E->vs.length=ps.length)
 (hbody:∀(cdv:Value) (A:Around) (outer:List Env) (s:Shared) (H:Hp) (vs:List V) (Q:VK) (E:XK),Room k (A.deeper (envOfC qual (Z3 st) s.heap.objs.size f cdv))->sp vs H Q E ->
  ∃t,PSs (cxOf CX0 P w K mg base N qual (Z3 st) f cdv A outer s H E).nox (k7 st) t/\t { nx:=λ_ H'=>Q .non H',rt:=Q } (start N vs) H):FnOk P w K mg base CX0 (k+1) f fd ps sp:=by
 obtain⟨oc,od,kV,doc,pm,an,cdv,ct,osl,rfl,lk,hcd⟩:=F.ex;refine z5H lk hcd S len λA outer s H vs Q E hr hsp=>?_;obtain⟨t,h,q⟩:=hbody cdv A outer s H vs Q E hr hsp;exact⟨t,h.nox,q⟩
theorem Fun.binds {x qual:Str}{st:Stmt}{f:Addr}{fd:K1i}{ps:List Str}(F:Fun K x qual st f fd)
 (h:∀(kV doc pm:Value) (an:Option Addr) (cdv ct:Value) (us:List Value),us.length=ps.length->K8j (K1x x qual (z0c st) (k7 st) (Z3 st) .none kV doc pm an cdv ct) ⟨us,[]⟩=pure (ps.zip us)):Binds K fd ps []:=by
 obtain⟨oc,od,kV,doc,pm,an,cdv,ct,osl,rfl,lk,hcd⟩:=F.ex;exact .all (h kV doc pm an cdv ct)
theorem z6M {x qual:Str}{st:Stmt}{f:Addr}{oc:Value}{od an:Option Addr}{osl:Array (Option Value)}{kV doc pm cdv ct:Value}(l:K.lookup f=some ⟨oc,od,.func (K1x x qual (z0c st) (k7 st) (Z3 st) .none kV doc pm an cdv ct),osl⟩)
 (c:K1y K cdv qual=true) (k:K19 K (.ref f)=true):Fun K x qual st f (K1x x qual (z0c st) (k7 st) (Z3 st) .none kV doc pm an cdv ct):=⟨⟨oc,od,kV,doc,pm,an,cdv,ct,osl,rfl,l,c⟩,k⟩
end
section
variable {X:Cx}
end
def Same (H H':Hp):Prop:=∀b o,H b=some o->H' b=some o
theorem Same.refl (H:Hp):Same H H:=λ_ _ h=>h
theorem Same.trans {H H1 H2:Hp}(a:Same H H1) (b:Same H1 H2):Same H H2:=λc o h=>b c o (a c o h)
theorem Same.free {H H':Hp}(e:Same H H') {l:Addr}(h:H' l=Option.none):H l=Option.none:=by
 cases q:H l with
 | none=>rfl
 | some o =>
  rw[e l o q]at h;cases h
theorem Same.seq {K:K0}{H H':Hp}{a:Addr}{xs:List V}(e:Same H H') (h:SqL K H a xs):SqL K H' a xs:=by
 rcases h with (h|⟨o,h⟩)|h
 ·exact .inl (.inl (e _ _ h))
 ·exact .inl (.inr ⟨o,e _ _ h⟩)
 ·exact .inr h
section
variable {κ:Type} [DecidableEq κ]
def valV (kvs:List (κ×V)) (k:κ):Option V:=(kvs.find? λkv=>decide (kv.1=k)).map (·.2)
def putK (kvs:List (κ×V)) (k:κ) (v:V):List (κ×V) :=
 if (kvs.any λkv=>decide (kv.1=k))=true then kvs.map (λkv=>if kv.1=k then (kv.1,v) else kv) else kvs++[(k,v)]
def z9K (kvs:List (κ×V)) (k:κ):List (κ×V):=kvs.filter λkv=>decide (kv.1≠k)
theorem z2h {p:κ×V}{r:List (κ×V)}{k:κ}(e:p.1=k):valV (p::r) k=some p.2:=by simp[valV,K26,e]
theorem z1Y {p:κ×V}{r:List (κ×V)}{k:κ}(e:¬ p.1=k):valV (p::r) k=valV r k:=by simp[valV,K26,e]
theorem RelO.getD {o:Option V}{u:Option Value}{d:V}{d':Value}(r:RelO o u) (rd:RelV d d'):RelV (o.getD d) (u.getD d'):=by
 cases o with
 | none=>cases u with
  | none=>exact rd
  | some _=>exact(show False from r).elim
 | some _=>cases u with
  | none=>exact(show False from r).elim
  | some _=>exact r
theorem KV.val {kvs:List (κ×V)}{vs:List (κ×Value)}(r:KV kvs vs) (k:κ):RelO (valV kvs k) (K8h vs k):=by
 unfold KV at r;induction r with
 | nil=>exact K34
 | @cons p q ps qs h t ih =>
  obtain⟨h1,h2⟩:=h;by_cases e:p.1=k
  ·have e':q.1=k:=h1.symm.trans e;have b:K8h (q::qs) k=some q.2:=by simp[K8h,K26,e']
   rw[z2h e,b];exact h2
  ·have e':¬ q.1=k:=λz=>e (h1.trans z);have b:K8h (q::qs) k=K8h qs k:=by simp[K8h,K26,e']
   rw[z1Y e,b];exact ih
theorem KV.any {kvs:List (κ×V)}{vs:List (κ×Value)}(r:KV kvs vs) (k:κ):(kvs.any λkv=>decide (kv.1=k))=vs.any λkv=>decide (kv.1=k):=by
 unfold KV at r;induction r with
 | nil=>rfl
 | cons h t ih=>rw[K5l,K5l,ih,h.1]
theorem KV.drop {kvs:List (κ×V)}{vs:List (κ×Value)}(r:KV kvs vs) (k:κ):KV (z9K kvs k) (without vs k):=by
 unfold KV at r ⊢;unfold z9K without;induction r with
 | nil=>exact .nil
 | @cons p q ps qs h t ih =>
  obtain⟨h1,h2⟩:=h;rw[K41,K41];by_cases e:p.1=k
  ·have a:¬ decide (p.1≠k)=true:=by simp[e]
   have b:¬ decide (q.1≠k)=true:=by simp[h1.symm.trans e]
   rw[if_neg a,if_neg b];exact ih
  ·have e':¬ q.1=k:=λz=>e (h1.trans z);have a:decide (p.1≠k)=true:=by simp[e]
   have b:decide (q.1≠k)=true:=by simp[e']
   rw[if_pos a,if_pos b];exact .cons ⟨h1,h2⟩ ih
theorem KV.length {kvs:List (κ×V)}{vs:List (κ×Value)}(r:KV kvs vs):kvs.length=vs.length:=K43 r
end
abbrev KT (H:Hp):List (List Key×V)->List (List Key×Addr×Value)->Prop:=Paired λp q=>p.1=q.1/\H q.2.1=.(g (p.1.map kV))/\RelV p.2 q.2.2
theorem KT.val {H:Hp}{kvs:List (List Key×V)}{xs:List (List Key×Addr×Value)}(r:KT H kvs xs) (k:List Key):RelO (valV kvs k) ((atKey xs k).map (·.2)):=by
 induction r with
 | nil=>exact K34
 | @cons p q ps qs h t ih =>
  obtain⟨h1,_,h2⟩:=h;by_cases e:p.1=k
  ·have e':q.1=k:=h1.symm.trans e;have b:atKey (q::qs) k=some q.2:=by simp[atKey,K26,e']
   rw[z2h e,b];exact h2
  ·have e':¬ q.1=k:=λz=>e (h1.trans z);have b:atKey (q::qs) k=atKey qs k:=by simp[atKey,K26,e']
   rw[z1Y e,b];exact ih
theorem KT.keeps {H H':Hp}{kvs:List (List Key×V)}{xs:List (List Key×Addr×Value)}(r:KT H kvs xs) (ht:∀b ys,H b=.(g ys)->H' b=.(g ys)):KT H' kvs xs :=
 Paired.mapP r λ_ _ z=>⟨z.1,ht _ _ z.2.1,z.2.2⟩
section
variable {P:K04}{w:World}{H:Hp}{h:Heap}{a:Addr}
end
def DGet (H:Hp) (a:Addr) (y:V) (r:Option V):Prop :=
 (∃kvs k,Rd H a (.dK kvs)/\y=kV k/\r=valV kvs k)\/∃kvs k b,Rd H a (.dT kvs)/\y=.ref b/\H b=.(g (k.map kV))/\r=valV kvs k
def DPut (H:Hp) (a:Addr) (y v:V) (H':Hp):Prop :=
 (∃kvs k,H a=some (.dK kvs)/\y=kV k/\kvs.length<sizeLine/\H'=upd H a (.dK (putK kvs k v))) \/
 ∃kvs k b,H a=some (.dT kvs)/\y=.ref b/\H b=.(g (k.map kV))/\kvs.length<sizeLine/\H'=upd H a (.dT (putK kvs k v))
theorem DGet.k {H:Hp}{a:Addr}{kvs:List (Key×V)}{k:Key}(e:H a=some (.dK kvs)):DGet H a (kV k) (valV kvs k):=.inl ⟨kvs,k,.inl e,rfl,rfl⟩
theorem DGet.t {H:Hp}{a b:Addr}{kvs:List (List Key×V)}{k:List Key}(e:H a=some (.dT kvs)) (eb:H b=.(g (k.map kV))):DGet H a (.ref b) (valV kvs k):=.inr ⟨kvs,k,b,.inl e,rfl,eb,rfl⟩
theorem DPut.k {H:Hp}{a:Addr}{kvs:List (Key×V)}{k:Key}{v:V}(e:H a=some (.dK kvs)) (hl:kvs.length<sizeLine):DPut H a (kV k) v (upd H a (.dK (putK kvs k v))):=.inl ⟨kvs,k,e,rfl,hl,rfl⟩
theorem DPut.t {H:Hp}{a b:Addr}{kvs:List (List Key×V)}{k:List Key}{v:V}(e:H a=some (.dT kvs)) (eb:H b=.(g (k.map kV))) (hl:kvs.length<sizeLine) :
 DPut H a (.ref b) v (upd H a (.dT (putK kvs k v))):=.inr ⟨kvs,k,b,e,rfl,eb,hl,rfl⟩
section
variable {X:Cx}{pins:List (Addr×Obj)}{σ:St}{H:Hp}{s:Shared}{a:Addr}{y v:V}{u r:Value}{o:Option V}{A:Around}{E:Value->Shared->Prop}
theorem Inv.big (I:Inv X pins σ H s):K6c<s.heap.objs.size:=by
 have h:K17<s.heap.objs.size:=(I.mod.glob.keeps I.bk).lt;exact Nat.lt_trans (by decide) h
end
section
variable {X:Cx}{pins:List (Addr×Obj)}{σ:St}{H:Hp}{s:Shared}{a:Addr}{kvs:List (Key×V)}{k:Key}{u:Value}{A:Around}{E:Value->Shared->Prop}
end
section
variable {X:Cx}{o i e value:Expr}{pos pos' tpos:Pos}{td ty tv:TE}
end
section
variable {X:Cx}{pos:Pos}
end
structure M1 (X:Cx) (o:Expr) (m:Str) (apos:Pos) (e:Expr) (cpos:Pos):Prop where
 base:K2e o m X.env (eval o X.env)=eval o X.env
 few:((backTo cpos (K7 [e] X.env)).all (λx=>!x.1)&&(K47 cpos (K2u [] X.env)).all (λx=>x.1.isSome)
 &&decide (([e]:List Expr).length+([]:List K2q).length+(if ([]:List K2q).isEmpty then 0 else 1)<30))=true
 line:(apos.endLine==cpos.line)=true
 trees:backTo cpos (K7 [e] X.env)=[(false,eval e X.env)]
structure M2 (X:Cx) (o:Expr) (m:Str) (apos:Pos) (e f:Expr) (cpos:Pos):Prop where
 base:K2e o m X.env (eval o X.env)=eval o X.env
 few:((backTo cpos (K7 [e,f] X.env)).all (λx=>!x.1)&&(K47 cpos (K2u [] X.env)).all (λx=>x.1.isSome)
 &&decide (([e,f]:List Expr).length+([]:List K2q).length+(if ([]:List K2q).isEmpty then 0 else 1)<30))=true
 line:(apos.endLine==cpos.line)=true
 trees:backTo cpos (K7 [e,f] X.env)=[(false,eval e X.env),(false,eval f X.env)]
section
variable {X:Cx}{pins:List (Addr×Obj)}{σ:St}{H:Hp}{s:Shared}{a:Addr}{y d:V}{u r:Value}{o:Option V}{A:Around}{E:Value->Shared->Prop}
end
section
variable {X:Cx}{o e f:Expr}{apos cpos:Pos}{td ty tx:TE}
end
abbrev z3j (ifs:List Expr) (env:Env):Sem Bool :=
 forIn ifs true λc r=>if r=true then do { let ok <- isTrue c env (eval c env);pure (K2v ok) } else pure (K2v r)
def J5 (env:Env):List (Str×K3r)->List (Str×Addr)->List (Str×Addr)
 | [],acc=>acc
 | (n,k)::r,acc=>J5 env r (if k==.free then match env.cells.lookup n with|some c=>(n,c)::acc|none=>acc else acc)
theorem z0X {env:Env}:∀(names:List (Str×K3r)) (acc:List (Str×Addr)),(∀x∈names,x.2=.free->∃c,env.cells.lookup x.1=some c) ->
 (forIn names acc λ(x:Str×K3r) (r:List (Str×Addr))=>(if (x.2==K2z)=true then do { let c <- cellOf env x.1;pure (K2v ((x.1,c)::r)) } else pure (K2v r):Sem (ForInStep (List (Str×Addr)))))=(pure (J5 env names acc):Sem _)
 | [],acc,_=>by rw[K76];rfl
 | (n,k)::r,acc,h=>by
  rw[K6r];have hr:∀x∈r,x.2=.free->∃c,env.cells.lookup x.1=some c:=λx hx=>h x (K0c _ hx);by_cases hk:k=.free
  ·subst hk;obtain⟨c,hc⟩:=h (n,.free) K0v rfl;have hc':env.cells.lookup n=some c:=hc;simp only[J5,beq_self_eq_true,if_true,cellOf,hc',pure_bind];exact z0X r _ hr
  ·have hb:(k==K2z)=false:=by simpa using hk
   simp only[J5,hb,K0x,if_false,pure_bind];exact z0X r _ hr
theorem z0H {scope:Scope}{env:Env}(h:∀x∈scope.names,x.2=.free->∃c,env.cells.lookup x.1=some c) :
 closureFor scope env=pure (J5 env scope.names []):=by
 unfold closureFor;exact congrArg (λm:Sem (List (Str×Addr))=>m >>= λz=>pure z) (z0X scope.names [] h)
theorem z3J {env:Env}:∀(names:List (Str×K3r)) (acc:List (Str×Addr)) {x:Str}{c:Addr},(J5 env names acc).lookup x=some c ->
 env.cells.lookup x=some c\/acc.lookup x=some c
 | [],acc,x,c,h=>.inr h
 | (n,k)::r,acc,x,c,h=>by
  rcases z3J r _ h with q|q
  ·exact .inl q
  ·by_cases hk:(k==K2z)=true
   ·rw[if_pos hk]at q;cases e:env.cells.lookup n with
    | none=>rw[e]at q;exact .inr q
    | some c' =>
     rw[e]at q;simp only[K11]at q;cases hx:x==n with
     | true =>
      rw[hx]at q;cases q;have:x=n:=by simpa using hx
      subst this;exact .inl e
     | false=>rw[hx]at q;exact .inr q
   ·rw[if_neg hk]at q;exact .inr q
theorem z3o {env:Env}{x:Str}{c:Addr}(hc:env.cells.lookup x=some c):∀(names:List (Str×K3r)) (acc:List (Str×Addr)),
 acc.lookup x=some c->(J5 env names acc).lookup x=some c
 | [],acc,h=>h
 | (n,k)::r,acc,h=>by
  refine z3o hc r _ ?_;by_cases hk:(k==K2z)=true
  ·rw[if_pos hk];cases e:env.cells.lookup n with
   | none=>exact h
   | some c' =>
    simp only[K11];cases hx:x==n with
    | true =>
     have:x=n:=by simpa using hx
     subst this;rw[hc]at e;exact e.symm
    | false=>exact h
  ·rw[if_neg hk];exact h
theorem z3d {env:Env}{x:Str}{c:Addr}(hc:env.cells.lookup x=some c):∀(names:List (Str×K3r)) (acc:List (Str×Addr)),
 (x,K2z)∈names->(J5 env names acc).lookup x=some c
 | [],_,h=>absurd h (by simp)
 | (n,k)::r,acc,h=>by
  rcases K1c.mp h with e|h
  ·cases e;refine z3o hc r _ ?_;rw[if_pos (by simp),hc];simp[K11]
  ·exact z3d hc r _ h
theorem z0E {sc:Scope}{env:Env}{x:Str}{k:NameKind}(h:(relabel sc env).names.lookup x=some k) :
 ∃k0,sc.names.lookup x=some k0/\(k=k0\/(k=.cell/\k0=.free)):=by
 unfold relabel at h;dsimp only at h;generalize sc.names=ns at h ⊢;induction ns with
 | nil=>simp at h
 | cons a r ih =>
  obtain⟨n,k1⟩:=a;simp only[K0z]at h;by_cases hc:(k1==K2z&&env.scope.kind==.function&&env.kindOf n==some .cell)=true
  ·rw[if_pos hc]at h;simp only[K11]at h ⊢;cases hx:x==n with
   | true =>
    rw[hx]at h;cases h;refine⟨k1,rfl,.inr ⟨rfl,?_⟩⟩;simp only[K06]at hc;simpa using hc.1.1
   | false=>rw[hx]at h;exact ih h
  ·rw[if_neg hc]at h;simp only[K11]at h ⊢;cases hx:x==n with
   | true=>rw[hx]at h;cases h;exact⟨_,rfl,.inl rfl⟩
   | false=>rw[hx]at h;exact ih h
theorem z2T {sc:Scope}{env:Env}{x:Str}(h:sc.names.lookup x=some .free) :
 (relabel sc env).names.lookup x=some .cell\/(relabel sc env).names.lookup x=some .free:=by
 unfold relabel;dsimp only;generalize sc.names=ns at h ⊢;induction ns with
 | nil=>simp at h
 | cons a r ih =>
  obtain⟨n,k1⟩:=a;simp only[K0z];simp only[K11]at h;by_cases hc:(k1==K2z&&env.scope.kind==.function&&env.kindOf n==some .cell)=true
  ·rw[if_pos hc];simp only[K11];cases hx:x==n with
   | true=>exact .inl rfl
   | false=>rw[hx]at h;exact ih h
  ·rw[if_neg hc];simp only[K11];cases hx:x==n with
   | true=>rw[hx]at h;exact .inr h
   | false=>rw[hx]at h;exact ih h
structure CS (X:Cx) (sc:Scope) (N':List Str) (cap:List (Option Nat)):Prop where
 kind:sc.kind=.function
 nocell:∀y∈sc.names,y.2≠.cell
 loc:∀x∈sc.names,x.2=.local->sc.names.lookup x.1=some .local
 fr:∀x∈sc.names,x.2=.free->X.env.kindOf x.1=some .cell\/X.env.kindOf x.1=some .free
 len:cap.length=N'.length
 capt:∀(i j:Nat),cap[i]?=some (some j)->∃x,N'[i]?=some x/\X.N[j]?=some x/\sc.names.lookup x=some .free
def z1s (cap:List (Option Nat)) (σ:St):St:=cap.map λo=>match o with|some j=>(σ[j]?).join|none=>none
def Cx.comp (X:Cx) (N':List Str) (sc:Scope) (s:Shared) (H:Hp) (fp:List Addr) (xe:Value->Shared->Prop):Cx :=
 { X with N:=N',s₀:=s,H₀:=H,env:=compEnvC sc (J5 X.env sc.names []) s.heap.objs.size X.env,outer:=X.stack,stack:=X.stack,ex:=fp,fn:=λ_=>false,pn:=[],xe:=xe }
section
variable {X:Cx}{pins:List (Addr×Obj)}{σ:St}{H:Hp}{s:Shared}{sc:Scope}{N':List Str}{cap:List (Option Nat)}{fp:List Addr}{xe:Value->Shared->Prop}{h':Heap}
theorem CS.cells (S:CS X sc N' cap) (I:Inv X pins σ H s):∀x∈sc.names,x.2=.free->∃c,X.env.cells.lookup x.1=some c:=λx hx hf =>
 I.ok.has x.1 (S.fr x hx hf)
theorem Inv.compIn {t:Nat}(I:Inv X pins σ H s) (S:CS X sc N' cap) (hf:∀b∈fp,FpOk X pins H b) (hlt:∀b∈fp,b<s.heap.objs.size)
 (hns:h'.Ns s.heap.objs.size λ_=>none) (hk:∀b o,s.heap.get? b=some o->h'.get? b=some o) :
 Inv (X.comp N' sc s H fp xe) [] (z1s cap σ) H { s with heap:=h',toks:=t }:=by
 have hfrom:∀{x c},(J5 X.env sc.names []).lookup x=some c->X.env.cells.lookup x=some c:=λ{x c} q=>by
  rcases z3J _ _ q with z|z
  ·exact z
  ·simp at z
 have hlook:∀ {x},((relabel sc X.env).names.lookup x=some .cell\/(relabel sc X.env).names.lookup x=some .free)->sc.names.lookup x=some .free:=fun {x} q=>by
  rcases q with q|q
  ·obtain⟨k0,e,z⟩:=z0E q;rcases z with z|z
   ·subst z;exact absurd rfl (S.nocell _ (K1o e))
   ·rw[e,z.2]
  ·obtain⟨k0,e,z⟩:=z0E q;rcases z with z|z
   ·rw[e,z]
   ·cases z.1
 refine⟨⟨I.ok.mod,?_,I.ok.glob,I.ok.blt,K05 _,λx y c h1 h2=>I.ok.inj x y c (hfrom h1) (hfrom h2),λx hx=>?_,λx c q=>absurd (show false=true from q) (by decide),I.ok.hd,I.ok.frames,.inl rfl,λb hb=>⟨?_,λx c q=>?_⟩,
  I.bs,K0b I.ok.bsz I.sz,λb o e hb=>?_,λb hb hz=>?_,I.stack,I.stkFree⟩,
  rfl,I.bare,Un.kept hk,⟨_,hns,λi x v h1 h2 h3=>?_⟩,λx c q=>?_,I.hok.fresh (K05 _),λx c q=>I.freeC x c (hfrom q),λp hp=>absurd (show p∈([]:List (Addr×Obj)) from hp) (by simp),I.hok.kept hk,?_⟩
 ·exact S.kind
 ·have e:=hlook hx;have e2:=K1o e;obtain⟨c,hc⟩:=I.ok.has x (S.fr _ e2 rfl);exact⟨c,z3d hc _ _ e2⟩
 ·exact K12 (hlt b hb)
 ·exact(hf b hb).2.2.2.2.1 x c (hfrom q)
 ·rcases(hf b hb).2.2.2.1 with z|z
  ·exact I.ok.noex b o e z
  ·exact absurd (K0i (K08 e) (K0b I.ok.bsz z)) (K2d _)
 ·rcases K1c.mp (I.stkSub b hz) with z|z
  ·exact(hf b hb).2.1 z
  ·exact(hf b hb).2.2.1 z
 ·have h2':(cap.map λo=>match o with|some j=>(σ[j]?).join|none=>none)[i]?=some (some v):=h2;rw[K0h]at h2';cases e:cap[i]? with
  | none=>rw[e]at h2';cases h2'
  | some o =>
   rw[e]at h2';cases o with
   | none=>simp at h2'
   | some j =>
    have hj:σ[j]?=some (some v):=by
     have h4:(σ[j]?).join=some v:=by simpa using h2'
     cases e2:σ[j]? with
     | none=>rw[e2]at h4;simp at h4
     | some o2=>rw[e2]at h4;simp at h4;rw[h4]
    obtain⟨y,n1,n2,n3⟩:=S.capt i j e;have ey:y=x:=by
     have h1':N'[i]?=some x:=h1;rw[n1]at h1';exact K0u h1'
    subst ey;have hm:=K1o n3;have hkind:=S.fr _ hm rfl;obtain⟨m,hn,hl⟩:=I.loc;have vis:Vis X.env.scope y:=by
     rcases hkind with z|z
     ·exact .inr (.inl z)
     ·exact .inr (.inr z)
    obtain⟨u,r,l⟩:=hl j y v n2 hj vis;refine⟨u,r,.inr ?_⟩;rcases l with ⟨z,_⟩|⟨_,c,hc,hcell⟩
    ·have z':X.env.kindOf y=some .local:=z;rcases hkind with q|q<;>(have q':X.env.kindOf y=_:=q;rw[z']at q';cases q')
    ·obtain⟨o,ho,hd⟩:=hcell;exact⟨z2T n3,c,z3d hc _ _ hm,o,hk c o ho,hd⟩
 ·obtain⟨v,o,ho,hd⟩:=I.cell x c (hfrom q);exact⟨v,o,hk c o ho,hd⟩
 ·show (cap.map _).length=N'.length;rw[K1g];exact S.len
theorem Inv.compOut {pins':List (Addr×Obj)}{σ':St}{H':Hp}{s':Shared}(I:Inv X pins σ H s) (hf:∀b∈fp,FpOk X pins H b)
 (J:Inv (X.comp N' sc s H fp xe) pins' σ' H' s') (hs:K66 s.heap.objs.size s'.heap h'):Inv X pins σ H' { s' with heap:=h' }:=by
 have hu:Un (frs X.stack) fp H H' s.heap s'.heap:=J.base;have hC:H' s.heap.objs.size=none:=J.free;have lt:∀{b:Addr} {o:Obj},s.heap.get? b=some o->b≠s.heap.objs.size:=λe=>K12 (K08 e);refine I.call' (s':={ s' with heap:=h' }) (ch:=fp) J.os ⟨λb o e n h1 h2=>?_,λb o e n h1 h2=>?_,hu.free,λb o e h1=>?_,hu.tups,hu.frzs,hu.tbls⟩ (λb u e=>?_) J.bare (λb hb=>⟨(hf b hb).2.2.2.1,(hf b hb).2.1,(hf b hb).2.2.2.2.1,(hf b hb).2.2.2.2.2⟩)
 ·exact(hs.2 b (lt e)).trans (hu.keep b o e n h1 h2)
 ·obtain⟨sl,q⟩:=hu.slot b o e n h1 h2;exact⟨sl,(hs.2 b (lt e)).trans q⟩
 ·obtain⟨o',q⟩:=hu.there b o e h1;exact⟨o',(hs.2 b (lt e)).trans q⟩
 ·refine(J.hok b u e).stay (λc v hc q=>?_) (λ_ q=>q) λ_ _ q=>q;have ne:c≠s.heap.objs.size:=by
   rintro rfl;rcases hc with z|z
   ·rw[<- z,hC]at e;cases e
   ·rw[hC]at z;cases z
  exact(hs.2 c ne).trans q
end
def PTs (X:Cx) (ifs:List Expr) (t:TT):Prop :=
 ∀(pins:List (Addr×Obj)) (s:Shared) (σ:St) (H:Hp) (Q:Bool->Hp->Prop),Inv X pins σ H s->t σ H Q->wpAny (model X.prog X.w) X.A (z3j ifs X.env) (TP X pins σ Q) X.xe s
def z7L:TT:=λ_ H Q=>Q true H
def z8R (t r:TT):TT:=λσ H Q=>t σ H λb H1=>if b=true then r σ H1 Q else Q false H1
theorem z2n {X:Cx}{E:Value->Shared->Prop}{Q:Bool->Shared->Prop}:∀{ifs:List Expr}{s:Shared},Q false s ->
 wpAny (model X.prog X.w) X.A (forIn ifs false λc r=>if r=true then do { let ok <- isTrue c X.env (eval c X.env);pure (K2v ok) } else pure (K2v r)) Q E s
 | [],s,h=>by rw[K76];exact K4 h
 | c::r,s,h=>by
  rw[K6r];refine K1 ?_;rw[if_neg (by decide)];exact K4 (z2n h)
theorem z4y {X:Cx}:PTs X [] z7L:=λpins s σ H Q I h=>by
 unfold z3j;rw[K76];exact K4 ⟨H,I,h⟩
theorem z63 {X:Cx}{c:Expr}{r:List Expr}{t u:TT}(h1:PT X c t) (h2:PTs X r u):PTs X (c::r) (z8R t u):=λpins s σ H Q I h=>by
 unfold z3j;rw[K6r];refine K1 ?_;rw[if_pos rfl];refine K1 (thn (h1 pins s σ H _ I h) λb s1 ⟨H1,I1,q1⟩=>K4 ?_);cases b with
 | true=>exact h2 pins s1 σ H1 Q I1 (by simpa using q1)
 | false=>exact z2n ⟨H1,I1,by simpa using q1⟩
def z4z (p:Pos) (tg:Expr) (ifs:List Expr) (it:Value) (env:Env) (b:Sem Unit) (c:Code):Sem Fin:=do
 K5g p
 match <- pyNext it with
 | none=>pure (.done .next)
 | some v =>
  K4e tg it v
  assign tg env v
  let ok <- z3j ifs env
  if ok then b
  again c
abbrev TB:=St->Hp->(Hp->Prop)->Prop
def Kp (σ σ':St):Prop:=∀(j:Nat) v,σ[j]?=some (some v)->σ'[j]?=some (some v)
def PBd (X:Cx) (b:Sem Unit) (t:TB):Prop :=
 ∀(pins:List (Addr×Obj)) (s:Shared) (σ:St) (H:Hp) (Q:Hp->Prop),Inv X pins σ H s->t σ H Q->wpAny (model X.prog X.w) X.A b (λ_ s'=>∃σ' H',Inv X pins σ' H' s'/\Kp σ σ'/\Q H') X.xe s
def runG (g:TG) (ti:TT) (tb:TB) (σ:St) (J:It) (Q:Hp->Prop) (H:Hp):Prop :=
 ∃W:Nat->Nat->Hp->Prop,(∃m,W 0 m H)/\∀i m H,W i m H ->
  (J.stop i H/\Q H)\/(J.go i H/\∀x H1,J.yld i H x H1->g x σ H1 λσ2 H2=>Kp σ σ2 /\
   ti σ2 H2 λok H3=>if ok=true then tb σ2 H3 λH4=>∃m',m'<m/\W (i+1) m' H4 else ∃m',m'<m/\W (i+1) m' H3)
def CK (ce:Expr):Prop:=(∃elt gens sc pos,ce=.ListComp elt gens sc pos)\/∃k v gens sc pos,ce=.DictComp k v gens sc pos
section
variable {X:Cx}{ce elt val tg iter tg1 iter1:Expr}{ifs ifs1:List Expr}{sc:Scope}{pos p:Pos}{N':List Str}{cap:List (Option Nat)}{g g1:TG}{wi wi1:TI}{ti ti1:TT}{te tv:TE}{tb:TB}{b:Sem Unit}{D:Addr}
theorem zi3 {pins:List (Addr×Obj)}{σ0:St}{H2:Hp}{s2:Shared}{it:Addr}{fp:List Addr}{tn:Nat->Heap->Prop}{J:It}{R:Result->Shared->Prop}{Q:Hp->Prop}{k:Nat}{acc:Value}
 (htn:compTurn ce k (.ref it) acc X.env=z4z p tg ifs (.ref it) X.env b (.compLoop ce k (.ref it) acc X.env)) (hce:CK ce) (hc:X.calm=true)
 (hg:PG (X.wish (K8i (model X.prog X.w) X.A X.env λe s'=>R (.error e) s')) tg g) (ht:PTs (X.wish (K8i (model X.prog X.w) X.A X.env λe s'=>R (.error e) s')) ifs ti) (hb:PBd (X.wish (K8i (model X.prog X.w) X.A X.env λe s'=>R (.error e) s')) b tb)
 (I2:Inv X pins σ0 H2 s2) (T:Turn X.prog X.w X.K tg J fp it tn) (st2:tn 0 s2.heap) (f2:∀b∈fp,FpOk X pins H2 b)
 (hq:runG g ti tb σ0 J Q H2) (hR:∀s' H',Inv X pins σ0 H' s'->Q H'->R (.ok .next) s') :
 K45 (model X.prog X.w) X.A (.compLoop ce k (.ref it) acc X.env) R s2:=by
 have stat:∀{H':Hp},(∀b∈fp,H' b=none)->∀b∈fp,FpOk X pins H' b:=λhn b hb=>⟨hn b hb,(f2 b hb).2⟩;obtain⟨W,⟨m0,w0⟩,turn⟩:=hq;refine codeAny_loop rfl (λn s'=>∃i H',Inv X pins σ0 H' s'/\tn i s'.heap/\(∀b∈fp,H' b=none)/\W i n H') (λn s5 hI=>?_) m0 ⟨0,H2,I2,st2,λb hb=>(f2 b hb).1,w0⟩;obtain⟨i,H5,I5,st5,fr5,w5⟩:=hI;have hu:X.A.under (.compLoop ce k (.ref it) acc X.env)=X.A/\(model X.prog X.w).den (.compLoop ce k (.ref it) acc X.env)=(compTurn ce k (.ref it) acc X.env).onRaise (λx=>do noteFrame x X.env;theTreesLotGoes x):=by
  rcases hce with ⟨_,_,_,_,rfl⟩|⟨_,_,_,_,_,rfl⟩<;>exact⟨rfl,rfl⟩
 rw[hu.1,hu.2];refine wpAny_noted ?_;rw[htn];unfold z4z;refine K1 (K3e (K1 ?_));rcases turn i n H5 w5 with ⟨stop,qn⟩|⟨go,step⟩
 ·refine thn (T.done X rfl rfl rfl hc i pins s5 _ H5 _ I5 (stat fr5) st5 stop) λr s6 ⟨hr,I6⟩=>?_;subst hr;exact K4 (hR s6 H5 I6 qn)
 ·refine thn (T.item X rfl rfl rfl hc i pins s5 _ H5 _ I5 (stat fr5) st5 go) λr s6 ⟨u,hr,h6⟩=>?_;subst hr;refine K1 (thn h6 λ_ s7 ⟨x,H7,I7,r7,y7,st7,fr7⟩=>?_);have I7':=I7.pinned (stat fr7) (T.obj _ _ st7);refine K1 (thn (hg _ s7 _ H7 x u _ (I7'.wish _) r7 (step x H7 y7)) λ_ s8 ⟨σ8,H8,I8,k8,q8⟩=>?_);refine K1 (thn (ht _ s8 σ8 H8 _ I8 q8) λok s9 ⟨H9,I9,q9⟩=>?_);have again:∀{σa:St} {Ha:Hp} {sa:Shared},Inv (X.wish (K8i (model X.prog X.w) X.A X.env λe s'=>R (.error e) s')) (pins++z2M fp s7.heap) σa Ha sa->Kp σ0 σa ->
   Inv X pins σ0 Ha sa/\tn (i+1) sa.heap/\∀b∈fp,Ha b=none:=λ{σa Ha sa} Iw ka=>by
   have Ia:=Iw.unwish;refine⟨Ia.unpinned.weak (I5.len.trans Ia.len.symm) ka,T.keep _ _ _ st7 λb hb o e=>(Ia.pin (b,o) (K0d _ (K0d _ (z0v hb e)))).1,λb hb=>?_⟩;obtain⟨o,e,d⟩:=T.obj _ _ st7 b hb;exact(Ia.pin (b,o) (K0d _ (K0d _ (z0v hb e)))).2.1
  cases ok with
  | false =>
   have q9':∃m',m'<n/\W (i+1) m' H9:=by simpa using q9
   obtain⟨m',hm,w9⟩:=q9';obtain⟨a1,a2,a3⟩:=again I9 k8;exact K4 ⟨rfl,m',hm,i+1,H9,a1,a2,a3,w9⟩
  | true =>
   rw[if_pos rfl]at q9;refine K1 (thn (hb _ s9 σ8 H9 _ I9 q9) λ_ sa ⟨σa,Ha,Ia,ka,m',hm,wa⟩=>?_);obtain⟨a1,a2,a3⟩:=again Ia λj v h=>ka j v (k8 j v h);exact K4 ⟨rfl,m',hm,i+1,Ha,a1,a2,a3,wa⟩
theorem v3 {env:Env}{prog:K04}{w:World}{A:Around}{R:Result->Shared->Prop}{s:Shared}{k:Nat}{it acc:Value}(hce:CK ce) (hcl:(clausesOf ce)[k]?=some ⟨tg,iter,ifs,0⟩) (h0:K45 (model prog w) A (.compLoop ce k it acc env) R s)
 (h:wpAny (model prog w) A (pyIter it) (λit' s'=>K45 (model prog w) A (.compLoop ce k it' acc env) R s')
  (K8i (model prog w) A env λx s'=>R (.error x) s') s) :
 K45 (model prog w) A (.compStart ce k it acc env) R s:=by
 refine codeAny_of_tree ?_;have hu:A.under (.compStart ce k it acc env)=A/\(model prog w).den (.compStart ce k it acc env)=(compStart ce k it acc env).onRaise (λx=>do noteFrame x env;K5g theWindowsPlace):=by
  rcases hce with ⟨_,_,_,_,rfl⟩|⟨_,_,_,_,_,rfl⟩<;>exact⟨rfl,rfl⟩
 rw[hu.1,hu.2];refine wpAny_notedAt ?_;unfold compStart;rw[hcl];show wpAny _ _ (ask >>= _) _ _ s;refine K1 (wpAny_askSetting (wpAny_ite ?_));split
 ·first
   | exact K1 (K4 (K4 (K8r rfl h0)))
   | exact K4 (K8r rfl h0)
 ·first
   | exact K1 (K6b (K1 (K3e (K1 (K0j h (λit' s' h'=>K4 (K8r rfl h')) λ_ _ x=>x)))))
   | (refine K1 (K6b ?_);show wpAny _ _ (K5g iter.pos >>= _) _ _ s;exact K1 (K3e (K1 (K0j h (λit' s' h'=>K4 (K8r rfl h')) λ_ _ x=>x))))
end
def MkO (mk:Sem Value) (o0:HO):Prop:=∀(X:Cx) (pins:List (Addr×Obj)) (σ:St) (H:Hp) (s:Shared) (E:Value->Shared->Prop) (Q:Value->Shared->Prop),Inv X pins σ H s ->
 (∀s',Inv X pins σ (upd H s.heap.objs.size o0) s'->(∀b o,s.heap.get? b=some o->s'.heap.get? b=some o)->Q (.ref s.heap.objs.size) s')->wpAny (model X.prog X.w) X.A mk Q E s
theorem z76:MkO (newList []) (.lst []):=λX pins σ H s E Q I h=>by
 refine K2l ?_;exact h _ (I.lnew (ys:=[]) (its:=[]) (t':=s.toks) .nil (K74 _)) λb o e=>K9 _ e
structure CmE (ce:Expr) (sc:Scope) (tg iter:Expr) (ifs:List Expr) (mk:Sem Value) (o0:HO) (bd:Addr->Env->Sem Unit) (p:Pos):Prop where
 ck:CK ce
 cl:∃gs,clausesOf ce=⟨tg,iter,ifs,0⟩::gs
 tn:∀it D env,compTurn ce 0 (.ref it) (.ref D) env=z4z p tg ifs (.ref it) env (bd D env) (.compLoop ce 0 (.ref it) (.ref D) env)
 nw:MkO mk o0
 ev:∀env,∃pp,eval ce env=comprehension ce sc env pp mk false (eval iter env) none
 us:∀env f,∃pp,evalThenUse ce env f=(comprehension ce sc env pp mk false (eval iter env) (some f) >>= λ_=>pure ())
section
variable {X:Cx}{ce elt val tg iter tg1 iter1:Expr}{ifs ifs1:List Expr}{sc:Scope}{pos p p1:Pos}{N':List Str}{cap:List (Option Nat)}{g g1:TG}{wi wi1:TI}{ti ti1:TT}{te tv:TE}{tb tb1:TB}{b1:Sem Unit}{D:Addr}{mk:Sem Value}{o0:HO}{bd:Addr->Env->Sem Unit}{tbd:Addr->TB}
theorem z8X {pins:List (Addr×Obj)}{σ:St}{H2:Hp}{s2:Shared}{it:Addr}{fp:List Addr}{tn:Nat->Heap->Prop}{J:It}{E:Value->Shared->Prop}{RR:Value->Addr->Result->Shared->Prop}{Q:Addr->Hp->Prop}
 (C:CmE ce sc tg iter ifs mk o0 bd p) (hc:X.calm=true) (S:CS X sc N' cap) (hg:∀s H fp xe,PG (X.comp N' sc s H fp xe) tg g) (ht:∀s H fp xe,PTs (X.comp N' sc s H fp xe) ifs ti) (hb:∀D s H fp xe,PBd (X.comp N' sc s H fp xe) (bd D (X.comp N' sc s H fp xe).env) (tbd D))
 (I2:Inv X pins σ H2 s2) (T:Turn X.prog X.w X.K tg J fp it tn) (st2:tn 0 s2.heap) (f2:∀b∈fp,FpOk X pins H2 b)
 (hq:∀D,H2 D=none->runG g ti (tbd D) (z1s cap σ) J (Q D) (upd H2 D o0))
 (hRR:∀(D:Addr) (s3:Shared) (H3:Hp) (xe:Value->Shared->Prop) (H':Hp) (pins':List (Addr×Obj)) (σ':St) (s':Shared),Inv X pins σ H3 s3->(∀b∈fp,FpOk X pins H3 b)->Inv (X.comp N' sc s3 H3 fp xe) pins' σ' H' s'->Q D H'->RR (.ref D) s3.heap.objs.size (.ok .next) s') :
 wpAny (model X.prog X.w) X.A mk (λacc s3=>wpAny (model X.prog X.w) X.A (newFunctionEnv sc X.env.globals (J5 X.env sc.names []) [] X.env.qual none .none (some X.env)) (λcenv s4 =>
  codeAny (model X.prog X.w) X.A (.compStart ce 0 (.ref it) acc { cenv with scope:=relabel sc X.env }) (RR acc cenv.locals) s4) E s3) E s2:=by
 refine C.nw X pins σ H2 s2 E _ I2 λs3 I3 kp3=>?_;have hfr:H2 s2.heap.objs.size=none:=I2.fresh;have lt2:∀b∈fp,b<s2.heap.objs.size:=λb hb=>by
  obtain⟨o,e,_⟩:=T.obj _ _ st2 b hb;exact K08 e
 generalize s2.heap.objs.size=D at I3 hfr lt2 ⊢;have r0:=hq D hfr;have f3:∀b∈fp,FpOk X pins (upd H2 D o0) b:=λb hb=>⟨by rw[y6 (K12 (lt2 b hb))];exact(f2 b hb).1,(f2 b hb).2⟩;have st3:tn 0 s3.heap:=T.keep _ _ _ st2 λb hb o e=>kp3 b o e;have lt3:∀b∈fp,b<s3.heap.objs.size:=λb hb=>by
  obtain⟨o,e,_⟩:=T.obj _ _ st3 b hb;exact K08 e
 generalize upd H2 D o0=H3 at I3 r0 f3;refine wpAny_newFunctionEnv S.nocell (λx hx=>absurd hx (by simp)) (λh1 hns hsb=>?_) S.kind;have kp4:∀b o,s3.heap.get? b=some o->h1.get? b=some o:=λb o e=>by
  rw[hsb.2 b (K12 (K08 e))];exact K9 _ e
 have hns':h1.Ns s3.heap.objs.size λ_=>none:=hns;have st4:tn 0 h1:=T.keep _ _ _ st3 λb hb o e=>kp4 b o e;have loop:K45 (model X.prog X.w) X.A (.compLoop ce 0 (.ref it) (.ref D) (compEnvC sc (J5 X.env sc.names []) s3.heap.objs.size X.env))
  (RR (.ref D) s3.heap.objs.size) { s3 with heap:=h1,toks:=s3.toks+([]:List (Str×Value)).length }:=by
  let xe:Value->Shared->Prop:=K8i (model X.prog X.w) X.A (compEnvC sc (J5 X.env sc.names []) s3.heap.objs.size X.env) λe s'=>RR (.ref D) s3.heap.objs.size (.error e) s';have I4:Inv (X.comp N' sc s3 H3 fp xe) [] (z1s cap σ) H3 { s3 with heap:=h1,toks:=s3.toks+([]:List (Str×Value)).length }:=I3.compIn S f3 lt3 hns' kp4;exact zi3 (X:=X.comp N' sc s3 H3 fp xe) (C.tn _ _ _) C.ck hc (hg s3 H3 fp _) (ht s3 H3 fp _) (hb D s3 H3 fp _) I4 T st4 (λb hb=>by
   obtain⟨q1,q2⟩:=I4.ok.exf b hb;exact⟨(f3 b hb).1,q1,I4.ok.exfs b hb,.inl hb,q2,λp hp=>absurd (show p∈([]:List (Addr×Obj)) from hp) (by simp)⟩) r0 λs' H' I' q=>hRR D s3 H3 xe H' [] _ s' I3 f3 I' q
 obtain⟨gs,cl⟩:=C.cl;exact v3 C.ck (by rw[cl];rfl) loop (T.self _ 0 _ _ _ st4 loop)
def tCm (o0:HO) (cap:List (Option Nat)) (wi:TI) (g:TG) (ti:TT) (tbd:Addr->TB):TE:=λσ H Q=>wi σ H λJ H1=>∀D,H1 D=none->runG g ti (tbd D) (z1s cap σ) J (λH'=>Q (.ref D) H') (upd H1 D o0)
theorem zh0 (C:CmE ce sc tg iter ifs mk o0 bd p) (hc:X.calm=true) (S:CS X sc N' cap) (hi:PI X tg iter wi) (hg:∀s H fp xe,PG (X.comp N' sc s H fp xe) tg g) (ht:∀s H fp xe,PTs (X.comp N' sc s H fp xe) ifs ti)
 (hb:∀D s H fp xe,PBd (X.comp N' sc s H fp xe) (bd D (X.comp N' sc s H fp xe).env) (tbd D)) (hs:∀x,K1z iter X.env x=pure x):PE X ce (tCm o0 cap wi g ti tbd):=by
 intro pins s σ H Q I h;obtain⟨pp,ev⟩:=C.ev X.env;obtain⟨gs,cl⟩:=C.cl;rw[ev];refine K5n (use:=none) cl hs (z0H (S.cells I)) S.kind S.loc (thn (hi pins s σ H _ I h) λv s1 h1=>thn h1 λitv s2 h2=>?_);obtain⟨it,fp,tn,J,H2,e,I2,T,st2,f2,rq⟩:=h2;subst e;refine z8X (RR:=λacc C=>compPost (model X.prog X.w) X.A X.xe none (EP X pins σ Q) acc C) (Q:=λD H'=>Q (.ref D) H') C hc S hg ht hb I2 T st2 f2 rq ?_;intro D s3 H3 xe H' pins' σ' s' I3 f3 J3 q;obtain⟨m,hn,_⟩:=id J3.loc;exact⟨m,hn,λh' hs=>⟨.ref D,H',I3.compOut f3 J3 hs,rfl,q⟩⟩
def sCm (o0:HO) (cap:List (Option Nat)) (wi:TI) (g:TG) (ti:TT) (tbd:Addr->TB) (i:Nat):TS:=λD σ H=>wi σ H λJ H1=>∀d,H1 d=none->runG g ti (tbd d) (z1s cap σ) J (λH'=>D.nx (σ.set i (.(r d))) H') (upd H1 d o0)
theorem zl0 {y:Str}{py spos:Pos}{i:Nat}(C:CmE ce sc tg iter ifs mk o0 bd p) (hc:X.calm=true) (S:CS X sc N' cap) (hi:PI X tg iter wi) (hg:∀s H fp xe,PG (X.comp N' sc s H fp xe) tg g) (ht:∀s H fp xe,PTs (X.comp N' sc s H fp xe) ifs ti)
 (hb:∀D s H fp xe,PBd (X.comp N' sc s H fp xe) (bd D (X.comp N' sc s H fp xe).env) (tbd D)) (hN:X.N.Nodup) (hy:X.N[i]?=some y) (hl:X.env.scope.names.lookup y=some .local)
 (hsw:K1w ce (some (.Name y py)) spos.line X.env=pure true) (hs:∀x,K1z iter X.env x=pure x):PS X (.Assign [.Name y py] ce spos) (sCm o0 cap wi g ti tbd i):=by
 intro pins s σ H D I h;rw[exec_Assign_Name_used _ _ _ _ hsw];obtain⟨pp,us⟩:=C.us X.env (assign (.Name y py) X.env);obtain⟨gs,cl⟩:=C.cl;rw[us];refine K1 (K3e (K1 ?_));refine K1 (K0j (K5n (use:=some (assign (.Name y py) X.env)) (Q:=λ_ s'=>SP X pins D .next s') cl hs (z0H (S.cells I)) S.kind S.loc
  (thn (hi pins s σ H _ I h) λv s1 h1=>thn h1 λitv s2 h2=>?_)) (λ_ s' hq=>K4 (K4 hq)) λ_ _ z=>z)
 obtain⟨it,fp,tn,J,H2,e,I2,T,st2,f2,rq⟩:=h2;subst e;refine z8X (RR:=λacc C=>compPost (model X.prog X.w) X.A X.xe (some (assign (.Name y py) X.env)) (λ_ s'=>SP X pins D .next s') acc C) (Q:=λd H'=>D.nx (σ.set i (.(r d))) H') C hc S hg ht hb I2 T st2 f2 rq ?_;intro d s3 H3 xe H' pins' σ' s' I3 f3 J3 q;obtain⟨m,hn,_⟩:=id J3.loc;have Is:Inv X pins σ H' s':=I3.compOut (h':=s'.heap) f3 J3 (K66.refl _ _);obtain⟨oC,es,ep,hoC,hdC,hrC⟩:=id hn;have hC:H' s3.heap.objs.size=none:=J3.free;have neL:s3.heap.objs.size≠X.env.locals:=K68 I3.lt;have nfs:s3.heap.objs.size∉X.fs:=I3.nofs (K05 _);have Ip:Inv X (pins++[(s3.heap.objs.size,oC)]) σ H' s':=Is.pins_of λp hp=>by
  rcases K0g.mp hp with z|z
  ·exact Is.pin p (K0d _ z)
  ·obtain rfl:p=(s3.heap.objs.size,oC):=by simpa using z
   exact⟨hoC,hC,neL,nfs,λv hv=>by have hdC':oC.data=_:=hdC;rw[hdC']at hv;cases hv⟩
 show wpAny _ X.A (assign (.Name y py) X.env (.ref d)) _ _ s';refine thn (z3f (X:=X) (i:=i) hN hy (.inl hl) (.inr hl) _ s' σ H' (.ref d) (.ref d) (λσ2 H2=>D.nx σ2 H2) Ip rfl q) λ_ s4 ⟨σ4,H4,I4,q4⟩=>?_;have pn:=I4.pin (s3.heap.objs.size,oC) (K0d _ (K0d _ (by simp)));refine⟨m,⟨oC,es,ep,pn.1,hdC,hrC⟩,λh' hs=>⟨σ4,H4,?_,q4⟩⟩;have I4u:Inv X pins σ4 H4 s4:=I4.unpinned;have st:=I4u.step (g':=s4.gens) (t':=s4.toks) (d':=s4.drawn) (h':=h') (H':=H4) (ch:=[s3.heap.objs.size]) (λb hb=>?_) (λb o _ _ hc e _=>(hs.2 b (by simpa using hc)).trans e)
  (λb o _ _ hc e _=>⟨o.slots,(hs.2 b (by simpa using hc)).trans e⟩) (λ_ _ _ _ n=>n) (λb o hc e=>⟨o,(hs.2 b (by simpa using hc)).trans e⟩) (λ_ _ e=>e) (λ_ _ _ e=>e) (λb ps e=>⟨#[],by rw[e];simp⟩) (λm hm=>?_) (λb u e=>?_) I4u.bare
 ·exact st
 ·have e:b=s3.heap.objs.size:=by simpa using hb
  subst e;refine⟨.inr I3.sz,neL,λx c e2 z=>?_,λp hp z=>?_⟩
  ·obtain⟨v,q2⟩:=I3.cell x c e2;exact absurd q2.lt (by rw[z];exact K2d _)
  ·have e3:=(I3.pin p hp).1;exact absurd (K08 e3) (by rw[z];exact K2d _)
 ·obtain⟨o,es',ep',ho',r'⟩:=hm;exact⟨o,es',ep',(hs.2 _ (K5f neL)).trans ho',r'⟩
 ·refine(I4u.hok b u e).stay (λc v hc q=>?_) (λ_ q=>q) λ_ _ q=>q;have n4:H4 s3.heap.objs.size=none:=pn.2.1;have ne:c≠s3.heap.objs.size:=by
   rintro rfl;rcases hc with z|z
   ·rw[<- z,n4]at e;cases e
   ·rw[n4]at z;cases z
  exact(hs.2 c ne).trans q
def bApp (te:TE) (D:Addr):TB:=λσ H Q=>te σ H λv H4=>∃acc,H4 D=.(l acc)/\acc.length<sizeLine/\Q (upd H4 D (.lst (acc++[v])))
theorem z7o (he:PE X elt te):PBd X (do let _ <- call (.builtin "list.append") [.ref D,<- eval elt X.env]) (bApp te D):=λpins s σ H Q I h=>by
 refine K1 (thn (he pins s σ H _ I h) λv sa ⟨y,Ha,Ia,ra,acc,ea,za,q⟩=>?_);refine K1 (thn (z2N (X:=X) _ sa σ Ha (.ref D) [y] (.ref D) [v] (λ_ H'=>H'=upd Ha D (.lst (acc++[y]))) Ia rfl (.cons ra .nil) ⟨D,acc,y,rfl,rfl,ea,za,rfl⟩) λ_ sb ⟨_,Hb,Ib,_,eb⟩=>K4 ?_);subst eb;exact⟨σ,_,Ib,λ_ _ h=>h,q⟩
end
theorem z7Y {elt tg iter:Expr}{ifs:List Expr}{sc:Scope}{pos:Pos}:CmE (.ListComp elt [⟨tg,iter,ifs,0⟩] sc pos) sc tg iter ifs (newList []) (.lst []) (λD env=>do let _ <- call (.builtin "list.append") [.ref D,<- eval elt env]) iter.pos :=
 ⟨.inl ⟨_,_,_,_,rfl⟩,⟨_,rfl⟩,λ_ _ _=>rfl,z76,λ_=>⟨_,rfl⟩,λ_ _=>⟨_,rfl⟩⟩
open PySem
def excO (a C:Addr):HO:=.ext λh=>∃o,h.get? a=some o/\o.cls=.ref C
def dctO (a:Addr):HO:=.ext λh=>∃o,h.get? a=some o/\o.cls=.type "dict"
end L2
namespace FT
inductive D where
 | non|bl (b:Bool)|int (i:Int)|str (x:Str)|tup (xs:List D)|fl (xs:List D)|ref (n:Nat)
inductive O where
 | lst (xs:List D)
 | set (ks:List Key)
 | dct
 | dK (kvs:List (Key×D))
 | dF (kvs:List (Key×D))
 | exc (c:Str)
 | ins (c:Str) (fs:List (Str×D))
abbrev AH:=List O
abbrev G:=List (Option D)
structure Exn where
 cls:Str
 fs:List (Str×D)
inductive Res (α:Type) where
 | ok (a:α) (h:AH)|err (x:Exn) (h:AH)|bad
abbrev M (α:Type):=AH->Res α
def M.pure {α:Type} (a:α):M α:=λh=>.ok a h
def M.bind {α β:Type} (m:M α) (f:α->M β):M β:=λh=>match m h with
 | .ok a h1=>f a h1
 | .err x h1=>.err x h1
 | .bad=>.bad
instance:Monad M where
 pure:=M.pure
 bind:=M.bind
def bad {α:Type}:M α:=λ_=>.bad
theorem M.bind_eq {α β:Type}(m:M α) (f:α->M β) (h:AH):(m >>= f) h=match m h with
 | .ok a h1=>f a h1
 | .err x h1=>.err x h1
 | .bad=>.bad:=rfl
theorem M.bind_ok {α β:Type}{m:M α}{f:α->M β}{h h1:AH}{a:α}(e:m h=.ok a h1):(m >>= f) h=f a h1:=by rw[M.bind_eq,e]
def SqLP (K:K0) (H:Hp) (a:Addr) (xs:List V):Prop :=
 (∃o,H a=some (.frz o (.lst xs))) \/
  ∃(o:Obj) (its:Array Value) (n:Nat),K.lookup a=some o/\o.cls=.type "list"/\o.dict=none/\o.data=.seq its n/\its.size<=sizeLine/\Vals xs its.toList
theorem SqLP.sq {K:K0}{H:Hp}{a:Addr}{xs:List V}(h:SqLP K H a xs):SqL K H a xs:=by
 rcases h with ⟨o,h⟩|h
 ·exact .inl (.inr ⟨o,h⟩)
 ·exact .inr h
mutual
def RD (K:K0) (ρ:List Addr) (H:Hp):D->V->Prop
 | .non,v=>v=.non
 | .bl b,v=>v=.bl b
 | .int i,v=>v=.int i
 | .str x,v=>v=.str x
 | .tup ds,v=>∃a xs,v=.ref a/\SqT K H a xs/\RDs K ρ H ds xs
 | .fl ds,v=>∃a xs,v=.ref a/\SqLP K H a xs/\RDs K ρ H ds xs
 | .ref n,v=>∃a,v=.ref a/\ρ[n]?=some a
def RDs (K:K0) (ρ:List Addr) (H:Hp):List D->List V->Prop
 | [],xs=>xs=[]
 | d::ds,xs=>∃x r,xs=x::r/\RD K ρ H d x/\RDs K ρ H ds r
end
def Pre (ρ ρ':List Addr):Prop:=∀(n:Nat) a,ρ[n]?=some a->ρ'[n]?=some a
theorem Pre.refl (ρ:List Addr):Pre ρ ρ:=λ_ _ h=>h
theorem Pre.trans {a b c:List Addr}(x:Pre a b) (y:Pre b c):Pre a c:=λn z h=>y n z (x n z h)
theorem Pre.app (ρ r:List Addr):Pre ρ (ρ++r):=λn a h=>by
 rw[K03 (K5.mp h).1];exact h
structure Ext (K:K0) (H H':Hp):Prop where
 t:∀a xs,SqT K H a xs->SqT K H' a xs
 l:∀a xs,SqLP K H a xs->SqLP K H' a xs
 d:∀a o vs,H a=some (.frz o (.dK vs))->H' a=some (.frz o (.dK vs))
theorem Ext.refl (K:K0) (H:Hp):Ext K H H:=⟨λ_ _ h=>h,λ_ _ h=>h,λ_ _ _ h=>h⟩
theorem Ext.trans {K:K0}{a b c:Hp}(x:Ext K a b) (y:Ext K b c):Ext K a c:=⟨λz xs h=>y.t z xs (x.t z xs h),λz xs h=>y.l z xs (x.l z xs h),λz o vs h=>y.d z o vs (x.d z o vs h)⟩
def Trk:HO->Prop
 | .lst _=>True
 | .set _=>True
 | .ext _=>True
 | .dK _=>True
 | .ins _ _ _=>True
 | _=>False
theorem Ext.upd {K:K0}{H:Hp}{p:Addr}{o:HO}(h:H p=none\/∃u,H p=some u/\Trk u):Ext K H (upd H p o):=by
 have ne:∀{b:Addr} {u:HO},H b=some u->¬ Trk u->b≠p:=λ{b u} e n z=>by
  subst z;rcases h with h|⟨u',h,tr⟩
  ·rw[h]at e;cases e
  ·rw[h]at e;cases e;exact n tr
 refine⟨λa xs q=>?_,λa xs q=>?_,λa o vs q=>by rw[y6 (ne q (λz=>z))];exact q⟩
 ·rcases q with (q|⟨u,q⟩)|q
  ·exact .inl (.inl (by rw[y6 (ne q (λz=>z))];exact q))
  ·exact .inl (.inr ⟨u,by rw[y6 (ne q (λz=>z))];exact q⟩)
  ·exact .inr q
 ·rcases q with ⟨u,q⟩|q
  ·exact .inl ⟨u,by rw[y6 (ne q (λz=>z))];exact q⟩
  ·exact .inr q
section
variable {K:K0}{ρ ρ':List Addr}{H H':Hp}
mutual
theorem RD.mono (p:Pre ρ ρ') (e:Ext K H H'):∀{d:D}{v:V},RD K ρ H d v->RD K ρ' H' d v
 | .non,v,h=>by simpa [RD] using h
 | .bl b,v,h=>by simpa [RD] using h
 | .int b,v,h=>by simpa [RD] using h
 | .str b,v,h=>by simpa [RD] using h
 | .tup ds,v,h=>by
  simp only[RD]at h ⊢;obtain⟨a,xs,h1,h2,h3⟩:=h;exact⟨a,xs,h1,e.t a xs h2,RDs.mono p e h3⟩
 | .fl ds,v,h=>by
  simp only[RD]at h ⊢;obtain⟨a,xs,h1,h2,h3⟩:=h;exact⟨a,xs,h1,e.l a xs h2,RDs.mono p e h3⟩
 | .ref n,v,h=>by
  simp only[RD]at h ⊢;obtain⟨a,h1,h2⟩:=h;exact⟨a,h1,p n a h2⟩
theorem RDs.mono (p:Pre ρ ρ') (e:Ext K H H'):∀{ds:List D}{xs:List V},RDs K ρ H ds xs->RDs K ρ' H' ds xs
 | [],xs,h=>by simpa [RDs] using h
 | d::ds,xs,h=>by
  simp only[RDs]at h ⊢;obtain⟨x,r,h1,h2,h3⟩:=h;exact⟨x,r,h1,RD.mono p e h2,RDs.mono p e h3⟩
end
theorem RDs.nil:RDs K ρ H [] []:=by simp[RDs]
theorem RDs.cons {d:D}{ds:List D}{x:V}{xs:List V}(h:RD K ρ H d x) (t:RDs K ρ H ds xs):RDs K ρ H (d::ds) (x::xs):=by
 simp only[RDs];exact⟨x,xs,rfl,h,t⟩
theorem RDs.pair:∀{ds:List D}{xs:List V},RDs K ρ H ds xs->Paired (RD K ρ H) ds xs
 | [],xs,h=>by simp only[RDs]at h;subst h;exact .nil
 | d::ds,xs,h=>by
  simp only[RDs]at h;obtain⟨x,r,rfl,h2,h3⟩:=h;exact .cons h2 h3.pair
theorem RDs.of:∀{ds:List D}{xs:List V},Paired (RD K ρ H) ds xs->RDs K ρ H ds xs
 | _,_,.nil=>RDs.nil
 | _,_,.cons a b=>RDs.cons a (RDs.of b)
theorem RDs.length {ds:List D}{xs:List V}(h:RDs K ρ H ds xs):ds.length=xs.length:=K43 h.pair
theorem RDs.append {a b:List D}{xs ys:List V}(h:RDs K ρ H a xs) (t:RDs K ρ H b ys):RDs K ρ H (a++b) (xs++ys):=by
 induction a generalizing xs with
 | nil=>simp only[RDs]at h;subst h;exact t
 | cons d ds ih =>
  simp only[RDs]at h;obtain⟨x,r,rfl,h2,h3⟩:=h;exact RDs.cons h2 (ih h3)
theorem RDs.get {ds:List D}{xs:List V}{i:Nat}{d:D}(h:RDs K ρ H ds xs) (e:ds[i]?=some d):∃x,xs[i]?=some x/\RD K ρ H d x:=by
 induction ds generalizing xs i with
 | nil=>simp at e
 | cons a ds ih =>
  simp only[RDs]at h;obtain⟨x,r,rfl,h2,h3⟩:=h;cases i with
  | zero=>simp at e;subst e;exact⟨x,rfl,h2⟩
  | succ i =>
   obtain⟨y,h4,h5⟩:=ih h3 (by simpa using e);exact⟨y,by simpa using h4,h5⟩
theorem RDs.getV {ds:List D}{xs:List V}{i:Nat}{x:V}(h:RDs K ρ H ds xs) (e:xs[i]?=some x):∃d,ds[i]?=some d/\RD K ρ H d x:=by
 have hl:=h.length;have hi:=(K5.mp e).1;obtain⟨y,h1,h2⟩:=h.get (K6 (l:=ds) (i:=i) (by omega));rw[e]at h1;cases h1;exact⟨_,K6 (by omega),h2⟩
theorem RDs.drop {ds:List D}{xs:List V}(n:Nat) (h:RDs K ρ H ds xs):RDs K ρ H (ds.drop n) (xs.drop n):=by
 induction n generalizing ds xs with
 | zero=>exact h
 | succ n ih=>cases ds with
  | nil=>simp only[RDs]at h;subst h;exact RDs.nil
  | cons d ds=>simp only[RDs]at h;obtain⟨x,r,rfl,h2,h3⟩:=h;exact ih h3
theorem RDs.take {ds:List D}{xs:List V}(n:Nat) (h:RDs K ρ H ds xs):RDs K ρ H (ds.take n) (xs.take n):=by
 induction n generalizing ds xs with
 | zero=>exact RDs.nil
 | succ n ih=>cases ds with
  | nil=>simp only[RDs]at h;subst h;exact RDs.nil
  | cons d ds=>simp only[RDs]at h;obtain⟨x,r,rfl,h2,h3⟩:=h;exact RDs.cons h2 (ih h3)
theorem RDs.set {ds:List D}{xs:List V}{d:D}{x:V}(n:Nat) (h:RDs K ρ H ds xs) (hd:RD K ρ H d x):RDs K ρ H (ds.set n d) (xs.set n x):=by
 induction n generalizing ds xs with
 | zero=>cases ds with
  | nil=>simp only[RDs]at h;subst h;exact RDs.nil
  | cons a ds=>simp only[RDs]at h;obtain⟨y,r,rfl,h2,h3⟩:=h;exact RDs.cons hd h3
 | succ n ih=>cases ds with
  | nil=>simp only[RDs]at h;subst h;exact RDs.nil
  | cons a ds=>simp only[RDs]at h;obtain⟨y,r,rfl,h2,h3⟩:=h;exact RDs.cons h2 (ih h3)
theorem RDs.eraseIdx {ds:List D}{xs:List V}(n:Nat) (h:RDs K ρ H ds xs):RDs K ρ H (ds.eraseIdx n) (xs.eraseIdx n):=by
 induction n generalizing ds xs with
 | zero=>cases ds with
  | nil=>simp only[RDs]at h;subst h;exact RDs.nil
  | cons a ds=>simp only[RDs]at h;obtain⟨y,r,rfl,h2,h3⟩:=h;exact h3
 | succ n ih=>cases ds with
  | nil=>simp only[RDs]at h;subst h;exact RDs.nil
  | cons a ds=>simp only[RDs]at h;obtain⟨y,r,rfl,h2,h3⟩:=h;exact RDs.cons h2 (ih h3)
theorem RDs.flat {ds:List D}{xs:List V}(n:Nat) (h:RDs K ρ H ds xs):RDs K ρ H (K07 n ds).flatten (K07 n xs).flatten:=by
 induction n with
 | zero=>exact RDs.nil
 | succ n ih=>rw[K1p,K24,K1p,K24];exact h.append ih
def RK (K:K0) (ρ:List Addr) (H:Hp) {κ:Type}:List (κ×D)->List (κ×V)->Prop:=Paired λp q=>p.1=q.1/\RD K ρ H p.2 q.2
theorem RK.imp {α β:Type}{P Q:α->β->Prop}(f:∀a b,P a b->Q a b):∀{xs:List α}{ys:List β},Paired P xs ys->Paired Q xs ys
 | _,_,.nil=>.nil
 | _,_,.cons a b=>.cons (f _ _ a) (RK.imp f b)
theorem RK.mono {κ:Type}{kvs:List (κ×D)}{vs:List (κ×V)}(p:Pre ρ ρ') (e:Ext K H H') (r:RK K ρ H kvs vs):RK K ρ' H' kvs vs:=RK.imp (λ_ _ h=>⟨h.1,h.2.mono p e⟩) r
def RO (K:K0) (ρ:List Addr) (H:Hp) (o:O) (a:Addr):Prop:=match o with
 | .lst ds=>∃xs,H a=.(l xs)/\RDs K ρ H ds xs
 | .set ks=>H a=some (.set ks)
 | .dct=>H a=some (dctO a)
 | .dK kvs=>∃vs,H a=some (.dK vs)/\RK K ρ H kvs vs
 | .dF kvs=>∃ob vs,H a=some (.frz ob (.dK vs))/\RK K ρ H kvs vs
 | .exc c=>∃C,K1e K K17 c=some (.(r C))/\H a=some (excO a C)
 | .ins c fs=>∃C dx vs,K1e K K17 c=some (.(r C))/\H a=some (.ins C dx vs)/\RK K ρ H fs vs
structure RH (K:K0) (ρ:List Addr) (h:AH) (H:Hp):Prop where
 len:ρ.length=h.length
 nd:∀(i j:Nat) a,ρ[i]?=some a->ρ[j]?=some a->i=j
 obj:∀(n:Nat) o a,h[n]?=some o->ρ[n]?=some a->RO K ρ H o a
theorem RH.at {h:AH}(r:RH K ρ h H) {n:Nat}{o:O}(e:h[n]?=some o):∃a,ρ[n]?=some a/\RO K ρ H o a:=by
 have hi:=(K5.mp e).1;have hj:n<ρ.length:=by rw[r.len];exact hi
 have q:ρ[n]?=some ρ[n]:=K6 hj;exact⟨_,q,r.obj n o _ e q⟩
def O.fz:O->Bool
 | .dF _=>true
 | _=>false
theorem RO.there {o:O}{a:Addr}(z:RO K ρ H o a):∃u,H a=some u/\(o.fz=false->Trk u):=by
 cases o with
 | lst ds=>obtain⟨xs,z,_⟩:=z;exact⟨_,z,λ_=>trivial⟩
 | set ks=>exact⟨_,z,λ_=>trivial⟩
 | dct=>exact⟨_,z,λ_=>trivial⟩
 | dK kvs=>obtain⟨vs,z,_⟩:=z;exact⟨_,z,λ_=>trivial⟩
 | dF kvs=>obtain⟨ob,vs,z,_⟩:=z;exact⟨_,z,λq=>by cases q⟩
 | exc c=>obtain⟨C,_,z⟩:=z;exact⟨_,z,λ_=>trivial⟩
 | ins c fs=>obtain⟨C,dx,vs,_,z,_⟩:=z;exact⟨_,z,λ_=>trivial⟩
theorem RH.there {h:AH}(r:RH K ρ h H) {n:Nat}{a:Addr}(e:ρ[n]?=some a):∃u,H a=some u:=by
 have hi:=(K5.mp e).1;have hj:n<h.length:=by rw[<- r.len];exact hi
 obtain⟨u,z,_⟩:=(r.obj n _ a (K6 hj) e).there;exact⟨u,z⟩
theorem RH.tracked {h:AH}(r:RH K ρ h H) {n:Nat}{a:Addr}{o:O}(e:ρ[n]?=some a) (eo:h[n]?=some o) (nf:o.fz=false:=by rfl):∃u,H a=some u/\Trk u:=by
 obtain⟨u,z,q⟩:=(r.obj n _ a eo e).there;exact⟨u,z,q nf⟩
theorem RO.mono {o:O}{a:Addr}(p:Pre ρ ρ') (e:Ext K H H') (hs:H' a=H a) (r:RO K ρ H o a):RO K ρ' H' o a:=by
 cases o with
 | lst ds=>obtain⟨xs,h1,h2⟩:=r;exact⟨xs,hs.trans h1,h2.mono p e⟩
 | set ks=>exact hs.trans r
 | dct=>exact hs.trans r
 | dK kvs=>obtain⟨vs,h1,h2⟩:=r;exact⟨vs,hs.trans h1,h2.mono p e⟩
 | dF kvs=>obtain⟨ob,vs,h1,h2⟩:=r;exact⟨ob,vs,hs.trans h1,h2.mono p e⟩
 | exc c=>obtain⟨C,h1,h2⟩:=r;exact⟨C,h1,hs.trans h2⟩
 | ins c fs=>obtain⟨C,dx,vs,h1,h2,h3⟩:=r;exact⟨C,dx,vs,h1,hs.trans h2,h3.mono p e⟩
theorem RH.other {h:AH}{p:Addr}{o:HO}(r:RH K ρ h H) (hp:H p=none):RH K ρ h (upd H p o) :=
 ⟨r.len,r.nd,λn u a h1 h2=>(r.obj n u a h1 h2).mono (Pre.refl _) (Ext.upd (.inl hp)) (by
  obtain⟨u,q⟩:=r.there h2;exact y6 (x3 q hp))⟩
theorem RH.pushO {h:AH}{p:Addr}{o':O}{u:HO}(r:RH K ρ h H) (hp:H p=none) (hd:RO K (ρ++[p]) (upd H p u) o' p):RH K (ρ++[p]) (h++[o']) (upd H p u):=by
 have ne:∀{n:Nat} {a:Addr},ρ[n]?=some a->a≠p:=λe=>by
  obtain⟨xs,q⟩:=r.there e;exact x3 q hp
 have ext:Ext K H (L2.upd H p u):=Ext.upd (.inl hp);refine⟨by simp[r.len],λi j a h1 h2=>?_,λn o a h1 h2=>?_⟩
 ·rw[K2k]at h1 h2;split at h1<;>split at h2
  ·exact r.nd i j a h1 h2
  ·rename_i hi hj;rw[K1b]at h2;split at h2
   ·cases h2;exact absurd rfl (ne h1)
   ·cases h2
  ·rename_i hi hj;rw[K1b]at h1;split at h1
   ·cases h1;exact absurd rfl (ne h2)
   ·cases h1
  ·rename_i hi hj;rw[K1b]at h1 h2;split at h1
   ·split at h2
    ·omega
    ·cases h2
   ·cases h1
 ·rw[K2k]at h1 h2;rw[r.len]at h2;split at h1
  ·rename_i hn;rw[if_pos hn]at h2;exact(r.obj n o a h1 h2).mono (Pre.app _ _) ext (y6 (ne h2))
  ·rename_i hn;rw[if_neg hn]at h2;rw[K1b]at h1 h2;split at h1
   ·rename_i h0;rw[if_pos h0]at h2;cases h1;cases h2;exact hd
   ·cases h1
theorem RH.push {h:AH}{p:Addr}{ds:List D}{xs:List V}(r:RH K ρ h H) (hp:H p=none) (hd:RDs K ρ H ds xs):RH K (ρ++[p]) (h++[.lst ds]) (upd H p (.lst xs)) :=
 r.pushO hp ⟨xs,z03,hd.mono (Pre.app _ _) (Ext.upd (.inl hp))⟩
theorem RH.setO {h:AH}{n:Nat}{a:Addr}{o0 o':O}{u:HO}(r:RH K ρ h H) (e:h[n]?=some o0) (ea:ρ[n]?=some a) (hd:RO K ρ (upd H a u) o' a) (nf:o0.fz=false:=by rfl):RH K ρ (h.set n o') (upd H a u):=by
 have ext:Ext K H (L2.upd H a u):=Ext.upd (.inr (r.tracked ea e nf));refine⟨by simp[r.len],r.nd,λm o b h1 h2=>?_⟩;by_cases hm:m=n
 ·subst hm;rw[ea]at h2;cases h2;have hi:=(K5.mp e).1;rw[K1n hi]at h1;cases h1;exact hd
 ·rw[K23 (λz=>hm z.symm)]at h1;exact(r.obj m o b h1 h2).mono (Pre.refl _) ext (y6 λz=>hm (r.nd m n b h2 (by rw[z];exact ea)))
theorem RH.set {h:AH}{n:Nat}{a:Addr}{ds0 ds:List D}{xs:List V}(r:RH K ρ h H) (e:h[n]?=.(l ds0)) (ea:ρ[n]?=some a) (hd:RDs K ρ H ds xs):RH K ρ (h.set n (.lst ds)) (upd H a (.lst xs)) :=
 r.setO e ea ⟨xs,z03,hd.mono (Pre.refl _) (Ext.upd (.inr (r.tracked ea e)))⟩
structure RG (K:K0) (ρ:List Addr) (H:Hp) (γ:G) (σ:L2.St):Prop where
 len:γ.length=σ.length
 var:∀(i:Nat) d,γ[i]?=some (some d)->∃v,σ[i]?=some (some v)/\RD K ρ H d v
theorem RG.mono {γ:G}{σ:L2.St}(p:Pre ρ ρ') (e:Ext K H H') (r:RG K ρ H γ σ):RG K ρ' H' γ σ :=
 ⟨r.len,λi d h=>let ⟨v,h1,h2⟩:=r.var i d h;⟨v,h1,h2.mono p e⟩⟩
theorem RG.set {γ:G}{σ:L2.St}{d:D}{v:V}(r:RG K ρ H γ σ) (i:Nat) (hd:RD K ρ H d v):RG K ρ H (γ.set i (some d)) (σ.set i (some v)):=by
 refine⟨by simp[r.len],λj d' h=>?_⟩;by_cases hj:i=j
 ·subst hj;have hi:i<γ.length:=by
   have:=(K5.mp h).1;simpa using this
  rw[K1n hi]at h;cases h;exact⟨v,K1n (by rw[<- r.len];exact hi),hd⟩
 ·rw[K23 hj]at h ⊢;exact r.var j d' h
structure Rel (K:K0) (ρ:List Addr) (γ:G) (h:AH) (σ:L2.St) (H:Hp):Prop where
 g:RG K ρ H γ σ
 h:RH K ρ h H
abbrev XX:=Exn->List Addr->AH->Hp->Prop
def Fin {α:Type} (K:K0) (EX:XX) (ρ:List Addr) (H:Hp) (P:α->List Addr->AH->Hp->Prop):Res α->Prop
 | .ok a h'=>∀ρ' H',Pre ρ ρ'->Ext K H H'->RH K ρ' h' H'->P a ρ' h' H'
 | .err x h'=>∀ρ' H',Pre ρ ρ'->Ext K H H'->RH K ρ' h' H'->EX x ρ' h' H'
 | .bad=>False
variable {EX:XX}{α β:Type}
theorem Fin.up {P:α->List Addr->AH->Hp->Prop}{r:Res α}(p:Pre ρ ρ') (e:Ext K H H') (f:Fin K EX ρ H P r):Fin K EX ρ' H' P r:=by
 cases r with
 | ok a h=>exact λρ2 H2 p2 e2 r2=>f ρ2 H2 (p.trans p2) (e.trans e2) r2
 | err x h=>exact λρ2 H2 p2 e2 r2=>f ρ2 H2 (p.trans p2) (e.trans e2) r2
 | bad=>exact f
theorem Fin.mono {P P':α->List Addr->AH->Hp->Prop}{r:Res α}(f:Fin K EX ρ H P r) (h:∀a ρ' h' H',Pre ρ ρ'->Ext K H H'->RH K ρ' h' H'->P a ρ' h' H'->P' a ρ' h' H'):Fin K EX ρ H P' r:=by
 cases r with
 | ok a h1=>exact λρ2 H2 p2 e2 r2=>h a ρ2 h1 H2 p2 e2 r2 (f ρ2 H2 p2 e2 r2)
 | err x h1=>exact f
 | bad=>exact f
theorem Fin.bind {P:β->List Addr->AH->Hp->Prop}{m:M α}{f:α->M β}{h:AH}(z:Fin K EX ρ H P ((m >>= f) h)):Fin K EX ρ H (λa ρ1 h1 H1=>Fin K EX ρ1 H1 P (f a h1)) (m h):=by
 rw[M.bind_eq]at z;cases e:m h with
 | ok a h1=>rw[e]at z;exact λρ2 H2 p2 e2 r2=>Fin.up p2 e2 z
 | err x h1=>rw[e]at z;exact z
 | bad=>rw[e]at z;exact z
end
def tE (K:K0) (EX:XX) (m:G->M D):TE:=λσ H Q=>∃ρ γ h,Rel K ρ γ h σ H/\Fin K EX ρ H (λd ρ' _ H'=>∀v,RD K ρ' H' d v->Q v H') (m γ h)
def tT (K:K0) (EX:XX) (m:G->M Bool):TT:=λσ H Q=>∃ρ γ h,Rel K ρ γ h σ H/\Fin K EX ρ H (λb _ _ H'=>Q b H') (m γ h)
def tL (K:K0) (EX:XX) (m:G->M (List D)):TA:=λσ H Q=>∃ρ γ h,Rel K ρ γ h σ H/\Fin K EX ρ H (λds ρ' _ H'=>∀vs,RDs K ρ' H' ds vs->Q vs H') (m γ h)
inductive Out where
 | nx (γ:G)|rt (d:D)|bk (γ:G)|ct (γ:G)
def OutP (K:K0) (D:Ends) (o:Out) (ρ:List Addr) (H:Hp):Prop:=match o with
 | .nx γ=>∀σ,RG K ρ H γ σ->D.nx σ H
 | .rt d=>∀v,RD K ρ H d v->D.rt v H
 | .bk γ=>∀σ,RG K ρ H γ σ->D.bk σ H
 | .ct γ=>∀σ,RG K ρ H γ σ->D.ct σ H
def tB (K:K0) (EX:XX) (m:G->M Out):TS:=λD σ H=>∃ρ γ h,Rel K ρ γ h σ H/\Fin K EX ρ H (λo ρ' _ H'=>OutP K D o ρ' H') (m γ h)
structure SE (X:Cx) (EX:XX) (e:Expr) (m:G->M D):Prop where
 h:PE X e (tE X.K EX m)
structure SC (X:Cx) (EX:XX) (e:Expr) (m:G->M Bool):Prop where
 h:PT X e (tT X.K EX m)
structure SA (X:Cx) (EX:XX) (es:List Expr) (m:G->M (List D)):Prop where
 h:PA X es (tL X.K EX m)
structure S1 (X:Cx) (EX:XX) (st:Stmt) (m:G->M Out):Prop where
 h:PS X st (tB X.K EX m)
structure SB (X:Cx) (EX:XX) (st:List Stmt) (m:G->M Out):Prop where
 h:PSs X st (tB X.K EX m)
theorem PE.imp {X:Cx}{e:Expr}{t t':TE}(h:PE X e t) (f:∀σ H Q,t' σ H Q->t σ H Q):PE X e t':=λpins s σ H Q I z=>h pins s σ H Q I (f σ H Q z)
theorem PT.imp {X:Cx}{e:Expr}{t t':TT}(h:PT X e t) (f:∀σ H Q,t' σ H Q->t σ H Q):PT X e t':=λpins s σ H Q I z=>h pins s σ H Q I (f σ H Q z)
theorem PA.imp {X:Cx}{e:List Expr}{t t':TA}(h:PA X e t) (f:∀σ H Q,t' σ H Q->t σ H Q):PA X e t':=λpos pins s σ H Q I z=>h pos pins s σ H Q I (f σ H Q z)
theorem PS.imp {X:Cx}{e:Stmt}{t t':TS}(h:PS X e t) (f:∀σ H Q,t' Q σ H->t Q σ H):PS X e t':=λpins s σ H Q I z=>h pins s σ H Q I (f σ H Q z)
theorem PSs.imp {X:Cx}{e:List Stmt}{t t':TS}(h:PSs X e t) (f:∀σ H Q,t' Q σ H->t Q σ H):PSs X e t':=λpins s σ H Q I z=>h pins s σ H Q I (f σ H Q z)
abbrev FE (K:K0) (EX:XX) (ρ:List Addr) (H:Hp) (Q:VK) (r:Res D):Prop:=Fin K EX ρ H (λd ρ' _ H'=>∀v,RD K ρ' H' d v->Q v H') r
theorem FE.here {K:K0}{EX:XX}{ρ:List Addr}{H:Hp}{Q:VK}{d:D}{h:AH}{v:V}(f:FE K EX ρ H Q (.ok d h)) (r:RH K ρ h H) (rd:RD K ρ H d v):Q v H:=f ρ H (Pre.refl _) (Ext.refl _ _) r v rd
theorem FE.tup {K:K0}{EX:XX}{ρ:List Addr}{H:Hp}{Q:VK}{ds:List D}{xs:List V}{h:AH}{p:Addr}(f:FE K EX ρ H Q (.ok (.tup ds) h)) (r:RH K ρ h H) (hd:RDs K ρ H ds xs) (hp:H p=none):Q (.ref p) (upd H p (.tup xs)):=by
 have e:Ext K H (L2.upd H p (.tup xs)):=Ext.upd (.inl hp);refine f ρ _ (Pre.refl _) e (r.other hp) _ ?_;simp only[RD];exact⟨p,xs,rfl,SqT.of z03,hd.mono (Pre.refl _) e⟩
theorem FE.lst {K:K0}{EX:XX}{ρ:List Addr}{H:Hp}{Q:VK}{ds:List D}{xs:List V}{h:AH}{p:Addr}(f:FE K EX ρ H Q (.ok (.ref h.length) (h++[.lst ds]))) (r:RH K ρ h H) (hd:RDs K ρ H ds xs) (hp:H p=none):Q (.ref p) (upd H p (.lst xs)):=by
 refine f (ρ++[p]) _ (Pre.app _ _) (Ext.upd (.inl hp)) (r.push hp hd) _ ?_;simp only[RD];refine⟨p,rfl,?_⟩;rw[<- r.len];simp
def getL (n:Nat):M (List D):=λh=>match h[n]? with
 | .(l xs)=>.ok xs h
 | _=>.bad
def newL (xs:List D):M D:=λh=>if xs.length<=sizeLine then .ok (.ref h.length) (h++[.lst xs]) else .bad
section
variable {X:Cx}{EX:XX}{a b c e:Expr}{pos:Pos}{ma mb mc:G->M D}
def eVar (i:Nat):G->M D:=λγ=>match γ[i]? with
 | some (some d)=>pure d
 | _=>bad
theorem z0 (i:Nat) {x:Str}(hN:X.N[i]?=some x:=by rfl) (hv:Vis X.env.scope x:=by first|exact Or.inl rfl|exact Or.inr (Or.inl rfl)|exact Or.inr (Or.inr rfl))
 (hd:(x==("__debug__":Str))=false:=by decide) (hcd:(x==("__classdict__":Str))=false:=by decide):SE X EX (.Name x pos) (eVar i) :=
 ⟨PE.imp (z8Y hN hv hd hcd) λσ H Q ⟨ρ,γ,h,rel,f⟩=>by
  have f':FE X.K EX ρ H Q (eVar i γ h):=f;unfold eVar at f';cases e:γ[i]? with
  | none=>rw[e]at f';exact f'.elim
  | some o=>cases o with
   | none=>rw[e]at f';exact f'.elim
   | some d =>
    rw[e]at f';obtain⟨v,h1,h2⟩:=rel.g.var i d e;exact⟨v,h1,FE.here f' rel.h h2⟩⟩
theorem z0K {d:D}{v:V}(h:PE X e (tC v)) (r:∀ρ H,RD X.K ρ H d v):SE X EX e (λ_=>pure d) :=
 ⟨PE.imp h λσ H Q ⟨ρ,γ,h,rel,f⟩=>FE.here f rel.h (r ρ H)⟩
theorem z6 {i:Int}{j:Nat}:SE X EX (.Constant (.int i) j pos) (λ_=>pure (.int i)):=z0K zf5 λ_ _=>by simp[RD]
theorem z0F {i:Bool}{j:Nat}:SE X EX (.Constant (.bool i) j pos) (λ_=>pure (.bl i)):=z0K zj8 λ_ _=>by simp[RD]
theorem zb7 {j:Nat}:SE X EX (.Constant .none j pos) (λ_=>pure .non):=z0K za8 λ_ _=>by simp[RD]
theorem z3C {i:Str}{j:Nat}:SE X EX (.Constant (.str i) j pos) (λ_=>pure (.str i)):=z0K z9r λ_ _=>by simp[RD]
theorem z72 {x:Str}{d:D}{v:V}{u:Value}(hg:Gl X x) (hm:X.mg x=some u) (r:RelV v u) (hr:∀ρ H,RD X.K ρ H d v) (hd:(x==("__debug__":Str))=false:=by decide):SE X EX (.Name x pos) (λ_=>pure d) :=
 z0K (z48 hg hm r hd) hr
def BR (K:K0) (EX:XX) (r:R2) (f:D->D->M D):Prop:=∀ρ h H x y v u Q,RH K ρ h H->RD K ρ H x v->RD K ρ H y u->FE K EX ρ H Q (f x y h)->r v u H Q
def e2 (f:D->D->M D) (ma mb:G->M D):G->M D:=λγ=>do
 let x <- ma γ;let y <- mb γ
 f x y
theorem z4D {r:R2}{f:D->D->M D}{ta tb:TE}(h:PE X e (tOp r (tE X.K EX ma) (tE X.K EX mb))) (hr:BR X.K EX r f):SE X EX e (e2 f ma mb) :=
 ⟨PE.imp h λσ H Q ⟨ρ,γ,h,rel,fin⟩=>⟨ρ,γ,h,rel,(Fin.bind fin).mono λx ρ1 h1 H1 p1 e1 r1 f1 v rv=>⟨ρ1,γ,h1,⟨rel.g.mono p1 e1,r1⟩,(Fin.bind f1).mono λy ρ2 h2 H2 p2 e2 r2 f2 u ru =>
  hr ρ2 h2 H2 x y v u Q r2 (rv.mono p2 e2) ru f2⟩⟩⟩
theorem z46 {op:K8k}{r:R2}{f:D->D->M D}(ho:OpR X (K2a op) r) (hr:BR X.K EX r f) (ha:SE X EX a ma) (hb:SE X EX b mb):SE X EX (.BinOp a op b pos) (e2 f ma mb) :=
 z4D (ta:=tE X.K EX ma) (tb:=tE X.K EX mb) (zm4 ho ha.h hb.h) hr
theorem z8M {op:CmpOp}{r:R2}{f:D->D->M D}(ho:OpR X (K1s op) r) (hr:BR X.K EX r f) (ha:SE X EX a ma) (hb:SE X EX b mb) (hm:K30 op b=false):SE X EX (.Compare a [op] [b] pos) (e2 f ma mb) :=
 z4D (ta:=tE X.K EX ma) (tb:=tE X.K EX mb) (z8o ho ha.h hb.h hm) hr
theorem BR.or {K:K0}{r r':R2}{f g f':D->D->M D}(h:BR K EX r f) (h':BR K EX r' g) (e:∀x y,(∀z,f' x y z=f x y z)\/(∀z,f' x y z=g x y z)):BR K EX (λx y H Q=>r x y H Q\/r' x y H Q) f':=by
 intro ρ h0 H x y v u Q r0 rx ry fin;rcases e x y with z|z
 ·exact .inl (h ρ h0 H x y v u Q r0 rx ry (by rw[<- z h0];exact fin))
 ·exact .inr (h' ρ h0 H x y v u Q r0 rx ry (by rw[<- z h0];exact fin))
def fI (g:Int->Int->D):D->D->M D
 | .int i,.int j=>pure (g i j)
 | _,_=>bad
theorem z75 {K:K0}{g:Int->Int->D}{g':Int->Int->V}(hg:∀i j ρ H,RD K ρ H (g i j) (g' i j)):BR K EX (rI0 g') (fI g):=by
 intro ρ h H x y v u Q r rx ry fin;unfold fI at fin;split at fin
 ·simp only[RD]at rx ry;subst rx;subst ry;exact⟨_,_,rfl,rfl,FE.here fin r (hg _ _ _ _)⟩
 ·exact fin.elim
def fIC (C:Int->Int->Bool) (g:Int->Int->D):D->D->M D
 | .int i,.int j=>if C i j then pure (g i j) else bad
 | _,_=>bad
theorem z8a {K:K0}{C:Int->Int->Bool}{C':Int->Int->Prop}{g:Int->Int->D}{g':Int->Int->V}(hc:∀i j,C i j=true->C' i j) (hg:∀i j ρ H,RD K ρ H (g i j) (g' i j)):BR K EX (rI C' g') (fIC C g):=by
 intro ρ h H x y v u Q r rx ry fin;unfold fIC at fin;split at fin
 ·simp only[RD]at rx ry;subst rx;subst ry;split at fin
  ·rename_i hC;exact⟨_,_,rfl,rfl,hc _ _ hC,FE.here fin r (hg _ _ _ _)⟩
  ·exact fin.elim
 ·exact fin.elim
def fSub:=fI λi j=>.int (i - j)
def fDiv:=fIC (λ_ j=>decide (0<j)&&decide (j<1073741824)) λi j=>.int (i / j)
def fMod:=fIC (λ_ j=>decide (0<j)) λi j=>.int (i % j)
def fPow:=fIC (λi j=>decide (0<=j)&&decide (j<=1000)&&decide (-(2 ^ 64)<i)&&decide (i<2 ^ 64)) λi j=>.int (i ^ j.toNat)
theorem z2m (ha:SE X EX a ma) (hb:SE X EX b mb):SE X EX (.BinOp a .Sub b pos) (e2 fSub ma mb):=z46 zc7 (z75 λi j ρ H=>by simp[RD]) ha hb
theorem z1P (ha:SE X EX a ma) (hb:SE X EX b mb):SE X EX (.BinOp a .FloorDiv b pos) (e2 fDiv ma mb):=z46 z7p (z8a (λi j h=>by simp at h;exact h) λi j ρ H=>by simp[RD]) ha hb
theorem z1t (ha:SE X EX a ma) (hb:SE X EX b mb):SE X EX (.BinOp a .Mod b pos) (e2 fMod ma mb):=z46 z9w (z8a (λi j h=>by simpa using h) λi j ρ H=>by simp[RD]) ha hb
theorem z4E (ha:SE X EX a ma) (hb:SE X EX b mb):SE X EX (.BinOp a .Pow b pos) (e2 fPow ma mb):=z46 z8y (z8a (λi j h=>by
 simp at h;refine⟨h.1.1.1,by omega,?_⟩;have h1:=h.1.2;have h2:=h.2;omega) λi j ρ H=>by simp[RD]) ha hb
def fAdd:D->D->M D
 | .int i,.int j=>pure (.int (i+j))
 | .str i,.str j=>if i.length+j.length<=sizeLine then pure (.str (i++j)) else bad
 | .ref i,.ref j=>do
  let x <- getL i;let y <- getL j
  newL (x++y)
 | .tup x,.tup y=>if !decide (x.length+y.length<=sizeLine) then bad else pure (.tup (x++y))
 | _,_=>bad
theorem z0n {n:Nat}{h h1:AH}{xs:List D}(e:getL n h=.ok xs h1):h1=h/\h[n]?=.(l xs):=by
 unfold getL at e;split at e
 ·rename_i q;cases e;exact⟨rfl,q⟩
 ·cases e
theorem z0i {n:Nat}{h h1:AH}{x:Exn}(e:getL n h=.err x h1):False:=by
 unfold getL at e;split at e<;>cases e
def z8e (K:K0):R2:=λx y H Q=>∃a b ys,x=.ref a/\y=.ref b/\SqT K H a []/\SqT K H b ys/\Q (.ref b) H
theorem z70:OpR X (K2a .Add) (z8e X.K):=by
 intro pins s σ H x y v u Q I rx ry h;obtain⟨a,b,ys,rfl,rfl,ha,hb,q⟩:=h;cases rx;cases ry;obtain⟨its,r1,p1,_⟩:=I.tuple ha;obtain⟨its2,r2,p2,_⟩:=I.tuple hb;have e:its=[]:=(r1.nil_iff).mpr rfl;subst e;obtain⟨⟨cls,dd,data,sl⟩,ho,hc,n,hd⟩:=id p1;obtain⟨⟨cls2,dd2,data2,sl2⟩,ho2,hc2,n2,hd2⟩:=id p2;simp only at hc hd hc2 hd2;subst hc hd hc2 hd2;exact K8n ⟨_,ho,rfl⟩ ⟨_,ho2,rfl⟩ K61 K7s K3v K3n (K3g _ _) (tuple_addW0 a b _ _ n n2 dd dd2 sl sl2 rfl) ⟨ho,ho2,.ref b,H,I,rfl,q⟩
theorem z86:OpR X (K2a .Add) (λx y H Q=>rI0 (λi j=>.int (i+j)) x y H Q\/(∃i j,x=.str i/\y=.str j/\i.length+j.length<=sizeLine/\Q (.str (i++j)) H)\/rCat x y H Q\/z6Z X.K x y H Q\/z8e X.K x y H Q) :=
 op_add.or (op_add_str.or (op_cat.or (op_catT.or z70)))
theorem z8t:BR X.K EX (λx y H Q=>rI0 (λi j=>.int (i+j)) x y H Q\/(∃i j,x=.str i/\y=.str j/\i.length+j.length<=sizeLine/\Q (.str (i++j)) H)\/rCat x y H Q\/z6Z X.K x y H Q\/z8e X.K x y H Q) fAdd:=by
 intro ρ h H x y v u Q r rx ry fin;unfold fAdd at fin;split at fin
 ·simp only[RD]at rx ry;subst rx;subst ry;exact .inl ⟨_,_,rfl,rfl,FE.here fin r (by simp[RD])⟩
 ·simp only[RD]at rx ry;subst rx;subst ry;split at fin
  ·rename_i hl;exact .inr (.inl ⟨_,_,rfl,rfl,hl,FE.here fin r (by simp[RD])⟩)
  ·exact fin.elim
 ·rename_i i j;simp only[RD]at rx ry;obtain⟨ai,rfl,hi⟩:=rx;obtain⟨aj,rfl,hj⟩:=ry;have f1:=Fin.bind fin;cases e:getL i h with
  | bad=>rw[e]at f1;exact f1.elim
  | err z hz=>exact(z0i e).elim
  | ok xs h1 =>
   obtain⟨rfl,q1⟩:=z0n e;rw[e]at f1;have f2:=Fin.bind (f1 ρ H (Pre.refl _) (Ext.refl _ _) r);cases e3:getL j h1 with
   | bad=>rw[e3]at f2;exact f2.elim
   | err z hz=>exact(z0i e3).elim
   | ok ys h2 =>
    obtain⟨rfl,q2⟩:=z0n e3;rw[e3]at f2;have f3:=f2 ρ H (Pre.refl _) (Ext.refl _ _) r;dsimp only at f3;unfold newL at f3;split at f3
    ·rename_i hl;obtain⟨a1,n1,xs1,o1,d1⟩:=r.at q1;obtain⟨a2,n2,xs2,o2,d2⟩:=r.at q2;rw[hi]at n1;cases n1;rw[hj]at n2;cases n2;refine .inr (.inr (.inl ⟨_,_,_,_,rfl,rfl,o1,o2,?_,λp hp=>FE.lst f3 r (d1.append d2) hp⟩));rw[<- d1.length,<- d2.length,<- K01];exact hl
    ·exact f3.elim
 ·rename_i x y;simp only[RD]at rx ry;obtain⟨ax,xs,rfl,hx,dx⟩:=rx;obtain⟨ay,ys,rfl,hy,dy⟩:=ry;split at fin
  ·exact fin.elim
  ·rename_i hc;simp at hc;have l1:=dx.length;have l2:=dy.length;by_cases hxe:xs=[]
   ·subst hxe;have xe:x=[]:=by simpa using l1
    subst xe;refine .inr (.inr (.inr (.inr ⟨ax,ay,ys,rfl,rfl,hx,hy,FE.here fin r ?_⟩)));simp only[RD];exact⟨ay,ys,rfl,hy,by simpa using dy⟩
   refine .inr (.inr (.inr (.inl ⟨ax,ay,xs,ys,rfl,rfl,hx,hy,hxe,by omega,λe=>?_,λe p hp=>FE.tup fin r (dx.append dy) hp⟩)))
   ·subst e;refine FE.here fin r ?_;simp only[RD];have:y=[]:=by simpa using l2
    subst this;exact⟨ax,xs,rfl,hx,by simpa using dx⟩
 ·exact fin.elim
theorem w6 (ha:SE X EX a ma) (hb:SE X EX b mb):SE X EX (.BinOp a .Add b pos) (e2 fAdd ma mb):=z46 z86 z8t ha hb
def fMul:D->D->M D
 | .int i,.int j=>if (decide (-(2 ^ 64)<i)&&decide (i<2 ^ 64))||(decide (-(2 ^ 64)<j)&&decide (j<2 ^ 64)) then pure (.int (i * j)) else bad
 | .ref i,.int j=>do
  let x <- getL i
  if decide (-(2 ^ 63)<=j)&&decide (j<2 ^ 63) then newL (K07 j.toNat x).flatten else bad
 | _,_=>bad
theorem z9o:BR X.K EX (λx y H Q=>rI CMul (λi j=>.int (i * j)) x y H Q\/rRep x y H Q) fMul:=by
 intro ρ h H x y v u Q r rx ry fin;unfold fMul at fin;split at fin
 ·simp only[RD]at rx ry;subst rx;subst ry;split at fin
  ·rename_i hc;refine .inl ⟨_,_,rfl,rfl,?_,FE.here fin r (by simp[RD])⟩;simp only[K4c,K06,decide_eq_true_eq]at hc;exact hc
  ·exact fin.elim
 ·rename_i i j;simp only[RD]at rx ry;obtain⟨ai,rfl,hi⟩:=rx;subst ry;have f1:=Fin.bind fin;cases e:getL i h with
  | bad=>rw[e]at f1;exact f1.elim
  | err z hz=>exact(z0i e).elim
  | ok xs h1 =>
   obtain⟨rfl,q1⟩:=z0n e;rw[e]at f1;have f2:=f1 ρ H (Pre.refl _) (Ext.refl _ _) r;dsimp only at f2;split at f2
   ·rename_i hb;simp only[K06,decide_eq_true_eq]at hb;unfold newL at f2;split at f2
    ·rename_i hl;obtain⟨a1,n1,xs1,o1,d1⟩:=r.at q1;rw[hi]at n1;cases n1;refine .inr ⟨_,_,_,rfl,rfl,o1,hb.1,hb.2,?_,λp hp=>FE.lst f2 r (d1.flat j.toNat) hp⟩;rw[L2.len_rep,d1.length]at hl;rw[K22];exact hl
    ·exact f2.elim
   ·exact f2.elim
 ·exact fin.elim
def fCmp (g:Int->Int->Bool):D->D->M D:=fI λi j=>.bl (g i j)
def fLt:D->D->M D
 | .int i,.int j=>pure (.bl (decide (i<j)))
 | .str i,.str j=>pure (.bl (decide (i.cps.toList<j.cps.toList)))
 | _,_=>bad
def fLe:D->D->M D
 | .int i,.int j=>pure (.bl (decide (i<=j)))
 | .str i,.str j=>pure (.bl (!decide (j.cps.toList<i.cps.toList)))
 | _,_=>bad
def fGt:D->D->M D:=fCmp λi j=>decide (j<i)
def fGe:D->D->M D:=fCmp λi j=>decide (j<=i)
theorem z52:OpR X (K1s .LtE) (λx y H Q=>∃i j,x=.str i/\y=.str j/\Q (.bl (!decide (j.cps.toList<i.cps.toList))) H):=by
 intro pins s σ H x y v u Q I rx ry h;obtain⟨i,j,rfl,rfl,q⟩:=h;obtain⟨t,rfl⟩:=rx;obtain⟨t',rfl⟩:=ry;exact PySem.P.le_str ⟨.bl _,H,I,rfl,q⟩
theorem zi8 {K:K0}:BR K EX (λx y H Q=>rI0 (λi j=>.bl (decide (i<j))) x y H Q\/∃i j,x=.str i/\y=.str j/\Q (.bl (decide (i.cps.toList<j.cps.toList))) H) fLt:=by
 intro ρ h H x y v u Q r rx ry fin;unfold fLt at fin;split at fin
 ·simp only[RD]at rx ry;subst rx;subst ry;exact .inl ⟨_,_,rfl,rfl,FE.here fin r (by simp[RD])⟩
 ·simp only[RD]at rx ry;subst rx;subst ry;exact .inr ⟨_,_,rfl,rfl,FE.here fin r (by simp[RD])⟩
 ·exact fin.elim
theorem zm2 {K:K0}:BR K EX (λx y H Q=>rI0 (λi j=>.bl (decide (i<=j))) x y H Q\/∃i j,x=.str i/\y=.str j/\Q (.bl (!decide (j.cps.toList<i.cps.toList))) H) fLe:=by
 intro ρ h H x y v u Q r rx ry fin;unfold fLe at fin;split at fin
 ·simp only[RD]at rx ry;subst rx;subst ry;exact .inl ⟨_,_,rfl,rfl,FE.here fin r (by simp[RD])⟩
 ·simp only[RD]at rx ry;subst rx;subst ry;exact .inr ⟨_,_,rfl,rfl,FE.here fin r (by simp[RD])⟩
 ·exact fin.elim
def eqD:D->D->Option Bool
 | .int i,.int j=>some (decide (i=j))
 | .str i,.str j=>some (decide (i=j))
 | .bl i,.bl j=>some (decide (i=j))
 | .non,.non=>some true
 | .int _,.str _=>some false
 | .str _,.int _=>some false
 | .non,.int _=>some false
 | .int _,.non=>some false
 | .non,.str _=>some false
 | .str _,.non=>some false
 | _,_=>none
def fEq (neg:Bool):D->D->M D:=λx y=>match eqD x y with
 | some b=>pure (.bl (b != neg))
 | none=>bad
theorem z7V {K:K0}{ρ:List Addr}{H:Hp}{x y:D}{v u:V}{k:Bool}(e:eqD x y=some k) (rx:RD K ρ H x v) (ry:RD K ρ H y u):scal v u=true/\decide (v=u)=k:=by
 cases x<;>cases y<;>first
  | (have e':none=some k:=e
     exact nomatch e')
  | (simp only[eqD]at e
     simp only[RD]at rx ry;subst rx;subst ry;cases e;exact⟨rfl,by simp⟩)
theorem zk7 {K:K0}:BR K EX rEq (fEq false):=by
 intro ρ h H x y v u Q r rx ry fin;unfold fEq at fin;cases hk:eqD x y with
 | none=>rw[hk]at fin;exact fin.elim
 | some k =>
  rw[hk]at fin;obtain⟨h1,h2⟩:=z7V hk rx ry;refine⟨h1,?_⟩;rw[h2];refine FE.here fin r ?_;cases k<;>simp[RD]
def z1H:D->Bool
 | .non=>true
 | .bl _=>true
 | .int _=>true
 | .str _=>true
 | _=>false
def eqF:D->D->Bool
 | .non,.non=>true
 | .bl a,.bl b=>a==b
 | .bl a,.int b=>(if a then 1 else 0)==b
 | .int a,.bl b=>a==(if b then 1 else 0)
 | .int a,.int b=>a==b
 | .str a,.str b=>a==b
 | _,_=>false
def seqD:D->M (List D)
 | .tup xs=>pure xs
 | .fl xs=>pure xs
 | .ref n=>getL n
 | _=>bad
theorem z1Z {K:K0}{ρ:List Addr}{h h1:AH}{H:Hp}{y:D}{u:V}{ys:List D}(r:RH K ρ h H) (ry:RD K ρ H y u) (e:seqD y h=.ok ys h1):h1=h/\∃p xs,u=.ref p/\(SqL K H p xs\/SqT K H p xs)/\RDs K ρ H ys xs:=by
 unfold seqD at e;split at e
 ·cases e;simp only[RD]at ry;obtain⟨p,xs,rfl,h2,h3⟩:=ry;exact⟨rfl,p,xs,rfl,.inr h2,h3⟩
 ·cases e;simp only[RD]at ry;obtain⟨p,xs,rfl,h2,h3⟩:=ry;exact⟨rfl,p,xs,rfl,.inl h2.sq,h3⟩
 ·obtain⟨rfl,q⟩:=z0n e;simp only[RD]at ry;obtain⟨p,rfl,h2⟩:=ry;obtain⟨a,n1,xs,o1,d1⟩:=r.at q;rw[h2]at n1;cases n1;exact⟨rfl,p,xs,rfl,.inl (SqL.of o1),d1⟩
 ·cases e
theorem z2X {y:D}{h h1:AH}{x:Exn}(e:seqD y h=.err x h1):False:=by
 unfold seqD at e;split at e
 ·cases e
 ·cases e
 ·exact z0i e
 ·cases e
end
section
variable {env:Env}{es:List Expr}
theorem z3e {c k p}:K7 (.Constant c k p::es) env=(false,eval (.Constant c k p) env)::K7 es env:=rfl
theorem z7B {c p}:K7 (.Name c p::es) env=(false,eval (.Name c p) env)::K7 es env:=rfl
theorem z85 {a b c p}:K7 (.Call a b c p::es) env=(false,eval (.Call a b c p) env)::K7 es env:=rfl
theorem z5E {a b c p}:K7 (.BinOp a b c p::es) env=(false,eval (.BinOp a b c p) env)::K7 es env:=rfl
theorem z42 {a b c p}:K7 (.Compare a b c p::es) env=(false,eval (.Compare a b c p) env)::K7 es env:=rfl
theorem z2H {a b p}:K7 (.Subscript a b p::es) env=(false,eval (.Subscript a b p) env)::K7 es env:=rfl
theorem z6j {a b p}:K7 (.Tuple a b p::es) env=(false,eval (.Tuple a b p) env)::K7 es env:=rfl
theorem z7i {a p}:K7 (.List a p::es) env=(false,eval (.List a p) env)::K7 es env:=rfl
theorem z43 {a b p}:K7 (.UnaryOp a b p::es) env=(false,eval (.UnaryOp a b p) env)::K7 es env:=rfl
theorem z3g {a b c p}:K7 (.ListComp a b c p::es) env=(false,eval (.ListComp a b c p) env)::K7 es env:=rfl
end
section
variable {X:Cx}{EX:XX}{a b c e:Expr}{pos:Pos}{ma mb mc:G->M D}
def CO (X:Cx) (EX:XX) (op:CmpOp) (f:D->D->M D):Prop:=∃r,OpR X (K1s op) r/\BR X.K EX r f
theorem z8x:CO X EX .Lt fLt:=⟨_,op_lt.or z53,zi8⟩
theorem z6l:CO X EX .LtE fLe:=⟨_,op_le.or z52,zm2⟩
theorem z5M:CO X EX .Gt fGt:=⟨_,zk2,z75 λi j ρ H=>by simp[RD]⟩
theorem zj2:CO X EX .GtE fGe:=⟨_,zj3,z75 λi j ρ H=>by simp[RD]⟩
theorem z39:CO X EX .Eq (fEq false):=⟨_,zk0,zk7⟩
theorem se_c {op:CmpOp}{f:D->D->M D}(h:CO X EX op f) (ha:SE X EX a ma) (hb:SE X EX b mb) (hm:K30 op b=false:=by first|exact z6T _|with_unfolding_all rfl):SE X EX (.Compare a [op] [b] pos) (e2 f ma mb):=by
 obtain⟨r,h1,h2⟩:=h;exact z8M h1 h2 ha hb hm
def asB:D->M Bool
 | .bl b=>pure b
 | _=>bad
theorem zk9 {t:TE}{m:G->M D}(h:∀σ H Q,tE X.K EX m σ H Q->t σ H Q):∀σ H Q,tT X.K EX (λγ=>do let d <- m γ;asB d) σ H Q->z9U t σ H Q:=by
 intro σ H Q ⟨ρ,γ,h0,rel,fin⟩;refine h σ H _ ⟨ρ,γ,h0,rel,(Fin.bind fin).mono λd ρ1 h1 H1 p1 e1 r1 f1 v rv=>?_⟩;cases d<;>first|exact(show False from f1).elim|skip
 rename_i b;simp only[RD]at rv;exact⟨b,rv,f1 ρ1 H1 (Pre.refl _) (Ext.refl _ _) r1⟩
theorem sc_c {op:CmpOp}{f:D->D->M D}(h:CO X EX op f) (ha:SE X EX a ma) (hb:SE X EX b mb) (hm:K30 op b=false:=by first|exact z6T _|with_unfolding_all rfl):SC X EX (.Compare a [op] [b] pos) (λγ=>do let d <- e2 f ma mb γ;asB d):=by
 constructor;obtain⟨r,h1,h2⟩:=h;refine PT.imp (z8g h1 ha.h hb.h hm) (zk9 λσ H Q ⟨ρ,γ,h,rel,fin⟩=>?_);exact⟨ρ,γ,h,rel,(Fin.bind fin).mono λx ρ1 h1 H1 p1 e1 r1 f1 v rv=>⟨ρ1,γ,h1,⟨rel.g.mono p1 e1,r1⟩,(Fin.bind f1).mono λy ρ2 h3 H2 p2 e2 r2 f2 u ru =>
  h2 ρ2 h3 H2 x y v u Q r2 (rv.mono p2 e2) ru f2⟩⟩
def e3 (f g:D->D->M D) (ma mb mc:G->M D):G->M D:=λγ=>do
 let x <- ma γ;let y <- mb γ;let k <- f x y;let t <- asB k
 if t then do
  let z <- mc γ
  g y z
 else pure (.bl false)
theorem z5o {r r':R2}{f g:D->D->M D}(h2:BR X.K EX r f) (h4:BR X.K EX r' g):∀σ H Q,tE X.K EX (e3 f g ma mb mc) σ H Q->z6L r r' (tE X.K EX ma) (tE X.K EX mb) (tE X.K EX mc) σ H Q:=by
 intro σ H Q ⟨ρ,γ,h,rel,fin⟩;refine⟨ρ,γ,h,rel,(Fin.bind fin).mono λx ρ1 h1 H1 p1 e1 r1 f1 v rv=>⟨ρ1,γ,h1,⟨rel.g.mono p1 e1,r1⟩,(Fin.bind f1).mono λy ρ2 h3 H2 p2 e2 r2 f2 u ru=>?_⟩⟩;refine h2 ρ2 h3 H2 x y v u _ r2 (rv.mono p2 e2) ru ((Fin.bind f2).mono λk ρ3 h5 H3 p3 e3 r3 f3 z rz=>?_);cases k<;>first|exact(show False from f3).elim|skip
 rename_i t;simp only[RD]at rz;refine⟨t,rz,?_⟩;cases t with
 | false =>
  rw[if_neg (by decide)];exact FE.here (d:=.bl false) (h:=h5) (ρ:=ρ3) f3 r3 (by simp[RD])
 | true =>
  rw[if_pos rfl];have f4:Fin X.K EX ρ3 H3 (λd ρ' _ H'=>∀v,RD X.K ρ' H' d v->Q v H') ((mc γ >>= λz=>g y z) h5):=f3;exact⟨ρ3,γ,h5,⟨((rel.g.mono p1 e1).mono p2 e2).mono p3 e3,r3⟩,(Fin.bind f4).mono λw ρ4 h6 H4 p4 e4 r4 f5 q rq=>h4 ρ4 h6 H4 y w u q Q r4 ((ru.mono p3 e3).mono p4 e4) rq f5⟩
theorem z9i {op op':CmpOp}{f g:D->D->M D}(h:CO X EX op f) (h':CO X EX op' g) (ha:SE X EX a ma) (hb:SE X EX b mb) (hc:SE X EX c mc) (hm:lastMarks [op,op'] [b,c]=false:=by with_unfolding_all rfl):SE X EX (.Compare a [op,op'] [b,c] pos) (e3 f g ma mb mc):=by
 constructor;obtain⟨r,h1,h2⟩:=h;obtain⟨r',h3,h4⟩:=h';exact PE.imp (z5z h1 h3 ha.h hb.h hc.h hm) (z5o h2 h4)
def eAnd (ma mb:G->M D):G->M D:=λγ=>do
 let x <- ma γ;let t <- asB x
 if t then mb γ else pure (.bl false)
def eNot (ma:G->M D):G->M D:=λγ=>do
 let x <- ma γ;let t <- asB x
 pure (.bl (!t))
variable {rest:List Expr}
theorem z2I {op:PySem.BoolOp}(ha:SE X EX a ma):SE X EX (.BoolOp op [a] pos) ma:=⟨z91 ha.h⟩
theorem z0Z (ha:SE X EX a ma) (hb:SE X EX (.BoolOp .And (b::rest) pos) mb):SE X EX (.BoolOp .And (a::b::rest) pos) (eAnd ma mb) :=
 ⟨PE.imp (zb4 ha.h hb.h) λσ H Q ⟨ρ,γ,h,rel,fin⟩=>⟨ρ,γ,h,rel,(Fin.bind fin).mono λx ρ1 h1 H1 p1 e1 r1 f1 v rv=>by
  cases x<;>first|exact(show False from f1).elim|skip
  rename_i t;simp only[RD]at rv;refine⟨t,rv,?_⟩;cases t with
  | true=>exact⟨ρ1,γ,h1,⟨rel.g.mono p1 e1,r1⟩,f1⟩
  | false=>exact FE.here (d:=.bl false) (h:=h1) (ρ:=ρ1) f1 r1 (by simp[RD])⟩⟩
theorem z4O (ha:SE X EX a ma):SE X EX (.UnaryOp .Not a pos) (eNot ma) :=
 ⟨PE.imp (z9J ha.h) λσ H Q ⟨ρ,γ,h,rel,fin⟩=>⟨ρ,γ,h,rel,(Fin.bind fin).mono λx ρ1 h1 H1 p1 e1 r1 f1 v rv=>by
  cases x<;>first|exact(show False from f1).elim|skip
  rename_i t;simp only[RD]at rv;exact⟨t,rv,FE.here (d:=.bl (!t)) (h:=h1) (ρ:=ρ1) f1 r1 (by simp[RD])⟩⟩⟩
structure SW (X:Cx) (EX:XX) (e:Expr) (m:G->M Bool):Prop where
 h:PW X e (tT X.K EX m)
theorem PW.imp {X:Cx}{e:Expr}{t t':TT}(h:PW X e t) (f:∀σ H Q,t' σ H Q->t σ H Q):PW X e t':=λw pins s σ H Q I z=>h w pins s σ H Q I (f σ H Q z)
variable {ka kb kc:G->M Bool}
def cAnd (ka kb:G->M Bool):G->M Bool:=λγ=>do
 let t <- ka γ
 if t then kb γ else pure false
def cOr (ka kb:G->M Bool):G->M Bool:=λγ=>do
 let t <- ka γ
 if t then pure true else kb γ
def cNot (ka:G->M Bool):G->M Bool:=λγ=>do
 let t <- ka γ
 pure (!t)
theorem z5l (ha:SC X EX a ka):SW X EX (.BoolOp .And [a] pos) ka:=⟨z74 ha.h⟩
theorem z1X (ha:SC X EX a ka):SW X EX (.BoolOp .Or [a] pos) ka:=⟨za5 ha.h⟩
theorem z6w (ha:SC X EX a ka) (hb:SW X EX (.BoolOp .And (b::rest) pos) kb):SW X EX (.BoolOp .And (a::b::rest) pos) (cAnd ka kb) :=
 ⟨PW.imp (z8H ha.h hb.h) λσ H Q ⟨ρ,γ,h,rel,fin⟩=>⟨ρ,γ,h,rel,(Fin.bind fin).mono λt ρ1 h1 H1 p1 e1 r1 f1=>by
  cases t with
  | true=>exact⟨ρ1,γ,h1,⟨rel.g.mono p1 e1,r1⟩,f1⟩
  | false=>exact f1 ρ1 H1 (Pre.refl _) (Ext.refl _ _) r1⟩⟩
theorem z3V (ha:SC X EX a ka) (hb:SW X EX (.BoolOp .Or (b::rest) pos) kb):SW X EX (.BoolOp .Or (a::b::rest) pos) (cOr ka kb) :=
 ⟨PW.imp (zg4 ha.h hb.h) λσ H Q ⟨ρ,γ,h,rel,fin⟩=>⟨ρ,γ,h,rel,(Fin.bind fin).mono λt ρ1 h1 H1 p1 e1 r1 f1=>by
  cases t with
  | false=>exact⟨ρ1,γ,h1,⟨rel.g.mono p1 e1,r1⟩,f1⟩
  | true=>exact f1 ρ1 H1 (Pre.refl _) (Ext.refl _ _) r1⟩⟩
theorem SW.sc (h:SW X EX e ka):SC X EX e ka:=⟨PW.pt h.h⟩
theorem z0f (ha:SC X EX a ka):SC X EX (.UnaryOp .Not a pos) (cNot ka) :=
 ⟨PT.imp (zb3 ha.h) λσ H Q ⟨ρ,γ,h,rel,fin⟩=>⟨ρ,γ,h,rel,(Fin.bind fin).mono λt ρ1 h1 H1 p1 e1 r1 f1=>f1 ρ1 H1 (Pre.refl _) (Ext.refl _ _) r1⟩⟩
def truD:D->M Bool
 | .non=>pure false
 | .bl b=>pure b
 | .int i=>pure (i != 0)
 | .str y=>if y.length<=sizeLine then pure (decide (y.length≠0)) else bad
 | .tup xs=>pure (!xs.isEmpty)
 | .fl xs=>pure (!xs.isEmpty)
 | .ref n=>do
  let xs <- getL n
  pure (!xs.isEmpty)
def cVal (ma:G->M D):G->M Bool:=λγ=>do
 let x <- ma γ
 truD x
theorem isE {K:K0}{ρ:List Addr}{H:Hp}{ds:List D}{xs:List V}(h:RDs K ρ H ds xs):ds.isEmpty=xs.isEmpty:=by
 have:=h.length;cases ds<;>cases xs<;>simp at this ⊢
theorem z79 {ρ:List Addr}{h:AH}{H:Hp}{x:D}{v:V}{Q:Bool->Hp->Prop}(r:RH X.K ρ h H) (rx:RD X.K ρ H x v) (f:Fin X.K EX ρ H (λb _ _ H'=>Q b H') (truD x h)):∃k,TruV X.K v H k/\Q k H:=by
 cases x with
 | non=>simp only[RD]at rx;subst rx;exact⟨false,rfl,f ρ H (Pre.refl _) (Ext.refl _ _) r⟩
 | bl b=>simp only[RD]at rx;subst rx;exact⟨b,rfl,f ρ H (Pre.refl _) (Ext.refl _ _) r⟩
 | int b=>simp only[RD]at rx;subst rx;exact⟨_,rfl,f ρ H (Pre.refl _) (Ext.refl _ _) r⟩
 | str y =>
  simp only[RD]at rx;subst rx;have f':Fin X.K EX ρ H (λb _ _ H'=>Q b H') ((if y.length<=sizeLine then pure (decide (y.length≠0)) else bad:M Bool) h):=f;by_cases hl:y.length<=sizeLine
  ·rw[if_pos hl]at f';refine⟨decide (y.length≠0),⟨hl,?_⟩,f' ρ H (Pre.refl _) (Ext.refl _ _) r⟩;rw[K1h];simp
  ·rw[if_neg hl]at f';exact f'.elim
 | tup xs =>
  simp only[RD]at rx;obtain⟨a,vs,rfl,h1,h2⟩:=rx;exact⟨!xs.isEmpty,.inr (.inl ⟨vs,h1,by rw[isE h2]⟩),f ρ H (Pre.refl _) (Ext.refl _ _) r⟩
 | fl xs =>
  simp only[RD]at rx;obtain⟨a,vs,rfl,h1,h2⟩:=rx;exact⟨!xs.isEmpty,.inl ⟨vs,h1.sq,by rw[isE h2]⟩,f ρ H (Pre.refl _) (Ext.refl _ _) r⟩
 | ref n =>
  have f1:=Fin.bind f;cases e:getL n h with
  | bad=>rw[e]at f1;exact f1.elim
  | err z hz=>exact(z0i e).elim
  | ok xs h1 =>
   obtain⟨rfl,q1⟩:=z0n e;rw[e]at f1;have f2:=f1 ρ H (Pre.refl _) (Ext.refl _ _) r;simp only[RD]at rx;obtain⟨a,rfl,h2⟩:=rx;obtain⟨a1,n1,vs,o1,d1⟩:=r.at q1;rw[h2]at n1;cases n1;exact⟨!xs.isEmpty,.inl ⟨vs,SqL.of o1,by rw[isE d1]⟩,f2 ρ H (Pre.refl _) (Ext.refl _ _) r⟩
theorem z0e (ha:SE X EX a ma) (he:∀whole,isTrue a X.env whole=(do let v <- whole;K5g a.pos;K4o [v] (truthy v)):=by intro _;rfl):SC X EX a (cVal ma) :=
 ⟨PT.imp (z64 ha.h he) λσ H Q ⟨ρ,γ,h,rel,fin⟩=>⟨ρ,γ,h,rel,(Fin.bind fin).mono λx ρ1 h1 H1 p1 e1 r1 f1 v rv=>z79 r1 rv f1⟩⟩
def aNil:G->M (List D):=λ_=>pure []
def z4 (ma:G->M D) (mr:G->M (List D)):G->M (List D):=λγ=>do
 let x <- ma γ;let r <- mr γ
 pure (x::r)
variable {es:List Expr}{mr:G->M (List D)}
theorem z7:SA X EX [] aNil:=⟨PA.imp z19 λσ H Q ⟨ρ,γ,h,rel,fin⟩=>fin ρ H (Pre.refl _) (Ext.refl _ _) rel.h [] RDs.nil⟩
theorem z3 (ha:SE X EX a ma) (hr:SA X EX es mr) (hs:K7 (a::es) X.env=(false,eval a X.env)::K7 es X.env:=by first|exact z3e|exact z7B|exact z85|exact z5E|exact z42|exact z2H|exact z6j|exact z7i|exact z43|exact z3g|rfl):SA X EX (a::es) (z4 ma mr) :=
 ⟨PA.imp (z08 ha.h hr.h hs) λσ H Q ⟨ρ,γ,h,rel,fin⟩=>⟨ρ,γ,h,rel,(Fin.bind fin).mono λx ρ1 h1 H1 p1 e1 r1 f1 v rv=>⟨ρ1,γ,h1,⟨rel.g.mono p1 e1,r1⟩,(Fin.bind f1).mono λds ρ2 h2 H2 p2 e2 r2 f2 vs rvs =>
  f2 ρ2 H2 (Pre.refl _) (Ext.refl _ _) r2 (v::vs) (RDs.cons (rv.mono p2 e2) rvs)⟩⟩⟩
def eTup (mr:G->M (List D)):G->M D:=λγ=>do
 let xs <- mr γ
 if xs.length<=sizeLine then pure (.tup xs) else bad
def eLst (mr:G->M (List D)):G->M D:=λγ=>do
 let xs <- mr γ
 newL xs
theorem z0p {k:Nat}(h:SA X EX es mr):SE X EX (.Tuple es k pos) (eTup mr) :=
 ⟨PE.imp (z9S h.h) λσ H Q ⟨ρ,γ,h,rel,fin⟩=>⟨ρ,γ,h,rel,(Fin.bind fin).mono λxs ρ1 h1 H1 p1 e1 r1 f1 vs rvs=>by
  by_cases hl:xs.length<=sizeLine
  ·rw[if_pos hl]at f1;exact⟨by rw[<- rvs.length];exact hl,λp hp=>FE.tup (h:=h1) f1 r1 rvs hp⟩
  ·rw[if_neg hl]at f1;exact(show False from f1).elim⟩⟩
theorem z2y (h:SA X EX es mr):SE X EX (.List es pos) (eLst mr) :=
 ⟨PE.imp (z8J h.h) λσ H Q ⟨ρ,γ,h,rel,fin⟩=>⟨ρ,γ,h,rel,(Fin.bind fin).mono λxs ρ1 h1 H1 p1 e1 r1 f1 vs rvs=>by
  unfold newL at f1;split at f1
  ·rename_i hl;exact⟨by rw[<- rvs.length];exact hl,λp hp=>FE.lst (h:=h1) f1 r1 rvs hp⟩
  ·exact(show False from f1).elim⟩⟩
def fIx:D->D->M D
 | .str z,.int i=>if z.length<=sizeLine then (match atI z.cps.toList i with
  | some c=>pure (.str ⟨#[c]⟩)
  | none=>bad) else bad
 | x,.int i=>do
  let xs <- seqD x
  match atI xs i with
  | some d=>pure d
  | none=>bad
 | _,_=>bad
theorem z8q {K:K0}{ρ:List Addr}{H:Hp}{ds:List D}{xs:List V}{i:Int}{d:D}(h:RDs K ρ H ds xs) (e:atI ds i=some d):∃x,atI xs i=some x/\RD K ρ H d x:=by
 unfold atI at e ⊢;rw[<- h.length];cases q:ixN ds.length i with
 | none=>rw[q]at e;cases e
 | some j=>rw[q]at e;exact h.get e
theorem zl1:BR X.K EX (rIx X.K) fIx:=by
 intro ρ h H x y v u Q r rx ry fin;unfold fIx at fin;split at fin
 ·simp only[RD]at rx ry;subst rx;subst ry;rename_i z i;by_cases hl:z.length<=sizeLine
  ·rw[if_pos hl]at fin;cases hc:atI z.cps.toList i with
   | none=>rw[hc]at fin;exact fin.elim
   | some c =>
    rw[hc]at fin;exact .inr (.inr ⟨_,_,c,rfl,rfl,hl,hc,FE.here fin r (by simp[RD])⟩)
  ·rw[if_neg hl]at fin;exact fin.elim
 ·rename_i i _;simp only[RD]at ry;subst ry;have f1:=Fin.bind fin;cases e:seqD x h with
  | bad=>rw[e]at f1;exact f1.elim
  | err z hz=>exact(z2X e).elim
  | ok ys h1 =>
   obtain⟨rfl,p,xs,rfl,hs,hd⟩:=z1Z r rx e;rw[e]at f1;have f2:=f1 ρ H (Pre.refl _) (Ext.refl _ _) r;dsimp only at f2;cases q:atI ys i with
   | none=>rw[q]at f2;exact f2.elim
   | some d =>
    rw[q]at f2;obtain⟨w,h2,h3⟩:=z8q hd q;rcases hs with hs|hs
    ·exact .inl ⟨p,xs,i,w,rfl,rfl,hs,h2,FE.here f2 r h3⟩
    ·exact .inr (.inl ⟨p,xs,i,w,rfl,rfl,hs,h2,FE.here f2 r h3⟩)
 ·exact fin.elim
theorem j6 (ha:SE X EX a ma) (hb:SE X EX b mb) (hs:z4M b:=by intro _ _;rfl):SE X EX (.Subscript a b pos) (e2 fIx ma mb) :=
 z4D (ta:=tE X.K EX ma) (tb:=tE X.K EX mb) (zj7 z9j ha.h hb.h hs) zl1
end
section
variable {X:Cx}{EX:XX}{a b c e:Expr}{pos p p2:Pos}{ma mb mc:G->M D}{es:List Expr}{mr:G->M (List D)}
def AR (K:K0) (EX:XX) (r:List V->Hp->VK->Prop) (f:List D->M D):Prop:=∀ρ h H ds vs Q,RH K ρ h H->RDs K ρ H ds vs->FE K EX ρ H Q (f ds h)->r vs H Q
def Z8 (f:List D->M D) (mr:G->M (List D)):G->M D:=λγ=>do
 let xs <- mr γ
 f xs
theorem z1m {r:List V->Hp->VK->Prop}{f:List D->M D}(h:PE X e (tCB r (tL X.K EX mr))) (hr:AR X.K EX r f):SE X EX e (Z8 f mr) :=
 ⟨PE.imp h λσ H Q ⟨ρ,γ,h,rel,fin⟩=>⟨ρ,γ,h,rel,(Fin.bind fin).mono λxs ρ1 h1 H1 p1 e1 r1 f1 vs rvs=>hr ρ1 h1 H1 xs vs Q r1 rvs f1⟩⟩
theorem rds1 {K:K0}{ρ:List Addr}{H:Hp}{d:D}{vs:List V}(h:RDs K ρ H [d] vs):∃v,vs=[v]/\RD K ρ H d v:=by
 simp only[RDs]at h;obtain⟨x,r,rfl,h2,rfl⟩:=h;exact⟨x,rfl,h2⟩
def fLen:List D->M D
 | [.str z]=>if z.length<=sizeLine then pure (.int z.length) else bad
 | [x]=>do
  let xs <- seqD x
  pure (.int xs.length)
 | _=>bad
theorem z9G:AR X.K EX (λxs H Q=>∃x n,xs=[x]/\LenV X.K x H n/\Q (.int n) H) fLen:=by
 intro ρ h H ds vs Q r rd fin;unfold fLen at fin;split at fin
 ·rename_i z;obtain⟨v,rfl,rv⟩:=rds1 rd;simp only[RD]at rv;subst rv;by_cases hl:z.length<=sizeLine
  ·rw[if_pos hl]at fin;exact⟨_,z.length,rfl,⟨hl,rfl⟩,FE.here fin r (by simp[RD])⟩
  ·rw[if_neg hl]at fin;exact fin.elim
 ·rename_i x _;obtain⟨v,rfl,rv⟩:=rds1 rd;have f1:=Fin.bind fin;cases e:seqD x h with
  | bad=>rw[e]at f1;exact f1.elim
  | err z hz=>exact(z2X e).elim
  | ok ys h1 =>
   obtain⟨rfl,p,xs,rfl,hs,hd⟩:=z1Z r rv e;rw[e]at f1;have f2:=f1 ρ H (Pre.refl _) (Ext.refl _ _) r;refine⟨_,ys.length,rfl,?_,FE.here f2 r (by simp[RD])⟩;rw[hd.length];rcases hs with hs|hs
   ·exact .inl ⟨xs,hs,rfl⟩
   ·exact .inr ⟨xs,hs,rfl⟩
 ·exact fin.elim
theorem y3 (hg:Gl X "len") (hm:X.mg "len" = none) (ha:SA X EX [a] mr) (he:K7 [a] X.env=[(false,eval a X.env)]:=by rfl):SE X EX (.Call (.Name "len" p) [a] [] pos) (Z8 fLen mr) :=
 z1m (z1d z6g hg hm PySem.boot_len ha.h (by decide) (by decide) he rfl) z9G
def z15:List D->M D
 | [.tup xs]=>pure (.tup xs)
 | [x]=>do
  let xs <- seqD x
  pure (.tup xs)
 | _=>bad
theorem z67:AR X.K EX (λxs H Q=>∃p ys,xs=[.ref p]/\((SqL X.K H p ys/\∀l,H l=none->Q (.ref l) (upd H l (.tup ys)))\/(SqT X.K H p ys/\Q (.ref p) H))) z15:=by
 intro ρ h H ds vs Q r rd fin;unfold z15 at fin;split at fin
 ·obtain⟨v,rfl,rv⟩:=rds1 rd;have rv':=rv;simp only[RD]at rv;obtain⟨q,xs,rfl,h1,h2⟩:=rv;exact⟨q,xs,rfl,.inr ⟨h1,FE.here fin r rv'⟩⟩
 ·rename_i x hx;obtain⟨v,rfl,rv⟩:=rds1 rd;have f1:=Fin.bind fin;cases e:seqD x h with
  | bad=>rw[e]at f1;exact f1.elim
  | err z hz=>exact(z2X e).elim
  | ok ys h1 =>
   obtain⟨rfl,q,xs,rfl,hs,hd⟩:=z1Z r rv e;rw[e]at f1;have f2:=f1 ρ H (Pre.refl _) (Ext.refl _ _) r;refine⟨q,xs,rfl,?_⟩;rcases hs with hs|hs
   ·exact .inl ⟨hs,λl hl=>FE.tup f2 r hd hl⟩
   ·refine .inr ⟨hs,FE.here f2 r ?_⟩;simp only[RD];exact⟨q,xs,rfl,hs,hd⟩
 ·exact fin.elim
theorem z3u (hg:Gl X "tuple") (hm:X.mg "tuple" = none) (ha:SA X EX [a] mr) (he:K7 [a] X.env=[(false,eval a X.env)]:=by rfl):SE X EX (.Call (.Name "tuple" p) [a] [] pos) (Z8 z15 mr) :=
 z1m (z1w z29 hg hm (by decide +kernel) ha.h (by decide) (by decide) he rfl) z67
def tyD:D->M String
 | .non=>pure "NoneType"
 | .bl _=>pure "bool"
 | .int _=>pure "int"
 | .str _=>pure "str"
 | .tup _=>pure "tuple"
 | .fl _=>pure "list"
 | .ref n=>λh=>match h[n]? with
  | .(l _)=>.ok "list" h
  | some .dct=>.ok "dict" h
  | some (.dK _)=>.ok "dict" h
  | _=>.bad
def subT (t T:String):Bool:=t==T||(t=="bool"&&T=="int")
def tyNames:List String:=["NoneType","bool","int","str","tuple","list","dict"]
def tyAsked:List String:=["bool","int","str","tuple","list","dict"]
theorem z7W:tyNames.all (λt=>tyAsked.all λT=>decide (K2r [] (.type t) (.type T)=some (subT t T)))=true:=by decide +kernel
theorem z3p {K:K0}{t T:String}(h1:t∈tyNames) (h2:T∈tyAsked):K2r K (.type t) (.type T)=some (subT t T):=by
 have q:=z7W;rw[K0t]at q;have q2:=q t h1;rw[K0t]at q2;have q3:=q2 T h2;exact of_decide_eq_true q3
def fIsi (T:String):D->M D:=λx=>do
 let t <- tyD x
 pure (.bl (subT t T))
theorem z4o {pins:List (Addr×Obj)}{σ:L2.St}{H:Hp}{s:Shared}{E:Value->Shared->Prop}{Q:Value->Shared->Prop}{q:Addr}{c:Value}{k:Bool}{xs:List V}(I:Inv X pins σ H s) (h:SqT X.K H q xs) (e:K2r X.K (.type "tuple") c=some k) (hQ:∀tk,Q (.bool k) { s with toks:=tk }) :
 wpAny (model X.prog X.w) X.A (call (.builtin "isinstance") [.ref q,c]) Q E s:=by
 obtain⟨its,_,ht,_⟩:=I.tuple h;obtain⟨o,h1,h2,_⟩:=ht;exact K10 K7w I.kIn ⟨o,h1,h2⟩ e (λz=>nomatch z) hQ
theorem z47 {pins:List (Addr×Obj)}{σ:L2.St}{H:Hp}{s:Shared}{E:Value->Shared->Prop}{Q:Value->Shared->Prop}{q:Addr}{c:Value}{k:Bool}{xs:List V}(I:Inv X pins σ H s) (h:SqL X.K H q xs) (e:K2r X.K (.type "list") c=some k) (hQ:∀tk,Q (.bool k) { s with toks:=tk }) :
 wpAny (model X.prog X.w) X.A (call (.builtin "isinstance") [.ref q,c]) Q E s:=by
 obtain⟨its,_,ht,_⟩:=I.list h;obtain⟨o,n,h1,h2,_⟩:=ht;exact K10 K5d I.kIn ⟨o,h1,h2⟩ e (λz=>nomatch z) hQ
def TyV (K:K0) (H:Hp) (v:V) (t:String):Prop:=match v with
 | .non=>t = "NoneType"
 | .bl _=>t = "bool"
 | .int _=>t = "int"
 | .str _=>t = "str"
 | .ref q=>(t = "tuple"/\∃xs,SqT K H q xs)\/(t = "list"/\∃xs,SqL K H q xs)\/(t = "dict"/\(H q=some (dctO q)\/∃kvs,H q=some (.dK kvs)))
 | _=>False
theorem z5R {T:String}(hT:T∈tyAsked):CallR X (.builtin "isinstance") (λxs H Q=>∃x t,xs=[x,.ty T]/\TyV X.K H x t/\Q (.bl (subT t T)) H):=by
 intro pins s σ H xs us Q I r h;obtain⟨x,t,rfl,ty,q⟩:=h;obtain⟨u,w',rfl,rx,rt⟩:=vals2 r;cases rt;have fin:∀tk,EP X pins σ Q (.bool (subT t T)) { s with toks:=tk }:=λtk=>⟨.bl _,H,I.tok tk,rfl,q⟩;have tb:∀{z:V} {t':Value},z=x->TyOf X.K H z t'->t'=.type t->t∈tyNames->wpAny (model X.prog X.w) X.A (call (.builtin "isinstance") [u,.type T]) (EP X pins σ Q) X.xe s:=λ{z t'} e1 ty' e2 hn=>by
  subst e1;subst e2;exact z1v I rx ty' (z3p hn hT) fin
 cases x with
 | non=>exact tb rfl .non (by rw[show t = "NoneType" from ty]) (by rw[show t = "NoneType" from ty];decide)
 | bl y=>exact tb rfl (.bl y) (by rw[show t = "bool" from ty]) (by rw[show t = "bool" from ty];decide)
 | int y=>exact tb rfl (.int y) (by rw[show t = "int" from ty]) (by rw[show t = "int" from ty];decide)
 | str y=>exact tb rfl (.str y) (by rw[show t = "str" from ty]) (by rw[show t = "str" from ty];decide)
 | ref y =>
  cases rx;rcases(show (t = "tuple"/\∃xs,SqT X.K H y xs)\/(t = "list"/\∃xs,SqL X.K H y xs)\/(t = "dict"/\(H y=some (dctO y)\/∃kvs,H y=some (.dK kvs))) from ty) with ⟨rfl,xs,hs⟩|⟨rfl,xs,hs⟩|⟨rfl,hs|⟨kvs,hs⟩⟩
  ·exact z4o I hs (z3p (by decide) hT) fin
  ·exact z47 I hs (z3p (by decide) hT) fin
  ·exact K10 K5e I.kIn (I.hok y _ hs).1 (z3p (by decide) hT) (λz=>nomatch z) fin
  ·exact tb rfl (.dK hs) rfl (by decide)
 | byt y=>exact(show False from ty).elim
 | flt y=>exact(show False from ty).elim
 | ty y=>exact(show False from ty).elim
theorem z73 {K:K0}{ρ:List Addr}{h h1:AH}{H:Hp}{x:D}{v:V}{t:String}(r:RH K ρ h H) (rx:RD K ρ H x v) (e:tyD x h=.ok t h1):h1=h/\TyV K H v t:=by
 cases x with
 | non=>cases e;simp only[RD]at rx;subst rx;exact⟨rfl,rfl⟩
 | bl y=>cases e;simp only[RD]at rx;subst rx;exact⟨rfl,rfl⟩
 | int y=>cases e;simp only[RD]at rx;subst rx;exact⟨rfl,rfl⟩
 | str y=>cases e;simp only[RD]at rx;subst rx;exact⟨rfl,rfl⟩
 | tup y=>cases e;simp only[RD]at rx;obtain⟨q,xs,rfl,h2,_⟩:=rx;exact⟨rfl,.inl ⟨rfl,xs,h2⟩⟩
 | fl y=>cases e;simp only[RD]at rx;obtain⟨q,xs,rfl,h2,_⟩:=rx;exact⟨rfl,.inr (.inl ⟨rfl,xs,h2.sq⟩)⟩
 | ref n =>
  simp only[RD]at rx;obtain⟨q,rfl,h2⟩:=rx;unfold tyD at e;dsimp only at e;cases q1:h[n]? with
  | none=>rw[q1]at e;cases e
  | some ob =>
   rw[q1]at e;cases ob with
   | set ks=>cases e
   | dK kvs =>
    cases e;obtain⟨a1,n1,vs,o1,d1⟩:=r.at q1;rw[h2]at n1;cases n1;exact⟨rfl,.inr (.inr ⟨rfl,.inr ⟨_,o1⟩⟩)⟩
   | dF kvs=>cases e
   | exc c=>cases e
   | ins _ _=>cases e
   | lst ds =>
    cases e;obtain⟨a1,n1,vs,o1,d1⟩:=r.at q1;rw[h2]at n1;cases n1;exact⟨rfl,.inr (.inl ⟨rfl,vs,SqL.of o1⟩)⟩
   | dct =>
    cases e;obtain⟨a1,n1,o1⟩:=r.at q1;rw[h2]at n1;cases n1;exact⟨rfl,.inr (.inr ⟨rfl,.inl o1⟩)⟩
theorem z8S {x:D}{h h1:AH}{z:Exn}(e:tyD x h=.err z h1):False:=by
 cases x with
 | ref n =>
  unfold tyD at e;dsimp only at e;split at e<;>cases e
 | _=>cases e
def eIsi (T:String) (ma:G->M D):G->M D:=λγ=>do
 let x <- ma γ
 fIsi T x
theorem z3B {T:Str}{T':String}(hg:Gl X "isinstance") (hm:X.mg "isinstance" = none) (hgT:Gl X T) (hmT:X.mg T=none) (hv:K3a T=some (.type T')) (hT:T'∈tyAsked) (ha:SE X EX a ma) (hn:T≠"__name__":=by decide) (hd:(T==("__debug__":Str))=false:=by decide)
 (he:K7 [a,.Name T p2] X.env=[(false,eval a X.env),(false,eval (.Name T p2) X.env)]:=by rfl) (he2:K7 [.Name T p2] X.env=[(false,eval (.Name T p2) X.env)]:=by rfl):SE X EX (.Call (.Name "isinstance" p) [a,.Name T p2] [] pos) (eIsi T' ma):=by
 constructor;have hA:PA X [a,.Name T p2] (z3N (tE X.K EX ma) (z3N (tC (.ty T')) tNil)):=z08 ha.h (z08 (z7I hgT hmT hv rfl hn hd) z19 he2) (by rw[he,he2]);refine PE.imp (z1d (z5R hT) hg hm (by decide +kernel) hA (by decide) (by decide) (by rw[he,he2]) (by rw[he2];rfl)) λσ H Q ⟨ρ,γ,h,rel,fin⟩=>⟨ρ,γ,h,rel,(Fin.bind fin).mono λx ρ1 h1 H1 p1 e1 r1 f1 v rv=>?_⟩;have f2:=Fin.bind f1;cases e:tyD x h1 with
 | bad=>rw[e]at f2;exact f2.elim
 | err z hz=>exact(z8S e).elim
 | ok t h2 =>
  obtain⟨rfl,ty⟩:=z73 r1 rv e;rw[e]at f2;have f3:=f2 ρ1 H1 (Pre.refl _) (Ext.refl _ _) r1;exact⟨v,t,rfl,ty,FE.here f3 r1 (by simp[RD])⟩
def blsD:List D->Option (List Bool)
 | []=>some []
 | .bl b::r=>(blsD r).map (b::·)
 | _::_=>none
def fAll (any:Bool):List D->M D
 | [.ref n]=>do
  let xs <- getL n
  match blsD xs with
  | some bs=>pure (.bl (if any then bs.any id else bs.all id))
  | none=>bad
 | _=>bad
theorem z4f {K:K0}{ρ:List Addr}{H:Hp}:∀{xs:List D}{bs:List Bool}{vs:List V},blsD xs=some bs->RDs K ρ H xs vs->vs=bs.map V.bl
 | [],bs,vs,e,r=>by simp only[RDs]at r;cases e;subst r;rfl
 | x::xs,bs,vs,e,r=>by
  simp only[RDs]at r;obtain⟨v,r2,rfl,h1,h2⟩:=r;cases x<;>first|(simp only[blsD]at e;cases e;done)|skip
  rename_i b;simp only[blsD]at e;obtain⟨bs',e1,rfl⟩:=K2b.mp e;simp only[RD]at h1;subst h1;rw[z4f e1 h2];rfl
theorem z3z:∀{bs:List Bool}{us:List Value},Vals (bs.map V.bl) us->us=bs.map K2n
 | [],us,h=>by cases h;rfl
 | b::bs,us,h=>by
  cases h with
  | cons h1 h2=>cases h1;rw[z3z h2];rfl
theorem range_all {bs:List Bool}:((K0q bs.length).all λi=>bs.getD i false)=bs.all id:=by
 rw[K1h,K0t,K0t];constructor
 ·intro h x hx;obtain⟨i,hi,rfl⟩:=K4h hx;have:=h i (K1k.mpr hi);simpa [K7g,hi] using this
 ·intro h i hi;have hi':=K1k.mp hi;have:=h bs[i] (K5t hi');simpa [K7g,hi'] using this
theorem range_any {bs:List Bool}:((K0q bs.length).any λi=>bs.getD i false)=bs.any id:=by
 rw[K1h,K5u,K5u];constructor
 ·rintro⟨i,hi,h⟩;have hi':=K1k.mp hi;refine⟨bs[i],K5t hi',?_⟩;simpa [K7g,hi'] using h
 ·rintro⟨x,hx,h⟩;obtain⟨i,hi,rfl⟩:=K4h hx;exact⟨i,K1k.mpr hi,by simpa [K7g,hi] using h⟩
theorem z3b (any:Bool) (hc:X.calm=true):CallR X (.builtin (if any then "any" else "all")) (λxs H Q=>∃(q:Addr) (bs:List Bool),xs=[.ref q]/\SqL X.K H q (bs.map V.bl)/\Q (.bl (if any then bs.any id else bs.all id)) H):=by
 intro pins s σ H xs us Q I r h;obtain⟨q,bs,rfl,hq,hQ⟩:=h;obtain⟨u,rfl,ru⟩:=vals1 r;cases ru;obtain⟨its,rv,pl,hz⟩:=I.list hq;have ei:=z3z rv;have ne:q≠s.heap.objs.size:=K12 (by obtain⟨o,n,e,_⟩:=pl;exact K08 e);have pl':=pl.isList;have hwalk:=Walks.list (prog:=X.prog) (w:=X.w) (A:=X.A.in1) (show X.A.in1.handled=none from I.ok.hd hc) s.heap.objs.size q ne its.toArray;have len:its.toArray.size=bs.length:=by rw[ei];simp
 have st0:(s.heap.push { cls:=.type "list_iterator",data:=.fields #[.ref q,.int 0 0] }).IsListIter s.heap.objs.size q 0/\(s.heap.push { cls:=.type "list_iterator",data:=.fields #[.ref q,.int 0 0] }).IsList q its.toArray :=
  ⟨⟨_,K0r _ rfl,rfl,rfl⟩,pl'.at λo e=>K9 _ e⟩
 have tr:TruthOf X.prog X.w X.A.in1 (λi v=>its.toArray[i]?=some v) λi=>bs.getD i false:=λi v s' Q' E' hv hq'=>by
  have hv':its[i]?=some v:=by simpa using hv
  rw[ei,K0h]at hv';cases eb:bs[i]? with
  | none=>rw[eb]at hv';cases hv'
  | some b =>
   rw[eb]at hv';cases hv';have:bs.getD i false=b:=by simp[K7g,eb]
   dsimp only at hq';rw[this]at hq';exact K1r hq'
 have fin:∀k,k=(if any then bs.any id else bs.all id)->∀h' tk,(∀b o,b∉[s.heap.objs.size]->(s.heap.push { cls:=.type "list_iterator",data:=.fields #[.ref q,.int 0 0] }).get? b=some o->h'.get? b=some o) ->
  EP X pins σ Q (.bool k) { s with heap:=h',toks:=tk }:=λk ek h' tk hk=>by
  subst ek;refine⟨.bl _,H,I.kept λb o e=>hk b o ?_ (K9 _ e),rfl,hQ⟩;intro z;have:b=s.heap.objs.size:=by simpa using z
  exact absurd (K08 e) (by rw[this];exact K2d _)
 cases any with
 | false =>
  refine call_all_walk (K5j pl' ⟨_,_,_,_,_,_,_,rfl,hwalk,st0,tr,λh' tk hk=>?_⟩);exact fin _ (by rw[len];exact range_all) h' tk hk
 | true =>
  refine call_any_walk (K5j pl' ⟨_,_,_,_,_,_,_,rfl,hwalk,st0,tr,λh' tk hk=>?_⟩);exact fin _ (by rw[len];exact range_any) h' tk hk
theorem z95 {any:Bool}:AR X.K EX (λxs H Q=>∃(q:Addr) (bs:List Bool),xs=[.ref q]/\SqL X.K H q (bs.map V.bl)/\Q (.bl (if any then bs.any id else bs.all id)) H) (fAll any):=by
 intro ρ h H ds vs Q r rd fin;unfold fAll at fin;split at fin
 ·rename_i n;obtain⟨v,rfl,rv⟩:=rds1 rd;have f1:=Fin.bind fin;cases e:getL n h with
  | bad=>rw[e]at f1;exact f1.elim
  | err z hz=>exact(z0i e).elim
  | ok xs h1 =>
   obtain⟨rfl,q1⟩:=z0n e;rw[e]at f1;have f2:=f1 ρ H (Pre.refl _) (Ext.refl _ _) r;dsimp only at f2;cases eb:blsD xs with
   | none=>rw[eb]at f2;exact f2.elim
   | some bs =>
    rw[eb]at f2;simp only[RD]at rv;obtain⟨q,rfl,h2⟩:=rv;obtain⟨a1,n1,vs,o1,d1⟩:=r.at q1;rw[h2]at n1;cases n1;have ev:=z4f eb d1;subst ev;exact⟨q,bs,rfl,SqL.of o1,FE.here f2 r (by simp[RD])⟩
 ·exact fin.elim
theorem z9z (hc:X.calm=true) (hg:Gl X "all") (hm:X.mg "all" = none) (ha:SA X EX [a] mr) (he:K7 [a] X.env=[(false,eval a X.env)]:=by rfl):SE X EX (.Call (.Name "all" p) [a] [] pos) (Z8 (fAll false) mr) :=
 z1m (z1d (z3b false hc) hg hm (by decide +kernel) ha.h (by decide) (by decide) he rfl) z95
end
abbrev EX0:XX:=λ_ _ _ _=>False
def spB (K:K0) (mf:List D->M D) (n:Nat):Sp:=λvs H Q _=>vs.length=n/\∃ρ ds h,RH K ρ h H/\RDs K ρ H ds vs/\FE K EX0 ρ H Q (mf ds h)
structure Fn (P:K04) (w:World) (K:K0) (mg:Str->Option Value) (base:Heap) (k:Nat) (x:Str) (n:Nat) (mf:List D->M D):Prop where
 ex:∃f fd ps,FnOk P w K mg base CX0 k f fd ps (spB K mf n)/\Binds K fd ps []/\K19 K (.ref f)=true/\mg x=.(r f)
theorem Fn.up {P:K04}{w:World}{K:K0}{mg:Str->Option Value}{base:Heap}{j k:Nat}{x:Str}{n:Nat}{mf:List D->M D}(F:Fn P w K mg base j x n mf) (h:j<=k):Fn P w K mg base k x n mf:=by
 obtain⟨f,fd,ps,h1,h2,h3,h4⟩:=F.ex;exact⟨f,fd,ps,h1.mono h,h2,h3,h4⟩
def eFn (n:Nat) (mf:List D->M D) (mr:G->M (List D)):G->M D:=λγ=>do
 let xs <- mr γ
 if xs.length=n then mf xs else bad
section
variable {X:Cx}{a b c e:Expr}{pos p p2:Pos}{ma mb mc:G->M D}{es:List Expr}{mr:G->M (List D)}{k n:Nat}{x:Str}{mf:List D->M D}
theorem Z4 (F:Fn X.prog X.w X.K X.mg X.base k x n mf) (hr:Room k X.A) (hg:Gl X x) (ha:SA X EX0 (a::es) mr) (hdb:(x==("__debug__":Str))=false:=by decide)
 (he:K7 (a::es) X.env=(false,eval a X.env)::K7 es X.env:=by rfl) (hpl:(backTo pos (K7 es X.env)).any (·.1)=false:=by rfl):SE X EX0 (.Call (.Name x p) (a::es) [] pos) (eFn n mf mr):=by
 constructor;obtain⟨f,fd,ps,h1,h2,h3,h4⟩:=F.ex;refine PE.imp (z7R h1 hr hg h4 h3 h2 .nil z9b ha.h hdb he hpl) λσ H Q ⟨ρ,γ,h,rel,fin⟩=>⟨ρ,γ,h,rel,(Fin.bind fin).mono λxs ρ1 h1 H1 p1 e1 r1 f1 vs rvs=>?_⟩;show spB X.K mf n (vs++[]) H1 Q E0;rw[K1u];by_cases hl:xs.length=n
 ·rw[if_pos hl]at f1;exact⟨by rw[<- rvs.length];exact hl,ρ1,xs,h1,r1,rvs,f1⟩
 ·rw[if_neg hl]at f1;exact(show False from f1).elim
end
def v3 (n:Nat) (ds:List D):G:=ds.map some++K07 (n - ds.length) none
def runF (n:Nat) (mb:G->M Out) (ds:List D):M D:=do
 let o <- mb (v3 n ds)
 match o with
 | .nx _=>pure .non
 | .rt d=>pure d
 | _=>bad
section
variable {P:K04}{w:World}{K:K0}{mg:Str->Option Value}{base:Heap}
theorem z0I {ρ:List Addr}{H:Hp}{N:List Str}{ds:List D}{vs:List V}(h:RDs K ρ H ds vs):RG K ρ H (v3 N.length ds) (L2.start N vs):=by
 have hl:=h.length;refine⟨by unfold v3 L2.start;simp[hl],λi d e=>?_⟩;unfold v3 at e;unfold L2.start;rw[K2k]at e ⊢;rw[K1g]at e ⊢;rw[<- hl];split at e
 ·rename_i hi;rw[if_pos hi];rw[K0h]at e ⊢;cases q:ds[i]? with
  | none=>rw[q]at e;cases e
  | some d' =>
   rw[q]at e;cases e;obtain⟨v,h1,h2⟩:=h.get q;exact⟨v,by rw[h1];rfl,h2⟩
 ·rw[K62]at e;split at e<;>cases e
end
section
variable {env:Env}{t:Option Expr}{l:Nat}{tg:List Expr}
theorem z4s {a p}:K1w (.List a p) t l env=pure false:=rfl
theorem z3w {a b p}:K1w (.Tuple a b p) t l env=pure false:=rfl
theorem z1j {c k p}:K1w (.Constant c k p) t l env=pure false:=rfl
theorem z4G {c p}:K1w (.Name c p) t l env=pure false:=rfl
theorem z5i {a b c p}:K1w (.Call a b c p) t l env=pure false:=rfl
theorem z3q {a b c p}:K1w (.BinOp a b c p) t l env=pure false:=rfl
theorem z1W {a b c p}:K1w (.Compare a b c p) t l env=pure false:=rfl
theorem z18 {a b p}:K1w (.Subscript a b p) t l env=pure false:=rfl
theorem z1J {a b p}:K1w (.UnaryOp a b p) t l env=pure false:=rfl
theorem z2O {a b p}:K1w (.BoolOp a b p) t l env=pure false:=rfl
theorem z3I {a b c p}:K1w (.IfExp a b c p) t l env=pure false:=rfl
end
section
variable {X:Cx}{EX:XX}{a b c e:Expr}{pos p p2:Pos}{ma mb mc:G->M D}{ka kb kc:G->M Bool}{st:Stmt}{sts:List Stmt}{ms mt:G->M Out}
def bNil:G->M Out:=λγ=>pure (.nx γ)
def z8 (ms mt:G->M Out):G->M Out:=λγ=>do
 let o <- ms γ
 match o with
 | .nx γ'=>mt γ'
 | o=>pure o
theorem Z1:SB X EX [] bNil:=⟨PSs.imp z8h λσ H D ⟨ρ,γ,h,rel,fin⟩=>fin ρ H (Pre.refl _) (Ext.refl _ _) rel.h σ rel.g⟩
theorem z5 (h1:S1 X EX st ms) (h2:SB X EX sts mt):SB X EX (st::sts) (z8 ms mt) :=
 ⟨PSs.imp (z5v h1.h h2.h) λσ H D ⟨ρ,γ,h,rel,fin⟩=>⟨ρ,γ,h,rel,(Fin.bind fin).mono λo ρ1 h1 H1 p1 e1 r1 f1=>by
  cases o with
  | nx γ'=>exact λσ' rg=>⟨ρ1,γ',h1,⟨rg,r1⟩,f1⟩
  | rt d=>exact f1 ρ1 H1 (Pre.refl _) (Ext.refl _ _) r1
  | bk γ'=>exact f1 ρ1 H1 (Pre.refl _) (Ext.refl _ _) r1
  | ct γ'=>exact f1 ρ1 H1 (Pre.refl _) (Ext.refl _ _) r1⟩⟩
def sRet (ma:G->M D):G->M Out:=λγ=>do
 let d <- ma γ
 pure (.rt d)
theorem J0 (ha:SE X EX a ma):S1 X EX (.Return (some a) pos) (sRet ma) :=
 ⟨PS.imp (zd6 ha.h) λσ H D ⟨ρ,γ,h,rel,fin⟩=>⟨ρ,γ,h,rel,(Fin.bind fin).mono λd ρ1 h1 H1 p1 e1 r1 f1 v rv=>f1 ρ1 H1 (Pre.refl _) (Ext.refl _ _) r1 v rv⟩⟩
def z1E (ma:G->M D):G->M Out:=λγ=>do
 let _ <- ma γ
 pure (.nx γ)
theorem z6y (ha:SE X EX a ma) (hs:K1w a none pos.line X.env=pure false:=by first|exact z4s|exact z3w|exact z1j|exact z4G|exact z5i|exact z3q|exact z1W|exact z18|exact z1J|exact z2O|exact z3I|rfl):S1 X EX (.Expr a pos) (z1E ma) :=
 ⟨PS.imp (z6Y ha.h hs) λσ H D ⟨ρ,γ,h,rel,fin⟩=>⟨ρ,γ,h,rel,(Fin.bind fin).mono λd ρ1 h1 H1 p1 e1 r1 f1 v rv=>f1 ρ1 H1 (Pre.refl _) (Ext.refl _ _) r1 σ (rel.g.mono p1 e1)⟩⟩
def sIf (k:G->M Bool) (ms mt:G->M Out):G->M Out:=λγ=>do
 let t <- k γ
 if t then ms γ else mt γ
theorem s_if {sts':List Stmt}(hc:SC X EX c kc) (h1:SB X EX sts ms) (h2:SB X EX sts' mt):S1 X EX (.If c sts sts' pos) (sIf kc ms mt) :=
 ⟨PS.imp (zh6 hc.h h1.h h2.h) λσ H D ⟨ρ,γ,h,rel,fin⟩=>⟨ρ,γ,h,rel,(Fin.bind fin).mono λt ρ1 h1 H1 p1 e1 r1 f1=>by
  cases t with
  | true=>exact⟨ρ1,γ,h1,⟨rel.g.mono p1 e1,r1⟩,f1⟩
  | false=>exact⟨ρ1,γ,h1,⟨rel.g.mono p1 e1,r1⟩,f1⟩⟩⟩
def tG (K:K0) (EX:XX) (m:D->G->M G):TG:=λv σ H Q=>∃ρ γ h d,Rel K ρ γ h σ H/\RD K ρ H d v/\Fin K EX ρ H (λγ' ρ' _ H'=>∀σ',RG K ρ' H' γ' σ'->Q σ' H') (m d γ h)
def tGs (K:K0) (EX:XX) (m:List D->G->M G):TGs:=λvs σ H Q=>∃ρ γ h ds,Rel K ρ γ h σ H/\RDs K ρ H ds vs/\Fin K EX ρ H (λγ' ρ' _ H'=>∀σ',RG K ρ' H' γ' σ'->Q σ' H') (m ds γ h)
structure SG (X:Cx) (EX:XX) (tg:Expr) (m:D->G->M G):Prop where
 h:PG X tg (tG X.K EX m)
structure SGs (X:Cx) (EX:XX) (tg:List Expr) (m:List D->G->M G):Prop where
 h:PGs X tg (tGs X.K EX m)
theorem PG.imp {X:Cx}{e:Expr}{t t':TG}(h:PG X e t) (f:∀v σ H Q,t' v σ H Q->t v σ H Q):PG X e t':=λpins s σ H v u Q I r z=>h pins s σ H v u Q I r (f v σ H Q z)
theorem PGs.imp {X:Cx}{e:List Expr}{t t':TGs}(h:PGs X e t) (f:∀v σ H Q,t' v σ H Q->t v σ H Q):PGs X e t':=λpins s σ H v u Q I r z=>h pins s σ H v u Q I r (f v σ H Q z)
def tGk (K:K0) (EX:XX) (own:List Nat) (m:D->G->M G):TG:=λv σ H Q=>∃ρ γ h d,Rel K ρ γ h σ H/\RD K ρ H d v/\Fin K EX ρ H (λγ' ρ' _ H'=>∀σ',RG K ρ' H' γ' σ'->(∀j:Nat,j∉own->σ'[j]?=σ[j]?)->Q σ' H') (m d γ h)
def tGks (K:K0) (EX:XX) (own:List Nat) (m:List D->G->M G):TGs:=λvs σ H Q=>∃ρ γ h ds,Rel K ρ γ h σ H/\RDs K ρ H ds vs/\Fin K EX ρ H (λγ' ρ' _ H'=>∀σ',RG K ρ' H' γ' σ'->(∀j:Nat,j∉own->σ'[j]?=σ[j]?)->Q σ' H') (m ds γ h)
structure SGk (X:Cx) (EX:XX) (tg:Expr) (own:List Nat) (m:D->G->M G):Prop where
 h:PG X tg (tGk X.K EX own m)
structure SGks (X:Cx) (EX:XX) (tg:List Expr) (own:List Nat) (m:List D->G->M G):Prop where
 h:PGs X tg (tGks X.K EX own m)
def gN (i:Nat):D->G->M G:=λd γ=>pure (γ.set i (some d))
theorem z10 (i:Nat) {x:Str}(hN:X.N.Nodup) (hi:X.N[i]?=some x:=by rfl) (hx:Loc X.env.scope x:=by first|exact Or.inl rfl|exact Or.inr rfl) (hf:X.fn x=true\/X.env.scope.names.lookup x=some .local:=by first|exact .inl rfl|exact .inr rfl|assumption):SG X EX (.Name x pos) (gN i) :=
 ⟨PG.imp (z3f hN hi hx hf) λv σ H Q ⟨ρ,γ,h,d,rel,rd,fin⟩=>fin ρ H (Pre.refl _) (Ext.refl _ _) rel.h _ (rel.g.set i rd)⟩
theorem z04 (i:Nat) {x:Str}(hN:X.N.Nodup) (hi:X.N[i]?=some x:=by rfl) (hx:Loc X.env.scope x:=by first|exact Or.inl rfl|exact Or.inr rfl) (hf:X.fn x=true\/X.env.scope.names.lookup x=some .local:=by first|exact .inl rfl|exact .inr rfl|assumption):SGk X EX (.Name x pos) [i] (gN i) :=
 ⟨PG.imp (z3f hN hi hx hf) λv σ H Q ⟨ρ,γ,h,d,rel,rd,fin⟩=>fin ρ H (Pre.refl _) (Ext.refl _ _) rel.h _ (rel.g.set i rd) λj hj=>K23 (λz=>hj (by simp[z]))⟩
def z1q:List D->G->M G:=λds γ=>match ds with
 | []=>pure γ
 | _=>bad
def z00 (m:D->G->M G) (ms:List D->G->M G):List D->G->M G:=λds γ=>match ds with
 | []=>bad
 | d::r=>do
  let γ1 <- m d γ
  ms r γ1
theorem z33:SGs X EX [] z1q:=⟨PGs.imp z87 λv σ H Q ⟨ρ,γ,h,ds,rel,rd,fin⟩=>by
 cases ds with
 | nil=>simp only[RDs]at rd;exact⟨rd,fin ρ H (Pre.refl _) (Ext.refl _ _) rel.h σ rel.g⟩
 | cons d r=>exact(show False from fin).elim⟩
theorem z0u {es:List Expr}{m:D->G->M G}{mr:List D->G->M G}(h1:SG X EX e m) (h2:SGs X EX es mr) (hs:(K2o (e::es) X.env).map (·.2)=assign e X.env::(K2o es X.env).map (·.2):=by rfl):SGs X EX (e::es) (z00 m mr) :=
 ⟨PGs.imp (z5O h1.h h2.h hs) λvs σ H Q ⟨ρ,γ,h,ds,rel,rd,fin⟩=>by
  cases ds with
  | nil=>exact(show False from fin).elim
  | cons d r =>
   simp only[RDs]at rd;obtain⟨v,vr,rfl,h3,h4⟩:=rd;have fin':Fin X.K EX ρ H (λγ' ρ' _ H'=>∀σ',RG X.K ρ' H' γ' σ'->Q σ' H') ((m d γ >>= λγ1=>mr r γ1) h):=fin;exact⟨v,vr,rfl,ρ,γ,h,d,rel,h3,(Fin.bind fin').mono λγ1 ρ1 h1 H1 p1 e1 r1 f1 σ1 g1=>⟨ρ1,γ1,h1,r,⟨g1,r1⟩,h4.mono p1 e1,f1⟩⟩⟩
def gT (n:Nat) (m:List D->G->M G):D->G->M G:=λd γ=>match d with
 | .tup xs=>if xs.length=n then m xs γ else bad
 | _=>bad
theorem z4R {es:List Expr}{k n:Nat}{m:List D->G->M G}(hc:X.calm=true) (h:SGs X EX es m) (hn:(K2o es X.env).length=n:=by rfl) (hst:(K2o es X.env).findIdx? (·.1)=none:=by rfl):SG X EX (.Tuple es k pos) (gT n m) :=
 ⟨PG.imp (z9y hc h.h hn hst) λv σ H Q ⟨ρ,γ,h,d,rel,rd,fin⟩=>by
  cases d<;>first|exact(show False from fin).elim|skip
  rename_i xs;simp only[RD]at rd;obtain⟨q,vs,rfl,h1,h2⟩:=rd;have fin':Fin X.K EX ρ H (λγ' ρ' _ H'=>∀σ',RG X.K ρ' H' γ' σ'->Q σ' H') ((if xs.length=n then m xs γ else bad) h):=fin;by_cases hl:xs.length=n
  ·rw[if_pos hl]at fin';exact⟨q,vs,rfl,h1,by rw[<- h2.length];exact hl,ρ,γ,h,xs,rel,h2,fin'⟩
  ·rw[if_neg hl]at fin';exact(show False from fin').elim⟩
def fSet:D->D->D->M Unit:=λo i v=>match o,i with
 | .ref n,.int k=>λh=>match h[n]? with
  | .(l xs)=>(match ixN xs.length k with
   | some j=>.ok () (h.set n (.lst (xs.set j v)))
   | none=>.bad)
  | _=>.bad
 | _,_=>bad
def gIx (mo mi:G->M D):D->G->M G:=λv γ=>do
 let o <- mo γ;let i <- mi γ;let _ <- fSet o i v
 pure γ
theorem z7z {o i:Expr}{mo mi:G->M D}(ho:SE X EX o mo) (hi:SE X EX i mi)
 (ha:∀v,assign (.Subscript o i pos) X.env v=(do
  let ov <- K4o [v] (eval o X.env);let iv <- K4o [v,ov] (eval i X.env)
  K5g pos
  K4o [v,ov,iv] (K9e ov iv v)
  release [v,ov,iv] []):=by intro _;rfl):SG X EX (.Subscript o i pos) (gIx mo mi) :=
 ⟨PG.imp (z9k ho.h hi.h set_list ha) λv σ H Q ⟨ρ,γ,h,d,rel,rd,fin⟩=>⟨ρ,γ,h,rel,(Fin.bind fin).mono λod ρ1 h1 H1 p1 e1 r1 f1 ov ro=>⟨ρ1,γ,h1,⟨rel.g.mono p1 e1,r1⟩,(Fin.bind f1).mono λid ρ2 h2 H2 p2 e2 r2 f2 iv ri=>by
  have f3:=Fin.bind f2;cases od<;>first|exact(show False from f3).elim|skip
  rename_i n;cases id<;>first|exact(show False from f3).elim|skip
  rename_i k;simp only[RD]at ro ri;obtain⟨q,rfl,hq⟩:=ro;subst ri;have hq2:=p2 n q hq;unfold fSet at f3;dsimp only at f3;cases e4:h2[n]? with
  | none=>rw[e4]at f3;exact(show False from f3).elim
  | some ob =>
   cases ob with
   | set ks=>rw[e4]at f3;exact(show False from f3).elim
   | dct=>rw[e4]at f3;exact(show False from f3).elim
   | dK kvs=>rw[e4]at f3;exact(show False from f3).elim
   | dF kvs=>rw[e4]at f3;exact(show False from f3).elim
   | exc c=>rw[e4]at f3;exact(show False from f3).elim
   | ins _ _=>rw[e4]at f3;exact(show False from f3).elim
   | lst xs =>
    rw[e4]at f3;dsimp only at f3;cases e5:ixN xs.length k with
    | none=>rw[e5]at f3;exact(show False from f3).elim
    | some j =>
     rw[e5]at f3;obtain⟨a1,n1,vs,o1,d1⟩:=r2.at e4;rw[hq2]at n1;cases n1;have rd2:=(rd.mono p1 e1).mono p2 e2;have dd:=d1.set j rd2;refine⟨q,vs,k,j,rfl,rfl,o1,by rw[<- d1.length];exact e5,?_⟩;have ext:Ext X.K H2 (upd H2 q (.lst (vs.set j v))):=Ext.upd (.inr ⟨_,o1,trivial⟩);have f4:=f3 ρ2 _ (Pre.refl _) ext (r2.set e4 hq2 dd);exact f4 ρ2 _ (Pre.refl _) (Ext.refl _ _) (r2.set e4 hq2 dd) σ (((rel.g.mono p1 e1).mono p2 e2).mono (Pre.refl _) ext)⟩⟩⟩
def sAsg (ma:G->M D) (g:D->G->M G):G->M Out:=λγ=>do
 let d <- ma γ;let γ1 <- g d γ
 pure (.nx γ1)
theorem z45 {tg:Expr}{g:D->G->M G}(ha:SE X EX a ma) (hg:SG X EX tg g) (hs:swapsWithSole [tg] a pos.line X.env=pure false:=by rfl) (hw:swappedStores [tg] a X.env=pure none:=by rfl)
 (h1:(K2o [tg] X.env).map (·.2)=[assign tg X.env]:=by rfl):S1 X EX (.Assign [tg] a pos) (sAsg ma g) :=
 ⟨PS.imp (z9m ha.h hg.h hs hw h1) λσ H D ⟨ρ,γ,h,rel,fin⟩=>⟨ρ,γ,h,rel,(Fin.bind fin).mono λd ρ1 h1 H1 p1 e1 r1 f1 v rv=>⟨ρ1,γ,h1,d,⟨rel.g.mono p1 e1,r1⟩,rv,(Fin.bind f1).mono λγ1 ρ2 h2 H2 p2 e2 r2 f2 σ2 g2 =>
  f2 ρ2 H2 (Pre.refl _) (Ext.refl _ _) r2 σ2 g2⟩⟩⟩
theorem z0a (i:Nat) {x:Str}(hN:X.N.Nodup) (ha:SE X EX a ma) (hi:X.N[i]?=some x:=by rfl) (hx:Loc X.env.scope x:=by first|exact Or.inl rfl|exact Or.inr rfl) (hs:K1w a (some (.Name x p)) pos.line X.env=pure false:=by first|exact z4s|exact z3w|exact z1j|exact z4G|exact z5i|exact z3q|exact z1W|exact z18|exact z1J|exact z2O|exact z3I|rfl)
 (hf:X.fn x=true\/X.env.scope.names.lookup x=some .local:=by first|exact .inl rfl|exact .inr rfl|assumption):S1 X EX (.Assign [.Name x p] a pos) (sAsg ma (gN i)) :=
 ⟨PS.imp (zb9 hN hi hx ha.h hs hf) λσ H D ⟨ρ,γ,h,rel,fin⟩=>⟨ρ,γ,h,rel,(Fin.bind fin).mono λd ρ1 h1 H1 p1 e1 r1 f1 v rv=>f1 ρ1 H1 (Pre.refl _) (Ext.refl _ _) r1 _ ((rel.g.mono p1 e1).set i rv)⟩⟩
end
section
variable {X:Cx}{EX:XX}{a o e:Expr}{pos cpos apos:Pos}{ma mo:G->M D}
def updL (n:Nat) (f:List D->Option (D×List D)):M D:=λh=>match h[n]? with
 | .(l xs)=>(match f xs with
  | some (d,ys)=>if ys.length<=sizeLine then .ok d (h.set n (.lst ys)) else .bad
  | none=>.bad)
 | _=>.bad
def z2d:D->M Nat
 | .ref n=>λh=>match h[n]? with
  | .(l _)=>.ok n h
  | _=>.bad
 | _=>bad
def J7 (n:Nat) (v:D):M D:=updL n λxs=>some (.non,xs++[v])
def z1I (n:Nat) (i:D):M D:=match i with
 | .int k=>updL n λxs=>if -(2 ^ 63)<=k/\k<2 ^ 63 then (match K5v k xs.length with
  | some j=>(xs[j]?).map λd=>(d,xs.eraseIdx j)
  | none=>none) else none
 | _=>bad
def eM1 (f:Nat->D->M D) (mo ma:G->M D):G->M D:=λγ=>do
 let o <- mo γ;let n <- z2d o;let v <- ma γ
 f n v
theorem z3y {K:K0}{ρ:List Addr}{h:AH}{H:Hp}{Q:VK}{n:Nat}{q:Addr}{f:List D->Option (D×List D)}(r:RH K ρ h H) (hq:ρ[n]?=some q) (fin:FE K EX ρ H Q (updL n f h)) :
 ∃xs d ys vs,f xs=some (d,ys)/\ys.length<=sizeLine/\H q=.(l vs)/\RDs K ρ H xs vs/\∀v ws,RD K ρ H d v->RDs K ρ H ys ws->Q v (upd H q (.lst ws)):=by
 unfold updL at fin;cases e:h[n]? with
 | none=>rw[e]at fin;exact fin.elim
 | some ob =>
  cases ob with
  | set ks=>rw[e]at fin;exact fin.elim
  | dct=>rw[e]at fin;exact fin.elim
  | dK kvs=>rw[e]at fin;exact fin.elim
  | dF kvs=>rw[e]at fin;exact fin.elim
  | exc c=>rw[e]at fin;exact fin.elim
  | ins _ _=>rw[e]at fin;exact fin.elim
  | lst xs =>
   rw[e]at fin;dsimp only at fin;cases e2:f xs with
   | none=>rw[e2]at fin;exact fin.elim
   | some dy =>
    obtain⟨d,ys⟩:=dy;rw[e2]at fin;dsimp only at fin;split at fin
    ·rename_i hl;obtain⟨a1,n1,vs,o1,d1⟩:=r.at e;rw[hq]at n1;cases n1;refine⟨xs,d,ys,vs,e2,hl,o1,d1,λv ws rv rw'=>?_⟩;have ext:Ext K H (upd H q (.lst ws)):=Ext.upd (.inr ⟨_,o1,trivial⟩);exact fin ρ _ (Pre.refl _) ext (r.set e hq rw') v (rv.mono (Pre.refl _) ext)
    ·exact fin.elim
theorem z7S {K:K0}{ρ:List Addr}{h:AH}{H:Hp}{n:Nat}{q:Addr}{Z:Nat->List Addr->AH->Hp->Prop}(r:RH K ρ h H) (hq:ρ[n]?=some q) (f:Fin K EX ρ H Z (z2d (.ref n) h)):tyV K "list" (.ref q) H/\Z n ρ h H:=by
 unfold z2d at f;dsimp only at f;cases e:h[n]? with
 | none=>rw[e]at f;exact f.elim
 | some ob =>
  cases ob with
  | set ks=>rw[e]at f;exact f.elim
  | dct=>rw[e]at f;exact f.elim
  | dK kvs=>rw[e]at f;exact f.elim
  | dF kvs=>rw[e]at f;exact f.elim
  | exc c=>rw[e]at f;exact f.elim
  | ins _ _=>rw[e]at f;exact f.elim
  | lst xs =>
   rw[e]at f;obtain⟨a1,n1,vs,o1,d1⟩:=r.at e;rw[hq]at n1;cases n1;exact⟨.inl ⟨rfl,vs,SqL.of o1⟩,f ρ H (Pre.refl _) (Ext.refl _ _) r⟩
theorem zf6 {f:Nat->D->M D}{r:V->List V->Hp->VK->Prop}(hr:∀ρ h H n q y u Q,RH X.K ρ h H->ρ[n]?=some q->RD X.K ρ H y u->FE X.K EX ρ H Q (f n y h)->r (.ref q) [u] H Q) :
 ∀σ H Q,tE X.K EX (eM1 f mo ma) σ H Q->tBM X.K "list" r (tE X.K EX mo) (z3N (tE X.K EX ma) tNil) σ H Q:=λσ H Q ⟨ρ,γ,h,rel,fin⟩=>⟨ρ,γ,h,rel,(Fin.bind fin).mono λx ρ1 h1 H1 p1 e1 r1 f1 v rv=>by
 have f2:=Fin.bind f1;cases x<;>first|exact(show False from f2).elim|skip
 rename_i n;simp only[RD]at rv;obtain⟨q,rfl,hq⟩:=rv;obtain⟨lt,f3⟩:=z7S r1 hq f2;exact⟨lt,ρ1,γ,h1,⟨rel.g.mono p1 e1,r1⟩,(Fin.bind f3).mono λy ρ2 h2 H2 p2 e2 r2 f4 u ru=>hr ρ2 h2 H2 n q y u Q r2 (p2 n q hq) ru f4⟩⟩
theorem z4i (ho:SE X EX o mo) (ha:SE X EX a ma)
 (hbase:K2e o "append" X.env (eval o X.env)=eval o X.env:=by rfl)
 (hfew:((backTo cpos (K7 [a] X.env)).all (λx=>!x.1)&&(K47 cpos (K2u [] X.env)).all (λx=>x.1.isSome)
 &&decide (([a]:List Expr).length+([]:List K2q).length+(if ([]:List K2q).isEmpty then 0 else 1)<30))=true:=by rfl)
 (hline:(apos.endLine==cpos.line)=true:=by rfl) (hs:K7 [a] X.env=[(false,eval a X.env)]:=by rfl) :
 SE X EX (.Call (.Attribute o "append" apos) [a] [] cpos) (eM1 J7 mo ma) :=
 ⟨PE.imp (z7x K5x PySem.F.slot_list_append PySem.F.type_list_append z2N ho.h (z08 ha.h z19 hs) hbase hfew hline hs rfl) (zf6 λρ h H n q y u Q r hq ru fin=>by
  obtain⟨xs,d,ys,vs,g1,g2,g3,g4,g5⟩:=z3y r hq fin;cases g1;have hl:=g4.length;rw[K01,K0l]at g2;exact⟨q,vs,u,rfl,rfl,g3,by omega,g5 _ _ (by simp[RD]) (g4.append (RDs.cons ru RDs.nil))⟩)⟩
theorem z6d (ho:SE X EX o mo) (ha:SE X EX a ma)
 (hbase:K2e o "pop" X.env (eval o X.env)=eval o X.env:=by rfl)
 (hfew:((backTo cpos (K7 [a] X.env)).all (λx=>!x.1)&&(K47 cpos (K2u [] X.env)).all (λx=>x.1.isSome)
 &&decide (([a]:List Expr).length+([]:List K2q).length+(if ([]:List K2q).isEmpty then 0 else 1)<30))=true:=by rfl)
 (hline:(apos.endLine==cpos.line)=true:=by rfl) (hs:K7 [a] X.env=[(false,eval a X.env)]:=by rfl) :
 SE X EX (.Call (.Attribute o "pop" apos) [a] [] cpos) (eM1 z1I mo ma) :=
 ⟨PE.imp (z7x K5x PySem.F.slot_list_pop PySem.F.type_list_pop z5t ho.h (z08 ha.h z19 hs) hbase hfew hline hs rfl) (zf6 λρ h H n q y u Q r hq ru fin=>by
  cases y<;>first|exact(show False from fin).elim|skip
  rename_i k;simp only[RD]at ru;subst ru;obtain⟨xs,d,ys,vs,g1,g2,g3,g4,g5⟩:=z3y r hq fin;split at g1
  ·rename_i hk;cases e5:K5v k xs.length with
   | none=>rw[e5]at g1;cases g1
   | some j =>
    rw[e5]at g1;obtain⟨d',e1,e2⟩:=K2b.mp g1;cases e2;obtain⟨v,e3,e4⟩:=g4.get e1;exact⟨q,vs,k,j,v,rfl,rfl,g3,hk.1,hk.2,by rw[<- g4.length];exact e5,e3,g5 _ _ e4 (g4.eraseIdx j)⟩
  ·cases g1)⟩
end
inductive Src where
 | con (xs:List D)
 | lst (n:Nat) (xs:List D)
 | obj (n:Nat) (o:O) (xs:List D)
def Src.items:Src->List D
 | .con xs=>xs
 | .lst _ xs=>xs
 | .obj _ _ xs=>xs
def Src.good:Src->AH->Prop
 | .con _,_=>True
 | .lst n xs,h=>h[n]?=.(l xs)
 | .obj n o _,h=>h[n]?=some o
open Classical in
noncomputable def Src.chk (s:Src):M Unit:=λh=>if s.good h then .ok () h else .bad
def JOK (K:K0) (src:Src) (ρ:List Addr) (H:Hp) (J:It):Prop:=∀i ρ1 h1 H1,Pre ρ ρ1->Ext K H H1->RH K ρ1 h1 H1->src.good h1 ->
 (∀d,src.items[i]?=some d->J.go i H1/\∀x H2,J.yld i H1 x H2->RD K ρ1 H2 d x/\RH K ρ1 h1 H2/\Ext K H1 H2)/\(src.items.length=i->J.stop i H1)
def tI (K:K0) (EX:XX) (m:G->M Src):TI:=λσ H R=>∃ρ γ h,Rel K ρ γ h σ H/\Fin K EX ρ H (λsrc ρ' _ H'=>∀J,JOK K src ρ' H' J->R J H') (m γ h)
structure SI (X:Cx) (EX:XX) (tg iter:Expr) (m:G->M Src):Prop where
 h:PI X tg iter (tI X.K EX m)
theorem PI.imp {X:Cx}{tg e:Expr}{t t':TI}(h:PI X tg e t) (f:∀σ H R,t' σ H R->t σ H R):PI X tg e t':=λpins s σ H R I z=>h pins s σ H R I (f σ H R z)
section
variable {X:Cx}{EX:XX}{a o e tg:Expr}{pos cpos apos p:Pos}{ma mo:G->M D}{mr:G->M (List D)}
def z2D (ma:G->M D):G->M Src:=λγ=>do
 let x <- ma γ
 match x with
 | .fl xs=>pure (.con xs)
 | .ref n=>do
  let xs <- getL n
  pure (.lst n xs)
 | _=>bad
theorem z3c (ha:SE X EX a ma):SI X EX tg a (z2D ma) :=
 ⟨PI.imp (z8r ha.h) λσ H R ⟨ρ,γ,h,rel,fin⟩=>⟨ρ,γ,h,rel,(Fin.bind fin).mono λx ρ1 h1 H1 p1 e1 r1 f1 v rv=>by
  cases x<;>first|exact(show False from f1).elim|skip
  case fl xs =>
   simp only[RD]at rv;obtain⟨q,vs,rfl,h2,h3⟩:=rv;refine⟨q,rfl,⟨vs,h2.sq⟩,f1 ρ1 H1 (Pre.refl _) (Ext.refl _ _) r1 _ λi ρ2 h4 H2 p2 e2 r2 _=>⟨λd hd=>?_,λhi=>?_⟩⟩
   ·have h3':=h3.mono p2 e2;obtain⟨x,g1,g2⟩:=h3'.get hd;refine⟨⟨vs,x,(e2.l _ _ h2).sq,g1⟩,λy H3 ⟨z1,z2⟩=>?_⟩;subst z1;have:=z2 vs (e2.l _ _ h2).sq;rw[g1]at this;cases this;exact⟨g2,r2,Ext.refl _ _⟩
   ·exact⟨vs,(e2.l _ _ h2).sq,by rw[<- h3.length];exact K39 hi⟩
  case ref n =>
   have f2:Fin X.K EX ρ1 H1 (λsrc ρ' _ H'=>∀J,JOK X.K src ρ' H' J->R J H') ((getL n >>= λxs=>(pure (.lst n xs):M Src)) h1):=f1;have f3:=Fin.bind f2;cases e3:getL n h1 with
   | bad=>rw[e3]at f3;exact f3.elim
   | err z hz=>exact(z0i e3).elim
   | ok xs h3 =>
    obtain⟨rfl,q1⟩:=z0n e3;rw[e3]at f3;simp only[RD]at rv;obtain⟨q,rfl,hq⟩:=rv;obtain⟨a1,n1,vs,o1,d1⟩:=r1.at q1;rw[hq]at n1;cases n1;have f4:=f3 ρ1 H1 (Pre.refl _) (Ext.refl _ _) r1;refine⟨q,rfl,⟨vs,SqL.of o1⟩,f4 ρ1 H1 (Pre.refl _) (Ext.refl _ _) r1 _ λi ρ2 h4 H2 p2 e2 r2 g=>?_⟩;have g':h4[n]?=.(l xs):=g;obtain⟨a2,n2,vs2,o2,d2⟩:=r2.at g';rw[p2 n q hq]at n2;cases n2;refine⟨λd hd=>?_,λhi=>⟨vs2,SqL.of o2,by rw[<- d2.length];exact K39 hi⟩⟩;obtain⟨x,g1,g2⟩:=d2.get hd;refine⟨⟨vs2,x,SqL.of o2,g1⟩,λy H3 ⟨z1,z2⟩=>?_⟩;subst z1;have:=z2 vs2 (SqL.of o2);rw[g1]at this;cases this;exact⟨g2,r2,Ext.refl _ _⟩⟩⟩
def z2U (ma:G->M D):G->M Src:=λγ=>do
 let x <- ma γ
 match x with
 | .tup xs=>pure (.con xs)
 | _=>bad
theorem z4g (ha:SE X EX a ma):SI X EX tg a (z2U ma) :=
 ⟨PI.imp (z8Q ha.h) λσ H R ⟨ρ,γ,h,rel,fin⟩=>⟨ρ,γ,h,rel,(Fin.bind fin).mono λx ρ1 h1 H1 p1 e1 r1 f1 v rv=>by
  cases x<;>first|exact(show False from f1).elim|skip
  rename_i xs;simp only[RD]at rv;obtain⟨q,vs,rfl,h2,h3⟩:=rv;refine⟨q,rfl,⟨vs,h2⟩,f1 ρ1 H1 (Pre.refl _) (Ext.refl _ _) r1 _ λi ρ2 h4 H2 p2 e2 r2 _=>⟨λd hd=>?_,λhi=>?_⟩⟩
  ·have h3':=h3.mono p2 e2;obtain⟨x,g1,g2⟩:=h3'.get hd;refine⟨⟨vs,x,e2.t _ _ h2,g1⟩,λy H3 ⟨z1,z2⟩=>?_⟩;subst z1;have:=z2 vs (e2.t _ _ h2);rw[g1]at this;cases this;exact⟨g2,r2,Ext.refl _ _⟩
  ·exact⟨vs,e2.t _ _ h2,by rw[<- h3.length];exact K39 hi⟩⟩⟩
def z0q (n:Nat):List D:=(K0q n).map λ(i:Nat)=>.int i
def z14 (ma:G->M D):G->M Src:=λγ=>do
 let x <- ma γ
 match x with
 | .int j=>if -(2 ^ 62)<=j/\j<2 ^ 62 then pure (.con (z0q j.toNat)) else bad
 | _=>bad
theorem z1c (hg:Gl X "range") (hm:X.mg "range" = none) (ha:SE X EX a ma) (hs:K7 [a] X.env=[(false,eval a X.env)]:=by rfl):SI X EX tg (.Call (.Name "range" p) [a] [] pos) (z14 ma) :=
 ⟨PI.imp (z4A hg hm (z08 ha.h z19 hs) hs) λσ H R ⟨ρ,γ,h,rel,fin⟩=>⟨ρ,γ,h,rel,(Fin.bind fin).mono λx ρ1 h1 H1 p1 e1 r1 f1 v rv=>by
  cases x<;>first|exact(show False from f1).elim|skip
  rename_i j;simp only[RD]at rv;subst rv;have f2:Fin X.K EX ρ1 H1 (λsrc ρ' _ H'=>∀J,JOK X.K src ρ' H' J->R J H') ((if -(2 ^ 62)<=j/\j<2 ^ 62 then pure (.con (z0q j.toNat)) else bad:M Src) h1):=f1;by_cases hj:-(2 ^ 62)<=j/\j<2 ^ 62
  ·rw[if_pos hj]at f2;refine⟨j,rfl,hj.1,hj.2,f2 ρ1 H1 (Pre.refl _) (Ext.refl _ _) r1 _ λi ρ2 h4 H2 p2 e2 r2 _=>⟨λd hd=>?_,λhi=>?_⟩⟩
   ·have hd':(z0q j.toNat)[i]?=some d:=hd;unfold z0q at hd';rw[K0h]at hd';have hi:i<j.toNat:=by
     by_cases hi:i<j.toNat
     ·exact hi
     ·rw[K0n (by simpa using hi)]at hd';cases hd'
    rw[K3c hi]at hd';cases hd';refine⟨hi,λy H3 ⟨z1,z2⟩=>?_⟩;subst z1;subst z2;exact⟨by simp[RD],r2,Ext.refl _ _⟩
   ·have hi':(z0q j.toNat).length=i:=hi;unfold z0q at hi';rw[K1g,K8l]at hi';exact K39 hi'
  ·rw[if_neg hj]at f2;exact f2.elim⟩⟩
end
noncomputable def forR (src:Src) (g:D->G->M G) (body:G->M Out):List D->G->M Out
 | [],γ=>do
  let _ <- src.chk
  pure (.nx γ)
 | d::r,γ=>do
  let _ <- src.chk;let γ1 <- g d γ;let o <- body γ1
  match o with
  | .nx γ2=>forR src g body r γ2
  | .ct γ2=>forR src g body r γ2
  | .bk γ2=>pure (.nx γ2)
  | .rt v=>pure (.rt v)
noncomputable def sFor (mi:G->M Src) (g:D->G->M G) (body:G->M Out):G->M Out:=λγ=>do
 let src <- mi γ
 forR src g body src.items γ
theorem z3t {K:K0}{EX:XX}{ρ:List Addr}{H:Hp}{α:Type}{P:α->List Addr->AH->Hp->Prop}{src:Src}{f:Unit->M α}{h:AH}(fin:Fin K EX ρ H P ((src.chk >>= f) h)) (r:RH K ρ h H):src.good h/\Fin K EX ρ H P (f () h):=by
 have f1:=Fin.bind fin;unfold Src.chk at f1;split at f1
 ·rename_i hg;exact⟨hg,f1 ρ H (Pre.refl _) (Ext.refl _ _) r⟩
 ·exact f1.elim
section
variable {X:Cx}{EX:XX}{a o e tg c:Expr}{pos cpos apos p:Pos}{ma mo:G->M D}{mi:G->M Src}{g:D->G->M G}{mb:G->M Out}{sts:List Stmt}{kc:G->M Bool}
theorem z9n (hp:K8w (model X.prog X.w) X.A X.env X.xe) (hc:X.calm=true) (hi:SI X EX tg e mi) (hg:SG X EX tg g) (hb:SB X EX sts mb) (hs:∀x,K1z e X.env x=pure x:=by intro _;rfl):S1 X EX (.For tg e sts [] pos) (sFor mi g mb) :=
 ⟨PS.imp (z8I hp hc hi.h hg.h hb.h hs) λσ H D ⟨ρ,γ,h,rel,fin⟩=>⟨ρ,γ,h,rel,(Fin.bind fin).mono λsrc ρ0 h0 H0 p0 e0 r0 f0 J hJ=>by
  refine⟨λi m σ H=>m+i=src.items.length/\∃ρ γ h,Pre ρ0 ρ/\Ext X.K H0 H/\Rel X.K ρ γ h σ H/\Fin X.K EX ρ H (λo ρ' _ H'=>OutP X.K D o ρ' H') (forR src g mb (src.items.drop i) γ h),
   ⟨src.items.length,rfl,ρ0,γ,h0,Pre.refl _,Ext.refl _ _,⟨rel.g.mono p0 e0,r0⟩,f0⟩,?_⟩
  rintro i m σ1 H1 ⟨hm,ρ1,γ1,h1,p1,e1,rel1,f1⟩;by_cases hi:i<src.items.length
  ·have hd:src.items.drop i=src.items[i]::src.items.drop (i+1):=K58 hi;rw[hd]at f1;unfold forR at f1;obtain⟨good,f2⟩:=z3t f1 rel1.h;obtain⟨j1,j2⟩:=hJ i ρ1 h1 H1 p1 e1 rel1.h good;obtain⟨go,yld⟩:=j1 src.items[i] (K6 hi);refine .inr ⟨go,λσ' H'=>∃ρ γ h,Pre ρ0 ρ/\Ext X.K H0 H'/\Rel X.K ρ γ h σ' H'/\Fin X.K EX ρ H' (λo ρ' _ H'=>OutP X.K D o ρ' H') (forR src g mb (src.items.drop (i+1)) γ h),λσ' H' z=>⟨m - 1,by omega,by omega,z⟩,λx H2 y=>?_⟩;obtain⟨rd,rh,ext⟩:=yld x H2 y;refine⟨ρ1,γ1,h1,_,⟨rel1.g.mono (Pre.refl _) ext,rh⟩,rd,(Fin.bind (Fin.up (Pre.refl _) ext f2)).mono λγ2 ρ3 h3 H3 p3 e3 r3 f3 σ3 g3=>⟨ρ3,γ2,h3,⟨g3,r3⟩,(Fin.bind f3).mono λo ρ4 h4 H4 p4 e4 r4 f4=>?_⟩⟩;have pp:Pre ρ0 ρ4:=(p1.trans p3).trans p4;have ee:Ext X.K H0 H4:=((e1.trans ext).trans e3).trans e4;cases o with
   | nx γ5=>exact λσ5 g5=>⟨ρ4,γ5,h4,pp,ee,⟨g5,r4⟩,f4⟩
   | ct γ5=>exact λσ5 g5=>⟨ρ4,γ5,h4,pp,ee,⟨g5,r4⟩,f4⟩
   | bk γ5=>exact λσ5 g5=>f4 ρ4 H4 (Pre.refl _) (Ext.refl _ _) r4 σ5 g5
   | rt d=>exact λv rv=>f4 ρ4 H4 (Pre.refl _) (Ext.refl _ _) r4 v rv
  ·have hd:src.items.drop i=[]:=K6i (by omega);rw[hd]at f1;unfold forR at f1;obtain⟨good,f2⟩:=z3t f1 rel1.h;obtain⟨j1,j2⟩:=hJ i ρ1 h1 H1 p1 e1 rel1.h good;exact .inl ⟨j2 (by omega),f2 ρ1 H1 (Pre.refl _) (Ext.refl _ _) rel1.h σ1 rel1.g⟩⟩⟩
def z0O (k:G->M Bool) (body:G->M Out):Nat->G->M Out
 | 0,_=>bad
 | n+1,γ=>do
  let t <- k γ
  if t then do
   let o <- body γ
   match o with
   | .nx γ2=>z0O k body n γ2
   | .ct γ2=>z0O k body n γ2
   | .bk γ2=>pure (.nx γ2)
   | .rt v=>pure (.rt v)
  else pure (.nx γ)
theorem z7g (n:Nat) (hp:K8w (model X.prog X.w) X.A X.env X.xe) (hc:SC X EX c kc) (hb:SB X EX sts mb):S1 X EX (.While c sts [] pos) (z0O kc mb n) :=
 ⟨PS.imp (z5J hp hc.h hb.h) λσ H D ⟨ρ,γ,h,rel,fin⟩=>by
  refine⟨λm σ H=>∃ρ γ h,Rel X.K ρ γ h σ H/\Fin X.K EX ρ H (λo ρ' _ H'=>OutP X.K D o ρ' H') (z0O kc mb m γ h),⟨n,ρ,γ,h,rel,fin⟩,?_⟩;rintro m σ1 H1 ⟨ρ1,γ1,h1,rel1,f1⟩;cases m with
  | zero=>exact(show False from f1).elim
  | succ m =>
   unfold z0O at f1;refine⟨ρ1,γ1,h1,rel1,(Fin.bind f1).mono λt ρ2 h2 H2 p2 e2 r2 f2=>?_⟩;cases t with
   | false=>exact f2 ρ2 H2 (Pre.refl _) (Ext.refl _ _) r2 σ1 (rel1.g.mono p2 e2)
   | true =>
    rw[if_pos rfl]at f2 ⊢;refine⟨λσ' H'=>∃ρ γ h,Rel X.K ρ γ h σ' H'/\Fin X.K EX ρ H' (λo ρ' _ H'=>OutP X.K D o ρ' H') (z0O kc mb m γ h),λσ' H' z=>⟨m,by omega,z⟩,ρ2,γ1,h2,⟨rel1.g.mono p2 e2,r2⟩,(Fin.bind f2).mono λo ρ4 h4 H4 p4 e4 r4 f4=>?_⟩;cases o with
    | nx γ5=>exact λσ5 g5=>⟨ρ4,γ5,h4,⟨g5,r4⟩,f4⟩
    | ct γ5=>exact λσ5 g5=>⟨ρ4,γ5,h4,⟨g5,r4⟩,f4⟩
    | bk γ5=>exact λσ5 g5=>f4 ρ4 H4 (Pre.refl _) (Ext.refl _ _) r4 σ5 g5
    | rt d=>exact λv rv=>f4 ρ4 H4 (Pre.refl _) (Ext.refl _ _) r4 v rv⟩
end
def capG (cap:List (Option Nat)) (γ:G):G:=cap.map λo=>match o with|some j=>(γ[j]?).join|none=>none
theorem z8m {K:K0}{ρ:List Addr}{H:Hp}{γ:G}{σ:L2.St}(cap:List (Option Nat)) (r:RG K ρ H γ σ):RG K ρ H (capG cap γ) (z1s cap σ):=by
 refine⟨by simp[capG,z1s],λi d e=>?_⟩;unfold capG at e;unfold z1s;rw[K0h]at e ⊢;cases q:cap[i]? with
 | none=>rw[q]at e;cases e
 | some o =>
  rw[q]at e;cases o with
  | none=>simp at e
  | some j =>
   have e2:(γ[j]?).join=some d:=by simpa using e
   have e3:γ[j]?=some (some d):=by
    cases q2:γ[j]? with
    | none=>rw[q2]at e2;simp at e2
    | some o2=>rw[q2]at e2;simp at e2;rw[e2]
   obtain⟨v,h1,h2⟩:=r.var j d e3;exact⟨v,by simp[h1],h2⟩
noncomputable def z1x (src:Src) (g:D->G->M G) (k:G->M Bool) (me:G->M D) (n0:Nat) (γ:G):List D->M Unit
 | []=>do
  let _ <- src.chk
  pure ()
 | d::r=>do
  let _ <- src.chk;let γ1 <- g d γ;let t <- k γ1
  if t then do
   let v <- me γ1;let _ <- J7 n0 v
   z1x src g k me n0 γ r
  else z1x src g k me n0 γ r
noncomputable def z0A (cap:List (Option Nat)) (mi:G->M Src) (g:D->G->M G) (k:G->M Bool) (me:G->M D):G->M D:=λγ=>do
 let src <- mi γ;let n0 <- (λh=>.ok h.length (h++[.lst []]):M Nat);let _ <- z1x src g k me n0 (capG cap γ) src.items
 pure (.ref n0)
structure SCs (X:Cx) (EX:XX) (ifs:List Expr) (m:G->M Bool):Prop where
 h:PTs X ifs (tT X.K EX m)
theorem PTs.imp {X:Cx}{e:List Expr}{t t':TT}(h:PTs X e t) (f:∀σ H Q,t' σ H Q->t σ H Q):PTs X e t':=λpins s σ H Q I z=>h pins s σ H Q I (f σ H Q z)
section
variable {X:Cx}{EX:XX}{elt tg iter c:Expr}{ifs:List Expr}{sc:Scope}{pos:Pos}{N':List Str}{cap:List (Option Nat)}{own:List Nat}{mi:G->M Src}{g:D->G->M G}{k kr:G->M Bool}{me:G->M D}
theorem z0U:SCs X EX [] (λ_=>pure true):=⟨PTs.imp z4y λσ H Q ⟨ρ,γ,h,rel,fin⟩=>fin ρ H (Pre.refl _) (Ext.refl _ _) rel.h⟩
theorem z3h (h:SC X EX c k):SCs X EX [c] k:=⟨PTs.imp (z63 h.h z4y) λσ H Q ⟨ρ,γ,h,rel,fin⟩=>⟨ρ,γ,h,rel,fin.mono λt ρ1 h1 H1 p1 e1 r1 f1=>by
 cases t with
 | true=>exact f1
 | false=>exact f1⟩⟩
def HB (X:Cx) (EX:XX) (own:List Nat) (σ0:L2.St) (ρ0:List Addr) (b:G->M Unit->M Unit) (tb:TB):Prop :=
 ∀{σ:L2.St} {γ1:G} {ρ:List Addr} {h:AH} {H:Hp} {P:Unit->List Addr->AH->Hp->Prop} {K:M Unit} {Z:Hp->Prop},Pre ρ0 ρ->(∀j,j∉own->σ[j]?=σ0[j]?)->RG X.K ρ H γ1 σ->RH X.K ρ h H->Fin X.K EX ρ H P (b γ1 K h) ->
  (∀ρ' h' H',Pre ρ ρ'->Ext X.K H H'->RH X.K ρ' h' H'->Fin X.K EX ρ' H' P (K h')->Z H')->tb σ H Z
theorem z9L {F:List D->M Unit}{b:G->M Unit->M Unit}{tb:TB}{σ0:L2.St}{H0:Hp}{ρ0:List Addr}{h0:AH}{γ:G}{src:Src}{J:It}{P:Hp->Prop}
 (hnil:F []=(do let _ <- src.chk;pure ())) (hcons:∀d r,F (d::r)=(do let _ <- src.chk;let γ1 <- g d γ;let t <- k γ1;if t then b γ1 (F r) else F r))
 (r0:RH X.K ρ0 h0 H0) (rg:RG X.K ρ0 H0 γ σ0) (hJ:JOK X.K src ρ0 H0 J) (hown:∀j∈own,∀v,σ0[j]?≠some (some v)) (hb:HB X EX own σ0 ρ0 b tb)
 (fin:Fin X.K EX ρ0 H0 (λ_ ρ' h' H'=>RH X.K ρ' h' H'->Ext X.K H0 H'->Pre ρ0 ρ'->P H') (F src.items h0)):runG (tGk X.K EX own g) (tT X.K EX k) tb σ0 J P H0:=by
 refine⟨λi m H=>m+i=src.items.length/\∃ρ h,Pre ρ0 ρ/\Ext X.K H0 H/\RH X.K ρ h H /\
  Fin X.K EX ρ H (λ_ ρ' h' H'=>RH X.K ρ' h' H'->Ext X.K H0 H'->Pre ρ0 ρ'->P H') (F (src.items.drop i) h),
  ⟨src.items.length,rfl,_,_,Pre.refl _,Ext.refl _ _,r0,fin⟩,?_⟩
 rintro i m H1 ⟨hm,ρ1,h1,p1,e1,r1,f1⟩;by_cases hi:i<src.items.length
 ·rw[show src.items.drop i=src.items[i]::src.items.drop (i+1) from K58 hi,hcons]at f1;obtain⟨good,f2⟩:=z3t f1 r1;obtain⟨j1,j2⟩:=hJ i ρ1 h1 H1 p1 e1 r1 good;obtain⟨go,yld⟩:=j1 src.items[i] (K6 hi);refine .inr ⟨go,λx H2 y=>?_⟩;obtain⟨rd,rh,ext⟩:=yld x H2 y;refine⟨ρ1,_,h1,_,⟨rg.mono p1 (e1.trans ext),rh⟩,rd,(Fin.bind (Fin.up (Pre.refl _) ext f2)).mono λγ2 ρ3 h3 H3 p3 e3 r3 f3 σ3 g3 k3=>⟨λj v hv=>?_,ρ3,γ2,h3,⟨g3,r3⟩,(Fin.bind f3).mono λt ρ4 h4 H4 p4 e4 r4 f4=>?_⟩⟩
  ·rw[k3 j λhj=>hown j hj v hv];exact hv
  ·have pp:Pre ρ0 ρ4:=(p1.trans p3).trans p4;have ee:Ext X.K H0 H4:=((e1.trans ext).trans e3).trans e4;cases t with
   | false =>
    rw[if_neg (by decide)]at f4;dsimp only;rw[if_neg (by decide)];exact⟨m - 1,by omega,by omega,ρ4,h4,pp,ee,r4,f4⟩
   | true =>
    rw[if_pos rfl]at f4;dsimp only;rw[if_pos rfl];exact hb pp k3 (g3.mono p4 e4) r4 f4 λρ5 h5 H5 p5 e5 r5 f5=>⟨m - 1,by omega,by omega,ρ5,h5,pp.trans p5,ee.trans e5,r5,f5⟩
 ·rw[show src.items.drop i=[] from K6i (by omega),hnil]at f1;obtain⟨good,f2⟩:=z3t f1 r1;obtain⟨j1,j2⟩:=hJ i ρ1 h1 H1 p1 e1 r1 good;exact .inl ⟨j2 (by omega),f2 ρ1 H1 (Pre.refl _) (Ext.refl _ _) r1 r1 e1 p1⟩
theorem zb1 {σ0:L2.St}{ρ0:List Addr}{n0:Nat}{Dd:Addr}(hD:ρ0[n0]?=some Dd):HB X EX own σ0 ρ0 (λγ1 K=>do let v <- me γ1;let _ <- J7 n0 v;K) (bApp (tE X.K EX me) Dd):=λ{σ γ1 ρ h H P K Z} p0 _ rg rh fin hz=>by
 refine⟨ρ,γ1,h,⟨rg,rh⟩,(Fin.bind fin).mono λd ρ5 h5 H5 p5 e5 r5 f5 v rv=>?_⟩;have hq:ρ5[n0]?=some Dd:=(p0.trans p5) _ _ hD;have f6:=Fin.bind f5;unfold J7 updL at f6;cases e7:h5[n0]? with
 | none=>rw[e7]at f6;exact f6.elim
 | some ob =>
  cases ob<;>first|(rw[e7]at f6;exact f6.elim)|skip
  rename_i xs;rw[e7]at f6;dsimp only at f6;split at f6
  ·rename_i hl;obtain⟨a1,n1,vs,o1,d1⟩:=r5.at e7;rw[hq]at n1;cases n1;have ext2:Ext X.K H5 (upd H5 Dd (.lst (vs++[v]))):=Ext.upd (.inr ⟨_,o1,trivial⟩);have r6:=r5.set e7 hq (d1.append (RDs.cons rv RDs.nil));rw[K01,K0l]at hl;have hl2:=d1.length;exact⟨vs,o1,by omega,hz ρ5 _ _ p5 (e5.trans ext2) r6 (f6 ρ5 _ (Pre.refl _) ext2 r6)⟩
  ·exact f6.elim
structure CmA (X:Cx) (EX:XX) (ce:Expr) (sc:Scope) (tg iter:Expr) (ifs:List Expr) (N':List Str) (cap:List (Option Nat)) (own:List Nat) (mi:G->M Src) (g:D->G->M G) (k:G->M Bool) (oo:O) (b:Nat->G->M Unit->M Unit) (F:Src->Nat->G->List D->M Unit):Prop where
 ex:∃(mk:Sem Value) (o0:HO) (bd:Addr->Env->Sem Unit) (p:Pos) (tbd:Addr->L2.TB),CmE ce sc tg iter ifs mk o0 bd p/\(∀(ρ:List Addr) (H:Hp) (Dd:Addr),RO X.K ρ (upd H Dd o0) oo Dd)/\(∀D s H fp xe,PBd (X.comp N' sc s H fp xe) (bd D (X.comp N' sc s H fp xe).env) (tbd D)) /\
  ∀{σ0:L2.St} {ρ0:List Addr} {n0:Nat} {Dd:Addr},(∀(j:Nat),cap[j]?=some none->∀v,σ0[j]?≠some (some v))->ρ0[n0]?=some Dd->HB X EX own σ0 ρ0 (b n0) (tbd Dd)
 nil:∀src n0 γ,F src n0 γ []=(do let _ <- src.chk;pure ())
 cons:∀src n0 γ d r,F src n0 γ (d::r)=(do let _ <- src.chk;let γ1 <- g d γ;let t <- k γ1;if t then b n0 γ1 (F src n0 γ r) else F src n0 γ r)
noncomputable def eCm (cap:List (Option Nat)) (mi:G->M Src) (oo:O) (F:Src->Nat->G->List D->M Unit):G->M D:=λγ=>do
 let src <- mi γ;let n0 <- (λh=>.ok h.length (h++[oo]):M Nat);let _ <- F src n0 (capG cap γ) src.items
 pure (.ref n0)
theorem z6H {ce:Expr}{oo:O}{b:Nat->G->M Unit->M Unit}{F:Src->Nat->G->List D->M Unit}{o0:HO}{tbd:Addr->TB}{σ:L2.St}{γ:G}{src:Src}{ρ0:List Addr}{h0:AH}{H0:Hp}{J:It}{Dd:Addr}{Q:Hp->Prop}
 (A:CmA X EX ce sc tg iter ifs N' cap own mi g k oo b F) (ho:∀(ρ:List Addr) (H:Hp) (Dd:Addr),RO X.K ρ (upd H Dd o0) oo Dd) (hb:∀{σ0:L2.St} {ρ0:List Addr} {n0:Nat} {Dd:Addr},(∀(j:Nat),cap[j]?=some none->∀v,σ0[j]?≠some (some v))->ρ0[n0]?=some Dd->HB X EX own σ0 ρ0 (b n0) (tbd Dd))
 (hown:∀j∈own,cap[j]?=some none) (r0:RH X.K ρ0 h0 H0) (rg:RG X.K ρ0 H0 γ σ) (hJ:JOK X.K src ρ0 H0 J) (hD:H0 Dd=none) {R:D->List Addr->AH->Hp->Prop}
 (fin:Fin X.K EX ρ0 H0 R ((do let n0 <- (λh=>.ok h.length (h++[oo]):M Nat);let _ <- F src n0 (capG cap γ) src.items;pure (.ref n0):M D) h0))
 (z:∀ρ' h' H',Pre ρ0 ρ'->Ext X.K H0 H'->RH X.K ρ' h' H'->R (.ref h0.length) ρ' h' H'->RD X.K ρ' H' (.ref h0.length) (.ref Dd)->Q H') :
 runG (tGk X.K EX own g) (tT X.K EX k) (tbd Dd) (z1s cap σ) J Q (upd H0 Dd o0):=by
 have rP:RH X.K (ρ0++[Dd]) (h0++[oo]) (upd H0 Dd o0):=r0.pushO hD (ho _ _ _);have eP:Ext X.K H0 (upd H0 Dd o0):=Ext.upd (.inl hD);have f2:=(Fin.bind fin) (ρ0++[Dd]) _ (Pre.app _ _) eP rP;have at0:(ρ0++[Dd])[h0.length]?=some Dd:=by rw[<- r0.len];simp
 have non:∀(j:Nat),cap[j]?=some none->∀v,(z1s cap σ)[j]?≠some (some v):=λj e v hv=>by
  unfold z1s at hv;rw[K0h,e]at hv;simp at hv
 refine z9L (A.nil src h0.length (capG cap γ)) (A.cons src h0.length (capG cap γ)) rP ((z8m cap rg).mono (Pre.app _ _) eP) (λi ρ1 h1 H1 p e r good=>hJ i ρ1 h1 H1 ((Pre.app _ _).trans p) (eP.trans e) r good) (λj hj=>non j (hown j hj)) (hb non at0) ((Fin.bind f2).mono λ_ ρ5 h5 H5 p5 e5 r5 f5 rr ee pp=>?_);refine z ρ5 h5 H5 ((Pre.app _ _).trans pp) (eP.trans ee) rr (f5 ρ5 H5 (Pre.refl _) (Ext.refl _ _) rr) ?_;simp only[RD];exact⟨Dd,rfl,pp _ _ at0⟩
theorem zh8 {ce:Expr}{oo:O}{b:Nat->G->M Unit->M Unit}{F:Src->Nat->G->List D->M Unit}(A:CmA X EX ce sc tg iter ifs N' cap own mi g k oo b F) (hc:X.calm=true) (S:CS X sc N' cap) (hi:SI X EX tg iter mi) (hg:∀s H fp xe,SGk (X.comp N' sc s H fp xe) EX tg own g) (ht:∀s H fp xe,SCs (X.comp N' sc s H fp xe) EX ifs k)
 (hown:∀j∈own,cap[j]?=some none) (hs:∀x,K1z iter X.env x=pure x):SE X EX ce (eCm cap mi oo F):=by
 obtain⟨mk,o0,bd,p,tbd,C,ho,hbd,hb⟩:=A.ex;exact⟨PE.imp (zh0 (g:=tGk X.K EX own g) (ti:=tT X.K EX k) C hc S hi.h (λs H fp xe=>(hg s H fp xe).h) (λs H fp xe=>(ht s H fp xe).h) hbd hs) λσ H Q ⟨ρ,γ,h,rel,fin⟩=>⟨ρ,γ,h,rel,(Fin.bind fin).mono λsrc ρ0 h0 H0 p0 e0 r0 f0 J hJ Dd hD =>
  z6H A ho hb hown r0 (rel.g.mono p0 e0) hJ hD f0 λρ' h' H' p' e' r' q rd=>q _ rd⟩⟩
theorem s_cm {ce:Expr}{oo:O}{b:Nat->G->M Unit->M Unit}{F:Src->Nat->G->List D->M Unit}(i:Nat) {y:Str}{py spos:Pos}(A:CmA X EX ce sc tg iter ifs N' cap own mi g k oo b F) (hc:X.calm=true) (S:CS X sc N' cap) (hi:SI X EX tg iter mi) (hg:∀s H fp xe,SGk (X.comp N' sc s H fp xe) EX tg own g) (ht:∀s H fp xe,SCs (X.comp N' sc s H fp xe) EX ifs k)
 (hown:∀j∈own,cap[j]?=some none) (hN:X.N.Nodup) (hy:X.N[i]?=some y) (hl:X.env.scope.names.lookup y=some .local) (hsw:K1w ce (some (.Name y py)) spos.line X.env=pure true) (hs:∀x,K1z iter X.env x=pure x) :
 S1 X EX (.Assign [.Name y py] ce spos) (sAsg (eCm cap mi oo F) (gN i)):=by
 obtain⟨mk,o0,bd,p,tbd,C,ho,hbd,hb⟩:=A.ex;exact⟨PS.imp (zl0 (g:=tGk X.K EX own g) (ti:=tT X.K EX k) C hc S hi.h (λs H fp xe=>(hg s H fp xe).h) (λs H fp xe=>(ht s H fp xe).h) hbd hN hy hl hsw hs) λσ H D ⟨ρ,γ,h,rel,fin⟩=>⟨ρ,γ,h,rel,(Fin.bind (Fin.bind fin)).mono λsrc ρ0 h0 H0 p0 e0 r0 f0 J hJ Dd hD =>
  z6H A ho hb hown r0 (rel.g.mono p0 e0) hJ hD f0 λρ' h' H' p' e' r' q rd=>(q ρ' H' (Pre.refl _) (Ext.refl _ _) r') _ (((rel.g.mono p0 e0).mono p' e').set i rd)⟩⟩
theorem z3D (he:∀s H fp xe,SE (X.comp N' sc s H fp xe) EX elt me):CmA X EX (.ListComp elt [⟨tg,iter,ifs,0⟩] sc pos) sc tg iter ifs N' cap own mi g k (.lst []) (λn0 γ1 K=>do let v <- me γ1;let _ <- J7 n0 v;K) (λsrc n0 γ=>z1x src g k me n0 γ) :=
 ⟨⟨_,_,_,_,bApp (tE X.K EX me),z7Y,λρ H Dd=>⟨[],z03,RDs.nil⟩,λD s H fp xe=>z7o (he s H fp xe).h,λ_ hD=>zb1 hD⟩,λ_ _ _=>rfl,λ_ _ _ _ _=>rfl⟩
theorem z0Y (hc:X.calm=true) (S:CS X sc N' cap) (hi:SI X EX tg iter mi) (hg:∀s H fp xe,SGk (X.comp N' sc s H fp xe) EX tg own g) (ht:∀s H fp xe,SCs (X.comp N' sc s H fp xe) EX ifs k)
 (he:∀s H fp xe,SE (X.comp N' sc s H fp xe) EX elt me) (hown:∀j∈own,cap[j]?=some none:=by decide) (hs:∀x,K1z iter X.env x=pure x:=by intro _;rfl):SE X EX (.ListComp elt [⟨tg,iter,ifs,0⟩] sc pos) (z0A cap mi g k me) :=
 zh8 (z3D he) hc S hi hg ht hown hs
noncomputable def z1e (i:Nat) (cap:List (Option Nat)) (mi:G->M Src) (g:D->G->M G) (k:G->M Bool) (me:G->M D):G->M Out:=sAsg (z0A cap mi g k me) (gN i)
theorem z4q (i:Nat) {y:Str}{py spos:Pos}(hc:X.calm=true) (S:CS X sc N' cap) (hi:SI X EX tg iter mi) (hg:∀s H fp xe,SGk (X.comp N' sc s H fp xe) EX tg own g) (ht:∀s H fp xe,SCs (X.comp N' sc s H fp xe) EX ifs k)
 (he:∀s H fp xe,SE (X.comp N' sc s H fp xe) EX elt me) (hN:X.N.Nodup) (hy:X.N[i]?=some y:=by rfl) (hl:X.env.scope.names.lookup y=some .local:=by rfl) (hown:∀j∈own,cap[j]?=some none:=by decide)
 (hsw:K1w (.ListComp elt [⟨tg,iter,ifs,0⟩] sc pos) (some (.Name y py)) spos.line X.env=pure true:=by rfl) (hs:∀x,K1z iter X.env x=pure x:=by intro _;rfl) :
 S1 X EX (.Assign [.Name y py] (.ListComp elt [⟨tg,iter,ifs,0⟩] sc pos) spos) (z1e i cap mi g k me) :=
 s_cm i (z3D he) hc S hi hg ht hown hN hy hl hsw hs
end
def csOk (osc:Scope) (N:List Str) (sc:Scope) (N':List Str) (cap:List (Option Nat)):Bool :=
 (sc.kind==.function)&&sc.names.all (λy=>y.2 != .cell)&&sc.names.all (λx=>x.2 != .local||sc.names.lookup x.1==some .local) &&
 sc.names.all (λx=>x.2 != .free||(osc.names.lookup x.1==some .cell||osc.names.lookup x.1==some .free))&&(cap.length==N'.length) &&
 (K0q cap.length).all λi=>match cap[i]? with
  | some (some j)=>(match N'[i]?,N[j]? with
   | some x,some y=>x==y&&sc.names.lookup x==some .free
   | _,_=>false)
  | _=>true
theorem z2f {X:Cx}{sc:Scope}{N':List Str}{cap:List (Option Nat)}(h:csOk X.env.scope X.N sc N' cap=true):CS X sc N' cap:=by
 unfold csOk at h;simp only[K06]at h;obtain⟨⟨⟨⟨⟨h1,h2⟩,h3⟩,h4⟩,h5⟩,h6⟩:=h;refine⟨by simpa using h1,λy hy=>?_,λx hx hl=>?_,λx hx hf=>?_,by simpa using h5,λi j e=>?_⟩
 ·have:=K0t.mp h2 y hy;simpa using this
 ·have:=K0t.mp h3 x hx;simpa [hl] using this
 ·have:=K0t.mp h4 x hx;have:(X.env.scope.names.lookup x.1==some .cell||X.env.scope.names.lookup x.1==some .free)=true:=by simpa [hf] using this
  rw[K4c]at this;rcases this with z|z
  ·exact .inl (show X.env.scope.names.lookup x.1=_ by simpa using z)
  ·exact .inr (show X.env.scope.names.lookup x.1=_ by simpa using z)
 ·have hi:i<cap.length:=(K5.mp e).1;have:=K0t.mp h6 i (K1k.mpr hi);rw[e]at this;dsimp only at this;cases e1:N'[i]? with
  | none=>rw[e1]at this;cases this
  | some x =>
   cases e2:X.N[j]? with
   | none=>rw[e1,e2]at this;cases this
   | some y =>
    rw[e1,e2]at this;simp only[K06]at this;have exy:x=y:=by simpa using this.1
    subst exy;exact⟨x,rfl,rfl,by simpa using this.2⟩
def DefAt (K:K0) (x:Str) (st:Stmt):Prop:=∃f fd,K1e K K17 x=some (.(r f))/\Fun K x x st f fd
theorem defAt_mk {K:K0}{x:Str}{st:Stmt}{f:Addr}{oc:Value}{od an:Option Addr}{sl:Array (Option Value)}{kV dc pm cd ct:Value}(a:K1e K K17 x=some (.(r f)))
 (l:K.lookup f=some ⟨oc,od,.func (K1x x x (z0c st) (k7 st) (Z3 st) .none kV dc pm an cd ct),sl⟩) (c:K1y K cd x=true) (k:K19 K (.ref f)=true):DefAt K x st :=
 ⟨f,_,a,z6M l c k⟩
structure Cst (K:K0) (mg:Str->Option Value) (x:Str) (d:D):Prop where
 ex:∃v u,mg x=some u/\RelV v u/\∀ρ H,RD K ρ H d v
theorem cst_int {K:K0}{mg:Str->Option Value}{x:Str}{i:Int}{t:Tok}(h:mg x=some (.int i t)):Cst K mg x (.int i):=⟨.int i,_,h,⟨t,rfl⟩,λ_ _=>by simp[RD]⟩
theorem z6q {X:Cx}{EX:XX}{x:Str}{d:D}{pos:Pos}(C:Cst X.K X.mg x d) (hg:Gl X x) (hd:(x==("__debug__":Str))=false:=by decide):SE X EX (.Name x pos) (λ_=>pure d):=by
 obtain⟨v,u,h1,h2,h3⟩:=C.ex;exact z72 hg h1 h2 h3 hd
section
variable {prog:K04}{w:World}{A:Around}{E:Value->Shared->Prop}{s:Shared}
structure ZS (h:Heap) (z TI TO i1 i2 t1 t2:Addr) (i:Nat) (f0:Value):Prop where
 zip:IsZip h z TI TO f0
 ti:IsPair h TI (.ref i1) (.ref i2)
 to:∃a b,IsPair h TO a b
 n1:h.IsTupleIter i1 t1 i
 n2:h.IsTupleIter i2 t2 i
structure ZA (z TI TO i1 i2:Addr):Prop where
 a1:TI≠z
 a2:TO≠z
 a3:i1≠z
 a4:i2≠z
 a5:TI≠TO
 a6:TI≠i1
 a7:TI≠i2
 a8:TO≠i1
 a9:TO≠i2
 a0:i1≠i2
structure ZO (z TO i1 i2 t:Addr):Prop where
 o1:t≠z
 o2:t≠TO
 o3:t≠i1
 o4:t≠i2
end
section
variable {X:Cx}{EX:XX}{a b:Expr}{elts:List Expr}{kk:Nat}{p pos pt:Pos}{ma mb:G->M D}
end
section
variable {X:Cx}{EX:XX}{a b:Expr}{tg:Expr}{p pos p2:Pos}{ma mb:G->M D}
theorem z4w {A:Around}{E:Value->Shared->Prop}{s:Shared}{t sl:Addr}{items:Array Value}{vl vu:Value}{lo hi:Option Int}{Q:Value->Shared->Prop}(ht:IsTup s.heap t items) (hs:s.heap.IsSliceOf sl vl vu .none) (pl:IsPart vl lo) (pu:IsPart vu hi)
 (hw:HT.sIx items.size 0 lo=0/\HT.sIx items.size items.size hi=items.size) (h:Q (.ref t) s):wpAny (model X.prog X.w) A (K69 (.ref t) (.ref sl)) Q E s:=by
 obtain⟨os,hos,hcs,hds⟩:=id hs;have hTs:s.TypeIs (.ref sl) "slice":=⟨os,hos,hcs⟩;unfold K69
 try with_reducible refine K1m ?_
 first|refine K1 (K4 ?_)|skip
 refine K1 (K5i ht.typeIs (by decide) ?_);refine K1 (K3p (name:=K4l "__getitem__") ht.typeIs K16
  (K60 K16 ht.typeIs K7m ?_ (args_tuple_getitem _ _)))
 show wpAny _ _ (K4y (.ref t) >>= _) _ _ s;refine K1 (tupleItemsOf_ ht ?_);refine K1 (K3w hTs ?_);rw[if_pos (by decide)];refine K1 (HT.sliceApplied_gen hs pl pu ?_);have yes:((((HT.sIx items.size 0 lo:Nat):Int)==0&&(1:Int)==1&&(HT.sIx items.size items.size hi - HT.sIx items.size 0 lo)==items.size)=true):=by
  rw[hw.1,hw.2];simp
 show wpAny _ _ (if (((HT.sIx items.size 0 lo:Nat):Int)==0&&(1:Int)==1&&(HT.sIx items.size items.size hi - HT.sIx items.size 0 lo)==items.size)=true then _ else _) _ _ s;rw[if_pos yes];refine K1 (m:=K4z (.ref t)) ?_;unfold K4z;refine K1 (K3w ht.typeIs (K4 ?_));rw[if_pos (by decide)];exact K1 (K6b (K4 ⟨_,rfl,K4 h⟩))
def rSlW (K:K0):V->Option Int->Option Int->Hp->VK->Prop:=λx lo hi H Q=>∃a xs,x=.ref a/\SqT K H a xs/\(HT.sIx xs.length 0 lo=0/\HT.sIx xs.length xs.length hi=xs.length)/\Q (.ref a) H
theorem z65:SlR X (rSlW X.K):=by
 intro pins s σ H x v vl vu lo hi sl Q I rx hs pl pu h;obtain⟨a,xs,rfl,hx,hw,q⟩:=h;cases rx;obtain⟨its,r,ht,hz⟩:=I.tuple hx;have hlen:its.toArray.size=xs.length:=by rw[K8];exact r.length.symm
 exact⟨"tuple",_,K16.lookup,ht.typeIs,z4w ht hs pl pu (by rw[hlen];exact hw) ⟨.ref a,H,I,rfl,q⟩⟩
def cutD (xs:List D) (lo hi:Option Int):List D:=(xs.drop (HT.sIx xs.length 0 lo)).take (HT.sIx xs.length xs.length hi - HT.sIx xs.length 0 lo)
theorem z2W {K:K0}{ρ:List Addr}{H:Hp}{ds:List D}{xs:List V}(h:RDs K ρ H ds xs) (lo hi:Option Int):RDs K ρ H (cutD ds lo hi) (cutV xs lo hi):=by
 unfold cutD cutV;rw[h.length];exact(h.drop _).take _
def fSl:D->Option Int->Option Int->M D
 | .tup xs,lo,hi=>pure (.tup (cutD xs lo hi))
 | .fl xs,lo,hi=>newL (cutD xs lo hi)
 | .ref n,lo,hi=>do
  let xs <- getL n
  newL (cutD xs lo hi)
 | _,_,_=>bad
def tO (K:K0) (EX:XX) (m:G->M (Option Int)):TO:=λσ H Q=>∃ρ γ h,Rel K ρ γ h σ H/\Fin K EX ρ H (λo _ _ H'=>Q o H') (m γ h)
structure SO (X:Cx) (EX:XX) (e:Option Expr) (m:G->M (Option Int)):Prop where
 h:PO X e (tO X.K EX m)
theorem PO.imp {X:Cx}{e:Option Expr}{t t':TO}(h:PO X e t) (f:∀σ H Q,t' σ H Q->t σ H Q):PO X e t':=λpins s σ H Q I z=>h pins s σ H Q I (f σ H Q z)
def Y5:G->M (Option Int):=λ_=>pure none
def J8 (ma:G->M D):G->M (Option Int):=λγ=>do
 let x <- ma γ
 match x with
 | .int i=>pure (some i)
 | _=>bad
theorem Y3:SO X EX none Y5:=⟨PO.imp z7n λσ H Q ⟨ρ,γ,h,rel,fin⟩=>fin ρ H (Pre.refl _) (Ext.refl _ _) rel.h⟩
theorem Y2 (ha:SE X EX a ma):SO X EX (some a) (J8 ma):=⟨PO.imp (z7b ha.h) λσ H Q ⟨ρ,γ,h,rel,fin⟩=>⟨ρ,γ,h,rel,(Fin.bind fin).mono λx ρ1 h1 H1 p1 e1 r1 f1 v rv=>by
 cases x<;>first|exact(show False from f1).elim|skip
 rename_i i;simp only[RD]at rv;exact⟨i,rv,f1 ρ1 H1 (Pre.refl _) (Ext.refl _ _) r1⟩⟩⟩
def j9 (ma:G->M D) (ml mh:G->M (Option Int)):G->M D:=λγ=>do
 let x <- ma γ;let lo <- ml γ;let hi <- mh γ
 fSl x lo hi
theorem zf0 {ρ:List Addr}{h:AH}{H:Hp}{x:D}{v:V}{lo hi:Option Int}{Q:VK}(r:RH X.K ρ h H) (rx:RD X.K ρ H x v) (fin:FE X.K EX ρ H Q (fSl x lo hi h)):rSlL X.K v lo hi H Q\/rSlT X.K v lo hi H Q\/rSlW X.K v lo hi H Q:=by
 cases x<;>first|exact(show False from fin).elim|skip
 case tup xs =>
  have rx':=rx;simp only[RD]at rx;obtain⟨q,vs,rfl,h1,h2⟩:=rx;have fin':FE X.K EX ρ H Q (.ok (.tup (cutD xs lo hi)) h):=fin;by_cases hw:HT.sIx vs.length 0 lo=0/\HT.sIx vs.length vs.length hi=vs.length
  ·refine .inr (.inr ⟨q,vs,rfl,h1,hw,FE.here fin' r ?_⟩);have e:cutD xs lo hi=xs:=by
    unfold cutD;rw[h2.length,hw.1,hw.2,K9i,Nat.sub_zero,<- h2.length,K8x]
   rw[e];exact rx'
  ·exact .inr (.inl ⟨q,vs,rfl,h1,hw,λp hp=>FE.tup fin' r (z2W h2 lo hi) hp⟩)
 case fl xs =>
  simp only[RD]at rx;obtain⟨q,vs,rfl,h1,h2⟩:=rx;have fin':FE X.K EX ρ H Q (newL (cutD xs lo hi) h):=fin;unfold newL at fin';split at fin'
  ·exact .inl ⟨q,vs,rfl,h1.sq,λp hp=>FE.lst fin' r (z2W h2 lo hi) hp⟩
  ·exact fin'.elim
 case ref n =>
  simp only[RD]at rx;obtain⟨q,rfl,h1⟩:=rx;have fin':FE X.K EX ρ H Q ((getL n >>= λxs=>newL (cutD xs lo hi)) h):=fin;have f1:=Fin.bind fin';cases e:getL n h with
  | bad=>rw[e]at f1;exact f1.elim
  | err z hz=>exact(z0i e).elim
  | ok xs h2 =>
   obtain⟨rfl,q1⟩:=z0n e;rw[e]at f1;have f2:=f1 ρ H (Pre.refl _) (Ext.refl _ _) r;dsimp only at f2;unfold newL at f2;split at f2
   ·obtain⟨a1,n1,vs,o1,d1⟩:=r.at q1;rw[h1]at n1;cases n1;exact .inl ⟨q,vs,rfl,SqL.of o1,λp hp=>FE.lst f2 r (z2W d1 lo hi) hp⟩
   ·exact f2.elim
theorem y4 {lo hi:Option Expr}{ml mh:G->M (Option Int)}(ha:SE X EX a ma) (hl:SO X EX lo ml) (hh:SO X EX hi mh):SE X EX (.Subscript a (.Slice lo hi none p2) pos) (j9 ma ml mh) :=
 ⟨PE.imp (z69 (sl_list.or (sl_tup.or z65)) ha.h hl.h hh.h) λσ H Q ⟨ρ,γ,h,rel,fin⟩=>⟨ρ,γ,h,rel,(Fin.bind fin).mono λx ρ1 h1 H1 p1 e1 r1 f1 v rv=>⟨ρ1,γ,h1,⟨rel.g.mono p1 e1,r1⟩,(Fin.bind f1).mono λl ρ2 h2 H2 p2 e2 r2 f2 =>
  ⟨ρ2,γ,h2,⟨(rel.g.mono p1 e1).mono p2 e2,r2⟩,(Fin.bind f2).mono λu ρ3 h3 H3 p3 e3 r3 f3=>zf0 r3 ((rv.mono p2 e2).mono p3 e3) f3⟩⟩⟩⟩
end
def leI (a b:Int):Bool:=decide (a<=b)
def sortI (l:List Int):List Int:=l.mergeSort leI
def z2l:List D->Option (List Str)
 | []=>some []
 | .str b::r=>(z2l r).map (b::·)
 | _::_=>none
theorem z3x {K:K0}{ρ:List Addr}{H:Hp}:∀{xs:List D}{bs:List Str}{vs:List V},z2l xs=some bs->RDs K ρ H xs vs->vs=bs.map V.str
 | [],bs,vs,e,r=>by simp only[RDs]at r;cases e;subst r;rfl
 | x::xs,bs,vs,e,r=>by
  simp only[RDs]at r;obtain⟨v,r2,rfl,h1,h2⟩:=r;cases x<;>first|(simp only[z2l]at e;cases e;done)|skip
  rename_i b;simp only[z2l]at e;obtain⟨bs',e1,rfl⟩:=K2b.mp e;simp only[RD]at h1;subst h1;rw[z3x e1 h2];rfl
section
variable {X:Cx}{EX:XX}{a:Expr}{p pos:Pos}{mr:G->M (List D)}
theorem z3F {K:K0}{ρ:List Addr}{H:Hp}:∀(l:List Int),RDs K ρ H (l.map .int) (l.map V.int)
 | []=>RDs.nil
 | x::r=>RDs.cons (by simp[RD]) (z3F r)
end
@[simp] theorem bindM {α β:Type} (m:M α) (f:α->M β) (h:AH):(m >>= f) h=match m h with
 | .ok a h1=>f a h1
 | .err x h1=>.err x h1
 | .bad=>.bad:=rfl
@[simp] theorem pureM {α:Type} (a:α) (h:AH):(K7f a:M α) h=.ok a h:=rfl
@[simp] theorem badM {α:Type} (h:AH):(bad:M α) h=.bad:=rfl
@[simp] theorem iteM {α:Type} {c:Prop} [Decidable c] (a b:M α) (h:AH):(if c then a else b) h=if c then a h else b h:=by split<;>rfl
def Pu {α:Type} (m:M α) (a:α):Prop:=∀h,∃j,m h=.ok a (h++j)
theorem Pu.pure {α:Type}(a:α):Pu (K7f a:M α) a:=λh=>⟨[],by simp⟩
theorem Pu.bind {α β:Type}{m:M α}{f:α->M β}{a:α}{b:β}(h1:Pu m a) (h2:Pu (f a) b):Pu (m >>= f) b:=λh=>by
 obtain⟨j,e⟩:=h1 h;obtain⟨j',e'⟩:=h2 (h++j);exact⟨j++j',by rw[M.bind_ok e,e',K32]⟩
theorem Pu.of {α:Type}{m:M α}{a:α}(h:∀x,m x=.ok a x):Pu m a:=λx=>⟨[],by rw[h];simp⟩
theorem Rise.lt {xs:Array Nat}(h:Rise xs) {i j a b:Nat}(ha:xs[i]?=some a) (hb:xs[j]?=some b) (hij:i<j):a<b:=by
 obtain⟨h1,e1⟩:=K4q.mp ha;obtain⟨h2,e2⟩:=K4q.mp hb;have:=List.pairwise_iff_getElem.mp h i j (by simpa using h1) (by simpa using h2) hij;simp only[Array.getElem_toList]at this;rw[e1,e2]at this;exact this
section
variable {P:K04}{w:World}
theorem z0W {α β:Type}{R:α->β->Prop}:∀{ks:List α}{l:List β}{x:β},Paired R ks l->x∈l->∃k∈ks,R k x
 | _,_,_,.cons a b,h=>by
  rcases K1c.mp h with rfl|h
  ·exact⟨_,K0v,a⟩
  ·obtain⟨k,h1,h2⟩:=z0W b h;exact⟨k,K0c _ h1,h2⟩
theorem z1k {α β:Type}{R:α->β->Prop}:∀{ks:List α}{l:List β}{k:α},Paired R ks l->k∈ks->∃x∈l,R k x
 | _,_,_,.cons a b,h=>by
  rcases K1c.mp h with rfl|h
  ·exact⟨_,K0v,a⟩
  ·obtain⟨k,h1,h2⟩:=z1k b h;exact⟨k,K0c _ h1,h2⟩
theorem z5B {k:Key}{v:Value}(h:z31 k v=true):v.scannable=true:=by
 rcases j3 h with ⟨i,t,rfl,rfl⟩|⟨x,t,rfl,rfl⟩<;>rfl
theorem z5r {ks:List Key}{l:List (Int×Value)}(h:Paired (KE w) ks l):ElemsOf (z1r P w) l:=λe he=>by
 obtain⟨k,_,h1,h2⟩:=z0W h he;exact⟨⟨k,h1,h2⟩,z5B h1⟩
theorem z84 {k k':Key}{v:Value}(h:z31 k v=true) (h':z31 k' v=true):k=k':=by
 rcases j3 h with ⟨i,t,rfl,rfl⟩|⟨x,t,rfl,rfl⟩
 ·rcases j3 h' with ⟨j,u,rfl,e⟩|⟨y,u,rfl,e⟩
  ·cases e;rfl
  ·cases e
 ·rcases j3 h' with ⟨j,u,rfl,e⟩|⟨y,u,rfl,e⟩
  ·cases e
  ·cases e;rfl
theorem mem_of {ks:List Key}{l:List (Int×Value)}(h:Paired (KE w) ks l) (k:Key):k∈ks↔∃e∈l,z31 k e.2=true:=by
 constructor
 ·intro hk;obtain⟨e,h1,h2,_⟩:=z1k h hk;exact⟨e,h1,h2⟩
 ·rintro⟨e,h1,h2⟩;obtain⟨k',h3,h4,_⟩:=z0W h h1;exact z84 h2 h4 ▸ h3
theorem SetAt.setOf {h:Heap}{a:Addr}{ks:List Key}(x:SetAt w h a ks):h.SetOf (z1r P w) a (λk=>decide (k∈ks)) ks.length:=by
 obtain⟨o,es,ep,t,ks',h1,h2,h3,h4,h5,h6,h7,h8,h9,_⟩:=x;refine⟨o,es,ep,t,h1,h2,h3,z5r h4,λk=>?_,h7,h8,?_⟩
 ·rw[decide_eq_true_eq,<- h5.mem_iff];exact mem_of h4 k
 ·rw[<- h5.length_eq,K43 h4,K2p]
theorem SetAt.stay {h h':Heap}{a:Addr}{ks:List Key}(x:SetAt w h a ks) (k:∀o,h.get? a=some o->h'.get? a=some o):SetAt w h' a ks:=by
 obtain⟨o,es,ep,t,ks',h1,h2⟩:=x;exact⟨o,es,ep,t,ks',k o h1,h2⟩
variable {A:Around}{E:Value->Shared->Prop}{s:Shared}{a:Addr}
end
def putK (acc:List Key) (k:Key):List Key:=if k∈acc then acc else acc++[k]
section
variable {P:K04}{w:World}{A:Around}{E:Value->Shared->Prop}{s:Shared}{a:Addr}
theorem SetAt.typeIs {ks:List Key}(x:SetAt w s.heap a ks):s.TypeIs (.ref a) "set":=(x.setOf (P:=default)).typeIs
end
section
variable {P:K04}{w:World}{A:Around}{R:Result->Shared->Prop}{I:Addr}{fp wr:List Addr}{G:Array K48->Array K48->Prop}{n:Nat}{PV:Nat->Value->Prop}{St:Nat->Shared->Prop}
end
section
variable {P:K04}{w:World}{A:Around}{E:Value->Shared->Prop}{s:Shared}
end
section
variable {P:K04}{w:World}{A:Around}{E:Value->Shared->Prop}{s:Shared}
end
section
variable (w:World) (S:Addr) (es:Array (Int×Value)) (ep:Nat) (t:SetTable)
inductive Stand (h:Heap) (i:Nat):Value->List (Int×Value)->Prop where
 | txt (b:w.params.followText "set-order" = true):Stand h i (rawInt 0) (pickOrder (w.params.setOrder S ep) es).toList
 | drw (T:Addr) (pl:List Nat) (b:w.params.followText "set-order" = false) (hT:∃o n,h.get? T=some o/\o.data=.seq (pl.map λ(j:Nat)=>rawInt j).toArray n) (hp:pl.Perm (K0q es.size)):Stand h i (.ref T) (pl.filterMap λj=>es[j]?)
 | slo (sl:Nat) (b:w.params.followText "set-order" = false) (c:(!t.plain&&decide (es.size > 1))=false) (l:t.led=true) (e:SetTable.below t.place sl=i):Stand h i (rawInt sl) es.toList
end
section
variable {P:K04}{w:World}{A:Around}{E:Value->Shared->Prop}{s:Shared}{S I:Addr}{es:Array (Int×Value)}{ep:Nat}{t:SetTable}{i:Nat}{f:Value}{ord:List (Int×Value)}{o:Obj}
end
section
variable {P:K04}{w:World}{A:Around}{E:Value->Shared->Prop}{s:Shared}{S:Addr}{es:Array (Int×Value)}{ep:Nat}{t:SetTable}{o:Obj}
end
section
variable {X:Cx}
end
section
variable {P:K04}{w:World}{A:Around}{E:Value->Shared->Prop}{s:Shared}
end
def keyD:D->Option Key
 | .int i=>some (.inl i)
 | .str x=>some (.inr x)
 | _=>none
section
variable {X:Cx}{EX:XX}{a o:Expr}{p pos apos cpos:Pos}{ma mo:G->M D}{mr:G->M (List D)}
end
theorem za6 {P:K04}{w:World}{K:K0}{mg:Str->Option Value}{base:Heap}{x:Str}{st:Stmt}{f:Addr}{fd:K1i}{N ps:List Str}{k n:Nat}{mb:G->M Out}(F:Fun K x x st f fd) (S:FnScope N ps (Z3 st)) (hb:Binds K fd ps []) (mx:mg x=.(r f)) (hn:ps.length=n)
 (body:∀(cdv:Value) (A:Around) (outer:List Env) (s:Shared) (H:Hp) (E:XK),K1y K cdv x=true->Room k (A.deeper (envOfC x (Z3 st) s.heap.objs.size f cdv)) ->
  SB (cxOf CX0 P w K mg base N x (Z3 st) f cdv A outer s H E).nox EX0 (k7 st) mb):Fn P w K mg base (k+1) x n (runF N.length mb):=by
 refine⟨f,fd,ps,?_,hb,F.kp,mx⟩;obtain⟨oc,od,kV,doc,pm,an,cdv,ct,osl,rfl,lk,hcd⟩:=F.ex;refine z5H lk hcd S (λvs H Q E h=>h.1.trans hn.symm) λA outer s H vs Q E hr h=>?_;obtain⟨hl,ρ,ds,h,rh,rd,fin⟩:=h;refine⟨_,(body cdv A outer s H E hcd hr).h.nox,ρ,v3 N.length ds,h,⟨z0I rd,rh⟩,?_⟩;refine(Fin.bind fin).mono λo ρ1 h1 H1 p1 e1 r1 f1=>?_;cases o with
 | nx γ=>exact λσ _=>FE.here (d:=.non) (h:=h1) f1 r1 (by simp[RD])
 | rt d=>exact λv rv=>f1 ρ1 H1 (Pre.refl _) (Ext.refl _ _) r1 v rv
 | bk γ=>exact(show False from f1).elim
 | ct γ=>exact(show False from f1).elim
section
variable {X:Cx}
end
section
variable {X:Cx}{EX:XX}
end
section
variable {X:Cx}{EX:XX}{a:Expr}{elts:List Expr}{kk:Nat}{p pos pt:Pos}{ma:G->M D}
end
section
variable {X:Cx}{EX:XX}{elt tg iter tg1 iter1:Expr}{ifs1:List Expr}{sc:Scope}{pos:Pos}{N':List Str}{cap:List (Option Nat)}{own own1:List Nat}{mi mi1:G->M Src}{g g1:D->G->M G}{k:G->M Bool}{me:G->M D}
end
end FT
namespace L2
theorem range_all {α:Type}(r:List α):(K0q r.length).filterMap (λm=>r[m]?)=r:=by
 have:=pick_run r.toArray 0 r.length;rw[K84]at this;have e:((λx=>r.toArray[x]?) ∘ λx=>0+x)=λm=>r[m]?:=by funext m;simp
 rw[e]at this;rw[this];simp
section
variable {prog:K04}{w:World}{A:Around}{E:Value->Shared->Prop}{s:Shared}
end
section
variable {X:Cx}{e st:Expr}{te ts:TE}{pos p2:Pos}
def RvR (X:Cx) (r:V->Hp->VK->Prop):Prop :=
 ∀(pins:List (Addr×Obj)) (s:Shared) (σ:St) (H:Hp) (x:V) (v:Value) (t:Tok) (sl:Addr) (Q:VK),Inv X pins σ H s->RelV x v->s.heap.IsSliceOf sl .none .none (.int (-1) t)->r x H Q ->
  ∃T id,typeLookup (.type T) "__getitem__" = pure (some (.builtin id))/\s.TypeIs v T/\wpAny (model X.prog X.w) X.A (K69 v (.ref sl)) (EP X pins σ Q) X.xe s
theorem RvR.or {r r':V->Hp->VK->Prop}(h:RvR X r) (h':RvR X r'):RvR X (λx H Q=>r x H Q\/r' x H Q):=by
 intro pins s σ H x v t sl Q I rx hs q;rcases q with q|q
 ·exact h pins s σ H x v t sl Q I rx hs q
 ·exact h' pins s σ H x v t sl Q I rx hs q
end
end L2
namespace FT
def eNeg (ma:G->M D):G->M D:=λγ=>do
 let x <- ma γ
 match x with
 | .int i=>pure (.int (-i))
 | _=>bad
section
variable {X:Cx}{EX:XX}{a b st:Expr}{pos p p2:Pos}{ma ms:G->M D}{mr:G->M (List D)}
theorem z4u (ha:SE X EX a ma):SE X EX (.UnaryOp .USub a pos) (eNeg ma) :=
 ⟨PE.imp (zh2 z8B ha.h) λσ H Q ⟨ρ,γ,h,rel,fin⟩=>⟨ρ,γ,h,rel,(Fin.bind fin).mono λx ρ1 h1 H1 p1 e1 r1 f1 v rv=>by
  cases x<;>first|exact(show False from f1).elim|skip
  rename_i t;simp only[RD]at rv;exact⟨t,rv,FE.here (d:=.int (-t)) (h:=h1) (ρ:=ρ1) f1 r1 (by simp[RD])⟩⟩⟩
end
end FT
namespace L2
structure Fly (base:Heap) (l:List Env) (e T:Addr) (cls:Value) (h:Heap):Prop where
 stays:base.StaysIn h
 ne:base.get? e=none
 nT:base.get? T=none
 fr:h.FunFrames base l
 tr:∃a0 oe vs oT ts,h.get? e=some oe/\(oe.cls=cls/\vs[0]?=some a0)/\oe.data=.fields vs/\vs[1]?=.(r T)/\T≠e/\h.get? T=some oT/\oT.data=.fields ts/\ts[3]?=some .none
theorem Fly.of {base:Heap}{l:List Env}{e:Addr}{cls a0:Value}{h:Heap}(x:Heap.FlyingW base l e cls a0 h):∃T,Fly base l e T cls h:=by
 obtain⟨f1,f2,f3,oe,vs,T,oT,ts,a1,a2,a3,a4,a5,a6,a7,a8,a9⟩:=x;exact⟨T,f1,f2,a5,f3,a0,oe,vs,oT,ts,a1,a2,a3,a4,a6,a7,a8,a9⟩
def bigB (h:Heap) (l:List Env) (e T:Addr):Heap:=K2w h (frs l++[e,T])
theorem z8i {h:Heap}{l:List Env}{e T b:Addr}{o:Obj}(q:(bigB h l e T).get? b=some o):h.get? b=some o:=K4w _ q
theorem z2z {h:Heap}{l:List Env}{e T b:Addr}(z:b∈frs l\/b=e\/b=T):(bigB h l e T).get? b=none :=
 K46 _ (K0g.mpr (by
  rcases z with z|rfl|rfl
  ·exact .inl z
  ·exact .inr (by simp)
  ·exact .inr (by simp)))
theorem z3a {base h:Heap}{as:List Addr}:∀{l:List Env},h.FunFrames base l->(∀b∈frs l,b∈as)->h.FunFrames (K2w h as) l
 | [],_,_=>trivial
 | env::r,⟨hk,⟨L,o,hf,_,ho,hd⟩,hr⟩,hin=>⟨hk,⟨L,o,hf,K46 _ (hin L (by unfold frs;rw[K20,hf];exact K0v)),ho,hd⟩,
  z3a hr λb hb=>hin b (by unfold frs at hb ⊢;rw[K20];cases env.frame with|none=>exact hb|some x=>exact K0c _ hb)⟩
theorem Fly.big {base:Heap}{l:List Env}{e T:Addr}{cls:Value}{h:Heap}(x:Fly base l e T cls h):∃a0,Heap.FlyingW (bigB h l e T) l e cls a0 h:=by
 obtain⟨a0,oe,vs,oT,ts,a1,a2,a3,a4,a6,a7,a8,a9⟩:=x.tr;exact⟨a0,λb o q=>z8i q,z2z (.inr (.inl rfl)),z3a x.fr λb hb=>K2j _ hb,oe,vs,T,oT,ts,a1,a2,a3,a4,z2z (.inr (.inr rfl)),a6,a7,a8,a9⟩
structure Kept (l:List Env) (e T:Addr) (h h':Heap):Prop where
 keep:∀b o,h.get? b=some o->b∉frs l->b≠e->b≠T->h'.get? b=some o
 slot:∀b o,h.get? b=some o->b∈frs l->∃sl,h'.get? b=some { o with slots:=sl }
theorem Fly.down {base B:Heap}{l:List Env}{e T:Addr}{cls:Value}{h:Heap}(x:Fly B l e T cls h) (k:base.StaysIn B):Fly base l e T cls h :=
 ⟨λb o q=>x.stays b o (k b o q),K6e k x.ne,K6e k x.nT,PySem.W.funFrames_base k x.fr,x.tr⟩
theorem z8j {l:List Env}{base h h':Heap}{T:Addr}{oT:Obj}{ts:Array Value}(fr:h.FunFrames base l) (ks:∀b o,h.get? b=some o->b∈frs l->∃sl,h'.get? b=some { o with slots:=sl }) (hT:h'.get? T=some oT) (hd:oT.data=.fields ts):T∉frs l:=λz=>by
 obtain⟨_,o,ho,nf⟩:=fr.mem z;obtain⟨sl,q⟩:=ks T o ho z;rw[hT]at q;cases q;exact nf ts hd
section
variable {M:Model}{A:Around}{E:Value->Shared->Prop}{s:Shared}{base:Heap}{env:Env}{outer:List Env}{L e T:Addr}{cls:Value}{Q:Unit->Shared->Prop}
theorem z41 {h:Heap}{args:List Value}(hfr:A.frames=some (env::outer)) (hf:env.frame=some L) (st:base.StaysIn h) (hl:h.FunFrames base (env::outer)) (hx:K77 h s.heap e cls args)
 (hQ:∀h' T',Fly base outer e T' cls h'->h.get? T'=none->(∀b o,h.get? b=some o->b∉frs (env::outer)->h'.get? b=some o)->(∀b o,h.get? b=some o->b∈frs (env::outer)->∃sl,h'.get? b=some { o with slots:=sl })->Q () { s with heap:=h' }) :
 wpAny M A (leaving env (.ref e)) Q E s:=by
 have bg:∀b o,h.get? b=some o->b∉frs (env::outer)->(K2w h (frs (env::outer))).get? b=some o:=λb o q z=>K7k _ q z;refine wpAny_leaves_madeW (base:=K2w h (frs (env::outer))) hfr hf (λb o q=>K4w _ q) (z3a hl λb hb=>hb) hx λh' t fly _ _ up=>?_;obtain⟨T',F⟩:=Fly.of fly;have sb:base.StaysIn (K2w h (frs (env::outer))):=λb o q=>bg b o (st b o q) λz=>by rw[(hl.mem z).1]at q;cases q
 have slot:∀b o,h.get? b=some o->b∈frs (env::outer)->∃sl,h'.get? b=some { o with slots:=sl }:=λb o q z=>by
  obtain⟨_,o',ho',nf⟩:=hl.mem z;rw[q]at ho';cases ho';exact up b o (hx.keeps b o q) nf
 refine hQ h' T' (F.down sb) ?_ (λb o q z=>F.stays b o (bg b o q z)) slot;cases q:h.get? T' with
 | none=>rfl
 | some o =>
  obtain⟨_,oe,vs,oT,ts,a1,a2,a3,a4,a6,a7,a8,a9⟩:=F.tr;have:=bg T' o q (z8j hl slot a7 a8);rw[F.nT]at this;cases this
end
section
variable {X:Cx}{pins:List (Addr×Obj)}{σ:List (Option V)}{H H':Hp}{s:Shared}{h':Heap}
theorem ObjOk.there {P:K04}{w:World}{h:Heap}{a:Addr}{o:HO}(x:ObjOk P w H h a o):∃u,h.get? a=some u:=by
 cases o with
 | lst xs=>obtain⟨_,_,_,_,e⟩:=x;exact⟨_,e⟩
 | tup xs=>obtain⟨_,_,_,u,e,_⟩:=x;exact⟨_,e⟩
 | dK kvs=>obtain⟨_,_,_,_,u,_,_,e,_⟩:=x;exact⟨_,e⟩
 | dT kvs=>obtain⟨_,_,_,_,u,_,_,e,_⟩:=x;exact⟨_,e⟩
 | set ks=>obtain⟨u,_,_,_,_,e,_⟩:=x;exact⟨_,e⟩
 | ins C dx fs=>obtain⟨_,_,_,e,_⟩:=x;exact⟨_,e⟩
 | own y=>obtain⟨_,e⟩:=x;exact⟨_,e⟩
 | xd fs=>obtain⟨_,⟨_,_,_,e,_⟩,_⟩:=x;exact⟨_,e⟩
 | rng lo hi=>obtain⟨_,_,_,e⟩:=x;exact⟨_,e⟩
 | frz ob u=>obtain⟨e,_⟩:=x;exact⟨_,e⟩
 | tbl ps=>exact⟨_,(show h.get? a=some _ from x)⟩
 | met f y=>exact⟨_,(show h.get? a=some _ from x)⟩
 | ext φ=>obtain⟨_,⟨_,e⟩,_⟩:=x;exact⟨_,e⟩
theorem HOk.none {P:K04}{w:World}{h:Heap}{a:Addr}(x:HOk P w H h) (e:h.get? a=.none):H a=.none:=by
 cases q:H a with
 | none=>rfl
 | some u=>obtain⟨o,z⟩:=(x a u q).there;rw[e]at z;cases z
theorem HOk.trk {P:K04}{w:World}{h h':Heap}(x:HOk P w H h) (k:∀b u o,H b=some u->h.get? b=some o->h'.get? b=some o):HOk P w H h':=λa o e =>
 (x a o e).stay (λb u hb q=>by
  rcases hb with rfl|hb
  ·exact k _ _ _ e q
  ·exact k _ _ _ hb q) (λ_ q=>q) λ_ _ q=>q
end
def CXE (P:K04) (w:World) (base:Heap):CXT:=λouter H s E e s'=>∃a T C H',e=.ref a/\Fly base outer a T (.ref C) s'.heap/\s.heap.get? a=none/\s.heap.get? T=none/\H' a=none/\H' T=none/\s'.os=s.os/\K4p s'.gens /\
 Un (frs outer) [] H H' s.heap s'.heap/\HOk P w H' s'.heap/\E (.ref C) none H'
theorem z2p {P:K04}{w:World}{K:K0}{mg:Str->Option Value}{base:Heap}{N:List Str}{qual:Str}{scope:Scope}{f:Addr}{cd:Value}{A:Around}{outer:List Env}{s s2:Shared}{H H':Hp}{E:XK}{pins:List (Addr×Obj)}{σ:St}{h3:Heap}{e C:Addr}{args:List Value}
 (I:Inv (cxOf (CXE P w base) P w K mg base N qual scope f cd A outer s H E) pins σ H' s2) (hx:K77 s2.heap h3 e (.ref C) args) (hE:E (.ref C) none H') :
 (cxOf (CXE P w base) P w K mg base N qual scope f cd A outer s H E).xe (.ref e) { s2 with heap:=h3 }:=by
 show wpAny (model P w) (A.deeper (envOfC qual scope s.heap.objs.size f cd)) (leaving (envOfC qual scope s.heap.objs.size f cd) (.ref e)) _ _ { s2 with heap:=h3 };have nm:∀b:Addr,b∉([]:List Addr):=λb z=>nomatch z;have frf:=I.stkFree;refine z41 (L:=s.heap.objs.size) (h:=s2.heap) (args:=args) (cls:=.ref C) I.ok.frames rfl (λb o q=>I.bk b o q) I.stack hx λh' T' F hT keep slot=>?_;have old:∀b,s2.heap.get? b=none->s.heap.get? b=none:=λb q=>by
  cases z:s.heap.get? b with
  | none=>rfl
  | some o=>obtain⟨o',y⟩:=I.base.there b o z (nm b);rw[q]at y;cases y
 have sub:∀b∈frs outer,b∈frs (envOfC qual scope s.heap.objs.size f cd::outer):=λb hb=>by
  unfold frs at hb ⊢;rw[K20];cases (envOfC qual scope s.heap.objs.size f cd).frame with
  | none=>exact hb
  | some x=>exact K0c _ hb
 have cs:∀b∈frs (envOfC qual scope s.heap.objs.size f cd::outer),b=s.heap.objs.size\/b∈frs outer:=λb hb=>by
  unfold frs at hb;rw[K20,show (envOfC qual scope s.heap.objs.size f cd).frame=some s.heap.objs.size from rfl]at hb;exact K1c.mp hb
 have nL:∀b o,s.heap.get? b=some o->b≠s.heap.objs.size:=λb o q=>K12 (K08 q);refine⟨e,T',C,H',rfl,F,old e hx.new,old T' hT,I.hok.none hx.new,I.hok.none hT,I.os,I.bare,⟨λb o q n hb _=>?_,λb o q n hb _=>?_,λb o q n _=>I.base.free b o q n (nm b),λb o q _=>?_,I.base.tups,I.base.frzs,I.base.tbls⟩,I.hok.trk λb u o q z=>?_,hE⟩
 ·exact keep b o (I.base.keep b o q n hb (nm b)) λz=>(cs b z).elim (nL b o q) hb
 ·obtain⟨sl,y⟩:=I.base.slot b o q n hb (nm b);obtain⟨sl',y'⟩:=slot b _ y (sub b hb);exact⟨sl',y'⟩
 ·obtain⟨o',y⟩:=I.base.there b o q (nm b);by_cases z:b∈frs (envOfC qual scope s.heap.objs.size f cd::outer)
  ·obtain⟨sl',y'⟩:=slot b _ y z;exact⟨_,y'⟩
  ·exact⟨_,keep b _ y z⟩
 ·exact keep b o z λy=>by rw[frf b y]at q;cases q
section
variable {M:Model}{A:Around}{E:Value->Shared->Prop}{h:Heap}{g:Array K48}{d:Drawn}{t:Nat}{os:OsState}{C Ch e:Addr}{oe:Obj}{b:Bool}{Q:Bool->Shared->Prop}
 {nm q:Str} {N:Addr} {bs bm:List Value} {hdct:Bool} {sn:List Str} {sub:List Value} {ab:Bool} {col:Option Bool} {dd:Option Addr} {k0 k1 k2 k3 k5:Option Value} {newId:String}
 {nm' q':Str} {N':Addr} {bs' bm':List Value} {hdct':Bool} {sn':List Str} {sub':List Value} {ab':Bool} {col':Option Bool} {dd':Option Addr} {k0' k1' k2' k3' k5':Option Value} {newId':String}
end
section
variable {X:Cx}{pins:List (Addr×Obj)}{σ:St}{H:Hp}{s:Shared}{e:Value}
end
structure Clss (K:K0) (C:Addr) (bm:List Value):Prop where
 ex:∃nm q N bs hdct sn sub ab col dd k0 k1 k2 k3 k5 newId,K.lookup C=some (K95 nm q C N bs bm hdct sn sub ab col dd k0 k1 k2 k3 k5 newId)
section
variable {X:Cx}{pins:List (Addr×Obj)}{σ:St}{H1:Hp}{s1 s':Shared}{e:Value}{E:XK}{cn n:Str}{Ch:Addr}{bmH:List Value}{np hpos:Pos}{b₀:Stmt}{suite:List Stmt}{EE:Value->Shared->Prop}{D:Ends}{ts:TS}
end
def z3L:List Str:=["__getattribute__","__getattr__","__class__"]
inductive Tail3 (h:Heap) (bmB:List Value):List Value->Prop
 | base:Tail3 h bmB bmB
 | own {A:Addr} {c0:Value} {dd:Option Addr} {cd:ClassData} {sl:Array (Option Value)} {mA:Str->Option Value} {tl:List Value}:h.get? A=some { cls:=c0,dict:=dd,data:=.cls cd,slots:=sl }->h.Ns cd.ns mA->(∀n∈z3L,mA n=none)->Tail3 h bmB tl->Tail3 h bmB (.ref A::tl)
theorem Tail3.has {h:Heap}{bmB tl:List Value}(T:Tail3 h bmB tl) {x:String}{b:Bool}(e:bmB.contains (.type x)=b):tl.contains (.type x)=b:=by
 induction T with
 | base=>exact e
 | own _ _ _ _ ih=>rw[List.contains_cons,ih];rfl
section
variable {M:Model}{A:Around}{E:Value->Shared->Prop}{h:Heap}{g:Array K48}{d:Drawn}{t:Nat}{os:OsState}
structure Ex3 (h:Heap) (C:Addr) (B:String) (bmB:List Value):Prop where
 ex:∃nm q N bs bm hdct sn sub ab col dd k0 k1 k2 k3 k5 newId mN,h.get? C=some (K95 nm q C N bs bm hdct sn sub ab col dd k0 k1 k2 k3 k5 newId)/\h.Ns N mN/\(∀n∈z3L,mN n=none)/\Tail3 h bmB bm
end
abbrev bmV:List Value:=[.type "ValueError",.type "Exception",.type "BaseException",.type "object"]
section
variable {prog:K04}{w:World}{A:Around}{E:Value->Shared->Prop}{h:Heap}{g:Array K48}{d:Drawn}{t:Nat}{os:OsState}{a C:Addr}{o:Obj}
end
section
variable {X:Cx}{x:Str}{C:Addr}{bm:List Value}{B newId initId:String}{e₀:Expr}{rest:List Expr}{t:TA}{np cpos pos:Pos}{R:Hp->Prop}
theorem z6m (O':∀h,X.K.In h->OwnCls x C bm newId X.mg h) (FB:ExcBaseFacts B newId initId bm) (hc:X.calm=true) (hg:Gl X x) (ha:PA X (e₀::rest) t)
 (hX:∀pins σ H s h' e vs,Inv X pins σ H s->K77 s.heap h' e (.ref C) vs->R H->X.xe (.ref e) { s with heap:=h' })
 (he:K7 (e₀::rest) X.env=(false,eval e₀ X.env)::K7 rest X.env:=by rfl) (hpl:(backTo cpos (K7 rest X.env)).any (·.1)=false:=by rfl) (hd:(x==("__debug__":Str))=false:=by decide) :
 PS X (.Raise (some (.Call (.Name x np) (e₀::rest) [] cpos)) none pos) (λ_ σ H=>t σ H λvs H1=>vs.length<=sizeLine/\R H1):=by
 intro pins s σ H D I h;have O:=O' X.base I.mod.kin;obtain⟨tl,N,nm,q,bs,hdct,sn,sub,ab,col,dd,k0,k1,k2,k3,k5,mN,hC,hN,hni,T⟩:=O.obj;refine wpAny_Raise_call_subT (C:=C) (nm:=nm) (q:=q) (N:=N) (bs:=bs) (bm:=tl) (hdct:=hdct) (sn:=sn) (sub:=sub) (ab:=ab) (col:=col) (dd:=dd) (k0:=k0) (k1:=k1) (k2:=k2) (k3:=k3) (k5:=k5)
  FB (mN:=mN) (T.hasType FB.hasBase) (I.ok.hd hc) (by rw[he];show (false||(backTo cpos (K7 rest X.env)).any (·.1))=false;rw[hpl];rfl) hni (z2e I hg O.bound ⟨rfl,?_⟩ hd)
 have ha':=ha cpos pins s σ H _ I h;rw[he]at ha' ⊢;exact K79 (K0j ha' (λus s2 ⟨vs,H2,I2,r2,q2⟩=>⟨rfl,by rw[<- r2.length];exact q2.1,I2.bk _ _ hC,hN.keeps I2.bk,T.keeps I2.bk,λh' e hm=>hX pins σ H2 s2 h' e us I2 hm q2.2⟩) λ_ _ y=>y)
end
section
variable {X:Cx}{CX:CXT}{k:Nat}{f:Addr}{fd:K1i}{ps:List Str}{sp:Sp}{E:XK}{x:Str}{p pos:Pos}{e:Expr}{es:List Expr}{t:TA}{EE:Value->Shared->Prop}{Q:VK}{pins:List (Addr×Obj)}{σ:St}{H:Hp}{s:Shared}
theorem PA.quiet (h:PA X.nox (e::es) t) (pos:Pos) (I:Inv X pins σ H s) {Q:List V->Hp->Prop}(q:t σ H Q):wpAny (model X.prog X.w) X.A (spliced (backTo pos (K7 (e::es) X.env))) (AP X pins σ Q) EE s :=
 K0j (h pos pins s σ H Q (I.wish _) q) (λ_ _ ⟨vs,H',I',r,q⟩=>⟨vs,H',I'.unwish,r,q⟩) λ_ _ z=>K15 z
end
section
variable {X:Cx}{k:Nat}{f Ch:Addr}{fd:K1i}{ps:List Str}{sp:Sp}{x cn y:Str}{i:Nat}{p pos pos1 pos2 py np hpos:Pos}{e:Expr}{es:List Expr}{t:TA}{bmH:List Value}{b₀:Stmt}{suite:List Stmt}{ts:TS}
end
section
variable {X:Cx}{pins:List (Addr×Obj)}{σ:St}{H:Hp}{s:Shared}
end
section
variable {X:Cx}{pins:List (Addr×Obj)}{σ:St}{H1:Hp}{s1 s':Shared}{e:Value}{E:XK}{cn n:Str}{i:Nat}{Ch:Addr}{bmH:List Value}{np hpos:Pos}{b₀:Stmt}{suite:List Stmt}{EE:Value->Shared->Prop}{D:Ends}{ts:TS}
end
section
variable {X:Cx}{k:Nat}{f Ch:Addr}{fd:K1i}{ps:List Str}{sp:Sp}{x cn n:Str}{i:Nat}{p pos pos1 pos2 np hpos:Pos}{e:Expr}{es:List Expr}{t:TA}{bmH:List Value}{b₀:Stmt}{suite:List Stmt}{ts:TS}
end
def askNames:List Str:="__init__"::z3L
def z25 (K:K0) (N:Addr):Bool:=K6z K N&&askNames.all λn=>K1e K N n==some none
theorem z0T {K:K0}{N:Addr}(q:z25 K N=true) {h:Heap}(X:K.In h):h.Ns N (h.nsMap N)/\∀n∈askNames,h.nsMap N n=none:=by
 unfold z25 at q;rw[K06]at q;refine⟨.of_isNs (PySem.W.isNs_of_in X q.1),λn hn=>PySem.W.nsMap_none_of_in X q.1 ?_⟩;have:=K0t.mp q.2 n hn;simpa using this
structure K3 (K:K0) (mg:Str->Option Value) (c:Str) (C:Addr) (bm:List Value):Prop where
 ns:K1e K K17 c=some (.(r C))
 gl:mg c=.(r C)
 cl:Clss K C bm
 obj:∃o cd,K.lookup C=some o/\o.data=.cls cd
 ex:∀h,K.In h->Ex3 h C "ValueError" bmV
 own:∀h,K.In h->OwnCls c C bmV "ValueError.__new__" mg h
 base:bm.contains (.type "BaseException")=true
 up:∀h,K.In h->Tail3 h bmV (.ref C::bm)/\OwnTail h bmV (.ref C::bm)
theorem k3_of {K:K0}{mg:Str->Option Value}{c:Str}{C:Addr}{bm:List Value}{nm q:Str}{N:Addr}{bs:List Value}{hdct:Bool}{sn:List Str}{sub:List Value}{ab:Bool}{col:Option Bool}{dd:Option Addr}{k0 k1 k2 k3 k5:Option Value}{c':Value}{d':Option Addr}{es:Array DictEntry}{ep:Nat}{sl':Array (Option Value)}
 (e:K1e K K17 c=some (.(r C))) (hm:mg c=.(r C)) (l:K.lookup C=some (K95 nm q C N bs bm hdct sn sub ab col dd k0 k1 k2 k3 k5 "ValueError.__new__"))
 (l2:K.lookup N=some ⟨c',d',.dict es ep,sl'⟩) (h2:(es.toList.all λe=>match e.key with|.str _ _=>true|_=>false)=true)
 (n1:K1e K N "__init__" = some none) (n2:K1e K N "__getattribute__" = some none) (n3:K1e K N "__getattr__" = some none) (n4:K1e K N "__class__" = some none)
 (tl:∀h,K.In h->Tail3 h bmV bm/\OwnTail h bmV bm) (hb:bm.contains (.type "BaseException")=true):K3 K mg c C bm:=by
 have hq:z25 K N=true:=by
  have e1:K6z K N=true:=by
   unfold K6z;rw[l2];show es.all _=true;rw[<- Array.all_toList];exact h2
  unfold z25 askNames z3L;simp only[K7q,List.all_nil,n1,n2,n3,n4,e1];rfl
 refine⟨e,hm,⟨nm,q,N,bs,hdct,sn,sub,ab,col,dd,k0,k1,k2,k3,k5,_,l⟩,⟨_,_,l,rfl⟩,λh X=>?_,λh X=>?_,hb,λh X=>?_⟩
 ·obtain⟨n1,n2⟩:=z0T hq X;exact⟨nm,q,N,bs,bm,hdct,sn,sub,ab,col,dd,k0,k1,k2,k3,k5,_,_,X _ _ l,n1,λn hn=>n2 n (K0c _ hn),(tl h X).1⟩
 ·obtain⟨n1,n2⟩:=z0T hq X;exact⟨hm,bm,N,nm,q,bs,hdct,sn,sub,ab,col,dd,k0,k1,k2,k3,k5,_,X _ _ l,n1,n2 _ K0v,(tl h X).2⟩
 ·obtain⟨n1,n2⟩:=z0T hq X;exact⟨.own (X _ _ l) n1 (λn hn=>n2 n (K0c _ hn)) (tl h X).1,.own (X _ _ l) n1 (n2 _ K0v) (tl h X).2⟩
end L2
namespace FT
def noE {α:Type} (m:G->M α):G->M α:=λγ h=>match m γ h with
 | .ok a h1=>.ok a h1
 | _=>.bad
theorem z4F {α:Type}{K:K0}{EX:XX}{ρ:List Addr}{H:Hp}{P:α->List Addr->AH->Hp->Prop}{m:G->M α}{γ:G}{h:AH}(f:Fin K EX ρ H P (noE m γ h)):Fin K EX0 ρ H P (m γ h):=by
 unfold noE at f;cases e:m γ h with
 | ok a h1=>rw[e]at f;exact f
 | err x h1=>rw[e]at f;exact f.elim
 | bad=>rw[e]at f;exact f.elim
section
variable {X:Cx}{EX:XX}{e c:Expr}{es:List Expr}{st:Stmt}{sts:List Stmt}{me:G->M D}{k:G->M Bool}{mr:G->M (List D)}{ms:G->M Out}
theorem PS.nox {t:TS}(h:L2.PS X.nox st t):L2.PS X st t:=λpins s σ H D I hw =>
 K0j (h pins s σ H D (I.wish _) hw) (λ_ _ q=>q.unwish) λ_ _ z=>K15 z
theorem z8Z (h:SC X.nox EX0 c k):SC X EX c (noE k):=⟨PT.imp (PT.nox h.h) λσ H Q ⟨ρ,γ,h,rel,fin⟩=>⟨ρ,γ,h,rel,z4F fin⟩⟩
theorem zm5 (h:S1 X.nox EX0 st ms):S1 X EX st (noE ms):=⟨PS.imp (PS.nox h.h) λσ H D ⟨ρ,γ,h,rel,fin⟩=>⟨ρ,γ,h,rel,z4F fin⟩⟩
end
def EXof (K:K0) (E:XK):XX:=λx _ _ H'=>∀C,K1e K K17 x.cls=some (.(r C))->E (.ref C) none H'
def z5g (c:Str) (mr:G->M (List D)):G->M Out:=λγ h=>match mr γ h with
 | .ok xs h1=>if xs.length<=sizeLine then .err ⟨c,[]⟩ h1 else .bad
 | _=>.bad
section
variable {P:K04}{w:World}{K:K0}{mg:Str->Option Value}{base:Heap}{N:List Str}{qual c:Str}{scope:Scope}{f C:Addr}{cd:Value}{A:Around}{outer:List Env}{s:Shared}{H:Hp}{E:XK}{bm:List Value}
 {e₀:Expr} {rest:List Expr} {mr:G->M (List D)} {np cpos pos:Pos}
theorem z7C (T:K3 K mg c C bm) (hg:Gl (cxOf (CXE P w base) P w K mg base N qual scope f cd A outer s H E) c) (ha:SA (cxOf (CXE P w base) P w K mg base N qual scope f cd A outer s H E).nox EX0 (e₀::rest) mr)
 (he:K7 (e₀::rest) (cxOf (CXE P w base) P w K mg base N qual scope f cd A outer s H E).env=(false,eval e₀ (cxOf (CXE P w base) P w K mg base N qual scope f cd A outer s H E).env)::K7 rest (cxOf (CXE P w base) P w K mg base N qual scope f cd A outer s H E).env:=by rfl)
 (hpl:(backTo cpos (K7 rest (cxOf (CXE P w base) P w K mg base N qual scope f cd A outer s H E).env)).any (·.1)=false:=by rfl) (hd:(c==("__debug__":Str))=false:=by decide) :
 S1 (cxOf (CXE P w base) P w K mg base N qual scope f cd A outer s H E) (EXof K E) (.Raise (some (.Call (.Name c np) (e₀::rest) [] cpos)) none pos) (z5g c mr) :=
 ⟨PS.imp (z6m (R:=λH1=>E (.ref C) none H1) T.own PySem.F.excBase_ValueError rfl hg (t:=λσ H Q=>tL K EX0 mr σ H Q) (λpos pins s σ H Q I q=>PA.quiet ha.h pos I q) (λpins σ H s h' e vs I hm q=>z2p I hm q) he hpl hd) λσ H D ⟨ρ,γ,h,rel,fin⟩=>⟨ρ,γ,h,rel,by
  unfold z5g at fin;show Fin K EX0 ρ H _ (mr γ h);cases e:mr γ h with
  | err x h1=>rw[e]at fin;exact fin.elim
  | bad=>rw[e]at fin;exact fin.elim
  | ok xs h1 =>
   rw[e]at fin;dsimp only at fin;split at fin
   ·rename_i hl;exact λρ1 H1 p1 e1 r1 vs rvs=>⟨by rw[<- rvs.length];exact hl,fin ρ1 H1 p1 e1 r1 C T.ns⟩
   ·exact fin.elim⟩⟩
end
def spX (K:K0) (mf:List D->M D) (n:Nat):Sp:=λvs H Q E=>vs.length=n/\∃ρ ds h,RH K ρ h H/\RDs K ρ H ds vs/\FE K (EXof K E) ρ H Q (mf ds h)
structure FnX (P:K04) (w:World) (K:K0) (mg:Str->Option Value) (base:Heap) (k:Nat) (x:Str) (n:Nat) (mf:List D->M D):Prop where
 ex:∃f fd ps,FnOk P w K mg base (CXE P w base) k f fd ps (spX K mf n)/\Binds K fd ps []/\K19 K (.ref f)=true/\mg x=.(r f)
section
variable {X:Cx}{k n i:Nat}{x cn y:Str}{Ch:Addr}{bmH:List Value}{mf:List D->M D}{mr:G->M (List D)}{ok:Str->Bool}{ms:G->M Out}{e:Expr}{es:List Expr}{b₀:Stmt}{suite:List Stmt}{p pos pos1 pos2 py np hpos:Pos}
end
end FT
namespace L2
section
variable {X:Cx}
end
section
variable {X:Cx}
end
end L2
namespace FT
section
variable {X:Cx}{EX:XX}{a:Expr}{p p2 pos:Pos}{ma:G->M D}{k:Str->Option Bool}
end
section
variable {X:Cx}{EX:XX}
end
section
variable {X:Cx}{EX:XX}{a:Expr}{p p2 pos:Pos}{ma:G->M D}{k:Str->Option Bool}
end
variable {α β:Type}
def W (m:M α) (h:AH) (Q:α->AH->Prop):Prop:=∃a h',m h=.ok a h'/\Q a h'
theorem Z6 {m:M α}{f:α->M β}{h:AH}{Q:β->AH->Prop}:W (m >>= f) h Q↔W m h λa h1=>W (f a) h1 Q:=by
 constructor
 ·rintro⟨b,h2,e,q⟩;rw[bindM]at e;cases em:m h with
  | ok a h1=>rw[em]at e;exact⟨a,h1,em,b,h2,e,q⟩
  | err x h1=>rw[em]at e;cases e
  | bad=>rw[em]at e;cases e
 ·rintro⟨a,h1,e,b,h2,e',q⟩;exact⟨b,h2,by rw[M.bind_ok e,e'],q⟩
theorem W_pure {a:α}{h:AH}{Q:α->AH->Prop}:W (K7f a:M α) h Q↔Q a h:=by
 constructor
 ·rintro⟨b,h2,e,q⟩;cases e;exact q
 ·exact λq=>⟨a,h,rfl,q⟩
theorem z23 {h:AH}{Q:α->AH->Prop}:W (bad:M α) h Q↔False:=by
 constructor
 ·rintro⟨b,h2,e,q⟩;cases e
 ·exact K15
theorem z1F {c:Prop} [Decidable c] {m n:M α}{h:AH}{Q:α->AH->Prop}:W (if c then m else n) h Q↔if c then W m h Q else W n h Q:=by
 split<;>exact K9p
theorem W.mono {m:M α}{h:AH}{Q Q':α->AH->Prop}(z:W m h Q) (f:∀a h',Q a h'->Q' a h'):W m h Q':=let ⟨a,h',e,q⟩:=z;⟨a,h',e,f a h' q⟩
theorem W.of {m:M α}{h h':AH}{a:α}{Q:α->AH->Prop}(e:m h=.ok a h') (q:Q a h'):W m h Q:=⟨a,h',e,q⟩
theorem z8K {γ:G}{h:AH}{Q:Out->AH->Prop}:W (bNil γ) h Q↔Q (.nx γ) h:=W_pure
def z7D (mt:G->M Out) (Q:Out->AH->Prop):Out->AH->Prop:=λo h=>match o with
 | .nx γ=>W (mt γ) h Q
 | o=>Q o h
theorem z6o {mt:G->M Out}{Q:Out->AH->Prop}{γ:G}{h:AH}:z7D mt Q (.nx γ) h↔W (mt γ) h Q:=K9p
theorem z3H {mt:G->M Out}{Q:Out->AH->Prop}{d:D}{h:AH}:z7D mt Q (.rt d) h↔Q (.rt d) h:=K9p
theorem w_cons {ms mt:G->M Out}{γ:G}{h:AH}{Q:Out->AH->Prop}:W (z8 ms mt γ) h Q↔W (ms γ) h (z7D mt Q):=by
 unfold z8;rw[Z6];constructor
 ·rintro⟨o,h1,e,q⟩;refine⟨o,h1,e,?_⟩;cases o with
  | nx γ=>exact q
  | rt d=>exact(W_pure (a:=Out.rt d) (Q:=Q)).mp q
  | bk d=>exact(W_pure (a:=Out.bk d) (Q:=Q)).mp q
  | ct d=>exact(W_pure (a:=Out.ct d) (Q:=Q)).mp q
 ·rintro⟨o,h1,e,q⟩;refine⟨o,h1,e,?_⟩;cases o with
  | nx γ=>exact q
  | rt d=>exact W_pure.mpr q
  | bk d=>exact W_pure.mpr q
  | ct d=>exact W_pure.mpr q
def runW (Q:D->AH->Prop):Out->AH->Prop:=λo h=>match o with
 | .nx _=>Q .non h
 | .rt d=>Q d h
 | _=>False
theorem z2s {n:Nat}{mb:G->M Out}{ds:List D}{h:AH}{Q:D->AH->Prop}(z:W (mb (v3 n ds)) h (runW Q)):W (runF n mb ds) h Q:=by
 unfold runF;rw[Z6];refine z.mono λo h1 q=>?_;cases o with
 | nx γ=>exact W_pure.mpr q
 | rt d=>exact W_pure.mpr q
 | bk d=>exact q.elim
 | ct d=>exact q.elim
theorem z0P {i j:Int}:fAdd (.int i) (.int j)=pure (.int (i+j)):=rfl
theorem z6r {i j:Int}:fSub (.int i) (.int j)=pure (.int (i - j)):=rfl
theorem zf1 {i j:Int}:fGt (.int i) (.int j)=pure (.bl (decide (j<i))):=rfl
theorem zi7 {i j:Int}:fGe (.int i) (.int j)=pure (.bl (decide (j<=i))):=rfl
theorem z5N {i j:Int}:fLt (.int i) (.int j)=pure (.bl (decide (i<j))):=rfl
theorem zh7 {i j:Int}:fLe (.int i) (.int j)=pure (.bl (decide (i<=j))):=rfl
theorem z9Y {i j:Int}{b:Bool}:fEq b (.int i) (.int j)=pure (.bl (decide (i=j) != b)):=rfl
theorem z9f {i j:Int}(h:0<j):fMod (.int i) (.int j)=pure (.int (i % j)):=by
 unfold fMod fIC;dsimp only;rw[if_pos (decide_eq_true h)]
theorem div_ii {i j:Int}(h:0<j) (h2:j<1073741824):fDiv (.int i) (.int j)=pure (.int (i / j)):=by
 unfold fDiv fIC;dsimp only;rw[if_pos (by rw[decide_eq_true h,decide_eq_true h2];rfl)]
theorem z0Q {b:Bool}:asB (.bl b)=pure b:=rfl
theorem W.pu {m:M α}{a:α}{h:AH}{Q:α->AH->Prop}(p:Pu m a) (q:∀j,Q a (h++j)):W m h Q:=let ⟨j,e⟩:=p h;⟨a,h++j,e,q j⟩
def forW (J:G->AH->Prop) (R:D->AH->Prop):Out->AH->Prop:=λo h=>match o with
 | .nx γ=>J γ h
 | .ct γ=>J γ h
 | .bk _=>False
 | .rt d=>R d h
def endW (J:G->AH->Prop) (R:D->AH->Prop):Out->AH->Prop:=λo h=>match o with
 | .nx γ=>J γ h
 | .ct _=>False
 | .bk _=>False
 | .rt d=>R d h
theorem z4W {src:Src}{g:D->G->M G}{body:G->M Out}(I:Nat->G->AH->Prop) (R:D->AH->Prop) (good:∀i γ h,I i γ h->src.good h):∀(items:List D) (n:Nat) (γ:G) (h:AH),
 (∀i d γ h,items[i]?=some d->I (n+i) γ h->W (g d γ) h λγ1 h1=>W (body γ1) h1 (forW (I (n+i+1)) R))->I n γ h ->
 W (forR src g body items γ) h (endW (I (n+items.length)) R)
 | [],n,γ,h,_,q=>⟨.nx γ,h,by unfold forR Src.chk;simp[good _ _ _ q],q⟩
 | d::r,n,γ,h,z,q=>by
  unfold forR;rw[Z6];refine W.of (a:=()) (h':=h) (by unfold Src.chk;simp[good _ _ _ q]) ?_;rw[Z6];refine(z 0 d γ h rfl q).mono λγ1 h1 q1=>?_;rw[Z6];refine q1.mono λo h2 q2=>?_;have step:∀γ2,I (n+0+1) γ2 h2->W (forR src g body r γ2) h2 (endW (I (n+(d::r).length)) R):=λγ2 w=>by
   have:=z4W (src:=src) I R good r (n+1) γ2 h2 (λi d γ h e q=>by
    have:=z (i+1) d γ h (by simpa using e) (by rw[show n+(i+1)=n+1+i by omega];exact q);rw[show n+(i+1)+1=n+1+i+1 by omega]at this;exact this) (by simpa using w)
   rw[show n+1+r.length=n+(d::r).length by simp;omega]at this;exact this
  cases o with
  | nx γ2=>exact step γ2 q2
  | ct γ2=>exact step γ2 q2
  | bk γ2=>exact q2.elim
  | rt v=>exact W_pure.mpr q2
theorem z9s {ms mt:G->M Out}{γ:G}{h:AH}{Q:Out->AH->Prop}(J:G->AH->Prop) (z:W (ms γ) h (endW J λd h=>Q (.rt d) h)) (k:∀γ h,J γ h->W (mt γ) h Q):W (z8 ms mt γ) h Q:=by
 rw[w_cons];refine z.mono λo h1 q=>?_;cases o with
 | nx γ=>exact k γ h1 q
 | rt d=>exact q
 | bk d=>exact q.elim
 | ct d=>exact q.elim
theorem z2x {n i:Nat}{d:D}(e:(z0q n)[i]?=some d):d=.int i/\i<n:=by
 unfold z0q at e;rw[K0h]at e;obtain⟨j,e1,e2⟩:=K2b.mp e;obtain⟨h1,h2⟩:=K5.mp e1;simp at h1 h2;subst h2;exact⟨e2.symm,h1⟩
theorem z58 {mi:G->M Src}{g:D->G->M G}{body:G->M Out}{γ:G}{h:AH}(I:Nat->G->AH->Prop) (R:D->AH->Prop) {Q:Out->AH->Prop}
 (hs:W (mi γ) h λsrc h1=>I 0 γ h1/\(∀i γ h,I i γ h->src.good h)/\(∀i d γ h,src.items[i]?=some d->I i γ h->W (g d γ) h λγ1 h1=>W (body γ1) h1 (forW (I (i+1)) R))/\(∀γ h',I src.items.length γ h'->Q (.nx γ) h')/\∀d h',R d h'->Q (.rt d) h') :
 W (sFor mi g body γ) h Q:=by
 unfold sFor;rw[Z6];refine hs.mono λsrc h1 ⟨i0,good,st,fin⟩=>?_;have:=z4W (src:=src) (g:=g) (body:=body) I R good src.items 0 γ h1 (λk d γ h e q=>by
  rw[K67]at q ⊢;exact st k d γ h e q) i0
 rw[K67]at this;refine this.mono λo h' q=>?_;cases o with
 | nx γ=>exact fin.1 γ h' q
 | rt d=>exact fin.2 d h' q
 | bk d=>exact q.elim
 | ct d=>exact q.elim
theorem z0M {ma:G->M D}{γ:G}{h h1:AH}{n:Nat}(e:ma γ h=.ok (.int n) h1) (hn:n<4611686018427387904):z14 ma γ h=.ok (.con (z0q n)) h1:=by
 unfold z14;rw[M.bind_ok e];dsimp only;rw[if_pos (by omega)];rfl
theorem z1g {k:G->M Bool}{body:G->M Out}(I:Nat->G->AH->Prop) (E:G->AH->Prop) (R:D->AH->Prop)
 (z:∀m γ h,I m γ h->W (k γ) h λb h1=>if b=true then ∃m',m=m'+1/\W (body γ) h1 (forW (λγ h=>∃i,i<=m'/\I i γ h) R) else E γ h1):∀(n m:Nat) (γ:G) (h:AH),m<n->I m γ h ->
 W (z0O k body n γ) h (endW E R)
 | 0,m,γ,h,hm,_=>by omega
 | n+1,m,γ,h,hm,q=>by
  unfold z0O;rw[Z6];refine(z m γ h q).mono λb h1 q1=>?_;cases b with
  | false =>
   rw[if_neg (by decide)]at q1 ⊢;exact W_pure.mpr q1
  | true =>
   rw[if_pos rfl]at q1 ⊢;obtain⟨m',rfl,q2⟩:=q1;rw[Z6];refine q2.mono λo h2 q3=>?_;cases o with
   | nx γ2=>obtain⟨i,hi,q4⟩:=q3;exact z1g I E R z n i γ2 h2 (by omega) q4
   | ct γ2=>obtain⟨i,hi,q4⟩:=q3;exact z1g I E R z n i γ2 h2 (by omega) q4
   | bk γ2=>exact q3.elim
   | rt v=>exact W_pure.mpr q3
theorem z27 {g:D->G->M G}{k:G->M Bool}{me:G->M D}{γ:G}{p:D->Bool}{f:D->D}(src:Src) (h0:AH) (hg:∀j,src.good (h0++j)):∀(items:List D) (acc:List D),acc.length+items.length<=1000000 ->
 (∀d∈items,∃γ1,(∀h,g d γ h=.ok γ1 h)/\(∀j,k γ1 (h0++j)=.ok (p d) (h0++j))/\(p d=true->∀j,me γ1 (h0++j)=.ok (f d) (h0++j))) ->
 z1x src g k me h0.length γ items (h0++[.lst acc])=.ok () (h0++[.lst (acc++(items.filter p).map f)])
 | [],acc,hl,hd=>by unfold z1x Src.chk;simp[hg]
 | d::r,acc,hl,hd=>by
  obtain⟨γ1,e1,e2,e3⟩:=hd d K0v;unfold z1x;have chk:src.chk (h0++[.lst acc])=.ok () (h0++[.lst acc]):=by unfold Src.chk;simp[hg]
  rw[M.bind_ok chk,M.bind_ok (e1 _),M.bind_ok (e2 _)];simp only[K02]at hl;have hr:∀d∈r,∃γ1,(∀h,g d γ h=.ok γ1 h)/\(∀j,k γ1 (h0++j)=.ok (p d) (h0++j))/\(p d=true->∀j,me γ1 (h0++j)=.ok (f d) (h0++j)):=λx hx=>hd x (K0c _ hx);cases hp:p d with
  | false =>
   rw[if_neg (by decide),z27 src h0 hg r acc (by omega) hr,K41,hp];rfl
  | true =>
   rw[if_pos rfl,M.bind_ok (e3 hp _)];have ap:J7 h0.length (f d) (h0++[.lst acc])=.ok .non (h0++[.lst (acc++[f d])]):=by
    unfold J7 updL;have g1:(h0++[O.lst acc])[h0.length]?=.(l acc):=by simp
    rw[g1];dsimp only;have hs:(acc++[f d]).length<=sizeLine:=by
     rw[K01,K0l];exact K0b (show acc.length+1<=1000000 by omega) (by decide)
    rw[if_pos hs];simp
   rw[M.bind_ok ap,z27 src h0 hg r (acc++[f d]) (by simp;omega) hr,K41,hp];simp
theorem z1i {cap:List (Option Nat)}{mi:G->M Src}{g:D->G->M G}{k:G->M Bool}{me:G->M D}{γ:G}{src:Src}{h:AH}(p:D->Bool) (f:D->D) (hi:mi γ h=.ok src h) (hg:∀j,src.good (h++j)) (hl:src.items.length<=1000000)
 (hd:∀d∈src.items,∃γ1,(∀h,g d (capG cap γ) h=.ok γ1 h)/\(∀j,k γ1 (h++j)=.ok (p d) (h++j))/\(p d=true->∀j,me γ1 (h++j)=.ok (f d) (h++j))) :
 z0A cap mi g k me γ h=.ok (.ref h.length) (h++[.lst ((src.items.filter p).map f)]):=by
 have e:=z27 (g:=g) (k:=k) (me:=me) (γ:=capG cap γ) (p:=p) (f:=f) src h hg src.items [] (by simpa using hl) hd;show (mi γ >>= _) h=_;rw[M.bind_ok hi];rw[M.bind_ok (m:=(λh=>Res.ok (K92 h) (h++[O.lst []]):M Nat)) (h:=h) rfl];rw[M.bind_ok (by simpa using e)];rfl
def Kp (r r':AH):Prop:=∀(n:Nat) (o:O),r[n]?=some o->r'[n]?=some o
theorem Kp.refl (r:AH):Kp r r:=λ_ _ e=>e
theorem Kp.trans {a b c:AH}(h:Kp a b) (h':Kp b c):Kp a c:=λn o e=>h' n o (h n o e)
theorem Kp.app (r j:AH):Kp r (r++j):=λn o e=>by
 rw[K03 (K5.mp e).1,e]
theorem Kp.set {r r':AH}{n:Nat}{o:O}(h:Kp r r') (hn:r.length<=n):Kp r (r'.set n o):=λm o' e=>by
 have:=(K5.mp e).1;rw[K23 (by omega)];exact h m o' e
theorem Kp.len {r r':AH}(h:Kp r r'):r.length<=r'.length:=by
 by_cases e:r.length=0
 ·omega
 ·have:=h (r.length - 1) r[r.length - 1] (K6 (by omega));have:=(K5.mp this).1;omega
theorem z5f {src:Src}{g:D->G->M G}{k:G->M Bool}{me:G->M D}{n0:Nat}{γ:G}(I:Nat->AH->Prop) (good:∀i h,I i h->src.good h):∀(items:List D) (n:Nat) (h:AH),
 (∀i d h,items[i]?=some d->I (n+i) h->W (g d γ) h λγ1 h1=>W (k γ1) h1 λt h2=>if t=true then W (me γ1) h2 λv h3=>W (J7 n0 v) h3 λ_ h4=>I (n+i+1) h4 else I (n+i+1) h2)->I n h ->
 W (z1x src g k me n0 γ items) h λ_ h'=>I (n+items.length) h'
 | [],n,h,_,q=>⟨(),h,by unfold z1x Src.chk;simp[good _ _ q],q⟩
 | d::r,n,h,z,q=>by
  have more:∀h2,I (n+0+1) h2->W (z1x src g k me n0 γ r) h2 λ_ h'=>I (n+(d::r).length) h':=λh2 q2=>by
   have:=z5f (src:=src) (g:=g) (k:=k) (me:=me) (n0:=n0) (γ:=γ) I good r (n+1) h2 (λi d h e q=>by
    have:=z (i+1) d h (by simpa using e) (by rw[show n+(i+1)=n+1+i by omega];exact q);rw[show n+(i+1)+1=n+1+i+1 by omega]at this;exact this) (by simpa using q2)
   rw[show n+1+r.length=n+(d::r).length by simp;omega]at this;exact this
  unfold z1x;rw[Z6];refine W.of (a:=()) (h':=h) (by unfold Src.chk;simp[good _ _ q]) ?_;rw[Z6];refine(z 0 d h rfl q).mono λγ1 h1 q1=>?_;rw[Z6];refine q1.mono λt h2 q2=>?_;cases t with
  | false=>rw[if_neg (by decide)]at q2 ⊢;exact more h2 q2
  | true =>
   rw[if_pos rfl]at q2 ⊢;rw[Z6];refine q2.mono λv h3 q3=>?_;rw[Z6];exact q3.mono λ_ h4 q4=>more h4 q4
theorem z9R {cap:List (Option Nat)}{mi:G->M Src}{g:D->G->M G}{k:G->M Bool}{me:G->M D}{γ:G}{h:AH}{Q:D->AH->Prop}
 (hs:W (mi γ) h λsrc h1=>∃I:Nat->AH->Prop,I 0 (h1++[.lst []])/\(∀i h,I i h->src.good h) /\
  (∀i d h,src.items[i]?=some d->I i h->W (g d (capG cap γ)) h λγ1 h1'=>W (k γ1) h1' λt h2=>if t=true then W (me γ1) h2 λv h3=>W (J7 h1.length v) h3 λ_ h4=>I (i+1) h4 else I (i+1) h2) /\
  ∀h',I src.items.length h'->Q (.ref h1.length) h'):W (z0A cap mi g k me γ) h Q:=by
 unfold z0A;rw[Z6];refine hs.mono λsrc h1 ⟨I,i0,good,st,fin⟩=>?_;rw[Z6];refine W.of (a:=h1.length) (h':=h1++[.lst []]) rfl ?_;rw[Z6];have:=z5f (src:=src) (g:=g) (k:=k) (me:=me) (n0:=h1.length) (γ:=capG cap γ) I good src.items 0 (h1++[.lst []]) (λi d h e q=>by
  rw[K67]at q ⊢;exact st i d h e q) i0
 rw[K67]at this;refine this.mono λ_ h' q=>?_;rw[W_pure];exact fin h' q
def Pi (I:AH->Prop) {α:Type} (m:M α) (a:α):Prop:=∀h,I h->∃j,m h=.ok a (h++j)
class Grow (I:AH->Prop):Prop where
 app:∀h j,I h->I (h++j)
section
variable {I:AH->Prop} [Grow I]
theorem Pi.pure {α:Type}(a:α):Pi I (K7f a:M α) a:=λh _=>⟨[],by simp⟩
theorem Pi.bind {α β:Type}{m:M α}{f:α->M β}{a:α}{b:β}(h1:Pi I m a) (h2:Pi I (f a) b):Pi I (m >>= f) b:=λh i=>by
 obtain⟨j,e⟩:=h1 h i;obtain⟨j',e'⟩:=h2 (h++j) (Grow.app h j i);exact⟨j++j',by rw[M.bind_ok e,e',K32]⟩
theorem Pi.of {α:Type}{m:M α}{a:α}(h:∀x,m x=.ok a x):Pi I m a:=λx _=>⟨[],by rw[h];simp⟩
theorem Pi.at {α:Type}{m:M α}{a:α}(h:∀x,I x->m x=.ok a x):Pi I m a:=λx i=>⟨[],by rw[h x i];simp⟩
end
section
variable {I:AH->Prop} [Grow I] {J J':G->Prop}
end
def Pool (gr sm:List Int) (s c:Int) (r:AH):AH:=.lst (gr.map .int)::.lst (sm.map .int)::.lst [.ref 0,.ref 1,.int s,.int c]::r
def PS (h:AH) (k:Int) (r:AH):Prop:=∃gr sm s c,h=Pool gr sm s c r/\0<=s/\s<2147483647/\0<=c/\c<=k/\gr.length<=63/\sm.length<=63
theorem PS.up {h:AH}{k k':Int}{r:AH}(p:PS h k r) (hk:k<=k'):PS h k' r:=by
 obtain⟨gr,sm,s,c,e,h1,h2,h3,h4,h5,h6⟩:=p;exact⟨gr,sm,s,c,e,h1,h2,h3,by omega,h5,h6⟩
theorem PS.app {h:AH}{k:Int}{r:AH}(p:PS h k r) (j:AH):PS (h++j) k (r++j):=by
 obtain⟨gr,sm,s,c,e,q⟩:=p;exact⟨gr,sm,s,c,by rw[e];rfl,q⟩
theorem PS.get {h:AH}{k:Int}{r:AH}(p:PS h k r) (n:Nat):h[n+3]?=r[n]?:=by
 obtain⟨gr,sm,s,c,e,q⟩:=p;rw[e];rfl
theorem PS.len {h:AH}{k:Int}{r:AH}(p:PS h k r):h.length=r.length+3:=by
 obtain⟨gr,sm,s,c,e,q⟩:=p;rw[e];rfl
theorem PS.set {h:AH}{k:Int}{r:AH}(p:PS h k r) (n:Nat) (o:O):PS (h.set (n+3) o) k (r.set n o):=by
 obtain⟨gr,sm,s,c,e,q⟩:=p;exact⟨gr,sm,s,c,by rw[e];rfl,q⟩
theorem z4x {h:AH}{k:Int}{r:AH}{n:Nat}{xs:List D}{Q:List D->AH->Prop}(p:PS h k r) (e:r[n]?=.(l xs)) (q:Q xs h):W (getL (n+3)) h Q :=
 ⟨xs,h,by unfold getL;rw[p.get,e],q⟩
theorem z5u {h:AH}{k:Int}{r:AH}{n:Nat}{xs:List D}{v:D}{Q:D->AH->Prop}(p:PS h k r) (e:r[n]?=.(l xs)) (hl:xs.length<1000000) (z:∀h',PS h' k (r.set n (.lst (xs++[v])))->Q .non h'):W (J7 (n+3) v) h Q :=
 ⟨.non,h.set (n+3) (.lst (xs++[v])),by
  unfold J7 updL;rw[p.get,e];dsimp only;rw[if_pos (K0b (by simp;omega:(xs++[v]).length<=1000000) (by decide))],z _ (p.set _ _)⟩
theorem z3s {r j:AH}{n:Nat}{o:O}(e:r[n]?=some o):(r++j)[n]?=some o:=by
 rw[K03 (K5.mp e).1,e]
def z8O (x:Str):Prop:=1<=x.length/\x.length<=8/\(∀c∈x.cps.toList,97<=c/\c<=122) /\
 x∉(["yes","no","not","and","or","step","some","all","next","once","ever","until","unless"]:List Str)
theorem len_str (x:Str):x.length=x.cps.toList.length:=by simp[Str.length]
def low (x:Str):Prop:=∀c∈x.cps.toList,97<=c/\c<=122
def words:List Str:=["yes","no","not","and","or","step","some","all","next","once","ever","until","unless"]
theorem zk6 {h:AH}{k:Int}{r:AH}{n:Nat}{xs:List D}{i:Int}{d:D}{Q:D->AH->Prop}(p:PS h k r) (e:r[n]?=.(l xs)) (a:atI xs i=some d) (q:Q d h):W (fIx (.ref (n+3)) (.int i)) h Q:=by
 show W (getL (n+3) >>= λxs=>match atI xs i with|some d=>pure d|none=>bad) h Q;rw[Z6];refine z4x p e ?_;rw[a];exact W_pure.mpr q
theorem z93 {h:AH}{k:Int}{r:AH}{n:Nat}{xs:List D}{Q:D->AH->Prop}(p:PS h k r) (e:r[n]?=.(l xs)) (q:Q (.int xs.length) h):W (fLen [.ref (n+3)]) h Q:=by
 show W (getL (n+3) >>= λxs=>pure (.int xs.length)) h Q;rw[Z6];refine z4x p e ?_;exact W_pure.mpr q
def stD (l:List Nat):List D:=l.map λ(i:Nat)=>.int i
structure MK (l:List Str):Prop where
 len:l.length<=8
 good:∀x∈l,z8O x
 rise:l.Pairwise λa b=>a.cps.toList<b.cps.toList
structure MA (st:List (List Nat)) (mk:List (List Str)):Prop where
 l1:1<=st.length
 l2:st.length<=40
 l3:mk.length=st.length
 s1:∀l∈st,l.Pairwise (·<·)
 s2:∀l∈st,∀x∈l,x<st.length
 m1:∀l∈mk,MK l
theorem strs_map:∀l:List Str,z2l (l.map .str)=some l
 | []=>rfl
 | a::l=>by simp[z2l,strs_map l]
theorem z0B (ns:List Int) (p:D->Bool):((ns.map D.int).filter p).map (λd=>d)=(ns.filter λi=>p (.int i)).map D.int:=by
 rw[List.map_id',K6s];rfl
theorem zd7:fPow (.int 10) (.int 18)=pure (.int 1000000000000000000):=rfl
theorem Y9 (xs:List D):fLen [.tup xs]=pure (.int xs.length):=rfl
theorem ix_tup {xs:List D}{i:Int}{d:D}(a:atI xs i=some d):fIx (.tup xs) (.int i)=pure d:=by
 have:fIx (.tup xs) (.int i)=(pure xs >>= λxs=>match atI xs i with|some d=>pure d|none=>bad):=rfl;rw[this];show (match atI xs i with|some d=>pure d|none=>bad)=_;rw[a]
theorem z7s {l:List Nat}{c:Nat}(hc:c<l.length):atI (stD l) (c:Int)=.(i (((l[c]?).getD 0:Nat))):=by
 refine z32 ?_;unfold stD;rw[K0h,K6 hc];rfl
theorem z1B {x y:List D}(h:x.length+y.length<=1000000):fAdd (.tup x) (.tup y)=pure (.tup (x++y)):=by
 show (if !decide (x.length+y.length<=sizeLine) then _ else _)=_;rw[decide_eq_true (K0b h (by decide))];rfl
section
variable {P:K04}{w:World}{K:K0}{mg:Str->Option Value}{base:Heap}
theorem zi5 {x:Str}{st:Stmt}{f:Addr}{fd:K1i}{N ps:List Str}{k n:Nat}{mb:G->M Out}(F:Fun K x x st f fd) (S:FnScope N ps (Z3 st)) (hn:ps.length=n)
 (body:∀(cdv:Value) (A:Around) (outer:List Env) (s:Shared) (H:Hp) (E:XK),Room k (A.deeper (envOfC x (Z3 st) s.heap.objs.size f cdv)) ->
  SB (cxOf CX0 P w K mg base N x (Z3 st) f cdv A outer s H E).nox EX0 (k7 st) mb):FnOk P w K mg base CX0 (k+1) f fd ps (spB K (runF N.length mb) n):=by
 refine F.ok S (λvs H Q E h=>h.1.trans hn.symm) (λcdv A outer s H vs Q E hr h=>?_);obtain⟨hl,ρ,ds,h,rh,rd,fin⟩:=h;refine⟨_,(body cdv A outer s H E hr).h,ρ,v3 N.length ds,h,⟨z0I rd,rh⟩,?_⟩;refine(Fin.bind fin).mono λo ρ1 h1 H1 p1 e1 r1 f1=>?_;cases o with
 | nx γ=>exact λσ _=>FE.here (d:=.non) (h:=h1) f1 r1 (by simp[RD])
 | rt d=>exact λv rv=>f1 ρ1 H1 (Pre.refl _) (Ext.refl _ _) r1 v rv
 | bk γ=>exact(show False from f1).elim
 | ct γ=>exact(show False from f1).elim
theorem bindsTo1 {x p:Str}{st:Stmt}{f:Addr}{fd:K1i}(F:Fun K x x st f fd)
 (h:∀(kV doc pm:Value) (an:Option Addr) (cdv ct u:Value),K8j (K1x x x (z0c st) (k7 st) (Z3 st) .none kV doc pm an cdv ct) ⟨[u],[]⟩=pure [(p,u)]):∀(s:Shared) (u:Value),K7j s fd ⟨[u],[]⟩ [(p,u)]:=by
 obtain⟨oc,od,kV,doc,pm,an,cdv,ct,osl,rfl,lk,hcd⟩:=F.ex;exact λs u=>.of_eq (h kV doc pm an cdv ct u)
end
theorem law_walk {l:K97}{q:K04}{loose:List Str}{XP:(Str->Option Value)->Heap->Prop}{YP:World->Heap->Prop}{d:DefRec}{K:Params->K0}{m:List D->M D}{p:Str}{lev:Nat}(hn:l.most=some 63) (hdf:d.params.defaults=[]) (hr:Room lev K6a)
 (hY:∀(w:World) (h:Heap),YP w h->(K w.params).In h)
 (F:∀(w:World) (mg:Str->Option Value) (fa:Addr) (h:Heap),(K w.params).In h->h.Ns K17 mg->mg d.name=.(r fa) ->
  ∃fd:K1i,(∀(s:Shared) (u:Value),K7j s fd ⟨[u],[]⟩ [(p,u)])/\∀base:Heap,(K w.params).In base->base.Ns K17 mg->FnOk l.prog w (K w.params) mg base CX0 lev fa fd [p] (spB (K w.params) m 1))
 (math:∀ns:List Int,ns.length<=63->∃h',m [.fl (ns.map .int)] []=.ok (.bl true) h') :
 K9l q loose XP YP l.row.toRowW d [] (λf vs=>K9g f vs):=by
 refine L2.walk_of (n:=63) (k:=lev) (x:=p) (CX:=λ_=>CX0) (sp:=λw=>spB (K w.params) m 1) hn (by decide) hdf hr hY F (λw H a ns hl hO hS=>?_) λ_ _ _ _ _ z=>z;obtain⟨h',e⟩:=math ns hl;have sq:SqLP (K w.params) H a (ns.map V.int):=by
  rcases hS with (h|⟨o,h⟩)|h
  ·rcases hO a with z|⟨ob,xs,z⟩<;>rw[h]at z<;>cases z
  ·exact .inl ⟨o,h⟩
  ·exact .inr h
 refine⟨rfl,[],[.fl (ns.map .int)],[],⟨rfl,λi j a h=>by simp at h,λn o a h=>by simp at h⟩,RDs.cons ?_ RDs.nil,?_⟩
 ·simp only[RD];exact⟨a,_,rfl,sq,z3F ns⟩
 ·rw[e];exact λρ' H' _ _ _ v rv=>by simpa [RD] using rv
mutual
def Y6 (n:Nat):D->Bool
 | .ref i=>decide (i<n)
 | .tup xs=>y0 n xs
 | .fl xs=>y0 n xs
 | _=>true
def y0 (n:Nat):List D->Bool
 | []=>true
 | d::r=>Y6 n d&&y0 n r
end
def refO (n:Nat):O->Bool
 | .lst xs=>y0 n xs
 | .dK kvs=>y0 n (kvs.map (·.2))
 | .dF kvs=>y0 n (kvs.map (·.2))
 | .ins _ fs=>y0 n (fs.map (·.2))
 | _=>true
def Kept (h h1:AH):Prop:=∀(i:Nat) (o:O),i<h.length->h1[i]?=some o->h[i]?=some o\/refO h.length o=true
section
variable {K:K0}{ρ ρ':List Addr}{H:Hp}
theorem z36 {ρ:List Addr}{n i:Nat}(h:i<n):(ρ.take n)[i]?=ρ[i]?:=by rw[K1f,if_pos h]
mutual
theorem RD.cut {n:Nat}:∀{d:D}{v:V},Y6 n d=true->RD K ρ H d v->RD K (ρ.take n) H d v
 | .non,v,_,h=>by simpa [RD] using h
 | .bl b,v,_,h=>by simpa [RD] using h
 | .int b,v,_,h=>by simpa [RD] using h
 | .str b,v,_,h=>by simpa [RD] using h
 | .tup ds,v,c,h=>by
  simp only[RD,Y6]at h c ⊢;obtain⟨a,xs,h1,h2,h3⟩:=h;exact⟨a,xs,h1,h2,RDs.cut c h3⟩
 | .fl ds,v,c,h=>by
  simp only[RD,Y6]at h c ⊢;obtain⟨a,xs,h1,h2,h3⟩:=h;exact⟨a,xs,h1,h2,RDs.cut c h3⟩
 | .ref i,v,c,h=>by
  simp only[RD,Y6,decide_eq_true_eq]at h c ⊢;obtain⟨a,h1,h2⟩:=h;exact⟨a,h1,by rw[z36 c];exact h2⟩
theorem RDs.cut {n:Nat}:∀{ds:List D}{xs:List V},y0 n ds=true->RDs K ρ H ds xs->RDs K (ρ.take n) H ds xs
 | [],xs,_,h=>by simpa [RDs] using h
 | d::ds,xs,c,h=>by
  simp only[RDs,y0,K06]at h c ⊢;obtain⟨x,r,h1,h2,h3⟩:=h;exact⟨x,r,h1,RD.cut c.1 h2,RDs.cut c.2 h3⟩
end
mutual
theorem RD.low:∀{d:D}{v:V},RD K ρ H d v->Y6 ρ.length d=true
 | .non,v,h=>rfl
 | .bl b,v,h=>rfl
 | .int b,v,h=>rfl
 | .str b,v,h=>rfl
 | .tup ds,v,h=>by
  simp only[RD,Y6]at h ⊢;obtain⟨a,xs,h1,h2,h3⟩:=h;exact RDs.low h3
 | .fl ds,v,h=>by
  simp only[RD,Y6]at h ⊢;obtain⟨a,xs,h1,h2,h3⟩:=h;exact RDs.low h3
 | .ref i,v,h=>by
  simp only[RD,Y6,decide_eq_true_eq]at h ⊢;obtain⟨a,h1,h2⟩:=h;exact(K5.mp h2).1
theorem RDs.low:∀{ds:List D}{xs:List V},RDs K ρ H ds xs->y0 ρ.length ds=true
 | [],xs,h=>rfl
 | d::ds,xs,h=>by
  simp only[RDs,y0,K06]at h ⊢;obtain⟨x,r,h1,h2,h3⟩:=h;exact⟨RD.low h2,RDs.low h3⟩
end
theorem RK.cut {κ:Type}{n:Nat}:∀{kvs:List (κ×D)}{vs:List (κ×V)},y0 n (kvs.map (·.2))=true->RK K ρ H kvs vs->RK K (ρ.take n) H kvs vs
 | _,_,_,.nil=>.nil
 | _,_,c,.cons a b=>by
  simp only[K0z,y0,K06]at c;exact .cons ⟨a.1,a.2.cut c.1⟩ (RK.cut c.2 b)
theorem RK.low {κ:Type}:∀{kvs:List (κ×D)}{vs:List (κ×V)},RK K ρ H kvs vs->y0 ρ.length (kvs.map (·.2))=true
 | _,_,.nil=>rfl
 | _,_,.cons a b=>by
  simp only[K0z,y0,K06];exact⟨a.2.low,RK.low b⟩
theorem RO.cut {n:Nat}{o:O}{a:Addr}(c:refO n o=true) (h:RO K ρ H o a):RO K (ρ.take n) H o a:=by
 cases o with
 | lst ds=>obtain⟨xs,h1,h2⟩:=h;exact⟨xs,h1,h2.cut c⟩
 | set ks=>exact h
 | dct=>exact h
 | dK kvs=>obtain⟨vs,h1,h2⟩:=h;exact⟨vs,h1,h2.cut c⟩
 | dF kvs=>obtain⟨ob,vs,h1,h2⟩:=h;exact⟨ob,vs,h1,h2.cut c⟩
 | exc c=>exact h
 | ins c' fs=>obtain⟨C,dx,vs,h1,h2,h3⟩:=h;exact⟨C,dx,vs,h1,h2,h3.cut c⟩
theorem RO.low {o:O}{a:Addr}(h:RO K ρ H o a):refO ρ.length o=true:=by
 cases o with
 | lst ds=>obtain⟨xs,h1,h2⟩:=h;exact h2.low
 | set ks=>rfl
 | dct=>rfl
 | dK kvs=>obtain⟨vs,h1,h2⟩:=h;exact h2.low
 | dF kvs=>obtain⟨ob,vs,h1,h2⟩:=h;exact h2.low
 | exc c=>rfl
 | ins c fs=>obtain⟨C,dx,vs,_,_,h3⟩:=h;exact h3.low
theorem RH.cut {h:AH}{n:Nat}(r:RH K ρ h H) (c:∀o∈h.take n,refO n o=true):RH K (ρ.take n) (h.take n) H:=by
 refine⟨by simp[r.len],λi j a h1 h2=>?_,λm o a h1 h2=>?_⟩
 ·rw[K1f]at h1 h2;split at h1
  ·split at h2
   ·exact r.nd i j a h1 h2
   ·cases h2
  ·cases h1
 ·have hm:=K1d h1;rw[K1f]at h1 h2;split at h1
  ·rename_i q;rw[if_pos q]at h2;exact(r.obj m o a h1 h2).cut (c o hm)
  ·cases h1
theorem RH.cut1 {h:AH}{n i:Nat}{o:O}(r:RH K ρ h H) (c:∀o∈h.take n,refO n o=true) (hn:n<=h.length) (hi:n<=i) (e:h[i]?=some o) (co:refO n o=true):∃a,ρ[i]?=some a/\RH K (ρ.take n++[a]) (h.take n++[o]) H:=by
 obtain⟨a,ea,ra⟩:=r.at e;have r1:=r.cut c;have ln:(ρ.take n).length=n:=by rw[K0a,r.len];omega
 have lh:(h.take n).length=n:=by rw[K0a];omega
 have ne:∀{m:Nat} {b:Addr},(ρ.take n)[m]?=some b->b≠a:=λ{m b} q z=>by
  have hm:=(K5.mp q).1;rw[ln]at hm;rw[z36 hm,z]at q;have:=r.nd m i a q ea;omega
 refine⟨a,ea,by simp[r1.len],λi j b h1 h2=>?_,λm u b h1 h2=>?_⟩
 ·rw[K2k]at h1 h2;split at h1<;>split at h2
  ·exact r1.nd i j b h1 h2
  ·rename_i q1 q2;rw[K1b]at h2;split at h2
   ·cases h2;exact absurd rfl (ne h1)
   ·cases h2
  ·rename_i q1 q2;rw[K1b]at h1;split at h1
   ·cases h1;exact absurd rfl (ne h2)
   ·cases h1
  ·rw[K1b]at h1 h2;split at h1
   ·split at h2
    ·omega
    ·cases h2
   ·cases h1
 ·rw[K2k]at h1 h2;rw[ln]at h2;rw[lh]at h1;split at h1
  ·rename_i q;rw[if_pos q]at h2;exact(r1.obj m u b h1 h2).mono (Pre.app _ _) (Ext.refl _ _) rfl
  ·rename_i q;rw[if_neg q]at h2;rw[K1b]at h1 h2;split at h1
   ·rename_i q0;rw[if_pos q0]at h2;cases h1;cases h2;exact(ra.cut co).mono (Pre.app _ _) (Ext.refl _ _) rfl
   ·cases h1
end
theorem z80 {K:K0}{ρ:List Addr}{h h1:AH}{H:Hp}(r:RH K ρ h H) (c:Kept h h1):∀o∈h1.take h.length,refO h.length o=true:=λo ho=>by
 obtain⟨i,hi⟩:=K37 ho;rw[K1f]at hi;split at hi
 ·rename_i li;rcases c i o li hi with q|q
  ·obtain⟨a,_,ra⟩:=r.at q;rw[<- r.len];exact ra.low
  ·exact q
 ·cases hi
theorem z5S (h j:AH):Kept h (h++j):=λi o li e=>.inl (by rw[K03 li]at e;exact e)
open Classical in
noncomputable def cln (m:M D):M D:=λh=>match m h with
 | .ok d h1=>if h.length<=h1.length/\Kept h h1 then
  (if Y6 h.length d=true then .ok d (h1.take h.length) else match d with
   | .ref i=>(match h1[i]? with
    | some o=>if refO h.length o=true then .ok (.ref h.length) (h1.take h.length++[o]) else .ok d h1
    | none=>.ok d h1)
   | d=>.ok d h1)
  else .ok d h1
 | .err x h1=>.err x h1
 | .bad=>.bad
theorem FE.cln {K:K0}{EX:XX}{ρ:List Addr}{h:AH}{H:Hp}{Q:VK}{m:M D}(r:RH K ρ h H) (f:FE K EX ρ H Q (cln m h)):FE K EX ρ H Q (m h):=by
 unfold FT.cln at f;cases e:m h with
 | bad=>rw[e]at f;exact f
 | err x h1=>rw[e]at f;exact f
 | ok d h1 =>
  rw[e]at f;dsimp only at f;split at f
  ·rename_i c;obtain⟨hl,c⟩:=c;have cl:=z80 r c;have pre:∀{ρ1:List Addr},Pre ρ ρ1->Pre ρ (ρ1.take h.length):=λ{ρ1} p i a q=>by
    have:=(K5.mp q).1;rw[r.len]at this;rw[z36 this];exact p i a q
   split at f
   ·rename_i cd;exact λρ1 H1 p1 e1 r1 v rv=>f _ H1 (pre p1) e1 (r1.cut cl) v (rv.cut cd)
   ·rename_i nd;split at f
    ·rename_i i;split at f
     ·rename_i o eo;split at f
      ·rename_i co;intro ρ1 H1 p1 e1 r1 v rv;have hi:h.length<=i:=by
        simp only[Y6,decide_eq_true_eq]at nd;omega
       obtain⟨a,ea,r2⟩:=r1.cut1 cl hl hi eo co;refine f _ H1 ((pre p1).trans (Pre.app _ _)) e1 r2 v ?_;simp only[RD]at rv ⊢;obtain⟨b,h2,h3⟩:=rv;rw[ea]at h3;cases h3;refine⟨a,h2,?_⟩;have ln:(ρ1.take h.length).length=h.length:=by rw[K0a,r1.len];omega
       rw[K1l (by omega),ln];simp
      ·exact f
     ·exact f
    ·exact f
  ·exact f
noncomputable def clE (m:G->M D):G->M D:=λγ=>cln (m γ)
theorem z5k {X:Cx}{EX:XX}{e:Expr}{m:G->M D}(h:SE X EX e m):SE X EX e (clE m) :=
 ⟨PE.imp h.h λσ H Q ⟨ρ,γ,h,rel,fin⟩=>⟨ρ,γ,h,rel,FE.cln rel.h fin⟩⟩
open Classical in
noncomputable def clT (m:G->M Bool):G->M Bool:=λγ h=>match m γ h with
 | .ok d h1=>if h.length<=h1.length/\Kept h h1 then .ok d (h1.take h.length) else .ok d h1
 | .err x h1=>.err x h1
 | .bad=>.bad
theorem Fn.cln {P:K04}{w:World}{K:K0}{mg:Str->Option Value}{base:Heap}{k:Nat}{x:Str}{n:Nat}{mf:List D->M D}(F:Fn P w K mg base k x n mf):Fn P w K mg base k x n (λds=>cln (mf ds)):=by
 obtain⟨f,fd,ps,h1,h2,h3,h4⟩:=F.ex;exact⟨f,fd,ps,h1.imp λvs H Q E ⟨hl,ρ,ds,h,rh,rd,fin⟩=>⟨hl,ρ,ds,h,rh,rd,FE.cln rh fin⟩,h2,h3,h4⟩
theorem FnX.cln {P:K04}{w:World}{K:K0}{mg:Str->Option Value}{base:Heap}{k:Nat}{x:Str}{n:Nat}{mf:List D->M D}(F:FnX P w K mg base k x n mf):FnX P w K mg base k x n (λds=>cln (mf ds)):=by
 obtain⟨f,fd,ps,h1,h2,h3,h4⟩:=F.ex;exact⟨f,fd,ps,h1.imp λvs H Q E ⟨hl,ρ,ds,h,rh,rd,fin⟩=>⟨hl,ρ,ds,h,rh,rd,FE.cln rh fin⟩,h2,h3,h4⟩
end FT
namespace L2
open PySem PySem.Spec PyProof.Rows PySem.Builtin
theorem z1a:fillsNumberSlot (.type "tuple") "mul" = pure false :=
 PySem.fillsNumberSlot_seq (id:="tuple.__mul__") (r:=some (.builtin "tuple.__rmul__")) K2c.lookup (by decide +kernel) K5o.lookup (by decide +kernel)
theorem z2E:seqRepeat? (.type "tuple")=pure (some (.builtin "tuple.__mul__")):=by
 unfold seqRepeat?;rw[K8u (T:="tuple") (name:="__mul__") (id:="tuple.__mul__") K2c.lookup (by decide +kernel),K8u (T:="tuple") (name:="__rmul__") (id:="tuple.__rmul__") K5o.lookup (by decide +kernel)];rfl
theorem z7t (a:Int) (t:Tok) (l:Addr) (items:Array Value) (n:Nat) (dd:Option Addr) (sl:Array (Option Value)) :
 Meets (Builtin.«int.__rmul__» ⟨[.int a t,.ref l],[]⟩) (λ_ R s=>s.heap.get? l=some { cls:=.type "tuple",dict:=dd,data:=.seq items n,slots:=sl }/\R (.ok (.ret Value.notImplemented)) s) :=
 .of_wp λprog w A R s h=>by obtain⟨hp,g,d,tk,os⟩:=s;obtain⟨hl,h⟩:=h;wp_walk;exact⟨_,rfl,h⟩
theorem z9u (l:Addr) (items:Array Value) (n:Nat) (dd:Option Addr) (sl:Array (Option Value)) (x:Int) (u:Tok) (h1:-(2 ^ 63)<=x) (h2:x<2 ^ 63) (hc:items.isEmpty=true\/x=1) :
 Meets (Builtin.«tuple.__mul__» ⟨[.ref l,.int x u],[]⟩) (λ_ R s=>s.heap.get? l=some { cls:=.type "tuple",dict:=dd,data:=.seq items n,slots:=sl }/\R (.ok (.ret (K0e l))) s) :=
 .of_wp λprog w A R s h=>by
  obtain⟨hp,g,d,tk,os⟩:=s;obtain⟨hl,h⟩:=h;have f1:=K3q;have c1:(decide (x < -(2 ^ 63))||decide (x >= 2 ^ 63))=false:=by simp;omega
  have c2:(items.isEmpty||x==1)=true:=by simpa using hc
  wp_walk using wpAny_loadPart' hl
  refine K29 (by rw[c1];rfl) ?_
  wp_walk using wpAny_loadPart' hl
  exact⟨_,rfl,h⟩
theorem z99 (l:Addr) (items:Array Value) (n:Nat) (dd:Option Addr) (sl:Array (Option Value)) (x:Int) (u:Tok) (h1:-(2 ^ 63)<=x) (h2:x<2 ^ 63) (hc:items.isEmpty=false) (hx:x<=0) :
 Meets (Builtin.«tuple.__mul__» ⟨[.ref l,.int x u],[]⟩) (λ_ R s=>s.heap.get? l=some { cls:=.type "tuple",dict:=dd,data:=.seq items n,slots:=sl }/\R (.ok (.ret (K0e s.heap.objs.size))) { s with heap:=s.heap.push { cls:=K63 "tuple",data:=Data.seq #[] },toks:=s.toks }) :=
 .of_wp λprog w A R s h=>by
  obtain⟨hp,g,d,tk,os⟩:=s;obtain⟨hl,h⟩:=h;have f1:=K3q;have c1:(decide (x < -(2 ^ 63))||decide (x >= 2 ^ 63))=false:=by simp;omega
  have c2:(items.isEmpty||x==1)=false:=by rw[hc];simp;omega
  have c3:(decide (x<=0)||items.isEmpty)=true:=by simp[hx]
  wp_walk using wpAny_loadPart' hl
  refine K29 (by rw[c1];rfl) ?_
  wp_walk using wpAny_loadPart' hl
  refine K29 (by rw[c2];rfl) ?_
  wp_walk using wpAny_loadPart' hl
  exact⟨_,rfl,h⟩
theorem z90 (l:Addr) (items:Array Value) (n:Nat) (dd:Option Addr) (sl:Array (Option Value)) (x:Int) (u:Tok) (h1:-(2 ^ 63)<=x) (h2:x<2 ^ 63) (hc:items.isEmpty=false) (hx:1<x) (hz:items.size * x.toNat<=sizeLine) :
 Meets (Builtin.«tuple.__mul__» ⟨[.ref l,.int x u],[]⟩) (λ_ R s=>s.heap.get? l=some { cls:=.type "tuple",dict:=dd,data:=.seq items n,slots:=sl }/\R (.ok (.ret (K0e s.heap.objs.size))) { s with heap:=s.heap.push { cls:=K63 "tuple",data:=Data.seq (K40 (λx1 x2=>x1++x2) #[] (K07 x.toNat items)) },toks:=s.toks }) :=
 .of_wp λprog w A R s h=>by
  obtain⟨hp,g,d,tk,os⟩:=s;obtain⟨hl,h⟩:=h;have f1:=K3q;have c1:(decide (x < -(2 ^ 63))||decide (x >= 2 ^ 63))=false:=by simp;omega
  have c2:(items.isEmpty||x==1)=false:=by rw[hc];simp;omega
  have c3:(decide (x<=0)||items.isEmpty)=false:=by rw[hc];simp;omega
  have ez:(items.size:Int) * x=((items.size * x.toNat:Nat):Int):=by
   rw[K9d,Int.toNat_of_nonneg (by omega)]
  have sl4:(sizeLine:Nat)<=2 ^ 24:=by decide
  have c4:¬ (items.size:Int) * x > (2 ^ 63 - 1) / 8:=by rw[ez];omega
  have c5:Tuple.tupleTooMany ((items.size:Int) * x)=false:=by
   unfold Tuple.tupleTooMany;rw[ez,decide_eq_false_iff_not];omega
  wp_walk using wpAny_loadPart' hl
  refine K29 (by rw[c1];rfl) ?_
  wp_walk using wpAny_loadPart' hl
  refine K29 (by rw[c2];rfl) ?_
  wp_walk using wpAny_loadPart' hl
  refine K29 (by rw[c3];rfl) ?_
  wp_walk using wpAny_loadPart' hl
  rw[if_neg c4]
  wp_walk using wpAny_loadPart' hl
  refine K29 (by rw[c5];rfl) ?_
  wp_walk using wpAny_loadPart' hl
  have c6:¬ (K40 (λx1 x2=>x1++x2) #[] (K07 x.toNat items)).size > sizeLine:=by
   have f0:=foldl_rep items.toList x.toNat [];rw[K6q]at f0;have:(K40 (λx1 x2=>x1++x2) #[] (K07 x.toNat items))=(K07 x.toNat items.toList).flatten.toArray:=f0;rw[this,K8,len_rep,K2p,K22];omega
  refine K29 (decide_eq_false c6) ?_
  wp_walk using wpAny_loadPart' hl
  exact⟨_,rfl,h⟩
def zf8 (K:K0):R2:=λx y H Q=>∃a k xs,x=.ref a/\y=.int k/\SqT K H a xs/\-(2 ^ 63)<=k/\k<2 ^ 63/\xs.length * k.toNat<=sizeLine /\
 ((xs=[]\/k=1)->Q (.ref a) H)/\(∀p,H p=none->Q (.ref p) (upd H p (.tup (K07 k.toNat xs).flatten)))
theorem z8s {X:Cx}:OpR X (K2a .Mult) (zf8 X.K):=by
 intro pins s σ H x y v u Q I rx ry h;obtain⟨a,k,xs,rfl,rfl,ha,h1,h2,hz,q1,q2⟩:=h;cases rx;obtain⟨t,rfl⟩:=ry;obtain⟨its,r1,p1,_⟩:=I.tuple ha;obtain⟨⟨cls,dd,data,sl⟩,ho,hc,n,hd⟩:=id p1;simp only at hc hd;subst hc hd;have go:∀(R:Value->Shared->Prop),wpAny (model X.prog X.w) X.A (call (.builtin "tuple.__mul__") [.ref a,.int k t]) R X.xe s->wpAny (model X.prog X.w) X.A (K2a .Mult (.ref a) (.int k t)) R X.xe s:=λR z =>
  K59 (T:="tuple") (U:="int") (by decide) ⟨_,ho,rfl⟩ (λs'=>K42 s' k t) z1a PySem.F.fills_int_mul K6w z2E PySem.F.slot_int_index.lookup
   (K28 K6w (K42 s k t) PySem.F.entry_int_rmul (PySem.F.args_int_rmul_2 _ _) (z7t k t a its.toArray n dd sl) ⟨ho,rfl,⟨_,ho,rfl⟩,z⟩)
 refine go _ ?_;have ln:its.length=xs.length:=r1.length.symm;by_cases c:xs=[]\/k=1
 ·refine K28 K2c ⟨_,ho,rfl⟩ K3m (K3f _ _) (z9u a its.toArray n dd sl k t h1 h2 ?_) ⟨ho,.ref a,H,I,rfl,q1 c⟩;rcases c with c|c
  ·left;have:its=[]:=r1.nil_iff.mpr c;rw[this];rfl
  ·exact .inr c
 ·have ne:its.toArray.isEmpty=false:=by
   cases its with
   | nil=>exact absurd (.inl (r1.nil_iff.mp rfl)) c
   | cons a r=>rfl
  by_cases k0:k<=0
  ·refine K28 K2c ⟨_,ho,rfl⟩ K3m (K3f _ _) (z99 a its.toArray n dd sl k t h1 h2 ne k0) ⟨ho,?_⟩;have e0:k.toNat=0:=by omega
   refine⟨.ref s.heap.objs.size,_,I.laid (t':=s.toks) (o:=.tup (K07 k.toNat xs).flatten) (λb ob q=>K9 _ q) (K05 _) ?_,rfl,q2 _ (I.hok.fresh (K05 _))⟩;rw[e0];exact⟨by simp,_,.nil,FT.IsTup0.new _ _⟩
  ·have k2:1<k:=by
    have:k≠1:=λz=>c (.inr z);omega
   refine K28 K2c ⟨_,ho,rfl⟩ K3m (K3f _ _) (z90 a its.toArray n dd sl k t h1 h2 ne k2 (by rw[K8,ln];exact hz)) ⟨ho,?_⟩;refine⟨.ref s.heap.objs.size,_,I.laid (t':=s.toks) (o:=.tup (K07 k.toNat xs).flatten) (λb ob q=>K9 _ q) (K05 _) ?_,rfl,q2 _ (I.hok.fresh (K05 _))⟩;refine⟨by rw[len_rep,K22];exact hz,_,r1.rep k.toNat,?_⟩;have f0:=foldl_rep its k.toNat [];rw[K6q]at f0;have e:(K40 (λx1 x2=>x1++x2) #[] (K07 k.toNat its.toArray))=(K07 k.toNat its).flatten.toArray:=f0;rw[e];exact FT.IsTup0.new _ _
end L2
namespace FT
def z0r:D->D->M D
 | .tup x,.int j=>if decide (-(2 ^ 63)<=j)&&decide (j<2 ^ 63)&&decide (j.toNat * x.length<=sizeLine) then pure (.tup (K07 j.toNat x).flatten) else bad
 | x,y=>fMul x y
theorem z7T {X:Cx}{EX:XX}:BR X.K EX (λx y H Q=>(rI CMul (λi j=>.int (i * j)) x y H Q\/rRep x y H Q)\/zf8 X.K x y H Q) z0r:=by
 intro ρ h H x y v u Q r rx ry fin;unfold z0r at fin;split at fin
 ·rename_i ds j;simp only[RD]at rx ry;obtain⟨a,xs,rfl,sq,rd⟩:=rx;subst ry;split at fin
  ·rename_i hc;simp only[K06,decide_eq_true_eq]at hc;have hl:=rd.length;refine .inr ⟨a,j,xs,rfl,rfl,sq,hc.1.1,hc.1.2,by rw[<- hl,K22];exact hc.2,λc=>?_,λp hp=>FE.tup fin r (rd.flat j.toNat) hp⟩;refine FE.here fin r ?_;simp only[RD];refine⟨a,xs,rfl,sq,?_⟩;rcases c with c|c
   ·subst c;have:ds=[]:=by simpa using hl
    subst this;have:(K07 j.toNat ([]:List D)).flatten=[]:=by simp
    rw[this];exact rd
   ·subst c;have:(K07 (1:Int).toNat ds).flatten=ds:=by simp
    rw[this];exact rd
  ·exact fin.elim
 ·exact .inl (z9o ρ h H x y v u Q r rx ry fin)
theorem z0m {X:Cx}{EX:XX}{a b:Expr}{pos:Pos}{ma mb:G->M D}(ha:SE X EX a ma) (hb:SE X EX b mb):SE X EX (.BinOp a .Mult b pos) (e2 z0r ma mb):=z46 ((op_mul.or z9v).or z8s) z7T ha hb
structure KD (K:K0) (dk:Addr) (name:Str) (d:D) (v:V) (u:Value):Prop where
 ns:K1e K dk name=some (some u)
 rel:RelV v u
 rd:∀ρ H,RD K ρ H d v
structure FnR (P:K04) (w:World) (K:K0) (mg:Str->Option Value) (base:Heap) (k:Nat) (x:Str) (st:Stmt) (dk:Addr) (ps:List Str) (mf:List D->M D):Prop where
 ex:∃(f:Addr) (doc pm:Value) (an:Option Addr) (cdv ct:Value),FnOk P w K mg base CX0 k f (K1x x x (z0c st) (k7 st) (Z3 st) .none (.ref dk) doc pm an cdv ct) ps (spB K mf ps.length)/\K19 K (.ref f)=true/\mg x=.(r f)
theorem FnR.cln {P:K04}{w:World}{K:K0}{mg:Str->Option Value}{base:Heap}{k:Nat}{x:Str}{st:Stmt}{dk:Addr}{ps:List Str}{mf:List D->M D}(F:FnR P w K mg base k x st dk ps mf):FnR P w K mg base k x st dk ps (λds=>FT.cln (mf ds)):=by
 obtain⟨f,doc,pm,an,cdv,ct,h1,h2,h3⟩:=F.ex;exact⟨f,doc,pm,an,cdv,ct,h1.imp λvs H Q E ⟨hl,ρ,ds,h,rh,rd,fin⟩=>⟨hl,ρ,ds,h,rh,rd,FE.cln rh fin⟩,h2,h3⟩
structure FnP (P:K04) (w:World) (K:K0) (mg:Str->Option Value) (base:Heap) (k:Nat) (x:Str) (n:Nat) (ks:List Str) (d1 d2:List D) (mf:List D->M D):Prop where
 ex:∃f fd ps g gV v1 v2,FnOk P w K mg base CX0 k f fd ps (spB K mf ps.length)/\KBinds K fd ps ks g gV/\K19 K (.ref f)=true/\mg x=.(r f)/\(∀vs zs:List V,vs.length=n->zs.length=ks.length->gV vs zs=vs++(v1++zs++v2)/\(gV vs zs).length=ps.length) /\
  ∀ρ H,RDs K ρ H d1 v1/\RDs K ρ H d2 v2
structure SK (X:Cx) (EX:XX) (kws:List K2q) (m:G->M (List D)):Prop where
 h:PK X kws (tL X.K EX m)
theorem PK.imp {X:Cx}{e:List K2q}{t t':TA}(h:PK X e t) (f:∀σ H Q,t' σ H Q->t σ H Q):PK X e t':=λpos pins s σ H Q I z=>h pos pins s σ H Q I (f σ H Q z)
section
variable {X:Cx}{a e:Expr}{es:List Expr}{kws:List K2q}{pos p kpos:Pos}{mr mk:G->M (List D)}{ma:G->M D}{nm:Option Str}{EX:XX}
end
end FT
namespace L2
open PySem.AutoSeq1 (wpAny_loadPart')
section
variable {prog:K04}{w:World}{A:Around}{E:Value->Shared->Prop}{s:Shared}
end
section
variable {X:Cx}
end
end L2
namespace FT
section
variable {X:Cx}{EX:XX}{a:Expr}{p p2 pos pos2:Pos}{ma:G->M D}
end
inductive Vw where
 | flat (d:D)|tup (xs:List D)|lst (xs:List D)|no
def vw (h:AH):D->Vw
 | .tup xs=>.tup xs
 | .fl xs=>.lst xs
 | .ref i=>match h[i]? with
  | .(l xs)=>.lst xs
  | _=>.no
 | d=>.flat d
def eqZ (f:D->D->Option Bool):List D->List D->Option Bool
 | [],[]=>some true
 | x::xs,y::ys=>match f x y,eqZ f xs ys with
  | some a,some b=>some (a&&b)
  | _,_=>none
 | _,_=>some false
def eqN:Nat->AH->D->D->Option Bool
 | 0,_,_,_=>none
 | n+1,h,x,y=>match vw h x,vw h y with
  | .flat a,.flat b=>some (eqF a b)
  | .tup xs,.tup ys=>eqZ (eqN n h) xs ys
  | .lst xs,.lst ys=>eqZ (eqN n h) xs ys
  | .no,_=>none
  | _,.no=>none
  | _,_=>some false
def eqE (f:D->D->Option Bool) (xs ys:List D) (j:Nat):Bool:=(f (xs.getD j .non) (ys.getD j .non)).getD false
theorem z2k {f:D->D->Option Bool}:∀{xs ys:List D}{b:Bool},eqZ f xs ys=some b ->
 (∀j x y,xs[j]?=some x->ys[j]?=some y->f x y=some (eqE f xs ys j))/\b=((K0q (min xs.length ys.length)).all (eqE f xs ys)&&xs.length==ys.length)
 | [],[],b,h=>by
  unfold eqZ at h;cases h;exact⟨λj x y e=>by simp at e,by simp⟩
 | [],y::ys,b,h=>by
  unfold eqZ at h;cases h;exact⟨λj x y e=>by simp at e,by simp⟩
 | x::xs,[],b,h=>by
  unfold eqZ at h;cases h;exact⟨λj x y _ e=>by simp at e,by simp⟩
 | x::xs,y::ys,b,h=>by
  unfold eqZ at h;split at h
  ·rename_i a c e1 e2;cases h;obtain⟨q1,q2⟩:=z2k e2;refine⟨λj p q ep eq=>?_,?_⟩
   ·cases j with
    | zero=>simp at ep eq;subst ep;subst eq;unfold eqE;simp[e1]
    | succ j=>simpa [eqE] using q1 j p q (by simpa using ep) (by simpa using eq)
   ·rw[q2];have:min (x::xs).length (y::ys).length=min xs.length ys.length+1:=by simp
    rw[this,List.range_succ_eq_map,K7q,List.all_map,<- Bool.and_assoc];congr 1
    ·unfold eqE;simp[e1,K8f]
    ·simp
  ·cases h
section
variable {K:K0}{ρ:List Addr}{h:AH}{H:Hp}
theorem z0t {d a:D}(e:vw h d=.flat a):a=d/\z1H d=true:=by
 cases d<;>simp[vw]at e<;>first|(subst e;exact⟨rfl,rfl⟩)|skip
 split at e<;>cases e
theorem z12 {d:D}{xs:List D}{v:V}(e:vw h d=.tup xs) (r:RD K ρ H d v):∃a vs,v=.ref a/\SqT K H a vs/\RDs K ρ H xs vs:=by
 cases d<;>simp[vw]at e
 ·subst e;simpa [RD] using r
 ·split at e<;>cases e
theorem z13 {d:D}{xs:List D}{v:V}(rh:RH K ρ h H) (e:vw h d=.lst xs) (r:RD K ρ H d v):∃a vs,v=.ref a/\SqL K H a vs/\RDs K ρ H xs vs:=by
 cases d<;>simp[vw]at e
 ·subst e;simp only[RD]at r;obtain⟨a,vs,h1,h2,h3⟩:=r;exact⟨a,vs,h1,h2.sq,h3⟩
 ·split at e
  ·rename_i i xs' ei;cases e;simp only[RD]at r;obtain⟨a,h1,h2⟩:=r;obtain⟨a',h3,vs,h4,h5⟩:=rh.at ei;rw[h2]at h3;cases h3;exact⟨a,vs,h1,SqL.of h4,h5⟩
  ·cases e
end
section
variable {X:Cx}{pins:List (Addr×Obj)}{σ:L2.St}{ρ:List Addr}{h:AH}{H:Hp}{s:Shared}
theorem z26 {K:K0}{a:Addr}:∀{d:D},z1H d=true->RD K ρ H d (.ref a)->False
 | .non,_,r=>by simp[RD]at r
 | .bl _,_,r=>by simp[RD]at r
 | .int _,_,r=>by simp[RD]at r
 | .str _,_,r=>by simp[RD]at r
 | .tup _,f,_=>by cases f
 | .fl _,f,_=>by cases f
 | .ref _,f,_=>by cases f
theorem z5U:∀{d:D},z1H d=true->eqF d d=true
 | .non,_=>rfl
 | .bl _,_=>by simp[eqF]
 | .int _,_=>by simp[eqF]
 | .str _,_=>by simp[eqF]
 | .tup _,f=>by cases f
 | .fl _,f=>by cases f
 | .ref _,f=>by cases f
def flV:D->V
 | .bl b=>.bl b
 | .int i=>.int i
 | .str x=>.str x
 | _=>.non
theorem z1T {K:K0}:∀{d:D}{v:V},z1H d=true->RD K ρ H d v->v=flV d
 | .non,_,_,r=>by simp only[RD]at r;exact r
 | .bl _,_,_,r=>by simp only[RD]at r;exact r
 | .int _,_,_,r=>by simp only[RD]at r;exact r
 | .str _,_,_,r=>by simp only[RD]at r;exact r
 | .tup _,_,f,_=>by cases f
 | .fl _,_,f,_=>by cases f
 | .ref _,_,f,_=>by cases f
theorem z7J:∀{a b:D},z1H a=true->z1H b=true->flV a=flV b->a=b
 | .non,.non,_,_,_=>rfl
 | .bl _,.bl _,_,_,e=>by cases e;rfl
 | .int _,.int _,_,_,e=>by cases e;rfl
 | .str _,.str _,_,_,e=>by cases e;rfl
 | .non,.bl _,_,_,e=>by cases e
 | .non,.int _,_,_,e=>by cases e
 | .non,.str _,_,_,e=>by cases e
 | .bl _,.non,_,_,e=>by cases e
 | .bl _,.int _,_,_,e=>by cases e
 | .bl _,.str _,_,_,e=>by cases e
 | .int _,.non,_,_,e=>by cases e
 | .int _,.bl _,_,_,e=>by cases e
 | .int _,.str _,_,_,e=>by cases e
 | .str _,.non,_,_,e=>by cases e
 | .str _,.bl _,_,_,e=>by cases e
 | .str _,.int _,_,_,e=>by cases e
 | .tup _,_,f,_,_=>by cases f
 | .fl _,_,f,_,_=>by cases f
 | .ref _,_,f,_,_=>by cases f
 | _,.tup _,_,f,_=>by cases f
 | _,.fl _,_,f,_=>by cases f
 | _,.ref _,_,f,_=>by cases f
theorem list_inj {a:Addr}{xs ys:List V}(I:Inv X pins σ H s) (h1:SqL X.K H a xs) (h2:SqL X.K H a ys):xs=ys:=by
 obtain⟨its,r,⟨o,n,e,_,_,d⟩,_⟩:=I.list h1;obtain⟨its',r',⟨o',n',e',_,_,d'⟩,_⟩:=I.list h2;rw[e]at e';cases e';rw[d]at d';injection d' with d1 _
 have:its=its':=by simpa using congrArg K8d d1
 subst this;exact r.inj r'
theorem z3r (I:Inv X pins σ H s) (rh:RH X.K ρ h H):∀(n:Nat) {d1 d2:D}{v:V}{b:Bool},RD X.K ρ H d1 v->RD X.K ρ H d2 v->eqN n h d1 d2=some b->b=true
 | 0,d1,d2,v,b,_,_,e=>by cases e
 | n+1,d1,d2,v,b,r1,r2,e=>by
  have elems:∀{xs ys:List D} {vs:List V},RDs X.K ρ H xs vs->RDs X.K ρ H ys vs->eqZ (eqN n h) xs ys=some b->b=true:=λ{xs ys vs} q1 q2 z=>by
   obtain⟨z1,z2⟩:=z2k z;have l1:=q1.length;have l2:=q2.length;rw[z2,K06,K0t];refine⟨λj hj=>?_,by simp;omega⟩;have hj':j<xs.length:=by simp at hj;omega
   have e1:xs[j]?=some xs[j]:=K6 hj';have e2:ys[j]?=some ys[j]:=K6 (by omega);obtain⟨w1,a1,a2⟩:=q1.get e1;obtain⟨w2,b1,b2⟩:=q2.get e2;rw[a1]at b1;cases b1;exact z3r I rh n a2 b2 (z1 j _ _ e1 e2)
  unfold eqN at e;have nl:∀{a:Addr} {vs ws:List V},SqT X.K H a vs->SqL X.K H a ws->False:=λ{a vs ws} t1 t2=>by
   obtain⟨its,_,p1,_⟩:=I.tuple t1;obtain⟨its2,_,p2,_⟩:=I.list t2;exact SeqAt.ne_of_list_tuple p2.isList (show s.heap.IsTuple a its.toArray from p1) rfl
  cases e1:vw h d1 with
  | no=>rw[e1]at e;cases e2:vw h d2<;>rw[e2]at e<;>cases e
  | flat a =>
   rw[e1]at e;obtain⟨rfl,f1⟩:=z0t e1;cases e2:vw h d2 with
   | no=>rw[e2]at e;cases e
   | flat c =>
    rw[e2]at e;obtain⟨rfl,f2⟩:=z0t e2;cases e;have:=z7J f1 f2 ((z1T f1 r1).symm.trans (z1T f2 r2));subst this;exact z5U f1
   | tup ys=>obtain⟨a',vs,rfl,_,_⟩:=z12 e2 r2;exact(z26 f1 r1).elim
   | lst ys=>obtain⟨a',vs,rfl,_,_⟩:=z13 rh e2 r2;exact(z26 f1 r1).elim
  | tup xs =>
   rw[e1]at e;obtain⟨a,vs,rfl,t1,q1⟩:=z12 e1 r1;cases e2:vw h d2 with
   | no=>rw[e2]at e;cases e
   | flat c=>obtain⟨rfl,f2⟩:=z0t e2;exact(z26 f2 r2).elim
   | tup ys =>
    rw[e2]at e;obtain⟨a',ws,ea,t2,q2⟩:=z12 e2 r2;cases ea;have:=I.tuple_inj t1 t2;subst this;exact elems q1 q2 e
   | lst ys =>
    obtain⟨a',ws,ea,t2,q2⟩:=z13 rh e2 r2;cases ea;exact(nl t1 t2).elim
  | lst xs =>
   rw[e1]at e;obtain⟨a,vs,rfl,t1,q1⟩:=z13 rh e1 r1;cases e2:vw h d2 with
   | no=>rw[e2]at e;cases e
   | flat c=>obtain⟨rfl,f2⟩:=z0t e2;exact(z26 f2 r2).elim
   | lst ys =>
    rw[e2]at e;obtain⟨a',ws,ea,t2,q2⟩:=z13 rh e2 r2;cases ea;have:=list_inj I t1 t2;subst this;exact elems q1 q2 e
   | tup ys =>
    obtain⟨a',ws,ea,t2,q2⟩:=z12 e2 r2;cases ea;exact(nl t2 t1).elim
open SeqAt in
theorem mixT {A:Around}{u:Value}{d:D}{v:V}{K:K0}{a:Addr}{its:Array Value}(f:z1H d=true) (r:RD K ρ H d v) (ru:RelV v u) (p:s.heap.IsTuple a its) (hu:A.units<cLine):EqAt A s u (.ref a) false/\EqAt A s (.ref a) u false/\RcAt A s u (.ref a) false/\RcAt A s (.ref a) u false/\RcNeAt A s u (.ref a) true/\RcNeAt A s (.ref a) u true:=by
 have:=z1T f r;subst this;cases d with
 | non=>cases ru;exact⟨.none_tuple p hu,.tuple_none p hu,.none_tuple p hu,.tuple_none p hu,.none_tuple p hu,.tuple_none p hu⟩
 | bl b=>cases ru;exact⟨.bool_tuple b p hu,.tuple_bool b p hu,.bool_tuple b p hu,.tuple_bool b p hu,.bool_tuple b p hu,.tuple_bool b p hu⟩
 | int i=>obtain⟨t,rfl⟩:=ru;exact⟨.int_tuple i t p hu,.tuple_int i t p hu,.int_tuple i t p hu,.tuple_int i t p hu,.int_tuple i t p hu,.tuple_int i t p hu⟩
 | str x=>obtain⟨t,rfl⟩:=ru;exact⟨.str_tuple x t p hu,.tuple_str x t p hu,.str_tuple x t p hu,.tuple_str x t p hu,.str_tuple x t p hu,.tuple_str x t p hu⟩
 | tup _=>cases f
 | fl _=>cases f
 | ref _=>cases f
open SeqAt in
theorem mixL {A:Around}{u:Value}{d:D}{v:V}{K:K0}{a:Addr}{its:Array Value}(f:z1H d=true) (r:RD K ρ H d v) (ru:RelV v u) (p:s.heap.IsList a its) (hu:A.units<cLine):EqAt A s u (.ref a) false/\EqAt A s (.ref a) u false/\RcAt A s u (.ref a) false/\RcAt A s (.ref a) u false/\RcNeAt A s u (.ref a) true/\RcNeAt A s (.ref a) u true:=by
 have:=z1T f r;subst this;cases d with
 | non=>cases ru;exact⟨.none_list p hu,.list_none p hu,.none_list p hu,.list_none p hu,.none_list p hu,.list_none p hu⟩
 | bl b=>cases ru;exact⟨.bool_list b p hu,.list_bool b p hu,.bool_list b p hu,.list_bool b p hu,.bool_list b p hu,.list_bool b p hu⟩
 | int i=>obtain⟨t,rfl⟩:=ru;exact⟨.int_list i t p hu,.list_int i t p hu,.int_list i t p hu,.list_int i t p hu,.int_list i t p hu,.list_int i t p hu⟩
 | str x=>obtain⟨t,rfl⟩:=ru;exact⟨.str_list x t p hu,.list_str x t p hu,.str_list x t p hu,.list_str x t p hu,.str_list x t p hu,.list_str x t p hu⟩
 | tup _=>cases f
 | fl _=>cases f
 | ref _=>cases f
open SeqAt in
theorem zg6 {A:Around}{u1 u2:Value}:∀(d1 d2:D),z1H d1=true->z1H d2=true->RelV (flV d1) u1->RelV (flV d2) u2->EqAt A s u1 u2 (eqF d1 d2)/\RcAt A s u1 u2 (eqF d1 d2)/\RcNeAt A s u1 u2 (!(eqF d1 d2))
 | .non,.non,_,_,r1,r2=>by cases r1;cases r2;exact⟨EqAt.same _,RcAt.none_none,RcNeAt.none_none⟩
 | .non,(.bl b),_,_,r1,r2=>by cases r1;cases r2;exact⟨EqAt.none_bool b,RcAt.none_bool b,RcNeAt.none_bool b⟩
 | .non,(.int b),_,_,r1,r2=>by cases r1;obtain⟨t2,rfl⟩:=r2;exact⟨EqAt.none_int b t2,RcAt.none_int b t2,RcNeAt.none_int b t2⟩
 | .non,(.str b),_,_,r1,r2=>by cases r1;obtain⟨t2,rfl⟩:=r2;exact⟨EqAt.none_str b t2,RcAt.none_str b t2,RcNeAt.none_str b t2⟩
 | (.bl a),.non,_,_,r1,r2=>by cases r1;cases r2;exact⟨EqAt.bool_none a,RcAt.bool_none a,RcNeAt.bool_none a⟩
 | (.bl a),(.bl b),_,_,r1,r2=>by cases r1;cases r2;exact⟨EqAt.bool_bool a b,RcAt.bool_bool a b,RcNeAt.bool_bool a b⟩
 | (.bl a),(.int b),_,_,r1,r2=>by cases r1;obtain⟨t2,rfl⟩:=r2;exact⟨EqAt.bool_int a b t2,RcAt.bool_int a b t2,RcNeAt.bool_int a b t2⟩
 | (.bl a),(.str b),_,_,r1,r2=>by cases r1;obtain⟨t2,rfl⟩:=r2;exact⟨EqAt.bool_str a b t2,RcAt.bool_str a b t2,RcNeAt.bool_str a b t2⟩
 | (.int a),.non,_,_,r1,r2=>by obtain⟨t1,rfl⟩:=r1;cases r2;exact⟨EqAt.int_none a t1,RcAt.int_none a t1,RcNeAt.int_none a t1⟩
 | (.int a),(.bl b),_,_,r1,r2=>by obtain⟨t1,rfl⟩:=r1;cases r2;exact⟨EqAt.int_bool a t1 b,RcAt.int_bool a t1 b,RcNeAt.int_bool a t1 b⟩
 | (.int a),(.int b),_,_,r1,r2=>by obtain⟨t1,rfl⟩:=r1;obtain⟨t2,rfl⟩:=r2;exact⟨EqAt.int_int a t1 b t2,RcAt.int_int a t1 b t2,RcNeAt.int_int a t1 b t2⟩
 | (.int a),(.str b),_,_,r1,r2=>by obtain⟨t1,rfl⟩:=r1;obtain⟨t2,rfl⟩:=r2;exact⟨EqAt.int_str a t1 b t2,RcAt.int_str a t1 b t2,RcNeAt.int_str a t1 b t2⟩
 | (.str a),.non,_,_,r1,r2=>by obtain⟨t1,rfl⟩:=r1;cases r2;exact⟨EqAt.str_none a t1,RcAt.str_none a t1,RcNeAt.str_none a t1⟩
 | (.str a),(.bl b),_,_,r1,r2=>by obtain⟨t1,rfl⟩:=r1;cases r2;exact⟨EqAt.str_bool a t1 b,RcAt.str_bool a t1 b,RcNeAt.str_bool a t1 b⟩
 | (.str a),(.int b),_,_,r1,r2=>by obtain⟨t1,rfl⟩:=r1;obtain⟨t2,rfl⟩:=r2;exact⟨EqAt.str_int a t1 b t2,RcAt.str_int a t1 b t2,RcNeAt.str_int a t1 b t2⟩
 | (.str a),(.str b),_,_,r1,r2=>by obtain⟨t1,rfl⟩:=r1;obtain⟨t2,rfl⟩:=r2;exact⟨EqAt.str_str a t1 b t2,RcAt.str_str a t1 b t2,RcNeAt.str_str a t1 b t2⟩
 | .tup _,_,f,_,_,_=>by cases f
 | .fl _,_,f,_,_,_=>by cases f
 | .ref _,_,f,_,_,_=>by cases f
 | _,.tup _,_,f,_,_=>by cases f
 | _,.fl _,_,f,_,_=>by cases f
 | _,.ref _,_,f,_,_=>by cases f
open SeqAt in
theorem deq (I:Inv X pins σ H s) (rh:RH X.K ρ h H):∀(n:Nat) {A:Around}{d1 d2:D}{v1 v2:V}{u1 u2:Value}{b:Bool},A.units+n<cLine->RD X.K ρ H d1 v1->RD X.K ρ H d2 v2->RelV v1 u1->RelV v2 u2->eqN n h d1 d2=some b->EqAt A s u1 u2 b/\RcAt A s u1 u2 b/\RcNeAt A s u1 u2 (!b)
 | 0,A,d1,d2,v1,v2,u1,u2,b,_,_,_,_,_,e=>by cases e
 | n+1,A,d1,d2,v1,v2,u1,u2,b,hA,r1,r2,w1,w2,e=>by
  have hu:A.units<cLine:=by omega
  have e0:=e;unfold eqN at e;have elems:∀{xs ys:List D} {vs ws:List V} {its its2:List Value},RDs X.K ρ H xs vs->RDs X.K ρ H ys ws->Vals vs its->Vals ws its2->eqZ (eqN n h) xs ys=some b ->
   (∀j (h1:j<its.toArray.size) (h2:j<its2.toArray.size),EqAt A.in1 s its.toArray[j] its2.toArray[j] (eqE (eqN n h) xs ys j))/\b=((K0q (min its.toArray.size its2.toArray.size)).all (eqE (eqN n h) xs ys)&&its.toArray.size==its2.toArray.size):=λ{xs ys vs ws its its2} q1 q2 a1 a2 z=>by
   obtain⟨z1,z2⟩:=z2k z;have l1:=q1.length;have l2:=q2.length;have l3:=a1.length;have l4:=a2.length;refine⟨λj h1 h2=>?_,by rw[z2,K8,K8,<- l3,<- l4,<- l1,<- l2]⟩;have j1:j<xs.length:=by rw[K8]at h1;omega
   have j2:j<ys.length:=by rw[K8]at h2;omega
   have e1:xs[j]?=some xs[j]:=K6 j1;have e2:ys[j]?=some ys[j]:=K6 j2;obtain⟨x1,b1,c1⟩:=q1.get e1;obtain⟨x2,b2,c2⟩:=q2.get e2;obtain⟨y1,b3,c3⟩:=a1.get b1;obtain⟨y2,b4,c4⟩:=a2.get b2;have g1:its.toArray[j]=y1:=by
    have:=K6 (l:=its) (i:=j) (by simpa using h1);rw[b3]at this;simpa using(K0u this).symm
   have g2:its2.toArray[j]=y2:=by
    have:=K6 (l:=its2) (i:=j) (by simpa using h2);rw[b4]at this;simpa using(K0u this).symm
   rw[g1,g2];exact(deq I rh n (A:=A.in1) (show A.units+1+n<cLine by omega) c1 c2 c3 c4 (z1 j _ _ e1 e2)).1
  have same:∀{a a':Addr},v1=.ref a->v2=.ref a'->a=a'->b=true:=λ{a a'} x y z=>by
   subst z;rw[x]at r1;rw[y]at r2;exact z3r I rh (n+1) r1 r2 e0
  cases e1:vw h d1 with
  | no=>rw[e1]at e;cases e2:vw h d2<;>rw[e2]at e<;>cases e
  | flat a =>
   rw[e1]at e;obtain⟨rfl,f1⟩:=z0t e1;cases e2:vw h d2 with
   | no=>rw[e2]at e;cases e
   | flat c =>
    rw[e2]at e;obtain⟨rfl,f2⟩:=z0t e2;cases e;rw[z1T f1 r1]at w1;rw[z1T f2 r2]at w2;exact zg6 a c f1 f2 w1 w2
   | tup ys =>
    rw[e2]at e;cases e;obtain⟨a',vs,rfl,t2,_⟩:=z12 e2 r2;cases w2;obtain⟨its,_,p,_⟩:=I.tuple t2;obtain⟨m1,_,m3,_,m5,_⟩:=mixT (s:=s) f1 r1 w1 (show s.heap.IsTuple a' its.toArray from p) hu;exact⟨m1,m3,m5⟩
   | lst ys =>
    rw[e2]at e;cases e;obtain⟨a',vs,rfl,t2,_⟩:=z13 rh e2 r2;cases w2;obtain⟨its,_,p,_⟩:=I.list t2;obtain⟨m1,_,m3,_,m5,_⟩:=mixL (s:=s) f1 r1 w1 p.isList hu;exact⟨m1,m3,m5⟩
  | tup xs =>
   rw[e1]at e;obtain⟨a,vs,rfl,t1,q1⟩:=z12 e1 r1;cases w1;obtain⟨its,x1,p1,_⟩:=I.tuple t1;have p1:s.heap.IsTuple a its.toArray:=p1;cases e2:vw h d2 with
   | no=>rw[e2]at e;cases e
   | flat c =>
    rw[e2]at e;cases e;obtain⟨rfl,f2⟩:=z0t e2;obtain⟨_,m2,_,m4,_,m6⟩:=mixT (s:=s) f2 r2 w2 p1 hu;exact⟨m2,m4,m6⟩
   | tup ys =>
    rw[e2]at e;obtain⟨a',ws,rfl,t2,q2⟩:=z12 e2 r2;cases w2;obtain⟨its2,x2,p2,_⟩:=I.tuple t2;have p2:s.heap.IsTuple a' its2.toArray:=p2;obtain⟨g1,g2⟩:=elems q1 q2 x1 x2 e;have rc:=RcAt.tuples p1 p2 hu g1;have rn:=RcNeAt.tuples p1 p2 hu g1;rw[<- g2]at rc rn;refine⟨?_,rc,rn⟩;by_cases ea:a=a'
    ·rw[same rfl rfl ea];subst ea;exact EqAt.same _
    ·exact EqAt.of_refs ea rc
   | lst ys =>
    rw[e2]at e;cases e;obtain⟨a',ws,rfl,t2,q2⟩:=z13 rh e2 r2;cases w2;obtain⟨its2,x2,p2,_⟩:=I.list t2;exact⟨EqAt.tuple_list p1 p2.isList hu,RcAt.tuple_list p1 p2.isList hu,RcNeAt.tuple_list p1 p2.isList hu⟩
  | lst xs =>
   rw[e1]at e;obtain⟨a,vs,rfl,t1,q1⟩:=z13 rh e1 r1;cases w1;obtain⟨its,x1,p1,_⟩:=I.list t1;cases e2:vw h d2 with
   | no=>rw[e2]at e;cases e
   | flat c =>
    rw[e2]at e;cases e;obtain⟨rfl,f2⟩:=z0t e2;obtain⟨_,m2,_,m4,_,m6⟩:=mixL (s:=s) f2 r2 w2 p1.isList hu;exact⟨m2,m4,m6⟩
   | tup ys =>
    rw[e2]at e;cases e;obtain⟨a',ws,rfl,t2,q2⟩:=z12 e2 r2;cases w2;obtain⟨its2,x2,p2,_⟩:=I.tuple t2;exact⟨EqAt.list_tuple p1.isList p2 hu,RcAt.list_tuple p1.isList p2 hu,RcNeAt.list_tuple p1.isList p2 hu⟩
   | lst ys =>
    rw[e2]at e;obtain⟨a',ws,rfl,t2,q2⟩:=z13 rh e2 r2;cases w2;obtain⟨its2,x2,p2,_⟩:=I.list t2;obtain⟨g1,g2⟩:=elems q1 q2 x1 x2 e;have both:RcAt A s (.ref a) (.ref a') b/\RcNeAt A s (.ref a) (.ref a') (!b):=by
     by_cases hz:its.toArray.size=its2.toArray.size
     ·have:b=(K0q its.toArray.size).all (eqE (eqN n h) xs ys):=by rw[g2,<- hz,Nat.min_self];simp
      rw[this];exact⟨RcAt.lists p1.isList p2.isList hz hu g1,RcNeAt.lists p1.isList p2.isList hz hu g1⟩
     ·have:b=false:=by
       rw[g2,Bool.and_eq_false_iff];right;simpa using hz
      rw[this];exact⟨RcAt.lists_lengths p1.isList p2.isList (by simpa using hz) hu,RcNeAt.lists_lengths p1.isList p2.isList (by simpa using hz) hu⟩
    refine⟨?_,both⟩;by_cases ea:a=a'
    ·rw[same rfl rfl ea];subst ea;exact EqAt.same _
    ·exact EqAt.of_refs ea both.1
end
def fEqX (neg:Bool):D->D->M D:=λx y h=>match eqN 24 h x y with
 | some b=>.ok (.bl (b != neg)) h
 | none=>.bad
def inZ (h:AH) (x:D):List D->Option Bool
 | []=>some false
 | y::ys=>match eqN 24 h y x,inZ h x ys with
  | some a,some b=>some (a||b)
  | _,_=>none
theorem z28 {h:AH}{x:D}:∀{ys:List D}{b:Bool},inZ h x ys=some b->(∀y∈ys,∃a,eqN 24 h y x=some a)/\(b=true↔∃y∈ys,eqN 24 h y x=some true)
 | [],b,e=>by unfold inZ at e;cases e;exact⟨λy hy=>(by simp at hy),by simp⟩
 | y::ys,b,e=>by
  unfold inZ at e;split at e
  ·rename_i a c e1 e2;cases e;obtain⟨q1,q2⟩:=z28 e2;refine⟨λz hz=>?_,?_⟩
   ·rcases K1c.mp hz with q|q
    ·subst q;exact⟨_,e1⟩
    ·exact q1 z q
   ·rw[K4c,q2];constructor
    ·rintro(q|⟨z,hz,q⟩)
     ·exact⟨y,by simp,by rw[e1,q]⟩
     ·exact⟨z,by simp[hz],q⟩
    ·rintro⟨z,hz,q⟩;rcases K1c.mp hz with w|w
     ·subst w;rw[e1]at q;exact .inl (K0u q)
     ·exact .inr ⟨z,w,q⟩
  ·cases e
def rEqX (K:K0) (neg:Bool):R2:=λx y H Q=>∃ρ h d1 d2 b,RH K ρ h H/\RD K ρ H d1 x/\RD K ρ H d2 y/\eqN 24 h d1 d2=some b/\Q (.bl (b != neg)) H
section
variable {X:Cx}{EX:XX}
theorem zf4 (hu:X.A.units+30<cLine):OpR X (K1s .Eq) (rEqX X.K false):=by
 intro pins s σ H x y v u Q I rx ry h;obtain⟨ρ,h,d1,d2,b,rh,r1,r2,e,q⟩:=h;rw[K1j]at q;exact(deq I rh 24 (A:=X.A) (by omega) r1 r2 rx ry e).2.1 X.prog X.w X.xe (EP X pins σ Q) ⟨.bl b,H,I,rfl,q⟩
theorem ze8 (hu:X.A.units+30<cLine):OpR X (K1s .NotEq) (rEqX X.K true):=by
 intro pins s σ H x y v u Q I rx ry h;obtain⟨ρ,h,d1,d2,b,rh,r1,r2,e,q⟩:=h;rw[K7r]at q;exact(deq I rh 24 (A:=X.A) (by omega) r1 r2 rx ry e).2.2 X.prog X.w X.xe (EP X pins σ Q) ⟨.bl (!b),H,I,rfl,q⟩
open Classical in
theorem zg0 {pins:List (Addr×Obj)}{σ:L2.St}{ρ:List Addr}{h:AH}{H:Hp}{s:Shared}{d:D}{ds:List D}{x:V}{v:Value}{xs:List V}{its:List Value}{b:Bool}(hu:X.A.units+30<cLine) (I:Inv X pins σ H s) (rh:RH X.K ρ h H) (rx:RD X.K ρ H d x) (wx:RelV x v) (rs:RDs X.K ρ H ds xs) (ws:Vals xs its) (e:inZ h d ds=some b) :
 ∃f:Value->Bool,(∀y∈its,K7v X.A.in1 s y v (f y))/\its.any f=b:=by
 obtain⟨q1,q2⟩:=z28 e;have ex:∀y∈its,∃a z w,z∈ds/\RD X.K ρ H z w/\RelV w y/\eqN 24 h z d=some a:=λy hy=>by
  obtain⟨j,hj⟩:=K37 hy;have lj:=(K5.mp hj).1;have a1:xs[j]?=some (xs[j]'(by rw[ws.length];exact lj)):=K6 _;obtain⟨y',c1,a2⟩:=ws.get a1;rw[hj]at c1;cases c1;obtain⟨z,b1,b2⟩:=rs.getV a1;have zm:=K1d b1;obtain⟨a,c⟩:=q1 z zm;exact⟨a,z,_,zm,b2,a2,c⟩
 have key:∀y∈its,∀a,(∃z w,z∈ds/\RD X.K ρ H z w/\RelV w y/\eqN 24 h z d=some a)->K7v X.A.in1 s y v a:=λy hy a ⟨z,w,zm,r1,r2,c⟩ =>
  (deq I rh 24 (A:=X.A.in1) (show X.A.units+1+24<cLine by omega) r1 rx r2 wx c).1
 refine⟨λy=>decide (∃z w,z∈ds/\RD X.K ρ H z w/\RelV w y/\eqN 24 h z d=some true),λy hy=>?_,?_⟩
 ·by_cases c:∃z w,z∈ds/\RD X.K ρ H z w/\RelV w y/\eqN 24 h z d=some true
  ·dsimp only;rw[decide_eq_true c];exact key y hy true c
  ·dsimp only;rw[decide_eq_false c];obtain⟨a,z,w,g⟩:=ex y hy;cases a with
   | false=>exact key y hy false ⟨z,w,g⟩
   | true=>exact absurd ⟨z,w,g⟩ c
 ·rw[K1h,q2,K5u];constructor
  ·rintro⟨y,hy,c⟩;obtain⟨z,w,zm,_,_,c⟩:=of_decide_eq_true c;exact⟨z,zm,c⟩
  ·rintro⟨z,zm,c⟩;obtain⟨j,hj⟩:=K37 zm;obtain⟨w,a1,a2⟩:=rs.get hj;obtain⟨y,b1,b2⟩:=ws.get a1;exact⟨y,K1d b1,decide_eq_true ⟨z,w,zm,a2,b2,c⟩⟩
theorem z6p {neg:Bool}:BR X.K EX (rEqX X.K neg) (fEqX neg):=by
 intro ρ h H x y v u Q r rx ry fin;unfold fEqX at fin;cases e:eqN 24 h x y with
 | none=>rw[e]at fin;exact fin.elim
 | some b=>rw[e]at fin;exact⟨ρ,h,x,y,b,r,rx,ry,e,FE.here fin r (by simp[RD])⟩
theorem z1N (hu:X.A.units+30<cLine):CO X EX .Eq (fEqX false):=⟨_,zf4 hu,z6p⟩
theorem z9C (hu:X.A.units+30<cLine):CO X EX .NotEq (fEqX true):=⟨_,ze8 hu,z6p⟩
theorem hu30 {A:Around}{k:Nat}(hr:Room k A):A.units+30<cLine:=K88 (Nat.add_le_add_left (by decide:30<=64) _) hr.units
end
variable {α β:Type}
theorem z0z (a:α) (f:α->M β):((K7f a:M α) >>= f)=f a:=by funext h;rfl
theorem W_eq {m:M α}{v:α}{h:AH}{Q:α->AH->Prop}(e:m=pure v) (q:Q v h):W m h Q:=by rw[e,W_pure];exact q
mutual
theorem z2g {m n:Nat}(h:m<=n):∀{d:D},Y6 m d=true->Y6 n d=true
 | .non,_=>rfl
 | .bl _,_=>rfl
 | .int _,_=>rfl
 | .str _,_=>rfl
 | .tup ds,c=>by simp only[Y6]at c ⊢;exact z1A h c
 | .fl ds,c=>by simp only[Y6]at c ⊢;exact z1A h c
 | .ref i,c=>by simp only[Y6,decide_eq_true_eq]at c ⊢;omega
theorem z1A {m n:Nat}(h:m<=n):∀{d:List D},y0 m d=true->y0 n d=true
 | [],_=>rfl
 | d::r,c=>by simp only[y0,K06]at c ⊢;exact⟨z2g h c.1,z1A h c.2⟩
end
theorem z1M {n:Nat}:∀{xs:List D},(∀x∈xs,Y6 n x=true)->y0 n xs=true
 | [],_=>rfl
 | x::r,h=>by simp only[y0,K06];exact⟨h x (by simp),z1M λy hy=>h y (by simp[hy])⟩
theorem z1K {n:Nat}{ι:Type}{f:ι->D}{l:List ι}(h:∀a,Y6 n (f a)=true):y0 n (l.map f)=true:=z1M λx hx=>by
 obtain⟨a,_,rfl⟩:=K2h.mp hx;exact h a
theorem z3k {m:M D}{h:AH}{d:D}{j:AH}(e:m h=.ok d (h++j)) (c:Y6 h.length d=true):cln m h=.ok d h:=by
 unfold cln;rw[e];dsimp only;rw[if_pos ⟨by simp,z5S _ _⟩,if_pos c];simp
theorem z22 (d:D):cln (pure d)=pure d:=funext λh=>by
 unfold cln;rw[pureM];dsimp only;rw[if_pos ⟨K05 _,λ_ _ _ e=>.inl e⟩];split
 ·simp
 ·rename_i nd;split
  ·rename_i i;simp only[Y6,decide_eq_true_eq]at nd;rw[K0n (by omega)]
  ·rfl
theorem z4r:∀bs:List Bool,blsD (bs.map .bl)=some bs
 | []=>rfl
 | b::r=>by simp[blsD,z4r r]
theorem filter_tt {l:List α}:l.filter (λ_=>true)=l:=by induction l<;>simp_all
theorem z2Z {n:Nat}{mb:G->M Out}{ds:List D}{d:D}(e:mb (v3 n ds)=pure (.rt d)):runF n mb ds=pure d:=by unfold runF;rw[e];rfl
theorem ix0 {a:D}{r:List D}:fIx (.tup (a::r)) (.int 0)=pure a:=ix_tup (by simp[atI,ixN])
theorem ix1 {a b:D}{r:List D}:fIx (.tup (a::b::r)) (.int 1)=pure b:=ix_tup (z32 (j:=1) rfl)
theorem zb0:((2:Nat)<=sizeLine)=True:=by simp[sizeLine]
structure SQ (st:List (List Nat)):Prop where
 l1:1<=st.length
 l2:st.length<=40
 s2:∀l∈st,∀x∈l,x<st.length
def nx (st:List (List Nat)) (a:Nat):List Nat:=(st[a]?).getD []
inductive Rch (st:List (List Nat)) (x:Nat):Nat->Prop
 | here:Rch st x x
 | step {a b:Nat}:Rch st x a->b∈nx st a->Rch st x b
theorem zi4 {st:List (List Nat)}(q:SQ st) {a b:Nat}(h:b∈nx st a):b<st.length:=by
 unfold nx at h;cases e:st[a]? with
 | none=>rw[e]at h;cases h
 | some l =>
  rw[e]at h;exact q.s2 l (K1d e) b h
theorem z9h {st:List (List Nat)}(q:SQ st) {x a:Nat}(hx:x<st.length) (h:Rch st x a):a<st.length:=by
 cases h with
 | here=>exact hx
 | step _ h=>exact zi4 q h
theorem Z7 (l:List Nat):(stD l).length=l.length:=by unfold stD;simp
def zN (l:List Nat):List Int:=l.map λ(i:Nat)=>(i:Int)
def zk8 (l:List Nat):List Nat:=(sortI (zN l)).map Int.toNat
theorem z55 (l:List Nat) (x:Nat):stD l++[.int x]=stD (l++[x]):=by unfold stD;simp
theorem z9x {l:List Nat}{i:Nat}{d:D}(h:(stD l)[i]?=some d):∃b:Nat,d=.int b/\l[i]?=some b:=by
 unfold stD at h;rw[K0h]at h;obtain⟨b,e1,e2⟩:=K2b.mp h;exact⟨b,e2.symm,e1⟩
structure Fnd (st:List (List Nat)) (x:Nat) (S:List Nat):Prop where
 nd:S.Nodup
 rc:∀a∈S,Rch st x a
 hx:x∈S
theorem Fnd.lt {st:List (List Nat)}{x:Nat}{S:List Nat}(f:Fnd st x S) (q:SQ st) (hx:x<st.length):∀a∈S,a<st.length:=λa ha=>z9h q hx (f.rc a ha)
theorem Fnd.one (st:List (List Nat)) (x:Nat):Fnd st x [x]:=⟨by simp,λa ha=>by simp at ha;subst ha;exact .here,by simp⟩
section
variable {ma:G->M D}{g:D->G->M G}{k:G->M Bool}{ms mr mt:G->M Out}{γ γ':G}{h h1:AH}{d:D}{b:Bool}{Q:Out->AH->Prop}
theorem z0C (d:D) (γ':G) (e:ma γ h=.ok d h1) (eg:g d γ=pure γ') (z:W (mt γ') h1 Q):W (z8 (sAsg ma g) mt γ) h Q:=by
 rw[w_cons];unfold sAsg;rw[Z6];refine W.of e ?_;rw[eg,z0z,W_pure];exact z
theorem z4h {i:Nat}(z:W (ma γ) h λd h1=>W (mt (γ.set i (some d))) h1 Q):W (z8 (sAsg ma (gN i)) mt γ) h Q:=by
 rw[w_cons];unfold sAsg gN;rw[Z6];refine z.mono λd h1 q=>?_;rw[z0z,W_pure];exact q
theorem z0x (b:Bool) (e:k γ h=.ok b h) (z:W (z8 (if b=true then ms else mr) mt γ) h Q):W (z8 (sIf k ms mr) mt γ) h Q:=by
 rw[w_cons]at z ⊢;unfold sIf;rw[Z6];refine W.of e ?_;cases b<;>exact z
theorem zb8 (z:W (k γ) h λb h1=>W (z8 (if b=true then ms else mr) mt γ) h1 Q):W (z8 (sIf k ms mr) mt γ) h Q:=by
 rw[w_cons];unfold sIf;rw[Z6];refine z.mono λb h1 q=>?_;rw[w_cons]at q;cases b<;>exact q
theorem zg8 (d:D) (e:ma γ=pure d) (z:Q (.rt d) h):W (z8 (sRet ma) mt γ) h Q:=by
 rw[w_cons];unfold sRet;rw[e,z0z,W_pure];exact z
theorem k9 (d:D) (e:ma γ h=.ok d h1) (z:Q (.rt d) h1):W (z8 (sRet ma) mt γ) h Q:=by
 rw[w_cons];unfold sRet;rw[Z6];refine W.of e ?_;rw[W_pure];exact z
theorem z9N (z:W (ma γ) h λd h1=>Q (.rt d) h1):W (z8 (sRet ma) mt γ) h Q:=by
 rw[w_cons];unfold sRet;rw[Z6];refine z.mono λd h1 q=>?_;rw[W_pure];exact q
theorem z9T (z:W (ma γ) h λd h1=>W (mt γ) h1 Q):W (z8 (z1E ma) mt γ) h Q:=by
 rw[w_cons];unfold z1E;rw[Z6];refine z.mono λd h1 q=>?_;rw[W_pure];exact q
theorem z0y (z:W (mt γ) h Q):W (z8 bNil mt γ) h Q:=by rw[w_cons,z8K];exact z
theorem z3n {Q:Out->AH->Prop}(z:Q (.nx γ) h):W (bNil γ) h Q:=by rw[z8K];exact z
theorem z1o {ms1 ms2:G->M Out}(z:W (z8 ms1 (z8 ms2 mt) γ) h Q):W (z8 (z8 ms1 ms2) mt γ) h Q:=by
 rw[w_cons]at z ⊢;rw[w_cons];refine z.mono λo h1 q=>?_;cases o with
 | nx γ=>exact w_cons.mp q
 | rt d=>exact q
 | bk d=>exact q
 | ct d=>exact q
end
theorem z6E {i j:Int}{neg:Bool}:fEqX neg (.int i) (.int j)=pure (.bl (decide (i=j) != neg)):=by
 funext h;show Res.ok (D.bl ((i==j) != neg)) h=_;have:(i==j)=decide (i=j):=by rw[K1h];simp
 rw[this];rfl
theorem z6P (xs:List D) (n:Nat):cutD xs none (some (n:Int))=xs.take n:=by
 unfold cutD;rw[HT.sIx_none,HT.sIx_nat];simp[List.take_take]
theorem z4P (xs:List D) (n:Nat):cutD xs (some (n:Int)) none=xs.drop n:=by
 unfold cutD;rw[HT.sIx_none,HT.sIx_nat];by_cases h:n<=xs.length
 ·rw[show min n xs.length=n by omega,K6g (by simp)]
 ·rw[show min n xs.length=xs.length by omega];simp;omega
def rp (n:Nat) (l:List Nat):List Nat:=(K07 n l).flatten
theorem z4S (n:Nat) (l:List Nat):(K07 n (stD l)).flatten=stD (rp n l):=by
 unfold stD rp;rw[List.map_flatten,List.map_replicate]
theorem z3m (n:Nat) (l:List Nat):(rp n l).length=n * l.length:=L2.len_rep l n
theorem z6S {n:Nat}{l:List Nat}:∀{i:Nat},i<n * l.length->(rp n l)[i]?=l[i % l.length]?:=by
 induction n with
 | zero=>intro i h;omega
 | succ n ih =>
  intro i h;unfold rp;rw[K1p,K24];by_cases hi:i<l.length
  ·rw[K03 hi,K2s hi]
  ·rw[K1l (by omega)];have:=ih (i:=i - l.length) (by rw[K8g]at h;omega);unfold rp at this;rw[this,<- K87 (by omega)]
theorem z4v {x:List D}{n:Nat}(h:n * x.length<=1000000) (hn:n<=1000000):z0r (.tup x) (.int (n:Nat))=pure (.tup (K07 n x).flatten):=by
 unfold z0r;dsimp only;rw[if_pos]
 ·simp
 ·have h1:n * x.length<=sizeLine:=K0b h (by decide);rw[decide_eq_true (show -(2 ^ 63)<=(n:Int) by omega),decide_eq_true (show (n:Int)<2 ^ 63 by omega),K5h,decide_eq_true h1];rfl
theorem z6Q {a b:Nat}(h:a<=1000000):z0r (.int (a:Nat)) (.int (b:Nat))=pure (.int (a * b:Nat)):=by
 show fMul (.int (a:Nat)) (.int (b:Nat))=_;unfold fMul;dsimp only;rw[if_pos,K9d];simp;left;omega
theorem z6K {a b:Nat}(hb:0<b) (h:b<=1000000):fDiv (.int (a:Nat)) (.int (b:Nat))=pure (.int (a / b:Nat)):=by
 rw[div_ii (show (0:Int)<b by omega) (show (b:Int)<1073741824 by omega),K90]
theorem sl_tup {x:List D}{lo hi:Option Int}:fSl (.tup x) lo hi=pure (.tup (cutD x lo hi)):=rfl
def rnD (p r:List Nat):D:=.tup [.tup (stD p),.tup (stD r)]
def sAt (p r:List Nat) (n:Nat):Nat:=if n<p.length then (p[n]?).getD 0 else (r[(n - p.length) % r.length]?).getD 0
theorem z7f {p r:List Nat}{n:Nat}(hr:0<r.length) (h:¬ n<p.length):((n:Int) - p.length) % r.length=((n - p.length) % r.length:Nat):=by
 rw[Int.natCast_emod];congr 1;omega
theorem z1p (p r:List Nat):stD p++stD r=stD (p++r):=by unfold stD;simp
theorem z8U {d:D}{l:List Nat}(h:d∈stD l):∃x,x∈l/\d=.int (x:Nat):=by
 obtain⟨x,hx,rfl⟩:=K2h.mp h;exact⟨x,hx,rfl⟩
def unP (p r:List Nat) (m:Nat):List Nat:=p++(rp (m / r.length+1) r).take m
def unR (r:List Nat) (laps m:Nat):List Nat:=rp laps (r.drop (m % r.length)++r.take (m % r.length))
theorem z8c {r:List Nat}(hr:0<r.length) (m:Nat):m<=(m / r.length+1) * r.length:=by
 have:=K9c m r.length;have:=K27 m hr;rw[K93,Nat.one_mul,K22];omega
theorem z7k {p r:List Nat}(hr:0<r.length) (m:Nat):(unP p r m).length=p.length+m:=by
 unfold unP;rw[K01,K0a,z3m];have:=z8c hr m;omega
theorem z5h {r:List Nat}(hr:0<r.length) (m:Nat):(r.drop (m % r.length)++r.take (m % r.length)).length=r.length:=by
 have:=K27 m hr;rw[K01,K1a,K0a];omega
theorem z6t {p r:List Nat}{n:Nat}(h:n<p.length+r.length):(p++r)[n]?=some (sAt p r n):=by
 unfold sAt;by_cases h1:n<p.length
 ·rw[if_pos h1,K03 h1,K6 h1];rfl
 ·rw[if_neg h1,K1l (by omega),K2s (by omega),K6 (by omega)];rfl
theorem z9I {p r:List Nat}(hr:0<r.length) (n:Nat):∃m,m<=n/\m<p.length+r.length/\sAt p r m=sAt p r n:=by
 by_cases h:n<p.length
 ·exact⟨n,K05 _,by omega,rfl⟩
 ·have:=K27 (n - p.length) hr;have:=Nat.mod_le (n - p.length) r.length;refine⟨p.length+(n - p.length) % r.length,by omega,by omega,?_⟩;unfold sAt;rw[if_neg (by omega),if_neg h,K3o,Nat.mod_mod]
theorem zd8 {p r:List Nat}{x:Nat}(hr:0<r.length):x∈p++r↔∃n,sAt p r n=x:=by
 constructor
 ·intro h;obtain⟨i,hi,e⟩:=K4h h;rw[K01]at hi;have:=z6t (p:=p) (r:=r) hi;rw[K6 (by rw[K01];exact hi),e]at this;exact⟨i,(K0u this).symm⟩
 ·rintro⟨n,rfl⟩;obtain⟨m,_,hm,e⟩:=z9I hr n;rw[<- e];exact K1d (z6t hm)
def CL (r:AH):Prop:=True
theorem CL.nil:CL []:=trivial
theorem CL.app {r j:AH}(a:CL r) (b:CL j):CL (r++j):=trivial
theorem CL.one {xs:List D}(h:y0 3 xs=true):CL [.lst xs]:=trivial
theorem z2K {n:Nat}(l:List Int):y0 n (l.map .int)=true:=z1K λ_=>rfl
theorem z37 {n:Nat}(l:List Nat):y0 n (stD l)=true:=z1K λ_=>rfl
theorem z6x {n:Nat}(l:List Nat):Y6 n (.tup (stD l))=true:=by simp only[Y6];exact z37 l
theorem z2B {n:Nat}(p r:List Nat):Y6 n (rnD p r)=true:=by unfold rnD;simp only[Y6,y0,Bool.and_true,K06];exact⟨z37 p,z37 r⟩
theorem z5a {gr sm:List Int}{s c:Int}{r j:AH}:(Pool gr sm s c (r++j)).take (r.length+3)=Pool gr sm s c r:=by
 unfold Pool;simp
theorem z51 {gr sm gr' sm':List Int}{s c s' c':Int}{r j:AH}:Kept (Pool gr sm s c r) (Pool gr' sm' s' c' (r++j)):=λi o li e=>by
 have l3:(Pool gr sm s c r).length=r.length+3:=rfl;rw[l3]at li ⊢
 match i,e with
 | 0,e=>cases e;exact .inr (z2K _)
 | 1,e=>cases e;exact .inr (z2K _)
 | 2,e=>cases e;exact .inr (by simp[refO,y0,Y6])
 | i+3,e =>
  left;have e:(r++j)[i]?=some o:=e;rw[K03 (by omega)]at e;exact e
theorem z5G {h h1:AH}{k k':Int}{r j:AH}(p:PS h k r) (q:CL r) (p1:PS h1 k' (r++j)):(h.length<=h1.length/\Kept h h1)/\PS (h1.take h.length) k' r:=by
 have l:=p.len;have l1:=p1.len;obtain⟨gr,sm,s,c,rfl,g⟩:=p1;obtain⟨gr0,sm0,s0,c0,rfl,g0⟩:=p;refine⟨⟨by rw[K01]at l1;omega,z51⟩,?_⟩;rw[show (Pool gr0 sm0 s0 c0 r).length=r.length+3 from rfl,z5a];exact⟨gr,sm,s,c,rfl,g⟩
theorem z7h {m:M D}{h:AH}{k:Int}{r:AH}{Q:D->AH->Prop}(p:PS h k r) (q:CL r) (z:W m h λd h1=>∃k' j,PS h1 k' (r++j)/\Y6 3 d=true/\∀h2,PS h2 k' r->Q d h2):W (cln m) h Q:=by
 obtain⟨d,h1,e,k',j,p1,rd,f⟩:=z;obtain⟨c1,c2⟩:=z5G p q p1;refine⟨d,h1.take h.length,?_,f _ c2⟩;unfold cln;rw[e];dsimp only;rw[if_pos c1,if_pos (z2g (by rw[p.len];omega) rd)]
theorem zl4 {m:G->M D}{γ:G}{h:AH}{k:Int}{r:AH}{Q:D->AH->Prop}(p:PS h k r) (q:CL r) (z:W (m γ) h λd h1=>∃k' j,PS h1 k' (r++j)/\Y6 3 d=true/\∀h2,PS h2 k' r->Q d h2):W (clE m γ) h Q:=z7h p q z
section
variable {h:AH}{k:Int}{r l:AH}{i:Nat}{xs:List D}{v:D}
theorem at_E:(r++l)[r.length+i]?=l[i]?:=by rw[K1l (by omega)];congr 1;omega
theorem zj9 {o:O}:(r++l).set (r.length+i) o=r++l.set i o:=by
 rw[K3z _ _ (by omega)];congr 2;omega
theorem z9a {Q:List D->AH->Prop}(p:PS h k (r++l)) (e:l[i]?=.(l xs)) (q:Q xs h):W (getL (r.length+i+3)) h Q:=z4x p (by rw[at_E];exact e) q
theorem z9g {Q:D->AH->Prop}(p:PS h k (r++l)) (e:l[i]?=.(l xs)) (hl:xs.length<1000000) (z:∀h',PS h' k (r++l.set i (.lst (xs++[v])))->Q .non h'):W (J7 (r.length+i+3) v) h Q :=
 z5u p (by rw[at_E];exact e) hl λh' p'=>z h' (by rw[zj9]at p';exact p')
theorem z8A {Q:D->AH->Prop}(p:PS h k (r++l)) (e:l[i]?=.(l xs)) (q:Q (.tup xs) h):W (z15 [.ref (r.length+i+3)]) h Q:=by
 have ft:∀i:Nat,z15 [.ref i]=(do let x <- getL i;pure (.tup x)):=λ_=>rfl;rw[ft,Z6];refine z9a p e ?_;rw[W_pure];exact q
end
theorem z16 {ma:G->M D}{mt:G->M Out}{γ:G}{h:AH}{i:Nat}{Q:Out->AH->Prop}(J:D->AH->Prop) (z:W (ma γ) h J) (f:∀d h1,J d h1->W (mt (γ.set i (some d))) h1 Q):W (z8 (sAsg ma (gN i)) mt γ) h Q:=z4h (z.mono f)
theorem z6O {cap:List (Option Nat)}{mi:G->M Src}{g:D->G->M G}{kk:G->M Bool}{me:G->M D}{γ:G}{h:AH}{r l:AH}{Q:D->AH->Prop}(J:Nat->List D->Int->Prop)
 (hs:W (mi γ) h λsrc h1=>∃k,PS h1 k (r++l)/\J 0 [] k/\(∀h k xs,PS h k (r++(l++[.lst xs]))->src.good h) /\
  (∀i d h k xs,src.items[i]?=some d->J i xs k->PS h k (r++(l++[.lst xs]))->W (g d (capG cap γ)) h λγ1 h1'=>W (kk γ1) h1' λt h2=>if t=true then W (me γ1) h2 λv h3=>∃k',PS h3 k' (r++(l++[.lst xs]))/\xs.length<1000000/\J (i+1) (xs++[v]) k' else ∃k',PS h2 k' (r++(l++[.lst xs]))/\J (i+1) xs k') /\
  ∀h' xs k,J src.items.length xs k->PS h' k (r++(l++[.lst xs]))->Q (.ref (r.length+l.length+3)) h'):W (z0A cap mi g kk me γ) h Q:=by
 refine z9R ?_;refine hs.mono λsrc h1 ⟨k,p1,j0,good,st,fin⟩=>?_;have l1:h1.length=r.length+l.length+3:=by rw[p1.len,K01]
 refine⟨λi h'=>∃xs k,J i xs k/\PS h' k (r++(l++[.lst xs])),⟨[],k,j0,by rw[<- K32];exact p1.app _⟩,λi h' ⟨xs,k,_,p⟩=>good h' k xs p,?_,?_⟩
 ·rintro i d h2 hd ⟨xs,k,jx,p2⟩;refine(st i d h2 k xs hd jx p2).mono λγ1 h3 w3=>w3.mono λt h4 w4=>?_;cases t with
  | false=>rw[if_neg (by decide)]at w4 ⊢;obtain⟨k',p4,j4⟩:=w4;exact⟨xs,k',j4,p4⟩
  | true =>
   rw[if_pos rfl]at w4 ⊢;refine w4.mono λv h5 ⟨k',p5,lx,j5⟩=>?_;rw[l1,show r.length+l.length+3=r.length+l.length+3 from rfl];refine z9g (i:=l.length) p5 (by simp) lx λh6 p6=>?_;refine⟨_,k',j5,?_⟩;rw[K3z _ _ (K05 _),Nat.sub_self]at p6;exact p6
 ·rintro h2 ⟨xs,k,jx,p2⟩;rw[l1];exact fin h2 xs k jx p2
def lkD (kvs:List (Key×D)) (k:Key):Option D:=(kvs.find? λkv=>decide (kv.1=k)).map (·.2)
section
variable {K:K0}{ρ:List Addr}{H:Hp}
theorem RK.len:∀{kvs:List (Key×D)}{vs:List (Key×V)},RK K ρ H kvs vs->kvs.length=vs.length
 | _,_,.nil=>rfl
 | _,_,.cons _ b=>by simp[RK.len b]
theorem RK.lk (k:Key):∀{kvs:List (Key×D)}{vs:List (Key×V)},RK K ρ H kvs vs->(lkD kvs k=none/\valV vs k=none)\/∃d v,lkD kvs k=some d/\valV vs k=some v/\RD K ρ H d v
 | _,_,.nil=>.inl ⟨rfl,rfl⟩
 | p::kvs,q::vs,.cons a b=>by
  by_cases e:p.1=k
  ·refine .inr ⟨p.2,q.2,by simp[lkD,K26,e],z2h (a.1.symm.trans e),a.2⟩
  ·rw[z1Y (λz=>e (a.1.trans z))];have:lkD (p::kvs) k=lkD kvs k:=by simp[lkD,K26,e]
   rw[this];exact RK.lk k b
theorem RK.any (k:Key):∀{kvs:List (Key×D)}{vs:List (Key×V)},RK K ρ H kvs vs->(kvs.any λkv=>decide (kv.1=k))=vs.any λkv=>decide (kv.1=k)
 | _,_,.nil=>rfl
 | _,_,.cons a b=>by rw[K5l,K5l,RK.any k b,a.1]
theorem RK.rep (k:Key) {d:D}{v:V}(r:RD K ρ H d v):∀{kvs:List (Key×D)}{vs:List (Key×V)},RK K ρ H kvs vs->RK K ρ H (kvs.map (λkv=>if kv.1=k then (kv.1,d) else kv)) (vs.map (λkv=>if kv.1=k then (kv.1,v) else kv))
 | _,_,.nil=>.nil
 | p::kvs,q::vs,.cons a b=>by
  rw[K0z,K0z];refine .cons ?_ (RK.rep k r b);by_cases e:p.1=k
  ·rw[if_pos e,if_pos (a.1.symm.trans e)];exact⟨a.1,r⟩
  ·rw[if_neg e,if_neg (λz=>e (a.1.trans z))];exact a
end
def getK (n:Nat):M (List (Key×D)):=λh=>match h[n]? with
 | some (.dK kvs)=>.ok kvs h
 | some (.dF kvs)=>.ok kvs h
 | _=>.bad
def dicD:D->M (List (Key×D))
 | .ref n=>getK n
 | _=>bad
def z8V:D->D->M D:=λx y=>do
 let kvs <- dicD x
 match keyD y with
 | some k=>(match lkD kvs k with
  | some d=>pure d
  | none=>bad)
 | none=>bad
section
variable {X:Cx}{EX:XX}{a o i e f:Expr}{pos apos cpos:Pos}{mo mi ma mb:G->M D}
end
section
variable {X:Cx}{EX:XX}{e tg:Expr}
end
theorem W_of {α:Type}{m:M α}{h h1:AH}{v:α}{Q:α->AH->Prop}(e:m h=.ok v h1) (q:Q v h1):W m h Q:=⟨_,_,e,q⟩
def putN (acc:List Nat) (k:Nat):List Nat:=if k∈acc then acc else acc++[k]
def dedN (l:List Nat):List Nat:=l.foldl putN []
def setN (l:List Nat):List Nat:=zk8 (dedN l)
inductive RchT (st:List (List Nat)) (T:List Nat) (x:Nat):Nat->Prop
 | here:RchT st T x x
 | step {a b:Nat}:RchT st T x a->b∈nx st a->b∉T->RchT st T x b
structure FndT (st:List (List Nat)) (T:List Nat) (x:Nat) (S:List Nat):Prop where
 nd:S.Nodup
 rc:∀a∈S,RchT st T x a
 hx:x∈S
 nt:∀a∈S,a∉T
theorem FndT.one {st:List (List Nat)}{T:List Nat}{x:Nat}(h:x∉T):FndT st T x [x]:=⟨by simp,λa ha=>by simp at ha;subst ha;exact .here,by simp,λa ha=>by simp at ha;subst ha;exact h⟩
section
variable {ma me:G->M D}{mt:G->M Out}{γ:G}{h:AH}{a b i:Nat}{xs:List D}{v:D}{Q:Out->AH->Prop}
theorem z8l (e:h[i]?=.(l xs)):z2d (.ref i) h=.ok i h:=by unfold z2d;dsimp only;rw[e]
theorem z6n (e:h[i]?=.(l xs)) (hl:xs.length<1000000):J7 i v h=.ok .non (h.set i (.lst (xs++[v]))):=by
 unfold J7 updL;rw[e];dsimp only;rw[if_pos (by simp[sizeLine];omega)]
theorem z6a (ea:γ[a]?=some (.(r i))) (e:h[i]?=.(l xs)) (hl:xs.length<1000000) (ev:me γ h=.ok v h) (z:W (mt γ) (h.set i (.lst (xs++[v]))) Q):W (z8 (z1E (eM1 J7 (eVar a) me)) mt γ) h Q:=by
 refine z9T ?_;have e1:eVar a γ=pure (.ref i):=by unfold eVar;rw[ea]
 unfold eM1;rw[e1,z0z,Z6];refine W_of (z8l e) ?_;rw[Z6];exact W_of ev (W_of (z6n e hl) z)
theorem J6 {f:List D->M D}{d:D}{h1:AH}{r:Res D}(e:me γ h=.ok d h1) (e2:f [d] h1=r):Z8 f (z4 me aNil) γ h=r:=by
 have:z4 me aNil γ h=.ok [d] h1:=by
  show (me γ >>= λx=>(do let r <- aNil γ;pure (x::r):M (List D))) h=_;rw[M.bind_ok e];rfl
 show (z4 me aNil γ >>= f) h=_;rw[M.bind_ok this];exact e2
theorem cb_h {b:Bool}{h1:AH}(e:me γ h=.ok (.bl b) h1):(λγ=>(do let d <- me γ;asB d:M Bool)) γ h=.ok b h1:=by
 dsimp only;rw[M.bind_ok e];rfl
theorem z1G {n:Nat}{mb:G->M Out}{ds:List D}{d:D}{h1:AH}(z:W (mb (v3 n ds)) h (runW λa h'=>a=d/\h'=h1)):runF n mb ds h=.ok d h1:=by
 obtain⟨_,_,a,rfl,rfl⟩:=z2s z;exact a
end
theorem z30 {f:D->D->Option Bool}{ι:Type} [DecidableEq ι] {enc:ι->D}(e:∀a b,f (enc a) (enc b)=some (decide (a=b))):∀l m:List ι,eqZ f (l.map enc) (m.map enc)=some (decide (l=m))
 | [],[]=>by simp[eqZ]
 | [],b::m=>by simp[eqZ]
 | a::l,[]=>by simp[eqZ]
 | a::l,b::m=>by
  rw[K0z,K0z];unfold eqZ;rw[e a b,z30 e l m];dsimp only;congr 1;rw[K1h];simp
theorem z4d {n:Nat}{h:AH}(a b:Nat):eqN (n+1) h (.int a) (.int b)=some (decide (a=b)):=by
 show some ((a:Int)==(b:Int))=_;congr 1;rw[K1h,beq_iff_eq,decide_eq_true_eq];exact Int.ofNat_inj
theorem z7N {ι:Type} [DecidableEq ι] {enc:ι->D}{n:Nat}{h:AH}(e:∀a b,eqN n h (enc a) (enc b)=some (decide (a=b))) (l m:List ι):eqN (n+1) h (.tup (l.map enc)) (.tup (m.map enc))=some (decide (l=m)):=z30 e l m
theorem z7F {ι:Type} [DecidableEq ι] {enc:ι->D}{n:Nat}{h:AH}(e:∀a b,eqN n h (enc a) (enc b)=some (decide (a=b))) {l m:List ι}{i j:Nat}(hi:h[i]?=.(l (l.map enc))) (hj:h[j]?=.(l (m.map enc))):eqN (n+1) h (.ref i) (.ref j)=some (decide (l=m)):=by
 have v1:vw h (.ref i)=.lst (l.map enc):=by unfold vw;dsimp only;rw[hi]
 have v2:vw h (.ref j)=.lst (m.map enc):=by unfold vw;dsimp only;rw[hj]
 unfold eqN;rw[v1,v2];exact z30 e l m
theorem z6G {neg:Bool}{h:AH}{x y:D}{b:Bool}(e:eqN 24 h x y=some b):fEqX neg x y h=.ok (.bl (b != neg)) h:=by
 unfold fEqX;rw[e]
theorem z4a {l m:List Nat}{neg:Bool}:fEqX neg (.tup (stD l)) (.tup (stD m))=pure (.bl (decide (l=m) != neg)):=funext λh=>z6G (z7N (enc:=λ(i:Nat)=>.int i) z4d l m)
theorem z7y {l m:List Nat}{neg:Bool}{h:AH}{i j:Nat}(hi:h[i]?=.(l (stD l))) (hj:h[j]?=.(l (stD m))):fEqX neg (.ref i) (.ref j) h=.ok (.bl (decide (l=m) != neg)) h:=z6G (z7F (enc:=λ(i:Nat)=>.int i) z4d hi hj)
section
variable {ma mb:G->M D}{γ:G}{h h1 h2:AH}
theorem e2_h {f:D->D->M D}{x y:D}{r:Res D}(e1:ma γ h=.ok x h1) (e2':mb γ h1=.ok y h2) (e3:f x y h2=r):e2 f ma mb γ h=r:=by
 show (ma γ >>= λx=>(mb γ >>= λy=>f x y)) h=_;rw[M.bind_ok e1,M.bind_ok e2',e3]
theorem fn_h {n:Nat}{f:List D->M D}{mr:G->M (List D)}{ds:List D}{r:Res D}(e:mr γ h=.ok ds h1) (hn:ds.length=n) (e2:f ds h1=r):eFn n f mr γ h=r:=by
 show (mr γ >>= λxs=>if xs.length=n then f xs else bad) h=_;rw[M.bind_ok e,if_pos hn,e2]
theorem ac_h {mr:G->M (List D)}{d:D}{ds:List D}(e:ma γ h=.ok d h1) (e2:mr γ h1=.ok ds h2):z4 ma mr γ h=.ok (d::ds) h2:=by
 show (ma γ >>= λx=>(mr γ >>= λr=>(pure (x::r):M (List D)))) h=_;rw[M.bind_ok e,M.bind_ok e2];rfl
end
section
variable {prog:K04}{w:World}{A:Around}{E:Value->Shared->Prop}{s:Shared}
end
section
variable {X:Cx}{EX:XX}{a o:Expr}{pos apos cpos p:Pos}{mo ma:G->M D}{mr:G->M (List D)}
end
theorem z0V {h:AH}{o:O}:(h++[o])[h.length]?=some o:=by simp
theorem z6z {h:AH}{o o':O}:(h++[o]).set h.length o'=h++[o']:=by simp
section
variable {mo ma:G->M D}{γ:G}{h:AH}{i x:Nat}{l:List Nat}
end
section
variable {me ma:G->M D}{kb:G->M Bool}{γ:G}{h h1:AH}{a i:Nat}{b:Bool}{xs:List D}
theorem cv_h (e:me γ h=.ok (.bl b) h1):cVal me γ h=.ok b h1:=by
 unfold cVal;rw[M.bind_ok e];rfl
theorem cn_h (e:kb γ h=.ok b h1):cNot kb γ h=.ok (!b) h1:=by
 unfold cNot;rw[M.bind_ok e];rfl
theorem Z0 {d:D}(e:γ[a]?=some (some d)):eVar a γ h=.ok d h:=by unfold eVar;rw[e];rfl
theorem zk3 {bs:List Bool}(e:me γ h=.ok (.ref h.length) (h++[.lst (bs.map .bl)])):clE (Z8 (fAll false) (z4 me aNil)) γ h=.ok (.bl (bs.all id)) h :=
 z3k (j:=[.lst (bs.map .bl)]) (J6 e (by
  have g:getL h.length (h++[O.lst (bs.map .bl)])=.ok (bs.map .bl) (h++[O.lst (bs.map .bl)]):=by unfold getL;rw[z0V]
  unfold fAll;dsimp only;rw[M.bind_ok g,z4r];rfl)) rfl
theorem z5m (e:me γ h=.ok (.tup xs) h1):z2U me γ h=.ok (.con xs) h1:=by
 unfold z2U;rw[M.bind_ok e];rfl
theorem z5b {cap:List (Option Nat)}{mi:G->M Src}{g:D->G->M G}{src:Src}{l:List Nat}(p:Nat->Bool) (f:Nat->D) (hi:mi γ h=.ok src h) (hs:src.items=stD l) (hg:∀j,src.good (h++j)) (hl:l.length<=1000000)
 (hd:∀x∈l,∃γ1,(∀h,g (.int x) (capG cap γ) h=.ok γ1 h)/\(∀j,kb γ1 (h++j)=.ok (p x) (h++j))/\(p x=true->∀j,me γ1 (h++j)=.ok (f x) (h++j))):z0A cap mi g kb me γ h=.ok (.ref h.length) (h++[.lst ((l.filter p).map f)]):=by
 refine(z1i (src:=src) (λd=>match d with|.int t=>p t.toNat|_=>false) (λd=>match d with|.int t=>f t.toNat|_=>.non) hi hg (by rw[hs,Z7];exact hl) λd hd'=>?_).trans ?_
 ·rw[hs]at hd';obtain⟨x,hx,rfl⟩:=K2h.mp hd';exact hd x hx
 ·rw[hs];unfold stD;rw[K6s,K4k];rfl
end
theorem z1l {ma mb:G->M D}{γ:G}{h h1 h2:AH}{x y:D}(e1:ma γ h=.ok x h1) (e2':mb γ h1=.ok y h2):eTup (z4 ma (z4 mb aNil)) γ h=.ok (.tup [x,y]) h2:=by
 have e3:z4 ma (z4 mb aNil) γ h=.ok [x,y] h2:=ac_h e1 (ac_h e2' rfl);unfold eTup;rw[M.bind_ok e3];rfl
theorem z7d (n:Nat):z0q n=stD (K0q n):=rfl
def rowAt (row:List Nat) (o:Nat):Nat:=(row[o]?).getD 0
def mkAt (mk:List (List Str)) (i:Nat):List Str:=(mk[i]?).getD []
def Canon (row:List Nat):Prop:=∀i v,row[i]?=some v->∀u,u<v->u∈row.take i
def led (st:List (List Nat)) (row:List Nat) (x:Nat):List Nat:=setN ((nx st x).map (rowAt row))
structure Steady (st:List (List Nat)) (mk:List (List Str)) (row:List Nat):Prop where
 len:row.length=st.length
 can:Canon row
 like:∀i,i<row.length->mkAt mk i=mkAt mk (row.idxOf (rowAt row i))/\led st row i=led st row (row.idxOf (rowAt row i))
structure Cop (bst:List (List Nat)) (bmk:List (List Str)) (st:List (List Nat)) (mk:List (List Str)) (raw:List Nat):Prop where
 l:st.length=raw.length
 kd:∀x,x∈raw↔x<bst.length
 rise:∀i,i<raw.length->(nx st i).Pairwise (·<·)
 lt:∀i,i<raw.length->∀o∈nx st i,o<raw.length
 st:∀i,i<raw.length->∀t,t∈(nx st i).map (rowAt raw)↔t∈nx bst (rowAt raw i)
 ml:mk=raw.map (mkAt bmk)
section
variable {raw:List Nat}
end
section
variable {bst st:List (List Nat)}{bmk mk:List (List Str)}{raw:List Nat}
end
theorem zf9 {s:Shared}{M:Model}{A:Around}{a:Addr}{T id:String}{E:Value->Shared->Prop}{Q:Bool->Shared->Prop}(h:s.TypeIs (.ref a) T) (sl:Slot T (K4l "__iter__") id) (q:Q false s):wpAny M A (notIterableAtAll (.ref a)) Q E s:=by
 unfold notIterableAtAll;refine K1 (wpAny_specialOf h sl.lookup ?_);exact K4 q
section
variable {X:Cx}{EX:XX}{e:Expr}{es:List Expr}{te:TE}{t:TA}{p pos:Pos}{ma:G->M D}{mr:G->M (List D)}
theorem Vals.app {xs ys:List V}{us ws:List Value}(a:Vals xs us) (b:Vals ys ws):Vals (xs++ys) (us++ws):=a.append b
end
end FT
namespace L2
section
variable {X:Cx}{tg:Expr}
end
end L2
namespace FT
def z77 (a:Int) (n:Nat):List D:=(K0q n).map λ(k:Nat)=>.int (a+k)
def okR (i j:Int):Bool:=decide (-(2 ^ 62)<=i)&&decide (i<2 ^ 62)&&(decide (-(2 ^ 62)<=j)&&decide (j<2 ^ 62))
def z21 (ma mb:G->M D):G->M Src:=λγ=>do
 let x <- ma γ;let y <- mb γ
 match x,y with
 | .int i,.int j=>if okR i j=true then pure (.con (z77 i (j - i).toNat)) else bad
 | _,_=>bad
theorem z6V {K:K0}{ρ:List Addr}{H:Hp}{J:It}{n:Nat}{f:Nat->D}{g:Nat->V}(hg:∀i H,J.go i H↔i<n) (hy:∀i H x H',J.yld i H x H'->H'=H/\x=g i) (hs:∀i H,n<=i->J.stop i H) (hr:∀ρ H i,RD K ρ H (f i) (g i)):JOK K (.con ((K0q n).map f)) ρ H J:=λi ρ2 h4 H2 p2 e2 r2 _=>⟨λd hd=>by
 have hd':((K0q n).map f)[i]?=some d:=hd;rw[K0h]at hd';have hi:i<n:=by
  by_cases hi:i<n
  ·exact hi
  ·rw[K0n (by simpa using hi)]at hd';cases hd'
 rw[K3c hi]at hd';cases hd';refine⟨(hg i H2).mpr hi,λy H3 z=>?_⟩;obtain⟨z1,z2⟩:=hy i H2 y H3 z;subst z1;subst z2;exact⟨hr _ _ _,r2,Ext.refl _ _⟩,λhi=>by
 have hi':((K0q n).map f).length=i:=hi;rw[K1g,K8l]at hi';exact hs i H2 (K39 hi')⟩
section
variable {X:Cx}{EX:XX}{a b c tg:Expr}{p p2 pos pos2:Pos}{ma mb mc:G->M D}
theorem z4t (hg:Gl X "range") (hm:X.mg "range" = none) (ha:SE X EX a ma) (hb:SE X EX b mb) (hs:K7 [a,b] X.env=[(false,eval a X.env),(false,eval b X.env)]:=by rfl) (hs2:K7 [b] X.env=[(false,eval b X.env)]:=by rfl):SI X EX tg (.Call (.Name "range" p) [a,b] [] pos) (z21 ma mb) :=
 ⟨PI.imp (z5j hg hm (z08 ha.h (z08 hb.h z19 hs2) (by rw[hs,hs2])) hs hs2) λσ H R ⟨ρ,γ,h,rel,fin⟩=>⟨ρ,γ,h,rel,(Fin.bind fin).mono λx ρ1 h1 H1 p1 e1 r1 f1 v rv=>⟨ρ1,γ,h1,⟨rel.g.mono p1 e1,r1⟩,(Fin.bind f1).mono λy ρ2 h2 H2 p2 e2 r2 f2 u ru=>by
  cases x<;>first|exact(show False from f2).elim|skip
  rename_i i;cases y<;>first|exact(show False from f2).elim|skip
  rename_i j;simp only[RD]at rv ru;subst rv;subst ru;dsimp only at f2;split at f2
  ·rename_i c;unfold okR at c;simp only[K06,decide_eq_true_eq]at c;exact⟨i,j,rfl,⟨c.1.1,c.1.2,c.2.1,c.2.2⟩,f2 ρ2 H2 (Pre.refl _) (Ext.refl _ _) r2 _ (z6V (g:=λk=>.int (i+k)) (λ_ _=>K9p) (λ_ _ _ _ z=>z) (λ_ _ z=>z) λ_ _ _=>by simp[RD])⟩
  ·exact f2.elim⟩⟩⟩
end
end FT
namespace L2
section
variable {X:Cx}
end
end L2
namespace FT
section
variable {X:Cx}{EX:XX}{a b:Expr}{p p2 pos pos2:Pos}{ma mb:G->M D}
end
section
variable {X:Cx}{EX:XX}
end
section
variable {X:Cx}{EX:XX}{elt tg iter tg1 iter1:Expr}{ifs1:List Expr}{sc:Scope}{pos:Pos}{N':List Str}{cap:List (Option Nat)}{own own1:List Nat}{mi mi1:G->M Src}{g g1:D->G->M G}{k:G->M Bool}{me:G->M D}
end
def cnt (st:List (List Nat)):Nat->Nat->Nat
 | 0,_=>1
 | n+1,x=>((nx st x).map (cnt st n)).sum
def zh9 (w:List Nat):Nat:=w.getLast?.getD 0
def ext (st:List (List Nat)) (left:Nat) (w:List Nat):List (List Nat):=((nx st (zh9 w)).filter λy=>decide (0<cnt st left y)).map λy=>w++[y]
section
variable {st:List (List Nat)}
end
open Classical in
theorem zg1 {ι:Type}{cap:List (Option Nat)}{mi:G->M Src}{g:D->G->M G}{kb:G->M Bool}{me:G->M D}{γ:G}{h h1:AH}{src:Src}{l:List ι}(enc:ι->D) (inj:∀x y,enc x=enc y->x=y) (p:ι->Bool) (f:ι->D) (hi:mi γ h=.ok src h) (hs:src.items=l.map enc) (hg:∀j,src.good (h++j)) (hl:l.length<=1000000)
 (hd:∀x∈l,∃γ1,(∀h,g (enc x) (capG cap γ) h=.ok γ1 h)/\(∀j,kb γ1 (h++j)=.ok (p x) (h++j))/\(p x=true->∀j,me γ1 (h++j)=.ok (f x) (h++j))):z0A cap mi g kb me γ h=.ok (.ref h.length) (h++[.lst ((l.filter p).map f)]):=by
 let p':D->Bool:=λd=>if e:∃x,enc x=d then p e.choose else false
 let f':D->D:=λd=>if e:∃x,enc x=d then f e.choose else .non
 have ep:∀x,p' (enc x)=p x:=λx=>by
  have e:∃y,enc y=enc x:=⟨x,rfl⟩;show (if e:∃y,enc y=enc x then p e.choose else false)=_;rw[dif_pos e,inj _ _ e.choose_spec]
 have ef:∀x,f' (enc x)=f x:=λx=>by
  have e:∃y,enc y=enc x:=⟨x,rfl⟩;show (if e:∃y,enc y=enc x then f e.choose else .non)=_;rw[dif_pos e,inj _ _ e.choose_spec]
 refine(z1i (src:=src) p' f' hi hg (by rw[hs,K1g];exact hl) λd hd'=>?_).trans ?_
 ·rw[hs]at hd';obtain⟨x,hx,rfl⟩:=K2h.mp hd';rw[ep,ef];exact hd x hx
 ·rw[hs,K6s,K4k];rw[show (p' ∘ enc)=p from funext ep,show (f' ∘ enc)=f from funext ef]
end FT
namespace L2
open PySem.AutoSeq1 (wpAny_loadPart')
section
variable {P:K04}{w:World}{A:Around}{E:Value->Shared->Prop}{s:Shared}{I t:Addr}
end
section
variable {X:Cx}{tg:Expr}
end
end L2
namespace FT
section
variable {X:Cx}{EX:XX}{a tg:Expr}{p pos:Pos}{ma:G->M D}
end
end FT
namespace L2
open PySem.AutoSeq1 (wpAny_loadPart')
section
variable {X:Cx}
end
end L2
namespace FT
section
variable {X:Cx}{EX:XX}{a o:Expr}{cpos apos:Pos}{ma mo:G->M D}
theorem z1L:∀{ss:List Str}{us:List Value},Vals (ss.map V.str) us->StrsAre us ss
 | [],us,h=>by cases h;exact .nil
 | s::ss,us,h=>by
  cases h with
  | cons r rr =>
   obtain⟨t,rfl⟩:=r;exact .cons s t (z1L rr)
def rJoin (K:K0):V->List V->Hp->VK->Prop:=λx vs H Q=>∃(z:Str) (l:Addr) (ss:List Str),x=.str z/\vs=[.ref l]/\SqL K H l (ss.map V.str)/\z.length<=16/\(ss.map λx=>x.length).sum+ss.length<=1048576/\Q (.str (K8b z ss)) H
theorem z82:MtR X "str.join" (rJoin X.K):=by
 intro pins s σ H x vs v us Q I rx rv h;obtain⟨z,l,ss,rfl,rfl,hq,h1,h2,q⟩:=h;obtain⟨t,rfl⟩:=rx;obtain⟨u,rfl,ru⟩:=rv.one;cases ru;obtain⟨its,r,pl,hz⟩:=I.list hq;exact join_listW pl.isList (by simpa using z1L r) h1 h2 λt' k=>⟨.str _,H,I.tok _,⟨_,rfl⟩,q⟩
def z4V (z:Str) (y:D):M D:=match y with
 | .ref m=>do
  let ys <- getL m
  match z2l ys with
  | some ss=>if z.length<=16/\(ss.map λx=>x.length).sum+ss.length<=1048576 then pure (.str (K8b z ss)) else bad
  | none=>bad
 | _=>bad
def z4X (mo ma:G->M D):G->M D:=λγ=>do
 let o <- mo γ
 match o with
 | .str z=>do
  let y <- ma γ
  z4V z y
 | _=>bad
theorem z4Q (ho:SE X EX o mo) (ha:SE X EX a ma)
 (hbase:K2e o "join" X.env (eval o X.env)=eval o X.env:=by rfl)
 (hfew:((backTo cpos (K7 [a] X.env)).all (λx=>!x.1)&&(K47 cpos (K2u [] X.env)).all (λx=>x.1.isSome)
 &&decide (([a]:List Expr).length+([]:List K2q).length+(if ([]:List K2q).isEmpty then 0 else 1)<30))=true:=by rfl)
 (hline:(apos.endLine==cpos.line)=true:=by rfl) (hs:K7 [a] X.env=[(false,eval a X.env)]:=by rfl) :
 SE X EX (.Call (.Attribute o "join" apos) [a] [] cpos) (z4X mo ma) :=
 ⟨PE.imp (z7x PySem.F.plainAttrs_str PySem.F.slot_str_join PySem.F.type_str_join z82 ho.h (z08 ha.h z19 hs) hbase hfew hline hs rfl) λσ H Q ⟨ρ,γ,h,rel,fin⟩=>⟨ρ,γ,h,rel,(Fin.bind fin).mono λx ρ1 h1 H1 p1 e1 r1 f1 v rv=>by
  cases x<;>first|exact(show False from f1).elim|skip
  rename_i z;simp only[RD]at rv;subst rv;exact⟨rfl,ρ1,γ,h1,⟨rel.g.mono p1 e1,r1⟩,(Fin.bind f1).mono λy ρ2 h4 H2 p2 e2 r2 f2 u ru=>by
   cases y<;>first|exact(show False from f2).elim|skip
   rename_i m;simp only[RD]at ru;obtain⟨b,rfl,hb⟩:=ru;have f3:=Fin.bind (show Fin X.K EX ρ2 H2 (λd ρ' _ H'=>∀v,RD X.K ρ' H' d v->Q v H') ((getL m >>= λys=>(match z2l ys with
    | some ss=>if z.length<=16/\(ss.map λx=>x.length).sum+ss.length<=1048576 then pure (.str (K8b z ss)) else bad
    | none=>bad:M D)) h4) from f2)
   cases e3:getL m h4 with
   | bad=>rw[e3]at f3;exact f3.elim
   | err z hz=>exact(z0i e3).elim
   | ok zs h3 =>
    obtain⟨rfl,q1⟩:=z0n e3;rw[e3]at f3;obtain⟨a1,n1,us,o1,d1⟩:=r2.at q1;rw[hb]at n1;cases n1;have f4:=f3 ρ2 H2 (Pre.refl _) (Ext.refl _ _) r2;dsimp only at f4;cases es:z2l zs with
    | none=>rw[es]at f4;exact f4.elim
    | some ss =>
     rw[es]at f4;have:=z3x es d1;subst this;dsimp only at f4;split at f4
     ·rename_i c;exact⟨z,_,ss,rfl,rfl,SqL.of o1,c.1,c.2,FE.here f4 r2 (by simp[RD])⟩
     ·exact f4.elim⟩⟩⟩
end
theorem z8T {α:Type}{m:G->M α}{γ:G}{h h1:AH}{a:α}(e:m γ h=.ok a h1):noE m γ h=.ok a h1:=by unfold noE;rw[e]
section
variable {ka kb:G->M Bool}{γ:G}{h:AH}{r:Res Bool}
theorem z5A (e1:ka γ h=.ok false h) (e2':kb γ h=r):cOr ka kb γ h=r:=by
 unfold cOr;rw[M.bind_ok e1,if_neg (by decide)];exact e2'
theorem z6v (e1:ka γ h=.ok true h) (e2':kb γ h=r):cAnd ka kb γ h=r:=by
 unfold cAnd;rw[M.bind_ok e1,if_pos rfl];exact e2'
end
theorem zl3 {xs:List D}{h:AH}(hl:xs.length<=1000000):newL xs h=.ok (.ref h.length) (h++[.lst xs]):=by
 unfold newL;rw[if_pos (K0b hl (by decide))]
theorem z8N {h:AH}{i:Nat}{ss:List Str}{z:Str}(e:h[i]?=.(l (ss.map .str))) (hz:z.length<=16) (hl:(ss.map λx=>x.length).sum+ss.length<=1048576):z4V z (.ref i) h=.ok (.str (K8b z ss)) h:=by
 have g:getL i h=.ok (ss.map .str) h:=by unfold getL;rw[e]
 unfold z4V;dsimp only;rw[M.bind_ok g,strs_map];dsimp only;rw[if_pos ⟨hz,hl⟩];rfl
theorem z4j {mo ma:G->M D}{γ:G}{h h1 h2:AH}{z:Str}{y:D}{r:Res D}(e1:mo γ h=.ok (.str z) h1) (e2':ma γ h1=.ok y h2) (e3:z4V z y h2=r):z4X mo ma γ h=r:=by
 unfold z4X;rw[M.bind_ok e1];dsimp only;rw[M.bind_ok e2'];exact e3
section
variable {X:Cx}{EX:XX}{elt val tg iter c:Expr}{ifs:List Expr}{sc:Scope}{pos:Pos}{N':List Str}{cap:List (Option Nat)}{own:List Nat}{mi:G->M Src}{g:D->G->M G}{k kr:G->M Bool}{me mv:G->M D}
end
end FT
namespace L2
theorem KV.get:∀{kvs:List (Key×V)}{vs:List (Key×Value)},KV kvs vs->∀{i:Nat}{k:Key}{x:V},kvs[i]?=some (k,x)->∃u,vs[i]?=some (k,u)
 | _,_,.nil,i,k,x,e=>by simp at e
 | p::_,q::_,.cons a b,0,k,x,e=>by
  have e':p=(k,x):=by simpa using e
  subst e';obtain⟨a1,_⟩:=a;refine⟨q.2,?_⟩;show some q=_;rw[show k=q.1 from a1]
 | _::_,_::_,.cons a b,i+1,k,x,e=>KV.get b (by simpa using e)
section
variable {X:Cx}{tg:Expr}
end
end L2
namespace FT
def kD:Key->D
 | .inl i=>.int i
 | .inr x=>.str x
def z5C (kvs:List (Key×D)):List D:=kvs.map λkv=>kD kv.1
theorem RK.get {K:K0}{ρ:List Addr}{H:Hp}:∀{kvs:List (Key×D)}{vs:List (Key×V)},RK K ρ H kvs vs->∀{i:Nat}{d:D},(z5C kvs)[i]?=some d->∃k x,d=kD k/\vs[i]?=some (k,x)
 | _,_,.nil,i,d,e=>by simp[z5C]at e
 | p::_,q::_,.cons a b,0,d,e=>by
  have e':kD p.1=d:=by simpa [z5C] using e
  subst e';exact⟨q.1,q.2,by rw[a.1],rfl⟩
 | _::_,_::_,.cons a b,i+1,d,e=>RK.get b (by simpa [z5C] using e)
section
variable {X:Cx}{EX:XX}{a tg:Expr}{ma:G->M D}
end
end FT
namespace L2
section
variable {X:Cx}{tg:Expr}
end
end L2
namespace FT
section
variable {X:Cx}{EX:XX}{a tg:Expr}{p pos:Pos}{ma:G->M D}
end
section
variable {P:K04}{w:World}{A:Around}{E:Value->Shared->Prop}{s:Shared}
end
section
variable {X:Cx}{EX:XX}{p pos:Pos}
end
def Mut2 (st:List (List Nat)) (x y:Nat):Prop:=Rch st x y/\Rch st y x
section
variable {st:List (List Nat)}{x y z:Nat}
theorem Rch.trans (a:Rch st x y) (b:Rch st y z):Rch st x z:=by
 induction b with
 | here=>exact a
 | step _ h ih=>exact ih.step h
theorem Mut2.refl:Mut2 st x x:=⟨.here,.here⟩
theorem Mut2.symm (a:Mut2 st x y):Mut2 st y x:=⟨a.2,a.1⟩
theorem Mut2.trans (a:Mut2 st x y) (b:Mut2 st y z):Mut2 st x z:=⟨a.1.trans b.1,b.2.trans a.2⟩
end
structure KS where
 seen:List Nat
 ord:List Nat
 wt:List (Nat×Bool)
def opens (wt:List (Nat×Bool)):List Nat:=(wt.filter λp=>p.2).map (·.1)
structure KI (st:List (List Nat)) (V:List Nat) (s:KS):Prop where
 nd:s.seen.Nodup
 sub:∀x∈s.seen,x∈V
 wv:∀p∈s.wt,p.1∈V
 so:∀x,x∈s.seen↔x∈s.ord\/x∈opens s.wt
 on:(s.ord++opens s.wt).Nodup
 root:∀x∈V,x∈s.seen\/(x,false)∈s.wt
 nxo:∀l r x,s.wt=l++(x,true)::r->∀y∈nx st x,y∈s.seen\/(y,false)∈r
 nxf:∀x∈s.ord,∀y∈nx st x,y∈s.seen
 ch:∀l r x,s.wt=l++(x,true)::r->∀p∈r,Rch st x p.1
 q:∀y∈s.ord,∀v,v∉s.ord->Rch st y v->∃z,z∉s.ord/\Mut2 st z y
 k:∀l x r,s.ord=l++x::r->∀y∈l,Rch st y x->∃z,z∉l/\Mut2 st z y
section
variable {st:List (List Nat)}{V:List Nat}{s:KS}
end
section
variable {st:List (List Nat)}{V:List Nat}{s:KS}
structure KEnd (st:List (List Nat)) (V O:List Nat):Prop where
 nd:O.Nodup
 mem:∀x,x∈O↔x∈V
 k:∀l x r,O=l++x::r->∀y∈l,Rch st y x->∃z,z∉l/\Mut2 st z y
end
open Classical in
noncomputable def scc (st:List (List Nat)) (V:List Nat) (x:Nat):List Nat:=V.filter λa=>decide (Mut2 st x a)
def Trn (s1 s2:List (List Nat)):Prop:=∀x y,y∈nx s2 x↔x∈nx s1 y
section
variable {s1 s2:List (List Nat)}{V:List Nat}
theorem Rch.turn (t:Trn s1 s2) {x y:Nat}(h:Rch s2 x y):Rch s1 y x:=by
 induction h with
 | here=>exact .here
 | step _ h2 ih=>exact(Rch.here.step ((t _ _).mp h2)).trans ih
structure MI (s1:List (List Nat)) (V done T:List Nat):Prop where
 cl:∀a∈T,∀b∈nx s1 a,b∈T
 dn:∀a∈done,a∈T
 tv:∀a∈T,a∈V
end
section
variable {st:List (List Nat)}{V:List Nat}{s:KS}
end
section
variable {cap:List (Option Nat)}{mi:G->M Src}{g:D->G->M G}{kb:G->M Bool}{me mv:G->M D}{γ:G}
end
theorem sm0 {h:AH}{o o':O}{j:AH}:(h++o::j).set h.length o'=h++o'::j:=by rw[K3z _ _ (K05 _),Nat.sub_self];rfl
section
variable {X:Cx}{EX:XX}{elt val tg iter tg1 iter1:Expr}{ifs1:List Expr}{sc:Scope}{pos:Pos}{N':List Str}{cap:List (Option Nat)}{own own1:List Nat}{mi mi1:G->M Src}{g g1:D->G->M G}{k:G->M Bool}{me mv:G->M D}
end
end FT
namespace L2
section
variable {X:Cx}
end
end L2
namespace FT
def z9e (n:Nat):M (List (Key×D)):=λh=>match h[n]? with
 | some (.dK kvs)=>.ok kvs h
 | some (.dF kvs)=>.ok kvs h
 | _=>.bad
section
variable {X:Cx}{EX:XX}{a:Expr}{mr:G->M (List D)}{p pos:Pos}
end
section
variable {X:Cx}{EX:XX}{a o:Expr}{p pos cpos apos:Pos}{ma mo:G->M D}{mr:G->M (List D)}
def fStr:List D->M D
 | [.int i]=>if i.natAbs.log2<1920 then pure (.str (toString i)) else bad
 | _=>bad
theorem z8D:AR X.K EX (λxs H Q=>∃i,xs=[.int i]/\i.natAbs.log2<1920/\Q (.str (toString i)) H) fStr:=by
 intro ρ h H ds vs Q r rd fin;unfold fStr at fin;split at fin
 ·rename_i i;obtain⟨v,rfl,rv⟩:=rds1 rd;simp only[RD]at rv;subst rv;split at fin
  ·rename_i c;exact⟨i,rfl,c,FE.here fin r (by simp[RD])⟩
  ·exact fin.elim
 ·exact fin.elim
theorem z4B (hg:Gl X "str") (hm:X.mg "str" = none) (ha:SA X EX [a] mr) (he:K7 [a] X.env=[(false,eval a X.env)]:=by rfl):SE X EX (.Call (.Name "str" p) [a] [] pos) (Z8 fStr mr) :=
 z1m (z1w z2L hg hm (by decide +kernel) ha.h (by decide) (by decide) he rfl) z8D
end
def cp (x:Str):List Nat:=x.cps.toList
def nS (i:Nat):Str:=toString (i:Int)
def nOk:Bool:=(K0q 40).all λi=>decide ((nS i).length<=2)&&!(cp (nS i)).contains 32&&!(cp (nS i)).contains 10&&decide (nS i≠">")
theorem zg7:nOk=true:=by decide +kernel
theorem z9H {i:Nat}(h:i<40):(nS i).length<=2:=by
 have:=K0t.mp zg7 i (K1k.mpr h);simp only[K06,decide_eq_true_eq]at this;exact this.1.1.1
theorem zf2 {i:Nat}(h:i<40):fStr [.int (i:Nat)]=pure (.str (nS i)):=by
 have:((i:Int)).natAbs.log2<1920:=by
  have h1:((i:Int)).natAbs=i:=by omega
  rw[h1];have:i.log2<=i:=Nat.log2_le_self i;omega
 unfold fStr;dsimp only;rw[if_pos this];rfl
section
variable {α:Type}{us:List α}
theorem ar1 (hl:us.length=1):∃a,us=[a]:=match us,hl with|[a],_=>⟨a,rfl⟩
theorem ar2 (hl:us.length=2):∃a b,us=[a,b]:=match us,hl with|[a,b],_=>⟨a,b,rfl⟩
theorem ar3 (hl:us.length=3):∃a b c,us=[a,b,c]:=match us,hl with|[a,b,c],_=>⟨a,b,c,rfl⟩
theorem ar4 (hl:us.length=4):∃a b c d,us=[a,b,c,d]:=match us,hl with|[a,b,c,d],_=>⟨a,b,c,d,rfl⟩
end
section
variable {X:Cx}{EX:XX}{k v:Expr}{pos:Pos}{mk mv:G->M D}
end
abbrev Grw (h h':Heap):Prop:=∀(b:Addr) (o:Obj),h.get? b=some o->h'.get? b=some o
structure RC (prog:K04) (w:World) (h₀:Heap) (u:Value) (p:PyData):Prop where
 rd:∃as,Reads h₀ u p as
 rk:p.showable=true->p.shown.length<=sizeLine->∃bs,K6d h₀ p.depth bs/\ReprK prog w bs h₀ p.depth u p.shown
 tp:p.showable=true->p.shown.length<=sizeLine->∀(A:Around) (E:Value->Shared->Prop) (s:Shared) (Q:Value->Shared->Prop),A.guards=some []->A.units+p.depth+1<cLine->Grw h₀ s.heap ->
  (∀h' u tk,Grw s.heap h'->Q (.str p.shown u) { s with heap:=h',toks:=tk })->wpAny (model prog w) A (call (.builtin "repr") [u]) Q E s
structure RCs (prog:K04) (w:World) (h₀:Heap) (us:List Value) (ps:List PyData):Prop where
 rd:∃as,ReadsAll h₀ us ps as
 rk:K4x ps=true->(∀t∈K18 ps,t.length<=sizeLine)->∃bs,K6d h₀ (K2y ps) bs/\ReprAllK prog w bs h₀ (K2y ps) us (K18 ps)
section
variable {prog:K04}{w:World}{h₀:Heap}
theorem RCs.nil:RCs prog w h₀ [] []:=⟨⟨[],.nil⟩,λ_ _=>⟨[],(λ_ h=>nomatch h),by simp only[K18];exact .nil⟩⟩
theorem RCs.cons {u:Value}{us:List Value}{p:PyData}{ps:List PyData}(a:RC prog w h₀ u p) (b:RCs prog w h₀ us ps):RCs prog w h₀ (u::us) (p::ps):=by
 obtain⟨a1,ra⟩:=a.rd;obtain⟨a2,rb⟩:=b.rd;refine⟨⟨_,.cons ra rb⟩,λhs hz=>?_⟩;have hs':p.showable=true/\K4x ps=true:=by simpa [K4x] using hs
 obtain⟨b1,hb1,k1⟩:=a.rk hs'.1 (hz _ (by simp only[K18];exact K0v ..));obtain⟨b2,hb2,k2⟩:=b.rk hs'.2 (λt ht=>hz t (by simp only[K18];exact K0c _ ht));refine⟨b1++b2,?_,?_⟩
 ·simp only[K2y];exact(hb1.mono (K9b _ _)).append (hb2.mono (K8z _ _))
 ·simp only[K2y,K18];exact .cons ((k1.more λb hb=>K2j _ hb).level_le (K9b _ _)) (k2.more_le (λb hb=>K0d _ hb) (K8z _ _))
theorem RC.none:RC prog w h₀ .none .none :=
 ⟨⟨_,.none⟩,λ_ _=>⟨[],(λ_ h=>nomatch h),by simp only[K0s];exact .of_is ReprIs.none _ _ _⟩,λ_ _ A E s Q _ _ _ hQ=>P.repr_of_none (by simp only[K0s]at hQ;exact hQ s.heap _ _ λ_ _ e=>e)⟩
theorem RC.bool (b:Bool):RC prog w h₀ (.bool b) (.bool b) :=
 ⟨⟨_,.bool b⟩,λ_ _=>⟨[],(λ_ h=>nomatch h),by simp only[K0s];exact .of_is (ReprIs.bool b) _ _ _⟩,λ_ _ A E s Q _ _ _ hQ=>P.repr_of_bool (by simp only[K0s]at hQ;exact hQ s.heap _ _ λ_ _ e=>e)⟩
theorem RC.int (i:Int) (t:Tok):RC prog w h₀ (.int i t) (.int i) :=
 ⟨⟨_,.int i t⟩,λhs _=>⟨[],(λ_ h=>nomatch h),by simp only[K0s];exact .of_is (ReprIs.int t (by simpa [K2x] using hs)) _ _ _⟩,
  λhs _ A E s Q _ _ _ hQ=>P.repr_of_int (by simpa [K2x] using hs) (by simp only[K0s]at hQ;exact hQ s.heap _ _ λ_ _ e=>e)⟩
theorem RC.str (x:Str) (t:Tok):RC prog w h₀ (.str x t) (.str x) :=
 ⟨⟨_,.str x t⟩,λ_ hz=>⟨[],(λ_ h=>nomatch h),by simp only[K0s];exact .of_is (ReprIs.str x t (by simpa only[K0s] using hz)) _ _ _⟩,
  λ_ hz A E s Q _ _ _ hQ=>P.repr_of_str (by simp only[K0s]at hQ;exact hQ s.heap _ _ λ_ _ e=>e) (by simpa only[K0s] using hz)⟩
theorem RC.list {a:Addr}{o:Obj}{its:List Value}{n:Nat}{ps:List PyData}(h1:h₀.get? a=some o) (h2:o.cls=.type "list") (h3:o.data=.seq its.toArray n) (b:RCs prog w h₀ its ps):RC prog w h₀ (.ref a) (.list ps):=by
 obtain⟨as,ra⟩:=b.rd;have r:Reads h₀ (.ref a) (.list ps) _:=.list h1 h2 h3 ra;refine⟨⟨_,r⟩,λhs hz=>?_,λhs hz A E s Q hg hu hk0 hQ=>?_⟩
 ·have hz':(listText (K18 ps)).length<=sizeLine:=by simpa only[K0s] using hz
  obtain⟨bs,hb,hk⟩:=b.rk (by simpa [K2x] using hs) λt ht=>K0b (listText_mem_le ht) hz';have hna:a∉bs:=K3y r (by simp only[K1t];omega) hb;refine⟨a::bs,K6m r (by simp only[K1t];omega) hb,?_⟩;simp only[K1t,K0s];cases its with
  | nil =>
   cases ra;simp only[K18,listText_nil];exact ReprK.listEmpty h1 h2 h3
  | cons x l=>exact ReprK.list h1 h2 h3 hna (by simpa using hk.length_eq) (λi y e=>hk.item i y (by simpa using e))
 ·have hz':(listText (K18 ps)).length<=sizeLine:=by simpa only[K0s] using hz
  obtain⟨bs,hb,hk⟩:=b.rk (by simpa [K2x] using hs) λt ht=>K0b (listText_mem_le ht) hz';have hna:a∉bs:=K3y r (by simp only[K1t];omega) hb;simp only[K1t]at hu;simp only[K0s]at hQ;refine K7c (by omega) ⟨_,hk0 _ _ h1,h2⟩ F.slot_list_repr.toG ?_;cases its with
  | nil =>
   cases ra;simp only[K18,listText_nil]at hQ;exact call_list_repr_empty ⟨_,hk0 _ _ h1,h2⟩ (hk0 _ _ h1) h3 ⟨_,_,rfl,hQ s.heap _ _ λ_ _ e=>e⟩
  | cons x l =>
   exact call_list_reprK h1 h2 h3 hna (by simpa using hk.length_eq) (λi y e=>hk.item i y (by simpa using e)) (g:=[]) hg (λb _=>K9n b) (by show A.units+1+_<_;omega) hk0 (λh' u tk hk'=>⟨_,_,rfl,hQ h' u tk hk'⟩) hz'
theorem RC.tuple {a:Addr}{o:Obj}{its:List Value}{n:Nat}{ps:List PyData}(h1:h₀.get? a=some o) (h2:o.cls=.type "tuple") (h3:o.data=.seq its.toArray n) (b:RCs prog w h₀ its ps):RC prog w h₀ (.ref a) (.tuple ps):=by
 obtain⟨as,ra⟩:=b.rd;have r:Reads h₀ (.ref a) (.tuple ps) _:=.tuple h1 h2 h3 ra;have key:(K9q ps).showable=true->(K9q ps).shown.length<=sizeLine->(tupleText (K18 ps)).length<=sizeLine/\∃bs,K6d h₀ (K2y ps) bs/\ReprAllK prog w bs h₀ (K2y ps) its (K18 ps)/\a∉bs:=λhs hz=>by
  have hz':(tupleText (K18 ps)).length<=sizeLine:=by simpa only[K0s] using hz
  obtain⟨bs,hb,hk⟩:=b.rk (by simpa [K2x] using hs) λt ht=>K0b (tupleText_mem_le ht) hz';exact⟨hz',bs,hb,hk,K3y r (by simp only[K1t];omega) hb⟩
 refine⟨⟨_,r⟩,λhs hz=>?_,λhs hz A E s Q hg hu hk0 hQ=>?_⟩
 ·obtain⟨hz',bs,hb,hk,hna⟩:=key hs hz;refine⟨a::bs,K6m r (by simp only[K1t];omega) hb,?_⟩;simp only[K1t,K0s];exact ReprK.tuple h1 h2 h3 hna hk
 ·obtain⟨hz',bs,hb,hk,hna⟩:=key hs hz;simp only[K1t]at hu;simp only[K0s]at hQ;refine K7c (by omega) ⟨_,hk0 _ _ h1,h2⟩ F.slot_tuple_repr ?_;exact call_tuple_reprK h1 h2 h3 hna hk (g:=[]) hg (λb _=>K9n b) (by show A.units+1+_<_;omega) hk0 (λh' u tk hk'=>⟨_,_,rfl,hQ h' u tk hk'⟩) hz'
theorem RC.dict {a:Addr}{o:Obj}{es:Array DictEntry}{n:Nat}{ps:List (PyData×PyData)}(h1:h₀.get? a=some o) (h2:o.cls=.type "dict") (h3:o.data=.dict es n) (hsys:(a==K6c)=false)
 (b:RCs prog w h₀ (es.toList.map (·.key)) (ps.map (·.1))) (c:RCs prog w h₀ (es.toList.map (·.val)) (ps.map (·.2))):RC prog w h₀ (.ref a) (.dict ps):=by
 obtain⟨as,ra⟩:=b.rd;obtain⟨cs,rc⟩:=c.rd;have r:Reads h₀ (.ref a) (.dict ps) _:=.dict h1 h2 h3 ra rc;have key:(PyData.dict ps).showable=true->(PyData.dict ps).shown.length<=sizeLine->(dictText (K72 ps)).length<=sizeLine/\∃bs,K6d h₀ (K73 ps) bs/\a∉bs/\ReprEntriesK prog w bs h₀ (K73 ps) es.toList (K72 ps):=λhs hz=>by
  have hz':(dictText (K72 ps)).length<=sizeLine:=by simpa only[K0s] using hz
  obtain⟨hs1,hs2⟩:=PyData.showableKv_split ps (by simpa [K2x] using hs);obtain⟨b1,hb1,k1⟩:=b.rk hs1 (λt ht=>let ⟨p,hp,hl⟩:=PyData.shownKv_key_le ps t ht;K0b hl (K0b (dictText_mem_le hp) hz'));obtain⟨b2,hb2,k2⟩:=c.rk hs2 (λt ht=>let ⟨p,hp,hl⟩:=PyData.shownKv_val_le ps t ht;K0b hl (K0b (dictText_mem_le hp) hz'));have hb:K6d h₀ (K73 ps) (b1++b2):=(hb1.mono (K5z ps)).append (hb2.mono (K5y ps));refine⟨hz',b1++b2,hb,K3y r (by simp only[K1t];omega) hb,?_⟩;rw[PyData.shownKv_eq];exact ReprEntriesK.of_two es.toList _ _ (k1.more_le (λb hb=>K2j _ hb) (K5z ps)) (k2.more_le (λb hb=>K0d _ hb) (K5y ps))
 refine⟨⟨_,r⟩,λhs hz=>?_,λhs hz A E s Q hg hu hk0 hQ=>?_⟩
 ·obtain⟨hz',bs,hb,hna,hk⟩:=key hs hz;refine⟨a::bs,K6m r (by simp only[K1t];omega) hb,?_⟩;simp only[K1t,K0s];exact ReprK.dict h1 h2 h3 hsys hna hk
 ·obtain⟨hz',bs,hb,hna,hk⟩:=key hs hz;simp only[K1t]at hu;simp only[K0s]at hQ;refine K7c (by omega) ⟨_,hk0 _ _ h1,h2⟩ F.slot_dict_repr ?_;exact call_dict_reprK h1 h2 h3 hsys hna hk (g:=[]) hg (λb _=>K9n b) (by show A.units+1+_<_;omega) hk0 (λh' u tk hk'=>⟨_,_,rfl,hQ h' u tk hk'⟩) hz'
end
section
variable {X:Cx}{pins:List (Addr×Obj)}{σ:L2.St}{H:Hp}{s:Shared}{ρ:List Addr}{h:AH}
end
section
variable {X:Cx}{EX:XX}{a:Expr}{p pos:Pos}{mr:G->M (List D)}
end
def Ths (P:Nat->D->Prop):Nat->List D->Prop
 | _,[]=>True
 | n,x::xs=>∃a b,P a x/\Ths P b xs/\a+b+2<=n
def Th (r:AH) (B:Nat):Nat->Nat->D->Prop
 | 0,_,_=>False
 | _+1,n,.non=>4<=n
 | _+1,n,.bl _=>5<=n
 | _+1,n,.int i=>i.natAbs<=B/\40<=n
 | _+1,n,.str x=>(reprText x).length<=n/\x.length<=1000
 | m+1,n,.tup xs=>∃a,Ths (Th r B m) a xs/\a+4<=n
 | _+1,_,.fl _=>False
 | m+1,n,.ref i=>∃j,i=j+3/\((∃xs a,r[j]?=.(l xs)/\Ths (Th r B m) a xs/\a+4<=n)\/(r[j]?=some (.dK [])\/r[j]?=some (.dK [(.inr "a",.int 1)])/\1<=m)/\40<=n)
section
variable {P P':Nat->D->Prop}{n m:Nat}{xs ys:List D}{d:D}
theorem Ths.imp (f:∀a d,P a d->P' a d):∀{n:Nat}{xs:List D},Ths P n xs->Ths P' n xs
 | _,[],_=>trivial
 | _,x::xs,⟨a,b,h1,h2,h3⟩=>⟨a,b,f a x h1,Ths.imp f h2,h3⟩
theorem Ths.up (h:n<=m) (t:Ths P n xs):Ths P m xs:=by
 cases xs with
 | nil=>trivial
 | cons x xs=>obtain⟨a,b,h1,h2,h3⟩:=t;exact⟨a,b,h1,h2,by omega⟩
theorem Ths.app:∀{n m:Nat}{xs ys:List D},Ths P n xs->Ths P m ys->Ths P (n+m) (xs++ys)
 | n,m,[],ys,_,t=>t.up (by omega)
 | n,m,x::xs,ys,⟨a,b,h1,h2,h3⟩,t=>⟨a,b+m,h1,Ths.app h2 t,by omega⟩
theorem Ths.one (h:P n d):Ths P (n+2) [d]:=⟨n,0,h,trivial,by omega⟩
theorem Ths.sub {xs ys:List D}(s:xs.Sublist ys):∀{n:Nat},Ths P n ys->Ths P n xs:=by
 induction s with
 | slnil=>exact λt=>t
 | cons a s ih=>intro n ⟨a,b,h1,h2,h3⟩;exact(ih h2).up (by omega)
 | cons_cons a s ih=>intro n ⟨a,b,h1,h2,h3⟩;exact⟨a,b,h1,ih h2,h3⟩
theorem Ths.mem:∀{n:Nat}{xs:List D},Ths P n xs->d∈xs->∃a,a+2<=n/\P a d
 | n,[],_,h=>nomatch h
 | n,x::xs,⟨a,b,h1,h2,h3⟩,h=>by
  rcases K1c.mp h with rfl|h
  ·exact⟨a,by omega,h1⟩
  ·obtain⟨c,hc,p⟩:=Ths.mem h2 h;exact⟨c,by omega,p⟩
theorem Ths.len:∀{n:Nat}{xs:List D},Ths P n xs->2 * xs.length<=n
 | n,[],_=>by simp
 | n,x::xs,⟨a,b,h1,h2,h3⟩=>by have:=Ths.len h2;rw[K02];omega
theorem Ths.of {c:Nat}:∀{xs:List D},(∀d∈xs,P c d)->Ths P (xs.length * (c+2)) xs
 | [],_=>trivial
 | x::xs,h=>⟨c,xs.length * (c+2),h x (K0v ..),Ths.of λd hd=>h d (K0c _ hd),by rw[K02,K93];omega⟩
end
theorem Th.mono {r r':AH}{B B':Nat}(k:Kp r r') (hB:B<=B'):∀{m m' n n':Nat}{d:D},m<=m'->n<=n'->Th r B m n d->Th r' B' m' n' d
 | 0,_,_,_,_,_,_,h=>by simp only[Th]at h
 | m+1,0,_,_,_,hm,_,_=>by omega
 | m+1,m'+1,n,n',d,hm,hn,h=>by
  have ih:∀a d,Th r B m a d->Th r' B' m' a d:=λa d=>Th.mono k hB (by omega) (K05 a);cases d with
  | non=>simp only[Th]at h ⊢;omega
  | bl b=>simp only[Th]at h ⊢;omega
  | int i=>simp only[Th]at h ⊢;omega
  | str x=>simp only[Th]at h ⊢;omega
  | fl xs=>simp only[Th]at h
  | tup xs=>simp only[Th]at h ⊢;obtain⟨a,h1,h2⟩:=h;exact⟨a,h1.imp ih,by omega⟩
  | ref i =>
   simp only[Th]at h ⊢;obtain⟨j,e,h⟩:=h;refine⟨j,e,?_⟩;rcases h with ⟨xs,a,h1,h2,h3⟩|⟨h1|⟨h1,h4⟩,h2⟩
   ·exact .inl ⟨xs,a,k _ _ h1,h2.imp ih,by omega⟩
   ·exact .inr ⟨.inl (k _ _ h1),by omega⟩
   ·exact .inr ⟨.inr ⟨k _ _ h1,by omega⟩,by omega⟩
def isOf (T:String):D->Bool
 | .non=>subT "NoneType" T
 | .bl _=>subT "bool" T
 | .int _=>subT "int" T
 | .str _=>subT "str" T
 | .tup _=>subT "tuple" T
 | _=>false
def numB:D->Bool
 | .int _=>true
 | _=>false
def tupB:D->Bool
 | .tup _=>true
 | _=>false
theorem z62 (d:D):(isOf "int" d&&!isOf "bool" d)=numB d:=by cases d<;>simp[isOf,numB,subT]
theorem z5I (d:D):isOf "tuple" d=tupB d:=by cases d<;>simp[isOf,tupB,subT]
section
variable {X:Cx}{EX:XX}{mr:G->M (List D)}
end
section
variable {n i:Nat}{mf:List D->M D}{mr:G->M (List D)}{okf:Str->Bool}{ms mt:G->M Out}{γ:G}{h h1 h2:AH}{xs:List D}{Q:Out->AH->Prop}
end
section
variable {prog:K04}{w:World}{A:Around}{E:Value->Shared->Prop}{s:Shared}
open PySem.W in
theorem zg3 {T:String}{r d:Addr}{n:Nat}{P:Nat->Value->Prop}{OK:Heap->Prop}{R:List Value->Shared->Prop}(K:KdlSrc prog w T r d n P OK) (hh:A.handled=none) (ok:OK s.heap) (hn:n<=sizeLine)
 (z:∀(g:Heap) (tk:Nat) (acc:Array Value),(∀b o,s.heap.get? b=some o->g.get? b=some o)->s.heap.objs.size<=g.objs.size->ItemsOf P acc n->R acc.toList { s with heap:=g,toks:=tk }) :
 wpAny (model prog w) A (collect (.ref r)) R E s:=by
 obtain⟨t1,t2⟩:=K.there _ ok;obtain⟨S,hS⟩:∃S,S=s.heap.objs.size:=⟨_,rfl⟩;unfold collect;refine K1 (wpAny_runValue (K4f entry_proto_collect' ?_));rw[K35 PySem.F.plain_proto_collect _];show wpAny _ A.in1 (newList [] >>= λl=>again (.builtin "list.__iadd__" ⟨[l,.ref r],[]⟩)) _ _ s;refine K1 (K2l (K4 ⟨K7t K5w _,K4f entry_list_iadd' ?_⟩));rw[K35 K5w _];obtain⟨o0,h0⟩:∃o0:Obj,o0={ cls:=.type "list",data:=.seq ([]:List Value).toArray }:=⟨_,rfl⟩;rw[<- h0];have at0:(s.heap.push o0).get? S=some { cls:=.type "list",data:=.seq #[] }:=by rw[hS,h0];exact K0r _ rfl
 rw[<- hS];show wpAny _ A.in1 (Builtin.List.listExtendWith (.ref S) (.ref r) (.ref S)) _ _ _;have old:∀{b:Addr} {o:Obj},s.heap.get? b=some o->b≠S:=λe=>by rw[hS];exact K12 (K08 e)
 have key:=kdl_extend (A:=A) (s:={ s with heap:=s.heap.push o0 })
  (R:=λ(q:Result) (s':Shared)=>∃(g:Heap) (tk:Nat) (acc:Array Value) (c:Nat),q=.ok (.ret (.ref S))/\s'={ s with heap:=g,toks:=tk }/\(∀b o,s.heap.get? b=some o->g.get? b=some o)/\g.get? S=some { cls:=.type "list",dict:=none,data:=.seq acc c,slots:=#[] }/\ItemsOf P acc n)
  K hh (K.keep _ _ ok λb _ o e=>K9 _ e) S (by rw[hS];exact K68 t1) (by rw[hS];exact K68 t2) (.ref S) 0 at0
  (λg tk acc c kp at1 it=>⟨g,tk,acc,c,rfl,rfl,λb o e=>kp b o (old e) (K9 _ e),at1,it⟩) hn
 have fin:∀(q:Result) (s2:Shared) (h:∃(g:Heap) (tk:Nat) (acc:Array Value) (c:Nat),q=.ok (.ret (.ref S))/\s2={ s with heap:=g,toks:=tk }/\(∀b o,s.heap.get? b=some o->g.get? b=some o)/\g.get? S=some { cls:=.type "list",dict:=none,data:=.seq acc c,slots:=#[] }/\ItemsOf P acc n),q=.ok (.ret (.ref S)):=λq s2 ⟨_,_,_,_,e,_⟩=>e;refine K0j key (λf s2 x=>?_) λe s2 x=>?_
 ·cases f with
  | done f =>
   obtain⟨g,tk,acc,c,e,rfl,kp,at1,it⟩:=x;cases e;show wpAny _ A (load S >>= _) _ _ _;refine K1 (K3i at1 (K4 (z g tk acc kp ?_ it)));rw[<- hS];exact K4m (K08 at1)
  | again c₁ =>
   refine⟨x.1,K3x x.2 λq s3 y=>?_⟩;obtain⟨g,tk,acc,c,rfl,rfl,kp,at1,it⟩:=y;show wpAny _ A (load S >>= _) _ _ _;refine K1 (K3i at1 (K4 (z g tk acc kp ?_ it)));rw[<- hS];exact K4m (K08 at1)
 ·obtain⟨_,_,_,_,e',_⟩:=x;cases e'
end
section
variable {X:Cx}{EX:XX}{mr:G->M (List D)}
end
section
variable {X:Cx}{EX:XX}{a:Expr}{elts:List Expr}{kk:Nat}{p pos pt:Pos}{ma:G->M D}
end
mutual
def z0g:D->Bool
 | .int _=>true
 | .str _=>true
 | .bl _=>true
 | .non=>true
 | .tup xs=>z0s xs
 | _=>false
def z0s:List D->Bool
 | []=>true
 | d::r=>z0g d&&z0s r
end
theorem z1D {d:D}:∀{ds:List D},z0s ds=true->d∈ds->z0g d=true
 | [],_,h=>by cases h
 | x::r,p,h=>by
  simp only[z0s,K06]at p;rcases K1c.mp h with rfl|h
  ·exact p.1
  ·exact z1D p.2 h
section
variable {X:Cx}{pins:List (Addr×Obj)}{σ:L2.St}{H:Hp}{s:Shared}{ρ:List Addr}
mutual
theorem RD.one (I:Inv X pins σ H s):∀{z z':D}{v:V},z0g z=true->z0g z'=true->RD X.K ρ H z v->RD X.K ρ H z' v->z=z'
 | .non,z',v,_,p,h,h'=>by
  simp only[RD]at h;subst h;cases z'<;>simp_all [RD,z0g]
 | .bl b,z',v,_,p,h,h'=>by
  simp only[RD]at h;subst h;cases z'<;>simp_all [RD,z0g]
 | .int i,z',v,_,p,h,h'=>by
  simp only[RD]at h;subst h;cases z'<;>simp_all [RD,z0g]
 | .str x,z',v,_,p,h,h'=>by
  simp only[RD]at h;subst h;cases z'<;>simp_all [RD,z0g]
 | .tup ds,z',v,q,p,h,h'=>by
  simp only[RD]at h;obtain⟨a,xs,rfl,h2,h3⟩:=h;cases z' with
  | tup ds' =>
   simp only[RD]at h';obtain⟨a',xs',e,h5,h6⟩:=h';cases e;have e2:=I.tuple_inj h5 h2;subst e2;simp only[z0g]at q p;rw[RDs.one I q p h3 h6]
  | non=>simp[RD]at h'
  | bl b=>simp[RD]at h'
  | int b=>simp[RD]at h'
  | str b=>simp[RD]at h'
  | fl b=>simp[z0g]at p
  | ref b=>simp[z0g]at p
 | .fl ds,z',v,q,p,h,h'=>by simp[z0g]at q
 | .ref ds,z',v,q,p,h,h'=>by simp[z0g]at q
theorem RDs.one (I:Inv X pins σ H s):∀{ds ds':List D}{xs:List V},z0s ds=true->z0s ds'=true->RDs X.K ρ H ds xs->RDs X.K ρ H ds' xs->ds=ds'
 | [],ds',xs,_,_,h,h'=>by
  simp only[RDs]at h;subst h;cases ds' with
  | nil=>rfl
  | cons d r=>simp[RDs]at h'
 | d::r,ds',xs,q,p,h,h'=>by
  simp only[RDs]at h;obtain⟨x,xr,rfl,h2,h3⟩:=h;cases ds' with
  | nil=>simp[RDs]at h'
  | cons d' r' =>
   simp only[RDs]at h';obtain⟨x',xr',e,h5,h6⟩:=h';cases e;simp only[z0s,K06]at q p;rw[RD.one I q.1 p.1 h2 h5,RDs.one I q.2 p.2 h3 h6]
end
theorem z5F {w w':V}{y:Value}(h:L2.RelV w y) (h':L2.RelV w' y):w=w':=by
 cases w<;>cases w'<;>simp only[L2.RelV]at h h'<;>first
  | (subst h;cases h';rfl)
  | (obtain⟨t,rfl⟩:=h;obtain⟨t',e⟩:=h';cases e;rfl)
  | (obtain⟨t,rfl⟩:=h;obtain⟨t',e⟩:=h';cases e;done)
  | (obtain⟨t,rfl⟩:=h;cases h';done)
  | (subst h;obtain⟨t',e⟩:=h';cases e;done)
  | (subst h;cases h';done)
open Classical in
theorem zg2 {h:AH}{d:D}{ds:List D}{x:V}{v:Value}{xs:List V}{its:List Value}{b:Bool}(hu:X.A.units+30<cLine) (I:Inv X pins σ H s) (rh:RH X.K ρ h H) (pd:z0s ds=true) (rx:RD X.K ρ H d x) (wx:RelV x v) (rs:RDs X.K ρ H ds xs) (ws:Vals xs its) (e:inZ h d ds=some b) :
 ∃f:Value->Bool,(∀y∈its,K7v X.A.in1 s y v (f y))/\∀(i:Nat) (y:Value) (z:D),its[i]?=some y->ds[i]?=some z->(f y=true↔eqN 24 h z d=some true):=by
 obtain⟨q1,q2⟩:=z28 e;have ex:∀y∈its,∃a z w,z∈ds/\RD X.K ρ H z w/\RelV w y/\eqN 24 h z d=some a:=λy hy=>by
  obtain⟨j,hj⟩:=K37 hy;have lj:=(K5.mp hj).1;have a1:xs[j]?=some (xs[j]'(by rw[ws.length];exact lj)):=K6 _;obtain⟨y',c1,a2⟩:=ws.get a1;rw[hj]at c1;cases c1;obtain⟨z,b1,b2⟩:=rs.getV a1;have zm:=K1d b1;obtain⟨a,c⟩:=q1 z zm;exact⟨a,z,_,zm,b2,a2,c⟩
 have key:∀y∈its,∀a,(∃z w,z∈ds/\RD X.K ρ H z w/\RelV w y/\eqN 24 h z d=some a)->K7v X.A.in1 s y v a:=λy hy a ⟨z,w,zm,r1,r2,c⟩ =>
  (deq I rh 24 (A:=X.A.in1) (show X.A.units+1+24<cLine by omega) r1 rx r2 wx c).1
 refine⟨λy=>decide (∃z w,z∈ds/\RD X.K ρ H z w/\RelV w y/\eqN 24 h z d=some true),λy hy=>?_,λi y z hy hz=>?_⟩
 ·by_cases c:∃z w,z∈ds/\RD X.K ρ H z w/\RelV w y/\eqN 24 h z d=some true
  ·dsimp only;rw[decide_eq_true c];exact key y hy true c
  ·dsimp only;rw[decide_eq_false c];obtain⟨a,z,w,g⟩:=ex y hy;cases a with
   | false=>exact key y hy false ⟨z,w,g⟩
   | true=>exact absurd ⟨z,w,g⟩ c
 ·obtain⟨w,a1,a2⟩:=rs.get hz;obtain⟨y',b1,b2⟩:=ws.get a1;rw[hy]at b1;cases b1;have zm:=K1d hz;rw[decide_eq_true_eq];constructor
  ·rintro⟨z',w',zm',r1,r2,c⟩;rw[z5F r2 b2]at r1;rw[RD.one I (z1D pd zm) (z1D pd zm') a2 r1];exact c
  ·exact λc=>⟨z,w,zm,a2,b2,c⟩
end
section
variable {X:Cx}{EX:XX}{o a:Expr}{apos cpos:Pos}{mo ma:G->M D}
end
abbrev Bl:=List (Nat×List Nat)
def blk (bl:Bl) (k:Nat):List Nat:=((bl.find? λp=>decide (p.1=k)).map (·.2)).getD []
def keyOf (bl:Bl) (x:Nat):Nat:=((bl.find? λp=>decide (x∈p.2)).map (·.1)).getD 0
structure PB (n:Nat) (bl:Bl):Prop where
 hd:∀p∈bl,p.2.head?=some p.1
 rise:∀p∈bl,p.2.Pairwise (·<·)
 cov:∀x,x<n↔∃p∈bl,x∈p.2
 dis:∀p∈bl,∀q∈bl,∀x,x∈p.2->x∈q.2->p=q
 nd:(bl.map (·.1)).Nodup
theorem z6X {l:List Nat}{k:Nat}(h:l.head?=some k):k∈l:=by
 cases l with
 | nil=>cases h
 | cons a l=>simp at h;simp[h]
section
variable {n:Nat}{bl:Bl}
theorem PB.bmem (b:PB n bl) {p:Nat×List Nat}(h:p∈bl):p.1∈p.2:=z6X (b.hd p h)
theorem PB.uniq (b:PB n bl) {p q:Nat×List Nat}(hp:p∈bl) (hq:q∈bl) (e:p.1=q.1):p=q:=b.dis p hp q hq p.1 (b.bmem hp) (by rw[e];exact b.bmem hq)
theorem PB.blk (b:PB n bl) {p:Nat×List Nat}(h:p∈bl):FT.blk bl p.1=p.2:=by
 unfold FT.blk;cases e:bl.find? λq=>decide (q.1=p.1) with
 | none =>
  rw[K53]at e;exact absurd (by simp) (e p h)
 | some q =>
  have m:=K57 e;have q1:=K99 e;rw[b.uniq m h (by simpa using q1)];rfl
theorem PB.key (b:PB n bl) {p:Nat×List Nat}(h:p∈bl) {x:Nat}(hx:x∈p.2):keyOf bl x=p.1:=by
 unfold keyOf;cases e:bl.find? λq=>decide (x∈q.2) with
 | none =>
  rw[K53]at e;exact absurd (by simpa using hx) (e p h)
 | some q =>
  have m:=K57 e;have q1:=K99 e;rw[b.dis q m p h x (by simpa using q1) hx];rfl
theorem PB.at_ (b:PB n bl) {x:Nat}(hx:x<n):(keyOf bl x,FT.blk bl (keyOf bl x))∈bl/\x∈FT.blk bl (keyOf bl x):=by
 obtain⟨p,hp,hx⟩:=(b.cov x).mp hx;rw[b.key hp hx,b.blk hp];exact⟨hp,hx⟩
theorem PB.lt (b:PB n bl) {p:Nat×List Nat}(h:p∈bl) {x:Nat}(hx:x∈p.2):x<n:=(b.cov x).mpr ⟨p,h,hx⟩
theorem PB.klt (b:PB n bl) {k:Nat}(h:k∈bl.map (·.1)):k<n:=by
 obtain⟨p,hp,rfl⟩:=K2h.mp h;exact b.lt hp (b.bmem hp)
theorem PB.len (b:PB n bl):bl.length<=n:=by
 have:=b.nd.length_le_of_subset (l₂:=K0q n) λk hk=>K1k.mpr (b.klt hk);simpa using this
def yesL (bl:Bl) (k:Nat) (f:Nat->Bool):List Nat:=(FT.blk bl k).filter f
def noL (bl:Bl) (k:Nat) (f:Nat->Bool):List Nat:=(FT.blk bl k).filter λx=>!f x
structure Cut (bl:Bl) (k:Nat) (f:Nat->Bool):Prop where
 hk:k∈bl.map (·.1)
 hy:yesL bl k f≠[]
 hn:noL bl k f≠[]
end
structure Stb (st:List (List Nat)) (mk:List (List Str)) (E:Nat->Nat->Prop):Prop where
 lt:∀x y,E x y->x<st.length/\y<st.length
 sym:∀x y,E x y->E y x
 marks:∀x y,E x y->mkAt mk x=mkAt mk y
 steps:∀x y,E x y->∀o∈nx st x,∃t∈nx st y,E o t
def kvB (bl:Bl):List (Key×D):=bl.map λp=>(.inl (p.1:Int),.tup (stD p.2))
theorem z7H {a b:Nat}:((.inl (a:Int):Key)=.inl (b:Int))↔a=b:=by
 constructor
 ·intro h;injection h with h;omega
 ·rintro rfl;rfl
theorem lkB {bl:Bl}{k:Nat}(h:k∈bl.map (·.1)):lkD (kvB bl) (.inl (k:Int))=.(g ((stD (blk bl k)))):=by
 unfold lkD kvB blk;rw[List.find?_map];have:((λkv:Key×D=>decide (kv.1=.inl (k:Int))) ∘ λp:Nat×List Nat=>((.inl (p.1:Int):Key),D.tup (stD p.2)))=λp=>decide (p.1=k):=by
  funext p;show decide ((.inl (p.1:Int):Key)=.inl (k:Int))=_;rw[decide_eq_decide];exact z7H
 rw[this];cases e:bl.find? λp=>decide (p.1=k) with
 | none =>
  rw[K53]at e;obtain⟨p,hp,q⟩:=K2h.mp h;exact absurd (by simpa using q) (e p hp)
 | some q=>rfl
def Dic (h:AH) (b:Nat) (bl:Bl):Prop:=h[b]?=some (.dK (kvB bl))\/h[b]?=some (.dF (kvB bl))
theorem Dic.app {h:AH}{b:Nat}{bl:Bl}(d:Dic h b bl) (j:AH):Dic (h++j) b bl:=d.imp (λe=>z3s e) λe=>z3s e
theorem Dic.lt {h:AH}{b:Nat}{bl:Bl}(d:Dic h b bl):b<h.length:=by rcases d with d|d<;>exact(K5.mp d).1
theorem Dic.get {h:AH}{b:Nat}{bl:Bl}(d:Dic h b bl) {k:Nat}(hk:k∈bl.map (·.1)):z8V (.ref b) (.int (k:Nat)) h=.ok (.tup (stD (blk bl k))) h:=by
 have g:getK b h=.ok (kvB bl) h:=by rcases d with d|d<;>(unfold getK;rw[d])
 unfold z8V;show (getK b >>= _) h=_;rw[M.bind_ok g];show (match lkD (kvB bl) (.inl (k:Int)) with|some d=>pure d|none=>bad) h=_;rw[lkB hk];rfl
theorem Dic.dk {h:AH}{b:Nat}{bl:Bl}(d:Dic h b bl):z9e b h=.ok (kvB bl) h:=by rcases d with d|d<;>(unfold z9e;rw[d])
theorem Dic.set {h:AH}{b:Nat}{bl:Bl}(d:Dic h b bl):Dic (h.set b (.dF (kvB bl))) b bl:=.inr (K1n d.lt)
section
variable {cap:List (Option Nat)}{mi mi1:G->M Src}{g g1:D->G->M G}{kb:G->M Bool}{me mv:G->M D}{γ:G}
end
structure CanH (n:Nat) (H:List Nat):Prop where
 len:H.length=n
 le:∀x,x<n->rowAt H x<=x
 fix:∀x,x<n->rowAt H (rowAt H x)=rowAt H x
section
variable {st:List (List Nat)}{mk:List (List Str)}{H:List Nat}
end
inductive Sy where
 | yes
 | mark (s:Str)
 | step (k:Nat)
 | neg (k:Nat)
 | con (a b:Nat)
def Sy.d:Sy->D
 | .yes=>.tup [.str "yes"]
 | .mark s=>.tup [.str "mark",.str s]
 | .step k=>.tup [.str "step",.int k]
 | .neg k=>.tup [.str "not",.int k]
 | .con a b=>.tup [.str "and",.int a,.int b]
def Sy.ok (n:Nat):Sy->Prop
 | .yes=>True
 | .mark s=>z8O s
 | .step k=>k<n
 | .neg k=>k<n
 | .con a b=>a<n/\b<n
abbrev Tru:=List (List Bool)
def tv (T:Tru) (i x:Nat):Bool:=(((T[i]?).getD [])[x]?).getD false
def Sy.f (st:List (List Nat)) (mk:List (List Str)) (T:Tru):Sy->Nat->Bool
 | .yes,_=>true
 | .mark s,x=>decide (s∈mkAt mk x)
 | .step k,x=>(nx st x).any (tv T k)
 | .neg k,x=>!tv T k x
 | .con a b,x=>tv T a x&&tv T b x
def Sy.t (st:List (List Nat)) (mk:List (List Str)) (T:Tru) (r:Sy):List Bool:=(K0q st.length).map (r.f st mk T)
def trus (st:List (List Nat)) (mk:List (List Str)) (R:List Sy):Tru:=R.foldl (λT r=>T++[r.t st mk T]) []
section
variable {st:List (List Nat)}{mk:List (List Str)}{R:List Sy}{r:Sy}{T S:Tru}{i x:Nat}{bl:Bl}
structure Sg (st:List (List Nat)) (mk:List (List Str)) (R:List Sy) (num:Nat->Nat) (bl:Bl):Prop where
 ok:∀(i:Nat) (r:Sy),R[i]?=some r->r.ok i
 lt:∀k∈bl.map (·.1),num k<R.length
 tr:∀k∈bl.map (·.1),∀x,x<st.length->tv (trus st mk R) (num k) x=decide (keyOf bl x=k)
end
section
variable {X:Cx}{EX:XX}{o a:Expr}{apos cpos:Pos}{mo ma:G->M D}
end
end FT
namespace L2
section
variable {P:K04}{w:World}{A:Around}{E:Value->Shared->Prop}{s:Shared}
end
section
variable {P:K04}{w:World}{A:Around}{R:Result->Shared->Prop}{I:Addr}{fp wr:List Addr}{G:Array K48->Array K48->Prop}{n:Nat}{PV:Nat->Value->Prop}{St:Nat->Shared->Prop}{KK:Type} [DecidableEq KK] {knd:KeyKind P w KK}
end
section
variable {P:K04}{w:World}{A:Around}{E:Value->Shared->Prop}{s:Shared}{KK:Type} [DecidableEq KK] {knd:KeyKind P w KK}
end
open PySem PySem.Spec PyProof.Rows FT
section
variable {X:Cx}
end
end L2
namespace FT
section
variable {X:Cx}{EX:XX}{a:Expr}{p pos:Pos}{mr:G->M (List D)}
end
abbrev Mx (K:K0) (mg:Str->Option Value) (x:Str):Prop:=∀v,K1e K K17 x=some (some v)->mg x=some v
abbrev Bnd (st:Stmt) (x:Str) (ps:List Str):Prop:=∀(kV doc pm:Value) (an:Option Addr) (cdv ct:Value) (us:List Value),us.length=ps.length->K8j (K1x x x (z0c st) (k7 st) (Z3 st) .none kV doc pm an cdv ct) ⟨us,[]⟩=pure (ps.zip us)
def scB (N P:List Str) (sc:Scope):Bool:=sc.kind==.function&&!sc.isCoroutine&&!sc.isGenerator&&decide N.Nodup&&decide (P.length<=N.length)&&P.all (λx=>sc.names.lookup x==some .local||sc.names.lookup x==some .cell)&&sc.names.all λy=>y.2 != .free
theorem z5P {N:List Str}{n:Nat}{sc:Scope}(h:scB N (N.take n) sc=true):FnScope N (N.take n) sc:=by
 unfold scB at h;simp only[K06,Bool.not_eq_true',decide_eq_true_eq]at h;obtain⟨⟨⟨⟨⟨⟨h1,h2⟩,h3⟩,h4⟩,h5⟩,h6⟩,h7⟩:=h;refine⟨by simpa using h1,h2,h3,h4,by simp,λx hx=>?_,λy hy=>?_⟩
 ·have:=K0t.mp h6 x hx;rw[K4c]at this;rcases this with z|z
  ·exact .inl (by simpa using z)
  ·exact .inr (by simpa using z)
 ·have:=K0t.mp h7 y hy;simpa using this
section
variable {P:K04}{w:World}{K:K0}{mg:Str->Option Value}{base:Heap}{x:Str}{st:Stmt}{k n:Nat}
theorem dfN (N:List Str) (mb:G->M Out) (T:DefAt K x st) (mx:Mx K mg x) (hs:scB N (N.take n) (Z3 st)=true) (hn:(N.take n).length=n) (hb:Bnd st x (N.take n))
 (body:∀{f:Addr} {cdv:Value} {A:Around} {outer:List Env} {s:Shared} {H:Hp} {E:XK},K1y K cdv x=true->Room k (A.deeper (envOfC x (Z3 st) s.heap.objs.size f cdv))->N.Nodup ->
  SB (cxOf CX0 P w K mg base N x (Z3 st) f cdv A outer s H E).nox EX0 (k7 st) mb):Fn P w K mg base (k+1) x n (runF N.length mb):=by
 obtain⟨f,fd,hf,F⟩:=T;exact za6 F (z5P hs) (F.binds hb) (mx _ hf) hn λ_ _ _ _ _ _ hcd hr=>body hcd hr (z5P hs).nd
theorem dfC (N:List Str) (mb:G->M Out) (T:DefAt K x st) (mx:Mx K mg x) (hs:scB N (N.take n) (Z3 st)=true) (hn:(N.take n).length=n) (hb:Bnd st x (N.take n))
 (body:∀{f:Addr} {cdv:Value} {A:Around} {outer:List Env} {s:Shared} {H:Hp} {E:XK},K1y K cdv x=true->Room k (A.deeper (envOfC x (Z3 st) s.heap.objs.size f cdv))->N.Nodup ->
  SB (cxOf CX0 P w K mg base N x (Z3 st) f cdv A outer s H E).nox EX0 (k7 st) mb):Fn P w K mg base (k+1) x n λds=>cln (runF N.length mb ds):=Fn.cln (dfN N mb T mx hs hn hb body)
end
end FT
namespace L2
section
variable {X:Cx}{o:Expr}{f:Str}{pos:Pos}{to:TE}
def zi0 (K:K0) (to:TE) (f:Str):TG:=λv σ H Q=>to σ H λx H1=>∃a C dx fs,x=.ref a/\H1 a=some (.ins C dx fs)/\Cls K C/\NoAttr K C f/\fs.length<1000/\Q σ (upd H1 a (.ins C dx (putF f v fs)))
theorem za4 (ho:PE X o to):PG X (.Attribute o f pos) (zi0 X.K to f):=by
 intro pins s σ H v u Q I r h;rw[assign_Attribute];refine K1 (K1m (thn (ho pins s σ H _ I h) λov s1 ⟨x,H1,I1,rx,a,C,dx,fs,ex,ea,c,n,l,q⟩=>?_));subst ex;obtain rfl:ov=K0e a:=rx;refine K1 (K3e (K1 (K1m (z3W I1 ea c n l r λs2 I2=>?_))));exact wpAny_release ⟨σ,_,I2,q⟩
end
section
variable {X:Cx}{CX:CXT}{k:Nat}{f C:Addr}{fd:K1i}{ps:List Str}{sp:Sp}{E:XK}{x:Str}{p pos:Pos}{e:Expr}{es:List Expr}{t:TA}{EE:Value->Shared->Prop}{Q:VK}{pins:List (Addr×Obj)}{σ:St}{H:Hp}{s:Shared}
end
section
variable {X:Cx}{k:Nat}{f C Ch:Addr}{fd:K1i}{ps:List Str}{sp:Sp}{x cn n:Str}{i:Nat}{p pos pos1 pos2 np hpos:Pos}{e:Expr}{es:List Expr}{t:TA}{bmH:List Value}{b₀:Stmt}{suite:List Stmt}{ts:TS}
end
end L2
namespace FT
structure OwC (K:K0) (c:Str) (C:Addr):Prop where
 ns:K1e K K17 c=some (.(r C))
 cl:Cls K C
section
variable {K:K0}{ρ:List Addr}{H:Hp}
theorem RK.look {f:Str}:∀{fs:List (Str×D)}{vs:List (Str×V)},RK K ρ H fs vs->(∀d,fs.lookup f=some d->∃v,vs.lookup f=some v/\RD K ρ H d v)/\(fs.lookup f=none->vs.lookup f=none)
 | _,_,.nil=>⟨λd e=>(by cases e),λ_=>rfl⟩
 | _,_,.cons (a:=p) (b:=q) a b=>by
  obtain⟨k,d⟩:=p;obtain⟨k',v⟩:=q;obtain⟨a1,a2⟩:=a;simp only at a1 a2;subst a1;rw[K11,K11];cases e:f==k with
  | true=>exact⟨λd' z=>by cases z;exact⟨v,rfl,a2⟩,λz=>by cases z⟩
  | false=>exact RK.look b
def putD (f:Str) (d:D):List (Str×D)->List (Str×D)
 | []=>[(f,d)]
 | (g,x)::r=>if g=f then (g,d)::r else (g,x)::putD f d r
theorem RK.putS {f:Str}{d:D}{v:V}(r:RD K ρ H d v):∀{fs:List (Str×D)}{vs:List (Str×V)},RK K ρ H fs vs->RK K ρ H (putD f d fs) (putF f v vs)
 | _,_,.nil=>.cons ⟨rfl,r⟩ .nil
 | _,_,.cons (a:=p) (b:=q) a b=>by
  obtain⟨k,d'⟩:=p;obtain⟨k',v'⟩:=q;obtain⟨a1,a2⟩:=a;simp only at a1 a2;subst a1;unfold putD putF;by_cases e:k=f
  ·rw[if_pos e,if_pos e];exact .cons ⟨rfl,r⟩ b
  ·rw[if_neg e,if_neg e];exact .cons ⟨rfl,a2⟩ (RK.putS r b)
theorem RK.lenS {κ:Type}:∀{fs:List (κ×D)}{vs:List (κ×V)},RK K ρ H fs vs->fs.length=vs.length
 | _,_,.nil=>rfl
 | _,_,.cons _ b=>by rw[K02,K02,RK.lenS b]
end
def fFld (c f:Str) (d:D):M D:=λh=>match d with
 | .ref n=>(match h[n]? with
  | some (.ins c' fs)=>if c'=c then (match fs.lookup f with
   | some x=>.ok x h
   | none=>.bad) else .bad
  | _=>.bad)
 | _=>.bad
def eFld (c f:Str) (me:G->M D):G->M D:=λγ=>me γ >>= fFld c f
def z6h (c f:Str) (d x:D):M D:=λh=>match x with
 | .ref n=>(match h[n]? with
  | some (.ins c' fs)=>if c'=c/\fs.length<1000 then .ok .non (h.set n (.ins c (putD f d fs))) else .bad
  | _=>.bad)
 | _=>.bad
def gFld (c f:Str) (mo:G->M D):D->G->M G:=λd γ=>do
 let x <- mo γ;let _ <- z6h c f d x
 pure γ
section
variable {X:Cx}{EX:XX}{c f m:Str}{C:Addr}{e o:Expr}{es:List Expr}{pos p:Pos}{me mo:G->M D}{mr:G->M (List D)}
theorem z2q {K:K0}{ρ:List Addr}{h:AH}{H:Hp}{n:Nat}{v:V}{fs:List (Str×D)}(T:OwC K c C) (r:RH K ρ h H) (e:h[n]?=some (.ins c fs)) (rv:RD K ρ H (.ref n) v):∃a dx vs,v=.ref a/\ρ[n]?=some a/\H a=some (.ins C dx vs)/\RK K ρ H fs vs:=by
 simp only[RD]at rv;obtain⟨a,rfl,hq⟩:=rv;obtain⟨a1,n1,C1,dx,vs,k1,o1,d1⟩:=r.at e;rw[hq]at n1;cases n1;rw[T.ns]at k1;cases k1;exact⟨a,dx,vs,rfl,hq,o1,d1⟩
theorem z0G (T:OwC X.K c C) (n:NoAttr X.K C f) (ha:SE X EX e me) (hb:K2e e f X.env (eval e X.env)=eval e X.env:=by rfl):SE X EX (.Attribute e f pos) (eFld c f me) :=
 ⟨PE.imp (za0 ha.h hb) λσ H Q ⟨ρ,γ,h,rel,fin⟩=>⟨ρ,γ,h,rel,(Fin.bind fin).mono λd ρ1 h1 H1 p1 e1 r1 f1 v rv=>by
  unfold fFld at f1;cases d<;>first|exact(show False from f1).elim|skip
  rename_i i;dsimp only at f1;split at f1
  ·rename_i c' fs eh;split at f1
   ·rename_i ec;subst ec;obtain⟨a,dx,vs,rfl,hq,o1,d1⟩:=z2q T r1 eh rv;split at f1
    ·rename_i x ex;obtain⟨y,ey,ry⟩:=d1.look.1 x ex;exact⟨a,C,dx,vs,y,rfl,o1,T.cl,n,ey,f1 ρ1 H1 (Pre.refl _) (Ext.refl _ _) r1 y ry⟩
    ·exact f1.elim
   ·exact f1.elim
  ·exact f1.elim⟩⟩
theorem z6C (T:OwC X.K c C) (n:NoAttr X.K C f) (ho:SE X EX o mo):SG X EX (.Attribute o f pos) (gFld c f mo) :=
 ⟨PG.imp (za4 ho.h) λv σ H Q ⟨ρ,γ,h,d,rel,rd,fin⟩=>⟨ρ,γ,h,rel,(Fin.bind fin).mono λod ρ1 h1 H1 p1 e1 r1 f1 ov ro=>by
  have f3:=Fin.bind f1;unfold z6h at f3;cases od<;>first|exact(show False from f3).elim|skip
  rename_i i;dsimp only at f3;split at f3
  ·rename_i c' fs eh;split at f3
   ·rename_i ec;obtain⟨ec,hl⟩:=ec;subst ec;obtain⟨a,dx,vs,rfl,hq,o1,d1⟩:=z2q T r1 eh ro;refine⟨a,C,dx,vs,rfl,o1,T.cl,n,by rw[<- d1.lenS];exact hl,?_⟩;have rv:=rd.mono p1 e1;have ext:Ext X.K H1 (upd H1 a (.ins C dx (putF f v vs))):=Ext.upd (.inr (r1.tracked hq eh));have r2:RH X.K ρ1 (h1.set i (.ins c' (putD f d fs))) (upd H1 a (.ins C dx (putF f v vs))):=r1.setO eh hq ⟨C,dx,_,T.ns,z03,RK.mono (Pre.refl _) ext (d1.putS rv)⟩;exact f3 ρ1 _ (Pre.refl _) ext r2 ρ1 _ (Pre.refl _) (Ext.refl _ _) r2 σ ((rel.g.mono p1 e1).mono (Pre.refl _) ext)
   ·exact f3.elim
  ·exact f3.elim⟩⟩
end
structure InX (P:K04) (w:World) (K:K0) (mg:Str->Option Value) (base:Heap) (k:Nat) (c:Str) (n:Nat) (mf:List D->M D):Prop where
 ex:∃C f fd ps,mg c=.(r C)/\OwC K c C/\Mk K C f/\FnOk P w K mg base (CXE P w base) k f fd ps (spX K mf (n+1))/\Binds K fd ps []
def newI (c:Str) (mi:List D->M D) (xs:List D):M D:=λh=>match mi (.ref h.length::xs) (h++[.ins c []]) with
 | .ok .non h2=>.ok (.ref h.length) h2
 | .err x h2=>.err x h2
 | _=>.bad
def eNew (c:Str) (n:Nat) (mi:List D->M D) (mr:G->M (List D)):G->M D:=λγ=>do
 let xs <- mr γ
 if xs.length=n then newI c mi xs else bad
section
variable {X:Cx}{EX:XX}{c cn y:Str}{k n i:Nat}{Ch:Addr}{bmH:List Value}{ok:Str->Bool}{ms:G->M Out}{e:Expr}{es:List Expr}{b₀:Stmt}{suite:List Stmt}{pos p pos1 pos2 np hpos:Pos}{mr:G->M (List D)}{mf:List D->M D}
theorem z7K {K:K0}{ρ:List Addr}{h:AH}{H:Hp}{C a dx:Addr}{xs:List D}{vs:List V}(T:OwC K c C) (r:RH K ρ h H) (rvs:RDs K ρ H xs vs) (ha:H a=none) (hd:H dx=none) (ne:dx≠a) :
 let H':=upd (upd H dx (.own a)) a (.ins C dx []);
 Ext K H H'/\RH K (ρ++[a]) (h++[.ins c []]) H'/\RDs K (ρ++[a]) H' (.ref h.length::xs) (.ref a::vs):=by
 intro H';have ha2:(upd H dx (.own a)) a=none:=by rw[y6 (K5f ne)];exact ha
 have x1:Ext K H (upd H dx (.own a)):=Ext.upd (.inl hd);have x2:Ext K (upd H dx (.own a)) H':=Ext.upd (.inl ha2);have r2:RH K (ρ++[a]) (h++[.ins c []]) H':=(r.other hd).pushO ha2 ⟨C,dx,[],T.ns,z03,.nil⟩;refine⟨x1.trans x2,r2,RDs.cons ?_ (rvs.mono (Pre.app _ _) (x1.trans x2))⟩;simp only[RD];exact⟨a,rfl,by rw[<- r.len];simp⟩
theorem z4I (F:InX X.prog X.w X.K X.mg X.base k c n mf) (hr:Room (k+1) X.A) (hg:Gl X c) (ha:SA X EX0 (e::es) mr) (hdb:(c==("__debug__":Str))=false:=by decide)
 (he:K7 (e::es) X.env=(false,eval e X.env)::K7 es X.env:=by rfl) (hpl:(backTo pos (K7 es X.env)).any (·.1)=false:=by rfl):SE X EX0 (.Call (.Name c p) (e::es) [] pos) (eNew c n mf mr):=by
 constructor;obtain⟨C,f,fd,ps,hm,T,M,F1,hb⟩:=F.ex;refine PE.imp (z7M (E:=λ_ _ _=>False) M F1 hr hg hm hb .nil (λ_ _ _ _ _ _ _ ⟨_,_,_,_,_,_,_,_,_,_,_,_,_,_,z⟩=>z.elim) ha.h hdb he hpl) λσ H Q ⟨ρ,γ,h,rel,fin⟩=>⟨ρ,γ,h,rel,(Fin.bind fin).mono λxs ρ1 h1 H1 p1 e1 r1 f1 vs rvs a dx na nd ne=>?_⟩;rw[K1u];by_cases hl:xs.length=n
 ·rw[if_pos hl]at f1;obtain⟨x,r2,rd2⟩:=z7K T r1 rvs na nd ne;refine⟨by rw[K02,<- rvs.length,hl],_,_,_,r2,rd2,?_⟩;unfold newI at f1;cases em:mf (.ref h1.length::xs) (h1++[.ins c []]) with
  | bad=>rw[em]at f1;exact f1.elim
  | err z h2=>rw[em]at f1;exact λρ2 H2 p2 x2 r2' C hn=>f1 ρ2 H2 ((Pre.app _ _).trans p2) (x.trans x2) r2'
  | ok d h2 =>
   rw[em]at f1;cases d<;>first|exact(show False from f1).elim|skip
   refine λρ2 H2 p2 x2 r2' v rv=>⟨by simpa [RD] using rv,?_⟩;refine f1 ρ2 H2 ((Pre.app _ _).trans p2) (x.trans x2) r2' _ ?_;simp only[RD];exact⟨a,rfl,p2 _ _ (by rw[<- r1.len];simp)⟩
 ·rw[if_neg hl]at f1;exact(show False from f1).elim
end
structure Mt (P:K04) (w:World) (K:K0) (mg:Str->Option Value) (base:Heap) (k:Nat) (c m:Str) (n:Nat) (mf:List D->M D):Prop where
 ex:∃C f fd ps,OwC K c C/\Meth K C m f/\FnOk P w K mg base CX0 k f fd ps (spB K mf (n+1))/\Binds K fd ps []
def chkI (c m:Str) (d:D):M Unit:=λh=>match d with
 | .ref i=>(match h[i]? with
  | some (.ins c' fs)=>if c'=c/\fs.lookup m=none then .ok () h else .bad
  | _=>.bad)
 | _=>.bad
def eMt (c m:Str) (n:Nat) (mf:List D->M D) (mo:G->M D) (mr:G->M (List D)):G->M D:=λγ=>do
 let d <- mo γ
 chkI c m d
 let xs <- mr γ
 if xs.length=n then mf (d::xs) else bad
section
variable {X:Cx}{c m:Str}{k n:Nat}{e o:Expr}{es:List Expr}{pos apos:Pos}{mo:G->M D}{mr:G->M (List D)}{mf:List D->M D}
end
def DefM (K:K0) (C:Addr) (m q:Str) (st:Stmt):Prop:=∃f fd,K0m K (.ref C) m=some (.(r f))/\K4j K (.ref f)=true/\Fun K m q st f fd
theorem defM_mk {K:K0}{C:Addr}{m q:Str}{st:Stmt}{f:Addr}{oc:Value}{od an:Option Addr}{sl:Array (Option Value)}{kV dc pm cd ct:Value}(a:K0m K (.ref C) m=some (.(r f))) (i:K4j K (.ref f)=true)
 (l:K.lookup f=some ⟨oc,od,.func (K1x m q (z0c st) (k7 st) (Z3 st) .none kV dc pm an cd ct),sl⟩) (c:K1y K cd q=true) (k:K19 K (.ref f)=true):DefM K C m q st :=
 ⟨f,_,a,i,z6M l c k⟩
theorem ki_mk {K:K0}{c:Str}{C:Addr}(a:K1e K K17 c=some (.(r C))) (pg:K38 K C K9o=true) (hd:K3s K C=true) (po:K5b K C=true) (sa:K0m K (.ref C) "__setattr__" = some (some (.builtin "object.__setattr__"))):OwC K c C:=⟨a,⟨pg,hd,po,sa⟩⟩
abbrev BndM (st:Stmt) (m q:Str) (ps:List Str):Prop:=∀(kV doc pm:Value) (an:Option Addr) (cdv ct:Value) (us:List Value),us.length=ps.length->K8j (K1x m q (z0c st) (k7 st) (Z3 st) .none kV doc pm an cdv ct) ⟨us,[]⟩=pure (ps.zip us)
section
variable {P:K04}{w:World}{K:K0}{mg:Str->Option Value}{base:Heap}{c m q:Str}{C:Addr}{st:Stmt}{k n:Nat}
theorem dfM (N:List Str) (mb:G->M Out) (TI:OwC K c C) (T:DefM K C m q st) (hs:scB N (N.take (n+1)) (Z3 st)=true) (hn:(N.take (n+1)).length=n+1) (hb:BndM st m q (N.take (n+1)))
 (body:∀{f:Addr} {cdv:Value} {A:Around} {outer:List Env} {s:Shared} {H:Hp} {E:XK},K1y K cdv q=true->Room k (A.deeper (envOfC q (Z3 st) s.heap.objs.size f cdv))->N.Nodup ->
  SB (cxOf CX0 P w K mg base N q (Z3 st) f cdv A outer s H E).nox EX0 (k7 st) mb):Mt P w K mg base (k+1) c m n λds=>cln (runF N.length mb ds):=by
 obtain⟨f,fd,hf,hi,F⟩:=T;have S:=z5P hs;refine⟨C,f,fd,N.take (n+1),TI,⟨hf,hi,F.kp⟩,FnOk.imp (sp:=spB K (runF N.length mb) (n+1)) ?_ λvs H Q E ⟨hl,ρ,ds,h,rh,rd,fin⟩=>⟨hl,ρ,ds,h,rh,rd,FE.cln rh fin⟩,F.binds hb⟩;obtain⟨oc,od,kV,doc,pm,an,cdv,ct,osl,rfl,lk,hcd⟩:=F.ex;refine z5H lk hcd S (λvs H Q E h=>h.1.trans hn.symm) λA outer s H vs Q E hr h=>?_;obtain⟨hl,ρ,ds,h,rh,rd,fin⟩:=h;refine⟨_,(body hcd hr S.nd).h.nox,ρ,v3 N.length ds,h,⟨z0I rd,rh⟩,?_⟩;refine(Fin.bind fin).mono λo ρ1 h1 H1 p1 e1 r1 f1=>?_;cases o with
 | nx γ=>exact λσ _=>FE.here (d:=.non) (h:=h1) f1 r1 (by simp[RD])
 | rt d=>exact λv rv=>f1 ρ1 H1 (Pre.refl _) (Ext.refl _ _) r1 v rv
 | bk γ=>exact(show False from f1).elim
 | ct γ=>exact(show False from f1).elim
theorem dfI (N:List Str) (mb:G->M Out) (TI:OwC K c C) (mx:Mx K mg c) (mk:K3h K C=true) (kc:K19 K (.ref C)=true) (T:DefM K C "__init__" q st) (hs:scB N (N.take (n+1)) (Z3 st)=true) (hn:(N.take (n+1)).length=n+1) (hb:BndM st "__init__" q (N.take (n+1)))
 (body:∀{f:Addr} {cdv:Value} {A:Around} {outer:List Env} {s:Shared} {H:Hp} {E:XK},K1y K cdv q=true->Room k (A.deeper (envOfC q (Z3 st) s.heap.objs.size f cdv))->N.Nodup ->
  SB (cxOf (CXE P w base) P w K mg base N q (Z3 st) f cdv A outer s H E) (EXof K E) (k7 st) mb):InX P w K mg base (k+1) c n (runF N.length mb):=by
 obtain⟨f,fd,hf,hi,F⟩:=T;have S:=z5P hs;refine⟨C,f,fd,N.take (n+1),mx _ TI.ns,TI,⟨mk,hf,hi,kc⟩,?_,F.binds hb⟩;obtain⟨oc,od,kV,doc,pm,an,cdv,ct,osl,rfl,lk,hcd⟩:=F.ex;refine z5H lk hcd S (λvs H Q E h=>h.1.trans hn.symm) λA outer s H vs Q E hr h=>?_;obtain⟨hl,ρ,ds,h,rh,rd,fin⟩:=h;refine⟨_,(body hcd hr S.nd).h,ρ,v3 N.length ds,h,⟨z0I rd,rh⟩,?_⟩;refine(Fin.bind fin).mono λo ρ1 h1 H1 p1 e1 r1 f1=>?_;cases o with
 | nx γ=>exact λσ _=>FE.here (d:=.non) (h:=h1) f1 r1 (by simp[RD])
 | rt d=>exact λv rv=>f1 ρ1 H1 (Pre.refl _) (Ext.refl _ _) r1 v rv
 | bk γ=>exact(show False from f1).elim
 | ct γ=>exact(show False from f1).elim
end
def sAug (i:Nat) (f:Int->Int->Int) (me:G->M D):G->M Out:=λγ=>match γ[i]? with
 | some (.(i a))=>do
  let y <- me γ
  match y with
  | .int b=>pure (.nx (γ.set i (.(i (f a b)))))
  | _=>bad
 | _=>bad
theorem zi1 {X:Cx}{EX:XX}{x:Str}{e:Expr}{me:G->M D}{op:K8k}{f:Int->Int->Int}{pos pos':Pos}(i:Nat) (hN:X.N.Nodup) (ho:PIp X op (ipI f)) (ha:SE X EX e me) (hi:X.N[i]?=some x:=by rfl) (hx:Loc X.env.scope x:=by first|exact Or.inl rfl|exact Or.inr rfl)
 (hf:X.fn x=true\/X.env.scope.names.lookup x=some .local:=by first|exact .inl rfl|exact .inr rfl|assumption):S1 X EX (.AugAssign (.Name x pos') op e pos) (sAug i f me) :=
 ⟨PS.imp (z9E hN hi hx ha.h ho hf) λσ H D ⟨ρ,γ,h,rel,fin⟩=>by
  unfold sAug at fin;cases eg:γ[i]? with
  | none=>rw[eg]at fin;exact(show False from fin).elim
  | some o =>
   rw[eg]at fin;cases o<;>first|exact(show False from fin).elim|skip
   rename_i d0;cases d0<;>first|exact(show False from fin).elim|skip
   rename_i a;obtain⟨v,ev,rv⟩:=rel.g.var i _ eg;simp only[RD]at rv;subst rv;refine⟨.int a,ev,ρ,γ,h,rel,(Fin.bind fin).mono λd ρ1 h1 H1 p1 e1 r1 f1 w rw'=>?_⟩;cases d<;>first|exact(show False from f1).elim|skip
   simp only[RD]at rw';subst rw';exact⟨a,_,rfl,rfl,f1 ρ1 H1 (Pre.refl _) (Ext.refl _ _) r1 _ ((rel.g.mono p1 e1).set i (by simp[RD]))⟩⟩
end FT
namespace L2
section
variable {X:Cx}{k:Nat}{f C:Addr}{fd:K1i}{ps:List Str}{sp:Sp}{pins:List (Addr×Obj)}{σ:St}{H:Hp}{s:Shared}{Q:VK}{us:List Value}{vs:List V}{A':Around}{E':Value->Shared->Prop}
theorem z2o (F:FnOk X.prog X.w X.K X.mg X.base CX0 k f fd ps sp) (hr:Room k A') (he:Env0 X.prog X.w X.K X.mg X.base A' X.stack s H) (hb:Binds X.K fd ps []) (I:Inv X pins σ H s) (r:Vals vs us) (h:sp vs H Q E0):wpAny (model X.prog X.w) A' (call (.ref f) us) (EP X pins σ Q) E' s:=by
 have hl:(us++[]).length=ps.length:=by rw[K1u,<- r.length];exact F.len _ _ _ _ h
 refine K7y (K3x (F.run A' X.stack s H ⟨us,[]⟩ us vs Q E0 hr he (by have:=hb s us I.kIn hl;rwa [K1u]at this) r h) λr s' hq=>?_);cases r with
 | error u=>exact K15 hq
 | ok fl =>
  cases fl with
  | ret u=>exact I.after hq
  | next=>exact K15 hq
  | brk=>exact K15 hq
  | cont=>exact K15 hq
theorem z4Y (hm:Meth X.K C "__str__" f) (F:FnOk X.prog X.w X.K X.mg X.base CX0 k f fd ps sp) (hr:Room (k+2) X.A) (hb:Binds X.K fd ps []) :
 CallR X (.type "str") (λxs H Q=>∃a dx fs,xs=[.ref a]/\H a=some (.ins C dx fs)/\sp [.ref a] H (λv H2=>∃z:Str,v=.str z/\Q (.str z) H2) E0):=by
 intro pins s σ H xs us Q I r ⟨a,dx,fs,ex,ea,q⟩;subst ex;obtain⟨u,rfl,ru⟩:=r.one;obtain rfl:u=K0e a:=ru;obtain⟨mA,O,_,_,_,_⟩:=z11 I.hok ea;obtain⟨od,J,_⟩:=O.look;refine PySem.W.kso_call (by have:=hr.un;show X.A.units+1+1<_;omega) I.kIn J hm.at_ hm.fn (K0j (z2o (vs:=[.ref a]) (us:=[.ref a]) F hr.in1.in1 I.env0.in1.in1 hb I (.cons rfl .nil) q) (λr s' hr=>?_) λ_ _ y=>y);obtain⟨v,H2,I2,rv,z,rfl,q2⟩:=hr;obtain⟨t,rfl⟩:=rv;exact⟨.str z,H2,I2,⟨_,rfl⟩,q2⟩
end
end L2
namespace FT
def z4T (c:Str) (d:D):M Unit:=λh=>match d with
 | .ref i=>(match h[i]? with
  | some (.ins c' _)=>if c'=c then .ok () h else .bad
  | _=>.bad)
 | _=>.bad
def z2Q (c:Str) (mf:List D->M D):List D->M D
 | [d]=>do
  z4T c d
  let x <- mf [d]
  match x with
  | .str z=>pure (.str z)
  | _=>bad
 | _=>bad
section
variable {X:Cx}{EX:XX}{c m:Str}{k n:Nat}{e o a:Expr}{p pos apos:Pos}{mo:G->M D}{mr:G->M (List D)}{mf:List D->M D}
theorem z56 {α:Type}{K:K0}{ρ:List Addr}{h:AH}{H:Hp}{C:Addr}{d:D}{v:V}{P:α->List Addr->AH->Hp->Prop}{g:M α}(T:OwC K c C) (r:RH K ρ h H) (rv:RD K ρ H d v) (f:Fin K EX ρ H P ((z4T c d >>= λ_=>g) h)):∃a dx fs,v=.ref a/\H a=some (.ins C dx fs)/\Fin K EX ρ H P (g h):=by
 have f2:=Fin.bind f;unfold z4T at f2;cases d<;>first|exact(show False from f2).elim|skip
 rename_i i;dsimp only at f2;split at f2
 ·rename_i c' fs eh;split at f2
  ·rename_i ec;subst ec;obtain⟨a,dx,vs',rfl,hq,o1,d1⟩:=z2q T r eh rv;exact⟨a,dx,vs',rfl,o1,f2 ρ H (Pre.refl _) (Ext.refl _ _) r⟩
  ·exact f2.elim
 ·exact f2.elim
theorem z8f (F:Mt X.prog X.w X.K X.mg X.base k c "__str__" 0 mf) (hr:Room (k+2) X.A) (hg:Gl X "str") (hm:X.mg "str" = none) (ha:SA X EX0 [a] mr) (he:K7 [a] X.env=[(false,eval a X.env)]:=by rfl):SE X EX0 (.Call (.Name "str" p) [a] [] pos) (Z8 (z2Q c mf) mr):=by
 obtain⟨C,f,fd,ps,T,hmt,F1,hb⟩:=F.ex;refine z1m (z1w (z4Y hmt F1 hr hb) hg hm (by decide +kernel) ha.h (by decide) (by decide) he (by rfl)) λρ h H ds vs Q r rd fin=>?_;unfold z2Q at fin;split at fin
 ·rename_i d;obtain⟨v,rfl,rv⟩:=rds1 rd;obtain⟨a,dx,fs,rfl,o1,f1⟩:=z56 T r rv fin;refine⟨a,dx,fs,rfl,o1,by simp,ρ,[d],h,r,RDs.cons rv RDs.nil,?_⟩;have f2:=Fin.bind f1;cases em:mf [d] h with
  | bad=>rw[em]at f2;exact f2.elim
  | err z h2=>rw[em]at f2;exact λρ2 H2 p2 e2 r2=>f2 ρ2 H2 p2 e2 r2
  | ok x h2 =>
   rw[em]at f2;intro ρ2 H2 p2 e2 r2 v rv2;have f3:=f2 ρ2 H2 p2 e2 r2;cases x<;>first|exact(show False from f3).elim|skip
   rename_i n;simp only[RD]at rv2;subst rv2;exact⟨n,rfl,f3 ρ2 H2 (Pre.refl _) (Ext.refl _ _) r2 _ (by simp[RD])⟩
 ·exact(show False from fin).elim
theorem z9B {pl:Sem Bool}(F:Mt X.prog X.w X.K X.mg X.base k c m 0 mf) (hr:Room k X.A) (ho:SE X EX0 o mo)
 (ht:eval (.Call (.Attribute o m apos) [] [] pos) X.env=(do
  let ov <- eval o X.env
  K5g apos.atName
  let (f,first) <- K4o [ov] (K8v ov m pl)
  callWith pos f first (backTo pos (K7 [] X.env)) (K47 pos (K2u [] X.env))):=by rfl):SE X EX0 (.Call (.Attribute o m apos) [] [] pos) (eMt c m 0 mf mo aNil):=by
 constructor;obtain⟨C,f,fd,ps,T,hm,F1,hb⟩:=F.ex;refine PE.imp (z5Y ho.h T.cl hm F1 hr hb .nil z9b ht) λσ H Q ⟨ρ,γ,h,rel,fin⟩=>⟨ρ,γ,h,rel,(Fin.bind fin).mono λd ρ1 h1 H1 p1 e1 r1 f1 v rv=>?_⟩;have f2:=Fin.bind f1;unfold chkI at f2;cases d<;>first|exact(show False from f2).elim|skip
 rename_i i;dsimp only at f2;split at f2
 ·rename_i c' fs eh;split at f2
  ·rename_i ec;obtain⟨ec,hn⟩:=ec;subst ec;obtain⟨a,dx,vs',rfl,hq,o1,d1⟩:=z2q T r1 eh rv;have f3:=f2 ρ1 H1 (Pre.refl _) (Ext.refl _ _) r1;exact⟨a,dx,vs',rfl,o1,d1.look.2 hn,by simp,ρ1,_,h1,r1,RDs.cons rv RDs.nil,f3⟩
  ·exact f2.elim
 ·exact f2.elim
end
end FT
namespace L2
section
variable {X:Cx}{e:Expr}{te:TE}{x z:Str}{k1 k3:_}{p1 p2 p3 pos:Pos}
def tFst (x z:Str) (te:TE):TE:=λσ H Q=>te σ H λv H1=>∃y:Str,v=.str y/\x.length+y.length+z.length<=sizeLine/\Q (.str (x++y++z)) H1
theorem z7l (hx:x.length<=sizeLine) (he:PE X e te):PE X (.JoinedStr [.Constant (.str x) k1 p1,.FormattedValue e (-1) none p2,.Constant (.str z) k3 p3] pos) (tFst x z te):=by
 intro pins s σ H Q I h;refine JoinedStr_many (K7b (K51 ?_));dsimp only;rw[Str.empty_append];refine⟨hx,K7b (FormattedValue_plain (thn (he pins _ σ H _ (I.tok _) h) λu s1 ⟨v,H1,I1,rv,y,ev,hl,q⟩=>?_))⟩;subst ev;obtain⟨t,rfl⟩:=rv;refine formatField_str (λt' tk=>?_) (by omega);dsimp only;refine⟨by rw[K25];omega,K7b (K51 ?_)⟩;dsimp only;have lz:(x++y++z).length<=sizeLine:=by rw[K25,K25];omega
 exact⟨lz,joinParts_nil ⟨.str (x++y++z),H1,((I1.tok _).tok _).tok _,⟨_,rfl⟩,q⟩ lz⟩
end
end L2
namespace FT
def eFst (x z:Str) (me:G->M D):G->M D:=λγ=>do
 let d <- me γ
 match d with
 | .str y=>if x.length+y.length+z.length<=sizeLine then pure (.str (x++y++z)) else bad
 | _=>bad
theorem zb2 {X:Cx}{EX:XX}{e:Expr}{me:G->M D}{x z:Str}{k1 k3:_}{p1 p2 p3 pos:Pos}(hx:x.length<=sizeLine) (he:SE X EX e me):SE X EX (.JoinedStr [.Constant (.str x) k1 p1,.FormattedValue e (-1) none p2,.Constant (.str z) k3 p3] pos) (eFst x z me) :=
 ⟨PE.imp (z7l hx he.h) λσ H Q ⟨ρ,γ,h,rel,fin⟩=>⟨ρ,γ,h,rel,(Fin.bind fin).mono λd ρ1 h1 H1 p1 e1 r1 f1 v rv=>by
  cases d<;>first|exact(show False from f1).elim|skip
  rename_i y;simp only[RD]at rv;subst rv;dsimp only at f1;split at f1
  ·rename_i hl;exact⟨y,rfl,hl,f1 ρ1 H1 (Pre.refl _) (Ext.refl _ _) r1 _ (by simp[RD])⟩
  ·exact(show False from f1).elim⟩⟩
end FT
namespace L2
open PySem PySem.Spec PyProof.Rows PySem.W
section
variable {prog:K04}{w:World}{A:Around}{E:Value->Shared->Prop}{s:Shared}{K:Frag}{C x f:Addr}{ox:Obj}{od:Option Obj}{u:Value}{Q:Value->Shared->Prop}
structure Bes (K:Frag) (C:Addr) (s:Shared) (u:Value):Prop where
 nb:∀p,u≠.builtin p
 ty:∃t,(∀M,Looks M s.heap (typeOf u) t)/\(t=.ref C\/(t≠.ref C/\subIn K t (.ref C)=some false))
theorem z6u {op:CmpOp}:oneThing? op (.ref x) u=none:=by cases u<;>rfl
theorem z6A (X:K.In s.heap) (I:InstAt s.heap x ox C od) (b:Bes K C s u) (hs:findIn K (.ref C) "__eq__" = some (.(r f))) (hf:isFn K (.ref f)=true) (hu:A.units<cLine)
 (h:wpAny (model prog w) A (call (.ref f) [.ref x,u]) (λv s'=>∃r,v=.bool r/\Q (.bool r) s') E s):wpAny (model prog w) A (K36 .Eq (.ref x) u) Q E s:=by
 obtain⟨t,ty,ht⟩:=b.ty;unfold K36;simp only[z6u];refine K1m ?_;refine K1 (K54 hu ?_);rw[cmpInfo_Eq];dsimp only;refine K1 (I.type.here ?_);refine K1 ((ty _).here ?_);have fin:wpAny (model prog w) A (K52 (.ref x) "__eq__" u) (λr s'=>∃b,r=some (.bool b)/\Q (.bool b) s') E s:=by
  unfold K52;refine K1 (ifBound_K X I hs hf (K0j h (λv s' hv=>?_) λ_ _ e=>e));obtain⟨b,rfl,hq⟩:=hv;exact K4 ⟨b,rfl,hq⟩
 rcases ht with rfl|⟨ne,sb⟩
 ·rw[show (K0e C != K0e C)=false from by simp];simp only[K0x,if_false];refine K1 (K4 ?_);simp only[K0x,if_false];refine K1 (K0j fin (λr s' hr=>?_) λ_ _ e=>e);obtain⟨b,rfl,hq⟩:=hr;exact K4 hq
 ·rw[show (K0e C != t)=true from by simp;exact λz=>ne z.symm];simp only[if_true];refine K1 ((looks_subIn X sb).here ?_);simp only[K0x,if_false];refine K1 (K0j fin (λr s' hr=>?_) λ_ _ e=>e);obtain⟨b,rfl,hq⟩:=hr;exact K4 hq
theorem z8k (a:Value):bindSpecial (.builtin "object.__ne__") a=pure (.builtin "object.__ne__",[a]):=by kernel_rfl
theorem z6e:entryFor table "object.__ne__" = some Builtin.«object.__ne__»:=entryFor_of_tree (by kernel_rfl)
theorem z5s:plainId "object.__ne__" = true:=by decide +kernel
theorem z8p:builtinKind "object.__ne__" = some .slot:=by decide +kernel
theorem z68:splitId "object.__ne__" = some ("object","__ne__"):=by decide +kernel
theorem z88 (a b:Value):argsOk "object.__ne__" ⟨[a,b],[]⟩:=by unfold argsOk;kernel_rfl
theorem z5L {M:Model}{name:Str}{id:String}{args:List Value}{Q:Option Value->Shared->Prop}(X:K.In s.heap) (I:InstAt s.heap x ox C od) (hs:findIn K (.ref C) name=some (some (.builtin id))) (hb:bindSpecial (.builtin id) (.ref x)=pure (.builtin id,[.ref x]))
 (h:wpAny M A (call (.builtin id) (.ref x::args)) (λv=>Q (some v)) E s):wpAny M A (K4i (.ref x) name args) Q E s:=by
 simp only[K4i,bindSpecialIfBound?];refine K1m (K1 (K1 (K1 (I.type.here ((looks_findIn X hs).here ?_)))));refine K1 (wpAny_askSetting (wpAny_ite ?_));have fin:wpAny M A (call (.builtin id) ([.ref x]++args) >>= λv=>pure (some v)) Q E s:=K1 (K0j h (λv s' h'=>K4 h') λ_ _ h'=>h');split
 ·exact K1 ((Looks.of_pure hb).here (K4 (by exact fin)))
 ·exact wpAny_tryCatch (K1 ((Looks.of_pure hb).here (K4 (by exact fin))))
theorem z4Z (X:K.In s.heap) (I:InstAt s.heap x ox C od) (b:Bes K C s u) (hs:findIn K (.ref C) "__eq__" = some (.(r f))) (hf:isFn K (.ref f)=true) (hn:findIn K (.ref C) "__ne__" = some (some (.builtin "object.__ne__")))
 (hm:mroIn K C (.type "object")=some true) (hu:A.units+2<cLine)
 (h:wpAny (model prog w) A.in1 (call (.ref f) [.ref x,u]) (λv s'=>∃r,v=.bool r/\Q (.bool (!r)) s') E s):wpAny (model prog w) A (K36 .NotEq (.ref x) u) Q E s:=by
 obtain⟨t,ty,ht⟩:=b.ty;unfold K36;simp only[z6u];refine K1m ?_;refine K1 (K54 (by omega) ?_);rw[cmpInfo_NotEq];dsimp only;refine K1 (I.type.here ?_);refine K1 ((ty _).here ?_);have top:Looks (model prog w) s.heap (K80 (.ref x) (.type "object")) true:=I.type.andThen (looks_mroIn X hm);have fin:wpAny (model prog w) A (K52 (.ref x) "__ne__" u) (λr s'=>∃b,r=some (.bool b)/\Q (.bool b) s') E s:=by
  unfold K52;refine K1 (z5L X I hn (z8k _) (K7y (codeAny_call_builtin z5s z6e (@check_slot (model prog w) _ _ _ "object.__ne__" "object" "__ne__" (.ref x) [u] [] _ z8p z68 top (z88 (.ref x) u) ?_))));unfold Builtin.«object.__ne__»
  repeat (first
   | with_reducible refine K54 (show A.in1.units<cLine by show A.units+1<_;omega) ?_
   | (refine K1 (m:=K4i (.ref x) (K4l "__eq__") [u]) (ifBound_K X I hs hf (K0j h (λr s' hr=>by
       obtain⟨b,rfl,hq⟩:=hr
       repeat (first|exact⟨_,rfl,hq⟩|exact K4 ⟨_,rfl,hq⟩|exact K4 (K4 ⟨_,rfl,hq⟩)|exact⟨_,rfl,K4 ⟨_,rfl,hq⟩⟩|(refine K1 (m:=truthy (.bool _)) (K1r ?_))|wp_step)) λ_ _ e=>e)))
   | wp_step)
 rcases ht with rfl|⟨ne,sb⟩
 ·rw[show (K0e C != K0e C)=false from by simp];simp only[K0x,if_false];refine K1 (K4 ?_);simp only[K0x,if_false];refine K1 (K0j fin (λr s' hr=>?_) λ_ _ e=>e);obtain⟨b,rfl,hq⟩:=hr;exact K4 hq
 ·rw[show (K0e C != t)=true from by simp;exact λz=>ne z.symm];simp only[if_true];refine K1 ((looks_subIn X sb).here ?_);simp only[K0x,if_false];refine K1 (K0j fin (λr s' hr=>?_) λ_ _ e=>e);obtain⟨b,rfl,hq⟩:=hr;exact K4 hq
open SeqAt
open MeetsSeq
theorem z5y {T id:String}(X:K.In s.heap) (I:InstAt s.heap x ox C od) (hT:s.TypeIs u T) (sl:Slot T (cmpInfo .Eq).2.1 id) (hc:∀Q':Value->Shared->Prop,Q' .notImplemented s->wpAny (model prog w) A (call (.builtin id) [u,.ref x]) Q' E s)
 (hm:mroIn K C (.type T)=some false) (hs:findIn K (.ref C) "__eq__" = some (.(r f))) (hf:isFn K (.ref f)=true) (hu:A.units<cLine)
 (h:wpAny (model prog w) A (call (.ref f) [.ref x,u]) (λv s'=>∃r,v=.bool r/\Q (.bool r) s') E s):wpAny (model prog w) A (K36 .Eq u (.ref x)) Q E s:=by
 unfold K36;simp only[hT.oneThing_none];refine K1m ?_;refine K1 (K54 hu ?_);rw[cmpInfo_Eq];dsimp only;refine K1 (K3w hT ?_);refine K1 (I.type.here ?_);rw[show (K63 T != K0e C)=true from by simp];simp only[if_true];refine K1 ((looks_mroIn X hm).here ?_);simp only[K0x,if_false];refine K1 (wpAny_tryCompare_declines hT sl (hc _ ⟨rfl,?_⟩));simp only[K9k,if_true];have fin:wpAny (model prog w) A (K52 (.ref x) "__eq__" u) (λr s'=>∃b,r=some (.bool b)/\Q (.bool b) s') E s:=by
  unfold K52;refine K1 (ifBound_K X I hs hf (K0j h (λv s' hv=>?_) λ_ _ e=>e));obtain⟨b,rfl,hq⟩:=hv;exact K4 ⟨b,rfl,hq⟩
 refine K1 (K0j fin (λr s' hr=>?_) λ_ _ e=>e);obtain⟨b,rfl,hq⟩:=hr;exact K4 hq
end
open SeqAt
open MeetsSeq
section
variable {prog:K04}{w:World}{A:Around}{E:Value->Shared->Prop}{s:Shared}{K:Frag}{C x f:Addr}{ox:Obj}{od:Option Obj}{u:Value}{Q:Value->Shared->Prop}
theorem z7E (b:Int) (u:Tok) (l:Addr) (C dx:Addr) :
 Meets (Builtin.«int.__eq__» ⟨[.int b u,.ref l],[]⟩) (λ_ R s=>s.heap.get? l=some (instObj C dx)/\R (.ok (.ret .notImplemented)) s) :=
 .of_wp λprog w A R s h=>by obtain⟨hp,g,d,tk,os⟩:=s;obtain⟨hl,h⟩:=h;wp_walk using K13 hl,K3i hl;exact⟨_,rfl,h⟩
theorem z5X (b:Bool) (l:Addr) (C dx:Addr) :
 Meets (Builtin.«int.__eq__» ⟨[.bool b,.ref l],[]⟩) (λ_ R s=>s.heap.get? l=some (instObj C dx)/\R (.ok (.ret .notImplemented)) s) :=
 .of_wp λprog w A R s h=>by obtain⟨hp,g,d,tk,os⟩:=s;obtain⟨hl,h⟩:=h;wp_walk using K13 hl,K3i hl;exact⟨_,rfl,h⟩
theorem z6W (b:Str) (u:Tok) (l:Addr) (C dx:Addr) :
 Meets (Builtin.«str.__eq__» ⟨[.str b u,.ref l],[]⟩) (λ_ R s=>s.heap.get? l=some (instObj C dx)/\R (.ok (.ret .notImplemented)) s) :=
 .of_wp λprog w A R s h=>by obtain⟨hp,g,d,tk,os⟩:=s;obtain⟨hl,h⟩:=h;wp_walk using K13 hl,K3i hl;exact⟨_,rfl,h⟩
theorem z66 (l x C dx:Addr) (items:Array Value) (n:Nat) (dd:Option Addr) (sl:Array (Option Value)) (K:Frag) :
 Meets (Builtin.«list.__eq__» ⟨[.ref l,.ref x],[]⟩) (λ_ R s=>(s.heap.get? l=some { cls:=.type "list",dict:=dd,data:=.seq items n,slots:=sl }/\s.heap.get? x=some (instObj C dx)/\(∀M,Looks M s.heap (K80 (.ref x) (.type "list")) false))/\R (.ok (.ret .notImplemented)) s) :=
 .of_wp λprog w A R s h=>by
  obtain⟨hp,g,d,tk,os⟩:=s;obtain⟨⟨hl,hx,hi⟩,h⟩:=h
  wp_walk using K13 hl,K3i hl,(hi _).at
  exact⟨_,rfl,h⟩
theorem z59 (l x C dx:Addr) (items:Array Value) (n:Nat) (dd:Option Addr) (sl:Array (Option Value)) (K:Frag) :
 Meets (Builtin.«tuple.__eq__» ⟨[.ref l,.ref x],[]⟩) (λ_ R s=>(s.heap.get? l=some { cls:=.type "tuple",dict:=dd,data:=.seq items n,slots:=sl }/\s.heap.get? x=some (instObj C dx)/\(∀M,Looks M s.heap (K80 (.ref x) (.type "tuple")) false))/\R (.ok (.ret .notImplemented)) s) :=
 .of_wp λprog w A R s h=>by
  obtain⟨hp,g,d,tk,os⟩:=s;obtain⟨⟨hl,hx,hi⟩,h⟩:=h
  wp_walk using K13 hl,K3i hl,(hi _).at
  exact⟨_,rfl,h⟩
end
open PySem PySem.Spec PyProof.Rows PySem.W
open SeqAt
open MeetsSeq
open Builtin
section
variable {prog:K04}{w:World}{A:Around}{E:Value->Shared->Prop}{s:Shared}{Q:Value->Shared->Prop}
theorem zj1 (l:Addr) (items:Array Value) (x:Value) (n:Nat) (dd:Option Addr) (sl:Array (Option Value)) (i:Nat) (hi:items[i]?=none):Meets (Builtin.«list.__contains__.loop» ⟨[.ref l,x,rawInt i],[]⟩)
 (λA R s=>s.heap.get? l=some { cls:=.type "list",dict:=dd,data:=.seq items n,slots:=sl }/\R (.ok (.ret (.bool false))) s):=by
 intro prog w A R s h;obtain⟨hp,g,d,tk,os⟩:=s;obtain⟨hl,h⟩:=h
 wp_walk using K13 hl
 have hi:items[((i:Nat):Int).toNat]?=none:=by simpa using hi
 rw[hi]
 wp_walk
 exact h
theorem zh4 (l:Addr) (items:Array Value) (y x:Value) (n:Nat) (dd:Option Addr) (sl:Array (Option Value)) (i:Nat) (hi:items[i]?=some y) (hn:items[i+1]?=none):MeetsIn prog w (Builtin.«list.__contains__.loop» ⟨[.ref l,x,rawInt i],[]⟩)
 (λA R s=>s.heap.get? l=some { cls:=.type "list",dict:=dd,data:=.seq items n,slots:=sl }/\wpAny (model prog w) A.in1 (eqBool y x) (λb s'=>s'.heap.IsList l items/\R (.ok (.ret (.bool b))) s') (λe s'=>R (.error e) s') s):=by
 intro A R s h;obtain⟨hp,g,d,tk,os⟩:=s;obtain⟨hl,h⟩:=h
 wp_walk using K13 hl
 have hi:items[((i:Nat):Int).toNat]?=some y:=by simpa using hi
 rw[hi];refine K1 (K0j h (λb s' hb=>?_) λ_ _ e=>e);obtain⟨hl',hb⟩:=hb;obtain⟨⟨cls',dd',data',sl'⟩,ho',hc',n',hd'⟩:=hl';simp only at hc' hd';subst hc' hd';obtain⟨hp',g',d',tk',os'⟩:=s';cases b with
 | true =>
  wp_walk
  exact hb
 | false =>
  have hc:((i:Int)+1)=((i+1:Nat):Int):=by push_cast;rfl
  wp_walk
  rw[hc];exact⟨K7t plain_contains_loop _,K4f entry_contains_loop (by
   rw[K35 plain_contains_loop _];exact zj1 l items x n' dd' sl' (i+1) hn prog w A R _ ⟨ho',hb⟩)⟩
theorem zl7 (l:Addr) (items:Array Value) (y x:Value) (n:Nat) (dd:Option Addr) (sl:Array (Option Value)) (hi:items[0]?=some y) (hn:items[1]?=none):MeetsIn prog w (Builtin.«list.__contains__» ⟨[.ref l,x],[]⟩)
 (λA R s=>s.heap.get? l=some { cls:=.type "list",dict:=dd,data:=.seq items n,slots:=sl }/\wpAny (model prog w) A.in1 (eqBool y x) (λb s'=>s'.heap.IsList l items/\R (.ok (.ret (.bool b))) s') (λe s'=>R (.error e) s') s):=by
 intro A R s h;obtain⟨hp,g,d,tk,os⟩:=s;obtain⟨hl,h⟩:=h
 wp_walk using K13 hl
 exact⟨K7t plain_contains_loop _,K4f entry_contains_loop (by
  rw[K35 plain_contains_loop _];exact zh4 l items y x n dd sl 0 hi hn A R _ ⟨hl,h⟩)⟩
theorem za7 {l:Addr}{y x:Value}(hl:s.heap.IsList l #[y]) (h:wpAny (model prog w) A.in1 (eqBool y x) (λb s'=>s'.heap.IsList l #[y]/\Q (.bool b) s') E s):wpAny (model prog w) A (K1s .In x (.ref l)) Q E s:=by
 obtain⟨⟨cls,dd,data,sl⟩,ho,hc,n,hd⟩:=id hl;simp only at hc hd;subst hc hd;show wpAny _ A (do return .bool (<- contains (.ref l) x)) Q E s;refine K1 (wpAny_contains_slot ⟨_,ho,rfl⟩ K7d (K0j (Q:=λv s'=>∃b,v=.bool b/\Q (.bool b) s') (call_meetsIn K7d ⟨_,ho,rfl⟩ F.entry_list_contains (F.args_list_contains_2 _ _) (zl7 l #[y] y x n dd sl rfl rfl) ⟨ho,K0j h (λb s' hb=>⟨hb.1,b,rfl,hb.2⟩) λ_ _ e=>e⟩) (λv s' hv=>?_) λ_ _ e=>e));obtain⟨b,rfl,hq⟩:=hv;exact K1r (K4 hq)
theorem z9W {K:Frag}{C x y f:Addr}{oy:Obj}{od:Option Obj}{R:Bool->Shared->Prop}(X:K.In s.heap) (I:InstAt s.heap y oy C od) (b:Bes K C s (.ref x)) (hs:findIn K (.ref C) "__eq__" = some (.(r f))) (hf:isFn K (.ref f)=true) (hu:A.units<cLine)
 (h0:y=x->R true s)
 (h:y≠x->wpAny (model prog w) A (call (.ref f) [.ref y,.ref x]) (λv s'=>∃r,v=.bool r/\R r s') E s):wpAny (model prog w) A (eqBool (.ref y) (.ref x)) R E s:=by
 unfold eqBool;refine K1m ?_;refine wpAny_ite_split (λhab=>?_) (λhab=>?_)
 ·have e:y=x:=by have:=eq_of_beq hab;injection this
  exact K1 (K6b (K4 (h0 e)))
 ·have ne:y≠x:=λe=>hab (by subst e;exact beq_self_eq_true _);refine K1 (z6A X I b hs hf hu (K0j (h ne) (λv s' hv=>?_) λ_ _ e=>e));obtain⟨r,rfl,hr⟩:=hv;exact⟨r,rfl,K1r hr⟩
end
end L2
namespace FT
def sixT:List String:=["NoneType","bool","int","str","tuple","list"]
structure CmpC (K:K0) (C:Addr):Prop where
 ne:K0m K (.ref C) "__ne__" = some (some (.builtin "object.__ne__"))
 top:K7n K C (.type "object")=some true
 mro:∀T∈sixT,K7n K C (.type T)=some false
 sub:∀T∈sixT,PySem.W.subIn K (.type T) (.ref C)=some false
 kit:∀T∈sixT,K2r K (.type T) (.ref C)=some false
 me:K2r K (.ref C) (.ref C)=some true
 cl:K0m K (.ref C) "__class__" = some (some (.builtin "object.__class__"))
 gt:K5a K (.builtin "object.__class__") "__get__" = some (some (.builtin "getset_descriptor.__get__"))
 tk:K96 K (.builtin "object.__class__")=some true
def InsV (H:Hp) (C:Addr) (v:V):Prop:=∃a dx fs,v=.ref a/\H a=some (.ins C dx fs)
def SixV (K:K0) (H:Hp) (v:V):Prop:=∃T∈sixT,TyV K H v T
section
variable {X:Cx}{k:Nat}{f C:Addr}{fd:K1i}{ps:List Str}{sp:Sp}{pins:List (Addr×Obj)}{σ:L2.St}{H:Hp}{s:Shared}{Q:VK}{v:V}{u:Value}
theorem z3S (I:Inv X pins σ H s) {a dx:Addr}{fs:List (Str×V)}(e:H a=some (.ins C dx fs)):∃od,K9h s.heap a (K21 C dx) C od:=by
 obtain⟨mA,O,_,_,_,_⟩:=z11 I.hok e;obtain⟨od,J,_⟩:=O.look;exact⟨od,J⟩
theorem z6s (I:Inv X pins σ H s) (rv:RelV v u) {T:String}(ty:TyV X.K H v T) (hd:T≠"dict"):s.TypeIs u T/\(∀p,u≠.builtin p)/\∀M,K9m M s.heap (typeOf u) (.type T):=by
 cases v with
 | non=>cases (show u=K4s from rv);cases (show T = "NoneType" from ty);exact⟨rfl,λp=>nofun,λM=>K31 rfl⟩
 | bl y=>cases (show u=K2n y from rv);cases (show T = "bool" from ty);exact⟨rfl,λp=>nofun,λM=>K31 rfl⟩
 | int y=>obtain⟨t,q⟩:=(show ∃t,u=K5q y t from rv);cases q;cases (show T = "int" from ty);exact⟨K42 _ _ _,λp=>nofun,λM=>K31 rfl⟩
 | str y=>obtain⟨t,q⟩:=(show ∃t,u=K5p y t from rv);cases q;cases (show T = "str" from ty);exact⟨K7z _ _ _,λp=>nofun,λM=>K31 rfl⟩
 | ref y =>
  cases (show u=K0e y from rv);rcases(show (T = "tuple"/\∃xs,SqT X.K H y xs)\/(T = "list"/\∃xs,SqL X.K H y xs)\/(T = "dict"/\_) from ty) with ⟨rfl,xs,hs⟩|⟨rfl,xs,hs⟩|⟨rfl,_⟩
  ·obtain⟨its,_,ht,_⟩:=I.tuple hs;obtain⟨o,h1,h2,_⟩:=ht;exact⟨⟨o,h1,h2⟩,λp=>nofun,λM=>h2 ▸ (K8p h1).andThen .now⟩
  ·obtain⟨its,_,ht,_⟩:=I.list hs;obtain⟨o,n,h1,h2,_⟩:=ht;exact⟨⟨o,h1,h2⟩,λp=>nofun,λM=>h2 ▸ (K8p h1).andThen .now⟩
  ·exact absurd rfl hd
 | byt y=>exact(show False from ty).elim
 | flt y=>exact(show False from ty).elim
 | ty y=>exact(show False from ty).elim
theorem z3l {T:String}(h:T∈sixT):T≠"dict":=by
 rintro rfl;revert h;decide
theorem z4K (D:CmpC X.K C) (I:Inv X pins σ H s) (rv:RelV v u) (b:InsV H C v\/SixV X.K H v):Bes X.K C s u:=by
 rcases b with ⟨a,dx,fs,rfl,e⟩|⟨T,hT,ty⟩
 ·cases (show u=K0e a from rv);obtain⟨od,J⟩:=z3S I e;exact⟨λp=>nofun,_,λM=>J.type,.inl rfl⟩
 ·obtain⟨_,nb,lk⟩:=z6s I rv ty (z3l hT);exact⟨nb,_,lk,.inr ⟨nofun,D.sub T hT⟩⟩
theorem ze7 (D:CmpC X.K C) (I:Inv X pins σ H s) (rv:RelV v u) {T:String}(hT:T∈sixT) (ty:TyV X.K H v T) {a dx:Addr}{fs:List (Str×V)}(e:H a=some (.ins C dx fs)) :
 ∃id,Slot T (cmpInfo .Eq).2.1 id/\∀(E:Value->Shared->Prop) (Q':Value->Shared->Prop),Q' .notImplemented s->wpAny (model X.prog X.w) X.A (call (.builtin id) [u,.ref a]) Q' E s:=by
 obtain⟨od,J⟩:=z3S I e;have ho:=J.at_;have lk:∀T∈sixT,∀M,K9m M s.heap (K80 (.ref a) (.type T)) false:=λT hT M=>J.type.andThen (PySem.W.looks_mroIn I.kIn (D.mro T hT));cases v with
 | non=>cases (show u=K4s from rv);cases (show T = "NoneType" from ty);exact⟨_,K89,λE Q' hq=>call_gives K89 rfl F.entry_NoneType_eq (F.args_NoneType_eq_2 _ _) (SeqAt.NoneType___eq___none_ref_0 a) hq⟩
 | bl y=>cases (show u=K2n y from rv);cases (show T = "bool" from ty);exact⟨_,F.slot_bool_eq,λE Q' hq=>K28 F.slot_bool_eq rfl F.entry_int_eq (F.args_int_eq_2 _ _) (z5X y a C dx) ⟨ho,hq⟩⟩
 | int y=>obtain⟨t,q⟩:=(show ∃t,u=K5q y t from rv);cases q;cases (show T = "int" from ty);exact⟨_,F.slot_int_eq,λE Q' hq=>K28 F.slot_int_eq (K42 _ _ _) F.entry_int_eq (F.args_int_eq_2 _ _) (z7E y t a C dx) ⟨ho,hq⟩⟩
 | str y=>obtain⟨t,q⟩:=(show ∃t,u=K5p y t from rv);cases q;cases (show T = "str" from ty);exact⟨_,F.slot_str_eq,λE Q' hq=>K28 F.slot_str_eq (K7z _ _ _) F.entry_str_eq (F.args_str_eq_2 _ _) (z6W y t a C dx) ⟨ho,hq⟩⟩
 | ref y =>
  cases (show u=K0e y from rv);rcases(show (T = "tuple"/\∃xs,SqT X.K H y xs)\/(T = "list"/\∃xs,SqL X.K H y xs)\/(T = "dict"/\_) from ty) with ⟨rfl,xs,hs⟩|⟨rfl,xs,hs⟩|⟨rfl,_⟩
  ·obtain⟨its,_,ht,_⟩:=I.tuple hs;obtain⟨⟨cls,dd,data,sl⟩,h1,h2,n,h3⟩:=ht;simp only at h2 h3;subst h2 h3;exact⟨_,F.slot_tuple_eq,λE Q' hq=>K28 F.slot_tuple_eq ⟨_,h1,rfl⟩ F.entry_tuple_eq (F.args_tuple_eq_2 _ _) (z59 y a C dx _ n dd sl X.K) ⟨⟨h1,ho,lk _ hT⟩,hq⟩⟩
  ·obtain⟨its,_,ht,_⟩:=I.list hs;obtain⟨⟨cls,dd,data,sl⟩,n,h1,h2,_,h3⟩:=ht;simp only at h2 h3;subst h2 h3;exact⟨_,F.slot_list_eq,λE Q' hq=>K28 F.slot_list_eq ⟨_,h1,rfl⟩ F.entry_list_eq (F.args_list_eq_2 _ _) (z66 y a C dx _ n dd sl X.K) ⟨⟨h1,ho,lk _ hT⟩,hq⟩⟩
  ·exact absurd rfl (z3l hT)
 | byt y=>exact(show False from ty).elim
 | flt y=>exact(show False from ty).elim
 | ty y=>exact(show False from ty).elim
def rEqI (K:K0) (C:Addr) (sp:Sp) (neg:Bool):R2:=λx y H Q =>
 (InsV H C x/\(InsV H C y\/SixV K H y)/\sp [x,y] H (λv H2=>∃b,v=.bl b/\Q (.bl (b != neg)) H2) E0) \/
 (neg=false/\InsV H C y/\SixV K H x/\sp [y,x] H (λv H2=>∃b,v=.bl b/\Q (.bl (b != neg)) H2) E0)
theorem zf3 (hm:Meth X.K C "__eq__" f) (F:FnOk X.prog X.w X.K X.mg X.base CX0 k f fd ps sp) (hr:Room (k+1) X.A) (hb:Binds X.K fd ps []) (D:CmpC X.K C):OpR X (K1s .Eq) (rEqI X.K C sp false):=by
 intro pins s σ H x y v u Q I rx ry h;have hu:X.A.units<cLine:=by have:=hr.un;omega
 show wpAny _ _ (K36 .Eq v u) _ _ _;rcases h with ⟨⟨a,dx,fs,rfl,e⟩,hy,q⟩|⟨_,⟨a,dx,fs,rfl,e⟩,⟨T,hT,ty⟩,q⟩
 ·cases (show v=K0e a from rx);obtain⟨od,J⟩:=z3S I e;refine z6A I.kIn J (z4K D I ry hy) hm.at_ hm.fn hu (K0j (z2o (vs:=[.ref a,y]) (us:=[.ref a,u]) F (hr.mono (K75 k)) I.env0 hb I (.cons rfl (.cons ry .nil)) q) (λr s' hr=>?_) λ_ _ e=>e);obtain⟨v',H2,I2,rv,b,rfl,q2⟩:=hr;cases (show r=K2n b from rv);rw[K1j]at q2;exact⟨b,rfl,.bl b,H2,I2,rfl,q2⟩
 ·cases (show u=K0e a from ry);obtain⟨od,J⟩:=z3S I e;obtain⟨hT2,_,_⟩:=z6s I rx ty (z3l hT);obtain⟨id,sl,dc⟩:=ze7 D I rx hT ty e;refine z5y I.kIn J hT2 sl (dc _) (D.mro T hT) hm.at_ hm.fn hu (K0j (z2o (vs:=[.ref a,x]) (us:=[.ref a,v]) F (hr.mono (K75 k)) I.env0 hb I (.cons rfl (.cons rx .nil)) q) (λr s' hr=>?_) λ_ _ e=>e);obtain⟨v',H2,I2,rv,b,rfl,q2⟩:=hr;cases (show r=K2n b from rv);rw[K1j]at q2;exact⟨b,rfl,.bl b,H2,I2,rfl,q2⟩
theorem z9Q (hm:Meth X.K C "__eq__" f) (F:FnOk X.prog X.w X.K X.mg X.base CX0 k f fd ps sp) (hr:Room (k+1) X.A) (hb:Binds X.K fd ps []) (D:CmpC X.K C):OpR X (K1s .NotEq) (rEqI X.K C sp true):=by
 intro pins s σ H x y v u Q I rx ry h;have hu:X.A.units+2<cLine:=by have:=hr.un;omega
 show wpAny _ _ (K36 .NotEq v u) _ _ _;rcases h with ⟨⟨a,dx,fs,rfl,e⟩,hy,q⟩|⟨z,_⟩
 ·cases (show v=K0e a from rx);obtain⟨od,J⟩:=z3S I e;refine z4Z I.kIn J (z4K D I ry hy) hm.at_ hm.fn D.ne D.top hu (K0j (z2o (vs:=[.ref a,y]) (us:=[.ref a,u]) F hr.in1 I.env0.in1 hb I (.cons rfl (.cons ry .nil)) q) (λr s' hr=>?_) λ_ _ e=>e);obtain⟨v',H2,I2,rv,b,rfl,q2⟩:=hr;cases (show r=K2n b from rv);rw[K7r]at q2;exact⟨b,rfl,.bl (!b),H2,I2,rfl,q2⟩
 ·cases z
def rInI (K:K0) (C:Addr) (sp:Sp):R2:=λx y H Q=>∃p z,y=.ref p/\SqL K H p [z]/\InsV H C x/\InsV H C z/\(z=x->Q (.bl true) H)/\(z≠x->sp [z,x] H (λv H2=>SqL K H2 p [z]/\∃b,v=.bl b/\Q (.bl b) H2) E0)
theorem z97 (hm:Meth X.K C "__eq__" f) (F:FnOk X.prog X.w X.K X.mg X.base CX0 k f fd ps sp) (hr:Room (k+1) X.A) (hb:Binds X.K fd ps []) (D:CmpC X.K C):OpR X (K1s .In) (rInI X.K C sp):=by
 intro pins s σ H x y v u Q I rx ry h;obtain⟨p,z,rfl,sq,⟨a,dx,fs,rfl,e⟩,⟨a2,dx2,fs2,rfl,e2⟩,h1,h2⟩:=h;cases (show u=K0e p from ry);cases (show v=K0e a from rx);obtain⟨its,ws,pl,_⟩:=I.list sq;obtain⟨z1,rfl,rz⟩:=ws.one;cases (show z1=K0e a2 from rz);obtain⟨od2,J2⟩:=z3S I e2;have hu:X.A.in1.units<cLine:=by have:=hr.un;show X.A.units+1<_;omega
 refine za7 pl.isList (z9W I.kIn J2 (z4K D I rx (.inl ⟨a,dx,fs,rfl,e⟩)) hm.at_ hm.fn hu (λz=>?_) λz=>?_)
 ·subst z;exact⟨pl.isList,.bl true,H,I,rfl,h1 rfl⟩
 ·refine K0j (z2o (vs:=[.ref a2,.ref a]) (us:=[.ref a2,.ref a]) F hr.in1 I.env0.in1 hb I (.cons rfl (.cons rfl .nil)) (h2 λw=>z (by injection w))) (λr s' hr=>?_) λ_ _ e=>e;obtain⟨v',H2,I2,rv,sq2,b,rfl,q2⟩:=hr;cases (show r=K2n b from rv);obtain⟨its2,ws2,pl2,_⟩:=I2.list sq2;obtain⟨z2,rfl,rz2⟩:=ws2.one;cases (show z2=K0e a2 from rz2);exact⟨b,rfl,pl2.isList,.bl b,H2,I2,rfl,q2⟩
theorem z5Z (D:CmpC X.K C) (cl:Cls X.K C):CallR X (.builtin "isinstance") (λxs H Q=>∃x y b,xs=[x,y]/\(∀u,RelV y u->u=.ref C)/\((InsV H C x/\b=true)\/(SixV X.K H x/\b=false))/\Q (.bl b) H):=by
 intro pins s σ H xs us Q I r h;obtain⟨x,y,b,rfl,hy,hb,q⟩:=h;obtain⟨u,w',rfl,rx,rt⟩:=vals2 r;rw[hy _ rt];have fin:∀tk,EP X pins σ Q (.bool b) { s with toks:=tk }:=λtk=>⟨.bl _,H,I.tok tk,rfl,q⟩;rcases hb with ⟨⟨a,dx,fs,rfl,e⟩,rfl⟩|⟨⟨T,hT,ty⟩,rfl⟩
 ·exact z1v I rx (.ins e cl D.cl D.gt D.tk D.top) D.me fin
 ·have tb:∀{z:V} {t':Value},z=x->TyOf X.K H z t'->t'=.type T->wpAny (model X.prog X.w) X.A (call (.builtin "isinstance") [u,.ref C]) (EP X pins σ Q) X.xe s:=λ{z t'} e1 ty' e2=>by
   subst e1;subst e2;exact z1v I rx ty' (D.kit T hT) fin
  cases x with
  | non=>exact tb rfl .non (by rw[show T = "NoneType" from ty])
  | bl y=>exact tb rfl (.bl y) (by rw[show T = "bool" from ty])
  | int y=>exact tb rfl (.int y) (by rw[show T = "int" from ty])
  | str y=>exact tb rfl (.str y) (by rw[show T = "str" from ty])
  | ref y =>
   cases rx;rcases(show (T = "tuple"/\∃xs,SqT X.K H y xs)\/(T = "list"/\∃xs,SqL X.K H y xs)\/(T = "dict"/\_) from ty) with ⟨rfl,xs,hs⟩|⟨rfl,xs,hs⟩|⟨rfl,_⟩
   ·exact z4o I hs (D.kit _ hT) fin
   ·exact z47 I hs (D.kit _ hT) fin
   ·exact absurd rfl (z3l hT)
  | byt y=>exact(show False from ty).elim
  | flt y=>exact(show False from ty).elim
  | ty y=>exact(show False from ty).elim
end
def kI (c:Str) (d:D):M Bool:=λh=>match d with
 | .ref i=>(match h[i]? with
  | some (.ins c' _)=>if c'=c then .ok true h else .bad
  | .(l _)=>.ok false h
  | _=>.bad)
 | .fl _=>.bad
 | _=>.ok false h
def bneI (neg:Bool):D->M D
 | .bl r=>pure (.bl (r != neg))
 | _=>bad
def fEqI (c:Str) (mf:List D->M D) (neg:Bool) (x y:D):M D:=do
 let a <- kI c x;let b <- kI c y
 if a=true then (mf [x,y] >>= bneI neg) else if b=true/\neg=false then (mf [y,x] >>= bneI neg) else bad
def fInI (c:Str) (mf:List D->M D) (x y:D):M D:=λh=>match y with
 | .ref p=>(match h[p]? with
  | .(l [z])=>(match x,z with
   | .ref i,.ref j=>((do
    let a <- kI c x;let b <- kI c z
    if a=true/\b=true then (if j=i then pure (.bl true) else (mf [z,x] >>= λd=>λh2=>match h2[p]? with
     | .(l [.ref j'])=>if j'=j then (match d with|.bl r=>.ok (.bl r) h2|_=>.bad) else .bad
     | _=>.bad)) else bad):M D) h
   | _,_=>.bad)
  | _=>.bad)
 | _=>.bad
def eIsO (c:Str) (me:G->M D):G->M D:=λγ=>do
 let d <- me γ;let b <- kI c d
 pure (.bl b)
theorem all6 {P:String->Prop}(a:P "NoneType") (b:P "bool") (c:P "int") (d:P "str") (e:P "tuple") (f:P "list"):∀T∈sixT,P T:=by
 intro T h;simp only[sixT,K1c,K5s,or_false]at h;rcases h with rfl|rfl|rfl|rfl|rfl|rfl<;>assumption
section
variable {X:Cx}{EX:XX}{K:K0}{c:Str}{C:Addr}{k:Nat}{mf:List D->M D}{ρ:List Addr}{h h1:AH}{H:Hp}{d:D}{v:V}{b neg:Bool}
theorem z9A (T:OwC K c C) (r:RH K ρ h H) (rx:RD K ρ H d v) (e:kI c d h=.ok b h1):h1=h/\(b=true->InsV H C v)/\(b=false->SixV K H v):=by
 cases d with
 | non=>cases e;simp only[RD]at rx;subst rx;exact⟨rfl,nofun,λ_=>⟨"NoneType",by decide,rfl⟩⟩
 | bl y=>cases e;simp only[RD]at rx;subst rx;exact⟨rfl,nofun,λ_=>⟨"bool",by decide,rfl⟩⟩
 | int y=>cases e;simp only[RD]at rx;subst rx;exact⟨rfl,nofun,λ_=>⟨"int",by decide,rfl⟩⟩
 | str y=>cases e;simp only[RD]at rx;subst rx;exact⟨rfl,nofun,λ_=>⟨"str",by decide,rfl⟩⟩
 | tup y=>cases e;simp only[RD]at rx;obtain⟨q,xs,rfl,h2,_⟩:=rx;exact⟨rfl,nofun,λ_=>⟨"tuple",by decide,.inl ⟨rfl,xs,h2⟩⟩⟩
 | fl y=>cases e
 | ref n =>
  unfold kI at e;dsimp only at e;split at e
  ·rename_i c' fs eh;split at e
   ·rename_i ec;subst ec;cases e;obtain⟨a,dx,vs',rfl,hq,o1,d1⟩:=z2q T r eh rx;exact⟨rfl,λ_=>⟨a,dx,vs',rfl,o1⟩,nofun⟩
   ·cases e
  ·rename_i xs eh;cases e;simp only[RD]at rx;obtain⟨q,rfl,h2⟩:=rx;obtain⟨a,n1,ys,o1,d1⟩:=r.at eh;rw[h2]at n1;cases n1;exact⟨rfl,nofun,λ_=>⟨"list",by decide,.inr (.inl ⟨rfl,ys,.of o1⟩)⟩⟩
  ·cases e
theorem z2F {α:Type}{P:α->List Addr->AH->Hp->Prop}{g:Bool->M α}(T:OwC K c C) (r:RH K ρ h H) (rx:RD K ρ H d v) (f:Fin K EX ρ H P ((kI c d >>= g) h)):∃b,(b=true->InsV H C v)/\(b=false->SixV K H v)/\Fin K EX ρ H P (g b h):=by
 have f2:=Fin.bind f;cases e:kI c d h with
 | bad=>rw[e]at f2;exact f2.elim
 | err z h2 =>
  exfalso;unfold kI at e;split at e
  ·split at e
   ·split at e<;>cases e
   ·cases e
   ·cases e
  ·cases e
  ·cases e
 | ok b h2 =>
  obtain⟨rfl,h1,h2'⟩:=z9A T r rx e;rw[e]at f2;exact⟨b,h1,h2',f2 ρ H (Pre.refl _) (Ext.refl _ _) r⟩
theorem z3E {Q:VK}{m:M D}(f:FE K EX0 ρ H Q ((m >>= bneI neg) h)):FE K EX0 ρ H (λv H2=>∃b,v=.bl b/\Q (.bl (b != neg)) H2) (m h):=by
 have f2:=Fin.bind f;cases em:m h with
 | bad=>rw[em]at f2;exact f2.elim
 | err z h2=>rw[em]at f2;exact λρ2 H2 p2 e2 r2=>f2 ρ2 H2 p2 e2 r2
 | ok x h2 =>
  rw[em]at f2;intro ρ2 H2 p2 e2 r2 v rv;have f3:=f2 ρ2 H2 p2 e2 r2;cases x<;>first|exact(show False from f3).elim|skip
  rename_i y;simp only[RD]at rv;subst rv;exact⟨y,rfl,f3 ρ2 H2 (Pre.refl _) (Ext.refl _ _) r2 _ (by simp[RD])⟩
theorem z6U (T:OwC K c C):BR K EX0 (rEqI K C (spB K mf 2) neg) (fEqI c mf neg):=by
 intro ρ h H x y v u Q r rx ry fin;unfold fEqI at fin;obtain⟨a,a1,a2,f1⟩:=z2F T r rx fin;obtain⟨b,b1,b2,f2⟩:=z2F T r ry f1;cases a with
 | true =>
  rw[if_pos rfl]at f2;refine .inl ⟨a1 rfl,?_,rfl,ρ,[x,y],h,r,RDs.cons rx (RDs.cons ry RDs.nil),z3E f2⟩;cases b with
  | true=>exact .inl (b1 rfl)
  | false=>exact .inr (b2 rfl)
 | false =>
  rw[if_neg (by decide)]at f2;split at f2
  ·rename_i z;exact .inr ⟨z.2,b1 z.1,a2 rfl,rfl,ρ,[y,x],h,r,RDs.cons ry (RDs.cons rx RDs.nil),z3E f2⟩
  ·exact(show False from f2).elim
theorem z4U {C C':Addr}(a:OwC K c C) (b:OwC K c C'):C=C':=by
 have:=a.ns.symm.trans b.ns;injection this with this
 injection this with this
 injection this
theorem z1O (F:Mt X.prog X.w X.K X.mg X.base k c "__eq__" 1 mf) (T:OwC X.K c C) (D:CmpC X.K C) (hr:Room (k+1) X.A):CO X EX0 .Eq (fEqI c mf false):=by
 obtain⟨C',f,fd,ps,T',hm,F1,hb⟩:=F.ex;cases z4U T T';exact⟨_,zf3 hm F1 hr hb D,z6U T⟩
theorem z6R (F:Mt X.prog X.w X.K X.mg X.base k c "__eq__" 1 mf) (T:OwC X.K c C) (D:CmpC X.K C) (hr:Room (k+1) X.A):CO X EX0 .NotEq (fEqI c mf true):=by
 obtain⟨C',f,fd,ps,T',hm,F1,hb⟩:=F.ex;cases z4U T T';exact⟨_,z9Q hm F1 hr hb D,z6U T⟩
theorem za1 (T:OwC K c C):BR K EX0 (rInI K C (spB K mf 2)) (fInI c mf):=by
 intro ρ h H x y v u Q r rx ry fin;unfold fInI at fin;cases y<;>first|exact(show False from fin).elim|skip
 rename_i p;dsimp only at fin;split at fin<;>first|exact(show False from fin).elim|skip
 rename_i z eh;split at fin<;>first|exact(show False from fin).elim|skip
 rename_i i j;simp only[RD]at ry;obtain⟨q,rfl,hq⟩:=ry;obtain⟨a,n1,ys,o1,d1⟩:=r.at eh;rw[hq]at n1;cases n1;obtain⟨zv,rfl,rz⟩:=rds1 d1;obtain⟨a,a1,a2,f1⟩:=z2F T r rx fin;obtain⟨b,b1,b2,f2⟩:=z2F T r rz f1;split at f2<;>first|exact(show False from f2).elim|skip
 rename_i ab;refine⟨q,zv,rfl,.of o1,a1 ab.1,b1 ab.2,λe=>?_,λne=>?_⟩
 ·subst e;simp only[RD]at rx rz;obtain⟨x1,rfl,hx⟩:=rx;obtain⟨z1,e1,hz⟩:=rz;cases e1;rw[if_pos (r.nd _ _ _ hz hx)]at f2;exact FE.here f2 r (by simp[RD])
 ·have ij:j≠i:=by
   rintro rfl;simp only[RD]at rx rz;obtain⟨x1,rfl,hx⟩:=rx;obtain⟨z1,rfl,hz⟩:=rz;rw[hx]at hz;cases hz;exact ne rfl
  rw[if_neg ij]at f2;refine⟨rfl,ρ,_,h,r,RDs.cons rz (RDs.cons rx RDs.nil),?_⟩;have f3:=Fin.bind f2;cases em:mf [.ref j,.ref i] h with
  | bad=>rw[em]at f3;exact f3.elim
  | err z h2=>rw[em]at f3;exact λρ2 H2 p2 e2 r2=>f3 ρ2 H2 p2 e2 r2
  | ok d h2 =>
   rw[em]at f3;intro ρ2 H2 p2 e2 r2 v2 rv;have f4:=f3 ρ2 H2 p2 e2 r2;dsimp only at f4;split at f4<;>first|exact(show False from f4).elim|skip
   rename_i j' eh2;split at f4<;>first|exact(show False from f4).elim|skip
   rename_i ej;subst ej;split at f4<;>first|exact(show False from f4).elim|skip
   rename_i rr;simp only[RD]at rv;subst rv;obtain⟨a',n1',ys',o1',d1'⟩:=r2.at eh2;rw[p2 _ _ hq]at n1';cases n1';obtain⟨zv',rfl,rz'⟩:=rds1 d1';have rz2:=rz.mono p2 e2;simp only[RD]at rz' rz2;obtain⟨z1,rfl,hz⟩:=rz';obtain⟨z2,rfl,hz2⟩:=rz2;rw[hz]at hz2;cases hz2;exact⟨.of o1',rr,rfl,f4 ρ2 H2 (Pre.refl _) (Ext.refl _ _) r2 _ (by simp[RD])⟩
theorem z8C (F:Mt X.prog X.w X.K X.mg X.base k c "__eq__" 1 mf) (T:OwC X.K c C) (D:CmpC X.K C) (hr:Room (k+1) X.A):CO X EX0 .In (fInI c mf):=by
 obtain⟨C',f,fd,ps,T',hm,F1,hb⟩:=F.ex;cases z4U T T';exact⟨_,z97 hm F1 hr hb D,za1 T⟩
end
section
variable {X:Cx}{EX:XX}{T:Str}{C:Addr}{a:Expr}{ma:G->M D}{p p2 pos:Pos}
theorem z9Z (KI:OwC X.K T C) (D:CmpC X.K C) (hg:Gl X "isinstance") (hm:X.mg "isinstance" = none) (hgT:Gl X T) (hT:X.mg T=.(r C)) (ha:SE X EX a ma) (hd:(T==("__debug__":Str))=false:=by decide)
 (he:K7 [a,.Name T p2] X.env=[(false,eval a X.env),(false,eval (.Name T p2) X.env)]:=by rfl) (he2:K7 [.Name T p2] X.env=[(false,eval (.Name T p2) X.env)]:=by rfl):SE X EX (.Call (.Name "isinstance" p) [a,.Name T p2] [] pos) (eIsO T ma):=by
 constructor;have hA:PA X [a,.Name T p2] (z3N (tE X.K EX ma) (z3N (tC (.ref C)) tNil)):=z08 ha.h (z08 (z48 hgT hT rfl hd) z19 he2) (by rw[he,he2]);exact PE.imp (z1d (z5Z D KI.cl) hg hm (by decide +kernel) hA (by decide) (by decide) (by rw[he,he2]) (by rw[he2];rfl)) λσ H Q ⟨ρ,γ,h,rel,fin⟩=>⟨ρ,γ,h,rel,(Fin.bind fin).mono λx ρ1 h1 H1 p1 e1 r1 f1 v rv=>by
  obtain⟨b,b1,b2,f2⟩:=z2F KI r1 rv f1;refine⟨v,.ref C,b,rfl,λu hu=>hu,?_,FE.here f2 r1 (by simp[RD])⟩;cases b with
  | true=>exact .inl ⟨b1 rfl,rfl⟩
  | false=>exact .inr ⟨b2 rfl,rfl⟩⟩
end
variable {P:K04}{w:World}{K:K0}{mg:Str->Option Value}{base:Heap}
def top (i:Nat):Stmt:=PySem.Challenge.pw_fairtrees_k24_whole_equal_runs.main.body.getD i (.Pass ⟨0,0,0,0⟩)
noncomputable def c_MOST:D:=.int 40
noncomputable def c_NUMBERS:D:=.int 400
noncomputable def x8:G->M Out :=
 (z8 (sFor (z21 (λ_=>pure (.int 1)) (Z8 fLen (z4 (eVar 0) aNil))) (gN 1) (z8 (sIf (λγ=>do let d <- e2 (fEqX false) (e2 z0r (j9 (eVar 0) Y5 (J8 (eVar 1))) (e2 fDiv (Z8 fLen (z4 (eVar 0) aNil)) (eVar 1))) (eVar 0) γ;asB d) (z8 (sRet (j9 (eVar 0) Y5 (J8 (eVar 1)))) bNil) bNil) bNil)) (z8 (sRet (eVar 0)) bNil))
noncomputable def z0b:List D->M D:=λds=>cln (runF 2 x8 ds)
theorem ok_least_ring (T:DefAt K "least_ring" (top 14)) (mx:Mx K mg "least_ring") (F00:mg "len" = none) (F03:mg "range" = none):Fn P w K mg base 1 "least_ring" 1 z0b :=
 dfC ["ring","many"] x8 T mx (by decide +kernel) rfl (λ_ _ _ _ _ _ us hl=>(by obtain⟨_,rfl⟩:=ar1 hl;rfl)) λhcd hr nd =>
  (z5 (z9n K6n rfl (z4t rfl F03 z6 (y3 rfl F00 (z3 (z0 0) z7))) (z10 1 nd) (z5 (s_if (sc_c (z1N (hu30 hr)) (z0m (y4 (z0 0) Y3 (Y2 (z0 1))) (z1P (y3 rfl F00 (z3 (z0 0) z7)) (z0 1))) (z0 0)) (z5 (J0 (y4 (z0 0) Y3 (Y2 (z0 1)))) Z1) Z1) Z1)) (z5 (J0 (z0 0)) Z1))
noncomputable def x6:G->M Out :=
 (z8 (sAsg (eFn 1 z0b (z4 (eVar 1) aNil)) (gN 1)) (z8 (sAsg (Z8 fLen (z4 (eVar 0) aNil)) (gN 2)) (z8 (z0O (cAnd (λγ=>do let d <- e2 fGt (eVar 2) (λ_=>pure (.int 0)) γ;asB d) (λγ=>do let d <- e2 (fEqX false) (e2 fIx (eVar 0) (e2 fSub (eVar 2) (λ_=>pure (.int 1)))) (e2 fIx (eVar 1) (eNeg (λ_=>pure (.int 1)))) γ;asB d)) (z8 (sAsg (e2 fAdd (j9 (eVar 1) (J8 (eNeg (λ_=>pure (.int 1)))) Y5) (j9 (eVar 1) Y5 (J8 (eNeg (λ_=>pure (.int 1)))))) (gN 1)) (z8 (sAug 2 (λi j=>i - j) (λ_=>pure (.int 1))) bNil)) 1000000) (z8 (sRet (eTup (z4 (j9 (eVar 0) Y5 (J8 (eVar 2))) (z4 (eVar 1) aNil)))) bNil))))
noncomputable def Y4:List D->M D:=λds=>cln (runF 3 x6 ds)
theorem ok_least_form (T:DefAt K "least_form" (top 13)) (mx:Mx K mg "least_form") (F00:mg "len" = none) (F0e:Fn P w K mg base 1 "least_ring" 1 z0b):Fn P w K mg base 2 "least_form" 2 Y4 :=
 dfC ["path","ring","left"] x6 T mx (by decide +kernel) rfl (λ_ _ _ _ _ _ us hl=>(by obtain⟨_,_,rfl⟩:=ar2 hl;rfl)) λhcd hr nd =>
  (z5 (z0a 1 nd (Z4 F0e (hr.mono (by decide)) rfl (z3 (z0 1) z7))) (z5 (z0a 2 nd (y3 rfl F00 (z3 (z0 0) z7))) (z5 (z7g 1000000 K6n (SW.sc (z6w (sc_c z5M (z0 2) z6) (z5l (sc_c (z1N (hu30 hr)) (j6 (z0 0) (z2m (z0 2) z6)) (j6 (z0 1) (z4u z6)))))) (z5 (z0a 1 nd (w6 (y4 (z0 1) (Y2 (z4u z6)) Y3) (y4 (z0 1) Y3 (Y2 (z4u z6))))) (z5 (zi1 2 nd z8F z6) Z1))) (z5 (J0 (z0p (z3 (y4 (z0 0) Y3 (Y2 (z0 2))) (z3 (z0 1) z7)))) Z1))))
noncomputable def z0w:G->M Out :=
 (z8 (sRet (eIsi "tuple" (eVar 0))) bNil)
noncomputable def y9:List D->M D:=λds=>cln (runF 1 z0w ds)
theorem ok_is_tuple (T:DefAt K "is_tuple" (top 8)) (mx:Mx K mg "is_tuple") (F02:mg "isinstance" = none) (F07:mg "tuple" = none):Fn P w K mg base 1 "is_tuple" 1 y9 :=
 dfC ["thing"] z0w T mx (by decide +kernel) rfl (λ_ _ _ _ _ _ us hl=>(by obtain⟨_,rfl⟩:=ar1 hl;rfl)) λhcd hr nd =>
  (z5 (J0 (z3B rfl F02 rfl F07 (by decide +kernel) (by decide) (z0 0))) Z1)
noncomputable def z05:G->M Out :=
 (z8 (sRet (eAnd (eFn 1 y9 (z4 (eVar 0) aNil)) (e3 fLe fLe (eVar 1) (Z8 fLen (z4 (eVar 0) aNil)) (eVar 2)))) bNil)
noncomputable def z06:List D->M D:=λds=>cln (runF 3 z05 ds)
theorem ok_is_tuple_of (T:DefAt K "is_tuple_of" (top 9)) (mx:Mx K mg "is_tuple_of") (F00:mg "len" = none) (F08:Fn P w K mg base 1 "is_tuple" 1 y9):Fn P w K mg base 2 "is_tuple_of" 3 z06 :=
 dfC ["thing","least","most"] z05 T mx (by decide +kernel) rfl (λ_ _ _ _ _ _ us hl=>(by obtain⟨_,_,_,rfl⟩:=ar3 hl;rfl)) λhcd hr nd =>
  (z5 (J0 (z0Z (Z4 F08 (hr.mono (by decide)) rfl (z3 (z0 0) z7)) (z2I (z9i z6l z6l (z0 1) (y3 rfl F00 (z3 (z0 0) z7)) (z0 2))))) Z1)
noncomputable def z0o:G->M Out :=
 (z8 (sRet (eAnd (eIsi "int" (eVar 0)) (eNot (eIsi "bool" (eVar 0))))) bNil)
noncomputable def z07:List D->M D:=λds=>cln (runF 1 z0o ds)
theorem ok_is_number (T:DefAt K "is_number" (top 6)) (mx:Mx K mg "is_number") (F09:mg "bool" = none) (F0f:mg "int" = none) (F02:mg "isinstance" = none):Fn P w K mg base 1 "is_number" 1 z07 :=
 dfC ["thing"] z0o T mx (by decide +kernel) rfl (λ_ _ _ _ _ _ us hl=>(by obtain⟨_,rfl⟩:=ar1 hl;rfl)) λhcd hr nd =>
  (z5 (J0 (z0Z (z3B rfl F02 rfl F0f (by decide +kernel) (by decide) (z0 0)) (z2I (z4O (z3B rfl F02 rfl F09 (by decide +kernel) (by decide) (z0 0)))))) Z1)
noncomputable def Y0:G->M Out :=
 (z8 (sRet (eAnd (eFn 1 z07 (z4 (eVar 0) aNil)) (e3 fLe fLe (eVar 1) (eVar 0) (eVar 2)))) bNil)
noncomputable def y8:List D->M D:=λds=>cln (runF 3 Y0 ds)
theorem ok_is_number_from (T:DefAt K "is_number_from" (top 7)) (mx:Mx K mg "is_number_from") (F0g:Fn P w K mg base 1 "is_number" 1 z07):Fn P w K mg base 2 "is_number_from" 3 y8 :=
 dfC ["thing","least","most"] Y0 T mx (by decide +kernel) rfl (λ_ _ _ _ _ _ us hl=>(by obtain⟨_,_,_,rfl⟩:=ar3 hl;rfl)) λhcd hr nd =>
  (z5 (J0 (z0Z (Z4 F0g (hr.mono (by decide)) rfl (z3 (z0 0) z7)) (z2I (z9i z6l z6l (z0 1) (z0 0) (z0 2))))) Z1)
noncomputable def z0N:G->M Out :=
 (z8 (sIf (cNot (cVal (eFn 3 z06 (z4 (eVar 0) (z4 (λ_=>pure (.int 2)) (z4 (λ_=>pure (.int 2)) aNil)))))) (z8 (sRet (λ_=>pure (.bl false))) bNil) bNil) (z8 (sAsg (eVar 0) (gT 2 (z00 (gN 1) (z00 (gN 2) z1q)))) (z8 (sIf (cOr (cNot (cVal (eFn 1 y9 (z4 (eVar 1) aNil)))) (cNot (cVal (eFn 1 y9 (z4 (eVar 2) aNil))))) (z8 (sRet (λ_=>pure (.bl false))) bNil) bNil) (z8 (sIf (cOr (λγ=>do let d <- e2 (fEq false) (Z8 fLen (z4 (eVar 2) aNil)) (λ_=>pure (.int 0)) γ;asB d) (λγ=>do let d <- e2 fGt (e2 fAdd (Z8 fLen (z4 (eVar 1) aNil)) (Z8 fLen (z4 (eVar 2) aNil))) (λ_=>pure c_NUMBERS) γ;asB d)) (z8 (sRet (λ_=>pure (.bl false))) bNil) bNil) (z8 (sRet (clE (Z8 (fAll false) (z4 (z0A [none] (z2U (e2 fAdd (eVar 1) (eVar 2))) (gN 0) (λ_=>pure true) (eFn 3 y8 (z4 (eVar 0) (z4 (λ_=>pure (.int 0)) (z4 (e2 fSub (λ_=>pure c_MOST) (λ_=>pure (.int 1))) aNil))))) aNil)))) bNil)))))
noncomputable def z0h:List D->M D:=λds=>cln (runF 3 z0N ds)
theorem ok_is_told (T:DefAt K "is_told" (top 15)) (mx:Mx K mg "is_told") (C_MOST:Cst K mg "MOST" c_MOST) (C_NUMBERS:Cst K mg "NUMBERS" c_NUMBERS) (F0h:mg "all" = none) (F00:mg "len" = none) (F0i:Fn P w K mg base 2 "is_number_from" 3 y8) (F08:Fn P w K mg base 1 "is_tuple" 1 y9) (F0j:Fn P w K mg base 2 "is_tuple_of" 3 z06):Fn P w K mg base 3 "is_told" 1 z0h :=
 dfC ["thing","path","ring"] z0N T mx (by decide +kernel) rfl (λ_ _ _ _ _ _ us hl=>(by obtain⟨_,rfl⟩:=ar1 hl;rfl)) λhcd hr nd =>
  (z5 (s_if (z0f (z0e (Z4 F0j (hr.mono (by decide)) rfl (z3 (z0 0) (z3 z6 (z3 z6 z7)))))) (z5 (J0 z0F) Z1) Z1) (z5 (z45 (z0 0) (z4R rfl (z0u (z10 1 nd) (z0u (z10 2 nd) z33)))) (z5 (s_if (SW.sc (z3V (z0f (z0e (Z4 F08 (hr.mono (by decide)) rfl (z3 (z0 1) z7)))) (z1X (z0f (z0e (Z4 F08 (hr.mono (by decide)) rfl (z3 (z0 2) z7))))))) (z5 (J0 z0F) Z1) Z1) (z5 (s_if (SW.sc (z3V (sc_c z39 (y3 rfl F00 (z3 (z0 2) z7)) z6) (z1X (sc_c z5M (w6 (y3 rfl F00 (z3 (z0 1) z7)) (y3 rfl F00 (z3 (z0 2) z7))) (z6q C_NUMBERS rfl))))) (z5 (J0 z0F) Z1) Z1) (z5 (J0 (z5k (z9z rfl rfl F0h (z3 (z0Y (N':=["standing"]) (cap:=[none]) rfl (z2f (by first|rfl|kernel_rfl!)) (z4g (w6 (z0 1) (z0 2))) (λ_ _ _ _=>(z04 0 (show (["standing"]:List Str).Nodup by decide +kernel))) (λ_ _ _ _=>z0U) (λ_ _ _ _=>(Z4 F0i (hr.mono (by decide)) rfl (z3 (z0 0) (z3 z6 (z3 (z2m (z6q C_MOST rfl) z6) z7)))))) z7)))) Z1)))))
noncomputable def Y8:G->M Out :=
 (z8 (sIf (noE (cNot (cVal (eFn 1 z0h (z4 (eTup (z4 (eVar 1) (z4 (eVar 2) aNil))) aNil))))) (z8 (z5g "NoRun" (z4 (λ_=>pure (.str "no path and ring: tuples of numbers from 0 to 39, at most 400, and the ring not empty")) aNil)) bNil) bNil) (z8 (noE (sAsg (eFn 2 Y4 (z4 (eVar 1) (z4 (eVar 2) aNil))) (gT 2 (z00 (gFld "Run" "path" (eVar 0)) (z00 (gFld "Run" "ring" (eVar 0)) z1q))))) bNil))
noncomputable def Z9:List D->M D:=runF 3 Y8
theorem ok_Run____init__ {C_Run:Addr}(KI_Run:OwC K "Run" C_Run) (mx:Mx K mg "Run") (mk:K3h K C_Run=true) (kc:K19 K (.ref C_Run)=true) (T:DefM K C_Run "__init__" "Run.__init__" (inClass (top 11) 0)) {F0c:Addr}{bm_NoRun:List Value}(F0k:K3 K mg "NoRun" F0c bm_NoRun) (NA_Run_path:NoAttr K C_Run "path") (NA_Run_ring:NoAttr K C_Run "ring") (F0l:Fn P w K mg base 3 "is_told" 1 z0h) (F0m:Fn P w K mg base 2 "least_form" 2 Y4):InX P w K mg base 4 "Run" 2 Z9 :=
 dfI ["self","path","ring"] Y8 KI_Run mx mk kc T (by decide +kernel) rfl (λ_ _ _ _ _ _ us hl=>(by obtain⟨_,_,_,rfl⟩:=ar3 hl;rfl)) λhcd hr nd =>
  (z5 (s_if (z8Z (z0f (z0e (Z4 F0l (hr.mono (by decide)) rfl (z3 (z0p (z3 (z0 1) (z3 (z0 2) z7))) z7))))) (z5 (z7C F0k rfl (z3 z3C z7)) Z1) Z1) (z5 (zm5 (z45 (Z4 F0m (hr.mono (by decide)) rfl (z3 (z0 1) (z3 (z0 2) z7))) (z4R rfl (z0u (z6C KI_Run NA_Run_path (z0 0)) (z0u (z6C KI_Run NA_Run_ring (z0 0)) z33))))) Z1))
noncomputable def z0l:G->M Out :=
 (z8 (sRet (eTup (z4 (eFld "Run" "path" (eVar 0)) (z4 (eFld "Run" "ring" (eVar 0)) aNil)))) bNil)
noncomputable def Y1:List D->M D:=λds=>cln (runF 1 z0l ds)
theorem ok_Run__pair {C_Run:Addr}(KI_Run:OwC K "Run" C_Run) (T:DefM K C_Run "pair" "Run.pair" (inClass (top 11) 2)) (NA_Run_path:NoAttr K C_Run "path") (NA_Run_ring:NoAttr K C_Run "ring"):Mt P w K mg base 1 "Run" "pair" 0 Y1 :=
 dfM ["self"] z0l KI_Run T (by decide +kernel) rfl (λ_ _ _ _ _ _ us hl=>(by obtain⟨_,rfl⟩:=ar1 hl;rfl)) λhcd hr nd =>
  (z5 (J0 (z0p (z3 (z0G KI_Run NA_Run_path (z0 0)) (z3 (z0G KI_Run NA_Run_ring (z0 0)) z7)))) Z1)
noncomputable def J4:G->M Out :=
 (z8 (sRet (eAnd (eIsO "Run" (eVar 1)) (eAnd (e2 (fEqX false) (eFld "Run" "path" (eVar 0)) (eFld "Run" "path" (eVar 1))) (e2 (fEqX false) (eFld "Run" "ring" (eVar 0)) (eFld "Run" "ring" (eVar 1)))))) bNil)
noncomputable def Z2:List D->M D:=λds=>cln (runF 2 J4 ds)
theorem ok_Run____eq__ {C_Run:Addr}(KI_Run:OwC K "Run" C_Run) (T:DefM K C_Run "__eq__" "Run.__eq__" (inClass (top 11) 3)) (F02:mg "isinstance" = none) (DC_Run:CmpC K C_Run) (GI_Run:mg "Run" = .(r C_Run)) (NA_Run_path:NoAttr K C_Run "path") (NA_Run_ring:NoAttr K C_Run "ring"):Mt P w K mg base 1 "Run" "__eq__" 1 Z2 :=
 dfM ["self","other"] J4 KI_Run T (by decide +kernel) rfl (λ_ _ _ _ _ _ us hl=>(by obtain⟨_,_,rfl⟩:=ar2 hl;rfl)) λhcd hr nd =>
  (z5 (J0 (z0Z (z9Z KI_Run DC_Run rfl F02 rfl GI_Run (z0 1)) (z0Z (se_c (z1N (hu30 hr)) (z0G KI_Run NA_Run_path (z0 0)) (z0G KI_Run NA_Run_path (z0 1))) (z2I (se_c (z1N (hu30 hr)) (z0G KI_Run NA_Run_ring (z0 0)) (z0G KI_Run NA_Run_ring (z0 1))))))) Z1)
noncomputable def x4:G->M Out :=
 (z8 (sRet (z4X (λ_=>pure (.str " ")) (z0A [none] (z2U (eVar 0)) (gN 0) (λ_=>pure true) (Z8 fStr (z4 (eVar 0) aNil))))) bNil)
noncomputable def k6:List D->M D:=λds=>cln (runF 1 x4 ds)
theorem ok_numbers_text (T:DefAt K "numbers_text" (top 12)) (mx:Mx K mg "numbers_text") (F06:mg "str" = none):Fn P w K mg base 1 "numbers_text" 1 k6 :=
 dfC ["numbers"] x4 T mx (by decide +kernel) rfl (λ_ _ _ _ _ _ us hl=>(by obtain⟨_,rfl⟩:=ar1 hl;rfl)) λhcd hr nd =>
  (z5 (J0 (z4Q z3C (z0Y (N':=["number"]) (cap:=[none]) rfl (z2f (by first|rfl|kernel_rfl!)) (z4g (z0 0)) (λ_ _ _ _=>(z04 0 (show (["number"]:List Str).Nodup by decide +kernel))) (λ_ _ _ _=>z0U) (λ_ _ _ _=>(z4B rfl F06 (z3 (z0 0) z7)))))) Z1)
noncomputable def x5:G->M Out :=
 (z8 (z1e 1 [none] (z2U (eFld "Run" "path" (eVar 0))) (gN 0) (λ_=>pure true) (Z8 fStr (z4 (eVar 0) aNil))) (z8 (z1E (eM1 J7 (eVar 1) (eFst "(" ")" (eFn 1 k6 (z4 (eFld "Run" "ring" (eVar 0)) aNil))))) (z8 (sRet (z4X (λ_=>pure (.str " ")) (eVar 1))) bNil)))
noncomputable def j8:List D->M D:=λds=>cln (runF 2 x5 ds)
theorem ok_Run____str__ {C_Run:Addr}(KI_Run:OwC K "Run" C_Run) (T:DefM K C_Run "__str__" "Run.__str__" (inClass (top 11) 5)) (F06:mg "str" = none) (NA_Run_path:NoAttr K C_Run "path") (NA_Run_ring:NoAttr K C_Run "ring") (F0n:Fn P w K mg base 1 "numbers_text" 1 k6):Mt P w K mg base 2 "Run" "__str__" 0 j8 :=
 dfM ["self","words"] x5 KI_Run T (by decide +kernel) rfl (λ_ _ _ _ _ _ us hl=>(by obtain⟨_,rfl⟩:=ar1 hl;rfl)) λhcd hr nd =>
  (z5 (z4q 1 (N':=["standing"]) (cap:=[none]) rfl (z2f (by first|rfl|kernel_rfl!)) (z4g (z0G KI_Run NA_Run_path (z0 0))) (λ_ _ _ _=>(z04 0 (show (["standing"]:List Str).Nodup by decide +kernel))) (λ_ _ _ _=>z0U) (λ_ _ _ _=>(z4B rfl F06 (z3 (z0 0) z7))) nd) (z5 (z6y (z4i (z0 1) (zb2 (by decide +kernel) (Z4 F0n (hr.mono (by decide)) rfl (z3 (z0G KI_Run NA_Run_ring (z0 0)) z7))))) (z5 (J0 (z4Q z3C (z0 1))) Z1)))
noncomputable def z0j:G->M Out :=
 (z8 (z1e 1 [none] (z2D (eVar 0)) (gN 0) (λγ=>do let d <- e2 fGe (eVar 0) (e2 fPow (λ_=>pure (.int 10)) (λ_=>pure (.int 18))) γ;asB d) (eVar 0)) (z8 (sRet (eLst (z4 (eVar 1) (z4 (z0A [none] (z2D (eVar 0)) (gN 0) (λγ=>do let d <- e2 fLt (eVar 0) (e2 fPow (λ_=>pure (.int 10)) (λ_=>pure (.int 18))) γ;asB d) (eVar 0)) (z4 (λ_=>pure (.int 5)) (z4 (λ_=>pure (.int 0)) aNil)))))) bNil))
noncomputable def z0k:List D->M D:=runF 2 z0j
theorem ok__law_pool (T:DefAt K "_law_pool" (top 18)) (mx:Mx K mg "_law_pool"):Fn P w K mg base 1 "_law_pool" 1 z0k :=
 dfN ["_law_script","_law_great"] z0j T mx (by decide +kernel) rfl (λ_ _ _ _ _ _ us hl=>(by obtain⟨_,rfl⟩:=ar1 hl;rfl)) λhcd hr nd =>
  (z5 (z4q 1 (N':=["_law_cell"]) (cap:=[none]) rfl (z2f (by first|rfl|kernel_rfl!)) (z3c (z0 0)) (λ_ _ _ _=>(z04 0 (show (["_law_cell"]:List Str).Nodup by decide +kernel))) (λ_ _ _ _=>(z3h (sc_c zj2 (z0 0) (z4E z6 z6)))) (λ_ _ _ _=>(z0 0)) nd) (z5 (J0 (z2y (z3 (z0 1) (z3 (z0Y (N':=["_law_cell"]) (cap:=[none]) rfl (z2f (by first|rfl|kernel_rfl!)) (z3c (z0 0)) (λ_ _ _ _=>(z04 0 (show (["_law_cell"]:List Str).Nodup by decide +kernel))) (λ_ _ _ _=>(z3h (sc_c z8x (z0 0) (z4E z6 z6)))) (λ_ _ _ _=>(z0 0))) (z3 z6 (z3 z6 z7)))))) Z1))
noncomputable def z09:G->M Out :=
 (z8 (sIf (λγ=>do let d <- e2 fGt (Z8 fLen (z4 (e2 fIx (eVar 0) (λ_=>pure (.int 0))) aNil)) (λ_=>pure (.int 0)) γ;asB d) (z8 (sAsg (e2 fIx (e2 fIx (eVar 0) (λ_=>pure (.int 0))) (λ_=>pure (.int 0))) (gN 2)) (z8 (sAsg (e2 fDiv (eVar 2) (eVar 1)) (gIx (e2 fIx (eVar 0) (λ_=>pure (.int 0))) (λ_=>pure (.int 0)))) (z8 (sIf (λγ=>do let d <- e2 (fEq false) (e2 fDiv (eVar 2) (eVar 1)) (λ_=>pure (.int 0)) γ;asB d) (z8 (z1E (eM1 z1I (e2 fIx (eVar 0) (λ_=>pure (.int 0))) (λ_=>pure (.int 0)))) bNil) bNil) (z8 (sRet (e2 fMod (eVar 2) (eVar 1))) bNil)))) bNil) (z8 (sAsg (e2 fAdd (e2 fIx (eVar 0) (λ_=>pure (.int 3))) (λ_=>pure (.int 1))) (gIx (eVar 0) (λ_=>pure (.int 3)))) (z8 (sAsg (λ_=>pure (.int 0)) (gN 2)) (z8 (sIf (λγ=>do let d <- e2 fGt (Z8 fLen (z4 (e2 fIx (eVar 0) (λ_=>pure (.int 1))) aNil)) (λ_=>pure (.int 0)) γ;asB d) (z8 (sAsg (e2 fIx (e2 fIx (eVar 0) (λ_=>pure (.int 1))) (e2 fMod (e2 fIx (eVar 0) (λ_=>pure (.int 3))) (Z8 fLen (z4 (e2 fIx (eVar 0) (λ_=>pure (.int 1))) aNil)))) (gN 2)) bNil) bNil) (z8 (sAsg (e2 z0r (e2 fMod (eVar 2) (λ_=>pure (.int 2147483629))) (e2 fAdd (e2 z0r (e2 fIx (eVar 0) (λ_=>pure (.int 3))) (e2 fIx (eVar 0) (λ_=>pure (.int 3)))) (λ_=>pure (.int 1)))) (gN 2)) (z8 (sAsg (e2 fMod (e2 fAdd (e2 fAdd (e2 z0r (e2 fIx (eVar 0) (λ_=>pure (.int 2))) (λ_=>pure (.int 48271))) (eVar 2)) (e2 z0r (λ_=>pure (.int 97)) (e2 fIx (eVar 0) (λ_=>pure (.int 3))))) (λ_=>pure (.int 2147483647))) (gIx (eVar 0) (λ_=>pure (.int 2)))) (z8 (sRet (e2 fMod (e2 fDiv (e2 fMod (e2 fPow (e2 fIx (eVar 0) (λ_=>pure (.int 2))) (λ_=>pure (.int 5))) (λ_=>pure (.int 2147483629))) (λ_=>pure (.int 64))) (eVar 1))) bNil)))))))
noncomputable def z9:List D->M D:=runF 3 z09
theorem ok__law_draw (T:DefAt K "_law_draw" (top 19)) (mx:Mx K mg "_law_draw") (F00:mg "len" = none):Fn P w K mg base 1 "_law_draw" 2 z9 :=
 dfN ["_law_pool_here","_law_many","_law_cell"] z09 T mx (by decide +kernel) rfl (λ_ _ _ _ _ _ us hl=>(by obtain⟨_,_,rfl⟩:=ar2 hl;rfl)) λhcd hr nd =>
  (z5 (s_if (sc_c z5M (y3 rfl F00 (z3 (j6 (z0 0) z6) z7)) z6) (z5 (z0a 2 nd (j6 (j6 (z0 0) z6) z6)) (z5 (z45 (z1P (z0 2) (z0 1)) (z7z (j6 (z0 0) z6) z6)) (z5 (s_if (sc_c z39 (z1P (z0 2) (z0 1)) z6) (z5 (z6y (z6d (j6 (z0 0) z6) z6)) Z1) Z1) (z5 (J0 (z1t (z0 2) (z0 1))) Z1)))) Z1) (z5 (z45 (w6 (j6 (z0 0) z6) z6) (z7z (z0 0) z6)) (z5 (z0a 2 nd z6) (z5 (s_if (sc_c z5M (y3 rfl F00 (z3 (j6 (z0 0) z6) z7)) z6) (z5 (z0a 2 nd (j6 (j6 (z0 0) z6) (z1t (j6 (z0 0) z6) (y3 rfl F00 (z3 (j6 (z0 0) z6) z7))))) Z1) Z1) (z5 (z0a 2 nd (z0m (z1t (z0 2) z6) (w6 (z0m (j6 (z0 0) z6) (j6 (z0 0) z6)) z6))) (z5 (z45 (z1t (w6 (w6 (z0m (j6 (z0 0) z6) z6) (z0 2)) (z0m z6 (j6 (z0 0) z6))) z6) (z7z (z0 0) z6)) (z5 (J0 (z1t (z1P (z1t (z4E (j6 (z0 0) z6) z6) z6) z6) (z0 1))) Z1)))))))
noncomputable def J9:G->M Out :=
 (z8 (sAsg (clE (Z8 z15 (z4 (z0A [some 1,some 0,none] (z14 (eFn 2 z9 (z4 (eVar 0) (z4 (eVar 2) aNil)))) (gN 2) (λ_=>pure true) (e2 fIx (eVar 0) (eFn 2 z9 (z4 (eVar 1) (z4 (Z8 fLen (z4 (eVar 0) aNil)) aNil))))) aNil))) (gN 4)) (z8 (sAsg (clE (Z8 z15 (z4 (z0A [some 1,some 0,none] (z14 (e2 fAdd (λ_=>pure (.int 1)) (eFn 2 z9 (z4 (eVar 0) (z4 (eVar 3) aNil))))) (gN 2) (λ_=>pure true) (e2 fIx (eVar 0) (eFn 2 z9 (z4 (eVar 1) (z4 (Z8 fLen (z4 (eVar 0) aNil)) aNil))))) aNil))) (gN 5)) (z8 (sRet (eTup (z4 (eVar 4) (z4 (eVar 5) aNil)))) bNil)))
noncomputable def q5:List D->M D:=λds=>cln (runF 6 J9 ds)
theorem ok__law_drawn_run (T:DefAt K "_law_drawn_run" (top 23)) (mx:Mx K mg "_law_drawn_run") (F00:mg "len" = none) (F03:mg "range" = none) (F07:mg "tuple" = none) (F01:Fn P w K mg base 1 "_law_draw" 2 z9):Fn P w K mg base 2 "_law_drawn_run" 4 q5 :=
 dfC ["_law_pool_here","_law_some","_law_most","_law_wide","_law_path","_law_ring"] J9 T mx (by decide +kernel) rfl (λ_ _ _ _ _ _ us hl=>(by obtain⟨_,_,_,_,rfl⟩:=ar4 hl;rfl)) λhcd hr nd =>
  (z5 (z0a 4 nd (z5k (z3u rfl F07 (z3 (z0Y (N':=["_law_some","_law_pool_here","_law_k"]) (cap:=[some 1,some 0,none]) rfl (z2f (by first|rfl|kernel_rfl!)) (z1c rfl F03 (Z4 F01 (hr.mono (by decide)) rfl (z3 (z0 0) (z3 (z0 2) z7)))) (λ_ _ _ _=>(z04 2 (show (["_law_some","_law_pool_here","_law_k"]:List Str).Nodup by decide +kernel))) (λ_ _ _ _=>z0U) (λ_ _ _ _=>(j6 (z0 0) (Z4 F01 (hr.mono (by decide)) rfl (z3 (z0 1) (z3 (y3 rfl F00 (z3 (z0 0) z7)) z7)))))) z7)))) (z5 (z0a 5 nd (z5k (z3u rfl F07 (z3 (z0Y (N':=["_law_some","_law_pool_here","_law_k"]) (cap:=[some 1,some 0,none]) rfl (z2f (by first|rfl|kernel_rfl!)) (z1c rfl F03 (w6 z6 (Z4 F01 (hr.mono (by decide)) rfl (z3 (z0 0) (z3 (z0 3) z7))))) (λ_ _ _ _=>(z04 2 (show (["_law_some","_law_pool_here","_law_k"]:List Str).Nodup by decide +kernel))) (λ_ _ _ _=>z0U) (λ_ _ _ _=>(j6 (z0 0) (Z4 F01 (hr.mono (by decide)) rfl (z3 (z0 1) (z3 (y3 rfl F00 (z3 (z0 0) z7)) z7)))))) z7)))) (z5 (J0 (z0p (z3 (z0 4) (z3 (z0 5) z7)))) Z1)))
noncomputable def Y7:G->M Out :=
 (z8 (sAsg (eVar 0) (gT 2 (z00 (gN 3) (z00 (gN 4) z1q)))) (z8 (sAsg (e2 fSub (eVar 2) (e2 z0r (e2 fDiv (eVar 2) (Z8 fLen (z4 (eVar 4) aNil))) (Z8 fLen (z4 (eVar 4) aNil)))) (gN 5)) (z8 (sRet (eTup (z4 (e2 fAdd (eVar 3) (j9 (e2 z0r (eVar 4) (e2 fAdd (e2 fDiv (eVar 2) (Z8 fLen (z4 (eVar 4) aNil))) (λ_=>pure (.int 1)))) Y5 (J8 (eVar 2)))) (z4 (e2 z0r (e2 fAdd (j9 (eVar 4) (J8 (eVar 5)) Y5) (j9 (eVar 4) Y5 (J8 (eVar 5)))) (eVar 1)) aNil)))) bNil)))
noncomputable def J1:List D->M D:=λds=>cln (runF 6 Y7 ds)
theorem ok__law_unrolled (T:DefAt K "_law_unrolled" (top 21)) (mx:Mx K mg "_law_unrolled") (F00:mg "len" = none):Fn P w K mg base 1 "_law_unrolled" 3 J1 :=
 dfC ["_law_run","_law_laps","_law_many","_law_path","_law_ring","_law_turn"] Y7 T mx (by decide +kernel) rfl (λ_ _ _ _ _ _ us hl=>(by obtain⟨_,_,_,rfl⟩:=ar3 hl;rfl)) λhcd hr nd =>
  (z5 (z45 (z0 0) (z4R rfl (z0u (z10 3 nd) (z0u (z10 4 nd) z33)))) (z5 (z0a 5 nd (z2m (z0 2) (z0m (z1P (z0 2) (y3 rfl F00 (z3 (z0 4) z7))) (y3 rfl F00 (z3 (z0 4) z7))))) (z5 (J0 (z0p (z3 (w6 (z0 3) (y4 (z0m (z0 4) (w6 (z1P (z0 2) (y3 rfl F00 (z3 (z0 4) z7))) z6)) Y3 (Y2 (z0 2)))) (z3 (z0m (w6 (y4 (z0 4) (Y2 (z0 5)) Y3) (y4 (z0 4) Y3 (Y2 (z0 5)))) (z0 1)) z7)))) Z1)))
noncomputable def z01:G->M Out :=
 (z8 (sAsg (eFn 3 J1 (z4 (eVar 2) (z4 (e2 fAdd (λ_=>pure (.int 1)) (eFn 2 z9 (z4 (eVar 0) (z4 (λ_=>pure (.int 3)) aNil)))) (z4 (eFn 2 z9 (z4 (eVar 0) (z4 (λ_=>pure (.int 5)) aNil))) aNil)))) (gN 4)) (z8 (sAsg (eFn 2 z9 (z4 (eVar 0) (z4 (e2 fAdd (Z8 fLen (z4 (e2 fIx (eVar 4) (λ_=>pure (.int 0))) aNil)) (Z8 fLen (z4 (e2 fIx (eVar 4) (λ_=>pure (.int 1))) aNil))) aNil))) (gN 5)) (z8 (sAsg (eFn 2 z9 (z4 (eVar 0) (z4 (λ_=>pure (.int 40)) aNil))) (gN 6)) (z8 (sIf (λγ=>do let d <- e2 (fEq false) (eVar 1) (λ_=>pure (.int 1)) γ;asB d) (z8 (sRet (eTup (z4 (j9 (e2 fIx (eVar 2) (λ_=>pure (.int 0))) Y5 (J8 (λ_=>pure (.int 0)))) (z4 (e2 fIx (eVar 2) (λ_=>pure (.int 1))) aNil)))) bNil) bNil) (z8 (sIf (λγ=>do let d <- e2 (fEq false) (eVar 1) (λ_=>pure (.int 2)) γ;asB d) (z8 (sRet (eTup (z4 (e2 fIx (eVar 2) (λ_=>pure (.int 0))) (z4 (e2 fAdd (j9 (e2 fIx (eVar 2) (λ_=>pure (.int 1))) (J8 (λ_=>pure (.int 1))) Y5) (j9 (e2 fIx (eVar 2) (λ_=>pure (.int 1))) Y5 (J8 (λ_=>pure (.int 1))))) aNil)))) bNil) bNil) (z8 (sIf (λγ=>do let d <- e2 (fEq false) (eVar 1) (λ_=>pure (.int 3)) γ;asB d) (z8 (sRet (eFn 4 q5 (z4 (eVar 0) (z4 (eVar 3) (z4 (λ_=>pure (.int 4)) (z4 (λ_=>pure (.int 4)) aNil)))))) bNil) bNil) (z8 (sIf (cAnd (λγ=>do let d <- e2 (fEq false) (eVar 1) (λ_=>pure (.int 4)) γ;asB d) (λγ=>do let d <- e2 fLt (eVar 5) (Z8 fLen (z4 (e2 fIx (eVar 4) (λ_=>pure (.int 0))) aNil)) γ;asB d)) (z8 (sRet (eTup (z4 (e2 fAdd (e2 fAdd (j9 (e2 fIx (eVar 4) (λ_=>pure (.int 0))) Y5 (J8 (eVar 5))) (eTup (z4 (eVar 6) aNil))) (j9 (e2 fIx (eVar 4) (λ_=>pure (.int 0))) (J8 (e2 fAdd (eVar 5) (λ_=>pure (.int 1)))) Y5)) (z4 (e2 fIx (eVar 4) (λ_=>pure (.int 1))) aNil)))) bNil) bNil) (z8 (sIf (λγ=>do let d <- e2 (fEq false) (eVar 1) (λ_=>pure (.int 4)) γ;asB d) (z8 (sAsg (e2 fSub (eVar 5) (Z8 fLen (z4 (e2 fIx (eVar 4) (λ_=>pure (.int 0))) aNil))) (gN 5)) (z8 (sRet (eTup (z4 (e2 fIx (eVar 4) (λ_=>pure (.int 0))) (z4 (e2 fAdd (e2 fAdd (j9 (e2 fIx (eVar 4) (λ_=>pure (.int 1))) Y5 (J8 (eVar 5))) (eTup (z4 (eVar 6) aNil))) (j9 (e2 fIx (eVar 4) (λ_=>pure (.int 1))) (J8 (e2 fAdd (eVar 5) (λ_=>pure (.int 1)))) Y5)) aNil)))) bNil)) bNil) (z8 (sRet (eVar 4)) bNil)))))))))
noncomputable def z02:List D->M D:=λds=>cln (runF 7 z01 ds)
theorem ok__law_beside (T:DefAt K "_law_beside" (top 24)) (mx:Mx K mg "_law_beside") (F00:mg "len" = none) (F01:Fn P w K mg base 1 "_law_draw" 2 z9) (F0a:Fn P w K mg base 2 "_law_drawn_run" 4 q5) (F0o:Fn P w K mg base 1 "_law_unrolled" 3 J1):Fn P w K mg base 3 "_law_beside" 4 z02 :=
 dfC ["_law_pool_here","_law_choice","_law_run","_law_numbers","_law_again","_law_at_here","_law_one"] z01 T mx (by decide +kernel) rfl (λ_ _ _ _ _ _ us hl=>(by obtain⟨_,_,_,_,rfl⟩:=ar4 hl;rfl)) λhcd hr nd =>
  (z5 (z0a 4 nd (Z4 F0o (hr.mono (by decide)) rfl (z3 (z0 2) (z3 (w6 z6 (Z4 F01 (hr.mono (by decide)) rfl (z3 (z0 0) (z3 z6 z7)))) (z3 (Z4 F01 (hr.mono (by decide)) rfl (z3 (z0 0) (z3 z6 z7))) z7))))) (z5 (z0a 5 nd (Z4 F01 (hr.mono (by decide)) rfl (z3 (z0 0) (z3 (w6 (y3 rfl F00 (z3 (j6 (z0 4) z6) z7)) (y3 rfl F00 (z3 (j6 (z0 4) z6) z7))) z7)))) (z5 (z0a 6 nd (Z4 F01 (hr.mono (by decide)) rfl (z3 (z0 0) (z3 z6 z7)))) (z5 (s_if (sc_c z39 (z0 1) z6) (z5 (J0 (z0p (z3 (y4 (j6 (z0 2) z6) Y3 (Y2 z6)) (z3 (j6 (z0 2) z6) z7)))) Z1) Z1) (z5 (s_if (sc_c z39 (z0 1) z6) (z5 (J0 (z0p (z3 (j6 (z0 2) z6) (z3 (w6 (y4 (j6 (z0 2) z6) (Y2 z6) Y3) (y4 (j6 (z0 2) z6) Y3 (Y2 z6))) z7)))) Z1) Z1) (z5 (s_if (sc_c z39 (z0 1) z6) (z5 (J0 (Z4 F0a (hr.mono (by decide)) rfl (z3 (z0 0) (z3 (z0 3) (z3 z6 (z3 z6 z7)))))) Z1) Z1) (z5 (s_if (SW.sc (z6w (sc_c z39 (z0 1) z6) (z5l (sc_c z8x (z0 5) (y3 rfl F00 (z3 (j6 (z0 4) z6) z7)))))) (z5 (J0 (z0p (z3 (w6 (w6 (y4 (j6 (z0 4) z6) Y3 (Y2 (z0 5))) (z0p (z3 (z0 6) z7))) (y4 (j6 (z0 4) z6) (Y2 (w6 (z0 5) z6)) Y3)) (z3 (j6 (z0 4) z6) z7)))) Z1) Z1) (z5 (s_if (sc_c z39 (z0 1) z6) (z5 (z0a 5 nd (z2m (z0 5) (y3 rfl F00 (z3 (j6 (z0 4) z6) z7)))) (z5 (J0 (z0p (z3 (j6 (z0 4) z6) (z3 (w6 (w6 (y4 (j6 (z0 4) z6) Y3 (Y2 (z0 5))) (z0p (z3 (z0 6) z7))) (y4 (j6 (z0 4) z6) (Y2 (w6 (z0 5) z6)) Y3)) z7)))) Z1)) Z1) (z5 (J0 (z0 4)) Z1)))))))))
noncomputable def z17:G->M Out :=
 (z8 (sRet (eAnd (eIsi "bool" (eVar 0)) (e2 (fEqX false) (eVar 0) (eVar 1)))) bNil)
noncomputable def Z5:List D->M D:=λds=>cln (runF 2 z17 ds)
theorem ok__law_truth (T:DefAt K "_law_truth" (top 20)) (mx:Mx K mg "_law_truth") (F09:mg "bool" = none) (F02:mg "isinstance" = none):Fn P w K mg base 1 "_law_truth" 2 Z5 :=
 dfC ["_law_found","_law_due"] z17 T mx (by decide +kernel) rfl (λ_ _ _ _ _ _ us hl=>(by obtain⟨_,_,rfl⟩:=ar2 hl;rfl)) λhcd hr nd =>
  (z5 (J0 (z0Z (z3B rfl F02 rfl F09 (by decide +kernel) (by decide) (z0 0)) (z2I (se_c (z1N (hu30 hr)) (z0 0) (z0 1))))) Z1)
noncomputable def z0J:G->M Out :=
 (z8 (sIf (λγ=>do let d <- e2 fLt (eVar 1) (Z8 fLen (z4 (e2 fIx (eVar 0) (λ_=>pure (.int 0))) aNil)) γ;asB d) (z8 (sRet (e2 fIx (e2 fIx (eVar 0) (λ_=>pure (.int 0))) (eVar 1))) bNil) bNil) (z8 (sRet (e2 fIx (e2 fIx (eVar 0) (λ_=>pure (.int 1))) (e2 fMod (e2 fSub (eVar 1) (Z8 fLen (z4 (e2 fIx (eVar 0) (λ_=>pure (.int 0))) aNil))) (Z8 fLen (z4 (e2 fIx (eVar 0) (λ_=>pure (.int 1))) aNil))))) bNil))
noncomputable def x9:List D->M D:=λds=>cln (runF 2 z0J ds)
theorem ok__law_at (T:DefAt K "_law_at" (top 22)) (mx:Mx K mg "_law_at") (F00:mg "len" = none):Fn P w K mg base 1 "_law_at" 2 x9 :=
 dfC ["_law_run","_law_place"] z0J T mx (by decide +kernel) rfl (λ_ _ _ _ _ _ us hl=>(by obtain⟨_,_,rfl⟩:=ar2 hl;rfl)) λhcd hr nd =>
  (z5 (s_if (sc_c z8x (z0 1) (y3 rfl F00 (z3 (j6 (z0 0) z6) z7))) (z5 (J0 (j6 (j6 (z0 0) z6) (z0 1))) Z1) Z1) (z5 (J0 (j6 (j6 (z0 0) z6) (z1t (z2m (z0 1) (y3 rfl F00 (z3 (j6 (z0 0) z6) z7))) (y3 rfl F00 (z3 (j6 (z0 0) z6) z7))))) Z1))
noncomputable def z6b:G->M Out :=
 (z8 (sAsg (eFn 1 z0k (z4 (eVar 0) aNil)) (gN 1)) (z8 (sAsg (eFn 2 z9 (z4 (eVar 1) (z4 (λ_=>pure (.int 7)) aNil))) (gN 2)) (z8 (z1e 3 [some 1,none] (z14 (e2 fAdd (λ_=>pure (.int 1)) (eFn 2 z9 (z4 (eVar 1) (z4 (λ_=>pure (.int 3)) aNil))))) (gN 1) (λ_=>pure true) (eFn 2 z9 (z4 (eVar 0) (z4 (λ_=>pure (.int 40)) aNil)))) (z8 (sAsg (eFn 4 q5 (z4 (eVar 1) (z4 (eVar 3) (z4 (λ_=>pure (.int 5)) (z4 (λ_=>pure (.int 4)) aNil))))) (gN 4)) (z8 (sAsg (eFn 4 z02 (z4 (eVar 1) (z4 (eVar 2) (z4 (eVar 4) (z4 (eVar 3) aNil))))) (gN 5)) (z8 (sAsg (e2 fAdd (e2 fAdd (Z8 fLen (z4 (e2 fIx (eVar 4) (λ_=>pure (.int 0))) aNil)) (Z8 fLen (z4 (e2 fIx (eVar 5) (λ_=>pure (.int 0))) aNil))) (e2 z0r (Z8 fLen (z4 (e2 fIx (eVar 4) (λ_=>pure (.int 1))) aNil)) (Z8 fLen (z4 (e2 fIx (eVar 5) (λ_=>pure (.int 1))) aNil)))) (gN 6)) (z8 (sAsg (e2 (fEqX false) (z0A [some 4,some 5,none] (z14 (eVar 6)) (gN 2) (λγ=>do let d <- e2 (fEqX true) (eFn 2 x9 (z4 (eVar 0) (z4 (eVar 2) aNil))) (eFn 2 x9 (z4 (eVar 1) (z4 (eVar 2) aNil))) γ;asB d) (eVar 2)) (eLst aNil)) (gN 7)) (z8 (sAsg (eNew "Run" 2 Z9 (z4 (e2 fIx (eVar 4) (λ_=>pure (.int 0))) (z4 (e2 fIx (eVar 4) (λ_=>pure (.int 1))) aNil))) (gN 8)) (z8 (sAsg (eNew "Run" 2 Z9 (z4 (e2 fIx (eVar 5) (λ_=>pure (.int 0))) (z4 (e2 fIx (eVar 5) (λ_=>pure (.int 1))) aNil))) (gN 9)) (z8 (sIf (cOr (cNot (cVal (eFn 2 Z5 (z4 (e2 (fEqI "Run" Z2 false) (eVar 8) (eVar 9)) (z4 (eVar 7) aNil))))) (cNot (cVal (eFn 2 Z5 (z4 (e2 (fEqI "Run" Z2 false) (eVar 9) (eVar 8)) (z4 (eVar 7) aNil)))))) (z8 (sRet (λ_=>pure (.bl false))) bNil) bNil) (z8 (sIf (cOr (cNot (cVal (eFn 2 Z5 (z4 (e2 (fEqI "Run" Z2 true) (eVar 8) (eVar 9)) (z4 (eNot (eVar 7)) aNil))))) (cNot (cVal (eFn 2 Z5 (z4 (e2 (fInI "Run" Z2) (eVar 8) (eLst (z4 (eVar 9) aNil))) (z4 (eVar 7) aNil)))))) (z8 (sRet (λ_=>pure (.bl false))) bNil) bNil) (z8 (sIf (cOr (cNot (cVal (eFn 2 Z5 (z4 (e2 (fEqI "Run" Z2 false) (eVar 8) (eVar 8)) (z4 (λ_=>pure (.bl true)) aNil))))) (cNot (cVal (eFn 2 Z5 (z4 (e2 (fEqI "Run" Z2 false) (eVar 8) (eNew "Run" 2 Z9 (z4 (e2 fIx (eVar 4) (λ_=>pure (.int 0))) (z4 (e2 fIx (eVar 4) (λ_=>pure (.int 1))) aNil)))) (z4 (λ_=>pure (.bl true)) aNil)))))) (z8 (sRet (λ_=>pure (.bl false))) bNil) bNil) (z8 (sFor (z2D (eLst (z4 (λ_=>pure .non) (z4 (λ_=>pure (.int 0)) (z4 (λ_=>pure (.bl true)) (z4 (λ_=>pure (.str "")) (z4 (eTup aNil) (z4 (eVar 4) (z4 (eMt "Run" "pair" 0 Y1 (eVar 8) aNil) (z4 (Z8 (z2Q "Run" j8) (z4 (eVar 8) aNil)) (z4 (eLst (z4 (e2 fIx (eVar 4) (λ_=>pure (.int 0))) (z4 (e2 fIx (eVar 4) (λ_=>pure (.int 1))) aNil))) (z4 (eFld "Run" "ring" (eVar 8)) aNil)))))))))))) (gN 10) (z8 (sIf (cOr (cNot (cVal (eFn 2 Z5 (z4 (e2 (fEqI "Run" Z2 false) (eVar 8) (eVar 10)) (z4 (λ_=>pure (.bl false)) aNil))))) (cNot (cVal (eFn 2 Z5 (z4 (e2 (fEqI "Run" Z2 false) (eVar 10) (eVar 8)) (z4 (λ_=>pure (.bl false)) aNil)))))) (z8 (sRet (λ_=>pure (.bl false))) bNil) bNil) (z8 (sIf (cNot (cVal (eFn 2 Z5 (z4 (e2 (fEqI "Run" Z2 true) (eVar 8) (eVar 10)) (z4 (λ_=>pure (.bl true)) aNil))))) (z8 (sRet (λ_=>pure (.bl false))) bNil) bNil) bNil))) (z8 (sRet (λ_=>pure (.bl true))) bNil))))))))))))))
noncomputable def m_law:List D->M D:=runF 11 z6b
theorem sc_law:FnScope ["_law_script","_law_pool_here","_law_choice","_law_numbers","_law_run","_law_other","_law_most","_law_due","_law_made","_law_beside_here","_law_thing"] ["_law_script"] (Z3 (top 25)):=⟨rfl,rfl,rfl,by decide +kernel,rfl,by decide +kernel,by decide +kernel⟩
theorem zl8 (g0:Int) (gr sm:List Int) (s c:Int) (r:AH) (n:Int) (hn:0<n) (hn2:n<1073741824) (hg:gr.length<=63) :
 ∃gr',gr'.length<=gr.length+1/\z9 [.ref 2,.int n] (Pool (g0::gr) sm s c r)=.ok (.int (g0 % n)) (Pool gr' sm s c r):=by
 unfold z9 runF z09 Pool v3;have hl:gr.length<=sizeLine:=K0b hg (by decide);by_cases h0:g0 / n=0
 ·refine⟨gr,by omega,?_⟩;simp[z8,bNil,sIf,sAsg,sRet,z1E,e2,Z8,z4,aNil,eVar,fIx,seqD,getL,fLen,fGt,fCmp,fI,asB,gIx,gN,fSet,fDiv,fIC,eM1,z2d,z1I,updL,fEq,eqD,fMod,atI,ixN,hn,hn2,h0,K5v,hl]
 ·refine⟨g0 / n::gr,by simp,?_⟩;simp[z8,bNil,sIf,sAsg,sRet,z1E,e2,Z8,z4,aNil,eVar,fIx,seqD,getL,fLen,fGt,fCmp,fI,asB,gIx,gN,fSet,fDiv,fIC,eM1,z2d,z1I,updL,fEq,eqD,fMod,atI,ixN,hn,hn2,h0]
theorem zl6 (sm:List Int) (s c:Int) (r:AH) (n:Int) (hn:0<n) (hn2:n<1073741824) (hs:0<=s) (hs2:s<2147483647) (hc:0<=c) (hc2:c<1000000) (hm:sm.length<=63) :
 ∃s' d,z9 [.ref 2,.int n] (Pool [] sm s c r)=.ok (.int d) (Pool [] sm s' (c+1) r)/\0<=d/\d<n/\0<=s'/\s'<2147483647:=by
 have k1:-18446744073709551616<c+1:=by omega
 have k2:c+1<18446744073709551616:=by omega
 have k3:-18446744073709551616<s:=by omega
 have k4:s<18446744073709551616:=by omega
 have key:∀x:Int,(∃y:Int,z9 [.ref 2,.int n] (Pool [] sm s c r)=.ok (.int ((((s * 48271+x % 2147483629 * ((c+1) * (c+1)+1)+97 * (c+1)) % 2147483647) ^ 5) % 2147483629 / 64 % n)) (Pool [] sm ((s * 48271+x % 2147483629 * ((c+1) * (c+1)+1)+97 * (c+1)) % 2147483647) (c+1) r)) ->
  ∃s' d,z9 [.ref 2,.int n] (Pool [] sm s c r)=.ok (.int d) (Pool [] sm s' (c+1) r)/\0<=d/\d<n/\0<=s'/\s'<2147483647:=λx ⟨_,e⟩ =>
  ⟨_,_,e,K4d _ (by omega),K3j _ hn,K4d _ (by decide),K3j _ (by decide)⟩
 have p1:∀z:Int,-18446744073709551616<z % 2147483647:=λz=>by omega
 have p2:∀z:Int,z % 2147483647<18446744073709551616:=λz=>by omega
 have p3:∀z:Int,-18446744073709551616<z % 2147483629:=λz=>by omega
 have p4:∀z:Int,z % 2147483629<18446744073709551616:=λz=>by omega
 cases sm with
 | nil =>
  refine key 0 ⟨0,?_⟩;unfold z9 runF z09 Pool v3;simp[z8,bNil,sIf,sAsg,sRet,z1E,e2,Z8,z4,aNil,eVar,fIx,seqD,getL,fLen,fGt,fCmp,fI,asB,gIx,gN,fSet,fDiv,fIC,eM1,z2d,z1I,updL,fEq,eqD,fMod,fAdd,fMul,z0r,fPow,atI,ixN,hn,hn2,k1,k2,k3,k4,p1,p2,p3,p4]
 | cons m0 sm =>
  have hl:(0:Int)<(sm.length:Int)+1:=by omega
  have hi:0<=(c+1) % ((sm.length:Int)+1):=K4d _ (by omega);have hi2:(c+1) % ((sm.length:Int)+1)<(sm.length:Int)+1:=K3j _ hl;obtain⟨x,hx⟩:∃x,(D.int m0::sm.map D.int)[((c+1) % ((sm.length:Int)+1)).toNat]?=.(i x):=by
   have e:(D.int m0::sm.map D.int)=(m0::sm).map D.int:=rfl;rw[e,K0h,K6 (by simp;omega)];exact⟨_,rfl⟩
  have hx2:∀hj,(D.int m0::List.map D.int sm)[((c+1) % ((sm.length:Int)+1)).toNat]'hj=D.int x:=λhj=>K0u ((K6 hj).symm.trans hx);refine key x ⟨0,?_⟩;unfold z9 runF z09 Pool v3;simp[z8,bNil,sIf,sAsg,sRet,z1E,e2,Z8,z4,aNil,eVar,fIx,seqD,getL,fLen,fGt,fCmp,fI,asB,gIx,gN,fSet,fDiv,fIC,eM1,z2d,z1I,updL,fEq,eqD,fMod,fAdd,fMul,z0r,fPow,atI,ixN,hn,hn2,k1,k2,k3,k4,p1,p2,p3,p4,hi,hi2,hl,hx,hx2]
theorem draw {h:AH}{k n:Int}{r:AH}(p:PS h k r) (hk:k<1000000) (hn:0<n) (hn2:n<1073741824):∃d h',z9 [.ref 2,.int n] h=.ok (.int d) h'/\0<=d/\d<n/\PS h' (k+1) r:=by
 obtain⟨gr,sm,s,c,rfl,h1,h2,h3,h4,h5,h6⟩:=p;cases gr with
 | nil =>
  obtain⟨s',d,e,q1,q2,q3,q4⟩:=zl6 sm s c r n hn hn2 h1 h2 h3 (by omega) h6;exact⟨d,_,e,q1,q2,[],sm,s',c+1,rfl,q3,q4,by omega,by omega,by simp,h6⟩
 | cons g0 gr =>
  simp at h5;obtain⟨gr',l,e⟩:=zl8 g0 gr sm s c r n hn hn2 (by omega);exact⟨_,_,e,K4d _ (by omega),K3j _ hn,gr',sm,s,c,rfl,h1,h2,h3,by omega,by omega,h6⟩
theorem z1S {h:AH}{k n:Int}{r:AH}{Q:D->AH->Prop}(p:PS h k r) (hk:k<1000000) (hn:0<n) (hn2:n<1073741824) (z:∀d h',0<=d->d<n->PS h' (k+1) r->Q (.int d) h'):W (z9 [.ref 2,.int n]) h Q:=by
 obtain⟨d,h',e,d0,d1,p'⟩:=draw p hk hn hn2;exact⟨_,_,e,z d h' d0 d1 p'⟩
theorem z5W {ns:List Int}(hn:ns.length<=63):W (z0k [.fl (ns.map .int)]) [] (λd h'=>d=.ref 2/\PS h' 0 []):=by
 refine z2s ?_;show W (z0j [some (.fl (ns.map .int)),none]) [] _;unfold z0j z1e;rw[w_cons];simp only[K0p,K0o,Z6,W_pure,z6o,e2,eVar,gN,sAsg];have src:∀(γ:G) (h:AH),γ[0]?=some (some (.fl (ns.map .int)))->z2D (eVar 0) γ h=.ok (.con (ns.map .int)) h:=λγ h e=>by
  unfold z2D eVar;rw[e];rfl
 refine W.of (z1i (src:=.con (ns.map .int)) (λd=>match d with|.int t=>decide (1000000000000000000<=t)|_=>false) (λd=>d) (src _ _ rfl) (λ_=>trivial) (by simp[Src.items];omega) λd hd=>?_) ?_
 ·obtain⟨t,ht,rfl⟩:=K2h.mp hd;refine⟨[.(i t)],λh=>rfl,λj=>?_,λ_ j=>rfl⟩;simp only[K00,bindM,pureM,zd7,zi7,z0Q]
 rw[show (Src.con (ns.map D.int)).items=ns.map D.int from rfl,z0B];rw[w_cons];simp only[K09,K00,K0k,Z6,W_pure,z4,aNil,z3H,eLst,eVar,sRet];refine W.of (z1i (src:=.con (ns.map .int)) (λd=>match d with|.int t=>decide (t<1000000000000000000)|_=>false) (λd=>d) (src _ _ rfl) (λ_=>trivial) (by simp[Src.items];omega) λd hd=>?_) ?_
 ·obtain⟨t,ht,rfl⟩:=K2h.mp hd;refine⟨[.(i t)],λh=>rfl,λj=>?_,λ_ j=>rfl⟩;simp only[K00,bindM,pureM,zd7,z5N,z0Q]
 rw[show (Src.con (ns.map D.int)).items=ns.map D.int from rfl,z0B];refine W.of (a:=.ref 2) (h':=Pool (ns.filter λi=>decide (1000000000000000000<=i)) (ns.filter λi=>decide (i<1000000000000000000)) 5 0 []) ?_ ?_
 ·unfold newL;rw[if_pos (by simp;decide)];rfl
 ·refine⟨rfl,_,_,5,0,rfl,by decide,by decide,by decide,by decide,?_,?_⟩
  ·exact K0b (K6y _ _) hn
  ·exact K0b (K6y _ _) hn
theorem z38 {p r:List Nat}{laps m:Nat}(hr:0<r.length) (hp:p.length+r.length<=100) (hl:laps<=100) (hm:m<=1000):J1 [rnD p r,.int (laps:Nat),.int (m:Nat)]=pure (rnD (unP p r m) (unR r laps m)):=by
 unfold J1;rw[z2Z,z22];show Y7 [some (rnD p r),.(i (laps:Nat)),.(i (m:Nat)),none,none,none]=_;unfold Y7 rnD;have hd:=K6u m r.length;have hmod:=K27 m hr;have e1:((m:Int) / (r.length:Int))=((m / r.length:Nat):Int):=(K90 m r.length).symm;have e2':(m:Int) - ((m / r.length * r.length:Nat):Int)=((m % r.length:Nat):Int):=by
  have:=K9c m r.length;rw[K22]at this;omega
 have e3:((m / r.length:Nat):Int)+1=((m / r.length+1:Nat):Int):=by omega
 have f1:(m / r.length+1) * r.length<=1000000:=K0b (K3t (show _<=1001 by omega) (show r.length<=100 by omega)) (by omega);have f2:laps * r.length<=1000000:=K0b (K3t hl (show r.length<=100 by omega)) (by omega);have tk:∀(l:List Nat) (n:Nat),(stD l).take n=stD (l.take n):=λl n=>by unfold stD;rw[K7p]
 have dr:∀(l:List Nat) (n:Nat),(stD l).drop n=stD (l.drop n):=λl n=>by unfold stD;rw[K5k]
 simp only[K09,K00,K02,K0k,K0p,K0o,K14,z4,aNil,z0P,z8,bNil,z0z,z6P,z4P,z6K hr (show r.length<=1000000 by omega),dr,e2,e2',e3,Z8,j9,eTup,eVar,z00,gN,z1q,gT,if_true,Y9,z6Q (show m / r.length<=1000000 by omega),z4v (x:=stD r) (by rw[Z7];exact f1) (show m / r.length+1<=1000000 by omega),Y5,J8,z4S,sAsg,sRet,sl_tup,Z7,z6r,tk];rw[z1B (by rw[Z7,Z7,K0a];omega)];simp only[z0z,z1p];rw[z1B (by rw[Z7,Z7,K0a,K1a];omega)];simp only[z0z,z1p];rw[z4v (by rw[Z7,z5h hr];exact f2) (by omega),z4S];simp only[K02,K0k,K14,z0z,if_true,zb0];rfl
theorem z5p {b c:Bool}:Z5 [.bl b,.bl c]=pure (.bl (b==c)):=by
 unfold Z5;rw[z2Z,z22];cases b<;>cases c<;>rfl
def TA (h:AH) (d:D):Prop:=∀(j:AH) (T:String),(T = "int"\/T = "bool"\/T = "tuple")->fIsi T d (h++j)=.ok (.bl (isOf T d)) (h++j)
def TB:Nat->AH->D->Prop
 | 0,h,d=>TA h d
 | n+1,h,d=>TA h d/\∀xs,d=.tup xs->∀x∈xs,TB n h x
theorem TB.ta {h:AH}{d:D}:∀{n:Nat},TB n h d->TA h d
 | 0,t=>t
 | n+1,t=>t.1
theorem z0D {m:M D}{h:AH}{d:D}(e:m h=.ok d h) (c:Y6 0 d=true):cln m h=.ok d h:=by
 exact z3k (j:=[]) (by rw[e,K1u]) (z2g (K74 h.length) c)
theorem z71 {h:AH}{d:D}(t:TA h d) (j:AH):z07 [d] (h++j)=.ok (.bl (numB d)) (h++j):=by
 refine z0D (z1G ?_) rfl;show W (z0o [some d]) (h++j) _;unfold z0o;rw[<- z62];rw[w_cons];simp only[K00,Z6,z1F,W_pure,z3H,eAnd,eIsi,eNot,eVar,sRet];refine W.of (t j "int" (.inl rfl)) ?_;cases e1:isOf "int" d with
 | false=>simp only[K0x,W_pure,z0Q,if_false];exact⟨rfl,rfl⟩
 | true =>
  simp only[W_pure,z0Q,if_true];refine W.of (t j "bool" (.inr (.inl rfl))) ?_;cases e2:isOf "bool" d<;>(simp only[K9k,Bool.not_true,W_pure,z0Q];exact⟨rfl,rfl⟩)
def natB (n:Int):D->Bool
 | .int i=>decide (0<=i)&&decide (i<n)
 | _=>false
theorem e3_h {f g:D->D->M D}{ma mb mc:G->M D}{γ:G}{h:AH}{x y z:D}{b c:Bool}(e1:ma γ h=.ok x h) (e2':mb γ h=.ok y h) (e3':mc γ h=.ok z h) (f1:f x y h=.ok (.bl b) h) (f2:g y z h=.ok (.bl c) h):e3 f g ma mb mc γ h=.ok (.bl (b&&c)) h:=by
 unfold e3;rw[M.bind_ok e1,M.bind_ok e2',M.bind_ok f1];cases b with
 | false=>rfl
 | true =>
  rw[z0Q];show (mc γ >>= λz=>g y z) h=_;rw[M.bind_ok e3',f2,K44]
theorem z1n {ma mb:G->M D}{γ:G}{h:AH}{b c:Bool}(e1:ma γ h=.ok (.bl b) h) (e2':b=true->mb γ h=.ok (.bl c) h):eAnd ma mb γ h=.ok (.bl (b&&c)) h:=by
 unfold eAnd;rw[M.bind_ok e1,z0Q];cases b with
 | false=>rfl
 | true=>exact e2' rfl
theorem z9p {ma:G->M D}{γ:G}{h:AH}{b:Bool}(e1:ma γ h=.ok (.bl b) h):eNot ma γ h=.ok (.bl (!b)) h:=by
 unfold eNot;rw[M.bind_ok e1,z0Q];rfl
theorem z9P {ma:G->M D}{γ:G}{h:AH}{d:D}{T:String}{b:Bool}(e1:ma γ h=.ok d h) (e2':fIsi T d h=.ok (.bl b) h):eIsi T ma γ h=.ok (.bl b) h:=by
 unfold eIsi;rw[M.bind_ok e1,e2']
theorem le_h {a b:Int}{h:AH}:fLe (.int a) (.int b) h=.ok (.bl (decide (a<=b))) h:=by rw[zh7];rfl
theorem z6N {ka kb:G->M Bool}{γ:G}{h:AH}{a b:Bool}(e1:ka γ h=.ok a h) (e2':kb γ h=.ok b h):cOr ka kb γ h=.ok (a||b) h:=by
 unfold cOr;rw[M.bind_ok e1];cases a with
 | false=>rw[Bool.false_or];exact e2'
 | true=>rfl
theorem z83 {d:D}(h:numB d=true):∃i,d=.int i:=by cases d<;>first|(cases h;done)|exact⟨_,rfl⟩
theorem z8n {n:Int}{d:D}(h:numB d=false):natB n d=false:=by cases d<;>first|rfl|cases h
theorem z9X {h:AH}{d:D}(t:TA h d) (j:AH):y8 [d,.int 0,.int 39] (h++j)=.ok (.bl (natB 40 d)) (h++j):=by
 refine z0D (z1G ?_) rfl;show W (Y0 [some d,.(i 0),.(i 39)]) (h++j) _;unfold Y0;have e1:eFn 1 z07 (z4 (eVar 0) aNil) [some d,.(i 0),.(i 39)] (h++j)=.ok (.bl (numB d)) (h++j):=fn_h (ds:=[d]) (ac_h (Z0 rfl) rfl) rfl (z71 t j);cases hn:numB d with
 | false =>
  rw[hn]at e1;refine k9 (.bl false) (z1n (c:=false) e1 λq=>nomatch q) ⟨by rw[z8n hn],rfl⟩
 | true =>
  rw[hn]at e1;obtain⟨i,rfl⟩:=z83 hn;refine k9 _ (z1n e1 λ_=>e3_h (Z0 rfl) (Z0 rfl) (Z0 rfl) le_h le_h) ⟨?_,rfl⟩;show D.bl (true&&(decide (0<=i)&&decide (i<=39)))=D.bl (decide (0<=i)&&decide (i<40));rw[K44];congr 2;rw[decide_eq_decide];omega
theorem z34 {h:AH}{d:D}(t:TA h d):y9 [d] h=.ok (.bl (tupB d)) h:=by
 have t0:∀T,(T = "int"\/T = "bool"\/T = "tuple")->fIsi T d h=.ok (.bl (isOf T d)) h:=λT hT=>by have:=t [] T hT;rwa [K1u]at this
 refine z0D (z1G ?_) rfl;show W (z0w [some d]) h _;unfold z0w;exact k9 _ (z9P (Z0 rfl) (t0 "tuple" (.inr (.inr rfl)))) ⟨by rw[z5I],rfl⟩
def lenB (a b:Int):D->Bool
 | .tup xs=>decide (a<=xs.length)&&decide ((xs.length:Int)<=b)
 | _=>false
theorem z4l {d:D}(h:tupB d=true):∃xs,d=.tup xs:=by cases d<;>first|(cases h;done)|exact⟨_,rfl⟩
theorem za2 {a b:Int}{d:D}(h:tupB d=false):lenB a b d=false:=by cases d<;>first|rfl|cases h
theorem z3A {xs:List D}{h:AH}:fLen [.tup xs] h=.ok (.int xs.length) h:=by rw[Y9];rfl
theorem z7Z {h:AH}{d:D}{a b:Int}(t:TA h d):z06 [d,.int a,.int b] h=.ok (.bl (lenB a b d)) h:=by
 refine z0D (z1G ?_) rfl;show W (z05 [some d,.(i a),.(i b)]) h _;unfold z05;have e1:eFn 1 y9 (z4 (eVar 0) aNil) [some d,.(i a),.(i b)] h=.ok (.bl (tupB d)) h:=fn_h (ds:=[d]) (ac_h (Z0 rfl) rfl) rfl (z34 t);cases ht:tupB d with
 | false =>
  rw[ht]at e1;exact k9 (.bl false) (z1n (c:=false) e1 λq=>nomatch q) ⟨by rw[za2 ht],rfl⟩
 | true =>
  rw[ht]at e1;obtain⟨xs,rfl⟩:=z4l ht;refine k9 _ (z1n e1 λ_=>e3_h (Z0 rfl) (J6 (Z0 rfl) z3A) (Z0 rfl) le_h le_h) ⟨?_,rfl⟩;rw[K44];rfl
def z2a (n:Int):D->Bool
 | .tup [.tup p,.tup q]=>decide (1<=q.length)&&decide (p.length+q.length<=400)&&(p++q).all (natB n)
 | _=>false
theorem zc6 {d:D}(h:lenB 2 2 d=true):∃x y,d=.tup [x,y]:=by
 cases d with
 | tup xs =>
  have h:(decide ((2:Int)<=xs.length)&&decide ((xs.length:Int)<=2))=true:=h;rw[K06,decide_eq_true_eq,decide_eq_true_eq]at h;have l:xs.length=2:=by omega
  match xs,l with
  | [x,y],_=>exact⟨x,y,rfl⟩
 | _=>cases h
theorem z78 {n:Int}{d:D}(h:lenB 2 2 d=false):z2a n d=false:=by
 unfold z2a;split
 ·exact absurd h (by simp[lenB])
 ·rfl
theorem z7A {n:Int}{x y:D}(h:tupB x=false):z2a n (.tup [x,y])=false:=by
 cases x<;>first|(cases h;done)|rfl
theorem z8w {n:Int}{x y:D}(h:tupB y=false):z2a n (.tup [x,y])=false:=by
 cases y<;>first|(cases h;done)|(cases x<;>rfl)
theorem z8W {p q:List D}{h:AH}(l:p.length+q.length<=1000000):fAdd (.tup p) (.tup q) h=.ok (.tup (p++q)) h:=by rw[z1B l];rfl
theorem zb5 {f:D->Bool}(xs:List D):(xs.map f).all id=xs.all f:=by simp[List.all_map,K8f]
theorem z92 {h:AH}{d:D}(t:TB 2 h d):z0h [d] h=.ok (.bl (z2a 40 d)) h:=by
 refine z0D (z1G ?_) rfl;show W (z0N [some d,none,none]) h _;unfold z0N;refine z0x (!lenB 2 2 d) (cn_h (cv_h (fn_h (ds:=[d,.int 2,.int 2]) (ac_h (Z0 rfl) rfl) rfl (z7Z t.1)))) ?_;cases hl:lenB 2 2 d with
 | false =>
  rw[if_pos (by rfl)];exact z1o (k9 (.bl false) rfl ⟨by rw[z78 hl],rfl⟩)
 | true =>
  rw[if_neg (by decide)];obtain⟨x,y,rfl⟩:=zc6 hl;have tx:TB 1 h x:=t.2 _ rfl x (by simp);have ty:TB 1 h y:=t.2 _ rfl y (by simp);refine z0y (z0C (.tup [x,y]) [.(g [x,y]),some x,some y] (Z0 rfl) (by simp only[K02,K0k,K0p,K0o,K14,z0z,z00,gN,z1q,gT,if_true]) ?_);refine z0x (!tupB x||!tupB y) ?_ ?_
  ·have e1:cNot (cVal (eFn 1 y9 (z4 (eVar 1) aNil))) [.(g [x,y]),some x,some y] h=.ok (!tupB x) h:=cn_h (cv_h (fn_h (ds:=[x]) (ac_h (Z0 rfl) rfl) rfl (z34 tx.1)));have e2':cNot (cVal (eFn 1 y9 (z4 (eVar 2) aNil))) [.(g [x,y]),some x,some y] h=.ok (!tupB y) h:=cn_h (cv_h (fn_h (ds:=[y]) (ac_h (Z0 rfl) rfl) rfl (z34 ty.1)));exact z6N e1 e2'
  cases hx:tupB x with
  | false =>
   rw[if_pos (by rfl)];exact z1o (k9 (.bl false) rfl ⟨by rw[z7A hx],rfl⟩)
  | true =>
   cases hy:tupB y with
   | false =>
    rw[if_pos (by rfl)];exact z1o (k9 (.bl false) rfl ⟨by rw[z8w hy],rfl⟩)
   | true =>
    rw[if_neg (by decide)];obtain⟨p,rfl⟩:=z4l hx;obtain⟨q,rfl⟩:=z4l hy;refine z0y (z0x (decide (q.length=0)||decide (400<p.length+q.length)) ?_ ?_)
    ·refine z6N ((cb_h (e2_h (J6 (Z0 rfl) z3A) (y:=.int 0) rfl (by rw[z9Y];rfl))).trans ?_) ((cb_h (e2_h (e2_h (J6 (Z0 rfl) z3A) (J6 (Z0 rfl) z3A) (by rw[z0P];rfl)) (y:=.int 400) rfl (by rw[zf1];rfl))).trans ?_)
     ·congr 1;rw[K1j,decide_eq_decide];omega
     ·congr 1;rw[decide_eq_decide];omega
    by_cases c:q.length=0\/400<p.length+q.length
    ·rw[if_pos (by simpa using c)];refine z1o (k9 (.bl false) rfl ⟨?_,rfl⟩);have:z2a 40 (.tup [.tup p,.tup q])=false:=by
      show (decide (1<=q.length)&&decide (p.length+q.length<=400)&&_)=false;rcases c with c|c
      ·rw[decide_eq_false (show ¬ 1<=q.length by omega),K4v,K4v]
      ·rw[decide_eq_false (show ¬ p.length+q.length<=400 by omega),Bool.and_false,K4v]
     rw[this]
    ·rw[if_neg (by simpa using c)];have cc:=z1i (cap:=[none]) (mi:=z2U (e2 fAdd (eVar 1) (eVar 2))) (g:=gN 0) (k:=λ_=>pure true) (me:=eFn 3 y8 (z4 (eVar 0) (z4 (λ_=>pure (.int 0)) (z4 (e2 fSub (λ_=>pure c_MOST) (λ_=>pure (.int 1))) aNil)))) (γ:=[.(g [.tup p,.tup q]),.(g p),.(g q)]) (h:=h) (src:=.con (p++q)) (λ_=>true) (λd=>.bl (natB 40 d)) (z5m (e2_h (Z0 rfl) (Z0 rfl) (z8W (by omega)))) (λ_=>trivial) (by show (p++q).length<=_;rw[K01];omega) λd hd=>⟨[some d],λ_=>rfl,λ_=>rfl,λ_ j=>fn_h (ds:=[d,.int 0,.int 39]) rfl rfl (z9X (by
      rcases K0g.mp hd with z|z
      ·exact tx.2 _ rfl d z
      ·exact ty.2 _ rfl d z) j)⟩
     rw[show (Src.con (p++q)).items=p++q from rfl,List.filter_eq_self.mpr (λ_ _=>rfl),show List.map (λd=>D.bl (natB 40 d)) (p++q)=((p++q).map (natB 40)).map .bl by rw[K4k];rfl]at cc;refine z0y (k9 _ (zk3 cc) ⟨?_,rfl⟩);rw[zb5];show _=D.bl (decide (1<=q.length)&&decide (p.length+q.length<=400)&&(p++q).all (natB 40));rw[decide_eq_true (show 1<=q.length by omega),decide_eq_true (show p.length+q.length<=400 by omega)];rfl
structure RT (n:Nat) (p q:List Nat):Prop where
 ne:0<q.length
 l:p.length+q.length<=400
 lt:∀x∈p++q,x<n
theorem z5w {n:Nat}(l:List Nat):(stD l).all (natB n)=l.all λx=>decide (x<n):=by
 induction l with
 | nil=>rfl
 | cons x l ih =>
  show (natB n (.int x)&&(stD l).all (natB n))=_;rw[ih,K7q];congr 1;show (decide ((0:Int)<=x)&&decide ((x:Int)<n))=_;rw[decide_eq_true (show (0:Int)<=x by omega),K44,decide_eq_decide];omega
theorem z7U {n:Nat}{p q:List Nat}(h0:0<q.length) (h1:p.length+q.length<=400):z2a n (rnD p q)=(p++q).all λx=>decide (x<n):=by
 show (decide (1<=(stD q).length)&&decide ((stD p).length+(stD q).length<=400)&&(stD p++stD q).all (natB n))=_;rw[Z7,Z7,decide_eq_true (show 1<=q.length by omega),decide_eq_true h1,z1p,z5w];rfl
theorem z5d {some_:List Nat}{n i:Nat}{h:AH}{k k1:Int}{r:AH}{γ:G}{mi:G->M Src}{Q:D->AH->Prop}(p:PS h k r) (cl:CL r) (hn:n<=100) (hs:some_.length<=100) (h0:0<some_.length) (e1:γ[1]?=some (.(r (i+3)))) (e0:γ[0]?=some (.(r 2))) (hk:k1+n<1000000) (ei:r[i]?=.(l (stD some_)))
 (hi:W (mi γ) h λs h1=>s=.con (z0q n)/\PS h1 k1 r)
 (z:∀l h',l.length=n->(∀x∈l,x∈some_)->PS h' (k1+n) r->Q (.tup (stD l)) h') :
 W (clE (Z8 z15 (z4 (z0A [some 1,some 0,none] mi (gN 2) (λ_=>pure true) (e2 fIx (eVar 0) (eFn 2 z9 (z4 (eVar 1) (z4 (Z8 fLen (z4 (eVar 0) aNil)) aNil))))) aNil)) γ) h Q:=by
 refine zl4 p cl ?_;simp only[Z6,W_pure,z4,aNil,Z8];refine z6O (r:=r) (l:=[]) (λc xs k=>∃l:List Nat,xs=stD l/\l.length=c/\(∀x∈l,x∈some_)/\k=k1+c) ?_;refine hi.mono λs h1 ⟨es',p1⟩=>?_;subst es';refine⟨k1,by simpa using p1,⟨[],rfl,rfl,by simp,by simp⟩,λ_ _ _ _=>trivial,?_,?_⟩
 ·rintro c d h2 k2 xs hd ⟨l,rfl,lc,lm,rfl⟩ p2;obtain⟨rfl,hc⟩:=z2x hd;simp only[capG,K0z,K65,e1,e0,K8t,Option.join_none];simp only[K09,K00,K02,K0k,K0p,K0o,K14,z23,Z6,z1F,W_pure,z4,aNil,e2,Z8,eFn,eVar,gN,if_true];refine z93 p2 (z3s ei) ?_;rw[Z7];refine z1S p2 (by omega) (by omega) (by omega) λt h3 t0 t1 p3=>?_;obtain⟨t,rfl⟩:=K0y t0;refine zk6 p3 (z3s ei) (z7s (by omega)) ?_;refine⟨_,p3,by rw[Z7];omega,l++[(some_[t]?).getD 0],by rw[<- z55],by simp[lc],?_,by omega⟩;intro x hx;rcases K0g.mp hx with q|q
  ·exact lm x q
  ·simp at q;subst q;rw[K6 (by omega)];exact K5t (by omega)
 ·rintro h2 xs k2 ⟨l,rfl,lc,lm,rfl⟩ p2;rw[show (Src.con (z0q n)).items.length=n by simp[Src.items,z0q]]at lc p2;refine z8A (i:=0) p2 rfl ⟨_,_,p2,z6x l,λh3 p3=>z l h3 lc lm p3⟩
theorem zd9 {some_:List Nat}{i most wide:Nat}{h:AH}{k:Int}{r:AH}{Q:D->AH->Prop}(hs:some_.length<=100) (h0:0<some_.length) (p:PS h k r) (cl:CL r) (e:r[i]?=.(l (stD some_))) (hk:k<900000) (hm:0<most) (hm2:most<=50) (hw:0<wide) (hw2:wide<=50)
 (z:∀pa ri h',pa.length<most->1<=ri.length->ri.length<=wide->(∀x∈pa,x∈some_)->(∀x∈ri,x∈some_)->PS h' (k+200) r->Q (rnD pa ri) h') :
 W (q5 [.ref 2,.ref (i+3),.int (most:Nat),.int (wide:Nat)]) h Q:=by
 refine z7h p cl ?_;refine z2s ?_;show W (J9 [.(r 2),.(r (i+3)),.(i (most:Nat)),.(i (wide:Nat)),none,none]) h _;unfold J9;refine z4h ?_;obtain⟨t,h1,e1,t0,t1,p1⟩:=draw p (by omega) (show 0<(most:Int) by omega) (by omega);obtain⟨t,rfl⟩:=K0y t0;refine z5d (n:=t) (some_:=some_) (k1:=k+1) p cl (by omega) hs h0 rfl rfl (by omega) e ?_ λl h2 hl lm p2=>?_
 ·exact W.of (z0M (n:=t) (by simp only[K09,K00,K02,K0k,K14,z4,aNil,z0z,eFn,eVar,if_true];exact e1) (by omega)) ⟨rfl,p1⟩
 refine z4h ?_;obtain⟨u,h3,e3,u0,u1,p3⟩:=draw p2 (by omega) (show 0<(wide:Int) by omega) (by omega);obtain⟨u,rfl⟩:=K0y u0;refine z5d (n:=u+1) (some_:=some_) (k1:=k+1+t+1) p2 cl (by omega) hs h0 rfl rfl (by omega) e ?_ λl2 h4 hl2 lm2 p4=>?_
 ·refine W.of (z0M (n:=u+1) ?_ (by omega)) ⟨rfl,p3⟩;simp only[K09,K00,K02,K0k,K0p,K0o,K14,z4,aNil,z0z,e2,eFn,eVar,if_true];rw[M.bind_ok e3,z0P,pureM];congr 2;omega
 exact zg8 (rnD l l2) (by simp only[K09,K00,K02,K0k,K0p,K0o,K14,z4,aNil,z0z,eTup,eVar,if_true,zb0];rfl) ⟨k+200,[],by rw[K1u];exact p4.up (by omega),z2B l l2,λh2 p2=>z l l2 h2 (by omega) (by omega) (by omega) lm lm2 p2⟩
def gq (q:List Nat) (k:Nat):Nat:=(q[k]?).getD 0
theorem z2A {q:List Nat}{k:Nat}(h:k<q.length):q[k]?=some (gq q k):=by unfold gq;rw[K6 h];rfl
def odds (q:List Nat) (m:Nat):List Nat:=(K0q q.length).filter λk=>decide (gq q k≠gq q (k % m))
def perB (q:List Nat) (m:Nat):Bool:=decide (q.length % m=0)&&(odds q m).isEmpty
theorem z1b {q:List Nat}{m:Nat}:(odds q m).isEmpty=true↔∀k,k<q.length->gq q k=gq q (k % m):=by
 unfold odds;rw[List.isEmpty_iff,K6h];constructor
 ·intro h k hk;have:=h k (K1k.mpr hk);simpa using this
 ·intro h k hk;simpa using h k (K1k.mp hk)
theorem z7e {q:List Nat}{m:Nat}(h0:0<m) (h1:m<=q.length):rp (q.length / m) (q.take m)=q↔perB q m=true:=by
 have tl:(q.take m).length=m:=by rw[K0a];omega
 unfold perB;rw[K06,decide_eq_true_eq,z1b];constructor
 ·intro e;have l:=congrArg K92 e;rw[z3m,tl]at l;refine⟨Nat.mod_eq_zero_of_dvd ⟨q.length / m,by rw[K22];exact l.symm⟩,λk hk=>?_⟩;have g:=z2A hk;rw[<- e,z6S (by rw[tl,l];exact hk),tl,K1f,if_pos (K27 _ h0)]at g;have:=z2A (q:=q) (k:=k % m) (by have:=K27 k h0;omega);rw[this]at g;injection g with g
  rw[e]at g;exact g.symm
 ·rintro⟨d,a⟩;have l:q.length / m * m=q.length:=Nat.div_mul_cancel (K6k d);refine K3u λk=>?_;by_cases hk:k<q.length
  ·rw[z6S (by rw[tl,l];exact hk),tl,K1f,if_pos (K27 _ h0),z2A hk,z2A (by have:=K27 k h0;omega),a k hk]
  ·rw[K0n (by rw[z3m,tl,l];omega),K0n (by omega)]
theorem z8u {q:List Nat}:perB q q.length=true:=by
 unfold perB;rw[K06,decide_eq_true_eq,z1b];exact⟨Nat.mod_self _,λk hk=>by rw[K2s hk]⟩
structure IsL (q:List Nat) (m:Nat):Prop where
 p:0<m
 l:m<=q.length
 y:perB q m=true
 n:∀j,0<j->j<m->perB q j=false
theorem IsL.uniq {q:List Nat}{a b:Nat}(x:IsL q a) (y:IsL q b):a=b:=by
 rcases K8o a b with h|h|h
 ·have:=y.n a x.p h;rw[x.y]at this;cases this
 ·exact h
 ·have:=x.n b y.p h;rw[y.y]at this;cases this
def rgS (p q:List Nat) (m f:Nat):List Nat:=(K0q m).map λk=>sAt p q (f+k)
def j7 (p q:List Nat) (m:Nat):Nat->Nat
 | 0=>0
 | l+1=>if sAt p q l=sAt p q (l+m) then j7 p q m l else l+1
theorem z20 {p q:List Nat}{m:Nat}:∀l,j7 p q m l<=l
 | 0=>K05 _
 | l+1=>by
  unfold j7;split
  ·exact Nat.le_succ_of_le (z20 l)
  ·exact K05 _
theorem z0d {p q:List Nat}{m f:Nat}:(rgS p q m f).length=m:=by unfold rgS;simp
theorem z0R {p q:List Nat}{m f k:Nat}(h:k<m):(rgS p q m f)[k]?=some (sAt p q (f+k)):=by
 unfold rgS;rw[K0h,K3c h];rfl
theorem z6f {p q:List Nat}{m:Nat}(h:m<=q.length) (h0:0<q.length):q.take m=rgS p q m p.length:=by
 refine K3u λk=>?_;by_cases hk:k<m
 ·rw[K1f,if_pos hk,z0R hk,z2A (by omega)];unfold sAt;rw[if_neg (by omega),K3o,K2s (by omega)];rfl
 ·rw[K0n (by rw[K0a];omega),K0n (by rw[z0d];omega)]
theorem z7c {p q:List Nat}{m f:Nat}(hm:0<m) (e:sAt p q f=sAt p q (f+m)):(rgS p q m (f+1)).drop (m - 1)++(rgS p q m (f+1)).take (m - 1)=rgS p q m f:=by
 refine K3u λk=>?_;have dl:((rgS p q m (f+1)).drop (m - 1)).length=1:=by rw[K1a,z0d];omega
 by_cases hk:k<m
 ·rw[z0R hk];by_cases k0:k=0
  ·subst k0;rw[K03 (by omega),List.getElem?_drop,z0R (by omega),show f+1+(m - 1+0)=f+m by omega,<- e];rfl
  ·rw[K1l (by omega),dl,K1f,if_pos (by omega),z0R (by omega)];congr 2;omega
 ·rw[K0n (by rw[K01,dl,K0a,z0d];omega),K0n (by rw[z0d];omega)]
theorem z7u {p q:List Nat}{m f:Nat}(hm:0<m):(rgS p q m (f+1))[m - 1]?=some (sAt p q (f+m)):=by
 rw[z0R (by omega)];congr 2;omega
theorem z2j {p q:List Nat}{k:Nat}(h:k<p.length):p[k]?=some (sAt p q k):=by
 unfold sAt;rw[if_pos h,K6 h];rfl
theorem z2r {p q:List Nat}{f:Nat}(h:f<=p.length):(K0q f).map (λk=>sAt p q k)=p.take f:=by
 refine K3u λk=>?_;by_cases hk:k<f
 ·rw[K0h,K3c hk,K1f,if_pos hk,z2j (q:=q) (by omega)];rfl
 ·rw[K0n (by simp;omega),K0n (by rw[K0a];omega)]
theorem z7v {p q:List Nat}(h:0<q.length) (k:Nat):sAt p q k∈p++q:=(zd8 h).mpr ⟨k,rfl⟩
theorem z6F {p r:List Nat}{n:Nat}(hr:0<r.length):x9 [rnD p r,.int n]=pure (.int (sAt p r n)):=by
 unfold x9;rw[z2Z,z22];show z0J [some (rnD p r),.(i n)]=_;unfold z0J rnD sAt;simp only[K09,K00,z4,aNil,z0Q,z8,bNil,z0z,e2,Z8,eVar,ix0,Y9,z5N,sIf,sRet,Z7];by_cases h:n<p.length
 ·rw[decide_eq_true (show (n:Int)<p.length by omega),if_pos h];simp only[z0z,if_true,ix_tup (z7s h)]
 ·rw[decide_eq_false (show ¬ (n:Int)<p.length by omega),if_neg h];simp only[K0x,K09,K00,z7f hr h,z0z,if_false,ix0,ix1,ix_tup (z7s (K27 _ hr)),Y9,z9f (show (0:Int)<r.length by omega),Z7,z6r]
section
variable {h:AH}{γ:G}
theorem z61 (xs:List D) (h0:0<xs.length):cutD xs (some (-1)) none=xs.drop (xs.length - 1):=by
 unfold cutD;rw[HT.sIx_none];have e:HT.sIx xs.length 0 (some (-1))=xs.length - 1:=by
  unfold HT.sIx;dsimp only;rw[if_pos (by decide)];omega
 rw[e];exact K6g (by rw[K1a];omega)
theorem z5n (xs:List D) (h0:0<xs.length):cutD xs none (some (-1))=xs.take (xs.length - 1):=by
 unfold cutD;rw[HT.sIx_none];have e:HT.sIx xs.length xs.length (some (-1))=xs.length - 1:=by
  unfold HT.sIx;dsimp only;rw[if_pos (by decide)];omega
 rw[e,K9i,Nat.sub_zero]
theorem z40 {ma mb:G->M D}{l:List Nat}{m:Nat}(e1:ma γ h=.ok (.tup (stD l)) h) (e2':mb γ h=.ok (.int (m:Nat)) h):j9 ma Y5 (J8 mb) γ h=.ok (.tup (stD (l.take m))) h:=by
 have e3:J8 mb γ h=.ok (some (m:Int)) h:=by
  unfold J8;rw[M.bind_ok e2'];rfl
 unfold j9;rw[M.bind_ok e1,M.bind_ok (show Y5 γ h=.ok none h from rfl),M.bind_ok e3,sl_tup,z6P];unfold stD;rw[K7p];rfl
theorem zj4 {ma:G->M D}{l:List Nat}(h0:0<l.length) (e1:ma γ h=.ok (.tup (stD l)) h):j9 ma (J8 (eNeg (λ_=>pure (.int 1)))) Y5 γ h=.ok (.tup (stD (l.drop (l.length - 1)))) h:=by
 have e3:J8 (eNeg (λ_=>pure (.int 1))) γ h=.ok (some (-1:Int)) h:=rfl;unfold j9;rw[M.bind_ok e1,M.bind_ok e3,M.bind_ok (show Y5 γ h=.ok none h from rfl),sl_tup,z61 _ (by rw[Z7];exact h0),Z7];unfold stD;rw[K5k];rfl
theorem zh3 {ma:G->M D}{l:List Nat}(h0:0<l.length) (e1:ma γ h=.ok (.tup (stD l)) h):j9 ma Y5 (J8 (eNeg (λ_=>pure (.int 1)))) γ h=.ok (.tup (stD (l.take (l.length - 1)))) h:=by
 have e3:J8 (eNeg (λ_=>pure (.int 1))) γ h=.ok (some (-1:Int)) h:=rfl;unfold j9;rw[M.bind_ok e1,M.bind_ok (show Y5 γ h=.ok none h from rfl),M.bind_ok e3,sl_tup,z5n _ (by rw[Z7];exact h0),Z7];unfold stD;rw[K7p];rfl
theorem z7G (a n:Nat):z77 (a:Nat) n=stD (K71 a n):=by
 unfold z77 stD;rw[List.range'_eq_map_range,K4k];refine List.map_congr_left λk _=>?_;simp
theorem zi9 {ma mb:G->M D}{a b:Nat}(ea:ma γ h=.ok (.int (a:Nat)) h) (eb:mb γ h=.ok (.int (b:Nat)) h) (ha:a<=1000) (hb:b<=1000):z21 ma mb γ h=.ok (.con (stD (K71 a (b - a)))) h:=by
 unfold z21;rw[M.bind_ok ea,M.bind_ok eb];dsimp only;rw[if_pos (by unfold okR;rw[decide_eq_true (show -(2 ^ 62)<=((a:Nat):Int) by omega),decide_eq_true (show ((a:Nat):Int)<2 ^ 62 by omega),decide_eq_true (show -(2 ^ 62)<=((b:Nat):Int) by omega),decide_eq_true (show ((b:Nat):Int)<2 ^ 62 by omega)];rfl)];rw[show ((b:Int) - (a:Int)).toNat=b - a by omega];rw[z7G];rfl
theorem za3 {q:List Nat}(h0:0<q.length) (l:q.length<=400):∃k,IsL q k/\z0b [.tup (stD q)] h=.ok (.tup (stD (q.take k))) h:=by
 have key:W (runF 2 x8 [.tup (stD q)]) h λd h1=>(∃k,IsL q k/\d=.tup (stD (q.take k)))/\h1=h:=by
  refine z2s ?_;show W (x8 [.(g (stD q)),none]) h _;unfold x8;refine z9s (λγ h1=>∃w,γ=[.(g (stD q)),w]/\h1=h/\∀j,0<j->j<q.length->perB q j=false) ?_ ?_
  ·refine z58 (λc γ h1=>∃w,γ=[.(g (stD q)),w]/\h1=h/\∀j,0<j->j<=c->perB q j=false) (λd h1=>(∃k,IsL q k/\d=.tup (stD (q.take k)))/\h1=h) ?_;refine W.of (zi9 (a:=1) (b:=q.length) rfl (J6 (Z0 rfl) (by rw[Y9,Z7];rfl)) (by omega) (by omega)) ⟨⟨_,rfl,rfl,λj h0 h1=>by omega⟩,λ_ _ _ _=>trivial,?_,?_,λd h1 z=>z⟩
   ·rintro c d γ h1 hd ⟨w,rfl,rfl,no⟩;obtain⟨m,rfl,em⟩:=z9x (show (stD (K71 1 (q.length - 1)))[c]?=some d from hd);obtain⟨hc,em⟩:=K5.mp em;rw[List.getElem_range']at em;rw[K83]at hc;obtain rfl:m=c+1:=by omega
    refine W.of (a:=[.(g (stD q)),.(i (((c+1:Nat):Int)))]) rfl ?_;have le:q.length / (c+1) * (q.take (c+1)).length<=1000000:=by
     have:=K6u q.length (c+1);have l2:(q.take (c+1)).length<=400:=by rw[K0a];omega
     exact K0b (K3t (show q.length / (c+1)<=400 by omega) l2) (by omega)
    have cond:(λγ=>do let d <- e2 (fEqX false) (e2 z0r (j9 (eVar 0) Y5 (J8 (eVar 1))) (e2 fDiv (Z8 fLen (z4 (eVar 0) aNil)) (eVar 1))) (eVar 0) γ;asB d:G->M Bool) [.(g (stD q)),.(i (((c+1:Nat):Int)))] h1=.ok (decide (rp (q.length / (c+1)) (q.take (c+1))=q)) h1 :=
     cb_h (e2_h (e2_h (z40 (Z0 rfl) (Z0 rfl)) (e2_h (J6 (Z0 rfl) (by rw[Y9,Z7];rfl)) (Z0 rfl) (by rw[z6K (by omega) (by omega)];rfl)) (by rw[z4v (by rw[Z7];exact le) (by have:=K6u q.length (c+1);omega),z4S];rfl)) (Z0 rfl) (by rw[z4a,K1j];rfl))
    refine z0x _ cond ?_;have pi:=z7e (q:=q) (m:=c+1) (by omega) (by omega);by_cases e:rp (q.length / (c+1)) (q.take (c+1))=q
    ·rw[decide_eq_true e,if_pos rfl];exact z1o (k9 _ (z40 (Z0 rfl) (Z0 rfl)) ⟨⟨c+1,⟨by omega,by omega,pi.mp e,λj j0 j1=>no j j0 (by omega)⟩,rfl⟩,rfl⟩)
    ·rw[decide_eq_false e,if_neg (by decide)];refine z0y (z3n ⟨_,rfl,rfl,λj j0 j1=>?_⟩);by_cases z:j<=c
     ·exact no j j0 z
     ·obtain rfl:j=c+1:=by omega
      exact Bool.eq_false_iff.mpr λy=>e (pi.mpr y)
   ·rintro γ h1 ⟨w,rfl,rfl,no⟩;refine⟨w,rfl,rfl,λj j0 j1=>no j j0 ?_⟩;show j<=(stD (K71 1 (q.length - 1))).length;rw[Z7,K83];omega
  ·rintro γ h1 ⟨w,rfl,rfl,no⟩;exact k9 _ (Z0 rfl) ⟨⟨q.length,⟨h0,K05 _,z8u,no⟩,by rw[K8x]⟩,rfl⟩
 obtain⟨d,h1,e,⟨k,hk,rfl⟩,rfl⟩:=key;exact⟨k,hk,z0D e (z6x _)⟩
theorem z9F {p q:List Nat}(h0:0<q.length) (l:p.length+q.length<=400):∃m,IsL q m/\Y4 [.tup (stD p),.tup (stD q)] h=.ok (rnD (p.take (j7 p q m p.length)) (rgS p q m (j7 p q m p.length))) h:=by
 obtain⟨k,hk,er⟩:=za3 (h:=h) h0 (by omega);refine⟨k,hk,?_⟩;have k0:=hk.p;have k1:=hk.l;rw[z6f hk.l h0 (p:=p)]at er;have key:W (runF 3 x6 [.tup (stD p),.tup (stD q)]) h λd h1=>d=rnD (p.take (j7 p q k p.length)) (rgS p q k (j7 p q k p.length))/\h1=h:=by
  refine z2s ?_;show W (x6 [.(g (stD p)),.(g (stD q)),none]) h _;unfold x6;refine z0C (.tup (stD (rgS p q k p.length))) [.(g (stD p)),.(g ((stD (rgS p q k p.length)))),none] (fn_h (ds:=[.tup (stD q)]) (ac_h (Z0 rfl) rfl) rfl er) rfl ?_;refine z0C (.int (p.length:Nat)) [.(g (stD p)),.(g ((stD (rgS p q k p.length)))),.(i (p.length:Nat))] (J6 (Z0 rfl) (by rw[Y9,Z7];rfl)) rfl ?_;refine z9s (λγ h1=>γ=[.(g (stD p)),.(g ((stD (rgS p q k (j7 p q k p.length))))),.(i (j7 p q k p.length:Nat))]/\h1=h) ?_ ?_
  ·refine z1g (λm γ h1=>m<=p.length/\γ=[.(g (stD p)),.(g ((stD (rgS p q k m)))),.(i (m:Nat))]/\h1=h/\j7 p q k m=j7 p q k p.length) _ _ ?_ 1000000 p.length _ _ (by omega) ⟨K05 _,rfl,rfl,rfl⟩;rintro m γ h1 ⟨hm,rfl,rfl,st⟩;have e1:(λγ=>do let d <- e2 fGt (eVar 2) (λ_=>pure (.int 0)) γ;asB d:G->M Bool) [.(g (stD p)),.(g ((stD (rgS p q k m)))),.(i (m:Nat))] h1=.ok (decide (0<m)) h1:=cb_h (e2_h (Z0 rfl) (y:=.int 0) rfl (by
    rw[zf1];show Res.ok (D.bl (decide (0<(m:Int)))) h1=_;rw[show decide (0<(m:Int))=decide (0<m) from decide_eq_decide.mpr (by omega)]))
   by_cases m0:0<m
   ·obtain⟨m',rfl⟩:∃m',m=m'+1:=⟨m - 1,by omega⟩;have ex:=z2j (p:=p) (q:=q) (k:=m') (by omega);have ey:=z7u (p:=p) (q:=q) (f:=m') k0;have last:atI (stD (rgS p q k (m'+1))) (-1)=.(i ((sAt p q (m'+k):Nat))):=by
     unfold atI ixN;rw[Z7,z0d];rw[if_neg (by omega),if_pos (by omega)];show (stD (rgS p q k (m'+1)))[((-1:Int)+k).toNat]?=_;rw[show ((-1:Int)+k).toNat=k - 1 by omega];unfold stD;rw[K0h,ey];rfl
    have e2':(λγ=>do let d <- e2 (fEqX false) (e2 fIx (eVar 0) (e2 fSub (eVar 2) (λ_=>pure (.int 1)))) (e2 fIx (eVar 1) (eNeg (λ_=>pure (.int 1)))) γ;asB d:G->M Bool) [.(g (stD p)),.(g ((stD (rgS p q k (m'+1))))),.(i (((m'+1:Nat):Int)))] h1=.ok (decide (sAt p q m'=sAt p q (m'+k))) h1 :=
     cb_h (e2_h (x:=.int (sAt p q m':Nat)) (y:=.int (sAt p q (m'+k):Nat)) (e2_h (Z0 rfl) (e2_h (x:=.int ((m'+1:Nat):Int)) (Z0 rfl) (y:=.int 1) rfl (show fSub _ _ _=.ok (.int (m':Nat)) h1 by
      show Res.ok (D.int (((m'+1:Nat):Int) - 1)) h1=_;rw[show ((m'+1:Nat):Int) - 1=(m':Int) by omega])) (by rw[ix_tup (z32 (show (stD p)[m']?=.(i (sAt p q m':Nat)) by unfold stD;rw[K0h,ex];rfl))];rfl)) (e2_h (Z0 rfl) (y:=.int (-1)) rfl (by rw[ix_tup last];rfl)) (by
       rw[z6E];show Res.ok (D.bl (decide ((sAt p q m':Int)=(sAt p q (m'+k):Int)) != false)) h1=_;rw[K1j,show decide ((sAt p q m':Int)=(sAt p q (m'+k):Int))=decide (sAt p q m'=sAt p q (m'+k)) from decide_eq_decide.mpr (by omega)]))
    refine W.of (a:=decide (sAt p q m'=sAt p q (m'+k))) (h':=h1) ?_ ?_
    ·unfold cAnd;rw[M.bind_ok e1,decide_eq_true m0,if_pos rfl];exact e2'
    by_cases xy:sAt p q m'=sAt p q (m'+k)
    ·rw[decide_eq_true xy,if_pos rfl];refine⟨m',rfl,?_⟩;have cl:(rgS p q k (m'+1)).length=k:=z0d;have ad:(stD ((rgS p q k (m'+1)).drop (k - 1))).length+(stD ((rgS p q k (m'+1)).take (k - 1))).length<=1000000:=by rw[Z7,Z7,K1a,K0a];omega
     have sA:=zj4 (γ:=[.(g (stD p)),.(g ((stD (rgS p q k (m'+1))))),.(i (((m'+1:Nat):Int)))]) (h:=h1) (ma:=eVar 1) (l:=rgS p q k (m'+1)) (by omega) (Z0 rfl);have sB:=zh3 (γ:=[.(g (stD p)),.(g ((stD (rgS p q k (m'+1))))),.(i (((m'+1:Nat):Int)))]) (h:=h1) (ma:=eVar 1) (l:=rgS p q k (m'+1)) (by omega) (Z0 rfl);rw[cl]at sA sB;refine z0C (.tup (stD (rgS p q k m'))) [.(g (stD p)),.(g ((stD (rgS p q k m')))),.(i (((m'+1:Nat):Int)))] (e2_h sA sB (by rw[z1B ad,z1p,z7c k0 xy];rfl)) rfl ?_;rw[w_cons];refine W.of (a:=.nx [.(g (stD p)),.(g ((stD (rgS p q k m')))),.(i ((((m'+1:Nat):Int) - 1)))]) (h':=h1) rfl ?_;rw[show ((m'+1:Nat):Int) - 1=(m':Int) by omega];refine z3n ⟨m',K05 _,by omega,rfl,rfl,?_⟩;rw[<- st];show _=if sAt p q m'=sAt p q (m'+k) then j7 p q k m' else m'+1
     rw[if_pos xy]
    ·rw[decide_eq_false xy,if_neg (by decide)];have:j7 p q k (m'+1)=m'+1:=by
      show (if sAt p q m'=sAt p q (m'+k) then j7 p q k m' else m'+1)=_;rw[if_neg xy]
     rw[<- st,this];exact⟨rfl,rfl⟩
   ·refine W.of (a:=false) (h':=h1) ?_ ?_
    ·unfold cAnd;rw[M.bind_ok e1,decide_eq_false m0,if_neg (by decide)];rfl
    rw[if_neg (by decide)];obtain rfl:m=0:=by omega
    rw[<- st];exact⟨rfl,rfl⟩
  ·rintro γ h1 ⟨rfl,rfl⟩;refine k9 (rnD (p.take (j7 p q k p.length)) (rgS p q k (j7 p q k p.length))) ?_ ⟨rfl,rfl⟩;exact z1l (z40 (Z0 rfl) (Z0 rfl)) (Z0 rfl)
 obtain⟨d,h1,e,rfl,rfl⟩:=key;exact z0D e (z2B _ _)
end
theorem TA.app {h:AH}{d:D}(t:TA h d) (j:AH):TA (h++j) d:=λj' T hT=>by rw[K32];exact t (j++j') T hT
theorem TB.app {h:AH}(j:AH):∀{n:Nat}{d:D},TB n h d->TB n (h++j) d
 | 0,_,t=>TA.app t j
 | _+1,_,t=>⟨t.1.app j,λxs e x hx=>TB.app j (t.2 xs e x hx)⟩
theorem z94 {h:AH}{l:List Nat}:TB 1 h (.tup (stD l)):=⟨λj T hT=>(by rcases hT with rfl|rfl|rfl<;>rfl),λxs e x hx=>by
 cases e;obtain⟨y,_,rfl⟩:=z8U hx;exact λj T hT=>by rcases hT with rfl|rfl|rfl<;>rfl⟩
theorem z4k {h:AH}{p q:List Nat}:TB 2 h (rnD p q):=⟨λj T hT=>(by rcases hT with rfl|rfl|rfl<;>rfl),λxs e x hx=>by
 cases e;simp only[K1c,K5s,or_false]at hx;rcases hx with rfl|rfl
 ·exact z94
 ·exact z94⟩
theorem z6I {n x:Nat}{l:List Nat}(h:x∈rp n l):x∈l:=by
 unfold rp at h;obtain⟨a,ha,hx⟩:=List.mem_flatten.mp h;rw[(List.mem_replicate.mp ha).2]at hx;exact hx
section
variable {h h1:AH}{γ:G}{n:Nat}{fs:List (Str×D)}
theorem z6D {c f:Str}{a:Nat}{d:D}(e:γ[a]?=some (.(r n))) (g:h[n]?=some (.ins c fs)) (hl:fs.length<1000):gFld c f (eVar a) d γ h=.ok γ (h.set n (.ins c (putD f d fs))):=by
 unfold gFld;rw[M.bind_ok (Z0 e)];have e2:z6h c f d (.ref n) h=.ok .non (h.set n (.ins c (putD f d fs))):=by
  unfold z6h;dsimp only;rw[g];dsimp only;rw[if_pos ⟨rfl,hl⟩]
 rw[M.bind_ok e2];rfl
theorem ze9 {c f:Str}{me:G->M D}{d:D}(e:me γ h=.ok (.ref n) h) (g:h[n]?=some (.ins c fs)) (l:fs.lookup f=some d):eFld c f me γ h=.ok d h:=by
 unfold eFld;rw[M.bind_ok e];unfold fFld;dsimp only;rw[g];dsimp only;rw[if_pos rfl,l]
def rnF (p q:List Nat):List (Str×D):=[("path",.tup (stD p)),("ring",.tup (stD q))]
theorem z7a {p q:List Nat}(g:h[n]?=some (.ins "Run" [])) (r:RT 40 p q) (tb:TB 2 h (rnD p q)):∃m,IsL q m/\Z9 [.ref n,.tup (stD p),.tup (stD q)] h=.ok .non (h.set n (.ins "Run" (rnF (p.take (j7 p q m p.length)) (rgS p q m (j7 p q m p.length))))):=by
 obtain⟨m,il,ef⟩:=z9F (h:=h) r.ne r.l;refine⟨m,il,?_⟩;generalize p.take (j7 p q m p.length)=p' at *;generalize rgS p q m (j7 p q m p.length)=q' at *;have td:z2a 40 (rnD p q)=true:=by
  show z2a ((40:Nat):Int) (rnD p q)=true;rw[z7U r.ne r.l,K0t];intro x hx;exact decide_eq_true (r.lt x hx)
 have et:z0h [rnD p q] h=.ok (.bl true) h:=by rw[z92 tb,td]
 have e1:noE (cNot (cVal (eFn 1 z0h (z4 (eTup (z4 (eVar 1) (z4 (eVar 2) aNil))) aNil)))) [.(r n),.(g (stD p)),.(g (stD q))] h=.ok false h :=
  z8T (cn_h (b:=true) (cv_h (fn_h (ds:=[rnD p q]) (ac_h (z1l (Z0 rfl) (Z0 rfl)) rfl) rfl et)))
 have lt:=(K5.mp g).1;have g2:(h.set n (.ins "Run" (putD "path" (.tup (stD p')) [])))[n]?=some (.ins "Run" (putD "path" (.tup (stD p')) [])):=K1n lt;have e2:noE (sAsg (eFn 2 Y4 (z4 (eVar 1) (z4 (eVar 2) aNil))) (gT 2 (z00 (gFld "Run" "path" (eVar 0)) (z00 (gFld "Run" "ring" (eVar 0)) z1q)))) [.(r n),.(g (stD p)),.(g (stD q))] h=.ok (.nx [.(r n),.(g (stD p)),.(g (stD q))]) (h.set n (.ins "Run" (rnF p' q'))):=by
  refine z8T ?_;unfold sAsg;have ed:eFn 2 Y4 (z4 (eVar 1) (z4 (eVar 2) aNil)) [.(r n),.(g (stD p)),.(g (stD q))] h=.ok (.tup [.tup (stD p'),.tup (stD q')]) h:=fn_h (ds:=[.tup (stD p),.tup (stD q)]) (ac_h (Z0 rfl) (ac_h (Z0 rfl) rfl)) rfl ef;rw[M.bind_ok ed];have eg:gT 2 (z00 (gFld "Run" "path" (eVar 0)) (z00 (gFld "Run" "ring" (eVar 0)) z1q)) (.tup [.tup (stD p'),.tup (stD q')]) [.(r n),.(g (stD p)),.(g (stD q))] h=.ok [.(r n),.(g (stD p)),.(g (stD q))] (h.set n (.ins "Run" (rnF p' q'))):=by
   show z00 (gFld "Run" "path" (eVar 0)) (z00 (gFld "Run" "ring" (eVar 0)) z1q) [.tup (stD p'),.tup (stD q')] _ h=_;show (gFld "Run" "path" (eVar 0) (.tup (stD p')) _ >>= λγ1=>z00 (gFld "Run" "ring" (eVar 0)) z1q [.tup (stD q')] γ1) h=_;rw[M.bind_ok (z6D (n:=n) (fs:=[]) rfl g (by decide))];show (gFld "Run" "ring" (eVar 0) (.tup (stD q')) _ >>= λγ1=>z1q [] γ1) (h.set n _)=_;rw[M.bind_ok (z6D (n:=n) rfl g2 (by show 1<1000;decide)),List.set_set];rfl
  rw[M.bind_ok eg];rfl
 have key:W (Z9 [.ref n,.tup (stD p),.tup (stD q)]) h λd h1=>d=.non/\h1=h.set n (.ins "Run" (rnF p' q')):=by
  refine z2s ?_;show W (Y8 [.(r n),.(g (stD p)),.(g (stD q))]) h _;unfold Y8;refine z0x false e1 ?_;rw[if_neg (by decide)];refine z0y ?_;rw[w_cons];refine W.of e2 ?_;exact z3n ⟨rfl,rfl⟩
 obtain⟨d,h1,e,rfl,rfl⟩:=key;exact e
theorem z4p {p q:List Nat}{mr:G->M (List D)}(em:mr γ h=.ok [.tup (stD p),.tup (stD q)] h) (r:RT 40 p q) (tb:TB 2 h (rnD p q)):∃m,IsL q m/\eNew "Run" 2 Z9 mr γ h=.ok (.ref h.length) (h++[.ins "Run" (rnF (p.take (j7 p q m p.length)) (rgS p q m (j7 p q m p.length)))]):=by
 obtain⟨m,il,e⟩:=z7a (n:=h.length) (h:=h++[.ins "Run" []]) z0V r (tb.app _);refine⟨m,il,?_⟩;unfold eNew;rw[M.bind_ok em,if_pos (show ([.tup (stD p),.tup (stD q)]:List D).length=2 from rfl)];unfold newI;rw[e];dsimp only;rw[z6z]
theorem zh1 {p q:List Nat}:(rnF p q).lookup ("path":Str)=.(g (stD p)):=by unfold rnF;rw[K6x]
theorem zk5 {p q:List Nat}:(rnF p q).lookup ("ring":Str)=.(g (stD q)):=by
 unfold rnF;rw[K11,show (("ring":Str)==("path":Str))=false by decide +kernel];dsimp only;rw[K6x]
theorem z6k {p q:List Nat}{me:G->M D}(e:me γ h=.ok (.ref n) h) (g:h[n]?=some (.ins "Run" (rnF p q))):eFld "Run" "path" me γ h=.ok (.tup (stD p)) h:=ze9 e g zh1
theorem z2R {p q:List Nat}{me:G->M D}(e:me γ h=.ok (.ref n) h) (g:h[n]?=some (.ins "Run" (rnF p q))):eFld "Run" "ring" me γ h=.ok (.tup (stD q)) h:=ze9 e g zk5
theorem zj5 {p q:List Nat}{m:Str}(g:h[n]?=some (.ins "Run" (rnF p q))) (a:(m==("path":Str))=false) (b:(m==("ring":Str))=false):chkI "Run" m (.ref n) h=.ok () h:=by
 unfold chkI;dsimp only;rw[g];dsimp only;rw[if_pos ⟨rfl,by
  unfold rnF;rw[K11,a];dsimp only;rw[K11,b];rfl⟩]
theorem z8b {p q:List Nat}{mo:G->M D}(e:mo γ h=.ok (.ref n) h1) (g:h1[n]?=some (.ins "Run" (rnF p q))):eMt "Run" "pair" 0 Y1 mo aNil γ h=.ok (rnD p q) h1:=by
 unfold eMt;rw[M.bind_ok e,M.bind_ok (zj5 g (by decide +kernel) (by decide +kernel)),M.bind_ok (show aNil γ h1=.ok [] h1 from rfl),if_pos (show ([]:List D).length=0 from rfl)];refine z0D (z1G ?_) (z2B _ _);show W (z0l [.(r n)]) h1 _;unfold z0l;exact k9 (rnD p q) (z1l (z6k (Z0 rfl) g) (z2R (Z0 rfl) g)) ⟨rfl,rfl⟩
theorem zl9 {p q:List Nat}(g:h[n]?=some (.ins "Run" (rnF p q))):z4T "Run" (.ref n) h=.ok () h:=by
 unfold z4T;dsimp only;rw[g];dsimp only;rw[if_pos rfl]
theorem join_le (z:Str):∀l:List Str,(K70 z l).length<=(l.map λx=>x.length).sum+l.length * z.length
 | []=>by show (K9o).length<=_;exact K74 _
 | [a]=>by show a.length<=_;simp
 | a::b::l=>by
  show (a++z++K70 z (b::l)).length<=_;have:=join_le z (b::l);rw[K25,K25];rw[K0z,K7o,K02,K93];omega
def z0L (q:List Nat):Str:=K70 " " (q.map nS)
def runT (p q:List Nat):Str:=K70 " " (p.map nS++["("++z0L q++")"])
theorem z5e {l:List Nat}(h:∀x∈l,x<40):((l.map nS).map λx=>x.length).sum<=2 * l.length:=by
 induction l with
 | nil=>simp
 | cons a l ih =>
  have:=ih λx hx=>h x (by simp[hx]);have:=z9H (h a (by simp));rw[K0z,K0z,K7o,K02];omega
theorem z5K {q:List Nat}(l:q.length<=400) (h:∀x∈q,x<40):(z0L q).length<=1200:=by
 have a:=join_le " " (q.map nS);have:=z5e h;unfold z0L;rw[K1g,show (" ":Str).length=1 from rfl]at a;omega
theorem z6B {cap:List (Option Nat)}{mi:G->M Src}{q:List Nat}(e:mi γ h=.ok (.con (stD q)) h) (l:q.length<=1000) (hq:∀x∈q,x<40):z0A [none] mi (gN 0) (λ_=>pure true) (Z8 fStr (z4 (eVar 0) aNil)) γ h=.ok (.ref h.length) (h++[.lst ((q.map nS).map .str)]):=by
 have c:=z5b (cap:=[none]) (mi:=mi) (g:=gN 0) (kb:=λ_=>pure true) (me:=Z8 fStr (z4 (eVar 0) aNil)) (γ:=γ) (h:=h) (src:=.con (stD q)) (l:=q) (λ_=>true) (λx=>.str (nS x)) e rfl (λ_=>trivial) (by omega) λx hx=>⟨[.(i x)],λ_=>rfl,λ_=>rfl,λ_ j=>J6 (Z0 rfl) (by rw[zf2 (hq x hx)];rfl)⟩;rw[filter_tt]at c;rw[c,K4k];rfl
theorem jn_h {z:Str}{i:Nat}{ss:List Str}(e:h[i]?=.(l (ss.map .str))) (hz:z.length<=16) (hl:(ss.map λx=>x.length).sum+ss.length<=1048576):z4V z (.ref i) h=.ok (.str (K70 z ss)) h:=by
 rw[z8N e hz hl,show K8b z ss=K70 z ss from StrLaws.glued_eq_join _ _]
theorem z9D {q:List Nat}(l:q.length<=400) (hq:∀x∈q,x<40):k6 [.tup (stD q)] h=.ok (.str (z0L q)) h:=by
 have sm:=z5e hq;refine z3k (j:=[.lst ((q.map nS).map .str)]) (z1G ?_) rfl;show W (x4 [.(g (stD q))]) h _;unfold x4;exact k9 _ (z4j (z:=" ") rfl (z6B (cap:=[]) (z5m (Z0 rfl)) (by omega) hq) (jn_h z0V (by decide) (by rw[K1g];omega))) ⟨rfl,rfl⟩
theorem z96 {p q:List Nat}(rt:RT 40 p q) (g:h[n]?=some (.ins "Run" (rnF p q))):z2Q "Run" j8 [.ref n] h=.ok (.str (runT p q)) h:=by
 have rl:=rt.l;have hp:∀x∈p,x<40:=λx hx=>rt.lt x (by simp[hx]);have hq:∀x∈q,x<40:=λx hx=>rt.lt x (by simp[hx]);have smp:=z5e hp;have rl2:=z5K (by omega) hq;have lt:=(K5.mp g).1;have g1:(h++[O.lst ((p.map nS).map .str)])[n]?=some (.ins "Run" (rnF p q)):=by rw[K03 lt];exact g
 have ln:("("++z0L q++")":Str).length=1+(z0L q).length+1:=by rw[K25,K25];rfl
 have e:j8 [.ref n] h=.ok (.str (runT p q)) h:=by
  refine z3k (j:=[.lst ((p.map nS).map .str++[.str ("("++z0L q++")")])]) (z1G ?_) rfl;show W (x5 [.(r n),none]) h _;unfold x5 z1e;refine z0C (.ref h.length) [.(r n),.(r h.length)] (z6B (cap:=[]) (z5m (z6k (Z0 rfl) g)) (by omega) hp) rfl ?_;have ef:eFst "(" ")" (eFn 1 k6 (z4 (eFld "Run" "ring" (eVar 0)) aNil)) [.(r n),.(r h.length)] (h++[O.lst ((p.map nS).map .str)])=.ok (.str ("("++z0L q++")")) (h++[O.lst ((p.map nS).map .str)]):=by
   unfold eFst;have ed:eFn 1 k6 (z4 (eFld "Run" "ring" (eVar 0)) aNil) [.(r n),.(r h.length)] (h++[O.lst ((p.map nS).map .str)])=.ok (.str (z0L q)) (h++[O.lst ((p.map nS).map .str)]):=fn_h (ds:=[.tup (stD q)]) (ac_h (z2R (Z0 rfl) g1) rfl) rfl (z9D (by omega) hq);rw[M.bind_ok ed];dsimp only;rw[if_pos (show ("(":Str).length+(z0L q).length+(")":Str).length<=sizeLine from K0b (show (1:Nat)+(z0L q).length+1<=2000 by omega) (by decide))];rfl
  refine z6a (i:=h.length) rfl z0V (by simp;omega) ef ?_;rw[z6z];have ex:((p.map nS).map D.str++[D.str ("("++z0L q++")")])=(p.map nS++["("++z0L q++")"]).map .str:=by rw[K98];rfl
  refine k9 (.str (runT p q)) (z4j (z:=" ") rfl (Z0 rfl) (jn_h (ss:=p.map nS++["("++z0L q++")"]) (by rw[<- ex];exact z0V) (by decide) ?_)) ⟨rfl,rfl⟩;rw[K98,List.sum_append,K01,K1g,K0z,K65,K7o,List.sum_nil,ln];simp only[K02,K0k];omega
 unfold z2Q;dsimp only;rw[M.bind_ok (zl9 g),M.bind_ok e];rfl
end
def EP (s:Nat->Nat) (d N:Nat):Prop:=∀k,N<=k->s (k+d)=s k
theorem EP.up {s:Nat->Nat}{d N M:Nat}(a:EP s d N) (h:N<=M):EP s d M:=λk hk=>a k (K0b h hk)
theorem EP.sub {s:Nat->Nat}{a b N:Nat}(x:EP s a N) (y:EP s b N) (h:a<=b):EP s (b - a) N:=λk hk=>by
 have h1:=x (k+(b - a)) (by omega);have h2:=y k hk;rw[show k+(b - a)+a=k+b by omega]at h1;rw[<- h1,h2]
theorem EP.mod {s:Nat->Nat}{a N:Nat}(h0:0<a) (x:EP s a N):∀b,EP s b N->EP s (b % a) N:=λb=>by
 induction b using K6t with
 | _ b ih =>
  intro y;by_cases h:b<a
  ·rw[K2s h];exact y
  ·rw[K87 (by omega)];exact ih (b - a) (by omega) (x.sub y (by omega))
theorem EP.mul {s:Nat->Nat}{a N:Nat}(x:EP s a N) (k:Nat) (hk:N<=k):∀i,s (k+i * a)=s k
 | 0=>by rw[Nat.zero_mul,Nat.add_zero]
 | i+1=>by
  rw[K8g,<- Nat.add_assoc,x (k+i * a) (by omega),EP.mul x k hk i]
theorem z8G (P:Nat->Prop):∀n,P n->∃m,m<=n/\P m/\∀j,j<m->¬ P j:=λn=>by
 induction n using K6t with
 | _ n ih =>
  intro hn;rcases Classical.em (∃j,j<n/\P j) with ⟨j,hj,pj⟩|z
  ·obtain⟨m,a,b,c⟩:=ih j hj pj;exact⟨m,by omega,b,c⟩
  ·exact⟨n,K05 _,hn,λj hj pj=>z ⟨j,hj,pj⟩⟩
section
variable {p q:List Nat}
theorem z0S (h0:0<q.length) {k:Nat}(hk:p.length<=k):sAt p q k=gq q ((k - p.length) % q.length):=by
 unfold sAt;rw[if_neg (by omega)];rfl
theorem ep_n (h0:0<q.length) (i:Nat):EP (sAt p q) (i * q.length) p.length:=λk hk=>by
 rw[z0S h0 (by omega),z0S h0 hk,show k+i * q.length - p.length=(k - p.length)+i * q.length by omega,Nat.add_mul_mod_self_right]
theorem z7P {m:Nat}(y:perB q m=true):q.length % m=0/\∀k,k<q.length->gq q k=gq q (k % m):=by
 unfold perB at y;rw[K06,decide_eq_true_eq,z1b]at y;exact y
theorem z98 {m:Nat}(h0:0<q.length) (y:perB q m=true):EP (sAt p q) m p.length:=λk hk=>by
 obtain⟨d,a⟩:=z7P y;have dv:=K6k d;rw[z0S h0 (by omega),z0S h0 hk,a _ (K27 _ h0),a ((k - p.length) % q.length) (K27 _ h0),K86 _ dv,K86 _ dv,show k+m - p.length=(k - p.length)+m by omega,Nat.add_mod_right]
theorem IsL.least {m d N:Nat}(h0:0<q.length) (il:IsL q m) (hd:0<d) (x:EP (sAt p q) d N):m<=d:=by
 obtain⟨e,he,⟨e0,M,xe⟩,mn⟩:=z8G (λd=>0<d/\∃N,EP (sAt p q) d N) d ⟨hd,N,x⟩;have M1:M<=M+p.length:=by omega
 have xn:=(ep_n (p:=p) h0 1).up (show p.length<=M+p.length by omega);rw[Nat.one_mul]at xn;have dv:q.length % e=0:=by
  rcases Nat.eq_zero_or_pos (q.length % e) with z|z
  ·exact z
  ·exact absurd ⟨z,_,EP.mod e0 (xe.up M1) _ xn⟩ (mn _ (K27 _ e0))
 have pe:perB q e=true:=by
  unfold perB;rw[K06,decide_eq_true_eq,z1b];refine⟨dv,λj hj=>?_⟩;have big:∀j,j<q.length->sAt p q (p.length+j+M * q.length)=gq q j:=λj hj=>by
   rw[(ep_n h0 M) (p.length+j) (by omega),z0S h0 (by omega),K3o,K2s hj]
  have hm:M<=M * q.length:=Nat.le_mul_of_pos_right M h0;have jm:j % e<q.length:=K88 (Nat.mod_le _ _) hj;rw[<- big j hj,<- big (j % e) jm];have:=xe.mul (p.length+j % e+M * q.length) (by omega) (j / e);rw[<- this];congr 1;have:=K9a j e;rw[K22]at this;omega
 rcases Nat.lt_or_ge e m with z|z
 ·have:=il.n e e0 z;rw[pe]at this;cases this
 ·omega
theorem z2S {m:Nat}:∀l k,j7 p q m l<=k->k<l->sAt p q (k+m)=sAt p q k
 | 0,k,_,h=>by omega
 | l+1,k,a,h=>by
  unfold j7 at a;split at a
  ·rename_i e;by_cases z:k=l
   ·subst z;exact e.symm
   ·exact z2S l k a (by omega)
  ·omega
theorem z2b {m:Nat}:∀l,j7 p q m l=0\/sAt p q (j7 p q m l - 1+m)≠sAt p q (j7 p q m l - 1)
 | 0=>.inl rfl
 | l+1=>by
  unfold j7;split
  ·exact z2b l
  ·rename_i e;right;rw[Nat.add_sub_cancel];exact λz=>e z.symm
theorem z3i {m:Nat}(h0:0<q.length) (il:IsL q m):EP (sAt p q) m (j7 p q m p.length):=λk hk=>by
 by_cases z:k<p.length
 ·exact z2S _ k hk z
 ·exact z98 h0 il.y k (by omega)
end
section
variable {p q p' q':List Nat}{m m':Nat}
theorem z5c (h0:0<q.length) (h0':0<q'.length) (il:IsL q m) (il':IsL q' m') (e:∀k,sAt p q k=sAt p' q' k) :
 p.take (j7 p q m p.length)=p'.take (j7 p' q' m' p'.length)/\rgS p q m (j7 p q m p.length)=rgS p' q' m' (j7 p' q' m' p'.length):=by
 have es:sAt p q=sAt p' q':=funext e;have f1:=z3i (p:=p) h0 il;have f2:=z3i (p:=p') h0' il';have c1:=z2b (p:=p) (q:=q) (m:=m) p.length;have c2:=z2b (p:=p') (q:=q') (m:=m') p'.length;have l1:=z20 (p:=p) (q:=q) (m:=m) p.length;have l2:=z20 (p:=p') (q:=q') (m:=m') p'.length;have a1:m<=m':=il.least (p:=p) h0 il'.p (es ▸ f2);have a2:m'<=m:=il'.least (p:=p') h0' il.p (es ▸ f1);obtain rfl:m=m':=by omega
 rw[<- z2r (q:=q) l1,<- z2r (q:=q') l2];unfold rgS;rw[es]at f1 c1 ⊢;generalize j7 p q m p.length=F at *;generalize j7 p' q' m p'.length=F' at *;have:F=F':=by
  rcases K8o F F' with z|z|z
  ·rcases c2 with c|c
   ·omega
   ·exact absurd (f1 (F' - 1) (by omega)) c
  ·exact z
  ·rcases c1 with c|c
   ·omega
   ·exact absurd (f2 (F - 1) (by omega)) c
 subst this;exact⟨rfl,rfl⟩
theorem z4C (h0:0<q.length) (il:IsL q m) (k:Nat):sAt (p.take (j7 p q m p.length)) (rgS p q m (j7 p q m p.length)) k=sAt p q k:=by
 have l1:=z20 (p:=p) (q:=q) (m:=m) p.length;have f1:=z3i (p:=p) h0 il;generalize j7 p q m p.length=F at *;have pl:(p.take F).length=F:=by rw[K0a];omega
 have m0:=il.p;by_cases z:k<F
 ·have e1:=z2j (p:=p.take F) (q:=rgS p q m F) (k:=k) (by omega);have e2:=z2j (p:=p) (q:=q) (k:=k) (by omega);rw[K1f,if_pos z,e2]at e1;injection e1 with e1
  exact e1.symm
 ·rw[z0S (by rw[z0d];exact m0) (by omega),pl,z0d];unfold gq;rw[z0R (K27 _ m0)];show sAt p q (F+(k - F) % m)=_;have:=f1.mul (F+(k - F) % m) (by omega) ((k - F) / m);rw[<- this];congr 1;have:=K9a (k - F) m;rw[K22]at this;omega
theorem z4J (h0:0<q.length) (h0':0<q'.length) (a:∀k,k<p.length+p'.length+q.length * q'.length->sAt p q k=sAt p' q' k):∀k,sAt p q k=sAt p' q' k:=λk=>by
 induction k using K6t with
 | _ k ih =>
  by_cases z:k<p.length+p'.length+q.length * q'.length
  ·exact a k z
  ·have pos:0<q.length * q'.length:=Nat.mul_pos h0 h0';have e1:=ep_n (p:=p) h0 q'.length (k - q.length * q'.length) (by omega);have e2:=ep_n (p:=p') h0' q.length (k - q.length * q'.length) (by omega);rw[K22 q'.length,K85 (by omega)]at e1;rw[K85 (by omega)]at e2;rw[e1,e2];exact ih _ (by omega)
theorem z6i (h0:0<q.length) (h0':0<q'.length) (il:IsL q m) (il':IsL q' m') :
 (∀k,k<p.length+p'.length+q.length * q'.length->sAt p q k=sAt p' q' k)↔(p.take (j7 p q m p.length)=p'.take (j7 p' q' m' p'.length)/\rgS p q m (j7 p q m p.length)=rgS p' q' m' (j7 p' q' m' p'.length)):=by
 constructor
 ·exact λa=>z5c h0 h0' il il' (z4J h0 h0' a)
 ·rintro⟨a,b⟩ k _;rw[<- z4C h0 il k,<- z4C h0' il' k,a,b]
end
section
variable {h h1 h2:AH}{γ:G}{n n':Nat}{p q p' q':List Nat}
theorem z1C (g:h[n]?=some (.ins "Run" (rnF p q))):kI "Run" (.ref n) h=.ok true h:=by
 unfold kI;dsimp only;rw[g];dsimp only;rw[if_pos rfl]
theorem z9q {me:G->M D}{d:D}{b:Bool}(e:me γ h=.ok d h) (k:kI "Run" d h=.ok b h):eIsO "Run" me γ h=.ok (.bl b) h:=by
 unfold eIsO;rw[M.bind_ok e,M.bind_ok k];rfl
theorem eq_h (g:h[n]?=some (.ins "Run" (rnF p q))) (g':h[n']?=some (.ins "Run" (rnF p' q'))):Z2 [.ref n,.ref n'] h=.ok (.bl (decide (p=p')&&decide (q=q'))) h:=by
 refine z0D (z1G ?_) rfl;show W (J4 [.(r n),.(r n')]) h _;unfold J4;have e1:e2 (fEqX false) (eFld "Run" "path" (eVar 0)) (eFld "Run" "path" (eVar 1)) [.(r n),.(r n')] h=.ok (.bl (decide (p=p'))) h:=e2_h (z6k (Z0 rfl) g) (z6k (Z0 rfl) g') (by rw[z4a,K1j];rfl);have e2':e2 (fEqX false) (eFld "Run" "ring" (eVar 0)) (eFld "Run" "ring" (eVar 1)) [.(r n),.(r n')] h=.ok (.bl (decide (q=q'))) h:=e2_h (z2R (Z0 rfl) g) (z2R (Z0 rfl) g') (by rw[z4a,K1j];rfl);refine k9 _ (z1n (z9q (Z0 rfl) (z1C g')) λ_=>z1n e1 λ_=>e2') ⟨?_,rfl⟩;rw[K44]
theorem z8L {d:D}(g:h[n]?=some (.ins "Run" (rnF p q))) (k:kI "Run" d h=.ok false h):Z2 [.ref n,d] h=.ok (.bl false) h:=by
 refine z0D (z1G ?_) rfl;show W (J4 [.(r n),some d]) h _;unfold J4;exact k9 (.bl false) (z1n (b:=false) (c:=false) (z9q (Z0 rfl) k) λz=>nomatch z) ⟨rfl,rfl⟩
theorem fq_h {neg:Bool}(g:h[n]?=some (.ins "Run" (rnF p q))) (g':h[n']?=some (.ins "Run" (rnF p' q'))):fEqI "Run" Z2 neg (.ref n) (.ref n') h=.ok (.bl ((decide (p=p')&&decide (q=q')) != neg)) h:=by
 unfold fEqI;rw[M.bind_ok (z1C g),M.bind_ok (z1C g'),if_pos rfl,M.bind_ok (eq_h g g')];rfl
theorem zf7 {d:D}{neg:Bool}(g:h[n]?=some (.ins "Run" (rnF p q))) (k:kI "Run" d h=.ok false h):fEqI "Run" Z2 neg (.ref n) d h=.ok (.bl (false != neg)) h:=by
 unfold fEqI;rw[M.bind_ok (z1C g),M.bind_ok k,if_pos rfl,M.bind_ok (z8L g k)];rfl
theorem zh5 {d:D}(g:h[n]?=some (.ins "Run" (rnF p q))) (k:kI "Run" d h=.ok false h):fEqI "Run" Z2 false d (.ref n) h=.ok (.bl false) h:=by
 unfold fEqI;rw[M.bind_ok k,M.bind_ok (z1C g),if_neg (by decide),if_pos ⟨rfl,rfl⟩,M.bind_ok (z8L g k)];rfl
theorem fi_h {i:Nat}(hl:h[i]?=.(l [.ref n'])) (ne:n'≠n) (g:h[n]?=some (.ins "Run" (rnF p q))) (g':h[n']?=some (.ins "Run" (rnF p' q'))):fInI "Run" Z2 (.ref n) (.ref i) h=.ok (.bl (decide (p'=p)&&decide (q'=q))) h:=by
 unfold fInI;dsimp only;rw[hl];dsimp only;rw[M.bind_ok (z1C g),M.bind_ok (z1C g'),if_pos ⟨rfl,rfl⟩,if_neg ne,M.bind_ok (eq_h g' g),hl];dsimp only;rw[if_pos rfl]
theorem tr_h {ma mb:G->M D}{b:Bool}(ea:ma γ h=.ok (.bl b) h1) (eb:mb γ h1=.ok (.bl b) h2):cNot (cVal (eFn 2 Z5 (z4 ma (z4 mb aNil)))) γ h=.ok false h2 :=
 cn_h (b:=true) (cv_h (fn_h (ds:=[.bl b,.bl b]) (ac_h ea (ac_h eb rfl)) rfl (by rw[z5p];cases b<;>rfl)))
end
theorem zb6 {p q:List Nat}{laps m x:Nat}(h:x∈unP p q m++unR q laps m):x∈p++q:=by
 rw[K0g];unfold unP unR at h;rcases K0g.mp h with z|z
 ·rcases K0g.mp z with z|z
  ·exact .inl z
  ·exact .inr (z6I (K2i z))
 ·rcases K0g.mp (z6I z) with z|z
  ·exact .inr (K4a z)
  ·exact .inr (K2i z)
structure SR (p q:List Nat):Prop where
 rt:RT 40 p q
 a:p.length<=20
 b:q.length<=20
theorem SR.of {p q:List Nat}(h0:0<q.length) (a:p.length<=20) (b:q.length<=20) (l:∀x∈p++q,x<40):SR p q:=⟨⟨h0,by omega,l⟩,a,b⟩
theorem z8E {γ:G}{h:AH}{ma mb mc:G->M D}{l:List Nat}{t o:Nat}(ea:ma γ h=.ok (.tup (stD l)) h) (eb:mb γ h=.ok (.int (t:Nat)) h) (ec:mc γ h=.ok (.int (o:Nat)) h) (hl:l.length<=1000) (ht:t<l.length) :
 e2 fAdd (e2 fAdd (j9 ma Y5 (J8 mb)) (eTup (z4 mc aNil))) (j9 ma (J8 (e2 fAdd mb (λ_=>pure (.int 1)))) Y5) γ h=.ok (.tup (stD (l.take t++[o]++l.drop (t+1)))) h:=by
 have s1:=z40 ea eb;have e1:eTup (z4 mc aNil) γ h=.ok (.tup (stD [o])) h:=by
  unfold eTup;rw[M.bind_ok (ac_h ec (ds:=[]) rfl),if_pos (by unfold sizeLine;simp)];rfl
 have e3:J8 (e2 fAdd mb (λ_=>pure (.int 1))) γ h=.ok (some ((t+1:Nat):Int)) h:=by
  have:e2 fAdd mb (λ_=>pure (.int 1)) γ h=.ok (.int ((t+1:Nat):Int)) h:=e2_h eb (y:=.int 1) rfl (by rw[z0P];rfl);unfold J8;rw[M.bind_ok this];rfl
 have s2:j9 ma (J8 (e2 fAdd mb (λ_=>pure (.int 1)))) Y5 γ h=.ok (.tup (stD (l.drop (t+1)))) h:=by
  unfold j9;rw[M.bind_ok ea,M.bind_ok e3,M.bind_ok (show Y5 γ h=.ok none h from rfl),sl_tup,z4P];unfold stD;rw[K5k];rfl
 refine e2_h (e2_h s1 e1 (by rw[z1B (by rw[Z7,Z7,K0a,K0l];omega),z1p];rfl)) s2 (by rw[z1B (by rw[Z7,Z7,K01,K0a,K0l,K1a];omega),z1p];rfl)
theorem z4e {l:List Nat}{t o x:Nat}(h:x∈l.take t++[o]++l.drop (t+1)):x∈l\/x=o:=by
 simp only[K0g,K82]at h;rcases h with (h|h)|h
 ·exact .inl (K2i h)
 ·exact .inr h
 ·exact .inl (K4a h)
theorem z2Y {l:List Nat}{t o:Nat}(ht:t<l.length):(l.take t++[o]++l.drop (t+1)).length=l.length:=by
 simp only[K01,K0a,K0l,K1a];omega
theorem z9O {mr:G->M (List D)}{γ:G}{h h1:AH}{ds:List D}(e:mr γ h=.ok ds h1) (hl:ds.length<=1000):eLst mr γ h=.ok (.ref h1.length) (h1++[.lst ds]):=by
 unfold eLst;rw[M.bind_ok e];show newL ds h1=_;exact zl3 (by omega)
theorem z7Q {γ:G}{h:AH}{ka kb:G->M Bool}(e:ka γ h=.ok false h):cAnd ka kb γ h=.ok false h:=by
 unfold cAnd;rw[M.bind_ok e];rfl
theorem z5Q {h:AH}{k c:Int}{r:AH}{ms p q:List Nat}{Q:D->AH->Prop}(ps:PS h k r) (hk:k<100000) (e:r[0]?=.(l (stD ms))) (m0:0<ms.length) (m3:ms.length<=3) (hm:∀x∈ms,x<40) (lp:p.length<5) (q0:0<q.length) (lq:q.length<=4) (lt:∀x∈p++q,x<40)
 (z:∀P R h',SR P R->PS h' (k+1000) r->Q (rnD P R) h'):W (z02 [.ref 2,.int c,rnD p q,.ref 3]) h Q:=by
 refine z7h ps trivial ?_;refine z2s ?_;show W (z01 [.(r 2),.(i c),some (rnD p q),.(r 3),none,none,none]) h _;unfold z01;refine z16 (λd h1=>∃P R,d=rnD P R/\P.length<=8/\0<R.length/\R.length<=12/\(∀x∈P++R,x<40)/\PS h1 (k+10) r) ?_ ?_
 ·simp only[K09,K00,K02,K0k,K14,z23,Z6,z1F,W_pure,z4,aNil,e2,eFn,eVar,if_true];refine z1S ps (by omega) (by decide) (by decide) λu h5 u0 u1 p5=>?_;obtain⟨u,rfl⟩:=K0y u0;rw[z0P,W_pure];refine z1S p5 (by omega) (by decide) (by decide) λv h6 v0 v1 p6=>?_;obtain⟨v,rfl⟩:=K0y v0;rw[show (1:Int)+(u:Int)=((1+u:Nat):Int) by omega];have un:=z38 (p:=p) (r:=q) (laps:=1+u) (m:=v) q0 (by omega) (by omega) (by omega);rw[un,W_pure];have e1:=z7k (p:=p) q0 v;have e2':(unR q (1+u) v).length=(1+u) * q.length:=by unfold unR;rw[z3m,z5h q0]
  have le:(1+u) * q.length<=3 * 4:=K3t (by omega) lq;exact⟨_,_,rfl,by rw[e1];omega,by rw[e2'];exact Nat.mul_pos (by omega) q0,by rw[e2'];omega,λx hx=>lt x (zb6 hx),p6.up (by omega)⟩
 rintro _ h1 ⟨P,R,rfl,lP,R0,lR,lt2,p1⟩;have ip:∀(γ:G) (h:AH) (a:Nat) (p q:List Nat),γ[a]?=some (some (rnD p q))->e2 fIx (eVar a) (λ_=>pure (.int 0)) γ h=.ok (.tup (stD p)) h:=λγ h a p q e=>e2_h (Z0 e) (y:=.int 0) rfl (by unfold rnD;rw[ix0];rfl);have iq:∀(γ:G) (h:AH) (a:Nat) (p q:List Nat),γ[a]?=some (some (rnD p q))->e2 fIx (eVar a) (λ_=>pure (.int 1)) γ h=.ok (.tup (stD q)) h:=λγ h a p q e=>e2_h (Z0 e) (y:=.int 1) rfl (by unfold rnD;rw[ix1];rfl);refine z16 (λd h2=>∃t:Nat,d=.int (t:Nat)/\t<P.length+R.length/\PS h2 (k+20) r) ?_ ?_
 ·have el:eFn 2 z9 (z4 (eVar 0) (z4 (e2 fAdd (Z8 fLen (z4 (e2 fIx (eVar 4) (λ_=>pure (.int 0))) aNil)) (Z8 fLen (z4 (e2 fIx (eVar 4) (λ_=>pure (.int 1))) aNil))) aNil)) [.(r 2),.(i c),some (rnD p q),.(r 3),some (rnD P R),none,none] h1=z9 [.ref 2,.int ((P.length+R.length:Nat):Int)] h1 :=
   fn_h (ds:=[.ref 2,.int ((P.length+R.length:Nat):Int)]) (ac_h (Z0 rfl) (ac_h (e2_h (J6 (ip _ _ 4 P R rfl) (by rw[Y9,Z7];rfl)) (J6 (iq _ _ 4 P R rfl) (by rw[Y9,Z7];rfl)) (by rw[z0P];rfl)) rfl)) rfl rfl
  obtain⟨t,h2,e2',t0,t1,p2⟩:=draw (n:=((P.length+R.length:Nat):Int)) p1 (by omega) (by omega) (by omega);obtain⟨t,rfl⟩:=K0y t0;exact⟨_,_,el.trans e2',t,rfl,by omega,p2.up (by omega)⟩
 rintro _ h2 ⟨t,rfl,ht,p2⟩;refine z16 (λd h3=>∃o:Nat,d=.int (o:Nat)/\o<40/\PS h3 (k+30) r) ?_ ?_
 ·simp only[K00,K02,K0k,K0p,K0o,K14,z23,Z6,z1F,W_pure,z4,aNil,eFn,eVar,if_true];refine z1S p2 (by omega) (by decide) (by decide) λu h5 u0 u1 p5=>?_;obtain⟨u,rfl⟩:=K0y u0;exact⟨u,rfl,by omega,p5.up (by omega)⟩
 rintro _ h3 ⟨o,rfl,ho,p3⟩;have dne:∀(P R:List Nat),SR P R->∃k' j,PS h3 k' (r++j)/\Y6 3 (rnD P R)=true/\∀h2,PS h2 k' r->Q (rnD P R) h2:=λP R s=>⟨k+30,[],by rw[K1u];exact p3,z2B _ _,λh4 p4=>z _ _ h4 s (p4.up (by omega))⟩;have cnd:∀(a:Int),(λγ=>do let d <- e2 (fEq false) (eVar 1) (λ_=>pure (.int a)) γ;asB d:G->M Bool) [.(r 2),.(i c),some (rnD p q),.(r 3),some (rnD P R),.(i (t:Nat)),.(i (o:Nat))] h3=.ok (decide (c=a)) h3:=λa=>cb_h (e2_h (Z0 rfl) (y:=.int a) rfl (by rw[z9Y,K1j];rfl));refine z0x _ (cnd 1) ?_;by_cases c1:c=1
 ·rw[decide_eq_true c1,if_pos rfl];refine z1o (k9 (rnD (p.take 0) q) (z1l (z40 (mb:=λ_=>pure (.int 0)) (m:=0) (ip _ _ 2 p q rfl) rfl) (iq _ _ 2 p q rfl)) (dne _ _ ?_));exact .of q0 (by simp) (by omega) λx hx=>lt x (by simp at hx ⊢;exact .inr hx)
 rw[decide_eq_false c1,if_neg (by decide)];refine z0y (z0x _ (cnd 2) ?_);by_cases c2:c=2
 ·rw[decide_eq_true c2,if_pos rfl];have s2:j9 (e2 fIx (eVar 2) (λ_=>pure (.int 1))) (J8 (λ_=>pure (.int 1))) Y5 [.(r 2),.(i c),some (rnD p q),.(r 3),some (rnD P R),.(i (t:Nat)),.(i (o:Nat))] h3=.ok (.tup (stD (q.drop 1))) h3:=by
   have e3:J8 (λ_=>pure (.int 1)) [.(r 2),.(i c),some (rnD p q),.(r 3),some (rnD P R),.(i (t:Nat)),.(i (o:Nat))] h3=.ok (some ((1:Nat):Int)) h3:=rfl;unfold j9;rw[M.bind_ok (iq _ _ 2 p q rfl),M.bind_ok e3,M.bind_ok (show Y5 _ h3=.ok none h3 from rfl),sl_tup,z4P];unfold stD;rw[K5k];rfl
  refine z1o (k9 (rnD p (q.drop 1++q.take 1)) (z1l (ip _ _ 2 p q rfl) (e2_h s2 (z40 (mb:=λ_=>pure (.int 1)) (m:=1) (iq _ _ 2 p q rfl) rfl) (by rw[z1B (by rw[Z7,Z7,K0a,K1a];omega),z1p];rfl))) (dne _ _ ?_));refine .of (by rw[K01,K0a,K1a];omega) (by omega) (by rw[K01,K0a,K1a];omega) λx hx=>lt x ?_;simp only[K0g]at hx ⊢;rcases hx with h|h|h
  ·exact .inl h
  ·exact .inr (K4a h)
  ·exact .inr (K2i h)
 rw[decide_eq_false c2,if_neg (by decide)];refine z0y (z0x _ (cnd 3) ?_);by_cases c3:c=3
 ·rw[decide_eq_true c3,if_pos rfl];refine z1o (z9N ?_);have:=zd9 (i:=0) (most:=4) (wide:=4) (some_:=ms) (Q:=λd h1=>∃k' j,PS h1 k' (r++j)/\Y6 3 d=true/\∀h2,PS h2 k' r->Q d h2) (by omega) m0 p3 trivial e (by omega) (by omega) (by omega) (by omega) (by omega) λP R h' a b c hp hq p'=>⟨k+500,[],by rw[K1u];exact p'.up (by omega),z2B _ _,λh4 p4=>z _ _ h4 (.of (by omega) (by omega) (by omega) λx hx=>(K0g.mp hx).elim (λy=>hm x (hp x y)) λy=>hm x (hq x y)) (p4.up (by omega))⟩;simp only[K09,K00,K02,K0k,K0p,K0o,K14,z23,Z6,z1F,W_pure,z4,aNil,eFn,eVar,if_true];exact this
 rw[decide_eq_false c3,if_neg (by decide)];refine z0y ?_;by_cases c4:c=4
 ·by_cases tP:t<P.length
  ·refine z0x true (z6v ((cnd 4).trans (by rw[decide_eq_true c4])) (cb_h (e2_h (Z0 rfl) (J6 (ip _ _ 4 P R rfl) (by rw[Y9,Z7];rfl)) (by
    rw[z5N];show Res.ok (D.bl (decide (((t:Nat):Int)<(P.length:Nat)))) h3=_;rw[decide_eq_true (by omega)])))) ?_
   rw[if_pos rfl];refine z1o (k9 (rnD (P.take t++[o]++P.drop (t+1)) R) (z1l (z8E (ip _ _ 4 P R rfl) (Z0 rfl) (Z0 rfl) (by omega) tP) (iq _ _ 4 P R rfl)) (dne _ _ ?_));refine .of R0 (by rw[z2Y tP];omega) (by omega) λx hx=>?_;rcases K0g.mp hx with h|h
   ·rcases z4e h with h|rfl
    ·exact lt2 x (by simp[h])
    ·exact ho
   ·exact lt2 x (by simp[h])
  ·refine z0x false (z6v ((cnd 4).trans (by rw[decide_eq_true c4])) (cb_h (e2_h (Z0 rfl) (J6 (ip _ _ 4 P R rfl) (by rw[Y9,Z7];rfl)) (by
    rw[z5N];show Res.ok (D.bl (decide (((t:Nat):Int)<(P.length:Nat)))) h3=_;rw[decide_eq_false (by omega)])))) ?_
   rw[if_neg (by decide)];refine z0y (z0x _ (cnd 4) ?_);rw[decide_eq_true c4,if_pos rfl];obtain⟨t',rfl⟩:∃t',t=P.length+t':=⟨t - P.length,by omega⟩;refine z1o (z0C (.int (t':Nat)) [.(r 2),.(i c),some (rnD p q),.(r 3),some (rnD P R),.(i (t':Nat)),.(i (o:Nat))] (e2_h (Z0 rfl) (J6 (ip _ _ 4 P R rfl) (by rw[Y9,Z7];rfl)) (show fSub _ _ _=.ok (.int (t':Nat)) h3 by
    show Res.ok (D.int (((P.length+t':Nat):Int) - (P.length:Nat))) h3=_;rw[show ((P.length+t':Nat):Int) - (P.length:Nat)=(t':Int) by omega])) rfl ?_)
   have tR:t'<R.length:=by omega
   refine z1o (k9 (rnD P (R.take t'++[o]++R.drop (t'+1))) (z1l (ip _ _ 4 P R rfl) (z8E (iq _ _ 4 P R rfl) (Z0 rfl) (Z0 rfl) (by omega) tR)) (dne _ _ ?_));refine .of (by rw[z2Y tR];omega) (by omega) (by rw[z2Y tR];omega) λx hx=>?_;rcases K0g.mp hx with h|h
   ·exact lt2 x (by simp[h])
   ·rcases z4e h with h|rfl
    ·exact lt2 x (by simp[h])
    ·exact ho
 ·refine z0x false (z7Q ((cnd 4).trans (by rw[decide_eq_false c4]))) ?_;rw[if_neg (by decide)];refine z0y (z0x _ (cnd 4) ?_);rw[decide_eq_false c4,if_neg (by decide)];exact z0y (k9 (rnD P R) (Z0 rfl) (dne _ _ (.of R0 (by omega) (by omega) lt2)))
theorem leaD {p q:List Nat}{m:Nat}(rt:RT 40 p q) (il:IsL q m):RT 40 (p.take (j7 p q m p.length)) (rgS p q m (j7 p q m p.length)):=by
 have a:=rt.l;have b:=il.l;refine⟨by rw[z0d];exact il.p,by rw[z0d,K0a];omega,λx hx=>rt.lt x ?_⟩;rcases K0g.mp hx with z|z
 ·exact K0g.mpr (.inl (K2i z))
 ·unfold rgS at z;obtain⟨k,_,rfl⟩:=K2h.mp z;exact z7v rt.ne _
theorem math:∀ns:List Int,ns.length<=63->∃h',m_law [.fl (ns.map .int)] []=.ok (.bl true) h':=by
 intro ns hn;have key:W (m_law [.fl (ns.map .int)]) [] λd _=>d=.bl true:=by
  refine z2s ?_;show W (z6b [some (.fl (ns.map .int)),none,none,none,none,none,none,none,none,none,none]) [] _;unfold z6b z1e;refine z16 (λd h1=>d=.ref 2/\PS h1 0 []) ?_ ?_
  ·simp only[K00,K02,K0k,K14,z23,Z6,z1F,W_pure,z4,aNil,eFn,eVar,if_true];exact z5W hn
  rintro _ h1 ⟨rfl,p1⟩;refine z16 (λd h2=>∃c:Int,d=.int c/\PS h2 1 []) ?_ ?_
  ·simp only[K09,K00,K02,K0k,K0p,K0o,K14,z23,Z6,z1F,W_pure,z4,aNil,eFn,eVar,if_true];exact z1S p1 (by omega) (by omega) (by omega) λt h2 t0 t1 p2=>⟨t,rfl,p2⟩
  rintro _ h2 ⟨c,rfl,p2⟩;refine z16 (λd h3=>∃ms:List Nat,d=.ref 3/\0<ms.length/\ms.length<=3/\(∀x∈ms,x<40)/\PS h3 10 [.lst (stD ms)]) ?_ ?_
  ·refine z6O (r:=[]) (l:=[]) (λc xs k'=>∃l:List Nat,xs=stD l/\l.length=c/\(∀x∈l,x<40)/\k'=2+c) ?_;obtain⟨m,h3,e3,m0,m1,p3⟩:=draw p2 (by omega) (show 0<(3:Int) by omega) (by omega);obtain⟨m,rfl⟩:=K0y m0;refine W.of (a:=.con (z0q (m+1))) (h':=h3) (z0M (n:=m+1) ?_ (by omega)) ⟨2,by simpa using p3.up (by omega),⟨[],rfl,rfl,by simp,by simp⟩,λ_ _ _ _=>trivial,?_,?_⟩
   ·simp only[K09,K00,K02,K0k,K0p,K0o,K14,z4,aNil,z0z,e2,eFn,eVar,if_true];rw[M.bind_ok e3,z0P,pureM];congr 2;omega
   ·rintro i d h4 k' xs hd ⟨l,rfl,lc,hm,rfl⟩ p4;obtain⟨rfl,hc⟩:=z2x (show (z0q (m+1))[i]?=some d from hd);simp only[capG,K0z,K65,K09,K00];simp only[K09,K00,K02,K0k,K0p,K0o,K14,K8t,z23,Z6,z1F,W_pure,z4,aNil,eFn,eVar,gN,if_true];refine z1S p4 (by omega) (by decide) (by decide) λu h5 u0 u1 p5=>?_;obtain⟨u,rfl⟩:=K0y u0;refine⟨_,p5,by rw[Z7];omega,l++[u],by rw[<- z55],by simp[lc],λx hx=>?_,by omega⟩;rcases K0g.mp hx with q|q
    ·exact hm x q
    ·rw[K82]at q;omega
   ·rintro h4 xs k' ⟨l,rfl,lc,hm,rfl⟩ p4;rw[show (Src.con (z0q (m+1))).items.length=m+1 by simp[Src.items,z0q]]at lc p4;exact⟨l,rfl,by omega,by omega,hm,p4.up (by omega)⟩
  rintro _ h3 ⟨ms,rfl,m0,m3,hm,p3⟩;refine z16 (λd h4=>∃p q,d=rnD p q/\p.length<5/\1<=q.length/\q.length<=4/\(∀x∈p++q,x<40)/\PS h4 300 [.lst (stD ms)]) ?_ ?_
  ·have:=zd9 (i:=0) (most:=5) (wide:=4) (some_:=ms) (Q:=λd h4=>∃p q,d=rnD p q/\p.length<5/\1<=q.length/\q.length<=4/\(∀x∈p++q,x<40)/\PS h4 300 [.lst (stD ms)]) (by omega) m0 p3 trivial rfl (by omega) (by omega) (by omega) (by omega) (by omega) λP R h' a b c hp hq p'=>⟨P,R,rfl,a,b,c,λx hx=>(K0g.mp hx).elim (λy=>hm x (hp x y)) λy=>hm x (hq x y),p'.up (by omega)⟩;simp only[K09,K00,K02,K0k,K0p,K0o,K14,z23,Z6,z1F,W_pure,z4,aNil,eFn,eVar,if_true];exact this
  rintro _ h4 ⟨p,q,rfl,lp,q0,lq,lt,p4⟩;have s1:SR p q:=.of q0 (by omega) (by omega) lt;refine z16 (λd h5=>∃p' q',d=rnD p' q'/\SR p' q') ?_ ?_
  ·have:=z5Q (c:=c) (Q:=λd h5=>∃p' q',d=rnD p' q'/\SR p' q') p4 (by omega) rfl m0 m3 hm lp q0 lq lt λP R h' s _=>⟨P,R,rfl,s⟩;simp only[K09,K00,K02,K0k,K0p,K0o,K14,z23,Z6,z1F,W_pure,z4,aNil,eFn,eVar,if_true];exact this
  rintro _ h5 ⟨p',q',rfl,s2⟩;clear p1 p2 p3 p4;have r1:=s1.rt;have r2:=s2.rt;obtain⟨N,eN⟩:∃N,N=p.length+p'.length+q.length * q'.length:=⟨_,rfl⟩;have Nle:N<=1000:=by
   have a1:=s1.a;have a2:=s2.a;have:q.length * q'.length<=20 * 20:=K3t s1.b s2.b;omega
  have ip:∀(γ:G) (h:AH) (a:Nat) (p q:List Nat),γ[a]?=some (some (rnD p q))->e2 fIx (eVar a) (λ_=>pure (.int 0)) γ h=.ok (.tup (stD p)) h:=λγ h a p q e=>e2_h (Z0 e) (y:=.int 0) rfl (by unfold rnD;rw[ix0];rfl);have iq:∀(γ:G) (h:AH) (a:Nat) (p q:List Nat),γ[a]?=some (some (rnD p q))->e2 fIx (eVar a) (λ_=>pure (.int 1)) γ h=.ok (.tup (stD q)) h:=λγ h a p q e=>e2_h (Z0 e) (y:=.int 1) rfl (by unfold rnD;rw[ix1];rfl);have ln:∀(γ:G) (h:AH) (l:List Nat) (m:G->M D),m γ h=.ok (.tup (stD l)) h->Z8 fLen (z4 m aNil) γ h=.ok (.int (l.length:Nat)) h:=λγ h l m e=>J6 e (by rw[Y9,Z7];rfl);refine z0C (h1:=h5) (.int (N:Nat)) [some (.fl (ns.map .int)),.(r 2),.(i c),.(r 3),some (rnD p q),some (rnD p' q'),.(i (N:Nat)),none,none,none,none] (e2_h (e2_h (ln _ _ _ _ (ip _ _ 4 p q rfl)) (ln _ _ _ _ (ip _ _ 5 p' q' rfl)) (by rw[z0P];rfl)) (e2_h (ln _ _ _ _ (iq _ _ 4 p q rfl)) (ln _ _ _ _ (iq _ _ 5 p' q' rfl)) (by rw[z6Q (by have:=s1.b;omega)];rfl)) (by rw[z0P,eN];rfl)) rfl ?_;obtain⟨L,eL⟩:∃L,L=(K0q N).filter λk=>decide (sAt p q k≠sAt p' q' k):=⟨_,rfl⟩;have ec:=z5b (cap:=[some 4,some 5,none]) (mi:=z14 (eVar 6)) (g:=gN 2) (kb:=λγ=>do let d <- e2 (fEqX true) (eFn 2 x9 (z4 (eVar 0) (z4 (eVar 2) aNil))) (eFn 2 x9 (z4 (eVar 1) (z4 (eVar 2) aNil))) γ;asB d) (me:=eVar 2) (γ:=[some (.fl (ns.map .int)),.(r 2),.(i c),.(r 3),some (rnD p q),some (rnD p' q'),.(i (N:Nat)),none,none,none,none]) (h:=h5) (src:=.con (z0q N)) (l:=K0q N) (λk=>decide (sAt p q k≠sAt p' q' k)) (λk=>.int (k:Nat)) (z0M (Z0 rfl) (by omega)) (z7d _) (λ_=>trivial) (by simp;omega) λk hk=>by
   refine⟨[some (rnD p q),some (rnD p' q'),.(i (k:Nat))],λ_=>rfl,λ_=>?_,λ_ j=>rfl⟩;refine cb_h (e2_h (fn_h (ds:=[rnD p q,.int (k:Nat)]) (ac_h (Z0 rfl) (ac_h (Z0 rfl) rfl)) rfl (by rw[z6F r1.ne];rfl)) (fn_h (ds:=[rnD p' q',.int (k:Nat)]) (ac_h (Z0 rfl) (ac_h (Z0 rfl) rfl)) rfl (by rw[z6F r2.ne];rfl)) ?_);rw[z6E];show Res.ok (D.bl (decide ((sAt p q k:Int)=(sAt p' q' k:Int)) != true)) _=_;rw[show decide ((sAt p q k:Int)=(sAt p' q' k:Int))=decide (sAt p q k=sAt p' q' k) from decide_eq_decide.mpr (by omega)];simp
  rw[show ((K0q N).filter λk=>decide (sAt p q k≠sAt p' q' k)).map (λ(k:Nat)=>D.int k)=stD L by rw[eL];rfl]at ec;obtain⟨h6,e6⟩:∃h6,h6=h5++[O.lst (stD L)]++[.lst (stD [])]:=⟨_,rfl⟩;have ed:=e2_h (f:=fEqX false) ec (mb:=eLst aNil) (y:=.ref (h5++[O.lst (stD L)]).length) (h2:=h6) (by rw[e6];rfl) (z7y (l:=L) (m:=[]) (neg:=false) (by rw[e6,K03 (by simp)];exact z0V) (by rw[e6];exact z0V));rw[K1j]at ed;obtain⟨due,edue⟩:∃due,due=decide (L=[]):=⟨_,rfl⟩;rw[<- edue]at ed;refine z0C (h1:=h6) (.bl due) [some (.fl (ns.map .int)),.(r 2),.(i c),.(r 3),some (rnD p q),some (rnD p' q'),.(i (N:Nat)),some (.bl due),none,none,none] ed rfl ?_;obtain⟨m,il,en⟩:=z4p (h:=h6) (γ:=[some (.fl (ns.map .int)),.(r 2),.(i c),.(r 3),some (rnD p q),some (rnD p' q'),.(i (N:Nat)),some (.bl due),none,none,none]) (mr:=z4 (e2 fIx (eVar 4) (λ_=>pure (.int 0))) (z4 (e2 fIx (eVar 4) (λ_=>pure (.int 1))) aNil)) (ac_h (ip _ _ 4 p q rfl) (ac_h (iq _ _ 4 p q rfl) rfl)) r1 z4k;have rt1:=leaD r1 il;have FI:=λ(m':Nat) (il':IsL q' m')=>z6i (p:=p) (p':=p') r1.ne r2.ne il il';have again:∀(γ:G) (h:AH),γ[4]?=some (some (rnD p q))->eNew "Run" 2 Z9 (z4 (e2 fIx (eVar 4) (λ_=>pure (.int 0))) (z4 (e2 fIx (eVar 4) (λ_=>pure (.int 1))) aNil)) γ h=.ok (.ref h.length) (h++[.ins "Run" (rnF (p.take (j7 p q m p.length)) (rgS p q m (j7 p q m p.length)))]):=λγ h e=>by
   obtain⟨m',il',e'⟩:=z4p (h:=h) (γ:=γ) (mr:=z4 (e2 fIx (eVar 4) (λ_=>pure (.int 0))) (z4 (e2 fIx (eVar 4) (λ_=>pure (.int 1))) aNil)) (ac_h (ip _ _ 4 p q e) (ac_h (iq _ _ 4 p q e) rfl)) r1 z4k;rw[il'.uniq il]at e';exact e'
  obtain⟨P,eP⟩:∃P,P=p.take (j7 p q m p.length):=⟨_,rfl⟩;obtain⟨R,eR⟩:∃R,R=rgS p q m (j7 p q m p.length):=⟨_,rfl⟩;rw[<- eP,<- eR]at rt1 en;simp only[<- eP,<- eR]at FI again;refine z0C (.ref h6.length) [some (.fl (ns.map .int)),.(r 2),.(i c),.(r 3),some (rnD p q),some (rnD p' q'),.(i (N:Nat)),some (.bl due),.(r h6.length),none,none] en rfl ?_;obtain⟨h7,e7⟩:∃h7,h7=h6++[O.ins "Run" (rnF P R)]:=⟨_,rfl⟩;have l7:h7.length=h6.length+1:=by rw[e7,K01,K0l]
  have g7:h7[h6.length]?=some (.ins "Run" (rnF P R)):=by rw[e7];exact z0V
  rw[<- e7];obtain⟨m2,il2,en2⟩:=z4p (h:=h7) (γ:=[some (.fl (ns.map .int)),.(r 2),.(i c),.(r 3),some (rnD p q),some (rnD p' q'),.(i (N:Nat)),some (.bl due),.(r h6.length),none,none]) (mr:=z4 (e2 fIx (eVar 5) (λ_=>pure (.int 0))) (z4 (e2 fIx (eVar 5) (λ_=>pure (.int 1))) aNil)) (ac_h (ip _ _ 5 p' q' rfl) (ac_h (iq _ _ 5 p' q' rfl) rfl)) r2 z4k;have rt2:=leaD r2 il2;have FI:=FI m2 il2;obtain⟨P2,eP2⟩:∃P2,P2=p'.take (j7 p' q' m2 p'.length):=⟨_,rfl⟩;obtain⟨R2,eR2⟩:∃R2,R2=rgS p' q' m2 (j7 p' q' m2 p'.length):=⟨_,rfl⟩;rw[<- eP2,<- eR2]at rt2 en2 FI;have dd:due=(decide (P=P2)&&decide (R=R2)):=by
   have hL:L=[]↔∀k,k<N->sAt p q k=sAt p' q' k:=by
    rw[eL,K6h];constructor
    ·intro z k hk;have:=z k (K1k.mpr hk);simpa using this
    ·intro z k hk;simpa using z k (K1k.mp hk)
   rw[edue,K1h,decide_eq_true_eq,hL,eN,FI,K06,decide_eq_true_eq,decide_eq_true_eq]
  have dd2:due=(decide (P2=P)&&decide (R2=R)):=by
   rw[dd,show decide (P=P2)=decide (P2=P) from decide_eq_decide.mpr ⟨Eq.symm,Eq.symm⟩,show decide (R=R2)=decide (R2=R) from decide_eq_decide.mpr ⟨Eq.symm,Eq.symm⟩]
  obtain⟨γ0,eγ⟩:∃γ0:G,γ0=[some (.fl (ns.map .int)),.(r 2),.(i c),.(r 3),some (rnD p q),some (rnD p' q'),.(i (N:Nat)),some (.bl due),.(r h6.length),.(r h7.length),none]:=⟨_,rfl⟩;refine z0C (.ref h7.length) γ0 en2 (by rw[eγ];rfl) ?_;obtain⟨h8,e8⟩:∃h8,h8=h7++[O.ins "Run" (rnF P2 R2)]:=⟨_,rfl⟩;rw[<- e8];have ga:h8[h6.length]?=some (.ins "Run" (rnF P R)):=by
   rw[e8,K03 (by omega)];exact g7
  have gb:h8[h7.length]?=some (.ins "Run" (rnF P2 R2)):=by rw[e8];exact z0V
  have l8:h8.length=h7.length+1:=by rw[e8,K01,K0l]
  have v7:γ0[7]?=some (some (.bl due)):=by rw[eγ];rfl
  have v8:γ0[8]?=some (.(r h6.length)):=by rw[eγ];rfl
  have v9:γ0[9]?=some (.(r h7.length)):=by rw[eγ];rfl
  have v4:γ0[4]?=some (some (rnD p q)):=by rw[eγ];rfl
  refine z0x false (z5A (tr_h (b:=due) (e2_h (Z0 v8) (Z0 v9) (by rw[fq_h ga gb,<- dd,K1j])) (Z0 v7)) (tr_h (b:=due) (e2_h (Z0 v9) (Z0 v8) (by rw[fq_h gb ga,<- dd2,K1j])) (Z0 v7))) ?_;rw[if_neg (by decide)];refine z0y ?_;have tt:∀(h:AH),(λ_=>pure (.bl true):G->M D) γ0 h=.ok (.bl true) h:=λh=>rfl;have hne:h7.length≠h6.length:=by omega
  obtain⟨h9,e9⟩:∃h9,h9=h8++[O.lst [.ref h7.length]]:=⟨_,rfl⟩;have ga9:h9[h6.length]?=some (.ins "Run" (rnF P R)):=by rw[e9,K03 (by omega)];exact ga
  have gb9:h9[h7.length]?=some (.ins "Run" (rnF P2 R2)):=by rw[e9,K03 (by omega)];exact gb
  have el9:eLst (z4 (eVar 9) aNil) γ0 h8=.ok (.ref h8.length) h9:=by
   unfold eLst;rw[M.bind_ok (ac_h (Z0 v9) (ds:=[]) rfl),e9];rfl
  have l9:h9.length=h8.length+1:=by rw[e9,K01,K0l]
  refine zb8 (W_of (z5A (tr_h (b:=!due) (e2_h (Z0 v8) (Z0 v9) (by rw[fq_h ga gb,<- dd,K7r])) (z9p (Z0 v7))) (tr_h (b:=due) (e2_h (Z0 v8) el9 (by rw[fi_h (by rw[e9];exact z0V) hne ga9 gb9,<- dd2])) (Z0 v7))) ?_);rw[if_neg (by decide)];refine z0y ?_;obtain⟨h10,e10⟩:∃h10,h10=h9++[O.ins "Run" (rnF P R)]:=⟨_,rfl⟩;have ga10:h10[h6.length]?=some (.ins "Run" (rnF P R)):=by rw[e10,K03 (by omega)];exact ga9
  have gc10:h10[h9.length]?=some (.ins "Run" (rnF P R)):=by rw[e10];exact z0V
  have l10:h10.length=h9.length+1:=by rw[e10,K01,K0l]
  have ag:=again γ0 h9 v4;rw[<- e10]at ag;refine zb8 (W_of (z5A (tr_h (b:=true) (e2_h (Z0 v8) (Z0 v8) (by rw[fq_h ga9 ga9,decide_eq_true rfl,decide_eq_true rfl];rfl)) (tt _)) (tr_h (b:=true) (e2_h (Z0 v8) ag (by rw[fq_h ga10 gc10,decide_eq_true rfl,decide_eq_true rfl];rfl)) (tt _))) ?_);rw[if_neg (by decide)];refine z0y ?_;obtain⟨h11,e11⟩:∃h11,h11=h10++[O.lst [.tup (stD p),.tup (stD q)]]:=⟨_,rfl⟩;have ga11:h11[h6.length]?=some (.ins "Run" (rnF P R)):=by rw[e11,K03 (by omega)];exact ga10
  have gl11:h11[h10.length]?=.(l [.tup (stD p),.tup (stD q)]):=by rw[e11];exact z0V
  have l11:h11.length=h10.length+1:=by rw[e11,K01,K0l]
  obtain⟨I,eI⟩:∃I:List D,I=[.non,.int 0,.bl true,.str "",.tup [],rnD p q,rnD P R,.str (runT P R),.ref h10.length,.tup (stD R)]:=⟨_,rfl⟩;obtain⟨h12,e12⟩:∃h12,h12=h11++[O.lst I]:=⟨_,rfl⟩;have ga12:h12[h6.length]?=some (.ins "Run" (rnF P R)):=by rw[e12,K03 (by omega)];exact ga11
  have gl12:h12[h10.length]?=.(l [.tup (stD p),.tup (stD q)]):=by rw[e12,K03 (by omega)];exact gl11
  have gI:h12[h11.length]?=.(l I):=by rw[e12];exact z0V
  have src:z2D (eLst (z4 (λ_=>pure .non) (z4 (λ_=>pure (.int 0)) (z4 (λ_=>pure (.bl true)) (z4 (λ_=>pure (.str "")) (z4 (eTup aNil) (z4 (eVar 4) (z4 (eMt "Run" "pair" 0 Y1 (eVar 8) aNil) (z4 (Z8 (z2Q "Run" j8) (z4 (eVar 8) aNil)) (z4 (eLst (z4 (e2 fIx (eVar 4) (λ_=>pure (.int 0))) (z4 (e2 fIx (eVar 4) (λ_=>pure (.int 1))) aNil))) (z4 (eFld "Run" "ring" (eVar 8)) aNil))))))))))) γ0 h10=.ok (.lst h11.length I) h12:=by
   have e2l:eLst (z4 (e2 fIx (eVar 4) (λ_=>pure (.int 0))) (z4 (e2 fIx (eVar 4) (λ_=>pure (.int 1))) aNil)) γ0 h10=.ok (.ref h10.length) h11:=by
    unfold eLst;rw[M.bind_ok (ac_h (ip γ0 h10 4 p q v4) (ac_h (iq γ0 h10 4 p q v4) (ds:=[]) rfl)),e11];rfl
   have ea:z4 (λ_=>pure .non) (z4 (λ_=>pure (.int 0)) (z4 (λ_=>pure (.bl true)) (z4 (λ_=>pure (.str "")) (z4 (eTup aNil) (z4 (eVar 4) (z4 (eMt "Run" "pair" 0 Y1 (eVar 8) aNil) (z4 (Z8 (z2Q "Run" j8) (z4 (eVar 8) aNil)) (z4 (eLst (z4 (e2 fIx (eVar 4) (λ_=>pure (.int 0))) (z4 (e2 fIx (eVar 4) (λ_=>pure (.int 1))) aNil))) (z4 (eFld "Run" "ring" (eVar 8)) aNil))))))))) γ0 h10=.ok I h11:=by
    rw[eI];exact ac_h (d:=.non) rfl (ac_h (d:=.int 0) rfl (ac_h (d:=.bl true) rfl (ac_h (d:=.str "") rfl (ac_h (d:=.tup []) rfl (ac_h (Z0 v4) (ac_h (z8b (Z0 v8) ga10) (ac_h (J6 (Z0 v8) (z96 rt1 ga10)) (ac_h e2l (ac_h (z2R (Z0 v8) ga11) rfl)))))))))
   have el:eLst (z4 (λ_=>pure .non) (z4 (λ_=>pure (.int 0)) (z4 (λ_=>pure (.bl true)) (z4 (λ_=>pure (.str "")) (z4 (eTup aNil) (z4 (eVar 4) (z4 (eMt "Run" "pair" 0 Y1 (eVar 8) aNil) (z4 (Z8 (z2Q "Run" j8) (z4 (eVar 8) aNil)) (z4 (eLst (z4 (e2 fIx (eVar 4) (λ_=>pure (.int 0))) (z4 (e2 fIx (eVar 4) (λ_=>pure (.int 1))) aNil))) (z4 (eFld "Run" "ring" (eVar 8)) aNil)))))))))) γ0 h10=.ok (.ref h11.length) h12:=by
    rw[z9O ea (by rw[eI];simp),e12]
   have g:getL h11.length h12=.ok I h12:=by unfold getL;rw[gI]
   unfold z2D;rw[M.bind_ok el];dsimp only;rw[M.bind_ok g];rfl
  rw[w_cons];refine z58 (λc γ h'=>∃v,γ=γ0.set 10 v/\h'=h12) (λ_ _=>False) ?_;refine W_of src ⟨⟨none,by rw[eγ];rfl,rfl⟩,?_,?_,?_,λ_ _ f=>f.elim⟩
  ·rintro i γ h' ⟨v,rfl,rfl⟩;exact gI
  ·rintro j d γ h' hd ⟨v,rfl,rfl⟩;have hd:I[j]?=some d:=hd;have kd:kI "Run" d h'=.ok false h':=by
    have:=K1d hd;rw[eI]at this;simp only[K1c,K5s,or_false]at this;rcases this with rfl|rfl|rfl|rfl|rfl|rfl|rfl|rfl|rfl|rfl<;>first|rfl|skip
    unfold kI;dsimp only;rw[gl12]
   obtain⟨γ1,e1⟩:∃γ1,γ1=γ0.set 10 (some d):=⟨_,rfl⟩;have w8:γ1[8]?=some (.(r h6.length)):=by rw[e1,eγ];rfl
   have w10:γ1[10]?=some (some d):=by rw[e1,eγ];rfl
   refine W_eq (v:=γ1) (by rw[e1,eγ];rfl) ?_;have ff:(λ_=>pure (.bl false):G->M D) γ1 h'=.ok (.bl false) h':=rfl;refine z0x false (z5A (tr_h (b:=false) (e2_h (Z0 w8) (Z0 w10) (by rw[zf7 ga12 kd];rfl)) ff) (tr_h (b:=false) (e2_h (Z0 w10) (Z0 w8) (zh5 ga12 kd)) ff)) ?_;rw[if_neg (by decide)];refine z0y (z0x false (tr_h (b:=true) (e2_h (Z0 w8) (Z0 w10) (by rw[zf7 ga12 kd];rfl)) rfl) ?_);rw[if_neg (by decide)];exact z0y (z3n ⟨some d,e1,rfl⟩)
  ·rintro γ h' ⟨v,rfl,rfl⟩;exact k9 (.bl true) rfl rfl
 obtain⟨d,h',e,rfl⟩:=key;exact⟨h',e⟩
theorem okL_law {P:K04}{w:World}{K:K0}{mg:Str->Option Value}{base:Heap}{f:Addr}{fd:K1i}(F:Fun K "law" "law" (top 25) f fd) (F00:mg "len" = none) (F03:mg "range" = none) (F06:mg "str" = none) {C_Run:Addr}(KI_Run:OwC K "Run" C_Run) (DC_Run:CmpC K C_Run) (NA_Run_ring:NoAttr K C_Run "ring") (F04:Mt P w K mg base 1 "Run" "__eq__" 1 Z2) (F0b:InX P w K mg base 4 "Run" 2 Z9) (F0p:Mt P w K mg base 2 "Run" "__str__" 0 j8) (F0q:Mt P w K mg base 1 "Run" "pair" 0 Y1) (F0d:Fn P w K mg base 1 "_law_at" 2 x9) (F0r:Fn P w K mg base 3 "_law_beside" 4 z02) (F01:Fn P w K mg base 1 "_law_draw" 2 z9) (F0a:Fn P w K mg base 2 "_law_drawn_run" 4 q5) (F0s:Fn P w K mg base 1 "_law_pool" 1 z0k) (F05:Fn P w K mg base 1 "_law_truth" 2 Z5):FnOk P w K mg base CX0 6 f fd ["_law_script"] (spB K m_law 1) :=
 zi5 F sc_law rfl λcdv A outer s H E hr=>(show SB (cxOf CX0 P w K mg base ["_law_script","_law_pool_here","_law_choice","_law_numbers","_law_run","_law_other","_law_most","_law_due","_law_made","_law_beside_here","_law_thing"] "law" (Z3 (top 25)) f cdv A outer s H E).nox EX0 (k7 (top 25)) z6b from
  have nd:(["_law_script","_law_pool_here","_law_choice","_law_numbers","_law_run","_law_other","_law_most","_law_due","_law_made","_law_beside_here","_law_thing"]:List Str).Nodup:=sc_law.nd
  (z5 (z0a 1 nd (Z4 F0s (hr.mono (by decide)) rfl (z3 (z0 0) z7))) (z5 (z0a 2 nd (Z4 F01 (hr.mono (by decide)) rfl (z3 (z0 1) (z3 z6 z7)))) (z5 (z4q 3 (N':=["_law_pool_here","_law_k"]) (cap:=[some 1,none]) rfl (z2f (by first|rfl|kernel_rfl!)) (z1c rfl F03 (w6 z6 (Z4 F01 (hr.mono (by decide)) rfl (z3 (z0 1) (z3 z6 z7))))) (λ_ _ _ _=>(z04 1 (show (["_law_pool_here","_law_k"]:List Str).Nodup by decide +kernel))) (λ_ _ _ _=>z0U) (λ_ _ _ _=>(Z4 F01 (hr.mono (by decide)) rfl (z3 (z0 0) (z3 z6 z7)))) nd) (z5 (z0a 4 nd (Z4 F0a (hr.mono (by decide)) rfl (z3 (z0 1) (z3 (z0 3) (z3 z6 (z3 z6 z7)))))) (z5 (z0a 5 nd (Z4 F0r (hr.mono (by decide)) rfl (z3 (z0 1) (z3 (z0 2) (z3 (z0 4) (z3 (z0 3) z7)))))) (z5 (z0a 6 nd (w6 (w6 (y3 rfl F00 (z3 (j6 (z0 4) z6) z7)) (y3 rfl F00 (z3 (j6 (z0 5) z6) z7))) (z0m (y3 rfl F00 (z3 (j6 (z0 4) z6) z7)) (y3 rfl F00 (z3 (j6 (z0 5) z6) z7))))) (z5 (z0a 7 nd (se_c (z1N (hu30 hr)) (z0Y (N':=["_law_run","_law_other","_law_k"]) (cap:=[some 4,some 5,none]) rfl (z2f (by first|rfl|kernel_rfl!)) (z1c rfl F03 (z0 6)) (λ_ _ _ _=>(z04 2 (show (["_law_run","_law_other","_law_k"]:List Str).Nodup by decide +kernel))) (λ_ _ _ _=>(z3h (sc_c (z9C (hu30 hr)) (Z4 F0d (hr.mono (by decide)) rfl (z3 (z0 0) (z3 (z0 2) z7))) (Z4 F0d (hr.mono (by decide)) rfl (z3 (z0 1) (z3 (z0 2) z7)))))) (λ_ _ _ _=>(z0 2))) (z2y z7))) (z5 (z0a 8 nd (z4I F0b (hr.mono (by decide)) rfl (z3 (j6 (z0 4) z6) (z3 (j6 (z0 4) z6) z7)))) (z5 (z0a 9 nd (z4I F0b (hr.mono (by decide)) rfl (z3 (j6 (z0 5) z6) (z3 (j6 (z0 5) z6) z7)))) (z5 (s_if (SW.sc (z3V (z0f (z0e (Z4 F05 (hr.mono (by decide)) rfl (z3 (se_c (z1O F04 KI_Run DC_Run (hr.mono (by decide))) (z0 8) (z0 9)) (z3 (z0 7) z7))))) (z1X (z0f (z0e (Z4 F05 (hr.mono (by decide)) rfl (z3 (se_c (z1O F04 KI_Run DC_Run (hr.mono (by decide))) (z0 9) (z0 8)) (z3 (z0 7) z7)))))))) (z5 (J0 z0F) Z1) Z1) (z5 (s_if (SW.sc (z3V (z0f (z0e (Z4 F05 (hr.mono (by decide)) rfl (z3 (se_c (z6R F04 KI_Run DC_Run (hr.mono (by decide))) (z0 8) (z0 9)) (z3 (z4O (z0 7)) z7))))) (z1X (z0f (z0e (Z4 F05 (hr.mono (by decide)) rfl (z3 (se_c (z8C F04 KI_Run DC_Run (hr.mono (by decide))) (z0 8) (z2y (z3 (z0 9) z7))) (z3 (z0 7) z7)))))))) (z5 (J0 z0F) Z1) Z1) (z5 (s_if (SW.sc (z3V (z0f (z0e (Z4 F05 (hr.mono (by decide)) rfl (z3 (se_c (z1O F04 KI_Run DC_Run (hr.mono (by decide))) (z0 8) (z0 8)) (z3 z0F z7))))) (z1X (z0f (z0e (Z4 F05 (hr.mono (by decide)) rfl (z3 (se_c (z1O F04 KI_Run DC_Run (hr.mono (by decide))) (z0 8) (z4I F0b (hr.mono (by decide)) rfl (z3 (j6 (z0 4) z6) (z3 (j6 (z0 4) z6) z7)))) (z3 z0F z7)))))))) (z5 (J0 z0F) Z1) Z1) (z5 (z9n K6n rfl (z3c (z2y (z3 zb7 (z3 z6 (z3 z0F (z3 z3C (z3 (z0p z7) (z3 (z0 4) (z3 (z9B F0q (hr.mono (by decide)) (z0 8)) (z3 (z8f F0p (hr.mono (by decide)) rfl F06 (z3 (z0 8) z7)) (z3 (z2y (z3 (j6 (z0 4) z6) (z3 (j6 (z0 4) z6) z7))) (z3 (z0G KI_Run NA_Run_ring (z0 8)) z7)))))))))))) (z10 10 nd) (z5 (s_if (SW.sc (z3V (z0f (z0e (Z4 F05 (hr.mono (by decide)) rfl (z3 (se_c (z1O F04 KI_Run DC_Run (hr.mono (by decide))) (z0 8) (z0 10)) (z3 z0F z7))))) (z1X (z0f (z0e (Z4 F05 (hr.mono (by decide)) rfl (z3 (se_c (z1O F04 KI_Run DC_Run (hr.mono (by decide))) (z0 10) (z0 8)) (z3 z0F z7)))))))) (z5 (J0 z0F) Z1) Z1) (z5 (s_if (z0f (z0e (Z4 F05 (hr.mono (by decide)) rfl (z3 (se_c (z6R F04 KI_Run DC_Run (hr.mono (by decide))) (z0 8) (z0 10)) (z3 z0F z7))))) (z5 (J0 z0F) Z1) Z1) Z1))) (z5 (J0 z0F) Z1)))))))))))))))
end FT
open PySem PySem.W PyProof.Rows
set_option maxRecDepth 100000 in
set_option maxHeartbeats 0 in
theorem PySem.Challenge.cw_fairtrees_k24_whole_equal_runs_holds : PySem.Challenge.rw_fairtrees_k24_whole_equal_runs.Holds := by
 refine FT.pack.2 ?_;unfold FT.pack;dsimp only
 k_fill
 refine FT.law_walk (l:=K2) (lev:=6) (p:="_law_script") (m:=FT.m_law) rfl rfl ⟨rfl,by decide,by decide,rfl⟩ (λw h Y=>PySem.W.kIn_of Y) ?F FT.math
 case F =>
  intro w mg fa h KX G hmg;have F0u:FT.DefAt (L2.KOf KX) "least_ring" (FT.top 14):=by
   dsimp only[L2.KOf];refine' FT.defAt_mk ?a ?l ?c ?k;(case a=>k_is);(case l=>k_is);(case c=>k_is);(case k=>k_is)
  have F0v:FT.DefAt (L2.KOf KX) "least_form" (FT.top 13):=by
   dsimp only[L2.KOf];refine' FT.defAt_mk ?a ?l ?c ?k;(case a=>k_is);(case l=>k_is);(case c=>k_is);(case k=>k_is)
  have F0w:FT.DefAt (L2.KOf KX) "is_tuple" (FT.top 8):=by
   dsimp only[L2.KOf];refine' FT.defAt_mk ?a ?l ?c ?k;(case a=>k_is);(case l=>k_is);(case c=>k_is);(case k=>k_is)
  have F0x:FT.DefAt (L2.KOf KX) "is_tuple_of" (FT.top 9):=by
   dsimp only[L2.KOf];refine' FT.defAt_mk ?a ?l ?c ?k;(case a=>k_is);(case l=>k_is);(case c=>k_is);(case k=>k_is)
  have F0y:FT.DefAt (L2.KOf KX) "is_number" (FT.top 6):=by
   dsimp only[L2.KOf];refine' FT.defAt_mk ?a ?l ?c ?k;(case a=>k_is);(case l=>k_is);(case c=>k_is);(case k=>k_is)
  have F0z:FT.DefAt (L2.KOf KX) "is_number_from" (FT.top 7):=by
   dsimp only[L2.KOf];refine' FT.defAt_mk ?a ?l ?c ?k;(case a=>k_is);(case l=>k_is);(case c=>k_is);(case k=>k_is)
  have F0A:FT.DefAt (L2.KOf KX) "is_told" (FT.top 15):=by
   dsimp only[L2.KOf];refine' FT.defAt_mk ?a ?l ?c ?k;(case a=>k_is);(case l=>k_is);(case c=>k_is);(case k=>k_is)
  have F0B:FT.DefAt (L2.KOf KX) "numbers_text" (FT.top 12):=by
   dsimp only[L2.KOf];refine' FT.defAt_mk ?a ?l ?c ?k;(case a=>k_is);(case l=>k_is);(case c=>k_is);(case k=>k_is)
  have F0C:FT.DefAt (L2.KOf KX) "_law_pool" (FT.top 18):=by
   dsimp only[L2.KOf];refine' FT.defAt_mk ?a ?l ?c ?k;(case a=>k_is);(case l=>k_is);(case c=>k_is);(case k=>k_is)
  have F0D:FT.DefAt (L2.KOf KX) "_law_draw" (FT.top 19):=by
   dsimp only[L2.KOf];refine' FT.defAt_mk ?a ?l ?c ?k;(case a=>k_is);(case l=>k_is);(case c=>k_is);(case k=>k_is)
  have F0E:FT.DefAt (L2.KOf KX) "_law_drawn_run" (FT.top 23):=by
   dsimp only[L2.KOf];refine' FT.defAt_mk ?a ?l ?c ?k;(case a=>k_is);(case l=>k_is);(case c=>k_is);(case k=>k_is)
  have F0F:FT.DefAt (L2.KOf KX) "_law_unrolled" (FT.top 21):=by
   dsimp only[L2.KOf];refine' FT.defAt_mk ?a ?l ?c ?k;(case a=>k_is);(case l=>k_is);(case c=>k_is);(case k=>k_is)
  have F0G:FT.DefAt (L2.KOf KX) "_law_beside" (FT.top 24):=by
   dsimp only[L2.KOf];refine' FT.defAt_mk ?a ?l ?c ?k;(case a=>k_is);(case l=>k_is);(case c=>k_is);(case k=>k_is)
  have F0H:FT.DefAt (L2.KOf KX) "_law_truth" (FT.top 20):=by
   dsimp only[L2.KOf];refine' FT.defAt_mk ?a ?l ?c ?k;(case a=>k_is);(case l=>k_is);(case c=>k_is);(case k=>k_is)
  have F0I:FT.DefAt (L2.KOf KX) "_law_at" (FT.top 22):=by
   dsimp only[L2.KOf];refine' FT.defAt_mk ?a ?l ?c ?k;(case a=>k_is);(case l=>k_is);(case c=>k_is);(case k=>k_is)
  have F0J:FT.DefAt (L2.KOf KX) "law" (FT.top 25):=by
   dsimp only[L2.KOf];refine' FT.defAt_mk ?a ?l ?c ?k;(case a=>k_is);(case l=>k_is);(case c=>k_is);(case k=>k_is)
  have F00:mg "len" = none:=K1v KX G (by k_is);have F03:mg "range" = none:=K1v KX G (by k_is);have F02:mg "isinstance" = none:=K1v KX G (by k_is);have F07:mg "tuple" = none:=K1v KX G (by k_is);have F09:mg "bool" = none:=K1v KX G (by k_is);have F0f:mg "int" = none:=K1v KX G (by k_is);have F0h:mg "all" = none:=K1v KX G (by k_is);have F06:mg "str" = none:=K1v KX G (by k_is);have C_MOST:FT.Cst (L2.KOf KX) mg "MOST" FT.c_MOST:=by
   dsimp only[L2.KOf];refine' FT.cst_int (K0f KX G ?a);(case a=>k_is)
  have C_NUMBERS:FT.Cst (L2.KOf KX) mg "NUMBERS" FT.c_NUMBERS:=by
   dsimp only[L2.KOf];refine' FT.cst_int (K0f KX G ?a);(case a=>k_is)
  obtain⟨C_Run,KI_Run,mk_Run,kc_Run,NA_Run_path,NA_Run_ring,F0K,F0L,F0M,F0N,DC_Run⟩:∃C_Run,FT.OwC (L2.KOf KX) "Run" C_Run/\K3h (L2.KOf KX) C_Run=true/\K19 (L2.KOf KX) (.ref C_Run)=true/\L2.NoAttr (L2.KOf KX) C_Run "path"/\L2.NoAttr (L2.KOf KX) C_Run "ring"/\FT.DefM (L2.KOf KX) C_Run "__init__" "Run.__init__" (L2.inClass (FT.top 11) 0)/\FT.DefM (L2.KOf KX) C_Run "pair" "Run.pair" (L2.inClass (FT.top 11) 2)/\FT.DefM (L2.KOf KX) C_Run "__eq__" "Run.__eq__" (L2.inClass (FT.top 11) 3)/\FT.DefM (L2.KOf KX) C_Run "__str__" "Run.__str__" (L2.inClass (FT.top 11) 5)/\FT.CmpC (L2.KOf KX) C_Run:=by
   dsimp only[L2.KOf]
   refine' ⟨_,FT.ki_mk ?qa ?qp ?qh ?qo ?qs,?qm,?qc,(?qn0:K0m _ _ _=some none),(?qn1:K0m _ _ _=some none),FT.defM_mk ?qa0 ?qi0 ?ql0 ?qd0 ?qk0,FT.defM_mk ?qa1 ?qi1 ?ql1 ?qd1 ?qk1,FT.defM_mk ?qa2 ?qi2 ?ql2 ?qd2 ?qk2,FT.defM_mk ?qa3 ?qi3 ?ql3 ?qd3 ?qk3,⟨?za,?zb,FT.all6 ?zc0 ?zc1 ?zc2 ?zc3 ?zc4 ?zc5,FT.all6 ?zd0 ?zd1 ?zd2 ?zd3 ?zd4 ?zd5,FT.all6 ?ze0 ?ze1 ?ze2 ?ze3 ?ze4 ?ze5,?zf,?zg,?zh,?zi⟩⟩;(case qa=>k_is);(case qp=>k_is);(case qh=>k_is);(case qo=>k_is);(case qs=>k_is);(case qm=>k_is);(case qc=>k_is);(case qn0=>k_is);(case qn1=>k_is);(case qa0=>k_is);(case qi0=>k_is);(case ql0=>k_is);(case qd0=>k_is);(case qk0=>k_is);(case qa1=>k_is);(case qi1=>k_is);(case ql1=>k_is);(case qd1=>k_is);(case qk1=>k_is);(case qa2=>k_is);(case qi2=>k_is);(case ql2=>k_is);(case qd2=>k_is);(case qk2=>k_is);(case qa3=>k_is);(case qi3=>k_is);(case ql3=>k_is);(case qd3=>k_is);(case qk3=>k_is);(case za=>k_is);(case zb=>k_is);(case zc0=>k_is);(case zc1=>k_is);(case zc2=>k_is);(case zc3=>k_is);(case zc4=>k_is);(case zc5=>k_is);(case zd0=>k_is);(case zd1=>k_is);(case zd2=>k_is);(case zd3=>k_is);(case zd4=>k_is);(case zd5=>k_is);(case ze0=>kit_is);(case ze1=>kit_is);(case ze2=>kit_is);(case ze3=>kit_is);(case ze4=>kit_is);(case ze5=>kit_is);(case zf=>kit_is);(case zg=>k_is);(case zh=>k_is);(case zi=>k_is)
  have GI_Run:mg "Run" = .(r C_Run):=K0f KX G KI_Run.ns;obtain⟨F0t,F0c,F0O,F0k⟩:∃F0t F0c,L2.K3 (L2.KOf KX) mg "TreeError" F0t L2.bmV/\L2.K3 (L2.KOf KX) mg "NoRun" F0c (.ref F0t::L2.bmV):=by
   dsimp only[L2.KOf]
   refine' ⟨_,_,L2.k3_of ?a0 (K0f KX G ?b0) ?l0 ?m0 ?h0 ?n0 ?o0 ?p0 ?s0 ?t0 ?r0,L2.k3_of ?a1 (K0f KX G ?b1) ?l1 ?m1 ?h1 ?n1 ?o1 ?p1 ?s1 ?t1 ?r1⟩;(case a0=>k_is);(case b0=>k_is);(case l0=>k_is);(case m0=>k_is);(case h0=>rfl);(case n0=>k_is);(case o0=>k_is);(case p0=>k_is);(case s0=>k_is);(case r0=>decide +kernel);(case t0=>exact λ_ _=>⟨.base,.base⟩);(case a1=>k_is);(case b1=>k_is);(case l1=>k_is);(case m1=>k_is);(case h1=>rfl);(case n1=>k_is);(case o1=>k_is);(case p1=>k_is);(case s1=>k_is);(case r1=>decide +kernel);(case t1=>exact λh X=>L2.K3.up (L2.k3_of (c:="TreeError") (mg:=mg) (by k_is) (K0f KX G (by k_is)) (by k_is) (by k_is) (by rfl) (by k_is) (by k_is) (by k_is) (by k_is) (λ_ _=>⟨.base,.base⟩) (by decide +kernel)) h X)
  obtain⟨f,fd,hf,F⟩:=F0J;have e:=hmg.symm.trans (K0f KX G hf);cases e;refine⟨fd,FT.bindsTo1 F (λ_ _ _ _ _ _ _=>rfl),λbase _ _=>?_⟩;have F0e:=FT.ok_least_ring (P:=K2.prog) (w:=w) (base:=base) F0u (λv e=>K0f KX G e) F00 F03;have F0m:=FT.ok_least_form (P:=K2.prog) (w:=w) (base:=base) F0v (λv e=>K0f KX G e) F00 F0e;have F08:=FT.ok_is_tuple (P:=K2.prog) (w:=w) (base:=base) F0w (λv e=>K0f KX G e) F02 F07;have F0j:=FT.ok_is_tuple_of (P:=K2.prog) (w:=w) (base:=base) F0x (λv e=>K0f KX G e) F00 F08;have F0g:=FT.ok_is_number (P:=K2.prog) (w:=w) (base:=base) F0y (λv e=>K0f KX G e) F09 F0f F02;have F0i:=FT.ok_is_number_from (P:=K2.prog) (w:=w) (base:=base) F0z (λv e=>K0f KX G e) F0g;have F0l:=FT.ok_is_told (P:=K2.prog) (w:=w) (base:=base) F0A (λv e=>K0f KX G e) C_MOST C_NUMBERS F0h F00 F0i F08 F0j;have F0b:=FT.ok_Run____init__ (P:=K2.prog) (w:=w) (mg:=mg) (base:=base) KI_Run (λv e=>K0f KX G e) mk_Run kc_Run F0K F0k NA_Run_path NA_Run_ring F0l F0m;have F0q:=FT.ok_Run__pair (P:=K2.prog) (w:=w) (mg:=mg) (base:=base) KI_Run F0L NA_Run_path NA_Run_ring;have F04:=FT.ok_Run____eq__ (P:=K2.prog) (w:=w) (mg:=mg) (base:=base) KI_Run F0M F02 DC_Run GI_Run NA_Run_path NA_Run_ring;have F0n:=FT.ok_numbers_text (P:=K2.prog) (w:=w) (base:=base) F0B (λv e=>K0f KX G e) F06;have F0p:=FT.ok_Run____str__ (P:=K2.prog) (w:=w) (mg:=mg) (base:=base) KI_Run F0N F06 NA_Run_path NA_Run_ring F0n;have F0s:=FT.ok__law_pool (P:=K2.prog) (w:=w) (base:=base) F0C (λv e=>K0f KX G e);have F01:=FT.ok__law_draw (P:=K2.prog) (w:=w) (base:=base) F0D (λv e=>K0f KX G e) F00;have F0a:=FT.ok__law_drawn_run (P:=K2.prog) (w:=w) (base:=base) F0E (λv e=>K0f KX G e) F00 F03 F07 F01;have F0o:=FT.ok__law_unrolled (P:=K2.prog) (w:=w) (base:=base) F0F (λv e=>K0f KX G e) F00;have F0r:=FT.ok__law_beside (P:=K2.prog) (w:=w) (base:=base) F0G (λv e=>K0f KX G e) F00 F01 F0a F0o;have F05:=FT.ok__law_truth (P:=K2.prog) (w:=w) (base:=base) F0H (λv e=>K0f KX G e) F09 F02;have F0d:=FT.ok__law_at (P:=K2.prog) (w:=w) (base:=base) F0I (λv e=>K0f KX G e) F00;exact FT.okL_law F F00 F03 F06 KI_Run DC_Run NA_Run_ring F04 F0b F0p F0q F0d F0r F01 F0a F0s F05