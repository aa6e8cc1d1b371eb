import PyProof.Rows.All
import Wide.All
import OpenK.AllK
import Wide.FinOn
import Lean
import PyProof.EqAt
import PyProof.EqKinds
import PyProof.TupleCall
import PyProof.DictCompW
import PyProof.NeKinds
import PyProof.ListRange
import PyProof.TupleOfSeq
import PyProof.SeqI3
import PyProof.DictWalks
import PyProof.SetNew
import PyProof.ReprReads
import PyProof.StrHeap
import PyProof.ReprLen
import PyProof.WalkInts
import KE.KDictSum
import PyProof.Draws
import PySem.Challenge.RW_fairtrees_k69_partings
set_option Elab.async false
set_option linter.all false
set_option maxRecDepth 100000
set_option maxHeartbeats 4000000
namespace L2
end L2
open PySem.W renaming Frag→K0,mg_of→K0p,mg_none_of→K1c,kia_one→K1e,kitOne→K1o,nsIn→K1u,codeIn→K2y,keepIn→K3d,fnOf→K3n,hideAll→K4c,hideAll_none→K65,hideAll_get→K6c,of_hideAll→K6q,methodObj→K7b,kitx_list→K7c,kitx_dict→K7d,fresh_of_stays→K8e,cellsFrom_some→K8f,instObj→K8m,nsOkIn→K91,lookIn→K92,ks_spliced→K9n,kitx_tuple→K9o,callWith_K→K9p,plainGet→Z0g,kdl_dict→Z0h,OpenLaw→Z10,findIn→Z18,WalkO→Z1b
open PySem renaming wpAny_bind→K1,wpAny_pure→K8,starEach→K03,Program→K0m,foldedSetIterable→K12,wpAny_loadPart'→K1a,wpAny_newObj_type→K1f,mainGlobals→K1l,wpAny_holding→K1w,swapsWith→K1x,compareOp→K1y,codeAny_builtin→K28,mem_of_lookup→K2a,wpAny_mono→K2g,wpAny_call_entry→K2i,assignEach→K2o,wpAny_loadPart_at→K2p,FuncData→K2q,wpAny_truthy_bool→K32,wpAny_pyIter_list→K33,wpAny_ite_false→K37,wpAny_askSetting→K3c,sysModules→K3e,wpAny_setField→K3f,binaryOp→K3g,wpAny_passesOwn→K3l,codeAny_mono→K3t,wpAny_setState_of→K3u,holding→K3v,SetTable→K42,wpAny_callSpecial?_slot→K43,call_meets→K48,bootBuiltins→K49,Keyword→K4a,letOwnedTupleGo→K4e,wpAny_standAt→K4i,behindInMarks→K4j,attributeBase→K4k,standAt→K4q,codeAny→K4x,plainId_quiet→K52,wpAny_execs_nil→K57,wpAny_Call_Name_kw→K5d,seqIndex?→K5f,sliceBounds→K5g,keywordEach→K5h,NameKind→K5o,wpAny_typeOf→K5q,wpAny_runValue→K5t,isSubtype_type→K5u,fits_of_scanBound→K5x,builtinLookup_eq_fast→K61,relayAll→K66,GenState→K67,codeAny_call_builtin→K69,wpAny_setEntries_of→K6f,wpAny_isSubtype_exc→K6g,getItem→K6k,wpAny_rule→K6u,typeLookup→K6v,tupleKind_room_in1→K6z,wpAny_binaryOp_repeat_ref→K76,ItemsOf→K7f,sizeLine_eq→K7g,excClassObj→K7h,wpAny_comprehension_free→K7r,backToKw→K80,noFill_tuple_add→K84,checkBuiltinCall→K85,setNext→K8a,callerA→K8b,wpAny_load→K8c,typeIs_int→K8d,wpAny_Call_method_late→K8k,wpAny_specialOf→K8t,typeLookup_type→K8u,codeAny_of_tree→K8v,wpAny_field→K97,subscripted→K98,arm_starEach_Starred→K9a,valueAt→K9e,tupleKind→K9f,signature?_of→K9i,seq_tuple_add→K9j,setsByText→K9q,slot_list_getitem→K9t,notedBy→Z04,newList→Z05,collect→Z06,IsRange→Z07,BindsTo→Z08,seqIndex_neg→Z0c,concat_meets→Z0d,seqSlot_of→Z0j,setFlight→Z0k,pickOrder→Z0l,noteFrame→Z0m,PassesOwn→Z0n,DictEntry→Z0o,wpAny_of_eq→Z0v,unsupported→Z0w,seqIndex_of→Z0x,lookupAlong→Z0y,spliced→Z12,setItem→Z13,call→Z16,Fin→Z1d
open List renaming getElem?_eq_some_iff→K2,getElem?_eq_getElem→K6,getElem?_cons_zero→K9,range→K00,length_append→K01,length_map→K02,getElem?_cons_succ→K04,size_toArray→K06,getElem?_map→K07,mem_map→K09,append_assoc→K0b,replicate→K0c,mem_of_getElem?→K0d,getElem?_set_ne→K0e,set_cons_zero→K0f,length_cons→K0g,getElem?_append_left→K0i,set_cons_succ→K0k,mem_append→K0o,map_cons→K0q,mem_filter→K0t,length_nil→K0u,getElem?_set_self→K0v,map_map→K0w,mem_cons→K0x,mem_range→K0y,mem_cons_of_mem→K11,length_take→K13,mem_append_right→K14,getElem?_eq_none→K15,mem_cons_self→K1d,find?_cons→K1h,append_nil→K1i,mem_append_left→K1k,getElem?_range→K1n,any_eq_true→K1p,getElem?_singleton→K1r,all_eq_true→K1s,idxOf_lt_length_iff→K1v,filterMap_cons→K20,getElem?_append_right→K27,take_length→K29,length_range→K2b,any_cons→K2d,getElem?_replicate→K2h,flatMap_cons→K2m,take_succ_eq_append_getElem→K2r,replicate_succ→K2s,map_congr_left→K2t,length_set→K2u,lookup_cons→K2w,length_eq_zero_iff→K2z,map_append→K36,getElem_of_mem→K38,set_append_right→K3i,nodup_append→K3o,flatten_cons→K3p,ext_getElem?→K3q,getElem?_append→K3s,mergeSort_perm→K3x,take_succ→K3z,getElem_idxOf→K45,find?_eq_none→K46,foldl_cons→K4d,all_cons→K4h,length_singleton→K4l,length_filter_le→K4m,foldl_append→K4n,not_lt→K4s,getElem?_of_mem→K4t,map_nil→K4u,getElem_mem→K4w,sublist_append_left→K55,ne_nil_of_mem→K59,mem_singleton→K5a,getElem?_take→K5b,pairwise_mergeSort→K5k,filter_cons_of_pos→K5l,pairwise_lt_range→K5v,length_pos_of_mem→K5w,foldl→K62,map_flatMap→K63,nodup_cons→K6a,filterMap_map→K6w,contains_cons→K6x,perm_ext_iff_of_nodup→K71,mem_of_find?_eq_some→K74,drop_eq_getElem_cons→K75,pairwise_map→K7e,getElem?_take_of_lt→K7q,range'_succ→K7v,not_mem_nil→K7w,mem_flatMap→K7x,length_drop→K7y,flatMap_map→K7z,filter_cons_of_neg→K86,set_set→K88,any_map→K89,take_of_length_le→K8h,range_succ_eq_map→K8i,drop_eq_nil_of_le→K8j,take_left'→K8n,of_mem_zip→K8o,nil_append→K8p,idxOf_cons→K8q,forIn_cons→K8r,filter_map→K8s,take_append_drop→K8y,perm_append_comm→K8z,nodup_nil→K93,forIn_nil→K94,pairwise_append→K99,getD→K9c,map_id'→Z00,take_sublist→Z0a,getElem_take→Z0b,nodup_range→Z0p,le_antisymm→Z0q,getElem_inj→Z0r,filter_cons→Z0s,range'→Z0t,length→Z0u,find?_some→Z11
open PySem.Challenge renaming rw_fairtrees_k69_partings→K5
open PySem.Heap renaming get?_push_of_some→K7,lt_size→K08,get?_push_size→K0a,size_push→K24,get?_update_other→K2n,SameBut→K39,get?_update_self→K3j,MadeExcOf→K95
open Nat renaming le_refl→K05,lt_of_lt_of_le→K0j,ne_of_lt→K0n,le_trans→K0r,reduceAdd→K1b,lt_of_le_of_lt→K26,lt_irrefl→K2j,ne_of_gt→K2k,le_of_lt→K2l,lt_succ_of_lt→K3r,zero_le→K4r,le_succ→K5e,add_le_add_left→K6d,zero_add→K6h,mul_comm→K6i,le_of_eq→K6j,lt_succ_self→K81,lt_trans→Z02,le_of_succ_le→Z0e
open Bool renaming and_eq_true→K0h,eq_iff_iff→K0z,false_ne_true→K17,false_eq_true→K25,bne_false→K2e,or_eq_true→K2f,not_eq_true'→K4o,false_or→K50,and_true→K64,and_eq_false_iff→K90,not_false→K96,eq_false_iff→K9u,false_bne→Z19
open Int renaming toNat_natCast→K0l,eq_ofNat_of_zero_le→K22,emod_lt_of_pos→K47,emod_nonneg→K56,toNat_of_nonneg→K6e,toNat→Z1f
open PySem.SetTable renaming below→K0s,grown→K2x,Probe→Z17,laid→Z1a
open Option.some renaming inj→K10,injEq→K7a
open Option renaming map_eq_some_iff→K16,join_some→K7t,join_none→K7u,isSome_map→Z03,getD_none→Z0i
open PySem.PassesOwn renaming never→K18
open Array renaming length_toList→K19,getElem?_eq_getElem→K1g,getElem?_eq_some_iff→K23,getElem?_toList→K3h,append_assoc→K9r,toList→K9z,toList_push→Z09
open PySem.Value renaming ref→K1j,none→K3w,type→K44,int→K6m,bool→K6n,builtin→K7j,str→K9b,isStrOf→Z1c
open PyProof.Rows renaming slot_tuple_getitem→K1m,callWith_type1→K4p,IntsAre→K5r,AllBare→K5s,subscriptTail_builtinR→K8l,entry_tuple_getitem→K9g,subscriptTail→K9h
open False renaming elim→K1q
open PySem.Around renaming under_plainId→K1t
open PySem.Heap.SameBut renaming update→K1z,refl→K79
open PySem.Builtin.Str renaming occurrences→K21
open PySem.Builtin.Tuple renaming tupleExact→K2c,tupleItemsOf→K6r,tupleIsExact→K6s
open PySem.F renaming plain_list_iadd→K2v,slot_tuple_mul→K3b,slot_list_index→K40,plainAttrs_list→K41,args_tuple_mul_2→K53,args_tuple_add_2→K54,entry_tuple_mul→K5i,entry_tuple_add→K5j,slot_tuple_add→K5p,attrBase_ValueError→K5y,typeOf_object_class→K60,plain_proto_collect→K6l,args_object_init_2→K6y,args_list_index_2→K72,entry_list_index→K7p,slot_tuple_rmul→K7s,type_list_index→K83,slot_int_rmul→K8x
open PySem.SetTable.below renaming go→K30
open PySem.Builtin.Range renaming rangeSize→K31,small→K4z
open Ne renaming symm→K34
open True renaming intro→K35
open PySem.Builtin.List renaming listExtendWith→K3a,listTooLong→K51,listSameRef→K7m
open PySem.Builtin.Slice renaming slicePlaces→K3k,sliceAdjust→K4y,sliceApplied→K6t
open List.Pairwise renaming filter→K3m,imp_of_mem→K7k,map→K9w,imp→K9x,and→K9y
open Sum renaming inl→K3y,inr→K9d
open ForInStep renaming yield→K4b
open PySem.NameKind renaming free→K4f
open PySem.Paired renaming length→K4g
open PySem.Str renaming ofString→K4v,length→K9m
open PySem.Obj renaming mapSeq→K58,data_mapFields→K5c,isFreed_of_fields→K5z,putSet→K6p,mapFields→K7l
open PyProof.Rows.F renaming plain_set_update_loop→K5m,entry_set_update_loop→K87
open PySem.AutoSeq1 renaming idx_int→K5n
open PySem.Calls renaming evalArgs_plain→K68,Name_function_global→K70,call_function_entry→K73,callWith_builtin→K8g
open PySem.Builtin.Frozenset renaming updateFrom→K6b
open PySem.SeqAt renaming EqAt→K6o,list_indexAt→K7n
open PySem.SetTable.probe renaming go→K77
open List.Sublist renaming refl→K78
open PySem.Shared renaming TypeIs→K7i
open List.Perm renaming eq_of_pairwise→K7o,append_left→K8w,trans→Z0z,cons→Z14
open Classical renaming propDecidable→K82
open PySem.SeqAt.EqAt renaming str_int→K9k,int_str→K9l
open PySem.Code renaming quiet_builtin→K9s
open PySem.pickOrder renaming go→K9v
open Function renaming comp_def→Z01
open And renaming intro→Z0f
open PySem.Data renaming seq→Z15
open Pure renaming pure→Z1e
open Sum.inl renaming inj→Z1g
open PySem PySem.Spec PyProof.Rows L2
set_option hygiene false
local macro_rules
|`(.(r $t))=>`(some (.ref $t))
|`(.(i $t))=>`(some (.int $t))
|`(.(g $t))=>`(some (.tup $t))
|`(.(l $t))=>`(some (.lst $t))
|`(.(s $t))=>`(some (.str $t))
|`(.(p $t))=>`((fun _=>pure (.int $t)))
|`(.(0))=>`((by omega))
|`(.(1))=>`((by decide))
|`(.(2))=>`((by decide +kernel))
|`(.(3))=>`(s.heap.objs.size)
|`(.(4))=>`((model X.prog X.w))
|`(.(5))=>`((X.comp N' sc s H fp xe))
|`(.(6))=>`((Pre.refl _))
|`(.(7))=>`((λ_=>pure (.int 0)))
|`(.(8))=>`((Ext.refl _ _))
|`(.(9))=>`((z0z (by first|rfl|kernel_rfl!)))
|`(.(a))=>`((maD st mk))
|`(.(b))=>`((Z1 rfl))
|`(.(c))=>`((λ_=>pure (.int 1)))
|`(.(d))=>`((λ_ _ _ _ _ _ us hl=>(by obtain ⟨_,_,_,rfl⟩:=ar3 hl;rfl)))
|`(.(e))=>`((by simp))
|`(.(f))=>`((Addr×Obj))
|`(.(g))=>`((eLst (z9 (λ_=>pure (.str "yes")) (z9 (λ_=>pure (.str "no")) (z9 (λ_=>pure (.str "not")) (z9 (λ_=>pure (.str "and")) (z9 (λ_=>pure (.str "or")) (z9 (λ_=>pure (.str "step")) (z9 (λ_=>pure (.str "some")) (z9 (λ_=>pure (.str "all")) (z9 (λ_=>pure (.str "next")) (z9 (λ_=>pure (.str "once")) (z9 (λ_=>pure (.str "ever")) (z9 (λ_=>pure (.str "until")) (z9 (λ_=>pure (.str "unless")) aNil)))))))))))))))
|`(.(h))=>`(st.length)
|`(.(i))=>`([.int (k:Nat),y])
|`(.(j))=>`(s1.heap.objs.size)
|`(.(k))=>`((eVar 0))
|`(.(l))=>`((∀x c,X.env.cells.lookup x=some c->c≠b))
|`(.(m))=>`((([a]:List Expr).length+([]:List K4a).length+(if ([]:List K4a).isEmpty then 0 else 1)<30))
|`(.(n))=>`((λv e=>K0p KX G e))
|`(.(o))=>`(decide_eq_true)
|`(.(p))=>`(decide_eq_false)
|`(.(q))=>`(⟨λ⟨_,_,z,_⟩=>(by cases z),λ⟨_,_,z,_⟩=>(by cases z)⟩)
|`(.(r))=>`((.ref h.length))
|`(.(s))=>`((eVar 1))
|`(.(t))=>`((by simp [RD]))
|`(.(u))=>`((z9 (eVar 5) aNil))
|`(.(v))=>`(items.size)
|`(.(w))=>`((λ_ _ _ _ _ _ us hl=>(by obtain ⟨_,rfl⟩:=ar1 hl;rfl)))
|`(.(x))=>`((SW.sc (z3t (sc_c z1Q (Z9 (z0 5) Z3) j9) (z2F (sc_c z1Q (Y1 rfl F00 (z6 (z0 5) Z2)) Z3)))))
|`(.(y))=>`((.ListComp elt [⟨tg,iter,[],0⟩,⟨tg1,iter1,ifs1,0⟩] sc pos))
|`(.(z))=>`(r.length)
|`(.(A))=>`((x==("__debug__":Str)))
|`(.(B))=>`((L2.KOf KX))
|`(.(C))=>`((.frz ob (.dK vs)))
|`(.(D))=>`((Z9 (z0 0) Z3))
|`(.(E))=>`([some (.fl (ns.map .int)),.(r 2),.(r (0+3)),some .(a),.(r (i+3)),.(r h4.length),.(i (k:Nat)),.(i (x:Nat)),.(i (y:Nat)),.(r h7.length)])
|`(.(F))=>`((hr.mono .(1)))
|`(.(G))=>`([some .(a),.(g (ryD R)),.(r h.length),.(r h1.length),.(i (c:Nat)),some r.d])
|`(.(H))=>`([some .(a),.(r b),.(i (p.1:Nat)),.(g ((stD (blk bl p.1)))),.(r ((hF++j).length)),y])
local macro_rules
|`(.(I))=>`((ac_h .(b) (ac_h .(b) (ac_h .(b) rfl))))
|`(.(J))=>`([some .(a),.(i (x:Nat)),.(g (stD row)),.(g (Y3 cs)),.(r b),.(r g0.length),.(r g1.length),.(g .(i)),.(i (k:Nat)),some y,.(i (((R.length+1:Nat):Int))),.(i (((R.length+3:Nat):Int))),.(r a),t6])
|`(.(K))=>`([some .(a),.(r b),.(g .(i)),.(i (k:Nat)),some y,.(r (hF.length+0)),.(g ((stD (x::r))))])
|`(.(L))=>`((L2.k3_of (c:="TreeError") (mg:=mg) (by k_is) (K0p KX G (by k_is)) (by k_is) (by k_is) (by rfl) (by k_is) (by k_is) (by k_is) (by k_is) (λ_ _=>⟨.base,.base⟩) .(2)))
|`(.(M))=>`((fin (w:=false) .(e) rfl))
|`(.(N))=>`([some .(a),.(i (x:Nat)),.(g (stD row)),.(g (Y3 cs)),.(r b),.(r g0.length),.(r g1.length)])
|`(.(O))=>`((List Nat))
|`(.(P))=>`(((d=.non/\Done st mk bl)∨∃(k:Nat) (y:D),d=.tup .(i)/\ByN mk bl k y/\Fst st mk bl k y/\Cut bl k (bel st mk bl y)))
|`(.(Q))=>`((ha pins s σ H _ I h))
|`(.(R))=>`((λ_ _ _ _ _ _ us hl=>(by obtain ⟨_,_,rfl⟩:=ar2 hl;rfl)))
set_option hygiene true
namespace L2
abbrev Key:=Sum Int Str
def z1k:Key->Value->Bool
 | .inl k,v=>Value.isInt k v
 | .inr x,v=>Z1c x v
def keyH (w:World):Key->Int
 | .inl k=>hashInt k
 | .inr x=>hashStr w x
theorem y0:∀{k:Key}{v:Value},z1k k v=true->(∃i t,k=K3y i/\v=K6m i t)∨(∃x t,k=K9d x/\v=K9b x t)
 | .inl i,v,h=>by
  obtain ⟨t,e⟩:=Value.isInt_shape (k:=i) (v:=v) h
  exact .inl ⟨i,t,rfl,e⟩
 | .inr x,v,h=>by
  obtain ⟨t,e⟩:=Value.isStrOf_shape (x:=x) (v:=v) h
  exact .inr ⟨x,t,rfl,e⟩
theorem z5c (i:Int) (t:Tok):z1k (.inl i) (.int i t)=true:=by simp [z1k,Value.isInt]
theorem z5K (x:Str) (t:Tok):z1k (.inr x) (.str x t)=true:=by simp [z1k,Z1c]
theorem zN1 (a b:Int):decide ((K3y a:Key)=K3y b)=(a==b):=by
 by_cases e:a=b
 ·subst e;simp
 ·have h:¬ (K3y a:Key)=K3y b:=λq=>e (Z1g q)
  rw [.(p) h]
  exact (beq_eq_false_iff_ne.mpr e).symm
theorem zH9 (a b:Str):decide ((K9d a:Key)=K9d b)=decide (a=b):=by
 by_cases e:a=b
 ·subst e;simp
 ·have h:¬ (K9d a:Key)=K9d b:=λq=>e (K9d.inj q)
  rw [.(p) h,.(p) e]
theorem zE6 (a:Int) (b:Str):decide ((K3y a:Key)=K9d b)=false:=decide_eq_false (λq=>nomatch q)
theorem zM3 (a:Str) (b:Int):decide ((K9d a:Key)=K3y b)=false:=decide_eq_false (λq=>nomatch q)
def w6 (prog:K0m) (w:World):PySem.KeyKind prog w Key where
 is:=z1k
 hash:=keyH w
 inj:=λv a b ha hb=>by
  rcases y0 ha with ⟨i,t,rfl,rfl⟩|⟨x,t,rfl,rfl⟩
  ·rcases y0 hb with ⟨j,u,rfl,e⟩|⟨y,u,rfl,e⟩
   ·injection e with e1 _;rw [e1]
   ·exact nomatch e
  ·rcases y0 hb with ⟨j,u,rfl,e⟩|⟨y,u,rfl,e⟩
   ·exact nomatch e
   ·injection e with e1 _;rw [e1]
 byValue:=λk v h=>by
  rcases y0 h with ⟨i,t,rfl,rfl⟩|⟨x,t,rfl,rfl⟩<;>rfl
 pyHash:=λhv h=>by
  rcases y0 hv with ⟨i,t,rfl,rfl⟩|⟨x,t,rfl,rfl⟩
  ·exact wpAny_pyHash_int h
  ·exact wpAny_pyHash_str h
 eqBool:=λhu hv h=>by
  rcases y0 hu with ⟨i,t,rfl,rfl⟩|⟨x,t,rfl,rfl⟩
  ·rcases y0 hv with ⟨j,u,rfl,rfl⟩|⟨y,u,rfl,rfl⟩
   ·rw [zN1] at h;exact wpAny_eqBool_int h
   ·rw [zE6] at h;exact K9l i t y u _ _ _ _ h
  ·rcases y0 hv with ⟨j,u,rfl,rfl⟩|⟨y,u,rfl,rfl⟩
   ·rw [zM3] at h;exact K9k x t j u _ _ _ _ h
   ·rw [zH9] at h;exact wpAny_eqBool_str h
 «strs»:=λk x t v h=>by
  rcases y0 h with ⟨i,u,rfl,e⟩|⟨y,u,rfl,e⟩
  ·exact nomatch e
  ·injection e with e1 _
   subst e1
   cases v<;>rfl
theorem z6z (prog:K0m) (w:World) (i:Int) (t:Tok):(w6 prog w).is (.inl i) (.int i t)=true:=z5c i t
theorem z6B (prog:K0m) (w:World) (x:Str) (t:Tok):(w6 prog w).is (.inr x) (.str x t)=true:=z5K x t
end L2
namespace FT
abbrev Rise (xs:Array Nat):Prop:=xs.toList.Pairwise (·<·)
instance keyMem (k:Key) (ks:List Key):Decidable (k∈ks):=@List.instDecidableMemOfLawfulBEq Key instBEqOfDecidableEq inferInstance k ks
section
variable (w:World)
def KE (k:Key) (e:Int×Value):Prop:=z1k k e.2=true/\e.1=keyH w k
def SetAt (h:Heap) (a:Addr) (ks:List Key):Prop :=
 ∃o es ep t ks',h.get? a=some o/\o.ExactSet/\o.data=.set es ep t/\Paired (KE w) ks' es.toList/\ks'.Perm ks/\ks.Nodup/\es.size<scanBound/\t.fits es.size=true/\Rise t.place /\
  (t.led=true∨w.params.followText "set-order" = true)
end
def IsTup0 (h:Heap) (a:Addr) (items:Array Value):Prop:=∃o,h.get? a=some o/\(o.cls=.type "tuple"/\o.dict=none)/\∃n,o.data=.seq items n
theorem IsTup0.new (h:Heap) (items:Array Value):IsTup0 (h.push { cls:=.type "tuple",data:=.seq items }) h.objs.size items:=⟨_,K0a _ rfl,⟨rfl,rfl⟩,_,rfl⟩
theorem IsTup0.tup {h:Heap}{a:Addr}{items:Array Value}(x:IsTup0 h a items):IsTup h a items:=let ⟨o,e,c,d⟩:=x;⟨o,e,c.1,d⟩
theorem IsTup0.lt {h:Heap}{a:Addr}{items:Array Value}(x:IsTup0 h a items):a<h.objs.size:=let ⟨_,e,_⟩:=x;K08 e
end FT
namespace L2
inductive V where
 | non|bl (b:Bool)|int (i:Int)|str (x:Str)|byt (b:Array UInt8)|flt (b:UInt64)|ref (a:Addr)|ty (n:String)
 deriving DecidableEq
def RelV:V->Value->Prop
 | .non,u=>u=K3w
 | .bl b,u=>u=K6n b
 | .int i,u=>∃t,u=K6m i t
 | .str x,u=>∃t,u=K9b x t
 | .byt b,u=>∃t,u=Value.bytes b t
 | .flt b,u=>∃t,u=Value.float b t
 | .ref a,u=>u=K1j a
 | .ty n,u=>u=K44 n
abbrev Vals:List V->List Value->Prop:=Paired RelV
theorem Vals.length {xs:List V}{us:List Value}(r:Vals xs us):xs.length=us.length:=K4g r
theorem Vals.get:∀{xs:List V}{us:List Value}{i:Nat}{x:V},Vals xs us->xs[i]?=some x->∃u,us[i]?=some u/\RelV x u
 | _,_,_,_,.nil,e=>by simp at e
 | _,_,0,_,.cons r _,e=>by simp at e;subst e;exact ⟨_,rfl,r⟩
 | _,_,i+1,x,.cons _ t,e=>by
  obtain ⟨u,h1,h2⟩:=Vals.get (i:=i) (x:=x) t (by simpa using e)
  exact ⟨u,by simpa using h1,h2⟩
theorem Vals.set {x:V}{u:Value}(r:RelV x u):∀{xs:List V}{us:List Value}(i:Nat),Vals xs us->Vals (xs.set i x) (us.set i u)
 | _,_,_,.nil=>.nil
 | _,_,0,.cons _ t=>.cons r t
 | _,_,i+1,.cons q t=>.cons q (Vals.set r i t)
theorem Vals.append:∀{xs ys:List V}{us ws:List Value},Vals xs us->Vals ys ws->Vals (xs++ys) (us++ws)
 | _,_,_,_,.nil,s=>s
 | _,_,_,_,.cons r t,s=>.cons r (Vals.append t s)
theorem Vals.take:∀{xs:List V}{us:List Value}(n:Nat),Vals xs us->Vals (xs.take n) (us.take n)
 | _,_,0,_=>.nil
 | _,_,_+1,.nil=>.nil
 | _,_,n+1,.cons r t=>.cons r (Vals.take n t)
theorem Vals.drop:∀{xs:List V}{us:List Value}(n:Nat),Vals xs us->Vals (xs.drop n) (us.drop n)
 | _,_,0,r=>r
 | _,_,_+1,.nil=>.nil
 | _,_,n+1,.cons _ t=>Vals.drop n t
def RelO:Option V->Option Value->Prop
 | some v,some u=>RelV v u
 | none,none=>True
 | _,_=>False
def KV {κ:Type}:List (κ×V)->List (κ×Value)->Prop:=Paired λ(p:κ×V) (q:κ×Value)=>p.1=q.1/\RelV p.2 q.2
def kV:Key->V
 | .inl i=>.int i
 | .inr x=>.str x
inductive HO where
 | lst (xs:List V)
 | tup (xs:List V)
 | dK (kvs:List (Key×V))|dT (kvs:List (List Key×V))
 | set (ks:List Key)
 | ins (C dx:Addr) (fs:List (Str×V))
 | own (x:Addr)
 | xd (fs:List (Str×V))
 | met (f x:Addr)
 | rng (lo hi:Int)
 | frz (o:Obj) (u:HO)
 | tbl (ps:Array Value)
 | ext (φ:Heap->Prop)
abbrev Hp:=Addr->Option HO
def upd (H:Hp) (a:Addr) (o:HO):Hp:=λb=>if b=a then some o else H b
theorem y8 {H:Hp}{a:Addr}{o:HO}:upd H a o a=some o:=by unfold upd;rw [if_pos rfl]
theorem J0 {H:Hp}{a b:Addr}{o:HO}(h:b≠a):upd H a o b=H b:=by unfold upd;rw [if_neg h]
theorem zR6 {H:Hp}{a b:Addr}{o u:HO}(h:H a=some o) (h':H b=some u) (d:o≠u):a≠b:=by
 intro e;subst e;rw [h] at h';exact d (K10 h')
theorem J6 {H:Hp}{a b:Addr}{o:HO}(h:H a=some o) (h':H b=none):a≠b:=by
 intro e;subst e;rw [h] at h';cases h'
section
variable (P:K0m) (w:World)
def ObjOk (H:Hp) (h:Heap) (a:Addr):HO->Prop
 | .lst xs=>xs.length≤sizeLine/\∃(its:List Value) (n:Nat),Vals xs its/\h.get? a=some { cls:=.type "list",data:=.seq its.toArray n }
 | .tup xs=>xs.length≤sizeLine/\∃its:List Value,Vals xs its/\FT.IsTup0 h a its.toArray
 | .dK kvs=>kvs.length≤sizeLine/\(a==K3e)=false/\∃vs,KV kvs vs/\h.DictOf (w6 P w) a vs
 | .dT kvs=>kvs.length≤sizeLine/\(a==K3e)=false/\∃xs:List (List Key×Addr×Value),
  Paired (λ(p:List Key×V) (q:List Key×Addr×Value)=>p.1=q.1/\H q.2.1=.(g (p.1.map kV))/\RelV p.2 q.2.2) kvs xs /\
  ∃o es ep,h.get? a=some o/\o.ExactDict/\o.data=.dict es ep/\es.toList=xs.map (entryOfKey (K9f (w6 P w)))/\(xs.map (·.1)).Nodup
 | .set ks=>FT.SetAt w h a ks
 | .ins C dx fs=>H dx=some (.own a)/\fs.length≤1000/\dx≠a/\h.get? a=some (K8m C dx) /\
  ∃mA,h.Ns1 dx mA/\(∀f,RelO (fs.lookup f) (mA f))/\PySem.Within mA (fs.map (·.1))
 | .own _=>∃o,h.get? a=some o
 | .xd fs=>∃mA,h.Ns1 a mA/\∀f,RelO (fs.lookup f) (mA f)
 | .rng lo hi=>∃t u v,h.get? a=some { cls:=.type "range",data:=.fields #[.int lo t,.int hi u,.int 1 v] }
 | .frz o u=>h.get? a=some o/\ObjOk H h a u
 | .tbl ps=>h.get? a=some { cls:=.none,data:=.fields ps }
 | .met f x=>h.get? a=some (K7b (.ref f) (.ref x))
 | .ext φ=>φ h/\(∃o,h.get? a=some o)/\∀h1 h2:Heap,φ h1->(∀o,h1.get? a=some o->h2.get? a=some o)->φ h2
def HOk (H:Hp) (h:Heap):Prop:=∀a o,H a=some o->ObjOk P w H h a o
end
section
variable {P:K0m}{w:World}{H H':Hp}{h h':Heap}{a:Addr}{o:HO}
theorem ObjOk.lt (x:ObjOk P w H h a o):a<h.objs.size:=by
 cases o with
 | lst xs=>obtain ⟨_,_,_,_,e⟩:=x;exact K08 e
 | tup xs=>obtain ⟨_,_,_,p⟩:=x;exact p.lt
 | dK kvs=>obtain ⟨_,_,_,_,o,_,_,e,_⟩:=x;exact K08 e
 | dT kvs=>obtain ⟨_,_,_,_,o,_,_,e,_⟩:=x;exact K08 e
 | set ks=>obtain ⟨o,_,_,_,_,e,_⟩:=x;exact K08 e
 | ins C dx fs=>obtain ⟨_,_,_,e,_⟩:=x;exact K08 e
 | own y=>obtain ⟨_,e⟩:=x;exact K08 e
 | xd fs=>obtain ⟨_,⟨_,_,_,e,_⟩,_⟩:=x;exact K08 e
 | rng lo hi=>obtain ⟨_,_,_,e⟩:=x;exact K08 e
 | frz ob u=>obtain ⟨e,_⟩:=x;exact K08 e
 | tbl ps=>exact K08 (show h.get? a=some _ from x)
 | met f y=>exact K08 (show h.get? a=some _ from x)
 | ext φ=>obtain ⟨_,⟨_,e⟩,_⟩:=x;exact K08 e
theorem Paired.mapP {α β:Type}{F G:α->β->Prop}:∀{l₁:List α}{l₂:List β},Paired F l₁ l₂->(∀a b,F a b->G a b)->Paired G l₁ l₂
 | _,_,.nil,_=>.nil
 | _,_,.cons r t,f=>.cons (f _ _ r) (Paired.mapP t f)
theorem ObjOk.stay (x:ObjOk P w H h a o) (k:∀b u,(b=a∨H b=some (.own a))->h.get? b=some u->h'.get? b=some u)
 (ho:∀b,H b=some (.own a)->H' b=some (.own a)) (ht:∀b xs,H b=.(g xs)->H' b=.(g xs)):ObjOk P w H' h' a o:=by
 induction o with
 | lst xs=>obtain ⟨z,its,n,r,e⟩:=x;exact ⟨z,its,n,r,k _ _ (.inl rfl) e⟩
 | tup xs=>obtain ⟨z,its,r,ob,e,c⟩:=x;exact ⟨z,its,r,ob,k _ _ (.inl rfl) e,c⟩
 | dK kvs=>obtain ⟨z,y,vs,r,ob,es,ep,e,c⟩:=x;exact ⟨z,y,vs,r,ob,es,ep,k _ _ (.inl rfl) e,c⟩
 | dT kvs =>
  obtain ⟨z,y,xs,r,ob,es,ep,e,c⟩:=x
  exact ⟨z,y,xs,Paired.mapP r λp q z=>⟨z.1,ht _ _ z.2.1,z.2.2⟩,ob,es,ep,k _ _ (.inl rfl) e,c⟩
 | set ks=>obtain ⟨ob,es,ep,t,k',e,c⟩:=x;exact ⟨ob,es,ep,t,k',k _ _ (.inl rfl) e,c⟩
 | ins C dx fs =>
  obtain ⟨d,z,ne,e,mA,⟨od,es,ep,e2,c⟩,r⟩:=x
  exact ⟨ho _ d,z,ne,k _ _ (.inl rfl) e,mA,⟨od,es,ep,k _ _ (.inr d) e2,c⟩,r⟩
 | own y=>obtain ⟨ob,e⟩:=x;exact ⟨ob,k _ _ (.inl rfl) e⟩
 | xd fs=>obtain ⟨mA,⟨od,es,ep,e,c⟩,r⟩:=x;exact ⟨mA,⟨od,es,ep,k _ _ (.inl rfl) e,c⟩,r⟩
 | rng lo hi=>obtain ⟨t,u,v,e⟩:=x;exact ⟨t,u,v,k _ _ (.inl rfl) e⟩
 | frz ob u ih=>obtain ⟨e,q⟩:=x;exact ⟨k _ _ (.inl rfl) e,ih q⟩
 | tbl ps =>
  have e:h.get? a=some { cls:=.none,data:=.fields ps }:=x
  show h'.get? a=some { cls:=.none,data:=.fields ps }
  exact k a _ (.inl rfl) e
 | met f y =>
  have e:h.get? a=some (K7b (.ref f) (.ref y)):=x
  show h'.get? a=some (K7b (.ref f) (.ref y))
  exact k a _ (.inl rfl) e
 | ext φ=>obtain ⟨p,⟨o,e⟩,st⟩:=x;exact ⟨st _ _ p λo q=>k _ _ (.inl rfl) q,⟨o,k _ _ (.inl rfl) e⟩,st⟩
theorem HOk.lt (x:HOk P w H h) (e:H a=some o):a<h.objs.size:=(x a o e).lt
theorem HOk.fresh (x:HOk P w H h) (e:h.objs.size≤a):H a=none:=by
 cases q:H a with
 | none=>rfl
 | some u=>exact absurd (K0j (x.lt q) e) (K2j _)
theorem HOk.kept (x:HOk P w H h) (k:∀b u,h.get? b=some u->h'.get? b=some u):HOk P w H h':=λa o e =>
 (x a o e).stay (λb u _ q=>k b u q) (λ_ q=>q) λ_ _ q=>q
theorem HOk.laid (x:HOk P w H h) (k:∀b u,h.get? b=some u->h'.get? b=some u) (hp:h.objs.size≤a) (new:ObjOk P w (upd H a o) h' a o):HOk P w (upd H a o) h':=λb u e=>by
 have hn:=x.fresh hp
 by_cases hb:b=a
 ·subst hb;rw [y8] at e;cases e;exact new
 ·rw [J0 hb] at e
  exact (x b u e).stay (λc v _ q=>k c v q) (λc q=>by rw [J0 (J6 q hn)];exact q) λc xs q=>by rw [J0 (J6 q hn)];exact q
end
def Rd (H:Hp) (a:Addr) (u:HO):Prop:=H a=some u∨∃o,H a=some (.frz o u)
theorem Rd.ok {P:K0m}{w:World}{H:Hp}{h:Heap}{a:Addr}{u:HO}(r:Rd H a u) (x:HOk P w H h):ObjOk P w H h a u:=by
 rcases r with r|⟨o,r⟩
 ·exact x a u r
 ·obtain ⟨_,q⟩:=x a _ r
  exact q
def Mut:Option HO->Prop
 | .(l _)=>True
 | some (.dK _)=>True
 | some (.dT _)=>True
 | some (.set _)=>True
 | some (.ins _ _ _)=>True
 | some (.ext _)=>True
 | _=>False
section
variable {P:K0m}{w:World}{H:Hp}{h h':Heap}{x e:Addr}{o':HO}
theorem HOk.write (ok:HOk P w H h) (mu:Mut (H x)) (he:e=x∨H e=some (.own x)) (k:∀b u,b≠e->h.get? b=some u->h'.get? b=some u) (heo:∃u,h'.get? e=some u)
 (new:ObjOk P w (upd H x o') h' x o'):HOk P w (upd H x o') h':=λb u q=>by
 have nown:∀c y,H c=some (.own y)->c≠x:=λc y r z=>by subst z;rw [r] at mu;exact mu
 have ntup:∀c xs,H c=.(g xs)->c≠x:=λc xs r z=>by subst z;rw [r] at mu;exact mu
 by_cases hb:b=x
 ·subst hb;rw [y8] at q;cases q;exact new
 ·rw [J0 hb] at q
  by_cases hbe:b=e
  ·have q':H b=some (.own x):=by
    rcases he with z|z
    ·exact absurd (hbe.trans z) hb
    ·rw [hbe];exact z
   rw [q] at q';cases q'
   obtain ⟨v,hv⟩:=heo
   exact ⟨v,by rw [hbe];exact hv⟩
  ·refine (ok b u q).stay (λc v hc r=>k c v ?_ r) (λc r=>by rw [J0 (nown c b r)];exact r) λc xs r=>by rw [J0 (ntup c xs r)];exact r
   rcases hc with rfl|hc
   ·exact hbe
   ·rintro rfl
    rcases he with z|z
    ·exact nown c b hc z
    ·rw [hc] at z;cases z;exact hb rfl
end
structure Un (fs ex:List Addr) (H H':Hp) (h h':Heap):Prop where
 keep:∀b o,h.get? b=some o->H b=none->b∉fs->b∉ex->h'.get? b=some o
 slot:∀b o,h.get? b=some o->H b=none->b∈fs->b∉ex->∃sl,h'.get? b=some { o with slots:=sl }
 free:∀b o,h.get? b=some o->H b=none->b∉ex->H' b=none
 there:∀b o,h.get? b=some o->b∉ex->∃o',h'.get? b=some o'
 tups:∀b xs,H b=.(g xs)->H' b=.(g xs)
 frzs:∀b o u,H b=some (.frz o u)->H' b=some (.frz o u)
 tbls:∀b ps,H b=some (.tbl ps)->∃more,H' b=some (.tbl (ps++more))
section
variable {fs fs' ex ex':List Addr}{H H1 H2:Hp}{h h1 h2 h':Heap}{a x e:Addr}{o:HO}
theorem Un.any (u:Un fs ex H H1 h h1) {b:Addr}{ob:Obj}(q:h.get? b=some ob) (n:H b=none) (hx:b∉ex):∃sl,h1.get? b=some { ob with slots:=sl }:=by
 by_cases hb:b∈fs
 ·exact u.slot b ob q n hb hx
 ·exact ⟨ob.slots,u.keep b ob q n hb hx⟩
theorem Un.kept (k:∀b u,h.get? b=some u->h'.get? b=some u):Un fs ex H H h h' :=
 ⟨λb ob q _ _ _=>k b ob q,λb ob q _ _ _=>⟨ob.slots,k b ob q⟩,λ_ _ _ n _=>n,λb ob q _=>⟨ob,k b ob q⟩,λ_ _ q=>q,λ_ _ _ q=>q,λ_ ps q=>⟨#[],by rw [q];simp⟩⟩
theorem Un.refl:Un fs ex H H h h:=Un.kept λ_ _ q=>q
theorem Un.laid (k:∀b u,h.get? b=some u->h'.get? b=some u) (hp:h.objs.size≤a) (hn:H a=none):Un fs ex H (upd H a o) h h' where
 keep:=λb u q _ _ _=>k b u q
 slot:=λb u q _ _ _=>⟨u.slots,k b u q⟩
 free:=λb u q n _=>by rw [J0 (K0n (K0j (K08 q) hp))];exact n
 there:=λb u q _=>⟨u,k b u q⟩
 tups:=λb xs q=>by rw [J0 (J6 q hn)];exact q
 frzs:=λb u xs q=>by rw [J0 (J6 q hn)];exact q
 tbls:=λb ps q=>⟨#[],by rw [J0 (J6 q hn),q];simp⟩
theorem Un.write (mu:Mut (H x)) (he:e=x∨H e=some (.own x)) (k:∀b u,b≠e->h.get? b=some u->h'.get? b=some u) (heo:∃u,h'.get? e=some u):Un fs ex H (upd H x o) h h':=by
 have hx:∀b,H b=none->b≠x:=λb n z=>by subst z;rw [n] at mu;exact mu
 have hb:∀b,H b=none->b≠e:=λb n z=>by
  subst z
  rcases he with r|r
  ·exact hx b n r
  ·rw [n] at r;cases r
 have hm:∀b u,H b=some u->¬ Mut (some u)->b≠x:=λb u q nm z=>by subst z;rw [q] at mu;exact nm mu
 refine ⟨λb u q n _ _=>k b u (hb b n) q,λb u q n _ _=>⟨u.slots,k b u (hb b n) q⟩,λb u q n _=>by rw [J0 (hx b n)];exact n,λb u q _=>?_,
  λb xs q=>by rw [J0 (hm b _ q λz=>z)];exact q,λb u xs q=>by rw [J0 (hm b _ q λz=>z)];exact q,λb ps q=>⟨#[],by rw [J0 (hm b _ q λz=>z),q];simp⟩⟩
 by_cases hbe:b=e
 ·subst hbe;exact heo
 ·exact ⟨u,k b u hbe q⟩
end
def trk (h:Heap) (H:Hp):List Addr:=(K00 h.objs.size).filter λa=>(H a).isSome
def hidT (h:Heap) (H:Hp):Heap:=K4c h (trk h H)
theorem z8F (h:Heap) (H:Hp):(hidT h H).objs.size=h.objs.size:=PySem.W.hideAll_size _ _
theorem zi0 {h:Heap}{H:Hp}{b:Addr}{o:Obj}(e:h.get? b=some o) (n:H b=none):(hidT h H).get? b=some o :=
 K6c _ e λhm=>by
  have q:(H b).isSome=true:=(K0t.mp hm).2
  rw [n] at q;simp at q
theorem zq1 {h:Heap}{H:Hp}{b:Addr}{o:Obj}(e:(hidT h H).get? b=some o):h.get? b=some o/\H b=none:=by
 have e':h.get? b=some o:=K6q (trk h H) e
 refine ⟨e',?_⟩
 cases q:H b with
 | none=>rfl
 | some x =>
  have hm:b∈trk h H:=K0t.mpr ⟨K0y.mpr (K08 e'),by simp [q]⟩
  have z:(hidT h H).get? b=none:=K65 (trk h H) hm
  rw [z] at e;cases e
def zs2 (g h:Heap) (L:Addr):List .(f):=(K00 h.objs.size).filterMap λa=>if a=L∨(g.get? a).isSome=true then none else (h.get? a).map λo=>(a,o)
def rest (g h:Heap) (L d:Addr):List .(f):=(zs2 g h L).filter λp=>decide (p.1≠d)
structure Mod (K:K0) (mg:Str->Option Value) (base:Heap):Prop where
 kin:K.In base
 glob:base.Ns K1l mg
 blt:∃mb,base.Ns builtinsNs mb/\∀x:Str,x≠"__name__"->mb x=K49 x
 nolimit:base.NoLimit
structure Cx where
 prog:K0m
 w:World
 K:K0
 mg:Str->Option Value
 base:Heap
 A:Around
 N:List Str
 s₀:Shared
 H₀:Hp
 env:Env
 outer:List Env
 stack:List Env
 ex:List Addr
 fn:Str->Bool
 calm:Bool
 pn:List .(f)
 xe:Value->Shared->Prop
def frs (l:List Env):List Addr:=l.filterMap (·.frame)
abbrev Cx.fs (X:Cx):List Addr:=frs X.outer
def Vis (sc:Scope) (x:Str):Prop:=sc.names.lookup x=some .local∨sc.names.lookup x=some .cell∨sc.names.lookup x=some .free
def Loc (sc:Scope) (x:Str):Prop:=sc.names.lookup x=some .local∨sc.names.lookup x=some .cell
def Look (env:Env) (h:Heap) (m:Str->Option Value) (x:Str) (u:Value):Prop :=
 (env.kindOf x=some .local/\m x=some u)∨((env.kindOf x=some .cell∨env.kindOf x=some .free)/\∃c,env.cells.lookup x=some c/\h.IsCell c (some u))
structure Cx.Ok (X:Cx):Prop where
 mod:Mod X.K X.mg X.base
 kind:X.env.scope.kind=.function
 glob:X.env.globals=K1l
 blt:X.env.builtins=builtinsNs
 above:X.s₀.heap.objs.size≤X.env.locals
 inj:∀x y c,X.env.cells.lookup x=some c->X.env.cells.lookup y=some c->x=y
 has:∀x,(X.env.kindOf x=some .cell∨X.env.kindOf x=some .free)->∃c,X.env.cells.lookup x=some c
 cab:∀x c,X.fn x=true->X.env.cells.lookup x=some c->X.s₀.heap.objs.size≤c
 hd:X.calm=true->X.A.handled=none
 frames:X.A.frames=some X.stack
 stk:X.stack=X.outer∨(X.stack=X.env::X.outer/\X.env.frame=some X.env.locals)
 exf:∀b∈X.ex,b≠X.env.locals/\∀x c,X.env.cells.lookup x=some c->c≠b
 bs:∀b o,X.base.get? b=some o->X.s₀.heap.get? b=some o/\X.H₀ b=none
 bsz:X.base.objs.size≤X.s₀.heap.objs.size
 noex:∀b o,X.base.get? b=some o->b∉X.ex
 exfs:∀b∈X.ex,b∉X.fs
 funs:X.s₀.heap.FunFrames X.base X.outer
 frf:∀b∈X.fs,X.H₀ b=none
structure Inv (X:Cx) (pins:List .(f)) (σ:List (Option V)) (H:Hp) (s:Shared):Prop where
 ok:X.Ok
 os:s.os=X.s₀.os
 bare:K5s s.gens
 base:Un X.fs X.ex X.H₀ H X.s₀.heap s.heap
 loc:∃m,s.heap.Ns X.env.locals m/\∀(i:Nat) (x:Str) (v:V),X.N[i]?=some x->σ[i]?=some (some v)->Vis X.env.scope x->∃u,RelV v u/\Look X.env s.heap m x u
 cell:∀x c,X.env.cells.lookup x=some c->∃v,s.heap.IsCell c v
 free:H X.env.locals=none
 freeC:∀x c,X.env.cells.lookup x=some c->H c=none
 pin:∀p∈X.pn++pins,s.heap.get? p.1=some p.2/\H p.1=none/\p.1≠X.env.locals/\p.1∉X.fs/\∀v,p.2.data≠.cell v
 hok:HOk X.prog X.w H s.heap
 len:σ.length=X.N.length
section
variable {X:Cx}{pins:List (Addr×Obj)}{σ:List (Option V)}{H H':Hp}{s:Shared}{h':Heap}
theorem Cx.Ok.nofr (ok:X.Ok) {b:Addr}{o:Obj}(e:X.base.get? b=some o):b∉X.fs:=λhb=>by
 have:=(ok.funs.mem hb).1
 rw [e] at this;cases this
theorem Inv.bs (I:Inv X pins σ H s):∀b o,X.base.get? b=some o->s.heap.get? b=some o/\H b=none:=λb o e =>
 ⟨I.base.keep b o (I.ok.bs b o e).1 (I.ok.bs b o e).2 (I.ok.nofr e) (I.ok.noex b o e),I.base.free b o (I.ok.bs b o e).1 (I.ok.bs b o e).2 (I.ok.noex b o e)⟩
theorem Inv.bk (I:Inv X pins σ H s):∀b o,X.base.get? b=some o->s.heap.get? b=some o:=λb o e=>(I.bs b o e).1
theorem Inv.mod (I:Inv X pins σ H s):Mod X.K X.mg X.base:=I.ok.mod
theorem Inv.kIn (I:Inv X pins σ H s):X.K.In s.heap:=I.ok.mod.kin.keeps I.bk
theorem Inv.fr (I:Inv X pins σ H s):∃m,Fr X.base X.env.locals s.heap m :=
 let ⟨m,hn,_⟩:=I.loc
 ⟨m,hn,I.bk,K0r I.ok.bsz I.ok.above⟩
theorem Inv.lt (I:Inv X pins σ H s):X.env.locals<s.heap.objs.size:=let ⟨_,hn,_⟩:=I.loc;hn.lt
theorem Inv.sz (I:Inv X pins σ H s):X.s₀.heap.objs.size≤s.heap.objs.size:=K0r I.ok.above (K2l I.lt)
theorem Inv.nofs (I:Inv X pins σ H s) {a:Addr}(h:s.heap.objs.size≤a):a∉X.fs:=λhb=>by
 obtain ⟨_,o,ho,_⟩:=I.ok.funs.mem hb
 exact absurd (K0j (K08 ho) (K0r I.sz h)) (K2j _)
theorem Inv.cne (I:Inv X pins σ H s):∀x c,X.env.cells.lookup x=some c->c≠X.env.locals:=λx c e z=>by
 obtain ⟨v,o,ho,hd⟩:=I.cell x c e
 obtain ⟨m,⟨o',es,ep,ho',hd',_⟩,_⟩:=I.loc
 rw [z,ho'] at ho;cases ho;rw [hd'] at hd;cases hd
theorem Inv.funs (I:Inv X pins σ H s):s.heap.FunFrames X.base X.outer:=by
 have all:∀(l:List Env),(∀b∈frs l,b∈X.fs)->X.s₀.heap.FunFrames X.base l->s.heap.FunFrames X.base l:=by
  intro l
  induction l with
  | nil=>intro _ _;trivial
  | cons env r ih =>
   intro hs hl
   obtain ⟨hk,⟨L,o,hf,hn,ho,hd⟩,hr⟩:=hl
   have hL:L∈X.fs:=hs L (by unfold frs;rw [K20,hf];exact K1d)
   obtain ⟨sl,e⟩:=I.base.slot L o ho (I.ok.frf L hL) hL λz=>I.ok.exfs L z hL
   exact ⟨hk,⟨L,_,hf,hn,e,hd⟩,ih (λb hb=>hs b (by unfold frs;rw [K20,hf];exact K11 _ hb)) hr⟩
 exact all X.outer (λ_ hb=>hb) I.ok.funs
theorem Inv.stack (I:Inv X pins σ H s):s.heap.FunFrames X.base X.stack:=by
 rcases I.ok.stk with e|⟨e,hf⟩
 ·rw [e];exact I.funs
 ·rw [e]
  obtain ⟨m,hn,_⟩:=I.loc
  refine .cons (by rw [I.ok.kind];decide) hf hn ?_ I.funs
  exact Heap.get?_none_of_le (K0r I.ok.bsz I.ok.above)
theorem Inv.stkSub (I:Inv X pins σ H s):∀b∈frs X.stack,b∈X.env.locals::X.fs:=λb hb=>by
 rcases I.ok.stk with e|⟨e,hf⟩
 ·rw [e] at hb;exact K11 _ hb
 ·rw [e] at hb
  unfold frs at hb
  rw [K20,hf] at hb
  exact hb
theorem Inv.stkFree (I:Inv X pins σ H s):∀b∈frs X.stack,H b=none:=λb hb=>by
 rcases K0x.mp (I.stkSub b hb) with e|hb
 ·rw [e];exact I.free
 ·obtain ⟨_,o,ho,_⟩:=I.ok.funs.mem hb
  exact I.base.free b o ho (I.ok.frf b hb) λz=>I.ok.exfs b z hb
theorem Inv.step {g':Array K67}{t':Nat}{d':Drawn}{ch:List Addr}(I:Inv X pins σ H s)
 (hch:∀b∈ch,(b∈X.ex∨X.s₀.heap.objs.size≤b)/\b≠X.env.locals/\.(l)/\∀p∈X.pn++pins,p.1≠b)
 (keep:∀b o,b≠X.env.locals->b∉X.fs->b∉ch->s.heap.get? b=some o->H b=none->h'.get? b=some o)
 (slot:∀b o,b≠X.env.locals->b∈X.fs->b∉ch->s.heap.get? b=some o->H b=none->∃sl,h'.get? b=some { o with slots:=sl }) (free:∀b o,b∉ch->s.heap.get? b=some o->H b=none->H' b=none)
 (there:∀b o,b∉ch->s.heap.get? b=some o->∃o',h'.get? b=some o')
 (tups:∀b xs,H b=.(g xs)->H' b=.(g xs)) (frzs:∀b o u,H b=some (.frz o u)->H' b=some (.frz o u)) (tbls:∀b ps,H b=some (.tbl ps)->∃more,H' b=some (.tbl (ps++more)))
 (ns:∀m,s.heap.Ns X.env.locals m->h'.Ns X.env.locals m) (hok:HOk X.prog X.w H' h') (hg:K5s g') :
 Inv X pins σ H' { s with heap:=h',gens:=g',drawn:=d',toks:=t' }:=by
 have neL:∀b o,X.s₀.heap.get? b=some o->b≠X.env.locals:=λb o e=>K0n (K0j (K08 e) I.ok.above)
 have neC:∀b o,X.s₀.heap.get? b=some o->b∉X.ex->b∉ch:=λb o e hx hb=>by
  rcases (hch b hb).1 with z|z
  ·exact hx z
  ·exact absurd (K0j (K08 e) z) (K2j _)
 have cellK:∀x c,X.env.cells.lookup x=some c->∀v,s.heap.IsCell c v->h'.IsCell c v:=λx c e v ⟨o,ho,hd⟩=>by
  have nch:c∉ch:=λz=>(hch c z).2.2.1 x c e rfl
  by_cases hc:c∈X.fs
  ·obtain ⟨sl,q⟩:=slot c o (I.cne x c e) hc nch ho (I.freeC x c e)
   exact ⟨_,q,hd⟩
  ·exact ⟨o,keep c o (I.cne x c e) hc nch ho (I.freeC x c e),hd⟩
 refine ⟨I.ok,I.os,hg,⟨λb o e n hb hx=>?_,λb o e n hb hx=>?_,λb o e n hx=>?_,λb o e hx=>?_,λb xs e=>tups b xs (I.base.tups b xs e),λb o xs e=>frzs b o xs (I.base.frzs b o xs e),λb ps e=>?_⟩,?_,λx c e=>?_,?_,λx c e=>?_,λp hp=>?_,hok,I.len⟩
 ·exact keep b o (neL b o e) hb (neC b o e hx) (I.base.keep b o e n hb hx) (I.base.free b o e n hx)
 ·obtain ⟨sl,e1⟩:=I.base.slot b o e n hb hx
  obtain ⟨sl',e2⟩:=slot b _ (neL b o e) hb (neC b o e hx) e1 (I.base.free b o e n hx)
  exact ⟨sl',e2⟩
 ·obtain ⟨o',e1⟩:=I.base.there b o e hx
  exact free b o' (neC b o e hx) e1 (I.base.free b o e n hx)
 ·obtain ⟨o',e1⟩:=I.base.there b o e hx
  exact there b o' (neC b o e hx) e1
 ·obtain ⟨m1,e1⟩:=I.base.tbls b ps e
  obtain ⟨m2,e2⟩:=tbls b _ e1
  exact ⟨m1++m2,by rw [e2,K9r]⟩
 ·obtain ⟨m,hn,hl⟩:=I.loc
  refine ⟨m,ns m hn,λi x v e1 e2 e3=>?_⟩
  obtain ⟨u,r,l⟩:=hl i x v e1 e2 e3
  refine ⟨u,r,?_⟩
  rcases l with l|⟨k,c,e,z⟩
  ·exact .inl l
  ·exact .inr ⟨k,c,e,cellK x c e _ z⟩
 ·obtain ⟨v,z⟩:=I.cell x c e
  exact ⟨v,cellK x c e v z⟩
 ·obtain ⟨m,⟨o,_,_,ho,_⟩,_⟩:=I.loc
  exact free _ o (λz=>(hch _ z).2.1 rfl) ho I.free
 ·obtain ⟨v,o,ho,hd⟩:=I.cell x c e
  exact free c o (λz=>(hch c z).2.2.1 x c e rfl) ho (I.freeC x c e)
 ·obtain ⟨e,n,ne,nf,d⟩:=I.pin p hp
  have nch:p.1∉ch:=λz=>(hch p.1 z).2.2.2 p hp rfl
  exact ⟨keep p.1 p.2 ne nf nch e n,free p.1 p.2 nch e n,ne,nf,d⟩
theorem Inv.un {t':Nat}(I:Inv X pins σ H s) (u:Un X.fs [] H H' s.heap h') (hok:HOk X.prog X.w H' h'):Inv X pins σ H' { s with heap:=h',toks:=t' }:=by
 obtain ⟨m,⟨o,es,ep,ho,r⟩,_⟩:=id I.loc
 obtain ⟨sl,hL⟩:=u.any ho I.free .(e)
 exact I.step (g':=s.gens) (d':=s.drawn) (ch:=[]) (λ_ z=>nomatch z) (λb o _ hb _ e n=>u.keep b o e n hb .(e)) (λb o _ hb _ e n=>u.slot b o e n hb .(e)) (λb o _ e n=>u.free b o e n .(e)) (λb o _ e=>u.there b o e .(e)) u.tups u.frzs u.tbls (λm' hm=>by
  obtain ⟨o',es',ep',ho',r'⟩:=hm
  rw [ho] at ho';cases ho'
  exact ⟨_,es',ep',hL,r'⟩) hok I.bare
theorem Inv.call {g':Array K67}{t':Nat}{d':Drawn}{ch:List Addr}(I:Inv X pins σ H s) (u:Un (frs X.stack) ch H H' s.heap h') (hok:HOk X.prog X.w H' h') (hg:K5s g')
 (hch:∀b∈ch,(b∈X.ex∨X.s₀.heap.objs.size≤b)/\b≠X.env.locals/\.(l)/\∀p∈X.pn++pins,p.1≠b) :
 Inv X pins σ H' { s with heap:=h',gens:=g',drawn:=d',toks:=t' }:=by
 obtain ⟨m,⟨o,es,ep,ho,r⟩,_⟩:=id I.loc
 obtain ⟨sl,hL⟩:=u.any ho I.free λz=>(hch _ z).2.1 rfl
 exact I.step (ch:=ch) hch (λb o hL hb hc e n=>u.keep b o e n (λz=>(K0x.mp (I.stkSub b z)).elim hL hb) hc) (λb o _ _ hc e n=>u.any e n hc) (λb o hc e n=>u.free b o e n hc) (λb o hc e=>u.there b o e hc) u.tups u.frzs u.tbls (λm' hm=>by
  obtain ⟨o',es',ep',ho',r'⟩:=hm
  rw [ho] at ho';cases ho'
  exact ⟨_,es',ep',hL,r'⟩) hok hg
theorem Inv.turned {t':Nat}{it:Addr}(I:Inv X pins σ H s) (k:∀b o,b≠it->s.heap.get? b=some o->h'.get? b=some o) (hn:H it=none) (hL:it≠X.env.locals)
 (h1:it∈X.ex∨X.s₀.heap.objs.size≤it) (h2:∀x c,X.env.cells.lookup x=some c->c≠it) (h3:∀p∈X.pn++pins,p.1≠it):Inv X pins σ H { s with heap:=h',toks:=t' }:=by
 have nit:∀b u,H b=some u->b≠it:=λb u e z=>by rw [z,hn] at e;cases e
 refine I.step (g':=s.gens) (d':=s.drawn) (ch:=[it]) (λb hb=>?_) (λb o _ _ hc e _=>k b o (λz=>hc (by simp [z])) e) (λb o _ _ hc e _=>⟨o.slots,k b o (λz=>hc (by simp [z])) e⟩) (λ_ _ _ _ n=>n)
  (λb o hc e=>⟨o,k b o (λz=>hc (by simp [z])) e⟩) (λ_ _ e=>e) (λ_ _ _ e=>e) (λb ps e=>⟨#[],by rw [e];simp⟩) (λm hm=>?_) (λb u e=>?_) I.bare
 ·have e:b=it:=by simpa using hb
  subst e
  exact ⟨h1,hL,h2,h3⟩
 ·obtain ⟨o,es,ep,ho,r⟩:=hm
  exact ⟨o,es,ep,k _ o (K34 hL) ho,r⟩
 ·refine (I.hok b u e).stay (λc v hc q=>k c v ?_ q) (λ_ q=>q) λ_ _ q=>q
  rcases hc with z|z
  ·rw [z];exact nit b u e
  ·exact nit c _ z
theorem Inv.tok (I:Inv X pins σ H s) (t:Nat):Inv X pins σ H { s with toks:=t }:=I.un (h':=s.heap) (t':=t) Un.refl I.hok
theorem Inv.kept {t':Nat}(I:Inv X pins σ H s) (k:∀b u,s.heap.get? b=some u->h'.get? b=some u):Inv X pins σ H { s with heap:=h',toks:=t' }:=I.un (Un.kept k) (I.hok.kept k)
theorem Inv.laid {a:Addr}{o:HO}{t':Nat}(I:Inv X pins σ H s) (k:∀b u,s.heap.get? b=some u->h'.get? b=some u) (hp:s.heap.objs.size≤a) (new:ObjOk X.prog X.w (upd H a o) h' a o) :
 Inv X pins σ (upd H a o) { s with heap:=h',toks:=t' }:=I.un (Un.laid k hp (I.hok.fresh hp)) (I.hok.laid k hp new)
theorem Inv.write {x e:Addr}{o:HO}{t':Nat}(I:Inv X pins σ H s) (mu:Mut (H x)) (he:e=x∨H e=some (.own x)) (k:∀b u,b≠e->s.heap.get? b=some u->h'.get? b=some u) (heo:∃u,h'.get? e=some u)
 (new:ObjOk X.prog X.w (upd H x o) h' x o):Inv X pins σ (upd H x o) { s with heap:=h',toks:=t' }:=I.un (Un.write mu he k heo) (I.hok.write mu he k heo new)
theorem Inv.weak {σ':List (Option V)}(I:Inv X pins σ H s) (hl:σ'.length=σ.length) (w:∀(i:Nat) v,σ'[i]?=some (some v)->σ[i]?=some (some v)):Inv X pins σ' H s :=
 ⟨I.ok,I.os,I.bare,I.base,let ⟨m,hn,hl'⟩:=I.loc;⟨m,hn,λi x v e1 e2 e3=>hl' i x v e1 (w i v e2) e3⟩,I.cell,I.free,I.freeC,I.pin,I.hok,hl.trans I.len⟩
theorem Inv.pins_of {pins':List .(f)}(I:Inv X pins σ H s) (h:∀p∈pins',s.heap.get? p.1=some p.2/\H p.1=none/\p.1≠X.env.locals/\p.1∉X.fs/\∀v,p.2.data≠.cell v):Inv X pins' σ H s :=
 ⟨I.ok,I.os,I.bare,I.base,I.loc,I.cell,I.free,I.freeC,λp hp=>(K0o.mp hp).elim (λz=>I.pin p (K1k _ z)) (h p),I.hok,I.len⟩
theorem z78 {N:List Str}(hN:N.Nodup) {i j:Nat}{x:Str}(a:N[i]?=some x) (b:N[j]?=some x):i=j:=by
 obtain ⟨h1,e1⟩:=K2.mp a
 obtain ⟨h2,e2⟩:=K2.mp b
 exact (Z0r hN).mp (e1.trans e2.symm)
theorem z9E {M:Model}{A:Around}{E:Value->Shared->Prop}{i:Nat}{x:Str}{v:V}{u:Value}{Q:Unit->Shared->Prop}(I:Inv X pins σ H s) (hN:X.N.Nodup) (hi:X.N[i]?=some x) (hx:Loc X.env.scope x) (r:RelV v u)
 (h:∀s',Inv X pins (σ.set i (some v)) H s'->(∃a,K39 a s.heap s'.heap/\(a=X.env.locals∨X.env.cells.lookup x=some a))->Q () s') (hf:X.fn x=true∨X.env.scope.names.lookup x=some .local:=by first|exact .inl rfl|exact .inr rfl|assumption):wpAny M A (storeName X.env x u) Q E s:=by
 obtain ⟨m,hn,hl⟩:=id I.loc
 have hcls:(X.env.scope.kind==.class||(X.env.scope.kind==.module&&X.env.locals != X.env.globals))=false:=by rw [I.ok.kind];rfl
 have hiσ:i<σ.length:=by rw [I.len];exact (K2.mp hi).1
 have cne:=I.cne
 have tracked:∀{a:Addr} {h':Heap},(∃o,s.heap.get? a=some o/\H a=none)->K39 a s.heap h'->HOk X.prog X.w H h':=λ{a h'} ha hs b ob e=>by
  obtain ⟨_,_,hfree⟩:=ha
  refine (I.hok b ob e).stay (λc w' hc q=>(hs.2 c ?_).trans q) (λ_ q=>q) λ_ _ q=>q
  rintro rfl
  rcases hc with rfl|hc
  ·rw [hfree] at e;cases e
  ·rw [hfree] at hc;cases hc
 rcases hx with hk|hk
 ·refine wpAny_storeName_local hk hn (λh' hn' hs=>?_) hcls
  obtain ⟨oL,_,_,hoL,_⟩:=id hn
  refine h _ ⟨I.ok,I.os,I.bare,⟨λb o e n hb hx=>?_,λb o e n hb hx=>?_,I.base.free,λb o e hx=>?_,I.base.tups,I.base.frzs,I.base.tbls⟩,⟨_,hn',λj y v' e1 e2 e3=>?_⟩,λy c e=>?_,I.free,I.freeC,λp hp=>?_,tracked ⟨oL,hoL,I.free⟩ hs,by simpa using I.len⟩ ⟨_,hs,.inl rfl⟩
  ·exact (hs.2 b (K0n (K0j (K08 e) I.ok.above))).trans (I.base.keep b o e n hb hx)
  ·obtain ⟨sl,e1⟩:=I.base.slot b o e n hb hx
   exact ⟨sl,(hs.2 b (K0n (K0j (K08 e) I.ok.above))).trans e1⟩
  ·obtain ⟨o',e1⟩:=I.base.there b o e hx
   exact ⟨o',(hs.2 b (K0n (K0j (K08 e) I.ok.above))).trans e1⟩
  ·by_cases hj:j=i
   ·subst hj
    rw [hi] at e1;cases e1
    rw [K0v hiσ] at e2
    cases e2
    exact ⟨u,r,.inl ⟨hk,by simp⟩⟩
   ·rw [K0e (K34 hj)] at e2
    obtain ⟨u',r',q⟩:=hl j y v' e1 e2 e3
    refine ⟨u',r',?_⟩
    rcases q with ⟨k,e⟩|⟨k,c,e,z⟩
    ·refine .inl ⟨k,?_⟩
     have:y≠x:=λe=>hj (z78 hN e1 (e ▸ hi))
     simp [this,e]
    ·exact .inr ⟨k,c,e,z.sameBut hs (cne y c e)⟩
  ·obtain ⟨w',z⟩:=I.cell y c e
   exact ⟨w',z.sameBut hs (cne y c e)⟩
  ·obtain ⟨e,n,ne,nf,d⟩:=I.pin p hp
   exact ⟨(hs.2 p.1 ne).trans e,n,ne,nf,d⟩
 ·have hfn:X.fn x=true:=by
   rcases hf with z|z
   ·exact z
   ·rw [z] at hk;cases hk
  obtain ⟨c,hc⟩:=I.ok.has x (.inl hk)
  obtain ⟨w',z⟩:=I.cell x c hc
  refine wpAny_storeName_cell I.ok.kind hk hc z (λh' hc' hs=>?_)
  obtain ⟨oc,hoc,hocd⟩:=id z
  refine h { s with heap:=h' } ⟨I.ok,I.os,I.bare,⟨λb o e n hb hx=>?_,λb o e n hb hx=>?_,I.base.free,λb o e hx=>?_,I.base.tups,I.base.frzs,I.base.tbls⟩,⟨m,hn.sameBut hs (K34 (cne x c hc)),λj y v' e1 e2 e3=>?_⟩,λy c' e=>?_,I.free,I.freeC,λp hp=>?_,tracked ⟨oc,hoc,I.freeC x c hc⟩ hs,by simpa using I.len⟩ ⟨c,hs,.inr hc⟩
  ·exact (hs.2 b (K0n (K0j (K08 e) (I.ok.cab x c hfn hc)))).trans (I.base.keep b o e n hb hx)
  ·obtain ⟨sl,e1⟩:=I.base.slot b o e n hb hx
   exact ⟨sl,(hs.2 b (K0n (K0j (K08 e) (I.ok.cab x c hfn hc)))).trans e1⟩
  ·obtain ⟨o',e1⟩:=I.base.there b o e hx
   exact ⟨o',(hs.2 b (K0n (K0j (K08 e) (I.ok.cab x c hfn hc)))).trans e1⟩
  ·by_cases hj:j=i
   ·subst hj
    rw [hi] at e1;cases e1
    rw [K0v hiσ] at e2
    cases e2
    exact ⟨u,r,.inr ⟨.inl hk,c,hc,hc'⟩⟩
   ·rw [K0e (K34 hj)] at e2
    obtain ⟨u',r',q⟩:=hl j y v' e1 e2 e3
    refine ⟨u',r',?_⟩
    rcases q with q|⟨k,c',e,z'⟩
    ·exact .inl q
    ·refine .inr ⟨k,c',e,z'.sameBut hs ?_⟩
     rintro rfl
     exact hj (z78 hN e1 (I.ok.inj _ _ _ e hc ▸ hi))
  ·by_cases hcc:c'=c
   ·subst hcc;exact ⟨_,hc'⟩
   ·obtain ⟨w2,z2⟩:=I.cell y c' e
    exact ⟨w2,z2.sameBut hs hcc⟩
  ·obtain ⟨e,n,ne,nf,d⟩:=I.pin p hp
   refine ⟨(hs.2 p.1 ?_).trans e,n,ne,nf,d⟩
   intro q
   rw [q,hoc] at e
   have q':oc=p.2:=K10 e
   exact d w' (by rw [← q'];exact hocd)
theorem z4Z {M:Model}{A:Around}{E:Value->Shared->Prop}{i:Nat}{x:Str}{v:V}{u:Value}{Q:Unit->Shared->Prop}(I:Inv X pins σ H s) (hN:X.N.Nodup) (hi:X.N[i]?=some x) (hx:Loc X.env.scope x) (r:RelV v u)
 (h:∀s',Inv X pins (σ.set i (some v)) H s'->Q () s') (hf:X.fn x=true∨X.env.scope.names.lookup x=some .local:=by first|exact .inl rfl|exact .inr rfl|assumption):wpAny M A (storeName X.env x u) Q E s :=
 z9E I hN hi hx r (λs' I' _=>h s' I') hf
theorem Inv.call' {s':Shared}{ch:List Addr}(I:Inv X pins σ H s) (ho:s'.os=s.os) (u:Un (frs X.stack) ch H H' s.heap s'.heap) (hok:HOk X.prog X.w H' s'.heap) (hg:K5s s'.gens)
 (hch:∀b∈ch,(b∈X.ex∨X.s₀.heap.objs.size≤b)/\b≠X.env.locals/\.(l)/\∀p∈X.pn++pins,p.1≠b):Inv X pins σ H' s':=by
 obtain ⟨h',g',d',t',o'⟩:=s'
 have e:o'=s.os:=ho
 subst e
 exact I.call (g':=g') (t':=t') (d':=d') u hok hg hch
end
abbrev XK:=Value->Option Addr->Hp->Prop
abbrev St:=List (Option V)
abbrev VK:=V->Hp->Prop
abbrev TE:=St->Hp->VK->Prop
abbrev TT:=St->Hp->(Bool->Hp->Prop)->Prop
abbrev TA:=St->Hp->(List V->Hp->Prop)->Prop
structure Ends where
 nx:St->Hp->Prop
 rt:VK
 bk:St->Hp->Prop:=λ_ _=>False
 ct:St->Hp->Prop:=λ_ _=>False
abbrev TS:=Ends->St->Hp->Prop
def EP (X:Cx) (pins:List .(f)) (σ:St) (Q:VK) (u:Value) (s':Shared):Prop:=∃v H',Inv X pins σ H' s'/\RelV v u/\Q v H'
def TP (X:Cx) (pins:List .(f)) (σ:St) (Q:Bool->Hp->Prop) (b:Bool) (s':Shared):Prop:=∃H',Inv X pins σ H' s'/\Q b H'
def AP (X:Cx) (pins:List .(f)) (σ:St) (Q:List V->Hp->Prop) (us:List Value) (s':Shared):Prop:=∃vs H',Inv X pins σ H' s'/\Vals vs us/\Q vs H'
def SP (X:Cx) (pins:List .(f)) (D:Ends) (f:Flow) (s':Shared):Prop :=
 match f with
 | .next=>∃σ' H',Inv X pins σ' H' s'/\D.nx σ' H'
 | .brk=>∃σ' H',Inv X pins σ' H' s'/\D.bk σ' H'
 | .cont=>∃σ' H',Inv X pins σ' H' s'/\D.ct σ' H'
 | .ret u=>∃v σ' H',Inv X pins σ' H' s'/\RelV v u/\D.rt v H'
def PE (X:Cx) (e:Expr) (t:TE):Prop :=
 ∀(pins:List .(f)) (s:Shared) (σ:St) (H:Hp) (Q:VK),Inv X pins σ H s->t σ H Q->wpAny .(4) X.A (eval e X.env) (EP X pins σ Q) X.xe s
def PT (X:Cx) (e:Expr) (t:TT):Prop :=
 ∀(pins:List .(f)) (s:Shared) (σ:St) (H:Hp) (Q:Bool->Hp->Prop),Inv X pins σ H s->t σ H Q->wpAny .(4) X.A (isTrue e X.env (eval e X.env)) (TP X pins σ Q) X.xe s
def PW (X:Cx) (e:Expr) (t:TT):Prop :=
 ∀(whole:Sem Value) (pins:List .(f)) (s:Shared) (σ:St) (H:Hp) (Q:Bool->Hp->Prop),Inv X pins σ H s->t σ H Q->wpAny .(4) X.A (isTrue e X.env whole) (TP X pins σ Q) X.xe s
theorem PW.pt {X:Cx}{e:Expr}{t:TT}(h:PW X e t):PT X e t:=h _
def PA (X:Cx) (es:List Expr) (t:TA):Prop :=
 ∀(pos:Pos) (pins:List .(f)) (s:Shared) (σ:St) (H:Hp) (Q:List V->Hp->Prop),Inv X pins σ H s->t σ H Q->wpAny .(4) X.A (Z12 (backTo pos (K03 es X.env))) (AP X pins σ Q) X.xe s
def PS (X:Cx) (st:Stmt) (t:TS):Prop :=
 ∀(pins:List .(f)) (s:Shared) (σ:St) (H:Hp) (D:Ends),Inv X pins σ H s->t D σ H->wpAny .(4) X.A (exec st X.env) (SP X pins D) X.xe s
def PSs (X:Cx) (st:List Stmt) (t:TS):Prop :=
 ∀(pins:List .(f)) (s:Shared) (σ:St) (H:Hp) (D:Ends),Inv X pins σ H s->t D σ H->wpAny .(4) X.A (execs st X.env) (SP X pins D) X.xe s
theorem thn {α:Type}{t:Sem α}{Q Q':α->Shared->Prop}{M:Model}{A:Around}{E:Value->Shared->Prop}{s:Shared}(h:wpAny M A t Q E s) (hQ:∀a s,Q a s->Q' a s):wpAny M A t Q' E s:=K2g h hQ λ_ _ x=>x
section
variable {X:Cx}
def tVar (i:Nat):TE:=λσ H Q=>∃v,σ[i]?=some (some v)/\Q v H
def tC (v:V):TE:=λ_ H Q=>Q v H
theorem zG4 {i:Nat}{x:Str}{pos:Pos}(hN:X.N[i]?=some x) (hv:Vis X.env.scope x) (hd:.(A)=false:=by decide) (hcd:(x==("__classdict__":Str))=false:=by decide):PE X (.Name x pos) (tVar i):=by
 intro pins s σ H Q I h
 obtain ⟨v,e,h⟩:=h
 obtain ⟨m,hn,hl⟩:=I.loc
 obtain ⟨u,r,l⟩:=hl i x v hN e hv
 have fin:EP X pins σ Q u s:=⟨v,H,I,r,h⟩
 rcases l with ⟨hk,hm⟩|⟨hk,c,hc,hcell⟩
 ·exact wpAny_Name (wpAny_loadName_local I.ok.kind hk hn hm fin) hd
 ·rcases hk with hk|hk
  ·exact wpAny_Name (wpAny_loadName_cell I.ok.kind hk hc hcell fin) hd
  ·exact wpAny_Name (wpAny_loadName_free I.ok.kind hk hc hcell fin hcd) hd
theorem zF2 {i j pos}:PE X (.Constant (.int i) j pos) (tC (.int i)):=λ_ _ _ H _ I h=>wpAny_Constant_int ⟨.int i,H,I.tok _,⟨_,rfl⟩,h⟩
theorem zP3 {b j pos}:PE X (.Constant (.bool b) j pos) (tC (.bl b)):=λ_ _ _ H _ I h=>Constant_bool ⟨.bl b,H,I,rfl,h⟩
theorem zI9 {j pos}:PE X (.Constant .none j pos) (tC .non):=λ_ _ _ H _ I h=>Constant_none ⟨.non,H,I,rfl,h⟩
theorem zC8 {x j pos}:PE X (.Constant (.str x) j pos) (tC (.str x)):=λ_ _ _ H _ I h=>Calls.Constant_str ⟨.str x,H,I.tok _,⟨_,rfl⟩,h⟩
def Gl (X:Cx) (x:Str):Prop:=X.env.kindOf x=some .globalImplicit
theorem z3j {E:Value->Shared->Prop}{pins:List .(f)}{s:Shared}{σ:St}{H:Hp}{x:Str}{u:Value}{pos:Pos}{Q:Value->Shared->Prop}(I:Inv X pins σ H s) (hg:Gl X x) (hm:X.mg x=some u) (h:Q u s)
 (hd:.(A)=false:=by decide):wpAny .(4) X.A (eval (.Name x pos) X.env) Q E s :=
 K70 I.ok.kind hg (Calls.loadGlobal_global (by rw [I.ok.glob];exact I.mod.glob.keeps I.bk) hm h) hd
theorem z5E {E:Value->Shared->Prop}{pins:List .(f)}{s:Shared}{σ:St}{H:Hp}{x:Str}{u:Value}{pos:Pos}{Q:Value->Shared->Prop}(I:Inv X pins σ H s) (hg:Gl X x) (hm:X.mg x=none) (hv:K49 x=some u) (h:Q u s)
 (hn:x≠"__name__":=by decide) (hd:.(A)=false:=by decide):wpAny .(4) X.A (eval (.Name x pos) X.env) Q E s:=by
 obtain ⟨mb,h1,h2⟩:=I.mod.blt
 exact K70 I.ok.kind hg (Calls.loadGlobal_builtin (by rw [I.ok.glob];exact I.mod.glob.keeps I.bk) hm (by rw [I.ok.blt];exact h1.keeps I.bk) ((h2 x hn).trans hv) h) hd
theorem z9d {x:Str}{v:V}{u:Value}{pos:Pos}(hg:Gl X x) (hm:X.mg x=some u) (r:RelV v u) (hd:.(A)=false:=by decide):PE X (.Name x pos) (tC v) :=
 λ_ _ _ H _ I h=>z3j I hg hm ⟨v,H,I,r,h⟩ hd
theorem z9A {x:Str}{v:V}{u:Value}{pos:Pos}(hg:Gl X x) (hm:X.mg x=none) (hv:K49 x=some u) (r:RelV v u) (hn:x≠"__name__":=by decide) (hd:.(A)=false:=by decide):PE X (.Name x pos) (tC v) :=
 λ_ _ _ H _ I h=>z5E I hg hm hv ⟨v,H,I,r,h⟩ hn hd
variable {a b:Expr}{ta tb:TE}{pos:Pos}
def tB (t:TE):TT:=λσ H Q=>t σ H λx H1=>∃c,x=.bl c/\Q c H1
variable {tA tB':TT}{rest:List Expr}
def tAnd (t u:TT):TT:=λσ H Q=>t σ H λc H1=>if c=true then u σ H1 Q else Q false H1
def tOr (t u:TT):TT:=λσ H Q=>t σ H λc H1=>if c=true then Q true H1 else u σ H1 Q
def tNot (t:TT):TT:=λσ H Q=>t σ H λc H1=>Q (!c) H1
theorem zx5 (ha:PT X a tA):PW X (.BoolOp .And [a] pos) tA:=by
 intro wh pins s σ H Q I h
 refine isTrue_and (thn (ha pins s σ H Q I h) λc s1 e=>?_)
 cases c with
 | true=>exact isTrue_and_nil e
 | false=>exact e
theorem zG9 (ha:PT X a tA):PW X (.BoolOp .Or [a] pos) tA:=by
 intro wh pins s σ H Q I h
 refine isTrue_or (thn (ha pins s σ H Q I h) λc s1 e=>?_)
 cases c with
 | false=>exact isTrue_or_nil e
 | true=>exact e
theorem zF4 (ha:PT X a tA) (hb:PW X (.BoolOp .And (b::rest) pos) tB'):PW X (.BoolOp .And (a::b::rest) pos) (tAnd tA tB'):=by
 intro wh pins s σ H Q I h
 refine isTrue_and (thn .(Q) λc s1 ⟨H1,I1,q1⟩=>?_)
 cases c with
 | true=>exact hb wh pins s1 σ H1 Q I1 q1
 | false=>exact ⟨H1,I1,q1⟩
theorem zO7 (ha:PT X a tA) (hb:PW X (.BoolOp .Or (b::rest) pos) tB'):PW X (.BoolOp .Or (a::b::rest) pos) (tOr tA tB'):=by
 intro wh pins s σ H Q I h
 refine isTrue_or (thn .(Q) λc s1 ⟨H1,I1,q1⟩=>?_)
 cases c with
 | true=>exact ⟨H1,I1,q1⟩
 | false=>exact hb wh pins s1 σ H1 Q I1 q1
theorem zN0 (ha:PT X a tA):PT X (.UnaryOp .Not a pos) (tNot tA):=by
 intro pins s σ H Q I h
 exact isTrue_not (ha pins s σ H (λc H1=>Q (!c) H1) I h)
def zQ9 (ta tb:TE):TE:=λσ H Q=>ta σ H λx H1=>∃c,x=.bl c/\if c=true then tb σ H1 Q else Q (.bl false) H1
def tOrV (ta tb:TE):TE:=λσ H Q=>ta σ H λx H1=>∃c,x=.bl c/\if c=true then Q (.bl true) H1 else tb σ H1 Q
def zP6 (ta:TE):TE:=λσ H Q=>ta σ H λx H1=>∃c,x=.bl c/\Q (.bl (!c)) H1
theorem zD7 {op}{t:TE}(h:PE X a t):PE X (.BoolOp op [a] pos) t:=λpins s σ H Q I hw=>BoolOp_one (h pins s σ H Q I hw)
theorem zJ8 (ha:PE X a ta) (hb:PE X (.BoolOp .And (b::rest) pos) tb):PE X (.BoolOp .And (a::b::rest) pos) (zQ9 ta tb):=by
 intro pins s σ H Q I h
 refine BoolOp_and (thn .(Q) λv s1 ⟨x,H1,I1,r1,q1⟩=>?_)
 obtain ⟨c,rfl,q1⟩:=q1
 cases r1
 refine K32 ?_
 cases c with
 | true=>exact hb pins s1 σ H1 Q I1 q1
 | false=>exact ⟨.bl false,H1,I1,rfl,q1⟩
theorem zP9 (ha:PE X a ta) (hb:PE X (.BoolOp .Or (b::rest) pos) tb):PE X (.BoolOp .Or (a::b::rest) pos) (tOrV ta tb):=by
 intro pins s σ H Q I h
 refine BoolOp_or (thn .(Q) λv s1 ⟨x,H1,I1,r1,q1⟩=>?_)
 obtain ⟨c,rfl,q1⟩:=q1
 cases r1
 refine K32 ?_
 cases c with
 | false=>exact hb pins s1 σ H1 Q I1 q1
 | true=>exact ⟨.bl true,H1,I1,rfl,q1⟩
theorem zK7 (ha:PE X a ta):PE X (.UnaryOp .Not a pos) (zP6 ta):=by
 intro pins s σ H Q I h
 refine UnaryOp_ (thn .(Q) λv s1 ⟨x,H1,I1,r1,q1⟩=>?_)
 obtain ⟨c,rfl,q1⟩:=q1
 cases r1
 exact not_of (K32 ⟨.bl (!c),H1,I1,rfl,q1⟩)
def tIf (t:TT) (ta tb:TE):TE:=λσ H Q=>t σ H λc H1=>if c=true then ta σ H1 Q else tb σ H1 Q
theorem zb8 {c:Expr}(hc:PT X c tA) (ha:PE X a ta) (hb:PE X b tb):PE X (.IfExp c a b pos) (tIf tA ta tb):=by
 intro pins s σ H Q I h
 refine wpAny_IfExp (thn (hc pins s σ H _ I h) λd s1 ⟨H1,I1,q1⟩=>?_)
 cases d with
 | true=>exact ha pins s1 σ H1 Q I1 q1
 | false=>exact hb pins s1 σ H1 Q I1 q1
end
def SqL (K:K0) (H:Hp) (a:Addr) (xs:List V):Prop :=
 Rd H a (.lst xs) ∨
  ∃(o:Obj) (its:Array Value) (n:Nat),K.lookup a=some o/\o.cls=.type "list"/\o.dict=none/\o.data=.seq its n/\its.size≤sizeLine/\Vals xs its.toList
def SqT (K:K0) (H:Hp) (a:Addr) (xs:List V):Prop :=
 Rd H a (.tup xs) ∨
  ∃(o:Obj) (its:Array Value) (n:Nat),K.lookup a=some o/\(o.cls=.type "tuple"/\o.dict=none)/\o.data=.seq its n/\its.size≤sizeLine/\Vals xs its.toList
def absV:Value->Option V
 | .none=>some .non
 | .bool b=>some (.bl b)
 | .int i _=>some (.int i)
 | .str x _=>some (.str x)
 | .bytes b _=>some (.byt b)
 | .float b _=>some (.flt b)
 | .ref a=>some (.ref a)
 | .type n=>some (.ty n)
 | _=>none
theorem RelV.abs {x:V}{u:Value}(r:RelV x u):absV u=some x:=by
 cases x with
 | non=>cases r;rfl
 | bl _=>cases r;rfl
 | int _=>obtain ⟨t,rfl⟩:=r;rfl
 | str _=>obtain ⟨t,rfl⟩:=r;rfl
 | byt _=>obtain ⟨t,rfl⟩:=r;rfl
 | flt _=>obtain ⟨t,rfl⟩:=r;rfl
 | ref _=>cases r;rfl
 | ty _=>cases r;rfl
theorem RelV.inj {x y:V}{u:Value}(r:RelV x u) (q:RelV y u):x=y:=K10 (r.abs.symm.trans q.abs)
theorem Vals.inj:∀{xs ys:List V}{us:List Value},Vals xs us->Vals ys us->xs=ys
 | _,_,_,.nil,.nil=>rfl
 | _,_,_,.cons r t,.cons r' t'=>by rw [r.inj r',Vals.inj t t']
section
variable {X:Cx}{pins:List (Addr×Obj)}{σ:St}{H:Hp}{s:Shared}{a:Addr}{xs ys:List V}
theorem SqL.of {K:K0}(h:H a=.(l xs)):SqL K H a xs:=.inl (.inl h)
theorem SqT.of {K:K0}(h:H a=.(g xs)):SqT K H a xs:=.inl (.inl h)
theorem Inv.list (I:Inv X pins σ H s) (h:SqL X.K H a xs):∃its:List Value,Vals xs its/\PlainL s.heap a its.toArray/\xs.length≤sizeLine:=by
 rcases h with h|⟨o,its,n,hk,hc,hd,hs,hz,r⟩
 ·obtain ⟨z,its,n,r,e⟩:=h.ok I.hok
  exact ⟨its,r,⟨_,n,e,rfl,rfl,rfl⟩,z⟩
 ·refine ⟨its.toList,r,⟨o,n,I.kIn a o hk,hc,hd,by simpa using hs⟩,?_⟩
  have e:=.(z)
  simp only [K19] at e
  omega
theorem Inv.tuple (I:Inv X pins σ H s) (h:SqT X.K H a xs):∃its:List Value,Vals xs its/\IsTup s.heap a its.toArray/\xs.length≤sizeLine:=by
 rcases h with h|⟨o,its,n,hk,hc,hs,hz,r⟩
 ·obtain ⟨z,its,r,p⟩:=h.ok I.hok
  exact ⟨its,r,p.tup,z⟩
 ·refine ⟨its.toList,r,⟨o,I.kIn a o hk,hc.1,n,by simpa using hs⟩,?_⟩
  have e:=.(z)
  simp only [K19] at e
  omega
theorem Inv.list_inj (I:Inv X pins σ H s) (h:SqL X.K H a xs) (h':SqL X.K H a ys):xs=ys:=by
 obtain ⟨its,r,⟨o,n,e,_,_,d⟩,_⟩:=I.list h
 obtain ⟨its',r',⟨o',n',e',_,_,d'⟩,_⟩:=I.list h'
 rw [e] at e';cases e'
 rw [d] at d'
 injection d' with d1 _
 have:its=its':=by simpa using congrArg K9z d1
 subst this
 exact r.inj r'
theorem Inv.tuple_inj (I:Inv X pins σ H s) (h:SqT X.K H a xs) (h':SqT X.K H a ys):xs=ys:=by
 obtain ⟨its,r,⟨o,e,_,n,d⟩,_⟩:=I.tuple h
 obtain ⟨its',r',⟨o',e',_,n',d'⟩,_⟩:=I.tuple h'
 rw [e] at e';cases e'
 rw [d] at d'
 injection d' with d1 _
 have:its=its':=by simpa using congrArg K9z d1
 subst this
 exact r.inj r'
end
abbrev Cx.wish (X:Cx) (E:Value->Shared->Prop):Cx:={ X with xe:=E }
abbrev Cx.nox (X:Cx):Cx:=X.wish λ_ _=>False
theorem Cx.Ok.wish {X:Cx}(ok:X.Ok) (E:Value->Shared->Prop):(X.wish E).Ok :=
 ⟨ok.mod,ok.kind,ok.glob,ok.blt,ok.above,ok.inj,ok.has,ok.cab,ok.hd,ok.frames,ok.stk,ok.exf,ok.bs,ok.bsz,ok.noex,ok.exfs,ok.funs,ok.frf⟩
theorem Cx.Ok.unwish {X:Cx}{E:Value->Shared->Prop}(ok:(X.wish E).Ok):X.Ok :=
 ⟨ok.mod,ok.kind,ok.glob,ok.blt,ok.above,ok.inj,ok.has,ok.cab,ok.hd,ok.frames,ok.stk,ok.exf,ok.bs,ok.bsz,ok.noex,ok.exfs,ok.funs,ok.frf⟩
section
variable {X:Cx}{pins:List (Addr×Obj)}{σ:St}{H:Hp}{s:Shared}{E:Value->Shared->Prop}
theorem Inv.wish (I:Inv X pins σ H s) (E:Value->Shared->Prop):Inv (X.wish E) pins σ H s:=⟨I.ok.wish E,I.os,I.bare,I.base,I.loc,I.cell,I.free,I.freeC,I.pin,I.hok,I.len⟩
theorem Inv.unwish (I:Inv (X.wish E) pins σ H s):Inv X pins σ H s:=⟨I.ok.unwish,I.os,I.bare,I.base,I.loc,I.cell,I.free,I.freeC,I.pin,I.hok,I.len⟩
theorem SP.unwish {D:Ends}{f:Flow}{s':Shared}(h:SP (X.wish E) pins D f s'):SP X pins D f s':=by
 cases f with
 | next=>obtain ⟨σ',H',I,q⟩:=h;exact ⟨σ',H',I.unwish,q⟩
 | brk=>obtain ⟨σ',H',I,q⟩:=h;exact ⟨σ',H',I.unwish,q⟩
 | cont=>obtain ⟨σ',H',I,q⟩:=h;exact ⟨σ',H',I.unwish,q⟩
 | ret u=>obtain ⟨v,σ',H',I,r,q⟩:=h;exact ⟨v,σ',H',I.unwish,r,q⟩
theorem PT.nox {e:Expr}{t:TT}(h:PT X.nox e t):PT X e t:=λpins s σ H Q I hw =>
 K2g (h pins s σ H Q (I.wish _) hw) (λ_ _ ⟨H',I',q⟩=>⟨H',I'.unwish,q⟩) λ_ _ z=>K1q z
theorem PSs.nox {st:List Stmt}{t:TS}(h:PSs X.nox st t):PSs X st t:=λpins s σ H D I hw =>
 K2g (h pins s σ H D (I.wish _) hw) (λ_ _ q=>q.unwish) λ_ _ z=>K1q z
end
section
variable {X:Cx}{st:Stmt}{rest:List Stmt}{t u:TS}{e:Expr}{te:TE}{pos:Pos}
def zT1:TS:=λD σ H=>D.nx σ H
def tSeq (t u:TS):TS:=λD σ H=>t { D with nx:=u D } σ H
theorem zA5:PSs X [] zT1:=λ_ _ σ H _ I h=>K57 ⟨σ,H,I,h⟩
theorem zh4 (h1:PS X st t) (h2:PSs X rest u):PSs X (st::rest) (tSeq t u):=by
 intro pins s σ H D I h
 refine wpAny_execs_cons (thn (h1 pins s σ H { D with nx:=u D } I h) λf s1 q=>?_)
 cases f with
 | next =>
  obtain ⟨σ',H',I',q⟩:=q
  exact h2 pins s1 σ' H' D I' q
 | ret v=>exact q
 | brk=>exact q
 | cont=>exact q
theorem Inv.quiet {pins:List .(f)}{σ:St}{H:Hp}{s:Shared}(I:Inv X pins σ H s):interactive X.env=false:=by simp [interactive,I.ok.kind]
def zQ3 (te:TE):TS:=λD σ H=>te σ H λ_ H1=>D.nx σ H1
theorem zu0 (he:PE X e te) (hs:K1x e none pos.line X.env=pure false:=by rfl):PS X (.Expr e pos) (zQ3 te):=by
 intro pins s σ H D I h
 exact wpAny_Expr_any (thn (he pins s σ H _ I h) λv s1 ⟨x,H1,I1,r1,q1⟩=>⟨σ,H1,I1,q1⟩) I.quiet hs
def tRet (te:TE):TS:=λD σ H=>te σ H D.rt
theorem zK5 (he:PE X e te):PS X (.Return (some e) pos) (tRet te):=by
 intro pins s σ H D I h
 exact wpAny_Return_some (thn (he pins s σ H _ I h) λv s1 ⟨x,H1,I1,r1,q1⟩=>⟨x,σ,H1,I1,r1,q1⟩)
def tIfS (c:TT) (t u:TS):TS:=λD σ H=>c σ H λb H1=>if b=true then t D σ H1 else u D σ H1
theorem zP4 {c:Expr}{a b:List Stmt}{tc:TT}(hc:PT X c tc) (ha:PSs X a t) (hb:PSs X b u):PS X (.If c a b pos) (tIfS tc t u):=by
 intro pins s σ H D I h
 refine wpAny_If (thn (hc pins s σ H _ I h) λd s1 ⟨H1,I1,q1⟩=>?_)
 cases d with
 | true=>exact ha pins s1 σ H1 D I1 q1
 | false=>exact hb pins s1 σ H1 D I1 q1
end
abbrev TG:=V->St->Hp->(St->Hp->Prop)->Prop
abbrev TGs:=List V->St->Hp->(St->Hp->Prop)->Prop
def PG (X:Cx) (target:Expr) (t:TG):Prop :=
 ∀(pins:List .(f)) (s:Shared) (σ:St) (H:Hp) (v:V) (u:Value) (Q:St->Hp->Prop),Inv X pins σ H s->RelV v u->t v σ H Q ->
  wpAny .(4) X.A (assign target X.env u) (λ_ s'=>∃σ' H',Inv X pins σ' H' s'/\Q σ' H') X.xe s
def PGs (X:Cx) (ts:List Expr) (t:TGs):Prop :=
 ∀(pins:List .(f)) (s:Shared) (σ:St) (H:Hp) (vs:List V) (us:List Value) (Q:St->Hp->Prop),Inv X pins σ H s->Vals vs us->t vs σ H Q ->
  wpAny .(4) X.A (assignInOrder ((K2o ts X.env).map (·.2)) us) (λ_ s'=>∃σ' H',Inv X pins σ' H' s'/\Q σ' H') X.xe s
abbrev TSet:=V->V->V->Hp->(Hp->Prop)->Prop
def PSet (X:Cx) (t:TSet):Prop :=
 ∀(pins:List .(f)) (s:Shared) (σ:St) (H:Hp) (o i v:V) (ov iv u:Value) (Q:Hp->Prop),Inv X pins σ H s->RelV o ov->RelV i iv->RelV v u->t o i v H Q ->
  wpAny .(4) X.A (Z13 ov iv u) (λ_ s'=>∃H',Inv X pins σ H' s'/\Q H') X.xe s
section
variable {X:Cx}{pos:Pos}
def zI8 (i:Nat):TG:=λv σ H Q=>Q (σ.set i (some v)) H
theorem z6C {i:Nat}{x:Str}(hN:X.N.Nodup) (hi:X.N[i]?=some x) (hx:Loc X.env.scope x) (hf:X.fn x=true∨X.env.scope.names.lookup x=some .local:=by first|exact .inl rfl|exact .inr rfl|assumption):PG X (.Name x pos) (zI8 i):=by
 intro pins s σ H v u Q I r h
 exact wpAny_assign_Name (z4Z I hN hi hx r (λs' I'=>⟨_,H,I',h⟩) hf)
def gNil:TGs:=λvs σ H Q=>vs=[]/\Q σ H
def zO8 (t:TG) (u:TGs):TGs:=λvs σ H Q=>∃v r,vs=v::r/\t v σ H λσ' H'=>u r σ' H' Q
theorem z8U:PGs X [] gNil:=by
 intro pins s σ H vs us Q I r h
 obtain ⟨e,h⟩:=h
 subst e
 cases r
 exact assignInOrder_nil ⟨σ,H,I,h⟩
theorem z6R {e:Expr}{es:List Expr}{t:TG}{u:TGs}(h1:PG X e t) (h2:PGs X es u)
 (hs:(K2o (e::es) X.env).map (·.2)=assign e X.env::(K2o es X.env).map (·.2):=by rfl):PGs X (e::es) (zO8 t u):=by
 intro pins s σ H vs us Q I r h
 obtain ⟨v,vr,e1,h⟩:=h
 subst e1
 cases r with
 | cons r rr =>
  rw [hs]
  refine assignInOrder_cons (thn (h1 pins s σ H _ _ _ I r h) λ_ s1 ⟨σ1,H1,I1,q1⟩=>?_)
  exact h2 pins s1 σ1 H1 _ _ Q I1 rr q1
def gTup (K:K0) (n:Nat) (t:TGs):TG:=λv σ H Q=>∃a xs,v=.ref a/\SqT K H a xs/\xs.length=n/\t xs σ H Q
theorem zn6 {es:List Expr}{k:Nat}{t:TGs}{n:Nat}(hc:X.calm=true) (h:PGs X es t)
 (hn:(K2o es X.env).length=n:=by rfl) (hst:(K2o es X.env).findIdx? (·.1)=none:=by rfl):PG X (.Tuple es k pos) (gTup X.K n t):=by
 intro pins s σ H v u Q I r hw
 obtain ⟨a,xs,e1,hq,hl,hw⟩:=hw
 subst e1
 cases r
 obtain ⟨its,rv,ht,hz⟩:=I.tuple hq
 refine assign_Tuple_tuple (I.ok.hd hc) ht (by simp [hn,← hl,rv.length]) hst λh' hx=>?_
 have I1:Inv X pins σ H { s with heap:=h' }:=I.kept (t':=s.toks) λb o e=>hx b o (K0n (K08 e)) e
 exact h pins _ σ H xs _ Q I1 (by simpa using rv) hw
def gSub (to ti:TE) (t:TSet):TG:=λv σ H Q=>to σ H λo H1=>ti σ H1 λi H2=>t o i v H2 λH3=>Q σ H3
theorem zn7 {o i:Expr}{to ti:TE}{t:TSet}(ho:PE X o to) (hi:PE X i ti) (hs:PSet X t)
 (ha:∀v,assign (.Subscript o i pos) X.env v=(do
  let ov ← K3v [v] (eval o X.env)
  let iv ← K3v [v,ov] (eval i X.env)
  K4q pos
  K3v [v,ov,iv] (Z13 ov iv v)
  release [v,ov,iv] []):=by intro _;rfl):PG X (.Subscript o i pos) (gSub to ti t):=by
 intro pins s σ H v u Q I r h
 rw [ha]
 refine K1 (K1w (thn (ho pins s σ H _ I h) λov s1 ⟨x,H1,I1,r1,q1⟩=>?_))
 refine K1 (K1w (thn (hi pins s1 σ H1 _ I1 q1) λiv s2 ⟨y,H2,I2,r2,q2⟩=>?_))
 refine K1 (K4i (K1 (K1w (thn (hs pins s2 σ H2 x y v ov iv u _ I2 r1 r2 r q2) λ_ s3 ⟨H3,I3,q3⟩=>?_))))
 exact wpAny_release ⟨σ,H3,I3,q3⟩
def tAsg (te:TE) (g:TG):TS:=λD σ H=>te σ H λx H1=>g x σ H1 D.nx
theorem zI3 {tg e:Expr}{te:TE}{g:TG}(he:PE X e te) (hg:PG X tg g) (hs:swapsWithSole [tg] e pos.line X.env=pure false:=by rfl) (hw:swappedStores [tg] e X.env=pure none:=by rfl)
 (h1:(K2o [tg] X.env).map (·.2)=[assign tg X.env]:=by rfl):PS X (.Assign [tg] e pos) (tAsg te g):=by
 intro pins s σ H D I h
 refine wpAny_Assign_stores (thn (he pins s σ H _ I h) λv s1 ⟨x,H1,I1,r1,q1⟩=>?_) hs hw
 rw [h1]
 exact thn (hg pins s1 σ H1 x v _ I1 r1 q1) λ_ s2 q=>q
theorem zN4 {i:Nat}{x:Str}{e:Expr}{te:TE}{pos':Pos}(hN:X.N.Nodup) (hi:X.N[i]?=some x) (hx:Loc X.env.scope x) (he:PE X e te) (hs:K1x e (some (.Name x pos')) pos.line X.env=pure false:=by rfl) (hf:X.fn x=true∨X.env.scope.names.lookup x=some .local:=by first|exact .inl rfl|exact .inr rfl|assumption) :
 PS X (.Assign [.Name x pos'] e pos) (tAsg te (zI8 i)):=by
 intro pins s σ H D I h
 refine wpAny_Assign_Name (thn (he pins s σ H _ I h) λv s1 ⟨y,H1,I1,r1,q1⟩=>?_) hs
 exact z4Z I1 hN hi hx r1 (λs2 I2=>⟨_,H1,I2,q1⟩) hf
end
section
variable {X:Cx}{pos:Pos}
def zC3 (c:TT) (tb:TS):TS:=λD σ H=>∃W:Nat->St->Hp->Prop,(∃m,W m σ H)/\∀m σ H,W m σ H ->
 c σ H λb H1=>if b=true then ∃N:St->Hp->Prop,(∀σ' H',N σ' H'->∃m',m'<m/\W m' σ' H')/\tb { D with nx:=N,ct:=N,bk:=D.nx } σ H1 else D.nx σ H1
theorem zf5 {c:Expr}{body:List Stmt}{tc:TT}{tb:TS}(hp:Z0n .(4) X.A X.env X.xe) (hc:PT X c tc) (hb:PSs X body tb):PS X (.While c body [] pos) (zC3 tc tb):=by
 intro pins s σ H D I h
 obtain ⟨W,⟨m0,w0⟩,turn⟩:=h
 refine wpAny_While (codeAny_whileLoop (λn s'=>∃σ' H',Inv X pins σ' H' s'/\W n σ' H') ?_ m0 ⟨σ,H,I,w0⟩)
 rintro n s1 ⟨σ1,H1,I1,w1⟩
 refine K3l hp (thn (hc pins s1 σ1 H1 _ I1 (turn n σ1 H1 w1)) λb s2 ⟨H2,I2,q2⟩=>?_)
 cases b with
 | true =>
  obtain ⟨N,hN,q2⟩:=q2
  rw [if_pos rfl]
  refine K3l hp (thn (hb pins s2 σ1 H2 _ I2 q2) λf s3 q3=>?_)
  cases f with
  | next =>
   obtain ⟨σ3,H3,I3,n3⟩:=q3
   obtain ⟨m',hm,w3⟩:=hN σ3 H3 n3
   exact ⟨m',hm,σ3,H3,I3,w3⟩
  | cont =>
   obtain ⟨σ3,H3,I3,n3⟩:=q3
   obtain ⟨m',hm,w3⟩:=hN σ3 H3 n3
   exact ⟨m',hm,σ3,H3,I3,w3⟩
  | brk=>exact q3
  | ret v=>exact q3
 | false =>
  rw [if_neg K17]
  exact K57 ⟨σ1,H2,I2,q2⟩
end
structure It where
 go:Nat->Hp->Prop
 yld:Nat->Hp->V->Hp->Prop
 stop:Nat->Hp->Prop
def FpOk (X:Cx) (pins:List .(f)) (H:Hp) (b:Addr):Prop :=
 H b=none/\b≠X.env.locals/\b∉X.fs/\(b∈X.ex∨X.s₀.heap.objs.size≤b)/\.(l)/\∀p∈X.pn++pins,p.1≠b
theorem Inv.fpOk {X:Cx}{pins:List .(f)}{σ:St}{H H':Hp}{s:Shared}{b:Addr}(I:Inv X pins σ H s) (hb:s.heap.objs.size≤b) (hn:H' b=none):FpOk X pins H' b:=by
 refine ⟨hn,K2k (K0j I.lt hb),I.nofs hb,.inr (K0r I.sz hb),λx c e z=>?_,λp hp z=>?_⟩
 ·obtain ⟨v,q⟩:=I.cell x c e
  exact absurd (K0j q.lt (by rw [z];exact hb)) (K2j _)
 ·exact absurd (K0j (K08 (I.pin p hp).1) (by rw [z];exact hb)) (K2j _)
structure Turn (P:K0m) (w:World) (K:K0) (tg:Expr) (J:It) (fp:List Addr) (it:Addr) (tn:Nat->Heap->Prop):Prop where
 mem:it∈fp
 obj:∀i h,tn i h->∀b∈fp,∃o,h.get? b=some o/\∀v,o.data≠.cell v
 keep:∀i h h',tn i h->(∀b∈fp,∀o,h.get? b=some o->h'.get? b=some o)->tn i h'
 item:∀(X:Cx),X.prog=P->X.w=w->X.K=K->X.calm=true->∀(i:Nat) (pins:List .(f)) (s:Shared) (σ:St) (H:Hp) (E:Value->Shared->Prop),Inv X pins σ H s->(∀b∈fp,FpOk X pins H b)->tn i s.heap->J.go i H ->
  wpAny (model P w) X.A (pyNext (.ref it)) (λr s1=>∃u,r=some u /\
   wpAny (model P w) X.A (K4e tg (.ref it) u) (λ_ s2=>∃x H',Inv X pins σ H' s2/\RelV x u/\J.yld i H x H'/\tn (i+1) s2.heap/\∀b∈fp,H' b=none) E s1) E s
 done:∀(X:Cx),X.prog=P->X.w=w->X.K=K->X.calm=true->∀(i:Nat) (pins:List .(f)) (s:Shared) (σ:St) (H:Hp) (E:Value->Shared->Prop),Inv X pins σ H s->(∀b∈fp,FpOk X pins H b)->tn i s.heap->J.stop i H ->
  wpAny (model P w) X.A (pyNext (.ref it)) (λr s1=>r=none/\Inv X pins σ H s1) E s
 self:∀(A:Around) (i:Nat) (s:Shared) (Q:Value->Shared->Prop) (E:Value->Shared->Prop),tn i s.heap->Q (.ref it) s->wpAny (model P w) A (pyIter (.ref it)) Q E s
abbrev TI:=St->Hp->(It->Hp->Prop)->Prop
def PIE (X:Cx) (pins:List .(f)) (σ:St) (tg:Expr) (R:It->Hp->Prop) (itv:Value) (s2:Shared):Prop :=
 ∃(it:Addr) (fp:List Addr) (tn:Nat->Heap->Prop) (J:It) (H':Hp),itv=.ref it/\Inv X pins σ H' s2/\Turn X.prog X.w X.K tg J fp it tn/\tn 0 s2.heap/\(∀b∈fp,FpOk X pins H' b)/\R J H'
def PI (X:Cx) (tg iter:Expr) (wi:TI):Prop :=
 ∀(pins:List .(f)) (s:Shared) (σ:St) (H:Hp) (R:It->Hp->Prop),Inv X pins σ H s->wi σ H R ->
  wpAny .(4) X.A (eval iter X.env) (λv s1=>wpAny .(4) X.A (pyIter v) (PIE X pins σ tg R) X.xe s1) X.xe s
theorem zj7 {M:Model}{A:Around}{E:Value->Shared->Prop}{s:Shared}{tg:Expr}{it:Addr}{u:Value}{o:Obj}{n:String}{vs:Array Value}{Q:Unit->Shared->Prop}(ho:s.heap.get? it=some o) (hc:o.cls=.type n) (hd:o.data=.fields vs)
 (hn:["enumerate","zip","dict_itemiterator","dict_reverseitemiterator","odict_iterator","itertools.zip_longest","itertools.pairwise"].contains n=false) (hQ:Q () s):wpAny M A (K4e tg (.ref it) u) Q E s:=by
 unfold K4e
 cases tg<;>first
  | exact K8 hQ
  | (cases u<;>first
      | exact K8 hQ
      | (refine K1 (K8c ho ?_)
         rw [hc,hd]
         show wpAny M A (if (["enumerate","zip","dict_itemiterator","dict_reverseitemiterator","odict_iterator","itertools.zip_longest","itertools.pairwise"].contains n&&vs[0]?==some (rawInt _))=true then _ else _) Q E s
         rw [if_neg (by intro h;rw [hn,Bool.false_and] at h;cases h)]
         exact K8 hQ))
def Itl (K:K0) (a:Addr):It :=
 ⟨λi H=>∃xs x,SqL K H a xs/\xs[i]?=some x,λi H x H'=>H'=H/\∀xs,SqL K H a xs->xs[i]?=some x,λi H=>∃xs,SqL K H a xs/\xs.length≤i⟩
def Itt (K:K0) (a:Addr):It :=
 ⟨λi H=>∃xs x,SqT K H a xs/\xs[i]?=some x,λi H x H'=>H'=H/\∀xs,SqT K H a xs->xs[i]?=some x,λi H=>∃xs,SqT K H a xs/\xs.length≤i⟩
def Itr (lo:Int) (n:Nat):It:=⟨λi _=>i<n,λi H x H'=>H'=H/\x=.int (lo+i),λi _=>n≤i⟩
theorem z9k {P:K0m}{w:World}{K:K0}{tg:Expr}(a it:Addr):Turn P w K tg (Itl K a) [it] it (λi h=>h.IsListIter it a i) where
 mem:=by simp
 obj:=λi h st b hb=>by
  have e:b=it:=by simpa using hb
  subst e
  obtain ⟨o,e,c,d⟩:=st
  exact ⟨o,e,λv z=>by rw [d] at z;cases z⟩
 keep:=λi h h' st k=>st.at λo e=>k it .(e) o e
 item:=by
  intro X hP hw hK hc i pins s σ H E I hf st hg
  subst hP hw hK
  obtain ⟨xs,x,hq,hx⟩:=hg
  obtain ⟨its,rv,p,hz⟩:=I.list hq
  obtain ⟨u,hu,ru⟩:=rv.get hx
  obtain ⟨f0,f1,f2,f3,f4,f5⟩:=hf it .(e)
  refine wpAny_pyNext_list_item st p.isList (x:=u) (by simpa using hu) λh' st' sb=>?_
  have I1:Inv X pins σ H { s with heap:=h' }:=I.turned (t':=s.toks) (λb o hb e=>(sb.2 b hb).trans e) f0 f1 f3 f4 f5
  obtain ⟨o,e,c,d⟩:=id st'
  exact ⟨u,rfl,zj7 (s:={ s with heap:=h' }) e c d .(1) ⟨x,H,I1,ru,⟨rfl,λys hy=>by rw [I.list_inj hy hq];exact hx⟩,st',λb hb=>(hf b hb).1⟩⟩
 done:=by
  intro X hP hw hK hc i pins s σ H E I hf st hg
  subst hP hw hK
  obtain ⟨xs,hq,hx⟩:=hg
  obtain ⟨its,rv,p,hz⟩:=I.list hq
  obtain ⟨f0,f1,f2,f3,f4,f5⟩:=hf it .(e)
  have hl:=rv.length
  exact wpAny_pyNext_list_end (I.ok.hd hc) st p.isList (by simp;omega) λh' eb=>⟨rfl,I.turned (t':=s.toks) (λb o hb e=>eb b o hb e) f0 f1 f3 f4 f5⟩
 self:=λ_ _ _ _ _ st h=>wpAny_pyIter_listiter st h
theorem z80 {P:K0m}{w:World}{K:K0}{tg:Expr}(a it:Addr):Turn P w K tg (Itt K a) [it] it (λi h=>h.IsTupleIter it a i) where
 mem:=by simp
 obj:=λi h st b hb=>by
  have e:b=it:=by simpa using hb
  subst e
  obtain ⟨o,e,c,d⟩:=st
  exact ⟨o,e,λv z=>by rw [d] at z;cases z⟩
 keep:=λi h h' st k=>st.at λo e=>k it .(e) o e
 item:=by
  intro X hP hw hK hc i pins s σ H E I hf st hg
  subst hP hw hK
  obtain ⟨xs,x,hq,hx⟩:=hg
  obtain ⟨its,rv,p,hz⟩:=I.tuple hq
  obtain ⟨u,hu,ru⟩:=rv.get hx
  obtain ⟨f0,f1,f2,f3,f4,f5⟩:=hf it .(e)
  refine wpAny_pyNext_tuple_item st (show s.heap.IsTuple a its.toArray from p) (x:=u) (by simpa using hu) λh' st' sb=>?_
  have I1:Inv X pins σ H { s with heap:=h' }:=I.turned (t':=s.toks) (λb o hb e=>(sb.2 b hb).trans e) f0 f1 f3 f4 f5
  obtain ⟨o,e,c,d⟩:=id st'
  exact ⟨u,rfl,zj7 (s:={ s with heap:=h' }) e c d .(1) ⟨x,H,I1,ru,⟨rfl,λys hy=>by rw [I.tuple_inj hy hq];exact hx⟩,st',λb hb=>(hf b hb).1⟩⟩
 done:=by
  intro X hP hw hK hc i pins s σ H E I hf st hg
  subst hP hw hK
  obtain ⟨xs,hq,hx⟩:=hg
  obtain ⟨its,rv,p,hz⟩:=I.tuple hq
  obtain ⟨f0,f1,f2,f3,f4,f5⟩:=hf it .(e)
  have hl:=rv.length
  exact wpAny_pyNext_tuple_end (I.ok.hd hc) st (show s.heap.IsTuple a its.toArray from p) (by simp;omega) λh' eb=>⟨rfl,I.turned (t':=s.toks) (λb o hb e=>eb b o hb e) f0 f1 f3 f4 f5⟩
 self:=λ_ _ _ _ _ st h=>wpAny_pyIter_tupleiter st h
theorem z7I {P:K0m}{w:World}{K:K0}{tg:Expr}(it:Addr) (lo:Int) (n:Nat):Turn P w K tg (Itr lo n) [it] it (λi h=>IsRangeIter h it (lo+(i:Nat) * 1) ((n:Int) - (i:Nat)) 1) where
 mem:=by simp
 obj:=λi h st b hb=>by
  have e:b=it:=by simpa using hb
  subst e
  exact ⟨_,st,λv z=>by
   have z':Data.fields _=Data.cell v:=z
   cases z'⟩
 keep:=λi h h' st k=>k it .(e) _ st
 item:=by
  intro X hP hw hK hc i pins s σ H E I hf st hg
  subst hP hw hK
  obtain ⟨f0,f1,f2,f3,f4,f5⟩:=hf it .(e)
  have W:=Walks.range (prog:=X.prog) (w:=X.w) (I.ok.hd hc) it lo 1 n
  refine W.item i s _ _ hg st λv h' tk hv st' kk=>?_
  obtain ⟨t,rfl⟩:=hv
  have I1:Inv X pins σ H { s with heap:=h',toks:=tk }:=I.turned (λb o hb e=>kk b o (by simpa using hb) e) f0 f1 f3 f4 f5
  refine ⟨_,rfl,zj7 (s:={ s with heap:=h',toks:=tk }) (n:="range_iterator") st' rfl rfl .(1) ⟨.int (lo+i),H,I1,⟨t,?_⟩,⟨rfl,rfl⟩,st',λb hb=>(hf b hb).1⟩⟩
  rw [Int.mul_one]
 done:=by
  intro X hP hw hK hc i pins s σ H E I hf st hg
  subst hP hw hK
  obtain ⟨f0,f1,f2,f3,f4,f5⟩:=hf it .(e)
  exact wpAny_pyNext_range_end (I.ok.hd hc) st (by have:n≤i:=hg;omega) λh' eb=>⟨rfl,I.turned (t':=s.toks) (λb o hb e=>eb b o hb e) f0 f1 f3 f4 f5⟩
 self:=λ_ _ _ _ _ st h=>wpAny_pyIter_rangeiter st h
section
variable {X:Cx}{tg:Expr}
def zQ2 (K:K0) (tl:TE):TI:=λσ H R=>tl σ H λx H1=>∃a,x=.ref a/\(∃xs,SqL K H1 a xs)/\R (Itl K a) H1
def iTup (K:K0) (tl:TE):TI:=λσ H R=>tl σ H λx H1=>∃a,x=.ref a/\(∃xs,SqT K H1 a xs)/\R (Itt K a) H1
theorem zt9 {l:Expr}{tl:TE}(hl:PE X l tl):PI X tg l (zQ2 X.K tl):=by
 intro pins s σ H R I h
 refine thn (hl pins s σ H _ I h) λv s1 ⟨x,H1,I1,r1,q1⟩=>?_
 obtain ⟨a,e,⟨xs,hq⟩,q⟩:=q1
 subst e
 cases r1
 obtain ⟨its,rv,p,hz⟩:=I1.list hq
 refine K33 p.isList ?_
 refine ⟨.(j),[.(j)],_,_,H1,rfl,I1.kept (t':=s1.toks) λb o e=>K7 _ e,z9k a _,⟨_,K0a _ rfl,rfl,rfl⟩,λb hb=>?_,q⟩
 have e:b=s1.heap.objs.size:=by simpa using hb
 subst e
 exact I1.fpOk (K05 _) (I1.hok.fresh (K05 _))
theorem zE5 {l:Expr}{tl:TE}(hl:PE X l tl):PI X tg l (iTup X.K tl):=by
 intro pins s σ H R I h
 refine thn (hl pins s σ H _ I h) λv s1 ⟨x,H1,I1,r1,q1⟩=>?_
 obtain ⟨a,e,⟨xs,hq⟩,q⟩:=q1
 subst e
 cases r1
 obtain ⟨its,rv,p,hz⟩:=I1.tuple hq
 refine wpAny_pyIter_tuple (show s1.heap.IsTuple a its.toArray from p) ?_
 refine ⟨.(j),[.(j)],_,_,H1,rfl,I1.kept (t':=s1.toks) λb o e=>K7 _ e,z80 a _,⟨_,K0a _ rfl,rfl,rfl⟩,λb hb=>?_,q⟩
 have e:b=s1.heap.objs.size:=by simpa using hb
 subst e
 exact I1.fpOk (K05 _) (I1.hok.fresh (K05 _))
theorem zk4 {pins:List .(f)}{σ:St}{H:Hp}{s:Shared}{R:It->Hp->Prop}{E:Value->Shared->Prop}{lo hi:Int}{t u v:Tok}{tk:Nat}(I:Inv X pins σ H s) (h1:-(2 ^ 62)≤lo) (h2:lo<2 ^ 62) (h3:-(2 ^ 62)≤hi) (h4:hi<2 ^ 62)
 (q:R (Itr lo (hi - lo).toNat) H):wpAny .(4) X.A (pyIter (.ref .(3))) (PIE X pins σ tg R) E { s with heap:=s.heap.push { cls:=.type "range",data:=.fields #[.int lo t,.int hi u,.int 1 v] },toks:=tk }:=by
 refine wpAny_pyIter_range (Z07.new ..) (small_one h1 h2 h3 h4) ?_
 have I1:Inv X pins σ H { s with heap:=s.heap.push { cls:=.type "range",data:=.fields #[.int lo t,.int hi u,.int 1 v] },toks:=tk }:=I.kept λb o e=>K7 _ e
 refine ⟨(s.heap.push { cls:=.type "range",data:=.fields #[.int lo t,.int hi u,.int 1 v] }).objs.size,[(s.heap.push { cls:=.type "range",data:=.fields #[.int lo t,.int hi u,.int 1 v] }).objs.size],_,_,H,rfl,
  I1.kept (t':=tk) λb o e=>K7 _ e,z7I _ lo (hi - lo).toNat,?_,λb hb=>?_,q⟩
 ·have e1:lo+((0:Nat):Int) * 1=lo:=by simp
  have e2:(((hi - lo).toNat:Nat):Int) - ((0:Nat):Int)=K31 lo hi 1:=by rw [rangeSize_one];split<;>omega
  show IsRangeIter _ _ (lo+((0:Nat):Int) * 1) ((((hi - lo).toNat:Nat):Int) - ((0:Nat):Int)) 1
  rw [e1,e2]
  exact K0a _ rfl
 ·have e:b=(s.heap.push { cls:=.type "range",data:=.fields #[.int lo t,.int hi u,.int 1 v] }).objs.size:=by simpa using hb
  subst e
  exact I1.fpOk (K05 _) (I1.hok.fresh (K05 _))
def zS0 (ta:TA):TI:=λσ H R=>ta σ H λvs H1=>∃j:Int,vs=[.int j]/\-(2 ^ 62)≤j/\j<2 ^ 62/\R (Itr 0 j.toNat) H1
theorem z9a {a:Expr}{ta:TA}{p pos:Pos}(hg:Gl X "range") (hm:X.mg "range" = none) (ha:PA X [a] ta) (hs:K03 [a] X.env=[(false,eval a X.env)]:=by rfl):PI X tg (.Call (.Name "range" p) [a] [] pos) (zS0 ta):=by
 intro pins s σ H R I h
 refine Call_ (z5E I hg hm boot_range (K4p (thn (ha pos pins s σ H _ I h) λus s1 ⟨vs,H1,I1,r1,q1⟩=>?_) hs rfl))
 obtain ⟨j,e,q1,q2,q⟩:=q1
 subst e
 cases r1 with
 | cons r rr =>
  cases rr
  obtain ⟨t,rfl⟩:=r
  exact call_range_1 (zk4 I1 .(0) .(0) q1 q2 (by simpa using q))
def tFor (wi:TI) (g:TG) (tb:TS):TS:=λD σ H=>wi σ H λJ H1=>∃W:Nat->Nat->St->Hp->Prop,(∃m,W 0 m σ H1)/\∀i m σ H,W i m σ H ->
 (J.stop i H/\D.nx σ H)∨(J.go i H/\∃N:St->Hp->Prop,(∀σ' H',N σ' H'->∃m',m'<m/\W (i+1) m' σ' H')/\∀x H',J.yld i H x H'->g x σ H' λσ2 H2=>tb { D with nx:=N,ct:=N,bk:=D.nx } σ2 H2)
def z5y (fp:List Addr) (h:Heap):List .(f):=fp.filterMap λb=>(h.get? b).map λo=>(b,o)
theorem z1I {fp:List Addr}{h:Heap}{b:Addr}{o:Obj}(hb:b∈fp) (e:h.get? b=some o):(b,o)∈z5y fp h:=List.mem_filterMap.mpr ⟨b,hb,by rw [e];rfl⟩
theorem z8G {fp:List Addr}{h:Heap}{p:Addr×Obj}(hp:p∈z5y fp h):p.1∈fp/\h.get? p.1=some p.2:=by
 obtain ⟨b,hb,e⟩:=List.mem_filterMap.mp hp
 cases q:h.get? b with
 | none=>rw [q] at e;cases e
 | some o =>
  rw [q] at e
  have e':(b,o)=p:=K10 e
  subst e'
  exact ⟨hb,q⟩
theorem Inv.pinned {pins:List .(f)}{σ:St}{H:Hp}{s:Shared}{fp:List Addr}(I:Inv X pins σ H s) (hf:∀b∈fp,FpOk X pins H b) (ho:∀b∈fp,∃o,s.heap.get? b=some o/\∀v,o.data≠.cell v):Inv X (pins++z5y fp s.heap) σ H s :=
 I.pins_of λp hp=>(K0o.mp hp).elim (λz=>I.pin p (K14 _ z)) λz=>by
  obtain ⟨hb,e⟩:=z8G z
  obtain ⟨f0,f1,f2,_⟩:=hf p.1 hb
  obtain ⟨o,e',d⟩:=ho p.1 hb
  rw [e] at e';cases e'
  exact ⟨e,f0,f1,f2,d⟩
theorem Inv.unpinned {pins pl:List .(f)}{σ:St}{H:Hp}{s:Shared}(I:Inv X (pins++pl) σ H s):Inv X pins σ H s:=I.pins_of λp hp=>I.pin p (K14 _ (K1k _ hp))
theorem zH4 {iter:Expr}{body:List Stmt}{wi:TI}{g:TG}{tb:TS}{pos:Pos}(hp:Z0n .(4) X.A X.env X.xe) (hc:X.calm=true) (hi:PI X tg iter wi) (hg:PG X tg g) (hb:PSs X body tb)
 (hs:∀x,K12 iter X.env x=pure x:=by intro _;rfl):PS X (.For tg iter body [] pos) (tFor wi g tb):=by
 intro pins s σ H D I h
 refine wpAny_For (thn (hi pins s σ H _ I h) λv s1 h1=>thn h1 λitv s2 h2=>?_) hs
 obtain ⟨it,fp,tn,J,H2,e,I2,T,st2,f2,W,⟨m0,w0⟩,turn⟩:=h2
 subst e
 have stat:∀{H':Hp},(∀b∈fp,H' b=none)->∀b∈fp,FpOk X pins H' b:=λhn b hb=>⟨hn b hb,(f2 b hb).2⟩
 refine codeAny_forLoop_any (λn s'=>∃i σ' H',Inv X pins σ' H' s'/\tn i s'.heap/\(∀b∈fp,H' b=none)/\W i n σ' H') ?_ m0 ⟨0,σ,H2,I2,st2,λb hb=>(f2 b hb).1,w0⟩
 rintro n s3 ⟨i,σ3,H3,I3,st3,fr3,w3⟩
 rcases turn i n σ3 H3 w3 with ⟨stop,qn⟩|⟨go,N,hN,step⟩
 ·refine K3l hp (thn (T.done X rfl rfl rfl hc i pins s3 σ3 H3 X.xe I3 (stat fr3) st3 stop) λr s4 ⟨hr,I4⟩=>?_)
  subst hr
  exact K57 ⟨σ3,H3,I4,qn⟩
 ·refine K3l hp (thn (T.item X rfl rfl rfl hc i pins s3 σ3 H3 X.xe I3 (stat fr3) st3 go) λr s4 ⟨u,hr,h4⟩=>?_)
  subst hr
  refine K3l hp (thn h4 λ_ s5 ⟨x,H5,I5,r5,y5,st5,fr5⟩=>?_)
  have I5':=I5.pinned (stat fr5) (T.obj _ _ st5)
  refine K3l hp (thn (hg _ s5 σ3 H5 x u _ I5' r5 (step x H5 y5)) λ_ s6 ⟨σ6,H6,I6,q6⟩=>?_)
  refine K3l hp (thn (hb _ s6 σ6 H6 _ I6 q6) λf s7 q7=>?_)
  have again:∀{σ7:St} {H7:Hp},Inv X (pins++z5y fp s5.heap) σ7 H7 s7->N σ7 H7->∃m,m<n/\∃i σ' H',Inv X pins σ' H' s7/\tn i s7.heap/\(∀b∈fp,H' b=none)/\W i m σ' H':=λ{σ7 H7} I7 n7=>by
   obtain ⟨m',hm,w7⟩:=hN σ7 H7 n7
   refine ⟨m',hm,i+1,σ7,H7,I7.unpinned,T.keep _ _ _ st5 λb hb o e=>(I7.pin (b,o) (K14 _ (K14 _ (z1I hb e)))).1,λb hb=>?_,w7⟩
   obtain ⟨o,e,d⟩:=T.obj _ _ st5 b hb
   exact (I7.pin (b,o) (K14 _ (K14 _ (z1I hb e)))).2.1
  cases f with
  | next=>obtain ⟨σ7,H7,I7,n7⟩:=q7;exact again I7 n7
  | cont=>obtain ⟨σ7,H7,I7,n7⟩:=q7;exact again I7 n7
  | brk=>obtain ⟨σ7,H7,I7,q7⟩:=q7;exact ⟨σ7,H7,I7.unpinned,q7⟩
  | ret v=>obtain ⟨x7,σ7,H7,I7,r7,q7⟩:=q7;exact ⟨x7,σ7,H7,I7.unpinned,r7,q7⟩
end
theorem Y8 {lo:Int}{n:Nat}{g:TG}{tb:TS}{D:Ends}{σ:St}{H:Hp}(Pv:Nat->St->Hp->Prop) (h0:Pv 0 σ H)
 (hs:∀i σ H,i<n->Pv i σ H->g (.int (lo+i)) σ H λσ2 H2=>tb { D with nx:=Pv (i+1),ct:=Pv (i+1),bk:=D.nx } σ2 H2) (hd:∀σ H,Pv n σ H->D.nx σ H) :
 ∃W:Nat->Nat->St->Hp->Prop,(∃m,W 0 m σ H)/\∀i m σ H,W i m σ H ->
  ((Itr lo n).stop i H/\D.nx σ H)∨((Itr lo n).go i H/\∃N:St->Hp->Prop,(∀σ' H',N σ' H'->∃m',m'<m/\W (i+1) m' σ' H')/\∀x H',(Itr lo n).yld i H x H'->g x σ H' λσ2 H2=>tb { D with nx:=N,ct:=N,bk:=D.nx } σ2 H2):=by
 refine ⟨λi m σ H=>m=n - i/\i≤n/\Pv i σ H,⟨n,by simp,K4r _,h0⟩,?_⟩
 rintro i m σ H ⟨rfl,hi,p⟩
 by_cases hlt:i<n
 ·refine .inr ⟨hlt,Pv (i+1),λσ' H' p'=>⟨n - (i+1),by omega,rfl,hlt,p'⟩,λx H' y=>?_⟩
  obtain ⟨e,y⟩:=y
  subst e y
  exact hs i σ _ hlt p
 ·have e:i=n:=by omega
  subst e
  exact .inl ⟨K05 _,hd σ H p⟩
abbrev R2:=V->V->Hp->VK->Prop
def OpR (X:Cx) (f:Value->Value->Sem Value) (r:R2):Prop :=
 ∀(pins:List .(f)) (s:Shared) (σ:St) (H:Hp) (x y:V) (v u:Value) (Q:VK),Inv X pins σ H s->RelV x v->RelV y u->r x y H Q ->
  wpAny .(4) X.A (f v u) (EP X pins σ Q) X.xe s
def UnR (X:Cx) (f:Value->Sem Value) (r:V->Hp->VK->Prop):Prop :=
 ∀(pins:List .(f)) (s:Shared) (σ:St) (H:Hp) (x:V) (v:Value) (Q:VK),Inv X pins σ H s->RelV x v->r x H Q ->
  wpAny .(4) X.A (f v) (EP X pins σ Q) X.xe s
def z2q (X:Cx) (f:Value) (r:List V->Hp->VK->Prop):Prop :=
 ∀(pins:List .(f)) (s:Shared) (σ:St) (H:Hp) (xs:List V) (us:List Value) (Q:VK),Inv X pins σ H s->Vals xs us->r xs H Q ->
  wpAny .(4) X.A (call f us) (EP X pins σ Q) X.xe s
def TruR (X:Cx) (r:V->Hp->(Bool->Hp->Prop)->Prop):Prop :=
 ∀(pins:List .(f)) (s:Shared) (σ:St) (H:Hp) (x:V) (v:Value) (Q:Bool->Hp->Prop),Inv X pins σ H s->RelV x v->r x H Q ->
  wpAny .(4) X.A (truthy v) (TP X pins σ Q) X.xe s
def tOp (r:R2) (ta tb:TE):TE:=λσ H Q=>ta σ H λx H1=>tb σ H1 λy H2=>r x y H2 Q
def tUn (r:V->Hp->VK->Prop) (ta:TE):TE:=λσ H Q=>ta σ H λx H1=>r x H1 Q
def rI (C:Int->Int->Prop) (g:Int->Int->V):R2:=λx y H Q=>∃i j,x=.int i/\y=.int j/\C i j/\Q (g i j) H
def rI0 (g:Int->Int->V):R2:=λx y H Q=>∃i j,x=.int i/\y=.int j/\Q (g i j) H
def rU (g:Int->V):V->Hp->VK->Prop:=λx H Q=>∃i,x=.int i/\Q (g i) H
section
variable {X:Cx}{a b c:Expr}{ta tb tc:TE}{pos:Pos}
theorem binT (ha:PE X a ta) (hb:PE X b tb) {pins:List .(f)}{s:Shared}{σ:St}{H:Hp}{R:V->V->Hp->Prop}(I:Inv X pins σ H s)
 (h:ta σ H λx H1=>tb σ H1 λy H2=>R x y H2) {Q:Value->Shared->Prop} {f:Value->Value->Sem Value}
 (hf:∀v u s2 x y H2,Inv X pins σ H2 s2->RelV x v->RelV y u->R x y H2->wpAny .(4) X.A (f v u) Q X.xe s2) :
 wpAny .(4) X.A (eval a X.env) (λv s₁=>wpAny .(4) X.A (eval b X.env) (λu s₂=>wpAny .(4) X.A (f v u) Q X.xe s₂) X.xe s₁) X.xe s:=by
 refine thn .(Q) λv s1 ⟨x,H1,I1,r1,q1⟩=>?_
 refine thn (hb pins s1 σ H1 _ I1 q1) λu s2 ⟨y,H2,I2,r2,q2⟩=>?_
 exact hf v u s2 x y H2 I2 r1 r2 q2
theorem zP7 {op:Operator}{r:R2}(ho:OpR X (K3g op) r) (ha:PE X a ta) (hb:PE X b tb):PE X (.BinOp a op b pos) (tOp r ta tb):=by
 intro pins s σ H Q I h
 exact wpAny_BinOp (binT ha hb I h λv u s2 x y H2 I2 rx ry q=>ho pins s2 σ H2 x y v u Q I2 rx ry q)
theorem zR4 {op:UnaryOp}{r:V->Hp->VK->Prop}(ho:UnR X (unaryOp op) r) (ha:PE X a ta):PE X (.UnaryOp op a pos) (tUn r ta):=by
 intro pins s σ H Q I h
 exact UnaryOp_ (thn .(Q) λv s1 ⟨x,H1,I1,r1,q1⟩=>ho pins s1 σ H1 x v Q I1 r1 q1)
theorem opI {f:Value->Value->Sem Value}{C:Int->Int->Prop}{g:Int->Int->Int}
 (rule:∀(i j:Int) (t u:Tok) (s:Shared) (Q:Value->Shared->Prop) (E:Value->Shared->Prop),C i j->Q (.int (g i j) s.toks) { s with toks:=s.toks+1 }->wpAny .(4) X.A (f (.int i t) (.int j u)) Q E s) :
 OpR X f (rI C λi j=>.int (g i j)):=by
 intro pins s σ H x y v u Q I rx ry h
 obtain ⟨i,j,rfl,rfl,hc,q⟩:=h
 obtain ⟨t,rfl⟩:=rx
 obtain ⟨t',rfl⟩:=ry
 exact rule i j t t' s _ _ hc ⟨.int (g i j),H,I.tok _,⟨_,rfl⟩,q⟩
theorem opI0 {f:Value->Value->Sem Value}{g:Int->Int->Int}
 (rule:∀(i j:Int) (t u:Tok) (s:Shared) (Q:Value->Shared->Prop) (E:Value->Shared->Prop),Q (.int (g i j) s.toks) { s with toks:=s.toks+1 }->wpAny .(4) X.A (f (.int i t) (.int j u)) Q E s) :
 OpR X f (rI0 λi j=>.int (g i j)):=by
 intro pins s σ H x y v u Q I rx ry h
 obtain ⟨i,j,rfl,rfl,q⟩:=h
 obtain ⟨t,rfl⟩:=rx
 obtain ⟨t',rfl⟩:=ry
 exact rule i j t t' s _ _ ⟨.int (g i j),H,I.tok _,⟨_,rfl⟩,q⟩
theorem opB0 {f:Value->Value->Sem Value}{g:Int->Int->Bool}
 (rule:∀(i j:Int) (t u:Tok) (s:Shared) (Q:Value->Shared->Prop) (E:Value->Shared->Prop),Q (.bool (g i j)) s->wpAny .(4) X.A (f (.int i t) (.int j u)) Q E s) :
 OpR X f (rI0 λi j=>.bl (g i j)):=by
 intro pins s σ H x y v u Q I rx ry h
 obtain ⟨i,j,rfl,rfl,q⟩:=h
 obtain ⟨t,rfl⟩:=rx
 obtain ⟨t',rfl⟩:=ry
 exact rule i j t t' s _ _ ⟨.bl (g i j),H,I,rfl,q⟩
def CDiv (i j:Int):Prop:=0<j/\j<1073741824
def CPow (i j:Int):Prop:=0≤j/\j≤1000000/\i.natAbs<2 ^ 64
def CMul (i j:Int):Prop:=(-(2 ^ 64)<i/\i<2 ^ 64)∨(-(2 ^ 64)<j/\j<2 ^ 64)
theorem CMul.ok {i j:Int}(h:CMul i j):IntMulOk i j:=by
 rcases h with ⟨h1,h2⟩|⟨h1,h2⟩
 ·exact .of_left (intBits_le_64 h1 h2)
 ·exact .of_right (intBits_le_64 h1 h2)
theorem op_add:OpR X (K3g .Add) (rI0 λi j=>.int (i+j)):=opI0 λ_ _ _ _ _ _ _ q=>add_int q
theorem op_mul:OpR X (K3g .Mult) (rI CMul λi j=>.int (i * j)):=opI λ_ _ _ _ _ _ _ hc q=>mul_int q hc.ok
theorem zx8:OpR X (K3g .FloorDiv) (rI CDiv λi j=>.int (i / j)):=opI λi j _ _ _ _ _ hc q=>by
 have h1:(0:Int)<j:=hc.1
 have h2:j<1073741824:=hc.2
 exact floordiv_int .(0) (by rw [Int.fdiv_eq_ediv_of_nonneg i .(0)];exact q) (.inl (PyProof.noPylong_small .(0)))
theorem zL0:OpR X (K3g .Mod) (rI (λ_ j=>0<j) λi j=>.int (i % j)):=opI λi j _ _ _ _ _ hc q=>by
 have h1:(0:Int)<j:=hc
 exact mod_int' .(0) (by rw [Int.fmod_eq_emod_of_nonneg i .(0)];exact q)
theorem zB6:OpR X (K3g .Pow) (rI CPow λi j=>.int (i ^ j.toNat)):=opI λ_ _ _ _ _ _ _ hc q=>pow_int_small hc.1 hc.2.1 hc.2.2 q
theorem unI {f:Value->Sem Value}{g:Int->Int}
 (rule:∀(i:Int) (t:Tok) (s:Shared) (Q:Value->Shared->Prop) (E:Value->Shared->Prop),Q (.int (g i) s.toks) { s with toks:=s.toks+1 }->wpAny .(4) X.A (f (.int i t)) Q E s) :
 UnR X f (rU λi=>.int (g i)):=by
 intro pins s σ H x v Q I rx h
 obtain ⟨i,rfl,q⟩:=h
 obtain ⟨t,rfl⟩:=rx
 exact rule i t s _ _ ⟨.int (g i),H,I.tok _,⟨_,rfl⟩,q⟩
theorem zO1:UnR X (unaryOp .USub) (rU λi=>.int (-i)):=unI λ_ _ _ _ _ q=>neg_int q
end
def scal:V->V->Bool
 | .non,.non=>true|.non,.int _=>true|.int _,.non=>true|.non,.bl _=>true|.bl _,.non=>true|.non,.str _=>true|.str _,.non=>true
 | .int _,.int _=>true|.bl _,.bl _=>true|.str _,.str _=>true|.byt _,.byt _=>true
 | .int _,.str _=>true|.str _,.int _=>true|.bl _,.str _=>true|.str _,.bl _=>true
 | _,_=>false
def rEq:R2:=λx y H Q=>scal x y=true/\Q (.bl (decide (x=y))) H
theorem zo5 {i j:Int}:decide (V.int i=V.int j)=(i==j):=by
 rw [K0z]
 simp
theorem zB3 {i j:Bool}:decide (V.bl i=V.bl j)=(i==j):=by
 rw [K0z]
 simp
theorem zv4 {i j:Str}:decide (V.str i=V.str j)=(i==j):=by
 rw [K0z]
 simp
theorem zp5 {i j:Array UInt8}:decide (V.byt i=V.byt j)=(i.toList==j.toList):=by
 rw [K0z]
 cases i
 cases j
 simp
section
variable {X:Cx}{a b c:Expr}{ta tb tc:TE}{pos:Pos}
theorem z0C {pins:List .(f)}{σ:St}{H:Hp}{s:Shared}{Q:VK}{k k':Bool}(I:Inv X pins σ H s) (q:Q (.bl k) H) (e:k=k'):EP X pins σ Q (.bool k') s:=by
 subst e
 exact ⟨.bl k,H,I,rfl,q⟩
theorem zR8:OpR X (K1y .Eq) rEq:=by
 intro pins s σ H x y v u Q I rx ry h
 obtain ⟨hs,q⟩:=h
 cases x with
 | non =>
  cases rx
  cases y with
  | non=>cases ry;exact PySem.EqNone.eq_none_none (z0C I q .(e))
  | bl j=>cases ry;exact PySem.EqNone.eq_none_bool (z0C I q .(e))
  | int j=>obtain ⟨t',rfl⟩:=ry;exact PySem.EqNone.eq_none_int (z0C I q .(e))
  | str j=>obtain ⟨t',rfl⟩:=ry;exact PySem.EqNone.eq_none_str (z0C I q .(e))
  | _=>exact absurd (show false=true from hs) K17
 | bl i =>
  cases rx
  cases y with
  | non=>cases ry;exact PySem.EqNone.eq_bool_none (z0C I q .(e))
  | bl j=>cases ry;exact eq_bool (z0C I q zB3)
  | str j=>obtain ⟨t',rfl⟩:=ry;exact PySem.EqMixed.eq_bool_str (z0C I q .(e))
  | _=>exact absurd (show false=true from hs) K17
 | int i =>
  obtain ⟨t,rfl⟩:=rx
  cases y with
  | non=>cases ry;exact PySem.EqNone.eq_int_none (z0C I q .(e))
  | int j=>obtain ⟨t',rfl⟩:=ry;exact eq_int (z0C I q zo5)
  | str j=>obtain ⟨t',rfl⟩:=ry;exact PySem.EqMixed.eq_int_str (z0C I q .(e))
  | _=>exact absurd (show false=true from hs) K17
 | str i =>
  obtain ⟨t,rfl⟩:=rx
  cases y with
  | non=>cases ry;exact PySem.EqNone.eq_str_none (z0C I q .(e))
  | bl j=>cases ry;exact PySem.EqMixed.eq_str_bool (z0C I q .(e))
  | int j=>obtain ⟨t',rfl⟩:=ry;exact PySem.EqMixed.eq_str_int (z0C I q .(e))
  | str j=>obtain ⟨t',rfl⟩:=ry;exact eq_str (z0C I q zv4)
  | _=>exact absurd (show false=true from hs) K17
 | byt i =>
  obtain ⟨t,rfl⟩:=rx
  cases y with
  | byt j=>obtain ⟨t',rfl⟩:=ry;exact PySem.W.eq_bytes (z0C I q zp5)
  | _=>exact absurd (show false=true from hs) K17
 | _=>cases y<;>exact absurd (show false=true from hs) K17
theorem op_lt:OpR X (K1y .Lt) (rI0 λi j=>.bl (decide (i<j))):=opB0 λ_ _ _ _ _ _ _ q=>lt_int q
theorem op_le:OpR X (K1y .LtE) (rI0 λi j=>.bl (decide (i≤j))):=opB0 λ_ _ _ _ _ _ _ q=>le_int q
theorem zT3:OpR X (K1y .Gt) (rI0 λi j=>.bl (decide (j<i))):=opB0 λ_ _ _ _ _ _ _ q=>gt_int q
theorem zR1:OpR X (K1y .GtE) (rI0 λi j=>.bl (decide (j≤i))):=opB0 λ_ _ _ _ _ _ _ q=>ge_int q
theorem z94:OpR X (K1y .Lt) (λx y H Q=>∃i j,x=.str i/\y=.str j/\Q (.bl (decide (i.cps.toList<j.cps.toList))) H):=by
 intro pins s σ H x y v u Q I rx ry h
 obtain ⟨i,j,rfl,rfl,q⟩:=h
 obtain ⟨t,rfl⟩:=rx
 obtain ⟨t',rfl⟩:=ry
 exact lt_str (z0C I q rfl)
theorem z5D:OpR X (K1y .NotIn) (λx y H Q=>∃i j,x=.str i/\y=.str j/\Q (.bl (!(!(K21 j i 0 j.length 1).isEmpty))) H):=by
 intro pins s σ H x y v u Q I rx ry h
 obtain ⟨i,j,rfl,rfl,q⟩:=h
 obtain ⟨t,rfl⟩:=rx
 obtain ⟨t',rfl⟩:=ry
 exact notIn_str (z0C I q rfl)
theorem OpR.or {f:Value->Value->Sem Value}{r r':R2}(h:OpR X f r) (h':OpR X f r'):OpR X f (λx y H Q=>r x y H Q∨r' x y H Q):=by
 intro pins s σ H x y v u Q I rx ry q
 rcases q with q|q
 ·exact h pins s σ H x y v u Q I rx ry q
 ·exact h' pins s σ H x y v u Q I rx ry q
theorem zk6 (b:Expr) {op:CmpOp}(h:op≠.In:=by decide) (h2:op≠.NotIn:=by decide):K4j op b=false:=by
 have e1:(op==CmpOp.In)=false:=by cases op<;>first|rfl|exact absurd rfl h
 have e2:(op==CmpOp.NotIn)=false:=by cases op<;>first|rfl|exact absurd rfl h2
 cases b<;>simp [K4j,e1,e2]
theorem zw9 {op:CmpOp}{r:R2}(ho:OpR X (K1y op) r) (ha:PE X a ta) (hb:PE X b tb) (hm:K4j op b=false):PE X (.Compare a [op] [b] pos) (tOp r ta tb):=by
 intro pins s σ H Q I h
 exact wpAny_Compare1 (binT ha hb I h λv u s2 x y H2 I2 rx ry q=>ho pins s2 σ H2 x y v u Q I2 rx ry q) hm
def zN3 (t:TE):TT:=λσ H Q=>t σ H λx H'=>∃k,x=.bl k/\Q k H'
theorem zt8 {op:CmpOp}{r:R2}(ho:OpR X (K1y op) r) (ha:PE X a ta) (hb:PE X b tb) (hm:K4j op b=false):PT X (.Compare a [op] [b] pos) (zN3 (tOp r ta tb)):=by
 intro pins s σ H Q I h
 refine wpAny_isTrue_Compare1 (thn .(Q) λv s1 ⟨x,H1,I1,r1,q1⟩=>thn (hb pins s1 σ H1 _ I1 q1) λu s2 ⟨y,H2,I2,r2,q2⟩ =>
  thn (ho pins s2 σ H2 x y v u _ I2 r1 r2 q2) λc s3 ⟨z,H3,I3,r3,k,e,q3⟩=>?_) hm
 subst e
 cases r3
 exact K32 ⟨H3,I3,q3⟩
def zl5 (r r':R2) (ta tb tc:TE):TE:=λσ H Q=>ta σ H λx H1=>tb σ H1 λy H2=>r x y H2 λz H3=>∃k,z=.bl k /\
 (if k=true then tc σ H3 λw' H4=>r' y w' H4 Q else Q (.bl false) H3)
theorem ze3 {op op':CmpOp}{r r':R2}(ho:OpR X (K1y op) r) (ho':OpR X (K1y op') r') (ha:PE X a ta) (hb:PE X b tb) (hc:PE X c tc)
 (hm:lastMarks [op,op'] [b,c]=false:=by with_unfolding_all rfl):PE X (.Compare a [op,op'] [b,c] pos) (zl5 r r' ta tb tc):=by
 intro pins s σ H Q I h
 refine Compare_chain (thn .(Q) λv s1 ⟨x,H1,I1,r1,q1⟩=>chain_link (thn (hb pins s1 σ H1 _ I1 q1) λu s2 ⟨y,H2,I2,r2,q2⟩ =>
  thn (ho pins s2 σ H2 x y v u _ I2 r1 r2 q2) λd s3 ⟨z,H3,I3,r3,k,e,q3⟩=>?_)) hm
 subst e
 cases r3
 refine K32 ?_
 cases k with
 | false=>exact ite_ff ⟨.bl false,H3,I3,rfl,q3⟩
 | true=>exact ite_tt (chain_last (thn (hc pins s3 σ H3 _ I3 q3) λw' s4 ⟨z',H4,I4,r4,q4⟩=>ho' pins s4 σ H4 y z' u w' Q I4 r2 r4 q4))
def TruV (K:K0) (x:V) (H:Hp) (k:Bool):Prop :=
 match x with
 | .non=>k=false
 | .bl b=>k=b
 | .int i=>k=(i != 0)
 | .str y=>y.length≤sizeLine/\k=((y.length:Int) != 0)
 | .byt y=>y.size≤sizeLine/\k=((y.size:Int) != 0)
 | .ref p=>(∃xs,SqL K H p xs/\k = !xs.isEmpty)∨(∃xs,SqT K H p xs/\k = !xs.isEmpty)∨∃kvs,H p=some (.dK kvs)/\k = !kvs.isEmpty
 | _=>False
theorem z87 {κ:Type}{kvs:List (κ×V)}{vs:List (κ×Value)}(r:KV kvs vs):(!vs.isEmpty) = !kvs.isEmpty:=by
 cases r<;>rfl
theorem z40 {xs:List V}{its:List Value}(r:Vals xs its):(!its.toArray.isEmpty) = !xs.isEmpty:=by
 cases r<;>simp
theorem z48:(sizeLine:Nat)<2 ^ 63:=by rw [K7g];decide
theorem zD9:TruR X (λx H Q=>∃k,TruV X.K x H k/\Q k H):=by
 intro pins s σ H x v Q I rx h
 obtain ⟨k,e,q⟩:=h
 have hl:=z48
 have hs:sizeLine=16777216:=K7g
 cases x with
 | non =>
  cases rx
  have e':k=false:=e
  subst e'
  exact truthy_none ⟨H,I,q⟩
 | bl b =>
  cases rx
  have e':k=b:=e
  subst e'
  exact K32 ⟨H,I,q⟩
 | int i =>
  obtain ⟨t,rfl⟩:=rx
  have e':k=(i != 0):=e
  subst e'
  exact PySem.P.truthy_int ⟨H,I,q⟩
 | str y =>
  obtain ⟨t,rfl⟩:=rx
  obtain ⟨hy,e'⟩:y.length≤sizeLine/\k=((y.length:Int) != 0):=e
  subst e'
  exact PySem.P.truthy_str .(0) ⟨H,I.tok _,q⟩
 | byt y =>
  obtain ⟨t,rfl⟩:=rx
  obtain ⟨hy,e'⟩:y.size≤sizeLine/\k=((y.size:Int) != 0):=e
  subst e'
  exact PySem.W.truthy_bytes .(0) ⟨H,I.tok _,q⟩
 | ref p =>
  cases rx
  have e':(∃xs,SqL X.K H p xs/\k = !xs.isEmpty)∨(∃xs,SqT X.K H p xs/\k = !xs.isEmpty)∨∃kvs,H p=some (.dK kvs)/\k = !kvs.isEmpty:=e
  rcases e' with ⟨xs,hx,e'⟩|⟨xs,hx,e'⟩|⟨kvs,hx,e'⟩
  ·subst e'
   obtain ⟨its,r,pl,hz⟩:=I.list hx
   have hlen:=.(z)
   exact wpAny_truthy_list pl.isList (by simp only [K06];omega) ⟨H,I.tok _,by rw [z40 r];exact q⟩
  ·subst e'
   obtain ⟨its,r,pl,hz⟩:=I.tuple hx
   have hlen:=.(z)
   exact truthy_tuple pl (by simp only [K06];omega) ⟨H,I.tok _,by rw [z40 r];exact q⟩
  ·subst e'
   obtain ⟨hz,hS,vs,r,m⟩:kvs.length≤sizeLine/\(p==K3e)=false/\∃vs,KV kvs vs/\s.heap.DictOf (w6 X.prog X.w) p vs:=I.hok p _ hx
   have hlen:kvs.length=vs.length:=K4g r
   exact wpAny_truthy_dict hS m .(0) ⟨H,I.tok _,by rw [z87 r];exact q⟩
 | _=>exact (show False from e).elim
theorem ze5 (ha:PE X a ta) (he:∀whole,isTrue a X.env whole=(do let v ← whole;K4q a.pos;K3v [v] (truthy v))) :
 PT X a (λσ H Q=>ta σ H λx H'=>∃k,TruV X.K x H' k/\Q k H'):=by
 intro pins s σ H Q I h
 exact isTrue_plain (thn .(Q) λv s1 ⟨x,H1,I1,r1,q1⟩=>zD9 pins s1 σ H1 x v Q I1 r1 q1) (he _)
theorem op_add_str:OpR X (K3g .Add) (λx y H Q=>∃i j,x=.str i/\y=.str j/\i.length+j.length≤sizeLine/\Q (.str (i++j)) H):=by
 intro pins s σ H x y v u Q I rx ry h
 obtain ⟨i,j,rfl,rfl,hz,q⟩:=h
 obtain ⟨t,rfl⟩:=rx
 obtain ⟨t',rfl⟩:=ry
 exact add_str (λt' tk=>⟨.str (i++j),H,I.tok _,⟨_,rfl⟩,q⟩) hz
theorem vals1 {x:V}{us:List Value}(r:Vals [x] us):∃u,us=[u]/\RelV x u:=by
 cases r with
 | cons r1 r2=>cases r2;exact ⟨_,rfl,r1⟩
theorem vals2 {x y:V}{us:List Value}(r:Vals [x,y] us):∃u w',us=[u,w']/\RelV x u/\RelV y w':=by
 cases r with
 | cons r1 r2 =>
  cases r2 with
  | cons r3 r4=>cases r4;exact ⟨_,_,rfl,r1,r3⟩
def LenV (K:K0) (x:V) (H:Hp) (n:Nat):Prop :=
 match x with
 | .str y=>y.length≤sizeLine/\n=y.length
 | .byt y=>y.size≤sizeLine/\n=y.size
 | .ref p=>(∃xs,SqL K H p xs/\n=xs.length)∨∃xs,SqT K H p xs/\n=xs.length
 | _=>False
theorem zg6:z2q X (.builtin "len") (λxs H Q=>∃x n,xs=[x]/\LenV X.K x H n/\Q (.int n) H):=by
 intro pins s σ H xs us Q I r h
 obtain ⟨x,n,rfl,e,q⟩:=h
 obtain ⟨u,rfl,rx⟩:=vals1 r
 have hl:=z48
 have hs:sizeLine=16777216:=K7g
 cases x with
 | str y =>
  obtain ⟨t,rfl⟩:=rx
  obtain ⟨hy,e'⟩:y.length≤sizeLine/\n=y.length:=e
  subst e'
  exact len_str .(0) ⟨.int _,H,I.tok _,⟨_,rfl⟩,q⟩
 | byt y =>
  obtain ⟨t,rfl⟩:=rx
  obtain ⟨hy,e'⟩:y.size≤sizeLine/\n=y.size:=e
  subst e'
  exact PySem.W.len_bytes .(0) ⟨.int _,H,I.tok _,⟨_,rfl⟩,q⟩
 | ref p =>
  cases rx
  have e':(∃xs,SqL X.K H p xs/\n=xs.length)∨∃xs,SqT X.K H p xs/\n=xs.length:=e
  rcases e' with ⟨xs,hx,e'⟩|⟨xs,hx,e'⟩
  ·subst e'
   obtain ⟨its,r',pl,hz⟩:=I.list hx
   have hlen:=r'.length
   exact Calls.call_len_list pl.isList (by simp only [K06];omega) ⟨.int xs.length,H,I.tok _,⟨_,by simp only [K06];rw [hlen]⟩,q⟩
  ·subst e'
   obtain ⟨its,r',pl,hz⟩:=I.tuple hx
   have hlen:=r'.length
   exact len_tuple pl (by simp only [K06];omega) ⟨.int xs.length,H,I.tok _,⟨_,by simp only [K06];rw [hlen]⟩,q⟩
 | _=>exact (show False from e).elim
end
structure ObjM (h:Heap) (x dx C:Addr) (mA:Str->Option Value):Prop where
 obj:h.get? x=some (K8m C dx)
 ns:h.Ns1 dx mA
 ne:dx≠x
theorem z95 {h:Heap}{dx:Addr}{mA:Str->Option Value}(n:h.Ns1 dx mA):∃od,h.get? dx=some od/\∀name,K92 name od=some (mA name):=by
 obtain ⟨o,es,ep,ho,hd,hk,_,hm⟩:=n
 refine ⟨o,ho,λname=>?_⟩
 have e:=hm name
 unfold nsFind findBy at e
 rw [← Array.find?_toList] at e
 unfold K92
 rw [hd]
 dsimp only
 split
 ·rename_i y q
  rw [q] at e
  exact congrArg some e
 ·rename_i q
  rw [q] at e
  have a:es.toList.any (·.refKey)=false:=by
   rw [List.any_eq_false]
   intro y hy
   obtain ⟨z,t,hkey⟩:=hk y (Array.mem_toList_iff.mp hy)
   simp [Z0o.refKey,hkey]
  have a':¬ es.toList.any (·.refKey)=true:=by rw [a];exact K17
  rw [if_neg a']
  exact congrArg some e
theorem ObjM.look {h:Heap}{x dx C:Addr}{mA:Str->Option Value}(I:ObjM h x dx C mA):∃od,PySem.W.InstAt h x (K8m C dx) C (some od)/\∀name,K92 name od=some (mA name) :=
 let ⟨od,ho,hl⟩:=z95 I.ns
 ⟨od,⟨I.obj,rfl,rfl,ho⟩,hl⟩
section
variable {prog:K0m}{w:World}{A:Around}{E:Value->Shared->Prop}{s:Shared}{K:K0}{x dx C f:Addr}{mA:Str->Option Value}{name:Str}{v:Value}
end
theorem RelO.some_of {v:V}{o:Option Value}(r:RelO (some v) o):∃u,o=some u/\RelV v u:=by
 cases o with
 | none=>exact (show False from r).elim
 | some u=>exact ⟨u,rfl,r⟩
section
variable {P:K0m}{w:World}{H H':Hp}{h h':Heap}{a C dx:Addr}{fs fs':List (Str×V)}
theorem zy1 (hok:HOk P w H h) (e:H a=some (.ins C dx fs)):∃mA,ObjM h a dx C mA/\(∀f,RelO (fs.lookup f) (mA f))/\PySem.Within mA (fs.map (·.1))/\fs.length≤1000/\H dx=some (.own a):=by
 obtain ⟨d,z,ne,ob,mA,n,r,q⟩:=(show ObjOk P w H h a (.ins C dx fs) from hok a _ e)
 exact ⟨mA,⟨ob,n,ne⟩,r,q,z,d⟩
end
structure Cls (K:K0) (C:Addr):Prop where
 pg:Z0g K C Str.empty=true
 hd:PySem.W.hasDictIn K C=true
 po:PySem.W.plainOver K C=true
 sa:Z18 K (.ref C) "__setattr__" = some (some (.builtin "object.__setattr__"))
theorem Cls.get {K:K0}{C:Addr}(c:Cls K C) (f:Str):Z0g K C f=true:=c.pg
section
variable {X:Cx}{pins:List (Addr×Obj)}{σ:St}{H:Hp}{s:Shared}{a C dx:Addr}{fs:List (Str×V)}{f:Str}{v:V}{A:Around}{E:Value->Shared->Prop}
end
section
variable {X:Cx}{o e value:Expr}{f:Str}{pos pos' tpos:Pos}{ta tv:TE}
end
section
variable {X:Cx}{pins:List (Addr×Obj)}{σ:St}{H:Hp}{s:Shared}{A:Around}{E:Value->Shared->Prop}{Q:Value->Shared->Prop}{c:Value}{b:Bool}
inductive TyOf (K:K0) (H:Hp):V->Value->Prop where
 | non:TyOf K H .non (.type "NoneType")
 | bl (x:Bool):TyOf K H (.bl x) (.type "bool")
 | int (i:Int):TyOf K H (.int i) (.type "int")
 | str (x:Str):TyOf K H (.str x) (.type "str")
 | flt (x:UInt64):TyOf K H (.flt x) (.type "float")
 | lst {a:Addr} {xs:List V} (e:H a=.(l xs)):TyOf K H (.ref a) (.type "list")
 | frz {a:Addr} {o:Obj} {xs:List V} (e:H a=some (.frz o (.lst xs))):TyOf K H (.ref a) (.type "list")
 | tup {a:Addr} {xs:List V} (e:H a=.(g xs)):TyOf K H (.ref a) (.type "tuple")
 | dK {a:Addr} {kvs:List (Key×V)} (e:H a=some (.dK kvs)):TyOf K H (.ref a) (.type "dict")
 | dT {a:Addr} {kvs:List (List Key×V)} (e:H a=some (.dT kvs)):TyOf K H (.ref a) (.type "dict")
 | ins {a C dx:Addr} {fs:List (Str×V)} (e:H a=some (.ins C dx fs)) (cl:Cls K C) (ha:Z18 K (.ref C) "__class__" = some (some (.builtin "object.__class__")))
  (hn:PySem.W.specialIn K (.builtin "object.__class__") "__get__" = some (some (.builtin "getset_descriptor.__get__"))) (htk:PySem.W.takesIn K (.builtin "object.__class__")=some true)
  (hm:PySem.W.mroIn K C (.type "object")=some true):TyOf K H (.ref a) (.ref C)
theorem z8A {x:V}{u t:Value}(I:Inv X pins σ H s) (rx:RelV x u) (ty:TyOf X.K H x t) (e:K1o X.K t c=some b) (h:∀tk,Q (.bool b) { s with toks:=tk }) :
 wpAny .(4) A (call (.builtin "isinstance") [u,c]) Q E s:=by
 cases ty with
 | non=>cases (show u=K3w from rx);exact K1e PySem.W.kitx_none I.kIn K35 e (λz=>nomatch z) h
 | bl y=>cases (show u=K6n y from rx);exact K1e PySem.W.kitx_bool I.kIn K35 e (λz=>nomatch z) h
 | int i=>obtain ⟨t,q⟩:=(show ∃t,u=K6m i t from rx);cases q;exact K1e PySem.W.kitx_int I.kIn K35 e (λz=>nomatch z) h
 | str y=>obtain ⟨t,q⟩:=(show ∃t,u=K9b y t from rx);cases q;exact K1e PySem.W.kitx_str I.kIn K35 e (λz=>nomatch z) h
 | flt y=>obtain ⟨t,q⟩:=(show ∃t,u=Value.float y t from rx);cases q;exact K1e PySem.W.kitx_float I.kIn K35 e (λz=>nomatch z) h
 | @lst a xs ea =>
  cases (show u=K1j a from rx)
  obtain ⟨_,_,n,_,h1⟩:=(show ObjOk X.prog X.w H s.heap a (.lst xs) from I.hok a _ ea)
  exact K1e K7c I.kIn ⟨_,h1,rfl⟩ e (λz=>nomatch z) h
 | @frz a ob xs ea =>
  cases (show u=K1j a from rx)
  obtain ⟨_,_,_,n,_,h1⟩:=(show ObjOk X.prog X.w H s.heap a (.frz ob (.lst xs)) from I.hok a _ ea)
  exact K1e K7c I.kIn ⟨_,h1,rfl⟩ e (λz=>nomatch z) h
 | @tup a xs ea =>
  cases (show u=K1j a from rx)
  obtain ⟨_,_,_,p⟩:=(show ObjOk X.prog X.w H s.heap a (.tup xs) from I.hok a _ ea)
  obtain ⟨o,h1,h2,_⟩:=p
  exact K1e K9o I.kIn ⟨o,h1,h2.1⟩ e (λz=>nomatch z) h
 | @dK a kvs ea =>
  cases (show u=K1j a from rx)
  obtain ⟨_,_,vs,_,p⟩:=(show ObjOk X.prog X.w H s.heap a (.dK kvs) from I.hok a _ ea)
  obtain ⟨o,es,ep,h1,h2,_⟩:=p
  exact K1e K7d I.kIn ⟨o,h1,h2.1⟩ e (λz=>nomatch z) h
 | @dT a kvs ea =>
  cases (show u=K1j a from rx)
  obtain ⟨_,_,xs,_,o,es,ep,h1,h2,_⟩:=(show ObjOk X.prog X.w H s.heap a (.dT kvs) from I.hok a _ ea)
  exact K1e K7d I.kIn ⟨o,h1,h2.1⟩ e (λz=>nomatch z) h
 | @ins a C dx fs ea cl ha hn htk hm =>
  cases (show u=K1j a from rx)
  obtain ⟨mA,O,_⟩:=zy1 I.hok ea
  obtain ⟨od,J,_⟩:=O.look
  exact K1e (PySem.W.kitx_own (cl.get _) cl.hd ha hn htk hm) I.kIn J e (λz=>nomatch z) h
end
structure Room (k:Nat) (A:Around):Prop where
 hd:A.handled=none
 dp:A.depth+3 * k+5<recursionLimit
 un:A.units+16 * k+200<cLine
 gd:A.guards=some []
theorem Room.mono {j k:Nat}{A:Around}(r:Room k A) (h:j≤k):Room j A:=⟨r.hd,by have:=r.dp;omega,by have:=r.un;omega,r.gd⟩
theorem Room.deeper {k:Nat}{A:Around}(r:Room (k+1) A) (env:Env):Room k (A.deeper env) :=
 ⟨r.hd,by have:=r.dp;show A.depth+1+3 * k+5<_;omega,by have:=r.un;show A.units+3+16 * k+200<_;omega,r.gd⟩
theorem Room.depth {k:Nat}{A:Around}(r:Room k A):A.depth<recursionLimit:=by have:=r.dp;omega
theorem Room.units {k:Nat}{A:Around}(r:Room k A):A.units+64<cLine:=by have:=r.un;omega
def tNil:TA:=λ_ H Q=>Q [] H
def z3V (ta:TE) (tr:TA):TA:=λσ H Q=>ta σ H λx H1=>tr σ H1 λxs H2=>Q (x::xs) H2
section
variable {X:Cx}{e:Expr}{es:List Expr}{te:TE}{t:TA}{pos:Pos}
theorem z0R:PA X [] tNil:=λ_ _ _ _ H Q I h=>Calls.spliced_nil ⟨[],H,I,.nil,h⟩
theorem Y2 (ha:PE X e te) (hr:PA X es t) (hs:K03 (e::es) X.env=(false,eval e X.env)::K03 es X.env:=by rfl):PA X (e::es) (z3V te t):=by
 intro pos pins s σ H Q I h
 rw [hs]
 show wpAny _ _ (Z12 ((false,eval e X.env)::backTo pos (K03 es X.env))) _ _ s
 refine Calls.spliced_cons (thn .(Q) λu s1 ⟨x,H1,I1,r1,q1⟩=>?_)
 exact thn (hr pos pins s1 σ H1 _ I1 q1) λus s2 ⟨xs,H2,I2,r2,q2⟩=>⟨x::xs,H2,I2,.cons r1 r2,q2⟩
def tTup (t:TA):TE:=λσ H Q=>t σ H λxs H1=>xs.length≤sizeLine/\∀p,H1 p=none->Q (.ref p) (upd H1 p (.tup xs))
def tLst (t:TA):TE:=λσ H Q=>t σ H λxs H1=>xs.length≤sizeLine/\∀p,H1 p=none->Q (.ref p) (upd H1 p (.lst xs))
theorem zE3 {x1}(h:PA X es t):PE X (.Tuple es x1 pos) (tTup t):=by
 intro pins s σ H Q I hq
 refine wpAny_Tuple_spliced (thn (h pos pins s σ H _ I hq) λus s1 ⟨xs,H1,I1,r,z,q⟩=>⟨by rw [← .(z)];exact z,?_⟩)
 have hf:H1 .(j)=none:=I1.hok.fresh (K05 _)
 refine ⟨.ref .(j),upd H1 .(j) (.tup xs),I1.laid (t':=s1.toks) (λb u e=>K7 _ e) (K05 _) ?_,rfl,q _ hf⟩
 exact ⟨z,us,r,⟨_,K0a _ rfl,⟨rfl,rfl⟩,_,rfl⟩⟩
theorem zD3 (h:PA X es t):PE X (.List es pos) (tLst t):=by
 intro pins s σ H Q I hq
 refine wpAny_List_spliced (thn (h pos pins s σ H _ I hq) λus s1 ⟨xs,H1,I1,r,z,q⟩=>⟨by rw [← .(z)];exact z,?_⟩)
 have hf:H1 .(j)=none:=I1.hok.fresh (K05 _)
 refine ⟨.ref .(j),upd H1 .(j) (.lst xs),I1.laid (t':=s1.toks) (λb u e=>K7 _ e) (K05 _) ?_,rfl,q _ hf⟩
 exact ⟨z,us,0,r,K0a _ rfl⟩
end
abbrev Sp:=List V->Hp->VK->XK->Prop
abbrev CXT:=List Env->Hp->Shared->XK->Value->Shared->Prop
structure Env0 (P:K0m) (w:World) (K:K0) (mg:Str->Option Value) (base:Heap) (A:Around) (outer:List Env) (s:Shared) (H:Hp):Prop where
 frames:A.frames=some outer
 mod:Mod K mg base
 bs:∀b o,base.get? b=some o->s.heap.get? b=some o/\H b=none
 bsz:base.objs.size≤.(3)
 funs:s.heap.FunFrames base outer
 frf:∀b∈frs outer,H b=none
 hok:HOk P w H s.heap
 bare:K5s s.gens
def CE (outer:List Env) (P:K0m) (w:World) (H:Hp) (s:Shared) (Q:VK) (u:Value) (s':Shared):Prop :=
 ∃v H',s'.os=s.os/\K5s s'.gens/\Un (frs outer) [] H H' s.heap s'.heap/\HOk P w H' s'.heap/\RelV v u/\Q v H'
def CR (CX:CXT) (outer:List Env) (P:K0m) (w:World) (H:Hp) (s:Shared) (Q:VK) (E:XK) (r:Result) (s':Shared):Prop :=
 match r with
 | .ok (.ret u)=>CE outer P w H s Q u s'
 | .ok _=>False
 | .error e=>CX outer H s E e s'
structure FnOk (P:K0m) (w:World) (K:K0) (mg:Str->Option Value) (base:Heap) (CX:CXT) (k:Nat) (f:Addr) (fd:K2q) (ps:List Str) (sp:Sp):Prop where
 len:∀vs H Q E,sp vs H Q E->vs.length=ps.length
 run:∀(A:Around) (outer:List Env) (s:Shared) (H:Hp) (args:Args) (us:List Value) (vs:List V) (Q:VK) (E:XK),Room k A->Env0 P w K mg base A outer s H->Z08 s fd args (ps.zip us)->Vals vs us->sp vs H Q E ->
  K4x (model P w) A (.call (.ref f) args) (CR CX outer P w H s Q E) s
theorem FnOk.imp {P:K0m}{w:World}{K:K0}{mg:Str->Option Value}{base:Heap}{CX:CXT}{k:Nat}{f:Addr}{fd:K2q}{ps:List Str}{sp sp':Sp}(F:FnOk P w K mg base CX k f fd ps sp)
 (h:∀vs H Q E,sp' vs H Q E->sp vs H Q E):FnOk P w K mg base CX k f fd ps sp' :=
 ⟨λvs H Q E q=>F.len vs H Q E (h _ _ _ _ q),λA outer s H args us vs Q E hr he hb hv hs=>F.run A outer s H args us vs Q E hr he hb hv (h _ _ _ _ hs)⟩
section
variable {X:Cx}{pins:List (Addr×Obj)}{σ:St}{H:Hp}{s s':Shared}
theorem Inv.env0 (I:Inv X pins σ H s):Env0 X.prog X.w X.K X.mg X.base X.A X.stack s H :=
 ⟨I.ok.frames,I.ok.mod,I.bs,K0r I.ok.bsz I.sz,I.stack,I.stkFree,I.hok,I.bare⟩
theorem Inv.after {Q:VK}{u:Value}(I:Inv X pins σ H s) (h:CE X.stack X.prog X.w H s Q u s'):EP X pins σ Q u s':=by
 obtain ⟨v,H',os,bare,un,hok,r,q⟩:=h
 obtain ⟨hh,g,d,t,os'⟩:=s'
 obtain rfl:os'=s.os:=os
 exact ⟨v,H',I.call (h':=hh) (g':=g) (d':=d) (t':=t) (ch:=[]) un hok bare (λb z=>absurd z .(e)),r,q⟩
end
def zQ8 (sp:Sp) (dvs:List V) (E:XK) (t:TA):TE:=λσ H Q=>t σ H λvs H1=>sp (vs++dvs) H1 Q E
def Binds (K:K0) (fd:K2q) (ps:List Str) (ds:List Value):Prop :=
 ∀(s:Shared) (us:List Value),K.In s.heap->(us++ds).length=ps.length->Z08 s fd ⟨us,[]⟩ (ps.zip (us++ds))
theorem Binds.all {K:K0}{fd:K2q}{ps:List Str}(h:∀us:List Value,us.length=ps.length->bindArgs fd ⟨us,[]⟩=pure (ps.zip us)):Binds K fd ps []:=λs us _ hl=>by
 rw [K1i] at hl ⊢
 exact .of_eq (h us hl)
def z6Z (CX:CXT) (X:Cx) (E:XK):Prop:=∀(pins:List .(f)) (σ:St) (H:Hp) (s:Shared) (e:Value) (s':Shared),Inv X pins σ H s->CX X.stack H s E e s'->X.xe e s'
section
variable {X:Cx}{CX:CXT}{k:Nat}{f C:Addr}{fd:K2q}{ps:List Str}{sp:Sp}{dvs:List V}{ds:List Value}{E:XK}{x m:Str}{p pos apos:Pos}{e o:Expr}{es:List Expr}{ta:TE}{t:TA}
theorem zH0 {pins:List .(f)}{σ:St}{H:Hp}{s:Shared}{Q:VK}{us:List Value}{vs:List V}(F:FnOk X.prog X.w X.K X.mg X.base CX k f fd ps sp) (hr:Room k X.A) (hb:Binds X.K fd ps ds) (hd:Vals dvs ds) (hx:z6Z CX X E)
 (I:Inv X pins σ H s) (r:Vals vs us) (h:sp (vs++dvs) H Q E):wpAny .(4) X.A (call (.ref f) us) (EP X pins σ Q) X.xe s:=by
 have r2:Vals (vs++dvs) (us++ds):=r.append hd
 have hl:(us++ds).length=ps.length:=by rw [← r2.length];exact F.len _ _ _ _ h
 refine wpAny_call (K3t (F.run X.A X.stack s H ⟨us,[]⟩ (us++ds) (vs++dvs) Q E hr I.env0 (hb s us I.kIn hl) r2 h) λr s' hq=>?_)
 cases r with
 | error e=>exact hx pins σ H s e s' I hq
 | ok fl =>
  cases fl with
  | ret u=>exact I.after hq
  | next=>exact K1q hq
  | brk=>exact K1q hq
  | cont=>exact K1q hq
theorem z9b (F:FnOk X.prog X.w X.K X.mg X.base CX k f fd ps sp) (hr:Room k X.A) (hg:Gl X x) (hm:X.mg x=.(r f)) (hk:K3d X.K (.ref f)=true) (hb:Binds X.K fd ps ds) (hd:Vals dvs ds) (hx:z6Z CX X E)
 (ha:PA X (e::es) t) (hdb:.(A)=false:=by decide) (he:K03 (e::es) X.env=(false,eval e X.env)::K03 es X.env:=by rfl) (hpl:(backTo pos (K03 es X.env)).any (·.1)=false:=by rfl) :
 PE X (.Call (.Name x p) (e::es) [] pos) (zQ8 sp dvs E t):=by
 intro pins s σ H Q I h
 refine K5d (z3j I hg hm ?_ hdb)
 refine K9p (h₀:=X.base) I.ok.mod.kin hk (thn (ha pos pins s σ H _ I h) λus s1 ⟨vs,H1,I1,r,q⟩=>⟨I1.kIn,?_⟩) he hpl
 exact zH0 F hr hb hd hx I1 r q
end
section
variable {X:Cx}{CX:CXT}{k:Nat}{f C:Addr}{fd:K2q}{ps ks:List Str}{sp:Sp}{E:XK}{x m:Str}{p pos apos kpos:Pos}{e o:Expr}{es:List Expr}{kws:List K4a}{te ta:TE}{t tk:TA}{nm:Option Str}
variable {g:List Value->List Value->List Value}{gV:List V->List V->List V}
end
structure FnScope (N P:List Str) (sc:Scope):Prop where
 kind:sc.kind=.function
 co:sc.isCoroutine=false
 gen:sc.isGenerator=false
 nd:N.Nodup
 pre:N.take P.length=P
 par:∀x∈P,sc.names.lookup x=some .local∨sc.names.lookup x=some .cell
 nofree:∀y∈sc.names,y.2≠.free
theorem z5j {kindOf:Str->Option K5o}{x:Str}:∀{binds:List (Str×Value)}{m:Str->Option Value},(∀v,(x,v)∉binds)->bindL kindOf binds m x=m x
 | [],_,_=>rfl
 | (n,v)::r,m,h=>by
  unfold bindL
  rw [z5j λw hw=>h w (K11 _ hw)]
  split
  ·have:x≠n:=by rintro rfl;exact h v K1d
   simp [this]
  ·rfl
theorem z5G {kindOf:Str->Option K5o}{x:Str}:∀{binds:List (Str×Value)}{m:Str->Option Value},(∀v,(x,v)∉binds)->bindC kindOf binds m x=m x
 | [],_,_=>rfl
 | (n,v)::r,m,h=>by
  unfold bindC
  rw [z5G λw hw=>h w (K11 _ hw)]
  split
  ·rfl
  ·have:x≠n:=by rintro rfl;exact h v K1d
   simp [this]
theorem z5p {kindOf:Str->Option K5o}{x:Str}{v:Value}:∀{P:List Str}{vs:List Value}{i:Nat}{m:Str->Option Value},P.Nodup->P[i]?=some x->vs[i]?=some v->kindOf x=some .local ->
 bindL kindOf (P.zip vs) m x=some v
 | [],_,_,_,_,h,_,_=>by simp at h
 | _::_,[],_,_,_,_,h,_=>by simp at h
 | p::P,w::vs,0,m,nd,h1,h2,hk=>by
  simp at h1 h2;subst h1;subst h2
  show bindL kindOf ((p,w)::P.zip vs) m p=_
  unfold bindL
  rw [z5j λv hv=>(K6a.mp nd).1 (K8o hv).1,if_pos hk]
  simp
 | p::P,w::vs,i+1,m,nd,h1,h2,hk=>by
  show bindL kindOf ((p,w)::P.zip vs) m x=_
  unfold bindL
  exact z5p (i:=i) (K6a.mp nd).2 (by simpa using h1) (by simpa using h2) hk
theorem z5O {kindOf:Str->Option K5o}{x:Str}{v:Value}:∀{P:List Str}{vs:List Value}{i:Nat}{m:Str->Option Value},P.Nodup->P[i]?=some x->vs[i]?=some v->kindOf x≠some .local ->
 bindC kindOf (P.zip vs) m x=some v
 | [],_,_,_,_,h,_,_=>by simp at h
 | _::_,[],_,_,_,_,h,_=>by simp at h
 | p::P,w::vs,0,m,nd,h1,h2,hk=>by
  simp at h1 h2;subst h1;subst h2
  show bindC kindOf ((p,w)::P.zip vs) m p=_
  unfold bindC
  rw [z5G λv hv=>(K6a.mp nd).1 (K8o hv).1,if_neg hk]
  simp
 | p::P,w::vs,i+1,m,nd,h1,h2,hk=>by
  show bindC kindOf ((p,w)::P.zip vs) m x=_
  unfold bindC
  exact z5O (i:=i) (K6a.mp nd).2 (by simpa using h1) (by simpa using h2) hk
def start (N:List Str) (vs:List V):St:=vs.map some++K0c (N.length - vs.length) none
def cxOf (CX:CXT) (P:K0m) (w:World) (K:K0) (mg:Str->Option Value) (base:Heap) (N:List Str) (qual:Str) (scope:Scope) (f:Addr) (cd:Value) (A:Around) (outer:List Env) (s:Shared) (H:Hp) (E:XK):Cx where
 prog:=P
 w:=w
 K:=K
 mg:=mg
 base:=base
 A:=A.deeper (envOfC qual scope .(3) f cd)
 N:=N
 s₀:=s
 H₀:=H
 env:=envOfC qual scope .(3) f cd
 outer:=outer
 stack:=envOfC qual scope .(3) f cd::outer
 ex:=[]
 calm:=true
 fn:=λ_=>true
 pn:=[]
 xe:=λe s'=>wpAny (model P w) (A.deeper (envOfC qual scope .(3) f cd)) (leaving (envOfC qual scope .(3) f cd) e) (λ_ s''=>CX outer H s E e s'') (λe' s''=>CX outer H s E e' s'') s'
theorem z6J {sc:Scope}{n:Nat}{x:Str}(h:sc.names.lookup x=some .cell):∃c,(cellsFrom n sc.names []).lookup x=some c:=by
 have q:=K8f sc.names n [] (.inl h)
 exact Option.isSome_iff_exists.mp q
theorem za2 {CX:CXT}{P:K0m}{w:World}{K:K0}{mg:Str->Option Value}{base:Heap}{N ps:List Str}{qual:Str}{scope:Scope}{f:Addr}{cd:Value}{A:Around}{outer:List Env}{s s1:Shared}{H:Hp}{E:XK}{us:List Value}{vs:List V}
 (S:FnScope N ps scope) (hd:A.handled=none) (e0:Env0 P w K mg base A outer s H) (hl:vs.length=ps.length) (r:Vals vs us)
 (x:InCallC s s.heap.objs.size (bindL (envOfC qual scope s.heap.objs.size f cd).kindOf (ps.zip us) λ_=>none) (cellsFrom (s.heap.objs.size+1) scope.names []) (bindC (envOfC qual scope s.heap.objs.size f cd).kindOf (ps.zip us) λ_=>none) s1) :
 Inv (cxOf CX P w K mg base N qual scope f cd A outer s H E) [] (start N vs) H s1:=by
 have hpl:ps.length≤N.length:=by have:=congrArg Z0u S.pre;rw [K13] at this;omega
 obtain ⟨h1,tk,rfl,hk⟩:=x.done
 have noA:∀b:Addr,b∉(cxOf CX P w K mg base N qual scope f cd A outer s H E).ex:=λb z=>absurd (show b∈([]:List Addr) from z) .(e)
 refine ⟨⟨e0.mod,S.kind,rfl,rfl,K05 _,λy z c h1 h2=>?_,λy hy=>?_,λy c _ h=>?_,λ_=>hd,Around.frames_deeper e0.frames,.inr ⟨rfl,rfl⟩,λb z=>absurd z (noA b),e0.bs,e0.bsz,λb _ _=>noA b,λb z=>absurd z (noA b),e0.funs,e0.frf⟩,
  rfl,e0.bare,Un.kept hk,⟨_,x.toInCall.ns,λi y v h1 h2 h3=>?_⟩,λy c h=>⟨_,x.cell y c h⟩,e0.hok.fresh (K05 _),λy c h=>?_,λp hp=>absurd (show p∈([]:List .(f)) from hp) .(e),e0.hok.kept hk,?_⟩
 ·exact name_of_addr x.apart (K2a h1) (K2a h2)
 ·have hy:scope.names.lookup y=some .cell∨scope.names.lookup y=some .free:=hy
  rcases hy with hy|hy
  ·exact z6J hy
  ·exact absurd rfl (S.nofree _ (K2a hy))
 ·exact K2l (x.above y c (K2a h))
 ·have hi:i<vs.length:=by
   unfold start at h2
   by_cases hi:i<vs.length
   ·exact hi
   ·rw [K27 (by simpa using hi)] at h2
    rw [K2h] at h2
    split at h2<;>cases h2
  have ha:vs[i]?=some v:=by
   unfold start at h2
   rw [K0i (by simpa using hi),K07] at h2
   cases e:vs[i]? with
   | none=>rw [e] at h2;cases h2
   | some a=>rw [e] at h2;cases h2;rfl
  obtain ⟨u,hu,rv⟩:=r.get ha
  have hp:ps[i]?=some y:=by
   rw [← S.pre,K7q .(0)];exact h1
  have ndP:ps.Nodup:=by rw [← S.pre];exact S.nd.sublist (Z0a _ _)
  refine ⟨u,rv,?_⟩
  rcases S.par y (K0d hp) with k|k
  ·exact .inl ⟨k,z5p ndP hp hu k⟩
  ·obtain ⟨c,e⟩:=z6J (n:=.(3)+1) k
   refine .inr ⟨.inl k,c,e,?_⟩
   have q:=x.cell y c e
   rw [z5O ndP hp hu (by show scope.names.lookup y≠_;rw [k];decide)] at q
   exact q
 ·exact e0.hok.fresh (K2l (x.above y c (K2a h)))
 ·unfold start
  show _=N.length
  rw [K01,K02,List.length_replicate]
  omega
theorem zy9 {CX:CXT}{P:K0m}{w:World}{K:K0}{mg:Str->Option Value}{base:Heap}{k:Nat}{f:Addr}{name qual:Str}{params:Arguments}{body:List Stmt}{scope:Scope}{dV kV doc pm cdv ct oc:Value}{an od:Option Addr}
 {osl:Array (Option Value)} {N ps:List Str} {sp:Sp} (lk:K.lookup f=some ⟨oc,od,.func (K3n name qual params body scope dV kV doc pm an cdv ct),osl⟩) (hcd:K2y K cdv qual=true) (S:FnScope N ps scope)
 (len:∀vs H Q E,sp vs H Q E->vs.length=ps.length)
 (hbody:∀(A:Around) (outer:List Env) (s:Shared) (H:Hp) (vs:List V) (Q:VK) (E:XK),Room k (A.deeper (envOfC qual scope .(3) f cdv))->sp vs H Q E ->
  ∃t,PSs (cxOf CX P w K mg base N qual scope f cdv A outer s H E) body t/\t { nx:=λ_ H'=>Q .non H',rt:=Q } (start N vs) H) :
 FnOk P w K mg base CX (k+1) f (K3n name qual params body scope dV kV doc pm an cdv ct) ps sp:=by
 refine ⟨len,λA outer s H args us vs Q E hr e0 hb r hsp=>?_⟩
 have hl:=len _ _ _ _ hsp
 have KX:K.In s.heap:=e0.mod.kin.keeps λb o e=>(e0.bs b o e).1
 have lim:s.heap.NoLimit:=e0.mod.nolimit.keeps λb o e=>(e0.bs b o e).1
 have hkind:∀y∈ps.zip us,scope.names.lookup y.1=some .local∨(scope.names.lookup y.1=some .cell/\((cellsFrom (s.heap.objs.size+1) scope.names []).lookup y.1).isSome=true):=λ⟨n,v⟩ hy=>by
  rcases S.par n (K8o hy).1 with q|q
  ·exact .inl q
  ·exact .inr ⟨q,K8f _ _ _ (.inl q)⟩
 refine codeAny_call_function hr.depth (KX _ _ lk) rfl S.co S.gen rfl (PySem.W.codeRec_of KX hcd) (hb _ _ _ _ ?_)
 refine wpAny_newFunctionEnv_cells S.kind hkind λenv he s1 x=>?_
 subst he
 refine ⟨lim.keeps x.toInCall.keep,codeAny_func ?_⟩
 obtain ⟨t,ht,hq⟩:=hbody A outer s H vs Q E (hr.deeper _) hsp
 have I:Inv (cxOf CX P w K mg base N qual scope f cdv A outer s H E) [] (start N vs) H s1:=za2 S hr.hd e0 hl r x
 refine K2g (ht [] s1 (start N vs) H _ I hq) (λfl s' hs=>?_) λe s' hs=>hs
 have fin:∀{σ':St} {H':Hp} {v:V} {u:Value},Inv (cxOf CX P w K mg base N qual scope f cdv A outer s H E) [] σ' H' s'->RelV v u->Q v H'->CE outer P w H s Q u s' :=
  λ{σ' H' v u} J rv q=>⟨v,H',J.os,J.bare,J.base,J.hok,rv,q⟩
 cases fl with
 | ret u =>
  obtain ⟨v,σ',H',J,rv,q⟩:=hs
  exact fin J rv q
 | next =>
  obtain ⟨σ',H',J,q⟩:=hs
  exact fin (v:=V.non) (u:=K3w) J rfl q
 | brk =>
  obtain ⟨_,_,_,q⟩:=hs
  exact K1q q
 | cont =>
  obtain ⟨_,_,_,q⟩:=hs
  exact K1q q
section
variable {X:Cx}{x:Str}{p pos:Pos}{e:Expr}{es:List Expr}{t:TA}{id T:String}{r:List V->Hp->VK->Prop}
def tCB (r:List V->Hp->VK->Prop) (t:TA):TE:=λσ H Q=>t σ H λvs H1=>r vs H1 Q
theorem z0J (hc:z2q X (.builtin id) r) (hg:Gl X x) (hm:X.mg x=none) (hv:K49 x=some (.builtin id)) (ha:PA X (e::es) t) (hn:x≠"__name__":=by decide) (hdb:.(A)=false:=by decide)
 (he:K03 (e::es) X.env=(false,eval e X.env)::K03 es X.env:=by rfl) (hpl:(backTo pos (K03 es X.env)).any (·.1)=false:=by rfl):PE X (.Call (.Name x p) (e::es) [] pos) (tCB r t):=by
 intro pins s σ H Q I h
 refine K5d (z5E I hg hm hv ?_ hn hdb)
 exact PyProof.Rows.callWith_builtin1 (thn (ha pos pins s σ H _ I h) λus s1 ⟨vs,H1,I1,r1,q1⟩=>hc pins s1 σ H1 vs us Q I1 r1 q1) he hpl
theorem z15 (hc:z2q X (.type T) r) (hg:Gl X x) (hm:X.mg x=none) (hv:K49 x=some (.type T)) (ha:PA X (e::es) t) (hn:x≠"__name__":=by decide) (hdb:.(A)=false:=by decide)
 (he:K03 (e::es) X.env=(false,eval e X.env)::K03 es X.env:=by rfl) (hpl:(backTo pos (K03 es X.env)).any (·.1)=false:=by rfl):PE X (.Call (.Name x p) (e::es) [] pos) (tCB r t):=by
 intro pins s σ H Q I h
 refine K5d (z5E I hg hm hv ?_ hn hdb)
 exact K4p (thn (ha pos pins s σ H _ I h) λus s1 ⟨vs,H1,I1,r1,q1⟩=>hc pins s1 σ H1 vs us Q I1 r1 q1) he hpl
end
end L2
namespace HT
open PySem PyProof.Rows
section
open PySem.SeqAt
open PySem.AutoSeq1 (wpAny_loadPart')
open PySem.MeetsSeq PySem.MeetsSeq2 PySem.MeetsSeq3
end
section
variable {prog:K0m}{w:World}{A:Around}{E:Value->Shared->Prop}{s:Shared}
theorem cat_tup {t b:Addr}{vs ws:List Value}{Q:Value->Shared->Prop}(ht:IsTup s.heap t vs.toArray) (hb:IsTup s.heap b ws.toArray) (hv:vs≠[])
 (h1:ws=[]->Q (.ref t) s) (h2:ws≠[]->Q (.ref .(3)) { s with heap:=s.heap.push { cls:=.type "tuple",data:=.seq (vs++ws).toArray } })
 (hsz:vs.length+ws.length≤sizeLine):wpAny (model prog w) A (K3g .Add (.ref t) (.ref b)) Q E s:=by
 obtain ⟨⟨cls,dd,data,sl⟩,ho,hc,n,hd⟩:=id ht
 obtain ⟨⟨cls2,dd2,data2,sl2⟩,ho2,hc2,n2,hd2⟩:=id hb
 simp only at hc hd hc2 hd2
 subst hc hd hc2 hd2
 have e:vs.toArray++ws.toArray=(vs++ws).toArray:=by simp
 by_cases hw:ws=[]
 ·exact Z0d ⟨_,ho,rfl⟩ ⟨_,ho2,rfl⟩ K84 K9j K5p K5j (K54 _ _)
   (tuple_addW1 t b vs.toArray ws.toArray n n2 dd dd2 sl sl2 (by simpa using hv) (by simp [hw])) ⟨ho,ho2,h1 hw⟩
 ·refine Z0d ⟨_,ho,rfl⟩ ⟨_,ho2,rfl⟩ K84 K9j K5p K5j (K54 _ _)
   (tuple_addW2 t b vs.toArray ws.toArray n n2 dd dd2 sl sl2 (by simpa using hv) (by simpa using hw) (by rw [K06,K06];exact hsz)) ⟨ho,ho2,?_⟩
  rw [e]
  exact h2 hw
def sIx (n d:Nat):Option Int->Nat
 | none=>d
 | some v=>if v<0 then (v+(n:Int)).toNat else min v.toNat n
theorem sIx_none (n d:Nat):sIx n d none=d:=rfl
theorem sIx_nat (n d k:Nat):sIx n d (some (k:Int))=min k n:=by
 show (if (k:Int)<0 then ((k:Int)+(n:Int)).toNat else min (k:Int).toNat n)=min k n
 rw [if_neg .(0),K0l]
theorem zE8 (n d:Nat) (hd:d≤n) (o:Option Int):sIx n d o≤n:=by
 cases o with
 | none=>exact hd
 | some v =>
  show (if v<0 then (v+(n:Int)).toNat else min v.toNat n)≤n
  by_cases hv:v<0
  ·rw [if_pos hv];omega
  ·rw [if_neg hv];exact Nat.min_le_right _ _
theorem zb3 (v:Int) (n d:Nat):(if v<0 then max (v+(n:Int)) 0 else min v (n:Int))=((sIx n d (some v):Nat):Int):=by
 show (if v<0 then max (v+(n:Int)) 0 else min v (n:Int))=(((if v<0 then (v+(n:Int)).toNat else min v.toNat n):Nat):Int)
 by_cases hv:v<0
 ·simp only [if_pos hv];omega
 ·simp only [if_neg hv];omega
theorem z85 (lo hi:Option Int) (n:Nat):K4y lo hi 1 (n:Int)=(((sIx n 0 lo:Nat):Int),((sIx n n hi:Nat):Int)):=by
 have h1:¬ ((1:Int)<0):=by omega
 unfold K4y
 simp only [h1,if_false]
 refine Prod.ext ?_ ?_
 ·cases lo with
  | none=>rfl
  | some v=>exact zb3 v n 0
 ·cases hi with
  | none=>rfl
  | some v=>exact zb3 v n n
theorem z84 (i j:Nat):K3k (i:Int) (j:Int) 1=j - i:=by
 unfold K3k
 have h1:(1:Int) > 0:=by omega
 simp only [h1,if_true,Int.ediv_one]
 split<;>omega
theorem z4j {v:Value}{o:Option Int}{Q:Option Int->Shared->Prop}(p:IsPart v o) (h:Q o s):wpAny (model prog w) A (Builtin.Slice.slicePartIndex v) Q E s:=by
 cases p with
 | none=>exact slicePart_none h
 | int i t=>exact slicePart_int h
theorem sliceApplied_gen {sl:Addr}{vl vu:Value}{lo hi:Option Int}{n:Nat}{Q:Int×Int×Nat->Shared->Prop}(hs:s.heap.IsSliceOf sl vl vu .none) (pl:IsPart vl lo) (pu:IsPart vu hi)
 (h:Q (((sIx n 0 lo:Nat):Int),1,sIx n n hi - sIx n 0 lo) s):wpAny (model prog w) A (K6t (.ref sl) (pure (n:Int))) Q E s:=by
 obtain ⟨os,hos,hcs,hds⟩:=id hs
 unfold K6t Builtin.Slice.sliceFields
 refine K1 (K1 (K97 hos hds (x:=vl) rfl (K1 (K97 hos hds (x:=vu) rfl (K1 (K97 hos hds (x:=.none) rfl (K8 ?_)))))))
 refine K1 (slicePart_none ?_)
 show wpAny _ _ (if ((1:Int)==0)=true then _ else _) _ _ s
 rw [if_neg .(1)]
 refine K1 (z4j pl (K1 (z4j pu (K1 (K8 ?_)))))
 show wpAny _ _ (match K4y lo hi 1 (n:Int) with|(lo,hi)=>pure (lo,(1:Int),K3k lo hi 1)) _ _ s
 rw [z85 lo hi n]
 show wpAny _ _ (pure (((sIx n 0 lo:Nat):Int),(1:Int),K3k ((sIx n 0 lo:Nat):Int) ((sIx n n hi:Nat):Int) 1)) _ _ s
 rw [z84]
 exact K8 h
theorem zf1 (xs:Array Value) (i k:Nat):((K00 k).filterMap λ(m:Nat)=>xs[((i:Int)+(m:Int) * 1).toNat]?).toArray=((xs.toList.drop i).take k).toArray:=by
 have e:(λ(m:Nat)=>xs[((i:Int)+(m:Int) * 1).toNat]?)=λm=>xs[i+m]?:=by
  funext m
  have:((i:Int)+(m:Int) * 1).toNat=i+m:=by omega
  rw [this]
 rw [e]
 have:=pick_run xs i k
 rw [K6w] at this
 have e2:((λx=>xs[x]?) ∘ λx=>i+x)=λm=>xs[i+m]?:=rfl
 rw [e2] at this
 rw [this]
theorem getItem_tuple_cut {t sl:Addr}{items:Array Value}{vl vu:Value}{lo hi:Option Int}{Q:Value->Shared->Prop}(ht:IsTup s.heap t items) (hs:s.heap.IsSliceOf sl vl vu .none) (pl:IsPart vl lo) (pu:IsPart vu hi)
 (hw:¬ (sIx .(v) 0 lo=0/\sIx .(v) .(v) hi=.(v)))
 (h:Q (.ref .(3)) { s with heap:=s.heap.push { cls:=.type "tuple",data:=.seq ((items.toList.drop (sIx .(v) 0 lo)).take (sIx .(v) .(v) hi - sIx .(v) 0 lo)).toArray } })
 (hsz:.(v)≤sizeLine):wpAny (model prog w) A (K6k (.ref t) (.ref sl)) Q E s:=by
 have htake:sizeOk (.seq ((items.toList.drop (sIx .(v) 0 lo)).take (sIx .(v) .(v) hi - sIx .(v) 0 lo)).toArray):=by
  show ((items.toList.drop (sIx .(v) 0 lo)).take (sIx .(v) .(v) hi - sIx .(v) 0 lo)).toArray.size≤sizeLine
  rw [K06,K13,K7y,K19]
  omega
 have hj:sIx .(v) .(v) hi≤items.size:=zE8 _ _ (K05 _) hi
 obtain ⟨os,hos,hcs,hds⟩:=id hs
 have hTs:s.TypeIs (.ref sl) "slice":=⟨os,hos,hcs⟩
 unfold K6k
 try with_reducible refine K1w ?_
 first|refine K1 (K8 ?_)|skip
 refine K1 (wpAny_sequenceKey ht.typeIs .(1) ?_)
 refine K1 (K43 (name:=K4v "__getitem__") ht.typeIs K1m
  (K2i K1m ht.typeIs K9g ?_ (args_tuple_getitem _ _)))
 show wpAny _ _ (K6r (.ref t) >>= _) _ _ s
 refine K1 (tupleItemsOf_ ht ?_)
 refine K1 (K5q hTs ?_)
 rw [if_pos .(1)]
 refine K1 (sliceApplied_gen hs pl pu ?_)
 have hno:¬ ((((sIx .(v) 0 lo:Nat):Int)==0&&(1:Int)==1&&(sIx .(v) .(v) hi - sIx .(v) 0 lo)==.(v))=true):=by
  intro q
  rw [K0h,K0h] at q
  have q1:((sIx .(v) 0 lo:Nat):Int)=0:=eq_of_beq q.1.1
  have q2:sIx .(v) .(v) hi - sIx .(v) 0 lo=items.size:=eq_of_beq q.2
  exact hw ⟨by omega,by omega⟩
 show wpAny _ _ (if (((sIx .(v) 0 lo:Nat):Int)==0&&(1:Int)==1&&(sIx .(v) .(v) hi - sIx .(v) 0 lo)==.(v))=true then _ else _) _ _ s
 rw [if_neg hno,zf1]
 first
  | exact K1 (m:=K2c _) (K1f (K8 ⟨_,rfl,K8 h⟩) htake)
  | exact K1 (m:=K2c _) (K1f (K1 (K8 (K8 ⟨_,rfl,K8 h⟩))) htake)
  | exact K1 (K1 (m:=K2c _) (K1f (K8 (K8 ⟨_,rfl,K8 h⟩)) htake))
  | exact K1 (K1 (m:=K2c _) (K1f (K8 ⟨_,rfl,K8 h⟩) htake))
end
end HT
namespace L2
abbrev TO:=St->Hp->(Option Int->Hp->Prop)->Prop
def PO (X:Cx) (e:Option Expr) (t:TO):Prop :=
 ∀(pins:List .(f)) (s:Shared) (σ:St) (H:Hp) (Q:Option Int->Hp->Prop),Inv X pins σ H s->t σ H Q ->
  wpAny .(4) X.A (evalPart e X.env) (λu s'=>∃o H',Inv X pins σ H' s'/\IsPart u o/\Q o H') X.xe s
def zq0:TO:=λ_ H Q=>Q none H
def zS3 (t:TE):TO:=λσ H Q=>t σ H λx H1=>∃i,x=.int i/\Q (some i) H1
theorem intsAre_of {ns:List Int}:∀{us:List Value},Vals (ns.map V.int) us->K5r us ns:=by
 induction ns with
 | nil=>intro us r;rw [K4u] at r;cases r;exact .nil
 | cons n ns ih =>
  intro us r
  rw [K0q] at r
  cases r with
  | cons r1 r2 =>
   obtain ⟨t,e⟩:=r1
   subst e
   exact .cons n t (ih r2)
section
variable {X:Cx}{e:Expr}{te:TE}{lo hi:Option Expr}{tl th:TO}{pos p2:Pos}
theorem zy3:PO X none zq0:=by
 intro pins s σ H Q I h
 rw [evalPart_none]
 exact K8 ⟨none,H,I,.none,h⟩
theorem zr5 (h:PE X e te):PO X (some e) (zS3 te):=by
 intro pins s σ H Q I hw
 rw [evalPart_some]
 refine thn (h pins s σ H _ I hw) λu s1 ⟨x,H1,I1,r1,q1⟩=>?_
 obtain ⟨i,rfl,q⟩:=q1
 obtain ⟨t,rfl⟩:=r1
 exact ⟨some i,H1,I1,.int i t,q⟩
def SlR (X:Cx) (r:V->Option Int->Option Int->Hp->VK->Prop):Prop :=
 ∀(pins:List .(f)) (s:Shared) (σ:St) (H:Hp) (x:V) (v vl vu:Value) (lo hi:Option Int) (sl:Addr) (Q:VK),Inv X pins σ H s->RelV x v->s.heap.IsSliceOf sl vl vu .none->IsPart vl lo->IsPart vu hi->r x lo hi H Q ->
  ∃T id,K6v (.type T) "__getitem__" = pure (some (.builtin id))/\s.TypeIs v T/\wpAny .(4) X.A (K6k v (.ref sl)) (EP X pins σ Q) X.xe s
theorem SlR.or {r r':V->Option Int->Option Int->Hp->VK->Prop}(h:SlR X r) (h':SlR X r'):SlR X (λx lo hi H Q=>r x lo hi H Q∨r' x lo hi H Q):=by
 intro pins s σ H x v vl vu lo hi sl Q I rx hs pl pu q
 rcases q with q|q
 ·exact h pins s σ H x v vl vu lo hi sl Q I rx hs pl pu q
 ·exact h' pins s σ H x v vl vu lo hi sl Q I rx hs pl pu q
def tSl (r:V->Option Int->Option Int->Hp->VK->Prop) (te:TE) (tl th:TO):TE:=λσ H Q=>te σ H λx H1=>tl σ H1 λl H2=>th σ H2 λu H3=>r x l u H3 Q
theorem zh3 {r:V->Option Int->Option Int->Hp->VK->Prop}(hr:SlR X r) (he:PE X e te) (hl:PO X lo tl) (hu:PO X hi th):PE X (.Subscript e (.Slice lo hi none p2) pos) (tSl r te tl th):=by
 intro pins s σ H Q I h
 refine Subscript_ (thn (he pins s σ H _ I h) λv s1 ⟨x,H1,I1,r1,q1⟩=>?_)
 refine wpAny_Slice (thn (hl pins s1 σ H1 _ I1 q1) λvl s2 ⟨l,H2,I2,pl,q2⟩=>thn (hu pins s2 σ H2 _ I2 q2) λvu s3 ⟨u,H3,I3,pu,q3⟩=>?_)
 rw [evalPart_none]
 refine K8 ?_
 have I4:Inv X pins σ H3 { s3 with heap:=s3.heap.push { cls:=.type "slice",data:=.fields #[vl,vu,.none] } }:=I3.kept (t':=s3.toks) λb ob q=>K7 _ q
 obtain ⟨T,id,hT,ht,hg⟩:=hr pins { s3 with heap:=s3.heap.push { cls:=.type "slice",data:=.fields #[vl,vu,.none] } } σ H3 x v vl vu l u s3.heap.objs.size Q I4 r1 (Heap.IsSliceOf.new ..) pl pu q3
 show wpAny .(4) X.A (K9h e (.Slice lo hi none p2) v (.ref s3.heap.objs.size)) (EP X pins σ Q) X.xe { s3 with heap:=s3.heap.push { cls:=.type "slice",data:=.fields #[vl,vu,.none] } }
 exact tail_any (ops:=[.ref s3.heap.objs.size,v]) ht hT hg (by with_unfolding_all rfl)
def cutV (xs:List V) (lo hi:Option Int):List V:=(xs.drop (HT.sIx xs.length 0 lo)).take (HT.sIx xs.length xs.length hi - HT.sIx xs.length 0 lo)
theorem z3L (xs:List V) (lo hi:Option Int):(cutV xs lo hi).length≤xs.length:=by
 unfold cutV
 rw [K13,K7y]
 omega
def rSlT (K:K0):V->Option Int->Option Int->Hp->VK->Prop:=λx lo hi H Q=>∃a xs,x=.ref a/\SqT K H a xs /\
 ¬ (HT.sIx xs.length 0 lo=0/\HT.sIx xs.length xs.length hi=xs.length)/\∀p,H p=none->Q (.ref p) (upd H p (.tup (cutV xs lo hi)))
theorem sl_tup:SlR X (rSlT X.K):=by
 intro pins s σ H x v vl vu lo hi sl Q I rx hs pl pu h
 obtain ⟨a,xs,rfl,hx,hw,q⟩:=h
 cases rx
 obtain ⟨its,r,ht,hz⟩:=I.tuple hx
 have hlen:its.toArray.size=xs.length:=by rw [K06];exact r.length.symm
 refine ⟨"tuple",_,K1m.lookup,ht.typeIs,?_⟩
 refine HT.getItem_tuple_cut ht hs pl pu (by rw [hlen];exact hw) ?_ (by rw [hlen];exact hz)
 rw [hlen]
 refine ⟨.ref .(3),_,I.laid (t':=s.toks) (o:=.tup (cutV xs lo hi)) (λb ob q=>K7 _ q) (K05 _) ?_,rfl,q _ (I.hok.fresh (K05 _))⟩
 exact ⟨K0r (z3L xs lo hi) hz,_,(r.drop (HT.sIx xs.length 0 lo)).take (HT.sIx xs.length xs.length hi - HT.sIx xs.length 0 lo),FT.IsTup0.new _ _⟩
def zr4 (K:K0):R2:=λx y H Q=>∃a b xs ys,x=.ref a/\y=.ref b/\SqT K H a xs/\SqT K H b ys/\xs≠[]/\xs.length+ys.length≤sizeLine /\
 (ys=[]->Q (.ref a) H)/\(ys≠[]->∀p,H p=none->Q (.ref p) (upd H p (.tup (xs++ys))))
theorem Vals.nil_iff {xs:List V}{us:List Value}(r:Vals xs us):us=[]↔xs=[]:=by
 cases r with
 | nil=>simp
 | cons _ _=>simp
theorem op_catT:OpR X (K3g .Add) (zr4 X.K):=by
 intro pins s σ H x y v u Q I rx ry h
 obtain ⟨a,b,xs,ys,rfl,rfl,ha,hb,hx,hz,q1,q2⟩:=h
 cases rx
 cases ry
 obtain ⟨its,r1,p1,_⟩:=I.tuple ha
 obtain ⟨its2,r2,p2,_⟩:=I.tuple hb
 refine HT.cat_tup p1 p2 (λz=>hx (r1.nil_iff.mp z)) (λz=>⟨.ref a,H,I,rfl,q1 (r2.nil_iff.mp z)⟩) (λz=>?_) (by rw [← r1.length,← r2.length];exact hz)
 refine ⟨.ref .(3),_,I.laid (t':=s.toks) (o:=.tup (xs++ys)) (λb ob q=>K7 _ q) (K05 _) ?_,rfl,q2 (λw=>z (r2.nil_iff.mpr w)) _ (I.hok.fresh (K05 _))⟩
 exact ⟨by rw [K01];exact hz,_,r1.append r2,FT.IsTup0.new _ _⟩
end
def ixN (n:Nat) (i:Int):Option Nat:=if 0≤i then (if i<n then some i.toNat else none) else if -(n:Int)≤i then some (i+n).toNat else none
def atI {α:Type} (xs:List α) (i:Int):Option α:=(ixN xs.length i).bind λj=>xs[j]?
theorem z8Q {n:Nat}{i:Int}{j:Nat}(h:ixN n i=some j):K5f i n=some j/\j<n/\-(n:Int)≤i/\i<n:=by
 unfold ixN at h
 by_cases h0:0≤i
 ·rw [if_pos h0] at h
  by_cases h1:i<n
  ·rw [if_pos h1] at h
   have e:i.toNat=j:=K10 h
   exact ⟨by rw [Z0x h0 h1,e],by omega,by omega,h1⟩
  ·rw [if_neg h1] at h;cases h
 ·rw [if_neg h0] at h
  by_cases h1:-(n:Int)≤i
  ·rw [if_pos h1] at h
   have e:(i+n).toNat=j:=K10 h
   exact ⟨by rw [Z0c .(0) h1,e],by omega,h1,by omega⟩
  ·rw [if_neg h1] at h;cases h
theorem z67 {α:Type}{xs:List α}{i:Int}{v:α}(h:atI xs i=some v):∃j,K5f i xs.length=some j/\xs[j]?=some v/\j<xs.length/\-(xs.length:Int)≤i/\i<xs.length:=by
 unfold atI at h
 cases e:ixN xs.length i with
 | none=>rw [e] at h;cases h
 | some j =>
  rw [e] at h
  obtain ⟨h1,h2,h3,h4⟩:=z8Q e
  exact ⟨j,h1,h,h2,h3,h4⟩
theorem z0S {α:Type}{xs:List α}{j:Nat}{v:α}(h:xs[j]?=some v):atI xs (j:Int)=some v:=by
 have hj:j<xs.length:=(K2.mp h).1
 have e:ixN xs.length (j:Int)=some j:=by
  unfold ixN
  rw [if_pos .(0),if_pos .(0)];simp
 unfold atI;rw [e];exact h
theorem zj9 {α:Type}(xs:List α) (v:α):atI (xs++[v]) (-1)=some v:=by
 have hl:(xs++[v]).length=xs.length+1:=by simp
 have e:ixN (xs++[v]).length (-1)=some xs.length:=by
  unfold ixN
  rw [hl,if_neg .(1),if_pos .(0)]
  congr 1
  omega
 unfold atI
 rw [e]
 show (xs++[v])[xs.length]?=some v
 simp
def z9B (b:Expr):Prop:=∀o i,K98 b false o i=operate [o,i] (K6k o i)
def IxR (X:Cx) (r:R2):Prop :=
 ∀(value slice:Expr) (pins:List .(f)) (s:Shared) (σ:St) (H:Hp) (x y:V) (v u:Value) (Q:VK),Inv X pins σ H s->RelV x v->RelV y u->r x y H Q ->
  K98 slice false v u=operate [v,u] (K6k v u)->wpAny .(4) X.A (K9h value slice v u) (EP X pins σ Q) X.xe s
def MtR (X:Cx) (id:String) (r:V->List V->Hp->VK->Prop):Prop :=
 ∀(pins:List .(f)) (s:Shared) (σ:St) (H:Hp) (x:V) (xs:List V) (v:Value) (us:List Value) (Q:VK),Inv X pins σ H s->RelV x v->Vals xs us->r x xs H Q ->
  wpAny .(4) X.A (call (.builtin id) (v::us)) (EP X pins σ Q) X.xe s
section
variable {X:Cx}{a b:Expr}{ta tb:TE}{pos:Pos}
theorem IxR.or {r r':R2}(h:IxR X r) (h':IxR X r'):IxR X (λx y H Q=>r x y H Q∨r' x y H Q):=by
 intro value slice pins s σ H x y v u Q I rx ry q hs
 rcases q with q|q
 ·exact h value slice pins s σ H x y v u Q I rx ry q hs
 ·exact h' value slice pins s σ H x y v u Q I rx ry q hs
theorem zP1 {r:R2}(hr:IxR X r) (ha:PE X a ta) (hb:PE X b tb) (hs:z9B b):PE X (.Subscript a b pos) (tOp r ta tb):=by
 intro pins s σ H Q I h
 exact Subscript_ (binT ha hb I h λv u s2 x y H2 I2 rx ry q=>hr a b pins s2 σ H2 x y v u Q I2 rx ry q (hs _ _))
def rIxL (K:K0):R2:=λx y H Q=>∃p xs i v,x=.ref p/\y=.int i/\SqL K H p xs/\atI xs i=some v/\Q v H
def rIxT (K:K0):R2:=λx y H Q=>∃p xs i v,x=.ref p/\y=.int i/\SqT K H p xs/\atI xs i=some v/\Q v H
def rIxS:R2:=λx y H Q=>∃z i c,x=.str z/\y=.int i/\z.length≤sizeLine/\atI z.cps.toList i=some c/\Q (.str ⟨#[c]⟩) H
theorem ix_list:IxR X (rIxL X.K):=by
 intro value slice pins s σ H x y v u Q I rx ry h hs
 obtain ⟨p,xs,i,z,rfl,rfl,hq,he,q⟩:=h
 cases rx
 obtain ⟨t,rfl⟩:=ry
 obtain ⟨its,r,pl,hz⟩:=I.list hq
 obtain ⟨j,h1,h2,h3,h4,h5⟩:=z67 he
 obtain ⟨w,ew,rw'⟩:=r.get h2
 have hl:=.(z)
 have hn:=z48
 have fin:EP X pins σ Q w s:=⟨z,H,I,rw',q⟩
 by_cases h0:0≤i
 ·have hj:i.toNat=j:=by
   rw [Z0x h0 h5] at h1
   exact K10 h1
  exact item_listR pl.isList h0 .(0) (by rw [hj];simpa using ew) fin hs
 ·have hj:(i+(its.toArray.size:Int)).toNat=j:=by
   rw [Z0c .(0) h4] at h1
   rw [K06,← hl]
   exact K10 h1
  exact K8l (x:=w) pl.isList.typeIs K9t.lookup
   (wpAny_getItem_list_neg (Q:=λr s'=>r=w/\EP X pins σ Q r s') pl.isList .(0) (by rw [K06]<;>omega) .(0) (by rw [hj];simpa using ew) ⟨rfl,fin⟩) hs
theorem ix_tup:IxR X (rIxT X.K):=by
 intro value slice pins s σ H x y v u Q I rx ry h hs
 obtain ⟨p,xs,i,z,rfl,rfl,hq,he,q⟩:=h
 cases rx
 obtain ⟨t,rfl⟩:=ry
 obtain ⟨its,r,pl,hz⟩:=I.tuple hq
 obtain ⟨j,h1,h2,h3,h4,h5⟩:=z67 he
 obtain ⟨w,ew,rw'⟩:=r.get h2
 have hl:=.(z)
 have hn:=z48
 have fin:EP X pins σ Q w s:=⟨z,H,I,rw',q⟩
 exact K8l (x:=w) pl.typeIs slot_tuple_getitem.lookup
  (getItem_tuple (j:=j) (Q:=λr s'=>r=w/\EP X pins σ Q r s') pl .(0) .(0) (by rw [K06,← hl];exact h1) (by simpa using ew) ⟨rfl,fin⟩) hs
theorem zD6:IxR X rIxS:=by
 intro value slice pins s σ H x y v u Q I rx ry h hs
 obtain ⟨z,i,c,rfl,rfl,hz,he,q⟩:=h
 obtain ⟨t,rfl⟩:=rx
 obtain ⟨t',rfl⟩:=ry
 obtain ⟨j,h1,h2,h3,h4,h5⟩:=z67 he
 have hl:z.cps.toList.length=z.length:=by simp [K9m]
 rw [hl] at h1 h4 h5
 have hn:=z48
 exact tail_any (typeIs_str s z t) slot_str_getitem.lookup (getItem_str (c:=c) (by
  have e1:decide (i < -(2 ^ 63:Int))=false:=.(p) .(0)
  have e2:decide (i ≥ 2 ^ 63)=false:=.(p) .(0)
  rw [e1,e2,Bool.or_false]) (by rw [h1];simpa using h2) ⟨.str ⟨#[c]⟩,H,I.tok _,⟨_,rfl⟩,q⟩) hs
def rIx (K:K0):R2:=λx y H Q=>rIxL K x y H Q∨rIxT K x y H Q∨rIxS x y H Q
theorem zM1:IxR X (rIx X.K):=ix_list.or (ix_tup.or zD6)
theorem z7H (its:List Value) (n j:Nat) (u:Value):K58 (·.setIfInBounds j u) { cls:=.type "list",data:=.seq its.toArray n }={ cls:=.type "list",data:=.seq (its.set j u).toArray n }:=by
 simp [K58]
theorem Inv.lst {pins:List .(f)}{σ:St}{H:Hp}{s:Shared}{p:Addr}{xs:List V}(I:Inv X pins σ H s) (h:H p=.(l xs)) :
 ∃(its:List Value) (n:Nat),Vals xs its/\s.heap.get? p=some { cls:=.type "list",data:=.seq its.toArray n }/\xs.length≤sizeLine:=by
 obtain ⟨z,its,n,r,e⟩:=I.hok p _ h
 exact ⟨its,n,r,e,z⟩
theorem Inv.lstUpd {pins:List .(f)}{σ:St}{H:Hp}{s:Shared}{p:Addr}{xs ys:List V}{its its':List Value}{n n':Nat}{f:Obj->Obj}(I:Inv X pins σ H s) (h:H p=.(l xs))
 (ho:s.heap.get? p=some { cls:=.type "list",data:=.seq its.toArray n }) (hf:f { cls:=.type "list",data:=.seq its.toArray n }={ cls:=.type "list",data:=.seq its'.toArray n' }) (r:Vals ys its') (hz:ys.length≤sizeLine) (t:Nat) :
 Inv X pins σ (upd H p (.lst ys)) { s with heap:=s.heap.update p f,toks:=t }:=by
 have e:(s.heap.update p f).get? p=some { cls:=.type "list",data:=.seq its'.toArray n' }:=by
  rw [K3j f ho (by rw [hf]<;>rfl),hf]
 refine I.write (x:=p) (e:=p) (by rw [h];trivial) (.inl rfl) (λb u hb q=>(K2n _ _ (K34 hb)).trans q) ⟨_,e⟩ ?_
 exact ⟨hz,its',n',r,e⟩
def zP0:V->V->V->Hp->(Hp->Prop)->Prop:=λo i v H Q=>∃p xs k j,o=.ref p/\i=.int k/\H p=.(l xs)/\ixN xs.length k=some j/\Q (upd H p (.lst (xs.set j v)))
theorem set_list:PSet X zP0:=by
 intro pins s σ H o i v ov iv u Q I ro ri rv h
 obtain ⟨p,xs,k,j,rfl,rfl,hp,hj,q⟩:=h
 cases ro
 obtain ⟨t,rfl⟩:=ri
 obtain ⟨its,n,r,ho,hz⟩:=I.lst hp
 obtain ⟨h1,h2,h3,h4⟩:=z8Q hj
 have hl:=.(z)
 have hn:=z48
 have I':Inv X pins σ (upd H p (.lst (xs.set j v))) { s with heap:=s.heap.update p (K58 (·.setIfInBounds j u)) } :=
  I.lstUpd hp ho (z7H its n j u) (r.set rv j) (by rw [K2u];exact hz) s.toks
 by_cases h0:0≤k
 ·have hk:k.toNat=j:=by
   rw [Z0x h0 h4] at h1
   exact K10 h1
  exact PySem.W.ki_setAt ho h0 .(0) (by rw [K06,← hl];exact h4) (by rw [hk];exact ⟨_,I',q⟩)
 ·have hk:(k+(its.toArray.size:Int)).toNat=j:=by
   rw [Z0c .(0) h3] at h1
   rw [K06,← hl]
   exact K10 h1
  exact PySem.W.ki_setBack ho .(0) (by rw [K06,← hl];exact h3) .(0) (by rw [hk];exact ⟨_,I',q⟩)
theorem z5d (lo hi:Option Int) (n:Nat):(K5g lo hi none n).1=((HT.sIx n 0 lo:Nat):Int)/\(K5g lo hi none n).2.1=((HT.sIx n n hi:Nat):Int)/\(K5g lo hi none n).2.2=1:=by
 refine ⟨?_,?_,rfl⟩
 ·cases lo with
  | none=>simp [K5g,HT.sIx]
  | some i =>
   simp only [K5g,HT.sIx,Z0i,show (1:Int) > 0 by decide,if_true]
   by_cases h:i<0
   ·simp only [h,if_true]<;>omega
   ·simp only [h,if_false]<;>omega
 ·cases hi with
  | none=>simp [K5g,HT.sIx]
  | some i =>
   simp only [K5g,HT.sIx,Z0i,show (1:Int) > 0 by decide,if_true]
   by_cases h:i<0
   ·simp only [h,if_true]<;>omega
   ·simp only [h,if_false]<;>omega
theorem z4p (its:List Value) (lo hi:Option Int):slicePick its.toArray lo hi none=((its.drop (HT.sIx its.length 0 lo)).take (HT.sIx its.length its.length hi - HT.sIx its.length 0 lo)).toArray:=by
 obtain ⟨h1,h2,h3⟩:=z5d lo hi its.toArray.size
 unfold slicePick
 rw [h1,h2,h3]
 simp only [sliceRange_one,pick_run,K06]<;>rfl
def rSlL (K:K0):V->Option Int->Option Int->Hp->VK->Prop:=λx lo hi H Q=>∃a xs,x=.ref a/\SqL K H a xs/\∀p,H p=none->Q (.ref p) (upd H p (.lst (cutV xs lo hi)))
theorem sl_list:SlR X (rSlL X.K):=by
 intro pins s σ H x v vl vu lo hi sl Q I rx hs pl pu h
 obtain ⟨a,xs,rfl,hx,q⟩:=h
 cases rx
 obtain ⟨its,r,ht,hz⟩:=I.list hx
 have hlen:=.(z)
 refine ⟨"list",_,K9t.lookup,ht.isList.typeIs,?_⟩
 refine wpAny_getItem_list_slice ht.isList hs pl pu .none .(e) ?_ (by rw [K06]<;>omega)
 rw [z4p,← hlen]
 refine ⟨.ref .(3),_,I.laid (t':=s.toks) (o:=.lst (cutV xs lo hi)) (λb ob q=>K7 _ q) (K05 _) ?_,rfl,q _ (I.hok.fresh (K05 _))⟩
 exact ⟨K0r (z3L xs lo hi) hz,_,0,(r.drop (HT.sIx xs.length 0 lo)).take (HT.sIx xs.length xs.length hi - HT.sIx xs.length 0 lo),K0a _ rfl⟩
def z3U:V->Bool
 | .non=>true
 | .bl _=>true
 | .int _=>true
 | .str _=>true
 | _=>false
def eqV:V->V->Bool
 | .non,.non=>true
 | .bl a,.bl b=>a==b
 | .bl a,.int b=>(if a then 1 else 0)==b
 | .int a,.bl b=>a==(if b then 1 else 0)
 | .int a,.int b=>a==b
 | .str a,.str b=>a==b
 | _,_=>false
theorem zJ6 {A:Around}{s:Shared}{y x:V}{u v:Value}(ry:RelV y u) (rx:RelV x v) (fy:z3U y=true) (fx:z3U x=true):K6o A s u v (eqV y x):=by
 cases y with
 | non =>
  cases ry
  cases x with
  | non=>cases rx;exact K6o.same _
  | bl b=>cases rx;exact K6o.none_bool b
  | int b=>obtain ⟨t,rfl⟩:=rx;exact K6o.none_int b t
  | str b=>obtain ⟨t,rfl⟩:=rx;exact K6o.none_str b t
  | _=>exact absurd (show false=true from fx) K17
 | bl a =>
  cases ry
  cases x with
  | non=>cases rx;exact K6o.bool_none a
  | bl b=>cases rx;exact K6o.bool_bool a b
  | int b=>obtain ⟨t,rfl⟩:=rx;exact K6o.bool_int a b t
  | str b=>obtain ⟨t,rfl⟩:=rx;exact K6o.bool_str a b t
  | _=>exact absurd (show false=true from fx) K17
 | int a =>
  obtain ⟨t',rfl⟩:=ry
  cases x with
  | non=>cases rx;exact K6o.int_none a t'
  | bl b=>cases rx;exact K6o.int_bool a t' b
  | int b=>obtain ⟨t,rfl⟩:=rx;exact K6o.int_int a t' b t
  | str b=>obtain ⟨t,rfl⟩:=rx;exact K9l a t' b t
  | _=>exact absurd (show false=true from fx) K17
 | str a =>
  obtain ⟨t',rfl⟩:=ry
  cases x with
  | non=>cases rx;exact K6o.str_none a t'
  | bl b=>cases rx;exact K6o.str_bool a t' b
  | int b=>obtain ⟨t,rfl⟩:=rx;exact K9k a t' b t
  | str b=>obtain ⟨t,rfl⟩:=rx;exact K6o.str_str a t' b t
  | _=>exact absurd (show false=true from fx) K17
 | _=>exact absurd (show false=true from fy) K17
def eqU (x:V) (u:Value):Bool:=match u with
 | .none=>eqV .non x
 | .bool b=>eqV (.bl b) x
 | .int i _=>eqV (.int i) x
 | .str z _=>eqV (.str z) x
 | _=>false
theorem zn5 {x y:V}{u:Value}(r:RelV y u) (f:z3U y=true):eqU x u=eqV y x:=by
 cases y with
 | non=>cases r;rfl
 | bl b=>cases r;rfl
 | int i=>obtain ⟨t,rfl⟩:=r;rfl
 | str z=>obtain ⟨t,rfl⟩:=r;rfl
 | _=>exact absurd (show false=true from f) K17
theorem z3d {x:V}:∀{xs:List V}{us:List Value},Vals xs us->xs.all z3U=true->us.any (eqU x)=xs.any λy=>eqV y x
 | _,_,.nil,_=>rfl
 | y::xs,u::us,.cons r t,f=>by
  rw [K4h,K0h] at f
  rw [K2d,K2d,zn5 r f.1,z3d t f.2]
theorem z2p {A:Around}{s:Shared}{x:V}{v:Value}(rx:RelV x v) (fx:z3U x=true):∀{xs:List V}{us:List Value},Vals xs us->xs.all z3U=true->∀u∈us,K6o A s u v (eqU x u)
 | _,_,.nil,_=>λu hu=>by cases hu
 | y::xs,u::us,.cons r t,f=>λu' hu=>by
  rw [K4h,K0h] at f
  rcases K0x.mp hu with rfl|hu
  ·rw [zn5 r f.1];exact zJ6 r rx f.1 fx
  ·exact z2p rx fx t f.2 u' hu
def inV (x:V) (xs:List V):Bool:=xs.any λy=>eqV y x
def rIn (K:K0) (neg:Bool):R2:=λx y H Q=>∃p xs,y=.ref p/\(SqL K H p xs∨SqT K H p xs)/\z3U x=true/\xs.all z3U=true/\Q (.bl (if neg then !inV x xs else inV x xs)) H
theorem z99:OpR X (K1y .In) (rIn X.K false):=by
 intro pins s σ H x y v u Q I rx ry h
 obtain ⟨p,xs,rfl,hq,fx,fs,q⟩:=h
 cases ry
 rcases hq with hq|hq
 ·obtain ⟨its,r,pl,hz⟩:=I.list hq
  refine SeqAt.in_listAt (eqU x) pl.isList (λw hw=>z2p rx fx r fs w (by simpa using hw)) ⟨.bl _,H,I,rfl,?_⟩
  rw [show its.toArray.any (eqU x)=its.any (eqU x) by simp,z3d r fs]
  exact q
 ·obtain ⟨its,r,pl,hz⟩:=I.tuple hq
  refine SeqAt.in_tupleAt (eqU x) pl (λw hw=>z2p rx fx r fs w (by simpa using hw)) ⟨.bl _,H,I,rfl,?_⟩
  rw [show its.toArray.any (eqU x)=its.any (eqU x) by simp,z3d r fs]
  exact q
theorem z5F:OpR X (K1y .NotIn) (rIn X.K true):=by
 intro pins s σ H x y v u Q I rx ry h
 obtain ⟨p,xs,rfl,hq,fx,fs,q⟩:=h
 cases ry
 rcases hq with hq|hq
 ·obtain ⟨its,r,pl,hz⟩:=I.list hq
  refine SeqAt.notIn_listAt (eqU x) pl.isList (λw hw=>z2p rx fx r fs w (by simpa using hw)) ⟨.bl _,H,I,rfl,?_⟩
  rw [show its.toArray.any (eqU x)=its.any (eqU x) by simp,z3d r fs]
  exact q
 ·obtain ⟨its,r,pl,hz⟩:=I.tuple hq
  refine SeqAt.notIn_tupleAt (eqU x) pl (λw hw=>z2p rx fx r fs w (by simpa using hw)) ⟨.bl _,H,I,rfl,?_⟩
  rw [show its.toArray.any (eqU x)=its.any (eqU x) by simp,z3d r fs]
  exact q
theorem z51:z2q X (.type "tuple") (λxs H Q=>∃p ys,xs=[.ref p]/\((SqL X.K H p ys/\∀l,H l=none->Q (.ref l) (upd H l (.tup ys)))∨(SqT X.K H p ys/\Q (.ref p) H))):=by
 intro pins s σ H xs us Q I r h
 obtain ⟨p,ys,rfl,h⟩:=h
 obtain ⟨u,rfl,rx⟩:=vals1 r
 cases rx
 rcases h with ⟨hq,q⟩|⟨hq,q⟩
 ·obtain ⟨its,r',pl,hz⟩:=I.list hq
  have hlen:=r'.length
  refine call_tuple_list pl.isList (λh' kp=>?_) (by simp only [K06]<;>omega)
  have I1:Inv X pins σ H { s with heap:=h' }:=I.kept (t':=s.toks) kp
  have I2:Inv X pins σ (upd H h'.objs.size (.tup ys)) { s with heap:=h'.push { cls:=.type "tuple",data:=.seq its.toArray } } :=
   I1.laid (t':=s.toks) (λb o e=>K7 _ e) (K05 _) (show ObjOk X.prog X.w _ _ _ (.tup ys) from ⟨hz,its,r',FT.IsTup0.new _ _⟩)
  exact ⟨.ref h'.objs.size,_,I2,rfl,q _ (I1.hok.fresh (K05 _))⟩
 ·obtain ⟨its,r',pl,hz⟩:=I.tuple hq
  exact call_tuple_same pl ⟨.ref p,H,I,rfl,q⟩
def tyV (K:K0) (T:String) (x:V) (H:Hp):Prop:=match x with
 | .str _=>T = "str"
 | .int _=>T = "int"
 | .ref p=>(T = "list"/\∃xs,SqL K H p xs)∨(T = "tuple"/\∃o,K.lookup p=some o/\o.cls=.type "tuple"/\o.dict=none) ∨
  (T = "dict"/\((∃kvs,H p=some (.dK kvs))∨∃kvs,H p=some (.dT kvs)))∨(T = "set"/\∃ks,H p=some (.set ks))
 | _=>False
theorem zA8 {pins:List .(f)}{σ:St}{H:Hp}{s:Shared}{T:String}{x:V}{v:Value}(I:Inv X pins σ H s) (r:RelV x v) (ty:tyV X.K T x H) :
 s.TypeIs v T/\∀a,v=.ref a->∃ob,s.heap.get? a=some ob/\ob.dict=none:=by
 cases x with
 | str z =>
  obtain ⟨t,rfl⟩:=r
  cases (show T = "str" from ty)
  exact ⟨typeIs_str s z t,λ_ e=>nomatch e⟩
 | int i =>
  obtain ⟨t,rfl⟩:=r
  cases (show T = "int" from ty)
  exact ⟨K8d s i t,λ_ e=>nomatch e⟩
 | ref p =>
  cases r
  rcases ty with ⟨rfl,xs,hq⟩|⟨rfl,o,hk,hc,hd⟩|⟨rfl,hk⟩|⟨rfl,ks,hk⟩
  ·obtain ⟨its,_,pl,_⟩:=I.list hq
   refine ⟨pl.isList.typeIs,λa e=>?_⟩
   cases e
   obtain ⟨o,n,e,c,hd,_⟩:=pl
   exact ⟨o,e,hd⟩
  ·refine ⟨⟨o,I.kIn p o hk,hc⟩,λa e=>?_⟩
   cases e
   exact ⟨o,I.kIn _ o hk,hd⟩
  ·have z:∃o,s.heap.get? p=some o/\o.ExactDict:=by
    rcases hk with ⟨kvs,hk⟩|⟨kvs,hk⟩
    ·obtain ⟨_,_,_,_,o,_,_,e,ex,_⟩:=I.hok p _ hk
     exact ⟨o,e,ex⟩
    ·obtain ⟨_,_,_,_,o,_,_,e,ex,_⟩:=I.hok p _ hk
     exact ⟨o,e,ex⟩
   obtain ⟨o,e,ex⟩:=z
   refine ⟨⟨o,e,ex.1⟩,λa e2=>?_⟩
   cases e2
   exact ⟨o,e,ex.2.1⟩
  ·obtain ⟨o,_,_,_,_,e,ex,_⟩:=I.hok p _ hk
   refine ⟨⟨o,e,ex.1⟩,λa e2=>?_⟩
   cases e2
   exact ⟨o,e,ex.2.1⟩
 | _=>exact K1q ty
def tBM (K:K0) (T:String) (r:V->List V->Hp->VK->Prop) (to:TE) (t:TA):TE:=λσ H Q=>to σ H λx H1=>tyV K T x H1/\t σ H1 λxs H2=>r x xs H2 Q
variable {o e:Expr}{es:List Expr}{to:TE}{t:TA}{name:Str}{apos cpos:Pos}{T id:String}{r:V->List V->Hp->VK->Prop}
theorem ze6 (pa:PlainAttrs T) (slot:Slot T name id) (hty:typeOf (.builtin id)=pure (.type "method_descriptor")) (hm:MtR X id r) (ho:PE X o to) (ha:PA X (e::es) t)
 (hbase:K4k o name X.env (eval o X.env)=eval o X.env:=by rfl)
 (hfew:((backTo cpos (K03 (e::es) X.env)).all (λx=>!x.1)&&(K80 cpos (K5h [] X.env)).all (λx=>x.1.isSome)
 &&decide ((e::es).length+([]:List K4a).length+(if ([]:List K4a).isEmpty then 0 else 1)<30))=true:=by rfl)
 (hline:(apos.endLine==cpos.line)=true:=by rfl) (hs:K03 (e::es) X.env=(false,eval e X.env)::K03 es X.env:=by rfl) (hplain:(backTo cpos (K03 es X.env)).any (·.1)=false:=by rfl) :
 PE X (.Call (.Attribute o name apos) (e::es) [] cpos) (tBM X.K T r to t):=by
 intro pins s σ H Q I h
 refine K8k hbase hfew hline rfl (thn (ho pins s σ H _ I h) λv s1 ⟨x,H1,I1,r1,ty,q1⟩=>?_)
 obtain ⟨h1,h2⟩:=zA8 I1 r1 ty
 refine ⟨T,id,pa,slot,hty,h1,h2,?_⟩
 have hA:=ha cpos pins s1 σ H1 _ I1 q1
 rw [hs] at hA ⊢
 refine K8g (by show (false||(backTo cpos (K03 es X.env)).any (·.1))=false;rw [hplain]<;>rfl) (K68 ?_)
 exact thn hA λus s2 ⟨vs,H2,I2,r2,q2⟩=>hm pins s2 σ H2 x vs v us Q I2 r1 r2 q2
end
def MtM (X:Cx) (id:String) (r:V->List V->Hp->VK->Prop):Prop :=
 ∀(pins:List .(f)) (s:Shared) (σ:St) (H:Hp) (x:V) (xs:List V) (v:Value) (us:List Value) (Q:VK),Inv X pins σ H s->RelV x v->Vals xs us->r x xs H Q ->
  wpAny .(4) X.A (call (.builtin id) (v::us)) (EP X pins σ Q) X.xe s
theorem Vals.one:∀{x:V}{us:List Value},Vals [x] us->∃u,us=[u]/\RelV x u
 | _,_,.cons r .nil=>⟨_,rfl,r⟩
theorem Vals.eraseIdx:∀{xs:List V}{us:List Value}(i:Nat),Vals xs us->Vals (xs.eraseIdx i) (us.eraseIdx i)
 | _,_,_,.nil=>.nil
 | _,_,0,.cons _ t=>t
 | _,_,i+1,.cons r t=>.cons r (Vals.eraseIdx i t)
theorem Vals.rep {xs:List V}{us:List Value}(h:Vals xs us):∀k:Nat,Vals (K0c k xs).flatten (K0c k us).flatten
 | 0=>.nil
 | k+1=>by
  rw [K2s,K2s,K3p,K3p]
  exact Vals.append h (Vals.rep h k)
theorem z59 {α:Type}:∀(l:List α) (i:Nat),(l.eraseIdx i).length≤l.length
 | [],_=>K05 _
 | _::_,0=>K5e _
 | _::r,i+1=>Nat.succ_le_succ (z59 r i)
theorem foldl_rep (its:List Value):∀(k:Nat) (acc:List Value),
 K62 (λx1 x2=>x1++x2) acc.toArray (K0c k its.toArray)=(acc++(K0c k its).flatten).toArray
 | 0,acc=>by simp
 | k+1,acc=>by
  have e:acc.toArray++its.toArray=(acc++its).toArray:=by simp
  have e2:(acc++its)++(K0c k its).flatten=acc++(K0c (k+1) its).flatten:=by
   rw [K2s,K3p,K0b]
  rw [← e2,← foldl_rep its k (acc++its),← e,K2s,K4d]
section
variable {X:Cx}{pins:List (Addr×Obj)}{σ:St}{H:Hp}{s:Shared}{l b:Addr}{xs ys zs:List V}
theorem Inv.lset {its its':List Value}{n:Nat}{f:Array Value->Array Value}{t':Nat}(I:Inv X pins σ H s) (hH:H l=.(l xs))
 (e:s.heap.get? l=some { cls:=.type "list",data:=.seq its.toArray n }) (hf:f its.toArray=its'.toArray) (hv:Vals ys its') (hz:ys.length≤sizeLine) :
 Inv X pins σ (upd H l (.lst ys)) { s with heap:=s.heap.update l (K58 f),toks:=t' }:=by
 have q:=PySem.IsL.update e f
 rw [hf] at q
 refine I.write (x:=l) (e:=l) (by rw [hH];exact trivial) (.inl rfl) (λb' u hb hu=>(K2n s.heap (K58 f) (K34 hb)).trans hu) ⟨_,q⟩ ?_
 exact ⟨hz,its',_,hv,q⟩
theorem Inv.lnew {its:List Value}{t':Nat}(I:Inv X pins σ H s) (hv:Vals ys its) (hz:ys.length≤sizeLine) :
 Inv X pins σ (upd H .(3) (.lst ys)) { s with heap:=s.heap.push { cls:=.type "list",data:=.seq its.toArray },toks:=t' } :=
 I.laid (λ_ _ q=>K7 _ q) (K05 _) ⟨hz,its,0,hv,K0a _ rfl⟩
theorem Inv.fresh (I:Inv X pins σ H s):H s.heap.objs.size=none:=I.hok.fresh (K05 _)
theorem Inv.lstM (I:Inv X pins σ H s) (hH:H l=.(l xs)):xs.length≤sizeLine/\∃(its:List Value) (n:Nat),Vals xs its/\xs.length=its.length/\s.heap.get? l=some { cls:=.type "list",data:=.seq its.toArray n }:=by
 obtain ⟨z,its,n,r,e⟩:=I.hok l _ hH
 exact ⟨z,its,n,r,.(z),e⟩
theorem zc4 {n:Nat}(h:n≤sizeLine):K51 n=false:=by
 unfold K51
 exact .(p) .(0)
end
section
variable {X:Cx}
def zv9:V->List V->Hp->VK->Prop:=λx vs H Q=>∃l xs y,x=.ref l/\vs=[y]/\H l=.(l xs)/\xs.length<sizeLine/\Q .non (upd H l (.lst (xs++[y])))
theorem z55:MtM X "list.append" zv9:=by
 intro pins s σ H x vs v us Q I rx rv h
 obtain ⟨l,xs,y,rfl,rfl,hH,hz,q⟩:=h
 cases rx
 obtain ⟨u,rfl,ru⟩:=rv.one
 obtain ⟨z,its,n,r,hl,e⟩:=I.lstM hH
 refine K48 F.slot_list_append ⟨_,e,rfl⟩ F.entry_list_append (F.args_list_append_2 _ _) (PySem.list_append l its.toArray n u (by rw [K06];omega)) ⟨e,?_⟩
 refine ⟨.non,_,I.lset (its':=its++[u]) hH e .(e) (r.append (.cons ru .nil)) ?_,rfl,q⟩
 rw [K01,K4l]
 omega
def zL4:V->List V->Hp->VK->Prop:=λx vs H Q=>∃l xs i k y,x=.ref l/\vs=[.int i]/\H l=.(l xs)/\-(2 ^ 63)≤i/\i<2 ^ 63/\K5f i xs.length=some k/\xs[k]?=some y/\Q y (upd H l (.lst (xs.eraseIdx k)))
theorem zd0:MtM X "list.pop" zL4:=by
 intro pins s σ H x vs v us Q I rx rv h
 obtain ⟨l,xs,i,k,y,rfl,rfl,hH,h1,h2,hk,hy,q⟩:=h
 cases rx
 obtain ⟨u,rfl,ru⟩:=rv.one
 obtain ⟨t,rfl⟩:=ru
 obtain ⟨z,its,n,r,hl,e⟩:=I.lstM hH
 obtain ⟨w,hw,rw'⟩:=r.get hy
 refine K48 F.slot_list_pop ⟨_,e,rfl⟩ F.entry_list_pop (F.args_list_pop_2 _ _)
  (MeetsSeq.list_pop_at l its.toArray n i t k w (fitsIndex_both h1 h2) (by rw [K06,← hl];exact hk) (by rw [← K3h];exact hw) (by rw [K06];omega)) ⟨e,?_⟩
 refine ⟨y,_,I.lset (its':=its.eraseIdx k) hH e ?_ (r.eraseIdx k) ?_,rw',q⟩
 ·show its.toArray.eraseIdxIfInBounds k=(its.eraseIdx k).toArray
  rw [List.eraseIdxIfInBounds_toArray]
 ·have:=z59 xs k
  omega
def rCat:R2:=λx y H Q=>∃l b xs zs,x=.ref l/\y=.ref b/\H l=.(l xs)/\H b=.(l zs)/\xs.length+zs.length≤sizeLine/\∀p,H p=none->Q (.ref p) (upd H p (.lst (xs++zs)))
theorem op_cat:OpR X (K3g .Add) rCat:=by
 intro pins s σ H x y v u Q I rx ry h
 obtain ⟨l,b,xs,zs,rfl,rfl,hH,hB,hz,q⟩:=h
 cases rx
 cases ry
 obtain ⟨z,its,n,r,hl,e⟩:=I.lstM hH
 obtain ⟨z2,its2,n2,r2,hl2,e2⟩:=I.lstM hB
 refine PySem.P.add_list e e2 ?_ (by rw [K06,K06];omega)
 have ea:its.toArray++its2.toArray=(its++its2).toArray:=by simp
 rw [ea]
 exact ⟨.ref _,_,I.lnew (t':=s.toks) (r.append r2) (by rw [K01];omega),rfl,q _ I.fresh⟩
def rRep:R2:=λx y H Q=>∃l k xs,x=.ref l/\y=.int k/\H l=.(l xs)/\-(2 ^ 63)≤k/\k<2 ^ 63/\xs.length * k.toNat≤sizeLine /\
 ∀p,H p=none->Q (.ref p) (upd H p (.lst (K0c k.toNat xs).flatten))
theorem len_rep {α:Type}(xs:List α) (k:Nat):(K0c k xs).flatten.length=k * xs.length:=by
 induction k with
 | zero=>simp
 | succ k ih=>rw [K2s,K3p,K01,ih,Nat.succ_mul,Nat.add_comm]
theorem zE0:OpR X (K3g .Mult) rRep:=by
 intro pins s σ H x y v u Q I rx ry h
 obtain ⟨l,k,xs,rfl,rfl,hH,h1,h2,hz,q⟩:=h
 cases rx
 obtain ⟨t,rfl⟩:=ry
 obtain ⟨z,its,n,r,hl,e⟩:=I.lstM hH
 have hlen:its.toArray.size * k.toNat≤sizeLine:=by rw [K06,← hl];exact hz
 have hcap:¬ its.toArray.size * k.toNat > (2 ^ 63 - 1) / 8:=by
  have:(sizeLine:Nat)≤(2 ^ 63 - 1) / 8:=by decide
  omega
 have hfit:¬ (!Builtin.List.listFitsIndex k)=true:=by
  rw [fitsIndex_both h1 h2]
  exact K17
 have hlong:¬ K51 (its.toArray.size * k.toNat)=true:=by
  rw [zc4 hlen]
  exact K17
 have hnew:K62 (λx1 x2=>x1++x2) #[] (K0c (if its.toArray.isEmpty=true then 0 else k.toNat) its.toArray)=(K0c k.toNat its).flatten.toArray:=by
  have f0:∀m:Nat,K62 (λx1 x2=>x1++x2) #[] (K0c m its.toArray)=(K0c m its).flatten.toArray:=λm=>by
   have:=foldl_rep its m []
   rw [K8p] at this
   exact this
  rw [f0]
  cases its with
  | nil=>simp
  | cons a r'=>rw [if_neg .(e)]
 refine K76 (T:="list") (U:="int") .(1) ⟨_,e,rfl⟩ (λs'=>K8d s' k t) noFill_list_mul F.fills_int_mul F.slot_int_rmul repeat_list F.slot_int_index.lookup
  (K48 F.slot_int_rmul (K8d s k t) F.entry_int_rmul (F.args_int_rmul_2 _ _) (int___rmul___int_list k t l its.toArray n)
   ⟨e,rfl,⟨_,e,rfl⟩,K48 F.slot_list_mul ⟨_,e,rfl⟩ F.entry_list_mul (F.args_list_mul_2 _ _) (AutoListH.list___mul___list_int_3 l its.toArray n k t hfit hcap hlong) ⟨e,?_⟩⟩)
 rw [hnew]
 exact ⟨.ref _,_,I.lnew (t':=s.toks) (r.rep k.toNat) (by rw [len_rep,K6i];exact hz),rfl,q _ I.fresh⟩
end
section
variable {prog:K0m}{w:World}{A:Around}{E:Value->Shared->Prop}{s:Shared}
end
section
variable {X:Cx}
end
end L2
namespace Att
open PySem PySem.W PySem.Calls PyProof.Rows
theorem z3M {P:Params}{h:Heap}:∀(ns:List Int) (vs:List Value),WellAll P h vs (ns.map WData.int)->K5r vs ns:=by
 intro ns
 induction ns with
 | nil =>
  intro vs w
  rw [K4u] at w
  cases w
  exact .nil
 | cons n ns ih =>
  intro vs w
  rw [K0q] at w
  cases w with
  | cons a b =>
   cases a
   exact .cons _ _ (ih _ b)
theorem z9I {l:OpenLaw}{n:Nat}(hn:l.most=some n) {P:Params}{h:Heap}{args:List WData}{vals:List Value}
 (hpre:l.row.toRowW.claim.pre args=true) (hwl:WellAll P h vals args) :
 ∃a vs ns,vals=[K1j a]/\args=[WData.list (ns.map WData.int)]/\h.get? a=some { cls:=.type "list",data:=.seq vs.toArray }/\K5r vs ns/\ns.length≤n:=by
 have hsh:WShape.hasAll [] args [.list .int]=true:=(pre_splitW hpre).1
 have hc:l.pre.holds [] { args:=args }=true:=(pre_splitW hpre).2
 obtain ⟨d,r,rfl,h1,h2⟩:=hasAllW_cons hsh
 obtain rfl:=hasAllW_nil h2
 obtain ⟨xs,rfl,h3⟩:=hasW_list h1
 obtain ⟨ns,rfl⟩:=items_int h3
 have hlen:ns.length≤n:=by
  unfold OpenLaw.pre at hc
  have h4:(WTm.not (.lt (.lit (.int (n:Int))) (.len (.arg 0)))).holds [] { args:=[.list (ns.map .int)] }=true:=by
   have h4:=(holds_andW hc).1
   rw [hn] at h4
   exact h4
  have h5:=condW_of h4 (w_not (w_lt w_lit (w_len_list (w_arg rfl))))
  rw [K02] at h5
  refine Nat.le_of_not_lt λq=>?_
  have q':(n:Int)<((ns.length:Nat):Int):=by omega
  first
   | (rw [decide_eq_true q'] at h5;exact absurd h5 .(1))
   | (simp at h5;omega)
 cases hwl with
 | cons w1 w2 =>
  cases w2
  cases w1 with
  | list ho hall=>exact ⟨_,_,ns,rfl,rfl,ho,z3M ns _ hall,hlen⟩
theorem z8m (l:OpenLaw) (args:List WData):l.row.toRowW.claim.post args (.bool true) args=true :=
 postW_of (r:=l.row.toRowW) (X:=(true==true))
  (show WShape.has [] (.bool true) .bool=true by first|rfl|decide|simp [WShape.has,WShape.arms,WShape.armsAll])
  (show (WTm.eq .res (.lit (.bool true))).value [] { args:=args,res:=some (.bool true),after:=args }=some (.bool (true==true)) from w_eq_bool (w_res rfl) w_lit) rfl
theorem attach_call {l:OpenLaw}{n:Nat}{q:K0m}{loose:List Str}{XP:(Str->Option Value)->Heap->Prop}{YP:World->Heap->Prop}{d:DefRec}
 (hn:l.most=some n) (hdf:d.params.defaults=[])
 (call:∀(w:World) (s₀ s₁:Shared) (mg mb:Str->Option Value) (fa:Addr) (o:Obj) (pm cd doc:Value) (a:Addr) (vs:List Value) (ns:List Int),
  Ground q loose [] XP w s₀ mg mb s₁.heap->YP w s₁.heap ->
  s₁.heap.get? fa=some o->o.data=.func (docDef d.name d.params d.body d.scope pm cd doc)->s₁.heap.CodeRec cd d.name->mg d.name=.(r fa) ->
  s₁.heap.get? a=some { cls:=.type "list",data:=.seq vs.toArray }->K5r vs ns->ns.length≤n->s₁.gens = #[] ->
  K4x (model l.prog w) K8b (.call (.ref fa) ⟨[.ref a],[]⟩) (λr s'=>r=.ok (.ret (.bool true))/\OldK s₁.heap s'.heap/\s'.os=s₁.os/\K5s s'.gens) s₁) :
 WalkO q loose XP YP l.row.toRowW d [] (λf vs=>Z16 f vs):=by
 intro w s₀ s₁ mg mb G Y fa o pm cd doc dV kV ho hd hcd hD hmg hg args vals as hpre hlay hrd hwl hlo
 obtain rfl:dV=.none:=Dflts.none hD hdf
 obtain rfl:kV=.none:=Dflts.noKw hD
 obtain ⟨a,vs,ns,rfl,rfl,hobj,hints,hlen⟩:=z9I hn hpre hwl
 refine enter_call (K3t (call w s₀ s₁ mg mb fa o pm cd doc a vs ns G Y ho (fd_plain hd) hcd hmg hobj hints hlen hg) λr s' hq=>?_)
 obtain ⟨rfl,h2,h3,h4⟩:=hq
 exact ⟨.inl ⟨.bool true,.bool true,[],rfl,λ_=>rfl,.bool true,z8m l _,λ_=>⟨List.Pairwise.nil,λ_ hm=>(nomatch hm)⟩⟩,h2,h3,h4⟩
section
variable {prog:K0m}{w:World}{A:Around}{E:Value->Shared->Prop}{s:Shared}{K:Frag}
end
end Att
namespace L2
theorem z3w:∀{vs:List Value}{ns:List Int},K5r vs ns->Vals (ns.map V.int) vs
 | _,_,.nil=>.nil
 | _,_,.cons n t h=>.cons ⟨t,rfl⟩ (z3w h)
def Only (H:Hp):Prop:=∀b,H b=none∨∃o xs,H b=some (.frz o (.lst xs))
theorem ze2 {P:K0m}{w:World}{K:K0}{mg mb:Str->Option Value}{CX:CXT}{k:Nat}{fa a:Addr}{fd:K2q}{x:Str}{sp:Sp}{s₁:Shared}{vs:List Value}{ns:List Int}
 (KX:K.In s₁.heap) (hns:s₁.heap.Ns K1l mg) (hb:s₁.heap.Ns builtinsNs mb) (hbb:∀x:Str,x≠"__name__"->mb x=K49 x) (hlim:s₁.heap.NoLimit) (hg:s₁.gens = #[])
 (ha:s₁.heap.get? a=some { cls:=.type "list",data:=.seq vs.toArray }) (hi:K5r vs ns) (hl:ns.length≤sizeLine) (hr:Room k K8b)
 (F:∀base:Heap,K.In base->base.Ns K1l mg->FnOk P w K mg base CX k fa fd [x] sp) (hbind:∀(s:Shared) (u:Value),Z08 s fd ⟨[u],[]⟩ [(x,u)])
 (hsp:∀H:Hp,Only H->SqL K H a (ns.map V.int)->sp [.ref a] H (λv _=>v=.bl true) λ_ _ _=>False)
 (hCX:∀H e s',CX [] H s₁ (λ_ _ _=>False) e s'->False) :
 K4x (model P w) K8b (.call (.ref fa) ⟨[.ref a],[]⟩) (λr s'=>r=.ok (.ret (.bool true))/\OldK s₁.heap s'.heap/\s'.os=s₁.os/\K5s s'.gens) s₁:=by
 have rv:=z3w hi
 have lenV:=hi.length
 have core:∀H:Hp,Only H->SqL K H a (ns.map V.int)->HOk P w H s₁.heap->(∀b,H b≠none->b=a)->(H a≠none->K.lookup a=none) ->
  K4x (model P w) K8b (.call (.ref fa) ⟨[.ref a],[]⟩) (λr s'=>r=.ok (.ret (.bool true))/\OldK s₁.heap s'.heap/\s'.os=s₁.os/\K5s s'.gens) s₁:=by
  intro H hO hS hok hA hK
  have base_of:∀{b:Addr} {o:Obj},s₁.heap.get? b=some o->H b=none->(hidT s₁.heap H).get? b=some o:=λe n=>zi0 e n
  have noA:∀{b:Addr} {o:Obj} {es:Array Z0o} {ep:Nat},s₁.heap.get? b=some o->o.data=.dict es ep->H b=none:=λ{b o es ep} e d=>by
   cases q:H b with
   | none=>rfl
   | some u =>
    have e':b=a:=hA b (by rw [q];simp)
    subst e'
    rw [ha] at e;cases e
    have d':Z15 vs.toArray _=Data.dict es ep:=d
    cases d'
  have nsK:∀{b:Addr} {m:Str->Option Value},s₁.heap.Ns b m->(hidT s₁.heap H).Ns b m:=λ{b m} ⟨o,es,ep,e,d,r⟩=>⟨o,es,ep,base_of e (noA e d),d,r⟩
  have hKb:K.In (hidT s₁.heap H):=λb o e=>base_of (KX b o e) (by
   cases q:H b with
   | none=>rfl
   | some u =>
    have e':b=a:=hA b (by rw [q];simp)
    subst e'
    rw [hK (by rw [q];simp)] at e;cases e)
  have hM:Mod K mg (hidT s₁.heap H):=⟨hKb,nsK hns,⟨mb,nsK hb,hbb⟩,let ⟨mc,h1,h2⟩:=hlim;⟨mc,nsK h1,h2⟩⟩
  have e0:Env0 P w K mg (hidT s₁.heap H) K8b [] s₁ H:=⟨rfl,hM,λb o e=>zq1 e,K6j (z8F _ _),trivial,λb hb=>absurd (show b∈([]:List Addr) from hb) .(e),hok,.of_eq hg⟩
  refine K3t ((F _ hKb (nsK hns)).run K8b [] s₁ H ⟨[.ref a],[]⟩ [.ref a] [.ref a] _ _ hr e0 (hbind s₁ (.ref a)) (.cons rfl .nil) (hsp H hO hS)) λr s' h=>?_
  cases r with
  | error e=>exact (hCX H e s' h).elim
  | ok fl =>
   cases fl with
   | next=>exact K1q h
   | brk=>exact K1q h
   | cont=>exact K1q h
   | ret u =>
    obtain ⟨v,H',os,bare,un,hok',r',q⟩:=h
    have q':v=.bl true:=q
    subst q'
    obtain rfl:u=K6n true:=r'
    refine ⟨rfl,OldK.of_keep λb o e=>?_,os,bare⟩
    cases q:H b with
    | none=>exact un.keep b o e q (by intro z;exact absurd (show b∈([]:List Addr) from z) .(e)) .(e)
    | some u =>
     rcases hO b with z|⟨ob,xs,z⟩
     ·rw [q] at z;cases z
     ·have z2:=un.frzs b ob _ z
      obtain ⟨e1,_⟩:=hok b _ z
      obtain ⟨e2,_⟩:=hok' b _ z2
      rw [e] at e1;cases e1
      exact e2
 cases hk:K.lookup a with
 | some o =>
  have e:=KX a o hk
  rw [ha] at e
  cases e
  refine core (λ_=>none) (λ_=>.inl rfl) (.inr ⟨_,vs.toArray,_,hk,rfl,rfl,rfl,by rw [K06,lenV];exact hl,by simpa using rv⟩) (λb u z=>by have z':(none:Option HO)=some u:=z;cases z') (λb z=>absurd rfl z) λz=>absurd rfl z
 | none =>
  refine core (λb=>if b=a then some (.frz { cls:=.type "list",data:=.seq vs.toArray } (.lst (ns.map V.int))) else none) (λb=>?_) (.inl (.inr ⟨{ cls:=.type "list",data:=.seq vs.toArray },if_pos rfl⟩)) (λb u z=>?_) (λb z=>?_) λ_=>hk
  ·by_cases hb:b=a
   ·exact .inr ⟨_,_,if_pos hb⟩
   ·exact .inl (if_neg hb)
  ·by_cases hb:b=a
   ·have z':=(if_pos hb).symm.trans z
    cases z'
    subst hb
    exact ⟨ha,by rw [K02];exact hl,vs,_,rv,ha⟩
   ·have z':=(if_neg hb).symm.trans z
    cases z'
  ·by_cases hb:b=a
   ·exact hb
   ·exact absurd (if_neg hb) z
abbrev KOf {K:K0} {h:Heap} (_:K.In h):K0:=K
theorem walk_of {l:Z10}{n k:Nat}{q:K0m}{loose:List Str}{XP:(Str->Option Value)->Heap->Prop}{YP:World->Heap->Prop}{d:DefRec}{K:Params->K0}{CX:World->CXT}{sp:World->Sp}{x:Str}
 (hn:l.most=some n) (hn2:n≤sizeLine) (hdf:d.params.defaults=[]) (hr:Room k K8b)
 (hY:∀(w:World) (h:Heap),YP w h->(K w.params).In h)
 (F:∀(w:World) (mg:Str->Option Value) (fa:Addr) (h:Heap),(K w.params).In h->h.Ns K1l mg->mg d.name=.(r fa) ->
  ∃fd:K2q,(∀(s:Shared) (u:Value),Z08 s fd ⟨[u],[]⟩ [(x,u)]) /\
   ∀base:Heap,(K w.params).In base->base.Ns K1l mg->FnOk l.prog w (K w.params) mg base (CX w) k fa fd [x] (sp w))
 (hsp:∀(w:World) (H:Hp) (a:Addr) (ns:List Int),ns.length≤n->Only H->SqL (K w.params) H a (ns.map V.int)->sp w [.ref a] H (λv _=>v=.bl true) λ_ _ _=>False)
 (hCX:∀(w:World) (H:Hp) (s:Shared) (e:Value) (s':Shared),CX w [] H s (λ_ _ _=>False) e s'->False) :
 Z1b q loose XP YP l.row.toRowW d [] (λf vs=>Z16 f vs):=by
 refine Att.attach_call hn hdf λw s₀ s₁ mg mb fa o pm cd doc a vs ns G Y ho hd hcd hmg hobj hints hlen hg=>?_
 have KX:=hY w _ Y
 obtain ⟨fd,hb,hF⟩:=F w mg fa _ KX G.T.g hmg
 exact ze2 KX G.T.g G.T.b G.T.builtins G.T.nolimit hg hobj hints (K0r hlen hn2) hr hF hb (λH hO hS=>hsp w H a ns hlen hO hS) λH e s'=>hCX w H s₁ e s'
def z27 (s:Stmt):Arguments:=match s with
 | .FunctionDef _ a _ _ _ _ _ _ _ _=>a
 | _=>{ posonlyargs:=[],args:=[],vararg:=none,kwonlyargs:=[],kw_defaults:=[],kwarg:=none,defaults:=[] }
def z0b (s:Stmt):List Stmt:=match s with
 | .FunctionDef _ _ b _ _ _ _ _ _ _=>b
 | _=>[]
def j6 (s:Stmt):Scope:=match s with
 | .FunctionDef _ _ _ _ _ _ sc _ _ _=>sc
 | _=>{ kind:=.function,names:=[],isGenerator:=false,isCoroutine:=false }
abbrev CX0:CXT:=λ_ _ _ _ _ _=>False
abbrev E0:XK:=λ_ _ _=>False
theorem zT5 {X:Cx}:z6Z CX0 X E0:=λ_ _ _ _ _ _ _ h=>h.elim
structure Fun (K:K0) (x qual:Str) (st:Stmt) (f:Addr) (fd:K2q):Prop where
 ex:∃(oc:Value) (od:Option Addr) (kV doc pm:Value) (an:Option Addr) (cdv ct:Value) (osl:Array (Option Value)),
  fd=K3n x qual (z27 st) (z0b st) (j6 st) .none kV doc pm an cdv ct/\K.lookup f=some ⟨oc,od,.func fd,osl⟩/\K2y K cdv qual=true
 kp:K3d K (.ref f)=true
section
variable {P:K0m}{w:World}{K:K0}{mg:Str->Option Value}{base:Heap}
theorem Fun.ok {x qual:Str}{st:Stmt}{f:Addr}{fd:K2q}{N ps:List Str}{k:Nat}{sp:Sp}(F:Fun K x qual st f fd) (S:FnScope N ps (j6 st)) (len:∀vs H Q E,sp vs H Q E->vs.length=ps.length)
 (hbody:∀(cdv:Value) (A:Around) (outer:List Env) (s:Shared) (H:Hp) (vs:List V) (Q:VK) (E:XK),Room k (A.deeper (envOfC qual (j6 st) .(3) f cdv))->sp vs H Q E ->
  ∃t,PSs (cxOf CX0 P w K mg base N qual (j6 st) f cdv A outer s H E).nox (z0b st) t/\t { nx:=λ_ H'=>Q .non H',rt:=Q } (start N vs) H):FnOk P w K mg base CX0 (k+1) f fd ps sp:=by
 obtain ⟨oc,od,kV,doc,pm,an,cdv,ct,osl,rfl,lk,hcd⟩:=F.ex
 refine zy9 lk hcd S len λA outer s H vs Q E hr hsp=>?_
 obtain ⟨t,h,q⟩:=hbody cdv A outer s H vs Q E hr hsp
 exact ⟨t,h.nox,q⟩
theorem Fun.binds {x qual:Str}{st:Stmt}{f:Addr}{fd:K2q}{ps:List Str}(F:Fun K x qual st f fd)
 (h:∀(kV doc pm:Value) (an:Option Addr) (cdv ct:Value) (us:List Value),us.length=ps.length->bindArgs (K3n x qual (z27 st) (z0b st) (j6 st) .none kV doc pm an cdv ct) ⟨us,[]⟩=pure (ps.zip us)):Binds K fd ps []:=by
 obtain ⟨oc,od,kV,doc,pm,an,cdv,ct,osl,rfl,lk,hcd⟩:=F.ex
 exact .all (h kV doc pm an cdv ct)
theorem zE7 {x qual:Str}{st:Stmt}{f:Addr}{oc:Value}{od an:Option Addr}{osl:Array (Option Value)}{kV doc pm cdv ct:Value}(l:K.lookup f=some ⟨oc,od,.func (K3n x qual (z27 st) (z0b st) (j6 st) .none kV doc pm an cdv ct),osl⟩)
 (c:K2y K cdv qual=true) (k:K3d K (.ref f)=true):Fun K x qual st f (K3n x qual (z27 st) (z0b st) (j6 st) .none kV doc pm an cdv ct):=⟨⟨oc,od,kV,doc,pm,an,cdv,ct,osl,rfl,l,c⟩,k⟩
end
theorem z2V {A:Around}{k:Nat}(hr:Room k A):A.units+1<cLine:=K26 (K6d (by decide:1≤64) _) hr.units
section
variable {X:Cx}
end
section
variable {κ:Type} [DecidableEq κ]
def valV (kvs:List (κ×V)) (k:κ):Option V:=(kvs.find? λkv=>decide (kv.1=k)).map (·.2)
def putK (kvs:List (κ×V)) (k:κ) (v:V):List (κ×V) :=
 if (kvs.any λkv=>decide (kv.1=k))=true then kvs.map (λkv=>if kv.1=k then (kv.1,v) else kv) else kvs++[(k,v)]
theorem z34 {p:κ×V}{r:List (κ×V)}{k:κ}(e:p.1=k):valV (p::r) k=some p.2:=by simp [valV,K1h,e]
theorem z39 {p:κ×V}{r:List (κ×V)}{k:κ}(e:¬ p.1=k):valV (p::r) k=valV r k:=by simp [valV,K1h,e]
theorem z6X (k:κ):∀kvs:List (κ×V),(kvs.any λkv=>decide (kv.1=k))=(valV kvs k).isSome
 | []=>rfl
 | p::r=>by
  rw [K2d]
  by_cases e:p.1=k
  ·simp only [z34 e,decide_eq_true e,Bool.true_or,Option.isSome_some]
  ·rw [z39 e,.(p) e,K50];exact z6X k r
theorem z1q (kvs:List (κ×V)) (k:κ) (v:V):(putK kvs k v).length≤kvs.length+1:=by
 unfold putK
 split
 ·rw [K02];omega
 ·rw [K01,K0g,K0u];omega
theorem RelO.isSome_eq {o:Option V}{u:Option Value}(r:RelO o u):o.isSome=u.isSome:=by
 cases o with
 | none=>cases u with
  | none=>rfl
  | some _=>exact (show False from r).elim
 | some _=>cases u with
  | none=>exact (show False from r).elim
  | some _=>rfl
theorem KV.val {kvs:List (κ×V)}{vs:List (κ×Value)}(r:KV kvs vs) (k:κ):RelO (valV kvs k) (K9e vs k):=by
 unfold KV at r
 induction r with
 | nil=>exact K35
 | @cons p q ps qs h t ih =>
  obtain ⟨h1,h2⟩:=h
  by_cases e:p.1=k
  ·have e':q.1=k:=h1.symm.trans e
   have b:K9e (q::qs) k=some q.2:=by simp [K9e,K1h,e']
   rw [z34 e,b];exact h2
  ·have e':¬ q.1=k:=λz=>e (h1.trans z)
   have b:K9e (q::qs) k=K9e qs k:=by simp [K9e,K1h,e']
   rw [z39 e,b];exact ih
theorem KV.any {kvs:List (κ×V)}{vs:List (κ×Value)}(r:KV kvs vs) (k:κ):(kvs.any λkv=>decide (kv.1=k))=vs.any λkv=>decide (kv.1=k):=by
 unfold KV at r
 induction r with
 | nil=>rfl
 | cons h t ih=>rw [K2d,K2d,ih,h.1]
theorem KV.repl {kvs:List (κ×V)}{vs:List (κ×Value)}(r:KV kvs vs) (k:κ) {y:V}{u:Value}(ry:RelV y u) :
 KV (kvs.map λkv=>if kv.1=k then (kv.1,y) else kv) (vs.map λkv=>if kv.1=k then (kv.1,u) else kv):=by
 unfold KV at r ⊢
 induction r with
 | nil=>exact .nil
 | @cons p q ps qs h t ih =>
  rw [K0q,K0q]
  refine .cons ?_ ih
  obtain ⟨h1,h2⟩:=h
  by_cases e:p.1=k
  ·rw [if_pos e,if_pos (h1.symm.trans e)];exact ⟨h1,ry⟩
  ·rw [if_neg e,if_neg (λz=>e (h1.trans z))];exact ⟨h1,h2⟩
theorem KV.put {kvs:List (κ×V)}{vs:List (κ×Value)}(r:KV kvs vs) (k:κ) {y:V}{u:Value}(ry:RelV y u):KV (putK kvs k y) (stored vs k u):=by
 unfold putK stored
 rw [r.any k]
 by_cases e:(vs.any λkv=>decide (kv.1=k))=true
 ·rw [if_pos e,if_pos e];exact r.repl k ry
 ·rw [if_neg e,if_neg e];exact Paired.snoc r ⟨rfl,ry⟩
theorem KV.length {kvs:List (κ×V)}{vs:List (κ×Value)}(r:KV kvs vs):kvs.length=vs.length:=K4g r
end
theorem z7S {P:K0m}{w:World}{k:Key}{u:Value}(r:RelV (kV k) u):(w6 P w).is k u=true:=by
 cases k with
 | inl i=>obtain ⟨t,e⟩:=(show ∃t,u=K6m i t from r);subst e;exact z6z P w i t
 | inr x=>obtain ⟨t,e⟩:=(show ∃t,u=K9b x t from r);subst e;exact z6B P w x t
theorem z5w {P:K0m}{w:World}:∀{ks:List Key}{us:List Value},Vals (ks.map kV) us->ItemsAre (w6 P w) ks us
 | [],_,r=>by rw [K4u] at r;cases r;exact .nil
 | k::ks,_,r=>by
  rw [K0q] at r
  cases r with
  | cons h t=>exact .cons (z7S h) (z5w t)
abbrev KT (H:Hp):List (List Key×V)->List (List Key×Addr×Value)->Prop:=Paired λp q=>p.1=q.1/\H q.2.1=.(g (p.1.map kV))/\RelV p.2 q.2.2
theorem KT.val {H:Hp}{kvs:List (List Key×V)}{xs:List (List Key×Addr×Value)}(r:KT H kvs xs) (k:List Key):RelO (valV kvs k) ((atKey xs k).map (·.2)):=by
 induction r with
 | nil=>exact K35
 | @cons p q ps qs h t ih =>
  obtain ⟨h1,_,h2⟩:=h
  by_cases e:p.1=k
  ·have e':q.1=k:=h1.symm.trans e
   have b:atKey (q::qs) k=some q.2:=by simp [atKey,K1h,e']
   rw [z34 e,b];exact h2
  ·have e':¬ q.1=k:=λz=>e (h1.trans z)
   have b:atKey (q::qs) k=atKey qs k:=by simp [atKey,K1h,e']
   rw [z39 e,b];exact ih
theorem KT.repl {H:Hp}{kvs:List (List Key×V)}{xs:List (List Key×Addr×Value)}(r:KT H kvs xs) (k:List Key) {y:V}{u:Value}(ry:RelV y u) :
 KT H (kvs.map λkv=>if kv.1=k then (kv.1,y) else kv) (xs.map (putAt k u)):=by
 induction r with
 | nil=>exact .nil
 | @cons p q ps qs h t ih =>
  rw [K0q,K0q]
  refine .cons ?_ ih
  obtain ⟨h1,h2,h3⟩:=h
  unfold putAt
  by_cases e:p.1=k
  ·rw [if_pos e,if_pos (h1.symm.trans e)];exact ⟨h1,h2,ry⟩
  ·rw [if_neg e,if_neg (λz=>e (h1.trans z))];exact ⟨h1,h2,h3⟩
theorem KT.put {H:Hp}{kvs:List (List Key×V)}{xs:List (List Key×Addr×Value)}(r:KT H kvs xs) (k:List Key) {b:Addr}{y:V}{u:Value}(hb:H b=.(g (k.map kV))) (ry:RelV y u) :
 KT H (putK kvs k y) (storedH xs k b u):=by
 have e:(kvs.any λkv=>decide (kv.1=k))=(atKey xs k).isSome:=by
  rw [z6X,(r.val k).isSome_eq,Z03]
 unfold putK storedH
 rw [e]
 by_cases q:(atKey xs k).isSome=true
 ·rw [if_pos q,if_pos q];exact r.repl k ry
 ·rw [if_neg q,if_neg q];exact Paired.snoc r ⟨rfl,hb,ry⟩
theorem KT.keeps {H H':Hp}{kvs:List (List Key×V)}{xs:List (List Key×Addr×Value)}(r:KT H kvs xs) (ht:∀b ys,H b=.(g ys)->H' b=.(g ys)):KT H' kvs xs :=
 Paired.mapP r λ_ _ z=>⟨z.1,ht _ _ z.2.1,z.2.2⟩
section
variable {P:K0m}{w:World}{H:Hp}{h:Heap}{a:Addr}
theorem zK3 {u:HO}(ok:HOk P w H h) (e:Rd H a u):ObjOk P w H h a u:=e.ok ok
theorem zf9 {kvs:List (Key×V)}(ok:HOk P w H h) (e:Rd H a (.dK kvs)):kvs.length≤sizeLine/\(a==K3e)=false/\∃vs,KV kvs vs/\h.DictOf (w6 P w) a vs :=
 show ObjOk P w H h a (.dK kvs) from zK3 ok e
theorem z7U {kvs:List (Key×V)}(ok:HOk P w H h) (e:H a=some (.dK kvs)):kvs.length≤sizeLine/\(a==K3e)=false/\∃vs,KV kvs vs/\h.DictOf (w6 P w) a vs:=zf9 ok (.inl e)
theorem z7z {ks:List Key}(ok:HOk P w H h) (e:H a=.(g (ks.map kV))):(K9f (w6 P w)).is h ks a:=by
 obtain ⟨_,its,r,o,h1,h2,n,h3⟩:=(show ObjOk P w H h a (.tup (ks.map kV)) from ok a _ e)
 exact ⟨o,its.toArray,n,h1,h2.1,h3,by simpa using z5w r⟩
theorem zg1 {kvs:List (List Key×V)}(ok:HOk P w H h) (e:Rd H a (.dT kvs)):kvs.length≤sizeLine/\(a==K3e)=false /\
 ∃xs,KT H kvs xs/\h.DictOfH (K9f (w6 P w)) a xs:=by
 obtain ⟨z,y,xs,r,o,es,ep,h1,h2,h3,h4,h5⟩:=(show ObjOk P w H h a (.dT kvs) from zK3 ok e)
 refine ⟨z,y,xs,r,o,es,ep,h1,h2,h3,h4,λx hx=>?_,h5⟩
 have all:∀{l:List (List Key×V)} {m:List (List Key×Addr×Value)},KT H l m->∀x∈m,(K9f (w6 P w)).is h x.1 x.2.1:=by
  intro l m q
  induction q with
  | nil=>intro x hx;exact nomatch hx
  | @cons p q ps qs hq t ih =>
   intro x hx
   rcases K0x.mp hx with e|hx
   ·subst e
    exact z7z ok (by rw [← hq.1];exact hq.2.1)
   ·exact ih x hx
 exact all r x hx
theorem zO5 {kvs:List (List Key×V)}(ok:HOk P w H h) (e:H a=some (.dT kvs)):kvs.length≤sizeLine/\(a==K3e)=false /\
 ∃xs,KT H kvs xs/\h.DictOfH (K9f (w6 P w)) a xs:=zg1 ok (.inl e)
end
def DGet (H:Hp) (a:Addr) (y:V) (r:Option V):Prop :=
 (∃kvs k,Rd H a (.dK kvs)/\y=kV k/\r=valV kvs k)∨∃kvs k b,Rd H a (.dT kvs)/\y=.ref b/\H b=.(g (k.map kV))/\r=valV kvs k
def DPut (H:Hp) (a:Addr) (y v:V) (H':Hp):Prop :=
 (∃kvs k,H a=some (.dK kvs)/\y=kV k/\kvs.length<sizeLine/\H'=upd H a (.dK (putK kvs k v))) ∨
 ∃kvs k b,H a=some (.dT kvs)/\y=.ref b/\H b=.(g (k.map kV))/\kvs.length<sizeLine/\H'=upd H a (.dT (putK kvs k v))
theorem DPut.k {H:Hp}{a:Addr}{kvs:List (Key×V)}{k:Key}{v:V}(e:H a=some (.dK kvs)) (hl:kvs.length<sizeLine):DPut H a (kV k) v (upd H a (.dK (putK kvs k v))):=.inl ⟨kvs,k,e,rfl,hl,rfl⟩
section
variable {X:Cx}{pins:List (Addr×Obj)}{σ:St}{H:Hp}{s:Shared}{a:Addr}{y v:V}{u r:Value}{o:Option V}{A:Around}{E:Value->Shared->Prop}
theorem Inv.big (I:Inv X pins σ H s):K3e<s.heap.objs.size:=by
 have h:K1l<s.heap.objs.size:=(I.mod.glob.keeps I.bk).lt
 exact Z02 .(1) h
theorem z9j {Q:Value->Shared->Prop}(hu:A.units+1<cLine) (I:Inv X pins σ H s) (g:DGet H a y (some v)) (ry:RelV y u) (h:∀w' s',Inv X pins σ H s'->RelV v w'->Q w' s') :
 wpAny .(4) A (K6k (.ref a) u) Q E s:=by
 rcases g with ⟨kvs,k,e,ey,l⟩|⟨kvs,k,b,e,ey,eb,l⟩
 ·subst ey
  obtain ⟨z,hd,vs,rel,dd⟩:=zf9 I.hok e
  obtain ⟨w',hw,rw'⟩:=RelO.some_of (v:=v) (o:=K9e vs k) (by rw [l];exact rel.val k)
  exact wpAny_getItem_of (z7S ry) dd.mapOf hw (h w' _ (I.tok _) rw')
 ·subst ey
  cases (show u=K1j b from ry)
  obtain ⟨z,hd,xs,rel,dd⟩:=zg1 I.hok e
  obtain ⟨w',hw,rw'⟩:=RelO.some_of (v:=v) (o:=(atKey xs k).map (·.2)) (by rw [l];exact rel.val k)
  obtain ⟨p,hp,hp2⟩:=K16.mp hw
  refine wpAny_getItem_heap (K6z hu) (z7z I.hok eb) dd hp ?_
  rw [hp2]
  exact h w' _ (I.tok _) rw'
theorem zt5 {Q:Value->Shared->Prop}(hu:A.units+1<cLine) (I:Inv X pins σ H s) (g:DGet H a y o) (ry:RelV y u) (h:∀s',Inv X pins σ H s'->Q (.bool (!o.isSome)) s') :
 wpAny .(4) A (K1y .NotIn u (.ref a)) Q E s:=by
 rcases g with ⟨kvs,k,e,ey,l⟩|⟨kvs,k,b,e,ey,eb,l⟩
 ·subst ey
  obtain ⟨z,hd,vs,rel,dd⟩:=zf9 I.hok e
  refine wpAny_notIn_of (z7S ry) hd dd.mapOf ?_
  rw [← (rel.val k).isSome_eq,← l]
  exact h _ (I.tok _)
 ·subst ey
  cases (show u=K1j b from ry)
  obtain ⟨z,hd,xs,rel,dd⟩:=zg1 I.hok e
  refine wpAny_notIn_heap (K6z hu) (z7z I.hok eb) hd dd ?_
  have q:=(rel.val k).isSome_eq
  rw [Z03] at q
  rw [← q,← l]
  exact h _ (I.tok _)
theorem z3D {h':Heap}{t':Nat}{ob:HO}(I:Inv X pins σ H s) (mu:Mut (H a)) (hs:K39 a s.heap h') (he:∃q,h'.get? a=some q) (new:ObjOk X.prog X.w (upd H a ob) h' a ob) :
 Inv X pins σ (upd H a ob) { s with heap:=h',toks:=t' } :=
 I.write (x:=a) (e:=a) mu (.inl rfl) (λb q hb z=>(hs.2 b hb).trans z) he new
theorem z8x {P:K0m}{w:World}{H':Hp}{h':Heap}{kvs:List (Key×V)}{vs:List (Key×Value)}(z:kvs.length≤sizeLine) (hd:(a==K3e)=false) (rel:KV kvs vs) (dd:h'.DictOf (w6 P w) a vs) :
 ObjOk P w H' h' a (.dK kvs):=⟨z,hd,vs,rel,dd⟩
theorem z92 {H':Hp}{Q:Unit->Shared->Prop}(hu:A.units+1<cLine) (I:Inv X pins σ H s) (g:DPut H a y v H') (ry:RelV y u) (rv:RelV v r) (h:∀s',Inv X pins σ H' s'->Q () s') :
 wpAny .(4) A (Z13 (.ref a) u r) Q E s:=by
 rcases g with ⟨kvs,k,e,ey,l,eH⟩|⟨kvs,k,b,e,ey,eb,l,eH⟩
 ·subst ey eH
  obtain ⟨z,hd,vs,rel,dd⟩:=z7U I.hok e
  have hz:vs.length≤sizeLine:=by rw [← rel.length];exact z
  have hl:(putK kvs k v).length≤sizeLine:=by have:=z1q kvs k v;omega
  refine wpAny_setItem_pairs (hsz:=hz) (z7S ry) dd λh' dd' hs=>h _ ?_
  have he:∃q,h'.get? a=some q:=let ⟨q,_,_,hq,_⟩:=dd';⟨q,hq⟩
  exact z3D I (by rw [e];exact K35) hs he (z8x hl hd (rel.put k rv) dd')
 ·subst ey eH
  cases (show u=K1j b from ry)
  obtain ⟨z,hd,xs,rel,dd⟩:=zO5 I.hok e
  have hz:xs.length≤sizeLine:=by rw [← K4g rel];exact z
  have hl:(putK kvs k v).length≤sizeLine:=by have:=z1q kvs k v;omega
  refine wpAny_setItem_heap (hsz:=hz) (K6z hu) (z7z I.hok eb) dd λh' dd' hs=>h _ ?_
  obtain ⟨q,es,ep,hq,h2,h3,h4,_,h5⟩:=dd'
  refine z3D I (by rw [e];exact K35) hs ⟨q,hq⟩ ⟨hl,hd,_,(rel.put k eb rv).keeps λc ys ec=>?_,q,es,ep,hq,h2,h3,h4,h5⟩
  rw [J0 (zR6 ec e (λz=>nomatch z))]
  exact ec
end
section
variable {X:Cx}{pins:List (Addr×Obj)}{σ:St}{H:Hp}{s:Shared}{a:Addr}{kvs:List (Key×V)}{k:Key}{u:Value}{A:Around}{E:Value->Shared->Prop}
end
def NoSl (i:Expr):Prop:=∀ov iv,K98 i false ov iv=operate [ov,iv] (K6k ov iv)
theorem zt1 {prog:K0m}{w:World}{A:Around}{E:Value->Shared->Prop}{s:Shared}{env:Env}{value slice:Expr}{pos:Pos}{T id:String}{Q:Value->Shared->Prop}
 (hl:K6v (.type T) "__getitem__" = pure (some (.builtin id))) (hs:NoSl slice)
 (h:wpAny (model prog w) A (eval value env) (λo s₁=>wpAny (model prog w) A (eval slice env) (λi s₂=>s₂.TypeIs o T/\wpAny (model prog w) A (K6k o i) Q E s₂) E s₁) E s) :
 wpAny (model prog w) A (eval (.Subscript value slice pos) env) Q E s:=by
 refine Subscript_ (K2g h (λo s₁ h₁=>K2g h₁ (λi s₂ h₂=>?_) λ_ _ x=>x) λ_ _ x=>x)
 obtain ⟨hT,h₂⟩:=h₂
 unfold K9h
 refine K1 ?_
 rw [getitemInPython_of_ne hT.not_modules]
 refine K1 (K8t hT hl ?_)
 have fin:wpAny (model prog w) A (K98 slice false o i) (λr s₃=>wpAny (model prog w) A (letTemporaryGo value o r >>= λ_=>pure r) Q E s₃) E s₂:=by
  rw [hs o i]
  exact wpAny_operating (K2g h₂ (λr s₃ h₃=>K1 (wpAny_letTemporaryGo (K8 h₃))) λ_ _ x=>x)
 first
  | exact K8 (K1 fin)
  | exact K1 (K8 (K1 fin))
  | exact K1 fin
theorem z6v {X:Cx}{pins:List .(f)}{σ:St}{H:Hp}{s:Shared}{a:Addr}{y:V}{o:Option V}(I:Inv X pins σ H s) (g:DGet H a y o):s.TypeIs (.ref a) "dict":=by
 rcases g with ⟨kvs,k,e,_,_⟩|⟨kvs,k,b,e,_,_,_⟩
 ·obtain ⟨_,_,vs,_,dd⟩:=zf9 I.hok e
  exact dd.typeIs
 ·obtain ⟨_,_,xs,_,dd⟩:=zg1 I.hok e
  exact dd.typeIs
def zP5 (td ty:TE):TE:=λσ H Q=>td σ H λx H1=>ty σ H1 λy H2=>∃a v,x=.ref a/\DGet H2 a y (some v)/\Q v H2
section
variable {X:Cx}{o i e value:Expr}{pos pos' tpos:Pos}{td ty tv:TE}
theorem zw3 (hu:X.A.units+1<cLine) (ho:PE X o td) (hi:PE X i ty) (hs:NoSl i):PE X (.Subscript o i pos) (zP5 td ty):=by
 intro pins s σ H Q I h
 refine zt1 PySem.F.slot_dict_getitem.lookup hs (thn (ho pins s σ H _ I h) λu s1 ⟨x,H1,I1,rx,q1⟩=>thn (hi pins s1 σ H1 _ I1 q1) λiv s2 ⟨y,H2,I2,ry,a,v,ex,g,q2⟩=>?_)
 subst ex
 obtain rfl:u=K1j a:=rx
 exact ⟨z6v I2 g,z9j hu I2 g ry λw' s3 I3 rw'=>⟨v,H2,I3,rw',q2⟩⟩
end
theorem z7o {P:K0m}{w:World}{H:Hp}(h:Heap) (hb:K3e<h.objs.size):ObjOk P w H (h.push { cls:=.type "dict",data:=.dict #[] }) h.objs.size (.dK []) :=
 ⟨K4r _,beq_eq_false_iff_ne.mpr (K34 (K0n hb)),[],.nil,Heap.DictOf.new h⟩
section
variable {X:Cx}{pos:Pos}
end
def za9:List (TE×TE)->St->Hp->(List (V×V)->Hp->Prop)->Prop
 | [],_,H,Q=>Q [] H
 | (tk,tv)::r,σ,H,Q=>tk σ H λx H1=>tv σ H1 λy H2=>za9 r σ H2 λps H3=>Q ((x,y)::ps) H3
abbrev VV:List (V×V)->List (Value×Value)->Prop:=Paired λp q=>RelV p.1 q.1/\RelV p.2 q.2
def PPs (X:Cx) (pos:Pos) (keys:List (Option Expr)) (values:List Expr) (trs:List (TE×TE)):Prop :=
 ∀(pins:List .(f)) (s:Shared) (σ:St) (H:Hp) (Q:List (V×V)->Hp->Prop),Inv X pins σ H s->za9 trs σ H Q ->
  wpAny .(4) X.A (evalPairs (pairTrees keys values X.env pos)) (λvs s'=>∃ps H',Inv X pins σ H' s'/\VV ps vs/\Q ps H') X.xe s
theorem zo0 {X:Cx}{pos:Pos}:PPs X pos [] [] []:=λpins s σ H Q I h=>pairTrees_nil_walk ⟨[],H,I,.nil,h⟩
theorem zb6 {X:Cx}{pos:Pos}{k v:Expr}{ks:List (Option Expr)}{vs:List Expr}{tk tv:TE}{trs:List (TE×TE)}(hk:PE X k tk) (hv:PE X v tv) (hr:PPs X pos ks vs trs) :
 PPs X pos (some k::ks) (v::vs) ((tk,tv)::trs):=λpins s σ H Q I h =>
 pairTrees_cons_walk (thn (hk pins s σ H _ I h) λu s1 ⟨x,H1,I1,rx,q1⟩=>thn (hv pins s1 σ H1 _ I1 q1) λw2 s2 ⟨y,H2,I2,ry,q2⟩ =>
  thn (hr pins s2 σ H2 _ I2 q2) λws s3 ⟨ps,H3,I3,rel,q3⟩=>⟨(x,y)::ps,H3,I3,.cons ⟨rx,ry⟩ rel,q3⟩)
def z65 (kvs more:List (Key×V)):List (Key×V):=more.foldl (λacc kv=>putK acc kv.1 kv.2) kvs
theorem KV.merge:∀{more:List (Key×V)}{rs:List (Key×Value)}{kvs:List (Key×V)}{vs:List (Key×Value)},KV more rs->KV kvs vs->KV (z65 kvs more) (merged vs rs):=by
 intro more rs kvs vs r
 unfold KV at r
 induction r generalizing kvs vs with
 | nil=>intro q;exact q
 | @cons p q ps qs h t ih =>
  intro r0
  have e:KV (putK kvs p.1 p.2) (stored vs q.1 q.2):=by
   have:=r0.put p.1 h.2
   rw [← h.1];exact this
  exact ih e
theorem z2k:∀(more kvs:List (Key×V)),(z65 kvs more).length≤kvs.length+more.length
 | [],kvs=>by show kvs.length≤kvs.length+0;omega
 | p::r,kvs=>by
  have h1:=z2k r (putK kvs p.1 p.2)
  have h2:=z1q kvs p.1 p.2
  show (z65 (putK kvs p.1 p.2) r).length≤_
  rw [K0g];omega
theorem z4i {P:K0m}{w:World}:∀{kvs:List (Key×V)}{ws:List (Value×Value)},VV (kvs.map λkv=>(kV kv.1,kv.2)) ws->∃rs,Carries (w6 P w) ws rs/\KV kvs rs
 | [],_,r=>by rw [K4u] at r;cases r;exact ⟨[],K35,.nil⟩
 | p::kvs,_,r=>by
  rw [K0q] at r
  cases r with
  | @cons a b as bs h t =>
   obtain ⟨rs,c,q⟩:=z4i (P:=P) (w:=w) t
   obtain ⟨b1,b2⟩:=b
   exact ⟨(p.1,b2)::rs,⟨z7S h.1,rfl,c⟩,.cons ⟨rfl,h.2⟩ q⟩
def zS2 (trs:List (TE×TE)):TE:=λσ H Q=>∀p,H p=none->za9 trs σ (upd H p (.dK [])) λps H2=>H2 p=some (.dK [])/\∃kvs:List (Key×V),ps=kvs.map (λkv=>(kV kv.1,kv.2))/\kvs.length≤15/\Q (.ref p) (upd H2 p (.dK (z65 [] kvs)))
theorem zx7 {X:Cx}{pos:Pos}{keys:List (Option Expr)}{values:List Expr}{trs:List (TE×TE)}(h:PPs X pos keys values trs) (hall:keys.all (·.isSome)=true) (hl:keys.length=values.length) (h0:keys≠[])
 (h15:keys.length≤15):PE X (.Dict keys values pos) (zS2 trs):=by
 intro pins s σ H Q I q
 have hn:=I.hok.fresh (K05 .(3))
 have I1:=I.laid (a:=.(3)) (o:=.dK []) (h':=s.heap.push { cls:=.type "dict",data:=.dict #[] }) (t':=s.toks) (λ_ _ q=>K7 _ q) (K05 _) (z7o s.heap I.big)
 refine wpAny_Dict_walk (knd:=w6 X.prog X.w) hall hl h0 h15 (thn (h pins _ σ _ _ I1 (q _ hn)) λws s2 ⟨ps,H2,I2,rel,e,kvs,ep,lk,q2⟩=>?_)
 subst ep
 obtain ⟨rs,c,rk⟩:=z4i (P:=X.prog) (w:=X.w) rel
 obtain ⟨z,hd,vs0,r0,dd⟩:=z7U I2.hok e
 cases r0
 refine ⟨rs,c,dd,λh' dd' hs=>⟨.ref .(3),_,?_,rfl,q2⟩⟩
 have hz:(z65 [] kvs).length≤sizeLine:=by
  have h1:=z2k kvs []
  rw [K0u] at h1
  rw [K7g];omega
 have he:∃q,h'.get? .(3)=some q:=let ⟨q,_,_,hq,_⟩:=dd';⟨q,hq⟩
 exact z3D I2 (by rw [e];exact K35) hs he (z8x hz hd (rk.merge .nil) dd')
section
variable {X:Cx}{pins:List (Addr×Obj)}{σ:St}{H:Hp}{s:Shared}{a:Addr}{y d:V}{u r:Value}{o:Option V}{A:Around}{E:Value->Shared->Prop}
end
section
variable {X:Cx}{o e f:Expr}{apos cpos:Pos}{td ty tx:TE}
end
abbrev z3m (ifs:List Expr) (env:Env):Sem Bool :=
 forIn ifs true λc r=>if r=true then do { let ok ← isTrue c env (eval c env);pure (K4b ok) } else pure (K4b r)
def z00 (env:Env):List (Str×K5o)->List (Str×Addr)->List (Str×Addr)
 | [],acc=>acc
 | (n,k)::r,acc=>z00 env r (if k==.free then match env.cells.lookup n with|some c=>(n,c)::acc|none=>acc else acc)
theorem z2x {env:Env}:∀(names:List (Str×K5o)) (acc:List (Str×Addr)),(∀x∈names,x.2=.free->∃c,env.cells.lookup x.1=some c) ->
 (forIn names acc λ(x:Str×K5o) (r:List (Str×Addr))=>(if (x.2==K4f)=true then do { let c ← cellOf env x.1;pure (K4b ((x.1,c)::r)) } else pure (K4b r):Sem (ForInStep (List (Str×Addr)))))=(pure (z00 env names acc):Sem _)
 | [],acc,_=>by rw [K94];rfl
 | (n,k)::r,acc,h=>by
  rw [K8r]
  have hr:∀x∈r,x.2=.free->∃c,env.cells.lookup x.1=some c:=λx hx=>h x (K11 _ hx)
  by_cases hk:k=.free
  ·subst hk
   obtain ⟨c,hc⟩:=h (n,.free) K1d rfl
   have hc':env.cells.lookup n=some c:=hc
   simp only [z00,beq_self_eq_true,if_true,cellOf,hc',pure_bind]
   exact z2x r _ hr
  ·have hb:(k==K4f)=false:=by simpa using hk
   simp only [z00,hb,K25,if_false,pure_bind]
   exact z2x r _ hr
theorem z2j {scope:Scope}{env:Env}(h:∀x∈scope.names,x.2=.free->∃c,env.cells.lookup x.1=some c) :
 closureFor scope env=pure (z00 env scope.names []):=by
 unfold closureFor
 exact congrArg (λm:Sem (List (Str×Addr))=>m >>= λz=>pure z) (z2x scope.names [] h)
theorem z72 {env:Env}:∀(names:List (Str×K5o)) (acc:List (Str×Addr)) {x:Str}{c:Addr},(z00 env names acc).lookup x=some c ->
 env.cells.lookup x=some c∨acc.lookup x=some c
 | [],acc,x,c,h=>.inr h
 | (n,k)::r,acc,x,c,h=>by
  rcases z72 r _ h with q|q
  ·exact .inl q
  ·by_cases hk:(k==K4f)=true
   ·rw [if_pos hk] at q
    cases e:env.cells.lookup n with
    | none=>rw [e] at q;exact .inr q
    | some c' =>
     rw [e] at q
     simp only [K2w] at q
     cases hx:x==n with
     | true =>
      rw [hx] at q
      cases q
      have:x=n:=by simpa using hx
      subst this
      exact .inl e
     | false=>rw [hx] at q;exact .inr q
   ·rw [if_neg hk] at q
    exact .inr q
theorem z7C {env:Env}{x:Str}{c:Addr}(hc:env.cells.lookup x=some c):∀(names:List (Str×K5o)) (acc:List (Str×Addr)),
 acc.lookup x=some c->(z00 env names acc).lookup x=some c
 | [],acc,h=>h
 | (n,k)::r,acc,h=>by
  refine z7C hc r _ ?_
  by_cases hk:(k==K4f)=true
  ·rw [if_pos hk]
   cases e:env.cells.lookup n with
   | none=>exact h
   | some c' =>
    simp only [K2w]
    cases hx:x==n with
    | true =>
     have:x=n:=by simpa using hx
     subst this
     rw [hc] at e
     exact e.symm
    | false=>exact h
  ·rw [if_neg hk];exact h
theorem z69 {env:Env}{x:Str}{c:Addr}(hc:env.cells.lookup x=some c):∀(names:List (Str×K5o)) (acc:List (Str×Addr)),
 (x,K4f)∈names->(z00 env names acc).lookup x=some c
 | [],_,h=>absurd h .(e)
 | (n,k)::r,acc,h=>by
  rcases K0x.mp h with e|h
  ·cases e
   refine z7C hc r _ ?_
   rw [if_pos .(e),hc]
   simp [K2w]
  ·exact z69 hc r _ h
theorem z1Y {sc:Scope}{env:Env}{x:Str}{k:NameKind}(h:(relabel sc env).names.lookup x=some k) :
 ∃k0,sc.names.lookup x=some k0/\(k=k0∨(k=.cell/\k0=.free)):=by
 unfold relabel at h
 dsimp only at h
 generalize sc.names=ns at h ⊢
 induction ns with
 | nil=>simp at h
 | cons a r ih =>
  obtain ⟨n,k1⟩:=a
  simp only [K0q] at h
  by_cases hc:(k1==K4f&&env.scope.kind==.function&&env.kindOf n==some .cell)=true
  ·rw [if_pos hc] at h
   simp only [K2w] at h ⊢
   cases hx:x==n with
   | true =>
    rw [hx] at h
    cases h
    refine ⟨k1,rfl,.inr ⟨rfl,?_⟩⟩
    simp only [K0h] at hc
    simpa using hc.1.1
   | false=>rw [hx] at h;exact ih h
  ·rw [if_neg hc] at h
   simp only [K2w] at h ⊢
   cases hx:x==n with
   | true=>rw [hx] at h;cases h;exact ⟨_,rfl,.inl rfl⟩
   | false=>rw [hx] at h;exact ih h
theorem z5x {sc:Scope}{env:Env}{x:Str}(h:sc.names.lookup x=some .free) :
 (relabel sc env).names.lookup x=some .cell∨(relabel sc env).names.lookup x=some .free:=by
 unfold relabel
 dsimp only
 generalize sc.names=ns at h ⊢
 induction ns with
 | nil=>simp at h
 | cons a r ih =>
  obtain ⟨n,k1⟩:=a
  simp only [K0q]
  simp only [K2w] at h
  by_cases hc:(k1==K4f&&env.scope.kind==.function&&env.kindOf n==some .cell)=true
  ·rw [if_pos hc]
   simp only [K2w]
   cases hx:x==n with
   | true=>exact .inl rfl
   | false=>rw [hx] at h;exact ih h
  ·rw [if_neg hc]
   simp only [K2w]
   cases hx:x==n with
   | true=>rw [hx] at h;exact .inr h
   | false=>rw [hx] at h;exact ih h
structure CS (X:Cx) (sc:Scope) (N':List Str) (cap:List (Option Nat)):Prop where
 kind:sc.kind=.function
 nocell:∀y∈sc.names,y.2≠.cell
 loc:∀x∈sc.names,x.2=.local->sc.names.lookup x.1=some .local
 fr:∀x∈sc.names,x.2=.free->X.env.kindOf x.1=some .cell∨X.env.kindOf x.1=some .free
 len:cap.length=N'.length
 capt:∀(i j:Nat),cap[i]?=some (some j)->∃x,N'[i]?=some x/\X.N[j]?=some x/\sc.names.lookup x=some .free
def z3H (cap:List (Option Nat)) (σ:St):St:=cap.map λo=>match o with|some j=>(σ[j]?).join|none=>none
def Cx.comp (X:Cx) (N':List Str) (sc:Scope) (s:Shared) (H:Hp) (fp:List Addr) (xe:Value->Shared->Prop):Cx :=
 { X with N:=N',s₀:=s,H₀:=H,env:=compEnvC sc (z00 X.env sc.names []) s.heap.objs.size X.env,outer:=X.stack,stack:=X.stack,ex:=fp,fn:=λ_=>false,pn:=[],xe:=xe }
section
variable {X:Cx}{pins:List (Addr×Obj)}{σ:St}{H:Hp}{s:Shared}{sc:Scope}{N':List Str}{cap:List (Option Nat)}{fp:List Addr}{xe:Value->Shared->Prop}{h':Heap}
theorem CS.cells (S:CS X sc N' cap) (I:Inv X pins σ H s):∀x∈sc.names,x.2=.free->∃c,X.env.cells.lookup x.1=some c:=λx hx hf =>
 I.ok.has x.1 (S.fr x hx hf)
theorem Inv.compIn {t:Nat}(I:Inv X pins σ H s) (S:CS X sc N' cap) (hf:∀b∈fp,FpOk X pins H b) (hlt:∀b∈fp,b<s.heap.objs.size)
 (hns:h'.Ns .(3) λ_=>none) (hk:∀b o,s.heap.get? b=some o->h'.get? b=some o) :
 Inv .(5) [] (z3H cap σ) H { s with heap:=h',toks:=t }:=by
 have hfrom:∀{x c},(z00 X.env sc.names []).lookup x=some c->X.env.cells.lookup x=some c:=λ{x c} q=>by
  rcases z72 _ _ q with z|z
  ·exact z
  ·simp at z
 have hlook:∀ {x},((relabel sc X.env).names.lookup x=some .cell∨(relabel sc X.env).names.lookup x=some .free)->sc.names.lookup x=some .free:=fun {x} q=>by
  rcases q with q|q
  ·obtain ⟨k0,e,z⟩:=z1Y q
   rcases z with z|z
   ·subst z;exact absurd rfl (S.nocell _ (K2a e))
   ·rw [e,z.2]
  ·obtain ⟨k0,e,z⟩:=z1Y q
   rcases z with z|z
   ·rw [e,z]
   ·cases z.1
 refine ⟨⟨I.ok.mod,?_,I.ok.glob,I.ok.blt,K05 _,λx y c h1 h2=>I.ok.inj x y c (hfrom h1) (hfrom h2),λx hx=>?_,λx c q=>absurd (show false=true from q) .(1),I.ok.hd,I.ok.frames,.inl rfl,λb hb=>⟨?_,λx c q=>?_⟩,
  I.bs,K0r I.ok.bsz I.sz,λb o e hb=>?_,λb hb hz=>?_,I.stack,I.stkFree⟩,
  rfl,I.bare,Un.kept hk,⟨_,hns,λi x v h1 h2 h3=>?_⟩,λx c q=>?_,I.hok.fresh (K05 _),λx c q=>I.freeC x c (hfrom q),λp hp=>absurd (show p∈([]:List .(f)) from hp) .(e),I.hok.kept hk,?_⟩
 ·exact S.kind
 ·have e:=hlook hx
  have e2:=K2a e
  obtain ⟨c,hc⟩:=I.ok.has x (S.fr _ e2 rfl)
  exact ⟨c,z69 hc _ _ e2⟩
 ·exact K0n (hlt b hb)
 ·exact (hf b hb).2.2.2.2.1 x c (hfrom q)
 ·rcases (hf b hb).2.2.2.1 with z|z
  ·exact I.ok.noex b o e z
  ·exact absurd (K0j (K08 e) (K0r I.ok.bsz z)) (K2j _)
 ·rcases K0x.mp (I.stkSub b hz) with z|z
  ·exact (hf b hb).2.1 z
  ·exact (hf b hb).2.2.1 z
 ·have h2':(cap.map λo=>match o with|some j=>(σ[j]?).join|none=>none)[i]?=some (some v):=h2
  rw [K07] at h2'
  cases e:cap[i]? with
  | none=>rw [e] at h2';cases h2'
  | some o =>
   rw [e] at h2'
   cases o with
   | none=>simp at h2'
   | some j =>
    have hj:σ[j]?=some (some v):=by
     have h4:(σ[j]?).join=some v:=by simpa using h2'
     cases e2:σ[j]? with
     | none=>rw [e2] at h4;simp at h4
     | some o2=>rw [e2] at h4;simp at h4;rw [h4]
    obtain ⟨y,n1,n2,n3⟩:=S.capt i j e
    have ey:y=x:=by
     have h1':N'[i]?=some x:=h1
     rw [n1] at h1';exact K10 h1'
    subst ey
    have hm:=K2a n3
    have hkind:=S.fr _ hm rfl
    obtain ⟨m,hn,hl⟩:=I.loc
    have vis:Vis X.env.scope y:=by
     rcases hkind with z|z
     ·exact .inr (.inl z)
     ·exact .inr (.inr z)
    obtain ⟨u,r,l⟩:=hl j y v n2 hj vis
    refine ⟨u,r,.inr ?_⟩
    rcases l with ⟨z,_⟩|⟨_,c,hc,hcell⟩
    ·have z':X.env.kindOf y=some .local:=z
     rcases hkind with q|q<;>(have q':X.env.kindOf y=_:=q;rw [z'] at q';cases q')
    ·obtain ⟨o,ho,hd⟩:=hcell
     exact ⟨z5x n3,c,z69 hc _ _ hm,o,hk c o ho,hd⟩
 ·obtain ⟨v,o,ho,hd⟩:=I.cell x c (hfrom q)
  exact ⟨v,o,hk c o ho,hd⟩
 ·show (cap.map _).length=N'.length
  rw [K02];exact S.len
theorem Inv.compOut {pins':List .(f)}{σ':St}{H':Hp}{s':Shared}(I:Inv X pins σ H s) (hf:∀b∈fp,FpOk X pins H b)
 (J:Inv .(5) pins' σ' H' s') (hs:K39 .(3) s'.heap h'):Inv X pins σ H' { s' with heap:=h' }:=by
 have hu:Un (frs X.stack) fp H H' s.heap s'.heap:=J.base
 have hC:H' .(3)=none:=J.free
 have lt:∀{b:Addr} {o:Obj},s.heap.get? b=some o->b≠s.heap.objs.size:=λe=>K0n (K08 e)
 refine I.call' (s':={ s' with heap:=h' }) (ch:=fp) J.os ⟨λb o e n h1 h2=>?_,λb o e n h1 h2=>?_,hu.free,λb o e h1=>?_,hu.tups,hu.frzs,hu.tbls⟩ (λb u e=>?_) J.bare (λb hb=>⟨(hf b hb).2.2.2.1,(hf b hb).2.1,(hf b hb).2.2.2.2.1,(hf b hb).2.2.2.2.2⟩)
 ·exact (hs.2 b (lt e)).trans (hu.keep b o e n h1 h2)
 ·obtain ⟨sl,q⟩:=hu.slot b o e n h1 h2
  exact ⟨sl,(hs.2 b (lt e)).trans q⟩
 ·obtain ⟨o',q⟩:=hu.there b o e h1
  exact ⟨o',(hs.2 b (lt e)).trans q⟩
 ·refine (J.hok b u e).stay (λc v hc q=>?_) (λ_ q=>q) λ_ _ q=>q
  have ne:c≠s.heap.objs.size:=by
   rintro rfl
   rcases hc with z|z
   ·rw [← z,hC] at e;cases e
   ·rw [hC] at z;cases z
  exact (hs.2 c ne).trans q
end
def PTs (X:Cx) (ifs:List Expr) (t:TT):Prop :=
 ∀(pins:List .(f)) (s:Shared) (σ:St) (H:Hp) (Q:Bool->Hp->Prop),Inv X pins σ H s->t σ H Q->wpAny .(4) X.A (z3m ifs X.env) (TP X pins σ Q) X.xe s
def zs8:TT:=λ_ H Q=>Q true H
def zE9 (t r:TT):TT:=λσ H Q=>t σ H λb H1=>if b=true then r σ H1 Q else Q false H1
theorem z5a {X:Cx}{E:Value->Shared->Prop}{Q:Bool->Shared->Prop}:∀{ifs:List Expr}{s:Shared},Q false s ->
 wpAny .(4) X.A (forIn ifs false λc r=>if r=true then do { let ok ← isTrue c X.env (eval c X.env);pure (K4b ok) } else pure (K4b r)) Q E s
 | [],s,h=>by rw [K94];exact K8 h
 | c::r,s,h=>by
  rw [K8r]
  refine K1 ?_
  rw [if_neg .(1)]
  exact K8 (z5a h)
theorem z9C {X:Cx}:PTs X [] zs8:=λpins s σ H Q I h=>by
 unfold z3m
 rw [K94]
 exact K8 ⟨H,I,h⟩
theorem zf8 {X:Cx}{c:Expr}{r:List Expr}{t u:TT}(h1:PT X c t) (h2:PTs X r u):PTs X (c::r) (zE9 t u):=λpins s σ H Q I h=>by
 unfold z3m
 rw [K8r]
 refine K1 ?_
 rw [if_pos rfl]
 refine K1 (thn (h1 pins s σ H _ I h) λb s1 ⟨H1,I1,q1⟩=>K8 ?_)
 cases b with
 | true=>exact h2 pins s1 σ H1 Q I1 (by simpa using q1)
 | false=>exact z5a ⟨H1,I1,by simpa using q1⟩
def z43 (p:Pos) (tg:Expr) (ifs:List Expr) (it:Value) (env:Env) (b:Sem Unit) (c:Code):Sem Fin:=do
 K4q p
 match ← pyNext it with
 | none=>pure (.done .next)
 | some v =>
  K4e tg it v
  assign tg env v
  let ok ← z3m ifs env
  if ok then b
  again c
abbrev TB:=St->Hp->(Hp->Prop)->Prop
def Kp (σ σ':St):Prop:=∀(j:Nat) v,σ[j]?=some (some v)->σ'[j]?=some (some v)
def PBd (X:Cx) (b:Sem Unit) (t:TB):Prop :=
 ∀(pins:List .(f)) (s:Shared) (σ:St) (H:Hp) (Q:Hp->Prop),Inv X pins σ H s->t σ H Q->wpAny .(4) X.A b (λ_ s'=>∃σ' H',Inv X pins σ' H' s'/\Kp σ σ'/\Q H') X.xe s
def runG (g:TG) (ti:TT) (tb:TB) (σ:St) (J:It) (Q:Hp->Prop) (H:Hp):Prop :=
 ∃W:Nat->Nat->Hp->Prop,(∃m,W 0 m H)/\∀i m H,W i m H ->
  (J.stop i H/\Q H)∨(J.go i H/\∀x H1,J.yld i H x H1->g x σ H1 λσ2 H2=>Kp σ σ2 /\
   ti σ2 H2 λok H3=>if ok=true then tb σ2 H3 λH4=>∃m',m'<m/\W (i+1) m' H4 else ∃m',m'<m/\W (i+1) m' H3)
def CK (ce:Expr):Prop:=(∃elt gens sc pos,ce=.ListComp elt gens sc pos)∨∃k v gens sc pos,ce=.DictComp k v gens sc pos
section
variable {X:Cx}{ce elt val tg iter tg1 iter1:Expr}{ifs ifs1:List Expr}{sc:Scope}{pos p:Pos}{N':List Str}{cap:List (Option Nat)}{g g1:TG}{wi wi1:TI}{ti ti1:TT}{te tv:TE}{tb:TB}{b:Sem Unit}{D:Addr}
theorem zK9 {pins:List .(f)}{σ0:St}{H2:Hp}{s2:Shared}{it:Addr}{fp:List Addr}{tn:Nat->Heap->Prop}{J:It}{R:Result->Shared->Prop}{Q:Hp->Prop}{k:Nat}{acc:Value}
 (htn:compTurn ce k (.ref it) acc X.env=z43 p tg ifs (.ref it) X.env b (.compLoop ce k (.ref it) acc X.env)) (hce:CK ce) (hc:X.calm=true)
 (hg:PG (X.wish (Z04 .(4) X.A X.env λe s'=>R (.error e) s')) tg g) (ht:PTs (X.wish (Z04 .(4) X.A X.env λe s'=>R (.error e) s')) ifs ti) (hb:PBd (X.wish (Z04 .(4) X.A X.env λe s'=>R (.error e) s')) b tb)
 (I2:Inv X pins σ0 H2 s2) (T:Turn X.prog X.w X.K tg J fp it tn) (st2:tn 0 s2.heap) (f2:∀b∈fp,FpOk X pins H2 b)
 (hq:runG g ti tb σ0 J Q H2) (hR:∀s' H',Inv X pins σ0 H' s'->Q H'->R (.ok .next) s') :
 K4x .(4) X.A (.compLoop ce k (.ref it) acc X.env) R s2:=by
 have stat:∀{H':Hp},(∀b∈fp,H' b=none)->∀b∈fp,FpOk X pins H' b:=λhn b hb=>⟨hn b hb,(f2 b hb).2⟩
 obtain ⟨W,⟨m0,w0⟩,turn⟩:=hq
 refine codeAny_loop rfl (λn s'=>∃i H',Inv X pins σ0 H' s'/\tn i s'.heap/\(∀b∈fp,H' b=none)/\W i n H') (λn s5 hI=>?_) m0 ⟨0,H2,I2,st2,λb hb=>(f2 b hb).1,w0⟩
 obtain ⟨i,H5,I5,st5,fr5,w5⟩:=hI
 have hu:X.A.under (.compLoop ce k (.ref it) acc X.env)=X.A/\(model X.prog X.w).den (.compLoop ce k (.ref it) acc X.env)=(compTurn ce k (.ref it) acc X.env).onRaise (λx=>do Z0m x X.env;theTreesLotGoes x):=by
  rcases hce with ⟨_,_,_,_,rfl⟩|⟨_,_,_,_,_,rfl⟩<;>exact ⟨rfl,rfl⟩
 rw [hu.1,hu.2]
 refine wpAny_noted ?_
 rw [htn]
 unfold z43
 refine K1 (K4i (K1 ?_))
 rcases turn i n H5 w5 with ⟨stop,qn⟩|⟨go,step⟩
 ·refine thn (T.done X rfl rfl rfl hc i pins s5 _ H5 _ I5 (stat fr5) st5 stop) λr s6 ⟨hr,I6⟩=>?_
  subst hr
  exact K8 (hR s6 H5 I6 qn)
 ·refine thn (T.item X rfl rfl rfl hc i pins s5 _ H5 _ I5 (stat fr5) st5 go) λr s6 ⟨u,hr,h6⟩=>?_
  subst hr
  refine K1 (thn h6 λ_ s7 ⟨x,H7,I7,r7,y7,st7,fr7⟩=>?_)
  have I7':=I7.pinned (stat fr7) (T.obj _ _ st7)
  refine K1 (thn (hg _ s7 _ H7 x u _ (I7'.wish _) r7 (step x H7 y7)) λ_ s8 ⟨σ8,H8,I8,k8,q8⟩=>?_)
  refine K1 (thn (ht _ s8 σ8 H8 _ I8 q8) λok s9 ⟨H9,I9,q9⟩=>?_)
  have again:∀{σa:St} {Ha:Hp} {sa:Shared},Inv (X.wish (Z04 .(4) X.A X.env λe s'=>R (.error e) s')) (pins++z5y fp s7.heap) σa Ha sa->Kp σ0 σa ->
   Inv X pins σ0 Ha sa/\tn (i+1) sa.heap/\∀b∈fp,Ha b=none:=λ{σa Ha sa} Iw ka=>by
   have Ia:=Iw.unwish
   refine ⟨Ia.unpinned.weak (I5.len.trans Ia.len.symm) ka,T.keep _ _ _ st7 λb hb o e=>(Ia.pin (b,o) (K14 _ (K14 _ (z1I hb e)))).1,λb hb=>?_⟩
   obtain ⟨o,e,d⟩:=T.obj _ _ st7 b hb
   exact (Ia.pin (b,o) (K14 _ (K14 _ (z1I hb e)))).2.1
  cases ok with
  | false =>
   have q9':∃m',m'<n/\W (i+1) m' H9:=by simpa using q9
   obtain ⟨m',hm,w9⟩:=q9'
   obtain ⟨a1,a2,a3⟩:=again I9 k8
   exact K8 ⟨rfl,m',hm,i+1,H9,a1,a2,a3,w9⟩
  | true =>
   rw [if_pos rfl] at q9
   refine K1 (thn (hb _ s9 σ8 H9 _ I9 q9) λ_ sa ⟨σa,Ha,Ia,ka,m',hm,wa⟩=>?_)
   obtain ⟨a1,a2,a3⟩:=again Ia λj v h=>ka j v (k8 j v h)
   exact K8 ⟨rfl,m',hm,i+1,Ha,a1,a2,a3,wa⟩
theorem z0D {env:Env}{prog:K0m}{w:World}{A:Around}{R:Result->Shared->Prop}{s:Shared}{k:Nat}{it acc:Value}(hce:CK ce) (hcl:(clausesOf ce)[k]?=some ⟨tg,iter,ifs,0⟩) (h0:K4x (model prog w) A (.compLoop ce k it acc env) R s)
 (h:wpAny (model prog w) A (pyIter it) (λit' s'=>K4x (model prog w) A (.compLoop ce k it' acc env) R s')
  (Z04 (model prog w) A env λx s'=>R (.error x) s') s) :
 K4x (model prog w) A (.compStart ce k it acc env) R s:=by
 refine K8v ?_
 have hu:A.under (.compStart ce k it acc env)=A/\(model prog w).den (.compStart ce k it acc env)=(compStart ce k it acc env).onRaise (λx=>do Z0m x env;K4q theWindowsPlace):=by
  rcases hce with ⟨_,_,_,_,rfl⟩|⟨_,_,_,_,_,rfl⟩<;>exact ⟨rfl,rfl⟩
 rw [hu.1,hu.2]
 refine wpAny_notedAt ?_
 unfold compStart
 rw [hcl]
 show wpAny _ _ (ask >>= _) _ _ s
 refine K1 (K3c (wpAny_ite ?_))
 split
 ·first
   | exact K1 (K8 (K8 (Z0f rfl h0)))
   | exact K8 (Z0f rfl h0)
 ·first
   | exact K1 (K6u (K1 (K4i (K1 (K2g h (λit' s' h'=>K8 (Z0f rfl h')) λ_ _ x=>x)))))
   | (refine K1 (K6u ?_);show wpAny _ _ (K4q iter.pos >>= _) _ _ s;exact K1 (K4i (K1 (K2g h (λit' s' h'=>K8 (Z0f rfl h')) λ_ _ x=>x))))
end
def MkO (mk:Sem Value) (o0:HO):Prop:=∀(X:Cx) (pins:List .(f)) (σ:St) (H:Hp) (s:Shared) (E:Value->Shared->Prop) (Q:Value->Shared->Prop),Inv X pins σ H s ->
 (∀s',Inv X pins σ (upd H .(3) o0) s'->(∀b o,s.heap.get? b=some o->s'.heap.get? b=some o)->Q (.ref .(3)) s')->wpAny .(4) X.A mk Q E s
theorem zb5:MkO (Z05 []) (.lst []):=λX pins σ H s E Q I h=>by
 refine K1f ?_
 exact h _ (I.lnew (ys:=[]) (its:=[]) (t':=s.toks) .nil (K4r _)) λb o e=>K7 _ e
theorem za7:MkO newDict (.dK []):=λX pins σ H s E Q I h=>by
 refine K1f ?_
 exact h _ (I.laid (a:=.(3)) (o:=.dK []) (t':=s.toks) (h':=s.heap.push { cls:=.type "dict",dict:=none,data:=.dict #[] }) (λ_ _ q=>K7 _ q) (K05 _) (z7o s.heap I.big)) λb o e=>K7 _ e
structure CmE (ce:Expr) (sc:Scope) (tg iter:Expr) (ifs:List Expr) (mk:Sem Value) (o0:HO) (bd:Addr->Env->Sem Unit) (p:Pos):Prop where
 ck:CK ce
 cl:∃gs,clausesOf ce=⟨tg,iter,ifs,0⟩::gs
 tn:∀it D env,compTurn ce 0 (.ref it) (.ref D) env=z43 p tg ifs (.ref it) env (bd D env) (.compLoop ce 0 (.ref it) (.ref D) env)
 nw:MkO mk o0
 ev:∀env,∃pp,eval ce env=comprehension ce sc env pp mk false (eval iter env) none
 us:∀env f,∃pp,evalThenUse ce env f=(comprehension ce sc env pp mk false (eval iter env) (some f) >>= λ_=>pure ())
section
variable {X:Cx}{ce elt val tg iter tg1 iter1:Expr}{ifs ifs1:List Expr}{sc:Scope}{pos p p1:Pos}{N':List Str}{cap:List (Option Nat)}{g g1:TG}{wi wi1:TI}{ti ti1:TT}{te tv:TE}{tb tb1:TB}{b1:Sem Unit}{D:Addr}{mk:Sem Value}{o0:HO}{bd:Addr->Env->Sem Unit}{tbd:Addr->TB}
theorem zB9 {pins:List .(f)}{σ:St}{H2:Hp}{s2:Shared}{it:Addr}{fp:List Addr}{tn:Nat->Heap->Prop}{J:It}{E:Value->Shared->Prop}{RR:Value->Addr->Result->Shared->Prop}{Q:Addr->Hp->Prop}
 (C:CmE ce sc tg iter ifs mk o0 bd p) (hc:X.calm=true) (S:CS X sc N' cap) (hg:∀s H fp xe,PG .(5) tg g) (ht:∀s H fp xe,PTs .(5) ifs ti) (hb:∀D s H fp xe,PBd .(5) (bd D (X.comp N' sc s H fp xe).env) (tbd D))
 (I2:Inv X pins σ H2 s2) (T:Turn X.prog X.w X.K tg J fp it tn) (st2:tn 0 s2.heap) (f2:∀b∈fp,FpOk X pins H2 b)
 (hq:∀D,H2 D=none->runG g ti (tbd D) (z3H cap σ) J (Q D) (upd H2 D o0))
 (hRR:∀(D:Addr) (s3:Shared) (H3:Hp) (xe:Value->Shared->Prop) (H':Hp) (pins':List .(f)) (σ':St) (s':Shared),Inv X pins σ H3 s3->(∀b∈fp,FpOk X pins H3 b)->Inv (X.comp N' sc s3 H3 fp xe) pins' σ' H' s'->Q D H'->RR (.ref D) s3.heap.objs.size (.ok .next) s') :
 wpAny .(4) X.A mk (λacc s3=>wpAny .(4) X.A (newFunctionEnv sc X.env.globals (z00 X.env sc.names []) [] X.env.qual none .none (some X.env)) (λcenv s4 =>
  codeAny (model X.prog X.w) X.A (.compStart ce 0 (.ref it) acc { cenv with scope:=relabel sc X.env }) (RR acc cenv.locals) s4) E s3) E s2:=by
 refine C.nw X pins σ H2 s2 E _ I2 λs3 I3 kp3=>?_
 have hfr:H2 s2.heap.objs.size=none:=I2.fresh
 have lt2:∀b∈fp,b<s2.heap.objs.size:=λb hb=>by
  obtain ⟨o,e,_⟩:=T.obj _ _ st2 b hb
  exact K08 e
 generalize s2.heap.objs.size=D at I3 hfr lt2 ⊢
 have r0:=hq D hfr
 have f3:∀b∈fp,FpOk X pins (upd H2 D o0) b:=λb hb=>⟨by rw [J0 (K0n (lt2 b hb))];exact (f2 b hb).1,(f2 b hb).2⟩
 have st3:tn 0 s3.heap:=T.keep _ _ _ st2 λb hb o e=>kp3 b o e
 have lt3:∀b∈fp,b<s3.heap.objs.size:=λb hb=>by
  obtain ⟨o,e,_⟩:=T.obj _ _ st3 b hb
  exact K08 e
 generalize upd H2 D o0=H3 at I3 r0 f3
 refine wpAny_newFunctionEnv S.nocell (λx hx=>absurd hx .(e)) (λh1 hns hsb=>?_) S.kind
 have kp4:∀b o,s3.heap.get? b=some o->h1.get? b=some o:=λb o e=>by
  rw [hsb.2 b (K0n (K08 e))]
  exact K7 _ e
 have hns':h1.Ns s3.heap.objs.size λ_=>none:=hns
 have st4:tn 0 h1:=T.keep _ _ _ st3 λb hb o e=>kp4 b o e
 have loop:K4x .(4) X.A (.compLoop ce 0 (.ref it) (.ref D) (compEnvC sc (z00 X.env sc.names []) s3.heap.objs.size X.env))
  (RR (.ref D) s3.heap.objs.size) { s3 with heap:=h1,toks:=s3.toks+([]:List (Str×Value)).length }:=by
  let xe:Value->Shared->Prop:=Z04 .(4) X.A (compEnvC sc (z00 X.env sc.names []) s3.heap.objs.size X.env) λe s'=>RR (.ref D) s3.heap.objs.size (.error e) s'
  have I4:Inv (X.comp N' sc s3 H3 fp xe) [] (z3H cap σ) H3 { s3 with heap:=h1,toks:=s3.toks+([]:List (Str×Value)).length }:=I3.compIn S f3 lt3 hns' kp4
  exact zK9 (X:=X.comp N' sc s3 H3 fp xe) (C.tn _ _ _) C.ck hc (hg s3 H3 fp _) (ht s3 H3 fp _) (hb D s3 H3 fp _) I4 T st4 (λb hb=>by
   obtain ⟨q1,q2⟩:=I4.ok.exf b hb
   exact ⟨(f3 b hb).1,q1,I4.ok.exfs b hb,.inl hb,q2,λp hp=>absurd (show p∈([]:List .(f)) from hp) .(e)⟩) r0 λs' H' I' q=>hRR D s3 H3 xe H' [] _ s' I3 f3 I' q
 obtain ⟨gs,cl⟩:=C.cl
 exact z0D C.ck (by rw [cl];rfl) loop (T.self _ 0 _ _ _ st4 loop)
def tCm (o0:HO) (cap:List (Option Nat)) (wi:TI) (g:TG) (ti:TT) (tbd:Addr->TB):TE:=λσ H Q=>wi σ H λJ H1=>∀D,H1 D=none->runG g ti (tbd D) (z3H cap σ) J (λH'=>Q (.ref D) H') (upd H1 D o0)
theorem zR3 (C:CmE ce sc tg iter ifs mk o0 bd p) (hc:X.calm=true) (S:CS X sc N' cap) (hi:PI X tg iter wi) (hg:∀s H fp xe,PG .(5) tg g) (ht:∀s H fp xe,PTs .(5) ifs ti)
 (hb:∀D s H fp xe,PBd .(5) (bd D (X.comp N' sc s H fp xe).env) (tbd D)) (hs:∀x,K12 iter X.env x=pure x):PE X ce (tCm o0 cap wi g ti tbd):=by
 intro pins s σ H Q I h
 obtain ⟨pp,ev⟩:=C.ev X.env
 obtain ⟨gs,cl⟩:=C.cl
 rw [ev]
 refine K7r (use:=none) cl hs (z2j (S.cells I)) S.kind S.loc (thn (hi pins s σ H _ I h) λv s1 h1=>thn h1 λitv s2 h2=>?_)
 obtain ⟨it,fp,tn,J,H2,e,I2,T,st2,f2,rq⟩:=h2
 subst e
 refine zB9 (RR:=λacc C=>compPost .(4) X.A X.xe none (EP X pins σ Q) acc C) (Q:=λD H'=>Q (.ref D) H') C hc S hg ht hb I2 T st2 f2 rq ?_
 intro D s3 H3 xe H' pins' σ' s' I3 f3 J3 q
 obtain ⟨m,hn,_⟩:=id J3.loc
 exact ⟨m,hn,λh' hs=>⟨.ref D,H',I3.compOut f3 J3 hs,rfl,q⟩⟩
def sCm (o0:HO) (cap:List (Option Nat)) (wi:TI) (g:TG) (ti:TT) (tbd:Addr->TB) (i:Nat):TS:=λD σ H=>wi σ H λJ H1=>∀d,H1 d=none->runG g ti (tbd d) (z3H cap σ) J (λH'=>D.nx (σ.set i (.(r d))) H') (upd H1 d o0)
theorem zS6 {y:Str}{py spos:Pos}{i:Nat}(C:CmE ce sc tg iter ifs mk o0 bd p) (hc:X.calm=true) (S:CS X sc N' cap) (hi:PI X tg iter wi) (hg:∀s H fp xe,PG .(5) tg g) (ht:∀s H fp xe,PTs .(5) ifs ti)
 (hb:∀D s H fp xe,PBd .(5) (bd D (X.comp N' sc s H fp xe).env) (tbd D)) (hN:X.N.Nodup) (hy:X.N[i]?=some y) (hl:X.env.scope.names.lookup y=some .local)
 (hsw:K1x ce (some (.Name y py)) spos.line X.env=pure true) (hs:∀x,K12 iter X.env x=pure x):PS X (.Assign [.Name y py] ce spos) (sCm o0 cap wi g ti tbd i):=by
 intro pins s σ H D I h
 rw [exec_Assign_Name_used _ _ _ _ hsw]
 obtain ⟨pp,us⟩:=C.us X.env (assign (.Name y py) X.env)
 obtain ⟨gs,cl⟩:=C.cl
 rw [us]
 refine K1 (K4i (K1 ?_))
 refine K1 (K2g (K7r (use:=some (assign (.Name y py) X.env)) (Q:=λ_ s'=>SP X pins D .next s') cl hs (z2j (S.cells I)) S.kind S.loc
  (thn (hi pins s σ H _ I h) λv s1 h1=>thn h1 λitv s2 h2=>?_)) (λ_ s' hq=>K8 (K8 hq)) λ_ _ z=>z)
 obtain ⟨it,fp,tn,J,H2,e,I2,T,st2,f2,rq⟩:=h2
 subst e
 refine zB9 (RR:=λacc C=>compPost .(4) X.A X.xe (some (assign (.Name y py) X.env)) (λ_ s'=>SP X pins D .next s') acc C) (Q:=λd H'=>D.nx (σ.set i (.(r d))) H') C hc S hg ht hb I2 T st2 f2 rq ?_
 intro d s3 H3 xe H' pins' σ' s' I3 f3 J3 q
 obtain ⟨m,hn,_⟩:=id J3.loc
 have Is:Inv X pins σ H' s':=I3.compOut (h':=s'.heap) f3 J3 (K79 _ _)
 obtain ⟨oC,es,ep,hoC,hdC,hrC⟩:=id hn
 have hC:H' s3.heap.objs.size=none:=J3.free
 have neL:s3.heap.objs.size≠X.env.locals:=K2k I3.lt
 have nfs:s3.heap.objs.size∉X.fs:=I3.nofs (K05 _)
 have Ip:Inv X (pins++[(s3.heap.objs.size,oC)]) σ H' s':=Is.pins_of λp hp=>by
  rcases K0o.mp hp with z|z
  ·exact Is.pin p (K14 _ z)
  ·obtain rfl:p=(s3.heap.objs.size,oC):=by simpa using z
   exact ⟨hoC,hC,neL,nfs,λv hv=>by have hdC':oC.data=_:=hdC;rw [hdC'] at hv;cases hv⟩
 show wpAny _ X.A (assign (.Name y py) X.env (.ref d)) _ _ s'
 refine thn (z6C (X:=X) (i:=i) hN hy (.inl hl) (.inr hl) _ s' σ H' (.ref d) (.ref d) (λσ2 H2=>D.nx σ2 H2) Ip rfl q) λ_ s4 ⟨σ4,H4,I4,q4⟩=>?_
 have pn:=I4.pin (s3.heap.objs.size,oC) (K14 _ (K14 _ .(e)))
 refine ⟨m,⟨oC,es,ep,pn.1,hdC,hrC⟩,λh' hs=>⟨σ4,H4,?_,q4⟩⟩
 have I4u:Inv X pins σ4 H4 s4:=I4.unpinned
 have st:=I4u.step (g':=s4.gens) (t':=s4.toks) (d':=s4.drawn) (h':=h') (H':=H4) (ch:=[s3.heap.objs.size]) (λb hb=>?_) (λb o _ _ hc e _=>(hs.2 b (by simpa using hc)).trans e)
  (λb o _ _ hc e _=>⟨o.slots,(hs.2 b (by simpa using hc)).trans e⟩) (λ_ _ _ _ n=>n) (λb o hc e=>⟨o,(hs.2 b (by simpa using hc)).trans e⟩) (λ_ _ e=>e) (λ_ _ _ e=>e) (λb ps e=>⟨#[],by rw [e];simp⟩) (λm hm=>?_) (λb u e=>?_) I4u.bare
 ·exact st
 ·have e:b=s3.heap.objs.size:=by simpa using hb
  subst e
  refine ⟨.inr I3.sz,neL,λx c e2 z=>?_,λp hp z=>?_⟩
  ·obtain ⟨v,q2⟩:=I3.cell x c e2
   exact absurd q2.lt (by rw [z];exact K2j _)
  ·have e3:=(I3.pin p hp).1
   exact absurd (K08 e3) (by rw [z];exact K2j _)
 ·obtain ⟨o,es',ep',ho',r'⟩:=hm
  exact ⟨o,es',ep',(hs.2 _ (K34 neL)).trans ho',r'⟩
 ·refine (I4u.hok b u e).stay (λc v hc q=>?_) (λ_ q=>q) λ_ _ q=>q
  have n4:H4 s3.heap.objs.size=none:=pn.2.1
  have ne:c≠s3.heap.objs.size:=by
   rintro rfl
   rcases hc with z|z
   ·rw [← z,n4] at e;cases e
   ·rw [n4] at z;cases z
  exact (hs.2 c ne).trans q
def bApp (te:TE) (D:Addr):TB:=λσ H Q=>te σ H λv H4=>∃acc,H4 D=.(l acc)/\acc.length<sizeLine/\Q (upd H4 D (.lst (acc++[v])))
theorem z8K (he:PE X elt te):PBd X (do let _ ← call (.builtin "list.append") [.ref D,← eval elt X.env]) (bApp te D):=λpins s σ H Q I h=>by
 refine K1 (thn (he pins s σ H _ I h) λv sa ⟨y,Ha,Ia,ra,acc,ea,za,q⟩=>?_)
 refine K1 (thn (z55 (X:=X) _ sa σ Ha (.ref D) [y] (.ref D) [v] (λ_ H'=>H'=upd Ha D (.lst (acc++[y]))) Ia rfl (.cons ra .nil) ⟨D,acc,y,rfl,rfl,ea,za,rfl⟩) λ_ sb ⟨_,Hb,Ib,_,eb⟩=>K8 ?_)
 subst eb
 exact ⟨σ,_,Ib,λ_ _ h=>h,q⟩
theorem z9L {pins:List .(f)}{σ:St}{H:Hp}{s:Shared}{a:Addr}{kvs:List (Key×V)}{k:Key}{v:V}{u r:Value}{A:Around}{E:Value->Shared->Prop}{Q:Unit->Shared->Prop}
 (I:Inv X pins σ H s) (e:H a=some (.dK kvs)) (l:kvs.length<sizeLine) (ry:RelV (kV k) u) (rv:RelV v r) (h:∀s',Inv X pins σ (upd H a (.dK (putK kvs k v))) s'->Q () s') :
 wpAny .(4) A (dictSet a u r) Q E s:=by
 obtain ⟨z,hd,vs,rel,dd⟩:=z7U I.hok e
 have hz:vs.length≤sizeLine:=by rw [← rel.length];exact z
 have hl:(putK kvs k v).length≤sizeLine:=by have:=z1q kvs k v;omega
 refine wpAny_dictSet_pairs (hsz:=hz) (z7S ry) dd λh' dd' hs=>h _ ?_
 have he:∃q,h'.get? a=some q:=let ⟨q,_,_,hq,_⟩:=dd';⟨q,hq⟩
 exact z3D I (by rw [e];exact K35) hs he (z8x hl hd (rel.put k rv) dd')
def bPut (te tv:TE) (D:Addr):TB:=λσ H Q=>te σ H λy H4=>tv σ H4 λv H5=>∃k kvs,y=kV k/\H5 D=some (.dK kvs)/\kvs.length<sizeLine/\Q (upd H5 D (.dK (putK kvs k v)))
theorem z9M (he:PE X elt te) (hv:PE X val tv):PBd X (do
 let kv ← eval elt X.env
 let vv ← K3v [kv] (eval val X.env)
 K4q { elt.pos with endLine:=val.pos.endLine,endCol:=val.pos.endCol }
 K3v [kv,vv] (dictSet D kv vv)) (bPut te tv D):=λpins s σ H Q I h=>by
 refine K1 (thn (he pins s σ H _ I h) λkv sa ⟨y,Ha,Ia,ra,qa⟩=>?_)
 refine K1 (K1w (thn (hv pins sa σ Ha _ Ia qa) λvv sb ⟨z,Hb,Ib,rb,kk,kvs,ey,eb,zb,q⟩=>?_))
 subst ey
 exact K1 (K4i (K1w (z9L Ib eb zb ra rb λs' I'=>⟨σ,_,I',λ_ _ h=>h,q⟩)))
def bIn (wi1:TI) (g1:TG) (ti1:TT) (tb1:TB):TB:=λσ H Q=>wi1 σ H λJ1 H3=>runG g1 ti1 tb1 σ J1 Q H3
def inner (ce iter1:Expr) (D:Addr) (env:Env):Sem Unit:=do
 let x ← eval iter1 env
 K4q iter1.pos
 let x ← K12 iter1 env x
 let _ ← runOwn (.compStart ce 1 (← K3v [x] (pyIter x)) (.ref D) env) env
theorem zl1 {gs:List Comprehension}{c0:Comprehension}(hce:CK ce) (hcl:clausesOf ce=c0::⟨tg1,iter1,ifs1,0⟩::gs) (htn:∀it,compTurn ce 1 (.ref it) (.ref D) X.env=z43 p1 tg1 ifs1 (.ref it) X.env b1 (.compLoop ce 1 (.ref it) (.ref D) X.env)) (hc:X.calm=true)
 (hi1:PI X tg1 iter1 wi1) (hg1:∀xe,PG (X.wish xe) tg1 g1) (ht1:∀xe,PTs (X.wish xe) ifs1 ti1) (hb1:∀xe,PBd (X.wish xe) b1 tb1) (hs1:∀x,K12 iter1 X.env x=pure x):PBd X (inner ce iter1 D X.env) (bIn wi1 g1 ti1 tb1):=λpins s σ H Q I h=>by
 unfold inner
 refine K1 (thn (hi1 pins s σ H _ I h) λv9 s9 h9=>?_)
 refine K1 (K4i (K1 (Z0v (hs1 v9) (K1 (K1w (thn h9 λitv sa ha=>?_))))))
 obtain ⟨it1,fp1,tn1,J1,Ha,e,Ia,T1,sta,fa,rq⟩:=ha
 subst e
 have st:K4x .(4) X.A (.compStart ce 1 (.ref it1) (.ref D) X.env) (λr s'=>match r with
  | .ok _=>∃σ' H',Inv X pins σ' H' s'/\Kp σ σ'/\Q H'
  | .error e=>cameBackBy .(4) X.A X.env X.xe e s') sa:=by
  have loop:=zK9 (R:=λr s'=>match r with
   | .ok _=>∃σ' H',Inv X pins σ' H' s'/\Kp σ σ'/\Q H'
   | .error e=>cameBackBy .(4) X.A X.env X.xe e s') (htn it1) hce hc (hg1 _) (ht1 _) (hb1 _) Ia T1 sta fa rq λs' H' I' q=>⟨σ,H',I',λ_ _ h=>h,q⟩
  exact z0D hce (by rw [hcl];rfl) loop (T1.self _ 0 _ _ _ sta loop)
 refine K1 (wpAny_runOwn (K3t st λr s' hr=>?_))
 cases r with
 | ok f=>exact K8 hr
 | error e=>exact hr
end
theorem zv7 {elt tg iter:Expr}{ifs:List Expr}{sc:Scope}{pos:Pos}:CmE (.ListComp elt [⟨tg,iter,ifs,0⟩] sc pos) sc tg iter ifs (Z05 []) (.lst []) (λD env=>do let _ ← call (.builtin "list.append") [.ref D,← eval elt env]) iter.pos :=
 ⟨.inl ⟨_,_,_,_,rfl⟩,⟨_,rfl⟩,λ_ _ _=>rfl,zb5,λ_=>⟨_,rfl⟩,λ_ _=>⟨_,rfl⟩⟩
theorem zq2 {elt val tg iter:Expr}{ifs:List Expr}{sc:Scope}{pos:Pos}:CmE (.DictComp elt val [⟨tg,iter,ifs,0⟩] sc pos) sc tg iter ifs newDict (.dK []) (λD env=>do
 let kv ← eval elt env
 let vv ← K3v [kv] (eval val env)
 K4q { elt.pos with endLine:=val.pos.endLine,endCol:=val.pos.endCol }
 K3v [kv,vv] (dictSet D kv vv)) iter.pos :=
 ⟨.inr ⟨_,_,_,_,_,rfl⟩,⟨_,rfl⟩,λ_ _ _=>rfl,za7,λ_=>⟨_,rfl⟩,λ_ _=>⟨_,rfl⟩⟩
theorem tn2 {ce tg iter iter1:Expr}{it D:Addr}{env:Env}{m:Sem Fin}(h:m=(do
 K4q iter.pos
 match ← pyNext (.ref it) with
 | none=>pure (.done .next)
 | some v =>
  K4e tg (.ref it) v
  assign tg env v
  let ok ← z3m [] env
  if ok then
   let x ← eval iter1 env
   K4q iter1.pos
   let x ← K12 iter1 env x
   let _ ← runOwn (.compStart ce 1 (← K3v [x] (pyIter x)) (.ref D) env) env
  again (.compLoop ce 0 (.ref it) (.ref D) env))):m=z43 iter.pos tg [] (.ref it) env (inner ce iter1 D env) (.compLoop ce 0 (.ref it) (.ref D) env):=by
 rw [h]
 unfold z43 inner
 refine congrArg _ (funext λ_=>congrArg _ (funext λr=>?_))
 cases r with
 | none=>rfl
 | some v =>
  dsimp only
  refine congrArg _ (funext λ_=>congrArg _ (funext λ_=>?_))
  show (z3m [] env >>= _)=(z3m [] env >>= _)
  refine congrArg _ (funext λok=>?_)
  cases ok with
  | false=>rfl
  | true =>
   simp only [if_true,bind_assoc,pure_bind]
theorem zf6 {elt tg iter tg1 iter1:Expr}{ifs1:List Expr}{sc:Scope}{pos:Pos}:CmE .(y) sc tg iter [] (Z05 []) (.lst []) (λD env=>inner .(y) iter1 D env) iter.pos :=
 ⟨.inl ⟨_,_,_,_,rfl⟩,⟨_,rfl⟩,λ_ _ _=>tn2 rfl,zb5,λ_=>⟨_,rfl⟩,λ_ _=>⟨_,rfl⟩⟩
theorem zh0 {elt val tg iter tg1 iter1:Expr}{ifs1:List Expr}{sc:Scope}{pos:Pos}:CmE (.DictComp elt val [⟨tg,iter,[],0⟩,⟨tg1,iter1,ifs1,0⟩] sc pos) sc tg iter [] newDict (.dK []) (λD env=>inner (.DictComp elt val [⟨tg,iter,[],0⟩,⟨tg1,iter1,ifs1,0⟩] sc pos) iter1 D env) iter.pos :=
 ⟨.inr ⟨_,_,_,_,_,rfl⟩,⟨_,rfl⟩,λ_ _ _=>tn2 rfl,za7,λ_=>⟨_,rfl⟩,λ_ _=>⟨_,rfl⟩⟩
open PySem
def excO (a C:Addr):HO:=.ext λh=>∃o,h.get? a=some o/\o.cls=.ref C
def dctO (a:Addr):HO:=.ext λh=>∃o,h.get? a=some o/\o.cls=.type "dict"
end L2
namespace FT
inductive D where
 | non|bl (b:Bool)|int (i:Int)|str (x:Str)|tup (xs:List D)|fl (xs:List D)|ref (n:Nat)
inductive O where
 | lst (xs:List D)
 | set (ks:List Key)
 | dct
 | dK (kvs:List (Key×D))
 | dF (kvs:List (Key×D))
 | exc (c:Str)
abbrev AH:=List O
abbrev G:=List (Option D)
structure Exn where
 cls:Str
 fs:List (Str×D)
inductive Res (α:Type) where
 | ok (a:α) (h:AH)|err (x:Exn) (h:AH)|bad
abbrev M (α:Type):=AH->Res α
def M.pure {α:Type} (a:α):M α:=λh=>.ok a h
def M.bind {α β:Type} (m:M α) (f:α->M β):M β:=λh=>match m h with
 | .ok a h1=>f a h1
 | .err x h1=>.err x h1
 | .bad=>.bad
instance:Monad M where
 pure:=M.pure
 bind:=M.bind
def bad {α:Type}:M α:=λ_=>.bad
theorem M.bind_eq {α β:Type}(m:M α) (f:α->M β) (h:AH):(m >>= f) h=match m h with
 | .ok a h1=>f a h1
 | .err x h1=>.err x h1
 | .bad=>.bad:=rfl
theorem M.bind_ok {α β:Type}{m:M α}{f:α->M β}{h h1:AH}{a:α}(e:m h=.ok a h1):(m >>= f) h=f a h1:=by rw [M.bind_eq,e]
def SqLP (K:K0) (H:Hp) (a:Addr) (xs:List V):Prop :=
 (∃o,H a=some (.frz o (.lst xs))) ∨
  ∃(o:Obj) (its:Array Value) (n:Nat),K.lookup a=some o/\o.cls=.type "list"/\o.dict=none/\o.data=.seq its n/\its.size≤sizeLine/\Vals xs its.toList
theorem SqLP.sq {K:K0}{H:Hp}{a:Addr}{xs:List V}(h:SqLP K H a xs):SqL K H a xs:=by
 rcases h with ⟨o,h⟩|h
 ·exact .inl (.inr ⟨o,h⟩)
 ·exact .inr h
mutual
def RD (K:K0) (ρ:List Addr) (H:Hp):D->V->Prop
 | .non,v=>v=.non
 | .bl b,v=>v=.bl b
 | .int i,v=>v=.int i
 | .str x,v=>v=.str x
 | .tup ds,v=>∃a xs,v=.ref a/\SqT K H a xs/\RDs K ρ H ds xs
 | .fl ds,v=>∃a xs,v=.ref a/\SqLP K H a xs/\RDs K ρ H ds xs
 | .ref n,v=>∃a,v=.ref a/\ρ[n]?=some a
def RDs (K:K0) (ρ:List Addr) (H:Hp):List D->List V->Prop
 | [],xs=>xs=[]
 | d::ds,xs=>∃x r,xs=x::r/\RD K ρ H d x/\RDs K ρ H ds r
end
def Pre (ρ ρ':List Addr):Prop:=∀(n:Nat) a,ρ[n]?=some a->ρ'[n]?=some a
theorem Pre.refl (ρ:List Addr):Pre ρ ρ:=λ_ _ h=>h
theorem Pre.trans {a b c:List Addr}(x:Pre a b) (y:Pre b c):Pre a c:=λn z h=>y n z (x n z h)
theorem Pre.app (ρ r:List Addr):Pre ρ (ρ++r):=λn a h=>by
 rw [K0i (K2.mp h).1];exact h
structure Ext (K:K0) (H H':Hp):Prop where
 t:∀a xs,SqT K H a xs->SqT K H' a xs
 l:∀a xs,SqLP K H a xs->SqLP K H' a xs
 d:∀a o vs,H a=some (.frz o (.dK vs))->H' a=some (.frz o (.dK vs))
theorem Ext.refl (K:K0) (H:Hp):Ext K H H:=⟨λ_ _ h=>h,λ_ _ h=>h,λ_ _ _ h=>h⟩
theorem Ext.trans {K:K0}{a b c:Hp}(x:Ext K a b) (y:Ext K b c):Ext K a c:=⟨λz xs h=>y.t z xs (x.t z xs h),λz xs h=>y.l z xs (x.l z xs h),λz o vs h=>y.d z o vs (x.d z o vs h)⟩
def Trk:HO->Prop
 | .lst _=>True
 | .set _=>True
 | .ext _=>True
 | .dK _=>True
 | _=>False
theorem Ext.upd {K:K0}{H:Hp}{p:Addr}{o:HO}(h:H p=none∨∃u,H p=some u/\Trk u):Ext K H (upd H p o):=by
 have ne:∀{b:Addr} {u:HO},H b=some u->¬ Trk u->b≠p:=λ{b u} e n z=>by
  subst z
  rcases h with h|⟨u',h,tr⟩
  ·rw [h] at e;cases e
  ·rw [h] at e;cases e;exact n tr
 refine ⟨λa xs q=>?_,λa xs q=>?_,λa o vs q=>by rw [J0 (ne q (λz=>z))];exact q⟩
 ·rcases q with (q|⟨u,q⟩)|q
  ·exact .inl (.inl (by rw [J0 (ne q (λz=>z))];exact q))
  ·exact .inl (.inr ⟨u,by rw [J0 (ne q (λz=>z))];exact q⟩)
  ·exact .inr q
 ·rcases q with ⟨u,q⟩|q
  ·exact .inl ⟨u,by rw [J0 (ne q (λz=>z))];exact q⟩
  ·exact .inr q
section
variable {K:K0}{ρ ρ':List Addr}{H H':Hp}
mutual
theorem RD.mono (p:Pre ρ ρ') (e:Ext K H H'):∀{d:D}{v:V},RD K ρ H d v->RD K ρ' H' d v
 | .non,v,h=>by simpa [RD] using h
 | .bl b,v,h=>by simpa [RD] using h
 | .int b,v,h=>by simpa [RD] using h
 | .str b,v,h=>by simpa [RD] using h
 | .tup ds,v,h=>by
  simp only [RD] at h ⊢
  obtain ⟨a,xs,h1,h2,h3⟩:=h
  exact ⟨a,xs,h1,e.t a xs h2,RDs.mono p e h3⟩
 | .fl ds,v,h=>by
  simp only [RD] at h ⊢
  obtain ⟨a,xs,h1,h2,h3⟩:=h
  exact ⟨a,xs,h1,e.l a xs h2,RDs.mono p e h3⟩
 | .ref n,v,h=>by
  simp only [RD] at h ⊢
  obtain ⟨a,h1,h2⟩:=h
  exact ⟨a,h1,p n a h2⟩
theorem RDs.mono (p:Pre ρ ρ') (e:Ext K H H'):∀{ds:List D}{xs:List V},RDs K ρ H ds xs->RDs K ρ' H' ds xs
 | [],xs,h=>by simpa [RDs] using h
 | d::ds,xs,h=>by
  simp only [RDs] at h ⊢
  obtain ⟨x,r,h1,h2,h3⟩:=h
  exact ⟨x,r,h1,RD.mono p e h2,RDs.mono p e h3⟩
end
theorem RDs.nil:RDs K ρ H [] []:=by simp [RDs]
theorem RDs.cons {d:D}{ds:List D}{x:V}{xs:List V}(h:RD K ρ H d x) (t:RDs K ρ H ds xs):RDs K ρ H (d::ds) (x::xs):=by
 simp only [RDs];exact ⟨x,xs,rfl,h,t⟩
theorem RDs.pair:∀{ds:List D}{xs:List V},RDs K ρ H ds xs->Paired (RD K ρ H) ds xs
 | [],xs,h=>by simp only [RDs] at h;subst h;exact .nil
 | d::ds,xs,h=>by
  simp only [RDs] at h
  obtain ⟨x,r,rfl,h2,h3⟩:=h
  exact .cons h2 h3.pair
theorem RDs.length {ds:List D}{xs:List V}(h:RDs K ρ H ds xs):ds.length=xs.length:=K4g h.pair
theorem RDs.append {a b:List D}{xs ys:List V}(h:RDs K ρ H a xs) (t:RDs K ρ H b ys):RDs K ρ H (a++b) (xs++ys):=by
 induction a generalizing xs with
 | nil=>simp only [RDs] at h;subst h;exact t
 | cons d ds ih =>
  simp only [RDs] at h
  obtain ⟨x,r,rfl,h2,h3⟩:=h
  exact RDs.cons h2 (ih h3)
theorem RDs.get {ds:List D}{xs:List V}{i:Nat}{d:D}(h:RDs K ρ H ds xs) (e:ds[i]?=some d):∃x,xs[i]?=some x/\RD K ρ H d x:=by
 induction ds generalizing xs i with
 | nil=>simp at e
 | cons a ds ih =>
  simp only [RDs] at h
  obtain ⟨x,r,rfl,h2,h3⟩:=h
  cases i with
  | zero=>simp at e;subst e;exact ⟨x,rfl,h2⟩
  | succ i =>
   obtain ⟨y,h4,h5⟩:=ih h3 (by simpa using e)
   exact ⟨y,by simpa using h4,h5⟩
theorem RDs.getV {ds:List D}{xs:List V}{i:Nat}{x:V}(h:RDs K ρ H ds xs) (e:xs[i]?=some x):∃d,ds[i]?=some d/\RD K ρ H d x:=by
 have hl:=h.length
 have hi:=(K2.mp e).1
 obtain ⟨y,h1,h2⟩:=h.get (K6 (l:=ds) (i:=i) .(0))
 rw [e] at h1;cases h1
 exact ⟨_,K6 .(0),h2⟩
theorem RDs.drop {ds:List D}{xs:List V}(n:Nat) (h:RDs K ρ H ds xs):RDs K ρ H (ds.drop n) (xs.drop n):=by
 induction n generalizing ds xs with
 | zero=>exact h
 | succ n ih=>cases ds with
  | nil=>simp only [RDs] at h;subst h;exact RDs.nil
  | cons d ds=>simp only [RDs] at h;obtain ⟨x,r,rfl,h2,h3⟩:=h;exact ih h3
theorem RDs.take {ds:List D}{xs:List V}(n:Nat) (h:RDs K ρ H ds xs):RDs K ρ H (ds.take n) (xs.take n):=by
 induction n generalizing ds xs with
 | zero=>exact RDs.nil
 | succ n ih=>cases ds with
  | nil=>simp only [RDs] at h;subst h;exact RDs.nil
  | cons d ds=>simp only [RDs] at h;obtain ⟨x,r,rfl,h2,h3⟩:=h;exact RDs.cons h2 (ih h3)
theorem RDs.set {ds:List D}{xs:List V}{d:D}{x:V}(n:Nat) (h:RDs K ρ H ds xs) (hd:RD K ρ H d x):RDs K ρ H (ds.set n d) (xs.set n x):=by
 induction n generalizing ds xs with
 | zero=>cases ds with
  | nil=>simp only [RDs] at h;subst h;exact RDs.nil
  | cons a ds=>simp only [RDs] at h;obtain ⟨y,r,rfl,h2,h3⟩:=h;exact RDs.cons hd h3
 | succ n ih=>cases ds with
  | nil=>simp only [RDs] at h;subst h;exact RDs.nil
  | cons a ds=>simp only [RDs] at h;obtain ⟨y,r,rfl,h2,h3⟩:=h;exact RDs.cons h2 (ih h3)
theorem RDs.eraseIdx {ds:List D}{xs:List V}(n:Nat) (h:RDs K ρ H ds xs):RDs K ρ H (ds.eraseIdx n) (xs.eraseIdx n):=by
 induction n generalizing ds xs with
 | zero=>cases ds with
  | nil=>simp only [RDs] at h;subst h;exact RDs.nil
  | cons a ds=>simp only [RDs] at h;obtain ⟨y,r,rfl,h2,h3⟩:=h;exact h3
 | succ n ih=>cases ds with
  | nil=>simp only [RDs] at h;subst h;exact RDs.nil
  | cons a ds=>simp only [RDs] at h;obtain ⟨y,r,rfl,h2,h3⟩:=h;exact RDs.cons h2 (ih h3)
theorem RDs.flat {ds:List D}{xs:List V}(n:Nat) (h:RDs K ρ H ds xs):RDs K ρ H (K0c n ds).flatten (K0c n xs).flatten:=by
 induction n with
 | zero=>exact RDs.nil
 | succ n ih=>rw [K2s,K3p,K2s,K3p];exact h.append ih
def RK (K:K0) (ρ:List Addr) (H:Hp):List (Key×D)->List (Key×V)->Prop:=Paired λp q=>p.1=q.1/\RD K ρ H p.2 q.2
theorem RK.imp {α β:Type}{P Q:α->β->Prop}(f:∀a b,P a b->Q a b):∀{xs:List α}{ys:List β},Paired P xs ys->Paired Q xs ys
 | _,_,.nil=>.nil
 | _,_,.cons a b=>.cons (f _ _ a) (RK.imp f b)
theorem RK.mono {kvs:List (Key×D)}{vs:List (Key×V)}(p:Pre ρ ρ') (e:Ext K H H') (r:RK K ρ H kvs vs):RK K ρ' H' kvs vs:=RK.imp (λ_ _ h=>⟨h.1,h.2.mono p e⟩) r
def RO (K:K0) (ρ:List Addr) (H:Hp) (o:O) (a:Addr):Prop:=match o with
 | .lst ds=>∃xs,H a=.(l xs)/\RDs K ρ H ds xs
 | .set ks=>H a=some (.set ks)
 | .dct=>H a=some (dctO a)
 | .dK kvs=>∃vs,H a=some (.dK vs)/\RK K ρ H kvs vs
 | .dF kvs=>∃ob vs,H a=some .(C)/\RK K ρ H kvs vs
 | .exc c=>∃C,K1u K K1l c=some (.(r C))/\H a=some (excO a C)
structure RH (K:K0) (ρ:List Addr) (h:AH) (H:Hp):Prop where
 len:ρ.length=h.length
 nd:∀(i j:Nat) a,ρ[i]?=some a->ρ[j]?=some a->i=j
 obj:∀(n:Nat) o a,h[n]?=some o->ρ[n]?=some a->RO K ρ H o a
theorem RH.at {h:AH}(r:RH K ρ h H) {n:Nat}{o:O}(e:h[n]?=some o):∃a,ρ[n]?=some a/\RO K ρ H o a:=by
 have hi:=(K2.mp e).1
 have hj:n<ρ.length:=by rw [r.len];exact hi
 have q:ρ[n]?=some ρ[n]:=K6 hj
 exact ⟨_,q,r.obj n o _ e q⟩
def O.fz:O->Bool
 | .dF _=>true
 | _=>false
theorem RO.there {o:O}{a:Addr}(z:RO K ρ H o a):∃u,H a=some u/\(o.fz=false->Trk u):=by
 cases o with
 | lst ds=>obtain ⟨xs,z,_⟩:=z;exact ⟨_,z,λ_=>trivial⟩
 | set ks=>exact ⟨_,z,λ_=>trivial⟩
 | dct=>exact ⟨_,z,λ_=>trivial⟩
 | dK kvs=>obtain ⟨vs,z,_⟩:=z;exact ⟨_,z,λ_=>trivial⟩
 | dF kvs=>obtain ⟨ob,vs,z,_⟩:=z;exact ⟨_,z,λq=>by cases q⟩
 | exc c=>obtain ⟨C,_,z⟩:=z;exact ⟨_,z,λ_=>trivial⟩
theorem RH.there {h:AH}(r:RH K ρ h H) {n:Nat}{a:Addr}(e:ρ[n]?=some a):∃u,H a=some u:=by
 have hi:=(K2.mp e).1
 have hj:n<h.length:=by rw [← r.len];exact hi
 obtain ⟨u,z,_⟩:=(r.obj n _ a (K6 hj) e).there
 exact ⟨u,z⟩
theorem RH.tracked {h:AH}(r:RH K ρ h H) {n:Nat}{a:Addr}{o:O}(e:ρ[n]?=some a) (eo:h[n]?=some o) (nf:o.fz=false:=by rfl):∃u,H a=some u/\Trk u:=by
 obtain ⟨u,z,q⟩:=(r.obj n _ a eo e).there
 exact ⟨u,z,q nf⟩
theorem RO.mono {o:O}{a:Addr}(p:Pre ρ ρ') (e:Ext K H H') (hs:H' a=H a) (r:RO K ρ H o a):RO K ρ' H' o a:=by
 cases o with
 | lst ds=>obtain ⟨xs,h1,h2⟩:=r;exact ⟨xs,hs.trans h1,h2.mono p e⟩
 | set ks=>exact hs.trans r
 | dct=>exact hs.trans r
 | dK kvs=>obtain ⟨vs,h1,h2⟩:=r;exact ⟨vs,hs.trans h1,h2.mono p e⟩
 | dF kvs=>obtain ⟨ob,vs,h1,h2⟩:=r;exact ⟨ob,vs,hs.trans h1,h2.mono p e⟩
 | exc c=>obtain ⟨C,h1,h2⟩:=r;exact ⟨C,h1,hs.trans h2⟩
theorem RH.other {h:AH}{p:Addr}{o:HO}(r:RH K ρ h H) (hp:H p=none):RH K ρ h (upd H p o) :=
 ⟨r.len,r.nd,λn u a h1 h2=>(r.obj n u a h1 h2).mono .(6) (Ext.upd (.inl hp)) (by
  obtain ⟨u,q⟩:=r.there h2
  exact J0 (J6 q hp))⟩
theorem RH.pushO {h:AH}{p:Addr}{o':O}{u:HO}(r:RH K ρ h H) (hp:H p=none) (hd:RO K (ρ++[p]) (upd H p u) o' p):RH K (ρ++[p]) (h++[o']) (upd H p u):=by
 have ne:∀{n:Nat} {a:Addr},ρ[n]?=some a->a≠p:=λe=>by
  obtain ⟨xs,q⟩:=r.there e
  exact J6 q hp
 have ext:Ext K H (L2.upd H p u):=Ext.upd (.inl hp)
 refine ⟨by simp [r.len],λi j a h1 h2=>?_,λn o a h1 h2=>?_⟩
 ·rw [K3s] at h1 h2
  split at h1<;>split at h2
  ·exact r.nd i j a h1 h2
  ·rename_i hi hj
   rw [K1r] at h2
   split at h2
   ·cases h2;exact absurd rfl (ne h1)
   ·cases h2
  ·rename_i hi hj
   rw [K1r] at h1
   split at h1
   ·cases h1;exact absurd rfl (ne h2)
   ·cases h1
  ·rename_i hi hj
   rw [K1r] at h1 h2
   split at h1
   ·split at h2
    ·omega
    ·cases h2
   ·cases h1
 ·rw [K3s] at h1 h2
  rw [r.len] at h2
  split at h1
  ·rename_i hn
   rw [if_pos hn] at h2
   exact (r.obj n o a h1 h2).mono (Pre.app _ _) ext (J0 (ne h2))
  ·rename_i hn
   rw [if_neg hn] at h2
   rw [K1r] at h1 h2
   split at h1
   ·rename_i h0
    rw [if_pos h0] at h2
    cases h1;cases h2
    exact hd
   ·cases h1
theorem RH.push {h:AH}{p:Addr}{ds:List D}{xs:List V}(r:RH K ρ h H) (hp:H p=none) (hd:RDs K ρ H ds xs):RH K (ρ++[p]) (h++[.lst ds]) (upd H p (.lst xs)) :=
 r.pushO hp ⟨xs,y8,hd.mono (Pre.app _ _) (Ext.upd (.inl hp))⟩
theorem RH.pushS {h:AH}{p:Addr}{ks:List Key}(r:RH K ρ h H) (hp:H p=none):RH K (ρ++[p]) (h++[.set ks]) (upd H p (.set ks)):=r.pushO hp y8
theorem RH.setO {h:AH}{n:Nat}{a:Addr}{o0 o':O}{u:HO}(r:RH K ρ h H) (e:h[n]?=some o0) (ea:ρ[n]?=some a) (hd:RO K ρ (upd H a u) o' a) (nf:o0.fz=false:=by rfl):RH K ρ (h.set n o') (upd H a u):=by
 have ext:Ext K H (L2.upd H a u):=Ext.upd (.inr (r.tracked ea e nf))
 refine ⟨by simp [r.len],r.nd,λm o b h1 h2=>?_⟩
 by_cases hm:m=n
 ·subst hm
  rw [ea] at h2;cases h2
  have hi:=(K2.mp e).1
  rw [K0v hi] at h1
  cases h1
  exact hd
 ·rw [K0e (λz=>hm z.symm)] at h1
  exact (r.obj m o b h1 h2).mono .(6) ext (J0 λz=>hm (r.nd m n b h2 (by rw [z];exact ea)))
theorem RH.set {h:AH}{n:Nat}{a:Addr}{ds0 ds:List D}{xs:List V}(r:RH K ρ h H) (e:h[n]?=.(l ds0)) (ea:ρ[n]?=some a) (hd:RDs K ρ H ds xs):RH K ρ (h.set n (.lst ds)) (upd H a (.lst xs)) :=
 r.setO e ea ⟨xs,y8,hd.mono .(6) (Ext.upd (.inr (r.tracked ea e)))⟩
structure RG (K:K0) (ρ:List Addr) (H:Hp) (γ:G) (σ:L2.St):Prop where
 len:γ.length=σ.length
 var:∀(i:Nat) d,γ[i]?=some (some d)->∃v,σ[i]?=some (some v)/\RD K ρ H d v
theorem RG.mono {γ:G}{σ:L2.St}(p:Pre ρ ρ') (e:Ext K H H') (r:RG K ρ H γ σ):RG K ρ' H' γ σ :=
 ⟨r.len,λi d h=>let ⟨v,h1,h2⟩:=r.var i d h;⟨v,h1,h2.mono p e⟩⟩
theorem RG.set {γ:G}{σ:L2.St}{d:D}{v:V}(r:RG K ρ H γ σ) (i:Nat) (hd:RD K ρ H d v):RG K ρ H (γ.set i (some d)) (σ.set i (some v)):=by
 refine ⟨by simp [r.len],λj d' h=>?_⟩
 by_cases hj:i=j
 ·subst hj
  have hi:i<γ.length:=by
   have:=(K2.mp h).1
   simpa using this
  rw [K0v hi] at h
  cases h
  exact ⟨v,K0v (by rw [← r.len];exact hi),hd⟩
 ·rw [K0e hj] at h ⊢
  exact r.var j d' h
structure Rel (K:K0) (ρ:List Addr) (γ:G) (h:AH) (σ:L2.St) (H:Hp):Prop where
 g:RG K ρ H γ σ
 h:RH K ρ h H
abbrev XX:=Exn->List Addr->AH->Hp->Prop
def Fin {α:Type} (K:K0) (EX:XX) (ρ:List Addr) (H:Hp) (P:α->List Addr->AH->Hp->Prop):Res α->Prop
 | .ok a h'=>∀ρ' H',Pre ρ ρ'->Ext K H H'->RH K ρ' h' H'->P a ρ' h' H'
 | .err x h'=>∀ρ' H',Pre ρ ρ'->Ext K H H'->RH K ρ' h' H'->EX x ρ' h' H'
 | .bad=>False
variable {EX:XX}{α β:Type}
theorem Fin.up {P:α->List Addr->AH->Hp->Prop}{r:Res α}(p:Pre ρ ρ') (e:Ext K H H') (f:Fin K EX ρ H P r):Fin K EX ρ' H' P r:=by
 cases r with
 | ok a h=>exact λρ2 H2 p2 e2 r2=>f ρ2 H2 (p.trans p2) (e.trans e2) r2
 | err x h=>exact λρ2 H2 p2 e2 r2=>f ρ2 H2 (p.trans p2) (e.trans e2) r2
 | bad=>exact f
theorem Fin.mono {P P':α->List Addr->AH->Hp->Prop}{r:Res α}(f:Fin K EX ρ H P r) (h:∀a ρ' h' H',Pre ρ ρ'->Ext K H H'->RH K ρ' h' H'->P a ρ' h' H'->P' a ρ' h' H'):Fin K EX ρ H P' r:=by
 cases r with
 | ok a h1=>exact λρ2 H2 p2 e2 r2=>h a ρ2 h1 H2 p2 e2 r2 (f ρ2 H2 p2 e2 r2)
 | err x h1=>exact f
 | bad=>exact f
theorem Fin.bind {P:β->List Addr->AH->Hp->Prop}{m:M α}{f:α->M β}{h:AH}(z:Fin K EX ρ H P ((m >>= f) h)):Fin K EX ρ H (λa ρ1 h1 H1=>Fin K EX ρ1 H1 P (f a h1)) (m h):=by
 rw [M.bind_eq] at z
 cases e:m h with
 | ok a h1=>rw [e] at z;exact λρ2 H2 p2 e2 r2=>Fin.up p2 e2 z
 | err x h1=>rw [e] at z;exact z
 | bad=>rw [e] at z;exact z
end
def tE (K:K0) (EX:XX) (m:G->M D):TE:=λσ H Q=>∃ρ γ h,Rel K ρ γ h σ H/\Fin K EX ρ H (λd ρ' _ H'=>∀v,RD K ρ' H' d v->Q v H') (m γ h)
def tT (K:K0) (EX:XX) (m:G->M Bool):TT:=λσ H Q=>∃ρ γ h,Rel K ρ γ h σ H/\Fin K EX ρ H (λb _ _ H'=>Q b H') (m γ h)
def tL (K:K0) (EX:XX) (m:G->M (List D)):TA:=λσ H Q=>∃ρ γ h,Rel K ρ γ h σ H/\Fin K EX ρ H (λds ρ' _ H'=>∀vs,RDs K ρ' H' ds vs->Q vs H') (m γ h)
inductive Out where
 | nx (γ:G)|rt (d:D)|bk (γ:G)|ct (γ:G)
def OutP (K:K0) (D:Ends) (o:Out) (ρ:List Addr) (H:Hp):Prop:=match o with
 | .nx γ=>∀σ,RG K ρ H γ σ->D.nx σ H
 | .rt d=>∀v,RD K ρ H d v->D.rt v H
 | .bk γ=>∀σ,RG K ρ H γ σ->D.bk σ H
 | .ct γ=>∀σ,RG K ρ H γ σ->D.ct σ H
def tB (K:K0) (EX:XX) (m:G->M Out):TS:=λD σ H=>∃ρ γ h,Rel K ρ γ h σ H/\Fin K EX ρ H (λo ρ' _ H'=>OutP K D o ρ' H') (m γ h)
structure SE (X:Cx) (EX:XX) (e:Expr) (m:G->M D):Prop where
 h:PE X e (tE X.K EX m)
structure SC (X:Cx) (EX:XX) (e:Expr) (m:G->M Bool):Prop where
 h:PT X e (tT X.K EX m)
structure SA (X:Cx) (EX:XX) (es:List Expr) (m:G->M (List D)):Prop where
 h:PA X es (tL X.K EX m)
structure S1 (X:Cx) (EX:XX) (st:Stmt) (m:G->M Out):Prop where
 h:PS X st (tB X.K EX m)
structure SB (X:Cx) (EX:XX) (st:List Stmt) (m:G->M Out):Prop where
 h:PSs X st (tB X.K EX m)
theorem PE.imp {X:Cx}{e:Expr}{t t':TE}(h:PE X e t) (f:∀σ H Q,t' σ H Q->t σ H Q):PE X e t':=λpins s σ H Q I z=>h pins s σ H Q I (f σ H Q z)
theorem PT.imp {X:Cx}{e:Expr}{t t':TT}(h:PT X e t) (f:∀σ H Q,t' σ H Q->t σ H Q):PT X e t':=λpins s σ H Q I z=>h pins s σ H Q I (f σ H Q z)
theorem PA.imp {X:Cx}{e:List Expr}{t t':TA}(h:PA X e t) (f:∀σ H Q,t' σ H Q->t σ H Q):PA X e t':=λpos pins s σ H Q I z=>h pos pins s σ H Q I (f σ H Q z)
theorem PS.imp {X:Cx}{e:Stmt}{t t':TS}(h:PS X e t) (f:∀σ H Q,t' Q σ H->t Q σ H):PS X e t':=λpins s σ H Q I z=>h pins s σ H Q I (f σ H Q z)
theorem PSs.imp {X:Cx}{e:List Stmt}{t t':TS}(h:PSs X e t) (f:∀σ H Q,t' Q σ H->t Q σ H):PSs X e t':=λpins s σ H Q I z=>h pins s σ H Q I (f σ H Q z)
abbrev FE (K:K0) (EX:XX) (ρ:List Addr) (H:Hp) (Q:VK) (r:Res D):Prop:=Fin K EX ρ H (λd ρ' _ H'=>∀v,RD K ρ' H' d v->Q v H') r
theorem FE.here {K:K0}{EX:XX}{ρ:List Addr}{H:Hp}{Q:VK}{d:D}{h:AH}{v:V}(f:FE K EX ρ H Q (.ok d h)) (r:RH K ρ h H) (rd:RD K ρ H d v):Q v H:=f ρ H .(6) .(8) r v rd
theorem FE.tup {K:K0}{EX:XX}{ρ:List Addr}{H:Hp}{Q:VK}{ds:List D}{xs:List V}{h:AH}{p:Addr}(f:FE K EX ρ H Q (.ok (.tup ds) h)) (r:RH K ρ h H) (hd:RDs K ρ H ds xs) (hp:H p=none):Q (.ref p) (upd H p (.tup xs)):=by
 have e:Ext K H (L2.upd H p (.tup xs)):=Ext.upd (.inl hp)
 refine f ρ _ .(6) e (r.other hp) _ ?_
 simp only [RD]
 exact ⟨p,xs,rfl,SqT.of y8,hd.mono .(6) e⟩
theorem FE.lst {K:K0}{EX:XX}{ρ:List Addr}{H:Hp}{Q:VK}{ds:List D}{xs:List V}{h:AH}{p:Addr}(f:FE K EX ρ H Q (.ok .(r) (h++[.lst ds]))) (r:RH K ρ h H) (hd:RDs K ρ H ds xs) (hp:H p=none):Q (.ref p) (upd H p (.lst xs)):=by
 refine f (ρ++[p]) _ (Pre.app _ _) (Ext.upd (.inl hp)) (r.push hp hd) _ ?_
 simp only [RD]
 refine ⟨p,rfl,?_⟩
 rw [← r.len];simp
def getL (n:Nat):M (List D):=λh=>match h[n]? with
 | .(l xs)=>.ok xs h
 | _=>.bad
def newL (xs:List D):M D:=λh=>if xs.length≤sizeLine then .ok .(r) (h++[.lst xs]) else .bad
section
variable {X:Cx}{EX:XX}{a b c e:Expr}{pos:Pos}{ma mb mc:G->M D}
def eVar (i:Nat):G->M D:=λγ=>match γ[i]? with
 | some (some d)=>pure d
 | _=>bad
theorem z0 (i:Nat) {x:Str}(hN:X.N[i]?=some x:=by rfl) (hv:Vis X.env.scope x:=by first|exact Or.inl rfl|exact Or.inr (Or.inl rfl)|exact Or.inr (Or.inr rfl))
 (hd:.(A)=false:=by decide) (hcd:(x==("__classdict__":Str))=false:=by decide):SE X EX (.Name x pos) (eVar i) :=
 ⟨PE.imp (zG4 hN hv hd hcd) λσ H Q ⟨ρ,γ,h,rel,f⟩=>by
  have f':FE X.K EX ρ H Q (eVar i γ h):=f
  unfold eVar at f'
  cases e:γ[i]? with
  | none=>rw [e] at f';exact f'.elim
  | some o=>cases o with
   | none=>rw [e] at f';exact f'.elim
   | some d =>
    rw [e] at f'
    obtain ⟨v,h1,h2⟩:=rel.g.var i d e
    exact ⟨v,h1,FE.here f' rel.h h2⟩⟩
theorem z31 {d:D}{v:V}(h:PE X e (tC v)) (r:∀ρ H,RD X.K ρ H d v):SE X EX e (λ_=>pure d) :=
 ⟨PE.imp h λσ H Q ⟨ρ,γ,h,rel,f⟩=>FE.here f rel.h (r ρ H)⟩
theorem Z3 {i:Int}{j:Nat}:SE X EX (.Constant (.int i) j pos) (λ_=>pure (.int i)):=z31 zF2 λ_ _=>by simp [RD]
theorem z5T {i:Bool}{j:Nat}:SE X EX (.Constant (.bool i) j pos) (λ_=>pure (.bl i)):=z31 zP3 λ_ _=>by simp [RD]
theorem z3s {j:Nat}:SE X EX (.Constant .none j pos) (λ_=>pure .non):=z31 zI9 λ_ _=>by simp [RD]
theorem j9 {i:Str}{j:Nat}:SE X EX (.Constant (.str i) j pos) (λ_=>pure (.str i)):=z31 zC8 λ_ _=>by simp [RD]
def BR (K:K0) (EX:XX) (r:R2) (f:D->D->M D):Prop:=∀ρ h H x y v u Q,RH K ρ h H->RD K ρ H x v->RD K ρ H y u->FE K EX ρ H Q (f x y h)->r v u H Q
def e2 (f:D->D->M D) (ma mb:G->M D):G->M D:=λγ=>do
 let x ← ma γ
 let y ← mb γ
 f x y
theorem za4 {r:R2}{f:D->D->M D}{ta tb:TE}(h:PE X e (tOp r (tE X.K EX ma) (tE X.K EX mb))) (hr:BR X.K EX r f):SE X EX e (e2 f ma mb) :=
 ⟨PE.imp h λσ H Q ⟨ρ,γ,h,rel,fin⟩=>⟨ρ,γ,h,rel,(Fin.bind fin).mono λx ρ1 h1 H1 p1 e1 r1 f1 v rv=>⟨ρ1,γ,h1,⟨rel.g.mono p1 e1,r1⟩,(Fin.bind f1).mono λy ρ2 h2 H2 p2 e2 r2 f2 u ru =>
  hr ρ2 h2 H2 x y v u Q r2 (rv.mono p2 e2) ru f2⟩⟩⟩
theorem z9f {op:Operator}{r:R2}{f:D->D->M D}(ho:OpR X (K3g op) r) (hr:BR X.K EX r f) (ha:SE X EX a ma) (hb:SE X EX b mb):SE X EX (.BinOp a op b pos) (e2 f ma mb) :=
 za4 (ta:=tE X.K EX ma) (tb:=tE X.K EX mb) (zP7 ho ha.h hb.h) hr
theorem zJ0 {op:CmpOp}{r:R2}{f:D->D->M D}(ho:OpR X (K1y op) r) (hr:BR X.K EX r f) (ha:SE X EX a ma) (hb:SE X EX b mb) (hm:K4j op b=false):SE X EX (.Compare a [op] [b] pos) (e2 f ma mb) :=
 za4 (ta:=tE X.K EX ma) (tb:=tE X.K EX mb) (zw9 ho ha.h hb.h hm) hr
def fI (g:Int->Int->D):D->D->M D
 | .int i,.int j=>pure (g i j)
 | _,_=>bad
theorem zL6 {K:K0}{g:Int->Int->D}{g':Int->Int->V}(hg:∀i j ρ H,RD K ρ H (g i j) (g' i j)):BR K EX (rI0 g') (fI g):=by
 intro ρ h H x y v u Q r rx ry fin
 unfold fI at fin
 split at fin
 ·simp only [RD] at rx ry
  subst rx;subst ry
  exact ⟨_,_,rfl,rfl,FE.here fin r (hg _ _ _ _)⟩
 ·exact fin.elim
def fIC (C:Int->Int->Bool) (g:Int->Int->D):D->D->M D
 | .int i,.int j=>if C i j then pure (g i j) else bad
 | _,_=>bad
theorem zu1 {K:K0}{C:Int->Int->Bool}{C':Int->Int->Prop}{g:Int->Int->D}{g':Int->Int->V}(hc:∀i j,C i j=true->C' i j) (hg:∀i j ρ H,RD K ρ H (g i j) (g' i j)):BR K EX (rI C' g') (fIC C g):=by
 intro ρ h H x y v u Q r rx ry fin
 unfold fIC at fin
 split at fin
 ·simp only [RD] at rx ry
  subst rx;subst ry
  split at fin
  ·rename_i hC
   exact ⟨_,_,rfl,rfl,hc _ _ hC,FE.here fin r (hg _ _ _ _)⟩
  ·exact fin.elim
 ·exact fin.elim
def fDiv:=fIC (λ_ j=>decide (0<j)&&decide (j<1073741824)) λi j=>.int (i / j)
def fMod:=fIC (λ_ j=>decide (0<j)) λi j=>.int (i % j)
def fPow:=fIC (λi j=>decide (0≤j)&&decide (j≤1000)&&decide (-(2 ^ 64)<i)&&decide (i<2 ^ 64)) λi j=>.int (i ^ j.toNat)
theorem za3 (ha:SE X EX a ma) (hb:SE X EX b mb):SE X EX (.BinOp a .FloorDiv b pos) (e2 fDiv ma mb):=z9f zx8 (zu1 (λi j h=>by simp at h;exact h) λi j ρ H=>by simp [RD]) ha hb
theorem z3c (ha:SE X EX a ma) (hb:SE X EX b mb):SE X EX (.BinOp a .Mod b pos) (e2 fMod ma mb):=z9f zL0 (zu1 (λi j h=>by simpa using h) λi j ρ H=>by simp [RD]) ha hb
theorem z8s (ha:SE X EX a ma) (hb:SE X EX b mb):SE X EX (.BinOp a .Pow b pos) (e2 fPow ma mb):=z9f zB6 (zu1 (λi j h=>by
 simp at h
 refine ⟨h.1.1.1,by omega,?_⟩
 have h1:=h.1.2
 have h2:=h.2
 omega) λi j ρ H=>by simp [RD]) ha hb
def fAdd:D->D->M D
 | .int i,.int j=>pure (.int (i+j))
 | .str i,.str j=>if i.length+j.length≤sizeLine then pure (.str (i++j)) else bad
 | .ref i,.ref j=>do
  let x ← getL i
  let y ← getL j
  newL (x++y)
 | .tup x,.tup y=>if !decide (x.length+y.length≤sizeLine) then bad else pure (.tup (x++y))
 | _,_=>bad
theorem z0p {n:Nat}{h h1:AH}{xs:List D}(e:getL n h=.ok xs h1):h1=h/\h[n]?=.(l xs):=by
 unfold getL at e
 split at e
 ·rename_i q;cases e;exact ⟨rfl,q⟩
 ·cases e
theorem z0r {n:Nat}{h h1:AH}{x:Exn}(e:getL n h=.err x h1):False:=by
 unfold getL at e
 split at e<;>cases e
def zs1 (K:K0):R2:=λx y H Q=>∃a b ys,x=.ref a/\y=.ref b/\SqT K H a []/\SqT K H b ys/\Q (.ref b) H
theorem zw7:OpR X (K3g .Add) (zs1 X.K):=by
 intro pins s σ H x y v u Q I rx ry h
 obtain ⟨a,b,ys,rfl,rfl,ha,hb,q⟩:=h
 cases rx
 cases ry
 obtain ⟨its,r1,p1,_⟩:=I.tuple ha
 obtain ⟨its2,r2,p2,_⟩:=I.tuple hb
 have e:its=[]:=(r1.nil_iff).mpr rfl
 subst e
 obtain ⟨⟨cls,dd,data,sl⟩,ho,hc,n,hd⟩:=id p1
 obtain ⟨⟨cls2,dd2,data2,sl2⟩,ho2,hc2,n2,hd2⟩:=id p2
 simp only at hc hd hc2 hd2
 subst hc hd hc2 hd2
 exact Z0d ⟨_,ho,rfl⟩ ⟨_,ho2,rfl⟩ K84 K9j K5p K5j (K54 _ _) (tuple_addW0 a b _ _ n n2 dd dd2 sl sl2 rfl) ⟨ho,ho2,.ref b,H,I,rfl,q⟩
theorem zr8:OpR X (K3g .Add) (λx y H Q=>rI0 (λi j=>.int (i+j)) x y H Q∨(∃i j,x=.str i/\y=.str j/\i.length+j.length≤sizeLine/\Q (.str (i++j)) H)∨rCat x y H Q∨zr4 X.K x y H Q∨zs1 X.K x y H Q) :=
 op_add.or (op_add_str.or (op_cat.or (op_catT.or zw7)))
theorem zw0:BR X.K EX (λx y H Q=>rI0 (λi j=>.int (i+j)) x y H Q∨(∃i j,x=.str i/\y=.str j/\i.length+j.length≤sizeLine/\Q (.str (i++j)) H)∨rCat x y H Q∨zr4 X.K x y H Q∨zs1 X.K x y H Q) fAdd:=by
 intro ρ h H x y v u Q r rx ry fin
 unfold fAdd at fin
 split at fin
 ·simp only [RD] at rx ry;subst rx;subst ry
  exact .inl ⟨_,_,rfl,rfl,FE.here fin r .(t)⟩
 ·simp only [RD] at rx ry;subst rx;subst ry
  split at fin
  ·rename_i hl
   exact .inr (.inl ⟨_,_,rfl,rfl,hl,FE.here fin r .(t)⟩)
  ·exact fin.elim
 ·rename_i i j
  simp only [RD] at rx ry
  obtain ⟨ai,rfl,hi⟩:=rx
  obtain ⟨aj,rfl,hj⟩:=ry
  have f1:=Fin.bind fin
  cases e:getL i h with
  | bad=>rw [e] at f1;exact f1.elim
  | err z hz=>exact (z0r e).elim
  | ok xs h1 =>
   obtain ⟨rfl,q1⟩:=z0p e
   rw [e] at f1
   have f2:=Fin.bind (f1 ρ H .(6) .(8) r)
   cases e3:getL j h1 with
   | bad=>rw [e3] at f2;exact f2.elim
   | err z hz=>exact (z0r e3).elim
   | ok ys h2 =>
    obtain ⟨rfl,q2⟩:=z0p e3
    rw [e3] at f2
    have f3:=f2 ρ H .(6) .(8) r
    dsimp only at f3
    unfold newL at f3
    split at f3
    ·rename_i hl
     obtain ⟨a1,n1,xs1,o1,d1⟩:=r.at q1
     obtain ⟨a2,n2,xs2,o2,d2⟩:=r.at q2
     rw [hi] at n1;cases n1
     rw [hj] at n2;cases n2
     refine .inr (.inr (.inl ⟨_,_,_,_,rfl,rfl,o1,o2,?_,λp hp=>FE.lst f3 r (d1.append d2) hp⟩))
     rw [← d1.length,← d2.length,← K01];exact hl
    ·exact f3.elim
 ·rename_i x y
  simp only [RD] at rx ry
  obtain ⟨ax,xs,rfl,hx,dx⟩:=rx
  obtain ⟨ay,ys,rfl,hy,dy⟩:=ry
  split at fin
  ·exact fin.elim
  ·rename_i hc
   simp at hc
   have l1:=dx.length
   have l2:=dy.length
   by_cases hxe:xs=[]
   ·subst hxe
    have xe:x=[]:=by simpa using l1
    subst xe
    refine .inr (.inr (.inr (.inr ⟨ax,ay,ys,rfl,rfl,hx,hy,FE.here fin r ?_⟩)))
    simp only [RD]
    exact ⟨ay,ys,rfl,hy,by simpa using dy⟩
   refine .inr (.inr (.inr (.inl ⟨ax,ay,xs,ys,rfl,rfl,hx,hy,hxe,by omega,λe=>?_,λe p hp=>FE.tup fin r (dx.append dy) hp⟩)))
   ·subst e
    refine FE.here fin r ?_
    simp only [RD]
    have:y=[]:=by simpa using l2
    subst this
    exact ⟨ax,xs,rfl,hx,by simpa using dx⟩
 ·exact fin.elim
theorem z0B (ha:SE X EX a ma) (hb:SE X EX b mb):SE X EX (.BinOp a .Add b pos) (e2 fAdd ma mb):=z9f zr8 zw0 ha hb
def fMul:D->D->M D
 | .int i,.int j=>if (decide (-(2 ^ 64)<i)&&decide (i<2 ^ 64))||(decide (-(2 ^ 64)<j)&&decide (j<2 ^ 64)) then pure (.int (i * j)) else bad
 | .ref i,.int j=>do
  let x ← getL i
  if decide (-(2 ^ 63)≤j)&&decide (j<2 ^ 63) then newL (K0c j.toNat x).flatten else bad
 | _,_=>bad
theorem zJ5:BR X.K EX (λx y H Q=>rI CMul (λi j=>.int (i * j)) x y H Q∨rRep x y H Q) fMul:=by
 intro ρ h H x y v u Q r rx ry fin
 unfold fMul at fin
 split at fin
 ·simp only [RD] at rx ry;subst rx;subst ry
  split at fin
  ·rename_i hc
   refine .inl ⟨_,_,rfl,rfl,?_,FE.here fin r .(t)⟩
   simp only [K2f,K0h,decide_eq_true_eq] at hc
   exact hc
  ·exact fin.elim
 ·rename_i i j
  simp only [RD] at rx ry
  obtain ⟨ai,rfl,hi⟩:=rx
  subst ry
  have f1:=Fin.bind fin
  cases e:getL i h with
  | bad=>rw [e] at f1;exact f1.elim
  | err z hz=>exact (z0r e).elim
  | ok xs h1 =>
   obtain ⟨rfl,q1⟩:=z0p e
   rw [e] at f1
   have f2:=f1 ρ H .(6) .(8) r
   dsimp only at f2
   split at f2
   ·rename_i hb
    simp only [K0h,decide_eq_true_eq] at hb
    unfold newL at f2
    split at f2
    ·rename_i hl
     obtain ⟨a1,n1,xs1,o1,d1⟩:=r.at q1
     rw [hi] at n1;cases n1
     refine .inr ⟨_,_,_,rfl,rfl,o1,hb.1,hb.2,?_,λp hp=>FE.lst f2 r (d1.flat j.toNat) hp⟩
     rw [L2.len_rep,d1.length] at hl
     rw [K6i];exact hl
    ·exact f2.elim
   ·exact f2.elim
 ·exact fin.elim
def fCmp (g:Int->Int->Bool):D->D->M D:=fI λi j=>.bl (g i j)
def fLt:D->D->M D
 | .int i,.int j=>pure (.bl (decide (i<j)))
 | .str i,.str j=>pure (.bl (decide (i.cps.toList<j.cps.toList)))
 | _,_=>bad
def fLe:D->D->M D
 | .int i,.int j=>pure (.bl (decide (i≤j)))
 | .str i,.str j=>pure (.bl (!decide (j.cps.toList<i.cps.toList)))
 | _,_=>bad
def fGt:D->D->M D:=fCmp λi j=>decide (j<i)
def fGe:D->D->M D:=fCmp λi j=>decide (j≤i)
theorem z97:OpR X (K1y .LtE) (λx y H Q=>∃i j,x=.str i/\y=.str j/\Q (.bl (!decide (j.cps.toList<i.cps.toList))) H):=by
 intro pins s σ H x y v u Q I rx ry h
 obtain ⟨i,j,rfl,rfl,q⟩:=h
 obtain ⟨t,rfl⟩:=rx
 obtain ⟨t',rfl⟩:=ry
 exact PySem.P.le_str ⟨.bl _,H,I,rfl,q⟩
theorem zQ0 {K:K0}:BR K EX (λx y H Q=>rI0 (λi j=>.bl (decide (i<j))) x y H Q∨∃i j,x=.str i/\y=.str j/\Q (.bl (decide (i.cps.toList<j.cps.toList))) H) fLt:=by
 intro ρ h H x y v u Q r rx ry fin
 unfold fLt at fin
 split at fin
 ·simp only [RD] at rx ry;subst rx;subst ry
  exact .inl ⟨_,_,rfl,rfl,FE.here fin r .(t)⟩
 ·simp only [RD] at rx ry;subst rx;subst ry
  exact .inr ⟨_,_,rfl,rfl,FE.here fin r .(t)⟩
 ·exact fin.elim
theorem zO6 {K:K0}:BR K EX (λx y H Q=>rI0 (λi j=>.bl (decide (i≤j))) x y H Q∨∃i j,x=.str i/\y=.str j/\Q (.bl (!decide (j.cps.toList<i.cps.toList))) H) fLe:=by
 intro ρ h H x y v u Q r rx ry fin
 unfold fLe at fin
 split at fin
 ·simp only [RD] at rx ry;subst rx;subst ry
  exact .inl ⟨_,_,rfl,rfl,FE.here fin r .(t)⟩
 ·simp only [RD] at rx ry;subst rx;subst ry
  exact .inr ⟨_,_,rfl,rfl,FE.here fin r .(t)⟩
 ·exact fin.elim
def eqD:D->D->Option Bool
 | .int i,.int j=>some (decide (i=j))
 | .str i,.str j=>some (decide (i=j))
 | .bl i,.bl j=>some (decide (i=j))
 | .non,.non=>some true
 | .int _,.str _=>some false
 | .str _,.int _=>some false
 | .non,.int _=>some false
 | .int _,.non=>some false
 | .non,.str _=>some false
 | .str _,.non=>some false
 | _,_=>none
def fEq (neg:Bool):D->D->M D:=λx y=>match eqD x y with
 | some b=>pure (.bl (b != neg))
 | none=>bad
theorem zy2 {K:K0}{ρ:List Addr}{H:Hp}{x y:D}{v u:V}{k:Bool}(e:eqD x y=some k) (rx:RD K ρ H x v) (ry:RD K ρ H y u):scal v u=true/\decide (v=u)=k:=by
 cases x<;>cases y<;>first
  | (have e':none=some k:=e
     exact nomatch e')
  | (simp only [eqD] at e
     simp only [RD] at rx ry
     subst rx
     subst ry
     cases e
     exact ⟨rfl,by simp⟩)
theorem zQ1 {K:K0}:BR K EX rEq (fEq false):=by
 intro ρ h H x y v u Q r rx ry fin
 unfold fEq at fin
 cases hk:eqD x y with
 | none=>rw [hk] at fin;exact fin.elim
 | some k =>
  rw [hk] at fin
  obtain ⟨h1,h2⟩:=zy2 hk rx ry
  refine ⟨h1,?_⟩
  rw [h2]
  refine FE.here fin r ?_
  cases k<;>simp [RD]
def z0n:D->Bool
 | .non=>true
 | .bl _=>true
 | .int _=>true
 | .str _=>true
 | _=>false
def eqF:D->D->Bool
 | .non,.non=>true
 | .bl a,.bl b=>a==b
 | .bl a,.int b=>(if a then 1 else 0)==b
 | .int a,.bl b=>a==(if b then 1 else 0)
 | .int a,.int b=>a==b
 | .str a,.str b=>a==b
 | _,_=>false
def seqD:D->M (List D)
 | .tup xs=>pure xs
 | .fl xs=>pure xs
 | .ref n=>getL n
 | _=>bad
def fIn (neg:Bool):D->D->M D:=λx y=>do
 let ys ← seqD y
 if z0n x&&ys.all z0n then pure (.bl ((ys.any λz=>eqF z x) != neg)) else bad
theorem z7v {K:K0}{ρ:List Addr}{H:Hp}{x:D}{v:V}(f:z0n x=true) (r:RD K ρ H x v):z3U v=true:=by
 cases x<;>simp only [RD] at r<;>first|(subst r;rfl)|cases f
theorem zz9 {K:K0}{ρ:List Addr}{H:Hp}{x y:D}{v u:V}(f:z0n x=true) (f':z0n y=true) (r:RD K ρ H x v) (r':RD K ρ H y u):eqV v u=eqF x y:=by
 cases x with
 | non=>simp only [RD] at r;subst r;cases y<;>first|(simp only [RD] at r';subst r';rfl)|cases f'
 | bl b=>simp only [RD] at r;subst r;cases y<;>first|(simp only [RD] at r';subst r';rfl)|cases f'
 | int b=>simp only [RD] at r;subst r;cases y<;>first|(simp only [RD] at r';subst r';rfl)|cases f'
 | str b=>simp only [RD] at r;subst r;cases y<;>first|(simp only [RD] at r';subst r';rfl)|cases f'
 | tup b=>cases f
 | fl b=>cases f
 | ref b=>cases f
theorem z5P {K:K0}{ρ:List Addr}{H:Hp}:∀{xs:List D}{vs:List V},RDs K ρ H xs vs->xs.all z0n=true->vs.all z3U=true
 | [],vs,r,_=>by simp only [RDs] at r;subst r;rfl
 | x::xs,vs,r,f=>by
  simp only [RDs] at r
  obtain ⟨v,r2,rfl,h1,h2⟩:=r
  rw [K4h,K0h] at f ⊢
  exact ⟨z7v f.1 h1,z5P h2 f.2⟩
theorem z8j {K:K0}{ρ:List Addr}{H:Hp}{x:D}{v:V}(f:z0n x=true) (r:RD K ρ H x v):∀{xs:List D}{vs:List V},RDs K ρ H xs vs->xs.all z0n=true->(vs.any λy=>eqV y v)=xs.any λz=>eqF z x
 | [],vs,rs,_=>by simp only [RDs] at rs;subst rs;rfl
 | y::xs,vs,rs,fs=>by
  simp only [RDs] at rs
  obtain ⟨u,r2,rfl,h1,h2⟩:=rs
  rw [K4h,K0h] at fs
  rw [K2d,K2d,zz9 fs.1 f h1 r,z8j f r h2 fs.2]
theorem z2i {K:K0}{ρ:List Addr}{h h1:AH}{H:Hp}{y:D}{u:V}{ys:List D}(r:RH K ρ h H) (ry:RD K ρ H y u) (e:seqD y h=.ok ys h1):h1=h/\∃p xs,u=.ref p/\(SqL K H p xs∨SqT K H p xs)/\RDs K ρ H ys xs:=by
 unfold seqD at e
 split at e
 ·cases e;simp only [RD] at ry;obtain ⟨p,xs,rfl,h2,h3⟩:=ry;exact ⟨rfl,p,xs,rfl,.inr h2,h3⟩
 ·cases e;simp only [RD] at ry;obtain ⟨p,xs,rfl,h2,h3⟩:=ry;exact ⟨rfl,p,xs,rfl,.inl h2.sq,h3⟩
 ·obtain ⟨rfl,q⟩:=z0p e
  simp only [RD] at ry;obtain ⟨p,rfl,h2⟩:=ry
  obtain ⟨a,n1,xs,o1,d1⟩:=r.at q
  rw [h2] at n1;cases n1
  exact ⟨rfl,p,xs,rfl,.inl (SqL.of o1),d1⟩
 ·cases e
theorem z3T {y:D}{h h1:AH}{x:Exn}(e:seqD y h=.err x h1):False:=by
 unfold seqD at e
 split at e
 ·cases e
 ·cases e
 ·exact z0r e
 ·cases e
theorem zN9 {K:K0}{neg:Bool}:BR K EX (rIn K neg) (fIn neg):=by
 intro ρ h H x y v u Q r rx ry fin
 have f1:=Fin.bind fin
 cases e:seqD y h with
 | bad=>rw [e] at f1;exact f1.elim
 | err z hz=>exact (z3T e).elim
 | ok ys h1 =>
  obtain ⟨rfl,p,xs,rfl,hs,hd⟩:=z2i r ry e
  rw [e] at f1
  have f2:=f1 ρ H .(6) .(8) r
  dsimp only at f2
  split at f2
  ·rename_i hc
   rw [K0h] at hc
   refine ⟨p,xs,rfl,hs,z7v hc.1 rx,z5P hd hc.2,?_⟩
   refine FE.here f2 r ?_
   unfold inV
   rw [z8j hc.1 rx hd hc.2]
   cases neg<;>simp [RD]
  ·exact f2.elim
end
section
variable {env:Env}{es:List Expr}
theorem z6q {c k p}:K03 (.Constant c k p::es) env=(false,eval (.Constant c k p) env)::K03 es env:=rfl
theorem zz2 {c p}:K03 (.Name c p::es) env=(false,eval (.Name c p) env)::K03 es env:=rfl
theorem zx2 {a b c p}:K03 (.Call a b c p::es) env=(false,eval (.Call a b c p) env)::K03 es env:=rfl
theorem zh9 {a b c p}:K03 (.BinOp a b c p::es) env=(false,eval (.BinOp a b c p) env)::K03 es env:=rfl
theorem z7T {a b c p}:K03 (.Compare a b c p::es) env=(false,eval (.Compare a b c p) env)::K03 es env:=rfl
theorem z5b {a b p}:K03 (.Subscript a b p::es) env=(false,eval (.Subscript a b p) env)::K03 es env:=rfl
theorem zd2 {a b p}:K03 (.Tuple a b p::es) env=(false,eval (.Tuple a b p) env)::K03 es env:=rfl
theorem zA1 {a p}:K03 (.List a p::es) env=(false,eval (.List a p) env)::K03 es env:=rfl
theorem z7Z {a b p}:K03 (.UnaryOp a b p::es) env=(false,eval (.UnaryOp a b p) env)::K03 es env:=rfl
theorem z68 {a b c p}:K03 (.ListComp a b c p::es) env=(false,eval (.ListComp a b c p) env)::K03 es env:=rfl
end
section
variable {X:Cx}{EX:XX}{a b c e:Expr}{pos:Pos}{ma mb mc:G->M D}
def CO (X:Cx) (EX:XX) (op:CmpOp) (f:D->D->M D):Prop:=∃r,OpR X (K1y op) r/\BR X.K EX r f
theorem zd8:CO X EX .Lt fLt:=⟨_,op_lt.or z94,zQ0⟩
theorem zo3:CO X EX .LtE fLe:=⟨_,op_le.or z97,zO6⟩
theorem zc5:CO X EX .Gt fGt:=⟨_,zT3,zL6 λi j ρ H=>by simp [RD]⟩
theorem zT2:CO X EX .GtE fGe:=⟨_,zR1,zL6 λi j ρ H=>by simp [RD]⟩
theorem z1Q:CO X EX .Eq (fEq false):=⟨_,zR8,zQ1⟩
theorem z9S:CO X EX .In (fIn false):=⟨_,z99,zN9⟩
theorem z4L:CO X EX .NotIn (fIn true):=⟨_,z5F,zN9⟩
def fIs (neg:Bool):D->D->M D:=λx y=>match y with
 | .non=>(match x with
  | .non=>pure (.bl (true != neg))
  | .bl _=>pure (.bl (false != neg))
  | .int _=>pure (.bl (false != neg))
  | .str _=>pure (.bl (false != neg))
  | .tup _=>pure (.bl (false != neg))
  | .ref _=>pure (.bl (false != neg))
  | .fl _=>pure (.bl (false != neg)))
 | .bl k=>(match x with
  | .bl j=>pure (.bl ((j==k) != neg))
  | .non=>pure (.bl (false != neg))
  | .int _=>pure (.bl (false != neg))
  | .str _=>pure (.bl (false != neg))
  | .tup _=>pure (.bl (false != neg))
  | .ref _=>pure (.bl (false != neg))
  | .fl _=>pure (.bl (false != neg)))
 | _=>bad
theorem z7s (neg:Bool):OpR X (K1y (if neg then .IsNot else .Is)) (λx y H Q=>(y=.non/\Q (.bl ((decide (x=.non)) != neg)) H)∨∃k,y=.bl k/\Q (.bl ((decide (x=.bl k)) != neg)) H):=by
 intro pins s σ H x y v u Q I rx ry h
 have pl:∀{a b:Value},plainIs a b=true->EP X pins σ Q (.bool ((a==b) != neg)) s->wpAny .(4) X.A (K1y (if neg then .IsNot else .Is) a b) (EP X pins σ Q) X.xe s:=λ{a b} hp hq=>by
  cases neg with
  | false=>exact wpAny_is_plain hp (by simpa using hq)
  | true=>exact wpAny_isNot_plain hp (by simpa using hq)
 rcases h with ⟨rfl,q⟩|⟨k,rfl,q⟩
 ·cases ry
  have fin:∀{a:Value} {w:Bool},w=decide (x=.non)->(a==K3w)=w->EP X pins σ Q (.bool ((a==K3w) != neg)) s:=λ{a w} e1 e2=>by
   rw [e2,e1];exact ⟨.bl _,H,I,rfl,q⟩
  cases x with
  | non=>cases rx;exact pl rfl (fin (w:=true) .(e) rfl)
  | bl j=>cases rx;exact pl rfl .(M)
  | int j=>obtain ⟨t,rfl⟩:=rx;exact pl rfl .(M)
  | str j=>obtain ⟨t,rfl⟩:=rx;exact pl rfl .(M)
  | byt j=>obtain ⟨t,rfl⟩:=rx;exact pl rfl .(M)
  | flt j=>obtain ⟨t,rfl⟩:=rx;exact pl rfl .(M)
  | ref j=>cases rx;exact pl rfl .(M)
  | ty j=>cases rx;exact pl rfl .(M)
 ·cases ry
  have fin:∀{a:Value} {w:Bool},w=decide (x=.bl k)->(a==K6n k)=w->EP X pins σ Q (.bool ((a==K6n k) != neg)) s:=λ{a w} e1 e2=>by
   rw [e2,e1];exact ⟨.bl _,H,I,rfl,q⟩
  cases x with
  | non=>cases rx;exact pl rfl .(M)
  | bl j=>cases rx;exact pl rfl (fin (w:=(j==k)) (by rw [K0z];simp) (by cases j<;>cases k<;>rfl))
  | int j=>obtain ⟨t,rfl⟩:=rx;exact pl rfl .(M)
  | str j=>obtain ⟨t,rfl⟩:=rx;exact pl rfl .(M)
  | byt j=>obtain ⟨t,rfl⟩:=rx;exact pl rfl .(M)
  | flt j=>obtain ⟨t,rfl⟩:=rx;exact pl rfl .(M)
  | ref j=>cases rx;exact pl rfl .(M)
  | ty j=>cases rx;exact pl rfl .(M)
theorem z98 {K:K0}{ρ:List Addr}{H:Hp}{x:D}{v:V}(rx:RD K ρ H x v):decide (v=.non)=(match x with|.non=>true|_=>false):=by
 cases x<;>simp only [RD] at rx
 case non=>subst rx;simp
 case bl=>subst rx;simp
 case int=>subst rx;simp
 case str=>subst rx;simp
 case tup=>obtain ⟨a,xs,rfl,_⟩:=rx;simp
 case fl=>obtain ⟨a,xs,rfl,_⟩:=rx;simp
 case ref=>obtain ⟨a,rfl,_⟩:=rx;simp
theorem zc8 {K:K0}{ρ:List Addr}{H:Hp}{x:D}{v:V}{k:Bool}(rx:RD K ρ H x v):decide (v=.bl k)=(match x with|.bl j=>j==k|_=>false):=by
 cases x<;>simp only [RD] at rx
 case non=>subst rx;simp
 case bl j=>subst rx;cases j<;>cases k<;>rfl
 case int=>subst rx;simp
 case str=>subst rx;simp
 case tup=>obtain ⟨a,xs,rfl,_⟩:=rx;simp
 case fl=>obtain ⟨a,xs,rfl,_⟩:=rx;simp
 case ref=>obtain ⟨a,rfl,_⟩:=rx;simp
theorem zA9 {K:K0}(neg:Bool):BR K EX (λx y H Q=>(y=.non/\Q (.bl ((decide (x=.non)) != neg)) H)∨∃k,y=.bl k/\Q (.bl ((decide (x=.bl k)) != neg)) H) (fIs neg):=by
 intro ρ h H x y v u Q r rx ry fin
 cases y with
 | non =>
  simp only [RD] at ry
  refine .inl ⟨ry,?_⟩
  rw [z98 rx]
  cases x<;>first|exact (show False from fin).elim|exact FE.here fin r .(t)
 | bl k =>
  simp only [RD] at ry
  refine .inr ⟨k,ry,?_⟩
  rw [zc8 rx]
  cases x<;>first|exact (show False from fin).elim|exact FE.here fin r .(t)
 | _=>exact (show False from fin).elim
theorem zP8:CO X EX .Is (fIs false):=⟨_,z7s false,zA9 false⟩
theorem zh1:CO X EX .IsNot (fIs true):=⟨_,z7s true,zA9 true⟩
theorem se_c {op:CmpOp}{f:D->D->M D}(h:CO X EX op f) (ha:SE X EX a ma) (hb:SE X EX b mb) (hm:K4j op b=false:=by first|exact zk6 _|with_unfolding_all rfl):SE X EX (.Compare a [op] [b] pos) (e2 f ma mb):=by
 obtain ⟨r,h1,h2⟩:=h
 exact zJ0 h1 h2 ha hb hm
def asB:D->M Bool
 | .bl b=>pure b
 | _=>bad
theorem zO9 {t:TE}{m:G->M D}(h:∀σ H Q,tE X.K EX m σ H Q->t σ H Q):∀σ H Q,tT X.K EX (λγ=>do let d ← m γ;asB d) σ H Q->zN3 t σ H Q:=by
 intro σ H Q ⟨ρ,γ,h0,rel,fin⟩
 refine h σ H _ ⟨ρ,γ,h0,rel,(Fin.bind fin).mono λd ρ1 h1 H1 p1 e1 r1 f1 v rv=>?_⟩
 cases d<;>first|exact (show False from f1).elim|skip
 rename_i b
 simp only [RD] at rv
 exact ⟨b,rv,f1 ρ1 H1 .(6) .(8) r1⟩
theorem sc_c {op:CmpOp}{f:D->D->M D}(h:CO X EX op f) (ha:SE X EX a ma) (hb:SE X EX b mb) (hm:K4j op b=false:=by first|exact zk6 _|with_unfolding_all rfl):SC X EX (.Compare a [op] [b] pos) (λγ=>do let d ← e2 f ma mb γ;asB d):=by
 constructor
 obtain ⟨r,h1,h2⟩:=h
 refine PT.imp (zt8 h1 ha.h hb.h hm) (zO9 λσ H Q ⟨ρ,γ,h,rel,fin⟩=>?_)
 exact ⟨ρ,γ,h,rel,(Fin.bind fin).mono λx ρ1 h1 H1 p1 e1 r1 f1 v rv=>⟨ρ1,γ,h1,⟨rel.g.mono p1 e1,r1⟩,(Fin.bind f1).mono λy ρ2 h3 H2 p2 e2 r2 f2 u ru =>
  h2 ρ2 h3 H2 x y v u Q r2 (rv.mono p2 e2) ru f2⟩⟩
def e3 (f g:D->D->M D) (ma mb mc:G->M D):G->M D:=λγ=>do
 let x ← ma γ
 let y ← mb γ
 let k ← f x y
 let t ← asB k
 if t then do
  let z ← mc γ
  g y z
 else pure (.bl false)
theorem zi9 {r r':R2}{f g:D->D->M D}(h2:BR X.K EX r f) (h4:BR X.K EX r' g):∀σ H Q,tE X.K EX (e3 f g ma mb mc) σ H Q->zl5 r r' (tE X.K EX ma) (tE X.K EX mb) (tE X.K EX mc) σ H Q:=by
 intro σ H Q ⟨ρ,γ,h,rel,fin⟩
 refine ⟨ρ,γ,h,rel,(Fin.bind fin).mono λx ρ1 h1 H1 p1 e1 r1 f1 v rv=>⟨ρ1,γ,h1,⟨rel.g.mono p1 e1,r1⟩,(Fin.bind f1).mono λy ρ2 h3 H2 p2 e2 r2 f2 u ru=>?_⟩⟩
 refine h2 ρ2 h3 H2 x y v u _ r2 (rv.mono p2 e2) ru ((Fin.bind f2).mono λk ρ3 h5 H3 p3 e3 r3 f3 z rz=>?_)
 cases k<;>first|exact (show False from f3).elim|skip
 rename_i t
 simp only [RD] at rz
 refine ⟨t,rz,?_⟩
 cases t with
 | false =>
  rw [if_neg .(1)]
  exact FE.here (d:=.bl false) (h:=h5) (ρ:=ρ3) f3 r3 .(t)
 | true =>
  rw [if_pos rfl]
  have f4:Fin X.K EX ρ3 H3 (λd ρ' _ H'=>∀v,RD X.K ρ' H' d v->Q v H') ((mc γ >>= λz=>g y z) h5):=f3
  exact ⟨ρ3,γ,h5,⟨((rel.g.mono p1 e1).mono p2 e2).mono p3 e3,r3⟩,(Fin.bind f4).mono λw ρ4 h6 H4 p4 e4 r4 f5 q rq=>h4 ρ4 h6 H4 y w u q Q r4 ((ru.mono p3 e3).mono p4 e4) rq f5⟩
theorem zJ7 {op op':CmpOp}{f g:D->D->M D}(h:CO X EX op f) (h':CO X EX op' g) (ha:SE X EX a ma) (hb:SE X EX b mb) (hc:SE X EX c mc) (hm:lastMarks [op,op'] [b,c]=false:=by with_unfolding_all rfl):SE X EX (.Compare a [op,op'] [b,c] pos) (e3 f g ma mb mc):=by
 constructor
 obtain ⟨r,h1,h2⟩:=h
 obtain ⟨r',h3,h4⟩:=h'
 exact PE.imp (ze3 h1 h3 ha.h hb.h hc.h hm) (zi9 h2 h4)
def eAnd (ma mb:G->M D):G->M D:=λγ=>do
 let x ← ma γ
 let t ← asB x
 if t then mb γ else pure (.bl false)
def eOr (ma mb:G->M D):G->M D:=λγ=>do
 let x ← ma γ
 let t ← asB x
 if t then pure (.bl true) else mb γ
def eNot (ma:G->M D):G->M D:=λγ=>do
 let x ← ma γ
 let t ← asB x
 pure (.bl (!t))
variable {rest:List Expr}
theorem z5X {op:PySem.BoolOp}(ha:SE X EX a ma):SE X EX (.BoolOp op [a] pos) ma:=⟨zD7 ha.h⟩
theorem z3q (ha:SE X EX a ma) (hb:SE X EX (.BoolOp .And (b::rest) pos) mb):SE X EX (.BoolOp .And (a::b::rest) pos) (eAnd ma mb) :=
 ⟨PE.imp (zJ8 ha.h hb.h) λσ H Q ⟨ρ,γ,h,rel,fin⟩=>⟨ρ,γ,h,rel,(Fin.bind fin).mono λx ρ1 h1 H1 p1 e1 r1 f1 v rv=>by
  cases x<;>first|exact (show False from f1).elim|skip
  rename_i t
  simp only [RD] at rv
  refine ⟨t,rv,?_⟩
  cases t with
  | true=>exact ⟨ρ1,γ,h1,⟨rel.g.mono p1 e1,r1⟩,f1⟩
  | false=>exact FE.here (d:=.bl false) (h:=h1) (ρ:=ρ1) f1 r1 .(t)⟩⟩
theorem zK2 (ha:SE X EX a ma) (hb:SE X EX (.BoolOp .Or (b::rest) pos) mb):SE X EX (.BoolOp .Or (a::b::rest) pos) (eOr ma mb) :=
 ⟨PE.imp (zP9 ha.h hb.h) λσ H Q ⟨ρ,γ,h,rel,fin⟩=>⟨ρ,γ,h,rel,(Fin.bind fin).mono λx ρ1 h1 H1 p1 e1 r1 f1 v rv=>by
  cases x<;>first|exact (show False from f1).elim|skip
  rename_i t
  simp only [RD] at rv
  refine ⟨t,rv,?_⟩
  cases t with
  | false=>exact ⟨ρ1,γ,h1,⟨rel.g.mono p1 e1,r1⟩,f1⟩
  | true=>exact FE.here (d:=.bl true) (h:=h1) (ρ:=ρ1) f1 r1 .(t)⟩⟩
theorem z8M (ha:SE X EX a ma):SE X EX (.UnaryOp .Not a pos) (eNot ma) :=
 ⟨PE.imp (zK7 ha.h) λσ H Q ⟨ρ,γ,h,rel,fin⟩=>⟨ρ,γ,h,rel,(Fin.bind fin).mono λx ρ1 h1 H1 p1 e1 r1 f1 v rv=>by
  cases x<;>first|exact (show False from f1).elim|skip
  rename_i t
  simp only [RD] at rv
  exact ⟨t,rv,FE.here (d:=.bl (!t)) (h:=h1) (ρ:=ρ1) f1 r1 .(t)⟩⟩⟩
structure SW (X:Cx) (EX:XX) (e:Expr) (m:G->M Bool):Prop where
 h:PW X e (tT X.K EX m)
theorem PW.imp {X:Cx}{e:Expr}{t t':TT}(h:PW X e t) (f:∀σ H Q,t' σ H Q->t σ H Q):PW X e t':=λw pins s σ H Q I z=>h w pins s σ H Q I (f σ H Q z)
variable {ka kb kc:G->M Bool}
def cAnd (ka kb:G->M Bool):G->M Bool:=λγ=>do
 let t ← ka γ
 if t then kb γ else pure false
def cOr (ka kb:G->M Bool):G->M Bool:=λγ=>do
 let t ← ka γ
 if t then pure true else kb γ
def cNot (ka:G->M Bool):G->M Bool:=λγ=>do
 let t ← ka γ
 pure (!t)
theorem z2F (ha:SC X EX a ka):SW X EX (.BoolOp .And [a] pos) ka:=⟨zx5 ha.h⟩
theorem z41 (ha:SC X EX a ka):SW X EX (.BoolOp .Or [a] pos) ka:=⟨zG9 ha.h⟩
theorem z3t (ha:SC X EX a ka) (hb:SW X EX (.BoolOp .And (b::rest) pos) kb):SW X EX (.BoolOp .And (a::b::rest) pos) (cAnd ka kb) :=
 ⟨PW.imp (zF4 ha.h hb.h) λσ H Q ⟨ρ,γ,h,rel,fin⟩=>⟨ρ,γ,h,rel,(Fin.bind fin).mono λt ρ1 h1 H1 p1 e1 r1 f1=>by
  cases t with
  | true=>exact ⟨ρ1,γ,h1,⟨rel.g.mono p1 e1,r1⟩,f1⟩
  | false=>exact f1 ρ1 H1 .(6) .(8) r1⟩⟩
theorem z3W (ha:SC X EX a ka) (hb:SW X EX (.BoolOp .Or (b::rest) pos) kb):SW X EX (.BoolOp .Or (a::b::rest) pos) (cOr ka kb) :=
 ⟨PW.imp (zO7 ha.h hb.h) λσ H Q ⟨ρ,γ,h,rel,fin⟩=>⟨ρ,γ,h,rel,(Fin.bind fin).mono λt ρ1 h1 H1 p1 e1 r1 f1=>by
  cases t with
  | false=>exact ⟨ρ1,γ,h1,⟨rel.g.mono p1 e1,r1⟩,f1⟩
  | true=>exact f1 ρ1 H1 .(6) .(8) r1⟩⟩
theorem SW.sc (h:SW X EX e ka):SC X EX e ka:=⟨PW.pt h.h⟩
theorem z3C (ha:SC X EX a ka):SC X EX (.UnaryOp .Not a pos) (cNot ka) :=
 ⟨PT.imp (zN0 ha.h) λσ H Q ⟨ρ,γ,h,rel,fin⟩=>⟨ρ,γ,h,rel,(Fin.bind fin).mono λt ρ1 h1 H1 p1 e1 r1 f1=>f1 ρ1 H1 .(6) .(8) r1⟩⟩
def truD:D->M Bool
 | .non=>pure false
 | .bl b=>pure b
 | .int i=>pure (i != 0)
 | .str y=>if y.length≤sizeLine then pure (decide (y.length≠0)) else bad
 | .tup xs=>pure (!xs.isEmpty)
 | .fl xs=>pure (!xs.isEmpty)
 | .ref n=>do
  let xs ← getL n
  pure (!xs.isEmpty)
def cVal (ma:G->M D):G->M Bool:=λγ=>do
 let x ← ma γ
 truD x
theorem isE {K:K0}{ρ:List Addr}{H:Hp}{ds:List D}{xs:List V}(h:RDs K ρ H ds xs):ds.isEmpty=xs.isEmpty:=by
 have:=h.length
 cases ds<;>cases xs<;>simp at this ⊢
theorem zx6 {ρ:List Addr}{h:AH}{H:Hp}{x:D}{v:V}{Q:Bool->Hp->Prop}(r:RH X.K ρ h H) (rx:RD X.K ρ H x v) (f:Fin X.K EX ρ H (λb _ _ H'=>Q b H') (truD x h)):∃k,TruV X.K v H k/\Q k H:=by
 cases x with
 | non=>simp only [RD] at rx;subst rx;exact ⟨false,rfl,f ρ H .(6) .(8) r⟩
 | bl b=>simp only [RD] at rx;subst rx;exact ⟨b,rfl,f ρ H .(6) .(8) r⟩
 | int b=>simp only [RD] at rx;subst rx;exact ⟨_,rfl,f ρ H .(6) .(8) r⟩
 | str y =>
  simp only [RD] at rx;subst rx
  have f':Fin X.K EX ρ H (λb _ _ H'=>Q b H') ((if y.length≤sizeLine then pure (decide (y.length≠0)) else bad:M Bool) h):=f
  by_cases hl:y.length≤sizeLine
  ·rw [if_pos hl] at f'
   refine ⟨decide (y.length≠0),⟨hl,?_⟩,f' ρ H .(6) .(8) r⟩
   rw [K0z];simp
  ·rw [if_neg hl] at f';exact f'.elim
 | tup xs =>
  simp only [RD] at rx;obtain ⟨a,vs,rfl,h1,h2⟩:=rx
  exact ⟨!xs.isEmpty,.inr (.inl ⟨vs,h1,by rw [isE h2]⟩),f ρ H .(6) .(8) r⟩
 | fl xs =>
  simp only [RD] at rx;obtain ⟨a,vs,rfl,h1,h2⟩:=rx
  exact ⟨!xs.isEmpty,.inl ⟨vs,h1.sq,by rw [isE h2]⟩,f ρ H .(6) .(8) r⟩
 | ref n =>
  have f1:=Fin.bind f
  cases e:getL n h with
  | bad=>rw [e] at f1;exact f1.elim
  | err z hz=>exact (z0r e).elim
  | ok xs h1 =>
   obtain ⟨rfl,q1⟩:=z0p e
   rw [e] at f1
   have f2:=f1 ρ H .(6) .(8) r
   simp only [RD] at rx;obtain ⟨a,rfl,h2⟩:=rx
   obtain ⟨a1,n1,vs,o1,d1⟩:=r.at q1
   rw [h2] at n1;cases n1
   exact ⟨!xs.isEmpty,.inl ⟨vs,SqL.of o1,by rw [isE d1]⟩,f2 ρ H .(6) .(8) r⟩
theorem z0E (ha:SE X EX a ma) (he:∀whole,isTrue a X.env whole=(do let v ← whole;K4q a.pos;K3v [v] (truthy v)):=by intro _;rfl):SC X EX a (cVal ma) :=
 ⟨PT.imp (ze5 ha.h he) λσ H Q ⟨ρ,γ,h,rel,fin⟩=>⟨ρ,γ,h,rel,(Fin.bind fin).mono λx ρ1 h1 H1 p1 e1 r1 f1 v rv=>zx6 r1 rv f1⟩⟩
def eIf (k:G->M Bool) (ma mb:G->M D):G->M D:=λγ=>do
 let t ← k γ
 if t then ma γ else mb γ
theorem zI0 (hc:SC X EX c kc) (ha:SE X EX a ma) (hb:SE X EX b mb):SE X EX (.IfExp c a b pos) (eIf kc ma mb) :=
 ⟨PE.imp (zb8 hc.h ha.h hb.h) λσ H Q ⟨ρ,γ,h,rel,fin⟩=>⟨ρ,γ,h,rel,(Fin.bind fin).mono λt ρ1 h1 H1 p1 e1 r1 f1=>by
  cases t with
  | true=>exact ⟨ρ1,γ,h1,⟨rel.g.mono p1 e1,r1⟩,f1⟩
  | false=>exact ⟨ρ1,γ,h1,⟨rel.g.mono p1 e1,r1⟩,f1⟩⟩⟩
def aNil:G->M (List D):=λ_=>pure []
def z9 (ma:G->M D) (mr:G->M (List D)):G->M (List D):=λγ=>do
 let x ← ma γ
 let r ← mr γ
 pure (x::r)
variable {es:List Expr}{mr:G->M (List D)}
theorem Z2:SA X EX [] aNil:=⟨PA.imp z0R λσ H Q ⟨ρ,γ,h,rel,fin⟩=>fin ρ H .(6) .(8) rel.h [] RDs.nil⟩
theorem z6 (ha:SE X EX a ma) (hr:SA X EX es mr) (hs:K03 (a::es) X.env=(false,eval a X.env)::K03 es X.env:=by first|exact z6q|exact zz2|exact zx2|exact zh9|exact z7T|exact z5b|exact zd2|exact zA1|exact z7Z|exact z68|rfl):SA X EX (a::es) (z9 ma mr) :=
 ⟨PA.imp (Y2 ha.h hr.h hs) λσ H Q ⟨ρ,γ,h,rel,fin⟩=>⟨ρ,γ,h,rel,(Fin.bind fin).mono λx ρ1 h1 H1 p1 e1 r1 f1 v rv=>⟨ρ1,γ,h1,⟨rel.g.mono p1 e1,r1⟩,(Fin.bind f1).mono λds ρ2 h2 H2 p2 e2 r2 f2 vs rvs =>
  f2 ρ2 H2 .(6) .(8) r2 (v::vs) (RDs.cons (rv.mono p2 e2) rvs)⟩⟩⟩
def eTup (mr:G->M (List D)):G->M D:=λγ=>do
 let xs ← mr γ
 if xs.length≤sizeLine then pure (.tup xs) else bad
def eLst (mr:G->M (List D)):G->M D:=λγ=>do
 let xs ← mr γ
 newL xs
theorem z11 {k:Nat}(h:SA X EX es mr):SE X EX (.Tuple es k pos) (eTup mr) :=
 ⟨PE.imp (zE3 h.h) λσ H Q ⟨ρ,γ,h,rel,fin⟩=>⟨ρ,γ,h,rel,(Fin.bind fin).mono λxs ρ1 h1 H1 p1 e1 r1 f1 vs rvs=>by
  by_cases hl:xs.length≤sizeLine
  ·rw [if_pos hl] at f1
   exact ⟨by rw [← rvs.length];exact hl,λp hp=>FE.tup (h:=h1) f1 r1 rvs hp⟩
  ·rw [if_neg hl] at f1;exact (show False from f1).elim⟩⟩
theorem z0x (h:SA X EX es mr):SE X EX (.List es pos) (eLst mr) :=
 ⟨PE.imp (zD3 h.h) λσ H Q ⟨ρ,γ,h,rel,fin⟩=>⟨ρ,γ,h,rel,(Fin.bind fin).mono λxs ρ1 h1 H1 p1 e1 r1 f1 vs rvs=>by
  unfold newL at f1
  split at f1
  ·rename_i hl
   exact ⟨by rw [← rvs.length];exact hl,λp hp=>FE.lst (h:=h1) f1 r1 rvs hp⟩
  ·exact (show False from f1).elim⟩⟩
def fIx:D->D->M D
 | .str z,.int i=>if z.length≤sizeLine then (match atI z.cps.toList i with
  | some c=>pure (.str ⟨#[c]⟩)
  | none=>bad) else bad
 | x,.int i=>do
  let xs ← seqD x
  match atI xs i with
  | some d=>pure d
  | none=>bad
 | _,_=>bad
theorem zr7 {K:K0}{ρ:List Addr}{H:Hp}{ds:List D}{xs:List V}{i:Int}{d:D}(h:RDs K ρ H ds xs) (e:atI ds i=some d):∃x,atI xs i=some x/\RD K ρ H d x:=by
 unfold atI at e ⊢
 rw [← h.length]
 cases q:ixN ds.length i with
 | none=>rw [q] at e;cases e
 | some j=>rw [q] at e;exact h.get e
theorem zT4:BR X.K EX (rIx X.K) fIx:=by
 intro ρ h H x y v u Q r rx ry fin
 unfold fIx at fin
 split at fin
 ·simp only [RD] at rx ry;subst rx;subst ry
  rename_i z i
  by_cases hl:z.length≤sizeLine
  ·rw [if_pos hl] at fin
   cases hc:atI z.cps.toList i with
   | none=>rw [hc] at fin;exact fin.elim
   | some c =>
    rw [hc] at fin
    exact .inr (.inr ⟨_,_,c,rfl,rfl,hl,hc,FE.here fin r .(t)⟩)
  ·rw [if_neg hl] at fin;exact fin.elim
 ·rename_i i _
  simp only [RD] at ry;subst ry
  have f1:=Fin.bind fin
  cases e:seqD x h with
  | bad=>rw [e] at f1;exact f1.elim
  | err z hz=>exact (z3T e).elim
  | ok ys h1 =>
   obtain ⟨rfl,p,xs,rfl,hs,hd⟩:=z2i r rx e
   rw [e] at f1
   have f2:=f1 ρ H .(6) .(8) r
   dsimp only at f2
   cases q:atI ys i with
   | none=>rw [q] at f2;exact f2.elim
   | some d =>
    rw [q] at f2
    obtain ⟨w,h2,h3⟩:=zr7 hd q
    rcases hs with hs|hs
    ·exact .inl ⟨p,xs,i,w,rfl,rfl,hs,h2,FE.here f2 r h3⟩
    ·exact .inr (.inl ⟨p,xs,i,w,rfl,rfl,hs,h2,FE.here f2 r h3⟩)
 ·exact fin.elim
theorem Z9 (ha:SE X EX a ma) (hb:SE X EX b mb) (hs:z9B b:=by intro _ _;rfl):SE X EX (.Subscript a b pos) (e2 fIx ma mb) :=
 za4 (ta:=tE X.K EX ma) (tb:=tE X.K EX mb) (zP1 zM1 ha.h hb.h hs) zT4
end
section
variable {X:Cx}{EX:XX}{a b c e:Expr}{pos p p2:Pos}{ma mb mc:G->M D}{es:List Expr}{mr:G->M (List D)}
def AR (K:K0) (EX:XX) (r:List V->Hp->VK->Prop) (f:List D->M D):Prop:=∀ρ h H ds vs Q,RH K ρ h H->RDs K ρ H ds vs->FE K EX ρ H Q (f ds h)->r vs H Q
def Z8 (f:List D->M D) (mr:G->M (List D)):G->M D:=λγ=>do
 let xs ← mr γ
 f xs
theorem z21 {r:List V->Hp->VK->Prop}{f:List D->M D}(h:PE X e (tCB r (tL X.K EX mr))) (hr:AR X.K EX r f):SE X EX e (Z8 f mr) :=
 ⟨PE.imp h λσ H Q ⟨ρ,γ,h,rel,fin⟩=>⟨ρ,γ,h,rel,(Fin.bind fin).mono λxs ρ1 h1 H1 p1 e1 r1 f1 vs rvs=>hr ρ1 h1 H1 xs vs Q r1 rvs f1⟩⟩
theorem rds1 {K:K0}{ρ:List Addr}{H:Hp}{d:D}{vs:List V}(h:RDs K ρ H [d] vs):∃v,vs=[v]/\RD K ρ H d v:=by
 simp only [RDs] at h
 obtain ⟨x,r,rfl,h2,rfl⟩:=h
 exact ⟨x,rfl,h2⟩
def fLen:List D->M D
 | [.str z]=>if z.length≤sizeLine then pure (.int z.length) else bad
 | [x]=>do
  let xs ← seqD x
  pure (.int xs.length)
 | _=>bad
theorem zM0:AR X.K EX (λxs H Q=>∃x n,xs=[x]/\LenV X.K x H n/\Q (.int n) H) fLen:=by
 intro ρ h H ds vs Q r rd fin
 unfold fLen at fin
 split at fin
 ·rename_i z
  obtain ⟨v,rfl,rv⟩:=rds1 rd
  simp only [RD] at rv;subst rv
  by_cases hl:z.length≤sizeLine
  ·rw [if_pos hl] at fin
   exact ⟨_,z.length,rfl,⟨hl,rfl⟩,FE.here fin r .(t)⟩
  ·rw [if_neg hl] at fin;exact fin.elim
 ·rename_i x _
  obtain ⟨v,rfl,rv⟩:=rds1 rd
  have f1:=Fin.bind fin
  cases e:seqD x h with
  | bad=>rw [e] at f1;exact f1.elim
  | err z hz=>exact (z3T e).elim
  | ok ys h1 =>
   obtain ⟨rfl,p,xs,rfl,hs,hd⟩:=z2i r rv e
   rw [e] at f1
   have f2:=f1 ρ H .(6) .(8) r
   refine ⟨_,ys.length,rfl,?_,FE.here f2 r .(t)⟩
   rw [hd.length]
   rcases hs with hs|hs
   ·exact .inl ⟨xs,hs,rfl⟩
   ·exact .inr ⟨xs,hs,rfl⟩
 ·exact fin.elim
theorem Y1 (hg:Gl X "len") (hm:X.mg "len" = none) (ha:SA X EX [a] mr) (he:K03 [a] X.env=[(false,eval a X.env)]:=by rfl):SE X EX (.Call (.Name "len" p) [a] [] pos) (Z8 fLen mr) :=
 z21 (z0J zg6 hg hm PySem.boot_len ha.h .(1) .(1) he rfl) zM0
def v8:List D->M D
 | [.tup xs]=>pure (.tup xs)
 | [x]=>do
  let xs ← seqD x
  pure (.tup xs)
 | _=>bad
theorem zj2:AR X.K EX (λxs H Q=>∃p ys,xs=[.ref p]/\((SqL X.K H p ys/\∀l,H l=none->Q (.ref l) (upd H l (.tup ys)))∨(SqT X.K H p ys/\Q (.ref p) H))) v8:=by
 intro ρ h H ds vs Q r rd fin
 unfold v8 at fin
 split at fin
 ·obtain ⟨v,rfl,rv⟩:=rds1 rd
  have rv':=rv
  simp only [RD] at rv
  obtain ⟨q,xs,rfl,h1,h2⟩:=rv
  exact ⟨q,xs,rfl,.inr ⟨h1,FE.here fin r rv'⟩⟩
 ·rename_i x hx
  obtain ⟨v,rfl,rv⟩:=rds1 rd
  have f1:=Fin.bind fin
  cases e:seqD x h with
  | bad=>rw [e] at f1;exact f1.elim
  | err z hz=>exact (z3T e).elim
  | ok ys h1 =>
   obtain ⟨rfl,q,xs,rfl,hs,hd⟩:=z2i r rv e
   rw [e] at f1
   have f2:=f1 ρ H .(6) .(8) r
   refine ⟨q,xs,rfl,?_⟩
   rcases hs with hs|hs
   ·exact .inl ⟨hs,λl hl=>FE.tup f2 r hd hl⟩
   ·refine .inr ⟨hs,FE.here f2 r ?_⟩
    simp only [RD]
    exact ⟨q,xs,rfl,hs,hd⟩
 ·exact fin.elim
theorem z02 (hg:Gl X "tuple") (hm:X.mg "tuple" = none) (ha:SA X EX [a] mr) (he:K03 [a] X.env=[(false,eval a X.env)]:=by rfl):SE X EX (.Call (.Name "tuple" p) [a] [] pos) (Z8 v8 mr) :=
 z21 (z15 z51 hg hm .(2) ha.h .(1) .(1) he rfl) zj2
def tyD:D->M String
 | .non=>pure "NoneType"
 | .bl _=>pure "bool"
 | .int _=>pure "int"
 | .str _=>pure "str"
 | .tup _=>pure "tuple"
 | .fl _=>pure "list"
 | .ref n=>λh=>match h[n]? with
  | .(l _)=>.ok "list" h
  | some .dct=>.ok "dict" h
  | some (.dK _)=>.ok "dict" h
  | _=>.bad
def subT (t T:String):Bool:=t==T||(t=="bool"&&T=="int")
def tyNames:List String:=["NoneType","bool","int","str","tuple","list","dict"]
def tyAsked:List String:=["bool","int","str","tuple","list","dict"]
theorem zw1:tyNames.all (λt=>tyAsked.all λT=>decide (K1o [] (.type t) (.type T)=some (subT t T)))=true:=by decide +kernel
theorem z7q {K:K0}{t T:String}(h1:t∈tyNames) (h2:T∈tyAsked):K1o K (.type t) (.type T)=some (subT t T):=by
 have q:=zw1
 rw [K1s] at q
 have q2:=q t h1
 rw [K1s] at q2
 have q3:=q2 T h2
 exact of_decide_eq_true q3
def fIsi (T:String):D->M D:=λx=>do
 let t ← tyD x
 pure (.bl (subT t T))
theorem zw4 {pins:List .(f)}{σ:L2.St}{H:Hp}{s:Shared}{E:Value->Shared->Prop}{Q:Value->Shared->Prop}{q:Addr}{c:Value}{k:Bool}{xs:List V}(I:Inv X pins σ H s) (h:SqT X.K H q xs) (e:K1o X.K (.type "tuple") c=some k) (hQ:∀tk,Q (.bool k) { s with toks:=tk }) :
 wpAny .(4) X.A (call (.builtin "isinstance") [.ref q,c]) Q E s:=by
 obtain ⟨its,_,ht,_⟩:=I.tuple h
 obtain ⟨o,h1,h2,_⟩:=ht
 exact K1e K9o I.kIn ⟨o,h1,h2⟩ e (λz=>nomatch z) hQ
theorem zz0 {pins:List .(f)}{σ:L2.St}{H:Hp}{s:Shared}{E:Value->Shared->Prop}{Q:Value->Shared->Prop}{q:Addr}{c:Value}{k:Bool}{xs:List V}(I:Inv X pins σ H s) (h:SqL X.K H q xs) (e:K1o X.K (.type "list") c=some k) (hQ:∀tk,Q (.bool k) { s with toks:=tk }) :
 wpAny .(4) X.A (call (.builtin "isinstance") [.ref q,c]) Q E s:=by
 obtain ⟨its,_,ht,_⟩:=I.list h
 obtain ⟨o,n,h1,h2,_⟩:=ht
 exact K1e K7c I.kIn ⟨o,h1,h2⟩ e (λz=>nomatch z) hQ
def TyV (K:K0) (H:Hp) (v:V) (t:String):Prop:=match v with
 | .non=>t = "NoneType"
 | .bl _=>t = "bool"
 | .int _=>t = "int"
 | .str _=>t = "str"
 | .ref q=>(t = "tuple"/\∃xs,SqT K H q xs)∨(t = "list"/\∃xs,SqL K H q xs)∨(t = "dict"/\(H q=some (dctO q)∨∃kvs,H q=some (.dK kvs)))
 | _=>False
theorem zg7 {T:String}(hT:T∈tyAsked):z2q X (.builtin "isinstance") (λxs H Q=>∃x t,xs=[x,.ty T]/\TyV X.K H x t/\Q (.bl (subT t T)) H):=by
 intro pins s σ H xs us Q I r h
 obtain ⟨x,t,rfl,ty,q⟩:=h
 obtain ⟨u,w',rfl,rx,rt⟩:=vals2 r
 cases rt
 have fin:∀tk,EP X pins σ Q (.bool (subT t T)) { s with toks:=tk }:=λtk=>⟨.bl _,H,I.tok tk,rfl,q⟩
 have tb:∀{z:V} {t':Value},z=x->TyOf X.K H z t'->t'=.type t->t∈tyNames->wpAny .(4) X.A (call (.builtin "isinstance") [u,.type T]) (EP X pins σ Q) X.xe s:=λ{z t'} e1 ty' e2 hn=>by
  subst e1;subst e2
  exact z8A I rx ty' (z7q hn hT) fin
 cases x with
 | non=>exact tb rfl .non (by rw [show t = "NoneType" from ty]) (by rw [show t = "NoneType" from ty];decide)
 | bl y=>exact tb rfl (.bl y) (by rw [show t = "bool" from ty]) (by rw [show t = "bool" from ty];decide)
 | int y=>exact tb rfl (.int y) (by rw [show t = "int" from ty]) (by rw [show t = "int" from ty];decide)
 | str y=>exact tb rfl (.str y) (by rw [show t = "str" from ty]) (by rw [show t = "str" from ty];decide)
 | ref y =>
  cases rx
  rcases (show (t = "tuple"/\∃xs,SqT X.K H y xs)∨(t = "list"/\∃xs,SqL X.K H y xs)∨(t = "dict"/\(H y=some (dctO y)∨∃kvs,H y=some (.dK kvs))) from ty) with ⟨rfl,xs,hs⟩|⟨rfl,xs,hs⟩|⟨rfl,hs|⟨kvs,hs⟩⟩
  ·exact zw4 I hs (z7q .(1) hT) fin
  ·exact zz0 I hs (z7q .(1) hT) fin
  ·exact K1e K7d I.kIn (I.hok y _ hs).1 (z7q .(1) hT) (λz=>nomatch z) fin
  ·exact tb rfl (.dK hs) rfl .(1)
 | byt y=>exact (show False from ty).elim
 | flt y=>exact (show False from ty).elim
 | ty y=>exact (show False from ty).elim
theorem zo1 {K:K0}{ρ:List Addr}{h h1:AH}{H:Hp}{x:D}{v:V}{t:String}(r:RH K ρ h H) (rx:RD K ρ H x v) (e:tyD x h=.ok t h1):h1=h/\TyV K H v t:=by
 cases x with
 | non=>cases e;simp only [RD] at rx;subst rx;exact ⟨rfl,rfl⟩
 | bl y=>cases e;simp only [RD] at rx;subst rx;exact ⟨rfl,rfl⟩
 | int y=>cases e;simp only [RD] at rx;subst rx;exact ⟨rfl,rfl⟩
 | str y=>cases e;simp only [RD] at rx;subst rx;exact ⟨rfl,rfl⟩
 | tup y=>cases e;simp only [RD] at rx;obtain ⟨q,xs,rfl,h2,_⟩:=rx;exact ⟨rfl,.inl ⟨rfl,xs,h2⟩⟩
 | fl y=>cases e;simp only [RD] at rx;obtain ⟨q,xs,rfl,h2,_⟩:=rx;exact ⟨rfl,.inr (.inl ⟨rfl,xs,h2.sq⟩)⟩
 | ref n =>
  simp only [RD] at rx;obtain ⟨q,rfl,h2⟩:=rx
  unfold tyD at e
  dsimp only at e
  cases q1:h[n]? with
  | none=>rw [q1] at e;cases e
  | some ob =>
   rw [q1] at e
   cases ob with
   | set ks=>cases e
   | dK kvs =>
    cases e
    obtain ⟨a1,n1,vs,o1,d1⟩:=r.at q1
    rw [h2] at n1;cases n1
    exact ⟨rfl,.inr (.inr ⟨rfl,.inr ⟨_,o1⟩⟩)⟩
   | dF kvs=>cases e
   | exc c=>cases e
   | lst ds =>
    cases e
    obtain ⟨a1,n1,vs,o1,d1⟩:=r.at q1
    rw [h2] at n1;cases n1
    exact ⟨rfl,.inr (.inl ⟨rfl,vs,SqL.of o1⟩)⟩
   | dct =>
    cases e
    obtain ⟨a1,n1,o1⟩:=r.at q1
    rw [h2] at n1;cases n1
    exact ⟨rfl,.inr (.inr ⟨rfl,.inl o1⟩)⟩
theorem zM7 {x:D}{h h1:AH}{z:Exn}(e:tyD x h=.err z h1):False:=by
 cases x with
 | ref n =>
  unfold tyD at e
  dsimp only at e
  split at e<;>cases e
 | _=>cases e
def eIsi (T:String) (ma:G->M D):G->M D:=λγ=>do
 let x ← ma γ
 fIsi T x
theorem z3S {T:Str}{T':String}(hg:Gl X "isinstance") (hm:X.mg "isinstance" = none) (hgT:Gl X T) (hmT:X.mg T=none) (hv:K49 T=some (.type T')) (hT:T'∈tyAsked) (ha:SE X EX a ma) (hn:T≠"__name__":=by decide) (hd:(T==("__debug__":Str))=false:=by decide)
 (he:K03 [a,.Name T p2] X.env=[(false,eval a X.env),(false,eval (.Name T p2) X.env)]:=by rfl) (he2:K03 [.Name T p2] X.env=[(false,eval (.Name T p2) X.env)]:=by rfl):SE X EX (.Call (.Name "isinstance" p) [a,.Name T p2] [] pos) (eIsi T' ma):=by
 constructor
 have hA:PA X [a,.Name T p2] (z3V (tE X.K EX ma) (z3V (tC (.ty T')) tNil)):=Y2 ha.h (Y2 (z9A hgT hmT hv rfl hn hd) z0R he2) (by rw [he,he2])
 refine PE.imp (z0J (zg7 hT) hg hm .(2) hA .(1) .(1) (by rw [he,he2]) (by rw [he2];rfl)) λσ H Q ⟨ρ,γ,h,rel,fin⟩=>⟨ρ,γ,h,rel,(Fin.bind fin).mono λx ρ1 h1 H1 p1 e1 r1 f1 v rv=>?_⟩
 have f2:=Fin.bind f1
 cases e:tyD x h1 with
 | bad=>rw [e] at f2;exact f2.elim
 | err z hz=>exact (zM7 e).elim
 | ok t h2 =>
  obtain ⟨rfl,ty⟩:=zo1 r1 rv e
  rw [e] at f2
  have f3:=f2 ρ1 H1 .(6) .(8) r1
  exact ⟨v,t,rfl,ty,FE.here f3 r1 .(t)⟩
def blsD:List D->Option (List Bool)
 | []=>some []
 | .bl b::r=>(blsD r).map (b::·)
 | _::_=>none
def fAll (any:Bool):List D->M D
 | [.ref n]=>do
  let xs ← getL n
  match blsD xs with
  | some bs=>pure (.bl (if any then bs.any id else bs.all id))
  | none=>bad
 | _=>bad
theorem z9l {K:K0}{ρ:List Addr}{H:Hp}:∀{xs:List D}{bs:List Bool}{vs:List V},blsD xs=some bs->RDs K ρ H xs vs->vs=bs.map V.bl
 | [],bs,vs,e,r=>by simp only [RDs] at r;cases e;subst r;rfl
 | x::xs,bs,vs,e,r=>by
  simp only [RDs] at r
  obtain ⟨v,r2,rfl,h1,h2⟩:=r
  cases x<;>first|(simp only [blsD] at e;cases e;done)|skip
  rename_i b
  simp only [blsD] at e
  obtain ⟨bs',e1,rfl⟩:=K16.mp e
  simp only [RD] at h1
  subst h1
  rw [z9l e1 h2];rfl
theorem z79:∀{bs:List Bool}{us:List Value},Vals (bs.map V.bl) us->us=bs.map K6n
 | [],us,h=>by cases h;rfl
 | b::bs,us,h=>by
  cases h with
  | cons h1 h2=>cases h1;rw [z79 h2];rfl
theorem range_all {bs:List Bool}:((K00 bs.length).all λi=>bs.getD i false)=bs.all id:=by
 rw [K0z,K1s,K1s]
 constructor
 ·intro h x hx
  obtain ⟨i,hi,rfl⟩:=K38 hx
  have:=h i (K0y.mpr hi)
  simpa [K9c,hi] using this
 ·intro h i hi
  have hi':=K0y.mp hi
  have:=h bs[i] (K4w hi')
  simpa [K9c,hi'] using this
theorem range_any {bs:List Bool}:((K00 bs.length).any λi=>bs.getD i false)=bs.any id:=by
 rw [K0z,K1p,K1p]
 constructor
 ·rintro ⟨i,hi,h⟩
  have hi':=K0y.mp hi
  refine ⟨bs[i],K4w hi',?_⟩
  simpa [K9c,hi'] using h
 ·rintro ⟨x,hx,h⟩
  obtain ⟨i,hi,rfl⟩:=K38 hx
  exact ⟨i,K0y.mpr hi,by simpa [K9c,hi] using h⟩
theorem z6l (any:Bool) (hc:X.calm=true):z2q X (.builtin (if any then "any" else "all")) (λxs H Q=>∃(q:Addr) (bs:List Bool),xs=[.ref q]/\SqL X.K H q (bs.map V.bl)/\Q (.bl (if any then bs.any id else bs.all id)) H):=by
 intro pins s σ H xs us Q I r h
 obtain ⟨q,bs,rfl,hq,hQ⟩:=h
 obtain ⟨u,rfl,ru⟩:=vals1 r
 cases ru
 obtain ⟨its,rv,pl,hz⟩:=I.list hq
 have ei:=z79 rv
 have ne:q≠s.heap.objs.size:=K0n (by obtain ⟨o,n,e,_⟩:=pl;exact K08 e)
 have pl':=pl.isList
 have hwalk:=Walks.list (prog:=X.prog) (w:=X.w) (A:=X.A.in1) (show X.A.in1.handled=none from I.ok.hd hc) .(3) q ne its.toArray
 have len:its.toArray.size=bs.length:=by rw [ei];simp
 have st0:(s.heap.push { cls:=.type "list_iterator",data:=.fields #[.ref q,.int 0 0] }).IsListIter .(3) q 0/\(s.heap.push { cls:=.type "list_iterator",data:=.fields #[.ref q,.int 0 0] }).IsList q its.toArray :=
  ⟨⟨_,K0a _ rfl,rfl,rfl⟩,pl'.at λo e=>K7 _ e⟩
 have tr:TruthOf X.prog X.w X.A.in1 (λi v=>its.toArray[i]?=some v) λi=>bs.getD i false:=λi v s' Q' E' hv hq'=>by
  have hv':its[i]?=some v:=by simpa using hv
  rw [ei,K07] at hv'
  cases eb:bs[i]? with
  | none=>rw [eb] at hv';cases hv'
  | some b =>
   rw [eb] at hv'
   cases hv'
   have:bs.getD i false=b:=by simp [K9c,eb]
   dsimp only at hq';rw [this] at hq'
   exact K32 hq'
 have fin:∀k,k=(if any then bs.any id else bs.all id)->∀h' tk,(∀b o,b∉[.(3)]->(s.heap.push { cls:=.type "list_iterator",data:=.fields #[.ref q,.int 0 0] }).get? b=some o->h'.get? b=some o) ->
  EP X pins σ Q (.bool k) { s with heap:=h',toks:=tk }:=λk ek h' tk hk=>by
  subst ek
  refine ⟨.bl _,H,I.kept λb o e=>hk b o ?_ (K7 _ e),rfl,hQ⟩
  intro z
  have:b=s.heap.objs.size:=by simpa using z
  exact absurd (K08 e) (by rw [this];exact K2j _)
 cases any with
 | false =>
  refine call_all_walk (K33 pl' ⟨_,_,_,_,_,_,_,rfl,hwalk,st0,tr,λh' tk hk=>?_⟩)
  exact fin _ (by rw [len];exact range_all) h' tk hk
 | true =>
  refine call_any_walk (K33 pl' ⟨_,_,_,_,_,_,_,rfl,hwalk,st0,tr,λh' tk hk=>?_⟩)
  exact fin _ (by rw [len];exact range_any) h' tk hk
theorem zL7 {any:Bool}:AR X.K EX (λxs H Q=>∃(q:Addr) (bs:List Bool),xs=[.ref q]/\SqL X.K H q (bs.map V.bl)/\Q (.bl (if any then bs.any id else bs.all id)) H) (fAll any):=by
 intro ρ h H ds vs Q r rd fin
 unfold fAll at fin
 split at fin
 ·rename_i n
  obtain ⟨v,rfl,rv⟩:=rds1 rd
  have f1:=Fin.bind fin
  cases e:getL n h with
  | bad=>rw [e] at f1;exact f1.elim
  | err z hz=>exact (z0r e).elim
  | ok xs h1 =>
   obtain ⟨rfl,q1⟩:=z0p e
   rw [e] at f1
   have f2:=f1 ρ H .(6) .(8) r
   dsimp only at f2
   cases eb:blsD xs with
   | none=>rw [eb] at f2;exact f2.elim
   | some bs =>
    rw [eb] at f2
    simp only [RD] at rv;obtain ⟨q,rfl,h2⟩:=rv
    obtain ⟨a1,n1,vs,o1,d1⟩:=r.at q1
    rw [h2] at n1;cases n1
    have ev:=z9l eb d1
    subst ev
    exact ⟨q,bs,rfl,SqL.of o1,FE.here f2 r .(t)⟩
 ·exact fin.elim
theorem zG5 (hc:X.calm=true) (hg:Gl X "any") (hm:X.mg "any" = none) (ha:SA X EX [a] mr) (he:K03 [a] X.env=[(false,eval a X.env)]:=by rfl):SE X EX (.Call (.Name "any" p) [a] [] pos) (Z8 (fAll true) mr) :=
 z21 (z0J (z6l true hc) hg hm .(2) ha.h .(1) .(1) he rfl) zL7
end
abbrev EX0:XX:=λ_ _ _ _=>False
def spB (K:K0) (mf:List D->M D) (n:Nat):Sp:=λvs H Q _=>vs.length=n/\∃ρ ds h,RH K ρ h H/\RDs K ρ H ds vs/\FE K EX0 ρ H Q (mf ds h)
structure Fn (P:K0m) (w:World) (K:K0) (mg:Str->Option Value) (base:Heap) (k:Nat) (x:Str) (n:Nat) (mf:List D->M D):Prop where
 ex:∃f fd ps,FnOk P w K mg base CX0 k f fd ps (spB K mf n)/\Binds K fd ps []/\K3d K (.ref f)=true/\mg x=.(r f)
def eFn (n:Nat) (mf:List D->M D) (mr:G->M (List D)):G->M D:=λγ=>do
 let xs ← mr γ
 if xs.length=n then mf xs else bad
section
variable {X:Cx}{a b c e:Expr}{pos p p2:Pos}{ma mb mc:G->M D}{es:List Expr}{mr:G->M (List D)}{k n:Nat}{x:Str}{mf:List D->M D}
theorem Z7 (F:Fn X.prog X.w X.K X.mg X.base k x n mf) (hr:Room k X.A) (hg:Gl X x) (ha:SA X EX0 (a::es) mr) (hdb:.(A)=false:=by decide)
 (he:K03 (a::es) X.env=(false,eval a X.env)::K03 es X.env:=by rfl) (hpl:(backTo pos (K03 es X.env)).any (·.1)=false:=by rfl):SE X EX0 (.Call (.Name x p) (a::es) [] pos) (eFn n mf mr):=by
 constructor
 obtain ⟨f,fd,ps,h1,h2,h3,h4⟩:=F.ex
 refine PE.imp (z9b h1 hr hg h4 h3 h2 .nil zT5 ha.h hdb he hpl) λσ H Q ⟨ρ,γ,h,rel,fin⟩=>⟨ρ,γ,h,rel,(Fin.bind fin).mono λxs ρ1 h1 H1 p1 e1 r1 f1 vs rvs=>?_⟩
 show spB X.K mf n (vs++[]) H1 Q E0
 rw [K1i]
 by_cases hl:xs.length=n
 ·rw [if_pos hl] at f1
  exact ⟨by rw [← rvs.length];exact hl,ρ1,xs,h1,r1,rvs,f1⟩
 ·rw [if_neg hl] at f1;exact (show False from f1).elim
end
def z0D (n:Nat) (ds:List D):G:=ds.map some++K0c (n - ds.length) none
def runF (n:Nat) (mb:G->M Out) (ds:List D):M D:=do
 let o ← mb (z0D n ds)
 match o with
 | .nx _=>pure .non
 | .rt d=>pure d
 | _=>bad
section
variable {P:K0m}{w:World}{K:K0}{mg:Str->Option Value}{base:Heap}
theorem z3h {ρ:List Addr}{H:Hp}{N:List Str}{ds:List D}{vs:List V}(h:RDs K ρ H ds vs):RG K ρ H (z0D N.length ds) (L2.start N vs):=by
 have hl:=h.length
 refine ⟨by unfold z0D L2.start;simp [hl],λi d e=>?_⟩
 unfold z0D at e
 unfold L2.start
 rw [K3s] at e ⊢
 rw [K02] at e ⊢
 rw [← hl]
 split at e
 ·rename_i hi
  rw [if_pos hi]
  rw [K07] at e ⊢
  cases q:ds[i]? with
  | none=>rw [q] at e;cases e
  | some d' =>
   rw [q] at e
   cases e
   obtain ⟨v,h1,h2⟩:=h.get q
   exact ⟨v,by rw [h1];rfl,h2⟩
 ·rw [K2h] at e
  split at e<;>cases e
end
section
variable {env:Env}{t:Option Expr}{l:Nat}{tg:List Expr}
theorem z9H {a p}:K1x (.List a p) t l env=pure false:=rfl
theorem z73 {a b p}:K1x (.Tuple a b p) t l env=pure false:=rfl
theorem z3A {c k p}:K1x (.Constant c k p) t l env=pure false:=rfl
theorem z8k {c p}:K1x (.Name c p) t l env=pure false:=rfl
theorem z6A {a b c p}:K1x (.Call a b c p) t l env=pure false:=rfl
theorem z6O {a b c p}:K1x (.BinOp a b c p) t l env=pure false:=rfl
theorem z4h {a b c p}:K1x (.Compare a b c p) t l env=pure false:=rfl
theorem z2S {a b p}:K1x (.Subscript a b p) t l env=pure false:=rfl
theorem z4g {a b p}:K1x (.UnaryOp a b p) t l env=pure false:=rfl
theorem z5h {a b p}:K1x (.BoolOp a b p) t l env=pure false:=rfl
theorem z6Q {a b c p}:K1x (.IfExp a b c p) t l env=pure false:=rfl
end
section
variable {X:Cx}{EX:XX}{a b c e:Expr}{pos p p2:Pos}{ma mb mc:G->M D}{ka kb kc:G->M Bool}{st:Stmt}{sts:List Stmt}{ms mt:G->M Out}
def bNil:G->M Out:=λγ=>pure (.nx γ)
def Z0 (ms mt:G->M Out):G->M Out:=λγ=>do
 let o ← ms γ
 match o with
 | .nx γ'=>mt γ'
 | o=>pure o
theorem Z5:SB X EX [] bNil:=⟨PSs.imp zA5 λσ H D ⟨ρ,γ,h,rel,fin⟩=>fin ρ H .(6) .(8) rel.h σ rel.g⟩
theorem z8 (h1:S1 X EX st ms) (h2:SB X EX sts mt):SB X EX (st::sts) (Z0 ms mt) :=
 ⟨PSs.imp (zh4 h1.h h2.h) λσ H D ⟨ρ,γ,h,rel,fin⟩=>⟨ρ,γ,h,rel,(Fin.bind fin).mono λo ρ1 h1 H1 p1 e1 r1 f1=>by
  cases o with
  | nx γ'=>exact λσ' rg=>⟨ρ1,γ',h1,⟨rg,r1⟩,f1⟩
  | rt d=>exact f1 ρ1 H1 .(6) .(8) r1
  | bk γ'=>exact f1 ρ1 H1 .(6) .(8) r1
  | ct γ'=>exact f1 ρ1 H1 .(6) .(8) r1⟩⟩
def sRet (ma:G->M D):G->M Out:=λγ=>do
 let d ← ma γ
 pure (.rt d)
theorem Y7 (ha:SE X EX a ma):S1 X EX (.Return (some a) pos) (sRet ma) :=
 ⟨PS.imp (zK5 ha.h) λσ H D ⟨ρ,γ,h,rel,fin⟩=>⟨ρ,γ,h,rel,(Fin.bind fin).mono λd ρ1 h1 H1 p1 e1 r1 f1 v rv=>f1 ρ1 H1 .(6) .(8) r1 v rv⟩⟩
def z0e (ma:G->M D):G->M Out:=λγ=>do
 let _ ← ma γ
 pure (.nx γ)
theorem z0o (ha:SE X EX a ma) (hs:K1x a none pos.line X.env=pure false:=by first|exact z9H|exact z73|exact z3A|exact z8k|exact z6A|exact z6O|exact z4h|exact z2S|exact z4g|exact z5h|exact z6Q|rfl):S1 X EX (.Expr a pos) (z0e ma) :=
 ⟨PS.imp (zu0 ha.h hs) λσ H D ⟨ρ,γ,h,rel,fin⟩=>⟨ρ,γ,h,rel,(Fin.bind fin).mono λd ρ1 h1 H1 p1 e1 r1 f1 v rv=>f1 ρ1 H1 .(6) .(8) r1 σ (rel.g.mono p1 e1)⟩⟩
def sIf (k:G->M Bool) (ms mt:G->M Out):G->M Out:=λγ=>do
 let t ← k γ
 if t then ms γ else mt γ
theorem s_if {sts':List Stmt}(hc:SC X EX c kc) (h1:SB X EX sts ms) (h2:SB X EX sts' mt):S1 X EX (.If c sts sts' pos) (sIf kc ms mt) :=
 ⟨PS.imp (zP4 hc.h h1.h h2.h) λσ H D ⟨ρ,γ,h,rel,fin⟩=>⟨ρ,γ,h,rel,(Fin.bind fin).mono λt ρ1 h1 H1 p1 e1 r1 f1=>by
  cases t with
  | true=>exact ⟨ρ1,γ,h1,⟨rel.g.mono p1 e1,r1⟩,f1⟩
  | false=>exact ⟨ρ1,γ,h1,⟨rel.g.mono p1 e1,r1⟩,f1⟩⟩⟩
def tG (K:K0) (EX:XX) (m:D->G->M G):TG:=λv σ H Q=>∃ρ γ h d,Rel K ρ γ h σ H/\RD K ρ H d v/\Fin K EX ρ H (λγ' ρ' _ H'=>∀σ',RG K ρ' H' γ' σ'->Q σ' H') (m d γ h)
def tGs (K:K0) (EX:XX) (m:List D->G->M G):TGs:=λvs σ H Q=>∃ρ γ h ds,Rel K ρ γ h σ H/\RDs K ρ H ds vs/\Fin K EX ρ H (λγ' ρ' _ H'=>∀σ',RG K ρ' H' γ' σ'->Q σ' H') (m ds γ h)
structure SG (X:Cx) (EX:XX) (tg:Expr) (m:D->G->M G):Prop where
 h:PG X tg (tG X.K EX m)
structure SGs (X:Cx) (EX:XX) (tg:List Expr) (m:List D->G->M G):Prop where
 h:PGs X tg (tGs X.K EX m)
theorem PG.imp {X:Cx}{e:Expr}{t t':TG}(h:PG X e t) (f:∀v σ H Q,t' v σ H Q->t v σ H Q):PG X e t':=λpins s σ H v u Q I r z=>h pins s σ H v u Q I r (f v σ H Q z)
theorem PGs.imp {X:Cx}{e:List Expr}{t t':TGs}(h:PGs X e t) (f:∀v σ H Q,t' v σ H Q->t v σ H Q):PGs X e t':=λpins s σ H v u Q I r z=>h pins s σ H v u Q I r (f v σ H Q z)
def tGk (K:K0) (EX:XX) (own:List Nat) (m:D->G->M G):TG:=λv σ H Q=>∃ρ γ h d,Rel K ρ γ h σ H/\RD K ρ H d v/\Fin K EX ρ H (λγ' ρ' _ H'=>∀σ',RG K ρ' H' γ' σ'->(∀j:Nat,j∉own->σ'[j]?=σ[j]?)->Q σ' H') (m d γ h)
def tGks (K:K0) (EX:XX) (own:List Nat) (m:List D->G->M G):TGs:=λvs σ H Q=>∃ρ γ h ds,Rel K ρ γ h σ H/\RDs K ρ H ds vs/\Fin K EX ρ H (λγ' ρ' _ H'=>∀σ',RG K ρ' H' γ' σ'->(∀j:Nat,j∉own->σ'[j]?=σ[j]?)->Q σ' H') (m ds γ h)
structure SGk (X:Cx) (EX:XX) (tg:Expr) (own:List Nat) (m:D->G->M G):Prop where
 h:PG X tg (tGk X.K EX own m)
structure SGks (X:Cx) (EX:XX) (tg:List Expr) (own:List Nat) (m:List D->G->M G):Prop where
 h:PGs X tg (tGks X.K EX own m)
def gN (i:Nat):D->G->M G:=λd γ=>pure (γ.set i (some d))
theorem y6 (i:Nat) {x:Str}(hN:X.N.Nodup) (hi:X.N[i]?=some x:=by rfl) (hx:Loc X.env.scope x:=by first|exact Or.inl rfl|exact Or.inr rfl) (hf:X.fn x=true∨X.env.scope.names.lookup x=some .local:=by first|exact .inl rfl|exact .inr rfl|assumption):SG X EX (.Name x pos) (gN i) :=
 ⟨PG.imp (z6C hN hi hx hf) λv σ H Q ⟨ρ,γ,h,d,rel,rd,fin⟩=>fin ρ H .(6) .(8) rel.h _ (rel.g.set i rd)⟩
theorem j7 (i:Nat) {x:Str}(hN:X.N.Nodup) (hi:X.N[i]?=some x:=by rfl) (hx:Loc X.env.scope x:=by first|exact Or.inl rfl|exact Or.inr rfl) (hf:X.fn x=true∨X.env.scope.names.lookup x=some .local:=by first|exact .inl rfl|exact .inr rfl|assumption):SGk X EX (.Name x pos) [i] (gN i) :=
 ⟨PG.imp (z6C hN hi hx hf) λv σ H Q ⟨ρ,γ,h,d,rel,rd,fin⟩=>fin ρ H .(6) .(8) rel.h _ (rel.g.set i rd) λj hj=>K0e (λz=>hj (by simp [z]))⟩
def z5I:List D->G->M G:=λds γ=>match ds with
 | []=>pure γ
 | _=>bad
def z0Z (m:D->G->M G) (ms:List D->G->M G):List D->G->M G:=λds γ=>match ds with
 | []=>bad
 | d::r=>do
  let γ1 ← m d γ
  ms r γ1
theorem z3u:SGs X EX [] z5I:=⟨PGs.imp z8U λv σ H Q ⟨ρ,γ,h,ds,rel,rd,fin⟩=>by
 cases ds with
 | nil=>simp only [RDs] at rd;exact ⟨rd,fin ρ H .(6) .(8) rel.h σ rel.g⟩
 | cons d r=>exact (show False from fin).elim⟩
theorem z0w {es:List Expr}{m:D->G->M G}{mr:List D->G->M G}(h1:SG X EX e m) (h2:SGs X EX es mr) (hs:(K2o (e::es) X.env).map (·.2)=assign e X.env::(K2o es X.env).map (·.2):=by rfl):SGs X EX (e::es) (z0Z m mr) :=
 ⟨PGs.imp (z6R h1.h h2.h hs) λvs σ H Q ⟨ρ,γ,h,ds,rel,rd,fin⟩=>by
  cases ds with
  | nil=>exact (show False from fin).elim
  | cons d r =>
   simp only [RDs] at rd
   obtain ⟨v,vr,rfl,h3,h4⟩:=rd
   have fin':Fin X.K EX ρ H (λγ' ρ' _ H'=>∀σ',RG X.K ρ' H' γ' σ'->Q σ' H') ((m d γ >>= λγ1=>mr r γ1) h):=fin
   exact ⟨v,vr,rfl,ρ,γ,h,d,rel,h3,(Fin.bind fin').mono λγ1 ρ1 h1 H1 p1 e1 r1 f1 σ1 g1=>⟨ρ1,γ1,h1,r,⟨g1,r1⟩,h4.mono p1 e1,f1⟩⟩⟩
theorem zg8:SGks X EX [] [] z5I:=⟨PGs.imp z8U λv σ H Q ⟨ρ,γ,h,ds,rel,rd,fin⟩=>by
 cases ds with
 | nil=>simp only [RDs] at rd;exact ⟨rd,fin ρ H .(6) .(8) rel.h σ rel.g λ_ _=>rfl⟩
 | cons d r=>exact (show False from fin).elim⟩
theorem z5n {es:List Expr}{o1 o2:List Nat}{m:D->G->M G}{mr:List D->G->M G}(h1:SGk X EX e o1 m) (h2:SGks X EX es o2 mr) (hs:(K2o (e::es) X.env).map (·.2)=assign e X.env::(K2o es X.env).map (·.2):=by rfl):SGks X EX (e::es) (o1++o2) (z0Z m mr) :=
 ⟨PGs.imp (z6R h1.h h2.h hs) λvs σ H Q ⟨ρ,γ,h,ds,rel,rd,fin⟩=>by
  cases ds with
  | nil=>exact (show False from fin).elim
  | cons d r =>
   simp only [RDs] at rd
   obtain ⟨v,vr,rfl,h3,h4⟩:=rd
   have fin':Fin X.K EX ρ H (λγ' ρ' _ H'=>∀σ',RG X.K ρ' H' γ' σ'->(∀j:Nat,j∉o1++o2->σ'[j]?=σ[j]?)->Q σ' H') ((m d γ >>= λγ1=>mr r γ1) h):=fin
   refine ⟨v,vr,rfl,ρ,γ,h,d,rel,h3,(Fin.bind fin').mono λγ1 ρ1 h1 H1 p1 e1 r1 f1 σ1 g1 k1=>⟨ρ1,γ1,h1,r,⟨g1,r1⟩,h4.mono p1 e1,f1.mono λγ2 ρ2 h2 H2 p2 e2 r2 f2 σ2 g2 k2=>f2 σ2 g2 λj hj=>?_⟩⟩
   rw [K0o,not_or] at hj
   rw [k2 j hj.2,k1 j hj.1]⟩
def gT (n:Nat) (m:List D->G->M G):D->G->M G:=λd γ=>match d with
 | .tup xs=>if xs.length=n then m xs γ else bad
 | _=>bad
theorem z63 {es:List Expr}{k n:Nat}{m:List D->G->M G}(hc:X.calm=true) (h:SGs X EX es m) (hn:(K2o es X.env).length=n:=by rfl) (hst:(K2o es X.env).findIdx? (·.1)=none:=by rfl):SG X EX (.Tuple es k pos) (gT n m) :=
 ⟨PG.imp (zn6 hc h.h hn hst) λv σ H Q ⟨ρ,γ,h,d,rel,rd,fin⟩=>by
  cases d<;>first|exact (show False from fin).elim|skip
  rename_i xs
  simp only [RD] at rd
  obtain ⟨q,vs,rfl,h1,h2⟩:=rd
  have fin':Fin X.K EX ρ H (λγ' ρ' _ H'=>∀σ',RG X.K ρ' H' γ' σ'->Q σ' H') ((if xs.length=n then m xs γ else bad) h):=fin
  by_cases hl:xs.length=n
  ·rw [if_pos hl] at fin'
   exact ⟨q,vs,rfl,h1,by rw [← h2.length];exact hl,ρ,γ,h,xs,rel,h2,fin'⟩
  ·rw [if_neg hl] at fin';exact (show False from fin').elim⟩
theorem zt2 {es:List Expr}{k n:Nat}{own:List Nat}{m:List D->G->M G}(hc:X.calm=true) (h:SGks X EX es own m) (hn:(K2o es X.env).length=n:=by rfl) (hst:(K2o es X.env).findIdx? (·.1)=none:=by rfl):SGk X EX (.Tuple es k pos) own (gT n m) :=
 ⟨PG.imp (zn6 hc h.h hn hst) λv σ H Q ⟨ρ,γ,h,d,rel,rd,fin⟩=>by
  cases d<;>first|exact (show False from fin).elim|skip
  rename_i xs
  simp only [RD] at rd
  obtain ⟨q,vs,rfl,h1,h2⟩:=rd
  have fin':Fin X.K EX ρ H (λγ' ρ' _ H'=>∀σ',RG X.K ρ' H' γ' σ'->(∀j:Nat,j∉own->σ'[j]?=σ[j]?)->Q σ' H') ((if xs.length=n then m xs γ else bad) h):=fin
  by_cases hl:xs.length=n
  ·rw [if_pos hl] at fin'
   exact ⟨q,vs,rfl,h1,by rw [← h2.length];exact hl,ρ,γ,h,xs,rel,h2,fin'⟩
  ·rw [if_neg hl] at fin';exact (show False from fin').elim⟩
def fSet:D->D->D->M Unit:=λo i v=>match o,i with
 | .ref n,.int k=>λh=>match h[n]? with
  | .(l xs)=>(match ixN xs.length k with
   | some j=>.ok () (h.set n (.lst (xs.set j v)))
   | none=>.bad)
  | _=>.bad
 | _,_=>bad
def gIx (mo mi:G->M D):D->G->M G:=λv γ=>do
 let o ← mo γ
 let i ← mi γ
 let _ ← fSet o i v
 pure γ
theorem zs5 {o i:Expr}{mo mi:G->M D}(ho:SE X EX o mo) (hi:SE X EX i mi)
 (ha:∀v,assign (.Subscript o i pos) X.env v=(do
  let ov ← K3v [v] (eval o X.env)
  let iv ← K3v [v,ov] (eval i X.env)
  K4q pos
  K3v [v,ov,iv] (Z13 ov iv v)
  release [v,ov,iv] []):=by intro _;rfl):SG X EX (.Subscript o i pos) (gIx mo mi) :=
 ⟨PG.imp (zn7 ho.h hi.h set_list ha) λv σ H Q ⟨ρ,γ,h,d,rel,rd,fin⟩=>⟨ρ,γ,h,rel,(Fin.bind fin).mono λod ρ1 h1 H1 p1 e1 r1 f1 ov ro=>⟨ρ1,γ,h1,⟨rel.g.mono p1 e1,r1⟩,(Fin.bind f1).mono λid ρ2 h2 H2 p2 e2 r2 f2 iv ri=>by
  have f3:=Fin.bind f2
  cases od<;>first|exact (show False from f3).elim|skip
  rename_i n
  cases id<;>first|exact (show False from f3).elim|skip
  rename_i k
  simp only [RD] at ro ri
  obtain ⟨q,rfl,hq⟩:=ro
  subst ri
  have hq2:=p2 n q hq
  unfold fSet at f3
  dsimp only at f3
  cases e4:h2[n]? with
  | none=>rw [e4] at f3;exact (show False from f3).elim
  | some ob =>
   cases ob with
   | set ks=>rw [e4] at f3;exact (show False from f3).elim
   | dct=>rw [e4] at f3;exact (show False from f3).elim
   | dK kvs=>rw [e4] at f3;exact (show False from f3).elim
   | dF kvs=>rw [e4] at f3;exact (show False from f3).elim
   | exc c=>rw [e4] at f3;exact (show False from f3).elim
   | lst xs =>
    rw [e4] at f3
    dsimp only at f3
    cases e5:ixN xs.length k with
    | none=>rw [e5] at f3;exact (show False from f3).elim
    | some j =>
     rw [e5] at f3
     obtain ⟨a1,n1,vs,o1,d1⟩:=r2.at e4
     rw [hq2] at n1;cases n1
     have rd2:=(rd.mono p1 e1).mono p2 e2
     have dd:=d1.set j rd2
     refine ⟨q,vs,k,j,rfl,rfl,o1,by rw [← d1.length];exact e5,?_⟩
     have ext:Ext X.K H2 (upd H2 q (.lst (vs.set j v))):=Ext.upd (.inr ⟨_,o1,trivial⟩)
     have f4:=f3 ρ2 _ .(6) ext (r2.set e4 hq2 dd)
     exact f4 ρ2 _ .(6) .(8) (r2.set e4 hq2 dd) σ (((rel.g.mono p1 e1).mono p2 e2).mono .(6) ext)⟩⟩⟩
def sAsg (ma:G->M D) (g:D->G->M G):G->M Out:=λγ=>do
 let d ← ma γ
 let γ1 ← g d γ
 pure (.nx γ1)
theorem z3Z {tg:Expr}{g:D->G->M G}(ha:SE X EX a ma) (hg:SG X EX tg g) (hs:swapsWithSole [tg] a pos.line X.env=pure false:=by rfl) (hw:swappedStores [tg] a X.env=pure none:=by rfl)
 (h1:(K2o [tg] X.env).map (·.2)=[assign tg X.env]:=by rfl):S1 X EX (.Assign [tg] a pos) (sAsg ma g) :=
 ⟨PS.imp (zI3 ha.h hg.h hs hw h1) λσ H D ⟨ρ,γ,h,rel,fin⟩=>⟨ρ,γ,h,rel,(Fin.bind fin).mono λd ρ1 h1 H1 p1 e1 r1 f1 v rv=>⟨ρ1,γ,h1,d,⟨rel.g.mono p1 e1,r1⟩,rv,(Fin.bind f1).mono λγ1 ρ2 h2 H2 p2 e2 r2 f2 σ2 g2 =>
  f2 ρ2 H2 .(6) .(8) r2 σ2 g2⟩⟩⟩
theorem y9 (i:Nat) {x:Str}(hN:X.N.Nodup) (ha:SE X EX a ma) (hi:X.N[i]?=some x:=by rfl) (hx:Loc X.env.scope x:=by first|exact Or.inl rfl|exact Or.inr rfl) (hs:K1x a (some (.Name x p)) pos.line X.env=pure false:=by first|exact z9H|exact z73|exact z3A|exact z8k|exact z6A|exact z6O|exact z4h|exact z2S|exact z4g|exact z5h|exact z6Q|rfl)
 (hf:X.fn x=true∨X.env.scope.names.lookup x=some .local:=by first|exact .inl rfl|exact .inr rfl|assumption):S1 X EX (.Assign [.Name x p] a pos) (sAsg ma (gN i)) :=
 ⟨PS.imp (zN4 hN hi hx ha.h hs hf) λσ H D ⟨ρ,γ,h,rel,fin⟩=>⟨ρ,γ,h,rel,(Fin.bind fin).mono λd ρ1 h1 H1 p1 e1 r1 f1 v rv=>f1 ρ1 H1 .(6) .(8) r1 _ ((rel.g.mono p1 e1).set i rv)⟩⟩
end
section
variable {X:Cx}{EX:XX}{a o e:Expr}{pos cpos apos:Pos}{ma mo:G->M D}
def updL (n:Nat) (f:List D->Option (D×List D)):M D:=λh=>match h[n]? with
 | .(l xs)=>(match f xs with
  | some (d,ys)=>if ys.length≤sizeLine then .ok d (h.set n (.lst ys)) else .bad
  | none=>.bad)
 | _=>.bad
def z2h:D->M Nat
 | .ref n=>λh=>match h[n]? with
  | .(l _)=>.ok n h
  | _=>.bad
 | _=>bad
def j8 (n:Nat) (v:D):M D:=updL n λxs=>some (.non,xs++[v])
def z2u (n:Nat) (i:D):M D:=match i with
 | .int k=>updL n λxs=>if -(2 ^ 63)≤k/\k<2 ^ 63 then (match K5f k xs.length with
  | some j=>(xs[j]?).map λd=>(d,xs.eraseIdx j)
  | none=>none) else none
 | _=>bad
def eM1 (f:Nat->D->M D) (mo ma:G->M D):G->M D:=λγ=>do
 let o ← mo γ
 let n ← z2h o
 let v ← ma γ
 f n v
theorem z75 {K:K0}{ρ:List Addr}{h:AH}{H:Hp}{Q:VK}{n:Nat}{q:Addr}{f:List D->Option (D×List D)}(r:RH K ρ h H) (hq:ρ[n]?=some q) (fin:FE K EX ρ H Q (updL n f h)) :
 ∃xs d ys vs,f xs=some (d,ys)/\ys.length≤sizeLine/\H q=.(l vs)/\RDs K ρ H xs vs/\∀v ws,RD K ρ H d v->RDs K ρ H ys ws->Q v (upd H q (.lst ws)):=by
 unfold updL at fin
 cases e:h[n]? with
 | none=>rw [e] at fin;exact fin.elim
 | some ob =>
  cases ob with
  | set ks=>rw [e] at fin;exact fin.elim
  | dct=>rw [e] at fin;exact fin.elim
  | dK kvs=>rw [e] at fin;exact fin.elim
  | dF kvs=>rw [e] at fin;exact fin.elim
  | exc c=>rw [e] at fin;exact fin.elim
  | lst xs =>
   rw [e] at fin
   dsimp only at fin
   cases e2:f xs with
   | none=>rw [e2] at fin;exact fin.elim
   | some dy =>
    obtain ⟨d,ys⟩:=dy
    rw [e2] at fin
    dsimp only at fin
    split at fin
    ·rename_i hl
     obtain ⟨a1,n1,vs,o1,d1⟩:=r.at e
     rw [hq] at n1;cases n1
     refine ⟨xs,d,ys,vs,e2,hl,o1,d1,λv ws rv rw'=>?_⟩
     have ext:Ext K H (upd H q (.lst ws)):=Ext.upd (.inr ⟨_,o1,trivial⟩)
     exact fin ρ _ .(6) ext (r.set e hq rw') v (rv.mono .(6) ext)
    ·exact fin.elim
theorem zr6 {K:K0}{ρ:List Addr}{h:AH}{H:Hp}{n:Nat}{q:Addr}{Z:Nat->List Addr->AH->Hp->Prop}(r:RH K ρ h H) (hq:ρ[n]?=some q) (f:Fin K EX ρ H Z (z2h (.ref n) h)):tyV K "list" (.ref q) H/\Z n ρ h H:=by
 unfold z2h at f
 dsimp only at f
 cases e:h[n]? with
 | none=>rw [e] at f;exact f.elim
 | some ob =>
  cases ob with
  | set ks=>rw [e] at f;exact f.elim
  | dct=>rw [e] at f;exact f.elim
  | dK kvs=>rw [e] at f;exact f.elim
  | dF kvs=>rw [e] at f;exact f.elim
  | exc c=>rw [e] at f;exact f.elim
  | lst xs =>
   rw [e] at f
   obtain ⟨a1,n1,vs,o1,d1⟩:=r.at e
   rw [hq] at n1;cases n1
   exact ⟨.inl ⟨rfl,vs,SqL.of o1⟩,f ρ H .(6) .(8) r⟩
theorem zk3 {f:Nat->D->M D}{r:V->List V->Hp->VK->Prop}(hr:∀ρ h H n q y u Q,RH X.K ρ h H->ρ[n]?=some q->RD X.K ρ H y u->FE X.K EX ρ H Q (f n y h)->r (.ref q) [u] H Q) :
 ∀σ H Q,tE X.K EX (eM1 f mo ma) σ H Q->tBM X.K "list" r (tE X.K EX mo) (z3V (tE X.K EX ma) tNil) σ H Q:=λσ H Q ⟨ρ,γ,h,rel,fin⟩=>⟨ρ,γ,h,rel,(Fin.bind fin).mono λx ρ1 h1 H1 p1 e1 r1 f1 v rv=>by
 have f2:=Fin.bind f1
 cases x<;>first|exact (show False from f2).elim|skip
 rename_i n
 simp only [RD] at rv
 obtain ⟨q,rfl,hq⟩:=rv
 obtain ⟨lt,f3⟩:=zr6 r1 hq f2
 exact ⟨lt,ρ1,γ,h1,⟨rel.g.mono p1 e1,r1⟩,(Fin.bind f3).mono λy ρ2 h2 H2 p2 e2 r2 f4 u ru=>hr ρ2 h2 H2 n q y u Q r2 (p2 n q hq) ru f4⟩⟩
theorem J2 (ho:SE X EX o mo) (ha:SE X EX a ma)
 (hbase:K4k o "append" X.env (eval o X.env)=eval o X.env:=by rfl)
 (hfew:((backTo cpos (K03 [a] X.env)).all (λx=>!x.1)&&(K80 cpos (K5h [] X.env)).all (λx=>x.1.isSome)
 &&decide .(m))=true:=by rfl)
 (hline:(apos.endLine==cpos.line)=true:=by rfl) (hs:K03 [a] X.env=[(false,eval a X.env)]:=by rfl) :
 SE X EX (.Call (.Attribute o "append" apos) [a] [] cpos) (eM1 j8 mo ma) :=
 ⟨PE.imp (ze6 K41 PySem.F.slot_list_append PySem.F.type_list_append z55 ho.h (Y2 ha.h z0R hs) hbase hfew hline hs rfl) (zk3 λρ h H n q y u Q r hq ru fin=>by
  obtain ⟨xs,d,ys,vs,g1,g2,g3,g4,g5⟩:=z75 r hq fin
  cases g1
  have hl:=g4.length
  rw [K01,K4l] at g2
  exact ⟨q,vs,u,rfl,rfl,g3,by omega,g5 _ _ .(t) (g4.append (RDs.cons ru RDs.nil))⟩)⟩
theorem z6M (ho:SE X EX o mo) (ha:SE X EX a ma)
 (hbase:K4k o "pop" X.env (eval o X.env)=eval o X.env:=by rfl)
 (hfew:((backTo cpos (K03 [a] X.env)).all (λx=>!x.1)&&(K80 cpos (K5h [] X.env)).all (λx=>x.1.isSome)
 &&decide .(m))=true:=by rfl)
 (hline:(apos.endLine==cpos.line)=true:=by rfl) (hs:K03 [a] X.env=[(false,eval a X.env)]:=by rfl) :
 SE X EX (.Call (.Attribute o "pop" apos) [a] [] cpos) (eM1 z2u mo ma) :=
 ⟨PE.imp (ze6 K41 PySem.F.slot_list_pop PySem.F.type_list_pop zd0 ho.h (Y2 ha.h z0R hs) hbase hfew hline hs rfl) (zk3 λρ h H n q y u Q r hq ru fin=>by
  cases y<;>first|exact (show False from fin).elim|skip
  rename_i k
  simp only [RD] at ru
  subst ru
  obtain ⟨xs,d,ys,vs,g1,g2,g3,g4,g5⟩:=z75 r hq fin
  split at g1
  ·rename_i hk
   cases e5:K5f k xs.length with
   | none=>rw [e5] at g1;cases g1
   | some j =>
    rw [e5] at g1
    obtain ⟨d',e1,e2⟩:=K16.mp g1
    cases e2
    obtain ⟨v,e3,e4⟩:=g4.get e1
    exact ⟨q,vs,k,j,v,rfl,rfl,g3,hk.1,hk.2,by rw [← g4.length];exact e5,e3,g5 _ _ e4 (g4.eraseIdx j)⟩
  ·cases g1)⟩
end
inductive Src where
 | con (xs:List D)
 | lst (n:Nat) (xs:List D)
 | obj (n:Nat) (o:O) (xs:List D)
def Src.items:Src->List D
 | .con xs=>xs
 | .lst _ xs=>xs
 | .obj _ _ xs=>xs
def Src.good:Src->AH->Prop
 | .con _,_=>True
 | .lst n xs,h=>h[n]?=.(l xs)
 | .obj n o _,h=>h[n]?=some o
open Classical in
noncomputable def Src.chk (s:Src):M Unit:=λh=>if s.good h then .ok () h else .bad
def JOK (K:K0) (src:Src) (ρ:List Addr) (H:Hp) (J:It):Prop:=∀i ρ1 h1 H1,Pre ρ ρ1->Ext K H H1->RH K ρ1 h1 H1->src.good h1 ->
 (∀d,src.items[i]?=some d->J.go i H1/\∀x H2,J.yld i H1 x H2->RD K ρ1 H2 d x/\RH K ρ1 h1 H2/\Ext K H1 H2)/\(src.items.length=i->J.stop i H1)
def tI (K:K0) (EX:XX) (m:G->M Src):TI:=λσ H R=>∃ρ γ h,Rel K ρ γ h σ H/\Fin K EX ρ H (λsrc ρ' _ H'=>∀J,JOK K src ρ' H' J->R J H') (m γ h)
structure SI (X:Cx) (EX:XX) (tg iter:Expr) (m:G->M Src):Prop where
 h:PI X tg iter (tI X.K EX m)
theorem PI.imp {X:Cx}{tg e:Expr}{t t':TI}(h:PI X tg e t) (f:∀σ H R,t' σ H R->t σ H R):PI X tg e t':=λpins s σ H R I z=>h pins s σ H R I (f σ H R z)
section
variable {X:Cx}{EX:XX}{a o e tg:Expr}{pos cpos apos p:Pos}{ma mo:G->M D}{mr:G->M (List D)}
def x6 (ma:G->M D):G->M Src:=λγ=>do
 let x ← ma γ
 match x with
 | .fl xs=>pure (.con xs)
 | .ref n=>do
  let xs ← getL n
  pure (.lst n xs)
 | _=>bad
theorem x4 (ha:SE X EX a ma):SI X EX tg a (x6 ma) :=
 ⟨PI.imp (zt9 ha.h) λσ H R ⟨ρ,γ,h,rel,fin⟩=>⟨ρ,γ,h,rel,(Fin.bind fin).mono λx ρ1 h1 H1 p1 e1 r1 f1 v rv=>by
  cases x<;>first|exact (show False from f1).elim|skip
  case fl xs =>
   simp only [RD] at rv
   obtain ⟨q,vs,rfl,h2,h3⟩:=rv
   refine ⟨q,rfl,⟨vs,h2.sq⟩,f1 ρ1 H1 .(6) .(8) r1 _ λi ρ2 h4 H2 p2 e2 r2 _=>⟨λd hd=>?_,λhi=>?_⟩⟩
   ·have h3':=h3.mono p2 e2
    obtain ⟨x,g1,g2⟩:=h3'.get hd
    refine ⟨⟨vs,x,(e2.l _ _ h2).sq,g1⟩,λy H3 ⟨z1,z2⟩=>?_⟩
    subst z1
    have:=z2 vs (e2.l _ _ h2).sq
    rw [g1] at this;cases this
    exact ⟨g2,r2,Ext.refl _ _⟩
   ·exact ⟨vs,(e2.l _ _ h2).sq,by rw [← h3.length];exact K6j hi⟩
  case ref n =>
   have f2:Fin X.K EX ρ1 H1 (λsrc ρ' _ H'=>∀J,JOK X.K src ρ' H' J->R J H') ((getL n >>= λxs=>(pure (.lst n xs):M Src)) h1):=f1
   have f3:=Fin.bind f2
   cases e3:getL n h1 with
   | bad=>rw [e3] at f3;exact f3.elim
   | err z hz=>exact (z0r e3).elim
   | ok xs h3 =>
    obtain ⟨rfl,q1⟩:=z0p e3
    rw [e3] at f3
    simp only [RD] at rv
    obtain ⟨q,rfl,hq⟩:=rv
    obtain ⟨a1,n1,vs,o1,d1⟩:=r1.at q1
    rw [hq] at n1;cases n1
    have f4:=f3 ρ1 H1 .(6) .(8) r1
    refine ⟨q,rfl,⟨vs,SqL.of o1⟩,f4 ρ1 H1 .(6) .(8) r1 _ λi ρ2 h4 H2 p2 e2 r2 g=>?_⟩
    have g':h4[n]?=.(l xs):=g
    obtain ⟨a2,n2,vs2,o2,d2⟩:=r2.at g'
    rw [p2 n q hq] at n2;cases n2
    refine ⟨λd hd=>?_,λhi=>⟨vs2,SqL.of o2,by rw [← d2.length];exact K6j hi⟩⟩
    obtain ⟨x,g1,g2⟩:=d2.get hd
    refine ⟨⟨vs2,x,SqL.of o2,g1⟩,λy H3 ⟨z1,z2⟩=>?_⟩
    subst z1
    have:=z2 vs2 (SqL.of o2)
    rw [g1] at this;cases this
    exact ⟨g2,r2,Ext.refl _ _⟩⟩⟩
def z0f (ma:G->M D):G->M Src:=λγ=>do
 let x ← ma γ
 match x with
 | .tup xs=>pure (.con xs)
 | _=>bad
theorem z08 (ha:SE X EX a ma):SI X EX tg a (z0f ma) :=
 ⟨PI.imp (zE5 ha.h) λσ H R ⟨ρ,γ,h,rel,fin⟩=>⟨ρ,γ,h,rel,(Fin.bind fin).mono λx ρ1 h1 H1 p1 e1 r1 f1 v rv=>by
  cases x<;>first|exact (show False from f1).elim|skip
  rename_i xs
  simp only [RD] at rv
  obtain ⟨q,vs,rfl,h2,h3⟩:=rv
  refine ⟨q,rfl,⟨vs,h2⟩,f1 ρ1 H1 .(6) .(8) r1 _ λi ρ2 h4 H2 p2 e2 r2 _=>⟨λd hd=>?_,λhi=>?_⟩⟩
  ·have h3':=h3.mono p2 e2
   obtain ⟨x,g1,g2⟩:=h3'.get hd
   refine ⟨⟨vs,x,e2.t _ _ h2,g1⟩,λy H3 ⟨z1,z2⟩=>?_⟩
   subst z1
   have:=z2 vs (e2.t _ _ h2)
   rw [g1] at this;cases this
   exact ⟨g2,r2,Ext.refl _ _⟩
  ·exact ⟨vs,e2.t _ _ h2,by rw [← h3.length];exact K6j hi⟩⟩⟩
def z0q (n:Nat):List D:=(K00 n).map λ(i:Nat)=>.int i
def z0k (ma:G->M D):G->M Src:=λγ=>do
 let x ← ma γ
 match x with
 | .int j=>if -(2 ^ 62)≤j/\j<2 ^ 62 then pure (.con (z0q j.toNat)) else bad
 | _=>bad
theorem z01 (hg:Gl X "range") (hm:X.mg "range" = none) (ha:SE X EX a ma) (hs:K03 [a] X.env=[(false,eval a X.env)]:=by rfl):SI X EX tg (.Call (.Name "range" p) [a] [] pos) (z0k ma) :=
 ⟨PI.imp (z9a hg hm (Y2 ha.h z0R hs) hs) λσ H R ⟨ρ,γ,h,rel,fin⟩=>⟨ρ,γ,h,rel,(Fin.bind fin).mono λx ρ1 h1 H1 p1 e1 r1 f1 v rv=>by
  cases x<;>first|exact (show False from f1).elim|skip
  rename_i j
  simp only [RD] at rv
  subst rv
  have f2:Fin X.K EX ρ1 H1 (λsrc ρ' _ H'=>∀J,JOK X.K src ρ' H' J->R J H') ((if -(2 ^ 62)≤j/\j<2 ^ 62 then pure (.con (z0q j.toNat)) else bad:M Src) h1):=f1
  by_cases hj:-(2 ^ 62)≤j/\j<2 ^ 62
  ·rw [if_pos hj] at f2
   refine ⟨j,rfl,hj.1,hj.2,f2 ρ1 H1 .(6) .(8) r1 _ λi ρ2 h4 H2 p2 e2 r2 _=>⟨λd hd=>?_,λhi=>?_⟩⟩
   ·have hd':(z0q j.toNat)[i]?=some d:=hd
    unfold z0q at hd'
    rw [K07] at hd'
    have hi:i<j.toNat:=by
     by_cases hi:i<j.toNat
     ·exact hi
     ·rw [K15 (by simpa using hi)] at hd';cases hd'
    rw [K1n hi] at hd'
    cases hd'
    refine ⟨hi,λy H3 ⟨z1,z2⟩=>?_⟩
    subst z1;subst z2
    exact ⟨by simp [RD],r2,Ext.refl _ _⟩
   ·have hi':(z0q j.toNat).length=i:=hi
    unfold z0q at hi'
    rw [K02,K2b] at hi'
    exact K6j hi'
  ·rw [if_neg hj] at f2;exact f2.elim⟩⟩
end
noncomputable def forR (src:Src) (g:D->G->M G) (body:G->M Out):List D->G->M Out
 | [],γ=>do
  let _ ← src.chk
  pure (.nx γ)
 | d::r,γ=>do
  let _ ← src.chk
  let γ1 ← g d γ
  let o ← body γ1
  match o with
  | .nx γ2=>forR src g body r γ2
  | .ct γ2=>forR src g body r γ2
  | .bk γ2=>pure (.nx γ2)
  | .rt v=>pure (.rt v)
noncomputable def sFor (mi:G->M Src) (g:D->G->M G) (body:G->M Out):G->M Out:=λγ=>do
 let src ← mi γ
 forR src g body src.items γ
theorem z6V {K:K0}{EX:XX}{ρ:List Addr}{H:Hp}{α:Type}{P:α->List Addr->AH->Hp->Prop}{src:Src}{f:Unit->M α}{h:AH}(fin:Fin K EX ρ H P ((src.chk >>= f) h)) (r:RH K ρ h H):src.good h/\Fin K EX ρ H P (f () h):=by
 have f1:=Fin.bind fin
 unfold Src.chk at f1
 split at f1
 ·rename_i hg
  exact ⟨hg,f1 ρ H .(6) .(8) r⟩
 ·exact f1.elim
section
variable {X:Cx}{EX:XX}{a o e tg c:Expr}{pos cpos apos p:Pos}{ma mo:G->M D}{mi:G->M Src}{g:D->G->M G}{mb:G->M Out}{sts:List Stmt}{kc:G->M Bool}
theorem z1v (hp:Z0n .(4) X.A X.env X.xe) (hc:X.calm=true) (hi:SI X EX tg e mi) (hg:SG X EX tg g) (hb:SB X EX sts mb) (hs:∀x,K12 e X.env x=pure x:=by intro _;rfl):S1 X EX (.For tg e sts [] pos) (sFor mi g mb) :=
 ⟨PS.imp (zH4 hp hc hi.h hg.h hb.h hs) λσ H D ⟨ρ,γ,h,rel,fin⟩=>⟨ρ,γ,h,rel,(Fin.bind fin).mono λsrc ρ0 h0 H0 p0 e0 r0 f0 J hJ=>by
  refine ⟨λi m σ H=>m+i=src.items.length/\∃ρ γ h,Pre ρ0 ρ/\Ext X.K H0 H/\Rel X.K ρ γ h σ H/\Fin X.K EX ρ H (λo ρ' _ H'=>OutP X.K D o ρ' H') (forR src g mb (src.items.drop i) γ h),
   ⟨src.items.length,rfl,ρ0,γ,h0,Pre.refl _,Ext.refl _ _,⟨rel.g.mono p0 e0,r0⟩,f0⟩,?_⟩
  rintro i m σ1 H1 ⟨hm,ρ1,γ1,h1,p1,e1,rel1,f1⟩
  by_cases hi:i<src.items.length
  ·have hd:src.items.drop i=src.items[i]::src.items.drop (i+1):=K75 hi
   rw [hd] at f1
   unfold forR at f1
   obtain ⟨good,f2⟩:=z6V f1 rel1.h
   obtain ⟨j1,j2⟩:=hJ i ρ1 h1 H1 p1 e1 rel1.h good
   obtain ⟨go,yld⟩:=j1 src.items[i] (K6 hi)
   refine .inr ⟨go,λσ' H'=>∃ρ γ h,Pre ρ0 ρ/\Ext X.K H0 H'/\Rel X.K ρ γ h σ' H'/\Fin X.K EX ρ H' (λo ρ' _ H'=>OutP X.K D o ρ' H') (forR src g mb (src.items.drop (i+1)) γ h),λσ' H' z=>⟨m - 1,by omega,by omega,z⟩,λx H2 y=>?_⟩
   obtain ⟨rd,rh,ext⟩:=yld x H2 y
   refine ⟨ρ1,γ1,h1,_,⟨rel1.g.mono .(6) ext,rh⟩,rd,(Fin.bind (Fin.up .(6) ext f2)).mono λγ2 ρ3 h3 H3 p3 e3 r3 f3 σ3 g3=>⟨ρ3,γ2,h3,⟨g3,r3⟩,(Fin.bind f3).mono λo ρ4 h4 H4 p4 e4 r4 f4=>?_⟩⟩
   have pp:Pre ρ0 ρ4:=(p1.trans p3).trans p4
   have ee:Ext X.K H0 H4:=((e1.trans ext).trans e3).trans e4
   cases o with
   | nx γ5=>exact λσ5 g5=>⟨ρ4,γ5,h4,pp,ee,⟨g5,r4⟩,f4⟩
   | ct γ5=>exact λσ5 g5=>⟨ρ4,γ5,h4,pp,ee,⟨g5,r4⟩,f4⟩
   | bk γ5=>exact λσ5 g5=>f4 ρ4 H4 .(6) .(8) r4 σ5 g5
   | rt d=>exact λv rv=>f4 ρ4 H4 .(6) .(8) r4 v rv
  ·have hd:src.items.drop i=[]:=K8j .(0)
   rw [hd] at f1
   unfold forR at f1
   obtain ⟨good,f2⟩:=z6V f1 rel1.h
   obtain ⟨j1,j2⟩:=hJ i ρ1 h1 H1 p1 e1 rel1.h good
   exact .inl ⟨j2 .(0),f2 ρ1 H1 .(6) .(8) rel1.h σ1 rel1.g⟩⟩⟩
def z1W (k:G->M Bool) (body:G->M Out):Nat->G->M Out
 | 0,_=>bad
 | n+1,γ=>do
  let t ← k γ
  if t then do
   let o ← body γ
   match o with
   | .nx γ2=>z1W k body n γ2
   | .ct γ2=>z1W k body n γ2
   | .bk γ2=>pure (.nx γ2)
   | .rt v=>pure (.rt v)
  else pure (.nx γ)
theorem zu2 (n:Nat) (hp:Z0n .(4) X.A X.env X.xe) (hc:SC X EX c kc) (hb:SB X EX sts mb):S1 X EX (.While c sts [] pos) (z1W kc mb n) :=
 ⟨PS.imp (zf5 hp hc.h hb.h) λσ H D ⟨ρ,γ,h,rel,fin⟩=>by
  refine ⟨λm σ H=>∃ρ γ h,Rel X.K ρ γ h σ H/\Fin X.K EX ρ H (λo ρ' _ H'=>OutP X.K D o ρ' H') (z1W kc mb m γ h),⟨n,ρ,γ,h,rel,fin⟩,?_⟩
  rintro m σ1 H1 ⟨ρ1,γ1,h1,rel1,f1⟩
  cases m with
  | zero=>exact (show False from f1).elim
  | succ m =>
   unfold z1W at f1
   refine ⟨ρ1,γ1,h1,rel1,(Fin.bind f1).mono λt ρ2 h2 H2 p2 e2 r2 f2=>?_⟩
   cases t with
   | false=>exact f2 ρ2 H2 .(6) .(8) r2 σ1 (rel1.g.mono p2 e2)
   | true =>
    rw [if_pos rfl] at f2 ⊢
    refine ⟨λσ' H'=>∃ρ γ h,Rel X.K ρ γ h σ' H'/\Fin X.K EX ρ H' (λo ρ' _ H'=>OutP X.K D o ρ' H') (z1W kc mb m γ h),λσ' H' z=>⟨m,by omega,z⟩,ρ2,γ1,h2,⟨rel1.g.mono p2 e2,r2⟩,(Fin.bind f2).mono λo ρ4 h4 H4 p4 e4 r4 f4=>?_⟩
    cases o with
    | nx γ5=>exact λσ5 g5=>⟨ρ4,γ5,h4,⟨g5,r4⟩,f4⟩
    | ct γ5=>exact λσ5 g5=>⟨ρ4,γ5,h4,⟨g5,r4⟩,f4⟩
    | bk γ5=>exact λσ5 g5=>f4 ρ4 H4 .(6) .(8) r4 σ5 g5
    | rt d=>exact λv rv=>f4 ρ4 H4 .(6) .(8) r4 v rv⟩
end
def capG (cap:List (Option Nat)) (γ:G):G:=cap.map λo=>match o with|some j=>(γ[j]?).join|none=>none
theorem zu5 {K:K0}{ρ:List Addr}{H:Hp}{γ:G}{σ:L2.St}(cap:List (Option Nat)) (r:RG K ρ H γ σ):RG K ρ H (capG cap γ) (z3H cap σ):=by
 refine ⟨by simp [capG,z3H],λi d e=>?_⟩
 unfold capG at e
 unfold z3H
 rw [K07] at e ⊢
 cases q:cap[i]? with
 | none=>rw [q] at e;cases e
 | some o =>
  rw [q] at e
  cases o with
  | none=>simp at e
  | some j =>
   have e2:(γ[j]?).join=some d:=by simpa using e
   have e3:γ[j]?=some (some d):=by
    cases q2:γ[j]? with
    | none=>rw [q2] at e2;simp at e2
    | some o2=>rw [q2] at e2;simp at e2;rw [e2]
   obtain ⟨v,h1,h2⟩:=r.var j d e3
   exact ⟨v,by simp [h1],h2⟩
noncomputable def z26 (src:Src) (g:D->G->M G) (k:G->M Bool) (me:G->M D) (n0:Nat) (γ:G):List D->M Unit
 | []=>do
  let _ ← src.chk
  pure ()
 | d::r=>do
  let _ ← src.chk
  let γ1 ← g d γ
  let t ← k γ1
  if t then do
   let v ← me γ1
   let _ ← j8 n0 v
   z26 src g k me n0 γ r
  else z26 src g k me n0 γ r
noncomputable def x9 (cap:List (Option Nat)) (mi:G->M Src) (g:D->G->M G) (k:G->M Bool) (me:G->M D):G->M D:=λγ=>do
 let src ← mi γ
 let n0 ← (λh=>.ok h.length (h++[.lst []]):M Nat)
 let _ ← z26 src g k me n0 (capG cap γ) src.items
 pure (.ref n0)
structure SCs (X:Cx) (EX:XX) (ifs:List Expr) (m:G->M Bool):Prop where
 h:PTs X ifs (tT X.K EX m)
theorem PTs.imp {X:Cx}{e:List Expr}{t t':TT}(h:PTs X e t) (f:∀σ H Q,t' σ H Q->t σ H Q):PTs X e t':=λpins s σ H Q I z=>h pins s σ H Q I (f σ H Q z)
section
variable {X:Cx}{EX:XX}{elt tg iter c:Expr}{ifs:List Expr}{sc:Scope}{pos:Pos}{N':List Str}{cap:List (Option Nat)}{own:List Nat}{mi:G->M Src}{g:D->G->M G}{k kr:G->M Bool}{me:G->M D}
theorem v3:SCs X EX [] (λ_=>pure true):=⟨PTs.imp z9C λσ H Q ⟨ρ,γ,h,rel,fin⟩=>fin ρ H .(6) .(8) rel.h⟩
theorem z0P (h:SC X EX c k):SCs X EX [c] k:=⟨PTs.imp (zf8 h.h z9C) λσ H Q ⟨ρ,γ,h,rel,fin⟩=>⟨ρ,γ,h,rel,fin.mono λt ρ1 h1 H1 p1 e1 r1 f1=>by
 cases t with
 | true=>exact f1
 | false=>exact f1⟩⟩
def HB (X:Cx) (EX:XX) (own:List Nat) (σ0:L2.St) (ρ0:List Addr) (b:G->M Unit->M Unit) (tb:TB):Prop :=
 ∀{σ:L2.St} {γ1:G} {ρ:List Addr} {h:AH} {H:Hp} {P:Unit->List Addr->AH->Hp->Prop} {K:M Unit} {Z:Hp->Prop},Pre ρ0 ρ->(∀j,j∉own->σ[j]?=σ0[j]?)->RG X.K ρ H γ1 σ->RH X.K ρ h H->Fin X.K EX ρ H P (b γ1 K h) ->
  (∀ρ' h' H',Pre ρ ρ'->Ext X.K H H'->RH X.K ρ' h' H'->Fin X.K EX ρ' H' P (K h')->Z H')->tb σ H Z
theorem zm2 {F:List D->M Unit}{b:G->M Unit->M Unit}{tb:TB}{σ0:L2.St}{H0:Hp}{ρ0:List Addr}{h0:AH}{γ:G}{src:Src}{J:It}{P:Hp->Prop}
 (hnil:F []=(do let _ ← src.chk;pure ())) (hcons:∀d r,F (d::r)=(do let _ ← src.chk;let γ1 ← g d γ;let t ← k γ1;if t then b γ1 (F r) else F r))
 (r0:RH X.K ρ0 h0 H0) (rg:RG X.K ρ0 H0 γ σ0) (hJ:JOK X.K src ρ0 H0 J) (hown:∀j∈own,∀v,σ0[j]?≠some (some v)) (hb:HB X EX own σ0 ρ0 b tb)
 (fin:Fin X.K EX ρ0 H0 (λ_ ρ' h' H'=>RH X.K ρ' h' H'->Ext X.K H0 H'->Pre ρ0 ρ'->P H') (F src.items h0)):runG (tGk X.K EX own g) (tT X.K EX k) tb σ0 J P H0:=by
 refine ⟨λi m H=>m+i=src.items.length/\∃ρ h,Pre ρ0 ρ/\Ext X.K H0 H/\RH X.K ρ h H /\
  Fin X.K EX ρ H (λ_ ρ' h' H'=>RH X.K ρ' h' H'->Ext X.K H0 H'->Pre ρ0 ρ'->P H') (F (src.items.drop i) h),
  ⟨src.items.length,rfl,_,_,Pre.refl _,Ext.refl _ _,r0,fin⟩,?_⟩
 rintro i m H1 ⟨hm,ρ1,h1,p1,e1,r1,f1⟩
 by_cases hi:i<src.items.length
 ·rw [show src.items.drop i=src.items[i]::src.items.drop (i+1) from K75 hi,hcons] at f1
  obtain ⟨good,f2⟩:=z6V f1 r1
  obtain ⟨j1,j2⟩:=hJ i ρ1 h1 H1 p1 e1 r1 good
  obtain ⟨go,yld⟩:=j1 src.items[i] (K6 hi)
  refine .inr ⟨go,λx H2 y=>?_⟩
  obtain ⟨rd,rh,ext⟩:=yld x H2 y
  refine ⟨ρ1,_,h1,_,⟨rg.mono p1 (e1.trans ext),rh⟩,rd,(Fin.bind (Fin.up .(6) ext f2)).mono λγ2 ρ3 h3 H3 p3 e3 r3 f3 σ3 g3 k3=>⟨λj v hv=>?_,ρ3,γ2,h3,⟨g3,r3⟩,(Fin.bind f3).mono λt ρ4 h4 H4 p4 e4 r4 f4=>?_⟩⟩
  ·rw [k3 j λhj=>hown j hj v hv]
   exact hv
  ·have pp:Pre ρ0 ρ4:=(p1.trans p3).trans p4
   have ee:Ext X.K H0 H4:=((e1.trans ext).trans e3).trans e4
   cases t with
   | false =>
    rw [if_neg .(1)] at f4
    dsimp only
    rw [if_neg .(1)]
    exact ⟨m - 1,by omega,by omega,ρ4,h4,pp,ee,r4,f4⟩
   | true =>
    rw [if_pos rfl] at f4
    dsimp only
    rw [if_pos rfl]
    exact hb pp k3 (g3.mono p4 e4) r4 f4 λρ5 h5 H5 p5 e5 r5 f5=>⟨m - 1,by omega,by omega,ρ5,h5,pp.trans p5,ee.trans e5,r5,f5⟩
 ·rw [show src.items.drop i=[] from K8j .(0),hnil] at f1
  obtain ⟨good,f2⟩:=z6V f1 r1
  obtain ⟨j1,j2⟩:=hJ i ρ1 h1 H1 p1 e1 r1 good
  exact .inl ⟨j2 .(0),f2 ρ1 H1 .(6) .(8) r1 r1 e1 p1⟩
theorem zn3 {σ0:L2.St}{ρ0:List Addr}{n0:Nat}{Dd:Addr}(hD:ρ0[n0]?=some Dd):HB X EX own σ0 ρ0 (λγ1 K=>do let v ← me γ1;let _ ← j8 n0 v;K) (bApp (tE X.K EX me) Dd):=λ{σ γ1 ρ h H P K Z} p0 _ rg rh fin hz=>by
 refine ⟨ρ,γ1,h,⟨rg,rh⟩,(Fin.bind fin).mono λd ρ5 h5 H5 p5 e5 r5 f5 v rv=>?_⟩
 have hq:ρ5[n0]?=some Dd:=(p0.trans p5) _ _ hD
 have f6:=Fin.bind f5
 unfold j8 updL at f6
 cases e7:h5[n0]? with
 | none=>rw [e7] at f6;exact f6.elim
 | some ob =>
  cases ob<;>first|(rw [e7] at f6;exact f6.elim)|skip
  rename_i xs
  rw [e7] at f6
  dsimp only at f6
  split at f6
  ·rename_i hl
   obtain ⟨a1,n1,vs,o1,d1⟩:=r5.at e7
   rw [hq] at n1;cases n1
   have ext2:Ext X.K H5 (upd H5 Dd (.lst (vs++[v]))):=Ext.upd (.inr ⟨_,o1,trivial⟩)
   have r6:=r5.set e7 hq (d1.append (RDs.cons rv RDs.nil))
   rw [K01,K4l] at hl
   have hl2:=d1.length
   exact ⟨vs,o1,by omega,hz ρ5 _ _ p5 (e5.trans ext2) r6 (f6 ρ5 _ .(6) ext2 r6)⟩
  ·exact f6.elim
theorem zB2 {mi1:G->M Src}{g1:D->G->M G}{k1:G->M Bool}{own1:List Nat}{F1:Src->G->List D->M Unit}{b1:G->M Unit->M Unit}{tb1:TB}{σ0:L2.St}{ρ0:List Addr}
 (hnil:∀src γ,F1 src γ []=(do let _ ← src.chk;pure ())) (hcons:∀src γ d r,F1 src γ (d::r)=(do let _ ← src.chk;let γ1 ← g1 d γ;let t ← k1 γ1;if t then b1 γ1 (F1 src γ r) else F1 src γ r))
 (hown1:∀j∈own1,j∉own/\∀v,σ0[j]?≠some (some v)) (hb1:∀{σ1:L2.St} {ρ1:List Addr},Pre ρ0 ρ1->HB X EX own1 σ1 ρ1 b1 tb1) :
 HB X EX own σ0 ρ0 (λγ1 K=>do let s1 ← mi1 γ1;let _ ← F1 s1 γ1 s1.items;K) (bIn (tI X.K EX mi1) (tGk X.K EX own1 g1) (tT X.K EX k1) tb1):=λ{σ γ1 ρ h H P K Z} p0 k0 rg rh fin hz=>by
 refine ⟨ρ,γ1,h,⟨rg,rh⟩,(Fin.bind fin).mono λs1 ρ4 h4 H4 p4 e4 r4 f4 J1 hJ1=>?_⟩
 refine zm2 (hnil s1 γ1) (hcons s1 γ1) r4 (rg.mono p4 e4) hJ1 (λj hj v hv=>?_) (hb1 (p0.trans p4)) ((Fin.bind f4).mono λ_ ρ5 h5 H5 p5 e5 r5 f5 rr ex pr=>hz ρ5 h5 H5 (p4.trans p5) (e4.trans e5) r5 f5)
 rw [k0 j (hown1 j hj).1] at hv
 exact (hown1 j hj).2 v hv
structure CmA (X:Cx) (EX:XX) (ce:Expr) (sc:Scope) (tg iter:Expr) (ifs:List Expr) (N':List Str) (cap:List (Option Nat)) (own:List Nat) (mi:G->M Src) (g:D->G->M G) (k:G->M Bool) (oo:O) (b:Nat->G->M Unit->M Unit) (F:Src->Nat->G->List D->M Unit):Prop where
 ex:∃(mk:Sem Value) (o0:HO) (bd:Addr->Env->Sem Unit) (p:Pos) (tbd:Addr->L2.TB),CmE ce sc tg iter ifs mk o0 bd p/\(∀(ρ:List Addr) (H:Hp) (Dd:Addr),RO X.K ρ (upd H Dd o0) oo Dd)/\(∀D s H fp xe,PBd .(5) (bd D (X.comp N' sc s H fp xe).env) (tbd D)) /\
  ∀{σ0:L2.St} {ρ0:List Addr} {n0:Nat} {Dd:Addr},(∀(j:Nat),cap[j]?=some none->∀v,σ0[j]?≠some (some v))->ρ0[n0]?=some Dd->HB X EX own σ0 ρ0 (b n0) (tbd Dd)
 nil:∀src n0 γ,F src n0 γ []=(do let _ ← src.chk;pure ())
 cons:∀src n0 γ d r,F src n0 γ (d::r)=(do let _ ← src.chk;let γ1 ← g d γ;let t ← k γ1;if t then b n0 γ1 (F src n0 γ r) else F src n0 γ r)
noncomputable def eCm (cap:List (Option Nat)) (mi:G->M Src) (oo:O) (F:Src->Nat->G->List D->M Unit):G->M D:=λγ=>do
 let src ← mi γ
 let n0 ← (λh=>.ok h.length (h++[oo]):M Nat)
 let _ ← F src n0 (capG cap γ) src.items
 pure (.ref n0)
theorem zl8 {ce:Expr}{oo:O}{b:Nat->G->M Unit->M Unit}{F:Src->Nat->G->List D->M Unit}{o0:HO}{tbd:Addr->TB}{σ:L2.St}{γ:G}{src:Src}{ρ0:List Addr}{h0:AH}{H0:Hp}{J:It}{Dd:Addr}{Q:Hp->Prop}
 (A:CmA X EX ce sc tg iter ifs N' cap own mi g k oo b F) (ho:∀(ρ:List Addr) (H:Hp) (Dd:Addr),RO X.K ρ (upd H Dd o0) oo Dd) (hb:∀{σ0:L2.St} {ρ0:List Addr} {n0:Nat} {Dd:Addr},(∀(j:Nat),cap[j]?=some none->∀v,σ0[j]?≠some (some v))->ρ0[n0]?=some Dd->HB X EX own σ0 ρ0 (b n0) (tbd Dd))
 (hown:∀j∈own,cap[j]?=some none) (r0:RH X.K ρ0 h0 H0) (rg:RG X.K ρ0 H0 γ σ) (hJ:JOK X.K src ρ0 H0 J) (hD:H0 Dd=none) {R:D->List Addr->AH->Hp->Prop}
 (fin:Fin X.K EX ρ0 H0 R ((do let n0 ← (λh=>.ok h.length (h++[oo]):M Nat);let _ ← F src n0 (capG cap γ) src.items;pure (.ref n0):M D) h0))
 (z:∀ρ' h' H',Pre ρ0 ρ'->Ext X.K H0 H'->RH X.K ρ' h' H'->R (.ref h0.length) ρ' h' H'->RD X.K ρ' H' (.ref h0.length) (.ref Dd)->Q H') :
 runG (tGk X.K EX own g) (tT X.K EX k) (tbd Dd) (z3H cap σ) J Q (upd H0 Dd o0):=by
 have rP:RH X.K (ρ0++[Dd]) (h0++[oo]) (upd H0 Dd o0):=r0.pushO hD (ho _ _ _)
 have eP:Ext X.K H0 (upd H0 Dd o0):=Ext.upd (.inl hD)
 have f2:=(Fin.bind fin) (ρ0++[Dd]) _ (Pre.app _ _) eP rP
 have at0:(ρ0++[Dd])[h0.length]?=some Dd:=by rw [← r0.len];simp
 have non:∀(j:Nat),cap[j]?=some none->∀v,(z3H cap σ)[j]?≠some (some v):=λj e v hv=>by
  unfold z3H at hv
  rw [K07,e] at hv
  simp at hv
 refine zm2 (A.nil src h0.length (capG cap γ)) (A.cons src h0.length (capG cap γ)) rP ((zu5 cap rg).mono (Pre.app _ _) eP) (λi ρ1 h1 H1 p e r good=>hJ i ρ1 h1 H1 ((Pre.app _ _).trans p) (eP.trans e) r good) (λj hj=>non j (hown j hj)) (hb non at0) ((Fin.bind f2).mono λ_ ρ5 h5 H5 p5 e5 r5 f5 rr ee pp=>?_)
 refine z ρ5 h5 H5 ((Pre.app _ _).trans pp) (eP.trans ee) rr (f5 ρ5 H5 .(6) .(8) rr) ?_
 simp only [RD]
 exact ⟨Dd,rfl,pp _ _ at0⟩
theorem zH3 {ce:Expr}{oo:O}{b:Nat->G->M Unit->M Unit}{F:Src->Nat->G->List D->M Unit}(A:CmA X EX ce sc tg iter ifs N' cap own mi g k oo b F) (hc:X.calm=true) (S:CS X sc N' cap) (hi:SI X EX tg iter mi) (hg:∀s H fp xe,SGk .(5) EX tg own g) (ht:∀s H fp xe,SCs .(5) EX ifs k)
 (hown:∀j∈own,cap[j]?=some none) (hs:∀x,K12 iter X.env x=pure x):SE X EX ce (eCm cap mi oo F):=by
 obtain ⟨mk,o0,bd,p,tbd,C,ho,hbd,hb⟩:=A.ex
 exact ⟨PE.imp (zR3 (g:=tGk X.K EX own g) (ti:=tT X.K EX k) C hc S hi.h (λs H fp xe=>(hg s H fp xe).h) (λs H fp xe=>(ht s H fp xe).h) hbd hs) λσ H Q ⟨ρ,γ,h,rel,fin⟩=>⟨ρ,γ,h,rel,(Fin.bind fin).mono λsrc ρ0 h0 H0 p0 e0 r0 f0 J hJ Dd hD =>
  zl8 A ho hb hown r0 (rel.g.mono p0 e0) hJ hD f0 λρ' h' H' p' e' r' q rd=>q _ rd⟩⟩
theorem s_cm {ce:Expr}{oo:O}{b:Nat->G->M Unit->M Unit}{F:Src->Nat->G->List D->M Unit}(i:Nat) {y:Str}{py spos:Pos}(A:CmA X EX ce sc tg iter ifs N' cap own mi g k oo b F) (hc:X.calm=true) (S:CS X sc N' cap) (hi:SI X EX tg iter mi) (hg:∀s H fp xe,SGk .(5) EX tg own g) (ht:∀s H fp xe,SCs .(5) EX ifs k)
 (hown:∀j∈own,cap[j]?=some none) (hN:X.N.Nodup) (hy:X.N[i]?=some y) (hl:X.env.scope.names.lookup y=some .local) (hsw:K1x ce (some (.Name y py)) spos.line X.env=pure true) (hs:∀x,K12 iter X.env x=pure x) :
 S1 X EX (.Assign [.Name y py] ce spos) (sAsg (eCm cap mi oo F) (gN i)):=by
 obtain ⟨mk,o0,bd,p,tbd,C,ho,hbd,hb⟩:=A.ex
 exact ⟨PS.imp (zS6 (g:=tGk X.K EX own g) (ti:=tT X.K EX k) C hc S hi.h (λs H fp xe=>(hg s H fp xe).h) (λs H fp xe=>(ht s H fp xe).h) hbd hN hy hl hsw hs) λσ H D ⟨ρ,γ,h,rel,fin⟩=>⟨ρ,γ,h,rel,(Fin.bind (Fin.bind fin)).mono λsrc ρ0 h0 H0 p0 e0 r0 f0 J hJ Dd hD =>
  zl8 A ho hb hown r0 (rel.g.mono p0 e0) hJ hD f0 λρ' h' H' p' e' r' q rd=>(q ρ' H' .(6) .(8) r') _ (((rel.g.mono p0 e0).mono p' e').set i rd)⟩⟩
theorem z77 (he:∀s H fp xe,SE .(5) EX elt me):CmA X EX (.ListComp elt [⟨tg,iter,ifs,0⟩] sc pos) sc tg iter ifs N' cap own mi g k (.lst []) (λn0 γ1 K=>do let v ← me γ1;let _ ← j8 n0 v;K) (λsrc n0 γ=>z26 src g k me n0 γ) :=
 ⟨⟨_,_,_,_,bApp (tE X.K EX me),zv7,λρ H Dd=>⟨[],y8,RDs.nil⟩,λD s H fp xe=>z8K (he s H fp xe).h,λ_ hD=>zn3 hD⟩,λ_ _ _=>rfl,λ_ _ _ _ _=>rfl⟩
theorem J9 (hc:X.calm=true) (S:CS X sc N' cap) (hi:SI X EX tg iter mi) (hg:∀s H fp xe,SGk .(5) EX tg own g) (ht:∀s H fp xe,SCs .(5) EX ifs k)
 (he:∀s H fp xe,SE .(5) EX elt me) (hown:∀j∈own,cap[j]?=some none:=by decide) (hs:∀x,K12 iter X.env x=pure x:=by intro _;rfl):SE X EX (.ListComp elt [⟨tg,iter,ifs,0⟩] sc pos) (x9 cap mi g k me) :=
 zH3 (z77 he) hc S hi hg ht hown hs
noncomputable def z7y (i:Nat) (cap:List (Option Nat)) (mi:G->M Src) (g:D->G->M G) (k:G->M Bool) (me:G->M D):G->M Out:=sAsg (x9 cap mi g k me) (gN i)
theorem zl9 (i:Nat) {y:Str}{py spos:Pos}(hc:X.calm=true) (S:CS X sc N' cap) (hi:SI X EX tg iter mi) (hg:∀s H fp xe,SGk .(5) EX tg own g) (ht:∀s H fp xe,SCs .(5) EX ifs k)
 (he:∀s H fp xe,SE .(5) EX elt me) (hN:X.N.Nodup) (hy:X.N[i]?=some y:=by rfl) (hl:X.env.scope.names.lookup y=some .local:=by rfl) (hown:∀j∈own,cap[j]?=some none:=by decide)
 (hsw:K1x (.ListComp elt [⟨tg,iter,ifs,0⟩] sc pos) (some (.Name y py)) spos.line X.env=pure true:=by rfl) (hs:∀x,K12 iter X.env x=pure x:=by intro _;rfl) :
 S1 X EX (.Assign [.Name y py] (.ListComp elt [⟨tg,iter,ifs,0⟩] sc pos) spos) (z7y i cap mi g k me) :=
 s_cm i (z77 he) hc S hi hg ht hown hN hy hl hsw hs
end
def csOk (osc:Scope) (N:List Str) (sc:Scope) (N':List Str) (cap:List (Option Nat)):Bool :=
 (sc.kind==.function)&&sc.names.all (λy=>y.2 != .cell)&&sc.names.all (λx=>x.2 != .local||sc.names.lookup x.1==some .local) &&
 sc.names.all (λx=>x.2 != .free||(osc.names.lookup x.1==some .cell||osc.names.lookup x.1==some .free))&&(cap.length==N'.length) &&
 (K00 cap.length).all λi=>match cap[i]? with
  | some (some j)=>(match N'[i]?,N[j]? with
   | some x,some y=>x==y&&sc.names.lookup x==some .free
   | _,_=>false)
  | _=>true
theorem z0z {X:Cx}{sc:Scope}{N':List Str}{cap:List (Option Nat)}(h:csOk X.env.scope X.N sc N' cap=true):CS X sc N' cap:=by
 unfold csOk at h
 simp only [K0h] at h
 obtain ⟨⟨⟨⟨⟨h1,h2⟩,h3⟩,h4⟩,h5⟩,h6⟩:=h
 refine ⟨by simpa using h1,λy hy=>?_,λx hx hl=>?_,λx hx hf=>?_,by simpa using h5,λi j e=>?_⟩
 ·have:=K1s.mp h2 y hy
  simpa using this
 ·have:=K1s.mp h3 x hx
  simpa [hl] using this
 ·have:=K1s.mp h4 x hx
  have:(X.env.scope.names.lookup x.1==some .cell||X.env.scope.names.lookup x.1==some .free)=true:=by simpa [hf] using this
  rw [K2f] at this
  rcases this with z|z
  ·exact .inl (show X.env.scope.names.lookup x.1=_ by simpa using z)
  ·exact .inr (show X.env.scope.names.lookup x.1=_ by simpa using z)
 ·have hi:i<cap.length:=(K2.mp e).1
  have:=K1s.mp h6 i (K0y.mpr hi)
  rw [e] at this
  dsimp only at this
  cases e1:N'[i]? with
  | none=>rw [e1] at this;cases this
  | some x =>
   cases e2:X.N[j]? with
   | none=>rw [e1,e2] at this;cases this
   | some y =>
    rw [e1,e2] at this
    simp only [K0h] at this
    have exy:x=y:=by simpa using this.1
    subst exy
    exact ⟨x,rfl,rfl,by simpa using this.2⟩
def DefAt (K:K0) (x:Str) (st:Stmt):Prop:=∃f fd,K1u K K1l x=some (.(r f))/\Fun K x x st f fd
theorem defAt_mk {K:K0}{x:Str}{st:Stmt}{f:Addr}{oc:Value}{od an:Option Addr}{sl:Array (Option Value)}{kV dc pm cd ct:Value}(a:K1u K K1l x=some (.(r f)))
 (l:K.lookup f=some ⟨oc,od,.func (K3n x x (z27 st) (z0b st) (j6 st) .none kV dc pm an cd ct),sl⟩) (c:K2y K cd x=true) (k:K3d K (.ref f)=true):DefAt K x st :=
 ⟨f,_,a,zE7 l c k⟩
section
variable {prog:K0m}{w:World}{A:Around}{E:Value->Shared->Prop}{s:Shared}
end
theorem zS9 {X:Cx}{pins:List .(f)}{σ:L2.St}{H:Hp}{s:Shared}{ch:List Addr}{T:Addr}{vs:List V}{its:List Value}{h2:Heap}{t:Nat}(I:L2.Inv X pins σ H s)
 (hf:∀b∈ch,FpOk X pins H b) (kp:∀b o,b∉ch->s.heap.get? b=some o->h2.get? b=some o) (hT:.(3)≤T) (tup:IsTup0 h2 T its.toArray) (rv:Vals vs its) (hz:vs.length≤sizeLine) :
 L2.Inv X pins σ (upd H T (.tup vs)) { s with heap:=h2,toks:=t }:=by
 have hn:H T=none:=I.hok.fresh hT
 have ne:∀{b:Addr} {o:Obj},s.heap.get? b=some o->b≠T:=λe=>K0n (K0j (K08 e) hT)
 refine I.step (g':=s.gens) (d':=s.drawn) (ch:=ch) (λb hb=>⟨(hf b hb).2.2.2.1,(hf b hb).2.1,(hf b hb).2.2.2.2.1,(hf b hb).2.2.2.2.2⟩) (λb o _ _ hc e _=>kp b o hc e) (λb o _ _ hc e _=>⟨o.slots,kp b o hc e⟩)
  (λb o _ e n=>by rw [J0 (ne e)];exact n) (λb o hc e=>⟨o,kp b o hc e⟩) (λb xs e=>by rw [J0 (J6 e hn)];exact e) (λb o u e=>by rw [J0 (J6 e hn)];exact e)
  (λb ps e=>⟨#[],by rw [J0 (J6 e hn),e];simp⟩) (λm hm=>?_) (λb u e=>?_) I.bare
 ·obtain ⟨o,es,ep,q,r⟩:=hm
  exact ⟨o,es,ep,kp _ o (λz=>(hf _ z).2.1 rfl) q,r⟩
 ·by_cases hb:b=T
  ·subst hb
   rw [y8] at e
   cases e
   exact ⟨hz,its,rv,tup⟩
  ·rw [J0 hb] at e
   refine (I.hok b u e).stay (λc v hc q=>kp c v (λz=>?_) q) (λc q=>?_) λc xs q=>?_
   ·rcases hc with y|y
    ·rw [y] at z;rw [(hf b z).1] at e;cases e
    ·rw [(hf c z).1] at y;cases y
   ·rw [J0 (J6 q hn)];exact q
   ·rw [J0 (J6 q hn)];exact q
section
variable {X:Cx}{EX:XX}{a b:Expr}{elts:List Expr}{kk:Nat}{p pos pt:Pos}{ma mb:G->M D}
end
def Its (x:Str):It:=⟨λi _=>i<x.cps.size,λi H v H'=>H'=H/\∃c,x.cps[i]?=some c/\v=.str ⟨#[c]⟩,λi _=>x.cps.size=i⟩
theorem z70 {P:K0m}{w:World}{K:K0}{tg:Expr}{it:Addr}{x:Str}{t:Tok}{T:String}
 (W:∀A:Around,A.handled=none->Walks P w A it [it] [it] x.cps.size (SignAt x) (λi h=>h.IsStrIter it T x t i))
 (hself:∀(A:Around) (i:Nat) (s:Shared) (Q:Value->Shared->Prop) (E:Value->Shared->Prop),s.heap.IsStrIter it T x t i->Q (.ref it) s->wpAny (model P w) A (pyIter (.ref it)) Q E s):Turn P w K tg (Its x) [it] it (λi h=>h.IsStrIter it T x t i) where
 mem:=by simp
 obj:=λi h st b hb=>by
  have e:b=it:=by simpa using hb
  subst e
  obtain ⟨o,e1,c1,d1⟩:=st
  exact ⟨o,e1,λv z=>by rw [d1] at z;cases z⟩
 keep:=λi h h' st k=>let ⟨o,e1,r⟩:=st;⟨o,k it .(e) o e1,r⟩
 item:=by
  intro X hP hw hK hc i pins s σ H E I hf st hg
  subst hP hw hK
  obtain ⟨f0,f1,f2,f3,f4,f5⟩:=hf it .(e)
  refine (W X.A (I.ok.hd hc)).item i s _ _ hg st λv h' tk hv st' kp=>?_
  obtain ⟨c,u,q1,rfl⟩:=hv
  have I1:L2.Inv X pins σ H { s with heap:=h',toks:=tk }:=I.turned (λb o hb e=>kp b o (by simpa using hb) e) f0 f1 f3 f4 f5
  refine ⟨_,rfl,?_⟩
  have go:K4e tg (.ref it) (K9b ⟨#[c]⟩ u)=pure ():=by cases tg<;>rfl
  rw [go]
  exact K8 ⟨.str ⟨#[c]⟩,H,I1,⟨_,rfl⟩,⟨rfl,c,q1,rfl⟩,st',λb hb=>(hf b hb).1⟩
 done:=by
  intro X hP hw hK hc i pins s σ H E I hf st hg
  subst hP hw hK
  obtain ⟨f0,f1,f2,f3,f4,f5⟩:=hf it .(e)
  have hg':x.cps.size=i:=hg
  subst hg'
  exact (W X.A (I.ok.hd hc)).done s _ _ st λh' tk kp=>⟨rfl,I.turned (λb o hb e=>kp b o (by simpa using hb) e) f0 f1 f3 f4 f5⟩
 self:=hself
section
variable {X:Cx}{EX:XX}{a b:Expr}{tg:Expr}{p pos p2:Pos}{ma mb:G->M D}
def zR2 (ta:TE):TI:=λσ H R=>ta σ H λv H1=>∃x,v=.str x/\R (Its x) H1
theorem zN5 {ta:TE}(ha:PE X a ta):PI X tg a (zR2 ta):=by
 intro pins s σ H R I h
 refine thn .(Q) λv s1 ⟨y,H1,I1,r1,q1⟩=>?_
 obtain ⟨x,rfl,q⟩:=q1
 obtain ⟨t,rfl⟩:=r1
 have fo:∀b∈[.(j)],FpOk X pins H1 b:=λb hb=>by
  have e:b=s1.heap.objs.size:=by simpa using hb
  subst e
  exact I1.fpOk (K05 _) (I1.hok.fresh (K05 _))
 cases ha':x.cps.all (·<128)
 ·refine wpAny_pyIter_wide ha' ?_
  exact ⟨.(j),[.(j)],_,_,H1,rfl,I1.kept (t':=s1.toks) λb o e=>K7 _ e,z70 (λA hA=>Walks.strWide hA _ x t) (λA i s Q E st h=>wpAny_pyIter_striter_wide st h),⟨_,K0a _ rfl,rfl,rfl⟩,fo,q⟩
 ·refine wpAny_pyIter_ascii ha' ?_
  exact ⟨.(j),[.(j)],_,_,H1,rfl,I1.kept (t':=s1.toks) λb o e=>K7 _ e,z70 (λA hA=>Walks.strAscii hA _ x t) (λA i s Q E st h=>wpAny_pyIter_striter_ascii st h),⟨_,K0a _ rfl,rfl,rfl⟩,fo,q⟩
def z1X (x:Str):List D:=x.cps.toList.map λc=>.str ⟨#[c]⟩
def iStr (ma:G->M D):G->M Src:=λγ=>do
 let x ← ma γ
 match x with
 | .str z=>pure (.con (z1X z))
 | _=>bad
theorem zD8 (hc:X.calm=true) (ha:SE X EX a ma):SI X EX tg a (iStr ma) :=
 ⟨PI.imp (zN5 ha.h) λσ H R ⟨ρ,γ,h,rel,fin⟩=>⟨ρ,γ,h,rel,(Fin.bind fin).mono λx ρ1 h1 H1 p1 e1 r1 f1 v rv=>by
  cases x<;>first|exact (show False from f1).elim|skip
  rename_i z
  simp only [RD] at rv
  subst rv
  refine ⟨z,rfl,f1 ρ1 H1 .(6) .(8) r1 _ λi ρ2 h4 H2 p2 e2 r2 _=>⟨λd hd=>?_,λhi=>?_⟩⟩
  ·have hd':(z1X z)[i]?=some d:=hd
   unfold z1X at hd'
   rw [K07] at hd'
   cases e:z.cps.toList[i]? with
   | none=>rw [e] at hd';cases hd'
   | some c =>
    rw [e] at hd'
    cases hd'
    have e':z.cps[i]?=some c:=by simpa using e
    refine ⟨?_,λy H3 ⟨z1,c',z2,z3⟩=>?_⟩
    ·have:=(K2.mp e).1
     exact (show i<z.cps.size by simpa using this)
    ·subst z1
     rw [e'] at z2;cases z2
     subst z3
     exact ⟨by simp [RD],r2,Ext.refl _ _⟩
  ·have hi':(z1X z).length=i:=hi
   unfold z1X at hi'
   rw [K02] at hi'
   exact (show z.cps.size=i by simpa using hi')⟩⟩
theorem z9x {A:Around}{E:Value->Shared->Prop}{s:Shared}{t sl:Addr}{items:Array Value}{vl vu:Value}{lo hi:Option Int}{Q:Value->Shared->Prop}(ht:IsTup s.heap t items) (hs:s.heap.IsSliceOf sl vl vu .none) (pl:IsPart vl lo) (pu:IsPart vu hi)
 (hw:HT.sIx .(v) 0 lo=0/\HT.sIx .(v) .(v) hi=.(v)) (h:Q (.ref t) s):wpAny .(4) A (K6k (.ref t) (.ref sl)) Q E s:=by
 obtain ⟨os,hos,hcs,hds⟩:=id hs
 have hTs:s.TypeIs (.ref sl) "slice":=⟨os,hos,hcs⟩
 unfold K6k
 try with_reducible refine K1w ?_
 first|refine K1 (K8 ?_)|skip
 refine K1 (wpAny_sequenceKey ht.typeIs .(1) ?_)
 refine K1 (K43 (name:=K4v "__getitem__") ht.typeIs K1m
  (K2i K1m ht.typeIs K9g ?_ (args_tuple_getitem _ _)))
 show wpAny _ _ (K6r (.ref t) >>= _) _ _ s
 refine K1 (tupleItemsOf_ ht ?_)
 refine K1 (K5q hTs ?_)
 rw [if_pos .(1)]
 refine K1 (HT.sliceApplied_gen hs pl pu ?_)
 have yes:((((HT.sIx .(v) 0 lo:Nat):Int)==0&&(1:Int)==1&&(HT.sIx .(v) .(v) hi - HT.sIx .(v) 0 lo)==.(v))=true):=by
  rw [hw.1,hw.2];simp
 show wpAny _ _ (if (((HT.sIx .(v) 0 lo:Nat):Int)==0&&(1:Int)==1&&(HT.sIx .(v) .(v) hi - HT.sIx .(v) 0 lo)==.(v))=true then _ else _) _ _ s
 rw [if_pos yes]
 refine K1 (m:=K6s (.ref t)) ?_
 unfold K6s
 refine K1 (K5q ht.typeIs (K8 ?_))
 rw [if_pos .(1)]
 exact K1 (K6u (K8 ⟨_,rfl,K8 h⟩))
def rSlW (K:K0):V->Option Int->Option Int->Hp->VK->Prop:=λx lo hi H Q=>∃a xs,x=.ref a/\SqT K H a xs/\(HT.sIx xs.length 0 lo=0/\HT.sIx xs.length xs.length hi=xs.length)/\Q (.ref a) H
theorem zi4:SlR X (rSlW X.K):=by
 intro pins s σ H x v vl vu lo hi sl Q I rx hs pl pu h
 obtain ⟨a,xs,rfl,hx,hw,q⟩:=h
 cases rx
 obtain ⟨its,r,ht,hz⟩:=I.tuple hx
 have hlen:its.toArray.size=xs.length:=by rw [K06];exact r.length.symm
 exact ⟨"tuple",_,K1m.lookup,ht.typeIs,z9x ht hs pl pu (by rw [hlen];exact hw) ⟨.ref a,H,I,rfl,q⟩⟩
def cutD (xs:List D) (lo hi:Option Int):List D:=(xs.drop (HT.sIx xs.length 0 lo)).take (HT.sIx xs.length xs.length hi - HT.sIx xs.length 0 lo)
theorem z6k {K:K0}{ρ:List Addr}{H:Hp}{ds:List D}{xs:List V}(h:RDs K ρ H ds xs) (lo hi:Option Int):RDs K ρ H (cutD ds lo hi) (cutV xs lo hi):=by
 unfold cutD cutV
 rw [h.length]
 exact (h.drop _).take _
def fSl:D->Option Int->Option Int->M D
 | .tup xs,lo,hi=>pure (.tup (cutD xs lo hi))
 | .fl xs,lo,hi=>newL (cutD xs lo hi)
 | .ref n,lo,hi=>do
  let xs ← getL n
  newL (cutD xs lo hi)
 | _,_,_=>bad
def tO (K:K0) (EX:XX) (m:G->M (Option Int)):TO:=λσ H Q=>∃ρ γ h,Rel K ρ γ h σ H/\Fin K EX ρ H (λo _ _ H'=>Q o H') (m γ h)
structure SO (X:Cx) (EX:XX) (e:Option Expr) (m:G->M (Option Int)):Prop where
 h:PO X e (tO X.K EX m)
theorem PO.imp {X:Cx}{e:Option Expr}{t t':TO}(h:PO X e t) (f:∀σ H Q,t' σ H Q->t σ H Q):PO X e t':=λpins s σ H Q I z=>h pins s σ H Q I (f σ H Q z)
def z3Y:G->M (Option Int):=λ_=>pure none
def z3r (ma:G->M D):G->M (Option Int):=λγ=>do
 let x ← ma γ
 match x with
 | .int i=>pure (some i)
 | _=>bad
theorem z6i:SO X EX none z3Y:=⟨PO.imp zy3 λσ H Q ⟨ρ,γ,h,rel,fin⟩=>fin ρ H .(6) .(8) rel.h⟩
theorem z6b (ha:SE X EX a ma):SO X EX (some a) (z3r ma):=⟨PO.imp (zr5 ha.h) λσ H Q ⟨ρ,γ,h,rel,fin⟩=>⟨ρ,γ,h,rel,(Fin.bind fin).mono λx ρ1 h1 H1 p1 e1 r1 f1 v rv=>by
 cases x<;>first|exact (show False from f1).elim|skip
 rename_i i
 simp only [RD] at rv
 exact ⟨i,rv,f1 ρ1 H1 .(6) .(8) r1⟩⟩⟩
def z1V (ma:G->M D) (ml mh:G->M (Option Int)):G->M D:=λγ=>do
 let x ← ma γ
 let lo ← ml γ
 let hi ← mh γ
 fSl x lo hi
theorem zC2 {ρ:List Addr}{h:AH}{H:Hp}{x:D}{v:V}{lo hi:Option Int}{Q:VK}(r:RH X.K ρ h H) (rx:RD X.K ρ H x v) (fin:FE X.K EX ρ H Q (fSl x lo hi h)):rSlL X.K v lo hi H Q∨rSlT X.K v lo hi H Q∨rSlW X.K v lo hi H Q:=by
 cases x<;>first|exact (show False from fin).elim|skip
 case tup xs =>
  have rx':=rx
  simp only [RD] at rx
  obtain ⟨q,vs,rfl,h1,h2⟩:=rx
  have fin':FE X.K EX ρ H Q (.ok (.tup (cutD xs lo hi)) h):=fin
  by_cases hw:HT.sIx vs.length 0 lo=0/\HT.sIx vs.length vs.length hi=vs.length
  ·refine .inr (.inr ⟨q,vs,rfl,h1,hw,FE.here fin' r ?_⟩)
   have e:cutD xs lo hi=xs:=by
    unfold cutD
    rw [h2.length,hw.1,hw.2,List.drop_zero,Nat.sub_zero,← h2.length,K29]
   rw [e];exact rx'
  ·exact .inr (.inl ⟨q,vs,rfl,h1,hw,λp hp=>FE.tup fin' r (z6k h2 lo hi) hp⟩)
 case fl xs =>
  simp only [RD] at rx
  obtain ⟨q,vs,rfl,h1,h2⟩:=rx
  have fin':FE X.K EX ρ H Q (newL (cutD xs lo hi) h):=fin
  unfold newL at fin'
  split at fin'
  ·exact .inl ⟨q,vs,rfl,h1.sq,λp hp=>FE.lst fin' r (z6k h2 lo hi) hp⟩
  ·exact fin'.elim
 case ref n =>
  simp only [RD] at rx
  obtain ⟨q,rfl,h1⟩:=rx
  have fin':FE X.K EX ρ H Q ((getL n >>= λxs=>newL (cutD xs lo hi)) h):=fin
  have f1:=Fin.bind fin'
  cases e:getL n h with
  | bad=>rw [e] at f1;exact f1.elim
  | err z hz=>exact (z0r e).elim
  | ok xs h2 =>
   obtain ⟨rfl,q1⟩:=z0p e
   rw [e] at f1
   have f2:=f1 ρ H .(6) .(8) r
   dsimp only at f2
   unfold newL at f2
   split at f2
   ·obtain ⟨a1,n1,vs,o1,d1⟩:=r.at q1
    rw [h1] at n1;cases n1
    exact .inl ⟨q,vs,rfl,SqL.of o1,λp hp=>FE.lst f2 r (z6k d1 lo hi) hp⟩
   ·exact f2.elim
theorem z50 {lo hi:Option Expr}{ml mh:G->M (Option Int)}(ha:SE X EX a ma) (hl:SO X EX lo ml) (hh:SO X EX hi mh):SE X EX (.Subscript a (.Slice lo hi none p2) pos) (z1V ma ml mh) :=
 ⟨PE.imp (zh3 (sl_list.or (sl_tup.or zi4)) ha.h hl.h hh.h) λσ H Q ⟨ρ,γ,h,rel,fin⟩=>⟨ρ,γ,h,rel,(Fin.bind fin).mono λx ρ1 h1 H1 p1 e1 r1 f1 v rv=>⟨ρ1,γ,h1,⟨rel.g.mono p1 e1,r1⟩,(Fin.bind f1).mono λl ρ2 h2 H2 p2 e2 r2 f2 =>
  ⟨ρ2,γ,h2,⟨(rel.g.mono p1 e1).mono p2 e2,r2⟩,(Fin.bind f2).mono λu ρ3 h3 H3 p3 e3 r3 f3=>zC2 r3 ((rv.mono p2 e2).mono p3 e3) f3⟩⟩⟩⟩
end
def leS (a b:Str):Bool:=!decide (b.cps.toList<a.cps.toList)
theorem z5e {a b c:Str}(h1:leS a b=true) (h2:leS b c=true):leS a c=true:=by
 simp only [leS,K4o,decide_eq_false_iff_not] at *
 exact K4s.mpr (List.le_trans (K4s.mp h1) (K4s.mp h2))
theorem z9o (a b:Str):(leS a b||leS b a)=true:=by
 simp only [leS,K2f,K4o,decide_eq_false_iff_not]
 rcases List.le_total a.cps.toList b.cps.toList with h|h
 ·exact .inl (K4s.mpr h)
 ·exact .inr (K4s.mpr h)
theorem z8C {a b:Str}(h:a.cps.toList=b.cps.toList):a=b:=by
 cases a;cases b
 congr 1
 exact Array.toList_inj.mp h
theorem zd4 {a b:Str}(h1:leS a b=true) (h2:leS b a=true):a=b:=by
 simp only [leS,K4o,decide_eq_false_iff_not] at *
 exact z8C (Z0q (K4s.mp h1) (K4s.mp h2))
def z1b (l:List Str):List Str:=l.mergeSort leS
theorem z7R (l:List Str):(z1b l).Perm l:=K3x l leS
theorem zf2 (l:List Str):(z1b l).Pairwise (λa b=>leS a b=true):=K5k (le:=leS) (λa b c h1 h2=>z5e h1 h2) z9o l
theorem z5C:∀(p:Str) (l:List Str),risingS p l=true->(p::l).Pairwise (λa b=>leS a b=true)
 | p,[],_=>by simp
 | p,x::r,h=>by
  have h':(!ltCps x.cps.toList p.cps.toList&&risingS x r)=true:=h
  rw [K0h,ltCps_eq] at h'
  have ih:=z5C x r h'.2
  have px:leS p x=true:=h'.1
  refine List.pairwise_cons.mpr ⟨λy hy=>?_,ih⟩
  rcases K0x.mp hy with rfl|hy
  ·exact px
  ·exact z5e px ((List.pairwise_cons.mp ih).1 y hy)
theorem zk2 {l l':List Str}(p:l'.Perm l) (h:sortedS l'=true):l'=z1b l:=by
 have pw:l'.Pairwise (λa b=>leS a b=true):=by
  cases l' with
  | nil=>exact .nil
  | cons x r=>exact z5C x r h
 exact K7o (λa b _ _=>zd4) pw (zf2 l) (p.trans (z7R l).symm)
def leI (a b:Int):Bool:=decide (a≤b)
def sortI (l:List Int):List Int:=l.mergeSort leI
theorem sortI_perm (l:List Int):(sortI l).Perm l:=K3x l leI
theorem z6G (l:List Int):(sortI l).Pairwise (λa b=>a≤b):=by
 have:=K5k (le:=leI) (λa b c h1 h2=>by simp only [leI,decide_eq_true_eq] at *;omega) (λa b=>by simp only [leI,K2f,decide_eq_true_eq];omega) l
 exact this.imp λh=>by simpa [leI] using h
theorem z4x {l l':List Int}(p:l'.Perm l) (h:l'.Pairwise (·≤·)):l'=sortI l :=
 K7o (λa b _ _ h1 h2=>Int.le_antisymm h1 h2) h (z6G l) (p.trans (sortI_perm l).symm)
def z2U:List D->Option (List Str)
 | []=>some []
 | .str b::r=>(z2U r).map (b::·)
 | _::_=>none
def z1P:List D->Option (List Int)
 | []=>some []
 | .int b::r=>(z1P r).map (b::·)
 | _::_=>none
def z13:List D->M D
 | [.ref n]=>do
  let xs ← getL n
  if xs.length<64 then (match z2U xs with
   | some ss=>newL ((z1b ss).map .str)
   | none=>(match z1P xs with
    | some ns=>newL ((sortI ns).map .int)
    | none=>bad)) else bad
 | _=>bad
theorem z7m {K:K0}{ρ:List Addr}{H:Hp}:∀{xs:List D}{bs:List Str}{vs:List V},z2U xs=some bs->RDs K ρ H xs vs->vs=bs.map V.str
 | [],bs,vs,e,r=>by simp only [RDs] at r;cases e;subst r;rfl
 | x::xs,bs,vs,e,r=>by
  simp only [RDs] at r
  obtain ⟨v,r2,rfl,h1,h2⟩:=r
  cases x<;>first|(simp only [z2U] at e;cases e;done)|skip
  rename_i b
  simp only [z2U] at e
  obtain ⟨bs',e1,rfl⟩:=K16.mp e
  simp only [RD] at h1
  subst h1
  rw [z7m e1 h2];rfl
theorem z33 {K:K0}{ρ:List Addr}{H:Hp}:∀{xs:List D}{bs:List Int}{vs:List V},z1P xs=some bs->RDs K ρ H xs vs->vs=bs.map V.int
 | [],bs,vs,e,r=>by simp only [RDs] at r;cases e;subst r;rfl
 | x::xs,bs,vs,e,r=>by
  simp only [RDs] at r
  obtain ⟨v,r2,rfl,h1,h2⟩:=r
  cases x<;>first|(simp only [z1P] at e;cases e;done)|skip
  rename_i b
  simp only [z1P] at e
  obtain ⟨bs',e1,rfl⟩:=K16.mp e
  simp only [RD] at h1
  subst h1
  rw [z33 e1 h2];rfl
theorem z7k:∀{bs:List Str}{us:List Value},Vals (bs.map V.str) us->StrsAre us bs
 | [],us,h=>by cases h;exact .nil
 | b::bs,us,h=>by
  cases h with
  | cons h1 h2=>obtain ⟨t,rfl⟩:=h1;exact .cons b t (z7k h2)
theorem z6P:∀{us:List Value}{bs:List Str},StrsAre us bs->Vals (bs.map V.str) us
 | _,_,.nil=>.nil
 | _,_,.cons y t r=>.cons ⟨t,rfl⟩ (z6P r)
theorem z4O:∀{us:List Value}{bs:List Int},K5r us bs->Vals (bs.map V.int) us:=λh=>z3w h
section
variable {X:Cx}{EX:XX}{a:Expr}{p pos:Pos}{mr:G->M (List D)}
theorem z6y:z2q X (.builtin "sorted") (λxs H Q=>∃l ys,xs=[.ref l]/\SqL X.K H l ys/\ys.length<64 /\
 ((∃ss,ys=ss.map V.str/\∀q,H q=none->Q (.ref q) (upd H q (.lst ((z1b ss).map V.str))))∨(∃ns,ys=ns.map V.int/\∀q,H q=none->Q (.ref q) (upd H q (.lst ((sortI ns).map V.int)))))):=by
 intro pins s σ H xs us Q I r h
 obtain ⟨l,ys,rfl,hq,h64,h⟩:=h
 obtain ⟨u,rfl,ru⟩:=vals1 r
 cases ru
 obtain ⟨its,rv,pl,hz⟩:=I.list hq
 have hl:=rv.length
 have fin:∀(out:Array Value) (zs:List V),Vals zs out.toList->zs.length=ys.length->(∀q,H q=none->Q (.ref q) (upd H q (.lst zs)))->EP X pins σ Q (.ref (.(3)+1)) { s with heap:=sortedAll s.heap its out }:=λout zs h1 h2 h3=>by
  obtain ⟨e,he⟩:=sortedAll_at s.heap its out
  refine ⟨.ref (.(3)+1),_,I.laid (t':=s.toks) (o:=.lst zs) (λb o q=>sortedAll_old q) (K5e _) ⟨by omega,out.toList,e,h1,?_⟩,rfl,h3 _ (I.hok.fresh (K5e _))⟩
  rw [he]
 rcases h with ⟨ss,rfl,h⟩|⟨ns,rfl,h⟩
 ·refine sorted_strs pl.isList (z7k rv) .(0) λout ss' h1 h2 h3=>?_
  have e:=zk2 h2 h3
  subst e
  exact fin out _ (z6P h1) (by rw [K02,K02,h2.length_eq]) h
 ·have hi:K5r its ns:=L2.intsAre_of rv
  refine sorted_ints pl.isList hi .(0) λout ns' h1 h2 h3=>?_
  have e:=z4x h2 h3
  subst e
  exact fin out _ (z4O h1) (by rw [K02,K02,h2.length_eq]) h
theorem z7f {K:K0}{ρ:List Addr}{H:Hp}:∀(l:List Str),RDs K ρ H (l.map .str) (l.map V.str)
 | []=>RDs.nil
 | x::r=>RDs.cons .(t) (z7f r)
theorem z38 {K:K0}{ρ:List Addr}{H:Hp}:∀(l:List Int),RDs K ρ H (l.map .int) (l.map V.int)
 | []=>RDs.nil
 | x::r=>RDs.cons .(t) (z38 r)
theorem z9t:AR X.K EX (λxs H Q=>∃l ys,xs=[.ref l]/\SqL X.K H l ys/\ys.length<64 /\
 ((∃ss,ys=ss.map V.str/\∀q,H q=none->Q (.ref q) (upd H q (.lst ((z1b ss).map V.str))))∨(∃ns,ys=ns.map V.int/\∀q,H q=none->Q (.ref q) (upd H q (.lst ((sortI ns).map V.int)))))) z13:=by
 intro ρ h H ds vs Q r rd fin
 unfold z13 at fin
 split at fin
 ·rename_i n
  obtain ⟨v,rfl,rv⟩:=rds1 rd
  have f1:=Fin.bind fin
  cases e:getL n h with
  | bad=>rw [e] at f1;exact f1.elim
  | err z hz=>exact (z0r e).elim
  | ok xs h1 =>
   obtain ⟨rfl,q1⟩:=z0p e
   rw [e] at f1
   have f2:=f1 ρ H .(6) .(8) r
   dsimp only at f2
   simp only [RD] at rv;obtain ⟨q,rfl,h2⟩:=rv
   obtain ⟨a1,n1,ws,o1,d1⟩:=r.at q1
   rw [h2] at n1;cases n1
   by_cases hl:xs.length<64
   ·rw [if_pos hl] at f2
    refine ⟨q,ws,rfl,SqL.of o1,by rw [← d1.length];exact hl,?_⟩
    cases eb:z2U xs with
    | some ss =>
     rw [eb] at f2
     have f3:FE X.K EX ρ H Q (newL ((z1b ss).map .str) h1):=f2
     unfold newL at f3
     split at f3
     ·exact .inl ⟨ss,z7m eb d1,λp hp=>FE.lst f3 r (z7f _) hp⟩
     ·exact f3.elim
    | none =>
     rw [eb] at f2
     cases en:z1P xs with
     | some ns =>
      rw [en] at f2
      have f3:FE X.K EX ρ H Q (newL ((sortI ns).map .int) h1):=f2
      unfold newL at f3
      split at f3
      ·exact .inr ⟨ns,z33 en d1,λp hp=>FE.lst f3 r (z38 _) hp⟩
      ·exact f3.elim
     | none=>rw [en] at f2;exact (show False from f2).elim
   ·rw [if_neg hl] at f2;exact (show False from f2).elim
 ·exact fin.elim
theorem z5N (hc:X.calm=true) (hg:Gl X "sorted") (hm:X.mg "sorted" = none) (ha:SA X EX [a] mr) (he:K03 [a] X.env=[(false,eval a X.env)]:=by rfl):SE X EX (.Call (.Name "sorted" p) [a] [] pos) (Z8 z13 mr) :=
 z21 (z0J z6y hg hm boot_sorted ha.h .(1) .(1) he rfl) z9t
end
@[simp] theorem bindM {α β:Type} (m:M α) (f:α->M β) (h:AH):(m >>= f) h=match m h with
 | .ok a h1=>f a h1
 | .err x h1=>.err x h1
 | .bad=>.bad:=rfl
@[simp] theorem pureM {α:Type} (a:α) (h:AH):(Z1e a:M α) h=.ok a h:=rfl
theorem Rise.lt {xs:Array Nat}(h:Rise xs) {i j a b:Nat}(ha:xs[i]?=some a) (hb:xs[j]?=some b) (hij:i<j):a<b:=by
 obtain ⟨h1,e1⟩:=K23.mp ha
 obtain ⟨h2,e2⟩:=K23.mp hb
 have:=List.pairwise_iff_getElem.mp h i j (by simpa using h1) (by simpa using h2) hij
 simp only [Array.getElem_toList] at this
 rw [e1,e2] at this
 exact this
theorem z4G {xs:Array Nat}(h:Rise xs) (j:Nat):∀(fuel lo hi:Nat),hi - lo≤fuel->lo≤hi->hi≤xs.size->(∀(i:Nat) a,i<lo->xs[i]?=some a->a<j)->(∀(i:Nat) a,hi≤i->xs[i]?=some a->j≤a) ->
 (K30 xs j fuel lo hi)≤xs.size/\(∀(i:Nat) a,i<K30 xs j fuel lo hi->xs[i]?=some a->a<j)/\∀(i:Nat) a,K30 xs j fuel lo hi≤i->xs[i]?=some a->j≤a
 | 0,lo,hi,hf,hl,hs,h1,h2=>by
  have:hi=lo:=by omega
  subst this
  exact ⟨by simp only [K30];omega,by simpa only [K30] using h1,by simpa only [K30] using h2⟩
 | fuel+1,lo,hi,hf,hl,hs,h1,h2=>by
  rw [K30]
  split
  ·rename_i hlt
   have hm:(lo+hi) / 2<xs.size:=by omega
   have e:xs[(lo+hi) / 2]?=some xs[(lo+hi) / 2]:=K1g hm
   have ed:xs.getD ((lo+hi) / 2) j=xs[(lo+hi) / 2]:=by rw [Array.getD_eq_getD_getElem?,e];rfl
   dsimp only
   rw [ed]
   split
   ·rename_i q
    refine z4G h j fuel _ hi .(0) .(0) hs (λi a hi' ha=>?_) h2
    by_cases z:i=(lo+hi) / 2
    ·subst z;rw [e] at ha;cases ha;exact q
    ·exact Z02 (h.lt ha e .(0)) q
   ·rename_i q
    refine z4G h j fuel lo _ .(0) .(0) .(0) h1 (λi a hi' ha=>?_)
    by_cases z:i=(lo+hi) / 2
    ·subst z;rw [e] at ha;cases ha;omega
    ·have:=h.lt e ha .(0);omega
  ·exact ⟨by omega,h1,λi a hi' ha=>h2 i a .(0) ha⟩
theorem z2y {xs:Array Nat}(h:Rise xs) (j:Nat):K0s xs j≤xs.size/\(∀(i:Nat) a,i<K0s xs j->xs[i]?=some a->a<j)/\∀(i:Nat) a,K0s xs j≤i->xs[i]?=some a->j≤a:=by
 unfold K0s
 refine z4G h j xs.size 0 xs.size .(0) .(0) .(0) (λi a hi=>by omega) (λi a hi ha=>?_)
 have:=(K23.mp ha).1
 omega
theorem z81 {xs:Array Nat}(h:Rise xs) {i j:Nat}(e:xs[i]?=some j):K0s xs (j+1)=i+1:=by
 obtain ⟨b1,b2,b3⟩:=z2y h (j+1)
 have hi:=(K23.mp e).1
 have l1:i<K0s xs (j+1):=by
  by_cases q:i<K0s xs (j+1)
  ·exact q
  ·have:=b3 i j .(0) e;omega
 by_cases q:K0s xs (j+1)=i+1
 ·exact q
 ·have hlt:i+1<xs.size:=by omega
  have e2:xs[i+1]?=some xs[i+1]:=K1g hlt
  have a1:=b2 (i+1) _ .(0) e2
  have a2:=h.lt e e2 .(0)
  omega
theorem z7Y {xs:Array Nat}(h:Rise xs):K0s xs 0=0:=by
 obtain ⟨b1,b2,b3⟩:=z2y h 0
 by_cases q:K0s xs 0=0
 ·exact q
 ·have hlt:0<xs.size:=by omega
  have e2:xs[0]?=some xs[0]:=K1g hlt
  have:=b2 0 _ .(0) e2
  omega
theorem zk1 {t:K42}{j:Nat}(h:Rise t.place) (hj:t.place[K0s t.place j]?≠some j):Rise (t.put j).1.place:=by
 obtain ⟨b1,b2,b3⟩:=z2y h j
 show (K42.insertAt t.place (K0s t.place j) j).toList.Pairwise _
 rw [K42.toList_insertAt]
 have tk:∀a∈t.place.toList.take (K0s t.place j),a<j:=λa ha=>by
  obtain ⟨i,hi,e⟩:=K38 ha
  rw [Z0b] at e
  have hi2:i<K0s t.place j:=by
   rw [K13] at hi;omega
  have hi3:i<t.place.size:=by omega
  exact b2 i a hi2 (by rw [K1g hi3];simpa using e)
 have dr:∀a∈t.place.toList.drop (K0s t.place j),j<a:=λa ha=>by
  obtain ⟨i,hi,e⟩:=K38 ha
  rw [List.getElem_drop] at e
  have hi3:K0s t.place j+i<t.place.size:=by
   rw [K7y] at hi;simp at hi;omega
  have e2:t.place[K0s t.place j+i]?=some a:=by rw [K1g hi3];simpa using e
  have:=b3 _ a .(0) e2
  by_cases q:a=j
  ·subst q
   cases i with
   | zero=>exact absurd e2 hj
   | succ i =>
    have hlt:K0s t.place a<t.place.size:=by omega
    have e3:t.place[K0s t.place a]?=some t.place[K0s t.place a]:=K1g hlt
    have a1:=b3 _ _ (K05 _) e3
    have a2:=h.lt e3 e2 .(0)
    omega
  ·omega
 have p1:=List.Pairwise.take (i:=K0s t.place j) h
 have p2:=List.Pairwise.drop (i:=K0s t.place j) h
 simp only [K99,List.pairwise_cons]
 first
  | (refine ⟨p1,⟨dr,p2⟩,λa ha b hb=>?_⟩
     rcases K0x.mp hb with rfl|hb
     ·exact tk a ha
     ·exact Z02 (tk a ha) (dr b hb))
  | skip
theorem z7a {t:K42}{j:Nat}(h:∀i,t.slot j≠.live i):t.place[K0s t.place j]?≠some j:=λe=>by
 refine h (K0s t.place j) ?_
 unfold K42.slot
 dsimp only
 rw [e,if_pos .(e)]
theorem z4B {t:K42}{ha:Nat->Int}{hx:Int}:∀(fuel:Nat) (p:Z17) (j:Nat) (dm:Option Nat),(∀d,p.dummy=some d->t.slot d=.dummy)->K77 t ha hx fuel p=some (.empty j dm)->t.slot j=.empty/\∀d,dm=some d->t.slot d=.dummy
 | 0,p,j,dm,hd,e=>by simp [K77] at e
 | fuel+1,p,j,dm,hd,e=>by
  rw [K77] at e
  have adv:∀q:Z17,(t.advance q).dummy=q.dummy:=λq=>by
   unfold K42.advance
   split<;>rfl
  split at e
  ·rename_i hs
   cases e
   exact ⟨hs,hd⟩
  ·rename_i hs
   refine z4B fuel _ j dm (λd z=>?_) e
   rw [adv] at z
   cases z
   exact hs
  ·split at e
   ·cases e
   ·refine z4B fuel _ j dm (λd z=>?_) e
    rw [adv] at z
    exact hd d z
theorem zc1 {t:K42}{hx:Int}{j:Nat}{b:Bool}(e:t.freeSlot hx=some (j,b)):t.place[K0s t.place j]?≠some j:=by
 unfold K42.freeSlot K42.probe at e
 split at e
 ·rename_i j' dm hp
  obtain ⟨s1,s2⟩:=z4B _ _ j' dm (λd z=>by simp [K42.probeStart] at z) hp
  cases dm with
  | none=>cases e;exact z7a (λi z=>by rw [show t.slot (none.getD j')=_ from s1] at z;cases z)
  | some d=>cases e;exact z7a (λi z=>by rw [show t.slot ((some d).getD j')=_ from s2 d rfl] at z;cases z)
 ·cases e
theorem z1O (n:Nat):Rise (Array.range n):=by
 show (Array.range n).toList.Pairwise _
 rw [Array.toList_range]
 exact K5v
theorem z6w {t:K42}{es:Array (Int×Value)}{hx:Int}{x:Value}(h:Rise t.place):Rise (layNew t es hx x).2.1.place/\(layNew t es hx x).2.1.led=t.led:=by
 unfold layNew
 split
 ·rename_i sl wd e
  dsimp only
  unfold K42.orStandIn
  split
  ·exact ⟨zk1 h (zc1 e),rfl⟩
  ·exact ⟨z1O _,rfl⟩
 ·exact ⟨z1O _,rfl⟩
theorem z96 {mask finger moves:Nat}{led plain:Bool}{hs:Array Int}{t:K42}{o:Array Nat}(e:Z1a mask finger moves led plain hs=some (t,o)):Rise t.place/\t.led=led:=by
 unfold Z1a at e
 cases hl:K42.layClean mask hs with
 | none=>rw [hl] at e;cases e
 | some ow =>
  rw [hl] at e
  cases e
  refine ⟨?_,rfl⟩
  unfold Rise
  dsimp only
  rw [K7e,List.pairwise_filterMap]
  refine K5v.imp λ{a b} hab c hc d hd=>?_
  cases h1:ow.getD a none with
  | none=>rw [h1] at hc;cases hc
  | some u =>
   cases h2:ow.getD b none with
   | none=>rw [h2] at hd;cases hd
   | some v =>
    rw [h1] at hc;rw [h2] at hd
    cases hc;cases hd
    exact hab
theorem z7L {t:K42}{es:Array (Int×Value)}{n:Nat}:Rise (K66 t es n).2.1.place/\(K66 t es n).2.1.led=t.led:=by
 unfold K66
 split
 ·rename_i t' o e
  obtain ⟨r1,r2⟩:=z96 e
  dsimp only
  split
  ·exact ⟨r1,r2⟩
  ·exact ⟨z1O _,rfl⟩
 ·exact ⟨z1O _,rfl⟩
section
variable {P:K0m}{w:World}
theorem z1Z {α β:Type}{R:α->β->Prop}{l' l:List β}(p:l'.Perm l):∀{ks:List α},Paired R ks l->∃ks',ks'.Perm ks/\Paired R ks' l':=by
 induction p with
 | nil=>intro ks h;exact ⟨ks,.refl _,h⟩
 | cons x _ ih =>
  intro ks h
  cases h with
  | cons a b =>
   obtain ⟨ks',q1,q2⟩:=ih b
   exact ⟨_::ks',.cons _ q1,.cons a q2⟩
 | swap x y l =>
  intro ks h
  cases h with
  | cons a b =>
   cases b with
   | cons c d=>exact ⟨_::_::_,.swap _ _ _,.cons c (.cons a d)⟩
 | trans _ _ ih1 ih2 =>
  intro ks h
  obtain ⟨k1,a1,a2⟩:=ih2 h
  obtain ⟨k2,b1,b2⟩:=ih1 a2
  exact ⟨k2,b1.trans a1,b2⟩
theorem z3o {α β:Type}{R:α->β->Prop}:∀{ks:List α}{l:List β}{k:α}{x:β},Paired R ks l->R k x->Paired R (ks++[k]) (l++[x])
 | _,_,_,_,.nil,h=>.cons h .nil
 | _,_,_,_,.cons a b,h=>.cons a (z3o b h)
theorem z2K {α β:Type}{R:α->β->Prop}:∀{ks:List α}{l:List β}{x:β},Paired R ks l->x∈l->∃k∈ks,R k x
 | _,_,_,.cons a b,h=>by
  rcases K0x.mp h with rfl|h
  ·exact ⟨_,K1d,a⟩
  ·obtain ⟨k,h1,h2⟩:=z2K b h;exact ⟨k,K11 _ h1,h2⟩
theorem z3E {α β:Type}{R:α->β->Prop}:∀{ks:List α}{l:List β}{k:α},Paired R ks l->k∈ks->∃x∈l,R k x
 | _,_,_,.cons a b,h=>by
  rcases K0x.mp h with rfl|h
  ·exact ⟨_,K1d,a⟩
  ·obtain ⟨k,h1,h2⟩:=z3E b h;exact ⟨k,K11 _ h1,h2⟩
theorem z6Y {k:Key}{v:Value}(h:z1k k v=true):v.scannable=true:=by
 rcases y0 h with ⟨i,t,rfl,rfl⟩|⟨x,t,rfl,rfl⟩<;>rfl
theorem zh5 {ks:List Key}{l:List (Int×Value)}(h:Paired (KE w) ks l):ElemsOf (w6 P w) l:=λe he=>by
 obtain ⟨k,_,h1,h2⟩:=z2K h he
 exact ⟨⟨k,h1,h2⟩,z6Y h1⟩
theorem zq5 {k k':Key}{v:Value}(h:z1k k v=true) (h':z1k k' v=true):k=k':=by
 rcases y0 h with ⟨i,t,rfl,rfl⟩|⟨x,t,rfl,rfl⟩
 ·rcases y0 h' with ⟨j,u,rfl,e⟩|⟨y,u,rfl,e⟩
  ·cases e;rfl
  ·cases e
 ·rcases y0 h' with ⟨j,u,rfl,e⟩|⟨y,u,rfl,e⟩
  ·cases e
  ·cases e;rfl
theorem mem_of {ks:List Key}{l:List (Int×Value)}(h:Paired (KE w) ks l) (k:Key):k∈ks↔∃e∈l,z1k k e.2=true:=by
 constructor
 ·intro hk
  obtain ⟨e,h1,h2,_⟩:=z3E h hk
  exact ⟨e,h1,h2⟩
 ·rintro ⟨e,h1,h2⟩
  obtain ⟨k',h3,h4,_⟩:=z2K h h1
  exact zq5 h2 h4 ▸ h3
theorem SetAt.stay {h h':Heap}{a:Addr}{ks:List Key}(x:SetAt w h a ks) (k:∀o,h.get? a=some o->h'.get? a=some o):SetAt w h' a ks:=by
 obtain ⟨o,es,ep,t,ks',h1,h2⟩:=x
 exact ⟨o,es,ep,t,ks',k o h1,h2⟩
theorem z9s {h:Heap}{led:Bool}(hl:led=true∨w.params.followText "set-order" = true):SetAt w (h.push { cls:=.type "set",dict:=none,data:=.set #[] 0 (.fresh 0 0 led) }) h.objs.size [] :=
 ⟨_,#[],0,_,[],K0a _ rfl,⟨rfl,rfl,rfl⟩,rfl,.nil,.refl _,K93,by decide,by rfl,by show ([]:List Nat).Pairwise _;exact .nil,hl⟩
variable {A:Around}{E:Value->Shared->Prop}{s:Shared}{a:Addr}
theorem z7l {ks:List Key}{o:Obj}{es es':Array (Int×Value)}{ep:Nat}{t t':K42}{ks':List Key}{h:Heap}(ho:h.get? a=some o) (hex:o.ExactSet) (hd:o.data=.set es ep t) (h4:Paired (KE w) ks' es'.toList) (h5:ks'.Perm ks) (h6:ks.Nodup)
 (hb:es'.size<scanBound) (hf:t'.fits es'.size=true) (hr:Rise t'.place) (hl:t'.led=true∨w.params.followText "set-order" = true) :
 SetAt w (h.update a (K6p es' t')) a ks/\∃o',(h.update a (K6p es' t')).get? a=some o'/\o'.ExactSet/\o'.data=.set es' (ep+1) t':=by
 have g:(h.update a (K6p es' t')).get? a=some { o with data:=.set es' (ep+1) t' }:=by
  have:=K3j (K6p es' t') ho (by rw [putSet_of es' t' hd];rfl)
  rw [putSet_of es' t' hd] at this;exact this
 exact ⟨⟨_,es',ep+1,t',ks',g,hex,rfl,h4,h5,h6,hb,hf,hr,hl⟩,_,g,hex,rfl⟩
theorem tail_at {ks ks1:List Key}{o:Obj}{es es1:Array (Int×Value)}{ep:Nat}{t t2:K42}{wd:Bool}{gw:Bool->Sem Unit}{R:Option Bool->Shared->Prop}(hG:∀(g:Bool) (s1:Shared) (Z:Unit->Shared->Prop),Z () s1->wpAny (model P w) A (gw g) Z E s1)
 (ho:s.heap.get? a=some o) (hex:o.ExactSet) (hd:o.data=.set es ep t) (h4:Paired (KE w) ks1 es1.toList) (h5:ks1.Perm ks) (h6:ks.Nodup) (hb:es1.size<scanBound) (hf:t2.fits es1.size=true) (hr:Rise t2.place) (hl:t2.led=true∨w.params.followText "set-order" = true)
 (h:∀h',K39 a s.heap h'->SetAt w h' a ks->R (some true) { s with heap:=h' }) :
 wpAny (model P w) A (storeSet a es1 t2 >>= λ_=>if (!wd&&t2.tooFull)=true then (gw (K66 t2 es1 (K2x es1.size)).2.2 >>= λ_=>storeSet a (K66 t2 es1 (K2x es1.size)).1 (K66 t2 es1 (K2x es1.size)).2.1 >>= λ_=>pure (some true)) else pure (some true)) R E s:=by
 obtain ⟨S1,o1,g1,x1,d1⟩:=z7l (h:=s.heap) (t':=t2) ho hex hd h4 h5 h6 hb hf hr hl
 have sb:=K1z s.heap a (K6p es1 t2)
 refine K1 (wpAny_storeSet_of ho hd ?_ (K5x hb))
 split
 ·have rp:=relayAll_perm t2 es1 (K2x es1.size)
  have rf:=relayAll_fits t2 es1 (K2x es1.size)
  have rr:=z7L (t:=t2) (es:=es1) (n:=K2x es1.size)
  obtain ⟨ks2,p1,p2⟩:=z1Z rp h4
  have sz:(K66 t2 es1 (K2x es1.size)).1.size=es1.size:=by rw [← K19,rp.length_eq,K19]
  have b2:(K66 t2 es1 (K2x es1.size)).1.size<scanBound:=by rw [sz];exact hb
  refine K1 (hG _ _ _ (K1 (wpAny_storeSet_of g1 d1 (K8 ?_) (K5x b2))))
  obtain ⟨S2,_⟩:=z7l (h:=s.heap.update a (K6p es1 t2)) (t':=(K66 t2 es1 (K2x es1.size)).2.1) g1 x1 d1 p2 (p1.trans h5) h6 b2 rf rr.1 (by rw [rr.2];exact hl)
  exact h _ (sb.trans (K1z _ a _)) S2
 ·exact K8 (h _ sb S1)
theorem zG3 {ks:List Key}{k:Key}{x:Value}{Q:Bool->Shared->Prop}(hk:z1k k x=true) (hS:SetAt w s.heap a ks) (hroom:ks.length+1<scanBound)
 (h:∀h' b,K39 a s.heap h'->SetAt w h' a (if k∈ks then ks else ks++[k])->Q b { s with heap:=h' }) :
 wpAny (model P w) A (setAddHashed a x (keyH w k)) Q E s:=by
 obtain ⟨o,es,ep,t,ks',ho,hex,hd,h4,h5,h6,h7,h8,h9,h0⟩:=hS
 have el:=zh5 (P:=P) h4
 have sc:=z6Y hk
 have hn:es.size=ks.length:=by rw [← h5.length_eq,K4g h4,K19]
 unfold setAddHashed setAddHashedIn
 refine K1w (K1 (K3u ho hd h8 ?_))
 dsimp only
 rw [byScan_of sc h7 el,if_pos rfl]
 unfold setAddByScan
 refine K1 (K1 (K6u (K1 (wpAny_setScan_of (knd:=w6 P w) (k:=k) hk ho hd h8 el ?_))))
 cases hr:List.findIdx? (λe=>(w6 P w).is k e.2) es.toList with
 | some j =>
  dsimp only
  obtain ⟨hj,hp,_⟩:=List.findIdx?_eq_some_iff_getElem.mp hr
  have hm:k∈ks:=h5.mem_iff.mp ((mem_of h4 k).mpr ⟨_,K4w hj,hp⟩)
  have:=h s.heap false (K79 a s.heap) (by rw [if_pos hm];exact ⟨o,es,ep,t,ks',ho,hex,hd,h4,h5,h6,h7,h8,h9,h0⟩)
  exact K8 (K8 this)
 | none =>
  dsimp only
  have hm:k∉ks:=λz=>by
   obtain ⟨e,he,hp⟩:=(mem_of h4 k).mp (h5.mem_iff.mpr z)
   have:=List.findIdx?_eq_none_iff.mp hr e he
   rw [show (w6 P w).is k e.2=true from hp] at this
   cases this
  rw [if_neg hm] at h
  have np:=layNew_perm t es (keyH w k) x
  have nf:=layNew_fits t es (keyH w k) x
  have nr:=z6w (t:=t) (es:=es) (hx:=keyH w k) (x:=x) h9
  have hG:∀(g:Bool) (s1:Shared) (R:Unit->Shared->Prop),R () s1->wpAny (model P w) A (match g with|true=>rule "set.scan.the-table-gave-way" | false=>pure ()) R E s1 :=
   λg s1 R q=>by cases g<;>first|exact K8 q|exact K6u q
  generalize hL:layNew t es (keyH w k) x=L at np nf nr ⊢
  obtain ⟨es1,t1,wd,gv⟩:=L
  dsimp only at np nf nr ⊢
  rw [Z09] at np
  obtain ⟨ks1,p1,p2⟩:=z1Z np (z3o h4 (show KE w k (keyH w k,x) from ⟨hk,rfl⟩))
  have nd:(ks++[k]).Nodup:=by
   rw [K3o]
   exact ⟨h6,by simp,λu hu v hv=>by simp at hv;subst hv;exact λz=>hm (z ▸ hu)⟩
  have b1:es1.size<scanBound:=by
   rw [← K19,np.length_eq,K01,K19]
   simpa [hn] using hroom
  have p3:ks1.Perm (ks++[k]):=p1.trans (h5.append_right [k])
  have l1:t1.led=true∨w.params.followText "set-order" = true:=by rw [nr.2];exact h0
  refine K1 (hG _ _ _ ?_)
  split
  ·rw [hashByValue_scannable 8 sc]
   refine K1 (K8 ?_)
   refine tail_at (t2:=if plainKind x=true then t1 else { t1 with plain:=false }) hG ho hex hd p2 p3 nd b1 ?_ ?_ ?_ λh' sb S=>K8 (h h' true sb S)
   ·split
    ·exact nf
    ·exact K42.fits_plain_off nf
   ·split
    ·exact nr.1
    ·exact nr.1
   ·split
    ·exact l1
    ·exact l1
  ·refine K1 (K8 ?_)
   simp only [if_pos]
   exact tail_at hG ho hex hd p2 p3 nd b1 nf nr.1 l1 λh' sb S=>K8 (h h' true sb S)
end
def putK (acc:List Key) (k:Key):List Key:=if k∈acc then acc else acc++[k]
def dedK (ks:List Key):List Key:=ks.foldl putK []
theorem zf0 (acc:List Key) (k:Key):(putK acc k).length≤acc.length+1:=by
 unfold putK
 split
 ·omega
 ·simp
theorem z5S:∀(ks acc:List Key),(ks.foldl putK acc).length≤acc.length+ks.length
 | [],acc=>by simp
 | k::ks,acc=>by
  have h1:=z5S ks (putK acc k)
  have h2:=zf0 acc k
  simp only [K4d,K0g]
  omega
theorem zf3 (ks:List Key):(dedK ks).length≤ks.length:=by
 have:=z5S ks []
 simpa [dedK] using this
theorem z9K (ks:List Key) (k:Key):dedK (ks++[k])=putK (dedK ks) k:=by
 unfold dedK
 rw [K4n]
 rfl
section
variable {P:K0m}{w:World}{A:Around}{E:Value->Shared->Prop}{s:Shared}{a:Addr}
theorem z9F {ks:List Key}{k:Key}{x:Value}{Q:Bool->Shared->Prop}(hk:z1k k x=true) (hS:SetAt w s.heap a ks) (hroom:ks.length+1<scanBound)
 (h:∀h' b,K39 a s.heap h'->SetAt w h' a (putK ks k)->Q b { s with heap:=h',toks:=s.toks+1 }):wpAny (model P w) A (setAdd a x) Q E s:=by
 unfold setAdd
 refine K1w (K1 ((w6 P w).pyHash (k:=k) hk ?_))
 exact zG3 (s:={ s with toks:=s.toks+1 }) hk hS hroom λh' b sb S=>h h' b sb S
end
section
variable {P:K0m}{w:World}{A:Around}{R:Result->Shared->Prop}{I:Addr}{fp wr:List Addr}{G:Array K67->Array K67->Prop}{n:Nat}{PV:Nat->Value->Prop}{St:Nat->Shared->Prop}
theorem z5Q (W:WalksS P w A.in1 I fp wr G n PV St) (S:Addr) (hSf:S∉fp) (key:Nat->Key) (hv:∀i v,PV i v->z1k (key i) v=true) (hb:n+1<scanBound) :
 ∀(k i:Nat) (s:Shared),i+k=n->St i s->SetAt w s.heap S (dedK ((K00 i).map key)) ->
  (∀s',Moved (S::wr) G s s'->SetAt w s'.heap S (dedK ((K00 n).map key))->R (.ok (.ret .none)) s') ->
  K4x (model P w) A (.builtin "set.update.loop" ⟨[.ref S,.ref I],[]⟩) R s:=by
 have nw:S∉wr:=λh=>hSf (W.sub _ h)
 have up:∀b∈wr,b∈S::wr:=λb hb=>K11 _ hb
 intro k
 induction k with
 | zero =>
  intro i s hk st hS hR
  obtain rfl:i=n:=by omega
  refine K28 K87 ?_
  rw [K1t K5m _]
  show wpAny _ A.in1 (pyNext (.ref I) >>= _) _ _ s
  refine K1 (W.done s _ _ st λs' hm=>?_)
  show wpAny _ A.in1 (ret K3w) _ _ s'
  exact K8 (hR s' (hm.mono up) (hS.stay λo e=>hm.heap S o nw e))
 | succ k ih =>
  intro i s hk st hS hR
  refine K28 K87 ?_
  rw [K1t K5m _]
  show wpAny _ A.in1 (pyNext (.ref I) >>= _) _ _ s
  refine K1 (W.item i s _ _ .(0) st λv s' hP st' hm=>?_)
  show wpAny _ A.in1 (K3v [v] (setAdd S v) >>= _) _ _ s'
  have room:(dedK ((K00 i).map key)).length+1<scanBound:=by
   have:=zf3 ((K00 i).map key)
   rw [K02,K2b] at this
   omega
  refine K1 (K1w (z9F (hv i v hP) (hS.stay λo e=>hm.heap S o nw e) room λh' b sb S2=>?_))
  have nx:dedK ((K00 (i+1)).map key)=putK (dedK ((K00 i).map key)) (key i):=by
   rw [List.range_succ,K36]
   exact z9K _ _
  refine K8 ⟨K52 K5m _,ih (i+1) _ .(0) (W.frame _ s' _ _ st' (K5e _) λb hb o e=>?_) (by rw [nx];exact S2) λs'' hm'' S3=>?_⟩
  ·rw [sb.2 b (λz:b=S=>hSf (z ▸ hb))];exact e
  ·refine hR s'' (Moved.trans W.gtrans ((hm.mono up).then_heap (K5e _) λb o hb e=>?_) hm'') S3
   rw [sb.2 b (λz:b=S=>hb (by rw [z];exact K1d))];exact e
end
theorem z7V:isSubtype (.type "tuple") (.type "set")=pure false:=by rw [K5u];kernel_rfl
theorem z6d:isSubtype (.type "tuple") (.type "frozenset")=pure false:=by rw [K5u];kernel_rfl
abbrev z12 (w:World):Obj:={ cls:=.type "set",dict:=none,data:=.set #[] 0 (.fresh 0 0 (!w.params.followText "set-order")) }
theorem zF0 (w:World):(!w.params.followText "set-order")=true∨w.params.followText "set-order" = true:=by
 cases w.params.followText "set-order"<;>simp
section
variable {P:K0m}{w:World}{A:Around}{E:Value->Shared->Prop}{s:Shared}
theorem fresh_at {h:Heap}:SetAt w (h.push (z12 w)) h.objs.size []:=z9s (zF0 w)
theorem newCode (a:Value) {Q:Value->Shared->Prop}(h:Q (.ref s.heap.objs.size) { s with heap:=s.heap.push (z12 w) }) :
 K4x (model P w) A (.call (.builtin "set.__new__") ⟨[.type "set",a],[]⟩) (wants Q E) s:=by
 refine K8v (show wpAny _ A.in1 (do K85 "set.__new__" ⟨[.type "set",a],[]⟩;again (.builtin "set.__new__" ⟨[.type "set",a],[]⟩)) _ _ s from ?_)
 refine K1 (Z0v (F.newCall_set_1 a) (K8 ⟨K52 F.plain_set_new _,K28 F.entry_set_new ?_⟩))
 rw [K1t F.plain_set_new _]
 unfold Builtin.«set.__new__» Builtin.Frozenset.newClass
 have hz:=sub_set_self
 obtain ⟨hp,g,d,tk,os⟩:=s
 dsimp only
 wp_walk
 refine K3c (K8 ?_)
 dsimp only
 simp only [newObj]
 refine K1 (wpAny_alloc (K8 ?_))
 exact K8 h
theorem z9h {T:String}{l:Addr}{items:Array Value}{key:Nat->Key}{Q:Value->Shared->Prop}(hT:T = "list"∨T = "tuple") (hh:A.handled=none) (hl:∃o,s.heap.get? l=some o/\o.cls=.type T/\∃n,o.data=.seq items n)
 (hv:∀(i:Nat) v,items[i]?=some v->z1k (key i) v=true) (hb:.(v)+1<scanBound)
 (h:∀h' tk,SetAt w h' .(3) (dedK ((K00 .(v)).map key))->(∀b o,s.heap.get? b=some o->h'.get? b=some o)->Q (.ref .(3)) { s with heap:=h',toks:=tk }) :
 wpAny (model P w) A (call (.type "set") [.ref l]) Q E s:=by
 obtain ⟨c,tl,hmro⟩:=F.called_set.mro
 have z1:=F.called_set.made
 have z2:=F.called_set.sub
 have z3:=F.called_set.notType
 have z4:=F.called_set.canCreate
 have z5:=F.typeCall_set_1 (.ref l)
 obtain ⟨ol,hol,hcl,nl,hdl⟩:=hl
 obtain ⟨ocls,odict,odata,oslots⟩:=ol
 simp only at hcl hdl
 subst hcl;subst hdl
 refine wpAny_call (K8v (show wpAny _ _ (callAny (.type "set") _) _ _ _ from ?_))
 refine K8 ⟨K9s _ .(2),K28 F.entry_type_call ?_⟩
 rw [Around.under_plain (weight_type_call_type "set" [.ref l] []) rfl]
 repeat (any_goals (first|assumption|wp_step))
 refine K3t (newCode (.ref l) (E:=E) (Q:=λobj s1=>obj=.ref .(3)/\s1={ s with heap:=s.heap.push (z12 w) }) ⟨rfl,rfl⟩) λr s1 hr=>?_
 cases r with
 | error e=>exact hr
 | ok fl =>
  cases fl with
  | next=>exact hr.elim
  | brk=>exact hr.elim
  | cont=>exact hr.elim
  | ret obj =>
   obtain ⟨rfl,rfl⟩:=hr
   have gS:(s.heap.push (z12 w)).get? .(3)=some (z12 w):=K0a _ rfl
   have tS:K7i { s with heap:=s.heap.push (z12 w) } (.ref .(3)) "set":=⟨_,gS,rfl⟩
   have y1:=F.called_set.init.lookup
   have y2:=F.called_set.init.bind (.ref .(3))
   repeat (any_goals (first|assumption|wp_step))
   refine K3t (K69 (R:=wants (λr s2=>r=.none/\∃h' tk,s2={ s with heap:=h',toks:=tk }/\SetAt w h' .(3) (dedK ((K00 .(v)).map key))/\∀b o,s.heap.get? b=some o->h'.get? b=some o) E) F.called_set.init.plain F.entry_set_init (check_set_init_1 tS ?_)) λr2 s2 hr2=>?_
   ·have gl:(s.heap.push (z12 w)).get? l=some { cls:=.type T,dict:=odict,data:=.seq items nl,slots:=oslots }:=K7 _ hol
    have hll:l<s.heap.objs.size:=K08 hol
    have h3:A.in1.in1.in1.handled=none:=by simp [hh]
    have neI:l≠(s.heap.push (z12 w)).objs.size:=by rw [K24];exact K0n (K3r hll)
    have nf:.(3)∉[(s.heap.push (z12 w)).objs.size,l]:=by
     rw [K24]
     simp only [K0x,K5a,K7w,or_false,not_or]
     exact ⟨K0n (K81 _),K2k hll⟩
    have start:∀ob:Obj,SetAt w ((s.heap.push (z12 w)).push ob) .(3) (dedK ((K00 0).map key)):=λob=>fresh_at.stay λo e=>K7 _ e
    have fin:∀(ob:Obj) s',Moved [.(3),(s.heap.push (z12 w)).objs.size] (λg g'=>g'=g) { s with heap:=(s.heap.push (z12 w)).push ob } s'->SetAt w s'.heap .(3) (dedK ((K00 .(v)).map key)) ->
     ∃h' tk,s'={ s with heap:=h',toks:=tk }/\SetAt w h' .(3) (dedK ((K00 .(v)).map key))/\∀b o,s.heap.get? b=some o->h'.get? b=some o:=λob s' hm S2=>by
     obtain ⟨h',g',d',tk',os'⟩:=s'
     have e1:g'=s.gens:=hm.gens
     have e2:d'=s.drawn:=hm.drawn
     have e3:os'=s.os:=hm.os
     subst e1;subst e2;subst e3
     refine ⟨h',tk',rfl,S2,λb o e=>hm.heap b o ?_ (K7 _ (K7 _ e))⟩
     have:=K08 e
     rw [K24]
     simp only [K0x,K5a,K7w,or_false,not_or]
     exact ⟨K0n this,K0n (K3r this)⟩
    rcases hT with rfl|rfl
    ·have x1:=F.sub_list_set
     have x2:=F.sub_list_frozenset
     have x3:(K44 "list"==K44 "dict")=false:=by decide
     have il:(s.heap.push (z12 w)).IsList l items:=⟨_,gl,rfl,nl,rfl⟩
     unfold Builtin.«set.__init__» noKeywords K6b
     generalize hPI:pyIter=PI
     wp_walk
     subst hPI
     refine K33 il (K1 (K5t ?_))
     refine z5Q ((Walks.list h3 _ l neI items).toS) .(3) nf key (λi v e=>hv i v e) hb .(v) 0 _ .(0) ⟨⟨_,K0a _ rfl,rfl,rfl⟩,il.push _⟩ (start _) λs' hm S2=>?_
     obtain ⟨h',tk,rfl,q1,q2⟩:=fin _ s' hm S2
     exact K8 (show wpAny _ _ (ret K3w) _ _ _ from K8 ⟨rfl,h',tk,rfl,q1,q2⟩)
    ·have x1:=z7V
     have x2:=z6d
     have x3:(K44 "tuple"==K44 "dict")=false:=by decide
     have il:(s.heap.push (z12 w)).IsTuple l items:=⟨_,gl,rfl,nl,rfl⟩
     unfold Builtin.«set.__init__» noKeywords K6b
     generalize hPI:pyIter=PI
     wp_walk
     subst hPI
     refine wpAny_pyIter_tuple il (K1 (K5t ?_))
     refine z5Q ((Walks.tuple h3 _ l neI items).toS) .(3) nf key (λi v e=>hv i v e) hb .(v) 0 _ .(0) ⟨⟨_,K0a _ rfl,rfl,rfl⟩,⟨_,K7 _ gl,rfl,nl,rfl⟩⟩ (start _) λs' hm S2=>?_
     obtain ⟨h',tk,rfl,q1,q2⟩:=fin _ s' hm S2
     exact K8 (show wpAny _ _ (ret K3w) _ _ _ from K8 ⟨rfl,h',tk,rfl,q1,q2⟩)
   ·cases r2 with
    | error e=>exact hr2
    | ok f2 =>
     cases f2 with
     | next=>exact hr2.elim
     | brk=>exact hr2.elim
     | cont=>exact hr2.elim
     | ret r =>
      obtain ⟨rfl,h',tk,rfl,q1,q2⟩:=hr2
      repeat (any_goals (first|assumption|wp_step))
      exact h _ _ q1 q2
end
theorem z2M {α:Type}:∀(l:List α) (i:Nat) (h:i<l.length),(l[i]::l.eraseIdx i).Perm l
 | [],i,h=>by simp at h
 | a::l,0,h=>.refl _
 | a::l,i+1,h=>by
  have:=z2M l i (by simpa using h)
  exact (List.Perm.swap a _ _).trans (Z14 a this)
theorem z56 {α:Type}{l:List α}{i n:Nat}(h:i<l.length) (e:l.length=n+1):(l.eraseIdx i).length=n:=by
 rw [List.length_eraseIdx,if_pos h,e];rfl
theorem z9G {α:Type}(f:Nat->Nat):∀(n k:Nat) (left:List α) (out:Array α),left.length=n->(K9v f n k left out).toList.Perm (out.toList++left)
 | 0,k,left,out,h=>by
  have:left=[]:=K2z.mp h
  subst this
  simp [K9v]
 | n+1,k,left,out,h=>by
  have hl:f k % left.length<left.length:=Nat.mod_lt _ .(0)
  rw [K9v,K6 hl]
  dsimp only
  refine (z9G f n (k+1) _ _ (z56 hl h)).trans ?_
  rw [Z09,K0b]
  refine K8w _ ?_
  exact z2M left _ hl
theorem z8r {α:Type}(f:Nat->Nat) (xs:Array α):(Z0l f xs).toList.Perm xs.toList:=by
 unfold Z0l
 have:=z9G f xs.size 0 xs.toList #[] .(e)
 simpa using this
theorem slot_si_next:Slot "set_iterator" "__next__" "set_iterator.__next__" :=
 .of (owner:="set_iterator") (n:="__next__") (by rw [K8u,K61];kernel_rfl) .(2) .(2) .(2) (by first|exact .inl .(2)|exact .inr .(2)) (by rw [K5u];kernel_rfl)
theorem z2o:entryFor table "set_iterator.__next__" = some Builtin.«set_iterator.__next__»:=entryFor_of_tree (by kernel_rfl)
theorem z76:Manifest.owners.lookup (String.ofList ['r','o','t','a','r','e','t','i','_','t','e','s'].reverse)=some Manifest.sig_set_iterator:=by kernel_rfl
theorem z2N (a:Value):argsOk "set_iterator.__next__" ⟨[a],[]⟩:=by
 unfold argsOk;rw [K9i (id:="set_iterator.__next__") (n:=['_','_','t','x','e','n','_','_']) (o:=['r','o','t','a','r','e','t','i','_','t','e','s']) (by kernel_rfl) z76];kernel_rfl
theorem z2R:Slot "set_iterator" "__iter__" "set_iterator.__iter__" :=
 .of (owner:="set_iterator") (n:="__iter__") (by rw [K8u,K61];kernel_rfl) .(2) .(2) .(2) (by first|exact .inl .(2)|exact .inr .(2)) (by rw [K5u];kernel_rfl)
theorem z5J:entryFor table "set.__iter__" = some Builtin.«frozenset.__iter__» :=
 entryFor_alias (id':="frozenset.__iter__") (by kernel_rfl) rfl .(2) (by kernel_rfl)
theorem z6r (a:Value):argsOk "set.__iter__" ⟨[a],[]⟩:=by
 unfold argsOk;rw [K9i (id:="set.__iter__") (n:=['_','_','r','e','t','i','_','_']) (o:=['t','e','s']) (by kernel_rfl) F.owner_set];kernel_rfl
section
variable {P:K0m}{w:World}{A:Around}{E:Value->Shared->Prop}{s:Shared}
theorem z4c {α:Type}:∀(n:Nat) (xs:List α) (s:Shared) (Q:List α->Shared->Prop),xs.length=n->(∀ys d',ys.Perm xs->Q ys { s with drawn:=d' })->wpAny (model P w) A (drawOrder n xs) Q E s
 | 0,xs,s,Q,h,hq=>by
  have:xs=[]:=K2z.mp h
  subst this
  exact K8 (hq [] s.drawn (.refl _))
 | n+1,xs,s,Q,h,hq=>by
  cases xs with
  | nil=>simp at h
  | cons x xs =>
   rw [drawOrder.eq_3 _ _ (λz=>by cases z)]
   refine K1 ?_
   refine λΓ p _=>⟨by simp,?_⟩
   generalize hi:(model P w).w.draws .order (s.drawn.get .order) % (x::xs).length=i
   have il:i<(x::xs).length:=by rw [← hi];exact Nat.mod_lt _ .(e)
   show wpAny (model P w) A (match (x::xs)[i]? with|some x_1=>(do return x_1::(← drawOrder n ((x::xs).eraseIdx i)))|none=>Z0w "internal:drawOrder") Q E { s with drawn:=s.drawn.bump .order }
   rw [K6 il]
   dsimp only
   refine K1 (z4c n _ _ _ (z56 il h) λys d' pm=>K8 ?_)
   exact hq _ d' ((Z14 _ pm).trans (z2M _ i il))
end
theorem z4q:entryFor table "set_iterator.__iter__" = some Builtin.«dict_keyiterator.__iter__» :=
 entryFor_alias (id':="dict_keyiterator.__iter__") (by kernel_rfl) rfl .(2) (by kernel_rfl)
theorem z5g (a:Value):argsOk "set_iterator.__iter__" ⟨[a],[]⟩:=by
 unfold argsOk;rw [K9i (id:="set_iterator.__iter__") (n:=['_','_','r','e','t','i','_','_']) (o:=['r','o','t','a','r','e','t','i','_','t','e','s']) (by kernel_rfl) z76];kernel_rfl
abbrev z6j (first:Value) (i:Nat) (S:Addr) (n ep:Nat):Obj:={ cls:=.type "set_iterator",data:=.fields #[first,rawInt i,.ref S,rawInt n,rawInt ep] }
section
variable (w:World) (S:Addr) (es:Array (Int×Value)) (ep:Nat) (t:K42)
inductive Stand (h:Heap) (i:Nat):Value->List (Int×Value)->Prop where
 | txt (b:w.params.followText "set-order" = true):Stand h i (rawInt 0) (Z0l (w.params.setOrder S ep) es).toList
 | drw (T:Addr) (pl:List Nat) (b:w.params.followText "set-order" = false) (hT:∃o n,h.get? T=some o/\o.data=.seq (pl.map λ(j:Nat)=>rawInt j).toArray n) (hp:pl.Perm (K00 es.size)):Stand h i (.ref T) (pl.filterMap λj=>es[j]?)
 | slo (sl:Nat) (b:w.params.followText "set-order" = false) (c:(!t.plain&&decide (es.size > 1))=false) (l:t.led=true) (e:K0s t.place sl=i):Stand h i (rawInt sl) es.toList
end
theorem z4d {α:Type}{es:Array α}:∀{pl:List Nat},(∀j∈pl,j<es.size)->∀(i:Nat),(pl.filterMap λj=>es[j]?)[i]?=(pl[i]?).bind λj=>es[j]?
 | [],h,i=>by simp
 | a::pl,h,i=>by
  have hb:=h a K1d
  have ha:es[a]?=some es[a]:=K1g hb
  rw [K20,ha]
  cases i with
  | zero=>simp [ha]
  | succ i=>simpa using z4d (λj hj=>h j (K11 _ hj)) i
theorem Stand.perm {w:World}{S:Addr}{es:Array (Int×Value)}{ep:Nat}{t:K42}{h:Heap}{i:Nat}{f:Value}{ord:List (Int×Value)}(x:Stand w S es ep t h i f ord):ord.Perm es.toList:=by
 cases x with
 | txt b=>exact z8r _ _
 | drw T pl b hT hp =>
  refine (hp.filterMap _).trans ?_
  rw [filterMap_getElem?_range]
 | slo sl b c l e=>exact .refl _
section
variable {P:K0m}{w:World}{A:Around}{E:Value->Shared->Prop}{s:Shared}{S I:Addr}{es:Array (Int×Value)}{ep:Nat}{t:K42}{i:Nat}{f:Value}{ord:List (Int×Value)}{o:Obj}
theorem z7F {sl:Nat}{Q:Option (Value×Nat)->Shared->Prop}(ho:s.heap.get? S=some o) (hd:o.data=.set es ep t) (hf:t.fits es.size=true) (b:w.params.followText "set-order" = true)
 (h:Q (((Z0l (w.params.setOrder S ep) es)[i]?).map λe=>(e.2,sl)) s):wpAny (model P w) A (K8a S sl i ep) Q E s:=by
 unfold K8a K9q
 refine K1 (K3u ho hd hf (K1 (K1 (K3c (K8 ?_)))))
 dsimp only
 rw [show (model P w).w.params.followText "set-order" = true from b,if_pos rfl,if_neg .(e)]
 unfold setWalk K9q
 refine K1 (K1 (K3u ho hd hf (K1 (K1 (K3c (K8 ?_))))))
 dsimp only
 rw [show (model P w).w.params.followText "set-order" = true from b,if_pos rfl]
 refine K1 (K3c (K8 (K8 ?_)))
 exact h
theorem z6I {sl:Nat}{Q:Option (Value×Nat)->Shared->Prop}(ho:s.heap.get? S=some o) (hd:o.data=.set es ep t) (hf:t.fits es.size=true) (b:w.params.followText "set-order" = false)
 (c:(!t.plain&&decide (es.size > 1))=false) (l:t.led=true) (h:Q (match es[K0s t.place sl]?,t.place[K0s t.place sl]? with|some (_,x),some j=>some (x,j+1)|_,_=>none) s):wpAny (model P w) A (K8a S sl i ep) Q E s:=by
 unfold K8a K9q
 refine K1 (K3u ho hd hf (K1 (K1 (K3c (K8 ?_)))))
 dsimp only
 rw [show (model P w).w.params.followText "set-order" = false from b,if_neg .(1)]
 rw [if_neg (by show ¬ ((!t.plain&&decide (es.size > 1))=true);rw [c];decide)]
 refine K1 ?_
 show wpAny _ _ (if (!t.led&&!es.isEmpty)=true then _ else _) _ _ _
 rw [if_neg (by rw [l];simp)]
 exact K8 (K8 h)
theorem zq4 {e:Int×Value}{Q:Option Value->Shared->Prop}(ho:s.heap.get? S=some o) (hd:o.data=.set es ep t) (hf:t.fits es.size=true) (hr:Rise t.place) (hI:s.heap.get? I=some (z6j f i S es.size ep)) (st:Stand w S es ep t s.heap i f ord) (he:ord[i]?=some e) (hSI:S≠I)
 (hQ:∀h' f',K39 I s.heap h'->h'.get? I=some (z6j f' (i+1) S es.size ep)->Stand w S es ep t h' (i+1) f' ord->(∀T,f'=.ref T->f=.ref T)->Q (some e.2) { s with heap:=h' }):wpAny (model P w) A (pyNext (.ref I)) Q E s:=by
 have hT:s.TypeIs (.ref I) "set_iterator":=⟨_,hI,rfl⟩
 unfold pyNext
 refine K1 (wpAny_attempt (K43 (name:=K4v "__next__") hT slot_si_next (K2i slot_si_next hT z2o ?_ (z2N _))))
 show wpAny _ _ (fieldsOf (.ref I) >>= _) _ _ s
 refine K1 (wpAny_fieldsOf hI rfl ?_)
 show wpAny _ _ (setEntries S >>= _) _ _ s
 refine K1 (K6f ho hd hf ?_)
 rw [if_neg .(e)]
 have upd:∀(h0:Heap) (vs:Array Value) (j:Nat) (v:Value),h0.get? I=some { cls:=.type "set_iterator",data:=.fields vs }->(h0.update I (K7l (·.setIfInBounds j v))).get? I=some { cls:=.type "set_iterator",data:=.fields (vs.setIfInBounds j v) }:=λh0 vs j v e=>by
  have:=K3j (K7l (·.setIfInBounds j v)) e (K5z (K5c rfl _))
  exact this
 have fin:∀(f':Value) (j:Nat) (R:Z1d->Shared->Prop) (R2:Value->Shared->Prop),(∀h',K39 I s.heap h'->h'.get? I=some (z6j f' (i+1) S es.size ep)->R (.done (.ret e.2)) { s with heap:=h' }) ->
  wpAny (model P w) A.in1 (setField (.ref I) 0 f' >>= λ_=>setField (.ref I) 1 (rawInt ((i:Int)+1)) >>= λ_=>ret e.2) R R2 s:=λf' j R R2 q=>by
  have u1:=upd s.heap _ 0 f' hI
  refine K1 (K3f hI rfl .(e) (K1 (K3f u1 rfl .(e) (K8 (q _ ((K1z ..).trans (K1z ..)) ?_)))))
  rw [upd _ _ 1 _ u1]
  simp [rawInt]
 cases st with
 | txt b =>
  show wpAny _ _ (K8a S (0:Int).toNat (i:Int).toNat (ep:Int).toNat >>= _) _ _ _
  rw [K0l,K0l]
  refine K1 (z7F ho hd hf b ?_)
  rw [← K3h,he]
  exact fin (rawInt 0) 0 _ _ λh' sb q=>⟨_,rfl,K8 (hQ h' _ sb q (.txt b) λT z=>by cases z)⟩
 | slo sl b c l e2 =>
  have hi:i<es.size:=by simpa using (K2.mp he).1
  have he2:es[i]?=some e:=by rw [← K3h];exact he
  have sz:t.place.size=es.size:=by
   unfold K42.fits at hf
   simp at hf
   exact hf.1
  have hp:t.place[i]?=some (t.place[i]' .(0)):=K1g .(0)
  show wpAny _ _ (K8a S (sl:Int).toNat (i:Int).toNat (ep:Int).toNat >>= _) _ _ _
  rw [K0l,K0l,K0l]
  refine K1 (z6I ho hd hf b c l ?_)
  rw [e2,he2,hp]
  refine fin (rawInt ((t.place[i]' .(0)+1:Nat):Int)) 0 _ _ λh' sb q=>⟨_,rfl,K8 (hQ h' _ sb q (.slo _ b c l (z81 hr hp)) λT z=>by cases z)⟩
 | drw T pl b hT hp =>
  obtain ⟨oT,nT,gT,dT⟩:=hT
  have hb:∀j∈pl,j<es.size:=λj hj=>by simpa using hp.mem_iff.mp hj
  rw [z4d hb] at he
  cases hpi:pl[i]? with
  | none=>rw [hpi] at he;cases he
  | some j =>
   rw [hpi] at he
   have hej:es[j]?=some e:=he
   have hTI:T≠I:=λz=>by
    subst z
    rw [hI] at gT
    cases gT
    cases dT
   show wpAny _ _ (seqItems? (.ref T) >>= _) _ _ _
   refine K1 (wpAny_seqItems gT dT ?_)
   dsimp only
   rw [K0l,show ((pl.map λ(j:Nat)=>rawInt j).toArray)[i]?=some (rawInt j) by simp [hpi]]
   show wpAny _ _ (setNextDrawn S (j:Int).toNat (ep:Int).toNat >>= _) _ _ _
   rw [K0l,K0l]
   unfold setNextDrawn
   refine K1 (K1 (K3u ho hd hf ?_))
   dsimp only
   rw [if_neg .(e),hej]
   refine K8 ?_
   have u1:=upd s.heap _ 1 (rawInt ((i:Int)+1)) hI
   refine K1 (K3f hI rfl .(e) (K8 ⟨_,rfl,K8 (hQ _ (.ref T) (K1z ..) ?_ (.drw T pl b ⟨oT,nT,?_,dT⟩ hp) λ_ z=>z)⟩))
   ·rw [u1];simp [rawInt]
   ·rw [K2n _ _ (K34 hTI)];exact gT
theorem zp3 {Q:Option Value->Shared->Prop}(hh:A.handled=none) (ho:s.heap.get? S=some o) (hd:o.data=.set es ep t) (hf:t.fits es.size=true) (hI:s.heap.get? I=some (z6j f es.size S es.size ep)) (st:Stand w S es ep t s.heap es.size f ord)
 (hQ:∀h',Heap.ExtBut I s.heap h'->Q none { s with heap:=h' }):wpAny (model P w) A (pyNext (.ref I)) Q E s:=by
 have hT:s.TypeIs (.ref I) "set_iterator":=⟨_,hI,rfl⟩
 have hl:ord.length=es.size:=by rw [st.perm.length_eq,K19]
 unfold pyNext
 refine K1 (wpAny_attempt (K43 (name:=K4v "__next__") hT slot_si_next (K2i slot_si_next hT z2o ?_ (z2N _))))
 show wpAny _ _ (fieldsOf (.ref I) >>= _) _ _ s
 refine K1 (wpAny_fieldsOf hI rfl ?_)
 show wpAny _ _ (setEntries S >>= _) _ _ s
 refine K1 (K6f ho hd hf ?_)
 rw [if_neg .(e)]
 have stop:∀(h1:Heap) (Z:Z1d->Shared->Prop),Heap.ExtBut I s.heap h1->wpAny (model P w) A.in1 (newExc (.type "StopIteration") [] >>= λx=>(raiseNew x:Sem Z1d)) Z (λe s'=>wpAny (model P w) A (do let __do_lift ← isInstance e (K44 "StopIteration");if __do_lift=true then pure none else throw e) Q E s') { s with heap:=h1 }:=λh1 Z eb=>by
  refine K1 ?_
  simp only [newExc,newTuple]
  refine K1 (K1f ?_ (by size_fits))
  refine K1 (m:=firstArgMember _ _) (Z0v (a:=K3w) (by first|rfl|(simp only [firstArgMember];rfl)) ?_)
  refine K1f ?_ (by size_fits)
  simp only [raiseNew]
  refine K1 (wpAny_handled ?_)
  rw [show A.in1.handled=none by simp [hh]]
  refine K1 (K8 (wpAny_throw ?_))
  refine K1 (wpAny_isInstance (T:="StopIteration") (b:=true) ⟨_,K0a _ rfl,rfl⟩ isSubtype_stop ?_)
  exact K8 (hQ _ ((eb.push _).push _))
 cases st with
 | txt b =>
  show wpAny _ _ (K8a S (0:Int).toNat (es.size:Int).toNat (ep:Int).toNat >>= _) _ _ _
  rw [K0l,K0l]
  refine K1 (z7F ho hd hf b ?_)
  rw [← K3h,K15 .(0)]
  exact K1 (K3f hI rfl .(e) (stop _ _ (K1z ..).extBut))
 | slo sl b c l e2 =>
  show wpAny _ _ (K8a S (sl:Int).toNat (es.size:Int).toNat (ep:Int).toNat >>= _) _ _ _
  rw [K0l,K0l,K0l]
  refine K1 (z6I ho hd hf b c l ?_)
  rw [e2,Array.getElem?_eq_none (K05 _)]
  exact K1 (K3f hI rfl .(e) (stop _ _ (K1z ..).extBut))
 | drw T pl b hT hp =>
  obtain ⟨oT,nT,gT,dT⟩:=hT
  have lp:pl.length=es.size:=by rw [hp.length_eq,K2b]
  show wpAny _ _ (seqItems? (.ref T) >>= _) _ _ _
  refine K1 (wpAny_seqItems gT dT ?_)
  dsimp only
  rw [K0l,show ((pl.map λ(j:Nat)=>rawInt j).toArray)[es.size]?=none by simp [lp]]
  have u1:(s.heap.update I (K7l (·.setIfInBounds 0 (rawInt 0)))).get? I=some { cls:=.type "set_iterator",data:=.fields (#[.ref T,rawInt es.size,.ref S,rawInt es.size,rawInt ep].setIfInBounds 0 (rawInt 0)) } :=
   K3j _ hI (K5z (K5c rfl _))
  exact K1 (K3f hI rfl .(e) (K1 (K3f u1 rfl .(e) (stop _ _ ((K1z ..).trans (K1z ..)).extBut))))
end
theorem zg4 {P:K0m}{w:World}{A:Around}{S I:Addr}{es:Array (Int×Value)}{ep:Nat}{t:K42}{ord:List (Int×Value)}{o:Obj}{tl:List Addr}(hh:A.handled=none) (hd:o.data=.set es ep t) (hf:t.fits es.size=true) (hr:Rise t.place) (hSI:S≠I) (hl:ord.length=es.size) (htl:I∉tl) :
 Walks P w A I (I::S::tl) [I] es.size (λi v=>∃e,ord[i]?=some e/\v=e.2) (λi h=>h.get? S=some o/\∃f,(∀T,f=.ref T->T∈tl)/\h.get? I=some (z6j f i S es.size ep)/\Stand w S es ep t h i f ord) where
 sub:=λb hb=>by simp at hb;simp [hb]
 frame:=λi h h' st hk=>by
  obtain ⟨q1,f,q2,q3,q4⟩:=st
  refine ⟨hk S .(e) _ q1,f,q2,hk I .(e) _ q3,?_⟩
  cases q4 with
  | txt b=>exact .txt b
  | slo sl b c l e2=>exact .slo sl b c l e2
  | drw T pl b hT hp =>
   obtain ⟨oT,nT,gT,dT⟩:=hT
   exact .drw T pl b ⟨oT,nT,hk T (by simp [q2 T rfl]) _ gT,dT⟩ hp
 item:=λi s Q E hi st hQ=>by
  obtain ⟨q1,f,q2,q3,q4⟩:=st
  have he:ord[i]?=some (ord[i]' .(0)):=K6 .(0)
  refine zq4 q1 hd hf hr q3 q4 he hSI λh' f' sb g st' tt=>?_
  refine hQ _ h' s.toks ⟨_,he,rfl⟩ ⟨?_,f',λT z=>q2 T (tt T z),g,st'⟩ λb ob hb e=>?_
  ·rw [sb.2 S hSI];exact q1
  ·rw [sb.2 b (λz=>hb (by simp [z]))];exact e
 done:=λs Q E st hQ=>by
  obtain ⟨q1,f,q2,q3,q4⟩:=st
  exact zp3 hh q1 hd hf q3 q4 λh' eb=>hQ h' s.toks λb ob hb e=>eb b ob (λz=>hb (by simp [z])) e
 self:=λi s Q E st hQ=>by
  obtain ⟨q1,f,q2,q3,q4⟩:=st
  have hT:s.TypeIs (.ref I) "set_iterator":=⟨_,q3,rfl⟩
  refine wpAny_pyIter_slot hT z2R (K2i z2R hT z4q ?_ (z5g _))
  show wpAny _ _ (ret (.ref I)) _ _ s
  exact K8 ⟨_,rfl,"set_iterator",_,hT,slot_si_next.lookup,hQ⟩
section
variable {P:K0m}{w:World}{A:Around}{E:Value->Shared->Prop}{s:Shared}{S:Addr}{es:Array (Int×Value)}{ep:Nat}{t:K42}{o:Obj}
theorem zk0 {Q:Value->Shared->Prop}(ho:s.heap.get? S=some o) (hc:o.ExactSet) (hd:o.data=.set es ep t) (hf:t.fits es.size=true) (hr:Rise t.place) (hb:es.size<scanBound) (hl:t.led=true∨w.params.followText "set-order" = true)
 (hQ:∀(h':Heap) (d':Drawn) (I:Addr) (f:Value) (ord:List (Int×Value)) (tl:List Addr),(∀b ob,s.heap.get? b=some ob->h'.get? b=some ob)->.(3)≤I->h'.get? I=some (z6j f 0 S es.size ep)->(∀T,f=.ref T->T∈tl)->(∀T∈tl,.(3)≤T/\T<h'.objs.size/\T≠I)->Stand w S es ep t h' 0 f ord->Q (.ref I) { s with heap:=h',drawn:=d' }) :
 wpAny (model P w) A (pyIter (.ref S)) Q E s:=by
 have hT:s.TypeIs (.ref S) "set":=⟨o,ho,hc.1⟩
 refine wpAny_pyIter_slot hT F.slot_set_iter (K2i F.slot_set_iter hT z5J ?_ (z6r _))
 unfold Builtin.«frozenset.__iter__» Builtin.Frozenset.slot0 slotArgs
 simp only [List.isEmpty_nil,Bool.not_true,K25,↓reduceIte,bind_assoc,K0u,bne_self_eq_false]
 unfold Builtin.Frozenset.addrOf Builtin.Frozenset.sizeOf
 refine K1 (K8 ?_)
 try dsimp only
 refine K1 (K8 ?_)
 refine K1 (K1 (K6f ho hd hf (K8 ?_)))
 unfold setDrawn K9q
 refine K1 (K1 (K3u ho hd hf (K1 (K1 (K3c (K8 (K8 ?_)))))))
 dsimp only
 have tailW:∀(h0:Heap) (d0:Drawn) (first:Value) (ord:List (Int×Value)) (tl:List Addr),(∀b ob,s.heap.get? b=some ob->h0.get? b=some ob)->.(3)≤h0.objs.size->(∀T,first=.ref T->T∈tl)->(∀T∈tl,.(3)≤T/\T<h0.objs.size) ->
  (∀h',(∀b ob,h0.get? b=some ob->h'.get? b=some ob)->Stand w S es ep t h' 0 first ord) ->
  wpAny (model P w) A.in1 (setEpoch S >>= λe=>newFields "set_iterator" [first,rawInt 0,.ref S,rawInt es.size,rawInt e] >>= λv=>ret v) (λfin s'=>∃v,fin=.done (.ret v)/\∃T' r,s'.TypeIs v T'/\K6v (K44 T') (K4v "__next__")=pure (some r)/\Q v s') E { s with heap:=h0,drawn:=d0 }:=λh0 d0 first ord tl k1 k2 k3 k4 k5=>by
  refine K1 (wpAny_setEpoch_of (s:={ s with heap:=h0,drawn:=d0 }) (k1 S o ho) hd hf ?_)
  refine K1 (K1f (K8 ⟨_,rfl,"set_iterator",_,⟨_,K0a _ rfl,rfl⟩,slot_si_next.lookup,?_⟩))
  refine hQ _ d0 h0.objs.size first ord tl (λb ob e=>K7 _ (k1 b ob e)) k2 (K0a _ rfl) k3 (λT hT=>?_) (k5 _ λb ob e=>K7 _ e)
  obtain ⟨z1,z2⟩:=k4 T hT
  exact ⟨z1,by rw [K24];exact K3r z2,K0n z2⟩
 cases hb':w.params.followText "set-order" with
 | true =>
  rw [show (model P w).w.params.followText "set-order" = true from hb',if_neg .(e)]
  refine K1 (K8 ?_)
  exact tailW s.heap s.drawn (rawInt 0) _ [] (λ_ _ e=>e) (K05 _) (λT z=>by cases z) (λT z=>by cases z) λh' _=>.txt hb'
 | false =>
  rw [show (model P w).w.params.followText "set-order" = false from hb']
  have led:t.led=true:=by
   rcases hl with hl|hl
   ·exact hl
   ·rw [hb'] at hl;cases hl
  show wpAny _ _ (if (!false&&(!t.plain&&decide (es.size > 1)))=true then _ else _) _ _ _
  rw [K96,Bool.true_and]
  cases hdr:(!t.plain&&decide (es.size > 1)) with
  | false =>
   rw [if_neg .(1)]
   refine K1 (K8 ?_)
   exact tailW s.heap s.drawn (rawInt 0) _ [] (λ_ _ e=>e) (K05 _) (λT z=>by cases z) (λT z=>by cases z) λh' _=>.slo 0 hb' hdr led (z7Y hr)
  | true =>
   rw [if_pos rfl]
   refine K1 (z4c es.size (K00 es.size) s _ .(e) λys d' pm=>?_)
   have ly:(ys.map λ(i:Nat)=>rawInt i).length≤sizeLine:=by
    rw [K02,pm.length_eq,K2b]
    exact K5x hb
   refine K1 (wpAny_newTuple ?_ ly)
   refine tailW (s.heap.push { cls:=.type "tuple",data:=.seq (ys.map λ(i:Nat)=>rawInt i).toArray }) d' (.ref .(3)) _ [.(3)] (λb ob e=>K7 _ e) (by rw [K24];exact K5e _)
    (λT z=>by cases z;exact K5a.mpr rfl) (λT z=>?_) λh' k=>.drw .(3) ys hb' ⟨_,_,k _ _ (K0a _ rfl),rfl⟩ pm
   have:=K5a.mp z
   subst this
   exact ⟨K05 _,by rw [K24];exact K81 _⟩
theorem z6a {Q:List Value->Shared->Prop}(hh:A.handled=none) (ho:s.heap.get? S=some o) (hc:o.ExactSet) (hd:o.data=.set es ep t) (hf:t.fits es.size=true) (hr:Rise t.place) (hb:es.size<scanBound) (hl:t.led=true∨w.params.followText "set-order" = true)
 (hQ:∀(h':Heap) (d':Drawn) (tk:Nat) (ord:List (Int×Value)),(∀b ob,s.heap.get? b=some ob->h'.get? b=some ob)->.(3)≤h'.objs.size->ord.Perm es.toList->Q (ord.map (·.2)) { s with heap:=h',drawn:=d',toks:=tk }) :
 wpAny (model P w) A (Z06 (.ref S)) Q E s:=by
 have hS:S<s.heap.objs.size:=K08 ho
 unfold Z06
 refine K1 (K5t (K28 F.entry_proto_collect ?_))
 rw [K1t F.plain_proto_collect _]
 show wpAny _ A.in1 (Z05 [] >>= λl=>again (.builtin "list.__iadd__" ⟨[l,.ref S],[]⟩)) _ _ s
 refine K1 (K1f (K8 ⟨K52 K2v _,K28 F.entry_list_iadd ?_⟩))
 rw [K1t K2v _]
 show wpAny _ A.in1 (K3a (.ref .(3)) (.ref S) (.ref .(3))) _ _ _
 unfold K3a
 have g1:(s.heap.push { cls:=.type "list",data:=.seq ([]:List Value).toArray }).get? S=some o:=K7 _ ho
 have tS:K7i { s with heap:=s.heap.push { cls:=.type "list",data:=.seq ([]:List Value).toArray } } (.ref S) "set":=⟨o,g1,hc.1⟩
 refine K1 (K5q tS ?_)
 have n1:K7m (.ref .(3)) (.ref S)=false:=by
  simp only [K7m]
  exact beq_eq_false_iff_ne.mpr (K2k hS)
 rw [if_neg (by rw [n1];decide)]
 refine K1 (zk0 (s:={ s with heap:=s.heap.push { cls:=.type "list",data:=.seq ([]:List Value).toArray } }) g1 hc hd hf hr hb hl λh1 d1 I f ord tl k1 k2 k3 k4 k5 st=>?_)
 have g2:h1.get? S=some o:=k1 S o g1
 have gL:h1.get? .(3)=some { cls:=.type "list",data:=.seq ([]:List Value).toArray }:=k1 _ _ (K0a _ rfl)
 have tS2:K7i { s with heap:=h1,drawn:=d1 } (.ref S) "set":=⟨o,g2,hc.1⟩
 refine K1 (K1w ?_)
 unfold Builtin.List.listLengthHint
 refine K1 (K8t tS2 F.slot_set_len.lookup ?_)
 have sp:splitId "set.__len__" = some ("set","__len__"):=by decide +kernel
 dsimp only
 rw [sp]
 dsimp only
 refine K1 (wpAny_isInstance (b:=true) tS2 (by rw [K5u];kernel_rfl) ?_)
 rw [if_neg .(1),if_pos .(2)]
 refine K1 (K5q tS2 (K8 ?_))
 rw [if_pos .(2)]
 have u1:=get?_update_seq (c:="list") (xs:=([]:List Value).toArray) (n:=0) gL (·.push .none)
 have u2:=get?_update_seq u1 (·.pop)
 refine K1 (K6u ?_)
 unfold Builtin.List.listTouch
 refine K1 (K1 (listUpdate_at (s:={ s with heap:=h1,drawn:=d1 }) gL rfl (listUpdate_at (s:={ s with heap:=h1.update .(3) (K58 (·.push .none)),drawn:=d1 }) u1 rfl ?_)))
 generalize hh2:(h1.update .(3) (K58 (·.push .none))).update .(3) (K58 (·.pop))=h2 at u2 ⊢
 have keep2:∀b ob,b≠.(3)->h1.get? b=some ob->h2.get? b=some ob:=λb ob hb e=>by
  rw [← hh2,K2n _ _ (K34 hb),K2n _ _ (K34 hb)]
  exact e
 have hIs:.(3)+1≤I:=by rw [K24] at k2;exact k2
 have hSI:S≠I:=K0n (K0j hS (Z0e hIs))
 have lo:ord.length=es.size:=by rw [st.perm.length_eq,K19]
 have W:=zg4 (P:=P) (w:=w) (A:=A.in1) (S:=S) (I:=I) (ord:=ord) (o:=o) (tl:=tl) (by simp [hh]) hd hf hr hSI lo (λz=>(k5 I z).2.2 rfl)
 have hLf:.(3)∉I::S::tl:=by
  simp only [K0x,not_or]
  refine ⟨K0n hIs,K2k hS,λz=>?_⟩
  have:=(k5 _ z).1
  rw [K24] at this
  exact K2j _ this
 have st0:(λi (h:Heap)=>h.get? S=some o/\∃f,(∀T,f=.ref T->T∈tl)/\h.get? I=some (z6j f i S es.size ep)/\Stand w S es ep t h i f ord) 0 h2:=by
  refine ⟨keep2 S o (K0n hS) g2,f,k4,keep2 I _ (K2k hIs) k3,?_⟩
  cases st with
  | txt b=>exact .txt b
  | slo sl b c l e2=>exact .slo sl b c l e2
  | drw T pl b hT hp =>
   obtain ⟨oT,nT,gT,dT⟩:=hT
   refine .drw T pl b ⟨oT,nT,keep2 T oT (λz=>?_) gT,dT⟩ hp
   have:=(k5 T (k4 T rfl)).1
   rw [K24,z] at this
   exact K2j _ this
 refine K8 ⟨K52 F.plain_extend_loop _,codeAny_extend_loopS W.toS (K5x hb) s.heap.objs.size hLf _ es.size 0 { s with heap:=h2,drawn:=d1 } #[] 2 .(0) (K4r _) st0 (by simpa [seqObj] using u2) (K7f.nil _) λs' acc c' hm gS' hacc=>?_⟩
 show wpAny _ A (load .(3) >>= _) _ _ s'
 refine K1 (K8c gS' (K8 ?_))
 have ea:acc.toList=ord.map (·.2):=by
  refine K3q λj=>?_
  rw [K07,K3h]
  cases hj:acc[j]? with
  | none =>
   have h1:=Array.getElem?_eq_none_iff.mp hj
   rw [hacc.1] at h1
   rw [K15 .(0)]
   rfl
  | some v =>
   obtain ⟨e,h1,h2⟩:=hacc.2 j v hj
   rw [h1,h2]
   rfl
 rw [ea]
 obtain ⟨h',g',d',tk',os'⟩:=s'
 have e1:g'=s.gens:=hm.gens
 have e2:d'=d1:=hm.drawn
 have e3:os'=s.os:=hm.os
 subst e1;subst e2;subst e3
 refine hQ h' d' tk' ord (λb ob e=>?_) ?_ st.perm
 ·have hb2:b≠s.heap.objs.size:=K0n (K08 e)
  refine hm.heap b ob ?_ (keep2 b ob hb2 (k1 b ob (K7 _ e)))
  simp only [K0x,K5a,K7w,or_false,not_or]
  exact ⟨hb2,K0n (K0j (K08 e) (Z0e hIs))⟩
 ·exact K2l (K08 gS')
end
theorem zA6 {k:Key}{u:Value}(r:RelV (kV k) u):z1k k u=true:=by
 cases k with
 | inl i=>obtain ⟨t,rfl⟩:=r;exact z5c i t
 | inr x=>obtain ⟨t,rfl⟩:=r;exact z5K x t
theorem z5R:∀{ks:List Key}{us:List Value},Vals (ks.map kV) us->∀(i:Nat) u,us[i]?=some u->∃k,ks[i]?=some k/\z1k k u=true
 | [],_,h,i,u,e=>by cases h;simp at e
 | k::ks,_,.cons h1 h2,0,u,e=>by simp at e;subst e;exact ⟨k,rfl,zA6 h1⟩
 | k::ks,_,.cons h1 h2,i+1,u,e=>by
  obtain ⟨k',q1,q2⟩:=z5R h2 i u (by simpa using e)
  exact ⟨k',by simpa using q1,q2⟩
theorem z88 (ks:List Key):(K00 ks.length).map (λi=>(ks[i]?).getD (.inl 0))=ks:=by
 refine K3q λi=>?_
 rw [K07]
 by_cases h:i<ks.length
 ·rw [K1n h,K6 h]
  simp [K6 h]
 ·rw [K15 (by simpa using h),K15 .(0)]
  rfl
section
variable {X:Cx}
theorem z8v (hc:X.calm=true):z2q X (.type "set") (λxs H Q=>∃l ks,xs=[.ref l]/\(SqL X.K H l (ks.map kV)∨SqT X.K H l (ks.map kV))/\ks.length+1<scanBound/\∀q,H q=none->Q (.ref q) (upd H q (.set (dedK ks)))):=by
 intro pins s σ H xs us Q I r h
 obtain ⟨l,ks,rfl,hq,hb,q⟩:=h
 obtain ⟨u,rfl,ru⟩:=vals1 r
 cases ru
 have hh:=I.ok.hd hc
 have go:∀{its:List Value} {T:String},T = "list"∨T = "tuple"->Vals (ks.map kV) its->(∃o,s.heap.get? l=some o/\o.cls=.type T/\∃n,o.data=.seq its.toArray n)->wpAny .(4) X.A (call (.type "set") [.ref l]) (EP X pins σ Q) X.xe s:=λ{its T} hT rv hl=>by
  have le:its.length=ks.length:=by rw [← rv.length,K02]
  refine z9h (key:=λi=>(ks[i]?).getD (.inl 0)) hT hh hl (λi v e=>?_) (by rw [K06,le];exact hb) λh' tk S2 kp=>?_
  ·obtain ⟨k,e1,e2⟩:=z5R rv i v (by simpa using e)
   rw [e1]
   exact e2
  ·rw [show its.toArray.size=ks.length by rw [K06,le],z88] at S2
   exact ⟨.ref .(3),_,I.laid (t':=tk) (o:=.set (dedK ks)) kp (K05 _) S2,rfl,q _ I.fresh⟩
 rcases hq with hq|hq
 ·obtain ⟨its,r',pl,hz⟩:=I.list hq
  exact go (.inl rfl) r' pl.isList
 ·obtain ⟨its,r',pl,hz⟩:=I.tuple hq
  exact go (.inr rfl) r' pl
theorem zr3 {pins:List .(f)}{σ:L2.St}{H:Hp}{s:Shared}{a:Addr}{ks:List Key}(I:L2.Inv X pins σ H s) (h:H a=some (.set ks)):SetAt X.w s.heap a ks:=I.hok a _ h
theorem z9u:∀{ns:List Int}{l:List (Int×Value)}{w:World}{ks:List Key},ks=ns.map K3y->Paired (KE w) ks l->K5r (l.map (·.2)) ns
 | [],l,w,ks,e,h=>by subst e;cases h;exact .nil
 | n::ns,l,w,ks,e,h=>by
  subst e
  cases h with
  | cons h1 h2 =>
   rcases y0 h1.1 with ⟨i,t,e1,e2⟩|⟨x,t,e1,e2⟩
   ·cases e1
    rw [K0q,e2]
    exact .cons _ t (z9u rfl h2)
   ·cases e1
theorem zg5 {ns:List Int}:∀{ks:List Key},ks.Perm (ns.map K3y)->∃ms:List Int,ks=ms.map K3y/\ms.Perm ns:=λ{ks} p=>by
 have:∀k∈ks,∃i:Int,k=K3y i:=λk hk=>by
  obtain ⟨i,_,e⟩:=K09.mp (p.mem_iff.mp hk)
  exact ⟨i,e.symm⟩
 have e:ks=(ks.filterMap λk=>match k with|.inl i=>some i|.inr _=>none).map K3y:=by
  clear p
  induction ks with
  | nil=>rfl
  | cons k ks ih =>
   obtain ⟨i,rfl⟩:=this k K1d
   rw [K20]
   dsimp only
   rw [K0q,← ih λk hk=>this k (K11 _ hk)]
 refine ⟨_,e,?_⟩
 have q:=p.filterMap λk=>match k with|.inl i=>some i|.inr _=>none
 refine q.trans ?_
 rw [K6w]
 have:(List.filterMap ((λk:Key=>match k with|.inl i=>some i|.inr _=>none) ∘ K3y) ns)=ns:=by
  induction ns with
  | nil=>rfl
  | cons n ns ih=>simp [Z01]
 rw [this]
theorem z5V (hc:X.calm=true):z2q X (.builtin "sorted") (λxs H Q=>∃a ns,xs=[.ref a]/\H a=some (.set (ns.map K3y))/\ns.length<64/\∀q,H q=none->Q (.ref q) (upd H q (.lst ((sortI ns).map V.int)))):=by
 intro pins s σ H xs us Q I r h
 obtain ⟨a,ns,rfl,hH,h64,q⟩:=h
 obtain ⟨u,rfl,ru⟩:=vals1 r
 cases ru
 obtain ⟨o,es,ep,t,ks',h1,h2,h3,h4,h5,h6,h7,h8,h9,h0⟩:=zr3 I hH
 refine K73 kind_sorted plain_sorted entry_sorted (args_sorted1 _) ?_
 unfold Builtin.«sorted»
 refine K1 (m:=checkCount "sorted" 1 1 _) (K8 ?_)
 refine K1 (z6a (by simp [I.ok.hd hc]) h1 h2 h3 h8 h9 h7 h0 λh' d' tk ord kp sz pm=>?_)
 obtain ⟨k2,p1,p2⟩:=z1Z pm h4
 obtain ⟨ms,rfl,pm2⟩:=zg5 (p1.trans h5)
 have ia:=z9u rfl p2
 have l1:(ord.map (·.2)).length=ns.length:=by rw [← pm2.length_eq,K02,← K4g p2,K02]
 refine K1 (wpAny_newList ?_ (by rw [l1];exact K2l (K0j h64 .(1))))
 have gL:(h'.push (seqObj "list" (ord.map (·.2)).toArray 0)).get? h'.objs.size=some (seqObj "list" (ord.map (·.2)).toArray 0):=K0a _ rfl
 refine K1 (K1w (K2i slot_list_sort ⟨_,gL,rfl⟩ entry_list_sort (list_sort_tree gL ia (by rw [l1];exact h64) λout ns' a1 a2 a3=>⟨_,rfl,?_⟩) (args_list_sort _)))
 refine K8 ⟨_,rfl,?_⟩
 obtain ⟨e,ge⟩:=sortedHeap_at (out:=out) gL
 have es':ns'=sortI ns:=z4x (a2.trans pm2) a3
 subst es'
 have un:∀b ob,s.heap.get? b=some ob->(sortedHeap (h'.push (seqObj "list" (ord.map (·.2)).toArray 0)) h'.objs.size (ord.map (·.2)) out).get? b=some ob:=λb ob eb=>by
  have lt:=K08 (kp b ob eb)
  rw [sortedHeap_old (K0n lt) (by rw [K24];exact K3r lt)]
  exact K7 _ (kp b ob eb)
 have ho:=I.hok.laid (a:=h'.objs.size) (o:=.lst ((sortI ns).map V.int)) un sz ⟨by rw [K02,(sortI_perm ns).length_eq];exact K2l (K0j h64 .(1)),out.toList,e,z4O a1,ge⟩
 exact ⟨.ref h'.objs.size,_,I.call' (s':={ s with heap:=_,drawn:=d',toks:=tk }) (ch:=[]) rfl (Un.laid un sz (I.hok.fresh sz)) ho I.bare (λb z=>absurd z .(e)),rfl,q _ (I.hok.fresh sz)⟩
end
section
variable {P:K0m}{w:World}{A:Around}{E:Value->Shared->Prop}{s:Shared}
end
def keyD:D->Option Key
 | .int i=>some (.inl i)
 | .str x=>some (.inr x)
 | _=>none
def z4s:List D->Option (List Key)
 | []=>some []
 | d::r=>match keyD d,z4s r with
  | some k,some ks=>some (k::ks)
  | _,_=>none
theorem zw8 {K:K0}{ρ:List Addr}{H:Hp}{d:D}{k:Key}{v:V}(e:keyD d=some k) (r:RD K ρ H d v):v=kV k:=by
 cases d<;>first|(simp only [keyD] at e;cases e;done)|skip
 ·simp only [keyD,K7a] at e;subst e;simp only [RD] at r;exact r
 ·simp only [keyD,K7a] at e;subst e;simp only [RD] at r;exact r
theorem z7c {K:K0}{ρ:List Addr}{H:Hp}:∀{ds:List D}{ks:List Key}{vs:List V},z4s ds=some ks->RDs K ρ H ds vs->vs=ks.map kV
 | [],ks,vs,e,r=>by simp only [RDs] at r;cases e;subst r;rfl
 | d::ds,ks,vs,e,r=>by
  simp only [RDs] at r
  obtain ⟨v,r2,rfl,h1,h2⟩:=r
  rw [z4s] at e
  cases e1:keyD d with
  | none=>rw [e1] at e;cases e
  | some k =>
   rw [e1] at e
   cases e2:z4s ds with
   | none=>rw [e2] at e;cases e
   | some ks' =>
    rw [e2] at e
    cases e
    rw [zw8 e1 h1,z7c e2 h2]
    rfl
def getS (n:Nat):M (List Key):=λh=>match h[n]? with
 | some (.set ks)=>.ok ks h
 | _=>.bad
def newSet (ks:List Key):M D:=λh=>.ok .(r) (h++[.set ks])
def z3g:List D->M D
 | [x]=>do
  let xs ← seqD x
  match z4s xs with
  | some ks=>if ks.length+1<4096 then newSet (dedK ks) else bad
  | none=>bad
 | _=>bad
def z5M:List Key->Option (List Int)
 | []=>some []
 | .inl i::r=>(z5M r).map (i::·)
 | .inr _::_=>none
theorem z6S:∀{ks:List Key}{ns:List Int},z5M ks=some ns->ks=ns.map K3y
 | [],ns,e=>by cases e;rfl
 | .inl i::r,ns,e=>by
  rw [z5M] at e
  obtain ⟨ms,e1,rfl⟩:=K16.mp e
  rw [z6S e1]
  rfl
 | .inr _::_,ns,e=>by rw [z5M] at e;cases e
def z1g:List D->M D
 | [.ref n]=>do
  let ks ← getS n
  match z5M ks with
  | some ns=>if ns.length<64 then newL ((sortI ns).map .int) else bad
  | none=>bad
 | _=>bad
section
variable {X:Cx}{EX:XX}{a o:Expr}{p pos apos cpos:Pos}{ma mo:G->M D}{mr:G->M (List D)}
theorem zd3 {K:K0}{ρ:List Addr}{h:AH}{H:Hp}{n:Nat}{q:Addr}{Z:List Key->List Addr->AH->Hp->Prop}(r:RH K ρ h H) (hq:ρ[n]?=some q) (f:Fin K EX ρ H Z (getS n h)):∃ks,H q=some (.set ks)/\Z ks ρ h H:=by
 unfold getS at f
 cases e:h[n]? with
 | none=>rw [e] at f;exact f.elim
 | some ob =>
  cases ob with
  | lst xs=>rw [e] at f;exact f.elim
  | dct=>rw [e] at f;exact f.elim
  | dK kvs=>rw [e] at f;exact f.elim
  | dF kvs=>rw [e] at f;exact f.elim
  | exc c=>rw [e] at f;exact f.elim
  | set ks =>
   rw [e] at f
   obtain ⟨a1,n1,o1⟩:=r.at e
   rw [hq] at n1;cases n1
   exact ⟨ks,o1,f ρ H .(6) .(8) r⟩
theorem z7K {K:K0}{ρ:List Addr}{h:AH}{H:Hp}{ks:List Key}{Q:VK}{q:Addr}(r:RH K ρ h H) (hq:H q=none) (f:FE K EX ρ H Q (newSet ks h)):Q (.ref q) (upd H q (.set ks)):=by
 refine f (ρ++[q]) _ (Pre.app _ _) (Ext.upd (.inl hq)) (r.pushS hq) (.ref q) ?_
 simp only [RD]
 exact ⟨q,rfl,by rw [← r.len];simp⟩
theorem zF3:AR X.K EX (λxs H Q=>∃l ks,xs=[.ref l]/\(SqL X.K H l (ks.map kV)∨SqT X.K H l (ks.map kV))/\ks.length+1<scanBound/\∀q,H q=none->Q (.ref q) (upd H q (.set (dedK ks)))) z3g:=by
 intro ρ h H ds vs Q r rd fin
 unfold z3g at fin
 split at fin
 ·rename_i x
  obtain ⟨v,rfl,rv⟩:=rds1 rd
  have f1:=Fin.bind fin
  cases e:seqD x h with
  | bad=>rw [e] at f1;exact f1.elim
  | err z hz=>exact (z3T e).elim
  | ok ys h1 =>
   obtain ⟨rfl,p,xs,rfl,hs,hd⟩:=z2i r rv e
   rw [e] at f1
   have f2:=f1 ρ H .(6) .(8) r
   dsimp only at f2
   cases e2:z4s ys with
   | none=>rw [e2] at f2;exact f2.elim
   | some ks =>
    rw [e2] at f2
    dsimp only at f2
    split at f2
    ·rename_i hl
     have ek:=z7c e2 hd
     subst ek
     exact ⟨p,ks,rfl,hs,hl,λq hq=>z7K r hq f2⟩
    ·exact f2.elim
 ·exact fin.elim
theorem zc6 (hc:X.calm=true) (hg:Gl X "set") (hm:X.mg "set" = none) (ha:SA X EX [a] mr) (he:K03 [a] X.env=[(false,eval a X.env)]:=by rfl):SE X EX (.Call (.Name "set" p) [a] [] pos) (Z8 z3g mr) :=
 z21 (z15 (z8v hc) hg hm .(2) ha.h .(1) .(1) he rfl) zF3
theorem z83:AR X.K EX (λxs H Q=>∃a ns,xs=[.ref a]/\H a=some (.set (ns.map K3y))/\ns.length<64/\∀q,H q=none->Q (.ref q) (upd H q (.lst ((sortI ns).map V.int)))) z1g:=by
 intro ρ h H ds vs Q r rd fin
 unfold z1g at fin
 split at fin
 ·rename_i n
  obtain ⟨v,rfl,rv⟩:=rds1 rd
  simp only [RD] at rv
  obtain ⟨q,rfl,hq⟩:=rv
  obtain ⟨ks,h1,f2⟩:=zd3 r hq (Fin.bind fin)
  cases e:z5M ks with
  | none=>rw [e] at f2;exact f2.elim
  | some ns =>
   rw [e] at f2
   dsimp only at f2
   split at f2
   ·rename_i hl
    refine ⟨q,ns,rfl,by rw [h1,z6S e],hl,λl hl2=>?_⟩
    unfold newL at f2
    split at f2
    ·refine f2 (ρ++[l]) _ (Pre.app _ _) (Ext.upd (.inl hl2)) (r.push hl2 ?_) (.ref l) ?_
     ·have:∀ms:List Int,RDs X.K ρ H (ms.map D.int) (ms.map V.int):=λms=>by
       induction ms with
       | nil=>exact RDs.nil
       | cons m ms ih=>exact RDs.cons .(t) ih
      exact this _
     ·simp only [RD]
      exact ⟨l,rfl,by rw [← r.len];simp⟩
    ·exact f2.elim
   ·exact f2.elim
 ·exact fin.elim
theorem z7P (hc:X.calm=true) (hg:Gl X "sorted") (hm:X.mg "sorted" = none) (ha:SA X EX [a] mr) (he:K03 [a] X.env=[(false,eval a X.env)]:=by rfl):SE X EX (.Call (.Name "sorted" p) [a] [] pos) (Z8 z1g mr) :=
 z21 (z0J (z5V hc) hg hm boot_sorted ha.h .(1) .(1) he rfl) z83
end
theorem zL3 {P:K0m}{w:World}{K:K0}{mg:Str->Option Value}{base:Heap}{x:Str}{st:Stmt}{f:Addr}{fd:K2q}{N ps:List Str}{k n:Nat}{mb:G->M Out}(F:Fun K x x st f fd) (S:FnScope N ps (j6 st)) (hb:Binds K fd ps []) (mx:mg x=.(r f)) (hn:ps.length=n)
 (body:∀(cdv:Value) (A:Around) (outer:List Env) (s:Shared) (H:Hp) (E:XK),K2y K cdv x=true->Room k (A.deeper (envOfC x (j6 st) .(3) f cdv)) ->
  SB (cxOf CX0 P w K mg base N x (j6 st) f cdv A outer s H E).nox EX0 (z0b st) mb):Fn P w K mg base (k+1) x n (runF N.length mb):=by
 refine ⟨f,fd,ps,?_,hb,F.kp,mx⟩
 obtain ⟨oc,od,kV,doc,pm,an,cdv,ct,osl,rfl,lk,hcd⟩:=F.ex
 refine zy9 lk hcd S (λvs H Q E h=>h.1.trans hn.symm) λA outer s H vs Q E hr h=>?_
 obtain ⟨hl,ρ,ds,h,rh,rd,fin⟩:=h
 refine ⟨_,(body cdv A outer s H E hcd hr).h.nox,ρ,z0D N.length ds,h,⟨z3h rd,rh⟩,?_⟩
 refine (Fin.bind fin).mono λo ρ1 h1 H1 p1 e1 r1 f1=>?_
 cases o with
 | nx γ=>exact λσ _=>FE.here (d:=.non) (h:=h1) f1 r1 .(t)
 | rt d=>exact λv rv=>f1 ρ1 H1 .(6) .(8) r1 v rv
 | bk γ=>exact (show False from f1).elim
 | ct γ=>exact (show False from f1).elim
section
variable {X:Cx}
end
section
variable {X:Cx}{EX:XX}
end
section
variable {X:Cx}{EX:XX}{a:Expr}{elts:List Expr}{kk:Nat}{p pos pt:Pos}{ma:G->M D}
def z4T (xs:List D):List D:=(K00 xs.length).map λ(i:Nat)=>.tup [.int i,(xs[i]?).getD .non]
theorem zq3 {xs:List D}{i:Nat}{d:D}(h:(z4T xs)[i]?=some d):∃x,xs[i]?=some x/\d=.tup [.int i,x]:=by
 unfold z4T at h
 rw [K07] at h
 obtain ⟨j,e1,e2⟩:=K16.mp h
 obtain ⟨h1,h2⟩:=K2.mp e1
 simp at h1 h2
 subst h2
 rw [K6 h1] at e2
 exact ⟨_,K6 h1,e2.symm⟩
end
noncomputable def z3e (src:Src) (g:D->G->M G) (mi:G->M Src) (g1:D->G->M G) (k:G->M Bool) (me:G->M D) (n0:Nat) (γ:G):List D->M Unit
 | []=>do
  let _ ← src.chk
  pure ()
 | d::r=>do
  let _ ← src.chk
  let γ1 ← g d γ
  let s1 ← mi γ1
  let _ ← z26 s1 g1 k me n0 γ1 s1.items
  z3e src g mi g1 k me n0 γ r
noncomputable def z9c (cap:List (Option Nat)) (mi:G->M Src) (g:D->G->M G) (mi1:G->M Src) (g1:D->G->M G) (k:G->M Bool) (me:G->M D):G->M D:=λγ=>do
 let src ← mi γ
 let n0 ← (λh=>.ok h.length (h++[.lst []]):M Nat)
 let _ ← z3e src g mi1 g1 k me n0 (capG cap γ) src.items
 pure (.ref n0)
section
variable {X:Cx}{EX:XX}{elt tg iter tg1 iter1:Expr}{ifs1:List Expr}{sc:Scope}{pos:Pos}{N':List Str}{cap:List (Option Nat)}{own own1:List Nat}{mi mi1:G->M Src}{g g1:D->G->M G}{k:G->M Bool}{me:G->M D}
theorem z8q (hc:X.calm=true) (hi1:∀s H fp xe,SI .(5) EX tg1 iter1 mi1) (hg1:∀s H fp xe,SGk .(5) EX tg1 own1 g1) (ht:∀s H fp xe,SCs .(5) EX ifs1 k)
 (he:∀s H fp xe,SE .(5) EX elt me) (hown1:∀j∈own1,cap[j]?=some none/\j∉own) (hs1:∀env x,K12 iter1 env x=pure x) :
 CmA X EX .(y) sc tg iter [] N' cap own mi g (λ_=>pure true) (.lst []) (λn0 γ1 K=>do let s1 ← mi1 γ1;let _ ← z26 s1 g1 k me n0 γ1 s1.items;K) (λsrc n0 γ=>z3e src g mi1 g1 k me n0 γ) :=
 ⟨⟨_,_,_,_,λD=>bIn (tI X.K EX mi1) (tGk X.K EX own1 g1) (tT X.K EX k) (bApp (tE X.K EX me) D),zf6,λρ H Dd=>⟨[],y8,RDs.nil⟩,
  λD s H fp xe=>zl1 (.inl ⟨_,_,_,_,rfl⟩) rfl (λ_=>rfl) hc (hi1 s H fp xe).h (λxe'=>(hg1 s H fp xe').h) (λxe'=>(ht s H fp xe').h) (λxe'=>z8K (he s H fp xe').h) (hs1 _),
  λnon hD=>zB2 (F1:=λs1 γ1=>z26 s1 g1 k me _ γ1) (λ_ _=>rfl) (λ_ _ _ _=>rfl) (λj hj=>⟨(hown1 j hj).2,non j (hown1 j hj).1⟩) λp=>zn3 (p _ _ hD)⟩,λ_ _ _=>rfl,λ_ _ _ _ _=>rfl⟩
end
end FT
namespace L2
theorem range_all {α:Type}(r:List α):(K00 r.length).filterMap (λm=>r[m]?)=r:=by
 have:=pick_run r.toArray 0 .(z)
 rw [K6w] at this
 have e:((λx=>r.toArray[x]?) ∘ λx=>0+x)=λm=>r[m]?:=by funext m;simp
 rw [e] at this
 rw [this]
 simp
section
variable {prog:K0m}{w:World}{A:Around}{E:Value->Shared->Prop}{s:Shared}
end
section
variable {X:Cx}{e st:Expr}{te ts:TE}{pos p2:Pos}
end
end L2
namespace FT
def eNeg (ma:G->M D):G->M D:=λγ=>do
 let x ← ma γ
 match x with
 | .int i=>pure (.int (-i))
 | _=>bad
section
variable {X:Cx}{EX:XX}{a b st:Expr}{pos p p2:Pos}{ma ms:G->M D}{mr:G->M (List D)}
theorem zK8 (ha:SE X EX a ma):SE X EX (.UnaryOp .USub a pos) (eNeg ma) :=
 ⟨PE.imp (zR4 zO1 ha.h) λσ H Q ⟨ρ,γ,h,rel,fin⟩=>⟨ρ,γ,h,rel,(Fin.bind fin).mono λx ρ1 h1 H1 p1 e1 r1 f1 v rv=>by
  cases x<;>first|exact (show False from f1).elim|skip
  rename_i t
  simp only [RD] at rv
  exact ⟨t,rv,FE.here (d:=.int (-t)) (h:=h1) (ρ:=ρ1) f1 r1 .(t)⟩⟩⟩
end
end FT
namespace L2
structure Fly (base:Heap) (l:List Env) (e T:Addr) (cls:Value) (h:Heap):Prop where
 stays:base.StaysIn h
 ne:base.get? e=none
 nT:base.get? T=none
 fr:h.FunFrames base l
 tr:∃a0 oe vs oT ts,h.get? e=some oe/\(oe.cls=cls/\vs[0]?=some a0)/\oe.data=.fields vs/\vs[1]?=.(r T)/\T≠e/\h.get? T=some oT/\oT.data=.fields ts/\ts[3]?=some .none
theorem Fly.of {base:Heap}{l:List Env}{e:Addr}{cls a0:Value}{h:Heap}(x:Heap.FlyingW base l e cls a0 h):∃T,Fly base l e T cls h:=by
 obtain ⟨f1,f2,f3,oe,vs,T,oT,ts,a1,a2,a3,a4,a5,a6,a7,a8,a9⟩:=x
 exact ⟨T,f1,f2,a5,f3,a0,oe,vs,oT,ts,a1,a2,a3,a4,a6,a7,a8,a9⟩
def bigB (h:Heap) (l:List Env) (e T:Addr):Heap:=K4c h (frs l++[e,T])
theorem z4J {h:Heap}{l:List Env}{e T b:Addr}{o:Obj}(q:h.get? b=some o) (h1:b∉frs l) (h2:b≠e) (h3:b≠T):(bigB h l e T).get? b=some o :=
 K6c _ q λz=>by
  rcases K0o.mp z with z|z
  ·exact h1 z
  ·simp at z;exact z.elim h2 h3
theorem za6 {h:Heap}{l:List Env}{e T b:Addr}{o:Obj}(q:(bigB h l e T).get? b=some o):h.get? b=some o:=K6q _ q
theorem z3P {h:Heap}{l:List Env}{e T b:Addr}(z:b∈frs l∨b=e∨b=T):(bigB h l e T).get? b=none :=
 K65 _ (K0o.mpr (by
  rcases z with z|rfl|rfl
  ·exact .inl z
  ·exact .inr .(e)
  ·exact .inr .(e)))
theorem z4A {base h:Heap}{as:List Addr}:∀{l:List Env},h.FunFrames base l->(∀b∈frs l,b∈as)->h.FunFrames (K4c h as) l
 | [],_,_=>trivial
 | env::r,⟨hk,⟨L,o,hf,_,ho,hd⟩,hr⟩,hin=>⟨hk,⟨L,o,hf,K65 _ (hin L (by unfold frs;rw [K20,hf];exact K1d)),ho,hd⟩,
  z4A hr λb hb=>hin b (by unfold frs at hb ⊢;rw [K20];cases env.frame with|none=>exact hb|some x=>exact K11 _ hb)⟩
theorem Fly.big {base:Heap}{l:List Env}{e T:Addr}{cls:Value}{h:Heap}(x:Fly base l e T cls h):∃a0,Heap.FlyingW (bigB h l e T) l e cls a0 h:=by
 obtain ⟨a0,oe,vs,oT,ts,a1,a2,a3,a4,a6,a7,a8,a9⟩:=x.tr
 exact ⟨a0,λb o q=>za6 q,z3P (.inr (.inl rfl)),z4A x.fr λb hb=>K1k _ hb,oe,vs,T,oT,ts,a1,a2,a3,a4,z3P (.inr (.inr rfl)),a6,a7,a8,a9⟩
structure Kept (l:List Env) (e T:Addr) (h h':Heap):Prop where
 keep:∀b o,h.get? b=some o->b∉frs l->b≠e->b≠T->h'.get? b=some o
 slot:∀b o,h.get? b=some o->b∈frs l->∃sl,h'.get? b=some { o with slots:=sl }
theorem Fly.down {base B:Heap}{l:List Env}{e T:Addr}{cls:Value}{h:Heap}(x:Fly B l e T cls h) (k:base.StaysIn B):Fly base l e T cls h :=
 ⟨λb o q=>x.stays b o (k b o q),K8e k x.ne,K8e k x.nT,PySem.W.funFrames_base k x.fr,x.tr⟩
theorem Fly.base_in {base:Heap}{l:List Env}{e T:Addr}{cls:Value}{h:Heap}(x:Fly base l e T cls h):base.StaysIn (bigB h l e T):=λb o q =>
 z4J (x.stays b o q) (λz=>by rw [(x.fr.mem z).1] at q;cases q) (λz=>by rw [z,x.ne] at q;cases q) λz=>by rw [z,x.nT] at q;cases q
theorem za5 {l:List Env}{base h h':Heap}{T:Addr}{oT:Obj}{ts:Array Value}(fr:h.FunFrames base l) (ks:∀b o,h.get? b=some o->b∈frs l->∃sl,h'.get? b=some { o with slots:=sl }) (hT:h'.get? T=some oT) (hd:oT.data=.fields ts):T∉frs l:=λz=>by
 obtain ⟨_,o,ho,nf⟩:=fr.mem z
 obtain ⟨sl,q⟩:=ks T o ho z
 rw [hT] at q
 cases q
 exact nf ts hd
section
variable {M:Model}{A:Around}{E:Value->Shared->Prop}{s:Shared}{base:Heap}{env:Env}{outer:List Env}{L e T:Addr}{cls:Value}{Q:Unit->Shared->Prop}
theorem z8f (hfr:A.frames=some (env::outer)) (hf:env.frame=some L) (x:Fly base (env::outer) e T cls s.heap)
 (hQ:∀h' T',Fly base (env::outer) e T' cls h'->(T'=T∨s.heap.get? T'=none)->Kept (env::outer) e T s.heap h'->Q () { s with heap:=h' }) :
 wpAny M A (Z0m (.ref e) env) (λ_ s₂=>wpAny M A (Z0k (.ref e) none) Q E s₂) E s:=by
 obtain ⟨a0,big⟩:=x.big
 refine wpAny_looks_onW hfr hf big λh1 held up1=>?_
 refine wpAny_landsW held λh2 fly up2=>?_
 obtain ⟨T',F⟩:=Fly.of fly
 have up:=up1.trans up2
 have slot:∀b o,s.heap.get? b=some o->b∈frs (env::outer)->∃sl,h2.get? b=some { o with slots:=sl }:=λb o q z=>by
  obtain ⟨_,o',ho',nf⟩:=x.fr.mem z
  rw [q] at ho';cases ho'
  exact up b o q nf
 refine hQ h2 T' (F.down x.base_in) ?_ ⟨λb o q h1 h2 h3=>F.stays b o (z4J q h1 h2 h3),slot⟩
 by_cases hT:T'=T
 ·exact .inl hT
 ·cases q:s.heap.get? T' with
  | none=>exact .inr rfl
  | some o =>
   obtain ⟨_,oe,vs,oT,ts,a1,a2,a3,a4,a6,a7,a8,a9⟩:=F.tr
   have nfr:=za5 x.fr slot a7 a8
   have:=z4J (l:=env::outer) (e:=e) (T:=T) q nfr a6 hT
   rw [F.nT] at this
   cases this
theorem land (x:Fly base (env::outer) e T cls s.heap)
 (hQ:∀h',Fly base (env::outer) e T cls h'->Kept (env::outer) e T s.heap h'->Q () { s with heap:=h' }):wpAny M A (Z0k (.ref e) none) Q E s:=by
 obtain ⟨a0,oe,vs,oT,ts,a1,a2,a3,a4,a6,a7,a8,a9⟩:=x.tr
 have big:(bigB s.heap (env::outer) e T).StaysIn s.heap:=λb o q=>za6 q
 have hfun:s.heap.FunFrames (bigB s.heap (env::outer) e T) (env::outer):=z4A x.fr λb hb=>K1k _ hb
 have tr:s.heap.TracedAtW (bigB s.heap (env::outer) e T) e cls a0 .none:=⟨oe,vs,T,oT,ts,a1,a2,a3,a4,z3P (.inr (.inr rfl)),a6,a7,a8,a9⟩
 unfold Z0k
 refine K1 (K97 a1 a3 a4 ?_)
 rw [if_pos (show (K1j T != K3w)=true from by simp)]
 refine K3f a7 a8 (K23.mp a9).1 ?_
 have other:∀b,b≠T->(s.heap.update T (K7l (·.setIfInBounds 3 ((none:Option Addr).elim K3w λf=>rawInt f)))).get? b=s.heap.get? b:=λb hb=>K2n _ _ (K34 hb)
 have frT:T∉frs (env::outer):=λz=>by
  obtain ⟨_,o,ho,nf⟩:=x.fr.mem z
  rw [a7] at ho;cases ho
  exact nf ts a8
 refine hQ _ ⟨λb o q=>(other b λz=>by rw [z,x.nT] at q;cases q).trans (x.stays b o q),x.ne,x.nT,x.fr.of_keeps λb o q nf=>⟨o,(other b λz=>by rw [z,a7] at q;cases q;exact nf ts a8).trans q,rfl⟩,?_⟩ ⟨λb o q _ _ h3=>(other b h3).trans q,λb o q z=>⟨o.slots,(other b λy=>frT (y ▸ z)).trans q⟩⟩
 exact ⟨a0,oe,vs,_,_,(other e (K34 a6)).trans a1,a2,a3,a4,a6,K3j _ a7 (K5z (K5c a8 _)),K5c a8 _,by simp [(K23.mp a9).1]⟩
theorem z7M {h:Heap}{args:List Value}(hfr:A.frames=some (env::outer)) (hf:env.frame=some L) (st:base.StaysIn h) (hl:h.FunFrames base (env::outer)) (hx:K95 h s.heap e cls args)
 (hQ:∀h' T',Fly base outer e T' cls h'->h.get? T'=none->(∀b o,h.get? b=some o->b∉frs (env::outer)->h'.get? b=some o)->(∀b o,h.get? b=some o->b∈frs (env::outer)->∃sl,h'.get? b=some { o with slots:=sl })->Q () { s with heap:=h' }) :
 wpAny M A (leaving env (.ref e)) Q E s:=by
 have bg:∀b o,h.get? b=some o->b∉frs (env::outer)->(K4c h (frs (env::outer))).get? b=some o:=λb o q z=>K6c _ q z
 refine wpAny_leaves_madeW (base:=K4c h (frs (env::outer))) hfr hf (λb o q=>K6q _ q) (z4A hl λb hb=>hb) hx λh' t fly _ _ up=>?_
 obtain ⟨T',F⟩:=Fly.of fly
 have sb:base.StaysIn (K4c h (frs (env::outer))):=λb o q=>bg b o (st b o q) λz=>by rw [(hl.mem z).1] at q;cases q
 have slot:∀b o,h.get? b=some o->b∈frs (env::outer)->∃sl,h'.get? b=some { o with slots:=sl }:=λb o q z=>by
  obtain ⟨_,o',ho',nf⟩:=hl.mem z
  rw [q] at ho';cases ho'
  exact up b o (hx.keeps b o q) nf
 refine hQ h' T' (F.down sb) ?_ (λb o q z=>F.stays b o (bg b o q z)) slot
 cases q:h.get? T' with
 | none=>rfl
 | some o =>
  obtain ⟨_,oe,vs,oT,ts,a1,a2,a3,a4,a6,a7,a8,a9⟩:=F.tr
  have:=bg T' o q (za5 hl slot a7 a8)
  rw [F.nT] at this
  cases this
end
section
variable {X:Cx}{pins:List (Addr×Obj)}{σ:List (Option V)}{H H':Hp}{s:Shared}{h':Heap}
theorem Inv.stepN {g':Array K67}{t':Nat}{d':Drawn}{ch:List Addr}(I:Inv X pins σ H s)
 (hch:∀b∈ch,(b∈X.ex∨X.s₀.heap.get? b=none)/\b≠X.env.locals/\.(l)/\∀p∈X.pn++pins,p.1≠b)
 (keep:∀b o,b≠X.env.locals->b∉X.fs->b∉ch->s.heap.get? b=some o->H b=none->h'.get? b=some o)
 (slot:∀b o,b≠X.env.locals->b∈X.fs->b∉ch->s.heap.get? b=some o->H b=none->∃sl,h'.get? b=some { o with slots:=sl }) (free:∀b o,b∉ch->s.heap.get? b=some o->H b=none->H' b=none)
 (there:∀b o,b∉ch->s.heap.get? b=some o->∃o',h'.get? b=some o')
 (tups:∀b xs,H b=.(g xs)->H' b=.(g xs)) (frzs:∀b o u,H b=some (.frz o u)->H' b=some (.frz o u)) (tbls:∀b ps,H b=some (.tbl ps)->∃more,H' b=some (.tbl (ps++more)))
 (ns:∀m,s.heap.Ns X.env.locals m->h'.Ns X.env.locals m) (hok:HOk X.prog X.w H' h') (hg:K5s g') :
 Inv X pins σ H' { s with heap:=h',gens:=g',drawn:=d',toks:=t' }:=by
 have neL:∀b o,X.s₀.heap.get? b=some o->b≠X.env.locals:=λb o e=>K0n (K0j (K08 e) I.ok.above)
 have neC:∀b o,X.s₀.heap.get? b=some o->b∉X.ex->b∉ch:=λb o e hx hb=>by
  rcases (hch b hb).1 with z|z
  ·exact hx z
  ·rw [e] at z;cases z
 have cellK:∀x c,X.env.cells.lookup x=some c->∀v,s.heap.IsCell c v->h'.IsCell c v:=λx c e v ⟨o,ho,hd⟩=>by
  have nch:c∉ch:=λz=>(hch c z).2.2.1 x c e rfl
  by_cases hc:c∈X.fs
  ·obtain ⟨sl,q⟩:=slot c o (I.cne x c e) hc nch ho (I.freeC x c e)
   exact ⟨_,q,hd⟩
  ·exact ⟨o,keep c o (I.cne x c e) hc nch ho (I.freeC x c e),hd⟩
 refine ⟨I.ok,I.os,hg,⟨λb o e n hb hx=>?_,λb o e n hb hx=>?_,λb o e n hx=>?_,λb o e hx=>?_,λb xs e=>tups b xs (I.base.tups b xs e),λb o xs e=>frzs b o xs (I.base.frzs b o xs e),λb ps e=>?_⟩,?_,λx c e=>?_,?_,λx c e=>?_,λp hp=>?_,hok,I.len⟩
 ·exact keep b o (neL b o e) hb (neC b o e hx) (I.base.keep b o e n hb hx) (I.base.free b o e n hx)
 ·obtain ⟨sl,e1⟩:=I.base.slot b o e n hb hx
  obtain ⟨sl',e2⟩:=slot b _ (neL b o e) hb (neC b o e hx) e1 (I.base.free b o e n hx)
  exact ⟨sl',e2⟩
 ·obtain ⟨o',e1⟩:=I.base.there b o e hx
  exact free b o' (neC b o e hx) e1 (I.base.free b o e n hx)
 ·obtain ⟨o',e1⟩:=I.base.there b o e hx
  exact there b o' (neC b o e hx) e1
 ·obtain ⟨m1,e1⟩:=I.base.tbls b ps e
  obtain ⟨m2,e2⟩:=tbls b _ e1
  exact ⟨m1++m2,by rw [e2,K9r]⟩
 ·obtain ⟨m,hn,hl⟩:=I.loc
  refine ⟨m,ns m hn,λi x v e1 e2 e3=>?_⟩
  obtain ⟨u,r,l⟩:=hl i x v e1 e2 e3
  refine ⟨u,r,?_⟩
  rcases l with l|⟨k,c,e,z⟩
  ·exact .inl l
  ·exact .inr ⟨k,c,e,cellK x c e _ z⟩
 ·obtain ⟨v,z⟩:=I.cell x c e
  exact ⟨v,cellK x c e v z⟩
 ·obtain ⟨m,⟨o,_,_,ho,_⟩,_⟩:=I.loc
  exact free _ o (λz=>(hch _ z).2.1 rfl) ho I.free
 ·obtain ⟨v,o,ho,hd⟩:=I.cell x c e
  exact free c o (λz=>(hch c z).2.2.1 x c e rfl) ho (I.freeC x c e)
 ·obtain ⟨e,n,ne,nf,d⟩:=I.pin p hp
  have nch:p.1∉ch:=λz=>(hch p.1 z).2.2.2 p hp rfl
  exact ⟨keep p.1 p.2 ne nf nch e n,free p.1 p.2 nch e n,ne,nf,d⟩
theorem Inv.callN {g':Array K67}{t':Nat}{d':Drawn}{ch:List Addr}(I:Inv X pins σ H s) (u:Un (frs X.stack) ch H H' s.heap h') (hok:HOk X.prog X.w H' h') (hg:K5s g')
 (hch:∀b∈ch,(b∈X.ex∨X.s₀.heap.get? b=none)/\b≠X.env.locals/\.(l)/\∀p∈X.pn++pins,p.1≠b) :
 Inv X pins σ H' { s with heap:=h',gens:=g',drawn:=d',toks:=t' }:=by
 obtain ⟨m,⟨o,es,ep,ho,r⟩,_⟩:=id I.loc
 obtain ⟨sl,hL⟩:=u.any ho I.free λz=>(hch _ z).2.1 rfl
 exact I.stepN (ch:=ch) hch (λb o hL hb hc e n=>u.keep b o e n (λz=>(K0x.mp (I.stkSub b z)).elim hL hb) hc) (λb o _ _ hc e n=>u.any e n hc) (λb o hc e n=>u.free b o e n hc) (λb o hc e=>u.there b o e hc) u.tups u.frzs u.tbls (λm' hm=>by
  obtain ⟨o',es',ep',ho',r'⟩:=hm
  rw [ho] at ho';cases ho'
  exact ⟨_,es',ep',hL,r'⟩) hok hg
theorem ObjOk.there {P:K0m}{w:World}{h:Heap}{a:Addr}{o:HO}(x:ObjOk P w H h a o):∃u,h.get? a=some u:=by
 cases o with
 | lst xs=>obtain ⟨_,_,_,_,e⟩:=x;exact ⟨_,e⟩
 | tup xs=>obtain ⟨_,_,_,u,e,_⟩:=x;exact ⟨_,e⟩
 | dK kvs=>obtain ⟨_,_,_,_,u,_,_,e,_⟩:=x;exact ⟨_,e⟩
 | dT kvs=>obtain ⟨_,_,_,_,u,_,_,e,_⟩:=x;exact ⟨_,e⟩
 | set ks=>obtain ⟨u,_,_,_,_,e,_⟩:=x;exact ⟨_,e⟩
 | ins C dx fs=>obtain ⟨_,_,_,e,_⟩:=x;exact ⟨_,e⟩
 | own y=>obtain ⟨_,e⟩:=x;exact ⟨_,e⟩
 | xd fs=>obtain ⟨_,⟨_,_,_,e,_⟩,_⟩:=x;exact ⟨_,e⟩
 | rng lo hi=>obtain ⟨_,_,_,e⟩:=x;exact ⟨_,e⟩
 | frz ob u=>obtain ⟨e,_⟩:=x;exact ⟨_,e⟩
 | tbl ps=>exact ⟨_,(show h.get? a=some _ from x)⟩
 | met f y=>exact ⟨_,(show h.get? a=some _ from x)⟩
 | ext φ=>obtain ⟨_,⟨_,e⟩,_⟩:=x;exact ⟨_,e⟩
theorem HOk.none {P:K0m}{w:World}{h:Heap}{a:Addr}(x:HOk P w H h) (e:h.get? a=.none):H a=.none:=by
 cases q:H a with
 | none=>rfl
 | some u=>obtain ⟨o,z⟩:=(x a u q).there;rw [e] at z;cases z
theorem HOk.trk {P:K0m}{w:World}{h h':Heap}(x:HOk P w H h) (k:∀b u o,H b=some u->h.get? b=some o->h'.get? b=some o):HOk P w H h':=λa o e =>
 (x a o e).stay (λb u hb q=>by
  rcases hb with rfl|hb
  ·exact k _ _ _ e q
  ·exact k _ _ _ hb q) (λ_ q=>q) λ_ _ q=>q
end
def CXE (P:K0m) (w:World) (base:Heap):CXT:=λouter H s E e s'=>∃a T C H',e=.ref a/\Fly base outer a T (.ref C) s'.heap/\s.heap.get? a=none/\s.heap.get? T=none/\H' a=none/\H' T=none/\s'.os=s.os/\K5s s'.gens /\
 Un (frs outer) [] H H' s.heap s'.heap/\HOk P w H' s'.heap/\E (.ref C) none H'
theorem z5s {P:K0m}{w:World}{K:K0}{mg:Str->Option Value}{base:Heap}{N:List Str}{qual:Str}{scope:Scope}{f:Addr}{cd:Value}{A:Around}{outer:List Env}{s s2:Shared}{H H':Hp}{E:XK}{pins:List .(f)}{σ:St}{h3:Heap}{e C:Addr}{args:List Value}
 (I:Inv (cxOf (CXE P w base) P w K mg base N qual scope f cd A outer s H E) pins σ H' s2) (hx:K95 s2.heap h3 e (.ref C) args) (hE:E (.ref C) none H') :
 (cxOf (CXE P w base) P w K mg base N qual scope f cd A outer s H E).xe (.ref e) { s2 with heap:=h3 }:=by
 show wpAny (model P w) (A.deeper (envOfC qual scope .(3) f cd)) (leaving (envOfC qual scope .(3) f cd) (.ref e)) _ _ { s2 with heap:=h3 }
 have nm:∀b:Addr,b∉([]:List Addr):=λb z=>nomatch z
 have frf:=I.stkFree
 refine z7M (L:=.(3)) (h:=s2.heap) (args:=args) (cls:=.ref C) I.ok.frames rfl (λb o q=>I.bk b o q) I.stack hx λh' T' F hT keep slot=>?_
 have old:∀b,s2.heap.get? b=none->s.heap.get? b=none:=λb q=>by
  cases z:s.heap.get? b with
  | none=>rfl
  | some o=>obtain ⟨o',y⟩:=I.base.there b o z (nm b);rw [q] at y;cases y
 have sub:∀b∈frs outer,b∈frs (envOfC qual scope .(3) f cd::outer):=λb hb=>by
  unfold frs at hb ⊢
  rw [K20]
  cases (envOfC qual scope .(3) f cd).frame with
  | none=>exact hb
  | some x=>exact K11 _ hb
 have cs:∀b∈frs (envOfC qual scope .(3) f cd::outer),b=.(3)∨b∈frs outer:=λb hb=>by
  unfold frs at hb
  rw [K20,show (envOfC qual scope .(3) f cd).frame=some .(3) from rfl] at hb
  exact K0x.mp hb
 have nL:∀b o,s.heap.get? b=some o->b≠s.heap.objs.size:=λb o q=>K0n (K08 q)
 refine ⟨e,T',C,H',rfl,F,old e hx.new,old T' hT,I.hok.none hx.new,I.hok.none hT,I.os,I.bare,⟨λb o q n hb _=>?_,λb o q n hb _=>?_,λb o q n _=>I.base.free b o q n (nm b),λb o q _=>?_,I.base.tups,I.base.frzs,I.base.tbls⟩,I.hok.trk λb u o q z=>?_,hE⟩
 ·exact keep b o (I.base.keep b o q n hb (nm b)) λz=>(cs b z).elim (nL b o q) hb
 ·obtain ⟨sl,y⟩:=I.base.slot b o q n hb (nm b)
  obtain ⟨sl',y'⟩:=slot b _ y (sub b hb)
  exact ⟨sl',y'⟩
 ·obtain ⟨o',y⟩:=I.base.there b o q (nm b)
  by_cases z:b∈frs (envOfC qual scope .(3) f cd::outer)
  ·obtain ⟨sl',y'⟩:=slot b _ y z
   exact ⟨_,y'⟩
  ·exact ⟨_,keep b _ y z⟩
 ·exact keep b o z λy=>by rw [frf b y] at q;cases q
section
variable {M:Model}{A:Around}{E:Value->Shared->Prop}{h:Heap}{g:Array K67}{d:Drawn}{t:Nat}{os:OsState}{C Ch e:Addr}{oe:Obj}{b:Bool}{Q:Bool->Shared->Prop}
 {nm q:Str} {N:Addr} {bs bm:List Value} {hdct:Bool} {sn:List Str} {sub:List Value} {ab:Bool} {col:Option Bool} {dd:Option Addr} {k0 k1 k2 k3 k5:Option Value} {newId:String}
 {nm' q':Str} {N':Addr} {bs' bm':List Value} {hdct':Bool} {sn':List Str} {sub':List Value} {ab':Bool} {col':Option Bool} {dd':Option Addr} {k0' k1' k2' k3' k5':Option Value} {newId':String}
theorem z8y (hC:h.get? C=some (K7h nm q C N bs bm hdct sn sub ab col dd k0 k1 k2 k3 k5 newId)) (hH:h.get? Ch=some (K7h nm' q' Ch N' bs' bm' hdct' sn' sub' ab' col' dd' k0' k1' k2' k3' k5' newId'))
 (he:h.get? e=some oe) (hcls:oe.cls=.ref C) (hbase:bm'.contains (.type "BaseException")=true) (hin:(K1j C::bm).contains (.ref Ch)=b) (hq:Q b ⟨h,g,d,t,os⟩):wpAny M A (excMatches (.ref e) (.ref Ch)) Q E ⟨h,g,d,t,os⟩:=by
 have hB:(K1j Ch::bm').contains (.type "BaseException")=true:=by rw [K6x,hbase,Bool.or_true]
 have f:=tc_notTuple
 unfold excMatches
 repeat (first|(with_reducible refine K2p he ?_;rw [hcls])|with_reducible refine K2p hH ?_|with_reducible refine K2p hC ?_|(with_reducible refine K6g hC ?_;rw [hin])|(with_reducible refine K6g hH ?_;rw [hB])|wp_step)
 cases b with
 | true=>wp_walk;exact hq
 | false=>wp_walk;exact hq
end
def Cx.inside (X:Cx) (e:Value):Cx:={ X with A:=X.A.mark (some e),calm:=false,xe:=λ_ _=>False }
section
variable {X:Cx}{pins:List (Addr×Obj)}{σ:St}{H:Hp}{s:Shared}{e:Value}
theorem Inv.inside (I:Inv X pins σ H s) (e:Value):Inv (X.inside e) pins σ H s :=
 ⟨⟨I.ok.mod,I.ok.kind,I.ok.glob,I.ok.blt,I.ok.above,I.ok.inj,I.ok.has,I.ok.cab,(λz=>nomatch z),I.ok.frames,I.ok.stk,I.ok.exf,I.ok.bs,I.ok.bsz,I.ok.noex,I.ok.exfs,I.ok.funs,I.ok.frf⟩,I.os,I.bare,I.base,I.loc,I.cell,I.free,I.freeC,I.pin,I.hok,I.len⟩
theorem Inv.outside (I0:X.Ok) (I:Inv (X.inside e) pins σ H s):Inv X pins σ H s:=⟨I0,I.os,I.bare,I.base,I.loc,I.cell,I.free,I.freeC,I.pin,I.hok,I.len⟩
theorem SP.outside {D:Ends}{f:Flow}{s':Shared}(I0:X.Ok) (h:SP (X.inside e) pins D f s'):SP X pins D f s':=by
 cases f with
 | next=>obtain ⟨σ',H',I,q⟩:=h;exact ⟨σ',H',I.outside I0,q⟩
 | brk=>obtain ⟨σ',H',I,q⟩:=h;exact ⟨σ',H',I.outside I0,q⟩
 | cont=>obtain ⟨σ',H',I,q⟩:=h;exact ⟨σ',H',I.outside I0,q⟩
 | ret u=>obtain ⟨v,σ',H',I,r,q⟩:=h;exact ⟨v,σ',H',I.outside I0,r,q⟩
theorem Inv.noted {a T:Addr}{h':Heap}{l:List Env}(I:Inv X pins σ H s) (hl:X.stack=l) (ha:H a=none) (hT:H T=none) (na:∀b,b=a∨b=T->(b∈X.ex∨X.s₀.heap.get? b=none)/\b≠X.env.locals/\.(l)/\∀p∈X.pn++pins,p.1≠b) (K:Kept l a T s.heap h'):Inv X pins σ H { s with heap:=h' }:=by
 subst hl
 have mm:∀b:Addr,b∈[a,T]->b=a∨b=T:=λb z=>by simpa using z
 refine I.callN (g':=s.gens) (t':=s.toks) (d':=s.drawn) (ch:=[a,T]) ⟨λb o q n hb hx=>K.keep b o q hb (λz=>hx (by simp [z])) λz=>hx (by simp [z]),λb o q n hb hx=>K.slot b o q hb,λb o q n hx=>n,λb o q hx=>?_,λ_ _ q=>q,λ_ _ _ q=>q,λ_ ps q=>⟨#[],by rw [q];simp⟩⟩ (I.hok.trk λb u o q z=>?_) I.bare λb hb=>na b (mm b hb)
 ·by_cases z:b∈frs X.stack
  ·obtain ⟨sl,y⟩:=K.slot b o q z;exact ⟨_,y⟩
  ·exact ⟨o,K.keep b o q z (λy=>hx (by simp [y])) λy=>hx (by simp [y])⟩
 ·exact K.keep b o z (λy=>by rw [I.stkFree b y] at q;cases q) (λy=>by rw [y,ha] at q;cases q) λy=>by rw [y,hT] at q;cases q
theorem zp7 {b:Addr}(I:Inv X pins σ H s) (q:s.heap.get? b=none):(b∈X.ex∨X.s₀.heap.get? b=none)/\b≠X.env.locals/\.(l)/\∀p∈X.pn++pins,p.1≠b:=by
 refine ⟨?_,λz=>?_,λx c e z=>?_,λp hp z=>?_⟩
 ·by_cases hx:b∈X.ex
  ·exact .inl hx
  ·refine .inr ?_
   cases y:X.s₀.heap.get? b with
   | none=>rfl
   | some o=>obtain ⟨o',w⟩:=I.base.there b o y hx;rw [q] at w;cases w
 ·obtain ⟨m,⟨o,_,_,ho,_⟩,_⟩:=I.loc
  rw [← z,q] at ho;cases ho
 ·obtain ⟨v,o,ho,_⟩:=I.cell x c e
  rw [z,q] at ho;cases ho
 ·have:=(I.pin p hp).1
  rw [z,q] at this;cases this
end
structure Clss (K:K0) (C:Addr) (bm:List Value):Prop where
 ex:∃nm q N bs hdct sn sub ab col dd k0 k1 k2 k3 k5 newId,K.lookup C=some (K7h nm q C N bs bm hdct sn sub ab col dd k0 k1 k2 k3 k5 newId)
section
variable {X:Cx}{pins:List (Addr×Obj)}{σ:St}{H1:Hp}{s1 s':Shared}{e:Value}{E:XK}{cn n:Str}{Ch:Addr}{bmH:List Value}{np hpos:Pos}{b₀:Stmt}{suite:List Stmt}{EE:Value->Shared->Prop}{D:Ends}{ts:TS}
theorem back {u:Value}(I1:Inv X pins σ H1 s1) (c:CXE X.prog X.w X.base X.stack H1 s1 E u s'):∃a T C H',u=.ref a/\Fly X.base X.stack a T (.ref C) s'.heap/\s1.heap.get? a=none/\s1.heap.get? T=none/\H' a=none/\H' T=none/\Inv X pins σ H' s'/\E (.ref C) none H':=by
 obtain ⟨a,T,C,H',rfl,F,n1,n2,u1,u2,os,bare,un,hok,hE⟩:=c
 obtain ⟨hh,g,d,t,os'⟩:=s'
 obtain rfl:os'=s1.os:=os
 exact ⟨a,T,C,H',rfl,F,n1,n2,u1,u2,I1.call (h':=hh) (g':=g) (d':=d) (t':=t) (ch:=[]) un hok bare (λb z=>absurd z .(e)),hE⟩
end
def z2t:List Str:=["__getattribute__","__getattr__","__class__"]
inductive Tail3 (h:Heap) (bmB:List Value):List Value->Prop
 | base:Tail3 h bmB bmB
 | own {A:Addr} {c0:Value} {dd:Option Addr} {cd:ClassData} {sl:Array (Option Value)} {mA:Str->Option Value} {tl:List Value}:h.get? A=some { cls:=c0,dict:=dd,data:=.cls cd,slots:=sl }->h.Ns cd.ns mA->(∀n∈z2t,mA n=none)->Tail3 h bmB tl->Tail3 h bmB (.ref A::tl)
theorem Tail3.has {h:Heap}{bmB tl:List Value}(T:Tail3 h bmB tl) {x:String}{b:Bool}(e:bmB.contains (.type x)=b):tl.contains (.type x)=b:=by
 induction T with
 | base=>exact e
 | own _ _ _ _ ih=>rw [K6x,ih];rfl
section
variable {M:Model}{A:Around}{E:Value->Shared->Prop}{h:Heap}{g:Array K67}{d:Drawn}{t:Nat}{os:OsState}
theorem zG7 {bmB tl:List Value}{n:Str}{y:Option Value}{Q:Option Value->Shared->Prop}(hn:n∈z2t) (T:Tail3 h bmB tl) (rest:Z0y bmB n=pure y) (hq:Q y ⟨h,g,d,t,os⟩):wpAny M A (Z0y tl n) Q E ⟨h,g,d,t,os⟩:=by
 induction T with
 | base=>rw [rest];exact K8 hq
 | own a1 a2 a3 _ ih =>
  rw [lookupAlong_cons]
  refine K1 (wpAny_classOwn_cls a1 a2 ?_)
  rw [a3 n hn]
  exact ih
structure Ex3 (h:Heap) (C:Addr) (B:String) (bmB:List Value):Prop where
 ex:∃nm q N bs bm hdct sn sub ab col dd k0 k1 k2 k3 k5 newId mN,h.get? C=some (K7h nm q C N bs bm hdct sn sub ab col dd k0 k1 k2 k3 k5 newId)/\h.Ns N mN/\(∀n∈z2t,mN n=none)/\Tail3 h bmB bm
theorem zv6 {C:Addr}{B:String}{bmB:List Value}{n:Str}{y:Option Value}{Q:Option Value->Shared->Prop}(X:Ex3 h C B bmB) (hn:n∈z2t) (hbm:mroOf (.type B)=pure bmB) (hB:K6v (.type B) n=pure y) (hq:Q y ⟨h,g,d,t,os⟩) :
 wpAny M A (K6v (.ref C) n) Q E ⟨h,g,d,t,os⟩:=by
 obtain ⟨nm,q,N,bs,bm,hdct,sn,sub,ab,col,dd,k0,k1,k2,k3,k5,newId,mN,hC,hN,hm,T⟩:=X.ex
 have rest:Z0y bmB n=pure y:=by rw [typeLookup_eq,hbm] at hB;exact hB
 rw [typeLookup_eq]
 refine K1 (wpAny_mroOf_exc hC ?_)
 rw [lookupAlong_cons]
 refine K1 (wpAny_classOwn_exc hC hN ?_)
 rw [hm n hn]
 exact zG7 hn T rest hq
theorem sub3 {C:Addr}{B T:String}{bmB:List Value}{Q:Bool->Shared->Prop}{b:Bool}(X:Ex3 h C B bmB) (e:bmB.contains (.type T)=b) (hq:Q b ⟨h,g,d,t,os⟩):wpAny M A (isSubtype (.ref C) (.type T)) Q E ⟨h,g,d,t,os⟩:=by
 obtain ⟨nm,q,N,bs,bm,hdct,sn,sub,ab,col,dd,k0,k1,k2,k3,k5,newId,mN,hC,hN,hm,TL⟩:=X.ex
 refine K6g hC ?_
 rw [K6x,TL.has e]
 exact hq
end
abbrev bmV:List Value:=[.type "ValueError",.type "Exception",.type "BaseException",.type "object"]
theorem zd5:K6v (.type "ValueError") "__class__" = pure (some (.builtin "object.__class__")):=by rw [K8u,K61];kernel_rfl
theorem has_obj:bmV.contains (.type (".".intercalate ("object.__class__".cutAt '.').dropLast))=true:=by rw [F.owner_object_class];decide +kernel
section
variable {prog:K0m}{w:World}{A:Around}{E:Value->Shared->Prop}{h:Heap}{g:Array K67}{d:Drawn}{t:Nat}{os:OsState}{a C:Addr}{o:Obj}
theorem cg3 {R:Result->Shared->Prop}(X:Ex3 h C "ValueError" bmV) (hx:h.get? a=some o) (hc:o.cls=.ref C) (hq:R (.ok (.ret (.ref C))) ⟨h,g,d,t,os⟩) :
 K4x (model prog w) A (.call (.builtin "getset_descriptor.__get__") ⟨[.builtin "object.__class__",.ref a,.ref C],[]⟩) R ⟨h,g,d,t,os⟩:=by
 have hT5:(⟨h,g,d,t,os⟩:Shared).TypeIs (.builtin "object.__class__") "getset_descriptor":=K60
 refine K69 F.slot_gs_get.plain F.entry_gs_get (F.slot_gs_get.check _ _ _ _ _ _ _ _ hT5 (F.args_gs_get _ _ _) ?_)
 repeat (any_goals (first|assumption|(with_reducible refine K2p hx ?_;rw [hc])|with_reducible refine sub3 X has_obj ?_|wp_step))
 refine ⟨K9s _ .(2),K28 F.entry_object_class ?_⟩
 repeat (any_goals (first|assumption|(with_reducible refine K2p hx ?_;rw [hc])|wp_step))
theorem ce3 {tk:Tok}{Q:Fin->Shared->Prop}(X:Ex3 h C "ValueError" bmV) (hx:h.get? a=some o) (hc:o.cls=.ref C) (hq:Q (.done (.ret (.ref C))) ⟨h,g,d,t,os⟩) :
 wpAny (model prog w) A (Builtin.«object.__getattribute__» ⟨[.ref a,.str "__class__" tk],[]⟩) Q E ⟨h,g,d,t,os⟩:=by
 have hT5:(⟨h,g,d,t,os⟩:Shared).TypeIs (.builtin "object.__class__") "getset_descriptor":=K60
 have f5:=K60
 have f6:=F.slot_gs_get.lookup
 have f7:=F.slot_gs_set.lookup
 have hm:("__class__":Str)∈z2t:=.tail _ (.tail _ (.head _))
 repeat (any_goals (first|assumption|(with_reducible refine K2p hx ?_;rw [hc])|with_reducible refine zv6 X hm K5y.mro zd5 ?_|wp_step))
 refine cg3 X hx hc ?_
 repeat (any_goals (first|assumption|wp_step))
theorem chk3 {M:Model}{nameV:Value}{Q:Unit->Shared->Prop}(X:Ex3 h C "ValueError" bmV) (hx:h.get? a=some o) (hc:o.cls=.ref C) (hq:Q () ⟨h,g,d,t,os⟩):wpAny M A (K85 "BaseException.__getattribute__" ⟨[.ref a,nameV],[]⟩) Q E ⟨h,g,d,t,os⟩:=by
 have k1:builtinKind "BaseException.__getattribute__" = some .slot:=by decide +kernel
 have k2:splitId "BaseException.__getattribute__" = some ("BaseException","__getattribute__"):=by decide +kernel
 have k3:=F.args_bexc_ga (.ref a) nameV
 have k4:bmV.contains (.type "BaseException")=true:=by decide +kernel
 simp only [K85,k1,k2]
 refine K1 ?_
 ·unfold isInstance
  repeat (first|(with_reducible refine K2p hx ?_;rw [hc])|with_reducible refine sub3 X k4 ?_|wp_step)
  exact hq
theorem cc3 {tk:Tok}{R:Result->Shared->Prop}(X:Ex3 h C "ValueError" bmV) (hx:h.get? a=some o) (hc:o.cls=.ref C) (hq:R (.ok (.ret (.ref C))) ⟨h,g,d,t,os⟩) :
 K4x (model prog w) A (.call (.builtin "BaseException.__getattribute__") ⟨[.ref a,.str "__class__" tk],[]⟩) R ⟨h,g,d,t,os⟩ :=
 K69 K5y.ga.plain F.entry_bexc_ga (chk3 X hx hc (ce3 X hx hc hq))
theorem cb3 {tk:Tok}{Q:Value->Shared->Prop}(X:Ex3 h C "ValueError" bmV) (hx:h.get? a=some o) (hc:o.cls=.ref C) (hq:Q (.ref C) ⟨h,g,d,t,os⟩) :
 wpAny (model prog w) A (getAttrBy (.ref a) (.str "__class__" tk) false) Q E ⟨h,g,d,t,os⟩:=by
 have f3:=K5y.ga.bind (.ref a)
 have x2:(K7j "BaseException.__getattribute__"==K7j "object.__getattribute__")=false:=by decide +kernel
 have x1:(onTheHeap (K1j C)&&K7j "BaseException.__getattribute__"==K7j "object.__getattribute__")=false:=by rw [x2];rfl
 have m1:("__getattribute__":Str)∈z2t:=.head _
 have m2:("__getattr__":Str)∈z2t:=.tail _ (.head _)
 repeat (any_goals (first|assumption|(with_reducible refine K2p hx ?_;rw [hc])|with_reducible refine zv6 X m1 K5y.mro K5y.ga.lookup ?_|with_reducible refine zv6 X m2 K5y.mro K5y.noGetattr ?_|wp_step))
 refine cc3 X hx hc ?_
 repeat (any_goals (first|assumption|wp_step))
theorem ca3 {Q:Option Value->Shared->Prop}(X:Ex3 h C "ValueError" bmV) (hx:h.get? a=some o) (hc:o.cls=.ref C) (hq:Q (.(r C)) ⟨h,g,d,t+1,os⟩):wpAny (model prog w) A (getAttr? (.ref a) "__class__") Q E ⟨h,g,d,t,os⟩:=by
 unfold getAttr? getAttrBy?
 repeat (any_goals (first|assumption|with_reducible apply cb3 X hx hc|wp_step))
end
theorem zg9 {K:K0}{a C:Addr}(hcl:∃o cd,K.lookup C=some o/\o.data=.cls cd) (hX:∀h,K.In h->Ex3 h C "ValueError" bmV):PySem.W.KitX K (.ref a) (.ref C) (λh=>∃o,h.get? a=some o/\o.cls=.ref C) where
 ty:=λM h _ ⟨o,h1,h2⟩=>h2 ▸ (PySem.W.Looks.ld h1).andThen .now
 it:=λ_ _ X _=>by
  obtain ⟨o,cd,ho,hd⟩:=hcl
  intro A' Q' E' s' k q
  unfold isType loadHead
  refine K1 (wpAny_loadPart (k _ _ (X _ _ ho)) ?_)
  rw [hd]
  exact K8 q
 ne:=λh tp dd its n sl X htp=>by
  obtain ⟨o,cd,ho,hd⟩:=hcl
  refine K9u.mpr λq=>?_
  have e:C=tp:=K1j.inj (beq_iff_eq.mp q)
  subst e
  have z:=(X _ _ ho).symm.trans htp
  cases z
  cases hd
 ca:=λ{_ _ _ _ _ s} X ⟨o,h1,h2⟩ k=>by
  obtain ⟨hh,g,d,t,os⟩:=s
  exact ca3 (hX _ X) h1 h2 k
section
variable {X:Cx}{x:Str}{C:Addr}{bm:List Value}{B newId initId:String}{e₀:Expr}{rest:List Expr}{t:TA}{np cpos pos:Pos}{R:Hp->Prop}
theorem zc9 (O':∀h,X.K.In h->OwnCls x C bm newId X.mg h) (FB:ExcBaseFacts B newId initId bm) (hc:X.calm=true) (hg:Gl X x) (ha:PA X (e₀::rest) t)
 (hX:∀pins σ H s h' e vs,Inv X pins σ H s->K95 s.heap h' e (.ref C) vs->R H->X.xe (.ref e) { s with heap:=h' })
 (he:K03 (e₀::rest) X.env=(false,eval e₀ X.env)::K03 rest X.env:=by rfl) (hpl:(backTo cpos (K03 rest X.env)).any (·.1)=false:=by rfl) (hd:.(A)=false:=by decide) :
 PS X (.Raise (some (.Call (.Name x np) (e₀::rest) [] cpos)) none pos) (λ_ σ H=>t σ H λvs H1=>vs.length≤sizeLine/\R H1):=by
 intro pins s σ H D I h
 have O:=O' X.base I.mod.kin
 obtain ⟨tl,N,nm,q,bs,hdct,sn,sub,ab,col,dd,k0,k1,k2,k3,k5,mN,hC,hN,hni,T⟩:=O.obj
 refine wpAny_Raise_call_subT (C:=C) (nm:=nm) (q:=q) (N:=N) (bs:=bs) (bm:=tl) (hdct:=hdct) (sn:=sn) (sub:=sub) (ab:=ab) (col:=col) (dd:=dd) (k0:=k0) (k1:=k1) (k2:=k2) (k3:=k3) (k5:=k5)
  FB (mN:=mN) (T.hasType FB.hasBase) (I.ok.hd hc) (by rw [he];show (false||(backTo cpos (K03 rest X.env)).any (·.1))=false;rw [hpl];rfl) hni (z3j I hg O.bound ⟨rfl,?_⟩ hd)
 have ha':=ha cpos pins s σ H _ I h
 rw [he] at ha' ⊢
 exact K68 (K2g ha' (λus s2 ⟨vs,H2,I2,r2,q2⟩=>⟨rfl,by rw [← r2.length];exact q2.1,I2.bk _ _ hC,hN.keeps I2.bk,T.keeps I2.bk,λh' e hm=>hX pins σ H2 s2 h' e us I2 hm q2.2⟩) λ_ _ y=>y)
end
section
variable {X:Cx}{CX:CXT}{k:Nat}{f:Addr}{fd:K2q}{ps:List Str}{sp:Sp}{E:XK}{x:Str}{p pos:Pos}{e:Expr}{es:List Expr}{t:TA}{EE:Value->Shared->Prop}{Q:VK}{pins:List (Addr×Obj)}{σ:St}{H:Hp}{s:Shared}
theorem PA.quiet (h:PA X.nox (e::es) t) (pos:Pos) (I:Inv X pins σ H s) {Q:List V->Hp->Prop}(q:t σ H Q):wpAny .(4) X.A (Z12 (backTo pos (K03 (e::es) X.env))) (AP X pins σ Q) EE s :=
 K2g (h pos pins s σ H Q (I.wish _) q) (λ_ _ ⟨vs,H',I',r,q⟩=>⟨vs,H',I'.unwish,r,q⟩) λ_ _ z=>K1q z
theorem zK6 (F:FnOk X.prog X.w X.K X.mg X.base CX k f fd ps sp) (hr:Room k X.A) (hg:Gl X x) (hm:X.mg x=.(r f)) (hk:K3d X.K (.ref f)=true) (hb:Binds X.K fd ps [])
 (ha:PA X.nox (e::es) t) (I:Inv X pins σ H s) (h:t σ H λvs H1=>sp vs H1 Q E) (hx:∀H1 s1 u s',Inv X pins σ H1 s1->CX X.stack H1 s1 E u s'->EE u s')
 (hdb:.(A)=false:=by decide) (he:K03 (e::es) X.env=(false,eval e X.env)::K03 es X.env:=by rfl) (hpl:(backTo pos (K03 es X.env)).any (·.1)=false:=by rfl) :
 wpAny .(4) X.A (eval (.Call (.Name x p) (e::es) [] pos) X.env) (EP X pins σ Q) EE s:=by
 refine K5d (z3j I hg hm ?_ hdb)
 refine K9p (h₀:=X.base) I.ok.mod.kin hk (thn (PA.quiet ha pos I h) λus s1 ⟨vs,H1,I1,r,q⟩=>⟨I1.kIn,?_⟩) he hpl
 have hl:(us++[]).length=ps.length:=by rw [K1i,← .(z)];exact F.len _ _ _ _ q
 refine wpAny_call (K3t (F.run X.A X.stack s1 H1 ⟨us,[]⟩ us vs Q E hr I1.env0 (by have:=hb s1 us I1.kIn hl;rwa [K1i] at this) r q) λr s' hq=>?_)
 cases r with
 | error u=>exact hx H1 s1 u s' I1 hq
 | ok fl =>
  cases fl with
  | ret u=>exact I1.after hq
  | next=>exact K1q hq
  | brk=>exact K1q hq
  | cont=>exact K1q hq
end
section
variable {X:Cx}{k:Nat}{f Ch:Addr}{fd:K2q}{ps:List Str}{sp:Sp}{x cn y:Str}{i:Nat}{p pos pos1 pos2 py np hpos:Pos}{e:Expr}{es:List Expr}{t:TA}{bmH:List Value}{b₀:Stmt}{suite:List Stmt}{ts:TS}
end
section
variable {X:Cx}{pins:List (Addr×Obj)}{σ:St}{H:Hp}{s:Shared}
theorem Inv.track {a:Addr}{o:HO}(I:Inv X pins σ H s) (ha:H a=none) (na:(a∈X.ex∨X.s₀.heap.get? a=none)/\a≠X.env.locals/\(∀x c,X.env.cells.lookup x=some c->c≠a)/\∀p∈X.pn++pins,p.1≠a) (ok:ObjOk X.prog X.w (upd H a o) s.heap a o):Inv X pins σ (upd H a o) s:=by
 have up:∀{b:Addr} {u:HO},H b=some u->upd H a o b=some u:=λq=>by rw [J0 (J6 q ha)];exact q
 have dn:∀{b:Addr},b≠a->H b=none->upd H a o b=none:=λh q=>by rw [J0 h];exact q
 refine ⟨I.ok,I.os,I.bare,⟨I.base.keep,I.base.slot,λb ob q n hx=>?_,I.base.there,λb xs q=>up (I.base.tups b xs q),λb ob u q=>up (I.base.frzs b ob u q),λb ps q=>?_⟩,I.loc,I.cell,dn (K34 na.2.1) I.free,λx c q=>dn (na.2.2.1 x c q) (I.freeC x c q),λp hp=>?_,λb u q=>?_,I.len⟩
 ·refine dn (λz=>?_) (I.base.free b ob q n hx)
  subst z
  rcases na.1 with y|y
  ·exact hx y
  ·rw [q] at y;cases y
 ·obtain ⟨more,z⟩:=I.base.tbls b ps q
  exact ⟨more,up z⟩
 ·obtain ⟨p1,p2,p3,p4,p5⟩:=I.pin p hp
  exact ⟨p1,dn (na.2.2.2 p hp) p2,p3,p4,p5⟩
 ·by_cases hb:b=a
  ·subst hb;rw [y8] at q;cases q;exact ok
  ·rw [J0 hb] at q
   exact (I.hok b u q).stay (λc v _ z=>z) (λc z=>up z) λc xs z=>up z
theorem Inv.lost {h':Heap}{m':Str->Option Value}{t:Nat}(I:Inv X pins σ H s) (hn:h'.Ns X.env.locals m') (hs:K39 X.env.locals s.heap h'):Inv X pins (K0c X.N.length none) H { s with heap:=h',toks:=t }:=by
 have other:∀b,b≠X.env.locals->h'.get? b=s.heap.get? b:=λb hb=>hs.2 b hb
 have neL:∀b o,X.s₀.heap.get? b=some o->b≠X.env.locals:=λb o e=>K0n (K0j (K08 e) I.ok.above)
 refine ⟨I.ok,I.os,I.bare,⟨λb o q n hb hx=>(other b (neL b o q)).trans (I.base.keep b o q n hb hx),λb o q n hb hx=>?_,I.base.free,λb o q hx=>?_,I.base.tups,I.base.frzs,I.base.tbls⟩,⟨m',hn,λi x v h1 h2 _=>?_⟩,λx c q=>?_,I.free,I.freeC,λp hp=>?_,I.hok.trk λb u o q z=>(other b λy=>by rw [y,I.free] at q;cases q).trans z,by simp⟩
 ·obtain ⟨sl,y⟩:=I.base.slot b o q n hb hx
  exact ⟨sl,(other b (neL b o q)).trans y⟩
 ·obtain ⟨o',y⟩:=I.base.there b o q hx
  exact ⟨o',(other b (neL b o q)).trans y⟩
 ·rw [K2h] at h2
  split at h2<;>cases h2
 ·obtain ⟨v,o,ho,hd⟩:=I.cell x c q
  exact ⟨v,o,(other c (I.cne x c q)).trans ho,hd⟩
 ·obtain ⟨p1,p2,p3,p4,p5⟩:=I.pin p hp
  exact ⟨(other p.1 p3).trans p1,p2,p3,p4,p5⟩
end
theorem zH5 {P:K0m}{w:World}{H:Hp}{h:Heap}{a C:Addr}{o:Obj}(h1:h.get? a=some o) (h2:o.cls=.ref C):ObjOk P w H h a (excO a C) :=
 ⟨⟨o,h1,h2⟩,⟨o,h1⟩,λh3 h4 ⟨o',z1,z2⟩ k=>⟨o',k _ z1,z2⟩⟩
section
variable {X:Cx}{pins:List (Addr×Obj)}{σ:St}{H1:Hp}{s1 s':Shared}{e:Value}{E:XK}{cn n:Str}{i:Nat}{Ch:Addr}{bmH:List Value}{np hpos:Pos}{b₀:Stmt}{suite:List Stmt}{EE:Value->Shared->Prop}{D:Ends}{ts:TS}
theorem z8o (hst:X.stack=X.env::X.outer) (hf:X.env.frame=some X.env.locals) (hg:Gl X cn) (hm:X.mg cn=.(r Ch)) (HC:Clss X.K Ch bmH) (hbase:bmH.contains (.type "BaseException")=true) (hsu:∀e,PSs (X.inside e) (b₀::suite) ts)
 (hN:X.N.Nodup) (hi:X.N[i]?=some n) (hl:X.env.kindOf n=some .local)
 (I1:Inv X pins σ H1 s1) (c:CXE X.prog X.w X.base X.stack H1 s1 E e s')
 (hE:∀C H',E (.ref C) none H'->(∃bm,Clss X.K C bm/\(K1j C::bm).contains (.ref Ch)=true)/\∀a,H' a=none->ts { nx:=λ_ _=>False,rt:=D.rt } (σ.set i (.(r a))) (upd H' a (excO a C))) (hd:(cn==("__debug__":Str))=false:=by decide) :
 wpAny .(4) X.A (Z0m e X.env) (λ_ s₂=>wpAny .(4) X.A (Z0k e none) (λ_ s₃=>wpAny .(4) X.A (handleBy e X.env [.ExceptHandler (some (.Name cn np)) (some n) (b₀::suite) hpos]) (SP X pins D) EE s₃) EE s₂) EE s':=by
 obtain ⟨a,T,C,H',rfl,F,n1,n2,u1,u2,I2,hq⟩:=back I1 c
 obtain ⟨⟨bm,CC,hin⟩,run⟩:=hE C H' hq
 rw [hst] at F
 have I2h:=I2.hok
 have nT2:∀b,b=a∨b=T->(b∈X.ex∨X.s₀.heap.get? b=none)/\b≠X.env.locals/\.(l)/\∀p∈X.pn++pins,p.1≠b:=λb hb=>by
  rcases hb with rfl|rfl
  ·exact zp7 I1 n1
  ·exact zp7 I1 n2
 refine z8f (by rw [I2.ok.frames,hst]) hf F λh3 T3 F3 hT3 K3=>?_
 have I3:=I2.noted hst u1 u2 nT2 K3
 have nT3:H' T3=none/\∀b,b=a∨b=T3->(b∈X.ex∨X.s₀.heap.get? b=none)/\b≠X.env.locals/\.(l)/\∀p∈X.pn++pins,p.1≠b:=by
  rcases hT3 with rfl|z
  ·exact ⟨u2,nT2⟩
  ·refine ⟨I2h.none z,λb hb=>?_⟩
   rcases hb with rfl|rfl
   ·exact nT2 _ (.inl rfl)
   ·exact zp7 I2 z
 refine wpAny_handleBy_cons (codeAny_handlers_test (z3j (X:=X.inside (.ref a)) (I3.inside _) hg hm ?_ hd)) (by intro q;cases q)
 obtain ⟨nm,q,N,bs,hdct,sn,sub,ab,col,dd,k0,k1,k2,k3,k5,newId,lkC⟩:=CC.ex
 obtain ⟨nm',q',N',bs',hdct',sn',sub',ab',col',dd',k0',k1',k2',k3',k5',newId',lkH⟩:=HC.ex
 obtain ⟨a0,oe,vs,oT,ts',a1,a2,_⟩:=F3.tr
 refine z8y (I3.kIn _ _ lkC) (I3.kIn _ _ lkH) a1 a2.1 hbase hin ?_
 refine codeAny_handlers_suite_as (land (base:=X.base) (env:=X.env) (outer:=X.outer) F3 λh4 F4 K4=>?_)
 have I4:=I3.noted hst u1 nT3.1 nT3.2 K4
 obtain ⟨_,oe4,_,_,_,b1,b2,_⟩:=F4.tr
 have I5:=I4.track (o:=excO a C) u1 (nT2 a (.inl rfl)) (zH5 b1 b2.1)
 refine z4Z (X:=X.inside (.ref a)) (v:=.ref a) (I5.inside _) hN hi (.inl hl) rfl (λs5 I6=>?_) (.inr hl)
 refine K2g (hsu (.ref a) pins s5 _ _ { nx:=λ_ _=>False,rt:=D.rt } I6 (run a u1)) (λfl s6 q6=>?_) λ_ _ z=>K1q z
 have q7:=q6.outside I4.ok
 have hp:(X.env.scope.kind==.class||(X.env.scope.kind==.module&&X.env.locals != X.env.globals))=false:=by rw [I4.ok.kind];rfl
 cases fl with
 | next=>obtain ⟨_,_,_,z⟩:=q7;exact K1q z
 | brk=>obtain ⟨_,_,_,z⟩:=q7;exact K1q z
 | cont=>obtain ⟨_,_,_,z⟩:=q7;exact K1q z
 | ret u =>
  obtain ⟨v,σ7,H7,I7,r7,z7⟩:=q7
  obtain ⟨m,hn,_⟩:=id I7.loc
  exact wpAny_nameGoes hl hn hp λh' m' hn' hs=>⟨v,_,H7,I7.lost hn' hs,r7,z7⟩
end
section
variable {X:Cx}{k:Nat}{f Ch:Addr}{fd:K2q}{ps:List Str}{sp:Sp}{x cn n:Str}{i:Nat}{p pos pos1 pos2 np hpos:Pos}{e:Expr}{es:List Expr}{t:TA}{bmH:List Value}{b₀:Stmt}{suite:List Stmt}{ts:TS}
def zq6 (K:K0) (Ch:Addr) (R:Addr->Addr->Hp->Prop):XK:=λu _ H'=>∃C,u=.ref C/\(∃bm,Clss K C bm/\(K1j C::bm).contains (.ref Ch)=true)/\∀a,H' a=none->R C a H'
theorem zx3 (F:FnOk X.prog X.w X.K X.mg X.base (CXE X.prog X.w X.base) k f fd ps sp) (hr:Room k X.A) (hgx:Gl X x) (hmx:X.mg x=.(r f)) (hk:K3d X.K (.ref f)=true) (hb:Binds X.K fd ps [])
 (ha:PA X.nox (e::es) t) (hst:X.stack=X.env::X.outer) (hf:X.env.frame=some X.env.locals) (hg:Gl X cn) (hm:X.mg cn=.(r Ch)) (HC:Clss X.K Ch bmH) (hbase:bmH.contains (.type "BaseException")=true) (hsu:∀e,PSs (X.inside e) (b₀::suite) ts)
 (hN:X.N.Nodup) (hi:X.N[i]?=some n) (hl:X.env.kindOf n=some .local) (hs:K1x (.Call (.Name x p) (e::es) [] pos1) none pos2.line X.env=pure false)
 (hdb:.(A)=false:=by decide) (hdc:(cn==("__debug__":Str))=false:=by decide) (he:K03 (e::es) X.env=(false,eval e X.env)::K03 es X.env:=by rfl) (hpl:(backTo pos1 (K03 es X.env)).any (·.1)=false:=by rfl) :
 PS X (.Try [.Expr (.Call (.Name x p) (e::es) [] pos1) pos2] [.ExceptHandler (some (.Name cn np)) (some n) (b₀::suite) hpos] [] [] pos)
  (λD σ H=>t σ H λvs H1=>sp vs H1 (λv H2=>D.nx σ H2) (zq6 X.K Ch λC a H2=>ts { nx:=λ_ _=>False,rt:=D.rt } (σ.set i (.(r a))) (upd H2 a (excO a C)))):=by
 intro pins s σ H D I h
 refine wpAny_Try_except (wpAny_execs_cons ?_)
 refine wpAny_Expr_any (thn (zK6 F hr hgx hmx hk hb ha I h (λH1 s1 u s' I1 c=>?_) hdb he hpl) λv s1 ⟨w,H1,I1,r1,q1⟩=>?_) I.quiet hs
 ·exact z8o hst hf hg hm HC hbase hsu hN hi hl I1 c (λC H' ⟨C',e1,e2,e3⟩=>by cases e1;exact ⟨e2,e3⟩) hdc
 ·exact K57 (K57 ⟨_,H1,I1,q1⟩)
end
def askNames:List Str:="__init__"::z2t
def z4P (K:K0) (N:Addr):Bool:=K91 K N&&askNames.all λn=>K1u K N n==some none
theorem z2D {K:K0}{N:Addr}(q:z4P K N=true) {h:Heap}(X:K.In h):h.Ns N (h.nsMap N)/\∀n∈askNames,h.nsMap N n=none:=by
 unfold z4P at q
 rw [K0h] at q
 refine ⟨.of_isNs (PySem.W.isNs_of_in X q.1),λn hn=>PySem.W.nsMap_none_of_in X q.1 ?_⟩
 have:=K1s.mp q.2 n hn
 simpa using this
structure K3 (K:K0) (mg:Str->Option Value) (c:Str) (C:Addr) (bm:List Value):Prop where
 ns:K1u K K1l c=some (.(r C))
 gl:mg c=.(r C)
 cl:Clss K C bm
 obj:∃o cd,K.lookup C=some o/\o.data=.cls cd
 ex:∀h,K.In h->Ex3 h C "ValueError" bmV
 own:∀h,K.In h->OwnCls c C bmV "ValueError.__new__" mg h
 base:bm.contains (.type "BaseException")=true
 up:∀h,K.In h->Tail3 h bmV (.ref C::bm)/\OwnTail h bmV (.ref C::bm)
theorem k3_of {K:K0}{mg:Str->Option Value}{c:Str}{C:Addr}{bm:List Value}{nm q:Str}{N:Addr}{bs:List Value}{hdct:Bool}{sn:List Str}{sub:List Value}{ab:Bool}{col:Option Bool}{dd:Option Addr}{k0 k1 k2 k3 k5:Option Value}{c':Value}{d':Option Addr}{es:Array Z0o}{ep:Nat}{sl':Array (Option Value)}
 (e:K1u K K1l c=some (.(r C))) (hm:mg c=.(r C)) (l:K.lookup C=some (K7h nm q C N bs bm hdct sn sub ab col dd k0 k1 k2 k3 k5 "ValueError.__new__"))
 (l2:K.lookup N=some ⟨c',d',.dict es ep,sl'⟩) (h2:(es.toList.all λe=>match e.key with|.str _ _=>true|_=>false)=true)
 (n1:K1u K N "__init__" = some none) (n2:K1u K N "__getattribute__" = some none) (n3:K1u K N "__getattr__" = some none) (n4:K1u K N "__class__" = some none)
 (tl:∀h,K.In h->Tail3 h bmV bm/\OwnTail h bmV bm) (hb:bm.contains (.type "BaseException")=true):K3 K mg c C bm:=by
 have hq:z4P K N=true:=by
  have e1:K91 K N=true:=by
   unfold K91
   rw [l2]
   show es.all _=true
   rw [← Array.all_toList]
   exact h2
  unfold z4P askNames z2t
  simp only [K4h,List.all_nil,n1,n2,n3,n4,e1]
  rfl
 refine ⟨e,hm,⟨nm,q,N,bs,hdct,sn,sub,ab,col,dd,k0,k1,k2,k3,k5,_,l⟩,⟨_,_,l,rfl⟩,λh X=>?_,λh X=>?_,hb,λh X=>?_⟩
 ·obtain ⟨n1,n2⟩:=z2D hq X
  exact ⟨nm,q,N,bs,bm,hdct,sn,sub,ab,col,dd,k0,k1,k2,k3,k5,_,_,X _ _ l,n1,λn hn=>n2 n (K11 _ hn),(tl h X).1⟩
 ·obtain ⟨n1,n2⟩:=z2D hq X
  exact ⟨hm,bm,N,nm,q,bs,hdct,sn,sub,ab,col,dd,k0,k1,k2,k3,k5,_,X _ _ l,n1,n2 _ K1d,(tl h X).2⟩
 ·obtain ⟨n1,n2⟩:=z2D hq X
  exact ⟨.own (X _ _ l) n1 (λn hn=>n2 n (K11 _ hn)) (tl h X).1,.own (X _ _ l) n1 (n2 _ K1d) (tl h X).2⟩
end L2
namespace FT
def noE {α:Type} (m:G->M α):G->M α:=λγ h=>match m γ h with
 | .ok a h1=>.ok a h1
 | _=>.bad
theorem z9e {α:Type}{K:K0}{EX:XX}{ρ:List Addr}{H:Hp}{P:α->List Addr->AH->Hp->Prop}{m:G->M α}{γ:G}{h:AH}(f:Fin K EX ρ H P (noE m γ h)):Fin K EX0 ρ H P (m γ h):=by
 unfold noE at f
 cases e:m γ h with
 | ok a h1=>rw [e] at f;exact f
 | err x h1=>rw [e] at f;exact f.elim
 | bad=>rw [e] at f;exact f.elim
section
variable {X:Cx}{EX:XX}{e c:Expr}{es:List Expr}{st:Stmt}{sts:List Stmt}{me:G->M D}{k:G->M Bool}{mr:G->M (List D)}{ms:G->M Out}
theorem PS.nox {t:TS}(h:L2.PS X.nox st t):L2.PS X st t:=λpins s σ H D I hw =>
 K2g (h pins s σ H D (I.wish _) hw) (λ_ _ q=>q.unwish) λ_ _ z=>K1q z
theorem zF1 (h:SC X.nox EX0 c k):SC X EX c (noE k):=⟨PT.imp (PT.nox h.h) λσ H Q ⟨ρ,γ,h,rel,fin⟩=>⟨ρ,γ,h,rel,z9e fin⟩⟩
theorem zR7 (h:S1 X.nox EX0 st ms):S1 X EX st (noE ms):=⟨PS.imp (PS.nox h.h) λσ H D ⟨ρ,γ,h,rel,fin⟩=>⟨ρ,γ,h,rel,z9e fin⟩⟩
end
def EXof (K:K0) (E:XK):XX:=λx _ _ H'=>∀C,K1u K K1l x.cls=some (.(r C))->E (.ref C) none H'
def z5u (c:Str) (mr:G->M (List D)):G->M Out:=λγ h=>match mr γ h with
 | .ok xs h1=>if xs.length≤sizeLine then .err ⟨c,[]⟩ h1 else .bad
 | _=>.bad
section
variable {P:K0m}{w:World}{K:K0}{mg:Str->Option Value}{base:Heap}{N:List Str}{qual c:Str}{scope:Scope}{f C:Addr}{cd:Value}{A:Around}{outer:List Env}{s:Shared}{H:Hp}{E:XK}{bm:List Value}
 {e₀:Expr} {rest:List Expr} {mr:G->M (List D)} {np cpos pos:Pos}
theorem zr9 (T:K3 K mg c C bm) (hg:Gl (cxOf (CXE P w base) P w K mg base N qual scope f cd A outer s H E) c) (ha:SA (cxOf (CXE P w base) P w K mg base N qual scope f cd A outer s H E).nox EX0 (e₀::rest) mr)
 (he:K03 (e₀::rest) (cxOf (CXE P w base) P w K mg base N qual scope f cd A outer s H E).env=(false,eval e₀ (cxOf (CXE P w base) P w K mg base N qual scope f cd A outer s H E).env)::K03 rest (cxOf (CXE P w base) P w K mg base N qual scope f cd A outer s H E).env:=by rfl)
 (hpl:(backTo cpos (K03 rest (cxOf (CXE P w base) P w K mg base N qual scope f cd A outer s H E).env)).any (·.1)=false:=by rfl) (hd:(c==("__debug__":Str))=false:=by decide) :
 S1 (cxOf (CXE P w base) P w K mg base N qual scope f cd A outer s H E) (EXof K E) (.Raise (some (.Call (.Name c np) (e₀::rest) [] cpos)) none pos) (z5u c mr) :=
 ⟨PS.imp (zc9 (R:=λH1=>E (.ref C) none H1) T.own PySem.F.excBase_ValueError rfl hg (t:=λσ H Q=>tL K EX0 mr σ H Q) (λpos pins s σ H Q I q=>PA.quiet ha.h pos I q) (λpins σ H s h' e vs I hm q=>z5s I hm q) he hpl hd) λσ H D ⟨ρ,γ,h,rel,fin⟩=>⟨ρ,γ,h,rel,by
  unfold z5u at fin
  show Fin K EX0 ρ H _ (mr γ h)
  cases e:mr γ h with
  | err x h1=>rw [e] at fin;exact fin.elim
  | bad=>rw [e] at fin;exact fin.elim
  | ok xs h1 =>
   rw [e] at fin
   dsimp only at fin
   split at fin
   ·rename_i hl
    exact λρ1 H1 p1 e1 r1 vs rvs=>⟨by rw [← rvs.length];exact hl,fin ρ1 H1 p1 e1 r1 C T.ns⟩
   ·exact fin.elim⟩⟩
end
def spX (K:K0) (mf:List D->M D) (n:Nat):Sp:=λvs H Q E=>vs.length=n/\∃ρ ds h,RH K ρ h H/\RDs K ρ H ds vs/\FE K (EXof K E) ρ H Q (mf ds h)
structure FnX (P:K0m) (w:World) (K:K0) (mg:Str->Option Value) (base:Heap) (k:Nat) (x:Str) (n:Nat) (mf:List D->M D):Prop where
 ex:∃f fd ps,FnOk P w K mg base (CXE P w base) k f fd ps (spX K mf n)/\Binds K fd ps []/\K3d K (.ref f)=true/\mg x=.(r f)
theorem zF5 {P:K0m}{w:World}{K:K0}{mg:Str->Option Value}{base:Heap}{x:Str}{st:Stmt}{f:Addr}{fd:K2q}{N ps:List Str}{k n:Nat}{mb:G->M Out}(F:Fun K x x st f fd) (S:FnScope N ps (j6 st)) (hb:Binds K fd ps []) (mx:mg x=.(r f)) (hn:ps.length=n)
 (body:∀(cdv:Value) (A:Around) (outer:List Env) (s:Shared) (H:Hp) (E:XK),K2y K cdv x=true->Room k (A.deeper (envOfC x (j6 st) .(3) f cdv)) ->
  SB (cxOf (CXE P w base) P w K mg base N x (j6 st) f cdv A outer s H E) (EXof K E) (z0b st) mb):FnX P w K mg base (k+1) x n (runF N.length mb):=by
 refine ⟨f,fd,ps,?_,hb,F.kp,mx⟩
 obtain ⟨oc,od,kV,doc,pm,an,cdv,ct,osl,rfl,lk,hcd⟩:=F.ex
 refine zy9 lk hcd S (λvs H Q E h=>h.1.trans hn.symm) λA outer s H vs Q E hr h=>?_
 obtain ⟨hl,ρ,ds,h,rh,rd,fin⟩:=h
 refine ⟨_,(body cdv A outer s H E hcd hr).h,ρ,z0D N.length ds,h,⟨z3h rd,rh⟩,?_⟩
 refine (Fin.bind fin).mono λo ρ1 h1 H1 p1 e1 r1 f1=>?_
 cases o with
 | nx γ=>exact λσ _=>FE.here (d:=.non) (h:=h1) f1 r1 .(t)
 | rt d=>exact λv rv=>f1 ρ1 H1 .(6) .(8) r1 v rv
 | bk γ=>exact (show False from f1).elim
 | ct γ=>exact (show False from f1).elim
def Catch (K:K0) (Ch:Addr) (ok:Str->Bool):Prop:=∀c,ok c=true->∀C,K1u K K1l c=some (.(r C))->∃bm,Clss K C bm/\(K1j C::bm).contains (.ref Ch)=true
noncomputable def z9w (n i:Nat) (mf:List D->M D) (mr:G->M (List D)) (ok:Str->Bool) (ms:G->M Out):G->M Out:=λγ h=>match mr γ h with
 | .ok xs h1=>if xs.length=n then (match mf xs h1 with
  | .ok d h2=>.ok (.nx γ) h2
  | .err x h2=>if ok x.cls=true then (match ms (γ.set i (.(r h2.length))) (h2++[.exc x.cls]) with
   | .ok (.rt d) h3=>.ok (.rt d) h3
   | _=>.bad) else .bad
  | .bad=>.bad) else .bad
 | _=>.bad
section
variable {X:Cx}{k n i:Nat}{x cn y:Str}{Ch:Addr}{bmH:List Value}{mf:List D->M D}{mr:G->M (List D)}{ok:Str->Bool}{ms:G->M Out}{e:Expr}{es:List Expr}{b₀:Stmt}{suite:List Stmt}{p pos pos1 pos2 py np hpos:Pos}
theorem zM4 (i:Nat) (F:FnX X.prog X.w X.K X.mg X.base k x n mf) (T:K3 X.K X.mg cn Ch bmH) (hC:Catch X.K Ch ok) (hr:Room k X.A) (hgx:Gl X x) (hg:Gl X cn) (ha:SA X.nox EX0 (e::es) mr) (hsu:∀u,SB (X.inside u) EX0 (b₀::suite) ms)
 (hst:X.stack=X.env::X.outer) (hf:X.env.frame=some X.env.locals) (hN:X.N.Nodup) (hi:X.N[i]?=some y:=by rfl) (hl:X.env.kindOf y=some .local:=by rfl) (hs:K1x (.Call (.Name x p) (e::es) [] pos1) none pos2.line X.env=pure false:=by exact z6A)
 (hdb:.(A)=false:=by decide) (hdc:(cn==("__debug__":Str))=false:=by decide) (he:K03 (e::es) X.env=(false,eval e X.env)::K03 es X.env:=by rfl) (hpl:(backTo pos1 (K03 es X.env)).any (·.1)=false:=by rfl) :
 S1 X EX0 (.Try [.Expr (.Call (.Name x p) (e::es) [] pos1) pos2] [.ExceptHandler (some (.Name cn np)) (some y) (b₀::suite) hpos] [] [] pos) (z9w n i mf mr ok ms):=by
 obtain ⟨f,fd,ps,h1,h2,h3,h4⟩:=F.ex
 refine ⟨PS.imp (zx3 (ts:=tB X.K EX0 ms) (i:=i) h1 hr hgx h4 h3 h2 ha.h hst hf hg T.gl T.cl T.base (λu=>(hsu u).h) hN hi hl hs hdb hdc he hpl) λσ H D ⟨ρ,γ,h,rel,fin⟩=>⟨ρ,γ,h,rel,?_⟩⟩
 unfold z9w at fin
 cases e1:mr γ h with
 | err x h1=>rw [e1] at fin;exact fin.elim
 | bad=>rw [e1] at fin;exact fin.elim
 | ok xs h1 =>
  rw [e1] at fin
  dsimp only at fin
  split at fin
  ·rename_i hl
   refine λρ1 H1 p1 x1 r1 vs rvs=>⟨by rw [← rvs.length];exact hl,ρ1,xs,h1,r1,rvs,?_⟩
   cases e2:mf xs h1 with
   | bad=>rw [e2] at fin;exact fin.elim
   | ok d h2 =>
    rw [e2] at fin
    exact λρ2 H2 p2 x2 r2 v rv=>fin ρ2 H2 (p1.trans p2) (x1.trans x2) r2 _ ((rel.g.mono p1 x1).mono p2 x2)
   | err z h2 =>
    rw [e2] at fin
    dsimp only at fin
    split at fin
    ·rename_i hok
     intro ρ2 H2 p2 x2 r2 C hns
     refine ⟨C,rfl,hC _ hok C hns,λa hna=>?_⟩
     have rP:RH X.K (ρ2++[a]) (h2++[.exc z.cls]) (upd H2 a (excO a C)):=r2.pushO hna ⟨C,hns,y8⟩
     have xP:Ext X.K H2 (upd H2 a (excO a C)):=Ext.upd (.inl hna)
     have at2:(ρ2++[a])[h2.length]?=some a:=by rw [← r2.len];simp
     have rd:RD X.K (ρ2++[a]) (upd H2 a (excO a C)) (.ref h2.length) (.ref a):=by simp only [RD];exact ⟨a,rfl,at2⟩
     refine ⟨ρ2++[a],γ.set i (.(r h2.length)),h2++[.exc z.cls],⟨((((rel.g.mono p1 x1).mono p2 x2).mono (Pre.app _ _) xP).set i rd),rP⟩,?_⟩
     cases e3:ms (γ.set i (.(r h2.length))) (h2++[.exc z.cls]) with
     | bad=>rw [e3] at fin;exact fin.elim
     | err q h3=>rw [e3] at fin;exact fin.elim
     | ok o h3 =>
      rw [e3] at fin
      cases o with
      | nx g=>exact fin.elim
      | bk g=>exact fin.elim
      | ct g=>exact fin.elim
      | rt d=>exact λρ3 H3 p3 x3 r3=>fin ρ3 H3 ((p1.trans p2).trans ((Pre.app _ _).trans p3)) ((x1.trans x2).trans (xP.trans x3)) r3
    ·exact fin.elim
  ·exact fin.elim
end
end FT
namespace L2
section
variable {X:Cx}
theorem z3n:z2q X (.builtin "isinstance") (λxs H Q=>∃a C y u b,xs=[.ref a,y]/\H a=some (excO a C)/\(∀v,RelV y v->v=u)/\(∃o cd,X.K.lookup C=some o/\o.data=.cls cd)/\(∀h,X.K.In h->Ex3 h C "ValueError" bmV)/\K1o X.K (.ref C) u=some b/\Q (.bl b) H):=by
 intro pins s σ H xs us Q I r h
 obtain ⟨a,C,y,u,b,rfl,ha,hu,hcl,hex,hk,q⟩:=h
 obtain ⟨v1,v2,rfl,r1,r2⟩:=vals2 r
 cases r1
 rw [hu _ r2]
 exact K1e (zg9 hcl hex) I.kIn (I.hok a _ ha).1 hk (λz=>nomatch z) λtk=>⟨.bl b,H,I.tok tk,rfl,q⟩
end
section
variable {X:Cx}
end
end L2
namespace FT
def IsX (K:K0) (u:Value) (k:Str->Option Bool):Prop:=∀c b,k c=some b->∀C,K1u K K1l c=some (.(r C))->(∃o cd,K.lookup C=some o/\o.data=.cls cd)/\(∀h,K.In h->Ex3 h C "ValueError" bmV)/\K1o K (.ref C) u=some b
def fIsX (k:Str->Option Bool):D->M D
 | .ref n=>λh=>match h[n]? with
  | some (.exc c)=>(match k c with
   | some b=>.ok (.bl b) h
   | none=>.bad)
  | _=>.bad
 | _=>bad
def eIsX (k:Str->Option Bool) (ma:G->M D):G->M D:=λγ=>do
 let x ← ma γ
 fIsX k x
def fInT (neg:Bool):D->D->M D
 | .str i,.str j=>pure (.bl ((!(K21 j i 0 j.length 1).isEmpty) != neg))
 | _,_=>bad
section
variable {X:Cx}{EX:XX}{a:Expr}{p p2 pos:Pos}{ma:G->M D}{k:Str->Option Bool}
theorem z6E {ρ:List Addr}{h:AH}{H:Hp}{Q:VK}{x:D}{v y:V}{u:Value}(hk:IsX X.K u k) (hy:∀v,RelV y v->v=u) (r:RH X.K ρ h H) (rv:RD X.K ρ H x v) (f:FE X.K EX ρ H Q (fIsX k x h)) :
 ∃a C y' u' b,[v,y]=[.ref a,y']/\H a=some (excO a C)/\(∀v,RelV y' v->v=u')/\(∃o cd,X.K.lookup C=some o/\o.data=.cls cd)/\(∀h,X.K.In h->Ex3 h C "ValueError" bmV)/\K1o X.K (.ref C) u'=some b/\Q (.bl b) H:=by
 cases x<;>first|exact (show False from f).elim|skip
 rename_i n
 simp only [RD] at rv
 obtain ⟨q,rfl,hq⟩:=rv
 unfold fIsX at f
 dsimp only at f
 cases e:h[n]? with
 | none=>rw [e] at f;exact f.elim
 | some ob =>
  rw [e] at f
  cases ob with
  | lst xs=>exact f.elim
  | set ks=>exact f.elim
  | dct=>exact f.elim
  | dK kvs=>exact f.elim
  | dF kvs=>exact f.elim
  | exc c =>
   dsimp only at f
   cases e2:k c with
   | none=>rw [e2] at f;exact f.elim
   | some b =>
    rw [e2] at f
    obtain ⟨a1,n1,C,hns,o1⟩:=r.at e
    rw [hq] at n1;cases n1
    obtain ⟨z1,z2,z3⟩:=hk c b e2 C hns
    exact ⟨q,C,y,u,b,rfl,o1,hy,z1,z2,z3,FE.here (d:=.bl b) (h:=h) f r .(t)⟩
theorem zB0 {T:Str}{T':String}(hg:Gl X "isinstance") (hm:X.mg "isinstance" = none) (hgT:Gl X T) (hmT:X.mg T=none) (hv:K49 T=some (.type T')) (hk:IsX X.K (.type T') k) (ha:SE X EX a ma) (hn:T≠"__name__":=by decide) (hd:(T==("__debug__":Str))=false:=by decide)
 (he:K03 [a,.Name T p2] X.env=[(false,eval a X.env),(false,eval (.Name T p2) X.env)]:=by rfl) (he2:K03 [.Name T p2] X.env=[(false,eval (.Name T p2) X.env)]:=by rfl):SE X EX (.Call (.Name "isinstance" p) [a,.Name T p2] [] pos) (eIsX k ma):=by
 constructor
 have hA:PA X [a,.Name T p2] (z3V (tE X.K EX ma) (z3V (tC (.ty T')) tNil)):=Y2 ha.h (Y2 (z9A hgT hmT hv rfl hn hd) z0R he2) (by rw [he,he2])
 exact PE.imp (z0J z3n hg hm .(2) hA .(1) .(1) (by rw [he,he2]) (by rw [he2];rfl)) λσ H Q ⟨ρ,γ,h,rel,fin⟩=>⟨ρ,γ,h,rel,(Fin.bind fin).mono λx ρ1 h1 H1 p1 e1 r1 f1 v rv=>z6E hk (λv r=>by cases r;rfl) r1 rv f1⟩
theorem z8g {T:Str}{C:Addr}{bm:List Value}(hg:Gl X "isinstance") (hm:X.mg "isinstance" = none) (hgT:Gl X T) (hT:K3 X.K X.mg T C bm) (hk:IsX X.K (.ref C) k) (ha:SE X EX a ma) (hd:(T==("__debug__":Str))=false:=by decide)
 (he:K03 [a,.Name T p2] X.env=[(false,eval a X.env),(false,eval (.Name T p2) X.env)]:=by rfl) (he2:K03 [.Name T p2] X.env=[(false,eval (.Name T p2) X.env)]:=by rfl):SE X EX (.Call (.Name "isinstance" p) [a,.Name T p2] [] pos) (eIsX k ma):=by
 constructor
 have hA:PA X [a,.Name T p2] (z3V (tE X.K EX ma) (z3V (tC (.ref C)) tNil)):=Y2 ha.h (Y2 (z9d hgT hT.gl rfl hd) z0R he2) (by rw [he,he2])
 exact PE.imp (z0J z3n hg hm .(2) hA .(1) .(1) (by rw [he,he2]) (by rw [he2];rfl)) λσ H Q ⟨ρ,γ,h,rel,fin⟩=>⟨ρ,γ,h,rel,(Fin.bind fin).mono λx ρ1 h1 H1 p1 e1 r1 f1 v rv=>z6E hk (λv r=>by cases r;rfl) r1 rv f1⟩
theorem zs0 {K:K0}:BR K EX (λx y H Q=>∃i j,x=.str i/\y=.str j/\Q (.bl (!(!(K21 j i 0 j.length 1).isEmpty))) H) (fInT true):=by
 intro ρ h H x y v u Q r rx ry fin
 unfold fInT at fin
 split at fin
 ·rename_i i j
  simp only [RD] at rx ry;subst rx;subst ry
  refine ⟨i,j,rfl,rfl,FE.here fin r ?_⟩
  cases (K21 j i 0 j.length 1).isEmpty<;>simp [RD]
 ·exact fin.elim
theorem zq9:CO X EX .NotIn (fInT true):=⟨_,z5D,zs0⟩
end
theorem zl4 {K:K0}{c:Str}{C C':Addr}(h:K1u K K1l c=some (.(r C))) (h':K1u K K1l c=some (.(r C'))):C'=C:=by
 rw [h] at h'
 cases h'
 rfl
theorem catch_of {K:K0}{mg:Str->Option Value}{c:Str}{C Ch:Addr}{bm:List Value}(T:K3 K mg c C bm) (h:(K1j C::bm).contains (.ref Ch)=true):Catch K Ch (λx=>x==c):=λx hx C' hns=>by
 have e:x=c:=by simpa using hx
 subst e
 have:=zl4 T.ns hns
 subst this
 exact ⟨bm,T.cl,h⟩
theorem isX_of {K:K0}{mg:Str->Option Value}{c:Str}{C:Addr}{bm:List Value}{u:Value}{b:Bool}(T:K3 K mg c C bm) (h:K1o K (.ref C) u=some b):IsX K u (λx=>if x=c then some b else none):=λx b' hx C' hns=>by
 dsimp only at hx
 split at hx
 ·rename_i e
  subst e
  cases hx
  have:=zl4 T.ns hns
  subst this
  exact ⟨T.obj,T.ex,h⟩
 ·cases hx
section
variable {X:Cx}{EX:XX}
end
section
variable {X:Cx}{EX:XX}{a:Expr}{p p2 pos:Pos}{ma:G->M D}{k:Str->Option Bool}
theorem zN6 {T:Str}{C:Addr}(hg:Gl X "isinstance") (hm:X.mg "isinstance" = none) (hgT:Gl X T) (hT:X.mg T=.(r C)) (hk:IsX X.K (.ref C) k) (ha:SE X EX a ma) (hd:(T==("__debug__":Str))=false:=by decide)
 (he:K03 [a,.Name T p2] X.env=[(false,eval a X.env),(false,eval (.Name T p2) X.env)]:=by rfl) (he2:K03 [.Name T p2] X.env=[(false,eval (.Name T p2) X.env)]:=by rfl):SE X EX (.Call (.Name "isinstance" p) [a,.Name T p2] [] pos) (eIsX k ma):=by
 constructor
 have hA:PA X [a,.Name T p2] (z3V (tE X.K EX ma) (z3V (tC (.ref C)) tNil)):=Y2 ha.h (Y2 (z9d hgT hT rfl hd) z0R he2) (by rw [he,he2])
 exact PE.imp (z0J z3n hg hm .(2) hA .(1) .(1) (by rw [he,he2]) (by rw [he2];rfl)) λσ H Q ⟨ρ,γ,h,rel,fin⟩=>⟨ρ,γ,h,rel,(Fin.bind fin).mono λx ρ1 h1 H1 p1 e1 r1 f1 v rv=>z6E hk (λv r=>by cases r;rfl) r1 rv f1⟩
end
variable {α β:Type}
def W (m:M α) (h:AH) (Q:α->AH->Prop):Prop:=∃a h',m h=.ok a h'/\Q a h'
theorem Z6 {m:M α}{f:α->M β}{h:AH}{Q:β->AH->Prop}:W (m >>= f) h Q↔W m h λa h1=>W (f a) h1 Q:=by
 constructor
 ·rintro ⟨b,h2,e,q⟩
  rw [bindM] at e
  cases em:m h with
  | ok a h1=>rw [em] at e;exact ⟨a,h1,em,b,h2,e,q⟩
  | err x h1=>rw [em] at e;cases e
  | bad=>rw [em] at e;cases e
 ·rintro ⟨a,h1,e,b,h2,e',q⟩
  exact ⟨b,h2,by rw [M.bind_ok e,e'],q⟩
theorem W_pure {a:α}{h:AH}{Q:α->AH->Prop}:W (Z1e a:M α) h Q↔Q a h:=by
 constructor
 ·rintro ⟨b,h2,e,q⟩;cases e;exact q
 ·exact λq=>⟨a,h,rfl,q⟩
theorem z1u {h:AH}{Q:α->AH->Prop}:W (bad:M α) h Q↔False:=by
 constructor
 ·rintro ⟨b,h2,e,q⟩;cases e
 ·exact K1q
theorem z19 {c:Prop} [Decidable c] {m n:M α}{h:AH}{Q:α->AH->Prop}:W (if c then m else n) h Q↔if c then W m h Q else W n h Q:=by
 split<;>exact Iff.rfl
theorem W.mono {m:M α}{h:AH}{Q Q':α->AH->Prop}(z:W m h Q) (f:∀a h',Q a h'->Q' a h'):W m h Q':=let ⟨a,h',e,q⟩:=z;⟨a,h',e,f a h' q⟩
theorem W.of {m:M α}{h h':AH}{a:α}{Q:α->AH->Prop}(e:m h=.ok a h') (q:Q a h'):W m h Q:=⟨a,h',e,q⟩
theorem z6n {γ:G}{h:AH}{Q:Out->AH->Prop}:W (bNil γ) h Q↔Q (.nx γ) h:=W_pure
def zt4 (mt:G->M Out) (Q:Out->AH->Prop):Out->AH->Prop:=λo h=>match o with
 | .nx γ=>W (mt γ) h Q
 | o=>Q o h
theorem z03 {mt:G->M Out}{Q:Out->AH->Prop}{γ:G}{h:AH}:zt4 mt Q (.nx γ) h↔W (mt γ) h Q:=Iff.rfl
theorem z2v {mt:G->M Out}{Q:Out->AH->Prop}{d:D}{h:AH}:zt4 mt Q (.rt d) h↔Q (.rt d) h:=Iff.rfl
theorem w_cons {ms mt:G->M Out}{γ:G}{h:AH}{Q:Out->AH->Prop}:W (Z0 ms mt γ) h Q↔W (ms γ) h (zt4 mt Q):=by
 unfold Z0
 rw [Z6]
 constructor
 ·rintro ⟨o,h1,e,q⟩
  refine ⟨o,h1,e,?_⟩
  cases o with
  | nx γ=>exact q
  | rt d=>exact (W_pure (a:=Out.rt d) (Q:=Q)).mp q
  | bk d=>exact (W_pure (a:=Out.bk d) (Q:=Q)).mp q
  | ct d=>exact (W_pure (a:=Out.ct d) (Q:=Q)).mp q
 ·rintro ⟨o,h1,e,q⟩
  refine ⟨o,h1,e,?_⟩
  cases o with
  | nx γ=>exact q
  | rt d=>exact W_pure.mpr q
  | bk d=>exact W_pure.mpr q
  | ct d=>exact W_pure.mpr q
def runW (Q:D->AH->Prop):Out->AH->Prop:=λo h=>match o with
 | .nx _=>Q .non h
 | .rt d=>Q d h
 | _=>False
theorem z2C {n:Nat}{mb:G->M Out}{ds:List D}{h:AH}{Q:D->AH->Prop}(z:W (mb (z0D n ds)) h (runW Q)):W (runF n mb ds) h Q:=by
 unfold runF
 rw [Z6]
 refine z.mono λo h1 q=>?_
 cases o with
 | nx γ=>exact W_pure.mpr q
 | rt d=>exact W_pure.mpr q
 | bk d=>exact q.elim
 | ct d=>exact q.elim
theorem w_if {k:G->M Bool}{ms mt:G->M Out}{γ:G}{h:AH}{Q:Out->AH->Prop}:W (sIf k ms mt γ) h Q↔W (k γ) h λt h1=>if t=true then W (ms γ) h1 Q else W (mt γ) h1 Q:=by
 unfold sIf
 rw [Z6]
 simp only [z19]
theorem z2P {i j:Int}:fAdd (.int i) (.int j)=pure (.int (i+j)):=rfl
theorem zK0 {i j:Int}:fGt (.int i) (.int j)=pure (.bl (decide (j<i))):=rfl
theorem zQ6 {i j:Int}:fGe (.int i) (.int j)=pure (.bl (decide (j≤i))):=rfl
theorem zj1 {i j:Int}:fLt (.int i) (.int j)=pure (.bl (decide (i<j))):=rfl
theorem zM5 {i j:Int}:fLe (.int i) (.int j)=pure (.bl (decide (i≤j))):=rfl
theorem z8i {i j:Int}{b:Bool}:fEq b (.int i) (.int j)=pure (.bl (decide (i=j) != b)):=rfl
theorem z0M {b:Bool}:asB (.bl b)=pure b:=rfl
theorem z6h {n:Nat}{h:AH}{Q:Nat->AH->Prop}:W (z2h (.ref n)) h Q↔W (getL n) h λ_ h1=>Q n h1:=by
 unfold W z2h getL
 dsimp only
 cases e:h[n]? with
 | none=>exact .(q)
 | some o =>
  cases o with
  | set ks=>exact .(q)
  | dct=>exact .(q)
  | dK kvs=>exact .(q)
  | dF kvs=>exact .(q)
  | exc c=>exact .(q)
  | lst xs=>exact ⟨λ⟨_,_,z,q⟩=>(by cases z;exact ⟨xs,h,rfl,q⟩),λ⟨_,_,z,q⟩=>(by cases z;exact ⟨n,h,rfl,q⟩)⟩
theorem zp6 {b:Int}{t:String}:fIsi t (.int b)=pure (.bl (subT "int" t)):=rfl
theorem zv3 {b:List D}{t:String}:fIsi t (.tup b)=pure (.bl (subT "tuple" t)):=rfl
def forW (J:G->AH->Prop) (R:D->AH->Prop):Out->AH->Prop:=λo h=>match o with
 | .nx γ=>J γ h
 | .ct γ=>J γ h
 | .bk _=>False
 | .rt d=>R d h
def endW (J:G->AH->Prop) (R:D->AH->Prop):Out->AH->Prop:=λo h=>match o with
 | .nx γ=>J γ h
 | .ct _=>False
 | .bk _=>False
 | .rt d=>R d h
theorem z6u {src:Src}{g:D->G->M G}{body:G->M Out}(I:Nat->G->AH->Prop) (R:D->AH->Prop) (good:∀i γ h,I i γ h->src.good h):∀(items:List D) (n:Nat) (γ:G) (h:AH),
 (∀i d γ h,items[i]?=some d->I (n+i) γ h->W (g d γ) h λγ1 h1=>W (body γ1) h1 (forW (I (n+i+1)) R))->I n γ h ->
 W (forR src g body items γ) h (endW (I (n+items.length)) R)
 | [],n,γ,h,_,q=>⟨.nx γ,h,by unfold forR Src.chk;simp [good _ _ _ q],q⟩
 | d::r,n,γ,h,z,q=>by
  unfold forR
  rw [Z6]
  refine W.of (a:=()) (h':=h) (by unfold Src.chk;simp [good _ _ _ q]) ?_
  rw [Z6]
  refine (z 0 d γ h rfl q).mono λγ1 h1 q1=>?_
  rw [Z6]
  refine q1.mono λo h2 q2=>?_
  have step:∀γ2,I (n+0+1) γ2 h2->W (forR src g body r γ2) h2 (endW (I (n+(d::r).length)) R):=λγ2 w=>by
   have:=z6u (src:=src) I R good r (n+1) γ2 h2 (λi d γ h e q=>by
    have:=z (i+1) d γ h (by simpa using e) (by rw [show n+(i+1)=n+1+i by omega];exact q)
    rw [show n+(i+1)+1=n+1+i+1 by omega] at this
    exact this) (by simpa using w)
   rw [show n+1+r.length=n+(d::r).length by simp;omega] at this
   exact this
  cases o with
  | nx γ2=>exact step γ2 q2
  | ct γ2=>exact step γ2 q2
  | bk γ2=>exact q2.elim
  | rt v=>exact W_pure.mpr q2
theorem z2w {ms mt:G->M Out}{γ:G}{h:AH}{Q:Out->AH->Prop}(J:G->AH->Prop) (z:W (ms γ) h (endW J λd h=>Q (.rt d) h)) (k:∀γ h,J γ h->W (mt γ) h Q):W (Z0 ms mt γ) h Q:=by
 rw [w_cons]
 refine z.mono λo h1 q=>?_
 cases o with
 | nx γ=>exact k γ h1 q
 | rt d=>exact q
 | bk d=>exact q.elim
 | ct d=>exact q.elim
theorem z5A {n i:Nat}{d:D}(e:(z0q n)[i]?=some d):d=.int i/\i<n:=by
 unfold z0q at e
 rw [K07] at e
 obtain ⟨j,e1,e2⟩:=K16.mp e
 obtain ⟨h1,h2⟩:=K2.mp e1
 simp at h1 h2
 subst h2
 exact ⟨e2.symm,h1⟩
theorem Y8 {ma:G->M D}{i:Nat}{body:G->M Out}{γ:G}{h:AH}(I:Nat->G->AH->Prop) (R:D->AH->Prop) {Q:Out->AH->Prop}
 (hs:W (ma γ) h λd h1=>∃n:Nat,d=.int n/\n<4611686018427387904/\I 0 γ h1/\(∀k γ h,k<n->I k γ h->W (body (γ.set i (.(i k)))) h (forW (I (k+1)) R))/\(∀γ h',I n γ h'->Q (.nx γ) h')/\∀d h',R d h'->Q (.rt d) h') :
 W (sFor (z0k ma) (gN i) body γ) h Q:=by
 unfold sFor z0k
 rw [Z6,Z6]
 refine hs.mono λd h1 ⟨n,e,hn,i0,st,fin⟩=>?_
 subst e
 dsimp only
 rw [if_pos .(0),W_pure]
 have:=z6u (src:=.con (z0q (n:Int).toNat)) (g:=gN i) (body:=body) I R (λ_ _ _ _=>trivial) (z0q (n:Int).toNat) 0 γ h1 (λk d γ h e q=>by
  obtain ⟨rfl,hk⟩:=z5A e
  rw [K6h] at q ⊢
  exact W_pure.mpr (st k γ h (by simpa using hk) q)) i0
 rw [show 0+(z0q (n:Int).toNat).length=n by unfold z0q;simp] at this
 refine this.mono λo h' q=>?_
 cases o with
 | nx γ=>exact fin.1 γ h' q
 | rt d=>exact fin.2 d h' q
 | bk d=>exact q.elim
 | ct d=>exact q.elim
theorem z22 {mi:G->M Src}{g:D->G->M G}{body:G->M Out}{γ:G}{h:AH}(I:Nat->G->AH->Prop) (R:D->AH->Prop) {Q:Out->AH->Prop}
 (hs:W (mi γ) h λsrc h1=>I 0 γ h1/\(∀i γ h,I i γ h->src.good h)/\(∀i d γ h,src.items[i]?=some d->I i γ h->W (g d γ) h λγ1 h1=>W (body γ1) h1 (forW (I (i+1)) R))/\(∀γ h',I src.items.length γ h'->Q (.nx γ) h')/\∀d h',R d h'->Q (.rt d) h') :
 W (sFor mi g body γ) h Q:=by
 unfold sFor
 rw [Z6]
 refine hs.mono λsrc h1 ⟨i0,good,st,fin⟩=>?_
 have:=z6u (src:=src) (g:=g) (body:=body) I R good src.items 0 γ h1 (λk d γ h e q=>by
  rw [K6h] at q ⊢
  exact st k d γ h e q) i0
 rw [K6h] at this
 refine this.mono λo h' q=>?_
 cases o with
 | nx γ=>exact fin.1 γ h' q
 | rt d=>exact fin.2 d h' q
 | bk d=>exact q.elim
 | ct d=>exact q.elim
theorem z5k {ma:G->M D}{γ:G}{h h1:AH}{n:Nat}(e:ma γ h=.ok (.int n) h1) (hn:n<4611686018427387904):z0k ma γ h=.ok (.con (z0q n)) h1:=by
 unfold z0k
 rw [M.bind_ok e]
 dsimp only
 rw [if_pos .(0)]
 rfl
theorem z3p {k:G->M Bool}{body:G->M Out}(I:Nat->G->AH->Prop) (E:G->AH->Prop) (R:D->AH->Prop)
 (z:∀m γ h,I m γ h->W (k γ) h λb h1=>if b=true then ∃m',m=m'+1/\W (body γ) h1 (forW (λγ h=>∃i,i≤m'/\I i γ h) R) else E γ h1):∀(n m:Nat) (γ:G) (h:AH),m<n->I m γ h ->
 W (z1W k body n γ) h (endW E R)
 | 0,m,γ,h,hm,_=>by omega
 | n+1,m,γ,h,hm,q=>by
  unfold z1W
  rw [Z6]
  refine (z m γ h q).mono λb h1 q1=>?_
  cases b with
  | false =>
   rw [if_neg .(1)] at q1 ⊢
   exact W_pure.mpr q1
  | true =>
   rw [if_pos rfl] at q1 ⊢
   obtain ⟨m',rfl,q2⟩:=q1
   rw [Z6]
   refine q2.mono λo h2 q3=>?_
   cases o with
   | nx γ2=>obtain ⟨i,hi,q4⟩:=q3;exact z3p I E R z n i γ2 h2 .(0) q4
   | ct γ2=>obtain ⟨i,hi,q4⟩:=q3;exact z3p I E R z n i γ2 h2 .(0) q4
   | bk γ2=>exact q3.elim
   | rt v=>exact W_pure.mpr q3
theorem z37 {g:D->G->M G}{k:G->M Bool}{me:G->M D}{γ:G}{p:D->Bool}{f:D->D}(src:Src) (h0:AH) (hg:∀j,src.good (h0++j)):∀(items:List D) (acc:List D),acc.length+items.length≤1000000 ->
 (∀d∈items,∃γ1,(∀h,g d γ h=.ok γ1 h)/\(∀j,k γ1 (h0++j)=.ok (p d) (h0++j))/\(p d=true->∀j,me γ1 (h0++j)=.ok (f d) (h0++j))) ->
 z26 src g k me h0.length γ items (h0++[.lst acc])=.ok () (h0++[.lst (acc++(items.filter p).map f)])
 | [],acc,hl,hd=>by unfold z26 Src.chk;simp [hg]
 | d::r,acc,hl,hd=>by
  obtain ⟨γ1,e1,e2,e3⟩:=hd d K1d
  unfold z26
  have chk:src.chk (h0++[.lst acc])=.ok () (h0++[.lst acc]):=by unfold Src.chk;simp [hg]
  rw [M.bind_ok chk,M.bind_ok (e1 _),M.bind_ok (e2 _)]
  simp only [K0g] at hl
  have hr:∀d∈r,∃γ1,(∀h,g d γ h=.ok γ1 h)/\(∀j,k γ1 (h0++j)=.ok (p d) (h0++j))/\(p d=true->∀j,me γ1 (h0++j)=.ok (f d) (h0++j)):=λx hx=>hd x (K11 _ hx)
  cases hp:p d with
  | false =>
   rw [if_neg .(1),z37 src h0 hg r acc .(0) hr,Z0s,hp]
   rfl
  | true =>
   rw [if_pos rfl,M.bind_ok (e3 hp _)]
   have ap:j8 h0.length (f d) (h0++[.lst acc])=.ok .non (h0++[.lst (acc++[f d])]):=by
    unfold j8 updL
    have g1:(h0++[O.lst acc])[h0.length]?=.(l acc):=by simp
    rw [g1]
    dsimp only
    have hs:(acc++[f d]).length≤sizeLine:=by
     rw [K01,K4l]
     exact K0r (show acc.length+1≤1000000 by omega) .(1)
    rw [if_pos hs]
    simp
   rw [M.bind_ok ap,z37 src h0 hg r (acc++[f d]) (by simp;omega) hr,Z0s,hp]
   simp
theorem z1w {cap:List (Option Nat)}{mi:G->M Src}{g:D->G->M G}{k:G->M Bool}{me:G->M D}{γ:G}{src:Src}{h:AH}(p:D->Bool) (f:D->D) (hi:mi γ h=.ok src h) (hg:∀j,src.good (h++j)) (hl:src.items.length≤1000000)
 (hd:∀d∈src.items,∃γ1,(∀h,g d (capG cap γ) h=.ok γ1 h)/\(∀j,k γ1 (h++j)=.ok (p d) (h++j))/\(p d=true->∀j,me γ1 (h++j)=.ok (f d) (h++j))) :
 x9 cap mi g k me γ h=.ok .(r) (h++[.lst ((src.items.filter p).map f)]):=by
 have e:=z37 (g:=g) (k:=k) (me:=me) (γ:=capG cap γ) (p:=p) (f:=f) src h hg src.items [] (by simpa using hl) hd
 show (mi γ >>= _) h=_
 rw [M.bind_ok hi]
 rw [M.bind_ok (m:=(λh=>Res.ok (Z0u h) (h++[O.lst []]):M Nat)) (h:=h) rfl]
 rw [M.bind_ok (by simpa using e)]
 rfl
def Kp (r r':AH):Prop:=∀(n:Nat) (o:O),r[n]?=some o->r'[n]?=some o
theorem z8B {src:Src}{g:D->G->M G}{k:G->M Bool}{me:G->M D}{n0:Nat}{γ:G}(I:Nat->AH->Prop) (good:∀i h,I i h->src.good h):∀(items:List D) (n:Nat) (h:AH),
 (∀i d h,items[i]?=some d->I (n+i) h->W (g d γ) h λγ1 h1=>W (k γ1) h1 λt h2=>if t=true then W (me γ1) h2 λv h3=>W (j8 n0 v) h3 λ_ h4=>I (n+i+1) h4 else I (n+i+1) h2)->I n h ->
 W (z26 src g k me n0 γ items) h λ_ h'=>I (n+items.length) h'
 | [],n,h,_,q=>⟨(),h,by unfold z26 Src.chk;simp [good _ _ q],q⟩
 | d::r,n,h,z,q=>by
  have more:∀h2,I (n+0+1) h2->W (z26 src g k me n0 γ r) h2 λ_ h'=>I (n+(d::r).length) h':=λh2 q2=>by
   have:=z8B (src:=src) (g:=g) (k:=k) (me:=me) (n0:=n0) (γ:=γ) I good r (n+1) h2 (λi d h e q=>by
    have:=z (i+1) d h (by simpa using e) (by rw [show n+(i+1)=n+1+i by omega];exact q)
    rw [show n+(i+1)+1=n+1+i+1 by omega] at this
    exact this) (by simpa using q2)
   rw [show n+1+r.length=n+(d::r).length by simp;omega] at this
   exact this
  unfold z26
  rw [Z6]
  refine W.of (a:=()) (h':=h) (by unfold Src.chk;simp [good _ _ q]) ?_
  rw [Z6]
  refine (z 0 d h rfl q).mono λγ1 h1 q1=>?_
  rw [Z6]
  refine q1.mono λt h2 q2=>?_
  cases t with
  | false=>rw [if_neg .(1)] at q2 ⊢;exact more h2 q2
  | true =>
   rw [if_pos rfl] at q2 ⊢
   rw [Z6]
   refine q2.mono λv h3 q3=>?_
   rw [Z6]
   exact q3.mono λ_ h4 q4=>more h4 q4
theorem zL5 {cap:List (Option Nat)}{mi:G->M Src}{g:D->G->M G}{k:G->M Bool}{me:G->M D}{γ:G}{h:AH}{Q:D->AH->Prop}
 (hs:W (mi γ) h λsrc h1=>∃I:Nat->AH->Prop,I 0 (h1++[.lst []])/\(∀i h,I i h->src.good h) /\
  (∀i d h,src.items[i]?=some d->I i h->W (g d (capG cap γ)) h λγ1 h1'=>W (k γ1) h1' λt h2=>if t=true then W (me γ1) h2 λv h3=>W (j8 h1.length v) h3 λ_ h4=>I (i+1) h4 else I (i+1) h2) /\
  ∀h',I src.items.length h'->Q (.ref h1.length) h'):W (x9 cap mi g k me γ) h Q:=by
 unfold x9
 rw [Z6]
 refine hs.mono λsrc h1 ⟨I,i0,good,st,fin⟩=>?_
 rw [Z6]
 refine W.of (a:=h1.length) (h':=h1++[.lst []]) rfl ?_
 rw [Z6]
 have:=z8B (src:=src) (g:=g) (k:=k) (me:=me) (n0:=h1.length) (γ:=capG cap γ) I good src.items 0 (h1++[.lst []]) (λi d h e q=>by
  rw [K6h] at q ⊢
  exact st i d h e q) i0
 rw [K6h] at this
 refine this.mono λ_ h' q=>?_
 rw [W_pure]
 exact fin h' q
class Grow (I:AH->Prop):Prop where
 app:∀h j,I h->I (h++j)
section
variable {I:AH->Prop} [Grow I]
end
section
variable {I:AH->Prop} [Grow I] {J J':G->Prop}
end
def Pool (gr sm:List Int) (s c:Int) (r:AH):AH:=.lst (gr.map .int)::.lst (sm.map .int)::.lst [.ref 0,.ref 1,.int s,.int c]::r
def PS (h:AH) (k:Int) (r:AH):Prop:=∃gr sm s c,h=Pool gr sm s c r/\0≤s/\s<2147483647/\0≤c/\c≤k/\gr.length≤63/\sm.length≤63
theorem PS.up {h:AH}{k k':Int}{r:AH}(p:PS h k r) (hk:k≤k'):PS h k' r:=by
 obtain ⟨gr,sm,s,c,e,h1,h2,h3,h4,h5,h6⟩:=p
 exact ⟨gr,sm,s,c,e,h1,h2,h3,by omega,h5,h6⟩
theorem PS.app {h:AH}{k:Int}{r:AH}(p:PS h k r) (j:AH):PS (h++j) k (r++j):=by
 obtain ⟨gr,sm,s,c,e,q⟩:=p
 exact ⟨gr,sm,s,c,by rw [e];rfl,q⟩
theorem PS.get {h:AH}{k:Int}{r:AH}(p:PS h k r) (n:Nat):h[n+3]?=r[n]?:=by
 obtain ⟨gr,sm,s,c,e,q⟩:=p
 rw [e];rfl
theorem PS.len {h:AH}{k:Int}{r:AH}(p:PS h k r):h.length=r.length+3:=by
 obtain ⟨gr,sm,s,c,e,q⟩:=p
 rw [e];rfl
theorem PS.set {h:AH}{k:Int}{r:AH}(p:PS h k r) (n:Nat) (o:O):PS (h.set (n+3) o) k (r.set n o):=by
 obtain ⟨gr,sm,s,c,e,q⟩:=p
 exact ⟨gr,sm,s,c,by rw [e];rfl,q⟩
theorem z5Y {h:AH}{k:Int}{r:AH}{n:Nat}{xs:List D}{Q:List D->AH->Prop}(p:PS h k r) (e:r[n]?=.(l xs)) (q:Q xs h):W (getL (n+3)) h Q :=
 ⟨xs,h,by unfold getL;rw [p.get,e],q⟩
theorem z1R {h:AH}{k:Int}{r:AH}{xs:List D}{Q:D->AH->Prop}(p:PS h k r) (hl:xs.length≤1000000) (z:∀h',PS h' k (r++[.lst xs])->Q (.ref (r.length+3)) h'):W (newL xs) h Q :=
 ⟨.ref (r.length+3),h++[.lst xs],by unfold newL;rw [if_pos (K0r hl .(1)),p.len],z _ (p.app _)⟩
theorem z7t {h:AH}{k:Int}{r:AH}{n:Nat}{xs:List D}{v:D}{Q:D->AH->Prop}(p:PS h k r) (e:r[n]?=.(l xs)) (hl:xs.length<1000000) (z:∀h',PS h' k (r.set n (.lst (xs++[v])))->Q .non h'):W (j8 (n+3) v) h Q :=
 ⟨.non,h.set (n+3) (.lst (xs++[v])),by
  unfold j8 updL
  rw [p.get,e]
  dsimp only
  rw [if_pos (K0r (by simp;omega:(xs++[v]).length≤1000000) .(1))],z _ (p.set _ _)⟩
theorem x8 {r j:AH}{n:Nat}{o:O}(e:r[n]?=some o):(r++j)[n]?=some o:=by
 rw [K0i (K2.mp e).1,e]
theorem z4k {r:AH}{o:O}:(r++[o])[r.length]?=some o:=by simp
def z6o (x:Str):Prop:=1≤x.length/\x.length≤8/\(∀c∈x.cps.toList,97≤c/\c≤122) /\
 x∉(["yes","no","not","and","or","step","some","all","next","once","ever","until","unless"]:List Str)
theorem len_str (x:Str):x.length=x.cps.toList.length:=by simp [K9m]
theorem z4u (a:Str):∀l:List Str,((l.map D.str).any λz=>eqF z (.str a))=decide (a∈l)
 | []=>by simp
 | b::l=>by
  rw [K0q,K2d,z4u a l]
  simp only [eqF]
  rw [K0z]
  simp only [K2f,beq_iff_eq,decide_eq_true_eq,K0x]
  constructor
  ·rintro (h|h)
   ·exact .inl h.symm
   ·exact .inr h
  ·rintro (h|h)
   ·exact .inl h.symm
   ·exact .inr h
theorem z2l:∀l:List Str,(l.map D.str).all z0n=true
 | []=>rfl
 | _::l=>by rw [K0q,K4h,z2l l];rfl
def low (x:Str):Prop:=∀c∈x.cps.toList,97≤c/\c≤122
def abc:Str:="abcdefghijklmnopqrstuvwxyz"
theorem zr2:abc.cps.toList=(K00 26).map (·+97):=by decide +kernel
theorem zo7:abc.length=26:=by decide +kernel
theorem zL8 {d:Int}(h0:0≤d) (h1:d<26):fIx (.str abc) (.int d)=pure (.str ⟨#[d.toNat+97]⟩):=by
 unfold fIx
 dsimp only
 rw [if_pos (by rw [zo7];decide),zr2]
 obtain ⟨n,rfl⟩:=K22 h0
 have hn:n<26:=by omega
 rw [z0S (v:=n+97) (by simp [hn])]
 simp
theorem z4n (x y:Str):(x++y).cps.toList=x.cps.toList++y.cps.toList:=Array.toList_append
theorem len_app (x y:Str):(x++y).length=x.length+y.length:=by rw [len_str,z4n,K01,← len_str,← len_str]
theorem zJ1 {x y:Str}(h:x.length+y.length≤1000):fAdd (.str x) (.str y)=pure (.str (x++y)):=by
 show (if x.length+y.length≤sizeLine then _ else _)=_
 rw [if_pos (K0r h .(1))]
theorem z3B (c:Nat):K9m ⟨#[c]⟩=1:=rfl
theorem z6F {x:Str}{c:Nat}(h:low x) (h1:97≤c) (h2:c≤122):low (x++⟨#[c]⟩):=by
 intro d hd
 rw [z4n] at hd
 rcases K0o.mp hd with q|q
 ·exact h d q
 ·simp at q;omega
theorem z4M {x:Str}{h:AH}{k d:Int}{r:AH}{Q:D->AH->Prop}(h0:0≤d) (h1:d<26) (hx:x.length≤100) (q:Q (.str (x++⟨#[d.toNat+97]⟩)) h):W (fIx (.str abc) (.int d)) h λa h1=>W (fAdd (.str x) a) h1 Q:=by
 rw [zL8 h0 h1,W_pure,zJ1 (by rw [z3B];omega),W_pure]
 exact q
def words:List Str:=["yes","no","not","and","or","step","some","all","next","once","ever","until","unless"]
def cand (x:Str) (l:Int) (i:Nat):Str:=x++⟨#[((l+i) % 26).toNat+97]⟩
theorem ze8 {x:Str}{l:Int}(h0:0≤l) {i j:Nat}(hi:i<26) (hj:j<26) (e:cand x l i=cand x l j):i=j:=by
 have e2:(cand x l i).cps.toList=(cand x l j).cps.toList:=by rw [e]
 unfold cand at e2
 rw [z4n,z4n] at e2
 have:=List.append_cancel_left e2
 simp at this
 omega
theorem zI1 {x:Str}{l:Int}(h0:0≤l) {ns:List Str}(hn:ns.length≤7) (h:∀i:Nat,i<26->cand x l i∈words∨cand x l i∈ns):False:=by
 have nd:((K00 26).map (cand x l)).Nodup:=by
  rw [List.nodup_iff_pairwise_ne,K7e]
  refine K7k ?_ Z0p
  intro a b ha hb hne e
  exact hne (ze8 h0 (by simpa using ha) (by simpa using hb) e)
 have sub:((K00 26).map (cand x l)) ⊆ words++ns:=by
  intro y hy
  obtain ⟨i,hi,rfl⟩:=K09.mp hy
  exact K0o.mpr (h i (by simpa using hi))
 have:=nd.length_le_of_subset sub
 rw [K02,K2b,K01] at this
 have w:words.length=13:=rfl
 omega
theorem zn4 {h:AH}{k:Int}{r:AH}{n:Nat}{ns:List Str}{x:Str}{neg:Bool}(p:PS h k r) (e:r[n]?=.(l (ns.map .str))):fIn neg (.str x) (.ref (n+3)) h=.ok (.bl (decide (x∈ns) != neg)) h:=by
 have g:getL (n+3) h=.ok (ns.map .str) h:=by unfold getL;rw [p.get,e]
 unfold fIn seqD
 rw [M.bind_ok g,z4u,z2l]
 rfl
theorem zG1 {h:AH}{k:Int}{r:AH}{n:Nat}{xs:List D}{i:Int}{d:D}{Q:D->AH->Prop}(p:PS h k r) (e:r[n]?=.(l xs)) (a:atI xs i=some d) (q:Q d h):W (fIx (.ref (n+3)) (.int i)) h Q:=by
 show W (getL (n+3) >>= λxs=>match atI xs i with|some d=>pure d|none=>bad) h Q
 rw [Z6]
 refine z5Y p e ?_
 rw [a]
 exact W_pure.mpr q
theorem zm5 {h:AH}{k:Int}{r:AH}{n:Nat}{xs:List D}{Q:D->AH->Prop}(p:PS h k r) (e:r[n]?=.(l xs)) (q:Q (.int xs.length) h):W (fLen [.ref (n+3)]) h Q:=by
 show W (getL (n+3) >>= λxs=>pure (.int xs.length)) h Q
 rw [Z6]
 refine z5Y p e ?_
 exact W_pure.mpr q
theorem zp0:low "":=by
 intro c hc
 have:(K4v "").cps.toList=[]:=by decide +kernel
 rw [this] at hc
 cases hc
theorem zs9:K9m "" = 0:=by decide +kernel
def NS (ns:List Str):Prop:=ns.Nodup/\∀x∈ns,z6o x
def stD (l:List Nat):List D:=l.map λ(i:Nat)=>.int i
structure MK (l:List Str):Prop where
 len:l.length≤8
 good:∀x∈l,z6o x
 rise:l.Pairwise λa b=>a.cps.toList<b.cps.toList
structure MA (st:List .(O)) (mk:List (List Str)):Prop where
 l1:1≤.(h)
 l2:.(h)≤40
 l3:mk.length=.(h)
 s1:∀l∈st,l.Pairwise (·<·)
 s2:∀l∈st,∀x∈l,x<.(h)
 m1:∀l∈mk,MK l
def stsD (st:List .(O)):List D:=st.map λl=>.tup (stD l)
def mksD (mk:List (List Str)):List D:=mk.map λl=>.tup (l.map .str)
def maD (st:List .(O)) (mk:List (List Str)):D:=.tup [.tup (stsD st),.tup (mksD mk)]
def bear (x:Str) (mk:List (List Str)) (i:Nat):Bool:=decide (x = "")||decide (x∈(mk[i]?).getD [])
theorem z9r {mk:List (List Str)}{i:Nat}(hi:i<mk.length):atI (mksD mk) (i:Int)=.(g ((((mk[i]?).getD []).map .str))):=by
 refine z0S ?_
 unfold mksD
 rw [K07,K6 hi]
 rfl
theorem z4e (a b:Str):leS a b=true↔a.cps.toList≤b.cps.toList:=by
 unfold leS
 simp [K4s]
theorem z7Q {l:List Str}(h:l.Nodup):(z1b l).Pairwise λa b=>a.cps.toList<b.cps.toList:=by
 have s:(z1b l).Pairwise λa b=>leS a b=true:=K5k (λa b c h1 h2=>(z4e a c).mpr (List.le_trans ((z4e a b).mp h1) ((z4e b c).mp h2)))
  (λa b=>by
   rw [K2f,z4e,z4e]
   exact List.le_total _ _) l
 have n:(z1b l).Nodup:=(K3x l leS).nodup_iff.mpr h
 refine (K9y s n).imp λ{a b} q=>?_
 obtain ⟨q1,q2⟩:=q
 have q3:=(z4e a b).mp q1
 by_cases lt:a.cps.toList<b.cps.toList
 ·exact lt
 ·exact absurd (z8C (Z0q q3 (K4s.mp lt))) q2
theorem sortS_mem {l:List Str}{x:Str}:x∈z1b l↔x∈l:=(K3x l leS).mem_iff
theorem z3i (l:List Str):(z1b l).length=l.length:=(K3x l leS).length_eq
theorem strs_map:∀l:List Str,z2U (l.map .str)=some l
 | []=>rfl
 | a::l=>by simp [z2U,strs_map l]
def AM (st:List .(O)) (mk:List (List Str)) (n:Nat):Prop:=(∀l∈st,l.Pairwise (·<·))/\(∀l∈st,∀x∈l,x<n)/\∀l∈mk,MK l
theorem z1U (ns:List Int) (p:D->Bool):((ns.map D.int).filter p).map (λd=>d)=(ns.filter λi=>p (.int i)).map D.int:=by
 rw [Z00,K8s]
 rfl
theorem zI2:fPow (.int 10) (.int 18)=pure (.int 1000000000000000000):=rfl
theorem z1C (xs:List D):fLen [.tup xs]=pure (.int xs.length):=rfl
theorem ix_tup {xs:List D}{i:Int}{d:D}(a:atI xs i=some d):fIx (.tup xs) (.int i)=pure d:=by
 have:fIx (.tup xs) (.int i)=(pure xs >>= λxs=>match atI xs i with|some d=>pure d|none=>bad):=rfl
 rw [this]
 show (match atI xs i with|some d=>pure d|none=>bad)=_
 rw [a]
theorem z58 {l:List Nat}{c:Nat}(hc:c<l.length):atI (stD l) (c:Int)=.(i (((l[c]?).getD 0:Nat))):=by
 refine z0S ?_
 unfold stD
 rw [K07,K6 hc]
 rfl
section
variable {P:K0m}{w:World}{K:K0}{mg:Str->Option Value}{base:Heap}
theorem zS8 {x:Str}{st:Stmt}{f:Addr}{fd:K2q}{N ps:List Str}{k n:Nat}{mb:G->M Out}(F:Fun K x x st f fd) (S:FnScope N ps (j6 st)) (hn:ps.length=n)
 (body:∀(cdv:Value) (A:Around) (outer:List Env) (s:Shared) (H:Hp) (E:XK),Room k (A.deeper (envOfC x (j6 st) .(3) f cdv)) ->
  SB (cxOf CX0 P w K mg base N x (j6 st) f cdv A outer s H E).nox EX0 (z0b st) mb):FnOk P w K mg base CX0 (k+1) f fd ps (spB K (runF N.length mb) n):=by
 refine F.ok S (λvs H Q E h=>h.1.trans hn.symm) (λcdv A outer s H vs Q E hr h=>?_)
 obtain ⟨hl,ρ,ds,h,rh,rd,fin⟩:=h
 refine ⟨_,(body cdv A outer s H E hr).h,ρ,z0D N.length ds,h,⟨z3h rd,rh⟩,?_⟩
 refine (Fin.bind fin).mono λo ρ1 h1 H1 p1 e1 r1 f1=>?_
 cases o with
 | nx γ=>exact λσ _=>FE.here (d:=.non) (h:=h1) f1 r1 .(t)
 | rt d=>exact λv rv=>f1 ρ1 H1 .(6) .(8) r1 v rv
 | bk γ=>exact (show False from f1).elim
 | ct γ=>exact (show False from f1).elim
theorem bindsTo1 {x p:Str}{st:Stmt}{f:Addr}{fd:K2q}(F:Fun K x x st f fd)
 (h:∀(kV doc pm:Value) (an:Option Addr) (cdv ct u:Value),bindArgs (K3n x x (z27 st) (z0b st) (j6 st) .none kV doc pm an cdv ct) ⟨[u],[]⟩=pure [(p,u)]):∀(s:Shared) (u:Value),Z08 s fd ⟨[u],[]⟩ [(p,u)]:=by
 obtain ⟨oc,od,kV,doc,pm,an,cdv,ct,osl,rfl,lk,hcd⟩:=F.ex
 exact λs u=>.of_eq (h kV doc pm an cdv ct u)
end
theorem law_walk {l:Z10}{q:K0m}{loose:List Str}{XP:(Str->Option Value)->Heap->Prop}{YP:World->Heap->Prop}{d:DefRec}{K:Params->K0}{m:List D->M D}{p:Str}{lev:Nat}(hn:l.most=some 63) (hdf:d.params.defaults=[]) (hr:Room lev K8b)
 (hY:∀(w:World) (h:Heap),YP w h->(K w.params).In h)
 (F:∀(w:World) (mg:Str->Option Value) (fa:Addr) (h:Heap),(K w.params).In h->h.Ns K1l mg->mg d.name=.(r fa) ->
  ∃fd:K2q,(∀(s:Shared) (u:Value),Z08 s fd ⟨[u],[]⟩ [(p,u)])/\∀base:Heap,(K w.params).In base->base.Ns K1l mg->FnOk l.prog w (K w.params) mg base CX0 lev fa fd [p] (spB (K w.params) m 1))
 (math:∀ns:List Int,ns.length≤63->∃h',m [.fl (ns.map .int)] []=.ok (.bl true) h') :
 Z1b q loose XP YP l.row.toRowW d [] (λf vs=>Z16 f vs):=by
 refine L2.walk_of (n:=63) (k:=lev) (x:=p) (CX:=λ_=>CX0) (sp:=λw=>spB (K w.params) m 1) hn .(1) hdf hr hY F (λw H a ns hl hO hS=>?_) λ_ _ _ _ _ z=>z
 obtain ⟨h',e⟩:=math ns hl
 have sq:SqLP (K w.params) H a (ns.map V.int):=by
  rcases hS with (h|⟨o,h⟩)|h
  ·rcases hO a with z|⟨ob,xs,z⟩<;>rw [h] at z<;>cases z
  ·exact .inl ⟨o,h⟩
  ·exact .inr h
 refine ⟨rfl,[],[.fl (ns.map .int)],[],⟨rfl,λi j a h=>by simp at h,λn o a h=>by simp at h⟩,RDs.cons ?_ RDs.nil,?_⟩
 ·simp only [RD]
  exact ⟨a,_,rfl,sq,z38 ns⟩
 ·rw [e]
  exact λρ' H' _ _ _ v rv=>by simpa [RD] using rv
mutual
def Y0 (n:Nat):D->Bool
 | .ref i=>decide (i<n)
 | .tup xs=>J4 n xs
 | .fl xs=>J4 n xs
 | _=>true
def J4 (n:Nat):List D->Bool
 | []=>true
 | d::r=>Y0 n d&&J4 n r
end
def refO (n:Nat):O->Bool
 | .lst xs=>J4 n xs
 | .dK kvs=>J4 n (kvs.map (·.2))
 | .dF kvs=>J4 n (kvs.map (·.2))
 | _=>true
def Kept (h h1:AH):Prop:=∀(i:Nat) (o:O),i<h.length->h1[i]?=some o->h[i]?=some o∨refO h.length o=true
section
variable {K:K0}{ρ ρ':List Addr}{H:Hp}
theorem z4o {ρ:List Addr}{n i:Nat}(h:i<n):(ρ.take n)[i]?=ρ[i]?:=by rw [K5b,if_pos h]
mutual
theorem RD.cut {n:Nat}:∀{d:D}{v:V},Y0 n d=true->RD K ρ H d v->RD K (ρ.take n) H d v
 | .non,v,_,h=>by simpa [RD] using h
 | .bl b,v,_,h=>by simpa [RD] using h
 | .int b,v,_,h=>by simpa [RD] using h
 | .str b,v,_,h=>by simpa [RD] using h
 | .tup ds,v,c,h=>by
  simp only [RD,Y0] at h c ⊢
  obtain ⟨a,xs,h1,h2,h3⟩:=h
  exact ⟨a,xs,h1,h2,RDs.cut c h3⟩
 | .fl ds,v,c,h=>by
  simp only [RD,Y0] at h c ⊢
  obtain ⟨a,xs,h1,h2,h3⟩:=h
  exact ⟨a,xs,h1,h2,RDs.cut c h3⟩
 | .ref i,v,c,h=>by
  simp only [RD,Y0,decide_eq_true_eq] at h c ⊢
  obtain ⟨a,h1,h2⟩:=h
  exact ⟨a,h1,by rw [z4o c];exact h2⟩
theorem RDs.cut {n:Nat}:∀{ds:List D}{xs:List V},J4 n ds=true->RDs K ρ H ds xs->RDs K (ρ.take n) H ds xs
 | [],xs,_,h=>by simpa [RDs] using h
 | d::ds,xs,c,h=>by
  simp only [RDs,J4,K0h] at h c ⊢
  obtain ⟨x,r,h1,h2,h3⟩:=h
  exact ⟨x,r,h1,RD.cut c.1 h2,RDs.cut c.2 h3⟩
end
mutual
theorem RD.low:∀{d:D}{v:V},RD K ρ H d v->Y0 ρ.length d=true
 | .non,v,h=>rfl
 | .bl b,v,h=>rfl
 | .int b,v,h=>rfl
 | .str b,v,h=>rfl
 | .tup ds,v,h=>by
  simp only [RD,Y0] at h ⊢
  obtain ⟨a,xs,h1,h2,h3⟩:=h
  exact RDs.low h3
 | .fl ds,v,h=>by
  simp only [RD,Y0] at h ⊢
  obtain ⟨a,xs,h1,h2,h3⟩:=h
  exact RDs.low h3
 | .ref i,v,h=>by
  simp only [RD,Y0,decide_eq_true_eq] at h ⊢
  obtain ⟨a,h1,h2⟩:=h
  exact (K2.mp h2).1
theorem RDs.low:∀{ds:List D}{xs:List V},RDs K ρ H ds xs->J4 ρ.length ds=true
 | [],xs,h=>rfl
 | d::ds,xs,h=>by
  simp only [RDs,J4,K0h] at h ⊢
  obtain ⟨x,r,h1,h2,h3⟩:=h
  exact ⟨RD.low h2,RDs.low h3⟩
end
theorem RK.cut {n:Nat}:∀{kvs:List (Key×D)}{vs:List (Key×V)},J4 n (kvs.map (·.2))=true->RK K ρ H kvs vs->RK K (ρ.take n) H kvs vs
 | _,_,_,.nil=>.nil
 | _,_,c,.cons a b=>by
  simp only [K0q,J4,K0h] at c
  exact .cons ⟨a.1,a.2.cut c.1⟩ (RK.cut c.2 b)
theorem RK.low:∀{kvs:List (Key×D)}{vs:List (Key×V)},RK K ρ H kvs vs->J4 ρ.length (kvs.map (·.2))=true
 | _,_,.nil=>rfl
 | _,_,.cons a b=>by
  simp only [K0q,J4,K0h]
  exact ⟨a.2.low,RK.low b⟩
theorem RO.cut {n:Nat}{o:O}{a:Addr}(c:refO n o=true) (h:RO K ρ H o a):RO K (ρ.take n) H o a:=by
 cases o with
 | lst ds=>obtain ⟨xs,h1,h2⟩:=h;exact ⟨xs,h1,h2.cut c⟩
 | set ks=>exact h
 | dct=>exact h
 | dK kvs=>obtain ⟨vs,h1,h2⟩:=h;exact ⟨vs,h1,h2.cut c⟩
 | dF kvs=>obtain ⟨ob,vs,h1,h2⟩:=h;exact ⟨ob,vs,h1,h2.cut c⟩
 | exc c=>exact h
theorem RO.low {o:O}{a:Addr}(h:RO K ρ H o a):refO ρ.length o=true:=by
 cases o with
 | lst ds=>obtain ⟨xs,h1,h2⟩:=h;exact h2.low
 | set ks=>rfl
 | dct=>rfl
 | dK kvs=>obtain ⟨vs,h1,h2⟩:=h;exact h2.low
 | dF kvs=>obtain ⟨ob,vs,h1,h2⟩:=h;exact h2.low
 | exc c=>rfl
theorem RH.cut {h:AH}{n:Nat}(r:RH K ρ h H) (c:∀o∈h.take n,refO n o=true):RH K (ρ.take n) (h.take n) H:=by
 refine ⟨by simp [r.len],λi j a h1 h2=>?_,λm o a h1 h2=>?_⟩
 ·rw [K5b] at h1 h2
  split at h1
  ·split at h2
   ·exact r.nd i j a h1 h2
   ·cases h2
  ·cases h1
 ·have hm:=K0d h1
  rw [K5b] at h1 h2
  split at h1
  ·rename_i q
   rw [if_pos q] at h2
   exact (r.obj m o a h1 h2).cut (c o hm)
  ·cases h1
theorem RH.cut1 {h:AH}{n i:Nat}{o:O}(r:RH K ρ h H) (c:∀o∈h.take n,refO n o=true) (hn:n≤h.length) (hi:n≤i) (e:h[i]?=some o) (co:refO n o=true):∃a,ρ[i]?=some a/\RH K (ρ.take n++[a]) (h.take n++[o]) H:=by
 obtain ⟨a,ea,ra⟩:=r.at e
 have r1:=r.cut c
 have ln:(ρ.take n).length=n:=by rw [K13,r.len];omega
 have lh:(h.take n).length=n:=by rw [K13];omega
 have ne:∀{m:Nat} {b:Addr},(ρ.take n)[m]?=some b->b≠a:=λ{m b} q z=>by
  have hm:=(K2.mp q).1
  rw [ln] at hm
  rw [z4o hm,z] at q
  have:=r.nd m i a q ea
  omega
 refine ⟨a,ea,by simp [r1.len],λi j b h1 h2=>?_,λm u b h1 h2=>?_⟩
 ·rw [K3s] at h1 h2
  split at h1<;>split at h2
  ·exact r1.nd i j b h1 h2
  ·rename_i q1 q2
   rw [K1r] at h2
   split at h2
   ·cases h2;exact absurd rfl (ne h1)
   ·cases h2
  ·rename_i q1 q2
   rw [K1r] at h1
   split at h1
   ·cases h1;exact absurd rfl (ne h2)
   ·cases h1
  ·rw [K1r] at h1 h2
   split at h1
   ·split at h2
    ·omega
    ·cases h2
   ·cases h1
 ·rw [K3s] at h1 h2
  rw [ln] at h2
  rw [lh] at h1
  split at h1
  ·rename_i q
   rw [if_pos q] at h2
   exact (r1.obj m u b h1 h2).mono (Pre.app _ _) .(8) rfl
  ·rename_i q
   rw [if_neg q] at h2
   rw [K1r] at h1 h2
   split at h1
   ·rename_i q0
    rw [if_pos q0] at h2
    cases h1;cases h2
    exact (ra.cut co).mono (Pre.app _ _) .(8) rfl
   ·cases h1
end
theorem za0 {K:K0}{ρ:List Addr}{h h1:AH}{H:Hp}(r:RH K ρ h H) (c:Kept h h1):∀o∈h1.take h.length,refO h.length o=true:=λo ho=>by
 obtain ⟨i,hi⟩:=K4t ho
 rw [K5b] at hi
 split at hi
 ·rename_i li
  rcases c i o li hi with q|q
  ·obtain ⟨a,_,ra⟩:=r.at q
   rw [← r.len]
   exact ra.low
  ·exact q
 ·cases hi
theorem z6U (h j:AH):Kept h (h++j):=λi o li e=>.inl (by rw [K0i li] at e;exact e)
open Classical in
noncomputable def cln (m:M D):M D:=λh=>match m h with
 | .ok d h1=>if h.length≤h1.length/\Kept h h1 then
  (if Y0 h.length d=true then .ok d (h1.take h.length) else match d with
   | .ref i=>(match h1[i]? with
    | some o=>if refO h.length o=true then .ok .(r) (h1.take h.length++[o]) else .ok d h1
    | none=>.ok d h1)
   | d=>.ok d h1)
  else .ok d h1
 | .err x h1=>.err x h1
 | .bad=>.bad
theorem FE.cln {K:K0}{EX:XX}{ρ:List Addr}{h:AH}{H:Hp}{Q:VK}{m:M D}(r:RH K ρ h H) (f:FE K EX ρ H Q (cln m h)):FE K EX ρ H Q (m h):=by
 unfold FT.cln at f
 cases e:m h with
 | bad=>rw [e] at f;exact f
 | err x h1=>rw [e] at f;exact f
 | ok d h1 =>
  rw [e] at f
  dsimp only at f
  split at f
  ·rename_i c
   obtain ⟨hl,c⟩:=c
   have cl:=za0 r c
   have pre:∀{ρ1:List Addr},Pre ρ ρ1->Pre ρ (ρ1.take h.length):=λ{ρ1} p i a q=>by
    have:=(K2.mp q).1
    rw [r.len] at this
    rw [z4o this]
    exact p i a q
   split at f
   ·rename_i cd
    exact λρ1 H1 p1 e1 r1 v rv=>f _ H1 (pre p1) e1 (r1.cut cl) v (rv.cut cd)
   ·rename_i nd
    split at f
    ·rename_i i
     split at f
     ·rename_i o eo
      split at f
      ·rename_i co
       intro ρ1 H1 p1 e1 r1 v rv
       have hi:h.length≤i:=by
        simp only [Y0,decide_eq_true_eq] at nd
        omega
       obtain ⟨a,ea,r2⟩:=r1.cut1 cl hl hi eo co
       refine f _ H1 ((pre p1).trans (Pre.app _ _)) e1 r2 v ?_
       simp only [RD] at rv ⊢
       obtain ⟨b,h2,h3⟩:=rv
       rw [ea] at h3;cases h3
       refine ⟨a,h2,?_⟩
       have ln:(ρ1.take h.length).length=h.length:=by rw [K13,r1.len];omega
       rw [K27 .(0),ln]
       simp
      ·exact f
     ·exact f
    ·exact f
  ·exact f
noncomputable def clE (m:G->M D):G->M D:=λγ=>cln (m γ)
theorem z1t {X:Cx}{EX:XX}{e:Expr}{m:G->M D}(h:SE X EX e m):SE X EX e (clE m) :=
 ⟨PE.imp h.h λσ H Q ⟨ρ,γ,h,rel,fin⟩=>⟨ρ,γ,h,rel,FE.cln rel.h fin⟩⟩
open Classical in
noncomputable def clT (m:G->M Bool):G->M Bool:=λγ h=>match m γ h with
 | .ok d h1=>if h.length≤h1.length/\Kept h h1 then .ok d (h1.take h.length) else .ok d h1
 | .err x h1=>.err x h1
 | .bad=>.bad
theorem RH.cut2 {K:K0}{ρ ρ1:List Addr}{h h1:AH}{H H1:Hp}(r:RH K ρ h H) (p1:Pre ρ ρ1) (r1:RH K ρ1 h1 H1) (c:Kept h h1):RH K (ρ1.take h.length) (h1.take h.length) H1/\Pre ρ (ρ1.take h.length):=by
 refine ⟨r1.cut (za0 r c),λi a q=>?_⟩
 have:=(K2.mp q).1
 rw [r.len] at this
 rw [z4o this]
 exact p1 i a q
theorem zF9 {X:Cx}{EX:XX}{e:Expr}{m:G->M Bool}(h:SC X EX e m):SC X EX e (clT m) :=
 ⟨PT.imp h.h λσ H Q ⟨ρ,γ,h,rel,fin⟩=>⟨ρ,γ,h,rel,by
  unfold clT at fin
  cases e:m γ h with
  | bad=>rw [e] at fin;exact fin
  | err x h1=>rw [e] at fin;exact fin
  | ok d h1 =>
   rw [e] at fin
   dsimp only at fin
   split at fin
   ·rename_i c
    exact λρ1 H1 p1 e1 r1=>let ⟨r2,p2⟩:=rel.h.cut2 p1 r1 c.2;fin _ H1 p2 e1 r2
   ·exact fin⟩⟩
theorem Fn.cln {P:K0m}{w:World}{K:K0}{mg:Str->Option Value}{base:Heap}{k:Nat}{x:Str}{n:Nat}{mf:List D->M D}(F:Fn P w K mg base k x n mf):Fn P w K mg base k x n (λds=>cln (mf ds)):=by
 obtain ⟨f,fd,ps,h1,h2,h3,h4⟩:=F.ex
 exact ⟨f,fd,ps,h1.imp λvs H Q E ⟨hl,ρ,ds,h,rh,rd,fin⟩=>⟨hl,ρ,ds,h,rh,rd,FE.cln rh fin⟩,h2,h3,h4⟩
end FT
namespace L2
open PySem PySem.Spec PyProof.Rows PySem.Builtin
theorem z2W:fillsNumberSlot (.type "tuple") "mul" = pure false :=
 PySem.fillsNumberSlot_seq (id:="tuple.__mul__") (r:=some (.builtin "tuple.__rmul__")) K3b.lookup .(2) K7s.lookup .(2)
theorem z5o:seqRepeat? (.type "tuple")=pure (some (.builtin "tuple.__mul__")):=by
 unfold seqRepeat?
 rw [Z0j (T:="tuple") (name:="__mul__") (id:="tuple.__mul__") K3b.lookup .(2),Z0j (T:="tuple") (name:="__rmul__") (id:="tuple.__rmul__") K7s.lookup .(2)]
 rfl
theorem zv1 (a:Int) (t:Tok) (l:Addr) (items:Array Value) (n:Nat) (dd:Option Addr) (sl:Array (Option Value)) :
 Meets (Builtin.«int.__rmul__» ⟨[.int a t,.ref l],[]⟩) (λ_ R s=>s.heap.get? l=some { cls:=.type "tuple",dict:=dd,data:=.seq items n,slots:=sl }/\R (.ok (.ret Value.notImplemented)) s) :=
 .of_wp λprog w A R s h=>by obtain ⟨hp,g,d,tk,os⟩:=s;obtain ⟨hl,h⟩:=h;wp_walk;exact ⟨_,rfl,h⟩
theorem zG2 (l:Addr) (items:Array Value) (n:Nat) (dd:Option Addr) (sl:Array (Option Value)) (x:Int) (u:Tok) (h1:-(2 ^ 63)≤x) (h2:x<2 ^ 63) (hc:items.isEmpty=true∨x=1) :
 Meets (Builtin.«tuple.__mul__» ⟨[.ref l,.int x u],[]⟩) (λ_ R s=>s.heap.get? l=some { cls:=.type "tuple",dict:=dd,data:=.seq items n,slots:=sl }/\R (.ok (.ret (K1j l))) s) :=
 .of_wp λprog w A R s h=>by
  obtain ⟨hp,g,d,tk,os⟩:=s;obtain ⟨hl,h⟩:=h
  have f1:=K5n
  have c1:(decide (x < -(2 ^ 63))||decide (x ≥ 2 ^ 63))=false:=by simp;omega
  have c2:(items.isEmpty||x==1)=true:=by simpa using hc
  wp_walk using K1a hl
  refine K37 (by rw [c1];rfl) ?_
  wp_walk using K1a hl
  exact ⟨_,rfl,h⟩
theorem zF7 (l:Addr) (items:Array Value) (n:Nat) (dd:Option Addr) (sl:Array (Option Value)) (x:Int) (u:Tok) (h1:-(2 ^ 63)≤x) (h2:x<2 ^ 63) (hc:items.isEmpty=false) (hx:x≤0) :
 Meets (Builtin.«tuple.__mul__» ⟨[.ref l,.int x u],[]⟩) (λ_ R s=>s.heap.get? l=some { cls:=.type "tuple",dict:=dd,data:=.seq items n,slots:=sl }/\R (.ok (.ret (K1j .(3)))) { s with heap:=s.heap.push { cls:=K44 "tuple",data:=Z15 #[] },toks:=s.toks }) :=
 .of_wp λprog w A R s h=>by
  obtain ⟨hp,g,d,tk,os⟩:=s;obtain ⟨hl,h⟩:=h
  have f1:=K5n
  have c1:(decide (x < -(2 ^ 63))||decide (x ≥ 2 ^ 63))=false:=by simp;omega
  have c2:(items.isEmpty||x==1)=false:=by rw [hc];simp;omega
  have c3:(decide (x≤0)||items.isEmpty)=true:=by simp [hx]
  wp_walk using K1a hl
  refine K37 (by rw [c1];rfl) ?_
  wp_walk using K1a hl
  refine K37 (by rw [c2];rfl) ?_
  wp_walk using K1a hl
  exact ⟨_,rfl,h⟩
theorem zC5 (l:Addr) (items:Array Value) (n:Nat) (dd:Option Addr) (sl:Array (Option Value)) (x:Int) (u:Tok) (h1:-(2 ^ 63)≤x) (h2:x<2 ^ 63) (hc:items.isEmpty=false) (hx:1<x) (hz:items.size * x.toNat≤sizeLine) :
 Meets (Builtin.«tuple.__mul__» ⟨[.ref l,.int x u],[]⟩) (λ_ R s=>s.heap.get? l=some { cls:=.type "tuple",dict:=dd,data:=.seq items n,slots:=sl }/\R (.ok (.ret (K1j .(3)))) { s with heap:=s.heap.push { cls:=K44 "tuple",data:=Z15 (K62 (λx1 x2=>x1++x2) #[] (K0c x.toNat items)) },toks:=s.toks }) :=
 .of_wp λprog w A R s h=>by
  obtain ⟨hp,g,d,tk,os⟩:=s;obtain ⟨hl,h⟩:=h
  have f1:=K5n
  have c1:(decide (x < -(2 ^ 63))||decide (x ≥ 2 ^ 63))=false:=by simp;omega
  have c2:(items.isEmpty||x==1)=false:=by rw [hc];simp;omega
  have c3:(decide (x≤0)||items.isEmpty)=false:=by rw [hc];simp;omega
  have ez:(items.size:Int) * x=((.(v) * x.toNat:Nat):Int):=by
   rw [Int.natCast_mul,K6e .(0)]
  have sl4:(sizeLine:Nat)≤2 ^ 24:=by decide
  have c4:¬ (items.size:Int) * x > (2 ^ 63 - 1) / 8:=by rw [ez];omega
  have c5:Tuple.tupleTooMany ((items.size:Int) * x)=false:=by
   unfold Tuple.tupleTooMany
   rw [ez,decide_eq_false_iff_not]
   omega
  wp_walk using K1a hl
  refine K37 (by rw [c1];rfl) ?_
  wp_walk using K1a hl
  refine K37 (by rw [c2];rfl) ?_
  wp_walk using K1a hl
  refine K37 (by rw [c3];rfl) ?_
  wp_walk using K1a hl
  rw [if_neg c4]
  wp_walk using K1a hl
  refine K37 (by rw [c5];rfl) ?_
  wp_walk using K1a hl
  have c6:¬ (K62 (λx1 x2=>x1++x2) #[] (K0c x.toNat items)).size > sizeLine:=by
   have f0:=foldl_rep items.toList x.toNat []
   rw [K8p] at f0
   have:(K62 (λx1 x2=>x1++x2) #[] (K0c x.toNat items))=(K0c x.toNat items.toList).flatten.toArray:=f0
   rw [this,K06,len_rep,K19,K6i]
   omega
  refine K37 (.(p) c6) ?_
  wp_walk using K1a hl
  exact ⟨_,rfl,h⟩
def zK1 (K:K0):R2:=λx y H Q=>∃a k xs,x=.ref a/\y=.int k/\SqT K H a xs/\-(2 ^ 63)≤k/\k<2 ^ 63/\xs.length * k.toNat≤sizeLine /\
 ((xs=[]∨k=1)->Q (.ref a) H)/\(∀p,H p=none->Q (.ref p) (upd H p (.tup (K0c k.toNat xs).flatten)))
theorem zz8 {X:Cx}:OpR X (K3g .Mult) (zK1 X.K):=by
 intro pins s σ H x y v u Q I rx ry h
 obtain ⟨a,k,xs,rfl,rfl,ha,h1,h2,hz,q1,q2⟩:=h
 cases rx
 obtain ⟨t,rfl⟩:=ry
 obtain ⟨its,r1,p1,_⟩:=I.tuple ha
 obtain ⟨⟨cls,dd,data,sl⟩,ho,hc,n,hd⟩:=id p1
 simp only at hc hd
 subst hc hd
 have go:∀(R:Value->Shared->Prop),wpAny .(4) X.A (call (.builtin "tuple.__mul__") [.ref a,.int k t]) R X.xe s->wpAny .(4) X.A (K3g .Mult (.ref a) (.int k t)) R X.xe s:=λR z =>
  K76 (T:="tuple") (U:="int") .(1) ⟨_,ho,rfl⟩ (λs'=>K8d s' k t) z2W PySem.F.fills_int_mul K8x z5o PySem.F.slot_int_index.lookup
   (K48 K8x (K8d s k t) PySem.F.entry_int_rmul (PySem.F.args_int_rmul_2 _ _) (zv1 k t a its.toArray n dd sl) ⟨ho,rfl,⟨_,ho,rfl⟩,z⟩)
 refine go _ ?_
 have ln:its.length=xs.length:=r1.length.symm
 by_cases c:xs=[]∨k=1
 ·refine K48 K3b ⟨_,ho,rfl⟩ K5i (K53 _ _) (zG2 a its.toArray n dd sl k t h1 h2 ?_) ⟨ho,.ref a,H,I,rfl,q1 c⟩
  rcases c with c|c
  ·left
   have:its=[]:=r1.nil_iff.mpr c
   rw [this];rfl
  ·exact .inr c
 ·have ne:its.toArray.isEmpty=false:=by
   cases its with
   | nil=>exact absurd (.inl (r1.nil_iff.mp rfl)) c
   | cons a r=>rfl
  by_cases k0:k≤0
  ·refine K48 K3b ⟨_,ho,rfl⟩ K5i (K53 _ _) (zF7 a its.toArray n dd sl k t h1 h2 ne k0) ⟨ho,?_⟩
   have e0:k.toNat=0:=by omega
   refine ⟨.ref .(3),_,I.laid (t':=s.toks) (o:=.tup (K0c k.toNat xs).flatten) (λb ob q=>K7 _ q) (K05 _) ?_,rfl,q2 _ (I.hok.fresh (K05 _))⟩
   rw [e0]
   exact ⟨by simp,_,.nil,FT.IsTup0.new _ _⟩
  ·have k2:1<k:=by
    have:k≠1:=λz=>c (.inr z)
    omega
   refine K48 K3b ⟨_,ho,rfl⟩ K5i (K53 _ _) (zC5 a its.toArray n dd sl k t h1 h2 ne k2 (by rw [K06,ln];exact hz)) ⟨ho,?_⟩
   refine ⟨.ref .(3),_,I.laid (t':=s.toks) (o:=.tup (K0c k.toNat xs).flatten) (λb ob q=>K7 _ q) (K05 _) ?_,rfl,q2 _ (I.hok.fresh (K05 _))⟩
   refine ⟨by rw [len_rep,K6i];exact hz,_,r1.rep k.toNat,?_⟩
   have f0:=foldl_rep its k.toNat []
   rw [K8p] at f0
   have e:(K62 (λx1 x2=>x1++x2) #[] (K0c k.toNat its.toArray))=(K0c k.toNat its).flatten.toArray:=f0
   rw [e]
   exact FT.IsTup0.new _ _
end L2
namespace FT
def z4N:D->D->M D
 | .tup x,.int j=>if decide (-(2 ^ 63)≤j)&&decide (j<2 ^ 63)&&decide (j.toNat * x.length≤sizeLine) then pure (.tup (K0c j.toNat x).flatten) else bad
 | x,y=>fMul x y
theorem zs4 {X:Cx}{EX:XX}:BR X.K EX (λx y H Q=>(rI CMul (λi j=>.int (i * j)) x y H Q∨rRep x y H Q)∨zK1 X.K x y H Q) z4N:=by
 intro ρ h H x y v u Q r rx ry fin
 unfold z4N at fin
 split at fin
 ·rename_i ds j
  simp only [RD] at rx ry
  obtain ⟨a,xs,rfl,sq,rd⟩:=rx
  subst ry
  split at fin
  ·rename_i hc
   simp only [K0h,decide_eq_true_eq] at hc
   have hl:=rd.length
   refine .inr ⟨a,j,xs,rfl,rfl,sq,hc.1.1,hc.1.2,by rw [← hl,K6i];exact hc.2,λc=>?_,λp hp=>FE.tup fin r (rd.flat j.toNat) hp⟩
   refine FE.here fin r ?_
   simp only [RD]
   refine ⟨a,xs,rfl,sq,?_⟩
   rcases c with c|c
   ·subst c
    have:ds=[]:=by simpa using hl
    subst this
    have:(K0c j.toNat ([]:List D)).flatten=[]:=by simp
    rw [this];exact rd
   ·subst c
    have:(K0c (1:Int).toNat ds).flatten=ds:=by simp
    rw [this];exact rd
  ·exact fin.elim
 ·exact .inl (zJ5 ρ h H x y v u Q r rx ry fin)
theorem z4H {X:Cx}{EX:XX}{a b:Expr}{pos:Pos}{ma mb:G->M D}(ha:SE X EX a ma) (hb:SE X EX b mb):SE X EX (.BinOp a .Mult b pos) (e2 z4N ma mb):=z9f ((op_mul.or zE0).or zz8) zs4 ha hb
section
variable {X:Cx}{a e:Expr}{es:List Expr}{kws:List K4a}{pos p kpos:Pos}{mr mk:G->M (List D)}{ma:G->M D}{nm:Option Str}{EX:XX}
end
end FT
namespace L2
open PySem.AutoSeq1 (wpAny_loadPart')
section
variable {prog:K0m}{w:World}{A:Around}{E:Value->Shared->Prop}{s:Shared}
theorem z4r {Q:List Value->Shared->Prop}{r:Addr}{a b c:Int}{t u v:Tok}{n:Nat}(hh:A.handled=none) (hr:Z07 s.heap r a b c t u v) (hsmall:K4z a b c=true)
 (hn:K31 a b c=n) (hlen:n≤2 ^ 24)
 (hQ:∀h' tk (acc:Array Value),(∀b o,s.heap.get? b=some o->h'.get? b=some o)->K7f (λi v=>∃t,v=.int (a+i * c) t) acc n->Q acc.toList { s with heap:=h',toks:=tk }):wpAny (model prog w) A (Z06 (.ref r)) Q E s:=by
 unfold Z06
 refine K1 (K5t (K28 PySem.F.entry_proto_collect ?_))
 rw [K1t K6l _]
 show wpAny _ A.in1 (Z05 [] >>= λl=>again (.builtin "list.__iadd__" ⟨[l,.ref r],[]⟩)) _ _ s
 refine K1 (K1f ?_)
 refine K8 ⟨K52 K2v _,K28 PySem.F.entry_list_iadd ?_⟩
 rw [K1t K2v _]
 show wpAny _ A.in1 (K3a (.ref .(3)) (.ref r) (.ref .(3))) _ _ _
 have hS:(s.heap.push { cls:=.type "list",data:=.seq ([]:List Value).toArray }).get? .(3)=some { cls:=.type "list",data:=.seq #[] }:=K0a _ rfl
 refine K2g (wpAny_extend_range (A:=A) (R:=λrs s'=>rs=.ok (.ret (.ref .(3)))/\∃h' tk acc' c',s'={ s with heap:=h',toks:=tk }/\(∀b o,s.heap.get? b=some o->h'.get? b=some o)/\h'.get? .(3)=some { cls:=.type "list",dict:=none,data:=.seq acc' c',slots:=#[] }/\K7f (λi v=>∃t,v=.int (a+i * c) t) acc' n)
  hh (K7 _ hr) hsmall hn hlen .(3) (.ref .(3)) _ hS λh' tk acc' c' hk hS' hacc=>⟨rfl,h',tk,acc',c',rfl,λb o e=>hk b o (K0n (K08 e)) (K7 _ e),hS',hacc⟩) (λfin s' h=>?_) (λe s' h=>?_)
 ·have fin':∀s',(∃h' tk acc' c',s'={ s with heap:=h',toks:=tk }/\(∀b o,s.heap.get? b=some o->h'.get? b=some o)/\h'.get? .(3)=some { cls:=.type "list",dict:=none,data:=.seq acc' c',slots:=#[] }/\K7f (λi v=>∃t,v=.int (a+i * c) t) acc' n)->wpAny (model prog w) A (match K1j .(3) with
   | K1j a=>do
    match (← load a).data with
     | Z15 xs _=>pure xs.toList
     | _=>Z0w "internal:collect"
   | _=>Z0w "internal:collect") Q E s':=λs' ⟨h',tk,acc',c',e,k,hS',hacc⟩=>by
   subst e
   show wpAny _ A (load .(3) >>= _) _ _ _
   refine K1 (K8c hS' ?_)
   exact K8 (hQ h' tk acc' k hacc)
  cases fin with
  | done f =>
   obtain ⟨e,h⟩:=h
   cases e
   exact fin' s' h
  | again c'=>exact ⟨h.1,K3t h.2 λrs s'' hr=>by obtain ⟨rfl,h⟩:=hr;exact fin' s'' h⟩
 ·exact absurd h.1 .(e)
end
theorem z2I (r:Addr) (a b c:Int) (t u v:Tok) (n:Nat) (hsmall:K4z a b c=true) (hn:K31 a b c=n) (hlen:n≤2 ^ 24) :
 Meets (Builtin.«tuple.__new__» ⟨[.type "tuple",.ref r],[]⟩)
  (λA R s=>A.handled=none/\Z07 s.heap r a b c t u v/\∀(h':Heap) (tk:Nat) (acc:Array Value),(∀b o',s.heap.get? b=some o'->h'.get? b=some o')->K7f (λi v=>∃t,v=.int (a+i * c) t) acc n->R (.ok (.ret (.ref h'.objs.size))) { s with heap:=h'.push { cls:=.type "tuple",data:=.seq acc },toks:=tk }) :=
 .of_wp λprog w A R s h=>by
  obtain ⟨hp,g,d,tk,os⟩:=s;obtain ⟨hh,hr,h⟩:=h
  have hsub:=sub_tuple_self
  have hinit:=init_tuple_lookup
  have hmh:=madeHere_tuple
  have hT:K7i ⟨hp,g,d,tk,os⟩ (.ref r) "range":=⟨_,hr,rfl⟩
  have hh1:A.in1.handled=none:=hh
  wp_walk using K1a hr,K5q hT,z4r hh1 hr hsmall hn hlen
  intro h' tk' acc hk hacc
  show wpAny _ _ (K2c acc.toList.toArray >>= λv=>ret v) _ _ _
  unfold K2c
  refine K1 (K1f ?_ (show acc.toList.toArray.size≤sizeLine by simp only [Array.toArray_toList];rw [hacc.1,K7g];omega))
  refine K8 ⟨_,rfl,?_⟩
  have e:acc.toList.toArray=acc:=by simp
  rw [e]
  exact h h' tk' acc hk hacc
theorem z2X {prog:K0m}{w:World}{A:Around}{E:Value->Shared->Prop}{s:Shared}{Q:Value->Shared->Prop}{r:Addr}{a b c:Int}{t u v:Tok}{n:Nat}(hh:A.handled=none) (hr:Z07 s.heap r a b c t u v) (hsmall:K4z a b c=true)
 (hn:K31 a b c=n) (hlen:n≤2 ^ 24)
 (h:∀(h':Heap) (tk:Nat) (acc:Array Value),(∀b o',s.heap.get? b=some o'->h'.get? b=some o')->K7f (λi v=>∃t,v=.int (a+i * c) t) acc n->Q (.ref h'.objs.size) { s with heap:=h'.push { cls:=.type "tuple",data:=.seq acc },toks:=tk }) :
 wpAny (model prog w) A (call (.type "tuple") [.ref r]) Q E s :=
 callType_new PySem.F.called_tuple .(1) (PySem.F.typeCall_tuple_1 _) (PySem.F.newCall_tuple_1 _) (λobj=>K6y obj _) PySem.F.entry_tuple_new
  (z2I r a b c t u v n hsmall hn hlen) ⟨hh,hr,λh' tk acc hk hacc=>⟨⟨_,K0a _ rfl,rfl⟩,h h' tk acc hk hacc⟩⟩
def rngO (p:Addr) (n:Int):HO:=.ext λh=>∃t u v,Z07 h p 0 n 1 t u v
theorem zG8 {P:K0m}{w:World}{H:Hp}{h:Heap}{p:Addr}{n:Int}{t u v:Tok}(e:Z07 h p 0 n 1 t u v):ObjOk P w H h p (rngO p n) :=
 ⟨⟨t,u,v,e⟩,⟨_,e⟩,λh1 h2 ⟨t,u,v,e⟩ k=>⟨t,u,v,k _ e⟩⟩
def z3X (n:Nat):List V:=(K00 n).map λ(i:Nat)=>V.int i
theorem z49 {acc:Array Value}{n:Nat}(h:K7f (λi v=>∃t,v=K6m (0+i * 1) t) acc n):Vals (z3X n) acc.toList:=by
 obtain ⟨hs,hi⟩:=h
 have:∀(xs:List Value) (k:Nat),(∀j v,xs[j]?=some v->∃t,v=K6m (0+((k+j:Nat):Int) * 1) t)->Vals ((Z0t k xs.length).map λ(i:Nat)=>V.int i) xs:=by
  intro xs
  induction xs with
  | nil=>intro k _;exact .nil
  | cons x r ih =>
   intro k hk
   rw [K0g,K7v,K0q]
   refine .cons ?_ (ih (k+1) λj v e=>?_)
   ·obtain ⟨t,rfl⟩:=hk 0 x rfl
    exact ⟨t,by simp⟩
   ·obtain ⟨t,rfl⟩:=hk (j+1) v (by simpa using e)
    exact ⟨t,by congr 3;omega⟩
 have q:=this acc.toList 0 (λj v e=>by
  obtain ⟨t,rfl⟩:=hi j v (by simpa using e)
  exact ⟨t,by simp⟩)
 unfold z3X
 rw [List.range_eq_range',← hs]
 simpa using q
section
variable {X:Cx}
theorem z71:z2q X (.type "range") (λxs H Q=>∃j,xs=[.int j]/\∀p,H p=none->Q (.ref p) (upd H p (rngO p j))):=by
 intro pins s σ H xs us Q I r h
 obtain ⟨j,rfl,q⟩:=h
 obtain ⟨u,rfl,ru⟩:=vals1 r
 obtain ⟨t,rfl⟩:=ru
 refine call_range_1 ⟨.ref .(3),_,I.laid (o:=rngO .(3) j) (λb ob q=>K7 _ q) (K05 _) (zG8 (K0a _ rfl)),rfl,q _ (I.hok.fresh (K05 _))⟩
theorem zm6 {pins:List .(f)}{σ:St}{H:Hp}{s:Shared}{p:Addr}{j:Int}(I:Inv X pins σ H s) (e:H p=some (rngO p j)):∃t u v,Z07 s.heap p 0 j 1 t u v:=(I.hok p _ e).1
theorem z9i {j:Int}(h1:-(2 ^ 62)≤j) (h2:j<2 ^ 62):K4z 0 j 1=true:=small_one .(0) .(0) h1 h2
theorem zm9 (j:Int):K31 0 j 1=(j.toNat:Int):=by rw [rangeSize_one];split<;>omega
theorem z82 (hc:X.calm=true):z2q X (.type "list") (λxs H Q=>∃p j,xs=[.ref p]/\H p=some (rngO p j)/\-(2 ^ 62)≤j/\j<2 ^ 62/\j.toNat≤sizeLine/\∀l,H l=none->Q (.ref l) (upd H l (.lst (z3X j.toNat)))):=by
 intro pins s σ H xs us Q I r h
 obtain ⟨p,j,rfl,e,h1,h2,hl,q⟩:=h
 obtain ⟨u,rfl,ru⟩:=vals1 r
 cases ru
 obtain ⟨t,u,v,hr⟩:=zm6 I e
 have l4:(sizeLine:Nat)≤2 ^ 24:=by decide
 refine call_list_range (n:=j.toNat) (I.ok.hd hc) hr (z9i h1 h2) (zm9 j) .(0) λh' tk acc c' kp e' hacc=>?_
 have hv:=z49 hacc
 refine ⟨.ref s.heap.objs.size,_,I.laid (t':=tk) (o:=.lst (z3X j.toNat)) kp (K05 _) ⟨by unfold z3X;simpa using hl,acc.toList,c',hv,by simpa using e'⟩,rfl,q _ (I.hok.fresh (K05 _))⟩
theorem z8I (hc:X.calm=true):z2q X (.type "tuple") (λxs H Q=>∃p j,xs=[.ref p]/\H p=some (rngO p j)/\-(2 ^ 62)≤j/\j<2 ^ 62/\j.toNat≤sizeLine/\∀l,H l=none->Q (.ref l) (upd H l (.tup (z3X j.toNat)))):=by
 intro pins s σ H xs us Q I r h
 obtain ⟨p,j,rfl,e,h1,h2,hl,q⟩:=h
 obtain ⟨u,rfl,ru⟩:=vals1 r
 cases ru
 obtain ⟨t,u,v,hr⟩:=zm6 I e
 have l4:(sizeLine:Nat)≤2 ^ 24:=by decide
 refine z2X (n:=j.toNat) (I.ok.hd hc) hr (z9i h1 h2) (zm9 j) .(0) λh' tk acc kp hacc=>?_
 have hv:=z49 hacc
 have I1:Inv X pins σ H { s with heap:=h',toks:=tk }:=I.kept kp
 refine ⟨.ref h'.objs.size,_,I1.laid (t':=tk) (o:=.tup (z3X j.toNat)) (λb ob z=>K7 _ z) (K05 _) ⟨by unfold z3X;simpa using hl,acc.toList,hv,?_⟩,rfl,q _ (I1.hok.fresh (K05 _))⟩
 have:acc.toList.toArray=acc:=by simp
 rw [this]
 exact FT.IsTup0.new _ _
end
end L2
namespace FT
def eRng (tup:Bool) (ma:G->M D):G->M D:=λγ=>do
 let x ← ma γ
 match x with
 | .int j=>if decide (-(2 ^ 62)≤j)&&decide (j<2 ^ 62)&&decide (j.toNat≤sizeLine) then (if tup then pure (.tup (z0q j.toNat)) else newL (z0q j.toNat)) else bad
 | _=>bad
theorem z9y {K:K0}{ρ:List Addr}{H:Hp}{ι:Type}{f:ι->D}{g:ι->V}:∀(l:List ι),(∀i,RD K ρ H (f i) (g i))->RDs K ρ H (l.map f) (l.map g)
 | [],_=>RDs.nil
 | x::r,h=>RDs.cons (h x) (z9y r h)
theorem z5H {K:K0}{ρ:List Addr}{H:Hp}(n:Nat):RDs K ρ H (z0q n) (z3X n):=by
 unfold z0q z3X
 exact z9y _ λi=>by simp [RD]
section
variable {X:Cx}{EX:XX}{a:Expr}{p p2 pos pos2:Pos}{ma:G->M D}
theorem z7E (hc:X.calm=true) (hg:Gl X "list") (hm:X.mg "list" = none) (hg2:Gl X "range") (hm2:X.mg "range" = none) (ha:SE X EX a ma) (he:K03 [a] X.env=[(false,eval a X.env)]:=by rfl)
 (he2:K03 [.Call (.Name "range" p2) [a] [] pos2] X.env=[(false,eval (.Call (.Name "range" p2) [a] [] pos2) X.env)]:=by rfl):SE X EX (.Call (.Name "list" p) [.Call (.Name "range" p2) [a] [] pos2] [] pos) (eRng false ma) :=
 ⟨PE.imp (z15 (z82 hc) hg hm .(2) (Y2 (z15 z71 hg2 hm2 .(2) (Y2 ha.h z0R he) .(1) .(1) he rfl) z0R he2) .(1) .(1) he2 rfl) λσ H Q ⟨ρ,γ,h,rel,fin⟩=>⟨ρ,γ,h,rel,(Fin.bind fin).mono λx ρ1 h1 H1 p1 e1 r1 f1 v rv=>by
  cases x<;>first|exact (show False from f1).elim|skip
  rename_i j
  simp only [RD] at rv
  subst rv
  dsimp only at f1
  split at f1
  ·rename_i c
   simp only [K0h,decide_eq_true_eq] at c
   rw [if_neg .(1)] at f1
   refine ⟨j,rfl,λq hq=>⟨q,j,rfl,y8,c.1.1,c.1.2,c.2,λl hl=>?_⟩⟩
   unfold newL at f1
   rw [if_pos (by unfold z0q;simpa using c.2)] at f1
   exact FE.lst (Fin.up .(6) (Ext.upd (.inl hq)) f1) (r1.other hq) (z5H _) hl
  ·exact f1.elim⟩⟩
theorem zu3 (hc:X.calm=true) (hg:Gl X "tuple") (hm:X.mg "tuple" = none) (hg2:Gl X "range") (hm2:X.mg "range" = none) (ha:SE X EX a ma) (he:K03 [a] X.env=[(false,eval a X.env)]:=by rfl)
 (he2:K03 [.Call (.Name "range" p2) [a] [] pos2] X.env=[(false,eval (.Call (.Name "range" p2) [a] [] pos2) X.env)]:=by rfl):SE X EX (.Call (.Name "tuple" p) [.Call (.Name "range" p2) [a] [] pos2] [] pos) (eRng true ma) :=
 ⟨PE.imp (z15 (z8I hc) hg hm .(2) (Y2 (z15 z71 hg2 hm2 .(2) (Y2 ha.h z0R he) .(1) .(1) he rfl) z0R he2) .(1) .(1) he2 rfl) λσ H Q ⟨ρ,γ,h,rel,fin⟩=>⟨ρ,γ,h,rel,(Fin.bind fin).mono λx ρ1 h1 H1 p1 e1 r1 f1 v rv=>by
  cases x<;>first|exact (show False from f1).elim|skip
  rename_i j
  simp only [RD] at rv
  subst rv
  dsimp only at f1
  split at f1
  ·rename_i c
   simp only [K0h,decide_eq_true_eq] at c
   rw [if_pos rfl] at f1
   refine ⟨j,rfl,λq hq=>⟨q,j,rfl,y8,c.1.1,c.1.2,c.2,λl hl=>?_⟩⟩
   exact FE.tup (Fin.up .(6) (Ext.upd (.inl hq)) f1) (r1.other hq) (z5H _) hl
  ·exact f1.elim⟩⟩
end
inductive Vw where
 | flat (d:D)|tup (xs:List D)|lst (xs:List D)|no
def vw (h:AH):D->Vw
 | .tup xs=>.tup xs
 | .fl xs=>.lst xs
 | .ref i=>match h[i]? with
  | .(l xs)=>.lst xs
  | _=>.no
 | d=>.flat d
def eqZ (f:D->D->Option Bool):List D->List D->Option Bool
 | [],[]=>some true
 | x::xs,y::ys=>match f x y,eqZ f xs ys with
  | some a,some b=>some (a&&b)
  | _,_=>none
 | _,_=>some false
def eqN:Nat->AH->D->D->Option Bool
 | 0,_,_,_=>none
 | n+1,h,x,y=>match vw h x,vw h y with
  | .flat a,.flat b=>some (eqF a b)
  | .tup xs,.tup ys=>eqZ (eqN n h) xs ys
  | .lst xs,.lst ys=>eqZ (eqN n h) xs ys
  | .no,_=>none
  | _,.no=>none
  | _,_=>some false
def eqE (f:D->D->Option Bool) (xs ys:List D) (j:Nat):Bool:=(f (xs.getD j .non) (ys.getD j .non)).getD false
theorem z4y {f:D->D->Option Bool}:∀{xs ys:List D}{b:Bool},eqZ f xs ys=some b ->
 (∀j x y,xs[j]?=some x->ys[j]?=some y->f x y=some (eqE f xs ys j))/\b=((K00 (min xs.length ys.length)).all (eqE f xs ys)&&xs.length==ys.length)
 | [],[],b,h=>by
  unfold eqZ at h;cases h
  exact ⟨λj x y e=>by simp at e,by simp⟩
 | [],y::ys,b,h=>by
  unfold eqZ at h;cases h
  exact ⟨λj x y e=>by simp at e,by simp⟩
 | x::xs,[],b,h=>by
  unfold eqZ at h;cases h
  exact ⟨λj x y _ e=>by simp at e,by simp⟩
 | x::xs,y::ys,b,h=>by
  unfold eqZ at h
  split at h
  ·rename_i a c e1 e2
   cases h
   obtain ⟨q1,q2⟩:=z4y e2
   refine ⟨λj p q ep eq=>?_,?_⟩
   ·cases j with
    | zero=>simp at ep eq;subst ep;subst eq;unfold eqE;simp [e1]
    | succ j=>simpa [eqE] using q1 j p q (by simpa using ep) (by simpa using eq)
   ·rw [q2]
    have:min (x::xs).length (y::ys).length=min xs.length ys.length+1:=by simp
    rw [this,K8i,K4h,List.all_map,← Bool.and_assoc]
    congr 1
    ·unfold eqE
     simp [e1,Z01]
    ·simp
  ·cases h
section
variable {K:K0}{ρ:List Addr}{h:AH}{H:Hp}
theorem z1D {d a:D}(e:vw h d=.flat a):a=d/\z0n d=true:=by
 cases d<;>simp [vw] at e<;>first|(subst e;exact ⟨rfl,rfl⟩)|skip
 split at e<;>cases e
theorem z2Q {d:D}{xs:List D}{v:V}(e:vw h d=.tup xs) (r:RD K ρ H d v):∃a vs,v=.ref a/\SqT K H a vs/\RDs K ρ H xs vs:=by
 cases d<;>simp [vw] at e
 ·subst e;simpa [RD] using r
 ·split at e<;>cases e
theorem z2O {d:D}{xs:List D}{v:V}(rh:RH K ρ h H) (e:vw h d=.lst xs) (r:RD K ρ H d v):∃a vs,v=.ref a/\SqL K H a vs/\RDs K ρ H xs vs:=by
 cases d<;>simp [vw] at e
 ·subst e
  simp only [RD] at r
  obtain ⟨a,vs,h1,h2,h3⟩:=r
  exact ⟨a,vs,h1,h2.sq,h3⟩
 ·split at e
  ·rename_i i xs' ei
   cases e
   simp only [RD] at r
   obtain ⟨a,h1,h2⟩:=r
   obtain ⟨a',h3,vs,h4,h5⟩:=rh.at ei
   rw [h2] at h3;cases h3
   exact ⟨a,vs,h1,SqL.of h4,h5⟩
  ·cases e
end
section
variable {X:Cx}{pins:List (Addr×Obj)}{σ:L2.St}{ρ:List Addr}{h:AH}{H:Hp}{s:Shared}
theorem z4E {K:K0}{a:Addr}:∀{d:D},z0n d=true->RD K ρ H d (.ref a)->False
 | .non,_,r=>by simp [RD] at r
 | .bl _,_,r=>by simp [RD] at r
 | .int _,_,r=>by simp [RD] at r
 | .str _,_,r=>by simp [RD] at r
 | .tup _,f,_=>by cases f
 | .fl _,f,_=>by cases f
 | .ref _,f,_=>by cases f
theorem ze7:∀{d:D},z0n d=true->eqF d d=true
 | .non,_=>rfl
 | .bl _,_=>by simp [eqF]
 | .int _,_=>by simp [eqF]
 | .str _,_=>by simp [eqF]
 | .tup _,f=>by cases f
 | .fl _,f=>by cases f
 | .ref _,f=>by cases f
def flV:D->V
 | .bl b=>.bl b
 | .int i=>.int i
 | .str x=>.str x
 | _=>.non
theorem z46 {K:K0}:∀{d:D}{v:V},z0n d=true->RD K ρ H d v->v=flV d
 | .non,_,_,r=>by simp only [RD] at r;exact r
 | .bl _,_,_,r=>by simp only [RD] at r;exact r
 | .int _,_,_,r=>by simp only [RD] at r;exact r
 | .str _,_,_,r=>by simp only [RD] at r;exact r
 | .tup _,_,f,_=>by cases f
 | .fl _,_,f,_=>by cases f
 | .ref _,_,f,_=>by cases f
theorem zv8:∀{a b:D},z0n a=true->z0n b=true->flV a=flV b->a=b
 | .non,.non,_,_,_=>rfl
 | .bl _,.bl _,_,_,e=>by cases e;rfl
 | .int _,.int _,_,_,e=>by cases e;rfl
 | .str _,.str _,_,_,e=>by cases e;rfl
 | .non,.bl _,_,_,e=>by cases e
 | .non,.int _,_,_,e=>by cases e
 | .non,.str _,_,_,e=>by cases e
 | .bl _,.non,_,_,e=>by cases e
 | .bl _,.int _,_,_,e=>by cases e
 | .bl _,.str _,_,_,e=>by cases e
 | .int _,.non,_,_,e=>by cases e
 | .int _,.bl _,_,_,e=>by cases e
 | .int _,.str _,_,_,e=>by cases e
 | .str _,.non,_,_,e=>by cases e
 | .str _,.bl _,_,_,e=>by cases e
 | .str _,.int _,_,_,e=>by cases e
 | .tup _,_,f,_,_=>by cases f
 | .fl _,_,f,_,_=>by cases f
 | .ref _,_,f,_,_=>by cases f
 | _,.tup _,_,f,_=>by cases f
 | _,.fl _,_,f,_=>by cases f
 | _,.ref _,_,f,_=>by cases f
theorem list_inj {a:Addr}{xs ys:List V}(I:Inv X pins σ H s) (h1:SqL X.K H a xs) (h2:SqL X.K H a ys):xs=ys:=by
 obtain ⟨its,r,⟨o,n,e,_,_,d⟩,_⟩:=I.list h1
 obtain ⟨its',r',⟨o',n',e',_,_,d'⟩,_⟩:=I.list h2
 rw [e] at e';cases e'
 rw [d] at d'
 injection d' with d1 _
 have:its=its':=by simpa using congrArg K9z d1
 subst this
 exact r.inj r'
theorem z7p (I:Inv X pins σ H s) (rh:RH X.K ρ h H):∀(n:Nat) {d1 d2:D}{v:V}{b:Bool},RD X.K ρ H d1 v->RD X.K ρ H d2 v->eqN n h d1 d2=some b->b=true
 | 0,d1,d2,v,b,_,_,e=>by cases e
 | n+1,d1,d2,v,b,r1,r2,e=>by
  have elems:∀{xs ys:List D} {vs:List V},RDs X.K ρ H xs vs->RDs X.K ρ H ys vs->eqZ (eqN n h) xs ys=some b->b=true:=λ{xs ys vs} q1 q2 z=>by
   obtain ⟨z1,z2⟩:=z4y z
   have l1:=q1.length
   have l2:=q2.length
   rw [z2,K0h,K1s]
   refine ⟨λj hj=>?_,by simp;omega⟩
   have hj':j<xs.length:=by simp at hj;omega
   have e1:xs[j]?=some xs[j]:=K6 hj'
   have e2:ys[j]?=some ys[j]:=K6 .(0)
   obtain ⟨w1,a1,a2⟩:=q1.get e1
   obtain ⟨w2,b1,b2⟩:=q2.get e2
   rw [a1] at b1;cases b1
   exact z7p I rh n a2 b2 (z1 j _ _ e1 e2)
  unfold eqN at e
  have nl:∀{a:Addr} {vs ws:List V},SqT X.K H a vs->SqL X.K H a ws->False:=λ{a vs ws} t1 t2=>by
   obtain ⟨its,_,p1,_⟩:=I.tuple t1
   obtain ⟨its2,_,p2,_⟩:=I.list t2
   exact SeqAt.ne_of_list_tuple p2.isList (show s.heap.IsTuple a its.toArray from p1) rfl
  cases e1:vw h d1 with
  | no=>rw [e1] at e;cases e2:vw h d2<;>rw [e2] at e<;>cases e
  | flat a =>
   rw [e1] at e
   obtain ⟨rfl,f1⟩:=z1D e1
   cases e2:vw h d2 with
   | no=>rw [e2] at e;cases e
   | flat c =>
    rw [e2] at e
    obtain ⟨rfl,f2⟩:=z1D e2
    cases e
    have:=zv8 f1 f2 ((z46 f1 r1).symm.trans (z46 f2 r2))
    subst this
    exact ze7 f1
   | tup ys=>obtain ⟨a',vs,rfl,_,_⟩:=z2Q e2 r2;exact (z4E f1 r1).elim
   | lst ys=>obtain ⟨a',vs,rfl,_,_⟩:=z2O rh e2 r2;exact (z4E f1 r1).elim
  | tup xs =>
   rw [e1] at e
   obtain ⟨a,vs,rfl,t1,q1⟩:=z2Q e1 r1
   cases e2:vw h d2 with
   | no=>rw [e2] at e;cases e
   | flat c=>obtain ⟨rfl,f2⟩:=z1D e2;exact (z4E f2 r2).elim
   | tup ys =>
    rw [e2] at e
    obtain ⟨a',ws,ea,t2,q2⟩:=z2Q e2 r2
    cases ea
    have:=I.tuple_inj t1 t2
    subst this
    exact elems q1 q2 e
   | lst ys =>
    obtain ⟨a',ws,ea,t2,q2⟩:=z2O rh e2 r2
    cases ea
    exact (nl t1 t2).elim
  | lst xs =>
   rw [e1] at e
   obtain ⟨a,vs,rfl,t1,q1⟩:=z2O rh e1 r1
   cases e2:vw h d2 with
   | no=>rw [e2] at e;cases e
   | flat c=>obtain ⟨rfl,f2⟩:=z1D e2;exact (z4E f2 r2).elim
   | lst ys =>
    rw [e2] at e
    obtain ⟨a',ws,ea,t2,q2⟩:=z2O rh e2 r2
    cases ea
    have:=list_inj I t1 t2
    subst this
    exact elems q1 q2 e
   | tup ys =>
    obtain ⟨a',ws,ea,t2,q2⟩:=z2Q e2 r2
    cases ea
    exact (nl t2 t1).elim
open SeqAt in
theorem mixT {A:Around}{u:Value}{d:D}{v:V}{K:K0}{a:Addr}{its:Array Value}(f:z0n d=true) (r:RD K ρ H d v) (ru:RelV v u) (p:s.heap.IsTuple a its) (hu:A.units<cLine):EqAt A s u (.ref a) false/\EqAt A s (.ref a) u false/\RcAt A s u (.ref a) false/\RcAt A s (.ref a) u false/\RcNeAt A s u (.ref a) true/\RcNeAt A s (.ref a) u true:=by
 have:=z46 f r
 subst this
 cases d with
 | non=>cases ru;exact ⟨.none_tuple p hu,.tuple_none p hu,.none_tuple p hu,.tuple_none p hu,.none_tuple p hu,.tuple_none p hu⟩
 | bl b=>cases ru;exact ⟨.bool_tuple b p hu,.tuple_bool b p hu,.bool_tuple b p hu,.tuple_bool b p hu,.bool_tuple b p hu,.tuple_bool b p hu⟩
 | int i=>obtain ⟨t,rfl⟩:=ru;exact ⟨.int_tuple i t p hu,.tuple_int i t p hu,.int_tuple i t p hu,.tuple_int i t p hu,.int_tuple i t p hu,.tuple_int i t p hu⟩
 | str x=>obtain ⟨t,rfl⟩:=ru;exact ⟨.str_tuple x t p hu,.tuple_str x t p hu,.str_tuple x t p hu,.tuple_str x t p hu,.str_tuple x t p hu,.tuple_str x t p hu⟩
 | tup _=>cases f
 | fl _=>cases f
 | ref _=>cases f
open SeqAt in
theorem mixL {A:Around}{u:Value}{d:D}{v:V}{K:K0}{a:Addr}{its:Array Value}(f:z0n d=true) (r:RD K ρ H d v) (ru:RelV v u) (p:s.heap.IsList a its) (hu:A.units<cLine):EqAt A s u (.ref a) false/\EqAt A s (.ref a) u false/\RcAt A s u (.ref a) false/\RcAt A s (.ref a) u false/\RcNeAt A s u (.ref a) true/\RcNeAt A s (.ref a) u true:=by
 have:=z46 f r
 subst this
 cases d with
 | non=>cases ru;exact ⟨.none_list p hu,.list_none p hu,.none_list p hu,.list_none p hu,.none_list p hu,.list_none p hu⟩
 | bl b=>cases ru;exact ⟨.bool_list b p hu,.list_bool b p hu,.bool_list b p hu,.list_bool b p hu,.bool_list b p hu,.list_bool b p hu⟩
 | int i=>obtain ⟨t,rfl⟩:=ru;exact ⟨.int_list i t p hu,.list_int i t p hu,.int_list i t p hu,.list_int i t p hu,.int_list i t p hu,.list_int i t p hu⟩
 | str x=>obtain ⟨t,rfl⟩:=ru;exact ⟨.str_list x t p hu,.list_str x t p hu,.str_list x t p hu,.list_str x t p hu,.str_list x t p hu,.list_str x t p hu⟩
 | tup _=>cases f
 | fl _=>cases f
 | ref _=>cases f
open SeqAt in
theorem zQ5 {A:Around}{u1 u2:Value}:∀(d1 d2:D),z0n d1=true->z0n d2=true->RelV (flV d1) u1->RelV (flV d2) u2->EqAt A s u1 u2 (eqF d1 d2)/\RcAt A s u1 u2 (eqF d1 d2)/\RcNeAt A s u1 u2 (!(eqF d1 d2))
 | .non,.non,_,_,r1,r2=>by cases r1;cases r2;exact ⟨EqAt.same _,RcAt.none_none,RcNeAt.none_none⟩
 | .non,(.bl b),_,_,r1,r2=>by cases r1;cases r2;exact ⟨EqAt.none_bool b,RcAt.none_bool b,RcNeAt.none_bool b⟩
 | .non,(.int b),_,_,r1,r2=>by cases r1;obtain ⟨t2,rfl⟩:=r2;exact ⟨EqAt.none_int b t2,RcAt.none_int b t2,RcNeAt.none_int b t2⟩
 | .non,(.str b),_,_,r1,r2=>by cases r1;obtain ⟨t2,rfl⟩:=r2;exact ⟨EqAt.none_str b t2,RcAt.none_str b t2,RcNeAt.none_str b t2⟩
 | (.bl a),.non,_,_,r1,r2=>by cases r1;cases r2;exact ⟨EqAt.bool_none a,RcAt.bool_none a,RcNeAt.bool_none a⟩
 | (.bl a),(.bl b),_,_,r1,r2=>by cases r1;cases r2;exact ⟨EqAt.bool_bool a b,RcAt.bool_bool a b,RcNeAt.bool_bool a b⟩
 | (.bl a),(.int b),_,_,r1,r2=>by cases r1;obtain ⟨t2,rfl⟩:=r2;exact ⟨EqAt.bool_int a b t2,RcAt.bool_int a b t2,RcNeAt.bool_int a b t2⟩
 | (.bl a),(.str b),_,_,r1,r2=>by cases r1;obtain ⟨t2,rfl⟩:=r2;exact ⟨EqAt.bool_str a b t2,RcAt.bool_str a b t2,RcNeAt.bool_str a b t2⟩
 | (.int a),.non,_,_,r1,r2=>by obtain ⟨t1,rfl⟩:=r1;cases r2;exact ⟨EqAt.int_none a t1,RcAt.int_none a t1,RcNeAt.int_none a t1⟩
 | (.int a),(.bl b),_,_,r1,r2=>by obtain ⟨t1,rfl⟩:=r1;cases r2;exact ⟨EqAt.int_bool a t1 b,RcAt.int_bool a t1 b,RcNeAt.int_bool a t1 b⟩
 | (.int a),(.int b),_,_,r1,r2=>by obtain ⟨t1,rfl⟩:=r1;obtain ⟨t2,rfl⟩:=r2;exact ⟨EqAt.int_int a t1 b t2,RcAt.int_int a t1 b t2,RcNeAt.int_int a t1 b t2⟩
 | (.int a),(.str b),_,_,r1,r2=>by obtain ⟨t1,rfl⟩:=r1;obtain ⟨t2,rfl⟩:=r2;exact ⟨EqAt.int_str a t1 b t2,RcAt.int_str a t1 b t2,RcNeAt.int_str a t1 b t2⟩
 | (.str a),.non,_,_,r1,r2=>by obtain ⟨t1,rfl⟩:=r1;cases r2;exact ⟨EqAt.str_none a t1,RcAt.str_none a t1,RcNeAt.str_none a t1⟩
 | (.str a),(.bl b),_,_,r1,r2=>by obtain ⟨t1,rfl⟩:=r1;cases r2;exact ⟨EqAt.str_bool a t1 b,RcAt.str_bool a t1 b,RcNeAt.str_bool a t1 b⟩
 | (.str a),(.int b),_,_,r1,r2=>by obtain ⟨t1,rfl⟩:=r1;obtain ⟨t2,rfl⟩:=r2;exact ⟨EqAt.str_int a t1 b t2,RcAt.str_int a t1 b t2,RcNeAt.str_int a t1 b t2⟩
 | (.str a),(.str b),_,_,r1,r2=>by obtain ⟨t1,rfl⟩:=r1;obtain ⟨t2,rfl⟩:=r2;exact ⟨EqAt.str_str a t1 b t2,RcAt.str_str a t1 b t2,RcNeAt.str_str a t1 b t2⟩
 | .tup _,_,f,_,_,_=>by cases f
 | .fl _,_,f,_,_,_=>by cases f
 | .ref _,_,f,_,_,_=>by cases f
 | _,.tup _,_,f,_,_=>by cases f
 | _,.fl _,_,f,_,_=>by cases f
 | _,.ref _,_,f,_,_=>by cases f
open SeqAt in
theorem deq (I:Inv X pins σ H s) (rh:RH X.K ρ h H):∀(n:Nat) {A:Around}{d1 d2:D}{v1 v2:V}{u1 u2:Value}{b:Bool},A.units+n<cLine->RD X.K ρ H d1 v1->RD X.K ρ H d2 v2->RelV v1 u1->RelV v2 u2->eqN n h d1 d2=some b->EqAt A s u1 u2 b/\RcAt A s u1 u2 b/\RcNeAt A s u1 u2 (!b)
 | 0,A,d1,d2,v1,v2,u1,u2,b,_,_,_,_,_,e=>by cases e
 | n+1,A,d1,d2,v1,v2,u1,u2,b,hA,r1,r2,w1,w2,e=>by
  have hu:A.units<cLine:=by omega
  have e0:=e
  unfold eqN at e
  have elems:∀{xs ys:List D} {vs ws:List V} {its its2:List Value},RDs X.K ρ H xs vs->RDs X.K ρ H ys ws->Vals vs its->Vals ws its2->eqZ (eqN n h) xs ys=some b ->
   (∀j (h1:j<its.toArray.size) (h2:j<its2.toArray.size),EqAt A.in1 s its.toArray[j] its2.toArray[j] (eqE (eqN n h) xs ys j))/\b=((K00 (min its.toArray.size its2.toArray.size)).all (eqE (eqN n h) xs ys)&&its.toArray.size==its2.toArray.size):=λ{xs ys vs ws its its2} q1 q2 a1 a2 z=>by
   obtain ⟨z1,z2⟩:=z4y z
   have l1:=q1.length
   have l2:=q2.length
   have l3:=a1.length
   have l4:=a2.length
   refine ⟨λj h1 h2=>?_,by rw [z2,K06,K06,← l3,← l4,← l1,← l2]⟩
   have j1:j<xs.length:=by rw [K06] at h1;omega
   have j2:j<ys.length:=by rw [K06] at h2;omega
   have e1:xs[j]?=some xs[j]:=K6 j1
   have e2:ys[j]?=some ys[j]:=K6 j2
   obtain ⟨x1,b1,c1⟩:=q1.get e1
   obtain ⟨x2,b2,c2⟩:=q2.get e2
   obtain ⟨y1,b3,c3⟩:=a1.get b1
   obtain ⟨y2,b4,c4⟩:=a2.get b2
   have g1:its.toArray[j]=y1:=by
    have:=K6 (l:=its) (i:=j) (by simpa using h1)
    rw [b3] at this
    simpa using (K10 this).symm
   have g2:its2.toArray[j]=y2:=by
    have:=K6 (l:=its2) (i:=j) (by simpa using h2)
    rw [b4] at this
    simpa using (K10 this).symm
   rw [g1,g2]
   exact (deq I rh n (A:=A.in1) (show A.units+1+n<cLine by omega) c1 c2 c3 c4 (z1 j _ _ e1 e2)).1
  have same:∀{a a':Addr},v1=.ref a->v2=.ref a'->a=a'->b=true:=λ{a a'} x y z=>by
   subst z
   rw [x] at r1
   rw [y] at r2
   exact z7p I rh (n+1) r1 r2 e0
  cases e1:vw h d1 with
  | no=>rw [e1] at e;cases e2:vw h d2<;>rw [e2] at e<;>cases e
  | flat a =>
   rw [e1] at e
   obtain ⟨rfl,f1⟩:=z1D e1
   cases e2:vw h d2 with
   | no=>rw [e2] at e;cases e
   | flat c =>
    rw [e2] at e
    obtain ⟨rfl,f2⟩:=z1D e2
    cases e
    rw [z46 f1 r1] at w1
    rw [z46 f2 r2] at w2
    exact zQ5 a c f1 f2 w1 w2
   | tup ys =>
    rw [e2] at e
    cases e
    obtain ⟨a',vs,rfl,t2,_⟩:=z2Q e2 r2
    cases w2
    obtain ⟨its,_,p,_⟩:=I.tuple t2
    obtain ⟨m1,_,m3,_,m5,_⟩:=mixT (s:=s) f1 r1 w1 (show s.heap.IsTuple a' its.toArray from p) hu
    exact ⟨m1,m3,m5⟩
   | lst ys =>
    rw [e2] at e
    cases e
    obtain ⟨a',vs,rfl,t2,_⟩:=z2O rh e2 r2
    cases w2
    obtain ⟨its,_,p,_⟩:=I.list t2
    obtain ⟨m1,_,m3,_,m5,_⟩:=mixL (s:=s) f1 r1 w1 p.isList hu
    exact ⟨m1,m3,m5⟩
  | tup xs =>
   rw [e1] at e
   obtain ⟨a,vs,rfl,t1,q1⟩:=z2Q e1 r1
   cases w1
   obtain ⟨its,x1,p1,_⟩:=I.tuple t1
   have p1:s.heap.IsTuple a its.toArray:=p1
   cases e2:vw h d2 with
   | no=>rw [e2] at e;cases e
   | flat c =>
    rw [e2] at e
    cases e
    obtain ⟨rfl,f2⟩:=z1D e2
    obtain ⟨_,m2,_,m4,_,m6⟩:=mixT (s:=s) f2 r2 w2 p1 hu
    exact ⟨m2,m4,m6⟩
   | tup ys =>
    rw [e2] at e
    obtain ⟨a',ws,rfl,t2,q2⟩:=z2Q e2 r2
    cases w2
    obtain ⟨its2,x2,p2,_⟩:=I.tuple t2
    have p2:s.heap.IsTuple a' its2.toArray:=p2
    obtain ⟨g1,g2⟩:=elems q1 q2 x1 x2 e
    have rc:=RcAt.tuples p1 p2 hu g1
    have rn:=RcNeAt.tuples p1 p2 hu g1
    rw [← g2] at rc rn
    refine ⟨?_,rc,rn⟩
    by_cases ea:a=a'
    ·rw [same rfl rfl ea]
     subst ea
     exact EqAt.same _
    ·exact EqAt.of_refs ea rc
   | lst ys =>
    rw [e2] at e
    cases e
    obtain ⟨a',ws,rfl,t2,q2⟩:=z2O rh e2 r2
    cases w2
    obtain ⟨its2,x2,p2,_⟩:=I.list t2
    exact ⟨EqAt.tuple_list p1 p2.isList hu,RcAt.tuple_list p1 p2.isList hu,RcNeAt.tuple_list p1 p2.isList hu⟩
  | lst xs =>
   rw [e1] at e
   obtain ⟨a,vs,rfl,t1,q1⟩:=z2O rh e1 r1
   cases w1
   obtain ⟨its,x1,p1,_⟩:=I.list t1
   cases e2:vw h d2 with
   | no=>rw [e2] at e;cases e
   | flat c =>
    rw [e2] at e
    cases e
    obtain ⟨rfl,f2⟩:=z1D e2
    obtain ⟨_,m2,_,m4,_,m6⟩:=mixL (s:=s) f2 r2 w2 p1.isList hu
    exact ⟨m2,m4,m6⟩
   | tup ys =>
    rw [e2] at e
    cases e
    obtain ⟨a',ws,rfl,t2,q2⟩:=z2Q e2 r2
    cases w2
    obtain ⟨its2,x2,p2,_⟩:=I.tuple t2
    exact ⟨EqAt.list_tuple p1.isList p2 hu,RcAt.list_tuple p1.isList p2 hu,RcNeAt.list_tuple p1.isList p2 hu⟩
   | lst ys =>
    rw [e2] at e
    obtain ⟨a',ws,rfl,t2,q2⟩:=z2O rh e2 r2
    cases w2
    obtain ⟨its2,x2,p2,_⟩:=I.list t2
    obtain ⟨g1,g2⟩:=elems q1 q2 x1 x2 e
    have both:RcAt A s (.ref a) (.ref a') b/\RcNeAt A s (.ref a) (.ref a') (!b):=by
     by_cases hz:its.toArray.size=its2.toArray.size
     ·have:b=(K00 its.toArray.size).all (eqE (eqN n h) xs ys):=by rw [g2,← hz,Nat.min_self];simp
      rw [this]
      exact ⟨RcAt.lists p1.isList p2.isList hz hu g1,RcNeAt.lists p1.isList p2.isList hz hu g1⟩
     ·have:b=false:=by
       rw [g2,K90]
       right
       simpa using hz
      rw [this]
      exact ⟨RcAt.lists_lengths p1.isList p2.isList (by simpa using hz) hu,RcNeAt.lists_lengths p1.isList p2.isList (by simpa using hz) hu⟩
    refine ⟨?_,both⟩
    by_cases ea:a=a'
    ·rw [same rfl rfl ea]
     subst ea
     exact EqAt.same _
    ·exact EqAt.of_refs ea both.1
end
def fEqX (neg:Bool):D->D->M D:=λx y h=>match eqN 24 h x y with
 | some b=>.ok (.bl (b != neg)) h
 | none=>.bad
def inZ (h:AH) (x:D):List D->Option Bool
 | []=>some false
 | y::ys=>match eqN 24 h y x,inZ h x ys with
  | some a,some b=>some (a||b)
  | _,_=>none
theorem z36 {h:AH}{x:D}:∀{ys:List D}{b:Bool},inZ h x ys=some b->(∀y∈ys,∃a,eqN 24 h y x=some a)/\(b=true↔∃y∈ys,eqN 24 h y x=some true)
 | [],b,e=>by unfold inZ at e;cases e;exact ⟨λy hy=>(by simp at hy),by simp⟩
 | y::ys,b,e=>by
  unfold inZ at e
  split at e
  ·rename_i a c e1 e2
   cases e
   obtain ⟨q1,q2⟩:=z36 e2
   refine ⟨λz hz=>?_,?_⟩
   ·rcases K0x.mp hz with q|q
    ·subst q;exact ⟨_,e1⟩
    ·exact q1 z q
   ·rw [K2f,q2]
    constructor
    ·rintro (q|⟨z,hz,q⟩)
     ·exact ⟨y,by simp,by rw [e1,q]⟩
     ·exact ⟨z,by simp [hz],q⟩
    ·rintro ⟨z,hz,q⟩
     rcases K0x.mp hz with w|w
     ·subst w;rw [e1] at q;exact .inl (K10 q)
     ·exact .inr ⟨z,w,q⟩
  ·cases e
def rEqX (K:K0) (neg:Bool):R2:=λx y H Q=>∃ρ h d1 d2 b,RH K ρ h H/\RD K ρ H d1 x/\RD K ρ H d2 y/\eqN 24 h d1 d2=some b/\Q (.bl (b != neg)) H
section
variable {X:Cx}{EX:XX}
theorem zE1 (hu:X.A.units+30<cLine):OpR X (K1y .Eq) (rEqX X.K false):=by
 intro pins s σ H x y v u Q I rx ry h
 obtain ⟨ρ,h,d1,d2,b,rh,r1,r2,e,q⟩:=h
 rw [K2e] at q
 exact (deq I rh 24 (A:=X.A) .(0) r1 r2 rx ry e).2.1 X.prog X.w X.xe (EP X pins σ Q) ⟨.bl b,H,I,rfl,q⟩
theorem zC4 (hu:X.A.units+30<cLine):OpR X (K1y .NotEq) (rEqX X.K true):=by
 intro pins s σ H x y v u Q I rx ry h
 obtain ⟨ρ,h,d1,d2,b,rh,r1,r2,e,q⟩:=h
 rw [Bool.bne_true] at q
 exact (deq I rh 24 (A:=X.A) .(0) r1 r2 rx ry e).2.2 X.prog X.w X.xe (EP X pins σ Q) ⟨.bl (!b),H,I,rfl,q⟩
open Classical in
theorem zO2 {pins:List .(f)}{σ:L2.St}{ρ:List Addr}{h:AH}{H:Hp}{s:Shared}{d:D}{ds:List D}{x:V}{v:Value}{xs:List V}{its:List Value}{b:Bool}(hu:X.A.units+30<cLine) (I:Inv X pins σ H s) (rh:RH X.K ρ h H) (rx:RD X.K ρ H d x) (wx:RelV x v) (rs:RDs X.K ρ H ds xs) (ws:Vals xs its) (e:inZ h d ds=some b) :
 ∃f:Value->Bool,(∀y∈its,K6o X.A.in1 s y v (f y))/\its.any f=b:=by
 obtain ⟨q1,q2⟩:=z36 e
 have ex:∀y∈its,∃a z w,z∈ds/\RD X.K ρ H z w/\RelV w y/\eqN 24 h z d=some a:=λy hy=>by
  obtain ⟨j,hj⟩:=K4t hy
  have lj:=(K2.mp hj).1
  have a1:xs[j]?=some (xs[j]'(by rw [ws.length];exact lj)):=K6 _
  obtain ⟨y',c1,a2⟩:=ws.get a1
  rw [hj] at c1
  cases c1
  obtain ⟨z,b1,b2⟩:=rs.getV a1
  have zm:=K0d b1
  obtain ⟨a,c⟩:=q1 z zm
  exact ⟨a,z,_,zm,b2,a2,c⟩
 have key:∀y∈its,∀a,(∃z w,z∈ds/\RD X.K ρ H z w/\RelV w y/\eqN 24 h z d=some a)->K6o X.A.in1 s y v a:=λy hy a ⟨z,w,zm,r1,r2,c⟩ =>
  (deq I rh 24 (A:=X.A.in1) (show X.A.units+1+24<cLine by omega) r1 rx r2 wx c).1
 refine ⟨λy=>decide (∃z w,z∈ds/\RD X.K ρ H z w/\RelV w y/\eqN 24 h z d=some true),λy hy=>?_,?_⟩
 ·by_cases c:∃z w,z∈ds/\RD X.K ρ H z w/\RelV w y/\eqN 24 h z d=some true
  ·dsimp only
   rw [.(o) c]
   exact key y hy true c
  ·dsimp only
   rw [.(p) c]
   obtain ⟨a,z,w,g⟩:=ex y hy
   cases a with
   | false=>exact key y hy false ⟨z,w,g⟩
   | true=>exact absurd ⟨z,w,g⟩ c
 ·rw [K0z,q2,K1p]
  constructor
  ·rintro ⟨y,hy,c⟩
   obtain ⟨z,w,zm,_,_,c⟩:=of_decide_eq_true c
   exact ⟨z,zm,c⟩
  ·rintro ⟨z,zm,c⟩
   obtain ⟨j,hj⟩:=K4t zm
   obtain ⟨w,a1,a2⟩:=rs.get hj
   obtain ⟨y,b1,b2⟩:=ws.get a1
   exact ⟨y,K0d b1,.(o) ⟨z,w,zm,a2,b2,c⟩⟩
theorem zl0 {neg:Bool}:BR X.K EX (rEqX X.K neg) (fEqX neg):=by
 intro ρ h H x y v u Q r rx ry fin
 unfold fEqX at fin
 cases e:eqN 24 h x y with
 | none=>rw [e] at fin;exact fin.elim
 | some b=>rw [e] at fin;exact ⟨ρ,h,x,y,b,r,rx,ry,e,FE.here fin r .(t)⟩
theorem z44 (hu:X.A.units+30<cLine):CO X EX .Eq (fEqX false):=⟨_,zE1 hu,zl0⟩
theorem zJ2 (hu:X.A.units+30<cLine):CO X EX .NotEq (fEqX true):=⟨_,zC4 hu,zl0⟩
theorem hu30 {A:Around}{k:Nat}(hr:Room k A):A.units+30<cLine:=K26 (K6d (by decide:30≤64) _) hr.units
end
variable {α β:Type}
theorem z1m (a:α) (f:α->M β):((Z1e a:M α) >>= f)=f a:=by funext h;rfl
theorem W_eq {m:M α}{v:α}{h:AH}{Q:α->AH->Prop}(e:m=pure v) (q:Q v h):W m h Q:=by rw [e,W_pure];exact q
theorem zT8 {xs:List D}{h:AH}{Q:D->AH->Prop}(hl:xs.length≤1000000) (q:Q .(r) (h++[.lst xs])):W (newL xs) h Q :=
 ⟨_,_,by unfold newL;rw [if_pos (K0r hl .(1))],q⟩
mutual
theorem z3a {m n:Nat}(h:m≤n):∀{d:D},Y0 m d=true->Y0 n d=true
 | .non,_=>rfl
 | .bl _,_=>rfl
 | .int _,_=>rfl
 | .str _,_=>rfl
 | .tup ds,c=>by simp only [Y0] at c ⊢;exact z1E h c
 | .fl ds,c=>by simp only [Y0] at c ⊢;exact z1E h c
 | .ref i,c=>by simp only [Y0,decide_eq_true_eq] at c ⊢;omega
theorem z1E {m n:Nat}(h:m≤n):∀{d:List D},J4 m d=true->J4 n d=true
 | [],_=>rfl
 | d::r,c=>by simp only [J4,K0h] at c ⊢;exact ⟨z3a h c.1,z1E h c.2⟩
end
theorem z1f {n:Nat}:∀{xs:List D},(∀x∈xs,Y0 n x=true)->J4 n xs=true
 | [],_=>rfl
 | x::r,h=>by simp only [J4,K0h];exact ⟨h x .(e),z1f λy hy=>h y (by simp [hy])⟩
theorem z0c {n:Nat}{ι:Type}{f:ι->D}{l:List ι}(h:∀a,Y0 n (f a)=true):J4 n (l.map f)=true:=z1f λx hx=>by
 obtain ⟨a,_,rfl⟩:=K09.mp hx
 exact h a
theorem z1a {m:M D}{h:AH}{d:D}{j:AH}(e:m h=.ok d (h++j)) (c:Y0 h.length d=true):cln m h=.ok d h:=by
 unfold cln
 rw [e]
 dsimp only
 rw [if_pos ⟨by simp,z6U _ _⟩,if_pos c]
 simp
theorem z4t (d:D):cln (pure d)=pure d:=funext λh=>by
 unfold cln
 rw [pureM]
 dsimp only
 rw [if_pos ⟨K05 _,λ_ _ _ e=>.inl e⟩]
 split
 ·simp
 ·rename_i nd
  split
  ·rename_i i
   simp only [Y0,decide_eq_true_eq] at nd
   rw [K15 .(0)]
  ·rfl
theorem zN7 {m:G->M Bool}{γ:G}{h:AH}{d:Bool}{j:AH}(e:m γ h=.ok d (h++j)):clT m γ h=.ok d h:=by
 unfold clT
 rw [e]
 dsimp only
 rw [if_pos ⟨by simp,z6U _ _⟩]
 simp
theorem z9T:∀bs:List Bool,blsD (bs.map .bl)=some bs
 | []=>rfl
 | b::r=>by simp [blsD,z9T r]
theorem filter_tt {l:List α}:l.filter (λ_=>true)=l:=by induction l<;>simp_all
theorem z6e {n:Nat}{mb:G->M Out}{ds:List D}{d:D}(e:mb (z0D n ds)=pure (.rt d)):runF n mb ds=pure d:=by unfold runF;rw [e];rfl
theorem ix0 {a:D}{r:List D}:fIx (.tup (a::r)) (.int 0)=pure a:=ix_tup (by simp [atI,ixN])
theorem zq7 {x y:Str}{b:Bool}:fEq b (.str x) (.str y)=pure (.bl (decide (x=y) != b)):=rfl
structure SQ (st:List .(O)):Prop where
 l1:1≤.(h)
 l2:.(h)≤40
 s2:∀l∈st,∀x∈l,x<.(h)
def nx (st:List .(O)) (a:Nat):List Nat:=(st[a]?).getD []
theorem z8d {st:List .(O)}(q:SQ st) {a b:Nat}(h:b∈nx st a):b<st.length:=by
 unfold nx at h
 cases e:st[a]? with
 | none=>rw [e] at h;cases h
 | some l =>
  rw [e] at h
  exact q.s2 l (K0d e) b h
theorem z2E (st:List .(O)):(stsD st).length=st.length:=by unfold stsD;simp
theorem zC6 {st:List .(O)}{a:Nat}(ha:a<st.length):atI (stsD st) (a:Int)=.(g ((stD (nx st a)))):=by
 refine z0S ?_
 unfold stsD nx
 rw [K07,K6 ha]
 rfl
theorem z2f {st:List .(O)}{mk:List (List Str)}:fIx .(a) (.int 0)=pure (.tup (stsD st)):=ix_tup rfl
theorem z5t {st:List .(O)}{mk:List (List Str)}:fIx .(a) (.int 1)=pure (.tup (mksD mk)):=ix_tup rfl
theorem z7B {st:List .(O)}{a:Nat}(ha:a<st.length):fIx (.tup (stsD st)) (.int a)=pure (.tup (stD (nx st a))):=ix_tup (zC6 ha)
theorem z9m:∀l:List Nat,(stD l).all z0n=true
 | []=>rfl
 | _::l=>z9m l
theorem zl3 (x:Nat):∀l:List Nat,((stD l).any λz=>eqF z (.int x))=decide (x∈l)
 | []=>by simp [stD]
 | b::l=>by
  rw [show stD (b::l)=.int b::stD l from rfl,K2d,zl3 x l]
  simp only [eqF]
  rw [K0z]
  simp only [K2f,beq_iff_eq,decide_eq_true_eq,K0x]
  constructor
  ·rintro (h|h)
   ·left;omega
   ·exact .inr h
  ·rintro (h|h)
   ·left;omega
   ·exact .inr h
theorem zB4 {x:Nat}{l:List Nat}{neg:Bool}:fIn neg (.int x) (.tup (stD l))=pure (.bl (decide (x∈l) != neg)):=by
 unfold fIn seqD
 show (if z0n (.int x)&&(stD l).all z0n then _ else _)=_
 rw [z9m,zl3]
 rfl
theorem J7 (l:List Nat):(stD l).length=l.length:=by unfold stD;simp
theorem z2n {l:List Nat}{n:Nat}(hl:l.Pairwise (·<·)) (hm:∀x∈l,x<n):l.length≤n:=by
 have nd:l.Nodup:=K9x (λh=>K0n h) hl
 have:=nd.length_le_of_subset (l₂:=K00 n) (λx hx=>K0y.mpr (hm x hx))
 rwa [K2b] at this
def zN (l:List Nat):List Int:=l.map λ(i:Nat)=>(i:Int)
def kN (l:List Nat):List Key:=l.map λ(i:Nat)=>.inl (i:Int)
def v5 (l:List Nat):List Nat:=(sortI (zN l)).map Z1f
theorem z8O:∀l:List Nat,z5M (kN l)=some (zN l)
 | []=>rfl
 | a::l=>by
  show (z5M (kN l)).map _=_
  rw [z8O l]
  rfl
theorem z3b:∀l:List Nat,z1P (stD l)=some (zN l)
 | []=>rfl
 | a::l=>by
  show (z1P (stD l)).map _=_
  rw [z3b l]
  rfl
theorem z3J (l:List Nat):(sortI (zN l)).map D.int=stD (v5 l):=by
 unfold v5 stD
 rw [K0w]
 refine K2t λa ha=>?_
 have:a∈zN l:=(sortI_perm _).mem_iff.mp ha
 obtain ⟨i,_,rfl⟩:=K09.mp this
 rfl
theorem z1K (l:List Nat):(v5 l).Perm l:=by
 have:=(sortI_perm (zN l)).map Z1f
 refine this.trans ?_
 unfold zN
 rw [K0w]
 rw [show (Z1f ∘ λ(i:Nat)=>(i:Int))=id from funext λi=>rfl,List.map_id]
theorem z1M {l:List Nat}(nd:l.Nodup):(v5 l).Pairwise (·<·):=by
 have s:(v5 l).Pairwise (·≤·):=by
  unfold v5
  rw [K7e]
  exact (z6G _).imp λ{a b} h=>by omega
 have n:(v5 l).Nodup:=(z1K l).nodup_iff.mpr nd
 exact (K9y s n).imp λ{a b} q=>by omega
theorem sortN_mem {l:List Nat}{x:Nat}:x∈v5 l↔x∈l:=(z1K l).mem_iff
theorem z0y (l:List Nat):(v5 l).length=l.length:=(z1K l).length_eq
theorem kN_mem {l:List Nat}{x:Nat}:(K3y (x:Int):Key)∈kN l↔x∈l:=by
 unfold kN
 constructor
 ·intro h
  obtain ⟨i,hi,e⟩:=K09.mp h
  have:i=x:=by have:=Z1g e;omega
  exact this ▸ hi
 ·exact λh=>K09.mpr ⟨x,h,rfl⟩
theorem zE4 (l:List Nat):(kN l).length=l.length:=by unfold kN;simp
theorem zB7 {l:List Nat}{x:Nat}(h:x∉l):putK (kN l) (.inl (x:Int))=kN (l++[x]):=by
 unfold putK
 rw [if_neg (λq=>h (kN_mem.mp q))]
 unfold kN
 simp
theorem z3R {S:List Nat}{n:Nat}(nd:S.Nodup) (hm:∀x∈S,x<n):S.length≤n:=by
 have:=nd.length_le_of_subset (l₂:=K00 n) (λx hx=>K0y.mpr (hm x hx))
 rwa [K2b] at this
theorem zb4 {S:List Nat}{x:Nat}(nd:S.Nodup) (h:x∉S):(S++[x]).Nodup:=by
 rw [K3o]
 refine ⟨nd,by simp,λa ha b hb=>?_⟩
 simp at hb
 subst hb
 exact λe=>h (e ▸ ha)
theorem z3O (l:List Nat) (x:Nat):stD l++[.int x]=stD (l++[x]):=by unfold stD;simp
theorem z53 {l:List Nat}{i:Nat}{d:D}(h:(stD l)[i]?=some d):∃b:Nat,d=.int b/\l[i]?=some b:=by
 unfold stD at h
 rw [K07] at h
 obtain ⟨b,e1,e2⟩:=K16.mp h
 exact ⟨b,e2.symm,e1⟩
section
variable {ma:G->M D}{g:D->G->M G}{k:G->M Bool}{ms mr mt:G->M Out}{γ γ':G}{h h1:AH}{d:D}{b:Bool}{Q:Out->AH->Prop}
theorem zq8 (d:D) (γ':G) (e:ma γ=pure d) (eg:g d γ=pure γ') (z:W (mt γ') h Q):W (Z0 (sAsg ma g) mt γ) h Q:=by
 rw [w_cons];unfold sAsg;rw [e,z1m,eg,z1m,W_pure];exact z
theorem J8 (d:D) (γ':G) (e:ma γ h=.ok d h1) (eg:g d γ=pure γ') (z:W (mt γ') h1 Q):W (Z0 (sAsg ma g) mt γ) h Q:=by
 rw [w_cons];unfold sAsg;rw [Z6];refine W.of e ?_;rw [eg,z1m,W_pure];exact z
theorem zb0 {i:Nat}(z:W (ma γ) h λd h1=>W (mt (γ.set i (some d))) h1 Q):W (Z0 (sAsg ma (gN i)) mt γ) h Q:=by
 rw [w_cons];unfold sAsg gN;rw [Z6];refine z.mono λd h1 q=>?_;rw [z1m,W_pure];exact q
theorem z0m (b:Bool) (e:k γ h=.ok b h) (z:W (Z0 (if b=true then ms else mr) mt γ) h Q):W (Z0 (sIf k ms mr) mt γ) h Q:=by
 rw [w_cons] at z ⊢;unfold sIf;rw [Z6];refine W.of e ?_
 cases b<;>exact z
theorem zT0 (z:W (k γ) h λb h1=>W (Z0 (if b=true then ms else mr) mt γ) h1 Q):W (Z0 (sIf k ms mr) mt γ) h Q:=by
 rw [w_cons];unfold sIf;rw [Z6];refine z.mono λb h1 q=>?_
 rw [w_cons] at q
 cases b<;>exact q
theorem zR9 (d:D) (e:ma γ=pure d) (z:Q (.rt d) h):W (Z0 (sRet ma) mt γ) h Q:=by
 rw [w_cons];unfold sRet;rw [e,z1m,W_pure];exact z
theorem z0l (d:D) (e:ma γ h=.ok d h1) (z:Q (.rt d) h1):W (Z0 (sRet ma) mt γ) h Q:=by
 rw [w_cons];unfold sRet;rw [Z6];refine W.of e ?_;rw [W_pure];exact z
theorem zM6 (z:W (ma γ) h λd h1=>Q (.rt d) h1):W (Z0 (sRet ma) mt γ) h Q:=by
 rw [w_cons];unfold sRet;rw [Z6];refine z.mono λd h1 q=>?_;rw [W_pure];exact q
theorem z7w (z:W (ma γ) h λd h1=>W (mt γ) h1 Q):W (Z0 (z0e ma) mt γ) h Q:=by
 rw [w_cons];unfold z0e;rw [Z6];refine z.mono λd h1 q=>?_;rw [W_pure];exact q
theorem z05 (z:W (mt γ) h Q):W (Z0 bNil mt γ) h Q:=by rw [w_cons,z6n];exact z
theorem z04 {Q:Out->AH->Prop}(z:Q (.nx γ) h):W (bNil γ) h Q:=by rw [z6n];exact z
theorem zG6 {l:G->M Bool}(e:k γ h=.ok true h):cOr k l γ h=.ok true h:=by unfold cOr;rw [M.bind_ok e];rfl
theorem zs6 (d:D) (e:ma γ=pure d):Z0 (sRet ma) mt γ=pure (.rt d):=by
 unfold Z0 sRet;rw [e,z1m,z1m]
theorem z0I {ms1 ms2:G->M Out}(z:W (Z0 ms1 (Z0 ms2 mt) γ) h Q):W (Z0 (Z0 ms1 ms2) mt γ) h Q:=by
 rw [w_cons] at z ⊢
 rw [w_cons]
 refine z.mono λo h1 q=>?_
 cases o with
 | nx γ=>exact w_cons.mp q
 | rt d=>exact q
 | bk d=>exact q
 | ct d=>exact q
end
theorem zE2 {i j:Int}{neg:Bool}:fEqX neg (.int i) (.int j)=pure (.bl (decide (i=j) != neg)):=by
 funext h
 show Res.ok (D.bl ((i==j) != neg)) h=_
 have:(i==j)=decide (i=j):=by rw [K0z];simp
 rw [this];rfl
theorem z9U {mc:G->M D}{γ:G}{h h1:AH}{xs:List D}{neg:Bool}(e:mc γ h=newL xs h1) (hl:xs.length≤1000000):e2 (fEqX neg) mc (eLst aNil) γ h=.ok (.bl (xs.isEmpty != neg)) (h1++[.lst xs]++[.lst []]):=by
 have e':mc γ h=.ok (.ref h1.length) (h1++[.lst xs]):=by rw [e];unfold newL;rw [if_pos (K0r hl .(1))]
 show (mc γ >>= _) h=_
 rw [M.bind_ok e']
 have e2':eLst aNil γ (h1++[.lst xs])=.ok (.ref (h1++[O.lst xs]).length) (h1++[.lst xs]++[.lst []]):=by
  unfold eLst aNil newL
  simp
 rw [M.bind_ok e2']
 have v1:vw (h1++[O.lst xs]++[O.lst []]) (.ref h1.length)=.lst xs:=by unfold vw;simp
 have v2:vw (h1++[O.lst xs]++[O.lst []]) (.ref (h1++[O.lst xs]).length)=.lst []:=by unfold vw;simp
 unfold fEqX eqN
 rw [v1,v2]
 cases xs<;>rfl
theorem zt0 {mc:G->M D}{γ:G}{h j:AH}{xs:List D}{neg:Bool}(e:mc γ h=newL xs (h++j)) (hl:xs.length≤1000000):clE (e2 (fEqX neg) mc (eLst aNil)) γ h=.ok (.bl (xs.isEmpty != neg)) h :=
 z1a (by rw [z9U e hl,K0b,K0b]) rfl
theorem zz3 {mc:G->M D}{γ:G}{h j:AH}{xs:List D}{neg:Bool}(e:mc γ h=newL xs (h++j)) (hl:xs.length≤1000000):clT (λγ=>do let d ← e2 (fEqX neg) mc (eLst aNil) γ;asB d) γ h=.ok (xs.isEmpty != neg) h :=
 zN7 (j:=j++([.lst xs]++[.lst []])) (by rw [M.bind_ok (z9U e hl)];simp [asB])
theorem z8V {x:Str}{l:List Str}{neg:Bool}:fIn neg (.str x) (.tup (l.map .str))=pure (.bl (decide (x∈l) != neg)):=by
 unfold fIn seqD
 show (if z0n (.str x)&&(l.map D.str).all z0n then _ else _)=_
 rw [z2l,z4u]
 rfl
theorem zC7 (xs:List D) (n:Nat):cutD xs none (some (n:Int))=xs.take n:=by
 unfold cutD
 rw [HT.sIx_none,HT.sIx_nat]
 simp [List.take_take]
theorem zH8 (xs:List D) (n:Nat):cutD xs (some (n:Int)) none=xs.drop n:=by
 unfold cutD
 rw [HT.sIx_none,HT.sIx_nat]
 by_cases h:n≤xs.length
 ·rw [show min n xs.length=n by omega,K8h .(e)]
 ·rw [show min n xs.length=xs.length by omega]
  simp
  omega
def rp (n:Nat) (l:List Nat):List Nat:=(K0c n l).flatten
theorem sl_tup {x:List D}{lo hi:Option Int}:fSl (.tup x) lo hi=pure (.tup (cutD x lo hi)):=rfl
def CL (r:AH):Prop:=True
theorem CL.app {r j:AH}(a:CL r) (b:CL j):CL (r++j):=trivial
theorem CL.one {xs:List D}(h:J4 3 xs=true):CL [.lst xs]:=trivial
theorem CL.put {r:AH}{xs:List D}(a:CL r) (h:J4 3 xs=true):CL (r++[.lst xs]):=a.app (.one h)
theorem z1B {n:Nat}(l:List Str):J4 n (l.map .str)=true:=z0c λ_=>rfl
theorem z5U {n:Nat}(l:List Int):J4 n (l.map .int)=true:=z0c λ_=>rfl
theorem z25 {n:Nat}(l:List Nat):J4 n (stD l)=true:=z0c λ_=>rfl
theorem z47 {n:Nat}(l:List Nat):Y0 n (.tup (stD l))=true:=by simp only [Y0];exact z25 l
theorem z91 {gr sm:List Int}{s c:Int}{r j:AH}:(Pool gr sm s c (r++j)).take (r.length+3)=Pool gr sm s c r:=by
 unfold Pool
 simp
theorem z9g {gr sm gr' sm':List Int}{s c s' c':Int}{r j:AH}:Kept (Pool gr sm s c r) (Pool gr' sm' s' c' (r++j)):=λi o li e=>by
 have l3:(Pool gr sm s c r).length=.(z)+3:=rfl
 rw [l3] at li ⊢
 match i,e with
 | 0,e=>cases e;exact .inr (z5U _)
 | 1,e=>cases e;exact .inr (z5U _)
 | 2,e=>cases e;exact .inr (by simp [refO,J4,Y0])
 | i+3,e =>
  left
  have e:(r++j)[i]?=some o:=e
  rw [K0i .(0)] at e
  exact e
theorem z6H {h h1:AH}{k k':Int}{r j:AH}(p:PS h k r) (q:CL r) (p1:PS h1 k' (r++j)):(h.length≤h1.length/\Kept h h1)/\PS (h1.take h.length) k' r:=by
 have l:=p.len
 have l1:=p1.len
 obtain ⟨gr,sm,s,c,rfl,g⟩:=p1
 obtain ⟨gr0,sm0,s0,c0,rfl,g0⟩:=p
 refine ⟨⟨by rw [K01] at l1;omega,z9g⟩,?_⟩
 rw [show (Pool gr0 sm0 s0 c0 r).length=.(z)+3 from rfl,z91]
 exact ⟨gr,sm,s,c,rfl,g⟩
theorem zz1 {m:M D}{h:AH}{k:Int}{r:AH}{Q:D->AH->Prop}(p:PS h k r) (q:CL r) (z:W m h λd h1=>∃k' j,PS h1 k' (r++j)/\Y0 3 d=true/\∀h2,PS h2 k' r->Q d h2):W (cln m) h Q:=by
 obtain ⟨d,h1,e,k',j,p1,rd,f⟩:=z
 obtain ⟨c1,c2⟩:=z6H p q p1
 refine ⟨d,h1.take h.length,?_,f _ c2⟩
 unfold cln
 rw [e]
 dsimp only
 rw [if_pos c1,if_pos (z3a (by rw [p.len];omega) rd)]
theorem zN2 {m:M D}{h:AH}{k:Int}{r:AH}{Q:D->AH->Prop}(p:PS h k r) (q:CL r) (z:W m h λd h1=>∃k' j i xs,d=.ref (i+3)/\PS h1 k' (r++j)/\r.length≤i/\(r++j)[i]?=.(l xs)/\J4 3 xs=true/\∀h2,PS h2 k' (r++[.lst xs])->Q (.ref (r.length+3)) h2):W (cln m) h Q:=by
 obtain ⟨d,h1,e,k',j,i,xs,rfl,p1,hi,ei,rd,f⟩:=z
 obtain ⟨c1,c2⟩:=z6H p q p1
 have l:=p.len
 refine ⟨.ref (.(z)+3),h1.take h.length++[.lst xs],?_,f _ (c2.app _)⟩
 unfold cln
 rw [e]
 dsimp only
 rw [if_pos c1,if_neg (by simp only [Y0,decide_eq_true_eq];omega),p1.get,ei]
 dsimp only
 rw [if_pos (show refO h.length (.lst xs)=true from z1E .(0) rd),l]
theorem zv0 {m:G->M D}{γ:G}{h:AH}{k:Int}{r:AH}{Q:D->AH->Prop}(p:PS h k r) (q:CL r) (z:W (m γ) h λd h1=>∃k' j,PS h1 k' (r++j)/\Y0 3 d=true/\∀h2,PS h2 k' r->Q d h2):W (clE m γ) h Q:=zz1 p q z
section
variable {h:AH}{k:Int}{r l:AH}{i:Nat}{xs:List D}{v:D}
theorem at_E:(r++l)[r.length+i]?=l[i]?:=by rw [K27 .(0)];congr 1;omega
theorem zs3 {o:O}:(r++l).set (r.length+i) o=r++l.set i o:=by
 rw [K3i _ _ .(0)]
 congr 2
 omega
theorem z62 {Q:List D->AH->Prop}(p:PS h k (r++l)) (e:l[i]?=.(l xs)) (q:Q xs h):W (getL (r.length+i+3)) h Q:=z5Y p (by rw [at_E];exact e) q
theorem zB5 {Q:D->AH->Prop}(p:PS h k (r++l)) (hl:xs.length≤1000000) (z:∀h',PS h' k (r++(l++[.lst xs]))->Q (.ref (r.length+l.length+3)) h'):W (newL xs) h Q :=
 z1R p hl λh' p'=>by rw [K0b] at p';have:=z h' p';rwa [K01]
theorem z8h {Q:D->AH->Prop}(p:PS h k (r++l)) (e:l[i]?=.(l xs)) (hl:xs.length<1000000) (z:∀h',PS h' k (r++l.set i (.lst (xs++[v])))->Q .non h'):W (j8 (r.length+i+3) v) h Q :=
 z7t p (by rw [at_E];exact e) hl λh' p'=>z h' (by rw [zs3] at p';exact p')
theorem zm1 {Q:D->AH->Prop}(p:PS h k (r++l)) (e:l[i]?=.(l xs)) (q:Q (.int xs.length) h):W (fLen [.ref (r.length+i+3)]) h Q:=zm5 p (by rw [at_E];exact e) q
theorem z7j {Q:D->AH->Prop}(p:PS h k (r++l)) (e:l[i]?=.(l xs)) (q:Q (.tup xs) h):W (v8 [.ref (r.length+i+3)]) h Q:=by
 have ft:∀i:Nat,v8 [.ref i]=(do let x ← getL i;pure (.tup x)):=λ_=>rfl
 rw [ft,Z6]
 refine z62 p e ?_
 rw [W_pure]
 exact q
theorem ze4 {Q:Nat->AH->Prop}(p:PS h k (r++l)) (e:l[i]?=.(l xs)) (q:Q (r.length+i+3) h):W (z2h (.ref (r.length+i+3))) h Q:=by
 rw [z6h]
 exact z62 p e q
theorem zB1 {j:Nat}{ys:List D}{Q:D->AH->Prop}(p:PS h k (r++l)) (e:l[i]?=.(l xs)) (e2:(r++l)[j]?=.(l ys)) (hl:xs.length+ys.length≤1000000) (z:∀h',PS h' k (r++(l++[.lst (xs++ys)]))->Q (.ref (r.length+l.length+3)) h'):W (fAdd (.ref (r.length+i+3)) (.ref (j+3))) h Q:=by
 show W (getL _ >>= λx=>getL _ >>= λy=>newL (x++y)) h Q
 rw [Z6]
 refine z62 p e ?_
 rw [Z6]
 refine z5Y p e2 ?_
 exact zB5 p (by simpa using hl) z
end
theorem z10 {ma:G->M D}{mt:G->M Out}{γ:G}{h:AH}{i:Nat}{Q:Out->AH->Prop}(J:D->AH->Prop) (z:W (ma γ) h J) (f:∀d h1,J d h1->W (mt (γ.set i (some d))) h1 Q):W (Z0 (sAsg ma (gN i)) mt γ) h Q:=zb0 (z.mono f)
theorem zI7 {ma:G->M D}{mt:G->M Out}{γ:G}{h:AH}{Q:Out->AH->Prop}(J:D->AH->Prop) (z:W (ma γ) h J) (f:∀d h1,J d h1->Q (.rt d) h1):W (Z0 (sRet ma) mt γ) h Q:=zM6 (z.mono f)
theorem z7d {me:G->M D}{mt:G->M Out}{γ:G}{h:AH}{k:Int}{r l:AH}{a i:Nat}{xs:List D}{Q:Out->AH->Prop}(ea:γ[a]?=some (.(r (r.length+i+3)))) (p:PS h k (r++l)) (e:l[i]?=.(l xs)) (hl:xs.length<1000000) (J:D->Int->Prop)
 (z:W (me γ) h λv h1=>∃k',PS h1 k' (r++l)/\J v k') (f:∀v k' h2,J v k'->PS h2 k' (r++l.set i (.lst (xs++[v])))->W (mt γ) h2 Q):W (Z0 (z0e (eM1 j8 (eVar a) me)) mt γ) h Q:=by
 refine z7w ?_
 unfold eM1
 rw [Z6]
 refine W_eq (v:=.ref (r.length+i+3)) (by unfold eVar;rw [ea]) ?_
 rw [Z6]
 refine ze4 p e ?_
 rw [Z6]
 refine z.mono λv h1 ⟨k',p1,j⟩=>?_
 exact z8h p1 e hl λh2 p2=>f v k' h2 j p2
theorem z9Q {cap:List (Option Nat)}{mi:G->M Src}{g:D->G->M G}{kk:G->M Bool}{me:G->M D}{γ:G}{h:AH}{r l:AH}{Q:D->AH->Prop}(J:Nat->List D->Int->Prop)
 (hs:W (mi γ) h λsrc h1=>∃k,PS h1 k (r++l)/\J 0 [] k/\(∀h k xs,PS h k (r++(l++[.lst xs]))->src.good h) /\
  (∀i d h k xs,src.items[i]?=some d->J i xs k->PS h k (r++(l++[.lst xs]))->W (g d (capG cap γ)) h λγ1 h1'=>W (kk γ1) h1' λt h2=>if t=true then W (me γ1) h2 λv h3=>∃k',PS h3 k' (r++(l++[.lst xs]))/\xs.length<1000000/\J (i+1) (xs++[v]) k' else ∃k',PS h2 k' (r++(l++[.lst xs]))/\J (i+1) xs k') /\
  ∀h' xs k,J src.items.length xs k->PS h' k (r++(l++[.lst xs]))->Q (.ref (.(z)+l.length+3)) h'):W (x9 cap mi g kk me γ) h Q:=by
 refine zL5 ?_
 refine hs.mono λsrc h1 ⟨k,p1,j0,good,st,fin⟩=>?_
 have l1:h1.length=.(z)+l.length+3:=by rw [p1.len,K01]
 refine ⟨λi h'=>∃xs k,J i xs k/\PS h' k (r++(l++[.lst xs])),⟨[],k,j0,by rw [← K0b];exact p1.app _⟩,λi h' ⟨xs,k,_,p⟩=>good h' k xs p,?_,?_⟩
 ·rintro i d h2 hd ⟨xs,k,jx,p2⟩
  refine (st i d h2 k xs hd jx p2).mono λγ1 h3 w3=>w3.mono λt h4 w4=>?_
  cases t with
  | false=>rw [if_neg .(1)] at w4 ⊢;obtain ⟨k',p4,j4⟩:=w4;exact ⟨xs,k',j4,p4⟩
  | true =>
   rw [if_pos rfl] at w4 ⊢
   refine w4.mono λv h5 ⟨k',p5,lx,j5⟩=>?_
   rw [l1,show .(z)+l.length+3=.(z)+l.length+3 from rfl]
   refine z8h (i:=l.length) p5 .(e) lx λh6 p6=>?_
   refine ⟨_,k',j5,?_⟩
   rw [K3i _ _ (K05 _),Nat.sub_self] at p6
   exact p6
 ·rintro h2 ⟨xs,k,jx,p2⟩
  rw [l1]
  exact fin h2 xs k jx p2
def lkD (kvs:List (Key×D)) (k:Key):Option D:=(kvs.find? λkv=>decide (kv.1=k)).map (·.2)
def ptD (kvs:List (Key×D)) (k:Key) (v:D):List (Key×D) :=
 if (kvs.any λkv=>decide (kv.1=k))=true then kvs.map (λkv=>if kv.1=k then (kv.1,v) else kv) else kvs++[(k,v)]
section
variable {K:K0}{ρ:List Addr}{H:Hp}
theorem RK.len:∀{kvs:List (Key×D)}{vs:List (Key×V)},RK K ρ H kvs vs->kvs.length=vs.length
 | _,_,.nil=>rfl
 | _,_,.cons _ b=>by simp [RK.len b]
theorem RK.lk (k:Key):∀{kvs:List (Key×D)}{vs:List (Key×V)},RK K ρ H kvs vs->(lkD kvs k=none/\valV vs k=none)∨∃d v,lkD kvs k=some d/\valV vs k=some v/\RD K ρ H d v
 | _,_,.nil=>.inl ⟨rfl,rfl⟩
 | p::kvs,q::vs,.cons a b=>by
  by_cases e:p.1=k
  ·refine .inr ⟨p.2,q.2,by simp [lkD,K1h,e],z34 (a.1.symm.trans e),a.2⟩
  ·rw [z39 (λz=>e (a.1.trans z))]
   have:lkD (p::kvs) k=lkD kvs k:=by simp [lkD,K1h,e]
   rw [this]
   exact RK.lk k b
theorem RK.any (k:Key):∀{kvs:List (Key×D)}{vs:List (Key×V)},RK K ρ H kvs vs->(kvs.any λkv=>decide (kv.1=k))=vs.any λkv=>decide (kv.1=k)
 | _,_,.nil=>rfl
 | _,_,.cons a b=>by rw [K2d,K2d,RK.any k b,a.1]
theorem RK.rep (k:Key) {d:D}{v:V}(r:RD K ρ H d v):∀{kvs:List (Key×D)}{vs:List (Key×V)},RK K ρ H kvs vs->RK K ρ H (kvs.map (λkv=>if kv.1=k then (kv.1,d) else kv)) (vs.map (λkv=>if kv.1=k then (kv.1,v) else kv))
 | _,_,.nil=>.nil
 | p::kvs,q::vs,.cons a b=>by
  rw [K0q,K0q]
  refine .cons ?_ (RK.rep k r b)
  by_cases e:p.1=k
  ·rw [if_pos e,if_pos (a.1.symm.trans e)];exact ⟨a.1,r⟩
  ·rw [if_neg e,if_neg (λz=>e (a.1.trans z))];exact a
theorem RK.snoc {k:Key}{d:D}{v:V}(r:RD K ρ H d v):∀{kvs:List (Key×D)}{vs:List (Key×V)},RK K ρ H kvs vs->RK K ρ H (kvs++[(k,d)]) (vs++[(k,v)])
 | _,_,.nil=>.cons ⟨rfl,r⟩ .nil
 | _,_,.cons a b=>.cons a (RK.snoc r b)
theorem RK.put (k:Key) {d:D}{v:V}(r:RD K ρ H d v) {kvs:List (Key×D)}{vs:List (Key×V)}(q:RK K ρ H kvs vs):RK K ρ H (ptD kvs k d) (L2.putK vs k v):=by
 unfold ptD L2.putK
 rw [q.any k]
 split
 ·exact q.rep k r
 ·exact q.snoc r
theorem z9D {d:D}{k:Key}{v:V}(e:keyD d=some k) (r:RD K ρ H d v):v=kV k:=by
 cases d<;>simp only [keyD] at e<;>first|(cases e;simp only [RD] at r;exact r)|cases e
end
def getK (n:Nat):M (List (Key×D)):=λh=>match h[n]? with
 | some (.dK kvs)=>.ok kvs h
 | some (.dF kvs)=>.ok kvs h
 | _=>.bad
def dicD:D->M (List (Key×D))
 | .ref n=>getK n
 | _=>bad
def z1A:D->D->M D:=λx y=>do
 let kvs ← dicD x
 match keyD y with
 | some k=>(match lkD kvs k with
  | some d=>pure d
  | none=>bad)
 | none=>bad
def fInD (neg:Bool):D->D->M D:=λy x=>do
 let kvs ← dicD x
 match keyD y with
 | some k=>pure (.bl ((lkD kvs k).isSome != neg))
 | none=>bad
def z4Q:D->D->D->M Unit:=λo i v=>match o with
 | .ref n=>(match keyD i with
  | some k=>λh=>match h[n]? with
   | some (.dK kvs)=>if kvs.length<sizeLine then .ok () (h.set n (.dK (ptD kvs k v))) else .bad
   | _=>.bad
  | none=>bad)
 | _=>bad
def gDx (mo mi:G->M D):D->G->M G:=λv γ=>do
 let o ← mo γ
 let i ← mi γ
 let _ ← z4Q o i v
 pure γ
section
variable {X:Cx}{EX:XX}{a o i e f:Expr}{pos apos cpos:Pos}{mo mi ma mb:G->M D}
theorem z6W {K:K0}{ρ:List Addr}{h:AH}{H:Hp}{x:D}{u:V}{Z:List (Key×D)->List Addr->AH->Hp->Prop}(r:RH K ρ h H) (rx:RD K ρ H x u) (fin:Fin K EX ρ H Z (dicD x h)):∃n a kvs vs,x=.ref n/\u=.ref a/\ρ[n]?=some a/\(h[n]?=some (.dK kvs)∨h[n]?=some (.dF kvs))/\Rd H a (.dK vs)/\RK K ρ H kvs vs/\Z kvs ρ h H:=by
 cases x<;>first|exact (show False from fin).elim|skip
 rename_i n
 simp only [RD] at rx
 obtain ⟨a,rfl,hq⟩:=rx
 unfold dicD getK at fin
 dsimp only at fin
 cases e:h[n]? with
 | none=>rw [e] at fin;exact fin.elim
 | some ob =>
  cases ob with
  | lst xs=>rw [e] at fin;exact fin.elim
  | set xs=>rw [e] at fin;exact fin.elim
  | dct=>rw [e] at fin;exact fin.elim
  | exc c=>rw [e] at fin;exact fin.elim
  | dK kvs =>
   rw [e] at fin
   obtain ⟨a1,n1,vs,o1,d1⟩:=r.at e
   rw [hq] at n1;cases n1
   exact ⟨n,a,kvs,vs,rfl,rfl,hq,.inl e,.inl o1,d1,fin ρ H .(6) .(8) r⟩
  | dF kvs =>
   rw [e] at fin
   obtain ⟨a1,n1,ob,vs,o1,d1⟩:=r.at e
   rw [hq] at n1;cases n1
   exact ⟨n,a,kvs,vs,rfl,rfl,hq,.inr e,.inr ⟨ob,o1⟩,d1,fin ρ H .(6) .(8) r⟩
theorem z1j (hu:X.A.units+1<cLine) (ha:SE X EX o mo) (hb:SE X EX i mi) (hs:NoSl i:=by intro _ _;rfl):SE X EX (.Subscript o i pos) (e2 z1A mo mi) :=
 ⟨PE.imp (zw3 hu ha.h hb.h hs) λσ H Q ⟨ρ,γ,h,rel,fin⟩=>⟨ρ,γ,h,rel,(Fin.bind fin).mono λx ρ1 h1 H1 p1 e1 r1 f1 v rv=>⟨ρ1,γ,h1,⟨rel.g.mono p1 e1,r1⟩,(Fin.bind f1).mono λy ρ2 h2 H2 p2 e2 r2 f2 w rw'=>by
  obtain ⟨n,ad,kvs,vs,rfl,rfl,hn,hk,hH,rk,f3⟩:=z6W r2 (rv.mono p2 e2) (Fin.bind f2)
  cases ek:keyD y with
  | none=>rw [ek] at f3;exact f3.elim
  | some k =>
   rw [ek] at f3
   have:=z9D ek rw'
   subst this
   rcases rk.lk k with ⟨z1,_⟩|⟨d,u,z1,z2,rd⟩
   ·dsimp only at f3;rw [z1] at f3;exact f3.elim
   ·dsimp only at f3
    rw [z1] at f3
    refine ⟨ad,u,rfl,?_,FE.here f3 r2 rd⟩
    rw [← z2]
    exact .inl ⟨vs,k,hH,rfl,rfl⟩⟩⟩⟩
def rInD (neg:Bool):R2:=λy x H Q=>∃ad ov,x=.ref ad/\DGet H ad y ov/\Q (.bl (ov.isSome != neg)) H
theorem zo6 (hu:X.A.units+1<cLine):OpR X (K1y .NotIn) (rInD true):=by
 intro pins s σ H x y v u Q I rx ry h
 obtain ⟨ad,ov,rfl,g,q⟩:=h
 cases ry
 rw [Bool.bne_true] at q
 exact zt5 hu I g rx λs' I'=>⟨.bl _,H,I',rfl,q⟩
theorem zF6 {neg:Bool}:BR X.K EX (rInD neg) (fInD neg):=by
 intro ρ h H y x w v Q r ry rx fin
 obtain ⟨n,ad,kvs,vs,rfl,rfl,hn,hk,hH,rk,f3⟩:=z6W r rx (Fin.bind fin)
 cases ek:keyD y with
 | none=>rw [ek] at f3;exact f3.elim
 | some k =>
  rw [ek] at f3
  have:=z9D ek ry
  subst this
  refine ⟨ad,valV vs k,rfl,.inl ⟨vs,k,hH,rfl,rfl⟩,?_⟩
  have:(valV vs k).isSome=(lkD kvs k).isSome:=by
   rcases rk.lk k with ⟨z1,z2⟩|⟨d,u,z1,z2,_⟩<;>rw [z1,z2]<;>rfl
  rw [this]
  exact FE.here f3 r .(t)
theorem zu4 (hu:X.A.units+1<cLine):CO X EX .NotIn (fInD true):=⟨_,zo6 hu,zF6⟩
def zS7:V->V->V->Hp->(Hp->Prop)->Prop:=λo i v H Q=>∃ad H',o=.ref ad/\DPut H ad i v H'/\Q H'
theorem set_dict (hu:X.A.units+1<cLine):PSet X zS7:=by
 intro pins s σ H o i v ov iv u Q I ro ri rv h
 obtain ⟨ad,H',rfl,g,q⟩:=h
 cases ro
 exact z92 hu I g ri rv λs' I'=>⟨H',I',q⟩
theorem zJ3 (hu:X.A.units+1<cLine) (ho:SE X EX o mo) (hi:SE X EX i mi)
 (ha:∀v,assign (.Subscript o i pos) X.env v=(do
  let ov ← K3v [v] (eval o X.env)
  let iv ← K3v [v,ov] (eval i X.env)
  K4q pos
  K3v [v,ov,iv] (Z13 ov iv v)
  release [v,ov,iv] []):=by intro _;rfl):SG X EX (.Subscript o i pos) (gDx mo mi) :=
 ⟨PG.imp (zn7 ho.h hi.h (set_dict hu) ha) λv σ H Q ⟨ρ,γ,h,d,rel,rd,fin⟩=>⟨ρ,γ,h,rel,(Fin.bind fin).mono λod ρ1 h1 H1 p1 e1 r1 f1 ov ro=>⟨ρ1,γ,h1,⟨rel.g.mono p1 e1,r1⟩,(Fin.bind f1).mono λid ρ2 h2 H2 p2 e2 r2 f2 iv ri=>by
  have f3:=Fin.bind f2
  cases od<;>first|exact (show False from f3).elim|skip
  rename_i n
  unfold z4Q at f3
  dsimp only at f3
  cases ek:keyD id with
  | none=>rw [ek] at f3;exact f3.elim
  | some k =>
   rw [ek] at f3
   have:=z9D ek ri
   subst this
   simp only [RD] at ro
   obtain ⟨q,rfl,hq⟩:=ro
   have hq2:=p2 n q hq
   dsimp only at f3
   cases e4:h2[n]? with
   | none=>rw [e4] at f3;exact f3.elim
   | some ob =>
    cases ob with
    | lst xs=>rw [e4] at f3;exact f3.elim
    | set ks=>rw [e4] at f3;exact f3.elim
    | dct=>rw [e4] at f3;exact f3.elim
    | exc c=>rw [e4] at f3;exact f3.elim
    | dF c=>rw [e4] at f3;exact f3.elim
    | dK kvs =>
     rw [e4] at f3
     dsimp only at f3
     split at f3
     ·rename_i hl
      obtain ⟨a1,n1,vs,o1,d1⟩:=r2.at e4
      rw [hq2] at n1;cases n1
      have rv:=(rd.mono p1 e1).mono p2 e2
      refine ⟨q,_,rfl,DPut.k o1 (by rw [← d1.len];exact hl),?_⟩
      have ext:Ext X.K H2 (upd H2 q (.dK (L2.putK vs k v))):=Ext.upd (.inr ⟨_,o1,trivial⟩)
      have r3:RH X.K ρ2 (h2.set n (.dK (ptD kvs k d))) (upd H2 q (.dK (L2.putK vs k v))):=r2.setO e4 hq2 ⟨_,y8,(d1.put k rv).mono .(6) ext⟩
      exact f3 ρ2 _ .(6) ext r3 ρ2 _ .(6) .(8) r3 σ (((rel.g.mono p1 e1).mono p2 e2).mono .(6) ext)
     ·exact f3.elim⟩⟩⟩
end
def orM {α:Type} (m n:M α):M α:=λh=>match m h with
 | .bad=>n h
 | r=>r
def orE {α:Type} (m n:G->M α):G->M α:=λγ=>orM (m γ) (n γ)
section
variable {X:Cx}{EX:XX}{e tg:Expr}
theorem z7A {α:Type}(m n:M α) (h:AH):orM m n h=m h∨orM m n h=n h:=by
 unfold orM
 cases m h with
 | bad=>exact .inr rfl
 | ok a b=>exact .inl rfl
 | err a b=>exact .inl rfl
theorem zS5 {m n:G->M D}(a:SE X EX e m) (b:SE X EX e n):SE X EX e (orE m n) :=
 ⟨λpins s σ H Q I ⟨ρ,γ,h,rel,fin⟩=>by
  rcases z7A (m γ) (n γ) h with z|z<;>rw [show orE m n γ h=orM (m γ) (n γ) h from rfl,z] at fin
  ·exact a.h pins s σ H Q I ⟨ρ,γ,h,rel,fin⟩
  ·exact b.h pins s σ H Q I ⟨ρ,γ,h,rel,fin⟩⟩
theorem z3G {m n:G->M Src}(a:SI X EX tg e m) (b:SI X EX tg e n):SI X EX tg e (orE m n) :=
 ⟨λpins s σ H Q I ⟨ρ,γ,h,rel,fin⟩=>by
  rcases z7A (m γ) (n γ) h with z|z<;>rw [show orE m n γ h=orM (m γ) (n γ) h from rfl,z] at fin
  ·exact a.h pins s σ H Q I ⟨ρ,γ,h,rel,fin⟩
  ·exact b.h pins s σ H Q I ⟨ρ,γ,h,rel,fin⟩⟩
end
theorem or_l {α:Type}{m n:G->M α}{γ:G}{h h1:AH}{v:α}(e:m γ h=.ok v h1):orE m n γ h=.ok v h1:=by unfold orE orM;rw [e]
theorem or_r {α:Type}{m n:G->M α}{γ:G}{h:AH}(e:m γ h=.bad):orE m n γ h=n γ h:=by unfold orE orM;rw [e]
theorem W_of {α:Type}{m:M α}{h h1:AH}{v:α}{Q:α->AH->Prop}(e:m h=.ok v h1) (q:Q v h1):W m h Q:=⟨_,_,e,q⟩
def kvN (l:List Nat):List (Key×D):=l.map λ(i:Nat)=>(.inl (i:Int),.bl true)
def putN (acc:List Nat) (k:Nat):List Nat:=if k∈acc then acc else acc++[k]
def dedN (l:List Nat):List Nat:=l.foldl putN []
theorem zg0 {a:List Nat}{k x:Nat}:x∈putN a k↔x∈a∨x=k:=by
 unfold putN
 split
 ·exact ⟨.inl,λh=>h.elim id λe=>by subst e;assumption⟩
 ·simp
theorem zt6 {a:List Nat}{k:Nat}(h:a.Nodup):(putN a k).Nodup:=by
 unfold putN
 split
 ·exact h
 ·exact zb4 h ‹_›
theorem z7r {x:Nat}:∀{l a:List Nat},x∈l.foldl putN a↔x∈a∨x∈l
 | [],a=>by simp
 | k::l,a=>by rw [K4d,z7r,zg0,K0x];exact or_assoc
theorem za1:∀{l a:List Nat},a.Nodup->(l.foldl putN a).Nodup
 | [],_,h=>h
 | _::l,_,h=>za1 (l:=l) (zt6 h)
theorem dedN_mem {l:List Nat}{x:Nat}:x∈dedN l↔x∈l:=by unfold dedN;rw [z7r];simp
theorem z8W (l:List Nat):(dedN l).Nodup:=za1 K93
theorem z8u:∀(l a:List Nat),(kN l).foldl putK (kN a)=kN (l.foldl putN a)
 | [],a=>rfl
 | k::l,a=>by
  have e:putK (kN a) (.inl (k:Int))=kN (putN a k):=by
   unfold putN
   split
   ·rename_i h
    unfold putK
    rw [if_pos (kN_mem.mpr h)]
   ·exact zB7 ‹_›
  show (kN l).foldl putK (putK (kN a) (.inl (k:Int)))=_
  rw [e]
  exact z8u l (putN a k)
theorem zD4 (l:List Nat):dedK (kN l)=kN (dedN l):=z8u l []
theorem zj0 {l:List Nat}{n:Nat}(h:∀x∈l,x<n):(dedN l).length≤n:=z3R (z8W l) λx hx=>h x (dedN_mem.mp hx)
theorem z90:∀l:List Nat,z4s (stD l)=some (kN l)
 | []=>rfl
 | a::l=>by
  have:z4s (stD (a::l))=(match keyD (.int (a:Int)),z4s (stD l) with
   | some k,some ks=>some (k::ks)
   | _,_=>none):=rfl
  rw [this,z90 l];rfl
def setN (l:List Nat):List Nat:=v5 (dedN l)
theorem z30 {l:List Nat}{x:Nat}:x∈setN l↔x∈l:=by unfold setN;rw [sortN_mem,dedN_mem]
theorem z5l (l:List Nat):(setN l).Pairwise (·<·):=z1M (z8W l)
theorem z3F {l:List Nat}(h:l.Pairwise (·<·)):l.Nodup:=h.imp λh=>K0n h
theorem z6N {l m:List Nat}(a:l.Pairwise (·<·)) (b:m.Pairwise (·<·)) (h:∀x,x∈l↔x∈m):l=m :=
 ((K71 (z3F a) (z3F b)).mpr h).eq_of_pairwise (λ_ _ _ _ h1 h2=>absurd h2 (Nat.lt_asymm h1)) a b
theorem ze1 {l m:List Nat}(h:∀x,x∈l↔x∈m):setN l=setN m:=z6N (z5l l) (z5l m) λx=>by rw [z30,z30];exact h x
theorem ze0 {l:List Nat}{n:Nat}(h:∀x∈l,x<n):(setN l).length≤n:=by unfold setN;rw [z0y];exact zj0 h
section
variable {ma me:G->M D}{mt:G->M Out}{γ:G}{h:AH}{a b i:Nat}{xs:List D}{v:D}{Q:Out->AH->Prop}
theorem z6g (e:h[i]?=.(l xs)):z2h (.ref i) h=.ok i h:=by unfold z2h;dsimp only;rw [e]
theorem z7g (e:h[i]?=.(l xs)) (hl:xs.length<1000000):j8 i v h=.ok .non (h.set i (.lst (xs++[v]))):=by
 unfold j8 updL
 rw [e]
 dsimp only
 rw [if_pos (by simp [sizeLine];omega)]
theorem z1G (ea:γ[a]?=some (.(r i))) (e:h[i]?=.(l xs)) (hl:xs.length<1000000) (ev:me γ h=.ok v h) (z:W (mt γ) (h.set i (.lst (xs++[v]))) Q):W (Z0 (z0e (eM1 j8 (eVar a) me)) mt γ) h Q:=by
 refine z7w ?_
 have e1:eVar a γ=pure (.ref i):=by unfold eVar;rw [ea]
 unfold eM1
 rw [e1,z1m,Z6]
 refine W_of (z6g e) ?_
 rw [Z6]
 exact W_of ev (W_of (z7g e hl) z)
theorem zf7 (hl:xs.length≤1000000) (ev:∀h,me γ h=newL xs h) (z:W (mt (γ.set a (.(r h.length)))) (h++[.lst xs]) Q):W (Z0 (sAsg me (gN a)) mt γ) h Q:=by
 refine zb0 ?_
 have:me γ=newL xs:=funext ev
 rw [this]
 exact zT8 hl z
theorem J5 {f:List D->M D}{d:D}{h1:AH}{r:Res D}(e:me γ h=.ok d h1) (e2:f [d] h1=r):Z8 f (z9 me aNil) γ h=r:=by
 have:z9 me aNil γ h=.ok [d] h1:=by
  show (me γ >>= λx=>(do let r ← aNil γ;pure (x::r):M (List D))) h=_
  rw [M.bind_ok e];rfl
 show (z9 me aNil γ >>= f) h=_
 rw [M.bind_ok this];exact e2
theorem z6x (e:h[i]?=.(l xs)):v8 [.ref i] h=.ok (.tup xs) h:=by
 have ft:v8 [.ref i]=(do let x ← getL i;pure (.tup x)):=rfl
 have g:getL i h=.ok xs h:=by unfold getL;rw [e]
 rw [ft,M.bind_ok g];rfl
theorem z7J (e:h[i]?=.(l xs)):fLen [.ref i] h=.ok (.int xs.length) h:=by
 have ft:fLen [.ref i]=(do let x ← getL i;pure (.int x.length)):=rfl
 have g:getL i h=.ok xs h:=by unfold getL;rw [e]
 rw [ft,M.bind_ok g];rfl
theorem ix_h {t:Int}{d:D}(e:h[i]?=.(l xs)) (a:atI xs t=some d):fIx (.ref i) (.int t) h=.ok d h:=by
 have ft:fIx (.ref i) (.int t)=(do let xs ← getL i;match atI xs t with|some d=>pure d|none=>bad):=rfl
 have g:getL i h=.ok xs h:=by unfold getL;rw [e]
 rw [ft,M.bind_ok g,a];rfl
theorem zx1 {ss:List Str}(e:h[i]?=.(l (ss.map .str))) (hl:ss.length<64):z13 [.ref i] h=.ok .(r) (h++[.lst ((z1b ss).map .str)]):=by
 have fs:z13 [.ref i]=(do
  let xs ← getL i
  if xs.length<64 then (match z2U xs with
   | some ss=>newL ((z1b ss).map .str)
   | none=>(match z1P xs with
    | some ns=>newL ((sortI ns).map .int)
    | none=>bad)) else bad):=rfl
 have g:getL i h=.ok (ss.map .str) h:=by unfold getL;rw [e]
 rw [fs,M.bind_ok g,if_pos (by simpa using hl),strs_map]
 dsimp only
 unfold newL
 rw [if_pos (by rw [K02,z3i];unfold sizeLine;omega)]
theorem z6p (e:me γ h=.ok .(r) (h++[.lst xs])) (c:J4 0 xs=true):clE (Z8 v8 (z9 me aNil)) γ h=.ok (.tup xs) h :=
 z1a (j:=[.lst xs]) (J5 e (z6x .(e))) (by simp only [Y0];exact z1E (K4r _) c)
theorem cb_h {b:Bool}{h1:AH}(e:me γ h=.ok (.bl b) h1):(λγ=>(do let d ← me γ;asB d:M Bool)) γ h=.ok b h1:=by
 dsimp only
 rw [M.bind_ok e];rfl
theorem z4C {n:Nat}{mb:G->M Out}{ds:List D}{d:D}{h1:AH}(z:W (mb (z0D n ds)) h (runW λa h'=>a=d/\h'=h1)):runF n mb ds h=.ok d h1:=by
 obtain ⟨_,_,a,rfl,rfl⟩:=z2C z
 exact a
end
theorem z9R {f:D->D->Option Bool}{ι:Type} [DecidableEq ι] {enc:ι->D}(e:∀a b,f (enc a) (enc b)=some (decide (a=b))):∀l m:List ι,eqZ f (l.map enc) (m.map enc)=some (decide (l=m))
 | [],[]=>by simp [eqZ]
 | [],b::m=>by simp [eqZ]
 | a::l,[]=>by simp [eqZ]
 | a::l,b::m=>by
  rw [K0q,K0q]
  unfold eqZ
  rw [e a b,z9R e l m]
  dsimp only
  congr 1
  rw [K0z]
  simp
theorem z2B {n:Nat}{h:AH}(a b:Nat):eqN (n+1) h (.int a) (.int b)=some (decide (a=b)):=by
 show some ((a:Int)==(b:Int))=_
 congr 1
 rw [K0z,beq_iff_eq,decide_eq_true_eq]
 exact Int.ofNat_inj
theorem zr0 {n:Nat}{h:AH}(a b:Str):eqN (n+1) h (.str a) (.str b)=some (decide (a=b)):=by
 show some (a==b)=_
 congr 1
theorem z8S {ι:Type} [DecidableEq ι] {enc:ι->D}{n:Nat}{h:AH}(e:∀a b,eqN n h (enc a) (enc b)=some (decide (a=b))) (l m:List ι):eqN (n+1) h (.tup (l.map enc)) (.tup (m.map enc))=some (decide (l=m)):=z9R e l m
theorem z7D {neg:Bool}{h:AH}{x y:D}{b:Bool}(e:eqN 24 h x y=some b):fEqX neg x y h=.ok (.bl (b != neg)) h:=by
 unfold fEqX;rw [e]
section
variable {ma mb:G->M D}{γ:G}{h h1 h2:AH}
theorem e2_h {f:D->D->M D}{x y:D}{r:Res D}(e1:ma γ h=.ok x h1) (e2':mb γ h1=.ok y h2) (e3:f x y h2=r):e2 f ma mb γ h=r:=by
 show (ma γ >>= λx=>(mb γ >>= λy=>f x y)) h=_
 rw [M.bind_ok e1,M.bind_ok e2',e3]
theorem fn_h {n:Nat}{f:List D->M D}{mr:G->M (List D)}{ds:List D}{r:Res D}(e:mr γ h=.ok ds h1) (hn:ds.length=n) (e2:f ds h1=r):eFn n f mr γ h=r:=by
 show (mr γ >>= λxs=>if xs.length=n then f xs else bad) h=_
 rw [M.bind_ok e,if_pos hn,e2]
theorem ac_h {mr:G->M (List D)}{d:D}{ds:List D}(e:ma γ h=.ok d h1) (e2:mr γ h1=.ok ds h2):z9 ma mr γ h=.ok (d::ds) h2:=by
 show (ma γ >>= λx=>(mr γ >>= λr=>(pure (x::r):M (List D)))) h=_
 rw [M.bind_ok e,M.bind_ok e2];rfl
end
section
variable {prog:K0m}{w:World}{A:Around}{E:Value->Shared->Prop}{s:Shared}
theorem z9z:∀{vs:List Value}{ns:List Int},K5r vs ns->∀i (h1:i<vs.length) (h2:i<ns.length),∃t,vs[i]=.int ns[i] t
 | _,_,.nil,i,h1,_=>by simp at h1
 | _,_,.cons n t r,0,_,_=>⟨t,rfl⟩
 | _,_,.cons n t r,i+1,h1,h2=>by simpa using z9z r i (by simpa using h1) (by simpa using h2)
theorem z2T {t:Addr}{vs:List Value}{ns:List Int}{k:Int}{tk:Tok}{Q:Value->Shared->Prop}(ht:IsTup s.heap t vs.toArray) (hi:K5r vs ns) (hk:k∈ns) (h:Q (.int (ns.idxOf k:Nat) s.toks) { s with toks:=s.toks+1 }) :
 wpAny (model prog w) A (call (.builtin "tuple.index") [.ref t,.int k tk]) Q E s:=by
 have hT:s.heap.IsTuple t vs.toArray:=ht
 have hlen:=hi.length
 have hj:ns.idxOf k<ns.length:=K1v.mpr hk
 obtain ⟨o,ho,hc,n,hd⟩:=id hT
 refine K2i F.slot_tuple_index ⟨o,ho,hc⟩ F.entry_tuple_index ?_ (F.args_tuple_index_2 _ _)
 unfold Builtin.«tuple.index»
 wp_walk
 rw [hd]
 refine K8 ?_
 refine K8 ?_
 dsimp only
 refine K1 (K8 ?_)
 refine K1 (K8 ?_)
 refine K1 ?_
 rw [Std.Legacy.Range.forIn_eq_forIn_range']
 simp only [Std.Legacy.Range.size,Nat.sub_zero,Nat.add_sub_cancel,Nat.div_one,Nat.min_self,K06]
 refine wpAny_forIn_list _
  (λrest b s'=>s'=s/\b=(none,())/\∃i,rest=Z0t i (vs.length - i)/\i≤ns.idxOf k)
  _ ?_ ?_ _ _ ⟨rfl,rfl,0,by simp,K4r _⟩
 ·rintro x rest b s' ⟨rfl,rfl,i,hr,hle⟩
  have hlt:i<vs.length:=by omega
  obtain ⟨rfl,hrest⟩:x=i/\rest=Z0t (i+1) (vs.length - (i+1)):=by
   have e:vs.length - i=(vs.length - (i+1))+1:=by omega
   rw [e,K7v] at hr
   injection hr with h1 h2
   exact ⟨h1,h2⟩
  have e1:vs.toArray[x]?=some vs[x]:=by simp [hlt]
  rw [e1]
  dsimp only
  obtain ⟨tk2,e2⟩:∃tk2,vs[x]=.int (ns[x]' .(0)) tk2:=z9z hi x hlt .(0)
  rw [e2]
  refine K1 (wpAny_eqBool_int ?_)
  by_cases e3:x=ns.idxOf k
  ·have e4:ns[x]' .(0)=k:=by subst e3;exact K45 hj
   rw [e4,if_pos .(e)]
   subst e3
   wp_walk
   exact ⟨_,rfl,h⟩
  ·have e4:(ns[x]' .(0)==k)=false:=ne_of_lt_idxOf (show x<ns.idxOf k by omega) _
   rw [if_neg (by rw [e4];decide)]
   exact K8 ⟨rfl,rfl,x+1,hrest,by omega⟩
 ·rintro b s' ⟨rfl,rfl,i,hr,hle⟩
  have:vs.length - i=0:=by
   cases e:vs.length - i with
   | zero=>rfl
   | succ m=>rw [e,K7v] at hr;cases hr
  omega
end
section
variable {X:Cx}{EX:XX}{a o:Expr}{pos apos cpos p:Pos}{mo ma:G->M D}{mr:G->M (List D)}
def zp1 (K:K0):V->List V->Hp->VK->Prop:=λx vs H Q=>∃(l:Addr) (ns:List Int) (k:Int),x=.ref l/\vs=[.int k]/\SqL K H l (ns.map V.int)/\ns.length≤100000/\k∈ns/\Q (.int (ns.idxOf k:Nat)) H
def zy4 (K:K0):V->List V->Hp->VK->Prop:=λx vs H Q=>∃(l:Addr) (ns:List Int) (k:Int),x=.ref l/\vs=[.int k]/\SqT K H l (ns.map V.int)/\k∈ns/\Q (.int (ns.idxOf k:Nat)) H
theorem z8X:MtR X "tuple.index" (zy4 X.K):=by
 intro pins s σ H x vs v us Q I rx rv h
 obtain ⟨l,ns,k,rfl,rfl,hq,hk,q⟩:=h
 cases rx
 obtain ⟨u,rfl,ru⟩:=rv.one
 obtain ⟨t,rfl⟩:=ru
 obtain ⟨its,r,pl,hz⟩:=I.tuple hq
 exact z2T pl (intsAre_of r) hk ⟨.int _,H,I.tok _,⟨_,rfl⟩,q⟩
theorem z6f {A:Around}{E:Value->Shared->Prop}{s:Shared}{l:Addr}{vs:List Value}{ns:List Int}{k:Int}{t:Tok}{Q:Value->Shared->Prop}(hl:s.heap.IsList l vs.toArray) (hi:K5r vs ns) (hb:ns.length≤100000) (hk:k∈ns) (h:Q (.int (ns.idxOf k:Nat) s.toks) { s with toks:=s.toks+1 }) :
 wpAny .(4) A (call (.builtin "list.index") [.ref l,.int k t]) Q E s:=by
 obtain ⟨⟨cls,dd,data,sl⟩,ho,hc,n,hd⟩:=id hl
 simp only at hc hd
 subst hc hd
 have hlen:=hi.length
 have hj:ns.idxOf k<ns.length:=K1v.mpr hk
 refine K48 K40 ⟨_,ho,rfl⟩ K7p (K72 _ _)
  (K7n l vs.toArray n dd sl (.int k t) (isInt k) (ns.idxOf k) (by simpa [hlen] using hj) .(0) ?_ ?_) ⟨ho,λy hy=>(eq_isInt k t hi y (by simpa using hy)).at _ _,h⟩
 ·show isInt k vs[ns.idxOf k]=true
  rw [isInt_at k hi _ .(0) hj]
  simpa using K45 hj
 ·intro j hjs hlt
  show isInt k vs[j]=false
  rw [isInt_at k hi j (by simpa using hjs) .(0)]
  exact ne_of_lt_idxOf hlt _
theorem z8l:MtR X "list.index" (zp1 X.K):=by
 intro pins s σ H x vs v us Q I rx rv h
 obtain ⟨l,ns,k,rfl,rfl,hq,hb,hk,q⟩:=h
 cases rx
 obtain ⟨u,rfl,ru⟩:=rv.one
 obtain ⟨t,rfl⟩:=ru
 obtain ⟨its,r,pl,hz⟩:=I.list hq
 exact z6f pl.isList (intsAre_of r) hb hk ⟨.int _,H,I.tok _,⟨_,rfl⟩,q⟩
def ixI (xs:List D) (y:D):M D:=match z1P xs,y with
 | some ns,.int k=>if ns.length≤100000/\k∈ns then pure (.int (ns.idxOf k:Nat)) else bad
 | _,_=>bad
def z2J (n:Nat) (y:D):M D:=do
 let xs ← getL n
 ixI xs y
def z2z (mo ma:G->M D):G->M D:=λγ=>do
 let o ← mo γ
 match o with
 | .tup xs=>do
  let y ← ma γ
  ixI xs y
 | _=>bad
theorem z8J {ρ:List Addr}{h:AH}{H:Hp}{xs:List D}{y:D}{vs:List V}{u:V}{Q:VK}(r:RH X.K ρ h H) (rx:RDs X.K ρ H xs vs) (ry:RD X.K ρ H y u) (fin:FE X.K EX ρ H Q (ixI xs y h)):∃(ns:List Int) (k:Int),vs=ns.map V.int/\u=.int k/\ns.length≤100000/\k∈ns/\Q (.int (ns.idxOf k:Nat)) H:=by
 unfold ixI at fin
 cases e:z1P xs with
 | none=>rw [e] at fin;exact fin.elim
 | some ns =>
  rw [e] at fin
  cases y<;>first|exact (show False from fin).elim|skip
  rename_i k
  dsimp only at fin
  simp only [RD] at ry
  subst ry
  by_cases c:ns.length≤100000/\k∈ns
  ·rw [if_pos c] at fin
   exact ⟨ns,k,z33 e rx,rfl,c.1,c.2,FE.here fin r .(t)⟩
  ·rw [if_neg c] at fin;exact fin.elim
theorem z8H (ho:SE X EX o mo) (ha:SE X EX a ma)
 (hbase:K4k o "index" X.env (eval o X.env)=eval o X.env:=by rfl)
 (hfew:((backTo cpos (K03 [a] X.env)).all (λx=>!x.1)&&(K80 cpos (K5h [] X.env)).all (λx=>x.1.isSome)
 &&decide .(m))=true:=by rfl)
 (hline:(apos.endLine==cpos.line)=true:=by rfl) (hs:K03 [a] X.env=[(false,eval a X.env)]:=by rfl) :
 SE X EX (.Call (.Attribute o "index" apos) [a] [] cpos) (eM1 z2J mo ma) :=
 ⟨PE.imp (ze6 K41 K40 K83 z8l ho.h (Y2 ha.h z0R hs) hbase hfew hline hs rfl) (zk3 λρ h H n q y u Q r hq ru fin=>by
  have f2:Fin X.K EX ρ H _ _:=Fin.bind (show Fin X.K EX ρ H (λd ρ' _ H'=>∀v,RD X.K ρ' H' d v->Q v H') ((getL n >>= λxs=>ixI xs y) h) from fin)
  cases e3:getL n h with
  | bad=>rw [e3] at f2;exact f2.elim
  | err z hz=>exact (z0r e3).elim
  | ok xs h3 =>
   obtain ⟨rfl,q1⟩:=z0p e3
   rw [e3] at f2
   obtain ⟨a1,n1,vs,o1,d1⟩:=r.at q1
   rw [hq] at n1;cases n1
   obtain ⟨ns,k,rfl,rfl,hb,hk,q⟩:=z8J r d1 ru (f2 ρ H .(6) .(8) r)
   exact ⟨_,ns,k,rfl,rfl,SqL.of o1,hb,hk,q⟩)⟩
def tBMT (K:K0) (r:V->List V->Hp->VK->Prop) (to:TE) (t:TA):TE:=λσ H Q=>to σ H λx H1=>(∃a xs,x=.ref a/\SqT K H1 a xs)/\t σ H1 λvs H2=>r x vs H2 Q
theorem tup_is {pins:List .(f)}{σ:L2.St}{H:Hp}{s:Shared}{a:Addr}{xs:List V}(I:Inv X pins σ H s) (h:SqT X.K H a xs):s.TypeIs (.ref a) "tuple"/\∀b,K1j a=.ref b->∃ob,s.heap.get? b=some ob/\ob.dict=none:=by
 rcases h with h|⟨o,its,n,hk,hc,_⟩
 ·obtain ⟨z,its,r,o,e,c,d⟩:=h.ok I.hok
  exact ⟨⟨o,e,c.1⟩,λb eb=>by cases eb;exact ⟨o,e,c.2⟩⟩
 ·exact ⟨⟨o,I.kIn a o hk,hc.1⟩,λb eb=>by cases eb;exact ⟨o,I.kIn _ o hk,hc.2⟩⟩
theorem zM8 {e:Expr}{es:List Expr}{to:TE}{t:TA}{name:Str}{id:String}{r:V->List V->Hp->VK->Prop}(pa:PlainAttrs "tuple") (slot:Slot "tuple" name id) (hty:typeOf (.builtin id)=pure (.type "method_descriptor")) (hm:MtR X id r) (ho:PE X o to) (ha:PA X (e::es) t)
 (hbase:K4k o name X.env (eval o X.env)=eval o X.env:=by rfl)
 (hfew:((backTo cpos (K03 (e::es) X.env)).all (λx=>!x.1)&&(K80 cpos (K5h [] X.env)).all (λx=>x.1.isSome)
 &&decide ((e::es).length+([]:List K4a).length+(if ([]:List K4a).isEmpty then 0 else 1)<30))=true:=by rfl)
 (hline:(apos.endLine==cpos.line)=true:=by rfl) (hs:K03 (e::es) X.env=(false,eval e X.env)::K03 es X.env:=by rfl) (hplain:(backTo cpos (K03 es X.env)).any (·.1)=false:=by rfl) :
 PE X (.Call (.Attribute o name apos) (e::es) [] cpos) (tBMT X.K r to t):=by
 intro pins s σ H Q I h
 refine K8k hbase hfew hline rfl (thn (ho pins s σ H _ I h) λv s1 ⟨x,H1,I1,r1,ty,q1⟩=>?_)
 obtain ⟨a,xs,rfl,hq⟩:=ty
 cases r1
 obtain ⟨h1,h2⟩:=tup_is I1 hq
 refine ⟨"tuple",id,pa,slot,hty,h1,h2,?_⟩
 have hA:=ha cpos pins s1 σ H1 _ I1 q1
 rw [hs] at hA ⊢
 refine K8g (by show (false||(backTo cpos (K03 es X.env)).any (·.1))=false;rw [hplain]<;>rfl) (K68 ?_)
 exact thn hA λus s2 ⟨vs,H2,I2,r2,q2⟩=>hm pins s2 σ H2 (.ref a) vs (.ref a) us Q I2 rfl r2 q2
theorem z8Y (ho:SE X EX o mo) (ha:SE X EX a ma)
 (hbase:K4k o "index" X.env (eval o X.env)=eval o X.env:=by rfl)
 (hfew:((backTo cpos (K03 [a] X.env)).all (λx=>!x.1)&&(K80 cpos (K5h [] X.env)).all (λx=>x.1.isSome)
 &&decide .(m))=true:=by rfl)
 (hline:(apos.endLine==cpos.line)=true:=by rfl) (hs:K03 [a] X.env=[(false,eval a X.env)]:=by rfl) :
 SE X EX (.Call (.Attribute o "index" apos) [a] [] cpos) (z2z mo ma) :=
 ⟨PE.imp (zM8 PySem.F.plainAttrs_tuple PySem.F.slot_tuple_index PySem.F.type_tuple_index z8X ho.h (Y2 ha.h z0R hs) hbase hfew hline hs rfl) λσ H Q ⟨ρ,γ,h,rel,fin⟩=>⟨ρ,γ,h,rel,(Fin.bind fin).mono λx ρ1 h1 H1 p1 e1 r1 f1 v rv=>by
  cases x<;>first|exact (show False from f1).elim|skip
  rename_i xs
  simp only [RD] at rv
  obtain ⟨q,vs,rfl,h2,h3⟩:=rv
  exact ⟨⟨q,vs,rfl,h2⟩,ρ1,γ,h1,⟨rel.g.mono p1 e1,r1⟩,(Fin.bind f1).mono λy ρ2 h4 H2 p2 e2 r2 f2 u ru=>by
   obtain ⟨ns,k,rfl,rfl,hb,hk,q⟩:=z8J r2 (h3.mono p2 e2) ru f2
   exact ⟨_,ns,k,rfl,rfl,e2.t _ _ h2,hk,q⟩⟩⟩⟩
end
theorem Y5 {h:AH}{o:O}:(h++[o])[h.length]?=some o:=by simp
theorem z9W {h:AH}{o o':O}:(h++[o]).set h.length o'=h++[o']:=by simp
theorem zA7 {h:AH}{i:Nat}{S:List Nat}(hl:S.length<64) (e:h[i]?=.(l (stD S))):z13 [.ref i] h=.ok .(r) (h++[.lst (stD (v5 S))]):=by
 have fs:z13 [.ref i]=(do
  let xs ← getL i
  if xs.length<64 then (match z2U xs with
   | some ss=>newL ((z1b ss).map .str)
   | none=>(match z1P xs with
    | some ns=>newL ((sortI ns).map .int)
    | none=>bad)) else bad):=rfl
 have g:getL i h=.ok (stD S) h:=by unfold getL;rw [e]
 cases S with
 | nil =>
  rw [fs,M.bind_ok g,if_pos (by rw [J7];exact hl)]
  have e1:z2U (stD [])=some []:=rfl
  have e2:(z1b []).map D.str=stD (v5 []):=by
   have a:z1b []=[]:=K2z.mp (by rw [z3i];rfl)
   have b:v5 []=[]:=K2z.mp (by rw [z0y];rfl)
   rw [a,b];rfl
  rw [e1]
  dsimp only
  rw [e2]
  unfold newL
  rw [if_pos (by rw [J7,z0y];unfold sizeLine;simp)]
 | cons a S =>
  have sn:z2U (stD (a::S))=none:=rfl
  rw [fs,M.bind_ok g,if_pos (by rw [J7];exact hl),sn,z3b]
  dsimp only
  rw [z3J]
  unfold newL
  rw [if_pos (by rw [J7,z0y];unfold sizeLine;omega)]
theorem zN_mem {l:List Nat}{x:Nat}:(x:Int)∈zN l↔x∈l:=by
 unfold zN
 constructor
 ·intro h
  obtain ⟨i,hi,e⟩:=K09.mp h
  have:i=x:=by omega
  exact this ▸ hi
 ·exact λh=>K09.mpr ⟨x,h,rfl⟩
theorem zM2 (l:List Nat) (x:Nat):(zN l).idxOf (x:Int)=l.idxOf x:=by
 induction l with
 | nil=>rfl
 | cons a l ih =>
  show ((a:Int)::zN l).idxOf (x:Int)=_
  rw [K8q,K8q,ih]
  by_cases e:a=x
  ·subst e;simp
  ·have h1:((a:Int)==(x:Int))=false:=by
    rw [beq_eq_false_iff_ne];omega
   have h2:(a==x)=false:=by rw [beq_eq_false_iff_ne];exact e
   rw [h1,h2]
theorem zJ9 {l:List Nat}{x:Nat}(hx:x∈l) (hl:l.length≤100000):ixI (stD l) (.int x)=pure (.int (l.idxOf x:Nat)):=by
 unfold ixI
 rw [z3b]
 dsimp only
 rw [if_pos ⟨by unfold zN;simpa using hl,zN_mem.mpr hx⟩,zM2]
section
variable {mo ma:G->M D}{γ:G}{h:AH}{i x:Nat}{l:List Nat}
end
section
variable {me ma:G->M D}{kb:G->M Bool}{γ:G}{h h1:AH}{a i:Nat}{b:Bool}{xs:List D}
theorem cv_h (e:me γ h=.ok (.bl b) h1):cVal me γ h=.ok b h1:=by
 unfold cVal
 rw [M.bind_ok e]
 rfl
theorem cn_h (e:kb γ h=.ok b h1):cNot kb γ h=.ok (!b) h1:=by
 unfold cNot
 rw [M.bind_ok e]
 rfl
theorem Z1 {d:D}(e:γ[a]?=some (some d)):eVar a γ h=.ok d h:=by unfold eVar;rw [e];rfl
theorem zn0 (e:me γ h=.ok (.ref i) h) (q:h[i]?=.(l xs)):x6 me γ h=.ok (.lst i xs) h:=by
 have g:getL i h=.ok xs h:=by unfold getL;rw [q]
 unfold x6
 rw [M.bind_ok e]
 dsimp only
 rw [M.bind_ok g]
 rfl
theorem z1x (e:me γ h=.ok (.tup xs) h1):z0f me γ h=.ok (.con xs) h1:=by
 unfold z0f
 rw [M.bind_ok e]
 rfl
theorem zj4 (e:me γ h=.ok (.ref i) h) (q:h[i]?=.(l xs)):orE (z0f me) (x6 me) γ h=.ok (.lst i xs) h:=by
 rw [or_r]
 ·exact zn0 e q
 ·unfold z0f
  rw [M.bind_ok e]
  rfl
theorem zu7 (e:me γ h=.ok (.tup xs) h1):orE (z0f me) (x6 me) γ h=.ok (.con xs) h1:=or_l (z1x e)
theorem z2A {cap:List (Option Nat)}{mi:G->M Src}{g:D->G->M G}{src:Src}{l:List Nat}(p:Nat->Bool) (f:Nat->D) (hi:mi γ h=.ok src h) (hs:src.items=stD l) (hg:∀j,src.good (h++j)) (hl:l.length≤1000000)
 (hd:∀x∈l,∃γ1,(∀h,g (.int x) (capG cap γ) h=.ok γ1 h)/\(∀j,kb γ1 (h++j)=.ok (p x) (h++j))/\(p x=true->∀j,me γ1 (h++j)=.ok (f x) (h++j))):x9 cap mi g kb me γ h=.ok .(r) (h++[.lst ((l.filter p).map f)]):=by
 refine (z1w (src:=src) (λd=>match d with|.int t=>p t.toNat|_=>false) (λd=>match d with|.int t=>f t.toNat|_=>.non) hi hg (by rw [hs,J7];exact hl) λd hd'=>?_).trans ?_
 ·rw [hs] at hd'
  obtain ⟨x,hx,rfl⟩:=K09.mp hd'
  exact hd x hx
 ·rw [hs]
  unfold stD
  rw [K8s,K0w]
  rfl
end
theorem z2e {ma mb:G->M D}{γ:G}{h h1 h2:AH}{x y:D}(e1:ma γ h=.ok x h1) (e2':mb γ h1=.ok y h2):eTup (z9 ma (z9 mb aNil)) γ h=.ok (.tup [x,y]) h2:=by
 have e3:z9 ma (z9 mb aNil) γ h=.ok [x,y] h2:=ac_h e1 (ac_h e2' rfl)
 unfold eTup
 rw [M.bind_ok e3]
 rfl
theorem zD1 {tup:Bool}{ma:G->M D}{γ:G}{n:Nat}(e:ma γ=pure (.int (n:Nat))) (hn:n≤1000000):eRng tup ma γ=if tup then pure (.tup (z0q n)) else newL (z0q n):=by
 unfold eRng
 rw [e,z1m]
 have l:n≤sizeLine:=K0r hn .(1)
 dsimp only
 rw [if_pos (by rw [K0l,.(o) l,.(o) (show -(2 ^ 62)≤(n:Int) by omega),.(o) (show (n:Int)<2 ^ 62 by omega)];rfl),K0l]
theorem zy7 (n:Nat):z0q n=stD (K00 n):=rfl
theorem zC0 {m:M D}{h:AH}{Q:D->AH->Prop}(z:W m h λd h1=>Y0 h.length d=false/\(∀i,d≠.ref i)/\Q d h1):W (cln m) h Q:=by
 obtain ⟨d,h1,e,nd,nr,q⟩:=z
 refine ⟨d,h1,?_,q⟩
 unfold cln
 rw [e]
 dsimp only
 split
 ·rw [if_neg (by rw [nd];decide)]
  cases d<;>first|rfl|exact (nr _ rfl).elim
 ·rfl
theorem zL2 {t n:Nat}(h:t<n):K5f (t:Int) n=some t:=by
 unfold K5f
 rw [if_neg (show ¬ (t:Int)<0 by omega)]
 simp [h]
theorem zL1 {f:List D->Option (D×List D)}{n:Nat}{h:AH}{xs ys:List D}{d:D}(e:h[n]?=.(l xs)) (ef:f xs=some (d,ys)) (l:ys.length≤sizeLine):updL n f h=.ok d (h.set n (.lst ys)):=by
 unfold updL
 rw [e]
 dsimp only
 rw [ef]
 dsimp only
 rw [if_pos l]
theorem zp8 {h:AH}{i t:Nat}{xs:List D}{v:D}(e:h[i]?=.(l xs)) (hv:xs[t]?=some v) (hl:xs.length≤1000000):z2u i (.int (t:Nat)) h=.ok v (h.set i (.lst (xs.eraseIdx t))):=by
 have ht:t<xs.length:=(K2.mp hv).1
 have l:(xs.eraseIdx t).length≤sizeLine:=K0r (List.length_eraseIdx_le _ _) (K0r hl .(1))
 unfold z2u
 refine zL1 e ?_ l
 have:K5f (t:Int) xs.length=some t:=zL2 ht
 split
 ·rw [this]
  dsimp only
  rw [hv,Option.map_some]
 ·rename_i c
  exact absurd ⟨by omega,by omega⟩ c
theorem z7i:∀(l:List Nat) (t:Nat),(stD l).eraseIdx t=stD (l.eraseIdx t)
 | [],t=>rfl
 | a::l,0=>rfl
 | a::l,t+1=>by
  show D.int a::(stD l).eraseIdx t=D.int a::stD (l.eraseIdx t)
  rw [z7i l t]
theorem zi3 {l:List Nat}{t:Nat}(h:t<l.length):(l.eraseIdx t++[l[t]]).Perm l:=by
 have e:l=l.take t++l[t]::l.drop (t+1):=by
  rw [List.getElem_cons_drop,K8y]
 rw [List.eraseIdx_eq_take_drop_succ]
 refine Z0z ?_ (List.Perm.of_eq e.symm)
 refine (List.perm_append_singleton _ _).trans ?_
 exact List.perm_middle.symm
theorem zo9 {x:D}{l:List Nat}{h:AH}(e:seqD x h=.ok (stD l) h) (hl:l.length≤2000):z3g [x] h=.ok .(r) (h++[.set (kN (dedN l))]):=by
 unfold z3g
 dsimp only
 rw [M.bind_ok e,z90]
 dsimp only
 rw [if_pos (by rw [zE4];omega),zD4]
 rfl
theorem z8w {l:List Nat}{h:AH}{i:Nat}(e:h[i]?=some (.set (kN l))) (hl:l.length<64):z1g [.ref i] h=.ok .(r) (h++[.lst (stD (v5 l))]):=by
 unfold z1g
 dsimp only
 have g:getS i h=.ok (kN l) h:=by unfold getS;rw [e]
 rw [M.bind_ok g,z8O]
 dsimp only
 rw [if_pos (by unfold zN;rw [K02];omega),z3J]
 unfold newL
 rw [if_pos (by rw [J7,z0y];unfold sizeLine;omega)]
theorem zB8 {tup:Bool}{ma:G->M D}{γ:G}{h h1:AH}{n:Nat}(e:ma γ h=.ok (.int (n:Nat)) h1) (hn:n≤1000000):eRng tup ma γ h=(if tup then pure (.tup (z0q n)) else newL (z0q n)) h1:=by
 unfold eRng
 rw [M.bind_ok e]
 have l:n≤sizeLine:=K0r hn .(1)
 dsimp only
 rw [if_pos (by rw [K0l,.(o) l,.(o) (show -(2 ^ 62)≤(n:Int) by omega),.(o) (show (n:Int)<2 ^ 62 by omega)];rfl),K0l]
theorem zM9 {ma:G->M D}{g:D->G->M G}{mt:G->M Out}{γ:G}{h:AH}{Q:Out->AH->Prop}(J:D->AH->Prop) (z:W (ma γ) h J) (f:∀d h1,J d h1->∃γ',g d γ=pure γ'/\W (mt γ') h1 Q):W (Z0 (sAsg ma g) mt γ) h Q:=by
 rw [w_cons]
 unfold sAsg
 rw [Z6]
 refine z.mono λd h1 q=>?_
 obtain ⟨γ',e,w⟩:=f d h1 q
 rw [e,z1m,W_pure]
 exact w
def rowAt (row:List Nat) (o:Nat):Nat:=(row[o]?).getD 0
def mkAt (mk:List (List Str)) (i:Nat):List Str:=(mk[i]?).getD []
theorem z2L {l:List Nat}{x:Nat}(h:x∈l):l[l.idxOf x]?=some x:=by
 have:=K1v.mpr h
 rw [K6 this,K45 this]
theorem z8e {l:List Nat}{x:Nat}(h:x∈l):rowAt l (l.idxOf x)=x:=by unfold rowAt;rw [z2L h];rfl
theorem z16 {l:List Nat}{i:Nat}(h:i<l.length):l[i]?=some (rowAt l i):=by unfold rowAt;rw [K6 h];rfl
theorem z8N {l:List Nat}{i:Nat}(h:i<l.length):rowAt l i∈l:=K0d (z16 h)
theorem z32 {l:List Nat}{i x:Nat}(h:l[i]?=some x):rowAt l i=x:=by unfold rowAt;rw [h];rfl
theorem z35 {l:List (List Str)}{i:Nat}(h:i<l.length):l[i]?=some (mkAt l i):=by unfold mkAt;rw [K6 h];rfl
theorem z6K {l:List .(O)}{i:Nat}(h:i<l.length):l[i]?=some (nx l i):=by unfold nx;rw [K6 h];rfl
def led (st:List .(O)) (row:List Nat) (x:Nat):List Nat:=setN ((nx st x).map (rowAt row))
structure Cop (bst:List .(O)) (bmk:List (List Str)) (st:List .(O)) (mk:List (List Str)) (raw:List Nat):Prop where
 l:.(h)=raw.length
 kd:∀x,x∈raw↔x<bst.length
 rise:∀i,i<raw.length->(nx st i).Pairwise (·<·)
 lt:∀i,i<raw.length->∀o∈nx st i,o<raw.length
 st:∀i,i<raw.length->∀t,t∈(nx st i).map (rowAt raw)↔t∈nx bst (rowAt raw i)
 ml:mk=raw.map (mkAt bmk)
def rowOf (raw:List Nat):List Nat:=raw.map λx=>raw.idxOf x
section
variable {raw:List Nat}
theorem z3I:(rowOf raw).length=raw.length:=by unfold rowOf;simp
end
section
variable {bst st:List (List Nat)}{bmk mk:List (List Str)}{raw:List Nat}
end
theorem z52 {s:Shared}{M:Model}{A:Around}{a:Addr}{T id:String}{E:Value->Shared->Prop}{Q:Bool->Shared->Prop}(h:s.TypeIs (.ref a) T) (sl:Slot T (K4v "__iter__") id) (q:Q false s):wpAny M A (notIterableAtAll (.ref a)) Q E s:=by
 unfold notIterableAtAll
 refine K1 (K8t h sl.lookup ?_)
 exact K8 q
def zO3 (K:K0) (ta:TE) (tr:TA):TA:=λσ H Q=>ta σ H λx H1=>∃a xs,x=.ref a/\(SqT K H1 a xs∨SqL K H1 a xs)/\tr σ H1 λys H2=>Q (xs++ys) H2
section
variable {X:Cx}{EX:XX}{e:Expr}{es:List Expr}{te:TE}{t:TA}{p pos:Pos}{ma:G->M D}{mr:G->M (List D)}
theorem zo2 (ha:PE X e te) (hr:PA X es t):PA X (.Starred e p::es) (zO3 X.K te t):=by
 intro pos pins s σ H Q I h
 rw [K9a]
 show wpAny _ _ (Z12 ((true,do let v ← eval e X.env;K4q pos;pure v)::backTo pos (K03 es X.env))) _ _ s
 refine K9n (thn .(Q) λu s1 ⟨x,H1,I1,r1,q1⟩=>?_)
 obtain ⟨a,xs,rfl,hq,q⟩:=q1
 cases r1
 rcases hq with hq|hq
 ·obtain ⟨its,rv,pl,hz⟩:=I1.tuple hq
  have hl:=rv.length
  obtain ⟨o,ho,hc,n,hd⟩:=id pl
  refine z52 ⟨o,ho,hc⟩ PySem.F.slot_tuple_iter ⟨rfl,wpAny_collect_seq a (.inr rfl) ho hc hd (λh' kp=>?_) (by rw [K06];omega)⟩
  have I2:Inv X pins σ H1 { s1 with heap:=h' }:=I1.kept (t':=s1.toks) kp
  exact thn (hr pos pins _ σ H1 _ I2 q) λus s3 ⟨ys,H3,I3,r3,q3⟩=>⟨xs++ys,H3,I3,by simpa using rv.append r3,q3⟩
 ·obtain ⟨its,rv,pl,hz⟩:=I1.list hq
  have hl:=rv.length
  obtain ⟨o,n,ho,hc,hdd,hd⟩:=id pl
  refine z52 ⟨o,ho,hc⟩ PySem.F.slot_list_iter ⟨rfl,wpAny_collect_seq a (.inl rfl) ho hc hd (λh' kp=>?_) (by rw [K06];omega)⟩
  have I2:Inv X pins σ H1 { s1 with heap:=h' }:=I1.kept (t':=s1.toks) kp
  exact thn (hr pos pins _ σ H1 _ I2 q) λus s3 ⟨ys,H3,I3,r3,q3⟩=>⟨xs++ys,H3,I3,by simpa using rv.append r3,q3⟩
def z9q (ma:G->M D) (mr:G->M (List D)):G->M (List D):=λγ=>do
 let x ← ma γ
 match x with
 | .tup xs=>do
  let r ← mr γ
  pure (xs++r)
 | .ref n=>do
  let xs ← getL n
  let r ← mr γ
  pure (xs++r)
 | _=>bad
theorem zy6 (ha:SE X EX e ma) (hr:SA X EX es mr):SA X EX (.Starred e p::es) (z9q ma mr) :=
 ⟨PA.imp (zo2 ha.h hr.h) λσ H Q ⟨ρ,γ,h,rel,fin⟩=>⟨ρ,γ,h,rel,(Fin.bind fin).mono λx ρ1 h1 H1 p1 e1 r1 f1 v rv=>by
  cases x<;>first|exact (show False from f1).elim|skip
  ·rename_i xs
   simp only [RD] at rv
   obtain ⟨q,vs,rfl,h2,h3⟩:=rv
   exact ⟨q,vs,rfl,.inl h2,ρ1,γ,h1,⟨rel.g.mono p1 e1,r1⟩,(Fin.bind f1).mono λds ρ2 h4 H2 p2 e2 r2 f2 ws rws =>
    f2 ρ2 H2 .(6) .(8) r2 (vs++ws) ((h3.mono p2 e2).append rws)⟩
  ·rename_i n
   simp only [RD] at rv
   obtain ⟨q,rfl,hq⟩:=rv
   have f2:=Fin.bind f1
   cases e3:getL n h1 with
   | bad=>rw [e3] at f2;exact f2.elim
   | err z hz=>exact (z0r e3).elim
   | ok xs h3 =>
    obtain ⟨rfl,q1⟩:=z0p e3
    rw [e3] at f2
    obtain ⟨a1,n1,vs,o1,d1⟩:=r1.at q1
    rw [hq] at n1;cases n1
    have f3:=f2 ρ1 H1 .(6) .(8) r1
    exact ⟨_,vs,rfl,.inr (SqL.of o1),ρ1,γ,_,⟨rel.g.mono p1 e1,r1⟩,(Fin.bind f3).mono λds ρ2 h4 H2 p2 e2 r2 f2 ws rws =>
     f2 ρ2 H2 .(6) .(8) r2 (vs++ws) ((d1.mono p2 e2).append rws)⟩⟩⟩
def noM (mf:List D->M D):List D->M D:=λds h=>match mf ds h with
 | .ok a h1=>.ok a h1
 | _=>.bad
theorem zR5 {P:K0m}{w:World}{base:Heap}:z6Z (CXE P w base) X E0:=λ_ _ _ _ _ _ _ ⟨_,_,_,_,_,_,_,_,_,_,_,_,_,_,z⟩=>z.elim
theorem zh7 {k n:Nat}{x:Str}{mf:List D->M D}{a:Expr}(F:FnX X.prog X.w X.K X.mg X.base k x n mf) (hr:Room k X.A) (hg:Gl X x) (ha:SA X EX0 (a::es) mr) (hdb:.(A)=false:=by decide)
 (he:K03 (a::es) X.env=(false,eval a X.env)::K03 es X.env:=by rfl) (hpl:(backTo pos (K03 es X.env)).any (·.1)=false:=by rfl):SE X EX0 (.Call (.Name x p) (a::es) [] pos) (eFn n (noM mf) mr):=by
 constructor
 obtain ⟨f,fd,ps,h1,h2,h3,h4⟩:=F.ex
 refine PE.imp (z9b h1 hr hg h4 h3 h2 .nil zR5 ha.h hdb he hpl) λσ H Q ⟨ρ,γ,h,rel,fin⟩=>⟨ρ,γ,h,rel,(Fin.bind fin).mono λxs ρ1 h1 H1 p1 e1 r1 f1 vs rvs=>?_⟩
 show spX X.K mf n (vs++[]) H1 Q E0
 rw [K1i]
 by_cases hl:xs.length=n
 ·rw [if_pos hl] at f1
  refine ⟨by rw [← rvs.length];exact hl,ρ1,xs,h1,r1,rvs,?_⟩
  unfold noM at f1
  cases e:mf xs h1 with
  | ok a h2=>rw [e] at f1;exact f1
  | err z h2=>rw [e] at f1;exact (show False from f1).elim
  | bad=>rw [e] at f1;exact (show False from f1).elim
 ·rw [if_neg hl] at f1;exact (show False from f1).elim
end
end FT
namespace L2
section
variable {X:Cx}{tg:Expr}
end
end L2
namespace FT
section
variable {X:Cx}{EX:XX}{a b c tg:Expr}{p p2 pos pos2:Pos}{ma mb mc:G->M D}
end
end FT
namespace L2
section
variable {X:Cx}
end
end L2
namespace FT
section
variable {X:Cx}{EX:XX}{a b:Expr}{p p2 pos pos2:Pos}{ma mb:G->M D}
end
section
variable {X:Cx}{EX:XX}
end
section
variable {X:Cx}{EX:XX}{elt tg iter tg1 iter1:Expr}{ifs1:List Expr}{sc:Scope}{pos:Pos}{N':List Str}{cap:List (Option Nat)}{own own1:List Nat}{mi mi1:G->M Src}{g g1:D->G->M G}{k:G->M Bool}{me:G->M D}
noncomputable def zn1 (i:Nat) (cap:List (Option Nat)) (mi:G->M Src) (g:D->G->M G) (mi1:G->M Src) (g1:D->G->M G) (k:G->M Bool) (me:G->M D):G->M Out:=sAsg (z9c cap mi g mi1 g1 k me) (gN i)
theorem zz6 (i:Nat) {y:Str}{py spos:Pos}(hc:X.calm=true) (S:CS X sc N' cap) (hi:SI X EX tg iter mi) (hg:∀s H fp xe,SGk .(5) EX tg own g) (hi1:∀s H fp xe,SI .(5) EX tg1 iter1 mi1) (hg1:∀s H fp xe,SGk .(5) EX tg1 own1 g1) (ht:∀s H fp xe,SCs .(5) EX ifs1 k)
 (he:∀s H fp xe,SE .(5) EX elt me) (hN:X.N.Nodup) (hy:X.N[i]?=some y:=by rfl) (hl:X.env.scope.names.lookup y=some .local:=by rfl) (hown:∀j∈own,cap[j]?=some none:=by decide) (hown1:∀j∈own1,cap[j]?=some none/\j∉own:=by decide)
 (hsw:K1x .(y) (some (.Name y py)) spos.line X.env=pure true:=by rfl) (hs:∀x,K12 iter X.env x=pure x:=by intro _;rfl) (hs1:∀env x,K12 iter1 env x=pure x:=by intro _ _;rfl) :
 S1 X EX (.Assign [.Name y py] .(y) spos) (zn1 i cap mi g mi1 g1 k me) :=
 s_cm i (z8q hc hi1 hg1 ht he hown1 hs1) hc S hi hg (λ_ _ _ _=>v3) hown hN hy hl hsw hs
end
def cnt (st:List .(O)):Nat->Nat->Nat
 | 0,_=>1
 | n+1,x=>((nx st x).map (cnt st n)).sum
def zQ4 (w:List Nat):Nat:=w.getLast?.getD 0
def ext (st:List .(O)) (left:Nat) (w:List Nat):List .(O):=((nx st (zQ4 w)).filter λy=>decide (0<cnt st left y)).map λy=>w++[y]
section
variable {st:List (List Nat)}
end
end FT
namespace L2
open PySem.AutoSeq1 (wpAny_loadPart')
section
variable {P:K0m}{w:World}{A:Around}{E:Value->Shared->Prop}{s:Shared}{I t:Addr}
end
section
variable {X:Cx}{tg:Expr}
end
end L2
namespace FT
section
variable {X:Cx}{EX:XX}{a tg:Expr}{p pos:Pos}{ma:G->M D}
end
end FT
namespace L2
open PySem.AutoSeq1 (wpAny_loadPart')
section
variable {X:Cx}
end
end L2
namespace FT
section
variable {X:Cx}{EX:XX}{a o:Expr}{cpos apos:Pos}{ma mo:G->M D}
end
theorem zR0 {α:Type}{m:G->M α}{γ:G}{h:AH}{Q:α->AH->Prop}(z:W (m γ) h Q):W (noE m γ) h Q:=by
 obtain ⟨a,h1,e,q⟩:=z
 exact ⟨a,h1,by unfold noE;rw [e],q⟩
theorem zS4 {ms mt:G->M Out}{γ:G}{h:AH}{Q:Out->AH->Prop}(z:W (Z0 ms mt γ) h Q):W (Z0 (noE ms) mt γ) h Q:=by
 rw [w_cons] at z ⊢
 exact zR0 z
theorem zG0 {α:Type}{m:G->M α}{γ:G}{h h1:AH}{a:α}(e:m γ h=.ok a h1):noE m γ h=.ok a h1:=by unfold noE;rw [e]
theorem zI5 {me:G->M D}{mt:G->M Out}{γ:G}{h h1:AH}{a i:Nat}{xs:List D}{v:D}{Q:Out->AH->Prop}(ea:γ[a]?=some (.(r i))) (e:h[i]?=.(l xs)) (ev:me γ h=.ok v h1) (e1:h1[i]?=.(l xs)) (hl:xs.length<1000000) (z:W (mt γ) (h1.set i (.lst (xs++[v]))) Q):W (Z0 (z0e (eM1 j8 (eVar a) me)) mt γ) h Q:=by
 refine z7w ?_
 have e2':eVar a γ=pure (.ref i):=by unfold eVar;rw [ea]
 unfold eM1
 rw [e2',z1m,Z6]
 refine W_of (z6g e) ?_
 rw [Z6]
 exact W_of ev (W_of (z7g e1 hl) z)
section
variable {ka kb:G->M Bool}{γ:G}{h:AH}{r:Res Bool}
theorem z4U (e1:ka γ h=.ok false h) (e2':kb γ h=r):cOr ka kb γ h=r:=by
 unfold cOr
 rw [M.bind_ok e1,if_neg .(1)]
 exact e2'
theorem z4l (e1:ka γ h=.ok true h) (e2':kb γ h=r):cAnd ka kb γ h=r:=by
 unfold cAnd
 rw [M.bind_ok e1,if_pos rfl]
 exact e2'
theorem z1S (e1:ka γ h=.ok false h):cAnd ka kb γ h=.ok false h:=by
 unfold cAnd
 rw [M.bind_ok e1,if_neg .(1)]
 rfl
end
theorem z8a {xs:List D}{h:AH}(hl:xs.length≤1000000):newL xs h=.ok .(r) (h++[.lst xs]):=by
 unfold newL
 rw [if_pos (K0r hl .(1))]
theorem zs7 {k:G->M Bool}{body:G->M Out}{mt:G->M Out}{n m:Nat}{γ:G}{h:AH}{Q:Out->AH->Prop}(I:Nat->G->AH->Prop) (hm:m<n) (i0:I m γ h)
 (z:∀m γ h,I m γ h->∃b,k γ h=.ok b h/\if b=true then ∃m',m=m'+1/\W (body γ) h (forW (λγ h=>∃i,i≤m'/\I i γ h) λ_ _=>False) else W (mt γ) h Q):W (Z0 (z1W k body n) mt γ) h Q:=by
 rw [w_cons]
 refine (z3p I (λγ h=>W (mt γ) h Q) (λ_ _=>False) (λm γ h q=>?_) n m γ h hm i0).mono λo h1 q=>?_
 ·obtain ⟨b,e,q1⟩:=z m γ h q
  exact W_of e q1
 ·cases o with
  | nx γ=>exact q
  | rt d=>exact q.elim
  | bk d=>exact q.elim
  | ct d=>exact q.elim
def z8b (n:Nat) (i v:D):M Unit:=z4Q (.ref n) i v
noncomputable def z1s (src:Src) (g:D->G->M G) (k:G->M Bool) (me mv:G->M D) (n0:Nat) (γ:G):List D->M Unit
 | []=>do
  let _ ← src.chk
  pure ()
 | d::r=>do
  let _ ← src.chk
  let γ1 ← g d γ
  let t ← k γ1
  if t then do
   let y ← me γ1
   let v ← mv γ1
   let _ ← z8b n0 y v
   z1s src g k me mv n0 γ r
  else z1s src g k me mv n0 γ r
noncomputable def za8 (cap:List (Option Nat)) (mi:G->M Src) (g:D->G->M G) (k:G->M Bool) (me mv:G->M D):G->M D:=λγ=>do
 let src ← mi γ
 let n0 ← (λh=>.ok h.length (h++[.dK []]):M Nat)
 let _ ← z1s src g k me mv n0 (capG cap γ) src.items
 pure (.ref n0)
section
variable {X:Cx}{EX:XX}{elt val tg iter c:Expr}{ifs:List Expr}{sc:Scope}{pos:Pos}{N':List Str}{cap:List (Option Nat)}{own:List Nat}{mi:G->M Src}{g:D->G->M G}{k kr:G->M Bool}{me mv:G->M D}
theorem zm3 {σ0:L2.St}{ρ0:List Addr}{n0:Nat}{Dd:Addr}(hD:ρ0[n0]?=some Dd):HB X EX own σ0 ρ0 (λγ1 K=>do let y ← me γ1;let v ← mv γ1;let _ ← z8b n0 y v;K) (bPut (tE X.K EX me) (tE X.K EX mv) Dd):=λ{σ γ1 ρ h H P K Z} p0 _ rg rh fin hz=>by
 refine ⟨ρ,γ1,h,⟨rg,rh⟩,(Fin.bind fin).mono λyd ρ5 h5 H5 p5 e5 r5 f5 y ry=>⟨ρ5,γ1,h5,⟨rg.mono p5 e5,r5⟩,(Fin.bind f5).mono λd ρ6 h6 H6 p6 e6 r6 f6 v rv=>?_⟩⟩
 have hq:ρ6[n0]?=some Dd:=((p0.trans p5).trans p6) _ _ hD
 have f7:=Fin.bind f6
 unfold z8b z4Q at f7
 dsimp only at f7
 cases ek:keyD yd with
 | none=>rw [ek] at f7;exact f7.elim
 | some kk =>
  rw [ek] at f7
  dsimp only at f7
  have hy:=z9D ek ry
  cases e7:h6[n0]? with
  | none=>rw [e7] at f7;exact f7.elim
  | some ob =>
   cases ob<;>first|(rw [e7] at f7;exact f7.elim)|skip
   rename_i kvs
   rw [e7] at f7
   dsimp only at f7
   split at f7
   ·rename_i hl
    obtain ⟨a1,n1,vs,o1,d1⟩:=r6.at e7
    rw [hq] at n1;cases n1
    have ext2:Ext X.K H6 (upd H6 Dd (.dK (L2.putK vs kk v))):=Ext.upd (.inr (r6.tracked hq e7))
    have r7:RH X.K ρ6 (h6.set n0 (.dK (ptD kvs kk d))) (upd H6 Dd (.dK (L2.putK vs kk v))):=r6.setO e7 hq ⟨_,y8,(d1.put kk rv).mono .(6) ext2⟩
    have hl2:=d1.len
    exact ⟨kk,vs,hy,o1,by omega,hz ρ6 _ _ (p5.trans p6) ((e5.trans e6).trans ext2) r7 (f7 ρ6 _ .(6) ext2 r7)⟩
   ·exact f7.elim
theorem zc2 (he:∀s H fp xe,SE .(5) EX elt me) (hv:∀s H fp xe,SE .(5) EX val mv):CmA X EX (.DictComp elt val [⟨tg,iter,ifs,0⟩] sc pos) sc tg iter ifs N' cap own mi g k (.dK []) (λn0 γ1 K=>do let y ← me γ1;let v ← mv γ1;let _ ← z8b n0 y v;K) (λsrc n0 γ=>z1s src g k me mv n0 γ) :=
 ⟨⟨_,_,_,_,bPut (tE X.K EX me) (tE X.K EX mv),zq2,λρ H Dd=>⟨[],y8,.nil⟩,λD s H fp xe=>z9M (he s H fp xe).h (hv s H fp xe).h,λ_ hD=>zm3 hD⟩,λ_ _ _=>rfl,λ_ _ _ _ _=>rfl⟩
noncomputable def z6m (i:Nat) (cap:List (Option Nat)) (mi:G->M Src) (g:D->G->M G) (k:G->M Bool) (me mv:G->M D):G->M Out:=sAsg (za8 cap mi g k me mv) (gN i)
theorem zw6 (i:Nat) {y:Str}{py spos:Pos}(hc:X.calm=true) (S:CS X sc N' cap) (hi:SI X EX tg iter mi) (hg:∀s H fp xe,SGk .(5) EX tg own g) (ht:∀s H fp xe,SCs .(5) EX ifs k)
 (he:∀s H fp xe,SE .(5) EX elt me) (hv:∀s H fp xe,SE .(5) EX val mv) (hN:X.N.Nodup) (hy:X.N[i]?=some y:=by rfl) (hl:X.env.scope.names.lookup y=some .local:=by rfl) (hown:∀j∈own,cap[j]?=some none:=by decide)
 (hsw:K1x (.DictComp elt val [⟨tg,iter,ifs,0⟩] sc pos) (some (.Name y py)) spos.line X.env=pure true:=by rfl) (hs:∀x,K12 iter X.env x=pure x:=by intro _;rfl) :
 S1 X EX (.Assign [.Name y py] (.DictComp elt val [⟨tg,iter,ifs,0⟩] sc pos) spos) (z6m i cap mi g k me mv) :=
 s_cm i (zc2 he hv) hc S hi hg ht hown hN hy hl hsw hs
end
end FT
namespace L2
theorem zD5 {k:Key}{u:Value}(h:z1k k u=true):RelV (kV k) u:=by
 rcases y0 h with ⟨i,t,rfl,rfl⟩|⟨x,t,rfl,rfl⟩
 ·exact ⟨t,rfl⟩
 ·exact ⟨t,rfl⟩
theorem KV.get:∀{kvs:List (Key×V)}{vs:List (Key×Value)},KV kvs vs->∀{i:Nat}{k:Key}{x:V},kvs[i]?=some (k,x)->∃u,vs[i]?=some (k,u)
 | _,_,.nil,i,k,x,e=>by simp at e
 | p::_,q::_,.cons a b,0,k,x,e=>by
  have e':p=(k,x):=by simpa using e
  subst e'
  obtain ⟨a1,_⟩:=a
  refine ⟨q.2,?_⟩
  show some q=_
  rw [show k=q.1 from a1]
 | _::_,_::_,.cons a b,i+1,k,x,e=>KV.get b (by simpa using e)
def Itk (a:Addr) (ob:Obj) (n:Nat):It :=
 ⟨λi H=>∃vs k x,H a=some .(C)/\vs.length=n/\vs[i]?=some (k,x),λi H y H'=>H'=H/\∀vs,H a=some .(C)->∃k x,vs[i]?=some (k,x)/\y=kV k,λi H=>i=n/\∃vs,H a=some .(C)/\vs.length=n⟩
theorem zm7 {X:Cx}{pins:List .(f)}{σ:St}{H:Hp}{s:Shared}{a:Addr}{ob:Obj}{vs:List (Key×V)}{es:Array Z0o}{ep:Nat}(I:Inv X pins σ H s) (e:H a=some .(C)) (hob:ob.data=.dict es ep) :
 vs.length≤sizeLine/\∃us,KV vs us/\s.heap.DictAt (w6 X.prog X.w) a us ep:=by
 obtain ⟨go,z,hd,us,rel,o,es',ep',ho,r⟩:=(show ObjOk X.prog X.w H s.heap a .(C) from I.hok a _ e)
 rw [go] at ho
 cases ho
 obtain ⟨r1,r2,r3⟩:=r
 have:ep'=ep:=by rw [hob] at r2;cases r2;rfl
 subst this
 exact ⟨z,us,rel,ob,es',go,r1,r2,r3⟩
theorem z57 {P:K0m}{w:World}{K:K0}{tg:Expr}(a it:Addr) (ob:Obj) (n ep:Nat) {es:Array Z0o}(hob:ob.data=.dict es ep):Turn P w K tg (Itk a ob n) [it] it (λi h=>h.IsKeyIter it a i n ep) where
 mem:=by simp
 obj:=λi h st b hb=>by
  have e:b=it:=by simpa using hb
  subst e
  obtain ⟨o,e,c,d⟩:=st
  exact ⟨o,e,λv z=>by rw [d] at z;cases z⟩
 keep:=λi h h' st k=>st.at λo e=>k it .(e) o e
 item:=by
  intro X hP hw hK hc i pins s σ H E I hf st hg
  subst hP hw hK
  obtain ⟨vs,k,x,hq,hl,hx⟩:=hg
  obtain ⟨z,us,rel,dat⟩:=zm7 I hq hob
  obtain ⟨u,hu⟩:=rel.get hx
  have le:=rel.length
  have st':s.heap.IsKeyIter it a i us.length ep:=by rw [← le,hl];exact st
  obtain ⟨f0,f1,f2,f3,f4,f5⟩:=hf it .(e)
  refine wpAny_pyNext_dict_item st' dat hu λkey h' hkey hit' sb=>?_
  have I1:Inv X pins σ H { s with heap:=h' }:=I.turned (t':=s.toks) (λb o hb e=>(sb.2 b hb).trans e) f0 f1 f3 f4 f5
  have hit2:h'.IsKeyIter it a (i+1) n ep:=by rw [← hl,le];exact hit'
  obtain ⟨o,e,c,d⟩:=id hit2
  exact ⟨key,rfl,zj7 (s:={ s with heap:=h' }) e c d .(1) ⟨kV k,H,I1,zD5 hkey,⟨rfl,λys hy=>by rw [hq] at hy;cases hy;exact ⟨k,x,hx,rfl⟩⟩,hit2,λb hb=>(hf b hb).1⟩⟩
 done:=by
  intro X hP hw hK hc i pins s σ H E I hf st hg
  subst hP hw hK
  obtain ⟨hi,vs,hq,hl⟩:=hg
  obtain ⟨z,us,rel,dat⟩:=zm7 I hq hob
  have le:=rel.length
  have st':s.heap.IsKeyIter it a i us.length ep:=by rw [← le,hl];exact st
  obtain ⟨f0,f1,f2,f3,f4,f5⟩:=hf it .(e)
  exact wpAny_pyNext_dict_end (I.ok.hd hc) st' dat (K15 .(0)) λh' eb=>⟨rfl,I.turned (t':=s.toks) (λb o hb e=>eb b o hb e) f0 f1 f3 f4 f5⟩
 self:=λ_ _ _ _ _ st h=>wpAny_pyIter_keyiter st h
section
variable {X:Cx}{tg:Expr}
def zJ4 (tl:TE):TI:=λσ H R=>tl σ H λx H1=>∃a,x=.ref a/\((∃vs,H1 a=some (.dK vs)/\∀ob,R (Itk a ob vs.length) (upd H1 a .(C)))∨∃ob vs,H1 a=some .(C)/\R (Itk a ob vs.length) H1)
theorem zp2 {l:Expr}{tl:TE}(hl:PE X l tl):PI X tg l (zJ4 tl):=by
 intro pins s σ H R I h
 refine thn (hl pins s σ H _ I h) λv s1 ⟨x,H1,I1,r1,q1⟩=>?_
 obtain ⟨a,e,q1⟩:=q1
 subst e
 cases r1
 rcases q1 with ⟨vs,hH,q⟩|⟨ob,vs,hH,q⟩
 ·obtain ⟨z,hd,us,rel,dd⟩:=z7U I1.hok hH
  obtain ⟨ob,es,ep,ho,r1,r2,r3⟩:=id dd
  have dat:s1.heap.DictAt (w6 X.prog X.w) a us ep:=⟨ob,es,ho,r1,r2,r3⟩
  refine wpAny_pyIter_dict hd dat ?_
  have le:=rel.length
  generalize hp:({ cls:=.type "dict_keyiterator",data:=.fields #[.ref a,.int 0 0,.int us.length 0,.int ep 0] }:Obj)=itO
  have I2:Inv X pins σ H1 { s1 with heap:=s1.heap.push itO }:=I1.kept (t':=s1.toks) λb o e=>K7 _ e
  have ho2:(s1.heap.push itO).get? a=some ob:=K7 _ ho
  have I3:Inv X pins σ (upd H1 a .(C)) { s1 with heap:=s1.heap.push itO }:=z3D (s:={ s1 with heap:=s1.heap.push itO }) (h':=s1.heap.push itO) (t':=s1.toks) I2 (by rw [hH];exact K35) (K79 _ _) ⟨_,ho2⟩ ⟨ho2,z,hd,us,rel,ob,es,ep,ho2,r1,r2,r3⟩
  refine ⟨.(j),[.(j)],_,_,_,rfl,I3,z57 a _ ob vs.length ep r2,?_,λb hb=>?_,q ob⟩
  ·refine ⟨itO,?_,by rw [← hp],by rw [← hp,le];rfl⟩
   exact K0a _ (by rw [← hp];rfl)
  ·have e:b=s1.heap.objs.size:=by simpa using hb
   subst e
   refine I1.fpOk (K05 _) ?_
   rw [J0 (K2k (K08 ho))]
   exact I1.hok.fresh (K05 _)
 ·obtain ⟨go,z,hd,us,rel,dd⟩:=(show ObjOk X.prog X.w H1 s1.heap a .(C) from I1.hok a _ hH)
  obtain ⟨ob',es,ep,ho,r1,r2,r3⟩:=id dd
  rw [go] at ho
  cases ho
  have dat:s1.heap.DictAt (w6 X.prog X.w) a us ep:=⟨ob,es,go,r1,r2,r3⟩
  refine wpAny_pyIter_dict hd dat ?_
  have le:=rel.length
  generalize hp:({ cls:=.type "dict_keyiterator",data:=.fields #[.ref a,.int 0 0,.int us.length 0,.int ep 0] }:Obj)=itO
  have I2:Inv X pins σ H1 { s1 with heap:=s1.heap.push itO }:=I1.kept (t':=s1.toks) λb o e=>K7 _ e
  refine ⟨.(j),[.(j)],_,_,_,rfl,I2,z57 a _ ob vs.length ep r2,?_,λb hb=>?_,q⟩
  ·refine ⟨itO,?_,by rw [← hp],by rw [← hp,le];rfl⟩
   exact K0a _ (by rw [← hp];rfl)
  ·have e:b=s1.heap.objs.size:=by simpa using hb
   subst e
   exact I1.fpOk (K05 _) (I1.hok.fresh (K05 _))
end
end L2
namespace FT
def kD:Key->D
 | .inl i=>.int i
 | .inr x=>.str x
theorem zl6 {K:K0}{ρ:List Addr}{H:Hp}(k:Key):RD K ρ H (kD k) (kV k):=by cases k<;>simp [kD,kV,RD]
def z1r (kvs:List (Key×D)):List D:=kvs.map λkv=>kD kv.1
def iDic (ma:G->M D):G->M Src:=λγ=>do
 let x ← ma γ
 match x with
 | .ref n=>λh=>match h[n]? with
  | some (.dK kvs)=>.ok (.con (z1r kvs)) (h.set n (.dF kvs))
  | some (.dF kvs)=>.ok (.con (z1r kvs)) h
  | _=>.bad
 | _=>bad
theorem RK.get {K:K0}{ρ:List Addr}{H:Hp}:∀{kvs:List (Key×D)}{vs:List (Key×V)},RK K ρ H kvs vs->∀{i:Nat}{d:D},(z1r kvs)[i]?=some d->∃k x,d=kD k/\vs[i]?=some (k,x)
 | _,_,.nil,i,d,e=>by simp [z1r] at e
 | p::_,q::_,.cons a b,0,d,e=>by
  have e':kD p.1=d:=by simpa [z1r] using e
  subst e'
  exact ⟨q.1,q.2,by rw [a.1],rfl⟩
 | _::_,_::_,.cons a b,i+1,d,e=>RK.get b (by simpa [z1r] using e)
theorem z7G {K:K0}{ρ:List Addr}{H:Hp}{a:Addr}{ob:Obj}{kvs:List (Key×D)}{vs:List (Key×V)}(e:H a=some .(C)) (rk:RK K ρ H kvs vs):JOK K (.con (z1r kvs)) ρ H (Itk a ob vs.length):=λi ρ2 h2 H2 p2 e2 r2 _=>by
 have hq:=e2.d _ _ _ e
 refine ⟨λd hd=>?_,λhi=>?_⟩
 ·obtain ⟨k,x,rfl,g⟩:=RK.get rk hd
  refine ⟨⟨vs,k,x,hq,rfl,g⟩,λy H3 ⟨z1,z2⟩=>?_⟩
  subst z1
  obtain ⟨k',x',g',rfl⟩:=z2 vs hq
  rw [g] at g'
  cases g'
  exact ⟨zl6 k,r2,Ext.refl _ _⟩
 ·refine ⟨?_,vs,hq,rfl⟩
  have:(z1r kvs).length=i:=hi
  unfold z1r at this
  rw [K02,RK.len rk] at this
  exact this.symm
section
variable {X:Cx}{EX:XX}{a tg:Expr}{ma:G->M D}
theorem z9J (ha:SE X EX a ma):SI X EX tg a (iDic ma) :=
 ⟨PI.imp (zp2 ha.h) λσ H R ⟨ρ,γ,h,rel,fin⟩=>⟨ρ,γ,h,rel,(Fin.bind fin).mono λx ρ1 h1 H1 p1 e1 r1 f1 v rv=>by
  cases x<;>first|exact (show False from f1).elim|skip
  rename_i n
  simp only [RD] at rv
  obtain ⟨q,rfl,hq⟩:=rv
  refine ⟨q,rfl,?_⟩
  dsimp only at f1
  cases e:h1[n]? with
  | none=>rw [e] at f1;exact f1.elim
  | some ob =>
   cases ob with
   | lst xs=>rw [e] at f1;exact f1.elim
   | set xs=>rw [e] at f1;exact f1.elim
   | dct=>rw [e] at f1;exact f1.elim
   | exc c=>rw [e] at f1;exact f1.elim
   | dK kvs =>
    rw [e] at f1
    dsimp only at f1
    obtain ⟨a1,n1,vs,o1,d1⟩:=r1.at e
    rw [hq] at n1;cases n1
    refine .inl ⟨vs,o1,λob=>?_⟩
    have ext:Ext X.K H1 (upd H1 q .(C)):=Ext.upd (.inr ⟨_,o1,trivial⟩)
    have r2:RH X.K ρ1 (h1.set n (.dF kvs)) (upd H1 q .(C)):=r1.setO e hq ⟨ob,vs,y8,d1.mono .(6) ext⟩
    exact f1 ρ1 _ .(6) ext r2 _ (z7G y8 (d1.mono .(6) ext))
   | dF kvs =>
    rw [e] at f1
    dsimp only at f1
    obtain ⟨a1,n1,ob,vs,o1,d1⟩:=r1.at e
    rw [hq] at n1;cases n1
    exact .inr ⟨ob,vs,o1,f1 ρ1 _ .(6) .(8) r1 _ (z7G o1 d1)⟩⟩⟩
end
end FT
namespace L2
section
variable {X:Cx}{tg:Expr}
end
end L2
namespace FT
section
variable {X:Cx}{EX:XX}{a tg:Expr}{p pos:Pos}{ma:G->M D}
end
section
variable {P:K0m}{w:World}{A:Around}{E:Value->Shared->Prop}{s:Shared}
end
section
variable {X:Cx}{EX:XX}{p pos:Pos}
end
section
variable {st:List (List Nat)}{x y z:Nat}
end
structure KS where
 seen:List Nat
 ord:List Nat
 wt:List (Nat×Bool)
section
variable {st:List (List Nat)}{V:List Nat}{s:KS}
end
section
variable {st:List (List Nat)}{V:List Nat}{s:KS}
end
section
variable {s1 s2:List (List Nat)}{V:List Nat}
end
section
variable {st:List (List Nat)}{V:List Nat}{s:KS}
end
section
variable {cap:List (Option Nat)}{mi:G->M Src}{g:D->G->M G}{kb:G->M Bool}{me mv:G->M D}{γ:G}
end
theorem sm0 {h:AH}{o o':O}{j:AH}:(h++o::j).set h.length o'=h++o'::j:=by rw [K3i _ _ (K05 _),Nat.sub_self];rfl
noncomputable def z20 (src:Src) (g:D->G->M G) (mi:G->M Src) (g1:D->G->M G) (k:G->M Bool) (me mv:G->M D) (n0:Nat) (γ:G):List D->M Unit
 | []=>do
  let _ ← src.chk
  pure ()
 | d::r=>do
  let _ ← src.chk
  let γ1 ← g d γ
  let s1 ← mi γ1
  let _ ← z1s s1 g1 k me mv n0 γ1 s1.items
  z20 src g mi g1 k me mv n0 γ r
noncomputable def z4F (cap:List (Option Nat)) (mi:G->M Src) (g:D->G->M G) (mi1:G->M Src) (g1:D->G->M G) (k:G->M Bool) (me mv:G->M D):G->M D:=λγ=>do
 let src ← mi γ
 let n0 ← (λh=>.ok h.length (h++[.dK []]):M Nat)
 let _ ← z20 src g mi1 g1 k me mv n0 (capG cap γ) src.items
 pure (.ref n0)
section
variable {X:Cx}{EX:XX}{elt val tg iter tg1 iter1:Expr}{ifs1:List Expr}{sc:Scope}{pos:Pos}{N':List Str}{cap:List (Option Nat)}{own own1:List Nat}{mi mi1:G->M Src}{g g1:D->G->M G}{k:G->M Bool}{me mv:G->M D}
theorem zb1 (hc:X.calm=true) (hi1:∀s H fp xe,SI .(5) EX tg1 iter1 mi1) (hg1:∀s H fp xe,SGk .(5) EX tg1 own1 g1) (ht:∀s H fp xe,SCs .(5) EX ifs1 k)
 (he:∀s H fp xe,SE .(5) EX elt me) (hv:∀s H fp xe,SE .(5) EX val mv) (hown1:∀j∈own1,cap[j]?=some none/\j∉own) (hs1:∀env x,K12 iter1 env x=pure x) :
 CmA X EX (.DictComp elt val [⟨tg,iter,[],0⟩,⟨tg1,iter1,ifs1,0⟩] sc pos) sc tg iter [] N' cap own mi g (λ_=>pure true) (.dK []) (λn0 γ1 K=>do let s1 ← mi1 γ1;let _ ← z1s s1 g1 k me mv n0 γ1 s1.items;K) (λsrc n0 γ=>z20 src g mi1 g1 k me mv n0 γ) :=
 ⟨⟨_,_,_,_,λD=>bIn (tI X.K EX mi1) (tGk X.K EX own1 g1) (tT X.K EX k) (bPut (tE X.K EX me) (tE X.K EX mv) D),zh0,λρ H Dd=>⟨[],y8,.nil⟩,
  λD s H fp xe=>zl1 (.inr ⟨_,_,_,_,_,rfl⟩) rfl (λ_=>rfl) hc (hi1 s H fp xe).h (λxe'=>(hg1 s H fp xe').h) (λxe'=>(ht s H fp xe').h) (λxe'=>z9M (he s H fp xe').h (hv s H fp xe').h) (hs1 _),
  λnon hD=>zB2 (F1:=λs1 γ1=>z1s s1 g1 k me mv _ γ1) (λ_ _=>rfl) (λ_ _ _ _=>rfl) (λj hj=>⟨(hown1 j hj).2,non j (hown1 j hj).1⟩) λp=>zm3 (p _ _ hD)⟩,λ_ _ _=>rfl,λ_ _ _ _ _=>rfl⟩
theorem z9Z (hc:X.calm=true) (S:CS X sc N' cap) (hi:SI X EX tg iter mi) (hg:∀s H fp xe,SGk .(5) EX tg own g) (hi1:∀s H fp xe,SI .(5) EX tg1 iter1 mi1) (hg1:∀s H fp xe,SGk .(5) EX tg1 own1 g1) (ht:∀s H fp xe,SCs .(5) EX ifs1 k)
 (he:∀s H fp xe,SE .(5) EX elt me) (hv:∀s H fp xe,SE .(5) EX val mv) (hown:∀j∈own,cap[j]?=some none:=by decide) (hown1:∀j∈own1,cap[j]?=some none/\j∉own:=by decide) (hs:∀x,K12 iter X.env x=pure x:=by intro _;rfl) (hs1:∀env x,K12 iter1 env x=pure x:=by intro _ _;rfl) :
 SE X EX (.DictComp elt val [⟨tg,iter,[],0⟩,⟨tg1,iter1,ifs1,0⟩] sc pos) (z4F cap mi g mi1 g1 k me mv) :=
 zH3 (zb1 hc hi1 hg1 ht he hv hown1 hs1) hc S hi hg (λ_ _ _ _=>v3) hown hs
end
end FT
namespace L2
theorem z1y:∀{vs:List (Key×V)}{us:List (Key×Value)},KV vs us->∀{l:List Value},l.length=us.length->(∀(j:Nat) v,l[j]?=some v->∃k x,us[j]?=some (k,x)/\z1k k v=true)->Vals (vs.map λkv=>kV kv.1) l
 | [],_,.nil,l,hl,h=>by
  cases l with
  | nil=>exact .nil
  | cons a l=>simp at hl
 | p::vs,q::us,.cons a b,l,hl,h=>by
  cases l with
  | nil=>simp at hl
  | cons v l =>
   obtain ⟨k,x,e1,e2⟩:=h 0 v rfl
   have e1':q=(k,x):=by simpa using e1
   subst e1'
   refine .cons ?_ (z1y b (by simpa using hl) λj v hv=>by simpa using h (j+1) v (by simpa using hv))
   have a1:p.1=k:=a.1
   show RelV (kV p.1) v
   rw [a1]
   exact zD5 e2
section
variable {X:Cx}
end
end L2
namespace FT
def z3Q (n:Nat):M (List (Key×D)):=λh=>match h[n]? with
 | some (.dK kvs)=>.ok kvs h
 | some (.dF kvs)=>.ok kvs h
 | _=>.bad
theorem z5L {K:K0}{EX:XX}{ρ:List Addr}{h:AH}{H:Hp}{n:Nat}{q:Addr}{Z:List (Key×D)->List Addr->AH->Hp->Prop}(r:RH K ρ h H) (hq:ρ[n]?=some q) (f:Fin K EX ρ H Z (z3Q n h)) :
 ∃kvs vs,(H q=some (.dK vs)∨∃ob,H q=some .(C))/\RK K ρ H kvs vs/\Z kvs ρ h H:=by
 unfold z3Q at f
 cases e:h[n]? with
 | none=>rw [e] at f;exact f.elim
 | some ob =>
  cases ob with
  | lst xs=>rw [e] at f;exact f.elim
  | set xs=>rw [e] at f;exact f.elim
  | dct=>rw [e] at f;exact f.elim
  | exc c=>rw [e] at f;exact f.elim
  | dK kvs =>
   rw [e] at f
   obtain ⟨a1,n1,vs,o1,d1⟩:=r.at e
   rw [hq] at n1;cases n1
   exact ⟨kvs,vs,.inl o1,d1,f ρ H .(6) .(8) r⟩
  | dF kvs =>
   rw [e] at f
   obtain ⟨a1,n1,ob,vs,o1,d1⟩:=r.at e
   rw [hq] at n1;cases n1
   exact ⟨kvs,vs,.inr ⟨ob,o1⟩,d1,f ρ H .(6) .(8) r⟩
theorem z3v {K:K0}{ρ:List Addr}{H:Hp}:∀{kvs:List (Key×D)}{vs:List (Key×V)},RK K ρ H kvs vs->RDs K ρ H (z1r kvs) (vs.map λkv=>kV kv.1)
 | _,_,.nil=>RDs.nil
 | p::_,q::_,.cons a b=>by
  refine RDs.cons ?_ (z3v b)
  have a1:p.1=q.1:=a.1
  show RD K ρ H (kD p.1) (kV q.1)
  rw [a1]
  exact zl6 q.1
section
variable {X:Cx}{EX:XX}{a:Expr}{mr:G->M (List D)}{p pos:Pos}
end
section
variable {X:Cx}{EX:XX}{a o:Expr}{p pos cpos apos:Pos}{ma mo:G->M D}{mr:G->M (List D)}
end
abbrev sg (c:Nat):Str:=⟨#[c]⟩
section
variable {α:Type}{us:List α}
theorem ar1 (hl:us.length=1):∃a,us=[a]:=match us,hl with|[a],_=>⟨a,rfl⟩
theorem ar2 (hl:us.length=2):∃a b,us=[a,b]:=match us,hl with|[a,b],_=>⟨a,b,rfl⟩
theorem ar3 (hl:us.length=3):∃a b c,us=[a,b,c]:=match us,hl with|[a,b,c],_=>⟨a,b,c,rfl⟩
theorem ar4 (hl:us.length=4):∃a b c d,us=[a,b,c,d]:=match us,hl with|[a,b,c,d],_=>⟨a,b,c,d,rfl⟩
end
def putO (n:Nat) (k v:D):M D:=match keyD k with
 | some kk=>λh=>match h[n]? with
  | some (.dK [])=>.ok (.ref n) (h.set n (.dK [(kk,v)]))
  | _=>.bad
 | none=>bad
noncomputable def z5i (mk mv:G->M D):G->M D:=λγ=>do
 let n ← (λh=>.ok h.length (h++[.dK []]):M Nat)
 let k ← mk γ
 let v ← mv γ
 putO n k v
section
variable {X:Cx}{EX:XX}{k v:Expr}{pos:Pos}{mk mv:G->M D}
theorem z7h (hk:SE X EX k mk) (hv:SE X EX v mv):SE X EX (.Dict [some k] [v] pos) (z5i mk mv) :=
 ⟨PE.imp (zx7 (zb6 hk.h hv.h zo0) rfl rfl .(e) .(e)) λσ H Q ⟨ρ,γ,h,rel,fin⟩ p hp=>by
  have rP:RH X.K (ρ++[p]) (h++[.dK []]) (upd H p (.dK [])):=rel.h.pushO hp ⟨[],y8,.nil⟩
  have eP:Ext X.K H (upd H p (.dK [])):=Ext.upd (.inl hp)
  have at0:(ρ++[p])[h.length]?=some p:=by rw [← rel.h.len];simp
  have f1:=Fin.bind fin
  have f2:=f1 (ρ++[p]) _ (Pre.app _ _) eP rP
  refine ⟨ρ++[p],γ,h++[.dK []],⟨rel.g.mono (Pre.app _ _) eP,rP⟩,(Fin.bind f2).mono λkd ρ1 h1 H1 p1 e1 r1 f3 kv rk=>⟨ρ1,γ,h1,⟨(rel.g.mono (Pre.app _ _) eP).mono p1 e1,r1⟩,(Fin.bind f3).mono λvd ρ2 h2 H2 p2 e2 r2 f4 vv rv=>?_⟩⟩
  have hq:ρ2[h.length]?=some p:=(p1.trans p2) _ _ at0
  unfold putO at f4
  cases ek:keyD kd with
  | none=>rw [ek] at f4;exact f4.elim
  | some kk =>
   rw [ek] at f4
   dsimp only at f4
   cases e7:h2[h.length]? with
   | none=>rw [e7] at f4;exact f4.elim
   | some ob =>
    cases ob with
    | set ks=>rw [e7] at f4;exact f4.elim
    | dct=>rw [e7] at f4;exact f4.elim
    | lst xs=>rw [e7] at f4;exact f4.elim
    | exc c=>rw [e7] at f4;exact f4.elim
    | dF c=>rw [e7] at f4;exact f4.elim
    | dK kvs =>
     cases kvs with
     | cons a b=>rw [e7] at f4;exact f4.elim
     | nil =>
      rw [e7] at f4
      dsimp only at f4
      obtain ⟨a1,n1,vs,o1,d1⟩:=r2.at e7
      rw [hq] at n1;cases n1
      cases d1
      have hy:=z9D ek rk
      refine ⟨o1,[(kk,vv)],by rw [hy];rfl,by simp,?_⟩
      have ext2:Ext X.K H2 (upd H2 p (.dK [(kk,vv)])):=Ext.upd (.inr (r2.tracked hq e7))
      have r7:RH X.K ρ2 (h2.set h.length (.dK [(kk,vd)])) (upd H2 p (.dK [(kk,vv)])):=r2.setO e7 hq ⟨_,y8,.cons ⟨rfl,rv.mono .(6) ext2⟩ .nil⟩
      exact f4 ρ2 _ .(6) ext2 r7 (.ref p) (by simp only [RD];exact ⟨p,rfl,hq⟩)⟩
end
section
variable {prog:K0m}{w:World}{h₀:Heap}
end
section
variable {X:Cx}{pins:List (Addr×Obj)}{σ:L2.St}{H:Hp}{s:Shared}{ρ:List Addr}{h:AH}
end
section
variable {X:Cx}{EX:XX}{a:Expr}{p pos:Pos}{mr:G->M (List D)}
end
def Ths (P:Nat->D->Prop):Nat->List D->Prop
 | _,[]=>True
 | n,x::xs=>∃a b,P a x/\Ths P b xs/\a+b+2≤n
def Th (r:AH) (B:Nat):Nat->Nat->D->Prop
 | 0,_,_=>False
 | _+1,n,.non=>4≤n
 | _+1,n,.bl _=>5≤n
 | _+1,n,.int i=>i.natAbs≤B/\40≤n
 | _+1,n,.str x=>(reprText x).length≤n/\x.length≤1000
 | m+1,n,.tup xs=>∃a,Ths (Th r B m) a xs/\a+4≤n
 | _+1,_,.fl _=>False
 | m+1,n,.ref i=>∃j,i=j+3/\((∃xs a,r[j]?=.(l xs)/\Ths (Th r B m) a xs/\a+4≤n)∨(r[j]?=some (.dK [])∨r[j]?=some (.dK [(.inr "a",.int 1)])/\1≤m)/\40≤n)
section
variable {P P':Nat->D->Prop}{n m:Nat}{xs ys:List D}{d:D}
end
section
variable {X:Cx}{EX:XX}{mr:G->M (List D)}
end
theorem ss_h {me:G->M D}{γ:G}{h h1:AH}{i:Nat}{l:List Nat}(e:me γ h=.ok (.ref i) h1) (g:h1[i]?=.(l (stD l))) (hl:l.length≤2000) (hd:(setN l).length<64):Z8 z1g (z9 (Z8 z3g (z9 me aNil)) aNil) γ h=.ok (.ref (h1.length+1)) (h1++[.set (kN (dedN l)),.lst (stD (setN l))]):=by
 have dl:(dedN l).length=(setN l).length:=by unfold setN;rw [z0y]
 refine J5 (J5 e (zo9 (l:=l) (by unfold seqD getL;dsimp only;rw [g]) hl)) ?_
 rw [z8w Y5 .(0),K0b]
 simp [setN]
theorem z9p {k:Str->Option Bool}{c:Str}{b:Bool}{γ:G}{h:AH}{i n:Nat}(hk:k c=some b) (e:γ[i]?=some (.(r n))) (g:h[n]?=some (.exc c)):eIsX k (eVar i) γ h=.ok (.bl b) h:=by
 unfold eIsX
 show (eVar i γ >>= _) h=_
 rw [M.bind_ok (Z1 e)]
 show fIsX k (.ref n) h=_
 unfold fIsX
 dsimp only
 rw [g]
 dsimp only
 rw [hk]
section
variable {n i:Nat}{mf:List D->M D}{mr:G->M (List D)}{okf:Str->Bool}{ms mt:G->M Out}{γ:G}{h h1 h2:AH}{xs:List D}{Q:Out->AH->Prop}
theorem zw5 {x:Exn}(e1:mr γ h=.ok xs h1) (hn:xs.length=n) (e2:mf xs h1=.err x h2) (ho:okf x.cls=true) (z:W (ms (γ.set i (.(r h2.length)))) (h2++[.exc x.cls]) λo h3=>∃d,o=.rt d/\Q (.rt d) h3):W (Z0 (z9w n i mf mr okf ms) mt γ) h Q:=by
 rw [w_cons]
 obtain ⟨o,h3,e3,d,rfl,q⟩:=z
 refine ⟨.rt d,h3,?_,q⟩
 unfold z9w
 rw [e1]
 dsimp only
 rw [if_pos hn,e2]
 dsimp only
 rw [if_pos ho,e3]
end
theorem zw2 {n:Nat}{mb:G->M Out}{ds:List D}{h h1:AH}{x:Exn}(e:mb (z0D n ds) h=.err x h1):runF n mb ds h=.err x h1:=by
 unfold runF
 rw [M.bind_eq,e]
theorem zg3 {k:G->M Bool}{c s:Str}{ms mt:G->M Out}{γ:G}{h h1:AH}(e:k γ h=.ok true h1):Z0 (sIf k (Z0 (z5u c (z9 (λ_=>pure (.str s)) aNil)) bNil) ms) mt γ h=.err ⟨c,[]⟩ h1:=by
 show (sIf _ _ _ _ >>= _) h=_
 have:sIf k (Z0 (z5u c (z9 (λ_=>pure (.str s)) aNil)) bNil) ms γ h=.err ⟨c,[]⟩ h1:=by
  show (k γ >>= _) h=_
  rw [M.bind_ok e]
  rfl
 rw [M.bind_eq,this]
theorem zQ7 {mf:List D->M D}{ds:List D}{h h1:AH}{a:D}(e:mf ds h=.ok a h1):noM mf ds h=.ok a h1:=by unfold noM;rw [e]
theorem zO4 {k:G->M Bool}{ms mr mt:G->M Out}{γ:G}{h h1:AH}{Q:Out->AH->Prop}(b:Bool) (e:k γ h=.ok b h1) (z:W (Z0 (if b=true then ms else mr) mt γ) h1 Q):W (Z0 (sIf k ms mr) mt γ) h Q :=
 zT0 (W_of e z)
section
variable {prog:K0m}{w:World}{A:Around}{E:Value->Shared->Prop}{s:Shared}
open PySem.W in
theorem z6T {T:String}{r d:Addr}{n:Nat}{P:Nat->Value->Prop}{OK:Heap->Prop}{R:List Value->Shared->Prop}(K:KdlSrc prog w T r d n P OK) (hh:A.handled=none) (ok:OK s.heap) (hn:n≤sizeLine)
 (z:∀(g:Heap) (tk:Nat) (acc:Array Value),(∀b o,s.heap.get? b=some o->g.get? b=some o)->.(3)≤g.objs.size->K7f P acc n->R acc.toList { s with heap:=g,toks:=tk }) :
 wpAny (model prog w) A (Z06 (.ref r)) R E s:=by
 obtain ⟨t1,t2⟩:=K.there _ ok
 obtain ⟨S,hS⟩:∃S,S=s.heap.objs.size:=⟨_,rfl⟩
 unfold Z06
 refine K1 (K5t (K28 entry_proto_collect' ?_))
 rw [K1t K6l _]
 show wpAny _ A.in1 (Z05 [] >>= λl=>again (.builtin "list.__iadd__" ⟨[l,.ref r],[]⟩)) _ _ s
 refine K1 (K1f (K8 ⟨K52 K2v _,K28 entry_list_iadd' ?_⟩))
 rw [K1t K2v _]
 obtain ⟨o0,h0⟩:∃o0:Obj,o0={ cls:=.type "list",data:=.seq ([]:List Value).toArray }:=⟨_,rfl⟩
 rw [← h0]
 have at0:(s.heap.push o0).get? S=some { cls:=.type "list",data:=.seq #[] }:=by rw [hS,h0];exact K0a _ rfl
 rw [← hS]
 show wpAny _ A.in1 (K3a (.ref S) (.ref r) (.ref S)) _ _ _
 have old:∀{b:Addr} {o:Obj},s.heap.get? b=some o->b≠S:=λe=>by rw [hS];exact K0n (K08 e)
 have key:=kdl_extend (A:=A) (s:={ s with heap:=s.heap.push o0 })
  (R:=λ(q:Result) (s':Shared)=>∃(g:Heap) (tk:Nat) (acc:Array Value) (c:Nat),q=.ok (.ret (.ref S))/\s'={ s with heap:=g,toks:=tk }/\(∀b o,s.heap.get? b=some o->g.get? b=some o)/\g.get? S=some { cls:=.type "list",dict:=none,data:=.seq acc c,slots:=#[] }/\K7f P acc n)
  K hh (K.keep _ _ ok λb _ o e=>K7 _ e) S (by rw [hS];exact K2k t1) (by rw [hS];exact K2k t2) (.ref S) 0 at0
  (λg tk acc c kp at1 it=>⟨g,tk,acc,c,rfl,rfl,λb o e=>kp b o (old e) (K7 _ e),at1,it⟩) hn
 have fin:∀(q:Result) (s2:Shared) (h:∃(g:Heap) (tk:Nat) (acc:Array Value) (c:Nat),q=.ok (.ret (.ref S))/\s2={ s with heap:=g,toks:=tk }/\(∀b o,s.heap.get? b=some o->g.get? b=some o)/\g.get? S=some { cls:=.type "list",dict:=none,data:=.seq acc c,slots:=#[] }/\K7f P acc n),q=.ok (.ret (.ref S)):=λq s2 ⟨_,_,_,_,e,_⟩=>e
 refine K2g key (λf s2 x=>?_) λe s2 x=>?_
 ·cases f with
  | done f =>
   obtain ⟨g,tk,acc,c,e,rfl,kp,at1,it⟩:=x
   cases e
   show wpAny _ A (load S >>= _) _ _ _
   refine K1 (K8c at1 (K8 (z g tk acc kp ?_ it)))
   rw [← hS]
   exact K2l (K08 at1)
  | again c₁ =>
   refine ⟨x.1,K3t x.2 λq s3 y=>?_⟩
   obtain ⟨g,tk,acc,c,rfl,rfl,kp,at1,it⟩:=y
   show wpAny _ A (load S >>= _) _ _ _
   refine K1 (K8c at1 (K8 (z g tk acc kp ?_ it)))
   rw [← hS]
   exact K2l (K08 at1)
 ·obtain ⟨_,_,_,_,e',_⟩:=x
  cases e'
end
section
variable {X:Cx}{EX:XX}{mr:G->M (List D)}
theorem z64 (hc:X.calm=true):z2q X (.builtin "sorted") (λxs H Q=>∃a vs ns,xs=[.ref a]/\(H a=some (.dK vs)∨∃ob,H a=some .(C))/\vs.map (λkv=>kV kv.1)=ns.map V.int/\ns.length<64/\∀q,H q=none->Q (.ref q) (upd H q (.lst ((sortI ns).map V.int)))):=by
 intro pins s σ H xs us Q I r h
 obtain ⟨a,vs,ns,rfl,hq,hk,h64,q⟩:=h
 obtain ⟨u,rfl,ru⟩:=vals1 r
 cases ru
 have vl:vs.length=ns.length:=by have:=congrArg Z0u hk;simpa using this
 have go:∀{us:List (Key×Value)} {ep:Nat},KV vs us->(a==K3e)=false->s.heap.DictAt (w6 X.prog X.w) a us ep->wpAny .(4) X.A (call (.builtin "sorted") [.ref a]) (EP X pins σ Q) X.xe s:=λ{us ep} rel hd dat=>by
  have le:=rel.length
  refine K73 kind_sorted plain_sorted entry_sorted (args_sorted1 _) ?_
  unfold Builtin.«sorted»
  refine K1 (m:=checkCount "sorted" 1 1 _) (K8 ?_)
  refine K1 (z6T (Z0h hd) (by simp [I.ok.hd hc]) dat (by rw [← le,vl];exact K2l (K0j h64 .(1))) λh' tk acc kp sz it=>?_)
  have al:acc.toList.length=ns.length:=by rw [K19,← vl,le];exact it.1
  have rv:Vals (ns.map V.int) acc.toList:=by
   rw [← hk]
   exact z1y rel (by rw [K19];exact it.1) λj v hv=>it.2 j v (by simpa using hv)
  have ia:=intsAre_of rv
  refine K1 (wpAny_newList ?_ (by rw [al];exact K2l (K0j h64 .(1))))
  have gL:(h'.push (seqObj "list" acc.toList.toArray 0)).get? h'.objs.size=some (seqObj "list" acc.toList.toArray 0):=K0a _ rfl
  refine K1 (K1w (K2i slot_list_sort ⟨_,gL,rfl⟩ entry_list_sort (list_sort_tree gL ia (by rw [al];exact h64) λout ns' a1 a2 a3=>⟨_,rfl,?_⟩) (args_list_sort _)))
  refine K8 ⟨_,rfl,?_⟩
  obtain ⟨e,ge⟩:=sortedHeap_at (out:=out) gL
  have es':ns'=sortI ns:=z4x a2 a3
  subst es'
  have un:∀b ob,s.heap.get? b=some ob->(sortedHeap (h'.push (seqObj "list" acc.toList.toArray 0)) h'.objs.size acc.toList out).get? b=some ob:=λb ob eb=>by
   have lt:=K08 (kp b ob eb)
   rw [sortedHeap_old (K0n lt) (by rw [K24];exact K3r lt)]
   exact K7 _ (kp b ob eb)
  have ho:=I.hok.laid (a:=h'.objs.size) (o:=.lst ((sortI ns).map V.int)) un sz ⟨by rw [K02,(sortI_perm ns).length_eq];exact K2l (K0j h64 .(1)),out.toList,e,z4O a1,ge⟩
  exact ⟨.ref h'.objs.size,_,I.call' (s':={ s with heap:=_,toks:=tk }) (ch:=[]) rfl (Un.laid un sz (I.hok.fresh sz)) ho I.bare (λb z=>absurd z .(e)),rfl,q _ (I.hok.fresh sz)⟩
 rcases hq with hq|⟨ob,hq⟩
 ·obtain ⟨z,hd,us,rel,dd⟩:=z7U I.hok hq
  obtain ⟨ob,es,ep,ho,r1,r2,r3⟩:=id dd
  exact go rel hd ⟨ob,es,ho,r1,r2,r3⟩
 ·obtain ⟨go',z,hd,us,rel,dd⟩:=(show ObjOk X.prog X.w H s.heap a .(C) from I.hok a _ hq)
  obtain ⟨ob',es,ep,ho,r1,r2,r3⟩:=id dd
  exact go rel hd ⟨ob',es,ho,r1,r2,r3⟩
def z0h:List D->M D
 | [.ref n]=>do
  let kvs ← z3Q n
  match z1P (z1r kvs) with
  | some ns=>if ns.length<64 then newL ((sortI ns).map .int) else bad
  | none=>bad
 | _=>bad
theorem z7N:AR X.K EX (λxs H Q=>∃a vs ns,xs=[.ref a]/\(H a=some (.dK vs)∨∃ob,H a=some .(C))/\vs.map (λkv=>kV kv.1)=ns.map V.int/\ns.length<64/\∀q,H q=none->Q (.ref q) (upd H q (.lst ((sortI ns).map V.int)))) z0h:=by
 intro ρ h H ds vs Q r rd fin
 unfold z0h at fin
 split at fin
 ·rename_i n
  obtain ⟨v,rfl,rv⟩:=rds1 rd
  simp only [RD] at rv
  obtain ⟨q,rfl,hq⟩:=rv
  have f2:=Fin.bind fin
  obtain ⟨kvs,vs,w1,rk,f3⟩:=z5L r hq f2
  cases e:z1P (z1r kvs) with
  | none=>rw [e] at f3;exact f3.elim
  | some ns =>
   rw [e] at f3
   dsimp only at f3
   split at f3
   ·rename_i l64
    have rr:=z33 e (z3v rk)
    refine ⟨q,vs,ns,rfl,w1,rr,l64,λq' hq'=>?_⟩
    unfold newL at f3
    split at f3
    ·exact FE.lst f3 r (z38 _) hq'
    ·exact f3.elim
   ·exact f3.elim
 ·exact fin.elim
theorem z4a {a:Expr}{p pos:Pos}(hc:X.calm=true) (hg:Gl X "sorted") (hm:X.mg "sorted" = none) (ha:SA X EX [a] mr) (he:K03 [a] X.env=[(false,eval a X.env)]:=by rfl):SE X EX (.Call (.Name "sorted" p) [a] [] pos) (Z8 z0h mr) :=
 z21 (z0J (z64 hc) hg hm .(2) ha.h .(1) .(1) he rfl) z7N
def zD2 (te:TE) (tr:TA):TA:=λσ H Q=>te σ H λx H1=>∃a vs,x=.ref a/\(H1 a=some (.dK vs)∨∃ob,H1 a=some .(C))/\tr σ H1 λys H2=>Q (vs.map (λkv=>kV kv.1)++ys) H2
theorem zd6 {e:Expr}{es:List Expr}{te:TE}{t:TA}{p:Pos}(hc:X.calm=true) (ha:PE X e te) (hr:PA X es t):PA X (.Starred e p::es) (zD2 te t):=by
 intro pos pins s σ H Q I h
 rw [K9a]
 show wpAny _ _ (Z12 ((true,do let v ← eval e X.env;K4q pos;pure v)::backTo pos (K03 es X.env))) _ _ s
 refine K9n (thn .(Q) λu s1 ⟨x,H1,I1,r1,q1⟩=>?_)
 obtain ⟨a,vs,rfl,hq,q⟩:=q1
 cases r1
 obtain ⟨us,ep,rel,z,hd,dat⟩:∃us ep,KV vs us/\vs.length≤sizeLine/\(a==K3e)=false/\s1.heap.DictAt (w6 X.prog X.w) a us ep:=by
  rcases hq with hq|⟨ob,hq⟩
  ·obtain ⟨z,hd,us,rel,dd⟩:=z7U I1.hok hq
   obtain ⟨ob,es,ep,ho,r1,r2,r3⟩:=id dd
   exact ⟨us,ep,rel,z,hd,ob,es,ho,r1,r2,r3⟩
  ·obtain ⟨go',z,hd,us,rel,dd⟩:=(show ObjOk X.prog X.w H1 s1.heap a .(C) from I1.hok a _ hq)
   obtain ⟨ob',es,ep,ho,r1,r2,r3⟩:=id dd
   exact ⟨us,ep,rel,z,hd,ob',es,ho,r1,r2,r3⟩
 have le:=rel.length
 refine z52 dat.dictOf.typeIs PySem.F.slot_dict_iter ⟨rfl,z6T (Z0h hd) (I1.ok.hd hc) dat (by rw [← le];exact z) λh' tk acc kp sz it=>?_⟩
 have I2:Inv X pins σ H1 { s1 with heap:=h',toks:=tk }:=I1.kept (t':=tk) kp
 have rv:Vals (vs.map λkv=>kV kv.1) acc.toList:=z1y rel (by rw [K19];exact it.1) λj v hv=>it.2 j v (by simpa using hv)
 exact thn (hr pos pins _ σ H1 _ I2 q) λus s3 ⟨ys,H3,I3,r3,q3⟩=>⟨_,H3,I3,rv.append r3,q3⟩
def z4b (ma:G->M D) (mr:G->M (List D)):G->M (List D):=λγ=>do
 let x ← ma γ
 match x with
 | .ref n=>do
  let kvs ← z3Q n
  let r ← mr γ
  pure (z1r kvs++r)
 | _=>bad
theorem zj5 {e:Expr}{es:List Expr}{p:Pos}{ma:G->M D}(hc:X.calm=true) (ha:SE X EX e ma) (hr:SA X EX es mr):SA X EX (.Starred e p::es) (z4b ma mr) :=
 ⟨PA.imp (zd6 hc ha.h hr.h) λσ H Q ⟨ρ,γ,h,rel,fin⟩=>⟨ρ,γ,h,rel,(Fin.bind fin).mono λx ρ1 h1 H1 p1 e1 r1 f1 v rv=>by
  cases x<;>first|exact (show False from f1).elim|skip
  rename_i n
  simp only [RD] at rv
  obtain ⟨q,rfl,hq⟩:=rv
  obtain ⟨kvs,vs,w1,rk,f2⟩:=z5L r1 hq (Fin.bind f1)
  exact ⟨q,vs,rfl,w1,ρ1,γ,h1,⟨rel.g.mono p1 e1,r1⟩,(Fin.bind f2).mono λds ρ2 h4 H2 p2 e2 r2 f3 ws rws =>
   f3 ρ2 H2 .(6) .(8) r2 _ (((z3v rk).mono p2 e2).append rws)⟩⟩⟩
end
theorem z89 (t:Addr) (items:Array Value) :
 Meets (Builtin.«enumerate.__new__» ⟨[.type "enumerate",.ref t],[]⟩) (λ_ R s=>s.heap.IsList t items /\
  R (.ok (.ret (.ref (s.heap.push { cls:=.type "list_iterator",data:=.fields #[.ref t,.int 0 0] }).objs.size)))
   { s with heap:=(s.heap.push { cls:=.type "list_iterator",data:=.fields #[.ref t,.int 0 0] }).push { cls:=.type "enumerate",data:=.fields #[.none,.bool false,.ref .(3),rawInt 0,.none,.none] } }) :=
 .of_wp λprog w A R s h=>by
  obtain ⟨hp,g,d,tk,os⟩:=s
  obtain ⟨q1,h⟩:=h
  have hsub:=sub_enumerate
  have L1:Heap.IsList (Shared.heap ⟨hp,g,d,tk,os⟩) t items:=q1
  wp_walk
  refine wpAny_stack_any λst=>K8 ?_
  split
  ·rename_i c _ _ _ _ _
   cases (c==K44 "enumerate")
   ·wp_walk using K33 L1
    exact ⟨_,rfl,h⟩
   ·wp_walk using K33 L1
    exact ⟨_,rfl,h⟩
  ·wp_walk using K33 L1
   exact ⟨_,rfl,h⟩
def ItL (K:K0) (t:Addr):It :=
 ⟨λi H=>∃xs x,SqL K H t xs/\xs[i]?=some x,
  λi H v H'=>∃T x,H T=none/\v=.ref T/\(∀xs,SqL K H t xs->xs[i]?=some x)/\H'=upd H T (.tup [.int i,x]),
  λi H=>∃xs,SqL K H t xs/\xs.length=i⟩
theorem z7X {P:K0m}{w:World}{K:K0}{elts:List Expr}{kk:Nat}{pos:Pos}{e it t:Addr}(d1:e≠it) (d2:t≠it) (d3:e≠t) :
 Turn P w K (.Tuple elts kk pos) (ItL K t) [e,it] e (λi h=>(∃old,IsEnum h e it i old)/\h.IsListIter it t i) where
 mem:=by simp
 obj:=λi h st b hb=>by
  obtain ⟨⟨old,ee⟩,o,ei,_,di⟩:=st
  simp at hb
  rcases hb with rfl|rfl
  ·exact ⟨_,ee,λv q=>by cases q⟩
  ·exact ⟨_,ei,λv q=>by rw [di] at q;cases q⟩
 keep:=λi h h' st k=>by
  obtain ⟨⟨old,ee⟩,g⟩:=st
  exact ⟨⟨old,k e .(e) _ ee⟩,g.at λo q=>k it .(e) o q⟩
 item:=by
  intro X hP hw hK hc i pins s σ H E I hf st hg
  subst hP hw hK
  obtain ⟨xs,x,q1,hx⟩:=hg
  obtain ⟨its,rv,pl,hz⟩:=I.list q1
  obtain ⟨u,hu,ru⟩:=rv.get hx
  obtain ⟨⟨old,ee⟩,g⟩:=st
  have hi:i<its.toArray.size:=by
   have:=(K2.mp hu).1
   simpa using this
  have pT:s.heap.IsList t its.toArray:=pl.isList
  refine wpAny_pyNext_enum_itemD (Draws.list (by simp [I.ok.hd hc]) it t d2 its.toArray) ee ⟨g,pT⟩ hi d1 (by simp [d1,d3]) λy h' tk hy eo st' gT sz kp=>?_
  have ey:y=u:=by
   have:its.toArray[i]?=some u:=by simpa using hu
   rw [hy] at this
   exact K10 this
  subst ey
  refine ⟨_,rfl,wpAny_letOwnedTupleGo_enum eo λh2 eo2 sb=>?_⟩
  have elt:e<s.heap.objs.size:=K08 ee
  have ilt:it<s.heap.objs.size:=by obtain ⟨o,q,_⟩:=g;exact K08 q
  have hT:IsTup0 h2 .(3) [K6m i tk,y].toArray:=⟨_,(sb.2 _ (K2k elt)).trans gT,⟨rfl,rfl⟩,_,rfl⟩
  have J:=zS9 (t:=tk+1) (ch:=[e,it]) (T:=.(3)) (vs:=[.int i,x]) (its:=[.int i tk,y]) (h2:=h2) I hf
   (λb o hb q=>by simp at hb;exact (sb.2 b hb.1).trans (kp b o hb.1 hb.2 q)) (K05 _) hT (.cons ⟨tk,rfl⟩ (.cons ru .nil)) (by show 2≤sizeLine;decide)
  refine ⟨.ref .(3),_,J,rfl,⟨_,x,I.hok.fresh (K05 _),rfl,λxs' h'=>by rw [I.list_inj h' q1];exact hx,rfl⟩,?_,λb hb=>?_⟩
  ·exact ⟨⟨_,by simpa using eo2⟩,st'.1.at λo q=>(sb.2 _ (K34 d1)).trans q⟩
  ·have:b<s.heap.objs.size:=by
    simp at hb
    rcases hb with rfl|rfl
    ·exact elt
    ·exact ilt
   rw [J0 (K0n this)]
   exact (hf b hb).1
 done:=by
  intro X hP hw hK hc i pins s σ H E I hf st hg
  subst hP hw hK
  obtain ⟨xs,q1,hl⟩:=hg
  obtain ⟨its,rv,pl,hz⟩:=I.list q1
  obtain ⟨⟨old,ee⟩,g⟩:=st
  have l1:=rv.length
  have pT:s.heap.IsList t its.toArray:=pl.isList
  have en:i=its.toArray.size:=by simp;omega
  refine wpAny_pyNext_enum_endD (Draws.list (by simp [I.ok.hd hc]) it t d2 its.toArray) ee ⟨by rw [← en];exact g,pT⟩ λh' eb=>⟨rfl,?_⟩
  have hf':∀b∈[it],FpOk X pins H b:=λb hb=>hf b (by simp at hb;simp [hb])
  refine I.step (g':=s.gens) (t':=s.toks) (d':=s.drawn) (ch:=[it]) (λb hb=>⟨(hf' b hb).2.2.2.1,(hf' b hb).2.1,(hf' b hb).2.2.2.2.1,(hf' b hb).2.2.2.2.2⟩) (λb o _ _ hc e _=>?_) (λb o _ _ hc e _=>⟨o.slots,?_⟩)
   (λ_ _ _ _ n=>n) (λb o hc e=>⟨o,?_⟩) (λ_ _ e=>e) (λ_ _ _ e=>e) (λb ps e=>⟨#[],by rw [e];simp⟩) (λm hm=>?_) (λb u e=>?_) I.bare
  ·simp at hc;exact eb b o hc e
  ·simp at hc;exact eb b o hc e
  ·simp at hc;exact eb b o hc e
  ·obtain ⟨o,es,ep,q,r⟩:=hm
   exact ⟨o,es,ep,eb _ o (λy=>(hf' it .(e)).2.1 y.symm) q,r⟩
  ·refine (I.hok b u e).stay (λc v hc q=>?_) (λ_ q=>q) λ_ _ q=>q
   refine eb c v (λy=>?_) q
   subst y
   rcases hc with y|y
   ·rw [← y,(hf' c .(e)).1] at e;cases e
   ·rw [(hf' c .(e)).1] at y;cases y
 self:=λ_ _ _ _ _ st h=>by
  obtain ⟨⟨old,ee⟩,g⟩:=st
  exact wpAny_pyIter_enum ee h
section
variable {X:Cx}{EX:XX}{a:Expr}{elts:List Expr}{kk:Nat}{p pos pt:Pos}{ma:G->M D}
def zA4 (K:K0) (ta:TA):TI:=λσ H R=>ta σ H λvs H2=>∃t xs,vs=[.ref t]/\SqL K H2 t xs/\R (ItL K t) H2
theorem zj6 {ta:TA}(hg:Gl X "enumerate") (hm:X.mg "enumerate" = none) (ha:PA X [a] ta) (hs:K03 [a] X.env=[(false,eval a X.env)]:=by rfl):PI X (.Tuple elts kk pt) (.Call (.Name "enumerate" p) [a] [] pos) (zA4 X.K ta):=by
 intro pins s σ H R I h
 refine Call_ (z5E I hg hm boot_enumerate (K4p (thn (ha pos pins s σ H _ I h) λus s1 ⟨vs,H1,I1,r1,q1⟩=>?_) (by rw [hs];rfl) rfl))
 obtain ⟨t,xs,e,q2,q⟩:=q1
 subst e
 obtain ⟨u,rfl,ru⟩:=vals1 r1
 cases ru
 obtain ⟨its,rv,pl,hz⟩:=I1.list q2
 have pT:s1.heap.IsList t its.toArray:=pl.isList
 have lt:t<s1.heap.objs.size:=by obtain ⟨o,n,e,_⟩:=pl;exact K08 e
 refine callType_new PySem.F.called_enumerate .(1) (PySem.F.typeCall_enumerate_1 _) (PySem.F.newCall_enumerate_1 _) (λobj=>K6y obj _) PySem.F.entry_enumerate_new (z89 t its.toArray) ⟨pT,?_⟩
 have y1:(s1.heap.push { cls:=.type "list_iterator",data:=.fields #[.ref t,.int 0 0] }).objs.size=.(j)+1:=K24 ..
 have x2:((s1.heap.push { cls:=.type "list_iterator",data:=.fields #[.ref t,.int 0 0] }).push { cls:=.type "enumerate",data:=.fields #[.none,.bool false,.ref .(j),rawInt 0,.none,.none] }).get? (.(j)+1)=some { cls:=.type "enumerate",data:=.fields #[.none,.bool false,.ref .(j),rawInt 0,.none,.none] }:=by rw [← y1];exact K0a _ rfl
 have x1:((s1.heap.push { cls:=.type "list_iterator",data:=.fields #[.ref t,.int 0 0] }).push { cls:=.type "enumerate",data:=.fields #[.none,.bool false,.ref .(j),rawInt 0,.none,.none] }).get? .(j)=some { cls:=.type "list_iterator",data:=.fields #[.ref t,.int 0 0] }:=K7 _ (K0a _ rfl)
 show _/\_
 rw [y1]
 refine ⟨⟨_,x2,rfl⟩,wpAny_pyIter_enum (e:=.(j)+1) (it:=.(j)) (i:=0) (old:=.none) x2 ?_⟩
 refine ⟨.(j)+1,_,_,_,H1,rfl,I1.kept (t':=s1.toks) (λc o q=>K7 _ (K7 _ q)),z7X (it:=.(j)) (t:=t) (K2k (K81 _)) (K0n lt) (K2k (K3r lt)),⟨⟨_,x2⟩,⟨_,x1,rfl,rfl⟩⟩,λb hb=>?_,q⟩
 have hb':.(j)≤b:=by
  simp at hb
  rcases hb with rfl|rfl
  ·exact K5e _
  ·exact K05 _
 exact I1.fpOk hb' (I1.hok.fresh hb')
def z7x (ma:G->M D):G->M Src:=λγ=>do
 let l ← z9 ma aNil γ
 match l with
 | [.ref n]=>do
  let xs ← getL n
  pure (.obj n (.lst xs) (z4T xs))
 | _=>bad
theorem zj8 (hc:X.calm=true) (hg:Gl X "enumerate") (hm:X.mg "enumerate" = none) (ha:SE X EX a ma) (hs:K03 [a] X.env=[(false,eval a X.env)]:=by rfl):SI X EX (.Tuple elts kk pt) (.Call (.Name "enumerate" p) [a] [] pos) (z7x ma) :=
 ⟨PI.imp (zj6 hg hm (z6 ha Z2 hs).h hs) λσ H R ⟨ρ,γ,h,rel,fin⟩=>⟨ρ,γ,h,rel,(Fin.bind fin).mono λl ρ1 h1 H1 p1 e1 r1 f1 vs rv=>by
  split at f1
  ·rename_i n
   simp only [RDs,RD] at rv
   obtain ⟨_,_,rfl,⟨t,rfl,q1⟩,rfl⟩:=rv
   have f3:=Fin.bind f1
   cases e3:getL n h1 with
   | bad=>rw [e3] at f3;exact f3.elim
   | err z hz=>exact (z0r e3).elim
   | ok xs h3 =>
    obtain ⟨rfl,g1⟩:=z0p e3
    rw [e3] at f3
    obtain ⟨a1,n1,us,o1,d1⟩:=r1.at g1
    rw [q1] at n1;cases n1
    refine ⟨t,us,rfl,SqL.of o1,f3 ρ1 H1 .(6) .(8) r1 ρ1 H1 .(6) .(8) r1 _ λi ρ2 h4 H2 p2 e2 r2 gd=>?_⟩
    have gd:h4[n]?=.(l xs):=gd
    obtain ⟨a2,n2,us2,o2,d2⟩:=r2.at gd
    rw [p2 n _ q1] at n2;cases n2
    refine ⟨λd hd=>?_,λhi=>?_⟩
    ·have hd':(z4T xs)[i]?=some d:=hd
     obtain ⟨x,g1,rfl⟩:=zq3 hd'
     obtain ⟨v1,a1,b1⟩:=d2.get g1
     refine ⟨⟨us2,v1,SqL.of o2,a1⟩,λv H3 ⟨T,x',n1,n2,n3,n5⟩=>?_⟩
     have m1:=n3 us2 (SqL.of o2)
     rw [a1] at m1;cases m1
     subst n2;subst n5
     have ext:Ext X.K H2 (L2.upd H2 T (.tup [.int i,v1])):=Ext.upd (.inl n1)
     refine ⟨?_,r2.other n1,ext⟩
     simp only [RD]
     exact ⟨T,_,rfl,SqT.of y8,RDs.cons .(t) (RDs.cons (b1.mono .(6) ext) RDs.nil)⟩
    ·have hi':(z4T xs).length=i:=hi
     unfold z4T at hi'
     rw [K02,K2b] at hi'
     have l1:=d2.length
     exact ⟨us2,SqL.of o2,by omega⟩
  ·exact (show False from f1).elim⟩⟩
end
mutual
def z0F:D->Bool
 | .int _=>true
 | .str _=>true
 | .bl _=>true
 | .non=>true
 | .tup xs=>x5 xs
 | _=>false
def x5:List D->Bool
 | []=>true
 | d::r=>z0F d&&x5 r
end
theorem z3x {d:D}:∀{ds:List D},x5 ds=true->d∈ds->z0F d=true
 | [],_,h=>by cases h
 | x::r,p,h=>by
  simp only [x5,K0h] at p
  rcases K0x.mp h with rfl|h
  ·exact p.1
  ·exact z3x p.2 h
section
variable {X:Cx}{pins:List (Addr×Obj)}{σ:L2.St}{H:Hp}{s:Shared}{ρ:List Addr}
mutual
theorem RD.one (I:Inv X pins σ H s):∀{z z':D}{v:V},z0F z=true->z0F z'=true->RD X.K ρ H z v->RD X.K ρ H z' v->z=z'
 | .non,z',v,_,p,h,h'=>by
  simp only [RD] at h;subst h
  cases z'<;>simp_all [RD,z0F]
 | .bl b,z',v,_,p,h,h'=>by
  simp only [RD] at h;subst h
  cases z'<;>simp_all [RD,z0F]
 | .int i,z',v,_,p,h,h'=>by
  simp only [RD] at h;subst h
  cases z'<;>simp_all [RD,z0F]
 | .str x,z',v,_,p,h,h'=>by
  simp only [RD] at h;subst h
  cases z'<;>simp_all [RD,z0F]
 | .tup ds,z',v,q,p,h,h'=>by
  simp only [RD] at h
  obtain ⟨a,xs,rfl,h2,h3⟩:=h
  cases z' with
  | tup ds' =>
   simp only [RD] at h'
   obtain ⟨a',xs',e,h5,h6⟩:=h'
   cases e
   have e2:=I.tuple_inj h5 h2
   subst e2
   simp only [z0F] at q p
   rw [RDs.one I q p h3 h6]
  | non=>simp [RD] at h'
  | bl b=>simp [RD] at h'
  | int b=>simp [RD] at h'
  | str b=>simp [RD] at h'
  | fl b=>simp [z0F] at p
  | ref b=>simp [z0F] at p
 | .fl ds,z',v,q,p,h,h'=>by simp [z0F] at q
 | .ref ds,z',v,q,p,h,h'=>by simp [z0F] at q
theorem RDs.one (I:Inv X pins σ H s):∀{ds ds':List D}{xs:List V},x5 ds=true->x5 ds'=true->RDs X.K ρ H ds xs->RDs X.K ρ H ds' xs->ds=ds'
 | [],ds',xs,_,_,h,h'=>by
  simp only [RDs] at h;subst h
  cases ds' with
  | nil=>rfl
  | cons d r=>simp [RDs] at h'
 | d::r,ds',xs,q,p,h,h'=>by
  simp only [RDs] at h
  obtain ⟨x,xr,rfl,h2,h3⟩:=h
  cases ds' with
  | nil=>simp [RDs] at h'
  | cons d' r' =>
   simp only [RDs] at h'
   obtain ⟨x',xr',e,h5,h6⟩:=h'
   cases e
   simp only [x5,K0h] at q p
   rw [RD.one I q.1 p.1 h2 h5,RDs.one I q.2 p.2 h3 h6]
end
theorem zd7 {w w':V}{y:Value}(h:L2.RelV w y) (h':L2.RelV w' y):w=w':=by
 cases w<;>cases w'<;>simp only [L2.RelV] at h h'<;>first
  | (subst h;cases h';rfl)
  | (obtain ⟨t,rfl⟩:=h;obtain ⟨t',e⟩:=h';cases e;rfl)
  | (obtain ⟨t,rfl⟩:=h;obtain ⟨t',e⟩:=h';cases e;done)
  | (obtain ⟨t,rfl⟩:=h;cases h';done)
  | (subst h;obtain ⟨t',e⟩:=h';cases e;done)
  | (subst h;cases h';done)
open Classical in
theorem zi2 {h:AH}{d:D}{ds:List D}{x:V}{v:Value}{xs:List V}{its:List Value}{b:Bool}(hu:X.A.units+30<cLine) (I:Inv X pins σ H s) (rh:RH X.K ρ h H) (pd:x5 ds=true) (rx:RD X.K ρ H d x) (wx:RelV x v) (rs:RDs X.K ρ H ds xs) (ws:Vals xs its) (e:inZ h d ds=some b) :
 ∃f:Value->Bool,(∀y∈its,K6o X.A.in1 s y v (f y))/\∀(i:Nat) (y:Value) (z:D),its[i]?=some y->ds[i]?=some z->(f y=true↔eqN 24 h z d=some true):=by
 obtain ⟨q1,q2⟩:=z36 e
 have ex:∀y∈its,∃a z w,z∈ds/\RD X.K ρ H z w/\RelV w y/\eqN 24 h z d=some a:=λy hy=>by
  obtain ⟨j,hj⟩:=K4t hy
  have lj:=(K2.mp hj).1
  have a1:xs[j]?=some (xs[j]'(by rw [ws.length];exact lj)):=K6 _
  obtain ⟨y',c1,a2⟩:=ws.get a1
  rw [hj] at c1
  cases c1
  obtain ⟨z,b1,b2⟩:=rs.getV a1
  have zm:=K0d b1
  obtain ⟨a,c⟩:=q1 z zm
  exact ⟨a,z,_,zm,b2,a2,c⟩
 have key:∀y∈its,∀a,(∃z w,z∈ds/\RD X.K ρ H z w/\RelV w y/\eqN 24 h z d=some a)->K6o X.A.in1 s y v a:=λy hy a ⟨z,w,zm,r1,r2,c⟩ =>
  (deq I rh 24 (A:=X.A.in1) (show X.A.units+1+24<cLine by omega) r1 rx r2 wx c).1
 refine ⟨λy=>decide (∃z w,z∈ds/\RD X.K ρ H z w/\RelV w y/\eqN 24 h z d=some true),λy hy=>?_,λi y z hy hz=>?_⟩
 ·by_cases c:∃z w,z∈ds/\RD X.K ρ H z w/\RelV w y/\eqN 24 h z d=some true
  ·dsimp only
   rw [.(o) c]
   exact key y hy true c
  ·dsimp only
   rw [.(p) c]
   obtain ⟨a,z,w,g⟩:=ex y hy
   cases a with
   | false=>exact key y hy false ⟨z,w,g⟩
   | true=>exact absurd ⟨z,w,g⟩ c
 ·obtain ⟨w,a1,a2⟩:=rs.get hz
  obtain ⟨y',b1,b2⟩:=ws.get a1
  rw [hy] at b1
  cases b1
  have zm:=K0d hz
  rw [decide_eq_true_eq]
  constructor
  ·rintro ⟨z',w',zm',r1,r2,c⟩
   rw [zd7 r2 b2] at r1
   rw [RD.one I (z3x pd zm) (z3x pd zm') a2 r1]
   exact c
  ·exact λc=>⟨z,w,zm,a2,b2,c⟩
end
section
variable {X:Cx}{EX:XX}{o a:Expr}{apos cpos:Pos}{mo ma:G->M D}
def z2s (h:AH) (y:D) (xs:List D):Nat:=xs.findIdx λz=>decide (eqN 24 h z y=some true)
def zz4 (K:K0):V->List V->Hp->VK->Prop:=λx vs H Q=>∃ρ h l d ds u xs,x=.ref l/\vs=[u]/\RH K ρ h H/\RD K ρ H d u/\SqL K H l xs/\RDs K ρ H ds xs/\x5 ds=true/\ds.length≤100000/\inZ h d ds=some true/\Q (.int (z2s h d ds:Nat)) H
theorem z8L (hu:X.A.units+40<cLine):MtR X "list.index" (zz4 X.K):=by
 intro pins s σ H x vs v us Q I rx rv h
 obtain ⟨ρ,h,l,d,ds,u,xs,rfl,rfl,rh,rd,hq,rs,pd,hl,e,q⟩:=h
 cases rx
 obtain ⟨w,rfl,rw'⟩:=rv.one
 obtain ⟨its,ws,pl,hz⟩:=I.list hq
 obtain ⟨f,f1,f2⟩:=zi2 .(0) I rh pd rd rw' rs ws e
 obtain ⟨⟨cls,dd,data,sl⟩,ho,hc,n,hd⟩:=id pl.isList
 simp only at hc hd
 subst hc hd
 have l1:ds.length=its.length:=by rw [rs.length,ws.length]
 have hj:z2s h d ds<ds.length:=by
  obtain ⟨_,q2⟩:=z36 e
  obtain ⟨z,zm,c⟩:=q2.mp rfl
  exact List.findIdx_lt_length_of_exists ⟨z,zm,.(o) c⟩
 have at_:∀{m:Nat} (hm:m<its.length) ,f its[m]=decide (eqN 24 h (ds[m]' .(0)) d=some true):=λ{m} hm=>by
  have:=f2 m its[m] (ds[m]' .(0)) (K6 hm) (K6 .(0))
  rw [K0z,this,decide_eq_true_eq]
 refine K48 K40 ⟨_,ho,rfl⟩ K7p (K72 _ _)
  (K7n l its.toArray n dd sl w f (z2s h d ds) (by simpa [← l1] using hj) .(0) ?_ ?_) ⟨ho,λy hy=>?_,⟨.int _,H,I.tok _,⟨_,rfl⟩,q⟩⟩
 ·show f its[z2s h d ds]=true
  rw [at_ .(0)]
  exact List.findIdx_getElem (p:=λz=>decide (eqN 24 h z d=some true)) (w:=hj)
 ·intro m hm hlt
  show f its[m]=false
  rw [at_ (by simpa using hm)]
  have:=List.not_of_lt_findIdx (p:=λz=>decide (eqN 24 h z d=some true)) (xs:=ds) (i:=m) hlt
  simpa using this
 ·exact f1 y (by simpa using hy)
def ixX (xs:List D) (y:D):M D:=λh=>if x5 xs=true/\xs.length≤100000/\inZ h y xs=some true then .ok (.int (z2s h y xs:Nat)) h else .bad
def z3z (n:Nat) (y:D):M D:=do
 let xs ← getL n
 ixX xs y
theorem z9O (hu:X.A.units+40<cLine) (ho:SE X EX o mo) (ha:SE X EX a ma)
 (hbase:K4k o "index" X.env (eval o X.env)=eval o X.env:=by rfl)
 (hfew:((backTo cpos (K03 [a] X.env)).all (λx=>!x.1)&&(K80 cpos (K5h [] X.env)).all (λx=>x.1.isSome)
 &&decide .(m))=true:=by rfl)
 (hline:(apos.endLine==cpos.line)=true:=by rfl) (hs:K03 [a] X.env=[(false,eval a X.env)]:=by rfl) :
 SE X EX (.Call (.Attribute o "index" apos) [a] [] cpos) (eM1 z3z mo ma) :=
 ⟨PE.imp (ze6 K41 K40 K83 (z8L hu) ho.h (Y2 ha.h z0R hs) hbase hfew hline hs rfl) (zk3 λρ h H n q y u Q r hq ru fin=>by
  have f2:Fin X.K EX ρ H _ _:=Fin.bind (show Fin X.K EX ρ H (λd ρ' _ H'=>∀v,RD X.K ρ' H' d v->Q v H') ((getL n >>= λxs=>ixX xs y) h) from fin)
  cases e3:getL n h with
  | bad=>rw [e3] at f2;exact f2.elim
  | err z hz=>exact (z0r e3).elim
  | ok xs h3 =>
   obtain ⟨rfl,q1⟩:=z0p e3
   rw [e3] at f2
   obtain ⟨a1,n1,vs,o1,d1⟩:=r.at q1
   rw [hq] at n1;cases n1
   have f3:FE X.K EX ρ H Q (ixX xs y _):=f2 ρ H .(6) .(8) r
   unfold ixX at f3
   split at f3
   ·rename_i c
    exact ⟨ρ,_,_,y,xs,u,vs,rfl,rfl,r,ru,SqL.of o1,d1,c.1,c.2.1,c.2.2,FE.here f3 r .(t)⟩
   ·exact f3.elim)⟩
theorem hu40 {A:Around}{k:Nat}(hr:Room k A):A.units+40<cLine:=K26 (K6d (by decide:40≤64) _) hr.units
end
abbrev Bl:=List (Nat×List Nat)
def blk (bl:Bl) (k:Nat):List Nat:=((bl.find? λp=>decide (p.1=k)).map (·.2)).getD []
def keyOf (bl:Bl) (x:Nat):Nat:=((bl.find? λp=>decide (x∈p.2)).map (·.1)).getD 0
structure PB (n:Nat) (bl:Bl):Prop where
 hd:∀p∈bl,p.2.head?=some p.1
 rise:∀p∈bl,p.2.Pairwise (·<·)
 cov:∀x,x<n↔∃p∈bl,x∈p.2
 dis:∀p∈bl,∀q∈bl,∀x,x∈p.2->x∈q.2->p=q
 nd:(bl.map (·.1)).Nodup
theorem z24 {l:List Nat}{k:Nat}(h:l.head?=some k):k∈l:=by
 cases l with
 | nil=>cases h
 | cons a l=>simp at h;simp [h]
theorem z6c {l:List Nat}{k:Nat}(h:l.head?=some k) (r:l.Pairwise (·<·)):∀x∈l,k≤x:=λx hx=>by
 cases l with
 | nil=>cases h
 | cons a l =>
  simp at h
  subst h
  rcases K0x.mp hx with q|q
  ·omega
  ·exact K2l (List.rel_of_pairwise_cons r q)
theorem z8z {l:List Nat}{k:Nat}(hk:k∈l) (r:l.Pairwise (·<·)) (le:∀x∈l,k≤x):l.head?=some k:=by
 cases l with
 | nil=>cases hk
 | cons a l =>
  have a1:=le a .(e)
  have a2:=z6c (l:=a::l) rfl r k hk
  simp;omega
section
variable {n:Nat}{bl:Bl}
theorem PB.bmem (b:PB n bl) {p:Nat×List Nat}(h:p∈bl):p.1∈p.2:=z24 (b.hd p h)
theorem PB.uniq (b:PB n bl) {p q:Nat×List Nat}(hp:p∈bl) (hq:q∈bl) (e:p.1=q.1):p=q:=b.dis p hp q hq p.1 (b.bmem hp) (by rw [e];exact b.bmem hq)
theorem PB.blk (b:PB n bl) {p:Nat×List Nat}(h:p∈bl):FT.blk bl p.1=p.2:=by
 unfold FT.blk
 cases e:bl.find? λq=>decide (q.1=p.1) with
 | none =>
  rw [K46] at e
  exact absurd .(e) (e p h)
 | some q =>
  have m:=K74 e
  have q1:=Z11 e
  rw [b.uniq m h (by simpa using q1)]
  rfl
theorem PB.of_key (b:PB n bl) {k:Nat}(h:k∈bl.map (·.1)):(k,FT.blk bl k)∈bl:=by
 obtain ⟨p,hp,rfl⟩:=K09.mp h
 rw [b.blk hp]
 exact hp
theorem PB.key (b:PB n bl) {p:Nat×List Nat}(h:p∈bl) {x:Nat}(hx:x∈p.2):keyOf bl x=p.1:=by
 unfold keyOf
 cases e:bl.find? λq=>decide (x∈q.2) with
 | none =>
  rw [K46] at e
  exact absurd (by simpa using hx) (e p h)
 | some q =>
  have m:=K74 e
  have q1:=Z11 e
  rw [b.dis q m p h x (by simpa using q1) hx]
  rfl
theorem PB.at_ (b:PB n bl) {x:Nat}(hx:x<n):(keyOf bl x,FT.blk bl (keyOf bl x))∈bl/\x∈FT.blk bl (keyOf bl x):=by
 obtain ⟨p,hp,hx⟩:=(b.cov x).mp hx
 rw [b.key hp hx,b.blk hp]
 exact ⟨hp,hx⟩
theorem PB.lt (b:PB n bl) {p:Nat×List Nat}(h:p∈bl) {x:Nat}(hx:x∈p.2):x<n:=(b.cov x).mpr ⟨p,h,hx⟩
theorem PB.klt (b:PB n bl) {k:Nat}(h:k∈bl.map (·.1)):k<n:=by
 obtain ⟨p,hp,rfl⟩:=K09.mp h
 exact b.lt hp (b.bmem hp)
theorem PB.len (b:PB n bl):bl.length≤n:=by
 have:=b.nd.length_le_of_subset (l₂:=K00 n) λk hk=>K0y.mpr (b.klt hk)
 simpa using this
theorem PB.in_blk (b:PB n bl) {k x:Nat}(hk:k∈bl.map (·.1)):x∈FT.blk bl k↔x<n/\keyOf bl x=k:=by
 have m:=b.of_key hk
 constructor
 ·intro hx
  exact ⟨b.lt m hx,b.key m hx⟩
 ·rintro ⟨hx,rfl⟩
  exact (b.at_ hx).2
theorem PB.keyin (b:PB n bl) {x:Nat}(hx:x<n):keyOf bl x∈bl.map (·.1):=K09.mpr ⟨_,(b.at_ hx).1,rfl⟩
theorem PB.keyle (b:PB n bl) {x:Nat}(hx:x<n):keyOf bl x≤x:=by
 obtain ⟨m,hm⟩:=b.at_ hx
 exact z6c (b.hd _ m) (b.rise _ m) x hm
theorem PB.keyself (b:PB n bl) {k:Nat}(hk:k∈bl.map (·.1)):keyOf bl k=k:=by
 have m:=b.of_key hk
 exact b.key m (b.bmem m)
theorem z4V (hn:0<n):PB n [(0,K00 n)]:=by
 refine ⟨λp hp=>?_,λp hp=>?_,λx=>by simp,λp hp q hq x _ _=>?_,by simp⟩
 ·simp at hp;subst hp
  cases n with
  | zero=>omega
  | succ n=>simp [K8i]
 ·simp at hp;subst hp;exact K5v
 ·simp at hp hq;rw [hp,hq]
def putB (bl:Bl) (k:Nat) (b:List Nat):Bl:=if (bl.any λp=>decide (p.1=k)) then bl.map (λp=>if p.1=k then (k,b) else p) else bl++[(k,b)]
def yesL (bl:Bl) (k:Nat) (f:Nat->Bool):List Nat:=(FT.blk bl k).filter f
def noL (bl:Bl) (k:Nat) (f:Nat->Bool):List Nat:=(FT.blk bl k).filter λx=>!f x
def cutB (bl:Bl) (k:Nat) (f:Nat->Bool):Bl:=putB (putB bl ((yesL bl k f).headD 0) (yesL bl k f)) ((noL bl k f).headD 0) (noL bl k f)
theorem z7e {bl:Bl}{k:Nat}{b:List Nat}{p:Nat×List Nat}:p∈putB bl k b↔(p∈bl/\p.1≠k)∨p=(k,b):=by
 unfold putB
 split
 ·rename_i h
  rw [K1p] at h
  obtain ⟨q,hq,e⟩:=h
  have e:=of_decide_eq_true e
  rw [K09]
  constructor
  ·rintro ⟨r,hr,rfl⟩
   split
   ·exact .inr rfl
   ·rename_i c;exact .inl ⟨hr,c⟩
  ·rintro (⟨hp,c⟩|rfl)
   ·exact ⟨p,hp,by rw [if_neg c]⟩
   ·exact ⟨q,hq,by rw [if_pos e]⟩
 ·rename_i h
  rw [K1p] at h
  rw [K0o,K5a]
  constructor
  ·rintro (hp|rfl)
   ·refine .inl ⟨hp,λe=>h ⟨p,hp,.(o) e⟩⟩
   ·exact .inr rfl
  ·rintro (⟨hp,_⟩|rfl)
   ·exact .inl hp
   ·exact .inr rfl
theorem z3N {bl:Bl}{k:Nat}{b:List Nat}:(putB bl k b).map (·.1)=if k∈bl.map (·.1) then bl.map (·.1) else bl.map (·.1)++[k]:=by
 have e:(bl.any λp=>decide (p.1=k))=decide (k∈bl.map (·.1)):=by
  rw [K0z,K1p,decide_eq_true_eq,K09]
  exact ⟨λ⟨p,hp,q⟩=>⟨p,hp,of_decide_eq_true q⟩,λ⟨p,hp,q⟩=>⟨p,hp,.(o) q⟩⟩
 unfold putB
 rw [e]
 by_cases c:k∈bl.map (·.1)
 ·rw [if_pos (.(o) c),if_pos c,K0w]
  refine K2t λp _=>?_
  show (if p.1=k then (k,b) else p).1=p.1
  split
  ·rename_i q;exact q.symm
  ·rfl
 ·rw [if_neg (by simpa using c),if_neg c,K36]
  rfl
structure Cut (bl:Bl) (k:Nat) (f:Nat->Bool):Prop where
 hk:k∈bl.map (·.1)
 hy:yesL bl k f≠[]
 hn:noL bl k f≠[]
theorem z0W {l:List Nat}(h:l≠[]):l.head?=some (l.headD 0):=by
 cases l with
 | nil=>exact absurd rfl h
 | cons a l=>rfl
theorem z9V (b:PB n bl) {k:Nat}{f:Nat->Bool}(c:Cut bl k f) :
 ∃a z A Z,((a=(yesL bl k f).headD 0/\A=yesL bl k f/\z=(noL bl k f).headD 0/\Z=noL bl k f)∨(z=(yesL bl k f).headD 0/\Z=yesL bl k f/\a=(noL bl k f).headD 0/\A=noL bl k f))/\a=k/\z∉bl.map (·.1)/\A.head?=some a/\Z.head?=some z:=by
 have m:=b.of_key c.hk
 have rs:=b.rise _ m
 have km:=b.bmem m
 have le:=z6c (b.hd _ m) rs
 have rY:(yesL bl k f).Pairwise (·<·):=K3m _ rs
 have rN:(noL bl k f).Pairwise (·<·):=K3m _ rs
 have hY:=z0W c.hy
 have hN:=z0W c.hn
 have other:∀{z:Nat},z∈FT.blk bl k->z≠k->z∉bl.map (·.1):=λ{z} hz ne hk=>by
  have:=b.keyself hk
  rw [b.key m hz] at this
  exact ne this.symm
 by_cases q:f k=true
 ·have hk:(yesL bl k f).head?=some k:=z8z (K0t.mpr ⟨km,q⟩) rY λx hx=>le x (K0t.mp hx).1
  rw [hY] at hk
  have hk:=K10 hk
  have zm:=K0t.mp (z24 hN)
  refine ⟨_,_,_,_,.inl ⟨rfl,rfl,rfl,rfl⟩,hk,other zm.1 λe=>?_,hY,hN⟩
  have:=zm.2
  rw [e,q] at this
  cases this
 ·have hk:(noL bl k f).head?=some k:=z8z (K0t.mpr ⟨km,by simpa using q⟩) rN λx hx=>le x (K0t.mp hx).1
  rw [hN] at hk
  have hk:=K10 hk
  have zm:=K0t.mp (z24 hY)
  refine ⟨_,_,_,_,.inr ⟨rfl,rfl,rfl,rfl⟩,hk,other zm.1 λe=>?_,hN,hY⟩
  have:=zm.2
  rw [e] at this
  exact q this
theorem z09 (b:PB n bl) {k:Nat}{f:Nat->Bool}(c:Cut bl k f) {p:Nat×List Nat}:p∈cutB bl k f↔(p∈bl/\p.1≠k)∨p=((yesL bl k f).headD 0,yesL bl k f)∨p=((noL bl k f).headD 0,noL bl k f):=by
 obtain ⟨a,z,A,Z,h,hk,hz,_,_⟩:=z9V b c
 have za:z≠a:=λe=>hz (by rw [e,hk];exact c.hk)
 have zb:∀p∈bl,p.1≠z:=λp hp e=>hz (by rw [← e];exact K09.mpr ⟨p,hp,rfl⟩)
 unfold cutB
 rw [z7e,z7e]
 rcases h with ⟨e1,e2,e3,e4⟩|⟨e1,e2,e3,e4⟩
 ·rw [← e1,← e2,← e3,← e4,hk]
  constructor
  ·rintro (⟨⟨h1,h2⟩|rfl,h3⟩|rfl)
   ·exact .inl ⟨h1,h2⟩
   ·exact .inr (.inl rfl)
   ·exact .inr (.inr rfl)
  ·rintro (⟨h1,h2⟩|rfl|rfl)
   ·exact .inl ⟨.inl ⟨h1,h2⟩,zb _ h1⟩
   ·exact .inl ⟨.inr rfl,λe=>za (by rw [hk];exact e.symm)⟩
   ·exact .inr rfl
 ·rw [← e1,← e2,← e3,← e4,hk]
  constructor
  ·rintro (⟨⟨h1,h2⟩|rfl,h3⟩|rfl)
   ·exact .inl ⟨h1,h3⟩
   ·exact .inr (.inl rfl)
   ·exact .inr (.inr rfl)
  ·rintro (⟨h1,h2⟩|rfl|rfl)
   ·exact .inl ⟨.inl ⟨h1,zb _ h1⟩,h2⟩
   ·exact .inl ⟨.inr rfl,λe=>za (by rw [hk];exact e)⟩
   ·exact .inr rfl
theorem z3y (b:PB n bl) {k:Nat}{f:Nat->Bool}(c:Cut bl k f):PB n (cutB bl k f):=by
 have m:=b.of_key c.hk
 have rs:=b.rise _ m
 have hY:=z0W c.hy
 have hN:=z0W c.hn
 have inY:∀{x:Nat},x∈yesL bl k f->x∈FT.blk bl k/\f x=true:=λhx=>K0t.mp hx
 have inN:∀{x:Nat},x∈noL bl k f->x∈FT.blk bl k/\f x=false:=λhx=>by
  have:=K0t.mp hx
  simpa using this
 refine ⟨λp hp=>?_,λp hp=>?_,λx=>?_,λp hp q hq x hx hy=>?_,?_⟩
 ·rcases (z09 b c).mp hp with ⟨h1,_⟩|rfl|rfl
  ·exact b.hd p h1
  ·exact hY
  ·exact hN
 ·rcases (z09 b c).mp hp with ⟨h1,_⟩|rfl|rfl
  ·exact b.rise p h1
  ·exact K3m _ rs
  ·exact K3m _ rs
 ·rw [b.cov]
  constructor
  ·rintro ⟨p,hp,hx⟩
   by_cases e:p.1=k
   ·have e2:=b.blk hp
    rw [e] at e2
    rw [← e2] at hx
    by_cases q:f x=true
    ·exact ⟨_,(z09 b c).mpr (.inr (.inl rfl)),K0t.mpr ⟨hx,q⟩⟩
    ·exact ⟨_,(z09 b c).mpr (.inr (.inr rfl)),K0t.mpr ⟨hx,by simpa using q⟩⟩
   ·exact ⟨p,(z09 b c).mpr (.inl ⟨hp,e⟩),hx⟩
  ·rintro ⟨p,hp,hx⟩
   rcases (z09 b c).mp hp with ⟨h1,_⟩|rfl|rfl
   ·exact ⟨p,h1,hx⟩
   ·exact ⟨_,m,(inY hx).1⟩
   ·exact ⟨_,m,(inN hx).1⟩
 ·have old:∀{p:Nat×List Nat},p∈bl->p.1≠k->∀x,x∈p.2->x∉FT.blk bl k:=λ{p} hp ne x h1 h2=>ne (by rw [b.dis p hp _ m x h1 h2])
  rcases (z09 b c).mp hp with ⟨h1,n1⟩|rfl|rfl<;>rcases (z09 b c).mp hq with ⟨h2,n2⟩|rfl|rfl
  ·exact b.dis p h1 q h2 x hx hy
  ·exact absurd (inY hy).1 (old h1 n1 x hx)
  ·exact absurd (inN hy).1 (old h1 n1 x hx)
  ·exact absurd (inY hx).1 (old h2 n2 x hy)
  ·rfl
  ·have a1:=(inY hx).2
   rw [(inN hy).2] at a1
   cases a1
  ·exact absurd (inN hx).1 (old h2 n2 x hy)
  ·have a1:=(inY hy).2
   rw [(inN hx).2] at a1
   cases a1
  ·rfl
 ·unfold cutB
  have one:∀{bl:Bl} {k:Nat} {b:List Nat},(bl.map (·.1)).Nodup->((putB bl k b).map (·.1)).Nodup:=λ{bl k b} nd=>by
   rw [z3N]
   split
   ·exact nd
   ·rename_i h
    rw [K3o]
    exact ⟨nd,by simp,λx hx y hy e=>h (by simp at hy;rw [← hy,← e];exact hx)⟩
  exact one (one b.nd)
theorem z4v (b:PB n bl) {k:Nat}{f:Nat->Bool}(c:Cut bl k f):(cutB bl k f).length=bl.length+1:=by
 obtain ⟨a,z,A,Z,h,hk,hz,_,_⟩:=z9V b c
 have ka:a∈bl.map (·.1):=by rw [hk];exact c.hk
 have e:((cutB bl k f).map (·.1)).length=(bl.map (·.1)).length+1:=by
  unfold cutB
  rw [z3N,z3N]
  rcases h with ⟨e1,_,e3,_⟩|⟨e1,_,e3,_⟩
  ·rw [← e1,← e3,if_pos ka,if_neg hz]
   simp
  ·rw [← e1,← e3,if_neg hz,if_pos (K1k _ ka)]
   simp
 simpa using e
theorem z7n (b:PB n bl) {k:Nat}{f:Nat->Bool}(c:Cut bl k f) {x y:Nat}(hx:x<n) (hy:y<n):keyOf (cutB bl k f) x=keyOf (cutB bl k f) y↔keyOf bl x=keyOf bl y/\(keyOf bl x=k->f x=f y):=by
 have b':=z3y b c
 have m:=b.of_key c.hk
 have own:∀{x:Nat},x<n->keyOf bl x=k->(f x=true/\keyOf (cutB bl k f) x=(yesL bl k f).headD 0)∨(f x=false/\keyOf (cutB bl k f) x=(noL bl k f).headD 0):=λ{x} hx e=>by
  have hm:=(b.in_blk c.hk).mpr ⟨hx,e⟩
  cases q:f x with
  | true=>exact .inl ⟨rfl,b'.key ((z09 b c).mpr (.inr (.inl rfl))) (K0t.mpr ⟨hm,q⟩)⟩
  | false=>exact .inr ⟨rfl,b'.key ((z09 b c).mpr (.inr (.inr rfl))) (K0t.mpr ⟨hm,by simp [q]⟩)⟩
 have ne:(yesL bl k f).headD 0≠(noL bl k f).headD 0:=λe=>by
  have h1:f ((yesL bl k f).headD 0)=true:=(K0t.mp (z24 (z0W c.hy))).2
  have h2:(!f ((noL bl k f).headD 0))=true:=(K0t.mp (z24 (z0W c.hn))).2
  rw [← e,h1] at h2
  cases h2
 have out:∀{x:Nat},x<n->keyOf bl x≠k->keyOf (cutB bl k f) x=keyOf bl x:=λ{x} hx e=>by
  obtain ⟨h1,h2⟩:=b.at_ hx
  exact b'.key ((z09 b c).mpr (.inl ⟨h1,e⟩)) h2
 have blkY:(yesL bl k f).headD 0∈FT.blk bl k:=(K0t.mp (z24 (z0W c.hy))).1
 have blkN:(noL bl k f).headD 0∈FT.blk bl k:=(K0t.mp (z24 (z0W c.hn))).1
 have alien:∀{x z:Nat},x<n->keyOf bl x≠k->z∈FT.blk bl k->keyOf bl x≠z:=λ{x z} hx e hz q=>by
  have h1:=b.keyself (b.keyin hx)
  rw [q] at h1
  have h2:=b.key m hz
  exact e (by rw [q];exact h1.symm.trans h2)
 by_cases ex:keyOf bl x=k
 ·by_cases ey:keyOf bl y=k
  ·rcases own hx ex with ⟨fx,kx⟩|⟨fx,kx⟩<;>rcases own hy ey with ⟨fy,ky⟩|⟨fy,ky⟩<;>rw [kx,ky,ex,ey,fx,fy]
   ·simp
   ·simp only [true_and,reduceCtorEq,imp_false,not_true_eq_false,iff_false];exact ne
   ·simp only [true_and,reduceCtorEq,imp_false,not_true_eq_false,iff_false];exact λe=>ne e.symm
   ·simp
  ·rw [out hy ey,ex]
   refine ⟨λe=>?_,λ⟨e,_⟩=>absurd e.symm ey⟩
   rcases own hx ex with ⟨_,kx⟩|⟨_,kx⟩
   ·exact absurd (kx.symm.trans e).symm (alien hy ey blkY)
   ·exact absurd (kx.symm.trans e).symm (alien hy ey blkN)
 ·by_cases ey:keyOf bl y=k
  ·rw [out hx ex,ey]
   refine ⟨λe=>?_,λ⟨e,_⟩=>absurd e ex⟩
   rcases own hy ey with ⟨_,ky⟩|⟨_,ky⟩
   ·exact absurd (e.trans ky) (alien hx ex blkY)
   ·exact absurd (e.trans ky) (alien hx ex blkN)
  ·rw [out hx ex,out hy ey]
   exact ⟨λe=>⟨e,λq=>absurd q ex⟩,λe=>e.1⟩
end
theorem z6s {st:List .(O)}{mk:List (List Str)}(ma:MA st mk):SQ st:=⟨ma.l1,ma.l2,ma.s2⟩
theorem zp4 (a:Str):¬ a.cps.toList<a.cps.toList:=List.lt_irrefl _
theorem z3f {l:List Str}(a:l.Pairwise λa b=>a.cps.toList<b.cps.toList):l.Nodup:=K9x (λ{x y} h (e:x=y)=>zp4 y (by rw [e] at h;exact h)) a
theorem z5q {l m:List Str}(a:l.Pairwise λa b=>a.cps.toList<b.cps.toList) (b:m.Pairwise λa b=>a.cps.toList<b.cps.toList) (h:∀x,x∈l↔x∈m):l=m :=
 ((K71 (z3f a) (z3f b)).mpr h).eq_of_pairwise (λ_ _ _ _ h1 h2=>absurd h2 (List.lt_asymm h1)) a b
def bel (st:List .(O)) (mk:List (List Str)) (bl:Bl) (by_:D) (x:Nat):Bool:=match by_ with
 | .str s=>bear s mk x
 | .int k=>(nx st x).any λo=>decide (o∈FT.blk bl k.toNat)
 | _=>false
structure Stb (st:List .(O)) (mk:List (List Str)) (E:Nat->Nat->Prop):Prop where
 lt:∀x y,E x y->x<.(h)/\y<.(h)
 sym:∀x y,E x y->E y x
 marks:∀x y,E x y->mkAt mk x=mkAt mk y
 steps:∀x y,E x y->∀o∈nx st x,∃t∈nx st y,E o t
def ByOk (bl:Bl) (d:D):Prop:=(∃s:Str,d=.str s)∨∃k:Nat,d=.int (k:Nat)/\k∈bl.map (·.1)
theorem zA0 {st:List .(O)}{mk:List (List Str)}{bl:Bl}{E:Nat->Nat->Prop}(b:PB st.length bl) (s:Stb st mk E) (co:∀x y,E x y->keyOf bl x=keyOf bl y) {d:D}(ok:ByOk bl d) {x y:Nat}(e:E x y):bel st mk bl d x=bel st mk bl d y:=by
 rcases ok with ⟨s',rfl⟩|⟨k,rfl,hk⟩
 ·show bear s' mk x=bear s' mk y
  unfold bear
  have:=s.marks x y e
  unfold mkAt at this
  rw [this]
 ·show (nx st x).any _=(nx st y).any _
  have go:∀x y,E x y->((nx st x).any λo=>decide (o∈FT.blk bl ((k:Nat):Int).toNat))=true->((nx st y).any λo=>decide (o∈FT.blk bl ((k:Nat):Int).toNat))=true:=λx y e h=>by
   rw [K1p] at h ⊢
   obtain ⟨o,ho,q⟩:=h
   have q:=of_decide_eq_true q
   obtain ⟨t,ht,et⟩:=s.steps x y e o ho
   refine ⟨t,ht,.(o) ?_⟩
   rw [K0l] at q ⊢
   rw [b.in_blk hk] at q ⊢
   exact ⟨(s.lt _ _ et).2,by rw [← co o t et];exact q.2⟩
  rw [K0z]
  exact ⟨go x y e,go y x (s.sym x y e)⟩
theorem zI4 {st:List .(O)}{mk:List (List Str)}{bl:Bl}{E:Nat->Nat->Prop}(b:PB st.length bl) (s:Stb st mk E) (co:∀x y,E x y->keyOf bl x=keyOf bl y) {d:D}(ok:ByOk bl d) {k:Nat}(c:Cut bl k (bel st mk bl d)):∀x y,E x y->keyOf (cutB bl k (bel st mk bl d)) x=keyOf (cutB bl k (bel st mk bl d)) y:=λx y e=>by
 obtain ⟨hx,hy⟩:=s.lt x y e
 exact (z7n b c hx hy).mpr ⟨co x y e,λ_=>zA0 b s co ok e⟩
def Done (st:List .(O)) (mk:List (List Str)) (bl:Bl):Prop:=∀p∈bl,∀d,((∃x∈p.2,∃s∈mkAt mk x,d=.str s)∨∃k:Nat,d=.int (k:Nat)/\k∈bl.map (·.1))->¬ Cut bl p.1 (bel st mk bl d)
theorem z5v {st:List .(O)}{mk:List (List Str)}{bl:Bl}(b:PB st.length bl) (dn:Done st mk bl) {x y:Nat}(hx:x<st.length) (hy:y<st.length) (e:keyOf bl x=keyOf bl y) {d:D}(ok:(∃z∈FT.blk bl (keyOf bl x),∃s∈mkAt mk z,d=.str s)∨∃k:Nat,d=.int (k:Nat)/\k∈bl.map (·.1)):bel st mk bl d x=bel st mk bl d y:=by
 obtain ⟨m,hm⟩:=b.at_ hx
 obtain ⟨m2,hm2⟩:=b.at_ hy
 rw [← e] at hm2
 cases q:bel st mk bl d x with
 | true =>
  cases q2:bel st mk bl d y with
  | true=>rfl
  | false=>exact absurd ⟨b.keyin hx,K59 (K0t.mpr ⟨hm,q⟩),K59 (a:=y) (K0t.mpr ⟨hm2,by rw [q2];rfl⟩)⟩ (dn _ m d ok)
 | false =>
  cases q2:bel st mk bl d y with
  | false=>rfl
  | true=>exact absurd ⟨b.keyin hx,K59 (a:=y) (K0t.mpr ⟨hm2,q2⟩),K59 (K0t.mpr ⟨hm,by rw [q];rfl⟩)⟩ (dn _ m d ok)
theorem zi7 {st:List .(O)}{mk:List (List Str)}{bl:Bl}(ma:MA st mk) (b:PB st.length bl) (dn:Done st mk bl):Stb st mk λx y=>x<st.length/\y<st.length/\keyOf bl x=keyOf bl y:=by
 refine ⟨λx y h=>⟨h.1,h.2.1⟩,λx y h=>⟨h.2.1,h.1,h.2.2.symm⟩,λx y ⟨hx,hy,e⟩=>?_,λx y ⟨hx,hy,e⟩ o ho=>?_⟩
 ·have l3:=ma.l3
  have gx:mkAt mk x∈mk:=K0d (z35 (show x<mk.length by omega))
  have gy:mkAt mk y∈mk:=K0d (z35 (show y<mk.length by omega))
  have good:∀{l:List Str},l∈mk->∀s∈l,s≠"":=λhl s hs e=>by
   have:=(ma.m1 _ hl).good s hs
   rw [e] at this
   exact absurd this.1 .(1)
  have go:∀{x y:Nat},x<.(h)->y<.(h)->keyOf bl x=keyOf bl y->mkAt mk x∈mk->∀s∈mkAt mk x,s∈mkAt mk y:=λ{x y} hx hy e gx s hs=>by
   have h:=z5v b dn hx hy e (d:=.str s) (.inl ⟨x,(b.at_ hx).2,s,hs,rfl⟩)
   have h:bear s mk x=bear s mk y:=h
   unfold bear at h
   rw [.(p) (good gx s hs),K50,K50] at h
   have hs':s∈(mk[x]?).getD []:=hs
   rw [.(o) hs'] at h
   exact of_decide_eq_true h.symm
  exact z5q (ma.m1 _ gx).rise (ma.m1 _ gy).rise λs=>⟨go hx hy e gx s,go hy hx e.symm gy s⟩
 ·have ol:o<st.length:=z8d (z6s ma) ho
  have kin:=b.keyin ol
  have h:=z5v b dn hx hy e (d:=.int (keyOf bl o:Nat)) (.inr ⟨_,rfl,kin⟩)
  have h1:bel st mk bl (.int (keyOf bl o:Nat)) x=true:=by
   show (nx st x).any _=true
   rw [K1p]
   exact ⟨o,ho,.(o) (by rw [K0l];exact (b.at_ ol).2)⟩
  rw [h1] at h
  have h:(nx st y).any (λt=>decide (t∈FT.blk bl ((keyOf bl o:Nat):Int).toNat))=true:=h.symm
  rw [K1p] at h
  obtain ⟨t,ht,q⟩:=h
  have q:=of_decide_eq_true q
  rw [K0l,b.in_blk kin] at q
  exact ⟨t,ht,ol,q.1,q.2.symm⟩
def kvB (bl:Bl):List (Key×D):=bl.map λp=>(.inl (p.1:Int),.tup (stD p.2))
theorem zv2 (bl:Bl):z1r (kvB bl)=stD (bl.map (·.1)):=by unfold z1r kvB stD;rw [K0w,K0w];rfl
theorem inl_inj {a b:Nat}:((.inl (a:Int):Key)=.inl (b:Int))↔a=b:=by
 constructor
 ·intro h;injection h with h;omega
 ·rintro rfl;rfl
theorem lkB {bl:Bl}{k:Nat}(h:k∈bl.map (·.1)):lkD (kvB bl) (.inl (k:Int))=.(g ((stD (blk bl k)))):=by
 unfold lkD kvB blk
 rw [List.find?_map]
 have:((λkv:Key×D=>decide (kv.1=.inl (k:Int))) ∘ λp:Nat×List Nat=>((.inl (p.1:Int):Key),D.tup (stD p.2)))=λp=>decide (p.1=k):=by
  funext p
  show decide ((.inl (p.1:Int):Key)=.inl (k:Int))=_
  rw [decide_eq_decide]
  exact inl_inj
 rw [this]
 cases e:bl.find? λp=>decide (p.1=k) with
 | none =>
  rw [K46] at e
  obtain ⟨p,hp,q⟩:=K09.mp h
  exact absurd (by simpa using q) (e p hp)
 | some q=>rfl
theorem ptB (bl:Bl) (k:Nat) (b:List Nat):ptD (kvB bl) (.inl (k:Int)) (.tup (stD b))=kvB (putB bl k b):=by
 unfold ptD putB kvB
 have e:((bl.map λp=>((.inl (p.1:Int):Key),D.tup (stD p.2))).any λkv=>decide (kv.1=.inl (k:Int)))=bl.any λp=>decide (p.1=k):=by
  rw [K89]
  congr 1
  funext p
  show decide ((.inl (p.1:Int):Key)=.inl (k:Int))=_
  rw [decide_eq_decide]
  exact inl_inj
 rw [e]
 by_cases c:(bl.any λp=>decide (p.1=k))=true
 ·rw [if_pos c,if_pos c,K0w,K0w]
  refine K2t λp _=>?_
  show (if (.inl (p.1:Int):Key)=.inl (k:Int) then _ else _)=_
  by_cases q:p.1=k
  ·rw [if_pos (inl_inj.mpr q)]
   show _=((.inl ((if p.1=k then (k,b) else p).1:Int):Key),D.tup (stD (if p.1=k then (k,b) else p).2))
   rw [if_pos q]
   show ((.inl (p.1:Int):Key),D.tup (stD b))=_
   rw [q]
  ·rw [if_neg (λz=>q (inl_inj.mp z))]
   show _=((.inl ((if p.1=k then (k,b) else p).1:Int):Key),D.tup (stD (if p.1=k then (k,b) else p).2))
   rw [if_neg q]
 ·rw [if_neg c,if_neg c,K36]
  rfl
theorem refB {n:Nat}(bl:Bl):J4 n ((kvB bl).map (·.2))=true:=by
 unfold kvB
 rw [K0w]
 exact z0c λp=>z47 _
def Dic (h:AH) (b:Nat) (bl:Bl):Prop:=h[b]?=some (.dK (kvB bl))∨h[b]?=some (.dF (kvB bl))
theorem Dic.app {h:AH}{b:Nat}{bl:Bl}(d:Dic h b bl) (j:AH):Dic (h++j) b bl:=d.imp (λe=>x8 e) λe=>x8 e
theorem Dic.lt {h:AH}{b:Nat}{bl:Bl}(d:Dic h b bl):b<h.length:=by rcases d with d|d<;>exact (K2.mp d).1
theorem Dic.get {h:AH}{b:Nat}{bl:Bl}(d:Dic h b bl) {k:Nat}(hk:k∈bl.map (·.1)):z1A (.ref b) (.int (k:Nat)) h=.ok (.tup (stD (blk bl k))) h:=by
 have g:getK b h=.ok (kvB bl) h:=by rcases d with d|d<;>(unfold getK;rw [d])
 unfold z1A
 show (getK b >>= _) h=_
 rw [M.bind_ok g]
 show (match lkD (kvB bl) (.inl (k:Int)) with|some d=>pure d|none=>bad) h=_
 rw [lkB hk]
 rfl
theorem Dic.dk {h:AH}{b:Nat}{bl:Bl}(d:Dic h b bl):z3Q b h=.ok (kvB bl) h:=by rcases d with d|d<;>(unfold z3Q;rw [d])
theorem Dic.walk {h:AH}{b:Nat}{bl:Bl}(d:Dic h b bl) {ma:G->M D}{γ:G}{h0:AH}(e:ma γ h0=.ok (.ref b) h):iDic ma γ h0=.ok (.con (stD (bl.map (·.1)))) (h.set b (.dF (kvB bl))):=by
 unfold iDic
 rw [M.bind_ok e]
 dsimp only
 rcases d with d|d
 ·rw [d]
  dsimp only
  rw [zv2]
 ·rw [d]
  dsimp only
  rw [zv2]
  congr 1
  refine K3q λi=>?_
  by_cases q:b=i
  ·subst q
   rw [K0v (K2.mp d).1,d]
  ·rw [K0e q]
theorem Dic.set {h:AH}{b:Nat}{bl:Bl}(d:Dic h b bl):Dic (h.set b (.dF (kvB bl))) b bl:=.inr (K0v d.lt)
theorem z2m {m:M D}{h h0:AH}{i:Nat}{o:O}{j:AH}(e:m h=.ok (.ref i) (h0++j)) (l0:h0.length=h.length) (kp:Kept h h0) (hi:h.length≤i) (ei:(h0++j)[i]?=some o) (c:refO h.length o=true):cln m h=.ok .(r) (h0++[o]):=by
 have kp':Kept h (h0++j):=λi o li e=>kp i o li (by rw [K0i .(0)] at e;exact e)
 unfold cln
 rw [e]
 dsimp only
 rw [if_pos ⟨by rw [K01];omega,kp'⟩,if_neg (by simp only [Y0,decide_eq_true_eq];omega),ei]
 dsimp only
 rw [if_pos c,← l0,K8n rfl]
theorem z8P {m:M D}{h h0:AH}{d:D}{j:AH}(e:m h=.ok d (h0++j)) (l0:h0.length=h.length) (kp:Kept h h0) (c:Y0 0 d=true):cln m h=.ok d h0:=by
 have kp':Kept h (h0++j):=λi o li e=>kp i o li (by rw [K0i .(0)] at e;exact e)
 unfold cln
 rw [e]
 dsimp only
 rw [if_pos ⟨by rw [K01];omega,kp'⟩,if_pos (z3a (K4r _) c),← l0,K8n rfl]
theorem z4X {h:AH}{b:Nat}{o:O}(c:refO h.length o=true):Kept h (h.set b o):=λi u li e=>by
 by_cases q:b=i
 ·subst q
  rw [K0v li] at e
  cases e
  exact .inr c
 ·rw [K0e q] at e
  exact .inl e
theorem z2Z (h:AH):Kept h h:=λ_ _ _ e=>.inl e
theorem z8D {kvs:List (Key×D)}{k:Key}{v:D}(h:k∉kvs.map (·.1)):ptD kvs k v=kvs++[(k,v)]:=by
 unfold ptD
 rw [if_neg]
 rw [K1p]
 rintro ⟨p,hp,q⟩
 exact h (K09.mpr ⟨p,hp,of_decide_eq_true q⟩)
section
variable {cap:List (Option Nat)}{mi mi1:G->M Src}{g g1:D->G->M G}{kb:G->M Bool}{me mv:G->M D}{γ:G}
theorem z9X {h:AH}{n:Nat}{kvs:List (Key×D)}{y v:D}{k:Key}(e:h[n]?=some (.dK kvs)) (hk:keyD y=some k) (hl:kvs.length<1000000) (nk:k∉kvs.map (·.1)):z8b n y v h=.ok () (h.set n (.dK (kvs++[(k,v)]))):=by
 unfold z8b z4Q
 dsimp only
 rw [hk]
 dsimp only
 rw [e]
 dsimp only
 rw [if_pos (K0j hl .(1)),z8D nk]
theorem z4z {γ':G}(f:D->Key×D) (src:Src) (h1:AH) (hg:∀j,src.good (h1++j)):∀(rest:List D) (kvs:List (Key×D)),(kvs.map (·.1)++rest.map λd=>(f d).1).Nodup->kvs.length+rest.length≤1000 ->
 (∀d∈rest,∃γ1 y,(∀h,g d γ' h=.ok γ1 h)/\(∀h,kb γ1 h=.ok true h)/\keyD y=some (f d).1/\(∀j,me γ1 (h1++j)=.ok y (h1++j))/\∀j,mv γ1 (h1++j)=.ok (f d).2 (h1++j)) ->
 z1s src g kb me mv h1.length γ' rest (h1++[.dK kvs])=.ok () (h1++[.dK (kvs++rest.map f)])
 | [],kvs,nd,hl,hd=>by
  unfold z1s
  have c1:src.chk (h1++[.dK kvs])=.ok () (h1++[.dK kvs]):=by unfold Src.chk;rw [if_pos (hg _)]
  rw [M.bind_ok c1]
  simp
 | d::rest,kvs,nd,hl,hd=>by
  obtain ⟨γ1,y,e1,e2,e3,e4,e5⟩:=hd d .(e)
  have nk:(f d).1∉kvs.map (·.1):=λq=>(K3o.mp nd).2.2 _ q _ .(e) rfl
  have c1:src.chk (h1++[.dK kvs])=.ok () (h1++[.dK kvs]):=by unfold Src.chk;rw [if_pos (hg _)]
  have c5:=z9X (n:=h1.length) (v:=(f d).2) (Y5 (h:=h1) (o:=.dK kvs)) e3 (by rw [K0g] at hl;omega) nk
  rw [z9W] at c5
  have ih:=z4z (γ':=γ') f src h1 hg rest (kvs++[f d]) (by rw [K36,K0b];exact nd) (by rw [K01];simp at hl ⊢;omega) λx hx=>hd x (by simp [hx])
  unfold z1s
  rw [M.bind_ok c1,M.bind_ok (e1 _),M.bind_ok (e2 _),if_pos rfl,M.bind_ok (e4 _),M.bind_ok (e5 _),M.bind_ok c5,ih]
  simp
theorem zr1 {h h1:AH}{src:Src}(f:D->Key×D) (hi:mi γ h=.ok src h1) (hg:∀j,src.good (h1++j)) (nd:(src.items.map λd=>(f d).1).Nodup) (hl:src.items.length≤1000)
 (hd:∀d∈src.items,∃γ1 y,(∀h,g d (capG cap γ) h=.ok γ1 h)/\(∀h,kb γ1 h=.ok true h)/\keyD y=some (f d).1/\(∀j,me γ1 (h1++j)=.ok y (h1++j))/\∀j,mv γ1 (h1++j)=.ok (f d).2 (h1++j)) :
 za8 cap mi g kb me mv γ h=.ok (.ref h1.length) (h1++[.dK (src.items.map f)]):=by
 have r:=z4z (γ':=capG cap γ) (kb:=kb) (me:=me) (mv:=mv) (g:=g) f src h1 hg src.items [] (by simpa using nd) (by simpa using hl) hd
 unfold za8
 rw [M.bind_ok hi]
 show (z1s src g kb me mv h1.length (capG cap γ) src.items >>= λ_=>(pure (D.ref h1.length):M D)) (h1++[O.dK []])=_
 rw [M.bind_ok r]
 simp
theorem z5W {γ':G}(ys:D->List D) (f:D->D->Key×D) (src:Src) (h1:AH) (hg:∀j,src.good (h1++j)):∀(rest:List D) (kvs:List (Key×D)),(kvs.map (·.1)++rest.flatMap λd=>(ys d).map λy=>(f d y).1).Nodup->kvs.length+(rest.flatMap ys).length≤1000 ->
 (∀d∈rest,∃γ1,(∀h,g d γ' h=.ok γ1 h)/\(∀j,mi1 γ1 (h1++j)=.ok (.con (ys d)) (h1++j))/\∀y∈ys d,∃γ2 z,(∀h,g1 y γ1 h=.ok γ2 h)/\(∀h,kb γ2 h=.ok true h)/\keyD z=some (f d y).1/\(∀j,me γ2 (h1++j)=.ok z (h1++j))/\∀j,mv γ2 (h1++j)=.ok (f d y).2 (h1++j)) ->
 z20 src g mi1 g1 kb me mv h1.length γ' rest (h1++[.dK kvs])=.ok () (h1++[.dK (kvs++rest.flatMap λd=>(ys d).map (f d))])
 | [],kvs,nd,hl,hd=>by
  unfold z20
  have c1:src.chk (h1++[.dK kvs])=.ok () (h1++[.dK kvs]):=by unfold Src.chk;rw [if_pos (hg _)]
  rw [M.bind_ok c1]
  simp
 | d::rest,kvs,nd,hl,hd=>by
  obtain ⟨γ1,e1,e2,e3⟩:=hd d .(e)
  have c1:src.chk (h1++[.dK kvs])=.ok () (h1++[.dK kvs]):=by unfold Src.chk;rw [if_pos (hg _)]
  rw [K2m,← K0b] at nd
  rw [K2m,K01] at hl
  have inn:=z4z (γ':=γ1) (g:=g1) (kb:=kb) (me:=me) (mv:=mv) (f d) (.con (ys d)) h1 (λ_=>trivial) (ys d) kvs (List.Nodup.sublist (K55 _ _) nd) .(0) e3
  have ih:=z5W (γ':=γ') ys f src h1 hg rest (kvs++(ys d).map (f d)) (by
   rw [K36,K0w]
   exact nd) (by rw [K01,K02];omega) λx hx=>hd x (by simp [hx])
  unfold z20
  rw [M.bind_ok c1,M.bind_ok (e1 _),M.bind_ok (e2 _)]
  have inn':z1s (Src.con (ys d)) g1 kb me mv h1.length γ1 (Src.con (ys d)).items (h1++[.dK kvs])=_:=inn
  rw [M.bind_ok inn',ih,K2m,K0b]
theorem zc7 {h h1:AH}{src:Src}(ys:D->List D) (f:D->D->Key×D) (hi:mi γ h=.ok src h1) (hg:∀j,src.good (h1++j)) (nd:(src.items.flatMap λd=>(ys d).map λy=>(f d y).1).Nodup) (hl:(src.items.flatMap ys).length≤1000)
 (hd:∀d∈src.items,∃γ1,(∀h,g d (capG cap γ) h=.ok γ1 h)/\(∀j,mi1 γ1 (h1++j)=.ok (.con (ys d)) (h1++j))/\∀y∈ys d,∃γ2 z,(∀h,g1 y γ1 h=.ok γ2 h)/\(∀h,kb γ2 h=.ok true h)/\keyD z=some (f d y).1/\(∀j,me γ2 (h1++j)=.ok z (h1++j))/\∀j,mv γ2 (h1++j)=.ok (f d y).2 (h1++j)) :
 z4F cap mi g mi1 g1 kb me mv γ h=.ok (.ref h1.length) (h1++[.dK (src.items.flatMap λd=>(ys d).map (f d))]):=by
 have r:=z5W (γ':=capG cap γ) (mi1:=mi1) (g1:=g1) (kb:=kb) (me:=me) (mv:=mv) (g:=g) ys f src h1 hg src.items [] (by simpa using nd) (by simpa using hl) hd
 unfold z4F
 rw [M.bind_ok hi]
 show (z20 src g mi1 g1 kb me mv h1.length (capG cap γ) src.items >>= λ_=>(pure (D.ref h1.length):M D)) (h1++[O.dK []])=_
 rw [M.bind_ok r]
 simp
theorem z7b {γ':G}(ys:D->List D) (src:Src) (h1:AH) (hg:∀j,src.good (h1++j)):∀(rest acc:List D),acc.length+(rest.flatMap ys).length≤1000000 ->
 (∀d∈rest,∃γ1,(∀h,g d γ' h=.ok γ1 h)/\(∀j,mi1 γ1 (h1++j)=.ok (.con (ys d)) (h1++j))/\∀y∈ys d,∃γ2,(∀h,g1 y γ1 h=.ok γ2 h)/\(∀h,kb γ2 h=.ok true h)/\∀j,me γ2 (h1++j)=.ok y (h1++j)) ->
 z3e src g mi1 g1 kb me h1.length γ' rest (h1++[.lst acc])=.ok () (h1++[.lst (acc++rest.flatMap ys)])
 | [],acc,hl,hd=>by unfold z3e Src.chk;simp [hg]
 | d::rest,acc,hl,hd=>by
  obtain ⟨γ1,e1,e2,e3⟩:=hd d .(e)
  rw [K2m,K01] at hl
  have chk:src.chk (h1++[.lst acc])=.ok () (h1++[.lst acc]):=by unfold Src.chk;simp [hg]
  unfold z3e
  rw [M.bind_ok chk,M.bind_ok (e1 _),M.bind_ok (e2 _)]
  have q:=z37 (g:=g1) (k:=kb) (me:=me) (γ:=γ1) (p:=λ_=>true) (f:=λy=>y) (.con (ys d)) h1 (λ_=>trivial) (ys d) acc .(0) λy hy=>by
   obtain ⟨γ2,a1,a2,a3⟩:=e3 y hy
   exact ⟨γ2,a1,λj=>a2 _,λ_=>a3⟩
  have q':z26 (Src.con (ys d)) g1 kb me h1.length γ1 (Src.con (ys d)).items (h1++[.lst acc])=_:=q
  rw [M.bind_ok q',filter_tt,Z00,z7b ys src h1 hg rest _ (by rw [K01];omega) λy hy=>hd y (by simp [hy]),K2m,K0b]
theorem zu9 {h h1:AH}{src:Src}(ys:D->List D) (hi:mi γ h=.ok src h1) (hg:∀j,src.good (h1++j)) (hl:(src.items.flatMap ys).length≤1000000)
 (hd:∀d∈src.items,∃γ1,(∀h,g d (capG cap γ) h=.ok γ1 h)/\(∀j,mi1 γ1 (h1++j)=.ok (.con (ys d)) (h1++j))/\∀y∈ys d,∃γ2,(∀h,g1 y γ1 h=.ok γ2 h)/\(∀h,kb γ2 h=.ok true h)/\∀j,me γ2 (h1++j)=.ok y (h1++j)) :
 z9c cap mi g mi1 g1 kb me γ h=.ok (.ref h1.length) (h1++[.lst (src.items.flatMap ys)]):=by
 have e:=z7b (γ':=capG cap γ) (g:=g) (mi1:=mi1) (g1:=g1) (kb:=kb) (me:=me) ys src h1 hg src.items [] (by simpa using hl) hd
 unfold z9c
 rw [M.bind_ok hi]
 show (z3e src g mi1 g1 kb me h1.length (capG cap γ) src.items >>= λ_=>(pure (D.ref h1.length):M D)) (h1++[.lst []])=_
 rw [M.bind_ok e]
 rfl
end
theorem zn8 {m:M D}{h:AH}{d:D}(e:m h=.ok d h) (c:Y0 0 d=true):cln m h=.ok d h:=z1a (j:=[]) (by rw [e,K1i]) (z3a (K4r h.length) c)
theorem z42 {ma:G->M D}{γ:G}{h:AH}{d:D}{T:String}{b:Bool}(e1:ma γ h=.ok d h) (e2':fIsi T d h=.ok (.bl b) h):eIsi T ma γ h=.ok (.bl b) h:=by
 unfold eIsi
 rw [M.bind_ok e1,e2']
theorem zT7 {me:G->M D}{γ:G}{h:AH}{bs:List Bool}(e:me γ h=.ok .(r) (h++[.lst (bs.map .bl)])):clE (Z8 (fAll true) (z9 me aNil)) γ h=.ok (.bl (bs.any id)) h :=
 z1a (j:=[.lst (bs.map .bl)]) (J5 e (by
  have g:getL h.length (h++[O.lst (bs.map .bl)])=.ok (bs.map .bl) (h++[O.lst (bs.map .bl)]):=by unfold getL;rw [Y5]
  unfold fAll
  dsimp only
  rw [M.bind_ok g,z9T]
  rfl)) rfl
theorem zl2 {ma mv:G->M D}{γ:G}{h:AH}{k v:D}{kk:Key}(e1:ma γ (h++[.dK []])=.ok k (h++[.dK []])) (hk:keyD k=some kk) (e2':mv γ (h++[.dK []])=.ok v (h++[.dK []])):z5i ma mv γ h=.ok .(r) (h++[.dK [(kk,v)]]):=by
 unfold z5i
 show (ma γ >>= λk=>mv γ >>= λv=>putO h.length k v) (h++[O.dK []])=_
 rw [M.bind_ok e1,M.bind_ok e2']
 unfold putO
 rw [hk]
 dsimp only
 rw [Y5]
 dsimp only
 rw [z9W]
theorem z2r {cap:List (Option Nat)}{mi:G->M Src}{g:D->G->M G}{kb:G->M Bool}{me:G->M D}{γ:G}{h h1:AH}{src:Src}{l:List Nat}(f:Nat->D) (hi:mi γ h=.ok src h1) (hs:src.items=stD l) (hg:∀j,src.good (h1++j)) (hl:l.length≤1000000)
 (hd:∀x∈l,∃γ1,(∀h,g (.int x) (capG cap γ) h=.ok γ1 h)/\(∀j,kb γ1 (h1++j)=.ok true (h1++j))/\∀j,me γ1 (h1++j)=.ok (f x) (h1++j)):x9 cap mi g kb me γ h=.ok (.ref h1.length) (h1++[.lst (l.map f)]):=by
 have e:=z2A (mi:=λ_=>pure src) (cap:=cap) (g:=g) (kb:=kb) (me:=me) (γ:=γ) (h:=h1) (λ_=>true) f rfl hs hg hl λx hx=>by
  obtain ⟨γ1,a1,a2,a3⟩:=hd x hx
  exact ⟨γ1,a1,a2,λ_=>a3⟩
 rw [filter_tt] at e
 rw [← e]
 unfold x9
 rw [M.bind_ok hi]
 rfl
def Sim (st:List .(O)) (mk:List (List Str)) (x y:Nat):Prop:=∃E,Stb st mk E/\E x y
abbrev Lk:=Nat×List Str×List Nat
def lkH (st:List .(O)) (mk:List (List Str)) (H:List Nat) (x:Nat):Lk:=(rowAt H x,mkAt mk x,setN ((nx st x).map (rowAt H)))
def lkE (l:Lk):D:=.tup [.int (l.1:Nat),.tup (l.2.1.map .str),.tup (stD l.2.2)]
theorem zm0 {h:AH}(a b:Lk):eqN 24 h (lkE a) (lkE b)=some (decide (a=b)):=by
 obtain ⟨a1,a2,a3⟩:=a
 obtain ⟨b1,b2,b3⟩:=b
 have e1:eqN 23 h (.int (a1:Nat)) (.int (b1:Nat))=some (decide (a1=b1)):=z2B a1 b1
 have e2:eqN 23 h (.tup (a2.map .str)) (.tup (b2.map .str))=some (decide (a2=b2)):=z8S zr0 a2 b2
 have e3:eqN 23 h (.tup (stD a3)) (.tup (stD b3))=some (decide (a3=b3)):=z8S (enc:=λ(i:Nat)=>.int i) z2B a3 b3
 show eqZ (eqN 23 h) _ _=_
 unfold eqZ
 rw [e1]
 unfold eqZ
 rw [e2]
 unfold eqZ
 rw [e3]
 show some _=_
 rw [K7a,K0z]
 simp only [K0h,decide_eq_true_eq,Prod.mk.injEq,and_true]
def z0U (st:List .(O)) (mk:List (List Str)) (H:List Nat):List Nat:=(K00 st.length).map λx=>((K00 st.length).map (lkH st mk H)).idxOf (lkH st mk H x)
def y4 (st:List .(O)) (mk:List (List Str)):Nat->List Nat
 | 0=>K0c st.length 0
 | k+1=>z0U st mk (y4 st mk k)
structure CanH (n:Nat) (H:List Nat):Prop where
 len:H.length=n
 le:∀x,x<n->rowAt H x≤x
 fix:∀x,x<n->rowAt H (rowAt H x)=rowAt H x
theorem z4S {α:Type} [BEq α] [LawfulBEq α]:∀{l:List α}{i:Nat}{x:α},l[i]?=some x->l.idxOf x≤i
 | [],i,x,h=>by simp at h
 | y::r,0,x,h=>by simp at h;subst h;simp
 | y::r,i+1,x,h=>by
  rw [K8q]
  cases e:y==x with
  | true=>simp
  | false =>
   have:=z4S (l:=r) (i:=i) (x:=x) (by simpa using h)
   simp only [cond_false]
   omega
section
variable {st:List (List Nat)}{mk:List (List Str)}{H:List Nat}
theorem z4m {x:Nat}(hx:x<st.length):rowAt (z0U st mk H) x=((K00 st.length).map (lkH st mk H)).idxOf (lkH st mk H x):=z32 (by unfold z0U;rw [K07,K1n hx];rfl)
theorem z4w {x:Nat}(hx:x<st.length):((K00 st.length).map (lkH st mk H))[x]?=some (lkH st mk H x):=by rw [K07,K1n hx];rfl
theorem z2G {x:Nat}(hx:x<st.length):rowAt (z0U st mk H) x≤x:=by rw [z4m hx];exact z4S (z4w hx)
theorem z1z {x:Nat}(hx:x<st.length):lkH st mk H (rowAt (z0U st mk H) x)=lkH st mk H x:=by
 have l:=K26 (z2G (mk:=mk) (H:=H) hx) hx
 have e:=z4w (mk:=mk) (H:=H) l
 rw [z4m hx] at e ⊢
 have m:lkH st mk H x∈(K00 .(h)).map (lkH st mk H):=K0d (z4w hx)
 have il:=K1v.mpr m
 rw [K6 il,K45 il] at e
 exact (K10 e).symm
theorem z2a {x y:Nat}(hx:x<st.length) (hy:y<st.length):rowAt (z0U st mk H) x=rowAt (z0U st mk H) y↔lkH st mk H x=lkH st mk H y:=by
 constructor
 ·intro e
  rw [← z1z (H:=H) hx,← z1z (H:=H) hy,e]
 ·intro e
  rw [z4m hx,z4m hy,e]
theorem next_can:CanH st.length (z0U st mk H):=⟨by unfold z0U;simp,λx hx=>z2G hx,λx hx=>(z2a (K26 (z2G hx) hx) hx).mpr (z1z hx)⟩
theorem z1F:∀k,CanH st.length (y4 st mk k)
 | 0=>by
  have z:∀x,rowAt (K0c .(h) 0) x=0:=λx=>by
   unfold rowAt
   rw [K2h]
   split<;>rfl
  exact ⟨by simp [y4],λx _=>by show rowAt (K0c st.length 0) x≤x;rw [z];omega,λx _=>by show rowAt (K0c st.length 0) _=rowAt (K0c st.length 0) _;rw [z,z]⟩
 | k+1=>next_can
theorem zk8 {α:Type}{p q:α->Bool}:∀{l:List α},(∀x∈l,p x=true->q x=true)->(l.filter p).length≤(l.filter q).length/\((l.filter p).length=(l.filter q).length->∀x∈l,q x=true->p x=true)
 | [],_=>⟨K05 _,λ_ x hx=>by cases hx⟩
 | a::l,h=>by
  obtain ⟨i1,i2⟩:=zk8 (l:=l) λx hx=>h x (by simp [hx])
  have ha:=h a .(e)
  cases e1:p a with
  | true =>
   have e2:=ha e1
   rw [K5l e1,K5l e2]
   refine ⟨by simpa using i1,λe x hx q=>?_⟩
   rcases K0x.mp hx with rfl|hx
   ·exact e1
   ·exact i2 (by simpa using e) x hx q
  | false =>
   rw [K86 (by simp [e1])]
   cases e2:q a with
   | true =>
    rw [K5l e2]
    refine ⟨by rw [K0g];omega,λe=>?_⟩
    rw [K0g] at e
    omega
   | false =>
    rw [K86 (by simp [e2])]
    refine ⟨i1,λe x hx q=>?_⟩
    rcases K0x.mp hx with rfl|hx
    ·rw [e2] at q;cases q
    ·exact i2 e x hx q
def repN (n:Nat) (H:List Nat):Nat:=((K00 n).filter λx=>decide (rowAt H x=x)).length
theorem zb7 (c:CanH st.length H):repN st.length H≤repN st.length (z0U st mk H)/\(repN st.length H=repN st.length (z0U st mk H)->z0U st mk H=H):=by
 have mono:∀x∈K00 .(h),decide (rowAt H x=x)=true->decide (rowAt (z0U st mk H) x=x)=true:=λx hx e=>by
  have hx:=K0y.mp hx
  have e:=of_decide_eq_true e
  have l:=K26 (z2G (mk:=mk) (H:=H) hx) hx
  have lk:=congrArg Prod.fst (z1z (mk:=mk) (H:=H) hx)
  have lk:rowAt H (rowAt (z0U st mk H) x)=rowAt H x:=lk
  have a1:=c.le _ l
  have a2:=z2G (mk:=mk) (H:=H) hx
  exact .(o) .(0)
 obtain ⟨h1,h2⟩:=zk8 mono
 refine ⟨h1,λe=>?_⟩
 have back:=h2 e
 refine K3q λx=>?_
 by_cases hx:x<.(h)
 ·rw [z16 (show x<(z0U st mk H).length by rw [next_can.len];exact hx),z16 (show x<H.length by rw [c.len];exact hx)]
  congr 1
  have l:=K26 (z2G (mk:=mk) (H:=H) hx) hx
  have r:=of_decide_eq_true (back _ (K0y.mpr l) (.(o) (next_can.fix x hx)))
  have lk:rowAt H (rowAt (z0U st mk H) x)=rowAt H x:=congrArg Prod.fst (z1z (mk:=mk) (H:=H) hx)
  omega
 ·rw [K15 (by rw [next_can.len];omega),K15 (by rw [c.len];omega)]
theorem z4f (hn:1≤st.length):∀k,(∃j,j<k/\y4 st mk (j+1)=y4 st mk j)∨k+1≤repN st.length (y4 st mk k)
 | 0=>.inr (by
  unfold repN
  refine K5w (a:=0) (K0t.mpr ⟨K0y.mpr .(0),.(o) ?_⟩)
  have:=(z1F (st:=st) (mk:=mk) 0).le 0 .(0)
  omega)
 | k+1=>by
  rcases z4f hn k with ⟨j,hj,e⟩|h
  ·exact .inl ⟨j,by omega,e⟩
  ·obtain ⟨h1,h2⟩:=zb7 (mk:=mk) (z1F (st:=st) (mk:=mk) k)
   by_cases q:repN .(h) (y4 st mk k)=repN .(h) (z0U st mk (y4 st mk k))
   ·exact .inl ⟨k,by omega,h2 q⟩
   ·exact .inr (by show k+1+1≤repN .(h) (z0U st mk (y4 st mk k));omega)
theorem z45 {j:Nat}(e:y4 st mk (j+1)=y4 st mk j):∀i,y4 st mk (j+i)=y4 st mk j
 | 0=>rfl
 | i+1=>by
  show z0U st mk (y4 st mk (j+i))=_
  rw [z45 e i]
  exact e
theorem z61 (hn:1≤st.length):z0U st mk (y4 st mk st.length)=y4 st mk st.length:=by
 rcases z4f (mk:=mk) hn .(h) with ⟨j,hj,e⟩|h
 ·have s:=z45 e
  have a1:=s (.(h) - j)
  rw [show j+(.(h) - j)=.(h) by omega] at a1
  rw [a1]
  exact e
 ·have:=K4m (λx=>decide (rowAt (y4 st mk .(h)) x=x)) (K00 .(h))
  unfold repN at h
  rw [K2b] at this
  omega
theorem z4Y {E:Nat->Nat->Prop}(s:Stb st mk E):∀k x y,E x y->rowAt (y4 st mk k) x=rowAt (y4 st mk k) y
 | 0,x,y,e=>by
  obtain ⟨hx,hy⟩:=s.lt x y e
  have a:=(z1F (st:=st) (mk:=mk) 0)
  show rowAt (K0c .(h) 0) x=rowAt (K0c .(h) 0) y
  unfold rowAt
  rw [K2h,K2h,if_pos hx,if_pos hy]
 | k+1,x,y,e=>by
  obtain ⟨hx,hy⟩:=s.lt x y e
  refine (z2a hx hy).mpr ?_
  unfold lkH
  rw [z4Y s k x y e,s.marks x y e]
  congr 2
  have go:∀x y,E x y->∀u,u∈(nx st x).map (rowAt (y4 st mk k))->u∈(nx st y).map (rowAt (y4 st mk k)):=λx y e u hu=>by
   obtain ⟨o,ho,rfl⟩:=K09.mp hu
   obtain ⟨t,ht,et⟩:=s.steps x y e o ho
   exact K09.mpr ⟨t,ht,(z4Y s k o t et).symm⟩
  exact ze1 λu=>⟨go x y e u,go y x (s.sym x y e) u⟩
theorem z9Y (sq:SQ st) {x y:Nat}(hx:x<st.length) (hy:y<st.length):rowAt (y4 st mk st.length) x=rowAt (y4 st mk st.length) y↔Sim st mk x y:=by
 constructor
 ·intro e
  refine ⟨λx y=>x<.(h)/\y<.(h)/\rowAt (y4 st mk .(h)) x=rowAt (y4 st mk .(h)) y,⟨λx y h=>⟨h.1,h.2.1⟩,λx y h=>⟨h.2.1,h.1,h.2.2.symm⟩,λx y ⟨hx,hy,e⟩=>?_,λx y ⟨hx,hy,e⟩ o ho=>?_⟩,hx,hy,e⟩
  ·rw [← z61 sq.l1] at e
   have:=(z2a hx hy).mp e
   exact congrArg (λl:Lk=>l.2.1) this
  ·have e':=e
   rw [← z61 sq.l1] at e'
   have:=congrArg (λl:Lk=>l.2.2) ((z2a hx hy).mp e')
   have this:setN ((nx st x).map (rowAt (y4 st mk .(h))))=setN ((nx st y).map (rowAt (y4 st mk .(h)))):=this
   have m:rowAt (y4 st mk .(h)) o∈setN ((nx st y).map (rowAt (y4 st mk .(h)))):=by
    rw [← this,z30]
    exact K09.mpr ⟨o,ho,rfl⟩
   rw [z30] at m
   obtain ⟨t,ht,et⟩:=K09.mp m
   exact ⟨t,ht,z8d sq ho,z8d sq ht,et.symm⟩
 ·rintro ⟨E,s,e⟩
  exact z4Y s _ x y e
end
theorem z2H {h:AH}{l:List Lk}{a:Lk}(ha:a∈l):inZ h (lkE a) (l.map lkE)=some true/\z2s h (lkE a) (l.map lkE)=l.idxOf a:=by
 have g:∀l:List Lk,inZ h (lkE a) (l.map lkE)=some (decide (a∈l)):=by
  intro l
  induction l with
  | nil=>rfl
  | cons b l ih =>
   rw [K0q]
   unfold inZ
   rw [zm0,ih]
   dsimp only
   show some (decide (b=a)||decide (a∈l))=some (decide (a∈b::l))
   congr 1
   rw [K0z,K2f,decide_eq_true_eq,decide_eq_true_eq,decide_eq_true_eq,K0x]
   constructor
   ·rintro (e|e)
    ·exact .inl e.symm
    ·exact .inr e
   ·rintro (e|e)
    ·exact .inl e.symm
    ·exact .inr e
 refine ⟨by rw [g,.(o) ha],?_⟩
 unfold z2s List.idxOf
 rw [List.findIdx_map]
 congr 1
 funext b
 show decide (eqN 24 h (lkE b) (lkE a)=some true)=(b==a)
 rw [zm0,K0z]
 simp
theorem z6t (l:List Lk):x5 (l.map lkE)=true:=by
 have ps:∀l:List Str,x5 (l.map .str)=true:=λl=>by
  induction l with
  | nil=>rfl
  | cons a l ih=>simp only [K0q,x5,z0F,ih,Bool.and_self]
 have pn:∀l:List Nat,x5 (stD l)=true:=λl=>by
  induction l with
  | nil=>rfl
  | cons a l ih =>
   show (z0F (.int (a:Nat))&&x5 (stD l))=true
   rw [ih];rfl
 induction l with
 | nil=>rfl
 | cons a l ih =>
  simp only [K0q,x5,ih,K64]
  simp only [lkE,z0F,x5,ps,pn,Bool.and_self]
inductive Sy where
 | yes
 | mark (s:Str)
 | step (k:Nat)
 | neg (k:Nat)
 | con (a b:Nat)
def Sy.d:Sy->D
 | .yes=>.tup [.str "yes"]
 | .mark s=>.tup [.str "mark",.str s]
 | .step k=>.tup [.str "step",.int k]
 | .neg k=>.tup [.str "not",.int k]
 | .con a b=>.tup [.str "and",.int a,.int b]
def Sy.ok (n:Nat):Sy->Prop
 | .yes=>True
 | .mark s=>z6o s
 | .step k=>k<n
 | .neg k=>k<n
 | .con a b=>a<n/\b<n
abbrev Tru:=List (List Bool)
def tv (T:Tru) (i x:Nat):Bool:=(((T[i]?).getD [])[x]?).getD false
def Sy.f (st:List .(O)) (mk:List (List Str)) (T:Tru):Sy->Nat->Bool
 | .yes,_=>true
 | .mark s,x=>decide (s∈mkAt mk x)
 | .step k,x=>(nx st x).any (tv T k)
 | .neg k,x=>!tv T k x
 | .con a b,x=>tv T a x&&tv T b x
def Sy.t (st:List .(O)) (mk:List (List Str)) (T:Tru) (r:Sy):List Bool:=(K00 st.length).map (r.f st mk T)
def trus (st:List .(O)) (mk:List (List Str)) (R:List Sy):Tru:=R.foldl (λT r=>T++[r.t st mk T]) []
section
variable {st:List (List Nat)}{mk:List (List Str)}{R:List Sy}{r:Sy}{T S:Tru}{i x:Nat}{bl:Bl}
theorem z3k:trus st mk (R++[r])=trus st mk R++[r.t st mk (trus st mk R)]:=by unfold trus;rw [K4n];rfl
theorem z5Z:∀(R:List Sy) (T:Tru),(R.foldl (λT r=>T++[r.t st mk T]) T).length=T.length+R.length
 | [],T=>rfl
 | r::R,T=>by rw [K4d,z5Z R,K01,K0g,K0g,K0u];omega
theorem z2g:(trus st mk R).length=R.length:=by unfold trus;rw [z5Z];simp
theorem zn9 (h:i<T.length):tv (T++S) i x=tv T i x:=by unfold tv;rw [K0i h]
theorem tv_t {k:Nat}(h:T[k]?=some (r.t st mk S)) (hx:x<st.length):tv T k x=r.f st mk S x:=by
 unfold tv Sy.t at *
 rw [h]
 show (((K00 .(h)).map (r.f st mk S))[x]?).getD false=_
 rw [K07,K1n hx]
 rfl
theorem z74 (h:i<R.length):tv (trus st mk (R++[r])) i x=tv (trus st mk R) i x:=by rw [z3k];exact zn9 (by rw [z2g];exact h)
theorem z66 (h:i=R.length) (hx:x<st.length):tv (trus st mk (R++[r])) i x=r.f st mk (trus st mk R) x:=by
 subst h
 rw [z3k]
 exact tv_t (by rw [← z2g (st:=st) (mk:=mk) (R:=R)];simp) hx
theorem z5f:∀(S:List Sy) (T:Tru),∃U,S.foldl (λT r=>T++[r.t st mk T]) T=T++U
 | [],T=>⟨[],by simp⟩
 | r::S,T=>by
  obtain ⟨U,e⟩:=z5f S (T++[r.t st mk T])
  exact ⟨r.t st mk T::U,by rw [K4d,e];simp⟩
theorem z8R {j:Nat}(hj:j<i) (hi:i≤R.length):tv (trus st mk (R.take i)) j x=tv (trus st mk R) j x:=by
 have e:trus st mk R=(R.drop i).foldl (λT r=>T++[r.t st mk T]) (trus st mk (R.take i)):=by
  conv=>lhs;rw [← K8y i R]
  unfold trus
  rw [K4n]
 obtain ⟨U,e2⟩:=z5f (st:=st) (mk:=mk) (R.drop i) (trus st mk (R.take i))
 rw [e,e2,zn9 (by rw [z2g,K13];omega)]
structure Sg (st:List .(O)) (mk:List (List Str)) (R:List Sy) (num:Nat->Nat) (bl:Bl):Prop where
 ok:∀(i:Nat) (r:Sy),R[i]?=some r->r.ok i
 lt:∀k∈bl.map (·.1),num k<R.length
 tr:∀k∈bl.map (·.1),∀x,x<.(h)->tv (trus st mk R) (num k) x=decide (keyOf bl x=k)
theorem zb9 (h:0<st.length):Sg st mk [.yes] (λ_=>0) [(0,K00 st.length)]:=by
 have pb:=z4V h
 refine ⟨λi r e=>?_,λk hk=>by simp,λk hk x hx=>?_⟩
 ·cases i with
  | zero=>simp at e;subst e;trivial
  | succ i=>simp at e
 ·simp at hk
  subst hk
  rw [pb.key (p:=(0,K00 .(h))) .(e) (K0y.mpr hx)]
  exact z66 (R:=[]) rfl hx
def byR (num:Nat->Nat):D->Sy
 | .str s=>.mark s
 | .int k=>.step (num k.toNat)
 | _=>.yes
def cutR (R:List Sy) (num:Nat->Nat) (k:Nat) (y:D):List Sy:=R++[byR num y]++[.con (num k) R.length]++[.neg R.length]++[.con (num k) (R.length+2)]
def cutN (R:List Sy) (num:Nat->Nat) (bl:Bl) (k:Nat) (f:Nat->Bool) (k':Nat):Nat:=if k'∈bl.map (·.1)/\k'≠k then num k' else if f k'=true then R.length+1 else R.length+3
theorem zh2 {num:Nat->Nat}{k:Nat}{y:D}:(cutR R num k y).length=R.length+4:=by unfold cutR;simp
theorem z4I (h:∀(i:Nat) (r:Sy),R[i]?=some r->r.ok i) (hr:r.ok R.length):∀(i:Nat) (q:Sy),(R++[r])[i]?=some q->q.ok i:=λi q e=>by
 by_cases hi:i<R.length
 ·rw [K0i hi] at e;exact h i q e
 ·rw [K27 .(0)] at e
  have:i - R.length=0:=by have:=(K2.mp e).1;simpa using this
  rw [this] at e
  simp at e
  subst e
  rw [show i=R.length by omega]
  exact hr
theorem zf4 (b:PB n bl) {k:Nat}{f:Nat->Bool}(c:Cut bl k f) {k':Nat}(h:k'∈(cutB bl k f).map (·.1)) (h2:¬ (k'∈bl.map (·.1)/\k'≠k)):keyOf bl k'=k:=by
 have b':=z3y b c
 have hn:=b'.klt h
 by_cases e:keyOf bl k'=k
 ·exact e
 ·exfalso
  obtain ⟨m,hm⟩:=b.at_ hn
  have key:=b'.key ((z09 b c).mpr (.inl ⟨m,e⟩)) hm
  have self:=b'.keyself h
  have:keyOf bl k'=k':=key.symm.trans self
  exact h2 ⟨by rw [← this];exact b.keyin hn,λq=>e (this.trans q)⟩
theorem zz5 (b:PB n bl) {k:Nat}{f:Nat->Bool}(c:Cut bl k f) {k' x:Nat}(h:k'∈(cutB bl k f).map (·.1)) (hx:x<n):keyOf (cutB bl k f) x=k'↔if k'∈bl.map (·.1)/\k'≠k then keyOf bl x=k' else keyOf bl x=k/\f x=f k':=by
 have b':=z3y b c
 have hn:=b'.klt h
 have self:=b'.keyself h
 have cs:=z7n b c hx hn
 rw [self] at cs
 rw [cs]
 by_cases q:k'∈bl.map (·.1)/\k'≠k
 ·rw [if_pos q,b.keyself q.1]
  exact ⟨λe=>e.1,λe=>⟨e,λz=>absurd (e.symm.trans z) q.2⟩⟩
 ·rw [if_neg q,zf4 b c h q]
  exact ⟨λ⟨e,z⟩=>⟨e,z e⟩,λ⟨e,z⟩=>⟨e,λ_=>z⟩⟩
theorem zC9 {num:Nat->Nat}{k:Nat}{y:D}(b:PB st.length bl) (sg:Sg st mk R num bl) (g:(∃s,y=.str s/\z6o s)∨∃k':Nat,y=.int (k':Nat)/\k'∈bl.map (·.1)) (c:Cut bl k (bel st mk bl y)) (nl:∀x,∀o∈nx st x,o<st.length):Sg st mk (cutR R num k y) (cutN R num bl k (bel st mk bl y)) (cutB bl k (bel st mk bl y)):=by
 have nk:=sg.lt k c.hk
 have r0:(byR num y).ok R.length:=by
  rcases g with ⟨s,rfl,gs⟩|⟨k',rfl,hk'⟩
  ·exact gs
  ·exact sg.lt k' hk'
 have f0:∀x,x<.(h)->(byR num y).f st mk (trus st mk R) x=bel st mk bl y x:=λx hx=>by
  rcases g with ⟨s,rfl,gs⟩|⟨k',rfl,hk'⟩
  ·show decide (s∈mkAt mk x)=bear s mk x
   have:s≠"":=λe=>by
    rw [e] at gs
    exact absurd gs.1 .(1)
   unfold bear
   rw [.(p) this,K50]
   rfl
  ·show (nx st x).any (tv (trus st mk R) (num ((k':Nat):Int).toNat))=(nx st x).any λo=>decide (o∈FT.blk bl ((k':Nat):Int).toNat)
   rw [K0l,K0z,K1p,K1p]
   have eq:∀o∈nx st x,tv (trus st mk R) (num k') o=decide (o∈FT.blk bl k'):=λo ho=>by
    have ol:=nl x o ho
    rw [sg.tr k' hk' o ol,decide_eq_decide,b.in_blk hk']
    exact ⟨λe=>⟨ol,e⟩,λe=>e.2⟩
   exact ⟨λ⟨o,ho,e⟩=>⟨o,ho,by rw [← eq o ho];exact e⟩,λ⟨o,ho,e⟩=>⟨o,ho,by rw [eq o ho];exact e⟩⟩
 obtain ⟨f,hf⟩:∃f,f=bel st mk bl y:=⟨_,rfl⟩
 rw [← hf] at f0 c ⊢
 obtain ⟨R1,h1⟩:∃R1,R1=R++[byR num y]:=⟨_,rfl⟩
 obtain ⟨R2,h2⟩:∃R2,R2=R1++[Sy.con (num k) R.length]:=⟨_,rfl⟩
 obtain ⟨R3,h3⟩:∃R3,R3=R2++[Sy.neg R.length]:=⟨_,rfl⟩
 obtain ⟨R4,h4⟩:∃R4,R4=R3++[Sy.con (num k) (R.length+2)]:=⟨_,rfl⟩
 have hR:cutR R num k y=R4:=by unfold cutR;rw [h4,h3,h2,h1]
 have l1:R1.length=R.length+1:=by rw [h1];simp
 have l2:R2.length=R.length+2:=by rw [h2,K01,l1];simp
 have l3:R3.length=R.length+3:=by rw [h3,K01,l2];simp
 have l4:R4.length=R.length+4:=by rw [h4,K01,l3];simp
 have t1:∀x,x<.(h)->tv (trus st mk R1) R.length x=f x:=λx hx=>by rw [h1,z66 rfl hx];exact f0 x hx
 have o1:∀i x,i<R.length->tv (trus st mk R1) i x=tv (trus st mk R) i x:=λi x hi=>by rw [h1];exact z74 hi
 have o2:∀i x,i<R1.length->tv (trus st mk R2) i x=tv (trus st mk R1) i x:=λi x hi=>by rw [h2];exact z74 hi
 have o3:∀i x,i<R2.length->tv (trus st mk R3) i x=tv (trus st mk R2) i x:=λi x hi=>by rw [h3];exact z74 hi
 have o4:∀i x,i<R3.length->tv (trus st mk R4) i x=tv (trus st mk R3) i x:=λi x hi=>by rw [h4];exact z74 hi
 have whole:∀x,x<.(h)->tv (trus st mk R) (num k) x=decide (keyOf bl x=k):=sg.tr k c.hk
 have t2:∀x,x<.(h)->tv (trus st mk R2) (R.length+1) x=(decide (keyOf bl x=k)&&f x):=λx hx=>by
  rw [h2,z66 l1.symm hx]
  show (tv (trus st mk R1) (num k) x&&tv (trus st mk R1) R.length x)=_
  rw [o1 _ _ nk,whole x hx,t1 x hx]
 have t3:∀x,x<.(h)->tv (trus st mk R3) (R.length+2) x = !f x:=λx hx=>by
  rw [h3,z66 l2.symm hx]
  show (!tv (trus st mk R2) R.length x)=_
  rw [o2 _ _ .(0),t1 x hx]
 have t4:∀x,x<.(h)->tv (trus st mk R4) (R.length+3) x=(decide (keyOf bl x=k)&&!f x):=λx hx=>by
  rw [h4,z66 l3.symm hx]
  show (tv (trus st mk R3) (num k) x&&tv (trus st mk R3) (R.length+2) x)=_
  rw [o3 _ _ .(0),o2 _ _ .(0),o1 _ _ nk,whole x hx,t3 x hx]
 have b':=z3y b c
 rw [hR]
 refine ⟨?_,λk' hk'=>?_,λk' hk' x hx=>?_⟩
 ·rw [h4]
  refine z4I ?_ ⟨by omega,by omega⟩
  rw [h3]
  refine z4I ?_ (by show R.length<_;omega)
  rw [h2]
  refine z4I ?_ ⟨by omega,by omega⟩
  rw [h1]
  exact z4I sg.ok r0
 ·unfold cutN
  split
  ·rename_i q
   have:=sg.lt k' q.1
   omega
  ·split<;>omega
 ·rw [K0z,decide_eq_true_eq,zz5 b c hk' hx]
  unfold cutN
  by_cases q:k'∈bl.map (·.1)/\k'≠k
  ·rw [if_pos q,if_pos q]
   have:=sg.lt k' q.1
   rw [o4 _ _ .(0),o3 _ _ .(0),o2 _ _ .(0),o1 _ _ .(0),sg.tr k' q.1 x hx,decide_eq_true_eq]
  ·rw [if_neg q,if_neg q]
   cases e:f k' with
   | true =>
    rw [if_pos rfl,o4 _ _ .(0),o3 _ _ .(0),t2 x hx,K0h,decide_eq_true_eq]
   | false =>
    rw [if_neg .(1),t4 x hx,K0h,decide_eq_true_eq,K4o]
def z1o (n:Nat) (bl:Bl):List Nat:=(K00 n).map λx=>(v5 (bl.map (·.1))).idxOf (keyOf bl x)
theorem z8t (b:PB n bl) {x y:Nat}(hx:x<n) (hy:y<n):rowAt (z1o n bl) x=rowAt (z1o n bl) y↔keyOf bl x=keyOf bl y:=by
 have a:∀x,x<n->rowAt (z1o n bl) x=(v5 (bl.map (·.1))).idxOf (keyOf bl x):=λx hx=>z32 (by unfold z1o;rw [K07,K1n hx];rfl)
 rw [a x hx,a y hy]
 have mx:keyOf bl x∈v5 (bl.map (·.1)):=sortN_mem.mpr (b.keyin hx)
 have my:keyOf bl y∈v5 (bl.map (·.1)):=sortN_mem.mpr (b.keyin hy)
 constructor
 ·intro e
  have a:=z2L mx
  rw [e,z2L my] at a
  exact (K10 a).symm
 ·intro e;rw [e]
theorem zd9 (b:PB n bl) {x:Nat}(hx:x<n):(z1o n bl).idxOf (rowAt (z1o n bl) x)=keyOf bl x:=by
 have ln:(z1o n bl).length=n:=by unfold z1o;simp
 have kx:=K26 (b.keyle hx) hx
 have self:=b.keyself (b.keyin hx)
 have m:rowAt (z1o n bl) x∈z1o n bl:=K0d (z16 (by rw [ln];exact hx))
 have il:=K1v.mpr m
 have g:=K45 il
 have e1:rowAt (z1o n bl) ((z1o n bl).idxOf (rowAt (z1o n bl) x))=rowAt (z1o n bl) x:=z32 (by rw [K6 il,g])
 rw [ln] at il
 have e2:=(z8t b il hx).mp e1
 have le:=b.keyle il
 have e3:rowAt (z1o n bl) (keyOf bl x)=rowAt (z1o n bl) x:=(z8t b kx hx).mpr self
 have up:=z4S (l:=z1o n bl) (i:=keyOf bl x) (x:=rowAt (z1o n bl) x) (by rw [z16 (by rw [ln];exact kx),e3])
 omega
end
theorem zk7 {kvs:List (Key×D)}{k k':Key}{v:D}:lkD (ptD kvs k v) k'=if k'=k then some v else lkD kvs k':=by
 unfold ptD
 split
 ·rename_i a
  have go:∀kvs:List (Key×D),(kvs.any λkv=>decide (kv.1=k))=true->lkD (kvs.map λkv=>if kv.1=k then (kv.1,v) else kv) k'=if k'=k then some v else lkD kvs k':=by
   intro kvs
   induction kvs with
   | nil=>intro h;cases h
   | cons p r ih =>
    intro h
    by_cases e:p.1=k
    ·by_cases e2:k'=k
     ·simp [lkD,e,e2]
     ·have ne:¬ p.1=k':=λq=>e2 (q.symm.trans e)
      have ne2:¬ k=k':=λq=>e2 q.symm
      rw [if_neg e2]
      have keep:∀r:List (Key×D),lkD (r.map λkv=>if kv.1=k then (kv.1,v) else kv) k'=lkD r k':=by
       intro r
       induction r with
       | nil=>rfl
       | cons q r ih =>
        by_cases eq:q.1=k
        ·have:¬ q.1=k':=λz=>e2 (z.symm.trans eq)
         simp only [lkD,K0q,K1h,if_pos eq,decide_eq_false this] at ih ⊢
         exact ih
        ·by_cases e3:q.1=k'
         ·simp [lkD,K1h,eq,e3,e2]
         ·simp only [lkD,K0q,K1h,if_neg eq,decide_eq_false e3] at ih ⊢
          exact ih
      exact keep _
    ·have h':(r.any λkv=>decide (kv.1=k))=true:=by
      rw [K2d,.(p) e,K50] at h
      exact h
     have ih:=ih h'
     by_cases e3:p.1=k'
     ·have:¬ k'=k:=λz=>e (e3.trans z)
      simp [lkD,K1h,e,e3,this]
     ·simp only [lkD,K0q,K1h,if_neg e,decide_eq_false e3] at ih ⊢
      exact ih
  exact go kvs a
 ·rename_i a
  unfold lkD
  rw [List.find?_append]
  by_cases e:k'=k
  ·subst e
   have:kvs.find? (λkv=>decide (kv.1=k'))=none:=by
    rw [K46]
    intro p hp z
    exact a (K1p.mpr ⟨p,hp,z⟩)
   rw [this,if_pos rfl]
   simp
  ·rw [if_neg e]
   have:¬ k=k':=λz=>e z.symm
   simp [this]
theorem zC1 {kvs:List (Key×D)}{k:Key}{v:D}:(ptD kvs k v).length≤kvs.length+1:=by
 unfold ptD
 split<;>simp
theorem zH2 {bl:Bl}{k:Nat}(h:k∉bl.map (·.1)):lkD (kvB bl) (.inl (k:Int))=none:=by
 unfold lkD
 rw [Option.map_eq_none_iff,K46]
 intro p hp z
 unfold kvB at hp
 obtain ⟨q,hq,rfl⟩:=K09.mp hp
 exact h (K09.mpr ⟨q,hq,inl_inj.mp (of_decide_eq_true z)⟩)
theorem Dic.inD {h:AH}{b:Nat}{bl:Bl}(d:Dic h b bl) {k:Nat}{neg:Bool}:fInD neg (.int (k:Nat)) (.ref b) h=.ok (.bl (decide (k∈bl.map (·.1)) != neg)) h:=by
 have g:getK b h=.ok (kvB bl) h:=by rcases d with d|d<;>(unfold getK;rw [d])
 unfold fInD
 show (getK b >>= _) h=_
 rw [M.bind_ok g]
 show Res.ok (D.bl ((lkD (kvB bl) (.inl (k:Int))).isSome != neg)) h=_
 by_cases q:k∈bl.map (·.1)
 ·rw [lkB q,.(o) q];rfl
 ·rw [zH2 q,.(p) q];rfl
theorem z8p {h:AH}{e:Nat}{kvs:List (Key×D)}{d y:D}{k:Key}(he:h[e]?=some (.dK kvs)) (hy:keyD y=some k) (hk:lkD kvs k=some d):z1A (.ref e) y h=.ok d h:=by
 have g:getK e h=.ok kvs h:=by unfold getK;rw [he]
 unfold z1A
 show (getK e >>= _) h=_
 rw [M.bind_ok g,hy]
 dsimp only
 rw [hk]
 rfl
theorem zu6 {k:G->M Bool}{ma mb:G->M D}{γ:G}{h h1:AH}(b:Bool) {r:Res D}(e:k γ h=.ok b h1) (e2':(if b=true then ma γ h1 else mb γ h1)=r):eIf k ma mb γ h=r:=by
 unfold eIf
 rw [M.bind_ok e]
 cases b<;>exact e2'
theorem tk_h {ma mb:G->M D}{γ:G}{h:AH}{i:Nat}{xs:List D}{c:Nat}(e1:ma γ h=.ok (.ref i) h) (e2':mb γ h=.ok (.int (c:Nat)) h) (e:h[i]?=.(l xs)) (hl:xs.length≤1000):z1V ma z3Y (z3r mb) γ h=.ok .(r) (h++[.lst (xs.take c)]):=by
 have g:getL i h=.ok xs h:=by unfold getL;rw [e]
 have e3:z3r mb γ h=.ok (some (c:Int)) h:=by unfold z3r;rw [M.bind_ok e2'];rfl
 unfold z1V
 rw [M.bind_ok e1,M.bind_ok (show z3Y γ h=.ok none h from rfl),M.bind_ok e3]
 show (getL i >>= λxs=>newL (cutD xs none (some (c:Int)))) h=_
 rw [M.bind_ok g,zC7]
 exact z8a (by rw [K13];omega)
theorem zD0 {me mi:G->M D}{mt:G->M Out}{γ:G}{h:AH}{a i:Nat}{kvs:List (Key×D)}{v y:D}{k:Key}{Q:Out->AH->Prop}(ev:me γ h=.ok v h) (ea:γ[a]?=some (.(r i))) (ei:mi γ h=.ok y h) (hy:keyD y=some k) (e:h[i]?=some (.dK kvs)) (hl:kvs.length<1000000) (z:W (mt γ) (h.set i (.dK (ptD kvs k v))) Q):W (Z0 (sAsg me (gDx (eVar a) mi)) mt γ) h Q:=by
 rw [w_cons]
 unfold sAsg
 rw [Z6]
 refine W_of ev ?_
 rw [Z6]
 have put:gDx (eVar a) mi v γ h=.ok γ (h.set i (.dK (ptD kvs k v))):=by
  unfold gDx
  have e3:z4Q (.ref i) y v h=.ok () (h.set i (.dK (ptD kvs k v))):=by
   unfold z4Q
   dsimp only
   rw [hy]
   dsimp only
   rw [e]
   dsimp only
   rw [if_pos (K0j hl .(1))]
  rw [M.bind_ok (Z1 ea),M.bind_ok ei,M.bind_ok e3]
  rfl
 refine W_of put ?_
 rw [W_pure]
 exact z
theorem z6D {l:AH}{i:Nat}{o:O}(e:l[i]?=some o):l.set i o=l:=by
 refine K3q λk=>?_
 by_cases q:i=k
 ·subst q
  rw [K0v (K2.mp e).1,e]
 ·rw [K0e q]
theorem zH7 {mo ma:G->M D}{γ:G}{h:AH}{x:Nat}{l:List Nat}(eo:mo γ h=.ok (.tup (stD l)) h) (ea:ma γ h=.ok (.int x) h) (hx:x∈l) (hl:l.length≤100000):orE (eM1 z2J mo ma) (z2z mo ma) γ h=.ok (.int (l.idxOf x:Nat)) h:=by
 have e1:eM1 z2J mo ma γ h=.bad:=by
  show (mo γ >>= λo=>z2h o >>= λn=>ma γ >>= λy=>z2J n y) h=_
  rw [M.bind_ok eo]
  rfl
 have e2':z2z mo ma γ h=.ok (.int (l.idxOf x:Nat)) h:=by
  unfold z2z
  rw [M.bind_ok eo]
  dsimp only
  rw [M.bind_ok ea,zJ9 hx hl]
  rfl
 unfold orE orM
 rw [e1]
 exact e2'
abbrev ryD (R:List Sy):List D:=R.map Sy.d
theorem z4K {R:List Sy}{r:Sy}:ryD (R++[r])=ryD R++[r.d]:=by unfold ryD;rw [K36];rfl
theorem z2c {R:List Sy}:(ryD R).length=R.length:=K02 _
theorem zI6 {n:Nat}(r:Sy):Y0 n r.d=true:=by cases r<;>rfl
theorem zm8 {n:Nat}(R:List Sy):J4 n (ryD R)=true:=z1f λd hd=>by
 obtain ⟨r,_,rfl⟩:=K09.mp hd
 exact zI6 r
theorem zt3 {xs:List D}{v:D}(l1:1≤xs.length) (e:xs[xs.length - 1]?=some v):atI xs (-1)=some v:=by
 have h1:xs.length - 1<xs.length:=by omega
 have ev:=(K2.mp e).2
 have e2:xs.take (xs.length - 1)++[xs[xs.length - 1]]=xs:=by rw [← K2r h1,K8h .(0)]
 rw [ev] at e2
 rw [← e2]
 exact zj9 _ _
abbrev Mx (K:K0) (mg:Str->Option Value) (x:Str):Prop:=∀v,K1u K K1l x=some (some v)->mg x=some v
abbrev Bnd (st:Stmt) (x:Str) (ps:List Str):Prop:=∀(kV doc pm:Value) (an:Option Addr) (cdv ct:Value) (us:List Value),us.length=ps.length->bindArgs (K3n x x (z27 st) (z0b st) (j6 st) .none kV doc pm an cdv ct) ⟨us,[]⟩=pure (ps.zip us)
def scB (N P:List Str) (sc:Scope):Bool:=sc.kind==.function&&!sc.isCoroutine&&!sc.isGenerator&&decide N.Nodup&&decide (P.length≤N.length)&&P.all (λx=>sc.names.lookup x==some .local||sc.names.lookup x==some .cell)&&sc.names.all λy=>y.2 != .free
theorem zi5 {N:List Str}{n:Nat}{sc:Scope}(h:scB N (N.take n) sc=true):FnScope N (N.take n) sc:=by
 unfold scB at h
 simp only [K0h,K4o,decide_eq_true_eq] at h
 obtain ⟨⟨⟨⟨⟨⟨h1,h2⟩,h3⟩,h4⟩,h5⟩,h6⟩,h7⟩:=h
 refine ⟨by simpa using h1,h2,h3,h4,by simp,λx hx=>?_,λy hy=>?_⟩
 ·have:=K1s.mp h6 x hx
  rw [K2f] at this
  rcases this with z|z
  ·exact .inl (by simpa using z)
  ·exact .inr (by simpa using z)
 ·have:=K1s.mp h7 y hy
  simpa using this
section
variable {P:K0m}{w:World}{K:K0}{mg:Str->Option Value}{base:Heap}{x:Str}{st:Stmt}{k n:Nat}
theorem dfN (N:List Str) (mb:G->M Out) (T:DefAt K x st) (mx:Mx K mg x) (hs:scB N (N.take n) (j6 st)=true) (hn:(N.take n).length=n) (hb:Bnd st x (N.take n))
 (body:∀{f:Addr} {cdv:Value} {A:Around} {outer:List Env} {s:Shared} {H:Hp} {E:XK},K2y K cdv x=true->Room k (A.deeper (envOfC x (j6 st) .(3) f cdv))->N.Nodup ->
  SB (cxOf CX0 P w K mg base N x (j6 st) f cdv A outer s H E).nox EX0 (z0b st) mb):Fn P w K mg base (k+1) x n (runF N.length mb):=by
 obtain ⟨f,fd,hf,F⟩:=T
 exact zL3 F (zi5 hs) (F.binds hb) (mx _ hf) hn λ_ _ _ _ _ _ hcd hr=>body hcd hr (zi5 hs).nd
theorem dfC (N:List Str) (mb:G->M Out) (T:DefAt K x st) (mx:Mx K mg x) (hs:scB N (N.take n) (j6 st)=true) (hn:(N.take n).length=n) (hb:Bnd st x (N.take n))
 (body:∀{f:Addr} {cdv:Value} {A:Around} {outer:List Env} {s:Shared} {H:Hp} {E:XK},K2y K cdv x=true->Room k (A.deeper (envOfC x (j6 st) .(3) f cdv))->N.Nodup ->
  SB (cxOf CX0 P w K mg base N x (j6 st) f cdv A outer s H E).nox EX0 (z0b st) mb):Fn P w K mg base (k+1) x n λds=>cln (runF N.length mb ds):=Fn.cln (dfN N mb T mx hs hn hb body)
theorem dfX (N:List Str) (mb:G->M Out) (T:DefAt K x st) (mx:Mx K mg x) (hs:scB N (N.take n) (j6 st)=true) (hn:(N.take n).length=n) (hb:Bnd st x (N.take n))
 (body:∀{f:Addr} {cdv:Value} {A:Around} {outer:List Env} {s:Shared} {H:Hp} {E:XK},K2y K cdv x=true->Room k (A.deeper (envOfC x (j6 st) .(3) f cdv))->N.Nodup ->
  SB (cxOf (CXE P w base) P w K mg base N x (j6 st) f cdv A outer s H E) (EXof K E) (z0b st) mb):FnX P w K mg base (k+1) x n (runF N.length mb):=by
 obtain ⟨f,fd,hf,F⟩:=T
 exact zF5 F (zi5 hs) (F.binds hb) (mx _ hf) hn λ_ _ _ _ _ _ hcd hr=>body hcd hr (zi5 hs).nd
end
variable {P:K0m}{w:World}{K:K0}{mg:Str->Option Value}{base:Heap}
def top (i:Nat):Stmt:=PySem.Challenge.pw_fairtrees_k69_partings.main.body.getD i (.Pass ⟨0,0,0,0⟩)
def h_AreAlike:Str->Bool:=λc=>c=="AreAlike"
def x_NoPaper:Str->Option Bool:=λc=>if c = "AreAlike" then some false else none
def x_NoSaying:Str->Option Bool:=λc=>if c = "AreAlike" then some false else none
def x_TooMany:Str->Option Bool:=λc=>if c = "AreAlike" then some false else none
def x_TreeError:Str->Option Bool:=λc=>if c = "AreAlike" then some true else none
def x_ValueError:Str->Option Bool:=λc=>if c = "AreAlike" then some true else none
noncomputable def z4D:G->M Out :=
 (Z0 (sRet (eOr (e2 (fEq false) (eVar 2) (λ_=>pure (.str ""))) (e2 (fIn false) (eVar 2) (e2 fIx (e2 fIx .(k) .(c)) .(s))))) bNil)
noncomputable def z3K:List D->M D:=λds=>cln (runF 3 z4D ds)
theorem ok_bears (T:DefAt K "bears" (top 7)) (mx:Mx K mg "bears"):Fn P w K mg base 1 "bears" 3 z3K :=
 dfC ["machine","standing","name"] z4D T mx .(2) rfl .(d) λhcd hr nd =>
  (z8 (Y7 (zK2 (se_c z1Q (z0 2) j9) (z5X (se_c z9S (z0 2) (Z9 .(D) (z0 1)))))) Z5)
noncomputable def z06:G->M Out :=
 (Z0 (sRet (z5i .(7) (eRng true (Z8 fLen (z9 (e2 fIx .(k) .(7)) aNil))))) bNil)
noncomputable def Y9:List D->M D:=λds=>cln (runF 1 z06 ds)
theorem ok_first_blocks (T:DefAt K "first_blocks" (top 10)) (mx:Mx K mg "first_blocks") (F00:mg "len" = none) (F02:mg "range" = none) (F01:mg "tuple" = none):Fn P w K mg base 1 "first_blocks" 1 Y9 :=
 dfC ["machine"] z06 T mx .(2) rfl .(w) λhcd hr nd =>
  (z8 (Y7 (z7h Z3 (zu3 rfl rfl F01 rfl F02 (Y1 rfl F00 (z6 .(D) Z2))))) Z5)
noncomputable def z2b:G->M Out :=
 (Z0 (sIf (cVal (eIsi "str" (eVar 3))) (Z0 (sRet (eFn 3 z3K (z9 .(k) (z9 (eVar 2) (z9 (eVar 3) aNil))))) bNil) bNil) (Z0 (sRet (clE (Z8 (fAll true) (z9 (x9 [some 1,some 3,none] (z0f (e2 fIx (e2 fIx .(k) .(7)) (eVar 2))) (gN 2) (λ_=>pure true) (e2 (fIn false) (eVar 2) (e2 z1A .(k) .(s)))) aNil)))) bNil))
noncomputable def z14:List D->M D:=λds=>cln (runF 4 z2b ds)
theorem ok_belongs (T:DefAt K "belongs" (top 13)) (mx:Mx K mg "belongs") (F0m:mg "any" = none) (F04:mg "isinstance" = none) (F07:mg "str" = none) (F0n:Fn P w K mg base 1 "bears" 3 z3K):Fn P w K mg base 2 "belongs" 4 z14 :=
 dfC ["machine","blocks","standing","by"] z2b T mx .(2) rfl (λ_ _ _ _ _ _ us hl=>(by obtain ⟨_,_,_,_,rfl⟩:=ar4 hl;rfl)) λhcd hr nd =>
  (z8 (s_if (z0E (z3S rfl F04 rfl F07 .(2) .(1) (z0 3))) (z8 (Y7 (Z7 F0n .(F) rfl (z6 (z0 0) (z6 (z0 2) (z6 (z0 3) Z2))))) Z5) Z5) (z8 (Y7 (z1t (zG5 rfl rfl F0m (z6 (J9 (N':=["blocks","by","other"]) (cap:=[some 1,some 3,none]) rfl .(9) (z08 (Z9 .(D) (z0 2))) (λ_ _ _ _=>(j7 2 (show (["blocks","by","other"]:List Str).Nodup by decide +kernel))) (λ_ _ _ _=>v3) (λ_ _ _ _=>(se_c z9S (z0 2) (z1j (z2V hr) (z0 0) (z0 1))))) Z2)))) Z5))
noncomputable def z29:G->M Out :=
 (Z0 (sAsg (clE (Z8 v8 (z9 (x9 [some 0,some 1,some 3,none] (z0f (eVar 2)) (gN 3) (cVal (eFn 4 z14 (z9 .(k) (z9 .(s) (z9 (eVar 3) (z9 (eVar 2) aNil)))))) (eVar 3)) aNil))) (gN 4)) (Z0 (sAsg (clE (Z8 v8 (z9 (x9 [some 4,none] (z0f (eVar 2)) (gN 1) (λγ=>do let d ← e2 (fIn true) .(s) .(k) γ;asB d) .(s)) aNil))) (gN 5)) (Z0 (sRet (x9 [none] (z0f (eTup (z9 (eVar 4) .(u)))) (gN 0) (λγ=>do let d ← e2 fGt (Z8 fLen (z9 .(k) aNil)) .(7) γ;asB d) .(k))) bNil)))
noncomputable def z1H:List D->M D:=λds=>cln (runF 6 z29 ds)
theorem ok_parted (T:DefAt K "parted" (top 12)) (mx:Mx K mg "parted") (F00:mg "len" = none) (F01:mg "tuple" = none) (F0d:Fn P w K mg base 2 "belongs" 4 z14):Fn P w K mg base 3 "parted" 4 z1H :=
 dfC ["machine","blocks","block","by","yes","no"] z29 T mx .(2) rfl (λ_ _ _ _ _ _ us hl=>(by obtain ⟨_,_,_,_,rfl⟩:=ar4 hl;rfl)) λhcd hr nd =>
  (z8 (y9 4 nd (z1t (z02 rfl F01 (z6 (J9 (N':=["machine","blocks","by","standing"]) (cap:=[some 0,some 1,some 3,none]) rfl .(9) (z08 (z0 2)) (λ_ _ _ _=>(j7 3 (show (["machine","blocks","by","standing"]:List Str).Nodup by decide +kernel))) (λ_ _ _ _=>(z0P (z0E (Z7 F0d .(F) rfl (z6 (z0 0) (z6 (z0 1) (z6 (z0 3) (z6 (z0 2) Z2)))))))) (λ_ _ _ _=>(z0 3))) Z2)))) (z8 (y9 5 nd (z1t (z02 rfl F01 (z6 (J9 (N':=["yes","standing"]) (cap:=[some 4,none]) rfl .(9) (z08 (z0 2)) (λ_ _ _ _=>(j7 1 (show (["yes","standing"]:List Str).Nodup by decide +kernel))) (λ_ _ _ _=>(z0P (sc_c z4L (z0 1) (z0 0)))) (λ_ _ _ _=>(z0 1))) Z2)))) (z8 (Y7 (J9 (N':=["part"]) (cap:=[none]) rfl .(9) (z08 (z11 (z6 (z0 4) (z6 (z0 5) Z2)))) (λ_ _ _ _=>(j7 0 (show (["part"]:List Str).Nodup by decide +kernel))) (λ_ _ _ _=>(z0P (sc_c zc5 (Y1 rfl F00 (z6 (z0 0) Z2)) Z3))) (λ_ _ _ _=>(z0 0)))) Z5)))
noncomputable def z0L:G->M Out :=
 (Z0 (sFor (iDic .(s)) (gN 2) (Z0 (sAsg (e2 z1A .(s) (eVar 2)) (gN 3)) (Z0 (zn1 4 [some 0,none,none] (z0f (eVar 3)) (gN 1) (z0f (e2 fIx (e2 fIx .(k) .(c)) .(s))) (gN 2) (λ_=>pure true) (eVar 2)) (Z0 (sFor (x6 (eLst (z9q (eVar 4) (z4b .(s) aNil)))) (gN 5) (Z0 (sIf (λγ=>do let d ← e2 (fEq false) (Z8 fLen (z9 (eFn 4 z1H (z9 .(k) (z9 .(s) (z9 (eVar 3) .(u))))) aNil)) (λ_=>pure (.int 2)) γ;asB d) (Z0 (sRet (eTup (z9 (eVar 2) .(u)))) bNil) bNil) bNil)) bNil)))) (Z0 (sRet (λ_=>pure .non)) bNil))
noncomputable def z1d:List D->M D:=λds=>cln (runF 6 z0L ds)
theorem ok_next_cut (T:DefAt K "next_cut" (top 11)) (mx:Mx K mg "next_cut") (F00:mg "len" = none) (F0e:Fn P w K mg base 3 "parted" 4 z1H):Fn P w K mg base 4 "next_cut" 2 z1d :=
 dfC ["machine","blocks","least","block","names","by"] z0L T mx .(2) rfl .(R) λhcd hr nd =>
  (z8 (z1v K18 rfl (z9J (z0 1)) (y6 2 nd) (z8 (y9 3 nd (z1j (z2V hr) (z0 1) (z0 2))) (z8 (zz6 4 (N':=["machine","standing","name"]) (cap:=[some 0,none,none]) rfl .(9) (z08 (z0 3)) (λ_ _ _ _=>(j7 1 (show (["machine","standing","name"]:List Str).Nodup by decide +kernel))) (λ_ _ _ _=>(z08 (Z9 .(D) (z0 1)))) (λ_ _ _ _=>(j7 2 (show (["machine","standing","name"]:List Str).Nodup by decide +kernel))) (λ_ _ _ _=>v3) (λ_ _ _ _=>(z0 2)) nd) (z8 (z1v K18 rfl (x4 (z0x (zy6 (z0 4) (zj5 rfl (z0 1) Z2)))) (y6 5 nd) (z8 (s_if (sc_c z1Q (Y1 rfl F00 (z6 (Z7 F0e .(F) rfl (z6 (z0 0) (z6 (z0 1) (z6 (z0 3) (z6 (z0 5) Z2))))) Z2)) Z3) (z8 (Y7 (z11 (z6 (z0 2) (z6 (z0 5) Z2)))) Z5) Z5) Z5)) Z5)))) (z8 (Y7 z3s) Z5))
noncomputable def z1L:G->M Out :=
 (Z0 (sAsg (eVar 2) (gT 2 (z0Z (gN 3) (z0Z (gN 4) z5I)))) (Z0 (z6m 5 [some 1,none] (iDic .(s)) (gN 1) (λ_=>pure true) .(s) (e2 z1A .(k) .(s))) (Z0 (sFor (x6 (eFn 4 z1H (z9 .(k) (z9 .(s) (z9 (e2 z1A .(s) (eVar 3)) (z9 (eVar 4) aNil)))))) (gN 6) (Z0 (sAsg (eVar 6) (gDx (eVar 5) (e2 fIx (eVar 6) .(7)))) bNil)) (Z0 (sRet (eVar 5)) bNil))))
noncomputable def z1J:List D->M D:=λds=>cln (runF 7 z1L ds)
theorem ok_cut_up (T:DefAt K "cut_up" (top 14)) (mx:Mx K mg "cut_up") (F0e:Fn P w K mg base 3 "parted" 4 z1H):Fn P w K mg base 4 "cut_up" 3 z1J :=
 dfC ["machine","blocks","cut","least","by","told","part"] z1L T mx .(2) rfl .(d) λhcd hr nd =>
  (z8 (z3Z (z0 2) (z63 rfl (z0w (y6 3 nd) (z0w (y6 4 nd) z3u)))) (z8 (zw6 5 (N':=["blocks","one"]) (cap:=[some 1,none]) rfl .(9) (z9J (z0 1)) (λ_ _ _ _=>(j7 1 (show (["blocks","one"]:List Str).Nodup by decide +kernel))) (λ_ _ _ _=>v3) (λ_ _ _ _=>(z0 1)) (λ_ _ _ _=>(z1j (z2V hr) (z0 0) (z0 1))) nd) (z8 (z1v K18 rfl (x4 (Z7 F0e .(F) rfl (z6 (z0 0) (z6 (z0 1) (z6 (z1j (z2V hr) (z0 1) (z0 3)) (z6 (z0 4) Z2)))))) (y6 6 nd) (z8 (z3Z (z0 6) (zJ3 (z2V hr) (z0 5) (Z9 (z0 6) Z3))) Z5)) (z8 (Y7 (z0 5)) Z5))))
noncomputable def z28:G->M Out :=
 (Z0 (sAsg (z4F [some 0,none,none,none] (z7x (Z8 z0h (z9 .(k) aNil))) (gT 2 (z0Z (gN 1) (z0Z (gN 2) z5I))) (z0f (e2 z1A .(k) (eVar 2))) (gN 3) (λ_=>pure true) (eVar 3) .(s)) (gN 1)) (Z0 (sRet (clE (Z8 v8 (z9 (x9 [some 1,none] (x6 (Z8 z0h (z9 .(s) aNil))) (gN 1) (λ_=>pure true) (e2 z1A .(k) .(s))) aNil)))) bNil))
noncomputable def z2Y:List D->M D:=λds=>cln (runF 2 z28 ds)
theorem ok_row_of (T:DefAt K "row_of" (top 15)) (mx:Mx K mg "row_of") (F0o:mg "enumerate" = none) (F05:mg "sorted" = none) (F01:mg "tuple" = none):Fn P w K mg base 1 "row_of" 1 z2Y :=
 dfC ["blocks","homes"] z28 T mx .(2) rfl .(w) λhcd hr nd =>
  (z8 (y9 1 nd (z9Z (N':=["blocks","home","least","standing"]) (cap:=[some 0,none,none,none]) rfl .(9) (zj8 rfl rfl F0o (z4a rfl rfl F05 (z6 (z0 0) Z2))) (λ_ _ _ _=>(zt2 rfl (z5n (j7 1 (show (["blocks","home","least","standing"]:List Str).Nodup by decide +kernel)) (z5n (j7 2 (show (["blocks","home","least","standing"]:List Str).Nodup by decide +kernel)) zg8)))) (λ_ _ _ _=>(z08 (z1j (z2V hr) (z0 0) (z0 2)))) (λ_ _ _ _=>(j7 3 (show (["blocks","home","least","standing"]:List Str).Nodup by decide +kernel))) (λ_ _ _ _=>v3) (λ_ _ _ _=>(z0 3)) (λ_ _ _ _=>(z0 1)))) (z8 (Y7 (z1t (z02 rfl F01 (z6 (J9 (N':=["homes","standing"]) (cap:=[some 1,none]) rfl .(9) (x4 (z4a rfl rfl F05 (z6 (z0 1) Z2))) (λ_ _ _ _=>(j7 1 (show (["homes","standing"]:List Str).Nodup by decide +kernel))) (λ_ _ _ _=>v3) (λ_ _ _ _=>(z1j (z2V hr) (z0 0) (z0 1)))) Z2)))) Z5))
noncomputable def z18:G->M Out :=
 (Z0 (sAsg (eFn 1 Y9 (z9 .(k) aNil)) (gN 1)) (Z0 (sAsg (eLst aNil) (gN 2)) (Z0 (sAsg (eFn 2 z1d (z9 .(k) (z9 .(s) aNil))) (gN 3)) (Z0 (z1W (λγ=>do let d ← e2 (fIs true) (eVar 3) (λ_=>pure .non) γ;asB d) (Z0 (z0e (eM1 j8 (eVar 2) (eVar 3))) (Z0 (sAsg (eFn 3 z1J (z9 .(k) (z9 .(s) (z9 (eVar 3) aNil)))) (gN 1)) (Z0 (sAsg (eFn 2 z1d (z9 .(k) (z9 .(s) aNil))) (gN 3)) bNil))) 1000000) (Z0 (sRet (eTup (z9 (eFn 1 z2Y (z9 .(s) aNil)) (z9 (Z8 v8 (z9 (eVar 2) aNil)) aNil)))) bNil)))))
noncomputable def z17:List D->M D:=λds=>cln (runF 4 z18 ds)
theorem ok_classes (T:DefAt K "classes" (top 9)) (mx:Mx K mg "classes") (F01:mg "tuple" = none) (F0f:Fn P w K mg base 4 "cut_up" 3 z1J) (F0g:Fn P w K mg base 1 "first_blocks" 1 Y9) (F0k:Fn P w K mg base 4 "next_cut" 2 z1d) (F0p:Fn P w K mg base 1 "row_of" 1 z2Y):Fn P w K mg base 5 "classes" 1 z17 :=
 dfC ["machine","blocks","cuts","cut"] z18 T mx .(2) rfl .(w) λhcd hr nd =>
  (z8 (y9 1 nd (Z7 F0g .(F) rfl (z6 (z0 0) Z2))) (z8 (y9 2 nd (z0x Z2)) (z8 (y9 3 nd (Z7 F0k .(F) rfl (z6 (z0 0) (z6 (z0 1) Z2)))) (z8 (zu2 1000000 K18 (sc_c zh1 (z0 3) z3s) (z8 (z0o (J2 (z0 2) (z0 3))) (z8 (y9 1 nd (Z7 F0f .(F) rfl (z6 (z0 0) (z6 (z0 1) (z6 (z0 3) Z2))))) (z8 (y9 3 nd (Z7 F0k .(F) rfl (z6 (z0 0) (z6 (z0 1) Z2)))) Z5)))) (z8 (Y7 (z11 (z6 (Z7 F0p .(F) rfl (z6 (z0 1) Z2)) (z6 (z02 rfl F01 (z6 (z0 2) Z2)) Z2)))) Z5)))))
noncomputable def z4W:G->M Out :=
 (Z0 (sAsg (e2 fIx (eFn 1 z17 (z9 .(k) aNil)) .(7)) (gN 3)) (Z0 (sRet (e2 (fEqX false) (e2 fIx (eVar 3) .(s)) (e2 fIx (eVar 3) (eVar 2)))) bNil))
noncomputable def z4R:List D->M D:=λds=>cln (runF 4 z4W ds)
theorem ok_alike (T:DefAt K "alike" (top 16)) (mx:Mx K mg "alike") (F0h:Fn P w K mg base 5 "classes" 1 z17):Fn P w K mg base 6 "alike" 3 z4R :=
 dfC ["machine","one","other","row"] z4W T mx .(2) rfl .(d) λhcd hr nd =>
  (z8 (y9 3 nd (Z9 (Z7 F0h .(F) rfl (z6 (z0 0) Z2)) Z3)) (z8 (Y7 (se_c (z44 (hu30 hr)) (Z9 (z0 3) (z0 1)) (Z9 (z0 3) (z0 2)))) Z5))
noncomputable def z0O:G->M Out :=
 (Z0 (sAsg (e2 z1A .(s) (eVar 2)) (gN 4)) (Z0 (sAsg (Z8 fLen (z9 .(k) aNil)) (gN 5)) (Z0 (z0e (eM1 j8 .(k) (eIf (cVal (eIsi "str" (eVar 3))) (eTup (z9 (λ_=>pure (.str "mark")) (z9 (eVar 3) aNil))) (eTup (z9 (λ_=>pure (.str "step")) (z9 (e2 z1A .(s) (eVar 3)) aNil)))))) (Z0 (z0e (eM1 j8 .(k) (eTup (z9 (λ_=>pure (.str "and")) (z9 (eVar 4) .(u)))))) (Z0 (z0e (eM1 j8 .(k) (eTup (z9 (λ_=>pure (.str "not")) .(u))))) (Z0 (z0e (eM1 j8 .(k) (eTup (z9 (λ_=>pure (.str "and")) (z9 (eVar 4) (z9 (e2 fAdd (eVar 5) (λ_=>pure (.int 2))) aNil)))))) (Z0 (sRet (eTup (z9 (e2 fAdd (eVar 5) .(c)) (z9 (e2 fAdd (eVar 5) (λ_=>pure (.int 3))) aNil)))) bNil)))))))
noncomputable def z1i:List D->M D:=λds=>cln (runF 6 z0O ds)
theorem ok_write_cut (T:DefAt K "write_cut" (top 19)) (mx:Mx K mg "write_cut") (F04:mg "isinstance" = none) (F00:mg "len" = none) (F07:mg "str" = none):Fn P w K mg base 1 "write_cut" 4 z1i :=
 dfC ["rows","numbers","least","by","whole","first"] z0O T mx .(2) rfl (λ_ _ _ _ _ _ us hl=>(by obtain ⟨_,_,_,_,rfl⟩:=ar4 hl;rfl)) λhcd hr nd =>
  (z8 (y9 4 nd (z1j (z2V hr) (z0 1) (z0 2))) (z8 (y9 5 nd (Y1 rfl F00 (z6 (z0 0) Z2))) (z8 (z0o (J2 (z0 0) (zI0 (z0E (z3S rfl F04 rfl F07 .(2) .(1) (z0 3))) (z11 (z6 j9 (z6 (z0 3) Z2))) (z11 (z6 j9 (z6 (z1j (z2V hr) (z0 1) (z0 3)) Z2)))))) (z8 (z0o (J2 (z0 0) (z11 (z6 j9 (z6 (z0 4) (z6 (z0 5) Z2)))))) (z8 (z0o (J2 (z0 0) (z11 (z6 j9 (z6 (z0 5) Z2))))) (z8 (z0o (J2 (z0 0) (z11 (z6 j9 (z6 (z0 4) (z6 (z0B (z0 5) Z3) Z2)))))) (z8 (Y7 (z11 (z6 (z0B (z0 5) Z3) (z6 (z0B (z0 5) Z3) Z2)))) Z5)))))))
noncomputable def z0s:G->M Out :=
 (Z0 (sAsg (eFn 1 z17 (z9 .(k) aNil)) (gT 2 (z0Z (gN 2) (z0Z (gN 3) z5I)))) (Z0 (sAsg (eFn 1 Y9 (z9 .(k) aNil)) (gN 4)) (Z0 (sAsg (eLst (z9 (eTup (z9 (λ_=>pure (.str "yes")) aNil)) aNil)) (gN 5)) (Z0 (sAsg (z5i .(7) .(7)) (gN 6)) (Z0 (sFor (z0f (eVar 3)) (gN 7) (Z0 (sAsg (eVar 7) (gT 2 (z0Z (gN 8) (z0Z (gN 9) z5I)))) (Z0 (sAsg (eFn 4 z1i (z9 (eVar 5) (z9 (eVar 6) (z9 (eVar 8) (z9 (eVar 9) aNil))))) (gT 2 (z0Z (gN 10) (z0Z (gN 11) z5I)))) (Z0 (sAsg (eFn 3 z1J (z9 .(k) (z9 (eVar 4) (z9 (eVar 7) aNil)))) (gN 12)) (Z0 (sFor (iDic (eVar 12)) (gN 13) (Z0 (sIf (cOr (λγ=>do let d ← e2 (fInD true) (eVar 13) (eVar 4) γ;asB d) (λγ=>do let d ← e2 (fEqX false) (eVar 13) (eVar 8) γ;asB d)) (Z0 (sAsg (eIf (cVal (eFn 4 z14 (z9 .(k) (z9 (eVar 4) (z9 (eVar 13) (z9 (eVar 9) aNil)))))) (eVar 10) (eVar 11)) (gDx (eVar 6) (eVar 13))) bNil) bNil) bNil)) (Z0 (sAsg (eVar 12) (gN 4)) bNil)))))) (Z0 (sRet (Z8 v8 (z9 (z1V (eVar 5) z3Y (z3r (e2 fAdd (e2 z1A (eVar 6) (orE (eM1 z2J (eVar 2) (e2 fIx (eVar 2) .(s))) (z2z (eVar 2) (e2 fIx (eVar 2) .(s))))) .(c)))) aNil))) bNil))))))
noncomputable def z1n:List D->M D:=λds=>cln (runF 14 z0s ds)
theorem ok_saying_of (T:DefAt K "saying_of" (top 18)) (mx:Mx K mg "saying_of") (F01:mg "tuple" = none) (F0d:Fn P w K mg base 2 "belongs" 4 z14) (F0h:Fn P w K mg base 5 "classes" 1 z17) (F0f:Fn P w K mg base 4 "cut_up" 3 z1J) (F0g:Fn P w K mg base 1 "first_blocks" 1 Y9) (F0q:Fn P w K mg base 1 "write_cut" 4 z1i):Fn P w K mg base 6 "saying_of" 2 z1n :=
 dfC ["machine","standing","row","cuts","blocks","rows","numbers","cut","least","by","yes","no","after","one"] z0s T mx .(2) rfl .(R) λhcd hr nd =>
  (z8 (z3Z (Z7 F0h .(F) rfl (z6 (z0 0) Z2)) (z63 rfl (z0w (y6 2 nd) (z0w (y6 3 nd) z3u)))) (z8 (y9 4 nd (Z7 F0g .(F) rfl (z6 (z0 0) Z2))) (z8 (y9 5 nd (z0x (z6 (z11 (z6 j9 Z2)) Z2))) (z8 (y9 6 nd (z7h Z3 Z3)) (z8 (z1v K18 rfl (z08 (z0 3)) (y6 7 nd) (z8 (z3Z (z0 7) (z63 rfl (z0w (y6 8 nd) (z0w (y6 9 nd) z3u)))) (z8 (z3Z (Z7 F0q .(F) rfl (z6 (z0 5) (z6 (z0 6) (z6 (z0 8) (z6 (z0 9) Z2))))) (z63 rfl (z0w (y6 10 nd) (z0w (y6 11 nd) z3u)))) (z8 (y9 12 nd (Z7 F0f .(F) rfl (z6 (z0 0) (z6 (z0 4) (z6 (z0 7) Z2))))) (z8 (z1v K18 rfl (z9J (z0 12)) (y6 13 nd) (z8 (s_if (SW.sc (z3W (sc_c (zu4 (z2V hr)) (z0 13) (z0 4)) (z41 (sc_c (z44 (hu30 hr)) (z0 13) (z0 8))))) (z8 (z3Z (zI0 (z0E (Z7 F0d .(F) rfl (z6 (z0 0) (z6 (z0 4) (z6 (z0 13) (z6 (z0 9) Z2)))))) (z0 10) (z0 11)) (zJ3 (z2V hr) (z0 6) (z0 13))) Z5) Z5) Z5)) (z8 (y9 4 nd (z0 12)) Z5)))))) (z8 (Y7 (z02 rfl F01 (z6 (z50 (z0 5) z6i (z6b (z0B (z1j (z2V hr) (z0 6) (zS5 (z8H (z0 2) (Z9 (z0 2) (z0 1))) (z8Y (z0 2) (Z9 (z0 2) (z0 1))))) Z3))) Z2))) Z5))))))
noncomputable def z1e:G->M Out :=
 (Z0 (sIf (noE (cVal (eFn 3 z4R (z9 .(k) (z9 .(s) (z9 (eVar 2) aNil)))))) (Z0 (z5u "AreAlike" (z9 (λ_=>pure (.str "alike standings are parted by no saying")) aNil)) bNil) bNil) (Z0 (noE (sRet (eFn 2 z1n (z9 .(k) (z9 .(s) aNil))))) bNil))
noncomputable def z0N:List D->M D:=runF 3 z1e
theorem ok_parting (T:DefAt K "parting" (top 20)) (mx:Mx K mg "parting") {F06:Addr}{bm_AreAlike:List Value}(F08:K3 K mg "AreAlike" F06 bm_AreAlike) (F0r:Fn P w K mg base 6 "alike" 3 z4R) (F0s:Fn P w K mg base 6 "saying_of" 2 z1n):FnX P w K mg base 7 "parting" 3 z0N :=
 dfX ["machine","one","other"] z1e T mx .(2) rfl .(d) λhcd hr nd =>
  (z8 (s_if (zF1 (z0E (Z7 F0r .(F) rfl (z6 (z0 0) (z6 (z0 1) (z6 (z0 2) Z2)))))) (z8 (zr9 F08 rfl (z6 j9 Z2)) Z5) Z5) (z8 (zR7 (Y7 (Z7 F0s .(F) rfl (z6 (z0 0) (z6 (z0 1) Z2))))) Z5))
noncomputable def z1p:G->M Out :=
 (Z0 (z7y 1 [none] (x6 .(k)) (gN 0) (λγ=>do let d ← e2 fGe .(k) (e2 fPow (λ_=>pure (.int 10)) (λ_=>pure (.int 18))) γ;asB d) .(k)) (Z0 (sRet (eLst (z9 .(s) (z9 (x9 [none] (x6 .(k)) (gN 0) (λγ=>do let d ← e2 fLt .(k) (e2 fPow (λ_=>pure (.int 10)) (λ_=>pure (.int 18))) γ;asB d) .(k)) (z9 (λ_=>pure (.int 5)) (z9 .(7) aNil)))))) bNil))
noncomputable def z1h:List D->M D:=runF 2 z1p
theorem ok__law_pool (T:DefAt K "_law_pool" (top 22)) (mx:Mx K mg "_law_pool"):Fn P w K mg base 1 "_law_pool" 1 z1h :=
 dfN ["_law_script","_law_great"] z1p T mx .(2) rfl .(w) λhcd hr nd =>
  (z8 (zl9 1 (N':=["_law_cell"]) (cap:=[none]) rfl .(9) (x4 (z0 0)) (λ_ _ _ _=>(j7 0 (show (["_law_cell"]:List Str).Nodup by decide +kernel))) (λ_ _ _ _=>(z0P (sc_c zT2 (z0 0) (z8s Z3 Z3)))) (λ_ _ _ _=>(z0 0)) nd) (z8 (Y7 (z0x (z6 (z0 1) (z6 (J9 (N':=["_law_cell"]) (cap:=[none]) rfl .(9) (x4 (z0 0)) (λ_ _ _ _=>(j7 0 (show (["_law_cell"]:List Str).Nodup by decide +kernel))) (λ_ _ _ _=>(z0P (sc_c zd8 (z0 0) (z8s Z3 Z3)))) (λ_ _ _ _=>(z0 0))) (z6 Z3 (z6 Z3 Z2)))))) Z5))
noncomputable def z0T:G->M Out :=
 (Z0 (sIf (λγ=>do let d ← e2 fGt (Z8 fLen (z9 (e2 fIx .(k) .(7)) aNil)) .(7) γ;asB d) (Z0 (sAsg (e2 fIx (e2 fIx .(k) .(7)) .(7)) (gN 2)) (Z0 (sAsg (e2 fDiv (eVar 2) .(s)) (gIx (e2 fIx .(k) .(7)) .(7))) (Z0 (sIf (λγ=>do let d ← e2 (fEq false) (e2 fDiv (eVar 2) .(s)) .(7) γ;asB d) (Z0 (z0e (eM1 z2u (e2 fIx .(k) .(7)) .(7))) bNil) bNil) (Z0 (sRet (e2 fMod (eVar 2) .(s))) bNil)))) bNil) (Z0 (sAsg (e2 fAdd (e2 fIx .(k) (λ_=>pure (.int 3))) .(c)) (gIx .(k) (λ_=>pure (.int 3)))) (Z0 (sAsg .(7) (gN 2)) (Z0 (sIf (λγ=>do let d ← e2 fGt (Z8 fLen (z9 (e2 fIx .(k) .(c)) aNil)) .(7) γ;asB d) (Z0 (sAsg (e2 fIx (e2 fIx .(k) .(c)) (e2 fMod (e2 fIx .(k) (λ_=>pure (.int 3))) (Z8 fLen (z9 (e2 fIx .(k) .(c)) aNil)))) (gN 2)) bNil) bNil) (Z0 (sAsg (e2 z4N (e2 fMod (eVar 2) (λ_=>pure (.int 2147483629))) (e2 fAdd (e2 z4N (e2 fIx .(k) (λ_=>pure (.int 3))) (e2 fIx .(k) (λ_=>pure (.int 3)))) .(c))) (gN 2)) (Z0 (sAsg (e2 fMod (e2 fAdd (e2 fAdd (e2 z4N (e2 fIx .(k) (λ_=>pure (.int 2))) (λ_=>pure (.int 48271))) (eVar 2)) (e2 z4N (λ_=>pure (.int 97)) (e2 fIx .(k) (λ_=>pure (.int 3))))) (λ_=>pure (.int 2147483647))) (gIx .(k) (λ_=>pure (.int 2)))) (Z0 (sRet (e2 fMod (e2 fDiv (e2 fMod (e2 fPow (e2 fIx .(k) (λ_=>pure (.int 2))) (λ_=>pure (.int 5))) (λ_=>pure (.int 2147483629))) (λ_=>pure (.int 64))) .(s))) bNil)))))))
noncomputable def Z4:List D->M D:=runF 3 z0T
theorem ok__law_draw (T:DefAt K "_law_draw" (top 23)) (mx:Mx K mg "_law_draw") (F00:mg "len" = none):Fn P w K mg base 1 "_law_draw" 2 Z4 :=
 dfN ["_law_pool_here","_law_many","_law_cell"] z0T T mx .(2) rfl .(R) λhcd hr nd =>
  (z8 (s_if (sc_c zc5 (Y1 rfl F00 (z6 .(D) Z2)) Z3) (z8 (y9 2 nd (Z9 .(D) Z3)) (z8 (z3Z (za3 (z0 2) (z0 1)) (zs5 .(D) Z3)) (z8 (s_if (sc_c z1Q (za3 (z0 2) (z0 1)) Z3) (z8 (z0o (z6M .(D) Z3)) Z5) Z5) (z8 (Y7 (z3c (z0 2) (z0 1))) Z5)))) Z5) (z8 (z3Z (z0B .(D) Z3) (zs5 (z0 0) Z3)) (z8 (y9 2 nd Z3) (z8 (s_if (sc_c zc5 (Y1 rfl F00 (z6 .(D) Z2)) Z3) (z8 (y9 2 nd (Z9 .(D) (z3c .(D) (Y1 rfl F00 (z6 .(D) Z2))))) Z5) Z5) (z8 (y9 2 nd (z4H (z3c (z0 2) Z3) (z0B (z4H .(D) .(D)) Z3))) (z8 (z3Z (z3c (z0B (z0B (z4H .(D) Z3) (z0 2)) (z4H Z3 .(D))) Z3) (zs5 (z0 0) Z3)) (z8 (Y7 (z3c (za3 (z3c (z8s .(D) Z3) Z3) Z3) (z0 1))) Z5)))))))
noncomputable def z0Q:G->M Out :=
 (Z0 (sAsg (λ_=>pure (.str "abcdefghijklmnopqrstuvwxyz")) (gN 3)) (Z0 (sAsg .(s) (gN 4)) (Z0 (sFor (z0k (eFn 2 Z4 (z9 .(k) (z9 (λ_=>pure (.int 4)) aNil)))) (gN 5) (Z0 (sAsg (e2 fAdd (eVar 4) (e2 fIx (eVar 3) (eFn 2 Z4 (z9 .(k) (z9 (λ_=>pure (.int 26)) aNil))))) (gN 4)) bNil)) (Z0 (sAsg (eFn 2 Z4 (z9 .(k) (z9 (λ_=>pure (.int 26)) aNil))) (gN 6)) (Z0 (sAsg .(g) (gN 7)) (Z0 (sFor (z0k (λ_=>pure (.int 26))) (gN 5) (Z0 (sAsg (e2 fAdd (eVar 4) (e2 fIx (eVar 3) (e2 fMod (e2 fAdd (eVar 6) (eVar 5)) (λ_=>pure (.int 26))))) (gN 8)) (Z0 (sIf (cAnd (λγ=>do let d ← e2 (fIn true) (eVar 8) (eVar 7) γ;asB d) (λγ=>do let d ← e2 (fIn true) (eVar 8) (eVar 2) γ;asB d)) (Z0 (sRet (eVar 8)) bNil) bNil) bNil))) (Z0 (sRet (e2 fAdd (eVar 4) (λ_=>pure (.str "x")))) bNil)))))))
noncomputable def z1l:List D->M D:=λds=>cln (runF 9 z0Q ds)
theorem ok__law_name (T:DefAt K "_law_name" (top 24)) (mx:Mx K mg "_law_name") (F02:mg "range" = none) (F03:Fn P w K mg base 1 "_law_draw" 2 Z4):Fn P w K mg base 2 "_law_name" 3 z1l :=
 dfC ["_law_pool_here","_law_start","_law_taken","_law_letters","_law_name_here","_law_k","_law_last","_law_words","_law_found"] z0Q T mx .(2) rfl .(d) λhcd hr nd =>
  (z8 (y9 3 nd j9) (z8 (y9 4 nd (z0 1)) (z8 (z1v K18 rfl (z01 rfl F02 (Z7 F03 .(F) rfl (z6 (z0 0) (z6 Z3 Z2)))) (y6 5 nd) (z8 (y9 4 nd (z0B (z0 4) (Z9 (z0 3) (Z7 F03 .(F) rfl (z6 (z0 0) (z6 Z3 Z2)))))) Z5)) (z8 (y9 6 nd (Z7 F03 .(F) rfl (z6 (z0 0) (z6 Z3 Z2)))) (z8 (y9 7 nd (z0x (z6 j9 (z6 j9 (z6 j9 (z6 j9 (z6 j9 (z6 j9 (z6 j9 (z6 j9 (z6 j9 (z6 j9 (z6 j9 (z6 j9 (z6 j9 Z2))))))))))))))) (z8 (z1v K18 rfl (z01 rfl F02 Z3) (y6 5 nd) (z8 (y9 8 nd (z0B (z0 4) (Z9 (z0 3) (z3c (z0B (z0 6) (z0 5)) Z3)))) (z8 (s_if (SW.sc (z3t (sc_c z4L (z0 8) (z0 7)) (z2F (sc_c z4L (z0 8) (z0 2))))) (z8 (Y7 (z0 8)) Z5) Z5) Z5))) (z8 (Y7 (z0B (z0 4) j9)) Z5)))))))
noncomputable def z0V:G->M Out :=
 (Z0 (sAsg (λ_=>pure (.str "abcdefghijklmnopqrstuvwxyz")) (gN 2)) (Z0 (sAsg (λ_=>pure (.str "")) (gN 3)) (Z0 (sFor (z0k (clE (e2 fIx (eLst (z9 .(7) (z9 .(7) (z9 .(c) (z9 (λ_=>pure (.int 4)) aNil))))) (eFn 2 Z4 (z9 .(k) (z9 (λ_=>pure (.int 4)) aNil)))))) (gN 4) (Z0 (sAsg (e2 fAdd (eVar 3) (e2 fIx (eVar 2) (eFn 2 Z4 (z9 .(k) (z9 (λ_=>pure (.int 26)) aNil))))) (gN 3)) bNil)) (Z0 (sAsg (eLst aNil) (gN 5)) (Z0 (sFor (z0k .(s)) (gN 4) (Z0 (z0e (eM1 j8 (eVar 5) (eFn 3 z1l (z9 .(k) (z9 (eVar 3) .(u)))))) bNil)) (Z0 (sRet (eVar 5)) bNil))))))
noncomputable def z0X:List D->M D:=λds=>cln (runF 6 z0V ds)
theorem ok__law_names (T:DefAt K "_law_names" (top 25)) (mx:Mx K mg "_law_names") (F02:mg "range" = none) (F03:Fn P w K mg base 1 "_law_draw" 2 Z4) (F0t:Fn P w K mg base 2 "_law_name" 3 z1l):Fn P w K mg base 3 "_law_names" 2 z0X :=
 dfC ["_law_pool_here","_law_many","_law_letters","_law_start","_law_k","_law_names_here"] z0V T mx .(2) rfl .(R) λhcd hr nd =>
  (z8 (y9 2 nd j9) (z8 (y9 3 nd j9) (z8 (z1v K18 rfl (z01 rfl F02 (z1t (Z9 (z0x (z6 Z3 (z6 Z3 (z6 Z3 (z6 Z3 Z2))))) (Z7 F03 .(F) rfl (z6 (z0 0) (z6 Z3 Z2)))))) (y6 4 nd) (z8 (y9 3 nd (z0B (z0 3) (Z9 (z0 2) (Z7 F03 .(F) rfl (z6 (z0 0) (z6 Z3 Z2)))))) Z5)) (z8 (y9 5 nd (z0x Z2)) (z8 (z1v K18 rfl (z01 rfl F02 (z0 1)) (y6 4 nd) (z8 (z0o (J2 (z0 5) (Z7 F0t .(F) rfl (z6 (z0 0) (z6 (z0 3) (z6 (z0 5) Z2)))))) Z5)) (z8 (Y7 (z0 5)) Z5))))))
noncomputable def z0u:G->M Out :=
 (Z0 (sAsg (e2 fAdd .(c) (eFn 2 Z4 (z9 .(k) (z9 (eVar 2) aNil)))) (gN 3)) (Z0 (sAsg (e2 fAdd .(c) (eFn 2 Z4 (z9 .(k) (z9 (λ_=>pure (.int 4)) aNil)))) (gN 4)) (Z0 (sAsg (eLst aNil) (gN 5)) (Z0 (sAsg (eLst aNil) (gN 6)) (Z0 (sFor (z0k (eVar 3)) (gN 7) (Z0 (z0e (eM1 j8 (eVar 5) (clE (Z8 v8 (z9 (x9 [some 0,some 4,none] (z0k (eVar 3)) (gN 2) (λγ=>do let d ← e2 fLt (eFn 2 Z4 (z9 .(k) (z9 (λ_=>pure (.int 6)) aNil))) .(s) γ;asB d) (eVar 2)) aNil))))) (Z0 (z0e (eM1 j8 (eVar 6) (clE (Z8 v8 (z9 (Z8 z13 (z9 (x9 [some 0,none] (x6 .(s)) (gN 1) (λγ=>do let d ← e2 (fEq false) (eFn 2 Z4 (z9 .(k) (z9 (λ_=>pure (.int 2)) aNil))) .(c) γ;asB d) .(s)) aNil)) aNil))))) bNil))) (Z0 (sRet (eTup (z9 (Z8 v8 .(u)) (z9 (Z8 v8 (z9 (eVar 6) aNil)) aNil)))) bNil))))))
noncomputable def z0t:List D->M D:=λds=>cln (runF 8 z0u ds)
theorem ok__law_machine (T:DefAt K "_law_machine" (top 26)) (mx:Mx K mg "_law_machine") (F02:mg "range" = none) (F05:mg "sorted" = none) (F01:mg "tuple" = none) (F03:Fn P w K mg base 1 "_law_draw" 2 Z4):Fn P w K mg base 2 "_law_machine" 3 z0t :=
 dfC ["_law_pool_here","_law_names_here","_law_most","_law_many","_law_dense","_law_steps","_law_marks","_law_k"] z0u T mx .(2) rfl .(d) λhcd hr nd =>
  (z8 (y9 3 nd (z0B Z3 (Z7 F03 .(F) rfl (z6 (z0 0) (z6 (z0 2) Z2))))) (z8 (y9 4 nd (z0B Z3 (Z7 F03 .(F) rfl (z6 (z0 0) (z6 Z3 Z2))))) (z8 (y9 5 nd (z0x Z2)) (z8 (y9 6 nd (z0x Z2)) (z8 (z1v K18 rfl (z01 rfl F02 (z0 3)) (y6 7 nd) (z8 (z0o (J2 (z0 5) (z1t (z02 rfl F01 (z6 (J9 (N':=["_law_pool_here","_law_dense","_law_to"]) (cap:=[some 0,some 4,none]) rfl .(9) (z01 rfl F02 (z0 3)) (λ_ _ _ _=>(j7 2 (show (["_law_pool_here","_law_dense","_law_to"]:List Str).Nodup by decide +kernel))) (λ_ _ _ _=>(z0P (sc_c zd8 (Z7 F03 .(F) rfl (z6 (z0 0) (z6 Z3 Z2))) (z0 1)))) (λ_ _ _ _=>(z0 2))) Z2))))) (z8 (z0o (J2 (z0 6) (z1t (z02 rfl F01 (z6 (z5N rfl rfl F05 (z6 (J9 (N':=["_law_pool_here","_law_name_here"]) (cap:=[some 0,none]) rfl .(9) (x4 (z0 1)) (λ_ _ _ _=>(j7 1 (show (["_law_pool_here","_law_name_here"]:List Str).Nodup by decide +kernel))) (λ_ _ _ _=>(z0P (sc_c z1Q (Z7 F03 .(F) rfl (z6 (z0 0) (z6 Z3 Z2))) Z3))) (λ_ _ _ _=>(z0 1))) Z2)) Z2))))) Z5))) (z8 (Y7 (z11 (z6 (z02 rfl F01 (z6 (z0 5) Z2)) (z6 (z02 rfl F01 (z6 (z0 6) Z2)) Z2)))) Z5))))))
noncomputable def z0i:G->M Out :=
 (Z0 (sRet (eAnd (eIsi "int" .(k)) (eAnd (eNot (eIsi "bool" .(k))) (e3 fLe fLt .(s) .(k) (eVar 2))))) bNil)
noncomputable def z0j:List D->M D:=λds=>cln (runF 3 z0i ds)
theorem ok__law_number (T:DefAt K "_law_number" (top 27)) (mx:Mx K mg "_law_number") (F0u:mg "bool" = none) (F0v:mg "int" = none) (F04:mg "isinstance" = none):Fn P w K mg base 1 "_law_number" 3 z0j :=
 dfC ["_law_thing","_law_low","_law_high"] z0i T mx .(2) rfl .(d) λhcd hr nd =>
  (z8 (Y7 (z3q (z3S rfl F04 rfl F0v .(2) .(1) (z0 0)) (z3q (z8M (z3S rfl F04 rfl F0u .(2) .(1) (z0 0))) (z5X (zJ7 zo3 zd8 (z0 1) (z0 0) (z0 2)))))) Z5)
noncomputable def z0A:G->M Out :=
 (Z0 (sRet (eAnd (eIsi "tuple" .(k)) (e3 fLe fLe .(s) (Z8 fLen (z9 .(k) aNil)) (eVar 2)))) bNil)
noncomputable def v7:List D->M D:=λds=>cln (runF 3 z0A ds)
theorem ok__law_tuple (T:DefAt K "_law_tuple" (top 28)) (mx:Mx K mg "_law_tuple") (F04:mg "isinstance" = none) (F00:mg "len" = none) (F01:mg "tuple" = none):Fn P w K mg base 1 "_law_tuple" 3 v7 :=
 dfC ["_law_thing","_law_least","_law_most"] z0A T mx .(2) rfl .(d) λhcd hr nd =>
  (z8 (Y7 (z3q (z3S rfl F04 rfl F01 .(2) .(1) (z0 0)) (z5X (zJ7 zo3 zo3 (z0 1) (Y1 rfl F00 (z6 (z0 0) Z2)) (z0 2))))) Z5)
noncomputable def Y6:G->M Out :=
 (Z0 (sAsg .(g) (gN 1)) (Z0 (sIf (cOr (cNot (cVal (eIsi "str" .(k)))) (cOr (λγ=>do let d ← e2 fLt (Z8 fLen (z9 .(k) aNil)) .(c) γ;asB d) (cOr (λγ=>do let d ← e2 fGt (Z8 fLen (z9 .(k) aNil)) (λ_=>pure (.int 8)) γ;asB d) (λγ=>do let d ← e2 (fIn false) .(k) .(s) γ;asB d)))) (Z0 (sRet (λ_=>pure (.bl false))) bNil) bNil) (Z0 (sRet (clE (e2 (fEqX false) (x9 [none] (iStr .(k)) (gN 0) (λγ=>do let d ← e2 (fInT true) .(k) (λ_=>pure (.str "abcdefghijklmnopqrstuvwxyz")) γ;asB d) .(k)) (eLst aNil)))) bNil)))
noncomputable def z0a:List D->M D:=λds=>cln (runF 2 Y6 ds)
theorem ok__law_good_name (T:DefAt K "_law_good_name" (top 29)) (mx:Mx K mg "_law_good_name") (F04:mg "isinstance" = none) (F00:mg "len" = none) (F07:mg "str" = none):Fn P w K mg base 1 "_law_good_name" 1 z0a :=
 dfC ["_law_thing","_law_words"] Y6 T mx .(2) rfl .(w) λhcd hr nd =>
  (z8 (y9 1 nd (z0x (z6 j9 (z6 j9 (z6 j9 (z6 j9 (z6 j9 (z6 j9 (z6 j9 (z6 j9 (z6 j9 (z6 j9 (z6 j9 (z6 j9 (z6 j9 Z2))))))))))))))) (z8 (s_if (SW.sc (z3W (z3C (z0E (z3S rfl F04 rfl F07 .(2) .(1) (z0 0)))) (z3W (sc_c zd8 (Y1 rfl F00 (z6 (z0 0) Z2)) Z3) (z3W (sc_c zc5 (Y1 rfl F00 (z6 (z0 0) Z2)) Z3) (z41 (sc_c z9S (z0 0) (z0 1))))))) (z8 (Y7 z5T) Z5) Z5) (z8 (Y7 (z1t (se_c (z44 (hu30 hr)) (J9 (N':=["_law_sign"]) (cap:=[none]) rfl .(9) (zD8 rfl (z0 0)) (λ_ _ _ _=>(j7 0 (show (["_law_sign"]:List Str).Nodup by decide +kernel))) (λ_ _ _ _=>(z0P (sc_c zq9 (z0 0) j9))) (λ_ _ _ _=>(z0 0))) (z0x Z2)))) Z5)))
noncomputable def z0d:G->M Out :=
 (Z0 (sAsg (x9 [none] (z0f (e2 fIx .(k) .(7))) (gN 0) (λ_=>pure true) .(7)) (gN 1)) (Z0 (sFor (z0k (Z8 fLen (z9 .(s) aNil))) (gN 2) (Z0 (sAsg (eLst aNil) (gN 3)) (Z0 (sFor (z0k (Z8 fLen (z9 .(s) aNil))) (gN 4) (Z0 (sAsg (clE (Z8 v8 (z9 (Z8 z1g (z9 (Z8 z3g (z9 (x9 [some 1,none] (z0f (e2 fIx (e2 fIx .(k) .(7)) (eVar 4))) (gN 1) (λ_=>pure true) (e2 fIx .(k) .(s))) aNil)) aNil)) aNil))) (gN 5)) (Z0 (z0e (eM1 j8 (eVar 3) (eTup (z9 (e2 fIx .(s) (eVar 4)) (z9 (e2 fIx (e2 fIx .(k) .(c)) (eVar 4)) .(u)))))) bNil))) (Z0 (sAsg (x9 [some 3,none] (x6 (eVar 3)) (gN 1) (λ_=>pure true) (eM1 z3z .(k) .(s))) (gN 1)) bNil)))) (Z0 (sRet .(s)) bNil)))
noncomputable def z0Y:List D->M D:=λds=>cln (runF 6 z0d ds)
theorem ok__law_homes (T:DefAt K "_law_homes" (top 30)) (mx:Mx K mg "_law_homes") (F00:mg "len" = none) (F02:mg "range" = none) (F0w:mg "set" = none) (F05:mg "sorted" = none) (F01:mg "tuple" = none):Fn P w K mg base 1 "_law_homes" 1 z0Y :=
 dfC ["_law_machine_here","_law_homes_here","_law_k","_law_looks","_law_one","_law_ahead"] z0d T mx .(2) rfl .(w) λhcd hr nd =>
  (z8 (y9 1 nd (J9 (N':=["_law_one"]) (cap:=[none]) rfl .(9) (z08 .(D)) (λ_ _ _ _=>(j7 0 (show (["_law_one"]:List Str).Nodup by decide +kernel))) (λ_ _ _ _=>v3) (λ_ _ _ _=>Z3))) (z8 (z1v K18 rfl (z01 rfl F02 (Y1 rfl F00 (z6 (z0 1) Z2))) (y6 2 nd) (z8 (y9 3 nd (z0x Z2)) (z8 (z1v K18 rfl (z01 rfl F02 (Y1 rfl F00 (z6 (z0 1) Z2))) (y6 4 nd) (z8 (y9 5 nd (z1t (z02 rfl F01 (z6 (z7P rfl rfl F05 (z6 (zc6 rfl rfl F0w (z6 (J9 (N':=["_law_homes_here","_law_to"]) (cap:=[some 1,none]) rfl .(9) (z08 (Z9 .(D) (z0 4))) (λ_ _ _ _=>(j7 1 (show (["_law_homes_here","_law_to"]:List Str).Nodup by decide +kernel))) (λ_ _ _ _=>v3) (λ_ _ _ _=>(Z9 (z0 0) (z0 1)))) Z2)) Z2)) Z2)))) (z8 (z0o (J2 (z0 3) (z11 (z6 (Z9 (z0 1) (z0 4)) (z6 (Z9 .(D) (z0 4)) (z6 (z0 5) Z2)))))) Z5))) (z8 (y9 1 nd (J9 (N':=["_law_looks","_law_look"]) (cap:=[some 3,none]) rfl .(9) (x4 (z0 3)) (λ_ _ _ _=>(j7 1 (show (["_law_looks","_law_look"]:List Str).Nodup by decide +kernel))) (λ_ _ _ _=>v3) (λ_ _ _ _=>(z9O (hu40 hr) (z0 0) (z0 1))))) Z5)))) (z8 (Y7 (z0 1)) Z5)))
noncomputable def z0K:G->M Out :=
 (Z0 (sAsg (eRng false (Z8 fLen (z9 (e2 fIx .(s) .(7)) aNil))) (gN 3)) (Z0 (sFor (z0k (eFn 2 Z4 (z9 .(k) (z9 (e2 fAdd (eVar 2) .(c)) aNil)))) (gN 4) (Z0 (z0e (eM1 j8 (eVar 3) (eFn 2 Z4 (z9 .(k) (z9 (Z8 fLen (z9 (e2 fIx .(s) .(7)) aNil)) aNil))))) bNil)) (Z0 (sAsg (eLst aNil) (gN 5)) (Z0 (sFor (z0k (Z8 fLen (z9 (eVar 3) aNil))) (gN 4) (Z0 (z0e (eM1 j8 (eVar 5) (eM1 z2u (eVar 3) (eFn 2 Z4 (z9 .(k) (z9 (Z8 fLen (z9 (eVar 3) aNil)) aNil)))))) bNil)) (Z0 (sAsg (eLst aNil) (gN 6)) (Z0 (sFor (orE (z0f (eVar 5)) (x6 (eVar 5))) (gN 7) (Z0 (sAsg (eLst aNil) (gN 8)) (Z0 (sFor (orE (z0f (e2 fIx (e2 fIx .(s) .(7)) (eVar 7))) (x6 (e2 fIx (e2 fIx .(s) .(7)) (eVar 7)))) (gN 9) (Z0 (z7y 10 [some 5,some 9,none] (z0k (Z8 fLen .(u))) (gN 2) (λγ=>do let d ← e2 (fEqX false) (e2 fIx .(k) (eVar 2)) .(s) γ;asB d) (eVar 2)) (Z0 (sAsg (e2 fIx (eVar 10) (eFn 2 Z4 (z9 .(k) (z9 (Z8 fLen (z9 (eVar 10) aNil)) aNil)))) (gN 11)) (Z0 (sAsg (e2 fAdd (eVar 8) (x9 [some 11,some 0,none] (orE (z0f (eVar 10)) (x6 (eVar 10))) (gN 2) (cOr (λγ=>do let d ← e2 (fEqX false) (eVar 2) .(k) γ;asB d) (λγ=>do let d ← e2 (fEq false) (eFn 2 Z4 (z9 .(s) (z9 (λ_=>pure (.int 3)) aNil))) .(7) γ;asB d)) (eVar 2))) (gN 8)) bNil)))) (Z0 (z0e (eM1 j8 (eVar 6) (clE (Z8 v8 (z9 (Z8 z13 (z9 (eVar 8) aNil)) aNil))))) bNil)))) (Z0 (sRet (eTup (z9 (eTup (z9 (Z8 v8 (z9 (eVar 6) aNil)) (z9 (clE (Z8 v8 (z9 (x9 [some 1,none] (orE (z0f (eVar 5)) (x6 (eVar 5))) (gN 1) (λ_=>pure true) (e2 fIx (e2 fIx .(k) .(c)) .(s))) aNil))) aNil))) .(u)))) bNil)))))))
noncomputable def z0H:List D->M D:=λds=>cln (runF 12 z0K ds)
theorem ok__law_copies (T:DefAt K "_law_copies" (top 31)) (mx:Mx K mg "_law_copies") (F00:mg "len" = none) (F0i:mg "list" = none) (F02:mg "range" = none) (F05:mg "sorted" = none) (F01:mg "tuple" = none) (F03:Fn P w K mg base 1 "_law_draw" 2 Z4):Fn P w K mg base 2 "_law_copies" 3 z0H :=
 dfC ["_law_pool_here","_law_base","_law_most","_law_kinds","_law_k","_law_raw","_law_steps","_law_kind","_law_ahead","_law_to","_law_mates","_law_sure"] z0K T mx .(2) rfl .(d) λhcd hr nd =>
  (z8 (y9 3 nd (z7E rfl rfl F0i rfl F02 (Y1 rfl F00 (z6 (Z9 (z0 1) Z3) Z2)))) (z8 (z1v K18 rfl (z01 rfl F02 (Z7 F03 .(F) rfl (z6 (z0 0) (z6 (z0B (z0 2) Z3) Z2)))) (y6 4 nd) (z8 (z0o (J2 (z0 3) (Z7 F03 .(F) rfl (z6 (z0 0) (z6 (Y1 rfl F00 (z6 (Z9 (z0 1) Z3) Z2)) Z2))))) Z5)) (z8 (y9 5 nd (z0x Z2)) (z8 (z1v K18 rfl (z01 rfl F02 (Y1 rfl F00 (z6 (z0 3) Z2))) (y6 4 nd) (z8 (z0o (J2 (z0 5) (z6M (z0 3) (Z7 F03 .(F) rfl (z6 (z0 0) (z6 (Y1 rfl F00 (z6 (z0 3) Z2)) Z2)))))) Z5)) (z8 (y9 6 nd (z0x Z2)) (z8 (z1v K18 rfl (z3G (z08 (z0 5)) (x4 (z0 5))) (y6 7 nd) (z8 (y9 8 nd (z0x Z2)) (z8 (z1v K18 rfl (z3G (z08 (Z9 (Z9 (z0 1) Z3) (z0 7))) (x4 (Z9 (Z9 (z0 1) Z3) (z0 7)))) (y6 9 nd) (z8 (zl9 10 (N':=["_law_raw","_law_to","_law_one"]) (cap:=[some 5,some 9,none]) rfl .(9) (z01 rfl F02 (Y1 rfl F00 (z6 (z0 5) Z2))) (λ_ _ _ _=>(j7 2 (show (["_law_raw","_law_to","_law_one"]:List Str).Nodup by decide +kernel))) (λ_ _ _ _=>(z0P (sc_c (z44 (hu30 hr)) (Z9 (z0 0) (z0 2)) (z0 1)))) (λ_ _ _ _=>(z0 2)) nd) (z8 (y9 11 nd (Z9 (z0 10) (Z7 F03 .(F) rfl (z6 (z0 0) (z6 (Y1 rfl F00 (z6 (z0 10) Z2)) Z2))))) (z8 (y9 8 nd (z0B (z0 8) (J9 (N':=["_law_sure","_law_pool_here","_law_one"]) (cap:=[some 11,some 0,none]) rfl .(9) (z3G (z08 (z0 10)) (x4 (z0 10))) (λ_ _ _ _=>(j7 2 (show (["_law_sure","_law_pool_here","_law_one"]:List Str).Nodup by decide +kernel))) (λ_ _ _ _=>(z0P (SW.sc (z3W (sc_c (z44 (hu30 hr)) (z0 2) (z0 0)) (z41 (sc_c z1Q (Z7 F03 .(F) rfl (z6 (z0 1) (z6 Z3 Z2))) Z3)))))) (λ_ _ _ _=>(z0 2))))) Z5)))) (z8 (z0o (J2 (z0 6) (z1t (z02 rfl F01 (z6 (z5N rfl rfl F05 (z6 (z0 8) Z2)) Z2))))) Z5)))) (z8 (Y7 (z11 (z6 (z11 (z6 (z02 rfl F01 (z6 (z0 6) Z2)) (z6 (z1t (z02 rfl F01 (z6 (J9 (N':=["_law_base","_law_kind"]) (cap:=[some 1,none]) rfl .(9) (z3G (z08 (z0 5)) (x4 (z0 5))) (λ_ _ _ _=>(j7 1 (show (["_law_base","_law_kind"]:List Str).Nodup by decide +kernel))) (λ_ _ _ _=>v3) (λ_ _ _ _=>(Z9 .(D) (z0 1)))) Z2))) Z2))) (z6 (z0 5) Z2)))) Z5)))))))
noncomputable def k7:G->M Out :=
 (Z0 (sIf (cNot (cVal (eFn 3 v7 (z9 .(s) (z9 .(c) (z9 (λ_=>pure (.int 160)) aNil)))))) (Z0 (sRet (λ_=>pure .non)) bNil) bNil) (Z0 (sAsg (eRng false (Z8 fLen (z9 (e2 fIx .(k) .(7)) aNil))) (gN 2)) (Z0 (sAsg (eLst aNil) (gN 3)) (Z0 (sFor (z0k (Z8 fLen (z9 .(s) aNil))) (gN 4) (Z0 (sAsg (e2 fIx .(s) (eVar 4)) (gN 5)) (Z0 (sIf (cOr (cNot (cVal (eFn 3 v7 (z9 (eVar 5) (z9 .(c) (z9 (λ_=>pure (.int 3)) aNil)))))) (cNot (cVal (eIsi "str" (e2 fIx (eVar 5) .(7)))))) (Z0 (sRet (λ_=>pure .non)) bNil) bNil) (Z0 (sIf (cAnd (λγ=>do let d ← e2 (fEq false) (e2 fIx (eVar 5) .(7)) (λ_=>pure (.str "yes")) γ;asB d) (λγ=>do let d ← e2 (fEq false) (Z8 fLen .(u)) .(c) γ;asB d)) (Z0 (z0e (eM1 j8 (eVar 3) (x9 [none] (orE (z0f (eVar 2)) (x6 (eVar 2))) (gN 0) (λ_=>pure true) (λ_=>pure (.bl true))))) bNil) (Z0 (sIf (cAnd (λγ=>do let d ← e2 (fEq false) (e2 fIx (eVar 5) .(7)) (λ_=>pure (.str "mark")) γ;asB d) (cAnd (λγ=>do let d ← e2 (fEq false) (Z8 fLen .(u)) (λ_=>pure (.int 2)) γ;asB d) (cVal (eFn 1 z0a (z9 (e2 fIx (eVar 5) .(c)) aNil))))) (Z0 (z0e (eM1 j8 (eVar 3) (x9 [some 5,some 0,none] (orE (z0f (eVar 2)) (x6 (eVar 2))) (gN 2) (λ_=>pure true) (e2 (fIn false) (e2 fIx .(k) .(c)) (e2 fIx (e2 fIx .(s) .(c)) (eVar 2)))))) bNil) (Z0 (sIf (clT (λγ=>do let d ← e2 (fEqX true) (x9 [some 4,none] (orE (z0f (z1V (eVar 5) (z3r .(c)) z3Y)) (x6 (z1V (eVar 5) (z3r .(c)) z3Y))) (gN 1) (cNot (cVal (eFn 3 z0j (z9 .(s) (z9 .(7) (z9 .(k) aNil)))))) .(s)) (eLst aNil) γ;asB d)) (Z0 (sRet (λ_=>pure .non)) bNil) (Z0 (sIf (cAnd (λγ=>do let d ← e2 (fEq false) (e2 fIx (eVar 5) .(7)) (λ_=>pure (.str "not")) γ;asB d) (λγ=>do let d ← e2 (fEq false) (Z8 fLen .(u)) (λ_=>pure (.int 2)) γ;asB d)) (Z0 (z0e (eM1 j8 (eVar 3) (x9 [some 3,some 5,none] (orE (z0f (eVar 2)) (x6 (eVar 2))) (gN 2) (λ_=>pure true) (eNot (e2 fIx (e2 fIx .(k) (e2 fIx .(s) .(c))) (eVar 2)))))) bNil) (Z0 (sIf (cAnd (λγ=>do let d ← e2 (fEq false) (e2 fIx (eVar 5) .(7)) (λ_=>pure (.str "and")) γ;asB d) (λγ=>do let d ← e2 (fEq false) (Z8 fLen .(u)) (λ_=>pure (.int 3)) γ;asB d)) (Z0 (z0e (eM1 j8 (eVar 3) (x9 [some 3,some 5,none] (orE (z0f (eVar 2)) (x6 (eVar 2))) (gN 2) (λ_=>pure true) (eAnd (e2 fIx (e2 fIx .(k) (e2 fIx .(s) .(c))) (eVar 2)) (e2 fIx (e2 fIx .(k) (e2 fIx .(s) (λ_=>pure (.int 2)))) (eVar 2)))))) bNil) (Z0 (sIf (cAnd (λγ=>do let d ← e2 (fEq false) (e2 fIx (eVar 5) .(7)) (λ_=>pure (.str "step")) γ;asB d) (λγ=>do let d ← e2 (fEq false) (Z8 fLen .(u)) (λ_=>pure (.int 2)) γ;asB d)) (Z0 (z0e (eM1 j8 (eVar 3) (x9 [some 0,some 3,some 5,none] (orE (z0f (eVar 2)) (x6 (eVar 2))) (gN 3) (λ_=>pure true) (clE (e2 (fIn false) (λ_=>pure (.bl true)) (x9 [some 1,some 2,none] (orE (z0f (e2 fIx (e2 fIx .(k) .(7)) (eVar 3))) (x6 (e2 fIx (e2 fIx .(k) .(7)) (eVar 3)))) (gN 2) (λ_=>pure true) (e2 fIx (e2 fIx .(k) (e2 fIx .(s) .(c))) (eVar 2)))))))) bNil) (Z0 (sRet (λ_=>pure .non)) bNil)) bNil)) bNil)) bNil)) bNil)) bNil)) bNil)))) (Z0 (sRet (e2 fIx (eVar 3) (eNeg .(c)))) bNil)))))
noncomputable def Y4:List D->M D:=λds=>cln (runF 6 k7 ds)
theorem ok__law_plain_truths (T:DefAt K "_law_plain_truths" (top 32)) (mx:Mx K mg "_law_plain_truths") (F04:mg "isinstance" = none) (F00:mg "len" = none) (F0i:mg "list" = none) (F02:mg "range" = none) (F07:mg "str" = none) (F0x:Fn P w K mg base 1 "_law_good_name" 1 z0a) (F0y:Fn P w K mg base 1 "_law_number" 3 z0j) (F0l:Fn P w K mg base 1 "_law_tuple" 3 v7):Fn P w K mg base 2 "_law_plain_truths" 2 Y4 :=
 dfC ["_law_machine_here","_law_saying","_law_every","_law_truths","_law_k","_law_part"] k7 T mx .(2) rfl .(R) λhcd hr nd =>
  (z8 (s_if (z3C (z0E (Z7 F0l .(F) rfl (z6 (z0 1) (z6 Z3 (z6 Z3 Z2)))))) (z8 (Y7 z3s) Z5) Z5) (z8 (y9 2 nd (z7E rfl rfl F0i rfl F02 (Y1 rfl F00 (z6 .(D) Z2)))) (z8 (y9 3 nd (z0x Z2)) (z8 (z1v K18 rfl (z01 rfl F02 (Y1 rfl F00 (z6 (z0 1) Z2))) (y6 4 nd) (z8 (y9 5 nd (Z9 (z0 1) (z0 4))) (z8 (s_if (SW.sc (z3W (z3C (z0E (Z7 F0l .(F) rfl (z6 (z0 5) (z6 Z3 (z6 Z3 Z2)))))) (z41 (z3C (z0E (z3S rfl F04 rfl F07 .(2) .(1) (Z9 (z0 5) Z3))))))) (z8 (Y7 z3s) Z5) Z5) (z8 (s_if .(x) (z8 (z0o (J2 (z0 3) (J9 (N':=["_law_one"]) (cap:=[none]) rfl .(9) (z3G (z08 (z0 2)) (x4 (z0 2))) (λ_ _ _ _=>(j7 0 (show (["_law_one"]:List Str).Nodup by decide +kernel))) (λ_ _ _ _=>v3) (λ_ _ _ _=>z5T)))) Z5) (z8 (s_if (SW.sc (z3t (sc_c z1Q (Z9 (z0 5) Z3) j9) (z3t (sc_c z1Q (Y1 rfl F00 (z6 (z0 5) Z2)) Z3) (z2F (z0E (Z7 F0x .(F) rfl (z6 (Z9 (z0 5) Z3) Z2))))))) (z8 (z0o (J2 (z0 3) (J9 (N':=["_law_part","_law_machine_here","_law_one"]) (cap:=[some 5,some 0,none]) rfl .(9) (z3G (z08 (z0 2)) (x4 (z0 2))) (λ_ _ _ _=>(j7 2 (show (["_law_part","_law_machine_here","_law_one"]:List Str).Nodup by decide +kernel))) (λ_ _ _ _=>v3) (λ_ _ _ _=>(se_c z9S .(D) (Z9 (Z9 (z0 1) Z3) (z0 2))))))) Z5) (z8 (s_if (zF9 (sc_c (zJ2 (hu30 hr)) (J9 (N':=["_law_k","_law_one"]) (cap:=[some 4,none]) rfl .(9) (z3G (z08 (z50 (z0 5) (z6b Z3) z6i)) (x4 (z50 (z0 5) (z6b Z3) z6i))) (λ_ _ _ _=>(j7 1 (show (["_law_k","_law_one"]:List Str).Nodup by decide +kernel))) (λ_ _ _ _=>(z0P (z3C (z0E (Z7 F0y .(F) rfl (z6 (z0 1) (z6 Z3 (z6 (z0 0) Z2)))))))) (λ_ _ _ _=>(z0 1))) (z0x Z2))) (z8 (Y7 z3s) Z5) (z8 (s_if .(x) (z8 (z0o (J2 (z0 3) (J9 (N':=["_law_truths","_law_part","_law_one"]) (cap:=[some 3,some 5,none]) rfl .(9) (z3G (z08 (z0 2)) (x4 (z0 2))) (λ_ _ _ _=>(j7 2 (show (["_law_truths","_law_part","_law_one"]:List Str).Nodup by decide +kernel))) (λ_ _ _ _=>v3) (λ_ _ _ _=>(z8M (Z9 (Z9 (z0 0) (Z9 (z0 1) Z3)) (z0 2))))))) Z5) (z8 (s_if .(x) (z8 (z0o (J2 (z0 3) (J9 (N':=["_law_truths","_law_part","_law_one"]) (cap:=[some 3,some 5,none]) rfl .(9) (z3G (z08 (z0 2)) (x4 (z0 2))) (λ_ _ _ _=>(j7 2 (show (["_law_truths","_law_part","_law_one"]:List Str).Nodup by decide +kernel))) (λ_ _ _ _=>v3) (λ_ _ _ _=>(z3q (Z9 (Z9 (z0 0) (Z9 (z0 1) Z3)) (z0 2)) (z5X (Z9 (Z9 (z0 0) (Z9 (z0 1) Z3)) (z0 2)))))))) Z5) (z8 (s_if .(x) (z8 (z0o (J2 (z0 3) (J9 (N':=["_law_machine_here","_law_truths","_law_part","_law_one"]) (cap:=[some 0,some 3,some 5,none]) rfl .(9) (z3G (z08 (z0 2)) (x4 (z0 2))) (λ_ _ _ _=>(j7 3 (show (["_law_machine_here","_law_truths","_law_part","_law_one"]:List Str).Nodup by decide +kernel))) (λ_ _ _ _=>v3) (λ_ _ _ _=>(z1t (se_c z9S z5T (J9 (N':=["_law_truths","_law_part","_law_to"]) (cap:=[some 1,some 2,none]) rfl .(9) (z3G (z08 (Z9 .(D) (z0 3))) (x4 (Z9 .(D) (z0 3)))) (λ_ _ _ _=>(j7 2 (show (["_law_truths","_law_part","_law_to"]:List Str).Nodup by decide +kernel))) (λ_ _ _ _=>v3) (λ_ _ _ _=>(Z9 (Z9 (z0 0) (Z9 (z0 1) Z3)) (z0 2)))))))))) Z5) (z8 (Y7 z3s) Z5)) Z5)) Z5)) Z5)) Z5)) Z5)) Z5)))) (z8 (Y7 (Z9 (z0 3) (zK8 Z3))) Z5)))))
noncomputable def z07:G->M Out :=
 (Z0 (z9w 3 3 z0N (z9 .(k) (z9 .(s) (z9 (eVar 2) aNil))) h_AreAlike (Z0 (sIf (cOr (cVal (eIsX x_NoPaper (eVar 3))) (cOr (cVal (eIsX x_NoSaying (eVar 3))) (cVal (eIsX x_TooMany (eVar 3))))) (Z0 (sRet (λ_=>pure (.bl false))) bNil) bNil) (Z0 (sRet (eAnd (eIsX x_TreeError (eVar 3)) (eIsX x_ValueError (eVar 3)))) bNil))) (Z0 (sRet (λ_=>pure (.bl false))) bNil))
noncomputable def z0v:List D->M D:=λds=>cln (runF 4 z07 ds)
theorem ok__law_refused (T:DefAt K "_law_refused" (top 33)) (mx:Mx K mg "_law_refused") (F0z:mg "ValueError" = none) (F04:mg "isinstance" = none) {F06:Addr}{bm_AreAlike:List Value}(F08:K3 K mg "AreAlike" F06 bm_AreAlike) {F0a:Addr}{bm_NoPaper:List Value}(F0A:K3 K mg "NoPaper" F0a bm_NoPaper) {F0b:Addr}{bm_TooMany:List Value}(F0B:K3 K mg "TooMany" F0b bm_TooMany) {F09:Addr}{bm_TreeError:List Value}(F0C:K3 K mg "TreeError" F09 bm_TreeError) {F0c:Addr}(F0D:mg "NoSaying" = .(r F0c)) (F0E:Catch K F06 h_AreAlike) (F0F:IsX K (.ref F0a) x_NoPaper) (F0G:IsX K (.ref F0c) x_NoSaying) (F0H:IsX K (.ref F0b) x_TooMany) (F0I:IsX K (.ref F09) x_TreeError) (F0J:IsX K (.type "ValueError") x_ValueError) (F0j:FnX P w K mg base 7 "parting" 3 z0N):Fn P w K mg base 8 "_law_refused" 3 z0v :=
 dfC ["_law_machine_here","_law_one","_law_other","e"] z07 T mx .(2) rfl .(d) λhcd hr nd =>
  (z8 (zM4 3 F0j F08 F0E .(F) rfl rfl (z6 (z0 0) (z6 (z0 1) (z6 (z0 2) Z2))) (λ_=>(z8 (s_if (SW.sc (z3W (z0E (z8g rfl F04 rfl F0A F0F (z0 3))) (z3W (z0E (zN6 rfl F04 rfl F0D F0G (z0 3))) (z41 (z0E (z8g rfl F04 rfl F0B F0H (z0 3))))))) (z8 (Y7 z5T) Z5) Z5) (z8 (Y7 (z3q (z8g rfl F04 rfl F0C F0I (z0 3)) (z5X (zB0 rfl F04 rfl F0z .(2) F0J (z0 3))))) Z5))) rfl rfl nd) (z8 (Y7 z5T) Z5))
noncomputable def zi6:G->M Out :=
 (Z0 (sAsg (eFn 1 z1h (z9 .(k) aNil)) (gN 1)) (Z0 (sAsg (eFn 2 z0X (z9 .(s) (z9 (eFn 2 Z4 (z9 .(s) (z9 (λ_=>pure (.int 4)) aNil))) aNil))) (gN 2)) (Z0 (sAsg (eFn 3 z0H (z9 .(s) (z9 (eFn 3 z0t (z9 .(s) (z9 (eVar 2) (z9 (λ_=>pure (.int 5)) aNil)))) (z9 (λ_=>pure (.int 6)) aNil)))) (gT 2 (z0Z (gN 3) (z0Z (gN 4) z5I)))) (Z0 (sAsg (eFn 1 z0Y (z9 (eVar 3) aNil)) (gN 5)) (Z0 (sFor (z0k (λ_=>pure (.int 4))) (gN 6) (Z0 (sAsg (eFn 2 Z4 (z9 .(s) (z9 (Z8 fLen .(u)) aNil))) (gN 7)) (Z0 (sAsg (eFn 2 Z4 (z9 .(s) (z9 (Z8 fLen .(u)) aNil))) (gN 8)) (Z0 (sIf (λγ=>do let d ← e2 (fEq false) (eVar 6) .(7) γ;asB d) (Z0 (sAsg (eVar 7) (gN 8)) bNil) bNil) (Z0 (sIf (λγ=>do let d ← e2 (fEqX false) (e2 fIx (eVar 5) (eVar 7)) (e2 fIx (eVar 5) (eVar 8)) γ;asB d) (Z0 (sIf (cNot (cVal (eFn 3 z0v (z9 (eVar 3) (z9 (eVar 7) (z9 (eVar 8) aNil)))))) (Z0 (sRet (λ_=>pure (.bl false))) bNil) bNil) bNil) (Z0 (sAsg (eFn 2 Y4 (z9 (eVar 3) (z9 (eFn 3 (noM z0N) (z9 (eVar 3) (z9 (eVar 7) (z9 (eVar 8) aNil)))) aNil))) (gN 9)) (Z0 (sIf (cOr (λγ=>do let d ← e2 (fIs false) (eVar 9) (λ_=>pure .non) γ;asB d) (cOr (cNot (cVal (e2 fIx (eVar 9) (eVar 7)))) (cVal (e2 fIx (eVar 9) (eVar 8))))) (Z0 (sRet (λ_=>pure (.bl false))) bNil) bNil) bNil))) bNil))))) (Z0 (sRet (λ_=>pure (.bl true))) bNil))))))
noncomputable def m_law:List D->M D:=runF 10 zi6
theorem sc_law:FnScope ["_law_script","_law_pool_here","_law_names_here","_law_machine_here","_law_raw","_law_homes_here","_law_k","_law_one","_law_other","_law_truths"] ["_law_script"] (j6 (top 34)):=⟨rfl,rfl,rfl,by decide +kernel,rfl,by decide +kernel,by decide +kernel⟩
theorem zT6 (g0:Int) (gr sm:List Int) (s c:Int) (r:AH) (n:Int) (hn:0<n) (hn2:n<1073741824) (hg:gr.length≤63) :
 ∃gr',gr'.length≤gr.length+1/\Z4 [.ref 2,.int n] (Pool (g0::gr) sm s c r)=.ok (.int (g0 % n)) (Pool gr' sm s c r):=by
 unfold Z4 runF z0T Pool z0D
 have hl:gr.length≤sizeLine:=K0r hg .(1)
 by_cases h0:g0 / n=0
 ·refine ⟨gr,by omega,?_⟩
  simp [Z0,bNil,sIf,sAsg,sRet,z0e,e2,Z8,z9,aNil,eVar,fIx,seqD,getL,fLen,fGt,fCmp,fI,asB,gIx,gN,fSet,fDiv,fIC,eM1,z2h,z2u,updL,fEq,eqD,fMod,atI,ixN,hn,hn2,h0,K5f,hl]
 ·refine ⟨g0 / n::gr,by simp,?_⟩
  simp [Z0,bNil,sIf,sAsg,sRet,z0e,e2,Z8,z9,aNil,eVar,fIx,seqD,getL,fLen,fGt,fCmp,fI,asB,gIx,gN,fSet,fDiv,fIC,eM1,z2h,z2u,updL,fEq,eqD,fMod,atI,ixN,hn,hn2,h0]
theorem zP2 (sm:List Int) (s c:Int) (r:AH) (n:Int) (hn:0<n) (hn2:n<1073741824) (hs:0≤s) (hs2:s<2147483647) (hc:0≤c) (hc2:c<1000000) (hm:sm.length≤63) :
 ∃s' d,Z4 [.ref 2,.int n] (Pool [] sm s c r)=.ok (.int d) (Pool [] sm s' (c+1) r)/\0≤d/\d<n/\0≤s'/\s'<2147483647:=by
 have k1:-18446744073709551616<c+1:=by omega
 have k2:c+1<18446744073709551616:=by omega
 have k3:-18446744073709551616<s:=by omega
 have k4:s<18446744073709551616:=by omega
 have key:∀x:Int,(∃y:Int,Z4 [.ref 2,.int n] (Pool [] sm s c r)=.ok (.int ((((s * 48271+x % 2147483629 * ((c+1) * (c+1)+1)+97 * (c+1)) % 2147483647) ^ 5) % 2147483629 / 64 % n)) (Pool [] sm ((s * 48271+x % 2147483629 * ((c+1) * (c+1)+1)+97 * (c+1)) % 2147483647) (c+1) r)) ->
  ∃s' d,Z4 [.ref 2,.int n] (Pool [] sm s c r)=.ok (.int d) (Pool [] sm s' (c+1) r)/\0≤d/\d<n/\0≤s'/\s'<2147483647:=λx ⟨_,e⟩ =>
  ⟨_,_,e,K56 _ .(0),K47 _ hn,K56 _ .(1),K47 _ .(1)⟩
 have p1:∀z:Int,-18446744073709551616<z % 2147483647:=λz=>by omega
 have p2:∀z:Int,z % 2147483647<18446744073709551616:=λz=>by omega
 have p3:∀z:Int,-18446744073709551616<z % 2147483629:=λz=>by omega
 have p4:∀z:Int,z % 2147483629<18446744073709551616:=λz=>by omega
 cases sm with
 | nil =>
  refine key 0 ⟨0,?_⟩
  unfold Z4 runF z0T Pool z0D
  simp [Z0,bNil,sIf,sAsg,sRet,z0e,e2,Z8,z9,aNil,eVar,fIx,seqD,getL,fLen,fGt,fCmp,fI,asB,gIx,gN,fSet,fDiv,fIC,eM1,z2h,z2u,updL,fEq,eqD,fMod,fAdd,fMul,z4N,fPow,atI,ixN,hn,hn2,k1,k2,k3,k4,p1,p2,p3,p4]
 | cons m0 sm =>
  have hl:(0:Int)<(sm.length:Int)+1:=by omega
  have hi:0≤(c+1) % ((sm.length:Int)+1):=K56 _ .(0)
  have hi2:(c+1) % ((sm.length:Int)+1)<(sm.length:Int)+1:=K47 _ hl
  obtain ⟨x,hx⟩:∃x,(D.int m0::sm.map D.int)[((c+1) % ((sm.length:Int)+1)).toNat]?=.(i x):=by
   have e:(D.int m0::sm.map D.int)=(m0::sm).map D.int:=rfl
   rw [e,K07,K6 (by simp;omega)]
   exact ⟨_,rfl⟩
  have hx2:∀hj,(D.int m0::List.map D.int sm)[((c+1) % ((sm.length:Int)+1)).toNat]'hj=D.int x:=λhj=>K10 ((K6 hj).symm.trans hx)
  refine key x ⟨0,?_⟩
  unfold Z4 runF z0T Pool z0D
  simp [Z0,bNil,sIf,sAsg,sRet,z0e,e2,Z8,z9,aNil,eVar,fIx,seqD,getL,fLen,fGt,fCmp,fI,asB,gIx,gN,fSet,fDiv,fIC,eM1,z2h,z2u,updL,fEq,eqD,fMod,fAdd,fMul,z4N,fPow,atI,ixN,hn,hn2,k1,k2,k3,k4,p1,p2,p3,p4,hi,hi2,hl,hx,hx2]
theorem draw {h:AH}{k n:Int}{r:AH}(p:PS h k r) (hk:k<1000000) (hn:0<n) (hn2:n<1073741824):∃d h',Z4 [.ref 2,.int n] h=.ok (.int d) h'/\0≤d/\d<n/\PS h' (k+1) r:=by
 obtain ⟨gr,sm,s,c,rfl,h1,h2,h3,h4,h5,h6⟩:=p
 cases gr with
 | nil =>
  obtain ⟨s',d,e,q1,q2,q3,q4⟩:=zP2 sm s c r n hn hn2 h1 h2 h3 .(0) h6
  exact ⟨d,_,e,q1,q2,[],sm,s',c+1,rfl,q3,q4,by omega,by omega,by simp,h6⟩
 | cons g0 gr =>
  simp at h5
  obtain ⟨gr',l,e⟩:=zT6 g0 gr sm s c r n hn hn2 .(0)
  exact ⟨_,_,e,K56 _ .(0),K47 _ hn,gr',sm,s,c,rfl,h1,h2,h3,by omega,by omega,h6⟩
theorem z0G {h:AH}{k n:Int}{r:AH}{Q:D->AH->Prop}(p:PS h k r) (hk:k<1000000) (hn:0<n) (hn2:n<1073741824) (z:∀d h',0≤d->d<n->PS h' (k+1) r->Q (.int d) h'):W (Z4 [.ref 2,.int n]) h Q:=by
 obtain ⟨d,h',e,d0,d1,p'⟩:=draw p hk hn hn2
 exact ⟨_,_,e,z d h' d0 d1 p'⟩
theorem zh8 {ns:List Int}(hn:ns.length≤63):W (z1h [.fl (ns.map .int)]) [] (λd h'=>d=.ref 2/\PS h' 0 []):=by
 refine z2C ?_
 show W (z1p [some (.fl (ns.map .int)),none]) [] _
 unfold z1p z7y
 rw [w_cons];simp only [K0k,K0f,Z6,W_pure,z03,e2,eVar,gN,sAsg]
 have src:∀(γ:G) (h:AH),γ[0]?=some (some (.fl (ns.map .int)))->x6 .(k) γ h=.ok (.con (ns.map .int)) h:=λγ h e=>by
  unfold x6 eVar
  rw [e]
  rfl
 refine W.of (z1w (src:=.con (ns.map .int)) (λd=>match d with|.int t=>decide (1000000000000000000≤t)|_=>false) (λd=>d) (src _ _ rfl) (λ_=>trivial) (by simp [Src.items];omega) λd hd=>?_) ?_
 ·obtain ⟨t,ht,rfl⟩:=K09.mp hd
  refine ⟨[.(i t)],λh=>rfl,λj=>?_,λ_ j=>rfl⟩
  simp only [K9,bindM,pureM,zI2,zQ6,z0M]
 rw [show (Src.con (ns.map D.int)).items=ns.map D.int from rfl,z1U]
 rw [w_cons];simp only [K04,K9,K0u,Z6,W_pure,z9,aNil,z2v,eLst,eVar,sRet]
 refine W.of (z1w (src:=.con (ns.map .int)) (λd=>match d with|.int t=>decide (t<1000000000000000000)|_=>false) (λd=>d) (src _ _ rfl) (λ_=>trivial) (by simp [Src.items];omega) λd hd=>?_) ?_
 ·obtain ⟨t,ht,rfl⟩:=K09.mp hd
  refine ⟨[.(i t)],λh=>rfl,λj=>?_,λ_ j=>rfl⟩
  simp only [K9,bindM,pureM,zI2,zj1,z0M]
 rw [show (Src.con (ns.map D.int)).items=ns.map D.int from rfl,z1U]
 refine W.of (a:=.ref 2) (h':=Pool (ns.filter λi=>decide (1000000000000000000≤i)) (ns.filter λi=>decide (i<1000000000000000000)) 5 0 []) ?_ ?_
 ·unfold newL
  rw [if_pos (by simp;decide)]
  rfl
 ·refine ⟨rfl,_,_,5,0,rfl,by decide,by decide,by decide,by decide,?_,?_⟩
  ·exact K0r (K4m _ _) hn
  ·exact K0r (K4m _ _) hn
theorem z8Z {h:AH}{k:Int}{r:AH}{i:Nat}{start:Str}{ns:List Str}(p:PS h k r) (hk:k<900000) (lo:low start) (hs:start.length≤4) (e:r[i]?=.(l (ns.map .str))) (hn:ns.length≤7) :
 W (runF 9 z0Q [.ref 2,.str start,.ref (i+3)]) h (λd h'=>∃x j,d=.str x/\PS h' (k+5) (r++j)/\z6o x/\x∉ns):=by
 refine z2C ?_
 show W (z0Q [.(r 2),.(s start),.(r (i+3)),none,none,none,none,none,none]) h _
 unfold z0Q
 rw [show ("abcdefghijklmnopqrstuvwxyz":Str)=abc from rfl]
 rw [w_cons];simp only [K0k,K0f,Z6,W_pure,z03,e2,eVar,gN,sAsg]
 rw [w_cons];simp only [K04,K9,K0k,K0f,Z6,W_pure,z03,eVar,gN,sAsg]
 rw [w_cons]
 refine Y8 (λc γ h=>∃x w,γ=[.(r 2),.(s start),.(r (i+3)),.(s abc),.(s x),w,none,none,none]/\PS h (k+1+c) r/\low x/\x.length≤4+c) (λ_ _=>False) ?_
 simp only [K9,K0g,K0u,K1b,z1u,Z6,z19,W_pure,z9,aNil,z03,z2v,eFn,eVar,if_true]
 refine z0G p .(0) .(1) .(1) λd h1 d0 d1 p1=>?_
 refine ⟨d.toNat,by rw [K6e d0],by omega,⟨start,none,rfl,by simpa using p1,lo,by omega⟩,?_,?_,λ_ _ q=>q.elim⟩
 ·rintro c γ h2 hc ⟨x,w,rfl,p2,lx,hx⟩
  rw [w_cons];simp only [K04,K9,K0g,K0u,K0k,K0f,K1b,z1u,Z6,z19,W_pure,z9,aNil,z03,e2,eFn,eVar,gN,if_true,sAsg,z6n]
  refine z0G p2 .(0) .(1) .(1) λd h1 d0 d1 p1=>?_
  refine z4M (k:=k) (r:=r) d0 d1 .(0) ?_
  refine ⟨_,_,rfl,p1.up .(0),z6F lx .(0) .(0),by rw [len_app,z3B];omega⟩
 rintro γ h2 ⟨x,w,rfl,p2,lx,hx⟩
 rw [w_cons];simp only [K9,K0g,K0u,K0k,K0f,K1b,z1u,Z6,z19,W_pure,z9,aNil,z03,eFn,eVar,gN,if_true,sAsg]
 refine z0G (p2.up (show _≤k+4 by omega)) .(0) .(1) .(1) λl h3 l0 l1 p3=>?_
 rw [w_cons];simp only [K0k,K0f,Z6,W_pure,z9,aNil,z03,eLst,gN,sAsg]
 rw [show [D.str "yes",D.str "no",D.str "not",D.str "and",D.str "or",D.str "step",D.str "some",D.str "all",D.str "next",D.str "once",D.str "ever",D.str "until",D.str "unless"]=words.map D.str from rfl]
 refine z1R p3 .(1) λh4 p4=>?_
 rw [w_cons]
 refine Y8 (λc γ h=>∃w w',γ=[.(r 2),.(s start),.(r (i+3)),.(s abc),.(s x),w,.(i l),.(r (.(z)+3)),w']/\PS h (k+5) (r++[.lst (words.map .str)])/\∀c':Nat,c'<c->cand x l c'∈words∨cand x l c'∈ns) (λd h=>∃c:Nat,d=.str (cand x l c)/\cand x l c∉words/\cand x l c∉ns/\PS h (k+5) (r++[.lst (words.map .str)])) ?_
 rw [W_pure]
 refine ⟨26,rfl,by decide,⟨_,_,rfl,p4.up .(0),λc' hc=>by omega⟩,?_,?_,?_⟩
 ·rintro c γ h5 hc ⟨w,w',rfl,p5,hb⟩
  rw [w_cons];simp only [K04,K9,K0k,K0f,Z6,W_pure,z2P,z03,e2,eVar,gN,sAsg]
  have m1:fMod (.int (l+c)) (.int 26)=pure (.int ((l+c) % 26)):=rfl
  rw [m1,W_pure]
  refine z4M (k:=k) (r:=r) (K56 _ .(1)) (K47 _ .(1)) .(0) ?_
  rw [w_cons];simp only [K25,K04,K9,Z6,z19,W_pure,cAnd,z03,if_false,sIf,z6n]
  refine W.of (zn4 p5 z4k) ?_
  rw [z0M,W_pure]
  by_cases q1:cand x l c∈words
  ·have:(decide (x++{ cps:=#[((l+(c:Int)) % 26).toNat+97] }∈words) != true)=false:=by
    rw [show decide (x++{ cps:=#[((l+(c:Int)) % 26).toNat+97] }∈words)=true from .(o) q1];rfl
   rw [this]
   simp only [K25,if_false]
   refine ⟨_,_,rfl,p5,λc' hc'=>?_⟩
   by_cases e':c'=c
   ·subst e';exact .inl q1
   ·exact hb c' .(0)
  ·have:(decide (x++{ cps:=#[((l+(c:Int)) % 26).toNat+97] }∈words) != true)=true:=by
    rw [show decide (x++{ cps:=#[((l+(c:Int)) % 26).toNat+97] }∈words)=false from .(p) q1];rfl
   rw [this]
   simp only [if_true]
   refine W.of (zn4 p5 (x8 e)) ?_
   by_cases q2:cand x l c∈ns
   ·have:(decide (x++{ cps:=#[((l+(c:Int)) % 26).toNat+97] }∈ns) != true)=false:=by
     rw [show decide (x++{ cps:=#[((l+(c:Int)) % 26).toNat+97] }∈ns)=true from .(o) q2];rfl
    rw [this]
    simp only [K25,W_pure,z0M,if_false]
    refine ⟨_,_,rfl,p5,λc' hc'=>?_⟩
    by_cases e':c'=c
    ·subst e';exact .inr q2
    ·exact hb c' .(0)
   ·have:(decide (x++{ cps:=#[((l+(c:Int)) % 26).toNat+97] }∈ns) != true)=true:=by
     rw [show decide (x++{ cps:=#[((l+(c:Int)) % 26).toNat+97] }∈ns)=false from .(p) q2];rfl
    rw [this]
    simp only [W_pure,z0M,if_true]
    rw [w_cons];simp only [K04,K9,Z6,W_pure,z2v,eVar,sRet]
    exact ⟨c,rfl,q1,q2,p5⟩
 ·rintro γ h5 ⟨w,w',rfl,p5,hb⟩
  exact (zI1 l0 hn hb).elim
 ·rintro d h5 ⟨c,rfl,q1,q2,p5⟩
  refine ⟨cand x l c,[.lst (words.map .str)],rfl,p5,⟨?_,?_,?_,q1⟩,q2⟩
  ·unfold cand;rw [len_app,z3B];omega
  ·unfold cand;rw [len_app,z3B];omega
  ·exact z6F lx .(0) .(0)
theorem zi8 {h:AH}{k:Int}{r:AH}{i:Nat}{start:Str}{ns:List Str}(p:PS h k r) (c:CL r) (hk:k<900000) (lo:low start) (hs:start.length≤4) (e:r[i]?=.(l (ns.map .str))) (hn:ns.length≤7) :
 W (z1l [.ref 2,.str start,.ref (i+3)]) h (λd h'=>∃x,d=.str x/\PS h' (k+5) r/\z6o x/\x∉ns) :=
 zz1 p c ((z8Z p hk lo hs e hn).mono λd h1 ⟨x,j,e,p1,g,n⟩=>⟨_,j,p1,by subst e;rfl,λh2 p2=>⟨x,e,p2,g,n⟩⟩)
theorem z8E {h:AH}{k:Int}{r:AH}{n:Nat}(p:PS h k r) (cl:CL r) (hk:k<800000) (hn:n≤8) {Q:D->AH->Prop}(z:∀ns h',ns.length=n->NS ns->PS h' (k+45) (r++[.lst (ns.map .str)])->Q (.ref (r.length+3)) h') :
 W (z0X [.ref 2,.int n]) h Q:=by
 refine zN2 p cl ?_
 refine z2C ?_
 show W (z0V [.(r 2),.(i n),none,none,none,none]) h _
 unfold z0V
 rw [show ("abcdefghijklmnopqrstuvwxyz":Str)=abc from rfl]
 refine zq8 (.str abc) _ rfl rfl ?_
 refine zq8 (.str "") _ rfl rfl ?_
 rw [w_cons]
 refine Y8 (λc γ h=>∃x w,γ=[.(r 2),.(i n),.(s abc),.(s x),w,none]/\PS h (k+1+c) r/\low x/\x.length≤c) (λ_ _=>False) ?_
 refine zv0 p cl ?_
 simp only [K9,K0g,K0u,K0k,K0f,K1b,z1u,Z6,z19,W_pure,z9,aNil,z03,z2v,e2,eFn,eLst,eVar,if_true]
 refine z1R p .(1) λh1 p1=>?_
 refine z0G p1 .(0) .(1) .(1) λd h2 d0 d1 p2=>?_
 obtain ⟨v,hv,ea⟩:∃v:Nat,v≤4/\atI [D.int 0,D.int 0,D.int 1,D.int 4] d=.(i v):=by
  have:d=0∨d=1∨d=2∨d=3:=by omega
  rcases this with rfl|rfl|rfl|rfl
  ·exact ⟨0,by decide,rfl⟩
  ·exact ⟨0,by decide,rfl⟩
  ·exact ⟨1,by decide,rfl⟩
  ·exact ⟨4,by decide,rfl⟩
 refine zG1 p2 z4k ea ?_
 refine ⟨_,_,p2,rfl,λh2 p2=>⟨v,rfl,by omega,⟨_,none,rfl,by simpa using p2,zp0,by rw [zs9];omega⟩,?_,?_,λ_ _ q=>q.elim⟩⟩
 ·rintro c γ h3 hc ⟨x,w,rfl,p3,lx,hx⟩
  rw [w_cons];simp only [K04,K9,K0g,K0u,K0k,K0f,K1b,z1u,Z6,z19,W_pure,z9,aNil,z03,e2,eFn,eVar,gN,if_true,sAsg,z6n]
  refine z0G p3 .(0) .(1) .(1) λd h1 d0 d1 p1=>?_
  refine z4M (k:=k) (r:=r) d0 d1 .(0) ?_
  refine ⟨_,_,rfl,p1.up .(0),z6F lx .(0) .(0),by rw [len_app,z3B];omega⟩
 rintro γ h3 ⟨x,w,rfl,p3,lx,hx⟩
 refine zb0 ?_
 simp only [K0k,K0f,Z6,W_pure,aNil,eLst]
 refine z1R p3 .(1) λh4 p4=>?_
 rw [w_cons]
 refine Y8 (λc γ h=>∃ns w,γ=[.(r 2),.(i n),.(s abc),.(s x),w,.(r (.(z)+3))]/\PS h (k+5+5 * c) (r++[.lst (ns.map .str)])/\ns.length=c/\NS ns) (λ_ _=>False) ?_
 simp only [K04,K9,W_pure,z03,z2v,eVar]
 refine ⟨n,rfl,by omega,⟨[],_,rfl,p4.up .(0),rfl,⟨K93,by simp⟩⟩,?_,?_,λ_ _ q=>q.elim⟩
 ·rintro c γ h5 hc ⟨ns,w,rfl,p5,l5,n5⟩
  rw [w_cons];simp only [K04,K9,K0g,K0u,K0k,K0f,K1b,z6h,z1u,Z6,z19,W_pure,z9,aNil,z03,eFn,eM1,eVar,if_true,z0e,z6n]
  refine z5Y p5 z4k ?_
  refine (zi8 p5 (cl.put (z1B ns)) .(0) lx .(0) z4k .(0)).mono λy h6 ⟨z,ey,p6,gz,nz⟩=>?_
  subst ey
  refine z7t p6 z4k (by simp;omega) λh7 p7=>?_
  refine ⟨ns++[z],_,rfl,?_,by simp [l5],⟨?_,?_⟩⟩
  ·have:=p7.up (k':=k+5+5 * ((c+1:Nat):Int)) .(0)
   simpa using this
  ·rw [K3o]
   refine ⟨n5.1,by simp,λa ha b hb=>?_⟩
   simp at hb
   subst hb
   exact λe=>nz (e ▸ ha)
  ·intro y hy
   rcases K0o.mp hy with q|q
   ·exact n5.2 y q
   ·simp at q;subst q;exact gz
 ·rintro γ h5 ⟨ns,w,rfl,p5,l5,n5⟩
  exact zR9 _ rfl ⟨k+45,_,.(z),_,rfl,p5.up .(0),K05 _,z4k,z1B ns,λh2 p2=>z ns h2 l5 n5 p2⟩
section
variable {st:List (List Nat)}{mk:List (List Str)}{bl:Bl}
theorem zz7 {x:Nat}{s:Str}(hx:x<mk.length):z3K [maD st mk,.int (x:Nat),.str s]=pure (.bl (bear s mk x)):=by
 unfold z3K
 rw [z6e,z4t]
 show z4D [some .(a),.(i (x:Nat)),.(s s)]=_
 unfold z4D bear
 refine zs6 _ ?_
 by_cases e:s = ""
 ·subst e
  simp only [K2e,K04,K9,z0M,z1m,decide_true,e2,eOr,eVar,zq7,if_true]
  rfl
 ·simp only [K2e,K25,K50,K04,K9,z0M,z1m,bne_self_eq_false,decide_eq_false e,e2,eOr,eVar,zq7,if_false,z8V,z5t,ix_tup (z9r hx)]
theorem z93 {h:AH}(hs:st.length≤40):Y9 [maD st mk] h=.ok .(r) (h++[.dK (kvB [(0,K00 st.length)])]):=by
 show cln (runF 1 z06 [maD st mk]) h=_
 refine z2m (j:=[.dK (kvB [(0,K00 .(h))])]) (z4C ?_) rfl (z2Z h) (K05 _) Y5 (refB _)
 show W (z06 [some .(a)]) h _
 unfold z06
 refine z0l .(r) ?_ ⟨rfl,rfl⟩
 refine zl2 (kk:=.inl 0) rfl rfl ?_
 rw [zB8 (tup:=true) (n:=.(h)) (h1:=h++[.dK []]) (J5 (e2_h .(b) (y:=.int 0) rfl (by rw [z2f];rfl)) (by rw [z1C,z2E];rfl)) .(0),if_pos rfl,pureM];rfl
theorem z5B {h:AH}{b x:Nat}{d:D}(sq:SQ st) (lm:mk.length=st.length) (dc:Dic h b bl) (hx:x<st.length) (nl:(nx st x).length≤40) (ok:ByOk bl d):z14 [maD st mk,.ref b,.int (x:Nat),d] h=.ok (.bl (bel st mk bl d x)) h:=by
 refine zn8 (z4C ?_) rfl
 show W (z2b [some .(a),.(r b),.(i (x:Nat)),some d]) h _
 unfold z2b
 rcases ok with ⟨s,rfl⟩|⟨k,rfl,hk⟩
 ·refine z0m true (cv_h (z42 .(b) rfl)) ?_
  rw [if_pos rfl]
  exact z0I (z0l _ (fn_h (ds:=[maD st mk,.int (x:Nat),.str s]) .(I) rfl (by rw [zz7 .(0)];rfl)) ⟨rfl,rfl⟩)
 ·refine z0m false (cv_h (z42 .(b) rfl)) ?_
  rw [if_neg .(1)]
  refine z05 (z0l (.bl (((nx st x).map λo=>decide (o∈blk bl k)).any id)) (zT7 ?_) ⟨?_,rfl⟩)
  ·refine (z2A (src:=.con (stD (nx st x))) (l:=nx st x) (λ_=>true) (λo=>.bl (decide (o∈blk bl k))) (z1x ?_) rfl (λ_=>trivial) .(0) λo ho=>⟨[.(r b),.(i (k:Nat)),.(i o)],λh=>rfl,λj=>rfl,λ_ j=>?_⟩).trans ?_
   ·exact e2_h (e2_h .(b) (y:=.int 0) rfl (by rw [z2f];rfl)) .(b) (by rw [z7B hx];rfl)
   ·exact e2_h .(b) (e2_h .(b) .(b) ((dc.app j).get hk)) (by rw [zB4];simp)
   ·rw [filter_tt,K0w]
    rfl
  ·rw [K89]
   rfl
def prt (l:List Nat) (f:Nat->Bool):List .(O):=[l.filter f,l.filter λx=>!f x].filter λp=>decide (0<p.length)
theorem z6L {h:AH}{b:Nat}{l:List Nat}{d:D}(sq:SQ st) (lm:mk.length=st.length) (dc:Dic h b bl) (hl:∀x∈l,x<st.length) (ll:l.length≤40) (nl:∀x,(nx st x).length≤40) (ok:ByOk bl d):z1H [maD st mk,.ref b,.tup (stD l),d] h=.ok .(r) (h++[.lst (stsD (prt l (bel st mk bl d)))]):=by
 obtain ⟨f,hf⟩:∃f,f=bel st mk bl d:=⟨_,rfl⟩
 rw [← hf]
 show cln (runF 6 z29 [maD st mk,.ref b,.tup (stD l),d]) h=_
 refine z2m (j:=[.lst (stsD (prt l f))]) (z4C ?_) rfl (z2Z h) (K05 _) Y5 (z0c λa=>z47 a)
 show W (z29 [some .(a),.(r b),.(g (stD l)),some d,none,none]) h _
 unfold z29
 refine J8 (.tup (stD (l.filter f))) [some .(a),.(r b),.(g (stD l)),some d,.(g ((stD (l.filter f)))),none] (z6p ?_ (z25 _)) rfl ?_
 ·refine (z2A (src:=.con (stD l)) (l:=l) f (λx=>.int x) (z1x .(b)) rfl (λ_=>trivial) .(0) λx hx=>⟨[some .(a),.(r b),some d,.(i x)],λh=>rfl,λj=>?_,λ_ j=>rfl⟩)
  rw [hf]
  exact cv_h (fn_h (ds:=[maD st mk,.ref b,.int x,d]) (ac_h .(b) .(I)) rfl (z5B sq lm (dc.app j) (hl x hx) (nl x) ok))
 refine J8 (.tup (stD (l.filter λx=>!f x))) [some .(a),.(r b),.(g (stD l)),some d,.(g ((stD (l.filter f)))),.(g ((stD (l.filter λx=>!f x))))] (z6p ?_ (z25 _)) rfl ?_
 ·refine (z2A (src:=.con (stD l)) (l:=l) (λx=>!f x) (λx=>.int x) (z1x .(b)) rfl (λ_=>trivial) .(0) λx hx=>⟨[.(g ((stD (l.filter f)))),.(i x)],λh=>rfl,λj=>?_,λ_ j=>rfl⟩)
  refine (cb_h (e2_h .(b) .(b) (by rw [zB4];rfl))).trans ?_
  congr 1
  cases q:f x with
  | true=>rw [decide_eq_true (K0t.mpr ⟨hx,q⟩)];rfl
  | false=>rw [decide_eq_false (λz=>by have:=(K0t.mp z).2;rw [q] at this;cases this)];rfl
 have tw:eTup (z9 (eVar 4) .(u)) [some .(a),.(r b),.(g (stD l)),some d,.(g ((stD (l.filter f)))),.(g ((stD (l.filter λx=>!f x))))] h=.ok (.tup (stsD [l.filter f,l.filter λx=>!f x])) h:=z2e .(b) .(b)
 refine z0l .(r) ?_ ⟨rfl,rfl⟩
 refine (z1w (src:=.con (stsD [l.filter f,l.filter λx=>!f x])) (λd=>match d with|.tup xs=>decide (0<xs.length)|_=>false) (λd=>d) (z1x tw) (λ_=>trivial) (by simp [Src.items,stsD]) λy hy=>?_).trans (congrArg (λxs=>Res.ok (D.ref h.length) (h++[O.lst xs])) ?_)
 ·obtain ⟨q,hq,rfl⟩:=K09.mp hy
  refine ⟨[.(g (stD q))],λh=>rfl,λj=>(cb_h (e2_h (J5 .(b) (by rw [z1C];rfl)) (y:=.int 0) rfl (by rw [zK0];rfl))).trans ?_,λ_ j=>rfl⟩
  congr 1
  show _=decide (0<(stD q).length)
  rw [decide_eq_decide];omega
 ·show ((stsD _).filter _).map _=_
  unfold stsD prt
  rw [K8s,Z00]
  congr 1
  refine List.filter_congr λq _=>?_
  show decide (0<(stD q).length)=_
  rw [J7]
theorem prt_len {l:List Nat}{f:Nat->Bool}:(prt l f).length=2↔l.filter f≠[]/\(l.filter λx=>!f x)≠[]:=by
 unfold prt
 cases e1:l.filter f<;>cases e2:(l.filter λx=>!f x)<;>simp
theorem zv5 {l:List Nat}{f:Nat->Bool}(h1:l.filter f≠[]) (h2:(l.filter λx=>!f x)≠[]):prt l f=[l.filter f,l.filter λx=>!f x]:=by
 unfold prt
 cases e1:l.filter f<;>cases e2:(l.filter λx=>!f x)<;>simp_all
end
def ByN (mk:List (List Str)) (bl:Bl) (k:Nat) (y:D):Prop:=(∃x∈blk bl k,∃s∈mkAt mk x,y=.str s)∨∃k':Nat,y=.int (k':Nat)/\k'∈bl.map (·.1)
theorem ByN.ok {mk:List (List Str)}{bl:Bl}{k:Nat}{y:D}(h:ByN mk bl k y):ByOk bl y:=by
 rcases h with ⟨_,_,s,_,e⟩|h
 ·exact .inl ⟨s,e⟩
 ·exact .inr h
def z5r (mk:List (List Str)):D->List D
 | .int x=>(mkAt mk x.toNat).map .str
 | _=>[]
theorem zm4 {mk:List (List Str)}(m8:∀l∈mk,l.length≤8):∀l:List Nat,((stD l).flatMap (z5r mk)).length≤l.length * 8
 | []=>by simp [stD]
 | x::l=>by
  have ih:=zm4 m8 l
  show ((D.int (x:Nat)::stD l).flatMap (z5r mk)).length≤_
  rw [K2m,K01,K0g]
  have:(z5r mk (.int (x:Nat))).length≤8:=by
   show ((mkAt mk ((x:Nat):Int).toNat).map D.str).length≤8
   rw [K02,K0l]
   unfold mkAt
   by_cases hx:x<mk.length
   ·rw [K6 hx]
    exact m8 _ (K4w _)
   ·rw [K15 .(0)];simp
  omega
theorem zb2 {me:G->M D}{γ:G}{h h1:AH}{i:Nat}{xs:List D}(e:me γ h=.ok (.ref i) h1) (q:h1[i]?=.(l xs)):x6 me γ h=.ok (.lst i xs) h1:=by
 have g:getL i h1=.ok xs h1:=by unfold getL;rw [q]
 unfold x6
 rw [M.bind_ok e]
 dsimp only
 rw [M.bind_ok g]
 rfl
section
variable {st:List (List Nat)}{mk:List (List Str)}{bl:Bl}
theorem zx9 (ma:MA st mk) (x:Nat):(nx st x).length≤40:=by
 have l2:=ma.l2
 by_cases hx:x<.(h)
 ·have g:=K0d (z6K hx)
  exact K0r (z2n (ma.s1 _ g) (ma.s2 _ g)) l2
 ·unfold nx
  rw [K15 .(0)]
  simp
theorem zk9 (pb:PB st.length bl) {k:Nat}(hk:k∈bl.map (·.1)):(∀x∈blk bl k,x<st.length)/\(blk bl k).length≤st.length:=by
 have m:=pb.of_key hk
 have lt:∀x∈blk bl k,x<st.length:=λx hx=>pb.lt m hx
 exact ⟨lt,z2n (pb.rise _ m) lt⟩
def cnds (mk:List (List Str)) (bl:Bl) (k:Nat):List D:=(stD (blk bl k)).flatMap (z5r mk)++stD (bl.map (·.1))
def Fst (st:List .(O)) (mk:List (List Str)) (bl:Bl) (k:Nat) (y:D):Prop:=∃c p,bl[c]?=some p/\p.1=k/\(∀q∈bl.take c,∀z,ByN mk bl q.1 z->¬ Cut bl q.1 (bel st mk bl z))/\∃i:Nat,(cnds mk bl k)[i]?=some y/\∀z∈(cnds mk bl k).take i,¬ Cut bl k (bel st mk bl z)
theorem zl7 {h:AH}{b:Nat}(ma:MA st mk) (pb:PB st.length bl) (dc:Dic h b bl):∃d,z1d [maD st mk,.ref b] h=.ok d (h.set b (.dF (kvB bl)))/\.(P):=by
 have l2:=ma.l2
 have lm:=ma.l3
 obtain ⟨hF,hhF⟩:∃hF,hF=h.set b (.dF (kvB bl)):=⟨_,rfl⟩
 have dF:∀j,Dic (hF++j) b bl:=λj=>by rw [hhF];exact dc.set.app j
 have bln:=pb.len
 have key:W (runF 6 z0L [maD st mk,.ref b]) h λd h'=>(∃j,h'=hF++j)/\.(P):=by
  refine z2C ?_
  show W (z0L [some .(a),.(r b),none,none,none,none]) h _
  unfold z0L
  rw [w_cons]
  refine z22 (λc γ h'=>∃a e n y j,γ=[some .(a),.(r b),a,e,n,y]/\h'=hF++j/\∀p∈bl.take c,∀y,ByN mk bl p.1 y->¬ Cut bl p.1 (bel st mk bl y)) (λd h'=>(∃j,h'=hF++j)/\∃(k:Nat) (y:D),d=.tup .(i)/\ByN mk bl k y/\Fst st mk bl k y/\Cut bl k (bel st mk bl y)) ?_
  refine W_of (v:=.con (stD (bl.map (·.1)))) (dc.walk .(b)) ?_
  refine ⟨⟨_,_,_,_,[],rfl,by rw [hhF];simp,by simp⟩,λ_ _ _ _=>trivial,?_,?_,?_⟩
  ·rintro c d γ _ hd ⟨a,e,n,y,j,rfl,rfl,no⟩
   obtain ⟨k,rfl,ek⟩:=z53 hd
   rw [K07] at ek
   obtain ⟨p,ep,rfl⟩:=K16.mp ek
   have hp:=K0d ep
   have hk:p.1∈bl.map (·.1):=K09.mpr ⟨p,hp,rfl⟩
   obtain ⟨blt,bll⟩:=zk9 pb hk
   refine W_eq (v:=[some .(a),.(r b),.(i (p.1:Nat)),e,n,y]) rfl ?_
   refine J8 (.tup (stD (blk bl p.1))) [some .(a),.(r b),.(i (p.1:Nat)),.(g ((stD (blk bl p.1)))),n,y] (e2_h .(b) .(b) ((dF j).get hk)) rfl ?_
   obtain ⟨nm,hnm⟩:∃nm,nm=(stD (blk bl p.1)).flatMap (z5r mk):=⟨_,rfl⟩
   have nml:nm.length≤320:=by
    have:=zm4 (mk:=mk) (λl hl=>(ma.m1 l hl).len) (blk bl p.1)
    rw [← hnm] at this
    omega
   refine J8 (.ref (hF++j).length) .(H) (h1:=hF++j++[.lst nm]) ?_ rfl ?_
   ·rw [hnm]
    refine zu9 (src:=.con (stD (blk bl p.1))) (z5r mk) (z1x .(b)) (λ_=>trivial) (by show ((stD (blk bl p.1)).flatMap (z5r mk)).length≤_;rw [← hnm];omega) λd hd=>?_
    obtain ⟨x,hx,rfl⟩:=K09.mp (show d∈(blk bl p.1).map _ from hd)
    have hx':=blt x hx
    refine ⟨[some .(a),.(i (x:Nat)),none],λh=>rfl,λj'=>?_,λy hy=>⟨[some .(a),.(i (x:Nat)),some y],λh=>rfl,λh=>rfl,λj'=>rfl⟩⟩
    refine z1x ?_
    refine e2_h (e2_h .(b) (y:=.int 1) rfl (by rw [z5t];rfl)) .(b) ?_
    rw [ix_tup (z9r (show x<mk.length by omega))]
    show Res.ok (D.tup (((mk[x]?).getD []).map .str)) _=Res.ok (D.tup (z5r mk (.int (x:Nat)))) _
    rfl
   obtain ⟨L,hL⟩:∃L,L=nm++stD (bl.map (·.1)):=⟨_,rfl⟩
   have Lc:cnds mk bl p.1=L:=by rw [hL,hnm];rfl
   have Ll:L.length≤400:=by rw [hL,K01,J7,K02];omega
   obtain ⟨j1,hj1⟩:∃j1,j1=j++[O.lst nm]++[O.lst L]:=⟨_,rfl⟩
   have inL:∀y,y∈L↔ByN mk bl p.1 y:=λy=>by
    rw [hL,K0o,hnm,K7x]
    unfold ByN
    refine or_congr ⟨?_,?_⟩ ⟨?_,?_⟩
    ·rintro ⟨d,hd,hy⟩
     obtain ⟨x,hx,rfl⟩:=K09.mp (show d∈(blk bl p.1).map _ from hd)
     obtain ⟨s,hs,rfl⟩:=K09.mp (show y∈(mkAt mk ((x:Nat):Int).toNat).map D.str from hy)
     exact ⟨x,hx,s,hs,rfl⟩
    ·rintro ⟨x,hx,s,hs,rfl⟩
     exact ⟨.int (x:Nat),K09.mpr ⟨x,hx,rfl⟩,K09.mpr ⟨s,hs,rfl⟩⟩
    ·intro hy
     obtain ⟨k',hk',rfl⟩:=K09.mp (show y∈(bl.map (·.1)).map _ from hy)
     exact ⟨k',rfl,hk'⟩
    ·rintro ⟨k',rfl,hk'⟩
     exact K09.mpr ⟨k',hk',rfl⟩
   refine z2w (λγ h'=>∃y j,γ=[some .(a),.(r b),.(i (p.1:Nat)),.(g ((stD (blk bl p.1)))),.(r ((hF++(j1.take (j1.length - 2))).length)),y]/\h'=hF++j/\∀y∈L,¬ Cut bl p.1 (bel st mk bl y)) ?_ ?_
   ·refine z22 (λc γ h'=>∃y j,γ=[some .(a),.(r b),.(i (p.1:Nat)),.(g ((stD (blk bl p.1)))),.(r ((hF++(j1.take (j1.length - 2))).length)),y]/\h'=hF++(j1++j)/\∀y∈L.take c,¬ Cut bl p.1 (bel st mk bl y)) (λd h'=>(∃j,h'=hF++j)/\∃y,d=.tup [.int (p.1:Nat),y]/\ByN mk bl p.1 y/\(∃i:Nat,(cnds mk bl p.1)[i]?=some y/\∀z∈(cnds mk bl p.1).take i,¬ Cut bl p.1 (bel st mk bl z))/\Cut bl p.1 (bel st mk bl y)) ?_
    have jt:j1.take (j1.length - 2)=j:=by rw [hj1];simp
    rw [jt]
    have srcE:x6 (eLst (z9q (eVar 4) (z4b .(s) aNil))) .(H) (hF++j++[.lst nm])=.ok (.lst (hF++j++[O.lst nm]).length L) (hF++j++[.lst nm]++[.lst L]):=by
     refine zb2 (i:=(hF++j++[O.lst nm]).length) (h1:=hF++j++[O.lst nm]++[O.lst L]) (xs:=L) ?_ Y5
     unfold eLst
     have g1:getL (hF++j).length (hF++j++[O.lst nm])=.ok nm (hF++j++[.lst nm]):=by unfold getL;rw [Y5]
     have d1:Dic (hF++j++[O.lst nm]) b bl:=(dF j).app _
     have s2:z4b .(s) aNil .(H) (hF++j++[.lst nm])=.ok (stD (bl.map (·.1))) (hF++j++[.lst nm]):=by
      unfold z4b
      rw [M.bind_ok (Z1 (γ:=.(H)) (a:=1) rfl)]
      show (z3Q b >>= _) _=_
      rw [M.bind_ok d1.dk,zv2]
      show Res.ok (stD (bl.map (·.1))++[]) _=_
      rw [K1i]
     have s1:z9q (eVar 4) (z4b .(s) aNil) .(H) (hF++j++[.lst nm])=.ok L (hF++j++[.lst nm]):=by
      unfold z9q
      rw [M.bind_ok (Z1 (γ:=.(H)) (a:=4) rfl)]
      show (getL (hF++j).length >>= _) _=_
      rw [M.bind_ok g1,M.bind_ok s2,hL]
      rfl
     rw [M.bind_ok s1]
     exact z8a .(0)
    have eqH:hF++j++[O.lst nm]++[O.lst L]=hF++j1:=by rw [hj1];simp
    have atL:∀j',(hF++(j1++j'))[(hF++j++[O.lst nm]).length]?=.(l L):=λj'=>by
     rw [hj1]
     have:hF++(j++[O.lst nm]++[O.lst L]++j')=hF++j++[O.lst nm]++[O.lst L]++j':=by simp
     rw [this]
     exact x8 Y5
    refine W_of srcE ?_
    refine ⟨⟨_,[],rfl,by rw [eqH,K1i],by simp⟩,λc γ h' ⟨_,j',_,e,_⟩=>by rw [e];exact atL j',?_,?_,?_⟩
    ·rintro c y2 γ _ hy ⟨y3,j3,rfl,rfl,no2⟩
     have hy:L[c]?=some y2:=hy
     have okB:=(inL y2).mp (K0d hy)
     refine W_eq (v:=[some .(a),.(r b),.(i (p.1:Nat)),.(g ((stD (blk bl p.1)))),.(r ((hF++j).length)),some y2]) rfl ?_
     have pd:=z6L (d:=y2) (l:=blk bl p.1) (z6s ma) lm (dF (j1++j3)) blt .(0) (zx9 ma) okB.ok
     refine zO4 (decide ((prt (blk bl p.1) (bel st mk bl y2)).length=2)) (h1:=hF++(j1++j3)++[.lst (stsD (prt (blk bl p.1) (bel st mk bl y2)))]) ((cb_h (e2_h (J5 (fn_h (ds:=[maD st mk,.ref b,.tup (stD (blk bl p.1)),y2]) (ac_h .(b) .(I)) rfl pd) (z7J Y5)) (y:=.int 2) rfl (by rw [z8i];rfl))).trans ?_) ?_
     ·congr 1
      rw [K2e,decide_eq_decide]
      unfold stsD
      rw [K02]
      omega
     by_cases q:(prt (blk bl p.1) (bel st mk bl y2)).length=2
     ·rw [.(o) q,if_pos rfl]
      obtain ⟨q1,q2⟩:=prt_len.mp q
      refine z0I (z0l (.tup [.int (p.1:Nat),y2]) (z2e .(b) .(b)) ⟨⟨_,by rw [K0b]⟩,y2,rfl,okB,⟨c,by rw [Lc];exact hy,by rw [Lc];exact no2⟩,hk,q1,q2⟩)
     ·rw [.(p) q,if_neg .(1)]
      refine z05 (z04 ⟨_,j3++_,rfl,by rw [K0b,K0b],λz hz=>?_⟩)
      rw [K3z,hy] at hz
      rcases K0o.mp hz with hz|hz
      ·exact no2 z hz
      ·simp at hz
       subst hz
       exact λc=>q (prt_len.mpr ⟨c.hy,c.hn⟩)
    ·rintro γ h' ⟨y3,j3,rfl,rfl,no2⟩
     rw [show (Src.lst (hF++j++[O.lst nm]).length L).items.length=L.length from rfl,K29] at no2
     exact ⟨_,_,rfl,rfl,no2⟩
    ·rintro d h' ⟨ej,y2,rfl,okB,fi,cc⟩
     exact ⟨ej,p.1,y2,rfl,okB,⟨c,p,ep,rfl,no,fi⟩,cc⟩
   rintro _ _ ⟨y3,j3,rfl,rfl,no2⟩
   refine z04 ⟨_,_,_,_,j3,rfl,rfl,λr hr y hy=>?_⟩
   rw [K3z,ep] at hr
   rcases K0o.mp hr with hr|hr
   ·exact no r hr y hy
   ·simp at hr
    subst hr
    exact no2 y ((inL y).mpr hy)
  ·rintro γ _ ⟨a,e,n,y,j,rfl,rfl,no⟩
   rw [show (Src.con (stD (bl.map (·.1)))).items.length=bl.length by show (stD (bl.map (·.1))).length=_;rw [J7,K02],K29] at no
   refine z0l .non rfl ⟨⟨j,rfl⟩,.inl ⟨rfl,λp hp y hy=>no p hp y ?_⟩⟩
   unfold ByN
   rw [pb.blk hp]
   exact hy
  ·rintro d h' ⟨ej,k,y,rfl,okB,cc⟩
   exact ⟨ej,.inr ⟨k,y,rfl,okB,cc⟩⟩
 obtain ⟨d,h',e,⟨j,rfl⟩,r⟩:=key
 refine ⟨d,?_,r⟩
 show cln (runF 6 z0L [maD st mk,.ref b]) h=_
 rw [← hhF]
 refine z8P e (by rw [hhF,K2u]) (by rw [hhF];exact z4X (refB _)) ?_
 rcases r with ⟨rfl,_⟩|⟨k,y,rfl,okB,_⟩
 ·rfl
 ·rcases okB.ok with ⟨s,rfl⟩|⟨k',rfl,_⟩<;>rfl
end
def blkE (bl:Bl):D->Key×D
 | .int k=>(.inl k,.tup (stD (blk bl k.toNat)))
 | _=>(.inl 0,.non)
theorem zd1 {n:Nat}{bl:Bl}(pb:PB n bl):(stD (bl.map (·.1))).map (blkE bl)=kvB bl:=by
 unfold stD kvB
 rw [K0w,K0w]
 refine K2t λp hp=>?_
 show ((.inl ((p.1:Nat):Int):Key),D.tup (stD (blk bl ((p.1:Nat):Int).toNat)))=_
 rw [K0l,pb.blk hp]
theorem zo8 {l:List Nat}(nd:l.Nodup) {f:D->Key×D}(hf:∀x:Nat,(f (.int x)).1=.inl (x:Int)):((stD l).map λd=>(f d).1).Nodup:=by
 have e:((stD l).map λd=>(f d).1)=l.map λ(x:Nat)=>(.inl (x:Int):Key):=by
  unfold stD
  rw [K0w]
  exact K2t λx _=>hf x
 rw [e]
 exact K9w _ (λa b h e=>h (inl_inj.mp e)) nd
section
variable {st:List (List Nat)}{mk:List (List Str)}{bl:Bl}
theorem zO0 {h:AH}{b k:Nat}{y:D}(ma:MA st mk) (pb:PB st.length bl) (dc:Dic h b bl) (ok:ByOk bl y) (ct:Cut bl k (bel st mk bl y)):z1J [maD st mk,.ref b,.tup .(i)] h=.ok .(r) (h.set b (.dF (kvB bl))++[.dK (kvB (cutB bl k (bel st mk bl y)))]):=by
 have l2:=ma.l2
 have bln:=pb.len
 obtain ⟨hF,hhF⟩:∃hF,hF=h.set b (.dF (kvB bl)):=⟨_,rfl⟩
 have dF:∀j,Dic (hF++j) b bl:=λj=>by rw [hhF];exact dc.set.app j
 have lF:hF.length=h.length:=by rw [hhF,K2u]
 obtain ⟨f,hf⟩:∃f,f=bel st mk bl y:=⟨_,rfl⟩
 obtain ⟨blt,bll⟩:=zk9 pb ct.hk
 obtain ⟨T,hT⟩:∃T:Nat->Bl,T=λc=>(([yesL bl k f,noL bl k f]:List .(O)).take c).foldl (λacc q=>putB acc (q.headD 0) q) bl:=⟨_,rfl⟩
 have key:W (runF 7 z1L [maD st mk,.ref b,.tup .(i)]) h λd h'=>d=.ref hF.length/\∃j,h'=hF++(.dK (kvB (cutB bl k f))::j):=by
  refine z2C ?_
  show W (z1L [some .(a),.(r b),.(g .(i)),none,none,none,none]) h _
  unfold z1L z6m
  refine zq8 (.tup .(i)) [some .(a),.(r b),.(g .(i)),.(i (k:Nat)),some y,none,none] rfl rfl ?_
  refine J8 (.ref hF.length) [some .(a),.(r b),.(g .(i)),.(i (k:Nat)),some y,.(r hF.length),none] (h1:=hF++[.dK (kvB bl)]) ?_ rfl ?_
  ·have e:=zr1 (cap:=[some 1,none]) (mi:=iDic .(s)) (g:=gN 1) (kb:=λ_=>pure true) (me:=eVar 1) (mv:=e2 z1A .(k) .(s)) (γ:=[some .(a),.(r b),.(g .(i)),.(i (k:Nat)),some y,none,none]) (h:=h) (h1:=hF) (blkE bl) (src:=.con (stD (bl.map (·.1)))) (by rw [hhF];exact dc.walk .(b)) (λ_=>trivial) (zo8 pb.nd λx=>rfl) (by show (stD (bl.map (·.1))).length≤_;rw [J7,K02];omega) λd hd=>by
    obtain ⟨x,hx,rfl⟩:=K09.mp (show d∈(bl.map (·.1)).map _ from hd)
    exact ⟨[.(r b),.(i (x:Nat))],.int (x:Nat),λh=>rfl,λh=>rfl,rfl,λj=>rfl,λj=>e2_h .(b) .(b) ((dF j).get hx)⟩
   rw [show (Src.con (stD (bl.map (·.1)))).items=stD (bl.map (·.1)) from rfl,zd1 pb] at e
   exact e
  have p2:prt (blk bl k) f=[yesL bl k f,noL bl k f]:=zv5 (by rw [hf];exact ct.hy) (by rw [hf];exact ct.hn)
  have pd:=z6L (h:=hF++[.dK (kvB bl)]) (d:=y) (l:=blk bl k) (z6s ma) ma.l3 (dF _) blt .(0) (zx9 ma) ok
  rw [← hf,p2] at pd
  refine z2w (λγ h'=>∃a j,γ=[some .(a),.(r b),.(g .(i)),.(i (k:Nat)),some y,.(r (hF.length+0)),a]/\h'=hF++(.dK (kvB (T 2))::j)) ?_ ?_
  ·refine z22 (λc γ h'=>∃a,γ=[some .(a),.(r b),.(g .(i)),.(i (k:Nat)),some y,.(r (hF.length+0)),a]/\h'=hF++[.dK (kvB (T c)),.lst (stsD [yesL bl k f,noL bl k f])]) (λ_ _=>False) ?_
   refine W_of (v:=.lst (hF++[O.dK (kvB bl)]).length (stsD [yesL bl k f,noL bl k f])) (zb2 (fn_h (ds:=[maD st mk,.ref b,.tup (stD (blk bl k)),y]) (ac_h .(b) (ac_h .(b) (ac_h (e2_h .(b) .(b) ((dF _).get ct.hk)) (ac_h .(b) rfl)))) rfl pd) Y5) ?_
   refine ⟨⟨none,rfl,by rw [hT];simp⟩,λc γ h' ⟨_,_,e⟩=>?_,?_,?_,λ_ _ q=>q.elim⟩
   ·show h'[_]?=_
    rw [e]
    have:(hF++[O.dK (kvB bl)]).length=hF.length+1:=by simp
    rw [this]
    exact at_E (l:=[_,_])
   ·rintro c d γ _ hd ⟨a,rfl,rfl⟩
    obtain ⟨q,eq,rfl⟩:∃q,([yesL bl k f,noL bl k f]:List .(O))[c]?=some q/\d=.tup (stD q):=by
     have hd:(stsD [yesL bl k f,noL bl k f])[c]?=some d:=hd
     unfold stsD at hd
     rw [K07] at hd
     obtain ⟨q,e1,e2⟩:=K16.mp hd
     exact ⟨q,e1,e2.symm⟩
    have qm:=K0d eq
    have q0:q≠[]:=by
     simp at qm
     rcases qm with rfl|rfl
     ·rw [hf];exact ct.hy
     ·rw [hf];exact ct.hn
    obtain ⟨x,r,rfl⟩:∃x r,q=x::r:=by cases q with|nil=>exact absurd rfl q0|cons x r=>exact ⟨x,r,rfl⟩
    refine W_eq (v:=.(K)) rfl ?_
    have tc:T (c+1)=putB (T c) x (x::r):=by
     rw [hT]
     dsimp only
     rw [K3z,eq,K4n]
     rfl
    have Tl:(T c).length≤100:=by
     have one:∀(bl:Bl) (k:Nat) (b:List Nat),(putB bl k b).length≤bl.length+1:=λbl k b=>by unfold putB;split<;>simp
     have:∀(l:List .(O)) (bl:Bl),(l.foldl (λacc q=>putB acc (q.headD 0) q) bl).length≤bl.length+l.length:=by
      intro l
      induction l with
      | nil=>intro bl;simp
      | cons q l ih=>intro bl;have:=ih (putB bl (q.headD 0) q);have:=one bl (q.headD 0) q;simp only [K4d,K0g];omega
     have t1:=this (([yesL bl k f,noL bl k f]:List .(O)).take c) bl
     rw [hT]
     dsimp only
     have:(([yesL bl k f,noL bl k f]:List .(O)).take c).length≤2:=by rw [K13];simp;omega
     omega
    have put:gDx (eVar 5) (e2 fIx (eVar 6) .(7)) (.tup (stD (x::r))) .(K) (hF++[.dK (kvB (T c)),.lst (stsD [yesL bl k f,noL bl k f])])=.ok .(K) (hF++[.dK (kvB (T (c+1))),.lst (stsD [yesL bl k f,noL bl k f])]):=by
     unfold gDx
     have e1:e2 fIx (eVar 6) .(7) .(K) (hF++[.dK (kvB (T c)),.lst (stsD [yesL bl k f,noL bl k f])])=.ok (.int (x:Nat)) _:=e2_h .(b) (y:=.int 0) rfl (by
      show fIx (.tup (.int (x:Nat)::stD r)) (.int 0) _=_
      rw [ix0];rfl)
     rw [M.bind_ok (Z1 (γ:=.(K)) (a:=5) rfl),M.bind_ok e1]
     have e3:z4Q (.ref (hF.length+0)) (.int (x:Nat)) (.tup (stD (x::r))) (hF++[.dK (kvB (T c)),.lst (stsD [yesL bl k f,noL bl k f])])=.ok () (hF++[.dK (kvB (T (c+1))),.lst (stsD [yesL bl k f,noL bl k f])]):=by
      unfold z4Q
      dsimp only
      rw [show keyD (.int (x:Nat))=some (.inl (x:Int)) from rfl]
      dsimp only
      rw [at_E (l:=[_,_])]
      show (if (kvB (T c)).length<sizeLine then _ else _)=_
      rw [if_pos (by unfold kvB;rw [K02];exact K26 Tl .(1)),zs3,ptB,← tc]
      rfl
     rw [M.bind_ok e3]
     rfl
    refine (w_cons).mpr ?_
    unfold sAsg
    rw [Z6]
    refine W_of .(b) ?_
    rw [Z6]
    refine W_of put ?_
    rw [W_pure]
    exact z04 ⟨_,rfl,rfl⟩
   ·rintro _ _ ⟨a,rfl,rfl⟩
    exact ⟨a,_,rfl,rfl⟩
  rintro _ _ ⟨a,j,rfl,rfl⟩
  refine z0l (.ref hF.length) .(b) ⟨rfl,j,?_⟩
  rw [hT]
  rfl
 obtain ⟨d,h',e,rfl,j,rfl⟩:=key
 show cln (runF 7 z1L [maD st mk,.ref b,.tup .(i)]) h=_
 rw [← hhF,← hf]
 exact z2m e lF (by rw [hhF];exact z4X (refB _)) .(0) (by rw [K27 .(0)];simp) (refB _)
end
def rowB (n:Nat) (bl:Bl):List Nat:=(K00 n).map λx=>(v5 (bl.map (·.1))).idxOf (keyOf bl x)
theorem zH1 {kvs:List (Key×D)}(nd:(kvs.map (·.1)).Nodup) {k:Key}{v:D}(h:(k,v)∈kvs):lkD kvs k=some v:=by
 induction kvs with
 | nil=>cases h
 | cons p r ih =>
  rw [K0q,K6a] at nd
  unfold lkD
  rw [K1h]
  rcases K0x.mp h with rfl|h
  ·rw [.(o) rfl];rfl
  ·have:p.1≠k:=λe=>nd.1 (by rw [e];exact K09.mpr ⟨_,h,rfl⟩)
   rw [.(p) this]
   exact ih nd.2 h
theorem zt7 {kvs:List (Key×D)}{l:List Nat}(e:kvs.map (·.1)=l.map λ(x:Nat)=>(.inl (x:Int):Key)):z1P (z1r kvs)=some (zN l):=by
 have:z1r kvs=stD l:=by
  unfold z1r stD
  have h:=congrArg (List.map kD) e
  rw [K0w,K0w] at h
  exact h
 rw [this,z3b]
theorem z60 {h:AH}{n:Nat}{kvs:List (Key×D)}{l:List Nat}(g:z3Q n h=.ok kvs h) (e:kvs.map (·.1)=l.map λ(x:Nat)=>(.inl (x:Int):Key)) (hl:l.length<64):z0h [.ref n] h=.ok .(r) (h++[.lst (stD (v5 l))]):=by
 show (z3Q n >>= _) h=_
 rw [M.bind_ok g]
 show (match z1P (z1r kvs) with|some ns=>if ns.length<64 then newL ((sortI ns).map .int) else bad|none=>bad) h=_
 rw [zt7 e]
 dsimp only
 rw [if_pos (by unfold zN;rw [K02];omega),z3J]
 exact z8a (by rw [J7,z0y];omega)
theorem z1N {α β:Type}{f g:α->List β}:∀{l:List α},(∀x∈l,f x=g x)->l.flatMap f=l.flatMap g
 | [],_=>rfl
 | x::l,h=>by rw [K2m,K2m,h x .(e),z1N λy hy=>h y (by simp [hy])]
def z2d (bl:Bl):D->List D
 | .tup [_,.int k]=>stD (blk bl k.toNat)
 | _=>[]
def z5z:D->D->Key×D
 | .tup [.int i,_],.int x=>(.inl x,.int i)
 | _,_=>(.inl 0,.non)
section
variable {st:List (List Nat)}{mk:List (List Str)}{bl:Bl}
theorem zS1 {h:AH}{b n:Nat}(pb:PB n bl) (hn:n≤40) (dc:Dic h b bl):z2Y [.ref b] h=.ok (.tup (stD (rowB n bl))) h:=by
 obtain ⟨ks,hks⟩:∃ks,ks=v5 (bl.map (·.1)):=⟨_,rfl⟩
 have bln:=pb.len
 have kn:ks.Nodup:=by rw [hks];exact z3F (z1M pb.nd)
 have km:∀k,k∈ks↔k∈bl.map (·.1):=λk=>by rw [hks];exact sortN_mem
 have kl:ks.length=bl.length:=by rw [hks,z0y,K02]
 have keysE:(kvB bl).map (·.1)=(bl.map (·.1)).map λ(x:Nat)=>(.inl (x:Int):Key):=by unfold kvB;rw [K0w,K0w];rfl
 obtain ⟨xs,hxs⟩:∃xs,xs=ks.flatMap (blk bl):=⟨_,rfl⟩
 have xm:∀x,x∈xs↔x<n:=λx=>by
  rw [hxs,K7x]
  constructor
  ·rintro ⟨k,hk,hx⟩
   exact ((pb.in_blk ((km k).mp hk)).mp hx).1
  ·intro hx
   exact ⟨keyOf bl x,(km _).mpr (pb.keyin hx),(pb.at_ hx).2⟩
 have xn:xs.Nodup:=by
  rw [hxs]
  refine List.pairwise_flatMap.mpr ⟨λk hk=>z3F (pb.rise _ (pb.of_key ((km k).mp hk))),?_⟩
  refine K7k (λ{k k'} hk hk' ne x hx y hy e=>?_) kn
  subst e
  have a1:=((pb.in_blk ((km k).mp hk)).mp hx).2
  have a2:=((pb.in_blk ((km k').mp hk')).mp hy).2
  exact ne (a1.symm.trans a2)
 have xl:xs.length≤40:=by
  have:=xn.length_le_of_subset (l₂:=K00 n) λx hx=>K0y.mpr ((xm x).mp hx)
  simp at this
  omega
 have xs':v5 xs=K00 n:=z6N (z1M xn) K5v λx=>by rw [sortN_mem,xm,K0y]
 obtain ⟨it,hit⟩:∃it,it=z4T (stD ks):=⟨_,rfl⟩
 have itE:it=(K00 ks.length).map λ(i:Nat)=>D.tup [.int (i:Nat),.int ((ks[i]?).getD 0:Nat)]:=by
  rw [hit]
  unfold z4T
  rw [J7]
  refine K2t λi hi=>?_
  have hi:=K0y.mp hi
  have:((stD ks)[i]?).getD .non=.int ((ks[i]?).getD 0:Nat):=by
   unfold stD
   rw [K07,K6 hi]
   rfl
  rw [this]
 have flat:∀(α:Type) (g:Nat->List α),(K00 ks.length).flatMap (λi=>g ((ks[i]?).getD 0))=ks.flatMap g:=λα g=>by
  have e:ks=(K00 ks.length).map λi=>(ks[i]?).getD 0:=by
   refine K3q λi=>?_
   rw [K07]
   by_cases hi:i<ks.length
   ·rw [K1n hi,K6 hi]
    simp [K6 hi]
   ·rw [K15 .(0),K15 (by simpa using hi)]
    rfl
  conv=>rhs;rw [e]
  rw [K7z]
 have yE:∀i:Nat,z2d bl (.tup [.int (i:Nat),.int ((ks[i]?).getD 0:Nat)])=stD (blk bl ((ks[i]?).getD 0)):=λi=>by
  show stD (blk bl (((ks[i]?).getD 0:Nat):Int).toNat)=_
  rw [K0l]
 obtain ⟨kv,hkv⟩:∃kv,kv=it.flatMap λd=>(z2d bl d).map (z5z d):=⟨_,rfl⟩
 have kvK:kv.map (·.1)=xs.map λ(x:Nat)=>(.inl (x:Int):Key):=by
  rw [hkv,itE,K7z,K63,hxs,K63,← flat]
  refine z1N λi hi=>?_
  rw [yE]
  unfold stD
  rw [K0w,K0w]
  rfl
 have kvN:(kv.map (·.1)).Nodup:=by
  rw [kvK]
  exact K9w _ (λa b h e=>h (inl_inj.mp e)) xn
 have len1:(it.flatMap (z2d bl)).length=xs.length:=by
  have e:it.flatMap (z2d bl)=stD xs:=by
   rw [itE,K7z,hxs]
   unfold stD
   rw [K63,← flat]
   exact z1N λi hi=>yE i
  rw [e,J7]
 show cln (runF 2 z28 [.ref b]) h=_
 refine z1a (j:=[.lst (stD ks),.dK kv]) (z4C ?_) (z47 _)
 show W (z28 [.(r b),none]) h _
 unfold z28
 have so:Z8 z0h (z9 .(k) aNil) [.(r b),none] h=.ok .(r) (h++[.lst (stD ks)]):=J5 .(b) (by rw [z60 dc.dk keysE (by rw [K02];omega),hks])
 have src:z7x (Z8 z0h (z9 .(k) aNil)) [.(r b),none] h=.ok (.obj h.length (.lst (stD ks)) it) (h++[.lst (stD ks)]):=by
  unfold z7x
  rw [M.bind_ok (ac_h so rfl:z9 (Z8 z0h (z9 .(k) aNil)) aNil [.(r b),none] h=.ok [.ref h.length] _)]
  have g:getL h.length (h++[O.lst (stD ks)])=.ok (stD ks) (h++[.lst (stD ks)]):=by unfold getL;rw [Y5]
  show (getL h.length >>= λxs=>(pure (Src.obj h.length (.lst xs) (z4T xs)):M Src)) _=_
  rw [M.bind_ok g,hit]
  rfl
 refine J8 (.ref (h++[O.lst (stD ks)]).length) [.(r b),.(r ((h++[O.lst (stD ks)]).length))] (h1:=h++[.lst (stD ks)]++[.dK kv]) ?_ rfl ?_
 ·rw [hkv]
  refine zc7 (src:=.obj h.length (.lst (stD ks)) it) (z2d bl) z5z src (λj=>by show (_++j)[h.length]?=_;simp) ?_ ?_ λd hd=>?_
  ·have:=kvN
   rw [hkv,K63] at this
   have e:(it.flatMap λd=>(z2d bl d).map λy=>(z5z d y).1)=it.flatMap λd=>((z2d bl d).map (z5z d)).map (·.1):=z1N λd _=>by rw [K0w];rfl
   show (it.flatMap λd=>(z2d bl d).map λy=>(z5z d y).1).Nodup
   rw [e]
   exact this
  ·show (it.flatMap (z2d bl)).length≤_
   rw [len1];omega
  ·have hd:d∈it:=hd
   rw [itE] at hd
   obtain ⟨i,hi,rfl⟩:=K09.mp hd
   have hi:=K0y.mp hi
   have hk:(ks[i]?).getD 0∈bl.map (·.1):=by
    rw [K6 hi]
    exact (km _).mp (K4w hi)
   refine ⟨[.(r b),.(i (i:Nat)),.(i (((ks[i]?).getD 0:Nat))),none],λh=>rfl,λj=>z1x (e2_h .(b) .(b) ?_),λy hy=>?_⟩
   ·rw [yE]
    exact ((dc.app _).app j).get hk
   ·rw [yE] at hy
    obtain ⟨x,hx,rfl⟩:=K09.mp hy
    exact ⟨[.(r b),.(i (i:Nat)),.(i (((ks[i]?).getD 0:Nat))),.(i (x:Nat))],.int (x:Nat),λh=>rfl,λh=>rfl,rfl,λj=>rfl,λj=>rfl⟩
 obtain ⟨H,hH⟩:∃H,H=h++[O.lst (stD ks)]:=⟨_,rfl⟩
 rw [← hH]
 have gk:∀j:AH,z3Q H.length (H++[O.dK kv]++j)=.ok kv (H++[O.dK kv]++j):=λj=>by unfold z3Q;rw [x8 Y5]
 have gk2:∀j:AH,getK H.length (H++[O.dK kv]++j)=.ok kv (H++[O.dK kv]++j):=λj=>by unfold getK;rw [x8 Y5]
 refine z0l (.tup (stD (rowB n bl))) (h1:=H++[.dK kv]) ?_ ⟨rfl,by rw [hH];simp⟩
 refine z1a (j:=[.lst (stD (K00 n)),.lst (stD (rowB n bl))]) ?_ (z47 _)
 have so2:Z8 z0h (z9 .(s) aNil) [.(r b),.(r H.length)] (H++[O.dK kv])=.ok (.ref (H++[O.dK kv]).length) (H++[O.dK kv]++[.lst (stD (K00 n))]):=J5 .(b) (by
  have:=gk []
  rw [K1i] at this
  rw [z60 this kvK .(0),xs'])
 refine (J5 (d:=.ref (H++[O.dK kv]++[O.lst (stD (K00 n))]).length) (h1:=H++[O.dK kv]++[.lst (stD (K00 n))]++[.lst (stD (rowB n bl))]) ?_ (z6x Y5)).trans .(e)
 have cs:=z2r (cap:=[some 1,none]) (mi:=x6 (Z8 z0h (z9 .(s) aNil))) (g:=gN 1) (kb:=λ_=>pure true) (me:=e2 z1A .(k) .(s)) (γ:=[.(r b),.(r H.length)]) (l:=K00 n) (λx=>.int ((v5 (bl.map (·.1))).idxOf (keyOf bl x):Nat)) (zb2 so2 Y5) rfl (λj=>by show (_++j)[_]?=_;exact x8 Y5) (by simp;omega) λx hx=>⟨[.(r H.length),.(i (x:Nat))],λh=>rfl,λj=>rfl,λj=>by
  have hx:=K0y.mp hx
  refine e2_h .(b) .(b) ?_
  show (getK H.length >>= _) _=_
  rw [K0b,M.bind_ok (gk2 _)]
  show (match lkD kv (.inl (x:Int)) with|some d=>pure d|none=>bad) _=_
  have kin:=(km _).mpr (pb.keyin hx)
  have il:=K1v.mpr kin
  have gi:(ks[ks.idxOf (keyOf bl x)]?).getD 0=keyOf bl x:=by rw [z2L kin];rfl
  rw [zH1 kvN (v:=.int (ks.idxOf (keyOf bl x):Nat)) ?_,hks]
  ·rfl
  ·rw [hkv,itE,K7x]
   refine ⟨_,K09.mpr ⟨ks.idxOf (keyOf bl x),K0y.mpr il,rfl⟩,?_⟩
   rw [yE,gi]
   exact K09.mpr ⟨.int (x:Nat),K09.mpr ⟨x,(pb.at_ hx).2,rfl⟩,rfl⟩⟩
 refine cs.trans ?_
 congr 3
 unfold rowB stD
 rw [K0w]
 rfl
end
section
variable {st:List (List Nat)}{mk:List (List Str)}{bl:Bl}
inductive Cuts (st:List .(O)) (mk:List (List Str)) (bl0:Bl):List (Nat×D)->Bl->Prop
 | nil:Cuts st mk bl0 [] bl0
 | snoc {cs:List (Nat×D)} {bl:Bl} {k:Nat} {y:D}:Cuts st mk bl0 cs bl->ByN mk bl k y->Fst st mk bl k y->Cut bl k (bel st mk bl y)->Cuts st mk bl0 (cs++[(k,y)]) (cutB bl k (bel st mk bl y))
def Y3 (cs:List (Nat×D)):List D:=cs.map λc=>.tup [.int (c.1:Nat),c.2]
theorem Cuts.len {bl0:Bl}{n:Nat}{cs:List (Nat×D)}{bl:Bl}(pb:PB n bl0) (c:Cuts st mk bl0 cs bl):PB n bl/\bl.length=bl0.length+cs.length:=by
 induction c with
 | nil=>exact ⟨pb,rfl⟩
 | snoc c b f ct ih =>
  refine ⟨z3y ih.1 ct,?_⟩
  rw [z4v ih.1 ct,ih.2,K01]
  rfl
theorem z1T {h j:AH}{b:Nat}{o:O}(hb:h.length≤b):(h++j).set b o=h++j.set (b - h.length) o:=by rw [K3i _ _ hb]
theorem zx4 {n:Nat}{cs:List (Nat×D)}{bl0 bl:Bl}(c:Cuts st mk bl0 cs bl):J4 n (Y3 cs)=true:=by
 refine z1f λd hd=>?_
 obtain ⟨p,hp,rfl⟩:=K09.mp hd
 have:∀p∈cs,Y0 n p.2=true:=by
  clear hp hd
  induction c with
  | nil=>intro p hp;cases hp
  | snoc c b f ct ih =>
   intro p hp
   rcases K0o.mp hp with q|q
   ·exact ih p q
   ·simp at q
    subst q
    rcases b.ok with ⟨s,rfl⟩|⟨k',rfl,_⟩<;>rfl
 simp only [Y0,J4,K64,Bool.true_and]
 exact this p hp
theorem z54 {h:AH}(ma:MA st mk):∃bl cs,z17 [maD st mk] h=.ok (.tup [.tup (stD (rowB st.length bl)),.tup (Y3 cs)]) h/\PB st.length bl/\Done st mk bl/\Cuts st mk [(0,K00 st.length)] cs bl/\∀x y,x<st.length->y<st.length->(keyOf bl x=keyOf bl y↔Sim st mk x y):=by
 have l1:=ma.l1
 have l2:=ma.l2
 obtain ⟨n,hn⟩:∃n,n=st.length:=⟨_,rfl⟩
 have pb0:PB .(h) [(0,K00 .(h))]:=z4V .(0)
 have key:W (runF 4 z18 [maD st mk]) h λd h'=>(∃j,h'=h++j)/\∃bl cs,d=.tup [.tup (stD (rowB .(h) bl)),.tup (Y3 cs)]/\PB .(h) bl/\Done st mk bl/\Cuts st mk [(0,K00 .(h))] cs bl/\∀E,Stb st mk E->∀x y,E x y->keyOf bl x=keyOf bl y:=by
  refine z2C ?_
  show W (z18 [some .(a),none,none,none]) h _
  unfold z18
  refine J8 .(r) [some .(a),.(r h.length),none,none] (fn_h (ds:=[maD st mk]) (ac_h .(b) rfl) rfl (z93 l2)) rfl ?_
  refine zf7 (xs:=[]) .(e) (λh=>rfl) ?_
  obtain ⟨H0,hH0⟩:∃H0,H0=h++[O.dK (kvB [(0,K00 .(h))])]++[O.lst []]:=⟨_,rfl⟩
  have d0:Dic H0 h.length [(0,K00 .(h))]:=by rw [hH0];exact Dic.app (.inl Y5) _
  obtain ⟨d,ed,dd⟩:=zl7 ma pb0 d0
  refine J8 d [some .(a),.(r h.length),.(r (h.length+1)),some d] (h1:=H0.set h.length (.dF (kvB [(0,K00 .(h))]))) ?_ ?_ ?_
  ·rw [← hH0]
   exact fn_h (ds:=[maD st mk,.ref h.length]) (ac_h .(b) (ac_h .(b) rfl)) rfl ed
  ·show (pure _:M G)=_
   simp
  refine zs7 (m:=n) (λm γ H=>∃bl b c cs d,γ=[some .(a),.(r b),.(r c),some d]/\(∃j,H=h++j)/\h.length≤b/\h.length≤c/\Dic H b bl/\H[c]?=.(l (Y3 cs))/\PB .(h) bl/\Cuts st mk [(0,K00 .(h))] cs bl/\(∀E,Stb st mk E->∀x y,E x y->keyOf bl x=keyOf bl y)/\m+bl.length=n+1/\.(P)) .(0) ?_ ?_
  ·refine ⟨_,h.length,h.length+1,[],d,rfl,⟨[.dF (kvB [(0,K00 st.length)]),.lst []],by rw [hH0];simp⟩,by omega,by omega,d0.set,?_,pb0,.nil,λE s x y e=>?_,by simp,dd⟩
   ·rw [K0e .(0),hH0]
    simp [Y3]
   ·obtain ⟨hx,hy⟩:=s.lt x y e
    rw [pb0.key (p:=(0,K00 .(h))) .(e) (K0y.mpr hx),pb0.key (p:=(0,K00 .(h))) .(e) (K0y.mpr hy)]
  ·rintro m _ H ⟨bl,b,c,cs,d,rfl,⟨j,rfl⟩,hb,hc,dc,ec,pb,cu,co,em,dd⟩
   rcases dd with ⟨rfl,dn⟩|⟨k,y,rfl,bn,fs,ct⟩
   ·refine ⟨false,by rfl,?_⟩
    rw [if_neg .(1)]
    refine z0l (.tup [.tup (stD (rowB .(h) bl)),.tup (Y3 cs)]) (z2e (fn_h (ds:=[.ref b]) (ac_h .(b) rfl) rfl (zS1 pb l2 dc)) (J5 .(b) (z6x ec))) ⟨⟨j,rfl⟩,bl,cs,rfl,pb,dn,cu,co⟩
   ·refine ⟨true,by rfl,?_⟩
    rw [if_pos rfl]
    have pb':=z3y pb ct
    have bl':=pb'.len
    rw [z4v pb ct] at bl'
    refine ⟨m - 1,by omega,?_⟩
    have bnc:b≠c:=λe=>by
     rw [e] at dc
     rcases dc with q|q<;>(rw [ec] at q;cases q)
    have csl:=(cu.len pb0).2
    refine z1G (a:=2) rfl ec (by unfold Y3;rw [K02];simp at csl;omega) .(b) ?_
    have ecs:Y3 cs++[.tup .(i)]=Y3 (cs++[(k,y)]):=by unfold Y3;simp
    rw [ecs,z1T hc]
    obtain ⟨j1,hj1⟩:∃j1,j1=j.set (c - h.length) (.lst (Y3 (cs++[(k,y)]))):=⟨_,rfl⟩
    rw [← hj1]
    have e1:h++j1=(h++j).set c (.lst (Y3 (cs++[(k,y)]))):=by rw [hj1,z1T hc]
    have dc1:Dic (h++j1) b bl:=by
     rw [e1]
     unfold Dic
     rw [K0e (K34 bnc)]
     exact dc
    have ec1:(h++j1)[c]?=.(l ((Y3 (cs++[(k,y)])))):=by rw [e1];exact K0v (K2.mp ec).1
    obtain ⟨j2,hj2⟩:∃j2,j2=j1.set (b - h.length) (.dF (kvB bl))++[.dK (kvB (cutB bl k (bel st mk bl y)))]:=⟨_,rfl⟩
    have e2':(h++j1).set b (.dF (kvB bl))++[.dK (kvB (cutB bl k (bel st mk bl y)))]=h++j2:=by rw [hj2,z1T hb,K0b]
    have eu:=zO0 ma pb dc1 bn.ok ct
    rw [e2'] at eu
    refine J8 (.ref (h++j1).length) [some .(a),.(r ((h++j1).length)),.(r c),.(g .(i))] (fn_h (ds:=[maD st mk,.ref b,.tup .(i)]) .(I) rfl eu) rfl ?_
    have dc2:Dic (h++j2) (h++j1).length (cutB bl k (bel st mk bl y)):=by
     rw [← e2']
     refine .inl ?_
     rw [show (h++j1).length=((h++j1).set b (O.dF (kvB bl))).length by rw [K2u]]
     exact Y5
    have cl1:=(K2.mp ec1).1
    have ec2:(h++j2)[c]?=.(l ((Y3 (cs++[(k,y)])))):=by
     rw [← e2',K0i (by rw [K2u];exact cl1),K0e bnc]
     exact ec1
    obtain ⟨d',ed',dd'⟩:=zl7 ma pb' dc2
    have b2:h.length≤(h++j1).length:=by rw [K01];omega
    rw [z1T b2] at ed'
    refine J8 d' [some .(a),.(r ((h++j1).length)),.(r c),some d'] (fn_h (ds:=[maD st mk,.ref (h++j1).length]) (ac_h .(b) (ac_h .(b) rfl)) rfl ed') rfl ?_
    have dc3:=dc2.set
    rw [z1T b2] at dc3
    refine z04 ⟨m - 1,K05 _,_,(h++j1).length,c,cs++[(k,y)],d',rfl,⟨_,rfl⟩,b2,hc,dc3,?_,pb',.snoc cu bn fs ct,λE s=>zI4 pb s (co E s) bn.ok ct,by rw [z4v pb ct];omega,dd'⟩
    rw [← z1T b2,K0e .(0)]
    exact ec2
 obtain ⟨d,h',e,⟨j,rfl⟩,bl,cs,rfl,pb,dn,cu,co⟩:=key
 refine ⟨bl,cs,?_,pb,dn,cu,λx y hx hy=>⟨λe=>⟨_,zi7 ma pb dn,hx,hy,e⟩,λ⟨E,s,e⟩=>co E s x y e⟩⟩
 show cln (runF 4 z18 [maD st mk]) h=_
 refine z1a e ?_
 simp only [Y0,J4,K64,K0h]
 exact ⟨z25 _,zx4 cu⟩
theorem zh6 {n:Nat}(pb:PB n bl) {x y:Nat}(hx:x<n) (hy:y<n):((rowB n bl)[x]?).getD 0=((rowB n bl)[y]?).getD 0↔keyOf bl x=keyOf bl y:=by
 unfold rowB
 rw [K07,K07,K1n hx,K1n hy]
 show (v5 (bl.map (·.1))).idxOf (keyOf bl x)=(v5 (bl.map (·.1))).idxOf (keyOf bl y)↔_
 have mx:keyOf bl x∈v5 (bl.map (·.1)):=sortN_mem.mpr (pb.keyin hx)
 have my:keyOf bl y∈v5 (bl.map (·.1)):=sortN_mem.mpr (pb.keyin hy)
 constructor
 ·intro e
  have a:=z2L mx
  rw [e,z2L my] at a
  exact (K10 a).symm
 ·intro e;rw [e]
theorem z7u {n:Nat}:(rowB n bl).length=n:=by unfold rowB;simp
end
section
variable {st:List (List Nat)}{mk:List (List Str)}{bl:Bl}
open Classical in
theorem z9n {h:AH}(ma:MA st mk) {x y:Nat}(hx:x<st.length) (hy:y<st.length):z4R [maD st mk,.int (x:Nat),.int (y:Nat)] h=.ok (.bl (decide (Sim st mk x y))) h:=by
 obtain ⟨bl,cs,e,pb,dn,cu,co⟩:=z54 (h:=h) ma
 refine zn8 (z4C ?_) rfl
 show W (z4W [some .(a),.(i (x:Nat)),.(i (y:Nat)),none]) h _
 unfold z4W
 refine J8 (.tup (stD (rowB .(h) bl))) [some .(a),.(i (x:Nat)),.(i (y:Nat)),.(g ((stD (rowB .(h) bl))))] (e2_h (fn_h (ds:=[maD st mk]) (ac_h .(b) rfl) rfl e) (y:=.int 0) rfl (by rw [ix0];rfl)) rfl ?_
 have at_:∀{z:Nat},z<.(h)->fIx (.tup (stD (rowB .(h) bl))) (.int (z:Nat)) h=.ok (.int (((rowB .(h) bl)[z]?).getD 0:Nat)) h:=λ{z} hz=>by rw [ix_tup (z58 (by rw [z7u];exact hz))];rfl
 refine z0l _ (e2_h (e2_h .(b) .(b) (at_ hx)) (e2_h .(b) .(b) (at_ hy)) (z7D (z2B (n:=23) _ _))) ⟨?_,rfl⟩
 rw [K2e]
 exact congrArg D.bl (decide_eq_decide.mpr ((zh6 pb hx hy).trans (co x y hx hy)))
end
theorem zu8 {h:AH}{c e k:Nat}{kvs:List (Key×D)}{R:List Sy}{num:Nat->Nat}{y:D}(hc:h[c]?=.(l (ryD R))) (he:h[e]?=some (.dK kvs)) (hk:lkD kvs (.inl (k:Int))=.(i (num k:Nat)))
 (hy:(∃s,y=.str s)∨∃k':Nat,y=.int (k':Nat)/\lkD kvs (.inl (k':Int))=.(i (num k':Nat))) (hl:R.length≤1000) :
 z1i [.ref c,.ref e,.int (k:Nat),y] h=.ok (.tup [.int ((R.length+1:Nat):Int),.int ((R.length+3:Nat):Int)]) (h.set c (.lst (ryD (cutR R num k y)))):=by
 have ne:c≠e:=λq=>by rw [q,he] at hc;cases hc
 have hE:∀o,(h.set c o)[e]?=some (.dK kvs):=λo=>by rw [K0e ne];exact he
 have cl:=(K2.mp hc).1
 have hC:∀o,(h.set c o)[c]?=some o:=λo=>K0v cl
 show cln (runF 6 z0O [.ref c,.ref e,.int (k:Nat),y]) h=_
 refine z8P (h0:=h.set c (.lst (ryD (cutR R num k y)))) (j:=[]) (z4C ?_) (by rw [K2u]) (z4X (zm8 _)) rfl
 show W (z0O [.(r c),.(r e),.(i (k:Nat)),some y,none,none]) h _
 unfold z0O
 refine J8 (.int (num k:Nat)) [.(r c),.(r e),.(i (k:Nat)),some y,.(i (num k:Nat)),none] (e2_h .(b) .(b) (z8p he rfl hk)) rfl ?_
 refine J8 (.int (R.length:Nat)) [.(r c),.(r e),.(i (k:Nat)),some y,.(i (num k:Nat)),.(i (R.length:Nat))] (J5 .(b) (by rw [z7J hc,z2c])) rfl ?_
 have w0:eIf (cVal (eIsi "str" (eVar 3))) (eTup (z9 (λ_=>pure (.str "mark")) (z9 (eVar 3) aNil))) (eTup (z9 (λ_=>pure (.str "step")) (z9 (e2 z1A .(s) (eVar 3)) aNil))) [.(r c),.(r e),.(i (k:Nat)),some y,.(i (num k:Nat)),.(i (R.length:Nat))] h=.ok (byR num y).d h:=by
  rcases hy with ⟨s,rfl⟩|⟨k',rfl,hk'⟩
  ·refine zu6 true (cv_h (z42 .(b) rfl)) ?_
   rw [if_pos rfl]
   exact z2e (x:=.str "mark") rfl .(b)
  ·refine zu6 false (cv_h (z42 .(b) rfl)) ?_
   rw [if_neg .(1)]
   refine (z2e (x:=.str "step") rfl (e2_h .(b) .(b) (z8p he rfl hk'))).trans ?_
   show Res.ok (D.tup [.str "step",.int (num k':Nat)]) h=.ok (.tup [.str "step",.int (num ((k':Nat):Int).toNat:Nat)]) h
   rw [K0l]
 refine z1G (a:=0) rfl hc (by rw [z2c];omega) w0 ?_
 rw [← z4K]
 refine z1G (a:=0) (v:=(Sy.con (num k) R.length).d) rfl (hC _) (by rw [z2c];simp;omega) ?_ ?_
 ·unfold eTup
  have:z9 (λ_=>pure (.str "and")) (z9 (eVar 4) .(u)) [.(r c),.(r e),.(i (k:Nat)),some y,.(i (num k:Nat)),.(i (R.length:Nat))] (h.set c (.lst (ryD (R++[byR num y]))))=.ok [.str "and",.int (num k:Nat),.int (R.length:Nat)] _:=ac_h (d:=.str "and") rfl (ac_h .(b) (ac_h .(b) rfl))
  rw [M.bind_ok this]
  rfl
 rw [← z4K,K88]
 refine z1G (a:=0) (v:=(Sy.neg R.length).d) rfl (hC _) (by rw [z2c];simp;omega) (z2e (x:=.str "not") rfl .(b)) ?_
 rw [← z4K,K88]
 refine z1G (a:=0) (v:=(Sy.con (num k) (R.length+2)).d) rfl (hC _) (by rw [z2c];simp;omega) ?_ ?_
 ·unfold eTup
  have:z9 (λ_=>pure (.str "and")) (z9 (eVar 4) (z9 (e2 fAdd (eVar 5) (λ_=>pure (.int 2))) aNil)) [.(r c),.(r e),.(i (k:Nat)),some y,.(i (num k:Nat)),.(i (R.length:Nat))] (h.set c (.lst (ryD (R++[byR num y]++[.con (num k) R.length]++[.neg R.length]))))=.ok [.str "and",.int (num k:Nat),.int ((R.length+2:Nat):Int)] _:=ac_h (d:=.str "and") rfl (ac_h .(b) (ac_h (e2_h .(b) (y:=.int 2) rfl (by rw [z2P];rfl)) rfl))
  rw [M.bind_ok this]
  rfl
 rw [← z4K,K88]
 refine z0l _ (z2e (e2_h .(b) (y:=.int 1) rfl (by rw [z2P];rfl)) (e2_h .(b) (y:=.int 3) rfl (by rw [z2P];rfl))) ⟨?_,?_⟩
 ·rfl
 ·rw [K1i];rfl
section
variable {st:List (List Nat)}{mk:List (List Str)}{bl0:Bl}
def blOf (st:List .(O)) (mk:List (List Str)) (bl0:Bl) (cs:List (Nat×D)):Bl:=cs.foldl (λbl c=>cutB bl c.1 (bel st mk bl c.2)) bl0
theorem z5m {cs:List (Nat×D)}{p:Nat×D}:blOf st mk bl0 (cs++[p])=cutB (blOf st mk bl0 cs) p.1 (bel st mk (blOf st mk bl0 cs) p.2):=by unfold blOf;rw [K4n];rfl
theorem zA3 {n:Nat}{cs:List (Nat×D)}{bl:Bl}(pb:PB n bl0) (c:Cuts st mk bl0 cs bl):bl=blOf st mk bl0 cs/\∀i p,cs[i]?=some p->PB n (blOf st mk bl0 (cs.take i))/\ByN mk (blOf st mk bl0 (cs.take i)) p.1 p.2/\Cut (blOf st mk bl0 (cs.take i)) p.1 (bel st mk (blOf st mk bl0 (cs.take i)) p.2):=by
 induction c with
 | nil=>exact ⟨rfl,λi p e=>by simp at e⟩
 | @snoc cs bl k y c b fs ct ih =>
  obtain ⟨e,hh⟩:=ih
  refine ⟨by rw [z5m,← e],λi p ep=>?_⟩
  by_cases hi:i<cs.length
  ·rw [K0i hi] at ep
   rw [List.take_append_of_le_length .(0)]
   exact hh i p ep
  ·rw [K27 .(0)] at ep
   have i0:i - cs.length=0:=by have:=(K2.mp ep).1;simpa using this
   rw [i0] at ep
   simp at ep
   subst ep
   rw [show i=cs.length by omega,K8n rfl,← e]
   exact ⟨(c.len pb).1,b,ct⟩
def zy5 (kvs:List (Key×D)) (num:Nat->Nat) (bl:Bl):Prop:=∀k:Nat,k∈bl.map (·.1)->lkD kvs (.inl (k:Int))=.(i (num k:Nat))
theorem zj3 {h:AH}(ma:MA st mk) {x:Nat}(hx:x<st.length):∃R:List Sy,z1n [maD st mk,.int (x:Nat)] h=.ok (.tup (ryD R)) h/\1≤R.length/\R.length≤160/\(∀(i:Nat) (r:Sy),R[i]?=some r->r.ok i)/\∀z,z<st.length->(tv (trus st mk R) (R.length - 1) z=true↔Sim st mk z x):=by
 have l1:=ma.l1
 have l2:=ma.l2
 have sq:=z6s ma
 obtain ⟨bl,cs,ecl,pb,dn,cu,co⟩:=z54 (h:=h) ma
 have pb0:PB .(h) [(0,K00 .(h))]:=z4V .(0)
 obtain ⟨B,hB⟩:∃B:Nat->Bl,B=λi=>blOf st mk [(0,K00 .(h))] (cs.take i):=⟨_,rfl⟩
 obtain ⟨eb,at0⟩:=zA3 pb0 cu
 have at_:∀i p,cs[i]?=some p->PB .(h) (B i)/\ByN mk (B i) p.1 p.2/\Cut (B i) p.1 (bel st mk (B i) p.2):=λi p e=>by rw [hB];exact at0 i p e
 have Bs:∀i p,cs[i]?=some p->B (i+1)=cutB (B i) p.1 (bel st mk (B i) p.2):=λi p e=>by
  rw [hB]
  dsimp only
  rw [K3z,e]
  exact z5m
 have B0:B 0=[(0,K00 .(h))]:=by rw [hB];rfl
 have Bn:B cs.length=bl:=by rw [hB];dsimp only;rw [K29,← eb]
 have csl:cs.length+1≤40:=by
  have:=(cu.len pb0).2
  have:=pb.len
  simp at *
  omega
 have z3I:(rowB .(h) bl).length=st.length:=z7u
 obtain ⟨row,hrow⟩:∃row,row=rowB .(h) bl:=⟨_,rfl⟩
 have rowE:row=z1o .(h) bl:=by rw [hrow];rfl
 rw [← hrow] at ecl z3I
 have key:W (runF 14 z0s [maD st mk,.int (x:Nat)]) h λd h'=>(∃j,h'=h++j)/\∃R,d=.tup (ryD R)/\1≤R.length/\R.length≤160/\(∀(i:Nat) (r:Sy),R[i]?=some r->r.ok i)/\∀z,z<.(h)->(tv (trus st mk R) (R.length - 1) z=true↔Sim st mk z x):=by
  refine z2C ?_
  show W (z0s [some .(a),.(i (x:Nat)),none,none,none,none,none,none,none,none,none,none,none,none]) h _
  unfold z0s
  refine J8 (.tup [.tup (stD row),.tup (Y3 cs)]) [some .(a),.(i (x:Nat)),.(g (stD row)),.(g (Y3 cs)),none,none,none,none,none,none,none,none,none,none] (fn_h (ds:=[maD st mk]) (ac_h .(b) rfl) rfl ecl) rfl ?_
  refine J8 .(r) [some .(a),.(i (x:Nat)),.(g (stD row)),.(g (Y3 cs)),.(r h.length),none,none,none,none,none,none,none,none,none] (fn_h (ds:=[maD st mk]) (ac_h .(b) rfl) rfl (z93 l2)) rfl ?_
  obtain ⟨g0,hg0⟩:∃g0,g0=h++[O.dK (kvB [(0,K00 .(h))])]:=⟨_,rfl⟩
  rw [← hg0]
  refine J8 (.ref g0.length) [some .(a),.(i (x:Nat)),.(g (stD row)),.(g (Y3 cs)),.(r h.length),.(r g0.length),none,none,none,none,none,none,none,none] (h1:=g0++[.lst (ryD [.yes])]) ?_ rfl ?_
  ·show eLst _ _ g0=_
   rfl
  obtain ⟨g1,hg1⟩:∃g1,g1=g0++[O.lst (ryD [.yes])]:=⟨_,rfl⟩
  rw [← hg1]
  refine J8 (.ref g1.length) [some .(a),.(i (x:Nat)),.(g (stD row)),.(g (Y3 cs)),.(r h.length),.(r g0.length),.(r g1.length),none,none,none,none,none,none,none] (h1:=g1++[.dK [(.inl 0,.int 0)]]) (zl2 (kk:=.inl 0) rfl rfl rfl) rfl ?_
  have g0l:g0.length=h.length+1:=by rw [hg0];simp
  have g1l:g1.length=h.length+2:=by rw [hg1,K01,g0l];simp
  obtain ⟨G,hG⟩:∃G:Nat->List (Option D)->List (Option D),G=λb t=>[some .(a),.(i (x:Nat)),.(g (stD row)),.(g (Y3 cs)),.(r b),.(r g0.length),.(r g1.length)]++t:=⟨_,rfl⟩
  refine z2w (λγ h'=>∃b t R num kvs j,t.length=7/\γ=G b t/\h'=h++j/\h'[g0.length]?=.(l (ryD R))/\h'[g1.length]?=some (.dK kvs)/\R.length=1+4 * cs.length/\zy5 kvs num bl/\Sg st mk R num bl) ?_ ?_
  ·refine z22 (λc γ h'=>∃b t R num kvs j,t.length=7/\γ=G b t/\h'=h++j/\h.length≤b/\b≠g0.length/\b≠g1.length/\Dic h' b (B c)/\h'[g0.length]?=.(l (ryD R))/\h'[g1.length]?=some (.dK kvs)/\R.length=1+4 * c/\kvs.length≤1+40 * c/\zy5 kvs num (B c)/\Sg st mk R num (B c)) (λ_ _=>False) ?_
   refine W_of (v:=.con (Y3 cs)) (z1x .(b)) ?_
   refine ⟨⟨h.length,_,[.yes],λ_=>0,[(.inl 0,.int 0)],[.dK (kvB [(0,K00 st.length)]),.lst (ryD [.yes]),.dK [(.inl 0,.int 0)]],?_,by rw [hG];rfl,by rw [hg1,hg0];simp,K05 _,by omega,by omega,?_,?_,Y5,rfl,by simp,?_,?_⟩,λ_ _ _ _=>trivial,?_,?_,λ_ _ q=>q.elim⟩
   ·rfl
   ·rw [B0,hg1,hg0]
    exact Dic.app (Dic.app (.inl Y5) _) _
   ·rw [hg1]
    exact x8 Y5
   ·rw [B0]
    intro k hk
    simp at hk
    subst hk
    rfl
   ·rw [B0];exact zb9 .(0)
   ·rintro c d γ h' hd ⟨b,t,R,num,kvs,j,ht,rfl,rfl,hb,b0,b1,dc,ec,ee,eR,ek,nk,sg⟩
    obtain ⟨p,ep,rfl⟩:∃p,cs[c]?=some p/\d=.tup [.int (p.1:Nat),p.2]:=by
     have hd:(Y3 cs)[c]?=some d:=hd
     unfold Y3 at hd
     rw [K07] at hd
     obtain ⟨p,e1,e2⟩:=K16.mp hd
     exact ⟨p,e1,e2.symm⟩
    obtain ⟨k,y⟩:=p
    obtain ⟨pbc,bn,ct⟩:=at_ c _ ep
    have eB:=Bs c _ ep
    dsimp only at bn ct eB
    have hc:=(K2.mp ep).1
    obtain ⟨f,hf⟩:∃f,f=bel st mk (B c) y:=⟨_,rfl⟩
    obtain ⟨t0,t1,t2,t3,t4,t5,t6,rfl⟩:∃t0 t1 t2 t3 t4 t5 t6,t=[t0,t1,t2,t3,t4,t5,t6]:=by
     match t,ht with
     | [t0,t1,t2,t3,t4,t5,t6],_=>exact ⟨_,_,_,_,_,_,_,rfl⟩
    have RL:R.length≤160:=by omega
    rw [hG]
    refine W_eq (v:=[some .(a),.(i (x:Nat)),.(g (stD row)),.(g (Y3 cs)),.(r b),.(r g0.length),.(r g1.length),.(g .(i)),t1,t2,t3,t4,t5,t6]) rfl ?_
    refine J8 (.tup .(i)) [some .(a),.(i (x:Nat)),.(g (stD row)),.(g (Y3 cs)),.(r b),.(r g0.length),.(r g1.length),.(g .(i)),.(i (k:Nat)),some y,t3,t4,t5,t6] .(b) rfl ?_
    obtain ⟨h1,hh1⟩:∃h1,h1=(h++j).set g0.length (.lst (ryD (cutR R num k y))):=⟨_,rfl⟩
    have wr:=zu8 (h:=h++j) (c:=g0.length) (e:=g1.length) (k:=k) (y:=y) (num:=num) ec ee (nk k ct.hk) (by
     rcases bn.ok with q|⟨k',e,hk'⟩
     ·exact .inl q
     ·exact .inr ⟨k',e,nk k' hk'⟩) .(0)
    rw [← hh1] at wr
    refine J8 (.tup [.int ((R.length+1:Nat):Int),.int ((R.length+3:Nat):Int)]) [some .(a),.(i (x:Nat)),.(g (stD row)),.(g (Y3 cs)),.(r b),.(r g0.length),.(r g1.length),.(g .(i)),.(i (k:Nat)),some y,.(i (((R.length+1:Nat):Int))),.(i (((R.length+3:Nat):Int))),t5,t6] (fn_h (ds:=[.ref g0.length,.ref g1.length,.int (k:Nat),y]) (ac_h .(b) .(I)) rfl wr) rfl ?_
    have g0lt:=(K2.mp ec).1
    have g1lt:=(K2.mp ee).1
    have l1':h1.length=(h++j).length:=by rw [hh1,K2u]
    have ec1:h1[g0.length]?=.(l ((ryD (cutR R num k y)))):=by rw [hh1];exact K0v g0lt
    have ee1:h1[g1.length]?=some (.dK kvs):=by rw [hh1,K0e .(0)];exact ee
    have dc1:Dic h1 b (B c):=by
     unfold Dic
     rw [hh1,K0e .(0)]
     exact dc
    have blt:=dc1.lt
    have eu:=zO0 (h:=h1) ma pbc dc1 bn.ok ct
    rw [← hf] at eB
    rw [← hf] at eu
    rw [← eB] at eu
    obtain ⟨a,ha⟩:∃a,a=h1.length:=⟨_,rfl⟩
    obtain ⟨h2,hh2⟩:∃h2,h2=h1.set b (.dF (kvB (B c)))++[.dK (kvB (B (c+1)))]:=⟨_,rfl⟩
    rw [← hh2,← ha] at eu
    refine J8 (.ref a) .(J) (fn_h (ds:=[maD st mk,.ref b,.tup .(i)]) .(I) rfl eu) rfl ?_
    have keep:∀i,i<h1.length->i≠b->h2[i]?=h1[i]?:=λi hi ne=>by
     rw [hh2,K0i (by rw [K2u];exact hi),K0e (K34 ne)]
    have ec2:h2[g0.length]?=.(l ((ryD (cutR R num k y)))):=by rw [keep _ .(0) (K34 b0)];exact ec1
    have ee2:h2[g1.length]?=some (.dK kvs):=by rw [keep _ .(0) (K34 b1)];exact ee1
    have dcb:Dic h2 b (B c):=by rw [hh2];exact (dc1.set).app _
    have dca:Dic h2 a (B (c+1)):=by
     rw [hh2,ha]
     have:=Y5 (h:=h1.set b (.dF (kvB (B c)))) (o:=.dK (kvB (B (c+1))))
     rw [K2u] at this
     exact .inl this
    have pbn:PB .(h) (B (c+1)):=by rw [eB,hf];exact z3y pbc ct
    have sgn:=zC9 pbc sg (by
     rcases bn with ⟨z,hz,s,hs,e⟩|q
     ·refine .inl ⟨s,e,?_⟩
      have hzl:=((pbc.in_blk ct.hk).mp hz).1
      have l3:=ma.l3
      exact (ma.m1 _ (K0d (z35 (show z<mk.length by omega)))).good s hs
     ·exact .inr q) ct (λx o ho=>z8d sq ho)
    rw [← hf,← eB] at sgn
    obtain ⟨N,hN⟩:∃N,N=cutN R num (B c) k f:=⟨_,rfl⟩
    rw [← hN] at sgn
    have hal:h.length≤a:=by rw [ha,l1',K01];omega
    obtain ⟨ja,eja⟩:∃ja,h1=h++ja:=⟨_,by rw [hh1,z1T .(0)]⟩
    obtain ⟨jb,ejb⟩:∃jb,h2=h++jb:=⟨_,by rw [hh2,eja,z1T hb,K0b]⟩
    have h2l:∃j2,h2.set a (.dF (kvB (B (c+1))))=h++j2:=⟨_,by rw [ejb,z1T hal]⟩
    obtain ⟨j2,ej2⟩:=h2l
    obtain ⟨h3,hh3⟩:∃h3,h3=h2.set a (.dF (kvB (B (c+1)))):=⟨_,rfl⟩
    have al:g0.length<a/\g1.length<a/\b<a:=by rw [ha];omega
    have ec3:h3[g0.length]?=.(l ((ryD (cutR R num k y)))):=by rw [hh3,K0e .(0)];exact ec2
    have ee3:h3[g1.length]?=some (.dK kvs):=by rw [hh3,K0e .(0)];exact ee2
    have dcb3:Dic h3 b (B c):=by
     unfold Dic
     rw [hh3,K0e .(0)]
     exact dcb
    have dca3:Dic h3 a (B (c+1)):=by rw [hh3];exact dca.set
    rw [← hh3] at ej2
    have g01:g0.length≠g1.length:=by omega
    have bnl:=pbn.len
    refine z2w (λγ h'=>∃t6 kvs',γ=.(J)/\h'=h3.set g1.length (.dK kvs')/\kvs'.length≤kvs.length+40/\zy5 kvs' N (B (c+1))) ?_ ?_
    ·refine z22 (λi γ h'=>∃t6 kvs',γ=.(J)/\h'=h3.set g1.length (.dK kvs')/\kvs'.length≤kvs.length+i/\(∀k':Nat,k'∈((B (c+1)).map (·.1)).take i->lkD kvs' (.inl (k':Int))=.(i (N k':Nat)))/\∀k':Nat,k'∉((B (c+1)).map (·.1)).take i->lkD kvs' (.inl (k':Int))=lkD kvs (.inl (k':Int))) (λ_ _=>False) ?_
     refine W_of (v:=.con (stD ((B (c+1)).map (·.1)))) (h1:=h3) (by rw [hh3];exact dca.walk .(b)) ?_
     refine ⟨⟨_,kvs,rfl,?_,by omega,by simp,λk' _=>rfl⟩,λ_ _ _ _=>trivial,?_,?_,λ_ _ q=>q.elim⟩
     ·rw [z6D ee3]
     ·rintro i d γ h' hd ⟨t6,kvs',rfl,rfl,el,e1,e2'⟩
      obtain ⟨one,rfl,e1k⟩:=z53 hd
      have ok1:one∈(B (c+1)).map (·.1):=K0d e1k
      have onl:=pbn.klt ok1
      have il:=(K2.mp e1k).1
      have knd:=pbn.nd
      have fresh:one∉((B (c+1)).map (·.1)).take i:=λq=>by
       obtain ⟨i',hi',e'⟩:=K38 q
       rw [K13] at hi'
       rw [Z0b] at e'
       have e3:=(K2.mp e1k).2
       have:=(Z0r (h₀:=by omega) (h₁:=il) knd).mp (e'.trans e3.symm)
       omega
      rw [K02] at il
      refine W_eq (v:=[some .(a),.(i (x:Nat)),.(g (stD row)),.(g (Y3 cs)),.(r b),.(r g0.length),.(r g1.length),.(g .(i)),.(i (k:Nat)),some y,.(i (((R.length+1:Nat):Int))),.(i (((R.length+3:Nat):Int))),.(r a),.(i (one:Nat))]) rfl ?_
      have dcb4:Dic (h3.set g1.length (.dK kvs')) b (B c):=by
       unfold Dic
       rw [K0e (K34 b1)]
       exact dcb3
      have g1l3:=(K2.mp ee3).1
      have tk:((B (c+1)).map (·.1)).take (i+1)=((B (c+1)).map (·.1)).take i++[one]:=by rw [K3z,e1k];rfl
      have test:cOr (λγ=>do let d ← e2 (fInD true) (eVar 13) (eVar 4) γ;asB d) (λγ=>do let d ← e2 (fEqX false) (eVar 13) (eVar 8) γ;asB d) [some .(a),.(i (x:Nat)),.(g (stD row)),.(g (Y3 cs)),.(r b),.(r g0.length),.(r g1.length),.(g .(i)),.(i (k:Nat)),some y,.(i (((R.length+1:Nat):Int))),.(i (((R.length+3:Nat):Int))),.(r a),.(i (one:Nat))] (h3.set g1.length (.dK kvs'))=.ok (!decide (one∈(B c).map (·.1)/\one≠k)) (h3.set g1.length (.dK kvs')):=by
       by_cases q:one∈(B c).map (·.1)
       ·refine (z4U (cb_h (e2_h .(b) .(b) (by rw [dcb4.inD,.(o) q];rfl))) (cb_h (e2_h .(b) .(b) (z7D (z2B (n:=23) _ _))))).trans ?_
        refine congrArg (λb=>Res.ok b (h3.set g1.length (.dK kvs'))) ?_
        by_cases q2:one=k
        ·rw [.(o) q2,.(p) (λz=>z.2 q2)];rfl
        ·rw [.(p) q2,.(o) ⟨q,q2⟩];rfl
       ·refine (zG6 (cb_h (e2_h .(b) .(b) (by rw [dcb4.inD,.(p) q];rfl)))).trans ?_
        rw [.(p) (λz=>q z.1)];rfl
      refine z0m _ test ?_
      by_cases q:one∈(B c).map (·.1)/\one≠k
      ·rw [.(o) q,if_neg .(1)]
       refine z05 (z04 ⟨_,kvs',rfl,rfl,by omega,λk' hk'=>?_,λk' hk'=>e2' k' λz=>hk' (by rw [tk];exact K1k _ z)⟩)
       rw [tk] at hk'
       rcases K0o.mp hk' with z|z
       ·exact e1 k' z
       ·simp at z
        subst z
        rw [e2' _ fresh,nk _ q.1,hN]
        unfold cutN
        rw [if_pos q]
      ·rw [.(p) q,if_pos .(1)]
       have bel1:=z5B (h:=h3.set g1.length (.dK kvs')) (b:=b) (x:=one) (d:=y) sq ma.l3 dcb4 onl (zx9 ma one) bn.ok
       rw [← hf] at bel1
       have Nv:N one=if f one=true then R.length+1 else R.length+3:=by rw [hN];unfold cutN;rw [if_neg q]
       refine z0I (zD0 (i:=g1.length) (y:=.int (one:Nat)) (k:=.inl (one:Int)) (kvs:=kvs') (v:=.int (N one:Nat)) (zu6 (f one) (cv_h (fn_h (ds:=[maD st mk,.ref b,.int (one:Nat),y]) (ac_h .(b) .(I)) rfl bel1)) ?_) rfl .(b) rfl (K0v g1l3) .(0) ?_)
       ·cases q3:f one with
        | true =>
         rw [q3,if_pos rfl] at Nv
         rw [Nv,if_pos rfl]
         exact Z1 rfl
        | false =>
         rw [q3,if_neg .(1)] at Nv
         rw [Nv,if_neg .(1)]
         exact Z1 rfl
       ·rw [K88]
        refine z05 (z04 ⟨_,ptD kvs' (.inl (one:Int)) (.int (N one:Nat)),rfl,rfl,by have:=zC1 (kvs:=kvs') (k:=.inl (one:Int)) (v:=.int (N one:Nat));omega,λk' hk'=>?_,λk' hk'=>?_⟩)
        ·rw [zk7]
         by_cases z:k'=one
         ·subst z;rw [if_pos rfl]
         ·rw [if_neg (λe=>z (inl_inj.mp e))]
          rw [tk] at hk'
          rcases K0o.mp hk' with w|w
          ·exact e1 k' w
          ·simp at w;exact absurd w z
        ·rw [tk] at hk'
         have ne:k'≠one:=λe=>hk' (by simp [e])
         rw [zk7,if_neg (λe=>ne (inl_inj.mp e))]
         exact e2' k' λz=>hk' (K1k _ z)
     ·rintro γ h' ⟨t6,kvs',rfl,rfl,el,e1,e2'⟩
      have ln:(Src.con (stD ((B (c+1)).map (·.1)))).items.length=((B (c+1)).map (·.1)).length:=J7 _
      rw [ln] at el e1
      rw [K29] at e1
      rw [K02] at el
      exact ⟨t6,kvs',rfl,rfl,by omega,e1⟩
    ·rintro _ _ ⟨t6,kvs',rfl,rfl,el,nk'⟩
     refine J8 (.ref a) [some .(a),.(i (x:Nat)),.(g (stD row)),.(g (Y3 cs)),.(r a),.(r g0.length),.(r g1.length),.(g .(i)),.(i (k:Nat)),some y,.(i (((R.length+1:Nat):Int))),.(i (((R.length+3:Nat):Int))),.(r a),t6] .(b) rfl ?_
     have g1l3:=(K2.mp ee3).1
     refine z04 ⟨a,[.(g .(i)),.(i (k:Nat)),some y,.(i (((R.length+1:Nat):Int))),.(i (((R.length+3:Nat):Int))),.(r a),t6],cutR R num k y,N,kvs',j2.set (g1.length - h.length) (.dK kvs'),rfl,rfl,?_,by omega,by omega,by omega,?_,?_,K0v g1l3,by rw [zh2];omega,by omega,nk',sgn⟩
     ·rw [ej2,z1T .(0)]
     ·unfold Dic
      rw [K0e .(0)]
      exact dca3
     ·rw [K0e .(0)]
      exact ec3
   ·rintro γ h' ⟨b,t,R,num,kvs,j,ht,rfl,rfl,hb,b0,b1,dc,ec,ee,eR,ek,nk,sg⟩
    have ln:(Src.con (Y3 cs)).items.length=cs.length:=by show (Y3 cs).length=_;unfold Y3;rw [K02]
    rw [ln] at eR nk sg
    rw [Bn] at nk sg
    exact ⟨b,t,R,num,kvs,j,ht,rfl,rfl,ec,ee,eR,nk,sg⟩
  rintro _ _ ⟨b,t,R,num,kvs,j,ht,rfl,rfl,ec,ee,eR,nk,sg⟩
  have kin:=pb.keyin hx
  have lt:=sg.lt _ kin
  rw [hG]
  have vals:∀a d,a<7->(.(N):List (Option D))[a]?=some (some d)->eVar a (.(N)++t) (h++j)=.ok d (h++j):=λa d ha e=>Z1 (by rw [K0i (by simpa using ha)];exact e)
  have eix:e2 fIx (eVar 2) .(s) (.(N)++t) (h++j)=.ok (.int (rowAt row x:Nat)) (h++j):=e2_h (vals 2 _ .(0) rfl) (vals 1 _ .(0) rfl) (by rw [ix_tup (z58 (by rw [z3I];exact hx))];rfl)
  have rin:rowAt row x∈row:=K0d (z16 (by rw [z3I];exact hx))
  have eidx:orE (eM1 z2J (eVar 2) (e2 fIx (eVar 2) .(s))) (z2z (eVar 2) (e2 fIx (eVar 2) .(s))) (.(N)++t) (h++j)=.ok (.int (keyOf bl x:Nat)) (h++j):=by
   have:=zd9 pb hx
   rw [← rowE] at this
   rw [← this]
   exact zH7 (vals 2 _ .(0) rfl) eix rin (by rw [z3I];omega)
  refine z0l (.tup (ryD (R.take (num (keyOf bl x)+1)))) (J5 (tk_h (c:=num (keyOf bl x)+1) (vals 5 _ .(0) rfl) (e2_h (e2_h (vals 6 _ .(0) rfl) eidx (z8p ee rfl (nk _ kin))) (y:=.int 1) rfl (by rw [z2P];rfl)) ec (by rw [z2c];omega)) (by rw [z6x Y5];unfold ryD;rw [List.map_take])) ⟨⟨_,by rw [K0b]⟩,_,rfl,?_,?_,?_,?_⟩
  ·rw [K13];omega
  ·rw [K13];omega
  ·intro i r e
   refine sg.ok i r ?_
   by_cases hi:i<num (keyOf bl x)+1
   ·rw [K7q hi] at e;exact e
   ·rw [K15 (by rw [K13];omega)] at e;cases e
  ·intro z hz
   have tl:(R.take (num (keyOf bl x)+1)).length - 1=num (keyOf bl x):=by rw [K13];omega
   rw [tl,z8R .(0) .(0),sg.tr _ kin z hz,decide_eq_true_eq]
   exact co z x hz hx
 obtain ⟨d,h',e,⟨j,rfl⟩,R,rfl,r1,r2,r3,r4⟩:=key
 refine ⟨R,?_,r1,r2,r3,r4⟩
 show cln (runF 14 z0s [maD st mk,.int (x:Nat)]) h=_
 refine z1a e ?_
 simp only [Y0]
 exact zm8 R
end
theorem zg2 {i n:Nat}(h2:i<n):z0j [.int i,.int 0,.int n]=pure (.bl true):=by
 have h1:(0:Int)≤i:=by omega
 have h3:(i:Int)<n:=by omega
 show cln (runF 3 z0i [.int i,.int 0,.int n])=_
 rw [z6e (d:=.bl true),z4t]
 show z0i [.(i i),.(i 0),.(i n)]=_
 unfold z0i
 refine zs6 _ ?_
 simp only [K04,K9,z0M,z1m,decide_eq_true h1,decide_eq_true h3,e3,eAnd,eIsi,eNot,eVar,if_true,zp6,zM5,zj1]
 rfl
theorem z9P {xs:List D}{m n:Nat}(h0:m≤xs.length) (h1:xs.length≤n):v7 [.tup xs,.int m,.int n]=pure (.bl true):=by
 have h2:(xs.length:Int)≤n:=by omega
 have h3:(m:Int)≤xs.length:=by omega
 show cln (runF 3 z0A [.tup xs,.int m,.int n])=_
 rw [z6e (d:=.bl true),z4t]
 show z0A [.(g xs),.(i m),.(i n)]=_
 unfold z0A
 refine zs6 _ ?_
 simp only [K04,K9,z9,aNil,z0M,z1m,decide_eq_true h2,decide_eq_true h3,e3,eAnd,Z8,eIsi,eVar,if_true,zv3,zM5,z1C]
 rfl
theorem zy8 {c:Nat}(h1:97≤c) (h2:c≤122):(K21 "abcdefghijklmnopqrstuvwxyz" ⟨#[c]⟩ 0 ("abcdefghijklmnopqrstuvwxyz":Str).length 1).isEmpty=false:=by
 have:∀k,k<26->(K21 "abcdefghijklmnopqrstuvwxyz" ⟨#[k+97]⟩ 0 ("abcdefghijklmnopqrstuvwxyz":Str).length 1).isEmpty=false:=by decide +kernel
 have q:=this (c - 97) .(0)
 rw [show c - 97+97=c by omega] at q
 exact q
theorem zL9 {h:AH}{s:Str}(g:z6o s):z0a [.str s] h=.ok (.bl true) h:=by
 obtain ⟨g1,g2,g3,g4⟩:=g
 obtain ⟨ws,hws⟩:∃ws:List Str,ws=(["yes","no","not","and","or","step","some","all","next","once","ever","until","unless"]:List Str):=⟨_,rfl⟩
 show cln (runF 2 Y6 [.str s]) h=_
 refine z1a (j:=[.lst (ws.map .str)]) (z4C ?_) rfl
 show W (Y6 [.(s s),none]) h _
 unfold Y6
 refine zf7 (xs:=ws.map .str) (by rw [hws];simp) (λh=>by rw [hws];rfl) ?_
 have ln:Z8 fLen (z9 .(k) aNil) [.(s s),.(r h.length)] (h++[.lst (ws.map .str)])=.ok (.int s.length) (h++[.lst (ws.map .str)]):=by
  have:s.length≤sizeLine:=K0r g2 .(1)
  simp [Z8,z9,aNil,eVar,fLen,this]
 have inw:e2 (fIn false) .(k) .(s) [.(s s),.(r h.length)] (h++[.lst (ws.map .str)])=.ok (.bl (decide (s∈ws))) (h++[.lst (ws.map .str)]):=by
  refine e2_h .(b) .(b) ?_
  have g:getL h.length (h++[O.lst (ws.map .str)])=.ok (ws.map .str) (h++[.lst (ws.map .str)]):=by unfold getL;rw [Y5]
  unfold fIn seqD
  rw [M.bind_ok g,z4u,z2l]
  simp [z0n]
 have test:cOr (cNot (cVal (eIsi "str" .(k)))) (cOr (λγ=>do let d ← e2 fLt (Z8 fLen (z9 .(k) aNil)) .(c) γ;asB d) (cOr (λγ=>do let d ← e2 fGt (Z8 fLen (z9 .(k) aNil)) (λ_=>pure (.int 8)) γ;asB d) (λγ=>do let d ← e2 (fIn false) .(k) .(s) γ;asB d))) [.(s s),.(r h.length)] (h++[.lst (ws.map .str)])=.ok false (h++[.lst (ws.map .str)]):=by
  refine z4U (cn_h (b:=true) (cv_h (z42 .(b) rfl))) (z4U (cb_h (e2_h ln (y:=.int 1) rfl (by rw [zj1,.(p) .(0)];rfl))) (z4U (cb_h (e2_h ln (y:=.int 8) rfl (by rw [zK0,.(p) .(0)];rfl))) ?_))
  refine (cb_h inw).trans ?_
  rw [.(p) (by rw [hws];exact g4)]
 refine z0m false test ?_
 rw [if_neg .(1)]
 refine z05 (z0l (.bl true) ?_ ⟨rfl,rfl⟩)
 refine (zt0 (xs:=[]) (j:=[]) (neg:=false) ?_ .(e)).trans rfl
 rw [K1i]
 refine (z1w (src:=.con (z1X s)) (λ_=>false) (λd=>d) ?_ (λ_=>trivial) (by unfold z1X;show ((s.cps.toList.map _):List D).length≤_;rw [K02,← len_str];omega) λd hd=>?_).trans ?_
 ·rfl
 ·have hd:d∈z1X s:=hd
  unfold z1X at hd
  obtain ⟨c,hc,rfl⟩:=K09.mp hd
  obtain ⟨c1,c2⟩:=g3 c hc
  refine ⟨[.(s (⟨#[c]⟩))],λh=>rfl,λj=>?_,λq=>by cases q⟩
  show Res.ok ((!(K21 "abcdefghijklmnopqrstuvwxyz" ⟨#[c]⟩ 0 ("abcdefghijklmnopqrstuvwxyz":Str).length 1).isEmpty) != true) _=_
  rw [zy8 c1 c2]
  rfl
 ·rw [show (Src.con (z1X s)).items.filter (λ_=>false)=[] by simp]
  exact (z8a .(e)).symm
theorem zc0 {h:AH}{i:Nat}{bs:List Bool}{neg:Bool}(e:h[i]?=.(l (bs.map .bl))):fIn neg (.bl true) (.ref i) h=.ok (.bl (bs.any id != neg)) h:=by
 have g:getL i h=.ok (bs.map .bl) h:=by unfold getL;rw [e]
 have f1:(bs.map D.bl).all z0n=true:=K1s.mpr λd hd=>by obtain ⟨b,_,rfl⟩:=K09.mp hd;rfl
 have f2:((bs.map D.bl).any λz=>eqF z (.bl true))=bs.any id:=by
  rw [K89]
  congr 1
  funext b
  cases b<;>rfl
 show (getL i >>= λys=>if z0n (.bl true)&&ys.all z0n then pure (.bl ((ys.any λz=>eqF z (.bl true)) != neg)) else bad:M D) h=_
 rw [M.bind_ok g,f1,f2]
 rfl
theorem rd_h {H:AH}{γ:G}{mT mi mx:G->M D}{L i x a:Nat}{b:Bool}{refs:List Nat}{l:List Bool}(e1:mT γ H=.ok (.ref L) H) (e2':mi γ H=.ok (.int (i:Nat)) H) (e3:mx γ H=.ok (.int (x:Nat)) H) (eL:H[L]?=.(l (refs.map .ref))) (ea:refs[i]?=some a) (el:H[a]?=.(l (l.map .bl))) (ex:l[x]?=some b):e2 fIx (e2 fIx mT mi) mx γ H=.ok (.bl b) H :=
 e2_h (e2_h e1 e2' (ix_h (d:=.ref a) eL (z0S (by rw [K07,ea];rfl)))) e3 (ix_h el (z0S (by rw [K07,ex];rfl)))
theorem zN8 {ma:G->M D}{γ:G}{h:AH}{b:Bool}(e1:ma γ h=.ok (.bl b) h):eNot ma γ h=.ok (.bl (!b)) h:=by
 unfold eNot
 rw [M.bind_ok e1,z0M]
 rfl
theorem zn2 {ma mb:G->M D}{γ:G}{h:AH}{b c:Bool}(e1:ma γ h=.ok (.bl b) h) (e2':mb γ h=.ok (.bl c) h):eAnd ma mb γ h=.ok (.bl (b&&c)) h:=by
 unfold eAnd
 rw [M.bind_ok e1,z0M]
 cases b with
 | false=>rfl
 | true=>exact e2'
theorem atI1 {a b:D}{r:List D}:fIx (.tup (a::b::r)) (.int 1)=pure b:=ix_tup (z0S (j:=1) rfl)
theorem atI2 {a b c:D}{r:List D}:fIx (.tup (a::b::c::r)) (.int 2)=pure c:=ix_tup (z0S (j:=2) rfl)
section
variable {st:List (List Nat)}{mk:List (List Str)}
structure TR (n:Nat) (H:AH) (L:Nat) (refs:List Nat) (T:Tru):Prop where
 eL:H[L]?=.(l (refs.map .ref))
 len:refs.length=T.length
 at_:∀i,i<T.length->∃a l,refs[i]?=some a/\H[a]?=.(l (l.map .bl))/\T[i]?=some l/\l.length=n/\a≠L
theorem TR.app {n:Nat}{H:AH}{L:Nat}{refs:List Nat}{T:Tru}(t:TR n H L refs T) (j:AH):TR n (H++j) L refs T :=
 ⟨x8 t.eL,t.len,λi hi=>by
  obtain ⟨a,l,e1,e2,e3,e4,e5⟩:=t.at_ i hi
  exact ⟨a,l,e1,x8 e2,e3,e4,e5⟩⟩
theorem TR.rd {n:Nat}{H:AH}{γ:G}{mT mi mx:G->M D}{L i x:Nat}{refs:List Nat}{T:Tru}(t:TR n H L refs T) (e1:mT γ H=.ok (.ref L) H) (e2':mi γ H=.ok (.int (i:Nat)) H) (e3:mx γ H=.ok (.int (x:Nat)) H) (hi:i<T.length) (hx:x<n):e2 fIx (e2 fIx mT mi) mx γ H=.ok (.bl (tv T i x)) H:=by
 obtain ⟨a,l,q1,q2,q3,q4,q5⟩:=t.at_ i hi
 refine rd_h e1 e2' e3 t.eL q1 q2 ?_
 unfold tv
 rw [q3]
 show l[x]?=some ((l[x]?).getD false)
 rw [K6 .(0)]
 rfl
theorem TR.snoc {n:Nat}{H:AH}{L:Nat}{refs:List Nat}{T:Tru}(t:TR n H L refs T) {l:List Bool}(hl:l.length=n):TR n ((H++[O.lst (l.map D.bl)]).set L (O.lst ((refs.map D.ref)++[D.ref H.length]))) L (refs++[H.length]) (T++[l]):=by
 have Ll:=(K2.mp t.eL).1
 refine ⟨?_,by rw [K01,K01,t.len];rfl,λi hi=>?_⟩
 ·rw [K0v (by rw [K01];omega),K36];rfl
 ·rw [K01] at hi
  by_cases q:i<T.length
  ·obtain ⟨a,l',q1,q2,q3,q4,q5⟩:=t.at_ i q
   refine ⟨a,l',?_,?_,?_,q4,q5⟩
   ·rw [K0i (by rw [t.len];exact q)];exact q1
   ·rw [K0e (K34 q5)];exact x8 q2
   ·rw [K0i q];exact q3
  ·have ie:i=T.length:=by simp at hi;omega
   refine ⟨H.length,l,?_,?_,?_,hl,by omega⟩
   ·rw [ie,← t.len];simp
   ·rw [K0e .(0)];exact Y5
   ·rw [ie];simp
theorem z1c {cap:List (Option Nat)}{g:D->G->M G}{me:G->M D}{γ:G}{H:AH}{r:Sy}{T:Tru}{E a:Nat}(ea:γ[a]?=some (.(r E))) (e:H[E]?=.(l ((stD (K00 st.length))))) (hn:st.length≤40)
 (hd:∀x,x<.(h)->∃γ1,(∀h,g (.int x) (capG cap γ) h=.ok γ1 h)/\∀j,me γ1 (H++j)=.ok (.bl (r.f st mk T x)) (H++j)):x9 cap (orE (z0f (eVar a)) (x6 (eVar a))) g (λ_=>pure true) me γ H=.ok (.ref H.length) (H++[O.lst ((r.t st mk T).map D.bl)]):=by
 refine (z2r (src:=.lst E (stD (K00 st.length))) (l:=K00 st.length) (λx=>.bl (r.f st mk T x)) (zj4 (Z1 ea) e) rfl (λj=>x8 e) (by simp;omega) λx hx=>?_).trans ?_
 ·obtain ⟨γ1,a1,a2⟩:=hd x (K0y.mp hx)
  exact ⟨γ1,a1,λj=>rfl,a2⟩
 ·unfold Sy.t
  rw [K0w]
  rfl
section
variable {γ:G}{H:AH}{w:Str}{zs:List D}{a:Str}
theorem z23 (ea:γ[5]?=some (.(g (.str a::zs)))) (b:Bool) (hb:decide (a=w)=b):(λγ=>(do let d ← e2 (fEq false) (e2 fIx (eVar 5) .(7)) (λ_=>pure (.str w)) γ;asB d:M Bool)) γ H=.ok b H :=
 cb_h (e2_h (e2_h (Z1 ea) (y:=.int 0) rfl (by rw [ix0];rfl)) (y:=.str w) rfl (by rw [zq7,hb,K2e];rfl))
theorem z8T {n:Nat}(ea:γ[5]?=some (.(g (.str a::zs)))) (hn:zs.length+1=n):(λγ=>(do let d ← e2 (fEq false) (Z8 fLen .(u)) (λ_=>pure (.int (n:Nat))) γ;asB d:M Bool)) γ H=.ok true H :=
 cb_h (e2_h (J5 (Z1 ea) (by rw [z1C];rfl)) (y:=.int (n:Nat)) rfl (by
  rw [z8i,.(o) (by rw [K0g];omega)];rfl))
end
theorem zp9 {γ:G}{H:AH}{c:Nat}{a:Str}{l:List Nat}(e4:capG [some 4,none] γ=[.(i (c:Nat)),none]) (ea:γ[5]?=some (.(g (.str a::stD l)))) (hl:∀i∈l,i<c) (l3:l.length≤3):clT (λγ=>do let d ← e2 (fEqX true) (x9 [some 4,none] (orE (z0f (z1V (eVar 5) (z3r .(c)) z3Y)) (x6 (z1V (eVar 5) (z3r .(c)) z3Y))) (gN 1) (cNot (cVal (eFn 3 z0j (z9 .(s) (z9 .(7) (z9 .(k) aNil)))))) .(s)) (eLst aNil) γ;asB d) γ H=.ok false H:=by
 refine (zz3 (xs:=[]) (j:=[]) (neg:=true) ?_ .(e)).trans rfl
 rw [K1i]
 have sl:z1V (eVar 5) (z3r .(c)) z3Y γ H=.ok (.tup (stD l)) H:=by
  unfold z1V
  have e3:z3r .(c) γ H=.ok (some ((1:Nat):Int)) H:=rfl
  rw [M.bind_ok (Z1 ea),M.bind_ok e3,M.bind_ok (show z3Y γ H=.ok none H from rfl),sl_tup,zH8]
  rfl
 refine (z1w (src:=.con (stD l)) (λ_=>false) (λd=>d) (zu7 sl) (λ_=>trivial) (by show (stD l).length≤_;rw [J7];omega) λd hd=>?_).trans ?_
 ·obtain ⟨i,hi,rfl⟩:=K09.mp (show d∈l.map _ from hd)
  rw [e4]
  refine ⟨[.(i (c:Nat)),.(i (i:Nat))],λh=>rfl,λj=>?_,λq=>by cases q⟩
  exact cn_h (b:=true) (cv_h (fn_h (ds:=[.int (i:Nat),.int 0,.int (c:Nat)]) (ac_h .(b) (ac_h (d:=.int 0) rfl (ac_h .(b) rfl))) rfl (by rw [zg2 (hl i hi)];rfl)))
 ·rw [show (Src.con (stD l)).items.filter (λ_=>false)=[] by simp]
  exact (z8a .(e)).symm
theorem zi1 {h:AH}(ma:MA st mk) {R:List Sy}(r1:1≤R.length) (r2:R.length≤160) (ok:∀(i:Nat) (r:Sy),R[i]?=some r->r.ok i):∃bs:List Bool,Y4 [maD st mk,.tup (ryD R)] h=.ok .(r) (h++[.lst (bs.map .bl)])/\∀x,x<st.length->bs[x]?=some (tv (trus st mk R) (R.length - 1) x):=by
 have l1:=ma.l1
 have l2:=ma.l2
 have l3:=ma.l3
 have sq:=z6s ma
 obtain ⟨n,hn⟩:∃n,n=st.length:=⟨_,rfl⟩
 have key:W (runF 6 k7 [maD st mk,.tup (ryD R)]) h λd h'=>∃(a:Nat) (j:AH) (bs:List Bool),d=.ref a/\h.length≤a/\h'=h++j/\h'[a]?=.(l (bs.map .bl))/\∀x,x<.(h)->bs[x]?=some (tv (trus st mk R) (R.length - 1) x):=by
  refine z2C ?_
  show W (k7 [some .(a),.(g (ryD R)),none,none,none,none]) h _
  unfold k7
  refine z0m false (cn_h (b:=true) (cv_h (fn_h (ds:=[.tup (ryD R),.int 1,.int 160]) (ac_h .(b) (ac_h (d:=.int 1) rfl (ac_h (d:=.int 160) rfl rfl))) rfl (congrFun (z9P (m:=1) (n:=160) (by rw [z2c];exact r1) (by rw [z2c];exact r2)) _)))) ?_
  rw [if_neg .(1)]
  refine z05 ?_
  obtain ⟨h1,hh1⟩:∃h1,h1=h++[O.lst (stD (K00 .(h)))]:=⟨_,rfl⟩
  have h1l:h1.length=h.length+1:=by rw [hh1];simp
  refine J8 .(r) [some .(a),.(g (ryD R)),.(r h.length),none,none,none] (h1:=h1) ?_ rfl ?_
  ·rw [zB8 (tup:=false) (n:=.(h)) (h1:=h) (J5 (e2_h .(b) (y:=.int 0) rfl (by rw [z2f];rfl)) (by rw [z1C,z2E];rfl)) .(0),hh1]
   exact z8a (by rw [zy7,J7];simp;omega)
  refine zf7 (xs:=[]) .(e) (λh=>rfl) ?_
  have E1:h1[h.length]?=.(l ((stD (K00 .(h))))):=by rw [hh1];exact Y5
  refine z2w (λγ h'=>∃a b refs j,γ=[some .(a),.(g (ryD R)),.(r h.length),.(r h1.length),a,b]/\h'=h++j/\(∀q∈refs,h.length≤q)/\TR .(h) h' h1.length refs (trus st mk R)) ?_ ?_
  ·refine Y8 (λc γ h'=>∃a b refs j,γ=[some .(a),.(g (ryD R)),.(r h.length),.(r h1.length),a,b]/\h'=h++j/\(∀q∈refs,h.length≤q)/\h'[h.length]?=.(l ((stD (K00 .(h)))))/\TR .(h) h' h1.length refs (trus st mk (R.take c))) (λ_ _=>False) ?_
   refine W_of (v:=.int (R.length:Nat)) (J5 .(b) (by rw [z1C,z2c];rfl)) ?_
   refine ⟨R.length,rfl,by omega,⟨none,none,[],_,rfl,by rw [hh1,K0b],by simp,x8 E1,⟨Y5,rfl,λi hi=>by cases hi⟩⟩,?_,?_,λ_ _ q=>q.elim⟩
   ·rintro c γ h' hc ⟨a,b,refs,j,rfl,hj,rl,eE,t⟩
    have er:R[c]?=some R[c]:=K6 hc
    obtain ⟨r,hr⟩:∃r,r=R[c]:=⟨_,rfl⟩
    rw [← hr] at er
    have rok:=ok c r er
    have ts:trus st mk (R.take (c+1))=trus st mk (R.take c)++[r.t st mk (trus st mk (R.take c))]:=by rw [K3z,er];exact z3k
    have tl:(trus st mk (R.take c)).length=c:=by rw [z2g,K13];omega
    obtain ⟨T,hT⟩:∃T,T=trus st mk (R.take c):=⟨_,rfl⟩
    rw [← hT] at t ts tl
    rw [ts]
    have eP:fIx (.tup (ryD R)) (.int (c:Nat)) h'=.ok r.d h':=by rw [ix_tup (z0S (by unfold ryD;rw [K07,er];rfl))];rfl
    refine J8 r.d .(G) (e2_h .(b) .(b) eP) rfl ?_
    have L0:h1.length≠h.length:=by omega
    have Ll:=(K2.mp t.eL).1
    have fin:∀γ':G,γ'=.(G)->forW (λγ h'=>∃a b refs j,γ=[some .(a),.(g (ryD R)),.(r h.length),.(r h1.length),a,b]/\h'=h++j/\(∀q∈refs,h.length≤q)/\h'[h.length]?=.(l ((stD (K00 .(h)))))/\TR .(h) h' h1.length refs (T++[r.t st mk T])) (λ_ _=>False) (.nx γ') ((h'++[O.lst ((r.t st mk T).map D.bl)]).set h1.length (O.lst ((refs.map D.ref)++[D.ref h'.length]))):=by
     rintro _ rfl
     refine ⟨_,_,refs++[h'.length],j++[O.lst ((r.t st mk T).map D.bl)] |>.set (h1.length - h.length) (O.lst ((refs.map D.ref)++[D.ref h'.length])),rfl,?_,?_,?_,t.snoc (by unfold Sy.t;simp)⟩
     ·rw [hj,K0b,K3i _ _ .(0)]
     ·intro q hq
      rcases K0o.mp hq with q1|q1
      ·exact rl q q1
      ·simp at q1;subst q1;rw [hj,K01];omega
     ·rw [K0e L0];exact x8 eE
    have app:∀{me:G->M D} {mt:G->M Out} {Q:Out->AH->Prop},me .(G) h'=.ok (.ref h'.length) (h'++[O.lst ((r.t st mk T).map D.bl)])->W (mt .(G)) ((h'++[O.lst ((r.t st mk T).map D.bl)]).set h1.length (O.lst ((refs.map D.ref)++[D.ref h'.length]))) Q->W (Z0 (z0e (eM1 j8 (eVar 3) me)) mt .(G)) h' Q:=λev z =>
     zI5 rfl t.eL ev (x8 t.eL) (by rw [K02,t.len,tl];omega) z
    have nl:∀x,∀o∈nx st x,o<st.length:=λx o ho=>z8d sq ho
    have c0:∀(a:Str) (zs:List D),zs.length≤2->r.d=.tup (.str a::zs)->cOr (cNot (cVal (eFn 3 v7 (z9 (eVar 5) (z9 .(c) (z9 (λ_=>pure (.int 3)) aNil)))))) (cNot (cVal (eIsi "str" (e2 fIx (eVar 5) .(7))))) .(G) h'=.ok false h':=λa zs hz e=>by
     rw [e]
     exact z4U (cn_h (b:=true) (cv_h (fn_h (ds:=[.tup (.str a::zs),.int 1,.int 3]) (ac_h .(b) (ac_h (d:=.int 1) rfl (ac_h (d:=.int 3) rfl rfl))) rfl (congrFun (z9P (m:=1) (n:=3) .(e) (by simp;omega)) _)))) (cn_h (b:=true) (cv_h (z42 (e2_h .(b) (y:=.int 0) rfl (by rw [ix0];rfl)) rfl)))
    have C0:cOr (cNot (cVal (eFn 3 v7 (z9 (eVar 5) (z9 .(c) (z9 (λ_=>pure (.int 3)) aNil)))))) (cNot (cVal (eIsi "str" (e2 fIx (eVar 5) .(7))))) .(G) h'=.ok false h':=by
     cases hrr:r with
     | yes=>rw [← hrr];exact c0 _ [] .(e) (by rw [hrr];rfl)
     | mark s=>rw [← hrr];exact c0 _ [.str s] .(e) (by rw [hrr];rfl)
     | step k=>rw [← hrr];exact c0 _ [.int k] .(e) (by rw [hrr];rfl)
     | neg k=>rw [← hrr];exact c0 _ [.int k] .(e) (by rw [hrr];rfl)
     | con a b=>rw [← hrr];exact c0 _ [.int a,.int b] .(e) (by rw [hrr];rfl)
    refine z0m false C0 ?_
    rw [if_neg .(1)]
    refine z05 ?_
    clear C0 c0
    cases r with
    | yes =>
     refine z0m true (z4l (z23 rfl true .(2)) (z8T (n:=1) rfl rfl)) ?_
     rw [if_pos rfl]
     refine z0I (app (z1c (r:=.yes) rfl eE l2 λx hx=>⟨[.(i (x:Nat))],λh=>rfl,λj=>rfl⟩) ?_)
     refine z05 (z04 (fin _ rfl))
    | mark s =>
     refine z0m false (z1S (z23 rfl false .(2))) ?_
     rw [if_neg .(1)]
     refine z0I (z0m true (z4l (z23 rfl true .(2)) (z4l (z8T (n:=2) rfl rfl) (cv_h (fn_h (ds:=[.str s]) (ac_h (e2_h .(b) (y:=.int 1) rfl (by show fIx (.tup [.str "mark",.str s]) (.int 1) _=_;rw [atI1];rfl)) rfl) rfl (zL9 rok))))) ?_)
     rw [if_pos rfl]
     refine z0I (app (z1c (r:=.mark s) rfl eE l2 λx hx=>⟨[some (Sy.mark s).d,some .(a),.(i (x:Nat))],λh=>rfl,λj=>?_⟩) ?_)
     ·refine e2_h (e2_h .(b) (y:=.int 1) rfl (by show fIx (.tup [.str "mark",.str s]) (.int 1) _=_;rw [atI1];rfl)) (e2_h (e2_h .(b) (y:=.int 1) rfl (by rw [z5t];rfl)) .(b) (by rw [ix_tup (z9r (show x<mk.length by omega))];rfl)) ?_
      rw [z8V,K2e]
      rfl
     ·refine z05 (z05 (z04 (fin _ rfl)))
    | neg k =>
     have hk:k<c:=rok
     refine z0m false (z1S (z23 rfl false .(2))) ?_
     rw [if_neg .(1)]
     refine z0I (z0m false (z1S (z23 rfl false .(2))) ?_)
     rw [if_neg .(1)]
     refine z0I (z0m false (zp9 (l:=[k]) rfl rfl (by simpa using hk) .(e)) ?_)
     rw [if_neg .(1)]
     refine z0I (z0m true (z4l (z23 rfl true .(2)) (z8T (n:=2) rfl rfl)) ?_)
     rw [if_pos rfl]
     refine z0I (app (z1c (r:=.neg k) rfl eE l2 λx hx=>⟨[.(r h1.length),some (Sy.neg k).d,.(i (x:Nat))],λh=>rfl,λj=>?_⟩) ?_)
     ·exact zN8 ((t.app j).rd .(b) (e2_h .(b) (y:=.int 1) rfl (by show fIx (.tup [.str "not",.int (k:Nat)]) (.int 1) _=_;rw [atI1];rfl)) .(b) .(0) hx)
     ·refine z05 (z05 (z05 (z05 (z04 (fin _ rfl)))))
    | con p q =>
     have hp:p<c:=rok.1
     have hq:q<c:=rok.2
     refine z0m false (z1S (z23 rfl false .(2))) ?_
     rw [if_neg .(1)]
     refine z0I (z0m false (z1S (z23 rfl false .(2))) ?_)
     rw [if_neg .(1)]
     refine z0I (z0m false (zp9 (l:=[p,q]) rfl rfl (by simp;omega) .(e)) ?_)
     rw [if_neg .(1)]
     refine z0I (z0m false (z1S (z23 rfl false .(2))) ?_)
     rw [if_neg .(1)]
     refine z0I (z0m true (z4l (z23 rfl true .(2)) (z8T (n:=3) rfl rfl)) ?_)
     rw [if_pos rfl]
     refine z0I (app (z1c (r:=.con p q) rfl eE l2 λx hx=>⟨[.(r h1.length),some (Sy.con p q).d,.(i (x:Nat))],λh=>rfl,λj=>?_⟩) ?_)
     ·exact zn2 ((t.app j).rd .(b) (e2_h .(b) (y:=.int 1) rfl (by show fIx (.tup [.str "and",.int (p:Nat),.int (q:Nat)]) (.int 1) _=_;rw [atI1];rfl)) .(b) .(0) hx) ((t.app j).rd .(b) (e2_h .(b) (y:=.int 2) rfl (by show fIx (.tup [.str "and",.int (p:Nat),.int (q:Nat)]) (.int 2) _=_;rw [atI2];rfl)) .(b) .(0) hx)
     ·refine z05 (z05 (z05 (z05 (z05 (z04 (fin _ rfl))))))
    | step k =>
     have hk:k<c:=rok
     refine z0m false (z1S (z23 rfl false .(2))) ?_
     rw [if_neg .(1)]
     refine z0I (z0m false (z1S (z23 rfl false .(2))) ?_)
     rw [if_neg .(1)]
     refine z0I (z0m false (zp9 (l:=[k]) rfl rfl (by simpa using hk) .(e)) ?_)
     rw [if_neg .(1)]
     refine z0I (z0m false (z1S (z23 rfl false .(2))) ?_)
     rw [if_neg .(1)]
     refine z0I (z0m false (z1S (z23 rfl false .(2))) ?_)
     rw [if_neg .(1)]
     refine z0I (z0m true (z4l (z23 rfl true .(2)) (z8T (n:=2) rfl rfl)) ?_)
     rw [if_pos rfl]
     refine z0I (app (z1c (r:=.step k) rfl eE l2 λx hx=>⟨[some .(a),.(r h1.length),some (Sy.step k).d,.(i (x:Nat))],λh=>rfl,λj=>?_⟩) ?_)
     ·have xs:(nx st x).length≤40:=by
       have g:=K0d (z6K hx)
       exact K0r (z2n (ma.s1 _ g) (ma.s2 _ g)) l2
      refine z1a (j:=[.lst (((nx st x).map (tv T k)).map .bl)]) (e2_h (x:=.bl true) rfl (y:=.ref (h'++j).length) (h2:=h'++j++[O.lst (((nx st x).map (tv T k)).map D.bl)]) ((z2r (src:=.con (stD (nx st x))) (l:=nx st x) (λo=>.bl (tv T k o)) (zu7 (e2_h (e2_h .(b) (y:=.int 0) rfl (by rw [z2f];rfl)) .(b) (by rw [z7B hx];rfl))) rfl (λ_=>trivial) .(0) λo ho=>⟨[.(r h1.length),some (Sy.step k).d,.(i (o:Nat))],λh=>rfl,λ_=>rfl,λj2=>?_⟩).trans ?_) ?_) rfl
      ·rw [K0b]
       exact (t.app _).rd .(b) (e2_h .(b) (y:=.int 1) rfl (by show fIx (.tup [.str "step",.int (k:Nat)]) (.int 1) _=_;rw [atI1];rfl)) .(b) .(0) (nl x o ho)
      ·rw [K0w];rfl
      ·rw [zc0 Y5,K2e,K89]
       rfl
     ·refine z05 (z05 (z05 (z05 (z05 (z05 (z04 (fin _ rfl)))))))
   ·rintro γ h' ⟨a,b,refs,j,rfl,hj,rl,eE,t⟩
    rw [K29] at t
    exact ⟨a,b,refs,j,rfl,hj,rl,t⟩
  ·rintro _ h' ⟨a,b,refs,j,rfl,hj,rl,t⟩
   have tl:(trus st mk R).length=R.length:=z2g
   obtain ⟨q,l,q1,q2,q3,q4,q5⟩:=t.at_ (R.length - 1) .(0)
   refine z0l (.ref q) (e2_h .(b) (y:=.int (-1)) rfl (ix_h t.eL ?_)) ⟨q,j,l,rfl,rl q (K0d q1),hj,q2,λx hx=>?_⟩
   ·exact zt3 (by rw [K02,t.len,tl];exact r1) (by rw [K02,t.len,tl,K07,q1];rfl)
   ·unfold tv
    rw [q3]
    show l[x]?=some ((l[x]?).getD false)
    rw [K6 .(0)]
    rfl
 obtain ⟨d,h',e,a,j,bs,rfl,ha,rfl,ea,hb⟩:=key
 refine ⟨bs,?_,hb⟩
 show cln (runF 6 k7 [maD st mk,.tup (ryD R)]) h=_
 refine z2m e rfl (z2Z h) ha ea ?_
 exact z1f λd hd=>by obtain ⟨b,_,rfl⟩:=K09.mp hd;rfl
end
section
variable {st:List (List Nat)}{mk:List (List Str)}
theorem z3l (k:Nat):(y4 st mk k).length=st.length:=(z1F k).len
theorem ze9 {H:AH}{γ:G}{mo ma:G->M D}{b:Nat}{looks:List Lk}{l:Lk}(e1:mo γ H=.ok (.ref b) H) (e2':ma γ H=.ok (lkE l) H) (eb:H[b]?=.(l (looks.map lkE))) (hl:looks.length≤1000) (m:l∈looks):eM1 z3z mo ma γ H=.ok (.int (looks.idxOf l:Nat)) H:=by
 have g:getL b H=.ok (looks.map lkE) H:=by unfold getL;rw [eb]
 obtain ⟨i1,i2⟩:=z2H (h:=H) m
 show (mo γ >>= λo=>z2h o >>= λn=>ma γ >>= λy=>z3z n y) H=_
 rw [M.bind_ok e1,M.bind_ok (z6g eb),M.bind_ok e2']
 unfold z3z
 rw [M.bind_ok g]
 unfold ixX
 rw [if_pos ⟨z6t _,by rw [K02];omega,i1⟩,i2]
theorem zx0 {h:AH}(ma:MA st mk):z0Y [maD st mk] h=.ok .(r) (h++[.lst (stD (y4 st mk st.length))]):=by
 have l1:=ma.l1
 have l2:=ma.l2
 have l3:=ma.l3
 have sq:=z6s ma
 have key:W (runF 6 z0d [maD st mk]) h λd h'=>∃(a:Nat) (j:AH),d=.ref a/\h.length≤a/\h'=h++j/\h'[a]?=.(l ((stD (y4 st mk .(h))))):=by
  refine z2C ?_
  show W (z0d [some .(a),none,none,none,none,none]) h _
  unfold z0d
  refine J8 .(r) [some .(a),.(r h.length),none,none,none,none] (h1:=h++[.lst (stD (y4 st mk 0))]) ?_ rfl ?_
  ·refine (z1w (src:=.con (stsD st)) (λ_=>true) (λ_=>.int 0) (z1x (e2_h .(b) (y:=.int 0) rfl (by rw [z2f];rfl))) (λ_=>trivial) (by show (stsD st).length≤_;rw [z2E];omega) λd hd=>⟨[some d],λh=>rfl,λj=>rfl,λ_ j=>rfl⟩).trans ?_
   rw [filter_tt]
   show Res.ok (D.ref h.length) (h++[O.lst ((stsD st).map λ_=>D.int 0)])=.ok .(r) (h++[.lst (stD (K0c .(h) 0))])
   have:((stsD st).map λ_=>D.int 0)=stD (K0c .(h) 0):=by
    unfold stsD stD
    rw [K0w,List.map_replicate]
    exact List.map_eq_replicate_iff.mpr λb hb=>rfl
   rw [this]
  refine z2w (λγ h'=>∃(a:Nat) (j:AH) (b c d e:Option D),γ=[some .(a),.(r a),b,c,d,e]/\h.length≤a/\h'=h++j/\h'[a]?=.(l ((stD (y4 st mk .(h)))))) ?_ ?_
  ·refine Y8 (λk γ h'=>∃(a:Nat) (j:AH) (b c d e:Option D),γ=[some .(a),.(r a),b,c,d,e]/\h.length≤a/\h'=h++j/\h'[a]?=.(l ((stD (y4 st mk k))))) (λ_ _=>False) ?_
   refine W_of (v:=.int (st.length:Nat)) (J5 .(b) (by rw [z7J Y5,J7,z3l])) ?_
   refine ⟨.(h),rfl,by omega,⟨h.length,_,none,none,none,none,rfl,K05 _,rfl,Y5⟩,?_,λγ h' q=>q,λ_ _ q=>q.elim⟩
   rintro k γ h' hk ⟨a,j,b,c,d,e,rfl,ha,hj,ea⟩
   obtain ⟨Hk,hHk⟩:∃Hk,Hk=y4 st mk k:=⟨_,rfl⟩
   rw [← hHk] at ea
   have hlen:Hk.length=st.length:=by rw [hHk];exact z3l k
   obtain ⟨looks,hlk⟩:∃looks,looks=(K00 .(h)).map (lkH st mk Hk):=⟨_,rfl⟩
   have lkl:looks.length=st.length:=by rw [hlk];simp
   refine zf7 (xs:=[]) .(e) (λh=>rfl) ?_
   refine z2w (λγ H=>∃d e,γ=[some .(a),.(r a),.(i (k:Nat)),.(r h'.length),d,e]/\H=h'++[.lst (looks.map lkE)]) ?_ ?_
   ·refine Y8 (λi γ H=>∃d e,γ=[some .(a),.(r a),.(i (k:Nat)),.(r h'.length),d,e]/\H=h'++[.lst ((looks.take i).map lkE)]) (λ_ _=>False) ?_
    refine W_of (v:=.int (st.length:Nat)) (J5 .(b) (by rw [z7J (x8 ea),J7,hlen])) ?_
    refine ⟨.(h),rfl,by omega,⟨d,e,rfl,rfl⟩,?_,λγ H q=>by rw [← lkl,K29] at q;exact q,λ_ _ q=>q.elim⟩
    rintro i γ H hi ⟨d,e,rfl,rfl⟩
    obtain ⟨H,hH⟩:∃H,H=h'++[O.lst ((looks.take i).map lkE)]:=⟨_,rfl⟩
    rw [← hH]
    have eaH:H[a]?=.(l (stD Hk)):=by rw [hH];exact x8 ea
    have xs:(nx st i).length≤40:=by
     have g:=K0d (z6K hi)
     exact K0r (z2n (ma.s1 _ g) (ma.s2 _ g)) l2
    have nlt:∀o∈nx st i,o<Hk.length:=λo ho=>by rw [hlen];exact z8d sq ho
    refine J8 (.tup (stD (setN ((nx st i).map (rowAt Hk))))) [some .(a),.(r a),.(i (k:Nat)),.(r h'.length),.(i (i:Nat)),.(g ((stD (setN ((nx st i).map (rowAt Hk))))))] (h1:=H) ?_ rfl ?_
    ·refine z1a (j:=[.lst (stD ((nx st i).map (rowAt Hk)))]++[.set (kN (dedN ((nx st i).map (rowAt Hk)))),.lst (stD (setN ((nx st i).map (rowAt Hk))))]) (J5 (ss_h (i:=H.length) (h1:=H++[.lst (stD ((nx st i).map (rowAt Hk)))]) (l:=(nx st i).map (rowAt Hk)) ?_ Y5 (by rw [K02];omega) ?_) ?_) (by simp only [Y0];exact z25 _)
     ·refine (z2r (src:=.con (stD (nx st i))) (l:=nx st i) (λo=>.int (rowAt Hk o:Nat)) (z1x (e2_h (e2_h .(b) (y:=.int 0) rfl (by rw [z2f];rfl)) .(b) (by rw [z7B hi];rfl))) rfl (λ_=>trivial) .(0) λo ho=>⟨[.(r a),.(i (o:Nat))],λh=>rfl,λ_=>rfl,λj2=>e2_h .(b) .(b) (ix_h (x8 eaH) (z58 (nlt o ho)))⟩).trans ?_
      unfold stD
      rw [K0w]
      rfl
     ·have:(setN ((nx st i).map (rowAt Hk))).length≤Hk.length:=ze0 λu hu=>by
       obtain ⟨o,ho,rfl⟩:=K09.mp hu
       have:=(z1F (st:=st) (mk:=mk) k).le o (by rw [← hlen];exact nlt o ho)
       rw [← hHk] at this
       have:=nlt o ho
       omega
      omega
     ·refine (z6x ((at_E (i:=1)).trans rfl)).trans ?_
      rw [K0b]
    ·have ei:looks[i]?=some (lkH st mk Hk i):=by rw [hlk,K07,K1n hi];rfl
     have eb:H[h'.length]?=.(l (((looks.take i).map lkE))):=by rw [hH];exact Y5
     refine z1G (a:=3) (v:=lkE (lkH st mk Hk i)) rfl eb (by rw [K02,K13];omega) ?_ ?_
     ·unfold eTup
      have:z9 (e2 fIx .(s) (eVar 4)) (z9 (e2 fIx (e2 fIx .(k) .(c)) (eVar 4)) .(u)) [some .(a),.(r a),.(i (k:Nat)),.(r h'.length),.(i (i:Nat)),.(g ((stD (setN ((nx st i).map (rowAt Hk))))))] H=.ok [.int (rowAt Hk i:Nat),.tup ((mkAt mk i).map .str),.tup (stD (setN ((nx st i).map (rowAt Hk))))] H :=
       ac_h (e2_h .(b) .(b) (ix_h eaH (z58 (by rw [hlen];exact hi)))) (ac_h (e2_h (e2_h .(b) (y:=.int 1) rfl (by rw [z5t];rfl)) .(b) (by rw [ix_tup (z9r (show i<mk.length by omega))];rfl)) (ac_h .(b) rfl))
      rw [M.bind_ok this]
      rfl
     ·refine z04 ⟨_,_,rfl,?_⟩
      rw [hH,z9W,K3z,ei,K36]
      rfl
   ·rintro _ _ ⟨d,e,rfl,rfl⟩
    obtain ⟨H,hH⟩:∃H,H=h'++[O.lst (looks.map lkE)]:=⟨_,rfl⟩
    rw [← hH]
    have eb:∀j,(H++j)[h'.length]?=.(l (looks.map lkE)):=λj=>by rw [hH];exact x8 Y5
    refine J8 (.ref H.length) [some .(a),.(r H.length),.(i (k:Nat)),.(r h'.length),d,e] (h1:=H++[.lst (stD (y4 st mk (k+1)))]) ?_ rfl ?_
    ·have eb0:=eb []
     rw [K1i] at eb0
     refine (z1w (src:=.lst h'.length (looks.map lkE)) (λ_=>true) (λd=>.int ((looks.map lkE).findIdx (λz=>decide (eqN 24 h z d=some true)):Nat)) (zn0 .(b) eb0) (λj=>eb j) (by show (looks.map lkE).length≤_;rw [K02];omega) λd hd=>?_).trans ?_
     ·obtain ⟨l,hl,rfl⟩:=K09.mp (show d∈looks.map lkE from hd)
      refine ⟨[.(r h'.length),some (lkE l)],λh=>rfl,λj=>rfl,λ_ j=>?_⟩
      rw [ze9 (b:=h'.length) .(b) .(b) (eb j) .(0) hl]
      have:=(z2H (h:=h) hl).2
      unfold z2s at this
      rw [this]
     ·rw [filter_tt]
      show Res.ok (D.ref H.length) (H++[O.lst ((looks.map lkE).map λd=>D.int ((looks.map lkE).findIdx (λz=>decide (eqN 24 h z d=some true)):Nat))])=_
      have:((looks.map lkE).map λd=>D.int ((looks.map lkE).findIdx (λz=>decide (eqN 24 h z d=some true)):Nat))=stD (y4 st mk (k+1)):=by
       show _=stD (z0U st mk (y4 st mk k))
       unfold z0U stD
       rw [← hHk,← hlk,K0w,K0w]
       conv=>lhs;arg 2;rw [hlk]
       rw [K0w]
       refine K2t λx hx=>?_
       have m:lkH st mk Hk x∈looks:=by rw [hlk];exact K09.mpr ⟨x,hx,rfl⟩
       have:=(z2H (h:=h) m).2
       unfold z2s at this
       show D.int ((looks.map lkE).findIdx (λz=>decide (eqN 24 h z (lkE (lkH st mk Hk x))=some true)):Nat)=.int (looks.idxOf (lkH st mk Hk x):Nat)
       rw [this]
      rw [this]
    ·refine z04 ⟨H.length,j++[.lst (looks.map lkE)]++[.lst (stD (y4 st mk (k+1)))],_,_,_,_,rfl,?_,?_,Y5⟩
     ·rw [hH,hj];simp only [K01];omega
     ·rw [hH,hj];simp only [K0b]
  ·rintro _ h' ⟨a,j,b,c,d,e,rfl,ha,hj,ea⟩
   exact z0l (.ref a) .(b) ⟨a,j,rfl,ha,hj,ea⟩
 obtain ⟨d,h',e,a,j,rfl,ha,rfl,ea⟩:=key
 show cln (runF 6 z0d [maD st mk]) h=_
 exact z2m e rfl (z2Z h) ha ea (z25 _)
end
theorem zF8 {ns ss:List Str}(hn:NS ns) (hl:ns.length≤8) (s:ss.Sublist ns):MK (z1b ss) :=
 ⟨by rw [z3i];exact K0r s.length_le hl,λx hx=>hn.2 _ (s.subset (sortS_mem.mp hx)),z7Q (s.nodup hn.1)⟩
theorem z7O {γ:G}{h:AH}{k:Int}{r:AH}{m:Nat}{dn:Int}(p:PS h k r) (hk:k<900000) (hm:m≤40) (e0:γ[0]?=some (.(r 2))) (e3:γ[3]?=some (.(i m))) (e4:γ[4]?=some (.(i dn))) {Q:D->AH->Prop}(z:∀l h',l.Pairwise (·<·)->(∀x∈l,x<m)->PS h' (k+m) r->Q (.tup (stD l)) h') :
 W (clE (Z8 v8 (z9 (x9 [some 0,some 4,none] (z0k (eVar 3)) (gN 2) (λγ=>do let d ← e2 fLt (eFn 2 Z4 (z9 .(k) (z9 (λ_=>pure (.int 6)) aNil))) .(s) γ;asB d) (eVar 2)) aNil)) γ) h Q:=by
 refine zv0 p trivial ?_
 simp only [Z6,W_pure,z9,aNil,e2,Z8,eFn,eVar]
 refine z9Q (r:=r) (l:=[]) (λc xs k'=>∃l:List Nat,xs=stD l/\l.Pairwise (·<·)/\(∀x∈l,x<c)/\l.length≤c/\k'=k+c) ?_
 refine W.of (z5k (n:=m) (by dsimp only [eVar];rw [e3];rfl) .(0)) ?_
 refine ⟨_,by simpa using p,⟨[],rfl,by simp,by simp,by simp,by simp⟩,λ_ _ _ _=>trivial,?_,?_⟩
 ·rintro c d h6 k6 xs hd ⟨l,rfl,l1,l2,l3,rfl⟩ p6
  obtain ⟨rfl,hc⟩:=z5A hd
  simp only [capG,K0q,K4u,e0,e4,K7t,K7u]
  simp only [K04,K9,K0g,K0u,K0k,K0f,K1b,z1u,Z6,z19,W_pure,eVar,gN,if_true]
  refine z0G p6 .(0) .(1) .(1) λt h7 t0 t1 p7=>?_
  simp only [W_pure,z0M,zj1]
  by_cases q:t<dn
  ·rw [.(o) q]
   simp only [if_true]
   refine ⟨_,p7,by rw [J7];omega,l++[c],(z3O _ _),?_,?_,by simp;omega,by omega⟩
   ·rw [K99]
    exact ⟨l1,by simp,λa ha b hb=>by simp at hb;subst hb;exact l2 a ha⟩
   ·intro x hx
    rcases K0o.mp hx with q|q
    ·have:=l2 x q;omega
    ·simp at q;omega
  ·rw [.(p) q]
   simp only [K25,if_false]
   exact ⟨_,p7,l,rfl,l1,λx hx=>by have:=l2 x hx;omega,by omega,by omega⟩
 rintro h6 xs k6 ⟨l,rfl,l1,l2,l3,rfl⟩ p6
 rw [show (Src.con (z0q m)).items.length=m by simp [Src.items,z0q]] at l2 p6
 exact z7j (i:=0) p6 rfl ⟨_,_,p6,z47 l,λh7 p7=>z l h7 l1 l2 p7⟩
theorem z86 {γ:G}{h:AH}{k:Int}{r:AH}{i:Nat}{ns:List Str}(p:PS h k r) (hk:k<900000) (e:r[i]?=.(l (ns.map .str))) (hn:ns.length≤8) (hg:NS ns) (e0:γ[0]?=some (.(r 2))) (e1:γ[1]?=some (.(r (i+3)))) {Q:D->AH->Prop}(z:∀ss h',MK ss->PS h' (k+ns.length) r->Q (.tup (ss.map .str)) h') :
 W (clE (Z8 v8 (z9 (Z8 z13 (z9 (x9 [some 0,none] (x6 .(s)) (gN 1) (λγ=>do let d ← e2 (fEq false) (eFn 2 Z4 (z9 .(k) (z9 (λ_=>pure (.int 2)) aNil))) .(c) γ;asB d) .(s)) aNil)) aNil)) γ) h Q:=by
 refine zv0 p trivial ?_
 simp only [Z6,W_pure,z9,aNil,e2,Z8,eFn,eVar]
 refine z9Q (r:=r) (l:=[]) (λc xs k'=>∃ss:List Str,xs=ss.map .str/\ss.Sublist (ns.take c)/\k'=k+c) ?_
 have sr:x6 .(s) γ h=.ok (.lst (i+3) (ns.map .str)) h:=by
  have g:getL (i+3) h=.ok (ns.map .str) h:=by unfold getL;rw [p.get,e]
  unfold x6 eVar
  rw [e1]
  show (getL (i+3) >>= λxs=>pure (Src.lst (i+3) xs)) h=_
  rw [M.bind_ok g]
  rfl
 refine W.of sr ?_
 refine ⟨_,by simpa using p,⟨[],rfl,by simp,by simp⟩,λh' k' xs' ph=>?_,?_,?_⟩
 ·show h'[i+3]?=_
  rw [ph.get,x8 e]
 ·rintro c d h9 k9 xs' hd ⟨ss,rfl,ls,rfl⟩ p9
  have hd':(ns.map D.str)[c]?=some d:=hd
  rw [K07] at hd'
  obtain ⟨y,ey,rfl⟩:=K16.mp hd'
  obtain ⟨lc,ey'⟩:=K2.mp ey
  have tk:ns.take (c+1)=ns.take c++[y]:=by rw [← ey',K2r lc]
  have l8:ss.length≤8:=K0r ls.length_le (by rw [K13];omega)
  simp only [capG,K0q,K4u,e0,e1,K7t,K7u]
  simp only [K04,K9,K0g,K0u,K0k,K0f,K1b,z1u,Z6,z19,W_pure,eVar,gN,if_true]
  refine z0G p9 .(0) .(1) .(1) λt h10 t0 t1 p10=>?_
  simp only [W_pure,z0M,z8i]
  by_cases q:t=1
  ·rw [.(o) q]
   simp only [K96,Bool.true_bne,if_true]
   exact ⟨_,p10,by simp;omega,ss++[y],by simp,by rw [tk];exact ls.append (K78 _),by omega⟩
  ·rw [.(p) q]
   simp only [Z19,K25,if_false]
   exact ⟨_,p10,ss,rfl,by rw [tk];exact ls.trans (K55 _ _),by omega⟩
 rintro h9 xs' k9 ⟨ss,rfl,ls,rfl⟩ p9
 rw [show (Src.lst (i+3) (ns.map D.str)).items.length=ns.length by simp [Src.items]] at ls p9
 rw [K29] at ls
 have l8:ss.length≤8:=K0r ls.length_le hn
 refine W_of (zx1 (ss:=ss) (h:=h9) (by rw [p9.get,show .(z)+([]:AH).length=.(z)+0 from rfl,at_E];rfl) .(0)) ?_
 have p11:=p9.app [.lst ((z1b ss).map .str)]
 rw [K0b] at p11
 rw [show h9.length=r.length+1+3 by rw [p9.len];simp]
 exact z7j (i:=1) p11 rfl ⟨_,_,p11,by simp only [Y0];exact z1B _,λh12 p12=>z (z1b ss) h12 (zF8 hg hn ls) p12⟩
theorem z9v {h:AH}{k:Int}{r:AH}{i most:Nat}{ns:List Str}(p:PS h k r) (hk:k<700000) (hm0:1≤most) (hm:most≤40) (e:r[i]?=.(l (ns.map .str))) (hn:ns.length≤8) (hg:NS ns) {Q:D->AH->Prop}(z:∀st mk h',MA st mk->st.length≤most->PS h' (k+2000) r->Q .(a) h') :
 W (z0t [.ref 2,.ref (i+3),.int most]) h Q:=by
 refine zz1 p trivial ?_
 refine z2C ?_
 show W (z0u [.(r 2),.(r (i+3)),.(i most),none,none,none,none,none]) h _
 unfold z0u
 refine z10 (λd h1=>∃m:Nat,1≤m/\m≤most/\d=.int m/\PS h1 (k+1) r) ?_ ?_
 ·simp only [K04,K9,K0g,K0u,K1b,z1u,Z6,z19,W_pure,z9,aNil,e2,eFn,eVar,if_true]
  refine z0G p .(0) .(0) .(0) λd h1 d0 d1 p1=>?_
  rw [z2P,W_pure]
  exact ⟨(1+d).toNat,by omega,by omega,by rw [K6e .(0)],p1⟩
 rintro _ h1 ⟨m,m1,m2,rfl,p1⟩
 refine z10 (λd h1=>∃t:Int,d=.int t/\PS h1 (k+2) r) ?_ ?_
 ·simp only [K9,K0g,K0u,K0k,K0f,K1b,z1u,Z6,z19,W_pure,z9,aNil,e2,eFn,eVar,if_true]
  refine z0G p1 .(0) .(1) .(1) λd h1 d0 d1 p1=>?_
  rw [z2P,W_pure]
  exact ⟨_,rfl,p1.up .(0)⟩
 rintro _ h3 ⟨dn,rfl,p3⟩
 refine z10 (λd h1=>d=.ref (.(z)+3)/\PS h1 (k+2) (r++[.lst (stsD [])])) ?_ ?_
 ·simp only [Z6,W_pure,aNil,eLst]
  exact z1R p3 .(1) λh4 p4=>⟨rfl,p4⟩
 rintro _ h4 ⟨rfl,p4⟩
 refine z10 (λd h1=>d=.ref (.(z)+1+3)/\PS h1 (k+2) (r++[.lst (stsD []),.lst (mksD [])])) ?_ ?_
 ·simp only [Z6,W_pure,aNil,eLst]
  exact z1R p4 .(1) λh5 p5=>⟨by simp,by rw [K0b] at p5;exact p5⟩
 rintro _ h5 ⟨rfl,p5⟩
 refine z2w (λγ h=>∃st mk w,γ=[.(r 2),.(r (i+3)),.(i most),.(i m),.(i dn),.(r (.(z)+0+3)),.(r (.(z)+1+3)),w]/\PS h (k+2000) (r++[.lst (stsD st),.lst (mksD mk)])/\.(h)=m/\mk.length=m/\AM st mk m) ?_ ?_
 ·refine Y8 (λc γ h=>∃st mk w,γ=[.(r 2),.(r (i+3)),.(i most),.(i m),.(i dn),.(r (.(z)+0+3)),.(r (.(z)+1+3)),w]/\PS h (k+2+48 * c) (r++[.lst (stsD st),.lst (mksD mk)])/\.(h)=c/\mk.length=c/\AM st mk m) (λ_ _=>False) ?_
  simp only [K04,K9,K0k,K0f,W_pure,z9,aNil,e2,eFn,eVar]
  refine ⟨m,rfl,by omega,⟨[],[],_,rfl,p5.up .(0),rfl,rfl,by simp,by simp,by simp⟩,?_,?_,λ_ _ q=>q.elim⟩
  ·rintro c γ h6 hc ⟨st,mk,w,rfl,p6,l1,l2,am⟩
   refine z7d (i:=0) rfl p6 rfl (by simp [stsD];omega) (λv k'=>∃l:List Nat,v=.tup (stD l)/\l.Pairwise (·<·)/\(∀x∈l,x<m)/\k'=k+2+48 * c+m) ?_ ?_
   ·exact z7O p6 .(0) .(0) rfl rfl rfl λl h' q1 q2 p7=>⟨_,p7,l,rfl,q1,q2,rfl⟩
   rintro _ _ h7 ⟨l,rfl,q1,q2,rfl⟩ p7
   rw [K0f,show stsD st++[D.tup (stD l)]=stsD (st++[l]) by simp [stsD]] at p7
   refine z7d (i:=1) rfl p7 rfl (by simp [mksD];omega) (λv k'=>∃ss:List Str,v=.tup (ss.map .str)/\MK ss/\k'=k+2+48 * c+m+ns.length) ?_ ?_
   ·exact z86 p7 .(0) (x8 e) hn hg rfl rfl λss h' q1 p8=>⟨_,p8,ss,rfl,q1,rfl⟩
   rintro _ _ h8 ⟨ss,rfl,q3,rfl⟩ p8
   rw [K0k,K0f,show mksD mk++[D.tup (ss.map .str)]=mksD (mk++[ss]) by simp [mksD]] at p8
   refine z04 ⟨_,_,_,rfl,p8.up .(0),by simp [l1],by simp [l2],?_,?_,?_⟩
   ·intro l hl
    rcases K0o.mp hl with q|q
    ·exact am.1 l q
    ·simp at q;subst q;exact q1
   ·intro l hl
    rcases K0o.mp hl with q|q
    ·exact am.2.1 l q
    ·simp at q;subst q;exact q2
   ·intro l hl
    rcases K0o.mp hl with q|q
    ·exact am.2.2 l q
    ·simp at q;subst q;exact q3
  ·rintro γ h6 ⟨st,mk,w,rfl,p6,l1,l2,am⟩
   exact ⟨st,mk,w,rfl,p6.up .(0),l1,l2,am⟩
 ·rintro γ h6 ⟨st,mk,w,rfl,p6,l1,l2,am⟩
  refine zI7 (λd h1=>d=maD st mk/\h1=h6) ?_ ?_
  ·simp only [K04,K9,K0g,K0u,K1b,z1u,Z6,z19,W_pure,z9,aNil,Z8,eTup,eVar]
   refine z7j (i:=0) p6 rfl ?_
   refine z7j (i:=1) p6 rfl ?_
   rw [if_pos .(1)]
   exact ⟨rfl,rfl⟩
  rintro _ _ ⟨rfl,rfl⟩
  refine ⟨_,_,p6,?_,λh2 q2=>z st mk h2 ⟨by omega,by omega,by omega,am.1,by rw [l1];exact am.2.1,am.2.2⟩ .(0) q2⟩
  unfold maD stsD mksD
  simp only [Y0,J4,K64,K0h]
  exact ⟨z0c λa=>z47 a,z0c λa=>by simp only [Y0];exact z1B _⟩
structure RowC (raw:List Nat) (tos:List Nat) (A:List Nat):Prop where
 nd:A.Nodup
 lt:∀o∈A,o<raw.length
 a:∀o∈A,rowAt raw o∈tos
 b:∀t∈tos,∃o∈A,rowAt raw o=t
def z0g (raw:List Nat) (t:Nat):List Nat:=(K00 raw.length).filter λo=>decide (rowAt raw o=t)
theorem mates_mem {raw:List Nat}{t o:Nat}:o∈z0g raw t↔o<raw.length/\rowAt raw o=t:=by
 unfold z0g
 rw [K0t,K0y,decide_eq_true_eq]
theorem zk5 (raw:List Nat) (t:Nat):(z0g raw t).Nodup:=K3m _ Z0p
theorem z9N (raw:List Nat) (t:Nat):(z0g raw t).length≤raw.length:=by
 unfold z0g
 exact K0r (K4m _ _) .(e)
theorem RowC.put {raw tos A B:List Nat}{t s:Nat}(c:RowC raw tos A) (nt:t∉tos) (sb:B.Sublist (z0g raw t)) (sm:s∈B):RowC raw (tos++[t]) (A++B) :=
 have bm:∀o∈B,o<raw.length/\rowAt raw o=t:=λo ho=>mates_mem.mp (sb.subset ho)
 ⟨by
  rw [K3o]
  refine ⟨c.nd,sb.nodup (zk5 raw t),λx hx y hy e=>?_⟩
  subst e
  have:=c.a x hx
  rw [(bm x hy).2] at this
  exact nt this,λo ho=>by
  rcases K0o.mp ho with q|q
  ·exact c.lt o q
  ·exact (bm o q).1,λo ho=>by
  rcases K0o.mp ho with q|q
  ·exact K1k _ (c.a o q)
  ·rw [(bm o q).2];simp,λu hu=>by
  rcases K0o.mp hu with q|q
  ·obtain ⟨o,ho,e⟩:=c.b u q
   exact ⟨o,K1k _ ho,e⟩
  ·simp at q
   subst q
   exact ⟨s,K14 _ sm,(bm s sm).2⟩⟩
theorem zH6 {γ:G}{h:AH}{k:Int}{r l:AH}{b:Nat}{M:List Nat}{s:Nat}(p:PS h k (r++l)) (hk:k<900000) (hM:M.length≤40) (e0:γ[0]?=some (.(r 2))) (e10:γ[10]?=some (.(r (b+3)))) (e11:γ[11]?=some (.(i s))) (eb:(r++l)[b]?=.(l (stD M))) {Q:D->AH->Prop}
 (z:∀B h',B.Sublist M->(s∈M->s∈B)->PS h' (k+M.length) (r++(l++[.lst (stD B)]))->Q (.ref (.(z)+l.length+3)) h') :
 W (x9 [some 11,some 0,none] (orE (z0f (eVar 10)) (x6 (eVar 10))) (gN 2) (cOr (λγ=>do let d ← e2 (fEqX false) (eVar 2) .(k) γ;asB d) (λγ=>do let d ← e2 (fEq false) (eFn 2 Z4 (z9 .(s) (z9 (λ_=>pure (.int 3)) aNil))) .(7) γ;asB d)) (eVar 2) γ) h Q:=by
 refine z9Q (r:=r) (l:=l) (λc xs k'=>∃B:List Nat,xs=stD B/\B.Sublist (M.take c)/\(s∈M.take c->s∈B)/\k'=k+c) ?_
 refine W.of (zj4 (Z1 e10) (by rw [p.get];exact eb)) ?_
 refine ⟨_,p,⟨[],rfl,by simp,by simp,by simp⟩,λh' k' xs' ph=>?_,?_,?_⟩
 ·show h'[b+3]?=_
  rw [ph.get,← K0b,x8 eb]
 ·rintro c d h9 k9 xs' hd ⟨B,rfl,sb,sm,rfl⟩ p9
  obtain ⟨y,rfl,ey⟩:=z53 (show (stD M)[c]?=some d from hd)
  obtain ⟨lc,ey'⟩:=K2.mp ey
  have tk:M.take (c+1)=M.take c++[y]:=by rw [← ey',K2r lc]
  have l8:B.length≤40:=K0r sb.length_le (by rw [K13];omega)
  simp only [capG,K0q,K4u,e0,e10,e11,K7t,K7u]
  have eq1:fEqX false (.int (y:Nat)) (.int (s:Nat))=pure (.bl (decide (y=s))):=funext λh=>by rw [z7D (z2B y s)];simp [pureM]
  simp only [K04,K9,K0g,K0u,K0k,K0f,K1b,z1u,Z6,z19,W_pure,z9,aNil,z0M,cOr,e2,eFn,eVar,eq1,gN,if_true]
  by_cases q:y=s
  ·rw [.(o) q,if_pos rfl]
   refine ⟨_,p9.up (show _≤k+((c+1:Nat):Int) by omega),by rw [J7];omega,B++[y],z3O _ _,by rw [tk];exact sb.append (K78 _),λ_=>?_,rfl⟩
   simp [q]
  ·rw [.(p) q,if_neg .(1)]
   refine z0G p9 .(0) .(1) .(1) λt h10 t0 t1 p10=>?_
   simp only [W_pure,z0M,z8i]
   by_cases q2:t=0
   ·rw [.(o) q2]
    simp only [K96,Bool.true_bne,if_true]
    refine ⟨_,p10,by rw [J7];omega,B++[y],z3O _ _,by rw [tk];exact sb.append (K78 _),λz=>?_,by omega⟩
    rw [tk] at z
    rcases K0o.mp z with q3|q3
    ·exact K1k _ (sm q3)
    ·simp at q3;exact absurd q3.symm q
   ·rw [.(p) q2]
    simp only [Z19,K25,if_false]
    refine ⟨_,p10,B,rfl,by rw [tk];exact sb.trans (K55 _ _),λz=>?_,by omega⟩
    rw [tk] at z
    rcases K0o.mp z with q3|q3
    ·exact sm q3
    ·simp at q3;exact absurd q3.symm q
 rintro h9 xs' k9 ⟨B,rfl,sb,sm,rfl⟩ p9
 rw [show (Src.lst (b+3) (stD M)).items.length=M.length by simp [Src.items,stD]] at sb sm p9
 rw [K29] at sb sm
 exact z B h9 sb sm p9
theorem zo4 {l:List Nat}{t:Nat}(h:t<l.length):(stD l)[t]?=.(i (l[t]:Nat)):=by
 unfold stD
 rw [K07,K6 h]
 rfl
theorem zc3 {h:AH}{k:Int}{r:AH}{bst:List .(O)}{bmk:List (List Str)}{most:Nat}(p:PS h k r) (hk:k<700000) (hb:bst.length≤5) (hmost:most≤6) (ba:MA bst bmk) {Q:D->AH->Prop}
 (z:∀st mk raw h' j i,Cop bst bmk st mk raw->raw.length≤bst.length+most->PS h' (k+1000) (r++j)->(r++j)[i]?=.(l (stD raw))->Q (.tup [maD st mk,.ref (i+3)]) h') :
 W (z0H [.ref 2,maD bst bmk,.int most]) h Q:=by
 have b1:=ba.l1
 have hl0:=p.len
 refine zC0 ?_
 refine z2C ?_
 show W (z0K [.(r 2),some (maD bst bmk),.(i most),none,none,none,none,none,none,none,none,none]) h _
 unfold z0K
 refine z10 (λd h1=>d=.ref (.(z)+0+3)/\PS h1 k (r++[.lst (stD (K00 bst.length))])) ?_ ?_
 ·rw [zD1 (n:=bst.length) (by simp only [K04,K9,z9,aNil,z1m,e2,Z8,eVar,z2f,z1C,z2E]) .(0),if_neg .(1)]
  exact z1R p (by simp [z0q];omega) λh1 p1=>⟨rfl,p1⟩
 rintro _ h1 ⟨rfl,p1⟩
 refine z2w (λγ h=>∃K w,γ=[.(r 2),some (maD bst bmk),.(i most),.(r (.(z)+0+3)),w,none,none,none,none,none,none,none]/\PS h (k+8) (r++[.lst (stD K)])/\K.length≤bst.length+most/\∀x,x∈K↔x<bst.length) ?_ ?_
 ·refine Y8 (λc γ h=>∃E w,γ=[.(r 2),some (maD bst bmk),.(i most),.(r (.(z)+0+3)),w,none,none,none,none,none,none,none]/\PS h (k+1+c) (r++[.lst (stD (K00 bst.length++E))])/\(∀x∈E,x<bst.length)/\E.length=c) (λ_ _=>False) ?_
  simp only [K04,K9,K0g,K0u,K0k,K0f,K1b,z1u,Z6,z19,W_pure,z9,aNil,z2P,e2,eFn,eVar,if_true]
  refine z0G p1 .(0) .(0) .(0) λd h2 d0 d1 p2=>?_
  obtain ⟨d,rfl⟩:=K22 d0
  refine ⟨d,rfl,by omega,⟨[],_,rfl,by simpa using p2,by simp,rfl⟩,?_,?_,λ_ _ q=>q.elim⟩
  ·rintro c γ h3 hc ⟨E,w,rfl,p3,e3,l3⟩
   refine z7d (i:=0) rfl p3 rfl (by rw [J7];simp;omega) (λv k'=>∃x:Nat,v=.int x/\x<bst.length/\k'=k+1+c+1) ?_ ?_
   ·simp only [K04,K9,K0g,K0u,K0k,K0f,K1b,z1u,Z6,z19,W_pure,z9,aNil,e2,Z8,eFn,eVar,if_true,z2f,z1C,z2E]
    refine z0G p3 .(0) .(0) .(0) λd h4 d0 d1 p4=>?_
    obtain ⟨d,rfl⟩:=K22 d0
    exact ⟨_,p4,d,rfl,by omega,rfl⟩
   rintro _ _ h4 ⟨x,rfl,hx,rfl⟩ p4
   rw [K0f,z3O,K0b] at p4
   refine z04 ⟨E++[x],_,rfl,p4.up .(0),λy hy=>?_,by simp [l3]⟩
   rcases K0o.mp hy with q|q
   ·exact e3 y q
   ·simp at q;omega
  ·rintro γ h3 ⟨E,w,rfl,p3,e3,l3⟩
   refine ⟨K00 bst.length++E,_,rfl,p3.up .(0),by simp;omega,λx=>?_⟩
   rw [K0o,K0y]
   exact ⟨λq=>q.elim id (e3 x),.inl⟩
 rintro γ h2 ⟨K,w,rfl,p2,lK,mK⟩
 refine z10 (λd h1=>d=.ref (.(z)+1+3)/\PS h1 (k+8) (r++[.lst (stD K),.lst (stD [])])) ?_ ?_
 ·simp only [Z6,W_pure,aNil,eLst]
  exact z1R p2 .(1) λh3 p3=>⟨by simp,by rw [K0b] at p3;exact p3⟩
 rintro _ h3 ⟨rfl,p3⟩
 refine z2w (λγ h=>∃raw w,γ=[.(r 2),some (maD bst bmk),.(i most),.(r (.(z)+0+3)),w,.(r (.(z)+1+3)),none,none,none,none,none,none]/\PS h (k+20) (r++[.lst (stD []),.lst (stD raw)])/\raw.length≤bst.length+most/\∀x,x∈raw↔x<bst.length) ?_ ?_
 ·refine Y8 (λc γ h=>∃K' R w,γ=[.(r 2),some (maD bst bmk),.(i most),.(r (.(z)+0+3)),w,.(r (.(z)+1+3)),none,none,none,none,none,none]/\PS h (k+8+c) (r++[.lst (stD K'),.lst (stD R)])/\(K'++R).Perm K/\R.length=c) (λ_ _=>False) ?_
  simp only [K04,K9,K0k,K0f,Z6,W_pure,z9,aNil,Z8,eVar]
  refine zm1 (i:=0) p3 rfl ?_
  rw [J7]
  refine ⟨K.length,rfl,by omega,⟨K,[],_,rfl,p3.up .(0),by simp,rfl⟩,?_,?_,λ_ _ q=>q.elim⟩
  ·rintro c γ h4 hc ⟨K',R,w,rfl,p4,pm,l4⟩
   have lk:K'.length+R.length=K.length:=by have:=pm.length_eq;simpa using this
   refine z7w ?_
   simp only [K04,K9,K0g,K0u,K0k,K0f,K1b,z6h,z1u,Z6,z19,W_pure,z9,aNil,Z8,eFn,eM1,eVar,if_true,z6n]
   refine z62 (i:=1) p4 rfl ?_
   refine z62 (i:=0) p4 rfl ?_
   refine zm1 (i:=0) p4 rfl ?_
   rw [J7]
   refine z0G p4 .(0) .(0) .(0) λt h5 t0 t1 p5=>?_
   obtain ⟨t,rfl⟩:=K22 t0
   have tl:t<K'.length:=by omega
   have pa:=zp8 (h:=h5) (i:=.(z)+0+3) (xs:=stD K') (by rw [p5.get];exact (at_E (i:=0)).trans rfl) (zo4 tl) (by rw [J7];omega)
   rw [z7i] at pa
   refine W_of pa ?_
   have p6:=p5.set (.(z)+0) (.lst (stD (K'.eraseIdx t)))
   rw [zs3,K0f] at p6
   refine z8h (i:=1) p6 rfl (by rw [J7];omega) λh7 p7=>?_
   rw [K0k,K0f,z3O] at p7
   refine ⟨K'.eraseIdx t,R++[K'[t]],_,rfl,p7.up .(0),?_,by simp [l4]⟩
   refine Z0z ?_ pm
   rw [← K0b]
   refine (List.Perm.append_right _ K8z).trans ?_
   rw [K0b]
   refine (K8w R (zi3 tl)).trans K8z
  ·rintro γ h4 ⟨K',R,w,rfl,p4,pm,l4⟩
   have lk:K'.length+R.length=K.length:=by have:=pm.length_eq;simpa using this
   have k0:K'=[]:=K2z.mp .(0)
   subst k0
   exact ⟨R,_,rfl,p4.up .(0),by omega,λx=>by rw [← mK x];exact pm.mem_iff⟩
 rintro γ h4 ⟨raw,w,rfl,p4,lR,mR⟩
 refine z10 (λd h1=>d=.ref (.(z)+2+3)/\PS h1 (k+20) (r++[.lst (stD []),.lst (stD raw),.lst (stsD [])])) ?_ ?_
 ·simp only [Z6,W_pure,aNil,eLst]
  exact z1R p4 .(1) λh3 p3=>⟨by simp,by rw [K0b] at p3;exact p3⟩
 rintro _ h5 ⟨rfl,p5⟩
 refine z2w (λγ h=>∃S j w7 w8 w9 w10 w11,γ=[.(r 2),some (maD bst bmk),.(i most),.(r (.(z)+0+3)),w,.(r (.(z)+1+3)),.(r (.(z)+2+3)),w7,w8,w9,w10,w11]/\PS h (k+1000) (r++(.lst (stD [])::.lst (stD raw)::.lst (stsD S)::j))/\S.length=raw.length/\∀i,i<raw.length->(nx S i).Pairwise (·<·)/\RowC raw (nx bst (rowAt raw i)) (nx S i)) ?_ ?_
 ·refine z22 (λc γ h=>∃S j w7 w8 w9 w10 w11,γ=[.(r 2),some (maD bst bmk),.(i most),.(r (.(z)+0+3)),w,.(r (.(z)+1+3)),.(r (.(z)+2+3)),w7,w8,w9,w10,w11]/\PS h (k+20+80 * c) (r++(.lst (stD [])::.lst (stD raw)::.lst (stsD S)::j))/\S.length=c/\∀i,i<c->(nx S i).Pairwise (·<·)/\RowC raw (nx bst (rowAt raw i)) (nx S i)) (λ_ _=>False) ?_
  refine W_of (zj4 (xs:=stD raw) .(b) (by rw [p5.get,at_E];rfl)) ?_
  refine ⟨⟨[],[],_,_,_,_,_,rfl,p5.up .(0),rfl,λi hi=>by omega⟩,?_,?_,?_,λ_ _ q=>q.elim⟩
  ·rintro c γ h6 ⟨S,j,w7,w8,w9,w10,w11,rfl,p6,l6,s6⟩
   show h6[.(z)+1+3]?=_
   rw [p6.get,at_E];rfl
  ·rintro c d γ h6 hd ⟨S,j,w7,w8,w9,w10,w11,rfl,p6,l6,s6⟩
   obtain ⟨kd,rfl,ek⟩:=z53 (show (stD raw)[c]?=some d from hd)
   have hc:c<raw.length:=(K2.mp ek).1
   have kl:kd<bst.length:=(mR kd).mp (K0d ek)
   have mem:nx bst kd∈bst:=K0d (z6K kl)
   have rs:=ba.s1 _ mem
   have lts:=ba.s2 _ mem
   have ln:=z2n rs lts
   refine W_eq (v:=[.(r 2),some (maD bst bmk),.(i most),.(r (.(z)+0+3)),w,.(r (.(z)+1+3)),.(r (.(z)+2+3)),.(i kd),w8,w9,w10,w11]) rfl ?_
   refine z10 (λd h1=>d=.ref (.(z)+(j.length+3)+3)/\PS h1 (k+20+80 * c) (r++(.lst (stD [])::.lst (stD raw)::.lst (stsD S)::(j++[.lst (stD [])])))) ?_ ?_
   ·simp only [Z6,W_pure,aNil,eLst]
    exact z1R p6 .(1) λh3 p3=>⟨by simp,by rw [K0b] at p3;exact p3⟩
   rintro _ h7 ⟨rfl,p7⟩
   refine z2w (λγ h=>∃A a j w9 w10 w11,γ=[.(r 2),some (maD bst bmk),.(i most),.(r (.(z)+0+3)),w,.(r (.(z)+1+3)),.(r (.(z)+2+3)),.(i kd),.(r (.(z)+a+3)),w9,w10,w11]/\PS h (k+20+80 * c+75) (r++(.lst (stD [])::.lst (stD raw)::.lst (stsD S)::j))/\(O.lst (stD [])::O.lst (stD raw)::O.lst (stsD S)::j)[a]?=.(l (stD A))/\RowC raw (nx bst kd) A) ?_ ?_
   ·refine z22 (λc' γ h=>∃A a j w9 w10 w11,γ=[.(r 2),some (maD bst bmk),.(i most),.(r (.(z)+0+3)),w,.(r (.(z)+1+3)),.(r (.(z)+2+3)),.(i kd),.(r (.(z)+a+3)),w9,w10,w11]/\PS h (k+20+80 * c+15 * c') (r++(.lst (stD [])::.lst (stD raw)::.lst (stsD S)::j))/\(O.lst (stD [])::O.lst (stD raw)::O.lst (stsD S)::j)[a]?=.(l (stD A))/\RowC raw ((nx bst kd).take c') A) (λ_ _=>False) ?_
    refine W_of (zu7 (xs:=stD (nx bst kd)) (h1:=h7) ?_) ?_
    ·have:e2 fIx (e2 fIx .(s) .(7)) (eVar 7) [.(r 2),some (maD bst bmk),.(i most),.(r (r.length+0+3)),w,.(r (r.length+1+3)),.(r (r.length+2+3)),.(i kd),.(r ((r.length+(j.length+3)+3))),w9,w10,w11]=pure (.tup (stD (nx bst kd))):=by simp only [K04,K9,z1m,e2,eVar,z2f,z7B kl]
     exact congrFun this h7
    refine ⟨⟨[],j.length+3,_,_,_,_,rfl,p7.up .(0),by simp,⟨by simp,by simp,by simp,by simp⟩⟩,λ_ _ _ _=>trivial,?_,?_,λ_ _ q=>q.elim⟩
    ·rintro c' d γ h8 hd ⟨A,a,j,w9,w10,w11,rfl,p8,ea,rc⟩
     obtain ⟨to,rfl,et⟩:=z53 (show (stD (nx bst kd))[c']?=some d from hd)
     obtain ⟨hc',et'⟩:=K2.mp et
     have tk:(nx bst kd).take (c'+1)=(nx bst kd).take c'++[to]:=by rw [← et',K2r hc']
     have tn:to∉(nx bst kd).take c':=by
      have nd:=z3F rs
      have:=nd.sublist (Z0a (c'+1) (nx bst kd))
      rw [tk,K3o] at this
      exact λq=>this.2.2 to q to .(e) rfl
     have tr:to∈raw:=(mR to).mpr (lts to (K0d et))
     have ml:=z9N raw to
     have m0:0<(z0g raw to).length:=K5w (mates_mem.mpr ⟨K1v.mpr tr,z8e tr⟩)
     have al:A.length≤raw.length:=z3R rc.nd rc.lt
     refine W_eq (v:=[.(r 2),some (maD bst bmk),.(i most),.(r (.(z)+0+3)),w,.(r (.(z)+1+3)),.(r (.(z)+2+3)),.(i kd),.(r (.(z)+a+3)),.(i to),w10,w11]) rfl ?_
     refine J8 (.ref (.(z)+(j.length+3)+3)) [.(r 2),some (maD bst bmk),.(i most),.(r (.(z)+0+3)),w,.(r (.(z)+1+3)),.(r (.(z)+2+3)),.(i kd),.(r (.(z)+a+3)),.(i to),.(r ((.(z)+(j.length+3)+3))),w11] (h1:=h8++[.lst (stD (z0g raw to))]) ?_ rfl ?_
     ·have e8:h8[.(z)+1+3]?=.(l (stD raw)):=by rw [p8.get,at_E];rfl
      have l8:h8.length=r.length+(j.length+3)+3:=by rw [p8.len];simp
      refine (z2A (src:=.con (z0q raw.length)) (l:=K00 raw.length) (λo=>decide (rowAt raw o=to)) (λo=>.int o) (z5k (n:=raw.length) (J5 .(b) (by rw [z7J e8,J7])) .(0)) rfl (λ_=>trivial) (by simp;omega) λo ho=>⟨[.(r (r.length+1+3)),.(i to),.(i o)],λh=>rfl,λj=>?_,λ_ j=>rfl⟩).trans ?_
      ·have ho:o<raw.length:=by simpa using ho
       refine cb_h (e2_h (e2_h .(b) .(b) (ix_h (xs:=stD raw) (by rw [K0i (K2.mp e8).1];exact e8) (z58 ho))) .(b) ?_)
       refine (z7D (z2B (rowAt raw o) to)).trans ?_
       rw [K2e]
      ·rw [l8];rfl
     have p9:=p8.app [.lst (stD (z0g raw to))]
     rw [K0b] at p9
     have e9:(r++(O.lst (stD [])::O.lst (stD raw)::O.lst (stsD S)::(j++[O.lst (stD (z0g raw to))])))[.(z)+(j.length+3)]?=.(l ((stD (z0g raw to)))):=by
      rw [at_E];simp
     refine z10 (λd h1=>∃s:Nat,d=.int s/\s∈z0g raw to/\PS h1 (k+20+80 * c+15 * c'+1) (r++(.lst (stD [])::.lst (stD raw)::.lst (stsD S)::(j++[.lst (stD (z0g raw to))])))) ?_ ?_
     ·simp only [K04,K9,K0g,K0u,K1b,z1u,Z6,z19,W_pure,z9,aNil,e2,Z8,eFn,eVar,if_true]
      refine zm5 p9 e9 ?_
      rw [J7]
      refine z0G p9 .(0) .(0) .(0) λt h10 t0 t1 p10=>?_
      obtain ⟨t,rfl⟩:=K22 t0
      refine zG1 p10 e9 (z58 .(0)) ?_
      exact ⟨_,rfl,z8N .(0),p10⟩
     rintro _ h10 ⟨s,rfl,sm,p10⟩
     refine z10 (λd h1=>∃B,d=.ref (.(z)+(j.length+5)+3)/\B.Sublist (z0g raw to)/\s∈B/\PS h1 (k+20+80 * c+15 * (c'+1:Nat)) (r++(.lst (stD [])::.lst (stD raw)::.lst (stsD S)::(j++[.lst (stD (z0g raw to)),.lst (stD B),.lst (stD (A++B))])))) ?_ ?_
     ·unfold FT.e2
      rw [Z6]
      refine W_eq (v:=.ref (.(z)+a+3)) rfl ?_
      rw [Z6]
      refine zH6 p10 .(0) .(0) rfl rfl rfl e9 λB h11 sb sB p11=>?_
      have ea':((O.lst (stD [])::O.lst (stD raw)::O.lst (stsD S)::(j++[O.lst (stD (z0g raw to))]))++[O.lst (stD B)])[a]?=.(l (stD A)):=by
       rw [show ((O.lst (stD [])::O.lst (stD raw)::O.lst (stsD S)::(j++[O.lst (stD (z0g raw to))]))++[O.lst (stD B)])=(O.lst (stD [])::O.lst (stD raw)::O.lst (stsD S)::j)++[O.lst (stD (z0g raw to)),O.lst (stD B)] by simp,K0i (K2.mp ea).1]
       exact ea
      have bl:=sb.length_le
      rw [show (O.lst (stD [])::O.lst (stD raw)::O.lst (stsD S)::(j++[O.lst (stD (z0g raw to))])).length=j.length+4 by simp]
      refine zB1 (i:=a) (j:=r.length+(j.length+4)) (ys:=stD B) p11 ea' (by rw [at_E];simp) (by rw [J7,J7];omega) λh12 p12=>?_
      refine ⟨B,by simp,sb,sB sm,?_⟩
      rw [show stD A++stD B=stD (A++B) by simp [stD]] at p12
      have:=p12.up (k':=k+20+80 * c+15 * (c'+1:Nat)) .(0)
      simpa using this
     rintro _ h12 ⟨B,rfl,sb,sB,p12⟩
     refine z04 ⟨A++B,j.length+5,_,_,_,_,rfl,p12,by simp,?_⟩
     rw [tk]
     exact rc.put tn sb sB
    ·rintro γ h8 ⟨A,a,j,w9,w10,w11,rfl,p8,ea,rc⟩
     rw [show (Src.con (stD (nx bst kd))).items.length=(nx bst kd).length by simp [Src.items,stD]] at rc p8
     rw [K29] at rc
     exact ⟨A,a,j,w9,w10,w11,rfl,p8.up .(0),ea,rc⟩
   rintro γ h8 ⟨A,a,j,w9,w10,w11,rfl,p8,ea,rc⟩
   have al:A.length≤raw.length:=z3R rc.nd rc.lt
   refine z7d (i:=2) rfl p8 rfl (by rw [z2E];omega) (λv k'=>v=.tup (stD (v5 A))/\k'=k+20+80 * c+75) ?_ ?_
   ·refine W_of (z1a (j:=[.lst (stD (v5 A))]) (J5 (J5 .(b) (zA7 (S:=A) .(0) (by rw [p8.get,at_E];exact ea))) (z6x Y5)) (by simp only [Y0];exact z25 _)) ⟨_,p8,rfl,rfl⟩
   rintro _ _ h9 ⟨rfl,rfl⟩ p9
   rw [K0k,K0k,K0f,show stsD S++[D.tup (stD (v5 A))]=stsD (S++[v5 A]) by simp [stsD]] at p9
   refine z04 ⟨S++[v5 A],_,_,_,_,_,_,rfl,p9.up .(0),by simp [l6],λi hi=>?_⟩
   by_cases ic:i<c
   ·rw [show nx (S++[v5 A]) i=nx S i by unfold nx;rw [K0i .(0)]]
    exact s6 i ic
   ·have:i=c:=by omega
    subst this
    rw [show nx (S++[v5 A]) i=v5 A by unfold nx;rw [← l6];simp,z32 ek]
    exact ⟨z1M rc.nd,(z1K A).nodup_iff.mpr rc.nd,λo ho=>rc.lt o (sortN_mem.mp ho),λo ho=>rc.a o (sortN_mem.mp ho),λt ht=>by
     obtain ⟨o,ho,e⟩:=rc.b t ht
     exact ⟨o,sortN_mem.mpr ho,e⟩⟩
  ·rintro γ h6 ⟨S,j,w7,w8,w9,w10,w11,rfl,p6,l6,s6⟩
   rw [show (Src.lst (r.length+1+3) (stD raw)).items.length=raw.length by simp [Src.items,stD]] at l6 s6 p6
   exact ⟨S,j,w7,w8,w9,w10,w11,rfl,p6.up .(0),l6,s6⟩
 rintro γ h6 ⟨S,j,w7,w8,w9,w10,w11,rfl,p6,l6,s6⟩
 have e5:h6[.(z)+1+3]?=.(l (stD raw)):=by rw [p6.get,at_E];rfl
 have e6:h6[.(z)+2+3]?=.(l (stsD S)):=by rw [p6.get,at_E];rfl
 refine z0l (.tup [maD S (raw.map (mkAt bmk)),.ref (.(z)+1+3)]) (h1:=h6) (z2e (z2e (J5 .(b) (z6x e6)) (z6p (xs:=mksD (raw.map (mkAt bmk))) ?_ ?_)) .(b)) ?_
 ·refine (z2A (l:=raw) (λ_=>true) (λx=>.tup ((mkAt bmk x).map .str)) (zj4 .(b) e5) rfl (λj=>?_) .(0) λx hx=>⟨[some (maD bst bmk),.(i x)],λh=>rfl,λj=>rfl,λ_ j=>?_⟩).trans ?_
  ·show (h6++j)[.(z)+1+3]?=_
   rw [K0i (K2.mp e5).1,e5]
  ·have hx:=(mR x).mp hx
   have lm:=ba.l3
   have:e2 fIx (e2 fIx .(k) .(c)) .(s) [some (maD bst bmk),.(i x)]=pure (.tup ((mkAt bmk x).map .str)):=by
    simp only [K04,K9,z1m,e2,eVar,z5t,ix_tup (z9r (show x<bmk.length by omega))]
    rfl
   rw [this];rfl
  ·have:raw.map (λx=>D.tup ((mkAt bmk x).map .str))=mksD (raw.map (mkAt bmk)):=by
    unfold mksD
    rw [K0w]
    rfl
   rw [filter_tt,this]
 ·unfold mksD
  exact z0c λa=>by simp only [Y0];exact z1B _
 ·refine ⟨?_,λi=>by simp,z S (raw.map (mkAt bmk)) raw h6 _ (r.length+1) ⟨l6,mR,λi hi=>(s6 i hi).1,λi hi=>(s6 i hi).2.lt,λi hi t=>?_,rfl⟩ lR p6 (by rw [at_E];rfl)⟩
  ·simp only [Y0,J4,K64,K90,decide_eq_false_iff_not]
   right
   rw [hl0]
   omega
  ·rw [K09]
   constructor
   ·rintro ⟨o,ho,rfl⟩
    exact (s6 i hi).2.a o ho
   ·exact (s6 i hi).2.b t
theorem zK4 {bst st:List .(O)}{bmk mk:List (List Str)}{raw:List Nat}(c:Cop bst bmk st mk raw) (ba:MA bst bmk) (lr:raw.length≤40):MA st mk:=by
 have l:=c.l
 have m0:0∈raw:=(c.kd 0).mpr ba.l1
 have:=K5w m0
 have cm:∀l∈st,∃i,i<raw.length/\l=nx st i:=λl h=>by
  obtain ⟨i,hi,e⟩:=K38 h
  exact ⟨i,by rw [← c.l];exact hi,by unfold nx;rw [K6 hi,e];rfl⟩
 refine ⟨by omega,by omega,by rw [c.ml,K02,l],λq hq=>?_,λq hq x hx=>?_,λq hq=>?_⟩
 ·obtain ⟨i,hi,rfl⟩:=cm _ hq
  exact c.rise i hi
 ·obtain ⟨i,hi,rfl⟩:=cm _ hq
  rw [l]
  exact c.lt i hi x hx
 ·rw [c.ml] at hq
  obtain ⟨x,hx,rfl⟩:=K09.mp hq
  have xl:=(c.kd x).mp hx
  have l3:=ba.l3
  exact ba.m1 _ (K0d (z35 (show x<bmk.length by omega)))
section
variable {st:List (List Nat)}{mk:List (List Str)}
theorem z8c {h:AH}(ma:MA st mk) {x y:Nat}(hx:x<st.length) (hy:y<st.length) (s:Sim st mk x y):z0N [maD st mk,.int (x:Nat),.int (y:Nat)] h=.err ⟨"AreAlike",[]⟩ h:=by
 have al:=z9n (h:=h) ma hx hy
 rw [@decide_eq_true _ (K82 _) s] at al
 refine zw2 ?_
 show z1e [some .(a),.(i (x:Nat)),.(i (y:Nat))] h=_
 unfold z1e
 exact zg3 (zG0 (cv_h (fn_h (ds:=[maD st mk,.int (x:Nat),.int (y:Nat)]) .(I) rfl al)))
theorem z7W {h:AH}(ma:MA st mk) {x y:Nat}(hx:x<st.length) (hy:y<st.length) (s:¬ Sim st mk x y):∃R:List Sy,z0N [maD st mk,.int (x:Nat),.int (y:Nat)] h=.ok (.tup (ryD R)) h/\1≤R.length/\R.length≤160/\(∀(i:Nat) (r:Sy),R[i]?=some r->r.ok i)/\∀z,z<st.length->(tv (trus st mk R) (R.length - 1) z=true↔Sim st mk z x):=by
 have al:=z9n (h:=h) ma hx hy
 rw [@decide_eq_false _ (K82 _) s] at al
 obtain ⟨R,e,q⟩:=zj3 (h:=h) ma hx
 refine ⟨R,z4C ?_,q⟩
 show W (z1e [some .(a),.(i (x:Nat)),.(i (y:Nat))]) h _
 unfold z1e
 refine z0m false (zG0 (cv_h (fn_h (ds:=[maD st mk,.int (x:Nat),.int (y:Nat)]) .(I) rfl al))) ?_
 rw [if_neg .(1)]
 exact z05 (zS4 (z0l _ (fn_h (ds:=[maD st mk,.int (x:Nat)]) (ac_h .(b) (ac_h .(b) rfl)) rfl e) ⟨rfl,rfl⟩))
theorem z8n {h:AH}(ma:MA st mk) {x y:Nat}(hx:x<st.length) (hy:y<st.length) (s:Sim st mk x y):z0v [maD st mk,.int (x:Nat),.int (y:Nat)] h=.ok (.bl true) h:=by
 show cln (runF 4 z07 [maD st mk,.int (x:Nat),.int (y:Nat)]) h=_
 refine z1a (j:=[.exc "AreAlike"]) (z4C ?_) rfl
 show W (z07 [some .(a),.(i (x:Nat)),.(i (y:Nat)),none]) h _
 unfold z07
 refine zw5 (xs:=[maD st mk,.int (x:Nat),.int (y:Nat)]) .(I) rfl (z8c ma hx hy s) (show h_AreAlike "AreAlike" = true by decide +kernel) ?_
 show W (Z0 _ _ [some .(a),.(i (x:Nat)),.(i (y:Nat)),.(r h.length)]) (h++[.exc "AreAlike"]) _
 have g:(h++[O.exc "AreAlike"])[h.length]?=some (.exc "AreAlike"):=by simp
 refine z0m false (z4U (cv_h (z9p (show x_NoPaper "AreAlike" = some false by decide +kernel) rfl g)) (z4U (cv_h (z9p (show x_NoSaying "AreAlike" = some false by decide +kernel) rfl g)) (cv_h (z9p (show x_TooMany "AreAlike" = some false by decide +kernel) rfl g)))) ?_
 rw [if_neg .(1)]
 refine z05 (z0l (.bl true) (zn2 (b:=true) (c:=true) (z9p (show x_TreeError "AreAlike" = some true by decide +kernel) rfl g) (z9p (show x_ValueError "AreAlike" = some true by decide +kernel) rfl g)) ⟨_,rfl,rfl,rfl⟩)
theorem zy0 {k:G->M Bool}{ms mt:G->M Out}{γ:G}{h h1:AH}{Q:Out->AH->Prop}{b:Bool}(e:k γ h=.ok b h1) (z:if b=true then W (ms γ) h1 Q else W (mt γ) h1 Q):W (sIf k ms mt γ) h Q:=by
 rw [w_if]
 exact W_of e z
theorem w_fn {n:Nat}{f:List D->M D}{mr:G->M (List D)}{ds:List D}{γ:G}{h h1:AH}{Q:D->AH->Prop}(e:mr γ h=.ok ds h1) (hn:ds.length=n) (z:W (f ds) h1 Q):W (eFn n f mr γ) h Q:=by
 obtain ⟨d,h',e',q⟩:=z
 exact W_of (fn_h e hn e') q
end
theorem math0 {ns:List Int}(hn:ns.length≤63):W (m_law [.fl (ns.map .int)]) [] (λd _=>d=.bl true):=by
 refine z2C ?_
 show W (zi6 [some (.fl (ns.map .int)),none,none,none,none,none,none,none,none,none]) [] _
 unfold zi6
 refine z10 _ (by simp only [K9,K0g,K0u,K1b,z9,aNil,z1m,eFn,eVar,if_true];exact zh8 hn) ?_
 rintro d h1 ⟨rfl,p1⟩
 refine z10 (λd h1=>∃ns':List Str,d=.ref (0+3)/\ns'.length≤8/\NS ns'/\PS h1 100 [.lst (ns'.map .str)]) ?_ ?_
 ·simp only [K04,K9,K0g,K0u,K0k,K0f,K1b,z1u,Z6,z19,W_pure,z9,aNil,eFn,eVar,if_true]
  refine z0G p1 .(0) .(1) .(1) λm h3 m0 m1 p3=>?_
  obtain ⟨m,rfl⟩:=K22 m0
  refine z8E p3 trivial .(0) .(0) λns' h4 l4 n4 p4=>?_
  exact ⟨ns',rfl,by omega,n4,p4.up .(0)⟩
 rintro _ h3 ⟨ns',rfl,l2,n2,p3⟩
 refine zM9 (λd h1=>∃bst bmk st mk raw i r,d=.tup [maD st mk,.ref (i+3)]/\MA bst bmk/\Cop bst bmk st mk raw/\raw.length≤40/\PS h1 4000 r/\r[i]?=.(l (stD raw))) ?_ ?_
 ·simp only [K04,K9,K0g,K0u,K0k,K0f,K1b,z1u,Z6,z19,W_pure,z9,aNil,eFn,eVar,if_true]
  refine z9v (i:=0) (most:=5) p3 .(0) .(0) .(0) rfl l2 n2 λbst bmk h5 ba bl p5=>?_
  exact zc3 (most:=6) p5 .(0) .(0) .(0) ba λst mk raw h6 j i c lr p6 e6=>⟨bst,bmk,st,mk,raw,i,_,rfl,ba,c,by omega,p6.up .(0),e6⟩
 rintro _ h4 ⟨bst,bmk,st,mk,raw,i,r,rfl,ba,c,lr,p4,e4⟩
 refine ⟨[some (.fl (ns.map .int)),.(r 2),.(r (0+3)),some .(a),.(r (i+3)),none,none,none,none,none],rfl,?_⟩
 have ma:=zK4 c ba lr
 have l1:=ma.l1
 have n40:=ma.l2
 have sq:=z6s ma
 obtain ⟨Hm,hHm⟩:∃Hm,Hm=y4 st mk st.length:=⟨_,rfl⟩
 have Hl:Hm.length=st.length:=by rw [hHm];exact z3l _
 have sim:∀{x y:Nat},x<.(h)->y<.(h)->(rowAt Hm x=rowAt Hm y↔Sim st mk x y):=λhx hy=>by rw [hHm];exact z9Y sq hx hy
 refine J8 (.ref h4.length) [some (.fl (ns.map .int)),.(r 2),.(r (0+3)),some .(a),.(r (i+3)),.(r h4.length),none,none,none,none] (fn_h (ds:=[maD st mk]) (ac_h .(b) rfl) rfl (zx0 ma)) rfl ?_
 rw [← hHm]
 have p5:=p4.app [.lst (stD Hm)]
 obtain ⟨h5,hh5⟩:∃h5,h5=h4++[O.lst (stD Hm)]:=⟨_,rfl⟩
 obtain ⟨r5,hr5⟩:∃r5,r5=r++[O.lst (stD Hm)]:=⟨_,rfl⟩
 have h4l:h4.length=.(z)+3:=p4.len
 rw [← hh5,← hr5] at p5
 rw [← hh5]
 have rE:∀j,(r5++j)[.(z)]?=.(l (stD Hm)):=λj=>by rw [hr5];exact x8 Y5
 have hE:∀{h:AH} {k:Int} {j:AH},PS h k (r5++j)->h[h4.length]?=.(l (stD Hm)):=λ{h k j} p=>by
  rw [h4l,p.get]
  exact rE j
 refine z2w (λγ h=>True) ?_ ?_
 ·refine Y8 (λc γ h=>∃a b d e j,γ=[some (.fl (ns.map .int)),.(r 2),.(r (0+3)),some .(a),.(r (i+3)),.(r h4.length),a,b,d,e]/\PS h (4000+2 * (c:Nat)) (r5++j)) (λ_ _=>False) ?_
  refine W_of (v:=.int ((4:Nat):Int)) rfl ?_
  refine ⟨4,rfl,by omega,⟨_,_,_,_,[],rfl,by rw [K1i];exact p5⟩,?_,λ_ _ _=>trivial,λ_ _ q=>q.elim⟩
  rintro k γ h hk ⟨a,b,d,e,j,rfl,p⟩
  have draw:∀{h:AH} {q:Int} (γ:G),γ[1]?=some (.(r 2))->γ[5]?=some (.(r h4.length))->PS h q (r5++j)->q<900000->W (eFn 2 Z4 (z9 .(s) (z9 (Z8 fLen .(u)) aNil)) γ) h λd h'=>∃x:Nat,d=.int (x:Nat)/\x<.(h)/\PS h' (q+1) (r5++j):=λ{h q} γ g1 g5 p hq=>by
   refine w_fn (ds:=[.ref 2,.int (st.length:Nat)]) (h1:=h) (ac_h (Z1 g1) (ac_h (J5 (Z1 g5) (by rw [z7J (hE p),J7,Hl])) rfl)) rfl ?_
   refine z0G p .(0) .(0) .(0) λx h' x0 x1 p'=>?_
   obtain ⟨x,rfl⟩:=K22 x0
   exact ⟨x,rfl,by omega,p'⟩
  refine z10 _ (draw _ rfl rfl p .(0)) ?_
  rintro _ h6 ⟨x,rfl,hx,p6⟩
  refine z10 _ (draw _ rfl rfl p6 .(0)) ?_
  rintro _ h7 ⟨y,rfl,hy,p7⟩
  refine z2w (λγ h'=>∃y:Nat,y<.(h)/\γ=[some (.fl (ns.map .int)),.(r 2),.(r (0+3)),some .(a),.(r (i+3)),.(r h4.length),.(i (k:Nat)),.(i (x:Nat)),.(i (y:Nat)),e]/\h7=h') ?_ ?_
  ·refine zy0 (b:=decide ((k:Int)=0)) (cb_h (e2_h .(b) (y:=.int 0) rfl (by rw [z8i,K2e];rfl))) ?_
   by_cases k0:(k:Int)=0
   ·rw [.(o) k0,if_pos rfl]
    exact J8 (.int (x:Nat)) [some (.fl (ns.map .int)),.(r 2),.(r (0+3)),some .(a),.(r (i+3)),.(r h4.length),.(i (k:Nat)),.(i (x:Nat)),.(i (x:Nat)),e] .(b) rfl (z04 ⟨x,hx,rfl,rfl⟩)
   ·rw [.(p) k0,if_neg .(1)]
    exact z04 ⟨y,hy,rfl,rfl⟩
  rintro _ _ ⟨y,hy,rfl,rfl⟩
  have E7:=hE p7
  have test:(λγ=>(do let d ← e2 (fEqX false) (e2 fIx (eVar 5) (eVar 7)) (e2 fIx (eVar 5) (eVar 8)) γ;asB d:M Bool)) [some (.fl (ns.map .int)),.(r 2),.(r (0+3)),some .(a),.(r (i+3)),.(r h4.length),.(i (k:Nat)),.(i (x:Nat)),.(i (y:Nat)),e] h7=.ok (decide ((rowAt Hm x:Int)=rowAt Hm y)) h7:=by
   refine cb_h (e2_h (e2_h .(b) .(b) (ix_h E7 (z58 (by rw [Hl];exact hx)))) (e2_h .(b) .(b) (ix_h E7 (z58 (by rw [Hl];exact hy)))) ?_)
   rw [zE2,K2e]
   rfl
  refine z0m _ test ?_
  by_cases q:rowAt Hm x=rowAt Hm y
  ·rw [.(o) (by omega:(rowAt Hm x:Int)=rowAt Hm y),if_pos rfl]
   have s:=(sim hx hy).mp q
   refine z0I (z0m false (cn_h (b:=true) (cv_h (fn_h (ds:=[maD st mk,.int (x:Nat),.int (y:Nat)]) .(I) rfl (z8n ma hx hy s)))) ?_)
   rw [if_neg .(1)]
   exact z05 (z05 (z04 ⟨_,_,_,_,j,rfl,p7.up .(0)⟩))
  ·rw [.(p) (by omega:¬ (rowAt Hm x:Int)=rowAt Hm y),if_neg .(1)]
   have s:¬ Sim st mk x y:=λz=>q ((sim hx hy).mpr z)
   have s':¬ Sim st mk y x:=λz=>q ((sim hy hx).mpr z).symm
   have s0:Sim st mk x x:=(sim hx hx).mp rfl
   obtain ⟨R,er,r1,r2,r3,r4⟩:=z7W (h:=h7) ma hx hy s
   obtain ⟨bs,et,eb⟩:=zi1 (h:=h7) ma r1 r2 r3
   have bx:=eb x hx
   have by_:=eb y hy
   rw [(r4 x hx).mpr s0] at bx
   rw [K9u.mpr (λz=>s' ((r4 y hy).mp z))] at by_
   refine z0I (J8 (.ref h7.length) .(E) (fn_h (ds:=[maD st mk,.tup (ryD R)]) (ac_h .(b) (ac_h (fn_h (ds:=[maD st mk,.int (x:Nat),.int (y:Nat)]) .(I) rfl (zQ7 er)) rfl)) rfl et) rfl ?_)
   have at8:(h7++[O.lst (bs.map .bl)])[h7.length]?=.(l (bs.map .bl)):=Y5
   have c2:e2 fIx (eVar 9) (eVar 7) .(E) (h7++[.lst (bs.map .bl)])=.ok (.bl true) (h7++[.lst (bs.map .bl)]):=e2_h .(b) .(b) (ix_h at8 (z0S (by rw [K07,bx];rfl)))
   have c3:e2 fIx (eVar 9) (eVar 8) .(E) (h7++[.lst (bs.map .bl)])=.ok (.bl false) (h7++[.lst (bs.map .bl)]):=e2_h .(b) .(b) (ix_h at8 (z0S (by rw [K07,by_];rfl)))
   have c1:(λγ=>(do let d ← e2 (fIs false) (eVar 9) (λ_=>pure .non) γ;asB d:M Bool)) .(E) (h7++[.lst (bs.map .bl)])=.ok false (h7++[.lst (bs.map .bl)]):=cb_h (e2_h .(b) (y:=.non) rfl rfl)
   have c4:cOr (λγ=>(do let d ← e2 (fIs false) (eVar 9) (λ_=>pure .non) γ;asB d:M Bool)) (cOr (cNot (cVal (e2 fIx (eVar 9) (eVar 7)))) (cVal (e2 fIx (eVar 9) (eVar 8)))) .(E) (h7++[.lst (bs.map .bl)])=.ok false (h7++[.lst (bs.map .bl)]):=z4U c1 (z4U (cn_h (b:=true) (cv_h c2)) (cv_h c3))
   refine z0I (z0m false c4 ?_)
   rw [if_neg .(1)]
   have p8:=p7.app [.lst (bs.map .bl)]
   rw [K0b] at p8
   refine z05 (z05 (z05 (z04 ⟨_,_,_,_,_,rfl,p8.up .(0)⟩)))
 ·rintro γ h _
  exact z0l (.bl true) rfl rfl
theorem math:∀ns:List Int,ns.length≤63->∃h',m_law [.fl (ns.map .int)] []=.ok (.bl true) h':=λns hn=>by
 obtain ⟨d,h',e,ed⟩:=math0 hn
 exact ⟨h',by rw [e,ed]⟩
theorem okL_law {P:K0m}{w:World}{K:K0}{mg:Str->Option Value}{base:Heap}{f:Addr}{fd:K2q}(F:Fun K "law" "law" (top 34) f fd) (F00:mg "len" = none) (F02:mg "range" = none) (F0K:Fn P w K mg base 2 "_law_copies" 3 z0H) (F03:Fn P w K mg base 1 "_law_draw" 2 Z4) (F0L:Fn P w K mg base 1 "_law_homes" 1 z0Y) (F0M:Fn P w K mg base 2 "_law_machine" 3 z0t) (F0N:Fn P w K mg base 3 "_law_names" 2 z0X) (F0O:Fn P w K mg base 2 "_law_plain_truths" 2 Y4) (F0P:Fn P w K mg base 1 "_law_pool" 1 z1h) (F0Q:Fn P w K mg base 8 "_law_refused" 3 z0v) (F0j:FnX P w K mg base 7 "parting" 3 z0N):FnOk P w K mg base CX0 9 f fd ["_law_script"] (spB K m_law 1) :=
 zS8 F sc_law rfl λcdv A outer s H E hr=>(show SB (cxOf CX0 P w K mg base ["_law_script","_law_pool_here","_law_names_here","_law_machine_here","_law_raw","_law_homes_here","_law_k","_law_one","_law_other","_law_truths"] "law" (j6 (top 34)) f cdv A outer s H E).nox EX0 (z0b (top 34)) zi6 from
  have nd:(["_law_script","_law_pool_here","_law_names_here","_law_machine_here","_law_raw","_law_homes_here","_law_k","_law_one","_law_other","_law_truths"]:List Str).Nodup:=sc_law.nd
  (z8 (y9 1 nd (Z7 F0P .(F) rfl (z6 (z0 0) Z2))) (z8 (y9 2 nd (Z7 F0N .(F) rfl (z6 (z0 1) (z6 (Z7 F03 .(F) rfl (z6 (z0 1) (z6 Z3 Z2))) Z2)))) (z8 (z3Z (Z7 F0K .(F) rfl (z6 (z0 1) (z6 (Z7 F0M .(F) rfl (z6 (z0 1) (z6 (z0 2) (z6 Z3 Z2)))) (z6 Z3 Z2)))) (z63 rfl (z0w (y6 3 nd) (z0w (y6 4 nd) z3u)))) (z8 (y9 5 nd (Z7 F0L .(F) rfl (z6 (z0 3) Z2))) (z8 (z1v K18 rfl (z01 rfl F02 Z3) (y6 6 nd) (z8 (y9 7 nd (Z7 F03 .(F) rfl (z6 (z0 1) (z6 (Y1 rfl F00 (z6 (z0 5) Z2)) Z2)))) (z8 (y9 8 nd (Z7 F03 .(F) rfl (z6 (z0 1) (z6 (Y1 rfl F00 (z6 (z0 5) Z2)) Z2)))) (z8 (s_if (sc_c z1Q (z0 6) Z3) (z8 (y9 8 nd (z0 7)) Z5) Z5) (z8 (s_if (sc_c (z44 (hu30 hr)) (Z9 (z0 5) (z0 7)) (Z9 (z0 5) (z0 8))) (z8 (s_if (z3C (z0E (Z7 F0Q .(F) rfl (z6 (z0 3) (z6 (z0 7) (z6 (z0 8) Z2)))))) (z8 (Y7 z5T) Z5) Z5) Z5) (z8 (y9 9 nd (Z7 F0O .(F) rfl (z6 (z0 3) (z6 (zh7 F0j .(F) rfl (z6 (z0 3) (z6 (z0 7) (z6 (z0 8) Z2)))) Z2)))) (z8 (s_if (SW.sc (z3W (sc_c zP8 (z0 9) z3s) (z3W (z3C (z0E (Z9 (z0 9) (z0 7)))) (z41 (z0E (Z9 (z0 9) (z0 8))))))) (z8 (Y7 z5T) Z5) Z5) Z5))) Z5))))) (z8 (Y7 z5T) Z5)))))))
def zA2:List Bool->List PySem.Stmt->List PySem.Stmt
 | true::r,x::xs=>x::zA2 r xs
 | false::r,_::xs=>zA2 r xs
 | _,_=>[]
def qv:PySem.Program:={ PySem.Challenge.pw_fairtrees_k69_partings with main:={ PySem.Challenge.pw_fairtrees_k69_partings.main with body:=zA2 [false,true,false,true,true,true,false,true,false,true,true,true,true,true,true,true,true,false,true,true,true,false,true,true,true,true,true,true,true,true,true,true,true,true,true] PySem.Challenge.pw_fairtrees_k69_partings.main.body } }
def looseQ:List PySem.Str:=[PySem.Str.ofString "NoSaying"]
end FT
open PySem PySem.W PyProof.Rows
local macro_rules | `(tactic| o_head $H)=>`(tactic| (refine holds_open (q:=FT.qv) (loose:=FT.looseQ) (Xt:=fun s=>xlAt FT.qv [] s && recOk (RowW.records (OpenRow.toRowW (OpenLaw.row PySem.Challenge.rw_fairtrees_k69_partings))) s) (XP:=XL FT.qv []) (Yf:=Hook.obs $H) (Ya:=Hook.val $H) (YP:=Hook.says $H) (N:=30000) ?_ (Hook.of $H) (Hook.keeps $H) (fun s e=>xl_of s (Bool.and_eq_true_iff.mp e).1) XL.keeps (by rfl) (by rfl) (by rfl) (fun s e=>recFacts_of (Bool.and_eq_true_iff.mp e).2) (by rfl) (by first | assumption | decide +kernel) (by decide +kernel) ⟨rfl,rfl,rfl,rfl,rfl,by decide +kernel⟩ ?_ ?_))
set_option maxRecDepth 100000 in
set_option maxHeartbeats 0 in
theorem PySem.Challenge.cw_fairtrees_k69_partings_holds : PySem.Challenge.rw_fairtrees_k69_partings.Holds := by
 w_on;o_law;k_head
 next=>exact λw=>by kernel_rfl
 next=>w_witness2
 k_fill
 refine FT.law_walk (l:=K5) (lev:=9) (p:="_law_script") (m:=FT.m_law) rfl rfl ⟨rfl,by decide,by decide,rfl⟩ (λw h Y=>PySem.W.kIn_of Y) ?F FT.math
 case F =>
  intro w mg fa h KX G hmg
  have F0R:FT.DefAt .(B) "bears" (FT.top 7):=by
   dsimp only [L2.KOf];refine' FT.defAt_mk ?a ?l ?c ?k;(case a=>k_is);(case l=>k_is);(case c=>k_is);(case k=>k_is)
  have F0S:FT.DefAt .(B) "first_blocks" (FT.top 10):=by
   dsimp only [L2.KOf];refine' FT.defAt_mk ?a ?l ?c ?k;(case a=>k_is);(case l=>k_is);(case c=>k_is);(case k=>k_is)
  have F0T:FT.DefAt .(B) "belongs" (FT.top 13):=by
   dsimp only [L2.KOf];refine' FT.defAt_mk ?a ?l ?c ?k;(case a=>k_is);(case l=>k_is);(case c=>k_is);(case k=>k_is)
  have F0U:FT.DefAt .(B) "parted" (FT.top 12):=by
   dsimp only [L2.KOf];refine' FT.defAt_mk ?a ?l ?c ?k;(case a=>k_is);(case l=>k_is);(case c=>k_is);(case k=>k_is)
  have F0V:FT.DefAt .(B) "next_cut" (FT.top 11):=by
   dsimp only [L2.KOf];refine' FT.defAt_mk ?a ?l ?c ?k;(case a=>k_is);(case l=>k_is);(case c=>k_is);(case k=>k_is)
  have F0W:FT.DefAt .(B) "cut_up" (FT.top 14):=by
   dsimp only [L2.KOf];refine' FT.defAt_mk ?a ?l ?c ?k;(case a=>k_is);(case l=>k_is);(case c=>k_is);(case k=>k_is)
  have F0X:FT.DefAt .(B) "row_of" (FT.top 15):=by
   dsimp only [L2.KOf];refine' FT.defAt_mk ?a ?l ?c ?k;(case a=>k_is);(case l=>k_is);(case c=>k_is);(case k=>k_is)
  have F0Y:FT.DefAt .(B) "classes" (FT.top 9):=by
   dsimp only [L2.KOf];refine' FT.defAt_mk ?a ?l ?c ?k;(case a=>k_is);(case l=>k_is);(case c=>k_is);(case k=>k_is)
  have F0Z:FT.DefAt .(B) "alike" (FT.top 16):=by
   dsimp only [L2.KOf];refine' FT.defAt_mk ?a ?l ?c ?k;(case a=>k_is);(case l=>k_is);(case c=>k_is);(case k=>k_is)
  have F10:FT.DefAt .(B) "write_cut" (FT.top 19):=by
   dsimp only [L2.KOf];refine' FT.defAt_mk ?a ?l ?c ?k;(case a=>k_is);(case l=>k_is);(case c=>k_is);(case k=>k_is)
  have F11:FT.DefAt .(B) "saying_of" (FT.top 18):=by
   dsimp only [L2.KOf];refine' FT.defAt_mk ?a ?l ?c ?k;(case a=>k_is);(case l=>k_is);(case c=>k_is);(case k=>k_is)
  have F12:FT.DefAt .(B) "parting" (FT.top 20):=by
   dsimp only [L2.KOf];refine' FT.defAt_mk ?a ?l ?c ?k;(case a=>k_is);(case l=>k_is);(case c=>k_is);(case k=>k_is)
  have F13:FT.DefAt .(B) "_law_pool" (FT.top 22):=by
   dsimp only [L2.KOf];refine' FT.defAt_mk ?a ?l ?c ?k;(case a=>k_is);(case l=>k_is);(case c=>k_is);(case k=>k_is)
  have F14:FT.DefAt .(B) "_law_draw" (FT.top 23):=by
   dsimp only [L2.KOf];refine' FT.defAt_mk ?a ?l ?c ?k;(case a=>k_is);(case l=>k_is);(case c=>k_is);(case k=>k_is)
  have F15:FT.DefAt .(B) "_law_name" (FT.top 24):=by
   dsimp only [L2.KOf];refine' FT.defAt_mk ?a ?l ?c ?k;(case a=>k_is);(case l=>k_is);(case c=>k_is);(case k=>k_is)
  have F16:FT.DefAt .(B) "_law_names" (FT.top 25):=by
   dsimp only [L2.KOf];refine' FT.defAt_mk ?a ?l ?c ?k;(case a=>k_is);(case l=>k_is);(case c=>k_is);(case k=>k_is)
  have F17:FT.DefAt .(B) "_law_machine" (FT.top 26):=by
   dsimp only [L2.KOf];refine' FT.defAt_mk ?a ?l ?c ?k;(case a=>k_is);(case l=>k_is);(case c=>k_is);(case k=>k_is)
  have F18:FT.DefAt .(B) "_law_number" (FT.top 27):=by
   dsimp only [L2.KOf];refine' FT.defAt_mk ?a ?l ?c ?k;(case a=>k_is);(case l=>k_is);(case c=>k_is);(case k=>k_is)
  have F19:FT.DefAt .(B) "_law_tuple" (FT.top 28):=by
   dsimp only [L2.KOf];refine' FT.defAt_mk ?a ?l ?c ?k;(case a=>k_is);(case l=>k_is);(case c=>k_is);(case k=>k_is)
  have F1a:FT.DefAt .(B) "_law_good_name" (FT.top 29):=by
   dsimp only [L2.KOf];refine' FT.defAt_mk ?a ?l ?c ?k;(case a=>k_is);(case l=>k_is);(case c=>k_is);(case k=>k_is)
  have F1b:FT.DefAt .(B) "_law_homes" (FT.top 30):=by
   dsimp only [L2.KOf];refine' FT.defAt_mk ?a ?l ?c ?k;(case a=>k_is);(case l=>k_is);(case c=>k_is);(case k=>k_is)
  have F1c:FT.DefAt .(B) "_law_copies" (FT.top 31):=by
   dsimp only [L2.KOf];refine' FT.defAt_mk ?a ?l ?c ?k;(case a=>k_is);(case l=>k_is);(case c=>k_is);(case k=>k_is)
  have F1d:FT.DefAt .(B) "_law_plain_truths" (FT.top 32):=by
   dsimp only [L2.KOf];refine' FT.defAt_mk ?a ?l ?c ?k;(case a=>k_is);(case l=>k_is);(case c=>k_is);(case k=>k_is)
  have F1e:FT.DefAt .(B) "_law_refused" (FT.top 33):=by
   dsimp only [L2.KOf];refine' FT.defAt_mk ?a ?l ?c ?k;(case a=>k_is);(case l=>k_is);(case c=>k_is);(case k=>k_is)
  have F1f:FT.DefAt .(B) "law" (FT.top 34):=by
   dsimp only [L2.KOf];refine' FT.defAt_mk ?a ?l ?c ?k;(case a=>k_is);(case l=>k_is);(case c=>k_is);(case k=>k_is)
  have F00:mg "len" = none:=K1c KX G (by k_is)
  have F02:mg "range" = none:=K1c KX G (by k_is)
  have F01:mg "tuple" = none:=K1c KX G (by k_is)
  have F0m:mg "any" = none:=K1c KX G (by k_is)
  have F04:mg "isinstance" = none:=K1c KX G (by k_is)
  have F07:mg "str" = none:=K1c KX G (by k_is)
  have F0o:mg "enumerate" = none:=K1c KX G (by k_is)
  have F05:mg "sorted" = none:=K1c KX G (by k_is)
  have F0u:mg "bool" = none:=K1c KX G (by k_is)
  have F0v:mg "int" = none:=K1c KX G (by k_is)
  have F0w:mg "set" = none:=K1c KX G (by k_is)
  have F0i:mg "list" = none:=K1c KX G (by k_is)
  have F0z:mg "ValueError" = none:=K1c KX G (by k_is)
  obtain ⟨F09,F0a,F0b,F06,F0c,F0C,F0A,F0B,F08,F0D,e_NoPaper,e_NoSaying,e_TooMany,e_TreeError,e_ValueError⟩:∃F09 F0a F0b F06 F0c,L2.K3 .(B) mg "TreeError" F09 L2.bmV/\L2.K3 .(B) mg "NoPaper" F0a (.ref F09::L2.bmV)/\L2.K3 .(B) mg "TooMany" F0b (.ref F09::L2.bmV)/\L2.K3 .(B) mg "AreAlike" F06 (.ref F09::L2.bmV)/\mg "NoSaying" = .(r F0c)/\K1o .(B) (.ref F06) (.ref F0a)=some false/\K1o .(B) (.ref F06) (.ref F0c)=some false/\K1o .(B) (.ref F06) (.ref F0b)=some false/\K1o .(B) (.ref F06) (.ref F09)=some true/\K1o .(B) (.ref F06) (.type "ValueError")=some true:=by
   dsimp only [L2.KOf]
   refine' ⟨_,_,_,_,_,L2.k3_of ?a0 (K0p KX G ?b0) ?l0 ?m0 ?h0 ?n0 ?o0 ?p0 ?s0 ?t0 ?r0,L2.k3_of ?a1 (K0p KX G ?b1) ?l1 ?m1 ?h1 ?n1 ?o1 ?p1 ?s1 ?t1 ?r1,L2.k3_of ?a2 (K0p KX G ?b2) ?l2 ?m2 ?h2 ?n2 ?o2 ?p2 ?s2 ?t2 ?r2,L2.k3_of ?a3 (K0p KX G ?b3) ?l3 ?m3 ?h3 ?n3 ?o3 ?p3 ?s3 ?t3 ?r3,K0p KX G (by k_is),?k0,?k1,?k2,?k3,?k4⟩;(case a0=>k_is);(case b0=>k_is);(case l0=>k_is);(case m0=>k_is);(case h0=>rfl);(case n0=>k_is);(case o0=>k_is);(case p0=>k_is);(case s0=>k_is);(case r0=>decide +kernel);(case t0=>exact λ_ _=>⟨.base,.base⟩);(case a1=>k_is);(case b1=>k_is);(case l1=>k_is);(case m1=>k_is);(case h1=>rfl);(case n1=>k_is);(case o1=>k_is);(case p1=>k_is);(case s1=>k_is);(case r1=>decide +kernel);(case t1=>exact λh X=>L2.K3.up .(L) h X);(case a2=>k_is);(case b2=>k_is);(case l2=>k_is);(case m2=>k_is);(case h2=>rfl);(case n2=>k_is);(case o2=>k_is);(case p2=>k_is);(case s2=>k_is);(case r2=>decide +kernel);(case t2=>exact λh X=>L2.K3.up .(L) h X);(case a3=>k_is);(case b3=>k_is);(case l3=>k_is);(case m3=>k_is);(case h3=>rfl);(case n3=>k_is);(case o3=>k_is);(case p3=>k_is);(case s3=>k_is);(case r3=>decide +kernel);(case t3=>exact λh X=>L2.K3.up .(L) h X);(case k0=>kit_is);(case k1=>kit_is);(case k2=>kit_is);(case k3=>kit_is);(case k4=>kit_is)
  have F0E:FT.Catch .(B) F06 FT.h_AreAlike:=FT.catch_of F08 .(e)
  have F0F:FT.IsX .(B) (.ref F0a) FT.x_NoPaper:=FT.isX_of F08 e_NoPaper
  have F0G:FT.IsX .(B) (.ref F0c) FT.x_NoSaying:=FT.isX_of F08 e_NoSaying
  have F0H:FT.IsX .(B) (.ref F0b) FT.x_TooMany:=FT.isX_of F08 e_TooMany
  have F0I:FT.IsX .(B) (.ref F09) FT.x_TreeError:=FT.isX_of F08 e_TreeError
  have F0J:FT.IsX .(B) (.type "ValueError") FT.x_ValueError:=FT.isX_of F08 e_ValueError
  obtain ⟨f,fd,hf,F⟩:=F1f
  have e:=hmg.symm.trans (K0p KX G hf)
  cases e
  refine ⟨fd,FT.bindsTo1 F (λ_ _ _ _ _ _ _=>rfl),λbase _ _=>?_⟩
  have F0n:=FT.ok_bears (P:=K5.prog) (w:=w) (base:=base) F0R .(n)
  have F0g:=FT.ok_first_blocks (P:=K5.prog) (w:=w) (base:=base) F0S .(n) F00 F02 F01
  have F0d:=FT.ok_belongs (P:=K5.prog) (w:=w) (base:=base) F0T .(n) F0m F04 F07 F0n
  have F0e:=FT.ok_parted (P:=K5.prog) (w:=w) (base:=base) F0U .(n) F00 F01 F0d
  have F0k:=FT.ok_next_cut (P:=K5.prog) (w:=w) (base:=base) F0V .(n) F00 F0e
  have F0f:=FT.ok_cut_up (P:=K5.prog) (w:=w) (base:=base) F0W .(n) F0e
  have F0p:=FT.ok_row_of (P:=K5.prog) (w:=w) (base:=base) F0X .(n) F0o F05 F01
  have F0h:=FT.ok_classes (P:=K5.prog) (w:=w) (base:=base) F0Y .(n) F01 F0f F0g F0k F0p
  have F0r:=FT.ok_alike (P:=K5.prog) (w:=w) (base:=base) F0Z .(n) F0h
  have F0q:=FT.ok_write_cut (P:=K5.prog) (w:=w) (base:=base) F10 .(n) F04 F00 F07
  have F0s:=FT.ok_saying_of (P:=K5.prog) (w:=w) (base:=base) F11 .(n) F01 F0d F0h F0f F0g F0q
  have F0j:=FT.ok_parting (P:=K5.prog) (w:=w) (base:=base) F12 .(n) F08 F0r F0s
  have F0P:=FT.ok__law_pool (P:=K5.prog) (w:=w) (base:=base) F13 .(n)
  have F03:=FT.ok__law_draw (P:=K5.prog) (w:=w) (base:=base) F14 .(n) F00
  have F0t:=FT.ok__law_name (P:=K5.prog) (w:=w) (base:=base) F15 .(n) F02 F03
  have F0N:=FT.ok__law_names (P:=K5.prog) (w:=w) (base:=base) F16 .(n) F02 F03 F0t
  have F0M:=FT.ok__law_machine (P:=K5.prog) (w:=w) (base:=base) F17 .(n) F02 F05 F01 F03
  have F0y:=FT.ok__law_number (P:=K5.prog) (w:=w) (base:=base) F18 .(n) F0u F0v F04
  have F0l:=FT.ok__law_tuple (P:=K5.prog) (w:=w) (base:=base) F19 .(n) F04 F00 F01
  have F0x:=FT.ok__law_good_name (P:=K5.prog) (w:=w) (base:=base) F1a .(n) F04 F00 F07
  have F0L:=FT.ok__law_homes (P:=K5.prog) (w:=w) (base:=base) F1b .(n) F00 F02 F0w F05 F01
  have F0K:=FT.ok__law_copies (P:=K5.prog) (w:=w) (base:=base) F1c .(n) F00 F0i F02 F05 F01 F03
  have F0O:=FT.ok__law_plain_truths (P:=K5.prog) (w:=w) (base:=base) F1d .(n) F04 F00 F0i F02 F07 F0x F0y F0l
  have F0Q:=FT.ok__law_refused (P:=K5.prog) (w:=w) (base:=base) F1e .(n) F0z F04 F08 F0A F0B F0C F0D F0E F0F F0G F0H F0I F0J F0j
  exact FT.okL_law F F00 F02 F0K F03 F0L F0M F0N F0O F0P F0Q F0j