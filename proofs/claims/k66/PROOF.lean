import PyProof.Rows.All
import Wide.All
import OpenK.AllK
import Wide.FinOn
import Lean
import PyProof.EqAt
import PyProof.EqKinds
import PyProof.TupleCall
import PyProof.DictCompW
import PyProof.NeKinds
import PyProof.ListRange
import PyProof.TupleOfSeq
import PyProof.SeqI3
import PyProof.DictWalks
import PyProof.SetNew
import PyProof.ReprReads
import PyProof.StrHeap
import PyProof.ReprLen
import PyProof.WalkInts
import KE.KDictSum
import PyProof.Draws
import PySem.Challenge.RW_fairtrees_k66_whole_classes_are_the_coar
set_option Elab.async false
set_option linter.all false
set_option maxRecDepth 100000
set_option maxHeartbeats 4000000
namespace L2
end L2
open PySem.Challenge renaming rw_fairtrees_k66_whole_classes_are_the_coar→K0
open PySem.W renaming Frag→K1,mg_of→K0f,mg_none_of→K16,kia_one→K1d,fnOf→K3f,codeIn→K3t,kitOne→K5g,keepIn→K5h,methodObj→K71,kitx_list→K72,kitx_dict→K73,nsIn→K7v,cellsFrom_some→K80,instObj→K87,lookIn→K8m,ks_spliced→K96,kitx_tuple→K97,plainGet→K9y,kdl_dict→K9z,OpenLaw→Z0e,findIn→Z0n,WalkO→Z0q
open PySem renaming wpAny_bind→K2,wpAny_pure→K9,starEach→K0b,Program→K0n,foldedSetIterable→K11,wpAny_loadPart'→K18,compareOp→K1h,wpAny_newObj_type→K1i,swapsWith→K1v,mem_of_lookup→K1w,wpAny_truthy_bool→K1y,wpAny_holding→K21,codeAny_builtin→K24,wpAny_call_entry→K28,assignEach→K2c,mainGlobals→K2h,FuncData→K2i,wpAny_setField→K2q,wpAny_pyIter_list→K2v,wpAny_ite_false→K2x,wpAny_askSetting→K34,sysModules→K36,binaryOp→K37,wpAny_passesOwn→K3e,wpAny_setState_of→K3k,holding→K3l,wpAny_mono→K3p,SetTable→K3w,wpAny_callSpecial?_slot→K3x,call_meets→K41,codeAny_mono→K42,Keyword→K44,wpAny_pyIter_tuple→K45,letOwnedTupleGo→K48,wpAny_standAt→K4b,behindInMarks→K4c,attributeBase→K4d,standAt→K4f,bootBuiltins→K4q,plainId_quiet→K4u,seqIndex?→K57,keywordEach→K58,NameKind→K5i,codeAny→K5j,wpAny_runValue→K5n,isSubtype_type→K5o,wpAny_pyIter_enum→K5q,fits_of_scanBound→K5r,relayAll→K60,wpAny_setEntries_of→K67,wpAny_rule→K6i,wpAny_seqItems→K6j,firstArgMember→K6k,wpAny_Call_Name_kw→K6l,tupleKind_room_in1→K6m,wpAny_letOwnedTupleGo_enum→K6p,wpAny_binaryOp_repeat_ref→K6v,ItemsOf→K76,sizeLine_eq→K77,wpAny_comprehension_free→K7h,backToKw→K7o,GenState→K7p,noFill_tuple_add→K7r,wpAny_pyNext_enum_itemD→K7u,setNext→K7w,callerA→K7x,wpAny_load→K7y,typeIs_int→K7z,wpAny_pyNext_enum_endD→K84,wpAny_Call_method_late→K85,wpAny_specialOf→K8d,wpAny_execs_nil→K8e,codeAny_of_tree→K8f,builtinLookup_eq_fast→K8l,wpAny_of_eq→K8p,wpAny_field→K8q,subscripted→K8r,arm_starEach_Starred→K8u,valueAt→K8y,tupleKind→K8z,signature?_of→K91,seq_tuple_add→K92,setsByText→K98,notedBy→K9j,newList→K9k,collect→K9l,IsRange→K9m,BindsTo→K9n,wpAny_typeOf→K9r,seqIndex_neg→K9s,concat_meets→K9t,callType_new→K9u,seqSlot_of→Z00,seqItems?→Z01,pickOrder→Z02,lastMarks→Z03,PassesOwn→Z04,unsupported→Z0b,seqIndex_of→Z0c,setItem→Z0h,getItem→Z0i,call→Z0l,Fin→Z0s
open List renaming getElem?_cons_zero→K3,getElem?_eq_getElem→K4,getElem?_eq_some_iff→K5,getElem?_cons_succ→K7,range→K8,length_map→K00,append_assoc→K02,mem_of_getElem?→K03,mem_map→K04,length_cons→K07,length_append→K08,size_toArray→K09,set_cons_zero→K0a,set_cons_succ→K0c,replicate→K0d,getElem?_map→K0e,length_nil→K0g,mem_filter→K0h,getElem?_eq_none→K0i,map_map→K0o,mem_range→K0r,getElem?_append_left→K0s,map_cons→K0t,mem_cons→K0v,mem_append→K0w,mem_append_right→K12,idxOf_lt_length_iff→K14,getElem?_set_ne→K15,getElem?_set_self→K19,mem_cons_of_mem→K1a,take_length→K1e,getElem?_singleton→K1g,mem_cons_self→K1k,any_eq_true→K1m,all_eq_true→K1o,getElem?_range→K1p,length_range→K1q,append_nil→K1u,ext_getElem?→K1x,length_filter_le→K1z,length_take→K26,getElem?_replicate→K27,any_cons→K29,flatMap_cons→K2b,replicate_succ→K2e,map_congr_left→K2f,find?_cons→K2g,lookup_cons→K2l,getElem?_take→K2m,mem_append_left→K2p,length_eq_zero_iff→K2r,getElem_of_mem→K2y,getElem?_append_right→K38,length_singleton→K3a,map_append→K3d,nodup_append→K3h,flatten_cons→K3i,getElem?_append→K3j,take_succ_eq_append_getElem→K3m,mergeSort_perm→K3q,filterMap_cons→K3r,take_append_of_le_length→K3y,map_nil→K3z,pairwise_lt_range→K43,length_set→K47,set_append_right→K4e,take_succ→K4h,not_lt→K4j,getElem?_of_mem→K4k,not_mem_nil→K4n,getElem_mem→K4o,all_cons→K4s,sublist_append_left→K4x,idxOf_cons→K4y,ne_nil_of_mem→K51,mem_singleton→K52,getElem_idxOf→K53,find?_eq_none→K54,pairwise_mergeSort→K5b,filter_cons_of_pos→K5c,length_pos_of_mem→K5p,foldl→K5u,map_flatMap→K5w,nodup_cons→K61,foldl_cons→K63,perm_ext_iff_of_nodup→K6o,pairwise_iff_getElem→K6q,mem_of_find?_eq_some→K6t,drop_eq_getElem_cons→K6u,pairwise_map→K74,filter_congr→K75,range'_succ→K7k,nodup_range→K7l,mem_flatMap→K7m,flatMap_map→K7n,filter_cons_of_neg→K7s,range_succ_eq_map→K82,drop_eq_nil_of_le→K83,range_succ→K88,of_mem_zip→K89,nil_append→K8a,forIn_cons→K8b,filter_map→K8c,perm_append_comm→K8i,cons_lt_cons_iff→K8j,nodup_nil→K8n,forIn_nil→K8o,pairwise_append→K8t,getD→K8w,map_replicate→K99,filterMap_map→K9a,map_id'→K9g,take_sublist→K9p,foldl_append→K9q,le_antisymm→Z05,getElem_inj→Z06,filter_cons→Z07,range'→Z08,length→Z09,take_left'→Z0f,find?_some→Z0g
open PySem.Heap renaming get?_push_of_some→K6,get?_push_size→K05,lt_size→K06,size_push→K1l,SameBut→K2z,get?_update_other→K32,get?_update_self→K3b,ExtBut→Z0a
open Nat renaming le_refl→K01,lt_of_lt_of_le→K0l,le_trans→K0m,ne_of_lt→K0p,reduceAdd→K0u,ne_of_gt→K1r,le_of_lt→K23,lt_of_le_of_lt→K25,lt_irrefl→K2a,lt_succ_of_lt→K2u,zero_le→K3g,le_succ→K4g,lt_succ_self→K5x,add_le_add_left→K65,zero_add→K68,mul_comm→K69,le_of_eq→K6a,lt_trans→K9h,lt_trichotomy→K9v,le_of_succ_le→K9w
open Bool renaming and_eq_true→K0j,false_ne_true→K0y,eq_iff_iff→K0z,false_eq_true→K1f,bne_false→K20,or_eq_true→K22,not_false→K4i,not_eq_true'→K5k,false_or→K5y,and_true→K5z,not_true→K79,and_eq_false_iff→K8k,false_bne→Z0o
open Int renaming toNat_natCast→K0k,eq_ofNat_of_zero_le→K1t,emod_lt_of_pos→K40,emod_nonneg→K4z,toNat_of_nonneg→K66,toNat→Z0u
open PySem.SetTable renaming below→K0q,grown→K2o,Probe→Z0m,laid→Z0p
open PySem.PassesOwn renaming never→K0x
open Option renaming map_eq_some_iff→K10,join_some→K5v,join_none→K7j,isSome_map→K9i
open Option.some renaming inj→K13,injEq→K6z
open Array renaming length_toList→K17,getElem?_eq_getElem→K1c,getElem?_eq_some_iff→K35,getElem?_toList→K39,toList→K9f,toList_push→K9o
open PySem.Heap.SameBut renaming update→K1b,refl→K6y
open PySem.Around renaming under_plainId→K1j
open PySem.Value renaming ref→K1n,none→K2k,type→K3n,int→K5t,bool→K6f,str→K8v,isStrOf→Z0r
open PySem.Builtin.Str renaming occurrences→K1s
open PySem.F renaming slot_tuple_iterator_next→K2d,plain_list_iadd→K2j,slot_tuple_mul→K33,slot_list_index→K3u,plainAttrs_list→K3v,args_object_init_2→K4l,args_tuple_mul_2→K4v,args_tuple_add_2→K4w,args_tuple_iterator_next_1→K56,entry_tuple_mul→K59,entry_tuple_add→K5a,entry_tuple_iterator_next→K5e,slot_tuple_add→K5l,typeCall_enumerate_1→K64,plain_proto_collect→K6c,newCall_enumerate_1→K6d,entry_enumerate_new→K6e,args_list_index_2→K6r,entry_list_index→K7f,called_enumerate→K7g,slot_tuple_rmul→K7i,type_list_index→K7q,slot_int_rmul→K8h
open List.Pairwise renaming filter→K2n,imp_of_mem→K7a,map→K9c,imp→K9d,and→K9e
open PySem.SetTable.below renaming go→K2s
open PySem.Builtin.Range renaming rangeSize→K2t,small→K4r
open True renaming intro→K2w
open PyProof.Rows renaming callWith_type1→K30,IntsAre→K5m,AllBare→K6b,subscriptTail_builtinR→K86
open PySem.Builtin.List renaming listExtendWith→K31,listTooLong→K4t,listSameRef→K7c
open PySem.Builtin.SmallTypes renaming nextOf→K3c
open False renaming elim→K3o
open Sum renaming inl→K3s,inr→K8x
open ForInStep renaming yield→K46
open PySem.NameKind renaming free→K49
open PySem.Paired renaming length→K4a
open PySem.Str renaming ofString→K4m,length→K95
open Ne renaming symm→K4p
open PySem.Obj renaming mapSeq→K50,data_mapFields→K55,isFreed_of_fields→K5s,putSet→K6h,mapFields→K90
open PyProof.Rows.F renaming plain_set_update_loop→K5d,entry_set_update_loop→K7t
open PySem.AutoSeq1 renaming idx_int→K5f
open PySem.Builtin.Frozenset renaming updateFrom→K62
open PySem.SeqAt renaming EqAt→K6g,list_indexAt→K7d
open PySem.Calls renaming Name_function_global→K6n,call_function_entry→K6s,callWith_builtin→K81,evalArgs_plain→K8s
open PySem.SetTable.probe renaming go→K6w
open List.Sublist renaming refl→K6x
open Function renaming comp_def→K70
open PySem.Shared renaming TypeIs→K78
open PySem.Builtin.Tuple renaming tupleExact→K7b
open List.Perm renaming eq_of_pairwise→K7e,append_left→K8g,trans→Z0d,cons→Z0j
open PySem.SeqAt.EqAt renaming str_int→K93,int_str→K94
open PySem.pickOrder renaming go→K9b
open And renaming intro→K9x
open PySem.Data renaming seq→Z0k
open Pure renaming pure→Z0t
open Sum.inl renaming inj→Z0v
open PySem PySem.Spec PyProof.Rows L2
set_option hygiene false
local macro_rules
|`(.(r $t))=>`(some (.ref $t))
|`(.(i $t))=>`(some (.int $t))
|`(.(g $t))=>`(some (.tup $t))
|`(.(l $t))=>`(some (.lst $t))
|`(.(s $t))=>`(some (.str $t))
|`(.(p $t))=>`((fun _=>pure (.int $t)))
set_option hygiene true
namespace L2
abbrev Key:=Sum Int Str
def z1V:Key->Value->Bool
 | .inl k,v=>Value.isInt k v
 | .inr x,v=>Z0r x v
def keyH (w:World):Key->Int
 | .inl k=>hashInt k
 | .inr x=>hashStr w x
theorem j9:∀{k:Key}{v:Value},z1V k v=true->(∃i t,k=K3s i/\v=K5t i t)∨(∃x t,k=K8x x/\v=K8v x t)
 | .inl i,v,h=>by
  obtain ⟨t,e⟩:=Value.isInt_shape (k:=i) (v:=v) h
  exact .inl ⟨i,t,rfl,e⟩
 | .inr x,v,h=>by
  obtain ⟨t,e⟩:=Value.isStrOf_shape (x:=x) (v:=v) h
  exact .inr ⟨x,t,rfl,e⟩
theorem z62 (i:Int) (t:Tok):z1V (.inl i) (.int i t)=true:=by simp [z1V,Value.isInt]
theorem z5S (x:Str) (t:Tok):z1V (.inr x) (.str x t)=true:=by simp [z1V,Z0r]
theorem zL6 (a b:Int):decide ((K3s a:Key)=K3s b)=(a==b):=by
 by_cases e:a=b
 ·subst e;simp
 ·have h:¬ (K3s a:Key)=K3s b:=λq=>e (Z0v q)
  rw [decide_eq_false h]
  exact (beq_eq_false_iff_ne.mpr e).symm
theorem zF3 (a b:Str):decide ((K8x a:Key)=K8x b)=decide (a=b):=by
 by_cases e:a=b
 ·subst e;simp
 ·have h:¬ (K8x a:Key)=K8x b:=λq=>e (K8x.inj q)
  rw [decide_eq_false h,decide_eq_false e]
theorem zE3 (a:Int) (b:Str):decide ((K3s a:Key)=K8x b)=false:=decide_eq_false (λq=>nomatch q)
theorem zD7 (a:Str) (b:Int):decide ((K8x a:Key)=K3s b)=false:=decide_eq_false (λq=>nomatch q)
def J0 (prog:K0n) (w:World):PySem.KeyKind prog w Key where
 is:=z1V
 hash:=keyH w
 inj:=λv a b ha hb=>by
  rcases j9 ha with ⟨i,t,rfl,rfl⟩|⟨x,t,rfl,rfl⟩
  ·rcases j9 hb with ⟨j,u,rfl,e⟩|⟨y,u,rfl,e⟩
   ·injection e with e1 _;rw [e1]
   ·exact nomatch e
  ·rcases j9 hb with ⟨j,u,rfl,e⟩|⟨y,u,rfl,e⟩
   ·exact nomatch e
   ·injection e with e1 _;rw [e1]
 byValue:=λk v h=>by
  rcases j9 h with ⟨i,t,rfl,rfl⟩|⟨x,t,rfl,rfl⟩<;>rfl
 pyHash:=λhv h=>by
  rcases j9 hv with ⟨i,t,rfl,rfl⟩|⟨x,t,rfl,rfl⟩
  ·exact wpAny_pyHash_int h
  ·exact wpAny_pyHash_str h
 eqBool:=λhu hv h=>by
  rcases j9 hu with ⟨i,t,rfl,rfl⟩|⟨x,t,rfl,rfl⟩
  ·rcases j9 hv with ⟨j,u,rfl,rfl⟩|⟨y,u,rfl,rfl⟩
   ·rw [zL6] at h;exact wpAny_eqBool_int h
   ·rw [zE3] at h;exact K94 i t y u _ _ _ _ h
  ·rcases j9 hv with ⟨j,u,rfl,rfl⟩|⟨y,u,rfl,rfl⟩
   ·rw [zD7] at h;exact K93 x t j u _ _ _ _ h
   ·rw [zF3] at h;exact wpAny_eqBool_str h
 «strs»:=λk x t v h=>by
  rcases j9 h with ⟨i,u,rfl,e⟩|⟨y,u,rfl,e⟩
  ·exact nomatch e
  ·injection e with e1 _
   subst e1
   cases v<;>rfl
theorem z6C (prog:K0n) (w:World) (i:Int) (t:Tok):(J0 prog w).is (.inl i) (.int i t)=true:=z62 i t
theorem z6G (prog:K0n) (w:World) (x:Str) (t:Tok):(J0 prog w).is (.inr x) (.str x t)=true:=z5S x t
end L2
namespace FT
abbrev Rise (xs:Array Nat):Prop:=xs.toList.Pairwise (·<·)
instance keyMem (k:Key) (ks:List Key):Decidable (k∈ks):=@List.instDecidableMemOfLawfulBEq Key instBEqOfDecidableEq inferInstance k ks
section
variable (w:World)
def KE (k:Key) (e:Int×Value):Prop:=z1V k e.2=true/\e.1=keyH w k
def SetAt (h:Heap) (a:Addr) (ks:List Key):Prop :=
 ∃o es ep t ks',h.get? a=some o/\o.ExactSet/\o.data=.set es ep t/\Paired (KE w) ks' es.toList/\ks'.Perm ks/\ks.Nodup/\es.size<scanBound/\t.fits es.size=true/\Rise t.place /\
  (t.led=true∨w.params.followText "set-order" = true)
end
def IsTup0 (h:Heap) (a:Addr) (items:Array Value):Prop:=∃o,h.get? a=some o/\(o.cls=.type "tuple"/\o.dict=none)/\∃n,o.data=.seq items n
theorem IsTup0.new (h:Heap) (items:Array Value):IsTup0 (h.push { cls:=.type "tuple",data:=.seq items }) h.objs.size items:=⟨_,K05 _ rfl,⟨rfl,rfl⟩,_,rfl⟩
theorem IsTup0.tup {h:Heap}{a:Addr}{items:Array Value}(x:IsTup0 h a items):IsTup h a items:=let ⟨o,e,c,d⟩:=x;⟨o,e,c.1,d⟩
theorem IsTup0.lt {h:Heap}{a:Addr}{items:Array Value}(x:IsTup0 h a items):a<h.objs.size:=let ⟨_,e,_⟩:=x;K06 e
end FT
namespace L2
inductive V where
 | non|bl (b:Bool)|int (i:Int)|str (x:Str)|byt (b:Array UInt8)|flt (b:UInt64)|ref (a:Addr)|ty (n:String)
 deriving DecidableEq
def RelV:V->Value->Prop
 | .non,u=>u=K2k
 | .bl b,u=>u=K6f b
 | .int i,u=>∃t,u=K5t i t
 | .str x,u=>∃t,u=K8v x t
 | .byt b,u=>∃t,u=Value.bytes b t
 | .flt b,u=>∃t,u=Value.float b t
 | .ref a,u=>u=K1n a
 | .ty n,u=>u=K3n n
abbrev Vals:List V->List Value->Prop:=Paired RelV
theorem Vals.length {xs:List V}{us:List Value}(r:Vals xs us):xs.length=us.length:=K4a r
theorem Vals.get:∀{xs:List V}{us:List Value}{i:Nat}{x:V},Vals xs us->xs[i]?=some x->∃u,us[i]?=some u/\RelV x u
 | _,_,_,_,.nil,e=>by simp at e
 | _,_,0,_,.cons r _,e=>by simp at e;subst e;exact ⟨_,rfl,r⟩
 | _,_,i+1,x,.cons _ t,e=>by
  obtain ⟨u,h1,h2⟩:=Vals.get (i:=i) (x:=x) t (by simpa using e)
  exact ⟨u,by simpa using h1,h2⟩
theorem Vals.set {x:V}{u:Value}(r:RelV x u):∀{xs:List V}{us:List Value}(i:Nat),Vals xs us->Vals (xs.set i x) (us.set i u)
 | _,_,_,.nil=>.nil
 | _,_,0,.cons _ t=>.cons r t
 | _,_,i+1,.cons q t=>.cons q (Vals.set r i t)
theorem Vals.append:∀{xs ys:List V}{us ws:List Value},Vals xs us->Vals ys ws->Vals (xs++ys) (us++ws)
 | _,_,_,_,.nil,s=>s
 | _,_,_,_,.cons r t,s=>.cons r (Vals.append t s)
def RelO:Option V->Option Value->Prop
 | some v,some u=>RelV v u
 | none,none=>True
 | _,_=>False
def KV {κ:Type}:List (κ×V)->List (κ×Value)->Prop:=Paired λ(p:κ×V) (q:κ×Value)=>p.1=q.1/\RelV p.2 q.2
def kV:Key->V
 | .inl i=>.int i
 | .inr x=>.str x
inductive HO where
 | lst (xs:List V)
 | tup (xs:List V)
 | dK (kvs:List (Key×V))|dT (kvs:List (List Key×V))
 | set (ks:List Key)
 | ins (C dx:Addr) (fs:List (Str×V))
 | own (x:Addr)
 | xd (fs:List (Str×V))
 | met (f x:Addr)
 | rng (lo hi:Int)
 | frz (o:Obj) (u:HO)
 | tbl (ps:Array Value)
 | ext (φ:Heap->Prop)
abbrev Hp:=Addr->Option HO
def upd (H:Hp) (a:Addr) (o:HO):Hp:=λb=>if b=a then some o else H b
theorem w6 {H:Hp}{a:Addr}{o:HO}:upd H a o a=some o:=by unfold upd;rw [if_pos rfl]
theorem J6 {H:Hp}{a b:Addr}{o:HO}(h:b≠a):upd H a o b=H b:=by unfold upd;rw [if_neg h]
theorem zT1 {H:Hp}{a b:Addr}{o u:HO}(h:H a=some o) (h':H b=some u) (d:o≠u):a≠b:=by
 intro e;subst e;rw [h] at h';exact d (K13 h')
theorem Y0 {H:Hp}{a b:Addr}{o:HO}(h:H a=some o) (h':H b=none):a≠b:=by
 intro e;subst e;rw [h] at h';cases h'
section
variable (P:K0n) (w:World)
def ObjOk (H:Hp) (h:Heap) (a:Addr):HO->Prop
 | .lst xs=>xs.length≤sizeLine/\∃(its:List Value) (n:Nat),Vals xs its/\h.get? a=some { cls:=.type "list",data:=.seq its.toArray n }
 | .tup xs=>xs.length≤sizeLine/\∃its:List Value,Vals xs its/\FT.IsTup0 h a its.toArray
 | .dK kvs=>kvs.length≤sizeLine/\(a==K36)=false/\∃vs,KV kvs vs/\h.DictOf (J0 P w) a vs
 | .dT kvs=>kvs.length≤sizeLine/\(a==K36)=false/\∃xs:List (List Key×Addr×Value),
  Paired (λ(p:List Key×V) (q:List Key×Addr×Value)=>p.1=q.1/\H q.2.1=.(g (p.1.map kV))/\RelV p.2 q.2.2) kvs xs /\
  ∃o es ep,h.get? a=some o/\o.ExactDict/\o.data=.dict es ep/\es.toList=xs.map (entryOfKey (K8z (J0 P w)))/\(xs.map (·.1)).Nodup
 | .set ks=>FT.SetAt w h a ks
 | .ins C dx fs=>H dx=some (.own a)/\fs.length≤1000/\dx≠a/\h.get? a=some (K87 C dx) /\
  ∃mA,h.Ns1 dx mA/\(∀f,RelO (fs.lookup f) (mA f))/\PySem.Within mA (fs.map (·.1))
 | .own _=>∃o,h.get? a=some o
 | .xd fs=>∃mA,h.Ns1 a mA/\∀f,RelO (fs.lookup f) (mA f)
 | .rng lo hi=>∃t u v,h.get? a=some { cls:=.type "range",data:=.fields #[.int lo t,.int hi u,.int 1 v] }
 | .frz o u=>h.get? a=some o/\ObjOk H h a u
 | .tbl ps=>h.get? a=some { cls:=.none,data:=.fields ps }
 | .met f x=>h.get? a=some (K71 (.ref f) (.ref x))
 | .ext φ=>φ h/\(∃o,h.get? a=some o)/\∀h1 h2:Heap,φ h1->(∀o,h1.get? a=some o->h2.get? a=some o)->φ h2
def HOk (H:Hp) (h:Heap):Prop:=∀a o,H a=some o->ObjOk P w H h a o
end
section
variable {P:K0n}{w:World}{H H':Hp}{h h':Heap}{a:Addr}{o:HO}
theorem ObjOk.lt (x:ObjOk P w H h a o):a<h.objs.size:=by
 cases o with
 | lst xs=>obtain ⟨_,_,_,_,e⟩:=x;exact K06 e
 | tup xs=>obtain ⟨_,_,_,p⟩:=x;exact p.lt
 | dK kvs=>obtain ⟨_,_,_,_,o,_,_,e,_⟩:=x;exact K06 e
 | dT kvs=>obtain ⟨_,_,_,_,o,_,_,e,_⟩:=x;exact K06 e
 | set ks=>obtain ⟨o,_,_,_,_,e,_⟩:=x;exact K06 e
 | ins C dx fs=>obtain ⟨_,_,_,e,_⟩:=x;exact K06 e
 | own y=>obtain ⟨_,e⟩:=x;exact K06 e
 | xd fs=>obtain ⟨_,⟨_,_,_,e,_⟩,_⟩:=x;exact K06 e
 | rng lo hi=>obtain ⟨_,_,_,e⟩:=x;exact K06 e
 | frz ob u=>obtain ⟨e,_⟩:=x;exact K06 e
 | tbl ps=>exact K06 (show h.get? a=some _ from x)
 | met f y=>exact K06 (show h.get? a=some _ from x)
 | ext φ=>obtain ⟨_,⟨_,e⟩,_⟩:=x;exact K06 e
theorem Paired.mapP {α β:Type}{F G:α->β->Prop}:∀{l₁:List α}{l₂:List β},Paired F l₁ l₂->(∀a b,F a b->G a b)->Paired G l₁ l₂
 | _,_,.nil,_=>.nil
 | _,_,.cons r t,f=>.cons (f _ _ r) (Paired.mapP t f)
theorem ObjOk.stay (x:ObjOk P w H h a o) (k:∀b u,(b=a∨H b=some (.own a))->h.get? b=some u->h'.get? b=some u)
 (ho:∀b,H b=some (.own a)->H' b=some (.own a)) (ht:∀b xs,H b=.(g xs)->H' b=.(g xs)):ObjOk P w H' h' a o:=by
 induction o with
 | lst xs=>obtain ⟨z,its,n,r,e⟩:=x;exact ⟨z,its,n,r,k _ _ (.inl rfl) e⟩
 | tup xs=>obtain ⟨z,its,r,ob,e,c⟩:=x;exact ⟨z,its,r,ob,k _ _ (.inl rfl) e,c⟩
 | dK kvs=>obtain ⟨z,y,vs,r,ob,es,ep,e,c⟩:=x;exact ⟨z,y,vs,r,ob,es,ep,k _ _ (.inl rfl) e,c⟩
 | dT kvs =>
  obtain ⟨z,y,xs,r,ob,es,ep,e,c⟩:=x
  exact ⟨z,y,xs,Paired.mapP r λp q z=>⟨z.1,ht _ _ z.2.1,z.2.2⟩,ob,es,ep,k _ _ (.inl rfl) e,c⟩
 | set ks=>obtain ⟨ob,es,ep,t,k',e,c⟩:=x;exact ⟨ob,es,ep,t,k',k _ _ (.inl rfl) e,c⟩
 | ins C dx fs =>
  obtain ⟨d,z,ne,e,mA,⟨od,es,ep,e2,c⟩,r⟩:=x
  exact ⟨ho _ d,z,ne,k _ _ (.inl rfl) e,mA,⟨od,es,ep,k _ _ (.inr d) e2,c⟩,r⟩
 | own y=>obtain ⟨ob,e⟩:=x;exact ⟨ob,k _ _ (.inl rfl) e⟩
 | xd fs=>obtain ⟨mA,⟨od,es,ep,e,c⟩,r⟩:=x;exact ⟨mA,⟨od,es,ep,k _ _ (.inl rfl) e,c⟩,r⟩
 | rng lo hi=>obtain ⟨t,u,v,e⟩:=x;exact ⟨t,u,v,k _ _ (.inl rfl) e⟩
 | frz ob u ih=>obtain ⟨e,q⟩:=x;exact ⟨k _ _ (.inl rfl) e,ih q⟩
 | tbl ps =>
  have e:h.get? a=some { cls:=.none,data:=.fields ps }:=x
  show h'.get? a=some { cls:=.none,data:=.fields ps }
  exact k a _ (.inl rfl) e
 | met f y =>
  have e:h.get? a=some (K71 (.ref f) (.ref y)):=x
  show h'.get? a=some (K71 (.ref f) (.ref y))
  exact k a _ (.inl rfl) e
 | ext φ=>obtain ⟨p,⟨o,e⟩,st⟩:=x;exact ⟨st _ _ p λo q=>k _ _ (.inl rfl) q,⟨o,k _ _ (.inl rfl) e⟩,st⟩
theorem HOk.lt (x:HOk P w H h) (e:H a=some o):a<h.objs.size:=(x a o e).lt
theorem HOk.fresh (x:HOk P w H h) (e:h.objs.size≤a):H a=none:=by
 cases q:H a with
 | none=>rfl
 | some u=>exact absurd (K0l (x.lt q) e) (K2a _)
theorem HOk.kept (x:HOk P w H h) (k:∀b u,h.get? b=some u->h'.get? b=some u):HOk P w H h':=λa o e =>
 (x a o e).stay (λb u _ q=>k b u q) (λ_ q=>q) λ_ _ q=>q
theorem HOk.laid (x:HOk P w H h) (k:∀b u,h.get? b=some u->h'.get? b=some u) (hp:h.objs.size≤a) (new:ObjOk P w (upd H a o) h' a o):HOk P w (upd H a o) h':=λb u e=>by
 have hn:=x.fresh hp
 by_cases hb:b=a
 ·subst hb;rw [w6] at e;cases e;exact new
 ·rw [J6 hb] at e
  exact (x b u e).stay (λc v _ q=>k c v q) (λc q=>by rw [J6 (Y0 q hn)];exact q) λc xs q=>by rw [J6 (Y0 q hn)];exact q
end
def Rd (H:Hp) (a:Addr) (u:HO):Prop:=H a=some u∨∃o,H a=some (.frz o u)
theorem Rd.ok {P:K0n}{w:World}{H:Hp}{h:Heap}{a:Addr}{u:HO}(r:Rd H a u) (x:HOk P w H h):ObjOk P w H h a u:=by
 rcases r with r|⟨o,r⟩
 ·exact x a u r
 ·obtain ⟨_,q⟩:=x a _ r
  exact q
def Mut:Option HO->Prop
 | .(l _)=>True
 | some (.dK _)=>True
 | some (.dT _)=>True
 | some (.set _)=>True
 | some (.ins _ _ _)=>True
 | some (.ext _)=>True
 | _=>False
section
variable {P:K0n}{w:World}{H:Hp}{h h':Heap}{x e:Addr}{o':HO}
theorem HOk.write (ok:HOk P w H h) (mu:Mut (H x)) (he:e=x∨H e=some (.own x)) (k:∀b u,b≠e->h.get? b=some u->h'.get? b=some u) (heo:∃u,h'.get? e=some u)
 (new:ObjOk P w (upd H x o') h' x o'):HOk P w (upd H x o') h':=λb u q=>by
 have nown:∀c y,H c=some (.own y)->c≠x:=λc y r z=>by subst z;rw [r] at mu;exact mu
 have ntup:∀c xs,H c=.(g xs)->c≠x:=λc xs r z=>by subst z;rw [r] at mu;exact mu
 by_cases hb:b=x
 ·subst hb;rw [w6] at q;cases q;exact new
 ·rw [J6 hb] at q
  by_cases hbe:b=e
  ·have q':H b=some (.own x):=by
    rcases he with z|z
    ·exact absurd (hbe.trans z) hb
    ·rw [hbe];exact z
   rw [q] at q';cases q'
   obtain ⟨v,hv⟩:=heo
   exact ⟨v,by rw [hbe];exact hv⟩
  ·refine (ok b u q).stay (λc v hc r=>k c v ?_ r) (λc r=>by rw [J6 (nown c b r)];exact r) λc xs r=>by rw [J6 (ntup c xs r)];exact r
   rcases hc with rfl|hc
   ·exact hbe
   ·rintro rfl
    rcases he with z|z
    ·exact nown c b hc z
    ·rw [hc] at z;cases z;exact hb rfl
end
structure Un (fs ex:List Addr) (H H':Hp) (h h':Heap):Prop where
 keep:∀b o,h.get? b=some o->H b=none->b∉fs->b∉ex->h'.get? b=some o
 slot:∀b o,h.get? b=some o->H b=none->b∈fs->b∉ex->∃sl,h'.get? b=some { o with slots:=sl }
 free:∀b o,h.get? b=some o->H b=none->b∉ex->H' b=none
 there:∀b o,h.get? b=some o->b∉ex->∃o',h'.get? b=some o'
 tups:∀b xs,H b=.(g xs)->H' b=.(g xs)
 frzs:∀b o u,H b=some (.frz o u)->H' b=some (.frz o u)
 tbls:∀b ps,H b=some (.tbl ps)->∃more,H' b=some (.tbl (ps++more))
section
variable {fs fs' ex ex':List Addr}{H H1 H2:Hp}{h h1 h2 h':Heap}{a x e:Addr}{o:HO}
theorem Un.any (u:Un fs ex H H1 h h1) {b:Addr}{ob:Obj}(q:h.get? b=some ob) (n:H b=none) (hx:b∉ex):∃sl,h1.get? b=some { ob with slots:=sl }:=by
 by_cases hb:b∈fs
 ·exact u.slot b ob q n hb hx
 ·exact ⟨ob.slots,u.keep b ob q n hb hx⟩
theorem Un.kept (k:∀b u,h.get? b=some u->h'.get? b=some u):Un fs ex H H h h' :=
 ⟨λb ob q _ _ _=>k b ob q,λb ob q _ _ _=>⟨ob.slots,k b ob q⟩,λ_ _ _ n _=>n,λb ob q _=>⟨ob,k b ob q⟩,λ_ _ q=>q,λ_ _ _ q=>q,λ_ ps q=>⟨#[],by rw [q];simp⟩⟩
theorem Un.refl:Un fs ex H H h h:=Un.kept λ_ _ q=>q
theorem Un.laid (k:∀b u,h.get? b=some u->h'.get? b=some u) (hp:h.objs.size≤a) (hn:H a=none):Un fs ex H (upd H a o) h h' where
 keep:=λb u q _ _ _=>k b u q
 slot:=λb u q _ _ _=>⟨u.slots,k b u q⟩
 free:=λb u q n _=>by rw [J6 (K0p (K0l (K06 q) hp))];exact n
 there:=λb u q _=>⟨u,k b u q⟩
 tups:=λb xs q=>by rw [J6 (Y0 q hn)];exact q
 frzs:=λb u xs q=>by rw [J6 (Y0 q hn)];exact q
 tbls:=λb ps q=>⟨#[],by rw [J6 (Y0 q hn),q];simp⟩
theorem Un.write (mu:Mut (H x)) (he:e=x∨H e=some (.own x)) (k:∀b u,b≠e->h.get? b=some u->h'.get? b=some u) (heo:∃u,h'.get? e=some u):Un fs ex H (upd H x o) h h':=by
 have hx:∀b,H b=none->b≠x:=λb n z=>by subst z;rw [n] at mu;exact mu
 have hb:∀b,H b=none->b≠e:=λb n z=>by
  subst z
  rcases he with r|r
  ·exact hx b n r
  ·rw [n] at r;cases r
 have hm:∀b u,H b=some u->¬ Mut (some u)->b≠x:=λb u q nm z=>by subst z;rw [q] at mu;exact nm mu
 refine ⟨λb u q n _ _=>k b u (hb b n) q,λb u q n _ _=>⟨u.slots,k b u (hb b n) q⟩,λb u q n _=>by rw [J6 (hx b n)];exact n,λb u q _=>?_,
  λb xs q=>by rw [J6 (hm b _ q λz=>z)];exact q,λb u xs q=>by rw [J6 (hm b _ q λz=>z)];exact q,λb ps q=>⟨#[],by rw [J6 (hm b _ q λz=>z),q];simp⟩⟩
 by_cases hbe:b=e
 ·subst hbe;exact heo
 ·exact ⟨u,k b u hbe q⟩
end
def trk (h:Heap) (H:Hp):List Addr:=(K8 h.objs.size).filter λa=>(H a).isSome
def hidT (h:Heap) (H:Hp):Heap:=PySem.W.hideAll h (trk h H)
theorem za0 (h:Heap) (H:Hp):(hidT h H).objs.size=h.objs.size:=PySem.W.hideAll_size _ _
theorem zg7 {h:Heap}{H:Hp}{b:Addr}{o:Obj}(e:h.get? b=some o) (n:H b=none):(hidT h H).get? b=some o :=
 PySem.W.hideAll_get _ e λhm=>by
  have q:(H b).isSome=true:=(K0h.mp hm).2
  rw [n] at q;simp at q
theorem zx2 {h:Heap}{H:Hp}{b:Addr}{o:Obj}(e:(hidT h H).get? b=some o):h.get? b=some o/\H b=none:=by
 have e':h.get? b=some o:=PySem.W.of_hideAll (trk h H) e
 refine ⟨e',?_⟩
 cases q:H b with
 | none=>rfl
 | some x =>
  have hm:b∈trk h H:=K0h.mpr ⟨K0r.mpr (K06 e'),by simp [q]⟩
  have z:(hidT h H).get? b=none:=PySem.W.hideAll_none (trk h H) hm
  rw [z] at e;cases e
def zu0 (g h:Heap) (L:Addr):List (Addr×Obj):=(K8 h.objs.size).filterMap λa=>if a=L∨(g.get? a).isSome=true then none else (h.get? a).map λo=>(a,o)
def rest (g h:Heap) (L d:Addr):List (Addr×Obj):=(zu0 g h L).filter λp=>decide (p.1≠d)
structure Mod (K:K1) (mg:Str->Option Value) (base:Heap):Prop where
 kin:K.In base
 glob:base.Ns K2h mg
 blt:∃mb,base.Ns builtinsNs mb/\∀x:Str,x≠"__name__"->mb x=K4q x
 nolimit:base.NoLimit
structure Cx where
 prog:K0n
 w:World
 K:K1
 mg:Str->Option Value
 base:Heap
 A:Around
 N:List Str
 s₀:Shared
 H₀:Hp
 env:Env
 outer:List Env
 stack:List Env
 ex:List Addr
 fn:Str->Bool
 calm:Bool
 pn:List (Addr×Obj)
 xe:Value->Shared->Prop
def frs (l:List Env):List Addr:=l.filterMap (·.frame)
abbrev Cx.fs (X:Cx):List Addr:=frs X.outer
def Vis (sc:Scope) (x:Str):Prop:=sc.names.lookup x=some .local∨sc.names.lookup x=some .cell∨sc.names.lookup x=some .free
def Loc (sc:Scope) (x:Str):Prop:=sc.names.lookup x=some .local∨sc.names.lookup x=some .cell
def Look (env:Env) (h:Heap) (m:Str->Option Value) (x:Str) (u:Value):Prop :=
 (env.kindOf x=some .local/\m x=some u)∨((env.kindOf x=some .cell∨env.kindOf x=some .free)/\∃c,env.cells.lookup x=some c/\h.IsCell c (some u))
structure Cx.Ok (X:Cx):Prop where
 mod:Mod X.K X.mg X.base
 kind:X.env.scope.kind=.function
 glob:X.env.globals=K2h
 blt:X.env.builtins=builtinsNs
 above:X.s₀.heap.objs.size≤X.env.locals
 inj:∀x y c,X.env.cells.lookup x=some c->X.env.cells.lookup y=some c->x=y
 has:∀x,(X.env.kindOf x=some .cell∨X.env.kindOf x=some .free)->∃c,X.env.cells.lookup x=some c
 cab:∀x c,X.fn x=true->X.env.cells.lookup x=some c->X.s₀.heap.objs.size≤c
 hd:X.calm=true->X.A.handled=none
 frames:X.A.frames=some X.stack
 stk:X.stack=X.outer∨(X.stack=X.env::X.outer/\X.env.frame=some X.env.locals)
 exf:∀b∈X.ex,b≠X.env.locals/\∀x c,X.env.cells.lookup x=some c->c≠b
 bs:∀b o,X.base.get? b=some o->X.s₀.heap.get? b=some o/\X.H₀ b=none
 bsz:X.base.objs.size≤X.s₀.heap.objs.size
 noex:∀b o,X.base.get? b=some o->b∉X.ex
 exfs:∀b∈X.ex,b∉X.fs
 funs:X.s₀.heap.FunFrames X.base X.outer
 frf:∀b∈X.fs,X.H₀ b=none
structure Inv (X:Cx) (pins:List (Addr×Obj)) (σ:List (Option V)) (H:Hp) (s:Shared):Prop where
 ok:X.Ok
 os:s.os=X.s₀.os
 bare:K6b s.gens
 base:Un X.fs X.ex X.H₀ H X.s₀.heap s.heap
 loc:∃m,s.heap.Ns X.env.locals m/\∀(i:Nat) (x:Str) (v:V),X.N[i]?=some x->σ[i]?=some (some v)->Vis X.env.scope x->∃u,RelV v u/\Look X.env s.heap m x u
 cell:∀x c,X.env.cells.lookup x=some c->∃v,s.heap.IsCell c v
 free:H X.env.locals=none
 freeC:∀x c,X.env.cells.lookup x=some c->H c=none
 pin:∀p∈X.pn++pins,s.heap.get? p.1=some p.2/\H p.1=none/\p.1≠X.env.locals/\p.1∉X.fs/\∀v,p.2.data≠.cell v
 hok:HOk X.prog X.w H s.heap
 len:σ.length=X.N.length
section
variable {X:Cx}{pins:List (Addr×Obj)}{σ:List (Option V)}{H H':Hp}{s:Shared}{h':Heap}
theorem Cx.Ok.nofr (ok:X.Ok) {b:Addr}{o:Obj}(e:X.base.get? b=some o):b∉X.fs:=λhb=>by
 have:=(ok.funs.mem hb).1
 rw [e] at this;cases this
theorem Inv.bs (I:Inv X pins σ H s):∀b o,X.base.get? b=some o->s.heap.get? b=some o/\H b=none:=λb o e =>
 ⟨I.base.keep b o (I.ok.bs b o e).1 (I.ok.bs b o e).2 (I.ok.nofr e) (I.ok.noex b o e),I.base.free b o (I.ok.bs b o e).1 (I.ok.bs b o e).2 (I.ok.noex b o e)⟩
theorem Inv.bk (I:Inv X pins σ H s):∀b o,X.base.get? b=some o->s.heap.get? b=some o:=λb o e=>(I.bs b o e).1
theorem Inv.mod (I:Inv X pins σ H s):Mod X.K X.mg X.base:=I.ok.mod
theorem Inv.kIn (I:Inv X pins σ H s):X.K.In s.heap:=I.ok.mod.kin.keeps I.bk
theorem Inv.fr (I:Inv X pins σ H s):∃m,Fr X.base X.env.locals s.heap m :=
 let ⟨m,hn,_⟩:=I.loc
 ⟨m,hn,I.bk,K0m I.ok.bsz I.ok.above⟩
theorem Inv.lt (I:Inv X pins σ H s):X.env.locals<s.heap.objs.size:=let ⟨_,hn,_⟩:=I.loc;hn.lt
theorem Inv.sz (I:Inv X pins σ H s):X.s₀.heap.objs.size≤s.heap.objs.size:=K0m I.ok.above (K23 I.lt)
theorem Inv.nofs (I:Inv X pins σ H s) {a:Addr}(h:s.heap.objs.size≤a):a∉X.fs:=λhb=>by
 obtain ⟨_,o,ho,_⟩:=I.ok.funs.mem hb
 exact absurd (K0l (K06 ho) (K0m I.sz h)) (K2a _)
theorem Inv.cne (I:Inv X pins σ H s):∀x c,X.env.cells.lookup x=some c->c≠X.env.locals:=λx c e z=>by
 obtain ⟨v,o,ho,hd⟩:=I.cell x c e
 obtain ⟨m,⟨o',es,ep,ho',hd',_⟩,_⟩:=I.loc
 rw [z,ho'] at ho;cases ho;rw [hd'] at hd;cases hd
theorem Inv.funs (I:Inv X pins σ H s):s.heap.FunFrames X.base X.outer:=by
 have all:∀(l:List Env),(∀b∈frs l,b∈X.fs)->X.s₀.heap.FunFrames X.base l->s.heap.FunFrames X.base l:=by
  intro l
  induction l with
  | nil=>intro _ _;trivial
  | cons env r ih =>
   intro hs hl
   obtain ⟨hk,⟨L,o,hf,hn,ho,hd⟩,hr⟩:=hl
   have hL:L∈X.fs:=hs L (by unfold frs;rw [K3r,hf];exact K1k)
   obtain ⟨sl,e⟩:=I.base.slot L o ho (I.ok.frf L hL) hL λz=>I.ok.exfs L z hL
   exact ⟨hk,⟨L,_,hf,hn,e,hd⟩,ih (λb hb=>hs b (by unfold frs;rw [K3r,hf];exact K1a _ hb)) hr⟩
 exact all X.outer (λ_ hb=>hb) I.ok.funs
theorem Inv.stack (I:Inv X pins σ H s):s.heap.FunFrames X.base X.stack:=by
 rcases I.ok.stk with e|⟨e,hf⟩
 ·rw [e];exact I.funs
 ·rw [e]
  obtain ⟨m,hn,_⟩:=I.loc
  refine .cons (by rw [I.ok.kind];decide) hf hn ?_ I.funs
  exact Heap.get?_none_of_le (K0m I.ok.bsz I.ok.above)
theorem Inv.stkSub (I:Inv X pins σ H s):∀b∈frs X.stack,b∈X.env.locals::X.fs:=λb hb=>by
 rcases I.ok.stk with e|⟨e,hf⟩
 ·rw [e] at hb;exact K1a _ hb
 ·rw [e] at hb
  unfold frs at hb
  rw [K3r,hf] at hb
  exact hb
theorem Inv.stkFree (I:Inv X pins σ H s):∀b∈frs X.stack,H b=none:=λb hb=>by
 rcases K0v.mp (I.stkSub b hb) with e|hb
 ·rw [e];exact I.free
 ·obtain ⟨_,o,ho,_⟩:=I.ok.funs.mem hb
  exact I.base.free b o ho (I.ok.frf b hb) λz=>I.ok.exfs b z hb
theorem Inv.step {g':Array K7p}{t':Nat}{d':Drawn}{ch:List Addr}(I:Inv X pins σ H s)
 (hch:∀b∈ch,(b∈X.ex∨X.s₀.heap.objs.size≤b)/\b≠X.env.locals/\(∀x c,X.env.cells.lookup x=some c->c≠b)/\∀p∈X.pn++pins,p.1≠b)
 (keep:∀b o,b≠X.env.locals->b∉X.fs->b∉ch->s.heap.get? b=some o->H b=none->h'.get? b=some o)
 (slot:∀b o,b≠X.env.locals->b∈X.fs->b∉ch->s.heap.get? b=some o->H b=none->∃sl,h'.get? b=some { o with slots:=sl }) (free:∀b o,b∉ch->s.heap.get? b=some o->H b=none->H' b=none)
 (there:∀b o,b∉ch->s.heap.get? b=some o->∃o',h'.get? b=some o')
 (tups:∀b xs,H b=.(g xs)->H' b=.(g xs)) (frzs:∀b o u,H b=some (.frz o u)->H' b=some (.frz o u)) (tbls:∀b ps,H b=some (.tbl ps)->∃more,H' b=some (.tbl (ps++more)))
 (ns:∀m,s.heap.Ns X.env.locals m->h'.Ns X.env.locals m) (hok:HOk X.prog X.w H' h') (hg:K6b g') :
 Inv X pins σ H' { s with heap:=h',gens:=g',drawn:=d',toks:=t' }:=by
 have neL:∀b o,X.s₀.heap.get? b=some o->b≠X.env.locals:=λb o e=>K0p (K0l (K06 e) I.ok.above)
 have neC:∀b o,X.s₀.heap.get? b=some o->b∉X.ex->b∉ch:=λb o e hx hb=>by
  rcases (hch b hb).1 with z|z
  ·exact hx z
  ·exact absurd (K0l (K06 e) z) (K2a _)
 have cellK:∀x c,X.env.cells.lookup x=some c->∀v,s.heap.IsCell c v->h'.IsCell c v:=λx c e v ⟨o,ho,hd⟩=>by
  have nch:c∉ch:=λz=>(hch c z).2.2.1 x c e rfl
  by_cases hc:c∈X.fs
  ·obtain ⟨sl,q⟩:=slot c o (I.cne x c e) hc nch ho (I.freeC x c e)
   exact ⟨_,q,hd⟩
  ·exact ⟨o,keep c o (I.cne x c e) hc nch ho (I.freeC x c e),hd⟩
 refine ⟨I.ok,I.os,hg,⟨λb o e n hb hx=>?_,λb o e n hb hx=>?_,λb o e n hx=>?_,λb o e hx=>?_,λb xs e=>tups b xs (I.base.tups b xs e),λb o xs e=>frzs b o xs (I.base.frzs b o xs e),λb ps e=>?_⟩,?_,λx c e=>?_,?_,λx c e=>?_,λp hp=>?_,hok,I.len⟩
 ·exact keep b o (neL b o e) hb (neC b o e hx) (I.base.keep b o e n hb hx) (I.base.free b o e n hx)
 ·obtain ⟨sl,e1⟩:=I.base.slot b o e n hb hx
  obtain ⟨sl',e2⟩:=slot b _ (neL b o e) hb (neC b o e hx) e1 (I.base.free b o e n hx)
  exact ⟨sl',e2⟩
 ·obtain ⟨o',e1⟩:=I.base.there b o e hx
  exact free b o' (neC b o e hx) e1 (I.base.free b o e n hx)
 ·obtain ⟨o',e1⟩:=I.base.there b o e hx
  exact there b o' (neC b o e hx) e1
 ·obtain ⟨m1,e1⟩:=I.base.tbls b ps e
  obtain ⟨m2,e2⟩:=tbls b _ e1
  exact ⟨m1++m2,by rw [e2,Array.append_assoc]⟩
 ·obtain ⟨m,hn,hl⟩:=I.loc
  refine ⟨m,ns m hn,λi x v e1 e2 e3=>?_⟩
  obtain ⟨u,r,l⟩:=hl i x v e1 e2 e3
  refine ⟨u,r,?_⟩
  rcases l with l|⟨k,c,e,z⟩
  ·exact .inl l
  ·exact .inr ⟨k,c,e,cellK x c e _ z⟩
 ·obtain ⟨v,z⟩:=I.cell x c e
  exact ⟨v,cellK x c e v z⟩
 ·obtain ⟨m,⟨o,_,_,ho,_⟩,_⟩:=I.loc
  exact free _ o (λz=>(hch _ z).2.1 rfl) ho I.free
 ·obtain ⟨v,o,ho,hd⟩:=I.cell x c e
  exact free c o (λz=>(hch c z).2.2.1 x c e rfl) ho (I.freeC x c e)
 ·obtain ⟨e,n,ne,nf,d⟩:=I.pin p hp
  have nch:p.1∉ch:=λz=>(hch p.1 z).2.2.2 p hp rfl
  exact ⟨keep p.1 p.2 ne nf nch e n,free p.1 p.2 nch e n,ne,nf,d⟩
theorem Inv.un {t':Nat}(I:Inv X pins σ H s) (u:Un X.fs [] H H' s.heap h') (hok:HOk X.prog X.w H' h'):Inv X pins σ H' { s with heap:=h',toks:=t' }:=by
 obtain ⟨m,⟨o,es,ep,ho,r⟩,_⟩:=id I.loc
 obtain ⟨sl,hL⟩:=u.any ho I.free (by simp)
 exact I.step (g':=s.gens) (d':=s.drawn) (ch:=[]) (λ_ z=>nomatch z) (λb o _ hb _ e n=>u.keep b o e n hb (by simp)) (λb o _ hb _ e n=>u.slot b o e n hb (by simp)) (λb o _ e n=>u.free b o e n (by simp)) (λb o _ e=>u.there b o e (by simp)) u.tups u.frzs u.tbls (λm' hm=>by
  obtain ⟨o',es',ep',ho',r'⟩:=hm
  rw [ho] at ho';cases ho'
  exact ⟨_,es',ep',hL,r'⟩) hok I.bare
theorem Inv.call {g':Array K7p}{t':Nat}{d':Drawn}{ch:List Addr}(I:Inv X pins σ H s) (u:Un (frs X.stack) ch H H' s.heap h') (hok:HOk X.prog X.w H' h') (hg:K6b g')
 (hch:∀b∈ch,(b∈X.ex∨X.s₀.heap.objs.size≤b)/\b≠X.env.locals/\(∀x c,X.env.cells.lookup x=some c->c≠b)/\∀p∈X.pn++pins,p.1≠b) :
 Inv X pins σ H' { s with heap:=h',gens:=g',drawn:=d',toks:=t' }:=by
 obtain ⟨m,⟨o,es,ep,ho,r⟩,_⟩:=id I.loc
 obtain ⟨sl,hL⟩:=u.any ho I.free λz=>(hch _ z).2.1 rfl
 exact I.step (ch:=ch) hch (λb o hL hb hc e n=>u.keep b o e n (λz=>(K0v.mp (I.stkSub b z)).elim hL hb) hc) (λb o _ _ hc e n=>u.any e n hc) (λb o hc e n=>u.free b o e n hc) (λb o hc e=>u.there b o e hc) u.tups u.frzs u.tbls (λm' hm=>by
  obtain ⟨o',es',ep',ho',r'⟩:=hm
  rw [ho] at ho';cases ho'
  exact ⟨_,es',ep',hL,r'⟩) hok hg
theorem Inv.turned {t':Nat}{it:Addr}(I:Inv X pins σ H s) (k:∀b o,b≠it->s.heap.get? b=some o->h'.get? b=some o) (hn:H it=none) (hL:it≠X.env.locals)
 (h1:it∈X.ex∨X.s₀.heap.objs.size≤it) (h2:∀x c,X.env.cells.lookup x=some c->c≠it) (h3:∀p∈X.pn++pins,p.1≠it):Inv X pins σ H { s with heap:=h',toks:=t' }:=by
 have nit:∀b u,H b=some u->b≠it:=λb u e z=>by rw [z,hn] at e;cases e
 refine I.step (g':=s.gens) (d':=s.drawn) (ch:=[it]) (λb hb=>?_) (λb o _ _ hc e _=>k b o (λz=>hc (by simp [z])) e) (λb o _ _ hc e _=>⟨o.slots,k b o (λz=>hc (by simp [z])) e⟩) (λ_ _ _ _ n=>n)
  (λb o hc e=>⟨o,k b o (λz=>hc (by simp [z])) e⟩) (λ_ _ e=>e) (λ_ _ _ e=>e) (λb ps e=>⟨#[],by rw [e];simp⟩) (λm hm=>?_) (λb u e=>?_) I.bare
 ·have e:b=it:=by simpa using hb
  subst e
  exact ⟨h1,hL,h2,h3⟩
 ·obtain ⟨o,es,ep,ho,r⟩:=hm
  exact ⟨o,es,ep,k _ o (K4p hL) ho,r⟩
 ·refine (I.hok b u e).stay (λc v hc q=>k c v ?_ q) (λ_ q=>q) λ_ _ q=>q
  rcases hc with z|z
  ·rw [z];exact nit b u e
  ·exact nit c _ z
theorem Inv.tok (I:Inv X pins σ H s) (t:Nat):Inv X pins σ H { s with toks:=t }:=I.un (h':=s.heap) (t':=t) Un.refl I.hok
theorem Inv.kept {t':Nat}(I:Inv X pins σ H s) (k:∀b u,s.heap.get? b=some u->h'.get? b=some u):Inv X pins σ H { s with heap:=h',toks:=t' }:=I.un (Un.kept k) (I.hok.kept k)
theorem Inv.laid {a:Addr}{o:HO}{t':Nat}(I:Inv X pins σ H s) (k:∀b u,s.heap.get? b=some u->h'.get? b=some u) (hp:s.heap.objs.size≤a) (new:ObjOk X.prog X.w (upd H a o) h' a o) :
 Inv X pins σ (upd H a o) { s with heap:=h',toks:=t' }:=I.un (Un.laid k hp (I.hok.fresh hp)) (I.hok.laid k hp new)
theorem Inv.write {x e:Addr}{o:HO}{t':Nat}(I:Inv X pins σ H s) (mu:Mut (H x)) (he:e=x∨H e=some (.own x)) (k:∀b u,b≠e->s.heap.get? b=some u->h'.get? b=some u) (heo:∃u,h'.get? e=some u)
 (new:ObjOk X.prog X.w (upd H x o) h' x o):Inv X pins σ (upd H x o) { s with heap:=h',toks:=t' }:=I.un (Un.write mu he k heo) (I.hok.write mu he k heo new)
theorem Inv.weak {σ':List (Option V)}(I:Inv X pins σ H s) (hl:σ'.length=σ.length) (w:∀(i:Nat) v,σ'[i]?=some (some v)->σ[i]?=some (some v)):Inv X pins σ' H s :=
 ⟨I.ok,I.os,I.bare,I.base,let ⟨m,hn,hl'⟩:=I.loc;⟨m,hn,λi x v e1 e2 e3=>hl' i x v e1 (w i v e2) e3⟩,I.cell,I.free,I.freeC,I.pin,I.hok,hl.trans I.len⟩
theorem Inv.pins_of {pins':List (Addr×Obj)}(I:Inv X pins σ H s) (h:∀p∈pins',s.heap.get? p.1=some p.2/\H p.1=none/\p.1≠X.env.locals/\p.1∉X.fs/\∀v,p.2.data≠.cell v):Inv X pins' σ H s :=
 ⟨I.ok,I.os,I.bare,I.base,I.loc,I.cell,I.free,I.freeC,λp hp=>(K0w.mp hp).elim (λz=>I.pin p (K2p _ z)) (h p),I.hok,I.len⟩
theorem z7c {N:List Str}(hN:N.Nodup) {i j:Nat}{x:Str}(a:N[i]?=some x) (b:N[j]?=some x):i=j:=by
 obtain ⟨h1,e1⟩:=K5.mp a
 obtain ⟨h2,e2⟩:=K5.mp b
 exact (Z06 hN).mp (e1.trans e2.symm)
theorem z8G {M:Model}{A:Around}{E:Value->Shared->Prop}{i:Nat}{x:Str}{v:V}{u:Value}{Q:Unit->Shared->Prop}(I:Inv X pins σ H s) (hN:X.N.Nodup) (hi:X.N[i]?=some x) (hx:Loc X.env.scope x) (r:RelV v u)
 (h:∀s',Inv X pins (σ.set i (some v)) H s'->(∃a,K2z a s.heap s'.heap/\(a=X.env.locals∨X.env.cells.lookup x=some a))->Q () s') (hf:X.fn x=true∨X.env.scope.names.lookup x=some .local:=by first|exact .inl rfl|exact .inr rfl|assumption):wpAny M A (storeName X.env x u) Q E s:=by
 obtain ⟨m,hn,hl⟩:=id I.loc
 have hcls:(X.env.scope.kind==.class||(X.env.scope.kind==.module&&X.env.locals != X.env.globals))=false:=by rw [I.ok.kind];rfl
 have hiσ:i<σ.length:=by rw [I.len];exact (K5.mp hi).1
 have cne:=I.cne
 have tracked:∀{a:Addr} {h':Heap},(∃o,s.heap.get? a=some o/\H a=none)->K2z a s.heap h'->HOk X.prog X.w H h':=λ{a h'} ha hs b ob e=>by
  obtain ⟨_,_,hfree⟩:=ha
  refine (I.hok b ob e).stay (λc w' hc q=>(hs.2 c ?_).trans q) (λ_ q=>q) λ_ _ q=>q
  rintro rfl
  rcases hc with rfl|hc
  ·rw [hfree] at e;cases e
  ·rw [hfree] at hc;cases hc
 rcases hx with hk|hk
 ·refine wpAny_storeName_local hk hn (λh' hn' hs=>?_) hcls
  obtain ⟨oL,_,_,hoL,_⟩:=id hn
  refine h _ ⟨I.ok,I.os,I.bare,⟨λb o e n hb hx=>?_,λb o e n hb hx=>?_,I.base.free,λb o e hx=>?_,I.base.tups,I.base.frzs,I.base.tbls⟩,⟨_,hn',λj y v' e1 e2 e3=>?_⟩,λy c e=>?_,I.free,I.freeC,λp hp=>?_,tracked ⟨oL,hoL,I.free⟩ hs,by simpa using I.len⟩ ⟨_,hs,.inl rfl⟩
  ·exact (hs.2 b (K0p (K0l (K06 e) I.ok.above))).trans (I.base.keep b o e n hb hx)
  ·obtain ⟨sl,e1⟩:=I.base.slot b o e n hb hx
   exact ⟨sl,(hs.2 b (K0p (K0l (K06 e) I.ok.above))).trans e1⟩
  ·obtain ⟨o',e1⟩:=I.base.there b o e hx
   exact ⟨o',(hs.2 b (K0p (K0l (K06 e) I.ok.above))).trans e1⟩
  ·by_cases hj:j=i
   ·subst hj
    rw [hi] at e1;cases e1
    rw [K19 hiσ] at e2
    cases e2
    exact ⟨u,r,.inl ⟨hk,by simp⟩⟩
   ·rw [K15 (K4p hj)] at e2
    obtain ⟨u',r',q⟩:=hl j y v' e1 e2 e3
    refine ⟨u',r',?_⟩
    rcases q with ⟨k,e⟩|⟨k,c,e,z⟩
    ·refine .inl ⟨k,?_⟩
     have:y≠x:=λe=>hj (z7c hN e1 (e ▸ hi))
     simp [this,e]
    ·exact .inr ⟨k,c,e,z.sameBut hs (cne y c e)⟩
  ·obtain ⟨w',z⟩:=I.cell y c e
   exact ⟨w',z.sameBut hs (cne y c e)⟩
  ·obtain ⟨e,n,ne,nf,d⟩:=I.pin p hp
   exact ⟨(hs.2 p.1 ne).trans e,n,ne,nf,d⟩
 ·have hfn:X.fn x=true:=by
   rcases hf with z|z
   ·exact z
   ·rw [z] at hk;cases hk
  obtain ⟨c,hc⟩:=I.ok.has x (.inl hk)
  obtain ⟨w',z⟩:=I.cell x c hc
  refine wpAny_storeName_cell I.ok.kind hk hc z (λh' hc' hs=>?_)
  obtain ⟨oc,hoc,hocd⟩:=id z
  refine h { s with heap:=h' } ⟨I.ok,I.os,I.bare,⟨λb o e n hb hx=>?_,λb o e n hb hx=>?_,I.base.free,λb o e hx=>?_,I.base.tups,I.base.frzs,I.base.tbls⟩,⟨m,hn.sameBut hs (K4p (cne x c hc)),λj y v' e1 e2 e3=>?_⟩,λy c' e=>?_,I.free,I.freeC,λp hp=>?_,tracked ⟨oc,hoc,I.freeC x c hc⟩ hs,by simpa using I.len⟩ ⟨c,hs,.inr hc⟩
  ·exact (hs.2 b (K0p (K0l (K06 e) (I.ok.cab x c hfn hc)))).trans (I.base.keep b o e n hb hx)
  ·obtain ⟨sl,e1⟩:=I.base.slot b o e n hb hx
   exact ⟨sl,(hs.2 b (K0p (K0l (K06 e) (I.ok.cab x c hfn hc)))).trans e1⟩
  ·obtain ⟨o',e1⟩:=I.base.there b o e hx
   exact ⟨o',(hs.2 b (K0p (K0l (K06 e) (I.ok.cab x c hfn hc)))).trans e1⟩
  ·by_cases hj:j=i
   ·subst hj
    rw [hi] at e1;cases e1
    rw [K19 hiσ] at e2
    cases e2
    exact ⟨u,r,.inr ⟨.inl hk,c,hc,hc'⟩⟩
   ·rw [K15 (K4p hj)] at e2
    obtain ⟨u',r',q⟩:=hl j y v' e1 e2 e3
    refine ⟨u',r',?_⟩
    rcases q with q|⟨k,c',e,z'⟩
    ·exact .inl q
    ·refine .inr ⟨k,c',e,z'.sameBut hs ?_⟩
     rintro rfl
     exact hj (z7c hN e1 (I.ok.inj _ _ _ e hc ▸ hi))
  ·by_cases hcc:c'=c
   ·subst hcc;exact ⟨_,hc'⟩
   ·obtain ⟨w2,z2⟩:=I.cell y c' e
    exact ⟨w2,z2.sameBut hs hcc⟩
  ·obtain ⟨e,n,ne,nf,d⟩:=I.pin p hp
   refine ⟨(hs.2 p.1 ?_).trans e,n,ne,nf,d⟩
   intro q
   rw [q,hoc] at e
   have q':oc=p.2:=K13 e
   exact d w' (by rw [← q'];exact hocd)
theorem z7r {M:Model}{A:Around}{E:Value->Shared->Prop}{i:Nat}{x:Str}{v:V}{u:Value}{Q:Unit->Shared->Prop}(I:Inv X pins σ H s) (hN:X.N.Nodup) (hi:X.N[i]?=some x) (hx:Loc X.env.scope x) (r:RelV v u)
 (h:∀s',Inv X pins (σ.set i (some v)) H s'->Q () s') (hf:X.fn x=true∨X.env.scope.names.lookup x=some .local:=by first|exact .inl rfl|exact .inr rfl|assumption):wpAny M A (storeName X.env x u) Q E s :=
 z8G I hN hi hx r (λs' I' _=>h s' I') hf
theorem Inv.call' {s':Shared}{ch:List Addr}(I:Inv X pins σ H s) (ho:s'.os=s.os) (u:Un (frs X.stack) ch H H' s.heap s'.heap) (hok:HOk X.prog X.w H' s'.heap) (hg:K6b s'.gens)
 (hch:∀b∈ch,(b∈X.ex∨X.s₀.heap.objs.size≤b)/\b≠X.env.locals/\(∀x c,X.env.cells.lookup x=some c->c≠b)/\∀p∈X.pn++pins,p.1≠b):Inv X pins σ H' s':=by
 obtain ⟨h',g',d',t',o'⟩:=s'
 have e:o'=s.os:=ho
 subst e
 exact I.call (g':=g') (t':=t') (d':=d') u hok hg hch
end
abbrev XK:=Value->Option Addr->Hp->Prop
abbrev St:=List (Option V)
abbrev VK:=V->Hp->Prop
abbrev TE:=St->Hp->VK->Prop
abbrev TT:=St->Hp->(Bool->Hp->Prop)->Prop
abbrev TA:=St->Hp->(List V->Hp->Prop)->Prop
structure Ends where
 nx:St->Hp->Prop
 rt:VK
 bk:St->Hp->Prop:=λ_ _=>False
 ct:St->Hp->Prop:=λ_ _=>False
abbrev TS:=Ends->St->Hp->Prop
def EP (X:Cx) (pins:List (Addr×Obj)) (σ:St) (Q:VK) (u:Value) (s':Shared):Prop:=∃v H',Inv X pins σ H' s'/\RelV v u/\Q v H'
def TP (X:Cx) (pins:List (Addr×Obj)) (σ:St) (Q:Bool->Hp->Prop) (b:Bool) (s':Shared):Prop:=∃H',Inv X pins σ H' s'/\Q b H'
def AP (X:Cx) (pins:List (Addr×Obj)) (σ:St) (Q:List V->Hp->Prop) (us:List Value) (s':Shared):Prop:=∃vs H',Inv X pins σ H' s'/\Vals vs us/\Q vs H'
def SP (X:Cx) (pins:List (Addr×Obj)) (D:Ends) (f:Flow) (s':Shared):Prop :=
 match f with
 | .next=>∃σ' H',Inv X pins σ' H' s'/\D.nx σ' H'
 | .brk=>∃σ' H',Inv X pins σ' H' s'/\D.bk σ' H'
 | .cont=>∃σ' H',Inv X pins σ' H' s'/\D.ct σ' H'
 | .ret u=>∃v σ' H',Inv X pins σ' H' s'/\RelV v u/\D.rt v H'
def PE (X:Cx) (e:Expr) (t:TE):Prop :=
 ∀(pins:List (Addr×Obj)) (s:Shared) (σ:St) (H:Hp) (Q:VK),Inv X pins σ H s->t σ H Q->wpAny (model X.prog X.w) X.A (eval e X.env) (EP X pins σ Q) X.xe s
def PT (X:Cx) (e:Expr) (t:TT):Prop :=
 ∀(pins:List (Addr×Obj)) (s:Shared) (σ:St) (H:Hp) (Q:Bool->Hp->Prop),Inv X pins σ H s->t σ H Q->wpAny (model X.prog X.w) X.A (isTrue e X.env (eval e X.env)) (TP X pins σ Q) X.xe s
def PW (X:Cx) (e:Expr) (t:TT):Prop :=
 ∀(whole:Sem Value) (pins:List (Addr×Obj)) (s:Shared) (σ:St) (H:Hp) (Q:Bool->Hp->Prop),Inv X pins σ H s->t σ H Q->wpAny (model X.prog X.w) X.A (isTrue e X.env whole) (TP X pins σ Q) X.xe s
theorem PW.pt {X:Cx}{e:Expr}{t:TT}(h:PW X e t):PT X e t:=h _
def PA (X:Cx) (es:List Expr) (t:TA):Prop :=
 ∀(pos:Pos) (pins:List (Addr×Obj)) (s:Shared) (σ:St) (H:Hp) (Q:List V->Hp->Prop),Inv X pins σ H s->t σ H Q->wpAny (model X.prog X.w) X.A (spliced (backTo pos (K0b es X.env))) (AP X pins σ Q) X.xe s
def PS (X:Cx) (st:Stmt) (t:TS):Prop :=
 ∀(pins:List (Addr×Obj)) (s:Shared) (σ:St) (H:Hp) (D:Ends),Inv X pins σ H s->t D σ H->wpAny (model X.prog X.w) X.A (exec st X.env) (SP X pins D) X.xe s
def PSs (X:Cx) (st:List Stmt) (t:TS):Prop :=
 ∀(pins:List (Addr×Obj)) (s:Shared) (σ:St) (H:Hp) (D:Ends),Inv X pins σ H s->t D σ H->wpAny (model X.prog X.w) X.A (execs st X.env) (SP X pins D) X.xe s
theorem thn {α:Type}{t:Sem α}{Q Q':α->Shared->Prop}{M:Model}{A:Around}{E:Value->Shared->Prop}{s:Shared}(h:wpAny M A t Q E s) (hQ:∀a s,Q a s->Q' a s):wpAny M A t Q' E s:=K3p h hQ λ_ _ x=>x
section
variable {X:Cx}
def tVar (i:Nat):TE:=λσ H Q=>∃v,σ[i]?=some (some v)/\Q v H
def tC (v:V):TE:=λ_ H Q=>Q v H
theorem zI9 {i:Nat}{x:Str}{pos:Pos}(hN:X.N[i]?=some x) (hv:Vis X.env.scope x) (hd:(x==("__debug__":Str))=false:=by decide) (hcd:(x==("__classdict__":Str))=false:=by decide):PE X (.Name x pos) (tVar i):=by
 intro pins s σ H Q I h
 obtain ⟨v,e,h⟩:=h
 obtain ⟨m,hn,hl⟩:=I.loc
 obtain ⟨u,r,l⟩:=hl i x v hN e hv
 have fin:EP X pins σ Q u s:=⟨v,H,I,r,h⟩
 rcases l with ⟨hk,hm⟩|⟨hk,c,hc,hcell⟩
 ·exact wpAny_Name (wpAny_loadName_local I.ok.kind hk hn hm fin) hd
 ·rcases hk with hk|hk
  ·exact wpAny_Name (wpAny_loadName_cell I.ok.kind hk hc hcell fin) hd
  ·exact wpAny_Name (wpAny_loadName_free I.ok.kind hk hc hcell fin hcd) hd
theorem zH2 {i j pos}:PE X (.Constant (.int i) j pos) (tC (.int i)):=λ_ _ _ H _ I h=>wpAny_Constant_int ⟨.int i,H,I.tok _,⟨_,rfl⟩,h⟩
theorem zP8 {b j pos}:PE X (.Constant (.bool b) j pos) (tC (.bl b)):=λ_ _ _ H _ I h=>Constant_bool ⟨.bl b,H,I,rfl,h⟩
theorem zL2 {j pos}:PE X (.Constant .none j pos) (tC .non):=λ_ _ _ H _ I h=>Constant_none ⟨.non,H,I,rfl,h⟩
theorem zF1 {x j pos}:PE X (.Constant (.str x) j pos) (tC (.str x)):=λ_ _ _ H _ I h=>Calls.Constant_str ⟨.str x,H,I.tok _,⟨_,rfl⟩,h⟩
def Gl (X:Cx) (x:Str):Prop:=X.env.kindOf x=some .globalImplicit
theorem z9b {E:Value->Shared->Prop}{pins:List (Addr×Obj)}{s:Shared}{σ:St}{H:Hp}{x:Str}{u:Value}{pos:Pos}{Q:Value->Shared->Prop}(I:Inv X pins σ H s) (hg:Gl X x) (hm:X.mg x=some u) (h:Q u s)
 (hd:(x==("__debug__":Str))=false:=by decide):wpAny (model X.prog X.w) X.A (eval (.Name x pos) X.env) Q E s :=
 K6n I.ok.kind hg (Calls.loadGlobal_global (by rw [I.ok.glob];exact I.mod.glob.keeps I.bk) hm h) hd
theorem z4R {E:Value->Shared->Prop}{pins:List (Addr×Obj)}{s:Shared}{σ:St}{H:Hp}{x:Str}{u:Value}{pos:Pos}{Q:Value->Shared->Prop}(I:Inv X pins σ H s) (hg:Gl X x) (hm:X.mg x=none) (hv:K4q x=some u) (h:Q u s)
 (hn:x≠"__name__":=by decide) (hd:(x==("__debug__":Str))=false:=by decide):wpAny (model X.prog X.w) X.A (eval (.Name x pos) X.env) Q E s:=by
 obtain ⟨mb,h1,h2⟩:=I.mod.blt
 exact K6n I.ok.kind hg (Calls.loadGlobal_builtin (by rw [I.ok.glob];exact I.mod.glob.keeps I.bk) hm (by rw [I.ok.blt];exact h1.keeps I.bk) ((h2 x hn).trans hv) h) hd
theorem zt0 {x:Str}{v:V}{u:Value}{pos:Pos}(hg:Gl X x) (hm:X.mg x=some u) (r:RelV v u) (hd:(x==("__debug__":Str))=false:=by decide):PE X (.Name x pos) (tC v) :=
 λ_ _ _ H _ I h=>z9b I hg hm ⟨v,H,I,r,h⟩ hd
theorem zu1 {x:Str}{v:V}{u:Value}{pos:Pos}(hg:Gl X x) (hm:X.mg x=none) (hv:K4q x=some u) (r:RelV v u) (hn:x≠"__name__":=by decide) (hd:(x==("__debug__":Str))=false:=by decide):PE X (.Name x pos) (tC v) :=
 λ_ _ _ H _ I h=>z4R I hg hm hv ⟨v,H,I,r,h⟩ hn hd
variable {a b:Expr}{ta tb:TE}{pos:Pos}
def tB (t:TE):TT:=λσ H Q=>t σ H λx H1=>∃c,x=.bl c/\Q c H1
variable {tA tB':TT}{rest:List Expr}
def tAnd (t u:TT):TT:=λσ H Q=>t σ H λc H1=>if c=true then u σ H1 Q else Q false H1
def tOr (t u:TT):TT:=λσ H Q=>t σ H λc H1=>if c=true then Q true H1 else u σ H1 Q
def tNot (t:TT):TT:=λσ H Q=>t σ H λc H1=>Q (!c) H1
theorem zs9 (ha:PT X a tA):PW X (.BoolOp .And [a] pos) tA:=by
 intro wh pins s σ H Q I h
 refine isTrue_and (thn (ha pins s σ H Q I h) λc s1 e=>?_)
 cases c with
 | true=>exact isTrue_and_nil e
 | false=>exact e
theorem zG4 (ha:PT X a tA):PW X (.BoolOp .Or [a] pos) tA:=by
 intro wh pins s σ H Q I h
 refine isTrue_or (thn (ha pins s σ H Q I h) λc s1 e=>?_)
 cases c with
 | false=>exact isTrue_or_nil e
 | true=>exact e
theorem zD4 (ha:PT X a tA) (hb:PW X (.BoolOp .And (b::rest) pos) tB'):PW X (.BoolOp .And (a::b::rest) pos) (tAnd tA tB'):=by
 intro wh pins s σ H Q I h
 refine isTrue_and (thn (ha pins s σ H _ I h) λc s1 ⟨H1,I1,q1⟩=>?_)
 cases c with
 | true=>exact hb wh pins s1 σ H1 Q I1 q1
 | false=>exact ⟨H1,I1,q1⟩
theorem zS2 (ha:PT X a tA) (hb:PW X (.BoolOp .Or (b::rest) pos) tB'):PW X (.BoolOp .Or (a::b::rest) pos) (tOr tA tB'):=by
 intro wh pins s σ H Q I h
 refine isTrue_or (thn (ha pins s σ H _ I h) λc s1 ⟨H1,I1,q1⟩=>?_)
 cases c with
 | true=>exact ⟨H1,I1,q1⟩
 | false=>exact hb wh pins s1 σ H1 Q I1 q1
theorem zK6 (ha:PT X a tA):PT X (.UnaryOp .Not a pos) (tNot tA):=by
 intro pins s σ H Q I h
 exact isTrue_not (ha pins s σ H (λc H1=>Q (!c) H1) I h)
def zQ9 (ta tb:TE):TE:=λσ H Q=>ta σ H λx H1=>∃c,x=.bl c/\if c=true then tb σ H1 Q else Q (.bl false) H1
def tOrV (ta tb:TE):TE:=λσ H Q=>ta σ H λx H1=>∃c,x=.bl c/\if c=true then Q (.bl true) H1 else tb σ H1 Q
def zS3 (ta:TE):TE:=λσ H Q=>ta σ H λx H1=>∃c,x=.bl c/\Q (.bl (!c)) H1
theorem zJ5 {op}{t:TE}(h:PE X a t):PE X (.BoolOp op [a] pos) t:=λpins s σ H Q I hw=>BoolOp_one (h pins s σ H Q I hw)
theorem zK9 (ha:PE X a ta) (hb:PE X (.BoolOp .And (b::rest) pos) tb):PE X (.BoolOp .And (a::b::rest) pos) (zQ9 ta tb):=by
 intro pins s σ H Q I h
 refine BoolOp_and (thn (ha pins s σ H _ I h) λv s1 ⟨x,H1,I1,r1,q1⟩=>?_)
 obtain ⟨c,rfl,q1⟩:=q1
 cases r1
 refine K1y ?_
 cases c with
 | true=>exact hb pins s1 σ H1 Q I1 q1
 | false=>exact ⟨.bl false,H1,I1,rfl,q1⟩
theorem zP2 (ha:PE X a ta) (hb:PE X (.BoolOp .Or (b::rest) pos) tb):PE X (.BoolOp .Or (a::b::rest) pos) (tOrV ta tb):=by
 intro pins s σ H Q I h
 refine BoolOp_or (thn (ha pins s σ H _ I h) λv s1 ⟨x,H1,I1,r1,q1⟩=>?_)
 obtain ⟨c,rfl,q1⟩:=q1
 cases r1
 refine K1y ?_
 cases c with
 | false=>exact hb pins s1 σ H1 Q I1 q1
 | true=>exact ⟨.bl true,H1,I1,rfl,q1⟩
theorem zF6 (ha:PE X a ta):PE X (.UnaryOp .Not a pos) (zS3 ta):=by
 intro pins s σ H Q I h
 refine UnaryOp_ (thn (ha pins s σ H _ I h) λv s1 ⟨x,H1,I1,r1,q1⟩=>?_)
 obtain ⟨c,rfl,q1⟩:=q1
 cases r1
 exact not_of (K1y ⟨.bl (!c),H1,I1,rfl,q1⟩)
end
def SqL (K:K1) (H:Hp) (a:Addr) (xs:List V):Prop :=
 Rd H a (.lst xs) ∨
  ∃(o:Obj) (its:Array Value) (n:Nat),K.lookup a=some o/\o.cls=.type "list"/\o.dict=none/\o.data=.seq its n/\its.size≤sizeLine/\Vals xs its.toList
def SqT (K:K1) (H:Hp) (a:Addr) (xs:List V):Prop :=
 Rd H a (.tup xs) ∨
  ∃(o:Obj) (its:Array Value) (n:Nat),K.lookup a=some o/\(o.cls=.type "tuple"/\o.dict=none)/\o.data=.seq its n/\its.size≤sizeLine/\Vals xs its.toList
def absV:Value->Option V
 | .none=>some .non
 | .bool b=>some (.bl b)
 | .int i _=>some (.int i)
 | .str x _=>some (.str x)
 | .bytes b _=>some (.byt b)
 | .float b _=>some (.flt b)
 | .ref a=>some (.ref a)
 | .type n=>some (.ty n)
 | _=>none
theorem RelV.abs {x:V}{u:Value}(r:RelV x u):absV u=some x:=by
 cases x with
 | non=>cases r;rfl
 | bl _=>cases r;rfl
 | int _=>obtain ⟨t,rfl⟩:=r;rfl
 | str _=>obtain ⟨t,rfl⟩:=r;rfl
 | byt _=>obtain ⟨t,rfl⟩:=r;rfl
 | flt _=>obtain ⟨t,rfl⟩:=r;rfl
 | ref _=>cases r;rfl
 | ty _=>cases r;rfl
theorem RelV.inj {x y:V}{u:Value}(r:RelV x u) (q:RelV y u):x=y:=K13 (r.abs.symm.trans q.abs)
theorem Vals.inj:∀{xs ys:List V}{us:List Value},Vals xs us->Vals ys us->xs=ys
 | _,_,_,.nil,.nil=>rfl
 | _,_,_,.cons r t,.cons r' t'=>by rw [r.inj r',Vals.inj t t']
section
variable {X:Cx}{pins:List (Addr×Obj)}{σ:St}{H:Hp}{s:Shared}{a:Addr}{xs ys:List V}
theorem SqL.of {K:K1}(h:H a=.(l xs)):SqL K H a xs:=.inl (.inl h)
theorem SqT.of {K:K1}(h:H a=.(g xs)):SqT K H a xs:=.inl (.inl h)
theorem Inv.list (I:Inv X pins σ H s) (h:SqL X.K H a xs):∃its:List Value,Vals xs its/\PlainL s.heap a its.toArray/\xs.length≤sizeLine:=by
 rcases h with h|⟨o,its,n,hk,hc,hd,hs,hz,r⟩
 ·obtain ⟨z,its,n,r,e⟩:=h.ok I.hok
  exact ⟨its,r,⟨_,n,e,rfl,rfl,rfl⟩,z⟩
 ·refine ⟨its.toList,r,⟨o,n,I.kIn a o hk,hc,hd,by simpa using hs⟩,?_⟩
  have e:=r.length
  simp only [K17] at e
  omega
theorem Inv.tuple (I:Inv X pins σ H s) (h:SqT X.K H a xs):∃its:List Value,Vals xs its/\IsTup s.heap a its.toArray/\xs.length≤sizeLine:=by
 rcases h with h|⟨o,its,n,hk,hc,hs,hz,r⟩
 ·obtain ⟨z,its,r,p⟩:=h.ok I.hok
  exact ⟨its,r,p.tup,z⟩
 ·refine ⟨its.toList,r,⟨o,I.kIn a o hk,hc.1,n,by simpa using hs⟩,?_⟩
  have e:=r.length
  simp only [K17] at e
  omega
theorem Inv.list_inj (I:Inv X pins σ H s) (h:SqL X.K H a xs) (h':SqL X.K H a ys):xs=ys:=by
 obtain ⟨its,r,⟨o,n,e,_,_,d⟩,_⟩:=I.list h
 obtain ⟨its',r',⟨o',n',e',_,_,d'⟩,_⟩:=I.list h'
 rw [e] at e';cases e'
 rw [d] at d'
 injection d' with d1 _
 have:its=its':=by simpa using congrArg K9f d1
 subst this
 exact r.inj r'
theorem Inv.tuple_inj (I:Inv X pins σ H s) (h:SqT X.K H a xs) (h':SqT X.K H a ys):xs=ys:=by
 obtain ⟨its,r,⟨o,e,_,n,d⟩,_⟩:=I.tuple h
 obtain ⟨its',r',⟨o',e',_,n',d'⟩,_⟩:=I.tuple h'
 rw [e] at e';cases e'
 rw [d] at d'
 injection d' with d1 _
 have:its=its':=by simpa using congrArg K9f d1
 subst this
 exact r.inj r'
end
abbrev Cx.wish (X:Cx) (E:Value->Shared->Prop):Cx:={ X with xe:=E }
abbrev Cx.nox (X:Cx):Cx:=X.wish λ_ _=>False
theorem Cx.Ok.wish {X:Cx}(ok:X.Ok) (E:Value->Shared->Prop):(X.wish E).Ok :=
 ⟨ok.mod,ok.kind,ok.glob,ok.blt,ok.above,ok.inj,ok.has,ok.cab,ok.hd,ok.frames,ok.stk,ok.exf,ok.bs,ok.bsz,ok.noex,ok.exfs,ok.funs,ok.frf⟩
theorem Cx.Ok.unwish {X:Cx}{E:Value->Shared->Prop}(ok:(X.wish E).Ok):X.Ok :=
 ⟨ok.mod,ok.kind,ok.glob,ok.blt,ok.above,ok.inj,ok.has,ok.cab,ok.hd,ok.frames,ok.stk,ok.exf,ok.bs,ok.bsz,ok.noex,ok.exfs,ok.funs,ok.frf⟩
section
variable {X:Cx}{pins:List (Addr×Obj)}{σ:St}{H:Hp}{s:Shared}{E:Value->Shared->Prop}
theorem Inv.wish (I:Inv X pins σ H s) (E:Value->Shared->Prop):Inv (X.wish E) pins σ H s:=⟨I.ok.wish E,I.os,I.bare,I.base,I.loc,I.cell,I.free,I.freeC,I.pin,I.hok,I.len⟩
theorem Inv.unwish (I:Inv (X.wish E) pins σ H s):Inv X pins σ H s:=⟨I.ok.unwish,I.os,I.bare,I.base,I.loc,I.cell,I.free,I.freeC,I.pin,I.hok,I.len⟩
theorem SP.unwish {D:Ends}{f:Flow}{s':Shared}(h:SP (X.wish E) pins D f s'):SP X pins D f s':=by
 cases f with
 | next=>obtain ⟨σ',H',I,q⟩:=h;exact ⟨σ',H',I.unwish,q⟩
 | brk=>obtain ⟨σ',H',I,q⟩:=h;exact ⟨σ',H',I.unwish,q⟩
 | cont=>obtain ⟨σ',H',I,q⟩:=h;exact ⟨σ',H',I.unwish,q⟩
 | ret u=>obtain ⟨v,σ',H',I,r,q⟩:=h;exact ⟨v,σ',H',I.unwish,r,q⟩
theorem PSs.nox {st:List Stmt}{t:TS}(h:PSs X.nox st t):PSs X st t:=λpins s σ H D I hw =>
 K3p (h pins s σ H D (I.wish _) hw) (λ_ _ q=>q.unwish) λ_ _ z=>K3o z
end
section
variable {X:Cx}{st:Stmt}{rest:List Stmt}{t u:TS}{e:Expr}{te:TE}{pos:Pos}
def zT8:TS:=λD σ H=>D.nx σ H
def tSeq (t u:TS):TS:=λD σ H=>t { D with nx:=u D } σ H
theorem zv1:PSs X [] zT8:=λ_ _ σ H _ I h=>K8e ⟨σ,H,I,h⟩
theorem zd3 (h1:PS X st t) (h2:PSs X rest u):PSs X (st::rest) (tSeq t u):=by
 intro pins s σ H D I h
 refine wpAny_execs_cons (thn (h1 pins s σ H { D with nx:=u D } I h) λf s1 q=>?_)
 cases f with
 | next =>
  obtain ⟨σ',H',I',q⟩:=q
  exact h2 pins s1 σ' H' D I' q
 | ret v=>exact q
 | brk=>exact q
 | cont=>exact q
theorem Inv.quiet {pins:List (Addr×Obj)}{σ:St}{H:Hp}{s:Shared}(I:Inv X pins σ H s):interactive X.env=false:=by simp [interactive,I.ok.kind]
def zR5 (te:TE):TS:=λD σ H=>te σ H λ_ H1=>D.nx σ H1
theorem zy3 (he:PE X e te) (hs:K1v e none pos.line X.env=pure false:=by rfl):PS X (.Expr e pos) (zR5 te):=by
 intro pins s σ H D I h
 exact wpAny_Expr_any (thn (he pins s σ H _ I h) λv s1 ⟨x,H1,I1,r1,q1⟩=>⟨σ,H1,I1,q1⟩) I.quiet hs
def tRet (te:TE):TS:=λD σ H=>te σ H D.rt
theorem zO3 (he:PE X e te):PS X (.Return (some e) pos) (tRet te):=by
 intro pins s σ H D I h
 exact wpAny_Return_some (thn (he pins s σ H _ I h) λv s1 ⟨x,H1,I1,r1,q1⟩=>⟨x,σ,H1,I1,r1,q1⟩)
def tIfS (c:TT) (t u:TS):TS:=λD σ H=>c σ H λb H1=>if b=true then t D σ H1 else u D σ H1
theorem zT4 {c:Expr}{a b:List Stmt}{tc:TT}(hc:PT X c tc) (ha:PSs X a t) (hb:PSs X b u):PS X (.If c a b pos) (tIfS tc t u):=by
 intro pins s σ H D I h
 refine wpAny_If (thn (hc pins s σ H _ I h) λd s1 ⟨H1,I1,q1⟩=>?_)
 cases d with
 | true=>exact ha pins s1 σ H1 D I1 q1
 | false=>exact hb pins s1 σ H1 D I1 q1
end
abbrev TG:=V->St->Hp->(St->Hp->Prop)->Prop
abbrev TGs:=List V->St->Hp->(St->Hp->Prop)->Prop
def PG (X:Cx) (target:Expr) (t:TG):Prop :=
 ∀(pins:List (Addr×Obj)) (s:Shared) (σ:St) (H:Hp) (v:V) (u:Value) (Q:St->Hp->Prop),Inv X pins σ H s->RelV v u->t v σ H Q ->
  wpAny (model X.prog X.w) X.A (assign target X.env u) (λ_ s'=>∃σ' H',Inv X pins σ' H' s'/\Q σ' H') X.xe s
def PGs (X:Cx) (ts:List Expr) (t:TGs):Prop :=
 ∀(pins:List (Addr×Obj)) (s:Shared) (σ:St) (H:Hp) (vs:List V) (us:List Value) (Q:St->Hp->Prop),Inv X pins σ H s->Vals vs us->t vs σ H Q ->
  wpAny (model X.prog X.w) X.A (assignInOrder ((K2c ts X.env).map (·.2)) us) (λ_ s'=>∃σ' H',Inv X pins σ' H' s'/\Q σ' H') X.xe s
abbrev TSet:=V->V->V->Hp->(Hp->Prop)->Prop
def PSet (X:Cx) (t:TSet):Prop :=
 ∀(pins:List (Addr×Obj)) (s:Shared) (σ:St) (H:Hp) (o i v:V) (ov iv u:Value) (Q:Hp->Prop),Inv X pins σ H s->RelV o ov->RelV i iv->RelV v u->t o i v H Q ->
  wpAny (model X.prog X.w) X.A (Z0h ov iv u) (λ_ s'=>∃H',Inv X pins σ H' s'/\Q H') X.xe s
section
variable {X:Cx}{pos:Pos}
def zN7 (i:Nat):TG:=λv σ H Q=>Q (σ.set i (some v)) H
theorem z6V {i:Nat}{x:Str}(hN:X.N.Nodup) (hi:X.N[i]?=some x) (hx:Loc X.env.scope x) (hf:X.fn x=true∨X.env.scope.names.lookup x=some .local:=by first|exact .inl rfl|exact .inr rfl|assumption):PG X (.Name x pos) (zN7 i):=by
 intro pins s σ H v u Q I r h
 exact wpAny_assign_Name (z7r I hN hi hx r (λs' I'=>⟨_,H,I',h⟩) hf)
def gNil:TGs:=λvs σ H Q=>vs=[]/\Q σ H
def zS4 (t:TG) (u:TGs):TGs:=λvs σ H Q=>∃v r,vs=v::r/\t v σ H λσ' H'=>u r σ' H' Q
theorem z9c:PGs X [] gNil:=by
 intro pins s σ H vs us Q I r h
 obtain ⟨e,h⟩:=h
 subst e
 cases r
 exact assignInOrder_nil ⟨σ,H,I,h⟩
theorem z7J {e:Expr}{es:List Expr}{t:TG}{u:TGs}(h1:PG X e t) (h2:PGs X es u)
 (hs:(K2c (e::es) X.env).map (·.2)=assign e X.env::(K2c es X.env).map (·.2):=by rfl):PGs X (e::es) (zS4 t u):=by
 intro pins s σ H vs us Q I r h
 obtain ⟨v,vr,e1,h⟩:=h
 subst e1
 cases r with
 | cons r rr =>
  rw [hs]
  refine assignInOrder_cons (thn (h1 pins s σ H _ _ _ I r h) λ_ s1 ⟨σ1,H1,I1,q1⟩=>?_)
  exact h2 pins s1 σ1 H1 _ _ Q I1 rr q1
def gTup (K:K1) (n:Nat) (t:TGs):TG:=λv σ H Q=>∃a xs,v=.ref a/\SqT K H a xs/\xs.length=n/\t xs σ H Q
theorem zp8 {es:List Expr}{k:Nat}{t:TGs}{n:Nat}(hc:X.calm=true) (h:PGs X es t)
 (hn:(K2c es X.env).length=n:=by rfl) (hst:(K2c es X.env).findIdx? (·.1)=none:=by rfl):PG X (.Tuple es k pos) (gTup X.K n t):=by
 intro pins s σ H v u Q I r hw
 obtain ⟨a,xs,e1,hq,hl,hw⟩:=hw
 subst e1
 cases r
 obtain ⟨its,rv,ht,hz⟩:=I.tuple hq
 refine assign_Tuple_tuple (I.ok.hd hc) ht (by simp [hn,← hl,rv.length]) hst λh' hx=>?_
 have I1:Inv X pins σ H { s with heap:=h' }:=I.kept (t':=s.toks) λb o e=>hx b o (K0p (K06 e)) e
 exact h pins _ σ H xs _ Q I1 (by simpa using rv) hw
def gSub (to ti:TE) (t:TSet):TG:=λv σ H Q=>to σ H λo H1=>ti σ H1 λi H2=>t o i v H2 λH3=>Q σ H3
theorem zl3 {o i:Expr}{to ti:TE}{t:TSet}(ho:PE X o to) (hi:PE X i ti) (hs:PSet X t)
 (ha:∀v,assign (.Subscript o i pos) X.env v=(do
  let ov ← K3l [v] (eval o X.env)
  let iv ← K3l [v,ov] (eval i X.env)
  K4f pos
  K3l [v,ov,iv] (Z0h ov iv v)
  release [v,ov,iv] []):=by intro _;rfl):PG X (.Subscript o i pos) (gSub to ti t):=by
 intro pins s σ H v u Q I r h
 rw [ha]
 refine K2 (K21 (thn (ho pins s σ H _ I h) λov s1 ⟨x,H1,I1,r1,q1⟩=>?_))
 refine K2 (K21 (thn (hi pins s1 σ H1 _ I1 q1) λiv s2 ⟨y,H2,I2,r2,q2⟩=>?_))
 refine K2 (K4b (K2 (K21 (thn (hs pins s2 σ H2 x y v ov iv u _ I2 r1 r2 r q2) λ_ s3 ⟨H3,I3,q3⟩=>?_))))
 exact wpAny_release ⟨σ,H3,I3,q3⟩
def tAsg (te:TE) (g:TG):TS:=λD σ H=>te σ H λx H1=>g x σ H1 D.nx
theorem zH3 {tg e:Expr}{te:TE}{g:TG}(he:PE X e te) (hg:PG X tg g) (hs:swapsWithSole [tg] e pos.line X.env=pure false:=by rfl) (hw:swappedStores [tg] e X.env=pure none:=by rfl)
 (h1:(K2c [tg] X.env).map (·.2)=[assign tg X.env]:=by rfl):PS X (.Assign [tg] e pos) (tAsg te g):=by
 intro pins s σ H D I h
 refine wpAny_Assign_stores (thn (he pins s σ H _ I h) λv s1 ⟨x,H1,I1,r1,q1⟩=>?_) hs hw
 rw [h1]
 exact thn (hg pins s1 σ H1 x v _ I1 r1 q1) λ_ s2 q=>q
theorem zN8 {i:Nat}{x:Str}{e:Expr}{te:TE}{pos':Pos}(hN:X.N.Nodup) (hi:X.N[i]?=some x) (hx:Loc X.env.scope x) (he:PE X e te) (hs:K1v e (some (.Name x pos')) pos.line X.env=pure false:=by rfl) (hf:X.fn x=true∨X.env.scope.names.lookup x=some .local:=by first|exact .inl rfl|exact .inr rfl|assumption) :
 PS X (.Assign [.Name x pos'] e pos) (tAsg te (zN7 i)):=by
 intro pins s σ H D I h
 refine wpAny_Assign_Name (thn (he pins s σ H _ I h) λv s1 ⟨y,H1,I1,r1,q1⟩=>?_) hs
 exact z7r I1 hN hi hx r1 (λs2 I2=>⟨_,H1,I2,q1⟩) hf
end
section
variable {X:Cx}{pos:Pos}
def zM8 (c:TT) (tb:TS):TS:=λD σ H=>∃W:Nat->St->Hp->Prop,(∃m,W m σ H)/\∀m σ H,W m σ H ->
 c σ H λb H1=>if b=true then ∃N:St->Hp->Prop,(∀σ' H',N σ' H'->∃m',m'<m/\W m' σ' H')/\tb { D with nx:=N,ct:=N,bk:=D.nx } σ H1 else D.nx σ H1
theorem zd4 {c:Expr}{body:List Stmt}{tc:TT}{tb:TS}(hp:Z04 (model X.prog X.w) X.A X.env X.xe) (hc:PT X c tc) (hb:PSs X body tb):PS X (.While c body [] pos) (zM8 tc tb):=by
 intro pins s σ H D I h
 obtain ⟨W,⟨m0,w0⟩,turn⟩:=h
 refine wpAny_While (codeAny_whileLoop (λn s'=>∃σ' H',Inv X pins σ' H' s'/\W n σ' H') ?_ m0 ⟨σ,H,I,w0⟩)
 rintro n s1 ⟨σ1,H1,I1,w1⟩
 refine K3e hp (thn (hc pins s1 σ1 H1 _ I1 (turn n σ1 H1 w1)) λb s2 ⟨H2,I2,q2⟩=>?_)
 cases b with
 | true =>
  obtain ⟨N,hN,q2⟩:=q2
  rw [if_pos rfl]
  refine K3e hp (thn (hb pins s2 σ1 H2 _ I2 q2) λf s3 q3=>?_)
  cases f with
  | next =>
   obtain ⟨σ3,H3,I3,n3⟩:=q3
   obtain ⟨m',hm,w3⟩:=hN σ3 H3 n3
   exact ⟨m',hm,σ3,H3,I3,w3⟩
  | cont =>
   obtain ⟨σ3,H3,I3,n3⟩:=q3
   obtain ⟨m',hm,w3⟩:=hN σ3 H3 n3
   exact ⟨m',hm,σ3,H3,I3,w3⟩
  | brk=>exact q3
  | ret v=>exact q3
 | false =>
  rw [if_neg K0y]
  exact K8e ⟨σ1,H2,I2,q2⟩
end
structure It where
 go:Nat->Hp->Prop
 yld:Nat->Hp->V->Hp->Prop
 stop:Nat->Hp->Prop
def FpOk (X:Cx) (pins:List (Addr×Obj)) (H:Hp) (b:Addr):Prop :=
 H b=none/\b≠X.env.locals/\b∉X.fs/\(b∈X.ex∨X.s₀.heap.objs.size≤b)/\(∀x c,X.env.cells.lookup x=some c->c≠b)/\∀p∈X.pn++pins,p.1≠b
theorem Inv.fpOk {X:Cx}{pins:List (Addr×Obj)}{σ:St}{H H':Hp}{s:Shared}{b:Addr}(I:Inv X pins σ H s) (hb:s.heap.objs.size≤b) (hn:H' b=none):FpOk X pins H' b:=by
 refine ⟨hn,K1r (K0l I.lt hb),I.nofs hb,.inr (K0m I.sz hb),λx c e z=>?_,λp hp z=>?_⟩
 ·obtain ⟨v,q⟩:=I.cell x c e
  exact absurd (K0l q.lt (by rw [z];exact hb)) (K2a _)
 ·exact absurd (K0l (K06 (I.pin p hp).1) (by rw [z];exact hb)) (K2a _)
structure Turn (P:K0n) (w:World) (K:K1) (tg:Expr) (J:It) (fp:List Addr) (it:Addr) (tn:Nat->Heap->Prop):Prop where
 mem:it∈fp
 obj:∀i h,tn i h->∀b∈fp,∃o,h.get? b=some o/\∀v,o.data≠.cell v
 keep:∀i h h',tn i h->(∀b∈fp,∀o,h.get? b=some o->h'.get? b=some o)->tn i h'
 item:∀(X:Cx),X.prog=P->X.w=w->X.K=K->X.calm=true->∀(i:Nat) (pins:List (Addr×Obj)) (s:Shared) (σ:St) (H:Hp) (E:Value->Shared->Prop),Inv X pins σ H s->(∀b∈fp,FpOk X pins H b)->tn i s.heap->J.go i H ->
  wpAny (model P w) X.A (pyNext (.ref it)) (λr s1=>∃u,r=some u /\
   wpAny (model P w) X.A (K48 tg (.ref it) u) (λ_ s2=>∃x H',Inv X pins σ H' s2/\RelV x u/\J.yld i H x H'/\tn (i+1) s2.heap/\∀b∈fp,H' b=none) E s1) E s
 done:∀(X:Cx),X.prog=P->X.w=w->X.K=K->X.calm=true->∀(i:Nat) (pins:List (Addr×Obj)) (s:Shared) (σ:St) (H:Hp) (E:Value->Shared->Prop),Inv X pins σ H s->(∀b∈fp,FpOk X pins H b)->tn i s.heap->J.stop i H ->
  wpAny (model P w) X.A (pyNext (.ref it)) (λr s1=>r=none/\Inv X pins σ H s1) E s
 self:∀(A:Around) (i:Nat) (s:Shared) (Q:Value->Shared->Prop) (E:Value->Shared->Prop),tn i s.heap->Q (.ref it) s->wpAny (model P w) A (pyIter (.ref it)) Q E s
abbrev TI:=St->Hp->(It->Hp->Prop)->Prop
def PIE (X:Cx) (pins:List (Addr×Obj)) (σ:St) (tg:Expr) (R:It->Hp->Prop) (itv:Value) (s2:Shared):Prop :=
 ∃(it:Addr) (fp:List Addr) (tn:Nat->Heap->Prop) (J:It) (H':Hp),itv=.ref it/\Inv X pins σ H' s2/\Turn X.prog X.w X.K tg J fp it tn/\tn 0 s2.heap/\(∀b∈fp,FpOk X pins H' b)/\R J H'
def PI (X:Cx) (tg iter:Expr) (wi:TI):Prop :=
 ∀(pins:List (Addr×Obj)) (s:Shared) (σ:St) (H:Hp) (R:It->Hp->Prop),Inv X pins σ H s->wi σ H R ->
  wpAny (model X.prog X.w) X.A (eval iter X.env) (λv s1=>wpAny (model X.prog X.w) X.A (pyIter v) (PIE X pins σ tg R) X.xe s1) X.xe s
theorem zk7 {M:Model}{A:Around}{E:Value->Shared->Prop}{s:Shared}{tg:Expr}{it:Addr}{u:Value}{o:Obj}{n:String}{vs:Array Value}{Q:Unit->Shared->Prop}(ho:s.heap.get? it=some o) (hc:o.cls=.type n) (hd:o.data=.fields vs)
 (hn:["enumerate","zip","dict_itemiterator","dict_reverseitemiterator","odict_iterator","itertools.zip_longest","itertools.pairwise"].contains n=false) (hQ:Q () s):wpAny M A (K48 tg (.ref it) u) Q E s:=by
 unfold K48
 cases tg<;>first
  | exact K9 hQ
  | (cases u<;>first
      | exact K9 hQ
      | (refine K2 (K7y ho ?_)
         rw [hc,hd]
         show wpAny M A (if (["enumerate","zip","dict_itemiterator","dict_reverseitemiterator","odict_iterator","itertools.zip_longest","itertools.pairwise"].contains n&&vs[0]?==some (rawInt _))=true then _ else _) Q E s
         rw [if_neg (by intro h;rw [hn,Bool.false_and] at h;cases h)]
         exact K9 hQ))
def Itl (K:K1) (a:Addr):It :=
 ⟨λi H=>∃xs x,SqL K H a xs/\xs[i]?=some x,λi H x H'=>H'=H/\∀xs,SqL K H a xs->xs[i]?=some x,λi H=>∃xs,SqL K H a xs/\xs.length≤i⟩
def Itt (K:K1) (a:Addr):It :=
 ⟨λi H=>∃xs x,SqT K H a xs/\xs[i]?=some x,λi H x H'=>H'=H/\∀xs,SqT K H a xs->xs[i]?=some x,λi H=>∃xs,SqT K H a xs/\xs.length≤i⟩
def Itr (lo:Int) (n:Nat):It:=⟨λi _=>i<n,λi H x H'=>H'=H/\x=.int (lo+i),λi _=>n≤i⟩
theorem z9W {P:K0n}{w:World}{K:K1}{tg:Expr}(a it:Addr):Turn P w K tg (Itl K a) [it] it (λi h=>h.IsListIter it a i) where
 mem:=by simp
 obj:=λi h st b hb=>by
  have e:b=it:=by simpa using hb
  subst e
  obtain ⟨o,e,c,d⟩:=st
  exact ⟨o,e,λv z=>by rw [d] at z;cases z⟩
 keep:=λi h h' st k=>st.at λo e=>k it (by simp) o e
 item:=by
  intro X hP hw hK hc i pins s σ H E I hf st hg
  subst hP hw hK
  obtain ⟨xs,x,hq,hx⟩:=hg
  obtain ⟨its,rv,p,hz⟩:=I.list hq
  obtain ⟨u,hu,ru⟩:=rv.get hx
  obtain ⟨f0,f1,f2,f3,f4,f5⟩:=hf it (by simp)
  refine wpAny_pyNext_list_item st p.isList (x:=u) (by simpa using hu) λh' st' sb=>?_
  have I1:Inv X pins σ H { s with heap:=h' }:=I.turned (t':=s.toks) (λb o hb e=>(sb.2 b hb).trans e) f0 f1 f3 f4 f5
  obtain ⟨o,e,c,d⟩:=id st'
  exact ⟨u,rfl,zk7 (s:={ s with heap:=h' }) e c d (by decide) ⟨x,H,I1,ru,⟨rfl,λys hy=>by rw [I.list_inj hy hq];exact hx⟩,st',λb hb=>(hf b hb).1⟩⟩
 done:=by
  intro X hP hw hK hc i pins s σ H E I hf st hg
  subst hP hw hK
  obtain ⟨xs,hq,hx⟩:=hg
  obtain ⟨its,rv,p,hz⟩:=I.list hq
  obtain ⟨f0,f1,f2,f3,f4,f5⟩:=hf it (by simp)
  have hl:=rv.length
  exact wpAny_pyNext_list_end (I.ok.hd hc) st p.isList (by simp;omega) λh' eb=>⟨rfl,I.turned (t':=s.toks) (λb o hb e=>eb b o hb e) f0 f1 f3 f4 f5⟩
 self:=λ_ _ _ _ _ st h=>wpAny_pyIter_listiter st h
theorem z8s {P:K0n}{w:World}{K:K1}{tg:Expr}(a it:Addr):Turn P w K tg (Itt K a) [it] it (λi h=>h.IsTupleIter it a i) where
 mem:=by simp
 obj:=λi h st b hb=>by
  have e:b=it:=by simpa using hb
  subst e
  obtain ⟨o,e,c,d⟩:=st
  exact ⟨o,e,λv z=>by rw [d] at z;cases z⟩
 keep:=λi h h' st k=>st.at λo e=>k it (by simp) o e
 item:=by
  intro X hP hw hK hc i pins s σ H E I hf st hg
  subst hP hw hK
  obtain ⟨xs,x,hq,hx⟩:=hg
  obtain ⟨its,rv,p,hz⟩:=I.tuple hq
  obtain ⟨u,hu,ru⟩:=rv.get hx
  obtain ⟨f0,f1,f2,f3,f4,f5⟩:=hf it (by simp)
  refine wpAny_pyNext_tuple_item st (show s.heap.IsTuple a its.toArray from p) (x:=u) (by simpa using hu) λh' st' sb=>?_
  have I1:Inv X pins σ H { s with heap:=h' }:=I.turned (t':=s.toks) (λb o hb e=>(sb.2 b hb).trans e) f0 f1 f3 f4 f5
  obtain ⟨o,e,c,d⟩:=id st'
  exact ⟨u,rfl,zk7 (s:={ s with heap:=h' }) e c d (by decide) ⟨x,H,I1,ru,⟨rfl,λys hy=>by rw [I.tuple_inj hy hq];exact hx⟩,st',λb hb=>(hf b hb).1⟩⟩
 done:=by
  intro X hP hw hK hc i pins s σ H E I hf st hg
  subst hP hw hK
  obtain ⟨xs,hq,hx⟩:=hg
  obtain ⟨its,rv,p,hz⟩:=I.tuple hq
  obtain ⟨f0,f1,f2,f3,f4,f5⟩:=hf it (by simp)
  have hl:=rv.length
  exact wpAny_pyNext_tuple_end (I.ok.hd hc) st (show s.heap.IsTuple a its.toArray from p) (by simp;omega) λh' eb=>⟨rfl,I.turned (t':=s.toks) (λb o hb e=>eb b o hb e) f0 f1 f3 f4 f5⟩
 self:=λ_ _ _ _ _ st h=>wpAny_pyIter_tupleiter st h
theorem z8z {P:K0n}{w:World}{K:K1}{tg:Expr}(it:Addr) (lo:Int) (n:Nat):Turn P w K tg (Itr lo n) [it] it (λi h=>IsRangeIter h it (lo+(i:Nat) * 1) ((n:Int) - (i:Nat)) 1) where
 mem:=by simp
 obj:=λi h st b hb=>by
  have e:b=it:=by simpa using hb
  subst e
  exact ⟨_,st,λv z=>by
   have z':Data.fields _=Data.cell v:=z
   cases z'⟩
 keep:=λi h h' st k=>k it (by simp) _ st
 item:=by
  intro X hP hw hK hc i pins s σ H E I hf st hg
  subst hP hw hK
  obtain ⟨f0,f1,f2,f3,f4,f5⟩:=hf it (by simp)
  have W:=Walks.range (prog:=X.prog) (w:=X.w) (I.ok.hd hc) it lo 1 n
  refine W.item i s _ _ hg st λv h' tk hv st' kk=>?_
  obtain ⟨t,rfl⟩:=hv
  have I1:Inv X pins σ H { s with heap:=h',toks:=tk }:=I.turned (λb o hb e=>kk b o (by simpa using hb) e) f0 f1 f3 f4 f5
  refine ⟨_,rfl,zk7 (s:={ s with heap:=h',toks:=tk }) (n:="range_iterator") st' rfl rfl (by decide) ⟨.int (lo+i),H,I1,⟨t,?_⟩,⟨rfl,rfl⟩,st',λb hb=>(hf b hb).1⟩⟩
  rw [Int.mul_one]
 done:=by
  intro X hP hw hK hc i pins s σ H E I hf st hg
  subst hP hw hK
  obtain ⟨f0,f1,f2,f3,f4,f5⟩:=hf it (by simp)
  exact wpAny_pyNext_range_end (I.ok.hd hc) st (by have:n≤i:=hg;omega) λh' eb=>⟨rfl,I.turned (t':=s.toks) (λb o hb e=>eb b o hb e) f0 f1 f3 f4 f5⟩
 self:=λ_ _ _ _ _ st h=>wpAny_pyIter_rangeiter st h
section
variable {X:Cx}{tg:Expr}
def zS0 (K:K1) (tl:TE):TI:=λσ H R=>tl σ H λx H1=>∃a,x=.ref a/\(∃xs,SqL K H1 a xs)/\R (Itl K a) H1
def iTup (K:K1) (tl:TE):TI:=λσ H R=>tl σ H λx H1=>∃a,x=.ref a/\(∃xs,SqT K H1 a xs)/\R (Itt K a) H1
theorem zB3 {l:Expr}{tl:TE}(hl:PE X l tl):PI X tg l (zS0 X.K tl):=by
 intro pins s σ H R I h
 refine thn (hl pins s σ H _ I h) λv s1 ⟨x,H1,I1,r1,q1⟩=>?_
 obtain ⟨a,e,⟨xs,hq⟩,q⟩:=q1
 subst e
 cases r1
 obtain ⟨its,rv,p,hz⟩:=I1.list hq
 refine K2v p.isList ?_
 refine ⟨s1.heap.objs.size,[s1.heap.objs.size],_,_,H1,rfl,I1.kept (t':=s1.toks) λb o e=>K6 _ e,z9W a _,⟨_,K05 _ rfl,rfl,rfl⟩,λb hb=>?_,q⟩
 have e:b=s1.heap.objs.size:=by simpa using hb
 subst e
 exact I1.fpOk (K01 _) (I1.hok.fresh (K01 _))
theorem zL3 {l:Expr}{tl:TE}(hl:PE X l tl):PI X tg l (iTup X.K tl):=by
 intro pins s σ H R I h
 refine thn (hl pins s σ H _ I h) λv s1 ⟨x,H1,I1,r1,q1⟩=>?_
 obtain ⟨a,e,⟨xs,hq⟩,q⟩:=q1
 subst e
 cases r1
 obtain ⟨its,rv,p,hz⟩:=I1.tuple hq
 refine K45 (show s1.heap.IsTuple a its.toArray from p) ?_
 refine ⟨s1.heap.objs.size,[s1.heap.objs.size],_,_,H1,rfl,I1.kept (t':=s1.toks) λb o e=>K6 _ e,z8s a _,⟨_,K05 _ rfl,rfl,rfl⟩,λb hb=>?_,q⟩
 have e:b=s1.heap.objs.size:=by simpa using hb
 subst e
 exact I1.fpOk (K01 _) (I1.hok.fresh (K01 _))
theorem ze3 {pins:List (Addr×Obj)}{σ:St}{H:Hp}{s:Shared}{R:It->Hp->Prop}{E:Value->Shared->Prop}{lo hi:Int}{t u v:Tok}{tk:Nat}(I:Inv X pins σ H s) (h1:-(2 ^ 62)≤lo) (h2:lo<2 ^ 62) (h3:-(2 ^ 62)≤hi) (h4:hi<2 ^ 62)
 (q:R (Itr lo (hi - lo).toNat) H):wpAny (model X.prog X.w) X.A (pyIter (.ref s.heap.objs.size)) (PIE X pins σ tg R) E { s with heap:=s.heap.push { cls:=.type "range",data:=.fields #[.int lo t,.int hi u,.int 1 v] },toks:=tk }:=by
 refine wpAny_pyIter_range (K9m.new ..) (small_one h1 h2 h3 h4) ?_
 have I1:Inv X pins σ H { s with heap:=s.heap.push { cls:=.type "range",data:=.fields #[.int lo t,.int hi u,.int 1 v] },toks:=tk }:=I.kept λb o e=>K6 _ e
 refine ⟨(s.heap.push { cls:=.type "range",data:=.fields #[.int lo t,.int hi u,.int 1 v] }).objs.size,[(s.heap.push { cls:=.type "range",data:=.fields #[.int lo t,.int hi u,.int 1 v] }).objs.size],_,_,H,rfl,
  I1.kept (t':=tk) λb o e=>K6 _ e,z8z _ lo (hi - lo).toNat,?_,λb hb=>?_,q⟩
 ·have e1:lo+((0:Nat):Int) * 1=lo:=by simp
  have e2:(((hi - lo).toNat:Nat):Int) - ((0:Nat):Int)=K2t lo hi 1:=by rw [rangeSize_one];split<;>omega
  show IsRangeIter _ _ (lo+((0:Nat):Int) * 1) ((((hi - lo).toNat:Nat):Int) - ((0:Nat):Int)) 1
  rw [e1,e2]
  exact K05 _ rfl
 ·have e:b=(s.heap.push { cls:=.type "range",data:=.fields #[.int lo t,.int hi u,.int 1 v] }).objs.size:=by simpa using hb
  subst e
  exact I1.fpOk (K01 _) (I1.hok.fresh (K01 _))
def zU6 (ta:TA):TI:=λσ H R=>ta σ H λvs H1=>∃j:Int,vs=[.int j]/\-(2 ^ 62)≤j/\j<2 ^ 62/\R (Itr 0 j.toNat) H1
theorem zc6 {a:Expr}{ta:TA}{p pos:Pos}(hg:Gl X "range") (hm:X.mg "range" = none) (ha:PA X [a] ta) (hs:K0b [a] X.env=[(false,eval a X.env)]:=by rfl):PI X tg (.Call (.Name "range" p) [a] [] pos) (zU6 ta):=by
 intro pins s σ H R I h
 refine Call_ (z4R I hg hm boot_range (K30 (thn (ha pos pins s σ H _ I h) λus s1 ⟨vs,H1,I1,r1,q1⟩=>?_) hs rfl))
 obtain ⟨j,e,q1,q2,q⟩:=q1
 subst e
 cases r1 with
 | cons r rr =>
  cases rr
  obtain ⟨t,rfl⟩:=r
  exact call_range_1 (ze3 I1 (by omega) (by omega) q1 q2 (by simpa using q))
def tFor (wi:TI) (g:TG) (tb:TS):TS:=λD σ H=>wi σ H λJ H1=>∃W:Nat->Nat->St->Hp->Prop,(∃m,W 0 m σ H1)/\∀i m σ H,W i m σ H ->
 (J.stop i H/\D.nx σ H)∨(J.go i H/\∃N:St->Hp->Prop,(∀σ' H',N σ' H'->∃m',m'<m/\W (i+1) m' σ' H')/\∀x H',J.yld i H x H'->g x σ H' λσ2 H2=>tb { D with nx:=N,ct:=N,bk:=D.nx } σ2 H2)
def z65 (fp:List Addr) (h:Heap):List (Addr×Obj):=fp.filterMap λb=>(h.get? b).map λo=>(b,o)
theorem z2r {fp:List Addr}{h:Heap}{b:Addr}{o:Obj}(hb:b∈fp) (e:h.get? b=some o):(b,o)∈z65 fp h:=List.mem_filterMap.mpr ⟨b,hb,by rw [e];rfl⟩
theorem z97 {fp:List Addr}{h:Heap}{p:Addr×Obj}(hp:p∈z65 fp h):p.1∈fp/\h.get? p.1=some p.2:=by
 obtain ⟨b,hb,e⟩:=List.mem_filterMap.mp hp
 cases q:h.get? b with
 | none=>rw [q] at e;cases e
 | some o =>
  rw [q] at e
  have e':(b,o)=p:=K13 e
  subst e'
  exact ⟨hb,q⟩
theorem Inv.pinned {pins:List (Addr×Obj)}{σ:St}{H:Hp}{s:Shared}{fp:List Addr}(I:Inv X pins σ H s) (hf:∀b∈fp,FpOk X pins H b) (ho:∀b∈fp,∃o,s.heap.get? b=some o/\∀v,o.data≠.cell v):Inv X (pins++z65 fp s.heap) σ H s :=
 I.pins_of λp hp=>(K0w.mp hp).elim (λz=>I.pin p (K12 _ z)) λz=>by
  obtain ⟨hb,e⟩:=z97 z
  obtain ⟨f0,f1,f2,_⟩:=hf p.1 hb
  obtain ⟨o,e',d⟩:=ho p.1 hb
  rw [e] at e';cases e'
  exact ⟨e,f0,f1,f2,d⟩
theorem Inv.unpinned {pins pl:List (Addr×Obj)}{σ:St}{H:Hp}{s:Shared}(I:Inv X (pins++pl) σ H s):Inv X pins σ H s:=I.pins_of λp hp=>I.pin p (K12 _ (K2p _ hp))
theorem zF9 {iter:Expr}{body:List Stmt}{wi:TI}{g:TG}{tb:TS}{pos:Pos}(hp:Z04 (model X.prog X.w) X.A X.env X.xe) (hc:X.calm=true) (hi:PI X tg iter wi) (hg:PG X tg g) (hb:PSs X body tb)
 (hs:∀x,K11 iter X.env x=pure x:=by intro _;rfl):PS X (.For tg iter body [] pos) (tFor wi g tb):=by
 intro pins s σ H D I h
 refine wpAny_For (thn (hi pins s σ H _ I h) λv s1 h1=>thn h1 λitv s2 h2=>?_) hs
 obtain ⟨it,fp,tn,J,H2,e,I2,T,st2,f2,W,⟨m0,w0⟩,turn⟩:=h2
 subst e
 have stat:∀{H':Hp},(∀b∈fp,H' b=none)->∀b∈fp,FpOk X pins H' b:=λhn b hb=>⟨hn b hb,(f2 b hb).2⟩
 refine codeAny_forLoop_any (λn s'=>∃i σ' H',Inv X pins σ' H' s'/\tn i s'.heap/\(∀b∈fp,H' b=none)/\W i n σ' H') ?_ m0 ⟨0,σ,H2,I2,st2,λb hb=>(f2 b hb).1,w0⟩
 rintro n s3 ⟨i,σ3,H3,I3,st3,fr3,w3⟩
 rcases turn i n σ3 H3 w3 with ⟨stop,qn⟩|⟨go,N,hN,step⟩
 ·refine K3e hp (thn (T.done X rfl rfl rfl hc i pins s3 σ3 H3 X.xe I3 (stat fr3) st3 stop) λr s4 ⟨hr,I4⟩=>?_)
  subst hr
  exact K8e ⟨σ3,H3,I4,qn⟩
 ·refine K3e hp (thn (T.item X rfl rfl rfl hc i pins s3 σ3 H3 X.xe I3 (stat fr3) st3 go) λr s4 ⟨u,hr,h4⟩=>?_)
  subst hr
  refine K3e hp (thn h4 λ_ s5 ⟨x,H5,I5,r5,y5,st5,fr5⟩=>?_)
  have I5':=I5.pinned (stat fr5) (T.obj _ _ st5)
  refine K3e hp (thn (hg _ s5 σ3 H5 x u _ I5' r5 (step x H5 y5)) λ_ s6 ⟨σ6,H6,I6,q6⟩=>?_)
  refine K3e hp (thn (hb _ s6 σ6 H6 _ I6 q6) λf s7 q7=>?_)
  have again:∀{σ7:St} {H7:Hp},Inv X (pins++z65 fp s5.heap) σ7 H7 s7->N σ7 H7->∃m,m<n/\∃i σ' H',Inv X pins σ' H' s7/\tn i s7.heap/\(∀b∈fp,H' b=none)/\W i m σ' H':=λ{σ7 H7} I7 n7=>by
   obtain ⟨m',hm,w7⟩:=hN σ7 H7 n7
   refine ⟨m',hm,i+1,σ7,H7,I7.unpinned,T.keep _ _ _ st5 λb hb o e=>(I7.pin (b,o) (K12 _ (K12 _ (z2r hb e)))).1,λb hb=>?_,w7⟩
   obtain ⟨o,e,d⟩:=T.obj _ _ st5 b hb
   exact (I7.pin (b,o) (K12 _ (K12 _ (z2r hb e)))).2.1
  cases f with
  | next=>obtain ⟨σ7,H7,I7,n7⟩:=q7;exact again I7 n7
  | cont=>obtain ⟨σ7,H7,I7,n7⟩:=q7;exact again I7 n7
  | brk=>obtain ⟨σ7,H7,I7,q7⟩:=q7;exact ⟨σ7,H7,I7.unpinned,q7⟩
  | ret v=>obtain ⟨x7,σ7,H7,I7,r7,q7⟩:=q7;exact ⟨x7,σ7,H7,I7.unpinned,r7,q7⟩
end
theorem v7 {lo:Int}{n:Nat}{g:TG}{tb:TS}{D:Ends}{σ:St}{H:Hp}(Pv:Nat->St->Hp->Prop) (h0:Pv 0 σ H)
 (hs:∀i σ H,i<n->Pv i σ H->g (.int (lo+i)) σ H λσ2 H2=>tb { D with nx:=Pv (i+1),ct:=Pv (i+1),bk:=D.nx } σ2 H2) (hd:∀σ H,Pv n σ H->D.nx σ H) :
 ∃W:Nat->Nat->St->Hp->Prop,(∃m,W 0 m σ H)/\∀i m σ H,W i m σ H ->
  ((Itr lo n).stop i H/\D.nx σ H)∨((Itr lo n).go i H/\∃N:St->Hp->Prop,(∀σ' H',N σ' H'->∃m',m'<m/\W (i+1) m' σ' H')/\∀x H',(Itr lo n).yld i H x H'->g x σ H' λσ2 H2=>tb { D with nx:=N,ct:=N,bk:=D.nx } σ2 H2):=by
 refine ⟨λi m σ H=>m=n - i/\i≤n/\Pv i σ H,⟨n,by simp,K3g _,h0⟩,?_⟩
 rintro i m σ H ⟨rfl,hi,p⟩
 by_cases hlt:i<n
 ·refine .inr ⟨hlt,Pv (i+1),λσ' H' p'=>⟨n - (i+1),by omega,rfl,hlt,p'⟩,λx H' y=>?_⟩
  obtain ⟨e,y⟩:=y
  subst e y
  exact hs i σ _ hlt p
 ·have e:i=n:=by omega
  subst e
  exact .inl ⟨K01 _,hd σ H p⟩
abbrev R2:=V->V->Hp->VK->Prop
def OpR (X:Cx) (f:Value->Value->Sem Value) (r:R2):Prop :=
 ∀(pins:List (Addr×Obj)) (s:Shared) (σ:St) (H:Hp) (x y:V) (v u:Value) (Q:VK),Inv X pins σ H s->RelV x v->RelV y u->r x y H Q ->
  wpAny (model X.prog X.w) X.A (f v u) (EP X pins σ Q) X.xe s
def z2z (X:Cx) (f:Value) (r:List V->Hp->VK->Prop):Prop :=
 ∀(pins:List (Addr×Obj)) (s:Shared) (σ:St) (H:Hp) (xs:List V) (us:List Value) (Q:VK),Inv X pins σ H s->Vals xs us->r xs H Q ->
  wpAny (model X.prog X.w) X.A (call f us) (EP X pins σ Q) X.xe s
def TruR (X:Cx) (r:V->Hp->(Bool->Hp->Prop)->Prop):Prop :=
 ∀(pins:List (Addr×Obj)) (s:Shared) (σ:St) (H:Hp) (x:V) (v:Value) (Q:Bool->Hp->Prop),Inv X pins σ H s->RelV x v->r x H Q ->
  wpAny (model X.prog X.w) X.A (truthy v) (TP X pins σ Q) X.xe s
def tOp (r:R2) (ta tb:TE):TE:=λσ H Q=>ta σ H λx H1=>tb σ H1 λy H2=>r x y H2 Q
def rI (C:Int->Int->Prop) (g:Int->Int->V):R2:=λx y H Q=>∃i j,x=.int i/\y=.int j/\C i j/\Q (g i j) H
def rI0 (g:Int->Int->V):R2:=λx y H Q=>∃i j,x=.int i/\y=.int j/\Q (g i j) H
section
variable {X:Cx}{a b c:Expr}{ta tb tc:TE}{pos:Pos}
theorem binT (ha:PE X a ta) (hb:PE X b tb) {pins:List (Addr×Obj)}{s:Shared}{σ:St}{H:Hp}{R:V->V->Hp->Prop}(I:Inv X pins σ H s)
 (h:ta σ H λx H1=>tb σ H1 λy H2=>R x y H2) {Q:Value->Shared->Prop} {f:Value->Value->Sem Value}
 (hf:∀v u s2 x y H2,Inv X pins σ H2 s2->RelV x v->RelV y u->R x y H2->wpAny (model X.prog X.w) X.A (f v u) Q X.xe s2) :
 wpAny (model X.prog X.w) X.A (eval a X.env) (λv s₁=>wpAny (model X.prog X.w) X.A (eval b X.env) (λu s₂=>wpAny (model X.prog X.w) X.A (f v u) Q X.xe s₂) X.xe s₁) X.xe s:=by
 refine thn (ha pins s σ H _ I h) λv s1 ⟨x,H1,I1,r1,q1⟩=>?_
 refine thn (hb pins s1 σ H1 _ I1 q1) λu s2 ⟨y,H2,I2,r2,q2⟩=>?_
 exact hf v u s2 x y H2 I2 r1 r2 q2
theorem zR6 {op:Operator}{r:R2}(ho:OpR X (K37 op) r) (ha:PE X a ta) (hb:PE X b tb):PE X (.BinOp a op b pos) (tOp r ta tb):=by
 intro pins s σ H Q I h
 exact wpAny_BinOp (binT ha hb I h λv u s2 x y H2 I2 rx ry q=>ho pins s2 σ H2 x y v u Q I2 rx ry q)
theorem opI {f:Value->Value->Sem Value}{C:Int->Int->Prop}{g:Int->Int->Int}
 (rule:∀(i j:Int) (t u:Tok) (s:Shared) (Q:Value->Shared->Prop) (E:Value->Shared->Prop),C i j->Q (.int (g i j) s.toks) { s with toks:=s.toks+1 }->wpAny (model X.prog X.w) X.A (f (.int i t) (.int j u)) Q E s) :
 OpR X f (rI C λi j=>.int (g i j)):=by
 intro pins s σ H x y v u Q I rx ry h
 obtain ⟨i,j,rfl,rfl,hc,q⟩:=h
 obtain ⟨t,rfl⟩:=rx
 obtain ⟨t',rfl⟩:=ry
 exact rule i j t t' s _ _ hc ⟨.int (g i j),H,I.tok _,⟨_,rfl⟩,q⟩
theorem opI0 {f:Value->Value->Sem Value}{g:Int->Int->Int}
 (rule:∀(i j:Int) (t u:Tok) (s:Shared) (Q:Value->Shared->Prop) (E:Value->Shared->Prop),Q (.int (g i j) s.toks) { s with toks:=s.toks+1 }->wpAny (model X.prog X.w) X.A (f (.int i t) (.int j u)) Q E s) :
 OpR X f (rI0 λi j=>.int (g i j)):=by
 intro pins s σ H x y v u Q I rx ry h
 obtain ⟨i,j,rfl,rfl,q⟩:=h
 obtain ⟨t,rfl⟩:=rx
 obtain ⟨t',rfl⟩:=ry
 exact rule i j t t' s _ _ ⟨.int (g i j),H,I.tok _,⟨_,rfl⟩,q⟩
theorem opB0 {f:Value->Value->Sem Value}{g:Int->Int->Bool}
 (rule:∀(i j:Int) (t u:Tok) (s:Shared) (Q:Value->Shared->Prop) (E:Value->Shared->Prop),Q (.bool (g i j)) s->wpAny (model X.prog X.w) X.A (f (.int i t) (.int j u)) Q E s) :
 OpR X f (rI0 λi j=>.bl (g i j)):=by
 intro pins s σ H x y v u Q I rx ry h
 obtain ⟨i,j,rfl,rfl,q⟩:=h
 obtain ⟨t,rfl⟩:=rx
 obtain ⟨t',rfl⟩:=ry
 exact rule i j t t' s _ _ ⟨.bl (g i j),H,I,rfl,q⟩
def CDiv (i j:Int):Prop:=0<j/\j<1073741824
def CPow (i j:Int):Prop:=0≤j/\j≤1000000/\i.natAbs<2 ^ 64
def CMul (i j:Int):Prop:=(-(2 ^ 64)<i/\i<2 ^ 64)∨(-(2 ^ 64)<j/\j<2 ^ 64)
theorem CMul.ok {i j:Int}(h:CMul i j):IntMulOk i j:=by
 rcases h with ⟨h1,h2⟩|⟨h1,h2⟩
 ·exact .of_left (intBits_le_64 h1 h2)
 ·exact .of_right (intBits_le_64 h1 h2)
theorem op_add:OpR X (K37 .Add) (rI0 λi j=>.int (i+j)):=opI0 λ_ _ _ _ _ _ _ q=>add_int q
theorem op_mul:OpR X (K37 .Mult) (rI CMul λi j=>.int (i * j)):=opI λ_ _ _ _ _ _ _ hc q=>mul_int q hc.ok
theorem zu6:OpR X (K37 .FloorDiv) (rI CDiv λi j=>.int (i / j)):=opI λi j _ _ _ _ _ hc q=>by
 have h1:(0:Int)<j:=hc.1
 have h2:j<1073741824:=hc.2
 exact floordiv_int (by omega) (by rw [Int.fdiv_eq_ediv_of_nonneg i (by omega)];exact q) (.inl (PyProof.noPylong_small (by omega)))
theorem zG1:OpR X (K37 .Mod) (rI (λ_ j=>0<j) λi j=>.int (i % j)):=opI λi j _ _ _ _ _ hc q=>by
 have h1:(0:Int)<j:=hc
 exact mod_int' (by omega) (by rw [Int.fmod_eq_emod_of_nonneg i (by omega)];exact q)
theorem zG2:OpR X (K37 .Pow) (rI CPow λi j=>.int (i ^ j.toNat)):=opI λ_ _ _ _ _ _ _ hc q=>pow_int_small hc.1 hc.2.1 hc.2.2 q
end
def scal:V->V->Bool
 | .non,.non=>true|.non,.int _=>true|.int _,.non=>true|.non,.bl _=>true|.bl _,.non=>true|.non,.str _=>true|.str _,.non=>true
 | .int _,.int _=>true|.bl _,.bl _=>true|.str _,.str _=>true|.byt _,.byt _=>true
 | .int _,.str _=>true|.str _,.int _=>true|.bl _,.str _=>true|.str _,.bl _=>true
 | _,_=>false
def rEq:R2:=λx y H Q=>scal x y=true/\Q (.bl (decide (x=y))) H
theorem zt2 {i j:Int}:decide (V.int i=V.int j)=(i==j):=by
 rw [K0z]
 simp
theorem zL4 {i j:Bool}:decide (V.bl i=V.bl j)=(i==j):=by
 rw [K0z]
 simp
theorem zv4 {i j:Str}:decide (V.str i=V.str j)=(i==j):=by
 rw [K0z]
 simp
theorem zx7 {i j:Array UInt8}:decide (V.byt i=V.byt j)=(i.toList==j.toList):=by
 rw [K0z]
 cases i
 cases j
 simp
section
variable {X:Cx}{a b c:Expr}{ta tb tc:TE}{pos:Pos}
theorem z0P {pins:List (Addr×Obj)}{σ:St}{H:Hp}{s:Shared}{Q:VK}{k k':Bool}(I:Inv X pins σ H s) (q:Q (.bl k) H) (e:k=k'):EP X pins σ Q (.bool k') s:=by
 subst e
 exact ⟨.bl k,H,I,rfl,q⟩
theorem zT3:OpR X (K1h .Eq) rEq:=by
 intro pins s σ H x y v u Q I rx ry h
 obtain ⟨hs,q⟩:=h
 cases x with
 | non =>
  cases rx
  cases y with
  | non=>cases ry;exact PySem.EqNone.eq_none_none (z0P I q (by simp))
  | bl j=>cases ry;exact PySem.EqNone.eq_none_bool (z0P I q (by simp))
  | int j=>obtain ⟨t',rfl⟩:=ry;exact PySem.EqNone.eq_none_int (z0P I q (by simp))
  | str j=>obtain ⟨t',rfl⟩:=ry;exact PySem.EqNone.eq_none_str (z0P I q (by simp))
  | _=>exact absurd (show false=true from hs) K0y
 | bl i =>
  cases rx
  cases y with
  | non=>cases ry;exact PySem.EqNone.eq_bool_none (z0P I q (by simp))
  | bl j=>cases ry;exact eq_bool (z0P I q zL4)
  | str j=>obtain ⟨t',rfl⟩:=ry;exact PySem.EqMixed.eq_bool_str (z0P I q (by simp))
  | _=>exact absurd (show false=true from hs) K0y
 | int i =>
  obtain ⟨t,rfl⟩:=rx
  cases y with
  | non=>cases ry;exact PySem.EqNone.eq_int_none (z0P I q (by simp))
  | int j=>obtain ⟨t',rfl⟩:=ry;exact eq_int (z0P I q zt2)
  | str j=>obtain ⟨t',rfl⟩:=ry;exact PySem.EqMixed.eq_int_str (z0P I q (by simp))
  | _=>exact absurd (show false=true from hs) K0y
 | str i =>
  obtain ⟨t,rfl⟩:=rx
  cases y with
  | non=>cases ry;exact PySem.EqNone.eq_str_none (z0P I q (by simp))
  | bl j=>cases ry;exact PySem.EqMixed.eq_str_bool (z0P I q (by simp))
  | int j=>obtain ⟨t',rfl⟩:=ry;exact PySem.EqMixed.eq_str_int (z0P I q (by simp))
  | str j=>obtain ⟨t',rfl⟩:=ry;exact eq_str (z0P I q zv4)
  | _=>exact absurd (show false=true from hs) K0y
 | byt i =>
  obtain ⟨t,rfl⟩:=rx
  cases y with
  | byt j=>obtain ⟨t',rfl⟩:=ry;exact PySem.W.eq_bytes (z0P I q zx7)
  | _=>exact absurd (show false=true from hs) K0y
 | _=>cases y<;>exact absurd (show false=true from hs) K0y
theorem op_lt:OpR X (K1h .Lt) (rI0 λi j=>.bl (decide (i<j))):=opB0 λ_ _ _ _ _ _ _ q=>lt_int q
theorem op_le:OpR X (K1h .LtE) (rI0 λi j=>.bl (decide (i≤j))):=opB0 λ_ _ _ _ _ _ _ q=>le_int q
theorem zR2:OpR X (K1h .Gt) (rI0 λi j=>.bl (decide (j<i))):=opB0 λ_ _ _ _ _ _ _ q=>gt_int q
theorem zS5:OpR X (K1h .GtE) (rI0 λi j=>.bl (decide (j≤i))):=opB0 λ_ _ _ _ _ _ _ q=>ge_int q
theorem z94:OpR X (K1h .Lt) (λx y H Q=>∃i j,x=.str i/\y=.str j/\Q (.bl (decide (i.cps.toList<j.cps.toList))) H):=by
 intro pins s σ H x y v u Q I rx ry h
 obtain ⟨i,j,rfl,rfl,q⟩:=h
 obtain ⟨t,rfl⟩:=rx
 obtain ⟨t',rfl⟩:=ry
 exact lt_str (z0P I q rfl)
theorem z5V:OpR X (K1h .NotIn) (λx y H Q=>∃i j,x=.str i/\y=.str j/\Q (.bl (!(!(K1s j i 0 j.length 1).isEmpty))) H):=by
 intro pins s σ H x y v u Q I rx ry h
 obtain ⟨i,j,rfl,rfl,q⟩:=h
 obtain ⟨t,rfl⟩:=rx
 obtain ⟨t',rfl⟩:=ry
 exact notIn_str (z0P I q rfl)
theorem OpR.or {f:Value->Value->Sem Value}{r r':R2}(h:OpR X f r) (h':OpR X f r'):OpR X f (λx y H Q=>r x y H Q∨r' x y H Q):=by
 intro pins s σ H x y v u Q I rx ry q
 rcases q with q|q
 ·exact h pins s σ H x y v u Q I rx ry q
 ·exact h' pins s σ H x y v u Q I rx ry q
theorem zp7 (b:Expr) {op:CmpOp}(h:op≠.In:=by decide) (h2:op≠.NotIn:=by decide):K4c op b=false:=by
 have e1:(op==CmpOp.In)=false:=by cases op<;>first|rfl|exact absurd rfl h
 have e2:(op==CmpOp.NotIn)=false:=by cases op<;>first|rfl|exact absurd rfl h2
 cases b<;>simp [K4c,e1,e2]
theorem zr9 {op:CmpOp}{r:R2}(ho:OpR X (K1h op) r) (ha:PE X a ta) (hb:PE X b tb) (hm:K4c op b=false):PE X (.Compare a [op] [b] pos) (tOp r ta tb):=by
 intro pins s σ H Q I h
 exact wpAny_Compare1 (binT ha hb I h λv u s2 x y H2 I2 rx ry q=>ho pins s2 σ H2 x y v u Q I2 rx ry q) hm
def zr1 (t:TE):TT:=λσ H Q=>t σ H λx H'=>∃k,x=.bl k/\Q k H'
theorem zz3 {op:CmpOp}{r:R2}(ho:OpR X (K1h op) r) (ha:PE X a ta) (hb:PE X b tb) (hm:K4c op b=false):PT X (.Compare a [op] [b] pos) (zr1 (tOp r ta tb)):=by
 intro pins s σ H Q I h
 refine wpAny_isTrue_Compare1 (thn (ha pins s σ H _ I h) λv s1 ⟨x,H1,I1,r1,q1⟩=>thn (hb pins s1 σ H1 _ I1 q1) λu s2 ⟨y,H2,I2,r2,q2⟩ =>
  thn (ho pins s2 σ H2 x y v u _ I2 r1 r2 q2) λc s3 ⟨z,H3,I3,r3,k,e,q3⟩=>?_) hm
 subst e
 cases r3
 exact K1y ⟨H3,I3,q3⟩
def zb6 (r r':R2) (ta tb tc:TE):TE:=λσ H Q=>ta σ H λx H1=>tb σ H1 λy H2=>r x y H2 λz H3=>∃k,z=.bl k /\
 (if k=true then tc σ H3 λw' H4=>r' y w' H4 Q else Q (.bl false) H3)
theorem zd5 {op op':CmpOp}{r r':R2}(ho:OpR X (K1h op) r) (ho':OpR X (K1h op') r') (ha:PE X a ta) (hb:PE X b tb) (hc:PE X c tc)
 (hm:Z03 [op,op'] [b,c]=false:=by with_unfolding_all rfl):PE X (.Compare a [op,op'] [b,c] pos) (zb6 r r' ta tb tc):=by
 intro pins s σ H Q I h
 refine Compare_chain (thn (ha pins s σ H _ I h) λv s1 ⟨x,H1,I1,r1,q1⟩=>chain_link (thn (hb pins s1 σ H1 _ I1 q1) λu s2 ⟨y,H2,I2,r2,q2⟩ =>
  thn (ho pins s2 σ H2 x y v u _ I2 r1 r2 q2) λd s3 ⟨z,H3,I3,r3,k,e,q3⟩=>?_)) hm
 subst e
 cases r3
 refine K1y ?_
 cases k with
 | false=>exact ite_ff ⟨.bl false,H3,I3,rfl,q3⟩
 | true=>exact ite_tt (chain_last (thn (hc pins s3 σ H3 _ I3 q3) λw' s4 ⟨z',H4,I4,r4,q4⟩=>ho' pins s4 σ H4 y z' u w' Q I4 r2 r4 q4))
theorem zj2 {op op':CmpOp}{r r':R2}(ho:OpR X (K1h op) r) (ho':OpR X (K1h op') r') (ha:PE X a ta) (hb:PE X b tb) (hc:PE X c tc)
 (hm:Z03 [op,op'] [b,c]=false:=by with_unfolding_all rfl):PT X (.Compare a [op,op'] [b,c] pos) (zr1 (zb6 r r' ta tb tc)):=by
 intro pins s σ H Q I h
 refine isTrue_chain (thn (ha pins s σ H _ I h) λv s1 ⟨x,H1,I1,r1,q1⟩=>test_link (thn (hb pins s1 σ H1 _ I1 q1) λu s2 ⟨y,H2,I2,r2,q2⟩ =>
  thn (ho pins s2 σ H2 x y v u _ I2 r1 r2 q2) λd s3 ⟨z,H3,I3,r3,k,e,q3⟩=>?_)) hm
 subst e
 cases r3
 refine K1y ?_
 cases k with
 | false =>
  obtain ⟨k',e',q'⟩:=q3
  cases e'
  exact ite_ff ⟨H3,I3,q'⟩
 | true =>
  refine ite_tt (test_last (thn (hc pins s3 σ H3 _ I3 q3) λw' s4 ⟨z',H4,I4,r4,q4⟩=>thn (ho' pins s4 σ H4 y z' u w' _ I4 r2 r4 q4) λd' s5 ⟨z2,H5,I5,r5,k2,e2,q5⟩=>?_))
  subst e2
  cases r5
  exact K1y ⟨H5,I5,q5⟩
def TruV (K:K1) (x:V) (H:Hp) (k:Bool):Prop :=
 match x with
 | .non=>k=false
 | .bl b=>k=b
 | .int i=>k=(i != 0)
 | .str y=>y.length≤sizeLine/\k=((y.length:Int) != 0)
 | .byt y=>y.size≤sizeLine/\k=((y.size:Int) != 0)
 | .ref p=>(∃xs,SqL K H p xs/\k = !xs.isEmpty)∨(∃xs,SqT K H p xs/\k = !xs.isEmpty)∨∃kvs,H p=some (.dK kvs)/\k = !kvs.isEmpty
 | _=>False
theorem z8m {κ:Type}{kvs:List (κ×V)}{vs:List (κ×Value)}(r:KV kvs vs):(!vs.isEmpty) = !kvs.isEmpty:=by
 cases r<;>rfl
theorem z4D {xs:List V}{its:List Value}(r:Vals xs its):(!its.toArray.isEmpty) = !xs.isEmpty:=by
 cases r<;>simp
theorem z4G:(sizeLine:Nat)<2 ^ 63:=by rw [K77];decide
theorem zE5:TruR X (λx H Q=>∃k,TruV X.K x H k/\Q k H):=by
 intro pins s σ H x v Q I rx h
 obtain ⟨k,e,q⟩:=h
 have hl:=z4G
 have hs:sizeLine=16777216:=K77
 cases x with
 | non =>
  cases rx
  have e':k=false:=e
  subst e'
  exact truthy_none ⟨H,I,q⟩
 | bl b =>
  cases rx
  have e':k=b:=e
  subst e'
  exact K1y ⟨H,I,q⟩
 | int i =>
  obtain ⟨t,rfl⟩:=rx
  have e':k=(i != 0):=e
  subst e'
  exact PySem.P.truthy_int ⟨H,I,q⟩
 | str y =>
  obtain ⟨t,rfl⟩:=rx
  obtain ⟨hy,e'⟩:y.length≤sizeLine/\k=((y.length:Int) != 0):=e
  subst e'
  exact PySem.P.truthy_str (by omega) ⟨H,I.tok _,q⟩
 | byt y =>
  obtain ⟨t,rfl⟩:=rx
  obtain ⟨hy,e'⟩:y.size≤sizeLine/\k=((y.size:Int) != 0):=e
  subst e'
  exact PySem.W.truthy_bytes (by omega) ⟨H,I.tok _,q⟩
 | ref p =>
  cases rx
  have e':(∃xs,SqL X.K H p xs/\k = !xs.isEmpty)∨(∃xs,SqT X.K H p xs/\k = !xs.isEmpty)∨∃kvs,H p=some (.dK kvs)/\k = !kvs.isEmpty:=e
  rcases e' with ⟨xs,hx,e'⟩|⟨xs,hx,e'⟩|⟨kvs,hx,e'⟩
  ·subst e'
   obtain ⟨its,r,pl,hz⟩:=I.list hx
   have hlen:=r.length
   exact wpAny_truthy_list pl.isList (by simp only [K09];omega) ⟨H,I.tok _,by rw [z4D r];exact q⟩
  ·subst e'
   obtain ⟨its,r,pl,hz⟩:=I.tuple hx
   have hlen:=r.length
   exact truthy_tuple pl (by simp only [K09];omega) ⟨H,I.tok _,by rw [z4D r];exact q⟩
  ·subst e'
   obtain ⟨hz,hS,vs,r,m⟩:kvs.length≤sizeLine/\(p==K36)=false/\∃vs,KV kvs vs/\s.heap.DictOf (J0 X.prog X.w) p vs:=I.hok p _ hx
   have hlen:kvs.length=vs.length:=K4a r
   exact wpAny_truthy_dict hS m (by omega) ⟨H,I.tok _,by rw [z8m r];exact q⟩
 | _=>exact (show False from e).elim
theorem zf2 (ha:PE X a ta) (he:∀whole,isTrue a X.env whole=(do let v ← whole;K4f a.pos;K3l [v] (truthy v))) :
 PT X a (λσ H Q=>ta σ H λx H'=>∃k,TruV X.K x H' k/\Q k H'):=by
 intro pins s σ H Q I h
 exact isTrue_plain (thn (ha pins s σ H _ I h) λv s1 ⟨x,H1,I1,r1,q1⟩=>zE5 pins s1 σ H1 x v Q I1 r1 q1) (he _)
theorem op_add_str:OpR X (K37 .Add) (λx y H Q=>∃i j,x=.str i/\y=.str j/\i.length+j.length≤sizeLine/\Q (.str (i++j)) H):=by
 intro pins s σ H x y v u Q I rx ry h
 obtain ⟨i,j,rfl,rfl,hz,q⟩:=h
 obtain ⟨t,rfl⟩:=rx
 obtain ⟨t',rfl⟩:=ry
 exact add_str (λt' tk=>⟨.str (i++j),H,I.tok _,⟨_,rfl⟩,q⟩) hz
theorem vals1 {x:V}{us:List Value}(r:Vals [x] us):∃u,us=[u]/\RelV x u:=by
 cases r with
 | cons r1 r2=>cases r2;exact ⟨_,rfl,r1⟩
theorem vals2 {x y:V}{us:List Value}(r:Vals [x,y] us):∃u w',us=[u,w']/\RelV x u/\RelV y w':=by
 cases r with
 | cons r1 r2 =>
  cases r2 with
  | cons r3 r4=>cases r4;exact ⟨_,_,rfl,r1,r3⟩
theorem z6d (hc:X.calm=true):z2z X (.builtin "max") (λxs H Q=>∃i j,xs=[.int i,.int j]/\Q (.int (if j > i then j else i)) H):=by
 intro pins s σ H xs us Q I r h
 obtain ⟨i,j,rfl,q⟩:=h
 obtain ⟨u,w',rfl,⟨t,rfl⟩,⟨t',rfl⟩⟩:=vals2 r
 refine max_two_ints (I.ok.hd hc) λh' tk k=>⟨_,H,I.kept k,?_,q⟩
 by_cases hj:j > i
 ·rw [if_pos hj,if_pos hj];exact ⟨_,rfl⟩
 ·rw [if_neg hj,if_neg hj];exact ⟨_,rfl⟩
def LenV (K:K1) (x:V) (H:Hp) (n:Nat):Prop :=
 match x with
 | .str y=>y.length≤sizeLine/\n=y.length
 | .byt y=>y.size≤sizeLine/\n=y.size
 | .ref p=>(∃xs,SqL K H p xs/\n=xs.length)∨∃xs,SqT K H p xs/\n=xs.length
 | _=>False
theorem zi3:z2z X (.builtin "len") (λxs H Q=>∃x n,xs=[x]/\LenV X.K x H n/\Q (.int n) H):=by
 intro pins s σ H xs us Q I r h
 obtain ⟨x,n,rfl,e,q⟩:=h
 obtain ⟨u,rfl,rx⟩:=vals1 r
 have hl:=z4G
 have hs:sizeLine=16777216:=K77
 cases x with
 | str y =>
  obtain ⟨t,rfl⟩:=rx
  obtain ⟨hy,e'⟩:y.length≤sizeLine/\n=y.length:=e
  subst e'
  exact len_str (by omega) ⟨.int _,H,I.tok _,⟨_,rfl⟩,q⟩
 | byt y =>
  obtain ⟨t,rfl⟩:=rx
  obtain ⟨hy,e'⟩:y.size≤sizeLine/\n=y.size:=e
  subst e'
  exact PySem.W.len_bytes (by omega) ⟨.int _,H,I.tok _,⟨_,rfl⟩,q⟩
 | ref p =>
  cases rx
  have e':(∃xs,SqL X.K H p xs/\n=xs.length)∨∃xs,SqT X.K H p xs/\n=xs.length:=e
  rcases e' with ⟨xs,hx,e'⟩|⟨xs,hx,e'⟩
  ·subst e'
   obtain ⟨its,r',pl,hz⟩:=I.list hx
   have hlen:=r'.length
   exact Calls.call_len_list pl.isList (by simp only [K09];omega) ⟨.int xs.length,H,I.tok _,⟨_,by simp only [K09];rw [hlen]⟩,q⟩
  ·subst e'
   obtain ⟨its,r',pl,hz⟩:=I.tuple hx
   have hlen:=r'.length
   exact len_tuple pl (by simp only [K09];omega) ⟨.int xs.length,H,I.tok _,⟨_,by simp only [K09];rw [hlen]⟩,q⟩
 | _=>exact (show False from e).elim
end
structure ObjM (h:Heap) (x dx C:Addr) (mA:Str->Option Value):Prop where
 obj:h.get? x=some (K87 C dx)
 ns:h.Ns1 dx mA
 ne:dx≠x
theorem z9t {h:Heap}{dx:Addr}{mA:Str->Option Value}(n:h.Ns1 dx mA):∃od,h.get? dx=some od/\∀name,K8m name od=some (mA name):=by
 obtain ⟨o,es,ep,ho,hd,hk,_,hm⟩:=n
 refine ⟨o,ho,λname=>?_⟩
 have e:=hm name
 unfold nsFind findBy at e
 rw [← Array.find?_toList] at e
 unfold K8m
 rw [hd]
 dsimp only
 split
 ·rename_i y q
  rw [q] at e
  exact congrArg some e
 ·rename_i q
  rw [q] at e
  have a:es.toList.any (·.refKey)=false:=by
   rw [List.any_eq_false]
   intro y hy
   obtain ⟨z,t,hkey⟩:=hk y (Array.mem_toList_iff.mp hy)
   simp [DictEntry.refKey,hkey]
  have a':¬ es.toList.any (·.refKey)=true:=by rw [a];exact K0y
  rw [if_neg a']
  exact congrArg some e
theorem ObjM.look {h:Heap}{x dx C:Addr}{mA:Str->Option Value}(I:ObjM h x dx C mA):∃od,PySem.W.InstAt h x (K87 C dx) C (some od)/\∀name,K8m name od=some (mA name) :=
 let ⟨od,ho,hl⟩:=z9t I.ns
 ⟨od,⟨I.obj,rfl,rfl,ho⟩,hl⟩
section
variable {prog:K0n}{w:World}{A:Around}{E:Value->Shared->Prop}{s:Shared}{K:K1}{x dx C f:Addr}{mA:Str->Option Value}{name:Str}{v:Value}
end
theorem RelO.some_of {v:V}{o:Option Value}(r:RelO (some v) o):∃u,o=some u/\RelV v u:=by
 cases o with
 | none=>exact (show False from r).elim
 | some u=>exact ⟨u,rfl,r⟩
section
variable {P:K0n}{w:World}{H H':Hp}{h h':Heap}{a C dx:Addr}{fs fs':List (Str×V)}
theorem zz9 (hok:HOk P w H h) (e:H a=some (.ins C dx fs)):∃mA,ObjM h a dx C mA/\(∀f,RelO (fs.lookup f) (mA f))/\PySem.Within mA (fs.map (·.1))/\fs.length≤1000/\H dx=some (.own a):=by
 obtain ⟨d,z,ne,ob,mA,n,r,q⟩:=(show ObjOk P w H h a (.ins C dx fs) from hok a _ e)
 exact ⟨mA,⟨ob,n,ne⟩,r,q,z,d⟩
end
structure Cls (K:K1) (C:Addr):Prop where
 pg:K9y K C Str.empty=true
 hd:PySem.W.hasDictIn K C=true
 po:PySem.W.plainOver K C=true
 sa:Z0n K (.ref C) "__setattr__" = some (some (.builtin "object.__setattr__"))
theorem Cls.get {K:K1}{C:Addr}(c:Cls K C) (f:Str):K9y K C f=true:=c.pg
section
variable {X:Cx}{pins:List (Addr×Obj)}{σ:St}{H:Hp}{s:Shared}{a C dx:Addr}{fs:List (Str×V)}{f:Str}{v:V}{A:Around}{E:Value->Shared->Prop}
end
section
variable {X:Cx}{o e value:Expr}{f:Str}{pos pos' tpos:Pos}{ta tv:TE}
end
section
variable {X:Cx}{pins:List (Addr×Obj)}{σ:St}{H:Hp}{s:Shared}{A:Around}{E:Value->Shared->Prop}{Q:Value->Shared->Prop}{c:Value}{b:Bool}
inductive TyOf (K:K1) (H:Hp):V->Value->Prop where
 | non:TyOf K H .non (.type "NoneType")
 | bl (x:Bool):TyOf K H (.bl x) (.type "bool")
 | int (i:Int):TyOf K H (.int i) (.type "int")
 | str (x:Str):TyOf K H (.str x) (.type "str")
 | flt (x:UInt64):TyOf K H (.flt x) (.type "float")
 | lst {a:Addr} {xs:List V} (e:H a=.(l xs)):TyOf K H (.ref a) (.type "list")
 | frz {a:Addr} {o:Obj} {xs:List V} (e:H a=some (.frz o (.lst xs))):TyOf K H (.ref a) (.type "list")
 | tup {a:Addr} {xs:List V} (e:H a=.(g xs)):TyOf K H (.ref a) (.type "tuple")
 | dK {a:Addr} {kvs:List (Key×V)} (e:H a=some (.dK kvs)):TyOf K H (.ref a) (.type "dict")
 | dT {a:Addr} {kvs:List (List Key×V)} (e:H a=some (.dT kvs)):TyOf K H (.ref a) (.type "dict")
 | ins {a C dx:Addr} {fs:List (Str×V)} (e:H a=some (.ins C dx fs)) (cl:Cls K C) (ha:Z0n K (.ref C) "__class__" = some (some (.builtin "object.__class__")))
  (hn:PySem.W.specialIn K (.builtin "object.__class__") "__get__" = some (some (.builtin "getset_descriptor.__get__"))) (htk:PySem.W.takesIn K (.builtin "object.__class__")=some true)
  (hm:PySem.W.mroIn K C (.type "object")=some true):TyOf K H (.ref a) (.ref C)
theorem z8Y {x:V}{u t:Value}(I:Inv X pins σ H s) (rx:RelV x u) (ty:TyOf X.K H x t) (e:K5g X.K t c=some b) (h:∀tk,Q (.bool b) { s with toks:=tk }) :
 wpAny (model X.prog X.w) A (call (.builtin "isinstance") [u,c]) Q E s:=by
 cases ty with
 | non=>cases (show u=K2k from rx);exact K1d PySem.W.kitx_none I.kIn K2w e (λz=>nomatch z) h
 | bl y=>cases (show u=K6f y from rx);exact K1d PySem.W.kitx_bool I.kIn K2w e (λz=>nomatch z) h
 | int i=>obtain ⟨t,q⟩:=(show ∃t,u=K5t i t from rx);cases q;exact K1d PySem.W.kitx_int I.kIn K2w e (λz=>nomatch z) h
 | str y=>obtain ⟨t,q⟩:=(show ∃t,u=K8v y t from rx);cases q;exact K1d PySem.W.kitx_str I.kIn K2w e (λz=>nomatch z) h
 | flt y=>obtain ⟨t,q⟩:=(show ∃t,u=Value.float y t from rx);cases q;exact K1d PySem.W.kitx_float I.kIn K2w e (λz=>nomatch z) h
 | @lst a xs ea =>
  cases (show u=K1n a from rx)
  obtain ⟨_,_,n,_,h1⟩:=(show ObjOk X.prog X.w H s.heap a (.lst xs) from I.hok a _ ea)
  exact K1d K72 I.kIn ⟨_,h1,rfl⟩ e (λz=>nomatch z) h
 | @frz a ob xs ea =>
  cases (show u=K1n a from rx)
  obtain ⟨_,_,_,n,_,h1⟩:=(show ObjOk X.prog X.w H s.heap a (.frz ob (.lst xs)) from I.hok a _ ea)
  exact K1d K72 I.kIn ⟨_,h1,rfl⟩ e (λz=>nomatch z) h
 | @tup a xs ea =>
  cases (show u=K1n a from rx)
  obtain ⟨_,_,_,p⟩:=(show ObjOk X.prog X.w H s.heap a (.tup xs) from I.hok a _ ea)
  obtain ⟨o,h1,h2,_⟩:=p
  exact K1d K97 I.kIn ⟨o,h1,h2.1⟩ e (λz=>nomatch z) h
 | @dK a kvs ea =>
  cases (show u=K1n a from rx)
  obtain ⟨_,_,vs,_,p⟩:=(show ObjOk X.prog X.w H s.heap a (.dK kvs) from I.hok a _ ea)
  obtain ⟨o,es,ep,h1,h2,_⟩:=p
  exact K1d K73 I.kIn ⟨o,h1,h2.1⟩ e (λz=>nomatch z) h
 | @dT a kvs ea =>
  cases (show u=K1n a from rx)
  obtain ⟨_,_,xs,_,o,es,ep,h1,h2,_⟩:=(show ObjOk X.prog X.w H s.heap a (.dT kvs) from I.hok a _ ea)
  exact K1d K73 I.kIn ⟨o,h1,h2.1⟩ e (λz=>nomatch z) h
 | @ins a C dx fs ea cl ha hn htk hm =>
  cases (show u=K1n a from rx)
  obtain ⟨mA,O,_⟩:=zz9 I.hok ea
  obtain ⟨od,J,_⟩:=O.look
  exact K1d (PySem.W.kitx_own (cl.get _) cl.hd ha hn htk hm) I.kIn J e (λz=>nomatch z) h
end
structure Room (k:Nat) (A:Around):Prop where
 hd:A.handled=none
 dp:A.depth+3 * k+5<recursionLimit
 un:A.units+16 * k+200<cLine
 gd:A.guards=some []
theorem Room.mono {j k:Nat}{A:Around}(r:Room k A) (h:j≤k):Room j A:=⟨r.hd,by have:=r.dp;omega,by have:=r.un;omega,r.gd⟩
theorem Room.deeper {k:Nat}{A:Around}(r:Room (k+1) A) (env:Env):Room k (A.deeper env) :=
 ⟨r.hd,by have:=r.dp;show A.depth+1+3 * k+5<_;omega,by have:=r.un;show A.units+3+16 * k+200<_;omega,r.gd⟩
theorem Room.depth {k:Nat}{A:Around}(r:Room k A):A.depth<recursionLimit:=by have:=r.dp;omega
theorem Room.units {k:Nat}{A:Around}(r:Room k A):A.units+64<cLine:=by have:=r.un;omega
def tNil:TA:=λ_ H Q=>Q [] H
def zk9 (ta:TE) (tr:TA):TA:=λσ H Q=>ta σ H λx H1=>tr σ H1 λxs H2=>Q (x::xs) H2
section
variable {X:Cx}{e:Expr}{es:List Expr}{te:TE}{t:TA}{pos:Pos}
theorem z23:PA X [] tNil:=λ_ _ _ _ H Q I h=>Calls.spliced_nil ⟨[],H,I,.nil,h⟩
theorem z0G (ha:PE X e te) (hr:PA X es t) (hs:K0b (e::es) X.env=(false,eval e X.env)::K0b es X.env:=by rfl):PA X (e::es) (zk9 te t):=by
 intro pos pins s σ H Q I h
 rw [hs]
 show wpAny _ _ (spliced ((false,eval e X.env)::backTo pos (K0b es X.env))) _ _ s
 refine Calls.spliced_cons (thn (ha pins s σ H _ I h) λu s1 ⟨x,H1,I1,r1,q1⟩=>?_)
 exact thn (hr pos pins s1 σ H1 _ I1 q1) λus s2 ⟨xs,H2,I2,r2,q2⟩=>⟨x::xs,H2,I2,.cons r1 r2,q2⟩
def tTup (t:TA):TE:=λσ H Q=>t σ H λxs H1=>xs.length≤sizeLine/\∀p,H1 p=none->Q (.ref p) (upd H1 p (.tup xs))
def tLst (t:TA):TE:=λσ H Q=>t σ H λxs H1=>xs.length≤sizeLine/\∀p,H1 p=none->Q (.ref p) (upd H1 p (.lst xs))
theorem zK1 {x1}(h:PA X es t):PE X (.Tuple es x1 pos) (tTup t):=by
 intro pins s σ H Q I hq
 refine wpAny_Tuple_spliced (thn (h pos pins s σ H _ I hq) λus s1 ⟨xs,H1,I1,r,z,q⟩=>⟨by rw [← r.length];exact z,?_⟩)
 have hf:H1 s1.heap.objs.size=none:=I1.hok.fresh (K01 _)
 refine ⟨.ref s1.heap.objs.size,upd H1 s1.heap.objs.size (.tup xs),I1.laid (t':=s1.toks) (λb u e=>K6 _ e) (K01 _) ?_,rfl,q _ hf⟩
 exact ⟨z,us,r,⟨_,K05 _ rfl,⟨rfl,rfl⟩,_,rfl⟩⟩
theorem zG3 (h:PA X es t):PE X (.List es pos) (tLst t):=by
 intro pins s σ H Q I hq
 refine wpAny_List_spliced (thn (h pos pins s σ H _ I hq) λus s1 ⟨xs,H1,I1,r,z,q⟩=>⟨by rw [← r.length];exact z,?_⟩)
 have hf:H1 s1.heap.objs.size=none:=I1.hok.fresh (K01 _)
 refine ⟨.ref s1.heap.objs.size,upd H1 s1.heap.objs.size (.lst xs),I1.laid (t':=s1.toks) (λb u e=>K6 _ e) (K01 _) ?_,rfl,q _ hf⟩
 exact ⟨z,us,0,r,K05 _ rfl⟩
end
abbrev Sp:=List V->Hp->VK->XK->Prop
abbrev CXT:=List Env->Hp->Shared->XK->Value->Shared->Prop
structure Env0 (P:K0n) (w:World) (K:K1) (mg:Str->Option Value) (base:Heap) (A:Around) (outer:List Env) (s:Shared) (H:Hp):Prop where
 frames:A.frames=some outer
 mod:Mod K mg base
 bs:∀b o,base.get? b=some o->s.heap.get? b=some o/\H b=none
 bsz:base.objs.size≤s.heap.objs.size
 funs:s.heap.FunFrames base outer
 frf:∀b∈frs outer,H b=none
 hok:HOk P w H s.heap
 bare:K6b s.gens
def CE (outer:List Env) (P:K0n) (w:World) (H:Hp) (s:Shared) (Q:VK) (u:Value) (s':Shared):Prop :=
 ∃v H',s'.os=s.os/\K6b s'.gens/\Un (frs outer) [] H H' s.heap s'.heap/\HOk P w H' s'.heap/\RelV v u/\Q v H'
def CR (CX:CXT) (outer:List Env) (P:K0n) (w:World) (H:Hp) (s:Shared) (Q:VK) (E:XK) (r:Result) (s':Shared):Prop :=
 match r with
 | .ok (.ret u)=>CE outer P w H s Q u s'
 | .ok _=>False
 | .error e=>CX outer H s E e s'
structure FnOk (P:K0n) (w:World) (K:K1) (mg:Str->Option Value) (base:Heap) (CX:CXT) (k:Nat) (f:Addr) (fd:K2i) (ps:List Str) (sp:Sp):Prop where
 len:∀vs H Q E,sp vs H Q E->vs.length=ps.length
 run:∀(A:Around) (outer:List Env) (s:Shared) (H:Hp) (args:Args) (us:List Value) (vs:List V) (Q:VK) (E:XK),Room k A->Env0 P w K mg base A outer s H->K9n s fd args (ps.zip us)->Vals vs us->sp vs H Q E ->
  K5j (model P w) A (.call (.ref f) args) (CR CX outer P w H s Q E) s
theorem FnOk.imp {P:K0n}{w:World}{K:K1}{mg:Str->Option Value}{base:Heap}{CX:CXT}{k:Nat}{f:Addr}{fd:K2i}{ps:List Str}{sp sp':Sp}(F:FnOk P w K mg base CX k f fd ps sp)
 (h:∀vs H Q E,sp' vs H Q E->sp vs H Q E):FnOk P w K mg base CX k f fd ps sp' :=
 ⟨λvs H Q E q=>F.len vs H Q E (h _ _ _ _ q),λA outer s H args us vs Q E hr he hb hv hs=>F.run A outer s H args us vs Q E hr he hb hv (h _ _ _ _ hs)⟩
section
variable {X:Cx}{pins:List (Addr×Obj)}{σ:St}{H:Hp}{s s':Shared}
theorem Inv.env0 (I:Inv X pins σ H s):Env0 X.prog X.w X.K X.mg X.base X.A X.stack s H :=
 ⟨I.ok.frames,I.ok.mod,I.bs,K0m I.ok.bsz I.sz,I.stack,I.stkFree,I.hok,I.bare⟩
theorem Inv.after {Q:VK}{u:Value}(I:Inv X pins σ H s) (h:CE X.stack X.prog X.w H s Q u s'):EP X pins σ Q u s':=by
 obtain ⟨v,H',os,bare,un,hok,r,q⟩:=h
 obtain ⟨hh,g,d,t,os'⟩:=s'
 obtain rfl:os'=s.os:=os
 exact ⟨v,H',I.call (h':=hh) (g':=g) (d':=d) (t':=t) (ch:=[]) un hok bare (λb z=>absurd z (by simp)),r,q⟩
end
def zR8 (sp:Sp) (dvs:List V) (E:XK) (t:TA):TE:=λσ H Q=>t σ H λvs H1=>sp (vs++dvs) H1 Q E
def Binds (K:K1) (fd:K2i) (ps:List Str) (ds:List Value):Prop :=
 ∀(s:Shared) (us:List Value),K.In s.heap->(us++ds).length=ps.length->K9n s fd ⟨us,[]⟩ (ps.zip (us++ds))
theorem Binds.all {K:K1}{fd:K2i}{ps:List Str}(h:∀us:List Value,us.length=ps.length->bindArgs fd ⟨us,[]⟩=pure (ps.zip us)):Binds K fd ps []:=λs us _ hl=>by
 rw [K1u] at hl ⊢
 exact .of_eq (h us hl)
def z9O (CX:CXT) (X:Cx) (E:XK):Prop:=∀(pins:List (Addr×Obj)) (σ:St) (H:Hp) (s:Shared) (e:Value) (s':Shared),Inv X pins σ H s->CX X.stack H s E e s'->X.xe e s'
section
variable {X:Cx}{CX:CXT}{k:Nat}{f C:Addr}{fd:K2i}{ps:List Str}{sp:Sp}{dvs:List V}{ds:List Value}{E:XK}{x m:Str}{p pos apos:Pos}{e o:Expr}{es:List Expr}{ta:TE}{t:TA}
theorem zO4 {pins:List (Addr×Obj)}{σ:St}{H:Hp}{s:Shared}{Q:VK}{us:List Value}{vs:List V}(F:FnOk X.prog X.w X.K X.mg X.base CX k f fd ps sp) (hr:Room k X.A) (hb:Binds X.K fd ps ds) (hd:Vals dvs ds) (hx:z9O CX X E)
 (I:Inv X pins σ H s) (r:Vals vs us) (h:sp (vs++dvs) H Q E):wpAny (model X.prog X.w) X.A (call (.ref f) us) (EP X pins σ Q) X.xe s:=by
 have r2:Vals (vs++dvs) (us++ds):=r.append hd
 have hl:(us++ds).length=ps.length:=by rw [← r2.length];exact F.len _ _ _ _ h
 refine wpAny_call (K42 (F.run X.A X.stack s H ⟨us,[]⟩ (us++ds) (vs++dvs) Q E hr I.env0 (hb s us I.kIn hl) r2 h) λr s' hq=>?_)
 cases r with
 | error e=>exact hx pins σ H s e s' I hq
 | ok fl =>
  cases fl with
  | ret u=>exact I.after hq
  | next=>exact K3o hq
  | brk=>exact K3o hq
  | cont=>exact K3o hq
theorem zx6 (F:FnOk X.prog X.w X.K X.mg X.base CX k f fd ps sp) (hr:Room k X.A) (hg:Gl X x) (hm:X.mg x=.(r f)) (hk:K5h X.K (.ref f)=true) (hb:Binds X.K fd ps ds) (hd:Vals dvs ds) (hx:z9O CX X E)
 (ha:PA X (e::es) t) (hdb:(x==("__debug__":Str))=false:=by decide) (he:K0b (e::es) X.env=(false,eval e X.env)::K0b es X.env:=by rfl) (hpl:(backTo pos (K0b es X.env)).any (·.1)=false:=by rfl) :
 PE X (.Call (.Name x p) (e::es) [] pos) (zR8 sp dvs E t):=by
 intro pins s σ H Q I h
 refine K6l (z9b I hg hm ?_ hdb)
 refine PySem.W.callWith_K (h₀:=X.base) I.ok.mod.kin hk (thn (ha pos pins s σ H _ I h) λus s1 ⟨vs,H1,I1,r,q⟩=>⟨I1.kIn,?_⟩) he hpl
 exact zO4 F hr hb hd hx I1 r q
end
section
variable {X:Cx}{CX:CXT}{k:Nat}{f C:Addr}{fd:K2i}{ps ks:List Str}{sp:Sp}{E:XK}{x m:Str}{p pos apos kpos:Pos}{e o:Expr}{es:List Expr}{kws:List K44}{te ta:TE}{t tk:TA}{nm:Option Str}
variable {g:List Value->List Value->List Value}{gV:List V->List V->List V}
end
structure FnScope (N P:List Str) (sc:Scope):Prop where
 kind:sc.kind=.function
 co:sc.isCoroutine=false
 gen:sc.isGenerator=false
 nd:N.Nodup
 pre:N.take P.length=P
 par:∀x∈P,sc.names.lookup x=some .local∨sc.names.lookup x=some .cell
 nofree:∀y∈sc.names,y.2≠.free
theorem z5X {kindOf:Str->Option K5i}{x:Str}:∀{binds:List (Str×Value)}{m:Str->Option Value},(∀v,(x,v)∉binds)->bindL kindOf binds m x=m x
 | [],_,_=>rfl
 | (n,v)::r,m,h=>by
  unfold bindL
  rw [z5X λw hw=>h w (K1a _ hw)]
  split
  ·have:x≠n:=by rintro rfl;exact h v K1k
   simp [this]
  ·rfl
theorem z6f {kindOf:Str->Option K5i}{x:Str}:∀{binds:List (Str×Value)}{m:Str->Option Value},(∀v,(x,v)∉binds)->bindC kindOf binds m x=m x
 | [],_,_=>rfl
 | (n,v)::r,m,h=>by
  unfold bindC
  rw [z6f λw hw=>h w (K1a _ hw)]
  split
  ·rfl
  ·have:x≠n:=by rintro rfl;exact h v K1k
   simp [this]
theorem z6k {kindOf:Str->Option K5i}{x:Str}{v:Value}:∀{P:List Str}{vs:List Value}{i:Nat}{m:Str->Option Value},P.Nodup->P[i]?=some x->vs[i]?=some v->kindOf x=some .local ->
 bindL kindOf (P.zip vs) m x=some v
 | [],_,_,_,_,h,_,_=>by simp at h
 | _::_,[],_,_,_,_,h,_=>by simp at h
 | p::P,w::vs,0,m,nd,h1,h2,hk=>by
  simp at h1 h2;subst h1;subst h2
  show bindL kindOf ((p,w)::P.zip vs) m p=_
  unfold bindL
  rw [z5X λv hv=>(K61.mp nd).1 (K89 hv).1,if_pos hk]
  simp
 | p::P,w::vs,i+1,m,nd,h1,h2,hk=>by
  show bindL kindOf ((p,w)::P.zip vs) m x=_
  unfold bindL
  exact z6k (i:=i) (K61.mp nd).2 (by simpa using h1) (by simpa using h2) hk
theorem z5M {kindOf:Str->Option K5i}{x:Str}{v:Value}:∀{P:List Str}{vs:List Value}{i:Nat}{m:Str->Option Value},P.Nodup->P[i]?=some x->vs[i]?=some v->kindOf x≠some .local ->
 bindC kindOf (P.zip vs) m x=some v
 | [],_,_,_,_,h,_,_=>by simp at h
 | _::_,[],_,_,_,_,h,_=>by simp at h
 | p::P,w::vs,0,m,nd,h1,h2,hk=>by
  simp at h1 h2;subst h1;subst h2
  show bindC kindOf ((p,w)::P.zip vs) m p=_
  unfold bindC
  rw [z6f λv hv=>(K61.mp nd).1 (K89 hv).1,if_neg hk]
  simp
 | p::P,w::vs,i+1,m,nd,h1,h2,hk=>by
  show bindC kindOf ((p,w)::P.zip vs) m x=_
  unfold bindC
  exact z5M (i:=i) (K61.mp nd).2 (by simpa using h1) (by simpa using h2) hk
def start (N:List Str) (vs:List V):St:=vs.map some++K0d (N.length - vs.length) none
def cxOf (CX:CXT) (P:K0n) (w:World) (K:K1) (mg:Str->Option Value) (base:Heap) (N:List Str) (qual:Str) (scope:Scope) (f:Addr) (cd:Value) (A:Around) (outer:List Env) (s:Shared) (H:Hp) (E:XK):Cx where
 prog:=P
 w:=w
 K:=K
 mg:=mg
 base:=base
 A:=A.deeper (envOfC qual scope s.heap.objs.size f cd)
 N:=N
 s₀:=s
 H₀:=H
 env:=envOfC qual scope s.heap.objs.size f cd
 outer:=outer
 stack:=envOfC qual scope s.heap.objs.size f cd::outer
 ex:=[]
 calm:=true
 fn:=λ_=>true
 pn:=[]
 xe:=λe s'=>wpAny (model P w) (A.deeper (envOfC qual scope s.heap.objs.size f cd)) (leaving (envOfC qual scope s.heap.objs.size f cd) e) (λ_ s''=>CX outer H s E e s'') (λe' s''=>CX outer H s E e' s'') s'
theorem z84 {sc:Scope}{n:Nat}{x:Str}(h:sc.names.lookup x=some .cell):∃c,(cellsFrom n sc.names []).lookup x=some c:=by
 have q:=K80 sc.names n [] (.inl h)
 exact Option.isSome_iff_exists.mp q
theorem z8K {CX:CXT}{P:K0n}{w:World}{K:K1}{mg:Str->Option Value}{base:Heap}{N ps:List Str}{qual:Str}{scope:Scope}{f:Addr}{cd:Value}{A:Around}{outer:List Env}{s s1:Shared}{H:Hp}{E:XK}{us:List Value}{vs:List V}
 (S:FnScope N ps scope) (hd:A.handled=none) (e0:Env0 P w K mg base A outer s H) (hl:vs.length=ps.length) (r:Vals vs us)
 (x:InCallC s s.heap.objs.size (bindL (envOfC qual scope s.heap.objs.size f cd).kindOf (ps.zip us) λ_=>none) (cellsFrom (s.heap.objs.size+1) scope.names []) (bindC (envOfC qual scope s.heap.objs.size f cd).kindOf (ps.zip us) λ_=>none) s1) :
 Inv (cxOf CX P w K mg base N qual scope f cd A outer s H E) [] (start N vs) H s1:=by
 have hpl:ps.length≤N.length:=by have:=congrArg Z09 S.pre;rw [K26] at this;omega
 obtain ⟨h1,tk,rfl,hk⟩:=x.done
 have noA:∀b:Addr,b∉(cxOf CX P w K mg base N qual scope f cd A outer s H E).ex:=λb z=>absurd (show b∈([]:List Addr) from z) (by simp)
 refine ⟨⟨e0.mod,S.kind,rfl,rfl,K01 _,λy z c h1 h2=>?_,λy hy=>?_,λy c _ h=>?_,λ_=>hd,Around.frames_deeper e0.frames,.inr ⟨rfl,rfl⟩,λb z=>absurd z (noA b),e0.bs,e0.bsz,λb _ _=>noA b,λb z=>absurd z (noA b),e0.funs,e0.frf⟩,
  rfl,e0.bare,Un.kept hk,⟨_,x.toInCall.ns,λi y v h1 h2 h3=>?_⟩,λy c h=>⟨_,x.cell y c h⟩,e0.hok.fresh (K01 _),λy c h=>?_,λp hp=>absurd (show p∈([]:List (Addr×Obj)) from hp) (by simp),e0.hok.kept hk,?_⟩
 ·exact name_of_addr x.apart (K1w h1) (K1w h2)
 ·have hy:scope.names.lookup y=some .cell∨scope.names.lookup y=some .free:=hy
  rcases hy with hy|hy
  ·exact z84 hy
  ·exact absurd rfl (S.nofree _ (K1w hy))
 ·exact K23 (x.above y c (K1w h))
 ·have hi:i<vs.length:=by
   unfold start at h2
   by_cases hi:i<vs.length
   ·exact hi
   ·rw [K38 (by simpa using hi)] at h2
    rw [K27] at h2
    split at h2<;>cases h2
  have ha:vs[i]?=some v:=by
   unfold start at h2
   rw [K0s (by simpa using hi),K0e] at h2
   cases e:vs[i]? with
   | none=>rw [e] at h2;cases h2
   | some a=>rw [e] at h2;cases h2;rfl
  obtain ⟨u,hu,rv⟩:=r.get ha
  have hp:ps[i]?=some y:=by
   rw [← S.pre,List.getElem?_take_of_lt (by omega)];exact h1
  have ndP:ps.Nodup:=by rw [← S.pre];exact S.nd.sublist (K9p _ _)
  refine ⟨u,rv,?_⟩
  rcases S.par y (K03 hp) with k|k
  ·exact .inl ⟨k,z6k ndP hp hu k⟩
  ·obtain ⟨c,e⟩:=z84 (n:=s.heap.objs.size+1) k
   refine .inr ⟨.inl k,c,e,?_⟩
   have q:=x.cell y c e
   rw [z5M ndP hp hu (by show scope.names.lookup y≠_;rw [k];decide)] at q
   exact q
 ·exact e0.hok.fresh (K23 (x.above y c (K1w h)))
 ·unfold start
  show _=N.length
  rw [K08,K00,List.length_replicate]
  omega
theorem zF4 {CX:CXT}{P:K0n}{w:World}{K:K1}{mg:Str->Option Value}{base:Heap}{k:Nat}{f:Addr}{name qual:Str}{params:Arguments}{body:List Stmt}{scope:Scope}{dV kV doc pm cdv ct oc:Value}{an od:Option Addr}
 {osl:Array (Option Value)} {N ps:List Str} {sp:Sp} (lk:K.lookup f=some ⟨oc,od,.func (K3f name qual params body scope dV kV doc pm an cdv ct),osl⟩) (hcd:K3t K cdv qual=true) (S:FnScope N ps scope)
 (len:∀vs H Q E,sp vs H Q E->vs.length=ps.length)
 (hbody:∀(A:Around) (outer:List Env) (s:Shared) (H:Hp) (vs:List V) (Q:VK) (E:XK),Room k (A.deeper (envOfC qual scope s.heap.objs.size f cdv))->sp vs H Q E ->
  ∃t,PSs (cxOf CX P w K mg base N qual scope f cdv A outer s H E) body t/\t { nx:=λ_ H'=>Q .non H',rt:=Q } (start N vs) H) :
 FnOk P w K mg base CX (k+1) f (K3f name qual params body scope dV kV doc pm an cdv ct) ps sp:=by
 refine ⟨len,λA outer s H args us vs Q E hr e0 hb r hsp=>?_⟩
 have hl:=len _ _ _ _ hsp
 have KX:K.In s.heap:=e0.mod.kin.keeps λb o e=>(e0.bs b o e).1
 have lim:s.heap.NoLimit:=e0.mod.nolimit.keeps λb o e=>(e0.bs b o e).1
 have hkind:∀y∈ps.zip us,scope.names.lookup y.1=some .local∨(scope.names.lookup y.1=some .cell/\((cellsFrom (s.heap.objs.size+1) scope.names []).lookup y.1).isSome=true):=λ⟨n,v⟩ hy=>by
  rcases S.par n (K89 hy).1 with q|q
  ·exact .inl q
  ·exact .inr ⟨q,K80 _ _ _ (.inl q)⟩
 refine codeAny_call_function hr.depth (KX _ _ lk) rfl S.co S.gen rfl (PySem.W.codeRec_of KX hcd) (hb _ _ _ _ ?_)
 refine wpAny_newFunctionEnv_cells S.kind hkind λenv he s1 x=>?_
 subst he
 refine ⟨lim.keeps x.toInCall.keep,codeAny_func ?_⟩
 obtain ⟨t,ht,hq⟩:=hbody A outer s H vs Q E (hr.deeper _) hsp
 have I:Inv (cxOf CX P w K mg base N qual scope f cdv A outer s H E) [] (start N vs) H s1:=z8K S hr.hd e0 hl r x
 refine K3p (ht [] s1 (start N vs) H _ I hq) (λfl s' hs=>?_) λe s' hs=>hs
 have fin:∀{σ':St} {H':Hp} {v:V} {u:Value},Inv (cxOf CX P w K mg base N qual scope f cdv A outer s H E) [] σ' H' s'->RelV v u->Q v H'->CE outer P w H s Q u s' :=
  λ{σ' H' v u} J rv q=>⟨v,H',J.os,J.bare,J.base,J.hok,rv,q⟩
 cases fl with
 | ret u =>
  obtain ⟨v,σ',H',J,rv,q⟩:=hs
  exact fin J rv q
 | next =>
  obtain ⟨σ',H',J,q⟩:=hs
  exact fin (v:=V.non) (u:=K2k) J rfl q
 | brk =>
  obtain ⟨_,_,_,q⟩:=hs
  exact K3o q
 | cont =>
  obtain ⟨_,_,_,q⟩:=hs
  exact K3o q
section
variable {X:Cx}{x:Str}{p pos:Pos}{e:Expr}{es:List Expr}{t:TA}{id T:String}{r:List V->Hp->VK->Prop}
def tCB (r:List V->Hp->VK->Prop) (t:TA):TE:=λσ H Q=>t σ H λvs H1=>r vs H1 Q
theorem z1v (hc:z2z X (.builtin id) r) (hg:Gl X x) (hm:X.mg x=none) (hv:K4q x=some (.builtin id)) (ha:PA X (e::es) t) (hn:x≠"__name__":=by decide) (hdb:(x==("__debug__":Str))=false:=by decide)
 (he:K0b (e::es) X.env=(false,eval e X.env)::K0b es X.env:=by rfl) (hpl:(backTo pos (K0b es X.env)).any (·.1)=false:=by rfl):PE X (.Call (.Name x p) (e::es) [] pos) (tCB r t):=by
 intro pins s σ H Q I h
 refine K6l (z4R I hg hm hv ?_ hn hdb)
 exact PyProof.Rows.callWith_builtin1 (thn (ha pos pins s σ H _ I h) λus s1 ⟨vs,H1,I1,r1,q1⟩=>hc pins s1 σ H1 vs us Q I1 r1 q1) he hpl
theorem z1a (hc:z2z X (.type T) r) (hg:Gl X x) (hm:X.mg x=none) (hv:K4q x=some (.type T)) (ha:PA X (e::es) t) (hn:x≠"__name__":=by decide) (hdb:(x==("__debug__":Str))=false:=by decide)
 (he:K0b (e::es) X.env=(false,eval e X.env)::K0b es X.env:=by rfl) (hpl:(backTo pos (K0b es X.env)).any (·.1)=false:=by rfl):PE X (.Call (.Name x p) (e::es) [] pos) (tCB r t):=by
 intro pins s σ H Q I h
 refine K6l (z4R I hg hm hv ?_ hn hdb)
 exact K30 (thn (ha pos pins s σ H _ I h) λus s1 ⟨vs,H1,I1,r1,q1⟩=>hc pins s1 σ H1 vs us Q I1 r1 q1) he hpl
end
end L2
namespace HT
open PySem PyProof.Rows
section
open PySem.SeqAt
open PySem.AutoSeq1 (wpAny_loadPart')
open PySem.MeetsSeq PySem.MeetsSeq2 PySem.MeetsSeq3
end
section
variable {prog:K0n}{w:World}{A:Around}{E:Value->Shared->Prop}{s:Shared}
theorem cat_tup {t b:Addr}{vs ws:List Value}{Q:Value->Shared->Prop}(ht:IsTup s.heap t vs.toArray) (hb:IsTup s.heap b ws.toArray) (hv:vs≠[])
 (h1:ws=[]->Q (.ref t) s) (h2:ws≠[]->Q (.ref s.heap.objs.size) { s with heap:=s.heap.push { cls:=.type "tuple",data:=.seq (vs++ws).toArray } })
 (hsz:vs.length+ws.length≤sizeLine):wpAny (model prog w) A (K37 .Add (.ref t) (.ref b)) Q E s:=by
 obtain ⟨⟨cls,dd,data,sl⟩,ho,hc,n,hd⟩:=id ht
 obtain ⟨⟨cls2,dd2,data2,sl2⟩,ho2,hc2,n2,hd2⟩:=id hb
 simp only at hc hd hc2 hd2
 subst hc hd hc2 hd2
 have e:vs.toArray++ws.toArray=(vs++ws).toArray:=by simp
 by_cases hw:ws=[]
 ·exact K9t ⟨_,ho,rfl⟩ ⟨_,ho2,rfl⟩ K7r K92 K5l K5a (K4w _ _)
   (tuple_addW1 t b vs.toArray ws.toArray n n2 dd dd2 sl sl2 (by simpa using hv) (by simp [hw])) ⟨ho,ho2,h1 hw⟩
 ·refine K9t ⟨_,ho,rfl⟩ ⟨_,ho2,rfl⟩ K7r K92 K5l K5a (K4w _ _)
   (tuple_addW2 t b vs.toArray ws.toArray n n2 dd dd2 sl sl2 (by simpa using hv) (by simpa using hw) (by rw [K09,K09];exact hsz)) ⟨ho,ho2,?_⟩
  rw [e]
  exact h2 hw
def sIx (n d:Nat):Option Int->Nat
 | none=>d
 | some v=>if v<0 then (v+(n:Int)).toNat else min v.toNat n
end
end HT
namespace L2
abbrev TO:=St->Hp->(Option Int->Hp->Prop)->Prop
theorem intsAre_of {ns:List Int}:∀{us:List Value},Vals (ns.map V.int) us->K5m us ns:=by
 induction ns with
 | nil=>intro us r;rw [K3z] at r;cases r;exact .nil
 | cons n ns ih =>
  intro us r
  rw [K0t] at r
  cases r with
  | cons r1 r2 =>
   obtain ⟨t,e⟩:=r1
   subst e
   exact .cons n t (ih r2)
section
variable {X:Cx}{e:Expr}{te:TE}{lo hi:Option Expr}{tl th:TO}{pos p2:Pos}
def zz6 (K:K1):R2:=λx y H Q=>∃a b xs ys,x=.ref a/\y=.ref b/\SqT K H a xs/\SqT K H b ys/\xs≠[]/\xs.length+ys.length≤sizeLine /\
 (ys=[]->Q (.ref a) H)/\(ys≠[]->∀p,H p=none->Q (.ref p) (upd H p (.tup (xs++ys))))
theorem Vals.nil_iff {xs:List V}{us:List Value}(r:Vals xs us):us=[]↔xs=[]:=by
 cases r with
 | nil=>simp
 | cons _ _=>simp
theorem op_catT:OpR X (K37 .Add) (zz6 X.K):=by
 intro pins s σ H x y v u Q I rx ry h
 obtain ⟨a,b,xs,ys,rfl,rfl,ha,hb,hx,hz,q1,q2⟩:=h
 cases rx
 cases ry
 obtain ⟨its,r1,p1,_⟩:=I.tuple ha
 obtain ⟨its2,r2,p2,_⟩:=I.tuple hb
 refine HT.cat_tup p1 p2 (λz=>hx (r1.nil_iff.mp z)) (λz=>⟨.ref a,H,I,rfl,q1 (r2.nil_iff.mp z)⟩) (λz=>?_) (by rw [← r1.length,← r2.length];exact hz)
 refine ⟨.ref s.heap.objs.size,_,I.laid (t':=s.toks) (o:=.tup (xs++ys)) (λb ob q=>K6 _ q) (K01 _) ?_,rfl,q2 (λw=>z (r2.nil_iff.mpr w)) _ (I.hok.fresh (K01 _))⟩
 exact ⟨by rw [K08];exact hz,_,r1.append r2,FT.IsTup0.new _ _⟩
end
def ixN (n:Nat) (i:Int):Option Nat:=if 0≤i then (if i<n then some i.toNat else none) else if -(n:Int)≤i then some (i+n).toNat else none
def atI {α:Type} (xs:List α) (i:Int):Option α:=(ixN xs.length i).bind λj=>xs[j]?
theorem z9j {n:Nat}{i:Int}{j:Nat}(h:ixN n i=some j):K57 i n=some j/\j<n/\-(n:Int)≤i/\i<n:=by
 unfold ixN at h
 by_cases h0:0≤i
 ·rw [if_pos h0] at h
  by_cases h1:i<n
  ·rw [if_pos h1] at h
   have e:i.toNat=j:=K13 h
   exact ⟨by rw [Z0c h0 h1,e],by omega,by omega,h1⟩
  ·rw [if_neg h1] at h;cases h
 ·rw [if_neg h0] at h
  by_cases h1:-(n:Int)≤i
  ·rw [if_pos h1] at h
   have e:(i+n).toNat=j:=K13 h
   exact ⟨by rw [K9s (by omega) h1,e],by omega,h1,by omega⟩
  ·rw [if_neg h1] at h;cases h
theorem z6I {α:Type}{xs:List α}{i:Int}{v:α}(h:atI xs i=some v):∃j,K57 i xs.length=some j/\xs[j]?=some v/\j<xs.length/\-(xs.length:Int)≤i/\i<xs.length:=by
 unfold atI at h
 cases e:ixN xs.length i with
 | none=>rw [e] at h;cases h
 | some j =>
  rw [e] at h
  obtain ⟨h1,h2,h3,h4⟩:=z9j e
  exact ⟨j,h1,h,h2,h3,h4⟩
theorem z3m {α:Type}{xs:List α}{j:Nat}{v:α}(h:xs[j]?=some v):atI xs (j:Int)=some v:=by
 have hj:j<xs.length:=(K5.mp h).1
 have e:ixN xs.length (j:Int)=some j:=by
  unfold ixN
  rw [if_pos (by omega),if_pos (by omega)];simp
 unfold atI;rw [e];exact h
def z98 (b:Expr):Prop:=∀o i,K8r b false o i=operate [o,i] (Z0i o i)
def IxR (X:Cx) (r:R2):Prop :=
 ∀(value slice:Expr) (pins:List (Addr×Obj)) (s:Shared) (σ:St) (H:Hp) (x y:V) (v u:Value) (Q:VK),Inv X pins σ H s->RelV x v->RelV y u->r x y H Q ->
  K8r slice false v u=operate [v,u] (Z0i v u)->wpAny (model X.prog X.w) X.A (subscriptTail value slice v u) (EP X pins σ Q) X.xe s
def MtR (X:Cx) (id:String) (r:V->List V->Hp->VK->Prop):Prop :=
 ∀(pins:List (Addr×Obj)) (s:Shared) (σ:St) (H:Hp) (x:V) (xs:List V) (v:Value) (us:List Value) (Q:VK),Inv X pins σ H s->RelV x v->Vals xs us->r x xs H Q ->
  wpAny (model X.prog X.w) X.A (call (.builtin id) (v::us)) (EP X pins σ Q) X.xe s
section
variable {X:Cx}{a b:Expr}{ta tb:TE}{pos:Pos}
theorem IxR.or {r r':R2}(h:IxR X r) (h':IxR X r'):IxR X (λx y H Q=>r x y H Q∨r' x y H Q):=by
 intro value slice pins s σ H x y v u Q I rx ry q hs
 rcases q with q|q
 ·exact h value slice pins s σ H x y v u Q I rx ry q hs
 ·exact h' value slice pins s σ H x y v u Q I rx ry q hs
theorem zQ8 {r:R2}(hr:IxR X r) (ha:PE X a ta) (hb:PE X b tb) (hs:z98 b):PE X (.Subscript a b pos) (tOp r ta tb):=by
 intro pins s σ H Q I h
 exact Subscript_ (binT ha hb I h λv u s2 x y H2 I2 rx ry q=>hr a b pins s2 σ H2 x y v u Q I2 rx ry q (hs _ _))
def rIxL (K:K1):R2:=λx y H Q=>∃p xs i v,x=.ref p/\y=.int i/\SqL K H p xs/\atI xs i=some v/\Q v H
def rIxT (K:K1):R2:=λx y H Q=>∃p xs i v,x=.ref p/\y=.int i/\SqT K H p xs/\atI xs i=some v/\Q v H
def rIxS:R2:=λx y H Q=>∃z i c,x=.str z/\y=.int i/\z.length≤sizeLine/\atI z.cps.toList i=some c/\Q (.str ⟨#[c]⟩) H
theorem ix_list:IxR X (rIxL X.K):=by
 intro value slice pins s σ H x y v u Q I rx ry h hs
 obtain ⟨p,xs,i,z,rfl,rfl,hq,he,q⟩:=h
 cases rx
 obtain ⟨t,rfl⟩:=ry
 obtain ⟨its,r,pl,hz⟩:=I.list hq
 obtain ⟨j,h1,h2,h3,h4,h5⟩:=z6I he
 obtain ⟨w,ew,rw'⟩:=r.get h2
 have hl:=r.length
 have hn:=z4G
 have fin:EP X pins σ Q w s:=⟨z,H,I,rw',q⟩
 by_cases h0:0≤i
 ·have hj:i.toNat=j:=by
   rw [Z0c h0 h5] at h1
   exact K13 h1
  exact item_listR pl.isList h0 (by omega) (by rw [hj];simpa using ew) fin hs
 ·have hj:(i+(its.toArray.size:Int)).toNat=j:=by
   rw [K9s (by omega) h4] at h1
   rw [K09,← hl]
   exact K13 h1
  exact K86 (x:=w) pl.isList.typeIs slot_list_getitem.lookup
   (wpAny_getItem_list_neg (Q:=λr s'=>r=w/\EP X pins σ Q r s') pl.isList (by omega) (by rw [K09]<;>omega) (by omega) (by rw [hj];simpa using ew) ⟨rfl,fin⟩) hs
theorem ix_tup:IxR X (rIxT X.K):=by
 intro value slice pins s σ H x y v u Q I rx ry h hs
 obtain ⟨p,xs,i,z,rfl,rfl,hq,he,q⟩:=h
 cases rx
 obtain ⟨t,rfl⟩:=ry
 obtain ⟨its,r,pl,hz⟩:=I.tuple hq
 obtain ⟨j,h1,h2,h3,h4,h5⟩:=z6I he
 obtain ⟨w,ew,rw'⟩:=r.get h2
 have hl:=r.length
 have hn:=z4G
 have fin:EP X pins σ Q w s:=⟨z,H,I,rw',q⟩
 exact K86 (x:=w) pl.typeIs slot_tuple_getitem.lookup
  (getItem_tuple (j:=j) (Q:=λr s'=>r=w/\EP X pins σ Q r s') pl (by omega) (by omega) (by rw [K09,← hl];exact h1) (by simpa using ew) ⟨rfl,fin⟩) hs
theorem zC2:IxR X rIxS:=by
 intro value slice pins s σ H x y v u Q I rx ry h hs
 obtain ⟨z,i,c,rfl,rfl,hz,he,q⟩:=h
 obtain ⟨t,rfl⟩:=rx
 obtain ⟨t',rfl⟩:=ry
 obtain ⟨j,h1,h2,h3,h4,h5⟩:=z6I he
 have hl:z.cps.toList.length=z.length:=by simp [K95]
 rw [hl] at h1 h4 h5
 have hn:=z4G
 exact tail_any (typeIs_str s z t) slot_str_getitem.lookup (getItem_str (c:=c) (by
  have e1:decide (i < -(2 ^ 63:Int))=false:=decide_eq_false (by omega)
  have e2:decide (i ≥ 2 ^ 63)=false:=decide_eq_false (by omega)
  rw [e1,e2,Bool.or_false]) (by rw [h1];simpa using h2) ⟨.str ⟨#[c]⟩,H,I.tok _,⟨_,rfl⟩,q⟩) hs
def rIx (K:K1):R2:=λx y H Q=>rIxL K x y H Q∨rIxT K x y H Q∨rIxS x y H Q
theorem zH7:IxR X (rIx X.K):=ix_list.or (ix_tup.or zC2)
theorem z8f (its:List Value) (n j:Nat) (u:Value):K50 (·.setIfInBounds j u) { cls:=.type "list",data:=.seq its.toArray n }={ cls:=.type "list",data:=.seq (its.set j u).toArray n }:=by
 simp [K50]
theorem Inv.lst {pins:List (Addr×Obj)}{σ:St}{H:Hp}{s:Shared}{p:Addr}{xs:List V}(I:Inv X pins σ H s) (h:H p=.(l xs)) :
 ∃(its:List Value) (n:Nat),Vals xs its/\s.heap.get? p=some { cls:=.type "list",data:=.seq its.toArray n }/\xs.length≤sizeLine:=by
 obtain ⟨z,its,n,r,e⟩:=I.hok p _ h
 exact ⟨its,n,r,e,z⟩
theorem Inv.lstUpd {pins:List (Addr×Obj)}{σ:St}{H:Hp}{s:Shared}{p:Addr}{xs ys:List V}{its its':List Value}{n n':Nat}{f:Obj->Obj}(I:Inv X pins σ H s) (h:H p=.(l xs))
 (ho:s.heap.get? p=some { cls:=.type "list",data:=.seq its.toArray n }) (hf:f { cls:=.type "list",data:=.seq its.toArray n }={ cls:=.type "list",data:=.seq its'.toArray n' }) (r:Vals ys its') (hz:ys.length≤sizeLine) (t:Nat) :
 Inv X pins σ (upd H p (.lst ys)) { s with heap:=s.heap.update p f,toks:=t }:=by
 have e:(s.heap.update p f).get? p=some { cls:=.type "list",data:=.seq its'.toArray n' }:=by
  rw [K3b f ho (by rw [hf]<;>rfl),hf]
 refine I.write (x:=p) (e:=p) (by rw [h];trivial) (.inl rfl) (λb u hb q=>(K32 _ _ (K4p hb)).trans q) ⟨_,e⟩ ?_
 exact ⟨hz,its',n',r,e⟩
def zP4:V->V->V->Hp->(Hp->Prop)->Prop:=λo i v H Q=>∃p xs k j,o=.ref p/\i=.int k/\H p=.(l xs)/\ixN xs.length k=some j/\Q (upd H p (.lst (xs.set j v)))
theorem set_list:PSet X zP4:=by
 intro pins s σ H o i v ov iv u Q I ro ri rv h
 obtain ⟨p,xs,k,j,rfl,rfl,hp,hj,q⟩:=h
 cases ro
 obtain ⟨t,rfl⟩:=ri
 obtain ⟨its,n,r,ho,hz⟩:=I.lst hp
 obtain ⟨h1,h2,h3,h4⟩:=z9j hj
 have hl:=r.length
 have hn:=z4G
 have I':Inv X pins σ (upd H p (.lst (xs.set j v))) { s with heap:=s.heap.update p (K50 (·.setIfInBounds j u)) } :=
  I.lstUpd hp ho (z8f its n j u) (r.set rv j) (by rw [K47];exact hz) s.toks
 by_cases h0:0≤k
 ·have hk:k.toNat=j:=by
   rw [Z0c h0 h4] at h1
   exact K13 h1
  exact PySem.W.ki_setAt ho h0 (by omega) (by rw [K09,← hl];exact h4) (by rw [hk];exact ⟨_,I',q⟩)
 ·have hk:(k+(its.toArray.size:Int)).toNat=j:=by
   rw [K9s (by omega) h3] at h1
   rw [K09,← hl]
   exact K13 h1
  exact PySem.W.ki_setBack ho (by omega) (by rw [K09,← hl];exact h3) (by omega) (by rw [hk];exact ⟨_,I',q⟩)
def z4q:V->Bool
 | .non=>true
 | .bl _=>true
 | .int _=>true
 | .str _=>true
 | _=>false
def eqV:V->V->Bool
 | .non,.non=>true
 | .bl a,.bl b=>a==b
 | .bl a,.int b=>(if a then 1 else 0)==b
 | .int a,.bl b=>a==(if b then 1 else 0)
 | .int a,.int b=>a==b
 | .str a,.str b=>a==b
 | _,_=>false
theorem zM1 {A:Around}{s:Shared}{y x:V}{u v:Value}(ry:RelV y u) (rx:RelV x v) (fy:z4q y=true) (fx:z4q x=true):K6g A s u v (eqV y x):=by
 cases y with
 | non =>
  cases ry
  cases x with
  | non=>cases rx;exact K6g.same _
  | bl b=>cases rx;exact K6g.none_bool b
  | int b=>obtain ⟨t,rfl⟩:=rx;exact K6g.none_int b t
  | str b=>obtain ⟨t,rfl⟩:=rx;exact K6g.none_str b t
  | _=>exact absurd (show false=true from fx) K0y
 | bl a =>
  cases ry
  cases x with
  | non=>cases rx;exact K6g.bool_none a
  | bl b=>cases rx;exact K6g.bool_bool a b
  | int b=>obtain ⟨t,rfl⟩:=rx;exact K6g.bool_int a b t
  | str b=>obtain ⟨t,rfl⟩:=rx;exact K6g.bool_str a b t
  | _=>exact absurd (show false=true from fx) K0y
 | int a =>
  obtain ⟨t',rfl⟩:=ry
  cases x with
  | non=>cases rx;exact K6g.int_none a t'
  | bl b=>cases rx;exact K6g.int_bool a t' b
  | int b=>obtain ⟨t,rfl⟩:=rx;exact K6g.int_int a t' b t
  | str b=>obtain ⟨t,rfl⟩:=rx;exact K94 a t' b t
  | _=>exact absurd (show false=true from fx) K0y
 | str a =>
  obtain ⟨t',rfl⟩:=ry
  cases x with
  | non=>cases rx;exact K6g.str_none a t'
  | bl b=>cases rx;exact K6g.str_bool a t' b
  | int b=>obtain ⟨t,rfl⟩:=rx;exact K93 a t' b t
  | str b=>obtain ⟨t,rfl⟩:=rx;exact K6g.str_str a t' b t
  | _=>exact absurd (show false=true from fx) K0y
 | _=>exact absurd (show false=true from fy) K0y
def eqU (x:V) (u:Value):Bool:=match u with
 | .none=>eqV .non x
 | .bool b=>eqV (.bl b) x
 | .int i _=>eqV (.int i) x
 | .str z _=>eqV (.str z) x
 | _=>false
theorem zp5 {x y:V}{u:Value}(r:RelV y u) (f:z4q y=true):eqU x u=eqV y x:=by
 cases y with
 | non=>cases r;rfl
 | bl b=>cases r;rfl
 | int i=>obtain ⟨t,rfl⟩:=r;rfl
 | str z=>obtain ⟨t,rfl⟩:=r;rfl
 | _=>exact absurd (show false=true from f) K0y
theorem z4g {x:V}:∀{xs:List V}{us:List Value},Vals xs us->xs.all z4q=true->us.any (eqU x)=xs.any λy=>eqV y x
 | _,_,.nil,_=>rfl
 | y::xs,u::us,.cons r t,f=>by
  rw [K4s,K0j] at f
  rw [K29,K29,zp5 r f.1,z4g t f.2]
theorem z2T {A:Around}{s:Shared}{x:V}{v:Value}(rx:RelV x v) (fx:z4q x=true):∀{xs:List V}{us:List Value},Vals xs us->xs.all z4q=true->∀u∈us,K6g A s u v (eqU x u)
 | _,_,.nil,_=>λu hu=>by cases hu
 | y::xs,u::us,.cons r t,f=>λu' hu=>by
  rw [K4s,K0j] at f
  rcases K0v.mp hu with rfl|hu
  ·rw [zp5 r f.1];exact zM1 r rx f.1 fx
  ·exact z2T rx fx t f.2 u' hu
def inV (x:V) (xs:List V):Bool:=xs.any λy=>eqV y x
def rIn (K:K1) (neg:Bool):R2:=λx y H Q=>∃p xs,y=.ref p/\(SqL K H p xs∨SqT K H p xs)/\z4q x=true/\xs.all z4q=true/\Q (.bl (if neg then !inV x xs else inV x xs)) H
theorem z8V:OpR X (K1h .In) (rIn X.K false):=by
 intro pins s σ H x y v u Q I rx ry h
 obtain ⟨p,xs,rfl,hq,fx,fs,q⟩:=h
 cases ry
 rcases hq with hq|hq
 ·obtain ⟨its,r,pl,hz⟩:=I.list hq
  refine SeqAt.in_listAt (eqU x) pl.isList (λw hw=>z2T rx fx r fs w (by simpa using hw)) ⟨.bl _,H,I,rfl,?_⟩
  rw [show its.toArray.any (eqU x)=its.any (eqU x) by simp,z4g r fs]
  exact q
 ·obtain ⟨its,r,pl,hz⟩:=I.tuple hq
  refine SeqAt.in_tupleAt (eqU x) pl (λw hw=>z2T rx fx r fs w (by simpa using hw)) ⟨.bl _,H,I,rfl,?_⟩
  rw [show its.toArray.any (eqU x)=its.any (eqU x) by simp,z4g r fs]
  exact q
theorem z5A:OpR X (K1h .NotIn) (rIn X.K true):=by
 intro pins s σ H x y v u Q I rx ry h
 obtain ⟨p,xs,rfl,hq,fx,fs,q⟩:=h
 cases ry
 rcases hq with hq|hq
 ·obtain ⟨its,r,pl,hz⟩:=I.list hq
  refine SeqAt.notIn_listAt (eqU x) pl.isList (λw hw=>z2T rx fx r fs w (by simpa using hw)) ⟨.bl _,H,I,rfl,?_⟩
  rw [show its.toArray.any (eqU x)=its.any (eqU x) by simp,z4g r fs]
  exact q
 ·obtain ⟨its,r,pl,hz⟩:=I.tuple hq
  refine SeqAt.notIn_tupleAt (eqU x) pl (λw hw=>z2T rx fx r fs w (by simpa using hw)) ⟨.bl _,H,I,rfl,?_⟩
  rw [show its.toArray.any (eqU x)=its.any (eqU x) by simp,z4g r fs]
  exact q
theorem z6w:z2z X (.type "list") (λxs H Q=>∃p ys,xs=[.ref p]/\(SqL X.K H p ys∨SqT X.K H p ys)/\∀l,H l=none->Q (.ref l) (upd H l (.lst ys))):=by
 intro pins s σ H xs us Q I r h
 obtain ⟨p,ys,rfl,hq,q⟩:=h
 obtain ⟨u,rfl,rx⟩:=vals1 r
 cases rx
 have fin:∀(its:List Value),Vals ys its->ys.length≤sizeLine->∀(h':Heap) (c':Nat),(∀b o',s.heap.get? b=some o'->h'.get? b=some o') ->
  h'.get? s.heap.objs.size=some { cls:=.type "list",dict:=none,data:=.seq its.toArray c',slots:=#[] }->EP X pins σ Q (.ref s.heap.objs.size) { s with heap:=h' }:=λits r' hz h' c' kp e =>
  ⟨.ref s.heap.objs.size,_,I.laid (t':=s.toks) kp (K01 _) (show ObjOk X.prog X.w _ h' _ (.lst ys) from ⟨hz,its,c',r',e⟩),rfl,q _ (I.hok.fresh (K01 _))⟩
 rcases hq with hq|hq
 ·obtain ⟨its,r',pl,hz⟩:=I.list hq
  have hlen:=r'.length
  obtain ⟨o,ho,hc,n,hd⟩:=pl.isList
  exact call_list_seq p (.inl rfl) ho hc hd (λh' c' kp e=>fin its r' hz h' c' kp e) (by simp only [K09]<;>omega)
 ·obtain ⟨its,r',pl,hz⟩:=I.tuple hq
  have hlen:=r'.length
  obtain ⟨o,ho,hc,n,hd⟩:=pl
  exact call_list_seq p (.inr rfl) ho hc hd (λh' c' kp e=>fin its r' hz h' c' kp e) (by simp only [K09]<;>omega)
theorem z5p:z2z X (.type "tuple") (λxs H Q=>∃p ys,xs=[.ref p]/\((SqL X.K H p ys/\∀l,H l=none->Q (.ref l) (upd H l (.tup ys)))∨(SqT X.K H p ys/\Q (.ref p) H))):=by
 intro pins s σ H xs us Q I r h
 obtain ⟨p,ys,rfl,h⟩:=h
 obtain ⟨u,rfl,rx⟩:=vals1 r
 cases rx
 rcases h with ⟨hq,q⟩|⟨hq,q⟩
 ·obtain ⟨its,r',pl,hz⟩:=I.list hq
  have hlen:=r'.length
  refine call_tuple_list pl.isList (λh' kp=>?_) (by simp only [K09]<;>omega)
  have I1:Inv X pins σ H { s with heap:=h' }:=I.kept (t':=s.toks) kp
  have I2:Inv X pins σ (upd H h'.objs.size (.tup ys)) { s with heap:=h'.push { cls:=.type "tuple",data:=.seq its.toArray } } :=
   I1.laid (t':=s.toks) (λb o e=>K6 _ e) (K01 _) (show ObjOk X.prog X.w _ _ _ (.tup ys) from ⟨hz,its,r',FT.IsTup0.new _ _⟩)
  exact ⟨.ref h'.objs.size,_,I2,rfl,q _ (I1.hok.fresh (K01 _))⟩
 ·obtain ⟨its,r',pl,hz⟩:=I.tuple hq
  exact call_tuple_same pl ⟨.ref p,H,I,rfl,q⟩
def tyV (K:K1) (T:String) (x:V) (H:Hp):Prop:=match x with
 | .str _=>T = "str"
 | .int _=>T = "int"
 | .ref p=>(T = "list"/\∃xs,SqL K H p xs)∨(T = "tuple"/\∃o,K.lookup p=some o/\o.cls=.type "tuple"/\o.dict=none) ∨
  (T = "dict"/\((∃kvs,H p=some (.dK kvs))∨∃kvs,H p=some (.dT kvs)))∨(T = "set"/\∃ks,H p=some (.set ks))
 | _=>False
theorem zF2 {pins:List (Addr×Obj)}{σ:St}{H:Hp}{s:Shared}{T:String}{x:V}{v:Value}(I:Inv X pins σ H s) (r:RelV x v) (ty:tyV X.K T x H) :
 s.TypeIs v T/\∀a,v=.ref a->∃ob,s.heap.get? a=some ob/\ob.dict=none:=by
 cases x with
 | str z =>
  obtain ⟨t,rfl⟩:=r
  cases (show T = "str" from ty)
  exact ⟨typeIs_str s z t,λ_ e=>nomatch e⟩
 | int i =>
  obtain ⟨t,rfl⟩:=r
  cases (show T = "int" from ty)
  exact ⟨K7z s i t,λ_ e=>nomatch e⟩
 | ref p =>
  cases r
  rcases ty with ⟨rfl,xs,hq⟩|⟨rfl,o,hk,hc,hd⟩|⟨rfl,hk⟩|⟨rfl,ks,hk⟩
  ·obtain ⟨its,_,pl,_⟩:=I.list hq
   refine ⟨pl.isList.typeIs,λa e=>?_⟩
   cases e
   obtain ⟨o,n,e,c,hd,_⟩:=pl
   exact ⟨o,e,hd⟩
  ·refine ⟨⟨o,I.kIn p o hk,hc⟩,λa e=>?_⟩
   cases e
   exact ⟨o,I.kIn _ o hk,hd⟩
  ·have z:∃o,s.heap.get? p=some o/\o.ExactDict:=by
    rcases hk with ⟨kvs,hk⟩|⟨kvs,hk⟩
    ·obtain ⟨_,_,_,_,o,_,_,e,ex,_⟩:=I.hok p _ hk
     exact ⟨o,e,ex⟩
    ·obtain ⟨_,_,_,_,o,_,_,e,ex,_⟩:=I.hok p _ hk
     exact ⟨o,e,ex⟩
   obtain ⟨o,e,ex⟩:=z
   refine ⟨⟨o,e,ex.1⟩,λa e2=>?_⟩
   cases e2
   exact ⟨o,e,ex.2.1⟩
  ·obtain ⟨o,_,_,_,_,e,ex,_⟩:=I.hok p _ hk
   refine ⟨⟨o,e,ex.1⟩,λa e2=>?_⟩
   cases e2
   exact ⟨o,e,ex.2.1⟩
 | _=>exact K3o ty
def tBM (K:K1) (T:String) (r:V->List V->Hp->VK->Prop) (to:TE) (t:TA):TE:=λσ H Q=>to σ H λx H1=>tyV K T x H1/\t σ H1 λxs H2=>r x xs H2 Q
variable {o e:Expr}{es:List Expr}{to:TE}{t:TA}{name:Str}{apos cpos:Pos}{T id:String}{r:V->List V->Hp->VK->Prop}
theorem zh1 (pa:PlainAttrs T) (slot:Slot T name id) (hty:typeOf (.builtin id)=pure (.type "method_descriptor")) (hm:MtR X id r) (ho:PE X o to) (ha:PA X (e::es) t)
 (hbase:K4d o name X.env (eval o X.env)=eval o X.env:=by rfl)
 (hfew:((backTo cpos (K0b (e::es) X.env)).all (λx=>!x.1)&&(K7o cpos (K58 [] X.env)).all (λx=>x.1.isSome)
 &&decide ((e::es).length+([]:List K44).length+(if ([]:List K44).isEmpty then 0 else 1)<30))=true:=by rfl)
 (hline:(apos.endLine==cpos.line)=true:=by rfl) (hs:K0b (e::es) X.env=(false,eval e X.env)::K0b es X.env:=by rfl) (hplain:(backTo cpos (K0b es X.env)).any (·.1)=false:=by rfl) :
 PE X (.Call (.Attribute o name apos) (e::es) [] cpos) (tBM X.K T r to t):=by
 intro pins s σ H Q I h
 refine K85 hbase hfew hline rfl (thn (ho pins s σ H _ I h) λv s1 ⟨x,H1,I1,r1,ty,q1⟩=>?_)
 obtain ⟨h1,h2⟩:=zF2 I1 r1 ty
 refine ⟨T,id,pa,slot,hty,h1,h2,?_⟩
 have hA:=ha cpos pins s1 σ H1 _ I1 q1
 rw [hs] at hA ⊢
 refine K81 (by show (false||(backTo cpos (K0b es X.env)).any (·.1))=false;rw [hplain]<;>rfl) (K8s ?_)
 exact thn hA λus s2 ⟨vs,H2,I2,r2,q2⟩=>hm pins s2 σ H2 x vs v us Q I2 r1 r2 q2
end
def MtM (X:Cx) (id:String) (r:V->List V->Hp->VK->Prop):Prop :=
 ∀(pins:List (Addr×Obj)) (s:Shared) (σ:St) (H:Hp) (x:V) (xs:List V) (v:Value) (us:List Value) (Q:VK),Inv X pins σ H s->RelV x v->Vals xs us->r x xs H Q ->
  wpAny (model X.prog X.w) X.A (call (.builtin id) (v::us)) (EP X pins σ Q) X.xe s
theorem Vals.one:∀{x:V}{us:List Value},Vals [x] us->∃u,us=[u]/\RelV x u
 | _,_,.cons r .nil=>⟨_,rfl,r⟩
theorem Vals.eraseIdx:∀{xs:List V}{us:List Value}(i:Nat),Vals xs us->Vals (xs.eraseIdx i) (us.eraseIdx i)
 | _,_,_,.nil=>.nil
 | _,_,0,.cons _ t=>t
 | _,_,i+1,.cons r t=>.cons r (Vals.eraseIdx i t)
theorem Vals.rep {xs:List V}{us:List Value}(h:Vals xs us):∀k:Nat,Vals (K0d k xs).flatten (K0d k us).flatten
 | 0=>.nil
 | k+1=>by
  rw [K2e,K2e,K3i,K3i]
  exact Vals.append h (Vals.rep h k)
theorem z5R {α:Type}:∀(l:List α) (i:Nat),(l.eraseIdx i).length≤l.length
 | [],_=>K01 _
 | _::_,0=>K4g _
 | _::r,i+1=>Nat.succ_le_succ (z5R r i)
theorem foldl_rep (its:List Value):∀(k:Nat) (acc:List Value),
 K5u (λx1 x2=>x1++x2) acc.toArray (K0d k its.toArray)=(acc++(K0d k its).flatten).toArray
 | 0,acc=>by simp
 | k+1,acc=>by
  have e:acc.toArray++its.toArray=(acc++its).toArray:=by simp
  have e2:(acc++its)++(K0d k its).flatten=acc++(K0d (k+1) its).flatten:=by
   rw [K2e,K3i,K02]
  rw [← e2,← foldl_rep its k (acc++its),← e,K2e,K63]
section
variable {X:Cx}{pins:List (Addr×Obj)}{σ:St}{H:Hp}{s:Shared}{l b:Addr}{xs ys zs:List V}
theorem Inv.lset {its its':List Value}{n:Nat}{f:Array Value->Array Value}{t':Nat}(I:Inv X pins σ H s) (hH:H l=.(l xs))
 (e:s.heap.get? l=some { cls:=.type "list",data:=.seq its.toArray n }) (hf:f its.toArray=its'.toArray) (hv:Vals ys its') (hz:ys.length≤sizeLine) :
 Inv X pins σ (upd H l (.lst ys)) { s with heap:=s.heap.update l (K50 f),toks:=t' }:=by
 have q:=PySem.IsL.update e f
 rw [hf] at q
 refine I.write (x:=l) (e:=l) (by rw [hH];exact trivial) (.inl rfl) (λb' u hb hu=>(K32 s.heap (K50 f) (K4p hb)).trans hu) ⟨_,q⟩ ?_
 exact ⟨hz,its',_,hv,q⟩
theorem Inv.lnew {its:List Value}{t':Nat}(I:Inv X pins σ H s) (hv:Vals ys its) (hz:ys.length≤sizeLine) :
 Inv X pins σ (upd H s.heap.objs.size (.lst ys)) { s with heap:=s.heap.push { cls:=.type "list",data:=.seq its.toArray },toks:=t' } :=
 I.laid (λ_ _ q=>K6 _ q) (K01 _) ⟨hz,its,0,hv,K05 _ rfl⟩
theorem Inv.fresh (I:Inv X pins σ H s):H s.heap.objs.size=none:=I.hok.fresh (K01 _)
theorem Inv.lstM (I:Inv X pins σ H s) (hH:H l=.(l xs)):xs.length≤sizeLine/\∃(its:List Value) (n:Nat),Vals xs its/\xs.length=its.length/\s.heap.get? l=some { cls:=.type "list",data:=.seq its.toArray n }:=by
 obtain ⟨z,its,n,r,e⟩:=I.hok l _ hH
 exact ⟨z,its,n,r,r.length,e⟩
theorem zh7 {n:Nat}(h:n≤sizeLine):K4t n=false:=by
 unfold K4t
 exact decide_eq_false (by omega)
end
section
variable {X:Cx}
def zB2:V->List V->Hp->VK->Prop:=λx vs H Q=>∃l xs y,x=.ref l/\vs=[y]/\H l=.(l xs)/\xs.length<sizeLine/\Q .non (upd H l (.lst (xs++[y])))
theorem z6i:MtM X "list.append" zB2:=by
 intro pins s σ H x vs v us Q I rx rv h
 obtain ⟨l,xs,y,rfl,rfl,hH,hz,q⟩:=h
 cases rx
 obtain ⟨u,rfl,ru⟩:=rv.one
 obtain ⟨z,its,n,r,hl,e⟩:=I.lstM hH
 refine K41 F.slot_list_append ⟨_,e,rfl⟩ F.entry_list_append (F.args_list_append_2 _ _) (PySem.list_append l its.toArray n u (by rw [K09];omega)) ⟨e,?_⟩
 refine ⟨.non,_,I.lset (its':=its++[u]) hH e (by simp) (r.append (.cons ru .nil)) ?_,rfl,q⟩
 rw [K08,K3a]
 omega
def zG5:V->List V->Hp->VK->Prop:=λx vs H Q=>∃l xs i k y,x=.ref l/\vs=[.int i]/\H l=.(l xs)/\-(2 ^ 63)≤i/\i<2 ^ 63/\K57 i xs.length=some k/\xs[k]?=some y/\Q y (upd H l (.lst (xs.eraseIdx k)))
theorem zh9:MtM X "list.pop" zG5:=by
 intro pins s σ H x vs v us Q I rx rv h
 obtain ⟨l,xs,i,k,y,rfl,rfl,hH,h1,h2,hk,hy,q⟩:=h
 cases rx
 obtain ⟨u,rfl,ru⟩:=rv.one
 obtain ⟨t,rfl⟩:=ru
 obtain ⟨z,its,n,r,hl,e⟩:=I.lstM hH
 obtain ⟨w,hw,rw'⟩:=r.get hy
 refine K41 F.slot_list_pop ⟨_,e,rfl⟩ F.entry_list_pop (F.args_list_pop_2 _ _)
  (MeetsSeq.list_pop_at l its.toArray n i t k w (fitsIndex_both h1 h2) (by rw [K09,← hl];exact hk) (by rw [← K39];exact hw) (by rw [K09];omega)) ⟨e,?_⟩
 refine ⟨y,_,I.lset (its':=its.eraseIdx k) hH e ?_ (r.eraseIdx k) ?_,rw',q⟩
 ·show its.toArray.eraseIdxIfInBounds k=(its.eraseIdx k).toArray
  rw [List.eraseIdxIfInBounds_toArray]
 ·have:=z5R xs k
  omega
def rCat:R2:=λx y H Q=>∃l b xs zs,x=.ref l/\y=.ref b/\H l=.(l xs)/\H b=.(l zs)/\xs.length+zs.length≤sizeLine/\∀p,H p=none->Q (.ref p) (upd H p (.lst (xs++zs)))
theorem op_cat:OpR X (K37 .Add) rCat:=by
 intro pins s σ H x y v u Q I rx ry h
 obtain ⟨l,b,xs,zs,rfl,rfl,hH,hB,hz,q⟩:=h
 cases rx
 cases ry
 obtain ⟨z,its,n,r,hl,e⟩:=I.lstM hH
 obtain ⟨z2,its2,n2,r2,hl2,e2⟩:=I.lstM hB
 refine PySem.P.add_list e e2 ?_ (by rw [K09,K09];omega)
 have ea:its.toArray++its2.toArray=(its++its2).toArray:=by simp
 rw [ea]
 exact ⟨.ref _,_,I.lnew (t':=s.toks) (r.append r2) (by rw [K08];omega),rfl,q _ I.fresh⟩
def rRep:R2:=λx y H Q=>∃l k xs,x=.ref l/\y=.int k/\H l=.(l xs)/\-(2 ^ 63)≤k/\k<2 ^ 63/\xs.length * k.toNat≤sizeLine /\
 ∀p,H p=none->Q (.ref p) (upd H p (.lst (K0d k.toNat xs).flatten))
theorem len_rep {α:Type}(xs:List α) (k:Nat):(K0d k xs).flatten.length=k * xs.length:=by
 induction k with
 | zero=>simp
 | succ k ih=>rw [K2e,K3i,K08,ih,Nat.succ_mul,Nat.add_comm]
theorem zE4:OpR X (K37 .Mult) rRep:=by
 intro pins s σ H x y v u Q I rx ry h
 obtain ⟨l,k,xs,rfl,rfl,hH,h1,h2,hz,q⟩:=h
 cases rx
 obtain ⟨t,rfl⟩:=ry
 obtain ⟨z,its,n,r,hl,e⟩:=I.lstM hH
 have hlen:its.toArray.size * k.toNat≤sizeLine:=by rw [K09,← hl];exact hz
 have hcap:¬ its.toArray.size * k.toNat > (2 ^ 63 - 1) / 8:=by
  have:(sizeLine:Nat)≤(2 ^ 63 - 1) / 8:=by decide
  omega
 have hfit:¬ (!Builtin.List.listFitsIndex k)=true:=by
  rw [fitsIndex_both h1 h2]
  exact K0y
 have hlong:¬ K4t (its.toArray.size * k.toNat)=true:=by
  rw [zh7 hlen]
  exact K0y
 have hnew:K5u (λx1 x2=>x1++x2) #[] (K0d (if its.toArray.isEmpty=true then 0 else k.toNat) its.toArray)=(K0d k.toNat its).flatten.toArray:=by
  have f0:∀m:Nat,K5u (λx1 x2=>x1++x2) #[] (K0d m its.toArray)=(K0d m its).flatten.toArray:=λm=>by
   have:=foldl_rep its m []
   rw [K8a] at this
   exact this
  rw [f0]
  cases its with
  | nil=>simp
  | cons a r'=>rw [if_neg (by simp)]
 refine K6v (T:="list") (U:="int") (by decide) ⟨_,e,rfl⟩ (λs'=>K7z s' k t) noFill_list_mul F.fills_int_mul F.slot_int_rmul repeat_list F.slot_int_index.lookup
  (K41 F.slot_int_rmul (K7z s k t) F.entry_int_rmul (F.args_int_rmul_2 _ _) (int___rmul___int_list k t l its.toArray n)
   ⟨e,rfl,⟨_,e,rfl⟩,K41 F.slot_list_mul ⟨_,e,rfl⟩ F.entry_list_mul (F.args_list_mul_2 _ _) (AutoListH.list___mul___list_int_3 l its.toArray n k t hfit hcap hlong) ⟨e,?_⟩⟩)
 rw [hnew]
 exact ⟨.ref _,_,I.lnew (t':=s.toks) (r.rep k.toNat) (by rw [len_rep,K69];exact hz),rfl,q _ I.fresh⟩
end
section
variable {prog:K0n}{w:World}{A:Around}{E:Value->Shared->Prop}{s:Shared}
end
section
variable {X:Cx}
end
end L2
namespace Att
open PySem PySem.W PySem.Calls PyProof.Rows
theorem z40 {P:Params}{h:Heap}:∀(ns:List Int) (vs:List Value),WellAll P h vs (ns.map WData.int)->K5m vs ns:=by
 intro ns
 induction ns with
 | nil =>
  intro vs w
  rw [K3z] at w
  cases w
  exact .nil
 | cons n ns ih =>
  intro vs w
  rw [K0t] at w
  cases w with
  | cons a b =>
   cases a
   exact .cons _ _ (ih _ b)
theorem zb4 {l:OpenLaw}{n:Nat}(hn:l.most=some n) {P:Params}{h:Heap}{args:List WData}{vals:List Value}
 (hpre:l.row.toRowW.claim.pre args=true) (hwl:WellAll P h vals args) :
 ∃a vs ns,vals=[K1n a]/\args=[WData.list (ns.map WData.int)]/\h.get? a=some { cls:=.type "list",data:=.seq vs.toArray }/\K5m vs ns/\ns.length≤n:=by
 have hsh:WShape.hasAll [] args [.list .int]=true:=(pre_splitW hpre).1
 have hc:l.pre.holds [] { args:=args }=true:=(pre_splitW hpre).2
 obtain ⟨d,r,rfl,h1,h2⟩:=hasAllW_cons hsh
 obtain rfl:=hasAllW_nil h2
 obtain ⟨xs,rfl,h3⟩:=hasW_list h1
 obtain ⟨ns,rfl⟩:=items_int h3
 have hlen:ns.length≤n:=by
  unfold OpenLaw.pre at hc
  have h4:(WTm.not (.lt (.lit (.int (n:Int))) (.len (.arg 0)))).holds [] { args:=[.list (ns.map .int)] }=true:=by
   have h4:=(holds_andW hc).1
   rw [hn] at h4
   exact h4
  have h5:=condW_of h4 (w_not (w_lt w_lit (w_len_list (w_arg rfl))))
  rw [K00] at h5
  refine Nat.le_of_not_lt λq=>?_
  have q':(n:Int)<((ns.length:Nat):Int):=by omega
  first
   | (rw [decide_eq_true q'] at h5;exact absurd h5 (by decide))
   | (simp at h5;omega)
 cases hwl with
 | cons w1 w2 =>
  cases w2
  cases w1 with
  | list ho hall=>exact ⟨_,_,ns,rfl,rfl,ho,z40 ns _ hall,hlen⟩
theorem z9r (l:OpenLaw) (args:List WData):l.row.toRowW.claim.post args (.bool true) args=true :=
 postW_of (r:=l.row.toRowW) (X:=(true==true))
  (show WShape.has [] (.bool true) .bool=true by first|rfl|decide|simp [WShape.has,WShape.arms,WShape.armsAll])
  (show (WTm.eq .res (.lit (.bool true))).value [] { args:=args,res:=some (.bool true),after:=args }=some (.bool (true==true)) from w_eq_bool (w_res rfl) w_lit) rfl
theorem attach_call {l:OpenLaw}{n:Nat}{q:K0n}{loose:List Str}{XP:(Str->Option Value)->Heap->Prop}{YP:World->Heap->Prop}{d:DefRec}
 (hn:l.most=some n) (hdf:d.params.defaults=[])
 (call:∀(w:World) (s₀ s₁:Shared) (mg mb:Str->Option Value) (fa:Addr) (o:Obj) (pm cd doc:Value) (a:Addr) (vs:List Value) (ns:List Int),
  Ground q loose [] XP w s₀ mg mb s₁.heap->YP w s₁.heap ->
  s₁.heap.get? fa=some o->o.data=.func (docDef d.name d.params d.body d.scope pm cd doc)->s₁.heap.CodeRec cd d.name->mg d.name=.(r fa) ->
  s₁.heap.get? a=some { cls:=.type "list",data:=.seq vs.toArray }->K5m vs ns->ns.length≤n->s₁.gens = #[] ->
  K5j (model l.prog w) K7x (.call (.ref fa) ⟨[.ref a],[]⟩) (λr s'=>r=.ok (.ret (.bool true))/\OldK s₁.heap s'.heap/\s'.os=s₁.os/\K6b s'.gens) s₁) :
 WalkO q loose XP YP l.row.toRowW d [] (λf vs=>Z0l f vs):=by
 intro w s₀ s₁ mg mb G Y fa o pm cd doc dV kV ho hd hcd hD hmg hg args vals as hpre hlay hrd hwl hlo
 obtain rfl:dV=.none:=Dflts.none hD hdf
 obtain rfl:kV=.none:=Dflts.noKw hD
 obtain ⟨a,vs,ns,rfl,rfl,hobj,hints,hlen⟩:=zb4 hn hpre hwl
 refine enter_call (K42 (call w s₀ s₁ mg mb fa o pm cd doc a vs ns G Y ho (fd_plain hd) hcd hmg hobj hints hlen hg) λr s' hq=>?_)
 obtain ⟨rfl,h2,h3,h4⟩:=hq
 exact ⟨.inl ⟨.bool true,.bool true,[],rfl,λ_=>rfl,.bool true,z9r l _,λ_=>⟨List.Pairwise.nil,λ_ hm=>(nomatch hm)⟩⟩,h2,h3,h4⟩
section
variable {prog:K0n}{w:World}{A:Around}{E:Value->Shared->Prop}{s:Shared}{K:Frag}
end
end Att
namespace L2
theorem z4n:∀{vs:List Value}{ns:List Int},K5m vs ns->Vals (ns.map V.int) vs
 | _,_,.nil=>.nil
 | _,_,.cons n t h=>.cons ⟨t,rfl⟩ (z4n h)
def Only (H:Hp):Prop:=∀b,H b=none∨∃o xs,H b=some (.frz o (.lst xs))
theorem zh8 {P:K0n}{w:World}{K:K1}{mg mb:Str->Option Value}{CX:CXT}{k:Nat}{fa a:Addr}{fd:K2i}{x:Str}{sp:Sp}{s₁:Shared}{vs:List Value}{ns:List Int}
 (KX:K.In s₁.heap) (hns:s₁.heap.Ns K2h mg) (hb:s₁.heap.Ns builtinsNs mb) (hbb:∀x:Str,x≠"__name__"->mb x=K4q x) (hlim:s₁.heap.NoLimit) (hg:s₁.gens = #[])
 (ha:s₁.heap.get? a=some { cls:=.type "list",data:=.seq vs.toArray }) (hi:K5m vs ns) (hl:ns.length≤sizeLine) (hr:Room k K7x)
 (F:∀base:Heap,K.In base->base.Ns K2h mg->FnOk P w K mg base CX k fa fd [x] sp) (hbind:∀(s:Shared) (u:Value),K9n s fd ⟨[u],[]⟩ [(x,u)])
 (hsp:∀H:Hp,Only H->SqL K H a (ns.map V.int)->sp [.ref a] H (λv _=>v=.bl true) λ_ _ _=>False)
 (hCX:∀H e s',CX [] H s₁ (λ_ _ _=>False) e s'->False) :
 K5j (model P w) K7x (.call (.ref fa) ⟨[.ref a],[]⟩) (λr s'=>r=.ok (.ret (.bool true))/\OldK s₁.heap s'.heap/\s'.os=s₁.os/\K6b s'.gens) s₁:=by
 have rv:=z4n hi
 have lenV:=hi.length
 have core:∀H:Hp,Only H->SqL K H a (ns.map V.int)->HOk P w H s₁.heap->(∀b,H b≠none->b=a)->(H a≠none->K.lookup a=none) ->
  K5j (model P w) K7x (.call (.ref fa) ⟨[.ref a],[]⟩) (λr s'=>r=.ok (.ret (.bool true))/\OldK s₁.heap s'.heap/\s'.os=s₁.os/\K6b s'.gens) s₁:=by
  intro H hO hS hok hA hK
  have base_of:∀{b:Addr} {o:Obj},s₁.heap.get? b=some o->H b=none->(hidT s₁.heap H).get? b=some o:=λe n=>zg7 e n
  have noA:∀{b:Addr} {o:Obj} {es:Array DictEntry} {ep:Nat},s₁.heap.get? b=some o->o.data=.dict es ep->H b=none:=λ{b o es ep} e d=>by
   cases q:H b with
   | none=>rfl
   | some u =>
    have e':b=a:=hA b (by rw [q];simp)
    subst e'
    rw [ha] at e;cases e
    have d':Z0k vs.toArray _=Data.dict es ep:=d
    cases d'
  have nsK:∀{b:Addr} {m:Str->Option Value},s₁.heap.Ns b m->(hidT s₁.heap H).Ns b m:=λ{b m} ⟨o,es,ep,e,d,r⟩=>⟨o,es,ep,base_of e (noA e d),d,r⟩
  have hKb:K.In (hidT s₁.heap H):=λb o e=>base_of (KX b o e) (by
   cases q:H b with
   | none=>rfl
   | some u =>
    have e':b=a:=hA b (by rw [q];simp)
    subst e'
    rw [hK (by rw [q];simp)] at e;cases e)
  have hM:Mod K mg (hidT s₁.heap H):=⟨hKb,nsK hns,⟨mb,nsK hb,hbb⟩,let ⟨mc,h1,h2⟩:=hlim;⟨mc,nsK h1,h2⟩⟩
  have e0:Env0 P w K mg (hidT s₁.heap H) K7x [] s₁ H:=⟨rfl,hM,λb o e=>zx2 e,K6a (za0 _ _),trivial,λb hb=>absurd (show b∈([]:List Addr) from hb) (by simp),hok,.of_eq hg⟩
  refine K42 ((F _ hKb (nsK hns)).run K7x [] s₁ H ⟨[.ref a],[]⟩ [.ref a] [.ref a] _ _ hr e0 (hbind s₁ (.ref a)) (.cons rfl .nil) (hsp H hO hS)) λr s' h=>?_
  cases r with
  | error e=>exact (hCX H e s' h).elim
  | ok fl =>
   cases fl with
   | next=>exact K3o h
   | brk=>exact K3o h
   | cont=>exact K3o h
   | ret u =>
    obtain ⟨v,H',os,bare,un,hok',r',q⟩:=h
    have q':v=.bl true:=q
    subst q'
    obtain rfl:u=K6f true:=r'
    refine ⟨rfl,OldK.of_keep λb o e=>?_,os,bare⟩
    cases q:H b with
    | none=>exact un.keep b o e q (by intro z;exact absurd (show b∈([]:List Addr) from z) (by simp)) (by simp)
    | some u =>
     rcases hO b with z|⟨ob,xs,z⟩
     ·rw [q] at z;cases z
     ·have z2:=un.frzs b ob _ z
      obtain ⟨e1,_⟩:=hok b _ z
      obtain ⟨e2,_⟩:=hok' b _ z2
      rw [e] at e1;cases e1
      exact e2
 cases hk:K.lookup a with
 | some o =>
  have e:=KX a o hk
  rw [ha] at e
  cases e
  refine core (λ_=>none) (λ_=>.inl rfl) (.inr ⟨_,vs.toArray,_,hk,rfl,rfl,rfl,by rw [K09,lenV];exact hl,by simpa using rv⟩) (λb u z=>by have z':(none:Option HO)=some u:=z;cases z') (λb z=>absurd rfl z) λz=>absurd rfl z
 | none =>
  refine core (λb=>if b=a then some (.frz { cls:=.type "list",data:=.seq vs.toArray } (.lst (ns.map V.int))) else none) (λb=>?_) (.inl (.inr ⟨{ cls:=.type "list",data:=.seq vs.toArray },if_pos rfl⟩)) (λb u z=>?_) (λb z=>?_) λ_=>hk
  ·by_cases hb:b=a
   ·exact .inr ⟨_,_,if_pos hb⟩
   ·exact .inl (if_neg hb)
  ·by_cases hb:b=a
   ·have z':=(if_pos hb).symm.trans z
    cases z'
    subst hb
    exact ⟨ha,by rw [K00];exact hl,vs,_,rv,ha⟩
   ·have z':=(if_neg hb).symm.trans z
    cases z'
  ·by_cases hb:b=a
   ·exact hb
   ·exact absurd (if_neg hb) z
abbrev KOf {K:K1} {h:Heap} (_:K.In h):K1:=K
theorem walk_of {l:Z0e}{n k:Nat}{q:K0n}{loose:List Str}{XP:(Str->Option Value)->Heap->Prop}{YP:World->Heap->Prop}{d:DefRec}{K:Params->K1}{CX:World->CXT}{sp:World->Sp}{x:Str}
 (hn:l.most=some n) (hn2:n≤sizeLine) (hdf:d.params.defaults=[]) (hr:Room k K7x)
 (hY:∀(w:World) (h:Heap),YP w h->(K w.params).In h)
 (F:∀(w:World) (mg:Str->Option Value) (fa:Addr) (h:Heap),(K w.params).In h->h.Ns K2h mg->mg d.name=.(r fa) ->
  ∃fd:K2i,(∀(s:Shared) (u:Value),K9n s fd ⟨[u],[]⟩ [(x,u)]) /\
   ∀base:Heap,(K w.params).In base->base.Ns K2h mg->FnOk l.prog w (K w.params) mg base (CX w) k fa fd [x] (sp w))
 (hsp:∀(w:World) (H:Hp) (a:Addr) (ns:List Int),ns.length≤n->Only H->SqL (K w.params) H a (ns.map V.int)->sp w [.ref a] H (λv _=>v=.bl true) λ_ _ _=>False)
 (hCX:∀(w:World) (H:Hp) (s:Shared) (e:Value) (s':Shared),CX w [] H s (λ_ _ _=>False) e s'->False) :
 Z0q q loose XP YP l.row.toRowW d [] (λf vs=>Z0l f vs):=by
 refine Att.attach_call hn hdf λw s₀ s₁ mg mb fa o pm cd doc a vs ns G Y ho hd hcd hmg hobj hints hlen hg=>?_
 have KX:=hY w _ Y
 obtain ⟨fd,hb,hF⟩:=F w mg fa _ KX G.T.g hmg
 exact zh8 KX G.T.g G.T.b G.T.builtins G.T.nolimit hg hobj hints (K0m hlen hn2) hr hF hb (λH hO hS=>hsp w H a ns hlen hO hS) λH e s'=>hCX w H s₁ e s'
def z2I (s:Stmt):Arguments:=match s with
 | .FunctionDef _ a _ _ _ _ _ _ _ _=>a
 | _=>{ posonlyargs:=[],args:=[],vararg:=none,kwonlyargs:=[],kw_defaults:=[],kwarg:=none,defaults:=[] }
def z0J (s:Stmt):List Stmt:=match s with
 | .FunctionDef _ _ b _ _ _ _ _ _ _=>b
 | _=>[]
def y0 (s:Stmt):Scope:=match s with
 | .FunctionDef _ _ _ _ _ _ sc _ _ _=>sc
 | _=>{ kind:=.function,names:=[],isGenerator:=false,isCoroutine:=false }
abbrev CX0:CXT:=λ_ _ _ _ _ _=>False
abbrev E0:XK:=λ_ _ _=>False
theorem zR9 {X:Cx}:z9O CX0 X E0:=λ_ _ _ _ _ _ _ h=>h.elim
structure Fun (K:K1) (x qual:Str) (st:Stmt) (f:Addr) (fd:K2i):Prop where
 ex:∃(oc:Value) (od:Option Addr) (kV doc pm:Value) (an:Option Addr) (cdv ct:Value) (osl:Array (Option Value)),
  fd=K3f x qual (z2I st) (z0J st) (y0 st) .none kV doc pm an cdv ct/\K.lookup f=some ⟨oc,od,.func fd,osl⟩/\K3t K cdv qual=true
 kp:K5h K (.ref f)=true
section
variable {P:K0n}{w:World}{K:K1}{mg:Str->Option Value}{base:Heap}
theorem Fun.ok {x qual:Str}{st:Stmt}{f:Addr}{fd:K2i}{N ps:List Str}{k:Nat}{sp:Sp}(F:Fun K x qual st f fd) (S:FnScope N ps (y0 st)) (len:∀vs H Q E,sp vs H Q E->vs.length=ps.length)
 (hbody:∀(cdv:Value) (A:Around) (outer:List Env) (s:Shared) (H:Hp) (vs:List V) (Q:VK) (E:XK),Room k (A.deeper (envOfC qual (y0 st) s.heap.objs.size f cdv))->sp vs H Q E ->
  ∃t,PSs (cxOf CX0 P w K mg base N qual (y0 st) f cdv A outer s H E).nox (z0J st) t/\t { nx:=λ_ H'=>Q .non H',rt:=Q } (start N vs) H):FnOk P w K mg base CX0 (k+1) f fd ps sp:=by
 obtain ⟨oc,od,kV,doc,pm,an,cdv,ct,osl,rfl,lk,hcd⟩:=F.ex
 refine zF4 lk hcd S len λA outer s H vs Q E hr hsp=>?_
 obtain ⟨t,h,q⟩:=hbody cdv A outer s H vs Q E hr hsp
 exact ⟨t,h.nox,q⟩
theorem Fun.binds {x qual:Str}{st:Stmt}{f:Addr}{fd:K2i}{ps:List Str}(F:Fun K x qual st f fd)
 (h:∀(kV doc pm:Value) (an:Option Addr) (cdv ct:Value) (us:List Value),us.length=ps.length->bindArgs (K3f x qual (z2I st) (z0J st) (y0 st) .none kV doc pm an cdv ct) ⟨us,[]⟩=pure (ps.zip us)):Binds K fd ps []:=by
 obtain ⟨oc,od,kV,doc,pm,an,cdv,ct,osl,rfl,lk,hcd⟩:=F.ex
 exact .all (h kV doc pm an cdv ct)
theorem zN3 {x qual:Str}{st:Stmt}{f:Addr}{oc:Value}{od an:Option Addr}{osl:Array (Option Value)}{kV doc pm cdv ct:Value}(l:K.lookup f=some ⟨oc,od,.func (K3f x qual (z2I st) (z0J st) (y0 st) .none kV doc pm an cdv ct),osl⟩)
 (c:K3t K cdv qual=true) (k:K5h K (.ref f)=true):Fun K x qual st f (K3f x qual (z2I st) (z0J st) (y0 st) .none kV doc pm an cdv ct):=⟨⟨oc,od,kV,doc,pm,an,cdv,ct,osl,rfl,l,c⟩,k⟩
end
theorem z4u {A:Around}{k:Nat}(hr:Room k A):A.units+1<cLine:=K25 (K65 (by decide:1≤64) _) hr.units
section
variable {X:Cx}
end
section
variable {κ:Type} [DecidableEq κ]
def valV (kvs:List (κ×V)) (k:κ):Option V:=(kvs.find? λkv=>decide (kv.1=k)).map (·.2)
def putK (kvs:List (κ×V)) (k:κ) (v:V):List (κ×V) :=
 if (kvs.any λkv=>decide (kv.1=k))=true then kvs.map (λkv=>if kv.1=k then (kv.1,v) else kv) else kvs++[(k,v)]
theorem z3P {p:κ×V}{r:List (κ×V)}{k:κ}(e:p.1=k):valV (p::r) k=some p.2:=by simp [valV,K2g,e]
theorem z3S {p:κ×V}{r:List (κ×V)}{k:κ}(e:¬ p.1=k):valV (p::r) k=valV r k:=by simp [valV,K2g,e]
theorem z7N (k:κ):∀kvs:List (κ×V),(kvs.any λkv=>decide (kv.1=k))=(valV kvs k).isSome
 | []=>rfl
 | p::r=>by
  rw [K29]
  by_cases e:p.1=k
  ·simp only [z3P e,decide_eq_true e,Bool.true_or,Option.isSome_some]
  ·rw [z3S e,decide_eq_false e,K5y];exact z7N k r
theorem z1T (kvs:List (κ×V)) (k:κ) (v:V):(putK kvs k v).length≤kvs.length+1:=by
 unfold putK
 split
 ·rw [K00];omega
 ·rw [K08,K07,K0g];omega
theorem RelO.isSome_eq {o:Option V}{u:Option Value}(r:RelO o u):o.isSome=u.isSome:=by
 cases o with
 | none=>cases u with
  | none=>rfl
  | some _=>exact (show False from r).elim
 | some _=>cases u with
  | none=>exact (show False from r).elim
  | some _=>rfl
theorem KV.val {kvs:List (κ×V)}{vs:List (κ×Value)}(r:KV kvs vs) (k:κ):RelO (valV kvs k) (K8y vs k):=by
 unfold KV at r
 induction r with
 | nil=>exact K2w
 | @cons p q ps qs h t ih =>
  obtain ⟨h1,h2⟩:=h
  by_cases e:p.1=k
  ·have e':q.1=k:=h1.symm.trans e
   have b:K8y (q::qs) k=some q.2:=by simp [K8y,K2g,e']
   rw [z3P e,b];exact h2
  ·have e':¬ q.1=k:=λz=>e (h1.trans z)
   have b:K8y (q::qs) k=K8y qs k:=by simp [K8y,K2g,e']
   rw [z3S e,b];exact ih
theorem KV.any {kvs:List (κ×V)}{vs:List (κ×Value)}(r:KV kvs vs) (k:κ):(kvs.any λkv=>decide (kv.1=k))=vs.any λkv=>decide (kv.1=k):=by
 unfold KV at r
 induction r with
 | nil=>rfl
 | cons h t ih=>rw [K29,K29,ih,h.1]
theorem KV.repl {kvs:List (κ×V)}{vs:List (κ×Value)}(r:KV kvs vs) (k:κ) {y:V}{u:Value}(ry:RelV y u) :
 KV (kvs.map λkv=>if kv.1=k then (kv.1,y) else kv) (vs.map λkv=>if kv.1=k then (kv.1,u) else kv):=by
 unfold KV at r ⊢
 induction r with
 | nil=>exact .nil
 | @cons p q ps qs h t ih =>
  rw [K0t,K0t]
  refine .cons ?_ ih
  obtain ⟨h1,h2⟩:=h
  by_cases e:p.1=k
  ·rw [if_pos e,if_pos (h1.symm.trans e)];exact ⟨h1,ry⟩
  ·rw [if_neg e,if_neg (λz=>e (h1.trans z))];exact ⟨h1,h2⟩
theorem KV.put {kvs:List (κ×V)}{vs:List (κ×Value)}(r:KV kvs vs) (k:κ) {y:V}{u:Value}(ry:RelV y u):KV (putK kvs k y) (stored vs k u):=by
 unfold putK stored
 rw [r.any k]
 by_cases e:(vs.any λkv=>decide (kv.1=k))=true
 ·rw [if_pos e,if_pos e];exact r.repl k ry
 ·rw [if_neg e,if_neg e];exact Paired.snoc r ⟨rfl,ry⟩
theorem KV.length {kvs:List (κ×V)}{vs:List (κ×Value)}(r:KV kvs vs):kvs.length=vs.length:=K4a r
end
theorem z8e {P:K0n}{w:World}{k:Key}{u:Value}(r:RelV (kV k) u):(J0 P w).is k u=true:=by
 cases k with
 | inl i=>obtain ⟨t,e⟩:=(show ∃t,u=K5t i t from r);subst e;exact z6C P w i t
 | inr x=>obtain ⟨t,e⟩:=(show ∃t,u=K8v x t from r);subst e;exact z6G P w x t
theorem z6o {P:K0n}{w:World}:∀{ks:List Key}{us:List Value},Vals (ks.map kV) us->ItemsAre (J0 P w) ks us
 | [],_,r=>by rw [K3z] at r;cases r;exact .nil
 | k::ks,_,r=>by
  rw [K0t] at r
  cases r with
  | cons h t=>exact .cons (z8e h) (z6o t)
abbrev KT (H:Hp):List (List Key×V)->List (List Key×Addr×Value)->Prop:=Paired λp q=>p.1=q.1/\H q.2.1=.(g (p.1.map kV))/\RelV p.2 q.2.2
theorem KT.val {H:Hp}{kvs:List (List Key×V)}{xs:List (List Key×Addr×Value)}(r:KT H kvs xs) (k:List Key):RelO (valV kvs k) ((atKey xs k).map (·.2)):=by
 induction r with
 | nil=>exact K2w
 | @cons p q ps qs h t ih =>
  obtain ⟨h1,_,h2⟩:=h
  by_cases e:p.1=k
  ·have e':q.1=k:=h1.symm.trans e
   have b:atKey (q::qs) k=some q.2:=by simp [atKey,K2g,e']
   rw [z3P e,b];exact h2
  ·have e':¬ q.1=k:=λz=>e (h1.trans z)
   have b:atKey (q::qs) k=atKey qs k:=by simp [atKey,K2g,e']
   rw [z3S e,b];exact ih
theorem KT.repl {H:Hp}{kvs:List (List Key×V)}{xs:List (List Key×Addr×Value)}(r:KT H kvs xs) (k:List Key) {y:V}{u:Value}(ry:RelV y u) :
 KT H (kvs.map λkv=>if kv.1=k then (kv.1,y) else kv) (xs.map (putAt k u)):=by
 induction r with
 | nil=>exact .nil
 | @cons p q ps qs h t ih =>
  rw [K0t,K0t]
  refine .cons ?_ ih
  obtain ⟨h1,h2,h3⟩:=h
  unfold putAt
  by_cases e:p.1=k
  ·rw [if_pos e,if_pos (h1.symm.trans e)];exact ⟨h1,h2,ry⟩
  ·rw [if_neg e,if_neg (λz=>e (h1.trans z))];exact ⟨h1,h2,h3⟩
theorem KT.put {H:Hp}{kvs:List (List Key×V)}{xs:List (List Key×Addr×Value)}(r:KT H kvs xs) (k:List Key) {b:Addr}{y:V}{u:Value}(hb:H b=.(g (k.map kV))) (ry:RelV y u) :
 KT H (putK kvs k y) (storedH xs k b u):=by
 have e:(kvs.any λkv=>decide (kv.1=k))=(atKey xs k).isSome:=by
  rw [z7N,(r.val k).isSome_eq,K9i]
 unfold putK storedH
 rw [e]
 by_cases q:(atKey xs k).isSome=true
 ·rw [if_pos q,if_pos q];exact r.repl k ry
 ·rw [if_neg q,if_neg q];exact Paired.snoc r ⟨rfl,hb,ry⟩
theorem KT.keeps {H H':Hp}{kvs:List (List Key×V)}{xs:List (List Key×Addr×Value)}(r:KT H kvs xs) (ht:∀b ys,H b=.(g ys)->H' b=.(g ys)):KT H' kvs xs :=
 Paired.mapP r λ_ _ z=>⟨z.1,ht _ _ z.2.1,z.2.2⟩
section
variable {P:K0n}{w:World}{H:Hp}{h:Heap}{a:Addr}
theorem zO5 {u:HO}(ok:HOk P w H h) (e:Rd H a u):ObjOk P w H h a u:=e.ok ok
theorem zd6 {kvs:List (Key×V)}(ok:HOk P w H h) (e:Rd H a (.dK kvs)):kvs.length≤sizeLine/\(a==K36)=false/\∃vs,KV kvs vs/\h.DictOf (J0 P w) a vs :=
 show ObjOk P w H h a (.dK kvs) from zO5 ok e
theorem z8c {kvs:List (Key×V)}(ok:HOk P w H h) (e:H a=some (.dK kvs)):kvs.length≤sizeLine/\(a==K36)=false/\∃vs,KV kvs vs/\h.DictOf (J0 P w) a vs:=zd6 ok (.inl e)
theorem z7V {ks:List Key}(ok:HOk P w H h) (e:H a=.(g (ks.map kV))):(K8z (J0 P w)).is h ks a:=by
 obtain ⟨_,its,r,o,h1,h2,n,h3⟩:=(show ObjOk P w H h a (.tup (ks.map kV)) from ok a _ e)
 exact ⟨o,its.toArray,n,h1,h2.1,h3,by simpa using z6o r⟩
theorem ze0 {kvs:List (List Key×V)}(ok:HOk P w H h) (e:Rd H a (.dT kvs)):kvs.length≤sizeLine/\(a==K36)=false /\
 ∃xs,KT H kvs xs/\h.DictOfH (K8z (J0 P w)) a xs:=by
 obtain ⟨z,y,xs,r,o,es,ep,h1,h2,h3,h4,h5⟩:=(show ObjOk P w H h a (.dT kvs) from zO5 ok e)
 refine ⟨z,y,xs,r,o,es,ep,h1,h2,h3,h4,λx hx=>?_,h5⟩
 have all:∀{l:List (List Key×V)} {m:List (List Key×Addr×Value)},KT H l m->∀x∈m,(K8z (J0 P w)).is h x.1 x.2.1:=by
  intro l m q
  induction q with
  | nil=>intro x hx;exact nomatch hx
  | @cons p q ps qs hq t ih =>
   intro x hx
   rcases K0v.mp hx with e|hx
   ·subst e
    exact z7V ok (by rw [← hq.1];exact hq.2.1)
   ·exact ih x hx
 exact all r x hx
theorem zT5 {kvs:List (List Key×V)}(ok:HOk P w H h) (e:H a=some (.dT kvs)):kvs.length≤sizeLine/\(a==K36)=false /\
 ∃xs,KT H kvs xs/\h.DictOfH (K8z (J0 P w)) a xs:=ze0 ok (.inl e)
end
def DGet (H:Hp) (a:Addr) (y:V) (r:Option V):Prop :=
 (∃kvs k,Rd H a (.dK kvs)/\y=kV k/\r=valV kvs k)∨∃kvs k b,Rd H a (.dT kvs)/\y=.ref b/\H b=.(g (k.map kV))/\r=valV kvs k
def DPut (H:Hp) (a:Addr) (y v:V) (H':Hp):Prop :=
 (∃kvs k,H a=some (.dK kvs)/\y=kV k/\kvs.length<sizeLine/\H'=upd H a (.dK (putK kvs k v))) ∨
 ∃kvs k b,H a=some (.dT kvs)/\y=.ref b/\H b=.(g (k.map kV))/\kvs.length<sizeLine/\H'=upd H a (.dT (putK kvs k v))
theorem DPut.k {H:Hp}{a:Addr}{kvs:List (Key×V)}{k:Key}{v:V}(e:H a=some (.dK kvs)) (hl:kvs.length<sizeLine):DPut H a (kV k) v (upd H a (.dK (putK kvs k v))):=.inl ⟨kvs,k,e,rfl,hl,rfl⟩
section
variable {X:Cx}{pins:List (Addr×Obj)}{σ:St}{H:Hp}{s:Shared}{a:Addr}{y v:V}{u r:Value}{o:Option V}{A:Around}{E:Value->Shared->Prop}
theorem Inv.big (I:Inv X pins σ H s):K36<s.heap.objs.size:=by
 have h:K2h<s.heap.objs.size:=(I.mod.glob.keeps I.bk).lt
 exact K9h (by decide) h
theorem za1 {Q:Value->Shared->Prop}(hu:A.units+1<cLine) (I:Inv X pins σ H s) (g:DGet H a y (some v)) (ry:RelV y u) (h:∀w' s',Inv X pins σ H s'->RelV v w'->Q w' s') :
 wpAny (model X.prog X.w) A (Z0i (.ref a) u) Q E s:=by
 rcases g with ⟨kvs,k,e,ey,l⟩|⟨kvs,k,b,e,ey,eb,l⟩
 ·subst ey
  obtain ⟨z,hd,vs,rel,dd⟩:=zd6 I.hok e
  obtain ⟨w',hw,rw'⟩:=RelO.some_of (v:=v) (o:=K8y vs k) (by rw [l];exact rel.val k)
  exact wpAny_getItem_of (z8e ry) dd.mapOf hw (h w' _ (I.tok _) rw')
 ·subst ey
  cases (show u=K1n b from ry)
  obtain ⟨z,hd,xs,rel,dd⟩:=ze0 I.hok e
  obtain ⟨w',hw,rw'⟩:=RelO.some_of (v:=v) (o:=(atKey xs k).map (·.2)) (by rw [l];exact rel.val k)
  obtain ⟨p,hp,hp2⟩:=K10.mp hw
  refine wpAny_getItem_heap (K6m hu) (z7V I.hok eb) dd hp ?_
  rw [hp2]
  exact h w' _ (I.tok _) rw'
theorem d_in {Q:Value->Shared->Prop}(hu:A.units+1<cLine) (I:Inv X pins σ H s) (g:DGet H a y o) (ry:RelV y u) (h:∀s',Inv X pins σ H s'->Q (.bool o.isSome) s') :
 wpAny (model X.prog X.w) A (K1h .In u (.ref a)) Q E s:=by
 rcases g with ⟨kvs,k,e,ey,l⟩|⟨kvs,k,b,e,ey,eb,l⟩
 ·subst ey
  obtain ⟨z,hd,vs,rel,dd⟩:=zd6 I.hok e
  refine wpAny_in_of (z8e ry) hd dd.mapOf ?_
  rw [← (rel.val k).isSome_eq,← l]
  exact h _ (I.tok _)
 ·subst ey
  cases (show u=K1n b from ry)
  obtain ⟨z,hd,xs,rel,dd⟩:=ze0 I.hok e
  refine wpAny_in_heap (K6m hu) (z7V I.hok eb) hd dd ?_
  have q:=(rel.val k).isSome_eq
  rw [K9i] at q
  rw [← q,← l]
  exact h _ (I.tok _)
theorem z3X {h':Heap}{t':Nat}{ob:HO}(I:Inv X pins σ H s) (mu:Mut (H a)) (hs:K2z a s.heap h') (he:∃q,h'.get? a=some q) (new:ObjOk X.prog X.w (upd H a ob) h' a ob) :
 Inv X pins σ (upd H a ob) { s with heap:=h',toks:=t' } :=
 I.write (x:=a) (e:=a) mu (.inl rfl) (λb q hb z=>(hs.2 b hb).trans z) he new
theorem z9C {P:K0n}{w:World}{H':Hp}{h':Heap}{kvs:List (Key×V)}{vs:List (Key×Value)}(z:kvs.length≤sizeLine) (hd:(a==K36)=false) (rel:KV kvs vs) (dd:h'.DictOf (J0 P w) a vs) :
 ObjOk P w H' h' a (.dK kvs):=⟨z,hd,vs,rel,dd⟩
theorem z8N {H':Hp}{Q:Unit->Shared->Prop}(hu:A.units+1<cLine) (I:Inv X pins σ H s) (g:DPut H a y v H') (ry:RelV y u) (rv:RelV v r) (h:∀s',Inv X pins σ H' s'->Q () s') :
 wpAny (model X.prog X.w) A (Z0h (.ref a) u r) Q E s:=by
 rcases g with ⟨kvs,k,e,ey,l,eH⟩|⟨kvs,k,b,e,ey,eb,l,eH⟩
 ·subst ey eH
  obtain ⟨z,hd,vs,rel,dd⟩:=z8c I.hok e
  have hz:vs.length≤sizeLine:=by rw [← rel.length];exact z
  have hl:(putK kvs k v).length≤sizeLine:=by have:=z1T kvs k v;omega
  refine wpAny_setItem_pairs (hsz:=hz) (z8e ry) dd λh' dd' hs=>h _ ?_
  have he:∃q,h'.get? a=some q:=let ⟨q,_,_,hq,_⟩:=dd';⟨q,hq⟩
  exact z3X I (by rw [e];exact K2w) hs he (z9C hl hd (rel.put k rv) dd')
 ·subst ey eH
  cases (show u=K1n b from ry)
  obtain ⟨z,hd,xs,rel,dd⟩:=zT5 I.hok e
  have hz:xs.length≤sizeLine:=by rw [← K4a rel];exact z
  have hl:(putK kvs k v).length≤sizeLine:=by have:=z1T kvs k v;omega
  refine wpAny_setItem_heap (hsz:=hz) (K6m hu) (z7V I.hok eb) dd λh' dd' hs=>h _ ?_
  obtain ⟨q,es,ep,hq,h2,h3,h4,_,h5⟩:=dd'
  refine z3X I (by rw [e];exact K2w) hs ⟨q,hq⟩ ⟨hl,hd,_,(rel.put k eb rv).keeps λc ys ec=>?_,q,es,ep,hq,h2,h3,h4,h5⟩
  rw [J6 (zT1 ec e (λz=>nomatch z))]
  exact ec
end
section
variable {X:Cx}{pins:List (Addr×Obj)}{σ:St}{H:Hp}{s:Shared}{a:Addr}{kvs:List (Key×V)}{k:Key}{u:Value}{A:Around}{E:Value->Shared->Prop}
end
def NoSl (i:Expr):Prop:=∀ov iv,K8r i false ov iv=operate [ov,iv] (Z0i ov iv)
theorem zw8 {prog:K0n}{w:World}{A:Around}{E:Value->Shared->Prop}{s:Shared}{env:Env}{value slice:Expr}{pos:Pos}{T id:String}{Q:Value->Shared->Prop}
 (hl:typeLookup (.type T) "__getitem__" = pure (some (.builtin id))) (hs:NoSl slice)
 (h:wpAny (model prog w) A (eval value env) (λo s₁=>wpAny (model prog w) A (eval slice env) (λi s₂=>s₂.TypeIs o T/\wpAny (model prog w) A (Z0i o i) Q E s₂) E s₁) E s) :
 wpAny (model prog w) A (eval (.Subscript value slice pos) env) Q E s:=by
 refine Subscript_ (K3p h (λo s₁ h₁=>K3p h₁ (λi s₂ h₂=>?_) λ_ _ x=>x) λ_ _ x=>x)
 obtain ⟨hT,h₂⟩:=h₂
 unfold subscriptTail
 refine K2 ?_
 rw [getitemInPython_of_ne hT.not_modules]
 refine K2 (K8d hT hl ?_)
 have fin:wpAny (model prog w) A (K8r slice false o i) (λr s₃=>wpAny (model prog w) A (letTemporaryGo value o r >>= λ_=>pure r) Q E s₃) E s₂:=by
  rw [hs o i]
  exact wpAny_operating (K3p h₂ (λr s₃ h₃=>K2 (wpAny_letTemporaryGo (K9 h₃))) λ_ _ x=>x)
 first
  | exact K9 (K2 fin)
  | exact K2 (K9 (K2 fin))
  | exact K2 fin
theorem z6E {X:Cx}{pins:List (Addr×Obj)}{σ:St}{H:Hp}{s:Shared}{a:Addr}{y:V}{o:Option V}(I:Inv X pins σ H s) (g:DGet H a y o):s.TypeIs (.ref a) "dict":=by
 rcases g with ⟨kvs,k,e,_,_⟩|⟨kvs,k,b,e,_,_,_⟩
 ·obtain ⟨_,_,vs,_,dd⟩:=zd6 I.hok e
  exact dd.typeIs
 ·obtain ⟨_,_,xs,_,dd⟩:=ze0 I.hok e
  exact dd.typeIs
def zP6 (td ty:TE):TE:=λσ H Q=>td σ H λx H1=>ty σ H1 λy H2=>∃a v,x=.ref a/\DGet H2 a y (some v)/\Q v H2
section
variable {X:Cx}{o i e value:Expr}{pos pos' tpos:Pos}{td ty tv:TE}
theorem zt4 (hu:X.A.units+1<cLine) (ho:PE X o td) (hi:PE X i ty) (hs:NoSl i):PE X (.Subscript o i pos) (zP6 td ty):=by
 intro pins s σ H Q I h
 refine zw8 PySem.F.slot_dict_getitem.lookup hs (thn (ho pins s σ H _ I h) λu s1 ⟨x,H1,I1,rx,q1⟩=>thn (hi pins s1 σ H1 _ I1 q1) λiv s2 ⟨y,H2,I2,ry,a,v,ex,g,q2⟩=>?_)
 subst ex
 obtain rfl:u=K1n a:=rx
 exact ⟨z6E I2 g,za1 hu I2 g ry λw' s3 I3 rw'=>⟨v,H2,I3,rw',q2⟩⟩
end
theorem z7o {P:K0n}{w:World}{H:Hp}(h:Heap) (hb:K36<h.objs.size):ObjOk P w H (h.push { cls:=.type "dict",data:=.dict #[] }) h.objs.size (.dK []) :=
 ⟨K3g _,beq_eq_false_iff_ne.mpr (K4p (K0p hb)),[],.nil,Heap.DictOf.new h⟩
section
variable {X:Cx}{pos:Pos}
end
def z9S:List (TE×TE)->St->Hp->(List (V×V)->Hp->Prop)->Prop
 | [],_,H,Q=>Q [] H
 | (tk,tv)::r,σ,H,Q=>tk σ H λx H1=>tv σ H1 λy H2=>z9S r σ H2 λps H3=>Q ((x,y)::ps) H3
abbrev VV:List (V×V)->List (Value×Value)->Prop:=Paired λp q=>RelV p.1 q.1/\RelV p.2 q.2
def PPs (X:Cx) (pos:Pos) (keys:List (Option Expr)) (values:List Expr) (trs:List (TE×TE)):Prop :=
 ∀(pins:List (Addr×Obj)) (s:Shared) (σ:St) (H:Hp) (Q:List (V×V)->Hp->Prop),Inv X pins σ H s->z9S trs σ H Q ->
  wpAny (model X.prog X.w) X.A (evalPairs (pairTrees keys values X.env pos)) (λvs s'=>∃ps H',Inv X pins σ H' s'/\VV ps vs/\Q ps H') X.xe s
theorem zr6 {X:Cx}{pos:Pos}:PPs X pos [] [] []:=λpins s σ H Q I h=>pairTrees_nil_walk ⟨[],H,I,.nil,h⟩
theorem zk1 {X:Cx}{pos:Pos}{k v:Expr}{ks:List (Option Expr)}{vs:List Expr}{tk tv:TE}{trs:List (TE×TE)}(hk:PE X k tk) (hv:PE X v tv) (hr:PPs X pos ks vs trs) :
 PPs X pos (some k::ks) (v::vs) ((tk,tv)::trs):=λpins s σ H Q I h =>
 pairTrees_cons_walk (thn (hk pins s σ H _ I h) λu s1 ⟨x,H1,I1,rx,q1⟩=>thn (hv pins s1 σ H1 _ I1 q1) λw2 s2 ⟨y,H2,I2,ry,q2⟩ =>
  thn (hr pins s2 σ H2 _ I2 q2) λws s3 ⟨ps,H3,I3,rel,q3⟩=>⟨(x,y)::ps,H3,I3,.cons ⟨rx,ry⟩ rel,q3⟩)
def z5J (kvs more:List (Key×V)):List (Key×V):=more.foldl (λacc kv=>putK acc kv.1 kv.2) kvs
theorem KV.merge:∀{more:List (Key×V)}{rs:List (Key×Value)}{kvs:List (Key×V)}{vs:List (Key×Value)},KV more rs->KV kvs vs->KV (z5J kvs more) (merged vs rs):=by
 intro more rs kvs vs r
 unfold KV at r
 induction r generalizing kvs vs with
 | nil=>intro q;exact q
 | @cons p q ps qs h t ih =>
  intro r0
  have e:KV (putK kvs p.1 p.2) (stored vs q.1 q.2):=by
   have:=r0.put p.1 h.2
   rw [← h.1];exact this
  exact ih e
theorem z2Y:∀(more kvs:List (Key×V)),(z5J kvs more).length≤kvs.length+more.length
 | [],kvs=>by show kvs.length≤kvs.length+0;omega
 | p::r,kvs=>by
  have h1:=z2Y r (putK kvs p.1 p.2)
  have h2:=z1T kvs p.1 p.2
  show (z5J (putK kvs p.1 p.2) r).length≤_
  rw [K07];omega
theorem z4P {P:K0n}{w:World}:∀{kvs:List (Key×V)}{ws:List (Value×Value)},VV (kvs.map λkv=>(kV kv.1,kv.2)) ws->∃rs,Carries (J0 P w) ws rs/\KV kvs rs
 | [],_,r=>by rw [K3z] at r;cases r;exact ⟨[],K2w,.nil⟩
 | p::kvs,_,r=>by
  rw [K0t] at r
  cases r with
  | @cons a b as bs h t =>
   obtain ⟨rs,c,q⟩:=z4P (P:=P) (w:=w) t
   obtain ⟨b1,b2⟩:=b
   exact ⟨(p.1,b2)::rs,⟨z8e h.1,rfl,c⟩,.cons ⟨rfl,h.2⟩ q⟩
def zR1 (trs:List (TE×TE)):TE:=λσ H Q=>∀p,H p=none->z9S trs σ (upd H p (.dK [])) λps H2=>H2 p=some (.dK [])/\∃kvs:List (Key×V),ps=kvs.map (λkv=>(kV kv.1,kv.2))/\kvs.length≤15/\Q (.ref p) (upd H2 p (.dK (z5J [] kvs)))
theorem zz4 {X:Cx}{pos:Pos}{keys:List (Option Expr)}{values:List Expr}{trs:List (TE×TE)}(h:PPs X pos keys values trs) (hall:keys.all (·.isSome)=true) (hl:keys.length=values.length) (h0:keys≠[])
 (h15:keys.length≤15):PE X (.Dict keys values pos) (zR1 trs):=by
 intro pins s σ H Q I q
 have hn:=I.hok.fresh (K01 s.heap.objs.size)
 have I1:=I.laid (a:=s.heap.objs.size) (o:=.dK []) (h':=s.heap.push { cls:=.type "dict",data:=.dict #[] }) (t':=s.toks) (λ_ _ q=>K6 _ q) (K01 _) (z7o s.heap I.big)
 refine wpAny_Dict_walk (knd:=J0 X.prog X.w) hall hl h0 h15 (thn (h pins _ σ _ _ I1 (q _ hn)) λws s2 ⟨ps,H2,I2,rel,e,kvs,ep,lk,q2⟩=>?_)
 subst ep
 obtain ⟨rs,c,rk⟩:=z4P (P:=X.prog) (w:=X.w) rel
 obtain ⟨z,hd,vs0,r0,dd⟩:=z8c I2.hok e
 cases r0
 refine ⟨rs,c,dd,λh' dd' hs=>⟨.ref s.heap.objs.size,_,?_,rfl,q2⟩⟩
 have hz:(z5J [] kvs).length≤sizeLine:=by
  have h1:=z2Y kvs []
  rw [K0g] at h1
  rw [K77];omega
 have he:∃q,h'.get? s.heap.objs.size=some q:=let ⟨q,_,_,hq,_⟩:=dd';⟨q,hq⟩
 exact z3X I2 (by rw [e];exact K2w) hs he (z9C hz hd (rk.merge .nil) dd')
section
variable {X:Cx}{pins:List (Addr×Obj)}{σ:St}{H:Hp}{s:Shared}{a:Addr}{y d:V}{u r:Value}{o:Option V}{A:Around}{E:Value->Shared->Prop}
end
section
variable {X:Cx}{o e f:Expr}{apos cpos:Pos}{td ty tx:TE}
end
abbrev z49 (ifs:List Expr) (env:Env):Sem Bool :=
 forIn ifs true λc r=>if r=true then do { let ok ← isTrue c env (eval c env);pure (K46 ok) } else pure (K46 r)
def z0f (env:Env):List (Str×K5i)->List (Str×Addr)->List (Str×Addr)
 | [],acc=>acc
 | (n,k)::r,acc=>z0f env r (if k==.free then match env.cells.lookup n with|some c=>(n,c)::acc|none=>acc else acc)
theorem z3j {env:Env}:∀(names:List (Str×K5i)) (acc:List (Str×Addr)),(∀x∈names,x.2=.free->∃c,env.cells.lookup x.1=some c) ->
 (forIn names acc λ(x:Str×K5i) (r:List (Str×Addr))=>(if (x.2==K49)=true then do { let c ← cellOf env x.1;pure (K46 ((x.1,c)::r)) } else pure (K46 r):Sem (ForInStep (List (Str×Addr)))))=(pure (z0f env names acc):Sem _)
 | [],acc,_=>by rw [K8o];rfl
 | (n,k)::r,acc,h=>by
  rw [K8b]
  have hr:∀x∈r,x.2=.free->∃c,env.cells.lookup x.1=some c:=λx hx=>h x (K1a _ hx)
  by_cases hk:k=.free
  ·subst hk
   obtain ⟨c,hc⟩:=h (n,.free) K1k rfl
   have hc':env.cells.lookup n=some c:=hc
   simp only [z0f,beq_self_eq_true,if_true,cellOf,hc',pure_bind]
   exact z3j r _ hr
  ·have hb:(k==K49)=false:=by simpa using hk
   simp only [z0f,hb,K1f,if_false,pure_bind]
   exact z3j r _ hr
theorem z3a {scope:Scope}{env:Env}(h:∀x∈scope.names,x.2=.free->∃c,env.cells.lookup x.1=some c) :
 closureFor scope env=pure (z0f env scope.names []):=by
 unfold closureFor
 exact congrArg (λm:Sem (List (Str×Addr))=>m >>= λz=>pure z) (z3j scope.names [] h)
theorem z7H {env:Env}:∀(names:List (Str×K5i)) (acc:List (Str×Addr)) {x:Str}{c:Addr},(z0f env names acc).lookup x=some c ->
 env.cells.lookup x=some c∨acc.lookup x=some c
 | [],acc,x,c,h=>.inr h
 | (n,k)::r,acc,x,c,h=>by
  rcases z7H r _ h with q|q
  ·exact .inl q
  ·by_cases hk:(k==K49)=true
   ·rw [if_pos hk] at q
    cases e:env.cells.lookup n with
    | none=>rw [e] at q;exact .inr q
    | some c' =>
     rw [e] at q
     simp only [K2l] at q
     cases hx:x==n with
     | true =>
      rw [hx] at q
      cases q
      have:x=n:=by simpa using hx
      subst this
      exact .inl e
     | false=>rw [hx] at q;exact .inr q
   ·rw [if_neg hk] at q
    exact .inr q
theorem z7U {env:Env}{x:Str}{c:Addr}(hc:env.cells.lookup x=some c):∀(names:List (Str×K5i)) (acc:List (Str×Addr)),
 acc.lookup x=some c->(z0f env names acc).lookup x=some c
 | [],acc,h=>h
 | (n,k)::r,acc,h=>by
  refine z7U hc r _ ?_
  by_cases hk:(k==K49)=true
  ·rw [if_pos hk]
   cases e:env.cells.lookup n with
   | none=>exact h
   | some c' =>
    simp only [K2l]
    cases hx:x==n with
    | true =>
     have:x=n:=by simpa using hx
     subst this
     rw [hc] at e
     exact e.symm
    | false=>exact h
  ·rw [if_neg hk];exact h
theorem z6F {env:Env}{x:Str}{c:Addr}(hc:env.cells.lookup x=some c):∀(names:List (Str×K5i)) (acc:List (Str×Addr)),
 (x,K49)∈names->(z0f env names acc).lookup x=some c
 | [],_,h=>absurd h (by simp)
 | (n,k)::r,acc,h=>by
  rcases K0v.mp h with e|h
  ·cases e
   refine z7U hc r _ ?_
   rw [if_pos (by simp),hc]
   simp [K2l]
  ·exact z6F hc r _ h
theorem z2A {sc:Scope}{env:Env}{x:Str}{k:NameKind}(h:(relabel sc env).names.lookup x=some k) :
 ∃k0,sc.names.lookup x=some k0/\(k=k0∨(k=.cell/\k0=.free)):=by
 unfold relabel at h
 dsimp only at h
 generalize sc.names=ns at h ⊢
 induction ns with
 | nil=>simp at h
 | cons a r ih =>
  obtain ⟨n,k1⟩:=a
  simp only [K0t] at h
  by_cases hc:(k1==K49&&env.scope.kind==.function&&env.kindOf n==some .cell)=true
  ·rw [if_pos hc] at h
   simp only [K2l] at h ⊢
   cases hx:x==n with
   | true =>
    rw [hx] at h
    cases h
    refine ⟨k1,rfl,.inr ⟨rfl,?_⟩⟩
    simp only [K0j] at hc
    simpa using hc.1.1
   | false=>rw [hx] at h;exact ih h
  ·rw [if_neg hc] at h
   simp only [K2l] at h ⊢
   cases hx:x==n with
   | true=>rw [hx] at h;cases h;exact ⟨_,rfl,.inl rfl⟩
   | false=>rw [hx] at h;exact ih h
theorem z6g {sc:Scope}{env:Env}{x:Str}(h:sc.names.lookup x=some .free) :
 (relabel sc env).names.lookup x=some .cell∨(relabel sc env).names.lookup x=some .free:=by
 unfold relabel
 dsimp only
 generalize sc.names=ns at h ⊢
 induction ns with
 | nil=>simp at h
 | cons a r ih =>
  obtain ⟨n,k1⟩:=a
  simp only [K0t]
  simp only [K2l] at h
  by_cases hc:(k1==K49&&env.scope.kind==.function&&env.kindOf n==some .cell)=true
  ·rw [if_pos hc]
   simp only [K2l]
   cases hx:x==n with
   | true=>exact .inl rfl
   | false=>rw [hx] at h;exact ih h
  ·rw [if_neg hc]
   simp only [K2l]
   cases hx:x==n with
   | true=>rw [hx] at h;exact .inr h
   | false=>rw [hx] at h;exact ih h
structure CS (X:Cx) (sc:Scope) (N':List Str) (cap:List (Option Nat)):Prop where
 kind:sc.kind=.function
 nocell:∀y∈sc.names,y.2≠.cell
 loc:∀x∈sc.names,x.2=.local->sc.names.lookup x.1=some .local
 fr:∀x∈sc.names,x.2=.free->X.env.kindOf x.1=some .cell∨X.env.kindOf x.1=some .free
 len:cap.length=N'.length
 capt:∀(i j:Nat),cap[i]?=some (some j)->∃x,N'[i]?=some x/\X.N[j]?=some x/\sc.names.lookup x=some .free
def z43 (cap:List (Option Nat)) (σ:St):St:=cap.map λo=>match o with|some j=>(σ[j]?).join|none=>none
def Cx.comp (X:Cx) (N':List Str) (sc:Scope) (s:Shared) (H:Hp) (fp:List Addr) (xe:Value->Shared->Prop):Cx :=
 { X with N:=N',s₀:=s,H₀:=H,env:=compEnvC sc (z0f X.env sc.names []) s.heap.objs.size X.env,outer:=X.stack,stack:=X.stack,ex:=fp,fn:=λ_=>false,pn:=[],xe:=xe }
section
variable {X:Cx}{pins:List (Addr×Obj)}{σ:St}{H:Hp}{s:Shared}{sc:Scope}{N':List Str}{cap:List (Option Nat)}{fp:List Addr}{xe:Value->Shared->Prop}{h':Heap}
theorem CS.cells (S:CS X sc N' cap) (I:Inv X pins σ H s):∀x∈sc.names,x.2=.free->∃c,X.env.cells.lookup x.1=some c:=λx hx hf =>
 I.ok.has x.1 (S.fr x hx hf)
theorem Inv.compIn {t:Nat}(I:Inv X pins σ H s) (S:CS X sc N' cap) (hf:∀b∈fp,FpOk X pins H b) (hlt:∀b∈fp,b<s.heap.objs.size)
 (hns:h'.Ns s.heap.objs.size λ_=>none) (hk:∀b o,s.heap.get? b=some o->h'.get? b=some o) :
 Inv (X.comp N' sc s H fp xe) [] (z43 cap σ) H { s with heap:=h',toks:=t }:=by
 have hfrom:∀{x c},(z0f X.env sc.names []).lookup x=some c->X.env.cells.lookup x=some c:=λ{x c} q=>by
  rcases z7H _ _ q with z|z
  ·exact z
  ·simp at z
 have hlook:∀ {x},((relabel sc X.env).names.lookup x=some .cell∨(relabel sc X.env).names.lookup x=some .free)->sc.names.lookup x=some .free:=fun {x} q=>by
  rcases q with q|q
  ·obtain ⟨k0,e,z⟩:=z2A q
   rcases z with z|z
   ·subst z;exact absurd rfl (S.nocell _ (K1w e))
   ·rw [e,z.2]
  ·obtain ⟨k0,e,z⟩:=z2A q
   rcases z with z|z
   ·rw [e,z]
   ·cases z.1
 refine ⟨⟨I.ok.mod,?_,I.ok.glob,I.ok.blt,K01 _,λx y c h1 h2=>I.ok.inj x y c (hfrom h1) (hfrom h2),λx hx=>?_,λx c q=>absurd (show false=true from q) (by decide),I.ok.hd,I.ok.frames,.inl rfl,λb hb=>⟨?_,λx c q=>?_⟩,
  I.bs,K0m I.ok.bsz I.sz,λb o e hb=>?_,λb hb hz=>?_,I.stack,I.stkFree⟩,
  rfl,I.bare,Un.kept hk,⟨_,hns,λi x v h1 h2 h3=>?_⟩,λx c q=>?_,I.hok.fresh (K01 _),λx c q=>I.freeC x c (hfrom q),λp hp=>absurd (show p∈([]:List (Addr×Obj)) from hp) (by simp),I.hok.kept hk,?_⟩
 ·exact S.kind
 ·have e:=hlook hx
  have e2:=K1w e
  obtain ⟨c,hc⟩:=I.ok.has x (S.fr _ e2 rfl)
  exact ⟨c,z6F hc _ _ e2⟩
 ·exact K0p (hlt b hb)
 ·exact (hf b hb).2.2.2.2.1 x c (hfrom q)
 ·rcases (hf b hb).2.2.2.1 with z|z
  ·exact I.ok.noex b o e z
  ·exact absurd (K0l (K06 e) (K0m I.ok.bsz z)) (K2a _)
 ·rcases K0v.mp (I.stkSub b hz) with z|z
  ·exact (hf b hb).2.1 z
  ·exact (hf b hb).2.2.1 z
 ·have h2':(cap.map λo=>match o with|some j=>(σ[j]?).join|none=>none)[i]?=some (some v):=h2
  rw [K0e] at h2'
  cases e:cap[i]? with
  | none=>rw [e] at h2';cases h2'
  | some o =>
   rw [e] at h2'
   cases o with
   | none=>simp at h2'
   | some j =>
    have hj:σ[j]?=some (some v):=by
     have h4:(σ[j]?).join=some v:=by simpa using h2'
     cases e2:σ[j]? with
     | none=>rw [e2] at h4;simp at h4
     | some o2=>rw [e2] at h4;simp at h4;rw [h4]
    obtain ⟨y,n1,n2,n3⟩:=S.capt i j e
    have ey:y=x:=by
     have h1':N'[i]?=some x:=h1
     rw [n1] at h1';exact K13 h1'
    subst ey
    have hm:=K1w n3
    have hkind:=S.fr _ hm rfl
    obtain ⟨m,hn,hl⟩:=I.loc
    have vis:Vis X.env.scope y:=by
     rcases hkind with z|z
     ·exact .inr (.inl z)
     ·exact .inr (.inr z)
    obtain ⟨u,r,l⟩:=hl j y v n2 hj vis
    refine ⟨u,r,.inr ?_⟩
    rcases l with ⟨z,_⟩|⟨_,c,hc,hcell⟩
    ·have z':X.env.kindOf y=some .local:=z
     rcases hkind with q|q<;>(have q':X.env.kindOf y=_:=q;rw [z'] at q';cases q')
    ·obtain ⟨o,ho,hd⟩:=hcell
     exact ⟨z6g n3,c,z6F hc _ _ hm,o,hk c o ho,hd⟩
 ·obtain ⟨v,o,ho,hd⟩:=I.cell x c (hfrom q)
  exact ⟨v,o,hk c o ho,hd⟩
 ·show (cap.map _).length=N'.length
  rw [K00];exact S.len
theorem Inv.compOut {pins':List (Addr×Obj)}{σ':St}{H':Hp}{s':Shared}(I:Inv X pins σ H s) (hf:∀b∈fp,FpOk X pins H b)
 (J:Inv (X.comp N' sc s H fp xe) pins' σ' H' s') (hs:K2z s.heap.objs.size s'.heap h'):Inv X pins σ H' { s' with heap:=h' }:=by
 have hu:Un (frs X.stack) fp H H' s.heap s'.heap:=J.base
 have hC:H' s.heap.objs.size=none:=J.free
 have lt:∀{b:Addr} {o:Obj},s.heap.get? b=some o->b≠s.heap.objs.size:=λe=>K0p (K06 e)
 refine I.call' (s':={ s' with heap:=h' }) (ch:=fp) J.os ⟨λb o e n h1 h2=>?_,λb o e n h1 h2=>?_,hu.free,λb o e h1=>?_,hu.tups,hu.frzs,hu.tbls⟩ (λb u e=>?_) J.bare (λb hb=>⟨(hf b hb).2.2.2.1,(hf b hb).2.1,(hf b hb).2.2.2.2.1,(hf b hb).2.2.2.2.2⟩)
 ·exact (hs.2 b (lt e)).trans (hu.keep b o e n h1 h2)
 ·obtain ⟨sl,q⟩:=hu.slot b o e n h1 h2
  exact ⟨sl,(hs.2 b (lt e)).trans q⟩
 ·obtain ⟨o',q⟩:=hu.there b o e h1
  exact ⟨o',(hs.2 b (lt e)).trans q⟩
 ·refine (J.hok b u e).stay (λc v hc q=>?_) (λ_ q=>q) λ_ _ q=>q
  have ne:c≠s.heap.objs.size:=by
   rintro rfl
   rcases hc with z|z
   ·rw [← z,hC] at e;cases e
   ·rw [hC] at z;cases z
  exact (hs.2 c ne).trans q
end
def PTs (X:Cx) (ifs:List Expr) (t:TT):Prop :=
 ∀(pins:List (Addr×Obj)) (s:Shared) (σ:St) (H:Hp) (Q:Bool->Hp->Prop),Inv X pins σ H s->t σ H Q->wpAny (model X.prog X.w) X.A (z49 ifs X.env) (TP X pins σ Q) X.xe s
def zv6:TT:=λ_ H Q=>Q true H
def zE1 (t r:TT):TT:=λσ H Q=>t σ H λb H1=>if b=true then r σ H1 Q else Q false H1
theorem z61 {X:Cx}{E:Value->Shared->Prop}{Q:Bool->Shared->Prop}:∀{ifs:List Expr}{s:Shared},Q false s ->
 wpAny (model X.prog X.w) X.A (forIn ifs false λc r=>if r=true then do { let ok ← isTrue c X.env (eval c X.env);pure (K46 ok) } else pure (K46 r)) Q E s
 | [],s,h=>by rw [K8o];exact K9 h
 | c::r,s,h=>by
  rw [K8b]
  refine K2 ?_
  rw [if_neg (by decide)]
  exact K9 (z61 h)
theorem z9B {X:Cx}:PTs X [] zv6:=λpins s σ H Q I h=>by
 unfold z49
 rw [K8o]
 exact K9 ⟨H,I,h⟩
theorem zi8 {X:Cx}{c:Expr}{r:List Expr}{t u:TT}(h1:PT X c t) (h2:PTs X r u):PTs X (c::r) (zE1 t u):=λpins s σ H Q I h=>by
 unfold z49
 rw [K8b]
 refine K2 ?_
 rw [if_pos rfl]
 refine K2 (thn (h1 pins s σ H _ I h) λb s1 ⟨H1,I1,q1⟩=>K9 ?_)
 cases b with
 | true=>exact h2 pins s1 σ H1 Q I1 (by simpa using q1)
 | false=>exact z61 ⟨H1,I1,by simpa using q1⟩
def z4y (p:Pos) (tg:Expr) (ifs:List Expr) (it:Value) (env:Env) (b:Sem Unit) (c:Code):Sem Fin:=do
 K4f p
 match ← pyNext it with
 | none=>pure (.done .next)
 | some v =>
  K48 tg it v
  assign tg env v
  let ok ← z49 ifs env
  if ok then b
  again c
abbrev TB:=St->Hp->(Hp->Prop)->Prop
def Kp (σ σ':St):Prop:=∀(j:Nat) v,σ[j]?=some (some v)->σ'[j]?=some (some v)
def PBd (X:Cx) (b:Sem Unit) (t:TB):Prop :=
 ∀(pins:List (Addr×Obj)) (s:Shared) (σ:St) (H:Hp) (Q:Hp->Prop),Inv X pins σ H s->t σ H Q->wpAny (model X.prog X.w) X.A b (λ_ s'=>∃σ' H',Inv X pins σ' H' s'/\Kp σ σ'/\Q H') X.xe s
def runG (g:TG) (ti:TT) (tb:TB) (σ:St) (J:It) (Q:Hp->Prop) (H:Hp):Prop :=
 ∃W:Nat->Nat->Hp->Prop,(∃m,W 0 m H)/\∀i m H,W i m H ->
  (J.stop i H/\Q H)∨(J.go i H/\∀x H1,J.yld i H x H1->g x σ H1 λσ2 H2=>Kp σ σ2 /\
   ti σ2 H2 λok H3=>if ok=true then tb σ2 H3 λH4=>∃m',m'<m/\W (i+1) m' H4 else ∃m',m'<m/\W (i+1) m' H3)
def CK (ce:Expr):Prop:=(∃elt gens sc pos,ce=.ListComp elt gens sc pos)∨∃k v gens sc pos,ce=.DictComp k v gens sc pos
section
variable {X:Cx}{ce elt val tg iter tg1 iter1:Expr}{ifs ifs1:List Expr}{sc:Scope}{pos p:Pos}{N':List Str}{cap:List (Option Nat)}{g g1:TG}{wi wi1:TI}{ti ti1:TT}{te tv:TE}{tb:TB}{b:Sem Unit}{D:Addr}
theorem zL5 {pins:List (Addr×Obj)}{σ0:St}{H2:Hp}{s2:Shared}{it:Addr}{fp:List Addr}{tn:Nat->Heap->Prop}{J:It}{R:Result->Shared->Prop}{Q:Hp->Prop}{k:Nat}{acc:Value}
 (htn:compTurn ce k (.ref it) acc X.env=z4y p tg ifs (.ref it) X.env b (.compLoop ce k (.ref it) acc X.env)) (hce:CK ce) (hc:X.calm=true)
 (hg:PG (X.wish (K9j (model X.prog X.w) X.A X.env λe s'=>R (.error e) s')) tg g) (ht:PTs (X.wish (K9j (model X.prog X.w) X.A X.env λe s'=>R (.error e) s')) ifs ti) (hb:PBd (X.wish (K9j (model X.prog X.w) X.A X.env λe s'=>R (.error e) s')) b tb)
 (I2:Inv X pins σ0 H2 s2) (T:Turn X.prog X.w X.K tg J fp it tn) (st2:tn 0 s2.heap) (f2:∀b∈fp,FpOk X pins H2 b)
 (hq:runG g ti tb σ0 J Q H2) (hR:∀s' H',Inv X pins σ0 H' s'->Q H'->R (.ok .next) s') :
 K5j (model X.prog X.w) X.A (.compLoop ce k (.ref it) acc X.env) R s2:=by
 have stat:∀{H':Hp},(∀b∈fp,H' b=none)->∀b∈fp,FpOk X pins H' b:=λhn b hb=>⟨hn b hb,(f2 b hb).2⟩
 obtain ⟨W,⟨m0,w0⟩,turn⟩:=hq
 refine codeAny_loop rfl (λn s'=>∃i H',Inv X pins σ0 H' s'/\tn i s'.heap/\(∀b∈fp,H' b=none)/\W i n H') (λn s5 hI=>?_) m0 ⟨0,H2,I2,st2,λb hb=>(f2 b hb).1,w0⟩
 obtain ⟨i,H5,I5,st5,fr5,w5⟩:=hI
 have hu:X.A.under (.compLoop ce k (.ref it) acc X.env)=X.A/\(model X.prog X.w).den (.compLoop ce k (.ref it) acc X.env)=(compTurn ce k (.ref it) acc X.env).onRaise (λx=>do noteFrame x X.env;theTreesLotGoes x):=by
  rcases hce with ⟨_,_,_,_,rfl⟩|⟨_,_,_,_,_,rfl⟩<;>exact ⟨rfl,rfl⟩
 rw [hu.1,hu.2]
 refine wpAny_noted ?_
 rw [htn]
 unfold z4y
 refine K2 (K4b (K2 ?_))
 rcases turn i n H5 w5 with ⟨stop,qn⟩|⟨go,step⟩
 ·refine thn (T.done X rfl rfl rfl hc i pins s5 _ H5 _ I5 (stat fr5) st5 stop) λr s6 ⟨hr,I6⟩=>?_
  subst hr
  exact K9 (hR s6 H5 I6 qn)
 ·refine thn (T.item X rfl rfl rfl hc i pins s5 _ H5 _ I5 (stat fr5) st5 go) λr s6 ⟨u,hr,h6⟩=>?_
  subst hr
  refine K2 (thn h6 λ_ s7 ⟨x,H7,I7,r7,y7,st7,fr7⟩=>?_)
  have I7':=I7.pinned (stat fr7) (T.obj _ _ st7)
  refine K2 (thn (hg _ s7 _ H7 x u _ (I7'.wish _) r7 (step x H7 y7)) λ_ s8 ⟨σ8,H8,I8,k8,q8⟩=>?_)
  refine K2 (thn (ht _ s8 σ8 H8 _ I8 q8) λok s9 ⟨H9,I9,q9⟩=>?_)
  have again:∀{σa:St} {Ha:Hp} {sa:Shared},Inv (X.wish (K9j (model X.prog X.w) X.A X.env λe s'=>R (.error e) s')) (pins++z65 fp s7.heap) σa Ha sa->Kp σ0 σa ->
   Inv X pins σ0 Ha sa/\tn (i+1) sa.heap/\∀b∈fp,Ha b=none:=λ{σa Ha sa} Iw ka=>by
   have Ia:=Iw.unwish
   refine ⟨Ia.unpinned.weak (I5.len.trans Ia.len.symm) ka,T.keep _ _ _ st7 λb hb o e=>(Ia.pin (b,o) (K12 _ (K12 _ (z2r hb e)))).1,λb hb=>?_⟩
   obtain ⟨o,e,d⟩:=T.obj _ _ st7 b hb
   exact (Ia.pin (b,o) (K12 _ (K12 _ (z2r hb e)))).2.1
  cases ok with
  | false =>
   have q9':∃m',m'<n/\W (i+1) m' H9:=by simpa using q9
   obtain ⟨m',hm,w9⟩:=q9'
   obtain ⟨a1,a2,a3⟩:=again I9 k8
   exact K9 ⟨rfl,m',hm,i+1,H9,a1,a2,a3,w9⟩
  | true =>
   rw [if_pos rfl] at q9
   refine K2 (thn (hb _ s9 σ8 H9 _ I9 q9) λ_ sa ⟨σa,Ha,Ia,ka,m',hm,wa⟩=>?_)
   obtain ⟨a1,a2,a3⟩:=again Ia λj v h=>ka j v (k8 j v h)
   exact K9 ⟨rfl,m',hm,i+1,Ha,a1,a2,a3,wa⟩
theorem z19 {env:Env}{prog:K0n}{w:World}{A:Around}{R:Result->Shared->Prop}{s:Shared}{k:Nat}{it acc:Value}(hce:CK ce) (hcl:(clausesOf ce)[k]?=some ⟨tg,iter,ifs,0⟩) (h0:K5j (model prog w) A (.compLoop ce k it acc env) R s)
 (h:wpAny (model prog w) A (pyIter it) (λit' s'=>K5j (model prog w) A (.compLoop ce k it' acc env) R s')
  (K9j (model prog w) A env λx s'=>R (.error x) s') s) :
 K5j (model prog w) A (.compStart ce k it acc env) R s:=by
 refine K8f ?_
 have hu:A.under (.compStart ce k it acc env)=A/\(model prog w).den (.compStart ce k it acc env)=(compStart ce k it acc env).onRaise (λx=>do noteFrame x env;K4f theWindowsPlace):=by
  rcases hce with ⟨_,_,_,_,rfl⟩|⟨_,_,_,_,_,rfl⟩<;>exact ⟨rfl,rfl⟩
 rw [hu.1,hu.2]
 refine wpAny_notedAt ?_
 unfold compStart
 rw [hcl]
 show wpAny _ _ (ask >>= _) _ _ s
 refine K2 (K34 (wpAny_ite ?_))
 split
 ·first
   | exact K2 (K9 (K9 (K9x rfl h0)))
   | exact K9 (K9x rfl h0)
 ·first
   | exact K2 (K6i (K2 (K4b (K2 (K3p h (λit' s' h'=>K9 (K9x rfl h')) λ_ _ x=>x)))))
   | (refine K2 (K6i ?_);show wpAny _ _ (K4f iter.pos >>= _) _ _ s;exact K2 (K4b (K2 (K3p h (λit' s' h'=>K9 (K9x rfl h')) λ_ _ x=>x))))
end
def MkO (mk:Sem Value) (o0:HO):Prop:=∀(X:Cx) (pins:List (Addr×Obj)) (σ:St) (H:Hp) (s:Shared) (E:Value->Shared->Prop) (Q:Value->Shared->Prop),Inv X pins σ H s ->
 (∀s',Inv X pins σ (upd H s.heap.objs.size o0) s'->(∀b o,s.heap.get? b=some o->s'.heap.get? b=some o)->Q (.ref s.heap.objs.size) s')->wpAny (model X.prog X.w) X.A mk Q E s
theorem z9q:MkO (K9k []) (.lst []):=λX pins σ H s E Q I h=>by
 refine K1i ?_
 exact h _ (I.lnew (ys:=[]) (its:=[]) (t':=s.toks) .nil (K3g _)) λb o e=>K6 _ e
theorem zd0:MkO newDict (.dK []):=λX pins σ H s E Q I h=>by
 refine K1i ?_
 exact h _ (I.laid (a:=s.heap.objs.size) (o:=.dK []) (t':=s.toks) (h':=s.heap.push { cls:=.type "dict",dict:=none,data:=.dict #[] }) (λ_ _ q=>K6 _ q) (K01 _) (z7o s.heap I.big)) λb o e=>K6 _ e
structure CmE (ce:Expr) (sc:Scope) (tg iter:Expr) (ifs:List Expr) (mk:Sem Value) (o0:HO) (bd:Addr->Env->Sem Unit) (p:Pos):Prop where
 ck:CK ce
 cl:∃gs,clausesOf ce=⟨tg,iter,ifs,0⟩::gs
 tn:∀it D env,compTurn ce 0 (.ref it) (.ref D) env=z4y p tg ifs (.ref it) env (bd D env) (.compLoop ce 0 (.ref it) (.ref D) env)
 nw:MkO mk o0
 ev:∀env,∃pp,eval ce env=comprehension ce sc env pp mk false (eval iter env) none
 us:∀env f,∃pp,evalThenUse ce env f=(comprehension ce sc env pp mk false (eval iter env) (some f) >>= λ_=>pure ())
section
variable {X:Cx}{ce elt val tg iter tg1 iter1:Expr}{ifs ifs1:List Expr}{sc:Scope}{pos p p1:Pos}{N':List Str}{cap:List (Option Nat)}{g g1:TG}{wi wi1:TI}{ti ti1:TT}{te tv:TE}{tb tb1:TB}{b1:Sem Unit}{D:Addr}{mk:Sem Value}{o0:HO}{bd:Addr->Env->Sem Unit}{tbd:Addr->TB}
theorem zO8 {pins:List (Addr×Obj)}{σ:St}{H2:Hp}{s2:Shared}{it:Addr}{fp:List Addr}{tn:Nat->Heap->Prop}{J:It}{E:Value->Shared->Prop}{RR:Value->Addr->Result->Shared->Prop}{Q:Addr->Hp->Prop}
 (C:CmE ce sc tg iter ifs mk o0 bd p) (hc:X.calm=true) (S:CS X sc N' cap) (hg:∀s H fp xe,PG (X.comp N' sc s H fp xe) tg g) (ht:∀s H fp xe,PTs (X.comp N' sc s H fp xe) ifs ti) (hb:∀D s H fp xe,PBd (X.comp N' sc s H fp xe) (bd D (X.comp N' sc s H fp xe).env) (tbd D))
 (I2:Inv X pins σ H2 s2) (T:Turn X.prog X.w X.K tg J fp it tn) (st2:tn 0 s2.heap) (f2:∀b∈fp,FpOk X pins H2 b)
 (hq:∀D,H2 D=none->runG g ti (tbd D) (z43 cap σ) J (Q D) (upd H2 D o0))
 (hRR:∀(D:Addr) (s3:Shared) (H3:Hp) (xe:Value->Shared->Prop) (H':Hp) (pins':List (Addr×Obj)) (σ':St) (s':Shared),Inv X pins σ H3 s3->(∀b∈fp,FpOk X pins H3 b)->Inv (X.comp N' sc s3 H3 fp xe) pins' σ' H' s'->Q D H'->RR (.ref D) s3.heap.objs.size (.ok .next) s') :
 wpAny (model X.prog X.w) X.A mk (λacc s3=>wpAny (model X.prog X.w) X.A (newFunctionEnv sc X.env.globals (z0f X.env sc.names []) [] X.env.qual none .none (some X.env)) (λcenv s4 =>
  codeAny (model X.prog X.w) X.A (.compStart ce 0 (.ref it) acc { cenv with scope:=relabel sc X.env }) (RR acc cenv.locals) s4) E s3) E s2:=by
 refine C.nw X pins σ H2 s2 E _ I2 λs3 I3 kp3=>?_
 have hfr:H2 s2.heap.objs.size=none:=I2.fresh
 have lt2:∀b∈fp,b<s2.heap.objs.size:=λb hb=>by
  obtain ⟨o,e,_⟩:=T.obj _ _ st2 b hb
  exact K06 e
 generalize s2.heap.objs.size=D at I3 hfr lt2 ⊢
 have r0:=hq D hfr
 have f3:∀b∈fp,FpOk X pins (upd H2 D o0) b:=λb hb=>⟨by rw [J6 (K0p (lt2 b hb))];exact (f2 b hb).1,(f2 b hb).2⟩
 have st3:tn 0 s3.heap:=T.keep _ _ _ st2 λb hb o e=>kp3 b o e
 have lt3:∀b∈fp,b<s3.heap.objs.size:=λb hb=>by
  obtain ⟨o,e,_⟩:=T.obj _ _ st3 b hb
  exact K06 e
 generalize upd H2 D o0=H3 at I3 r0 f3
 refine wpAny_newFunctionEnv S.nocell (λx hx=>absurd hx (by simp)) (λh1 hns hsb=>?_) S.kind
 have kp4:∀b o,s3.heap.get? b=some o->h1.get? b=some o:=λb o e=>by
  rw [hsb.2 b (K0p (K06 e))]
  exact K6 _ e
 have hns':h1.Ns s3.heap.objs.size λ_=>none:=hns
 have st4:tn 0 h1:=T.keep _ _ _ st3 λb hb o e=>kp4 b o e
 have loop:K5j (model X.prog X.w) X.A (.compLoop ce 0 (.ref it) (.ref D) (compEnvC sc (z0f X.env sc.names []) s3.heap.objs.size X.env))
  (RR (.ref D) s3.heap.objs.size) { s3 with heap:=h1,toks:=s3.toks+([]:List (Str×Value)).length }:=by
  let xe:Value->Shared->Prop:=K9j (model X.prog X.w) X.A (compEnvC sc (z0f X.env sc.names []) s3.heap.objs.size X.env) λe s'=>RR (.ref D) s3.heap.objs.size (.error e) s'
  have I4:Inv (X.comp N' sc s3 H3 fp xe) [] (z43 cap σ) H3 { s3 with heap:=h1,toks:=s3.toks+([]:List (Str×Value)).length }:=I3.compIn S f3 lt3 hns' kp4
  exact zL5 (X:=X.comp N' sc s3 H3 fp xe) (C.tn _ _ _) C.ck hc (hg s3 H3 fp _) (ht s3 H3 fp _) (hb D s3 H3 fp _) I4 T st4 (λb hb=>by
   obtain ⟨q1,q2⟩:=I4.ok.exf b hb
   exact ⟨(f3 b hb).1,q1,I4.ok.exfs b hb,.inl hb,q2,λp hp=>absurd (show p∈([]:List (Addr×Obj)) from hp) (by simp)⟩) r0 λs' H' I' q=>hRR D s3 H3 xe H' [] _ s' I3 f3 I' q
 obtain ⟨gs,cl⟩:=C.cl
 exact z19 C.ck (by rw [cl];rfl) loop (T.self _ 0 _ _ _ st4 loop)
def tCm (o0:HO) (cap:List (Option Nat)) (wi:TI) (g:TG) (ti:TT) (tbd:Addr->TB):TE:=λσ H Q=>wi σ H λJ H1=>∀D,H1 D=none->runG g ti (tbd D) (z43 cap σ) J (λH'=>Q (.ref D) H') (upd H1 D o0)
theorem zR0 (C:CmE ce sc tg iter ifs mk o0 bd p) (hc:X.calm=true) (S:CS X sc N' cap) (hi:PI X tg iter wi) (hg:∀s H fp xe,PG (X.comp N' sc s H fp xe) tg g) (ht:∀s H fp xe,PTs (X.comp N' sc s H fp xe) ifs ti)
 (hb:∀D s H fp xe,PBd (X.comp N' sc s H fp xe) (bd D (X.comp N' sc s H fp xe).env) (tbd D)) (hs:∀x,K11 iter X.env x=pure x):PE X ce (tCm o0 cap wi g ti tbd):=by
 intro pins s σ H Q I h
 obtain ⟨pp,ev⟩:=C.ev X.env
 obtain ⟨gs,cl⟩:=C.cl
 rw [ev]
 refine K7h (use:=none) cl hs (z3a (S.cells I)) S.kind S.loc (thn (hi pins s σ H _ I h) λv s1 h1=>thn h1 λitv s2 h2=>?_)
 obtain ⟨it,fp,tn,J,H2,e,I2,T,st2,f2,rq⟩:=h2
 subst e
 refine zO8 (RR:=λacc C=>compPost (model X.prog X.w) X.A X.xe none (EP X pins σ Q) acc C) (Q:=λD H'=>Q (.ref D) H') C hc S hg ht hb I2 T st2 f2 rq ?_
 intro D s3 H3 xe H' pins' σ' s' I3 f3 J3 q
 obtain ⟨m,hn,_⟩:=id J3.loc
 exact ⟨m,hn,λh' hs=>⟨.ref D,H',I3.compOut f3 J3 hs,rfl,q⟩⟩
def sCm (o0:HO) (cap:List (Option Nat)) (wi:TI) (g:TG) (ti:TT) (tbd:Addr->TB) (i:Nat):TS:=λD σ H=>wi σ H λJ H1=>∀d,H1 d=none->runG g ti (tbd d) (z43 cap σ) J (λH'=>D.nx (σ.set i (.(r d))) H') (upd H1 d o0)
theorem zQ5 {y:Str}{py spos:Pos}{i:Nat}(C:CmE ce sc tg iter ifs mk o0 bd p) (hc:X.calm=true) (S:CS X sc N' cap) (hi:PI X tg iter wi) (hg:∀s H fp xe,PG (X.comp N' sc s H fp xe) tg g) (ht:∀s H fp xe,PTs (X.comp N' sc s H fp xe) ifs ti)
 (hb:∀D s H fp xe,PBd (X.comp N' sc s H fp xe) (bd D (X.comp N' sc s H fp xe).env) (tbd D)) (hN:X.N.Nodup) (hy:X.N[i]?=some y) (hl:X.env.scope.names.lookup y=some .local)
 (hsw:K1v ce (some (.Name y py)) spos.line X.env=pure true) (hs:∀x,K11 iter X.env x=pure x):PS X (.Assign [.Name y py] ce spos) (sCm o0 cap wi g ti tbd i):=by
 intro pins s σ H D I h
 rw [exec_Assign_Name_used _ _ _ _ hsw]
 obtain ⟨pp,us⟩:=C.us X.env (assign (.Name y py) X.env)
 obtain ⟨gs,cl⟩:=C.cl
 rw [us]
 refine K2 (K4b (K2 ?_))
 refine K2 (K3p (K7h (use:=some (assign (.Name y py) X.env)) (Q:=λ_ s'=>SP X pins D .next s') cl hs (z3a (S.cells I)) S.kind S.loc
  (thn (hi pins s σ H _ I h) λv s1 h1=>thn h1 λitv s2 h2=>?_)) (λ_ s' hq=>K9 (K9 hq)) λ_ _ z=>z)
 obtain ⟨it,fp,tn,J,H2,e,I2,T,st2,f2,rq⟩:=h2
 subst e
 refine zO8 (RR:=λacc C=>compPost (model X.prog X.w) X.A X.xe (some (assign (.Name y py) X.env)) (λ_ s'=>SP X pins D .next s') acc C) (Q:=λd H'=>D.nx (σ.set i (.(r d))) H') C hc S hg ht hb I2 T st2 f2 rq ?_
 intro d s3 H3 xe H' pins' σ' s' I3 f3 J3 q
 obtain ⟨m,hn,_⟩:=id J3.loc
 have Is:Inv X pins σ H' s':=I3.compOut (h':=s'.heap) f3 J3 (K6y _ _)
 obtain ⟨oC,es,ep,hoC,hdC,hrC⟩:=id hn
 have hC:H' s3.heap.objs.size=none:=J3.free
 have neL:s3.heap.objs.size≠X.env.locals:=K1r I3.lt
 have nfs:s3.heap.objs.size∉X.fs:=I3.nofs (K01 _)
 have Ip:Inv X (pins++[(s3.heap.objs.size,oC)]) σ H' s':=Is.pins_of λp hp=>by
  rcases K0w.mp hp with z|z
  ·exact Is.pin p (K12 _ z)
  ·obtain rfl:p=(s3.heap.objs.size,oC):=by simpa using z
   exact ⟨hoC,hC,neL,nfs,λv hv=>by have hdC':oC.data=_:=hdC;rw [hdC'] at hv;cases hv⟩
 show wpAny _ X.A (assign (.Name y py) X.env (.ref d)) _ _ s'
 refine thn (z6V (X:=X) (i:=i) hN hy (.inl hl) (.inr hl) _ s' σ H' (.ref d) (.ref d) (λσ2 H2=>D.nx σ2 H2) Ip rfl q) λ_ s4 ⟨σ4,H4,I4,q4⟩=>?_
 have pn:=I4.pin (s3.heap.objs.size,oC) (K12 _ (K12 _ (by simp)))
 refine ⟨m,⟨oC,es,ep,pn.1,hdC,hrC⟩,λh' hs=>⟨σ4,H4,?_,q4⟩⟩
 have I4u:Inv X pins σ4 H4 s4:=I4.unpinned
 have st:=I4u.step (g':=s4.gens) (t':=s4.toks) (d':=s4.drawn) (h':=h') (H':=H4) (ch:=[s3.heap.objs.size]) (λb hb=>?_) (λb o _ _ hc e _=>(hs.2 b (by simpa using hc)).trans e)
  (λb o _ _ hc e _=>⟨o.slots,(hs.2 b (by simpa using hc)).trans e⟩) (λ_ _ _ _ n=>n) (λb o hc e=>⟨o,(hs.2 b (by simpa using hc)).trans e⟩) (λ_ _ e=>e) (λ_ _ _ e=>e) (λb ps e=>⟨#[],by rw [e];simp⟩) (λm hm=>?_) (λb u e=>?_) I4u.bare
 ·exact st
 ·have e:b=s3.heap.objs.size:=by simpa using hb
  subst e
  refine ⟨.inr I3.sz,neL,λx c e2 z=>?_,λp hp z=>?_⟩
  ·obtain ⟨v,q2⟩:=I3.cell x c e2
   exact absurd q2.lt (by rw [z];exact K2a _)
  ·have e3:=(I3.pin p hp).1
   exact absurd (K06 e3) (by rw [z];exact K2a _)
 ·obtain ⟨o,es',ep',ho',r'⟩:=hm
  exact ⟨o,es',ep',(hs.2 _ (K4p neL)).trans ho',r'⟩
 ·refine (I4u.hok b u e).stay (λc v hc q=>?_) (λ_ q=>q) λ_ _ q=>q
  have n4:H4 s3.heap.objs.size=none:=pn.2.1
  have ne:c≠s3.heap.objs.size:=by
   rintro rfl
   rcases hc with z|z
   ·rw [← z,n4] at e;cases e
   ·rw [n4] at z;cases z
  exact (hs.2 c ne).trans q
def bApp (te:TE) (D:Addr):TB:=λσ H Q=>te σ H λv H4=>∃acc,H4 D=.(l acc)/\acc.length<sizeLine/\Q (upd H4 D (.lst (acc++[v])))
theorem z9s (he:PE X elt te):PBd X (do let _ ← call (.builtin "list.append") [.ref D,← eval elt X.env]) (bApp te D):=λpins s σ H Q I h=>by
 refine K2 (thn (he pins s σ H _ I h) λv sa ⟨y,Ha,Ia,ra,acc,ea,za,q⟩=>?_)
 refine K2 (thn (z6i (X:=X) _ sa σ Ha (.ref D) [y] (.ref D) [v] (λ_ H'=>H'=upd Ha D (.lst (acc++[y]))) Ia rfl (.cons ra .nil) ⟨D,acc,y,rfl,rfl,ea,za,rfl⟩) λ_ sb ⟨_,Hb,Ib,_,eb⟩=>K9 ?_)
 subst eb
 exact ⟨σ,_,Ib,λ_ _ h=>h,q⟩
theorem z8W {pins:List (Addr×Obj)}{σ:St}{H:Hp}{s:Shared}{a:Addr}{kvs:List (Key×V)}{k:Key}{v:V}{u r:Value}{A:Around}{E:Value->Shared->Prop}{Q:Unit->Shared->Prop}
 (I:Inv X pins σ H s) (e:H a=some (.dK kvs)) (l:kvs.length<sizeLine) (ry:RelV (kV k) u) (rv:RelV v r) (h:∀s',Inv X pins σ (upd H a (.dK (putK kvs k v))) s'->Q () s') :
 wpAny (model X.prog X.w) A (dictSet a u r) Q E s:=by
 obtain ⟨z,hd,vs,rel,dd⟩:=z8c I.hok e
 have hz:vs.length≤sizeLine:=by rw [← rel.length];exact z
 have hl:(putK kvs k v).length≤sizeLine:=by have:=z1T kvs k v;omega
 refine wpAny_dictSet_pairs (hsz:=hz) (z8e ry) dd λh' dd' hs=>h _ ?_
 have he:∃q,h'.get? a=some q:=let ⟨q,_,_,hq,_⟩:=dd';⟨q,hq⟩
 exact z3X I (by rw [e];exact K2w) hs he (z9C hl hd (rel.put k rv) dd')
def bPut (te tv:TE) (D:Addr):TB:=λσ H Q=>te σ H λy H4=>tv σ H4 λv H5=>∃k kvs,y=kV k/\H5 D=some (.dK kvs)/\kvs.length<sizeLine/\Q (upd H5 D (.dK (putK kvs k v)))
theorem z8P (he:PE X elt te) (hv:PE X val tv):PBd X (do
 let kv ← eval elt X.env
 let vv ← K3l [kv] (eval val X.env)
 K4f { elt.pos with endLine:=val.pos.endLine,endCol:=val.pos.endCol }
 K3l [kv,vv] (dictSet D kv vv)) (bPut te tv D):=λpins s σ H Q I h=>by
 refine K2 (thn (he pins s σ H _ I h) λkv sa ⟨y,Ha,Ia,ra,qa⟩=>?_)
 refine K2 (K21 (thn (hv pins sa σ Ha _ Ia qa) λvv sb ⟨z,Hb,Ib,rb,kk,kvs,ey,eb,zb,q⟩=>?_))
 subst ey
 exact K2 (K4b (K21 (z8W Ib eb zb ra rb λs' I'=>⟨σ,_,I',λ_ _ h=>h,q⟩)))
def bIn (wi1:TI) (g1:TG) (ti1:TT) (tb1:TB):TB:=λσ H Q=>wi1 σ H λJ1 H3=>runG g1 ti1 tb1 σ J1 Q H3
def inner (ce iter1:Expr) (D:Addr) (env:Env):Sem Unit:=do
 let x ← eval iter1 env
 K4f iter1.pos
 let x ← K11 iter1 env x
 let _ ← runOwn (.compStart ce 1 (← K3l [x] (pyIter x)) (.ref D) env) env
theorem zo3 {gs:List Comprehension}{c0:Comprehension}(hce:CK ce) (hcl:clausesOf ce=c0::⟨tg1,iter1,ifs1,0⟩::gs) (htn:∀it,compTurn ce 1 (.ref it) (.ref D) X.env=z4y p1 tg1 ifs1 (.ref it) X.env b1 (.compLoop ce 1 (.ref it) (.ref D) X.env)) (hc:X.calm=true)
 (hi1:PI X tg1 iter1 wi1) (hg1:∀xe,PG (X.wish xe) tg1 g1) (ht1:∀xe,PTs (X.wish xe) ifs1 ti1) (hb1:∀xe,PBd (X.wish xe) b1 tb1) (hs1:∀x,K11 iter1 X.env x=pure x):PBd X (inner ce iter1 D X.env) (bIn wi1 g1 ti1 tb1):=λpins s σ H Q I h=>by
 unfold inner
 refine K2 (thn (hi1 pins s σ H _ I h) λv9 s9 h9=>?_)
 refine K2 (K4b (K2 (K8p (hs1 v9) (K2 (K21 (thn h9 λitv sa ha=>?_))))))
 obtain ⟨it1,fp1,tn1,J1,Ha,e,Ia,T1,sta,fa,rq⟩:=ha
 subst e
 have st:K5j (model X.prog X.w) X.A (.compStart ce 1 (.ref it1) (.ref D) X.env) (λr s'=>match r with
  | .ok _=>∃σ' H',Inv X pins σ' H' s'/\Kp σ σ'/\Q H'
  | .error e=>cameBackBy (model X.prog X.w) X.A X.env X.xe e s') sa:=by
  have loop:=zL5 (R:=λr s'=>match r with
   | .ok _=>∃σ' H',Inv X pins σ' H' s'/\Kp σ σ'/\Q H'
   | .error e=>cameBackBy (model X.prog X.w) X.A X.env X.xe e s') (htn it1) hce hc (hg1 _) (ht1 _) (hb1 _) Ia T1 sta fa rq λs' H' I' q=>⟨σ,H',I',λ_ _ h=>h,q⟩
  exact z19 hce (by rw [hcl];rfl) loop (T1.self _ 0 _ _ _ sta loop)
 refine K2 (wpAny_runOwn (K42 st λr s' hr=>?_))
 cases r with
 | ok f=>exact K9 hr
 | error e=>exact hr
end
theorem zv0 {elt tg iter:Expr}{ifs:List Expr}{sc:Scope}{pos:Pos}:CmE (.ListComp elt [⟨tg,iter,ifs,0⟩] sc pos) sc tg iter ifs (K9k []) (.lst []) (λD env=>do let _ ← call (.builtin "list.append") [.ref D,← eval elt env]) iter.pos :=
 ⟨.inl ⟨_,_,_,_,rfl⟩,⟨_,rfl⟩,λ_ _ _=>rfl,z9q,λ_=>⟨_,rfl⟩,λ_ _=>⟨_,rfl⟩⟩
theorem zz5 {elt val tg iter:Expr}{ifs:List Expr}{sc:Scope}{pos:Pos}:CmE (.DictComp elt val [⟨tg,iter,ifs,0⟩] sc pos) sc tg iter ifs newDict (.dK []) (λD env=>do
 let kv ← eval elt env
 let vv ← K3l [kv] (eval val env)
 K4f { elt.pos with endLine:=val.pos.endLine,endCol:=val.pos.endCol }
 K3l [kv,vv] (dictSet D kv vv)) iter.pos :=
 ⟨.inr ⟨_,_,_,_,_,rfl⟩,⟨_,rfl⟩,λ_ _ _=>rfl,zd0,λ_=>⟨_,rfl⟩,λ_ _=>⟨_,rfl⟩⟩
theorem tn2 {ce tg iter iter1:Expr}{it D:Addr}{env:Env}{m:Sem Fin}(h:m=(do
 K4f iter.pos
 match ← pyNext (.ref it) with
 | none=>pure (.done .next)
 | some v =>
  K48 tg (.ref it) v
  assign tg env v
  let ok ← z49 [] env
  if ok then
   let x ← eval iter1 env
   K4f iter1.pos
   let x ← K11 iter1 env x
   let _ ← runOwn (.compStart ce 1 (← K3l [x] (pyIter x)) (.ref D) env) env
  again (.compLoop ce 0 (.ref it) (.ref D) env))):m=z4y iter.pos tg [] (.ref it) env (inner ce iter1 D env) (.compLoop ce 0 (.ref it) (.ref D) env):=by
 rw [h]
 unfold z4y inner
 refine congrArg _ (funext λ_=>congrArg _ (funext λr=>?_))
 cases r with
 | none=>rfl
 | some v =>
  dsimp only
  refine congrArg _ (funext λ_=>congrArg _ (funext λ_=>?_))
  show (z49 [] env >>= _)=(z49 [] env >>= _)
  refine congrArg _ (funext λok=>?_)
  cases ok with
  | false=>rfl
  | true =>
   simp only [if_true,bind_assoc,pure_bind]
theorem zi9 {elt tg iter tg1 iter1:Expr}{ifs1:List Expr}{sc:Scope}{pos:Pos}:CmE (.ListComp elt [⟨tg,iter,[],0⟩,⟨tg1,iter1,ifs1,0⟩] sc pos) sc tg iter [] (K9k []) (.lst []) (λD env=>inner (.ListComp elt [⟨tg,iter,[],0⟩,⟨tg1,iter1,ifs1,0⟩] sc pos) iter1 D env) iter.pos :=
 ⟨.inl ⟨_,_,_,_,rfl⟩,⟨_,rfl⟩,λ_ _ _=>tn2 rfl,z9q,λ_=>⟨_,rfl⟩,λ_ _=>⟨_,rfl⟩⟩
theorem zf8 {elt val tg iter tg1 iter1:Expr}{ifs1:List Expr}{sc:Scope}{pos:Pos}:CmE (.DictComp elt val [⟨tg,iter,[],0⟩,⟨tg1,iter1,ifs1,0⟩] sc pos) sc tg iter [] newDict (.dK []) (λD env=>inner (.DictComp elt val [⟨tg,iter,[],0⟩,⟨tg1,iter1,ifs1,0⟩] sc pos) iter1 D env) iter.pos :=
 ⟨.inr ⟨_,_,_,_,_,rfl⟩,⟨_,rfl⟩,λ_ _ _=>tn2 rfl,zd0,λ_=>⟨_,rfl⟩,λ_ _=>⟨_,rfl⟩⟩
open PySem
def excO (a C:Addr):HO:=.ext λh=>∃o,h.get? a=some o/\o.cls=.ref C
def dctO (a:Addr):HO:=.ext λh=>∃o,h.get? a=some o/\o.cls=.type "dict"
end L2
namespace FT
inductive D where
 | non|bl (b:Bool)|int (i:Int)|str (x:Str)|tup (xs:List D)|fl (xs:List D)|ref (n:Nat)
inductive O where
 | lst (xs:List D)
 | set (ks:List Key)
 | dct
 | dK (kvs:List (Key×D))
 | dF (kvs:List (Key×D))
 | exc (c:Str)
abbrev AH:=List O
abbrev G:=List (Option D)
structure Exn where
 cls:Str
 fs:List (Str×D)
inductive Res (α:Type) where
 | ok (a:α) (h:AH)|err (x:Exn) (h:AH)|bad
abbrev M (α:Type):=AH->Res α
def M.pure {α:Type} (a:α):M α:=λh=>.ok a h
def M.bind {α β:Type} (m:M α) (f:α->M β):M β:=λh=>match m h with
 | .ok a h1=>f a h1
 | .err x h1=>.err x h1
 | .bad=>.bad
instance:Monad M where
 pure:=M.pure
 bind:=M.bind
def bad {α:Type}:M α:=λ_=>.bad
theorem M.bind_eq {α β:Type}(m:M α) (f:α->M β) (h:AH):(m >>= f) h=match m h with
 | .ok a h1=>f a h1
 | .err x h1=>.err x h1
 | .bad=>.bad:=rfl
theorem M.bind_ok {α β:Type}{m:M α}{f:α->M β}{h h1:AH}{a:α}(e:m h=.ok a h1):(m >>= f) h=f a h1:=by rw [M.bind_eq,e]
def SqLP (K:K1) (H:Hp) (a:Addr) (xs:List V):Prop :=
 (∃o,H a=some (.frz o (.lst xs))) ∨
  ∃(o:Obj) (its:Array Value) (n:Nat),K.lookup a=some o/\o.cls=.type "list"/\o.dict=none/\o.data=.seq its n/\its.size≤sizeLine/\Vals xs its.toList
theorem SqLP.sq {K:K1}{H:Hp}{a:Addr}{xs:List V}(h:SqLP K H a xs):SqL K H a xs:=by
 rcases h with ⟨o,h⟩|h
 ·exact .inl (.inr ⟨o,h⟩)
 ·exact .inr h
mutual
def RD (K:K1) (ρ:List Addr) (H:Hp):D->V->Prop
 | .non,v=>v=.non
 | .bl b,v=>v=.bl b
 | .int i,v=>v=.int i
 | .str x,v=>v=.str x
 | .tup ds,v=>∃a xs,v=.ref a/\SqT K H a xs/\RDs K ρ H ds xs
 | .fl ds,v=>∃a xs,v=.ref a/\SqLP K H a xs/\RDs K ρ H ds xs
 | .ref n,v=>∃a,v=.ref a/\ρ[n]?=some a
def RDs (K:K1) (ρ:List Addr) (H:Hp):List D->List V->Prop
 | [],xs=>xs=[]
 | d::ds,xs=>∃x r,xs=x::r/\RD K ρ H d x/\RDs K ρ H ds r
end
def Pre (ρ ρ':List Addr):Prop:=∀(n:Nat) a,ρ[n]?=some a->ρ'[n]?=some a
theorem Pre.refl (ρ:List Addr):Pre ρ ρ:=λ_ _ h=>h
theorem Pre.trans {a b c:List Addr}(x:Pre a b) (y:Pre b c):Pre a c:=λn z h=>y n z (x n z h)
theorem Pre.app (ρ r:List Addr):Pre ρ (ρ++r):=λn a h=>by
 rw [K0s (K5.mp h).1];exact h
structure Ext (K:K1) (H H':Hp):Prop where
 t:∀a xs,SqT K H a xs->SqT K H' a xs
 l:∀a xs,SqLP K H a xs->SqLP K H' a xs
 d:∀a o vs,H a=some (.frz o (.dK vs))->H' a=some (.frz o (.dK vs))
theorem Ext.refl (K:K1) (H:Hp):Ext K H H:=⟨λ_ _ h=>h,λ_ _ h=>h,λ_ _ _ h=>h⟩
theorem Ext.trans {K:K1}{a b c:Hp}(x:Ext K a b) (y:Ext K b c):Ext K a c:=⟨λz xs h=>y.t z xs (x.t z xs h),λz xs h=>y.l z xs (x.l z xs h),λz o vs h=>y.d z o vs (x.d z o vs h)⟩
def Trk:HO->Prop
 | .lst _=>True
 | .set _=>True
 | .ext _=>True
 | .dK _=>True
 | _=>False
theorem Ext.upd {K:K1}{H:Hp}{p:Addr}{o:HO}(h:H p=none∨∃u,H p=some u/\Trk u):Ext K H (upd H p o):=by
 have ne:∀{b:Addr} {u:HO},H b=some u->¬ Trk u->b≠p:=λ{b u} e n z=>by
  subst z
  rcases h with h|⟨u',h,tr⟩
  ·rw [h] at e;cases e
  ·rw [h] at e;cases e;exact n tr
 refine ⟨λa xs q=>?_,λa xs q=>?_,λa o vs q=>by rw [J6 (ne q (λz=>z))];exact q⟩
 ·rcases q with (q|⟨u,q⟩)|q
  ·exact .inl (.inl (by rw [J6 (ne q (λz=>z))];exact q))
  ·exact .inl (.inr ⟨u,by rw [J6 (ne q (λz=>z))];exact q⟩)
  ·exact .inr q
 ·rcases q with ⟨u,q⟩|q
  ·exact .inl ⟨u,by rw [J6 (ne q (λz=>z))];exact q⟩
  ·exact .inr q
section
variable {K:K1}{ρ ρ':List Addr}{H H':Hp}
mutual
theorem RD.mono (p:Pre ρ ρ') (e:Ext K H H'):∀{d:D}{v:V},RD K ρ H d v->RD K ρ' H' d v
 | .non,v,h=>by simpa [RD] using h
 | .bl b,v,h=>by simpa [RD] using h
 | .int b,v,h=>by simpa [RD] using h
 | .str b,v,h=>by simpa [RD] using h
 | .tup ds,v,h=>by
  simp only [RD] at h ⊢
  obtain ⟨a,xs,h1,h2,h3⟩:=h
  exact ⟨a,xs,h1,e.t a xs h2,RDs.mono p e h3⟩
 | .fl ds,v,h=>by
  simp only [RD] at h ⊢
  obtain ⟨a,xs,h1,h2,h3⟩:=h
  exact ⟨a,xs,h1,e.l a xs h2,RDs.mono p e h3⟩
 | .ref n,v,h=>by
  simp only [RD] at h ⊢
  obtain ⟨a,h1,h2⟩:=h
  exact ⟨a,h1,p n a h2⟩
theorem RDs.mono (p:Pre ρ ρ') (e:Ext K H H'):∀{ds:List D}{xs:List V},RDs K ρ H ds xs->RDs K ρ' H' ds xs
 | [],xs,h=>by simpa [RDs] using h
 | d::ds,xs,h=>by
  simp only [RDs] at h ⊢
  obtain ⟨x,r,h1,h2,h3⟩:=h
  exact ⟨x,r,h1,RD.mono p e h2,RDs.mono p e h3⟩
end
theorem RDs.nil:RDs K ρ H [] []:=by simp [RDs]
theorem RDs.cons {d:D}{ds:List D}{x:V}{xs:List V}(h:RD K ρ H d x) (t:RDs K ρ H ds xs):RDs K ρ H (d::ds) (x::xs):=by
 simp only [RDs];exact ⟨x,xs,rfl,h,t⟩
theorem RDs.pair:∀{ds:List D}{xs:List V},RDs K ρ H ds xs->Paired (RD K ρ H) ds xs
 | [],xs,h=>by simp only [RDs] at h;subst h;exact .nil
 | d::ds,xs,h=>by
  simp only [RDs] at h
  obtain ⟨x,r,rfl,h2,h3⟩:=h
  exact .cons h2 h3.pair
theorem RDs.length {ds:List D}{xs:List V}(h:RDs K ρ H ds xs):ds.length=xs.length:=K4a h.pair
theorem RDs.append {a b:List D}{xs ys:List V}(h:RDs K ρ H a xs) (t:RDs K ρ H b ys):RDs K ρ H (a++b) (xs++ys):=by
 induction a generalizing xs with
 | nil=>simp only [RDs] at h;subst h;exact t
 | cons d ds ih =>
  simp only [RDs] at h
  obtain ⟨x,r,rfl,h2,h3⟩:=h
  exact RDs.cons h2 (ih h3)
theorem RDs.get {ds:List D}{xs:List V}{i:Nat}{d:D}(h:RDs K ρ H ds xs) (e:ds[i]?=some d):∃x,xs[i]?=some x/\RD K ρ H d x:=by
 induction ds generalizing xs i with
 | nil=>simp at e
 | cons a ds ih =>
  simp only [RDs] at h
  obtain ⟨x,r,rfl,h2,h3⟩:=h
  cases i with
  | zero=>simp at e;subst e;exact ⟨x,rfl,h2⟩
  | succ i =>
   obtain ⟨y,h4,h5⟩:=ih h3 (by simpa using e)
   exact ⟨y,by simpa using h4,h5⟩
theorem RDs.getV {ds:List D}{xs:List V}{i:Nat}{x:V}(h:RDs K ρ H ds xs) (e:xs[i]?=some x):∃d,ds[i]?=some d/\RD K ρ H d x:=by
 have hl:=h.length
 have hi:=(K5.mp e).1
 obtain ⟨y,h1,h2⟩:=h.get (K4 (l:=ds) (i:=i) (by omega))
 rw [e] at h1;cases h1
 exact ⟨_,K4 (by omega),h2⟩
theorem RDs.set {ds:List D}{xs:List V}{d:D}{x:V}(n:Nat) (h:RDs K ρ H ds xs) (hd:RD K ρ H d x):RDs K ρ H (ds.set n d) (xs.set n x):=by
 induction n generalizing ds xs with
 | zero=>cases ds with
  | nil=>simp only [RDs] at h;subst h;exact RDs.nil
  | cons a ds=>simp only [RDs] at h;obtain ⟨y,r,rfl,h2,h3⟩:=h;exact RDs.cons hd h3
 | succ n ih=>cases ds with
  | nil=>simp only [RDs] at h;subst h;exact RDs.nil
  | cons a ds=>simp only [RDs] at h;obtain ⟨y,r,rfl,h2,h3⟩:=h;exact RDs.cons h2 (ih h3)
theorem RDs.eraseIdx {ds:List D}{xs:List V}(n:Nat) (h:RDs K ρ H ds xs):RDs K ρ H (ds.eraseIdx n) (xs.eraseIdx n):=by
 induction n generalizing ds xs with
 | zero=>cases ds with
  | nil=>simp only [RDs] at h;subst h;exact RDs.nil
  | cons a ds=>simp only [RDs] at h;obtain ⟨y,r,rfl,h2,h3⟩:=h;exact h3
 | succ n ih=>cases ds with
  | nil=>simp only [RDs] at h;subst h;exact RDs.nil
  | cons a ds=>simp only [RDs] at h;obtain ⟨y,r,rfl,h2,h3⟩:=h;exact RDs.cons h2 (ih h3)
theorem RDs.flat {ds:List D}{xs:List V}(n:Nat) (h:RDs K ρ H ds xs):RDs K ρ H (K0d n ds).flatten (K0d n xs).flatten:=by
 induction n with
 | zero=>exact RDs.nil
 | succ n ih=>rw [K2e,K3i,K2e,K3i];exact h.append ih
def RK (K:K1) (ρ:List Addr) (H:Hp):List (Key×D)->List (Key×V)->Prop:=Paired λp q=>p.1=q.1/\RD K ρ H p.2 q.2
theorem RK.imp {α β:Type}{P Q:α->β->Prop}(f:∀a b,P a b->Q a b):∀{xs:List α}{ys:List β},Paired P xs ys->Paired Q xs ys
 | _,_,.nil=>.nil
 | _,_,.cons a b=>.cons (f _ _ a) (RK.imp f b)
theorem RK.mono {kvs:List (Key×D)}{vs:List (Key×V)}(p:Pre ρ ρ') (e:Ext K H H') (r:RK K ρ H kvs vs):RK K ρ' H' kvs vs:=RK.imp (λ_ _ h=>⟨h.1,h.2.mono p e⟩) r
def RO (K:K1) (ρ:List Addr) (H:Hp) (o:O) (a:Addr):Prop:=match o with
 | .lst ds=>∃xs,H a=.(l xs)/\RDs K ρ H ds xs
 | .set ks=>H a=some (.set ks)
 | .dct=>H a=some (dctO a)
 | .dK kvs=>∃vs,H a=some (.dK vs)/\RK K ρ H kvs vs
 | .dF kvs=>∃ob vs,H a=some (.frz ob (.dK vs))/\RK K ρ H kvs vs
 | .exc c=>∃C,K7v K K2h c=some (.(r C))/\H a=some (excO a C)
structure RH (K:K1) (ρ:List Addr) (h:AH) (H:Hp):Prop where
 len:ρ.length=h.length
 nd:∀(i j:Nat) a,ρ[i]?=some a->ρ[j]?=some a->i=j
 obj:∀(n:Nat) o a,h[n]?=some o->ρ[n]?=some a->RO K ρ H o a
theorem RH.at {h:AH}(r:RH K ρ h H) {n:Nat}{o:O}(e:h[n]?=some o):∃a,ρ[n]?=some a/\RO K ρ H o a:=by
 have hi:=(K5.mp e).1
 have hj:n<ρ.length:=by rw [r.len];exact hi
 have q:ρ[n]?=some ρ[n]:=K4 hj
 exact ⟨_,q,r.obj n o _ e q⟩
def O.fz:O->Bool
 | .dF _=>true
 | _=>false
theorem RO.there {o:O}{a:Addr}(z:RO K ρ H o a):∃u,H a=some u/\(o.fz=false->Trk u):=by
 cases o with
 | lst ds=>obtain ⟨xs,z,_⟩:=z;exact ⟨_,z,λ_=>trivial⟩
 | set ks=>exact ⟨_,z,λ_=>trivial⟩
 | dct=>exact ⟨_,z,λ_=>trivial⟩
 | dK kvs=>obtain ⟨vs,z,_⟩:=z;exact ⟨_,z,λ_=>trivial⟩
 | dF kvs=>obtain ⟨ob,vs,z,_⟩:=z;exact ⟨_,z,λq=>by cases q⟩
 | exc c=>obtain ⟨C,_,z⟩:=z;exact ⟨_,z,λ_=>trivial⟩
theorem RH.there {h:AH}(r:RH K ρ h H) {n:Nat}{a:Addr}(e:ρ[n]?=some a):∃u,H a=some u:=by
 have hi:=(K5.mp e).1
 have hj:n<h.length:=by rw [← r.len];exact hi
 obtain ⟨u,z,_⟩:=(r.obj n _ a (K4 hj) e).there
 exact ⟨u,z⟩
theorem RH.tracked {h:AH}(r:RH K ρ h H) {n:Nat}{a:Addr}{o:O}(e:ρ[n]?=some a) (eo:h[n]?=some o) (nf:o.fz=false:=by rfl):∃u,H a=some u/\Trk u:=by
 obtain ⟨u,z,q⟩:=(r.obj n _ a eo e).there
 exact ⟨u,z,q nf⟩
theorem RO.mono {o:O}{a:Addr}(p:Pre ρ ρ') (e:Ext K H H') (hs:H' a=H a) (r:RO K ρ H o a):RO K ρ' H' o a:=by
 cases o with
 | lst ds=>obtain ⟨xs,h1,h2⟩:=r;exact ⟨xs,hs.trans h1,h2.mono p e⟩
 | set ks=>exact hs.trans r
 | dct=>exact hs.trans r
 | dK kvs=>obtain ⟨vs,h1,h2⟩:=r;exact ⟨vs,hs.trans h1,h2.mono p e⟩
 | dF kvs=>obtain ⟨ob,vs,h1,h2⟩:=r;exact ⟨ob,vs,hs.trans h1,h2.mono p e⟩
 | exc c=>obtain ⟨C,h1,h2⟩:=r;exact ⟨C,h1,hs.trans h2⟩
theorem RH.other {h:AH}{p:Addr}{o:HO}(r:RH K ρ h H) (hp:H p=none):RH K ρ h (upd H p o) :=
 ⟨r.len,r.nd,λn u a h1 h2=>(r.obj n u a h1 h2).mono (Pre.refl _) (Ext.upd (.inl hp)) (by
  obtain ⟨u,q⟩:=r.there h2
  exact J6 (Y0 q hp))⟩
theorem RH.pushO {h:AH}{p:Addr}{o':O}{u:HO}(r:RH K ρ h H) (hp:H p=none) (hd:RO K (ρ++[p]) (upd H p u) o' p):RH K (ρ++[p]) (h++[o']) (upd H p u):=by
 have ne:∀{n:Nat} {a:Addr},ρ[n]?=some a->a≠p:=λe=>by
  obtain ⟨xs,q⟩:=r.there e
  exact Y0 q hp
 have ext:Ext K H (L2.upd H p u):=Ext.upd (.inl hp)
 refine ⟨by simp [r.len],λi j a h1 h2=>?_,λn o a h1 h2=>?_⟩
 ·rw [K3j] at h1 h2
  split at h1<;>split at h2
  ·exact r.nd i j a h1 h2
  ·rename_i hi hj
   rw [K1g] at h2
   split at h2
   ·cases h2;exact absurd rfl (ne h1)
   ·cases h2
  ·rename_i hi hj
   rw [K1g] at h1
   split at h1
   ·cases h1;exact absurd rfl (ne h2)
   ·cases h1
  ·rename_i hi hj
   rw [K1g] at h1 h2
   split at h1
   ·split at h2
    ·omega
    ·cases h2
   ·cases h1
 ·rw [K3j] at h1 h2
  rw [r.len] at h2
  split at h1
  ·rename_i hn
   rw [if_pos hn] at h2
   exact (r.obj n o a h1 h2).mono (Pre.app _ _) ext (J6 (ne h2))
  ·rename_i hn
   rw [if_neg hn] at h2
   rw [K1g] at h1 h2
   split at h1
   ·rename_i h0
    rw [if_pos h0] at h2
    cases h1;cases h2
    exact hd
   ·cases h1
theorem RH.push {h:AH}{p:Addr}{ds:List D}{xs:List V}(r:RH K ρ h H) (hp:H p=none) (hd:RDs K ρ H ds xs):RH K (ρ++[p]) (h++[.lst ds]) (upd H p (.lst xs)) :=
 r.pushO hp ⟨xs,w6,hd.mono (Pre.app _ _) (Ext.upd (.inl hp))⟩
theorem RH.pushS {h:AH}{p:Addr}{ks:List Key}(r:RH K ρ h H) (hp:H p=none):RH K (ρ++[p]) (h++[.set ks]) (upd H p (.set ks)):=r.pushO hp w6
theorem RH.setO {h:AH}{n:Nat}{a:Addr}{o0 o':O}{u:HO}(r:RH K ρ h H) (e:h[n]?=some o0) (ea:ρ[n]?=some a) (hd:RO K ρ (upd H a u) o' a) (nf:o0.fz=false:=by rfl):RH K ρ (h.set n o') (upd H a u):=by
 have ext:Ext K H (L2.upd H a u):=Ext.upd (.inr (r.tracked ea e nf))
 refine ⟨by simp [r.len],r.nd,λm o b h1 h2=>?_⟩
 by_cases hm:m=n
 ·subst hm
  rw [ea] at h2;cases h2
  have hi:=(K5.mp e).1
  rw [K19 hi] at h1
  cases h1
  exact hd
 ·rw [K15 (λz=>hm z.symm)] at h1
  exact (r.obj m o b h1 h2).mono (Pre.refl _) ext (J6 λz=>hm (r.nd m n b h2 (by rw [z];exact ea)))
theorem RH.set {h:AH}{n:Nat}{a:Addr}{ds0 ds:List D}{xs:List V}(r:RH K ρ h H) (e:h[n]?=.(l ds0)) (ea:ρ[n]?=some a) (hd:RDs K ρ H ds xs):RH K ρ (h.set n (.lst ds)) (upd H a (.lst xs)) :=
 r.setO e ea ⟨xs,w6,hd.mono (Pre.refl _) (Ext.upd (.inr (r.tracked ea e)))⟩
structure RG (K:K1) (ρ:List Addr) (H:Hp) (γ:G) (σ:L2.St):Prop where
 len:γ.length=σ.length
 var:∀(i:Nat) d,γ[i]?=some (some d)->∃v,σ[i]?=some (some v)/\RD K ρ H d v
theorem RG.mono {γ:G}{σ:L2.St}(p:Pre ρ ρ') (e:Ext K H H') (r:RG K ρ H γ σ):RG K ρ' H' γ σ :=
 ⟨r.len,λi d h=>let ⟨v,h1,h2⟩:=r.var i d h;⟨v,h1,h2.mono p e⟩⟩
theorem RG.set {γ:G}{σ:L2.St}{d:D}{v:V}(r:RG K ρ H γ σ) (i:Nat) (hd:RD K ρ H d v):RG K ρ H (γ.set i (some d)) (σ.set i (some v)):=by
 refine ⟨by simp [r.len],λj d' h=>?_⟩
 by_cases hj:i=j
 ·subst hj
  have hi:i<γ.length:=by
   have:=(K5.mp h).1
   simpa using this
  rw [K19 hi] at h
  cases h
  exact ⟨v,K19 (by rw [← r.len];exact hi),hd⟩
 ·rw [K15 hj] at h ⊢
  exact r.var j d' h
structure Rel (K:K1) (ρ:List Addr) (γ:G) (h:AH) (σ:L2.St) (H:Hp):Prop where
 g:RG K ρ H γ σ
 h:RH K ρ h H
abbrev XX:=Exn->List Addr->AH->Hp->Prop
def Fin {α:Type} (K:K1) (EX:XX) (ρ:List Addr) (H:Hp) (P:α->List Addr->AH->Hp->Prop):Res α->Prop
 | .ok a h'=>∀ρ' H',Pre ρ ρ'->Ext K H H'->RH K ρ' h' H'->P a ρ' h' H'
 | .err x h'=>∀ρ' H',Pre ρ ρ'->Ext K H H'->RH K ρ' h' H'->EX x ρ' h' H'
 | .bad=>False
variable {EX:XX}{α β:Type}
theorem Fin.up {P:α->List Addr->AH->Hp->Prop}{r:Res α}(p:Pre ρ ρ') (e:Ext K H H') (f:Fin K EX ρ H P r):Fin K EX ρ' H' P r:=by
 cases r with
 | ok a h=>exact λρ2 H2 p2 e2 r2=>f ρ2 H2 (p.trans p2) (e.trans e2) r2
 | err x h=>exact λρ2 H2 p2 e2 r2=>f ρ2 H2 (p.trans p2) (e.trans e2) r2
 | bad=>exact f
theorem Fin.mono {P P':α->List Addr->AH->Hp->Prop}{r:Res α}(f:Fin K EX ρ H P r) (h:∀a ρ' h' H',Pre ρ ρ'->Ext K H H'->RH K ρ' h' H'->P a ρ' h' H'->P' a ρ' h' H'):Fin K EX ρ H P' r:=by
 cases r with
 | ok a h1=>exact λρ2 H2 p2 e2 r2=>h a ρ2 h1 H2 p2 e2 r2 (f ρ2 H2 p2 e2 r2)
 | err x h1=>exact f
 | bad=>exact f
theorem Fin.bind {P:β->List Addr->AH->Hp->Prop}{m:M α}{f:α->M β}{h:AH}(z:Fin K EX ρ H P ((m >>= f) h)):Fin K EX ρ H (λa ρ1 h1 H1=>Fin K EX ρ1 H1 P (f a h1)) (m h):=by
 rw [M.bind_eq] at z
 cases e:m h with
 | ok a h1=>rw [e] at z;exact λρ2 H2 p2 e2 r2=>Fin.up p2 e2 z
 | err x h1=>rw [e] at z;exact z
 | bad=>rw [e] at z;exact z
end
def tE (K:K1) (EX:XX) (m:G->M D):TE:=λσ H Q=>∃ρ γ h,Rel K ρ γ h σ H/\Fin K EX ρ H (λd ρ' _ H'=>∀v,RD K ρ' H' d v->Q v H') (m γ h)
def tT (K:K1) (EX:XX) (m:G->M Bool):TT:=λσ H Q=>∃ρ γ h,Rel K ρ γ h σ H/\Fin K EX ρ H (λb _ _ H'=>Q b H') (m γ h)
def tL (K:K1) (EX:XX) (m:G->M (List D)):TA:=λσ H Q=>∃ρ γ h,Rel K ρ γ h σ H/\Fin K EX ρ H (λds ρ' _ H'=>∀vs,RDs K ρ' H' ds vs->Q vs H') (m γ h)
inductive Out where
 | nx (γ:G)|rt (d:D)|bk (γ:G)|ct (γ:G)
def OutP (K:K1) (D:Ends) (o:Out) (ρ:List Addr) (H:Hp):Prop:=match o with
 | .nx γ=>∀σ,RG K ρ H γ σ->D.nx σ H
 | .rt d=>∀v,RD K ρ H d v->D.rt v H
 | .bk γ=>∀σ,RG K ρ H γ σ->D.bk σ H
 | .ct γ=>∀σ,RG K ρ H γ σ->D.ct σ H
def tB (K:K1) (EX:XX) (m:G->M Out):TS:=λD σ H=>∃ρ γ h,Rel K ρ γ h σ H/\Fin K EX ρ H (λo ρ' _ H'=>OutP K D o ρ' H') (m γ h)
structure SE (X:Cx) (EX:XX) (e:Expr) (m:G->M D):Prop where
 h:PE X e (tE X.K EX m)
structure SC (X:Cx) (EX:XX) (e:Expr) (m:G->M Bool):Prop where
 h:PT X e (tT X.K EX m)
structure SA (X:Cx) (EX:XX) (es:List Expr) (m:G->M (List D)):Prop where
 h:PA X es (tL X.K EX m)
structure S1 (X:Cx) (EX:XX) (st:Stmt) (m:G->M Out):Prop where
 h:PS X st (tB X.K EX m)
structure SB (X:Cx) (EX:XX) (st:List Stmt) (m:G->M Out):Prop where
 h:PSs X st (tB X.K EX m)
theorem PE.imp {X:Cx}{e:Expr}{t t':TE}(h:PE X e t) (f:∀σ H Q,t' σ H Q->t σ H Q):PE X e t':=λpins s σ H Q I z=>h pins s σ H Q I (f σ H Q z)
theorem PT.imp {X:Cx}{e:Expr}{t t':TT}(h:PT X e t) (f:∀σ H Q,t' σ H Q->t σ H Q):PT X e t':=λpins s σ H Q I z=>h pins s σ H Q I (f σ H Q z)
theorem PA.imp {X:Cx}{e:List Expr}{t t':TA}(h:PA X e t) (f:∀σ H Q,t' σ H Q->t σ H Q):PA X e t':=λpos pins s σ H Q I z=>h pos pins s σ H Q I (f σ H Q z)
theorem PS.imp {X:Cx}{e:Stmt}{t t':TS}(h:PS X e t) (f:∀σ H Q,t' Q σ H->t Q σ H):PS X e t':=λpins s σ H Q I z=>h pins s σ H Q I (f σ H Q z)
theorem PSs.imp {X:Cx}{e:List Stmt}{t t':TS}(h:PSs X e t) (f:∀σ H Q,t' Q σ H->t Q σ H):PSs X e t':=λpins s σ H Q I z=>h pins s σ H Q I (f σ H Q z)
abbrev FE (K:K1) (EX:XX) (ρ:List Addr) (H:Hp) (Q:VK) (r:Res D):Prop:=Fin K EX ρ H (λd ρ' _ H'=>∀v,RD K ρ' H' d v->Q v H') r
theorem FE.here {K:K1}{EX:XX}{ρ:List Addr}{H:Hp}{Q:VK}{d:D}{h:AH}{v:V}(f:FE K EX ρ H Q (.ok d h)) (r:RH K ρ h H) (rd:RD K ρ H d v):Q v H:=f ρ H (Pre.refl _) (Ext.refl _ _) r v rd
theorem FE.tup {K:K1}{EX:XX}{ρ:List Addr}{H:Hp}{Q:VK}{ds:List D}{xs:List V}{h:AH}{p:Addr}(f:FE K EX ρ H Q (.ok (.tup ds) h)) (r:RH K ρ h H) (hd:RDs K ρ H ds xs) (hp:H p=none):Q (.ref p) (upd H p (.tup xs)):=by
 have e:Ext K H (L2.upd H p (.tup xs)):=Ext.upd (.inl hp)
 refine f ρ _ (Pre.refl _) e (r.other hp) _ ?_
 simp only [RD]
 exact ⟨p,xs,rfl,SqT.of w6,hd.mono (Pre.refl _) e⟩
theorem FE.lst {K:K1}{EX:XX}{ρ:List Addr}{H:Hp}{Q:VK}{ds:List D}{xs:List V}{h:AH}{p:Addr}(f:FE K EX ρ H Q (.ok (.ref h.length) (h++[.lst ds]))) (r:RH K ρ h H) (hd:RDs K ρ H ds xs) (hp:H p=none):Q (.ref p) (upd H p (.lst xs)):=by
 refine f (ρ++[p]) _ (Pre.app _ _) (Ext.upd (.inl hp)) (r.push hp hd) _ ?_
 simp only [RD]
 refine ⟨p,rfl,?_⟩
 rw [← r.len];simp
def getL (n:Nat):M (List D):=λh=>match h[n]? with
 | .(l xs)=>.ok xs h
 | _=>.bad
def newL (xs:List D):M D:=λh=>if xs.length≤sizeLine then .ok (.ref h.length) (h++[.lst xs]) else .bad
section
variable {X:Cx}{EX:XX}{a b c e:Expr}{pos:Pos}{ma mb mc:G->M D}
def eVar (i:Nat):G->M D:=λγ=>match γ[i]? with
 | some (some d)=>pure d
 | _=>bad
theorem z0 (i:Nat) {x:Str}(hN:X.N[i]?=some x:=by rfl) (hv:Vis X.env.scope x:=by first|exact Or.inl rfl|exact Or.inr (Or.inl rfl)|exact Or.inr (Or.inr rfl))
 (hd:(x==("__debug__":Str))=false:=by decide) (hcd:(x==("__classdict__":Str))=false:=by decide):SE X EX (.Name x pos) (eVar i) :=
 ⟨PE.imp (zI9 hN hv hd hcd) λσ H Q ⟨ρ,γ,h,rel,f⟩=>by
  have f':FE X.K EX ρ H Q (eVar i γ h):=f
  unfold eVar at f'
  cases e:γ[i]? with
  | none=>rw [e] at f';exact f'.elim
  | some o=>cases o with
   | none=>rw [e] at f';exact f'.elim
   | some d =>
    rw [e] at f'
    obtain ⟨v,h1,h2⟩:=rel.g.var i d e
    exact ⟨v,h1,FE.here f' rel.h h2⟩⟩
theorem z2Z {d:D}{v:V}(h:PE X e (tC v)) (r:∀ρ H,RD X.K ρ H d v):SE X EX e (λ_=>pure d) :=
 ⟨PE.imp h λσ H Q ⟨ρ,γ,h,rel,f⟩=>FE.here f rel.h (r ρ H)⟩
theorem Z2 {i:Int}{j:Nat}:SE X EX (.Constant (.int i) j pos) (λ_=>pure (.int i)):=z2Z zH2 λ_ _=>by simp [RD]
theorem z2a {i:Bool}{j:Nat}:SE X EX (.Constant (.bool i) j pos) (λ_=>pure (.bl i)):=z2Z zP8 λ_ _=>by simp [RD]
theorem z3h {j:Nat}:SE X EX (.Constant .none j pos) (λ_=>pure .non):=z2Z zL2 λ_ _=>by simp [RD]
theorem J4 {i:Str}{j:Nat}:SE X EX (.Constant (.str i) j pos) (λ_=>pure (.str i)):=z2Z zF1 λ_ _=>by simp [RD]
theorem zt5 {x:Str}{d:D}{v:V}{u:Value}(hg:Gl X x) (hm:X.mg x=some u) (r:RelV v u) (hr:∀ρ H,RD X.K ρ H d v) (hd:(x==("__debug__":Str))=false:=by decide):SE X EX (.Name x pos) (λ_=>pure d) :=
 z2Z (zt0 hg hm r hd) hr
def BR (K:K1) (EX:XX) (r:R2) (f:D->D->M D):Prop:=∀ρ h H x y v u Q,RH K ρ h H->RD K ρ H x v->RD K ρ H y u->FE K EX ρ H Q (f x y h)->r v u H Q
def e2 (f:D->D->M D) (ma mb:G->M D):G->M D:=λγ=>do
 let x ← ma γ
 let y ← mb γ
 f x y
theorem z8X {r:R2}{f:D->D->M D}{ta tb:TE}(h:PE X e (tOp r (tE X.K EX ma) (tE X.K EX mb))) (hr:BR X.K EX r f):SE X EX e (e2 f ma mb) :=
 ⟨PE.imp h λσ H Q ⟨ρ,γ,h,rel,fin⟩=>⟨ρ,γ,h,rel,(Fin.bind fin).mono λx ρ1 h1 H1 p1 e1 r1 f1 v rv=>⟨ρ1,γ,h1,⟨rel.g.mono p1 e1,r1⟩,(Fin.bind f1).mono λy ρ2 h2 H2 p2 e2 r2 f2 u ru =>
  hr ρ2 h2 H2 x y v u Q r2 (rv.mono p2 e2) ru f2⟩⟩⟩
theorem zc1 {op:Operator}{r:R2}{f:D->D->M D}(ho:OpR X (K37 op) r) (hr:BR X.K EX r f) (ha:SE X EX a ma) (hb:SE X EX b mb):SE X EX (.BinOp a op b pos) (e2 f ma mb) :=
 z8X (ta:=tE X.K EX ma) (tb:=tE X.K EX mb) (zR6 ho ha.h hb.h) hr
theorem zK7 {op:CmpOp}{r:R2}{f:D->D->M D}(ho:OpR X (K1h op) r) (hr:BR X.K EX r f) (ha:SE X EX a ma) (hb:SE X EX b mb) (hm:K4c op b=false):SE X EX (.Compare a [op] [b] pos) (e2 f ma mb) :=
 z8X (ta:=tE X.K EX ma) (tb:=tE X.K EX mb) (zr9 ho ha.h hb.h hm) hr
def fI (g:Int->Int->D):D->D->M D
 | .int i,.int j=>pure (g i j)
 | _,_=>bad
theorem zE7 {K:K1}{g:Int->Int->D}{g':Int->Int->V}(hg:∀i j ρ H,RD K ρ H (g i j) (g' i j)):BR K EX (rI0 g') (fI g):=by
 intro ρ h H x y v u Q r rx ry fin
 unfold fI at fin
 split at fin
 ·simp only [RD] at rx ry
  subst rx;subst ry
  exact ⟨_,_,rfl,rfl,FE.here fin r (hg _ _ _ _)⟩
 ·exact fin.elim
def fIC (C:Int->Int->Bool) (g:Int->Int->D):D->D->M D
 | .int i,.int j=>if C i j then pure (g i j) else bad
 | _,_=>bad
theorem zs0 {K:K1}{C:Int->Int->Bool}{C':Int->Int->Prop}{g:Int->Int->D}{g':Int->Int->V}(hc:∀i j,C i j=true->C' i j) (hg:∀i j ρ H,RD K ρ H (g i j) (g' i j)):BR K EX (rI C' g') (fIC C g):=by
 intro ρ h H x y v u Q r rx ry fin
 unfold fIC at fin
 split at fin
 ·simp only [RD] at rx ry
  subst rx;subst ry
  split at fin
  ·rename_i hC
   exact ⟨_,_,rfl,rfl,hc _ _ hC,FE.here fin r (hg _ _ _ _)⟩
  ·exact fin.elim
 ·exact fin.elim
def fSub:=fI λi j=>.int (i - j)
def fDiv:=fIC (λ_ j=>decide (0<j)&&decide (j<1073741824)) λi j=>.int (i / j)
def fMod:=fIC (λ_ j=>decide (0<j)) λi j=>.int (i % j)
def fPow:=fIC (λi j=>decide (0≤j)&&decide (j≤1000)&&decide (-(2 ^ 64)<i)&&decide (i<2 ^ 64)) λi j=>.int (i ^ j.toNat)
theorem z9i (ha:SE X EX a ma) (hb:SE X EX b mb):SE X EX (.BinOp a .FloorDiv b pos) (e2 fDiv ma mb):=zc1 zu6 (zs0 (λi j h=>by simp at h;exact h) λi j ρ H=>by simp [RD]) ha hb
theorem z4i (ha:SE X EX a ma) (hb:SE X EX b mb):SE X EX (.BinOp a .Mod b pos) (e2 fMod ma mb):=zc1 zG1 (zs0 (λi j h=>by simpa using h) λi j ρ H=>by simp [RD]) ha hb
theorem za3 (ha:SE X EX a ma) (hb:SE X EX b mb):SE X EX (.BinOp a .Pow b pos) (e2 fPow ma mb):=zc1 zG2 (zs0 (λi j h=>by
 simp at h
 refine ⟨h.1.1.1,by omega,?_⟩
 have h1:=h.1.2
 have h2:=h.2
 omega) λi j ρ H=>by simp [RD]) ha hb
def fAdd:D->D->M D
 | .int i,.int j=>pure (.int (i+j))
 | .str i,.str j=>if i.length+j.length≤sizeLine then pure (.str (i++j)) else bad
 | .ref i,.ref j=>do
  let x ← getL i
  let y ← getL j
  newL (x++y)
 | .tup x,.tup y=>if !decide (x.length+y.length≤sizeLine) then bad else pure (.tup (x++y))
 | _,_=>bad
theorem z0U {n:Nat}{h h1:AH}{xs:List D}(e:getL n h=.ok xs h1):h1=h/\h[n]?=.(l xs):=by
 unfold getL at e
 split at e
 ·rename_i q;cases e;exact ⟨rfl,q⟩
 ·cases e
theorem z0T {n:Nat}{h h1:AH}{x:Exn}(e:getL n h=.err x h1):False:=by
 unfold getL at e
 split at e<;>cases e
def zC1 (K:K1):R2:=λx y H Q=>∃a b ys,x=.ref a/\y=.ref b/\SqT K H a []/\SqT K H b ys/\Q (.ref b) H
theorem zA5:OpR X (K37 .Add) (zC1 X.K):=by
 intro pins s σ H x y v u Q I rx ry h
 obtain ⟨a,b,ys,rfl,rfl,ha,hb,q⟩:=h
 cases rx
 cases ry
 obtain ⟨its,r1,p1,_⟩:=I.tuple ha
 obtain ⟨its2,r2,p2,_⟩:=I.tuple hb
 have e:its=[]:=(r1.nil_iff).mpr rfl
 subst e
 obtain ⟨⟨cls,dd,data,sl⟩,ho,hc,n,hd⟩:=id p1
 obtain ⟨⟨cls2,dd2,data2,sl2⟩,ho2,hc2,n2,hd2⟩:=id p2
 simp only at hc hd hc2 hd2
 subst hc hd hc2 hd2
 exact K9t ⟨_,ho,rfl⟩ ⟨_,ho2,rfl⟩ K7r K92 K5l K5a (K4w _ _) (tuple_addW0 a b _ _ n n2 dd dd2 sl sl2 rfl) ⟨ho,ho2,.ref b,H,I,rfl,q⟩
theorem zx5:OpR X (K37 .Add) (λx y H Q=>rI0 (λi j=>.int (i+j)) x y H Q∨(∃i j,x=.str i/\y=.str j/\i.length+j.length≤sizeLine/\Q (.str (i++j)) H)∨rCat x y H Q∨zz6 X.K x y H Q∨zC1 X.K x y H Q) :=
 op_add.or (op_add_str.or (op_cat.or (op_catT.or zA5)))
theorem zu8:BR X.K EX (λx y H Q=>rI0 (λi j=>.int (i+j)) x y H Q∨(∃i j,x=.str i/\y=.str j/\i.length+j.length≤sizeLine/\Q (.str (i++j)) H)∨rCat x y H Q∨zz6 X.K x y H Q∨zC1 X.K x y H Q) fAdd:=by
 intro ρ h H x y v u Q r rx ry fin
 unfold fAdd at fin
 split at fin
 ·simp only [RD] at rx ry;subst rx;subst ry
  exact .inl ⟨_,_,rfl,rfl,FE.here fin r (by simp [RD])⟩
 ·simp only [RD] at rx ry;subst rx;subst ry
  split at fin
  ·rename_i hl
   exact .inr (.inl ⟨_,_,rfl,rfl,hl,FE.here fin r (by simp [RD])⟩)
  ·exact fin.elim
 ·rename_i i j
  simp only [RD] at rx ry
  obtain ⟨ai,rfl,hi⟩:=rx
  obtain ⟨aj,rfl,hj⟩:=ry
  have f1:=Fin.bind fin
  cases e:getL i h with
  | bad=>rw [e] at f1;exact f1.elim
  | err z hz=>exact (z0T e).elim
  | ok xs h1 =>
   obtain ⟨rfl,q1⟩:=z0U e
   rw [e] at f1
   have f2:=Fin.bind (f1 ρ H (Pre.refl _) (Ext.refl _ _) r)
   cases e3:getL j h1 with
   | bad=>rw [e3] at f2;exact f2.elim
   | err z hz=>exact (z0T e3).elim
   | ok ys h2 =>
    obtain ⟨rfl,q2⟩:=z0U e3
    rw [e3] at f2
    have f3:=f2 ρ H (Pre.refl _) (Ext.refl _ _) r
    dsimp only at f3
    unfold newL at f3
    split at f3
    ·rename_i hl
     obtain ⟨a1,n1,xs1,o1,d1⟩:=r.at q1
     obtain ⟨a2,n2,xs2,o2,d2⟩:=r.at q2
     rw [hi] at n1;cases n1
     rw [hj] at n2;cases n2
     refine .inr (.inr (.inl ⟨_,_,_,_,rfl,rfl,o1,o2,?_,λp hp=>FE.lst f3 r (d1.append d2) hp⟩))
     rw [← d1.length,← d2.length,← K08];exact hl
    ·exact f3.elim
 ·rename_i x y
  simp only [RD] at rx ry
  obtain ⟨ax,xs,rfl,hx,dx⟩:=rx
  obtain ⟨ay,ys,rfl,hy,dy⟩:=ry
  split at fin
  ·exact fin.elim
  ·rename_i hc
   simp at hc
   have l1:=dx.length
   have l2:=dy.length
   by_cases hxe:xs=[]
   ·subst hxe
    have xe:x=[]:=by simpa using l1
    subst xe
    refine .inr (.inr (.inr (.inr ⟨ax,ay,ys,rfl,rfl,hx,hy,FE.here fin r ?_⟩)))
    simp only [RD]
    exact ⟨ay,ys,rfl,hy,by simpa using dy⟩
   refine .inr (.inr (.inr (.inl ⟨ax,ay,xs,ys,rfl,rfl,hx,hy,hxe,by omega,λe=>?_,λe p hp=>FE.tup fin r (dx.append dy) hp⟩)))
   ·subst e
    refine FE.here fin r ?_
    simp only [RD]
    have:y=[]:=by simpa using l2
    subst this
    exact ⟨ax,xs,rfl,hx,by simpa using dx⟩
 ·exact fin.elim
theorem z1i (ha:SE X EX a ma) (hb:SE X EX b mb):SE X EX (.BinOp a .Add b pos) (e2 fAdd ma mb):=zc1 zx5 zu8 ha hb
def fMul:D->D->M D
 | .int i,.int j=>if (decide (-(2 ^ 64)<i)&&decide (i<2 ^ 64))||(decide (-(2 ^ 64)<j)&&decide (j<2 ^ 64)) then pure (.int (i * j)) else bad
 | .ref i,.int j=>do
  let x ← getL i
  if decide (-(2 ^ 63)≤j)&&decide (j<2 ^ 63) then newL (K0d j.toNat x).flatten else bad
 | _,_=>bad
theorem zJ8:BR X.K EX (λx y H Q=>rI CMul (λi j=>.int (i * j)) x y H Q∨rRep x y H Q) fMul:=by
 intro ρ h H x y v u Q r rx ry fin
 unfold fMul at fin
 split at fin
 ·simp only [RD] at rx ry;subst rx;subst ry
  split at fin
  ·rename_i hc
   refine .inl ⟨_,_,rfl,rfl,?_,FE.here fin r (by simp [RD])⟩
   simp only [K22,K0j,decide_eq_true_eq] at hc
   exact hc
  ·exact fin.elim
 ·rename_i i j
  simp only [RD] at rx ry
  obtain ⟨ai,rfl,hi⟩:=rx
  subst ry
  have f1:=Fin.bind fin
  cases e:getL i h with
  | bad=>rw [e] at f1;exact f1.elim
  | err z hz=>exact (z0T e).elim
  | ok xs h1 =>
   obtain ⟨rfl,q1⟩:=z0U e
   rw [e] at f1
   have f2:=f1 ρ H (Pre.refl _) (Ext.refl _ _) r
   dsimp only at f2
   split at f2
   ·rename_i hb
    simp only [K0j,decide_eq_true_eq] at hb
    unfold newL at f2
    split at f2
    ·rename_i hl
     obtain ⟨a1,n1,xs1,o1,d1⟩:=r.at q1
     rw [hi] at n1;cases n1
     refine .inr ⟨_,_,_,rfl,rfl,o1,hb.1,hb.2,?_,λp hp=>FE.lst f2 r (d1.flat j.toNat) hp⟩
     rw [L2.len_rep,d1.length] at hl
     rw [K69];exact hl
    ·exact f2.elim
   ·exact f2.elim
 ·exact fin.elim
def fCmp (g:Int->Int->Bool):D->D->M D:=fI λi j=>.bl (g i j)
def fLt:D->D->M D
 | .int i,.int j=>pure (.bl (decide (i<j)))
 | .str i,.str j=>pure (.bl (decide (i.cps.toList<j.cps.toList)))
 | _,_=>bad
def fLe:D->D->M D
 | .int i,.int j=>pure (.bl (decide (i≤j)))
 | .str i,.str j=>pure (.bl (!decide (j.cps.toList<i.cps.toList)))
 | _,_=>bad
def fGt:D->D->M D:=fCmp λi j=>decide (j<i)
def fGe:D->D->M D:=fCmp λi j=>decide (j≤i)
theorem z9y:OpR X (K1h .LtE) (λx y H Q=>∃i j,x=.str i/\y=.str j/\Q (.bl (!decide (j.cps.toList<i.cps.toList))) H):=by
 intro pins s σ H x y v u Q I rx ry h
 obtain ⟨i,j,rfl,rfl,q⟩:=h
 obtain ⟨t,rfl⟩:=rx
 obtain ⟨t',rfl⟩:=ry
 exact PySem.P.le_str ⟨.bl _,H,I,rfl,q⟩
theorem zU4 {K:K1}:BR K EX (λx y H Q=>rI0 (λi j=>.bl (decide (i<j))) x y H Q∨∃i j,x=.str i/\y=.str j/\Q (.bl (decide (i.cps.toList<j.cps.toList))) H) fLt:=by
 intro ρ h H x y v u Q r rx ry fin
 unfold fLt at fin
 split at fin
 ·simp only [RD] at rx ry;subst rx;subst ry
  exact .inl ⟨_,_,rfl,rfl,FE.here fin r (by simp [RD])⟩
 ·simp only [RD] at rx ry;subst rx;subst ry
  exact .inr ⟨_,_,rfl,rfl,FE.here fin r (by simp [RD])⟩
 ·exact fin.elim
theorem zR3 {K:K1}:BR K EX (λx y H Q=>rI0 (λi j=>.bl (decide (i≤j))) x y H Q∨∃i j,x=.str i/\y=.str j/\Q (.bl (!decide (j.cps.toList<i.cps.toList))) H) fLe:=by
 intro ρ h H x y v u Q r rx ry fin
 unfold fLe at fin
 split at fin
 ·simp only [RD] at rx ry;subst rx;subst ry
  exact .inl ⟨_,_,rfl,rfl,FE.here fin r (by simp [RD])⟩
 ·simp only [RD] at rx ry;subst rx;subst ry
  exact .inr ⟨_,_,rfl,rfl,FE.here fin r (by simp [RD])⟩
 ·exact fin.elim
def eqD:D->D->Option Bool
 | .int i,.int j=>some (decide (i=j))
 | .str i,.str j=>some (decide (i=j))
 | .bl i,.bl j=>some (decide (i=j))
 | .non,.non=>some true
 | .int _,.str _=>some false
 | .str _,.int _=>some false
 | .non,.int _=>some false
 | .int _,.non=>some false
 | .non,.str _=>some false
 | .str _,.non=>some false
 | _,_=>none
def fEq (neg:Bool):D->D->M D:=λx y=>match eqD x y with
 | some b=>pure (.bl (b != neg))
 | none=>bad
theorem zu5 {K:K1}{ρ:List Addr}{H:Hp}{x y:D}{v u:V}{k:Bool}(e:eqD x y=some k) (rx:RD K ρ H x v) (ry:RD K ρ H y u):scal v u=true/\decide (v=u)=k:=by
 cases x<;>cases y<;>first
  | (have e':none=some k:=e
     exact nomatch e')
  | (simp only [eqD] at e
     simp only [RD] at rx ry
     subst rx
     subst ry
     cases e
     exact ⟨rfl,by simp⟩)
theorem zU1 {K:K1}:BR K EX rEq (fEq false):=by
 intro ρ h H x y v u Q r rx ry fin
 unfold fEq at fin
 cases hk:eqD x y with
 | none=>rw [hk] at fin;exact fin.elim
 | some k =>
  rw [hk] at fin
  obtain ⟨h1,h2⟩:=zu5 hk rx ry
  refine ⟨h1,?_⟩
  rw [h2]
  refine FE.here fin r ?_
  cases k<;>simp [RD]
def z0R:D->Bool
 | .non=>true
 | .bl _=>true
 | .int _=>true
 | .str _=>true
 | _=>false
def eqF:D->D->Bool
 | .non,.non=>true
 | .bl a,.bl b=>a==b
 | .bl a,.int b=>(if a then 1 else 0)==b
 | .int a,.bl b=>a==(if b then 1 else 0)
 | .int a,.int b=>a==b
 | .str a,.str b=>a==b
 | _,_=>false
def seqD:D->M (List D)
 | .tup xs=>pure xs
 | .fl xs=>pure xs
 | .ref n=>getL n
 | _=>bad
def fIn (neg:Bool):D->D->M D:=λx y=>do
 let ys ← seqD y
 if z0R x&&ys.all z0R then pure (.bl ((ys.any λz=>eqF z x) != neg)) else bad
theorem z85 {K:K1}{ρ:List Addr}{H:Hp}{x:D}{v:V}(f:z0R x=true) (r:RD K ρ H x v):z4q v=true:=by
 cases x<;>simp only [RD] at r<;>first|(subst r;rfl)|cases f
theorem zu2 {K:K1}{ρ:List Addr}{H:Hp}{x y:D}{v u:V}(f:z0R x=true) (f':z0R y=true) (r:RD K ρ H x v) (r':RD K ρ H y u):eqV v u=eqF x y:=by
 cases x with
 | non=>simp only [RD] at r;subst r;cases y<;>first|(simp only [RD] at r';subst r';rfl)|cases f'
 | bl b=>simp only [RD] at r;subst r;cases y<;>first|(simp only [RD] at r';subst r';rfl)|cases f'
 | int b=>simp only [RD] at r;subst r;cases y<;>first|(simp only [RD] at r';subst r';rfl)|cases f'
 | str b=>simp only [RD] at r;subst r;cases y<;>first|(simp only [RD] at r';subst r';rfl)|cases f'
 | tup b=>cases f
 | fl b=>cases f
 | ref b=>cases f
theorem z6c {K:K1}{ρ:List Addr}{H:Hp}:∀{xs:List D}{vs:List V},RDs K ρ H xs vs->xs.all z0R=true->vs.all z4q=true
 | [],vs,r,_=>by simp only [RDs] at r;subst r;rfl
 | x::xs,vs,r,f=>by
  simp only [RDs] at r
  obtain ⟨v,r2,rfl,h1,h2⟩:=r
  rw [K4s,K0j] at f ⊢
  exact ⟨z85 f.1 h1,z6c h2 f.2⟩
theorem zc9 {K:K1}{ρ:List Addr}{H:Hp}{x:D}{v:V}(f:z0R x=true) (r:RD K ρ H x v):∀{xs:List D}{vs:List V},RDs K ρ H xs vs->xs.all z0R=true->(vs.any λy=>eqV y v)=xs.any λz=>eqF z x
 | [],vs,rs,_=>by simp only [RDs] at rs;subst rs;rfl
 | y::xs,vs,rs,fs=>by
  simp only [RDs] at rs
  obtain ⟨u,r2,rfl,h1,h2⟩:=rs
  rw [K4s,K0j] at fs
  rw [K29,K29,zu2 fs.1 f h1 r,zc9 f r h2 fs.2]
theorem z2p {K:K1}{ρ:List Addr}{h h1:AH}{H:Hp}{y:D}{u:V}{ys:List D}(r:RH K ρ h H) (ry:RD K ρ H y u) (e:seqD y h=.ok ys h1):h1=h/\∃p xs,u=.ref p/\(SqL K H p xs∨SqT K H p xs)/\RDs K ρ H ys xs:=by
 unfold seqD at e
 split at e
 ·cases e;simp only [RD] at ry;obtain ⟨p,xs,rfl,h2,h3⟩:=ry;exact ⟨rfl,p,xs,rfl,.inr h2,h3⟩
 ·cases e;simp only [RD] at ry;obtain ⟨p,xs,rfl,h2,h3⟩:=ry;exact ⟨rfl,p,xs,rfl,.inl h2.sq,h3⟩
 ·obtain ⟨rfl,q⟩:=z0U e
  simp only [RD] at ry;obtain ⟨p,rfl,h2⟩:=ry
  obtain ⟨a,n1,xs,o1,d1⟩:=r.at q
  rw [h2] at n1;cases n1
  exact ⟨rfl,p,xs,rfl,.inl (SqL.of o1),d1⟩
 ·cases e
theorem z3n {y:D}{h h1:AH}{x:Exn}(e:seqD y h=.err x h1):False:=by
 unfold seqD at e
 split at e
 ·cases e
 ·cases e
 ·exact z0T e
 ·cases e
theorem zI1 {K:K1}{neg:Bool}:BR K EX (rIn K neg) (fIn neg):=by
 intro ρ h H x y v u Q r rx ry fin
 have f1:=Fin.bind fin
 cases e:seqD y h with
 | bad=>rw [e] at f1;exact f1.elim
 | err z hz=>exact (z3n e).elim
 | ok ys h1 =>
  obtain ⟨rfl,p,xs,rfl,hs,hd⟩:=z2p r ry e
  rw [e] at f1
  have f2:=f1 ρ H (Pre.refl _) (Ext.refl _ _) r
  dsimp only at f2
  split at f2
  ·rename_i hc
   rw [K0j] at hc
   refine ⟨p,xs,rfl,hs,z85 hc.1 rx,z6c hd hc.2,?_⟩
   refine FE.here f2 r ?_
   unfold inV
   rw [zc9 hc.1 rx hd hc.2]
   cases neg<;>simp [RD]
  ·exact f2.elim
end
section
variable {env:Env}{es:List Expr}
theorem z71 {c k p}:K0b (.Constant c k p::es) env=(false,eval (.Constant c k p) env)::K0b es env:=rfl
theorem zv3 {c p}:K0b (.Name c p::es) env=(false,eval (.Name c p) env)::K0b es env:=rfl
theorem zr8 {a b c p}:K0b (.Call a b c p::es) env=(false,eval (.Call a b c p) env)::K0b es env:=rfl
theorem zg9 {a b c p}:K0b (.BinOp a b c p::es) env=(false,eval (.BinOp a b c p) env)::K0b es env:=rfl
theorem z8k {a b c p}:K0b (.Compare a b c p::es) env=(false,eval (.Compare a b c p) env)::K0b es env:=rfl
theorem z5U {a b p}:K0b (.Subscript a b p::es) env=(false,eval (.Subscript a b p) env)::K0b es env:=rfl
theorem zj3 {a b p}:K0b (.Tuple a b p::es) env=(false,eval (.Tuple a b p) env)::K0b es env:=rfl
theorem zs7 {a p}:K0b (.List a p::es) env=(false,eval (.List a p) env)::K0b es env:=rfl
theorem z8b {a b p}:K0b (.UnaryOp a b p::es) env=(false,eval (.UnaryOp a b p) env)::K0b es env:=rfl
theorem z6T {a b c p}:K0b (.ListComp a b c p::es) env=(false,eval (.ListComp a b c p) env)::K0b es env:=rfl
end
section
variable {X:Cx}{EX:XX}{a b c e:Expr}{pos:Pos}{ma mb mc:G->M D}
def CO (X:Cx) (EX:XX) (op:CmpOp) (f:D->D->M D):Prop:=∃r,OpR X (K1h op) r/\BR X.K EX r f
theorem z9m:CO X EX .Lt fLt:=⟨_,op_lt.or z94,zU4⟩
theorem z45:CO X EX .LtE fLe:=⟨_,op_le.or z9y,zR3⟩
theorem zi4:CO X EX .Gt fGt:=⟨_,zR2,zE7 λi j ρ H=>by simp [RD]⟩
theorem zQ4:CO X EX .GtE fGe:=⟨_,zS5,zE7 λi j ρ H=>by simp [RD]⟩
theorem z66:CO X EX .Eq (fEq false):=⟨_,zT3,zU1⟩
theorem z8a:CO X EX .In (fIn false):=⟨_,z8V,zI1⟩
theorem z33:CO X EX .NotIn (fIn true):=⟨_,z5A,zI1⟩
def fIs (neg:Bool):D->D->M D:=λx y=>match y with
 | .non=>(match x with
  | .non=>pure (.bl (true != neg))
  | .bl _=>pure (.bl (false != neg))
  | .int _=>pure (.bl (false != neg))
  | .str _=>pure (.bl (false != neg))
  | .tup _=>pure (.bl (false != neg))
  | .ref _=>pure (.bl (false != neg))
  | .fl _=>pure (.bl (false != neg)))
 | .bl k=>(match x with
  | .bl j=>pure (.bl ((j==k) != neg))
  | .non=>pure (.bl (false != neg))
  | .int _=>pure (.bl (false != neg))
  | .str _=>pure (.bl (false != neg))
  | .tup _=>pure (.bl (false != neg))
  | .ref _=>pure (.bl (false != neg))
  | .fl _=>pure (.bl (false != neg)))
 | _=>bad
theorem z7m (neg:Bool):OpR X (K1h (if neg then .IsNot else .Is)) (λx y H Q=>(y=.non/\Q (.bl ((decide (x=.non)) != neg)) H)∨∃k,y=.bl k/\Q (.bl ((decide (x=.bl k)) != neg)) H):=by
 intro pins s σ H x y v u Q I rx ry h
 have pl:∀{a b:Value},plainIs a b=true->EP X pins σ Q (.bool ((a==b) != neg)) s->wpAny (model X.prog X.w) X.A (K1h (if neg then .IsNot else .Is) a b) (EP X pins σ Q) X.xe s:=λ{a b} hp hq=>by
  cases neg with
  | false=>exact wpAny_is_plain hp (by simpa using hq)
  | true=>exact wpAny_isNot_plain hp (by simpa using hq)
 rcases h with ⟨rfl,q⟩|⟨k,rfl,q⟩
 ·cases ry
  have fin:∀{a:Value} {w:Bool},w=decide (x=.non)->(a==K2k)=w->EP X pins σ Q (.bool ((a==K2k) != neg)) s:=λ{a w} e1 e2=>by
   rw [e2,e1];exact ⟨.bl _,H,I,rfl,q⟩
  cases x with
  | non=>cases rx;exact pl rfl (fin (w:=true) (by simp) rfl)
  | bl j=>cases rx;exact pl rfl (fin (w:=false) (by simp) rfl)
  | int j=>obtain ⟨t,rfl⟩:=rx;exact pl rfl (fin (w:=false) (by simp) rfl)
  | str j=>obtain ⟨t,rfl⟩:=rx;exact pl rfl (fin (w:=false) (by simp) rfl)
  | byt j=>obtain ⟨t,rfl⟩:=rx;exact pl rfl (fin (w:=false) (by simp) rfl)
  | flt j=>obtain ⟨t,rfl⟩:=rx;exact pl rfl (fin (w:=false) (by simp) rfl)
  | ref j=>cases rx;exact pl rfl (fin (w:=false) (by simp) rfl)
  | ty j=>cases rx;exact pl rfl (fin (w:=false) (by simp) rfl)
 ·cases ry
  have fin:∀{a:Value} {w:Bool},w=decide (x=.bl k)->(a==K6f k)=w->EP X pins σ Q (.bool ((a==K6f k) != neg)) s:=λ{a w} e1 e2=>by
   rw [e2,e1];exact ⟨.bl _,H,I,rfl,q⟩
  cases x with
  | non=>cases rx;exact pl rfl (fin (w:=false) (by simp) rfl)
  | bl j=>cases rx;exact pl rfl (fin (w:=(j==k)) (by rw [K0z];simp) (by cases j<;>cases k<;>rfl))
  | int j=>obtain ⟨t,rfl⟩:=rx;exact pl rfl (fin (w:=false) (by simp) rfl)
  | str j=>obtain ⟨t,rfl⟩:=rx;exact pl rfl (fin (w:=false) (by simp) rfl)
  | byt j=>obtain ⟨t,rfl⟩:=rx;exact pl rfl (fin (w:=false) (by simp) rfl)
  | flt j=>obtain ⟨t,rfl⟩:=rx;exact pl rfl (fin (w:=false) (by simp) rfl)
  | ref j=>cases rx;exact pl rfl (fin (w:=false) (by simp) rfl)
  | ty j=>cases rx;exact pl rfl (fin (w:=false) (by simp) rfl)
theorem z9V {K:K1}{ρ:List Addr}{H:Hp}{x:D}{v:V}(rx:RD K ρ H x v):decide (v=.non)=(match x with|.non=>true|_=>false):=by
 cases x<;>simp only [RD] at rx
 case non=>subst rx;simp
 case bl=>subst rx;simp
 case int=>subst rx;simp
 case str=>subst rx;simp
 case tup=>obtain ⟨a,xs,rfl,_⟩:=rx;simp
 case fl=>obtain ⟨a,xs,rfl,_⟩:=rx;simp
 case ref=>obtain ⟨a,rfl,_⟩:=rx;simp
theorem zg0 {K:K1}{ρ:List Addr}{H:Hp}{x:D}{v:V}{k:Bool}(rx:RD K ρ H x v):decide (v=.bl k)=(match x with|.bl j=>j==k|_=>false):=by
 cases x<;>simp only [RD] at rx
 case non=>subst rx;simp
 case bl j=>subst rx;cases j<;>cases k<;>rfl
 case int=>subst rx;simp
 case str=>subst rx;simp
 case tup=>obtain ⟨a,xs,rfl,_⟩:=rx;simp
 case fl=>obtain ⟨a,xs,rfl,_⟩:=rx;simp
 case ref=>obtain ⟨a,rfl,_⟩:=rx;simp
theorem zN4 {K:K1}(neg:Bool):BR K EX (λx y H Q=>(y=.non/\Q (.bl ((decide (x=.non)) != neg)) H)∨∃k,y=.bl k/\Q (.bl ((decide (x=.bl k)) != neg)) H) (fIs neg):=by
 intro ρ h H x y v u Q r rx ry fin
 cases y with
 | non =>
  simp only [RD] at ry
  refine .inl ⟨ry,?_⟩
  rw [z9V rx]
  cases x<;>first|exact (show False from fin).elim|exact FE.here fin r (by simp [RD])
 | bl k =>
  simp only [RD] at ry
  refine .inr ⟨k,ry,?_⟩
  rw [zg0 rx]
  cases x<;>first|exact (show False from fin).elim|exact FE.here fin r (by simp [RD])
 | _=>exact (show False from fin).elim
theorem zQ2:CO X EX .Is (fIs false):=⟨_,z7m false,zN4 false⟩
theorem z7a:CO X EX .IsNot (fIs true):=⟨_,z7m true,zN4 true⟩
theorem se_c {op:CmpOp}{f:D->D->M D}(h:CO X EX op f) (ha:SE X EX a ma) (hb:SE X EX b mb) (hm:K4c op b=false:=by first|exact zp7 _|with_unfolding_all rfl):SE X EX (.Compare a [op] [b] pos) (e2 f ma mb):=by
 obtain ⟨r,h1,h2⟩:=h
 exact zK7 h1 h2 ha hb hm
def asB:D->M Bool
 | .bl b=>pure b
 | _=>bad
theorem zC4 {t:TE}{m:G->M D}(h:∀σ H Q,tE X.K EX m σ H Q->t σ H Q):∀σ H Q,tT X.K EX (λγ=>do let d ← m γ;asB d) σ H Q->zr1 t σ H Q:=by
 intro σ H Q ⟨ρ,γ,h0,rel,fin⟩
 refine h σ H _ ⟨ρ,γ,h0,rel,(Fin.bind fin).mono λd ρ1 h1 H1 p1 e1 r1 f1 v rv=>?_⟩
 cases d<;>first|exact (show False from f1).elim|skip
 rename_i b
 simp only [RD] at rv
 exact ⟨b,rv,f1 ρ1 H1 (Pre.refl _) (Ext.refl _ _) r1⟩
theorem sc_c {op:CmpOp}{f:D->D->M D}(h:CO X EX op f) (ha:SE X EX a ma) (hb:SE X EX b mb) (hm:K4c op b=false:=by first|exact zp7 _|with_unfolding_all rfl):SC X EX (.Compare a [op] [b] pos) (λγ=>do let d ← e2 f ma mb γ;asB d):=by
 constructor
 obtain ⟨r,h1,h2⟩:=h
 refine PT.imp (zz3 h1 ha.h hb.h hm) (zC4 λσ H Q ⟨ρ,γ,h,rel,fin⟩=>?_)
 exact ⟨ρ,γ,h,rel,(Fin.bind fin).mono λx ρ1 h1 H1 p1 e1 r1 f1 v rv=>⟨ρ1,γ,h1,⟨rel.g.mono p1 e1,r1⟩,(Fin.bind f1).mono λy ρ2 h3 H2 p2 e2 r2 f2 u ru =>
  h2 ρ2 h3 H2 x y v u Q r2 (rv.mono p2 e2) ru f2⟩⟩
def e3 (f g:D->D->M D) (ma mb mc:G->M D):G->M D:=λγ=>do
 let x ← ma γ
 let y ← mb γ
 let k ← f x y
 let t ← asB k
 if t then do
  let z ← mc γ
  g y z
 else pure (.bl false)
theorem z80 {r r':R2}{f g:D->D->M D}(h2:BR X.K EX r f) (h4:BR X.K EX r' g):∀σ H Q,tE X.K EX (e3 f g ma mb mc) σ H Q->zb6 r r' (tE X.K EX ma) (tE X.K EX mb) (tE X.K EX mc) σ H Q:=by
 intro σ H Q ⟨ρ,γ,h,rel,fin⟩
 refine ⟨ρ,γ,h,rel,(Fin.bind fin).mono λx ρ1 h1 H1 p1 e1 r1 f1 v rv=>⟨ρ1,γ,h1,⟨rel.g.mono p1 e1,r1⟩,(Fin.bind f1).mono λy ρ2 h3 H2 p2 e2 r2 f2 u ru=>?_⟩⟩
 refine h2 ρ2 h3 H2 x y v u _ r2 (rv.mono p2 e2) ru ((Fin.bind f2).mono λk ρ3 h5 H3 p3 e3 r3 f3 z rz=>?_)
 cases k<;>first|exact (show False from f3).elim|skip
 rename_i t
 simp only [RD] at rz
 refine ⟨t,rz,?_⟩
 cases t with
 | false =>
  rw [if_neg (by decide)]
  exact FE.here (d:=.bl false) (h:=h5) (ρ:=ρ3) f3 r3 (by simp [RD])
 | true =>
  rw [if_pos rfl]
  have f4:Fin X.K EX ρ3 H3 (λd ρ' _ H'=>∀v,RD X.K ρ' H' d v->Q v H') ((mc γ >>= λz=>g y z) h5):=f3
  exact ⟨ρ3,γ,h5,⟨((rel.g.mono p1 e1).mono p2 e2).mono p3 e3,r3⟩,(Fin.bind f4).mono λw ρ4 h6 H4 p4 e4 r4 f5 q rq=>h4 ρ4 h6 H4 y w u q Q r4 ((ru.mono p3 e3).mono p4 e4) rq f5⟩
theorem z9J {op op':CmpOp}{f g:D->D->M D}(h:CO X EX op f) (h':CO X EX op' g) (ha:SE X EX a ma) (hb:SE X EX b mb) (hc:SE X EX c mc) (hm:Z03 [op,op'] [b,c]=false:=by with_unfolding_all rfl):SE X EX (.Compare a [op,op'] [b,c] pos) (e3 f g ma mb mc):=by
 constructor
 obtain ⟨r,h1,h2⟩:=h
 obtain ⟨r',h3,h4⟩:=h'
 exact PE.imp (zd5 h1 h3 ha.h hb.h hc.h hm) (z80 h2 h4)
theorem zR7 {op op':CmpOp}{f g:D->D->M D}(h:CO X EX op f) (h':CO X EX op' g) (ha:SE X EX a ma) (hb:SE X EX b mb) (hc:SE X EX c mc) (hm:Z03 [op,op'] [b,c]=false:=by with_unfolding_all rfl):SC X EX (.Compare a [op,op'] [b,c] pos) (λγ=>do let d ← e3 f g ma mb mc γ;asB d):=by
 constructor
 obtain ⟨r,h1,h2⟩:=h
 obtain ⟨r',h3,h4⟩:=h'
 exact PT.imp (zj2 h1 h3 ha.h hb.h hc.h hm) (zC4 (z80 h2 h4))
def eAnd (ma mb:G->M D):G->M D:=λγ=>do
 let x ← ma γ
 let t ← asB x
 if t then mb γ else pure (.bl false)
def eOr (ma mb:G->M D):G->M D:=λγ=>do
 let x ← ma γ
 let t ← asB x
 if t then pure (.bl true) else mb γ
def eNot (ma:G->M D):G->M D:=λγ=>do
 let x ← ma γ
 let t ← asB x
 pure (.bl (!t))
variable {rest:List Expr}
theorem z1R {op:PySem.BoolOp}(ha:SE X EX a ma):SE X EX (.BoolOp op [a] pos) ma:=⟨zJ5 ha.h⟩
theorem z0I (ha:SE X EX a ma) (hb:SE X EX (.BoolOp .And (b::rest) pos) mb):SE X EX (.BoolOp .And (a::b::rest) pos) (eAnd ma mb) :=
 ⟨PE.imp (zK9 ha.h hb.h) λσ H Q ⟨ρ,γ,h,rel,fin⟩=>⟨ρ,γ,h,rel,(Fin.bind fin).mono λx ρ1 h1 H1 p1 e1 r1 f1 v rv=>by
  cases x<;>first|exact (show False from f1).elim|skip
  rename_i t
  simp only [RD] at rv
  refine ⟨t,rv,?_⟩
  cases t with
  | true=>exact ⟨ρ1,γ,h1,⟨rel.g.mono p1 e1,r1⟩,f1⟩
  | false=>exact FE.here (d:=.bl false) (h:=h1) (ρ:=ρ1) f1 r1 (by simp [RD])⟩⟩
theorem zo5 (ha:SE X EX a ma) (hb:SE X EX (.BoolOp .Or (b::rest) pos) mb):SE X EX (.BoolOp .Or (a::b::rest) pos) (eOr ma mb) :=
 ⟨PE.imp (zP2 ha.h hb.h) λσ H Q ⟨ρ,γ,h,rel,fin⟩=>⟨ρ,γ,h,rel,(Fin.bind fin).mono λx ρ1 h1 H1 p1 e1 r1 f1 v rv=>by
  cases x<;>first|exact (show False from f1).elim|skip
  rename_i t
  simp only [RD] at rv
  refine ⟨t,rv,?_⟩
  cases t with
  | false=>exact ⟨ρ1,γ,h1,⟨rel.g.mono p1 e1,r1⟩,f1⟩
  | true=>exact FE.here (d:=.bl true) (h:=h1) (ρ:=ρ1) f1 r1 (by simp [RD])⟩⟩
theorem za2 (ha:SE X EX a ma):SE X EX (.UnaryOp .Not a pos) (eNot ma) :=
 ⟨PE.imp (zF6 ha.h) λσ H Q ⟨ρ,γ,h,rel,fin⟩=>⟨ρ,γ,h,rel,(Fin.bind fin).mono λx ρ1 h1 H1 p1 e1 r1 f1 v rv=>by
  cases x<;>first|exact (show False from f1).elim|skip
  rename_i t
  simp only [RD] at rv
  exact ⟨t,rv,FE.here (d:=.bl (!t)) (h:=h1) (ρ:=ρ1) f1 r1 (by simp [RD])⟩⟩⟩
structure SW (X:Cx) (EX:XX) (e:Expr) (m:G->M Bool):Prop where
 h:PW X e (tT X.K EX m)
theorem PW.imp {X:Cx}{e:Expr}{t t':TT}(h:PW X e t) (f:∀σ H Q,t' σ H Q->t σ H Q):PW X e t':=λw pins s σ H Q I z=>h w pins s σ H Q I (f σ H Q z)
variable {ka kb kc:G->M Bool}
def cAnd (ka kb:G->M Bool):G->M Bool:=λγ=>do
 let t ← ka γ
 if t then kb γ else pure false
def cOr (ka kb:G->M Bool):G->M Bool:=λγ=>do
 let t ← ka γ
 if t then pure true else kb γ
def cNot (ka:G->M Bool):G->M Bool:=λγ=>do
 let t ← ka γ
 pure (!t)
theorem z6L (ha:SC X EX a ka):SW X EX (.BoolOp .And [a] pos) ka:=⟨zs9 ha.h⟩
theorem z3e (ha:SC X EX a ka):SW X EX (.BoolOp .Or [a] pos) ka:=⟨zG4 ha.h⟩
theorem zc3 (ha:SC X EX a ka) (hb:SW X EX (.BoolOp .And (b::rest) pos) kb):SW X EX (.BoolOp .And (a::b::rest) pos) (cAnd ka kb) :=
 ⟨PW.imp (zD4 ha.h hb.h) λσ H Q ⟨ρ,γ,h,rel,fin⟩=>⟨ρ,γ,h,rel,(Fin.bind fin).mono λt ρ1 h1 H1 p1 e1 r1 f1=>by
  cases t with
  | true=>exact ⟨ρ1,γ,h1,⟨rel.g.mono p1 e1,r1⟩,f1⟩
  | false=>exact f1 ρ1 H1 (Pre.refl _) (Ext.refl _ _) r1⟩⟩
theorem z42 (ha:SC X EX a ka) (hb:SW X EX (.BoolOp .Or (b::rest) pos) kb):SW X EX (.BoolOp .Or (a::b::rest) pos) (cOr ka kb) :=
 ⟨PW.imp (zS2 ha.h hb.h) λσ H Q ⟨ρ,γ,h,rel,fin⟩=>⟨ρ,γ,h,rel,(Fin.bind fin).mono λt ρ1 h1 H1 p1 e1 r1 f1=>by
  cases t with
  | false=>exact ⟨ρ1,γ,h1,⟨rel.g.mono p1 e1,r1⟩,f1⟩
  | true=>exact f1 ρ1 H1 (Pre.refl _) (Ext.refl _ _) r1⟩⟩
theorem SW.sc (h:SW X EX e ka):SC X EX e ka:=⟨PW.pt h.h⟩
theorem z0k (ha:SC X EX a ka):SC X EX (.UnaryOp .Not a pos) (cNot ka) :=
 ⟨PT.imp (zK6 ha.h) λσ H Q ⟨ρ,γ,h,rel,fin⟩=>⟨ρ,γ,h,rel,(Fin.bind fin).mono λt ρ1 h1 H1 p1 e1 r1 f1=>f1 ρ1 H1 (Pre.refl _) (Ext.refl _ _) r1⟩⟩
def truD:D->M Bool
 | .non=>pure false
 | .bl b=>pure b
 | .int i=>pure (i != 0)
 | .str y=>if y.length≤sizeLine then pure (decide (y.length≠0)) else bad
 | .tup xs=>pure (!xs.isEmpty)
 | .fl xs=>pure (!xs.isEmpty)
 | .ref n=>do
  let xs ← getL n
  pure (!xs.isEmpty)
def cVal (ma:G->M D):G->M Bool:=λγ=>do
 let x ← ma γ
 truD x
theorem isE {K:K1}{ρ:List Addr}{H:Hp}{ds:List D}{xs:List V}(h:RDs K ρ H ds xs):ds.isEmpty=xs.isEmpty:=by
 have:=h.length
 cases ds<;>cases xs<;>simp at this ⊢
theorem zw2 {ρ:List Addr}{h:AH}{H:Hp}{x:D}{v:V}{Q:Bool->Hp->Prop}(r:RH X.K ρ h H) (rx:RD X.K ρ H x v) (f:Fin X.K EX ρ H (λb _ _ H'=>Q b H') (truD x h)):∃k,TruV X.K v H k/\Q k H:=by
 cases x with
 | non=>simp only [RD] at rx;subst rx;exact ⟨false,rfl,f ρ H (Pre.refl _) (Ext.refl _ _) r⟩
 | bl b=>simp only [RD] at rx;subst rx;exact ⟨b,rfl,f ρ H (Pre.refl _) (Ext.refl _ _) r⟩
 | int b=>simp only [RD] at rx;subst rx;exact ⟨_,rfl,f ρ H (Pre.refl _) (Ext.refl _ _) r⟩
 | str y =>
  simp only [RD] at rx;subst rx
  have f':Fin X.K EX ρ H (λb _ _ H'=>Q b H') ((if y.length≤sizeLine then pure (decide (y.length≠0)) else bad:M Bool) h):=f
  by_cases hl:y.length≤sizeLine
  ·rw [if_pos hl] at f'
   refine ⟨decide (y.length≠0),⟨hl,?_⟩,f' ρ H (Pre.refl _) (Ext.refl _ _) r⟩
   rw [K0z];simp
  ·rw [if_neg hl] at f';exact f'.elim
 | tup xs =>
  simp only [RD] at rx;obtain ⟨a,vs,rfl,h1,h2⟩:=rx
  exact ⟨!xs.isEmpty,.inr (.inl ⟨vs,h1,by rw [isE h2]⟩),f ρ H (Pre.refl _) (Ext.refl _ _) r⟩
 | fl xs =>
  simp only [RD] at rx;obtain ⟨a,vs,rfl,h1,h2⟩:=rx
  exact ⟨!xs.isEmpty,.inl ⟨vs,h1.sq,by rw [isE h2]⟩,f ρ H (Pre.refl _) (Ext.refl _ _) r⟩
 | ref n =>
  have f1:=Fin.bind f
  cases e:getL n h with
  | bad=>rw [e] at f1;exact f1.elim
  | err z hz=>exact (z0T e).elim
  | ok xs h1 =>
   obtain ⟨rfl,q1⟩:=z0U e
   rw [e] at f1
   have f2:=f1 ρ H (Pre.refl _) (Ext.refl _ _) r
   simp only [RD] at rx;obtain ⟨a,rfl,h2⟩:=rx
   obtain ⟨a1,n1,vs,o1,d1⟩:=r.at q1
   rw [h2] at n1;cases n1
   exact ⟨!xs.isEmpty,.inl ⟨vs,SqL.of o1,by rw [isE d1]⟩,f2 ρ H (Pre.refl _) (Ext.refl _ _) r⟩
theorem z0c (ha:SE X EX a ma) (he:∀whole,isTrue a X.env whole=(do let v ← whole;K4f a.pos;K3l [v] (truthy v)):=by intro _;rfl):SC X EX a (cVal ma) :=
 ⟨PT.imp (zf2 ha.h he) λσ H Q ⟨ρ,γ,h,rel,fin⟩=>⟨ρ,γ,h,rel,(Fin.bind fin).mono λx ρ1 h1 H1 p1 e1 r1 f1 v rv=>zw2 r1 rv f1⟩⟩
def eIf (k:G->M Bool) (ma mb:G->M D):G->M D:=λγ=>do
 let t ← k γ
 if t then ma γ else mb γ
def aNil:G->M (List D):=λ_=>pure []
def z8 (ma:G->M D) (mr:G->M (List D)):G->M (List D):=λγ=>do
 let x ← ma γ
 let r ← mr γ
 pure (x::r)
variable {es:List Expr}{mr:G->M (List D)}
theorem Z0:SA X EX [] aNil:=⟨PA.imp z23 λσ H Q ⟨ρ,γ,h,rel,fin⟩=>fin ρ H (Pre.refl _) (Ext.refl _ _) rel.h [] RDs.nil⟩
theorem z6 (ha:SE X EX a ma) (hr:SA X EX es mr) (hs:K0b (a::es) X.env=(false,eval a X.env)::K0b es X.env:=by first|exact z71|exact zv3|exact zr8|exact zg9|exact z8k|exact z5U|exact zj3|exact zs7|exact z8b|exact z6T|rfl):SA X EX (a::es) (z8 ma mr) :=
 ⟨PA.imp (z0G ha.h hr.h hs) λσ H Q ⟨ρ,γ,h,rel,fin⟩=>⟨ρ,γ,h,rel,(Fin.bind fin).mono λx ρ1 h1 H1 p1 e1 r1 f1 v rv=>⟨ρ1,γ,h1,⟨rel.g.mono p1 e1,r1⟩,(Fin.bind f1).mono λds ρ2 h2 H2 p2 e2 r2 f2 vs rvs =>
  f2 ρ2 H2 (Pre.refl _) (Ext.refl _ _) r2 (v::vs) (RDs.cons (rv.mono p2 e2) rvs)⟩⟩⟩
def eTup (mr:G->M (List D)):G->M D:=λγ=>do
 let xs ← mr γ
 if xs.length≤sizeLine then pure (.tup xs) else bad
def eLst (mr:G->M (List D)):G->M D:=λγ=>do
 let xs ← mr γ
 newL xs
theorem z3D {k:Nat}(h:SA X EX es mr):SE X EX (.Tuple es k pos) (eTup mr) :=
 ⟨PE.imp (zK1 h.h) λσ H Q ⟨ρ,γ,h,rel,fin⟩=>⟨ρ,γ,h,rel,(Fin.bind fin).mono λxs ρ1 h1 H1 p1 e1 r1 f1 vs rvs=>by
  by_cases hl:xs.length≤sizeLine
  ·rw [if_pos hl] at f1
   exact ⟨by rw [← rvs.length];exact hl,λp hp=>FE.tup (h:=h1) f1 r1 rvs hp⟩
  ·rw [if_neg hl] at f1;exact (show False from f1).elim⟩⟩
theorem z0X (h:SA X EX es mr):SE X EX (.List es pos) (eLst mr) :=
 ⟨PE.imp (zG3 h.h) λσ H Q ⟨ρ,γ,h,rel,fin⟩=>⟨ρ,γ,h,rel,(Fin.bind fin).mono λxs ρ1 h1 H1 p1 e1 r1 f1 vs rvs=>by
  unfold newL at f1
  split at f1
  ·rename_i hl
   exact ⟨by rw [← rvs.length];exact hl,λp hp=>FE.lst (h:=h1) f1 r1 rvs hp⟩
  ·exact (show False from f1).elim⟩⟩
def fIx:D->D->M D
 | .str z,.int i=>if z.length≤sizeLine then (match atI z.cps.toList i with
  | some c=>pure (.str ⟨#[c]⟩)
  | none=>bad) else bad
 | x,.int i=>do
  let xs ← seqD x
  match atI xs i with
  | some d=>pure d
  | none=>bad
 | _,_=>bad
theorem zw6 {K:K1}{ρ:List Addr}{H:Hp}{ds:List D}{xs:List V}{i:Int}{d:D}(h:RDs K ρ H ds xs) (e:atI ds i=some d):∃x,atI xs i=some x/\RD K ρ H d x:=by
 unfold atI at e ⊢
 rw [← h.length]
 cases q:ixN ds.length i with
 | none=>rw [q] at e;cases e
 | some j=>rw [q] at e;exact h.get e
theorem zT0:BR X.K EX (rIx X.K) fIx:=by
 intro ρ h H x y v u Q r rx ry fin
 unfold fIx at fin
 split at fin
 ·simp only [RD] at rx ry;subst rx;subst ry
  rename_i z i
  by_cases hl:z.length≤sizeLine
  ·rw [if_pos hl] at fin
   cases hc:atI z.cps.toList i with
   | none=>rw [hc] at fin;exact fin.elim
   | some c =>
    rw [hc] at fin
    exact .inr (.inr ⟨_,_,c,rfl,rfl,hl,hc,FE.here fin r (by simp [RD])⟩)
  ·rw [if_neg hl] at fin;exact fin.elim
 ·rename_i i _
  simp only [RD] at ry;subst ry
  have f1:=Fin.bind fin
  cases e:seqD x h with
  | bad=>rw [e] at f1;exact f1.elim
  | err z hz=>exact (z3n e).elim
  | ok ys h1 =>
   obtain ⟨rfl,p,xs,rfl,hs,hd⟩:=z2p r rx e
   rw [e] at f1
   have f2:=f1 ρ H (Pre.refl _) (Ext.refl _ _) r
   dsimp only at f2
   cases q:atI ys i with
   | none=>rw [q] at f2;exact f2.elim
   | some d =>
    rw [q] at f2
    obtain ⟨w,h2,h3⟩:=zw6 hd q
    rcases hs with hs|hs
    ·exact .inl ⟨p,xs,i,w,rfl,rfl,hs,h2,FE.here f2 r h3⟩
    ·exact .inr (.inl ⟨p,xs,i,w,rfl,rfl,hs,h2,FE.here f2 r h3⟩)
 ·exact fin.elim
theorem Z8 (ha:SE X EX a ma) (hb:SE X EX b mb) (hs:z98 b:=by intro _ _;rfl):SE X EX (.Subscript a b pos) (e2 fIx ma mb) :=
 z8X (ta:=tE X.K EX ma) (tb:=tE X.K EX mb) (zQ8 zH7 ha.h hb.h hs) zT0
end
section
variable {X:Cx}{EX:XX}{a b c e:Expr}{pos p p2:Pos}{ma mb mc:G->M D}{es:List Expr}{mr:G->M (List D)}
def AR (K:K1) (EX:XX) (r:List V->Hp->VK->Prop) (f:List D->M D):Prop:=∀ρ h H ds vs Q,RH K ρ h H->RDs K ρ H ds vs->FE K EX ρ H Q (f ds h)->r vs H Q
def Z6 (f:List D->M D) (mr:G->M (List D)):G->M D:=λγ=>do
 let xs ← mr γ
 f xs
theorem z1y {r:List V->Hp->VK->Prop}{f:List D->M D}(h:PE X e (tCB r (tL X.K EX mr))) (hr:AR X.K EX r f):SE X EX e (Z6 f mr) :=
 ⟨PE.imp h λσ H Q ⟨ρ,γ,h,rel,fin⟩=>⟨ρ,γ,h,rel,(Fin.bind fin).mono λxs ρ1 h1 H1 p1 e1 r1 f1 vs rvs=>hr ρ1 h1 H1 xs vs Q r1 rvs f1⟩⟩
theorem rds1 {K:K1}{ρ:List Addr}{H:Hp}{d:D}{vs:List V}(h:RDs K ρ H [d] vs):∃v,vs=[v]/\RD K ρ H d v:=by
 simp only [RDs] at h
 obtain ⟨x,r,rfl,h2,rfl⟩:=h
 exact ⟨x,rfl,h2⟩
def fLen:List D->M D
 | [.str z]=>if z.length≤sizeLine then pure (.int z.length) else bad
 | [x]=>do
  let xs ← seqD x
  pure (.int xs.length)
 | _=>bad
theorem zH9:AR X.K EX (λxs H Q=>∃x n,xs=[x]/\LenV X.K x H n/\Q (.int n) H) fLen:=by
 intro ρ h H ds vs Q r rd fin
 unfold fLen at fin
 split at fin
 ·rename_i z
  obtain ⟨v,rfl,rv⟩:=rds1 rd
  simp only [RD] at rv;subst rv
  by_cases hl:z.length≤sizeLine
  ·rw [if_pos hl] at fin
   exact ⟨_,z.length,rfl,⟨hl,rfl⟩,FE.here fin r (by simp [RD])⟩
  ·rw [if_neg hl] at fin;exact fin.elim
 ·rename_i x _
  obtain ⟨v,rfl,rv⟩:=rds1 rd
  have f1:=Fin.bind fin
  cases e:seqD x h with
  | bad=>rw [e] at f1;exact f1.elim
  | err z hz=>exact (z3n e).elim
  | ok ys h1 =>
   obtain ⟨rfl,p,xs,rfl,hs,hd⟩:=z2p r rv e
   rw [e] at f1
   have f2:=f1 ρ H (Pre.refl _) (Ext.refl _ _) r
   refine ⟨_,ys.length,rfl,?_,FE.here f2 r (by simp [RD])⟩
   rw [hd.length]
   rcases hs with hs|hs
   ·exact .inl ⟨xs,hs,rfl⟩
   ·exact .inr ⟨xs,hs,rfl⟩
 ·exact fin.elim
theorem J8 (hg:Gl X "len") (hm:X.mg "len" = none) (ha:SA X EX [a] mr) (he:K0b [a] X.env=[(false,eval a X.env)]:=by rfl):SE X EX (.Call (.Name "len" p) [a] [] pos) (Z6 fLen mr) :=
 z1y (z1v zi3 hg hm PySem.boot_len ha.h (by decide) (by decide) he rfl) zH9
def x4:List D->M D
 | [.tup xs]=>pure (.tup xs)
 | [x]=>do
  let xs ← seqD x
  pure (.tup xs)
 | _=>bad
theorem zh5:AR X.K EX (λxs H Q=>∃p ys,xs=[.ref p]/\((SqL X.K H p ys/\∀l,H l=none->Q (.ref l) (upd H l (.tup ys)))∨(SqT X.K H p ys/\Q (.ref p) H))) x4:=by
 intro ρ h H ds vs Q r rd fin
 unfold x4 at fin
 split at fin
 ·obtain ⟨v,rfl,rv⟩:=rds1 rd
  have rv':=rv
  simp only [RD] at rv
  obtain ⟨q,xs,rfl,h1,h2⟩:=rv
  exact ⟨q,xs,rfl,.inr ⟨h1,FE.here fin r rv'⟩⟩
 ·rename_i x hx
  obtain ⟨v,rfl,rv⟩:=rds1 rd
  have f1:=Fin.bind fin
  cases e:seqD x h with
  | bad=>rw [e] at f1;exact f1.elim
  | err z hz=>exact (z3n e).elim
  | ok ys h1 =>
   obtain ⟨rfl,q,xs,rfl,hs,hd⟩:=z2p r rv e
   rw [e] at f1
   have f2:=f1 ρ H (Pre.refl _) (Ext.refl _ _) r
   refine ⟨q,xs,rfl,?_⟩
   rcases hs with hs|hs
   ·exact .inl ⟨hs,λl hl=>FE.tup f2 r hd hl⟩
   ·refine .inr ⟨hs,FE.here f2 r ?_⟩
    simp only [RD]
    exact ⟨q,xs,rfl,hs,hd⟩
 ·exact fin.elim
theorem z05 (hg:Gl X "tuple") (hm:X.mg "tuple" = none) (ha:SA X EX [a] mr) (he:K0b [a] X.env=[(false,eval a X.env)]:=by rfl):SE X EX (.Call (.Name "tuple" p) [a] [] pos) (Z6 x4 mr) :=
 z1y (z1a z5p hg hm (by decide +kernel) ha.h (by decide) (by decide) he rfl) zh5
def z8x:List D->M D
 | [x]=>do
  let xs ← seqD x
  newL xs
 | _=>bad
theorem zu4:AR X.K EX (λxs H Q=>∃p ys,xs=[.ref p]/\(SqL X.K H p ys∨SqT X.K H p ys)/\∀l,H l=none->Q (.ref l) (upd H l (.lst ys))) z8x:=by
 intro ρ h H ds vs Q r rd fin
 unfold z8x at fin
 split at fin
 ·rename_i x
  obtain ⟨v,rfl,rv⟩:=rds1 rd
  have f1:=Fin.bind fin
  cases e:seqD x h with
  | bad=>rw [e] at f1;exact f1.elim
  | err z hz=>exact (z3n e).elim
  | ok ys h1 =>
   obtain ⟨rfl,q,xs,rfl,hs,hd⟩:=z2p r rv e
   rw [e] at f1
   have f2:=f1 ρ H (Pre.refl _) (Ext.refl _ _) r
   unfold newL at f2
   dsimp only at f2
   split at f2
   ·exact ⟨q,xs,rfl,hs,λl hl=>FE.lst f2 r hd hl⟩
   ·exact f2.elim
 ·exact fin.elim
theorem zq2 (hg:Gl X "list") (hm:X.mg "list" = none) (ha:SA X EX [a] mr) (he:K0b [a] X.env=[(false,eval a X.env)]:=by rfl):SE X EX (.Call (.Name "list" p) [a] [] pos) (Z6 z8x mr) :=
 z1y (z1a z6w hg hm (by decide +kernel) ha.h (by decide) (by decide) he rfl) zu4
def tyD:D->M String
 | .non=>pure "NoneType"
 | .bl _=>pure "bool"
 | .int _=>pure "int"
 | .str _=>pure "str"
 | .tup _=>pure "tuple"
 | .fl _=>pure "list"
 | .ref n=>λh=>match h[n]? with
  | .(l _)=>.ok "list" h
  | some .dct=>.ok "dict" h
  | some (.dK _)=>.ok "dict" h
  | _=>.bad
def subT (t T:String):Bool:=t==T||(t=="bool"&&T=="int")
def tyNames:List String:=["NoneType","bool","int","str","tuple","list","dict"]
def tyAsked:List String:=["bool","int","str","tuple","list","dict"]
theorem zw9:tyNames.all (λt=>tyAsked.all λT=>decide (K5g [] (.type t) (.type T)=some (subT t T)))=true:=by decide +kernel
theorem z7y {K:K1}{t T:String}(h1:t∈tyNames) (h2:T∈tyAsked):K5g K (.type t) (.type T)=some (subT t T):=by
 have q:=zw9
 rw [K1o] at q
 have q2:=q t h1
 rw [K1o] at q2
 have q3:=q2 T h2
 exact of_decide_eq_true q3
def fIsi (T:String):D->M D:=λx=>do
 let t ← tyD x
 pure (.bl (subT t T))
theorem zy7 {pins:List (Addr×Obj)}{σ:L2.St}{H:Hp}{s:Shared}{E:Value->Shared->Prop}{Q:Value->Shared->Prop}{q:Addr}{c:Value}{k:Bool}{xs:List V}(I:Inv X pins σ H s) (h:SqT X.K H q xs) (e:K5g X.K (.type "tuple") c=some k) (hQ:∀tk,Q (.bool k) { s with toks:=tk }) :
 wpAny (model X.prog X.w) X.A (call (.builtin "isinstance") [.ref q,c]) Q E s:=by
 obtain ⟨its,_,ht,_⟩:=I.tuple h
 obtain ⟨o,h1,h2,_⟩:=ht
 exact K1d K97 I.kIn ⟨o,h1,h2⟩ e (λz=>nomatch z) hQ
theorem zv8 {pins:List (Addr×Obj)}{σ:L2.St}{H:Hp}{s:Shared}{E:Value->Shared->Prop}{Q:Value->Shared->Prop}{q:Addr}{c:Value}{k:Bool}{xs:List V}(I:Inv X pins σ H s) (h:SqL X.K H q xs) (e:K5g X.K (.type "list") c=some k) (hQ:∀tk,Q (.bool k) { s with toks:=tk }) :
 wpAny (model X.prog X.w) X.A (call (.builtin "isinstance") [.ref q,c]) Q E s:=by
 obtain ⟨its,_,ht,_⟩:=I.list h
 obtain ⟨o,n,h1,h2,_⟩:=ht
 exact K1d K72 I.kIn ⟨o,h1,h2⟩ e (λz=>nomatch z) hQ
def TyV (K:K1) (H:Hp) (v:V) (t:String):Prop:=match v with
 | .non=>t = "NoneType"
 | .bl _=>t = "bool"
 | .int _=>t = "int"
 | .str _=>t = "str"
 | .ref q=>(t = "tuple"/\∃xs,SqT K H q xs)∨(t = "list"/\∃xs,SqL K H q xs)∨(t = "dict"/\(H q=some (dctO q)∨∃kvs,H q=some (.dK kvs)))
 | _=>False
theorem zk0 {T:String}(hT:T∈tyAsked):z2z X (.builtin "isinstance") (λxs H Q=>∃x t,xs=[x,.ty T]/\TyV X.K H x t/\Q (.bl (subT t T)) H):=by
 intro pins s σ H xs us Q I r h
 obtain ⟨x,t,rfl,ty,q⟩:=h
 obtain ⟨u,w',rfl,rx,rt⟩:=vals2 r
 cases rt
 have fin:∀tk,EP X pins σ Q (.bool (subT t T)) { s with toks:=tk }:=λtk=>⟨.bl _,H,I.tok tk,rfl,q⟩
 have tb:∀{z:V} {t':Value},z=x->TyOf X.K H z t'->t'=.type t->t∈tyNames->wpAny (model X.prog X.w) X.A (call (.builtin "isinstance") [u,.type T]) (EP X pins σ Q) X.xe s:=λ{z t'} e1 ty' e2 hn=>by
  subst e1;subst e2
  exact z8Y I rx ty' (z7y hn hT) fin
 cases x with
 | non=>exact tb rfl .non (by rw [show t = "NoneType" from ty]) (by rw [show t = "NoneType" from ty];decide)
 | bl y=>exact tb rfl (.bl y) (by rw [show t = "bool" from ty]) (by rw [show t = "bool" from ty];decide)
 | int y=>exact tb rfl (.int y) (by rw [show t = "int" from ty]) (by rw [show t = "int" from ty];decide)
 | str y=>exact tb rfl (.str y) (by rw [show t = "str" from ty]) (by rw [show t = "str" from ty];decide)
 | ref y =>
  cases rx
  rcases (show (t = "tuple"/\∃xs,SqT X.K H y xs)∨(t = "list"/\∃xs,SqL X.K H y xs)∨(t = "dict"/\(H y=some (dctO y)∨∃kvs,H y=some (.dK kvs))) from ty) with ⟨rfl,xs,hs⟩|⟨rfl,xs,hs⟩|⟨rfl,hs|⟨kvs,hs⟩⟩
  ·exact zy7 I hs (z7y (by decide) hT) fin
  ·exact zv8 I hs (z7y (by decide) hT) fin
  ·exact K1d K73 I.kIn (I.hok y _ hs).1 (z7y (by decide) hT) (λz=>nomatch z) fin
  ·exact tb rfl (.dK hs) rfl (by decide)
 | byt y=>exact (show False from ty).elim
 | flt y=>exact (show False from ty).elim
 | ty y=>exact (show False from ty).elim
theorem zs3 {K:K1}{ρ:List Addr}{h h1:AH}{H:Hp}{x:D}{v:V}{t:String}(r:RH K ρ h H) (rx:RD K ρ H x v) (e:tyD x h=.ok t h1):h1=h/\TyV K H v t:=by
 cases x with
 | non=>cases e;simp only [RD] at rx;subst rx;exact ⟨rfl,rfl⟩
 | bl y=>cases e;simp only [RD] at rx;subst rx;exact ⟨rfl,rfl⟩
 | int y=>cases e;simp only [RD] at rx;subst rx;exact ⟨rfl,rfl⟩
 | str y=>cases e;simp only [RD] at rx;subst rx;exact ⟨rfl,rfl⟩
 | tup y=>cases e;simp only [RD] at rx;obtain ⟨q,xs,rfl,h2,_⟩:=rx;exact ⟨rfl,.inl ⟨rfl,xs,h2⟩⟩
 | fl y=>cases e;simp only [RD] at rx;obtain ⟨q,xs,rfl,h2,_⟩:=rx;exact ⟨rfl,.inr (.inl ⟨rfl,xs,h2.sq⟩)⟩
 | ref n =>
  simp only [RD] at rx;obtain ⟨q,rfl,h2⟩:=rx
  unfold tyD at e
  dsimp only at e
  cases q1:h[n]? with
  | none=>rw [q1] at e;cases e
  | some ob =>
   rw [q1] at e
   cases ob with
   | set ks=>cases e
   | dK kvs =>
    cases e
    obtain ⟨a1,n1,vs,o1,d1⟩:=r.at q1
    rw [h2] at n1;cases n1
    exact ⟨rfl,.inr (.inr ⟨rfl,.inr ⟨_,o1⟩⟩)⟩
   | dF kvs=>cases e
   | exc c=>cases e
   | lst ds =>
    cases e
    obtain ⟨a1,n1,vs,o1,d1⟩:=r.at q1
    rw [h2] at n1;cases n1
    exact ⟨rfl,.inr (.inl ⟨rfl,vs,SqL.of o1⟩)⟩
   | dct =>
    cases e
    obtain ⟨a1,n1,o1⟩:=r.at q1
    rw [h2] at n1;cases n1
    exact ⟨rfl,.inr (.inr ⟨rfl,.inl o1⟩)⟩
theorem zD0 {x:D}{h h1:AH}{z:Exn}(e:tyD x h=.err z h1):False:=by
 cases x with
 | ref n =>
  unfold tyD at e
  dsimp only at e
  split at e<;>cases e
 | _=>cases e
def eIsi (T:String) (ma:G->M D):G->M D:=λγ=>do
 let x ← ma γ
 fIsi T x
theorem z1Q {T:Str}{T':String}(hg:Gl X "isinstance") (hm:X.mg "isinstance" = none) (hgT:Gl X T) (hmT:X.mg T=none) (hv:K4q T=some (.type T')) (hT:T'∈tyAsked) (ha:SE X EX a ma) (hn:T≠"__name__":=by decide) (hd:(T==("__debug__":Str))=false:=by decide)
 (he:K0b [a,.Name T p2] X.env=[(false,eval a X.env),(false,eval (.Name T p2) X.env)]:=by rfl) (he2:K0b [.Name T p2] X.env=[(false,eval (.Name T p2) X.env)]:=by rfl):SE X EX (.Call (.Name "isinstance" p) [a,.Name T p2] [] pos) (eIsi T' ma):=by
 constructor
 have hA:PA X [a,.Name T p2] (zk9 (tE X.K EX ma) (zk9 (tC (.ty T')) tNil)):=z0G ha.h (z0G (zu1 hgT hmT hv rfl hn hd) z23 he2) (by rw [he,he2])
 refine PE.imp (z1v (zk0 hT) hg hm (by decide +kernel) hA (by decide) (by decide) (by rw [he,he2]) (by rw [he2];rfl)) λσ H Q ⟨ρ,γ,h,rel,fin⟩=>⟨ρ,γ,h,rel,(Fin.bind fin).mono λx ρ1 h1 H1 p1 e1 r1 f1 v rv=>?_⟩
 have f2:=Fin.bind f1
 cases e:tyD x h1 with
 | bad=>rw [e] at f2;exact f2.elim
 | err z hz=>exact (zD0 e).elim
 | ok t h2 =>
  obtain ⟨rfl,ty⟩:=zs3 r1 rv e
  rw [e] at f2
  have f3:=f2 ρ1 H1 (Pre.refl _) (Ext.refl _ _) r1
  exact ⟨v,t,rfl,ty,FE.here f3 r1 (by simp [RD])⟩
def blsD:List D->Option (List Bool)
 | []=>some []
 | .bl b::r=>(blsD r).map (b::·)
 | _::_=>none
def fAll (any:Bool):List D->M D
 | [.ref n]=>do
  let xs ← getL n
  match blsD xs with
  | some bs=>pure (.bl (if any then bs.any id else bs.all id))
  | none=>bad
 | _=>bad
theorem zc4 {K:K1}{ρ:List Addr}{H:Hp}:∀{xs:List D}{bs:List Bool}{vs:List V},blsD xs=some bs->RDs K ρ H xs vs->vs=bs.map V.bl
 | [],bs,vs,e,r=>by simp only [RDs] at r;cases e;subst r;rfl
 | x::xs,bs,vs,e,r=>by
  simp only [RDs] at r
  obtain ⟨v,r2,rfl,h1,h2⟩:=r
  cases x<;>first|(simp only [blsD] at e;cases e;done)|skip
  rename_i b
  simp only [blsD] at e
  obtain ⟨bs',e1,rfl⟩:=K10.mp e
  simp only [RD] at h1
  subst h1
  rw [zc4 e1 h2];rfl
theorem z7n:∀{bs:List Bool}{us:List Value},Vals (bs.map V.bl) us->us=bs.map K6f
 | [],us,h=>by cases h;rfl
 | b::bs,us,h=>by
  cases h with
  | cons h1 h2=>cases h1;rw [z7n h2];rfl
theorem range_all {bs:List Bool}:((K8 bs.length).all λi=>bs.getD i false)=bs.all id:=by
 rw [K0z,K1o,K1o]
 constructor
 ·intro h x hx
  obtain ⟨i,hi,rfl⟩:=K2y hx
  have:=h i (K0r.mpr hi)
  simpa [K8w,hi] using this
 ·intro h i hi
  have hi':=K0r.mp hi
  have:=h bs[i] (K4o hi')
  simpa [K8w,hi'] using this
theorem range_any {bs:List Bool}:((K8 bs.length).any λi=>bs.getD i false)=bs.any id:=by
 rw [K0z,K1m,K1m]
 constructor
 ·rintro ⟨i,hi,h⟩
  have hi':=K0r.mp hi
  refine ⟨bs[i],K4o hi',?_⟩
  simpa [K8w,hi'] using h
 ·rintro ⟨x,hx,h⟩
  obtain ⟨i,hi,rfl⟩:=K2y hx
  exact ⟨i,K0r.mpr hi,by simpa [K8w,hi] using h⟩
theorem z44 (any:Bool) (hc:X.calm=true):z2z X (.builtin (if any then "any" else "all")) (λxs H Q=>∃(q:Addr) (bs:List Bool),xs=[.ref q]/\SqL X.K H q (bs.map V.bl)/\Q (.bl (if any then bs.any id else bs.all id)) H):=by
 intro pins s σ H xs us Q I r h
 obtain ⟨q,bs,rfl,hq,hQ⟩:=h
 obtain ⟨u,rfl,ru⟩:=vals1 r
 cases ru
 obtain ⟨its,rv,pl,hz⟩:=I.list hq
 have ei:=z7n rv
 have ne:q≠s.heap.objs.size:=K0p (by obtain ⟨o,n,e,_⟩:=pl;exact K06 e)
 have pl':=pl.isList
 have hwalk:=Walks.list (prog:=X.prog) (w:=X.w) (A:=X.A.in1) (show X.A.in1.handled=none from I.ok.hd hc) s.heap.objs.size q ne its.toArray
 have len:its.toArray.size=bs.length:=by rw [ei];simp
 have st0:(s.heap.push { cls:=.type "list_iterator",data:=.fields #[.ref q,.int 0 0] }).IsListIter s.heap.objs.size q 0/\(s.heap.push { cls:=.type "list_iterator",data:=.fields #[.ref q,.int 0 0] }).IsList q its.toArray :=
  ⟨⟨_,K05 _ rfl,rfl,rfl⟩,pl'.at λo e=>K6 _ e⟩
 have tr:TruthOf X.prog X.w X.A.in1 (λi v=>its.toArray[i]?=some v) λi=>bs.getD i false:=λi v s' Q' E' hv hq'=>by
  have hv':its[i]?=some v:=by simpa using hv
  rw [ei,K0e] at hv'
  cases eb:bs[i]? with
  | none=>rw [eb] at hv';cases hv'
  | some b =>
   rw [eb] at hv'
   cases hv'
   have:bs.getD i false=b:=by simp [K8w,eb]
   dsimp only at hq';rw [this] at hq'
   exact K1y hq'
 have fin:∀k,k=(if any then bs.any id else bs.all id)->∀h' tk,(∀b o,b∉[s.heap.objs.size]->(s.heap.push { cls:=.type "list_iterator",data:=.fields #[.ref q,.int 0 0] }).get? b=some o->h'.get? b=some o) ->
  EP X pins σ Q (.bool k) { s with heap:=h',toks:=tk }:=λk ek h' tk hk=>by
  subst ek
  refine ⟨.bl _,H,I.kept λb o e=>hk b o ?_ (K6 _ e),rfl,hQ⟩
  intro z
  have:b=s.heap.objs.size:=by simpa using z
  exact absurd (K06 e) (by rw [this];exact K2a _)
 cases any with
 | false =>
  refine call_all_walk (K2v pl' ⟨_,_,_,_,_,_,_,rfl,hwalk,st0,tr,λh' tk hk=>?_⟩)
  exact fin _ (by rw [len];exact range_all) h' tk hk
 | true =>
  refine call_any_walk (K2v pl' ⟨_,_,_,_,_,_,_,rfl,hwalk,st0,tr,λh' tk hk=>?_⟩)
  exact fin _ (by rw [len];exact range_any) h' tk hk
theorem zn9 {any:Bool}:AR X.K EX (λxs H Q=>∃(q:Addr) (bs:List Bool),xs=[.ref q]/\SqL X.K H q (bs.map V.bl)/\Q (.bl (if any then bs.any id else bs.all id)) H) (fAll any):=by
 intro ρ h H ds vs Q r rd fin
 unfold fAll at fin
 split at fin
 ·rename_i n
  obtain ⟨v,rfl,rv⟩:=rds1 rd
  have f1:=Fin.bind fin
  cases e:getL n h with
  | bad=>rw [e] at f1;exact f1.elim
  | err z hz=>exact (z0T e).elim
  | ok xs h1 =>
   obtain ⟨rfl,q1⟩:=z0U e
   rw [e] at f1
   have f2:=f1 ρ H (Pre.refl _) (Ext.refl _ _) r
   dsimp only at f2
   cases eb:blsD xs with
   | none=>rw [eb] at f2;exact f2.elim
   | some bs =>
    rw [eb] at f2
    simp only [RD] at rv;obtain ⟨q,rfl,h2⟩:=rv
    obtain ⟨a1,n1,vs,o1,d1⟩:=r.at q1
    rw [h2] at n1;cases n1
    have ev:=zc4 eb d1
    subst ev
    exact ⟨q,bs,rfl,SqL.of o1,FE.here f2 r (by simp [RD])⟩
 ·exact fin.elim
theorem zo9 (hc:X.calm=true) (hg:Gl X "all") (hm:X.mg "all" = none) (ha:SA X EX [a] mr) (he:K0b [a] X.env=[(false,eval a X.env)]:=by rfl):SE X EX (.Call (.Name "all" p) [a] [] pos) (Z6 (fAll false) mr) :=
 z1y (z1v (z44 false hc) hg hm (by decide +kernel) ha.h (by decide) (by decide) he rfl) zn9
theorem zN1 (hc:X.calm=true) (hg:Gl X "any") (hm:X.mg "any" = none) (ha:SA X EX [a] mr) (he:K0b [a] X.env=[(false,eval a X.env)]:=by rfl):SE X EX (.Call (.Name "any" p) [a] [] pos) (Z6 (fAll true) mr) :=
 z1y (z1v (z44 true hc) hg hm (by decide +kernel) ha.h (by decide) (by decide) he rfl) zn9
end
abbrev EX0:XX:=λ_ _ _ _=>False
def spB (K:K1) (mf:List D->M D) (n:Nat):Sp:=λvs H Q _=>vs.length=n/\∃ρ ds h,RH K ρ h H/\RDs K ρ H ds vs/\FE K EX0 ρ H Q (mf ds h)
structure Fn (P:K0n) (w:World) (K:K1) (mg:Str->Option Value) (base:Heap) (k:Nat) (x:Str) (n:Nat) (mf:List D->M D):Prop where
 ex:∃f fd ps,FnOk P w K mg base CX0 k f fd ps (spB K mf n)/\Binds K fd ps []/\K5h K (.ref f)=true/\mg x=.(r f)
def eFn (n:Nat) (mf:List D->M D) (mr:G->M (List D)):G->M D:=λγ=>do
 let xs ← mr γ
 if xs.length=n then mf xs else bad
section
variable {X:Cx}{a b c e:Expr}{pos p p2:Pos}{ma mb mc:G->M D}{es:List Expr}{mr:G->M (List D)}{k n:Nat}{x:Str}{mf:List D->M D}
theorem Z5 (F:Fn X.prog X.w X.K X.mg X.base k x n mf) (hr:Room k X.A) (hg:Gl X x) (ha:SA X EX0 (a::es) mr) (hdb:(x==("__debug__":Str))=false:=by decide)
 (he:K0b (a::es) X.env=(false,eval a X.env)::K0b es X.env:=by rfl) (hpl:(backTo pos (K0b es X.env)).any (·.1)=false:=by rfl):SE X EX0 (.Call (.Name x p) (a::es) [] pos) (eFn n mf mr):=by
 constructor
 obtain ⟨f,fd,ps,h1,h2,h3,h4⟩:=F.ex
 refine PE.imp (zx6 h1 hr hg h4 h3 h2 .nil zR9 ha.h hdb he hpl) λσ H Q ⟨ρ,γ,h,rel,fin⟩=>⟨ρ,γ,h,rel,(Fin.bind fin).mono λxs ρ1 h1 H1 p1 e1 r1 f1 vs rvs=>?_⟩
 show spB X.K mf n (vs++[]) H1 Q E0
 rw [K1u]
 by_cases hl:xs.length=n
 ·rw [if_pos hl] at f1
  exact ⟨by rw [← rvs.length];exact hl,ρ1,xs,h1,r1,rvs,f1⟩
 ·rw [if_neg hl] at f1;exact (show False from f1).elim
end
def z19 (n:Nat) (ds:List D):G:=ds.map some++K0d (n - ds.length) none
def runF (n:Nat) (mb:G->M Out) (ds:List D):M D:=do
 let o ← mb (z19 n ds)
 match o with
 | .nx _=>pure .non
 | .rt d=>pure d
 | _=>bad
section
variable {P:K0n}{w:World}{K:K1}{mg:Str->Option Value}{base:Heap}
theorem z6s {ρ:List Addr}{H:Hp}{N:List Str}{ds:List D}{vs:List V}(h:RDs K ρ H ds vs):RG K ρ H (z19 N.length ds) (L2.start N vs):=by
 have hl:=h.length
 refine ⟨by unfold z19 L2.start;simp [hl],λi d e=>?_⟩
 unfold z19 at e
 unfold L2.start
 rw [K3j] at e ⊢
 rw [K00] at e ⊢
 rw [← hl]
 split at e
 ·rename_i hi
  rw [if_pos hi]
  rw [K0e] at e ⊢
  cases q:ds[i]? with
  | none=>rw [q] at e;cases e
  | some d' =>
   rw [q] at e
   cases e
   obtain ⟨v,h1,h2⟩:=h.get q
   exact ⟨v,by rw [h1];rfl,h2⟩
 ·rw [K27] at e
  split at e<;>cases e
end
section
variable {env:Env}{t:Option Expr}{l:Nat}{tg:List Expr}
theorem z9v {a p}:K1v (.List a p) t l env=pure false:=rfl
theorem z78 {a b p}:K1v (.Tuple a b p) t l env=pure false:=rfl
theorem z4c {c k p}:K1v (.Constant c k p) t l env=pure false:=rfl
theorem z8O {c p}:K1v (.Name c p) t l env=pure false:=rfl
theorem z9d {a b c p}:K1v (.Call a b c p) t l env=pure false:=rfl
theorem z7Z {a b c p}:K1v (.BinOp a b c p) t l env=pure false:=rfl
theorem z4F {a b c p}:K1v (.Compare a b c p) t l env=pure false:=rfl
theorem z3C {a b p}:K1v (.Subscript a b p) t l env=pure false:=rfl
theorem z4B {a b p}:K1v (.UnaryOp a b p) t l env=pure false:=rfl
theorem z5D {a b p}:K1v (.BoolOp a b p) t l env=pure false:=rfl
theorem z7B {a b c p}:K1v (.IfExp a b c p) t l env=pure false:=rfl
end
section
variable {X:Cx}{EX:XX}{a b c e:Expr}{pos p p2:Pos}{ma mb mc:G->M D}{ka kb kc:G->M Bool}{st:Stmt}{sts:List Stmt}{ms mt:G->M Out}
def bNil:G->M Out:=λγ=>pure (.nx γ)
def z9 (ms mt:G->M Out):G->M Out:=λγ=>do
 let o ← ms γ
 match o with
 | .nx γ'=>mt γ'
 | o=>pure o
theorem Z3:SB X EX [] bNil:=⟨PSs.imp zv1 λσ H D ⟨ρ,γ,h,rel,fin⟩=>fin ρ H (Pre.refl _) (Ext.refl _ _) rel.h σ rel.g⟩
theorem z7 (h1:S1 X EX st ms) (h2:SB X EX sts mt):SB X EX (st::sts) (z9 ms mt) :=
 ⟨PSs.imp (zd3 h1.h h2.h) λσ H D ⟨ρ,γ,h,rel,fin⟩=>⟨ρ,γ,h,rel,(Fin.bind fin).mono λo ρ1 h1 H1 p1 e1 r1 f1=>by
  cases o with
  | nx γ'=>exact λσ' rg=>⟨ρ1,γ',h1,⟨rg,r1⟩,f1⟩
  | rt d=>exact f1 ρ1 H1 (Pre.refl _) (Ext.refl _ _) r1
  | bk γ'=>exact f1 ρ1 H1 (Pre.refl _) (Ext.refl _ _) r1
  | ct γ'=>exact f1 ρ1 H1 (Pre.refl _) (Ext.refl _ _) r1⟩⟩
def sRet (ma:G->M D):G->M Out:=λγ=>do
 let d ← ma γ
 pure (.rt d)
theorem y6 (ha:SE X EX a ma):S1 X EX (.Return (some a) pos) (sRet ma) :=
 ⟨PS.imp (zO3 ha.h) λσ H D ⟨ρ,γ,h,rel,fin⟩=>⟨ρ,γ,h,rel,(Fin.bind fin).mono λd ρ1 h1 H1 p1 e1 r1 f1 v rv=>f1 ρ1 H1 (Pre.refl _) (Ext.refl _ _) r1 v rv⟩⟩
def z0S (ma:G->M D):G->M Out:=λγ=>do
 let _ ← ma γ
 pure (.nx γ)
theorem z24 (ha:SE X EX a ma) (hs:K1v a none pos.line X.env=pure false:=by first|exact z9v|exact z78|exact z4c|exact z8O|exact z9d|exact z7Z|exact z4F|exact z3C|exact z4B|exact z5D|exact z7B|rfl):S1 X EX (.Expr a pos) (z0S ma) :=
 ⟨PS.imp (zy3 ha.h hs) λσ H D ⟨ρ,γ,h,rel,fin⟩=>⟨ρ,γ,h,rel,(Fin.bind fin).mono λd ρ1 h1 H1 p1 e1 r1 f1 v rv=>f1 ρ1 H1 (Pre.refl _) (Ext.refl _ _) r1 σ (rel.g.mono p1 e1)⟩⟩
def sIf (k:G->M Bool) (ms mt:G->M Out):G->M Out:=λγ=>do
 let t ← k γ
 if t then ms γ else mt γ
theorem s_if {sts':List Stmt}(hc:SC X EX c kc) (h1:SB X EX sts ms) (h2:SB X EX sts' mt):S1 X EX (.If c sts sts' pos) (sIf kc ms mt) :=
 ⟨PS.imp (zT4 hc.h h1.h h2.h) λσ H D ⟨ρ,γ,h,rel,fin⟩=>⟨ρ,γ,h,rel,(Fin.bind fin).mono λt ρ1 h1 H1 p1 e1 r1 f1=>by
  cases t with
  | true=>exact ⟨ρ1,γ,h1,⟨rel.g.mono p1 e1,r1⟩,f1⟩
  | false=>exact ⟨ρ1,γ,h1,⟨rel.g.mono p1 e1,r1⟩,f1⟩⟩⟩
def tG (K:K1) (EX:XX) (m:D->G->M G):TG:=λv σ H Q=>∃ρ γ h d,Rel K ρ γ h σ H/\RD K ρ H d v/\Fin K EX ρ H (λγ' ρ' _ H'=>∀σ',RG K ρ' H' γ' σ'->Q σ' H') (m d γ h)
def tGs (K:K1) (EX:XX) (m:List D->G->M G):TGs:=λvs σ H Q=>∃ρ γ h ds,Rel K ρ γ h σ H/\RDs K ρ H ds vs/\Fin K EX ρ H (λγ' ρ' _ H'=>∀σ',RG K ρ' H' γ' σ'->Q σ' H') (m ds γ h)
structure SG (X:Cx) (EX:XX) (tg:Expr) (m:D->G->M G):Prop where
 h:PG X tg (tG X.K EX m)
structure SGs (X:Cx) (EX:XX) (tg:List Expr) (m:List D->G->M G):Prop where
 h:PGs X tg (tGs X.K EX m)
theorem PG.imp {X:Cx}{e:Expr}{t t':TG}(h:PG X e t) (f:∀v σ H Q,t' v σ H Q->t v σ H Q):PG X e t':=λpins s σ H v u Q I r z=>h pins s σ H v u Q I r (f v σ H Q z)
theorem PGs.imp {X:Cx}{e:List Expr}{t t':TGs}(h:PGs X e t) (f:∀v σ H Q,t' v σ H Q->t v σ H Q):PGs X e t':=λpins s σ H v u Q I r z=>h pins s σ H v u Q I r (f v σ H Q z)
def tGk (K:K1) (EX:XX) (own:List Nat) (m:D->G->M G):TG:=λv σ H Q=>∃ρ γ h d,Rel K ρ γ h σ H/\RD K ρ H d v/\Fin K EX ρ H (λγ' ρ' _ H'=>∀σ',RG K ρ' H' γ' σ'->(∀j:Nat,j∉own->σ'[j]?=σ[j]?)->Q σ' H') (m d γ h)
def tGks (K:K1) (EX:XX) (own:List Nat) (m:List D->G->M G):TGs:=λvs σ H Q=>∃ρ γ h ds,Rel K ρ γ h σ H/\RDs K ρ H ds vs/\Fin K EX ρ H (λγ' ρ' _ H'=>∀σ',RG K ρ' H' γ' σ'->(∀j:Nat,j∉own->σ'[j]?=σ[j]?)->Q σ' H') (m ds γ h)
structure SGk (X:Cx) (EX:XX) (tg:Expr) (own:List Nat) (m:D->G->M G):Prop where
 h:PG X tg (tGk X.K EX own m)
structure SGks (X:Cx) (EX:XX) (tg:List Expr) (own:List Nat) (m:List D->G->M G):Prop where
 h:PGs X tg (tGks X.K EX own m)
def gN (i:Nat):D->G->M G:=λd γ=>pure (γ.set i (some d))
theorem j8 (i:Nat) {x:Str}(hN:X.N.Nodup) (hi:X.N[i]?=some x:=by rfl) (hx:Loc X.env.scope x:=by first|exact Or.inl rfl|exact Or.inr rfl) (hf:X.fn x=true∨X.env.scope.names.lookup x=some .local:=by first|exact .inl rfl|exact .inr rfl|assumption):SG X EX (.Name x pos) (gN i) :=
 ⟨PG.imp (z6V hN hi hx hf) λv σ H Q ⟨ρ,γ,h,d,rel,rd,fin⟩=>fin ρ H (Pre.refl _) (Ext.refl _ _) rel.h _ (rel.g.set i rd)⟩
theorem Z9 (i:Nat) {x:Str}(hN:X.N.Nodup) (hi:X.N[i]?=some x:=by rfl) (hx:Loc X.env.scope x:=by first|exact Or.inl rfl|exact Or.inr rfl) (hf:X.fn x=true∨X.env.scope.names.lookup x=some .local:=by first|exact .inl rfl|exact .inr rfl|assumption):SGk X EX (.Name x pos) [i] (gN i) :=
 ⟨PG.imp (z6V hN hi hx hf) λv σ H Q ⟨ρ,γ,h,d,rel,rd,fin⟩=>fin ρ H (Pre.refl _) (Ext.refl _ _) rel.h _ (rel.g.set i rd) λj hj=>K15 (λz=>hj (by simp [z]))⟩
def z5l:List D->G->M G:=λds γ=>match ds with
 | []=>pure γ
 | _=>bad
def z0W (m:D->G->M G) (ms:List D->G->M G):List D->G->M G:=λds γ=>match ds with
 | []=>bad
 | d::r=>do
  let γ1 ← m d γ
  ms r γ1
theorem z3V:SGs X EX [] z5l:=⟨PGs.imp z9c λv σ H Q ⟨ρ,γ,h,ds,rel,rd,fin⟩=>by
 cases ds with
 | nil=>simp only [RDs] at rd;exact ⟨rd,fin ρ H (Pre.refl _) (Ext.refl _ _) rel.h σ rel.g⟩
 | cons d r=>exact (show False from fin).elim⟩
theorem z0L {es:List Expr}{m:D->G->M G}{mr:List D->G->M G}(h1:SG X EX e m) (h2:SGs X EX es mr) (hs:(K2c (e::es) X.env).map (·.2)=assign e X.env::(K2c es X.env).map (·.2):=by rfl):SGs X EX (e::es) (z0W m mr) :=
 ⟨PGs.imp (z7J h1.h h2.h hs) λvs σ H Q ⟨ρ,γ,h,ds,rel,rd,fin⟩=>by
  cases ds with
  | nil=>exact (show False from fin).elim
  | cons d r =>
   simp only [RDs] at rd
   obtain ⟨v,vr,rfl,h3,h4⟩:=rd
   have fin':Fin X.K EX ρ H (λγ' ρ' _ H'=>∀σ',RG X.K ρ' H' γ' σ'->Q σ' H') ((m d γ >>= λγ1=>mr r γ1) h):=fin
   exact ⟨v,vr,rfl,ρ,γ,h,d,rel,h3,(Fin.bind fin').mono λγ1 ρ1 h1 H1 p1 e1 r1 f1 σ1 g1=>⟨ρ1,γ1,h1,r,⟨g1,r1⟩,h4.mono p1 e1,f1⟩⟩⟩
theorem z7q:SGks X EX [] [] z5l:=⟨PGs.imp z9c λv σ H Q ⟨ρ,γ,h,ds,rel,rd,fin⟩=>by
 cases ds with
 | nil=>simp only [RDs] at rd;exact ⟨rd,fin ρ H (Pre.refl _) (Ext.refl _ _) rel.h σ rel.g λ_ _=>rfl⟩
 | cons d r=>exact (show False from fin).elim⟩
theorem z3d {es:List Expr}{o1 o2:List Nat}{m:D->G->M G}{mr:List D->G->M G}(h1:SGk X EX e o1 m) (h2:SGks X EX es o2 mr) (hs:(K2c (e::es) X.env).map (·.2)=assign e X.env::(K2c es X.env).map (·.2):=by rfl):SGks X EX (e::es) (o1++o2) (z0W m mr) :=
 ⟨PGs.imp (z7J h1.h h2.h hs) λvs σ H Q ⟨ρ,γ,h,ds,rel,rd,fin⟩=>by
  cases ds with
  | nil=>exact (show False from fin).elim
  | cons d r =>
   simp only [RDs] at rd
   obtain ⟨v,vr,rfl,h3,h4⟩:=rd
   have fin':Fin X.K EX ρ H (λγ' ρ' _ H'=>∀σ',RG X.K ρ' H' γ' σ'->(∀j:Nat,j∉o1++o2->σ'[j]?=σ[j]?)->Q σ' H') ((m d γ >>= λγ1=>mr r γ1) h):=fin
   refine ⟨v,vr,rfl,ρ,γ,h,d,rel,h3,(Fin.bind fin').mono λγ1 ρ1 h1 H1 p1 e1 r1 f1 σ1 g1 k1=>⟨ρ1,γ1,h1,r,⟨g1,r1⟩,h4.mono p1 e1,f1.mono λγ2 ρ2 h2 H2 p2 e2 r2 f2 σ2 g2 k2=>f2 σ2 g2 λj hj=>?_⟩⟩
   rw [K0w,not_or] at hj
   rw [k2 j hj.2,k1 j hj.1]⟩
def gT (n:Nat) (m:List D->G->M G):D->G->M G:=λd γ=>match d with
 | .tup xs=>if xs.length=n then m xs γ else bad
 | _=>bad
theorem z5Z {es:List Expr}{k n:Nat}{m:List D->G->M G}(hc:X.calm=true) (h:SGs X EX es m) (hn:(K2c es X.env).length=n:=by rfl) (hst:(K2c es X.env).findIdx? (·.1)=none:=by rfl):SG X EX (.Tuple es k pos) (gT n m) :=
 ⟨PG.imp (zp8 hc h.h hn hst) λv σ H Q ⟨ρ,γ,h,d,rel,rd,fin⟩=>by
  cases d<;>first|exact (show False from fin).elim|skip
  rename_i xs
  simp only [RD] at rd
  obtain ⟨q,vs,rfl,h1,h2⟩:=rd
  have fin':Fin X.K EX ρ H (λγ' ρ' _ H'=>∀σ',RG X.K ρ' H' γ' σ'->Q σ' H') ((if xs.length=n then m xs γ else bad) h):=fin
  by_cases hl:xs.length=n
  ·rw [if_pos hl] at fin'
   exact ⟨q,vs,rfl,h1,by rw [← h2.length];exact hl,ρ,γ,h,xs,rel,h2,fin'⟩
  ·rw [if_neg hl] at fin';exact (show False from fin').elim⟩
theorem za9 {es:List Expr}{k n:Nat}{own:List Nat}{m:List D->G->M G}(hc:X.calm=true) (h:SGks X EX es own m) (hn:(K2c es X.env).length=n:=by rfl) (hst:(K2c es X.env).findIdx? (·.1)=none:=by rfl):SGk X EX (.Tuple es k pos) own (gT n m) :=
 ⟨PG.imp (zp8 hc h.h hn hst) λv σ H Q ⟨ρ,γ,h,d,rel,rd,fin⟩=>by
  cases d<;>first|exact (show False from fin).elim|skip
  rename_i xs
  simp only [RD] at rd
  obtain ⟨q,vs,rfl,h1,h2⟩:=rd
  have fin':Fin X.K EX ρ H (λγ' ρ' _ H'=>∀σ',RG X.K ρ' H' γ' σ'->(∀j:Nat,j∉own->σ'[j]?=σ[j]?)->Q σ' H') ((if xs.length=n then m xs γ else bad) h):=fin
  by_cases hl:xs.length=n
  ·rw [if_pos hl] at fin'
   exact ⟨q,vs,rfl,h1,by rw [← h2.length];exact hl,ρ,γ,h,xs,rel,h2,fin'⟩
  ·rw [if_neg hl] at fin';exact (show False from fin').elim⟩
def fSet:D->D->D->M Unit:=λo i v=>match o,i with
 | .ref n,.int k=>λh=>match h[n]? with
  | .(l xs)=>(match ixN xs.length k with
   | some j=>.ok () (h.set n (.lst (xs.set j v)))
   | none=>.bad)
  | _=>.bad
 | _,_=>bad
def gIx (mo mi:G->M D):D->G->M G:=λv γ=>do
 let o ← mo γ
 let i ← mi γ
 let _ ← fSet o i v
 pure γ
theorem z9u {o i:Expr}{mo mi:G->M D}(ho:SE X EX o mo) (hi:SE X EX i mi)
 (ha:∀v,assign (.Subscript o i pos) X.env v=(do
  let ov ← K3l [v] (eval o X.env)
  let iv ← K3l [v,ov] (eval i X.env)
  K4f pos
  K3l [v,ov,iv] (Z0h ov iv v)
  release [v,ov,iv] []):=by intro _;rfl):SG X EX (.Subscript o i pos) (gIx mo mi) :=
 ⟨PG.imp (zl3 ho.h hi.h set_list ha) λv σ H Q ⟨ρ,γ,h,d,rel,rd,fin⟩=>⟨ρ,γ,h,rel,(Fin.bind fin).mono λod ρ1 h1 H1 p1 e1 r1 f1 ov ro=>⟨ρ1,γ,h1,⟨rel.g.mono p1 e1,r1⟩,(Fin.bind f1).mono λid ρ2 h2 H2 p2 e2 r2 f2 iv ri=>by
  have f3:=Fin.bind f2
  cases od<;>first|exact (show False from f3).elim|skip
  rename_i n
  cases id<;>first|exact (show False from f3).elim|skip
  rename_i k
  simp only [RD] at ro ri
  obtain ⟨q,rfl,hq⟩:=ro
  subst ri
  have hq2:=p2 n q hq
  unfold fSet at f3
  dsimp only at f3
  cases e4:h2[n]? with
  | none=>rw [e4] at f3;exact (show False from f3).elim
  | some ob =>
   cases ob with
   | set ks=>rw [e4] at f3;exact (show False from f3).elim
   | dct=>rw [e4] at f3;exact (show False from f3).elim
   | dK kvs=>rw [e4] at f3;exact (show False from f3).elim
   | dF kvs=>rw [e4] at f3;exact (show False from f3).elim
   | exc c=>rw [e4] at f3;exact (show False from f3).elim
   | lst xs =>
    rw [e4] at f3
    dsimp only at f3
    cases e5:ixN xs.length k with
    | none=>rw [e5] at f3;exact (show False from f3).elim
    | some j =>
     rw [e5] at f3
     obtain ⟨a1,n1,vs,o1,d1⟩:=r2.at e4
     rw [hq2] at n1;cases n1
     have rd2:=(rd.mono p1 e1).mono p2 e2
     have dd:=d1.set j rd2
     refine ⟨q,vs,k,j,rfl,rfl,o1,by rw [← d1.length];exact e5,?_⟩
     have ext:Ext X.K H2 (upd H2 q (.lst (vs.set j v))):=Ext.upd (.inr ⟨_,o1,trivial⟩)
     have f4:=f3 ρ2 _ (Pre.refl _) ext (r2.set e4 hq2 dd)
     exact f4 ρ2 _ (Pre.refl _) (Ext.refl _ _) (r2.set e4 hq2 dd) σ (((rel.g.mono p1 e1).mono p2 e2).mono (Pre.refl _) ext)⟩⟩⟩
def sAsg (ma:G->M D) (g:D->G->M G):G->M Out:=λγ=>do
 let d ← ma γ
 let γ1 ← g d γ
 pure (.nx γ1)
theorem z4r {tg:Expr}{g:D->G->M G}(ha:SE X EX a ma) (hg:SG X EX tg g) (hs:swapsWithSole [tg] a pos.line X.env=pure false:=by rfl) (hw:swappedStores [tg] a X.env=pure none:=by rfl)
 (h1:(K2c [tg] X.env).map (·.2)=[assign tg X.env]:=by rfl):S1 X EX (.Assign [tg] a pos) (sAsg ma g) :=
 ⟨PS.imp (zH3 ha.h hg.h hs hw h1) λσ H D ⟨ρ,γ,h,rel,fin⟩=>⟨ρ,γ,h,rel,(Fin.bind fin).mono λd ρ1 h1 H1 p1 e1 r1 f1 v rv=>⟨ρ1,γ,h1,d,⟨rel.g.mono p1 e1,r1⟩,rv,(Fin.bind f1).mono λγ1 ρ2 h2 H2 p2 e2 r2 f2 σ2 g2 =>
  f2 ρ2 H2 (Pre.refl _) (Ext.refl _ _) r2 σ2 g2⟩⟩⟩
theorem y9 (i:Nat) {x:Str}(hN:X.N.Nodup) (ha:SE X EX a ma) (hi:X.N[i]?=some x:=by rfl) (hx:Loc X.env.scope x:=by first|exact Or.inl rfl|exact Or.inr rfl) (hs:K1v a (some (.Name x p)) pos.line X.env=pure false:=by first|exact z9v|exact z78|exact z4c|exact z8O|exact z9d|exact z7Z|exact z4F|exact z3C|exact z4B|exact z5D|exact z7B|rfl)
 (hf:X.fn x=true∨X.env.scope.names.lookup x=some .local:=by first|exact .inl rfl|exact .inr rfl|assumption):S1 X EX (.Assign [.Name x p] a pos) (sAsg ma (gN i)) :=
 ⟨PS.imp (zN8 hN hi hx ha.h hs hf) λσ H D ⟨ρ,γ,h,rel,fin⟩=>⟨ρ,γ,h,rel,(Fin.bind fin).mono λd ρ1 h1 H1 p1 e1 r1 f1 v rv=>f1 ρ1 H1 (Pre.refl _) (Ext.refl _ _) r1 _ ((rel.g.mono p1 e1).set i rv)⟩⟩
end
section
variable {X:Cx}{EX:XX}{a o e:Expr}{pos cpos apos:Pos}{ma mo:G->M D}
def updL (n:Nat) (f:List D->Option (D×List D)):M D:=λh=>match h[n]? with
 | .(l xs)=>(match f xs with
  | some (d,ys)=>if ys.length≤sizeLine then .ok d (h.set n (.lst ys)) else .bad
  | none=>.bad)
 | _=>.bad
def z2y:D->M Nat
 | .ref n=>λh=>match h[n]? with
  | .(l _)=>.ok n h
  | _=>.bad
 | _=>bad
def y8 (n:Nat) (v:D):M D:=updL n λxs=>some (.non,xs++[v])
def z2O (n:Nat) (i:D):M D:=match i with
 | .int k=>updL n λxs=>if -(2 ^ 63)≤k/\k<2 ^ 63 then (match K57 k xs.length with
  | some j=>(xs[j]?).map λd=>(d,xs.eraseIdx j)
  | none=>none) else none
 | _=>bad
def eM1 (f:Nat->D->M D) (mo ma:G->M D):G->M D:=λγ=>do
 let o ← mo γ
 let n ← z2y o
 let v ← ma γ
 f n v
def eM0 (f:Nat->M D) (mo:G->M D):G->M D:=λγ=>do
 let o ← mo γ
 let n ← z2y o
 f n
theorem z7p {K:K1}{ρ:List Addr}{h:AH}{H:Hp}{Q:VK}{n:Nat}{q:Addr}{f:List D->Option (D×List D)}(r:RH K ρ h H) (hq:ρ[n]?=some q) (fin:FE K EX ρ H Q (updL n f h)) :
 ∃xs d ys vs,f xs=some (d,ys)/\ys.length≤sizeLine/\H q=.(l vs)/\RDs K ρ H xs vs/\∀v ws,RD K ρ H d v->RDs K ρ H ys ws->Q v (upd H q (.lst ws)):=by
 unfold updL at fin
 cases e:h[n]? with
 | none=>rw [e] at fin;exact fin.elim
 | some ob =>
  cases ob with
  | set ks=>rw [e] at fin;exact fin.elim
  | dct=>rw [e] at fin;exact fin.elim
  | dK kvs=>rw [e] at fin;exact fin.elim
  | dF kvs=>rw [e] at fin;exact fin.elim
  | exc c=>rw [e] at fin;exact fin.elim
  | lst xs =>
   rw [e] at fin
   dsimp only at fin
   cases e2:f xs with
   | none=>rw [e2] at fin;exact fin.elim
   | some dy =>
    obtain ⟨d,ys⟩:=dy
    rw [e2] at fin
    dsimp only at fin
    split at fin
    ·rename_i hl
     obtain ⟨a1,n1,vs,o1,d1⟩:=r.at e
     rw [hq] at n1;cases n1
     refine ⟨xs,d,ys,vs,e2,hl,o1,d1,λv ws rv rw'=>?_⟩
     have ext:Ext K H (upd H q (.lst ws)):=Ext.upd (.inr ⟨_,o1,trivial⟩)
     exact fin ρ _ (Pre.refl _) ext (r.set e hq rw') v (rv.mono (Pre.refl _) ext)
    ·exact fin.elim
theorem zs1 {K:K1}{ρ:List Addr}{h:AH}{H:Hp}{n:Nat}{q:Addr}{Z:Nat->List Addr->AH->Hp->Prop}(r:RH K ρ h H) (hq:ρ[n]?=some q) (f:Fin K EX ρ H Z (z2y (.ref n) h)):tyV K "list" (.ref q) H/\Z n ρ h H:=by
 unfold z2y at f
 dsimp only at f
 cases e:h[n]? with
 | none=>rw [e] at f;exact f.elim
 | some ob =>
  cases ob with
  | set ks=>rw [e] at f;exact f.elim
  | dct=>rw [e] at f;exact f.elim
  | dK kvs=>rw [e] at f;exact f.elim
  | dF kvs=>rw [e] at f;exact f.elim
  | exc c=>rw [e] at f;exact f.elim
  | lst xs =>
   rw [e] at f
   obtain ⟨a1,n1,vs,o1,d1⟩:=r.at e
   rw [hq] at n1;cases n1
   exact ⟨.inl ⟨rfl,vs,SqL.of o1⟩,f ρ H (Pre.refl _) (Ext.refl _ _) r⟩
theorem ze2 {f:Nat->D->M D}{r:V->List V->Hp->VK->Prop}(hr:∀ρ h H n q y u Q,RH X.K ρ h H->ρ[n]?=some q->RD X.K ρ H y u->FE X.K EX ρ H Q (f n y h)->r (.ref q) [u] H Q) :
 ∀σ H Q,tE X.K EX (eM1 f mo ma) σ H Q->tBM X.K "list" r (tE X.K EX mo) (zk9 (tE X.K EX ma) tNil) σ H Q:=λσ H Q ⟨ρ,γ,h,rel,fin⟩=>⟨ρ,γ,h,rel,(Fin.bind fin).mono λx ρ1 h1 H1 p1 e1 r1 f1 v rv=>by
 have f2:=Fin.bind f1
 cases x<;>first|exact (show False from f2).elim|skip
 rename_i n
 simp only [RD] at rv
 obtain ⟨q,rfl,hq⟩:=rv
 obtain ⟨lt,f3⟩:=zs1 r1 hq f2
 exact ⟨lt,ρ1,γ,h1,⟨rel.g.mono p1 e1,r1⟩,(Fin.bind f3).mono λy ρ2 h2 H2 p2 e2 r2 f4 u ru=>hr ρ2 h2 H2 n q y u Q r2 (p2 n q hq) ru f4⟩⟩
theorem z0a (ho:SE X EX o mo) (ha:SE X EX a ma)
 (hbase:K4d o "append" X.env (eval o X.env)=eval o X.env:=by rfl)
 (hfew:((backTo cpos (K0b [a] X.env)).all (λx=>!x.1)&&(K7o cpos (K58 [] X.env)).all (λx=>x.1.isSome)
 &&decide (([a]:List Expr).length+([]:List K44).length+(if ([]:List K44).isEmpty then 0 else 1)<30))=true:=by rfl)
 (hline:(apos.endLine==cpos.line)=true:=by rfl) (hs:K0b [a] X.env=[(false,eval a X.env)]:=by rfl) :
 SE X EX (.Call (.Attribute o "append" apos) [a] [] cpos) (eM1 y8 mo ma) :=
 ⟨PE.imp (zh1 K3v PySem.F.slot_list_append PySem.F.type_list_append z6i ho.h (z0G ha.h z23 hs) hbase hfew hline hs rfl) (ze2 λρ h H n q y u Q r hq ru fin=>by
  obtain ⟨xs,d,ys,vs,g1,g2,g3,g4,g5⟩:=z7p r hq fin
  cases g1
  have hl:=g4.length
  rw [K08,K3a] at g2
  exact ⟨q,vs,u,rfl,rfl,g3,by omega,g5 _ _ (by simp [RD]) (g4.append (RDs.cons ru RDs.nil))⟩)⟩
theorem z7P (ho:SE X EX o mo) (ha:SE X EX a ma)
 (hbase:K4d o "pop" X.env (eval o X.env)=eval o X.env:=by rfl)
 (hfew:((backTo cpos (K0b [a] X.env)).all (λx=>!x.1)&&(K7o cpos (K58 [] X.env)).all (λx=>x.1.isSome)
 &&decide (([a]:List Expr).length+([]:List K44).length+(if ([]:List K44).isEmpty then 0 else 1)<30))=true:=by rfl)
 (hline:(apos.endLine==cpos.line)=true:=by rfl) (hs:K0b [a] X.env=[(false,eval a X.env)]:=by rfl) :
 SE X EX (.Call (.Attribute o "pop" apos) [a] [] cpos) (eM1 z2O mo ma) :=
 ⟨PE.imp (zh1 K3v PySem.F.slot_list_pop PySem.F.type_list_pop zh9 ho.h (z0G ha.h z23 hs) hbase hfew hline hs rfl) (ze2 λρ h H n q y u Q r hq ru fin=>by
  cases y<;>first|exact (show False from fin).elim|skip
  rename_i k
  simp only [RD] at ru
  subst ru
  obtain ⟨xs,d,ys,vs,g1,g2,g3,g4,g5⟩:=z7p r hq fin
  split at g1
  ·rename_i hk
   cases e5:K57 k xs.length with
   | none=>rw [e5] at g1;cases g1
   | some j =>
    rw [e5] at g1
    obtain ⟨d',e1,e2⟩:=K10.mp g1
    cases e2
    obtain ⟨v,e3,e4⟩:=g4.get e1
    exact ⟨q,vs,k,j,v,rfl,rfl,g3,hk.1,hk.2,by rw [← g4.length];exact e5,e3,g5 _ _ e4 (g4.eraseIdx j)⟩
  ·cases g1)⟩
end
inductive Src where
 | con (xs:List D)
 | lst (n:Nat) (xs:List D)
 | obj (n:Nat) (o:O) (xs:List D)
def Src.items:Src->List D
 | .con xs=>xs
 | .lst _ xs=>xs
 | .obj _ _ xs=>xs
def Src.good:Src->AH->Prop
 | .con _,_=>True
 | .lst n xs,h=>h[n]?=.(l xs)
 | .obj n o _,h=>h[n]?=some o
open Classical in
noncomputable def Src.chk (s:Src):M Unit:=λh=>if s.good h then .ok () h else .bad
def JOK (K:K1) (src:Src) (ρ:List Addr) (H:Hp) (J:It):Prop:=∀i ρ1 h1 H1,Pre ρ ρ1->Ext K H H1->RH K ρ1 h1 H1->src.good h1 ->
 (∀d,src.items[i]?=some d->J.go i H1/\∀x H2,J.yld i H1 x H2->RD K ρ1 H2 d x/\RH K ρ1 h1 H2/\Ext K H1 H2)/\(src.items.length=i->J.stop i H1)
def tI (K:K1) (EX:XX) (m:G->M Src):TI:=λσ H R=>∃ρ γ h,Rel K ρ γ h σ H/\Fin K EX ρ H (λsrc ρ' _ H'=>∀J,JOK K src ρ' H' J->R J H') (m γ h)
structure SI (X:Cx) (EX:XX) (tg iter:Expr) (m:G->M Src):Prop where
 h:PI X tg iter (tI X.K EX m)
theorem PI.imp {X:Cx}{tg e:Expr}{t t':TI}(h:PI X tg e t) (f:∀σ H R,t' σ H R->t σ H R):PI X tg e t':=λpins s σ H R I z=>h pins s σ H R I (f σ H R z)
section
variable {X:Cx}{EX:XX}{a o e tg:Expr}{pos cpos apos p:Pos}{ma mo:G->M D}{mr:G->M (List D)}
def z0h (ma:G->M D):G->M Src:=λγ=>do
 let x ← ma γ
 match x with
 | .fl xs=>pure (.con xs)
 | .ref n=>do
  let xs ← getL n
  pure (.lst n xs)
 | _=>bad
theorem z0i (ha:SE X EX a ma):SI X EX tg a (z0h ma) :=
 ⟨PI.imp (zB3 ha.h) λσ H R ⟨ρ,γ,h,rel,fin⟩=>⟨ρ,γ,h,rel,(Fin.bind fin).mono λx ρ1 h1 H1 p1 e1 r1 f1 v rv=>by
  cases x<;>first|exact (show False from f1).elim|skip
  case fl xs =>
   simp only [RD] at rv
   obtain ⟨q,vs,rfl,h2,h3⟩:=rv
   refine ⟨q,rfl,⟨vs,h2.sq⟩,f1 ρ1 H1 (Pre.refl _) (Ext.refl _ _) r1 _ λi ρ2 h4 H2 p2 e2 r2 _=>⟨λd hd=>?_,λhi=>?_⟩⟩
   ·have h3':=h3.mono p2 e2
    obtain ⟨x,g1,g2⟩:=h3'.get hd
    refine ⟨⟨vs,x,(e2.l _ _ h2).sq,g1⟩,λy H3 ⟨z1,z2⟩=>?_⟩
    subst z1
    have:=z2 vs (e2.l _ _ h2).sq
    rw [g1] at this;cases this
    exact ⟨g2,r2,Ext.refl _ _⟩
   ·exact ⟨vs,(e2.l _ _ h2).sq,by rw [← h3.length];exact K6a hi⟩
  case ref n =>
   have f2:Fin X.K EX ρ1 H1 (λsrc ρ' _ H'=>∀J,JOK X.K src ρ' H' J->R J H') ((getL n >>= λxs=>(pure (.lst n xs):M Src)) h1):=f1
   have f3:=Fin.bind f2
   cases e3:getL n h1 with
   | bad=>rw [e3] at f3;exact f3.elim
   | err z hz=>exact (z0T e3).elim
   | ok xs h3 =>
    obtain ⟨rfl,q1⟩:=z0U e3
    rw [e3] at f3
    simp only [RD] at rv
    obtain ⟨q,rfl,hq⟩:=rv
    obtain ⟨a1,n1,vs,o1,d1⟩:=r1.at q1
    rw [hq] at n1;cases n1
    have f4:=f3 ρ1 H1 (Pre.refl _) (Ext.refl _ _) r1
    refine ⟨q,rfl,⟨vs,SqL.of o1⟩,f4 ρ1 H1 (Pre.refl _) (Ext.refl _ _) r1 _ λi ρ2 h4 H2 p2 e2 r2 g=>?_⟩
    have g':h4[n]?=.(l xs):=g
    obtain ⟨a2,n2,vs2,o2,d2⟩:=r2.at g'
    rw [p2 n q hq] at n2;cases n2
    refine ⟨λd hd=>?_,λhi=>⟨vs2,SqL.of o2,by rw [← d2.length];exact K6a hi⟩⟩
    obtain ⟨x,g1,g2⟩:=d2.get hd
    refine ⟨⟨vs2,x,SqL.of o2,g1⟩,λy H3 ⟨z1,z2⟩=>?_⟩
    subst z1
    have:=z2 vs2 (SqL.of o2)
    rw [g1] at this;cases this
    exact ⟨g2,r2,Ext.refl _ _⟩⟩⟩
def z0o (ma:G->M D):G->M Src:=λγ=>do
 let x ← ma γ
 match x with
 | .tup xs=>pure (.con xs)
 | _=>bad
theorem z0j (ha:SE X EX a ma):SI X EX tg a (z0o ma) :=
 ⟨PI.imp (zL3 ha.h) λσ H R ⟨ρ,γ,h,rel,fin⟩=>⟨ρ,γ,h,rel,(Fin.bind fin).mono λx ρ1 h1 H1 p1 e1 r1 f1 v rv=>by
  cases x<;>first|exact (show False from f1).elim|skip
  rename_i xs
  simp only [RD] at rv
  obtain ⟨q,vs,rfl,h2,h3⟩:=rv
  refine ⟨q,rfl,⟨vs,h2⟩,f1 ρ1 H1 (Pre.refl _) (Ext.refl _ _) r1 _ λi ρ2 h4 H2 p2 e2 r2 _=>⟨λd hd=>?_,λhi=>?_⟩⟩
  ·have h3':=h3.mono p2 e2
   obtain ⟨x,g1,g2⟩:=h3'.get hd
   refine ⟨⟨vs,x,e2.t _ _ h2,g1⟩,λy H3 ⟨z1,z2⟩=>?_⟩
   subst z1
   have:=z2 vs (e2.t _ _ h2)
   rw [g1] at this;cases this
   exact ⟨g2,r2,Ext.refl _ _⟩
  ·exact ⟨vs,e2.t _ _ h2,by rw [← h3.length];exact K6a hi⟩⟩⟩
def z0H (n:Nat):List D:=(K8 n).map λ(i:Nat)=>.int i
def z0g (ma:G->M D):G->M Src:=λγ=>do
 let x ← ma γ
 match x with
 | .int j=>if -(2 ^ 62)≤j/\j<2 ^ 62 then pure (.con (z0H j.toNat)) else bad
 | _=>bad
theorem v3 (hg:Gl X "range") (hm:X.mg "range" = none) (ha:SE X EX a ma) (hs:K0b [a] X.env=[(false,eval a X.env)]:=by rfl):SI X EX tg (.Call (.Name "range" p) [a] [] pos) (z0g ma) :=
 ⟨PI.imp (zc6 hg hm (z0G ha.h z23 hs) hs) λσ H R ⟨ρ,γ,h,rel,fin⟩=>⟨ρ,γ,h,rel,(Fin.bind fin).mono λx ρ1 h1 H1 p1 e1 r1 f1 v rv=>by
  cases x<;>first|exact (show False from f1).elim|skip
  rename_i j
  simp only [RD] at rv
  subst rv
  have f2:Fin X.K EX ρ1 H1 (λsrc ρ' _ H'=>∀J,JOK X.K src ρ' H' J->R J H') ((if -(2 ^ 62)≤j/\j<2 ^ 62 then pure (.con (z0H j.toNat)) else bad:M Src) h1):=f1
  by_cases hj:-(2 ^ 62)≤j/\j<2 ^ 62
  ·rw [if_pos hj] at f2
   refine ⟨j,rfl,hj.1,hj.2,f2 ρ1 H1 (Pre.refl _) (Ext.refl _ _) r1 _ λi ρ2 h4 H2 p2 e2 r2 _=>⟨λd hd=>?_,λhi=>?_⟩⟩
   ·have hd':(z0H j.toNat)[i]?=some d:=hd
    unfold z0H at hd'
    rw [K0e] at hd'
    have hi:i<j.toNat:=by
     by_cases hi:i<j.toNat
     ·exact hi
     ·rw [K0i (by simpa using hi)] at hd';cases hd'
    rw [K1p hi] at hd'
    cases hd'
    refine ⟨hi,λy H3 ⟨z1,z2⟩=>?_⟩
    subst z1;subst z2
    exact ⟨by simp [RD],r2,Ext.refl _ _⟩
   ·have hi':(z0H j.toNat).length=i:=hi
    unfold z0H at hi'
    rw [K00,K1q] at hi'
    exact K6a hi'
  ·rw [if_neg hj] at f2;exact f2.elim⟩⟩
end
noncomputable def forR (src:Src) (g:D->G->M G) (body:G->M Out):List D->G->M Out
 | [],γ=>do
  let _ ← src.chk
  pure (.nx γ)
 | d::r,γ=>do
  let _ ← src.chk
  let γ1 ← g d γ
  let o ← body γ1
  match o with
  | .nx γ2=>forR src g body r γ2
  | .ct γ2=>forR src g body r γ2
  | .bk γ2=>pure (.nx γ2)
  | .rt v=>pure (.rt v)
noncomputable def sFor (mi:G->M Src) (g:D->G->M G) (body:G->M Out):G->M Out:=λγ=>do
 let src ← mi γ
 forR src g body src.items γ
theorem z7k {K:K1}{EX:XX}{ρ:List Addr}{H:Hp}{α:Type}{P:α->List Addr->AH->Hp->Prop}{src:Src}{f:Unit->M α}{h:AH}(fin:Fin K EX ρ H P ((src.chk >>= f) h)) (r:RH K ρ h H):src.good h/\Fin K EX ρ H P (f () h):=by
 have f1:=Fin.bind fin
 unfold Src.chk at f1
 split at f1
 ·rename_i hg
  exact ⟨hg,f1 ρ H (Pre.refl _) (Ext.refl _ _) r⟩
 ·exact f1.elim
section
variable {X:Cx}{EX:XX}{a o e tg c:Expr}{pos cpos apos p:Pos}{ma mo:G->M D}{mi:G->M Src}{g:D->G->M G}{mb:G->M Out}{sts:List Stmt}{kc:G->M Bool}
theorem z1n (hp:Z04 (model X.prog X.w) X.A X.env X.xe) (hc:X.calm=true) (hi:SI X EX tg e mi) (hg:SG X EX tg g) (hb:SB X EX sts mb) (hs:∀x,K11 e X.env x=pure x:=by intro _;rfl):S1 X EX (.For tg e sts [] pos) (sFor mi g mb) :=
 ⟨PS.imp (zF9 hp hc hi.h hg.h hb.h hs) λσ H D ⟨ρ,γ,h,rel,fin⟩=>⟨ρ,γ,h,rel,(Fin.bind fin).mono λsrc ρ0 h0 H0 p0 e0 r0 f0 J hJ=>by
  refine ⟨λi m σ H=>m+i=src.items.length/\∃ρ γ h,Pre ρ0 ρ/\Ext X.K H0 H/\Rel X.K ρ γ h σ H/\Fin X.K EX ρ H (λo ρ' _ H'=>OutP X.K D o ρ' H') (forR src g mb (src.items.drop i) γ h),
   ⟨src.items.length,rfl,ρ0,γ,h0,Pre.refl _,Ext.refl _ _,⟨rel.g.mono p0 e0,r0⟩,f0⟩,?_⟩
  rintro i m σ1 H1 ⟨hm,ρ1,γ1,h1,p1,e1,rel1,f1⟩
  by_cases hi:i<src.items.length
  ·have hd:src.items.drop i=src.items[i]::src.items.drop (i+1):=K6u hi
   rw [hd] at f1
   unfold forR at f1
   obtain ⟨good,f2⟩:=z7k f1 rel1.h
   obtain ⟨j1,j2⟩:=hJ i ρ1 h1 H1 p1 e1 rel1.h good
   obtain ⟨go,yld⟩:=j1 src.items[i] (K4 hi)
   refine .inr ⟨go,λσ' H'=>∃ρ γ h,Pre ρ0 ρ/\Ext X.K H0 H'/\Rel X.K ρ γ h σ' H'/\Fin X.K EX ρ H' (λo ρ' _ H'=>OutP X.K D o ρ' H') (forR src g mb (src.items.drop (i+1)) γ h),λσ' H' z=>⟨m - 1,by omega,by omega,z⟩,λx H2 y=>?_⟩
   obtain ⟨rd,rh,ext⟩:=yld x H2 y
   refine ⟨ρ1,γ1,h1,_,⟨rel1.g.mono (Pre.refl _) ext,rh⟩,rd,(Fin.bind (Fin.up (Pre.refl _) ext f2)).mono λγ2 ρ3 h3 H3 p3 e3 r3 f3 σ3 g3=>⟨ρ3,γ2,h3,⟨g3,r3⟩,(Fin.bind f3).mono λo ρ4 h4 H4 p4 e4 r4 f4=>?_⟩⟩
   have pp:Pre ρ0 ρ4:=(p1.trans p3).trans p4
   have ee:Ext X.K H0 H4:=((e1.trans ext).trans e3).trans e4
   cases o with
   | nx γ5=>exact λσ5 g5=>⟨ρ4,γ5,h4,pp,ee,⟨g5,r4⟩,f4⟩
   | ct γ5=>exact λσ5 g5=>⟨ρ4,γ5,h4,pp,ee,⟨g5,r4⟩,f4⟩
   | bk γ5=>exact λσ5 g5=>f4 ρ4 H4 (Pre.refl _) (Ext.refl _ _) r4 σ5 g5
   | rt d=>exact λv rv=>f4 ρ4 H4 (Pre.refl _) (Ext.refl _ _) r4 v rv
  ·have hd:src.items.drop i=[]:=K83 (by omega)
   rw [hd] at f1
   unfold forR at f1
   obtain ⟨good,f2⟩:=z7k f1 rel1.h
   obtain ⟨j1,j2⟩:=hJ i ρ1 h1 H1 p1 e1 rel1.h good
   exact .inl ⟨j2 (by omega),f2 ρ1 H1 (Pre.refl _) (Ext.refl _ _) rel1.h σ1 rel1.g⟩⟩⟩
def z2E (k:G->M Bool) (body:G->M Out):Nat->G->M Out
 | 0,_=>bad
 | n+1,γ=>do
  let t ← k γ
  if t then do
   let o ← body γ
   match o with
   | .nx γ2=>z2E k body n γ2
   | .ct γ2=>z2E k body n γ2
   | .bk γ2=>pure (.nx γ2)
   | .rt v=>pure (.rt v)
  else pure (.nx γ)
theorem zz1 (n:Nat) (hp:Z04 (model X.prog X.w) X.A X.env X.xe) (hc:SC X EX c kc) (hb:SB X EX sts mb):S1 X EX (.While c sts [] pos) (z2E kc mb n) :=
 ⟨PS.imp (zd4 hp hc.h hb.h) λσ H D ⟨ρ,γ,h,rel,fin⟩=>by
  refine ⟨λm σ H=>∃ρ γ h,Rel X.K ρ γ h σ H/\Fin X.K EX ρ H (λo ρ' _ H'=>OutP X.K D o ρ' H') (z2E kc mb m γ h),⟨n,ρ,γ,h,rel,fin⟩,?_⟩
  rintro m σ1 H1 ⟨ρ1,γ1,h1,rel1,f1⟩
  cases m with
  | zero=>exact (show False from f1).elim
  | succ m =>
   unfold z2E at f1
   refine ⟨ρ1,γ1,h1,rel1,(Fin.bind f1).mono λt ρ2 h2 H2 p2 e2 r2 f2=>?_⟩
   cases t with
   | false=>exact f2 ρ2 H2 (Pre.refl _) (Ext.refl _ _) r2 σ1 (rel1.g.mono p2 e2)
   | true =>
    rw [if_pos rfl] at f2 ⊢
    refine ⟨λσ' H'=>∃ρ γ h,Rel X.K ρ γ h σ' H'/\Fin X.K EX ρ H' (λo ρ' _ H'=>OutP X.K D o ρ' H') (z2E kc mb m γ h),λσ' H' z=>⟨m,by omega,z⟩,ρ2,γ1,h2,⟨rel1.g.mono p2 e2,r2⟩,(Fin.bind f2).mono λo ρ4 h4 H4 p4 e4 r4 f4=>?_⟩
    cases o with
    | nx γ5=>exact λσ5 g5=>⟨ρ4,γ5,h4,⟨g5,r4⟩,f4⟩
    | ct γ5=>exact λσ5 g5=>⟨ρ4,γ5,h4,⟨g5,r4⟩,f4⟩
    | bk γ5=>exact λσ5 g5=>f4 ρ4 H4 (Pre.refl _) (Ext.refl _ _) r4 σ5 g5
    | rt d=>exact λv rv=>f4 ρ4 H4 (Pre.refl _) (Ext.refl _ _) r4 v rv⟩
end
def capG (cap:List (Option Nat)) (γ:G):G:=cap.map λo=>match o with|some j=>(γ[j]?).join|none=>none
theorem zx1 {K:K1}{ρ:List Addr}{H:Hp}{γ:G}{σ:L2.St}(cap:List (Option Nat)) (r:RG K ρ H γ σ):RG K ρ H (capG cap γ) (z43 cap σ):=by
 refine ⟨by simp [capG,z43],λi d e=>?_⟩
 unfold capG at e
 unfold z43
 rw [K0e] at e ⊢
 cases q:cap[i]? with
 | none=>rw [q] at e;cases e
 | some o =>
  rw [q] at e
  cases o with
  | none=>simp at e
  | some j =>
   have e2:(γ[j]?).join=some d:=by simpa using e
   have e3:γ[j]?=some (some d):=by
    cases q2:γ[j]? with
    | none=>rw [q2] at e2;simp at e2
    | some o2=>rw [q2] at e2;simp at e2;rw [e2]
   obtain ⟨v,h1,h2⟩:=r.var j d e3
   exact ⟨v,by simp [h1],h2⟩
noncomputable def z2K (src:Src) (g:D->G->M G) (k:G->M Bool) (me:G->M D) (n0:Nat) (γ:G):List D->M Unit
 | []=>do
  let _ ← src.chk
  pure ()
 | d::r=>do
  let _ ← src.chk
  let γ1 ← g d γ
  let t ← k γ1
  if t then do
   let v ← me γ1
   let _ ← y8 n0 v
   z2K src g k me n0 γ r
  else z2K src g k me n0 γ r
noncomputable def Y3 (cap:List (Option Nat)) (mi:G->M Src) (g:D->G->M G) (k:G->M Bool) (me:G->M D):G->M D:=λγ=>do
 let src ← mi γ
 let n0 ← (λh=>.ok h.length (h++[.lst []]):M Nat)
 let _ ← z2K src g k me n0 (capG cap γ) src.items
 pure (.ref n0)
structure SCs (X:Cx) (EX:XX) (ifs:List Expr) (m:G->M Bool):Prop where
 h:PTs X ifs (tT X.K EX m)
theorem PTs.imp {X:Cx}{e:List Expr}{t t':TT}(h:PTs X e t) (f:∀σ H Q,t' σ H Q->t σ H Q):PTs X e t':=λpins s σ H Q I z=>h pins s σ H Q I (f σ H Q z)
section
variable {X:Cx}{EX:XX}{elt tg iter c:Expr}{ifs:List Expr}{sc:Scope}{pos:Pos}{N':List Str}{cap:List (Option Nat)}{own:List Nat}{mi:G->M Src}{g:D->G->M G}{k kr:G->M Bool}{me:G->M D}
theorem Y8:SCs X EX [] (λ_=>pure true):=⟨PTs.imp z9B λσ H Q ⟨ρ,γ,h,rel,fin⟩=>fin ρ H (Pre.refl _) (Ext.refl _ _) rel.h⟩
theorem z0F (h:SC X EX c k):SCs X EX [c] k:=⟨PTs.imp (zi8 h.h z9B) λσ H Q ⟨ρ,γ,h,rel,fin⟩=>⟨ρ,γ,h,rel,fin.mono λt ρ1 h1 H1 p1 e1 r1 f1=>by
 cases t with
 | true=>exact f1
 | false=>exact f1⟩⟩
def HB (X:Cx) (EX:XX) (own:List Nat) (σ0:L2.St) (ρ0:List Addr) (b:G->M Unit->M Unit) (tb:TB):Prop :=
 ∀{σ:L2.St} {γ1:G} {ρ:List Addr} {h:AH} {H:Hp} {P:Unit->List Addr->AH->Hp->Prop} {K:M Unit} {Z:Hp->Prop},Pre ρ0 ρ->(∀j,j∉own->σ[j]?=σ0[j]?)->RG X.K ρ H γ1 σ->RH X.K ρ h H->Fin X.K EX ρ H P (b γ1 K h) ->
  (∀ρ' h' H',Pre ρ ρ'->Ext X.K H H'->RH X.K ρ' h' H'->Fin X.K EX ρ' H' P (K h')->Z H')->tb σ H Z
theorem zn1 {F:List D->M Unit}{b:G->M Unit->M Unit}{tb:TB}{σ0:L2.St}{H0:Hp}{ρ0:List Addr}{h0:AH}{γ:G}{src:Src}{J:It}{P:Hp->Prop}
 (hnil:F []=(do let _ ← src.chk;pure ())) (hcons:∀d r,F (d::r)=(do let _ ← src.chk;let γ1 ← g d γ;let t ← k γ1;if t then b γ1 (F r) else F r))
 (r0:RH X.K ρ0 h0 H0) (rg:RG X.K ρ0 H0 γ σ0) (hJ:JOK X.K src ρ0 H0 J) (hown:∀j∈own,∀v,σ0[j]?≠some (some v)) (hb:HB X EX own σ0 ρ0 b tb)
 (fin:Fin X.K EX ρ0 H0 (λ_ ρ' h' H'=>RH X.K ρ' h' H'->Ext X.K H0 H'->Pre ρ0 ρ'->P H') (F src.items h0)):runG (tGk X.K EX own g) (tT X.K EX k) tb σ0 J P H0:=by
 refine ⟨λi m H=>m+i=src.items.length/\∃ρ h,Pre ρ0 ρ/\Ext X.K H0 H/\RH X.K ρ h H /\
  Fin X.K EX ρ H (λ_ ρ' h' H'=>RH X.K ρ' h' H'->Ext X.K H0 H'->Pre ρ0 ρ'->P H') (F (src.items.drop i) h),
  ⟨src.items.length,rfl,_,_,Pre.refl _,Ext.refl _ _,r0,fin⟩,?_⟩
 rintro i m H1 ⟨hm,ρ1,h1,p1,e1,r1,f1⟩
 by_cases hi:i<src.items.length
 ·rw [show src.items.drop i=src.items[i]::src.items.drop (i+1) from K6u hi,hcons] at f1
  obtain ⟨good,f2⟩:=z7k f1 r1
  obtain ⟨j1,j2⟩:=hJ i ρ1 h1 H1 p1 e1 r1 good
  obtain ⟨go,yld⟩:=j1 src.items[i] (K4 hi)
  refine .inr ⟨go,λx H2 y=>?_⟩
  obtain ⟨rd,rh,ext⟩:=yld x H2 y
  refine ⟨ρ1,_,h1,_,⟨rg.mono p1 (e1.trans ext),rh⟩,rd,(Fin.bind (Fin.up (Pre.refl _) ext f2)).mono λγ2 ρ3 h3 H3 p3 e3 r3 f3 σ3 g3 k3=>⟨λj v hv=>?_,ρ3,γ2,h3,⟨g3,r3⟩,(Fin.bind f3).mono λt ρ4 h4 H4 p4 e4 r4 f4=>?_⟩⟩
  ·rw [k3 j λhj=>hown j hj v hv]
   exact hv
  ·have pp:Pre ρ0 ρ4:=(p1.trans p3).trans p4
   have ee:Ext X.K H0 H4:=((e1.trans ext).trans e3).trans e4
   cases t with
   | false =>
    rw [if_neg (by decide)] at f4
    dsimp only
    rw [if_neg (by decide)]
    exact ⟨m - 1,by omega,by omega,ρ4,h4,pp,ee,r4,f4⟩
   | true =>
    rw [if_pos rfl] at f4
    dsimp only
    rw [if_pos rfl]
    exact hb pp k3 (g3.mono p4 e4) r4 f4 λρ5 h5 H5 p5 e5 r5 f5=>⟨m - 1,by omega,by omega,ρ5,h5,pp.trans p5,ee.trans e5,r5,f5⟩
 ·rw [show src.items.drop i=[] from K83 (by omega),hnil] at f1
  obtain ⟨good,f2⟩:=z7k f1 r1
  obtain ⟨j1,j2⟩:=hJ i ρ1 h1 H1 p1 e1 r1 good
  exact .inl ⟨j2 (by omega),f2 ρ1 H1 (Pre.refl _) (Ext.refl _ _) r1 r1 e1 p1⟩
theorem zp4 {σ0:L2.St}{ρ0:List Addr}{n0:Nat}{Dd:Addr}(hD:ρ0[n0]?=some Dd):HB X EX own σ0 ρ0 (λγ1 K=>do let v ← me γ1;let _ ← y8 n0 v;K) (bApp (tE X.K EX me) Dd):=λ{σ γ1 ρ h H P K Z} p0 _ rg rh fin hz=>by
 refine ⟨ρ,γ1,h,⟨rg,rh⟩,(Fin.bind fin).mono λd ρ5 h5 H5 p5 e5 r5 f5 v rv=>?_⟩
 have hq:ρ5[n0]?=some Dd:=(p0.trans p5) _ _ hD
 have f6:=Fin.bind f5
 unfold y8 updL at f6
 cases e7:h5[n0]? with
 | none=>rw [e7] at f6;exact f6.elim
 | some ob =>
  cases ob<;>first|(rw [e7] at f6;exact f6.elim)|skip
  rename_i xs
  rw [e7] at f6
  dsimp only at f6
  split at f6
  ·rename_i hl
   obtain ⟨a1,n1,vs,o1,d1⟩:=r5.at e7
   rw [hq] at n1;cases n1
   have ext2:Ext X.K H5 (upd H5 Dd (.lst (vs++[v]))):=Ext.upd (.inr ⟨_,o1,trivial⟩)
   have r6:=r5.set e7 hq (d1.append (RDs.cons rv RDs.nil))
   rw [K08,K3a] at hl
   have hl2:=d1.length
   exact ⟨vs,o1,by omega,hz ρ5 _ _ p5 (e5.trans ext2) r6 (f6 ρ5 _ (Pre.refl _) ext2 r6)⟩
  ·exact f6.elim
theorem zN9 {mi1:G->M Src}{g1:D->G->M G}{k1:G->M Bool}{own1:List Nat}{F1:Src->G->List D->M Unit}{b1:G->M Unit->M Unit}{tb1:TB}{σ0:L2.St}{ρ0:List Addr}
 (hnil:∀src γ,F1 src γ []=(do let _ ← src.chk;pure ())) (hcons:∀src γ d r,F1 src γ (d::r)=(do let _ ← src.chk;let γ1 ← g1 d γ;let t ← k1 γ1;if t then b1 γ1 (F1 src γ r) else F1 src γ r))
 (hown1:∀j∈own1,j∉own/\∀v,σ0[j]?≠some (some v)) (hb1:∀{σ1:L2.St} {ρ1:List Addr},Pre ρ0 ρ1->HB X EX own1 σ1 ρ1 b1 tb1) :
 HB X EX own σ0 ρ0 (λγ1 K=>do let s1 ← mi1 γ1;let _ ← F1 s1 γ1 s1.items;K) (bIn (tI X.K EX mi1) (tGk X.K EX own1 g1) (tT X.K EX k1) tb1):=λ{σ γ1 ρ h H P K Z} p0 k0 rg rh fin hz=>by
 refine ⟨ρ,γ1,h,⟨rg,rh⟩,(Fin.bind fin).mono λs1 ρ4 h4 H4 p4 e4 r4 f4 J1 hJ1=>?_⟩
 refine zn1 (hnil s1 γ1) (hcons s1 γ1) r4 (rg.mono p4 e4) hJ1 (λj hj v hv=>?_) (hb1 (p0.trans p4)) ((Fin.bind f4).mono λ_ ρ5 h5 H5 p5 e5 r5 f5 rr ex pr=>hz ρ5 h5 H5 (p4.trans p5) (e4.trans e5) r5 f5)
 rw [k0 j (hown1 j hj).1] at hv
 exact (hown1 j hj).2 v hv
structure CmA (X:Cx) (EX:XX) (ce:Expr) (sc:Scope) (tg iter:Expr) (ifs:List Expr) (N':List Str) (cap:List (Option Nat)) (own:List Nat) (mi:G->M Src) (g:D->G->M G) (k:G->M Bool) (oo:O) (b:Nat->G->M Unit->M Unit) (F:Src->Nat->G->List D->M Unit):Prop where
 ex:∃(mk:Sem Value) (o0:HO) (bd:Addr->Env->Sem Unit) (p:Pos) (tbd:Addr->L2.TB),CmE ce sc tg iter ifs mk o0 bd p/\(∀(ρ:List Addr) (H:Hp) (Dd:Addr),RO X.K ρ (upd H Dd o0) oo Dd)/\(∀D s H fp xe,PBd (X.comp N' sc s H fp xe) (bd D (X.comp N' sc s H fp xe).env) (tbd D)) /\
  ∀{σ0:L2.St} {ρ0:List Addr} {n0:Nat} {Dd:Addr},(∀(j:Nat),cap[j]?=some none->∀v,σ0[j]?≠some (some v))->ρ0[n0]?=some Dd->HB X EX own σ0 ρ0 (b n0) (tbd Dd)
 nil:∀src n0 γ,F src n0 γ []=(do let _ ← src.chk;pure ())
 cons:∀src n0 γ d r,F src n0 γ (d::r)=(do let _ ← src.chk;let γ1 ← g d γ;let t ← k γ1;if t then b n0 γ1 (F src n0 γ r) else F src n0 γ r)
noncomputable def eCm (cap:List (Option Nat)) (mi:G->M Src) (oo:O) (F:Src->Nat->G->List D->M Unit):G->M D:=λγ=>do
 let src ← mi γ
 let n0 ← (λh=>.ok h.length (h++[oo]):M Nat)
 let _ ← F src n0 (capG cap γ) src.items
 pure (.ref n0)
theorem zl6 {ce:Expr}{oo:O}{b:Nat->G->M Unit->M Unit}{F:Src->Nat->G->List D->M Unit}{o0:HO}{tbd:Addr->TB}{σ:L2.St}{γ:G}{src:Src}{ρ0:List Addr}{h0:AH}{H0:Hp}{J:It}{Dd:Addr}{Q:Hp->Prop}
 (A:CmA X EX ce sc tg iter ifs N' cap own mi g k oo b F) (ho:∀(ρ:List Addr) (H:Hp) (Dd:Addr),RO X.K ρ (upd H Dd o0) oo Dd) (hb:∀{σ0:L2.St} {ρ0:List Addr} {n0:Nat} {Dd:Addr},(∀(j:Nat),cap[j]?=some none->∀v,σ0[j]?≠some (some v))->ρ0[n0]?=some Dd->HB X EX own σ0 ρ0 (b n0) (tbd Dd))
 (hown:∀j∈own,cap[j]?=some none) (r0:RH X.K ρ0 h0 H0) (rg:RG X.K ρ0 H0 γ σ) (hJ:JOK X.K src ρ0 H0 J) (hD:H0 Dd=none) {R:D->List Addr->AH->Hp->Prop}
 (fin:Fin X.K EX ρ0 H0 R ((do let n0 ← (λh=>.ok h.length (h++[oo]):M Nat);let _ ← F src n0 (capG cap γ) src.items;pure (.ref n0):M D) h0))
 (z:∀ρ' h' H',Pre ρ0 ρ'->Ext X.K H0 H'->RH X.K ρ' h' H'->R (.ref h0.length) ρ' h' H'->RD X.K ρ' H' (.ref h0.length) (.ref Dd)->Q H') :
 runG (tGk X.K EX own g) (tT X.K EX k) (tbd Dd) (z43 cap σ) J Q (upd H0 Dd o0):=by
 have rP:RH X.K (ρ0++[Dd]) (h0++[oo]) (upd H0 Dd o0):=r0.pushO hD (ho _ _ _)
 have eP:Ext X.K H0 (upd H0 Dd o0):=Ext.upd (.inl hD)
 have f2:=(Fin.bind fin) (ρ0++[Dd]) _ (Pre.app _ _) eP rP
 have at0:(ρ0++[Dd])[h0.length]?=some Dd:=by rw [← r0.len];simp
 have non:∀(j:Nat),cap[j]?=some none->∀v,(z43 cap σ)[j]?≠some (some v):=λj e v hv=>by
  unfold z43 at hv
  rw [K0e,e] at hv
  simp at hv
 refine zn1 (A.nil src h0.length (capG cap γ)) (A.cons src h0.length (capG cap γ)) rP ((zx1 cap rg).mono (Pre.app _ _) eP) (λi ρ1 h1 H1 p e r good=>hJ i ρ1 h1 H1 ((Pre.app _ _).trans p) (eP.trans e) r good) (λj hj=>non j (hown j hj)) (hb non at0) ((Fin.bind f2).mono λ_ ρ5 h5 H5 p5 e5 r5 f5 rr ee pp=>?_)
 refine z ρ5 h5 H5 ((Pre.app _ _).trans pp) (eP.trans ee) rr (f5 ρ5 H5 (Pre.refl _) (Ext.refl _ _) rr) ?_
 simp only [RD]
 exact ⟨Dd,rfl,pp _ _ at0⟩
theorem zN6 {ce:Expr}{oo:O}{b:Nat->G->M Unit->M Unit}{F:Src->Nat->G->List D->M Unit}(A:CmA X EX ce sc tg iter ifs N' cap own mi g k oo b F) (hc:X.calm=true) (S:CS X sc N' cap) (hi:SI X EX tg iter mi) (hg:∀s H fp xe,SGk (X.comp N' sc s H fp xe) EX tg own g) (ht:∀s H fp xe,SCs (X.comp N' sc s H fp xe) EX ifs k)
 (hown:∀j∈own,cap[j]?=some none) (hs:∀x,K11 iter X.env x=pure x):SE X EX ce (eCm cap mi oo F):=by
 obtain ⟨mk,o0,bd,p,tbd,C,ho,hbd,hb⟩:=A.ex
 exact ⟨PE.imp (zR0 (g:=tGk X.K EX own g) (ti:=tT X.K EX k) C hc S hi.h (λs H fp xe=>(hg s H fp xe).h) (λs H fp xe=>(ht s H fp xe).h) hbd hs) λσ H Q ⟨ρ,γ,h,rel,fin⟩=>⟨ρ,γ,h,rel,(Fin.bind fin).mono λsrc ρ0 h0 H0 p0 e0 r0 f0 J hJ Dd hD =>
  zl6 A ho hb hown r0 (rel.g.mono p0 e0) hJ hD f0 λρ' h' H' p' e' r' q rd=>q _ rd⟩⟩
theorem s_cm {ce:Expr}{oo:O}{b:Nat->G->M Unit->M Unit}{F:Src->Nat->G->List D->M Unit}(i:Nat) {y:Str}{py spos:Pos}(A:CmA X EX ce sc tg iter ifs N' cap own mi g k oo b F) (hc:X.calm=true) (S:CS X sc N' cap) (hi:SI X EX tg iter mi) (hg:∀s H fp xe,SGk (X.comp N' sc s H fp xe) EX tg own g) (ht:∀s H fp xe,SCs (X.comp N' sc s H fp xe) EX ifs k)
 (hown:∀j∈own,cap[j]?=some none) (hN:X.N.Nodup) (hy:X.N[i]?=some y) (hl:X.env.scope.names.lookup y=some .local) (hsw:K1v ce (some (.Name y py)) spos.line X.env=pure true) (hs:∀x,K11 iter X.env x=pure x) :
 S1 X EX (.Assign [.Name y py] ce spos) (sAsg (eCm cap mi oo F) (gN i)):=by
 obtain ⟨mk,o0,bd,p,tbd,C,ho,hbd,hb⟩:=A.ex
 exact ⟨PS.imp (zQ5 (g:=tGk X.K EX own g) (ti:=tT X.K EX k) C hc S hi.h (λs H fp xe=>(hg s H fp xe).h) (λs H fp xe=>(ht s H fp xe).h) hbd hN hy hl hsw hs) λσ H D ⟨ρ,γ,h,rel,fin⟩=>⟨ρ,γ,h,rel,(Fin.bind (Fin.bind fin)).mono λsrc ρ0 h0 H0 p0 e0 r0 f0 J hJ Dd hD =>
  zl6 A ho hb hown r0 (rel.g.mono p0 e0) hJ hD f0 λρ' h' H' p' e' r' q rd=>(q ρ' H' (Pre.refl _) (Ext.refl _ _) r') _ (((rel.g.mono p0 e0).mono p' e').set i rd)⟩⟩
theorem z7s (he:∀s H fp xe,SE (X.comp N' sc s H fp xe) EX elt me):CmA X EX (.ListComp elt [⟨tg,iter,ifs,0⟩] sc pos) sc tg iter ifs N' cap own mi g k (.lst []) (λn0 γ1 K=>do let v ← me γ1;let _ ← y8 n0 v;K) (λsrc n0 γ=>z2K src g k me n0 γ) :=
 ⟨⟨_,_,_,_,bApp (tE X.K EX me),zv0,λρ H Dd=>⟨[],w6,RDs.nil⟩,λD s H fp xe=>z9s (he s H fp xe).h,λ_ hD=>zp4 hD⟩,λ_ _ _=>rfl,λ_ _ _ _ _=>rfl⟩
theorem J9 (hc:X.calm=true) (S:CS X sc N' cap) (hi:SI X EX tg iter mi) (hg:∀s H fp xe,SGk (X.comp N' sc s H fp xe) EX tg own g) (ht:∀s H fp xe,SCs (X.comp N' sc s H fp xe) EX ifs k)
 (he:∀s H fp xe,SE (X.comp N' sc s H fp xe) EX elt me) (hown:∀j∈own,cap[j]?=some none:=by decide) (hs:∀x,K11 iter X.env x=pure x:=by intro _;rfl):SE X EX (.ListComp elt [⟨tg,iter,ifs,0⟩] sc pos) (Y3 cap mi g k me) :=
 zN6 (z7s he) hc S hi hg ht hown hs
noncomputable def z2G (i:Nat) (cap:List (Option Nat)) (mi:G->M Src) (g:D->G->M G) (k:G->M Bool) (me:G->M D):G->M Out:=sAsg (Y3 cap mi g k me) (gN i)
theorem z4K (i:Nat) {y:Str}{py spos:Pos}(hc:X.calm=true) (S:CS X sc N' cap) (hi:SI X EX tg iter mi) (hg:∀s H fp xe,SGk (X.comp N' sc s H fp xe) EX tg own g) (ht:∀s H fp xe,SCs (X.comp N' sc s H fp xe) EX ifs k)
 (he:∀s H fp xe,SE (X.comp N' sc s H fp xe) EX elt me) (hN:X.N.Nodup) (hy:X.N[i]?=some y:=by rfl) (hl:X.env.scope.names.lookup y=some .local:=by rfl) (hown:∀j∈own,cap[j]?=some none:=by decide)
 (hsw:K1v (.ListComp elt [⟨tg,iter,ifs,0⟩] sc pos) (some (.Name y py)) spos.line X.env=pure true:=by rfl) (hs:∀x,K11 iter X.env x=pure x:=by intro _;rfl) :
 S1 X EX (.Assign [.Name y py] (.ListComp elt [⟨tg,iter,ifs,0⟩] sc pos) spos) (z2G i cap mi g k me) :=
 s_cm i (z7s he) hc S hi hg ht hown hN hy hl hsw hs
end
def csOk (osc:Scope) (N:List Str) (sc:Scope) (N':List Str) (cap:List (Option Nat)):Bool :=
 (sc.kind==.function)&&sc.names.all (λy=>y.2 != .cell)&&sc.names.all (λx=>x.2 != .local||sc.names.lookup x.1==some .local) &&
 sc.names.all (λx=>x.2 != .free||(osc.names.lookup x.1==some .cell||osc.names.lookup x.1==some .free))&&(cap.length==N'.length) &&
 (K8 cap.length).all λi=>match cap[i]? with
  | some (some j)=>(match N'[i]?,N[j]? with
   | some x,some y=>x==y&&sc.names.lookup x==some .free
   | _,_=>false)
  | _=>true
theorem z0p {X:Cx}{sc:Scope}{N':List Str}{cap:List (Option Nat)}(h:csOk X.env.scope X.N sc N' cap=true):CS X sc N' cap:=by
 unfold csOk at h
 simp only [K0j] at h
 obtain ⟨⟨⟨⟨⟨h1,h2⟩,h3⟩,h4⟩,h5⟩,h6⟩:=h
 refine ⟨by simpa using h1,λy hy=>?_,λx hx hl=>?_,λx hx hf=>?_,by simpa using h5,λi j e=>?_⟩
 ·have:=K1o.mp h2 y hy
  simpa using this
 ·have:=K1o.mp h3 x hx
  simpa [hl] using this
 ·have:=K1o.mp h4 x hx
  have:(X.env.scope.names.lookup x.1==some .cell||X.env.scope.names.lookup x.1==some .free)=true:=by simpa [hf] using this
  rw [K22] at this
  rcases this with z|z
  ·exact .inl (show X.env.scope.names.lookup x.1=_ by simpa using z)
  ·exact .inr (show X.env.scope.names.lookup x.1=_ by simpa using z)
 ·have hi:i<cap.length:=(K5.mp e).1
  have:=K1o.mp h6 i (K0r.mpr hi)
  rw [e] at this
  dsimp only at this
  cases e1:N'[i]? with
  | none=>rw [e1] at this;cases this
  | some x =>
   cases e2:X.N[j]? with
   | none=>rw [e1,e2] at this;cases this
   | some y =>
    rw [e1,e2] at this
    simp only [K0j] at this
    have exy:x=y:=by simpa using this.1
    subst exy
    exact ⟨x,rfl,rfl,by simpa using this.2⟩
def DefAt (K:K1) (x:Str) (st:Stmt):Prop:=∃f fd,K7v K K2h x=some (.(r f))/\Fun K x x st f fd
theorem defAt_mk {K:K1}{x:Str}{st:Stmt}{f:Addr}{oc:Value}{od an:Option Addr}{sl:Array (Option Value)}{kV dc pm cd ct:Value}(a:K7v K K2h x=some (.(r f)))
 (l:K.lookup f=some ⟨oc,od,.func (K3f x x (z2I st) (z0J st) (y0 st) .none kV dc pm an cd ct),sl⟩) (c:K3t K cd x=true) (k:K5h K (.ref f)=true):DefAt K x st :=
 ⟨f,_,a,zN3 l c k⟩
structure Cst (K:K1) (mg:Str->Option Value) (x:Str) (d:D):Prop where
 ex:∃v u,mg x=some u/\RelV v u/\∀ρ H,RD K ρ H d v
theorem cst_int {K:K1}{mg:Str->Option Value}{x:Str}{i:Int}{t:Tok}(h:mg x=some (.int i t)):Cst K mg x (.int i):=⟨.int i,_,h,⟨t,rfl⟩,λ_ _=>by simp [RD]⟩
def relF:D->Value->Bool
 | .non,.none=>true
 | .bl a,.bool b=>a==b
 | .int a,.int b _=>a==b
 | .str a,.str b _=>a==b
 | _,_=>false
def zf4:List D->List Value->Bool
 | [],[]=>true
 | d::ds,u::us=>relF d u&&zf4 ds us
 | _,_=>false
def toV:D->V
 | .non=>.non
 | .bl b=>.bl b
 | .int i=>.int i
 | .str x=>.str x
 | _=>.non
theorem zq1 {K:K1}{ρ:List Addr}{H:Hp}{d:D}{u:Value}(h:relF d u=true):RelV (toV d) u/\RD K ρ H d (toV d):=by
 cases d<;>cases u<;>first
  | (have h':false=true:=h;cases h')
  | skip
 case non.none=>exact ⟨rfl,by simp [RD,toV]⟩
 case bl.bool a b =>
  have:a=b:=by simpa [relF] using h
  subst this;exact ⟨rfl,by simp [RD,toV]⟩
 case int.int a b t =>
  have:a=b:=by simpa [relF] using h
  subst this;exact ⟨⟨t,rfl⟩,by simp [RD,toV]⟩
 case str.str a b t =>
  have:a=b:=by simpa [relF] using h
  subst this;exact ⟨⟨t,rfl⟩,by simp [RD,toV]⟩
theorem z7F {K:K1}{ρ:List Addr}{H:Hp}:∀{ds:List D}{us:List Value},zf4 ds us=true->Vals (ds.map toV) us/\RDs K ρ H ds (ds.map toV)
 | [],[],_=>⟨.nil,RDs.nil⟩
 | [],_::_,h=>by cases h
 | _::_,[],h=>by cases h
 | d::ds,u::us,h=>by
  have h':(relF d u&&zf4 ds us)=true:=h
  rw [K0j] at h'
  obtain ⟨a1,a2⟩:=zq1 (K:=K) (ρ:=ρ) (H:=H) h'.1
  obtain ⟨b1,b2⟩:=z7F (K:=K) (ρ:=ρ) (H:=H) h'.2
  exact ⟨.cons a1 b1,RDs.cons a2 b2⟩
theorem cst_tup {K:K1}{mg:Str->Option Value}{x:Str}{a:Addr}{ds:List D}{its:Array Value}{n:Nat}{sl:Array (Option Value)}(h:mg x=.(r a)) (hk:K.lookup a=some ⟨.type "tuple",none,.seq its n,sl⟩)
 (hr:zf4 ds its.toList=true) (hz:its.size≤sizeLine):Cst K mg x (.tup ds):=by
 refine ⟨.ref a,_,h,rfl,λρ H=>?_⟩
 obtain ⟨h1,h2⟩:=z7F (K:=K) (ρ:=ρ) (H:=H) hr
 simp only [RD]
 exact ⟨a,_,rfl,.inr ⟨_,its,n,hk,⟨rfl,rfl⟩,rfl,hz,h1⟩,h2⟩
theorem zm5 {X:Cx}{EX:XX}{x:Str}{d:D}{pos:Pos}(C:Cst X.K X.mg x d) (hg:Gl X x) (hd:(x==("__debug__":Str))=false:=by decide):SE X EX (.Name x pos) (λ_=>pure d):=by
 obtain ⟨v,u,h1,h2,h3⟩:=C.ex
 exact zt5 hg h1 h2 h3 hd
section
variable {prog:K0n}{w:World}{A:Around}{E:Value->Shared->Prop}{s:Shared}
theorem zy9 {it t:Addr}{i:Nat}{items:Array Value}{x:Value}{Q:Value->Shared->Prop}(hit:s.heap.IsTupleIter it t i) (ht:s.heap.IsTuple t items) (hx:items[i]?=some x)
 (hQ:∀h',h'.IsTupleIter it t (i+1)->K2z it s.heap h'->Q x { s with heap:=h' }):wpAny (model prog w) A (K3c (.ref it)) Q E s:=by
 obtain ⟨oi,e1,c1,d1⟩:=id hit
 obtain ⟨ot,e2,_,nt,d2⟩:=ht
 unfold K3c
 refine K2 (K3x (name:=K4m "__next__") hit.typeIs K2d
  (K28 K2d hit.typeIs K5e ?_ (K56 _)))
 show wpAny _ _ (field (.ref it) 0 >>= _) _ _ s
 refine K2 (K8q e1 d1 (x:=.ref t) rfl ?_)
 show wpAny _ _ (if (K1n t==K2k)=true then _ else _) _ _ s
 have nn:¬ (K1n t==K2k)=true:=K0y
 rw [if_neg nn]
 show wpAny _ _ (field (.ref it) 1 >>= _) _ _ s
 refine K2 (K8q e1 d1 (x:=.int i 0) rfl ?_)
 show wpAny _ _ (Z01 (.ref t) >>= _) _ _ s
 refine K2 (K6j e2 d2 ?_)
 simp only [K0k,hx]
 refine K2 (K2q e1 d1 (by simp) (K9 ⟨x,rfl,K9 (hQ _ ?_ (K1b ..))⟩))
 exact ⟨_,K3b _ e1 (K5s (K55 d1 _)),(Obj.cls_mapFields ..).trans c1,by
  rw [K55 d1];simp [rawInt]⟩
theorem zM0 {it t:Addr}{i:Nat}{items:Array Value}{Q:Value->Shared->Prop}(hh:A.handled=none) (hit:s.heap.IsTupleIter it t i) (ht:s.heap.IsTuple t items) (hx:items[i]?=none)
 (hE:∀h' e,Z0a it s.heap h'->(∃o,h'.get? e=some o/\o.cls=.type "StopIteration")->E (.ref e) { s with heap:=h' }):wpAny (model prog w) A (K3c (.ref it)) Q E s:=by
 obtain ⟨oi,e1,c1,d1⟩:=id hit
 obtain ⟨ot,e2,_,nt,d2⟩:=ht
 unfold K3c
 refine K2 (K3x (name:=K4m "__next__") hit.typeIs K2d
  (K28 K2d hit.typeIs K5e ?_ (K56 _)))
 show wpAny _ _ (field (.ref it) 0 >>= _) _ _ s
 refine K2 (K8q e1 d1 (x:=.ref t) rfl ?_)
 show wpAny _ _ (if (K1n t==K2k)=true then _ else _) _ _ s
 have nn:¬ (K1n t==K2k)=true:=K0y
 rw [if_neg nn]
 show wpAny _ _ (field (.ref it) 1 >>= _) _ _ s
 refine K2 (K8q e1 d1 (x:=.int i 0) rfl ?_)
 show wpAny _ _ (Z01 (.ref t) >>= _) _ _ s
 refine K2 (K6j e2 d2 ?_)
 simp only [K0k,hx]
 refine K2 (K6i (K2 (K2q e1 d1 (by simp) ?_)))
 show wpAny _ _ (newExc (.type "StopIteration") [] >>= _) _ _ _
 refine K2 ?_
 simp only [newExc,newTuple]
 refine K2 (K1i ?_ (by size_fits))
 refine K2 (m:=K6k _ _) (K8p (a:=K2k) (by first|rfl|(simp only [K6k];rfl)) ?_)
 refine K1i ?_ (by size_fits)
 simp only [raiseNew]
 refine K2 (wpAny_handled ?_)
 first|rw [show A.in1.handled=none from hh]|rw [hh]
 refine K2 (K9 (wpAny_throw ?_))
 exact hE _ _ (((K1b ..).extBut.push _).push _) ⟨_,K05 _ rfl,rfl⟩
end
theorem zE6 {X:Cx}{pins:List (Addr×Obj)}{σ:L2.St}{H:Hp}{s:Shared}{ch:List Addr}{T:Addr}{vs:List V}{its:List Value}{h2:Heap}{t:Nat}(I:L2.Inv X pins σ H s)
 (hf:∀b∈ch,FpOk X pins H b) (kp:∀b o,b∉ch->s.heap.get? b=some o->h2.get? b=some o) (hT:s.heap.objs.size≤T) (tup:IsTup0 h2 T its.toArray) (rv:Vals vs its) (hz:vs.length≤sizeLine) :
 L2.Inv X pins σ (upd H T (.tup vs)) { s with heap:=h2,toks:=t }:=by
 have hn:H T=none:=I.hok.fresh hT
 have ne:∀{b:Addr} {o:Obj},s.heap.get? b=some o->b≠T:=λe=>K0p (K0l (K06 e) hT)
 refine I.step (g':=s.gens) (d':=s.drawn) (ch:=ch) (λb hb=>⟨(hf b hb).2.2.2.1,(hf b hb).2.1,(hf b hb).2.2.2.2.1,(hf b hb).2.2.2.2.2⟩) (λb o _ _ hc e _=>kp b o hc e) (λb o _ _ hc e _=>⟨o.slots,kp b o hc e⟩)
  (λb o _ e n=>by rw [J6 (ne e)];exact n) (λb o hc e=>⟨o,kp b o hc e⟩) (λb xs e=>by rw [J6 (Y0 e hn)];exact e) (λb o u e=>by rw [J6 (Y0 e hn)];exact e)
  (λb ps e=>⟨#[],by rw [J6 (Y0 e hn),e];simp⟩) (λm hm=>?_) (λb u e=>?_) I.bare
 ·obtain ⟨o,es,ep,q,r⟩:=hm
  exact ⟨o,es,ep,kp _ o (λz=>(hf _ z).2.1 rfl) q,r⟩
 ·by_cases hb:b=T
  ·subst hb
   rw [w6] at e
   cases e
   exact ⟨hz,its,rv,tup⟩
  ·rw [J6 hb] at e
   refine (I.hok b u e).stay (λc v hc q=>kp c v (λz=>?_) q) (λc q=>?_) λc xs q=>?_
   ·rcases hc with y|y
    ·rw [y] at z;rw [(hf b z).1] at e;cases e
    ·rw [(hf c z).1] at y;cases y
   ·rw [J6 (Y0 q hn)];exact q
   ·rw [J6 (Y0 q hn)];exact q
section
variable {X:Cx}{EX:XX}{a b:Expr}{elts:List Expr}{kk:Nat}{p pos pt:Pos}{ma mb:G->M D}
end
def Its (x:Str):It:=⟨λi _=>i<x.cps.size,λi H v H'=>H'=H/\∃c,x.cps[i]?=some c/\v=.str ⟨#[c]⟩,λi _=>x.cps.size=i⟩
theorem z7O {P:K0n}{w:World}{K:K1}{tg:Expr}{it:Addr}{x:Str}{t:Tok}{T:String}
 (W:∀A:Around,A.handled=none->Walks P w A it [it] [it] x.cps.size (SignAt x) (λi h=>h.IsStrIter it T x t i))
 (hself:∀(A:Around) (i:Nat) (s:Shared) (Q:Value->Shared->Prop) (E:Value->Shared->Prop),s.heap.IsStrIter it T x t i->Q (.ref it) s->wpAny (model P w) A (pyIter (.ref it)) Q E s):Turn P w K tg (Its x) [it] it (λi h=>h.IsStrIter it T x t i) where
 mem:=by simp
 obj:=λi h st b hb=>by
  have e:b=it:=by simpa using hb
  subst e
  obtain ⟨o,e1,c1,d1⟩:=st
  exact ⟨o,e1,λv z=>by rw [d1] at z;cases z⟩
 keep:=λi h h' st k=>let ⟨o,e1,r⟩:=st;⟨o,k it (by simp) o e1,r⟩
 item:=by
  intro X hP hw hK hc i pins s σ H E I hf st hg
  subst hP hw hK
  obtain ⟨f0,f1,f2,f3,f4,f5⟩:=hf it (by simp)
  refine (W X.A (I.ok.hd hc)).item i s _ _ hg st λv h' tk hv st' kp=>?_
  obtain ⟨c,u,q1,rfl⟩:=hv
  have I1:L2.Inv X pins σ H { s with heap:=h',toks:=tk }:=I.turned (λb o hb e=>kp b o (by simpa using hb) e) f0 f1 f3 f4 f5
  refine ⟨_,rfl,?_⟩
  have go:K48 tg (.ref it) (K8v ⟨#[c]⟩ u)=pure ():=by cases tg<;>rfl
  rw [go]
  exact K9 ⟨.str ⟨#[c]⟩,H,I1,⟨_,rfl⟩,⟨rfl,c,q1,rfl⟩,st',λb hb=>(hf b hb).1⟩
 done:=by
  intro X hP hw hK hc i pins s σ H E I hf st hg
  subst hP hw hK
  obtain ⟨f0,f1,f2,f3,f4,f5⟩:=hf it (by simp)
  have hg':x.cps.size=i:=hg
  subst hg'
  exact (W X.A (I.ok.hd hc)).done s _ _ st λh' tk kp=>⟨rfl,I.turned (λb o hb e=>kp b o (by simpa using hb) e) f0 f1 f3 f4 f5⟩
 self:=hself
section
variable {X:Cx}{EX:XX}{a b:Expr}{tg:Expr}{p pos p2:Pos}{ma mb:G->M D}
def zQ0 (ta:TE):TI:=λσ H R=>ta σ H λv H1=>∃x,v=.str x/\R (Its x) H1
theorem zI6 {ta:TE}(ha:PE X a ta):PI X tg a (zQ0 ta):=by
 intro pins s σ H R I h
 refine thn (ha pins s σ H _ I h) λv s1 ⟨y,H1,I1,r1,q1⟩=>?_
 obtain ⟨x,rfl,q⟩:=q1
 obtain ⟨t,rfl⟩:=r1
 have fo:∀b∈[s1.heap.objs.size],FpOk X pins H1 b:=λb hb=>by
  have e:b=s1.heap.objs.size:=by simpa using hb
  subst e
  exact I1.fpOk (K01 _) (I1.hok.fresh (K01 _))
 cases ha':x.cps.all (·<128)
 ·refine wpAny_pyIter_wide ha' ?_
  exact ⟨s1.heap.objs.size,[s1.heap.objs.size],_,_,H1,rfl,I1.kept (t':=s1.toks) λb o e=>K6 _ e,z7O (λA hA=>Walks.strWide hA _ x t) (λA i s Q E st h=>wpAny_pyIter_striter_wide st h),⟨_,K05 _ rfl,rfl,rfl⟩,fo,q⟩
 ·refine wpAny_pyIter_ascii ha' ?_
  exact ⟨s1.heap.objs.size,[s1.heap.objs.size],_,_,H1,rfl,I1.kept (t':=s1.toks) λb o e=>K6 _ e,z7O (λA hA=>Walks.strAscii hA _ x t) (λA i s Q E st h=>wpAny_pyIter_striter_ascii st h),⟨_,K05 _ rfl,rfl,rfl⟩,fo,q⟩
def z1N (x:Str):List D:=x.cps.toList.map λc=>.str ⟨#[c]⟩
def iStr (ma:G->M D):G->M Src:=λγ=>do
 let x ← ma γ
 match x with
 | .str z=>pure (.con (z1N z))
 | _=>bad
theorem zm2 (hc:X.calm=true) (ha:SE X EX a ma):SI X EX tg a (iStr ma) :=
 ⟨PI.imp (zI6 ha.h) λσ H R ⟨ρ,γ,h,rel,fin⟩=>⟨ρ,γ,h,rel,(Fin.bind fin).mono λx ρ1 h1 H1 p1 e1 r1 f1 v rv=>by
  cases x<;>first|exact (show False from f1).elim|skip
  rename_i z
  simp only [RD] at rv
  subst rv
  refine ⟨z,rfl,f1 ρ1 H1 (Pre.refl _) (Ext.refl _ _) r1 _ λi ρ2 h4 H2 p2 e2 r2 _=>⟨λd hd=>?_,λhi=>?_⟩⟩
  ·have hd':(z1N z)[i]?=some d:=hd
   unfold z1N at hd'
   rw [K0e] at hd'
   cases e:z.cps.toList[i]? with
   | none=>rw [e] at hd';cases hd'
   | some c =>
    rw [e] at hd'
    cases hd'
    have e':z.cps[i]?=some c:=by simpa using e
    refine ⟨?_,λy H3 ⟨z1,c',z2,z3⟩=>?_⟩
    ·have:=(K5.mp e).1
     exact (show i<z.cps.size by simpa using this)
    ·subst z1
     rw [e'] at z2;cases z2
     subst z3
     exact ⟨by simp [RD],r2,Ext.refl _ _⟩
  ·have hi':(z1N z).length=i:=hi
   unfold z1N at hi'
   rw [K00] at hi'
   exact (show z.cps.size=i by simpa using hi')⟩⟩
def cutD (xs:List D) (lo hi:Option Int):List D:=(xs.drop (HT.sIx xs.length 0 lo)).take (HT.sIx xs.length xs.length hi - HT.sIx xs.length 0 lo)
def fSl:D->Option Int->Option Int->M D
 | .tup xs,lo,hi=>pure (.tup (cutD xs lo hi))
 | .fl xs,lo,hi=>newL (cutD xs lo hi)
 | .ref n,lo,hi=>do
  let xs ← getL n
  newL (cutD xs lo hi)
 | _,_,_=>bad
def zP9:G->M (Option Int):=λ_=>pure none
def zT2 (ma:G->M D):G->M (Option Int):=λγ=>do
 let x ← ma γ
 match x with
 | .int i=>pure (some i)
 | _=>bad
def zO1 (ma:G->M D) (ml mh:G->M (Option Int)):G->M D:=λγ=>do
 let x ← ma γ
 let lo ← ml γ
 let hi ← mh γ
 fSl x lo hi
end
def leS (a b:Str):Bool:=!decide (b.cps.toList<a.cps.toList)
theorem z6q {a b c:Str}(h1:leS a b=true) (h2:leS b c=true):leS a c=true:=by
 simp only [leS,K5k,decide_eq_false_iff_not] at *
 exact K4j.mpr (List.le_trans (K4j.mp h1) (K4j.mp h2))
theorem z9l (a b:Str):(leS a b||leS b a)=true:=by
 simp only [leS,K22,K5k,decide_eq_false_iff_not]
 rcases List.le_total a.cps.toList b.cps.toList with h|h
 ·exact .inl (K4j.mpr h)
 ·exact .inr (K4j.mpr h)
theorem z99 {a b:Str}(h:a.cps.toList=b.cps.toList):a=b:=by
 cases a;cases b
 congr 1
 exact Array.toList_inj.mp h
theorem zf9 {a b:Str}(h1:leS a b=true) (h2:leS b a=true):a=b:=by
 simp only [leS,K5k,decide_eq_false_iff_not] at *
 exact z99 (Z05 (K4j.mp h1) (K4j.mp h2))
def z1F (l:List Str):List Str:=l.mergeSort leS
theorem z8C (l:List Str):(z1F l).Perm l:=K3q l leS
theorem zk3 (l:List Str):(z1F l).Pairwise (λa b=>leS a b=true):=K5b (le:=leS) (λa b c h1 h2=>z6q h1 h2) z9l l
theorem z5I:∀(p:Str) (l:List Str),risingS p l=true->(p::l).Pairwise (λa b=>leS a b=true)
 | p,[],_=>by simp
 | p,x::r,h=>by
  have h':(!ltCps x.cps.toList p.cps.toList&&risingS x r)=true:=h
  rw [K0j,ltCps_eq] at h'
  have ih:=z5I x r h'.2
  have px:leS p x=true:=h'.1
  refine List.pairwise_cons.mpr ⟨λy hy=>?_,ih⟩
  rcases K0v.mp hy with rfl|hy
  ·exact px
  ·exact z6q px ((List.pairwise_cons.mp ih).1 y hy)
theorem zd7 {l l':List Str}(p:l'.Perm l) (h:sortedS l'=true):l'=z1F l:=by
 have pw:l'.Pairwise (λa b=>leS a b=true):=by
  cases l' with
  | nil=>exact .nil
  | cons x r=>exact z5I x r h
 exact K7e (λa b _ _=>zf9) pw (zk3 l) (p.trans (z8C l).symm)
def leI (a b:Int):Bool:=decide (a≤b)
def sortI (l:List Int):List Int:=l.mergeSort leI
theorem sortI_perm (l:List Int):(sortI l).Perm l:=K3q l leI
theorem z7u (l:List Int):(sortI l).Pairwise (λa b=>a≤b):=by
 have:=K5b (le:=leI) (λa b c h1 h2=>by simp only [leI,decide_eq_true_eq] at *;omega) (λa b=>by simp only [leI,K22,decide_eq_true_eq];omega) l
 exact this.imp λh=>by simpa [leI] using h
theorem z58 {l l':List Int}(p:l'.Perm l) (h:l'.Pairwise (·≤·)):l'=sortI l :=
 K7e (λa b _ _ h1 h2=>Int.le_antisymm h1 h2) h (z7u l) (p.trans (sortI_perm l).symm)
def z3H:List D->Option (List Str)
 | []=>some []
 | .str b::r=>(z3H r).map (b::·)
 | _::_=>none
def z2x:List D->Option (List Int)
 | []=>some []
 | .int b::r=>(z2x r).map (b::·)
 | _::_=>none
def z1B:List D->M D
 | [.ref n]=>do
  let xs ← getL n
  if xs.length<64 then (match z3H xs with
   | some ss=>newL ((z1F ss).map .str)
   | none=>(match z2x xs with
    | some ns=>newL ((sortI ns).map .int)
    | none=>bad)) else bad
 | _=>bad
theorem z76 {K:K1}{ρ:List Addr}{H:Hp}:∀{xs:List D}{bs:List Str}{vs:List V},z3H xs=some bs->RDs K ρ H xs vs->vs=bs.map V.str
 | [],bs,vs,e,r=>by simp only [RDs] at r;cases e;subst r;rfl
 | x::xs,bs,vs,e,r=>by
  simp only [RDs] at r
  obtain ⟨v,r2,rfl,h1,h2⟩:=r
  cases x<;>first|(simp only [z3H] at e;cases e;done)|skip
  rename_i b
  simp only [z3H] at e
  obtain ⟨bs',e1,rfl⟩:=K10.mp e
  simp only [RD] at h1
  subst h1
  rw [z76 e1 h2];rfl
theorem z3M {K:K1}{ρ:List Addr}{H:Hp}:∀{xs:List D}{bs:List Int}{vs:List V},z2x xs=some bs->RDs K ρ H xs vs->vs=bs.map V.int
 | [],bs,vs,e,r=>by simp only [RDs] at r;cases e;subst r;rfl
 | x::xs,bs,vs,e,r=>by
  simp only [RDs] at r
  obtain ⟨v,r2,rfl,h1,h2⟩:=r
  cases x<;>first|(simp only [z2x] at e;cases e;done)|skip
  rename_i b
  simp only [z2x] at e
  obtain ⟨bs',e1,rfl⟩:=K10.mp e
  simp only [RD] at h1
  subst h1
  rw [z3M e1 h2];rfl
theorem z7x:∀{bs:List Str}{us:List Value},Vals (bs.map V.str) us->StrsAre us bs
 | [],us,h=>by cases h;exact .nil
 | b::bs,us,h=>by
  cases h with
  | cons h1 h2=>obtain ⟨t,rfl⟩:=h1;exact .cons b t (z7x h2)
theorem z7X:∀{us:List Value}{bs:List Str},StrsAre us bs->Vals (bs.map V.str) us
 | _,_,.nil=>.nil
 | _,_,.cons y t r=>.cons ⟨t,rfl⟩ (z7X r)
theorem z5q:∀{us:List Value}{bs:List Int},K5m us bs->Vals (bs.map V.int) us:=λh=>z4n h
section
variable {X:Cx}{EX:XX}{a:Expr}{p pos:Pos}{mr:G->M (List D)}
theorem z6X:z2z X (.builtin "sorted") (λxs H Q=>∃l ys,xs=[.ref l]/\SqL X.K H l ys/\ys.length<64 /\
 ((∃ss,ys=ss.map V.str/\∀q,H q=none->Q (.ref q) (upd H q (.lst ((z1F ss).map V.str))))∨(∃ns,ys=ns.map V.int/\∀q,H q=none->Q (.ref q) (upd H q (.lst ((sortI ns).map V.int)))))):=by
 intro pins s σ H xs us Q I r h
 obtain ⟨l,ys,rfl,hq,h64,h⟩:=h
 obtain ⟨u,rfl,ru⟩:=vals1 r
 cases ru
 obtain ⟨its,rv,pl,hz⟩:=I.list hq
 have hl:=rv.length
 have fin:∀(out:Array Value) (zs:List V),Vals zs out.toList->zs.length=ys.length->(∀q,H q=none->Q (.ref q) (upd H q (.lst zs)))->EP X pins σ Q (.ref (s.heap.objs.size+1)) { s with heap:=sortedAll s.heap its out }:=λout zs h1 h2 h3=>by
  obtain ⟨e,he⟩:=sortedAll_at s.heap its out
  refine ⟨.ref (s.heap.objs.size+1),_,I.laid (t':=s.toks) (o:=.lst zs) (λb o q=>sortedAll_old q) (K4g _) ⟨by omega,out.toList,e,h1,?_⟩,rfl,h3 _ (I.hok.fresh (K4g _))⟩
  rw [he]
 rcases h with ⟨ss,rfl,h⟩|⟨ns,rfl,h⟩
 ·refine sorted_strs pl.isList (z7x rv) (by omega) λout ss' h1 h2 h3=>?_
  have e:=zd7 h2 h3
  subst e
  exact fin out _ (z7X h1) (by rw [K00,K00,h2.length_eq]) h
 ·have hi:K5m its ns:=L2.intsAre_of rv
  refine sorted_ints pl.isList hi (by omega) λout ns' h1 h2 h3=>?_
  have e:=z58 h2 h3
  subst e
  exact fin out _ (z5q h1) (by rw [K00,K00,h2.length_eq]) h
theorem z7I {K:K1}{ρ:List Addr}{H:Hp}:∀(l:List Str),RDs K ρ H (l.map .str) (l.map V.str)
 | []=>RDs.nil
 | x::r=>RDs.cons (by simp [RD]) (z7I r)
theorem z3J {K:K1}{ρ:List Addr}{H:Hp}:∀(l:List Int),RDs K ρ H (l.map .int) (l.map V.int)
 | []=>RDs.nil
 | x::r=>RDs.cons (by simp [RD]) (z3J r)
theorem z9E:AR X.K EX (λxs H Q=>∃l ys,xs=[.ref l]/\SqL X.K H l ys/\ys.length<64 /\
 ((∃ss,ys=ss.map V.str/\∀q,H q=none->Q (.ref q) (upd H q (.lst ((z1F ss).map V.str))))∨(∃ns,ys=ns.map V.int/\∀q,H q=none->Q (.ref q) (upd H q (.lst ((sortI ns).map V.int)))))) z1B:=by
 intro ρ h H ds vs Q r rd fin
 unfold z1B at fin
 split at fin
 ·rename_i n
  obtain ⟨v,rfl,rv⟩:=rds1 rd
  have f1:=Fin.bind fin
  cases e:getL n h with
  | bad=>rw [e] at f1;exact f1.elim
  | err z hz=>exact (z0T e).elim
  | ok xs h1 =>
   obtain ⟨rfl,q1⟩:=z0U e
   rw [e] at f1
   have f2:=f1 ρ H (Pre.refl _) (Ext.refl _ _) r
   dsimp only at f2
   simp only [RD] at rv;obtain ⟨q,rfl,h2⟩:=rv
   obtain ⟨a1,n1,ws,o1,d1⟩:=r.at q1
   rw [h2] at n1;cases n1
   by_cases hl:xs.length<64
   ·rw [if_pos hl] at f2
    refine ⟨q,ws,rfl,SqL.of o1,by rw [← d1.length];exact hl,?_⟩
    cases eb:z3H xs with
    | some ss =>
     rw [eb] at f2
     have f3:FE X.K EX ρ H Q (newL ((z1F ss).map .str) h1):=f2
     unfold newL at f3
     split at f3
     ·exact .inl ⟨ss,z76 eb d1,λp hp=>FE.lst f3 r (z7I _) hp⟩
     ·exact f3.elim
    | none =>
     rw [eb] at f2
     cases en:z2x xs with
     | some ns =>
      rw [en] at f2
      have f3:FE X.K EX ρ H Q (newL ((sortI ns).map .int) h1):=f2
      unfold newL at f3
      split at f3
      ·exact .inr ⟨ns,z3M en d1,λp hp=>FE.lst f3 r (z3J _) hp⟩
      ·exact f3.elim
     | none=>rw [en] at f2;exact (show False from f2).elim
   ·rw [if_neg hl] at f2;exact (show False from f2).elim
 ·exact fin.elim
theorem z6j (hc:X.calm=true) (hg:Gl X "sorted") (hm:X.mg "sorted" = none) (ha:SA X EX [a] mr) (he:K0b [a] X.env=[(false,eval a X.env)]:=by rfl):SE X EX (.Call (.Name "sorted" p) [a] [] pos) (Z6 z1B mr) :=
 z1y (z1v z6X hg hm boot_sorted ha.h (by decide) (by decide) he rfl) z9E
end
@[simp] theorem bindM {α β:Type} (m:M α) (f:α->M β) (h:AH):(m >>= f) h=match m h with
 | .ok a h1=>f a h1
 | .err x h1=>.err x h1
 | .bad=>.bad:=rfl
@[simp] theorem pureM {α:Type} (a:α) (h:AH):(Z0t a:M α) h=.ok a h:=rfl
@[simp] theorem iteM {α:Type} {c:Prop} [Decidable c] (a b:M α) (h:AH):(if c then a else b) h=if c then a h else b h:=by split<;>rfl
theorem Rise.lt {xs:Array Nat}(h:Rise xs) {i j a b:Nat}(ha:xs[i]?=some a) (hb:xs[j]?=some b) (hij:i<j):a<b:=by
 obtain ⟨h1,e1⟩:=K35.mp ha
 obtain ⟨h2,e2⟩:=K35.mp hb
 have:=K6q.mp h i j (by simpa using h1) (by simpa using h2) hij
 simp only [Array.getElem_toList] at this
 rw [e1,e2] at this
 exact this
theorem z4X {xs:Array Nat}(h:Rise xs) (j:Nat):∀(fuel lo hi:Nat),hi - lo≤fuel->lo≤hi->hi≤xs.size->(∀(i:Nat) a,i<lo->xs[i]?=some a->a<j)->(∀(i:Nat) a,hi≤i->xs[i]?=some a->j≤a) ->
 (K2s xs j fuel lo hi)≤xs.size/\(∀(i:Nat) a,i<K2s xs j fuel lo hi->xs[i]?=some a->a<j)/\∀(i:Nat) a,K2s xs j fuel lo hi≤i->xs[i]?=some a->j≤a
 | 0,lo,hi,hf,hl,hs,h1,h2=>by
  have:hi=lo:=by omega
  subst this
  exact ⟨by simp only [K2s];omega,by simpa only [K2s] using h1,by simpa only [K2s] using h2⟩
 | fuel+1,lo,hi,hf,hl,hs,h1,h2=>by
  rw [K2s]
  split
  ·rename_i hlt
   have hm:(lo+hi) / 2<xs.size:=by omega
   have e:xs[(lo+hi) / 2]?=some xs[(lo+hi) / 2]:=K1c hm
   have ed:xs.getD ((lo+hi) / 2) j=xs[(lo+hi) / 2]:=by rw [Array.getD_eq_getD_getElem?,e];rfl
   dsimp only
   rw [ed]
   split
   ·rename_i q
    refine z4X h j fuel _ hi (by omega) (by omega) hs (λi a hi' ha=>?_) h2
    by_cases z:i=(lo+hi) / 2
    ·subst z;rw [e] at ha;cases ha;exact q
    ·exact K9h (h.lt ha e (by omega)) q
   ·rename_i q
    refine z4X h j fuel lo _ (by omega) (by omega) (by omega) h1 (λi a hi' ha=>?_)
    by_cases z:i=(lo+hi) / 2
    ·subst z;rw [e] at ha;cases ha;omega
    ·have:=h.lt e ha (by omega);omega
  ·exact ⟨by omega,h1,λi a hi' ha=>h2 i a (by omega) ha⟩
theorem z3r {xs:Array Nat}(h:Rise xs) (j:Nat):K0q xs j≤xs.size/\(∀(i:Nat) a,i<K0q xs j->xs[i]?=some a->a<j)/\∀(i:Nat) a,K0q xs j≤i->xs[i]?=some a->j≤a:=by
 unfold K0q
 refine z4X h j xs.size 0 xs.size (by omega) (by omega) (by omega) (λi a hi=>by omega) (λi a hi ha=>?_)
 have:=(K35.mp ha).1
 omega
theorem z8r {xs:Array Nat}(h:Rise xs) {i j:Nat}(e:xs[i]?=some j):K0q xs (j+1)=i+1:=by
 obtain ⟨b1,b2,b3⟩:=z3r h (j+1)
 have hi:=(K35.mp e).1
 have l1:i<K0q xs (j+1):=by
  by_cases q:i<K0q xs (j+1)
  ·exact q
  ·have:=b3 i j (by omega) e;omega
 by_cases q:K0q xs (j+1)=i+1
 ·exact q
 ·have hlt:i+1<xs.size:=by omega
  have e2:xs[i+1]?=some xs[i+1]:=K1c hlt
  have a1:=b2 (i+1) _ (by omega) e2
  have a2:=h.lt e e2 (by omega)
  omega
theorem z8l {xs:Array Nat}(h:Rise xs):K0q xs 0=0:=by
 obtain ⟨b1,b2,b3⟩:=z3r h 0
 by_cases q:K0q xs 0=0
 ·exact q
 ·have hlt:0<xs.size:=by omega
  have e2:xs[0]?=some xs[0]:=K1c hlt
  have:=b2 0 _ (by omega) e2
  omega
theorem ze1 {t:K3w}{j:Nat}(h:Rise t.place) (hj:t.place[K0q t.place j]?≠some j):Rise (t.put j).1.place:=by
 obtain ⟨b1,b2,b3⟩:=z3r h j
 show (K3w.insertAt t.place (K0q t.place j) j).toList.Pairwise _
 rw [K3w.toList_insertAt]
 have tk:∀a∈t.place.toList.take (K0q t.place j),a<j:=λa ha=>by
  obtain ⟨i,hi,e⟩:=K2y ha
  rw [List.getElem_take] at e
  have hi2:i<K0q t.place j:=by
   rw [K26] at hi;omega
  have hi3:i<t.place.size:=by omega
  exact b2 i a hi2 (by rw [K1c hi3];simpa using e)
 have dr:∀a∈t.place.toList.drop (K0q t.place j),j<a:=λa ha=>by
  obtain ⟨i,hi,e⟩:=K2y ha
  rw [List.getElem_drop] at e
  have hi3:K0q t.place j+i<t.place.size:=by
   rw [List.length_drop] at hi;simp at hi;omega
  have e2:t.place[K0q t.place j+i]?=some a:=by rw [K1c hi3];simpa using e
  have:=b3 _ a (by omega) e2
  by_cases q:a=j
  ·subst q
   cases i with
   | zero=>exact absurd e2 hj
   | succ i =>
    have hlt:K0q t.place a<t.place.size:=by omega
    have e3:t.place[K0q t.place a]?=some t.place[K0q t.place a]:=K1c hlt
    have a1:=b3 _ _ (K01 _) e3
    have a2:=h.lt e3 e2 (by omega)
    omega
  ·omega
 have p1:=List.Pairwise.take (i:=K0q t.place j) h
 have p2:=List.Pairwise.drop (i:=K0q t.place j) h
 simp only [K8t,List.pairwise_cons]
 first
  | (refine ⟨p1,⟨dr,p2⟩,λa ha b hb=>?_⟩
     rcases K0v.mp hb with rfl|hb
     ·exact tk a ha
     ·exact K9h (tk a ha) (dr b hb))
  | skip
theorem z7l {t:K3w}{j:Nat}(h:∀i,t.slot j≠.live i):t.place[K0q t.place j]?≠some j:=λe=>by
 refine h (K0q t.place j) ?_
 unfold K3w.slot
 dsimp only
 rw [e,if_pos (by simp)]
theorem z5e {t:K3w}{ha:Nat->Int}{hx:Int}:∀(fuel:Nat) (p:Z0m) (j:Nat) (dm:Option Nat),(∀d,p.dummy=some d->t.slot d=.dummy)->K6w t ha hx fuel p=some (.empty j dm)->t.slot j=.empty/\∀d,dm=some d->t.slot d=.dummy
 | 0,p,j,dm,hd,e=>by simp [K6w] at e
 | fuel+1,p,j,dm,hd,e=>by
  rw [K6w] at e
  have adv:∀q:Z0m,(t.advance q).dummy=q.dummy:=λq=>by
   unfold K3w.advance
   split<;>rfl
  split at e
  ·rename_i hs
   cases e
   exact ⟨hs,hd⟩
  ·rename_i hs
   refine z5e fuel _ j dm (λd z=>?_) e
   rw [adv] at z
   cases z
   exact hs
  ·split at e
   ·cases e
   ·refine z5e fuel _ j dm (λd z=>?_) e
    rw [adv] at z
    exact hd d z
theorem zf7 {t:K3w}{hx:Int}{j:Nat}{b:Bool}(e:t.freeSlot hx=some (j,b)):t.place[K0q t.place j]?≠some j:=by
 unfold K3w.freeSlot K3w.probe at e
 split at e
 ·rename_i j' dm hp
  obtain ⟨s1,s2⟩:=z5e _ _ j' dm (λd z=>by simp [K3w.probeStart] at z) hp
  cases dm with
  | none=>cases e;exact z7l (λi z=>by rw [show t.slot (none.getD j')=_ from s1] at z;cases z)
  | some d=>cases e;exact z7l (λi z=>by rw [show t.slot ((some d).getD j')=_ from s2 d rfl] at z;cases z)
 ·cases e
theorem z2l (n:Nat):Rise (Array.range n):=by
 show (Array.range n).toList.Pairwise _
 rw [Array.toList_range]
 exact K43
theorem z6y {t:K3w}{es:Array (Int×Value)}{hx:Int}{x:Value}(h:Rise t.place):Rise (layNew t es hx x).2.1.place/\(layNew t es hx x).2.1.led=t.led:=by
 unfold layNew
 split
 ·rename_i sl wd e
  dsimp only
  unfold K3w.orStandIn
  split
  ·exact ⟨ze1 h (zf7 e),rfl⟩
  ·exact ⟨z2l _,rfl⟩
 ·exact ⟨z2l _,rfl⟩
theorem z8Q {mask finger moves:Nat}{led plain:Bool}{hs:Array Int}{t:K3w}{o:Array Nat}(e:Z0p mask finger moves led plain hs=some (t,o)):Rise t.place/\t.led=led:=by
 unfold Z0p at e
 cases hl:K3w.layClean mask hs with
 | none=>rw [hl] at e;cases e
 | some ow =>
  rw [hl] at e
  cases e
  refine ⟨?_,rfl⟩
  unfold Rise
  dsimp only
  rw [K74,List.pairwise_filterMap]
  refine K43.imp λ{a b} hab c hc d hd=>?_
  cases h1:ow.getD a none with
  | none=>rw [h1] at hc;cases hc
  | some u =>
   cases h2:ow.getD b none with
   | none=>rw [h2] at hd;cases hd
   | some v =>
    rw [h1] at hc;rw [h2] at hd
    cases hc;cases hd
    exact hab
theorem z8B {t:K3w}{es:Array (Int×Value)}{n:Nat}:Rise (K60 t es n).2.1.place/\(K60 t es n).2.1.led=t.led:=by
 unfold K60
 split
 ·rename_i t' o e
  obtain ⟨r1,r2⟩:=z8Q e
  dsimp only
  split
  ·exact ⟨r1,r2⟩
  ·exact ⟨z2l _,rfl⟩
 ·exact ⟨z2l _,rfl⟩
section
variable {P:K0n}{w:World}
theorem z2L {α β:Type}{R:α->β->Prop}{l' l:List β}(p:l'.Perm l):∀{ks:List α},Paired R ks l->∃ks',ks'.Perm ks/\Paired R ks' l':=by
 induction p with
 | nil=>intro ks h;exact ⟨ks,.refl _,h⟩
 | cons x _ ih =>
  intro ks h
  cases h with
  | cons a b =>
   obtain ⟨ks',q1,q2⟩:=ih b
   exact ⟨_::ks',.cons _ q1,.cons a q2⟩
 | swap x y l =>
  intro ks h
  cases h with
  | cons a b =>
   cases b with
   | cons c d=>exact ⟨_::_::_,.swap _ _ _,.cons c (.cons a d)⟩
 | trans _ _ ih1 ih2 =>
  intro ks h
  obtain ⟨k1,a1,a2⟩:=ih2 h
  obtain ⟨k2,b1,b2⟩:=ih1 a2
  exact ⟨k2,b1.trans a1,b2⟩
theorem z4j {α β:Type}{R:α->β->Prop}:∀{ks:List α}{l:List β}{k:α}{x:β},Paired R ks l->R k x->Paired R (ks++[k]) (l++[x])
 | _,_,_,_,.nil,h=>.cons h .nil
 | _,_,_,_,.cons a b,h=>.cons a (z4j b h)
theorem z3i {α β:Type}{R:α->β->Prop}:∀{ks:List α}{l:List β}{x:β},Paired R ks l->x∈l->∃k∈ks,R k x
 | _,_,_,.cons a b,h=>by
  rcases K0v.mp h with rfl|h
  ·exact ⟨_,K1k,a⟩
  ·obtain ⟨k,h1,h2⟩:=z3i b h;exact ⟨k,K1a _ h1,h2⟩
theorem z3Z {α β:Type}{R:α->β->Prop}:∀{ks:List α}{l:List β}{k:α},Paired R ks l->k∈ks->∃x∈l,R k x
 | _,_,_,.cons a b,h=>by
  rcases K0v.mp h with rfl|h
  ·exact ⟨_,K1k,a⟩
  ·obtain ⟨k,h1,h2⟩:=z3Z b h;exact ⟨k,K1a _ h1,h2⟩
theorem z7L {k:Key}{v:Value}(h:z1V k v=true):v.scannable=true:=by
 rcases j9 h with ⟨i,t,rfl,rfl⟩|⟨x,t,rfl,rfl⟩<;>rfl
theorem zh6 {ks:List Key}{l:List (Int×Value)}(h:Paired (KE w) ks l):ElemsOf (J0 P w) l:=λe he=>by
 obtain ⟨k,_,h1,h2⟩:=z3i h he
 exact ⟨⟨k,h1,h2⟩,z7L h1⟩
theorem zq5 {k k':Key}{v:Value}(h:z1V k v=true) (h':z1V k' v=true):k=k':=by
 rcases j9 h with ⟨i,t,rfl,rfl⟩|⟨x,t,rfl,rfl⟩
 ·rcases j9 h' with ⟨j,u,rfl,e⟩|⟨y,u,rfl,e⟩
  ·cases e;rfl
  ·cases e
 ·rcases j9 h' with ⟨j,u,rfl,e⟩|⟨y,u,rfl,e⟩
  ·cases e
  ·cases e;rfl
theorem mem_of {ks:List Key}{l:List (Int×Value)}(h:Paired (KE w) ks l) (k:Key):k∈ks↔∃e∈l,z1V k e.2=true:=by
 constructor
 ·intro hk
  obtain ⟨e,h1,h2,_⟩:=z3Z h hk
  exact ⟨e,h1,h2⟩
 ·rintro ⟨e,h1,h2⟩
  obtain ⟨k',h3,h4,_⟩:=z3i h h1
  exact zq5 h2 h4 ▸ h3
theorem SetAt.stay {h h':Heap}{a:Addr}{ks:List Key}(x:SetAt w h a ks) (k:∀o,h.get? a=some o->h'.get? a=some o):SetAt w h' a ks:=by
 obtain ⟨o,es,ep,t,ks',h1,h2⟩:=x
 exact ⟨o,es,ep,t,ks',k o h1,h2⟩
theorem z9Z {h:Heap}{led:Bool}(hl:led=true∨w.params.followText "set-order" = true):SetAt w (h.push { cls:=.type "set",dict:=none,data:=.set #[] 0 (.fresh 0 0 led) }) h.objs.size [] :=
 ⟨_,#[],0,_,[],K05 _ rfl,⟨rfl,rfl,rfl⟩,rfl,.nil,.refl _,K8n,by decide,by rfl,by show ([]:List Nat).Pairwise _;exact .nil,hl⟩
variable {A:Around}{E:Value->Shared->Prop}{s:Shared}{a:Addr}
theorem z7T {ks:List Key}{o:Obj}{es es':Array (Int×Value)}{ep:Nat}{t t':K3w}{ks':List Key}{h:Heap}(ho:h.get? a=some o) (hex:o.ExactSet) (hd:o.data=.set es ep t) (h4:Paired (KE w) ks' es'.toList) (h5:ks'.Perm ks) (h6:ks.Nodup)
 (hb:es'.size<scanBound) (hf:t'.fits es'.size=true) (hr:Rise t'.place) (hl:t'.led=true∨w.params.followText "set-order" = true) :
 SetAt w (h.update a (K6h es' t')) a ks/\∃o',(h.update a (K6h es' t')).get? a=some o'/\o'.ExactSet/\o'.data=.set es' (ep+1) t':=by
 have g:(h.update a (K6h es' t')).get? a=some { o with data:=.set es' (ep+1) t' }:=by
  have:=K3b (K6h es' t') ho (by rw [putSet_of es' t' hd];rfl)
  rw [putSet_of es' t' hd] at this;exact this
 exact ⟨⟨_,es',ep+1,t',ks',g,hex,rfl,h4,h5,h6,hb,hf,hr,hl⟩,_,g,hex,rfl⟩
theorem tail_at {ks ks1:List Key}{o:Obj}{es es1:Array (Int×Value)}{ep:Nat}{t t2:K3w}{wd:Bool}{gw:Bool->Sem Unit}{R:Option Bool->Shared->Prop}(hG:∀(g:Bool) (s1:Shared) (Z:Unit->Shared->Prop),Z () s1->wpAny (model P w) A (gw g) Z E s1)
 (ho:s.heap.get? a=some o) (hex:o.ExactSet) (hd:o.data=.set es ep t) (h4:Paired (KE w) ks1 es1.toList) (h5:ks1.Perm ks) (h6:ks.Nodup) (hb:es1.size<scanBound) (hf:t2.fits es1.size=true) (hr:Rise t2.place) (hl:t2.led=true∨w.params.followText "set-order" = true)
 (h:∀h',K2z a s.heap h'->SetAt w h' a ks->R (some true) { s with heap:=h' }) :
 wpAny (model P w) A (storeSet a es1 t2 >>= λ_=>if (!wd&&t2.tooFull)=true then (gw (K60 t2 es1 (K2o es1.size)).2.2 >>= λ_=>storeSet a (K60 t2 es1 (K2o es1.size)).1 (K60 t2 es1 (K2o es1.size)).2.1 >>= λ_=>pure (some true)) else pure (some true)) R E s:=by
 obtain ⟨S1,o1,g1,x1,d1⟩:=z7T (h:=s.heap) (t':=t2) ho hex hd h4 h5 h6 hb hf hr hl
 have sb:=K1b s.heap a (K6h es1 t2)
 refine K2 (wpAny_storeSet_of ho hd ?_ (K5r hb))
 split
 ·have rp:=relayAll_perm t2 es1 (K2o es1.size)
  have rf:=relayAll_fits t2 es1 (K2o es1.size)
  have rr:=z8B (t:=t2) (es:=es1) (n:=K2o es1.size)
  obtain ⟨ks2,p1,p2⟩:=z2L rp h4
  have sz:(K60 t2 es1 (K2o es1.size)).1.size=es1.size:=by rw [← K17,rp.length_eq,K17]
  have b2:(K60 t2 es1 (K2o es1.size)).1.size<scanBound:=by rw [sz];exact hb
  refine K2 (hG _ _ _ (K2 (wpAny_storeSet_of g1 d1 (K9 ?_) (K5r b2))))
  obtain ⟨S2,_⟩:=z7T (h:=s.heap.update a (K6h es1 t2)) (t':=(K60 t2 es1 (K2o es1.size)).2.1) g1 x1 d1 p2 (p1.trans h5) h6 b2 rf rr.1 (by rw [rr.2];exact hl)
  exact h _ (sb.trans (K1b _ a _)) S2
 ·exact K9 (h _ sb S1)
theorem zC5 {ks:List Key}{k:Key}{x:Value}{Q:Bool->Shared->Prop}(hk:z1V k x=true) (hS:SetAt w s.heap a ks) (hroom:ks.length+1<scanBound)
 (h:∀h' b,K2z a s.heap h'->SetAt w h' a (if k∈ks then ks else ks++[k])->Q b { s with heap:=h' }) :
 wpAny (model P w) A (setAddHashed a x (keyH w k)) Q E s:=by
 obtain ⟨o,es,ep,t,ks',ho,hex,hd,h4,h5,h6,h7,h8,h9,h0⟩:=hS
 have el:=zh6 (P:=P) h4
 have sc:=z7L hk
 have hn:es.size=ks.length:=by rw [← h5.length_eq,K4a h4,K17]
 unfold setAddHashed setAddHashedIn
 refine K21 (K2 (K3k ho hd h8 ?_))
 dsimp only
 rw [byScan_of sc h7 el,if_pos rfl]
 unfold setAddByScan
 refine K2 (K2 (K6i (K2 (wpAny_setScan_of (knd:=J0 P w) (k:=k) hk ho hd h8 el ?_))))
 cases hr:List.findIdx? (λe=>(J0 P w).is k e.2) es.toList with
 | some j =>
  dsimp only
  obtain ⟨hj,hp,_⟩:=List.findIdx?_eq_some_iff_getElem.mp hr
  have hm:k∈ks:=h5.mem_iff.mp ((mem_of h4 k).mpr ⟨_,K4o hj,hp⟩)
  have:=h s.heap false (K6y a s.heap) (by rw [if_pos hm];exact ⟨o,es,ep,t,ks',ho,hex,hd,h4,h5,h6,h7,h8,h9,h0⟩)
  exact K9 (K9 this)
 | none =>
  dsimp only
  have hm:k∉ks:=λz=>by
   obtain ⟨e,he,hp⟩:=(mem_of h4 k).mp (h5.mem_iff.mpr z)
   have:=List.findIdx?_eq_none_iff.mp hr e he
   rw [show (J0 P w).is k e.2=true from hp] at this
   cases this
  rw [if_neg hm] at h
  have np:=layNew_perm t es (keyH w k) x
  have nf:=layNew_fits t es (keyH w k) x
  have nr:=z6y (t:=t) (es:=es) (hx:=keyH w k) (x:=x) h9
  have hG:∀(g:Bool) (s1:Shared) (R:Unit->Shared->Prop),R () s1->wpAny (model P w) A (match g with|true=>rule "set.scan.the-table-gave-way" | false=>pure ()) R E s1 :=
   λg s1 R q=>by cases g<;>first|exact K9 q|exact K6i q
  generalize hL:layNew t es (keyH w k) x=L at np nf nr ⊢
  obtain ⟨es1,t1,wd,gv⟩:=L
  dsimp only at np nf nr ⊢
  rw [K9o] at np
  obtain ⟨ks1,p1,p2⟩:=z2L np (z4j h4 (show KE w k (keyH w k,x) from ⟨hk,rfl⟩))
  have nd:(ks++[k]).Nodup:=by
   rw [K3h]
   exact ⟨h6,by simp,λu hu v hv=>by simp at hv;subst hv;exact λz=>hm (z ▸ hu)⟩
  have b1:es1.size<scanBound:=by
   rw [← K17,np.length_eq,K08,K17]
   simpa [hn] using hroom
  have p3:ks1.Perm (ks++[k]):=p1.trans (h5.append_right [k])
  have l1:t1.led=true∨w.params.followText "set-order" = true:=by rw [nr.2];exact h0
  refine K2 (hG _ _ _ ?_)
  split
  ·rw [hashByValue_scannable 8 sc]
   refine K2 (K9 ?_)
   refine tail_at (t2:=if plainKind x=true then t1 else { t1 with plain:=false }) hG ho hex hd p2 p3 nd b1 ?_ ?_ ?_ λh' sb S=>K9 (h h' true sb S)
   ·split
    ·exact nf
    ·exact K3w.fits_plain_off nf
   ·split
    ·exact nr.1
    ·exact nr.1
   ·split
    ·exact l1
    ·exact l1
  ·refine K2 (K9 ?_)
   simp only [if_pos]
   exact tail_at hG ho hex hd p2 p3 nd b1 nf nr.1 l1 λh' sb S=>K9 (h h' true sb S)
end
def putK (acc:List Key) (k:Key):List Key:=if k∈acc then acc else acc++[k]
def dedK (ks:List Key):List Key:=ks.foldl putK []
theorem zd9 (acc:List Key) (k:Key):(putK acc k).length≤acc.length+1:=by
 unfold putK
 split
 ·omega
 ·simp
theorem z64:∀(ks acc:List Key),(ks.foldl putK acc).length≤acc.length+ks.length
 | [],acc=>by simp
 | k::ks,acc=>by
  have h1:=z64 ks (putK acc k)
  have h2:=zd9 acc k
  simp only [K63,K07]
  omega
theorem zh4 (ks:List Key):(dedK ks).length≤ks.length:=by
 have:=z64 ks []
 simpa [dedK] using this
theorem zb7 (ks:List Key) (k:Key):dedK (ks++[k])=putK (dedK ks) k:=by
 unfold dedK
 rw [K9q]
 rfl
section
variable {P:K0n}{w:World}{A:Around}{E:Value->Shared->Prop}{s:Shared}{a:Addr}
theorem z9Q {ks:List Key}{k:Key}{x:Value}{Q:Bool->Shared->Prop}(hk:z1V k x=true) (hS:SetAt w s.heap a ks) (hroom:ks.length+1<scanBound)
 (h:∀h' b,K2z a s.heap h'->SetAt w h' a (putK ks k)->Q b { s with heap:=h',toks:=s.toks+1 }):wpAny (model P w) A (setAdd a x) Q E s:=by
 unfold setAdd
 refine K21 (K2 ((J0 P w).pyHash (k:=k) hk ?_))
 exact zC5 (s:={ s with toks:=s.toks+1 }) hk hS hroom λh' b sb S=>h h' b sb S
end
section
variable {P:K0n}{w:World}{A:Around}{R:Result->Shared->Prop}{I:Addr}{fp wr:List Addr}{G:Array K7p->Array K7p->Prop}{n:Nat}{PV:Nat->Value->Prop}{St:Nat->Shared->Prop}
theorem z5Y (W:WalksS P w A.in1 I fp wr G n PV St) (S:Addr) (hSf:S∉fp) (key:Nat->Key) (hv:∀i v,PV i v->z1V (key i) v=true) (hb:n+1<scanBound) :
 ∀(k i:Nat) (s:Shared),i+k=n->St i s->SetAt w s.heap S (dedK ((K8 i).map key)) ->
  (∀s',Moved (S::wr) G s s'->SetAt w s'.heap S (dedK ((K8 n).map key))->R (.ok (.ret .none)) s') ->
  K5j (model P w) A (.builtin "set.update.loop" ⟨[.ref S,.ref I],[]⟩) R s:=by
 have nw:S∉wr:=λh=>hSf (W.sub _ h)
 have up:∀b∈wr,b∈S::wr:=λb hb=>K1a _ hb
 intro k
 induction k with
 | zero =>
  intro i s hk st hS hR
  obtain rfl:i=n:=by omega
  refine K24 K7t ?_
  rw [K1j K5d _]
  show wpAny _ A.in1 (pyNext (.ref I) >>= _) _ _ s
  refine K2 (W.done s _ _ st λs' hm=>?_)
  show wpAny _ A.in1 (ret K2k) _ _ s'
  exact K9 (hR s' (hm.mono up) (hS.stay λo e=>hm.heap S o nw e))
 | succ k ih =>
  intro i s hk st hS hR
  refine K24 K7t ?_
  rw [K1j K5d _]
  show wpAny _ A.in1 (pyNext (.ref I) >>= _) _ _ s
  refine K2 (W.item i s _ _ (by omega) st λv s' hP st' hm=>?_)
  show wpAny _ A.in1 (K3l [v] (setAdd S v) >>= _) _ _ s'
  have room:(dedK ((K8 i).map key)).length+1<scanBound:=by
   have:=zh4 ((K8 i).map key)
   rw [K00,K1q] at this
   omega
  refine K2 (K21 (z9Q (hv i v hP) (hS.stay λo e=>hm.heap S o nw e) room λh' b sb S2=>?_))
  have nx:dedK ((K8 (i+1)).map key)=putK (dedK ((K8 i).map key)) (key i):=by
   rw [K88,K3d]
   exact zb7 _ _
  refine K9 ⟨K4u K5d _,ih (i+1) _ (by omega) (W.frame _ s' _ _ st' (K4g _) λb hb o e=>?_) (by rw [nx];exact S2) λs'' hm'' S3=>?_⟩
  ·rw [sb.2 b (λz:b=S=>hSf (z ▸ hb))];exact e
  ·refine hR s'' (Moved.trans W.gtrans ((hm.mono up).then_heap (K4g _) λb o hb e=>?_) hm'') S3
   rw [sb.2 b (λz:b=S=>hb (by rw [z];exact K1k))];exact e
end
theorem z88:isSubtype (.type "tuple") (.type "set")=pure false:=by rw [K5o];kernel_rfl
theorem z6W:isSubtype (.type "tuple") (.type "frozenset")=pure false:=by rw [K5o];kernel_rfl
abbrev z1o (w:World):Obj:={ cls:=.type "set",dict:=none,data:=.set #[] 0 (.fresh 0 0 (!w.params.followText "set-order")) }
theorem zH5 (w:World):(!w.params.followText "set-order")=true∨w.params.followText "set-order" = true:=by
 cases w.params.followText "set-order"<;>simp
section
variable {P:K0n}{w:World}{A:Around}{E:Value->Shared->Prop}{s:Shared}
theorem fresh_at {h:Heap}:SetAt w (h.push (z1o w)) h.objs.size []:=z9Z (zH5 w)
theorem newCode (a:Value) {Q:Value->Shared->Prop}(h:Q (.ref s.heap.objs.size) { s with heap:=s.heap.push (z1o w) }) :
 K5j (model P w) A (.call (.builtin "set.__new__") ⟨[.type "set",a],[]⟩) (wants Q E) s:=by
 refine K8f (show wpAny _ A.in1 (do checkBuiltinCall "set.__new__" ⟨[.type "set",a],[]⟩;again (.builtin "set.__new__" ⟨[.type "set",a],[]⟩)) _ _ s from ?_)
 refine K2 (K8p (F.newCall_set_1 a) (K9 ⟨K4u F.plain_set_new _,K24 F.entry_set_new ?_⟩))
 rw [K1j F.plain_set_new _]
 unfold Builtin.«set.__new__» Builtin.Frozenset.newClass
 have hz:=sub_set_self
 obtain ⟨hp,g,d,tk,os⟩:=s
 dsimp only
 wp_walk
 refine K34 (K9 ?_)
 dsimp only
 simp only [newObj]
 refine K2 (wpAny_alloc (K9 ?_))
 exact K9 h
theorem z9N {T:String}{l:Addr}{items:Array Value}{key:Nat->Key}{Q:Value->Shared->Prop}(hT:T = "list"∨T = "tuple") (hh:A.handled=none) (hl:∃o,s.heap.get? l=some o/\o.cls=.type T/\∃n,o.data=.seq items n)
 (hv:∀(i:Nat) v,items[i]?=some v->z1V (key i) v=true) (hb:items.size+1<scanBound)
 (h:∀h' tk,SetAt w h' s.heap.objs.size (dedK ((K8 items.size).map key))->(∀b o,s.heap.get? b=some o->h'.get? b=some o)->Q (.ref s.heap.objs.size) { s with heap:=h',toks:=tk }) :
 wpAny (model P w) A (call (.type "set") [.ref l]) Q E s:=by
 obtain ⟨c,tl,hmro⟩:=F.called_set.mro
 have z1:=F.called_set.made
 have z2:=F.called_set.sub
 have z3:=F.called_set.notType
 have z4:=F.called_set.canCreate
 have z5:=F.typeCall_set_1 (.ref l)
 obtain ⟨ol,hol,hcl,nl,hdl⟩:=hl
 obtain ⟨ocls,odict,odata,oslots⟩:=ol
 simp only at hcl hdl
 subst hcl;subst hdl
 refine wpAny_call (K8f (show wpAny _ _ (callAny (.type "set") _) _ _ _ from ?_))
 refine K9 ⟨Code.quiet_builtin _ (by decide +kernel),K24 F.entry_type_call ?_⟩
 rw [Around.under_plain (weight_type_call_type "set" [.ref l] []) rfl]
 repeat (any_goals (first|assumption|wp_step))
 refine K42 (newCode (.ref l) (E:=E) (Q:=λobj s1=>obj=.ref s.heap.objs.size/\s1={ s with heap:=s.heap.push (z1o w) }) ⟨rfl,rfl⟩) λr s1 hr=>?_
 cases r with
 | error e=>exact hr
 | ok fl =>
  cases fl with
  | next=>exact hr.elim
  | brk=>exact hr.elim
  | cont=>exact hr.elim
  | ret obj =>
   obtain ⟨rfl,rfl⟩:=hr
   have gS:(s.heap.push (z1o w)).get? s.heap.objs.size=some (z1o w):=K05 _ rfl
   have tS:K78 { s with heap:=s.heap.push (z1o w) } (.ref s.heap.objs.size) "set":=⟨_,gS,rfl⟩
   have y1:=F.called_set.init.lookup
   have y2:=F.called_set.init.bind (.ref s.heap.objs.size)
   repeat (any_goals (first|assumption|wp_step))
   refine K42 (codeAny_call_builtin (R:=wants (λr s2=>r=.none/\∃h' tk,s2={ s with heap:=h',toks:=tk }/\SetAt w h' s.heap.objs.size (dedK ((K8 items.size).map key))/\∀b o,s.heap.get? b=some o->h'.get? b=some o) E) F.called_set.init.plain F.entry_set_init (check_set_init_1 tS ?_)) λr2 s2 hr2=>?_
   ·have gl:(s.heap.push (z1o w)).get? l=some { cls:=.type T,dict:=odict,data:=.seq items nl,slots:=oslots }:=K6 _ hol
    have hll:l<s.heap.objs.size:=K06 hol
    have h3:A.in1.in1.in1.handled=none:=by simp [hh]
    have neI:l≠(s.heap.push (z1o w)).objs.size:=by rw [K1l];exact K0p (K2u hll)
    have nf:s.heap.objs.size∉[(s.heap.push (z1o w)).objs.size,l]:=by
     rw [K1l]
     simp only [K0v,K52,K4n,or_false,not_or]
     exact ⟨K0p (K5x _),K1r hll⟩
    have start:∀ob:Obj,SetAt w ((s.heap.push (z1o w)).push ob) s.heap.objs.size (dedK ((K8 0).map key)):=λob=>fresh_at.stay λo e=>K6 _ e
    have fin:∀(ob:Obj) s',Moved [s.heap.objs.size,(s.heap.push (z1o w)).objs.size] (λg g'=>g'=g) { s with heap:=(s.heap.push (z1o w)).push ob } s'->SetAt w s'.heap s.heap.objs.size (dedK ((K8 items.size).map key)) ->
     ∃h' tk,s'={ s with heap:=h',toks:=tk }/\SetAt w h' s.heap.objs.size (dedK ((K8 items.size).map key))/\∀b o,s.heap.get? b=some o->h'.get? b=some o:=λob s' hm S2=>by
     obtain ⟨h',g',d',tk',os'⟩:=s'
     have e1:g'=s.gens:=hm.gens
     have e2:d'=s.drawn:=hm.drawn
     have e3:os'=s.os:=hm.os
     subst e1;subst e2;subst e3
     refine ⟨h',tk',rfl,S2,λb o e=>hm.heap b o ?_ (K6 _ (K6 _ e))⟩
     have:=K06 e
     rw [K1l]
     simp only [K0v,K52,K4n,or_false,not_or]
     exact ⟨K0p this,K0p (K2u this)⟩
    rcases hT with rfl|rfl
    ·have x1:=F.sub_list_set
     have x2:=F.sub_list_frozenset
     have x3:(K3n "list"==K3n "dict")=false:=by decide
     have il:(s.heap.push (z1o w)).IsList l items:=⟨_,gl,rfl,nl,rfl⟩
     unfold Builtin.«set.__init__» noKeywords K62
     generalize hPI:pyIter=PI
     wp_walk
     subst hPI
     refine K2v il (K2 (K5n ?_))
     refine z5Y ((Walks.list h3 _ l neI items).toS) s.heap.objs.size nf key (λi v e=>hv i v e) hb items.size 0 _ (by omega) ⟨⟨_,K05 _ rfl,rfl,rfl⟩,il.push _⟩ (start _) λs' hm S2=>?_
     obtain ⟨h',tk,rfl,q1,q2⟩:=fin _ s' hm S2
     exact K9 (show wpAny _ _ (ret K2k) _ _ _ from K9 ⟨rfl,h',tk,rfl,q1,q2⟩)
    ·have x1:=z88
     have x2:=z6W
     have x3:(K3n "tuple"==K3n "dict")=false:=by decide
     have il:(s.heap.push (z1o w)).IsTuple l items:=⟨_,gl,rfl,nl,rfl⟩
     unfold Builtin.«set.__init__» noKeywords K62
     generalize hPI:pyIter=PI
     wp_walk
     subst hPI
     refine K45 il (K2 (K5n ?_))
     refine z5Y ((Walks.tuple h3 _ l neI items).toS) s.heap.objs.size nf key (λi v e=>hv i v e) hb items.size 0 _ (by omega) ⟨⟨_,K05 _ rfl,rfl,rfl⟩,⟨_,K6 _ gl,rfl,nl,rfl⟩⟩ (start _) λs' hm S2=>?_
     obtain ⟨h',tk,rfl,q1,q2⟩:=fin _ s' hm S2
     exact K9 (show wpAny _ _ (ret K2k) _ _ _ from K9 ⟨rfl,h',tk,rfl,q1,q2⟩)
   ·cases r2 with
    | error e=>exact hr2
    | ok f2 =>
     cases f2 with
     | next=>exact hr2.elim
     | brk=>exact hr2.elim
     | cont=>exact hr2.elim
     | ret r =>
      obtain ⟨rfl,h',tk,rfl,q1,q2⟩:=hr2
      repeat (any_goals (first|assumption|wp_step))
      exact h _ _ q1 q2
end
theorem z3q {α:Type}:∀(l:List α) (i:Nat) (h:i<l.length),(l[i]::l.eraseIdx i).Perm l
 | [],i,h=>by simp at h
 | a::l,0,h=>.refl _
 | a::l,i+1,h=>by
  have:=z3q l i (by simpa using h)
  exact (List.Perm.swap a _ _).trans (Z0j a this)
theorem z5C {α:Type}{l:List α}{i n:Nat}(h:i<l.length) (e:l.length=n+1):(l.eraseIdx i).length=n:=by
 rw [List.length_eraseIdx,if_pos h,e];rfl
theorem z93 {α:Type}(f:Nat->Nat):∀(n k:Nat) (left:List α) (out:Array α),left.length=n->(K9b f n k left out).toList.Perm (out.toList++left)
 | 0,k,left,out,h=>by
  have:left=[]:=K2r.mp h
  subst this
  simp [K9b]
 | n+1,k,left,out,h=>by
  have hl:f k % left.length<left.length:=Nat.mod_lt _ (by omega)
  rw [K9b,K4 hl]
  dsimp only
  refine (z93 f n (k+1) _ _ (z5C hl h)).trans ?_
  rw [K9o,K02]
  refine K8g _ ?_
  exact z3q left _ hl
theorem zc2 {α:Type}(f:Nat->Nat) (xs:Array α):(Z02 f xs).toList.Perm xs.toList:=by
 unfold Z02
 have:=z93 f xs.size 0 xs.toList #[] (by simp)
 simpa using this
theorem slot_si_next:Slot "set_iterator" "__next__" "set_iterator.__next__" :=
 .of (owner:="set_iterator") (n:="__next__") (by rw [typeLookup_type,K8l];kernel_rfl) (by decide +kernel) (by decide +kernel) (by decide +kernel) (by first|exact .inl (by decide +kernel)|exact .inr (by decide +kernel)) (by rw [K5o];kernel_rfl)
theorem z30:entryFor table "set_iterator.__next__" = some Builtin.«set_iterator.__next__»:=entryFor_of_tree (by kernel_rfl)
theorem z83:Manifest.owners.lookup (String.ofList ['r','o','t','a','r','e','t','i','_','t','e','s'].reverse)=some Manifest.sig_set_iterator:=by kernel_rfl
theorem z3x (a:Value):argsOk "set_iterator.__next__" ⟨[a],[]⟩:=by
 unfold argsOk;rw [K91 (id:="set_iterator.__next__") (n:=['_','_','t','x','e','n','_','_']) (o:=['r','o','t','a','r','e','t','i','_','t','e','s']) (by kernel_rfl) z83];kernel_rfl
theorem z3B:Slot "set_iterator" "__iter__" "set_iterator.__iter__" :=
 .of (owner:="set_iterator") (n:="__iter__") (by rw [typeLookup_type,K8l];kernel_rfl) (by decide +kernel) (by decide +kernel) (by decide +kernel) (by first|exact .inl (by decide +kernel)|exact .inr (by decide +kernel)) (by rw [K5o];kernel_rfl)
theorem z6e:entryFor table "set.__iter__" = some Builtin.«frozenset.__iter__» :=
 entryFor_alias (id':="frozenset.__iter__") (by kernel_rfl) rfl (by decide +kernel) (by kernel_rfl)
theorem z6H (a:Value):argsOk "set.__iter__" ⟨[a],[]⟩:=by
 unfold argsOk;rw [K91 (id:="set.__iter__") (n:=['_','_','r','e','t','i','_','_']) (o:=['t','e','s']) (by kernel_rfl) F.owner_set];kernel_rfl
section
variable {P:K0n}{w:World}{A:Around}{E:Value->Shared->Prop}{s:Shared}
theorem z4I {α:Type}:∀(n:Nat) (xs:List α) (s:Shared) (Q:List α->Shared->Prop),xs.length=n->(∀ys d',ys.Perm xs->Q ys { s with drawn:=d' })->wpAny (model P w) A (drawOrder n xs) Q E s
 | 0,xs,s,Q,h,hq=>by
  have:xs=[]:=K2r.mp h
  subst this
  exact K9 (hq [] s.drawn (.refl _))
 | n+1,xs,s,Q,h,hq=>by
  cases xs with
  | nil=>simp at h
  | cons x xs =>
   rw [drawOrder.eq_3 _ _ (λz=>by cases z)]
   refine K2 ?_
   refine λΓ p _=>⟨by simp,?_⟩
   generalize hi:(model P w).w.draws .order (s.drawn.get .order) % (x::xs).length=i
   have il:i<(x::xs).length:=by rw [← hi];exact Nat.mod_lt _ (by simp)
   show wpAny (model P w) A (match (x::xs)[i]? with|some x_1=>(do return x_1::(← drawOrder n ((x::xs).eraseIdx i)))|none=>Z0b "internal:drawOrder") Q E { s with drawn:=s.drawn.bump .order }
   rw [K4 il]
   dsimp only
   refine K2 (z4I n _ _ _ (z5C il h) λys d' pm=>K9 ?_)
   exact hq _ d' ((Z0j _ pm).trans (z3q _ i il))
end
theorem z5c:entryFor table "set_iterator.__iter__" = some Builtin.«dict_keyiterator.__iter__» :=
 entryFor_alias (id':="dict_keyiterator.__iter__") (by kernel_rfl) rfl (by decide +kernel) (by kernel_rfl)
theorem z6h (a:Value):argsOk "set_iterator.__iter__" ⟨[a],[]⟩:=by
 unfold argsOk;rw [K91 (id:="set_iterator.__iter__") (n:=['_','_','r','e','t','i','_','_']) (o:=['r','o','t','a','r','e','t','i','_','t','e','s']) (by kernel_rfl) z83];kernel_rfl
abbrev z6Q (first:Value) (i:Nat) (S:Addr) (n ep:Nat):Obj:={ cls:=.type "set_iterator",data:=.fields #[first,rawInt i,.ref S,rawInt n,rawInt ep] }
section
variable (w:World) (S:Addr) (es:Array (Int×Value)) (ep:Nat) (t:K3w)
inductive Stand (h:Heap) (i:Nat):Value->List (Int×Value)->Prop where
 | txt (b:w.params.followText "set-order" = true):Stand h i (rawInt 0) (Z02 (w.params.setOrder S ep) es).toList
 | drw (T:Addr) (pl:List Nat) (b:w.params.followText "set-order" = false) (hT:∃o n,h.get? T=some o/\o.data=.seq (pl.map λ(j:Nat)=>rawInt j).toArray n) (hp:pl.Perm (K8 es.size)):Stand h i (.ref T) (pl.filterMap λj=>es[j]?)
 | slo (sl:Nat) (b:w.params.followText "set-order" = false) (c:(!t.plain&&decide (es.size > 1))=false) (l:t.led=true) (e:K0q t.place sl=i):Stand h i (rawInt sl) es.toList
end
theorem z4H {α:Type}{es:Array α}:∀{pl:List Nat},(∀j∈pl,j<es.size)->∀(i:Nat),(pl.filterMap λj=>es[j]?)[i]?=(pl[i]?).bind λj=>es[j]?
 | [],h,i=>by simp
 | a::pl,h,i=>by
  have hb:=h a K1k
  have ha:es[a]?=some es[a]:=K1c hb
  rw [K3r,ha]
  cases i with
  | zero=>simp [ha]
  | succ i=>simpa using z4H (λj hj=>h j (K1a _ hj)) i
theorem Stand.perm {w:World}{S:Addr}{es:Array (Int×Value)}{ep:Nat}{t:K3w}{h:Heap}{i:Nat}{f:Value}{ord:List (Int×Value)}(x:Stand w S es ep t h i f ord):ord.Perm es.toList:=by
 cases x with
 | txt b=>exact zc2 _ _
 | drw T pl b hT hp =>
  refine (hp.filterMap _).trans ?_
  rw [filterMap_getElem?_range]
 | slo sl b c l e=>exact .refl _
section
variable {P:K0n}{w:World}{A:Around}{E:Value->Shared->Prop}{s:Shared}{S I:Addr}{es:Array (Int×Value)}{ep:Nat}{t:K3w}{i:Nat}{f:Value}{ord:List (Int×Value)}{o:Obj}
theorem z7e {sl:Nat}{Q:Option (Value×Nat)->Shared->Prop}(ho:s.heap.get? S=some o) (hd:o.data=.set es ep t) (hf:t.fits es.size=true) (b:w.params.followText "set-order" = true)
 (h:Q (((Z02 (w.params.setOrder S ep) es)[i]?).map λe=>(e.2,sl)) s):wpAny (model P w) A (K7w S sl i ep) Q E s:=by
 unfold K7w K98
 refine K2 (K3k ho hd hf (K2 (K2 (K34 (K9 ?_)))))
 dsimp only
 rw [show (model P w).w.params.followText "set-order" = true from b,if_pos rfl,if_neg (by simp)]
 unfold setWalk K98
 refine K2 (K2 (K3k ho hd hf (K2 (K2 (K34 (K9 ?_))))))
 dsimp only
 rw [show (model P w).w.params.followText "set-order" = true from b,if_pos rfl]
 refine K2 (K34 (K9 (K9 ?_)))
 exact h
theorem z7M {sl:Nat}{Q:Option (Value×Nat)->Shared->Prop}(ho:s.heap.get? S=some o) (hd:o.data=.set es ep t) (hf:t.fits es.size=true) (b:w.params.followText "set-order" = false)
 (c:(!t.plain&&decide (es.size > 1))=false) (l:t.led=true) (h:Q (match es[K0q t.place sl]?,t.place[K0q t.place sl]? with|some (_,x),some j=>some (x,j+1)|_,_=>none) s):wpAny (model P w) A (K7w S sl i ep) Q E s:=by
 unfold K7w K98
 refine K2 (K3k ho hd hf (K2 (K2 (K34 (K9 ?_)))))
 dsimp only
 rw [show (model P w).w.params.followText "set-order" = false from b,if_neg (by decide)]
 rw [if_neg (by show ¬ ((!t.plain&&decide (es.size > 1))=true);rw [c];decide)]
 refine K2 ?_
 show wpAny _ _ (if (!t.led&&!es.isEmpty)=true then _ else _) _ _ _
 rw [if_neg (by rw [l];simp)]
 exact K9 (K9 h)
theorem zr7 {e:Int×Value}{Q:Option Value->Shared->Prop}(ho:s.heap.get? S=some o) (hd:o.data=.set es ep t) (hf:t.fits es.size=true) (hr:Rise t.place) (hI:s.heap.get? I=some (z6Q f i S es.size ep)) (st:Stand w S es ep t s.heap i f ord) (he:ord[i]?=some e) (hSI:S≠I)
 (hQ:∀h' f',K2z I s.heap h'->h'.get? I=some (z6Q f' (i+1) S es.size ep)->Stand w S es ep t h' (i+1) f' ord->(∀T,f'=.ref T->f=.ref T)->Q (some e.2) { s with heap:=h' }):wpAny (model P w) A (pyNext (.ref I)) Q E s:=by
 have hT:s.TypeIs (.ref I) "set_iterator":=⟨_,hI,rfl⟩
 unfold pyNext
 refine K2 (wpAny_attempt (K3x (name:=K4m "__next__") hT slot_si_next (K28 slot_si_next hT z30 ?_ (z3x _))))
 show wpAny _ _ (fieldsOf (.ref I) >>= _) _ _ s
 refine K2 (wpAny_fieldsOf hI rfl ?_)
 show wpAny _ _ (setEntries S >>= _) _ _ s
 refine K2 (K67 ho hd hf ?_)
 rw [if_neg (by simp)]
 have upd:∀(h0:Heap) (vs:Array Value) (j:Nat) (v:Value),h0.get? I=some { cls:=.type "set_iterator",data:=.fields vs }->(h0.update I (K90 (·.setIfInBounds j v))).get? I=some { cls:=.type "set_iterator",data:=.fields (vs.setIfInBounds j v) }:=λh0 vs j v e=>by
  have:=K3b (K90 (·.setIfInBounds j v)) e (K5s (K55 rfl _))
  exact this
 have fin:∀(f':Value) (j:Nat) (R:Z0s->Shared->Prop) (R2:Value->Shared->Prop),(∀h',K2z I s.heap h'->h'.get? I=some (z6Q f' (i+1) S es.size ep)->R (.done (.ret e.2)) { s with heap:=h' }) ->
  wpAny (model P w) A.in1 (setField (.ref I) 0 f' >>= λ_=>setField (.ref I) 1 (rawInt ((i:Int)+1)) >>= λ_=>ret e.2) R R2 s:=λf' j R R2 q=>by
  have u1:=upd s.heap _ 0 f' hI
  refine K2 (K2q hI rfl (by simp) (K2 (K2q u1 rfl (by simp) (K9 (q _ ((K1b ..).trans (K1b ..)) ?_)))))
  rw [upd _ _ 1 _ u1]
  simp [rawInt]
 cases st with
 | txt b =>
  show wpAny _ _ (K7w S (0:Int).toNat (i:Int).toNat (ep:Int).toNat >>= _) _ _ _
  rw [K0k,K0k]
  refine K2 (z7e ho hd hf b ?_)
  rw [← K39,he]
  exact fin (rawInt 0) 0 _ _ λh' sb q=>⟨_,rfl,K9 (hQ h' _ sb q (.txt b) λT z=>by cases z)⟩
 | slo sl b c l e2 =>
  have hi:i<es.size:=by simpa using (K5.mp he).1
  have he2:es[i]?=some e:=by rw [← K39];exact he
  have sz:t.place.size=es.size:=by
   unfold K3w.fits at hf
   simp at hf
   exact hf.1
  have hp:t.place[i]?=some (t.place[i]'(by omega)):=K1c (by omega)
  show wpAny _ _ (K7w S (sl:Int).toNat (i:Int).toNat (ep:Int).toNat >>= _) _ _ _
  rw [K0k,K0k,K0k]
  refine K2 (z7M ho hd hf b c l ?_)
  rw [e2,he2,hp]
  refine fin (rawInt ((t.place[i]'(by omega)+1:Nat):Int)) 0 _ _ λh' sb q=>⟨_,rfl,K9 (hQ h' _ sb q (.slo _ b c l (z8r hr hp)) λT z=>by cases z)⟩
 | drw T pl b hT hp =>
  obtain ⟨oT,nT,gT,dT⟩:=hT
  have hb:∀j∈pl,j<es.size:=λj hj=>by simpa using hp.mem_iff.mp hj
  rw [z4H hb] at he
  cases hpi:pl[i]? with
  | none=>rw [hpi] at he;cases he
  | some j =>
   rw [hpi] at he
   have hej:es[j]?=some e:=he
   have hTI:T≠I:=λz=>by
    subst z
    rw [hI] at gT
    cases gT
    cases dT
   show wpAny _ _ (Z01 (.ref T) >>= _) _ _ _
   refine K2 (K6j gT dT ?_)
   dsimp only
   rw [K0k,show ((pl.map λ(j:Nat)=>rawInt j).toArray)[i]?=some (rawInt j) by simp [hpi]]
   show wpAny _ _ (setNextDrawn S (j:Int).toNat (ep:Int).toNat >>= _) _ _ _
   rw [K0k,K0k]
   unfold setNextDrawn
   refine K2 (K2 (K3k ho hd hf ?_))
   dsimp only
   rw [if_neg (by simp),hej]
   refine K9 ?_
   have u1:=upd s.heap _ 1 (rawInt ((i:Int)+1)) hI
   refine K2 (K2q hI rfl (by simp) (K9 ⟨_,rfl,K9 (hQ _ (.ref T) (K1b ..) ?_ (.drw T pl b ⟨oT,nT,?_,dT⟩ hp) λ_ z=>z)⟩))
   ·rw [u1];simp [rawInt]
   ·rw [K32 _ _ (K4p hTI)];exact gT
theorem zt7 {Q:Option Value->Shared->Prop}(hh:A.handled=none) (ho:s.heap.get? S=some o) (hd:o.data=.set es ep t) (hf:t.fits es.size=true) (hI:s.heap.get? I=some (z6Q f es.size S es.size ep)) (st:Stand w S es ep t s.heap es.size f ord)
 (hQ:∀h',Z0a I s.heap h'->Q none { s with heap:=h' }):wpAny (model P w) A (pyNext (.ref I)) Q E s:=by
 have hT:s.TypeIs (.ref I) "set_iterator":=⟨_,hI,rfl⟩
 have hl:ord.length=es.size:=by rw [st.perm.length_eq,K17]
 unfold pyNext
 refine K2 (wpAny_attempt (K3x (name:=K4m "__next__") hT slot_si_next (K28 slot_si_next hT z30 ?_ (z3x _))))
 show wpAny _ _ (fieldsOf (.ref I) >>= _) _ _ s
 refine K2 (wpAny_fieldsOf hI rfl ?_)
 show wpAny _ _ (setEntries S >>= _) _ _ s
 refine K2 (K67 ho hd hf ?_)
 rw [if_neg (by simp)]
 have stop:∀(h1:Heap) (Z:Z0s->Shared->Prop),Z0a I s.heap h1->wpAny (model P w) A.in1 (newExc (.type "StopIteration") [] >>= λx=>(raiseNew x:Sem Z0s)) Z (λe s'=>wpAny (model P w) A (do let __do_lift ← isInstance e (K3n "StopIteration");if __do_lift=true then pure none else throw e) Q E s') { s with heap:=h1 }:=λh1 Z eb=>by
  refine K2 ?_
  simp only [newExc,newTuple]
  refine K2 (K1i ?_ (by size_fits))
  refine K2 (m:=K6k _ _) (K8p (a:=K2k) (by first|rfl|(simp only [K6k];rfl)) ?_)
  refine K1i ?_ (by size_fits)
  simp only [raiseNew]
  refine K2 (wpAny_handled ?_)
  rw [show A.in1.handled=none by simp [hh]]
  refine K2 (K9 (wpAny_throw ?_))
  refine K2 (wpAny_isInstance (T:="StopIteration") (b:=true) ⟨_,K05 _ rfl,rfl⟩ isSubtype_stop ?_)
  exact K9 (hQ _ ((eb.push _).push _))
 cases st with
 | txt b =>
  show wpAny _ _ (K7w S (0:Int).toNat (es.size:Int).toNat (ep:Int).toNat >>= _) _ _ _
  rw [K0k,K0k]
  refine K2 (z7e ho hd hf b ?_)
  rw [← K39,K0i (by omega)]
  exact K2 (K2q hI rfl (by simp) (stop _ _ (K1b ..).extBut))
 | slo sl b c l e2 =>
  show wpAny _ _ (K7w S (sl:Int).toNat (es.size:Int).toNat (ep:Int).toNat >>= _) _ _ _
  rw [K0k,K0k,K0k]
  refine K2 (z7M ho hd hf b c l ?_)
  rw [e2,Array.getElem?_eq_none (K01 _)]
  exact K2 (K2q hI rfl (by simp) (stop _ _ (K1b ..).extBut))
 | drw T pl b hT hp =>
  obtain ⟨oT,nT,gT,dT⟩:=hT
  have lp:pl.length=es.size:=by rw [hp.length_eq,K1q]
  show wpAny _ _ (Z01 (.ref T) >>= _) _ _ _
  refine K2 (K6j gT dT ?_)
  dsimp only
  rw [K0k,show ((pl.map λ(j:Nat)=>rawInt j).toArray)[es.size]?=none by simp [lp]]
  have u1:(s.heap.update I (K90 (·.setIfInBounds 0 (rawInt 0)))).get? I=some { cls:=.type "set_iterator",data:=.fields (#[.ref T,rawInt es.size,.ref S,rawInt es.size,rawInt ep].setIfInBounds 0 (rawInt 0)) } :=
   K3b _ hI (K5s (K55 rfl _))
  exact K2 (K2q hI rfl (by simp) (K2 (K2q u1 rfl (by simp) (stop _ _ ((K1b ..).trans (K1b ..)).extBut))))
end
theorem zi0 {P:K0n}{w:World}{A:Around}{S I:Addr}{es:Array (Int×Value)}{ep:Nat}{t:K3w}{ord:List (Int×Value)}{o:Obj}{tl:List Addr}(hh:A.handled=none) (hd:o.data=.set es ep t) (hf:t.fits es.size=true) (hr:Rise t.place) (hSI:S≠I) (hl:ord.length=es.size) (htl:I∉tl) :
 Walks P w A I (I::S::tl) [I] es.size (λi v=>∃e,ord[i]?=some e/\v=e.2) (λi h=>h.get? S=some o/\∃f,(∀T,f=.ref T->T∈tl)/\h.get? I=some (z6Q f i S es.size ep)/\Stand w S es ep t h i f ord) where
 sub:=λb hb=>by simp at hb;simp [hb]
 frame:=λi h h' st hk=>by
  obtain ⟨q1,f,q2,q3,q4⟩:=st
  refine ⟨hk S (by simp) _ q1,f,q2,hk I (by simp) _ q3,?_⟩
  cases q4 with
  | txt b=>exact .txt b
  | slo sl b c l e2=>exact .slo sl b c l e2
  | drw T pl b hT hp =>
   obtain ⟨oT,nT,gT,dT⟩:=hT
   exact .drw T pl b ⟨oT,nT,hk T (by simp [q2 T rfl]) _ gT,dT⟩ hp
 item:=λi s Q E hi st hQ=>by
  obtain ⟨q1,f,q2,q3,q4⟩:=st
  have he:ord[i]?=some (ord[i]'(by omega)):=K4 (by omega)
  refine zr7 q1 hd hf hr q3 q4 he hSI λh' f' sb g st' tt=>?_
  refine hQ _ h' s.toks ⟨_,he,rfl⟩ ⟨?_,f',λT z=>q2 T (tt T z),g,st'⟩ λb ob hb e=>?_
  ·rw [sb.2 S hSI];exact q1
  ·rw [sb.2 b (λz=>hb (by simp [z]))];exact e
 done:=λs Q E st hQ=>by
  obtain ⟨q1,f,q2,q3,q4⟩:=st
  exact zt7 hh q1 hd hf q3 q4 λh' eb=>hQ h' s.toks λb ob hb e=>eb b ob (λz=>hb (by simp [z])) e
 self:=λi s Q E st hQ=>by
  obtain ⟨q1,f,q2,q3,q4⟩:=st
  have hT:s.TypeIs (.ref I) "set_iterator":=⟨_,q3,rfl⟩
  refine wpAny_pyIter_slot hT z3B (K28 z3B hT z5c ?_ (z6h _))
  show wpAny _ _ (ret (.ref I)) _ _ s
  exact K9 ⟨_,rfl,"set_iterator",_,hT,slot_si_next.lookup,hQ⟩
section
variable {P:K0n}{w:World}{A:Around}{E:Value->Shared->Prop}{s:Shared}{S:Addr}{es:Array (Int×Value)}{ep:Nat}{t:K3w}{o:Obj}
theorem zg6 {Q:Value->Shared->Prop}(ho:s.heap.get? S=some o) (hc:o.ExactSet) (hd:o.data=.set es ep t) (hf:t.fits es.size=true) (hr:Rise t.place) (hb:es.size<scanBound) (hl:t.led=true∨w.params.followText "set-order" = true)
 (hQ:∀(h':Heap) (d':Drawn) (I:Addr) (f:Value) (ord:List (Int×Value)) (tl:List Addr),(∀b ob,s.heap.get? b=some ob->h'.get? b=some ob)->s.heap.objs.size≤I->h'.get? I=some (z6Q f 0 S es.size ep)->(∀T,f=.ref T->T∈tl)->(∀T∈tl,s.heap.objs.size≤T/\T<h'.objs.size/\T≠I)->Stand w S es ep t h' 0 f ord->Q (.ref I) { s with heap:=h',drawn:=d' }) :
 wpAny (model P w) A (pyIter (.ref S)) Q E s:=by
 have hT:s.TypeIs (.ref S) "set":=⟨o,ho,hc.1⟩
 refine wpAny_pyIter_slot hT F.slot_set_iter (K28 F.slot_set_iter hT z6e ?_ (z6H _))
 unfold Builtin.«frozenset.__iter__» Builtin.Frozenset.slot0 slotArgs
 simp only [List.isEmpty_nil,K79,K1f,↓reduceIte,bind_assoc,K0g,bne_self_eq_false]
 unfold Builtin.Frozenset.addrOf Builtin.Frozenset.sizeOf
 refine K2 (K9 ?_)
 try dsimp only
 refine K2 (K9 ?_)
 refine K2 (K2 (K67 ho hd hf (K9 ?_)))
 unfold setDrawn K98
 refine K2 (K2 (K3k ho hd hf (K2 (K2 (K34 (K9 (K9 ?_)))))))
 dsimp only
 have tailW:∀(h0:Heap) (d0:Drawn) (first:Value) (ord:List (Int×Value)) (tl:List Addr),(∀b ob,s.heap.get? b=some ob->h0.get? b=some ob)->s.heap.objs.size≤h0.objs.size->(∀T,first=.ref T->T∈tl)->(∀T∈tl,s.heap.objs.size≤T/\T<h0.objs.size) ->
  (∀h',(∀b ob,h0.get? b=some ob->h'.get? b=some ob)->Stand w S es ep t h' 0 first ord) ->
  wpAny (model P w) A.in1 (setEpoch S >>= λe=>newFields "set_iterator" [first,rawInt 0,.ref S,rawInt es.size,rawInt e] >>= λv=>ret v) (λfin s'=>∃v,fin=.done (.ret v)/\∃T' r,s'.TypeIs v T'/\typeLookup (K3n T') (K4m "__next__")=pure (some r)/\Q v s') E { s with heap:=h0,drawn:=d0 }:=λh0 d0 first ord tl k1 k2 k3 k4 k5=>by
  refine K2 (wpAny_setEpoch_of (s:={ s with heap:=h0,drawn:=d0 }) (k1 S o ho) hd hf ?_)
  refine K2 (K1i (K9 ⟨_,rfl,"set_iterator",_,⟨_,K05 _ rfl,rfl⟩,slot_si_next.lookup,?_⟩))
  refine hQ _ d0 h0.objs.size first ord tl (λb ob e=>K6 _ (k1 b ob e)) k2 (K05 _ rfl) k3 (λT hT=>?_) (k5 _ λb ob e=>K6 _ e)
  obtain ⟨z1,z2⟩:=k4 T hT
  exact ⟨z1,by rw [K1l];exact K2u z2,K0p z2⟩
 cases hb':w.params.followText "set-order" with
 | true =>
  rw [show (model P w).w.params.followText "set-order" = true from hb',if_neg (by simp)]
  refine K2 (K9 ?_)
  exact tailW s.heap s.drawn (rawInt 0) _ [] (λ_ _ e=>e) (K01 _) (λT z=>by cases z) (λT z=>by cases z) λh' _=>.txt hb'
 | false =>
  rw [show (model P w).w.params.followText "set-order" = false from hb']
  have led:t.led=true:=by
   rcases hl with hl|hl
   ·exact hl
   ·rw [hb'] at hl;cases hl
  show wpAny _ _ (if (!false&&(!t.plain&&decide (es.size > 1)))=true then _ else _) _ _ _
  rw [K4i,Bool.true_and]
  cases hdr:(!t.plain&&decide (es.size > 1)) with
  | false =>
   rw [if_neg (by decide)]
   refine K2 (K9 ?_)
   exact tailW s.heap s.drawn (rawInt 0) _ [] (λ_ _ e=>e) (K01 _) (λT z=>by cases z) (λT z=>by cases z) λh' _=>.slo 0 hb' hdr led (z8l hr)
  | true =>
   rw [if_pos rfl]
   refine K2 (z4I es.size (K8 es.size) s _ (by simp) λys d' pm=>?_)
   have ly:(ys.map λ(i:Nat)=>rawInt i).length≤sizeLine:=by
    rw [K00,pm.length_eq,K1q]
    exact K5r hb
   refine K2 (wpAny_newTuple ?_ ly)
   refine tailW (s.heap.push { cls:=.type "tuple",data:=.seq (ys.map λ(i:Nat)=>rawInt i).toArray }) d' (.ref s.heap.objs.size) _ [s.heap.objs.size] (λb ob e=>K6 _ e) (by rw [K1l];exact K4g _)
    (λT z=>by cases z;exact K52.mpr rfl) (λT z=>?_) λh' k=>.drw s.heap.objs.size ys hb' ⟨_,_,k _ _ (K05 _ rfl),rfl⟩ pm
   have:=K52.mp z
   subst this
   exact ⟨K01 _,by rw [K1l];exact K5x _⟩
theorem z72 {Q:List Value->Shared->Prop}(hh:A.handled=none) (ho:s.heap.get? S=some o) (hc:o.ExactSet) (hd:o.data=.set es ep t) (hf:t.fits es.size=true) (hr:Rise t.place) (hb:es.size<scanBound) (hl:t.led=true∨w.params.followText "set-order" = true)
 (hQ:∀(h':Heap) (d':Drawn) (tk:Nat) (ord:List (Int×Value)),(∀b ob,s.heap.get? b=some ob->h'.get? b=some ob)->s.heap.objs.size≤h'.objs.size->ord.Perm es.toList->Q (ord.map (·.2)) { s with heap:=h',drawn:=d',toks:=tk }) :
 wpAny (model P w) A (K9l (.ref S)) Q E s:=by
 have hS:S<s.heap.objs.size:=K06 ho
 unfold K9l
 refine K2 (K5n (K24 F.entry_proto_collect ?_))
 rw [K1j F.plain_proto_collect _]
 show wpAny _ A.in1 (K9k [] >>= λl=>again (.builtin "list.__iadd__" ⟨[l,.ref S],[]⟩)) _ _ s
 refine K2 (K1i (K9 ⟨K4u K2j _,K24 F.entry_list_iadd ?_⟩))
 rw [K1j K2j _]
 show wpAny _ A.in1 (K31 (.ref s.heap.objs.size) (.ref S) (.ref s.heap.objs.size)) _ _ _
 unfold K31
 have g1:(s.heap.push { cls:=.type "list",data:=.seq ([]:List Value).toArray }).get? S=some o:=K6 _ ho
 have tS:K78 { s with heap:=s.heap.push { cls:=.type "list",data:=.seq ([]:List Value).toArray } } (.ref S) "set":=⟨o,g1,hc.1⟩
 refine K2 (K9r tS ?_)
 have n1:K7c (.ref s.heap.objs.size) (.ref S)=false:=by
  simp only [K7c]
  exact beq_eq_false_iff_ne.mpr (K1r hS)
 rw [if_neg (by rw [n1];decide)]
 refine K2 (zg6 (s:={ s with heap:=s.heap.push { cls:=.type "list",data:=.seq ([]:List Value).toArray } }) g1 hc hd hf hr hb hl λh1 d1 I f ord tl k1 k2 k3 k4 k5 st=>?_)
 have g2:h1.get? S=some o:=k1 S o g1
 have gL:h1.get? s.heap.objs.size=some { cls:=.type "list",data:=.seq ([]:List Value).toArray }:=k1 _ _ (K05 _ rfl)
 have tS2:K78 { s with heap:=h1,drawn:=d1 } (.ref S) "set":=⟨o,g2,hc.1⟩
 refine K2 (K21 ?_)
 unfold Builtin.List.listLengthHint
 refine K2 (K8d tS2 F.slot_set_len.lookup ?_)
 have sp:splitId "set.__len__" = some ("set","__len__"):=by decide +kernel
 dsimp only
 rw [sp]
 dsimp only
 refine K2 (wpAny_isInstance (b:=true) tS2 (by rw [K5o];kernel_rfl) ?_)
 rw [if_neg (by decide),if_pos (by decide +kernel)]
 refine K2 (K9r tS2 (K9 ?_))
 rw [if_pos (by decide +kernel)]
 have u1:=get?_update_seq (c:="list") (xs:=([]:List Value).toArray) (n:=0) gL (·.push .none)
 have u2:=get?_update_seq u1 (·.pop)
 refine K2 (K6i ?_)
 unfold Builtin.List.listTouch
 refine K2 (K2 (listUpdate_at (s:={ s with heap:=h1,drawn:=d1 }) gL rfl (listUpdate_at (s:={ s with heap:=h1.update s.heap.objs.size (K50 (·.push .none)),drawn:=d1 }) u1 rfl ?_)))
 generalize hh2:(h1.update s.heap.objs.size (K50 (·.push .none))).update s.heap.objs.size (K50 (·.pop))=h2 at u2 ⊢
 have keep2:∀b ob,b≠s.heap.objs.size->h1.get? b=some ob->h2.get? b=some ob:=λb ob hb e=>by
  rw [← hh2,K32 _ _ (K4p hb),K32 _ _ (K4p hb)]
  exact e
 have hIs:s.heap.objs.size+1≤I:=by rw [K1l] at k2;exact k2
 have hSI:S≠I:=K0p (K0l hS (K9w hIs))
 have lo:ord.length=es.size:=by rw [st.perm.length_eq,K17]
 have W:=zi0 (P:=P) (w:=w) (A:=A.in1) (S:=S) (I:=I) (ord:=ord) (o:=o) (tl:=tl) (by simp [hh]) hd hf hr hSI lo (λz=>(k5 I z).2.2 rfl)
 have hLf:s.heap.objs.size∉I::S::tl:=by
  simp only [K0v,not_or]
  refine ⟨K0p hIs,K1r hS,λz=>?_⟩
  have:=(k5 _ z).1
  rw [K1l] at this
  exact K2a _ this
 have st0:(λi (h:Heap)=>h.get? S=some o/\∃f,(∀T,f=.ref T->T∈tl)/\h.get? I=some (z6Q f i S es.size ep)/\Stand w S es ep t h i f ord) 0 h2:=by
  refine ⟨keep2 S o (K0p hS) g2,f,k4,keep2 I _ (K1r hIs) k3,?_⟩
  cases st with
  | txt b=>exact .txt b
  | slo sl b c l e2=>exact .slo sl b c l e2
  | drw T pl b hT hp =>
   obtain ⟨oT,nT,gT,dT⟩:=hT
   refine .drw T pl b ⟨oT,nT,keep2 T oT (λz=>?_) gT,dT⟩ hp
   have:=(k5 T (k4 T rfl)).1
   rw [K1l,z] at this
   exact K2a _ this
 refine K9 ⟨K4u F.plain_extend_loop _,codeAny_extend_loopS W.toS (K5r hb) s.heap.objs.size hLf _ es.size 0 { s with heap:=h2,drawn:=d1 } #[] 2 (by omega) (K3g _) st0 (by simpa [seqObj] using u2) (K76.nil _) λs' acc c' hm gS' hacc=>?_⟩
 show wpAny _ A (load s.heap.objs.size >>= _) _ _ s'
 refine K2 (K7y gS' (K9 ?_))
 have ea:acc.toList=ord.map (·.2):=by
  refine K1x λj=>?_
  rw [K0e,K39]
  cases hj:acc[j]? with
  | none =>
   have h1:=Array.getElem?_eq_none_iff.mp hj
   rw [hacc.1] at h1
   rw [K0i (by omega)]
   rfl
  | some v =>
   obtain ⟨e,h1,h2⟩:=hacc.2 j v hj
   rw [h1,h2]
   rfl
 rw [ea]
 obtain ⟨h',g',d',tk',os'⟩:=s'
 have e1:g'=s.gens:=hm.gens
 have e2:d'=d1:=hm.drawn
 have e3:os'=s.os:=hm.os
 subst e1;subst e2;subst e3
 refine hQ h' d' tk' ord (λb ob e=>?_) ?_ st.perm
 ·have hb2:b≠s.heap.objs.size:=K0p (K06 e)
  refine hm.heap b ob ?_ (keep2 b ob hb2 (k1 b ob (K6 _ e)))
  simp only [K0v,K52,K4n,or_false,not_or]
  exact ⟨hb2,K0p (K0l (K06 e) (K9w hIs))⟩
 ·exact K23 (K06 gS')
end
theorem zB0 {k:Key}{u:Value}(r:RelV (kV k) u):z1V k u=true:=by
 cases k with
 | inl i=>obtain ⟨t,rfl⟩:=r;exact z62 i t
 | inr x=>obtain ⟨t,rfl⟩:=r;exact z5S x t
theorem z5B:∀{ks:List Key}{us:List Value},Vals (ks.map kV) us->∀(i:Nat) u,us[i]?=some u->∃k,ks[i]?=some k/\z1V k u=true
 | [],_,h,i,u,e=>by cases h;simp at e
 | k::ks,_,.cons h1 h2,0,u,e=>by simp at e;subst e;exact ⟨k,rfl,zB0 h1⟩
 | k::ks,_,.cons h1 h2,i+1,u,e=>by
  obtain ⟨k',q1,q2⟩:=z5B h2 i u (by simpa using e)
  exact ⟨k',by simpa using q1,q2⟩
theorem z8o (ks:List Key):(K8 ks.length).map (λi=>(ks[i]?).getD (.inl 0))=ks:=by
 refine K1x λi=>?_
 rw [K0e]
 by_cases h:i<ks.length
 ·rw [K1p h,K4 h]
  simp [K4 h]
 ·rw [K0i (by simpa using h),K0i (by omega)]
  rfl
section
variable {X:Cx}
theorem zb0 (hc:X.calm=true):z2z X (.type "set") (λxs H Q=>∃l ks,xs=[.ref l]/\(SqL X.K H l (ks.map kV)∨SqT X.K H l (ks.map kV))/\ks.length+1<scanBound/\∀q,H q=none->Q (.ref q) (upd H q (.set (dedK ks)))):=by
 intro pins s σ H xs us Q I r h
 obtain ⟨l,ks,rfl,hq,hb,q⟩:=h
 obtain ⟨u,rfl,ru⟩:=vals1 r
 cases ru
 have hh:=I.ok.hd hc
 have go:∀{its:List Value} {T:String},T = "list"∨T = "tuple"->Vals (ks.map kV) its->(∃o,s.heap.get? l=some o/\o.cls=.type T/\∃n,o.data=.seq its.toArray n)->wpAny (model X.prog X.w) X.A (call (.type "set") [.ref l]) (EP X pins σ Q) X.xe s:=λ{its T} hT rv hl=>by
  have le:its.length=ks.length:=by rw [← rv.length,K00]
  refine z9N (key:=λi=>(ks[i]?).getD (.inl 0)) hT hh hl (λi v e=>?_) (by rw [K09,le];exact hb) λh' tk S2 kp=>?_
  ·obtain ⟨k,e1,e2⟩:=z5B rv i v (by simpa using e)
   rw [e1]
   exact e2
  ·rw [show its.toArray.size=ks.length by rw [K09,le],z8o] at S2
   exact ⟨.ref s.heap.objs.size,_,I.laid (t':=tk) (o:=.set (dedK ks)) kp (K01 _) S2,rfl,q _ I.fresh⟩
 rcases hq with hq|hq
 ·obtain ⟨its,r',pl,hz⟩:=I.list hq
  exact go (.inl rfl) r' pl.isList
 ·obtain ⟨its,r',pl,hz⟩:=I.tuple hq
  exact go (.inr rfl) r' pl
theorem zx8 {pins:List (Addr×Obj)}{σ:L2.St}{H:Hp}{s:Shared}{a:Addr}{ks:List Key}(I:L2.Inv X pins σ H s) (h:H a=some (.set ks)):SetAt X.w s.heap a ks:=I.hok a _ h
theorem zb1:∀{ns:List Int}{l:List (Int×Value)}{w:World}{ks:List Key},ks=ns.map K3s->Paired (KE w) ks l->K5m (l.map (·.2)) ns
 | [],l,w,ks,e,h=>by subst e;cases h;exact .nil
 | n::ns,l,w,ks,e,h=>by
  subst e
  cases h with
  | cons h1 h2 =>
   rcases j9 h1.1 with ⟨i,t,e1,e2⟩|⟨x,t,e1,e2⟩
   ·cases e1
    rw [K0t,e2]
    exact .cons _ t (zb1 rfl h2)
   ·cases e1
theorem zf3 {ns:List Int}:∀{ks:List Key},ks.Perm (ns.map K3s)->∃ms:List Int,ks=ms.map K3s/\ms.Perm ns:=λ{ks} p=>by
 have:∀k∈ks,∃i:Int,k=K3s i:=λk hk=>by
  obtain ⟨i,_,e⟩:=K04.mp (p.mem_iff.mp hk)
  exact ⟨i,e.symm⟩
 have e:ks=(ks.filterMap λk=>match k with|.inl i=>some i|.inr _=>none).map K3s:=by
  clear p
  induction ks with
  | nil=>rfl
  | cons k ks ih =>
   obtain ⟨i,rfl⟩:=this k K1k
   rw [K3r]
   dsimp only
   rw [K0t,← ih λk hk=>this k (K1a _ hk)]
 refine ⟨_,e,?_⟩
 have q:=p.filterMap λk=>match k with|.inl i=>some i|.inr _=>none
 refine q.trans ?_
 rw [K9a]
 have:(List.filterMap ((λk:Key=>match k with|.inl i=>some i|.inr _=>none) ∘ K3s) ns)=ns:=by
  induction ns with
  | nil=>rfl
  | cons n ns ih=>simp [K70]
 rw [this]
theorem z6m (hc:X.calm=true):z2z X (.builtin "sorted") (λxs H Q=>∃a ns,xs=[.ref a]/\H a=some (.set (ns.map K3s))/\ns.length<64/\∀q,H q=none->Q (.ref q) (upd H q (.lst ((sortI ns).map V.int)))):=by
 intro pins s σ H xs us Q I r h
 obtain ⟨a,ns,rfl,hH,h64,q⟩:=h
 obtain ⟨u,rfl,ru⟩:=vals1 r
 cases ru
 obtain ⟨o,es,ep,t,ks',h1,h2,h3,h4,h5,h6,h7,h8,h9,h0⟩:=zx8 I hH
 refine K6s kind_sorted plain_sorted entry_sorted (args_sorted1 _) ?_
 unfold Builtin.«sorted»
 refine K2 (m:=checkCount "sorted" 1 1 _) (K9 ?_)
 refine K2 (z72 (by simp [I.ok.hd hc]) h1 h2 h3 h8 h9 h7 h0 λh' d' tk ord kp sz pm=>?_)
 obtain ⟨k2,p1,p2⟩:=z2L pm h4
 obtain ⟨ms,rfl,pm2⟩:=zf3 (p1.trans h5)
 have ia:=zb1 rfl p2
 have l1:(ord.map (·.2)).length=ns.length:=by rw [← pm2.length_eq,K00,← K4a p2,K00]
 refine K2 (wpAny_newList ?_ (by rw [l1];exact K23 (K0l h64 (by decide))))
 have gL:(h'.push (seqObj "list" (ord.map (·.2)).toArray 0)).get? h'.objs.size=some (seqObj "list" (ord.map (·.2)).toArray 0):=K05 _ rfl
 refine K2 (K21 (K28 slot_list_sort ⟨_,gL,rfl⟩ entry_list_sort (list_sort_tree gL ia (by rw [l1];exact h64) λout ns' a1 a2 a3=>⟨_,rfl,?_⟩) (args_list_sort _)))
 refine K9 ⟨_,rfl,?_⟩
 obtain ⟨e,ge⟩:=sortedHeap_at (out:=out) gL
 have es':ns'=sortI ns:=z58 (a2.trans pm2) a3
 subst es'
 have un:∀b ob,s.heap.get? b=some ob->(sortedHeap (h'.push (seqObj "list" (ord.map (·.2)).toArray 0)) h'.objs.size (ord.map (·.2)) out).get? b=some ob:=λb ob eb=>by
  have lt:=K06 (kp b ob eb)
  rw [sortedHeap_old (K0p lt) (by rw [K1l];exact K2u lt)]
  exact K6 _ (kp b ob eb)
 have ho:=I.hok.laid (a:=h'.objs.size) (o:=.lst ((sortI ns).map V.int)) un sz ⟨by rw [K00,(sortI_perm ns).length_eq];exact K23 (K0l h64 (by decide)),out.toList,e,z5q a1,ge⟩
 exact ⟨.ref h'.objs.size,_,I.call' (s':={ s with heap:=_,drawn:=d',toks:=tk }) (ch:=[]) rfl (Un.laid un sz (I.hok.fresh sz)) ho I.bare (λb z=>absurd z (by simp)),rfl,q _ (I.hok.fresh sz)⟩
end
section
variable {P:K0n}{w:World}{A:Around}{E:Value->Shared->Prop}{s:Shared}
end
def keyD:D->Option Key
 | .int i=>some (.inl i)
 | .str x=>some (.inr x)
 | _=>none
def z53:List D->Option (List Key)
 | []=>some []
 | d::r=>match keyD d,z53 r with
  | some k,some ks=>some (k::ks)
  | _,_=>none
theorem zA0 {K:K1}{ρ:List Addr}{H:Hp}{d:D}{k:Key}{v:V}(e:keyD d=some k) (r:RD K ρ H d v):v=kV k:=by
 cases d<;>first|(simp only [keyD] at e;cases e;done)|skip
 ·simp only [keyD,K6z] at e;subst e;simp only [RD] at r;exact r
 ·simp only [keyD,K6z] at e;subst e;simp only [RD] at r;exact r
theorem z82 {K:K1}{ρ:List Addr}{H:Hp}:∀{ds:List D}{ks:List Key}{vs:List V},z53 ds=some ks->RDs K ρ H ds vs->vs=ks.map kV
 | [],ks,vs,e,r=>by simp only [RDs] at r;cases e;subst r;rfl
 | d::ds,ks,vs,e,r=>by
  simp only [RDs] at r
  obtain ⟨v,r2,rfl,h1,h2⟩:=r
  rw [z53] at e
  cases e1:keyD d with
  | none=>rw [e1] at e;cases e
  | some k =>
   rw [e1] at e
   cases e2:z53 ds with
   | none=>rw [e2] at e;cases e
   | some ks' =>
    rw [e2] at e
    cases e
    rw [zA0 e1 h1,z82 e2 h2]
    rfl
def getS (n:Nat):M (List Key):=λh=>match h[n]? with
 | some (.set ks)=>.ok ks h
 | _=>.bad
def newSet (ks:List Key):M D:=λh=>.ok (.ref h.length) (h++[.set ks])
def z1h:List D->M D
 | [x]=>do
  let xs ← seqD x
  match z53 xs with
  | some ks=>if ks.length+1<4096 then newSet (dedK ks) else bad
  | none=>bad
 | _=>bad
def z5T:List Key->Option (List Int)
 | []=>some []
 | .inl i::r=>(z5T r).map (i::·)
 | .inr _::_=>none
theorem z7D:∀{ks:List Key}{ns:List Int},z5T ks=some ns->ks=ns.map K3s
 | [],ns,e=>by cases e;rfl
 | .inl i::r,ns,e=>by
  rw [z5T] at e
  obtain ⟨ms,e1,rfl⟩:=K10.mp e
  rw [z7D e1]
  rfl
 | .inr _::_,ns,e=>by rw [z5T] at e;cases e
def x8:List D->M D
 | [.ref n]=>do
  let ks ← getS n
  match z5T ks with
  | some ns=>if ns.length<64 then newL ((sortI ns).map .int) else bad
  | none=>bad
 | _=>bad
def zP1:D->M Nat
 | .ref n=>λh=>match h[n]? with
  | some (.set _)=>.ok n h
  | _=>.bad
 | _=>bad
def eMS (f:Nat->D->M D) (mo ma:G->M D):G->M D:=λγ=>do
 let o ← mo γ
 let n ← zP1 o
 let v ← ma γ
 f n v
section
variable {X:Cx}{EX:XX}{a o:Expr}{p pos apos cpos:Pos}{ma mo:G->M D}{mr:G->M (List D)}
theorem zj6 {K:K1}{ρ:List Addr}{h:AH}{H:Hp}{n:Nat}{q:Addr}{Z:List Key->List Addr->AH->Hp->Prop}(r:RH K ρ h H) (hq:ρ[n]?=some q) (f:Fin K EX ρ H Z (getS n h)):∃ks,H q=some (.set ks)/\Z ks ρ h H:=by
 unfold getS at f
 cases e:h[n]? with
 | none=>rw [e] at f;exact f.elim
 | some ob =>
  cases ob with
  | lst xs=>rw [e] at f;exact f.elim
  | dct=>rw [e] at f;exact f.elim
  | dK kvs=>rw [e] at f;exact f.elim
  | dF kvs=>rw [e] at f;exact f.elim
  | exc c=>rw [e] at f;exact f.elim
  | set ks =>
   rw [e] at f
   obtain ⟨a1,n1,o1⟩:=r.at e
   rw [hq] at n1;cases n1
   exact ⟨ks,o1,f ρ H (Pre.refl _) (Ext.refl _ _) r⟩
theorem z8u {K:K1}{ρ:List Addr}{h:AH}{H:Hp}{ks:List Key}{Q:VK}{q:Addr}(r:RH K ρ h H) (hq:H q=none) (f:FE K EX ρ H Q (newSet ks h)):Q (.ref q) (upd H q (.set ks)):=by
 refine f (ρ++[q]) _ (Pre.app _ _) (Ext.upd (.inl hq)) (r.pushS hq) (.ref q) ?_
 simp only [RD]
 exact ⟨q,rfl,by rw [← r.len];simp⟩
theorem zM4:AR X.K EX (λxs H Q=>∃l ks,xs=[.ref l]/\(SqL X.K H l (ks.map kV)∨SqT X.K H l (ks.map kV))/\ks.length+1<scanBound/\∀q,H q=none->Q (.ref q) (upd H q (.set (dedK ks)))) z1h:=by
 intro ρ h H ds vs Q r rd fin
 unfold z1h at fin
 split at fin
 ·rename_i x
  obtain ⟨v,rfl,rv⟩:=rds1 rd
  have f1:=Fin.bind fin
  cases e:seqD x h with
  | bad=>rw [e] at f1;exact f1.elim
  | err z hz=>exact (z3n e).elim
  | ok ys h1 =>
   obtain ⟨rfl,p,xs,rfl,hs,hd⟩:=z2p r rv e
   rw [e] at f1
   have f2:=f1 ρ H (Pre.refl _) (Ext.refl _ _) r
   dsimp only at f2
   cases e2:z53 ys with
   | none=>rw [e2] at f2;exact f2.elim
   | some ks =>
    rw [e2] at f2
    dsimp only at f2
    split at f2
    ·rename_i hl
     have ek:=z82 e2 hd
     subst ek
     exact ⟨p,ks,rfl,hs,hl,λq hq=>z8u r hq f2⟩
    ·exact f2.elim
 ·exact fin.elim
theorem z2U (hc:X.calm=true) (hg:Gl X "set") (hm:X.mg "set" = none) (ha:SA X EX [a] mr) (he:K0b [a] X.env=[(false,eval a X.env)]:=by rfl):SE X EX (.Call (.Name "set" p) [a] [] pos) (Z6 z1h mr) :=
 z1y (z1a (zb0 hc) hg hm (by decide +kernel) ha.h (by decide) (by decide) he rfl) zM4
theorem z8t:AR X.K EX (λxs H Q=>∃a ns,xs=[.ref a]/\H a=some (.set (ns.map K3s))/\ns.length<64/\∀q,H q=none->Q (.ref q) (upd H q (.lst ((sortI ns).map V.int)))) x8:=by
 intro ρ h H ds vs Q r rd fin
 unfold x8 at fin
 split at fin
 ·rename_i n
  obtain ⟨v,rfl,rv⟩:=rds1 rd
  simp only [RD] at rv
  obtain ⟨q,rfl,hq⟩:=rv
  obtain ⟨ks,h1,f2⟩:=zj6 r hq (Fin.bind fin)
  cases e:z5T ks with
  | none=>rw [e] at f2;exact f2.elim
  | some ns =>
   rw [e] at f2
   dsimp only at f2
   split at f2
   ·rename_i hl
    refine ⟨q,ns,rfl,by rw [h1,z7D e],hl,λl hl2=>?_⟩
    unfold newL at f2
    split at f2
    ·refine f2 (ρ++[l]) _ (Pre.app _ _) (Ext.upd (.inl hl2)) (r.push hl2 ?_) (.ref l) ?_
     ·have:∀ms:List Int,RDs X.K ρ H (ms.map D.int) (ms.map V.int):=λms=>by
       induction ms with
       | nil=>exact RDs.nil
       | cons m ms ih=>exact RDs.cons (by simp [RD]) ih
      exact this _
     ·simp only [RD]
      exact ⟨l,rfl,by rw [← r.len];simp⟩
    ·exact f2.elim
   ·exact f2.elim
 ·exact fin.elim
theorem z1H (hc:X.calm=true) (hg:Gl X "sorted") (hm:X.mg "sorted" = none) (ha:SA X EX [a] mr) (he:K0b [a] X.env=[(false,eval a X.env)]:=by rfl):SE X EX (.Call (.Name "sorted" p) [a] [] pos) (Z6 x8 mr) :=
 z1y (z1v (z6m hc) hg hm boot_sorted ha.h (by decide) (by decide) he rfl) z8t
end
theorem zL0 {P:K0n}{w:World}{K:K1}{mg:Str->Option Value}{base:Heap}{x:Str}{st:Stmt}{f:Addr}{fd:K2i}{N ps:List Str}{k n:Nat}{mb:G->M Out}(F:Fun K x x st f fd) (S:FnScope N ps (y0 st)) (hb:Binds K fd ps []) (mx:mg x=.(r f)) (hn:ps.length=n)
 (body:∀(cdv:Value) (A:Around) (outer:List Env) (s:Shared) (H:Hp) (E:XK),K3t K cdv x=true->Room k (A.deeper (envOfC x (y0 st) s.heap.objs.size f cdv)) ->
  SB (cxOf CX0 P w K mg base N x (y0 st) f cdv A outer s H E).nox EX0 (z0J st) mb):Fn P w K mg base (k+1) x n (runF N.length mb):=by
 refine ⟨f,fd,ps,?_,hb,F.kp,mx⟩
 obtain ⟨oc,od,kV,doc,pm,an,cdv,ct,osl,rfl,lk,hcd⟩:=F.ex
 refine zF4 lk hcd S (λvs H Q E h=>h.1.trans hn.symm) λA outer s H vs Q E hr h=>?_
 obtain ⟨hl,ρ,ds,h,rh,rd,fin⟩:=h
 refine ⟨_,(body cdv A outer s H E hcd hr).h.nox,ρ,z19 N.length ds,h,⟨z6s rd,rh⟩,?_⟩
 refine (Fin.bind fin).mono λo ρ1 h1 H1 p1 e1 r1 f1=>?_
 cases o with
 | nx γ=>exact λσ _=>FE.here (d:=.non) (h:=h1) f1 r1 (by simp [RD])
 | rt d=>exact λv rv=>f1 ρ1 H1 (Pre.refl _) (Ext.refl _ _) r1 v rv
 | bk γ=>exact (show False from f1).elim
 | ct γ=>exact (show False from f1).elim
section
variable {X:Cx}
end
section
variable {X:Cx}{EX:XX}
end
theorem z9T (t:Addr) (items:Array Value) :
 Meets (Builtin.«enumerate.__new__» ⟨[.type "enumerate",.ref t],[]⟩) (λ_ R s=>s.heap.IsTuple t items /\
  R (.ok (.ret (.ref (s.heap.push { cls:=.type "tuple_iterator",data:=.fields #[.ref t,.int 0 0] }).objs.size)))
   { s with heap:=(s.heap.push { cls:=.type "tuple_iterator",data:=.fields #[.ref t,.int 0 0] }).push { cls:=.type "enumerate",data:=.fields #[.none,.bool false,.ref s.heap.objs.size,rawInt 0,.none,.none] } }) :=
 .of_wp λprog w A R s h=>by
  obtain ⟨hp,g,d,tk,os⟩:=s
  obtain ⟨q1,h⟩:=h
  have hsub:=sub_enumerate
  have L1:Heap.IsTuple (Shared.heap ⟨hp,g,d,tk,os⟩) t items:=q1
  wp_walk
  refine wpAny_stack_any λst=>K9 ?_
  split
  ·rename_i c _ _ _ _ _
   cases (c==K3n "enumerate")
   ·wp_walk using K45 L1
    exact ⟨_,rfl,h⟩
   ·wp_walk using K45 L1
    exact ⟨_,rfl,h⟩
  ·wp_walk using K45 L1
   exact ⟨_,rfl,h⟩
theorem zn2 {P:K0n}{w:World}{A:Around}(hh:A.handled=none) (it t:Addr) (hne:t≠it) (items:Array Value) :
 Draws P w A it [it,t] items.size (λi v=>items[i]?=some v) (λi h=>h.IsTupleIter it t i/\h.IsTuple t items) where
 live:=λ_ _ st=>let ⟨o,ho,_⟩:=st.1;⟨o,ho⟩
 frame:=λ_ _ _ st hk=>⟨st.1.at λo e=>hk it (by simp) o e,st.2.at λo e=>hk t (by simp) o e⟩
 item:=λi s Q E hi st hQ=>zy9 st.1 st.2 (x:=items[i]) (by simp [hi]) λh' hit sb=>hQ _ h' s.toks (by simp [hi]) ⟨hit,st.2.extBut sb.extBut hne⟩ sb
 done:=λs Q E st hE=>zM0 hh st.1 st.2 (by simp) hE
def Ite (K:K1) (t:Addr):It :=
 ⟨λi H=>∃xs x,SqT K H t xs/\xs[i]?=some x,
  λi H v H'=>∃T x,H T=none/\v=.ref T/\(∀xs,SqT K H t xs->xs[i]?=some x)/\H'=upd H T (.tup [.int i,x]),
  λi H=>∃xs,SqT K H t xs/\xs.length=i⟩
theorem z9x {P:K0n}{w:World}{K:K1}{elts:List Expr}{kk:Nat}{pos:Pos}{e it t:Addr}(d1:e≠it) (d2:t≠it) (d3:e≠t) :
 Turn P w K (.Tuple elts kk pos) (Ite K t) [e,it] e (λi h=>(∃old,IsEnum h e it i old)/\h.IsTupleIter it t i) where
 mem:=by simp
 obj:=λi h st b hb=>by
  obtain ⟨⟨old,ee⟩,o,ei,_,di⟩:=st
  simp at hb
  rcases hb with rfl|rfl
  ·exact ⟨_,ee,λv q=>by cases q⟩
  ·exact ⟨_,ei,λv q=>by rw [di] at q;cases q⟩
 keep:=λi h h' st k=>by
  obtain ⟨⟨old,ee⟩,g⟩:=st
  exact ⟨⟨old,k e (by simp) _ ee⟩,g.at λo q=>k it (by simp) o q⟩
 item:=by
  intro X hP hw hK hc i pins s σ H E I hf st hg
  subst hP hw hK
  obtain ⟨xs,x,q1,hx⟩:=hg
  obtain ⟨its,rv,pl,hz⟩:=I.tuple q1
  obtain ⟨u,hu,ru⟩:=rv.get hx
  obtain ⟨⟨old,ee⟩,g⟩:=st
  have hi:i<its.toArray.size:=by
   have:=(K5.mp hu).1
   simpa using this
  have pT:s.heap.IsTuple t its.toArray:=pl
  refine K7u (zn2 (by simp [I.ok.hd hc]) it t d2 its.toArray) ee ⟨g,pT⟩ hi d1 (by simp [d1,d3]) λy h' tk hy eo st' gT sz kp=>?_
  have ey:y=u:=by
   have:its.toArray[i]?=some u:=by simpa using hu
   rw [hy] at this
   exact K13 this
  subst ey
  refine ⟨_,rfl,K6p eo λh2 eo2 sb=>?_⟩
  have elt:e<s.heap.objs.size:=K06 ee
  have ilt:it<s.heap.objs.size:=by obtain ⟨o,q,_⟩:=g;exact K06 q
  have hT:IsTup0 h2 s.heap.objs.size [K5t i tk,y].toArray:=⟨_,(sb.2 _ (K1r elt)).trans gT,⟨rfl,rfl⟩,_,rfl⟩
  have J:=zE6 (t:=tk+1) (ch:=[e,it]) (T:=s.heap.objs.size) (vs:=[.int i,x]) (its:=[.int i tk,y]) (h2:=h2) I hf
   (λb o hb q=>by simp at hb;exact (sb.2 b hb.1).trans (kp b o hb.1 hb.2 q)) (K01 _) hT (.cons ⟨tk,rfl⟩ (.cons ru .nil)) (by show 2≤sizeLine;decide)
  refine ⟨.ref s.heap.objs.size,_,J,rfl,⟨_,x,I.hok.fresh (K01 _),rfl,λxs' h'=>by rw [I.tuple_inj h' q1];exact hx,rfl⟩,?_,λb hb=>?_⟩
  ·exact ⟨⟨_,by simpa using eo2⟩,st'.1.at λo q=>(sb.2 _ (K4p d1)).trans q⟩
  ·have:b<s.heap.objs.size:=by
    simp at hb
    rcases hb with rfl|rfl
    ·exact elt
    ·exact ilt
   rw [J6 (K0p this)]
   exact (hf b hb).1
 done:=by
  intro X hP hw hK hc i pins s σ H E I hf st hg
  subst hP hw hK
  obtain ⟨xs,q1,hl⟩:=hg
  obtain ⟨its,rv,pl,hz⟩:=I.tuple q1
  obtain ⟨⟨old,ee⟩,g⟩:=st
  have l1:=rv.length
  have pT:s.heap.IsTuple t its.toArray:=pl
  have en:i=its.toArray.size:=by simp;omega
  refine K84 (zn2 (by simp [I.ok.hd hc]) it t d2 its.toArray) ee ⟨by rw [← en];exact g,pT⟩ λh' eb=>⟨rfl,?_⟩
  have hf':∀b∈[it],FpOk X pins H b:=λb hb=>hf b (by simp at hb;simp [hb])
  refine I.step (g':=s.gens) (t':=s.toks) (d':=s.drawn) (ch:=[it]) (λb hb=>⟨(hf' b hb).2.2.2.1,(hf' b hb).2.1,(hf' b hb).2.2.2.2.1,(hf' b hb).2.2.2.2.2⟩) (λb o _ _ hc e _=>?_) (λb o _ _ hc e _=>⟨o.slots,?_⟩)
   (λ_ _ _ _ n=>n) (λb o hc e=>⟨o,?_⟩) (λ_ _ e=>e) (λ_ _ _ e=>e) (λb ps e=>⟨#[],by rw [e];simp⟩) (λm hm=>?_) (λb u e=>?_) I.bare
  ·simp at hc;exact eb b o hc e
  ·simp at hc;exact eb b o hc e
  ·simp at hc;exact eb b o hc e
  ·obtain ⟨o,es,ep,q,r⟩:=hm
   exact ⟨o,es,ep,eb _ o (λy=>(hf' it (by simp)).2.1 y.symm) q,r⟩
  ·refine (I.hok b u e).stay (λc v hc q=>?_) (λ_ q=>q) λ_ _ q=>q
   refine eb c v (λy=>?_) q
   subst y
   rcases hc with y|y
   ·rw [← y,(hf' c (by simp)).1] at e;cases e
   ·rw [(hf' c (by simp)).1] at y;cases y
 self:=λ_ _ _ _ _ st h=>by
  obtain ⟨⟨old,ee⟩,g⟩:=st
  exact K5q ee h
section
variable {X:Cx}{EX:XX}{a:Expr}{elts:List Expr}{kk:Nat}{p pos pt:Pos}{ma:G->M D}
def zE2 (K:K1) (ta:TA):TI:=λσ H R=>ta σ H λvs H2=>∃t xs,vs=[.ref t]/\SqT K H2 t xs/\R (Ite K t) H2
theorem zq4 {ta:TA}(hg:Gl X "enumerate") (hm:X.mg "enumerate" = none) (ha:PA X [a] ta) (hs:K0b [a] X.env=[(false,eval a X.env)]:=by rfl):PI X (.Tuple elts kk pt) (.Call (.Name "enumerate" p) [a] [] pos) (zE2 X.K ta):=by
 intro pins s σ H R I h
 refine Call_ (z4R I hg hm boot_enumerate (K30 (thn (ha pos pins s σ H _ I h) λus s1 ⟨vs,H1,I1,r1,q1⟩=>?_) (by rw [hs];rfl) rfl))
 obtain ⟨t,xs,e,q2,q⟩:=q1
 subst e
 obtain ⟨u,rfl,ru⟩:=vals1 r1
 cases ru
 obtain ⟨its,rv,pl,hz⟩:=I1.tuple q2
 have pT:s1.heap.IsTuple t its.toArray:=pl
 have lt:t<s1.heap.objs.size:=by obtain ⟨o,e,_⟩:=pl;exact K06 e
 refine K9u K7g (by decide) (K64 _) (K6d _) (λobj=>K4l obj _) K6e (z9T t its.toArray) ⟨pT,?_⟩
 have y1:(s1.heap.push { cls:=.type "tuple_iterator",data:=.fields #[.ref t,.int 0 0] }).objs.size=s1.heap.objs.size+1:=K1l ..
 have x2:((s1.heap.push { cls:=.type "tuple_iterator",data:=.fields #[.ref t,.int 0 0] }).push { cls:=.type "enumerate",data:=.fields #[.none,.bool false,.ref s1.heap.objs.size,rawInt 0,.none,.none] }).get? (s1.heap.objs.size+1)=some { cls:=.type "enumerate",data:=.fields #[.none,.bool false,.ref s1.heap.objs.size,rawInt 0,.none,.none] }:=by rw [← y1];exact K05 _ rfl
 have x1:((s1.heap.push { cls:=.type "tuple_iterator",data:=.fields #[.ref t,.int 0 0] }).push { cls:=.type "enumerate",data:=.fields #[.none,.bool false,.ref s1.heap.objs.size,rawInt 0,.none,.none] }).get? s1.heap.objs.size=some { cls:=.type "tuple_iterator",data:=.fields #[.ref t,.int 0 0] }:=K6 _ (K05 _ rfl)
 show _/\_
 rw [y1]
 refine ⟨⟨_,x2,rfl⟩,K5q (e:=s1.heap.objs.size+1) (it:=s1.heap.objs.size) (i:=0) (old:=.none) x2 ?_⟩
 refine ⟨s1.heap.objs.size+1,_,_,_,H1,rfl,I1.kept (t':=s1.toks) (λc o q=>K6 _ (K6 _ q)),z9x (it:=s1.heap.objs.size) (t:=t) (K1r (K5x _)) (K0p lt) (K1r (K2u lt)),⟨⟨_,x2⟩,⟨_,x1,rfl,rfl⟩⟩,λb hb=>?_,q⟩
 have hb':s1.heap.objs.size≤b:=by
  simp at hb
  rcases hb with rfl|rfl
  ·exact K4g _
  ·exact K01 _
 exact I1.fpOk hb' (I1.hok.fresh hb')
def z1k (xs:List D):List D:=(K8 xs.length).map λ(i:Nat)=>.tup [.int i,(xs[i]?).getD .non]
def z87 (ma:G->M D):G->M Src:=λγ=>do
 let l ← z8 ma aNil γ
 match l with
 | [.tup xs]=>pure (.con (z1k xs))
 | _=>bad
theorem z4Z {xs:List D}{i:Nat}{d:D}(h:(z1k xs)[i]?=some d):∃x,xs[i]?=some x/\d=.tup [.int i,x]:=by
 unfold z1k at h
 rw [K0e] at h
 obtain ⟨j,e1,e2⟩:=K10.mp h
 obtain ⟨h1,h2⟩:=K5.mp e1
 simp at h1 h2
 subst h2
 rw [K4 h1] at e2
 exact ⟨_,K4 h1,e2.symm⟩
theorem z9K (hc:X.calm=true) (hg:Gl X "enumerate") (hm:X.mg "enumerate" = none) (ha:SE X EX a ma) (hs:K0b [a] X.env=[(false,eval a X.env)]:=by rfl):SI X EX (.Tuple elts kk pt) (.Call (.Name "enumerate" p) [a] [] pos) (z87 ma) :=
 ⟨PI.imp (zq4 hg hm (z6 ha Z0 hs).h hs) λσ H R ⟨ρ,γ,h,rel,fin⟩=>⟨ρ,γ,h,rel,(Fin.bind fin).mono λl ρ1 h1 H1 p1 e1 r1 f1 vs rv=>by
  split at f1
  ·rename_i xs
   simp only [RDs,RD] at rv
   obtain ⟨_,_,rfl,⟨t,us,rfl,q1,d1⟩,rfl⟩:=rv
   refine ⟨t,us,rfl,q1,f1 ρ1 H1 (Pre.refl _) (Ext.refl _ _) r1 _ λi ρ2 h4 H2 p2 e2 r2 _=>⟨λd hd=>?_,λhi=>?_⟩⟩
   ·have hd':(z1k xs)[i]?=some d:=hd
    obtain ⟨x,g1,rfl⟩:=z4Z hd'
    obtain ⟨v1,a1,b1⟩:=(d1.mono p2 e2).get g1
    refine ⟨⟨us,v1,e2.t _ _ q1,a1⟩,λv H3 ⟨T,x',n1,n2,n3,n5⟩=>?_⟩
    have m1:=n3 us (e2.t _ _ q1)
    rw [a1] at m1;cases m1
    subst n2;subst n5
    have ext:Ext X.K H2 (L2.upd H2 T (.tup [.int i,v1])):=Ext.upd (.inl n1)
    refine ⟨?_,r2.other n1,ext⟩
    simp only [RD]
    exact ⟨T,_,rfl,SqT.of w6,RDs.cons (by simp [RD]) (RDs.cons (b1.mono (Pre.refl _) ext) RDs.nil)⟩
   ·have hi':(z1k xs).length=i:=hi
    unfold z1k at hi'
    rw [K00,K1q] at hi'
    have l1:=d1.length
    exact ⟨us,e2.t _ _ q1,by omega⟩
  ·exact (show False from f1).elim⟩⟩
end
noncomputable def z4d (src:Src) (g:D->G->M G) (mi:G->M Src) (g1:D->G->M G) (k:G->M Bool) (me:G->M D) (n0:Nat) (γ:G):List D->M Unit
 | []=>do
  let _ ← src.chk
  pure ()
 | d::r=>do
  let _ ← src.chk
  let γ1 ← g d γ
  let s1 ← mi γ1
  let _ ← z2K s1 g1 k me n0 γ1 s1.items
  z4d src g mi g1 k me n0 γ r
noncomputable def z8J (cap:List (Option Nat)) (mi:G->M Src) (g:D->G->M G) (mi1:G->M Src) (g1:D->G->M G) (k:G->M Bool) (me:G->M D):G->M D:=λγ=>do
 let src ← mi γ
 let n0 ← (λh=>.ok h.length (h++[.lst []]):M Nat)
 let _ ← z4d src g mi1 g1 k me n0 (capG cap γ) src.items
 pure (.ref n0)
section
variable {X:Cx}{EX:XX}{elt tg iter tg1 iter1:Expr}{ifs1:List Expr}{sc:Scope}{pos:Pos}{N':List Str}{cap:List (Option Nat)}{own own1:List Nat}{mi mi1:G->M Src}{g g1:D->G->M G}{k:G->M Bool}{me:G->M D}
theorem z9M (hc:X.calm=true) (hi1:∀s H fp xe,SI (X.comp N' sc s H fp xe) EX tg1 iter1 mi1) (hg1:∀s H fp xe,SGk (X.comp N' sc s H fp xe) EX tg1 own1 g1) (ht:∀s H fp xe,SCs (X.comp N' sc s H fp xe) EX ifs1 k)
 (he:∀s H fp xe,SE (X.comp N' sc s H fp xe) EX elt me) (hown1:∀j∈own1,cap[j]?=some none/\j∉own) (hs1:∀env x,K11 iter1 env x=pure x) :
 CmA X EX (.ListComp elt [⟨tg,iter,[],0⟩,⟨tg1,iter1,ifs1,0⟩] sc pos) sc tg iter [] N' cap own mi g (λ_=>pure true) (.lst []) (λn0 γ1 K=>do let s1 ← mi1 γ1;let _ ← z2K s1 g1 k me n0 γ1 s1.items;K) (λsrc n0 γ=>z4d src g mi1 g1 k me n0 γ) :=
 ⟨⟨_,_,_,_,λD=>bIn (tI X.K EX mi1) (tGk X.K EX own1 g1) (tT X.K EX k) (bApp (tE X.K EX me) D),zi9,λρ H Dd=>⟨[],w6,RDs.nil⟩,
  λD s H fp xe=>zo3 (.inl ⟨_,_,_,_,rfl⟩) rfl (λ_=>rfl) hc (hi1 s H fp xe).h (λxe'=>(hg1 s H fp xe').h) (λxe'=>(ht s H fp xe').h) (λxe'=>z9s (he s H fp xe').h) (hs1 _),
  λnon hD=>zN9 (F1:=λs1 γ1=>z2K s1 g1 k me _ γ1) (λ_ _=>rfl) (λ_ _ _ _=>rfl) (λj hj=>⟨(hown1 j hj).2,non j (hown1 j hj).1⟩) λp=>zp4 (p _ _ hD)⟩,λ_ _ _=>rfl,λ_ _ _ _ _=>rfl⟩
end
end FT
namespace L2
theorem range_all {α:Type}(r:List α):(K8 r.length).filterMap (λm=>r[m]?)=r:=by
 have:=pick_run r.toArray 0 r.length
 rw [K9a] at this
 have e:((λx=>r.toArray[x]?) ∘ λx=>0+x)=λm=>r[m]?:=by funext m;simp
 rw [e] at this
 rw [this]
 simp
section
variable {prog:K0n}{w:World}{A:Around}{E:Value->Shared->Prop}{s:Shared}
end
section
variable {X:Cx}{e st:Expr}{te ts:TE}{pos p2:Pos}
end
end L2
namespace FT
theorem rds2 {K:K1}{ρ:List Addr}{H:Hp}{d d':D}{vs:List V}(h:RDs K ρ H [d,d'] vs):∃v v',vs=[v,v']/\RD K ρ H d v/\RD K ρ H d' v':=by
 simp only [RDs] at h
 obtain ⟨x,r,rfl,h2,y,q,rfl,h3,rfl⟩:=h
 exact ⟨x,y,rfl,h2,h3⟩
section
variable {X:Cx}{EX:XX}{a b st:Expr}{pos p p2:Pos}{ma ms:G->M D}{mr:G->M (List D)}
end
end FT
namespace L2
structure Fly (base:Heap) (l:List Env) (e T:Addr) (cls:Value) (h:Heap):Prop where
 stays:base.StaysIn h
 ne:base.get? e=none
 nT:base.get? T=none
 fr:h.FunFrames base l
 tr:∃a0 oe vs oT ts,h.get? e=some oe/\(oe.cls=cls/\vs[0]?=some a0)/\oe.data=.fields vs/\vs[1]?=.(r T)/\T≠e/\h.get? T=some oT/\oT.data=.fields ts/\ts[3]?=some .none
structure Kept (l:List Env) (e T:Addr) (h h':Heap):Prop where
 keep:∀b o,h.get? b=some o->b∉frs l->b≠e->b≠T->h'.get? b=some o
 slot:∀b o,h.get? b=some o->b∈frs l->∃sl,h'.get? b=some { o with slots:=sl }
section
variable {M:Model}{A:Around}{E:Value->Shared->Prop}{s:Shared}{base:Heap}{env:Env}{outer:List Env}{L e T:Addr}{cls:Value}{Q:Unit->Shared->Prop}
end
section
variable {X:Cx}{pins:List (Addr×Obj)}{σ:List (Option V)}{H H':Hp}{s:Shared}{h':Heap}
end
def CXE (P:K0n) (w:World) (base:Heap):CXT:=λouter H s E e s'=>∃a T C H',e=.ref a/\Fly base outer a T (.ref C) s'.heap/\s.heap.get? a=none/\s.heap.get? T=none/\H' a=none/\H' T=none/\s'.os=s.os/\K6b s'.gens /\
 Un (frs outer) [] H H' s.heap s'.heap/\HOk P w H' s'.heap/\E (.ref C) none H'
section
variable {M:Model}{A:Around}{E:Value->Shared->Prop}{h:Heap}{g:Array K7p}{d:Drawn}{t:Nat}{os:OsState}{C Ch e:Addr}{oe:Obj}{b:Bool}{Q:Bool->Shared->Prop}
 {nm q:Str} {N:Addr} {bs bm:List Value} {hdct:Bool} {sn:List Str} {sub:List Value} {ab:Bool} {col:Option Bool} {dd:Option Addr} {k0 k1 k2 k3 k5:Option Value} {newId:String}
 {nm' q':Str} {N':Addr} {bs' bm':List Value} {hdct':Bool} {sn':List Str} {sub':List Value} {ab':Bool} {col':Option Bool} {dd':Option Addr} {k0' k1' k2' k3' k5':Option Value} {newId':String}
end
section
variable {X:Cx}{pins:List (Addr×Obj)}{σ:St}{H:Hp}{s:Shared}{e:Value}
end
section
variable {X:Cx}{pins:List (Addr×Obj)}{σ:St}{H1:Hp}{s1 s':Shared}{e:Value}{E:XK}{cn n:Str}{Ch:Addr}{bmH:List Value}{np hpos:Pos}{b₀:Stmt}{suite:List Stmt}{EE:Value->Shared->Prop}{D:Ends}{ts:TS}
theorem back {u:Value}(I1:Inv X pins σ H1 s1) (c:CXE X.prog X.w X.base X.stack H1 s1 E u s'):∃a T C H',u=.ref a/\Fly X.base X.stack a T (.ref C) s'.heap/\s1.heap.get? a=none/\s1.heap.get? T=none/\H' a=none/\H' T=none/\Inv X pins σ H' s'/\E (.ref C) none H':=by
 obtain ⟨a,T,C,H',rfl,F,n1,n2,u1,u2,os,bare,un,hok,hE⟩:=c
 obtain ⟨hh,g,d,t,os'⟩:=s'
 obtain rfl:os'=s1.os:=os
 exact ⟨a,T,C,H',rfl,F,n1,n2,u1,u2,I1.call (h':=hh) (g':=g) (d':=d) (t':=t) (ch:=[]) un hok bare (λb z=>absurd z (by simp)),hE⟩
end
section
variable {M:Model}{A:Around}{E:Value->Shared->Prop}{h:Heap}{g:Array K7p}{d:Drawn}{t:Nat}{os:OsState}
end
section
variable {prog:K0n}{w:World}{A:Around}{E:Value->Shared->Prop}{h:Heap}{g:Array K7p}{d:Drawn}{t:Nat}{os:OsState}{a C:Addr}{o:Obj}
end
section
variable {X:Cx}{x:Str}{C:Addr}{bm:List Value}{B newId initId:String}{e₀:Expr}{rest:List Expr}{t:TA}{np cpos pos:Pos}{R:Hp->Prop}
end
section
variable {X:Cx}{CX:CXT}{k:Nat}{f:Addr}{fd:K2i}{ps:List Str}{sp:Sp}{E:XK}{x:Str}{p pos:Pos}{e:Expr}{es:List Expr}{t:TA}{EE:Value->Shared->Prop}{Q:VK}{pins:List (Addr×Obj)}{σ:St}{H:Hp}{s:Shared}
end
section
variable {X:Cx}{k:Nat}{f Ch:Addr}{fd:K2i}{ps:List Str}{sp:Sp}{x cn y:Str}{i:Nat}{p pos pos1 pos2 py np hpos:Pos}{e:Expr}{es:List Expr}{t:TA}{bmH:List Value}{b₀:Stmt}{suite:List Stmt}{ts:TS}
end
section
variable {X:Cx}{pins:List (Addr×Obj)}{σ:St}{H:Hp}{s:Shared}
end
section
variable {X:Cx}{pins:List (Addr×Obj)}{σ:St}{H1:Hp}{s1 s':Shared}{e:Value}{E:XK}{cn n:Str}{i:Nat}{Ch:Addr}{bmH:List Value}{np hpos:Pos}{b₀:Stmt}{suite:List Stmt}{EE:Value->Shared->Prop}{D:Ends}{ts:TS}
end
section
variable {X:Cx}{k:Nat}{f Ch:Addr}{fd:K2i}{ps:List Str}{sp:Sp}{x cn n:Str}{i:Nat}{p pos pos1 pos2 np hpos:Pos}{e:Expr}{es:List Expr}{t:TA}{bmH:List Value}{b₀:Stmt}{suite:List Stmt}{ts:TS}
end
end L2
namespace FT
section
variable {X:Cx}{EX:XX}{e c:Expr}{es:List Expr}{st:Stmt}{sts:List Stmt}{me:G->M D}{k:G->M Bool}{mr:G->M (List D)}{ms:G->M Out}
end
section
variable {P:K0n}{w:World}{K:K1}{mg:Str->Option Value}{base:Heap}{N:List Str}{qual c:Str}{scope:Scope}{f C:Addr}{cd:Value}{A:Around}{outer:List Env}{s:Shared}{H:Hp}{E:XK}{bm:List Value}
 {e₀:Expr} {rest:List Expr} {mr:G->M (List D)} {np cpos pos:Pos}
end
section
variable {X:Cx}{k n i:Nat}{x cn y:Str}{Ch:Addr}{bmH:List Value}{mf:List D->M D}{mr:G->M (List D)}{ok:Str->Bool}{ms:G->M Out}{e:Expr}{es:List Expr}{b₀:Stmt}{suite:List Stmt}{p pos pos1 pos2 py np hpos:Pos}
end
end FT
namespace L2
section
variable {X:Cx}
end
section
variable {X:Cx}
end
end L2
namespace FT
def fInT (neg:Bool):D->D->M D
 | .str i,.str j=>pure (.bl ((!(K1s j i 0 j.length 1).isEmpty) != neg))
 | _,_=>bad
section
variable {X:Cx}{EX:XX}{a:Expr}{p p2 pos:Pos}{ma:G->M D}{k:Str->Option Bool}
theorem zw4 {K:K1}:BR K EX (λx y H Q=>∃i j,x=.str i/\y=.str j/\Q (.bl (!(!(K1s j i 0 j.length 1).isEmpty))) H) (fInT true):=by
 intro ρ h H x y v u Q r rx ry fin
 unfold fInT at fin
 split at fin
 ·rename_i i j
  simp only [RD] at rx ry;subst rx;subst ry
  refine ⟨i,j,rfl,rfl,FE.here fin r ?_⟩
  cases (K1s j i 0 j.length 1).isEmpty<;>simp [RD]
 ·exact fin.elim
theorem zv9:CO X EX .NotIn (fInT true):=⟨_,z5V,zw4⟩
end
section
variable {X:Cx}{EX:XX}
end
section
variable {X:Cx}{EX:XX}{a:Expr}{p p2 pos:Pos}{ma:G->M D}{k:Str->Option Bool}
end
variable {α β:Type}
def W (m:M α) (h:AH) (Q:α->AH->Prop):Prop:=∃a h',m h=.ok a h'/\Q a h'
theorem Z7 {m:M α}{f:α->M β}{h:AH}{Q:β->AH->Prop}:W (m >>= f) h Q↔W m h λa h1=>W (f a) h1 Q:=by
 constructor
 ·rintro ⟨b,h2,e,q⟩
  rw [bindM] at e
  cases em:m h with
  | ok a h1=>rw [em] at e;exact ⟨a,h1,em,b,h2,e,q⟩
  | err x h1=>rw [em] at e;cases e
  | bad=>rw [em] at e;cases e
 ·rintro ⟨a,h1,e,b,h2,e',q⟩
  exact ⟨b,h2,by rw [M.bind_ok e,e'],q⟩
theorem W_pure {a:α}{h:AH}{Q:α->AH->Prop}:W (Z0t a:M α) h Q↔Q a h:=by
 constructor
 ·rintro ⟨b,h2,e,q⟩;cases e;exact q
 ·exact λq=>⟨a,h,rfl,q⟩
theorem z1A {h:AH}{Q:α->AH->Prop}:W (bad:M α) h Q↔False:=by
 constructor
 ·rintro ⟨b,h2,e,q⟩;cases e
 ·exact K3o
theorem z1m {c:Prop} [Decidable c] {m n:M α}{h:AH}{Q:α->AH->Prop}:W (if c then m else n) h Q↔if c then W m h Q else W n h Q:=by
 split<;>exact Iff.rfl
theorem W.mono {m:M α}{h:AH}{Q Q':α->AH->Prop}(z:W m h Q) (f:∀a h',Q a h'->Q' a h'):W m h Q':=let ⟨a,h',e,q⟩:=z;⟨a,h',e,f a h' q⟩
theorem W.of {m:M α}{h h':AH}{a:α}{Q:α->AH->Prop}(e:m h=.ok a h') (q:Q a h'):W m h Q:=⟨a,h',e,q⟩
theorem z6x {γ:G}{h:AH}{Q:Out->AH->Prop}:W (bNil γ) h Q↔Q (.nx γ) h:=W_pure
def zB5 (mt:G->M Out) (Q:Out->AH->Prop):Out->AH->Prop:=λo h=>match o with
 | .nx γ=>W (mt γ) h Q
 | o=>Q o h
theorem z04 {mt:G->M Out}{Q:Out->AH->Prop}{γ:G}{h:AH}:zB5 mt Q (.nx γ) h↔W (mt γ) h Q:=Iff.rfl
theorem z2h {mt:G->M Out}{Q:Out->AH->Prop}{d:D}{h:AH}:zB5 mt Q (.rt d) h↔Q (.rt d) h:=Iff.rfl
theorem w_cons {ms mt:G->M Out}{γ:G}{h:AH}{Q:Out->AH->Prop}:W (z9 ms mt γ) h Q↔W (ms γ) h (zB5 mt Q):=by
 unfold z9
 rw [Z7]
 constructor
 ·rintro ⟨o,h1,e,q⟩
  refine ⟨o,h1,e,?_⟩
  cases o with
  | nx γ=>exact q
  | rt d=>exact (W_pure (a:=Out.rt d) (Q:=Q)).mp q
  | bk d=>exact (W_pure (a:=Out.bk d) (Q:=Q)).mp q
  | ct d=>exact (W_pure (a:=Out.ct d) (Q:=Q)).mp q
 ·rintro ⟨o,h1,e,q⟩
  refine ⟨o,h1,e,?_⟩
  cases o with
  | nx γ=>exact q
  | rt d=>exact W_pure.mpr q
  | bk d=>exact W_pure.mpr q
  | ct d=>exact W_pure.mpr q
def runW (Q:D->AH->Prop):Out->AH->Prop:=λo h=>match o with
 | .nx _=>Q .non h
 | .rt d=>Q d h
 | _=>False
theorem z29 {n:Nat}{mb:G->M Out}{ds:List D}{h:AH}{Q:D->AH->Prop}(z:W (mb (z19 n ds)) h (runW Q)):W (runF n mb ds) h Q:=by
 unfold runF
 rw [Z7]
 refine z.mono λo h1 q=>?_
 cases o with
 | nx γ=>exact W_pure.mpr q
 | rt d=>exact W_pure.mpr q
 | bk d=>exact q.elim
 | ct d=>exact q.elim
theorem z4E {i j:Int}:fAdd (.int i) (.int j)=pure (.int (i+j)):=rfl
theorem zI7 {i j:Int}:fSub (.int i) (.int j)=pure (.int (i - j)):=rfl
theorem zv2 {i j:Int}:fGt (.int i) (.int j)=pure (.bl (decide (j<i))):=rfl
theorem zJ7 {i j:Int}:fGe (.int i) (.int j)=pure (.bl (decide (j≤i))):=rfl
theorem z8p {i j:Int}:fLt (.int i) (.int j)=pure (.bl (decide (i<j))):=rfl
theorem z8w {i j:Int}:fLe (.int i) (.int j)=pure (.bl (decide (i≤j))):=rfl
theorem z8q {i j:Int}{b:Bool}:fEq b (.int i) (.int j)=pure (.bl (decide (i=j) != b)):=rfl
theorem z0C {b:Bool}:asB (.bl b)=pure b:=rfl
theorem z54 {b:Bool}:truD (.bl b)=pure b:=rfl
theorem z50 {n:Nat}{h:AH}{Q:Nat->AH->Prop}:W (z2y (.ref n)) h Q↔W (getL n) h λ_ h1=>Q n h1:=by
 unfold W z2y getL
 dsimp only
 cases e:h[n]? with
 | none=>exact ⟨λ⟨_,_,z,_⟩=>(by cases z),λ⟨_,_,z,_⟩=>(by cases z)⟩
 | some o =>
  cases o with
  | set ks=>exact ⟨λ⟨_,_,z,_⟩=>(by cases z),λ⟨_,_,z,_⟩=>(by cases z)⟩
  | dct=>exact ⟨λ⟨_,_,z,_⟩=>(by cases z),λ⟨_,_,z,_⟩=>(by cases z)⟩
  | dK kvs=>exact ⟨λ⟨_,_,z,_⟩=>(by cases z),λ⟨_,_,z,_⟩=>(by cases z)⟩
  | dF kvs=>exact ⟨λ⟨_,_,z,_⟩=>(by cases z),λ⟨_,_,z,_⟩=>(by cases z)⟩
  | exc c=>exact ⟨λ⟨_,_,z,_⟩=>(by cases z),λ⟨_,_,z,_⟩=>(by cases z)⟩
  | lst xs=>exact ⟨λ⟨_,_,z,q⟩=>(by cases z;exact ⟨xs,h,rfl,q⟩),λ⟨_,_,z,q⟩=>(by cases z;exact ⟨n,h,rfl,q⟩)⟩
theorem zl9 {b:Bool}{t:String}:fIsi t (.bl b)=pure (.bl (subT "bool" t)):=rfl
theorem z5b {b:Int}{t:String}:fIsi t (.int b)=pure (.bl (subT "int" t)):=rfl
theorem z9G {b:Str}{t:String}:fIsi t (.str b)=pure (.bl (subT "str" t)):=rfl
theorem z74 {b:List D}{t:String}:fIsi t (.tup b)=pure (.bl (subT "tuple" t)):=rfl
def forW (J:G->AH->Prop) (R:D->AH->Prop):Out->AH->Prop:=λo h=>match o with
 | .nx γ=>J γ h
 | .ct γ=>J γ h
 | .bk _=>False
 | .rt d=>R d h
def endW (J:G->AH->Prop) (R:D->AH->Prop):Out->AH->Prop:=λo h=>match o with
 | .nx γ=>J γ h
 | .ct _=>False
 | .bk _=>False
 | .rt d=>R d h
theorem z75 {src:Src}{g:D->G->M G}{body:G->M Out}(I:Nat->G->AH->Prop) (R:D->AH->Prop) (good:∀i γ h,I i γ h->src.good h):∀(items:List D) (n:Nat) (γ:G) (h:AH),
 (∀i d γ h,items[i]?=some d->I (n+i) γ h->W (g d γ) h λγ1 h1=>W (body γ1) h1 (forW (I (n+i+1)) R))->I n γ h ->
 W (forR src g body items γ) h (endW (I (n+items.length)) R)
 | [],n,γ,h,_,q=>⟨.nx γ,h,by unfold forR Src.chk;simp [good _ _ _ q],q⟩
 | d::r,n,γ,h,z,q=>by
  unfold forR
  rw [Z7]
  refine W.of (a:=()) (h':=h) (by unfold Src.chk;simp [good _ _ _ q]) ?_
  rw [Z7]
  refine (z 0 d γ h rfl q).mono λγ1 h1 q1=>?_
  rw [Z7]
  refine q1.mono λo h2 q2=>?_
  have step:∀γ2,I (n+0+1) γ2 h2->W (forR src g body r γ2) h2 (endW (I (n+(d::r).length)) R):=λγ2 w=>by
   have:=z75 (src:=src) I R good r (n+1) γ2 h2 (λi d γ h e q=>by
    have:=z (i+1) d γ h (by simpa using e) (by rw [show n+(i+1)=n+1+i by omega];exact q)
    rw [show n+(i+1)+1=n+1+i+1 by omega] at this
    exact this) (by simpa using w)
   rw [show n+1+r.length=n+(d::r).length by simp;omega] at this
   exact this
  cases o with
  | nx γ2=>exact step γ2 q2
  | ct γ2=>exact step γ2 q2
  | bk γ2=>exact q2.elim
  | rt v=>exact W_pure.mpr q2
theorem z2w {ms mt:G->M Out}{γ:G}{h:AH}{Q:Out->AH->Prop}(J:G->AH->Prop) (z:W (ms γ) h (endW J λd h=>Q (.rt d) h)) (k:∀γ h,J γ h->W (mt γ) h Q):W (z9 ms mt γ) h Q:=by
 rw [w_cons]
 refine z.mono λo h1 q=>?_
 cases o with
 | nx γ=>exact k γ h1 q
 | rt d=>exact q
 | bk d=>exact q.elim
 | ct d=>exact q.elim
theorem z5W {n i:Nat}{d:D}(e:(z0H n)[i]?=some d):d=.int i/\i<n:=by
 unfold z0H at e
 rw [K0e] at e
 obtain ⟨j,e1,e2⟩:=K10.mp e
 obtain ⟨h1,h2⟩:=K5.mp e1
 simp at h1 h2
 subst h2
 exact ⟨e2.symm,h1⟩
theorem v7 {ma:G->M D}{i:Nat}{body:G->M Out}{γ:G}{h:AH}(I:Nat->G->AH->Prop) (R:D->AH->Prop) {Q:Out->AH->Prop}
 (hs:W (ma γ) h λd h1=>∃n:Nat,d=.int n/\n<4611686018427387904/\I 0 γ h1/\(∀k γ h,k<n->I k γ h->W (body (γ.set i (.(i k)))) h (forW (I (k+1)) R))/\(∀γ h',I n γ h'->Q (.nx γ) h')/\∀d h',R d h'->Q (.rt d) h') :
 W (sFor (z0g ma) (gN i) body γ) h Q:=by
 unfold sFor z0g
 rw [Z7,Z7]
 refine hs.mono λd h1 ⟨n,e,hn,i0,st,fin⟩=>?_
 subst e
 dsimp only
 rw [if_pos (by omega),W_pure]
 have:=z75 (src:=.con (z0H (n:Int).toNat)) (g:=gN i) (body:=body) I R (λ_ _ _ _=>trivial) (z0H (n:Int).toNat) 0 γ h1 (λk d γ h e q=>by
  obtain ⟨rfl,hk⟩:=z5W e
  rw [K68] at q ⊢
  exact W_pure.mpr (st k γ h (by simpa using hk) q)) i0
 rw [show 0+(z0H (n:Int).toNat).length=n by unfold z0H;simp] at this
 refine this.mono λo h' q=>?_
 cases o with
 | nx γ=>exact fin.1 γ h' q
 | rt d=>exact fin.2 d h' q
 | bk d=>exact q.elim
 | ct d=>exact q.elim
theorem z18 {mi:G->M Src}{g:D->G->M G}{body:G->M Out}{γ:G}{h:AH}(I:Nat->G->AH->Prop) (R:D->AH->Prop) {Q:Out->AH->Prop}
 (hs:W (mi γ) h λsrc h1=>I 0 γ h1/\(∀i γ h,I i γ h->src.good h)/\(∀i d γ h,src.items[i]?=some d->I i γ h->W (g d γ) h λγ1 h1=>W (body γ1) h1 (forW (I (i+1)) R))/\(∀γ h',I src.items.length γ h'->Q (.nx γ) h')/\∀d h',R d h'->Q (.rt d) h') :
 W (sFor mi g body γ) h Q:=by
 unfold sFor
 rw [Z7]
 refine hs.mono λsrc h1 ⟨i0,good,st,fin⟩=>?_
 have:=z75 (src:=src) (g:=g) (body:=body) I R good src.items 0 γ h1 (λk d γ h e q=>by
  rw [K68] at q ⊢
  exact st k d γ h e q) i0
 rw [K68] at this
 refine this.mono λo h' q=>?_
 cases o with
 | nx γ=>exact fin.1 γ h' q
 | rt d=>exact fin.2 d h' q
 | bk d=>exact q.elim
 | ct d=>exact q.elim
theorem z2Q {ma:G->M D}{γ:G}{h h1:AH}{n:Nat}(e:ma γ h=.ok (.int n) h1) (hn:n<4611686018427387904):z0g ma γ h=.ok (.con (z0H n)) h1:=by
 unfold z0g
 rw [M.bind_ok e]
 dsimp only
 rw [if_pos (by omega)]
 rfl
theorem z4k {k:G->M Bool}{body:G->M Out}(I:Nat->G->AH->Prop) (E:G->AH->Prop) (R:D->AH->Prop)
 (z:∀m γ h,I m γ h->W (k γ) h λb h1=>if b=true then ∃m',m=m'+1/\W (body γ) h1 (forW (λγ h=>∃i,i≤m'/\I i γ h) R) else E γ h1):∀(n m:Nat) (γ:G) (h:AH),m<n->I m γ h ->
 W (z2E k body n γ) h (endW E R)
 | 0,m,γ,h,hm,_=>by omega
 | n+1,m,γ,h,hm,q=>by
  unfold z2E
  rw [Z7]
  refine (z m γ h q).mono λb h1 q1=>?_
  cases b with
  | false =>
   rw [if_neg (by decide)] at q1 ⊢
   exact W_pure.mpr q1
  | true =>
   rw [if_pos rfl] at q1 ⊢
   obtain ⟨m',rfl,q2⟩:=q1
   rw [Z7]
   refine q2.mono λo h2 q3=>?_
   cases o with
   | nx γ2=>obtain ⟨i,hi,q4⟩:=q3;exact z4k I E R z n i γ2 h2 (by omega) q4
   | ct γ2=>obtain ⟨i,hi,q4⟩:=q3;exact z4k I E R z n i γ2 h2 (by omega) q4
   | bk γ2=>exact q3.elim
   | rt v=>exact W_pure.mpr q3
theorem z3O {g:D->G->M G}{k:G->M Bool}{me:G->M D}{γ:G}{p:D->Bool}{f:D->D}(src:Src) (h0:AH) (hg:∀j,src.good (h0++j)):∀(items:List D) (acc:List D),acc.length+items.length≤1000000 ->
 (∀d∈items,∃γ1,(∀h,g d γ h=.ok γ1 h)/\(∀j,k γ1 (h0++j)=.ok (p d) (h0++j))/\(p d=true->∀j,me γ1 (h0++j)=.ok (f d) (h0++j))) ->
 z2K src g k me h0.length γ items (h0++[.lst acc])=.ok () (h0++[.lst (acc++(items.filter p).map f)])
 | [],acc,hl,hd=>by unfold z2K Src.chk;simp [hg]
 | d::r,acc,hl,hd=>by
  obtain ⟨γ1,e1,e2,e3⟩:=hd d K1k
  unfold z2K
  have chk:src.chk (h0++[.lst acc])=.ok () (h0++[.lst acc]):=by unfold Src.chk;simp [hg]
  rw [M.bind_ok chk,M.bind_ok (e1 _),M.bind_ok (e2 _)]
  simp only [K07] at hl
  have hr:∀d∈r,∃γ1,(∀h,g d γ h=.ok γ1 h)/\(∀j,k γ1 (h0++j)=.ok (p d) (h0++j))/\(p d=true->∀j,me γ1 (h0++j)=.ok (f d) (h0++j)):=λx hx=>hd x (K1a _ hx)
  cases hp:p d with
  | false =>
   rw [if_neg (by decide),z3O src h0 hg r acc (by omega) hr,Z07,hp]
   rfl
  | true =>
   rw [if_pos rfl,M.bind_ok (e3 hp _)]
   have ap:y8 h0.length (f d) (h0++[.lst acc])=.ok .non (h0++[.lst (acc++[f d])]):=by
    unfold y8 updL
    have g1:(h0++[O.lst acc])[h0.length]?=.(l acc):=by simp
    rw [g1]
    dsimp only
    have hs:(acc++[f d]).length≤sizeLine:=by
     rw [K08,K3a]
     exact K0m (show acc.length+1≤1000000 by omega) (by decide)
    rw [if_pos hs]
    simp
   rw [M.bind_ok ap,z3O src h0 hg r (acc++[f d]) (by simp;omega) hr,Z07,hp]
   simp
theorem z1C {cap:List (Option Nat)}{mi:G->M Src}{g:D->G->M G}{k:G->M Bool}{me:G->M D}{γ:G}{src:Src}{h:AH}(p:D->Bool) (f:D->D) (hi:mi γ h=.ok src h) (hg:∀j,src.good (h++j)) (hl:src.items.length≤1000000)
 (hd:∀d∈src.items,∃γ1,(∀h,g d (capG cap γ) h=.ok γ1 h)/\(∀j,k γ1 (h++j)=.ok (p d) (h++j))/\(p d=true->∀j,me γ1 (h++j)=.ok (f d) (h++j))) :
 Y3 cap mi g k me γ h=.ok (.ref h.length) (h++[.lst ((src.items.filter p).map f)]):=by
 have e:=z3O (g:=g) (k:=k) (me:=me) (γ:=capG cap γ) (p:=p) (f:=f) src h hg src.items [] (by simpa using hl) hd
 show (mi γ >>= _) h=_
 rw [M.bind_ok hi]
 rw [M.bind_ok (m:=(λh=>Res.ok (Z09 h) (h++[O.lst []]):M Nat)) (h:=h) rfl]
 rw [M.bind_ok (by simpa using e)]
 rfl
def Kp (r r':AH):Prop:=∀(n:Nat) (o:O),r[n]?=some o->r'[n]?=some o
theorem zb8 {src:Src}{g:D->G->M G}{k:G->M Bool}{me:G->M D}{n0:Nat}{γ:G}(I:Nat->AH->Prop) (good:∀i h,I i h->src.good h):∀(items:List D) (n:Nat) (h:AH),
 (∀i d h,items[i]?=some d->I (n+i) h->W (g d γ) h λγ1 h1=>W (k γ1) h1 λt h2=>if t=true then W (me γ1) h2 λv h3=>W (y8 n0 v) h3 λ_ h4=>I (n+i+1) h4 else I (n+i+1) h2)->I n h ->
 W (z2K src g k me n0 γ items) h λ_ h'=>I (n+items.length) h'
 | [],n,h,_,q=>⟨(),h,by unfold z2K Src.chk;simp [good _ _ q],q⟩
 | d::r,n,h,z,q=>by
  have more:∀h2,I (n+0+1) h2->W (z2K src g k me n0 γ r) h2 λ_ h'=>I (n+(d::r).length) h':=λh2 q2=>by
   have:=zb8 (src:=src) (g:=g) (k:=k) (me:=me) (n0:=n0) (γ:=γ) I good r (n+1) h2 (λi d h e q=>by
    have:=z (i+1) d h (by simpa using e) (by rw [show n+(i+1)=n+1+i by omega];exact q)
    rw [show n+(i+1)+1=n+1+i+1 by omega] at this
    exact this) (by simpa using q2)
   rw [show n+1+r.length=n+(d::r).length by simp;omega] at this
   exact this
  unfold z2K
  rw [Z7]
  refine W.of (a:=()) (h':=h) (by unfold Src.chk;simp [good _ _ q]) ?_
  rw [Z7]
  refine (z 0 d h rfl q).mono λγ1 h1 q1=>?_
  rw [Z7]
  refine q1.mono λt h2 q2=>?_
  cases t with
  | false=>rw [if_neg (by decide)] at q2 ⊢;exact more h2 q2
  | true =>
   rw [if_pos rfl] at q2 ⊢
   rw [Z7]
   refine q2.mono λv h3 q3=>?_
   rw [Z7]
   exact q3.mono λ_ h4 q4=>more h4 q4
theorem zJ4 {cap:List (Option Nat)}{mi:G->M Src}{g:D->G->M G}{k:G->M Bool}{me:G->M D}{γ:G}{h:AH}{Q:D->AH->Prop}
 (hs:W (mi γ) h λsrc h1=>∃I:Nat->AH->Prop,I 0 (h1++[.lst []])/\(∀i h,I i h->src.good h) /\
  (∀i d h,src.items[i]?=some d->I i h->W (g d (capG cap γ)) h λγ1 h1'=>W (k γ1) h1' λt h2=>if t=true then W (me γ1) h2 λv h3=>W (y8 h1.length v) h3 λ_ h4=>I (i+1) h4 else I (i+1) h2) /\
  ∀h',I src.items.length h'->Q (.ref h1.length) h'):W (Y3 cap mi g k me γ) h Q:=by
 unfold Y3
 rw [Z7]
 refine hs.mono λsrc h1 ⟨I,i0,good,st,fin⟩=>?_
 rw [Z7]
 refine W.of (a:=h1.length) (h':=h1++[.lst []]) rfl ?_
 rw [Z7]
 have:=zb8 (src:=src) (g:=g) (k:=k) (me:=me) (n0:=h1.length) (γ:=capG cap γ) I good src.items 0 (h1++[.lst []]) (λi d h e q=>by
  rw [K68] at q ⊢
  exact st i d h e q) i0
 rw [K68] at this
 refine this.mono λ_ h' q=>?_
 rw [W_pure]
 exact fin h' q
class Grow (I:AH->Prop):Prop where
 app:∀h j,I h->I (h++j)
section
variable {I:AH->Prop} [Grow I]
end
section
variable {I:AH->Prop} [Grow I] {J J':G->Prop}
end
def Pool (gr sm:List Int) (s c:Int) (r:AH):AH:=.lst (gr.map .int)::.lst (sm.map .int)::.lst [.ref 0,.ref 1,.int s,.int c]::r
def PS (h:AH) (k:Int) (r:AH):Prop:=∃gr sm s c,h=Pool gr sm s c r/\0≤s/\s<2147483647/\0≤c/\c≤k/\gr.length≤63/\sm.length≤63
theorem PS.up {h:AH}{k k':Int}{r:AH}(p:PS h k r) (hk:k≤k'):PS h k' r:=by
 obtain ⟨gr,sm,s,c,e,h1,h2,h3,h4,h5,h6⟩:=p
 exact ⟨gr,sm,s,c,e,h1,h2,h3,by omega,h5,h6⟩
theorem PS.app {h:AH}{k:Int}{r:AH}(p:PS h k r) (j:AH):PS (h++j) k (r++j):=by
 obtain ⟨gr,sm,s,c,e,q⟩:=p
 exact ⟨gr,sm,s,c,by rw [e];rfl,q⟩
theorem PS.get {h:AH}{k:Int}{r:AH}(p:PS h k r) (n:Nat):h[n+3]?=r[n]?:=by
 obtain ⟨gr,sm,s,c,e,q⟩:=p
 rw [e];rfl
theorem PS.len {h:AH}{k:Int}{r:AH}(p:PS h k r):h.length=r.length+3:=by
 obtain ⟨gr,sm,s,c,e,q⟩:=p
 rw [e];rfl
theorem PS.set {h:AH}{k:Int}{r:AH}(p:PS h k r) (n:Nat) (o:O):PS (h.set (n+3) o) k (r.set n o):=by
 obtain ⟨gr,sm,s,c,e,q⟩:=p
 exact ⟨gr,sm,s,c,by rw [e];rfl,q⟩
theorem z67 {h:AH}{k:Int}{r:AH}{n:Nat}{xs:List D}{Q:List D->AH->Prop}(p:PS h k r) (e:r[n]?=.(l xs)) (q:Q xs h):W (getL (n+3)) h Q :=
 ⟨xs,h,by unfold getL;rw [p.get,e],q⟩
theorem z2B {h:AH}{k:Int}{r:AH}{xs:List D}{Q:D->AH->Prop}(p:PS h k r) (hl:xs.length≤1000000) (z:∀h',PS h' k (r++[.lst xs])->Q (.ref (r.length+3)) h'):W (newL xs) h Q :=
 ⟨.ref (r.length+3),h++[.lst xs],by unfold newL;rw [if_pos (K0m hl (by decide)),p.len],z _ (p.app _)⟩
theorem z7i {h:AH}{k:Int}{r:AH}{n:Nat}{xs:List D}{v:D}{Q:D->AH->Prop}(p:PS h k r) (e:r[n]?=.(l xs)) (hl:xs.length<1000000) (z:∀h',PS h' k (r.set n (.lst (xs++[v])))->Q .non h'):W (y8 (n+3) v) h Q :=
 ⟨.non,h.set (n+3) (.lst (xs++[v])),by
  unfold y8 updL
  rw [p.get,e]
  dsimp only
  rw [if_pos (K0m (by simp;omega:(xs++[v]).length≤1000000) (by decide))],z _ (p.set _ _)⟩
theorem x5 {r j:AH}{n:Nat}{o:O}(e:r[n]?=some o):(r++j)[n]?=some o:=by
 rw [K0s (K5.mp e).1,e]
theorem z4N {r:AH}{o:O}:(r++[o])[r.length]?=some o:=by simp
def z5m (x:Str):Prop:=1≤x.length/\x.length≤8/\(∀c∈x.cps.toList,97≤c/\c≤122) /\
 x∉(["yes","no","not","and","or","step","some","all","next","once","ever","until","unless"]:List Str)
theorem len_str (x:Str):x.length=x.cps.toList.length:=by simp [K95]
theorem z5s (a:Str):∀l:List Str,((l.map D.str).any λz=>eqF z (.str a))=decide (a∈l)
 | []=>by simp
 | b::l=>by
  rw [K0t,K29,z5s a l]
  simp only [eqF]
  rw [K0z]
  simp only [K22,beq_iff_eq,decide_eq_true_eq,K0v]
  constructor
  ·rintro (h|h)
   ·exact .inl h.symm
   ·exact .inr h
  ·rintro (h|h)
   ·exact .inl h.symm
   ·exact .inr h
theorem z3f:∀l:List Str,(l.map D.str).all z0R=true
 | []=>rfl
 | _::l=>by rw [K0t,K4s,z3f l];rfl
def low (x:Str):Prop:=∀c∈x.cps.toList,97≤c/\c≤122
def abc:Str:="abcdefghijklmnopqrstuvwxyz"
theorem zA7:abc.cps.toList=(K8 26).map (·+97):=by decide +kernel
theorem zy8:abc.length=26:=by decide +kernel
theorem zI5 {d:Int}(h0:0≤d) (h1:d<26):fIx (.str abc) (.int d)=pure (.str ⟨#[d.toNat+97]⟩):=by
 unfold fIx
 dsimp only
 rw [if_pos (by rw [zy8];decide),zA7]
 obtain ⟨n,rfl⟩:=K1t h0
 have hn:n<26:=by omega
 rw [z3m (v:=n+97) (by simp [hn])]
 simp
theorem z4V (x y:Str):(x++y).cps.toList=x.cps.toList++y.cps.toList:=Array.toList_append
theorem len_app (x y:Str):(x++y).length=x.length+y.length:=by rw [len_str,z4V,K08,← len_str,← len_str]
theorem zK5 {x y:Str}(h:x.length+y.length≤1000):fAdd (.str x) (.str y)=pure (.str (x++y)):=by
 show (if x.length+y.length≤sizeLine then _ else _)=_
 rw [if_pos (K0m h (by decide))]
theorem z4f (c:Nat):K95 ⟨#[c]⟩=1:=rfl
theorem z6S {x:Str}{c:Nat}(h:low x) (h1:97≤c) (h2:c≤122):low (x++⟨#[c]⟩):=by
 intro d hd
 rw [z4V] at hd
 rcases K0w.mp hd with q|q
 ·exact h d q
 ·simp at q;omega
theorem z57 {x:Str}{h:AH}{k d:Int}{r:AH}{Q:D->AH->Prop}(h0:0≤d) (h1:d<26) (hx:x.length≤100) (q:Q (.str (x++⟨#[d.toNat+97]⟩)) h):W (fIx (.str abc) (.int d)) h λa h1=>W (fAdd (.str x) a) h1 Q:=by
 rw [zI5 h0 h1,W_pure,zK5 (by rw [z4f];omega),W_pure]
 exact q
def words:List Str:=["yes","no","not","and","or","step","some","all","next","once","ever","until","unless"]
def cand (x:Str) (l:Int) (i:Nat):Str:=x++⟨#[((l+i) % 26).toNat+97]⟩
theorem ze5 {x:Str}{l:Int}(h0:0≤l) {i j:Nat}(hi:i<26) (hj:j<26) (e:cand x l i=cand x l j):i=j:=by
 have e2:(cand x l i).cps.toList=(cand x l j).cps.toList:=by rw [e]
 unfold cand at e2
 rw [z4V,z4V] at e2
 have:=List.append_cancel_left e2
 simp at this
 omega
theorem zK0 {x:Str}{l:Int}(h0:0≤l) {ns:List Str}(hn:ns.length≤7) (h:∀i:Nat,i<26->cand x l i∈words∨cand x l i∈ns):False:=by
 have nd:((K8 26).map (cand x l)).Nodup:=by
  rw [List.nodup_iff_pairwise_ne,K74]
  refine K7a ?_ K7l
  intro a b ha hb hne e
  exact hne (ze5 h0 (by simpa using ha) (by simpa using hb) e)
 have sub:((K8 26).map (cand x l)) ⊆ words++ns:=by
  intro y hy
  obtain ⟨i,hi,rfl⟩:=K04.mp hy
  exact K0w.mpr (h i (by simpa using hi))
 have:=nd.length_le_of_subset sub
 rw [K00,K1q,K08] at this
 have w:words.length=13:=rfl
 omega
theorem zm7 {h:AH}{k:Int}{r:AH}{n:Nat}{ns:List Str}{x:Str}{neg:Bool}(p:PS h k r) (e:r[n]?=.(l (ns.map .str))):fIn neg (.str x) (.ref (n+3)) h=.ok (.bl (decide (x∈ns) != neg)) h:=by
 have g:getL (n+3) h=.ok (ns.map .str) h:=by unfold getL;rw [p.get,e]
 unfold fIn seqD
 rw [M.bind_ok g,z5s,z3f]
 rfl
theorem zK3 {h:AH}{k:Int}{r:AH}{n:Nat}{xs:List D}{i:Int}{d:D}{Q:D->AH->Prop}(p:PS h k r) (e:r[n]?=.(l xs)) (a:atI xs i=some d) (q:Q d h):W (fIx (.ref (n+3)) (.int i)) h Q:=by
 show W (getL (n+3) >>= λxs=>match atI xs i with|some d=>pure d|none=>bad) h Q
 rw [Z7]
 refine z67 p e ?_
 rw [a]
 exact W_pure.mpr q
theorem zm6 {h:AH}{k:Int}{r:AH}{n:Nat}{xs:List D}{Q:D->AH->Prop}(p:PS h k r) (e:r[n]?=.(l xs)) (q:Q (.int xs.length) h):W (fLen [.ref (n+3)]) h Q:=by
 show W (getL (n+3) >>= λxs=>pure (.int xs.length)) h Q
 rw [Z7]
 refine z67 p e ?_
 exact W_pure.mpr q
theorem zz8:low "":=by
 intro c hc
 have:(K4m "").cps.toList=[]:=by decide +kernel
 rw [this] at hc
 cases hc
theorem zq6:K95 "" = 0:=by decide +kernel
def NS (ns:List Str):Prop:=ns.Nodup/\∀x∈ns,z5m x
def stD (l:List Nat):List D:=l.map λ(i:Nat)=>.int i
structure MK (l:List Str):Prop where
 len:l.length≤8
 good:∀x∈l,z5m x
 rise:l.Pairwise λa b=>a.cps.toList<b.cps.toList
structure MA (st:List (List Nat)) (mk:List (List Str)):Prop where
 l1:1≤st.length
 l2:st.length≤40
 l3:mk.length=st.length
 s1:∀l∈st,l.Pairwise (·<·)
 s2:∀l∈st,∀x∈l,x<st.length
 m1:∀l∈mk,MK l
def stsD (st:List (List Nat)):List D:=st.map λl=>.tup (stD l)
def mksD (mk:List (List Str)):List D:=mk.map λl=>.tup (l.map .str)
def maD (st:List (List Nat)) (mk:List (List Str)):D:=.tup [.tup (stsD st),.tup (mksD mk)]
def bear (x:Str) (mk:List (List Str)) (i:Nat):Bool:=decide (x = "")||decide (x∈(mk[i]?).getD [])
theorem z6z {mk:List (List Str)}{i:Nat}(hi:i<mk.length):atI (mksD mk) (i:Int)=.(g ((((mk[i]?).getD []).map .str))):=by
 refine z3m ?_
 unfold mksD
 rw [K0e,K4 hi]
 rfl
theorem z4z (a b:Str):leS a b=true↔a.cps.toList≤b.cps.toList:=by
 unfold leS
 simp [K4j]
theorem z8D {l:List Str}(h:l.Nodup):(z1F l).Pairwise λa b=>a.cps.toList<b.cps.toList:=by
 have s:(z1F l).Pairwise λa b=>leS a b=true:=K5b (λa b c h1 h2=>(z4z a c).mpr (List.le_trans ((z4z a b).mp h1) ((z4z b c).mp h2)))
  (λa b=>by
   rw [K22,z4z,z4z]
   exact List.le_total _ _) l
 have n:(z1F l).Nodup:=(K3q l leS).nodup_iff.mpr h
 refine (K9e s n).imp λ{a b} q=>?_
 obtain ⟨q1,q2⟩:=q
 have q3:=(z4z a b).mp q1
 by_cases lt:a.cps.toList<b.cps.toList
 ·exact lt
 ·exact absurd (z99 (Z05 q3 (K4j.mp lt))) q2
theorem sortS_mem {l:List Str}{x:Str}:x∈z1F l↔x∈l:=(K3q l leS).mem_iff
theorem z4b (l:List Str):(z1F l).length=l.length:=(K3q l leS).length_eq
theorem strs_map:∀l:List Str,z3H (l.map .str)=some l
 | []=>rfl
 | a::l=>by simp [z3H,strs_map l]
def AM (st:List (List Nat)) (mk:List (List Str)) (n:Nat):Prop:=(∀l∈st,l.Pairwise (·<·))/\(∀l∈st,∀x∈l,x<n)/\∀l∈mk,MK l
theorem z2D (ns:List Int) (p:D->Bool):((ns.map D.int).filter p).map (λd=>d)=(ns.filter λi=>p (.int i)).map D.int:=by
 rw [K9g,K8c]
 rfl
theorem zI3:fPow (.int 10) (.int 18)=pure (.int 1000000000000000000):=rfl
theorem z25 (xs:List D):fLen [.tup xs]=pure (.int xs.length):=rfl
theorem ix_tup {xs:List D}{i:Int}{d:D}(a:atI xs i=some d):fIx (.tup xs) (.int i)=pure d:=by
 have:fIx (.tup xs) (.int i)=(pure xs >>= λxs=>match atI xs i with|some d=>pure d|none=>bad):=rfl
 rw [this]
 show (match atI xs i with|some d=>pure d|none=>bad)=_
 rw [a]
theorem z56 {l:List Nat}{c:Nat}(hc:c<l.length):atI (stD l) (c:Int)=.(i (((l[c]?).getD 0:Nat))):=by
 refine z3m ?_
 unfold stD
 rw [K0e,K4 hc]
 rfl
section
variable {P:K0n}{w:World}{K:K1}{mg:Str->Option Value}{base:Heap}
theorem zQ7 {x:Str}{st:Stmt}{f:Addr}{fd:K2i}{N ps:List Str}{k n:Nat}{mb:G->M Out}(F:Fun K x x st f fd) (S:FnScope N ps (y0 st)) (hn:ps.length=n)
 (body:∀(cdv:Value) (A:Around) (outer:List Env) (s:Shared) (H:Hp) (E:XK),Room k (A.deeper (envOfC x (y0 st) s.heap.objs.size f cdv)) ->
  SB (cxOf CX0 P w K mg base N x (y0 st) f cdv A outer s H E).nox EX0 (z0J st) mb):FnOk P w K mg base CX0 (k+1) f fd ps (spB K (runF N.length mb) n):=by
 refine F.ok S (λvs H Q E h=>h.1.trans hn.symm) (λcdv A outer s H vs Q E hr h=>?_)
 obtain ⟨hl,ρ,ds,h,rh,rd,fin⟩:=h
 refine ⟨_,(body cdv A outer s H E hr).h,ρ,z19 N.length ds,h,⟨z6s rd,rh⟩,?_⟩
 refine (Fin.bind fin).mono λo ρ1 h1 H1 p1 e1 r1 f1=>?_
 cases o with
 | nx γ=>exact λσ _=>FE.here (d:=.non) (h:=h1) f1 r1 (by simp [RD])
 | rt d=>exact λv rv=>f1 ρ1 H1 (Pre.refl _) (Ext.refl _ _) r1 v rv
 | bk γ=>exact (show False from f1).elim
 | ct γ=>exact (show False from f1).elim
theorem bindsTo1 {x p:Str}{st:Stmt}{f:Addr}{fd:K2i}(F:Fun K x x st f fd)
 (h:∀(kV doc pm:Value) (an:Option Addr) (cdv ct u:Value),bindArgs (K3f x x (z2I st) (z0J st) (y0 st) .none kV doc pm an cdv ct) ⟨[u],[]⟩=pure [(p,u)]):∀(s:Shared) (u:Value),K9n s fd ⟨[u],[]⟩ [(p,u)]:=by
 obtain ⟨oc,od,kV,doc,pm,an,cdv,ct,osl,rfl,lk,hcd⟩:=F.ex
 exact λs u=>.of_eq (h kV doc pm an cdv ct u)
end
theorem law_walk {l:Z0e}{q:K0n}{loose:List Str}{XP:(Str->Option Value)->Heap->Prop}{YP:World->Heap->Prop}{d:DefRec}{K:Params->K1}{m:List D->M D}{p:Str}{lev:Nat}(hn:l.most=some 63) (hdf:d.params.defaults=[]) (hr:Room lev K7x)
 (hY:∀(w:World) (h:Heap),YP w h->(K w.params).In h)
 (F:∀(w:World) (mg:Str->Option Value) (fa:Addr) (h:Heap),(K w.params).In h->h.Ns K2h mg->mg d.name=.(r fa) ->
  ∃fd:K2i,(∀(s:Shared) (u:Value),K9n s fd ⟨[u],[]⟩ [(p,u)])/\∀base:Heap,(K w.params).In base->base.Ns K2h mg->FnOk l.prog w (K w.params) mg base CX0 lev fa fd [p] (spB (K w.params) m 1))
 (math:∀ns:List Int,ns.length≤63->∃h',m [.fl (ns.map .int)] []=.ok (.bl true) h') :
 Z0q q loose XP YP l.row.toRowW d [] (λf vs=>Z0l f vs):=by
 refine L2.walk_of (n:=63) (k:=lev) (x:=p) (CX:=λ_=>CX0) (sp:=λw=>spB (K w.params) m 1) hn (by decide) hdf hr hY F (λw H a ns hl hO hS=>?_) λ_ _ _ _ _ z=>z
 obtain ⟨h',e⟩:=math ns hl
 have sq:SqLP (K w.params) H a (ns.map V.int):=by
  rcases hS with (h|⟨o,h⟩)|h
  ·rcases hO a with z|⟨ob,xs,z⟩<;>rw [h] at z<;>cases z
  ·exact .inl ⟨o,h⟩
  ·exact .inr h
 refine ⟨rfl,[],[.fl (ns.map .int)],[],⟨rfl,λi j a h=>by simp at h,λn o a h=>by simp at h⟩,RDs.cons ?_ RDs.nil,?_⟩
 ·simp only [RD]
  exact ⟨a,_,rfl,sq,z3J ns⟩
 ·rw [e]
  exact λρ' H' _ _ _ v rv=>by simpa [RD] using rv
mutual
def J7 (n:Nat):D->Bool
 | .ref i=>decide (i<n)
 | .tup xs=>J5 n xs
 | .fl xs=>J5 n xs
 | _=>true
def J5 (n:Nat):List D->Bool
 | []=>true
 | d::r=>J7 n d&&J5 n r
end
def refO (n:Nat):O->Bool
 | .lst xs=>J5 n xs
 | .dK kvs=>J5 n (kvs.map (·.2))
 | .dF kvs=>J5 n (kvs.map (·.2))
 | _=>true
def Kept (h h1:AH):Prop:=∀(i:Nat) (o:O),i<h.length->h1[i]?=some o->h[i]?=some o∨refO h.length o=true
section
variable {K:K1}{ρ ρ':List Addr}{H:Hp}
theorem z4W {ρ:List Addr}{n i:Nat}(h:i<n):(ρ.take n)[i]?=ρ[i]?:=by rw [K2m,if_pos h]
mutual
theorem RD.cut {n:Nat}:∀{d:D}{v:V},J7 n d=true->RD K ρ H d v->RD K (ρ.take n) H d v
 | .non,v,_,h=>by simpa [RD] using h
 | .bl b,v,_,h=>by simpa [RD] using h
 | .int b,v,_,h=>by simpa [RD] using h
 | .str b,v,_,h=>by simpa [RD] using h
 | .tup ds,v,c,h=>by
  simp only [RD,J7] at h c ⊢
  obtain ⟨a,xs,h1,h2,h3⟩:=h
  exact ⟨a,xs,h1,h2,RDs.cut c h3⟩
 | .fl ds,v,c,h=>by
  simp only [RD,J7] at h c ⊢
  obtain ⟨a,xs,h1,h2,h3⟩:=h
  exact ⟨a,xs,h1,h2,RDs.cut c h3⟩
 | .ref i,v,c,h=>by
  simp only [RD,J7,decide_eq_true_eq] at h c ⊢
  obtain ⟨a,h1,h2⟩:=h
  exact ⟨a,h1,by rw [z4W c];exact h2⟩
theorem RDs.cut {n:Nat}:∀{ds:List D}{xs:List V},J5 n ds=true->RDs K ρ H ds xs->RDs K (ρ.take n) H ds xs
 | [],xs,_,h=>by simpa [RDs] using h
 | d::ds,xs,c,h=>by
  simp only [RDs,J5,K0j] at h c ⊢
  obtain ⟨x,r,h1,h2,h3⟩:=h
  exact ⟨x,r,h1,RD.cut c.1 h2,RDs.cut c.2 h3⟩
end
mutual
theorem RD.low:∀{d:D}{v:V},RD K ρ H d v->J7 ρ.length d=true
 | .non,v,h=>rfl
 | .bl b,v,h=>rfl
 | .int b,v,h=>rfl
 | .str b,v,h=>rfl
 | .tup ds,v,h=>by
  simp only [RD,J7] at h ⊢
  obtain ⟨a,xs,h1,h2,h3⟩:=h
  exact RDs.low h3
 | .fl ds,v,h=>by
  simp only [RD,J7] at h ⊢
  obtain ⟨a,xs,h1,h2,h3⟩:=h
  exact RDs.low h3
 | .ref i,v,h=>by
  simp only [RD,J7,decide_eq_true_eq] at h ⊢
  obtain ⟨a,h1,h2⟩:=h
  exact (K5.mp h2).1
theorem RDs.low:∀{ds:List D}{xs:List V},RDs K ρ H ds xs->J5 ρ.length ds=true
 | [],xs,h=>rfl
 | d::ds,xs,h=>by
  simp only [RDs,J5,K0j] at h ⊢
  obtain ⟨x,r,h1,h2,h3⟩:=h
  exact ⟨RD.low h2,RDs.low h3⟩
end
theorem RK.cut {n:Nat}:∀{kvs:List (Key×D)}{vs:List (Key×V)},J5 n (kvs.map (·.2))=true->RK K ρ H kvs vs->RK K (ρ.take n) H kvs vs
 | _,_,_,.nil=>.nil
 | _,_,c,.cons a b=>by
  simp only [K0t,J5,K0j] at c
  exact .cons ⟨a.1,a.2.cut c.1⟩ (RK.cut c.2 b)
theorem RK.low:∀{kvs:List (Key×D)}{vs:List (Key×V)},RK K ρ H kvs vs->J5 ρ.length (kvs.map (·.2))=true
 | _,_,.nil=>rfl
 | _,_,.cons a b=>by
  simp only [K0t,J5,K0j]
  exact ⟨a.2.low,RK.low b⟩
theorem RO.cut {n:Nat}{o:O}{a:Addr}(c:refO n o=true) (h:RO K ρ H o a):RO K (ρ.take n) H o a:=by
 cases o with
 | lst ds=>obtain ⟨xs,h1,h2⟩:=h;exact ⟨xs,h1,h2.cut c⟩
 | set ks=>exact h
 | dct=>exact h
 | dK kvs=>obtain ⟨vs,h1,h2⟩:=h;exact ⟨vs,h1,h2.cut c⟩
 | dF kvs=>obtain ⟨ob,vs,h1,h2⟩:=h;exact ⟨ob,vs,h1,h2.cut c⟩
 | exc c=>exact h
theorem RO.low {o:O}{a:Addr}(h:RO K ρ H o a):refO ρ.length o=true:=by
 cases o with
 | lst ds=>obtain ⟨xs,h1,h2⟩:=h;exact h2.low
 | set ks=>rfl
 | dct=>rfl
 | dK kvs=>obtain ⟨vs,h1,h2⟩:=h;exact h2.low
 | dF kvs=>obtain ⟨ob,vs,h1,h2⟩:=h;exact h2.low
 | exc c=>rfl
theorem RH.cut {h:AH}{n:Nat}(r:RH K ρ h H) (c:∀o∈h.take n,refO n o=true):RH K (ρ.take n) (h.take n) H:=by
 refine ⟨by simp [r.len],λi j a h1 h2=>?_,λm o a h1 h2=>?_⟩
 ·rw [K2m] at h1 h2
  split at h1
  ·split at h2
   ·exact r.nd i j a h1 h2
   ·cases h2
  ·cases h1
 ·have hm:=K03 h1
  rw [K2m] at h1 h2
  split at h1
  ·rename_i q
   rw [if_pos q] at h2
   exact (r.obj m o a h1 h2).cut (c o hm)
  ·cases h1
theorem RH.cut1 {h:AH}{n i:Nat}{o:O}(r:RH K ρ h H) (c:∀o∈h.take n,refO n o=true) (hn:n≤h.length) (hi:n≤i) (e:h[i]?=some o) (co:refO n o=true):∃a,ρ[i]?=some a/\RH K (ρ.take n++[a]) (h.take n++[o]) H:=by
 obtain ⟨a,ea,ra⟩:=r.at e
 have r1:=r.cut c
 have ln:(ρ.take n).length=n:=by rw [K26,r.len];omega
 have lh:(h.take n).length=n:=by rw [K26];omega
 have ne:∀{m:Nat} {b:Addr},(ρ.take n)[m]?=some b->b≠a:=λ{m b} q z=>by
  have hm:=(K5.mp q).1
  rw [ln] at hm
  rw [z4W hm,z] at q
  have:=r.nd m i a q ea
  omega
 refine ⟨a,ea,by simp [r1.len],λi j b h1 h2=>?_,λm u b h1 h2=>?_⟩
 ·rw [K3j] at h1 h2
  split at h1<;>split at h2
  ·exact r1.nd i j b h1 h2
  ·rename_i q1 q2
   rw [K1g] at h2
   split at h2
   ·cases h2;exact absurd rfl (ne h1)
   ·cases h2
  ·rename_i q1 q2
   rw [K1g] at h1
   split at h1
   ·cases h1;exact absurd rfl (ne h2)
   ·cases h1
  ·rw [K1g] at h1 h2
   split at h1
   ·split at h2
    ·omega
    ·cases h2
   ·cases h1
 ·rw [K3j] at h1 h2
  rw [ln] at h2
  rw [lh] at h1
  split at h1
  ·rename_i q
   rw [if_pos q] at h2
   exact (r1.obj m u b h1 h2).mono (Pre.app _ _) (Ext.refl _ _) rfl
  ·rename_i q
   rw [if_neg q] at h2
   rw [K1g] at h1 h2
   split at h1
   ·rename_i q0
    rw [if_pos q0] at h2
    cases h1;cases h2
    exact (ra.cut co).mono (Pre.app _ _) (Ext.refl _ _) rfl
   ·cases h1
end
theorem z9R {K:K1}{ρ:List Addr}{h h1:AH}{H:Hp}(r:RH K ρ h H) (c:Kept h h1):∀o∈h1.take h.length,refO h.length o=true:=λo ho=>by
 obtain ⟨i,hi⟩:=K4k ho
 rw [K2m] at hi
 split at hi
 ·rename_i li
  rcases c i o li hi with q|q
  ·obtain ⟨a,_,ra⟩:=r.at q
   rw [← r.len]
   exact ra.low
  ·exact q
 ·cases hi
theorem z7t (h j:AH):Kept h (h++j):=λi o li e=>.inl (by rw [K0s li] at e;exact e)
open Classical in
noncomputable def cln (m:M D):M D:=λh=>match m h with
 | .ok d h1=>if h.length≤h1.length/\Kept h h1 then
  (if J7 h.length d=true then .ok d (h1.take h.length) else match d with
   | .ref i=>(match h1[i]? with
    | some o=>if refO h.length o=true then .ok (.ref h.length) (h1.take h.length++[o]) else .ok d h1
    | none=>.ok d h1)
   | d=>.ok d h1)
  else .ok d h1
 | .err x h1=>.err x h1
 | .bad=>.bad
theorem FE.cln {K:K1}{EX:XX}{ρ:List Addr}{h:AH}{H:Hp}{Q:VK}{m:M D}(r:RH K ρ h H) (f:FE K EX ρ H Q (cln m h)):FE K EX ρ H Q (m h):=by
 unfold FT.cln at f
 cases e:m h with
 | bad=>rw [e] at f;exact f
 | err x h1=>rw [e] at f;exact f
 | ok d h1 =>
  rw [e] at f
  dsimp only at f
  split at f
  ·rename_i c
   obtain ⟨hl,c⟩:=c
   have cl:=z9R r c
   have pre:∀{ρ1:List Addr},Pre ρ ρ1->Pre ρ (ρ1.take h.length):=λ{ρ1} p i a q=>by
    have:=(K5.mp q).1
    rw [r.len] at this
    rw [z4W this]
    exact p i a q
   split at f
   ·rename_i cd
    exact λρ1 H1 p1 e1 r1 v rv=>f _ H1 (pre p1) e1 (r1.cut cl) v (rv.cut cd)
   ·rename_i nd
    split at f
    ·rename_i i
     split at f
     ·rename_i o eo
      split at f
      ·rename_i co
       intro ρ1 H1 p1 e1 r1 v rv
       have hi:h.length≤i:=by
        simp only [J7,decide_eq_true_eq] at nd
        omega
       obtain ⟨a,ea,r2⟩:=r1.cut1 cl hl hi eo co
       refine f _ H1 ((pre p1).trans (Pre.app _ _)) e1 r2 v ?_
       simp only [RD] at rv ⊢
       obtain ⟨b,h2,h3⟩:=rv
       rw [ea] at h3;cases h3
       refine ⟨a,h2,?_⟩
       have ln:(ρ1.take h.length).length=h.length:=by rw [K26,r1.len];omega
       rw [K38 (by omega),ln]
       simp
      ·exact f
     ·exact f
    ·exact f
  ·exact f
noncomputable def clE (m:G->M D):G->M D:=λγ=>cln (m γ)
theorem z1d {X:Cx}{EX:XX}{e:Expr}{m:G->M D}(h:SE X EX e m):SE X EX e (clE m) :=
 ⟨PE.imp h.h λσ H Q ⟨ρ,γ,h,rel,fin⟩=>⟨ρ,γ,h,rel,FE.cln rel.h fin⟩⟩
open Classical in
noncomputable def clT (m:G->M Bool):G->M Bool:=λγ h=>match m γ h with
 | .ok d h1=>if h.length≤h1.length/\Kept h h1 then .ok d (h1.take h.length) else .ok d h1
 | .err x h1=>.err x h1
 | .bad=>.bad
theorem RH.cut2 {K:K1}{ρ ρ1:List Addr}{h h1:AH}{H H1:Hp}(r:RH K ρ h H) (p1:Pre ρ ρ1) (r1:RH K ρ1 h1 H1) (c:Kept h h1):RH K (ρ1.take h.length) (h1.take h.length) H1/\Pre ρ (ρ1.take h.length):=by
 refine ⟨r1.cut (z9R r c),λi a q=>?_⟩
 have:=(K5.mp q).1
 rw [r.len] at this
 rw [z4W this]
 exact p1 i a q
theorem zm4 {X:Cx}{EX:XX}{e:Expr}{m:G->M Bool}(h:SC X EX e m):SC X EX e (clT m) :=
 ⟨PT.imp h.h λσ H Q ⟨ρ,γ,h,rel,fin⟩=>⟨ρ,γ,h,rel,by
  unfold clT at fin
  cases e:m γ h with
  | bad=>rw [e] at fin;exact fin
  | err x h1=>rw [e] at fin;exact fin
  | ok d h1 =>
   rw [e] at fin
   dsimp only at fin
   split at fin
   ·rename_i c
    exact λρ1 H1 p1 e1 r1=>let ⟨r2,p2⟩:=rel.h.cut2 p1 r1 c.2;fin _ H1 p2 e1 r2
   ·exact fin⟩⟩
theorem Fn.cln {P:K0n}{w:World}{K:K1}{mg:Str->Option Value}{base:Heap}{k:Nat}{x:Str}{n:Nat}{mf:List D->M D}(F:Fn P w K mg base k x n mf):Fn P w K mg base k x n (λds=>cln (mf ds)):=by
 obtain ⟨f,fd,ps,h1,h2,h3,h4⟩:=F.ex
 exact ⟨f,fd,ps,h1.imp λvs H Q E ⟨hl,ρ,ds,h,rh,rd,fin⟩=>⟨hl,ρ,ds,h,rh,rd,FE.cln rh fin⟩,h2,h3,h4⟩
end FT
namespace L2
open PySem PySem.Spec PyProof.Rows PySem.Builtin
theorem z3F:fillsNumberSlot (.type "tuple") "mul" = pure false :=
 PySem.fillsNumberSlot_seq (id:="tuple.__mul__") (r:=some (.builtin "tuple.__rmul__")) K33.lookup (by decide +kernel) K7i.lookup (by decide +kernel)
theorem z63:seqRepeat? (.type "tuple")=pure (some (.builtin "tuple.__mul__")):=by
 unfold seqRepeat?
 rw [Z00 (T:="tuple") (name:="__mul__") (id:="tuple.__mul__") K33.lookup (by decide +kernel),Z00 (T:="tuple") (name:="__rmul__") (id:="tuple.__rmul__") K7i.lookup (by decide +kernel)]
 rfl
theorem zu9 (a:Int) (t:Tok) (l:Addr) (items:Array Value) (n:Nat) (dd:Option Addr) (sl:Array (Option Value)) :
 Meets (Builtin.«int.__rmul__» ⟨[.int a t,.ref l],[]⟩) (λ_ R s=>s.heap.get? l=some { cls:=.type "tuple",dict:=dd,data:=.seq items n,slots:=sl }/\R (.ok (.ret Value.notImplemented)) s) :=
 .of_wp λprog w A R s h=>by obtain ⟨hp,g,d,tk,os⟩:=s;obtain ⟨hl,h⟩:=h;wp_walk;exact ⟨_,rfl,h⟩
theorem zM6 (l:Addr) (items:Array Value) (n:Nat) (dd:Option Addr) (sl:Array (Option Value)) (x:Int) (u:Tok) (h1:-(2 ^ 63)≤x) (h2:x<2 ^ 63) (hc:items.isEmpty=true∨x=1) :
 Meets (Builtin.«tuple.__mul__» ⟨[.ref l,.int x u],[]⟩) (λ_ R s=>s.heap.get? l=some { cls:=.type "tuple",dict:=dd,data:=.seq items n,slots:=sl }/\R (.ok (.ret (K1n l))) s) :=
 .of_wp λprog w A R s h=>by
  obtain ⟨hp,g,d,tk,os⟩:=s;obtain ⟨hl,h⟩:=h
  have f1:=K5f
  have c1:(decide (x < -(2 ^ 63))||decide (x ≥ 2 ^ 63))=false:=by simp;omega
  have c2:(items.isEmpty||x==1)=true:=by simpa using hc
  wp_walk using K18 hl
  refine K2x (by rw [c1];rfl) ?_
  wp_walk using K18 hl
  exact ⟨_,rfl,h⟩
theorem zC7 (l:Addr) (items:Array Value) (n:Nat) (dd:Option Addr) (sl:Array (Option Value)) (x:Int) (u:Tok) (h1:-(2 ^ 63)≤x) (h2:x<2 ^ 63) (hc:items.isEmpty=false) (hx:x≤0) :
 Meets (Builtin.«tuple.__mul__» ⟨[.ref l,.int x u],[]⟩) (λ_ R s=>s.heap.get? l=some { cls:=.type "tuple",dict:=dd,data:=.seq items n,slots:=sl }/\R (.ok (.ret (K1n s.heap.objs.size))) { s with heap:=s.heap.push { cls:=K3n "tuple",data:=Z0k #[] },toks:=s.toks }) :=
 .of_wp λprog w A R s h=>by
  obtain ⟨hp,g,d,tk,os⟩:=s;obtain ⟨hl,h⟩:=h
  have f1:=K5f
  have c1:(decide (x < -(2 ^ 63))||decide (x ≥ 2 ^ 63))=false:=by simp;omega
  have c2:(items.isEmpty||x==1)=false:=by rw [hc];simp;omega
  have c3:(decide (x≤0)||items.isEmpty)=true:=by simp [hx]
  wp_walk using K18 hl
  refine K2x (by rw [c1];rfl) ?_
  wp_walk using K18 hl
  refine K2x (by rw [c2];rfl) ?_
  wp_walk using K18 hl
  exact ⟨_,rfl,h⟩
theorem zM9 (l:Addr) (items:Array Value) (n:Nat) (dd:Option Addr) (sl:Array (Option Value)) (x:Int) (u:Tok) (h1:-(2 ^ 63)≤x) (h2:x<2 ^ 63) (hc:items.isEmpty=false) (hx:1<x) (hz:items.size * x.toNat≤sizeLine) :
 Meets (Builtin.«tuple.__mul__» ⟨[.ref l,.int x u],[]⟩) (λ_ R s=>s.heap.get? l=some { cls:=.type "tuple",dict:=dd,data:=.seq items n,slots:=sl }/\R (.ok (.ret (K1n s.heap.objs.size))) { s with heap:=s.heap.push { cls:=K3n "tuple",data:=Z0k (K5u (λx1 x2=>x1++x2) #[] (K0d x.toNat items)) },toks:=s.toks }) :=
 .of_wp λprog w A R s h=>by
  obtain ⟨hp,g,d,tk,os⟩:=s;obtain ⟨hl,h⟩:=h
  have f1:=K5f
  have c1:(decide (x < -(2 ^ 63))||decide (x ≥ 2 ^ 63))=false:=by simp;omega
  have c2:(items.isEmpty||x==1)=false:=by rw [hc];simp;omega
  have c3:(decide (x≤0)||items.isEmpty)=false:=by rw [hc];simp;omega
  have ez:(items.size:Int) * x=((items.size * x.toNat:Nat):Int):=by
   rw [Int.natCast_mul,K66 (by omega)]
  have sl4:(sizeLine:Nat)≤2 ^ 24:=by decide
  have c4:¬ (items.size:Int) * x > (2 ^ 63 - 1) / 8:=by rw [ez];omega
  have c5:Tuple.tupleTooMany ((items.size:Int) * x)=false:=by
   unfold Tuple.tupleTooMany
   rw [ez,decide_eq_false_iff_not]
   omega
  wp_walk using K18 hl
  refine K2x (by rw [c1];rfl) ?_
  wp_walk using K18 hl
  refine K2x (by rw [c2];rfl) ?_
  wp_walk using K18 hl
  refine K2x (by rw [c3];rfl) ?_
  wp_walk using K18 hl
  rw [if_neg c4]
  wp_walk using K18 hl
  refine K2x (by rw [c5];rfl) ?_
  wp_walk using K18 hl
  have c6:¬ (K5u (λx1 x2=>x1++x2) #[] (K0d x.toNat items)).size > sizeLine:=by
   have f0:=foldl_rep items.toList x.toNat []
   rw [K8a] at f0
   have:(K5u (λx1 x2=>x1++x2) #[] (K0d x.toNat items))=(K0d x.toNat items.toList).flatten.toArray:=f0
   rw [this,K09,len_rep,K17,K69]
   omega
  refine K2x (decide_eq_false c6) ?_
  wp_walk using K18 hl
  exact ⟨_,rfl,h⟩
def zH0 (K:K1):R2:=λx y H Q=>∃a k xs,x=.ref a/\y=.int k/\SqT K H a xs/\-(2 ^ 63)≤k/\k<2 ^ 63/\xs.length * k.toNat≤sizeLine /\
 ((xs=[]∨k=1)->Q (.ref a) H)/\(∀p,H p=none->Q (.ref p) (upd H p (.tup (K0d k.toNat xs).flatten)))
theorem zs2 {X:Cx}:OpR X (K37 .Mult) (zH0 X.K):=by
 intro pins s σ H x y v u Q I rx ry h
 obtain ⟨a,k,xs,rfl,rfl,ha,h1,h2,hz,q1,q2⟩:=h
 cases rx
 obtain ⟨t,rfl⟩:=ry
 obtain ⟨its,r1,p1,_⟩:=I.tuple ha
 obtain ⟨⟨cls,dd,data,sl⟩,ho,hc,n,hd⟩:=id p1
 simp only at hc hd
 subst hc hd
 have go:∀(R:Value->Shared->Prop),wpAny (model X.prog X.w) X.A (call (.builtin "tuple.__mul__") [.ref a,.int k t]) R X.xe s->wpAny (model X.prog X.w) X.A (K37 .Mult (.ref a) (.int k t)) R X.xe s:=λR z =>
  K6v (T:="tuple") (U:="int") (by decide) ⟨_,ho,rfl⟩ (λs'=>K7z s' k t) z3F PySem.F.fills_int_mul K8h z63 PySem.F.slot_int_index.lookup
   (K41 K8h (K7z s k t) PySem.F.entry_int_rmul (PySem.F.args_int_rmul_2 _ _) (zu9 k t a its.toArray n dd sl) ⟨ho,rfl,⟨_,ho,rfl⟩,z⟩)
 refine go _ ?_
 have ln:its.length=xs.length:=r1.length.symm
 by_cases c:xs=[]∨k=1
 ·refine K41 K33 ⟨_,ho,rfl⟩ K59 (K4v _ _) (zM6 a its.toArray n dd sl k t h1 h2 ?_) ⟨ho,.ref a,H,I,rfl,q1 c⟩
  rcases c with c|c
  ·left
   have:its=[]:=r1.nil_iff.mpr c
   rw [this];rfl
  ·exact .inr c
 ·have ne:its.toArray.isEmpty=false:=by
   cases its with
   | nil=>exact absurd (.inl (r1.nil_iff.mp rfl)) c
   | cons a r=>rfl
  by_cases k0:k≤0
  ·refine K41 K33 ⟨_,ho,rfl⟩ K59 (K4v _ _) (zC7 a its.toArray n dd sl k t h1 h2 ne k0) ⟨ho,?_⟩
   have e0:k.toNat=0:=by omega
   refine ⟨.ref s.heap.objs.size,_,I.laid (t':=s.toks) (o:=.tup (K0d k.toNat xs).flatten) (λb ob q=>K6 _ q) (K01 _) ?_,rfl,q2 _ (I.hok.fresh (K01 _))⟩
   rw [e0]
   exact ⟨by simp,_,.nil,FT.IsTup0.new _ _⟩
  ·have k2:1<k:=by
    have:k≠1:=λz=>c (.inr z)
    omega
   refine K41 K33 ⟨_,ho,rfl⟩ K59 (K4v _ _) (zM9 a its.toArray n dd sl k t h1 h2 ne k2 (by rw [K09,ln];exact hz)) ⟨ho,?_⟩
   refine ⟨.ref s.heap.objs.size,_,I.laid (t':=s.toks) (o:=.tup (K0d k.toNat xs).flatten) (λb ob q=>K6 _ q) (K01 _) ?_,rfl,q2 _ (I.hok.fresh (K01 _))⟩
   refine ⟨by rw [len_rep,K69];exact hz,_,r1.rep k.toNat,?_⟩
   have f0:=foldl_rep its k.toNat []
   rw [K8a] at f0
   have e:(K5u (λx1 x2=>x1++x2) #[] (K0d k.toNat its.toArray))=(K0d k.toNat its).flatten.toArray:=f0
   rw [e]
   exact FT.IsTup0.new _ _
end L2
namespace FT
def z55:D->D->M D
 | .tup x,.int j=>if decide (-(2 ^ 63)≤j)&&decide (j<2 ^ 63)&&decide (j.toNat * x.length≤sizeLine) then pure (.tup (K0d j.toNat x).flatten) else bad
 | x,y=>fMul x y
theorem zz2 {X:Cx}{EX:XX}:BR X.K EX (λx y H Q=>(rI CMul (λi j=>.int (i * j)) x y H Q∨rRep x y H Q)∨zH0 X.K x y H Q) z55:=by
 intro ρ h H x y v u Q r rx ry fin
 unfold z55 at fin
 split at fin
 ·rename_i ds j
  simp only [RD] at rx ry
  obtain ⟨a,xs,rfl,sq,rd⟩:=rx
  subst ry
  split at fin
  ·rename_i hc
   simp only [K0j,decide_eq_true_eq] at hc
   have hl:=rd.length
   refine .inr ⟨a,j,xs,rfl,rfl,sq,hc.1.1,hc.1.2,by rw [← hl,K69];exact hc.2,λc=>?_,λp hp=>FE.tup fin r (rd.flat j.toNat) hp⟩
   refine FE.here fin r ?_
   simp only [RD]
   refine ⟨a,xs,rfl,sq,?_⟩
   rcases c with c|c
   ·subst c
    have:ds=[]:=by simpa using hl
    subst this
    have:(K0d j.toNat ([]:List D)).flatten=[]:=by simp
    rw [this];exact rd
   ·subst c
    have:(K0d (1:Int).toNat ds).flatten=ds:=by simp
    rw [this];exact rd
  ·exact fin.elim
 ·exact .inl (zJ8 ρ h H x y v u Q r rx ry fin)
theorem z4S {X:Cx}{EX:XX}{a b:Expr}{pos:Pos}{ma mb:G->M D}(ha:SE X EX a ma) (hb:SE X EX b mb):SE X EX (.BinOp a .Mult b pos) (e2 z55 ma mb):=zc1 ((op_mul.or zE4).or zs2) zz2 ha hb
section
variable {X:Cx}{a e:Expr}{es:List Expr}{kws:List K44}{pos p kpos:Pos}{mr mk:G->M (List D)}{ma:G->M D}{nm:Option Str}{EX:XX}
end
end FT
namespace L2
open PySem.AutoSeq1 (wpAny_loadPart')
section
variable {prog:K0n}{w:World}{A:Around}{E:Value->Shared->Prop}{s:Shared}
theorem z5d {Q:List Value->Shared->Prop}{r:Addr}{a b c:Int}{t u v:Tok}{n:Nat}(hh:A.handled=none) (hr:K9m s.heap r a b c t u v) (hsmall:K4r a b c=true)
 (hn:K2t a b c=n) (hlen:n≤2 ^ 24)
 (hQ:∀h' tk (acc:Array Value),(∀b o,s.heap.get? b=some o->h'.get? b=some o)->K76 (λi v=>∃t,v=.int (a+i * c) t) acc n->Q acc.toList { s with heap:=h',toks:=tk }):wpAny (model prog w) A (K9l (.ref r)) Q E s:=by
 unfold K9l
 refine K2 (K5n (K24 PySem.F.entry_proto_collect ?_))
 rw [K1j K6c _]
 show wpAny _ A.in1 (K9k [] >>= λl=>again (.builtin "list.__iadd__" ⟨[l,.ref r],[]⟩)) _ _ s
 refine K2 (K1i ?_)
 refine K9 ⟨K4u K2j _,K24 PySem.F.entry_list_iadd ?_⟩
 rw [K1j K2j _]
 show wpAny _ A.in1 (K31 (.ref s.heap.objs.size) (.ref r) (.ref s.heap.objs.size)) _ _ _
 have hS:(s.heap.push { cls:=.type "list",data:=.seq ([]:List Value).toArray }).get? s.heap.objs.size=some { cls:=.type "list",data:=.seq #[] }:=K05 _ rfl
 refine K3p (wpAny_extend_range (A:=A) (R:=λrs s'=>rs=.ok (.ret (.ref s.heap.objs.size))/\∃h' tk acc' c',s'={ s with heap:=h',toks:=tk }/\(∀b o,s.heap.get? b=some o->h'.get? b=some o)/\h'.get? s.heap.objs.size=some { cls:=.type "list",dict:=none,data:=.seq acc' c',slots:=#[] }/\K76 (λi v=>∃t,v=.int (a+i * c) t) acc' n)
  hh (K6 _ hr) hsmall hn hlen s.heap.objs.size (.ref s.heap.objs.size) _ hS λh' tk acc' c' hk hS' hacc=>⟨rfl,h',tk,acc',c',rfl,λb o e=>hk b o (K0p (K06 e)) (K6 _ e),hS',hacc⟩) (λfin s' h=>?_) (λe s' h=>?_)
 ·have fin':∀s',(∃h' tk acc' c',s'={ s with heap:=h',toks:=tk }/\(∀b o,s.heap.get? b=some o->h'.get? b=some o)/\h'.get? s.heap.objs.size=some { cls:=.type "list",dict:=none,data:=.seq acc' c',slots:=#[] }/\K76 (λi v=>∃t,v=.int (a+i * c) t) acc' n)->wpAny (model prog w) A (match K1n s.heap.objs.size with
   | K1n a=>do
    match (← load a).data with
     | Z0k xs _=>pure xs.toList
     | _=>Z0b "internal:collect"
   | _=>Z0b "internal:collect") Q E s':=λs' ⟨h',tk,acc',c',e,k,hS',hacc⟩=>by
   subst e
   show wpAny _ A (load s.heap.objs.size >>= _) _ _ _
   refine K2 (K7y hS' ?_)
   exact K9 (hQ h' tk acc' k hacc)
  cases fin with
  | done f =>
   obtain ⟨e,h⟩:=h
   cases e
   exact fin' s' h
  | again c'=>exact ⟨h.1,K42 h.2 λrs s'' hr=>by obtain ⟨rfl,h⟩:=hr;exact fin' s'' h⟩
 ·exact absurd h.1 (by simp)
end
theorem z3t (r:Addr) (a b c:Int) (t u v:Tok) (n:Nat) (hsmall:K4r a b c=true) (hn:K2t a b c=n) (hlen:n≤2 ^ 24) :
 Meets (Builtin.«tuple.__new__» ⟨[.type "tuple",.ref r],[]⟩)
  (λA R s=>A.handled=none/\K9m s.heap r a b c t u v/\∀(h':Heap) (tk:Nat) (acc:Array Value),(∀b o',s.heap.get? b=some o'->h'.get? b=some o')->K76 (λi v=>∃t,v=.int (a+i * c) t) acc n->R (.ok (.ret (.ref h'.objs.size))) { s with heap:=h'.push { cls:=.type "tuple",data:=.seq acc },toks:=tk }) :=
 .of_wp λprog w A R s h=>by
  obtain ⟨hp,g,d,tk,os⟩:=s;obtain ⟨hh,hr,h⟩:=h
  have hsub:=sub_tuple_self
  have hinit:=init_tuple_lookup
  have hmh:=madeHere_tuple
  have hT:K78 ⟨hp,g,d,tk,os⟩ (.ref r) "range":=⟨_,hr,rfl⟩
  have hh1:A.in1.handled=none:=hh
  wp_walk using K18 hr,K9r hT,z5d hh1 hr hsmall hn hlen
  intro h' tk' acc hk hacc
  show wpAny _ _ (K7b acc.toList.toArray >>= λv=>ret v) _ _ _
  unfold K7b
  refine K2 (K1i ?_ (show acc.toList.toArray.size≤sizeLine by simp only [Array.toArray_toList];rw [hacc.1,K77];omega))
  refine K9 ⟨_,rfl,?_⟩
  have e:acc.toList.toArray=acc:=by simp
  rw [e]
  exact h h' tk' acc hk hacc
theorem z3G {prog:K0n}{w:World}{A:Around}{E:Value->Shared->Prop}{s:Shared}{Q:Value->Shared->Prop}{r:Addr}{a b c:Int}{t u v:Tok}{n:Nat}(hh:A.handled=none) (hr:K9m s.heap r a b c t u v) (hsmall:K4r a b c=true)
 (hn:K2t a b c=n) (hlen:n≤2 ^ 24)
 (h:∀(h':Heap) (tk:Nat) (acc:Array Value),(∀b o',s.heap.get? b=some o'->h'.get? b=some o')->K76 (λi v=>∃t,v=.int (a+i * c) t) acc n->Q (.ref h'.objs.size) { s with heap:=h'.push { cls:=.type "tuple",data:=.seq acc },toks:=tk }) :
 wpAny (model prog w) A (call (.type "tuple") [.ref r]) Q E s :=
 K9u PySem.F.called_tuple (by decide) (PySem.F.typeCall_tuple_1 _) (PySem.F.newCall_tuple_1 _) (λobj=>K4l obj _) PySem.F.entry_tuple_new
  (z3t r a b c t u v n hsmall hn hlen) ⟨hh,hr,λh' tk acc hk hacc=>⟨⟨_,K05 _ rfl,rfl⟩,h h' tk acc hk hacc⟩⟩
def rngO (p:Addr) (n:Int):HO:=.ext λh=>∃t u v,K9m h p 0 n 1 t u v
theorem zF0 {P:K0n}{w:World}{H:Hp}{h:Heap}{p:Addr}{n:Int}{t u v:Tok}(e:K9m h p 0 n 1 t u v):ObjOk P w H h p (rngO p n) :=
 ⟨⟨t,u,v,e⟩,⟨_,e⟩,λh1 h2 ⟨t,u,v,e⟩ k=>⟨t,u,v,k _ e⟩⟩
def z4p (n:Nat):List V:=(K8 n).map λ(i:Nat)=>V.int i
theorem z4x {acc:Array Value}{n:Nat}(h:K76 (λi v=>∃t,v=K5t (0+i * 1) t) acc n):Vals (z4p n) acc.toList:=by
 obtain ⟨hs,hi⟩:=h
 have:∀(xs:List Value) (k:Nat),(∀j v,xs[j]?=some v->∃t,v=K5t (0+((k+j:Nat):Int) * 1) t)->Vals ((Z08 k xs.length).map λ(i:Nat)=>V.int i) xs:=by
  intro xs
  induction xs with
  | nil=>intro k _;exact .nil
  | cons x r ih =>
   intro k hk
   rw [K07,K7k,K0t]
   refine .cons ?_ (ih (k+1) λj v e=>?_)
   ·obtain ⟨t,rfl⟩:=hk 0 x rfl
    exact ⟨t,by simp⟩
   ·obtain ⟨t,rfl⟩:=hk (j+1) v (by simpa using e)
    exact ⟨t,by congr 3;omega⟩
 have q:=this acc.toList 0 (λj v e=>by
  obtain ⟨t,rfl⟩:=hi j v (by simpa using e)
  exact ⟨t,by simp⟩)
 unfold z4p
 rw [List.range_eq_range',← hs]
 simpa using q
section
variable {X:Cx}
theorem z7b:z2z X (.type "range") (λxs H Q=>∃j,xs=[.int j]/\∀p,H p=none->Q (.ref p) (upd H p (rngO p j))):=by
 intro pins s σ H xs us Q I r h
 obtain ⟨j,rfl,q⟩:=h
 obtain ⟨u,rfl,ru⟩:=vals1 r
 obtain ⟨t,rfl⟩:=ru
 refine call_range_1 ⟨.ref s.heap.objs.size,_,I.laid (o:=rngO s.heap.objs.size j) (λb ob q=>K6 _ q) (K01 _) (zF0 (K05 _ rfl)),rfl,q _ (I.hok.fresh (K01 _))⟩
theorem zn0 {pins:List (Addr×Obj)}{σ:St}{H:Hp}{s:Shared}{p:Addr}{j:Int}(I:Inv X pins σ H s) (e:H p=some (rngO p j)):∃t u v,K9m s.heap p 0 j 1 t u v:=(I.hok p _ e).1
theorem za5 {j:Int}(h1:-(2 ^ 62)≤j) (h2:j<2 ^ 62):K4r 0 j 1=true:=small_one (by omega) (by omega) h1 h2
theorem zo4 (j:Int):K2t 0 j 1=(j.toNat:Int):=by rw [rangeSize_one];split<;>omega
theorem z8A (hc:X.calm=true):z2z X (.type "list") (λxs H Q=>∃p j,xs=[.ref p]/\H p=some (rngO p j)/\-(2 ^ 62)≤j/\j<2 ^ 62/\j.toNat≤sizeLine/\∀l,H l=none->Q (.ref l) (upd H l (.lst (z4p j.toNat)))):=by
 intro pins s σ H xs us Q I r h
 obtain ⟨p,j,rfl,e,h1,h2,hl,q⟩:=h
 obtain ⟨u,rfl,ru⟩:=vals1 r
 cases ru
 obtain ⟨t,u,v,hr⟩:=zn0 I e
 have l4:(sizeLine:Nat)≤2 ^ 24:=by decide
 refine call_list_range (n:=j.toNat) (I.ok.hd hc) hr (za5 h1 h2) (zo4 j) (by omega) λh' tk acc c' kp e' hacc=>?_
 have hv:=z4x hacc
 refine ⟨.ref s.heap.objs.size,_,I.laid (t':=tk) (o:=.lst (z4p j.toNat)) kp (K01 _) ⟨by unfold z4p;simpa using hl,acc.toList,c',hv,by simpa using e'⟩,rfl,q _ (I.hok.fresh (K01 _))⟩
theorem zb2 (hc:X.calm=true):z2z X (.type "tuple") (λxs H Q=>∃p j,xs=[.ref p]/\H p=some (rngO p j)/\-(2 ^ 62)≤j/\j<2 ^ 62/\j.toNat≤sizeLine/\∀l,H l=none->Q (.ref l) (upd H l (.tup (z4p j.toNat)))):=by
 intro pins s σ H xs us Q I r h
 obtain ⟨p,j,rfl,e,h1,h2,hl,q⟩:=h
 obtain ⟨u,rfl,ru⟩:=vals1 r
 cases ru
 obtain ⟨t,u,v,hr⟩:=zn0 I e
 have l4:(sizeLine:Nat)≤2 ^ 24:=by decide
 refine z3G (n:=j.toNat) (I.ok.hd hc) hr (za5 h1 h2) (zo4 j) (by omega) λh' tk acc kp hacc=>?_
 have hv:=z4x hacc
 have I1:Inv X pins σ H { s with heap:=h',toks:=tk }:=I.kept kp
 refine ⟨.ref h'.objs.size,_,I1.laid (t':=tk) (o:=.tup (z4p j.toNat)) (λb ob z=>K6 _ z) (K01 _) ⟨by unfold z4p;simpa using hl,acc.toList,hv,?_⟩,rfl,q _ (I1.hok.fresh (K01 _))⟩
 have:acc.toList.toArray=acc:=by simp
 rw [this]
 exact FT.IsTup0.new _ _
end
end L2
namespace FT
def eRng (tup:Bool) (ma:G->M D):G->M D:=λγ=>do
 let x ← ma γ
 match x with
 | .int j=>if decide (-(2 ^ 62)≤j)&&decide (j<2 ^ 62)&&decide (j.toNat≤sizeLine) then (if tup then pure (.tup (z0H j.toNat)) else newL (z0H j.toNat)) else bad
 | _=>bad
theorem za8 {K:K1}{ρ:List Addr}{H:Hp}{ι:Type}{f:ι->D}{g:ι->V}:∀(l:List ι),(∀i,RD K ρ H (f i) (g i))->RDs K ρ H (l.map f) (l.map g)
 | [],_=>RDs.nil
 | x::r,h=>RDs.cons (h x) (za8 r h)
theorem z6u {K:K1}{ρ:List Addr}{H:Hp}(n:Nat):RDs K ρ H (z0H n) (z4p n):=by
 unfold z0H z4p
 exact za8 _ λi=>by simp [RD]
section
variable {X:Cx}{EX:XX}{a:Expr}{p p2 pos pos2:Pos}{ma:G->M D}
theorem zf5 (hc:X.calm=true) (hg:Gl X "list") (hm:X.mg "list" = none) (hg2:Gl X "range") (hm2:X.mg "range" = none) (ha:SE X EX a ma) (he:K0b [a] X.env=[(false,eval a X.env)]:=by rfl)
 (he2:K0b [.Call (.Name "range" p2) [a] [] pos2] X.env=[(false,eval (.Call (.Name "range" p2) [a] [] pos2) X.env)]:=by rfl):SE X EX (.Call (.Name "list" p) [.Call (.Name "range" p2) [a] [] pos2] [] pos) (eRng false ma) :=
 ⟨PE.imp (z1a (z8A hc) hg hm (by decide +kernel) (z0G (z1a z7b hg2 hm2 (by decide +kernel) (z0G ha.h z23 he) (by decide) (by decide) he rfl) z23 he2) (by decide) (by decide) he2 rfl) λσ H Q ⟨ρ,γ,h,rel,fin⟩=>⟨ρ,γ,h,rel,(Fin.bind fin).mono λx ρ1 h1 H1 p1 e1 r1 f1 v rv=>by
  cases x<;>first|exact (show False from f1).elim|skip
  rename_i j
  simp only [RD] at rv
  subst rv
  dsimp only at f1
  split at f1
  ·rename_i c
   simp only [K0j,decide_eq_true_eq] at c
   rw [if_neg (by decide)] at f1
   refine ⟨j,rfl,λq hq=>⟨q,j,rfl,w6,c.1.1,c.1.2,c.2,λl hl=>?_⟩⟩
   unfold newL at f1
   rw [if_pos (by unfold z0H;simpa using c.2)] at f1
   exact FE.lst (Fin.up (Pre.refl _) (Ext.upd (.inl hq)) f1) (r1.other hq) (z6u _) hl
  ·exact f1.elim⟩⟩
theorem zz0 (hc:X.calm=true) (hg:Gl X "tuple") (hm:X.mg "tuple" = none) (hg2:Gl X "range") (hm2:X.mg "range" = none) (ha:SE X EX a ma) (he:K0b [a] X.env=[(false,eval a X.env)]:=by rfl)
 (he2:K0b [.Call (.Name "range" p2) [a] [] pos2] X.env=[(false,eval (.Call (.Name "range" p2) [a] [] pos2) X.env)]:=by rfl):SE X EX (.Call (.Name "tuple" p) [.Call (.Name "range" p2) [a] [] pos2] [] pos) (eRng true ma) :=
 ⟨PE.imp (z1a (zb2 hc) hg hm (by decide +kernel) (z0G (z1a z7b hg2 hm2 (by decide +kernel) (z0G ha.h z23 he) (by decide) (by decide) he rfl) z23 he2) (by decide) (by decide) he2 rfl) λσ H Q ⟨ρ,γ,h,rel,fin⟩=>⟨ρ,γ,h,rel,(Fin.bind fin).mono λx ρ1 h1 H1 p1 e1 r1 f1 v rv=>by
  cases x<;>first|exact (show False from f1).elim|skip
  rename_i j
  simp only [RD] at rv
  subst rv
  dsimp only at f1
  split at f1
  ·rename_i c
   simp only [K0j,decide_eq_true_eq] at c
   rw [if_pos rfl] at f1
   refine ⟨j,rfl,λq hq=>⟨q,j,rfl,w6,c.1.1,c.1.2,c.2,λl hl=>?_⟩⟩
   exact FE.tup (Fin.up (Pre.refl _) (Ext.upd (.inl hq)) f1) (r1.other hq) (z6u _) hl
  ·exact f1.elim⟩⟩
end
inductive Vw where
 | flat (d:D)|tup (xs:List D)|lst (xs:List D)|no
def vw (h:AH):D->Vw
 | .tup xs=>.tup xs
 | .fl xs=>.lst xs
 | .ref i=>match h[i]? with
  | .(l xs)=>.lst xs
  | _=>.no
 | d=>.flat d
def eqZ (f:D->D->Option Bool):List D->List D->Option Bool
 | [],[]=>some true
 | x::xs,y::ys=>match f x y,eqZ f xs ys with
  | some a,some b=>some (a&&b)
  | _,_=>none
 | _,_=>some false
def eqN:Nat->AH->D->D->Option Bool
 | 0,_,_,_=>none
 | n+1,h,x,y=>match vw h x,vw h y with
  | .flat a,.flat b=>some (eqF a b)
  | .tup xs,.tup ys=>eqZ (eqN n h) xs ys
  | .lst xs,.lst ys=>eqZ (eqN n h) xs ys
  | .no,_=>none
  | _,.no=>none
  | _,_=>some false
def eqE (f:D->D->Option Bool) (xs ys:List D) (j:Nat):Bool:=(f (xs.getD j .non) (ys.getD j .non)).getD false
theorem z5x {f:D->D->Option Bool}:∀{xs ys:List D}{b:Bool},eqZ f xs ys=some b ->
 (∀j x y,xs[j]?=some x->ys[j]?=some y->f x y=some (eqE f xs ys j))/\b=((K8 (min xs.length ys.length)).all (eqE f xs ys)&&xs.length==ys.length)
 | [],[],b,h=>by
  unfold eqZ at h;cases h
  exact ⟨λj x y e=>by simp at e,by simp⟩
 | [],y::ys,b,h=>by
  unfold eqZ at h;cases h
  exact ⟨λj x y e=>by simp at e,by simp⟩
 | x::xs,[],b,h=>by
  unfold eqZ at h;cases h
  exact ⟨λj x y _ e=>by simp at e,by simp⟩
 | x::xs,y::ys,b,h=>by
  unfold eqZ at h
  split at h
  ·rename_i a c e1 e2
   cases h
   obtain ⟨q1,q2⟩:=z5x e2
   refine ⟨λj p q ep eq=>?_,?_⟩
   ·cases j with
    | zero=>simp at ep eq;subst ep;subst eq;unfold eqE;simp [e1]
    | succ j=>simpa [eqE] using q1 j p q (by simpa using ep) (by simpa using eq)
   ·rw [q2]
    have:min (x::xs).length (y::ys).length=min xs.length ys.length+1:=by simp
    rw [this,K82,K4s,List.all_map,← Bool.and_assoc]
    congr 1
    ·unfold eqE
     simp [e1,K70]
    ·simp
  ·cases h
section
variable {K:K1}{ρ:List Addr}{h:AH}{H:Hp}
theorem z2c {d a:D}(e:vw h d=.flat a):a=d/\z0R d=true:=by
 cases d<;>simp [vw] at e<;>first|(subst e;exact ⟨rfl,rfl⟩)|skip
 split at e<;>cases e
theorem z3y {d:D}{xs:List D}{v:V}(e:vw h d=.tup xs) (r:RD K ρ H d v):∃a vs,v=.ref a/\SqT K H a vs/\RDs K ρ H xs vs:=by
 cases d<;>simp [vw] at e
 ·subst e;simpa [RD] using r
 ·split at e<;>cases e
theorem z3A {d:D}{xs:List D}{v:V}(rh:RH K ρ h H) (e:vw h d=.lst xs) (r:RD K ρ H d v):∃a vs,v=.ref a/\SqL K H a vs/\RDs K ρ H xs vs:=by
 cases d<;>simp [vw] at e
 ·subst e
  simp only [RD] at r
  obtain ⟨a,vs,h1,h2,h3⟩:=r
  exact ⟨a,vs,h1,h2.sq,h3⟩
 ·split at e
  ·rename_i i xs' ei
   cases e
   simp only [RD] at r
   obtain ⟨a,h1,h2⟩:=r
   obtain ⟨a',h3,vs,h4,h5⟩:=rh.at ei
   rw [h2] at h3;cases h3
   exact ⟨a,vs,h1,SqL.of h4,h5⟩
  ·cases e
end
section
variable {X:Cx}{pins:List (Addr×Obj)}{σ:L2.St}{ρ:List Addr}{h:AH}{H:Hp}{s:Shared}
theorem z5h {K:K1}{a:Addr}:∀{d:D},z0R d=true->RD K ρ H d (.ref a)->False
 | .non,_,r=>by simp [RD] at r
 | .bl _,_,r=>by simp [RD] at r
 | .int _,_,r=>by simp [RD] at r
 | .str _,_,r=>by simp [RD] at r
 | .tup _,f,_=>by cases f
 | .fl _,f,_=>by cases f
 | .ref _,f,_=>by cases f
theorem ze9:∀{d:D},z0R d=true->eqF d d=true
 | .non,_=>rfl
 | .bl _,_=>by simp [eqF]
 | .int _,_=>by simp [eqF]
 | .str _,_=>by simp [eqF]
 | .tup _,f=>by cases f
 | .fl _,f=>by cases f
 | .ref _,f=>by cases f
def flV:D->V
 | .bl b=>.bl b
 | .int i=>.int i
 | .str x=>.str x
 | _=>.non
theorem z4J {K:K1}:∀{d:D}{v:V},z0R d=true->RD K ρ H d v->v=flV d
 | .non,_,_,r=>by simp only [RD] at r;exact r
 | .bl _,_,_,r=>by simp only [RD] at r;exact r
 | .int _,_,_,r=>by simp only [RD] at r;exact r
 | .str _,_,_,r=>by simp only [RD] at r;exact r
 | .tup _,_,f,_=>by cases f
 | .fl _,_,f,_=>by cases f
 | .ref _,_,f,_=>by cases f
theorem zq8:∀{a b:D},z0R a=true->z0R b=true->flV a=flV b->a=b
 | .non,.non,_,_,_=>rfl
 | .bl _,.bl _,_,_,e=>by cases e;rfl
 | .int _,.int _,_,_,e=>by cases e;rfl
 | .str _,.str _,_,_,e=>by cases e;rfl
 | .non,.bl _,_,_,e=>by cases e
 | .non,.int _,_,_,e=>by cases e
 | .non,.str _,_,_,e=>by cases e
 | .bl _,.non,_,_,e=>by cases e
 | .bl _,.int _,_,_,e=>by cases e
 | .bl _,.str _,_,_,e=>by cases e
 | .int _,.non,_,_,e=>by cases e
 | .int _,.bl _,_,_,e=>by cases e
 | .int _,.str _,_,_,e=>by cases e
 | .str _,.non,_,_,e=>by cases e
 | .str _,.bl _,_,_,e=>by cases e
 | .str _,.int _,_,_,e=>by cases e
 | .tup _,_,f,_,_=>by cases f
 | .fl _,_,f,_,_=>by cases f
 | .ref _,_,f,_,_=>by cases f
 | _,.tup _,_,f,_=>by cases f
 | _,.fl _,_,f,_=>by cases f
 | _,.ref _,_,f,_=>by cases f
theorem list_inj {a:Addr}{xs ys:List V}(I:Inv X pins σ H s) (h1:SqL X.K H a xs) (h2:SqL X.K H a ys):xs=ys:=by
 obtain ⟨its,r,⟨o,n,e,_,_,d⟩,_⟩:=I.list h1
 obtain ⟨its',r',⟨o',n',e',_,_,d'⟩,_⟩:=I.list h2
 rw [e] at e';cases e'
 rw [d] at d'
 injection d' with d1 _
 have:its=its':=by simpa using congrArg K9f d1
 subst this
 exact r.inj r'
theorem z77 (I:Inv X pins σ H s) (rh:RH X.K ρ h H):∀(n:Nat) {d1 d2:D}{v:V}{b:Bool},RD X.K ρ H d1 v->RD X.K ρ H d2 v->eqN n h d1 d2=some b->b=true
 | 0,d1,d2,v,b,_,_,e=>by cases e
 | n+1,d1,d2,v,b,r1,r2,e=>by
  have elems:∀{xs ys:List D} {vs:List V},RDs X.K ρ H xs vs->RDs X.K ρ H ys vs->eqZ (eqN n h) xs ys=some b->b=true:=λ{xs ys vs} q1 q2 z=>by
   obtain ⟨z1,z2⟩:=z5x z
   have l1:=q1.length
   have l2:=q2.length
   rw [z2,K0j,K1o]
   refine ⟨λj hj=>?_,by simp;omega⟩
   have hj':j<xs.length:=by simp at hj;omega
   have e1:xs[j]?=some xs[j]:=K4 hj'
   have e2:ys[j]?=some ys[j]:=K4 (by omega)
   obtain ⟨w1,a1,a2⟩:=q1.get e1
   obtain ⟨w2,b1,b2⟩:=q2.get e2
   rw [a1] at b1;cases b1
   exact z77 I rh n a2 b2 (z1 j _ _ e1 e2)
  unfold eqN at e
  have nl:∀{a:Addr} {vs ws:List V},SqT X.K H a vs->SqL X.K H a ws->False:=λ{a vs ws} t1 t2=>by
   obtain ⟨its,_,p1,_⟩:=I.tuple t1
   obtain ⟨its2,_,p2,_⟩:=I.list t2
   exact SeqAt.ne_of_list_tuple p2.isList (show s.heap.IsTuple a its.toArray from p1) rfl
  cases e1:vw h d1 with
  | no=>rw [e1] at e;cases e2:vw h d2<;>rw [e2] at e<;>cases e
  | flat a =>
   rw [e1] at e
   obtain ⟨rfl,f1⟩:=z2c e1
   cases e2:vw h d2 with
   | no=>rw [e2] at e;cases e
   | flat c =>
    rw [e2] at e
    obtain ⟨rfl,f2⟩:=z2c e2
    cases e
    have:=zq8 f1 f2 ((z4J f1 r1).symm.trans (z4J f2 r2))
    subst this
    exact ze9 f1
   | tup ys=>obtain ⟨a',vs,rfl,_,_⟩:=z3y e2 r2;exact (z5h f1 r1).elim
   | lst ys=>obtain ⟨a',vs,rfl,_,_⟩:=z3A rh e2 r2;exact (z5h f1 r1).elim
  | tup xs =>
   rw [e1] at e
   obtain ⟨a,vs,rfl,t1,q1⟩:=z3y e1 r1
   cases e2:vw h d2 with
   | no=>rw [e2] at e;cases e
   | flat c=>obtain ⟨rfl,f2⟩:=z2c e2;exact (z5h f2 r2).elim
   | tup ys =>
    rw [e2] at e
    obtain ⟨a',ws,ea,t2,q2⟩:=z3y e2 r2
    cases ea
    have:=I.tuple_inj t1 t2
    subst this
    exact elems q1 q2 e
   | lst ys =>
    obtain ⟨a',ws,ea,t2,q2⟩:=z3A rh e2 r2
    cases ea
    exact (nl t1 t2).elim
  | lst xs =>
   rw [e1] at e
   obtain ⟨a,vs,rfl,t1,q1⟩:=z3A rh e1 r1
   cases e2:vw h d2 with
   | no=>rw [e2] at e;cases e
   | flat c=>obtain ⟨rfl,f2⟩:=z2c e2;exact (z5h f2 r2).elim
   | lst ys =>
    rw [e2] at e
    obtain ⟨a',ws,ea,t2,q2⟩:=z3A rh e2 r2
    cases ea
    have:=list_inj I t1 t2
    subst this
    exact elems q1 q2 e
   | tup ys =>
    obtain ⟨a',ws,ea,t2,q2⟩:=z3y e2 r2
    cases ea
    exact (nl t2 t1).elim
open SeqAt in
theorem mixT {A:Around}{u:Value}{d:D}{v:V}{K:K1}{a:Addr}{its:Array Value}(f:z0R d=true) (r:RD K ρ H d v) (ru:RelV v u) (p:s.heap.IsTuple a its) (hu:A.units<cLine):EqAt A s u (.ref a) false/\EqAt A s (.ref a) u false/\RcAt A s u (.ref a) false/\RcAt A s (.ref a) u false/\RcNeAt A s u (.ref a) true/\RcNeAt A s (.ref a) u true:=by
 have:=z4J f r
 subst this
 cases d with
 | non=>cases ru;exact ⟨.none_tuple p hu,.tuple_none p hu,.none_tuple p hu,.tuple_none p hu,.none_tuple p hu,.tuple_none p hu⟩
 | bl b=>cases ru;exact ⟨.bool_tuple b p hu,.tuple_bool b p hu,.bool_tuple b p hu,.tuple_bool b p hu,.bool_tuple b p hu,.tuple_bool b p hu⟩
 | int i=>obtain ⟨t,rfl⟩:=ru;exact ⟨.int_tuple i t p hu,.tuple_int i t p hu,.int_tuple i t p hu,.tuple_int i t p hu,.int_tuple i t p hu,.tuple_int i t p hu⟩
 | str x=>obtain ⟨t,rfl⟩:=ru;exact ⟨.str_tuple x t p hu,.tuple_str x t p hu,.str_tuple x t p hu,.tuple_str x t p hu,.str_tuple x t p hu,.tuple_str x t p hu⟩
 | tup _=>cases f
 | fl _=>cases f
 | ref _=>cases f
open SeqAt in
theorem mixL {A:Around}{u:Value}{d:D}{v:V}{K:K1}{a:Addr}{its:Array Value}(f:z0R d=true) (r:RD K ρ H d v) (ru:RelV v u) (p:s.heap.IsList a its) (hu:A.units<cLine):EqAt A s u (.ref a) false/\EqAt A s (.ref a) u false/\RcAt A s u (.ref a) false/\RcAt A s (.ref a) u false/\RcNeAt A s u (.ref a) true/\RcNeAt A s (.ref a) u true:=by
 have:=z4J f r
 subst this
 cases d with
 | non=>cases ru;exact ⟨.none_list p hu,.list_none p hu,.none_list p hu,.list_none p hu,.none_list p hu,.list_none p hu⟩
 | bl b=>cases ru;exact ⟨.bool_list b p hu,.list_bool b p hu,.bool_list b p hu,.list_bool b p hu,.bool_list b p hu,.list_bool b p hu⟩
 | int i=>obtain ⟨t,rfl⟩:=ru;exact ⟨.int_list i t p hu,.list_int i t p hu,.int_list i t p hu,.list_int i t p hu,.int_list i t p hu,.list_int i t p hu⟩
 | str x=>obtain ⟨t,rfl⟩:=ru;exact ⟨.str_list x t p hu,.list_str x t p hu,.str_list x t p hu,.list_str x t p hu,.str_list x t p hu,.list_str x t p hu⟩
 | tup _=>cases f
 | fl _=>cases f
 | ref _=>cases f
open SeqAt in
theorem zS9 {A:Around}{u1 u2:Value}:∀(d1 d2:D),z0R d1=true->z0R d2=true->RelV (flV d1) u1->RelV (flV d2) u2->EqAt A s u1 u2 (eqF d1 d2)/\RcAt A s u1 u2 (eqF d1 d2)/\RcNeAt A s u1 u2 (!(eqF d1 d2))
 | .non,.non,_,_,r1,r2=>by cases r1;cases r2;exact ⟨EqAt.same _,RcAt.none_none,RcNeAt.none_none⟩
 | .non,(.bl b),_,_,r1,r2=>by cases r1;cases r2;exact ⟨EqAt.none_bool b,RcAt.none_bool b,RcNeAt.none_bool b⟩
 | .non,(.int b),_,_,r1,r2=>by cases r1;obtain ⟨t2,rfl⟩:=r2;exact ⟨EqAt.none_int b t2,RcAt.none_int b t2,RcNeAt.none_int b t2⟩
 | .non,(.str b),_,_,r1,r2=>by cases r1;obtain ⟨t2,rfl⟩:=r2;exact ⟨EqAt.none_str b t2,RcAt.none_str b t2,RcNeAt.none_str b t2⟩
 | (.bl a),.non,_,_,r1,r2=>by cases r1;cases r2;exact ⟨EqAt.bool_none a,RcAt.bool_none a,RcNeAt.bool_none a⟩
 | (.bl a),(.bl b),_,_,r1,r2=>by cases r1;cases r2;exact ⟨EqAt.bool_bool a b,RcAt.bool_bool a b,RcNeAt.bool_bool a b⟩
 | (.bl a),(.int b),_,_,r1,r2=>by cases r1;obtain ⟨t2,rfl⟩:=r2;exact ⟨EqAt.bool_int a b t2,RcAt.bool_int a b t2,RcNeAt.bool_int a b t2⟩
 | (.bl a),(.str b),_,_,r1,r2=>by cases r1;obtain ⟨t2,rfl⟩:=r2;exact ⟨EqAt.bool_str a b t2,RcAt.bool_str a b t2,RcNeAt.bool_str a b t2⟩
 | (.int a),.non,_,_,r1,r2=>by obtain ⟨t1,rfl⟩:=r1;cases r2;exact ⟨EqAt.int_none a t1,RcAt.int_none a t1,RcNeAt.int_none a t1⟩
 | (.int a),(.bl b),_,_,r1,r2=>by obtain ⟨t1,rfl⟩:=r1;cases r2;exact ⟨EqAt.int_bool a t1 b,RcAt.int_bool a t1 b,RcNeAt.int_bool a t1 b⟩
 | (.int a),(.int b),_,_,r1,r2=>by obtain ⟨t1,rfl⟩:=r1;obtain ⟨t2,rfl⟩:=r2;exact ⟨EqAt.int_int a t1 b t2,RcAt.int_int a t1 b t2,RcNeAt.int_int a t1 b t2⟩
 | (.int a),(.str b),_,_,r1,r2=>by obtain ⟨t1,rfl⟩:=r1;obtain ⟨t2,rfl⟩:=r2;exact ⟨EqAt.int_str a t1 b t2,RcAt.int_str a t1 b t2,RcNeAt.int_str a t1 b t2⟩
 | (.str a),.non,_,_,r1,r2=>by obtain ⟨t1,rfl⟩:=r1;cases r2;exact ⟨EqAt.str_none a t1,RcAt.str_none a t1,RcNeAt.str_none a t1⟩
 | (.str a),(.bl b),_,_,r1,r2=>by obtain ⟨t1,rfl⟩:=r1;cases r2;exact ⟨EqAt.str_bool a t1 b,RcAt.str_bool a t1 b,RcNeAt.str_bool a t1 b⟩
 | (.str a),(.int b),_,_,r1,r2=>by obtain ⟨t1,rfl⟩:=r1;obtain ⟨t2,rfl⟩:=r2;exact ⟨EqAt.str_int a t1 b t2,RcAt.str_int a t1 b t2,RcNeAt.str_int a t1 b t2⟩
 | (.str a),(.str b),_,_,r1,r2=>by obtain ⟨t1,rfl⟩:=r1;obtain ⟨t2,rfl⟩:=r2;exact ⟨EqAt.str_str a t1 b t2,RcAt.str_str a t1 b t2,RcNeAt.str_str a t1 b t2⟩
 | .tup _,_,f,_,_,_=>by cases f
 | .fl _,_,f,_,_,_=>by cases f
 | .ref _,_,f,_,_,_=>by cases f
 | _,.tup _,_,f,_,_=>by cases f
 | _,.fl _,_,f,_,_=>by cases f
 | _,.ref _,_,f,_,_=>by cases f
open SeqAt in
theorem deq (I:Inv X pins σ H s) (rh:RH X.K ρ h H):∀(n:Nat) {A:Around}{d1 d2:D}{v1 v2:V}{u1 u2:Value}{b:Bool},A.units+n<cLine->RD X.K ρ H d1 v1->RD X.K ρ H d2 v2->RelV v1 u1->RelV v2 u2->eqN n h d1 d2=some b->EqAt A s u1 u2 b/\RcAt A s u1 u2 b/\RcNeAt A s u1 u2 (!b)
 | 0,A,d1,d2,v1,v2,u1,u2,b,_,_,_,_,_,e=>by cases e
 | n+1,A,d1,d2,v1,v2,u1,u2,b,hA,r1,r2,w1,w2,e=>by
  have hu:A.units<cLine:=by omega
  have e0:=e
  unfold eqN at e
  have elems:∀{xs ys:List D} {vs ws:List V} {its its2:List Value},RDs X.K ρ H xs vs->RDs X.K ρ H ys ws->Vals vs its->Vals ws its2->eqZ (eqN n h) xs ys=some b ->
   (∀j (h1:j<its.toArray.size) (h2:j<its2.toArray.size),EqAt A.in1 s its.toArray[j] its2.toArray[j] (eqE (eqN n h) xs ys j))/\b=((K8 (min its.toArray.size its2.toArray.size)).all (eqE (eqN n h) xs ys)&&its.toArray.size==its2.toArray.size):=λ{xs ys vs ws its its2} q1 q2 a1 a2 z=>by
   obtain ⟨z1,z2⟩:=z5x z
   have l1:=q1.length
   have l2:=q2.length
   have l3:=a1.length
   have l4:=a2.length
   refine ⟨λj h1 h2=>?_,by rw [z2,K09,K09,← l3,← l4,← l1,← l2]⟩
   have j1:j<xs.length:=by rw [K09] at h1;omega
   have j2:j<ys.length:=by rw [K09] at h2;omega
   have e1:xs[j]?=some xs[j]:=K4 j1
   have e2:ys[j]?=some ys[j]:=K4 j2
   obtain ⟨x1,b1,c1⟩:=q1.get e1
   obtain ⟨x2,b2,c2⟩:=q2.get e2
   obtain ⟨y1,b3,c3⟩:=a1.get b1
   obtain ⟨y2,b4,c4⟩:=a2.get b2
   have g1:its.toArray[j]=y1:=by
    have:=K4 (l:=its) (i:=j) (by simpa using h1)
    rw [b3] at this
    simpa using (K13 this).symm
   have g2:its2.toArray[j]=y2:=by
    have:=K4 (l:=its2) (i:=j) (by simpa using h2)
    rw [b4] at this
    simpa using (K13 this).symm
   rw [g1,g2]
   exact (deq I rh n (A:=A.in1) (show A.units+1+n<cLine by omega) c1 c2 c3 c4 (z1 j _ _ e1 e2)).1
  have same:∀{a a':Addr},v1=.ref a->v2=.ref a'->a=a'->b=true:=λ{a a'} x y z=>by
   subst z
   rw [x] at r1
   rw [y] at r2
   exact z77 I rh (n+1) r1 r2 e0
  cases e1:vw h d1 with
  | no=>rw [e1] at e;cases e2:vw h d2<;>rw [e2] at e<;>cases e
  | flat a =>
   rw [e1] at e
   obtain ⟨rfl,f1⟩:=z2c e1
   cases e2:vw h d2 with
   | no=>rw [e2] at e;cases e
   | flat c =>
    rw [e2] at e
    obtain ⟨rfl,f2⟩:=z2c e2
    cases e
    rw [z4J f1 r1] at w1
    rw [z4J f2 r2] at w2
    exact zS9 a c f1 f2 w1 w2
   | tup ys =>
    rw [e2] at e
    cases e
    obtain ⟨a',vs,rfl,t2,_⟩:=z3y e2 r2
    cases w2
    obtain ⟨its,_,p,_⟩:=I.tuple t2
    obtain ⟨m1,_,m3,_,m5,_⟩:=mixT (s:=s) f1 r1 w1 (show s.heap.IsTuple a' its.toArray from p) hu
    exact ⟨m1,m3,m5⟩
   | lst ys =>
    rw [e2] at e
    cases e
    obtain ⟨a',vs,rfl,t2,_⟩:=z3A rh e2 r2
    cases w2
    obtain ⟨its,_,p,_⟩:=I.list t2
    obtain ⟨m1,_,m3,_,m5,_⟩:=mixL (s:=s) f1 r1 w1 p.isList hu
    exact ⟨m1,m3,m5⟩
  | tup xs =>
   rw [e1] at e
   obtain ⟨a,vs,rfl,t1,q1⟩:=z3y e1 r1
   cases w1
   obtain ⟨its,x1,p1,_⟩:=I.tuple t1
   have p1:s.heap.IsTuple a its.toArray:=p1
   cases e2:vw h d2 with
   | no=>rw [e2] at e;cases e
   | flat c =>
    rw [e2] at e
    cases e
    obtain ⟨rfl,f2⟩:=z2c e2
    obtain ⟨_,m2,_,m4,_,m6⟩:=mixT (s:=s) f2 r2 w2 p1 hu
    exact ⟨m2,m4,m6⟩
   | tup ys =>
    rw [e2] at e
    obtain ⟨a',ws,rfl,t2,q2⟩:=z3y e2 r2
    cases w2
    obtain ⟨its2,x2,p2,_⟩:=I.tuple t2
    have p2:s.heap.IsTuple a' its2.toArray:=p2
    obtain ⟨g1,g2⟩:=elems q1 q2 x1 x2 e
    have rc:=RcAt.tuples p1 p2 hu g1
    have rn:=RcNeAt.tuples p1 p2 hu g1
    rw [← g2] at rc rn
    refine ⟨?_,rc,rn⟩
    by_cases ea:a=a'
    ·rw [same rfl rfl ea]
     subst ea
     exact EqAt.same _
    ·exact EqAt.of_refs ea rc
   | lst ys =>
    rw [e2] at e
    cases e
    obtain ⟨a',ws,rfl,t2,q2⟩:=z3A rh e2 r2
    cases w2
    obtain ⟨its2,x2,p2,_⟩:=I.list t2
    exact ⟨EqAt.tuple_list p1 p2.isList hu,RcAt.tuple_list p1 p2.isList hu,RcNeAt.tuple_list p1 p2.isList hu⟩
  | lst xs =>
   rw [e1] at e
   obtain ⟨a,vs,rfl,t1,q1⟩:=z3A rh e1 r1
   cases w1
   obtain ⟨its,x1,p1,_⟩:=I.list t1
   cases e2:vw h d2 with
   | no=>rw [e2] at e;cases e
   | flat c =>
    rw [e2] at e
    cases e
    obtain ⟨rfl,f2⟩:=z2c e2
    obtain ⟨_,m2,_,m4,_,m6⟩:=mixL (s:=s) f2 r2 w2 p1.isList hu
    exact ⟨m2,m4,m6⟩
   | tup ys =>
    rw [e2] at e
    cases e
    obtain ⟨a',ws,rfl,t2,q2⟩:=z3y e2 r2
    cases w2
    obtain ⟨its2,x2,p2,_⟩:=I.tuple t2
    exact ⟨EqAt.list_tuple p1.isList p2 hu,RcAt.list_tuple p1.isList p2 hu,RcNeAt.list_tuple p1.isList p2 hu⟩
   | lst ys =>
    rw [e2] at e
    obtain ⟨a',ws,rfl,t2,q2⟩:=z3A rh e2 r2
    cases w2
    obtain ⟨its2,x2,p2,_⟩:=I.list t2
    obtain ⟨g1,g2⟩:=elems q1 q2 x1 x2 e
    have both:RcAt A s (.ref a) (.ref a') b/\RcNeAt A s (.ref a) (.ref a') (!b):=by
     by_cases hz:its.toArray.size=its2.toArray.size
     ·have:b=(K8 its.toArray.size).all (eqE (eqN n h) xs ys):=by rw [g2,← hz,Nat.min_self];simp
      rw [this]
      exact ⟨RcAt.lists p1.isList p2.isList hz hu g1,RcNeAt.lists p1.isList p2.isList hz hu g1⟩
     ·have:b=false:=by
       rw [g2,K8k]
       right
       simpa using hz
      rw [this]
      exact ⟨RcAt.lists_lengths p1.isList p2.isList (by simpa using hz) hu,RcNeAt.lists_lengths p1.isList p2.isList (by simpa using hz) hu⟩
    refine ⟨?_,both⟩
    by_cases ea:a=a'
    ·rw [same rfl rfl ea]
     subst ea
     exact EqAt.same _
    ·exact EqAt.of_refs ea both.1
end
def fEqX (neg:Bool):D->D->M D:=λx y h=>match eqN 24 h x y with
 | some b=>.ok (.bl (b != neg)) h
 | none=>.bad
def inZ (h:AH) (x:D):List D->Option Bool
 | []=>some false
 | y::ys=>match eqN 24 h y x,inZ h x ys with
  | some a,some b=>some (a||b)
  | _,_=>none
theorem z3K {h:AH}{x:D}:∀{ys:List D}{b:Bool},inZ h x ys=some b->(∀y∈ys,∃a,eqN 24 h y x=some a)/\(b=true↔∃y∈ys,eqN 24 h y x=some true)
 | [],b,e=>by unfold inZ at e;cases e;exact ⟨λy hy=>(by simp at hy),by simp⟩
 | y::ys,b,e=>by
  unfold inZ at e
  split at e
  ·rename_i a c e1 e2
   cases e
   obtain ⟨q1,q2⟩:=z3K e2
   refine ⟨λz hz=>?_,?_⟩
   ·rcases K0v.mp hz with q|q
    ·subst q;exact ⟨_,e1⟩
    ·exact q1 z q
   ·rw [K22,q2]
    constructor
    ·rintro (q|⟨z,hz,q⟩)
     ·exact ⟨y,by simp,by rw [e1,q]⟩
     ·exact ⟨z,by simp [hz],q⟩
    ·rintro ⟨z,hz,q⟩
     rcases K0v.mp hz with w|w
     ·subst w;rw [e1] at q;exact .inl (K13 q)
     ·exact .inr ⟨z,w,q⟩
  ·cases e
def rEqX (K:K1) (neg:Bool):R2:=λx y H Q=>∃ρ h d1 d2 b,RH K ρ h H/\RD K ρ H d1 x/\RD K ρ H d2 y/\eqN 24 h d1 d2=some b/\Q (.bl (b != neg)) H
section
variable {X:Cx}{EX:XX}
theorem zG6 (hu:X.A.units+30<cLine):OpR X (K1h .Eq) (rEqX X.K false):=by
 intro pins s σ H x y v u Q I rx ry h
 obtain ⟨ρ,h,d1,d2,b,rh,r1,r2,e,q⟩:=h
 rw [K20] at q
 exact (deq I rh 24 (A:=X.A) (by omega) r1 r2 rx ry e).2.1 X.prog X.w X.xe (EP X pins σ Q) ⟨.bl b,H,I,rfl,q⟩
theorem zD9 (hu:X.A.units+30<cLine):OpR X (K1h .NotEq) (rEqX X.K true):=by
 intro pins s σ H x y v u Q I rx ry h
 obtain ⟨ρ,h,d1,d2,b,rh,r1,r2,e,q⟩:=h
 rw [Bool.bne_true] at q
 exact (deq I rh 24 (A:=X.A) (by omega) r1 r2 rx ry e).2.2 X.prog X.w X.xe (EP X pins σ Q) ⟨.bl (!b),H,I,rfl,q⟩
open Classical in
theorem zP0 {pins:List (Addr×Obj)}{σ:L2.St}{ρ:List Addr}{h:AH}{H:Hp}{s:Shared}{d:D}{ds:List D}{x:V}{v:Value}{xs:List V}{its:List Value}{b:Bool}(hu:X.A.units+30<cLine) (I:Inv X pins σ H s) (rh:RH X.K ρ h H) (rx:RD X.K ρ H d x) (wx:RelV x v) (rs:RDs X.K ρ H ds xs) (ws:Vals xs its) (e:inZ h d ds=some b) :
 ∃f:Value->Bool,(∀y∈its,K6g X.A.in1 s y v (f y))/\its.any f=b:=by
 obtain ⟨q1,q2⟩:=z3K e
 have ex:∀y∈its,∃a z w,z∈ds/\RD X.K ρ H z w/\RelV w y/\eqN 24 h z d=some a:=λy hy=>by
  obtain ⟨j,hj⟩:=K4k hy
  have lj:=(K5.mp hj).1
  have a1:xs[j]?=some (xs[j]'(by rw [ws.length];exact lj)):=K4 _
  obtain ⟨y',c1,a2⟩:=ws.get a1
  rw [hj] at c1
  cases c1
  obtain ⟨z,b1,b2⟩:=rs.getV a1
  have zm:=K03 b1
  obtain ⟨a,c⟩:=q1 z zm
  exact ⟨a,z,_,zm,b2,a2,c⟩
 have key:∀y∈its,∀a,(∃z w,z∈ds/\RD X.K ρ H z w/\RelV w y/\eqN 24 h z d=some a)->K6g X.A.in1 s y v a:=λy hy a ⟨z,w,zm,r1,r2,c⟩ =>
  (deq I rh 24 (A:=X.A.in1) (show X.A.units+1+24<cLine by omega) r1 rx r2 wx c).1
 refine ⟨λy=>decide (∃z w,z∈ds/\RD X.K ρ H z w/\RelV w y/\eqN 24 h z d=some true),λy hy=>?_,?_⟩
 ·by_cases c:∃z w,z∈ds/\RD X.K ρ H z w/\RelV w y/\eqN 24 h z d=some true
  ·dsimp only
   rw [decide_eq_true c]
   exact key y hy true c
  ·dsimp only
   rw [decide_eq_false c]
   obtain ⟨a,z,w,g⟩:=ex y hy
   cases a with
   | false=>exact key y hy false ⟨z,w,g⟩
   | true=>exact absurd ⟨z,w,g⟩ c
 ·rw [K0z,q2,K1m]
  constructor
  ·rintro ⟨y,hy,c⟩
   obtain ⟨z,w,zm,_,_,c⟩:=of_decide_eq_true c
   exact ⟨z,zm,c⟩
  ·rintro ⟨z,zm,c⟩
   obtain ⟨j,hj⟩:=K4k zm
   obtain ⟨w,a1,a2⟩:=rs.get hj
   obtain ⟨y,b1,b2⟩:=ws.get a1
   exact ⟨y,K03 b1,decide_eq_true ⟨z,w,zm,a2,b2,c⟩⟩
theorem zl7 {neg:Bool}:BR X.K EX (rEqX X.K neg) (fEqX neg):=by
 intro ρ h H x y v u Q r rx ry fin
 unfold fEqX at fin
 cases e:eqN 24 h x y with
 | none=>rw [e] at fin;exact fin.elim
 | some b=>rw [e] at fin;exact ⟨ρ,h,x,y,b,r,rx,ry,e,FE.here fin r (by simp [RD])⟩
theorem z2F (hu:X.A.units+30<cLine):CO X EX .Eq (fEqX false):=⟨_,zG6 hu,zl7⟩
theorem z7d (hu:X.A.units+30<cLine):CO X EX .NotEq (fEqX true):=⟨_,zD9 hu,zl7⟩
theorem hu30 {A:Around}{k:Nat}(hr:Room k A):A.units+30<cLine:=K25 (K65 (by decide:30≤64) _) hr.units
end
variable {α β:Type}
theorem Y2 (a:α) (f:α->M β):((Z0t a:M α) >>= f)=f a:=by funext h;rfl
theorem W_eq {m:M α}{v:α}{h:AH}{Q:α->AH->Prop}(e:m=pure v) (q:Q v h):W m h Q:=by rw [e,W_pure];exact q
theorem zI4 {xs:List D}{h:AH}{Q:D->AH->Prop}(hl:xs.length≤1000000) (q:Q (.ref h.length) (h++[.lst xs])):W (newL xs) h Q :=
 ⟨_,_,by unfold newL;rw [if_pos (K0m hl (by decide))],q⟩
mutual
theorem z2m {m n:Nat}(h:m≤n):∀{d:D},J7 m d=true->J7 n d=true
 | .non,_=>rfl
 | .bl _,_=>rfl
 | .int _,_=>rfl
 | .str _,_=>rfl
 | .tup ds,c=>by simp only [J7] at c ⊢;exact z26 h c
 | .fl ds,c=>by simp only [J7] at c ⊢;exact z26 h c
 | .ref i,c=>by simp only [J7,decide_eq_true_eq] at c ⊢;omega
theorem z26 {m n:Nat}(h:m≤n):∀{d:List D},J5 m d=true->J5 n d=true
 | [],_=>rfl
 | d::r,c=>by simp only [J5,K0j] at c ⊢;exact ⟨z2m h c.1,z26 h c.2⟩
end
theorem z3s {n:Nat}:∀{xs:List D},(∀x∈xs,J7 n x=true)->J5 n xs=true
 | [],_=>rfl
 | x::r,h=>by simp only [J5,K0j];exact ⟨h x (by simp),z3s λy hy=>h y (by simp [hy])⟩
theorem z03 {n:Nat}{ι:Type}{f:ι->D}{l:List ι}(h:∀a,J7 n (f a)=true):J5 n (l.map f)=true:=z3s λx hx=>by
 obtain ⟨a,_,rfl⟩:=K04.mp hx
 exact h a
theorem z0u {m:M D}{h:AH}{d:D}{j:AH}(e:m h=.ok d (h++j)) (c:J7 h.length d=true):cln m h=.ok d h:=by
 unfold cln
 rw [e]
 dsimp only
 rw [if_pos ⟨by simp,z7t _ _⟩,if_pos c]
 simp
theorem z0n (d:D):cln (pure d)=pure d:=funext λh=>by
 unfold cln
 rw [pureM]
 dsimp only
 rw [if_pos ⟨K01 _,λ_ _ _ e=>.inl e⟩]
 split
 ·simp
 ·rename_i nd
  split
  ·rename_i i
   simp only [J7,decide_eq_true_eq] at nd
   rw [K0i (by omega)]
  ·rfl
theorem zJ6 {m:M D}{v:D}(c:J7 0 v=true) (z:∀h,W m h λa h'=>a=v/\∃j,h'=h++j):cln m=pure v:=funext λh=>by
 obtain ⟨a,h',e,rfl,j,rfl⟩:=z h
 exact z0u e (z2m (K3g _) c)
theorem zU0 {m:G->M D}{γ:G}{v:D}(c:J7 0 v=true) (z:∀h,W (m γ) h λa h'=>a=v/\∃j,h'=h++j):clE m γ=pure v:=zJ6 c z
theorem zn5 {m:G->M Bool}{γ:G}{h:AH}{d:Bool}{j:AH}(e:m γ h=.ok d (h++j)):clT m γ h=.ok d h:=by
 unfold clT
 rw [e]
 dsimp only
 rw [if_pos ⟨by simp,z7t _ _⟩]
 simp
theorem zf1 {cap:List (Option Nat)}{mi:G->M Src}{g:D->G->M G}{k:G->M Bool}{me:G->M D}{γ:G}{src:Src}{h:AH}(p:D->Bool) (f:D->D) (hi:mi γ h=.ok src h) (hg:∀j,src.good (h++j)) (hl:src.items.length≤1000000)
 (hd:∀d∈src.items,∃γ1,g d (capG cap γ)=pure γ1/\k γ1=pure (p d)/\(p d=true->me γ1=pure (f d))):Y3 cap mi g k me γ h=newL ((src.items.filter p).map f) h:=by
 rw [z1C p f hi hg hl λd m=>let ⟨γ1,e1,e2,e3⟩:=hd d m;⟨γ1,λh=>by rw [e1];rfl,λj=>by rw [e2];rfl,λq j=>by rw [e3 q];rfl⟩]
 unfold newL
 rw [if_pos]
 refine K0m ?_ (show 1000000≤sizeLine by decide)
 rw [K00]
 exact K0m (K1z _ _) hl
theorem zt3 {cap:List (Option Nat)}{mi:G->M Src}{g:D->G->M G}{k:G->M Bool}{me:G->M D}{γ:G}{items:List D}(p:D->Bool) (f:D->D) (hi:mi γ=pure (.con items)) (hl:items.length≤1000000)
 (hd:∀d∈items,∃γ1,g d (capG cap γ)=pure γ1/\k γ1=pure (p d)/\(p d=true->me γ1=pure (f d))):Y3 cap mi g k me γ=newL ((items.filter p).map f) :=
 funext λh=>zf1 (src:=.con items) p f (by rw [hi];rfl) (λ_=>trivial) hl hd
theorem zx3 {m:G->M D}{γ:G}{xs:List D}{f:List D->M D}{v:D}(e:m γ=newL xs) (hl:xs.length≤1000000) (c:J7 0 v=true) (q:∀n h,h[n]?=.(l xs)->f [.ref n] h=.ok v h):clE (Z6 f (z8 m aNil)) γ=pure v:=zU0 c λh=>by
 simp only [Z7,W_pure,z1A,z1m,z6x,z04,z2h,sAsg,z0S,sRet,sIf,FT.e2,FT.e3,eVar,gN,gIx,eFn,z8,aNil,Z6,eTup,eLst,eM1,eM0,eMS,z50,eIsi,zl9,z5b,z9G,z74,z0C,z54,cVal,cNot,cAnd,cOr,eAnd,eOr,eNot,eIf,zT2,zP9,zO1,K7,K3,K0c,K0a,K07,K0g,K0u,if_true,if_false,K79,K4i,ite_true,ite_false,reduceIte,K1f,reduceCtorEq,z4E,zI7,zv2,zJ7,z8p,z8w,z8q,e]
 refine zI4 hl ?_
 exact W.of (q _ _ (by simp)) ⟨rfl,_,rfl⟩
theorem z5v:∀bs:List Bool,blsD (bs.map .bl)=some bs
 | []=>rfl
 | b::r=>by simp [blsD,z5v r]
theorem zG0 {m:G->M D}{γ:G}{bs:List Bool}(any:Bool) (e:m γ=newL (bs.map .bl)) (hl:bs.length≤1000000):clE (Z6 (fAll any) (z8 m aNil)) γ=pure (.bl (if any then bs.any id else bs.all id)) :=
 zx3 e (by simpa using hl) rfl λn h q=>by unfold fAll getL;simp [q,z5v]
theorem zy0 {cap:List (Option Nat)}{mi:G->M Src}{g:D->G->M G}{k:G->M Bool}{me:G->M D}{γ:G}{items:List D}(any:Bool) (p:D->Bool) (f:D->Bool) (hi:mi γ=pure (.con items)) (hl:items.length≤1000000)
 (hd:∀d∈items,∃γ1,g d (capG cap γ)=pure γ1/\k γ1=pure (p d)/\(p d=true->me γ1=pure (.bl (f d)))):clE (Z6 (fAll any) (z8 (Y3 cap mi g k me) aNil)) γ=pure (.bl (if any then (items.filter p).any f else (items.filter p).all f)):=by
 rw [zG0 (bs:=(items.filter p).map f) any (by rw [zt3 p (λd=>.bl (f d)) hi hl hd,K0o];rfl) (by rw [K00];exact K0m (K1z _ _) hl)]
 cases any<;>simp [K70]
theorem filter_tt {l:List α}:l.filter (λ_=>true)=l:=by induction l<;>simp_all
theorem z0Q {n:Nat}{mb:G->M Out}{ds:List D}{d:D}(e:mb (z19 n ds)=pure (.rt d)):runF n mb ds=pure d:=by unfold runF;rw [e];rfl
theorem ix0 {a:D}{r:List D}:fIx (.tup (a::r)) (.int 0)=pure a:=ix_tup (by simp [atI,ixN])
theorem zD5 {x y:Str}{b:Bool}:fEq b (.str x) (.str y)=pure (.bl (decide (x=y) != b)):=rfl
theorem zU5:((2:Nat)≤sizeLine)=True:=by simp [sizeLine]
structure SQ (st:List (List Nat)):Prop where
 l1:1≤st.length
 l2:st.length≤40
 s2:∀l∈st,∀x∈l,x<st.length
def nx (st:List (List Nat)) (a:Nat):List Nat:=(st[a]?).getD []
theorem z4o {st:List (List Nat)}(q:SQ st) {a b:Nat}(h:b∈nx st a):b<st.length:=by
 unfold nx at h
 cases e:st[a]? with
 | none=>rw [e] at h;cases h
 | some l =>
  rw [e] at h
  exact q.s2 l (K03 e) b h
theorem z1Z (st:List (List Nat)):(stsD st).length=st.length:=by unfold stsD;simp
theorem zC8 {st:List (List Nat)}{a:Nat}(ha:a<st.length):atI (stsD st) (a:Int)=.(g ((stD (nx st a)))):=by
 refine z3m ?_
 unfold stsD nx
 rw [K0e,K4 ha]
 rfl
theorem z1M {st:List (List Nat)}{mk:List (List Str)}:fIx (maD st mk) (.int 0)=pure (.tup (stsD st)):=ix_tup rfl
theorem z3z {st:List (List Nat)}{mk:List (List Str)}:fIx (maD st mk) (.int 1)=pure (.tup (mksD mk)):=ix_tup rfl
theorem z4C {st:List (List Nat)}{a:Nat}(ha:a<st.length):fIx (.tup (stsD st)) (.int a)=pure (.tup (stD (nx st a))):=ix_tup (zC8 ha)
theorem z73:∀l:List Nat,(stD l).all z0R=true
 | []=>rfl
 | _::l=>z73 l
theorem z9w (x:Nat):∀l:List Nat,((stD l).any λz=>eqF z (.int x))=decide (x∈l)
 | []=>by simp [stD]
 | b::l=>by
  rw [show stD (b::l)=.int b::stD l from rfl,K29,z9w x l]
  simp only [eqF]
  rw [K0z]
  simp only [K22,beq_iff_eq,decide_eq_true_eq,K0v]
  constructor
  ·rintro (h|h)
   ·left;omega
   ·exact .inr h
  ·rintro (h|h)
   ·left;omega
   ·exact .inr h
theorem zE0 {x:Nat}{l:List Nat}{neg:Bool}:fIn neg (.int x) (.tup (stD l))=pure (.bl (decide (x∈l) != neg)):=by
 unfold fIn seqD
 show (if z0R (.int x)&&(stD l).all z0R then _ else _)=_
 rw [z73,z9w]
 rfl
theorem j6 (l:List Nat):(stD l).length=l.length:=by unfold stD;simp
theorem z2N {l:List Nat}{n:Nat}(hl:l.Pairwise (·<·)) (hm:∀x∈l,x<n):l.length≤n:=by
 have nd:l.Nodup:=K9d (λh=>K0p h) hl
 have:=nd.length_le_of_subset (l₂:=K8 n) (λx hx=>K0r.mpr (hm x hx))
 rwa [K1q] at this
def zN (l:List Nat):List Int:=l.map λ(i:Nat)=>(i:Int)
def kN (l:List Nat):List Key:=l.map λ(i:Nat)=>.inl (i:Int)
def z0t (l:List Nat):List Nat:=(sortI (zN l)).map Z0u
theorem z6B:∀l:List Nat,z5T (kN l)=some (zN l)
 | []=>rfl
 | a::l=>by
  show (z5T (kN l)).map _=_
  rw [z6B l]
  rfl
theorem z3R:∀l:List Nat,z2x (stD l)=some (zN l)
 | []=>rfl
 | a::l=>by
  show (z2x (stD l)).map _=_
  rw [z3R l]
  rfl
theorem z32 (l:List Nat):(sortI (zN l)).map D.int=stD (z0t l):=by
 unfold z0t stD
 rw [K0o]
 refine K2f λa ha=>?_
 have:a∈zN l:=(sortI_perm _).mem_iff.mp ha
 obtain ⟨i,_,rfl⟩:=K04.mp this
 rfl
theorem z2o (l:List Nat):(z0t l).Perm l:=by
 have:=(sortI_perm (zN l)).map Z0u
 refine this.trans ?_
 unfold zN
 rw [K0o]
 rw [show (Z0u ∘ λ(i:Nat)=>(i:Int))=id from funext λi=>rfl,List.map_id]
theorem z17 {l:List Nat}(nd:l.Nodup):(z0t l).Pairwise (·<·):=by
 have s:(z0t l).Pairwise (·≤·):=by
  unfold z0t
  rw [K74]
  exact (z7u _).imp λ{a b} h=>by omega
 have n:(z0t l).Nodup:=(z2o l).nodup_iff.mpr nd
 exact (K9e s n).imp λ{a b} q=>by omega
theorem sortN_mem {l:List Nat}{x:Nat}:x∈z0t l↔x∈l:=(z2o l).mem_iff
theorem v5 (l:List Nat):(z0t l).length=l.length:=(z2o l).length_eq
theorem kN_mem {l:List Nat}{x:Nat}:(K3s (x:Int):Key)∈kN l↔x∈l:=by
 unfold kN
 constructor
 ·intro h
  obtain ⟨i,hi,e⟩:=K04.mp h
  have:i=x:=by have:=Z0v e;omega
  exact this ▸ hi
 ·exact λh=>K04.mpr ⟨x,h,rfl⟩
theorem zp3 (l:List Nat):(kN l).length=l.length:=by unfold kN;simp
theorem zL8 {l:List Nat}{x:Nat}(h:x∉l):putK (kN l) (.inl (x:Int))=kN (l++[x]):=by
 unfold putK
 rw [if_neg (λq=>h (kN_mem.mp q))]
 unfold kN
 simp
theorem z4h {S:List Nat}{n:Nat}(nd:S.Nodup) (hm:∀x∈S,x<n):S.length≤n:=by
 have:=nd.length_le_of_subset (l₂:=K8 n) (λx hx=>K0r.mpr (hm x hx))
 rwa [K1q] at this
theorem z9Y {S:List Nat}{x:Nat}(nd:S.Nodup) (h:x∉S):(S++[x]).Nodup:=by
 rw [K3h]
 refine ⟨nd,by simp,λa ha b hb=>?_⟩
 simp at hb
 subst hb
 exact λe=>h (e ▸ ha)
theorem z3o (l:List Nat) (x:Nat):stD l++[.int x]=stD (l++[x]):=by unfold stD;simp
theorem z36 {l:List Nat}{i:Nat}{d:D}(h:(stD l)[i]?=some d):∃b:Nat,d=.int b/\l[i]?=some b:=by
 unfold stD at h
 rw [K0e] at h
 obtain ⟨b,e1,e2⟩:=K10.mp h
 exact ⟨b,e2.symm,e1⟩
section
variable {ma:G->M D}{g:D->G->M G}{k:G->M Bool}{ms mr mt:G->M Out}{γ γ':G}{h h1:AH}{d:D}{b:Bool}{Q:Out->AH->Prop}
theorem z4Y (d:D) (γ':G) (e:ma γ=pure d) (eg:g d γ=pure γ') (z:W (mt γ') h Q):W (z9 (sAsg ma g) mt γ) h Q:=by
 rw [w_cons];unfold sAsg;rw [e,Y2,eg,Y2,W_pure];exact z
theorem Y4 (d:D) (γ':G) (e:ma γ h=.ok d h1) (eg:g d γ=pure γ') (z:W (mt γ') h1 Q):W (z9 (sAsg ma g) mt γ) h Q:=by
 rw [w_cons];unfold sAsg;rw [Z7];refine W.of e ?_;rw [eg,Y2,W_pure];exact z
theorem zc7 {i:Nat}(z:W (ma γ) h λd h1=>W (mt (γ.set i (some d))) h1 Q):W (z9 (sAsg ma (gN i)) mt γ) h Q:=by
 rw [w_cons];unfold sAsg gN;rw [Z7];refine z.mono λd h1 q=>?_;rw [Y2,W_pure];exact q
theorem q_if (b:Bool) (e:k γ=pure b) (z:W (z9 (if b=true then ms else mr) mt γ) h Q):W (z9 (sIf k ms mr) mt γ) h Q:=by
 rw [w_cons] at z ⊢;unfold sIf;rw [e,Y2]
 cases b<;>exact z
theorem z10 (b:Bool) (e:k γ h=.ok b h) (z:W (z9 (if b=true then ms else mr) mt γ) h Q):W (z9 (sIf k ms mr) mt γ) h Q:=by
 rw [w_cons] at z ⊢;unfold sIf;rw [Z7];refine W.of e ?_
 cases b<;>exact z
theorem zQ3 (z:W (k γ) h λb h1=>W (z9 (if b=true then ms else mr) mt γ) h1 Q):W (z9 (sIf k ms mr) mt γ) h Q:=by
 rw [w_cons];unfold sIf;rw [Z7];refine z.mono λb h1 q=>?_
 rw [w_cons] at q
 cases b<;>exact q
theorem zS8 (d:D) (e:ma γ=pure d) (z:Q (.rt d) h):W (z9 (sRet ma) mt γ) h Q:=by
 rw [w_cons];unfold sRet;rw [e,Y2,W_pure];exact z
theorem z07 (d:D) (e:ma γ h=.ok d h1) (z:Q (.rt d) h1):W (z9 (sRet ma) mt γ) h Q:=by
 rw [w_cons];unfold sRet;rw [Z7];refine W.of e ?_;rw [W_pure];exact z
theorem zN2 (z:W (ma γ) h λd h1=>Q (.rt d) h1):W (z9 (sRet ma) mt γ) h Q:=by
 rw [w_cons];unfold sRet;rw [Z7];refine z.mono λd h1 q=>?_;rw [W_pure];exact q
theorem zc0 (z:W (ma γ) h λd h1=>W (mt γ) h1 Q):W (z9 (z0S ma) mt γ) h Q:=by
 rw [w_cons];unfold z0S;rw [Z7];refine z.mono λd h1 q=>?_;rw [W_pure];exact q
theorem z0x (z:W (mt γ) h Q):W (z9 bNil mt γ) h Q:=by rw [w_cons,z6x];exact z
theorem z0s {Q:Out->AH->Prop}(z:Q (.nx γ) h):W (bNil γ) h Q:=by rw [z6x];exact z
theorem zE9 {mb:G->M D}(e:ma γ=pure (.bl true)):eAnd ma mb γ=mb γ:=by unfold eAnd;rw [e];rfl
theorem zE8 {l:G->M Bool}(e:k γ h=.ok true h):cOr k l γ h=.ok true h:=by unfold cOr;rw [M.bind_ok e];rfl
theorem z4s (d:D) (e:ma γ=pure d):z9 (sRet ma) mt γ=pure (.rt d):=by
 unfold z9 sRet;rw [e,Y2,Y2]
theorem p_if (b:Bool) (e:k γ=pure b):z9 (sIf k ms mr) mt γ=z9 (if b=true then ms else mr) mt γ:=by
 unfold z9 sIf;rw [e,Y2];cases b<;>rfl
theorem zT9:z9 bNil mt γ=mt γ:=by unfold z9 bNil;rw [Y2]
theorem zS1 {ms1 ms2:G->M Out}:z9 (z9 ms1 ms2) mt γ=z9 ms1 (z9 ms2 mt) γ:=by
 funext h
 unfold z9
 simp only [bindM]
 cases ms1 γ h with
 | ok o h1=>cases o<;>rfl
 | err x h1=>rfl
 | bad=>rfl
theorem z6K {ms1 ms2:G->M Out}(z:W (z9 ms1 (z9 ms2 mt) γ) h Q):W (z9 (z9 ms1 ms2) mt γ) h Q:=by
 rw [w_cons] at z ⊢
 rw [w_cons]
 refine z.mono λo h1 q=>?_
 cases o with
 | nx γ=>exact w_cons.mp q
 | rt d=>exact q
 | bk d=>exact q
 | ct d=>exact q
end
theorem zM5 {i j:Int}{neg:Bool}:fEqX neg (.int i) (.int j)=pure (.bl (decide (i=j) != neg)):=by
 funext h
 show Res.ok (D.bl ((i==j) != neg)) h=_
 have:(i==j)=decide (i=j):=by rw [K0z];simp
 rw [this];rfl
theorem zD3 {a b:Bool}{neg:Bool}:fEqX neg (.bl a) (.bl b)=pure (.bl ((a==b) != neg)):=by funext h;rfl
theorem zx4 {mc:G->M D}{γ:G}{h h1:AH}{xs:List D}{neg:Bool}(e:mc γ h=newL xs h1) (hl:xs.length≤1000000):e2 (fEqX neg) mc (eLst aNil) γ h=.ok (.bl (xs.isEmpty != neg)) (h1++[.lst xs]++[.lst []]):=by
 have e':mc γ h=.ok (.ref h1.length) (h1++[.lst xs]):=by rw [e];unfold newL;rw [if_pos (K0m hl (by decide))]
 show (mc γ >>= _) h=_
 rw [M.bind_ok e']
 have e2':eLst aNil γ (h1++[.lst xs])=.ok (.ref (h1++[O.lst xs]).length) (h1++[.lst xs]++[.lst []]):=by
  unfold eLst aNil newL
  simp
 rw [M.bind_ok e2']
 have v1:vw (h1++[O.lst xs]++[O.lst []]) (.ref h1.length)=.lst xs:=by unfold vw;simp
 have v2:vw (h1++[O.lst xs]++[O.lst []]) (.ref (h1++[O.lst xs]).length)=.lst []:=by unfold vw;simp
 unfold fEqX eqN
 rw [v1,v2]
 cases xs<;>rfl
theorem zs6 {mc:G->M D}{γ:G}{h j:AH}{xs:List D}{neg:Bool}(e:mc γ h=newL xs (h++j)) (hl:xs.length≤1000000):clE (e2 (fEqX neg) mc (eLst aNil)) γ h=.ok (.bl (xs.isEmpty != neg)) h :=
 z0u (by rw [zx4 e hl,K02,K02]) rfl
theorem z6Z {x:Str}{l:List Str}{neg:Bool}:fIn neg (.str x) (.tup (l.map .str))=pure (.bl (decide (x∈l) != neg)):=by
 unfold fIn seqD
 show (if z0R (.str x)&&(l.map D.str).all z0R then _ else _)=_
 rw [z3f,z5s]
 rfl
def rp (n:Nat) (l:List Nat):List Nat:=(K0d n l).flatten
def CL (r:AH):Prop:=True
theorem CL.app {r j:AH}(a:CL r) (b:CL j):CL (r++j):=trivial
theorem CL.one {xs:List D}(h:J5 3 xs=true):CL [.lst xs]:=trivial
theorem CL.put {r:AH}{xs:List D}(a:CL r) (h:J5 3 xs=true):CL (r++[.lst xs]):=a.app (.one h)
theorem z2b {n:Nat}(l:List Str):J5 n (l.map .str)=true:=z03 λ_=>rfl
theorem z5G {n:Nat}(l:List Int):J5 n (l.map .int)=true:=z03 λ_=>rfl
theorem z0V {n:Nat}(l:List Nat):J5 n (stD l)=true:=z03 λ_=>rfl
theorem z4O {n:Nat}(l:List Nat):J7 n (.tup (stD l))=true:=by simp only [J7];exact z0V l
theorem z9f {gr sm:List Int}{s c:Int}{r j:AH}:(Pool gr sm s c (r++j)).take (r.length+3)=Pool gr sm s c r:=by
 unfold Pool
 simp
theorem z9k {gr sm gr' sm':List Int}{s c s' c':Int}{r j:AH}:Kept (Pool gr sm s c r) (Pool gr' sm' s' c' (r++j)):=λi o li e=>by
 have l3:(Pool gr sm s c r).length=r.length+3:=rfl
 rw [l3] at li ⊢
 match i,e with
 | 0,e=>cases e;exact .inr (z5G _)
 | 1,e=>cases e;exact .inr (z5G _)
 | 2,e=>cases e;exact .inr (by simp [refO,J5,J7])
 | i+3,e =>
  left
  have e:(r++j)[i]?=some o:=e
  rw [K0s (by omega)] at e
  exact e
theorem z79 {h h1:AH}{k k':Int}{r j:AH}(p:PS h k r) (q:CL r) (p1:PS h1 k' (r++j)):(h.length≤h1.length/\Kept h h1)/\PS (h1.take h.length) k' r:=by
 have l:=p.len
 have l1:=p1.len
 obtain ⟨gr,sm,s,c,rfl,g⟩:=p1
 obtain ⟨gr0,sm0,s0,c0,rfl,g0⟩:=p
 refine ⟨⟨by rw [K08] at l1;omega,z9k⟩,?_⟩
 rw [show (Pool gr0 sm0 s0 c0 r).length=r.length+3 from rfl,z9f]
 exact ⟨gr,sm,s,c,rfl,g⟩
theorem zB9 {m:M D}{h:AH}{k:Int}{r:AH}{Q:D->AH->Prop}(p:PS h k r) (q:CL r) (z:W m h λd h1=>∃k' j,PS h1 k' (r++j)/\J7 3 d=true/\∀h2,PS h2 k' r->Q d h2):W (cln m) h Q:=by
 obtain ⟨d,h1,e,k',j,p1,rd,f⟩:=z
 obtain ⟨c1,c2⟩:=z79 p q p1
 refine ⟨d,h1.take h.length,?_,f _ c2⟩
 unfold cln
 rw [e]
 dsimp only
 rw [if_pos c1,if_pos (z2m (by rw [p.len];omega) rd)]
theorem zH6 {m:M D}{h:AH}{k:Int}{r:AH}{Q:D->AH->Prop}(p:PS h k r) (q:CL r) (z:W m h λd h1=>∃k' j i xs,d=.ref (i+3)/\PS h1 k' (r++j)/\r.length≤i/\(r++j)[i]?=.(l xs)/\J5 3 xs=true/\∀h2,PS h2 k' (r++[.lst xs])->Q (.ref (r.length+3)) h2):W (cln m) h Q:=by
 obtain ⟨d,h1,e,k',j,i,xs,rfl,p1,hi,ei,rd,f⟩:=z
 obtain ⟨c1,c2⟩:=z79 p q p1
 have l:=p.len
 refine ⟨.ref (r.length+3),h1.take h.length++[.lst xs],?_,f _ (c2.app _)⟩
 unfold cln
 rw [e]
 dsimp only
 rw [if_pos c1,if_neg (by simp only [J7,decide_eq_true_eq];omega),p1.get,ei]
 dsimp only
 rw [if_pos (show refO h.length (.lst xs)=true from z26 (by omega) rd),l]
theorem zB8 {m:G->M D}{γ:G}{h:AH}{k:Int}{r:AH}{Q:D->AH->Prop}(p:PS h k r) (q:CL r) (z:W (m γ) h λd h1=>∃k' j,PS h1 k' (r++j)/\J7 3 d=true/\∀h2,PS h2 k' r->Q d h2):W (clE m γ) h Q:=zB9 p q z
section
variable {h:AH}{k:Int}{r l:AH}{i:Nat}{xs:List D}{v:D}
theorem at_E:(r++l)[r.length+i]?=l[i]?:=by rw [K38 (by omega)];congr 1;omega
theorem zu7 {o:O}:(r++l).set (r.length+i) o=r++l.set i o:=by
 rw [K4e _ _ (by omega)]
 congr 2
 omega
theorem z5N {Q:List D->AH->Prop}(p:PS h k (r++l)) (e:l[i]?=.(l xs)) (q:Q xs h):W (getL (r.length+i+3)) h Q:=z67 p (by rw [at_E];exact e) q
theorem zM2 {Q:D->AH->Prop}(p:PS h k (r++l)) (hl:xs.length≤1000000) (z:∀h',PS h' k (r++(l++[.lst xs]))->Q (.ref (r.length+l.length+3)) h'):W (newL xs) h Q :=
 z2B p hl λh' p'=>by rw [K02] at p';have:=z h' p';rwa [K08]
theorem z9U {Q:D->AH->Prop}(p:PS h k (r++l)) (e:l[i]?=.(l xs)) (hl:xs.length<1000000) (z:∀h',PS h' k (r++l.set i (.lst (xs++[v])))->Q .non h'):W (y8 (r.length+i+3) v) h Q :=
 z7i p (by rw [at_E];exact e) hl λh' p'=>z h' (by rw [zu7] at p';exact p')
theorem zo7 {Q:D->AH->Prop}(p:PS h k (r++l)) (e:l[i]?=.(l xs)) (q:Q (.int xs.length) h):W (fLen [.ref (r.length+i+3)]) h Q:=zm6 p (by rw [at_E];exact e) q
theorem z7E {Q:D->AH->Prop}(p:PS h k (r++l)) (e:l[i]?=.(l xs)) (q:Q (.tup xs) h):W (x4 [.ref (r.length+i+3)]) h Q:=by
 have ft:∀i:Nat,x4 [.ref i]=(do let x ← getL i;pure (.tup x)):=λ_=>rfl
 rw [ft,Z7]
 refine z5N p e ?_
 rw [W_pure]
 exact q
theorem zg5 {Q:Nat->AH->Prop}(p:PS h k (r++l)) (e:l[i]?=.(l xs)) (q:Q (r.length+i+3) h):W (z2y (.ref (r.length+i+3))) h Q:=by
 rw [z50]
 exact z5N p e q
theorem zM3 {j:Nat}{ys:List D}{Q:D->AH->Prop}(p:PS h k (r++l)) (e:l[i]?=.(l xs)) (e2:(r++l)[j]?=.(l ys)) (hl:xs.length+ys.length≤1000000) (z:∀h',PS h' k (r++(l++[.lst (xs++ys)]))->Q (.ref (r.length+l.length+3)) h'):W (fAdd (.ref (r.length+i+3)) (.ref (j+3))) h Q:=by
 show W (getL _ >>= λx=>getL _ >>= λy=>newL (x++y)) h Q
 rw [Z7]
 refine z5N p e ?_
 rw [Z7]
 refine z67 p e2 ?_
 exact zM2 p (by simpa using hl) z
end
theorem z1q {ma:G->M D}{mt:G->M Out}{γ:G}{h:AH}{i:Nat}{Q:Out->AH->Prop}(J:D->AH->Prop) (z:W (ma γ) h J) (f:∀d h1,J d h1->W (mt (γ.set i (some d))) h1 Q):W (z9 (sAsg ma (gN i)) mt γ) h Q:=zc7 (z.mono f)
theorem zK2 {ma:G->M D}{mt:G->M Out}{γ:G}{h:AH}{Q:Out->AH->Prop}(J:D->AH->Prop) (z:W (ma γ) h J) (f:∀d h1,J d h1->Q (.rt d) h1):W (z9 (sRet ma) mt γ) h Q:=zN2 (z.mono f)
theorem z7j {me:G->M D}{mt:G->M Out}{γ:G}{h:AH}{k:Int}{r l:AH}{a i:Nat}{xs:List D}{Q:Out->AH->Prop}(ea:γ[a]?=some (.(r (r.length+i+3)))) (p:PS h k (r++l)) (e:l[i]?=.(l xs)) (hl:xs.length<1000000) (J:D->Int->Prop)
 (z:W (me γ) h λv h1=>∃k',PS h1 k' (r++l)/\J v k') (f:∀v k' h2,J v k'->PS h2 k' (r++l.set i (.lst (xs++[v])))->W (mt γ) h2 Q):W (z9 (z0S (eM1 y8 (eVar a) me)) mt γ) h Q:=by
 refine zc0 ?_
 unfold eM1
 rw [Z7]
 refine W_eq (v:=.ref (r.length+i+3)) (by unfold eVar;rw [ea]) ?_
 rw [Z7]
 refine zg5 p e ?_
 rw [Z7]
 refine z.mono λv h1 ⟨k',p1,j⟩=>?_
 exact z9U p1 e hl λh2 p2=>f v k' h2 j p2
theorem zb9 {cap:List (Option Nat)}{mi:G->M Src}{g:D->G->M G}{kk:G->M Bool}{me:G->M D}{γ:G}{h:AH}{r l:AH}{Q:D->AH->Prop}(J:Nat->List D->Int->Prop)
 (hs:W (mi γ) h λsrc h1=>∃k,PS h1 k (r++l)/\J 0 [] k/\(∀h k xs,PS h k (r++(l++[.lst xs]))->src.good h) /\
  (∀i d h k xs,src.items[i]?=some d->J i xs k->PS h k (r++(l++[.lst xs]))->W (g d (capG cap γ)) h λγ1 h1'=>W (kk γ1) h1' λt h2=>if t=true then W (me γ1) h2 λv h3=>∃k',PS h3 k' (r++(l++[.lst xs]))/\xs.length<1000000/\J (i+1) (xs++[v]) k' else ∃k',PS h2 k' (r++(l++[.lst xs]))/\J (i+1) xs k') /\
  ∀h' xs k,J src.items.length xs k->PS h' k (r++(l++[.lst xs]))->Q (.ref (r.length+l.length+3)) h'):W (Y3 cap mi g kk me γ) h Q:=by
 refine zJ4 ?_
 refine hs.mono λsrc h1 ⟨k,p1,j0,good,st,fin⟩=>?_
 have l1:h1.length=r.length+l.length+3:=by rw [p1.len,K08]
 refine ⟨λi h'=>∃xs k,J i xs k/\PS h' k (r++(l++[.lst xs])),⟨[],k,j0,by rw [← K02];exact p1.app _⟩,λi h' ⟨xs,k,_,p⟩=>good h' k xs p,?_,?_⟩
 ·rintro i d h2 hd ⟨xs,k,jx,p2⟩
  refine (st i d h2 k xs hd jx p2).mono λγ1 h3 w3=>w3.mono λt h4 w4=>?_
  cases t with
  | false=>rw [if_neg (by decide)] at w4 ⊢;obtain ⟨k',p4,j4⟩:=w4;exact ⟨xs,k',j4,p4⟩
  | true =>
   rw [if_pos rfl] at w4 ⊢
   refine w4.mono λv h5 ⟨k',p5,lx,j5⟩=>?_
   rw [l1,show r.length+l.length+3=r.length+l.length+3 from rfl]
   refine z9U (i:=l.length) p5 (by simp) lx λh6 p6=>?_
   refine ⟨_,k',j5,?_⟩
   rw [K4e _ _ (K01 _),Nat.sub_self] at p6
   exact p6
 ·rintro h2 ⟨xs,k,jx,p2⟩
  rw [l1]
  exact fin h2 xs k jx p2
def lkD (kvs:List (Key×D)) (k:Key):Option D:=(kvs.find? λkv=>decide (kv.1=k)).map (·.2)
def ptD (kvs:List (Key×D)) (k:Key) (v:D):List (Key×D) :=
 if (kvs.any λkv=>decide (kv.1=k))=true then kvs.map (λkv=>if kv.1=k then (kv.1,v) else kv) else kvs++[(k,v)]
section
variable {K:K1}{ρ:List Addr}{H:Hp}
theorem RK.len:∀{kvs:List (Key×D)}{vs:List (Key×V)},RK K ρ H kvs vs->kvs.length=vs.length
 | _,_,.nil=>rfl
 | _,_,.cons _ b=>by simp [RK.len b]
theorem RK.lk (k:Key):∀{kvs:List (Key×D)}{vs:List (Key×V)},RK K ρ H kvs vs->(lkD kvs k=none/\valV vs k=none)∨∃d v,lkD kvs k=some d/\valV vs k=some v/\RD K ρ H d v
 | _,_,.nil=>.inl ⟨rfl,rfl⟩
 | p::kvs,q::vs,.cons a b=>by
  by_cases e:p.1=k
  ·refine .inr ⟨p.2,q.2,by simp [lkD,K2g,e],z3P (a.1.symm.trans e),a.2⟩
  ·rw [z3S (λz=>e (a.1.trans z))]
   have:lkD (p::kvs) k=lkD kvs k:=by simp [lkD,K2g,e]
   rw [this]
   exact RK.lk k b
theorem RK.any (k:Key):∀{kvs:List (Key×D)}{vs:List (Key×V)},RK K ρ H kvs vs->(kvs.any λkv=>decide (kv.1=k))=vs.any λkv=>decide (kv.1=k)
 | _,_,.nil=>rfl
 | _,_,.cons a b=>by rw [K29,K29,RK.any k b,a.1]
theorem RK.rep (k:Key) {d:D}{v:V}(r:RD K ρ H d v):∀{kvs:List (Key×D)}{vs:List (Key×V)},RK K ρ H kvs vs->RK K ρ H (kvs.map (λkv=>if kv.1=k then (kv.1,d) else kv)) (vs.map (λkv=>if kv.1=k then (kv.1,v) else kv))
 | _,_,.nil=>.nil
 | p::kvs,q::vs,.cons a b=>by
  rw [K0t,K0t]
  refine .cons ?_ (RK.rep k r b)
  by_cases e:p.1=k
  ·rw [if_pos e,if_pos (a.1.symm.trans e)];exact ⟨a.1,r⟩
  ·rw [if_neg e,if_neg (λz=>e (a.1.trans z))];exact a
theorem RK.snoc {k:Key}{d:D}{v:V}(r:RD K ρ H d v):∀{kvs:List (Key×D)}{vs:List (Key×V)},RK K ρ H kvs vs->RK K ρ H (kvs++[(k,d)]) (vs++[(k,v)])
 | _,_,.nil=>.cons ⟨rfl,r⟩ .nil
 | _,_,.cons a b=>.cons a (RK.snoc r b)
theorem RK.put (k:Key) {d:D}{v:V}(r:RD K ρ H d v) {kvs:List (Key×D)}{vs:List (Key×V)}(q:RK K ρ H kvs vs):RK K ρ H (ptD kvs k d) (L2.putK vs k v):=by
 unfold ptD L2.putK
 rw [q.any k]
 split
 ·exact q.rep k r
 ·exact q.snoc r
theorem z9F {d:D}{k:Key}{v:V}(e:keyD d=some k) (r:RD K ρ H d v):v=kV k:=by
 cases d<;>simp only [keyD] at e<;>first|(cases e;simp only [RD] at r;exact r)|cases e
end
def getK (n:Nat):M (List (Key×D)):=λh=>match h[n]? with
 | some (.dK kvs)=>.ok kvs h
 | some (.dF kvs)=>.ok kvs h
 | _=>.bad
def dicD:D->M (List (Key×D))
 | .ref n=>getK n
 | _=>bad
def z3I:D->D->M D:=λx y=>do
 let kvs ← dicD x
 match keyD y with
 | some k=>(match lkD kvs k with
  | some d=>pure d
  | none=>bad)
 | none=>bad
def fInD (neg:Bool):D->D->M D:=λy x=>do
 let kvs ← dicD x
 match keyD y with
 | some k=>pure (.bl ((lkD kvs k).isSome != neg))
 | none=>bad
def z6M:D->D->D->M Unit:=λo i v=>match o with
 | .ref n=>(match keyD i with
  | some k=>λh=>match h[n]? with
   | some (.dK kvs)=>if kvs.length<sizeLine then .ok () (h.set n (.dK (ptD kvs k v))) else .bad
   | _=>.bad
  | none=>bad)
 | _=>bad
def gDx (mo mi:G->M D):D->G->M G:=λv γ=>do
 let o ← mo γ
 let i ← mi γ
 let _ ← z6M o i v
 pure γ
section
variable {X:Cx}{EX:XX}{a o i e f:Expr}{pos apos cpos:Pos}{mo mi ma mb:G->M D}
theorem z7S {K:K1}{ρ:List Addr}{h:AH}{H:Hp}{x:D}{u:V}{Z:List (Key×D)->List Addr->AH->Hp->Prop}(r:RH K ρ h H) (rx:RD K ρ H x u) (fin:Fin K EX ρ H Z (dicD x h)):∃n a kvs vs,x=.ref n/\u=.ref a/\ρ[n]?=some a/\(h[n]?=some (.dK kvs)∨h[n]?=some (.dF kvs))/\Rd H a (.dK vs)/\RK K ρ H kvs vs/\Z kvs ρ h H:=by
 cases x<;>first|exact (show False from fin).elim|skip
 rename_i n
 simp only [RD] at rx
 obtain ⟨a,rfl,hq⟩:=rx
 unfold dicD getK at fin
 dsimp only at fin
 cases e:h[n]? with
 | none=>rw [e] at fin;exact fin.elim
 | some ob =>
  cases ob with
  | lst xs=>rw [e] at fin;exact fin.elim
  | set xs=>rw [e] at fin;exact fin.elim
  | dct=>rw [e] at fin;exact fin.elim
  | exc c=>rw [e] at fin;exact fin.elim
  | dK kvs =>
   rw [e] at fin
   obtain ⟨a1,n1,vs,o1,d1⟩:=r.at e
   rw [hq] at n1;cases n1
   exact ⟨n,a,kvs,vs,rfl,rfl,hq,.inl e,.inl o1,d1,fin ρ H (Pre.refl _) (Ext.refl _ _) r⟩
  | dF kvs =>
   rw [e] at fin
   obtain ⟨a1,n1,ob,vs,o1,d1⟩:=r.at e
   rw [hq] at n1;cases n1
   exact ⟨n,a,kvs,vs,rfl,rfl,hq,.inr e,.inr ⟨ob,o1⟩,d1,fin ρ H (Pre.refl _) (Ext.refl _ _) r⟩
theorem z2M (hu:X.A.units+1<cLine) (ha:SE X EX o mo) (hb:SE X EX i mi) (hs:NoSl i:=by intro _ _;rfl):SE X EX (.Subscript o i pos) (e2 z3I mo mi) :=
 ⟨PE.imp (zt4 hu ha.h hb.h hs) λσ H Q ⟨ρ,γ,h,rel,fin⟩=>⟨ρ,γ,h,rel,(Fin.bind fin).mono λx ρ1 h1 H1 p1 e1 r1 f1 v rv=>⟨ρ1,γ,h1,⟨rel.g.mono p1 e1,r1⟩,(Fin.bind f1).mono λy ρ2 h2 H2 p2 e2 r2 f2 w rw'=>by
  obtain ⟨n,ad,kvs,vs,rfl,rfl,hn,hk,hH,rk,f3⟩:=z7S r2 (rv.mono p2 e2) (Fin.bind f2)
  cases ek:keyD y with
  | none=>rw [ek] at f3;exact f3.elim
  | some k =>
   rw [ek] at f3
   have:=z9F ek rw'
   subst this
   rcases rk.lk k with ⟨z1,_⟩|⟨d,u,z1,z2,rd⟩
   ·dsimp only at f3;rw [z1] at f3;exact f3.elim
   ·dsimp only at f3
    rw [z1] at f3
    refine ⟨ad,u,rfl,?_,FE.here f3 r2 rd⟩
    rw [← z2]
    exact .inl ⟨vs,k,hH,rfl,rfl⟩⟩⟩⟩
def rInD (neg:Bool):R2:=λy x H Q=>∃ad ov,x=.ref ad/\DGet H ad y ov/\Q (.bl (ov.isSome != neg)) H
theorem zG7 (hu:X.A.units+1<cLine):OpR X (K1h .In) (rInD false):=by
 intro pins s σ H x y v u Q I rx ry h
 obtain ⟨ad,ov,rfl,g,q⟩:=h
 cases ry
 rw [K20] at q
 exact d_in hu I g rx λs' I'=>⟨.bl _,H,I',rfl,q⟩
theorem zO7 {neg:Bool}:BR X.K EX (rInD neg) (fInD neg):=by
 intro ρ h H y x w v Q r ry rx fin
 obtain ⟨n,ad,kvs,vs,rfl,rfl,hn,hk,hH,rk,f3⟩:=z7S r rx (Fin.bind fin)
 cases ek:keyD y with
 | none=>rw [ek] at f3;exact f3.elim
 | some k =>
  rw [ek] at f3
  have:=z9F ek ry
  subst this
  refine ⟨ad,valV vs k,rfl,.inl ⟨vs,k,hH,rfl,rfl⟩,?_⟩
  have:(valV vs k).isSome=(lkD kvs k).isSome:=by
   rcases rk.lk k with ⟨z1,z2⟩|⟨d,u,z1,z2,_⟩<;>rw [z1,z2]<;>rfl
  rw [this]
  exact FE.here f3 r (by simp [RD])
theorem zm0 (hu:X.A.units+1<cLine):CO X EX .In (fInD false):=⟨_,zG7 hu,zO7⟩
def zT7:V->V->V->Hp->(Hp->Prop)->Prop:=λo i v H Q=>∃ad H',o=.ref ad/\DPut H ad i v H'/\Q H'
theorem set_dict (hu:X.A.units+1<cLine):PSet X zT7:=by
 intro pins s σ H o i v ov iv u Q I ro ri rv h
 obtain ⟨ad,H',rfl,g,q⟩:=h
 cases ro
 exact z8N hu I g ri rv λs' I'=>⟨H',I',q⟩
theorem zP7 (hu:X.A.units+1<cLine) (ho:SE X EX o mo) (hi:SE X EX i mi)
 (ha:∀v,assign (.Subscript o i pos) X.env v=(do
  let ov ← K3l [v] (eval o X.env)
  let iv ← K3l [v,ov] (eval i X.env)
  K4f pos
  K3l [v,ov,iv] (Z0h ov iv v)
  release [v,ov,iv] []):=by intro _;rfl):SG X EX (.Subscript o i pos) (gDx mo mi) :=
 ⟨PG.imp (zl3 ho.h hi.h (set_dict hu) ha) λv σ H Q ⟨ρ,γ,h,d,rel,rd,fin⟩=>⟨ρ,γ,h,rel,(Fin.bind fin).mono λod ρ1 h1 H1 p1 e1 r1 f1 ov ro=>⟨ρ1,γ,h1,⟨rel.g.mono p1 e1,r1⟩,(Fin.bind f1).mono λid ρ2 h2 H2 p2 e2 r2 f2 iv ri=>by
  have f3:=Fin.bind f2
  cases od<;>first|exact (show False from f3).elim|skip
  rename_i n
  unfold z6M at f3
  dsimp only at f3
  cases ek:keyD id with
  | none=>rw [ek] at f3;exact f3.elim
  | some k =>
   rw [ek] at f3
   have:=z9F ek ri
   subst this
   simp only [RD] at ro
   obtain ⟨q,rfl,hq⟩:=ro
   have hq2:=p2 n q hq
   dsimp only at f3
   cases e4:h2[n]? with
   | none=>rw [e4] at f3;exact f3.elim
   | some ob =>
    cases ob with
    | lst xs=>rw [e4] at f3;exact f3.elim
    | set ks=>rw [e4] at f3;exact f3.elim
    | dct=>rw [e4] at f3;exact f3.elim
    | exc c=>rw [e4] at f3;exact f3.elim
    | dF c=>rw [e4] at f3;exact f3.elim
    | dK kvs =>
     rw [e4] at f3
     dsimp only at f3
     split at f3
     ·rename_i hl
      obtain ⟨a1,n1,vs,o1,d1⟩:=r2.at e4
      rw [hq2] at n1;cases n1
      have rv:=(rd.mono p1 e1).mono p2 e2
      refine ⟨q,_,rfl,DPut.k o1 (by rw [← d1.len];exact hl),?_⟩
      have ext:Ext X.K H2 (upd H2 q (.dK (L2.putK vs k v))):=Ext.upd (.inr ⟨_,o1,trivial⟩)
      have r3:RH X.K ρ2 (h2.set n (.dK (ptD kvs k d))) (upd H2 q (.dK (L2.putK vs k v))):=r2.setO e4 hq2 ⟨_,w6,(d1.put k rv).mono (Pre.refl _) ext⟩
      exact f3 ρ2 _ (Pre.refl _) ext r3 ρ2 _ (Pre.refl _) (Ext.refl _ _) r3 σ (((rel.g.mono p1 e1).mono p2 e2).mono (Pre.refl _) ext)
     ·exact f3.elim⟩⟩⟩
end
def orM {α:Type} (m n:M α):M α:=λh=>match m h with
 | .bad=>n h
 | r=>r
def orE {α:Type} (m n:G->M α):G->M α:=λγ=>orM (m γ) (n γ)
section
variable {X:Cx}{EX:XX}{e tg:Expr}
theorem z7w {α:Type}(m n:M α) (h:AH):orM m n h=m h∨orM m n h=n h:=by
 unfold orM
 cases m h with
 | bad=>exact .inr rfl
 | ok a b=>exact .inl rfl
 | err a b=>exact .inl rfl
theorem zF7 {m n:G->M D}(a:SE X EX e m) (b:SE X EX e n):SE X EX e (orE m n) :=
 ⟨λpins s σ H Q I ⟨ρ,γ,h,rel,fin⟩=>by
  rcases z7w (m γ) (n γ) h with z|z<;>rw [show orE m n γ h=orM (m γ) (n γ) h from rfl,z] at fin
  ·exact a.h pins s σ H Q I ⟨ρ,γ,h,rel,fin⟩
  ·exact b.h pins s σ H Q I ⟨ρ,γ,h,rel,fin⟩⟩
theorem zk8 {m n:G->M Src}(a:SI X EX tg e m) (b:SI X EX tg e n):SI X EX tg e (orE m n) :=
 ⟨λpins s σ H Q I ⟨ρ,γ,h,rel,fin⟩=>by
  rcases z7w (m γ) (n γ) h with z|z<;>rw [show orE m n γ h=orM (m γ) (n γ) h from rfl,z] at fin
  ·exact a.h pins s σ H Q I ⟨ρ,γ,h,rel,fin⟩
  ·exact b.h pins s σ H Q I ⟨ρ,γ,h,rel,fin⟩⟩
end
theorem or_l {α:Type}{m n:G->M α}{γ:G}{h h1:AH}{v:α}(e:m γ h=.ok v h1):orE m n γ h=.ok v h1:=by unfold orE orM;rw [e]
theorem or_r {α:Type}{m n:G->M α}{γ:G}{h:AH}(e:m γ h=.bad):orE m n γ h=n γ h:=by unfold orE orM;rw [e]
theorem or_b {α:Type}{m n:G->M α}{γ:G}(e:m γ=bad):orE m n γ=n γ:=funext λh=>or_r (by rw [e];rfl)
theorem W_of {α:Type}{m:M α}{h h1:AH}{v:α}{Q:α->AH->Prop}(e:m h=.ok v h1) (q:Q v h1):W m h Q:=⟨_,_,e,q⟩
def kvN (l:List Nat):List (Key×D):=l.map λ(i:Nat)=>(.inl (i:Int),.bl true)
def putN (acc:List Nat) (k:Nat):List Nat:=if k∈acc then acc else acc++[k]
def dedN (l:List Nat):List Nat:=l.foldl putN []
theorem zh3 {a:List Nat}{k x:Nat}:x∈putN a k↔x∈a∨x=k:=by
 unfold putN
 split
 ·exact ⟨.inl,λh=>h.elim id λe=>by subst e;assumption⟩
 ·simp
theorem zB4 {a:List Nat}{k:Nat}(h:a.Nodup):(putN a k).Nodup:=by
 unfold putN
 split
 ·exact h
 ·exact z9Y h ‹_›
theorem z86 {x:Nat}:∀{l a:List Nat},x∈l.foldl putN a↔x∈a∨x∈l
 | [],a=>by simp
 | k::l,a=>by rw [K63,z86,zh3,K0v];exact or_assoc
theorem z9A:∀{l a:List Nat},a.Nodup->(l.foldl putN a).Nodup
 | [],_,h=>h
 | _::l,_,h=>z9A (l:=l) (zB4 h)
theorem dedN_mem {l:List Nat}{x:Nat}:x∈dedN l↔x∈l:=by unfold dedN;rw [z86];simp
theorem z9g (l:List Nat):(dedN l).Nodup:=z9A K8n
theorem z8F:∀(l a:List Nat),(kN l).foldl putK (kN a)=kN (l.foldl putN a)
 | [],a=>rfl
 | k::l,a=>by
  have e:putK (kN a) (.inl (k:Int))=kN (putN a k):=by
   unfold putN
   split
   ·rename_i h
    unfold putK
    rw [if_pos (kN_mem.mpr h)]
   ·exact zL8 ‹_›
  show (kN l).foldl putK (putK (kN a) (.inl (k:Int)))=_
  rw [e]
  exact z8F l (putN a k)
theorem zp6 (l:List Nat):dedK (kN l)=kN (dedN l):=z8F l []
theorem zg1 {l:List Nat}{n:Nat}(h:∀x∈l,x<n):(dedN l).length≤n:=z4h (z9g l) λx hx=>h x (dedN_mem.mp hx)
theorem z6J:∀l:List Nat,z53 (stD l)=some (kN l)
 | []=>rfl
 | a::l=>by
  have:z53 (stD (a::l))=(match keyD (.int (a:Int)),z53 (stD l) with
   | some k,some ks=>some (k::ks)
   | _,_=>none):=rfl
  rw [this,z6J l];rfl
def setN (l:List Nat):List Nat:=z0t (dedN l)
theorem z1r {l:List Nat}{x:Nat}:x∈setN l↔x∈l:=by unfold setN;rw [sortN_mem,dedN_mem]
theorem z2d (l:List Nat):(setN l).Pairwise (·<·):=z17 (z9g l)
theorem z3k {l:List Nat}(h:l.Pairwise (·<·)):l.Nodup:=h.imp λh=>K0p h
theorem z3g {l m:List Nat}(a:l.Pairwise (·<·)) (b:m.Pairwise (·<·)) (h:∀x,x∈l↔x∈m):l=m :=
 ((K6o (z3k a) (z3k b)).mpr h).eq_of_pairwise (λ_ _ _ _ h1 h2=>absurd h2 (Nat.lt_asymm h1)) a b
theorem zl0 {l m:List Nat}(h:∀x,x∈l↔x∈m):setN l=setN m:=z3g (z2d l) (z2d m) λx=>by rw [z1r,z1r];exact h x
theorem z7Y {l:List Nat}{n:Nat}(h:∀x∈l,x<n):(setN l).length≤n:=by unfold setN;rw [v5];exact zg1 h
section
variable {ma me:G->M D}{mt:G->M Out}{γ:G}{h:AH}{a b i:Nat}{xs:List D}{v:D}{Q:Out->AH->Prop}
theorem z6D (e:h[i]?=.(l xs)):z2y (.ref i) h=.ok i h:=by unfold z2y;dsimp only;rw [e]
theorem zg2 (e:h[i]?=.(l xs)) (hl:xs.length<1000000):y8 i v h=.ok .non (h.set i (.lst (xs++[v]))):=by
 unfold y8 updL
 rw [e]
 dsimp only
 rw [if_pos (by simp [sizeLine];omega)]
theorem z3N (ea:γ[a]?=some (.(r i))) (e:h[i]?=.(l xs)) (hl:xs.length<1000000) (ev:me γ h=.ok v h) (z:W (mt γ) (h.set i (.lst (xs++[v]))) Q):W (z9 (z0S (eM1 y8 (eVar a) me)) mt γ) h Q:=by
 refine zc0 ?_
 have e1:eVar a γ=pure (.ref i):=by unfold eVar;rw [ea]
 unfold eM1
 rw [e1,Y2,Z7]
 refine W_of (z6D e) ?_
 rw [Z7]
 exact W_of ev (W_of (zg2 e hl) z)
theorem z8j (hl:xs.length≤1000000) (ev:∀h,me γ h=newL xs h) (z:W (mt (γ.set a (.(r h.length)))) (h++[.lst xs]) Q):W (z9 (sAsg me (gN a)) mt γ) h Q:=by
 refine zc7 ?_
 have:me γ=newL xs:=funext ev
 rw [this]
 exact zI4 hl z
theorem y4 {f:List D->M D}{d:D}{h1:AH}{r:Res D}(e:me γ h=.ok d h1) (e2:f [d] h1=r):Z6 f (z8 me aNil) γ h=r:=by
 have:z8 me aNil γ h=.ok [d] h1:=by
  show (me γ >>= λx=>(do let r ← aNil γ;pure (x::r):M (List D))) h=_
  rw [M.bind_ok e];rfl
 show (z8 me aNil γ >>= f) h=_
 rw [M.bind_ok this];exact e2
theorem z8y (e:h[i]?=.(l xs)):x4 [.ref i] h=.ok (.tup xs) h:=by
 have ft:x4 [.ref i]=(do let x ← getL i;pure (.tup x)):=rfl
 have g:getL i h=.ok xs h:=by unfold getL;rw [e]
 rw [ft,M.bind_ok g];rfl
theorem z41 (e:h[i]?=.(l xs)):fLen [.ref i] h=.ok (.int xs.length) h:=by
 have ft:fLen [.ref i]=(do let x ← getL i;pure (.int x.length)):=rfl
 have g:getL i h=.ok xs h:=by unfold getL;rw [e]
 rw [ft,M.bind_ok g];rfl
theorem ix_h {t:Int}{d:D}(e:h[i]?=.(l xs)) (a:atI xs t=some d):fIx (.ref i) (.int t) h=.ok d h:=by
 have ft:fIx (.ref i) (.int t)=(do let xs ← getL i;match atI xs t with|some d=>pure d|none=>bad):=rfl
 have g:getL i h=.ok xs h:=by unfold getL;rw [e]
 rw [ft,M.bind_ok g,a];rfl
theorem zt9 {ss:List Str}(e:h[i]?=.(l (ss.map .str))) (hl:ss.length<64):z1B [.ref i] h=.ok (.ref h.length) (h++[.lst ((z1F ss).map .str)]):=by
 have fs:z1B [.ref i]=(do
  let xs ← getL i
  if xs.length<64 then (match z3H xs with
   | some ss=>newL ((z1F ss).map .str)
   | none=>(match z2x xs with
    | some ns=>newL ((sortI ns).map .int)
    | none=>bad)) else bad):=rfl
 have g:getL i h=.ok (ss.map .str) h:=by unfold getL;rw [e]
 rw [fs,M.bind_ok g,if_pos (by simpa using hl),strs_map]
 dsimp only
 unfold newL
 rw [if_pos (by rw [K00,z4b];unfold sizeLine;omega)]
theorem z4U (e:me γ h=.ok (.ref h.length) (h++[.lst xs])) (c:J5 0 xs=true):clE (Z6 x4 (z8 me aNil)) γ h=.ok (.tup xs) h :=
 z0u (j:=[.lst xs]) (y4 e (z8y (by simp))) (by simp only [J7];exact z26 (K3g _) c)
theorem cb_h {b:Bool}{h1:AH}(e:me γ h=.ok (.bl b) h1):(λγ=>(do let d ← me γ;asB d:M Bool)) γ h=.ok b h1:=by
 dsimp only
 rw [M.bind_ok e];rfl
theorem z4t {n:Nat}{mb:G->M Out}{ds:List D}{d:D}{h1:AH}(z:W (mb (z19 n ds)) h (runW λa h'=>a=d/\h'=h1)):runF n mb ds h=.ok d h1:=by
 obtain ⟨_,_,a,rfl,rfl⟩:=z29 z
 exact a
end
theorem z6P {f:D->D->Option Bool}{ι:Type} [DecidableEq ι] {enc:ι->D}(e:∀a b,f (enc a) (enc b)=some (decide (a=b))):∀l m:List ι,eqZ f (l.map enc) (m.map enc)=some (decide (l=m))
 | [],[]=>by simp [eqZ]
 | [],b::m=>by simp [eqZ]
 | a::l,[]=>by simp [eqZ]
 | a::l,b::m=>by
  rw [K0t,K0t]
  unfold eqZ
  rw [e a b,z6P e l m]
  dsimp only
  congr 1
  rw [K0z]
  simp
theorem z1z {n:Nat}{h:AH}(a b:Nat):eqN (n+1) h (.int a) (.int b)=some (decide (a=b)):=by
 show some ((a:Int)==(b:Int))=_
 congr 1
 rw [K0z,beq_iff_eq,decide_eq_true_eq]
 exact Int.ofNat_inj
theorem z5w {n:Nat}{h:AH}(a b:Str):eqN (n+1) h (.str a) (.str b)=some (decide (a=b)):=by
 show some (a==b)=_
 congr 1
theorem z3l {ι:Type} [DecidableEq ι] {enc:ι->D}{n:Nat}{h:AH}(e:∀a b,eqN n h (enc a) (enc b)=some (decide (a=b))) (l m:List ι):eqN (n+1) h (.tup (l.map enc)) (.tup (m.map enc))=some (decide (l=m)):=z6P e l m
theorem zw3 {ι:Type} [DecidableEq ι] {enc:ι->D}{n:Nat}{h:AH}(e:∀a b,eqN n h (enc a) (enc b)=some (decide (a=b))) {l m:List ι}{i j:Nat}(hi:h[i]?=.(l (l.map enc))) (hj:h[j]?=.(l (m.map enc))):eqN (n+1) h (.ref i) (.ref j)=some (decide (l=m)):=by
 have v1:vw h (.ref i)=.lst (l.map enc):=by unfold vw;dsimp only;rw [hi]
 have v2:vw h (.ref j)=.lst (m.map enc):=by unfold vw;dsimp only;rw [hj]
 unfold eqN
 rw [v1,v2]
 exact z6P e l m
theorem z3b {neg:Bool}{h:AH}{x y:D}{b:Bool}(e:eqN 24 h x y=some b):fEqX neg x y h=.ok (.bl (b != neg)) h:=by
 unfold fEqX;rw [e]
theorem z8Z {l m:List Nat}{neg:Bool}:fEqX neg (.tup (stD l)) (.tup (stD m))=pure (.bl (decide (l=m) != neg)):=funext λh=>z3b (z3l (enc:=λ(i:Nat)=>.int i) z1z l m)
theorem zr2 {l m:List Nat}{neg:Bool}{h:AH}{i j:Nat}(hi:h[i]?=.(l (stD l))) (hj:h[j]?=.(l (stD m))):fEqX neg (.ref i) (.ref j) h=.ok (.bl (decide (l=m) != neg)) h:=z3b (zw3 (enc:=λ(i:Nat)=>.int i) z1z hi hj)
section
variable {ma mb:G->M D}{γ:G}{h h1 h2:AH}
theorem e2_h {f:D->D->M D}{x y:D}{r:Res D}(e1:ma γ h=.ok x h1) (e2':mb γ h1=.ok y h2) (e3:f x y h2=r):e2 f ma mb γ h=r:=by
 show (ma γ >>= λx=>(mb γ >>= λy=>f x y)) h=_
 rw [M.bind_ok e1,M.bind_ok e2',e3]
theorem fn_h {n:Nat}{f:List D->M D}{mr:G->M (List D)}{ds:List D}{r:Res D}(e:mr γ h=.ok ds h1) (hn:ds.length=n) (e2:f ds h1=r):eFn n f mr γ h=r:=by
 show (mr γ >>= λxs=>if xs.length=n then f xs else bad) h=_
 rw [M.bind_ok e,if_pos hn,e2]
theorem ac_h {mr:G->M (List D)}{d:D}{ds:List D}(e:ma γ h=.ok d h1) (e2:mr γ h1=.ok ds h2):z8 ma mr γ h=.ok (d::ds) h2:=by
 show (ma γ >>= λx=>(mr γ >>= λr=>(pure (x::r):M (List D)))) h=_
 rw [M.bind_ok e,M.bind_ok e2];rfl
end
section
variable {prog:K0n}{w:World}{A:Around}{E:Value->Shared->Prop}{s:Shared}
theorem zc8:∀{vs:List Value}{ns:List Int},K5m vs ns->∀i (h1:i<vs.length) (h2:i<ns.length),∃t,vs[i]=.int ns[i] t
 | _,_,.nil,i,h1,_=>by simp at h1
 | _,_,.cons n t r,0,_,_=>⟨t,rfl⟩
 | _,_,.cons n t r,i+1,h1,h2=>by simpa using zc8 r i (by simpa using h1) (by simpa using h2)
theorem z3E {t:Addr}{vs:List Value}{ns:List Int}{k:Int}{tk:Tok}{Q:Value->Shared->Prop}(ht:IsTup s.heap t vs.toArray) (hi:K5m vs ns) (hk:k∈ns) (h:Q (.int (ns.idxOf k:Nat) s.toks) { s with toks:=s.toks+1 }) :
 wpAny (model prog w) A (call (.builtin "tuple.index") [.ref t,.int k tk]) Q E s:=by
 have hT:s.heap.IsTuple t vs.toArray:=ht
 have hlen:=hi.length
 have hj:ns.idxOf k<ns.length:=K14.mpr hk
 obtain ⟨o,ho,hc,n,hd⟩:=id hT
 refine K28 F.slot_tuple_index ⟨o,ho,hc⟩ F.entry_tuple_index ?_ (F.args_tuple_index_2 _ _)
 unfold Builtin.«tuple.index»
 wp_walk
 rw [hd]
 refine K9 ?_
 refine K9 ?_
 dsimp only
 refine K2 (K9 ?_)
 refine K2 (K9 ?_)
 refine K2 ?_
 rw [Std.Legacy.Range.forIn_eq_forIn_range']
 simp only [Std.Legacy.Range.size,Nat.sub_zero,Nat.add_sub_cancel,Nat.div_one,Nat.min_self,K09]
 refine wpAny_forIn_list _
  (λrest b s'=>s'=s/\b=(none,())/\∃i,rest=Z08 i (vs.length - i)/\i≤ns.idxOf k)
  _ ?_ ?_ _ _ ⟨rfl,rfl,0,by simp,K3g _⟩
 ·rintro x rest b s' ⟨rfl,rfl,i,hr,hle⟩
  have hlt:i<vs.length:=by omega
  obtain ⟨rfl,hrest⟩:x=i/\rest=Z08 (i+1) (vs.length - (i+1)):=by
   have e:vs.length - i=(vs.length - (i+1))+1:=by omega
   rw [e,K7k] at hr
   injection hr with h1 h2
   exact ⟨h1,h2⟩
  have e1:vs.toArray[x]?=some vs[x]:=by simp [hlt]
  rw [e1]
  dsimp only
  obtain ⟨tk2,e2⟩:∃tk2,vs[x]=.int (ns[x]'(by omega)) tk2:=zc8 hi x hlt (by omega)
  rw [e2]
  refine K2 (wpAny_eqBool_int ?_)
  by_cases e3:x=ns.idxOf k
  ·have e4:ns[x]'(by omega)=k:=by subst e3;exact K53 hj
   rw [e4,if_pos (by simp)]
   subst e3
   wp_walk
   exact ⟨_,rfl,h⟩
  ·have e4:(ns[x]'(by omega)==k)=false:=ne_of_lt_idxOf (show x<ns.idxOf k by omega) _
   rw [if_neg (by rw [e4];decide)]
   exact K9 ⟨rfl,rfl,x+1,hrest,by omega⟩
 ·rintro b s' ⟨rfl,rfl,i,hr,hle⟩
  have:vs.length - i=0:=by
   cases e:vs.length - i with
   | zero=>rfl
   | succ m=>rw [e,K7k] at hr;cases hr
  omega
end
section
variable {X:Cx}{EX:XX}{a o:Expr}{pos apos cpos p:Pos}{mo ma:G->M D}{mr:G->M (List D)}
def zy5 (K:K1):V->List V->Hp->VK->Prop:=λx vs H Q=>∃(l:Addr) (ns:List Int) (k:Int),x=.ref l/\vs=[.int k]/\SqL K H l (ns.map V.int)/\ns.length≤100000/\k∈ns/\Q (.int (ns.idxOf k:Nat)) H
def zx0 (K:K1):V->List V->Hp->VK->Prop:=λx vs H Q=>∃(l:Addr) (ns:List Int) (k:Int),x=.ref l/\vs=[.int k]/\SqT K H l (ns.map V.int)/\k∈ns/\Q (.int (ns.idxOf k:Nat)) H
theorem z92:MtR X "tuple.index" (zx0 X.K):=by
 intro pins s σ H x vs v us Q I rx rv h
 obtain ⟨l,ns,k,rfl,rfl,hq,hk,q⟩:=h
 cases rx
 obtain ⟨u,rfl,ru⟩:=rv.one
 obtain ⟨t,rfl⟩:=ru
 obtain ⟨its,r,pl,hz⟩:=I.tuple hq
 exact z3E pl (intsAre_of r) hk ⟨.int _,H,I.tok _,⟨_,rfl⟩,q⟩
theorem z6Y {A:Around}{E:Value->Shared->Prop}{s:Shared}{l:Addr}{vs:List Value}{ns:List Int}{k:Int}{t:Tok}{Q:Value->Shared->Prop}(hl:s.heap.IsList l vs.toArray) (hi:K5m vs ns) (hb:ns.length≤100000) (hk:k∈ns) (h:Q (.int (ns.idxOf k:Nat) s.toks) { s with toks:=s.toks+1 }) :
 wpAny (model X.prog X.w) A (call (.builtin "list.index") [.ref l,.int k t]) Q E s:=by
 obtain ⟨⟨cls,dd,data,sl⟩,ho,hc,n,hd⟩:=id hl
 simp only at hc hd
 subst hc hd
 have hlen:=hi.length
 have hj:ns.idxOf k<ns.length:=K14.mpr hk
 refine K41 K3u ⟨_,ho,rfl⟩ K7f (K6r _ _)
  (K7d l vs.toArray n dd sl (.int k t) (isInt k) (ns.idxOf k) (by simpa [hlen] using hj) (by omega) ?_ ?_) ⟨ho,λy hy=>(eq_isInt k t hi y (by simpa using hy)).at _ _,h⟩
 ·show isInt k vs[ns.idxOf k]=true
  rw [isInt_at k hi _ (by omega) hj]
  simpa using K53 hj
 ·intro j hjs hlt
  show isInt k vs[j]=false
  rw [isInt_at k hi j (by simpa using hjs) (by omega)]
  exact ne_of_lt_idxOf hlt _
theorem z9n:MtR X "list.index" (zy5 X.K):=by
 intro pins s σ H x vs v us Q I rx rv h
 obtain ⟨l,ns,k,rfl,rfl,hq,hb,hk,q⟩:=h
 cases rx
 obtain ⟨u,rfl,ru⟩:=rv.one
 obtain ⟨t,rfl⟩:=ru
 obtain ⟨its,r,pl,hz⟩:=I.list hq
 exact z6Y pl.isList (intsAre_of r) hb hk ⟨.int _,H,I.tok _,⟨_,rfl⟩,q⟩
def ixI (xs:List D) (y:D):M D:=match z2x xs,y with
 | some ns,.int k=>if ns.length≤100000/\k∈ns then pure (.int (ns.idxOf k:Nat)) else bad
 | _,_=>bad
def z2f (n:Nat) (y:D):M D:=do
 let xs ← getL n
 ixI xs y
def z3U (mo ma:G->M D):G->M D:=λγ=>do
 let o ← mo γ
 match o with
 | .tup xs=>do
  let y ← ma γ
  ixI xs y
 | _=>bad
theorem z90 {ρ:List Addr}{h:AH}{H:Hp}{xs:List D}{y:D}{vs:List V}{u:V}{Q:VK}(r:RH X.K ρ h H) (rx:RDs X.K ρ H xs vs) (ry:RD X.K ρ H y u) (fin:FE X.K EX ρ H Q (ixI xs y h)):∃(ns:List Int) (k:Int),vs=ns.map V.int/\u=.int k/\ns.length≤100000/\k∈ns/\Q (.int (ns.idxOf k:Nat)) H:=by
 unfold ixI at fin
 cases e:z2x xs with
 | none=>rw [e] at fin;exact fin.elim
 | some ns =>
  rw [e] at fin
  cases y<;>first|exact (show False from fin).elim|skip
  rename_i k
  dsimp only at fin
  simp only [RD] at ry
  subst ry
  by_cases c:ns.length≤100000/\k∈ns
  ·rw [if_pos c] at fin
   exact ⟨ns,k,z3M e rx,rfl,c.1,c.2,FE.here fin r (by simp [RD])⟩
  ·rw [if_neg c] at fin;exact fin.elim
theorem z5H (ho:SE X EX o mo) (ha:SE X EX a ma)
 (hbase:K4d o "index" X.env (eval o X.env)=eval o X.env:=by rfl)
 (hfew:((backTo cpos (K0b [a] X.env)).all (λx=>!x.1)&&(K7o cpos (K58 [] X.env)).all (λx=>x.1.isSome)
 &&decide (([a]:List Expr).length+([]:List K44).length+(if ([]:List K44).isEmpty then 0 else 1)<30))=true:=by rfl)
 (hline:(apos.endLine==cpos.line)=true:=by rfl) (hs:K0b [a] X.env=[(false,eval a X.env)]:=by rfl) :
 SE X EX (.Call (.Attribute o "index" apos) [a] [] cpos) (eM1 z2f mo ma) :=
 ⟨PE.imp (zh1 K3v K3u K7q z9n ho.h (z0G ha.h z23 hs) hbase hfew hline hs rfl) (ze2 λρ h H n q y u Q r hq ru fin=>by
  have f2:Fin X.K EX ρ H _ _:=Fin.bind (show Fin X.K EX ρ H (λd ρ' _ H'=>∀v,RD X.K ρ' H' d v->Q v H') ((getL n >>= λxs=>ixI xs y) h) from fin)
  cases e3:getL n h with
  | bad=>rw [e3] at f2;exact f2.elim
  | err z hz=>exact (z0T e3).elim
  | ok xs h3 =>
   obtain ⟨rfl,q1⟩:=z0U e3
   rw [e3] at f2
   obtain ⟨a1,n1,vs,o1,d1⟩:=r.at q1
   rw [hq] at n1;cases n1
   obtain ⟨ns,k,rfl,rfl,hb,hk,q⟩:=z90 r d1 ru (f2 ρ H (Pre.refl _) (Ext.refl _ _) r)
   exact ⟨_,ns,k,rfl,rfl,SqL.of o1,hb,hk,q⟩)⟩
def tBMT (K:K1) (r:V->List V->Hp->VK->Prop) (to:TE) (t:TA):TE:=λσ H Q=>to σ H λx H1=>(∃a xs,x=.ref a/\SqT K H1 a xs)/\t σ H1 λvs H2=>r x vs H2 Q
theorem tup_is {pins:List (Addr×Obj)}{σ:L2.St}{H:Hp}{s:Shared}{a:Addr}{xs:List V}(I:Inv X pins σ H s) (h:SqT X.K H a xs):s.TypeIs (.ref a) "tuple"/\∀b,K1n a=.ref b->∃ob,s.heap.get? b=some ob/\ob.dict=none:=by
 rcases h with h|⟨o,its,n,hk,hc,_⟩
 ·obtain ⟨z,its,r,o,e,c,d⟩:=h.ok I.hok
  exact ⟨⟨o,e,c.1⟩,λb eb=>by cases eb;exact ⟨o,e,c.2⟩⟩
 ·exact ⟨⟨o,I.kIn a o hk,hc.1⟩,λb eb=>by cases eb;exact ⟨o,I.kIn _ o hk,hc.2⟩⟩
theorem zG9 {e:Expr}{es:List Expr}{to:TE}{t:TA}{name:Str}{id:String}{r:V->List V->Hp->VK->Prop}(pa:PlainAttrs "tuple") (slot:Slot "tuple" name id) (hty:typeOf (.builtin id)=pure (.type "method_descriptor")) (hm:MtR X id r) (ho:PE X o to) (ha:PA X (e::es) t)
 (hbase:K4d o name X.env (eval o X.env)=eval o X.env:=by rfl)
 (hfew:((backTo cpos (K0b (e::es) X.env)).all (λx=>!x.1)&&(K7o cpos (K58 [] X.env)).all (λx=>x.1.isSome)
 &&decide ((e::es).length+([]:List K44).length+(if ([]:List K44).isEmpty then 0 else 1)<30))=true:=by rfl)
 (hline:(apos.endLine==cpos.line)=true:=by rfl) (hs:K0b (e::es) X.env=(false,eval e X.env)::K0b es X.env:=by rfl) (hplain:(backTo cpos (K0b es X.env)).any (·.1)=false:=by rfl) :
 PE X (.Call (.Attribute o name apos) (e::es) [] cpos) (tBMT X.K r to t):=by
 intro pins s σ H Q I h
 refine K85 hbase hfew hline rfl (thn (ho pins s σ H _ I h) λv s1 ⟨x,H1,I1,r1,ty,q1⟩=>?_)
 obtain ⟨a,xs,rfl,hq⟩:=ty
 cases r1
 obtain ⟨h1,h2⟩:=tup_is I1 hq
 refine ⟨"tuple",id,pa,slot,hty,h1,h2,?_⟩
 have hA:=ha cpos pins s1 σ H1 _ I1 q1
 rw [hs] at hA ⊢
 refine K81 (by show (false||(backTo cpos (K0b es X.env)).any (·.1))=false;rw [hplain]<;>rfl) (K8s ?_)
 exact thn hA λus s2 ⟨vs,H2,I2,r2,q2⟩=>hm pins s2 σ H2 (.ref a) vs (.ref a) us Q I2 rfl r2 q2
theorem z5Q (ho:SE X EX o mo) (ha:SE X EX a ma)
 (hbase:K4d o "index" X.env (eval o X.env)=eval o X.env:=by rfl)
 (hfew:((backTo cpos (K0b [a] X.env)).all (λx=>!x.1)&&(K7o cpos (K58 [] X.env)).all (λx=>x.1.isSome)
 &&decide (([a]:List Expr).length+([]:List K44).length+(if ([]:List K44).isEmpty then 0 else 1)<30))=true:=by rfl)
 (hline:(apos.endLine==cpos.line)=true:=by rfl) (hs:K0b [a] X.env=[(false,eval a X.env)]:=by rfl) :
 SE X EX (.Call (.Attribute o "index" apos) [a] [] cpos) (z3U mo ma) :=
 ⟨PE.imp (zG9 PySem.F.plainAttrs_tuple PySem.F.slot_tuple_index PySem.F.type_tuple_index z92 ho.h (z0G ha.h z23 hs) hbase hfew hline hs rfl) λσ H Q ⟨ρ,γ,h,rel,fin⟩=>⟨ρ,γ,h,rel,(Fin.bind fin).mono λx ρ1 h1 H1 p1 e1 r1 f1 v rv=>by
  cases x<;>first|exact (show False from f1).elim|skip
  rename_i xs
  simp only [RD] at rv
  obtain ⟨q,vs,rfl,h2,h3⟩:=rv
  exact ⟨⟨q,vs,rfl,h2⟩,ρ1,γ,h1,⟨rel.g.mono p1 e1,r1⟩,(Fin.bind f1).mono λy ρ2 h4 H2 p2 e2 r2 f2 u ru=>by
   obtain ⟨ns,k,rfl,rfl,hb,hk,q⟩:=z90 r2 (h3.mono p2 e2) ru f2
   exact ⟨_,ns,k,rfl,rfl,e2.t _ _ h2,hk,q⟩⟩⟩⟩
end
theorem z70 {h:AH}{n:Nat}{l:List Nat}{x:Nat}{neg:Bool}(e:h[n]?=.(l (stD l))):fIn neg (.int x) (.ref n) h=.ok (.bl (decide (x∈l) != neg)) h:=by
 have g:getL n h=.ok (stD l) h:=by unfold getL;rw [e]
 unfold fIn seqD
 rw [M.bind_ok g,z73,z9w]
 rfl
theorem J2 {h:AH}{o:O}:(h++[o])[h.length]?=some o:=by simp
theorem z2C {h:AH}{o o':O}:(h++[o]).set h.length o'=h++[o']:=by simp
theorem zr0 {h:AH}{i:Nat}{S:List Nat}(hl:S.length<64) (e:h[i]?=.(l (stD S))):z1B [.ref i] h=.ok (.ref h.length) (h++[.lst (stD (z0t S))]):=by
 have fs:z1B [.ref i]=(do
  let xs ← getL i
  if xs.length<64 then (match z3H xs with
   | some ss=>newL ((z1F ss).map .str)
   | none=>(match z2x xs with
    | some ns=>newL ((sortI ns).map .int)
    | none=>bad)) else bad):=rfl
 have g:getL i h=.ok (stD S) h:=by unfold getL;rw [e]
 cases S with
 | nil =>
  rw [fs,M.bind_ok g,if_pos (by rw [j6];exact hl)]
  have e1:z3H (stD [])=some []:=rfl
  have e2:(z1F []).map D.str=stD (z0t []):=by
   have a:z1F []=[]:=K2r.mp (by rw [z4b];rfl)
   have b:z0t []=[]:=K2r.mp (by rw [v5];rfl)
   rw [a,b];rfl
  rw [e1]
  dsimp only
  rw [e2]
  unfold newL
  rw [if_pos (by rw [j6,v5];unfold sizeLine;simp)]
 | cons a S =>
  have sn:z3H (stD (a::S))=none:=rfl
  rw [fs,M.bind_ok g,if_pos (by rw [j6];exact hl),sn,z3R]
  dsimp only
  rw [z32]
  unfold newL
  rw [if_pos (by rw [j6,v5];unfold sizeLine;omega)]
theorem zN_mem {l:List Nat}{x:Nat}:(x:Int)∈zN l↔x∈l:=by
 unfold zN
 constructor
 ·intro h
  obtain ⟨i,hi,e⟩:=K04.mp h
  have:i=x:=by omega
  exact this ▸ hi
 ·exact λh=>K04.mpr ⟨x,h,rfl⟩
theorem zK4 (l:List Nat) (x:Nat):(zN l).idxOf (x:Int)=l.idxOf x:=by
 induction l with
 | nil=>rfl
 | cons a l ih =>
  show ((a:Int)::zN l).idxOf (x:Int)=_
  rw [K4y,K4y,ih]
  by_cases e:a=x
  ·subst e;simp
  ·have h1:((a:Int)==(x:Int))=false:=by
    rw [beq_eq_false_iff_ne];omega
   have h2:(a==x)=false:=by rw [beq_eq_false_iff_ne];exact e
   rw [h1,h2]
theorem zl8 {l:List Nat}{x:Nat}(hx:x∈l) (hl:l.length≤100000):ixI (stD l) (.int x)=pure (.int (l.idxOf x:Nat)):=by
 unfold ixI
 rw [z3R]
 dsimp only
 rw [if_pos ⟨by unfold zN;simpa using hl,zN_mem.mpr hx⟩,zK4]
section
variable {mo ma:G->M D}{γ:G}{h:AH}{i x:Nat}{l:List Nat}
theorem zO2 {mt:G->M D}(eo:mo γ h=.ok (.ref i) h) (e:h[i]?=.(l (stD l))) (ea:ma γ h=.ok (.int x) h) (hx:x∈l) (hl:l.length≤100000):orE (eM1 z2f mo ma) mt γ h=.ok (.int (l.idxOf x:Nat)) h:=by
 refine or_l ?_
 show (mo γ >>= λo=>z2y o >>= λn=>ma γ >>= λy=>z2f n y) h=_
 rw [M.bind_ok eo,M.bind_ok (z6D e),M.bind_ok ea]
 have g:getL i h=.ok (stD l) h:=by unfold getL;rw [e]
 unfold z2f
 rw [M.bind_ok g,zl8 hx hl]
 rfl
theorem zO0 (eo:mo γ=pure (.tup (stD l))) (ea:ma γ=pure (.int x)) (hx:x∈l) (hl:l.length≤100000):orE (eM1 z2f mo ma) (z3U mo ma) γ=pure (.int (l.idxOf x:Nat)):=by
 rw [or_b]
 ·unfold z3U
  rw [eo,Y2]
  dsimp only
  rw [ea,Y2,zl8 hx hl]
 ·show (mo γ >>= λo=>z2y o >>= λn=>ma γ >>= λy=>z2f n y)=_
  rw [eo,Y2]
  rfl
end
section
variable {me ma:G->M D}{kb:G->M Bool}{γ:G}{h h1:AH}{a i:Nat}{b:Bool}{xs:List D}
theorem cv_h (e:me γ h=.ok (.bl b) h1):cVal me γ h=.ok b h1:=by
 unfold cVal
 rw [M.bind_ok e]
 rfl
theorem cn_h (e:kb γ h=.ok b h1):cNot kb γ h=.ok (!b) h1:=by
 unfold cNot
 rw [M.bind_ok e]
 rfl
theorem Z1 {d:D}(e:γ[a]?=some (some d)):eVar a γ h=.ok d h:=by unfold eVar;rw [e];rfl
theorem zP5 {bs:List Bool}(e:me γ h=.ok (.ref h.length) (h++[.lst (bs.map .bl)])):clE (Z6 (fAll false) (z8 me aNil)) γ h=.ok (.bl (bs.all id)) h :=
 z0u (j:=[.lst (bs.map .bl)]) (y4 e (by
  have g:getL h.length (h++[O.lst (bs.map .bl)])=.ok (bs.map .bl) (h++[O.lst (bs.map .bl)]):=by unfold getL;rw [J2]
  unfold fAll
  dsimp only
  rw [M.bind_ok g,z5v]
  rfl)) rfl
theorem z48 (e:me γ h=.ok (.ref i) h) (q:h[i]?=.(l xs)):z0h me γ h=.ok (.lst i xs) h:=by
 have g:getL i h=.ok xs h:=by unfold getL;rw [q]
 unfold z0h
 rw [M.bind_ok e]
 dsimp only
 rw [M.bind_ok g]
 rfl
theorem z0M (e:me γ h=.ok (.tup xs) h1):z0o me γ h=.ok (.con xs) h1:=by
 unfold z0o
 rw [M.bind_ok e]
 rfl
theorem zu3 (e:me γ h=.ok (.ref i) h) (q:h[i]?=.(l xs)):orE (z0o me) (z0h me) γ h=.ok (.lst i xs) h:=by
 rw [or_r]
 ·exact z48 e q
 ·unfold z0o
  rw [M.bind_ok e]
  rfl
theorem zQ6 (e:me γ h=.ok (.tup xs) h1):orE (z0o me) (z0h me) γ h=.ok (.con xs) h1:=or_l (z0M e)
theorem z0B {cap:List (Option Nat)}{mi:G->M Src}{g:D->G->M G}{src:Src}{l:List Nat}(p:Nat->Bool) (f:Nat->D) (hi:mi γ h=.ok src h) (hs:src.items=stD l) (hg:∀j,src.good (h++j)) (hl:l.length≤1000000)
 (hd:∀x∈l,∃γ1,(∀h,g (.int x) (capG cap γ) h=.ok γ1 h)/\(∀j,kb γ1 (h++j)=.ok (p x) (h++j))/\(p x=true->∀j,me γ1 (h++j)=.ok (f x) (h++j))):Y3 cap mi g kb me γ h=.ok (.ref h.length) (h++[.lst ((l.filter p).map f)]):=by
 refine (z1C (src:=src) (λd=>match d with|.int t=>p t.toNat|_=>false) (λd=>match d with|.int t=>f t.toNat|_=>.non) hi hg (by rw [hs,j6];exact hl) λd hd'=>?_).trans ?_
 ·rw [hs] at hd'
  obtain ⟨x,hx,rfl⟩:=K04.mp hd'
  exact hd x hx
 ·rw [hs]
  unfold stD
  rw [K8c,K0o]
  rfl
end
theorem zv5 {n:Nat}{h:AH}(a b:List Str) (l m:List Nat):eqN (n+3) h (.tup [.tup (a.map .str),.tup (stD l)]) (.tup [.tup (b.map .str),.tup (stD m)])=some (decide (a=b)&&decide (l=m)):=by
 have e1:eqN (n+2) h (.tup (a.map .str)) (.tup (b.map .str))=some (decide (a=b)):=z3l z5w a b
 have e2:eqN (n+2) h (.tup (stD l)) (.tup (stD m))=some (decide (l=m)):=z3l (enc:=λ(i:Nat)=>.int i) z1z l m
 show eqZ (eqN (n+2) h) _ _=_
 unfold eqZ
 rw [e1]
 unfold eqZ
 rw [e2]
 unfold eqZ
 simp
theorem z5E {ma mb:G->M D}{γ:G}{h h1 h2:AH}{x y:D}(e1:ma γ h=.ok x h1) (e2':mb γ h1=.ok y h2):eTup (z8 ma (z8 mb aNil)) γ h=.ok (.tup [x,y]) h2:=by
 have e3:z8 ma (z8 mb aNil) γ h=.ok [x,y] h2:=ac_h e1 (ac_h e2' rfl)
 unfold eTup
 rw [M.bind_ok e3]
 rfl
theorem zJ0 {tup:Bool}{ma:G->M D}{γ:G}{n:Nat}(e:ma γ=pure (.int (n:Nat))) (hn:n≤1000000):eRng tup ma γ=if tup then pure (.tup (z0H n)) else newL (z0H n):=by
 unfold eRng
 rw [e,Y2]
 have l:n≤sizeLine:=K0m hn (by decide)
 dsimp only
 rw [if_pos (by rw [K0k,decide_eq_true l,decide_eq_true (show -(2 ^ 62)≤(n:Int) by omega),decide_eq_true (show (n:Int)<2 ^ 62 by omega)];rfl),K0k]
theorem zC6 {m:M D}{h:AH}{Q:D->AH->Prop}(z:W m h λd h1=>J7 h.length d=false/\(∀i,d≠.ref i)/\Q d h1):W (cln m) h Q:=by
 obtain ⟨d,h1,e,nd,nr,q⟩:=z
 refine ⟨d,h1,?_,q⟩
 unfold cln
 rw [e]
 dsimp only
 split
 ·rw [if_neg (by rw [nd];decide)]
  cases d<;>first|rfl|exact (nr _ rfl).elim
 ·rfl
theorem zC3 {t n:Nat}(h:t<n):K57 (t:Int) n=some t:=by
 unfold K57
 rw [if_neg (show ¬ (t:Int)<0 by omega)]
 simp [h]
theorem zI0 {f:List D->Option (D×List D)}{n:Nat}{h:AH}{xs ys:List D}{d:D}(e:h[n]?=.(l xs)) (ef:f xs=some (d,ys)) (l:ys.length≤sizeLine):updL n f h=.ok d (h.set n (.lst ys)):=by
 unfold updL
 rw [e]
 dsimp only
 rw [ef]
 dsimp only
 rw [if_pos l]
theorem zA8 {h:AH}{i t:Nat}{xs:List D}{v:D}(e:h[i]?=.(l xs)) (hv:xs[t]?=some v) (hl:xs.length≤1000000):z2O i (.int (t:Nat)) h=.ok v (h.set i (.lst (xs.eraseIdx t))):=by
 have ht:t<xs.length:=(K5.mp hv).1
 have l:(xs.eraseIdx t).length≤sizeLine:=K0m (List.length_eraseIdx_le _ _) (K0m hl (by decide))
 unfold z2O
 refine zI0 e ?_ l
 have:K57 (t:Int) xs.length=some t:=zC3 ht
 split
 ·rw [this]
  dsimp only
  rw [hv,Option.map_some]
 ·rename_i c
  exact absurd ⟨by omega,by omega⟩ c
theorem z7A:∀(l:List Nat) (t:Nat),(stD l).eraseIdx t=stD (l.eraseIdx t)
 | [],t=>rfl
 | a::l,0=>rfl
 | a::l,t+1=>by
  show D.int a::(stD l).eraseIdx t=D.int a::stD (l.eraseIdx t)
  rw [z7A l t]
theorem zf6 {l:List Nat}{t:Nat}(h:t<l.length):(l.eraseIdx t++[l[t]]).Perm l:=by
 have e:l=l.take t++l[t]::l.drop (t+1):=by
  rw [List.getElem_cons_drop,List.take_append_drop]
 rw [List.eraseIdx_eq_take_drop_succ]
 refine Z0d ?_ (List.Perm.of_eq e.symm)
 refine (List.perm_append_singleton _ _).trans ?_
 exact List.perm_middle.symm
theorem zs5 {x:D}{l:List Nat}{h:AH}(e:seqD x h=.ok (stD l) h) (hl:l.length≤2000):z1h [x] h=.ok (.ref h.length) (h++[.set (kN (dedN l))]):=by
 unfold z1h
 dsimp only
 rw [M.bind_ok e,z6J]
 dsimp only
 rw [if_pos (by rw [zp3];omega),zp6]
 rfl
theorem zb5 {l:List Nat}{h:AH}{i:Nat}(e:h[i]?=some (.set (kN l))) (hl:l.length<64):x8 [.ref i] h=.ok (.ref h.length) (h++[.lst (stD (z0t l))]):=by
 unfold x8
 dsimp only
 have g:getS i h=.ok (kN l) h:=by unfold getS;rw [e]
 rw [M.bind_ok g,z6B]
 dsimp only
 rw [if_pos (by unfold zN;rw [K00];omega),z32]
 unfold newL
 rw [if_pos (by rw [j6,v5];unfold sizeLine;omega)]
theorem zU3 {tup:Bool}{ma:G->M D}{γ:G}{h h1:AH}{n:Nat}(e:ma γ h=.ok (.int (n:Nat)) h1) (hn:n≤1000000):eRng tup ma γ h=(if tup then pure (.tup (z0H n)) else newL (z0H n)) h1:=by
 unfold eRng
 rw [M.bind_ok e]
 have l:n≤sizeLine:=K0m hn (by decide)
 dsimp only
 rw [if_pos (by rw [K0k,decide_eq_true l,decide_eq_true (show -(2 ^ 62)≤(n:Int) by omega),decide_eq_true (show (n:Int)<2 ^ 62 by omega)];rfl),K0k]
theorem zD2 {ma:G->M D}{g:D->G->M G}{mt:G->M Out}{γ:G}{h:AH}{Q:Out->AH->Prop}(J:D->AH->Prop) (z:W (ma γ) h J) (f:∀d h1,J d h1->∃γ',g d γ=pure γ'/\W (mt γ') h1 Q):W (z9 (sAsg ma g) mt γ) h Q:=by
 rw [w_cons]
 unfold sAsg
 rw [Z7]
 refine z.mono λd h1 q=>?_
 obtain ⟨γ',e,w⟩:=f d h1 q
 rw [e,Y2,W_pure]
 exact w
def rowAt (row:List Nat) (o:Nat):Nat:=(row[o]?).getD 0
def mkAt (mk:List (List Str)) (i:Nat):List Str:=(mk[i]?).getD []
theorem zo8:∀{l:List Nat}{i x:Nat},l[i]?=some x->l.idxOf x≤i
 | [],i,x,h=>by simp at h
 | a::l,0,x,h=>by simp at h;subst h;simp [K4y]
 | a::l,i+1,x,h=>by
  have:=zo8 (l:=l) (i:=i) (x:=x) (by simpa using h)
  rw [K4y]
  cases (a==x)<;>simp<;>omega
theorem z6N {l:List Nat}{x:Nat}(h:x∈l):l[l.idxOf x]?=some x:=by
 have:=K14.mpr h
 rw [K4 this,K53 this]
theorem z1O {l:List Nat}{x:Nat}(h:x∈l):rowAt l (l.idxOf x)=x:=by unfold rowAt;rw [z6N h];rfl
theorem z1G {l:List Nat}{i:Nat}(h:i<l.length):l[i]?=some (rowAt l i):=by unfold rowAt;rw [K4 h];rfl
theorem z27 {l:List Nat}{i:Nat}(h:i<l.length):rowAt l i∈l:=K03 (z1G h)
theorem z1U {l:List Nat}{i x:Nat}(h:l[i]?=some x):rowAt l i=x:=by unfold rowAt;rw [h];rfl
theorem za7 {l:List Nat}{i j:Nat}(nd:l.Nodup) (h:i<l.length) (h2:j<l.length) (e:rowAt l i=rowAt l j):i=j:=by
 unfold rowAt at e
 rw [K4 h,K4 h2] at e
 exact (Z06 nd).mp e
theorem zD8 {l:List Nat}{i:Nat}(nd:l.Nodup) (h:i<l.length):l.idxOf (rowAt l i)=i:=by
 have m:=z27 h
 exact za7 nd (K14.mpr m) h (z1O m)
theorem z2t {l:List (List Str)}{i:Nat}(h:i<l.length):l[i]?=some (mkAt l i):=by unfold mkAt;rw [K4 h];rfl
theorem z7g {l:List (List Nat)}{i:Nat}(h:i<l.length):l[i]?=some (nx l i):=by unfold nx;rw [K4 h];rfl
def Canon (row:List Nat):Prop:=∀i v,row[i]?=some v->∀u,u<v->u∈row.take i
def led (st:List (List Nat)) (row:List Nat) (x:Nat):List Nat:=setN ((nx st x).map (rowAt row))
structure Steady (st:List (List Nat)) (mk:List (List Str)) (row:List Nat):Prop where
 len:row.length=st.length
 can:Canon row
 like:∀i,i<row.length->mkAt mk i=mkAt mk (row.idxOf (rowAt row i))/\led st row i=led st row (row.idxOf (rowAt row i))
structure Cop (bst:List (List Nat)) (bmk:List (List Str)) (st:List (List Nat)) (mk:List (List Str)) (raw:List Nat):Prop where
 l:st.length=raw.length
 kd:∀x,x∈raw↔x<bst.length
 rise:∀i,i<raw.length->(nx st i).Pairwise (·<·)
 lt:∀i,i<raw.length->∀o∈nx st i,o<raw.length
 st:∀i,i<raw.length->∀t,t∈(nx st i).map (rowAt raw)↔t∈nx bst (rowAt raw i)
 ml:mk=raw.map (mkAt bmk)
section
variable {raw:List Nat}
end
section
variable {bst st:List (List Nat)}{bmk mk:List (List Str)}{raw:List Nat}
end
theorem z5o {s:Shared}{M:Model}{A:Around}{a:Addr}{T id:String}{E:Value->Shared->Prop}{Q:Bool->Shared->Prop}(h:s.TypeIs (.ref a) T) (sl:Slot T (K4m "__iter__") id) (q:Q false s):wpAny M A (notIterableAtAll (.ref a)) Q E s:=by
 unfold notIterableAtAll
 refine K2 (K8d h sl.lookup ?_)
 exact K9 q
def zR4 (K:K1) (ta:TE) (tr:TA):TA:=λσ H Q=>ta σ H λx H1=>∃a xs,x=.ref a/\(SqT K H1 a xs∨SqL K H1 a xs)/\tr σ H1 λys H2=>Q (xs++ys) H2
section
variable {X:Cx}{EX:XX}{e:Expr}{es:List Expr}{te:TE}{t:TA}{p pos:Pos}{ma:G->M D}{mr:G->M (List D)}
theorem zy4 (ha:PE X e te) (hr:PA X es t):PA X (.Starred e p::es) (zR4 X.K te t):=by
 intro pos pins s σ H Q I h
 rw [K8u]
 show wpAny _ _ (spliced ((true,do let v ← eval e X.env;K4f pos;pure v)::backTo pos (K0b es X.env))) _ _ s
 refine K96 (thn (ha pins s σ H _ I h) λu s1 ⟨x,H1,I1,r1,q1⟩=>?_)
 obtain ⟨a,xs,rfl,hq,q⟩:=q1
 cases r1
 rcases hq with hq|hq
 ·obtain ⟨its,rv,pl,hz⟩:=I1.tuple hq
  have hl:=rv.length
  obtain ⟨o,ho,hc,n,hd⟩:=id pl
  refine z5o ⟨o,ho,hc⟩ PySem.F.slot_tuple_iter ⟨rfl,wpAny_collect_seq a (.inr rfl) ho hc hd (λh' kp=>?_) (by rw [K09];omega)⟩
  have I2:Inv X pins σ H1 { s1 with heap:=h' }:=I1.kept (t':=s1.toks) kp
  exact thn (hr pos pins _ σ H1 _ I2 q) λus s3 ⟨ys,H3,I3,r3,q3⟩=>⟨xs++ys,H3,I3,by simpa using rv.append r3,q3⟩
 ·obtain ⟨its,rv,pl,hz⟩:=I1.list hq
  have hl:=rv.length
  obtain ⟨o,n,ho,hc,hdd,hd⟩:=id pl
  refine z5o ⟨o,ho,hc⟩ PySem.F.slot_list_iter ⟨rfl,wpAny_collect_seq a (.inl rfl) ho hc hd (λh' kp=>?_) (by rw [K09];omega)⟩
  have I2:Inv X pins σ H1 { s1 with heap:=h' }:=I1.kept (t':=s1.toks) kp
  exact thn (hr pos pins _ σ H1 _ I2 q) λus s3 ⟨ys,H3,I3,r3,q3⟩=>⟨xs++ys,H3,I3,by simpa using rv.append r3,q3⟩
def z8L (ma:G->M D) (mr:G->M (List D)):G->M (List D):=λγ=>do
 let x ← ma γ
 match x with
 | .tup xs=>do
  let r ← mr γ
  pure (xs++r)
 | .ref n=>do
  let xs ← getL n
  let r ← mr γ
  pure (xs++r)
 | _=>bad
theorem zt6 (ha:SE X EX e ma) (hr:SA X EX es mr):SA X EX (.Starred e p::es) (z8L ma mr) :=
 ⟨PA.imp (zy4 ha.h hr.h) λσ H Q ⟨ρ,γ,h,rel,fin⟩=>⟨ρ,γ,h,rel,(Fin.bind fin).mono λx ρ1 h1 H1 p1 e1 r1 f1 v rv=>by
  cases x<;>first|exact (show False from f1).elim|skip
  ·rename_i xs
   simp only [RD] at rv
   obtain ⟨q,vs,rfl,h2,h3⟩:=rv
   exact ⟨q,vs,rfl,.inl h2,ρ1,γ,h1,⟨rel.g.mono p1 e1,r1⟩,(Fin.bind f1).mono λds ρ2 h4 H2 p2 e2 r2 f2 ws rws =>
    f2 ρ2 H2 (Pre.refl _) (Ext.refl _ _) r2 (vs++ws) ((h3.mono p2 e2).append rws)⟩
  ·rename_i n
   simp only [RD] at rv
   obtain ⟨q,rfl,hq⟩:=rv
   have f2:=Fin.bind f1
   cases e3:getL n h1 with
   | bad=>rw [e3] at f2;exact f2.elim
   | err z hz=>exact (z0T e3).elim
   | ok xs h3 =>
    obtain ⟨rfl,q1⟩:=z0U e3
    rw [e3] at f2
    obtain ⟨a1,n1,vs,o1,d1⟩:=r1.at q1
    rw [hq] at n1;cases n1
    have f3:=f2 ρ1 H1 (Pre.refl _) (Ext.refl _ _) r1
    exact ⟨_,vs,rfl,.inr (SqL.of o1),ρ1,γ,_,⟨rel.g.mono p1 e1,r1⟩,(Fin.bind f3).mono λds ρ2 h4 H2 p2 e2 r2 f2 ws rws =>
     f2 ρ2 H2 (Pre.refl _) (Ext.refl _ _) r2 (vs++ws) ((d1.mono p2 e2).append rws)⟩⟩⟩
end
end FT
namespace L2
section
variable {X:Cx}{tg:Expr}
end
end L2
namespace FT
section
variable {X:Cx}{EX:XX}{a b c tg:Expr}{p p2 pos pos2:Pos}{ma mb mc:G->M D}
end
end FT
namespace L2
section
variable {X:Cx}
end
end L2
namespace FT
section
variable {X:Cx}{EX:XX}{a b:Expr}{p p2 pos pos2:Pos}{ma mb:G->M D}
end
section
variable {X:Cx}{EX:XX}
end
section
variable {X:Cx}{EX:XX}{elt tg iter tg1 iter1:Expr}{ifs1:List Expr}{sc:Scope}{pos:Pos}{N':List Str}{cap:List (Option Nat)}{own own1:List Nat}{mi mi1:G->M Src}{g g1:D->G->M G}{k:G->M Bool}{me:G->M D}
noncomputable def zo6 (i:Nat) (cap:List (Option Nat)) (mi:G->M Src) (g:D->G->M G) (mi1:G->M Src) (g1:D->G->M G) (k:G->M Bool) (me:G->M D):G->M Out:=sAsg (z8J cap mi g mi1 g1 k me) (gN i)
theorem zq3 (i:Nat) {y:Str}{py spos:Pos}(hc:X.calm=true) (S:CS X sc N' cap) (hi:SI X EX tg iter mi) (hg:∀s H fp xe,SGk (X.comp N' sc s H fp xe) EX tg own g) (hi1:∀s H fp xe,SI (X.comp N' sc s H fp xe) EX tg1 iter1 mi1) (hg1:∀s H fp xe,SGk (X.comp N' sc s H fp xe) EX tg1 own1 g1) (ht:∀s H fp xe,SCs (X.comp N' sc s H fp xe) EX ifs1 k)
 (he:∀s H fp xe,SE (X.comp N' sc s H fp xe) EX elt me) (hN:X.N.Nodup) (hy:X.N[i]?=some y:=by rfl) (hl:X.env.scope.names.lookup y=some .local:=by rfl) (hown:∀j∈own,cap[j]?=some none:=by decide) (hown1:∀j∈own1,cap[j]?=some none/\j∉own:=by decide)
 (hsw:K1v (.ListComp elt [⟨tg,iter,[],0⟩,⟨tg1,iter1,ifs1,0⟩] sc pos) (some (.Name y py)) spos.line X.env=pure true:=by rfl) (hs:∀x,K11 iter X.env x=pure x:=by intro _;rfl) (hs1:∀env x,K11 iter1 env x=pure x:=by intro _ _;rfl) :
 S1 X EX (.Assign [.Name y py] (.ListComp elt [⟨tg,iter,[],0⟩,⟨tg1,iter1,ifs1,0⟩] sc pos) spos) (zo6 i cap mi g mi1 g1 k me) :=
 s_cm i (z9M hc hi1 hg1 ht he hown1 hs1) hc S hi hg (λ_ _ _ _=>Y8) hown hN hy hl hsw hs
end
def cnt (st:List (List Nat)):Nat->Nat->Nat
 | 0,_=>1
 | n+1,x=>((nx st x).map (cnt st n)).sum
def zS6 (w:List Nat):Nat:=w.getLast?.getD 0
def ext (st:List (List Nat)) (left:Nat) (w:List Nat):List (List Nat):=((nx st (zS6 w)).filter λy=>decide (0<cnt st left y)).map λy=>w++[y]
section
variable {st:List (List Nat)}
end
end FT
namespace L2
open PySem.AutoSeq1 (wpAny_loadPart')
section
variable {P:K0n}{w:World}{A:Around}{E:Value->Shared->Prop}{s:Shared}{I t:Addr}
end
section
variable {X:Cx}{tg:Expr}
end
end L2
namespace FT
section
variable {X:Cx}{EX:XX}{a tg:Expr}{p pos:Pos}{ma:G->M D}
end
end FT
namespace L2
open PySem.AutoSeq1 (wpAny_loadPart')
section
variable {X:Cx}
end
end L2
namespace FT
section
variable {X:Cx}{EX:XX}{a o:Expr}{cpos apos:Pos}{ma mo:G->M D}
end
section
variable {ka kb:G->M Bool}{γ:G}{h:AH}{r:Res Bool}
theorem z5k (e1:ka γ h=.ok false h) (e2':kb γ h=r):cOr ka kb γ h=r:=by
 unfold cOr
 rw [M.bind_ok e1,if_neg (by decide)]
 exact e2'
theorem zm9 (e1:ka γ h=.ok true h) (e2':kb γ h=r):cAnd ka kb γ h=r:=by
 unfold cAnd
 rw [M.bind_ok e1,if_pos rfl]
 exact e2'
theorem zo1 (e1:ka γ h=.ok false h):cAnd ka kb γ h=.ok false h:=by
 unfold cAnd
 rw [M.bind_ok e1,if_neg (by decide)]
 rfl
end
theorem zg3 {xs:List D}{h:AH}(hl:xs.length≤1000000):newL xs h=.ok (.ref h.length) (h++[.lst xs]):=by
 unfold newL
 rw [if_pos (K0m hl (by decide))]
theorem zC0 {k:G->M Bool}{body:G->M Out}{mt:G->M Out}{n m:Nat}{γ:G}{h:AH}{Q:Out->AH->Prop}(I:Nat->G->AH->Prop) (hm:m<n) (i0:I m γ h)
 (z:∀m γ h,I m γ h->∃b,k γ h=.ok b h/\if b=true then ∃m',m=m'+1/\W (body γ) h (forW (λγ h=>∃i,i≤m'/\I i γ h) λ_ _=>False) else W (mt γ) h Q):W (z9 (z2E k body n) mt γ) h Q:=by
 rw [w_cons]
 refine (z4k I (λγ h=>W (mt γ) h Q) (λ_ _=>False) (λm γ h q=>?_) n m γ h hm i0).mono λo h1 q=>?_
 ·obtain ⟨b,e,q1⟩:=z m γ h q
  exact W_of e q1
 ·cases o with
  | nx γ=>exact q
  | rt d=>exact q.elim
  | bk d=>exact q.elim
  | ct d=>exact q.elim
def z8n (n:Nat) (i v:D):M Unit:=z6M (.ref n) i v
noncomputable def z22 (src:Src) (g:D->G->M G) (k:G->M Bool) (me mv:G->M D) (n0:Nat) (γ:G):List D->M Unit
 | []=>do
  let _ ← src.chk
  pure ()
 | d::r=>do
  let _ ← src.chk
  let γ1 ← g d γ
  let t ← k γ1
  if t then do
   let y ← me γ1
   let v ← mv γ1
   let _ ← z8n n0 y v
   z22 src g k me mv n0 γ r
  else z22 src g k me mv n0 γ r
noncomputable def za6 (cap:List (Option Nat)) (mi:G->M Src) (g:D->G->M G) (k:G->M Bool) (me mv:G->M D):G->M D:=λγ=>do
 let src ← mi γ
 let n0 ← (λh=>.ok h.length (h++[.dK []]):M Nat)
 let _ ← z22 src g k me mv n0 (capG cap γ) src.items
 pure (.ref n0)
section
variable {X:Cx}{EX:XX}{elt val tg iter c:Expr}{ifs:List Expr}{sc:Scope}{pos:Pos}{N':List Str}{cap:List (Option Nat)}{own:List Nat}{mi:G->M Src}{g:D->G->M G}{k kr:G->M Bool}{me mv:G->M D}
theorem zm3 {σ0:L2.St}{ρ0:List Addr}{n0:Nat}{Dd:Addr}(hD:ρ0[n0]?=some Dd):HB X EX own σ0 ρ0 (λγ1 K=>do let y ← me γ1;let v ← mv γ1;let _ ← z8n n0 y v;K) (bPut (tE X.K EX me) (tE X.K EX mv) Dd):=λ{σ γ1 ρ h H P K Z} p0 _ rg rh fin hz=>by
 refine ⟨ρ,γ1,h,⟨rg,rh⟩,(Fin.bind fin).mono λyd ρ5 h5 H5 p5 e5 r5 f5 y ry=>⟨ρ5,γ1,h5,⟨rg.mono p5 e5,r5⟩,(Fin.bind f5).mono λd ρ6 h6 H6 p6 e6 r6 f6 v rv=>?_⟩⟩
 have hq:ρ6[n0]?=some Dd:=((p0.trans p5).trans p6) _ _ hD
 have f7:=Fin.bind f6
 unfold z8n z6M at f7
 dsimp only at f7
 cases ek:keyD yd with
 | none=>rw [ek] at f7;exact f7.elim
 | some kk =>
  rw [ek] at f7
  dsimp only at f7
  have hy:=z9F ek ry
  cases e7:h6[n0]? with
  | none=>rw [e7] at f7;exact f7.elim
  | some ob =>
   cases ob<;>first|(rw [e7] at f7;exact f7.elim)|skip
   rename_i kvs
   rw [e7] at f7
   dsimp only at f7
   split at f7
   ·rename_i hl
    obtain ⟨a1,n1,vs,o1,d1⟩:=r6.at e7
    rw [hq] at n1;cases n1
    have ext2:Ext X.K H6 (upd H6 Dd (.dK (L2.putK vs kk v))):=Ext.upd (.inr (r6.tracked hq e7))
    have r7:RH X.K ρ6 (h6.set n0 (.dK (ptD kvs kk d))) (upd H6 Dd (.dK (L2.putK vs kk v))):=r6.setO e7 hq ⟨_,w6,(d1.put kk rv).mono (Pre.refl _) ext2⟩
    have hl2:=d1.len
    exact ⟨kk,vs,hy,o1,by omega,hz ρ6 _ _ (p5.trans p6) ((e5.trans e6).trans ext2) r7 (f7 ρ6 _ (Pre.refl _) ext2 r7)⟩
   ·exact f7.elim
theorem zk5 (he:∀s H fp xe,SE (X.comp N' sc s H fp xe) EX elt me) (hv:∀s H fp xe,SE (X.comp N' sc s H fp xe) EX val mv):CmA X EX (.DictComp elt val [⟨tg,iter,ifs,0⟩] sc pos) sc tg iter ifs N' cap own mi g k (.dK []) (λn0 γ1 K=>do let y ← me γ1;let v ← mv γ1;let _ ← z8n n0 y v;K) (λsrc n0 γ=>z22 src g k me mv n0 γ) :=
 ⟨⟨_,_,_,_,bPut (tE X.K EX me) (tE X.K EX mv),zz5,λρ H Dd=>⟨[],w6,.nil⟩,λD s H fp xe=>z8P (he s H fp xe).h (hv s H fp xe).h,λ_ hD=>zm3 hD⟩,λ_ _ _=>rfl,λ_ _ _ _ _=>rfl⟩
noncomputable def z6U (i:Nat) (cap:List (Option Nat)) (mi:G->M Src) (g:D->G->M G) (k:G->M Bool) (me mv:G->M D):G->M Out:=sAsg (za6 cap mi g k me mv) (gN i)
theorem zA2 (i:Nat) {y:Str}{py spos:Pos}(hc:X.calm=true) (S:CS X sc N' cap) (hi:SI X EX tg iter mi) (hg:∀s H fp xe,SGk (X.comp N' sc s H fp xe) EX tg own g) (ht:∀s H fp xe,SCs (X.comp N' sc s H fp xe) EX ifs k)
 (he:∀s H fp xe,SE (X.comp N' sc s H fp xe) EX elt me) (hv:∀s H fp xe,SE (X.comp N' sc s H fp xe) EX val mv) (hN:X.N.Nodup) (hy:X.N[i]?=some y:=by rfl) (hl:X.env.scope.names.lookup y=some .local:=by rfl) (hown:∀j∈own,cap[j]?=some none:=by decide)
 (hsw:K1v (.DictComp elt val [⟨tg,iter,ifs,0⟩] sc pos) (some (.Name y py)) spos.line X.env=pure true:=by rfl) (hs:∀x,K11 iter X.env x=pure x:=by intro _;rfl) :
 S1 X EX (.Assign [.Name y py] (.DictComp elt val [⟨tg,iter,ifs,0⟩] sc pos) spos) (z6U i cap mi g k me mv) :=
 s_cm i (zk5 he hv) hc S hi hg ht hown hN hy hl hsw hs
end
end FT
namespace L2
theorem zC9 {k:Key}{u:Value}(h:z1V k u=true):RelV (kV k) u:=by
 rcases j9 h with ⟨i,t,rfl,rfl⟩|⟨x,t,rfl,rfl⟩
 ·exact ⟨t,rfl⟩
 ·exact ⟨t,rfl⟩
theorem KV.get:∀{kvs:List (Key×V)}{vs:List (Key×Value)},KV kvs vs->∀{i:Nat}{k:Key}{x:V},kvs[i]?=some (k,x)->∃u,vs[i]?=some (k,u)
 | _,_,.nil,i,k,x,e=>by simp at e
 | p::_,q::_,.cons a b,0,k,x,e=>by
  have e':p=(k,x):=by simpa using e
  subst e'
  obtain ⟨a1,_⟩:=a
  refine ⟨q.2,?_⟩
  show some q=_
  rw [show k=q.1 from a1]
 | _::_,_::_,.cons a b,i+1,k,x,e=>KV.get b (by simpa using e)
def Itk (a:Addr) (ob:Obj) (n:Nat):It :=
 ⟨λi H=>∃vs k x,H a=some (.frz ob (.dK vs))/\vs.length=n/\vs[i]?=some (k,x),λi H y H'=>H'=H/\∀vs,H a=some (.frz ob (.dK vs))->∃k x,vs[i]?=some (k,x)/\y=kV k,λi H=>i=n/\∃vs,H a=some (.frz ob (.dK vs))/\vs.length=n⟩
theorem zq0 {X:Cx}{pins:List (Addr×Obj)}{σ:St}{H:Hp}{s:Shared}{a:Addr}{ob:Obj}{vs:List (Key×V)}{es:Array DictEntry}{ep:Nat}(I:Inv X pins σ H s) (e:H a=some (.frz ob (.dK vs))) (hob:ob.data=.dict es ep) :
 vs.length≤sizeLine/\∃us,KV vs us/\s.heap.DictAt (J0 X.prog X.w) a us ep:=by
 obtain ⟨go,z,hd,us,rel,o,es',ep',ho,r⟩:=(show ObjOk X.prog X.w H s.heap a (.frz ob (.dK vs)) from I.hok a _ e)
 rw [go] at ho
 cases ho
 obtain ⟨r1,r2,r3⟩:=r
 have:ep'=ep:=by rw [hob] at r2;cases r2;rfl
 subst this
 exact ⟨z,us,rel,ob,es',go,r1,r2,r3⟩
theorem z5K {P:K0n}{w:World}{K:K1}{tg:Expr}(a it:Addr) (ob:Obj) (n ep:Nat) {es:Array DictEntry}(hob:ob.data=.dict es ep):Turn P w K tg (Itk a ob n) [it] it (λi h=>h.IsKeyIter it a i n ep) where
 mem:=by simp
 obj:=λi h st b hb=>by
  have e:b=it:=by simpa using hb
  subst e
  obtain ⟨o,e,c,d⟩:=st
  exact ⟨o,e,λv z=>by rw [d] at z;cases z⟩
 keep:=λi h h' st k=>st.at λo e=>k it (by simp) o e
 item:=by
  intro X hP hw hK hc i pins s σ H E I hf st hg
  subst hP hw hK
  obtain ⟨vs,k,x,hq,hl,hx⟩:=hg
  obtain ⟨z,us,rel,dat⟩:=zq0 I hq hob
  obtain ⟨u,hu⟩:=rel.get hx
  have le:=rel.length
  have st':s.heap.IsKeyIter it a i us.length ep:=by rw [← le,hl];exact st
  obtain ⟨f0,f1,f2,f3,f4,f5⟩:=hf it (by simp)
  refine wpAny_pyNext_dict_item st' dat hu λkey h' hkey hit' sb=>?_
  have I1:Inv X pins σ H { s with heap:=h' }:=I.turned (t':=s.toks) (λb o hb e=>(sb.2 b hb).trans e) f0 f1 f3 f4 f5
  have hit2:h'.IsKeyIter it a (i+1) n ep:=by rw [← hl,le];exact hit'
  obtain ⟨o,e,c,d⟩:=id hit2
  exact ⟨key,rfl,zk7 (s:={ s with heap:=h' }) e c d (by decide) ⟨kV k,H,I1,zC9 hkey,⟨rfl,λys hy=>by rw [hq] at hy;cases hy;exact ⟨k,x,hx,rfl⟩⟩,hit2,λb hb=>(hf b hb).1⟩⟩
 done:=by
  intro X hP hw hK hc i pins s σ H E I hf st hg
  subst hP hw hK
  obtain ⟨hi,vs,hq,hl⟩:=hg
  obtain ⟨z,us,rel,dat⟩:=zq0 I hq hob
  have le:=rel.length
  have st':s.heap.IsKeyIter it a i us.length ep:=by rw [← le,hl];exact st
  obtain ⟨f0,f1,f2,f3,f4,f5⟩:=hf it (by simp)
  exact wpAny_pyNext_dict_end (I.ok.hd hc) st' dat (K0i (by omega)) λh' eb=>⟨rfl,I.turned (t':=s.toks) (λb o hb e=>eb b o hb e) f0 f1 f3 f4 f5⟩
 self:=λ_ _ _ _ _ st h=>wpAny_pyIter_keyiter st h
section
variable {X:Cx}{tg:Expr}
def zH1 (tl:TE):TI:=λσ H R=>tl σ H λx H1=>∃a,x=.ref a/\((∃vs,H1 a=some (.dK vs)/\∀ob,R (Itk a ob vs.length) (upd H1 a (.frz ob (.dK vs))))∨∃ob vs,H1 a=some (.frz ob (.dK vs))/\R (Itk a ob vs.length) H1)
theorem zw0 {l:Expr}{tl:TE}(hl:PE X l tl):PI X tg l (zH1 tl):=by
 intro pins s σ H R I h
 refine thn (hl pins s σ H _ I h) λv s1 ⟨x,H1,I1,r1,q1⟩=>?_
 obtain ⟨a,e,q1⟩:=q1
 subst e
 cases r1
 rcases q1 with ⟨vs,hH,q⟩|⟨ob,vs,hH,q⟩
 ·obtain ⟨z,hd,us,rel,dd⟩:=z8c I1.hok hH
  obtain ⟨ob,es,ep,ho,r1,r2,r3⟩:=id dd
  have dat:s1.heap.DictAt (J0 X.prog X.w) a us ep:=⟨ob,es,ho,r1,r2,r3⟩
  refine wpAny_pyIter_dict hd dat ?_
  have le:=rel.length
  generalize hp:({ cls:=.type "dict_keyiterator",data:=.fields #[.ref a,.int 0 0,.int us.length 0,.int ep 0] }:Obj)=itO
  have I2:Inv X pins σ H1 { s1 with heap:=s1.heap.push itO }:=I1.kept (t':=s1.toks) λb o e=>K6 _ e
  have ho2:(s1.heap.push itO).get? a=some ob:=K6 _ ho
  have I3:Inv X pins σ (upd H1 a (.frz ob (.dK vs))) { s1 with heap:=s1.heap.push itO }:=z3X (s:={ s1 with heap:=s1.heap.push itO }) (h':=s1.heap.push itO) (t':=s1.toks) I2 (by rw [hH];exact K2w) (K6y _ _) ⟨_,ho2⟩ ⟨ho2,z,hd,us,rel,ob,es,ep,ho2,r1,r2,r3⟩
  refine ⟨s1.heap.objs.size,[s1.heap.objs.size],_,_,_,rfl,I3,z5K a _ ob vs.length ep r2,?_,λb hb=>?_,q ob⟩
  ·refine ⟨itO,?_,by rw [← hp],by rw [← hp,le];rfl⟩
   exact K05 _ (by rw [← hp];rfl)
  ·have e:b=s1.heap.objs.size:=by simpa using hb
   subst e
   refine I1.fpOk (K01 _) ?_
   rw [J6 (K1r (K06 ho))]
   exact I1.hok.fresh (K01 _)
 ·obtain ⟨go,z,hd,us,rel,dd⟩:=(show ObjOk X.prog X.w H1 s1.heap a (.frz ob (.dK vs)) from I1.hok a _ hH)
  obtain ⟨ob',es,ep,ho,r1,r2,r3⟩:=id dd
  rw [go] at ho
  cases ho
  have dat:s1.heap.DictAt (J0 X.prog X.w) a us ep:=⟨ob,es,go,r1,r2,r3⟩
  refine wpAny_pyIter_dict hd dat ?_
  have le:=rel.length
  generalize hp:({ cls:=.type "dict_keyiterator",data:=.fields #[.ref a,.int 0 0,.int us.length 0,.int ep 0] }:Obj)=itO
  have I2:Inv X pins σ H1 { s1 with heap:=s1.heap.push itO }:=I1.kept (t':=s1.toks) λb o e=>K6 _ e
  refine ⟨s1.heap.objs.size,[s1.heap.objs.size],_,_,_,rfl,I2,z5K a _ ob vs.length ep r2,?_,λb hb=>?_,q⟩
  ·refine ⟨itO,?_,by rw [← hp],by rw [← hp,le];rfl⟩
   exact K05 _ (by rw [← hp];rfl)
  ·have e:b=s1.heap.objs.size:=by simpa using hb
   subst e
   exact I1.fpOk (K01 _) (I1.hok.fresh (K01 _))
end
end L2
namespace FT
def kD:Key->D
 | .inl i=>.int i
 | .inr x=>.str x
theorem zo0 {K:K1}{ρ:List Addr}{H:Hp}(k:Key):RD K ρ H (kD k) (kV k):=by cases k<;>simp [kD,kV,RD]
def z21 (kvs:List (Key×D)):List D:=kvs.map λkv=>kD kv.1
def iDic (ma:G->M D):G->M Src:=λγ=>do
 let x ← ma γ
 match x with
 | .ref n=>λh=>match h[n]? with
  | some (.dK kvs)=>.ok (.con (z21 kvs)) (h.set n (.dF kvs))
  | some (.dF kvs)=>.ok (.con (z21 kvs)) h
  | _=>.bad
 | _=>bad
theorem RK.get {K:K1}{ρ:List Addr}{H:Hp}:∀{kvs:List (Key×D)}{vs:List (Key×V)},RK K ρ H kvs vs->∀{i:Nat}{d:D},(z21 kvs)[i]?=some d->∃k x,d=kD k/\vs[i]?=some (k,x)
 | _,_,.nil,i,d,e=>by simp [z21] at e
 | p::_,q::_,.cons a b,0,d,e=>by
  have e':kD p.1=d:=by simpa [z21] using e
  subst e'
  exact ⟨q.1,q.2,by rw [a.1],rfl⟩
 | _::_,_::_,.cons a b,i+1,d,e=>RK.get b (by simpa [z21] using e)
theorem z7Q {K:K1}{ρ:List Addr}{H:Hp}{a:Addr}{ob:Obj}{kvs:List (Key×D)}{vs:List (Key×V)}(e:H a=some (.frz ob (.dK vs))) (rk:RK K ρ H kvs vs):JOK K (.con (z21 kvs)) ρ H (Itk a ob vs.length):=λi ρ2 h2 H2 p2 e2 r2 _=>by
 have hq:=e2.d _ _ _ e
 refine ⟨λd hd=>?_,λhi=>?_⟩
 ·obtain ⟨k,x,rfl,g⟩:=RK.get rk hd
  refine ⟨⟨vs,k,x,hq,rfl,g⟩,λy H3 ⟨z1,z2⟩=>?_⟩
  subst z1
  obtain ⟨k',x',g',rfl⟩:=z2 vs hq
  rw [g] at g'
  cases g'
  exact ⟨zo0 k,r2,Ext.refl _ _⟩
 ·refine ⟨?_,vs,hq,rfl⟩
  have:(z21 kvs).length=i:=hi
  unfold z21 at this
  rw [K00,RK.len rk] at this
  exact this.symm
section
variable {X:Cx}{EX:XX}{a tg:Expr}{ma:G->M D}
theorem zn4 (ha:SE X EX a ma):SI X EX tg a (iDic ma) :=
 ⟨PI.imp (zw0 ha.h) λσ H R ⟨ρ,γ,h,rel,fin⟩=>⟨ρ,γ,h,rel,(Fin.bind fin).mono λx ρ1 h1 H1 p1 e1 r1 f1 v rv=>by
  cases x<;>first|exact (show False from f1).elim|skip
  rename_i n
  simp only [RD] at rv
  obtain ⟨q,rfl,hq⟩:=rv
  refine ⟨q,rfl,?_⟩
  dsimp only at f1
  cases e:h1[n]? with
  | none=>rw [e] at f1;exact f1.elim
  | some ob =>
   cases ob with
   | lst xs=>rw [e] at f1;exact f1.elim
   | set xs=>rw [e] at f1;exact f1.elim
   | dct=>rw [e] at f1;exact f1.elim
   | exc c=>rw [e] at f1;exact f1.elim
   | dK kvs =>
    rw [e] at f1
    dsimp only at f1
    obtain ⟨a1,n1,vs,o1,d1⟩:=r1.at e
    rw [hq] at n1;cases n1
    refine .inl ⟨vs,o1,λob=>?_⟩
    have ext:Ext X.K H1 (upd H1 q (.frz ob (.dK vs))):=Ext.upd (.inr ⟨_,o1,trivial⟩)
    have r2:RH X.K ρ1 (h1.set n (.dF kvs)) (upd H1 q (.frz ob (.dK vs))):=r1.setO e hq ⟨ob,vs,w6,d1.mono (Pre.refl _) ext⟩
    exact f1 ρ1 _ (Pre.refl _) ext r2 _ (z7Q w6 (d1.mono (Pre.refl _) ext))
   | dF kvs =>
    rw [e] at f1
    dsimp only at f1
    obtain ⟨a1,n1,ob,vs,o1,d1⟩:=r1.at e
    rw [hq] at n1;cases n1
    exact .inr ⟨ob,vs,o1,f1 ρ1 _ (Pre.refl _) (Ext.refl _ _) r1 _ (z7Q o1 d1)⟩⟩⟩
end
end FT
namespace L2
section
variable {X:Cx}{tg:Expr}
end
end L2
namespace FT
section
variable {X:Cx}{EX:XX}{a tg:Expr}{p pos:Pos}{ma:G->M D}
end
section
variable {P:K0n}{w:World}{A:Around}{E:Value->Shared->Prop}{s:Shared}
end
section
variable {X:Cx}{EX:XX}{p pos:Pos}
end
section
variable {st:List (List Nat)}{x y z:Nat}
end
structure KS where
 seen:List Nat
 ord:List Nat
 wt:List (Nat×Bool)
section
variable {st:List (List Nat)}{V:List Nat}{s:KS}
end
section
variable {st:List (List Nat)}{V:List Nat}{s:KS}
end
section
variable {s1 s2:List (List Nat)}{V:List Nat}
end
section
variable {st:List (List Nat)}{V:List Nat}{s:KS}
end
section
variable {cap:List (Option Nat)}{mi:G->M Src}{g:D->G->M G}{kb:G->M Bool}{me mv:G->M D}{γ:G}
end
theorem sm0 {h:AH}{o o':O}{j:AH}:(h++o::j).set h.length o'=h++o'::j:=by rw [K4e _ _ (K01 _),Nat.sub_self];rfl
noncomputable def z2J (src:Src) (g:D->G->M G) (mi:G->M Src) (g1:D->G->M G) (k:G->M Bool) (me mv:G->M D) (n0:Nat) (γ:G):List D->M Unit
 | []=>do
  let _ ← src.chk
  pure ()
 | d::r=>do
  let _ ← src.chk
  let γ1 ← g d γ
  let s1 ← mi γ1
  let _ ← z22 s1 g1 k me mv n0 γ1 s1.items
  z2J src g mi g1 k me mv n0 γ r
noncomputable def z5j (cap:List (Option Nat)) (mi:G->M Src) (g:D->G->M G) (mi1:G->M Src) (g1:D->G->M G) (k:G->M Bool) (me mv:G->M D):G->M D:=λγ=>do
 let src ← mi γ
 let n0 ← (λh=>.ok h.length (h++[.dK []]):M Nat)
 let _ ← z2J src g mi1 g1 k me mv n0 (capG cap γ) src.items
 pure (.ref n0)
section
variable {X:Cx}{EX:XX}{elt val tg iter tg1 iter1:Expr}{ifs1:List Expr}{sc:Scope}{pos:Pos}{N':List Str}{cap:List (Option Nat)}{own own1:List Nat}{mi mi1:G->M Src}{g g1:D->G->M G}{k:G->M Bool}{me mv:G->M D}
theorem z9X (hc:X.calm=true) (hi1:∀s H fp xe,SI (X.comp N' sc s H fp xe) EX tg1 iter1 mi1) (hg1:∀s H fp xe,SGk (X.comp N' sc s H fp xe) EX tg1 own1 g1) (ht:∀s H fp xe,SCs (X.comp N' sc s H fp xe) EX ifs1 k)
 (he:∀s H fp xe,SE (X.comp N' sc s H fp xe) EX elt me) (hv:∀s H fp xe,SE (X.comp N' sc s H fp xe) EX val mv) (hown1:∀j∈own1,cap[j]?=some none/\j∉own) (hs1:∀env x,K11 iter1 env x=pure x) :
 CmA X EX (.DictComp elt val [⟨tg,iter,[],0⟩,⟨tg1,iter1,ifs1,0⟩] sc pos) sc tg iter [] N' cap own mi g (λ_=>pure true) (.dK []) (λn0 γ1 K=>do let s1 ← mi1 γ1;let _ ← z22 s1 g1 k me mv n0 γ1 s1.items;K) (λsrc n0 γ=>z2J src g mi1 g1 k me mv n0 γ) :=
 ⟨⟨_,_,_,_,λD=>bIn (tI X.K EX mi1) (tGk X.K EX own1 g1) (tT X.K EX k) (bPut (tE X.K EX me) (tE X.K EX mv) D),zf8,λρ H Dd=>⟨[],w6,.nil⟩,
  λD s H fp xe=>zo3 (.inr ⟨_,_,_,_,_,rfl⟩) rfl (λ_=>rfl) hc (hi1 s H fp xe).h (λxe'=>(hg1 s H fp xe').h) (λxe'=>(ht s H fp xe').h) (λxe'=>z8P (he s H fp xe').h (hv s H fp xe').h) (hs1 _),
  λnon hD=>zN9 (F1:=λs1 γ1=>z22 s1 g1 k me mv _ γ1) (λ_ _=>rfl) (λ_ _ _ _=>rfl) (λj hj=>⟨(hown1 j hj).2,non j (hown1 j hj).1⟩) λp=>zm3 (p _ _ hD)⟩,λ_ _ _=>rfl,λ_ _ _ _ _=>rfl⟩
theorem z8S (hc:X.calm=true) (S:CS X sc N' cap) (hi:SI X EX tg iter mi) (hg:∀s H fp xe,SGk (X.comp N' sc s H fp xe) EX tg own g) (hi1:∀s H fp xe,SI (X.comp N' sc s H fp xe) EX tg1 iter1 mi1) (hg1:∀s H fp xe,SGk (X.comp N' sc s H fp xe) EX tg1 own1 g1) (ht:∀s H fp xe,SCs (X.comp N' sc s H fp xe) EX ifs1 k)
 (he:∀s H fp xe,SE (X.comp N' sc s H fp xe) EX elt me) (hv:∀s H fp xe,SE (X.comp N' sc s H fp xe) EX val mv) (hown:∀j∈own,cap[j]?=some none:=by decide) (hown1:∀j∈own1,cap[j]?=some none/\j∉own:=by decide) (hs:∀x,K11 iter X.env x=pure x:=by intro _;rfl) (hs1:∀env x,K11 iter1 env x=pure x:=by intro _ _;rfl) :
 SE X EX (.DictComp elt val [⟨tg,iter,[],0⟩,⟨tg1,iter1,ifs1,0⟩] sc pos) (z5j cap mi g mi1 g1 k me mv) :=
 zN6 (z9X hc hi1 hg1 ht he hv hown1 hs1) hc S hi hg (λ_ _ _ _=>Y8) hown hs
end
end FT
namespace L2
theorem z2g:∀{vs:List (Key×V)}{us:List (Key×Value)},KV vs us->∀{l:List Value},l.length=us.length->(∀(j:Nat) v,l[j]?=some v->∃k x,us[j]?=some (k,x)/\z1V k v=true)->Vals (vs.map λkv=>kV kv.1) l
 | [],_,.nil,l,hl,h=>by
  cases l with
  | nil=>exact .nil
  | cons a l=>simp at hl
 | p::vs,q::us,.cons a b,l,hl,h=>by
  cases l with
  | nil=>simp at hl
  | cons v l =>
   obtain ⟨k,x,e1,e2⟩:=h 0 v rfl
   have e1':q=(k,x):=by simpa using e1
   subst e1'
   refine .cons ?_ (z2g b (by simpa using hl) λj v hv=>by simpa using h (j+1) v (by simpa using hv))
   have a1:p.1=k:=a.1
   show RelV (kV p.1) v
   rw [a1]
   exact zC9 e2
section
variable {X:Cx}
end
end L2
namespace FT
def z47 (n:Nat):M (List (Key×D)):=λh=>match h[n]? with
 | some (.dK kvs)=>.ok kvs h
 | some (.dF kvs)=>.ok kvs h
 | _=>.bad
theorem z6r {K:K1}{EX:XX}{ρ:List Addr}{h:AH}{H:Hp}{n:Nat}{q:Addr}{Z:List (Key×D)->List Addr->AH->Hp->Prop}(r:RH K ρ h H) (hq:ρ[n]?=some q) (f:Fin K EX ρ H Z (z47 n h)) :
 ∃kvs vs,(H q=some (.dK vs)∨∃ob,H q=some (.frz ob (.dK vs)))/\RK K ρ H kvs vs/\Z kvs ρ h H:=by
 unfold z47 at f
 cases e:h[n]? with
 | none=>rw [e] at f;exact f.elim
 | some ob =>
  cases ob with
  | lst xs=>rw [e] at f;exact f.elim
  | set xs=>rw [e] at f;exact f.elim
  | dct=>rw [e] at f;exact f.elim
  | exc c=>rw [e] at f;exact f.elim
  | dK kvs =>
   rw [e] at f
   obtain ⟨a1,n1,vs,o1,d1⟩:=r.at e
   rw [hq] at n1;cases n1
   exact ⟨kvs,vs,.inl o1,d1,f ρ H (Pre.refl _) (Ext.refl _ _) r⟩
  | dF kvs =>
   rw [e] at f
   obtain ⟨a1,n1,ob,vs,o1,d1⟩:=r.at e
   rw [hq] at n1;cases n1
   exact ⟨kvs,vs,.inr ⟨ob,o1⟩,d1,f ρ H (Pre.refl _) (Ext.refl _ _) r⟩
theorem z4e {K:K1}{ρ:List Addr}{H:Hp}:∀{kvs:List (Key×D)}{vs:List (Key×V)},RK K ρ H kvs vs->RDs K ρ H (z21 kvs) (vs.map λkv=>kV kv.1)
 | _,_,.nil=>RDs.nil
 | p::_,q::_,.cons a b=>by
  refine RDs.cons ?_ (z4e b)
  have a1:p.1=q.1:=a.1
  show RD K ρ H (kD p.1) (kV q.1)
  rw [a1]
  exact zo0 q.1
section
variable {X:Cx}{EX:XX}{a:Expr}{mr:G->M (List D)}{p pos:Pos}
end
section
variable {X:Cx}{EX:XX}{a o:Expr}{p pos cpos apos:Pos}{ma mo:G->M D}{mr:G->M (List D)}
end
section
variable {α:Type}{us:List α}
theorem ar1 (hl:us.length=1):∃a,us=[a]:=match us,hl with|[a],_=>⟨a,rfl⟩
theorem ar2 (hl:us.length=2):∃a b,us=[a,b]:=match us,hl with|[a,b],_=>⟨a,b,rfl⟩
theorem ar3 (hl:us.length=3):∃a b c,us=[a,b,c]:=match us,hl with|[a,b,c],_=>⟨a,b,c,rfl⟩
theorem ar4 (hl:us.length=4):∃a b c d,us=[a,b,c,d]:=match us,hl with|[a,b,c,d],_=>⟨a,b,c,d,rfl⟩
end
def putO (n:Nat) (k v:D):M D:=match keyD k with
 | some kk=>λh=>match h[n]? with
  | some (.dK [])=>.ok (.ref n) (h.set n (.dK [(kk,v)]))
  | _=>.bad
 | none=>bad
noncomputable def z7z (mk mv:G->M D):G->M D:=λγ=>do
 let n ← (λh=>.ok h.length (h++[.dK []]):M Nat)
 let k ← mk γ
 let v ← mv γ
 putO n k v
section
variable {X:Cx}{EX:XX}{k v:Expr}{pos:Pos}{mk mv:G->M D}
theorem ze7 (hk:SE X EX k mk) (hv:SE X EX v mv):SE X EX (.Dict [some k] [v] pos) (z7z mk mv) :=
 ⟨PE.imp (zz4 (zk1 hk.h hv.h zr6) rfl rfl (by simp) (by simp)) λσ H Q ⟨ρ,γ,h,rel,fin⟩ p hp=>by
  have rP:RH X.K (ρ++[p]) (h++[.dK []]) (upd H p (.dK [])):=rel.h.pushO hp ⟨[],w6,.nil⟩
  have eP:Ext X.K H (upd H p (.dK [])):=Ext.upd (.inl hp)
  have at0:(ρ++[p])[h.length]?=some p:=by rw [← rel.h.len];simp
  have f1:=Fin.bind fin
  have f2:=f1 (ρ++[p]) _ (Pre.app _ _) eP rP
  refine ⟨ρ++[p],γ,h++[.dK []],⟨rel.g.mono (Pre.app _ _) eP,rP⟩,(Fin.bind f2).mono λkd ρ1 h1 H1 p1 e1 r1 f3 kv rk=>⟨ρ1,γ,h1,⟨(rel.g.mono (Pre.app _ _) eP).mono p1 e1,r1⟩,(Fin.bind f3).mono λvd ρ2 h2 H2 p2 e2 r2 f4 vv rv=>?_⟩⟩
  have hq:ρ2[h.length]?=some p:=(p1.trans p2) _ _ at0
  unfold putO at f4
  cases ek:keyD kd with
  | none=>rw [ek] at f4;exact f4.elim
  | some kk =>
   rw [ek] at f4
   dsimp only at f4
   cases e7:h2[h.length]? with
   | none=>rw [e7] at f4;exact f4.elim
   | some ob =>
    cases ob with
    | set ks=>rw [e7] at f4;exact f4.elim
    | dct=>rw [e7] at f4;exact f4.elim
    | lst xs=>rw [e7] at f4;exact f4.elim
    | exc c=>rw [e7] at f4;exact f4.elim
    | dF c=>rw [e7] at f4;exact f4.elim
    | dK kvs =>
     cases kvs with
     | cons a b=>rw [e7] at f4;exact f4.elim
     | nil =>
      rw [e7] at f4
      dsimp only at f4
      obtain ⟨a1,n1,vs,o1,d1⟩:=r2.at e7
      rw [hq] at n1;cases n1
      cases d1
      have hy:=z9F ek rk
      refine ⟨o1,[(kk,vv)],by rw [hy];rfl,by simp,?_⟩
      have ext2:Ext X.K H2 (upd H2 p (.dK [(kk,vv)])):=Ext.upd (.inr (r2.tracked hq e7))
      have r7:RH X.K ρ2 (h2.set h.length (.dK [(kk,vd)])) (upd H2 p (.dK [(kk,vv)])):=r2.setO e7 hq ⟨_,w6,.cons ⟨rfl,rv.mono (Pre.refl _) ext2⟩ .nil⟩
      exact f4 ρ2 _ (Pre.refl _) ext2 r7 (.ref p) (by simp only [RD];exact ⟨p,rfl,hq⟩)⟩
end
section
variable {prog:K0n}{w:World}{h₀:Heap}
end
section
variable {X:Cx}{pins:List (Addr×Obj)}{σ:L2.St}{H:Hp}{s:Shared}{ρ:List Addr}{h:AH}
end
section
variable {X:Cx}{EX:XX}{a:Expr}{p pos:Pos}{mr:G->M (List D)}
end
def Ths (P:Nat->D->Prop):Nat->List D->Prop
 | _,[]=>True
 | n,x::xs=>∃a b,P a x/\Ths P b xs/\a+b+2≤n
def Th (r:AH) (B:Nat):Nat->Nat->D->Prop
 | 0,_,_=>False
 | _+1,n,.non=>4≤n
 | _+1,n,.bl _=>5≤n
 | _+1,n,.int i=>i.natAbs≤B/\40≤n
 | _+1,n,.str x=>(reprText x).length≤n/\x.length≤1000
 | m+1,n,.tup xs=>∃a,Ths (Th r B m) a xs/\a+4≤n
 | _+1,_,.fl _=>False
 | m+1,n,.ref i=>∃j,i=j+3/\((∃xs a,r[j]?=.(l xs)/\Ths (Th r B m) a xs/\a+4≤n)∨(r[j]?=some (.dK [])∨r[j]?=some (.dK [(.inr "a",.int 1)])/\1≤m)/\40≤n)
section
variable {P P':Nat->D->Prop}{n m:Nat}{xs ys:List D}{d:D}
end
section
variable {X:Cx}{EX:XX}{mr:G->M (List D)}
theorem z6d (hc:X.calm=true):z2z X (.builtin "max") (λxs H Q=>∃a b:Int,xs=[.int a,.int b]/\Q (.int (if b > a then b else a)) H):=by
 intro pins s σ H xs us Q I rv h
 obtain ⟨a,b,rfl,q⟩:=h
 obtain ⟨u,w',rfl,ru,rw'⟩:=vals2 rv
 obtain ⟨t,rfl⟩:=ru
 obtain ⟨t',rfl⟩:=rw'
 refine max_two_ints (I.ok.hd hc) λh' tk hk=>?_
 refine ⟨.int (if b > a then b else a),H,I.kept (t':=tk) λc o e=>hk c o e,?_,q⟩
 split
 ·exact ⟨t',rfl⟩
 ·exact ⟨t,rfl⟩
def zb3:List D->M D
 | [.int a,.int b]=>pure (.int (max a b))
 | _=>bad
theorem zA3:AR X.K EX (λxs H Q=>∃a b:Int,xs=[.int a,.int b]/\Q (.int (if b > a then b else a)) H) zb3:=by
 intro ρ h H ds vs Q r rd fin
 unfold zb3 at fin
 split at fin
 ·rename_i a b
  obtain ⟨v,u,rfl,rv,ru⟩:=rds2 rd
  simp only [RD] at rv ru
  subst rv;subst ru
  refine ⟨a,b,rfl,FE.here fin r ?_⟩
  simp only [RD]
  congr 1
  omega
 ·exact fin.elim
theorem zB6 {a b:Expr}{p pos:_}(hc:X.calm=true) (hg:Gl X "max") (hm:X.mg "max" = none) (ha:SA X EX [a,b] mr) (he:K0b [a,b] X.env=(false,eval a X.env)::K0b [b] X.env:=by rfl) (hb:K0b [b] X.env=[(false,eval b X.env)]:=by rfl):SE X EX (.Call (.Name "max" p) [a,b] [] pos) (Z6 zb3 mr) :=
 z1y (z1v (z6d hc) hg hm (by decide +kernel) ha.h (by decide) (by decide) he (by rw [hb];rfl)) zA3
end
theorem ss_h {me:G->M D}{γ:G}{h h1:AH}{i:Nat}{l:List Nat}(e:me γ h=.ok (.ref i) h1) (g:h1[i]?=.(l (stD l))) (hl:l.length≤2000) (hd:(setN l).length<64):Z6 x8 (z8 (Z6 z1h (z8 me aNil)) aNil) γ h=.ok (.ref (h1.length+1)) (h1++[.set (kN (dedN l)),.lst (stD (setN l))]):=by
 have dl:(dedN l).length=(setN l).length:=by unfold setN;rw [v5]
 refine y4 (y4 e (zs5 (l:=l) (by unfold seqD getL;dsimp only;rw [g]) hl)) ?_
 rw [zb5 J2 (by omega),K02]
 simp [setN]
section
variable {n i:Nat}{mf:List D->M D}{mr:G->M (List D)}{okf:Str->Bool}{ms mt:G->M Out}{γ:G}{h h1 h2:AH}{xs:List D}{Q:Out->AH->Prop}
end
theorem zA9 {k:G->M Bool}{ms mr mt:G->M Out}{γ:G}{h h1:AH}{Q:Out->AH->Prop}(b:Bool) (e:k γ h=.ok b h1) (z:W (z9 (if b=true then ms else mr) mt γ) h1 Q):W (z9 (sIf k ms mr) mt γ) h Q :=
 zQ3 (W_of e z)
section
variable {prog:K0n}{w:World}{A:Around}{E:Value->Shared->Prop}{s:Shared}
open PySem.W in
theorem z7K {T:String}{r d:Addr}{n:Nat}{P:Nat->Value->Prop}{OK:Heap->Prop}{R:List Value->Shared->Prop}(K:KdlSrc prog w T r d n P OK) (hh:A.handled=none) (ok:OK s.heap) (hn:n≤sizeLine)
 (z:∀(g:Heap) (tk:Nat) (acc:Array Value),(∀b o,s.heap.get? b=some o->g.get? b=some o)->s.heap.objs.size≤g.objs.size->K76 P acc n->R acc.toList { s with heap:=g,toks:=tk }) :
 wpAny (model prog w) A (K9l (.ref r)) R E s:=by
 obtain ⟨t1,t2⟩:=K.there _ ok
 obtain ⟨S,hS⟩:∃S,S=s.heap.objs.size:=⟨_,rfl⟩
 unfold K9l
 refine K2 (K5n (K24 entry_proto_collect' ?_))
 rw [K1j K6c _]
 show wpAny _ A.in1 (K9k [] >>= λl=>again (.builtin "list.__iadd__" ⟨[l,.ref r],[]⟩)) _ _ s
 refine K2 (K1i (K9 ⟨K4u K2j _,K24 entry_list_iadd' ?_⟩))
 rw [K1j K2j _]
 obtain ⟨o0,h0⟩:∃o0:Obj,o0={ cls:=.type "list",data:=.seq ([]:List Value).toArray }:=⟨_,rfl⟩
 rw [← h0]
 have at0:(s.heap.push o0).get? S=some { cls:=.type "list",data:=.seq #[] }:=by rw [hS,h0];exact K05 _ rfl
 rw [← hS]
 show wpAny _ A.in1 (K31 (.ref S) (.ref r) (.ref S)) _ _ _
 have old:∀{b:Addr} {o:Obj},s.heap.get? b=some o->b≠S:=λe=>by rw [hS];exact K0p (K06 e)
 have key:=kdl_extend (A:=A) (s:={ s with heap:=s.heap.push o0 })
  (R:=λ(q:Result) (s':Shared)=>∃(g:Heap) (tk:Nat) (acc:Array Value) (c:Nat),q=.ok (.ret (.ref S))/\s'={ s with heap:=g,toks:=tk }/\(∀b o,s.heap.get? b=some o->g.get? b=some o)/\g.get? S=some { cls:=.type "list",dict:=none,data:=.seq acc c,slots:=#[] }/\K76 P acc n)
  K hh (K.keep _ _ ok λb _ o e=>K6 _ e) S (by rw [hS];exact K1r t1) (by rw [hS];exact K1r t2) (.ref S) 0 at0
  (λg tk acc c kp at1 it=>⟨g,tk,acc,c,rfl,rfl,λb o e=>kp b o (old e) (K6 _ e),at1,it⟩) hn
 have fin:∀(q:Result) (s2:Shared) (h:∃(g:Heap) (tk:Nat) (acc:Array Value) (c:Nat),q=.ok (.ret (.ref S))/\s2={ s with heap:=g,toks:=tk }/\(∀b o,s.heap.get? b=some o->g.get? b=some o)/\g.get? S=some { cls:=.type "list",dict:=none,data:=.seq acc c,slots:=#[] }/\K76 P acc n),q=.ok (.ret (.ref S)):=λq s2 ⟨_,_,_,_,e,_⟩=>e
 refine K3p key (λf s2 x=>?_) λe s2 x=>?_
 ·cases f with
  | done f =>
   obtain ⟨g,tk,acc,c,e,rfl,kp,at1,it⟩:=x
   cases e
   show wpAny _ A (load S >>= _) _ _ _
   refine K2 (K7y at1 (K9 (z g tk acc kp ?_ it)))
   rw [← hS]
   exact K23 (K06 at1)
  | again c₁ =>
   refine ⟨x.1,K42 x.2 λq s3 y=>?_⟩
   obtain ⟨g,tk,acc,c,rfl,rfl,kp,at1,it⟩:=y
   show wpAny _ A (load S >>= _) _ _ _
   refine K2 (K7y at1 (K9 (z g tk acc kp ?_ it)))
   rw [← hS]
   exact K23 (K06 at1)
 ·obtain ⟨_,_,_,_,e',_⟩:=x
  cases e'
end
section
variable {X:Cx}{EX:XX}{mr:G->M (List D)}
theorem z6p (hc:X.calm=true):z2z X (.builtin "sorted") (λxs H Q=>∃a vs ns,xs=[.ref a]/\(H a=some (.dK vs)∨∃ob,H a=some (.frz ob (.dK vs)))/\vs.map (λkv=>kV kv.1)=ns.map V.int/\ns.length<64/\∀q,H q=none->Q (.ref q) (upd H q (.lst ((sortI ns).map V.int)))):=by
 intro pins s σ H xs us Q I r h
 obtain ⟨a,vs,ns,rfl,hq,hk,h64,q⟩:=h
 obtain ⟨u,rfl,ru⟩:=vals1 r
 cases ru
 have vl:vs.length=ns.length:=by have:=congrArg Z09 hk;simpa using this
 have go:∀{us:List (Key×Value)} {ep:Nat},KV vs us->(a==K36)=false->s.heap.DictAt (J0 X.prog X.w) a us ep->wpAny (model X.prog X.w) X.A (call (.builtin "sorted") [.ref a]) (EP X pins σ Q) X.xe s:=λ{us ep} rel hd dat=>by
  have le:=rel.length
  refine K6s kind_sorted plain_sorted entry_sorted (args_sorted1 _) ?_
  unfold Builtin.«sorted»
  refine K2 (m:=checkCount "sorted" 1 1 _) (K9 ?_)
  refine K2 (z7K (K9z hd) (by simp [I.ok.hd hc]) dat (by rw [← le,vl];exact K23 (K0l h64 (by decide))) λh' tk acc kp sz it=>?_)
  have al:acc.toList.length=ns.length:=by rw [K17,← vl,le];exact it.1
  have rv:Vals (ns.map V.int) acc.toList:=by
   rw [← hk]
   exact z2g rel (by rw [K17];exact it.1) λj v hv=>it.2 j v (by simpa using hv)
  have ia:=intsAre_of rv
  refine K2 (wpAny_newList ?_ (by rw [al];exact K23 (K0l h64 (by decide))))
  have gL:(h'.push (seqObj "list" acc.toList.toArray 0)).get? h'.objs.size=some (seqObj "list" acc.toList.toArray 0):=K05 _ rfl
  refine K2 (K21 (K28 slot_list_sort ⟨_,gL,rfl⟩ entry_list_sort (list_sort_tree gL ia (by rw [al];exact h64) λout ns' a1 a2 a3=>⟨_,rfl,?_⟩) (args_list_sort _)))
  refine K9 ⟨_,rfl,?_⟩
  obtain ⟨e,ge⟩:=sortedHeap_at (out:=out) gL
  have es':ns'=sortI ns:=z58 a2 a3
  subst es'
  have un:∀b ob,s.heap.get? b=some ob->(sortedHeap (h'.push (seqObj "list" acc.toList.toArray 0)) h'.objs.size acc.toList out).get? b=some ob:=λb ob eb=>by
   have lt:=K06 (kp b ob eb)
   rw [sortedHeap_old (K0p lt) (by rw [K1l];exact K2u lt)]
   exact K6 _ (kp b ob eb)
  have ho:=I.hok.laid (a:=h'.objs.size) (o:=.lst ((sortI ns).map V.int)) un sz ⟨by rw [K00,(sortI_perm ns).length_eq];exact K23 (K0l h64 (by decide)),out.toList,e,z5q a1,ge⟩
  exact ⟨.ref h'.objs.size,_,I.call' (s':={ s with heap:=_,toks:=tk }) (ch:=[]) rfl (Un.laid un sz (I.hok.fresh sz)) ho I.bare (λb z=>absurd z (by simp)),rfl,q _ (I.hok.fresh sz)⟩
 rcases hq with hq|⟨ob,hq⟩
 ·obtain ⟨z,hd,us,rel,dd⟩:=z8c I.hok hq
  obtain ⟨ob,es,ep,ho,r1,r2,r3⟩:=id dd
  exact go rel hd ⟨ob,es,ho,r1,r2,r3⟩
 ·obtain ⟨go',z,hd,us,rel,dd⟩:=(show ObjOk X.prog X.w H s.heap a (.frz ob (.dK vs)) from I.hok a _ hq)
  obtain ⟨ob',es,ep,ho,r1,r2,r3⟩:=id dd
  exact go rel hd ⟨ob',es,ho,r1,r2,r3⟩
def z0z:List D->M D
 | [.ref n]=>do
  let kvs ← z47 n
  match z2x (z21 kvs) with
  | some ns=>if ns.length<64 then newL ((sortI ns).map .int) else bad
  | none=>bad
 | _=>bad
theorem z89:AR X.K EX (λxs H Q=>∃a vs ns,xs=[.ref a]/\(H a=some (.dK vs)∨∃ob,H a=some (.frz ob (.dK vs)))/\vs.map (λkv=>kV kv.1)=ns.map V.int/\ns.length<64/\∀q,H q=none->Q (.ref q) (upd H q (.lst ((sortI ns).map V.int)))) z0z:=by
 intro ρ h H ds vs Q r rd fin
 unfold z0z at fin
 split at fin
 ·rename_i n
  obtain ⟨v,rfl,rv⟩:=rds1 rd
  simp only [RD] at rv
  obtain ⟨q,rfl,hq⟩:=rv
  have f2:=Fin.bind fin
  obtain ⟨kvs,vs,w1,rk,f3⟩:=z6r r hq f2
  cases e:z2x (z21 kvs) with
  | none=>rw [e] at f3;exact f3.elim
  | some ns =>
   rw [e] at f3
   dsimp only at f3
   split at f3
   ·rename_i l64
    have rr:=z3M e (z4e rk)
    refine ⟨q,vs,ns,rfl,w1,rr,l64,λq' hq'=>?_⟩
    unfold newL at f3
    split at f3
    ·exact FE.lst f3 r (z3J _) hq'
    ·exact f3.elim
   ·exact f3.elim
 ·exact fin.elim
theorem z4v {a:Expr}{p pos:Pos}(hc:X.calm=true) (hg:Gl X "sorted") (hm:X.mg "sorted" = none) (ha:SA X EX [a] mr) (he:K0b [a] X.env=[(false,eval a X.env)]:=by rfl):SE X EX (.Call (.Name "sorted" p) [a] [] pos) (Z6 z0z mr) :=
 z1y (z1v (z6p hc) hg hm (by decide +kernel) ha.h (by decide) (by decide) he rfl) z89
def zL1 (te:TE) (tr:TA):TA:=λσ H Q=>te σ H λx H1=>∃a vs,x=.ref a/\(H1 a=some (.dK vs)∨∃ob,H1 a=some (.frz ob (.dK vs)))/\tr σ H1 λys H2=>Q (vs.map (λkv=>kV kv.1)++ys) H2
theorem ze8 {e:Expr}{es:List Expr}{te:TE}{t:TA}{p:Pos}(hc:X.calm=true) (ha:PE X e te) (hr:PA X es t):PA X (.Starred e p::es) (zL1 te t):=by
 intro pos pins s σ H Q I h
 rw [K8u]
 show wpAny _ _ (spliced ((true,do let v ← eval e X.env;K4f pos;pure v)::backTo pos (K0b es X.env))) _ _ s
 refine K96 (thn (ha pins s σ H _ I h) λu s1 ⟨x,H1,I1,r1,q1⟩=>?_)
 obtain ⟨a,vs,rfl,hq,q⟩:=q1
 cases r1
 obtain ⟨us,ep,rel,z,hd,dat⟩:∃us ep,KV vs us/\vs.length≤sizeLine/\(a==K36)=false/\s1.heap.DictAt (J0 X.prog X.w) a us ep:=by
  rcases hq with hq|⟨ob,hq⟩
  ·obtain ⟨z,hd,us,rel,dd⟩:=z8c I1.hok hq
   obtain ⟨ob,es,ep,ho,r1,r2,r3⟩:=id dd
   exact ⟨us,ep,rel,z,hd,ob,es,ho,r1,r2,r3⟩
  ·obtain ⟨go',z,hd,us,rel,dd⟩:=(show ObjOk X.prog X.w H1 s1.heap a (.frz ob (.dK vs)) from I1.hok a _ hq)
   obtain ⟨ob',es,ep,ho,r1,r2,r3⟩:=id dd
   exact ⟨us,ep,rel,z,hd,ob',es,ho,r1,r2,r3⟩
 have le:=rel.length
 refine z5o dat.dictOf.typeIs PySem.F.slot_dict_iter ⟨rfl,z7K (K9z hd) (I1.ok.hd hc) dat (by rw [← le];exact z) λh' tk acc kp sz it=>?_⟩
 have I2:Inv X pins σ H1 { s1 with heap:=h',toks:=tk }:=I1.kept (t':=tk) kp
 have rv:Vals (vs.map λkv=>kV kv.1) acc.toList:=z2g rel (by rw [K17];exact it.1) λj v hv=>it.2 j v (by simpa using hv)
 exact thn (hr pos pins _ σ H1 _ I2 q) λus s3 ⟨ys,H3,I3,r3,q3⟩=>⟨_,H3,I3,rv.append r3,q3⟩
def z4w (ma:G->M D) (mr:G->M (List D)):G->M (List D):=λγ=>do
 let x ← ma γ
 match x with
 | .ref n=>do
  let kvs ← z47 n
  let r ← mr γ
  pure (z21 kvs++r)
 | _=>bad
theorem zd1 {e:Expr}{es:List Expr}{p:Pos}{ma:G->M D}(hc:X.calm=true) (ha:SE X EX e ma) (hr:SA X EX es mr):SA X EX (.Starred e p::es) (z4w ma mr) :=
 ⟨PA.imp (ze8 hc ha.h hr.h) λσ H Q ⟨ρ,γ,h,rel,fin⟩=>⟨ρ,γ,h,rel,(Fin.bind fin).mono λx ρ1 h1 H1 p1 e1 r1 f1 v rv=>by
  cases x<;>first|exact (show False from f1).elim|skip
  rename_i n
  simp only [RD] at rv
  obtain ⟨q,rfl,hq⟩:=rv
  obtain ⟨kvs,vs,w1,rk,f2⟩:=z6r r1 hq (Fin.bind f1)
  exact ⟨q,vs,rfl,w1,ρ1,γ,h1,⟨rel.g.mono p1 e1,r1⟩,(Fin.bind f2).mono λds ρ2 h4 H2 p2 e2 r2 f3 ws rws =>
   f3 ρ2 H2 (Pre.refl _) (Ext.refl _ _) r2 _ (((z4e rk).mono p2 e2).append rws)⟩⟩⟩
end
theorem z8h (t:Addr) (items:Array Value) :
 Meets (Builtin.«enumerate.__new__» ⟨[.type "enumerate",.ref t],[]⟩) (λ_ R s=>s.heap.IsList t items /\
  R (.ok (.ret (.ref (s.heap.push { cls:=.type "list_iterator",data:=.fields #[.ref t,.int 0 0] }).objs.size)))
   { s with heap:=(s.heap.push { cls:=.type "list_iterator",data:=.fields #[.ref t,.int 0 0] }).push { cls:=.type "enumerate",data:=.fields #[.none,.bool false,.ref s.heap.objs.size,rawInt 0,.none,.none] } }) :=
 .of_wp λprog w A R s h=>by
  obtain ⟨hp,g,d,tk,os⟩:=s
  obtain ⟨q1,h⟩:=h
  have hsub:=sub_enumerate
  have L1:Heap.IsList (Shared.heap ⟨hp,g,d,tk,os⟩) t items:=q1
  wp_walk
  refine wpAny_stack_any λst=>K9 ?_
  split
  ·rename_i c _ _ _ _ _
   cases (c==K3n "enumerate")
   ·wp_walk using K2v L1
    exact ⟨_,rfl,h⟩
   ·wp_walk using K2v L1
    exact ⟨_,rfl,h⟩
  ·wp_walk using K2v L1
   exact ⟨_,rfl,h⟩
def ItL (K:K1) (t:Addr):It :=
 ⟨λi H=>∃xs x,SqL K H t xs/\xs[i]?=some x,
  λi H v H'=>∃T x,H T=none/\v=.ref T/\(∀xs,SqL K H t xs->xs[i]?=some x)/\H'=upd H T (.tup [.int i,x]),
  λi H=>∃xs,SqL K H t xs/\xs.length=i⟩
theorem z8g {P:K0n}{w:World}{K:K1}{elts:List Expr}{kk:Nat}{pos:Pos}{e it t:Addr}(d1:e≠it) (d2:t≠it) (d3:e≠t) :
 Turn P w K (.Tuple elts kk pos) (ItL K t) [e,it] e (λi h=>(∃old,IsEnum h e it i old)/\h.IsListIter it t i) where
 mem:=by simp
 obj:=λi h st b hb=>by
  obtain ⟨⟨old,ee⟩,o,ei,_,di⟩:=st
  simp at hb
  rcases hb with rfl|rfl
  ·exact ⟨_,ee,λv q=>by cases q⟩
  ·exact ⟨_,ei,λv q=>by rw [di] at q;cases q⟩
 keep:=λi h h' st k=>by
  obtain ⟨⟨old,ee⟩,g⟩:=st
  exact ⟨⟨old,k e (by simp) _ ee⟩,g.at λo q=>k it (by simp) o q⟩
 item:=by
  intro X hP hw hK hc i pins s σ H E I hf st hg
  subst hP hw hK
  obtain ⟨xs,x,q1,hx⟩:=hg
  obtain ⟨its,rv,pl,hz⟩:=I.list q1
  obtain ⟨u,hu,ru⟩:=rv.get hx
  obtain ⟨⟨old,ee⟩,g⟩:=st
  have hi:i<its.toArray.size:=by
   have:=(K5.mp hu).1
   simpa using this
  have pT:s.heap.IsList t its.toArray:=pl.isList
  refine K7u (Draws.list (by simp [I.ok.hd hc]) it t d2 its.toArray) ee ⟨g,pT⟩ hi d1 (by simp [d1,d3]) λy h' tk hy eo st' gT sz kp=>?_
  have ey:y=u:=by
   have:its.toArray[i]?=some u:=by simpa using hu
   rw [hy] at this
   exact K13 this
  subst ey
  refine ⟨_,rfl,K6p eo λh2 eo2 sb=>?_⟩
  have elt:e<s.heap.objs.size:=K06 ee
  have ilt:it<s.heap.objs.size:=by obtain ⟨o,q,_⟩:=g;exact K06 q
  have hT:IsTup0 h2 s.heap.objs.size [K5t i tk,y].toArray:=⟨_,(sb.2 _ (K1r elt)).trans gT,⟨rfl,rfl⟩,_,rfl⟩
  have J:=zE6 (t:=tk+1) (ch:=[e,it]) (T:=s.heap.objs.size) (vs:=[.int i,x]) (its:=[.int i tk,y]) (h2:=h2) I hf
   (λb o hb q=>by simp at hb;exact (sb.2 b hb.1).trans (kp b o hb.1 hb.2 q)) (K01 _) hT (.cons ⟨tk,rfl⟩ (.cons ru .nil)) (by show 2≤sizeLine;decide)
  refine ⟨.ref s.heap.objs.size,_,J,rfl,⟨_,x,I.hok.fresh (K01 _),rfl,λxs' h'=>by rw [I.list_inj h' q1];exact hx,rfl⟩,?_,λb hb=>?_⟩
  ·exact ⟨⟨_,by simpa using eo2⟩,st'.1.at λo q=>(sb.2 _ (K4p d1)).trans q⟩
  ·have:b<s.heap.objs.size:=by
    simp at hb
    rcases hb with rfl|rfl
    ·exact elt
    ·exact ilt
   rw [J6 (K0p this)]
   exact (hf b hb).1
 done:=by
  intro X hP hw hK hc i pins s σ H E I hf st hg
  subst hP hw hK
  obtain ⟨xs,q1,hl⟩:=hg
  obtain ⟨its,rv,pl,hz⟩:=I.list q1
  obtain ⟨⟨old,ee⟩,g⟩:=st
  have l1:=rv.length
  have pT:s.heap.IsList t its.toArray:=pl.isList
  have en:i=its.toArray.size:=by simp;omega
  refine K84 (Draws.list (by simp [I.ok.hd hc]) it t d2 its.toArray) ee ⟨by rw [← en];exact g,pT⟩ λh' eb=>⟨rfl,?_⟩
  have hf':∀b∈[it],FpOk X pins H b:=λb hb=>hf b (by simp at hb;simp [hb])
  refine I.step (g':=s.gens) (t':=s.toks) (d':=s.drawn) (ch:=[it]) (λb hb=>⟨(hf' b hb).2.2.2.1,(hf' b hb).2.1,(hf' b hb).2.2.2.2.1,(hf' b hb).2.2.2.2.2⟩) (λb o _ _ hc e _=>?_) (λb o _ _ hc e _=>⟨o.slots,?_⟩)
   (λ_ _ _ _ n=>n) (λb o hc e=>⟨o,?_⟩) (λ_ _ e=>e) (λ_ _ _ e=>e) (λb ps e=>⟨#[],by rw [e];simp⟩) (λm hm=>?_) (λb u e=>?_) I.bare
  ·simp at hc;exact eb b o hc e
  ·simp at hc;exact eb b o hc e
  ·simp at hc;exact eb b o hc e
  ·obtain ⟨o,es,ep,q,r⟩:=hm
   exact ⟨o,es,ep,eb _ o (λy=>(hf' it (by simp)).2.1 y.symm) q,r⟩
  ·refine (I.hok b u e).stay (λc v hc q=>?_) (λ_ q=>q) λ_ _ q=>q
   refine eb c v (λy=>?_) q
   subst y
   rcases hc with y|y
   ·rw [← y,(hf' c (by simp)).1] at e;cases e
   ·rw [(hf' c (by simp)).1] at y;cases y
 self:=λ_ _ _ _ _ st h=>by
  obtain ⟨⟨old,ee⟩,g⟩:=st
  exact K5q ee h
section
variable {X:Cx}{EX:XX}{a:Expr}{elts:List Expr}{kk:Nat}{p pos pt:Pos}{ma:G->M D}
def zr4 (K:K1) (ta:TA):TI:=λσ H R=>ta σ H λvs H2=>∃t xs,vs=[.ref t]/\SqL K H2 t xs/\R (ItL K t) H2
theorem zf0 {ta:TA}(hg:Gl X "enumerate") (hm:X.mg "enumerate" = none) (ha:PA X [a] ta) (hs:K0b [a] X.env=[(false,eval a X.env)]:=by rfl):PI X (.Tuple elts kk pt) (.Call (.Name "enumerate" p) [a] [] pos) (zr4 X.K ta):=by
 intro pins s σ H R I h
 refine Call_ (z4R I hg hm boot_enumerate (K30 (thn (ha pos pins s σ H _ I h) λus s1 ⟨vs,H1,I1,r1,q1⟩=>?_) (by rw [hs];rfl) rfl))
 obtain ⟨t,xs,e,q2,q⟩:=q1
 subst e
 obtain ⟨u,rfl,ru⟩:=vals1 r1
 cases ru
 obtain ⟨its,rv,pl,hz⟩:=I1.list q2
 have pT:s1.heap.IsList t its.toArray:=pl.isList
 have lt:t<s1.heap.objs.size:=by obtain ⟨o,n,e,_⟩:=pl;exact K06 e
 refine K9u K7g (by decide) (K64 _) (K6d _) (λobj=>K4l obj _) K6e (z8h t its.toArray) ⟨pT,?_⟩
 have y1:(s1.heap.push { cls:=.type "list_iterator",data:=.fields #[.ref t,.int 0 0] }).objs.size=s1.heap.objs.size+1:=K1l ..
 have x2:((s1.heap.push { cls:=.type "list_iterator",data:=.fields #[.ref t,.int 0 0] }).push { cls:=.type "enumerate",data:=.fields #[.none,.bool false,.ref s1.heap.objs.size,rawInt 0,.none,.none] }).get? (s1.heap.objs.size+1)=some { cls:=.type "enumerate",data:=.fields #[.none,.bool false,.ref s1.heap.objs.size,rawInt 0,.none,.none] }:=by rw [← y1];exact K05 _ rfl
 have x1:((s1.heap.push { cls:=.type "list_iterator",data:=.fields #[.ref t,.int 0 0] }).push { cls:=.type "enumerate",data:=.fields #[.none,.bool false,.ref s1.heap.objs.size,rawInt 0,.none,.none] }).get? s1.heap.objs.size=some { cls:=.type "list_iterator",data:=.fields #[.ref t,.int 0 0] }:=K6 _ (K05 _ rfl)
 show _/\_
 rw [y1]
 refine ⟨⟨_,x2,rfl⟩,K5q (e:=s1.heap.objs.size+1) (it:=s1.heap.objs.size) (i:=0) (old:=.none) x2 ?_⟩
 refine ⟨s1.heap.objs.size+1,_,_,_,H1,rfl,I1.kept (t':=s1.toks) (λc o q=>K6 _ (K6 _ q)),z8g (it:=s1.heap.objs.size) (t:=t) (K1r (K5x _)) (K0p lt) (K1r (K2u lt)),⟨⟨_,x2⟩,⟨_,x1,rfl,rfl⟩⟩,λb hb=>?_,q⟩
 have hb':s1.heap.objs.size≤b:=by
  simp at hb
  rcases hb with rfl|rfl
  ·exact K4g _
  ·exact K01 _
 exact I1.fpOk hb' (I1.hok.fresh hb')
def z7f (ma:G->M D):G->M Src:=λγ=>do
 let l ← z8 ma aNil γ
 match l with
 | [.ref n]=>do
  let xs ← getL n
  pure (.obj n (.lst xs) (z1k xs))
 | _=>bad
theorem zi1 (hc:X.calm=true) (hg:Gl X "enumerate") (hm:X.mg "enumerate" = none) (ha:SE X EX a ma) (hs:K0b [a] X.env=[(false,eval a X.env)]:=by rfl):SI X EX (.Tuple elts kk pt) (.Call (.Name "enumerate" p) [a] [] pos) (z7f ma) :=
 ⟨PI.imp (zf0 hg hm (z6 ha Z0 hs).h hs) λσ H R ⟨ρ,γ,h,rel,fin⟩=>⟨ρ,γ,h,rel,(Fin.bind fin).mono λl ρ1 h1 H1 p1 e1 r1 f1 vs rv=>by
  split at f1
  ·rename_i n
   simp only [RDs,RD] at rv
   obtain ⟨_,_,rfl,⟨t,rfl,q1⟩,rfl⟩:=rv
   have f3:=Fin.bind f1
   cases e3:getL n h1 with
   | bad=>rw [e3] at f3;exact f3.elim
   | err z hz=>exact (z0T e3).elim
   | ok xs h3 =>
    obtain ⟨rfl,g1⟩:=z0U e3
    rw [e3] at f3
    obtain ⟨a1,n1,us,o1,d1⟩:=r1.at g1
    rw [q1] at n1;cases n1
    refine ⟨t,us,rfl,SqL.of o1,f3 ρ1 H1 (Pre.refl _) (Ext.refl _ _) r1 ρ1 H1 (Pre.refl _) (Ext.refl _ _) r1 _ λi ρ2 h4 H2 p2 e2 r2 gd=>?_⟩
    have gd:h4[n]?=.(l xs):=gd
    obtain ⟨a2,n2,us2,o2,d2⟩:=r2.at gd
    rw [p2 n _ q1] at n2;cases n2
    refine ⟨λd hd=>?_,λhi=>?_⟩
    ·have hd':(z1k xs)[i]?=some d:=hd
     obtain ⟨x,g1,rfl⟩:=z4Z hd'
     obtain ⟨v1,a1,b1⟩:=d2.get g1
     refine ⟨⟨us2,v1,SqL.of o2,a1⟩,λv H3 ⟨T,x',n1,n2,n3,n5⟩=>?_⟩
     have m1:=n3 us2 (SqL.of o2)
     rw [a1] at m1;cases m1
     subst n2;subst n5
     have ext:Ext X.K H2 (L2.upd H2 T (.tup [.int i,v1])):=Ext.upd (.inl n1)
     refine ⟨?_,r2.other n1,ext⟩
     simp only [RD]
     exact ⟨T,_,rfl,SqT.of w6,RDs.cons (by simp [RD]) (RDs.cons (b1.mono (Pre.refl _) ext) RDs.nil)⟩
    ·have hi':(z1k xs).length=i:=hi
     unfold z1k at hi'
     rw [K00,K1q] at hi'
     have l1:=d2.length
     exact ⟨us2,SqL.of o2,by omega⟩
  ·exact (show False from f1).elim⟩⟩
end
mutual
def z0Z:D->Bool
 | .int _=>true
 | .str _=>true
 | .bl _=>true
 | .non=>true
 | .tup xs=>z0b xs
 | _=>false
def z0b:List D->Bool
 | []=>true
 | d::r=>z0Z d&&z0b r
end
theorem z3T {d:D}:∀{ds:List D},z0b ds=true->d∈ds->z0Z d=true
 | [],_,h=>by cases h
 | x::r,p,h=>by
  simp only [z0b,K0j] at p
  rcases K0v.mp h with rfl|h
  ·exact p.1
  ·exact z3T p.2 h
section
variable {X:Cx}{pins:List (Addr×Obj)}{σ:L2.St}{H:Hp}{s:Shared}{ρ:List Addr}
mutual
theorem RD.one (I:Inv X pins σ H s):∀{z z':D}{v:V},z0Z z=true->z0Z z'=true->RD X.K ρ H z v->RD X.K ρ H z' v->z=z'
 | .non,z',v,_,p,h,h'=>by
  simp only [RD] at h;subst h
  cases z'<;>simp_all [RD,z0Z]
 | .bl b,z',v,_,p,h,h'=>by
  simp only [RD] at h;subst h
  cases z'<;>simp_all [RD,z0Z]
 | .int i,z',v,_,p,h,h'=>by
  simp only [RD] at h;subst h
  cases z'<;>simp_all [RD,z0Z]
 | .str x,z',v,_,p,h,h'=>by
  simp only [RD] at h;subst h
  cases z'<;>simp_all [RD,z0Z]
 | .tup ds,z',v,q,p,h,h'=>by
  simp only [RD] at h
  obtain ⟨a,xs,rfl,h2,h3⟩:=h
  cases z' with
  | tup ds' =>
   simp only [RD] at h'
   obtain ⟨a',xs',e,h5,h6⟩:=h'
   cases e
   have e2:=I.tuple_inj h5 h2
   subst e2
   simp only [z0Z] at q p
   rw [RDs.one I q p h3 h6]
  | non=>simp [RD] at h'
  | bl b=>simp [RD] at h'
  | int b=>simp [RD] at h'
  | str b=>simp [RD] at h'
  | fl b=>simp [z0Z] at p
  | ref b=>simp [z0Z] at p
 | .fl ds,z',v,q,p,h,h'=>by simp [z0Z] at q
 | .ref ds,z',v,q,p,h,h'=>by simp [z0Z] at q
theorem RDs.one (I:Inv X pins σ H s):∀{ds ds':List D}{xs:List V},z0b ds=true->z0b ds'=true->RDs X.K ρ H ds xs->RDs X.K ρ H ds' xs->ds=ds'
 | [],ds',xs,_,_,h,h'=>by
  simp only [RDs] at h;subst h
  cases ds' with
  | nil=>rfl
  | cons d r=>simp [RDs] at h'
 | d::r,ds',xs,q,p,h,h'=>by
  simp only [RDs] at h
  obtain ⟨x,xr,rfl,h2,h3⟩:=h
  cases ds' with
  | nil=>simp [RDs] at h'
  | cons d' r' =>
   simp only [RDs] at h'
   obtain ⟨x',xr',e,h5,h6⟩:=h'
   cases e
   simp only [z0b,K0j] at q p
   rw [RD.one I q.1 p.1 h2 h5,RDs.one I q.2 p.2 h3 h6]
end
theorem zi2 {w w':V}{y:Value}(h:L2.RelV w y) (h':L2.RelV w' y):w=w':=by
 cases w<;>cases w'<;>simp only [L2.RelV] at h h'<;>first
  | (subst h;cases h';rfl)
  | (obtain ⟨t,rfl⟩:=h;obtain ⟨t',e⟩:=h';cases e;rfl)
  | (obtain ⟨t,rfl⟩:=h;obtain ⟨t',e⟩:=h';cases e;done)
  | (obtain ⟨t,rfl⟩:=h;cases h';done)
  | (subst h;obtain ⟨t',e⟩:=h';cases e;done)
  | (subst h;cases h';done)
open Classical in
theorem zi6 {h:AH}{d:D}{ds:List D}{x:V}{v:Value}{xs:List V}{its:List Value}{b:Bool}(hu:X.A.units+30<cLine) (I:Inv X pins σ H s) (rh:RH X.K ρ h H) (pd:z0b ds=true) (rx:RD X.K ρ H d x) (wx:RelV x v) (rs:RDs X.K ρ H ds xs) (ws:Vals xs its) (e:inZ h d ds=some b) :
 ∃f:Value->Bool,(∀y∈its,K6g X.A.in1 s y v (f y))/\∀(i:Nat) (y:Value) (z:D),its[i]?=some y->ds[i]?=some z->(f y=true↔eqN 24 h z d=some true):=by
 obtain ⟨q1,q2⟩:=z3K e
 have ex:∀y∈its,∃a z w,z∈ds/\RD X.K ρ H z w/\RelV w y/\eqN 24 h z d=some a:=λy hy=>by
  obtain ⟨j,hj⟩:=K4k hy
  have lj:=(K5.mp hj).1
  have a1:xs[j]?=some (xs[j]'(by rw [ws.length];exact lj)):=K4 _
  obtain ⟨y',c1,a2⟩:=ws.get a1
  rw [hj] at c1
  cases c1
  obtain ⟨z,b1,b2⟩:=rs.getV a1
  have zm:=K03 b1
  obtain ⟨a,c⟩:=q1 z zm
  exact ⟨a,z,_,zm,b2,a2,c⟩
 have key:∀y∈its,∀a,(∃z w,z∈ds/\RD X.K ρ H z w/\RelV w y/\eqN 24 h z d=some a)->K6g X.A.in1 s y v a:=λy hy a ⟨z,w,zm,r1,r2,c⟩ =>
  (deq I rh 24 (A:=X.A.in1) (show X.A.units+1+24<cLine by omega) r1 rx r2 wx c).1
 refine ⟨λy=>decide (∃z w,z∈ds/\RD X.K ρ H z w/\RelV w y/\eqN 24 h z d=some true),λy hy=>?_,λi y z hy hz=>?_⟩
 ·by_cases c:∃z w,z∈ds/\RD X.K ρ H z w/\RelV w y/\eqN 24 h z d=some true
  ·dsimp only
   rw [decide_eq_true c]
   exact key y hy true c
  ·dsimp only
   rw [decide_eq_false c]
   obtain ⟨a,z,w,g⟩:=ex y hy
   cases a with
   | false=>exact key y hy false ⟨z,w,g⟩
   | true=>exact absurd ⟨z,w,g⟩ c
 ·obtain ⟨w,a1,a2⟩:=rs.get hz
  obtain ⟨y',b1,b2⟩:=ws.get a1
  rw [hy] at b1
  cases b1
  have zm:=K03 hz
  rw [decide_eq_true_eq]
  constructor
  ·rintro ⟨z',w',zm',r1,r2,c⟩
   rw [zi2 r2 b2] at r1
   rw [RD.one I (z3T pd zm) (z3T pd zm') a2 r1]
   exact c
  ·exact λc=>⟨z,w,zm,a2,b2,c⟩
end
section
variable {X:Cx}{EX:XX}{o a:Expr}{apos cpos:Pos}{mo ma:G->M D}
def z35 (h:AH) (y:D) (xs:List D):Nat:=xs.findIdx λz=>decide (eqN 24 h z y=some true)
def zy6 (K:K1):V->List V->Hp->VK->Prop:=λx vs H Q=>∃ρ h l d ds u xs,x=.ref l/\vs=[u]/\RH K ρ h H/\RD K ρ H d u/\SqL K H l xs/\RDs K ρ H ds xs/\z0b ds=true/\ds.length≤100000/\inZ h d ds=some true/\Q (.int (z35 h d ds:Nat)) H
theorem z9D (hu:X.A.units+40<cLine):MtR X "list.index" (zy6 X.K):=by
 intro pins s σ H x vs v us Q I rx rv h
 obtain ⟨ρ,h,l,d,ds,u,xs,rfl,rfl,rh,rd,hq,rs,pd,hl,e,q⟩:=h
 cases rx
 obtain ⟨w,rfl,rw'⟩:=rv.one
 obtain ⟨its,ws,pl,hz⟩:=I.list hq
 obtain ⟨f,f1,f2⟩:=zi6 (by omega) I rh pd rd rw' rs ws e
 obtain ⟨⟨cls,dd,data,sl⟩,ho,hc,n,hd⟩:=id pl.isList
 simp only at hc hd
 subst hc hd
 have l1:ds.length=its.length:=by rw [rs.length,ws.length]
 have hj:z35 h d ds<ds.length:=by
  obtain ⟨_,q2⟩:=z3K e
  obtain ⟨z,zm,c⟩:=q2.mp rfl
  exact List.findIdx_lt_length_of_exists ⟨z,zm,decide_eq_true c⟩
 have at_:∀{m:Nat} (hm:m<its.length) ,f its[m]=decide (eqN 24 h (ds[m]'(by omega)) d=some true):=λ{m} hm=>by
  have:=f2 m its[m] (ds[m]'(by omega)) (K4 hm) (K4 (by omega))
  rw [K0z,this,decide_eq_true_eq]
 refine K41 K3u ⟨_,ho,rfl⟩ K7f (K6r _ _)
  (K7d l its.toArray n dd sl w f (z35 h d ds) (by simpa [← l1] using hj) (by omega) ?_ ?_) ⟨ho,λy hy=>?_,⟨.int _,H,I.tok _,⟨_,rfl⟩,q⟩⟩
 ·show f its[z35 h d ds]=true
  rw [at_ (by omega)]
  exact List.findIdx_getElem (p:=λz=>decide (eqN 24 h z d=some true)) (w:=hj)
 ·intro m hm hlt
  show f its[m]=false
  rw [at_ (by simpa using hm)]
  have:=List.not_of_lt_findIdx (p:=λz=>decide (eqN 24 h z d=some true)) (xs:=ds) (i:=m) hlt
  simpa using this
 ·exact f1 y (by simpa using hy)
def ixX (xs:List D) (y:D):M D:=λh=>if z0b xs=true/\xs.length≤100000/\inZ h y xs=some true then .ok (.int (z35 h y xs:Nat)) h else .bad
def z4m (n:Nat) (y:D):M D:=do
 let xs ← getL n
 ixX xs y
theorem z8U (hu:X.A.units+40<cLine) (ho:SE X EX o mo) (ha:SE X EX a ma)
 (hbase:K4d o "index" X.env (eval o X.env)=eval o X.env:=by rfl)
 (hfew:((backTo cpos (K0b [a] X.env)).all (λx=>!x.1)&&(K7o cpos (K58 [] X.env)).all (λx=>x.1.isSome)
 &&decide (([a]:List Expr).length+([]:List K44).length+(if ([]:List K44).isEmpty then 0 else 1)<30))=true:=by rfl)
 (hline:(apos.endLine==cpos.line)=true:=by rfl) (hs:K0b [a] X.env=[(false,eval a X.env)]:=by rfl) :
 SE X EX (.Call (.Attribute o "index" apos) [a] [] cpos) (eM1 z4m mo ma) :=
 ⟨PE.imp (zh1 K3v K3u K7q (z9D hu) ho.h (z0G ha.h z23 hs) hbase hfew hline hs rfl) (ze2 λρ h H n q y u Q r hq ru fin=>by
  have f2:Fin X.K EX ρ H _ _:=Fin.bind (show Fin X.K EX ρ H (λd ρ' _ H'=>∀v,RD X.K ρ' H' d v->Q v H') ((getL n >>= λxs=>ixX xs y) h) from fin)
  cases e3:getL n h with
  | bad=>rw [e3] at f2;exact f2.elim
  | err z hz=>exact (z0T e3).elim
  | ok xs h3 =>
   obtain ⟨rfl,q1⟩:=z0U e3
   rw [e3] at f2
   obtain ⟨a1,n1,vs,o1,d1⟩:=r.at q1
   rw [hq] at n1;cases n1
   have f3:FE X.K EX ρ H Q (ixX xs y _):=f2 ρ H (Pre.refl _) (Ext.refl _ _) r
   unfold ixX at f3
   split at f3
   ·rename_i c
    exact ⟨ρ,_,_,y,xs,u,vs,rfl,rfl,r,ru,SqL.of o1,d1,c.1,c.2.1,c.2.2,FE.here f3 r (by simp [RD])⟩
   ·exact f3.elim)⟩
theorem hu40 {A:Around}{k:Nat}(hr:Room k A):A.units+40<cLine:=K25 (K65 (by decide:40≤64) _) hr.units
end
abbrev Bl:=List (Nat×List Nat)
def blk (bl:Bl) (k:Nat):List Nat:=((bl.find? λp=>decide (p.1=k)).map (·.2)).getD []
def keyOf (bl:Bl) (x:Nat):Nat:=((bl.find? λp=>decide (x∈p.2)).map (·.1)).getD 0
structure PB (n:Nat) (bl:Bl):Prop where
 hd:∀p∈bl,p.2.head?=some p.1
 rise:∀p∈bl,p.2.Pairwise (·<·)
 cov:∀x,x<n↔∃p∈bl,x∈p.2
 dis:∀p∈bl,∀q∈bl,∀x,x∈p.2->x∈q.2->p=q
 nd:(bl.map (·.1)).Nodup
theorem z2H {l:List Nat}{k:Nat}(h:l.head?=some k):k∈l:=by
 cases l with
 | nil=>cases h
 | cons a l=>simp at h;simp [h]
theorem z6O {l:List Nat}{k:Nat}(h:l.head?=some k) (r:l.Pairwise (·<·)):∀x∈l,k≤x:=λx hx=>by
 cases l with
 | nil=>cases h
 | cons a l =>
  simp at h
  subst h
  rcases K0v.mp hx with q|q
  ·omega
  ·exact K23 (List.rel_of_pairwise_cons r q)
theorem z8T {l:List Nat}{k:Nat}(hk:k∈l) (r:l.Pairwise (·<·)) (le:∀x∈l,k≤x):l.head?=some k:=by
 cases l with
 | nil=>cases hk
 | cons a l =>
  have a1:=le a (by simp)
  have a2:=z6O (l:=a::l) rfl r k hk
  simp;omega
section
variable {n:Nat}{bl:Bl}
theorem PB.bmem (b:PB n bl) {p:Nat×List Nat}(h:p∈bl):p.1∈p.2:=z2H (b.hd p h)
theorem PB.uniq (b:PB n bl) {p q:Nat×List Nat}(hp:p∈bl) (hq:q∈bl) (e:p.1=q.1):p=q:=b.dis p hp q hq p.1 (b.bmem hp) (by rw [e];exact b.bmem hq)
theorem PB.blk (b:PB n bl) {p:Nat×List Nat}(h:p∈bl):FT.blk bl p.1=p.2:=by
 unfold FT.blk
 cases e:bl.find? λq=>decide (q.1=p.1) with
 | none =>
  rw [K54] at e
  exact absurd (by simp) (e p h)
 | some q =>
  have m:=K6t e
  have q1:=Z0g e
  rw [b.uniq m h (by simpa using q1)]
  rfl
theorem PB.of_key (b:PB n bl) {k:Nat}(h:k∈bl.map (·.1)):(k,FT.blk bl k)∈bl:=by
 obtain ⟨p,hp,rfl⟩:=K04.mp h
 rw [b.blk hp]
 exact hp
theorem PB.key (b:PB n bl) {p:Nat×List Nat}(h:p∈bl) {x:Nat}(hx:x∈p.2):keyOf bl x=p.1:=by
 unfold keyOf
 cases e:bl.find? λq=>decide (x∈q.2) with
 | none =>
  rw [K54] at e
  exact absurd (by simpa using hx) (e p h)
 | some q =>
  have m:=K6t e
  have q1:=Z0g e
  rw [b.dis q m p h x (by simpa using q1) hx]
  rfl
theorem PB.at_ (b:PB n bl) {x:Nat}(hx:x<n):(keyOf bl x,FT.blk bl (keyOf bl x))∈bl/\x∈FT.blk bl (keyOf bl x):=by
 obtain ⟨p,hp,hx⟩:=(b.cov x).mp hx
 rw [b.key hp hx,b.blk hp]
 exact ⟨hp,hx⟩
theorem PB.lt (b:PB n bl) {p:Nat×List Nat}(h:p∈bl) {x:Nat}(hx:x∈p.2):x<n:=(b.cov x).mpr ⟨p,h,hx⟩
theorem PB.klt (b:PB n bl) {k:Nat}(h:k∈bl.map (·.1)):k<n:=by
 obtain ⟨p,hp,rfl⟩:=K04.mp h
 exact b.lt hp (b.bmem hp)
theorem PB.len (b:PB n bl):bl.length≤n:=by
 have:=b.nd.length_le_of_subset (l₂:=K8 n) λk hk=>K0r.mpr (b.klt hk)
 simpa using this
theorem PB.in_blk (b:PB n bl) {k x:Nat}(hk:k∈bl.map (·.1)):x∈FT.blk bl k↔x<n/\keyOf bl x=k:=by
 have m:=b.of_key hk
 constructor
 ·intro hx
  exact ⟨b.lt m hx,b.key m hx⟩
 ·rintro ⟨hx,rfl⟩
  exact (b.at_ hx).2
theorem PB.keyin (b:PB n bl) {x:Nat}(hx:x<n):keyOf bl x∈bl.map (·.1):=K04.mpr ⟨_,(b.at_ hx).1,rfl⟩
theorem PB.keyle (b:PB n bl) {x:Nat}(hx:x<n):keyOf bl x≤x:=by
 obtain ⟨m,hm⟩:=b.at_ hx
 exact z6O (b.hd _ m) (b.rise _ m) x hm
theorem PB.keyself (b:PB n bl) {k:Nat}(hk:k∈bl.map (·.1)):keyOf bl k=k:=by
 have m:=b.of_key hk
 exact b.key m (b.bmem m)
theorem z2X (hn:0<n):PB n [(0,K8 n)]:=by
 refine ⟨λp hp=>?_,λp hp=>?_,λx=>by simp,λp hp q hq x _ _=>?_,by simp⟩
 ·simp at hp;subst hp
  cases n with
  | zero=>omega
  | succ n=>simp [K82]
 ·simp at hp;subst hp;exact K43
 ·simp at hp hq;rw [hp,hq]
def putB (bl:Bl) (k:Nat) (b:List Nat):Bl:=if (bl.any λp=>decide (p.1=k)) then bl.map (λp=>if p.1=k then (k,b) else p) else bl++[(k,b)]
def yesL (bl:Bl) (k:Nat) (f:Nat->Bool):List Nat:=(FT.blk bl k).filter f
def noL (bl:Bl) (k:Nat) (f:Nat->Bool):List Nat:=(FT.blk bl k).filter λx=>!f x
def cutB (bl:Bl) (k:Nat) (f:Nat->Bool):Bl:=putB (putB bl ((yesL bl k f).headD 0) (yesL bl k f)) ((noL bl k f).headD 0) (noL bl k f)
theorem z7W {bl:Bl}{k:Nat}{b:List Nat}{p:Nat×List Nat}:p∈putB bl k b↔(p∈bl/\p.1≠k)∨p=(k,b):=by
 unfold putB
 split
 ·rename_i h
  rw [K1m] at h
  obtain ⟨q,hq,e⟩:=h
  have e:=of_decide_eq_true e
  rw [K04]
  constructor
  ·rintro ⟨r,hr,rfl⟩
   split
   ·exact .inr rfl
   ·rename_i c;exact .inl ⟨hr,c⟩
  ·rintro (⟨hp,c⟩|rfl)
   ·exact ⟨p,hp,by rw [if_neg c]⟩
   ·exact ⟨q,hq,by rw [if_pos e]⟩
 ·rename_i h
  rw [K1m] at h
  rw [K0w,K52]
  constructor
  ·rintro (hp|rfl)
   ·refine .inl ⟨hp,λe=>h ⟨p,hp,decide_eq_true e⟩⟩
   ·exact .inr rfl
  ·rintro (⟨hp,_⟩|rfl)
   ·exact .inl hp
   ·exact .inr rfl
theorem z3Y {bl:Bl}{k:Nat}{b:List Nat}:(putB bl k b).map (·.1)=if k∈bl.map (·.1) then bl.map (·.1) else bl.map (·.1)++[k]:=by
 have e:(bl.any λp=>decide (p.1=k))=decide (k∈bl.map (·.1)):=by
  rw [K0z,K1m,decide_eq_true_eq,K04]
  exact ⟨λ⟨p,hp,q⟩=>⟨p,hp,of_decide_eq_true q⟩,λ⟨p,hp,q⟩=>⟨p,hp,decide_eq_true q⟩⟩
 unfold putB
 rw [e]
 by_cases c:k∈bl.map (·.1)
 ·rw [if_pos (decide_eq_true c),if_pos c,K0o]
  refine K2f λp _=>?_
  show (if p.1=k then (k,b) else p).1=p.1
  split
  ·rename_i q;exact q.symm
  ·rfl
 ·rw [if_neg (by simpa using c),if_neg c,K3d]
  rfl
structure Cut (bl:Bl) (k:Nat) (f:Nat->Bool):Prop where
 hk:k∈bl.map (·.1)
 hy:yesL bl k f≠[]
 hn:noL bl k f≠[]
theorem z1w {l:List Nat}(h:l≠[]):l.head?=some (l.headD 0):=by
 cases l with
 | nil=>exact absurd rfl h
 | cons a l=>rfl
theorem z9P (b:PB n bl) {k:Nat}{f:Nat->Bool}(c:Cut bl k f) :
 ∃a z A Z,((a=(yesL bl k f).headD 0/\A=yesL bl k f/\z=(noL bl k f).headD 0/\Z=noL bl k f)∨(z=(yesL bl k f).headD 0/\Z=yesL bl k f/\a=(noL bl k f).headD 0/\A=noL bl k f))/\a=k/\z∉bl.map (·.1)/\A.head?=some a/\Z.head?=some z:=by
 have m:=b.of_key c.hk
 have rs:=b.rise _ m
 have km:=b.bmem m
 have le:=z6O (b.hd _ m) rs
 have rY:(yesL bl k f).Pairwise (·<·):=K2n _ rs
 have rN:(noL bl k f).Pairwise (·<·):=K2n _ rs
 have hY:=z1w c.hy
 have hN:=z1w c.hn
 have other:∀{z:Nat},z∈FT.blk bl k->z≠k->z∉bl.map (·.1):=λ{z} hz ne hk=>by
  have:=b.keyself hk
  rw [b.key m hz] at this
  exact ne this.symm
 by_cases q:f k=true
 ·have hk:(yesL bl k f).head?=some k:=z8T (K0h.mpr ⟨km,q⟩) rY λx hx=>le x (K0h.mp hx).1
  rw [hY] at hk
  have hk:=K13 hk
  have zm:=K0h.mp (z2H hN)
  refine ⟨_,_,_,_,.inl ⟨rfl,rfl,rfl,rfl⟩,hk,other zm.1 λe=>?_,hY,hN⟩
  have:=zm.2
  rw [e,q] at this
  cases this
 ·have hk:(noL bl k f).head?=some k:=z8T (K0h.mpr ⟨km,by simpa using q⟩) rN λx hx=>le x (K0h.mp hx).1
  rw [hN] at hk
  have hk:=K13 hk
  have zm:=K0h.mp (z2H hY)
  refine ⟨_,_,_,_,.inr ⟨rfl,rfl,rfl,rfl⟩,hk,other zm.1 λe=>?_,hN,hY⟩
  have:=zm.2
  rw [e] at this
  exact q this
theorem z06 (b:PB n bl) {k:Nat}{f:Nat->Bool}(c:Cut bl k f) {p:Nat×List Nat}:p∈cutB bl k f↔(p∈bl/\p.1≠k)∨p=((yesL bl k f).headD 0,yesL bl k f)∨p=((noL bl k f).headD 0,noL bl k f):=by
 obtain ⟨a,z,A,Z,h,hk,hz,_,_⟩:=z9P b c
 have za:z≠a:=λe=>hz (by rw [e,hk];exact c.hk)
 have zb:∀p∈bl,p.1≠z:=λp hp e=>hz (by rw [← e];exact K04.mpr ⟨p,hp,rfl⟩)
 unfold cutB
 rw [z7W,z7W]
 rcases h with ⟨e1,e2,e3,e4⟩|⟨e1,e2,e3,e4⟩
 ·rw [← e1,← e2,← e3,← e4,hk]
  constructor
  ·rintro (⟨⟨h1,h2⟩|rfl,h3⟩|rfl)
   ·exact .inl ⟨h1,h2⟩
   ·exact .inr (.inl rfl)
   ·exact .inr (.inr rfl)
  ·rintro (⟨h1,h2⟩|rfl|rfl)
   ·exact .inl ⟨.inl ⟨h1,h2⟩,zb _ h1⟩
   ·exact .inl ⟨.inr rfl,λe=>za (by rw [hk];exact e.symm)⟩
   ·exact .inr rfl
 ·rw [← e1,← e2,← e3,← e4,hk]
  constructor
  ·rintro (⟨⟨h1,h2⟩|rfl,h3⟩|rfl)
   ·exact .inl ⟨h1,h3⟩
   ·exact .inr (.inl rfl)
   ·exact .inr (.inr rfl)
  ·rintro (⟨h1,h2⟩|rfl|rfl)
   ·exact .inl ⟨.inl ⟨h1,zb _ h1⟩,h2⟩
   ·exact .inl ⟨.inr rfl,λe=>za (by rw [hk];exact e)⟩
   ·exact .inr rfl
theorem z7G (b:PB n bl) {k:Nat}{f:Nat->Bool}(c:Cut bl k f):PB n (cutB bl k f):=by
 have m:=b.of_key c.hk
 have rs:=b.rise _ m
 have hY:=z1w c.hy
 have hN:=z1w c.hn
 have inY:∀{x:Nat},x∈yesL bl k f->x∈FT.blk bl k/\f x=true:=λhx=>K0h.mp hx
 have inN:∀{x:Nat},x∈noL bl k f->x∈FT.blk bl k/\f x=false:=λhx=>by
  have:=K0h.mp hx
  simpa using this
 refine ⟨λp hp=>?_,λp hp=>?_,λx=>?_,λp hp q hq x hx hy=>?_,?_⟩
 ·rcases (z06 b c).mp hp with ⟨h1,_⟩|rfl|rfl
  ·exact b.hd p h1
  ·exact hY
  ·exact hN
 ·rcases (z06 b c).mp hp with ⟨h1,_⟩|rfl|rfl
  ·exact b.rise p h1
  ·exact K2n _ rs
  ·exact K2n _ rs
 ·rw [b.cov]
  constructor
  ·rintro ⟨p,hp,hx⟩
   by_cases e:p.1=k
   ·have e2:=b.blk hp
    rw [e] at e2
    rw [← e2] at hx
    by_cases q:f x=true
    ·exact ⟨_,(z06 b c).mpr (.inr (.inl rfl)),K0h.mpr ⟨hx,q⟩⟩
    ·exact ⟨_,(z06 b c).mpr (.inr (.inr rfl)),K0h.mpr ⟨hx,by simpa using q⟩⟩
   ·exact ⟨p,(z06 b c).mpr (.inl ⟨hp,e⟩),hx⟩
  ·rintro ⟨p,hp,hx⟩
   rcases (z06 b c).mp hp with ⟨h1,_⟩|rfl|rfl
   ·exact ⟨p,h1,hx⟩
   ·exact ⟨_,m,(inY hx).1⟩
   ·exact ⟨_,m,(inN hx).1⟩
 ·have old:∀{p:Nat×List Nat},p∈bl->p.1≠k->∀x,x∈p.2->x∉FT.blk bl k:=λ{p} hp ne x h1 h2=>ne (by rw [b.dis p hp _ m x h1 h2])
  rcases (z06 b c).mp hp with ⟨h1,n1⟩|rfl|rfl<;>rcases (z06 b c).mp hq with ⟨h2,n2⟩|rfl|rfl
  ·exact b.dis p h1 q h2 x hx hy
  ·exact absurd (inY hy).1 (old h1 n1 x hx)
  ·exact absurd (inN hy).1 (old h1 n1 x hx)
  ·exact absurd (inY hx).1 (old h2 n2 x hy)
  ·rfl
  ·have a1:=(inY hx).2
   rw [(inN hy).2] at a1
   cases a1
  ·exact absurd (inN hx).1 (old h2 n2 x hy)
  ·have a1:=(inY hy).2
   rw [(inN hx).2] at a1
   cases a1
  ·rfl
 ·unfold cutB
  have one:∀{bl:Bl} {k:Nat} {b:List Nat},(bl.map (·.1)).Nodup->((putB bl k b).map (·.1)).Nodup:=λ{bl k b} nd=>by
   rw [z3Y]
   split
   ·exact nd
   ·rename_i h
    rw [K3h]
    exact ⟨nd,by simp,λx hx y hy e=>h (by simp at hy;rw [← hy,← e];exact hx)⟩
  exact one (one b.nd)
theorem z5r (b:PB n bl) {k:Nat}{f:Nat->Bool}(c:Cut bl k f):(cutB bl k f).length=bl.length+1:=by
 obtain ⟨a,z,A,Z,h,hk,hz,_,_⟩:=z9P b c
 have ka:a∈bl.map (·.1):=by rw [hk];exact c.hk
 have e:((cutB bl k f).map (·.1)).length=(bl.map (·.1)).length+1:=by
  unfold cutB
  rw [z3Y,z3Y]
  rcases h with ⟨e1,_,e3,_⟩|⟨e1,_,e3,_⟩
  ·rw [← e1,← e3,if_pos ka,if_neg hz]
   simp
  ·rw [← e1,← e3,if_neg hz,if_pos (K2p _ ka)]
   simp
 simpa using e
theorem zk4 (b:PB n bl) {k:Nat}{f:Nat->Bool}(c:Cut bl k f) {x y:Nat}(hx:x<n) (hy:y<n):keyOf (cutB bl k f) x=keyOf (cutB bl k f) y↔keyOf bl x=keyOf bl y/\(keyOf bl x=k->f x=f y):=by
 have b':=z7G b c
 have m:=b.of_key c.hk
 have own:∀{x:Nat},x<n->keyOf bl x=k->(f x=true/\keyOf (cutB bl k f) x=(yesL bl k f).headD 0)∨(f x=false/\keyOf (cutB bl k f) x=(noL bl k f).headD 0):=λ{x} hx e=>by
  have hm:=(b.in_blk c.hk).mpr ⟨hx,e⟩
  cases q:f x with
  | true=>exact .inl ⟨rfl,b'.key ((z06 b c).mpr (.inr (.inl rfl))) (K0h.mpr ⟨hm,q⟩)⟩
  | false=>exact .inr ⟨rfl,b'.key ((z06 b c).mpr (.inr (.inr rfl))) (K0h.mpr ⟨hm,by simp [q]⟩)⟩
 have ne:(yesL bl k f).headD 0≠(noL bl k f).headD 0:=λe=>by
  have h1:f ((yesL bl k f).headD 0)=true:=(K0h.mp (z2H (z1w c.hy))).2
  have h2:(!f ((noL bl k f).headD 0))=true:=(K0h.mp (z2H (z1w c.hn))).2
  rw [← e,h1] at h2
  cases h2
 have out:∀{x:Nat},x<n->keyOf bl x≠k->keyOf (cutB bl k f) x=keyOf bl x:=λ{x} hx e=>by
  obtain ⟨h1,h2⟩:=b.at_ hx
  exact b'.key ((z06 b c).mpr (.inl ⟨h1,e⟩)) h2
 have blkY:(yesL bl k f).headD 0∈FT.blk bl k:=(K0h.mp (z2H (z1w c.hy))).1
 have blkN:(noL bl k f).headD 0∈FT.blk bl k:=(K0h.mp (z2H (z1w c.hn))).1
 have alien:∀{x z:Nat},x<n->keyOf bl x≠k->z∈FT.blk bl k->keyOf bl x≠z:=λ{x z} hx e hz q=>by
  have h1:=b.keyself (b.keyin hx)
  rw [q] at h1
  have h2:=b.key m hz
  exact e (by rw [q];exact h1.symm.trans h2)
 by_cases ex:keyOf bl x=k
 ·by_cases ey:keyOf bl y=k
  ·rcases own hx ex with ⟨fx,kx⟩|⟨fx,kx⟩<;>rcases own hy ey with ⟨fy,ky⟩|⟨fy,ky⟩<;>rw [kx,ky,ex,ey,fx,fy]
   ·simp
   ·simp only [true_and,reduceCtorEq,imp_false,not_true_eq_false,iff_false];exact ne
   ·simp only [true_and,reduceCtorEq,imp_false,not_true_eq_false,iff_false];exact λe=>ne e.symm
   ·simp
  ·rw [out hy ey,ex]
   refine ⟨λe=>?_,λ⟨e,_⟩=>absurd e.symm ey⟩
   rcases own hx ex with ⟨_,kx⟩|⟨_,kx⟩
   ·exact absurd (kx.symm.trans e).symm (alien hy ey blkY)
   ·exact absurd (kx.symm.trans e).symm (alien hy ey blkN)
 ·by_cases ey:keyOf bl y=k
  ·rw [out hx ex,ey]
   refine ⟨λe=>?_,λ⟨e,_⟩=>absurd e ex⟩
   rcases own hy ey with ⟨_,ky⟩|⟨_,ky⟩
   ·exact absurd (e.trans ky) (alien hx ex blkY)
   ·exact absurd (e.trans ky) (alien hx ex blkN)
  ·rw [out hx ex,out hy ey]
   exact ⟨λe=>⟨e,λq=>absurd q ex⟩,λe=>e.1⟩
end
theorem z4T {st:List (List Nat)}{mk:List (List Str)}(ma:MA st mk):SQ st:=⟨ma.l1,ma.l2,ma.s2⟩
theorem zy1 (a:Str):¬ a.cps.toList<a.cps.toList:=List.lt_irrefl _
theorem z3W {l:List Str}(a:l.Pairwise λa b=>a.cps.toList<b.cps.toList):l.Nodup:=K9d (λ{x y} h (e:x=y)=>zy1 y (by rw [e] at h;exact h)) a
theorem z5O {l m:List Str}(a:l.Pairwise λa b=>a.cps.toList<b.cps.toList) (b:m.Pairwise λa b=>a.cps.toList<b.cps.toList) (h:∀x,x∈l↔x∈m):l=m :=
 ((K6o (z3W a) (z3W b)).mpr h).eq_of_pairwise (λ_ _ _ _ h1 h2=>absurd h2 (List.lt_asymm h1)) a b
def bel (st:List (List Nat)) (mk:List (List Str)) (bl:Bl) (by_:D) (x:Nat):Bool:=match by_ with
 | .str s=>bear s mk x
 | .int k=>(nx st x).any λo=>decide (o∈FT.blk bl k.toNat)
 | _=>false
structure Stb (st:List (List Nat)) (mk:List (List Str)) (E:Nat->Nat->Prop):Prop where
 lt:∀x y,E x y->x<st.length/\y<st.length
 sym:∀x y,E x y->E y x
 marks:∀x y,E x y->mkAt mk x=mkAt mk y
 steps:∀x y,E x y->∀o∈nx st x,∃t∈nx st y,E o t
def ByOk (bl:Bl) (d:D):Prop:=(∃s:Str,d=.str s)∨∃k:Nat,d=.int (k:Nat)/\k∈bl.map (·.1)
theorem zB1 {st:List (List Nat)}{mk:List (List Str)}{bl:Bl}{E:Nat->Nat->Prop}(b:PB st.length bl) (s:Stb st mk E) (co:∀x y,E x y->keyOf bl x=keyOf bl y) {d:D}(ok:ByOk bl d) {x y:Nat}(e:E x y):bel st mk bl d x=bel st mk bl d y:=by
 rcases ok with ⟨s',rfl⟩|⟨k,rfl,hk⟩
 ·show bear s' mk x=bear s' mk y
  unfold bear
  have:=s.marks x y e
  unfold mkAt at this
  rw [this]
 ·show (nx st x).any _=(nx st y).any _
  have go:∀x y,E x y->((nx st x).any λo=>decide (o∈FT.blk bl ((k:Nat):Int).toNat))=true->((nx st y).any λo=>decide (o∈FT.blk bl ((k:Nat):Int).toNat))=true:=λx y e h=>by
   rw [K1m] at h ⊢
   obtain ⟨o,ho,q⟩:=h
   have q:=of_decide_eq_true q
   obtain ⟨t,ht,et⟩:=s.steps x y e o ho
   refine ⟨t,ht,decide_eq_true ?_⟩
   rw [K0k] at q ⊢
   rw [b.in_blk hk] at q ⊢
   exact ⟨(s.lt _ _ et).2,by rw [← co o t et];exact q.2⟩
  rw [K0z]
  exact ⟨go x y e,go y x (s.sym x y e)⟩
theorem zI2 {st:List (List Nat)}{mk:List (List Str)}{bl:Bl}{E:Nat->Nat->Prop}(b:PB st.length bl) (s:Stb st mk E) (co:∀x y,E x y->keyOf bl x=keyOf bl y) {d:D}(ok:ByOk bl d) {k:Nat}(c:Cut bl k (bel st mk bl d)):∀x y,E x y->keyOf (cutB bl k (bel st mk bl d)) x=keyOf (cutB bl k (bel st mk bl d)) y:=λx y e=>by
 obtain ⟨hx,hy⟩:=s.lt x y e
 exact (zk4 b c hx hy).mpr ⟨co x y e,λ_=>zB1 b s co ok e⟩
def Done (st:List (List Nat)) (mk:List (List Str)) (bl:Bl):Prop:=∀p∈bl,∀d,((∃x∈p.2,∃s∈mkAt mk x,d=.str s)∨∃k:Nat,d=.int (k:Nat)/\k∈bl.map (·.1))->¬ Cut bl p.1 (bel st mk bl d)
theorem z68 {st:List (List Nat)}{mk:List (List Str)}{bl:Bl}(b:PB st.length bl) (dn:Done st mk bl) {x y:Nat}(hx:x<st.length) (hy:y<st.length) (e:keyOf bl x=keyOf bl y) {d:D}(ok:(∃z∈FT.blk bl (keyOf bl x),∃s∈mkAt mk z,d=.str s)∨∃k:Nat,d=.int (k:Nat)/\k∈bl.map (·.1)):bel st mk bl d x=bel st mk bl d y:=by
 obtain ⟨m,hm⟩:=b.at_ hx
 obtain ⟨m2,hm2⟩:=b.at_ hy
 rw [← e] at hm2
 cases q:bel st mk bl d x with
 | true =>
  cases q2:bel st mk bl d y with
  | true=>rfl
  | false=>exact absurd ⟨b.keyin hx,K51 (K0h.mpr ⟨hm,q⟩),K51 (a:=y) (K0h.mpr ⟨hm2,by rw [q2];rfl⟩)⟩ (dn _ m d ok)
 | false =>
  cases q2:bel st mk bl d y with
  | false=>rfl
  | true=>exact absurd ⟨b.keyin hx,K51 (a:=y) (K0h.mpr ⟨hm2,q2⟩),K51 (K0h.mpr ⟨hm,by rw [q];rfl⟩)⟩ (dn _ m d ok)
theorem z7h {st:List (List Nat)}{mk:List (List Str)}{bl:Bl}(ma:MA st mk) (b:PB st.length bl) (dn:Done st mk bl):Stb st mk λx y=>x<st.length/\y<st.length/\keyOf bl x=keyOf bl y:=by
 refine ⟨λx y h=>⟨h.1,h.2.1⟩,λx y h=>⟨h.2.1,h.1,h.2.2.symm⟩,λx y ⟨hx,hy,e⟩=>?_,λx y ⟨hx,hy,e⟩ o ho=>?_⟩
 ·have l3:=ma.l3
  have gx:mkAt mk x∈mk:=K03 (z2t (show x<mk.length by omega))
  have gy:mkAt mk y∈mk:=K03 (z2t (show y<mk.length by omega))
  have good:∀{l:List Str},l∈mk->∀s∈l,s≠"":=λhl s hs e=>by
   have:=(ma.m1 _ hl).good s hs
   rw [e] at this
   exact absurd this.1 (by decide)
  have go:∀{x y:Nat},x<st.length->y<st.length->keyOf bl x=keyOf bl y->mkAt mk x∈mk->∀s∈mkAt mk x,s∈mkAt mk y:=λ{x y} hx hy e gx s hs=>by
   have h:=z68 b dn hx hy e (d:=.str s) (.inl ⟨x,(b.at_ hx).2,s,hs,rfl⟩)
   have h:bear s mk x=bear s mk y:=h
   unfold bear at h
   rw [decide_eq_false (good gx s hs),K5y,K5y] at h
   have hs':s∈(mk[x]?).getD []:=hs
   rw [decide_eq_true hs'] at h
   exact of_decide_eq_true h.symm
  exact z5O (ma.m1 _ gx).rise (ma.m1 _ gy).rise λs=>⟨go hx hy e gx s,go hy hx e.symm gy s⟩
 ·have ol:o<st.length:=z4o (z4T ma) ho
  have kin:=b.keyin ol
  have h:=z68 b dn hx hy e (d:=.int (keyOf bl o:Nat)) (.inr ⟨_,rfl,kin⟩)
  have h1:bel st mk bl (.int (keyOf bl o:Nat)) x=true:=by
   show (nx st x).any _=true
   rw [K1m]
   exact ⟨o,ho,decide_eq_true (by rw [K0k];exact (b.at_ ol).2)⟩
  rw [h1] at h
  have h:(nx st y).any (λt=>decide (t∈FT.blk bl ((keyOf bl o:Nat):Int).toNat))=true:=h.symm
  rw [K1m] at h
  obtain ⟨t,ht,q⟩:=h
  have q:=of_decide_eq_true q
  rw [K0k,b.in_blk kin] at q
  exact ⟨t,ht,ol,q.1,q.2.symm⟩
def kvB (bl:Bl):List (Key×D):=bl.map λp=>(.inl (p.1:Int),.tup (stD p.2))
theorem zr5 (bl:Bl):z21 (kvB bl)=stD (bl.map (·.1)):=by unfold z21 kvB stD;rw [K0o,K0o];rfl
theorem inl_inj {a b:Nat}:((.inl (a:Int):Key)=.inl (b:Int))↔a=b:=by
 constructor
 ·intro h;injection h with h;omega
 ·rintro rfl;rfl
theorem lkB {bl:Bl}{k:Nat}(h:k∈bl.map (·.1)):lkD (kvB bl) (.inl (k:Int))=.(g ((stD (blk bl k)))):=by
 unfold lkD kvB blk
 rw [List.find?_map]
 have:((λkv:Key×D=>decide (kv.1=.inl (k:Int))) ∘ λp:Nat×List Nat=>((.inl (p.1:Int):Key),D.tup (stD p.2)))=λp=>decide (p.1=k):=by
  funext p
  show decide ((.inl (p.1:Int):Key)=.inl (k:Int))=_
  rw [decide_eq_decide]
  exact inl_inj
 rw [this]
 cases e:bl.find? λp=>decide (p.1=k) with
 | none =>
  rw [K54] at e
  obtain ⟨p,hp,q⟩:=K04.mp h
  exact absurd (by simpa using q) (e p hp)
 | some q=>rfl
theorem ptB (bl:Bl) (k:Nat) (b:List Nat):ptD (kvB bl) (.inl (k:Int)) (.tup (stD b))=kvB (putB bl k b):=by
 unfold ptD putB kvB
 have e:((bl.map λp=>((.inl (p.1:Int):Key),D.tup (stD p.2))).any λkv=>decide (kv.1=.inl (k:Int)))=bl.any λp=>decide (p.1=k):=by
  rw [List.any_map]
  congr 1
  funext p
  show decide ((.inl (p.1:Int):Key)=.inl (k:Int))=_
  rw [decide_eq_decide]
  exact inl_inj
 rw [e]
 by_cases c:(bl.any λp=>decide (p.1=k))=true
 ·rw [if_pos c,if_pos c,K0o,K0o]
  refine K2f λp _=>?_
  show (if (.inl (p.1:Int):Key)=.inl (k:Int) then _ else _)=_
  by_cases q:p.1=k
  ·rw [if_pos (inl_inj.mpr q)]
   show _=((.inl ((if p.1=k then (k,b) else p).1:Int):Key),D.tup (stD (if p.1=k then (k,b) else p).2))
   rw [if_pos q]
   show ((.inl (p.1:Int):Key),D.tup (stD b))=_
   rw [q]
  ·rw [if_neg (λz=>q (inl_inj.mp z))]
   show _=((.inl ((if p.1=k then (k,b) else p).1:Int):Key),D.tup (stD (if p.1=k then (k,b) else p).2))
   rw [if_neg q]
 ·rw [if_neg c,if_neg c,K3d]
  rfl
theorem refB {n:Nat}(bl:Bl):J5 n ((kvB bl).map (·.2))=true:=by
 unfold kvB
 rw [K0o]
 exact z03 λp=>z4O _
def Dic (h:AH) (b:Nat) (bl:Bl):Prop:=h[b]?=some (.dK (kvB bl))∨h[b]?=some (.dF (kvB bl))
theorem Dic.app {h:AH}{b:Nat}{bl:Bl}(d:Dic h b bl) (j:AH):Dic (h++j) b bl:=d.imp (λe=>x5 e) λe=>x5 e
theorem Dic.lt {h:AH}{b:Nat}{bl:Bl}(d:Dic h b bl):b<h.length:=by rcases d with d|d<;>exact (K5.mp d).1
theorem Dic.get {h:AH}{b:Nat}{bl:Bl}(d:Dic h b bl) {k:Nat}(hk:k∈bl.map (·.1)):z3I (.ref b) (.int (k:Nat)) h=.ok (.tup (stD (blk bl k))) h:=by
 have g:getK b h=.ok (kvB bl) h:=by rcases d with d|d<;>(unfold getK;rw [d])
 unfold z3I
 show (getK b >>= _) h=_
 rw [M.bind_ok g]
 show (match lkD (kvB bl) (.inl (k:Int)) with|some d=>pure d|none=>bad) h=_
 rw [lkB hk]
 rfl
theorem Dic.dk {h:AH}{b:Nat}{bl:Bl}(d:Dic h b bl):z47 b h=.ok (kvB bl) h:=by rcases d with d|d<;>(unfold z47;rw [d])
theorem Dic.walk {h:AH}{b:Nat}{bl:Bl}(d:Dic h b bl) {ma:G->M D}{γ:G}{h0:AH}(e:ma γ h0=.ok (.ref b) h):iDic ma γ h0=.ok (.con (stD (bl.map (·.1)))) (h.set b (.dF (kvB bl))):=by
 unfold iDic
 rw [M.bind_ok e]
 dsimp only
 rcases d with d|d
 ·rw [d]
  dsimp only
  rw [zr5]
 ·rw [d]
  dsimp only
  rw [zr5]
  congr 1
  refine K1x λi=>?_
  by_cases q:b=i
  ·subst q
   rw [K19 (K5.mp d).1,d]
  ·rw [K15 q]
theorem Dic.set {h:AH}{b:Nat}{bl:Bl}(d:Dic h b bl):Dic (h.set b (.dF (kvB bl))) b bl:=.inr (K19 d.lt)
theorem z2j {m:M D}{h h0:AH}{i:Nat}{o:O}{j:AH}(e:m h=.ok (.ref i) (h0++j)) (l0:h0.length=h.length) (kp:Kept h h0) (hi:h.length≤i) (ei:(h0++j)[i]?=some o) (c:refO h.length o=true):cln m h=.ok (.ref h.length) (h0++[o]):=by
 have kp':Kept h (h0++j):=λi o li e=>kp i o li (by rw [K0s (by omega)] at e;exact e)
 unfold cln
 rw [e]
 dsimp only
 rw [if_pos ⟨by rw [K08];omega,kp'⟩,if_neg (by simp only [J7,decide_eq_true_eq];omega),ei]
 dsimp only
 rw [if_pos c,← l0,Z0f rfl]
theorem zw7 {m:M D}{h h0:AH}{d:D}{j:AH}(e:m h=.ok d (h0++j)) (l0:h0.length=h.length) (kp:Kept h h0) (c:J7 0 d=true):cln m h=.ok d h0:=by
 have kp':Kept h (h0++j):=λi o li e=>kp i o li (by rw [K0s (by omega)] at e;exact e)
 unfold cln
 rw [e]
 dsimp only
 rw [if_pos ⟨by rw [K08];omega,kp'⟩,if_pos (z2m (K3g _) c),← l0,Z0f rfl]
theorem z81 {h:AH}{b:Nat}{o:O}(c:refO h.length o=true):Kept h (h.set b o):=λi u li e=>by
 by_cases q:b=i
 ·subst q
  rw [K19 li] at e
  cases e
  exact .inr c
 ·rw [K15 q] at e
  exact .inl e
theorem z2W (h:AH):Kept h h:=λ_ _ _ e=>.inl e
theorem z9o {kvs:List (Key×D)}{k:Key}{v:D}(h:k∉kvs.map (·.1)):ptD kvs k v=kvs++[(k,v)]:=by
 unfold ptD
 rw [if_neg]
 rw [K1m]
 rintro ⟨p,hp,q⟩
 exact h (K04.mpr ⟨p,hp,of_decide_eq_true q⟩)
section
variable {cap:List (Option Nat)}{mi mi1:G->M Src}{g g1:D->G->M G}{kb:G->M Bool}{me mv:G->M D}{γ:G}
theorem z8I {h:AH}{n:Nat}{kvs:List (Key×D)}{y v:D}{k:Key}(e:h[n]?=some (.dK kvs)) (hk:keyD y=some k) (hl:kvs.length<1000000) (nk:k∉kvs.map (·.1)):z8n n y v h=.ok () (h.set n (.dK (kvs++[(k,v)]))):=by
 unfold z8n z6M
 dsimp only
 rw [hk]
 dsimp only
 rw [e]
 dsimp only
 rw [if_pos (K0l hl (by decide)),z9o nk]
theorem z5t {γ':G}(f:D->Key×D) (src:Src) (h1:AH) (hg:∀j,src.good (h1++j)):∀(rest:List D) (kvs:List (Key×D)),(kvs.map (·.1)++rest.map λd=>(f d).1).Nodup->kvs.length+rest.length≤1000 ->
 (∀d∈rest,∃γ1 y,(∀h,g d γ' h=.ok γ1 h)/\(∀h,kb γ1 h=.ok true h)/\keyD y=some (f d).1/\(∀j,me γ1 (h1++j)=.ok y (h1++j))/\∀j,mv γ1 (h1++j)=.ok (f d).2 (h1++j)) ->
 z22 src g kb me mv h1.length γ' rest (h1++[.dK kvs])=.ok () (h1++[.dK (kvs++rest.map f)])
 | [],kvs,nd,hl,hd=>by
  unfold z22
  have c1:src.chk (h1++[.dK kvs])=.ok () (h1++[.dK kvs]):=by unfold Src.chk;rw [if_pos (hg _)]
  rw [M.bind_ok c1]
  simp
 | d::rest,kvs,nd,hl,hd=>by
  obtain ⟨γ1,y,e1,e2,e3,e4,e5⟩:=hd d (by simp)
  have nk:(f d).1∉kvs.map (·.1):=λq=>(K3h.mp nd).2.2 _ q _ (by simp) rfl
  have c1:src.chk (h1++[.dK kvs])=.ok () (h1++[.dK kvs]):=by unfold Src.chk;rw [if_pos (hg _)]
  have c5:=z8I (n:=h1.length) (v:=(f d).2) (J2 (h:=h1) (o:=.dK kvs)) e3 (by rw [K07] at hl;omega) nk
  rw [z2C] at c5
  have ih:=z5t (γ':=γ') f src h1 hg rest (kvs++[f d]) (by rw [K3d,K02];exact nd) (by rw [K08];simp at hl ⊢;omega) λx hx=>hd x (by simp [hx])
  unfold z22
  rw [M.bind_ok c1,M.bind_ok (e1 _),M.bind_ok (e2 _),if_pos rfl,M.bind_ok (e4 _),M.bind_ok (e5 _),M.bind_ok c5,ih]
  simp
theorem zt1 {h h1:AH}{src:Src}(f:D->Key×D) (hi:mi γ h=.ok src h1) (hg:∀j,src.good (h1++j)) (nd:(src.items.map λd=>(f d).1).Nodup) (hl:src.items.length≤1000)
 (hd:∀d∈src.items,∃γ1 y,(∀h,g d (capG cap γ) h=.ok γ1 h)/\(∀h,kb γ1 h=.ok true h)/\keyD y=some (f d).1/\(∀j,me γ1 (h1++j)=.ok y (h1++j))/\∀j,mv γ1 (h1++j)=.ok (f d).2 (h1++j)) :
 za6 cap mi g kb me mv γ h=.ok (.ref h1.length) (h1++[.dK (src.items.map f)]):=by
 have r:=z5t (γ':=capG cap γ) (kb:=kb) (me:=me) (mv:=mv) (g:=g) f src h1 hg src.items [] (by simpa using nd) (by simpa using hl) hd
 unfold za6
 rw [M.bind_ok hi]
 show (z22 src g kb me mv h1.length (capG cap γ) src.items >>= λ_=>(pure (D.ref h1.length):M D)) (h1++[O.dK []])=_
 rw [M.bind_ok r]
 simp
theorem z69 {γ':G}(ys:D->List D) (f:D->D->Key×D) (src:Src) (h1:AH) (hg:∀j,src.good (h1++j)):∀(rest:List D) (kvs:List (Key×D)),(kvs.map (·.1)++rest.flatMap λd=>(ys d).map λy=>(f d y).1).Nodup->kvs.length+(rest.flatMap ys).length≤1000 ->
 (∀d∈rest,∃γ1,(∀h,g d γ' h=.ok γ1 h)/\(∀j,mi1 γ1 (h1++j)=.ok (.con (ys d)) (h1++j))/\∀y∈ys d,∃γ2 z,(∀h,g1 y γ1 h=.ok γ2 h)/\(∀h,kb γ2 h=.ok true h)/\keyD z=some (f d y).1/\(∀j,me γ2 (h1++j)=.ok z (h1++j))/\∀j,mv γ2 (h1++j)=.ok (f d y).2 (h1++j)) ->
 z2J src g mi1 g1 kb me mv h1.length γ' rest (h1++[.dK kvs])=.ok () (h1++[.dK (kvs++rest.flatMap λd=>(ys d).map (f d))])
 | [],kvs,nd,hl,hd=>by
  unfold z2J
  have c1:src.chk (h1++[.dK kvs])=.ok () (h1++[.dK kvs]):=by unfold Src.chk;rw [if_pos (hg _)]
  rw [M.bind_ok c1]
  simp
 | d::rest,kvs,nd,hl,hd=>by
  obtain ⟨γ1,e1,e2,e3⟩:=hd d (by simp)
  have c1:src.chk (h1++[.dK kvs])=.ok () (h1++[.dK kvs]):=by unfold Src.chk;rw [if_pos (hg _)]
  rw [K2b,← K02] at nd
  rw [K2b,K08] at hl
  have inn:=z5t (γ':=γ1) (g:=g1) (kb:=kb) (me:=me) (mv:=mv) (f d) (.con (ys d)) h1 (λ_=>trivial) (ys d) kvs (List.Nodup.sublist (K4x _ _) nd) (by omega) e3
  have ih:=z69 (γ':=γ') ys f src h1 hg rest (kvs++(ys d).map (f d)) (by
   rw [K3d,K0o]
   exact nd) (by rw [K08,K00];omega) λx hx=>hd x (by simp [hx])
  unfold z2J
  rw [M.bind_ok c1,M.bind_ok (e1 _),M.bind_ok (e2 _)]
  have inn':z22 (Src.con (ys d)) g1 kb me mv h1.length γ1 (Src.con (ys d)).items (h1++[.dK kvs])=_:=inn
  rw [M.bind_ok inn',ih,K2b,K02]
theorem zj8 {h h1:AH}{src:Src}(ys:D->List D) (f:D->D->Key×D) (hi:mi γ h=.ok src h1) (hg:∀j,src.good (h1++j)) (nd:(src.items.flatMap λd=>(ys d).map λy=>(f d y).1).Nodup) (hl:(src.items.flatMap ys).length≤1000)
 (hd:∀d∈src.items,∃γ1,(∀h,g d (capG cap γ) h=.ok γ1 h)/\(∀j,mi1 γ1 (h1++j)=.ok (.con (ys d)) (h1++j))/\∀y∈ys d,∃γ2 z,(∀h,g1 y γ1 h=.ok γ2 h)/\(∀h,kb γ2 h=.ok true h)/\keyD z=some (f d y).1/\(∀j,me γ2 (h1++j)=.ok z (h1++j))/\∀j,mv γ2 (h1++j)=.ok (f d y).2 (h1++j)) :
 z5j cap mi g mi1 g1 kb me mv γ h=.ok (.ref h1.length) (h1++[.dK (src.items.flatMap λd=>(ys d).map (f d))]):=by
 have r:=z69 (γ':=capG cap γ) (mi1:=mi1) (g1:=g1) (kb:=kb) (me:=me) (mv:=mv) (g:=g) ys f src h1 hg src.items [] (by simpa using nd) (by simpa using hl) hd
 unfold z5j
 rw [M.bind_ok hi]
 show (z2J src g mi1 g1 kb me mv h1.length (capG cap γ) src.items >>= λ_=>(pure (D.ref h1.length):M D)) (h1++[O.dK []])=_
 rw [M.bind_ok r]
 simp
theorem z7C {γ':G}(ys:D->List D) (src:Src) (h1:AH) (hg:∀j,src.good (h1++j)):∀(rest acc:List D),acc.length+(rest.flatMap ys).length≤1000000 ->
 (∀d∈rest,∃γ1,(∀h,g d γ' h=.ok γ1 h)/\(∀j,mi1 γ1 (h1++j)=.ok (.con (ys d)) (h1++j))/\∀y∈ys d,∃γ2,(∀h,g1 y γ1 h=.ok γ2 h)/\(∀h,kb γ2 h=.ok true h)/\∀j,me γ2 (h1++j)=.ok y (h1++j)) ->
 z4d src g mi1 g1 kb me h1.length γ' rest (h1++[.lst acc])=.ok () (h1++[.lst (acc++rest.flatMap ys)])
 | [],acc,hl,hd=>by unfold z4d Src.chk;simp [hg]
 | d::rest,acc,hl,hd=>by
  obtain ⟨γ1,e1,e2,e3⟩:=hd d (by simp)
  rw [K2b,K08] at hl
  have chk:src.chk (h1++[.lst acc])=.ok () (h1++[.lst acc]):=by unfold Src.chk;simp [hg]
  unfold z4d
  rw [M.bind_ok chk,M.bind_ok (e1 _),M.bind_ok (e2 _)]
  have q:=z3O (g:=g1) (k:=kb) (me:=me) (γ:=γ1) (p:=λ_=>true) (f:=λy=>y) (.con (ys d)) h1 (λ_=>trivial) (ys d) acc (by omega) λy hy=>by
   obtain ⟨γ2,a1,a2,a3⟩:=e3 y hy
   exact ⟨γ2,a1,λj=>a2 _,λ_=>a3⟩
  have q':z2K (Src.con (ys d)) g1 kb me h1.length γ1 (Src.con (ys d)).items (h1++[.lst acc])=_:=q
  rw [M.bind_ok q',filter_tt,K9g,z7C ys src h1 hg rest _ (by rw [K08];omega) λy hy=>hd y (by simp [hy]),K2b,K02]
theorem zA4 {h h1:AH}{src:Src}(ys:D->List D) (hi:mi γ h=.ok src h1) (hg:∀j,src.good (h1++j)) (hl:(src.items.flatMap ys).length≤1000000)
 (hd:∀d∈src.items,∃γ1,(∀h,g d (capG cap γ) h=.ok γ1 h)/\(∀j,mi1 γ1 (h1++j)=.ok (.con (ys d)) (h1++j))/\∀y∈ys d,∃γ2,(∀h,g1 y γ1 h=.ok γ2 h)/\(∀h,kb γ2 h=.ok true h)/\∀j,me γ2 (h1++j)=.ok y (h1++j)) :
 z8J cap mi g mi1 g1 kb me γ h=.ok (.ref h1.length) (h1++[.lst (src.items.flatMap ys)]):=by
 have e:=z7C (γ':=capG cap γ) (g:=g) (mi1:=mi1) (g1:=g1) (kb:=kb) (me:=me) ys src h1 hg src.items [] (by simpa using hl) hd
 unfold z8J
 rw [M.bind_ok hi]
 show (z4d src g mi1 g1 kb me h1.length (capG cap γ) src.items >>= λ_=>(pure (D.ref h1.length):M D)) (h1++[.lst []])=_
 rw [M.bind_ok e]
 rfl
end
theorem zn6 {m:M D}{h:AH}{d:D}(e:m h=.ok d h) (c:J7 0 d=true):cln m h=.ok d h:=z0u (j:=[]) (by rw [e,K1u]) (z2m (K3g h.length) c)
theorem z2P {ma:G->M D}{γ:G}{h:AH}{d:D}{T:String}{b:Bool}(e1:ma γ h=.ok d h) (e2':fIsi T d h=.ok (.bl b) h):eIsi T ma γ h=.ok (.bl b) h:=by
 unfold eIsi
 rw [M.bind_ok e1,e2']
theorem zS7 {me:G->M D}{γ:G}{h:AH}{bs:List Bool}(e:me γ h=.ok (.ref h.length) (h++[.lst (bs.map .bl)])):clE (Z6 (fAll true) (z8 me aNil)) γ h=.ok (.bl (bs.any id)) h :=
 z0u (j:=[.lst (bs.map .bl)]) (y4 e (by
  have g:getL h.length (h++[O.lst (bs.map .bl)])=.ok (bs.map .bl) (h++[O.lst (bs.map .bl)]):=by unfold getL;rw [J2]
  unfold fAll
  dsimp only
  rw [M.bind_ok g,z5v]
  rfl)) rfl
theorem zG8 {ma mv:G->M D}{γ:G}{h:AH}{k v:D}{kk:Key}(e1:ma γ (h++[.dK []])=.ok k (h++[.dK []])) (hk:keyD k=some kk) (e2':mv γ (h++[.dK []])=.ok v (h++[.dK []])):z7z ma mv γ h=.ok (.ref h.length) (h++[.dK [(kk,v)]]):=by
 unfold z7z
 show (ma γ >>= λk=>mv γ >>= λv=>putO h.length k v) (h++[O.dK []])=_
 rw [M.bind_ok e1,M.bind_ok e2']
 unfold putO
 rw [hk]
 dsimp only
 rw [J2]
 dsimp only
 rw [z2C]
theorem z6n {cap:List (Option Nat)}{mi:G->M Src}{g:D->G->M G}{kb:G->M Bool}{me:G->M D}{γ:G}{h h1:AH}{src:Src}{l:List Nat}(f:Nat->D) (hi:mi γ h=.ok src h1) (hs:src.items=stD l) (hg:∀j,src.good (h1++j)) (hl:l.length≤1000000)
 (hd:∀x∈l,∃γ1,(∀h,g (.int x) (capG cap γ) h=.ok γ1 h)/\(∀j,kb γ1 (h1++j)=.ok true (h1++j))/\∀j,me γ1 (h1++j)=.ok (f x) (h1++j)):Y3 cap mi g kb me γ h=.ok (.ref h1.length) (h1++[.lst (l.map f)]):=by
 have e:=z0B (mi:=λ_=>pure src) (cap:=cap) (g:=g) (kb:=kb) (me:=me) (γ:=γ) (h:=h1) (λ_=>true) f rfl hs hg hl λx hx=>by
  obtain ⟨γ1,a1,a2,a3⟩:=hd x hx
  exact ⟨γ1,a1,a2,λ_=>a3⟩
 rw [filter_tt] at e
 rw [← e]
 unfold Y3
 rw [M.bind_ok hi]
 rfl
def Sim (st:List (List Nat)) (mk:List (List Str)) (x y:Nat):Prop:=∃E,Stb st mk E/\E x y
abbrev Lk:=Nat×List Str×List Nat
def lkH (st:List (List Nat)) (mk:List (List Str)) (H:List Nat) (x:Nat):Lk:=(rowAt H x,mkAt mk x,setN ((nx st x).map (rowAt H)))
def lkE (l:Lk):D:=.tup [.int (l.1:Nat),.tup (l.2.1.map .str),.tup (stD l.2.2)]
theorem zm1 {h:AH}(a b:Lk):eqN 24 h (lkE a) (lkE b)=some (decide (a=b)):=by
 obtain ⟨a1,a2,a3⟩:=a
 obtain ⟨b1,b2,b3⟩:=b
 have e1:eqN 23 h (.int (a1:Nat)) (.int (b1:Nat))=some (decide (a1=b1)):=z1z a1 b1
 have e2:eqN 23 h (.tup (a2.map .str)) (.tup (b2.map .str))=some (decide (a2=b2)):=z3l z5w a2 b2
 have e3:eqN 23 h (.tup (stD a3)) (.tup (stD b3))=some (decide (a3=b3)):=z3l (enc:=λ(i:Nat)=>.int i) z1z a3 b3
 show eqZ (eqN 23 h) _ _=_
 unfold eqZ
 rw [e1]
 unfold eqZ
 rw [e2]
 unfold eqZ
 rw [e3]
 show some _=_
 rw [K6z,K0z]
 simp only [K0j,decide_eq_true_eq,Prod.mk.injEq,and_true]
def z1l (st:List (List Nat)) (mk:List (List Str)) (H:List Nat):List Nat:=(K8 st.length).map λx=>((K8 st.length).map (lkH st mk H)).idxOf (lkH st mk H x)
def j7 (st:List (List Nat)) (mk:List (List Str)):Nat->List Nat
 | 0=>K0d st.length 0
 | k+1=>z1l st mk (j7 st mk k)
structure CanH (n:Nat) (H:List Nat):Prop where
 len:H.length=n
 le:∀x,x<n->rowAt H x≤x
 fix:∀x,x<n->rowAt H (rowAt H x)=rowAt H x
theorem z7v {α:Type} [BEq α] [LawfulBEq α]:∀{l:List α}{i:Nat}{x:α},l[i]?=some x->l.idxOf x≤i
 | [],i,x,h=>by simp at h
 | y::r,0,x,h=>by simp at h;subst h;simp
 | y::r,i+1,x,h=>by
  rw [K4y]
  cases e:y==x with
  | true=>simp
  | false =>
   have:=z7v (l:=r) (i:=i) (x:=x) (by simpa using h)
   simp only [cond_false]
   omega
section
variable {st:List (List Nat)}{mk:List (List Str)}{H:List Nat}
theorem z51 {x:Nat}(hx:x<st.length):rowAt (z1l st mk H) x=((K8 st.length).map (lkH st mk H)).idxOf (lkH st mk H x):=z1U (by unfold z1l;rw [K0e,K1p hx];rfl)
theorem z5a {x:Nat}(hx:x<st.length):((K8 st.length).map (lkH st mk H))[x]?=some (lkH st mk H x):=by rw [K0e,K1p hx];rfl
theorem z3u {x:Nat}(hx:x<st.length):rowAt (z1l st mk H) x≤x:=by rw [z51 hx];exact z7v (z5a hx)
theorem z2e {x:Nat}(hx:x<st.length):lkH st mk H (rowAt (z1l st mk H) x)=lkH st mk H x:=by
 have l:=K25 (z3u (mk:=mk) (H:=H) hx) hx
 have e:=z5a (mk:=mk) (H:=H) l
 rw [z51 hx] at e ⊢
 have m:lkH st mk H x∈(K8 st.length).map (lkH st mk H):=K03 (z5a hx)
 have il:=K14.mpr m
 rw [K4 il,K53 il] at e
 exact (K13 e).symm
theorem z31 {x y:Nat}(hx:x<st.length) (hy:y<st.length):rowAt (z1l st mk H) x=rowAt (z1l st mk H) y↔lkH st mk H x=lkH st mk H y:=by
 constructor
 ·intro e
  rw [← z2e (H:=H) hx,← z2e (H:=H) hy,e]
 ·intro e
  rw [z51 hx,z51 hy,e]
theorem next_can:CanH st.length (z1l st mk H):=⟨by unfold z1l;simp,λx hx=>z3u hx,λx hx=>(z31 (K25 (z3u hx) hx) hx).mpr (z2e hx)⟩
theorem z1P:∀k,CanH st.length (j7 st mk k)
 | 0=>by
  have z:∀x,rowAt (K0d st.length 0) x=0:=λx=>by
   unfold rowAt
   rw [K27]
   split<;>rfl
  exact ⟨by simp [j7],λx _=>by show rowAt (K0d st.length 0) x≤x;rw [z];omega,λx _=>by show rowAt (K0d st.length 0) _=rowAt (K0d st.length 0) _;rw [z,z]⟩
 | k+1=>next_can
theorem zp2 {α:Type}{p q:α->Bool}:∀{l:List α},(∀x∈l,p x=true->q x=true)->(l.filter p).length≤(l.filter q).length/\((l.filter p).length=(l.filter q).length->∀x∈l,q x=true->p x=true)
 | [],_=>⟨K01 _,λ_ x hx=>by cases hx⟩
 | a::l,h=>by
  obtain ⟨i1,i2⟩:=zp2 (l:=l) λx hx=>h x (by simp [hx])
  have ha:=h a (by simp)
  cases e1:p a with
  | true =>
   have e2:=ha e1
   rw [K5c e1,K5c e2]
   refine ⟨by simpa using i1,λe x hx q=>?_⟩
   rcases K0v.mp hx with rfl|hx
   ·exact e1
   ·exact i2 (by simpa using e) x hx q
  | false =>
   rw [K7s (by simp [e1])]
   cases e2:q a with
   | true =>
    rw [K5c e2]
    refine ⟨by rw [K07];omega,λe=>?_⟩
    rw [K07] at e
    omega
   | false =>
    rw [K7s (by simp [e2])]
    refine ⟨i1,λe x hx q=>?_⟩
    rcases K0v.mp hx with rfl|hx
    ·rw [e2] at q;cases q
    ·exact i2 e x hx q
def repN (n:Nat) (H:List Nat):Nat:=((K8 n).filter λx=>decide (rowAt H x=x)).length
theorem zg8 (c:CanH st.length H):repN st.length H≤repN st.length (z1l st mk H)/\(repN st.length H=repN st.length (z1l st mk H)->z1l st mk H=H):=by
 have mono:∀x∈K8 st.length,decide (rowAt H x=x)=true->decide (rowAt (z1l st mk H) x=x)=true:=λx hx e=>by
  have hx:=K0r.mp hx
  have e:=of_decide_eq_true e
  have l:=K25 (z3u (mk:=mk) (H:=H) hx) hx
  have lk:=congrArg Prod.fst (z2e (mk:=mk) (H:=H) hx)
  have lk:rowAt H (rowAt (z1l st mk H) x)=rowAt H x:=lk
  have a1:=c.le _ l
  have a2:=z3u (mk:=mk) (H:=H) hx
  exact decide_eq_true (by omega)
 obtain ⟨h1,h2⟩:=zp2 mono
 refine ⟨h1,λe=>?_⟩
 have back:=h2 e
 refine K1x λx=>?_
 by_cases hx:x<st.length
 ·rw [z1G (show x<(z1l st mk H).length by rw [next_can.len];exact hx),z1G (show x<H.length by rw [c.len];exact hx)]
  congr 1
  have l:=K25 (z3u (mk:=mk) (H:=H) hx) hx
  have r:=of_decide_eq_true (back _ (K0r.mpr l) (decide_eq_true (next_can.fix x hx)))
  have lk:rowAt H (rowAt (z1l st mk H) x)=rowAt H x:=congrArg Prod.fst (z2e (mk:=mk) (H:=H) hx)
  omega
 ·rw [K0i (by rw [next_can.len];omega),K0i (by rw [c.len];omega)]
theorem z4Q (hn:1≤st.length):∀k,(∃j,j<k/\j7 st mk (j+1)=j7 st mk j)∨k+1≤repN st.length (j7 st mk k)
 | 0=>.inr (by
  unfold repN
  refine K5p (a:=0) (K0h.mpr ⟨K0r.mpr (by omega),decide_eq_true ?_⟩)
  have:=(z1P (st:=st) (mk:=mk) 0).le 0 (by omega)
  omega)
 | k+1=>by
  rcases z4Q hn k with ⟨j,hj,e⟩|h
  ·exact .inl ⟨j,by omega,e⟩
  ·obtain ⟨h1,h2⟩:=zg8 (mk:=mk) (z1P (st:=st) (mk:=mk) k)
   by_cases q:repN st.length (j7 st mk k)=repN st.length (z1l st mk (j7 st mk k))
   ·exact .inl ⟨k,by omega,h2 q⟩
   ·exact .inr (by show k+1+1≤repN st.length (z1l st mk (j7 st mk k));omega)
theorem z4M {j:Nat}(e:j7 st mk (j+1)=j7 st mk j):∀i,j7 st mk (j+i)=j7 st mk j
 | 0=>rfl
 | i+1=>by
  show z1l st mk (j7 st mk (j+i))=_
  rw [z4M e i]
  exact e
theorem z5F (hn:1≤st.length):z1l st mk (j7 st mk st.length)=j7 st mk st.length:=by
 rcases z4Q (mk:=mk) hn st.length with ⟨j,hj,e⟩|h
 ·have s:=z4M e
  have a1:=s (st.length - j)
  rw [show j+(st.length - j)=st.length by omega] at a1
  rw [a1]
  exact e
 ·have:=K1z (λx=>decide (rowAt (j7 st mk st.length) x=x)) (K8 st.length)
  unfold repN at h
  rw [K1q] at this
  omega
theorem z52 {E:Nat->Nat->Prop}(s:Stb st mk E):∀k x y,E x y->rowAt (j7 st mk k) x=rowAt (j7 st mk k) y
 | 0,x,y,e=>by
  obtain ⟨hx,hy⟩:=s.lt x y e
  have a:=(z1P (st:=st) (mk:=mk) 0)
  show rowAt (K0d st.length 0) x=rowAt (K0d st.length 0) y
  unfold rowAt
  rw [K27,K27,if_pos hx,if_pos hy]
 | k+1,x,y,e=>by
  obtain ⟨hx,hy⟩:=s.lt x y e
  refine (z31 hx hy).mpr ?_
  unfold lkH
  rw [z52 s k x y e,s.marks x y e]
  congr 2
  have go:∀x y,E x y->∀u,u∈(nx st x).map (rowAt (j7 st mk k))->u∈(nx st y).map (rowAt (j7 st mk k)):=λx y e u hu=>by
   obtain ⟨o,ho,rfl⟩:=K04.mp hu
   obtain ⟨t,ht,et⟩:=s.steps x y e o ho
   exact K04.mpr ⟨t,ht,(z52 s k o t et).symm⟩
  exact zl0 λu=>⟨go x y e u,go y x (s.sym x y e) u⟩
theorem z95 (sq:SQ st) {x y:Nat}(hx:x<st.length) (hy:y<st.length):rowAt (j7 st mk st.length) x=rowAt (j7 st mk st.length) y↔Sim st mk x y:=by
 constructor
 ·intro e
  refine ⟨λx y=>x<st.length/\y<st.length/\rowAt (j7 st mk st.length) x=rowAt (j7 st mk st.length) y,⟨λx y h=>⟨h.1,h.2.1⟩,λx y h=>⟨h.2.1,h.1,h.2.2.symm⟩,λx y ⟨hx,hy,e⟩=>?_,λx y ⟨hx,hy,e⟩ o ho=>?_⟩,hx,hy,e⟩
  ·rw [← z5F sq.l1] at e
   have:=(z31 hx hy).mp e
   exact congrArg (λl:Lk=>l.2.1) this
  ·have e':=e
   rw [← z5F sq.l1] at e'
   have:=congrArg (λl:Lk=>l.2.2) ((z31 hx hy).mp e')
   have this:setN ((nx st x).map (rowAt (j7 st mk st.length)))=setN ((nx st y).map (rowAt (j7 st mk st.length))):=this
   have m:rowAt (j7 st mk st.length) o∈setN ((nx st y).map (rowAt (j7 st mk st.length))):=by
    rw [← this,z1r]
    exact K04.mpr ⟨o,ho,rfl⟩
   rw [z1r] at m
   obtain ⟨t,ht,et⟩:=K04.mp m
   exact ⟨t,ht,z4o sq ho,z4o sq ht,et.symm⟩
 ·rintro ⟨E,s,e⟩
  exact z52 s _ x y e
end
theorem z3p {h:AH}{l:List Lk}{a:Lk}(ha:a∈l):inZ h (lkE a) (l.map lkE)=some true/\z35 h (lkE a) (l.map lkE)=l.idxOf a:=by
 have g:∀l:List Lk,inZ h (lkE a) (l.map lkE)=some (decide (a∈l)):=by
  intro l
  induction l with
  | nil=>rfl
  | cons b l ih =>
   rw [K0t]
   unfold inZ
   rw [zm1,ih]
   dsimp only
   show some (decide (b=a)||decide (a∈l))=some (decide (a∈b::l))
   congr 1
   rw [K0z,K22,decide_eq_true_eq,decide_eq_true_eq,decide_eq_true_eq,K0v]
   constructor
   ·rintro (e|e)
    ·exact .inl e.symm
    ·exact .inr e
   ·rintro (e|e)
    ·exact .inl e.symm
    ·exact .inr e
 refine ⟨by rw [g,decide_eq_true ha],?_⟩
 unfold z35 List.idxOf
 rw [List.findIdx_map]
 congr 1
 funext b
 show decide (eqN 24 h (lkE b) (lkE a)=some true)=(b==a)
 rw [zm1,K0z]
 simp
theorem z6R (l:List Lk):z0b (l.map lkE)=true:=by
 have ps:∀l:List Str,z0b (l.map .str)=true:=λl=>by
  induction l with
  | nil=>rfl
  | cons a l ih=>simp only [K0t,z0b,z0Z,ih,Bool.and_self]
 have pn:∀l:List Nat,z0b (stD l)=true:=λl=>by
  induction l with
  | nil=>rfl
  | cons a l ih =>
   show (z0Z (.int (a:Nat))&&z0b (stD l))=true
   rw [ih];rfl
 induction l with
 | nil=>rfl
 | cons a l ih =>
  simp only [K0t,z0b,ih,K5z]
  simp only [lkE,z0Z,z0b,ps,pn,Bool.and_self]
inductive Sy where
 | yes
 | mark (s:Str)
 | step (k:Nat)
 | neg (k:Nat)
 | con (a b:Nat)
abbrev Tru:=List (List Bool)
def tv (T:Tru) (i x:Nat):Bool:=(((T[i]?).getD [])[x]?).getD false
section
variable {st:List (List Nat)}{mk:List (List Str)}{R:List Sy}{r:Sy}{T S:Tru}{i x:Nat}{bl:Bl}
end
theorem zI8 {bl:Bl}{k:Nat}(h:k∉bl.map (·.1)):lkD (kvB bl) (.inl (k:Int))=none:=by
 unfold lkD
 rw [Option.map_eq_none_iff,K54]
 intro p hp z
 unfold kvB at hp
 obtain ⟨q,hq,rfl⟩:=K04.mp hp
 exact h (K04.mpr ⟨q,hq,inl_inj.mp (of_decide_eq_true z)⟩)
theorem Dic.inD {h:AH}{b:Nat}{bl:Bl}(d:Dic h b bl) {k:Nat}{neg:Bool}:fInD neg (.int (k:Nat)) (.ref b) h=.ok (.bl (decide (k∈bl.map (·.1)) != neg)) h:=by
 have g:getK b h=.ok (kvB bl) h:=by rcases d with d|d<;>(unfold getK;rw [d])
 unfold fInD
 show (getK b >>= _) h=_
 rw [M.bind_ok g]
 show Res.ok (D.bl ((lkD (kvB bl) (.inl (k:Int))).isSome != neg)) h=_
 by_cases q:k∈bl.map (·.1)
 ·rw [lkB q,decide_eq_true q];rfl
 ·rw [zI8 q,decide_eq_false q];rfl
abbrev Mx (K:K1) (mg:Str->Option Value) (x:Str):Prop:=∀v,K7v K K2h x=some (some v)->mg x=some v
abbrev Bnd (st:Stmt) (x:Str) (ps:List Str):Prop:=∀(kV doc pm:Value) (an:Option Addr) (cdv ct:Value) (us:List Value),us.length=ps.length->bindArgs (K3f x x (z2I st) (z0J st) (y0 st) .none kV doc pm an cdv ct) ⟨us,[]⟩=pure (ps.zip us)
def scB (N P:List Str) (sc:Scope):Bool:=sc.kind==.function&&!sc.isCoroutine&&!sc.isGenerator&&decide N.Nodup&&decide (P.length≤N.length)&&P.all (λx=>sc.names.lookup x==some .local||sc.names.lookup x==some .cell)&&sc.names.all λy=>y.2 != .free
theorem zJ3 {N:List Str}{n:Nat}{sc:Scope}(h:scB N (N.take n) sc=true):FnScope N (N.take n) sc:=by
 unfold scB at h
 simp only [K0j,K5k,decide_eq_true_eq] at h
 obtain ⟨⟨⟨⟨⟨⟨h1,h2⟩,h3⟩,h4⟩,h5⟩,h6⟩,h7⟩:=h
 refine ⟨by simpa using h1,h2,h3,h4,by simp,λx hx=>?_,λy hy=>?_⟩
 ·have:=K1o.mp h6 x hx
  rw [K22] at this
  rcases this with z|z
  ·exact .inl (by simpa using z)
  ·exact .inr (by simpa using z)
 ·have:=K1o.mp h7 y hy
  simpa using this
section
variable {P:K0n}{w:World}{K:K1}{mg:Str->Option Value}{base:Heap}{x:Str}{st:Stmt}{k n:Nat}
theorem dfN (N:List Str) (mb:G->M Out) (T:DefAt K x st) (mx:Mx K mg x) (hs:scB N (N.take n) (y0 st)=true) (hn:(N.take n).length=n) (hb:Bnd st x (N.take n))
 (body:∀{f:Addr} {cdv:Value} {A:Around} {outer:List Env} {s:Shared} {H:Hp} {E:XK},K3t K cdv x=true->Room k (A.deeper (envOfC x (y0 st) s.heap.objs.size f cdv))->N.Nodup ->
  SB (cxOf CX0 P w K mg base N x (y0 st) f cdv A outer s H E).nox EX0 (z0J st) mb):Fn P w K mg base (k+1) x n (runF N.length mb):=by
 obtain ⟨f,fd,hf,F⟩:=T
 exact zL0 F (zJ3 hs) (F.binds hb) (mx _ hf) hn λ_ _ _ _ _ _ hcd hr=>body hcd hr (zJ3 hs).nd
theorem dfC (N:List Str) (mb:G->M Out) (T:DefAt K x st) (mx:Mx K mg x) (hs:scB N (N.take n) (y0 st)=true) (hn:(N.take n).length=n) (hb:Bnd st x (N.take n))
 (body:∀{f:Addr} {cdv:Value} {A:Around} {outer:List Env} {s:Shared} {H:Hp} {E:XK},K3t K cdv x=true->Room k (A.deeper (envOfC x (y0 st) s.heap.objs.size f cdv))->N.Nodup ->
  SB (cxOf CX0 P w K mg base N x (y0 st) f cdv A outer s H E).nox EX0 (z0J st) mb):Fn P w K mg base (k+1) x n λds=>cln (runF N.length mb ds):=Fn.cln (dfN N mb T mx hs hn hb body)
end
variable {P:K0n}{w:World}{K:K1}{mg:Str->Option Value}{base:Heap}
def top (i:Nat):Stmt:=PySem.Challenge.pw_fairtrees_k66_whole_classes_are_the_coar.main.body.getD i (.Pass ⟨0,0,0,0⟩)
noncomputable def c_KEPT:D:=.tup [.str "yes",.str "no",.str "not",.str "and",.str "or",.str "step",.str "some",.str "all",.str "next",.str "once",.str "ever",.str "until",.str "unless"]
noncomputable def c_LONGEST:D:=.int 8
noncomputable def z1f:G->M Out :=
 (z9 (sRet (eAnd (eIsi "int" (eVar 0)) (eNot (eIsi "bool" (eVar 0))))) bNil)
noncomputable def z0q:List D->M D:=λds=>cln (runF 1 z1f ds)
theorem ok_is_number (T:DefAt K "is_number" (top 3)) (mx:Mx K mg "is_number") (F08:mg "bool" = none) (F0f:mg "int" = none) (F03:mg "isinstance" = none):Fn P w K mg base 1 "is_number" 1 z0q :=
 dfC ["thing"] z1f T mx (by decide +kernel) rfl (λ_ _ _ _ _ _ us hl=>(by obtain ⟨_,rfl⟩:=ar1 hl;rfl)) λhcd hr nd =>
  (z7 (y6 (z0I (z1Q rfl F03 rfl F0f (by decide +kernel) (by decide) (z0 0)) (z1R (za2 (z1Q rfl F03 rfl F08 (by decide +kernel) (by decide) (z0 0)))))) Z3)
noncomputable def v8:G->M Out :=
 (z9 (sRet (eAnd (eFn 1 z0q (z8 (eVar 0) aNil)) (e3 fLe fLe (eVar 1) (eVar 0) (eVar 2)))) bNil)
noncomputable def z0m:List D->M D:=λds=>cln (runF 3 v8 ds)
theorem ok_is_number_from (T:DefAt K "is_number_from" (top 4)) (mx:Mx K mg "is_number_from") (F0c:Fn P w K mg base 1 "is_number" 1 z0q):Fn P w K mg base 2 "is_number_from" 3 z0m :=
 dfC ["thing","least","most"] v8 T mx (by decide +kernel) rfl (λ_ _ _ _ _ _ us hl=>(by obtain ⟨_,_,_,rfl⟩:=ar3 hl;rfl)) λhcd hr nd =>
  (z7 (y6 (z0I (Z5 F0c (hr.mono (by decide)) rfl (z6 (z0 0) Z0)) (z1R (z9J z45 z45 (z0 1) (z0 0) (z0 2))))) Z3)
noncomputable def z1J:G->M Out :=
 (z9 (sRet (eIsi "str" (eVar 0))) bNil)
noncomputable def z1c:List D->M D:=λds=>cln (runF 1 z1J ds)
theorem ok_is_text (T:DefAt K "is_text" (top 5)) (mx:Mx K mg "is_text") (F03:mg "isinstance" = none) (F06:mg "str" = none):Fn P w K mg base 1 "is_text" 1 z1c :=
 dfC ["thing"] z1J T mx (by decide +kernel) rfl (λ_ _ _ _ _ _ us hl=>(by obtain ⟨_,rfl⟩:=ar1 hl;rfl)) λhcd hr nd =>
  (z7 (y6 (z1Q rfl F03 rfl F06 (by decide +kernel) (by decide) (z0 0))) Z3)
noncomputable def z1L:G->M Out :=
 (z9 (sIf (cOr (cNot (cVal (eFn 1 z1c (z8 (eVar 0) aNil)))) (cNot (λγ=>do let d ← e3 fLe fLe (λ_=>pure (.int 1)) (Z6 fLen (z8 (eVar 0) aNil)) (λ_=>pure c_LONGEST) γ;asB d))) (z9 (sRet (λ_=>pure (.bl false))) bNil) bNil) (z9 (sRet (eAnd (e2 (fIn true) (eVar 0) (λ_=>pure c_KEPT)) (clE (Z6 (fAll false) (z8 (Y3 [none] (iStr (eVar 0)) (gN 0) (λ_=>pure true) (e3 fLe fLe (λ_=>pure (.str "a")) (eVar 0) (λ_=>pure (.str "z")))) aNil))))) bNil))
noncomputable def z1j:List D->M D:=λds=>cln (runF 1 z1L ds)
theorem ok_is_name (T:DefAt K "is_name" (top 6)) (mx:Mx K mg "is_name") (C_KEPT:Cst K mg "KEPT" c_KEPT) (C_LONGEST:Cst K mg "LONGEST" c_LONGEST) (F0g:mg "all" = none) (F00:mg "len" = none) (F0q:Fn P w K mg base 1 "is_text" 1 z1c):Fn P w K mg base 2 "is_name" 1 z1j :=
 dfC ["thing"] z1L T mx (by decide +kernel) rfl (λ_ _ _ _ _ _ us hl=>(by obtain ⟨_,rfl⟩:=ar1 hl;rfl)) λhcd hr nd =>
  (z7 (s_if (SW.sc (z42 (z0k (z0c (Z5 F0q (hr.mono (by decide)) rfl (z6 (z0 0) Z0)))) (z3e (z0k (zR7 z45 z45 Z2 (J8 rfl F00 (z6 (z0 0) Z0)) (zm5 C_LONGEST rfl)))))) (z7 (y6 z2a) Z3) Z3) (z7 (y6 (z0I (se_c z33 (z0 0) (zm5 C_KEPT rfl)) (z1R (z1d (zo9 rfl rfl F0g (z6 (J9 (N':=["sign"]) (cap:=[none]) rfl (z0p (by first|rfl|kernel_rfl!)) (zm2 rfl (z0 0)) (λ_ _ _ _=>(Z9 0 (show (["sign"]:List Str).Nodup by decide +kernel))) (λ_ _ _ _=>Y8) (λ_ _ _ _=>(z9J z45 z45 J4 (z0 0) J4))) Z0)))))) Z3))
noncomputable def z1K:G->M Out :=
 (z9 (sRet (eIsi "tuple" (eVar 0))) bNil)
noncomputable def z15:List D->M D:=λds=>cln (runF 1 z1K ds)
theorem ok_is_tuple (T:DefAt K "is_tuple" (top 7)) (mx:Mx K mg "is_tuple") (F03:mg "isinstance" = none) (F01:mg "tuple" = none):Fn P w K mg base 1 "is_tuple" 1 z15 :=
 dfC ["thing"] z1K T mx (by decide +kernel) rfl (λ_ _ _ _ _ _ us hl=>(by obtain ⟨_,rfl⟩:=ar1 hl;rfl)) λhcd hr nd =>
  (z7 (y6 (z1Q rfl F03 rfl F01 (by decide +kernel) (by decide) (z0 0))) Z3)
noncomputable def z0A:G->M Out :=
 (z9 (sRet (eAnd (eFn 1 z15 (z8 (eVar 0) aNil)) (e3 fLe fLe (eVar 1) (Z6 fLen (z8 (eVar 0) aNil)) (eVar 2)))) bNil)
noncomputable def Y1:List D->M D:=λds=>cln (runF 3 z0A ds)
theorem ok_is_tuple_of (T:DefAt K "is_tuple_of" (top 8)) (mx:Mx K mg "is_tuple_of") (F00:mg "len" = none) (F0h:Fn P w K mg base 1 "is_tuple" 1 z15):Fn P w K mg base 2 "is_tuple_of" 3 Y1 :=
 dfC ["thing","least","most"] z0A T mx (by decide +kernel) rfl (λ_ _ _ _ _ _ us hl=>(by obtain ⟨_,_,_,rfl⟩:=ar3 hl;rfl)) λhcd hr nd =>
  (z7 (y6 (z0I (Z5 F0h (hr.mono (by decide)) rfl (z6 (z0 0) Z0)) (z1R (z9J z45 z45 (z0 1) (J8 rfl F00 (z6 (z0 0) Z0)) (z0 2))))) Z3)
noncomputable def z3L:G->M Out :=
 (z9 (sRet (clE (Z6 x4 (z8 (Z6 x8 (z8 (Z6 z1h (z8 (eVar 0) aNil)) aNil)) aNil)))) bNil)
noncomputable def z38:List D->M D:=λds=>cln (runF 1 z3L ds)
theorem ok_set_of (T:DefAt K "set_of" (top 10)) (mx:Mx K mg "set_of") (F07:mg "set" = none) (F05:mg "sorted" = none) (F01:mg "tuple" = none):Fn P w K mg base 1 "set_of" 1 z38 :=
 dfC ["standings"] z3L T mx (by decide +kernel) rfl (λ_ _ _ _ _ _ us hl=>(by obtain ⟨_,rfl⟩:=ar1 hl;rfl)) λhcd hr nd =>
  (z7 (y6 (z1d (z05 rfl F01 (z6 (z1H rfl rfl F05 (z6 (z2U rfl rfl F07 (z6 (z0 0) Z0)) Z0)) Z0)))) Z3)
noncomputable def z5i:G->M Out :=
 (z9 (sRet (eOr (e2 (fEq false) (eVar 2) (λ_=>pure (.str ""))) (e2 (fIn false) (eVar 2) (e2 fIx (e2 fIx (eVar 0) (λ_=>pure (.int 1))) (eVar 1))))) bNil)
noncomputable def z4a:List D->M D:=λds=>cln (runF 3 z5i ds)
theorem ok_bears (T:DefAt K "bears" (top 12)) (mx:Mx K mg "bears"):Fn P w K mg base 1 "bears" 3 z4a :=
 dfC ["machine","standing","name"] z5i T mx (by decide +kernel) rfl (λ_ _ _ _ _ _ us hl=>(by obtain ⟨_,_,_,rfl⟩:=ar3 hl;rfl)) λhcd hr nd =>
  (z7 (y6 (zo5 (se_c z66 (z0 2) J4) (z1R (se_c z8a (z0 2) (Z8 (Z8 (z0 0) Z2) (z0 1)))))) Z3)
noncomputable def z0l:G->M Out :=
 (z9 (sRet (z7z (λ_=>pure (.int 0)) (eRng true (Z6 fLen (z8 (e2 fIx (eVar 0) (λ_=>pure (.int 0))) aNil))))) bNil)
noncomputable def z02:List D->M D:=λds=>cln (runF 1 z0l ds)
theorem ok_first_blocks (T:DefAt K "first_blocks" (top 15)) (mx:Mx K mg "first_blocks") (F00:mg "len" = none) (F02:mg "range" = none) (F01:mg "tuple" = none):Fn P w K mg base 1 "first_blocks" 1 z02 :=
 dfC ["machine"] z0l T mx (by decide +kernel) rfl (λ_ _ _ _ _ _ us hl=>(by obtain ⟨_,rfl⟩:=ar1 hl;rfl)) λhcd hr nd =>
  (z7 (y6 (ze7 Z2 (zz0 rfl rfl F01 rfl F02 (J8 rfl F00 (z6 (Z8 (z0 0) Z2) Z0))))) Z3)
noncomputable def z3c:G->M Out :=
 (z9 (sIf (cVal (eIsi "str" (eVar 3))) (z9 (sRet (eFn 3 z4a (z8 (eVar 0) (z8 (eVar 2) (z8 (eVar 3) aNil))))) bNil) bNil) (z9 (sRet (clE (Z6 (fAll true) (z8 (Y3 [some 1,some 3,none] (z0o (e2 fIx (e2 fIx (eVar 0) (λ_=>pure (.int 0))) (eVar 2))) (gN 2) (λ_=>pure true) (e2 (fIn false) (eVar 2) (e2 z3I (eVar 0) (eVar 1)))) aNil)))) bNil))
noncomputable def z34:List D->M D:=λds=>cln (runF 4 z3c ds)
theorem ok_belongs (T:DefAt K "belongs" (top 18)) (mx:Mx K mg "belongs") (F0r:mg "any" = none) (F03:mg "isinstance" = none) (F06:mg "str" = none) (F0s:Fn P w K mg base 1 "bears" 3 z4a):Fn P w K mg base 2 "belongs" 4 z34 :=
 dfC ["machine","blocks","standing","by"] z3c T mx (by decide +kernel) rfl (λ_ _ _ _ _ _ us hl=>(by obtain ⟨_,_,_,_,rfl⟩:=ar4 hl;rfl)) λhcd hr nd =>
  (z7 (s_if (z0c (z1Q rfl F03 rfl F06 (by decide +kernel) (by decide) (z0 3))) (z7 (y6 (Z5 F0s (hr.mono (by decide)) rfl (z6 (z0 0) (z6 (z0 2) (z6 (z0 3) Z0))))) Z3) Z3) (z7 (y6 (z1d (zN1 rfl rfl F0r (z6 (J9 (N':=["blocks","by","other"]) (cap:=[some 1,some 3,none]) rfl (z0p (by first|rfl|kernel_rfl!)) (z0j (Z8 (Z8 (z0 0) Z2) (z0 2))) (λ_ _ _ _=>(Z9 2 (show (["blocks","by","other"]:List Str).Nodup by decide +kernel))) (λ_ _ _ _=>Y8) (λ_ _ _ _=>(se_c z8a (z0 2) (z2M (z4u hr) (z0 0) (z0 1))))) Z0)))) Z3))
noncomputable def z37:G->M Out :=
 (z9 (sAsg (clE (Z6 x4 (z8 (Y3 [some 0,some 1,some 3,none] (z0o (eVar 2)) (gN 3) (cVal (eFn 4 z34 (z8 (eVar 0) (z8 (eVar 1) (z8 (eVar 3) (z8 (eVar 2) aNil)))))) (eVar 3)) aNil))) (gN 4)) (z9 (sAsg (clE (Z6 x4 (z8 (Y3 [some 4,none] (z0o (eVar 2)) (gN 1) (λγ=>do let d ← e2 (fIn true) (eVar 1) (eVar 0) γ;asB d) (eVar 1)) aNil))) (gN 5)) (z9 (sRet (Y3 [none] (z0o (eTup (z8 (eVar 4) (z8 (eVar 5) aNil)))) (gN 0) (λγ=>do let d ← e2 fGt (Z6 fLen (z8 (eVar 0) aNil)) (λ_=>pure (.int 0)) γ;asB d) (eVar 0))) bNil)))
noncomputable def z1u:List D->M D:=λds=>cln (runF 6 z37 ds)
theorem ok_parted (T:DefAt K "parted" (top 17)) (mx:Mx K mg "parted") (F00:mg "len" = none) (F01:mg "tuple" = none) (F0t:Fn P w K mg base 2 "belongs" 4 z34):Fn P w K mg base 3 "parted" 4 z1u :=
 dfC ["machine","blocks","block","by","yes","no"] z37 T mx (by decide +kernel) rfl (λ_ _ _ _ _ _ us hl=>(by obtain ⟨_,_,_,_,rfl⟩:=ar4 hl;rfl)) λhcd hr nd =>
  (z7 (y9 4 nd (z1d (z05 rfl F01 (z6 (J9 (N':=["machine","blocks","by","standing"]) (cap:=[some 0,some 1,some 3,none]) rfl (z0p (by first|rfl|kernel_rfl!)) (z0j (z0 2)) (λ_ _ _ _=>(Z9 3 (show (["machine","blocks","by","standing"]:List Str).Nodup by decide +kernel))) (λ_ _ _ _=>(z0F (z0c (Z5 F0t (hr.mono (by decide)) rfl (z6 (z0 0) (z6 (z0 1) (z6 (z0 3) (z6 (z0 2) Z0)))))))) (λ_ _ _ _=>(z0 3))) Z0)))) (z7 (y9 5 nd (z1d (z05 rfl F01 (z6 (J9 (N':=["yes","standing"]) (cap:=[some 4,none]) rfl (z0p (by first|rfl|kernel_rfl!)) (z0j (z0 2)) (λ_ _ _ _=>(Z9 1 (show (["yes","standing"]:List Str).Nodup by decide +kernel))) (λ_ _ _ _=>(z0F (sc_c z33 (z0 1) (z0 0)))) (λ_ _ _ _=>(z0 1))) Z0)))) (z7 (y6 (J9 (N':=["part"]) (cap:=[none]) rfl (z0p (by first|rfl|kernel_rfl!)) (z0j (z3D (z6 (z0 4) (z6 (z0 5) Z0)))) (λ_ _ _ _=>(Z9 0 (show (["part"]:List Str).Nodup by decide +kernel))) (λ_ _ _ _=>(z0F (sc_c zi4 (J8 rfl F00 (z6 (z0 0) Z0)) Z2))) (λ_ _ _ _=>(z0 0)))) Z3)))
noncomputable def z16:G->M Out :=
 (z9 (sFor (iDic (eVar 1)) (gN 2) (z9 (sAsg (e2 z3I (eVar 1) (eVar 2)) (gN 3)) (z9 (zo6 4 [some 0,none,none] (z0o (eVar 3)) (gN 1) (z0o (e2 fIx (e2 fIx (eVar 0) (λ_=>pure (.int 1))) (eVar 1))) (gN 2) (λ_=>pure true) (eVar 2)) (z9 (sFor (z0h (eLst (z8L (eVar 4) (z4w (eVar 1) aNil)))) (gN 5) (z9 (sIf (λγ=>do let d ← e2 (fEq false) (Z6 fLen (z8 (eFn 4 z1u (z8 (eVar 0) (z8 (eVar 1) (z8 (eVar 3) (z8 (eVar 5) aNil))))) aNil)) (λ_=>pure (.int 2)) γ;asB d) (z9 (sRet (eTup (z8 (eVar 2) (z8 (eVar 5) aNil)))) bNil) bNil) bNil)) bNil)))) (z9 (sRet (λ_=>pure .non)) bNil))
noncomputable def z1E:List D->M D:=λds=>cln (runF 6 z16 ds)
theorem ok_next_cut (T:DefAt K "next_cut" (top 16)) (mx:Mx K mg "next_cut") (F00:mg "len" = none) (F09:Fn P w K mg base 3 "parted" 4 z1u):Fn P w K mg base 4 "next_cut" 2 z1E :=
 dfC ["machine","blocks","least","block","names","by"] z16 T mx (by decide +kernel) rfl (λ_ _ _ _ _ _ us hl=>(by obtain ⟨_,_,rfl⟩:=ar2 hl;rfl)) λhcd hr nd =>
  (z7 (z1n K0x rfl (zn4 (z0 1)) (j8 2 nd) (z7 (y9 3 nd (z2M (z4u hr) (z0 1) (z0 2))) (z7 (zq3 4 (N':=["machine","standing","name"]) (cap:=[some 0,none,none]) rfl (z0p (by first|rfl|kernel_rfl!)) (z0j (z0 3)) (λ_ _ _ _=>(Z9 1 (show (["machine","standing","name"]:List Str).Nodup by decide +kernel))) (λ_ _ _ _=>(z0j (Z8 (Z8 (z0 0) Z2) (z0 1)))) (λ_ _ _ _=>(Z9 2 (show (["machine","standing","name"]:List Str).Nodup by decide +kernel))) (λ_ _ _ _=>Y8) (λ_ _ _ _=>(z0 2)) nd) (z7 (z1n K0x rfl (z0i (z0X (zt6 (z0 4) (zd1 rfl (z0 1) Z0)))) (j8 5 nd) (z7 (s_if (sc_c z66 (J8 rfl F00 (z6 (Z5 F09 (hr.mono (by decide)) rfl (z6 (z0 0) (z6 (z0 1) (z6 (z0 3) (z6 (z0 5) Z0))))) Z0)) Z2) (z7 (y6 (z3D (z6 (z0 2) (z6 (z0 5) Z0)))) Z3) Z3) Z3)) Z3)))) (z7 (y6 z3h) Z3))
noncomputable def z2n:G->M Out :=
 (z9 (sAsg (eVar 2) (gT 2 (z0W (gN 3) (z0W (gN 4) z5l)))) (z9 (z6U 5 [some 1,none] (iDic (eVar 1)) (gN 1) (λ_=>pure true) (eVar 1) (e2 z3I (eVar 0) (eVar 1))) (z9 (sFor (z0h (eFn 4 z1u (z8 (eVar 0) (z8 (eVar 1) (z8 (e2 z3I (eVar 1) (eVar 3)) (z8 (eVar 4) aNil)))))) (gN 6) (z9 (sAsg (eVar 6) (gDx (eVar 5) (e2 fIx (eVar 6) (λ_=>pure (.int 0))))) bNil)) (z9 (sRet (eVar 5)) bNil))))
noncomputable def z2v:List D->M D:=λds=>cln (runF 7 z2n ds)
theorem ok_cut_up (T:DefAt K "cut_up" (top 19)) (mx:Mx K mg "cut_up") (F09:Fn P w K mg base 3 "parted" 4 z1u):Fn P w K mg base 4 "cut_up" 3 z2v :=
 dfC ["machine","blocks","cut","least","by","told","part"] z2n T mx (by decide +kernel) rfl (λ_ _ _ _ _ _ us hl=>(by obtain ⟨_,_,_,rfl⟩:=ar3 hl;rfl)) λhcd hr nd =>
  (z7 (z4r (z0 2) (z5Z rfl (z0L (j8 3 nd) (z0L (j8 4 nd) z3V)))) (z7 (zA2 5 (N':=["blocks","one"]) (cap:=[some 1,none]) rfl (z0p (by first|rfl|kernel_rfl!)) (zn4 (z0 1)) (λ_ _ _ _=>(Z9 1 (show (["blocks","one"]:List Str).Nodup by decide +kernel))) (λ_ _ _ _=>Y8) (λ_ _ _ _=>(z0 1)) (λ_ _ _ _=>(z2M (z4u hr) (z0 0) (z0 1))) nd) (z7 (z1n K0x rfl (z0i (Z5 F09 (hr.mono (by decide)) rfl (z6 (z0 0) (z6 (z0 1) (z6 (z2M (z4u hr) (z0 1) (z0 3)) (z6 (z0 4) Z0)))))) (j8 6 nd) (z7 (z4r (z0 6) (zP7 (z4u hr) (z0 5) (Z8 (z0 6) Z2))) Z3)) (z7 (y6 (z0 5)) Z3))))
noncomputable def z2V:G->M Out :=
 (z9 (sAsg (z5j [some 0,none,none,none] (z7f (Z6 z0z (z8 (eVar 0) aNil))) (gT 2 (z0W (gN 1) (z0W (gN 2) z5l))) (z0o (e2 z3I (eVar 0) (eVar 2))) (gN 3) (λ_=>pure true) (eVar 3) (eVar 1)) (gN 1)) (z9 (sRet (clE (Z6 x4 (z8 (Y3 [some 1,none] (z0h (Z6 z0z (z8 (eVar 1) aNil))) (gN 1) (λ_=>pure true) (e2 z3I (eVar 0) (eVar 1))) aNil)))) bNil))
noncomputable def z2i:List D->M D:=λds=>cln (runF 2 z2V ds)
theorem ok_row_of (T:DefAt K "row_of" (top 20)) (mx:Mx K mg "row_of") (F0d:mg "enumerate" = none) (F05:mg "sorted" = none) (F01:mg "tuple" = none):Fn P w K mg base 1 "row_of" 1 z2i :=
 dfC ["blocks","homes"] z2V T mx (by decide +kernel) rfl (λ_ _ _ _ _ _ us hl=>(by obtain ⟨_,rfl⟩:=ar1 hl;rfl)) λhcd hr nd =>
  (z7 (y9 1 nd (z8S (N':=["blocks","home","least","standing"]) (cap:=[some 0,none,none,none]) rfl (z0p (by first|rfl|kernel_rfl!)) (zi1 rfl rfl F0d (z4v rfl rfl F05 (z6 (z0 0) Z0))) (λ_ _ _ _=>(za9 rfl (z3d (Z9 1 (show (["blocks","home","least","standing"]:List Str).Nodup by decide +kernel)) (z3d (Z9 2 (show (["blocks","home","least","standing"]:List Str).Nodup by decide +kernel)) z7q)))) (λ_ _ _ _=>(z0j (z2M (z4u hr) (z0 0) (z0 2)))) (λ_ _ _ _=>(Z9 3 (show (["blocks","home","least","standing"]:List Str).Nodup by decide +kernel))) (λ_ _ _ _=>Y8) (λ_ _ _ _=>(z0 3)) (λ_ _ _ _=>(z0 1)))) (z7 (y6 (z1d (z05 rfl F01 (z6 (J9 (N':=["homes","standing"]) (cap:=[some 1,none]) rfl (z0p (by first|rfl|kernel_rfl!)) (z0i (z4v rfl rfl F05 (z6 (z0 1) Z0))) (λ_ _ _ _=>(Z9 1 (show (["homes","standing"]:List Str).Nodup by decide +kernel))) (λ_ _ _ _=>Y8) (λ_ _ _ _=>(z2M (z4u hr) (z0 0) (z0 1)))) Z0)))) Z3))
noncomputable def z1D:G->M Out :=
 (z9 (sAsg (eFn 1 z02 (z8 (eVar 0) aNil)) (gN 1)) (z9 (sAsg (eLst aNil) (gN 2)) (z9 (sAsg (eFn 2 z1E (z8 (eVar 0) (z8 (eVar 1) aNil))) (gN 3)) (z9 (z2E (λγ=>do let d ← e2 (fIs true) (eVar 3) (λ_=>pure .non) γ;asB d) (z9 (z0S (eM1 y8 (eVar 2) (eVar 3))) (z9 (sAsg (eFn 3 z2v (z8 (eVar 0) (z8 (eVar 1) (z8 (eVar 3) aNil)))) (gN 1)) (z9 (sAsg (eFn 2 z1E (z8 (eVar 0) (z8 (eVar 1) aNil))) (gN 3)) bNil))) 1000000) (z9 (sRet (eTup (z8 (eFn 1 z2i (z8 (eVar 1) aNil)) (z8 (Z6 x4 (z8 (eVar 2) aNil)) aNil)))) bNil)))))
noncomputable def z28:List D->M D:=λds=>cln (runF 4 z1D ds)
theorem ok_classes (T:DefAt K "classes" (top 14)) (mx:Mx K mg "classes") (F01:mg "tuple" = none) (F0i:Fn P w K mg base 4 "cut_up" 3 z2v) (F0j:Fn P w K mg base 1 "first_blocks" 1 z02) (F0n:Fn P w K mg base 4 "next_cut" 2 z1E) (F0k:Fn P w K mg base 1 "row_of" 1 z2i):Fn P w K mg base 5 "classes" 1 z28 :=
 dfC ["machine","blocks","cuts","cut"] z1D T mx (by decide +kernel) rfl (λ_ _ _ _ _ _ us hl=>(by obtain ⟨_,rfl⟩:=ar1 hl;rfl)) λhcd hr nd =>
  (z7 (y9 1 nd (Z5 F0j (hr.mono (by decide)) rfl (z6 (z0 0) Z0))) (z7 (y9 2 nd (z0X Z0)) (z7 (y9 3 nd (Z5 F0n (hr.mono (by decide)) rfl (z6 (z0 0) (z6 (z0 1) Z0)))) (z7 (zz1 1000000 K0x (sc_c z7a (z0 3) z3h) (z7 (z24 (z0a (z0 2) (z0 3))) (z7 (y9 1 nd (Z5 F0i (hr.mono (by decide)) rfl (z6 (z0 0) (z6 (z0 1) (z6 (z0 3) Z0))))) (z7 (y9 3 nd (Z5 F0n (hr.mono (by decide)) rfl (z6 (z0 0) (z6 (z0 1) Z0)))) Z3)))) (z7 (y6 (z3D (z6 (Z5 F0k (hr.mono (by decide)) rfl (z6 (z0 1) Z0)) (z6 (z05 rfl F01 (z6 (z0 2) Z0)) Z0)))) Z3)))))
noncomputable def z2S:G->M Out :=
 (z9 (sRet (eFn 1 z38 (z8 (Y3 [some 1,none] (z0o (e2 fIx (e2 fIx (eVar 0) (λ_=>pure (.int 0))) (eVar 2))) (gN 1) (λ_=>pure true) (e2 fIx (eVar 0) (eVar 1))) aNil))) bNil)
noncomputable def z2u:List D->M D:=λds=>cln (runF 3 z2S ds)
theorem ok_led_to (T:DefAt K "led_to" (top 24)) (mx:Mx K mg "led_to") (F0u:Fn P w K mg base 1 "set_of" 1 z38):Fn P w K mg base 2 "led_to" 3 z2u :=
 dfC ["machine","row","standing"] z2S T mx (by decide +kernel) rfl (λ_ _ _ _ _ _ us hl=>(by obtain ⟨_,_,_,rfl⟩:=ar3 hl;rfl)) λhcd hr nd =>
  (z7 (y6 (Z5 F0u (hr.mono (by decide)) rfl (z6 (J9 (N':=["row","other"]) (cap:=[some 1,none]) rfl (z0p (by first|rfl|kernel_rfl!)) (z0j (Z8 (Z8 (z0 0) Z2) (z0 2))) (λ_ _ _ _=>(Z9 1 (show (["row","other"]:List Str).Nodup by decide +kernel))) (λ_ _ _ _=>Y8) (λ_ _ _ _=>(Z8 (z0 0) (z0 1)))) Z0))) Z3)
noncomputable def z1X:G->M Out :=
 (z9 (sAsg (Z6 fLen (z8 (e2 fIx (eVar 0) (λ_=>pure (.int 0))) aNil)) (gN 2)) (z9 (sIf (cNot (cVal (eFn 3 Y1 (z8 (eVar 1) (z8 (eVar 2) (z8 (eVar 2) aNil)))))) (z9 (sRet (λ_=>pure (.bl false))) bNil) bNil) (z9 (sAsg (eLst aNil) (gN 3)) (z9 (sFor (z87 (eVar 1)) (gT 2 (z0W (gN 4) (z0W (gN 5) z5l))) (z9 (sIf (cNot (cVal (eFn 3 z0m (z8 (eVar 5) (z8 (λ_=>pure (.int 0)) (z8 (Z6 fLen (z8 (eVar 3) aNil)) aNil)))))) (z9 (sRet (λ_=>pure (.bl false))) bNil) bNil) (z9 (sIf (λγ=>do let d ← e2 (fEqX false) (eVar 5) (Z6 fLen (z8 (eVar 3) aNil)) γ;asB d) (z9 (z0S (eM1 y8 (eVar 3) (eVar 4))) bNil) bNil) bNil))) (z9 (sAsg (Y3 [some 0,some 1,none] (z0g (eVar 2)) (gN 2) (λ_=>pure true) (eTup (z8 (e2 fIx (e2 fIx (eVar 0) (λ_=>pure (.int 1))) (eVar 2)) (z8 (eFn 3 z2u (z8 (eVar 0) (z8 (eVar 1) (z8 (eVar 2) aNil)))) aNil)))) (gN 6)) (z9 (sRet (clE (Z6 (fAll false) (z8 (Y3 [some 6,some 3,none,none] (z87 (eVar 1)) (gT 2 (z0W (gN 2) (z0W (gN 3) z5l))) (λ_=>pure true) (e2 (fEqX false) (e2 fIx (eVar 0) (eVar 2)) (e2 fIx (eVar 0) (e2 fIx (eVar 1) (eVar 3))))) aNil)))) bNil))))))
noncomputable def z1W:List D->M D:=λds=>cln (runF 7 z1X ds)
theorem ok_is_steady (T:DefAt K "is_steady" (top 23)) (mx:Mx K mg "is_steady") (F0g:mg "all" = none) (F0d:mg "enumerate" = none) (F00:mg "len" = none) (F02:mg "range" = none) (F0v:Fn P w K mg base 2 "is_number_from" 3 z0m) (F0a:Fn P w K mg base 2 "is_tuple_of" 3 Y1) (F0w:Fn P w K mg base 2 "led_to" 3 z2u):Fn P w K mg base 3 "is_steady" 2 z1W :=
 dfC ["machine","thing","many","firsts","standing","home","likes"] z1X T mx (by decide +kernel) rfl (λ_ _ _ _ _ _ us hl=>(by obtain ⟨_,_,rfl⟩:=ar2 hl;rfl)) λhcd hr nd =>
  (z7 (y9 2 nd (J8 rfl F00 (z6 (Z8 (z0 0) Z2) Z0))) (z7 (s_if (z0k (z0c (Z5 F0a (hr.mono (by decide)) rfl (z6 (z0 1) (z6 (z0 2) (z6 (z0 2) Z0)))))) (z7 (y6 z2a) Z3) Z3) (z7 (y9 3 nd (z0X Z0)) (z7 (z1n K0x rfl (z9K rfl rfl F0d (z0 1)) (z5Z rfl (z0L (j8 4 nd) (z0L (j8 5 nd) z3V))) (z7 (s_if (z0k (z0c (Z5 F0v (hr.mono (by decide)) rfl (z6 (z0 5) (z6 Z2 (z6 (J8 rfl F00 (z6 (z0 3) Z0)) Z0)))))) (z7 (y6 z2a) Z3) Z3) (z7 (s_if (sc_c (z2F (hu30 hr)) (z0 5) (J8 rfl F00 (z6 (z0 3) Z0))) (z7 (z24 (z0a (z0 3) (z0 4))) Z3) Z3) Z3))) (z7 (y9 6 nd (J9 (N':=["machine","thing","standing"]) (cap:=[some 0,some 1,none]) rfl (z0p (by first|rfl|kernel_rfl!)) (v3 rfl F02 (z0 2)) (λ_ _ _ _=>(Z9 2 (show (["machine","thing","standing"]:List Str).Nodup by decide +kernel))) (λ_ _ _ _=>Y8) (λ_ _ _ _=>(z3D (z6 (Z8 (Z8 (z0 0) Z2) (z0 2)) (z6 (Z5 F0w (hr.mono (by decide)) rfl (z6 (z0 0) (z6 (z0 1) (z6 (z0 2) Z0)))) Z0)))))) (z7 (y6 (z1d (zo9 rfl rfl F0g (z6 (J9 (N':=["likes","firsts","standing","home"]) (cap:=[some 6,some 3,none,none]) rfl (z0p (by first|rfl|kernel_rfl!)) (z9K rfl rfl F0d (z0 1)) (λ_ _ _ _=>(za9 rfl (z3d (Z9 2 (show (["likes","firsts","standing","home"]:List Str).Nodup by decide +kernel)) (z3d (Z9 3 (show (["likes","firsts","standing","home"]:List Str).Nodup by decide +kernel)) z7q)))) (λ_ _ _ _=>Y8) (λ_ _ _ _=>(se_c (z2F (hu30 hr)) (Z8 (z0 0) (z0 2)) (Z8 (z0 0) (Z8 (z0 1) (z0 3)))))) Z0)))) Z3))))))
noncomputable def z2R:G->M Out :=
 (z9 (sIf (cNot (cVal (eFn 3 Y1 (z8 (eVar 1) (z8 (λ_=>pure (.int 2)) (z8 (λ_=>pure (.int 2)) aNil)))))) (z9 (sRet (λ_=>pure (.bl false))) bNil) bNil) (z9 (sAsg (eVar 1) (gT 2 (z0W (gN 2) (z0W (gN 3) z5l)))) (z9 (sRet (eAnd (eFn 1 z0q (z8 (eVar 2) aNil)) (eAnd (e2 (fInD false) (eVar 2) (eVar 0)) (eOr (eFn 1 z1j (z8 (eVar 3) aNil)) (eAnd (eFn 1 z0q (z8 (eVar 3) aNil)) (e2 (fInD false) (eVar 3) (eVar 0))))))) bNil)))
noncomputable def z3Q:List D->M D:=λds=>cln (runF 4 z2R ds)
theorem ok_is_cut (T:DefAt K "is_cut" (top 22)) (mx:Mx K mg "is_cut") (F0x:Fn P w K mg base 2 "is_name" 1 z1j) (F0c:Fn P w K mg base 1 "is_number" 1 z0q) (F0a:Fn P w K mg base 2 "is_tuple_of" 3 Y1):Fn P w K mg base 3 "is_cut" 2 z3Q :=
 dfC ["blocks","thing","least","by"] z2R T mx (by decide +kernel) rfl (λ_ _ _ _ _ _ us hl=>(by obtain ⟨_,_,rfl⟩:=ar2 hl;rfl)) λhcd hr nd =>
  (z7 (s_if (z0k (z0c (Z5 F0a (hr.mono (by decide)) rfl (z6 (z0 1) (z6 Z2 (z6 Z2 Z0)))))) (z7 (y6 z2a) Z3) Z3) (z7 (z4r (z0 1) (z5Z rfl (z0L (j8 2 nd) (z0L (j8 3 nd) z3V)))) (z7 (y6 (z0I (Z5 F0c (hr.mono (by decide)) rfl (z6 (z0 2) Z0)) (z0I (se_c (zm0 (z4u hr)) (z0 2) (z0 0)) (z1R (zo5 (Z5 F0x (hr.mono (by decide)) rfl (z6 (z0 3) Z0)) (z1R (z0I (Z5 F0c (hr.mono (by decide)) rfl (z6 (z0 3) Z0)) (z1R (se_c (zm0 (z4u hr)) (z0 3) (z0 0)))))))))) Z3)))
noncomputable def Y7:G->M Out :=
 (z9 (sIf (cNot (cVal (eFn 3 Y1 (z8 (eVar 1) (z8 (λ_=>pure (.int 2)) (z8 (λ_=>pure (.int 2)) aNil)))))) (z9 (sRet (λ_=>pure (.bl false))) bNil) bNil) (z9 (sAsg (eVar 1) (gT 2 (z0W (gN 2) (z0W (gN 3) z5l)))) (z9 (sIf (cOr (cNot (cVal (eFn 2 z1W (z8 (eVar 0) (z8 (eVar 2) aNil))))) (cNot (cVal (eFn 1 z15 (z8 (eVar 3) aNil))))) (z9 (sRet (λ_=>pure (.bl false))) bNil) bNil) (z9 (sAsg (eFn 1 z02 (z8 (eVar 0) aNil)) (gN 4)) (z9 (sFor (z0o (eVar 3)) (gN 5) (z9 (sIf (cOr (cNot (cVal (eFn 2 z3Q (z8 (eVar 4) (z8 (eVar 5) aNil))))) (λγ=>do let d ← e2 fLt (Z6 fLen (z8 (eFn 4 z1u (z8 (eVar 0) (z8 (eVar 4) (z8 (e2 z3I (eVar 4) (e2 fIx (eVar 5) (λ_=>pure (.int 0)))) (z8 (e2 fIx (eVar 5) (λ_=>pure (.int 1))) aNil))))) aNil)) (λ_=>pure (.int 2)) γ;asB d)) (z9 (sRet (λ_=>pure (.bl false))) bNil) bNil) (z9 (sAsg (eFn 3 z2v (z8 (eVar 0) (z8 (eVar 4) (z8 (eVar 5) aNil)))) (gN 4)) bNil))) (z9 (sRet (e2 (fEqX false) (eVar 2) (eFn 1 z2i (z8 (eVar 4) aNil)))) bNil))))))
noncomputable def z0v:List D->M D:=λds=>cln (runF 6 Y7 ds)
theorem ok_right_classes (T:DefAt K "right_classes" (top 21)) (mx:Mx K mg "right_classes") (F00:mg "len" = none) (F0i:Fn P w K mg base 4 "cut_up" 3 z2v) (F0j:Fn P w K mg base 1 "first_blocks" 1 z02) (F0y:Fn P w K mg base 3 "is_cut" 2 z3Q) (F0z:Fn P w K mg base 3 "is_steady" 2 z1W) (F0h:Fn P w K mg base 1 "is_tuple" 1 z15) (F0a:Fn P w K mg base 2 "is_tuple_of" 3 Y1) (F09:Fn P w K mg base 3 "parted" 4 z1u) (F0k:Fn P w K mg base 1 "row_of" 1 z2i):Fn P w K mg base 5 "right_classes" 2 z0v :=
 dfC ["machine","thing","row","cuts","blocks","cut"] Y7 T mx (by decide +kernel) rfl (λ_ _ _ _ _ _ us hl=>(by obtain ⟨_,_,rfl⟩:=ar2 hl;rfl)) λhcd hr nd =>
  (z7 (s_if (z0k (z0c (Z5 F0a (hr.mono (by decide)) rfl (z6 (z0 1) (z6 Z2 (z6 Z2 Z0)))))) (z7 (y6 z2a) Z3) Z3) (z7 (z4r (z0 1) (z5Z rfl (z0L (j8 2 nd) (z0L (j8 3 nd) z3V)))) (z7 (s_if (SW.sc (z42 (z0k (z0c (Z5 F0z (hr.mono (by decide)) rfl (z6 (z0 0) (z6 (z0 2) Z0))))) (z3e (z0k (z0c (Z5 F0h (hr.mono (by decide)) rfl (z6 (z0 3) Z0))))))) (z7 (y6 z2a) Z3) Z3) (z7 (y9 4 nd (Z5 F0j (hr.mono (by decide)) rfl (z6 (z0 0) Z0))) (z7 (z1n K0x rfl (z0j (z0 3)) (j8 5 nd) (z7 (s_if (SW.sc (z42 (z0k (z0c (Z5 F0y (hr.mono (by decide)) rfl (z6 (z0 4) (z6 (z0 5) Z0))))) (z3e (sc_c z9m (J8 rfl F00 (z6 (Z5 F09 (hr.mono (by decide)) rfl (z6 (z0 0) (z6 (z0 4) (z6 (z2M (z4u hr) (z0 4) (Z8 (z0 5) Z2)) (z6 (Z8 (z0 5) Z2) Z0))))) Z0)) Z2)))) (z7 (y6 z2a) Z3) Z3) (z7 (y9 4 nd (Z5 F0i (hr.mono (by decide)) rfl (z6 (z0 0) (z6 (z0 4) (z6 (z0 5) Z0))))) Z3))) (z7 (y6 (se_c (z2F (hu30 hr)) (z0 2) (Z5 F0k (hr.mono (by decide)) rfl (z6 (z0 4) Z0)))) Z3))))))
noncomputable def z1S:G->M Out :=
 (z9 (z2G 1 [none] (z0h (eVar 0)) (gN 0) (λγ=>do let d ← e2 fGe (eVar 0) (e2 fPow (λ_=>pure (.int 10)) (λ_=>pure (.int 18))) γ;asB d) (eVar 0)) (z9 (sRet (eLst (z8 (eVar 1) (z8 (Y3 [none] (z0h (eVar 0)) (gN 0) (λγ=>do let d ← e2 fLt (eVar 0) (e2 fPow (λ_=>pure (.int 10)) (λ_=>pure (.int 18))) γ;asB d) (eVar 0)) (z8 (λ_=>pure (.int 5)) (z8 (λ_=>pure (.int 0)) aNil)))))) bNil))
noncomputable def z20:List D->M D:=runF 2 z1S
theorem ok__law_pool (T:DefAt K "_law_pool" (top 26)) (mx:Mx K mg "_law_pool"):Fn P w K mg base 1 "_law_pool" 1 z20 :=
 dfN ["_law_script","_law_great"] z1S T mx (by decide +kernel) rfl (λ_ _ _ _ _ _ us hl=>(by obtain ⟨_,rfl⟩:=ar1 hl;rfl)) λhcd hr nd =>
  (z7 (z4K 1 (N':=["_law_cell"]) (cap:=[none]) rfl (z0p (by first|rfl|kernel_rfl!)) (z0i (z0 0)) (λ_ _ _ _=>(Z9 0 (show (["_law_cell"]:List Str).Nodup by decide +kernel))) (λ_ _ _ _=>(z0F (sc_c zQ4 (z0 0) (za3 Z2 Z2)))) (λ_ _ _ _=>(z0 0)) nd) (z7 (y6 (z0X (z6 (z0 1) (z6 (J9 (N':=["_law_cell"]) (cap:=[none]) rfl (z0p (by first|rfl|kernel_rfl!)) (z0i (z0 0)) (λ_ _ _ _=>(Z9 0 (show (["_law_cell"]:List Str).Nodup by decide +kernel))) (λ_ _ _ _=>(z0F (sc_c z9m (z0 0) (za3 Z2 Z2)))) (λ_ _ _ _=>(z0 0))) (z6 Z2 (z6 Z2 Z0)))))) Z3))
noncomputable def z1b:G->M Out :=
 (z9 (sIf (λγ=>do let d ← e2 fGt (Z6 fLen (z8 (e2 fIx (eVar 0) (λ_=>pure (.int 0))) aNil)) (λ_=>pure (.int 0)) γ;asB d) (z9 (sAsg (e2 fIx (e2 fIx (eVar 0) (λ_=>pure (.int 0))) (λ_=>pure (.int 0))) (gN 2)) (z9 (sAsg (e2 fDiv (eVar 2) (eVar 1)) (gIx (e2 fIx (eVar 0) (λ_=>pure (.int 0))) (λ_=>pure (.int 0)))) (z9 (sIf (λγ=>do let d ← e2 (fEq false) (e2 fDiv (eVar 2) (eVar 1)) (λ_=>pure (.int 0)) γ;asB d) (z9 (z0S (eM1 z2O (e2 fIx (eVar 0) (λ_=>pure (.int 0))) (λ_=>pure (.int 0)))) bNil) bNil) (z9 (sRet (e2 fMod (eVar 2) (eVar 1))) bNil)))) bNil) (z9 (sAsg (e2 fAdd (e2 fIx (eVar 0) (λ_=>pure (.int 3))) (λ_=>pure (.int 1))) (gIx (eVar 0) (λ_=>pure (.int 3)))) (z9 (sAsg (λ_=>pure (.int 0)) (gN 2)) (z9 (sIf (λγ=>do let d ← e2 fGt (Z6 fLen (z8 (e2 fIx (eVar 0) (λ_=>pure (.int 1))) aNil)) (λ_=>pure (.int 0)) γ;asB d) (z9 (sAsg (e2 fIx (e2 fIx (eVar 0) (λ_=>pure (.int 1))) (e2 fMod (e2 fIx (eVar 0) (λ_=>pure (.int 3))) (Z6 fLen (z8 (e2 fIx (eVar 0) (λ_=>pure (.int 1))) aNil)))) (gN 2)) bNil) bNil) (z9 (sAsg (e2 z55 (e2 fMod (eVar 2) (λ_=>pure (.int 2147483629))) (e2 fAdd (e2 z55 (e2 fIx (eVar 0) (λ_=>pure (.int 3))) (e2 fIx (eVar 0) (λ_=>pure (.int 3)))) (λ_=>pure (.int 1)))) (gN 2)) (z9 (sAsg (e2 fMod (e2 fAdd (e2 fAdd (e2 z55 (e2 fIx (eVar 0) (λ_=>pure (.int 2))) (λ_=>pure (.int 48271))) (eVar 2)) (e2 z55 (λ_=>pure (.int 97)) (e2 fIx (eVar 0) (λ_=>pure (.int 3))))) (λ_=>pure (.int 2147483647))) (gIx (eVar 0) (λ_=>pure (.int 2)))) (z9 (sRet (e2 fMod (e2 fDiv (e2 fMod (e2 fPow (e2 fIx (eVar 0) (λ_=>pure (.int 2))) (λ_=>pure (.int 5))) (λ_=>pure (.int 2147483629))) (λ_=>pure (.int 64))) (eVar 1))) bNil)))))))
noncomputable def Z4:List D->M D:=runF 3 z1b
theorem ok__law_draw (T:DefAt K "_law_draw" (top 27)) (mx:Mx K mg "_law_draw") (F00:mg "len" = none):Fn P w K mg base 1 "_law_draw" 2 Z4 :=
 dfN ["_law_pool_here","_law_many","_law_cell"] z1b T mx (by decide +kernel) rfl (λ_ _ _ _ _ _ us hl=>(by obtain ⟨_,_,rfl⟩:=ar2 hl;rfl)) λhcd hr nd =>
  (z7 (s_if (sc_c zi4 (J8 rfl F00 (z6 (Z8 (z0 0) Z2) Z0)) Z2) (z7 (y9 2 nd (Z8 (Z8 (z0 0) Z2) Z2)) (z7 (z4r (z9i (z0 2) (z0 1)) (z9u (Z8 (z0 0) Z2) Z2)) (z7 (s_if (sc_c z66 (z9i (z0 2) (z0 1)) Z2) (z7 (z24 (z7P (Z8 (z0 0) Z2) Z2)) Z3) Z3) (z7 (y6 (z4i (z0 2) (z0 1))) Z3)))) Z3) (z7 (z4r (z1i (Z8 (z0 0) Z2) Z2) (z9u (z0 0) Z2)) (z7 (y9 2 nd Z2) (z7 (s_if (sc_c zi4 (J8 rfl F00 (z6 (Z8 (z0 0) Z2) Z0)) Z2) (z7 (y9 2 nd (Z8 (Z8 (z0 0) Z2) (z4i (Z8 (z0 0) Z2) (J8 rfl F00 (z6 (Z8 (z0 0) Z2) Z0))))) Z3) Z3) (z7 (y9 2 nd (z4S (z4i (z0 2) Z2) (z1i (z4S (Z8 (z0 0) Z2) (Z8 (z0 0) Z2)) Z2))) (z7 (z4r (z4i (z1i (z1i (z4S (Z8 (z0 0) Z2) Z2) (z0 2)) (z4S Z2 (Z8 (z0 0) Z2))) Z2) (z9u (z0 0) Z2)) (z7 (y6 (z4i (z9i (z4i (za3 (Z8 (z0 0) Z2) Z2) Z2) Z2) (z0 1))) Z3)))))))
noncomputable def z1g:G->M Out :=
 (z9 (sAsg (λ_=>pure (.str "abcdefghijklmnopqrstuvwxyz")) (gN 3)) (z9 (sAsg (eVar 1) (gN 4)) (z9 (sFor (z0g (eFn 2 Z4 (z8 (eVar 0) (z8 (λ_=>pure (.int 4)) aNil)))) (gN 5) (z9 (sAsg (e2 fAdd (eVar 4) (e2 fIx (eVar 3) (eFn 2 Z4 (z8 (eVar 0) (z8 (λ_=>pure (.int 26)) aNil))))) (gN 4)) bNil)) (z9 (sAsg (eFn 2 Z4 (z8 (eVar 0) (z8 (λ_=>pure (.int 26)) aNil))) (gN 6)) (z9 (sAsg (eLst (z8 (λ_=>pure (.str "yes")) (z8 (λ_=>pure (.str "no")) (z8 (λ_=>pure (.str "not")) (z8 (λ_=>pure (.str "and")) (z8 (λ_=>pure (.str "or")) (z8 (λ_=>pure (.str "step")) (z8 (λ_=>pure (.str "some")) (z8 (λ_=>pure (.str "all")) (z8 (λ_=>pure (.str "next")) (z8 (λ_=>pure (.str "once")) (z8 (λ_=>pure (.str "ever")) (z8 (λ_=>pure (.str "until")) (z8 (λ_=>pure (.str "unless")) aNil)))))))))))))) (gN 7)) (z9 (sFor (z0g (λ_=>pure (.int 26))) (gN 5) (z9 (sAsg (e2 fAdd (eVar 4) (e2 fIx (eVar 3) (e2 fMod (e2 fAdd (eVar 6) (eVar 5)) (λ_=>pure (.int 26))))) (gN 8)) (z9 (sIf (cAnd (λγ=>do let d ← e2 (fIn true) (eVar 8) (eVar 7) γ;asB d) (λγ=>do let d ← e2 (fIn true) (eVar 8) (eVar 2) γ;asB d)) (z9 (sRet (eVar 8)) bNil) bNil) bNil))) (z9 (sRet (e2 fAdd (eVar 4) (λ_=>pure (.str "x")))) bNil)))))))
noncomputable def z1Y:List D->M D:=λds=>cln (runF 9 z1g ds)
theorem ok__law_name (T:DefAt K "_law_name" (top 28)) (mx:Mx K mg "_law_name") (F02:mg "range" = none) (F04:Fn P w K mg base 1 "_law_draw" 2 Z4):Fn P w K mg base 2 "_law_name" 3 z1Y :=
 dfC ["_law_pool_here","_law_start","_law_taken","_law_letters","_law_name_here","_law_k","_law_last","_law_words","_law_found"] z1g T mx (by decide +kernel) rfl (λ_ _ _ _ _ _ us hl=>(by obtain ⟨_,_,_,rfl⟩:=ar3 hl;rfl)) λhcd hr nd =>
  (z7 (y9 3 nd J4) (z7 (y9 4 nd (z0 1)) (z7 (z1n K0x rfl (v3 rfl F02 (Z5 F04 (hr.mono (by decide)) rfl (z6 (z0 0) (z6 Z2 Z0)))) (j8 5 nd) (z7 (y9 4 nd (z1i (z0 4) (Z8 (z0 3) (Z5 F04 (hr.mono (by decide)) rfl (z6 (z0 0) (z6 Z2 Z0)))))) Z3)) (z7 (y9 6 nd (Z5 F04 (hr.mono (by decide)) rfl (z6 (z0 0) (z6 Z2 Z0)))) (z7 (y9 7 nd (z0X (z6 J4 (z6 J4 (z6 J4 (z6 J4 (z6 J4 (z6 J4 (z6 J4 (z6 J4 (z6 J4 (z6 J4 (z6 J4 (z6 J4 (z6 J4 Z0))))))))))))))) (z7 (z1n K0x rfl (v3 rfl F02 Z2) (j8 5 nd) (z7 (y9 8 nd (z1i (z0 4) (Z8 (z0 3) (z4i (z1i (z0 6) (z0 5)) Z2)))) (z7 (s_if (SW.sc (zc3 (sc_c z33 (z0 8) (z0 7)) (z6L (sc_c z33 (z0 8) (z0 2))))) (z7 (y6 (z0 8)) Z3) Z3) Z3))) (z7 (y6 (z1i (z0 4) J4)) Z3)))))))
noncomputable def z1s:G->M Out :=
 (z9 (sAsg (λ_=>pure (.str "abcdefghijklmnopqrstuvwxyz")) (gN 2)) (z9 (sAsg (λ_=>pure (.str "")) (gN 3)) (z9 (sFor (z0g (clE (e2 fIx (eLst (z8 (λ_=>pure (.int 0)) (z8 (λ_=>pure (.int 0)) (z8 (λ_=>pure (.int 1)) (z8 (λ_=>pure (.int 4)) aNil))))) (eFn 2 Z4 (z8 (eVar 0) (z8 (λ_=>pure (.int 4)) aNil)))))) (gN 4) (z9 (sAsg (e2 fAdd (eVar 3) (e2 fIx (eVar 2) (eFn 2 Z4 (z8 (eVar 0) (z8 (λ_=>pure (.int 26)) aNil))))) (gN 3)) bNil)) (z9 (sAsg (eLst aNil) (gN 5)) (z9 (sFor (z0g (eVar 1)) (gN 4) (z9 (z0S (eM1 y8 (eVar 5) (eFn 3 z1Y (z8 (eVar 0) (z8 (eVar 3) (z8 (eVar 5) aNil)))))) bNil)) (z9 (sRet (eVar 5)) bNil))))))
noncomputable def z1t:List D->M D:=λds=>cln (runF 6 z1s ds)
theorem ok__law_names (T:DefAt K "_law_names" (top 29)) (mx:Mx K mg "_law_names") (F02:mg "range" = none) (F04:Fn P w K mg base 1 "_law_draw" 2 Z4) (F0A:Fn P w K mg base 2 "_law_name" 3 z1Y):Fn P w K mg base 3 "_law_names" 2 z1t :=
 dfC ["_law_pool_here","_law_many","_law_letters","_law_start","_law_k","_law_names_here"] z1s T mx (by decide +kernel) rfl (λ_ _ _ _ _ _ us hl=>(by obtain ⟨_,_,rfl⟩:=ar2 hl;rfl)) λhcd hr nd =>
  (z7 (y9 2 nd J4) (z7 (y9 3 nd J4) (z7 (z1n K0x rfl (v3 rfl F02 (z1d (Z8 (z0X (z6 Z2 (z6 Z2 (z6 Z2 (z6 Z2 Z0))))) (Z5 F04 (hr.mono (by decide)) rfl (z6 (z0 0) (z6 Z2 Z0)))))) (j8 4 nd) (z7 (y9 3 nd (z1i (z0 3) (Z8 (z0 2) (Z5 F04 (hr.mono (by decide)) rfl (z6 (z0 0) (z6 Z2 Z0)))))) Z3)) (z7 (y9 5 nd (z0X Z0)) (z7 (z1n K0x rfl (v3 rfl F02 (z0 1)) (j8 4 nd) (z7 (z24 (z0a (z0 5) (Z5 F0A (hr.mono (by decide)) rfl (z6 (z0 0) (z6 (z0 3) (z6 (z0 5) Z0)))))) Z3)) (z7 (y6 (z0 5)) Z3))))))
noncomputable def z0K:G->M Out :=
 (z9 (sAsg (e2 fAdd (λ_=>pure (.int 1)) (eFn 2 Z4 (z8 (eVar 0) (z8 (eVar 2) aNil)))) (gN 3)) (z9 (sAsg (e2 fAdd (λ_=>pure (.int 1)) (eFn 2 Z4 (z8 (eVar 0) (z8 (λ_=>pure (.int 4)) aNil)))) (gN 4)) (z9 (sAsg (eLst aNil) (gN 5)) (z9 (sAsg (eLst aNil) (gN 6)) (z9 (sFor (z0g (eVar 3)) (gN 7) (z9 (z0S (eM1 y8 (eVar 5) (clE (Z6 x4 (z8 (Y3 [some 0,some 4,none] (z0g (eVar 3)) (gN 2) (λγ=>do let d ← e2 fLt (eFn 2 Z4 (z8 (eVar 0) (z8 (λ_=>pure (.int 6)) aNil))) (eVar 1) γ;asB d) (eVar 2)) aNil))))) (z9 (z0S (eM1 y8 (eVar 6) (clE (Z6 x4 (z8 (Z6 z1B (z8 (Y3 [some 0,none] (z0h (eVar 1)) (gN 1) (λγ=>do let d ← e2 (fEq false) (eFn 2 Z4 (z8 (eVar 0) (z8 (λ_=>pure (.int 2)) aNil))) (λ_=>pure (.int 1)) γ;asB d) (eVar 1)) aNil)) aNil))))) bNil))) (z9 (sRet (eTup (z8 (Z6 x4 (z8 (eVar 5) aNil)) (z8 (Z6 x4 (z8 (eVar 6) aNil)) aNil)))) bNil))))))
noncomputable def z01:List D->M D:=λds=>cln (runF 8 z0K ds)
theorem ok__law_machine (T:DefAt K "_law_machine" (top 30)) (mx:Mx K mg "_law_machine") (F02:mg "range" = none) (F05:mg "sorted" = none) (F01:mg "tuple" = none) (F04:Fn P w K mg base 1 "_law_draw" 2 Z4):Fn P w K mg base 2 "_law_machine" 3 z01 :=
 dfC ["_law_pool_here","_law_names_here","_law_most","_law_many","_law_dense","_law_steps","_law_marks","_law_k"] z0K T mx (by decide +kernel) rfl (λ_ _ _ _ _ _ us hl=>(by obtain ⟨_,_,_,rfl⟩:=ar3 hl;rfl)) λhcd hr nd =>
  (z7 (y9 3 nd (z1i Z2 (Z5 F04 (hr.mono (by decide)) rfl (z6 (z0 0) (z6 (z0 2) Z0))))) (z7 (y9 4 nd (z1i Z2 (Z5 F04 (hr.mono (by decide)) rfl (z6 (z0 0) (z6 Z2 Z0))))) (z7 (y9 5 nd (z0X Z0)) (z7 (y9 6 nd (z0X Z0)) (z7 (z1n K0x rfl (v3 rfl F02 (z0 3)) (j8 7 nd) (z7 (z24 (z0a (z0 5) (z1d (z05 rfl F01 (z6 (J9 (N':=["_law_pool_here","_law_dense","_law_to"]) (cap:=[some 0,some 4,none]) rfl (z0p (by first|rfl|kernel_rfl!)) (v3 rfl F02 (z0 3)) (λ_ _ _ _=>(Z9 2 (show (["_law_pool_here","_law_dense","_law_to"]:List Str).Nodup by decide +kernel))) (λ_ _ _ _=>(z0F (sc_c z9m (Z5 F04 (hr.mono (by decide)) rfl (z6 (z0 0) (z6 Z2 Z0))) (z0 1)))) (λ_ _ _ _=>(z0 2))) Z0))))) (z7 (z24 (z0a (z0 6) (z1d (z05 rfl F01 (z6 (z6j rfl rfl F05 (z6 (J9 (N':=["_law_pool_here","_law_name_here"]) (cap:=[some 0,none]) rfl (z0p (by first|rfl|kernel_rfl!)) (z0i (z0 1)) (λ_ _ _ _=>(Z9 1 (show (["_law_pool_here","_law_name_here"]:List Str).Nodup by decide +kernel))) (λ_ _ _ _=>(z0F (sc_c z66 (Z5 F04 (hr.mono (by decide)) rfl (z6 (z0 0) (z6 Z2 Z0))) Z2))) (λ_ _ _ _=>(z0 1))) Z0)) Z0))))) Z3))) (z7 (y6 (z3D (z6 (z05 rfl F01 (z6 (z0 5) Z0)) (z6 (z05 rfl F01 (z6 (z0 6) Z0)) Z0)))) Z3))))))
noncomputable def z0w:G->M Out :=
 (z9 (sRet (eAnd (eIsi "int" (eVar 0)) (eAnd (eNot (eIsi "bool" (eVar 0))) (e3 fLe fLt (eVar 1) (eVar 0) (eVar 2))))) bNil)
noncomputable def x9:List D->M D:=λds=>cln (runF 3 z0w ds)
theorem ok__law_number (T:DefAt K "_law_number" (top 31)) (mx:Mx K mg "_law_number") (F08:mg "bool" = none) (F0f:mg "int" = none) (F03:mg "isinstance" = none):Fn P w K mg base 1 "_law_number" 3 x9 :=
 dfC ["_law_thing","_law_low","_law_high"] z0w T mx (by decide +kernel) rfl (λ_ _ _ _ _ _ us hl=>(by obtain ⟨_,_,_,rfl⟩:=ar3 hl;rfl)) λhcd hr nd =>
  (z7 (y6 (z0I (z1Q rfl F03 rfl F0f (by decide +kernel) (by decide) (z0 0)) (z0I (za2 (z1Q rfl F03 rfl F08 (by decide +kernel) (by decide) (z0 0))) (z1R (z9J z45 z9m (z0 1) (z0 0) (z0 2)))))) Z3)
noncomputable def z0N:G->M Out :=
 (z9 (sRet (eAnd (eIsi "tuple" (eVar 0)) (e3 fLe fLe (eVar 1) (Z6 fLen (z8 (eVar 0) aNil)) (eVar 2)))) bNil)
noncomputable def x6:List D->M D:=λds=>cln (runF 3 z0N ds)
theorem ok__law_tuple (T:DefAt K "_law_tuple" (top 32)) (mx:Mx K mg "_law_tuple") (F03:mg "isinstance" = none) (F00:mg "len" = none) (F01:mg "tuple" = none):Fn P w K mg base 1 "_law_tuple" 3 x6 :=
 dfC ["_law_thing","_law_least","_law_most"] z0N T mx (by decide +kernel) rfl (λ_ _ _ _ _ _ us hl=>(by obtain ⟨_,_,_,rfl⟩:=ar3 hl;rfl)) λhcd hr nd =>
  (z7 (y6 (z0I (z1Q rfl F03 rfl F01 (by decide +kernel) (by decide) (z0 0)) (z1R (z9J z45 z45 (z0 1) (J8 rfl F00 (z6 (z0 0) Z0)) (z0 2))))) Z3)
noncomputable def k7:G->M Out :=
 (z9 (sAsg (eLst (z8 (λ_=>pure (.str "yes")) (z8 (λ_=>pure (.str "no")) (z8 (λ_=>pure (.str "not")) (z8 (λ_=>pure (.str "and")) (z8 (λ_=>pure (.str "or")) (z8 (λ_=>pure (.str "step")) (z8 (λ_=>pure (.str "some")) (z8 (λ_=>pure (.str "all")) (z8 (λ_=>pure (.str "next")) (z8 (λ_=>pure (.str "once")) (z8 (λ_=>pure (.str "ever")) (z8 (λ_=>pure (.str "until")) (z8 (λ_=>pure (.str "unless")) aNil)))))))))))))) (gN 1)) (z9 (sIf (cOr (cNot (cVal (eIsi "str" (eVar 0)))) (cOr (λγ=>do let d ← e2 fLt (Z6 fLen (z8 (eVar 0) aNil)) (λ_=>pure (.int 1)) γ;asB d) (cOr (λγ=>do let d ← e2 fGt (Z6 fLen (z8 (eVar 0) aNil)) (λ_=>pure (.int 8)) γ;asB d) (λγ=>do let d ← e2 (fIn false) (eVar 0) (eVar 1) γ;asB d)))) (z9 (sRet (λ_=>pure (.bl false))) bNil) bNil) (z9 (sRet (clE (e2 (fEqX false) (Y3 [none] (iStr (eVar 0)) (gN 0) (λγ=>do let d ← e2 (fInT true) (eVar 0) (λ_=>pure (.str "abcdefghijklmnopqrstuvwxyz")) γ;asB d) (eVar 0)) (eLst aNil)))) bNil)))
noncomputable def z00:List D->M D:=λds=>cln (runF 2 k7 ds)
theorem ok__law_good_name (T:DefAt K "_law_good_name" (top 33)) (mx:Mx K mg "_law_good_name") (F03:mg "isinstance" = none) (F00:mg "len" = none) (F06:mg "str" = none):Fn P w K mg base 1 "_law_good_name" 1 z00 :=
 dfC ["_law_thing","_law_words"] k7 T mx (by decide +kernel) rfl (λ_ _ _ _ _ _ us hl=>(by obtain ⟨_,rfl⟩:=ar1 hl;rfl)) λhcd hr nd =>
  (z7 (y9 1 nd (z0X (z6 J4 (z6 J4 (z6 J4 (z6 J4 (z6 J4 (z6 J4 (z6 J4 (z6 J4 (z6 J4 (z6 J4 (z6 J4 (z6 J4 (z6 J4 Z0))))))))))))))) (z7 (s_if (SW.sc (z42 (z0k (z0c (z1Q rfl F03 rfl F06 (by decide +kernel) (by decide) (z0 0)))) (z42 (sc_c z9m (J8 rfl F00 (z6 (z0 0) Z0)) Z2) (z42 (sc_c zi4 (J8 rfl F00 (z6 (z0 0) Z0)) Z2) (z3e (sc_c z8a (z0 0) (z0 1))))))) (z7 (y6 z2a) Z3) Z3) (z7 (y6 (z1d (se_c (z2F (hu30 hr)) (J9 (N':=["_law_sign"]) (cap:=[none]) rfl (z0p (by first|rfl|kernel_rfl!)) (zm2 rfl (z0 0)) (λ_ _ _ _=>(Z9 0 (show (["_law_sign"]:List Str).Nodup by decide +kernel))) (λ_ _ _ _=>(z0F (sc_c zv9 (z0 0) J4))) (λ_ _ _ _=>(z0 0))) (z0X Z0)))) Z3)))
noncomputable def z1x:G->M Out :=
 (z9 (sRet (eAnd (eIsi "bool" (eVar 0)) (e2 (fEqX false) (eVar 0) (eVar 1)))) bNil)
noncomputable def z0O:List D->M D:=λds=>cln (runF 2 z1x ds)
theorem ok__law_truth (T:DefAt K "_law_truth" (top 34)) (mx:Mx K mg "_law_truth") (F08:mg "bool" = none) (F03:mg "isinstance" = none):Fn P w K mg base 1 "_law_truth" 2 z0O :=
 dfC ["_law_found","_law_due"] z1x T mx (by decide +kernel) rfl (λ_ _ _ _ _ _ us hl=>(by obtain ⟨_,_,rfl⟩:=ar2 hl;rfl)) λhcd hr nd =>
  (z7 (y6 (z0I (z1Q rfl F03 rfl F08 (by decide +kernel) (by decide) (z0 0)) (z1R (se_c (z2F (hu30 hr)) (z0 0) (z0 1))))) Z3)
noncomputable def z0r:G->M Out :=
 (z9 (sAsg (Y3 [none] (z0o (e2 fIx (eVar 0) (λ_=>pure (.int 0)))) (gN 0) (λ_=>pure true) (λ_=>pure (.int 0))) (gN 1)) (z9 (sFor (z0g (Z6 fLen (z8 (eVar 1) aNil))) (gN 2) (z9 (sAsg (eLst aNil) (gN 3)) (z9 (sFor (z0g (Z6 fLen (z8 (eVar 1) aNil))) (gN 4) (z9 (sAsg (clE (Z6 x4 (z8 (Z6 x8 (z8 (Z6 z1h (z8 (Y3 [some 1,none] (z0o (e2 fIx (e2 fIx (eVar 0) (λ_=>pure (.int 0))) (eVar 4))) (gN 1) (λ_=>pure true) (e2 fIx (eVar 0) (eVar 1))) aNil)) aNil)) aNil))) (gN 5)) (z9 (z0S (eM1 y8 (eVar 3) (eTup (z8 (e2 fIx (eVar 1) (eVar 4)) (z8 (e2 fIx (e2 fIx (eVar 0) (λ_=>pure (.int 1))) (eVar 4)) (z8 (eVar 5) aNil)))))) bNil))) (z9 (sAsg (Y3 [some 3,none] (z0h (eVar 3)) (gN 1) (λ_=>pure true) (eM1 z4m (eVar 0) (eVar 1))) (gN 1)) bNil)))) (z9 (sRet (eVar 1)) bNil)))
noncomputable def z1p:List D->M D:=λds=>cln (runF 6 z0r ds)
theorem ok__law_homes (T:DefAt K "_law_homes" (top 35)) (mx:Mx K mg "_law_homes") (F00:mg "len" = none) (F02:mg "range" = none) (F07:mg "set" = none) (F05:mg "sorted" = none) (F01:mg "tuple" = none):Fn P w K mg base 1 "_law_homes" 1 z1p :=
 dfC ["_law_machine_here","_law_homes_here","_law_k","_law_looks","_law_one","_law_ahead"] z0r T mx (by decide +kernel) rfl (λ_ _ _ _ _ _ us hl=>(by obtain ⟨_,rfl⟩:=ar1 hl;rfl)) λhcd hr nd =>
  (z7 (y9 1 nd (J9 (N':=["_law_one"]) (cap:=[none]) rfl (z0p (by first|rfl|kernel_rfl!)) (z0j (Z8 (z0 0) Z2)) (λ_ _ _ _=>(Z9 0 (show (["_law_one"]:List Str).Nodup by decide +kernel))) (λ_ _ _ _=>Y8) (λ_ _ _ _=>Z2))) (z7 (z1n K0x rfl (v3 rfl F02 (J8 rfl F00 (z6 (z0 1) Z0))) (j8 2 nd) (z7 (y9 3 nd (z0X Z0)) (z7 (z1n K0x rfl (v3 rfl F02 (J8 rfl F00 (z6 (z0 1) Z0))) (j8 4 nd) (z7 (y9 5 nd (z1d (z05 rfl F01 (z6 (z1H rfl rfl F05 (z6 (z2U rfl rfl F07 (z6 (J9 (N':=["_law_homes_here","_law_to"]) (cap:=[some 1,none]) rfl (z0p (by first|rfl|kernel_rfl!)) (z0j (Z8 (Z8 (z0 0) Z2) (z0 4))) (λ_ _ _ _=>(Z9 1 (show (["_law_homes_here","_law_to"]:List Str).Nodup by decide +kernel))) (λ_ _ _ _=>Y8) (λ_ _ _ _=>(Z8 (z0 0) (z0 1)))) Z0)) Z0)) Z0)))) (z7 (z24 (z0a (z0 3) (z3D (z6 (Z8 (z0 1) (z0 4)) (z6 (Z8 (Z8 (z0 0) Z2) (z0 4)) (z6 (z0 5) Z0)))))) Z3))) (z7 (y9 1 nd (J9 (N':=["_law_looks","_law_look"]) (cap:=[some 3,none]) rfl (z0p (by first|rfl|kernel_rfl!)) (z0i (z0 3)) (λ_ _ _ _=>(Z9 1 (show (["_law_looks","_law_look"]:List Str).Nodup by decide +kernel))) (λ_ _ _ _=>Y8) (λ_ _ _ _=>(z8U (hu40 hr) (z0 0) (z0 1))))) Z3)))) (z7 (y6 (z0 1)) Z3)))
noncomputable def z0d:G->M Out :=
 (z9 (sAsg (Z6 x8 (z8 (Z6 z1h (z8 (eVar 0) aNil)) aNil)) (gN 1)) (z9 (sRet (clE (Z6 x4 (z8 (Y3 [some 1,none] (z0h (eVar 0)) (gN 1) (λ_=>pure true) (orE (eM1 z2f (eVar 0) (eVar 1)) (z3U (eVar 0) (eVar 1)))) aNil)))) bNil))
noncomputable def Y9:List D->M D:=λds=>cln (runF 2 z0d ds)
theorem ok__law_numbered (T:DefAt K "_law_numbered" (top 36)) (mx:Mx K mg "_law_numbered") (F07:mg "set" = none) (F05:mg "sorted" = none) (F01:mg "tuple" = none):Fn P w K mg base 1 "_law_numbered" 1 Y9 :=
 dfC ["_law_homes_here","_law_order"] z0d T mx (by decide +kernel) rfl (λ_ _ _ _ _ _ us hl=>(by obtain ⟨_,rfl⟩:=ar1 hl;rfl)) λhcd hr nd =>
  (z7 (y9 1 nd (z1H rfl rfl F05 (z6 (z2U rfl rfl F07 (z6 (z0 0) Z0)) Z0))) (z7 (y6 (z1d (z05 rfl F01 (z6 (J9 (N':=["_law_order","_law_home"]) (cap:=[some 1,none]) rfl (z0p (by first|rfl|kernel_rfl!)) (z0i (z0 0)) (λ_ _ _ _=>(Z9 1 (show (["_law_order","_law_home"]:List Str).Nodup by decide +kernel))) (λ_ _ _ _=>Y8) (λ_ _ _ _=>(zF7 (z5H (z0 0) (z0 1)) (z5Q (z0 0) (z0 1))))) Z0)))) Z3))
noncomputable def z14:G->M Out :=
 (z9 (sAsg (Z6 fLen (z8 (e2 fIx (eVar 0) (λ_=>pure (.int 0))) aNil)) (gN 2)) (z9 (sIf (cNot (cVal (eFn 3 x6 (z8 (eVar 1) (z8 (eVar 2) (z8 (eVar 2) aNil)))))) (z9 (sRet (λ_=>pure (.bl false))) bNil) bNil) (z9 (sAsg (λ_=>pure (.int 0)) (gN 3)) (z9 (sFor (z0o (eVar 1)) (gN 4) (z9 (sIf (cNot (cVal (eFn 3 x9 (z8 (eVar 4) (z8 (λ_=>pure (.int 0)) (z8 (e2 fAdd (eVar 3) (λ_=>pure (.int 1))) aNil)))))) (z9 (sRet (λ_=>pure (.bl false))) bNil) bNil) (z9 (sAsg (Z6 zb3 (z8 (eVar 3) (z8 (e2 fAdd (eVar 4) (λ_=>pure (.int 1))) aNil))) (gN 3)) bNil))) (z9 (sFor (z0g (eVar 2)) (gN 4) (z9 (sAsg (orE (eM1 z2f (eVar 1) (e2 fIx (eVar 1) (eVar 4))) (z3U (eVar 1) (e2 fIx (eVar 1) (eVar 4)))) (gN 5)) (z9 (sIf (λγ=>do let d ← e2 (fEqX true) (e2 fIx (e2 fIx (eVar 0) (λ_=>pure (.int 1))) (eVar 4)) (e2 fIx (e2 fIx (eVar 0) (λ_=>pure (.int 1))) (eVar 5)) γ;asB d) (z9 (sRet (λ_=>pure (.bl false))) bNil) bNil) (z9 (sAsg (Z6 x8 (z8 (Z6 z1h (z8 (Y3 [some 1,none] (z0o (e2 fIx (e2 fIx (eVar 0) (λ_=>pure (.int 0))) (eVar 4))) (gN 1) (λ_=>pure true) (e2 fIx (eVar 0) (eVar 1))) aNil)) aNil)) (gN 6)) (z9 (sIf (clT (λγ=>do let d ← e2 (fEqX true) (eVar 6) (Z6 x8 (z8 (Z6 z1h (z8 (Y3 [some 1,none] (z0o (e2 fIx (e2 fIx (eVar 0) (λ_=>pure (.int 0))) (eVar 5))) (gN 1) (λ_=>pure true) (e2 fIx (eVar 0) (eVar 1))) aNil)) aNil)) γ;asB d)) (z9 (sRet (λ_=>pure (.bl false))) bNil) bNil) bNil))))) (z9 (sRet (λ_=>pure (.bl true))) bNil))))))
noncomputable def z12:List D->M D:=λds=>cln (runF 7 z14 ds)
theorem ok__law_steady (T:DefAt K "_law_steady" (top 37)) (mx:Mx K mg "_law_steady") (F00:mg "len" = none) (F0B:mg "max" = none) (F02:mg "range" = none) (F07:mg "set" = none) (F05:mg "sorted" = none) (F0e:Fn P w K mg base 1 "_law_number" 3 x9) (F0b:Fn P w K mg base 1 "_law_tuple" 3 x6):Fn P w K mg base 2 "_law_steady" 2 z12 :=
 dfC ["_law_machine_here","_law_thing","_law_many","_law_top","_law_one","_law_first","_law_here"] z14 T mx (by decide +kernel) rfl (λ_ _ _ _ _ _ us hl=>(by obtain ⟨_,_,rfl⟩:=ar2 hl;rfl)) λhcd hr nd =>
  (z7 (y9 2 nd (J8 rfl F00 (z6 (Z8 (z0 0) Z2) Z0))) (z7 (s_if (z0k (z0c (Z5 F0b (hr.mono (by decide)) rfl (z6 (z0 1) (z6 (z0 2) (z6 (z0 2) Z0)))))) (z7 (y6 z2a) Z3) Z3) (z7 (y9 3 nd Z2) (z7 (z1n K0x rfl (z0j (z0 1)) (j8 4 nd) (z7 (s_if (z0k (z0c (Z5 F0e (hr.mono (by decide)) rfl (z6 (z0 4) (z6 Z2 (z6 (z1i (z0 3) Z2) Z0)))))) (z7 (y6 z2a) Z3) Z3) (z7 (y9 3 nd (zB6 rfl rfl F0B (z6 (z0 3) (z6 (z1i (z0 4) Z2) Z0)))) Z3))) (z7 (z1n K0x rfl (v3 rfl F02 (z0 2)) (j8 4 nd) (z7 (y9 5 nd (zF7 (z5H (z0 1) (Z8 (z0 1) (z0 4))) (z5Q (z0 1) (Z8 (z0 1) (z0 4))))) (z7 (s_if (sc_c (z7d (hu30 hr)) (Z8 (Z8 (z0 0) Z2) (z0 4)) (Z8 (Z8 (z0 0) Z2) (z0 5))) (z7 (y6 z2a) Z3) Z3) (z7 (y9 6 nd (z1H rfl rfl F05 (z6 (z2U rfl rfl F07 (z6 (J9 (N':=["_law_thing","_law_to"]) (cap:=[some 1,none]) rfl (z0p (by first|rfl|kernel_rfl!)) (z0j (Z8 (Z8 (z0 0) Z2) (z0 4))) (λ_ _ _ _=>(Z9 1 (show (["_law_thing","_law_to"]:List Str).Nodup by decide +kernel))) (λ_ _ _ _=>Y8) (λ_ _ _ _=>(Z8 (z0 0) (z0 1)))) Z0)) Z0))) (z7 (s_if (zm4 (sc_c (z7d (hu30 hr)) (z0 6) (z1H rfl rfl F05 (z6 (z2U rfl rfl F07 (z6 (J9 (N':=["_law_thing","_law_to"]) (cap:=[some 1,none]) rfl (z0p (by first|rfl|kernel_rfl!)) (z0j (Z8 (Z8 (z0 0) Z2) (z0 5))) (λ_ _ _ _=>(Z9 1 (show (["_law_thing","_law_to"]:List Str).Nodup by decide +kernel))) (λ_ _ _ _=>Y8) (λ_ _ _ _=>(Z8 (z0 0) (z0 1)))) Z0)) Z0)))) (z7 (y6 z2a) Z3) Z3) Z3))))) (z7 (y6 z2a) Z3))))))
noncomputable def z0E:G->M Out :=
 (z9 (sAsg (eLst aNil) (gN 4)) (z9 (sFor (z0g (Z6 fLen (z8 (eVar 1) aNil))) (gN 5) (z9 (sIf (cAnd (cVal (eIsi "str" (eVar 3))) (λγ=>do let d ← e2 (fIn false) (eVar 3) (e2 fIx (e2 fIx (eVar 0) (λ_=>pure (.int 1))) (eVar 5)) γ;asB d)) (z9 (z0S (eM1 y8 (eVar 4) (eVar 5))) bNil) bNil) (z9 (sIf (cAnd (cNot (cVal (eIsi "str" (eVar 3)))) (clT (λγ=>do let d ← e2 (fIn false) (eVar 3) (Y3 [some 1,none] (z0o (e2 fIx (e2 fIx (eVar 0) (λ_=>pure (.int 0))) (eVar 5))) (gN 1) (λ_=>pure true) (e2 fIx (eVar 0) (eVar 1))) γ;asB d))) (z9 (z0S (eM1 y8 (eVar 4) (eVar 5))) bNil) bNil) bNil))) (z9 (z2G 6 [some 1,some 2,none] (z0g (Z6 fLen (z8 (eVar 1) aNil))) (gN 2) (λγ=>do let d ← e2 (fEqX false) (e2 fIx (eVar 0) (eVar 2)) (eVar 1) γ;asB d) (eVar 2)) (z9 (z2G 7 [some 4,none] (z0h (eVar 6)) (gN 1) (λγ=>do let d ← e2 (fIn false) (eVar 1) (eVar 0) γ;asB d) (eVar 1)) (z9 (z2G 8 [some 4,none] (z0h (eVar 6)) (gN 1) (λγ=>do let d ← e2 (fIn true) (eVar 1) (eVar 0) γ;asB d) (eVar 1)) (z9 (sIf (cOr (λγ=>do let d ← e2 (fEq false) (Z6 fLen (z8 (eVar 7) aNil)) (λ_=>pure (.int 0)) γ;asB d) (λγ=>do let d ← e2 (fEq false) (Z6 fLen (z8 (eVar 8) aNil)) (λ_=>pure (.int 0)) γ;asB d)) (z9 (sRet (λ_=>pure .non)) bNil) bNil) (z9 (sAsg (Z6 z8x (z8 (eVar 1) aNil)) (gN 9)) (z9 (sFor (z0h (eVar 7)) (gN 5) (z9 (sAsg (e2 fIx (eVar 7) (λ_=>pure (.int 0))) (gIx (eVar 9) (eVar 5))) bNil)) (z9 (sFor (z0h (eVar 8)) (gN 5) (z9 (sAsg (e2 fIx (eVar 8) (λ_=>pure (.int 0))) (gIx (eVar 9) (eVar 5))) bNil)) (z9 (sRet (eVar 9)) bNil))))))))))
noncomputable def z0e:List D->M D:=λds=>cln (runF 10 z0E ds)
theorem ok__law_halved (T:DefAt K "_law_halved" (top 38)) (mx:Mx K mg "_law_halved") (F03:mg "isinstance" = none) (F00:mg "len" = none) (F0l:mg "list" = none) (F02:mg "range" = none) (F06:mg "str" = none):Fn P w K mg base 1 "_law_halved" 4 z0e :=
 dfC ["_law_machine_here","_law_homes_here","_law_cut","_law_by","_law_chosen","_law_one","_law_block","_law_inner","_law_rest","_law_found"] z0E T mx (by decide +kernel) rfl (λ_ _ _ _ _ _ us hl=>(by obtain ⟨_,_,_,_,rfl⟩:=ar4 hl;rfl)) λhcd hr nd =>
  (z7 (y9 4 nd (z0X Z0)) (z7 (z1n K0x rfl (v3 rfl F02 (J8 rfl F00 (z6 (z0 1) Z0))) (j8 5 nd) (z7 (s_if (SW.sc (zc3 (z0c (z1Q rfl F03 rfl F06 (by decide +kernel) (by decide) (z0 3))) (z6L (sc_c z8a (z0 3) (Z8 (Z8 (z0 0) Z2) (z0 5)))))) (z7 (z24 (z0a (z0 4) (z0 5))) Z3) Z3) (z7 (s_if (SW.sc (zc3 (z0k (z0c (z1Q rfl F03 rfl F06 (by decide +kernel) (by decide) (z0 3)))) (z6L (zm4 (sc_c z8a (z0 3) (J9 (N':=["_law_homes_here","_law_to"]) (cap:=[some 1,none]) rfl (z0p (by first|rfl|kernel_rfl!)) (z0j (Z8 (Z8 (z0 0) Z2) (z0 5))) (λ_ _ _ _=>(Z9 1 (show (["_law_homes_here","_law_to"]:List Str).Nodup by decide +kernel))) (λ_ _ _ _=>Y8) (λ_ _ _ _=>(Z8 (z0 0) (z0 1))))))))) (z7 (z24 (z0a (z0 4) (z0 5))) Z3) Z3) Z3))) (z7 (z4K 6 (N':=["_law_homes_here","_law_cut","_law_one"]) (cap:=[some 1,some 2,none]) rfl (z0p (by first|rfl|kernel_rfl!)) (v3 rfl F02 (J8 rfl F00 (z6 (z0 1) Z0))) (λ_ _ _ _=>(Z9 2 (show (["_law_homes_here","_law_cut","_law_one"]:List Str).Nodup by decide +kernel))) (λ_ _ _ _=>(z0F (sc_c (z2F (hu30 hr)) (Z8 (z0 0) (z0 2)) (z0 1)))) (λ_ _ _ _=>(z0 2)) nd) (z7 (z4K 7 (N':=["_law_chosen","_law_one"]) (cap:=[some 4,none]) rfl (z0p (by first|rfl|kernel_rfl!)) (z0i (z0 6)) (λ_ _ _ _=>(Z9 1 (show (["_law_chosen","_law_one"]:List Str).Nodup by decide +kernel))) (λ_ _ _ _=>(z0F (sc_c z8a (z0 1) (z0 0)))) (λ_ _ _ _=>(z0 1)) nd) (z7 (z4K 8 (N':=["_law_chosen","_law_one"]) (cap:=[some 4,none]) rfl (z0p (by first|rfl|kernel_rfl!)) (z0i (z0 6)) (λ_ _ _ _=>(Z9 1 (show (["_law_chosen","_law_one"]:List Str).Nodup by decide +kernel))) (λ_ _ _ _=>(z0F (sc_c z33 (z0 1) (z0 0)))) (λ_ _ _ _=>(z0 1)) nd) (z7 (s_if (SW.sc (z42 (sc_c z66 (J8 rfl F00 (z6 (z0 7) Z0)) Z2) (z3e (sc_c z66 (J8 rfl F00 (z6 (z0 8) Z0)) Z2)))) (z7 (y6 z3h) Z3) Z3) (z7 (y9 9 nd (zq2 rfl F0l (z6 (z0 1) Z0))) (z7 (z1n K0x rfl (z0i (z0 7)) (j8 5 nd) (z7 (z4r (Z8 (z0 7) Z2) (z9u (z0 9) (z0 5))) Z3)) (z7 (z1n K0x rfl (z0i (z0 8)) (j8 5 nd) (z7 (z4r (Z8 (z0 8) Z2) (z9u (z0 9) (z0 5))) Z3)) (z7 (y6 (z0 9)) Z3))))))))))
noncomputable def z09:G->M Out :=
 (z9 (z2G 2 [none] (z0o (e2 fIx (eVar 0) (λ_=>pure (.int 0)))) (gN 0) (λ_=>pure true) (λ_=>pure (.int 0))) (z9 (sIf (cNot (cVal (eIsi "tuple" (eVar 1)))) (z9 (sRet (λ_=>pure .non)) bNil) bNil) (z9 (sFor (z0o (eVar 1)) (gN 3) (z9 (sIf (cOr (cNot (cVal (eFn 3 x6 (z8 (eVar 3) (z8 (λ_=>pure (.int 2)) (z8 (λ_=>pure (.int 2)) aNil)))))) (cNot (cVal (eFn 3 x9 (z8 (e2 fIx (eVar 3) (λ_=>pure (.int 0))) (z8 (λ_=>pure (.int 0)) (z8 (Z6 fLen (z8 (eVar 2) aNil)) aNil))))))) (z9 (sRet (λ_=>pure .non)) bNil) bNil) (z9 (sIf (cNot (cVal (eFn 1 z00 (z8 (e2 fIx (eVar 3) (λ_=>pure (.int 1))) aNil)))) (z9 (sIf (cOr (cNot (cVal (eFn 3 x9 (z8 (e2 fIx (eVar 3) (λ_=>pure (.int 1))) (z8 (λ_=>pure (.int 0)) (z8 (Z6 fLen (z8 (eVar 2) aNil)) aNil)))))) (λγ=>do let d ← e2 (fEqX true) (e2 fIx (eVar 2) (e2 fIx (eVar 3) (λ_=>pure (.int 1)))) (e2 fIx (eVar 3) (λ_=>pure (.int 1))) γ;asB d)) (z9 (sRet (λ_=>pure .non)) bNil) bNil) bNil) bNil) (z9 (sAsg (eFn 4 z0e (z8 (eVar 0) (z8 (eVar 2) (z8 (e2 fIx (eVar 3) (λ_=>pure (.int 0))) (z8 (e2 fIx (eVar 3) (λ_=>pure (.int 1))) aNil))))) (gN 2)) (z9 (sIf (λγ=>do let d ← e2 (fIs false) (eVar 2) (λ_=>pure .non) γ;asB d) (z9 (sRet (λ_=>pure .non)) bNil) bNil) bNil))))) (z9 (sRet (eVar 2)) bNil))))
noncomputable def z0D:List D->M D:=λds=>cln (runF 4 z09 ds)
theorem ok__law_cuts_end (T:DefAt K "_law_cuts_end" (top 39)) (mx:Mx K mg "_law_cuts_end") (F03:mg "isinstance" = none) (F00:mg "len" = none) (F01:mg "tuple" = none) (F0C:Fn P w K mg base 1 "_law_good_name" 1 z00) (F0D:Fn P w K mg base 1 "_law_halved" 4 z0e) (F0e:Fn P w K mg base 1 "_law_number" 3 x9) (F0b:Fn P w K mg base 1 "_law_tuple" 3 x6):Fn P w K mg base 2 "_law_cuts_end" 2 z0D :=
 dfC ["_law_machine_here","_law_cuts","_law_homes_here","_law_pair"] z09 T mx (by decide +kernel) rfl (λ_ _ _ _ _ _ us hl=>(by obtain ⟨_,_,rfl⟩:=ar2 hl;rfl)) λhcd hr nd =>
  (z7 (z4K 2 (N':=["_law_one"]) (cap:=[none]) rfl (z0p (by first|rfl|kernel_rfl!)) (z0j (Z8 (z0 0) Z2)) (λ_ _ _ _=>(Z9 0 (show (["_law_one"]:List Str).Nodup by decide +kernel))) (λ_ _ _ _=>Y8) (λ_ _ _ _=>Z2) nd) (z7 (s_if (z0k (z0c (z1Q rfl F03 rfl F01 (by decide +kernel) (by decide) (z0 1)))) (z7 (y6 z3h) Z3) Z3) (z7 (z1n K0x rfl (z0j (z0 1)) (j8 3 nd) (z7 (s_if (SW.sc (z42 (z0k (z0c (Z5 F0b (hr.mono (by decide)) rfl (z6 (z0 3) (z6 Z2 (z6 Z2 Z0)))))) (z3e (z0k (z0c (Z5 F0e (hr.mono (by decide)) rfl (z6 (Z8 (z0 3) Z2) (z6 Z2 (z6 (J8 rfl F00 (z6 (z0 2) Z0)) Z0))))))))) (z7 (y6 z3h) Z3) Z3) (z7 (s_if (z0k (z0c (Z5 F0C (hr.mono (by decide)) rfl (z6 (Z8 (z0 3) Z2) Z0)))) (z7 (s_if (SW.sc (z42 (z0k (z0c (Z5 F0e (hr.mono (by decide)) rfl (z6 (Z8 (z0 3) Z2) (z6 Z2 (z6 (J8 rfl F00 (z6 (z0 2) Z0)) Z0)))))) (z3e (sc_c (z7d (hu30 hr)) (Z8 (z0 2) (Z8 (z0 3) Z2)) (Z8 (z0 3) Z2))))) (z7 (y6 z3h) Z3) Z3) Z3) Z3) (z7 (y9 2 nd (Z5 F0D (hr.mono (by decide)) rfl (z6 (z0 0) (z6 (z0 2) (z6 (Z8 (z0 3) Z2) (z6 (Z8 (z0 3) Z2) Z0)))))) (z7 (s_if (sc_c zQ2 (z0 2) z3h) (z7 (y6 z3h) Z3) Z3) Z3))))) (z7 (y6 (z0 2)) Z3))))
noncomputable def Y6:G->M Out :=
 (z9 (sIf (cOr (cNot (cVal (eFn 3 x6 (z8 (eVar 1) (z8 (λ_=>pure (.int 2)) (z8 (λ_=>pure (.int 2)) aNil)))))) (cNot (cVal (eFn 2 z12 (z8 (eVar 0) (z8 (e2 fIx (eVar 1) (λ_=>pure (.int 0))) aNil)))))) (z9 (sRet (λ_=>pure (.bl false))) bNil) bNil) (z9 (sAsg (eFn 2 z0D (z8 (eVar 0) (z8 (e2 fIx (eVar 1) (λ_=>pure (.int 1))) aNil))) (gN 2)) (z9 (sRet (eAnd (e2 (fIs true) (eVar 2) (λ_=>pure .non)) (e2 (fEqX false) (eFn 1 Y9 (z8 (eVar 2) aNil)) (e2 fIx (eVar 1) (λ_=>pure (.int 0)))))) bNil)))
noncomputable def Y5:List D->M D:=λds=>cln (runF 3 Y6 ds)
theorem ok__law_classes_right (T:DefAt K "_law_classes_right" (top 40)) (mx:Mx K mg "_law_classes_right") (F0E:Fn P w K mg base 2 "_law_cuts_end" 2 z0D) (F0m:Fn P w K mg base 1 "_law_numbered" 1 Y9) (F0F:Fn P w K mg base 2 "_law_steady" 2 z12) (F0b:Fn P w K mg base 1 "_law_tuple" 3 x6):Fn P w K mg base 3 "_law_classes_right" 2 Y5 :=
 dfC ["_law_machine_here","_law_thing","_law_homes_here"] Y6 T mx (by decide +kernel) rfl (λ_ _ _ _ _ _ us hl=>(by obtain ⟨_,_,rfl⟩:=ar2 hl;rfl)) λhcd hr nd =>
  (z7 (s_if (SW.sc (z42 (z0k (z0c (Z5 F0b (hr.mono (by decide)) rfl (z6 (z0 1) (z6 Z2 (z6 Z2 Z0)))))) (z3e (z0k (z0c (Z5 F0F (hr.mono (by decide)) rfl (z6 (z0 0) (z6 (Z8 (z0 1) Z2) Z0)))))))) (z7 (y6 z2a) Z3) Z3) (z7 (y9 2 nd (Z5 F0E (hr.mono (by decide)) rfl (z6 (z0 0) (z6 (Z8 (z0 1) Z2) Z0)))) (z7 (y6 (z0I (se_c z7a (z0 2) z3h) (z1R (se_c (z2F (hu30 hr)) (Z5 F0m (hr.mono (by decide)) rfl (z6 (z0 2) Z0)) (Z8 (z0 1) Z2))))) Z3)))
noncomputable def z13:G->M Out :=
 (z9 (sAsg (eRng false (Z6 fLen (z8 (e2 fIx (eVar 1) (λ_=>pure (.int 0))) aNil))) (gN 3)) (z9 (sFor (z0g (eFn 2 Z4 (z8 (eVar 0) (z8 (e2 fAdd (eVar 2) (λ_=>pure (.int 1))) aNil)))) (gN 4) (z9 (z0S (eM1 y8 (eVar 3) (eFn 2 Z4 (z8 (eVar 0) (z8 (Z6 fLen (z8 (e2 fIx (eVar 1) (λ_=>pure (.int 0))) aNil)) aNil))))) bNil)) (z9 (sAsg (eLst aNil) (gN 5)) (z9 (sFor (z0g (Z6 fLen (z8 (eVar 3) aNil))) (gN 4) (z9 (z0S (eM1 y8 (eVar 5) (eM1 z2O (eVar 3) (eFn 2 Z4 (z8 (eVar 0) (z8 (Z6 fLen (z8 (eVar 3) aNil)) aNil)))))) bNil)) (z9 (sAsg (eLst aNil) (gN 6)) (z9 (sFor (orE (z0o (eVar 5)) (z0h (eVar 5))) (gN 7) (z9 (sAsg (eLst aNil) (gN 8)) (z9 (sFor (orE (z0o (e2 fIx (e2 fIx (eVar 1) (λ_=>pure (.int 0))) (eVar 7))) (z0h (e2 fIx (e2 fIx (eVar 1) (λ_=>pure (.int 0))) (eVar 7)))) (gN 9) (z9 (z2G 10 [some 5,some 9,none] (z0g (Z6 fLen (z8 (eVar 5) aNil))) (gN 2) (λγ=>do let d ← e2 (fEqX false) (e2 fIx (eVar 0) (eVar 2)) (eVar 1) γ;asB d) (eVar 2)) (z9 (sAsg (e2 fIx (eVar 10) (eFn 2 Z4 (z8 (eVar 0) (z8 (Z6 fLen (z8 (eVar 10) aNil)) aNil)))) (gN 11)) (z9 (sAsg (e2 fAdd (eVar 8) (Y3 [some 11,some 0,none] (orE (z0o (eVar 10)) (z0h (eVar 10))) (gN 2) (cOr (λγ=>do let d ← e2 (fEqX false) (eVar 2) (eVar 0) γ;asB d) (λγ=>do let d ← e2 (fEq false) (eFn 2 Z4 (z8 (eVar 1) (z8 (λ_=>pure (.int 3)) aNil))) (λ_=>pure (.int 0)) γ;asB d)) (eVar 2))) (gN 8)) bNil)))) (z9 (z0S (eM1 y8 (eVar 6) (clE (Z6 x4 (z8 (Z6 z1B (z8 (eVar 8) aNil)) aNil))))) bNil)))) (z9 (sRet (eTup (z8 (eTup (z8 (Z6 x4 (z8 (eVar 6) aNil)) (z8 (clE (Z6 x4 (z8 (Y3 [some 1,none] (orE (z0o (eVar 5)) (z0h (eVar 5))) (gN 1) (λ_=>pure true) (e2 fIx (e2 fIx (eVar 0) (λ_=>pure (.int 1))) (eVar 1))) aNil))) aNil))) (z8 (eVar 5) aNil)))) bNil)))))))
noncomputable def z11:List D->M D:=λds=>cln (runF 12 z13 ds)
theorem ok__law_copies (T:DefAt K "_law_copies" (top 41)) (mx:Mx K mg "_law_copies") (F00:mg "len" = none) (F0l:mg "list" = none) (F02:mg "range" = none) (F05:mg "sorted" = none) (F01:mg "tuple" = none) (F04:Fn P w K mg base 1 "_law_draw" 2 Z4):Fn P w K mg base 2 "_law_copies" 3 z11 :=
 dfC ["_law_pool_here","_law_base","_law_most","_law_kinds","_law_k","_law_raw","_law_steps","_law_kind","_law_ahead","_law_to","_law_mates","_law_sure"] z13 T mx (by decide +kernel) rfl (λ_ _ _ _ _ _ us hl=>(by obtain ⟨_,_,_,rfl⟩:=ar3 hl;rfl)) λhcd hr nd =>
  (z7 (y9 3 nd (zf5 rfl rfl F0l rfl F02 (J8 rfl F00 (z6 (Z8 (z0 1) Z2) Z0)))) (z7 (z1n K0x rfl (v3 rfl F02 (Z5 F04 (hr.mono (by decide)) rfl (z6 (z0 0) (z6 (z1i (z0 2) Z2) Z0)))) (j8 4 nd) (z7 (z24 (z0a (z0 3) (Z5 F04 (hr.mono (by decide)) rfl (z6 (z0 0) (z6 (J8 rfl F00 (z6 (Z8 (z0 1) Z2) Z0)) Z0))))) Z3)) (z7 (y9 5 nd (z0X Z0)) (z7 (z1n K0x rfl (v3 rfl F02 (J8 rfl F00 (z6 (z0 3) Z0))) (j8 4 nd) (z7 (z24 (z0a (z0 5) (z7P (z0 3) (Z5 F04 (hr.mono (by decide)) rfl (z6 (z0 0) (z6 (J8 rfl F00 (z6 (z0 3) Z0)) Z0)))))) Z3)) (z7 (y9 6 nd (z0X Z0)) (z7 (z1n K0x rfl (zk8 (z0j (z0 5)) (z0i (z0 5))) (j8 7 nd) (z7 (y9 8 nd (z0X Z0)) (z7 (z1n K0x rfl (zk8 (z0j (Z8 (Z8 (z0 1) Z2) (z0 7))) (z0i (Z8 (Z8 (z0 1) Z2) (z0 7)))) (j8 9 nd) (z7 (z4K 10 (N':=["_law_raw","_law_to","_law_one"]) (cap:=[some 5,some 9,none]) rfl (z0p (by first|rfl|kernel_rfl!)) (v3 rfl F02 (J8 rfl F00 (z6 (z0 5) Z0))) (λ_ _ _ _=>(Z9 2 (show (["_law_raw","_law_to","_law_one"]:List Str).Nodup by decide +kernel))) (λ_ _ _ _=>(z0F (sc_c (z2F (hu30 hr)) (Z8 (z0 0) (z0 2)) (z0 1)))) (λ_ _ _ _=>(z0 2)) nd) (z7 (y9 11 nd (Z8 (z0 10) (Z5 F04 (hr.mono (by decide)) rfl (z6 (z0 0) (z6 (J8 rfl F00 (z6 (z0 10) Z0)) Z0))))) (z7 (y9 8 nd (z1i (z0 8) (J9 (N':=["_law_sure","_law_pool_here","_law_one"]) (cap:=[some 11,some 0,none]) rfl (z0p (by first|rfl|kernel_rfl!)) (zk8 (z0j (z0 10)) (z0i (z0 10))) (λ_ _ _ _=>(Z9 2 (show (["_law_sure","_law_pool_here","_law_one"]:List Str).Nodup by decide +kernel))) (λ_ _ _ _=>(z0F (SW.sc (z42 (sc_c (z2F (hu30 hr)) (z0 2) (z0 0)) (z3e (sc_c z66 (Z5 F04 (hr.mono (by decide)) rfl (z6 (z0 1) (z6 Z2 Z0))) Z2)))))) (λ_ _ _ _=>(z0 2))))) Z3)))) (z7 (z24 (z0a (z0 6) (z1d (z05 rfl F01 (z6 (z6j rfl rfl F05 (z6 (z0 8) Z0)) Z0))))) Z3)))) (z7 (y6 (z3D (z6 (z3D (z6 (z05 rfl F01 (z6 (z0 6) Z0)) (z6 (z1d (z05 rfl F01 (z6 (J9 (N':=["_law_base","_law_kind"]) (cap:=[some 1,none]) rfl (z0p (by first|rfl|kernel_rfl!)) (zk8 (z0j (z0 5)) (z0i (z0 5))) (λ_ _ _ _=>(Z9 1 (show (["_law_base","_law_kind"]:List Str).Nodup by decide +kernel))) (λ_ _ _ _=>Y8) (λ_ _ _ _=>(Z8 (Z8 (z0 0) Z2) (z0 1)))) Z0))) Z0))) (z6 (z0 5) Z0)))) Z3)))))))
noncomputable def zj1:G->M Out :=
 (z9 (sAsg (eFn 1 z20 (z8 (eVar 0) aNil)) (gN 1)) (z9 (sAsg (eFn 2 Z4 (z8 (eVar 1) (z8 (λ_=>pure (.int 3)) aNil))) (gN 2)) (z9 (sAsg (eFn 2 z1t (z8 (eVar 1) (z8 (eFn 2 Z4 (z8 (eVar 1) (z8 (λ_=>pure (.int 4)) aNil))) aNil))) (gN 3)) (z9 (sAsg (eFn 3 z11 (z8 (eVar 1) (z8 (eFn 3 z01 (z8 (eVar 1) (z8 (eVar 3) (z8 (λ_=>pure (.int 5)) aNil)))) (z8 (λ_=>pure (.int 6)) aNil)))) (gT 2 (z0W (gN 4) (z0W (gN 5) z5l)))) (z9 (sIf (λγ=>do let d ← e2 (fEq false) (eVar 2) (λ_=>pure (.int 0)) γ;asB d) (z9 (sAsg (eFn 3 z01 (z8 (eVar 1) (z8 (eVar 3) (z8 (λ_=>pure (.int 9)) aNil)))) (gN 4)) bNil) bNil) (z9 (sAsg (eFn 1 z28 (z8 (eVar 4) aNil)) (gN 6)) (z9 (sIf (cNot (cVal (eFn 2 Y5 (z8 (eVar 4) (z8 (eVar 6) aNil))))) (z9 (sRet (λ_=>pure (.bl false))) bNil) bNil) (z9 (sIf (λγ=>do let d ← e2 (fEqX true) (e2 fIx (eVar 6) (λ_=>pure (.int 0))) (eFn 1 Y9 (z8 (eFn 1 z1p (z8 (eVar 4) aNil)) aNil)) γ;asB d) (z9 (sRet (λ_=>pure (.bl false))) bNil) bNil) (z9 (sRet (eAnd (eFn 2 z0O (z8 (eFn 2 z0v (z8 (eVar 4) (z8 (eVar 6) aNil))) (z8 (λ_=>pure (.bl true)) aNil))) (e2 (fEqX false) (eFn 1 z28 (z8 (eVar 4) aNil)) (eVar 6)))) bNil)))))))))
noncomputable def m_law:List D->M D:=runF 7 zj1
theorem sc_law:FnScope ["_law_script","_law_pool_here","_law_choice","_law_names_here","_law_machine_here","_law_raw","_law_found"] ["_law_script"] (y0 (top 42)):=⟨rfl,rfl,rfl,by decide +kernel,rfl,by decide +kernel,by decide +kernel⟩
theorem zU8 (g0:Int) (gr sm:List Int) (s c:Int) (r:AH) (n:Int) (hn:0<n) (hn2:n<1073741824) (hg:gr.length≤63) :
 ∃gr',gr'.length≤gr.length+1/\Z4 [.ref 2,.int n] (Pool (g0::gr) sm s c r)=.ok (.int (g0 % n)) (Pool gr' sm s c r):=by
 unfold Z4 runF z1b Pool z19
 have hl:gr.length≤sizeLine:=K0m hg (by decide)
 by_cases h0:g0 / n=0
 ·refine ⟨gr,by omega,?_⟩
  simp [z9,bNil,sIf,sAsg,sRet,z0S,e2,Z6,z8,aNil,eVar,fIx,seqD,getL,fLen,fGt,fCmp,fI,asB,gIx,gN,fSet,fDiv,fIC,eM1,z2y,z2O,updL,fEq,eqD,fMod,atI,ixN,hn,hn2,h0,K57,hl]
 ·refine ⟨g0 / n::gr,by simp,?_⟩
  simp [z9,bNil,sIf,sAsg,sRet,z0S,e2,Z6,z8,aNil,eVar,fIx,seqD,getL,fLen,fGt,fCmp,fI,asB,gIx,gN,fSet,fDiv,fIC,eM1,z2y,z2O,updL,fEq,eqD,fMod,atI,ixN,hn,hn2,h0]
theorem zQ1 (sm:List Int) (s c:Int) (r:AH) (n:Int) (hn:0<n) (hn2:n<1073741824) (hs:0≤s) (hs2:s<2147483647) (hc:0≤c) (hc2:c<1000000) (hm:sm.length≤63) :
 ∃s' d,Z4 [.ref 2,.int n] (Pool [] sm s c r)=.ok (.int d) (Pool [] sm s' (c+1) r)/\0≤d/\d<n/\0≤s'/\s'<2147483647:=by
 have k1:-18446744073709551616<c+1:=by omega
 have k2:c+1<18446744073709551616:=by omega
 have k3:-18446744073709551616<s:=by omega
 have k4:s<18446744073709551616:=by omega
 have key:∀x:Int,(∃y:Int,Z4 [.ref 2,.int n] (Pool [] sm s c r)=.ok (.int ((((s * 48271+x % 2147483629 * ((c+1) * (c+1)+1)+97 * (c+1)) % 2147483647) ^ 5) % 2147483629 / 64 % n)) (Pool [] sm ((s * 48271+x % 2147483629 * ((c+1) * (c+1)+1)+97 * (c+1)) % 2147483647) (c+1) r)) ->
  ∃s' d,Z4 [.ref 2,.int n] (Pool [] sm s c r)=.ok (.int d) (Pool [] sm s' (c+1) r)/\0≤d/\d<n/\0≤s'/\s'<2147483647:=λx ⟨_,e⟩ =>
  ⟨_,_,e,K4z _ (by omega),K40 _ hn,K4z _ (by decide),K40 _ (by decide)⟩
 have p1:∀z:Int,-18446744073709551616<z % 2147483647:=λz=>by omega
 have p2:∀z:Int,z % 2147483647<18446744073709551616:=λz=>by omega
 have p3:∀z:Int,-18446744073709551616<z % 2147483629:=λz=>by omega
 have p4:∀z:Int,z % 2147483629<18446744073709551616:=λz=>by omega
 cases sm with
 | nil =>
  refine key 0 ⟨0,?_⟩
  unfold Z4 runF z1b Pool z19
  simp [z9,bNil,sIf,sAsg,sRet,z0S,e2,Z6,z8,aNil,eVar,fIx,seqD,getL,fLen,fGt,fCmp,fI,asB,gIx,gN,fSet,fDiv,fIC,eM1,z2y,z2O,updL,fEq,eqD,fMod,fAdd,fMul,z55,fPow,atI,ixN,hn,hn2,k1,k2,k3,k4,p1,p2,p3,p4]
 | cons m0 sm =>
  have hl:(0:Int)<(sm.length:Int)+1:=by omega
  have hi:0≤(c+1) % ((sm.length:Int)+1):=K4z _ (by omega)
  have hi2:(c+1) % ((sm.length:Int)+1)<(sm.length:Int)+1:=K40 _ hl
  obtain ⟨x,hx⟩:∃x,(D.int m0::sm.map D.int)[((c+1) % ((sm.length:Int)+1)).toNat]?=.(i x):=by
   have e:(D.int m0::sm.map D.int)=(m0::sm).map D.int:=rfl
   rw [e,K0e,K4 (by simp;omega)]
   exact ⟨_,rfl⟩
  have hx2:∀hj,(D.int m0::List.map D.int sm)[((c+1) % ((sm.length:Int)+1)).toNat]'hj=D.int x:=λhj=>K13 ((K4 hj).symm.trans hx)
  refine key x ⟨0,?_⟩
  unfold Z4 runF z1b Pool z19
  simp [z9,bNil,sIf,sAsg,sRet,z0S,e2,Z6,z8,aNil,eVar,fIx,seqD,getL,fLen,fGt,fCmp,fI,asB,gIx,gN,fSet,fDiv,fIC,eM1,z2y,z2O,updL,fEq,eqD,fMod,fAdd,fMul,z55,fPow,atI,ixN,hn,hn2,k1,k2,k3,k4,p1,p2,p3,p4,hi,hi2,hl,hx,hx2]
theorem draw {h:AH}{k n:Int}{r:AH}(p:PS h k r) (hk:k<1000000) (hn:0<n) (hn2:n<1073741824):∃d h',Z4 [.ref 2,.int n] h=.ok (.int d) h'/\0≤d/\d<n/\PS h' (k+1) r:=by
 obtain ⟨gr,sm,s,c,rfl,h1,h2,h3,h4,h5,h6⟩:=p
 cases gr with
 | nil =>
  obtain ⟨s',d,e,q1,q2,q3,q4⟩:=zQ1 sm s c r n hn hn2 h1 h2 h3 (by omega) h6
  exact ⟨d,_,e,q1,q2,[],sm,s',c+1,rfl,q3,q4,by omega,by omega,by simp,h6⟩
 | cons g0 gr =>
  simp at h5
  obtain ⟨gr',l,e⟩:=zU8 g0 gr sm s c r n hn hn2 (by omega)
  exact ⟨_,_,e,K4z _ (by omega),K40 _ hn,gr',sm,s,c,rfl,h1,h2,h3,by omega,by omega,h6⟩
theorem z0Y {h:AH}{k n:Int}{r:AH}{Q:D->AH->Prop}(p:PS h k r) (hk:k<1000000) (hn:0<n) (hn2:n<1073741824) (z:∀d h',0≤d->d<n->PS h' (k+1) r->Q (.int d) h'):W (Z4 [.ref 2,.int n]) h Q:=by
 obtain ⟨d,h',e,d0,d1,p'⟩:=draw p hk hn hn2
 exact ⟨_,_,e,z d h' d0 d1 p'⟩
theorem zd8 {ns:List Int}(hn:ns.length≤63):W (z20 [.fl (ns.map .int)]) [] (λd h'=>d=.ref 2/\PS h' 0 []):=by
 refine z29 ?_
 show W (z1S [some (.fl (ns.map .int)),none]) [] _
 unfold z1S z2G
 rw [w_cons];simp only [K0c,K0a,Z7,W_pure,z04,e2,eVar,gN,sAsg]
 have src:∀(γ:G) (h:AH),γ[0]?=some (some (.fl (ns.map .int)))->z0h (eVar 0) γ h=.ok (.con (ns.map .int)) h:=λγ h e=>by
  unfold z0h eVar
  rw [e]
  rfl
 refine W.of (z1C (src:=.con (ns.map .int)) (λd=>match d with|.int t=>decide (1000000000000000000≤t)|_=>false) (λd=>d) (src _ _ rfl) (λ_=>trivial) (by simp [Src.items];omega) λd hd=>?_) ?_
 ·obtain ⟨t,ht,rfl⟩:=K04.mp hd
  refine ⟨[.(i t)],λh=>rfl,λj=>?_,λ_ j=>rfl⟩
  simp only [K3,bindM,pureM,zI3,zJ7,z0C]
 rw [show (Src.con (ns.map D.int)).items=ns.map D.int from rfl,z2D]
 rw [w_cons];simp only [K7,K3,K0g,Z7,W_pure,z8,aNil,z2h,eLst,eVar,sRet]
 refine W.of (z1C (src:=.con (ns.map .int)) (λd=>match d with|.int t=>decide (t<1000000000000000000)|_=>false) (λd=>d) (src _ _ rfl) (λ_=>trivial) (by simp [Src.items];omega) λd hd=>?_) ?_
 ·obtain ⟨t,ht,rfl⟩:=K04.mp hd
  refine ⟨[.(i t)],λh=>rfl,λj=>?_,λ_ j=>rfl⟩
  simp only [K3,bindM,pureM,zI3,z8p,z0C]
 rw [show (Src.con (ns.map D.int)).items=ns.map D.int from rfl,z2D]
 refine W.of (a:=.ref 2) (h':=Pool (ns.filter λi=>decide (1000000000000000000≤i)) (ns.filter λi=>decide (i<1000000000000000000)) 5 0 []) ?_ ?_
 ·unfold newL
  rw [if_pos (by simp;decide)]
  rfl
 ·refine ⟨rfl,_,_,5,0,rfl,by decide,by decide,by decide,by decide,?_,?_⟩
  ·exact K0m (K1z _ _) hn
  ·exact K0m (K1z _ _) hn
theorem z8E {h:AH}{k:Int}{r:AH}{i:Nat}{start:Str}{ns:List Str}(p:PS h k r) (hk:k<900000) (lo:low start) (hs:start.length≤4) (e:r[i]?=.(l (ns.map .str))) (hn:ns.length≤7) :
 W (runF 9 z1g [.ref 2,.str start,.ref (i+3)]) h (λd h'=>∃x j,d=.str x/\PS h' (k+5) (r++j)/\z5m x/\x∉ns):=by
 refine z29 ?_
 show W (z1g [.(r 2),.(s start),.(r (i+3)),none,none,none,none,none,none]) h _
 unfold z1g
 rw [show ("abcdefghijklmnopqrstuvwxyz":Str)=abc from rfl]
 rw [w_cons];simp only [K0c,K0a,Z7,W_pure,z04,e2,eVar,gN,sAsg]
 rw [w_cons];simp only [K7,K3,K0c,K0a,Z7,W_pure,z04,eVar,gN,sAsg]
 rw [w_cons]
 refine v7 (λc γ h=>∃x w,γ=[.(r 2),.(s start),.(r (i+3)),.(s abc),.(s x),w,none,none,none]/\PS h (k+1+c) r/\low x/\x.length≤4+c) (λ_ _=>False) ?_
 simp only [K3,K07,K0g,K0u,z1A,Z7,z1m,W_pure,z8,aNil,z04,z2h,eFn,eVar,if_true]
 refine z0Y p (by omega) (by decide) (by decide) λd h1 d0 d1 p1=>?_
 refine ⟨d.toNat,by rw [K66 d0],by omega,⟨start,none,rfl,by simpa using p1,lo,by omega⟩,?_,?_,λ_ _ q=>q.elim⟩
 ·rintro c γ h2 hc ⟨x,w,rfl,p2,lx,hx⟩
  rw [w_cons];simp only [K7,K3,K07,K0g,K0c,K0a,K0u,z1A,Z7,z1m,W_pure,z8,aNil,z04,e2,eFn,eVar,gN,if_true,sAsg,z6x]
  refine z0Y p2 (by omega) (by decide) (by decide) λd h1 d0 d1 p1=>?_
  refine z57 (k:=k) (r:=r) d0 d1 (by omega) ?_
  refine ⟨_,_,rfl,p1.up (by omega),z6S lx (by omega) (by omega),by rw [len_app,z4f];omega⟩
 rintro γ h2 ⟨x,w,rfl,p2,lx,hx⟩
 rw [w_cons];simp only [K3,K07,K0g,K0c,K0a,K0u,z1A,Z7,z1m,W_pure,z8,aNil,z04,eFn,eVar,gN,if_true,sAsg]
 refine z0Y (p2.up (show _≤k+4 by omega)) (by omega) (by decide) (by decide) λl h3 l0 l1 p3=>?_
 rw [w_cons];simp only [K0c,K0a,Z7,W_pure,z8,aNil,z04,eLst,gN,sAsg]
 rw [show [D.str "yes",D.str "no",D.str "not",D.str "and",D.str "or",D.str "step",D.str "some",D.str "all",D.str "next",D.str "once",D.str "ever",D.str "until",D.str "unless"]=words.map D.str from rfl]
 refine z2B p3 (by decide) λh4 p4=>?_
 rw [w_cons]
 refine v7 (λc γ h=>∃w w',γ=[.(r 2),.(s start),.(r (i+3)),.(s abc),.(s x),w,.(i l),.(r (r.length+3)),w']/\PS h (k+5) (r++[.lst (words.map .str)])/\∀c':Nat,c'<c->cand x l c'∈words∨cand x l c'∈ns) (λd h=>∃c:Nat,d=.str (cand x l c)/\cand x l c∉words/\cand x l c∉ns/\PS h (k+5) (r++[.lst (words.map .str)])) ?_
 rw [W_pure]
 refine ⟨26,rfl,by decide,⟨_,_,rfl,p4.up (by omega),λc' hc=>by omega⟩,?_,?_,?_⟩
 ·rintro c γ h5 hc ⟨w,w',rfl,p5,hb⟩
  rw [w_cons];simp only [K7,K3,K0c,K0a,Z7,W_pure,z4E,z04,e2,eVar,gN,sAsg]
  have m1:fMod (.int (l+c)) (.int 26)=pure (.int ((l+c) % 26)):=rfl
  rw [m1,W_pure]
  refine z57 (k:=k) (r:=r) (K4z _ (by decide)) (K40 _ (by decide)) (by omega) ?_
  rw [w_cons];simp only [K1f,K7,K3,Z7,z1m,W_pure,cAnd,z04,if_false,sIf,z6x]
  refine W.of (zm7 p5 z4N) ?_
  rw [z0C,W_pure]
  by_cases q1:cand x l c∈words
  ·have:(decide (x++{ cps:=#[((l+(c:Int)) % 26).toNat+97] }∈words) != true)=false:=by
    rw [show decide (x++{ cps:=#[((l+(c:Int)) % 26).toNat+97] }∈words)=true from decide_eq_true q1];rfl
   rw [this]
   simp only [K1f,if_false]
   refine ⟨_,_,rfl,p5,λc' hc'=>?_⟩
   by_cases e':c'=c
   ·subst e';exact .inl q1
   ·exact hb c' (by omega)
  ·have:(decide (x++{ cps:=#[((l+(c:Int)) % 26).toNat+97] }∈words) != true)=true:=by
    rw [show decide (x++{ cps:=#[((l+(c:Int)) % 26).toNat+97] }∈words)=false from decide_eq_false q1];rfl
   rw [this]
   simp only [if_true]
   refine W.of (zm7 p5 (x5 e)) ?_
   by_cases q2:cand x l c∈ns
   ·have:(decide (x++{ cps:=#[((l+(c:Int)) % 26).toNat+97] }∈ns) != true)=false:=by
     rw [show decide (x++{ cps:=#[((l+(c:Int)) % 26).toNat+97] }∈ns)=true from decide_eq_true q2];rfl
    rw [this]
    simp only [K1f,W_pure,z0C,if_false]
    refine ⟨_,_,rfl,p5,λc' hc'=>?_⟩
    by_cases e':c'=c
    ·subst e';exact .inr q2
    ·exact hb c' (by omega)
   ·have:(decide (x++{ cps:=#[((l+(c:Int)) % 26).toNat+97] }∈ns) != true)=true:=by
     rw [show decide (x++{ cps:=#[((l+(c:Int)) % 26).toNat+97] }∈ns)=false from decide_eq_false q2];rfl
    rw [this]
    simp only [W_pure,z0C,if_true]
    rw [w_cons];simp only [K7,K3,Z7,W_pure,z2h,eVar,sRet]
    exact ⟨c,rfl,q1,q2,p5⟩
 ·rintro γ h5 ⟨w,w',rfl,p5,hb⟩
  exact (zK0 l0 hn hb).elim
 ·rintro d h5 ⟨c,rfl,q1,q2,p5⟩
  refine ⟨cand x l c,[.lst (words.map .str)],rfl,p5,⟨?_,?_,?_,q1⟩,q2⟩
  ·unfold cand;rw [len_app,z4f];omega
  ·unfold cand;rw [len_app,z4f];omega
  ·exact z6S lx (by omega) (by omega)
theorem zl1 {h:AH}{k:Int}{r:AH}{i:Nat}{start:Str}{ns:List Str}(p:PS h k r) (c:CL r) (hk:k<900000) (lo:low start) (hs:start.length≤4) (e:r[i]?=.(l (ns.map .str))) (hn:ns.length≤7) :
 W (z1Y [.ref 2,.str start,.ref (i+3)]) h (λd h'=>∃x,d=.str x/\PS h' (k+5) r/\z5m x/\x∉ns) :=
 zB9 p c ((z8E p hk lo hs e hn).mono λd h1 ⟨x,j,e,p1,g,n⟩=>⟨_,j,p1,by subst e;rfl,λh2 p2=>⟨x,e,p2,g,n⟩⟩)
theorem za4 {h:AH}{k:Int}{r:AH}{n:Nat}(p:PS h k r) (cl:CL r) (hk:k<800000) (hn:n≤8) {Q:D->AH->Prop}(z:∀ns h',ns.length=n->NS ns->PS h' (k+45) (r++[.lst (ns.map .str)])->Q (.ref (r.length+3)) h') :
 W (z1t [.ref 2,.int n]) h Q:=by
 refine zH6 p cl ?_
 refine z29 ?_
 show W (z1s [.(r 2),.(i n),none,none,none,none]) h _
 unfold z1s
 rw [show ("abcdefghijklmnopqrstuvwxyz":Str)=abc from rfl]
 refine z4Y (.str abc) _ rfl rfl ?_
 refine z4Y (.str "") _ rfl rfl ?_
 rw [w_cons]
 refine v7 (λc γ h=>∃x w,γ=[.(r 2),.(i n),.(s abc),.(s x),w,none]/\PS h (k+1+c) r/\low x/\x.length≤c) (λ_ _=>False) ?_
 refine zB8 p cl ?_
 simp only [K3,K07,K0g,K0c,K0a,K0u,z1A,Z7,z1m,W_pure,z8,aNil,z04,z2h,e2,eFn,eLst,eVar,if_true]
 refine z2B p (by decide) λh1 p1=>?_
 refine z0Y p1 (by omega) (by decide) (by decide) λd h2 d0 d1 p2=>?_
 obtain ⟨v,hv,ea⟩:∃v:Nat,v≤4/\atI [D.int 0,D.int 0,D.int 1,D.int 4] d=.(i v):=by
  have:d=0∨d=1∨d=2∨d=3:=by omega
  rcases this with rfl|rfl|rfl|rfl
  ·exact ⟨0,by decide,rfl⟩
  ·exact ⟨0,by decide,rfl⟩
  ·exact ⟨1,by decide,rfl⟩
  ·exact ⟨4,by decide,rfl⟩
 refine zK3 p2 z4N ea ?_
 refine ⟨_,_,p2,rfl,λh2 p2=>⟨v,rfl,by omega,⟨_,none,rfl,by simpa using p2,zz8,by rw [zq6];omega⟩,?_,?_,λ_ _ q=>q.elim⟩⟩
 ·rintro c γ h3 hc ⟨x,w,rfl,p3,lx,hx⟩
  rw [w_cons];simp only [K7,K3,K07,K0g,K0c,K0a,K0u,z1A,Z7,z1m,W_pure,z8,aNil,z04,e2,eFn,eVar,gN,if_true,sAsg,z6x]
  refine z0Y p3 (by omega) (by decide) (by decide) λd h1 d0 d1 p1=>?_
  refine z57 (k:=k) (r:=r) d0 d1 (by omega) ?_
  refine ⟨_,_,rfl,p1.up (by omega),z6S lx (by omega) (by omega),by rw [len_app,z4f];omega⟩
 rintro γ h3 ⟨x,w,rfl,p3,lx,hx⟩
 refine zc7 ?_
 simp only [K0c,K0a,Z7,W_pure,aNil,eLst]
 refine z2B p3 (by decide) λh4 p4=>?_
 rw [w_cons]
 refine v7 (λc γ h=>∃ns w,γ=[.(r 2),.(i n),.(s abc),.(s x),w,.(r (r.length+3))]/\PS h (k+5+5 * c) (r++[.lst (ns.map .str)])/\ns.length=c/\NS ns) (λ_ _=>False) ?_
 simp only [K7,K3,W_pure,z04,z2h,eVar]
 refine ⟨n,rfl,by omega,⟨[],_,rfl,p4.up (by omega),rfl,⟨K8n,by simp⟩⟩,?_,?_,λ_ _ q=>q.elim⟩
 ·rintro c γ h5 hc ⟨ns,w,rfl,p5,l5,n5⟩
  rw [w_cons];simp only [K7,K3,K07,K0g,K0c,K0a,K0u,z50,z1A,Z7,z1m,W_pure,z8,aNil,z04,eFn,eM1,eVar,if_true,z0S,z6x]
  refine z67 p5 z4N ?_
  refine (zl1 p5 (cl.put (z2b ns)) (by omega) lx (by omega) z4N (by omega)).mono λy h6 ⟨z,ey,p6,gz,nz⟩=>?_
  subst ey
  refine z7i p6 z4N (by simp;omega) λh7 p7=>?_
  refine ⟨ns++[z],_,rfl,?_,by simp [l5],⟨?_,?_⟩⟩
  ·have:=p7.up (k':=k+5+5 * ((c+1:Nat):Int)) (by omega)
   simpa using this
  ·rw [K3h]
   refine ⟨n5.1,by simp,λa ha b hb=>?_⟩
   simp at hb
   subst hb
   exact λe=>nz (e ▸ ha)
  ·intro y hy
   rcases K0w.mp hy with q|q
   ·exact n5.2 y q
   ·simp at q;subst q;exact gz
 ·rintro γ h5 ⟨ns,w,rfl,p5,l5,n5⟩
  exact zS8 _ rfl ⟨k+45,_,r.length,_,rfl,p5.up (by omega),K01 _,z4N,z2b ns,λh2 p2=>z ns h2 l5 n5 p2⟩
theorem zh0 {x:D}{l:List Nat}{h:AH}(e:seqD x h=.ok (stD l) h) (hl:l.length≤2000) (hd:(setN l).length<64):z38 [x] h=.ok (.tup (stD (setN l))) h:=by
 have dl:(dedN l).length=(setN l).length:=by unfold setN;rw [v5]
 have e1:z1h [x] h=.ok (.ref h.length) (h++[.set (kN (dedN l))]):=by
  unfold z1h
  dsimp only
  rw [M.bind_ok e,z6J]
  dsimp only
  rw [if_pos (by rw [zp3];omega),zp6]
  rfl
 have e2:x8 [.ref h.length] (h++[.set (kN (dedN l))])=.ok (.ref (h.length+1)) (h++[.set (kN (dedN l)),.lst (stD (setN l))]):=by
  unfold x8
  dsimp only
  have g:getS h.length (h++[.set (kN (dedN l))])=.ok (kN (dedN l)) (h++[.set (kN (dedN l))]):=by
   unfold getS;rw [show (h++[O.set (kN (dedN l))])[h.length]?=some (.set (kN (dedN l))) by simp]
  rw [M.bind_ok g,z6B]
  dsimp only
  rw [if_pos (by unfold zN;rw [K00];omega),z32]
  unfold newL
  rw [if_pos (by rw [j6,v5];unfold sizeLine;omega)]
  simp [setN]
 have e3:x4 [.ref (h.length+1)] (h++[.set (kN (dedN l)),.lst (stD (setN l))])=.ok (.tup (stD (setN l))) (h++[.set (kN (dedN l)),.lst (stD (setN l))]):=by
  have ft:∀i:Nat,x4 [.ref i]=(do let x ← getL i;pure (.tup x)):=λ_=>rfl
  rw [ft]
  have g:getL (h.length+1) (h++[.set (kN (dedN l)),.lst (stD (setN l))])=.ok (stD (setN l)) (h++[.set (kN (dedN l)),.lst (stD (setN l))]):=by
   unfold getL;rw [show (h++[O.set (kN (dedN l)),O.lst (stD (setN l))])[h.length+1]?=.(l ((stD (setN l)))) by simp]
  rw [M.bind_ok g];rfl
 have e4:clE (Z6 x4 (z8 (Z6 x8 (z8 (Z6 z1h (z8 (eVar 0) aNil)) aNil)) aNil)) [some x] h=.ok (.tup (stD (setN l))) h:=by
  refine z0u (j:=[.set (kN (dedN l)),.lst (stD (setN l))]) ?_ (by simp only [J7];exact z03 λ_=>rfl)
  exact y4 (y4 (y4 (show eVar 0 [some x] h=.ok x h from rfl) e1) e2) e3
 have e5:runF 1 z3L [x] h=.ok (.tup (stD (setN l))) h:=z4t (z07 (h1:=h) _ e4 ⟨rfl,rfl⟩)
 show cln (runF 1 z3L [x]) h=_
 refine z0u (j:=[]) (by rw [K1u];exact e5) (by simp only [J7];exact z03 λ_=>rfl)
theorem zk6 {l:List Nat}{h:AH}{n:Nat}(e:h[n]?=.(l (stD l))) (hl:l.length≤2000) (hd:(setN l).length<64):z38 [.ref n] h=.ok (.tup (stD (setN l))) h:=zh0 (by unfold seqD getL;dsimp only;rw [e]) hl hd
theorem z5u {i n:Nat}(h2:i<n):x9 [.int i,.int 0,.int n]=pure (.bl true):=by
 have h1:(0:Int)≤i:=by omega
 have h3:(i:Int)<n:=by omega
 show cln (runF 3 z0w [.int i,.int 0,.int n])=_
 rw [z0Q (d:=.bl true),z0n]
 show z0w [.(i i),.(i 0),.(i n)]=_
 unfold z0w
 refine z4s _ ?_
 simp only [K7,K3,z0C,Y2,decide_eq_true h1,decide_eq_true h3,e3,eAnd,eIsi,eNot,eVar,if_true,z5b,z8w,z8p]
 rfl
theorem z6A {xs:List D}{m n:Nat}(h0:m≤xs.length) (h1:xs.length≤n):x6 [.tup xs,.int m,.int n]=pure (.bl true):=by
 have h2:(xs.length:Int)≤n:=by omega
 have h3:(m:Int)≤xs.length:=by omega
 show cln (runF 3 z0N [.tup xs,.int m,.int n])=_
 rw [z0Q (d:=.bl true),z0n]
 show z0N [.(g xs),.(i m),.(i n)]=_
 unfold z0N
 refine z4s _ ?_
 simp only [K7,K3,z8,aNil,z0C,Y2,decide_eq_true h2,decide_eq_true h3,e3,eAnd,Z6,eIsi,eVar,if_true,z74,z8w,z25]
 rfl
theorem zw1 {c:Nat}(h1:97≤c) (h2:c≤122):(K1s "abcdefghijklmnopqrstuvwxyz" ⟨#[c]⟩ 0 ("abcdefghijklmnopqrstuvwxyz":Str).length 1).isEmpty=false:=by
 have:∀k,k<26->(K1s "abcdefghijklmnopqrstuvwxyz" ⟨#[k+97]⟩ 0 ("abcdefghijklmnopqrstuvwxyz":Str).length 1).isEmpty=false:=by decide +kernel
 have q:=this (c - 97) (by omega)
 rw [show c - 97+97=c by omega] at q
 exact q
theorem zJ1 {h:AH}{s:Str}(g:z5m s):z00 [.str s] h=.ok (.bl true) h:=by
 obtain ⟨g1,g2,g3,g4⟩:=g
 obtain ⟨ws,hws⟩:∃ws:List Str,ws=(["yes","no","not","and","or","step","some","all","next","once","ever","until","unless"]:List Str):=⟨_,rfl⟩
 show cln (runF 2 k7 [.str s]) h=_
 refine z0u (j:=[.lst (ws.map .str)]) (z4t ?_) rfl
 show W (k7 [.(s s),none]) h _
 unfold k7
 refine z8j (xs:=ws.map .str) (by rw [hws];simp) (λh=>by rw [hws];rfl) ?_
 have ln:Z6 fLen (z8 (eVar 0) aNil) [.(s s),.(r h.length)] (h++[.lst (ws.map .str)])=.ok (.int s.length) (h++[.lst (ws.map .str)]):=by
  have:s.length≤sizeLine:=K0m g2 (by decide)
  simp [Z6,z8,aNil,eVar,fLen,this]
 have inw:e2 (fIn false) (eVar 0) (eVar 1) [.(s s),.(r h.length)] (h++[.lst (ws.map .str)])=.ok (.bl (decide (s∈ws))) (h++[.lst (ws.map .str)]):=by
  refine e2_h (Z1 rfl) (Z1 rfl) ?_
  have g:getL h.length (h++[O.lst (ws.map .str)])=.ok (ws.map .str) (h++[.lst (ws.map .str)]):=by unfold getL;rw [J2]
  unfold fIn seqD
  rw [M.bind_ok g,z5s,z3f]
  simp [z0R]
 have test:cOr (cNot (cVal (eIsi "str" (eVar 0)))) (cOr (λγ=>do let d ← e2 fLt (Z6 fLen (z8 (eVar 0) aNil)) (λ_=>pure (.int 1)) γ;asB d) (cOr (λγ=>do let d ← e2 fGt (Z6 fLen (z8 (eVar 0) aNil)) (λ_=>pure (.int 8)) γ;asB d) (λγ=>do let d ← e2 (fIn false) (eVar 0) (eVar 1) γ;asB d))) [.(s s),.(r h.length)] (h++[.lst (ws.map .str)])=.ok false (h++[.lst (ws.map .str)]):=by
  refine z5k (cn_h (b:=true) (cv_h (z2P (Z1 rfl) rfl))) (z5k (cb_h (e2_h ln (y:=.int 1) rfl (by rw [z8p,decide_eq_false (by omega)];rfl))) (z5k (cb_h (e2_h ln (y:=.int 8) rfl (by rw [zv2,decide_eq_false (by omega)];rfl))) ?_))
  refine (cb_h inw).trans ?_
  rw [decide_eq_false (by rw [hws];exact g4)]
 refine z10 false test ?_
 rw [if_neg (by decide)]
 refine z0x (z07 (.bl true) ?_ ⟨rfl,rfl⟩)
 refine (zs6 (xs:=[]) (j:=[]) (neg:=false) ?_ (by simp)).trans rfl
 rw [K1u]
 refine (z1C (src:=.con (z1N s)) (λ_=>false) (λd=>d) ?_ (λ_=>trivial) (by unfold z1N;show ((s.cps.toList.map _):List D).length≤_;rw [K00,← len_str];omega) λd hd=>?_).trans ?_
 ·rfl
 ·have hd:d∈z1N s:=hd
  unfold z1N at hd
  obtain ⟨c,hc,rfl⟩:=K04.mp hd
  obtain ⟨c1,c2⟩:=g3 c hc
  refine ⟨[.(s (⟨#[c]⟩))],λh=>rfl,λj=>?_,λq=>by cases q⟩
  show Res.ok ((!(K1s "abcdefghijklmnopqrstuvwxyz" ⟨#[c]⟩ 0 ("abcdefghijklmnopqrstuvwxyz":Str).length 1).isEmpty) != true) _=_
  rw [zw1 c1 c2]
  rfl
 ·rw [show (Src.con (z1N s)).items.filter (λ_=>false)=[] by simp]
  exact (zg3 (by simp)).symm
section
variable {st:List (List Nat)}{mk:List (List Str)}{bl:Bl}
theorem zw5 {x:Nat}{s:Str}(hx:x<mk.length):z4a [maD st mk,.int (x:Nat),.str s]=pure (.bl (bear s mk x)):=by
 unfold z4a
 rw [z0Q,z0n]
 show z5i [some (maD st mk),.(i (x:Nat)),.(s s)]=_
 unfold z5i bear
 refine z4s _ ?_
 by_cases e:s = ""
 ·subst e
  simp only [K20,K7,K3,z0C,Y2,decide_true,e2,eOr,eVar,zD5,if_true]
  rfl
 ·simp only [K20,K1f,K5y,K7,K3,z0C,Y2,bne_self_eq_false,decide_eq_false e,e2,eOr,eVar,zD5,if_false,z6Z,z3z,ix_tup (z6z hx)]
theorem z9I {h:AH}(hs:st.length≤40):z02 [maD st mk] h=.ok (.ref h.length) (h++[.dK (kvB [(0,K8 st.length)])]):=by
 show cln (runF 1 z0l [maD st mk]) h=_
 refine z2j (j:=[.dK (kvB [(0,K8 st.length)])]) (z4t ?_) rfl (z2W h) (K01 _) J2 (refB _)
 show W (z0l [some (maD st mk)]) h _
 unfold z0l
 refine z07 (.ref h.length) ?_ ⟨rfl,rfl⟩
 refine zG8 (kk:=.inl 0) rfl rfl ?_
 rw [zU3 (tup:=true) (n:=st.length) (h1:=h++[.dK []]) (y4 (e2_h (Z1 rfl) (y:=.int 0) rfl (by rw [z1M];rfl)) (by rw [z25,z1Z];rfl)) (by omega),if_pos rfl,pureM];rfl
theorem z91 {h:AH}{b x:Nat}{d:D}(sq:SQ st) (lm:mk.length=st.length) (dc:Dic h b bl) (hx:x<st.length) (nl:(nx st x).length≤40) (ok:ByOk bl d):z34 [maD st mk,.ref b,.int (x:Nat),d] h=.ok (.bl (bel st mk bl d x)) h:=by
 refine zn6 (z4t ?_) rfl
 show W (z3c [some (maD st mk),.(r b),.(i (x:Nat)),some d]) h _
 unfold z3c
 rcases ok with ⟨s,rfl⟩|⟨k,rfl,hk⟩
 ·refine z10 true (cv_h (z2P (Z1 rfl) rfl)) ?_
  rw [if_pos rfl]
  exact z6K (z07 _ (fn_h (ds:=[maD st mk,.int (x:Nat),.str s]) (ac_h (Z1 rfl) (ac_h (Z1 rfl) (ac_h (Z1 rfl) rfl))) rfl (by rw [zw5 (by omega)];rfl)) ⟨rfl,rfl⟩)
 ·refine z10 false (cv_h (z2P (Z1 rfl) rfl)) ?_
  rw [if_neg (by decide)]
  refine z0x (z07 (.bl (((nx st x).map λo=>decide (o∈blk bl k)).any id)) (zS7 ?_) ⟨?_,rfl⟩)
  ·refine (z0B (src:=.con (stD (nx st x))) (l:=nx st x) (λ_=>true) (λo=>.bl (decide (o∈blk bl k))) (z0M ?_) rfl (λ_=>trivial) (by omega) λo ho=>⟨[.(r b),.(i (k:Nat)),.(i o)],λh=>rfl,λj=>rfl,λ_ j=>?_⟩).trans ?_
   ·exact e2_h (e2_h (Z1 rfl) (y:=.int 0) rfl (by rw [z1M];rfl)) (Z1 rfl) (by rw [z4C hx];rfl)
   ·exact e2_h (Z1 rfl) (e2_h (Z1 rfl) (Z1 rfl) ((dc.app j).get hk)) (by rw [zE0];simp)
   ·rw [filter_tt,K0o]
    rfl
  ·rw [List.any_map]
   rfl
def prt (l:List Nat) (f:Nat->Bool):List (List Nat):=[l.filter f,l.filter λx=>!f x].filter λp=>decide (0<p.length)
theorem z5f {h:AH}{b:Nat}{l:List Nat}{d:D}(sq:SQ st) (lm:mk.length=st.length) (dc:Dic h b bl) (hl:∀x∈l,x<st.length) (ll:l.length≤40) (nl:∀x,(nx st x).length≤40) (ok:ByOk bl d):z1u [maD st mk,.ref b,.tup (stD l),d] h=.ok (.ref h.length) (h++[.lst (stsD (prt l (bel st mk bl d)))]):=by
 obtain ⟨f,hf⟩:∃f,f=bel st mk bl d:=⟨_,rfl⟩
 rw [← hf]
 show cln (runF 6 z37 [maD st mk,.ref b,.tup (stD l),d]) h=_
 refine z2j (j:=[.lst (stsD (prt l f))]) (z4t ?_) rfl (z2W h) (K01 _) J2 (z03 λa=>z4O a)
 show W (z37 [some (maD st mk),.(r b),.(g (stD l)),some d,none,none]) h _
 unfold z37
 refine Y4 (.tup (stD (l.filter f))) [some (maD st mk),.(r b),.(g (stD l)),some d,.(g ((stD (l.filter f)))),none] (z4U ?_ (z0V _)) rfl ?_
 ·refine (z0B (src:=.con (stD l)) (l:=l) f (λx=>.int x) (z0M (Z1 rfl)) rfl (λ_=>trivial) (by omega) λx hx=>⟨[some (maD st mk),.(r b),some d,.(i x)],λh=>rfl,λj=>?_,λ_ j=>rfl⟩)
  rw [hf]
  exact cv_h (fn_h (ds:=[maD st mk,.ref b,.int x,d]) (ac_h (Z1 rfl) (ac_h (Z1 rfl) (ac_h (Z1 rfl) (ac_h (Z1 rfl) rfl)))) rfl (z91 sq lm (dc.app j) (hl x hx) (nl x) ok))
 refine Y4 (.tup (stD (l.filter λx=>!f x))) [some (maD st mk),.(r b),.(g (stD l)),some d,.(g ((stD (l.filter f)))),.(g ((stD (l.filter λx=>!f x))))] (z4U ?_ (z0V _)) rfl ?_
 ·refine (z0B (src:=.con (stD l)) (l:=l) (λx=>!f x) (λx=>.int x) (z0M (Z1 rfl)) rfl (λ_=>trivial) (by omega) λx hx=>⟨[.(g ((stD (l.filter f)))),.(i x)],λh=>rfl,λj=>?_,λ_ j=>rfl⟩)
  refine (cb_h (e2_h (Z1 rfl) (Z1 rfl) (by rw [zE0];rfl))).trans ?_
  congr 1
  cases q:f x with
  | true=>rw [decide_eq_true (K0h.mpr ⟨hx,q⟩)];rfl
  | false=>rw [decide_eq_false (λz=>by have:=(K0h.mp z).2;rw [q] at this;cases this)];rfl
 have tw:eTup (z8 (eVar 4) (z8 (eVar 5) aNil)) [some (maD st mk),.(r b),.(g (stD l)),some d,.(g ((stD (l.filter f)))),.(g ((stD (l.filter λx=>!f x))))] h=.ok (.tup (stsD [l.filter f,l.filter λx=>!f x])) h:=z5E (Z1 rfl) (Z1 rfl)
 refine z07 (.ref h.length) ?_ ⟨rfl,rfl⟩
 refine (z1C (src:=.con (stsD [l.filter f,l.filter λx=>!f x])) (λd=>match d with|.tup xs=>decide (0<xs.length)|_=>false) (λd=>d) (z0M tw) (λ_=>trivial) (by simp [Src.items,stsD]) λy hy=>?_).trans (congrArg (λxs=>Res.ok (D.ref h.length) (h++[O.lst xs])) ?_)
 ·obtain ⟨q,hq,rfl⟩:=K04.mp hy
  refine ⟨[.(g (stD q))],λh=>rfl,λj=>(cb_h (e2_h (y4 (Z1 rfl) (by rw [z25];rfl)) (y:=.int 0) rfl (by rw [zv2];rfl))).trans ?_,λ_ j=>rfl⟩
  congr 1
  show _=decide (0<(stD q).length)
  rw [decide_eq_decide];omega
 ·show ((stsD _).filter _).map _=_
  unfold stsD prt
  rw [K8c,K9g]
  congr 1
  refine K75 λq _=>?_
  show decide (0<(stD q).length)=_
  rw [j6]
theorem prt_len {l:List Nat}{f:Nat->Bool}:(prt l f).length=2↔l.filter f≠[]/\(l.filter λx=>!f x)≠[]:=by
 unfold prt
 cases e1:l.filter f<;>cases e2:(l.filter λx=>!f x)<;>simp
theorem z8H {l:List Nat}{f:Nat->Bool}(h1:l.filter f≠[]) (h2:(l.filter λx=>!f x)≠[]):prt l f=[l.filter f,l.filter λx=>!f x]:=by
 unfold prt
 cases e1:l.filter f<;>cases e2:(l.filter λx=>!f x)<;>simp_all
end
def ByN (mk:List (List Str)) (bl:Bl) (k:Nat) (y:D):Prop:=(∃x∈blk bl k,∃s∈mkAt mk x,y=.str s)∨∃k':Nat,y=.int (k':Nat)/\k'∈bl.map (·.1)
theorem ByN.ok {mk:List (List Str)}{bl:Bl}{k:Nat}{y:D}(h:ByN mk bl k y):ByOk bl y:=by
 rcases h with ⟨_,_,s,_,e⟩|h
 ·exact .inl ⟨s,e⟩
 ·exact .inr h
def z6t (mk:List (List Str)):D->List D
 | .int x=>(mkAt mk x.toNat).map .str
 | _=>[]
theorem zl4 {mk:List (List Str)}(m8:∀l∈mk,l.length≤8):∀l:List Nat,((stD l).flatMap (z6t mk)).length≤l.length * 8
 | []=>by simp [stD]
 | x::l=>by
  have ih:=zl4 m8 l
  show ((D.int (x:Nat)::stD l).flatMap (z6t mk)).length≤_
  rw [K2b,K08,K07]
  have:(z6t mk (.int (x:Nat))).length≤8:=by
   show ((mkAt mk ((x:Nat):Int).toNat).map D.str).length≤8
   rw [K00,K0k]
   unfold mkAt
   by_cases hx:x<mk.length
   ·rw [K4 hx]
    exact m8 _ (K4o _)
   ·rw [K0i (by omega)];simp
  omega
theorem z9a {me:G->M D}{γ:G}{h h1:AH}{i:Nat}{xs:List D}(e:me γ h=.ok (.ref i) h1) (q:h1[i]?=.(l xs)):z0h me γ h=.ok (.lst i xs) h1:=by
 have g:getL i h1=.ok xs h1:=by unfold getL;rw [q]
 unfold z0h
 rw [M.bind_ok e]
 dsimp only
 rw [M.bind_ok g]
 rfl
section
variable {st:List (List Nat)}{mk:List (List Str)}{bl:Bl}
theorem zj4 (ma:MA st mk) (x:Nat):(nx st x).length≤40:=by
 have l2:=ma.l2
 by_cases hx:x<st.length
 ·have g:=K03 (z7g hx)
  exact K0m (z2N (ma.s1 _ g) (ma.s2 _ g)) l2
 ·unfold nx
  rw [K0i (by omega)]
  simp
theorem z6b (pb:PB st.length bl) {k:Nat}(hk:k∈bl.map (·.1)):(∀x∈blk bl k,x<st.length)/\(blk bl k).length≤st.length:=by
 have m:=pb.of_key hk
 have lt:∀x∈blk bl k,x<st.length:=λx hx=>pb.lt m hx
 exact ⟨lt,z2N (pb.rise _ m) lt⟩
def cnds (mk:List (List Str)) (bl:Bl) (k:Nat):List D:=(stD (blk bl k)).flatMap (z6t mk)++stD (bl.map (·.1))
def Fst (st:List (List Nat)) (mk:List (List Str)) (bl:Bl) (k:Nat) (y:D):Prop:=∃c p,bl[c]?=some p/\p.1=k/\(∀q∈bl.take c,∀z,ByN mk bl q.1 z->¬ Cut bl q.1 (bel st mk bl z))/\∃i:Nat,(cnds mk bl k)[i]?=some y/\∀z∈(cnds mk bl k).take i,¬ Cut bl k (bel st mk bl z)
theorem zp9 {h:AH}{b:Nat}(ma:MA st mk) (pb:PB st.length bl) (dc:Dic h b bl):∃d,z1E [maD st mk,.ref b] h=.ok d (h.set b (.dF (kvB bl)))/\((d=.non/\Done st mk bl)∨∃(k:Nat) (y:D),d=.tup [.int (k:Nat),y]/\ByN mk bl k y/\Fst st mk bl k y/\Cut bl k (bel st mk bl y)):=by
 have l2:=ma.l2
 have lm:=ma.l3
 obtain ⟨hF,hhF⟩:∃hF,hF=h.set b (.dF (kvB bl)):=⟨_,rfl⟩
 have dF:∀j,Dic (hF++j) b bl:=λj=>by rw [hhF];exact dc.set.app j
 have bln:=pb.len
 have key:W (runF 6 z16 [maD st mk,.ref b]) h λd h'=>(∃j,h'=hF++j)/\((d=.non/\Done st mk bl)∨∃(k:Nat) (y:D),d=.tup [.int (k:Nat),y]/\ByN mk bl k y/\Fst st mk bl k y/\Cut bl k (bel st mk bl y)):=by
  refine z29 ?_
  show W (z16 [some (maD st mk),.(r b),none,none,none,none]) h _
  unfold z16
  rw [w_cons]
  refine z18 (λc γ h'=>∃a e n y j,γ=[some (maD st mk),.(r b),a,e,n,y]/\h'=hF++j/\∀p∈bl.take c,∀y,ByN mk bl p.1 y->¬ Cut bl p.1 (bel st mk bl y)) (λd h'=>(∃j,h'=hF++j)/\∃(k:Nat) (y:D),d=.tup [.int (k:Nat),y]/\ByN mk bl k y/\Fst st mk bl k y/\Cut bl k (bel st mk bl y)) ?_
  refine W_of (v:=.con (stD (bl.map (·.1)))) (dc.walk (Z1 rfl)) ?_
  refine ⟨⟨_,_,_,_,[],rfl,by rw [hhF];simp,by simp⟩,λ_ _ _ _=>trivial,?_,?_,?_⟩
  ·rintro c d γ _ hd ⟨a,e,n,y,j,rfl,rfl,no⟩
   obtain ⟨k,rfl,ek⟩:=z36 hd
   rw [K0e] at ek
   obtain ⟨p,ep,rfl⟩:=K10.mp ek
   have hp:=K03 ep
   have hk:p.1∈bl.map (·.1):=K04.mpr ⟨p,hp,rfl⟩
   obtain ⟨blt,bll⟩:=z6b pb hk
   refine W_eq (v:=[some (maD st mk),.(r b),.(i (p.1:Nat)),e,n,y]) rfl ?_
   refine Y4 (.tup (stD (blk bl p.1))) [some (maD st mk),.(r b),.(i (p.1:Nat)),.(g ((stD (blk bl p.1)))),n,y] (e2_h (Z1 rfl) (Z1 rfl) ((dF j).get hk)) rfl ?_
   obtain ⟨nm,hnm⟩:∃nm,nm=(stD (blk bl p.1)).flatMap (z6t mk):=⟨_,rfl⟩
   have nml:nm.length≤320:=by
    have:=zl4 (mk:=mk) (λl hl=>(ma.m1 l hl).len) (blk bl p.1)
    rw [← hnm] at this
    omega
   refine Y4 (.ref (hF++j).length) [some (maD st mk),.(r b),.(i (p.1:Nat)),.(g ((stD (blk bl p.1)))),.(r ((hF++j).length)),y] (h1:=hF++j++[.lst nm]) ?_ rfl ?_
   ·rw [hnm]
    refine zA4 (src:=.con (stD (blk bl p.1))) (z6t mk) (z0M (Z1 rfl)) (λ_=>trivial) (by show ((stD (blk bl p.1)).flatMap (z6t mk)).length≤_;rw [← hnm];omega) λd hd=>?_
    obtain ⟨x,hx,rfl⟩:=K04.mp (show d∈(blk bl p.1).map _ from hd)
    have hx':=blt x hx
    refine ⟨[some (maD st mk),.(i (x:Nat)),none],λh=>rfl,λj'=>?_,λy hy=>⟨[some (maD st mk),.(i (x:Nat)),some y],λh=>rfl,λh=>rfl,λj'=>rfl⟩⟩
    refine z0M ?_
    refine e2_h (e2_h (Z1 rfl) (y:=.int 1) rfl (by rw [z3z];rfl)) (Z1 rfl) ?_
    rw [ix_tup (z6z (show x<mk.length by omega))]
    show Res.ok (D.tup (((mk[x]?).getD []).map .str)) _=Res.ok (D.tup (z6t mk (.int (x:Nat)))) _
    rfl
   obtain ⟨L,hL⟩:∃L,L=nm++stD (bl.map (·.1)):=⟨_,rfl⟩
   have Lc:cnds mk bl p.1=L:=by rw [hL,hnm];rfl
   have Ll:L.length≤400:=by rw [hL,K08,j6,K00];omega
   obtain ⟨j1,hj1⟩:∃j1,j1=j++[O.lst nm]++[O.lst L]:=⟨_,rfl⟩
   have inL:∀y,y∈L↔ByN mk bl p.1 y:=λy=>by
    rw [hL,K0w,hnm,K7m]
    unfold ByN
    refine or_congr ⟨?_,?_⟩ ⟨?_,?_⟩
    ·rintro ⟨d,hd,hy⟩
     obtain ⟨x,hx,rfl⟩:=K04.mp (show d∈(blk bl p.1).map _ from hd)
     obtain ⟨s,hs,rfl⟩:=K04.mp (show y∈(mkAt mk ((x:Nat):Int).toNat).map D.str from hy)
     exact ⟨x,hx,s,hs,rfl⟩
    ·rintro ⟨x,hx,s,hs,rfl⟩
     exact ⟨.int (x:Nat),K04.mpr ⟨x,hx,rfl⟩,K04.mpr ⟨s,hs,rfl⟩⟩
    ·intro hy
     obtain ⟨k',hk',rfl⟩:=K04.mp (show y∈(bl.map (·.1)).map _ from hy)
     exact ⟨k',rfl,hk'⟩
    ·rintro ⟨k',rfl,hk'⟩
     exact K04.mpr ⟨k',hk',rfl⟩
   refine z2w (λγ h'=>∃y j,γ=[some (maD st mk),.(r b),.(i (p.1:Nat)),.(g ((stD (blk bl p.1)))),.(r ((hF++(j1.take (j1.length - 2))).length)),y]/\h'=hF++j/\∀y∈L,¬ Cut bl p.1 (bel st mk bl y)) ?_ ?_
   ·refine z18 (λc γ h'=>∃y j,γ=[some (maD st mk),.(r b),.(i (p.1:Nat)),.(g ((stD (blk bl p.1)))),.(r ((hF++(j1.take (j1.length - 2))).length)),y]/\h'=hF++(j1++j)/\∀y∈L.take c,¬ Cut bl p.1 (bel st mk bl y)) (λd h'=>(∃j,h'=hF++j)/\∃y,d=.tup [.int (p.1:Nat),y]/\ByN mk bl p.1 y/\(∃i:Nat,(cnds mk bl p.1)[i]?=some y/\∀z∈(cnds mk bl p.1).take i,¬ Cut bl p.1 (bel st mk bl z))/\Cut bl p.1 (bel st mk bl y)) ?_
    have jt:j1.take (j1.length - 2)=j:=by rw [hj1];simp
    rw [jt]
    have srcE:z0h (eLst (z8L (eVar 4) (z4w (eVar 1) aNil))) [some (maD st mk),.(r b),.(i (p.1:Nat)),.(g ((stD (blk bl p.1)))),.(r ((hF++j).length)),y] (hF++j++[.lst nm])=.ok (.lst (hF++j++[O.lst nm]).length L) (hF++j++[.lst nm]++[.lst L]):=by
     refine z9a (i:=(hF++j++[O.lst nm]).length) (h1:=hF++j++[O.lst nm]++[O.lst L]) (xs:=L) ?_ J2
     unfold eLst
     have g1:getL (hF++j).length (hF++j++[O.lst nm])=.ok nm (hF++j++[.lst nm]):=by unfold getL;rw [J2]
     have d1:Dic (hF++j++[O.lst nm]) b bl:=(dF j).app _
     have s2:z4w (eVar 1) aNil [some (maD st mk),.(r b),.(i (p.1:Nat)),.(g ((stD (blk bl p.1)))),.(r ((hF++j).length)),y] (hF++j++[.lst nm])=.ok (stD (bl.map (·.1))) (hF++j++[.lst nm]):=by
      unfold z4w
      rw [M.bind_ok (Z1 (γ:=[some (maD st mk),.(r b),.(i (p.1:Nat)),.(g ((stD (blk bl p.1)))),.(r ((hF++j).length)),y]) (a:=1) rfl)]
      show (z47 b >>= _) _=_
      rw [M.bind_ok d1.dk,zr5]
      show Res.ok (stD (bl.map (·.1))++[]) _=_
      rw [K1u]
     have s1:z8L (eVar 4) (z4w (eVar 1) aNil) [some (maD st mk),.(r b),.(i (p.1:Nat)),.(g ((stD (blk bl p.1)))),.(r ((hF++j).length)),y] (hF++j++[.lst nm])=.ok L (hF++j++[.lst nm]):=by
      unfold z8L
      rw [M.bind_ok (Z1 (γ:=[some (maD st mk),.(r b),.(i (p.1:Nat)),.(g ((stD (blk bl p.1)))),.(r ((hF++j).length)),y]) (a:=4) rfl)]
      show (getL (hF++j).length >>= _) _=_
      rw [M.bind_ok g1,M.bind_ok s2,hL]
      rfl
     rw [M.bind_ok s1]
     exact zg3 (by omega)
    have eqH:hF++j++[O.lst nm]++[O.lst L]=hF++j1:=by rw [hj1];simp
    have atL:∀j',(hF++(j1++j'))[(hF++j++[O.lst nm]).length]?=.(l L):=λj'=>by
     rw [hj1]
     have:hF++(j++[O.lst nm]++[O.lst L]++j')=hF++j++[O.lst nm]++[O.lst L]++j':=by simp
     rw [this]
     exact x5 J2
    refine W_of srcE ?_
    refine ⟨⟨_,[],rfl,by rw [eqH,K1u],by simp⟩,λc γ h' ⟨_,j',_,e,_⟩=>by rw [e];exact atL j',?_,?_,?_⟩
    ·rintro c y2 γ _ hy ⟨y3,j3,rfl,rfl,no2⟩
     have hy:L[c]?=some y2:=hy
     have okB:=(inL y2).mp (K03 hy)
     refine W_eq (v:=[some (maD st mk),.(r b),.(i (p.1:Nat)),.(g ((stD (blk bl p.1)))),.(r ((hF++j).length)),some y2]) rfl ?_
     have pd:=z5f (d:=y2) (l:=blk bl p.1) (z4T ma) lm (dF (j1++j3)) blt (by omega) (zj4 ma) okB.ok
     refine zA9 (decide ((prt (blk bl p.1) (bel st mk bl y2)).length=2)) (h1:=hF++(j1++j3)++[.lst (stsD (prt (blk bl p.1) (bel st mk bl y2)))]) ((cb_h (e2_h (y4 (fn_h (ds:=[maD st mk,.ref b,.tup (stD (blk bl p.1)),y2]) (ac_h (Z1 rfl) (ac_h (Z1 rfl) (ac_h (Z1 rfl) (ac_h (Z1 rfl) rfl)))) rfl pd) (z41 J2)) (y:=.int 2) rfl (by rw [z8q];rfl))).trans ?_) ?_
     ·congr 1
      rw [K20,decide_eq_decide]
      unfold stsD
      rw [K00]
      omega
     by_cases q:(prt (blk bl p.1) (bel st mk bl y2)).length=2
     ·rw [decide_eq_true q,if_pos rfl]
      obtain ⟨q1,q2⟩:=prt_len.mp q
      refine z6K (z07 (.tup [.int (p.1:Nat),y2]) (z5E (Z1 rfl) (Z1 rfl)) ⟨⟨_,by rw [K02]⟩,y2,rfl,okB,⟨c,by rw [Lc];exact hy,by rw [Lc];exact no2⟩,hk,q1,q2⟩)
     ·rw [decide_eq_false q,if_neg (by decide)]
      refine z0x (z0s ⟨_,j3++_,rfl,by rw [K02,K02],λz hz=>?_⟩)
      rw [K4h,hy] at hz
      rcases K0w.mp hz with hz|hz
      ·exact no2 z hz
      ·simp at hz
       subst hz
       exact λc=>q (prt_len.mpr ⟨c.hy,c.hn⟩)
    ·rintro γ h' ⟨y3,j3,rfl,rfl,no2⟩
     rw [show (Src.lst (hF++j++[O.lst nm]).length L).items.length=L.length from rfl,K1e] at no2
     exact ⟨_,_,rfl,rfl,no2⟩
    ·rintro d h' ⟨ej,y2,rfl,okB,fi,cc⟩
     exact ⟨ej,p.1,y2,rfl,okB,⟨c,p,ep,rfl,no,fi⟩,cc⟩
   rintro _ _ ⟨y3,j3,rfl,rfl,no2⟩
   refine z0s ⟨_,_,_,_,j3,rfl,rfl,λr hr y hy=>?_⟩
   rw [K4h,ep] at hr
   rcases K0w.mp hr with hr|hr
   ·exact no r hr y hy
   ·simp at hr
    subst hr
    exact no2 y ((inL y).mpr hy)
  ·rintro γ _ ⟨a,e,n,y,j,rfl,rfl,no⟩
   rw [show (Src.con (stD (bl.map (·.1)))).items.length=bl.length by show (stD (bl.map (·.1))).length=_;rw [j6,K00],K1e] at no
   refine z07 .non rfl ⟨⟨j,rfl⟩,.inl ⟨rfl,λp hp y hy=>no p hp y ?_⟩⟩
   unfold ByN
   rw [pb.blk hp]
   exact hy
  ·rintro d h' ⟨ej,k,y,rfl,okB,cc⟩
   exact ⟨ej,.inr ⟨k,y,rfl,okB,cc⟩⟩
 obtain ⟨d,h',e,⟨j,rfl⟩,r⟩:=key
 refine ⟨d,?_,r⟩
 show cln (runF 6 z16 [maD st mk,.ref b]) h=_
 rw [← hhF]
 refine zw7 e (by rw [hhF,K47]) (by rw [hhF];exact z81 (refB _)) ?_
 rcases r with ⟨rfl,_⟩|⟨k,y,rfl,okB,_⟩
 ·rfl
 ·rcases okB.ok with ⟨s,rfl⟩|⟨k',rfl,_⟩<;>rfl
theorem zd2 {k k':Nat}{y y':D}(f:Fst st mk bl k y) (b:ByN mk bl k y) (c:Cut bl k (bel st mk bl y)) (f':Fst st mk bl k' y') (b':ByN mk bl k' y') (c':Cut bl k' (bel st mk bl y')):k=k'/\y=y':=by
 obtain ⟨n,p,ep,rfl,no,i,ei,ni⟩:=f
 obtain ⟨n',p',ep',rfl,no',i',ei',ni'⟩:=f'
 have tk:∀{α:Type} {l:List α} {a b:Nat} {x:α},l[a]?=some x->a<b->x∈l.take b:=λ{α l a b x} e h=>K03 (i:=a) (by rw [K2m,if_pos h];exact e)
 rcases K9v n n' with h|h|h
 ·exact absurd c (no' p (tk ep h) y b)
 ·subst h
  rw [ep] at ep'
  cases ep'
  rcases K9v i i' with h|h|h
  ·exact absurd c (ni' y (tk ei h))
  ·subst h
   rw [ei] at ei'
   cases ei'
   exact ⟨rfl,rfl⟩
  ·exact absurd c' (ni y' (tk ei' h))
 ·exact absurd c' (no p' (tk ep' h) y' b')
end
def blkE (bl:Bl):D->Key×D
 | .int k=>(.inl k,.tup (stD (blk bl k.toNat)))
 | _=>(.inl 0,.non)
theorem zi5 {n:Nat}{bl:Bl}(pb:PB n bl):(stD (bl.map (·.1))).map (blkE bl)=kvB bl:=by
 unfold stD kvB
 rw [K0o,K0o]
 refine K2f λp hp=>?_
 show ((.inl ((p.1:Nat):Int):Key),D.tup (stD (blk bl ((p.1:Nat):Int).toNat)))=_
 rw [K0k,pb.blk hp]
theorem zA1 {l:List Nat}(nd:l.Nodup) {f:D->Key×D}(hf:∀x:Nat,(f (.int x)).1=.inl (x:Int)):((stD l).map λd=>(f d).1).Nodup:=by
 have e:((stD l).map λd=>(f d).1)=l.map λ(x:Nat)=>(.inl (x:Int):Key):=by
  unfold stD
  rw [K0o]
  exact K2f λx _=>hf x
 rw [e]
 exact K9c _ (λa b h e=>h (inl_inj.mp e)) nd
section
variable {st:List (List Nat)}{mk:List (List Str)}{bl:Bl}
theorem zL7 {h:AH}{b k:Nat}{y:D}(ma:MA st mk) (pb:PB st.length bl) (dc:Dic h b bl) (ok:ByOk bl y) (ct:Cut bl k (bel st mk bl y)):z2v [maD st mk,.ref b,.tup [.int (k:Nat),y]] h=.ok (.ref h.length) (h.set b (.dF (kvB bl))++[.dK (kvB (cutB bl k (bel st mk bl y)))]):=by
 have l2:=ma.l2
 have bln:=pb.len
 obtain ⟨hF,hhF⟩:∃hF,hF=h.set b (.dF (kvB bl)):=⟨_,rfl⟩
 have dF:∀j,Dic (hF++j) b bl:=λj=>by rw [hhF];exact dc.set.app j
 have lF:hF.length=h.length:=by rw [hhF,K47]
 obtain ⟨f,hf⟩:∃f,f=bel st mk bl y:=⟨_,rfl⟩
 obtain ⟨blt,bll⟩:=z6b pb ct.hk
 obtain ⟨T,hT⟩:∃T:Nat->Bl,T=λc=>(([yesL bl k f,noL bl k f]:List (List Nat)).take c).foldl (λacc q=>putB acc (q.headD 0) q) bl:=⟨_,rfl⟩
 have key:W (runF 7 z2n [maD st mk,.ref b,.tup [.int (k:Nat),y]]) h λd h'=>d=.ref hF.length/\∃j,h'=hF++(.dK (kvB (cutB bl k f))::j):=by
  refine z29 ?_
  show W (z2n [some (maD st mk),.(r b),.(g [.int (k:Nat),y]),none,none,none,none]) h _
  unfold z2n z6U
  refine z4Y (.tup [.int (k:Nat),y]) [some (maD st mk),.(r b),.(g [.int (k:Nat),y]),.(i (k:Nat)),some y,none,none] rfl rfl ?_
  refine Y4 (.ref hF.length) [some (maD st mk),.(r b),.(g [.int (k:Nat),y]),.(i (k:Nat)),some y,.(r hF.length),none] (h1:=hF++[.dK (kvB bl)]) ?_ rfl ?_
  ·have e:=zt1 (cap:=[some 1,none]) (mi:=iDic (eVar 1)) (g:=gN 1) (kb:=λ_=>pure true) (me:=eVar 1) (mv:=e2 z3I (eVar 0) (eVar 1)) (γ:=[some (maD st mk),.(r b),.(g [.int (k:Nat),y]),.(i (k:Nat)),some y,none,none]) (h:=h) (h1:=hF) (blkE bl) (src:=.con (stD (bl.map (·.1)))) (by rw [hhF];exact dc.walk (Z1 rfl)) (λ_=>trivial) (zA1 pb.nd λx=>rfl) (by show (stD (bl.map (·.1))).length≤_;rw [j6,K00];omega) λd hd=>by
    obtain ⟨x,hx,rfl⟩:=K04.mp (show d∈(bl.map (·.1)).map _ from hd)
    exact ⟨[.(r b),.(i (x:Nat))],.int (x:Nat),λh=>rfl,λh=>rfl,rfl,λj=>rfl,λj=>e2_h (Z1 rfl) (Z1 rfl) ((dF j).get hx)⟩
   rw [show (Src.con (stD (bl.map (·.1)))).items=stD (bl.map (·.1)) from rfl,zi5 pb] at e
   exact e
  have p2:prt (blk bl k) f=[yesL bl k f,noL bl k f]:=z8H (by rw [hf];exact ct.hy) (by rw [hf];exact ct.hn)
  have pd:=z5f (h:=hF++[.dK (kvB bl)]) (d:=y) (l:=blk bl k) (z4T ma) ma.l3 (dF _) blt (by omega) (zj4 ma) ok
  rw [← hf,p2] at pd
  refine z2w (λγ h'=>∃a j,γ=[some (maD st mk),.(r b),.(g [.int (k:Nat),y]),.(i (k:Nat)),some y,.(r (hF.length+0)),a]/\h'=hF++(.dK (kvB (T 2))::j)) ?_ ?_
  ·refine z18 (λc γ h'=>∃a,γ=[some (maD st mk),.(r b),.(g [.int (k:Nat),y]),.(i (k:Nat)),some y,.(r (hF.length+0)),a]/\h'=hF++[.dK (kvB (T c)),.lst (stsD [yesL bl k f,noL bl k f])]) (λ_ _=>False) ?_
   refine W_of (v:=.lst (hF++[O.dK (kvB bl)]).length (stsD [yesL bl k f,noL bl k f])) (z9a (fn_h (ds:=[maD st mk,.ref b,.tup (stD (blk bl k)),y]) (ac_h (Z1 rfl) (ac_h (Z1 rfl) (ac_h (e2_h (Z1 rfl) (Z1 rfl) ((dF _).get ct.hk)) (ac_h (Z1 rfl) rfl)))) rfl pd) J2) ?_
   refine ⟨⟨none,rfl,by rw [hT];simp⟩,λc γ h' ⟨_,_,e⟩=>?_,?_,?_,λ_ _ q=>q.elim⟩
   ·show h'[_]?=_
    rw [e]
    have:(hF++[O.dK (kvB bl)]).length=hF.length+1:=by simp
    rw [this]
    exact at_E (l:=[_,_])
   ·rintro c d γ _ hd ⟨a,rfl,rfl⟩
    obtain ⟨q,eq,rfl⟩:∃q,([yesL bl k f,noL bl k f]:List (List Nat))[c]?=some q/\d=.tup (stD q):=by
     have hd:(stsD [yesL bl k f,noL bl k f])[c]?=some d:=hd
     unfold stsD at hd
     rw [K0e] at hd
     obtain ⟨q,e1,e2⟩:=K10.mp hd
     exact ⟨q,e1,e2.symm⟩
    have qm:=K03 eq
    have q0:q≠[]:=by
     simp at qm
     rcases qm with rfl|rfl
     ·rw [hf];exact ct.hy
     ·rw [hf];exact ct.hn
    obtain ⟨x,r,rfl⟩:∃x r,q=x::r:=by cases q with|nil=>exact absurd rfl q0|cons x r=>exact ⟨x,r,rfl⟩
    refine W_eq (v:=[some (maD st mk),.(r b),.(g [.int (k:Nat),y]),.(i (k:Nat)),some y,.(r (hF.length+0)),.(g ((stD (x::r))))]) rfl ?_
    have tc:T (c+1)=putB (T c) x (x::r):=by
     rw [hT]
     dsimp only
     rw [K4h,eq,K9q]
     rfl
    have Tl:(T c).length≤100:=by
     have one:∀(bl:Bl) (k:Nat) (b:List Nat),(putB bl k b).length≤bl.length+1:=λbl k b=>by unfold putB;split<;>simp
     have:∀(l:List (List Nat)) (bl:Bl),(l.foldl (λacc q=>putB acc (q.headD 0) q) bl).length≤bl.length+l.length:=by
      intro l
      induction l with
      | nil=>intro bl;simp
      | cons q l ih=>intro bl;have:=ih (putB bl (q.headD 0) q);have:=one bl (q.headD 0) q;simp only [K63,K07];omega
     have t1:=this (([yesL bl k f,noL bl k f]:List (List Nat)).take c) bl
     rw [hT]
     dsimp only
     have:(([yesL bl k f,noL bl k f]:List (List Nat)).take c).length≤2:=by rw [K26];simp;omega
     omega
    have put:gDx (eVar 5) (e2 fIx (eVar 6) (λ_=>pure (.int 0))) (.tup (stD (x::r))) [some (maD st mk),.(r b),.(g [.int (k:Nat),y]),.(i (k:Nat)),some y,.(r (hF.length+0)),.(g ((stD (x::r))))] (hF++[.dK (kvB (T c)),.lst (stsD [yesL bl k f,noL bl k f])])=.ok [some (maD st mk),.(r b),.(g [.int (k:Nat),y]),.(i (k:Nat)),some y,.(r (hF.length+0)),.(g ((stD (x::r))))] (hF++[.dK (kvB (T (c+1))),.lst (stsD [yesL bl k f,noL bl k f])]):=by
     unfold gDx
     have e1:e2 fIx (eVar 6) (λ_=>pure (.int 0)) [some (maD st mk),.(r b),.(g [.int (k:Nat),y]),.(i (k:Nat)),some y,.(r (hF.length+0)),.(g ((stD (x::r))))] (hF++[.dK (kvB (T c)),.lst (stsD [yesL bl k f,noL bl k f])])=.ok (.int (x:Nat)) _:=e2_h (Z1 rfl) (y:=.int 0) rfl (by
      show fIx (.tup (.int (x:Nat)::stD r)) (.int 0) _=_
      rw [ix0];rfl)
     rw [M.bind_ok (Z1 (γ:=[some (maD st mk),.(r b),.(g [.int (k:Nat),y]),.(i (k:Nat)),some y,.(r (hF.length+0)),.(g ((stD (x::r))))]) (a:=5) rfl),M.bind_ok e1]
     have e3:z6M (.ref (hF.length+0)) (.int (x:Nat)) (.tup (stD (x::r))) (hF++[.dK (kvB (T c)),.lst (stsD [yesL bl k f,noL bl k f])])=.ok () (hF++[.dK (kvB (T (c+1))),.lst (stsD [yesL bl k f,noL bl k f])]):=by
      unfold z6M
      dsimp only
      rw [show keyD (.int (x:Nat))=some (.inl (x:Int)) from rfl]
      dsimp only
      rw [at_E (l:=[_,_])]
      show (if (kvB (T c)).length<sizeLine then _ else _)=_
      rw [if_pos (by unfold kvB;rw [K00];exact K25 Tl (by decide)),zu7,ptB,← tc]
      rfl
     rw [M.bind_ok e3]
     rfl
    refine (w_cons).mpr ?_
    unfold sAsg
    rw [Z7]
    refine W_of (Z1 rfl) ?_
    rw [Z7]
    refine W_of put ?_
    rw [W_pure]
    exact z0s ⟨_,rfl,rfl⟩
   ·rintro _ _ ⟨a,rfl,rfl⟩
    exact ⟨a,_,rfl,rfl⟩
  rintro _ _ ⟨a,j,rfl,rfl⟩
  refine z07 (.ref hF.length) (Z1 rfl) ⟨rfl,j,?_⟩
  rw [hT]
  rfl
 obtain ⟨d,h',e,rfl,j,rfl⟩:=key
 show cln (runF 7 z2n [maD st mk,.ref b,.tup [.int (k:Nat),y]]) h=_
 rw [← hhF,← hf]
 exact z2j e lF (by rw [hhF];exact z81 (refB _)) (by omega) (by rw [K38 (by omega)];simp) (refB _)
end
def rowB (n:Nat) (bl:Bl):List Nat:=(K8 n).map λx=>(z0t (bl.map (·.1))).idxOf (keyOf bl x)
theorem zL9 {kvs:List (Key×D)}(nd:(kvs.map (·.1)).Nodup) {k:Key}{v:D}(h:(k,v)∈kvs):lkD kvs k=some v:=by
 induction kvs with
 | nil=>cases h
 | cons p r ih =>
  rw [K0t,K61] at nd
  unfold lkD
  rw [K2g]
  rcases K0v.mp h with rfl|h
  ·rw [decide_eq_true rfl];rfl
  ·have:p.1≠k:=λe=>nd.1 (by rw [e];exact K04.mpr ⟨_,h,rfl⟩)
   rw [decide_eq_false this]
   exact ih nd.2 h
theorem zy2 {kvs:List (Key×D)}{l:List Nat}(e:kvs.map (·.1)=l.map λ(x:Nat)=>(.inl (x:Int):Key)):z2x (z21 kvs)=some (zN l):=by
 have:z21 kvs=stD l:=by
  unfold z21 stD
  have h:=congrArg (List.map kD) e
  rw [K0o,K0o] at h
  exact h
 rw [this,z3R]
theorem z5L {h:AH}{n:Nat}{kvs:List (Key×D)}{l:List Nat}(g:z47 n h=.ok kvs h) (e:kvs.map (·.1)=l.map λ(x:Nat)=>(.inl (x:Int):Key)) (hl:l.length<64):z0z [.ref n] h=.ok (.ref h.length) (h++[.lst (stD (z0t l))]):=by
 show (z47 n >>= _) h=_
 rw [M.bind_ok g]
 show (match z2x (z21 kvs) with|some ns=>if ns.length<64 then newL ((sortI ns).map .int) else bad|none=>bad) h=_
 rw [zy2 e]
 dsimp only
 rw [if_pos (by unfold zN;rw [K00];omega),z32]
 exact zg3 (by rw [j6,v5];omega)
theorem z2s {α β:Type}{f g:α->List β}:∀{l:List α},(∀x∈l,f x=g x)->l.flatMap f=l.flatMap g
 | [],_=>rfl
 | x::l,h=>by rw [K2b,K2b,h x (by simp),z2s λy hy=>h y (by simp [hy])]
def z39 (bl:Bl):D->List D
 | .tup [_,.int k]=>stD (blk bl k.toNat)
 | _=>[]
def z5z:D->D->Key×D
 | .tup [.int i,_],.int x=>(.inl x,.int i)
 | _,_=>(.inl 0,.non)
section
variable {st:List (List Nat)}{mk:List (List Str)}{bl:Bl}
theorem zK8 {h:AH}{b n:Nat}(pb:PB n bl) (hn:n≤40) (dc:Dic h b bl):z2i [.ref b] h=.ok (.tup (stD (rowB n bl))) h:=by
 obtain ⟨ks,hks⟩:∃ks,ks=z0t (bl.map (·.1)):=⟨_,rfl⟩
 have bln:=pb.len
 have kn:ks.Nodup:=by rw [hks];exact z3k (z17 pb.nd)
 have km:∀k,k∈ks↔k∈bl.map (·.1):=λk=>by rw [hks];exact sortN_mem
 have kl:ks.length=bl.length:=by rw [hks,v5,K00]
 have keysE:(kvB bl).map (·.1)=(bl.map (·.1)).map λ(x:Nat)=>(.inl (x:Int):Key):=by unfold kvB;rw [K0o,K0o];rfl
 obtain ⟨xs,hxs⟩:∃xs,xs=ks.flatMap (blk bl):=⟨_,rfl⟩
 have xm:∀x,x∈xs↔x<n:=λx=>by
  rw [hxs,K7m]
  constructor
  ·rintro ⟨k,hk,hx⟩
   exact ((pb.in_blk ((km k).mp hk)).mp hx).1
  ·intro hx
   exact ⟨keyOf bl x,(km _).mpr (pb.keyin hx),(pb.at_ hx).2⟩
 have xn:xs.Nodup:=by
  rw [hxs]
  refine List.pairwise_flatMap.mpr ⟨λk hk=>z3k (pb.rise _ (pb.of_key ((km k).mp hk))),?_⟩
  refine K7a (λ{k k'} hk hk' ne x hx y hy e=>?_) kn
  subst e
  have a1:=((pb.in_blk ((km k).mp hk)).mp hx).2
  have a2:=((pb.in_blk ((km k').mp hk')).mp hy).2
  exact ne (a1.symm.trans a2)
 have xl:xs.length≤40:=by
  have:=xn.length_le_of_subset (l₂:=K8 n) λx hx=>K0r.mpr ((xm x).mp hx)
  simp at this
  omega
 have xs':z0t xs=K8 n:=z3g (z17 xn) K43 λx=>by rw [sortN_mem,xm,K0r]
 obtain ⟨it,hit⟩:∃it,it=z1k (stD ks):=⟨_,rfl⟩
 have itE:it=(K8 ks.length).map λ(i:Nat)=>D.tup [.int (i:Nat),.int ((ks[i]?).getD 0:Nat)]:=by
  rw [hit]
  unfold z1k
  rw [j6]
  refine K2f λi hi=>?_
  have hi:=K0r.mp hi
  have:((stD ks)[i]?).getD .non=.int ((ks[i]?).getD 0:Nat):=by
   unfold stD
   rw [K0e,K4 hi]
   rfl
  rw [this]
 have flat:∀(α:Type) (g:Nat->List α),(K8 ks.length).flatMap (λi=>g ((ks[i]?).getD 0))=ks.flatMap g:=λα g=>by
  have e:ks=(K8 ks.length).map λi=>(ks[i]?).getD 0:=by
   refine K1x λi=>?_
   rw [K0e]
   by_cases hi:i<ks.length
   ·rw [K1p hi,K4 hi]
    simp [K4 hi]
   ·rw [K0i (by omega),K0i (by simpa using hi)]
    rfl
  conv=>rhs;rw [e]
  rw [K7n]
 have yE:∀i:Nat,z39 bl (.tup [.int (i:Nat),.int ((ks[i]?).getD 0:Nat)])=stD (blk bl ((ks[i]?).getD 0)):=λi=>by
  show stD (blk bl (((ks[i]?).getD 0:Nat):Int).toNat)=_
  rw [K0k]
 obtain ⟨kv,hkv⟩:∃kv,kv=it.flatMap λd=>(z39 bl d).map (z5z d):=⟨_,rfl⟩
 have kvK:kv.map (·.1)=xs.map λ(x:Nat)=>(.inl (x:Int):Key):=by
  rw [hkv,itE,K7n,K5w,hxs,K5w,← flat]
  refine z2s λi hi=>?_
  rw [yE]
  unfold stD
  rw [K0o,K0o]
  rfl
 have kvN:(kv.map (·.1)).Nodup:=by
  rw [kvK]
  exact K9c _ (λa b h e=>h (inl_inj.mp e)) xn
 have len1:(it.flatMap (z39 bl)).length=xs.length:=by
  have e:it.flatMap (z39 bl)=stD xs:=by
   rw [itE,K7n,hxs]
   unfold stD
   rw [K5w,← flat]
   exact z2s λi hi=>yE i
  rw [e,j6]
 show cln (runF 2 z2V [.ref b]) h=_
 refine z0u (j:=[.lst (stD ks),.dK kv]) (z4t ?_) (z4O _)
 show W (z2V [.(r b),none]) h _
 unfold z2V
 have so:Z6 z0z (z8 (eVar 0) aNil) [.(r b),none] h=.ok (.ref h.length) (h++[.lst (stD ks)]):=y4 (Z1 rfl) (by rw [z5L dc.dk keysE (by rw [K00];omega),hks])
 have src:z7f (Z6 z0z (z8 (eVar 0) aNil)) [.(r b),none] h=.ok (.obj h.length (.lst (stD ks)) it) (h++[.lst (stD ks)]):=by
  unfold z7f
  rw [M.bind_ok (ac_h so rfl:z8 (Z6 z0z (z8 (eVar 0) aNil)) aNil [.(r b),none] h=.ok [.ref h.length] _)]
  have g:getL h.length (h++[O.lst (stD ks)])=.ok (stD ks) (h++[.lst (stD ks)]):=by unfold getL;rw [J2]
  show (getL h.length >>= λxs=>(pure (Src.obj h.length (.lst xs) (z1k xs)):M Src)) _=_
  rw [M.bind_ok g,hit]
  rfl
 refine Y4 (.ref (h++[O.lst (stD ks)]).length) [.(r b),.(r ((h++[O.lst (stD ks)]).length))] (h1:=h++[.lst (stD ks)]++[.dK kv]) ?_ rfl ?_
 ·rw [hkv]
  refine zj8 (src:=.obj h.length (.lst (stD ks)) it) (z39 bl) z5z src (λj=>by show (_++j)[h.length]?=_;simp) ?_ ?_ λd hd=>?_
  ·have:=kvN
   rw [hkv,K5w] at this
   have e:(it.flatMap λd=>(z39 bl d).map λy=>(z5z d y).1)=it.flatMap λd=>((z39 bl d).map (z5z d)).map (·.1):=z2s λd _=>by rw [K0o];rfl
   show (it.flatMap λd=>(z39 bl d).map λy=>(z5z d y).1).Nodup
   rw [e]
   exact this
  ·show (it.flatMap (z39 bl)).length≤_
   rw [len1];omega
  ·have hd:d∈it:=hd
   rw [itE] at hd
   obtain ⟨i,hi,rfl⟩:=K04.mp hd
   have hi:=K0r.mp hi
   have hk:(ks[i]?).getD 0∈bl.map (·.1):=by
    rw [K4 hi]
    exact (km _).mp (K4o hi)
   refine ⟨[.(r b),.(i (i:Nat)),.(i (((ks[i]?).getD 0:Nat))),none],λh=>rfl,λj=>z0M (e2_h (Z1 rfl) (Z1 rfl) ?_),λy hy=>?_⟩
   ·rw [yE]
    exact ((dc.app _).app j).get hk
   ·rw [yE] at hy
    obtain ⟨x,hx,rfl⟩:=K04.mp hy
    exact ⟨[.(r b),.(i (i:Nat)),.(i (((ks[i]?).getD 0:Nat))),.(i (x:Nat))],.int (x:Nat),λh=>rfl,λh=>rfl,rfl,λj=>rfl,λj=>rfl⟩
 obtain ⟨H,hH⟩:∃H,H=h++[O.lst (stD ks)]:=⟨_,rfl⟩
 rw [← hH]
 have gk:∀j:AH,z47 H.length (H++[O.dK kv]++j)=.ok kv (H++[O.dK kv]++j):=λj=>by unfold z47;rw [x5 J2]
 have gk2:∀j:AH,getK H.length (H++[O.dK kv]++j)=.ok kv (H++[O.dK kv]++j):=λj=>by unfold getK;rw [x5 J2]
 refine z07 (.tup (stD (rowB n bl))) (h1:=H++[.dK kv]) ?_ ⟨rfl,by rw [hH];simp⟩
 refine z0u (j:=[.lst (stD (K8 n)),.lst (stD (rowB n bl))]) ?_ (z4O _)
 have so2:Z6 z0z (z8 (eVar 1) aNil) [.(r b),.(r H.length)] (H++[O.dK kv])=.ok (.ref (H++[O.dK kv]).length) (H++[O.dK kv]++[.lst (stD (K8 n))]):=y4 (Z1 rfl) (by
  have:=gk []
  rw [K1u] at this
  rw [z5L this kvK (by omega),xs'])
 refine (y4 (d:=.ref (H++[O.dK kv]++[O.lst (stD (K8 n))]).length) (h1:=H++[O.dK kv]++[.lst (stD (K8 n))]++[.lst (stD (rowB n bl))]) ?_ (z8y J2)).trans (by simp)
 have cs:=z6n (cap:=[some 1,none]) (mi:=z0h (Z6 z0z (z8 (eVar 1) aNil))) (g:=gN 1) (kb:=λ_=>pure true) (me:=e2 z3I (eVar 0) (eVar 1)) (γ:=[.(r b),.(r H.length)]) (l:=K8 n) (λx=>.int ((z0t (bl.map (·.1))).idxOf (keyOf bl x):Nat)) (z9a so2 J2) rfl (λj=>by show (_++j)[_]?=_;exact x5 J2) (by simp;omega) λx hx=>⟨[.(r H.length),.(i (x:Nat))],λh=>rfl,λj=>rfl,λj=>by
  have hx:=K0r.mp hx
  refine e2_h (Z1 rfl) (Z1 rfl) ?_
  show (getK H.length >>= _) _=_
  rw [K02,M.bind_ok (gk2 _)]
  show (match lkD kv (.inl (x:Int)) with|some d=>pure d|none=>bad) _=_
  have kin:=(km _).mpr (pb.keyin hx)
  have il:=K14.mpr kin
  have gi:(ks[ks.idxOf (keyOf bl x)]?).getD 0=keyOf bl x:=by rw [z6N kin];rfl
  rw [zL9 kvN (v:=.int (ks.idxOf (keyOf bl x):Nat)) ?_,hks]
  ·rfl
  ·rw [hkv,itE,K7m]
   refine ⟨_,K04.mpr ⟨ks.idxOf (keyOf bl x),K0r.mpr il,rfl⟩,?_⟩
   rw [yE,gi]
   exact K04.mpr ⟨.int (x:Nat),K04.mpr ⟨x,(pb.at_ hx).2,rfl⟩,rfl⟩⟩
 refine cs.trans ?_
 congr 3
 unfold rowB stD
 rw [K0o]
 rfl
end
section
variable {st:List (List Nat)}{mk:List (List Str)}{bl:Bl}
inductive Cuts (st:List (List Nat)) (mk:List (List Str)) (bl0:Bl):List (Nat×D)->Bl->Prop
 | nil:Cuts st mk bl0 [] bl0
 | snoc {cs:List (Nat×D)} {bl:Bl} {k:Nat} {y:D}:Cuts st mk bl0 cs bl->ByN mk bl k y->Fst st mk bl k y->Cut bl k (bel st mk bl y)->Cuts st mk bl0 (cs++[(k,y)]) (cutB bl k (bel st mk bl y))
def z08 (cs:List (Nat×D)):List D:=cs.map λc=>.tup [.int (c.1:Nat),c.2]
theorem Cuts.len {bl0:Bl}{n:Nat}{cs:List (Nat×D)}{bl:Bl}(pb:PB n bl0) (c:Cuts st mk bl0 cs bl):PB n bl/\bl.length=bl0.length+cs.length:=by
 induction c with
 | nil=>exact ⟨pb,rfl⟩
 | snoc c b f ct ih =>
  refine ⟨z7G ih.1 ct,?_⟩
  rw [z5r ih.1 ct,ih.2,K08]
  rfl
theorem z4l {h j:AH}{b:Nat}{o:O}(hb:h.length≤b):(h++j).set b o=h++j.set (b - h.length) o:=by rw [K4e _ _ hb]
theorem zq9 {n:Nat}{cs:List (Nat×D)}{bl0 bl:Bl}(c:Cuts st mk bl0 cs bl):J5 n (z08 cs)=true:=by
 refine z3s λd hd=>?_
 obtain ⟨p,hp,rfl⟩:=K04.mp hd
 have:∀p∈cs,J7 n p.2=true:=by
  clear hp hd
  induction c with
  | nil=>intro p hp;cases hp
  | snoc c b f ct ih =>
   intro p hp
   rcases K0w.mp hp with q|q
   ·exact ih p q
   ·simp at q
    subst q
    rcases b.ok with ⟨s,rfl⟩|⟨k',rfl,_⟩<;>rfl
 simp only [J7,J5,K5z,Bool.true_and]
 exact this p hp
theorem z5P {h:AH}(ma:MA st mk):∃bl cs,z28 [maD st mk] h=.ok (.tup [.tup (stD (rowB st.length bl)),.tup (z08 cs)]) h/\PB st.length bl/\Done st mk bl/\Cuts st mk [(0,K8 st.length)] cs bl/\∀x y,x<st.length->y<st.length->(keyOf bl x=keyOf bl y↔Sim st mk x y):=by
 have l1:=ma.l1
 have l2:=ma.l2
 obtain ⟨n,hn⟩:∃n,n=st.length:=⟨_,rfl⟩
 have pb0:PB st.length [(0,K8 st.length)]:=z2X (by omega)
 have key:W (runF 4 z1D [maD st mk]) h λd h'=>(∃j,h'=h++j)/\∃bl cs,d=.tup [.tup (stD (rowB st.length bl)),.tup (z08 cs)]/\PB st.length bl/\Done st mk bl/\Cuts st mk [(0,K8 st.length)] cs bl/\∀E,Stb st mk E->∀x y,E x y->keyOf bl x=keyOf bl y:=by
  refine z29 ?_
  show W (z1D [some (maD st mk),none,none,none]) h _
  unfold z1D
  refine Y4 (.ref h.length) [some (maD st mk),.(r h.length),none,none] (fn_h (ds:=[maD st mk]) (ac_h (Z1 rfl) rfl) rfl (z9I l2)) rfl ?_
  refine z8j (xs:=[]) (by simp) (λh=>rfl) ?_
  obtain ⟨H0,hH0⟩:∃H0,H0=h++[O.dK (kvB [(0,K8 st.length)])]++[O.lst []]:=⟨_,rfl⟩
  have d0:Dic H0 h.length [(0,K8 st.length)]:=by rw [hH0];exact Dic.app (.inl J2) _
  obtain ⟨d,ed,dd⟩:=zp9 ma pb0 d0
  refine Y4 d [some (maD st mk),.(r h.length),.(r (h.length+1)),some d] (h1:=H0.set h.length (.dF (kvB [(0,K8 st.length)]))) ?_ ?_ ?_
  ·rw [← hH0]
   exact fn_h (ds:=[maD st mk,.ref h.length]) (ac_h (Z1 rfl) (ac_h (Z1 rfl) rfl)) rfl ed
  ·show (pure _:M G)=_
   simp
  refine zC0 (m:=n) (λm γ H=>∃bl b c cs d,γ=[some (maD st mk),.(r b),.(r c),some d]/\(∃j,H=h++j)/\h.length≤b/\h.length≤c/\Dic H b bl/\H[c]?=.(l (z08 cs))/\PB st.length bl/\Cuts st mk [(0,K8 st.length)] cs bl/\(∀E,Stb st mk E->∀x y,E x y->keyOf bl x=keyOf bl y)/\m+bl.length=n+1/\((d=.non/\Done st mk bl)∨∃(k:Nat) (y:D),d=.tup [.int (k:Nat),y]/\ByN mk bl k y/\Fst st mk bl k y/\Cut bl k (bel st mk bl y))) (by omega) ?_ ?_
  ·refine ⟨_,h.length,h.length+1,[],d,rfl,⟨[.dF (kvB [(0,K8 st.length)]),.lst []],by rw [hH0];simp⟩,by omega,by omega,d0.set,?_,pb0,.nil,λE s x y e=>?_,by simp,dd⟩
   ·rw [K15 (by omega),hH0]
    simp [z08]
   ·obtain ⟨hx,hy⟩:=s.lt x y e
    rw [pb0.key (p:=(0,K8 st.length)) (by simp) (K0r.mpr hx),pb0.key (p:=(0,K8 st.length)) (by simp) (K0r.mpr hy)]
  ·rintro m _ H ⟨bl,b,c,cs,d,rfl,⟨j,rfl⟩,hb,hc,dc,ec,pb,cu,co,em,dd⟩
   rcases dd with ⟨rfl,dn⟩|⟨k,y,rfl,bn,fs,ct⟩
   ·refine ⟨false,by rfl,?_⟩
    rw [if_neg (by decide)]
    refine z07 (.tup [.tup (stD (rowB st.length bl)),.tup (z08 cs)]) (z5E (fn_h (ds:=[.ref b]) (ac_h (Z1 rfl) rfl) rfl (zK8 pb l2 dc)) (y4 (Z1 rfl) (z8y ec))) ⟨⟨j,rfl⟩,bl,cs,rfl,pb,dn,cu,co⟩
   ·refine ⟨true,by rfl,?_⟩
    rw [if_pos rfl]
    have pb':=z7G pb ct
    have bl':=pb'.len
    rw [z5r pb ct] at bl'
    refine ⟨m - 1,by omega,?_⟩
    have bnc:b≠c:=λe=>by
     rw [e] at dc
     rcases dc with q|q<;>(rw [ec] at q;cases q)
    have csl:=(cu.len pb0).2
    refine z3N (a:=2) rfl ec (by unfold z08;rw [K00];simp at csl;omega) (Z1 rfl) ?_
    have ecs:z08 cs++[.tup [.int (k:Nat),y]]=z08 (cs++[(k,y)]):=by unfold z08;simp
    rw [ecs,z4l hc]
    obtain ⟨j1,hj1⟩:∃j1,j1=j.set (c - h.length) (.lst (z08 (cs++[(k,y)]))):=⟨_,rfl⟩
    rw [← hj1]
    have e1:h++j1=(h++j).set c (.lst (z08 (cs++[(k,y)]))):=by rw [hj1,z4l hc]
    have dc1:Dic (h++j1) b bl:=by
     rw [e1]
     unfold Dic
     rw [K15 (K4p bnc)]
     exact dc
    have ec1:(h++j1)[c]?=.(l ((z08 (cs++[(k,y)])))):=by rw [e1];exact K19 (K5.mp ec).1
    obtain ⟨j2,hj2⟩:∃j2,j2=j1.set (b - h.length) (.dF (kvB bl))++[.dK (kvB (cutB bl k (bel st mk bl y)))]:=⟨_,rfl⟩
    have e2':(h++j1).set b (.dF (kvB bl))++[.dK (kvB (cutB bl k (bel st mk bl y)))]=h++j2:=by rw [hj2,z4l hb,K02]
    have eu:=zL7 ma pb dc1 bn.ok ct
    rw [e2'] at eu
    refine Y4 (.ref (h++j1).length) [some (maD st mk),.(r ((h++j1).length)),.(r c),.(g [.int (k:Nat),y])] (fn_h (ds:=[maD st mk,.ref b,.tup [.int (k:Nat),y]]) (ac_h (Z1 rfl) (ac_h (Z1 rfl) (ac_h (Z1 rfl) rfl))) rfl eu) rfl ?_
    have dc2:Dic (h++j2) (h++j1).length (cutB bl k (bel st mk bl y)):=by
     rw [← e2']
     refine .inl ?_
     rw [show (h++j1).length=((h++j1).set b (O.dF (kvB bl))).length by rw [K47]]
     exact J2
    have cl1:=(K5.mp ec1).1
    have ec2:(h++j2)[c]?=.(l ((z08 (cs++[(k,y)])))):=by
     rw [← e2',K0s (by rw [K47];exact cl1),K15 bnc]
     exact ec1
    obtain ⟨d',ed',dd'⟩:=zp9 ma pb' dc2
    have b2:h.length≤(h++j1).length:=by rw [K08];omega
    rw [z4l b2] at ed'
    refine Y4 d' [some (maD st mk),.(r ((h++j1).length)),.(r c),some d'] (fn_h (ds:=[maD st mk,.ref (h++j1).length]) (ac_h (Z1 rfl) (ac_h (Z1 rfl) rfl)) rfl ed') rfl ?_
    have dc3:=dc2.set
    rw [z4l b2] at dc3
    refine z0s ⟨m - 1,K01 _,_,(h++j1).length,c,cs++[(k,y)],d',rfl,⟨_,rfl⟩,b2,hc,dc3,?_,pb',.snoc cu bn fs ct,λE s=>zI2 pb s (co E s) bn.ok ct,by rw [z5r pb ct];omega,dd'⟩
    rw [← z4l b2,K15 (by omega)]
    exact ec2
 obtain ⟨d,h',e,⟨j,rfl⟩,bl,cs,rfl,pb,dn,cu,co⟩:=key
 refine ⟨bl,cs,?_,pb,dn,cu,λx y hx hy=>⟨λe=>⟨_,z7h ma pb dn,hx,hy,e⟩,λ⟨E,s,e⟩=>co E s x y e⟩⟩
 show cln (runF 4 z1D [maD st mk]) h=_
 refine z0u e ?_
 simp only [J7,J5,K5z,K0j]
 exact ⟨z0V _,zq9 cu⟩
theorem z1I {bl0:Bl}{cs:List (Nat×D)}{bl:Bl}(c:Cuts st mk bl0 cs bl):∀{cs':List (Nat×D)}{bl':Bl},Cuts st mk bl0 cs' bl'->cs.length=cs'.length->cs=cs'/\bl=bl':=by
 induction c with
 | nil =>
  intro cs' bl' c' e
  cases c' with
  | nil=>exact ⟨rfl,rfl⟩
  | snoc c b f ct=>simp at e
 | snoc c b f ct ih =>
  intro cs' bl' c' e
  cases c' with
  | nil=>simp at e
  | snoc c2 b2 f2 ct2 =>
   simp at e
   obtain ⟨rfl,rfl⟩:=ih c2 e
   obtain ⟨rfl,rfl⟩:=zd2 f b ct f2 b2 ct2
   exact ⟨rfl,rfl⟩
theorem z5n {bl0:Bl}{cs:List (Nat×D)}{bl:Bl}(c:Cuts st mk bl0 cs bl):∀m,m<cs.length->∃bl1 k y,Cuts st mk bl0 (cs.take m) bl1/\Cuts st mk bl0 (cs.take (m+1)) (cutB bl1 k (bel st mk bl1 y))/\cs[m]?=some (k,y)/\ByN mk bl1 k y/\Cut bl1 k (bel st mk bl1 y):=by
 induction c with
 | nil=>intro m h;cases h
 | @snoc cs bl k y c b f ct ih =>
  intro m h
  rw [K08] at h
  by_cases e:m<cs.length
  ·obtain ⟨bl1,k1,y1,c1,c2,q⟩:=ih m e
   refine ⟨bl1,k1,y1,?_,?_,?_,q.2⟩
   ·rw [K3y (K23 e)];exact c1
   ·rw [K3y e];exact c2
   ·rw [K0s e];exact q.1
  ·have:m=cs.length:=by simp at h;omega
   subst this
   refine ⟨bl,k,y,?_,?_,by simp,b,ct⟩
   ·rw [K3y (K01 _),K1e]
    exact c
   ·rw [List.take_of_length_le (by simp)]
    exact .snoc c b f ct
theorem zz7 {n:Nat}{bl:Bl}(pb:PB n bl) (dn:Done st mk bl) {k:Nat}{y:D}(b:ByN mk bl k y) (c:Cut bl k (bel st mk bl y)):False:=by
 have hp:=pb.of_key c.hk
 refine dn _ hp y ?_ c
 exact b
theorem z9h {bl0:Bl}{n:Nat}(pb0:PB n bl0) {cs cs':List (Nat×D)}{bl bl':Bl}(c:Cuts st mk bl0 cs bl) (c':Cuts st mk bl0 cs' bl') (dn:Done st mk bl) (dn':Done st mk bl'):cs=cs'/\bl=bl':=by
 have lt:∀{cs cs':List (Nat×D)} {bl bl':Bl},Cuts st mk bl0 cs bl->Cuts st mk bl0 cs' bl'->Done st mk bl->¬ cs.length<cs'.length:=λ{cs cs' bl bl'} c c' dn h=>by
  obtain ⟨bl1,k,y,c1,_,_,b,ct⟩:=z5n c' _ h
  obtain ⟨_,rfl⟩:=z1I c c1 (by simp;omega)
  exact zz7 (c.len pb0).1 dn b ct
 have h1:=lt c c' dn
 have h2:=lt c' c dn'
 exact z1I c c' (by omega)
theorem z2q {n:Nat}:(rowB n bl).length=n:=by unfold rowB;simp
end
theorem z5g {a:Int}:z0q [.int a]=pure (.bl true):=by
 show cln (runF 1 z1f [.int a])=_
 rw [z0Q (d:=.bl true),z0n]
 show z1f [.(i a)]=_
 unfold z1f
 refine z4s _ ?_
 simp only [K3,z0C,Y2,eAnd,eIsi,eNot,eVar,z5b]
 rfl
theorem z96 {a n:Nat}(h:a≤n):z0m [.int a,.int 0,.int n]=pure (.bl true):=by
 have h1:(0:Int)≤a:=by omega
 have h3:(a:Int)≤n:=by omega
 show cln (runF 3 v8 [.int a,.int 0,.int n])=_
 rw [z0Q (d:=.bl true),z0n]
 show v8 [.(i a),.(i 0),.(i n)]=_
 unfold v8
 refine z4s _ ?_
 simp only [K7,K3,K07,K0g,K0u,z8,aNil,z0C,Y2,decide_eq_true h1,decide_eq_true h3,e3,eAnd,eFn,eVar,if_true,z5g,z8w]
theorem z7R {xs:List D}:z15 [.tup xs]=pure (.bl true):=by
 show cln (runF 1 z1K [.tup xs])=_
 rw [z0Q (d:=.bl true),z0n]
 show z1K [.(g xs)]=_
 unfold z1K
 refine z4s _ ?_
 simp only [K3,Y2,eIsi,eVar,z74]
 rfl
theorem z59 {xs:List D}{n:Nat}(h:xs.length=n):Y1 [.tup xs,.int n,.int n]=pure (.bl true):=by
 subst h
 show cln (runF 3 z0A [.tup xs,.int xs.length,.int xs.length])=_
 rw [z0Q (d:=.bl true),z0n]
 show z0A [.(g xs),.(i xs.length),.(i xs.length)]=_
 unfold z0A
 refine z4s _ ?_
 simp only [K7,K3,K07,K0g,K0u,z8,aNil,z0C,Y2,decide_eq_true (Int.le_refl _),e3,eAnd,Z6,eFn,eVar,if_true,z7R,z8w,z25]
theorem zP3 {st:List (List Nat)}{mk:List (List Str)}{row:List Nat}{x:Nat}(hx:x<st.length) (q:∀o∈nx st x,o<row.length) (lx:(nx st x).length≤1000) (hl:(led st row x).length<64):z2u [maD st mk,.tup (stD row),.int x]=pure (.tup (stD (led st row x))):=funext λh=>by
 show cln (runF 3 z2S [maD st mk,.tup (stD row),.int x]) h=_
 refine z0u (j:=[.lst (stD ((nx st x).map (rowAt row)))]) (z4t ?_) (by simp only [J7];exact z0V _)
 show W (z2S [some (maD st mk),.(g (stD row)),.(i x)]) h _
 unfold z2S
 have e1:Y3 [some 1,none] (z0o (e2 fIx (e2 fIx (eVar 0) (λ_=>pure (.int 0))) (eVar 2))) (gN 1) (λ_=>pure true) (e2 fIx (eVar 0) (eVar 1)) [some (maD st mk),.(g (stD row)),.(i x)] h=.ok (.ref h.length) (h++[.lst (stD ((nx st x).map (rowAt row)))]):=by
  refine (z0B (src:=.con (stD (nx st x))) (l:=nx st x) (λ_=>true) (λt=>.int (rowAt row t)) (z0M ?_) rfl (λ_=>trivial) (by omega) λt ht=>⟨[.(g (stD row)),.(i t)],λh=>rfl,λj=>rfl,λ_ j=>?_⟩).trans ?_
  ·have:e2 fIx (e2 fIx (eVar 0) (λ_=>pure (.int 0))) (eVar 2) [some (maD st mk),.(g (stD row)),.(i x)]=pure (.tup (stD (nx st x))):=by simp only [K7,K3,Y2,e2,eVar,z1M,z4C hx]
   rw [this];rfl
  ·have:e2 fIx (eVar 0) (eVar 1) [.(g (stD row)),.(i t)]=pure (.int (rowAt row t)):=by simp only [K7,K3,Y2,e2,eVar,ix_tup (z56 (q t ht))];rfl
   rw [this];rfl
  ·rw [filter_tt]
   unfold stD
   rw [K0o]
   rfl
 exact z07 _ (fn_h (ac_h e1 rfl) rfl (zk6 (l:=(nx st x).map (rowAt row)) (by simp) (by simp;omega) hl)) ⟨rfl,rfl⟩
theorem take_snoc {row:List Nat}{c v:Nat}(h:row[c]?=some v) (u:Nat):u∈row.take (c+1)↔u∈row.take c∨u=v:=by
 rw [K4h,h]
 simp
def z8d (st:List (List Nat)) (mk:List (List Str)) (row:List Nat) (x:Nat):D:=.tup [.tup ((mkAt mk x).map .str),.tup (stD (led st row x))]
theorem zl5 {row:List Nat}(c:Canon row) {i v:Nat}(h:row[i]?=some v):v≤i:=by
 have:=(K7l (n:=v)).length_le_of_subset (l₂:=row.take i) (λu hu=>c i v h u (by simpa using hu))
 simp at this
 omega
structure MR (st:List (List Nat)) (mk:List (List Str)) (row:List Nat):Prop where
 q:SQ st
 rs:∀l∈st,l.Pairwise (·<·)
 lm:mk.length=st.length
 s:Steady st mk row
section
variable {st:List (List Nat)}{mk:List (List Str)}{row:List Nat}
theorem MR.nxl (m:MR st mk row) {x:Nat}(hx:x<st.length):(nx st x).length≤40 :=
 K0m (z2N (m.rs _ (K03 (z7g hx))) λy hy=>z4o m.q hy) m.q.l2
theorem MR.ledl (m:MR st mk row) {x:Nat}:(led st row x).length≤40:=by
 refine K0m (z7Y (n:=row.length) λu hu=>?_) (by rw [m.s.len];exact m.q.l2)
 obtain ⟨o,ho,rfl⟩:=K04.mp hu
 have ol:o<row.length:=by rw [m.s.len];exact z4o m.q ho
 have:=zl5 m.s.can (z1G ol)
 omega
theorem MR.led (m:MR st mk row) {x:Nat}(hx:x<st.length):z2u [maD st mk,.tup (stD row),.int x]=pure (.tup (stD (led st row x))):=by
 have:=m.nxl hx
 have:=m.ledl (x:=x)
 exact zP3 hx (λo ho=>by rw [m.s.len];exact z4o m.q ho) (by omega) (by omega)
theorem z8R {f:Nat->D}{n c:Nat}(h:c<n):atI ((K8 n).map f) (c:Int)=some (f c):=z3m (by rw [K0e,K1p h];rfl)
theorem zi7 (m:MR st mk row):z1W [maD st mk,.tup (stD row)]=pure (.bl true):=by
 have l2:=m.q.l2
 have s:=m.s
 have sl:=s.len
 have lm:=m.lm
 refine zJ6 rfl λh=>?_
 refine z29 ?_
 show W (z1X [some (maD st mk),.(g (stD row)),none,none,none,none,none]) h _
 unfold z1X
 refine z4Y (.int st.length) _ (by simp only [K3,z8,aNil,Y2,e2,Z6,eVar,z1M,z25,z1Z]) rfl ?_
 refine q_if false (by simp only [K79,K7,K3,K07,K0g,K0c,K0a,K0u,z8,aNil,Y2,cNot,cVal,eFn,eVar,if_true,z59 (xs:=stD row) (n:=st.length) (by rw [j6];exact sl),z54]) ?_
 rw [if_neg (by decide)]
 refine z0x ?_
 refine z8j (xs:=stD []) (by simp [stD]) (λh=>rfl) ?_
 refine z2w (λγ h'=>∃N a b,γ=[some (maD st mk),.(g (stD row)),.(i st.length),.(r h.length),a,b,none]/\h'=h++[.lst (stD ((K8 N).map λu=>row.idxOf u))]/\∀u,u∈row↔u<N) ?_ ?_
 ·refine z18 (λc γ h'=>∃N a b,γ=[some (maD st mk),.(g (stD row)),.(i st.length),.(r h.length),a,b,none]/\h'=h++[.lst (stD ((K8 N).map λu=>row.idxOf u))]/\∀u,u∈row.take c↔u<N) (λ_ _=>False) ?_
  refine W_eq (v:=.con (z1k (stD row))) (by unfold z87;simp only [K7,K3,K0c,K0a,z8,aNil,Y2,eVar]) ?_
  refine ⟨⟨0,none,none,rfl,rfl,by simp⟩,λ_ _ _ _=>trivial,?_,?_,λ_ _ q=>q.elim⟩
  ·rintro c d γ _ hd ⟨N,a,b,rfl,rfl,inv⟩
   obtain ⟨y,hy,rfl⟩:=z4Z hd
   obtain ⟨v,rfl,ev⟩:=z36 hy
   have hc:c<row.length:=(K5.mp ev).1
   refine W_eq (v:=[some (maD st mk),.(g (stD row)),.(i st.length),.(r h.length),.(i c),.(i v),none]) rfl ?_
   have vN:v≤N:=by
    by_cases z:N<v
    ·have:=(inv N).mp (s.can c v ev N z);omega
    ·omega
   have ll:(stD ((K8 N).map λu=>row.idxOf u)).length=N:=by rw [j6];simp
   refine z10 false (cn_h (b:=true) (cv_h (fn_h (ds:=[.int v,.int 0,.int N]) (ac_h (Z1 rfl) (ac_h (d:=.int 0) rfl (ac_h (y4 (Z1 rfl) (by rw [z41 J2,ll])) rfl))) rfl (by rw [z96 vN];rfl)))) ?_
   rw [if_neg (by decide)]
   refine z0x ?_
   refine z10 (decide (v=N)) ?_ ?_
   ·refine cb_h (e2_h (Z1 rfl) (y4 (Z1 rfl) (z41 J2)) ?_)
    rw [ll,z3b (z1z v N)]
    simp
   by_cases e:v=N
   ·subst e
    rw [decide_eq_true rfl,if_pos rfl]
    refine z6K ?_
    have vi:=zl5 s.can ev
    refine z3N (a:=3) rfl J2 (by rw [ll];omega) (Z1 rfl) ?_
    rw [z2C,z3o]
    have nin:v∉row.take c:=λz=>by have:=(inv v).mp z;omega
    have ic:row.idxOf v=c:=by
     have a1:=zo8 ev
     have mv:v∈row:=K03 ev
     by_cases z:row.idxOf v=c
     ·exact z
     ·refine absurd (K03 (l:=row.take c) (i:=row.idxOf v) (a:=v) ?_) nin
      rw [K2m,if_pos (by omega),z6N mv]
    refine z0x (z0s ⟨v+1,_,_,rfl,?_,λu=>?_⟩)
    ·rw [K88,K3d]
     simp [ic]
    ·rw [take_snoc ev,inv];omega
   ·rw [decide_eq_false e,if_neg (by decide)]
    refine z0x (z0s ⟨N,_,_,rfl,rfl,λu=>?_⟩)
    rw [take_snoc ev,inv];omega
  ·rintro γ h2 ⟨N,a,b,rfl,rfl,inv⟩
   rw [show (Src.con (z1k (stD row))).items.length=row.length by simp [Src.items,z1k,stD],K1e] at inv
   exact ⟨N,a,b,rfl,rfl,inv⟩
 rintro γ _ ⟨N,a,b,rfl,rfl,inv⟩
 refine Y4 (.ref (h.length+1)) _ (h1:=h++[.lst (stD ((K8 N).map λu=>row.idxOf u)),.lst ((K8 st.length).map (z8d st mk row))]) ?_ rfl ?_
 ·refine (z0B (l:=K8 st.length) (λ_=>true) (z8d st mk row) (z2Q (Z1 rfl) (by omega)) rfl (λ_=>trivial) (by simp;omega) λx hx=>⟨[some (maD st mk),.(g (stD row)),.(i x)],λh=>rfl,λj=>rfl,λ_ j=>?_⟩).trans ?_
  ·have hx:x<st.length:=by simpa using hx
   have:eTup (z8 (e2 fIx (e2 fIx (eVar 0) (λ_=>pure (.int 1))) (eVar 2)) (z8 (eFn 3 z2u (z8 (eVar 0) (z8 (eVar 1) (z8 (eVar 2) aNil)))) aNil)) [some (maD st mk),.(g (stD row)),.(i x)]=pure (z8d st mk row x):=by
    simp only [K7,K3,K07,K0g,K0u,z8,aNil,Y2,e2,eFn,eTup,eVar,if_true,z3z,ix_tup (z6z (show x<mk.length by omega)),m.led hx,zU5]
    rfl
   rw [this];rfl
  ·rw [filter_tt,K02]
   simp
 refine z07 (.bl (((z1k (stD row)).map λ_=>true).all id)) (zP5 ?_) ?_
 ·refine (z1C (src:=.con (z1k (stD row))) (λ_=>true) (λ_=>.bl true) ?_ (λ_=>trivial) ?_ λd hd=>?_).trans ?_
  ·have:z87 (eVar 1) [some (maD st mk),.(g (stD row)),.(i st.length),.(r h.length),a,b,.(r (h.length+1))]=pure (.con (z1k (stD row))):=by unfold z87;simp only [K7,K3,z8,aNil,Y2,eVar]
   exact congrFun this _
  ·simp [Src.items,z1k,stD];omega
  ·obtain ⟨c,hc,ec⟩:=K2y hd
   obtain ⟨y,hy,rfl⟩:=z4Z (show (z1k (stD row))[c]?=some d by rw [← ec];exact K4 hc)
   obtain ⟨v,rfl,ev⟩:=z36 hy
   have hcl:c<row.length:=(K5.mp ev).1
   have vN:v<N:=(inv v).mp (K03 ev)
   have ir:row.idxOf v<row.length:=K14.mpr (K03 ev)
   have lk:=s.like c hcl
   rw [z1U ev] at lk
   refine ⟨[.(r (h.length+1)),.(r h.length),.(i c),.(i v)],λh=>rfl,λj=>rfl,λ_ j=>?_⟩
   have hL:∀j:AH,(h++[O.lst (stD ((K8 N).map λu=>row.idxOf u)),O.lst ((K8 st.length).map (z8d st mk row))]++j)[h.length+1]?=.(l (((K8 st.length).map (z8d st mk row)))):=λj=>by simp
   have hF:∀j:AH,(h++[O.lst (stD ((K8 N).map λu=>row.idxOf u)),O.lst ((K8 st.length).map (z8d st mk row))]++j)[h.length]?=.(l ((stD ((K8 N).map λu=>row.idxOf u)))):=λj=>by simp
   refine e2_h (e2_h (Z1 rfl) (Z1 rfl) (ix_h (hL j) (z8R (by omega)))) (e2_h (Z1 rfl) (e2_h (Z1 rfl) (Z1 rfl) (ix_h (d:=.int (row.idxOf v:Nat)) (hF j) ?_)) (ix_h (hL j) (z8R (by omega)))) ?_
   ·unfold stD
    rw [K0o]
    exact z8R (f:=(λ(i:Nat)=>D.int i) ∘ λu=>row.idxOf u) vN
   ·refine (z3b (zv5 (n:=21) (mkAt mk c) (mkAt mk (row.idxOf v)) (led st row c) (led st row (row.idxOf v)))).trans ?_
    rw [decide_eq_true lk.1,decide_eq_true lk.2]
    rfl
  ·rw [filter_tt,K0o]
   rfl
 ·have:((z1k (stD row)).map λ_=>true).all id=true:=by simp
  rw [this]
  exact ⟨rfl,_,rfl⟩
end
theorem zJ9 (x:Str):z1c [.str x]=pure (.bl true):=by
 unfold z1c
 rw [z0Q,z0n]
 show z1J [.(s x)]=_
 unfold z1J
 simp only [K3,z9,bNil,Y2,eIsi,eVar,z9G,sRet]
 rfl
theorem zJ2 {c:Nat}(h1:97≤c) (h2:c≤122):e3 fLe fLe (λ_=>pure (.str "a")) (eVar 0) (λ_=>pure (.str "z")) [.(s (⟨#[c]⟩))]=pure (.bl true):=funext λh=>by
 have q1:("a":Str).cps.toList=[97]:=by decide +kernel
 have q2:("z":Str).cps.toList=[122]:=by decide +kernel
 have r1:¬ ([c]<[97]):=by
  rw [K8j]
  simp;omega
 have r2:¬ ([122]<[c]):=by
  rw [K8j]
  simp;omega
 simp only [e3,eVar,K3,fLe,asB,bindM,pureM,iteM,q1,q2,decide_eq_false r1,decide_eq_false r2,K4i,if_true]
theorem zD6 {x:Str}(g:z5m x):z1j [.str x]=pure (.bl true):=by
 obtain ⟨g1,g2,g3,g4⟩:=g
 unfold z1j
 rw [z0Q,z0n]
 show z1L [.(s x)]=_
 unfold z1L
 have e:=zy0 (γ:=[.(s x)]) (cap:=[none]) (mi:=iStr (eVar 0)) (g:=gN 0) (k:=λ_=>pure true) (me:=e3 fLe fLe (λ_=>pure (.str "a")) (eVar 0) (λ_=>pure (.str "z"))) (items:=z1N x) false (λ_=>true) (λ_=>true) rfl (by unfold z1N;rw [K00,← len_str];omega) λd hd=>?_
 ·refine (p_if false ?_).trans ?_
  ·have hl:fLen [.str x]=pure (.int (x.length:Nat)):=by
    unfold fLen
    simp only []
    rw [if_pos (K0m g2 (by decide))]
   simp only [K1f,K79,K3,K07,K0g,K0u,z8,aNil,z0C,Y2,cNot,cOr,cVal,decide_eq_true (show ((x.length:Nat):Int)≤8 by omega),decide_eq_true (show (1:Int)≤(x.length:Nat) by omega),e3,Z6,eFn,eVar,hl,if_false,if_true,z8w,show c_LONGEST=D.int 8 from rfl,zJ9,z54]
  rw [if_neg (by decide),zT9]
  refine z4s _ ?_
  rw [zE9,e,filter_tt,if_neg (by decide),K1o.mpr λ_ _=>rfl]
  have:c_KEPT=.tup ((["yes","no","not","and","or","step","some","all","next","once","ever","until","unless"]:List Str).map D.str):=rfl
  simp only [K3,Y2,e2,eVar]
  rw [this,z6Z,decide_eq_false g4]
  rfl
 ·unfold z1N at hd
  obtain ⟨c,hc,rfl⟩:=K04.mp hd
  obtain ⟨b1,b2⟩:=g3 c hc
  exact ⟨[.(s (⟨#[c]⟩))],rfl,rfl,λ_=>zJ2 b1 b2⟩
theorem zo2 {m:M D}{h:AH}{d:D}(c:J7 0 d=true) (z:W m h λv h'=>v=d/\∃j,h'=h++j):cln m h=.ok d h:=by
 obtain ⟨v,h',e,rfl,j,rfl⟩:=z
 exact z0u e (z2m (K3g _) c)
section
variable {st:List (List Nat)}{mk:List (List Str)}{row:List Nat}
theorem zm8 {γ:G}{h:AH}{a x:Nat}(m:MR st mk row) (hx:x<st.length) (e0:γ[0]?=some (some (maD st mk))) (e1:γ[1]?=some (.(g (stD row)))) (ea:γ[a]?=some (.(i (x:Nat)))) :
 Z6 x8 (z8 (Z6 z1h (z8 (Y3 [some 1,none] (z0o (e2 fIx (e2 fIx (eVar 0) (λ_=>pure (.int 0))) (eVar a))) (gN 1) (λ_=>pure true) (e2 fIx (eVar 0) (eVar 1))) aNil)) aNil) γ h=.ok (.ref (h.length+2)) (h++[.lst (stD ((nx st x).map (rowAt row))),.set (kN (dedN ((nx st x).map (rowAt row)))),.lst (stD (FT.led st row x))]):=by
 have nl:=m.nxl hx
 have ll:=m.ledl (x:=x)
 refine (ss_h (i:=h.length) (h1:=h++[.lst (stD ((nx st x).map (rowAt row)))]) (l:=(nx st x).map (rowAt row)) ?_ J2 (by simp;omega) (by show (FT.led st row x).length<64;omega)).trans ?_
 ·refine (z0B (src:=.con (stD (nx st x))) (l:=nx st x) (λ_=>true) (λt=>.int (rowAt row t)) (z0M ?_) rfl (λ_=>trivial) (by omega) λt ht=>⟨[.(g (stD row)),.(i t)],λh=>by simp only [capG,K0t,K3z,e1,K5v];rfl,λj=>rfl,λ_ j=>?_⟩).trans ?_
  ·exact e2_h (e2_h (Z1 e0) (y:=.int 0) rfl (by rw [z1M];rfl)) (Z1 ea) (by rw [z4C hx];rfl)
  ·exact e2_h (Z1 rfl) (Z1 rfl) (by rw [ix_tup (z56 (by rw [m.s.len];exact z4o m.q ht))];rfl)
  ·rw [filter_tt]
   unfold stD
   rw [K0o]
   rfl
 ·simp [FT.led]
theorem zT6 {γ:G}{h:AH}{ma mb:G->M D}{a b:Nat}(e1:ma γ h=.ok (.int (a:Nat)) h) (e2':mb γ h=.ok (.int (b:Nat)) h):Z6 zb3 (z8 ma (z8 mb aNil)) γ h=.ok (.int ((max a b:Nat):Int)) h:=by
 have e3':z8 ma (z8 mb aNil) γ h=.ok [.int (a:Nat),.int (b:Nat)] h:=ac_h e1 (ac_h e2' rfl)
 unfold Z6
 rw [M.bind_ok e3']
 show Res.ok (D.int (max (a:Int) (b:Int))) h=_
 congr 2
 omega
theorem zp0 {γ:G}{h:AH}{ma:G->M D}{a:Nat}(e1:ma γ h=.ok (.int (a:Nat)) h):e2 fAdd ma (λ_=>pure (.int 1)) γ h=.ok (.int ((a+1:Nat):Int)) h:=e2_h e1 rfl (by rw [z4E];rfl)
theorem zs8 {N v c:Nat}(cr:Canon row) (hc:row[c]?=some v) (inv:∀u,u∈row.take c↔u<N):v≤N:=by
 by_cases h:v≤N
 ·exact h
 ·have:=(inv N).mp (cr c v hc N (by omega))
  omega
theorem z9H {h:AH}(m:MR st mk row):z12 [maD st mk,.tup (stD row)] h=.ok (.bl true) h:=by
 have l2:=m.q.l2
 have sl:=m.s.len
 refine zo2 rfl (z29 ?_)
 show W (z14 [some (maD st mk),.(g (stD row)),none,none,none,none,none]) h _
 unfold z14
 refine z4Y (.int st.length) [some (maD st mk),.(g (stD row)),.(i st.length),none,none,none,none] (by simp only [K3,z8,aNil,Y2,e2,Z6,eVar,z1M,z25,z1Z]) rfl ?_
 refine z10 (!true) (cn_h (cv_h (fn_h (ds:=[.tup (stD row),.int st.length,.int st.length]) (ac_h (Z1 rfl) (ac_h (Z1 rfl) (ac_h (Z1 rfl) rfl))) rfl (by rw [z6A (by rw [j6];omega) (by rw [j6];omega)];rfl)))) ?_
 rw [if_neg (by decide)]
 refine z0x (z4Y (.int (0:Nat)) [some (maD st mk),.(g (stD row)),.(i st.length),.(i (0:Nat)),none,none,none] rfl rfl ?_)
 refine z2w (λγ h'=>∃N a,(∀u,u∈row↔u<N)/\γ=[some (maD st mk),.(g (stD row)),.(i st.length),.(i (N:Nat)),a,none,none]/\h=h') ?_ ?_
 ·refine z18 (λc γ h'=>∃N a,(∀u,u∈row.take c↔u<N)/\γ=[some (maD st mk),.(g (stD row)),.(i st.length),.(i (N:Nat)),a,none,none]/\h=h') (λd h'=>False) ?_
  refine W_of (v:=.con (stD row)) (z0M (Z1 rfl)) ?_
  refine ⟨⟨0,none,by simp,rfl,rfl⟩,λ_ _ _ _=>trivial,?_,?_,λ_ _ q=>q.elim⟩
  ·rintro c y γ _ hy ⟨N,a,inv,rfl,rfl⟩
   obtain ⟨v,rfl,ev⟩:=z36 (show (stD row)[c]?=some y from hy)
   have vN:=zs8 m.s.can ev inv
   refine W_eq (v:=[some (maD st mk),.(g (stD row)),.(i st.length),.(i (N:Nat)),.(i (v:Nat)),none,none]) rfl ?_
   refine z10 (!true) (cn_h (cv_h (fn_h (ds:=[.int (v:Nat),.int 0,.int (N+1:Nat)]) (ac_h (Z1 rfl) (ac_h (d:=.int 0) rfl (ac_h (zp0 (Z1 rfl)) rfl))) rfl (by rw [z5u (by omega)];rfl)))) ?_
   rw [if_neg (by decide)]
   refine z0x (Y4 (.int ((max N (v+1):Nat):Int)) [some (maD st mk),.(g (stD row)),.(i st.length),.(i (((max N (v+1):Nat):Int))),.(i (v:Nat)),none,none] (zT6 (Z1 rfl) (zp0 (Z1 rfl))) rfl ?_)
   refine z0s ⟨max N (v+1),_,λu=>?_,rfl,rfl⟩
   rw [take_snoc ev,inv]
   omega
  ·rintro γ h2 ⟨N,a,inv,rfl,rfl⟩
   rw [show (Src.con (stD row)).items.length=row.length by show (stD row).length=_;rw [j6],K1e] at inv
   exact ⟨N,a,inv,rfl,rfl⟩
 rintro γ _ ⟨N,a,inv,rfl,rfl⟩
 rw [w_cons]
 refine v7 (λc γ h'=>∃a b e,γ=[some (maD st mk),.(g (stD row)),.(i st.length),.(i (N:Nat)),a,b,e]/\∃j,h'=h++j) (λ_ _=>False) ?_
 refine W_of (v:=.int st.length) (Z1 rfl) ⟨st.length,rfl,by omega,⟨_,_,_,rfl,⟨[],by simp⟩⟩,?_,?_,λ_ _ q=>q.elim⟩
 ·rintro c _ _ hc ⟨a,b,e,rfl,⟨j,rfl⟩⟩
  have cm:=z27 (show c<row.length by omega)
  obtain ⟨f,hf⟩:∃f,f=row.idxOf (rowAt row c):=⟨_,rfl⟩
  have fl:f<st.length:=by rw [hf,← sl];exact K14.mpr cm
  have lk:=m.s.like c (by omega)
  rw [← hf] at lk
  show W (z9 _ _ [some (maD st mk),.(g (stD row)),.(i st.length),.(i (N:Nat)),.(i (c:Nat)),b,e]) _ _
  refine z4Y (.int (f:Nat)) [some (maD st mk),.(g (stD row)),.(i st.length),.(i (N:Nat)),.(i (c:Nat)),.(i (f:Nat)),e] ?_ rfl ?_
  ·rw [hf]
   refine zO0 rfl ?_ cm (by omega)
   simp only [K7,K3,Y2,e2,eVar,ix_tup (z56 (l:=row) (c:=c) (by omega))]
   rfl
  have e1:fEqX true (.tup ((mkAt mk c).map .str)) (.tup ((mkAt mk f).map .str)) (h++j)=.ok (.bl (decide (mkAt mk c=mkAt mk f) != true)) (h++j):=z3b (z3l z5w _ _)
  have mi:∀{x:Nat},x<st.length->atI (mksD mk) (x:Int)=.(g (((mkAt mk x).map .str))):=λ{x} hx=>z6z (by rw [m.lm];exact hx)
  refine z10 (decide (mkAt mk c=mkAt mk f) != true) (cb_h (e2_h (e2_h (e2_h (Z1 rfl) (y:=.int 1) rfl (by rw [z3z];rfl)) (Z1 rfl) (by rw [ix_tup (mi (show c<st.length by omega))];rfl)) (e2_h (e2_h (Z1 rfl) (y:=.int 1) rfl (by rw [z3z];rfl)) (Z1 rfl) (by rw [ix_tup (mi fl)];rfl)) e1)) ?_
  rw [decide_eq_true lk.1,if_neg (by decide)]
  refine z0x (Y4 (.ref ((h++j).length+2)) [some (maD st mk),.(g (stD row)),.(i st.length),.(i (N:Nat)),.(i (c:Nat)),.(i (f:Nat)),.(r (((h++j).length+2)))] (zm8 m (by omega) rfl rfl rfl) rfl ?_)
  obtain ⟨H,hH⟩:∃H,H=h++j++[.lst (stD ((nx st c).map (rowAt row))),.set (kN (dedN ((nx st c).map (rowAt row)))),.lst (stD (FT.led st row c))]:=⟨_,rfl⟩
  rw [← hH]
  have g1:H[(h++j).length+2]?=.(l ((stD (FT.led st row c)))):=by rw [hH];exact at_E (l:=[_,_,_])
  refine z10 (decide (FT.led st row c=FT.led st row f) != true) ?_ ?_
  ·exact zn5 (cb_h (e2_h (Z1 rfl) (zm8 (a:=5) (h:=H) m fl rfl rfl rfl) (zr2 (x5 g1) (at_E (l:=[_,_,_])))))
  rw [decide_eq_true lk.2,if_neg (by decide)]
  exact z0x (z0s ⟨_,_,_,rfl,⟨j++_,by rw [hH,K02]⟩⟩)
 ·rintro _ _ ⟨a,b,e,rfl,ej⟩
  exact z07 (.bl true) rfl ⟨rfl,ej⟩
def numL (l:List Nat):List Nat:=l.map λx=>(setN l).idxOf x
theorem z4L {h:AH}{i:Nat}{l:List Nat}(e:h[i]?=.(l (stD l))) (hl:l.length≤1000) (hd:(setN l).length<64):Y9 [.ref i] h=.ok (.tup (stD (numL l))) h:=by
 have il:=(K5.mp e).1
 show cln (runF 2 z0d [.ref i]) h=_
 refine z0u (j:=[.set (kN (dedN l)),.lst (stD (setN l))]) (z4t ?_) (by simp only [J7];exact z0V _)
 show W (z0d [.(r i),none]) h _
 unfold z0d
 refine Y4 (.ref (h.length+1)) [.(r i),.(r (h.length+1))] (ss_h (Z1 rfl) e (by omega) hd) rfl ?_
 have e':∀j:AH,(h++j)[i]?=.(l (stD l)):=λj=>by rw [K0s il];exact e
 have g:∀j:AH,(h++[O.set (kN (dedN l)),O.lst (stD (setN l))]++j)[h.length+1]?=.(l ((stD (setN l)))):=λj=>by simp
 refine z07 (.tup (stD (numL l))) (z4U ?_ (z0V _)) ⟨rfl,rfl⟩
 refine (z0B (l:=l) (λ_=>true) (λx=>.int ((setN l).idxOf x:Nat)) (z48 (Z1 rfl) (e' _)) rfl (λj=>by show (_++j)[i]?=_;rw [K02];exact e' _) (by omega) λx hx=>⟨[.(r (h.length+1)),.(i x)],λh=>rfl,λj=>rfl,λ_ j=>?_⟩).trans ?_
 ·exact zO2 (Z1 rfl) (g j) (Z1 rfl) (by rw [z1r];exact hx) (by omega)
 ·rw [filter_tt]
  unfold numL stD
  rw [K0o]
  rfl
end
theorem zD1 {ns ss:List Str}(hn:NS ns) (hl:ns.length≤8) (s:ss.Sublist ns):MK (z1F ss) :=
 ⟨by rw [z4b];exact K0m s.length_le hl,λx hx=>hn.2 _ (s.subset (sortS_mem.mp hx)),z8D (s.nodup hn.1)⟩
theorem z8v {γ:G}{h:AH}{k:Int}{r:AH}{m:Nat}{dn:Int}(p:PS h k r) (hk:k<900000) (hm:m≤40) (e0:γ[0]?=some (.(r 2))) (e3:γ[3]?=some (.(i m))) (e4:γ[4]?=some (.(i dn))) {Q:D->AH->Prop}(z:∀l h',l.Pairwise (·<·)->(∀x∈l,x<m)->PS h' (k+m) r->Q (.tup (stD l)) h') :
 W (clE (Z6 x4 (z8 (Y3 [some 0,some 4,none] (z0g (eVar 3)) (gN 2) (λγ=>do let d ← e2 fLt (eFn 2 Z4 (z8 (eVar 0) (z8 (λ_=>pure (.int 6)) aNil))) (eVar 1) γ;asB d) (eVar 2)) aNil)) γ) h Q:=by
 refine zB8 p trivial ?_
 simp only [Z7,W_pure,z8,aNil,e2,Z6,eFn,eVar]
 refine zb9 (r:=r) (l:=[]) (λc xs k'=>∃l:List Nat,xs=stD l/\l.Pairwise (·<·)/\(∀x∈l,x<c)/\l.length≤c/\k'=k+c) ?_
 refine W.of (z2Q (n:=m) (by dsimp only [eVar];rw [e3];rfl) (by omega)) ?_
 refine ⟨_,by simpa using p,⟨[],rfl,by simp,by simp,by simp,by simp⟩,λ_ _ _ _=>trivial,?_,?_⟩
 ·rintro c d h6 k6 xs hd ⟨l,rfl,l1,l2,l3,rfl⟩ p6
  obtain ⟨rfl,hc⟩:=z5W hd
  simp only [capG,K0t,K3z,e0,e4,K5v,K7j]
  simp only [K7,K3,K07,K0g,K0c,K0a,K0u,z1A,Z7,z1m,W_pure,eVar,gN,if_true]
  refine z0Y p6 (by omega) (by decide) (by decide) λt h7 t0 t1 p7=>?_
  simp only [W_pure,z0C,z8p]
  by_cases q:t<dn
  ·rw [decide_eq_true q]
   simp only [if_true]
   refine ⟨_,p7,by rw [j6];omega,l++[c],(z3o _ _),?_,?_,by simp;omega,by omega⟩
   ·rw [K8t]
    exact ⟨l1,by simp,λa ha b hb=>by simp at hb;subst hb;exact l2 a ha⟩
   ·intro x hx
    rcases K0w.mp hx with q|q
    ·have:=l2 x q;omega
    ·simp at q;omega
  ·rw [decide_eq_false q]
   simp only [K1f,if_false]
   exact ⟨_,p7,l,rfl,l1,λx hx=>by have:=l2 x hx;omega,by omega,by omega⟩
 rintro h6 xs k6 ⟨l,rfl,l1,l2,l3,rfl⟩ p6
 rw [show (Src.con (z0H m)).items.length=m by simp [Src.items,z0H]] at l2 p6
 exact z7E (i:=0) p6 rfl ⟨_,_,p6,z4O l,λh7 p7=>z l h7 l1 l2 p7⟩
theorem z8i {γ:G}{h:AH}{k:Int}{r:AH}{i:Nat}{ns:List Str}(p:PS h k r) (hk:k<900000) (e:r[i]?=.(l (ns.map .str))) (hn:ns.length≤8) (hg:NS ns) (e0:γ[0]?=some (.(r 2))) (e1:γ[1]?=some (.(r (i+3)))) {Q:D->AH->Prop}(z:∀ss h',MK ss->PS h' (k+ns.length) r->Q (.tup (ss.map .str)) h') :
 W (clE (Z6 x4 (z8 (Z6 z1B (z8 (Y3 [some 0,none] (z0h (eVar 1)) (gN 1) (λγ=>do let d ← e2 (fEq false) (eFn 2 Z4 (z8 (eVar 0) (z8 (λ_=>pure (.int 2)) aNil))) (λ_=>pure (.int 1)) γ;asB d) (eVar 1)) aNil)) aNil)) γ) h Q:=by
 refine zB8 p trivial ?_
 simp only [Z7,W_pure,z8,aNil,e2,Z6,eFn,eVar]
 refine zb9 (r:=r) (l:=[]) (λc xs k'=>∃ss:List Str,xs=ss.map .str/\ss.Sublist (ns.take c)/\k'=k+c) ?_
 have sr:z0h (eVar 1) γ h=.ok (.lst (i+3) (ns.map .str)) h:=by
  have g:getL (i+3) h=.ok (ns.map .str) h:=by unfold getL;rw [p.get,e]
  unfold z0h eVar
  rw [e1]
  show (getL (i+3) >>= λxs=>pure (Src.lst (i+3) xs)) h=_
  rw [M.bind_ok g]
  rfl
 refine W.of sr ?_
 refine ⟨_,by simpa using p,⟨[],rfl,by simp,by simp⟩,λh' k' xs' ph=>?_,?_,?_⟩
 ·show h'[i+3]?=_
  rw [ph.get,x5 e]
 ·rintro c d h9 k9 xs' hd ⟨ss,rfl,ls,rfl⟩ p9
  have hd':(ns.map D.str)[c]?=some d:=hd
  rw [K0e] at hd'
  obtain ⟨y,ey,rfl⟩:=K10.mp hd'
  obtain ⟨lc,ey'⟩:=K5.mp ey
  have tk:ns.take (c+1)=ns.take c++[y]:=by rw [← ey',K3m lc]
  have l8:ss.length≤8:=K0m ls.length_le (by rw [K26];omega)
  simp only [capG,K0t,K3z,e0,e1,K5v,K7j]
  simp only [K7,K3,K07,K0g,K0c,K0a,K0u,z1A,Z7,z1m,W_pure,eVar,gN,if_true]
  refine z0Y p9 (by omega) (by decide) (by decide) λt h10 t0 t1 p10=>?_
  simp only [W_pure,z0C,z8q]
  by_cases q:t=1
  ·rw [decide_eq_true q]
   simp only [K4i,Bool.true_bne,if_true]
   exact ⟨_,p10,by simp;omega,ss++[y],by simp,by rw [tk];exact ls.append (K6x _),by omega⟩
  ·rw [decide_eq_false q]
   simp only [Z0o,K1f,if_false]
   exact ⟨_,p10,ss,rfl,by rw [tk];exact ls.trans (K4x _ _),by omega⟩
 rintro h9 xs' k9 ⟨ss,rfl,ls,rfl⟩ p9
 rw [show (Src.lst (i+3) (ns.map D.str)).items.length=ns.length by simp [Src.items]] at ls p9
 rw [K1e] at ls
 have l8:ss.length≤8:=K0m ls.length_le hn
 refine W_of (zt9 (ss:=ss) (h:=h9) (by rw [p9.get,show r.length+([]:AH).length=r.length+0 from rfl,at_E];rfl) (by omega)) ?_
 have p11:=p9.app [.lst ((z1F ss).map .str)]
 rw [K02] at p11
 rw [show h9.length=r.length+1+3 by rw [p9.len];simp]
 exact z7E (i:=1) p11 rfl ⟨_,_,p11,by simp only [J7];exact z2b _,λh12 p12=>z (z1F ss) h12 (zD1 hg hn ls) p12⟩
theorem z6v {h:AH}{k:Int}{r:AH}{i most:Nat}{ns:List Str}(p:PS h k r) (hk:k<700000) (hm0:1≤most) (hm:most≤40) (e:r[i]?=.(l (ns.map .str))) (hn:ns.length≤8) (hg:NS ns) {Q:D->AH->Prop}(z:∀st mk h',MA st mk->st.length≤most->PS h' (k+2000) r->Q (maD st mk) h') :
 W (z01 [.ref 2,.ref (i+3),.int most]) h Q:=by
 refine zB9 p trivial ?_
 refine z29 ?_
 show W (z0K [.(r 2),.(r (i+3)),.(i most),none,none,none,none,none]) h _
 unfold z0K
 refine z1q (λd h1=>∃m:Nat,1≤m/\m≤most/\d=.int m/\PS h1 (k+1) r) ?_ ?_
 ·simp only [K7,K3,K07,K0g,K0u,z1A,Z7,z1m,W_pure,z8,aNil,e2,eFn,eVar,if_true]
  refine z0Y p (by omega) (by omega) (by omega) λd h1 d0 d1 p1=>?_
  rw [z4E,W_pure]
  exact ⟨(1+d).toNat,by omega,by omega,by rw [K66 (by omega)],p1⟩
 rintro _ h1 ⟨m,m1,m2,rfl,p1⟩
 refine z1q (λd h1=>∃t:Int,d=.int t/\PS h1 (k+2) r) ?_ ?_
 ·simp only [K3,K07,K0g,K0c,K0a,K0u,z1A,Z7,z1m,W_pure,z8,aNil,e2,eFn,eVar,if_true]
  refine z0Y p1 (by omega) (by decide) (by decide) λd h1 d0 d1 p1=>?_
  rw [z4E,W_pure]
  exact ⟨_,rfl,p1.up (by omega)⟩
 rintro _ h3 ⟨dn,rfl,p3⟩
 refine z1q (λd h1=>d=.ref (r.length+3)/\PS h1 (k+2) (r++[.lst (stsD [])])) ?_ ?_
 ·simp only [Z7,W_pure,aNil,eLst]
  exact z2B p3 (by decide) λh4 p4=>⟨rfl,p4⟩
 rintro _ h4 ⟨rfl,p4⟩
 refine z1q (λd h1=>d=.ref (r.length+1+3)/\PS h1 (k+2) (r++[.lst (stsD []),.lst (mksD [])])) ?_ ?_
 ·simp only [Z7,W_pure,aNil,eLst]
  exact z2B p4 (by decide) λh5 p5=>⟨by simp,by rw [K02] at p5;exact p5⟩
 rintro _ h5 ⟨rfl,p5⟩
 refine z2w (λγ h=>∃st mk w,γ=[.(r 2),.(r (i+3)),.(i most),.(i m),.(i dn),.(r (r.length+0+3)),.(r (r.length+1+3)),w]/\PS h (k+2000) (r++[.lst (stsD st),.lst (mksD mk)])/\st.length=m/\mk.length=m/\AM st mk m) ?_ ?_
 ·refine v7 (λc γ h=>∃st mk w,γ=[.(r 2),.(r (i+3)),.(i most),.(i m),.(i dn),.(r (r.length+0+3)),.(r (r.length+1+3)),w]/\PS h (k+2+48 * c) (r++[.lst (stsD st),.lst (mksD mk)])/\st.length=c/\mk.length=c/\AM st mk m) (λ_ _=>False) ?_
  simp only [K7,K3,K0c,K0a,W_pure,z8,aNil,e2,eFn,eVar]
  refine ⟨m,rfl,by omega,⟨[],[],_,rfl,p5.up (by omega),rfl,rfl,by simp,by simp,by simp⟩,?_,?_,λ_ _ q=>q.elim⟩
  ·rintro c γ h6 hc ⟨st,mk,w,rfl,p6,l1,l2,am⟩
   refine z7j (i:=0) rfl p6 rfl (by simp [stsD];omega) (λv k'=>∃l:List Nat,v=.tup (stD l)/\l.Pairwise (·<·)/\(∀x∈l,x<m)/\k'=k+2+48 * c+m) ?_ ?_
   ·exact z8v p6 (by omega) (by omega) rfl rfl rfl λl h' q1 q2 p7=>⟨_,p7,l,rfl,q1,q2,rfl⟩
   rintro _ _ h7 ⟨l,rfl,q1,q2,rfl⟩ p7
   rw [K0a,show stsD st++[D.tup (stD l)]=stsD (st++[l]) by simp [stsD]] at p7
   refine z7j (i:=1) rfl p7 rfl (by simp [mksD];omega) (λv k'=>∃ss:List Str,v=.tup (ss.map .str)/\MK ss/\k'=k+2+48 * c+m+ns.length) ?_ ?_
   ·exact z8i p7 (by omega) (x5 e) hn hg rfl rfl λss h' q1 p8=>⟨_,p8,ss,rfl,q1,rfl⟩
   rintro _ _ h8 ⟨ss,rfl,q3,rfl⟩ p8
   rw [K0c,K0a,show mksD mk++[D.tup (ss.map .str)]=mksD (mk++[ss]) by simp [mksD]] at p8
   refine z0s ⟨_,_,_,rfl,p8.up (by omega),by simp [l1],by simp [l2],?_,?_,?_⟩
   ·intro l hl
    rcases K0w.mp hl with q|q
    ·exact am.1 l q
    ·simp at q;subst q;exact q1
   ·intro l hl
    rcases K0w.mp hl with q|q
    ·exact am.2.1 l q
    ·simp at q;subst q;exact q2
   ·intro l hl
    rcases K0w.mp hl with q|q
    ·exact am.2.2 l q
    ·simp at q;subst q;exact q3
  ·rintro γ h6 ⟨st,mk,w,rfl,p6,l1,l2,am⟩
   exact ⟨st,mk,w,rfl,p6.up (by omega),l1,l2,am⟩
 ·rintro γ h6 ⟨st,mk,w,rfl,p6,l1,l2,am⟩
  refine zK2 (λd h1=>d=maD st mk/\h1=h6) ?_ ?_
  ·simp only [K7,K3,K07,K0g,K0u,z1A,Z7,z1m,W_pure,z8,aNil,Z6,eTup,eVar]
   refine z7E (i:=0) p6 rfl ?_
   refine z7E (i:=1) p6 rfl ?_
   rw [if_pos (by decide)]
   exact ⟨rfl,rfl⟩
  rintro _ _ ⟨rfl,rfl⟩
  refine ⟨_,_,p6,?_,λh2 q2=>z st mk h2 ⟨by omega,by omega,by omega,am.1,by rw [l1];exact am.2.1,am.2.2⟩ (by omega) q2⟩
  unfold maD stsD mksD
  simp only [J7,J5,K5z,K0j]
  exact ⟨z03 λa=>z4O a,z03 λa=>by simp only [J7];exact z2b _⟩
structure RowC (raw:List Nat) (tos:List Nat) (A:List Nat):Prop where
 nd:A.Nodup
 lt:∀o∈A,o<raw.length
 a:∀o∈A,rowAt raw o∈tos
 b:∀t∈tos,∃o∈A,rowAt raw o=t
def z0y (raw:List Nat) (t:Nat):List Nat:=(K8 raw.length).filter λo=>decide (rowAt raw o=t)
theorem mates_mem {raw:List Nat}{t o:Nat}:o∈z0y raw t↔o<raw.length/\rowAt raw o=t:=by
 unfold z0y
 rw [K0h,K0r,decide_eq_true_eq]
theorem ze4 (raw:List Nat) (t:Nat):(z0y raw t).Nodup:=K2n _ K7l
theorem zc5 (raw:List Nat) (t:Nat):(z0y raw t).length≤raw.length:=by
 unfold z0y
 exact K0m (K1z _ _) (by simp)
theorem RowC.put {raw tos A B:List Nat}{t s:Nat}(c:RowC raw tos A) (nt:t∉tos) (sb:B.Sublist (z0y raw t)) (sm:s∈B):RowC raw (tos++[t]) (A++B) :=
 have bm:∀o∈B,o<raw.length/\rowAt raw o=t:=λo ho=>mates_mem.mp (sb.subset ho)
 ⟨by
  rw [K3h]
  refine ⟨c.nd,sb.nodup (ze4 raw t),λx hx y hy e=>?_⟩
  subst e
  have:=c.a x hx
  rw [(bm x hy).2] at this
  exact nt this,λo ho=>by
  rcases K0w.mp ho with q|q
  ·exact c.lt o q
  ·exact (bm o q).1,λo ho=>by
  rcases K0w.mp ho with q|q
  ·exact K2p _ (c.a o q)
  ·rw [(bm o q).2];simp,λu hu=>by
  rcases K0w.mp hu with q|q
  ·obtain ⟨o,ho,e⟩:=c.b u q
   exact ⟨o,K2p _ ho,e⟩
  ·simp at q
   subst q
   exact ⟨s,K12 _ sm,(bm s sm).2⟩⟩
theorem zO6 {γ:G}{h:AH}{k:Int}{r l:AH}{b:Nat}{M:List Nat}{s:Nat}(p:PS h k (r++l)) (hk:k<900000) (hM:M.length≤40) (e0:γ[0]?=some (.(r 2))) (e10:γ[10]?=some (.(r (b+3)))) (e11:γ[11]?=some (.(i s))) (eb:(r++l)[b]?=.(l (stD M))) {Q:D->AH->Prop}
 (z:∀B h',B.Sublist M->(s∈M->s∈B)->PS h' (k+M.length) (r++(l++[.lst (stD B)]))->Q (.ref (r.length+l.length+3)) h') :
 W (Y3 [some 11,some 0,none] (orE (z0o (eVar 10)) (z0h (eVar 10))) (gN 2) (cOr (λγ=>do let d ← e2 (fEqX false) (eVar 2) (eVar 0) γ;asB d) (λγ=>do let d ← e2 (fEq false) (eFn 2 Z4 (z8 (eVar 1) (z8 (λ_=>pure (.int 3)) aNil))) (λ_=>pure (.int 0)) γ;asB d)) (eVar 2) γ) h Q:=by
 refine zb9 (r:=r) (l:=l) (λc xs k'=>∃B:List Nat,xs=stD B/\B.Sublist (M.take c)/\(s∈M.take c->s∈B)/\k'=k+c) ?_
 refine W.of (zu3 (Z1 e10) (by rw [p.get];exact eb)) ?_
 refine ⟨_,p,⟨[],rfl,by simp,by simp,by simp⟩,λh' k' xs' ph=>?_,?_,?_⟩
 ·show h'[b+3]?=_
  rw [ph.get,← K02,x5 eb]
 ·rintro c d h9 k9 xs' hd ⟨B,rfl,sb,sm,rfl⟩ p9
  obtain ⟨y,rfl,ey⟩:=z36 (show (stD M)[c]?=some d from hd)
  obtain ⟨lc,ey'⟩:=K5.mp ey
  have tk:M.take (c+1)=M.take c++[y]:=by rw [← ey',K3m lc]
  have l8:B.length≤40:=K0m sb.length_le (by rw [K26];omega)
  simp only [capG,K0t,K3z,e0,e10,e11,K5v,K7j]
  have eq1:fEqX false (.int (y:Nat)) (.int (s:Nat))=pure (.bl (decide (y=s))):=funext λh=>by rw [z3b (z1z y s)];simp [pureM]
  simp only [K7,K3,K07,K0g,K0c,K0a,K0u,z1A,Z7,z1m,W_pure,z8,aNil,z0C,cOr,e2,eFn,eVar,eq1,gN,if_true]
  by_cases q:y=s
  ·rw [decide_eq_true q,if_pos rfl]
   refine ⟨_,p9.up (show _≤k+((c+1:Nat):Int) by omega),by rw [j6];omega,B++[y],z3o _ _,by rw [tk];exact sb.append (K6x _),λ_=>?_,rfl⟩
   simp [q]
  ·rw [decide_eq_false q,if_neg (by decide)]
   refine z0Y p9 (by omega) (by decide) (by decide) λt h10 t0 t1 p10=>?_
   simp only [W_pure,z0C,z8q]
   by_cases q2:t=0
   ·rw [decide_eq_true q2]
    simp only [K4i,Bool.true_bne,if_true]
    refine ⟨_,p10,by rw [j6];omega,B++[y],z3o _ _,by rw [tk];exact sb.append (K6x _),λz=>?_,by omega⟩
    rw [tk] at z
    rcases K0w.mp z with q3|q3
    ·exact K2p _ (sm q3)
    ·simp at q3;exact absurd q3.symm q
   ·rw [decide_eq_false q2]
    simp only [Z0o,K1f,if_false]
    refine ⟨_,p10,B,rfl,by rw [tk];exact sb.trans (K4x _ _),λz=>?_,by omega⟩
    rw [tk] at z
    rcases K0w.mp z with q3|q3
    ·exact sm q3
    ·simp at q3;exact absurd q3.symm q
 rintro h9 xs' k9 ⟨B,rfl,sb,sm,rfl⟩ p9
 rw [show (Src.lst (b+3) (stD M)).items.length=M.length by simp [Src.items,stD]] at sb sm p9
 rw [K1e] at sb sm
 exact z B h9 sb sm p9
theorem zr3 {l:List Nat}{t:Nat}(h:t<l.length):(stD l)[t]?=.(i (l[t]:Nat)):=by
 unfold stD
 rw [K0e,K4 h]
 rfl
theorem zk2 {h:AH}{k:Int}{r:AH}{bst:List (List Nat)}{bmk:List (List Str)}{most:Nat}(p:PS h k r) (hk:k<700000) (hb:bst.length≤5) (hmost:most≤6) (ba:MA bst bmk) {Q:D->AH->Prop}
 (z:∀st mk raw h' j i,Cop bst bmk st mk raw->raw.length≤bst.length+most->PS h' (k+1000) (r++j)->(r++j)[i]?=.(l (stD raw))->Q (.tup [maD st mk,.ref (i+3)]) h') :
 W (z11 [.ref 2,maD bst bmk,.int most]) h Q:=by
 have b1:=ba.l1
 have hl0:=p.len
 refine zC6 ?_
 refine z29 ?_
 show W (z13 [.(r 2),some (maD bst bmk),.(i most),none,none,none,none,none,none,none,none,none]) h _
 unfold z13
 refine z1q (λd h1=>d=.ref (r.length+0+3)/\PS h1 k (r++[.lst (stD (K8 bst.length))])) ?_ ?_
 ·rw [zJ0 (n:=bst.length) (by simp only [K7,K3,z8,aNil,Y2,e2,Z6,eVar,z1M,z25,z1Z]) (by omega),if_neg (by decide)]
  exact z2B p (by simp [z0H];omega) λh1 p1=>⟨rfl,p1⟩
 rintro _ h1 ⟨rfl,p1⟩
 refine z2w (λγ h=>∃K w,γ=[.(r 2),some (maD bst bmk),.(i most),.(r (r.length+0+3)),w,none,none,none,none,none,none,none]/\PS h (k+8) (r++[.lst (stD K)])/\K.length≤bst.length+most/\∀x,x∈K↔x<bst.length) ?_ ?_
 ·refine v7 (λc γ h=>∃E w,γ=[.(r 2),some (maD bst bmk),.(i most),.(r (r.length+0+3)),w,none,none,none,none,none,none,none]/\PS h (k+1+c) (r++[.lst (stD (K8 bst.length++E))])/\(∀x∈E,x<bst.length)/\E.length=c) (λ_ _=>False) ?_
  simp only [K7,K3,K07,K0g,K0c,K0a,K0u,z1A,Z7,z1m,W_pure,z8,aNil,z4E,e2,eFn,eVar,if_true]
  refine z0Y p1 (by omega) (by omega) (by omega) λd h2 d0 d1 p2=>?_
  obtain ⟨d,rfl⟩:=K1t d0
  refine ⟨d,rfl,by omega,⟨[],_,rfl,by simpa using p2,by simp,rfl⟩,?_,?_,λ_ _ q=>q.elim⟩
  ·rintro c γ h3 hc ⟨E,w,rfl,p3,e3,l3⟩
   refine z7j (i:=0) rfl p3 rfl (by rw [j6];simp;omega) (λv k'=>∃x:Nat,v=.int x/\x<bst.length/\k'=k+1+c+1) ?_ ?_
   ·simp only [K7,K3,K07,K0g,K0c,K0a,K0u,z1A,Z7,z1m,W_pure,z8,aNil,e2,Z6,eFn,eVar,if_true,z1M,z25,z1Z]
    refine z0Y p3 (by omega) (by omega) (by omega) λd h4 d0 d1 p4=>?_
    obtain ⟨d,rfl⟩:=K1t d0
    exact ⟨_,p4,d,rfl,by omega,rfl⟩
   rintro _ _ h4 ⟨x,rfl,hx,rfl⟩ p4
   rw [K0a,z3o,K02] at p4
   refine z0s ⟨E++[x],_,rfl,p4.up (by omega),λy hy=>?_,by simp [l3]⟩
   rcases K0w.mp hy with q|q
   ·exact e3 y q
   ·simp at q;omega
  ·rintro γ h3 ⟨E,w,rfl,p3,e3,l3⟩
   refine ⟨K8 bst.length++E,_,rfl,p3.up (by omega),by simp;omega,λx=>?_⟩
   rw [K0w,K0r]
   exact ⟨λq=>q.elim id (e3 x),.inl⟩
 rintro γ h2 ⟨K,w,rfl,p2,lK,mK⟩
 refine z1q (λd h1=>d=.ref (r.length+1+3)/\PS h1 (k+8) (r++[.lst (stD K),.lst (stD [])])) ?_ ?_
 ·simp only [Z7,W_pure,aNil,eLst]
  exact z2B p2 (by decide) λh3 p3=>⟨by simp,by rw [K02] at p3;exact p3⟩
 rintro _ h3 ⟨rfl,p3⟩
 refine z2w (λγ h=>∃raw w,γ=[.(r 2),some (maD bst bmk),.(i most),.(r (r.length+0+3)),w,.(r (r.length+1+3)),none,none,none,none,none,none]/\PS h (k+20) (r++[.lst (stD []),.lst (stD raw)])/\raw.length≤bst.length+most/\∀x,x∈raw↔x<bst.length) ?_ ?_
 ·refine v7 (λc γ h=>∃K' R w,γ=[.(r 2),some (maD bst bmk),.(i most),.(r (r.length+0+3)),w,.(r (r.length+1+3)),none,none,none,none,none,none]/\PS h (k+8+c) (r++[.lst (stD K'),.lst (stD R)])/\(K'++R).Perm K/\R.length=c) (λ_ _=>False) ?_
  simp only [K7,K3,K0c,K0a,Z7,W_pure,z8,aNil,Z6,eVar]
  refine zo7 (i:=0) p3 rfl ?_
  rw [j6]
  refine ⟨K.length,rfl,by omega,⟨K,[],_,rfl,p3.up (by omega),by simp,rfl⟩,?_,?_,λ_ _ q=>q.elim⟩
  ·rintro c γ h4 hc ⟨K',R,w,rfl,p4,pm,l4⟩
   have lk:K'.length+R.length=K.length:=by have:=pm.length_eq;simpa using this
   refine zc0 ?_
   simp only [K7,K3,K07,K0g,K0c,K0a,K0u,z50,z1A,Z7,z1m,W_pure,z8,aNil,Z6,eFn,eM1,eVar,if_true,z6x]
   refine z5N (i:=1) p4 rfl ?_
   refine z5N (i:=0) p4 rfl ?_
   refine zo7 (i:=0) p4 rfl ?_
   rw [j6]
   refine z0Y p4 (by omega) (by omega) (by omega) λt h5 t0 t1 p5=>?_
   obtain ⟨t,rfl⟩:=K1t t0
   have tl:t<K'.length:=by omega
   have pa:=zA8 (h:=h5) (i:=r.length+0+3) (xs:=stD K') (by rw [p5.get];exact (at_E (i:=0)).trans rfl) (zr3 tl) (by rw [j6];omega)
   rw [z7A] at pa
   refine W_of pa ?_
   have p6:=p5.set (r.length+0) (.lst (stD (K'.eraseIdx t)))
   rw [zu7,K0a] at p6
   refine z9U (i:=1) p6 rfl (by rw [j6];omega) λh7 p7=>?_
   rw [K0c,K0a,z3o] at p7
   refine ⟨K'.eraseIdx t,R++[K'[t]],_,rfl,p7.up (by omega),?_,by simp [l4]⟩
   refine Z0d ?_ pm
   rw [← K02]
   refine (List.Perm.append_right _ K8i).trans ?_
   rw [K02]
   refine (K8g R (zf6 tl)).trans K8i
  ·rintro γ h4 ⟨K',R,w,rfl,p4,pm,l4⟩
   have lk:K'.length+R.length=K.length:=by have:=pm.length_eq;simpa using this
   have k0:K'=[]:=K2r.mp (by omega)
   subst k0
   exact ⟨R,_,rfl,p4.up (by omega),by omega,λx=>by rw [← mK x];exact pm.mem_iff⟩
 rintro γ h4 ⟨raw,w,rfl,p4,lR,mR⟩
 refine z1q (λd h1=>d=.ref (r.length+2+3)/\PS h1 (k+20) (r++[.lst (stD []),.lst (stD raw),.lst (stsD [])])) ?_ ?_
 ·simp only [Z7,W_pure,aNil,eLst]
  exact z2B p4 (by decide) λh3 p3=>⟨by simp,by rw [K02] at p3;exact p3⟩
 rintro _ h5 ⟨rfl,p5⟩
 refine z2w (λγ h=>∃S j w7 w8 w9 w10 w11,γ=[.(r 2),some (maD bst bmk),.(i most),.(r (r.length+0+3)),w,.(r (r.length+1+3)),.(r (r.length+2+3)),w7,w8,w9,w10,w11]/\PS h (k+1000) (r++(.lst (stD [])::.lst (stD raw)::.lst (stsD S)::j))/\S.length=raw.length/\∀i,i<raw.length->(nx S i).Pairwise (·<·)/\RowC raw (nx bst (rowAt raw i)) (nx S i)) ?_ ?_
 ·refine z18 (λc γ h=>∃S j w7 w8 w9 w10 w11,γ=[.(r 2),some (maD bst bmk),.(i most),.(r (r.length+0+3)),w,.(r (r.length+1+3)),.(r (r.length+2+3)),w7,w8,w9,w10,w11]/\PS h (k+20+80 * c) (r++(.lst (stD [])::.lst (stD raw)::.lst (stsD S)::j))/\S.length=c/\∀i,i<c->(nx S i).Pairwise (·<·)/\RowC raw (nx bst (rowAt raw i)) (nx S i)) (λ_ _=>False) ?_
  refine W_of (zu3 (xs:=stD raw) (Z1 rfl) (by rw [p5.get,at_E];rfl)) ?_
  refine ⟨⟨[],[],_,_,_,_,_,rfl,p5.up (by omega),rfl,λi hi=>by omega⟩,?_,?_,?_,λ_ _ q=>q.elim⟩
  ·rintro c γ h6 ⟨S,j,w7,w8,w9,w10,w11,rfl,p6,l6,s6⟩
   show h6[r.length+1+3]?=_
   rw [p6.get,at_E];rfl
  ·rintro c d γ h6 hd ⟨S,j,w7,w8,w9,w10,w11,rfl,p6,l6,s6⟩
   obtain ⟨kd,rfl,ek⟩:=z36 (show (stD raw)[c]?=some d from hd)
   have hc:c<raw.length:=(K5.mp ek).1
   have kl:kd<bst.length:=(mR kd).mp (K03 ek)
   have mem:nx bst kd∈bst:=K03 (z7g kl)
   have rs:=ba.s1 _ mem
   have lts:=ba.s2 _ mem
   have ln:=z2N rs lts
   refine W_eq (v:=[.(r 2),some (maD bst bmk),.(i most),.(r (r.length+0+3)),w,.(r (r.length+1+3)),.(r (r.length+2+3)),.(i kd),w8,w9,w10,w11]) rfl ?_
   refine z1q (λd h1=>d=.ref (r.length+(j.length+3)+3)/\PS h1 (k+20+80 * c) (r++(.lst (stD [])::.lst (stD raw)::.lst (stsD S)::(j++[.lst (stD [])])))) ?_ ?_
   ·simp only [Z7,W_pure,aNil,eLst]
    exact z2B p6 (by decide) λh3 p3=>⟨by simp,by rw [K02] at p3;exact p3⟩
   rintro _ h7 ⟨rfl,p7⟩
   refine z2w (λγ h=>∃A a j w9 w10 w11,γ=[.(r 2),some (maD bst bmk),.(i most),.(r (r.length+0+3)),w,.(r (r.length+1+3)),.(r (r.length+2+3)),.(i kd),.(r (r.length+a+3)),w9,w10,w11]/\PS h (k+20+80 * c+75) (r++(.lst (stD [])::.lst (stD raw)::.lst (stsD S)::j))/\(O.lst (stD [])::O.lst (stD raw)::O.lst (stsD S)::j)[a]?=.(l (stD A))/\RowC raw (nx bst kd) A) ?_ ?_
   ·refine z18 (λc' γ h=>∃A a j w9 w10 w11,γ=[.(r 2),some (maD bst bmk),.(i most),.(r (r.length+0+3)),w,.(r (r.length+1+3)),.(r (r.length+2+3)),.(i kd),.(r (r.length+a+3)),w9,w10,w11]/\PS h (k+20+80 * c+15 * c') (r++(.lst (stD [])::.lst (stD raw)::.lst (stsD S)::j))/\(O.lst (stD [])::O.lst (stD raw)::O.lst (stsD S)::j)[a]?=.(l (stD A))/\RowC raw ((nx bst kd).take c') A) (λ_ _=>False) ?_
    refine W_of (zQ6 (xs:=stD (nx bst kd)) (h1:=h7) ?_) ?_
    ·have:e2 fIx (e2 fIx (eVar 1) (λ_=>pure (.int 0))) (eVar 7) [.(r 2),some (maD bst bmk),.(i most),.(r (r.length+0+3)),w,.(r (r.length+1+3)),.(r (r.length+2+3)),.(i kd),.(r ((r.length+(j.length+3)+3))),w9,w10,w11]=pure (.tup (stD (nx bst kd))):=by simp only [K7,K3,Y2,e2,eVar,z1M,z4C kl]
     exact congrFun this h7
    refine ⟨⟨[],j.length+3,_,_,_,_,rfl,p7.up (by omega),by simp,⟨by simp,by simp,by simp,by simp⟩⟩,λ_ _ _ _=>trivial,?_,?_,λ_ _ q=>q.elim⟩
    ·rintro c' d γ h8 hd ⟨A,a,j,w9,w10,w11,rfl,p8,ea,rc⟩
     obtain ⟨to,rfl,et⟩:=z36 (show (stD (nx bst kd))[c']?=some d from hd)
     obtain ⟨hc',et'⟩:=K5.mp et
     have tk:(nx bst kd).take (c'+1)=(nx bst kd).take c'++[to]:=by rw [← et',K3m hc']
     have tn:to∉(nx bst kd).take c':=by
      have nd:=z3k rs
      have:=nd.sublist (K9p (c'+1) (nx bst kd))
      rw [tk,K3h] at this
      exact λq=>this.2.2 to q to (by simp) rfl
     have tr:to∈raw:=(mR to).mpr (lts to (K03 et))
     have ml:=zc5 raw to
     have m0:0<(z0y raw to).length:=K5p (mates_mem.mpr ⟨K14.mpr tr,z1O tr⟩)
     have al:A.length≤raw.length:=z4h rc.nd rc.lt
     refine W_eq (v:=[.(r 2),some (maD bst bmk),.(i most),.(r (r.length+0+3)),w,.(r (r.length+1+3)),.(r (r.length+2+3)),.(i kd),.(r (r.length+a+3)),.(i to),w10,w11]) rfl ?_
     refine Y4 (.ref (r.length+(j.length+3)+3)) [.(r 2),some (maD bst bmk),.(i most),.(r (r.length+0+3)),w,.(r (r.length+1+3)),.(r (r.length+2+3)),.(i kd),.(r (r.length+a+3)),.(i to),.(r ((r.length+(j.length+3)+3))),w11] (h1:=h8++[.lst (stD (z0y raw to))]) ?_ rfl ?_
     ·have e8:h8[r.length+1+3]?=.(l (stD raw)):=by rw [p8.get,at_E];rfl
      have l8:h8.length=r.length+(j.length+3)+3:=by rw [p8.len];simp
      refine (z0B (src:=.con (z0H raw.length)) (l:=K8 raw.length) (λo=>decide (rowAt raw o=to)) (λo=>.int o) (z2Q (n:=raw.length) (y4 (Z1 rfl) (by rw [z41 e8,j6])) (by omega)) rfl (λ_=>trivial) (by simp;omega) λo ho=>⟨[.(r (r.length+1+3)),.(i to),.(i o)],λh=>rfl,λj=>?_,λ_ j=>rfl⟩).trans ?_
      ·have ho:o<raw.length:=by simpa using ho
       refine cb_h (e2_h (e2_h (Z1 rfl) (Z1 rfl) (ix_h (xs:=stD raw) (by rw [K0s (K5.mp e8).1];exact e8) (z56 ho))) (Z1 rfl) ?_)
       refine (z3b (z1z (rowAt raw o) to)).trans ?_
       rw [K20]
      ·rw [l8];rfl
     have p9:=p8.app [.lst (stD (z0y raw to))]
     rw [K02] at p9
     have e9:(r++(O.lst (stD [])::O.lst (stD raw)::O.lst (stsD S)::(j++[O.lst (stD (z0y raw to))])))[r.length+(j.length+3)]?=.(l ((stD (z0y raw to)))):=by
      rw [at_E];simp
     refine z1q (λd h1=>∃s:Nat,d=.int s/\s∈z0y raw to/\PS h1 (k+20+80 * c+15 * c'+1) (r++(.lst (stD [])::.lst (stD raw)::.lst (stsD S)::(j++[.lst (stD (z0y raw to))])))) ?_ ?_
     ·simp only [K7,K3,K07,K0g,K0u,z1A,Z7,z1m,W_pure,z8,aNil,e2,Z6,eFn,eVar,if_true]
      refine zm6 p9 e9 ?_
      rw [j6]
      refine z0Y p9 (by omega) (by omega) (by omega) λt h10 t0 t1 p10=>?_
      obtain ⟨t,rfl⟩:=K1t t0
      refine zK3 p10 e9 (z56 (by omega)) ?_
      exact ⟨_,rfl,z27 (by omega),p10⟩
     rintro _ h10 ⟨s,rfl,sm,p10⟩
     refine z1q (λd h1=>∃B,d=.ref (r.length+(j.length+5)+3)/\B.Sublist (z0y raw to)/\s∈B/\PS h1 (k+20+80 * c+15 * (c'+1:Nat)) (r++(.lst (stD [])::.lst (stD raw)::.lst (stsD S)::(j++[.lst (stD (z0y raw to)),.lst (stD B),.lst (stD (A++B))])))) ?_ ?_
     ·unfold FT.e2
      rw [Z7]
      refine W_eq (v:=.ref (r.length+a+3)) rfl ?_
      rw [Z7]
      refine zO6 p10 (by omega) (by omega) rfl rfl rfl e9 λB h11 sb sB p11=>?_
      have ea':((O.lst (stD [])::O.lst (stD raw)::O.lst (stsD S)::(j++[O.lst (stD (z0y raw to))]))++[O.lst (stD B)])[a]?=.(l (stD A)):=by
       rw [show ((O.lst (stD [])::O.lst (stD raw)::O.lst (stsD S)::(j++[O.lst (stD (z0y raw to))]))++[O.lst (stD B)])=(O.lst (stD [])::O.lst (stD raw)::O.lst (stsD S)::j)++[O.lst (stD (z0y raw to)),O.lst (stD B)] by simp,K0s (K5.mp ea).1]
       exact ea
      have bl:=sb.length_le
      rw [show (O.lst (stD [])::O.lst (stD raw)::O.lst (stsD S)::(j++[O.lst (stD (z0y raw to))])).length=j.length+4 by simp]
      refine zM3 (i:=a) (j:=r.length+(j.length+4)) (ys:=stD B) p11 ea' (by rw [at_E];simp) (by rw [j6,j6];omega) λh12 p12=>?_
      refine ⟨B,by simp,sb,sB sm,?_⟩
      rw [show stD A++stD B=stD (A++B) by simp [stD]] at p12
      have:=p12.up (k':=k+20+80 * c+15 * (c'+1:Nat)) (by omega)
      simpa using this
     rintro _ h12 ⟨B,rfl,sb,sB,p12⟩
     refine z0s ⟨A++B,j.length+5,_,_,_,_,rfl,p12,by simp,?_⟩
     rw [tk]
     exact rc.put tn sb sB
    ·rintro γ h8 ⟨A,a,j,w9,w10,w11,rfl,p8,ea,rc⟩
     rw [show (Src.con (stD (nx bst kd))).items.length=(nx bst kd).length by simp [Src.items,stD]] at rc p8
     rw [K1e] at rc
     exact ⟨A,a,j,w9,w10,w11,rfl,p8.up (by omega),ea,rc⟩
   rintro γ h8 ⟨A,a,j,w9,w10,w11,rfl,p8,ea,rc⟩
   have al:A.length≤raw.length:=z4h rc.nd rc.lt
   refine z7j (i:=2) rfl p8 rfl (by rw [z1Z];omega) (λv k'=>v=.tup (stD (z0t A))/\k'=k+20+80 * c+75) ?_ ?_
   ·refine W_of (z0u (j:=[.lst (stD (z0t A))]) (y4 (y4 (Z1 rfl) (zr0 (S:=A) (by omega) (by rw [p8.get,at_E];exact ea))) (z8y J2)) (by simp only [J7];exact z0V _)) ⟨_,p8,rfl,rfl⟩
   rintro _ _ h9 ⟨rfl,rfl⟩ p9
   rw [K0c,K0c,K0a,show stsD S++[D.tup (stD (z0t A))]=stsD (S++[z0t A]) by simp [stsD]] at p9
   refine z0s ⟨S++[z0t A],_,_,_,_,_,_,rfl,p9.up (by omega),by simp [l6],λi hi=>?_⟩
   by_cases ic:i<c
   ·rw [show nx (S++[z0t A]) i=nx S i by unfold nx;rw [K0s (by omega)]]
    exact s6 i ic
   ·have:i=c:=by omega
    subst this
    rw [show nx (S++[z0t A]) i=z0t A by unfold nx;rw [← l6];simp,z1U ek]
    exact ⟨z17 rc.nd,(z2o A).nodup_iff.mpr rc.nd,λo ho=>rc.lt o (sortN_mem.mp ho),λo ho=>rc.a o (sortN_mem.mp ho),λt ht=>by
     obtain ⟨o,ho,e⟩:=rc.b t ht
     exact ⟨o,sortN_mem.mpr ho,e⟩⟩
  ·rintro γ h6 ⟨S,j,w7,w8,w9,w10,w11,rfl,p6,l6,s6⟩
   rw [show (Src.lst (r.length+1+3) (stD raw)).items.length=raw.length by simp [Src.items,stD]] at l6 s6 p6
   exact ⟨S,j,w7,w8,w9,w10,w11,rfl,p6.up (by omega),l6,s6⟩
 rintro γ h6 ⟨S,j,w7,w8,w9,w10,w11,rfl,p6,l6,s6⟩
 have e5:h6[r.length+1+3]?=.(l (stD raw)):=by rw [p6.get,at_E];rfl
 have e6:h6[r.length+2+3]?=.(l (stsD S)):=by rw [p6.get,at_E];rfl
 refine z07 (.tup [maD S (raw.map (mkAt bmk)),.ref (r.length+1+3)]) (h1:=h6) (z5E (z5E (y4 (Z1 rfl) (z8y e6)) (z4U (xs:=mksD (raw.map (mkAt bmk))) ?_ ?_)) (Z1 rfl)) ?_
 ·refine (z0B (l:=raw) (λ_=>true) (λx=>.tup ((mkAt bmk x).map .str)) (zu3 (Z1 rfl) e5) rfl (λj=>?_) (by omega) λx hx=>⟨[some (maD bst bmk),.(i x)],λh=>rfl,λj=>rfl,λ_ j=>?_⟩).trans ?_
  ·show (h6++j)[r.length+1+3]?=_
   rw [K0s (K5.mp e5).1,e5]
  ·have hx:=(mR x).mp hx
   have lm:=ba.l3
   have:e2 fIx (e2 fIx (eVar 0) (λ_=>pure (.int 1))) (eVar 1) [some (maD bst bmk),.(i x)]=pure (.tup ((mkAt bmk x).map .str)):=by
    simp only [K7,K3,Y2,e2,eVar,z3z,ix_tup (z6z (show x<bmk.length by omega))]
    rfl
   rw [this];rfl
  ·have:raw.map (λx=>D.tup ((mkAt bmk x).map .str))=mksD (raw.map (mkAt bmk)):=by
    unfold mksD
    rw [K0o]
    rfl
   rw [filter_tt,this]
 ·unfold mksD
  exact z03 λa=>by simp only [J7];exact z2b _
 ·refine ⟨?_,λi=>by simp,z S (raw.map (mkAt bmk)) raw h6 _ (r.length+1) ⟨l6,mR,λi hi=>(s6 i hi).1,λi hi=>(s6 i hi).2.lt,λi hi t=>?_,rfl⟩ lR p6 (by rw [at_E];rfl)⟩
  ·simp only [J7,J5,K5z,K8k,decide_eq_false_iff_not]
   right
   rw [hl0]
   omega
  ·rw [K04]
   constructor
   ·rintro ⟨o,ho,rfl⟩
    exact (s6 i hi).2.a o ho
   ·exact (s6 i hi).2.b t
section
variable {st:List (List Nat)}{mk:List (List Str)}
theorem z6a (k:Nat):(j7 st mk k).length=st.length:=(z1P k).len
theorem ze6 {H:AH}{γ:G}{mo ma:G->M D}{b:Nat}{looks:List Lk}{l:Lk}(e1:mo γ H=.ok (.ref b) H) (e2':ma γ H=.ok (lkE l) H) (eb:H[b]?=.(l (looks.map lkE))) (hl:looks.length≤1000) (m:l∈looks):eM1 z4m mo ma γ H=.ok (.int (looks.idxOf l:Nat)) H:=by
 have g:getL b H=.ok (looks.map lkE) H:=by unfold getL;rw [eb]
 obtain ⟨i1,i2⟩:=z3p (h:=H) m
 show (mo γ >>= λo=>z2y o >>= λn=>ma γ >>= λy=>z4m n y) H=_
 rw [M.bind_ok e1,M.bind_ok (z6D eb),M.bind_ok e2']
 unfold z4m
 rw [M.bind_ok g]
 unfold ixX
 rw [if_pos ⟨z6R _,by rw [K00];omega,i1⟩,i2]
theorem zA6 {h:AH}(ma:MA st mk):z1p [maD st mk] h=.ok (.ref h.length) (h++[.lst (stD (j7 st mk st.length))]):=by
 have l1:=ma.l1
 have l2:=ma.l2
 have l3:=ma.l3
 have sq:=z4T ma
 have key:W (runF 6 z0r [maD st mk]) h λd h'=>∃(a:Nat) (j:AH),d=.ref a/\h.length≤a/\h'=h++j/\h'[a]?=.(l ((stD (j7 st mk st.length)))):=by
  refine z29 ?_
  show W (z0r [some (maD st mk),none,none,none,none,none]) h _
  unfold z0r
  refine Y4 (.ref h.length) [some (maD st mk),.(r h.length),none,none,none,none] (h1:=h++[.lst (stD (j7 st mk 0))]) ?_ rfl ?_
  ·refine (z1C (src:=.con (stsD st)) (λ_=>true) (λ_=>.int 0) (z0M (e2_h (Z1 rfl) (y:=.int 0) rfl (by rw [z1M];rfl))) (λ_=>trivial) (by show (stsD st).length≤_;rw [z1Z];omega) λd hd=>⟨[some d],λh=>rfl,λj=>rfl,λ_ j=>rfl⟩).trans ?_
   rw [filter_tt]
   show Res.ok (D.ref h.length) (h++[O.lst ((stsD st).map λ_=>D.int 0)])=.ok (.ref h.length) (h++[.lst (stD (K0d st.length 0))])
   have:((stsD st).map λ_=>D.int 0)=stD (K0d st.length 0):=by
    unfold stsD stD
    rw [K0o,K99]
    exact List.map_eq_replicate_iff.mpr λb hb=>rfl
   rw [this]
  refine z2w (λγ h'=>∃(a:Nat) (j:AH) (b c d e:Option D),γ=[some (maD st mk),.(r a),b,c,d,e]/\h.length≤a/\h'=h++j/\h'[a]?=.(l ((stD (j7 st mk st.length))))) ?_ ?_
  ·refine v7 (λk γ h'=>∃(a:Nat) (j:AH) (b c d e:Option D),γ=[some (maD st mk),.(r a),b,c,d,e]/\h.length≤a/\h'=h++j/\h'[a]?=.(l ((stD (j7 st mk k))))) (λ_ _=>False) ?_
   refine W_of (v:=.int (st.length:Nat)) (y4 (Z1 rfl) (by rw [z41 J2,j6,z6a])) ?_
   refine ⟨st.length,rfl,by omega,⟨h.length,_,none,none,none,none,rfl,K01 _,rfl,J2⟩,?_,λγ h' q=>q,λ_ _ q=>q.elim⟩
   rintro k γ h' hk ⟨a,j,b,c,d,e,rfl,ha,hj,ea⟩
   obtain ⟨Hk,hHk⟩:∃Hk,Hk=j7 st mk k:=⟨_,rfl⟩
   rw [← hHk] at ea
   have hlen:Hk.length=st.length:=by rw [hHk];exact z6a k
   obtain ⟨looks,hlk⟩:∃looks,looks=(K8 st.length).map (lkH st mk Hk):=⟨_,rfl⟩
   have lkl:looks.length=st.length:=by rw [hlk];simp
   refine z8j (xs:=[]) (by simp) (λh=>rfl) ?_
   refine z2w (λγ H=>∃d e,γ=[some (maD st mk),.(r a),.(i (k:Nat)),.(r h'.length),d,e]/\H=h'++[.lst (looks.map lkE)]) ?_ ?_
   ·refine v7 (λi γ H=>∃d e,γ=[some (maD st mk),.(r a),.(i (k:Nat)),.(r h'.length),d,e]/\H=h'++[.lst ((looks.take i).map lkE)]) (λ_ _=>False) ?_
    refine W_of (v:=.int (st.length:Nat)) (y4 (Z1 rfl) (by rw [z41 (x5 ea),j6,hlen])) ?_
    refine ⟨st.length,rfl,by omega,⟨d,e,rfl,rfl⟩,?_,λγ H q=>by rw [← lkl,K1e] at q;exact q,λ_ _ q=>q.elim⟩
    rintro i γ H hi ⟨d,e,rfl,rfl⟩
    obtain ⟨H,hH⟩:∃H,H=h'++[O.lst ((looks.take i).map lkE)]:=⟨_,rfl⟩
    rw [← hH]
    have eaH:H[a]?=.(l (stD Hk)):=by rw [hH];exact x5 ea
    have xs:(nx st i).length≤40:=by
     have g:=K03 (z7g hi)
     exact K0m (z2N (ma.s1 _ g) (ma.s2 _ g)) l2
    have nlt:∀o∈nx st i,o<Hk.length:=λo ho=>by rw [hlen];exact z4o sq ho
    refine Y4 (.tup (stD (setN ((nx st i).map (rowAt Hk))))) [some (maD st mk),.(r a),.(i (k:Nat)),.(r h'.length),.(i (i:Nat)),.(g ((stD (setN ((nx st i).map (rowAt Hk))))))] (h1:=H) ?_ rfl ?_
    ·refine z0u (j:=[.lst (stD ((nx st i).map (rowAt Hk)))]++[.set (kN (dedN ((nx st i).map (rowAt Hk)))),.lst (stD (setN ((nx st i).map (rowAt Hk))))]) (y4 (ss_h (i:=H.length) (h1:=H++[.lst (stD ((nx st i).map (rowAt Hk)))]) (l:=(nx st i).map (rowAt Hk)) ?_ J2 (by rw [K00];omega) ?_) ?_) (by simp only [J7];exact z0V _)
     ·refine (z6n (src:=.con (stD (nx st i))) (l:=nx st i) (λo=>.int (rowAt Hk o:Nat)) (z0M (e2_h (e2_h (Z1 rfl) (y:=.int 0) rfl (by rw [z1M];rfl)) (Z1 rfl) (by rw [z4C hi];rfl))) rfl (λ_=>trivial) (by omega) λo ho=>⟨[.(r a),.(i (o:Nat))],λh=>rfl,λ_=>rfl,λj2=>e2_h (Z1 rfl) (Z1 rfl) (ix_h (x5 eaH) (z56 (nlt o ho)))⟩).trans ?_
      unfold stD
      rw [K0o]
      rfl
     ·have:(setN ((nx st i).map (rowAt Hk))).length≤Hk.length:=z7Y λu hu=>by
       obtain ⟨o,ho,rfl⟩:=K04.mp hu
       have:=(z1P (st:=st) (mk:=mk) k).le o (by rw [← hlen];exact nlt o ho)
       rw [← hHk] at this
       have:=nlt o ho
       omega
      omega
     ·refine (z8y ((at_E (i:=1)).trans rfl)).trans ?_
      rw [K02]
    ·have ei:looks[i]?=some (lkH st mk Hk i):=by rw [hlk,K0e,K1p hi];rfl
     have eb:H[h'.length]?=.(l (((looks.take i).map lkE))):=by rw [hH];exact J2
     refine z3N (a:=3) (v:=lkE (lkH st mk Hk i)) rfl eb (by rw [K00,K26];omega) ?_ ?_
     ·unfold eTup
      have:z8 (e2 fIx (eVar 1) (eVar 4)) (z8 (e2 fIx (e2 fIx (eVar 0) (λ_=>pure (.int 1))) (eVar 4)) (z8 (eVar 5) aNil)) [some (maD st mk),.(r a),.(i (k:Nat)),.(r h'.length),.(i (i:Nat)),.(g ((stD (setN ((nx st i).map (rowAt Hk))))))] H=.ok [.int (rowAt Hk i:Nat),.tup ((mkAt mk i).map .str),.tup (stD (setN ((nx st i).map (rowAt Hk))))] H :=
       ac_h (e2_h (Z1 rfl) (Z1 rfl) (ix_h eaH (z56 (by rw [hlen];exact hi)))) (ac_h (e2_h (e2_h (Z1 rfl) (y:=.int 1) rfl (by rw [z3z];rfl)) (Z1 rfl) (by rw [ix_tup (z6z (show i<mk.length by omega))];rfl)) (ac_h (Z1 rfl) rfl))
      rw [M.bind_ok this]
      rfl
     ·refine z0s ⟨_,_,rfl,?_⟩
      rw [hH,z2C,K4h,ei,K3d]
      rfl
   ·rintro _ _ ⟨d,e,rfl,rfl⟩
    obtain ⟨H,hH⟩:∃H,H=h'++[O.lst (looks.map lkE)]:=⟨_,rfl⟩
    rw [← hH]
    have eb:∀j,(H++j)[h'.length]?=.(l (looks.map lkE)):=λj=>by rw [hH];exact x5 J2
    refine Y4 (.ref H.length) [some (maD st mk),.(r H.length),.(i (k:Nat)),.(r h'.length),d,e] (h1:=H++[.lst (stD (j7 st mk (k+1)))]) ?_ rfl ?_
    ·have eb0:=eb []
     rw [K1u] at eb0
     refine (z1C (src:=.lst h'.length (looks.map lkE)) (λ_=>true) (λd=>.int ((looks.map lkE).findIdx (λz=>decide (eqN 24 h z d=some true)):Nat)) (z48 (Z1 rfl) eb0) (λj=>eb j) (by show (looks.map lkE).length≤_;rw [K00];omega) λd hd=>?_).trans ?_
     ·obtain ⟨l,hl,rfl⟩:=K04.mp (show d∈looks.map lkE from hd)
      refine ⟨[.(r h'.length),some (lkE l)],λh=>rfl,λj=>rfl,λ_ j=>?_⟩
      rw [ze6 (b:=h'.length) (Z1 rfl) (Z1 rfl) (eb j) (by omega) hl]
      have:=(z3p (h:=h) hl).2
      unfold z35 at this
      rw [this]
     ·rw [filter_tt]
      show Res.ok (D.ref H.length) (H++[O.lst ((looks.map lkE).map λd=>D.int ((looks.map lkE).findIdx (λz=>decide (eqN 24 h z d=some true)):Nat))])=_
      have:((looks.map lkE).map λd=>D.int ((looks.map lkE).findIdx (λz=>decide (eqN 24 h z d=some true)):Nat))=stD (j7 st mk (k+1)):=by
       show _=stD (z1l st mk (j7 st mk k))
       unfold z1l stD
       rw [← hHk,← hlk,K0o,K0o]
       conv=>lhs;arg 2;rw [hlk]
       rw [K0o]
       refine K2f λx hx=>?_
       have m:lkH st mk Hk x∈looks:=by rw [hlk];exact K04.mpr ⟨x,hx,rfl⟩
       have:=(z3p (h:=h) m).2
       unfold z35 at this
       show D.int ((looks.map lkE).findIdx (λz=>decide (eqN 24 h z (lkE (lkH st mk Hk x))=some true)):Nat)=.int (looks.idxOf (lkH st mk Hk x):Nat)
       rw [this]
      rw [this]
    ·refine z0s ⟨H.length,j++[.lst (looks.map lkE)]++[.lst (stD (j7 st mk (k+1)))],_,_,_,_,rfl,?_,?_,J2⟩
     ·rw [hH,hj];simp only [K08];omega
     ·rw [hH,hj];simp only [K02]
  ·rintro _ h' ⟨a,j,b,c,d,e,rfl,ha,hj,ea⟩
   exact z07 (.ref a) (Z1 rfl) ⟨a,j,rfl,ha,hj,ea⟩
 obtain ⟨d,h',e,a,j,rfl,ha,rfl,ea⟩:=key
 show cln (runF 6 z0r [maD st mk]) h=_
 exact z2j e rfl (z2W h) ha ea (z0V _)
end
section
variable {st:List (List Nat)}{mk:List (List Str)}{bl:Bl}
theorem z6l {ma mb:G->M D}{γ:G}{h h1:AH}{r:Res D}(e1:ma γ h=.ok (.bl true) h1) (e2':mb γ h1=r):eAnd ma mb γ h=r:=by
 unfold eAnd
 rw [M.bind_ok e1]
 exact e2'
theorem zU2 {ma mb:G->M D}{γ:G}{h h1:AH}(e1:ma γ h=.ok (.bl true) h1):eOr ma mb γ h=.ok (.bl true) h1:=by
 unfold eOr
 rw [M.bind_ok e1]
 rfl
theorem zU7 {ma mb:G->M D}{γ:G}{h h1:AH}{r:Res D}(e1:ma γ h=.ok (.bl false) h1) (e2':mb γ h1=r):eOr ma mb γ h=r:=by
 unfold eOr
 rw [M.bind_ok e1]
 exact e2'
theorem zs4 (i:Int):z1j [.int i]=pure (.bl false):=by
 unfold z1j
 rw [z0Q,z0n]
 show z1L [.(i i)]=_
 unfold z1L
 have e:z1c [.int i]=pure (.bl false):=by
  unfold z1c
  rw [z0Q,z0n]
  show z1J [.(i i)]=_
  unfold z1J
  simp only [K3,z9,bNil,Y2,eIsi,eVar,z5b,sRet]
  rfl
 refine (p_if true ?_).trans ?_
 ·simp only [K4i,K3,K07,K0g,K0u,z8,aNil,Y2,cNot,cOr,cVal,e,e3,Z6,eFn,eVar,if_true,z54]
 rw [if_pos rfl]
 exact (zS1).trans (z4s _ rfl)
theorem zl2 {h:AH}{b k:Nat}{y:D}(ma:MA st mk) (dc:Dic h b bl) (hk:k∈bl.map (·.1)) (bn:ByN mk bl k y):z3Q [.ref b,.tup [.int (k:Nat),y]] h=.ok (.bl true) h:=by
 show cln (runF 4 z2R [.ref b,.tup [.int (k:Nat),y]]) h=_
 refine zn6 (z4t ?_) rfl
 show W (z2R [.(r b),.(g [.int (k:Nat),y]),none,none]) h _
 unfold z2R
 refine z10 (!true) (cn_h (cv_h (fn_h (ds:=[.tup [.int (k:Nat),y],.int 2,.int 2]) (ac_h (Z1 rfl) (ac_h (d:=.int 2) rfl (ac_h (d:=.int 2) rfl rfl))) rfl (congrFun (z59 (n:=2) rfl) h)))) ?_
 rw [if_neg (by decide)]
 refine z0x (z4Y (.tup [.int (k:Nat),y]) [.(r b),.(g [.int (k:Nat),y]),.(i (k:Nat)),some y] rfl rfl ?_)
 have e1:FT.e2 (fInD false) (eVar 2) (eVar 0) [.(r b),.(g [.int (k:Nat),y]),.(i (k:Nat)),some y] h=.ok (.bl true) h:=e2_h (Z1 rfl) (Z1 rfl) (by rw [dc.inD,decide_eq_true hk];rfl)
 refine z07 (.bl true) (z6l (fn_h (ds:=[.int (k:Nat)]) (ac_h (Z1 rfl) rfl) rfl (congrFun z5g h)) (z6l e1 ?_)) ⟨rfl,rfl⟩
 rcases bn with ⟨x,hx,s,hs,rfl⟩|⟨k',rfl,hk'⟩
 ·have hm:mkAt mk x∈mk:=by
   by_cases q:x<mk.length
   ·exact K03 (z2t q)
   ·unfold mkAt at hs
    rw [K0i (by omega)] at hs
    cases hs
  exact zU2 (fn_h (ds:=[.str s]) (ac_h (Z1 rfl) rfl) rfl (congrFun (zD6 ((ma.m1 _ hm).good s hs)) h))
 ·refine zU7 (fn_h (ds:=[.int (k':Nat)]) (ac_h (Z1 rfl) rfl) rfl (congrFun (zs4 _) h)) ?_
  exact z6l (fn_h (ds:=[.int (k':Nat)]) (ac_h (Z1 rfl) rfl) rfl (congrFun z5g h)) (e2_h (Z1 rfl) (Z1 rfl) (by rw [dc.inD,decide_eq_true hk'];rfl))
theorem zh2 {cs:List (Nat×D)}{c:Nat}{d:D}(h:(z08 cs)[c]?=some d):∃k y,cs[c]?=some (k,y)/\d=.tup [.int (k:Nat),y]:=by
 unfold z08 at h
 rw [K0e] at h
 obtain ⟨p,ep,rfl⟩:=K10.mp h
 exact ⟨p.1,p.2,ep,rfl⟩
theorem lenL {α:Type}{l:List α}{c:Nat}{x:α}(h:l[c]?=some x):c<l.length:=(K5.mp h).1
theorem zq7 {h:AH}{cs:List (Nat×D)}(ma:MA st mk) (cu:Cuts st mk [(0,K8 st.length)] cs bl) (m:MR st mk (rowB st.length bl)):z0v [maD st mk,.tup [.tup (stD (rowB st.length bl)),.tup (z08 cs)]] h=.ok (.bl true) h:=by
 have l1:=ma.l1
 have l2:=ma.l2
 have pb0:PB st.length [(0,K8 st.length)]:=z2X (by omega)
 obtain ⟨R,hR⟩:∃R,R=D.tup (stD (rowB st.length bl)):=⟨_,rfl⟩
 obtain ⟨C,hC⟩:∃C,C=D.tup (z08 cs):=⟨_,rfl⟩
 rw [← hR,← hC]
 show cln (runF 6 Y7 [maD st mk,.tup [R,C]]) h=_
 have key:W (runF 6 Y7 [maD st mk,.tup [R,C]]) h λv h'=>v=.bl true/\∃j,h'=h++j:=by
  refine z29 ?_
  show W (Y7 [some (maD st mk),.(g [R,C]),none,none,none,none]) h _
  unfold Y7
  refine z10 (!true) (cn_h (cv_h (fn_h (ds:=[.tup [R,C],.int 2,.int 2]) (ac_h (Z1 rfl) (ac_h (d:=.int 2) rfl (ac_h (d:=.int 2) rfl rfl))) rfl (congrFun (z59 (n:=2) rfl) h)))) ?_
  rw [if_neg (by decide)]
  refine z0x (z4Y (.tup [R,C]) [some (maD st mk),.(g [R,C]),some R,some C,none,none] rfl rfl ?_)
  refine z10 false (z5k (cn_h (b:=true) (cv_h (fn_h (ds:=[maD st mk,R]) (ac_h (Z1 rfl) (ac_h (Z1 rfl) rfl)) rfl (by rw [hR];exact congrFun (zi7 m) h)))) (cn_h (b:=true) (cv_h (fn_h (ds:=[C]) (ac_h (Z1 rfl) rfl) rfl (by rw [hC];exact congrFun z7R h))))) ?_
  rw [if_neg (by decide)]
  refine z0x (Y4 (.ref h.length) [some (maD st mk),.(g [R,C]),some R,some C,.(r h.length),none] (fn_h (ds:=[maD st mk]) (ac_h (Z1 rfl) rfl) rfl (z9I l2)) rfl ?_)
  refine z2w (λγ h'=>∃a j b,γ=[some (maD st mk),.(g [R,C]),some R,some C,.(r b),a]/\h'=h++j/\Dic h' b bl) ?_ ?_
  ·refine z18 (λc γ h'=>∃a j b bl1,γ=[some (maD st mk),.(g [R,C]),some R,some C,.(r b),a]/\h'=h++j/\h.length≤b/\Dic h' b bl1/\Cuts st mk [(0,K8 st.length)] (cs.take c) bl1) (λ_ _=>False) ?_
   refine W_of (v:=.con (z08 cs)) (z0M (by rw [hC];exact Z1 rfl)) ?_
   refine ⟨⟨none,_,h.length,_,rfl,rfl,K01 _,.inl J2,.nil⟩,λ_ _ _ _=>trivial,?_,?_,λ_ _ q=>q.elim⟩
   ·rintro c d γ _ hd ⟨a,j,b,bl1,rfl,rfl,hb,dc,c1⟩
    obtain ⟨k,y,ec,rfl⟩:=zh2 (show (z08 cs)[c]?=some d from hd)
    obtain ⟨bl2,k',y',c2,c3,ec',bn,ct⟩:=z5n cu c (lenL ec)
    obtain ⟨_,rfl⟩:=z1I c1 c2 rfl
    rw [ec] at ec'
    injection ec' with ec'
    injection ec' with e1 e2
    subst e1
    subst e2
    have pb:=(c1.len pb0).1
    obtain ⟨blt,bll⟩:=z6b pb ct.hk
    obtain ⟨γ,hγ⟩:∃γ:G,γ=[some (maD st mk),.(g [R,C]),some R,some C,.(r b),.(g [.int (k:Nat),y])]:=⟨_,rfl⟩
    refine W_eq (v:=γ) (by rw [hγ];rfl) ?_
    have g0:γ[0]?=some (some (maD st mk)):=by rw [hγ];rfl
    have g4:γ[4]?=some (.(r b)):=by rw [hγ];rfl
    have g5:γ[5]?=some (.(g [.int (k:Nat),y])):=by rw [hγ];rfl
    have pd:=z5f (d:=y) (l:=blk bl1 k) (z4T ma) ma.l3 dc blt (by omega) (zj4 ma) bn.ok
    have p2:prt (blk bl1 k) (bel st mk bl1 y)=[yesL bl1 k (bel st mk bl1 y),noL bl1 k (bel st mk bl1 y)]:=z8H ct.hy ct.hn
    rw [p2] at pd
    refine zA9 false (h1:=h++j++[.lst (stsD [yesL bl1 k (bel st mk bl1 y),noL bl1 k (bel st mk bl1 y)])]) (z5k (cn_h (b:=true) (cv_h (fn_h (ds:=[.ref b,.tup [.int (k:Nat),y]]) (ac_h (Z1 g4) (ac_h (Z1 g5) rfl)) rfl (zl2 ma dc ct.hk bn)))) (cb_h (e2_h (y4 (fn_h (ds:=[maD st mk,.ref b,.tup (stD (blk bl1 k)),y]) (ac_h (Z1 g0) (ac_h (Z1 g4) (ac_h (e2_h (Z1 g4) (e2_h (Z1 g5) (y:=.int 0) rfl rfl) (dc.get ct.hk)) (ac_h (e2_h (Z1 g5) (y:=.int 1) rfl rfl) rfl)))) rfl pd) (z41 J2)) (y:=.int 2) rfl (by rw [z8p];rfl)))) ?_
    rw [if_neg (by decide)]
    refine z0x ?_
    have dc1:=dc.app [.lst (stsD [yesL bl1 k (bel st mk bl1 y),noL bl1 k (bel st mk bl1 y)])]
    obtain ⟨j1,hj1⟩:∃j1,j1=j++[O.lst (stsD [yesL bl1 k (bel st mk bl1 y),noL bl1 k (bel st mk bl1 y)])]:=⟨_,rfl⟩
    rw [K02,← hj1] at dc1 ⊢
    have eu:=zL7 ma pb dc1 bn.ok ct
    refine Y4 (.ref (h++j1).length) (γ.set 4 (.(r ((h++j1).length)))) (fn_h (ds:=[maD st mk,.ref b,.tup [.int (k:Nat),y]]) (ac_h (Z1 g0) (ac_h (Z1 g4) (ac_h (Z1 g5) rfl))) rfl eu) rfl ?_
    refine z0s ⟨_,j1.set (b - h.length) (.dF (kvB bl1))++[.dK (kvB (cutB bl1 k (bel st mk bl1 y)))],(h++j1).length,_,by rw [hγ];rfl,by rw [z4l hb,K02],by rw [K08];omega,.inl ?_,c3⟩
    rw [show (h++j1).length=((h++j1).set b (O.dF (kvB bl1))).length by rw [K47]]
    exact J2
   ·rintro γ h' ⟨a,j,b,bl1,rfl,rfl,_,dc,c1⟩
    rw [show (Src.con (z08 cs)).items.length=cs.length by show (z08 cs).length=_;unfold z08;rw [K00],K1e] at c1
    obtain ⟨_,rfl⟩:=z1I c1 cu rfl
    exact ⟨a,j,b,rfl,rfl,dc⟩
  rintro _ _ ⟨a,j,b,rfl,rfl,dc⟩
  refine z07 (.bl true) (e2_h (Z1 rfl) (fn_h (ds:=[.ref b]) (ac_h (Z1 rfl) rfl) rfl (zK8 (cu.len pb0).1 l2 dc)) ?_) ⟨rfl,j,rfl⟩
  rw [hR,z8Z,decide_eq_true rfl]
  rfl
 obtain ⟨v,h',e,rfl,j,rfl⟩:=key
 exact z0u e rfl
end
def hmB (n:Nat) (bl:Bl):List Nat:=(K8 n).map (keyOf bl)
theorem z1e {n:Nat}{bl:Bl}:(hmB n bl).length=n:=by unfold hmB;simp
theorem z4A {n:Nat}{bl:Bl}{x:Nat}(h:x<n):(hmB n bl)[x]?=some (keyOf bl x):=by unfold hmB;rw [K0e,K1p h];rfl
theorem zN5 {t:G->M Bool}{me:G->M D}{mt:G->M Out}{b:Bool}{γ:G}{h:AH}{a i:Nat}{xs:List D}{v:D}{Q:Out->AH->Prop}(et:t γ h=.ok b h) (ea:γ[a]?=some (.(r i))) (e:h[i]?=.(l xs)) (hl:xs.length<1000000) (ev:me γ h=.ok v h)
 (z:W (mt γ) (h.set i (.lst (if b=true then xs++[v] else xs))) Q):W (z9 (sIf t (z9 (z0S (eM1 y8 (eVar a) me)) bNil) bNil) mt γ) h Q:=by
 refine z10 b et ?_
 cases b with
 | true =>
  rw [if_pos rfl] at z ⊢
  exact z6K (z3N ea e hl ev (z0x z))
 | false =>
  rw [if_neg (by decide)] at z ⊢
  refine z0x ?_
  have:h.set i (.lst xs)=h:=by
   refine K1x λn=>?_
   by_cases q:i=n
   ·subst q
    rw [K19 (K5.mp e).1,e]
   ·rw [K15 q]
  rw [this] at z
  exact z
theorem z5y {t:G->M Bool}{me:G->M D}{mt:G->M Out}{b:Bool}{γ:G}{h:AH}{a i:Nat}{l:List Nat}{x:Nat}{Q:Out->AH->Prop}(et:t γ h=.ok b h) (ea:γ[a]?=some (.(r i))) (e:h[i]?=.(l (stD l))) (hl:l.length<1000000) (ev:me γ h=.ok (.int (x:Nat)) h)
 (z:W (mt γ) (h.set i (.lst (stD (if b=true then l++[x] else l)))) Q):W (z9 (sIf t (z9 (z0S (eM1 y8 (eVar a) me)) bNil) bNil) mt γ) h Q:=by
 refine zN5 et ea e (by rw [j6];exact hl) ev ?_
 have:(if b=true then stD l++[D.int (x:Nat)] else stD l)=stD (if b=true then l++[x] else l):=by cases b<;>simp [stD]
 rw [this]
 exact z
theorem z9L {ma:G->M D}{mt:G->M Out}{γ:G}{h:AH}{a b i t:Nat}{xs:List D}{v:D}{Q:Out->AH->Prop}(ev:ma γ h=.ok v h) (ea:γ[a]?=some (.(r i))) (eb:γ[b]?=some (.(i (t:Nat)))) (e:h[i]?=.(l xs)) (ht:t<xs.length)
 (z:W (mt γ) (h.set i (.lst (xs.set t v))) Q):W (z9 (sAsg ma (gIx (eVar a) (eVar b))) mt γ) h Q:=by
 have e1:gIx (eVar a) (eVar b) v γ h=.ok γ (h.set i (.lst (xs.set t v))):=by
  unfold gIx
  rw [M.bind_ok (Z1 ea),M.bind_ok (Z1 eb)]
  have:fSet (.ref i) (.int (t:Nat)) v h=.ok () (h.set i (.lst (xs.set t v))):=by
   unfold fSet
   dsimp only
   rw [e]
   dsimp only
   rw [show ixN xs.length (t:Int)=some t by unfold ixN;rw [if_pos (by omega),if_pos (by omega)];rfl]
  rw [M.bind_ok this]
  rfl
 obtain ⟨o,h',e2,q⟩:=z
 refine ⟨o,h',?_,q⟩
 unfold z9 sAsg
 rw [M.bind_ok (show (do let d ← ma γ;let γ1 ← gIx (eVar a) (eVar b) d γ;pure (.nx γ1):M Out) h=.ok (.nx γ) _ by rw [M.bind_ok ev,M.bind_ok e1];rfl)]
 exact e2
def setA (l xs:List Nat) (v:Nat):List Nat:=xs.foldl (λa x=>a.set x v) l
theorem z2k {xs:List Nat}{v:Nat}:∀{l:List Nat},(setA l xs v).length=l.length:=by
 induction xs with
 | nil=>intro l;rfl
 | cons x xs ih=>intro l;exact (ih (l:=l.set x v)).trans (by simp)
theorem z9e {xs:List Nat}{v y:Nat}:∀{l:List Nat},y<l.length->(setA l xs v)[y]?=if y∈xs then some v else l[y]?:=by
 induction xs with
 | nil=>intro l h;rw [if_neg (by simp)];rfl
 | cons x xs ih =>
  intro l h
  have:=ih (l:=l.set x v) (by simpa using h)
  rw [show setA l (x::xs) v=setA (l.set x v) xs v from rfl,this]
  by_cases q:y∈xs
  ·rw [if_pos q,if_pos (by simp [q])]
  ·rw [if_neg q]
   by_cases e:x=y
   ·subst e
    rw [K19 h,if_pos (by simp)]
   ·rw [K15 e,if_neg (by simp only [K0v,not_or];exact ⟨λz=>e z.symm,q⟩)]
theorem zn8 (l:List Nat) (t v:Nat):(stD l).set t (.int (v:Nat))=stD (l.set t v):=by unfold stD;rw [List.map_set]
theorem z60 {l xs:List Nat}{v c x:Nat}(h:xs[c]?=some x):(setA l (xs.take c) v).set x v=setA l (xs.take (c+1)) v:=by
 unfold setA
 rw [K4h,h]
 simp
theorem z3w (f:Nat->Bool) (c:Nat):(K8 (c+1)).filter f=if f c=true then (K8 c).filter f++[c] else (K8 c).filter f:=by
 rw [K88,List.filter_append]
 cases e:f c<;>simp [e]
section
variable {st:List (List Nat)}{mk:List (List Str)}{bl:Bl}
theorem zH8 {n k:Nat}(pb:PB n bl) (hk:k∈bl.map (·.1)):((K8 n).filter λx=>decide (keyOf bl x=k))=blk bl k:=by
 refine z3g (K2n _ K43) (pb.rise _ (pb.of_key hk)) λx=>?_
 rw [pb.in_blk hk,K0h,K0r]
 simp
theorem zN0 {n k:Nat}{f:Nat->Bool}(pb:PB n bl) (ct:Cut bl k f):setA (setA (hmB n bl) (yesL bl k f) ((yesL bl k f).headD 0)) (noL bl k f) ((noL bl k f).headD 0)=hmB n (cutB bl k f):=by
 have pb':=z7G pb ct
 refine K1x λx=>?_
 by_cases hx:x<n
 ·rw [z9e (by rw [z2k,z1e];exact hx),z9e (by rw [z1e];exact hx),z4A hx,z4A hx]
  by_cases q:x∈noL bl k f
  ·rw [if_pos q,pb'.key ((z06 pb ct).mpr (.inr (.inr rfl))) q]
  ·rw [if_neg q]
   by_cases r:x∈yesL bl k f
   ·rw [if_pos r,pb'.key ((z06 pb ct).mpr (.inr (.inl rfl))) r]
   ·rw [if_neg r]
    obtain ⟨hp,hm⟩:=pb.at_ hx
    have ne:keyOf bl x≠k:=λe=>by
     rw [e] at hm
     cases e2:f x with
     | true=>exact r (K0h.mpr ⟨hm,e2⟩)
     | false=>exact q (K0h.mpr ⟨hm,by simp [e2]⟩)
    rw [pb'.key ((z06 pb ct).mpr (.inl ⟨hp,ne⟩)) hm]
 ·rw [K0i (by rw [z2k,z2k,z1e];omega),K0i (by rw [z1e];omega)]
theorem zx9 {s:Str}{x:Nat}(g:z5m s):bel st mk bl (.str s) x=decide (s∈mkAt mk x):=by
 show bear s mk x=_
 unfold bear
 rw [decide_eq_false (λe=>by rw [e] at g;exact absurd g.1 (by decide)),K5y]
 rfl
theorem zt8 {n k x:Nat}(pb:PB n bl) (hk:k∈bl.map (·.1)) (hn:∀o∈nx st x,o<n):bel st mk bl (.int (k:Nat)) x=decide (k∈(nx st x).map (keyOf bl)):=by
 show ((nx st x).any λo=>decide (o∈blk bl ((k:Nat):Int).toNat))=_
 rw [K0z,K1m,decide_eq_true_eq,K04]
 constructor
 ·rintro ⟨o,ho,e⟩
  exact ⟨o,ho,((pb.in_blk hk).mp (of_decide_eq_true e)).2⟩
 ·rintro ⟨o,ho,e⟩
  exact ⟨o,ho,decide_eq_true ((pb.in_blk hk).mpr ⟨hn o ho,e⟩)⟩
theorem zF5 {h:AH}{i:Nat}{xs:List D}(e:h[i]?=.(l xs)) (hl:xs.length≤1000000):z8x [.ref i] h=.ok (.ref h.length) (h++[.lst xs]):=by
 have s:seqD (.ref i) h=.ok xs h:=by unfold seqD getL;dsimp only;rw [e]
 unfold z8x
 show (seqD (.ref i) >>= _) h=_
 rw [M.bind_ok s]
 exact zg3 hl
theorem zn3 {γ:G}{h:AH}{a i:Nat}{l:List Nat}(ea:γ[a]?=some (.(r i))) (e:h[i]?=.(l (stD l))) (hn:l≠[]):(λγ=>do let d ← FT.e2 (fEq false) (Z6 fLen (z8 (eVar a) aNil)) (λ_=>pure (.int 0)) γ;asB d:G->M Bool) γ h=.ok false h:=by
 refine cb_h (e2_h (y4 (Z1 ea) (z41 e)) (y:=.int 0) rfl ?_)
 rw [z8q,decide_eq_false]
 ·rfl
 ·have:=List.length_pos_iff.mpr hn
  rw [j6]
  omega
theorem zn7 {γ:G}{h:AH}{a i:Nat}{l:List Nat}(ea:γ[a]?=some (.(r i))) (e:h[i]?=.(l (stD l))) (hn:l≠[]):FT.e2 fIx (eVar a) (λ_=>pure (.int 0)) γ h=.ok (.int (l.headD 0:Nat)) h:=by
 refine e2_h (Z1 ea) (y:=.int 0) rfl (ix_h e ?_)
 cases l with
 | nil=>exact absurd rfl hn
 | cons x l=>exact z3m (j:=0) rfl
theorem zg4 {h:AH}{i k:Nat}{y:D}(ma:MA st mk) (pb:PB st.length bl) (bn:ByN mk bl k y) (ct:Cut bl k (bel st mk bl y)) (e:h[i]?=.(l ((stD (hmB st.length bl))))):z0e [maD st mk,.ref i,.int (k:Nat),y] h=.ok (.ref h.length) (h++[.lst (stD (hmB st.length (cutB bl k (bel st mk bl y))))]):=by
 have l2:=ma.l2
 have l3:=ma.l3
 have good:∀x s,s∈mkAt mk x->z5m s:=λx s hs=>by
  by_cases q:x<mk.length
  ·exact (ma.m1 _ (K03 (z2t q))).good s hs
  ·unfold mkAt at hs
   rw [K0i (by omega)] at hs
   cases hs
 obtain ⟨f,hf⟩:∃f,f=bel st mk bl y:=⟨_,rfl⟩
 rw [← hf] at ct ⊢
 obtain ⟨Hm,hHm⟩:∃Hm,Hm=hmB st.length bl:=⟨_,rfl⟩
 rw [← hHm] at e
 have Hl:Hm.length=st.length:=by rw [hHm,z1e]
 have Ha:∀{x:Nat},x<st.length->atI (stD Hm) (x:Int)=.(i (keyOf bl x:Nat)):=λ{x} hx=>by
  rw [z56 (by omega),hHm,z4A hx]
  rfl
 obtain ⟨blt,bll⟩:=z6b pb ct.hk
 have key:W (runF 10 z0E [maD st mk,.ref i,.int (k:Nat),y]) h λd h'=>∃j p,d=.ref p/\h'=h++j/\h.length≤p/\h'[p]?=.(l ((stD (hmB st.length (cutB bl k f))))):=by
  refine z29 ?_
  show W (z0E [some (maD st mk),.(r i),.(i (k:Nat)),some y,none,none,none,none,none,none]) h _
  unfold z0E z2G
  refine z8j (xs:=[]) (by simp) (λh=>rfl) ?_
  refine z2w (λγ h'=>∃a,γ=[some (maD st mk),.(r i),.(i (k:Nat)),some y,.(r h.length),a,none,none,none,none]/\h'=h++[.lst (stD ((K8 st.length).filter f))]) ?_ ?_
  ·refine v7 (λc γ h'=>∃a,γ=[some (maD st mk),.(r i),.(i (k:Nat)),some y,.(r h.length),a,none,none,none,none]/\h'=h++[.lst (stD ((K8 c).filter f))]) (λ_ _=>False) ?_
   refine W_of (v:=.int (st.length:Nat)) (y4 (Z1 rfl) (by rw [z41 (x5 e),j6,Hl])) ?_
   refine ⟨st.length,rfl,by omega,⟨none,rfl,rfl⟩,?_,λ_ _ q=>q,λ_ _ q=>q.elim⟩
   rintro c _ _ hc ⟨a,rfl,rfl⟩
   obtain ⟨γ,hγ⟩:∃γ:G,γ=[some (maD st mk),.(r i),.(i (k:Nat)),some y,.(r h.length),.(i (c:Nat)),none,none,none,none]:=⟨_,rfl⟩
   show W (z9 _ _ [some (maD st mk),.(r i),.(i (k:Nat)),some y,.(r h.length),.(i (c:Nat)),none,none,none,none]) _ _
   rw [← hγ]
   have g0:γ[0]?=some (some (maD st mk)):=by rw [hγ];rfl
   have g3:γ[3]?=some (some y):=by rw [hγ];rfl
   have g4:γ[4]?=some (.(r h.length)):=by rw [hγ];rfl
   have g5:γ[5]?=some (.(i (c:Nat))):=by rw [hγ];rfl
   have cl:((K8 c).filter f).length≤c:=by
    have:=K1z f (K8 c)
    simpa using this
   rcases bn with ⟨x,hx,s,hs,rfl⟩|⟨k',rfl,hk'⟩
   ·have gs:=good x s hs
    have fc:f c=decide (s∈mkAt mk c):=by rw [hf];exact zx9 gs
    refine z5y (b:=f c) (x:=c) (zm9 (cv_h (z2P (Z1 g3) rfl)) (cb_h (e2_h (Z1 g3) (e2_h (e2_h (Z1 g0) (y:=.int 1) rfl (by rw [z3z];rfl)) (Z1 g5) (by rw [ix_tup (z6z (show c<mk.length by omega))];rfl)) (by rw [z6Z,fc,K20];rfl)))) g4 J2 (by omega) (Z1 g5) ?_
    rw [z2C]
    refine z5y (b:=false) (x:=c) (zo1 (cn_h (b:=true) (cv_h (z2P (Z1 g3) rfl)))) g4 J2 (by split<;>(try rw [K08,K3a])<;>omega) (Z1 g5) ?_
    refine z0s ⟨_,hγ,?_⟩
    rw [z2C,z3w]
    rfl
   ·have fc:f c=decide (k'∈(nx st c).map (keyOf bl)):=by rw [hf];exact zt8 pb hk' λo ho=>z4o (z4T ma) ho
    have nl:=zj4 ma c
    refine z5y (b:=false) (x:=c) (zo1 (cv_h (z2P (Z1 g3) rfl))) g4 J2 (by omega) (Z1 g5) ?_
    rw [z2C]
    refine z5y (b:=f c) (x:=c) (zm9 (cn_h (b:=false) (cv_h (z2P (Z1 g3) rfl))) (zn5 (j:=[.lst (stD ((nx st c).map (keyOf bl)))]) (cb_h (e2_h (y:=.ref (h++[O.lst (stD ((K8 c).filter f))]).length) (h2:=h++[O.lst (stD ((K8 c).filter f))]++[.lst (stD ((nx st c).map (keyOf bl)))]) (Z1 g3) ?c1 ?c2)))) g4 J2 (by simpa using (by omega:((K8 c).filter f).length<1000000)) (Z1 g5) ?c3
    case c1 =>
     refine (z0B (src:=.con (stD (nx st c))) (l:=nx st c) (λ_=>true) (λt=>.int (keyOf bl t:Nat)) (z0M (e2_h (e2_h (Z1 g0) (y:=.int 0) rfl (by rw [z1M];rfl)) (Z1 g5) (by rw [z4C (show c<st.length from hc)];rfl))) rfl (λ_=>trivial) (by omega) λt ht=>⟨[.(r i),.(i (t:Nat))],λh=>by rw [hγ];rfl,λj=>rfl,λ_ j=>e2_h (Z1 rfl) (Z1 rfl) (ix_h (x5 (x5 e)) (Ha (z4o (z4T ma) ht)))⟩).trans ?_
     rw [filter_tt]
     show Res.ok _ (_++[O.lst (((nx st c).map λt=>D.int (keyOf bl t:Nat)))])=_
     rw [show ((nx st c).map λt=>D.int (keyOf bl t:Nat))=stD ((nx st c).map (keyOf bl)) by unfold stD;rw [K0o];rfl]
     rfl
    case c2 =>
     rw [z70 J2,fc,K20]
     rfl
    case c3 =>
     refine z0s ⟨_,hγ,?_⟩
     rw [z2C,z3w]
     rfl
  rintro _ _ ⟨a,rfl,rfl⟩
  obtain ⟨Ch,hCh⟩:∃Ch,Ch=(K8 st.length).filter f:=⟨_,rfl⟩
  rw [← hCh]
  obtain ⟨H0,hH0⟩:∃H0,H0=h++[O.lst (stD Ch)]:=⟨_,rfl⟩
  have eC:∀j,(H0++j)[h.length]?=.(l (stD Ch)):=λj=>by rw [hH0];exact x5 J2
  have e0:∀j,(H0++j)[i]?=.(l (stD Hm)):=λj=>by rw [hH0];exact x5 (x5 e)
  rw [← hH0]
  obtain ⟨B,hB⟩:∃B,B=blk bl k:=⟨_,rfl⟩
  have Bl':B.length≤40:=by rw [hB];omega
  have c1:Y3 [some 1,some 2,none] (z0g (Z6 fLen (z8 (eVar 1) aNil))) (gN 2) (λγ=>do let d ← FT.e2 (fEqX false) (FT.e2 fIx (eVar 0) (eVar 2)) (eVar 1) γ;asB d) (eVar 2) [some (maD st mk),.(r i),.(i (k:Nat)),some y,.(r h.length),a,none,none,none,none] H0=.ok (.ref H0.length) (H0++[.lst (stD B)]):=by
   refine (z0B (src:=.con (z0H st.length)) (l:=K8 st.length) (λx=>decide (keyOf bl x=k)) (λx=>.int (x:Nat)) (z2Q (y4 (Z1 rfl) (by have:=e0 [];rw [K1u] at this;rw [z41 this,j6,Hl])) (by omega)) rfl (λ_=>trivial) (by simp;omega) λx hx=>⟨[.(r i),.(i (k:Nat)),.(i (x:Nat))],λh=>rfl,λj=>?_,λ_ j=>Z1 rfl⟩).trans ?_
   ·refine cb_h (e2_h (e2_h (Z1 rfl) (Z1 rfl) (ix_h (e0 j) (Ha (K0r.mp hx)))) (Z1 rfl) ?_)
    rw [z3b (z1z (n:=23) _ _),K20]
   ·rw [hB,← zH8 pb ct.hk]
    rfl
  refine Y4 (.ref H0.length) [some (maD st mk),.(r i),.(i (k:Nat)),some y,.(r h.length),a,.(r H0.length),none,none,none] c1 rfl ?_
  have inC:∀x∈B,decide (x∈Ch)=f x:=λx hx=>by
   have:=blt x (by rw [← hB];exact hx)
   rw [hCh,K0z,decide_eq_true_eq,K0h,K0r]
   exact ⟨λz=>z.2,λz=>⟨this,z⟩⟩
  have c2:Y3 [some 4,none] (z0h (eVar 6)) (gN 1) (λγ=>do let d ← FT.e2 (fIn false) (eVar 1) (eVar 0) γ;asB d) (eVar 1) [some (maD st mk),.(r i),.(i (k:Nat)),some y,.(r h.length),a,.(r H0.length),none,none,none] (H0++[.lst (stD B)])=.ok (.ref (H0++[O.lst (stD B)]).length) (H0++[.lst (stD B)]++[.lst (stD (yesL bl k f))]):=by
   refine (z0B (l:=B) (λx=>decide (x∈Ch)) (λx=>.int (x:Nat)) (z48 (Z1 rfl) J2) rfl (λj=>x5 J2) (by omega) λx hx=>⟨[.(r h.length),.(i (x:Nat))],λh=>rfl,λj=>?_,λ_ j=>Z1 rfl⟩).trans ?_
   ·refine cb_h (e2_h (Z1 rfl) (Z1 rfl) ?_)
    rw [z70 (l:=Ch) (by rw [K02];exact eC _),K20]
   ·rw [K75 inC,hB]
    rfl
  refine Y4 (.ref (H0++[O.lst (stD B)]).length) [some (maD st mk),.(r i),.(i (k:Nat)),some y,.(r h.length),a,.(r H0.length),.(r ((H0++[O.lst (stD B)]).length)),none,none] c2 rfl ?_
  have eB:∀j,(H0++[O.lst (stD B)]++j)[H0.length]?=.(l (stD B)):=λj=>x5 J2
  obtain ⟨H1,hH1⟩:∃H1,H1=H0++[O.lst (stD B)]:=⟨_,rfl⟩
  rw [← hH1] at eB ⊢
  have c3:Y3 [some 4,none] (z0h (eVar 6)) (gN 1) (λγ=>do let d ← FT.e2 (fIn true) (eVar 1) (eVar 0) γ;asB d) (eVar 1) [some (maD st mk),.(r i),.(i (k:Nat)),some y,.(r h.length),a,.(r H0.length),.(r H1.length),none,none] (H1++[.lst (stD (yesL bl k f))])=.ok (.ref (H1++[O.lst (stD (yesL bl k f))]).length) (H1++[.lst (stD (yesL bl k f))]++[.lst (stD (noL bl k f))]):=by
   refine (z0B (l:=B) (λx=>!decide (x∈Ch)) (λx=>.int (x:Nat)) (z48 (Z1 rfl) (eB _)) rfl (λj=>by show (_++j)[H0.length]?=_;rw [K02];exact eB _) (by omega) λx hx=>⟨[.(r h.length),.(i (x:Nat))],λh=>rfl,λj=>?_,λ_ j=>Z1 rfl⟩).trans ?_
   ·refine cb_h (e2_h (Z1 rfl) (Z1 rfl) ?_)
    rw [z70 (l:=Ch) (by rw [K02,hH1,K02];exact eC _),Bool.bne_true]
   ·rw [K75 (q:=λx=>!f x) λx hx=>by rw [inC x hx],hB]
    rfl
  refine Y4 (.ref (H1++[O.lst (stD (yesL bl k f))]).length) [some (maD st mk),.(r i),.(i (k:Nat)),some y,.(r h.length),a,.(r H0.length),.(r H1.length),.(r ((H1++[O.lst (stD (yesL bl k f))]).length)),none] c3 rfl ?_
  obtain ⟨Y,hY⟩:∃Y,Y=yesL bl k f:=⟨_,rfl⟩
  obtain ⟨N,hN⟩:∃N,N=noL bl k f:=⟨_,rfl⟩
  have hy:Y≠[]:=by rw [hY];exact ct.hy
  have hn:N≠[]:=by rw [hN];exact ct.hn
  have subB:∀{x:Nat},x∈Y∨x∈N->x<st.length:=λ{x} z=>by
   rw [hY,hN] at z
   refine blt x ?_
   rcases z with z|z<;>exact (K0h.mp z).1
  rw [← hY,← hN]
  obtain ⟨H2,hH2⟩:∃H2,H2=H1++[O.lst (stD Y)]++[O.lst (stD N)]:=⟨_,rfl⟩
  have eY:∀j,(H2++j)[H1.length]?=.(l (stD Y)):=λj=>by rw [hH2];exact x5 (x5 J2)
  have eN:∀j,(H2++j)[(H1++[O.lst (stD Y)]).length]?=.(l (stD N)):=λj=>by rw [hH2];exact x5 J2
  have eH:H2[i]?=.(l (stD Hm)):=by rw [hH2,hH1,K02,K02];exact e0 _
  have eY0:=eY []
  have eN0:=eN []
  rw [K1u] at eY0 eN0
  rw [← hH2]
  refine z10 false (z5k (zn3 rfl eY0 hy) (zn3 rfl eN0 hn)) ?_
  rw [if_neg (by decide)]
  refine z0x (Y4 (.ref H2.length) [some (maD st mk),.(r i),.(i (k:Nat)),some y,.(r h.length),a,.(r H0.length),.(r H1.length),.(r ((H1++[O.lst (stD Y)]).length)),.(r H2.length)] (y4 (Z1 rfl) (zF5 eH (by rw [j6];omega))) rfl ?_)
  obtain ⟨u,hu⟩:∃u,u=Y.headD 0:=⟨_,rfl⟩
  obtain ⟨v,hv⟩:∃v,v=N.headD 0:=⟨_,rfl⟩
  refine z2w (λγ h'=>∃a,γ=[some (maD st mk),.(r i),.(i (k:Nat)),some y,.(r h.length),a,.(r H0.length),.(r H1.length),.(r ((H1++[O.lst (stD Y)]).length)),.(r H2.length)]/\h'=H2++[.lst (stD (setA Hm Y u))]) ?_ ?_
  ·refine z18 (λc γ h'=>∃a,γ=[some (maD st mk),.(r i),.(i (k:Nat)),some y,.(r h.length),a,.(r H0.length),.(r H1.length),.(r ((H1++[O.lst (stD Y)]).length)),.(r H2.length)]/\h'=H2++[.lst (stD (setA Hm (Y.take c) u))]) (λ_ _=>False) ?_
   refine W_of (v:=.lst H1.length (stD Y)) (z48 (Z1 rfl) (eY _)) ?_
   refine ⟨⟨a,rfl,rfl⟩,λc γ h' ⟨_,_,q⟩=>by rw [q];exact eY _,?_,?_,λ_ _ q=>q.elim⟩
   ·rintro c d γ _ hd ⟨a,rfl,rfl⟩
    obtain ⟨x,rfl,ex⟩:=z36 (show (stD Y)[c]?=some d from hd)
    refine W_eq (v:=[some (maD st mk),.(r i),.(i (k:Nat)),some y,.(r h.length),.(i (x:Nat)),.(r H0.length),.(r H1.length),.(r ((H1++[O.lst (stD Y)]).length)),.(r H2.length)]) rfl ?_
    refine z9L (zn7 rfl (eY _) hy) rfl rfl J2 (by rw [j6,z2k,Hl];exact subB (.inl (K03 ex))) ?_
    refine z0s ⟨_,rfl,?_⟩
    rw [z2C,zn8,← hu,z60 ex]
   ·rintro γ _ ⟨a,rfl,rfl⟩
    rw [show (Src.lst H1.length (stD Y)).items.length=Y.length from j6 Y,K1e]
    exact ⟨a,rfl,rfl⟩
  rintro _ _ ⟨a,rfl,rfl⟩
  refine z2w (λγ h'=>∃a,γ=[some (maD st mk),.(r i),.(i (k:Nat)),some y,.(r h.length),a,.(r H0.length),.(r H1.length),.(r ((H1++[O.lst (stD Y)]).length)),.(r H2.length)]/\h'=H2++[.lst (stD (setA (setA Hm Y u) N v))]) ?_ ?_
  ·refine z18 (λc γ h'=>∃a,γ=[some (maD st mk),.(r i),.(i (k:Nat)),some y,.(r h.length),a,.(r H0.length),.(r H1.length),.(r ((H1++[O.lst (stD Y)]).length)),.(r H2.length)]/\h'=H2++[.lst (stD (setA (setA Hm Y u) (N.take c) v))]) (λ_ _=>False) ?_
   refine W_of (v:=.lst (H1++[O.lst (stD Y)]).length (stD N)) (z48 (Z1 rfl) (eN _)) ?_
   refine ⟨⟨a,rfl,rfl⟩,λc γ h' ⟨_,_,q⟩=>by rw [q];exact eN _,?_,?_,λ_ _ q=>q.elim⟩
   ·rintro c d γ _ hd ⟨a,rfl,rfl⟩
    obtain ⟨x,rfl,ex⟩:=z36 (show (stD N)[c]?=some d from hd)
    refine W_eq (v:=[some (maD st mk),.(r i),.(i (k:Nat)),some y,.(r h.length),.(i (x:Nat)),.(r H0.length),.(r H1.length),.(r ((H1++[O.lst (stD Y)]).length)),.(r H2.length)]) rfl ?_
    refine z9L (zn7 rfl (eN _) hn) rfl rfl J2 (by rw [j6,z2k,z2k,Hl];exact subB (.inr (K03 ex))) ?_
    refine z0s ⟨_,rfl,?_⟩
    rw [z2C,zn8,← hv,z60 ex]
   ·rintro γ _ ⟨a,rfl,rfl⟩
    rw [show (Src.lst (H1++[O.lst (stD Y)]).length (stD N)).items.length=N.length from j6 N,K1e]
    exact ⟨a,rfl,rfl⟩
  rintro _ _ ⟨a,rfl,rfl⟩
  have fe:=zN0 pb ct
  rw [← hY,← hN,← hHm,← hu,← hv] at fe
  rw [fe]
  refine z07 (.ref H2.length) (Z1 rfl) ⟨[.lst (stD Ch),.lst (stD B),.lst (stD Y),.lst (stD N),.lst (stD (hmB st.length (cutB bl k f)))],H2.length,rfl,?_,?_,J2⟩
  ·rw [hH2,hH1,hH0]
   simp
  ·rw [hH2,hH1,hH0]
   simp only [K08]
   omega
 obtain ⟨d,h',e',j,p,rfl,rfl,hp,ep⟩:=key
 exact z2j e' rfl (z2W h) hp ep (z0V _)
theorem zv7 {h:AH}(i:Int):z00 [.int i] h=.ok (.bl false) h:=by
 show cln (runF 2 k7 [.int i]) h=_
 refine z0u (j:=[.lst ((["yes","no","not","and","or","step","some","all","next","once","ever","until","unless"]:List Str).map D.str)]) (z4t ?_) rfl
 show W (k7 [.(i i),none]) h _
 unfold k7
 refine z8j (xs:=(["yes","no","not","and","or","step","some","all","next","once","ever","until","unless"]:List Str).map D.str) (by decide) (λh=>rfl) ?_
 refine z10 true (zE8 (cn_h (b:=false) (cv_h (z2P (Z1 rfl) rfl)))) ?_
 rw [if_pos rfl]
 exact z6K (z07 (.bl false) rfl ⟨rfl,rfl⟩)
theorem zj7 {n:Nat}(hn:0<n):hmB n [(0,K8 n)]=K0d n 0:=by
 have pb:=z2X hn
 refine K1x λx=>?_
 by_cases hx:x<n
 ·rw [z4A hx,pb.key (p:=(0,K8 n)) (by simp) (K0r.mpr hx),K27,if_pos hx]
 ·rw [K0i (by rw [z1e];omega),K0i (by simp;omega)]
theorem zM7 {h:AH}{cs:List (Nat×D)}(ma:MA st mk) (cu:Cuts st mk [(0,K8 st.length)] cs bl):z0D [maD st mk,.tup (z08 cs)] h=.ok (.ref h.length) (h++[.lst (stD (hmB st.length bl))]):=by
 have l1:=ma.l1
 have l2:=ma.l2
 have l3:=ma.l3
 have pb0:PB st.length [(0,K8 st.length)]:=z2X (by omega)
 obtain ⟨C,hC⟩:∃C,C=D.tup (z08 cs):=⟨_,rfl⟩
 rw [← hC]
 have key:W (runF 4 z09 [maD st mk,C]) h λd h'=>∃j p,d=.ref p/\h'=h++j/\h.length≤p/\h'[p]?=.(l ((stD (hmB st.length bl)))):=by
  refine z29 ?_
  show W (z09 [some (maD st mk),some C,none,none]) h _
  unfold z09 z2G
  have c0:Y3 [none] (z0o (FT.e2 fIx (eVar 0) (λ_=>pure (.int 0)))) (gN 0) (λ_=>pure true) (λ_=>pure (.int 0)) [some (maD st mk),some C,none,none] h=.ok (.ref h.length) (h++[.lst (stD (hmB st.length [(0,K8 st.length)]))]):=by
   refine (z1C (src:=.con (stsD st)) (λ_=>true) (λ_=>.int ((0:Nat):Int)) (z0M (e2_h (Z1 rfl) (y:=.int 0) rfl (by rw [z1M];rfl))) (λ_=>trivial) (by show (stsD st).length≤_;rw [z1Z];omega) λd hd=>⟨[some d],λh=>rfl,λj=>rfl,λ_ j=>rfl⟩).trans ?_
   rw [filter_tt,zj7 (by omega)]
   show Res.ok _ (h++[O.lst ((stsD st).map λ_=>D.int ((0:Nat):Int))])=_
   rw [List.map_const',z1Z]
   unfold stD
   rw [K99]
  refine Y4 (.ref h.length) [some (maD st mk),some C,.(r h.length),none] c0 rfl ?_
  refine z10 (!true) (cn_h (cv_h (z2P (Z1 rfl) (by rw [hC];rfl)))) ?_
  rw [if_neg (by decide)]
  refine z0x ?_
  refine z2w (λγ h'=>∃a j p,γ=[some (maD st mk),some C,.(r p),a]/\h'=h++j/\h.length≤p/\h'[p]?=.(l ((stD (hmB st.length bl))))) ?_ ?_
  ·refine z18 (λc γ h'=>∃a j p bl1,γ=[some (maD st mk),some C,.(r p),a]/\h'=h++j/\h.length≤p/\h'[p]?=.(l ((stD (hmB st.length bl1))))/\Cuts st mk [(0,K8 st.length)] (cs.take c) bl1) (λ_ _=>False) ?_
   refine W_of (v:=.con (z08 cs)) (z0M (by rw [hC];exact Z1 rfl)) ?_
   refine ⟨⟨none,_,h.length,_,rfl,rfl,K01 _,J2,.nil⟩,λ_ _ _ _=>trivial,?_,?_,λ_ _ q=>q.elim⟩
   ·rintro c d γ _ hd ⟨a,j,p,bl1,rfl,rfl,hp,ep,c1⟩
    obtain ⟨q,eq,rfl⟩:∃q,cs[c]?=some q/\d=.tup [.int (q.1:Nat),q.2]:=by
     have h:=show (z08 cs)[c]?=some d from hd
     unfold z08 at h
     rw [K0e] at h
     obtain ⟨q,eq,rfl⟩:=K10.mp h
     exact ⟨q,eq,rfl⟩
    obtain ⟨bl2,k,y,c2,c3,ec,bn,ct⟩:=z5n cu c (K5.mp eq).1
    obtain ⟨_,rfl⟩:=z1I c1 c2 rfl
    rw [eq] at ec
    injection ec with ec
    subst ec
    have pb:=(c1.len pb0).1
    have kl:=pb.klt ct.hk
    obtain ⟨γ,hγ⟩:∃γ:G,γ=[some (maD st mk),some C,.(r p),.(g [.int (k:Nat),y])]:=⟨_,rfl⟩
    refine W_eq (v:=γ) (by rw [hγ];rfl) ?_
    have g0:γ[0]?=some (some (maD st mk)):=by rw [hγ];rfl
    have g2:γ[2]?=some (.(r p)):=by rw [hγ];rfl
    have g3:γ[3]?=some (.(g [.int (k:Nat),y])):=by rw [hγ];rfl
    have ln:Z6 fLen (z8 (eVar 2) aNil) γ (h++j)=.ok (.int (st.length:Nat)) (h++j):=y4 (Z1 g2) (by rw [z41 ep,j6,z1e])
    have i0:FT.e2 fIx (eVar 3) (λ_=>pure (.int 0)) γ (h++j)=.ok (.int (k:Nat)) (h++j):=e2_h (Z1 g3) (y:=.int 0) rfl rfl
    have i1:FT.e2 fIx (eVar 3) (λ_=>pure (.int 1)) γ (h++j)=.ok y (h++j):=e2_h (Z1 g3) (y:=.int 1) rfl rfl
    refine z10 false (z5k (cn_h (b:=true) (cv_h (fn_h (ds:=[.tup [.int (k:Nat),y],.int 2,.int 2]) (ac_h (Z1 g3) (ac_h (d:=.int 2) rfl (ac_h (d:=.int 2) rfl rfl))) rfl (congrFun (z6A (m:=2) (n:=2) (by simp) (by simp)) _)))) (cn_h (b:=true) (cv_h (fn_h (ds:=[.int (k:Nat),.int 0,.int (st.length:Nat)]) (ac_h i0 (ac_h (d:=.int 0) rfl (ac_h ln rfl))) rfl (congrFun (z5u kl) _))))) ?_
    rw [if_neg (by decide)]
    refine z0x ?_
    have rest:∀{Q:Out->AH->Prop},(∀j',Q (.nx (γ.set 2 (.(r ((h++j).length))))) (h++j++[.lst (stD (hmB st.length (cutB bl1 k (bel st mk bl1 y))))]))->W (z9 (sAsg (eFn 4 z0e (z8 (eVar 0) (z8 (eVar 2) (z8 (FT.e2 fIx (eVar 3) (λ_=>pure (.int 0))) (z8 (FT.e2 fIx (eVar 3) (λ_=>pure (.int 1))) aNil))))) (gN 2)) (z9 (sIf (λγ=>do let d ← FT.e2 (fIs false) (eVar 2) (λ_=>pure .non) γ;asB d) (z9 (sRet (λ_=>pure .non)) bNil) bNil) bNil) γ) (h++j) Q:=λ{Q} z=>by
     refine Y4 (.ref (h++j).length) (γ.set 2 (.(r ((h++j).length)))) (fn_h (ds:=[maD st mk,.ref p,.int (k:Nat),y]) (ac_h (Z1 g0) (ac_h (Z1 g2) (ac_h i0 (ac_h i1 rfl)))) rfl (zg4 ma pb bn ct ep)) rfl ?_
     refine z10 false (cb_h (e2_h (x:=.ref (h++j).length) (Z1 (by rw [hγ];rfl)) (y:=.non) rfl rfl)) ?_
     rw [if_neg (by decide)]
     exact z0x (z0s (z 0))
    have fin:W (z9 (sAsg (eFn 4 z0e (z8 (eVar 0) (z8 (eVar 2) (z8 (FT.e2 fIx (eVar 3) (λ_=>pure (.int 0))) (z8 (FT.e2 fIx (eVar 3) (λ_=>pure (.int 1))) aNil))))) (gN 2)) (z9 (sIf (λγ=>do let d ← FT.e2 (fIs false) (eVar 2) (λ_=>pure .non) γ;asB d) (z9 (sRet (λ_=>pure .non)) bNil) bNil) bNil) γ) (h++j) (forW (λγ h'=>∃a j p bl1,γ=[some (maD st mk),some C,.(r p),a]/\h'=h++j/\h.length≤p/\h'[p]?=.(l ((stD (hmB st.length bl1))))/\Cuts st mk [(0,K8 st.length)] (cs.take (c+1)) bl1) λ_ _=>False) :=
     rest λ_=>⟨_,j++[.lst (stD (hmB st.length (cutB bl1 k (bel st mk bl1 y))))],(h++j).length,_,by rw [hγ];rfl,by rw [K02],by rw [K08];omega,J2,c3⟩
    rcases bn with ⟨x,hx,s,hs,rfl⟩|⟨k',rfl,hk'⟩
    ·have gs:z5m s:=by
      have:mkAt mk x∈mk:=K03 (z2t (by have:=(z6b pb ct.hk).1 x hx;omega))
      exact (ma.m1 _ this).good s hs
     refine z10 (!true) (cn_h (cv_h (fn_h (ds:=[.str s]) (ac_h i1 rfl) rfl (zJ1 gs)))) ?_
     rw [if_neg (by decide)]
     exact z0x fin
    ·have kl':=pb.klt hk'
     refine z10 (!false) (cn_h (cv_h (fn_h (ds:=[.int (k':Nat)]) (ac_h i1 rfl) rfl (zv7 _)))) ?_
     rw [if_pos (by rfl)]
     refine z6K (z10 false (z5k (cn_h (b:=true) (cv_h (fn_h (ds:=[.int (k':Nat),.int 0,.int (st.length:Nat)]) (ac_h i1 (ac_h (d:=.int 0) rfl (ac_h ln rfl))) rfl (congrFun (z5u kl') _)))) (cb_h (e2_h (e2_h (Z1 g2) i1 (ix_h ep (d:=.int (k':Nat)) (by rw [z56 (by rw [z1e];exact kl'),z4A kl',pb.keyself hk'];rfl))) i1 (by rw [zM5,decide_eq_true rfl];rfl)))) ?_)
     rw [if_neg (by decide)]
     exact z0x (z0x fin)
   ·rintro γ h' ⟨a,j,p,bl1,rfl,rfl,hp,ep,c1⟩
    rw [show (Src.con (z08 cs)).items.length=cs.length by show (z08 cs).length=_;unfold z08;rw [K00],K1e] at c1
    obtain ⟨_,rfl⟩:=z1I c1 cu rfl
    exact ⟨a,j,p,rfl,rfl,hp,ep⟩
  rintro _ _ ⟨a,j,p,rfl,rfl,hp,ep⟩
  exact z07 (.ref p) (Z1 rfl) ⟨j,p,rfl,rfl,hp,ep⟩
 obtain ⟨d,h',e',j,p,rfl,rfl,hp,ep⟩:=key
 exact z2j e' rfl (z2W h) hp ep (z0V _)
end
theorem zF8 {bst st:List (List Nat)}{bmk mk:List (List Str)}{raw:List Nat}(c:Cop bst bmk st mk raw) (ba:MA bst bmk) (lr:raw.length≤40):MA st mk:=by
 have l:=c.l
 have m0:0∈raw:=(c.kd 0).mpr ba.l1
 have:=K5p m0
 have cm:∀l∈st,∃i,i<raw.length/\l=nx st i:=λl h=>by
  obtain ⟨i,hi,e⟩:=K2y h
  exact ⟨i,by rw [← c.l];exact hi,by unfold nx;rw [K4 hi,e];rfl⟩
 refine ⟨by omega,by omega,by rw [c.ml,K00,l],λq hq=>?_,λq hq x hx=>?_,λq hq=>?_⟩
 ·obtain ⟨i,hi,rfl⟩:=cm _ hq
  exact c.rise i hi
 ·obtain ⟨i,hi,rfl⟩:=cm _ hq
  rw [l]
  exact c.lt i hi x hx
 ·rw [c.ml] at hq
  obtain ⟨x,hx,rfl⟩:=K04.mp hq
  have xl:=(c.kd x).mp hx
  have l3:=ba.l3
  exact ba.m1 _ (K03 (z2t (show x<bmk.length by omega)))
theorem zj9 {b c:Bool}:z0O [.bl b,.bl c]=pure (.bl (b==c)):=by
 unfold z0O
 rw [z0Q (d:=.bl (b==c)),z0n]
 show z1x [some (.bl b),some (.bl c)]=_
 unfold z1x
 refine z4s _ ?_
 simp only [K20,K7,K3,z0C,Y2,e2,eAnd,eIsi,eVar,zD3,zl9]
 cases b<;>cases c<;>rfl
theorem z46 {f:D->D->Option Bool}:∀{xs:List D},(∀x∈xs,f x x=some true)->eqZ f xs xs=some true
 | [],_=>rfl
 | x::xs,h=>by
  have h1:=h x (by simp)
  have h2:=z46 λy hy=>h y (K1a _ hy)
  unfold eqZ
  simp [h1,h2]
section
variable {st:List (List Nat)}{mk:List (List Str)}{bl:Bl}
theorem z9p {n:Nat}(pb:PB n bl):setN (hmB n bl)=z0t (bl.map (·.1)):=by
 refine z3g (z2d _) (z17 pb.nd) λx=>?_
 rw [z1r,sortN_mem]
 unfold hmB
 rw [K04]
 constructor
 ·rintro ⟨y,hy,rfl⟩
  exact pb.keyin (K0r.mp hy)
 ·intro h
  exact ⟨x,K0r.mpr (pb.klt h),pb.keyself h⟩
theorem zp1 {n:Nat}(pb:PB n bl):numL (hmB n bl)=rowB n bl:=by
 unfold numL
 rw [z9p pb]
 unfold hmB rowB
 rw [K0o]
 rfl
theorem zj5 (sq:SQ st) (pb:PB st.length bl) (co:∀x y,x<st.length->y<st.length->(keyOf bl x=keyOf bl y↔Sim st mk x y)):j7 st mk st.length=hmB st.length bl:=by
 obtain ⟨H,hH⟩:∃H,H=j7 st mk st.length:=⟨_,rfl⟩
 have c:CanH st.length H:=by rw [hH];exact z1P _
 have sim:∀{x y:Nat},x<st.length->y<st.length->(rowAt H x=rowAt H y↔Sim st mk x y):=λhx hy=>by rw [hH];exact z95 sq hx hy
 rw [← hH]
 refine K1x λx=>?_
 by_cases hx:x<st.length
 ·rw [z4A hx,z1G (by rw [c.len];exact hx)]
  have a1:=c.le x hx
  have a2:=pb.keyle hx
  have s1:=(co (rowAt H x) x (by omega) hx).mpr ((sim (by omega) hx).mp (c.fix x hx))
  have b1:=pb.keyle (show rowAt H x<st.length by omega)
  have s2:=(sim (show keyOf bl x<st.length by omega) hx).mpr ((co _ x (by omega) hx).mp (pb.keyself (pb.keyin hx)))
  have b2:=c.le _ (show keyOf bl x<st.length by omega)
  rw [show rowAt H x=keyOf bl x by omega]
 ·rw [K0i (by rw [c.len];omega),K0i (by rw [z1e];omega)]
theorem z9z {l:List Nat}{x y:Nat}(hx:x∈l) (hy:y∈l):l.idxOf x=l.idxOf y↔x=y :=
 ⟨λe=>by rw [← z1O hx,e,z1O hy],λe=>by rw [e]⟩
theorem z3v {n x:Nat}(hx:x<n):rowAt (rowB n bl) x=(z0t (bl.map (·.1))).idxOf (keyOf bl x):=z1U (by unfold rowB;rw [K0e,K1p hx];rfl)
theorem z8M {n:Nat}(pb:PB n bl):Canon (rowB n bl):=λi v e u hu=>by
 have hi:i<n:=by have:=(K5.mp e).1;rwa [z2q] at this
 obtain ⟨K,hK⟩:∃K,K=z0t (bl.map (·.1)):=⟨_,rfl⟩
 have rise:K.Pairwise (·<·):=by rw [hK];exact z17 pb.nd
 have ev:v=K.idxOf (keyOf bl i):=by rw [← z1U e,z3v hi,hK]
 have mk:∀x,x∈K↔x∈bl.map (·.1):=λx=>by rw [hK,sortN_mem]
 have ki:keyOf bl i∈K:=(mk _).mpr (pb.keyin hi)
 have vl:v<K.length:=by rw [ev];exact K14.mpr ki
 have ul:u<K.length:=by omega
 have um:rowAt K u∈bl.map (·.1):=(mk _).mp (z27 ul)
 have lt:rowAt K u<keyOf bl i:=by
  have:=K6q.mp rise u v ul vl hu
  have e1:K[u]=rowAt K u:=(z1U (K4 ul)).symm
  have e2:K[v]=keyOf bl i:=by
   rw [← z1O ki,← ev]
   exact (z1U (K4 vl)).symm
  rw [e1,e2] at this
  exact this
 have kle:=pb.keyle hi
 have ku:=pb.keyself um
 have kl:=pb.klt um
 refine K03 (i:=rowAt K u) ?_
 rw [K2m,if_pos (by omega),z1G (by rw [z2q];exact kl),z3v kl,ku,← hK]
 rw [zD8 (z3k rise) ul]
theorem zH4 (ma:MA st mk) (pb:PB st.length bl) (dn:Done st mk bl):MR st mk (rowB st.length bl):=by
 have sb:=z7h ma pb dn
 have sq:=z4T ma
 refine ⟨sq,ma.s1,ma.l3,z2q,z8M pb,λi hi=>?_⟩
 rw [z2q] at hi
 obtain ⟨j,hj⟩:∃j,j=(rowB st.length bl).idxOf (rowAt (rowB st.length bl) i):=⟨_,rfl⟩
 rw [← hj]
 have im:rowAt (rowB st.length bl) i∈rowB st.length bl:=z27 (by rw [z2q];exact hi)
 have jl:j<st.length:=by have:=K14.mpr im;rw [z2q] at this;omega
 have re:rowAt (rowB st.length bl) j=rowAt (rowB st.length bl) i:=by rw [hj];exact z1O im
 have ke:keyOf bl i=keyOf bl j:=by
  rw [z3v jl,z3v hi] at re
  exact ((z9z (by rw [sortN_mem];exact pb.keyin jl) (by rw [sortN_mem];exact pb.keyin hi)).mp re).symm
 have e1:i<st.length/\j<st.length/\keyOf bl i=keyOf bl j:=⟨hi,jl,ke⟩
 have sub:∀{x y:Nat},(x<st.length/\y<st.length/\keyOf bl x=keyOf bl y)->∀u,u∈(nx st x).map (rowAt (rowB st.length bl))->u∈(nx st y).map (rowAt (rowB st.length bl)):=λ{x y} e u hu=>by
  obtain ⟨o,ho,rfl⟩:=K04.mp hu
  obtain ⟨t,ht,q1,q2,q3⟩:=sb.steps x y e o ho
  refine K04.mpr ⟨t,ht,?_⟩
  rw [z3v q2,z3v q1,q3]
 refine ⟨sb.marks i j e1,z3g (z2d _) (z2d _) λu=>?_⟩
 show u∈setN _↔u∈setN _
 rw [z1r,z1r]
 exact ⟨sub e1 u,sub ⟨e1.2.1,e1.1,e1.2.2.symm⟩ u⟩
theorem zj0 {h:AH}{cs:List (Nat×D)}(ma:MA st mk) (pb:PB st.length bl) (m:MR st mk (rowB st.length bl)) (cu:Cuts st mk [(0,K8 st.length)] cs bl):Y5 [maD st mk,.tup [.tup (stD (rowB st.length bl)),.tup (z08 cs)]] h=.ok (.bl true) h:=by
 have l2:=ma.l2
 have bln:=pb.len
 obtain ⟨R,hR⟩:∃R,R=D.tup (stD (rowB st.length bl)):=⟨_,rfl⟩
 obtain ⟨C,hC⟩:∃C,C=D.tup (z08 cs):=⟨_,rfl⟩
 rw [← hR,← hC]
 refine zo2 rfl (z29 ?_)
 show W (Y6 [some (maD st mk),.(g [R,C]),none]) h _
 unfold Y6
 refine z10 false (z5k (cn_h (b:=true) (cv_h (fn_h (ds:=[.tup [R,C],.int 2,.int 2]) (ac_h (Z1 rfl) (ac_h (d:=.int 2) rfl (ac_h (d:=.int 2) rfl rfl))) rfl (congrFun (z6A (m:=2) (n:=2) (by simp) (by simp)) _)))) (cn_h (b:=true) (cv_h (fn_h (ds:=[maD st mk,R]) (ac_h (Z1 rfl) (ac_h (e2_h (Z1 rfl) (y:=.int 0) rfl rfl) rfl)) rfl (by rw [hR];exact z9H m))))) ?_
 rw [if_neg (by decide)]
 refine z0x (Y4 (.ref h.length) [some (maD st mk),.(g [R,C]),.(r h.length)] (fn_h (ds:=[maD st mk,C]) (ac_h (Z1 rfl) (ac_h (e2_h (Z1 rfl) (y:=.int 1) rfl rfl) rfl)) rfl (by rw [hC];exact zM7 ma cu)) rfl ?_)
 have nm:=z4L (h:=h++[.lst (stD (hmB st.length bl))]) (i:=h.length) (l:=hmB st.length bl) J2 (by rw [z1e];omega) (by rw [z9p pb,v5,K00];omega)
 rw [zp1 pb] at nm
 refine z07 (.bl true) (h1:=h++[.lst (stD (hmB st.length bl))]) (z6l (e2_h (x:=.ref h.length) (Z1 rfl) (y:=.non) rfl rfl) (e2_h (fn_h (ds:=[.ref h.length]) (ac_h (Z1 rfl) rfl) rfl nm) (e2_h (Z1 rfl) (y:=.int 0) rfl rfl) ?_)) ⟨rfl,_,rfl⟩
 rw [hR,z8Z,decide_eq_true rfl]
 rfl
theorem zO9 {h:AH}{row:List Nat}{cs:List (Nat×D)}{bl0:Bl}(cu:Cuts st mk bl0 cs bl):fEqX false (.tup [.tup (stD row),.tup (z08 cs)]) (.tup [.tup (stD row),.tup (z08 cs)]) h=.ok (.bl true) h:=by
 refine (z3b (b:=true) ?_).trans rfl
 have by_:∀p∈cs,(∃s,p.2=.str s)∨∃k:Nat,p.2=.int (k:Nat):=by
  induction cu with
  | nil=>intro p hp;cases hp
  | snoc c b f ct ih =>
   intro p hp
   rcases K0w.mp hp with q|q
   ·exact ih p q
   ·simp at q
    subst q
    rcases b.ok with ⟨s,e⟩|⟨k',e,_⟩
    ·exact .inl ⟨s,e⟩
    ·exact .inr ⟨k',e⟩
 have int:∀(n a:Nat),eqN (n+1) h (.int (a:Nat)) (.int (a:Nat))=some true:=λn a=>by rw [z1z,decide_eq_true rfl]
 have str:∀(n:Nat) (s:Str),eqN (n+1) h (.str s) (.str s)=some true:=λn s=>by rw [z5w,decide_eq_true rfl]
 refine z46 (f:=eqN 23 h) λx hx=>?_
 simp only [K0v,K4n,or_false] at hx
 rcases hx with rfl|rfl
 ·refine z46 (f:=eqN 22 h) λx hx=>?_
  obtain ⟨a,_,rfl⟩:=K04.mp (show x∈row.map _ from hx)
  exact int _ a
 ·refine z46 (f:=eqN 22 h) λx hx=>?_
  obtain ⟨p,hp,rfl⟩:=K04.mp (show x∈cs.map _ from hx)
  refine z46 (f:=eqN 21 h) λx hx=>?_
  simp only [K0v,K4n,or_false] at hx
  rcases hx with rfl|rfl
  ·exact int _ p.1
  ·rcases by_ p hp with ⟨s,e⟩|⟨k,e⟩<;>rw [e]
   ·exact str _ s
   ·exact int _ k
end
theorem math0 {ns:List Int}(hn:ns.length≤63):W (m_law [.fl (ns.map .int)]) [] (λd _=>d=.bl true):=by
 refine z29 ?_
 show W (zj1 [some (.fl (ns.map .int)),none,none,none,none,none,none]) [] _
 unfold zj1
 refine z1q _ (by simp only [K3,K07,K0g,K0u,z8,aNil,Y2,eFn,eVar,if_true];exact zd8 hn) ?_
 rintro d h1 ⟨rfl,p1⟩
 refine z1q (λd h1=>∃m:Nat,d=.int (m:Nat)/\PS h1 10 []) ?_ ?_
 ·simp only [K7,K3,K07,K0g,K0c,K0a,K0u,z1A,Z7,z1m,W_pure,z8,aNil,eFn,eVar,if_true]
  refine z0Y p1 (by omega) (by decide) (by decide) λm h3 m0 m1 p3=>?_
  obtain ⟨m,rfl⟩:=K1t m0
  exact ⟨m,rfl,p3.up (by omega)⟩
 rintro _ h2 ⟨ch,rfl,p2⟩
 refine z1q (λd h1=>∃ns':List Str,d=.ref (0+3)/\ns'.length≤8/\NS ns'/\PS h1 100 [.lst (ns'.map .str)]) ?_ ?_
 ·simp only [K7,K3,K07,K0g,K0c,K0a,K0u,z1A,Z7,z1m,W_pure,z8,aNil,eFn,eVar,if_true]
  refine z0Y p2 (by omega) (by decide) (by decide) λm h3 m0 m1 p3=>?_
  obtain ⟨m,rfl⟩:=K1t m0
  refine za4 p3 trivial (by omega) (by omega) λns' h4 l4 n4 p4=>?_
  exact ⟨ns',rfl,by omega,n4,p4.up (by omega)⟩
 rintro _ h3 ⟨ns',rfl,l2,n2,p3⟩
 refine zD2 (λd h1=>∃st mk a r,d=.tup [maD st mk,a]/\MA st mk/\PS h1 4000 r/\r[0]?=.(l (ns'.map .str))) ?_ ?_
 ·simp only [K7,K3,K07,K0g,K0c,K0a,K0u,z1A,Z7,z1m,W_pure,z8,aNil,eFn,eVar,if_true]
  refine z6v (i:=0) (most:=5) p3 (by omega) (by omega) (by omega) rfl l2 n2 λbst bmk h5 ba bl p5=>?_
  exact zk2 (most:=6) p5 (by omega) (by omega) (by omega) ba λst mk raw h6 j i c lr p6 e6=>⟨st,mk,_,_,rfl,zF8 c ba (by omega),p6.up (by omega),rfl⟩
 rintro _ h4 ⟨st0,mk0,a,r,rfl,ma0,p4,e4⟩
 refine ⟨[some (.fl (ns.map .int)),.(r 2),.(i (ch:Nat)),.(r (0+3)),some (maD st0 mk0),some a,none],rfl,?_⟩
 have ifs:∀{mt:G->M Out} {Q:Out->AH->Prop},(∀st mk h,MA st mk->W (mt [some (.fl (ns.map .int)),.(r 2),.(i (ch:Nat)),.(r (0+3)),some (maD st mk),some a,none]) h Q)->W (z9 (sIf (λγ=>do let d ← e2 (fEq false) (eVar 2) (λ_=>pure (.int 0)) γ;asB d) (z9 (sAsg (eFn 3 z01 (z8 (eVar 1) (z8 (eVar 3) (z8 (λ_=>pure (.int 9)) aNil)))) (gN 4)) bNil) bNil) mt [some (.fl (ns.map .int)),.(r 2),.(i (ch:Nat)),.(r (0+3)),some (maD st0 mk0),some a,none]) h4 Q:=λ{mt Q} z=>by
  refine z10 (decide ((ch:Int)=0) != false) (cb_h (e2_h (Z1 rfl) (y:=.int 0) rfl (by rw [z8q];rfl))) ?_
  by_cases q:(ch:Int)=0
  ·rw [decide_eq_true q,if_pos (by rfl)]
   refine z6K (z1q (λd h1=>∃st mk,d=maD st mk/\MA st mk) ?_ ?_)
   ·simp only [K7,K3,K07,K0g,K0u,z1A,Z7,z1m,W_pure,z8,aNil,eFn,eVar,if_true]
    exact z6v (i:=0) (most:=9) p4 (by omega) (by omega) (by omega) e4 l2 n2 λst mk h5 ma _ _=>⟨st,mk,rfl,ma⟩
   ·rintro _ h5 ⟨st,mk,rfl,ma⟩
    exact z0x (z st mk h5 ma)
  ·rw [decide_eq_false q,if_neg (by decide)]
   exact z0x (z st0 mk0 h4 ma0)
 refine ifs λst mk h ma=>?_
 clear ifs
 have l2':=ma.l2
 obtain ⟨bl,cs,ec,pb,dn,cu,co⟩:=z5P (h:=h) ma
 have m:=zH4 ma pb dn
 obtain ⟨F,hF⟩:∃F,F=D.tup [.tup (stD (rowB st.length bl)),.tup (z08 cs)]:=⟨_,rfl⟩
 obtain ⟨γ,hγ⟩:∃γ:G,γ=[some (.fl (ns.map .int)),.(r 2),.(i (ch:Nat)),.(r (0+3)),some (maD st mk),some a,some F]:=⟨_,rfl⟩
 have g4:γ[4]?=some (some (maD st mk)):=by rw [hγ];rfl
 have g6:γ[6]?=some (some F):=by rw [hγ];rfl
 refine Y4 F γ (fn_h (ds:=[maD st mk]) (ac_h (Z1 rfl) rfl) rfl (by rw [ec,hF])) (by rw [hγ];rfl) ?_
 refine z10 (!true) (cn_h (cv_h (fn_h (ds:=[maD st mk,F]) (ac_h (Z1 g4) (ac_h (Z1 g6) rfl)) rfl (by rw [hF];exact zj0 ma pb m cu)))) ?_
 rw [if_neg (by decide)]
 refine z0x ?_
 have hh:=zA6 (h:=h) ma
 rw [zj5 (z4T ma) pb co] at hh
 have nm:=z4L (h:=h++[.lst (stD (hmB st.length bl))]) (i:=h.length) (l:=hmB st.length bl) J2 (by rw [z1e];omega) (by rw [z9p pb,v5,K00];have:=pb.len;omega)
 rw [zp1 pb] at nm
 refine zA9 false (h1:=h++[.lst (stD (hmB st.length bl))]) (cb_h (e2_h (e2_h (Z1 g6) (y:=.int 0) rfl (by rw [hF];rfl)) (fn_h (ds:=[.ref h.length]) (ac_h (fn_h (ds:=[maD st mk]) (ac_h (Z1 g4) rfl) rfl hh) rfl) rfl nm) (by rw [z8Z,decide_eq_true rfl];rfl))) ?_
 rw [if_neg (by decide)]
 refine z0x ?_
 obtain ⟨bl',cs',ec',pb',dn',cu',co'⟩:=z5P (h:=h++[.lst (stD (hmB st.length bl))]) ma
 obtain ⟨rfl,rfl⟩:=z9h (z2X (by have:=ma.l1;omega)) cu' cu dn' dn
 have e1:=zq7 (h:=h++[.lst (stD (hmB st.length bl'))]) ma cu m
 rw [← hF] at e1
 have e2':=congrFun (zj9 (b:=true) (c:=true)) (h++[.lst (stD (hmB st.length bl'))])
 refine z07 (.bl true) (z6l (fn_h (ds:=[.bl true,.bl true]) (ac_h (fn_h (ds:=[maD st mk,F]) (ac_h (Z1 g4) (ac_h (Z1 g6) rfl)) rfl e1) (ac_h (d:=.bl true) rfl rfl)) rfl e2') (e2_h (fn_h (ds:=[maD st mk]) (ac_h (Z1 g4) rfl) rfl (by rw [ec',← hF])) (Z1 g6) (by rw [hF];exact zO9 cu))) rfl
theorem math:∀ns:List Int,ns.length≤63->∃h',m_law [.fl (ns.map .int)] []=.ok (.bl true) h':=λns hn=>by
 obtain ⟨d,h',e,ed⟩:=math0 hn
 exact ⟨h',by rw [e,ed]⟩
theorem okL_law {P:K0n}{w:World}{K:K1}{mg:Str->Option Value}{base:Heap}{f:Addr}{fd:K2i}(F:Fun K "law" "law" (top 42) f fd) (F0G:Fn P w K mg base 3 "_law_classes_right" 2 Y5) (F0H:Fn P w K mg base 2 "_law_copies" 3 z11) (F04:Fn P w K mg base 1 "_law_draw" 2 Z4) (F0I:Fn P w K mg base 1 "_law_homes" 1 z1p) (F0o:Fn P w K mg base 2 "_law_machine" 3 z01) (F0J:Fn P w K mg base 3 "_law_names" 2 z1t) (F0m:Fn P w K mg base 1 "_law_numbered" 1 Y9) (F0K:Fn P w K mg base 1 "_law_pool" 1 z20) (F0L:Fn P w K mg base 1 "_law_truth" 2 z0O) (F0p:Fn P w K mg base 5 "classes" 1 z28) (F0M:Fn P w K mg base 5 "right_classes" 2 z0v):FnOk P w K mg base CX0 6 f fd ["_law_script"] (spB K m_law 1) :=
 zQ7 F sc_law rfl λcdv A outer s H E hr=>(show SB (cxOf CX0 P w K mg base ["_law_script","_law_pool_here","_law_choice","_law_names_here","_law_machine_here","_law_raw","_law_found"] "law" (y0 (top 42)) f cdv A outer s H E).nox EX0 (z0J (top 42)) zj1 from
  have nd:(["_law_script","_law_pool_here","_law_choice","_law_names_here","_law_machine_here","_law_raw","_law_found"]:List Str).Nodup:=sc_law.nd
  (z7 (y9 1 nd (Z5 F0K (hr.mono (by decide)) rfl (z6 (z0 0) Z0))) (z7 (y9 2 nd (Z5 F04 (hr.mono (by decide)) rfl (z6 (z0 1) (z6 Z2 Z0)))) (z7 (y9 3 nd (Z5 F0J (hr.mono (by decide)) rfl (z6 (z0 1) (z6 (Z5 F04 (hr.mono (by decide)) rfl (z6 (z0 1) (z6 Z2 Z0))) Z0)))) (z7 (z4r (Z5 F0H (hr.mono (by decide)) rfl (z6 (z0 1) (z6 (Z5 F0o (hr.mono (by decide)) rfl (z6 (z0 1) (z6 (z0 3) (z6 Z2 Z0)))) (z6 Z2 Z0)))) (z5Z rfl (z0L (j8 4 nd) (z0L (j8 5 nd) z3V)))) (z7 (s_if (sc_c z66 (z0 2) Z2) (z7 (y9 4 nd (Z5 F0o (hr.mono (by decide)) rfl (z6 (z0 1) (z6 (z0 3) (z6 Z2 Z0))))) Z3) Z3) (z7 (y9 6 nd (Z5 F0p (hr.mono (by decide)) rfl (z6 (z0 4) Z0))) (z7 (s_if (z0k (z0c (Z5 F0G (hr.mono (by decide)) rfl (z6 (z0 4) (z6 (z0 6) Z0))))) (z7 (y6 z2a) Z3) Z3) (z7 (s_if (sc_c (z7d (hu30 hr)) (Z8 (z0 6) Z2) (Z5 F0m (hr.mono (by decide)) rfl (z6 (Z5 F0I (hr.mono (by decide)) rfl (z6 (z0 4) Z0)) Z0))) (z7 (y6 z2a) Z3) Z3) (z7 (y6 (z0I (Z5 F0L (hr.mono (by decide)) rfl (z6 (Z5 F0M (hr.mono (by decide)) rfl (z6 (z0 4) (z6 (z0 6) Z0))) (z6 z2a Z0))) (z1R (se_c (z2F (hu30 hr)) (Z5 F0p (hr.mono (by decide)) rfl (z6 (z0 4) Z0)) (z0 6))))) Z3))))))))))
def zB7:List Bool->List PySem.Stmt->List PySem.Stmt
 | true::r,x::xs=>x::zB7 r xs
 | false::r,_::xs=>zB7 r xs
 | _,_=>[]
def qv:PySem.Program:={ PySem.Challenge.pw_fairtrees_k66_whole_classes_are_the_coar with main:={ PySem.Challenge.pw_fairtrees_k66_whole_classes_are_the_coar.main with body:=zB7 [false,true,true,true,true,true,true,true,true,false,true,false,true,false,true,true,true,true,true,true,true,true,true,true,true,false,true,true,true,true,true,true,true,true,true,true,true,true,true,true,true,true,true] PySem.Challenge.pw_fairtrees_k66_whole_classes_are_the_coar.main.body } }
def looseQ:List PySem.Str:=[]
end FT
open PySem PySem.W PyProof.Rows
local macro_rules | `(tactic| o_head $H)=>`(tactic| (refine holds_open (q:=FT.qv) (loose:=FT.looseQ) (Xt:=fun s=>xlAt FT.qv [] s && recOk (RowW.records (OpenRow.toRowW (OpenLaw.row PySem.Challenge.rw_fairtrees_k66_whole_classes_are_the_coar))) s) (XP:=XL FT.qv []) (Yf:=Hook.obs $H) (Ya:=Hook.val $H) (YP:=Hook.says $H) (N:=30000) ?_ (Hook.of $H) (Hook.keeps $H) (fun s e=>xl_of s (Bool.and_eq_true_iff.mp e).1) XL.keeps (by rfl) (by rfl) (by rfl) (fun s e=>recFacts_of (Bool.and_eq_true_iff.mp e).2) (by rfl) (by first | assumption | decide +kernel) (by decide +kernel) ⟨rfl,rfl,rfl,rfl,rfl,by decide +kernel⟩ ?_ ?_))
set_option maxRecDepth 100000 in
set_option maxHeartbeats 0 in
theorem PySem.Challenge.cw_fairtrees_k66_whole_classes_are_the_coar_holds : PySem.Challenge.rw_fairtrees_k66_whole_classes_are_the_coar.Holds := by
 w_on;o_law;k_head
 next=>exact λw=>by kernel_rfl
 next=>w_witness2
 k_fill
 refine FT.law_walk (l:=K0) (lev:=6) (p:="_law_script") (m:=FT.m_law) rfl rfl ⟨rfl,by decide,by decide,rfl⟩ (λw h Y=>PySem.W.kIn_of Y) ?F FT.math
 case F =>
  intro w mg fa h KX G hmg
  have F0N:FT.DefAt (L2.KOf KX) "is_number" (FT.top 3):=by
   dsimp only [L2.KOf];refine' FT.defAt_mk ?a ?l ?c ?k;(case a=>k_is);(case l=>k_is);(case c=>k_is);(case k=>k_is)
  have F0O:FT.DefAt (L2.KOf KX) "is_number_from" (FT.top 4):=by
   dsimp only [L2.KOf];refine' FT.defAt_mk ?a ?l ?c ?k;(case a=>k_is);(case l=>k_is);(case c=>k_is);(case k=>k_is)
  have F0P:FT.DefAt (L2.KOf KX) "is_text" (FT.top 5):=by
   dsimp only [L2.KOf];refine' FT.defAt_mk ?a ?l ?c ?k;(case a=>k_is);(case l=>k_is);(case c=>k_is);(case k=>k_is)
  have F0Q:FT.DefAt (L2.KOf KX) "is_name" (FT.top 6):=by
   dsimp only [L2.KOf];refine' FT.defAt_mk ?a ?l ?c ?k;(case a=>k_is);(case l=>k_is);(case c=>k_is);(case k=>k_is)
  have F0R:FT.DefAt (L2.KOf KX) "is_tuple" (FT.top 7):=by
   dsimp only [L2.KOf];refine' FT.defAt_mk ?a ?l ?c ?k;(case a=>k_is);(case l=>k_is);(case c=>k_is);(case k=>k_is)
  have F0S:FT.DefAt (L2.KOf KX) "is_tuple_of" (FT.top 8):=by
   dsimp only [L2.KOf];refine' FT.defAt_mk ?a ?l ?c ?k;(case a=>k_is);(case l=>k_is);(case c=>k_is);(case k=>k_is)
  have F0T:FT.DefAt (L2.KOf KX) "set_of" (FT.top 10):=by
   dsimp only [L2.KOf];refine' FT.defAt_mk ?a ?l ?c ?k;(case a=>k_is);(case l=>k_is);(case c=>k_is);(case k=>k_is)
  have F0U:FT.DefAt (L2.KOf KX) "bears" (FT.top 12):=by
   dsimp only [L2.KOf];refine' FT.defAt_mk ?a ?l ?c ?k;(case a=>k_is);(case l=>k_is);(case c=>k_is);(case k=>k_is)
  have F0V:FT.DefAt (L2.KOf KX) "first_blocks" (FT.top 15):=by
   dsimp only [L2.KOf];refine' FT.defAt_mk ?a ?l ?c ?k;(case a=>k_is);(case l=>k_is);(case c=>k_is);(case k=>k_is)
  have F0W:FT.DefAt (L2.KOf KX) "belongs" (FT.top 18):=by
   dsimp only [L2.KOf];refine' FT.defAt_mk ?a ?l ?c ?k;(case a=>k_is);(case l=>k_is);(case c=>k_is);(case k=>k_is)
  have F0X:FT.DefAt (L2.KOf KX) "parted" (FT.top 17):=by
   dsimp only [L2.KOf];refine' FT.defAt_mk ?a ?l ?c ?k;(case a=>k_is);(case l=>k_is);(case c=>k_is);(case k=>k_is)
  have F0Y:FT.DefAt (L2.KOf KX) "next_cut" (FT.top 16):=by
   dsimp only [L2.KOf];refine' FT.defAt_mk ?a ?l ?c ?k;(case a=>k_is);(case l=>k_is);(case c=>k_is);(case k=>k_is)
  have F0Z:FT.DefAt (L2.KOf KX) "cut_up" (FT.top 19):=by
   dsimp only [L2.KOf];refine' FT.defAt_mk ?a ?l ?c ?k;(case a=>k_is);(case l=>k_is);(case c=>k_is);(case k=>k_is)
  have F10:FT.DefAt (L2.KOf KX) "row_of" (FT.top 20):=by
   dsimp only [L2.KOf];refine' FT.defAt_mk ?a ?l ?c ?k;(case a=>k_is);(case l=>k_is);(case c=>k_is);(case k=>k_is)
  have F11:FT.DefAt (L2.KOf KX) "classes" (FT.top 14):=by
   dsimp only [L2.KOf];refine' FT.defAt_mk ?a ?l ?c ?k;(case a=>k_is);(case l=>k_is);(case c=>k_is);(case k=>k_is)
  have F12:FT.DefAt (L2.KOf KX) "led_to" (FT.top 24):=by
   dsimp only [L2.KOf];refine' FT.defAt_mk ?a ?l ?c ?k;(case a=>k_is);(case l=>k_is);(case c=>k_is);(case k=>k_is)
  have F13:FT.DefAt (L2.KOf KX) "is_steady" (FT.top 23):=by
   dsimp only [L2.KOf];refine' FT.defAt_mk ?a ?l ?c ?k;(case a=>k_is);(case l=>k_is);(case c=>k_is);(case k=>k_is)
  have F14:FT.DefAt (L2.KOf KX) "is_cut" (FT.top 22):=by
   dsimp only [L2.KOf];refine' FT.defAt_mk ?a ?l ?c ?k;(case a=>k_is);(case l=>k_is);(case c=>k_is);(case k=>k_is)
  have F15:FT.DefAt (L2.KOf KX) "right_classes" (FT.top 21):=by
   dsimp only [L2.KOf];refine' FT.defAt_mk ?a ?l ?c ?k;(case a=>k_is);(case l=>k_is);(case c=>k_is);(case k=>k_is)
  have F16:FT.DefAt (L2.KOf KX) "_law_pool" (FT.top 26):=by
   dsimp only [L2.KOf];refine' FT.defAt_mk ?a ?l ?c ?k;(case a=>k_is);(case l=>k_is);(case c=>k_is);(case k=>k_is)
  have F17:FT.DefAt (L2.KOf KX) "_law_draw" (FT.top 27):=by
   dsimp only [L2.KOf];refine' FT.defAt_mk ?a ?l ?c ?k;(case a=>k_is);(case l=>k_is);(case c=>k_is);(case k=>k_is)
  have F18:FT.DefAt (L2.KOf KX) "_law_name" (FT.top 28):=by
   dsimp only [L2.KOf];refine' FT.defAt_mk ?a ?l ?c ?k;(case a=>k_is);(case l=>k_is);(case c=>k_is);(case k=>k_is)
  have F19:FT.DefAt (L2.KOf KX) "_law_names" (FT.top 29):=by
   dsimp only [L2.KOf];refine' FT.defAt_mk ?a ?l ?c ?k;(case a=>k_is);(case l=>k_is);(case c=>k_is);(case k=>k_is)
  have F1a:FT.DefAt (L2.KOf KX) "_law_machine" (FT.top 30):=by
   dsimp only [L2.KOf];refine' FT.defAt_mk ?a ?l ?c ?k;(case a=>k_is);(case l=>k_is);(case c=>k_is);(case k=>k_is)
  have F1b:FT.DefAt (L2.KOf KX) "_law_number" (FT.top 31):=by
   dsimp only [L2.KOf];refine' FT.defAt_mk ?a ?l ?c ?k;(case a=>k_is);(case l=>k_is);(case c=>k_is);(case k=>k_is)
  have F1c:FT.DefAt (L2.KOf KX) "_law_tuple" (FT.top 32):=by
   dsimp only [L2.KOf];refine' FT.defAt_mk ?a ?l ?c ?k;(case a=>k_is);(case l=>k_is);(case c=>k_is);(case k=>k_is)
  have F1d:FT.DefAt (L2.KOf KX) "_law_good_name" (FT.top 33):=by
   dsimp only [L2.KOf];refine' FT.defAt_mk ?a ?l ?c ?k;(case a=>k_is);(case l=>k_is);(case c=>k_is);(case k=>k_is)
  have F1e:FT.DefAt (L2.KOf KX) "_law_truth" (FT.top 34):=by
   dsimp only [L2.KOf];refine' FT.defAt_mk ?a ?l ?c ?k;(case a=>k_is);(case l=>k_is);(case c=>k_is);(case k=>k_is)
  have F1f:FT.DefAt (L2.KOf KX) "_law_homes" (FT.top 35):=by
   dsimp only [L2.KOf];refine' FT.defAt_mk ?a ?l ?c ?k;(case a=>k_is);(case l=>k_is);(case c=>k_is);(case k=>k_is)
  have F1g:FT.DefAt (L2.KOf KX) "_law_numbered" (FT.top 36):=by
   dsimp only [L2.KOf];refine' FT.defAt_mk ?a ?l ?c ?k;(case a=>k_is);(case l=>k_is);(case c=>k_is);(case k=>k_is)
  have F1h:FT.DefAt (L2.KOf KX) "_law_steady" (FT.top 37):=by
   dsimp only [L2.KOf];refine' FT.defAt_mk ?a ?l ?c ?k;(case a=>k_is);(case l=>k_is);(case c=>k_is);(case k=>k_is)
  have F1i:FT.DefAt (L2.KOf KX) "_law_halved" (FT.top 38):=by
   dsimp only [L2.KOf];refine' FT.defAt_mk ?a ?l ?c ?k;(case a=>k_is);(case l=>k_is);(case c=>k_is);(case k=>k_is)
  have F1j:FT.DefAt (L2.KOf KX) "_law_cuts_end" (FT.top 39):=by
   dsimp only [L2.KOf];refine' FT.defAt_mk ?a ?l ?c ?k;(case a=>k_is);(case l=>k_is);(case c=>k_is);(case k=>k_is)
  have F1k:FT.DefAt (L2.KOf KX) "_law_classes_right" (FT.top 40):=by
   dsimp only [L2.KOf];refine' FT.defAt_mk ?a ?l ?c ?k;(case a=>k_is);(case l=>k_is);(case c=>k_is);(case k=>k_is)
  have F1l:FT.DefAt (L2.KOf KX) "_law_copies" (FT.top 41):=by
   dsimp only [L2.KOf];refine' FT.defAt_mk ?a ?l ?c ?k;(case a=>k_is);(case l=>k_is);(case c=>k_is);(case k=>k_is)
  have F1m:FT.DefAt (L2.KOf KX) "law" (FT.top 42):=by
   dsimp only [L2.KOf];refine' FT.defAt_mk ?a ?l ?c ?k;(case a=>k_is);(case l=>k_is);(case c=>k_is);(case k=>k_is)
  have F08:mg "bool" = none:=K16 KX G (by k_is)
  have F0f:mg "int" = none:=K16 KX G (by k_is)
  have F03:mg "isinstance" = none:=K16 KX G (by k_is)
  have F06:mg "str" = none:=K16 KX G (by k_is)
  have F0g:mg "all" = none:=K16 KX G (by k_is)
  have F00:mg "len" = none:=K16 KX G (by k_is)
  have F01:mg "tuple" = none:=K16 KX G (by k_is)
  have F07:mg "set" = none:=K16 KX G (by k_is)
  have F05:mg "sorted" = none:=K16 KX G (by k_is)
  have F02:mg "range" = none:=K16 KX G (by k_is)
  have F0r:mg "any" = none:=K16 KX G (by k_is)
  have F0d:mg "enumerate" = none:=K16 KX G (by k_is)
  have F0B:mg "max" = none:=K16 KX G (by k_is)
  have F0l:mg "list" = none:=K16 KX G (by k_is)
  have C_KEPT:FT.Cst (L2.KOf KX) mg "KEPT" FT.c_KEPT:=by
   dsimp only [L2.KOf];refine' FT.cst_tup (K0f KX G ?a) ?l ?r ?z;(case a=>k_is);(case l=>k_is);(case r=>first|rfl|decide +kernel);(case z=>decide +kernel)
  have C_LONGEST:FT.Cst (L2.KOf KX) mg "LONGEST" FT.c_LONGEST:=by
   dsimp only [L2.KOf];refine' FT.cst_int (K0f KX G ?a);(case a=>k_is)
  obtain ⟨f,fd,hf,F⟩:=F1m
  have e:=hmg.symm.trans (K0f KX G hf)
  cases e
  refine ⟨fd,FT.bindsTo1 F (λ_ _ _ _ _ _ _=>rfl),λbase _ _=>?_⟩
  have F0c:=FT.ok_is_number (P:=K0.prog) (w:=w) (base:=base) F0N (λv e=>K0f KX G e) F08 F0f F03
  have F0v:=FT.ok_is_number_from (P:=K0.prog) (w:=w) (base:=base) F0O (λv e=>K0f KX G e) F0c
  have F0q:=FT.ok_is_text (P:=K0.prog) (w:=w) (base:=base) F0P (λv e=>K0f KX G e) F03 F06
  have F0x:=FT.ok_is_name (P:=K0.prog) (w:=w) (base:=base) F0Q (λv e=>K0f KX G e) C_KEPT C_LONGEST F0g F00 F0q
  have F0h:=FT.ok_is_tuple (P:=K0.prog) (w:=w) (base:=base) F0R (λv e=>K0f KX G e) F03 F01
  have F0a:=FT.ok_is_tuple_of (P:=K0.prog) (w:=w) (base:=base) F0S (λv e=>K0f KX G e) F00 F0h
  have F0u:=FT.ok_set_of (P:=K0.prog) (w:=w) (base:=base) F0T (λv e=>K0f KX G e) F07 F05 F01
  have F0s:=FT.ok_bears (P:=K0.prog) (w:=w) (base:=base) F0U (λv e=>K0f KX G e)
  have F0j:=FT.ok_first_blocks (P:=K0.prog) (w:=w) (base:=base) F0V (λv e=>K0f KX G e) F00 F02 F01
  have F0t:=FT.ok_belongs (P:=K0.prog) (w:=w) (base:=base) F0W (λv e=>K0f KX G e) F0r F03 F06 F0s
  have F09:=FT.ok_parted (P:=K0.prog) (w:=w) (base:=base) F0X (λv e=>K0f KX G e) F00 F01 F0t
  have F0n:=FT.ok_next_cut (P:=K0.prog) (w:=w) (base:=base) F0Y (λv e=>K0f KX G e) F00 F09
  have F0i:=FT.ok_cut_up (P:=K0.prog) (w:=w) (base:=base) F0Z (λv e=>K0f KX G e) F09
  have F0k:=FT.ok_row_of (P:=K0.prog) (w:=w) (base:=base) F10 (λv e=>K0f KX G e) F0d F05 F01
  have F0p:=FT.ok_classes (P:=K0.prog) (w:=w) (base:=base) F11 (λv e=>K0f KX G e) F01 F0i F0j F0n F0k
  have F0w:=FT.ok_led_to (P:=K0.prog) (w:=w) (base:=base) F12 (λv e=>K0f KX G e) F0u
  have F0z:=FT.ok_is_steady (P:=K0.prog) (w:=w) (base:=base) F13 (λv e=>K0f KX G e) F0g F0d F00 F02 F0v F0a F0w
  have F0y:=FT.ok_is_cut (P:=K0.prog) (w:=w) (base:=base) F14 (λv e=>K0f KX G e) F0x F0c F0a
  have F0M:=FT.ok_right_classes (P:=K0.prog) (w:=w) (base:=base) F15 (λv e=>K0f KX G e) F00 F0i F0j F0y F0z F0h F0a F09 F0k
  have F0K:=FT.ok__law_pool (P:=K0.prog) (w:=w) (base:=base) F16 (λv e=>K0f KX G e)
  have F04:=FT.ok__law_draw (P:=K0.prog) (w:=w) (base:=base) F17 (λv e=>K0f KX G e) F00
  have F0A:=FT.ok__law_name (P:=K0.prog) (w:=w) (base:=base) F18 (λv e=>K0f KX G e) F02 F04
  have F0J:=FT.ok__law_names (P:=K0.prog) (w:=w) (base:=base) F19 (λv e=>K0f KX G e) F02 F04 F0A
  have F0o:=FT.ok__law_machine (P:=K0.prog) (w:=w) (base:=base) F1a (λv e=>K0f KX G e) F02 F05 F01 F04
  have F0e:=FT.ok__law_number (P:=K0.prog) (w:=w) (base:=base) F1b (λv e=>K0f KX G e) F08 F0f F03
  have F0b:=FT.ok__law_tuple (P:=K0.prog) (w:=w) (base:=base) F1c (λv e=>K0f KX G e) F03 F00 F01
  have F0C:=FT.ok__law_good_name (P:=K0.prog) (w:=w) (base:=base) F1d (λv e=>K0f KX G e) F03 F00 F06
  have F0L:=FT.ok__law_truth (P:=K0.prog) (w:=w) (base:=base) F1e (λv e=>K0f KX G e) F08 F03
  have F0I:=FT.ok__law_homes (P:=K0.prog) (w:=w) (base:=base) F1f (λv e=>K0f KX G e) F00 F02 F07 F05 F01
  have F0m:=FT.ok__law_numbered (P:=K0.prog) (w:=w) (base:=base) F1g (λv e=>K0f KX G e) F07 F05 F01
  have F0F:=FT.ok__law_steady (P:=K0.prog) (w:=w) (base:=base) F1h (λv e=>K0f KX G e) F00 F0B F02 F07 F05 F0e F0b
  have F0D:=FT.ok__law_halved (P:=K0.prog) (w:=w) (base:=base) F1i (λv e=>K0f KX G e) F03 F00 F0l F02 F06
  have F0E:=FT.ok__law_cuts_end (P:=K0.prog) (w:=w) (base:=base) F1j (λv e=>K0f KX G e) F03 F00 F01 F0C F0D F0e F0b
  have F0G:=FT.ok__law_classes_right (P:=K0.prog) (w:=w) (base:=base) F1k (λv e=>K0f KX G e) F0E F0m F0F F0b
  have F0H:=FT.ok__law_copies (P:=K0.prog) (w:=w) (base:=base) F1l (λv e=>K0f KX G e) F00 F0l F02 F05 F01 F04
  exact FT.okL_law F F0G F0H F04 F0I F0o F0J F0m F0K F0L F0p F0M