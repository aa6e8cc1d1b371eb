import PyProof.Rows.All
import Wide.All
import OpenK.AllK
import Wide.FinOn
import Lean
import PyProof.EqAt
import PyProof.EqKinds
import PyProof.TupleCall
import PyProof.NeKinds
import PyProof.ListRange
import PyProof.TupleOfSeq
import PyProof.SeqI3
import PyProof.DictCompW
import PyProof.DictWalks
import PyProof.SetNew
import PyProof.ReprReads
import PyProof.StrHeap
import PyProof.ReprLen
import PyProof.WalkInts
import KE.KDictSum
import PyProof.Draws
import PySem.Challenge.RW_fairtrees_k64_no_steady_row
set_option Elab.async false
set_option linter.all false
set_option maxRecDepth 100000
namespace L2
open PySem PySem.Spec PyProof.Rows
abbrev Key:=Sum Int Str
def z1N:Key->Value->Bool
 | .inl k,v=>Value.isInt k v
 | .inr x,v=>Value.isStrOf x v
def keyH (w:World):Key->Int
 | .inl k=>hashInt k
 | .inr x=>hashStr w x
theorem y6:∀ {k:Key}{v:Value},z1N k v=true->(∃ i t,k=Sum.inl i/\v=Value.int i t)∨(∃ x t,k=Sum.inr x/\v=Value.str x t)
 | .inl i,v,h=>by
  obtain ⟨t,e⟩:=Value.isInt_shape (k:=i) (v:=v) h
  exact .inl ⟨i,t,rfl,e⟩
 | .inr x,v,h=>by
  obtain ⟨t,e⟩:=Value.isStrOf_shape (x:=x) (v:=v) h
  exact .inr ⟨x,t,rfl,e⟩
theorem z58 (i:Int) (t:Tok):z1N (.inl i) (.int i t)=true:=by simp [z1N,Value.isInt]
theorem z4A (x:Str) (t:Tok):z1N (.inr x) (.str x t)=true:=by simp [z1N,Value.isStrOf]
theorem zC6 (a b:Int):decide ((Sum.inl a:Key)=Sum.inl b)=(a == b):=by
 by_cases e:a=b
 ·subst e;simp
 ·have h:¬ (Sum.inl a:Key)=Sum.inl b:=fun q=>e (Sum.inl.inj q)
  rw [decide_eq_false h]
  exact (beq_eq_false_iff_ne.mpr e).symm
theorem zA8 (a b:Str):decide ((Sum.inr a:Key)=Sum.inr b)=decide (a=b):=by
 by_cases e:a=b
 ·subst e;simp
 ·have h:¬ (Sum.inr a:Key)=Sum.inr b:=fun q=>e (Sum.inr.inj q)
  rw [decide_eq_false h,decide_eq_false e]
theorem zz5 (a:Int) (b:Str):decide ((Sum.inl a:Key)=Sum.inr b)=false:=decide_eq_false (fun q=>nomatch q)
theorem zx5 (a:Str) (b:Int):decide ((Sum.inr a:Key)=Sum.inl b)=false:=decide_eq_false (fun q=>nomatch q)
def z09 (prog:Program) (w:World):PySem.KeyKind prog w Key where
 is:=z1N
 hash:=keyH w
 inj:=fun v a b ha hb=>by
  rcases y6 ha with ⟨i,t,rfl,rfl⟩ | ⟨x,t,rfl,rfl⟩
  ·rcases y6 hb with ⟨j,u,rfl,e⟩ | ⟨y,u,rfl,e⟩
   ·injection e with e1 _;rw [e1]
   ·exact nomatch e
  ·rcases y6 hb with ⟨j,u,rfl,e⟩ | ⟨y,u,rfl,e⟩
   ·exact nomatch e
   ·injection e with e1 _;rw [e1]
 byValue:=fun k v h=>by
  rcases y6 h with ⟨i,t,rfl,rfl⟩ | ⟨x,t,rfl,rfl⟩<;>rfl
 pyHash:=fun hv h=>by
  rcases y6 hv with ⟨i,t,rfl,rfl⟩ | ⟨x,t,rfl,rfl⟩
  ·exact wpAny_pyHash_int h
  ·exact wpAny_pyHash_str h
 eqBool:=fun hu hv h=>by
  rcases y6 hu with ⟨i,t,rfl,rfl⟩ | ⟨x,t,rfl,rfl⟩
  ·rcases y6 hv with ⟨j,u,rfl,rfl⟩ | ⟨y,u,rfl,rfl⟩
   ·rw [zC6] at h;exact wpAny_eqBool_int h
   ·rw [zz5] at h;exact SeqAt.EqAt.int_str i t y u _ _ _ _ h
  ·rcases y6 hv with ⟨j,u,rfl,rfl⟩ | ⟨y,u,rfl,rfl⟩
   ·rw [zx5] at h;exact SeqAt.EqAt.str_int x t j u _ _ _ _ h
   ·rw [zA8] at h;exact wpAny_eqBool_str h
 «strs»:=fun k x t v h=>by
  rcases y6 h with ⟨i,u,rfl,e⟩ | ⟨y,u,rfl,e⟩
  ·exact nomatch e
  ·injection e with e1 _
   subst e1
   cases v<;>rfl
theorem z5N (prog:Program) (w:World) (i:Int) (t:Tok):(z09 prog w).is (.inl i) (.int i t)=true:=z58 i t
theorem z5J (prog:Program) (w:World) (x:Str) (t:Tok):(z09 prog w).is (.inr x) (.str x t)=true:=z4A x t
end L2
namespace FT
open PySem PySem.Spec PyProof.Rows L2
abbrev Rise (xs:Array Nat):Prop:=xs.toList.Pairwise (·<·)
instance keyMem (k:Key) (ks:List Key):Decidable (k∈ks):=@List.instDecidableMemOfLawfulBEq Key instBEqOfDecidableEq inferInstance k ks
section
variable (w:World)
def KE (k:Key) (e:Int×Value):Prop:=z1N k e.2=true/\e.1=keyH w k
def SetAt (h:Heap) (a:Addr) (ks:List Key):Prop :=
 ∃ o es ep t ks',h.get? a=some o/\o.ExactSet/\o.data=.set es ep t/\Paired (KE w) ks' es.toList/\ks'.Perm ks/\ks.Nodup/\es.size<scanBound/\t.fits es.size=true/\Rise t.place /\
  (t.led=true∨w.params.followText "set-order" = true)
end
def IsTup0 (h:Heap) (a:Addr) (items:Array Value):Prop:=∃ o,h.get? a=some o/\(o.cls=.type "tuple"/\o.dict=none)/\∃ n,o.data=.seq items n
theorem IsTup0.new (h:Heap) (items:Array Value):IsTup0 (h.push { cls:=.type "tuple",data:=.seq items }) h.objs.size items:=⟨_,Heap.get?_push_size _ rfl,⟨rfl,rfl⟩,_,rfl⟩
theorem IsTup0.tup {h:Heap}{a:Addr}{items:Array Value}(x:IsTup0 h a items):IsTup h a items:=let ⟨o,e,c,d⟩:=x;⟨o,e,c.1,d⟩
theorem IsTup0.lt {h:Heap}{a:Addr}{items:Array Value}(x:IsTup0 h a items):a<h.objs.size:=let ⟨_,e,_⟩:=x;Heap.lt_size e
end FT
namespace L2
open PySem PySem.Spec PyProof.Rows
inductive V where
 | non | bl (b:Bool) | int (i:Int) | str (x:Str) | byt (b:Array UInt8) | flt (b:UInt64) | ref (a:Addr) | ty (n:String)
 deriving DecidableEq
def RelV:V->Value->Prop
 | .non,u=>u=Value.none
 | .bl b,u=>u=Value.bool b
 | .int i,u=>∃ t,u=Value.int i t
 | .str x,u=>∃ t,u=Value.str x t
 | .byt b,u=>∃ t,u=Value.bytes b t
 | .flt b,u=>∃ t,u=Value.float b t
 | .ref a,u=>u=Value.ref a
 | .ty n,u=>u=Value.type n
abbrev Vals:List V->List Value->Prop:=Paired RelV
theorem Vals.length {xs:List V}{us:List Value}(r:Vals xs us):xs.length=us.length:=Paired.length r
theorem Vals.get:∀ {xs:List V}{us:List Value}{i:Nat}{x:V},Vals xs us->xs[i]?=some x->∃ u,us[i]?=some u/\RelV x u
 | _,_,_,_,.nil,e=>by simp at e
 | _,_,0,_,.cons r _,e=>by simp at e;subst e;exact ⟨_,rfl,r⟩
 | _,_,i+1,x,.cons _ t,e=>by
  obtain ⟨u,h1,h2⟩:=Vals.get (i:=i) (x:=x) t (by simpa using e)
  exact ⟨u,by simpa using h1,h2⟩
theorem Vals.set {x:V}{u:Value}(r:RelV x u):∀ {xs:List V}{us:List Value}(i:Nat),Vals xs us->Vals (xs.set i x) (us.set i u)
 | _,_,_,.nil=>.nil
 | _,_,0,.cons _ t=>.cons r t
 | _,_,i+1,.cons q t=>.cons q (Vals.set r i t)
theorem Vals.append:∀ {xs ys:List V}{us ws:List Value},Vals xs us->Vals ys ws->Vals (xs++ys) (us++ws)
 | _,_,_,_,.nil,s=>s
 | _,_,_,_,.cons r t,s=>.cons r (Vals.append t s)
theorem Vals.take:∀ {xs:List V}{us:List Value}(n:Nat),Vals xs us->Vals (xs.take n) (us.take n)
 | _,_,0,_=>.nil
 | _,_,_+1,.nil=>.nil
 | _,_,n+1,.cons r t=>.cons r (Vals.take n t)
theorem Vals.drop:∀ {xs:List V}{us:List Value}(n:Nat),Vals xs us->Vals (xs.drop n) (us.drop n)
 | _,_,0,r=>r
 | _,_,_+1,.nil=>.nil
 | _,_,n+1,.cons _ t=>Vals.drop n t
def RelO:Option V->Option Value->Prop
 | some v,some u=>RelV v u
 | none,none=>True
 | _,_=>False
def KV {κ:Type}:List (κ×V)->List (κ×Value)->Prop:=Paired fun (p:κ×V) (q:κ×Value)=>p.1=q.1/\RelV p.2 q.2
def kV:Key->V
 | .inl i=>.int i
 | .inr x=>.str x
inductive HO where
 | lst (xs:List V)
 | tup (xs:List V)
 | dK (kvs:List (Key×V)) | dT (kvs:List (List Key×V))
 | set (ks:List Key)
 | ins (C dx:Addr) (fs:List (Str×V))
 | own (x:Addr)
 | xd (fs:List (Str×V))
 | met (f x:Addr)
 | rng (lo hi:Int)
 | frz (o:Obj) (u:HO)
 | tbl (ps:Array Value)
 | ext (φ:Heap->Prop)
abbrev Hp:=Addr->Option HO
def upd (H:Hp) (a:Addr) (o:HO):Hp:=fun b=>if b=a then some o else H b
theorem z06 {H:Hp}{a:Addr}{o:HO}:upd H a o a=some o:=by unfold upd;rw [if_pos rfl]
theorem J5 {H:Hp}{a b:Addr}{o:HO}(h:b≠a):upd H a o b=H b:=by unfold upd;rw [if_neg h]
theorem J6 {H:Hp}{a b:Addr}{o:HO}(h:H a=some o) (h':H b=none):a≠b:=by
 intro e;subst e;rw [h] at h';cases h'
section
variable (P:Program) (w:World)
def ObjOk (H:Hp) (h:Heap) (a:Addr):HO->Prop
 | .lst xs=>xs.length≤sizeLine/\∃ (its:List Value) (n:Nat),Vals xs its/\h.get? a=some { cls:=.type "list",data:=.seq its.toArray n }
 | .tup xs=>xs.length≤sizeLine/\∃ its:List Value,Vals xs its/\FT.IsTup0 h a its.toArray
 | .dK kvs=>kvs.length≤sizeLine/\(a == sysModules)=false/\∃ vs,KV kvs vs/\h.DictOf (z09 P w) a vs
 | .dT kvs=>kvs.length≤sizeLine/\(a == sysModules)=false/\∃ xs:List (List Key×Addr×Value),
  Paired (fun (p:List Key×V) (q:List Key×Addr×Value)=>p.1=q.1/\H q.2.1=some (.tup (p.1.map kV))/\RelV p.2 q.2.2) kvs xs /\
  ∃ o es ep,h.get? a=some o/\o.ExactDict/\o.data=.dict es ep/\es.toList=xs.map (entryOfKey (tupleKind (z09 P w)))/\(xs.map (·.1)).Nodup
 | .set ks=>FT.SetAt w h a ks
 | .ins C dx fs=>H dx=some (.own a)/\fs.length≤1000/\dx≠a/\h.get? a=some (PySem.W.instObj C dx) /\
  ∃ mA,h.Ns1 dx mA/\(∀ f,RelO (fs.lookup f) (mA f))/\PySem.Within mA (fs.map (·.1))
 | .own _=>∃ o,h.get? a=some o
 | .xd fs=>∃ mA,h.Ns1 a mA/\∀ f,RelO (fs.lookup f) (mA f)
 | .rng lo hi=>∃ t u v,h.get? a=some { cls:=.type "range",data:=.fields #[.int lo t,.int hi u,.int 1 v] }
 | .frz o u=>h.get? a=some o/\ObjOk H h a u
 | .tbl ps=>h.get? a=some { cls:=.none,data:=.fields ps }
 | .met f x=>h.get? a=some (PySem.W.methodObj (.ref f) (.ref x))
 | .ext φ=>φ h/\(∃ o,h.get? a=some o)/\∀ h1 h2:Heap,φ h1->(∀ o,h1.get? a=some o->h2.get? a=some o)->φ h2
def HOk (H:Hp) (h:Heap):Prop:=∀ a o,H a=some o->ObjOk P w H h a o
end
section
variable {P:Program}{w:World}{H H':Hp}{h h':Heap}{a:Addr}{o:HO}
theorem ObjOk.lt (x:ObjOk P w H h a o):a<h.objs.size:=by
 cases o with
 | lst xs=>obtain ⟨_,_,_,_,e⟩:=x;exact Heap.lt_size e
 | tup xs=>obtain ⟨_,_,_,p⟩:=x;exact p.lt
 | dK kvs=>obtain ⟨_,_,_,_,o,_,_,e,_⟩:=x;exact Heap.lt_size e
 | dT kvs=>obtain ⟨_,_,_,_,o,_,_,e,_⟩:=x;exact Heap.lt_size e
 | set ks=>obtain ⟨o,_,_,_,_,e,_⟩:=x;exact Heap.lt_size e
 | ins C dx fs=>obtain ⟨_,_,_,e,_⟩:=x;exact Heap.lt_size e
 | own y=>obtain ⟨_,e⟩:=x;exact Heap.lt_size e
 | xd fs=>obtain ⟨_,⟨_,_,_,e,_⟩,_⟩:=x;exact Heap.lt_size e
 | rng lo hi=>obtain ⟨_,_,_,e⟩:=x;exact Heap.lt_size e
 | frz ob u=>obtain ⟨e,_⟩:=x;exact Heap.lt_size e
 | tbl ps=>exact Heap.lt_size (show h.get? a=some _ from x)
 | met f y=>exact Heap.lt_size (show h.get? a=some _ from x)
 | ext φ=>obtain ⟨_,⟨_,e⟩,_⟩:=x;exact Heap.lt_size e
theorem Paired.mapP {α β:Type}{F G:α->β->Prop}:∀ {l₁:List α}{l₂:List β},Paired F l₁ l₂->(∀ a b,F a b->G a b)->Paired G l₁ l₂
 | _,_,.nil,_=>.nil
 | _,_,.cons r t,f=>.cons (f _ _ r) (Paired.mapP t f)
theorem ObjOk.stay (x:ObjOk P w H h a o) (k:∀ b u,(b=a∨H b=some (.own a))->h.get? b=some u->h'.get? b=some u)
 (ho:∀ b,H b=some (.own a)->H' b=some (.own a)) (ht:∀ b xs,H b=some (.tup xs)->H' b=some (.tup xs)):ObjOk P w H' h' a o:=by
 induction o with
 | lst xs=>obtain ⟨z,its,n,r,e⟩:=x;exact ⟨z,its,n,r,k _ _ (.inl rfl) e⟩
 | tup xs=>obtain ⟨z,its,r,ob,e,c⟩:=x;exact ⟨z,its,r,ob,k _ _ (.inl rfl) e,c⟩
 | dK kvs=>obtain ⟨z,y,vs,r,ob,es,ep,e,c⟩:=x;exact ⟨z,y,vs,r,ob,es,ep,k _ _ (.inl rfl) e,c⟩
 | dT kvs =>
  obtain ⟨z,y,xs,r,ob,es,ep,e,c⟩:=x
  exact ⟨z,y,xs,Paired.mapP r fun p q z=>⟨z.1,ht _ _ z.2.1,z.2.2⟩,ob,es,ep,k _ _ (.inl rfl) e,c⟩
 | set ks=>obtain ⟨ob,es,ep,t,k',e,c⟩:=x;exact ⟨ob,es,ep,t,k',k _ _ (.inl rfl) e,c⟩
 | ins C dx fs =>
  obtain ⟨d,z,ne,e,mA,⟨od,es,ep,e2,c⟩,r⟩:=x
  exact ⟨ho _ d,z,ne,k _ _ (.inl rfl) e,mA,⟨od,es,ep,k _ _ (.inr d) e2,c⟩,r⟩
 | own y=>obtain ⟨ob,e⟩:=x;exact ⟨ob,k _ _ (.inl rfl) e⟩
 | xd fs=>obtain ⟨mA,⟨od,es,ep,e,c⟩,r⟩:=x;exact ⟨mA,⟨od,es,ep,k _ _ (.inl rfl) e,c⟩,r⟩
 | rng lo hi=>obtain ⟨t,u,v,e⟩:=x;exact ⟨t,u,v,k _ _ (.inl rfl) e⟩
 | frz ob u ih=>obtain ⟨e,q⟩:=x;exact ⟨k _ _ (.inl rfl) e,ih q⟩
 | tbl ps =>
  have e:h.get? a=some { cls:=.none,data:=.fields ps }:=x
  show h'.get? a=some { cls:=.none,data:=.fields ps }
  exact k a _ (.inl rfl) e
 | met f y =>
  have e:h.get? a=some (PySem.W.methodObj (.ref f) (.ref y)):=x
  show h'.get? a=some (PySem.W.methodObj (.ref f) (.ref y))
  exact k a _ (.inl rfl) e
 | ext φ=>obtain ⟨p,⟨o,e⟩,st⟩:=x;exact ⟨st _ _ p fun o q=>k _ _ (.inl rfl) q,⟨o,k _ _ (.inl rfl) e⟩,st⟩
theorem HOk.lt (x:HOk P w H h) (e:H a=some o):a<h.objs.size:=(x a o e).lt
theorem HOk.fresh (x:HOk P w H h) (e:h.objs.size≤a):H a=none:=by
 cases q:H a with
 | none=>rfl
 | some u=>exact absurd (Nat.lt_of_lt_of_le (x.lt q) e) (Nat.lt_irrefl _)
theorem HOk.kept (x:HOk P w H h) (k:∀ b u,h.get? b=some u->h'.get? b=some u):HOk P w H h':=fun a o e =>
 (x a o e).stay (fun b u _ q=>k b u q) (fun _ q=>q) fun _ _ q=>q
theorem HOk.laid (x:HOk P w H h) (k:∀ b u,h.get? b=some u->h'.get? b=some u) (hp:h.objs.size≤a) (new:ObjOk P w (upd H a o) h' a o):HOk P w (upd H a o) h':=fun b u e=>by
 have hn:=x.fresh hp
 by_cases hb:b=a
 ·subst hb;rw [z06] at e;cases e;exact new
 ·rw [J5 hb] at e
  exact (x b u e).stay (fun c v _ q=>k c v q) (fun c q=>by rw [J5 (J6 q hn)];exact q) fun c xs q=>by rw [J5 (J6 q hn)];exact q
end
def Rd (H:Hp) (a:Addr) (u:HO):Prop:=H a=some u∨∃ o,H a=some (.frz o u)
theorem Rd.ok {P:Program}{w:World}{H:Hp}{h:Heap}{a:Addr}{u:HO}(r:Rd H a u) (x:HOk P w H h):ObjOk P w H h a u:=by
 rcases r with r | ⟨o,r⟩
 ·exact x a u r
 ·obtain ⟨_,q⟩:=x a _ r
  exact q
def Mut:Option HO->Prop
 | some (.lst _)=>True
 | some (.dK _)=>True
 | some (.dT _)=>True
 | some (.set _)=>True
 | some (.ins _ _ _)=>True
 | some (.ext _)=>True
 | _=>False
section
variable {P:Program}{w:World}{H:Hp}{h h':Heap}{x e:Addr}{o':HO}
theorem HOk.write (ok:HOk P w H h) (mu:Mut (H x)) (he:e=x∨H e=some (.own x)) (k:∀ b u,b≠e->h.get? b=some u->h'.get? b=some u) (heo:∃ u,h'.get? e=some u)
 (new:ObjOk P w (upd H x o') h' x o'):HOk P w (upd H x o') h':=fun b u q=>by
 have nown:∀ c y,H c=some (.own y)->c≠x:=fun c y r z=>by subst z;rw [r] at mu;exact mu
 have ntup:∀ c xs,H c=some (.tup xs)->c≠x:=fun c xs r z=>by subst z;rw [r] at mu;exact mu
 by_cases hb:b=x
 ·subst hb;rw [z06] at q;cases q;exact new
 ·rw [J5 hb] at q
  by_cases hbe:b=e
  ·have q':H b=some (.own x):=by
    rcases he with z | z
    ·exact absurd (hbe.trans z) hb
    ·rw [hbe];exact z
   rw [q] at q';cases q'
   obtain ⟨v,hv⟩:=heo
   exact ⟨v,by rw [hbe];exact hv⟩
  ·refine (ok b u q).stay (fun c v hc r=>k c v ?_ r) (fun c r=>by rw [J5 (nown c b r)];exact r) fun c xs r=>by rw [J5 (ntup c xs r)];exact r
   rcases hc with rfl | hc
   ·exact hbe
   ·rintro rfl
    rcases he with z | z
    ·exact nown c b hc z
    ·rw [hc] at z;cases z;exact hb rfl
end
structure Un (fs ex:List Addr) (H H':Hp) (h h':Heap):Prop where
 keep:∀ b o,h.get? b=some o->H b=none->b∉fs->b∉ex->h'.get? b=some o
 slot:∀ b o,h.get? b=some o->H b=none->b∈fs->b∉ex->∃ sl,h'.get? b=some { o with slots:=sl }
 free:∀ b o,h.get? b=some o->H b=none->b∉ex->H' b=none
 there:∀ b o,h.get? b=some o->b∉ex->∃ o',h'.get? b=some o'
 tups:∀ b xs,H b=some (.tup xs)->H' b=some (.tup xs)
 frzs:∀ b o u,H b=some (.frz o u)->H' b=some (.frz o u)
 tbls:∀ b ps,H b=some (.tbl ps)->∃ more,H' b=some (.tbl (ps++more))
section
variable {fs fs' ex ex':List Addr}{H H1 H2:Hp}{h h1 h2 h':Heap}{a x e:Addr}{o:HO}
theorem Un.any (u:Un fs ex H H1 h h1) {b:Addr}{ob:Obj}(q:h.get? b=some ob) (n:H b=none) (hx:b∉ex):∃ sl,h1.get? b=some { ob with slots:=sl }:=by
 by_cases hb:b∈fs
 ·exact u.slot b ob q n hb hx
 ·exact ⟨ob.slots,u.keep b ob q n hb hx⟩
theorem Un.kept (k:∀ b u,h.get? b=some u->h'.get? b=some u):Un fs ex H H h h' :=
 ⟨fun b ob q _ _ _=>k b ob q,fun b ob q _ _ _=>⟨ob.slots,k b ob q⟩,fun _ _ _ n _=>n,fun b ob q _=>⟨ob,k b ob q⟩,fun _ _ q=>q,fun _ _ _ q=>q,fun _ ps q=>⟨#[],by rw [q];simp⟩⟩
theorem Un.refl:Un fs ex H H h h:=Un.kept fun _ _ q=>q
theorem Un.laid (k:∀ b u,h.get? b=some u->h'.get? b=some u) (hp:h.objs.size≤a) (hn:H a=none):Un fs ex H (upd H a o) h h' where
 keep:=fun b u q _ _ _=>k b u q
 slot:=fun b u q _ _ _=>⟨u.slots,k b u q⟩
 free:=fun b u q n _=>by rw [J5 (Nat.ne_of_lt (Nat.lt_of_lt_of_le (Heap.lt_size q) hp))];exact n
 there:=fun b u q _=>⟨u,k b u q⟩
 tups:=fun b xs q=>by rw [J5 (J6 q hn)];exact q
 frzs:=fun b u xs q=>by rw [J5 (J6 q hn)];exact q
 tbls:=fun b ps q=>⟨#[],by rw [J5 (J6 q hn),q];simp⟩
theorem Un.write (mu:Mut (H x)) (he:e=x∨H e=some (.own x)) (k:∀ b u,b≠e->h.get? b=some u->h'.get? b=some u) (heo:∃ u,h'.get? e=some u):Un fs ex H (upd H x o) h h':=by
 have hx:∀ b,H b=none->b≠x:=fun b n z=>by subst z;rw [n] at mu;exact mu
 have hb:∀ b,H b=none->b≠e:=fun b n z=>by
  subst z
  rcases he with r | r
  ·exact hx b n r
  ·rw [n] at r;cases r
 have hm:∀ b u,H b=some u->¬ Mut (some u)->b≠x:=fun b u q nm z=>by subst z;rw [q] at mu;exact nm mu
 refine ⟨fun b u q n _ _=>k b u (hb b n) q,fun b u q n _ _=>⟨u.slots,k b u (hb b n) q⟩,fun b u q n _=>by rw [J5 (hx b n)];exact n,fun b u q _=>?_,
  fun b xs q=>by rw [J5 (hm b _ q fun z=>z)];exact q,fun b u xs q=>by rw [J5 (hm b _ q fun z=>z)];exact q,fun b ps q=>⟨#[],by rw [J5 (hm b _ q fun z=>z),q];simp⟩⟩
 by_cases hbe:b=e
 ·subst hbe;exact heo
 ·exact ⟨u,k b u hbe q⟩
end
def trk (h:Heap) (H:Hp):List Addr:=(List.range h.objs.size).filter fun a=>(H a).isSome
def hidT (h:Heap) (H:Hp):Heap:=PySem.W.hideAll h (trk h H)
theorem z7I (h:Heap) (H:Hp):(hidT h H).objs.size=h.objs.size:=PySem.W.hideAll_size _ _
theorem z9S {h:Heap}{H:Hp}{b:Addr}{o:Obj}(e:h.get? b=some o) (n:H b=none):(hidT h H).get? b=some o :=
 PySem.W.hideAll_get _ e fun hm=>by
  have q:(H b).isSome=true:=(List.mem_filter.mp hm).2
  rw [n] at q;simp at q
theorem zn7 {h:Heap}{H:Hp}{b:Addr}{o:Obj}(e:(hidT h H).get? b=some o):h.get? b=some o/\H b=none:=by
 have e':h.get? b=some o:=PySem.W.of_hideAll (trk h H) e
 refine ⟨e',?_⟩
 cases q:H b with
 | none=>rfl
 | some x =>
  have hm:b∈trk h H:=List.mem_filter.mpr ⟨List.mem_range.mpr (Heap.lt_size e'),by simp [q]⟩
  have z:(hidT h H).get? b=none:=PySem.W.hideAll_none (trk h H) hm
  rw [z] at e;cases e
def zp3 (g h:Heap) (L:Addr):List (Addr×Obj):=(List.range h.objs.size).filterMap fun a=>if a=L∨(g.get? a).isSome=true then none else (h.get? a).map fun o=>(a,o)
def rest (g h:Heap) (L d:Addr):List (Addr×Obj):=(zp3 g h L).filter fun p=>decide (p.1≠d)
structure Mod (K:PySem.W.Frag) (mg:Str->Option Value) (base:Heap):Prop where
 kin:K.In base
 glob:base.Ns mainGlobals mg
 blt:∃ mb,base.Ns builtinsNs mb/\∀ x:Str,x≠"__name__"->mb x=bootBuiltins x
 nolimit:base.NoLimit
structure Cx where
 prog:Program
 w:World
 K:PySem.W.Frag
 mg:Str->Option Value
 base:Heap
 A:Around
 N:List Str
 s₀:Shared
 H₀:Hp
 env:Env
 outer:List Env
 stack:List Env
 ex:List Addr
 fn:Str->Bool
 calm:Bool
 pn:List (Addr×Obj)
 xe:Value->Shared->Prop
def frs (l:List Env):List Addr:=l.filterMap (·.frame)
abbrev Cx.fs (X:Cx):List Addr:=frs X.outer
def Vis (sc:Scope) (x:Str):Prop:=sc.names.lookup x=some .local∨sc.names.lookup x=some .cell∨sc.names.lookup x=some .free
def Loc (sc:Scope) (x:Str):Prop:=sc.names.lookup x=some .local∨sc.names.lookup x=some .cell
def Look (env:Env) (h:Heap) (m:Str->Option Value) (x:Str) (u:Value):Prop :=
 (env.kindOf x=some .local/\m x=some u)∨((env.kindOf x=some .cell∨env.kindOf x=some .free)/\∃ c,env.cells.lookup x=some c/\h.IsCell c (some u))
structure Cx.Ok (X:Cx):Prop where
 mod:Mod X.K X.mg X.base
 kind:X.env.scope.kind=.function
 glob:X.env.globals=mainGlobals
 blt:X.env.builtins=builtinsNs
 above:X.s₀.heap.objs.size≤X.env.locals
 inj:∀ x y c,X.env.cells.lookup x=some c->X.env.cells.lookup y=some c->x=y
 has:∀ x,(X.env.kindOf x=some .cell∨X.env.kindOf x=some .free)->∃ c,X.env.cells.lookup x=some c
 cab:∀ x c,X.fn x=true->X.env.cells.lookup x=some c->X.s₀.heap.objs.size≤c
 hd:X.calm=true->X.A.handled=none
 frames:X.A.frames=some X.stack
 stk:X.stack=X.outer∨(X.stack=X.env :: X.outer/\X.env.frame=some X.env.locals)
 exf:∀ b∈X.ex,b≠X.env.locals/\∀ x c,X.env.cells.lookup x=some c->c≠b
 bs:∀ b o,X.base.get? b=some o->X.s₀.heap.get? b=some o/\X.H₀ b=none
 bsz:X.base.objs.size≤X.s₀.heap.objs.size
 noex:∀ b o,X.base.get? b=some o->b∉X.ex
 exfs:∀ b∈X.ex,b∉X.fs
 funs:X.s₀.heap.FunFrames X.base X.outer
 frf:∀ b∈X.fs,X.H₀ b=none
structure Inv (X:Cx) (pins:List (Addr×Obj)) (σ:List (Option V)) (H:Hp) (s:Shared):Prop where
 ok:X.Ok
 os:s.os=X.s₀.os
 bare:AllBare s.gens
 base:Un X.fs X.ex X.H₀ H X.s₀.heap s.heap
 loc:∃ m,s.heap.Ns X.env.locals m/\∀ (i:Nat) (x:Str) (v:V),X.N[i]?=some x->σ[i]?=some (some v)->Vis X.env.scope x->∃ u,RelV v u/\Look X.env s.heap m x u
 cell:∀ x c,X.env.cells.lookup x=some c->∃ v,s.heap.IsCell c v
 free:H X.env.locals=none
 freeC:∀ x c,X.env.cells.lookup x=some c->H c=none
 pin:∀ p∈X.pn++pins,s.heap.get? p.1=some p.2/\H p.1=none/\p.1≠X.env.locals/\p.1∉X.fs/\∀ v,p.2.data≠.cell v
 hok:HOk X.prog X.w H s.heap
 len:σ.length=X.N.length
section
variable {X:Cx}{pins:List (Addr×Obj)}{σ:List (Option V)}{H H':Hp}{s:Shared}{h':Heap}
theorem Cx.Ok.nofr (ok:X.Ok) {b:Addr}{o:Obj}(e:X.base.get? b=some o):b∉X.fs:=fun hb=>by
 have:=(ok.funs.mem hb).1
 rw [e] at this;cases this
theorem Inv.bs (I:Inv X pins σ H s):∀ b o,X.base.get? b=some o->s.heap.get? b=some o/\H b=none:=fun b o e =>
 ⟨I.base.keep b o (I.ok.bs b o e).1 (I.ok.bs b o e).2 (I.ok.nofr e) (I.ok.noex b o e),I.base.free b o (I.ok.bs b o e).1 (I.ok.bs b o e).2 (I.ok.noex b o e)⟩
theorem Inv.bk (I:Inv X pins σ H s):∀ b o,X.base.get? b=some o->s.heap.get? b=some o:=fun b o e=>(I.bs b o e).1
theorem Inv.mod (I:Inv X pins σ H s):Mod X.K X.mg X.base:=I.ok.mod
theorem Inv.kIn (I:Inv X pins σ H s):X.K.In s.heap:=I.ok.mod.kin.keeps I.bk
theorem Inv.fr (I:Inv X pins σ H s):∃ m,Fr X.base X.env.locals s.heap m :=
 let ⟨m,hn,_⟩:=I.loc
 ⟨m,hn,I.bk,Nat.le_trans I.ok.bsz I.ok.above⟩
theorem Inv.lt (I:Inv X pins σ H s):X.env.locals<s.heap.objs.size:=let ⟨_,hn,_⟩:=I.loc;hn.lt
theorem Inv.sz (I:Inv X pins σ H s):X.s₀.heap.objs.size≤s.heap.objs.size:=Nat.le_trans I.ok.above (Nat.le_of_lt I.lt)
theorem Inv.nofs (I:Inv X pins σ H s) {a:Addr}(h:s.heap.objs.size≤a):a∉X.fs:=fun hb=>by
 obtain ⟨_,o,ho,_⟩:=I.ok.funs.mem hb
 exact absurd (Nat.lt_of_lt_of_le (Heap.lt_size ho) (Nat.le_trans I.sz h)) (Nat.lt_irrefl _)
theorem Inv.cne (I:Inv X pins σ H s):∀ x c,X.env.cells.lookup x=some c->c≠X.env.locals:=fun x c e z=>by
 obtain ⟨v,o,ho,hd⟩:=I.cell x c e
 obtain ⟨m,⟨o',es,ep,ho',hd',_⟩,_⟩:=I.loc
 rw [z,ho'] at ho;cases ho;rw [hd'] at hd;cases hd
theorem Inv.funs (I:Inv X pins σ H s):s.heap.FunFrames X.base X.outer:=by
 have all:∀ (l:List Env),(∀ b∈frs l,b∈X.fs)->X.s₀.heap.FunFrames X.base l->s.heap.FunFrames X.base l:=by
  intro l
  induction l with
  | nil=>intro _ _;trivial
  | cons env r ih =>
   intro hs hl
   obtain ⟨hk,⟨L,o,hf,hn,ho,hd⟩,hr⟩:=hl
   have hL:L∈X.fs:=hs L (by unfold frs;rw [List.filterMap_cons,hf];exact List.mem_cons_self)
   obtain ⟨sl,e⟩:=I.base.slot L o ho (I.ok.frf L hL) hL fun z=>I.ok.exfs L z hL
   exact ⟨hk,⟨L,_,hf,hn,e,hd⟩,ih (fun b hb=>hs b (by unfold frs;rw [List.filterMap_cons,hf];exact List.mem_cons_of_mem _ hb)) hr⟩
 exact all X.outer (fun _ hb=>hb) I.ok.funs
theorem Inv.stack (I:Inv X pins σ H s):s.heap.FunFrames X.base X.stack:=by
 rcases I.ok.stk with e | ⟨e,hf⟩
 ·rw [e];exact I.funs
 ·rw [e]
  obtain ⟨m,hn,_⟩:=I.loc
  refine .cons (by rw [I.ok.kind];decide) hf hn ?_ I.funs
  exact Heap.get?_none_of_le (Nat.le_trans I.ok.bsz I.ok.above)
theorem Inv.stkSub (I:Inv X pins σ H s):∀ b∈frs X.stack,b∈X.env.locals :: X.fs:=fun b hb=>by
 rcases I.ok.stk with e | ⟨e,hf⟩
 ·rw [e] at hb;exact List.mem_cons_of_mem _ hb
 ·rw [e] at hb
  unfold frs at hb
  rw [List.filterMap_cons,hf] at hb
  exact hb
theorem Inv.stkFree (I:Inv X pins σ H s):∀ b∈frs X.stack,H b=none:=fun b hb=>by
 rcases List.mem_cons.mp (I.stkSub b hb) with e | hb
 ·rw [e];exact I.free
 ·obtain ⟨_,o,ho,_⟩:=I.ok.funs.mem hb
  exact I.base.free b o ho (I.ok.frf b hb) fun z=>I.ok.exfs b z hb
theorem Inv.step {g':Array GenState}{t':Nat}{d':Drawn}{ch:List Addr}(I:Inv X pins σ H s)
 (hch:∀ b∈ch,(b∈X.ex∨X.s₀.heap.objs.size≤b)/\b≠X.env.locals/\(∀ x c,X.env.cells.lookup x=some c->c≠b)/\∀ p∈X.pn++pins,p.1≠b)
 (keep:∀ b o,b≠X.env.locals->b∉X.fs->b∉ch->s.heap.get? b=some o->H b=none->h'.get? b=some o)
 (slot:∀ b o,b≠X.env.locals->b∈X.fs->b∉ch->s.heap.get? b=some o->H b=none->∃ sl,h'.get? b=some { o with slots:=sl }) (free:∀ b o,b∉ch->s.heap.get? b=some o->H b=none->H' b=none)
 (there:∀ b o,b∉ch->s.heap.get? b=some o->∃ o',h'.get? b=some o')
 (tups:∀ b xs,H b=some (.tup xs)->H' b=some (.tup xs)) (frzs:∀ b o u,H b=some (.frz o u)->H' b=some (.frz o u)) (tbls:∀ b ps,H b=some (.tbl ps)->∃ more,H' b=some (.tbl (ps++more)))
 (ns:∀ m,s.heap.Ns X.env.locals m->h'.Ns X.env.locals m) (hok:HOk X.prog X.w H' h') (hg:AllBare g') :
 Inv X pins σ H' { s with heap:=h',gens:=g',drawn:=d',toks:=t' }:=by
 have neL:∀ b o,X.s₀.heap.get? b=some o->b≠X.env.locals:=fun b o e=>Nat.ne_of_lt (Nat.lt_of_lt_of_le (Heap.lt_size e) I.ok.above)
 have neC:∀ b o,X.s₀.heap.get? b=some o->b∉X.ex->b∉ch:=fun b o e hx hb=>by
  rcases (hch b hb).1 with z | z
  ·exact hx z
  ·exact absurd (Nat.lt_of_lt_of_le (Heap.lt_size e) z) (Nat.lt_irrefl _)
 have cellK:∀ x c,X.env.cells.lookup x=some c->∀ v,s.heap.IsCell c v->h'.IsCell c v:=fun x c e v ⟨o,ho,hd⟩=>by
  have nch:c∉ch:=fun z=>(hch c z).2.2.1 x c e rfl
  by_cases hc:c∈X.fs
  ·obtain ⟨sl,q⟩:=slot c o (I.cne x c e) hc nch ho (I.freeC x c e)
   exact ⟨_,q,hd⟩
  ·exact ⟨o,keep c o (I.cne x c e) hc nch ho (I.freeC x c e),hd⟩
 refine ⟨I.ok,I.os,hg,⟨fun b o e n hb hx=>?_,fun b o e n hb hx=>?_,fun b o e n hx=>?_,fun b o e hx=>?_,fun b xs e=>tups b xs (I.base.tups b xs e),fun b o xs e=>frzs b o xs (I.base.frzs b o xs e),fun b ps e=>?_⟩,?_,fun x c e=>?_,?_,fun x c e=>?_,fun p hp=>?_,hok,I.len⟩
 ·exact keep b o (neL b o e) hb (neC b o e hx) (I.base.keep b o e n hb hx) (I.base.free b o e n hx)
 ·obtain ⟨sl,e1⟩:=I.base.slot b o e n hb hx
  obtain ⟨sl',e2⟩:=slot b _ (neL b o e) hb (neC b o e hx) e1 (I.base.free b o e n hx)
  exact ⟨sl',e2⟩
 ·obtain ⟨o',e1⟩:=I.base.there b o e hx
  exact free b o' (neC b o e hx) e1 (I.base.free b o e n hx)
 ·obtain ⟨o',e1⟩:=I.base.there b o e hx
  exact there b o' (neC b o e hx) e1
 ·obtain ⟨m1,e1⟩:=I.base.tbls b ps e
  obtain ⟨m2,e2⟩:=tbls b _ e1
  exact ⟨m1++m2,by rw [e2,Array.append_assoc]⟩
 ·obtain ⟨m,hn,hl⟩:=I.loc
  refine ⟨m,ns m hn,fun i x v e1 e2 e3=>?_⟩
  obtain ⟨u,r,l⟩:=hl i x v e1 e2 e3
  refine ⟨u,r,?_⟩
  rcases l with l | ⟨k,c,e,z⟩
  ·exact .inl l
  ·exact .inr ⟨k,c,e,cellK x c e _ z⟩
 ·obtain ⟨v,z⟩:=I.cell x c e
  exact ⟨v,cellK x c e v z⟩
 ·obtain ⟨m,⟨o,_,_,ho,_⟩,_⟩:=I.loc
  exact free _ o (fun z=>(hch _ z).2.1 rfl) ho I.free
 ·obtain ⟨v,o,ho,hd⟩:=I.cell x c e
  exact free c o (fun z=>(hch c z).2.2.1 x c e rfl) ho (I.freeC x c e)
 ·obtain ⟨e,n,ne,nf,d⟩:=I.pin p hp
  have nch:p.1∉ch:=fun z=>(hch p.1 z).2.2.2 p hp rfl
  exact ⟨keep p.1 p.2 ne nf nch e n,free p.1 p.2 nch e n,ne,nf,d⟩
theorem Inv.un {t':Nat}(I:Inv X pins σ H s) (u:Un X.fs [] H H' s.heap h') (hok:HOk X.prog X.w H' h'):Inv X pins σ H' { s with heap:=h',toks:=t' }:=by
 obtain ⟨m,⟨o,es,ep,ho,r⟩,_⟩:=id I.loc
 obtain ⟨sl,hL⟩:=u.any ho I.free (by simp)
 exact I.step (g':=s.gens) (d':=s.drawn) (ch:=[]) (fun _ z=>nomatch z) (fun b o _ hb _ e n=>u.keep b o e n hb (by simp)) (fun b o _ hb _ e n=>u.slot b o e n hb (by simp)) (fun b o _ e n=>u.free b o e n (by simp)) (fun b o _ e=>u.there b o e (by simp)) u.tups u.frzs u.tbls (fun m' hm=>by
  obtain ⟨o',es',ep',ho',r'⟩:=hm
  rw [ho] at ho';cases ho'
  exact ⟨_,es',ep',hL,r'⟩) hok I.bare
theorem Inv.call {g':Array GenState}{t':Nat}{d':Drawn}{ch:List Addr}(I:Inv X pins σ H s) (u:Un (frs X.stack) ch H H' s.heap h') (hok:HOk X.prog X.w H' h') (hg:AllBare g')
 (hch:∀ b∈ch,(b∈X.ex∨X.s₀.heap.objs.size≤b)/\b≠X.env.locals/\(∀ x c,X.env.cells.lookup x=some c->c≠b)/\∀ p∈X.pn++pins,p.1≠b) :
 Inv X pins σ H' { s with heap:=h',gens:=g',drawn:=d',toks:=t' }:=by
 obtain ⟨m,⟨o,es,ep,ho,r⟩,_⟩:=id I.loc
 obtain ⟨sl,hL⟩:=u.any ho I.free fun z=>(hch _ z).2.1 rfl
 exact I.step (ch:=ch) hch (fun b o hL hb hc e n=>u.keep b o e n (fun z=>(List.mem_cons.mp (I.stkSub b z)).elim hL hb) hc) (fun b o _ _ hc e n=>u.any e n hc) (fun b o hc e n=>u.free b o e n hc) (fun b o hc e=>u.there b o e hc) u.tups u.frzs u.tbls (fun m' hm=>by
  obtain ⟨o',es',ep',ho',r'⟩:=hm
  rw [ho] at ho';cases ho'
  exact ⟨_,es',ep',hL,r'⟩) hok hg
theorem Inv.turned {t':Nat}{it:Addr}(I:Inv X pins σ H s) (k:∀ b o,b≠it->s.heap.get? b=some o->h'.get? b=some o) (hn:H it=none) (hL:it≠X.env.locals)
 (h1:it∈X.ex∨X.s₀.heap.objs.size≤it) (h2:∀ x c,X.env.cells.lookup x=some c->c≠it) (h3:∀ p∈X.pn++pins,p.1≠it):Inv X pins σ H { s with heap:=h',toks:=t' }:=by
 have nit:∀ b u,H b=some u->b≠it:=fun b u e z=>by rw [z,hn] at e;cases e
 refine I.step (g':=s.gens) (d':=s.drawn) (ch:=[it]) (fun b hb=>?_) (fun b o _ _ hc e _=>k b o (fun z=>hc (by simp [z])) e) (fun b o _ _ hc e _=>⟨o.slots,k b o (fun z=>hc (by simp [z])) e⟩) (fun _ _ _ _ n=>n)
  (fun b o hc e=>⟨o,k b o (fun z=>hc (by simp [z])) e⟩) (fun _ _ e=>e) (fun _ _ _ e=>e) (fun b ps e=>⟨#[],by rw [e];simp⟩) (fun m hm=>?_) (fun b u e=>?_) I.bare
 ·have e:b=it:=by simpa using hb
  subst e
  exact ⟨h1,hL,h2,h3⟩
 ·obtain ⟨o,es,ep,ho,r⟩:=hm
  exact ⟨o,es,ep,k _ o (Ne.symm hL) ho,r⟩
 ·refine (I.hok b u e).stay (fun c v hc q=>k c v ?_ q) (fun _ q=>q) fun _ _ q=>q
  rcases hc with z | z
  ·rw [z];exact nit b u e
  ·exact nit c _ z
theorem Inv.tok (I:Inv X pins σ H s) (t:Nat):Inv X pins σ H { s with toks:=t }:=I.un (h':=s.heap) (t':=t) Un.refl I.hok
theorem Inv.kept {t':Nat}(I:Inv X pins σ H s) (k:∀ b u,s.heap.get? b=some u->h'.get? b=some u):Inv X pins σ H { s with heap:=h',toks:=t' }:=I.un (Un.kept k) (I.hok.kept k)
theorem Inv.laid {a:Addr}{o:HO}{t':Nat}(I:Inv X pins σ H s) (k:∀ b u,s.heap.get? b=some u->h'.get? b=some u) (hp:s.heap.objs.size≤a) (new:ObjOk X.prog X.w (upd H a o) h' a o) :
 Inv X pins σ (upd H a o) { s with heap:=h',toks:=t' }:=I.un (Un.laid k hp (I.hok.fresh hp)) (I.hok.laid k hp new)
theorem Inv.write {x e:Addr}{o:HO}{t':Nat}(I:Inv X pins σ H s) (mu:Mut (H x)) (he:e=x∨H e=some (.own x)) (k:∀ b u,b≠e->s.heap.get? b=some u->h'.get? b=some u) (heo:∃ u,h'.get? e=some u)
 (new:ObjOk X.prog X.w (upd H x o) h' x o):Inv X pins σ (upd H x o) { s with heap:=h',toks:=t' }:=I.un (Un.write mu he k heo) (I.hok.write mu he k heo new)
theorem Inv.weak {σ':List (Option V)}(I:Inv X pins σ H s) (hl:σ'.length=σ.length) (w:∀ (i:Nat) v,σ'[i]?=some (some v)->σ[i]?=some (some v)):Inv X pins σ' H s :=
 ⟨I.ok,I.os,I.bare,I.base,let ⟨m,hn,hl'⟩:=I.loc;⟨m,hn,fun i x v e1 e2 e3=>hl' i x v e1 (w i v e2) e3⟩,I.cell,I.free,I.freeC,I.pin,I.hok,hl.trans I.len⟩
theorem Inv.pins_of {pins':List (Addr×Obj)}(I:Inv X pins σ H s) (h:∀ p∈pins',s.heap.get? p.1=some p.2/\H p.1=none/\p.1≠X.env.locals/\p.1∉X.fs/\∀ v,p.2.data≠.cell v):Inv X pins' σ H s :=
 ⟨I.ok,I.os,I.bare,I.base,I.loc,I.cell,I.free,I.freeC,fun p hp=>(List.mem_append.mp hp).elim (fun z=>I.pin p (List.mem_append_left _ z)) (h p),I.hok,I.len⟩
theorem z5R {N:List Str}(hN:N.Nodup) {i j:Nat}{x:Str}(a:N[i]?=some x) (b:N[j]?=some x):i=j:=by
 obtain ⟨h1,e1⟩:=List.getElem?_eq_some_iff.mp a
 obtain ⟨h2,e2⟩:=List.getElem?_eq_some_iff.mp b
 exact (List.getElem_inj hN).mp (e1.trans e2.symm)
theorem z8r {M:Model}{A:Around}{E:Value->Shared->Prop}{i:Nat}{x:Str}{v:V}{u:Value}{Q:Unit->Shared->Prop}(I:Inv X pins σ H s) (hN:X.N.Nodup) (hi:X.N[i]?=some x) (hx:Loc X.env.scope x) (r:RelV v u)
 (h:∀ s',Inv X pins (σ.set i (some v)) H s'->(∃ a,Heap.SameBut a s.heap s'.heap/\(a=X.env.locals∨X.env.cells.lookup x=some a))->Q () s') (hf:X.fn x=true∨X.env.scope.names.lookup x=some .local:=by first | exact .inl rfl | exact .inr rfl | assumption):wpAny M A (storeName X.env x u) Q E s:=by
 obtain ⟨m,hn,hl⟩:=id I.loc
 have hcls:(X.env.scope.kind == .class || (X.env.scope.kind == .module && X.env.locals != X.env.globals))=false:=by rw [I.ok.kind];rfl
 have hiσ:i<σ.length:=by rw [I.len];exact (List.getElem?_eq_some_iff.mp hi).1
 have cne:=I.cne
 have tracked:∀ {a:Addr} {h':Heap},(∃ o,s.heap.get? a=some o/\H a=none)->Heap.SameBut a s.heap h'->HOk X.prog X.w H h':=fun {a h'} ha hs b ob e=>by
  obtain ⟨_,_,hfree⟩:=ha
  refine (I.hok b ob e).stay (fun c w' hc q=>(hs.2 c ?_).trans q) (fun _ q=>q) fun _ _ q=>q
  rintro rfl
  rcases hc with rfl | hc
  ·rw [hfree] at e;cases e
  ·rw [hfree] at hc;cases hc
 rcases hx with hk | hk
 ·refine wpAny_storeName_local hk hn (fun h' hn' hs=>?_) hcls
  obtain ⟨oL,_,_,hoL,_⟩:=id hn
  refine h _ ⟨I.ok,I.os,I.bare,⟨fun b o e n hb hx=>?_,fun b o e n hb hx=>?_,I.base.free,fun b o e hx=>?_,I.base.tups,I.base.frzs,I.base.tbls⟩,⟨_,hn',fun j y v' e1 e2 e3=>?_⟩,fun y c e=>?_,I.free,I.freeC,fun p hp=>?_,tracked ⟨oL,hoL,I.free⟩ hs,by simpa using I.len⟩ ⟨_,hs,.inl rfl⟩
  ·exact (hs.2 b (Nat.ne_of_lt (Nat.lt_of_lt_of_le (Heap.lt_size e) I.ok.above))).trans (I.base.keep b o e n hb hx)
  ·obtain ⟨sl,e1⟩:=I.base.slot b o e n hb hx
   exact ⟨sl,(hs.2 b (Nat.ne_of_lt (Nat.lt_of_lt_of_le (Heap.lt_size e) I.ok.above))).trans e1⟩
  ·obtain ⟨o',e1⟩:=I.base.there b o e hx
   exact ⟨o',(hs.2 b (Nat.ne_of_lt (Nat.lt_of_lt_of_le (Heap.lt_size e) I.ok.above))).trans e1⟩
  ·by_cases hj:j=i
   ·subst hj
    rw [hi] at e1;cases e1
    rw [List.getElem?_set_self hiσ] at e2
    cases e2
    exact ⟨u,r,.inl ⟨hk,by simp⟩⟩
   ·rw [List.getElem?_set_ne (Ne.symm hj)] at e2
    obtain ⟨u',r',q⟩:=hl j y v' e1 e2 e3
    refine ⟨u',r',?_⟩
    rcases q with ⟨k,e⟩ | ⟨k,c,e,z⟩
    ·refine .inl ⟨k,?_⟩
     have:y≠x:=fun e=>hj (z5R hN e1 (e ▸ hi))
     simp [this,e]
    ·exact .inr ⟨k,c,e,z.sameBut hs (cne y c e)⟩
  ·obtain ⟨w',z⟩:=I.cell y c e
   exact ⟨w',z.sameBut hs (cne y c e)⟩
  ·obtain ⟨e,n,ne,nf,d⟩:=I.pin p hp
   exact ⟨(hs.2 p.1 ne).trans e,n,ne,nf,d⟩
 ·have hfn:X.fn x=true:=by
   rcases hf with z | z
   ·exact z
   ·rw [z] at hk;cases hk
  obtain ⟨c,hc⟩:=I.ok.has x (.inl hk)
  obtain ⟨w',z⟩:=I.cell x c hc
  refine wpAny_storeName_cell I.ok.kind hk hc z (fun h' hc' hs=>?_)
  obtain ⟨oc,hoc,hocd⟩:=id z
  refine h { s with heap:=h' } ⟨I.ok,I.os,I.bare,⟨fun b o e n hb hx=>?_,fun b o e n hb hx=>?_,I.base.free,fun b o e hx=>?_,I.base.tups,I.base.frzs,I.base.tbls⟩,⟨m,hn.sameBut hs (Ne.symm (cne x c hc)),fun j y v' e1 e2 e3=>?_⟩,fun y c' e=>?_,I.free,I.freeC,fun p hp=>?_,tracked ⟨oc,hoc,I.freeC x c hc⟩ hs,by simpa using I.len⟩ ⟨c,hs,.inr hc⟩
  ·exact (hs.2 b (Nat.ne_of_lt (Nat.lt_of_lt_of_le (Heap.lt_size e) (I.ok.cab x c hfn hc)))).trans (I.base.keep b o e n hb hx)
  ·obtain ⟨sl,e1⟩:=I.base.slot b o e n hb hx
   exact ⟨sl,(hs.2 b (Nat.ne_of_lt (Nat.lt_of_lt_of_le (Heap.lt_size e) (I.ok.cab x c hfn hc)))).trans e1⟩
  ·obtain ⟨o',e1⟩:=I.base.there b o e hx
   exact ⟨o',(hs.2 b (Nat.ne_of_lt (Nat.lt_of_lt_of_le (Heap.lt_size e) (I.ok.cab x c hfn hc)))).trans e1⟩
  ·by_cases hj:j=i
   ·subst hj
    rw [hi] at e1;cases e1
    rw [List.getElem?_set_self hiσ] at e2
    cases e2
    exact ⟨u,r,.inr ⟨.inl hk,c,hc,hc'⟩⟩
   ·rw [List.getElem?_set_ne (Ne.symm hj)] at e2
    obtain ⟨u',r',q⟩:=hl j y v' e1 e2 e3
    refine ⟨u',r',?_⟩
    rcases q with q | ⟨k,c',e,z'⟩
    ·exact .inl q
    ·refine .inr ⟨k,c',e,z'.sameBut hs ?_⟩
     rintro rfl
     exact hj (z5R hN e1 (I.ok.inj _ _ _ e hc ▸ hi))
  ·by_cases hcc:c'=c
   ·subst hcc;exact ⟨_,hc'⟩
   ·obtain ⟨w2,z2⟩:=I.cell y c' e
    exact ⟨w2,z2.sameBut hs hcc⟩
  ·obtain ⟨e,n,ne,nf,d⟩:=I.pin p hp
   refine ⟨(hs.2 p.1 ?_).trans e,n,ne,nf,d⟩
   intro q
   rw [q,hoc] at e
   have q':oc=p.2:=Option.some.inj e
   exact d w' (by rw [← q'];exact hocd)
theorem z4f {M:Model}{A:Around}{E:Value->Shared->Prop}{i:Nat}{x:Str}{v:V}{u:Value}{Q:Unit->Shared->Prop}(I:Inv X pins σ H s) (hN:X.N.Nodup) (hi:X.N[i]?=some x) (hx:Loc X.env.scope x) (r:RelV v u)
 (h:∀ s',Inv X pins (σ.set i (some v)) H s'->Q () s') (hf:X.fn x=true∨X.env.scope.names.lookup x=some .local:=by first | exact .inl rfl | exact .inr rfl | assumption):wpAny M A (storeName X.env x u) Q E s :=
 z8r I hN hi hx r (fun s' I' _=>h s' I') hf
theorem Inv.call' {s':Shared}{ch:List Addr}(I:Inv X pins σ H s) (ho:s'.os=s.os) (u:Un (frs X.stack) ch H H' s.heap s'.heap) (hok:HOk X.prog X.w H' s'.heap) (hg:AllBare s'.gens)
 (hch:∀ b∈ch,(b∈X.ex∨X.s₀.heap.objs.size≤b)/\b≠X.env.locals/\(∀ x c,X.env.cells.lookup x=some c->c≠b)/\∀ p∈X.pn++pins,p.1≠b):Inv X pins σ H' s':=by
 obtain ⟨h',g',d',t',o'⟩:=s'
 have e:o'=s.os:=ho
 subst e
 exact I.call (g':=g') (t':=t') (d':=d') u hok hg hch
end
abbrev XK:=Value->Option Addr->Hp->Prop
abbrev St:=List (Option V)
abbrev VK:=V->Hp->Prop
abbrev TE:=St->Hp->VK->Prop
abbrev TT:=St->Hp->(Bool->Hp->Prop)->Prop
abbrev TA:=St->Hp->(List V->Hp->Prop)->Prop
structure Ends where
 nx:St->Hp->Prop
 rt:VK
 bk:St->Hp->Prop:=fun _ _=>False
 ct:St->Hp->Prop:=fun _ _=>False
abbrev TS:=Ends->St->Hp->Prop
def EP (X:Cx) (pins:List (Addr×Obj)) (σ:St) (Q:VK) (u:Value) (s':Shared):Prop:=∃ v H',Inv X pins σ H' s'/\RelV v u/\Q v H'
def TP (X:Cx) (pins:List (Addr×Obj)) (σ:St) (Q:Bool->Hp->Prop) (b:Bool) (s':Shared):Prop:=∃ H',Inv X pins σ H' s'/\Q b H'
def AP (X:Cx) (pins:List (Addr×Obj)) (σ:St) (Q:List V->Hp->Prop) (us:List Value) (s':Shared):Prop:=∃ vs H',Inv X pins σ H' s'/\Vals vs us/\Q vs H'
def SP (X:Cx) (pins:List (Addr×Obj)) (D:Ends) (f:Flow) (s':Shared):Prop :=
 match f with
 | .next=>∃ σ' H',Inv X pins σ' H' s'/\D.nx σ' H'
 | .brk=>∃ σ' H',Inv X pins σ' H' s'/\D.bk σ' H'
 | .cont=>∃ σ' H',Inv X pins σ' H' s'/\D.ct σ' H'
 | .ret u=>∃ v σ' H',Inv X pins σ' H' s'/\RelV v u/\D.rt v H'
def PE (X:Cx) (e:Expr) (t:TE):Prop :=
 ∀ (pins:List (Addr×Obj)) (s:Shared) (σ:St) (H:Hp) (Q:VK),Inv X pins σ H s->t σ H Q->wpAny (model X.prog X.w) X.A (eval e X.env) (EP X pins σ Q) X.xe s
def PT (X:Cx) (e:Expr) (t:TT):Prop :=
 ∀ (pins:List (Addr×Obj)) (s:Shared) (σ:St) (H:Hp) (Q:Bool->Hp->Prop),Inv X pins σ H s->t σ H Q->wpAny (model X.prog X.w) X.A (isTrue e X.env (eval e X.env)) (TP X pins σ Q) X.xe s
def PW (X:Cx) (e:Expr) (t:TT):Prop :=
 ∀ (whole:Sem Value) (pins:List (Addr×Obj)) (s:Shared) (σ:St) (H:Hp) (Q:Bool->Hp->Prop),Inv X pins σ H s->t σ H Q->wpAny (model X.prog X.w) X.A (isTrue e X.env whole) (TP X pins σ Q) X.xe s
theorem PW.pt {X:Cx}{e:Expr}{t:TT}(h:PW X e t):PT X e t:=h _
def PA (X:Cx) (es:List Expr) (t:TA):Prop :=
 ∀ (pos:Pos) (pins:List (Addr×Obj)) (s:Shared) (σ:St) (H:Hp) (Q:List V->Hp->Prop),Inv X pins σ H s->t σ H Q->wpAny (model X.prog X.w) X.A (spliced (backTo pos (starEach es X.env))) (AP X pins σ Q) X.xe s
def PS (X:Cx) (st:Stmt) (t:TS):Prop :=
 ∀ (pins:List (Addr×Obj)) (s:Shared) (σ:St) (H:Hp) (D:Ends),Inv X pins σ H s->t D σ H->wpAny (model X.prog X.w) X.A (exec st X.env) (SP X pins D) X.xe s
def PSs (X:Cx) (st:List Stmt) (t:TS):Prop :=
 ∀ (pins:List (Addr×Obj)) (s:Shared) (σ:St) (H:Hp) (D:Ends),Inv X pins σ H s->t D σ H->wpAny (model X.prog X.w) X.A (execs st X.env) (SP X pins D) X.xe s
theorem thn {α:Type}{t:Sem α}{Q Q':α->Shared->Prop}{M:Model}{A:Around}{E:Value->Shared->Prop}{s:Shared}(h:wpAny M A t Q E s) (hQ:∀ a s,Q a s->Q' a s):wpAny M A t Q' E s:=wpAny_mono h hQ fun _ _ x=>x
section
variable {X:Cx}
def tVar (i:Nat):TE:=fun σ H Q=>∃ v,σ[i]?=some (some v)/\Q v H
def tC (v:V):TE:=fun _ H Q=>Q v H
theorem zz7 {i:Nat}{x:Str}{pos:Pos}(hN:X.N[i]?=some x) (hv:Vis X.env.scope x) (hd:(x == ("__debug__":Str))=false:=by decide) (hcd:(x == ("__classdict__":Str))=false:=by decide):PE X (.Name x pos) (tVar i):=by
 intro pins s σ H Q I h
 obtain ⟨v,e,h⟩:=h
 obtain ⟨m,hn,hl⟩:=I.loc
 obtain ⟨u,r,l⟩:=hl i x v hN e hv
 have fin:EP X pins σ Q u s:=⟨v,H,I,r,h⟩
 rcases l with ⟨hk,hm⟩ | ⟨hk,c,hc,hcell⟩
 ·exact wpAny_Name (wpAny_loadName_local I.ok.kind hk hn hm fin) hd
 ·rcases hk with hk | hk
  ·exact wpAny_Name (wpAny_loadName_cell I.ok.kind hk hc hcell fin) hd
  ·exact wpAny_Name (wpAny_loadName_free I.ok.kind hk hc hcell fin hcd) hd
theorem zx0 {i j pos}:PE X (.Constant (.int i) j pos) (tC (.int i)):=fun _ _ _ H _ I h=>wpAny_Constant_int ⟨.int i,H,I.tok _,⟨_,rfl⟩,h⟩
theorem zF5 {b j pos}:PE X (.Constant (.bool b) j pos) (tC (.bl b)):=fun _ _ _ H _ I h=>Constant_bool ⟨.bl b,H,I,rfl,h⟩
theorem zD2 {j pos}:PE X (.Constant .none j pos) (tC .non):=fun _ _ _ H _ I h=>Constant_none ⟨.non,H,I,rfl,h⟩
theorem zD3 {x j pos}:PE X (.Constant (.str x) j pos) (tC (.str x)):=fun _ _ _ H _ I h=>Calls.Constant_str ⟨.str x,H,I.tok _,⟨_,rfl⟩,h⟩
def Gl (X:Cx) (x:Str):Prop:=X.env.kindOf x=some .globalImplicit
theorem z3a {E:Value->Shared->Prop}{pins:List (Addr×Obj)}{s:Shared}{σ:St}{H:Hp}{x:Str}{u:Value}{pos:Pos}{Q:Value->Shared->Prop}(I:Inv X pins σ H s) (hg:Gl X x) (hm:X.mg x=some u) (h:Q u s)
 (hd:(x == ("__debug__":Str))=false:=by decide):wpAny (model X.prog X.w) X.A (eval (.Name x pos) X.env) Q E s :=
 Calls.Name_function_global I.ok.kind hg (Calls.loadGlobal_global (by rw [I.ok.glob];exact I.mod.glob.keeps I.bk) hm h) hd
theorem z4r {E:Value->Shared->Prop}{pins:List (Addr×Obj)}{s:Shared}{σ:St}{H:Hp}{x:Str}{u:Value}{pos:Pos}{Q:Value->Shared->Prop}(I:Inv X pins σ H s) (hg:Gl X x) (hm:X.mg x=none) (hv:bootBuiltins x=some u) (h:Q u s)
 (hn:x≠"__name__":=by decide) (hd:(x == ("__debug__":Str))=false:=by decide):wpAny (model X.prog X.w) X.A (eval (.Name x pos) X.env) Q E s:=by
 obtain ⟨mb,h1,h2⟩:=I.mod.blt
 exact Calls.Name_function_global I.ok.kind hg (Calls.loadGlobal_builtin (by rw [I.ok.glob];exact I.mod.glob.keeps I.bk) hm (by rw [I.ok.blt];exact h1.keeps I.bk) ((h2 x hn).trans hv) h) hd
theorem zh9 {x:Str}{v:V}{u:Value}{pos:Pos}(hg:Gl X x) (hm:X.mg x=some u) (r:RelV v u) (hd:(x == ("__debug__":Str))=false:=by decide):PE X (.Name x pos) (tC v) :=
 fun _ _ _ H _ I h=>z3a I hg hm ⟨v,H,I,r,h⟩ hd
theorem z7u {x:Str}{v:V}{u:Value}{pos:Pos}(hg:Gl X x) (hm:X.mg x=none) (hv:bootBuiltins x=some u) (r:RelV v u) (hn:x≠"__name__":=by decide) (hd:(x == ("__debug__":Str))=false:=by decide):PE X (.Name x pos) (tC v) :=
 fun _ _ _ H _ I h=>z4r I hg hm hv ⟨v,H,I,r,h⟩ hn hd
variable {a b:Expr}{ta tb:TE}{pos:Pos}
def tB (t:TE):TT:=fun σ H Q=>t σ H fun x H1=>∃ c,x=.bl c/\Q c H1
variable {tA tB':TT}{rest:List Expr}
def tAnd (t u:TT):TT:=fun σ H Q=>t σ H fun c H1=>if c=true then u σ H1 Q else Q false H1
def tOr (t u:TT):TT:=fun σ H Q=>t σ H fun c H1=>if c=true then Q true H1 else u σ H1 Q
def tNot (t:TT):TT:=fun σ H Q=>t σ H fun c H1=>Q (!c) H1
theorem zf7 (ha:PT X a tA):PW X (.BoolOp .And [a] pos) tA:=by
 intro wh pins s σ H Q I h
 refine isTrue_and (thn (ha pins s σ H Q I h) fun c s1 e=>?_)
 cases c with
 | true=>exact isTrue_and_nil e
 | false=>exact e
theorem zD4 (ha:PT X a tA):PW X (.BoolOp .Or [a] pos) tA:=by
 intro wh pins s σ H Q I h
 refine isTrue_or (thn (ha pins s σ H Q I h) fun c s1 e=>?_)
 cases c with
 | false=>exact isTrue_or_nil e
 | true=>exact e
theorem zA3 (ha:PT X a tA) (hb:PW X (.BoolOp .And (b :: rest) pos) tB'):PW X (.BoolOp .And (a :: b :: rest) pos) (tAnd tA tB'):=by
 intro wh pins s σ H Q I h
 refine isTrue_and (thn (ha pins s σ H _ I h) fun c s1 ⟨H1,I1,q1⟩=>?_)
 cases c with
 | true=>exact hb wh pins s1 σ H1 Q I1 q1
 | false=>exact ⟨H1,I1,q1⟩
theorem zJ7 (ha:PT X a tA) (hb:PW X (.BoolOp .Or (b :: rest) pos) tB'):PW X (.BoolOp .Or (a :: b :: rest) pos) (tOr tA tB'):=by
 intro wh pins s σ H Q I h
 refine isTrue_or (thn (ha pins s σ H _ I h) fun c s1 ⟨H1,I1,q1⟩=>?_)
 cases c with
 | true=>exact ⟨H1,I1,q1⟩
 | false=>exact hb wh pins s1 σ H1 Q I1 q1
theorem zu4 (ha:PT X a tA):PT X (.UnaryOp .Not a pos) (tNot tA):=by
 intro pins s σ H Q I h
 exact isTrue_not (ha pins s σ H (fun c H1=>Q (!c) H1) I h)
def zG1 (ta tb:TE):TE:=fun σ H Q=>ta σ H fun x H1=>∃ c,x=.bl c/\if c=true then tb σ H1 Q else Q (.bl false) H1
def zE7 (ta:TE):TE:=fun σ H Q=>ta σ H fun x H1=>∃ c,x=.bl c/\Q (.bl (!c)) H1
theorem zw9 {op}{t:TE}(h:PE X a t):PE X (.BoolOp op [a] pos) t:=fun pins s σ H Q I hw=>BoolOp_one (h pins s σ H Q I hw)
theorem zA7 (ha:PE X a ta) (hb:PE X (.BoolOp .And (b :: rest) pos) tb):PE X (.BoolOp .And (a :: b :: rest) pos) (zG1 ta tb):=by
 intro pins s σ H Q I h
 refine BoolOp_and (thn (ha pins s σ H _ I h) fun v s1 ⟨x,H1,I1,r1,q1⟩=>?_)
 obtain ⟨c,rfl,q1⟩:=q1
 cases r1
 refine wpAny_truthy_bool ?_
 cases c with
 | true=>exact hb pins s1 σ H1 Q I1 q1
 | false=>exact ⟨.bl false,H1,I1,rfl,q1⟩
theorem zD7 (ha:PE X a ta):PE X (.UnaryOp .Not a pos) (zE7 ta):=by
 intro pins s σ H Q I h
 refine UnaryOp_ (thn (ha pins s σ H _ I h) fun v s1 ⟨x,H1,I1,r1,q1⟩=>?_)
 obtain ⟨c,rfl,q1⟩:=q1
 cases r1
 exact not_of (wpAny_truthy_bool ⟨.bl (!c),H1,I1,rfl,q1⟩)
end
def SqL (K:PySem.W.Frag) (H:Hp) (a:Addr) (xs:List V):Prop :=
 Rd H a (.lst xs) ∨
  ∃ (o:Obj) (its:Array Value) (n:Nat),K.lookup a=some o/\o.cls=.type "list"/\o.dict=none/\o.data=.seq its n/\its.size≤sizeLine/\Vals xs its.toList
def SqT (K:PySem.W.Frag) (H:Hp) (a:Addr) (xs:List V):Prop :=
 Rd H a (.tup xs) ∨
  ∃ (o:Obj) (its:Array Value) (n:Nat),K.lookup a=some o/\(o.cls=.type "tuple"/\o.dict=none)/\o.data=.seq its n/\its.size≤sizeLine/\Vals xs its.toList
def absV:Value->Option V
 | .none=>some .non
 | .bool b=>some (.bl b)
 | .int i _=>some (.int i)
 | .str x _=>some (.str x)
 | .bytes b _=>some (.byt b)
 | .float b _=>some (.flt b)
 | .ref a=>some (.ref a)
 | .type n=>some (.ty n)
 | _=>none
theorem RelV.abs {x:V}{u:Value}(r:RelV x u):absV u=some x:=by
 cases x with
 | non=>cases r;rfl
 | bl _=>cases r;rfl
 | int _=>obtain ⟨t,rfl⟩:=r;rfl
 | str _=>obtain ⟨t,rfl⟩:=r;rfl
 | byt _=>obtain ⟨t,rfl⟩:=r;rfl
 | flt _=>obtain ⟨t,rfl⟩:=r;rfl
 | ref _=>cases r;rfl
 | ty _=>cases r;rfl
theorem RelV.inj {x y:V}{u:Value}(r:RelV x u) (q:RelV y u):x=y:=Option.some.inj (r.abs.symm.trans q.abs)
theorem Vals.inj:∀ {xs ys:List V}{us:List Value},Vals xs us->Vals ys us->xs=ys
 | _,_,_,.nil,.nil=>rfl
 | _,_,_,.cons r t,.cons r' t'=>by rw [r.inj r',Vals.inj t t']
section
variable {X:Cx}{pins:List (Addr×Obj)}{σ:St}{H:Hp}{s:Shared}{a:Addr}{xs ys:List V}
theorem SqL.of {K:PySem.W.Frag}(h:H a=some (.lst xs)):SqL K H a xs:=.inl (.inl h)
theorem SqT.of {K:PySem.W.Frag}(h:H a=some (.tup xs)):SqT K H a xs:=.inl (.inl h)
theorem Inv.list (I:Inv X pins σ H s) (h:SqL X.K H a xs):∃ its:List Value,Vals xs its/\PlainL s.heap a its.toArray/\xs.length≤sizeLine:=by
 rcases h with h | ⟨o,its,n,hk,hc,hd,hs,hz,r⟩
 ·obtain ⟨z,its,n,r,e⟩:=h.ok I.hok
  exact ⟨its,r,⟨_,n,e,rfl,rfl,rfl⟩,z⟩
 ·refine ⟨its.toList,r,⟨o,n,I.kIn a o hk,hc,hd,by simpa using hs⟩,?_⟩
  have e:=r.length
  simp only [Array.length_toList] at e
  omega
theorem Inv.tuple (I:Inv X pins σ H s) (h:SqT X.K H a xs):∃ its:List Value,Vals xs its/\IsTup s.heap a its.toArray/\xs.length≤sizeLine:=by
 rcases h with h | ⟨o,its,n,hk,hc,hs,hz,r⟩
 ·obtain ⟨z,its,r,p⟩:=h.ok I.hok
  exact ⟨its,r,p.tup,z⟩
 ·refine ⟨its.toList,r,⟨o,I.kIn a o hk,hc.1,n,by simpa using hs⟩,?_⟩
  have e:=r.length
  simp only [Array.length_toList] at e
  omega
theorem Inv.list_inj (I:Inv X pins σ H s) (h:SqL X.K H a xs) (h':SqL X.K H a ys):xs=ys:=by
 obtain ⟨its,r,⟨o,n,e,_,_,d⟩,_⟩:=I.list h
 obtain ⟨its',r',⟨o',n',e',_,_,d'⟩,_⟩:=I.list h'
 rw [e] at e';cases e'
 rw [d] at d'
 injection d' with d1 _
 have:its=its':=by simpa using congrArg Array.toList d1
 subst this
 exact r.inj r'
theorem Inv.tuple_inj (I:Inv X pins σ H s) (h:SqT X.K H a xs) (h':SqT X.K H a ys):xs=ys:=by
 obtain ⟨its,r,⟨o,e,_,n,d⟩,_⟩:=I.tuple h
 obtain ⟨its',r',⟨o',e',_,n',d'⟩,_⟩:=I.tuple h'
 rw [e] at e';cases e'
 rw [d] at d'
 injection d' with d1 _
 have:its=its':=by simpa using congrArg Array.toList d1
 subst this
 exact r.inj r'
end
abbrev Cx.wish (X:Cx) (E:Value->Shared->Prop):Cx:={ X with xe:=E }
abbrev Cx.nox (X:Cx):Cx:=X.wish fun _ _=>False
theorem Cx.Ok.wish {X:Cx}(ok:X.Ok) (E:Value->Shared->Prop):(X.wish E).Ok :=
 ⟨ok.mod,ok.kind,ok.glob,ok.blt,ok.above,ok.inj,ok.has,ok.cab,ok.hd,ok.frames,ok.stk,ok.exf,ok.bs,ok.bsz,ok.noex,ok.exfs,ok.funs,ok.frf⟩
theorem Cx.Ok.unwish {X:Cx}{E:Value->Shared->Prop}(ok:(X.wish E).Ok):X.Ok :=
 ⟨ok.mod,ok.kind,ok.glob,ok.blt,ok.above,ok.inj,ok.has,ok.cab,ok.hd,ok.frames,ok.stk,ok.exf,ok.bs,ok.bsz,ok.noex,ok.exfs,ok.funs,ok.frf⟩
section
variable {X:Cx}{pins:List (Addr×Obj)}{σ:St}{H:Hp}{s:Shared}{E:Value->Shared->Prop}
theorem Inv.wish (I:Inv X pins σ H s) (E:Value->Shared->Prop):Inv (X.wish E) pins σ H s:=⟨I.ok.wish E,I.os,I.bare,I.base,I.loc,I.cell,I.free,I.freeC,I.pin,I.hok,I.len⟩
theorem Inv.unwish (I:Inv (X.wish E) pins σ H s):Inv X pins σ H s:=⟨I.ok.unwish,I.os,I.bare,I.base,I.loc,I.cell,I.free,I.freeC,I.pin,I.hok,I.len⟩
theorem SP.unwish {D:Ends}{f:Flow}{s':Shared}(h:SP (X.wish E) pins D f s'):SP X pins D f s':=by
 cases f with
 | next=>obtain ⟨σ',H',I,q⟩:=h;exact ⟨σ',H',I.unwish,q⟩
 | brk=>obtain ⟨σ',H',I,q⟩:=h;exact ⟨σ',H',I.unwish,q⟩
 | cont=>obtain ⟨σ',H',I,q⟩:=h;exact ⟨σ',H',I.unwish,q⟩
 | ret u=>obtain ⟨v,σ',H',I,r,q⟩:=h;exact ⟨v,σ',H',I.unwish,r,q⟩
theorem PT.nox {e:Expr}{t:TT}(h:PT X.nox e t):PT X e t:=fun pins s σ H Q I hw =>
 wpAny_mono (h pins s σ H Q (I.wish _) hw) (fun _ _ ⟨H',I',q⟩=>⟨H',I'.unwish,q⟩) fun _ _ z=>False.elim z
theorem PSs.nox {st:List Stmt}{t:TS}(h:PSs X.nox st t):PSs X st t:=fun pins s σ H D I hw =>
 wpAny_mono (h pins s σ H D (I.wish _) hw) (fun _ _ q=>q.unwish) fun _ _ z=>False.elim z
end
section
variable {X:Cx}{st:Stmt}{rest:List Stmt}{t u:TS}{e:Expr}{te:TE}{pos:Pos}
def zF6:TS:=fun D σ H=>D.nx σ H
def tSeq (t u:TS):TS:=fun D σ H=>t { D with nx:=u D } σ H
theorem zq6:PSs X [] zF6:=fun _ _ σ H _ I h=>wpAny_execs_nil ⟨σ,H,I,h⟩
theorem zc4 (h1:PS X st t) (h2:PSs X rest u):PSs X (st :: rest) (tSeq t u):=by
 intro pins s σ H D I h
 refine wpAny_execs_cons (thn (h1 pins s σ H { D with nx:=u D } I h) fun f s1 q=>?_)
 cases f with
 | next =>
  obtain ⟨σ',H',I',q⟩:=q
  exact h2 pins s1 σ' H' D I' q
 | ret v=>exact q
 | brk=>exact q
 | cont=>exact q
theorem Inv.quiet {pins:List (Addr×Obj)}{σ:St}{H:Hp}{s:Shared}(I:Inv X pins σ H s):interactive X.env=false:=by simp [interactive,I.ok.kind]
def zF9 (te:TE):TS:=fun D σ H=>te σ H fun _ H1=>D.nx σ H1
theorem zi7 (he:PE X e te) (hs:swapsWith e none pos.line X.env=pure false:=by rfl):PS X (.Expr e pos) (zF9 te):=by
 intro pins s σ H D I h
 exact wpAny_Expr_any (thn (he pins s σ H _ I h) fun v s1 ⟨x,H1,I1,r1,q1⟩=>⟨σ,H1,I1,q1⟩) I.quiet hs
def tRet (te:TE):TS:=fun D σ H=>te σ H D.rt
theorem zz0 (he:PE X e te):PS X (.Return (some e) pos) (tRet te):=by
 intro pins s σ H D I h
 exact wpAny_Return_some (thn (he pins s σ H _ I h) fun v s1 ⟨x,H1,I1,r1,q1⟩=>⟨x,σ,H1,I1,r1,q1⟩)
def tIfS (c:TT) (t u:TS):TS:=fun D σ H=>c σ H fun b H1=>if b=true then t D σ H1 else u D σ H1
theorem zI8 {c:Expr}{a b:List Stmt}{tc:TT}(hc:PT X c tc) (ha:PSs X a t) (hb:PSs X b u):PS X (.If c a b pos) (tIfS tc t u):=by
 intro pins s σ H D I h
 refine wpAny_If (thn (hc pins s σ H _ I h) fun d s1 ⟨H1,I1,q1⟩=>?_)
 cases d with
 | true=>exact ha pins s1 σ H1 D I1 q1
 | false=>exact hb pins s1 σ H1 D I1 q1
end
abbrev TG:=V->St->Hp->(St->Hp->Prop)->Prop
abbrev TGs:=List V->St->Hp->(St->Hp->Prop)->Prop
def PG (X:Cx) (target:Expr) (t:TG):Prop :=
 ∀ (pins:List (Addr×Obj)) (s:Shared) (σ:St) (H:Hp) (v:V) (u:Value) (Q:St->Hp->Prop),Inv X pins σ H s->RelV v u->t v σ H Q ->
  wpAny (model X.prog X.w) X.A (assign target X.env u) (fun _ s'=>∃ σ' H',Inv X pins σ' H' s'/\Q σ' H') X.xe s
def PGs (X:Cx) (ts:List Expr) (t:TGs):Prop :=
 ∀ (pins:List (Addr×Obj)) (s:Shared) (σ:St) (H:Hp) (vs:List V) (us:List Value) (Q:St->Hp->Prop),Inv X pins σ H s->Vals vs us->t vs σ H Q ->
  wpAny (model X.prog X.w) X.A (assignInOrder ((assignEach ts X.env).map (·.2)) us) (fun _ s'=>∃ σ' H',Inv X pins σ' H' s'/\Q σ' H') X.xe s
abbrev TSet:=V->V->V->Hp->(Hp->Prop)->Prop
def PSet (X:Cx) (t:TSet):Prop :=
 ∀ (pins:List (Addr×Obj)) (s:Shared) (σ:St) (H:Hp) (o i v:V) (ov iv u:Value) (Q:Hp->Prop),Inv X pins σ H s->RelV o ov->RelV i iv->RelV v u->t o i v H Q ->
  wpAny (model X.prog X.w) X.A (setItem ov iv u) (fun _ s'=>∃ H',Inv X pins σ H' s'/\Q H') X.xe s
section
variable {X:Cx}{pos:Pos}
def zs3 (i:Nat):TG:=fun v σ H Q=>Q (σ.set i (some v)) H
theorem z5z {i:Nat}{x:Str}(hN:X.N.Nodup) (hi:X.N[i]?=some x) (hx:Loc X.env.scope x) (hf:X.fn x=true∨X.env.scope.names.lookup x=some .local:=by first | exact .inl rfl | exact .inr rfl | assumption):PG X (.Name x pos) (zs3 i):=by
 intro pins s σ H v u Q I r h
 exact wpAny_assign_Name (z4f I hN hi hx r (fun s' I'=>⟨_,H,I',h⟩) hf)
def gNil:TGs:=fun vs σ H Q=>vs=[]/\Q σ H
def zG6 (t:TG) (u:TGs):TGs:=fun vs σ H Q=>∃ v r,vs=v :: r/\t v σ H fun σ' H'=>u r σ' H' Q
theorem z7Y:PGs X [] gNil:=by
 intro pins s σ H vs us Q I r h
 obtain ⟨e,h⟩:=h
 subst e
 cases r
 exact assignInOrder_nil ⟨σ,H,I,h⟩
theorem z6c {e:Expr}{es:List Expr}{t:TG}{u:TGs}(h1:PG X e t) (h2:PGs X es u)
 (hs:(assignEach (e :: es) X.env).map (·.2)=assign e X.env :: (assignEach es X.env).map (·.2):=by rfl):PGs X (e :: es) (zG6 t u):=by
 intro pins s σ H vs us Q I r h
 obtain ⟨v,vr,e1,h⟩:=h
 subst e1
 cases r with
 | cons r rr =>
  rw [hs]
  refine assignInOrder_cons (thn (h1 pins s σ H _ _ _ I r h) fun _ s1 ⟨σ1,H1,I1,q1⟩=>?_)
  exact h2 pins s1 σ1 H1 _ _ Q I1 rr q1
def gTup (K:PySem.W.Frag) (n:Nat) (t:TGs):TG:=fun v σ H Q=>∃ a xs,v=.ref a/\SqT K H a xs/\xs.length=n/\t xs σ H Q
theorem zd3 {es:List Expr}{k:Nat}{t:TGs}{n:Nat}(hc:X.calm=true) (h:PGs X es t)
 (hn:(assignEach es X.env).length=n:=by rfl) (hst:(assignEach es X.env).findIdx? (·.1)=none:=by rfl):PG X (.Tuple es k pos) (gTup X.K n t):=by
 intro pins s σ H v u Q I r hw
 obtain ⟨a,xs,e1,hq,hl,hw⟩:=hw
 subst e1
 cases r
 obtain ⟨its,rv,ht,hz⟩:=I.tuple hq
 refine assign_Tuple_tuple (I.ok.hd hc) ht (by simp [hn,← hl,rv.length]) hst fun h' hx=>?_
 have I1:Inv X pins σ H { s with heap:=h' }:=I.kept (t':=s.toks) fun b o e=>hx b o (Nat.ne_of_lt (Heap.lt_size e)) e
 exact h pins _ σ H xs _ Q I1 (by simpa using rv) hw
def gSub (to ti:TE) (t:TSet):TG:=fun v σ H Q=>to σ H fun o H1=>ti σ H1 fun i H2=>t o i v H2 fun H3=>Q σ H3
theorem zz4 {o i:Expr}{to ti:TE}{t:TSet}(ho:PE X o to) (hi:PE X i ti) (hs:PSet X t)
 (ha:∀ v,assign (.Subscript o i pos) X.env v=(do
  let ov ← holding [v] (eval o X.env)
  let iv ← holding [v,ov] (eval i X.env)
  standAt pos
  holding [v,ov,iv] (setItem ov iv v)
  release [v,ov,iv] []):=by intro _;rfl):PG X (.Subscript o i pos) (gSub to ti t):=by
 intro pins s σ H v u Q I r h
 rw [ha]
 refine wpAny_bind (wpAny_holding (thn (ho pins s σ H _ I h) fun ov s1 ⟨x,H1,I1,r1,q1⟩=>?_))
 refine wpAny_bind (wpAny_holding (thn (hi pins s1 σ H1 _ I1 q1) fun iv s2 ⟨y,H2,I2,r2,q2⟩=>?_))
 refine wpAny_bind (wpAny_standAt (wpAny_bind (wpAny_holding (thn (hs pins s2 σ H2 x y v ov iv u _ I2 r1 r2 r q2) fun _ s3 ⟨H3,I3,q3⟩=>?_))))
 exact wpAny_release ⟨σ,H3,I3,q3⟩
def tAsg (te:TE) (g:TG):TS:=fun D σ H=>te σ H fun x H1=>g x σ H1 D.nx
theorem zu9 {tg e:Expr}{te:TE}{g:TG}(he:PE X e te) (hg:PG X tg g) (hs:swapsWithSole [tg] e pos.line X.env=pure false:=by rfl) (hw:swappedStores [tg] e X.env=pure none:=by rfl)
 (h1:(assignEach [tg] X.env).map (·.2)=[assign tg X.env]:=by rfl):PS X (.Assign [tg] e pos) (tAsg te g):=by
 intro pins s σ H D I h
 refine wpAny_Assign_stores (thn (he pins s σ H _ I h) fun v s1 ⟨x,H1,I1,r1,q1⟩=>?_) hs hw
 rw [h1]
 exact thn (hg pins s1 σ H1 x v _ I1 r1 q1) fun _ s2 q=>q
theorem zy1 {i:Nat}{x:Str}{e:Expr}{te:TE}{pos':Pos}(hN:X.N.Nodup) (hi:X.N[i]?=some x) (hx:Loc X.env.scope x) (he:PE X e te) (hs:swapsWith e (some (.Name x pos')) pos.line X.env=pure false:=by rfl) (hf:X.fn x=true∨X.env.scope.names.lookup x=some .local:=by first | exact .inl rfl | exact .inr rfl | assumption) :
 PS X (.Assign [.Name x pos'] e pos) (tAsg te (zs3 i)):=by
 intro pins s σ H D I h
 refine wpAny_Assign_Name (thn (he pins s σ H _ I h) fun v s1 ⟨y,H1,I1,r1,q1⟩=>?_) hs
 exact z4f I1 hN hi hx r1 (fun s2 I2=>⟨_,H1,I2,q1⟩) hf
end
section
variable {X:Cx}{pos:Pos}
end
structure It where
 go:Nat->Hp->Prop
 yld:Nat->Hp->V->Hp->Prop
 stop:Nat->Hp->Prop
def FpOk (X:Cx) (pins:List (Addr×Obj)) (H:Hp) (b:Addr):Prop :=
 H b=none/\b≠X.env.locals/\b∉X.fs/\(b∈X.ex∨X.s₀.heap.objs.size≤b)/\(∀ x c,X.env.cells.lookup x=some c->c≠b)/\∀ p∈X.pn++pins,p.1≠b
theorem Inv.fpOk {X:Cx}{pins:List (Addr×Obj)}{σ:St}{H H':Hp}{s:Shared}{b:Addr}(I:Inv X pins σ H s) (hb:s.heap.objs.size≤b) (hn:H' b=none):FpOk X pins H' b:=by
 refine ⟨hn,Nat.ne_of_gt (Nat.lt_of_lt_of_le I.lt hb),I.nofs hb,.inr (Nat.le_trans I.sz hb),fun x c e z=>?_,fun p hp z=>?_⟩
 ·obtain ⟨v,q⟩:=I.cell x c e
  exact absurd (Nat.lt_of_lt_of_le q.lt (by rw [z];exact hb)) (Nat.lt_irrefl _)
 ·exact absurd (Nat.lt_of_lt_of_le (Heap.lt_size (I.pin p hp).1) (by rw [z];exact hb)) (Nat.lt_irrefl _)
structure Turn (P:Program) (w:World) (K:PySem.W.Frag) (tg:Expr) (J:It) (fp:List Addr) (it:Addr) (tn:Nat->Heap->Prop):Prop where
 mem:it∈fp
 obj:∀ i h,tn i h->∀ b∈fp,∃ o,h.get? b=some o/\∀ v,o.data≠.cell v
 keep:∀ i h h',tn i h->(∀ b∈fp,∀ o,h.get? b=some o->h'.get? b=some o)->tn i h'
 item:∀ (X:Cx),X.prog=P->X.w=w->X.K=K->X.calm=true->∀ (i:Nat) (pins:List (Addr×Obj)) (s:Shared) (σ:St) (H:Hp) (E:Value->Shared->Prop),Inv X pins σ H s->(∀ b∈fp,FpOk X pins H b)->tn i s.heap->J.go i H ->
  wpAny (model P w) X.A (pyNext (.ref it)) (fun r s1=>∃ u,r=some u /\
   wpAny (model P w) X.A (letOwnedTupleGo tg (.ref it) u) (fun _ s2=>∃ x H',Inv X pins σ H' s2/\RelV x u/\J.yld i H x H'/\tn (i+1) s2.heap/\∀ b∈fp,H' b=none) E s1) E s
 done:∀ (X:Cx),X.prog=P->X.w=w->X.K=K->X.calm=true->∀ (i:Nat) (pins:List (Addr×Obj)) (s:Shared) (σ:St) (H:Hp) (E:Value->Shared->Prop),Inv X pins σ H s->(∀ b∈fp,FpOk X pins H b)->tn i s.heap->J.stop i H ->
  wpAny (model P w) X.A (pyNext (.ref it)) (fun r s1=>r=none/\Inv X pins σ H s1) E s
 self:∀ (A:Around) (i:Nat) (s:Shared) (Q:Value->Shared->Prop) (E:Value->Shared->Prop),tn i s.heap->Q (.ref it) s->wpAny (model P w) A (pyIter (.ref it)) Q E s
abbrev TI:=St->Hp->(It->Hp->Prop)->Prop
def PIE (X:Cx) (pins:List (Addr×Obj)) (σ:St) (tg:Expr) (R:It->Hp->Prop) (itv:Value) (s2:Shared):Prop :=
 ∃ (it:Addr) (fp:List Addr) (tn:Nat->Heap->Prop) (J:It) (H':Hp),itv=.ref it/\Inv X pins σ H' s2/\Turn X.prog X.w X.K tg J fp it tn/\tn 0 s2.heap/\(∀ b∈fp,FpOk X pins H' b)/\R J H'
def PI (X:Cx) (tg iter:Expr) (wi:TI):Prop :=
 ∀ (pins:List (Addr×Obj)) (s:Shared) (σ:St) (H:Hp) (R:It->Hp->Prop),Inv X pins σ H s->wi σ H R ->
  wpAny (model X.prog X.w) X.A (eval iter X.env) (fun v s1=>wpAny (model X.prog X.w) X.A (pyIter v) (PIE X pins σ tg R) X.xe s1) X.xe s
theorem zk9 {M:Model}{A:Around}{E:Value->Shared->Prop}{s:Shared}{tg:Expr}{it:Addr}{u:Value}{o:Obj}{n:String}{vs:Array Value}{Q:Unit->Shared->Prop}(ho:s.heap.get? it=some o) (hc:o.cls=.type n) (hd:o.data=.fields vs)
 (hn:["enumerate","zip","dict_itemiterator","dict_reverseitemiterator","odict_iterator","itertools.zip_longest","itertools.pairwise"].contains n=false) (hQ:Q () s):wpAny M A (letOwnedTupleGo tg (.ref it) u) Q E s:=by
 unfold letOwnedTupleGo
 cases tg<;>first
  | exact wpAny_pure hQ
  | (cases u<;>first
      | exact wpAny_pure hQ
      | (refine wpAny_bind (wpAny_load ho ?_)
         rw [hc,hd]
         show wpAny M A (if (["enumerate","zip","dict_itemiterator","dict_reverseitemiterator","odict_iterator","itertools.zip_longest","itertools.pairwise"].contains n && vs[0]? == some (rawInt _))=true then _ else _) Q E s
         rw [if_neg (by intro h;rw [hn,Bool.false_and] at h;cases h)]
         exact wpAny_pure hQ))
def Itl (K:PySem.W.Frag) (a:Addr):It :=
 ⟨fun i H=>∃ xs x,SqL K H a xs/\xs[i]?=some x,fun i H x H'=>H'=H/\∀ xs,SqL K H a xs->xs[i]?=some x,fun i H=>∃ xs,SqL K H a xs/\xs.length≤i⟩
def Itt (K:PySem.W.Frag) (a:Addr):It :=
 ⟨fun i H=>∃ xs x,SqT K H a xs/\xs[i]?=some x,fun i H x H'=>H'=H/\∀ xs,SqT K H a xs->xs[i]?=some x,fun i H=>∃ xs,SqT K H a xs/\xs.length≤i⟩
def Itr (lo:Int) (n:Nat):It:=⟨fun i _=>i<n,fun i H x H'=>H'=H/\x=.int (lo+i),fun i _=>n≤i⟩
theorem z7t {P:Program}{w:World}{K:PySem.W.Frag}{tg:Expr}(a it:Addr):Turn P w K tg (Itl K a) [it] it (fun i h=>h.IsListIter it a i) where
 mem:=by simp
 obj:=fun i h st b hb=>by
  have e:b=it:=by simpa using hb
  subst e
  obtain ⟨o,e,c,d⟩:=st
  exact ⟨o,e,fun v z=>by rw [d] at z;cases z⟩
 keep:=fun i h h' st k=>st.at fun o e=>k it (by simp) o e
 item:=by
  intro X hP hw hK hc i pins s σ H E I hf st hg
  subst hP hw hK
  obtain ⟨xs,x,hq,hx⟩:=hg
  obtain ⟨its,rv,p,hz⟩:=I.list hq
  obtain ⟨u,hu,ru⟩:=rv.get hx
  obtain ⟨f0,f1,f2,f3,f4,f5⟩:=hf it (by simp)
  refine wpAny_pyNext_list_item st p.isList (x:=u) (by simpa using hu) fun h' st' sb=>?_
  have I1:Inv X pins σ H { s with heap:=h' }:=I.turned (t':=s.toks) (fun b o hb e=>(sb.2 b hb).trans e) f0 f1 f3 f4 f5
  obtain ⟨o,e,c,d⟩:=id st'
  exact ⟨u,rfl,zk9 (s:={ s with heap:=h' }) e c d (by decide) ⟨x,H,I1,ru,⟨rfl,fun ys hy=>by rw [I.list_inj hy hq];exact hx⟩,st',fun b hb=>(hf b hb).1⟩⟩
 done:=by
  intro X hP hw hK hc i pins s σ H E I hf st hg
  subst hP hw hK
  obtain ⟨xs,hq,hx⟩:=hg
  obtain ⟨its,rv,p,hz⟩:=I.list hq
  obtain ⟨f0,f1,f2,f3,f4,f5⟩:=hf it (by simp)
  have hl:=rv.length
  exact wpAny_pyNext_list_end (I.ok.hd hc) st p.isList (by simp;omega) fun h' eb=>⟨rfl,I.turned (t':=s.toks) (fun b o hb e=>eb b o hb e) f0 f1 f3 f4 f5⟩
 self:=fun _ _ _ _ _ st h=>wpAny_pyIter_listiter st h
theorem z77 {P:Program}{w:World}{K:PySem.W.Frag}{tg:Expr}(a it:Addr):Turn P w K tg (Itt K a) [it] it (fun i h=>h.IsTupleIter it a i) where
 mem:=by simp
 obj:=fun i h st b hb=>by
  have e:b=it:=by simpa using hb
  subst e
  obtain ⟨o,e,c,d⟩:=st
  exact ⟨o,e,fun v z=>by rw [d] at z;cases z⟩
 keep:=fun i h h' st k=>st.at fun o e=>k it (by simp) o e
 item:=by
  intro X hP hw hK hc i pins s σ H E I hf st hg
  subst hP hw hK
  obtain ⟨xs,x,hq,hx⟩:=hg
  obtain ⟨its,rv,p,hz⟩:=I.tuple hq
  obtain ⟨u,hu,ru⟩:=rv.get hx
  obtain ⟨f0,f1,f2,f3,f4,f5⟩:=hf it (by simp)
  refine wpAny_pyNext_tuple_item st (show s.heap.IsTuple a its.toArray from p) (x:=u) (by simpa using hu) fun h' st' sb=>?_
  have I1:Inv X pins σ H { s with heap:=h' }:=I.turned (t':=s.toks) (fun b o hb e=>(sb.2 b hb).trans e) f0 f1 f3 f4 f5
  obtain ⟨o,e,c,d⟩:=id st'
  exact ⟨u,rfl,zk9 (s:={ s with heap:=h' }) e c d (by decide) ⟨x,H,I1,ru,⟨rfl,fun ys hy=>by rw [I.tuple_inj hy hq];exact hx⟩,st',fun b hb=>(hf b hb).1⟩⟩
 done:=by
  intro X hP hw hK hc i pins s σ H E I hf st hg
  subst hP hw hK
  obtain ⟨xs,hq,hx⟩:=hg
  obtain ⟨its,rv,p,hz⟩:=I.tuple hq
  obtain ⟨f0,f1,f2,f3,f4,f5⟩:=hf it (by simp)
  have hl:=rv.length
  exact wpAny_pyNext_tuple_end (I.ok.hd hc) st (show s.heap.IsTuple a its.toArray from p) (by simp;omega) fun h' eb=>⟨rfl,I.turned (t':=s.toks) (fun b o hb e=>eb b o hb e) f0 f1 f3 f4 f5⟩
 self:=fun _ _ _ _ _ st h=>wpAny_pyIter_tupleiter st h
theorem z74 {P:Program}{w:World}{K:PySem.W.Frag}{tg:Expr}(it:Addr) (lo:Int) (n:Nat):Turn P w K tg (Itr lo n) [it] it (fun i h=>IsRangeIter h it (lo+(i:Nat) * 1) ((n:Int) - (i:Nat)) 1) where
 mem:=by simp
 obj:=fun i h st b hb=>by
  have e:b=it:=by simpa using hb
  subst e
  exact ⟨_,st,fun v z=>by
   have z':Data.fields _=Data.cell v:=z
   cases z'⟩
 keep:=fun i h h' st k=>k it (by simp) _ st
 item:=by
  intro X hP hw hK hc i pins s σ H E I hf st hg
  subst hP hw hK
  obtain ⟨f0,f1,f2,f3,f4,f5⟩:=hf it (by simp)
  have W:=Walks.range (prog:=X.prog) (w:=X.w) (I.ok.hd hc) it lo 1 n
  refine W.item i s _ _ hg st fun v h' tk hv st' kk=>?_
  obtain ⟨t,rfl⟩:=hv
  have I1:Inv X pins σ H { s with heap:=h',toks:=tk }:=I.turned (fun b o hb e=>kk b o (by simpa using hb) e) f0 f1 f3 f4 f5
  refine ⟨_,rfl,zk9 (s:={ s with heap:=h',toks:=tk }) (n:="range_iterator") st' rfl rfl (by decide) ⟨.int (lo+i),H,I1,⟨t,?_⟩,⟨rfl,rfl⟩,st',fun b hb=>(hf b hb).1⟩⟩
  rw [Int.mul_one]
 done:=by
  intro X hP hw hK hc i pins s σ H E I hf st hg
  subst hP hw hK
  obtain ⟨f0,f1,f2,f3,f4,f5⟩:=hf it (by simp)
  exact wpAny_pyNext_range_end (I.ok.hd hc) st (by have:n≤i:=hg;omega) fun h' eb=>⟨rfl,I.turned (t':=s.toks) (fun b o hb e=>eb b o hb e) f0 f1 f3 f4 f5⟩
 self:=fun _ _ _ _ _ st h=>wpAny_pyIter_rangeiter st h
section
variable {X:Cx}{tg:Expr}
def zI1 (K:PySem.W.Frag) (tl:TE):TI:=fun σ H R=>tl σ H fun x H1=>∃ a,x=.ref a/\(∃ xs,SqL K H1 a xs)/\R (Itl K a) H1
def iTup (K:PySem.W.Frag) (tl:TE):TI:=fun σ H R=>tl σ H fun x H1=>∃ a,x=.ref a/\(∃ xs,SqT K H1 a xs)/\R (Itt K a) H1
theorem zk5 {l:Expr}{tl:TE}(hl:PE X l tl):PI X tg l (zI1 X.K tl):=by
 intro pins s σ H R I h
 refine thn (hl pins s σ H _ I h) fun v s1 ⟨x,H1,I1,r1,q1⟩=>?_
 obtain ⟨a,e,⟨xs,hq⟩,q⟩:=q1
 subst e
 cases r1
 obtain ⟨its,rv,p,hz⟩:=I1.list hq
 refine wpAny_pyIter_list p.isList ?_
 refine ⟨s1.heap.objs.size,[s1.heap.objs.size],_,_,H1,rfl,I1.kept (t':=s1.toks) fun b o e=>Heap.get?_push_of_some _ e,z7t a _,⟨_,Heap.get?_push_size _ rfl,rfl,rfl⟩,fun b hb=>?_,q⟩
 have e:b=s1.heap.objs.size:=by simpa using hb
 subst e
 exact I1.fpOk (Nat.le_refl _) (I1.hok.fresh (Nat.le_refl _))
theorem zE1 {l:Expr}{tl:TE}(hl:PE X l tl):PI X tg l (iTup X.K tl):=by
 intro pins s σ H R I h
 refine thn (hl pins s σ H _ I h) fun v s1 ⟨x,H1,I1,r1,q1⟩=>?_
 obtain ⟨a,e,⟨xs,hq⟩,q⟩:=q1
 subst e
 cases r1
 obtain ⟨its,rv,p,hz⟩:=I1.tuple hq
 refine wpAny_pyIter_tuple (show s1.heap.IsTuple a its.toArray from p) ?_
 refine ⟨s1.heap.objs.size,[s1.heap.objs.size],_,_,H1,rfl,I1.kept (t':=s1.toks) fun b o e=>Heap.get?_push_of_some _ e,z77 a _,⟨_,Heap.get?_push_size _ rfl,rfl,rfl⟩,fun b hb=>?_,q⟩
 have e:b=s1.heap.objs.size:=by simpa using hb
 subst e
 exact I1.fpOk (Nat.le_refl _) (I1.hok.fresh (Nat.le_refl _))
theorem z9G {pins:List (Addr×Obj)}{σ:St}{H:Hp}{s:Shared}{R:It->Hp->Prop}{E:Value->Shared->Prop}{lo hi:Int}{t u v:Tok}{tk:Nat}(I:Inv X pins σ H s) (h1:-(2 ^ 62)≤lo) (h2:lo<2 ^ 62) (h3:-(2 ^ 62)≤hi) (h4:hi<2 ^ 62)
 (q:R (Itr lo (hi - lo).toNat) H):wpAny (model X.prog X.w) X.A (pyIter (.ref s.heap.objs.size)) (PIE X pins σ tg R) E { s with heap:=s.heap.push { cls:=.type "range",data:=.fields #[.int lo t,.int hi u,.int 1 v] },toks:=tk }:=by
 refine wpAny_pyIter_range (IsRange.new ..) (small_one h1 h2 h3 h4) ?_
 have I1:Inv X pins σ H { s with heap:=s.heap.push { cls:=.type "range",data:=.fields #[.int lo t,.int hi u,.int 1 v] },toks:=tk }:=I.kept fun b o e=>Heap.get?_push_of_some _ e
 refine ⟨(s.heap.push { cls:=.type "range",data:=.fields #[.int lo t,.int hi u,.int 1 v] }).objs.size,[(s.heap.push { cls:=.type "range",data:=.fields #[.int lo t,.int hi u,.int 1 v] }).objs.size],_,_,H,rfl,
  I1.kept (t':=tk) fun b o e=>Heap.get?_push_of_some _ e,z74 _ lo (hi - lo).toNat,?_,fun b hb=>?_,q⟩
 ·have e1:lo+((0:Nat):Int) * 1=lo:=by simp
  have e2:(((hi - lo).toNat:Nat):Int) - ((0:Nat):Int)=Builtin.Range.rangeSize lo hi 1:=by rw [rangeSize_one];split<;>omega
  show IsRangeIter _ _ (lo+((0:Nat):Int) * 1) ((((hi - lo).toNat:Nat):Int) - ((0:Nat):Int)) 1
  rw [e1,e2]
  exact Heap.get?_push_size _ rfl
 ·have e:b=(s.heap.push { cls:=.type "range",data:=.fields #[.int lo t,.int hi u,.int 1 v] }).objs.size:=by simpa using hb
  subst e
  exact I1.fpOk (Nat.le_refl _) (I1.hok.fresh (Nat.le_refl _))
def zJ3 (ta:TA):TI:=fun σ H R=>ta σ H fun vs H1=>∃ j:Int,vs=[.int j]/\-(2 ^ 62)≤j/\j<2 ^ 62/\R (Itr 0 j.toNat) H1
theorem z80 {a:Expr}{ta:TA}{p pos:Pos}(hg:Gl X "range") (hm:X.mg "range" = none) (ha:PA X [a] ta) (hs:starEach [a] X.env=[(false,eval a X.env)]:=by rfl):PI X tg (.Call (.Name "range" p) [a] [] pos) (zJ3 ta):=by
 intro pins s σ H R I h
 refine Call_ (z4r I hg hm boot_range (PyProof.Rows.callWith_type1 (thn (ha pos pins s σ H _ I h) fun us s1 ⟨vs,H1,I1,r1,q1⟩=>?_) hs rfl))
 obtain ⟨j,e,q1,q2,q⟩:=q1
 subst e
 cases r1 with
 | cons r rr =>
  cases rr
  obtain ⟨t,rfl⟩:=r
  exact call_range_1 (z9G I1 (by omega) (by omega) q1 q2 (by simpa using q))
def tFor (wi:TI) (g:TG) (tb:TS):TS:=fun D σ H=>wi σ H fun J H1=>∃ W:Nat->Nat->St->Hp->Prop,(∃ m,W 0 m σ H1)/\∀ i m σ H,W i m σ H ->
 (J.stop i H/\D.nx σ H)∨(J.go i H/\∃ N:St->Hp->Prop,(∀ σ' H',N σ' H'->∃ m',m'<m/\W (i+1) m' σ' H')/\∀ x H',J.yld i H x H'->g x σ H' fun σ2 H2=>tb { D with nx:=N,ct:=N,bk:=D.nx } σ2 H2)
def z5a (fp:List Addr) (h:Heap):List (Addr×Obj):=fp.filterMap fun b=>(h.get? b).map fun o=>(b,o)
theorem z1V {fp:List Addr}{h:Heap}{b:Addr}{o:Obj}(hb:b∈fp) (e:h.get? b=some o):(b,o)∈z5a fp h:=List.mem_filterMap.mpr ⟨b,hb,by rw [e];rfl⟩
theorem z8P {fp:List Addr}{h:Heap}{p:Addr×Obj}(hp:p∈z5a fp h):p.1∈fp/\h.get? p.1=some p.2:=by
 obtain ⟨b,hb,e⟩:=List.mem_filterMap.mp hp
 cases q:h.get? b with
 | none=>rw [q] at e;cases e
 | some o =>
  rw [q] at e
  have e':(b,o)=p:=Option.some.inj e
  subst e'
  exact ⟨hb,q⟩
theorem Inv.pinned {pins:List (Addr×Obj)}{σ:St}{H:Hp}{s:Shared}{fp:List Addr}(I:Inv X pins σ H s) (hf:∀ b∈fp,FpOk X pins H b) (ho:∀ b∈fp,∃ o,s.heap.get? b=some o/\∀ v,o.data≠.cell v):Inv X (pins++z5a fp s.heap) σ H s :=
 I.pins_of fun p hp=>(List.mem_append.mp hp).elim (fun z=>I.pin p (List.mem_append_right _ z)) fun z=>by
  obtain ⟨hb,e⟩:=z8P z
  obtain ⟨f0,f1,f2,_⟩:=hf p.1 hb
  obtain ⟨o,e',d⟩:=ho p.1 hb
  rw [e] at e';cases e'
  exact ⟨e,f0,f1,f2,d⟩
theorem Inv.unpinned {pins pl:List (Addr×Obj)}{σ:St}{H:Hp}{s:Shared}(I:Inv X (pins++pl) σ H s):Inv X pins σ H s:=I.pins_of fun p hp=>I.pin p (List.mem_append_right _ (List.mem_append_left _ hp))
theorem zC5 {iter:Expr}{body:List Stmt}{wi:TI}{g:TG}{tb:TS}{pos:Pos}(hp:PassesOwn (model X.prog X.w) X.A X.env X.xe) (hc:X.calm=true) (hi:PI X tg iter wi) (hg:PG X tg g) (hb:PSs X body tb)
 (hs:∀ x,foldedSetIterable iter X.env x=pure x:=by intro _;rfl):PS X (.For tg iter body [] pos) (tFor wi g tb):=by
 intro pins s σ H D I h
 refine wpAny_For (thn (hi pins s σ H _ I h) fun v s1 h1=>thn h1 fun itv s2 h2=>?_) hs
 obtain ⟨it,fp,tn,J,H2,e,I2,T,st2,f2,W,⟨m0,w0⟩,turn⟩:=h2
 subst e
 have stat:∀ {H':Hp},(∀ b∈fp,H' b=none)->∀ b∈fp,FpOk X pins H' b:=fun hn b hb=>⟨hn b hb,(f2 b hb).2⟩
 refine codeAny_forLoop_any (fun n s'=>∃ i σ' H',Inv X pins σ' H' s'/\tn i s'.heap/\(∀ b∈fp,H' b=none)/\W i n σ' H') ?_ m0 ⟨0,σ,H2,I2,st2,fun b hb=>(f2 b hb).1,w0⟩
 rintro n s3 ⟨i,σ3,H3,I3,st3,fr3,w3⟩
 rcases turn i n σ3 H3 w3 with ⟨stop,qn⟩ | ⟨go,N,hN,step⟩
 ·refine wpAny_passesOwn hp (thn (T.done X rfl rfl rfl hc i pins s3 σ3 H3 X.xe I3 (stat fr3) st3 stop) fun r s4 ⟨hr,I4⟩=>?_)
  subst hr
  exact wpAny_execs_nil ⟨σ3,H3,I4,qn⟩
 ·refine wpAny_passesOwn hp (thn (T.item X rfl rfl rfl hc i pins s3 σ3 H3 X.xe I3 (stat fr3) st3 go) fun r s4 ⟨u,hr,h4⟩=>?_)
  subst hr
  refine wpAny_passesOwn hp (thn h4 fun _ s5 ⟨x,H5,I5,r5,y5,st5,fr5⟩=>?_)
  have I5':=I5.pinned (stat fr5) (T.obj _ _ st5)
  refine wpAny_passesOwn hp (thn (hg _ s5 σ3 H5 x u _ I5' r5 (step x H5 y5)) fun _ s6 ⟨σ6,H6,I6,q6⟩=>?_)
  refine wpAny_passesOwn hp (thn (hb _ s6 σ6 H6 _ I6 q6) fun f s7 q7=>?_)
  have again:∀ {σ7:St} {H7:Hp},Inv X (pins++z5a fp s5.heap) σ7 H7 s7->N σ7 H7->∃ m,m<n/\∃ i σ' H',Inv X pins σ' H' s7/\tn i s7.heap/\(∀ b∈fp,H' b=none)/\W i m σ' H':=fun {σ7 H7} I7 n7=>by
   obtain ⟨m',hm,w7⟩:=hN σ7 H7 n7
   refine ⟨m',hm,i+1,σ7,H7,I7.unpinned,T.keep _ _ _ st5 fun b hb o e=>(I7.pin (b,o) (List.mem_append_right _ (List.mem_append_right _ (z1V hb e)))).1,fun b hb=>?_,w7⟩
   obtain ⟨o,e,d⟩:=T.obj _ _ st5 b hb
   exact (I7.pin (b,o) (List.mem_append_right _ (List.mem_append_right _ (z1V hb e)))).2.1
  cases f with
  | next=>obtain ⟨σ7,H7,I7,n7⟩:=q7;exact again I7 n7
  | cont=>obtain ⟨σ7,H7,I7,n7⟩:=q7;exact again I7 n7
  | brk=>obtain ⟨σ7,H7,I7,q7⟩:=q7;exact ⟨σ7,H7,I7.unpinned,q7⟩
  | ret v=>obtain ⟨x7,σ7,H7,I7,r7,q7⟩:=q7;exact ⟨x7,σ7,H7,I7.unpinned,r7,q7⟩
end
theorem z00 {lo:Int}{n:Nat}{g:TG}{tb:TS}{D:Ends}{σ:St}{H:Hp}(Pv:Nat->St->Hp->Prop) (h0:Pv 0 σ H)
 (hs:∀ i σ H,i<n->Pv i σ H->g (.int (lo+i)) σ H fun σ2 H2=>tb { D with nx:=Pv (i+1),ct:=Pv (i+1),bk:=D.nx } σ2 H2) (hd:∀ σ H,Pv n σ H->D.nx σ H) :
 ∃ W:Nat->Nat->St->Hp->Prop,(∃ m,W 0 m σ H)/\∀ i m σ H,W i m σ H ->
  ((Itr lo n).stop i H/\D.nx σ H)∨((Itr lo n).go i H/\∃ N:St->Hp->Prop,(∀ σ' H',N σ' H'->∃ m',m'<m/\W (i+1) m' σ' H')/\∀ x H',(Itr lo n).yld i H x H'->g x σ H' fun σ2 H2=>tb { D with nx:=N,ct:=N,bk:=D.nx } σ2 H2):=by
 refine ⟨fun i m σ H=>m=n - i/\i≤n/\Pv i σ H,⟨n,by simp,Nat.zero_le _,h0⟩,?_⟩
 rintro i m σ H ⟨rfl,hi,p⟩
 by_cases hlt:i<n
 ·refine .inr ⟨hlt,Pv (i+1),fun σ' H' p'=>⟨n - (i+1),by omega,rfl,hlt,p'⟩,fun x H' y=>?_⟩
  obtain ⟨e,y⟩:=y
  subst e y
  exact hs i σ _ hlt p
 ·have e:i=n:=by omega
  subst e
  exact .inl ⟨Nat.le_refl _,hd σ H p⟩
abbrev R2:=V->V->Hp->VK->Prop
def OpR (X:Cx) (f:Value->Value->Sem Value) (r:R2):Prop :=
 ∀ (pins:List (Addr×Obj)) (s:Shared) (σ:St) (H:Hp) (x y:V) (v u:Value) (Q:VK),Inv X pins σ H s->RelV x v->RelV y u->r x y H Q ->
  wpAny (model X.prog X.w) X.A (f v u) (EP X pins σ Q) X.xe s
def UnR (X:Cx) (f:Value->Sem Value) (r:V->Hp->VK->Prop):Prop :=
 ∀ (pins:List (Addr×Obj)) (s:Shared) (σ:St) (H:Hp) (x:V) (v:Value) (Q:VK),Inv X pins σ H s->RelV x v->r x H Q ->
  wpAny (model X.prog X.w) X.A (f v) (EP X pins σ Q) X.xe s
def z1Q (X:Cx) (f:Value) (r:List V->Hp->VK->Prop):Prop :=
 ∀ (pins:List (Addr×Obj)) (s:Shared) (σ:St) (H:Hp) (xs:List V) (us:List Value) (Q:VK),Inv X pins σ H s->Vals xs us->r xs H Q ->
  wpAny (model X.prog X.w) X.A (call f us) (EP X pins σ Q) X.xe s
def TruR (X:Cx) (r:V->Hp->(Bool->Hp->Prop)->Prop):Prop :=
 ∀ (pins:List (Addr×Obj)) (s:Shared) (σ:St) (H:Hp) (x:V) (v:Value) (Q:Bool->Hp->Prop),Inv X pins σ H s->RelV x v->r x H Q ->
  wpAny (model X.prog X.w) X.A (truthy v) (TP X pins σ Q) X.xe s
def tOp (r:R2) (ta tb:TE):TE:=fun σ H Q=>ta σ H fun x H1=>tb σ H1 fun y H2=>r x y H2 Q
def tUn (r:V->Hp->VK->Prop) (ta:TE):TE:=fun σ H Q=>ta σ H fun x H1=>r x H1 Q
def rI (C:Int->Int->Prop) (g:Int->Int->V):R2:=fun x y H Q=>∃ i j,x=.int i/\y=.int j/\C i j/\Q (g i j) H
def rI0 (g:Int->Int->V):R2:=fun x y H Q=>∃ i j,x=.int i/\y=.int j/\Q (g i j) H
def rU (g:Int->V):V->Hp->VK->Prop:=fun x H Q=>∃ i,x=.int i/\Q (g i) H
section
variable {X:Cx}{a b c:Expr}{ta tb tc:TE}{pos:Pos}
theorem binT (ha:PE X a ta) (hb:PE X b tb) {pins:List (Addr×Obj)}{s:Shared}{σ:St}{H:Hp}{R:V->V->Hp->Prop}(I:Inv X pins σ H s)
 (h:ta σ H fun x H1=>tb σ H1 fun y H2=>R x y H2) {Q:Value->Shared->Prop} {f:Value->Value->Sem Value}
 (hf:∀ v u s2 x y H2,Inv X pins σ H2 s2->RelV x v->RelV y u->R x y H2->wpAny (model X.prog X.w) X.A (f v u) Q X.xe s2) :
 wpAny (model X.prog X.w) X.A (eval a X.env) (fun v s₁=>wpAny (model X.prog X.w) X.A (eval b X.env) (fun u s₂=>wpAny (model X.prog X.w) X.A (f v u) Q X.xe s₂) X.xe s₁) X.xe s:=by
 refine thn (ha pins s σ H _ I h) fun v s1 ⟨x,H1,I1,r1,q1⟩=>?_
 refine thn (hb pins s1 σ H1 _ I1 q1) fun u s2 ⟨y,H2,I2,r2,q2⟩=>?_
 exact hf v u s2 x y H2 I2 r1 r2 q2
theorem zJ8 {op:Operator}{r:R2}(ho:OpR X (binaryOp op) r) (ha:PE X a ta) (hb:PE X b tb):PE X (.BinOp a op b pos) (tOp r ta tb):=by
 intro pins s σ H Q I h
 exact wpAny_BinOp (binT ha hb I h fun v u s2 x y H2 I2 rx ry q=>ho pins s2 σ H2 x y v u Q I2 rx ry q)
theorem zG5 {op:UnaryOp}{r:V->Hp->VK->Prop}(ho:UnR X (unaryOp op) r) (ha:PE X a ta):PE X (.UnaryOp op a pos) (tUn r ta):=by
 intro pins s σ H Q I h
 exact UnaryOp_ (thn (ha pins s σ H _ I h) fun v s1 ⟨x,H1,I1,r1,q1⟩=>ho pins s1 σ H1 x v Q I1 r1 q1)
theorem opI {f:Value->Value->Sem Value}{C:Int->Int->Prop}{g:Int->Int->Int}
 (rule:∀ (i j:Int) (t u:Tok) (s:Shared) (Q:Value->Shared->Prop) (E:Value->Shared->Prop),C i j->Q (.int (g i j) s.toks) { s with toks:=s.toks+1 }->wpAny (model X.prog X.w) X.A (f (.int i t) (.int j u)) Q E s) :
 OpR X f (rI C fun i j=>.int (g i j)):=by
 intro pins s σ H x y v u Q I rx ry h
 obtain ⟨i,j,rfl,rfl,hc,q⟩:=h
 obtain ⟨t,rfl⟩:=rx
 obtain ⟨t',rfl⟩:=ry
 exact rule i j t t' s _ _ hc ⟨.int (g i j),H,I.tok _,⟨_,rfl⟩,q⟩
theorem opI0 {f:Value->Value->Sem Value}{g:Int->Int->Int}
 (rule:∀ (i j:Int) (t u:Tok) (s:Shared) (Q:Value->Shared->Prop) (E:Value->Shared->Prop),Q (.int (g i j) s.toks) { s with toks:=s.toks+1 }->wpAny (model X.prog X.w) X.A (f (.int i t) (.int j u)) Q E s) :
 OpR X f (rI0 fun i j=>.int (g i j)):=by
 intro pins s σ H x y v u Q I rx ry h
 obtain ⟨i,j,rfl,rfl,q⟩:=h
 obtain ⟨t,rfl⟩:=rx
 obtain ⟨t',rfl⟩:=ry
 exact rule i j t t' s _ _ ⟨.int (g i j),H,I.tok _,⟨_,rfl⟩,q⟩
theorem opB0 {f:Value->Value->Sem Value}{g:Int->Int->Bool}
 (rule:∀ (i j:Int) (t u:Tok) (s:Shared) (Q:Value->Shared->Prop) (E:Value->Shared->Prop),Q (.bool (g i j)) s->wpAny (model X.prog X.w) X.A (f (.int i t) (.int j u)) Q E s) :
 OpR X f (rI0 fun i j=>.bl (g i j)):=by
 intro pins s σ H x y v u Q I rx ry h
 obtain ⟨i,j,rfl,rfl,q⟩:=h
 obtain ⟨t,rfl⟩:=rx
 obtain ⟨t',rfl⟩:=ry
 exact rule i j t t' s _ _ ⟨.bl (g i j),H,I,rfl,q⟩
def CDiv (i j:Int):Prop:=0<j/\j<1073741824
def CPow (i j:Int):Prop:=0≤j/\j≤1000000/\i.natAbs<2 ^ 64
def CMul (i j:Int):Prop:=(-(2 ^ 64)<i/\i<2 ^ 64)∨(-(2 ^ 64)<j/\j<2 ^ 64)
theorem CMul.ok {i j:Int}(h:CMul i j):IntMulOk i j:=by
 rcases h with ⟨h1,h2⟩ | ⟨h1,h2⟩
 ·exact .of_left (intBits_le_64 h1 h2)
 ·exact .of_right (intBits_le_64 h1 h2)
theorem op_add:OpR X (binaryOp .Add) (rI0 fun i j=>.int (i+j)):=opI0 fun _ _ _ _ _ _ _ q=>add_int q
theorem zD6:OpR X (binaryOp .Sub) (rI0 fun i j=>.int (i - j)):=opI0 fun _ _ _ _ _ _ _ q=>sub_int q
theorem op_mul:OpR X (binaryOp .Mult) (rI CMul fun i j=>.int (i * j)):=opI fun _ _ _ _ _ _ _ hc q=>mul_int q hc.ok
theorem zq9:OpR X (binaryOp .FloorDiv) (rI CDiv fun i j=>.int (i / j)):=opI fun i j _ _ _ _ _ hc q=>by
 have h1:(0:Int)<j:=hc.1
 have h2:j<1073741824:=hc.2
 exact floordiv_int (by omega) (by rw [Int.fdiv_eq_ediv_of_nonneg i (by omega)];exact q) (.inl (PyProof.noPylong_small (by omega)))
theorem zy0:OpR X (binaryOp .Mod) (rI (fun _ j=>0<j) fun i j=>.int (i % j)):=opI fun i j _ _ _ _ _ hc q=>by
 have h1:(0:Int)<j:=hc
 exact mod_int' (by omega) (by rw [Int.fmod_eq_emod_of_nonneg i (by omega)];exact q)
theorem zs7:OpR X (binaryOp .Pow) (rI CPow fun i j=>.int (i ^ j.toNat)):=opI fun _ _ _ _ _ _ _ hc q=>pow_int_small hc.1 hc.2.1 hc.2.2 q
theorem unI {f:Value->Sem Value}{g:Int->Int}
 (rule:∀ (i:Int) (t:Tok) (s:Shared) (Q:Value->Shared->Prop) (E:Value->Shared->Prop),Q (.int (g i) s.toks) { s with toks:=s.toks+1 }->wpAny (model X.prog X.w) X.A (f (.int i t)) Q E s) :
 UnR X f (rU fun i=>.int (g i)):=by
 intro pins s σ H x v Q I rx h
 obtain ⟨i,rfl,q⟩:=h
 obtain ⟨t,rfl⟩:=rx
 exact rule i t s _ _ ⟨.int (g i),H,I.tok _,⟨_,rfl⟩,q⟩
theorem zy9:UnR X (unaryOp .USub) (rU fun i=>.int (-i)):=unI fun _ _ _ _ _ q=>neg_int q
end
def scal:V->V->Bool
 | .non,.non=>true | .non,.int _=>true | .int _,.non=>true | .non,.bl _=>true | .bl _,.non=>true | .non,.str _=>true | .str _,.non=>true
 | .int _,.int _=>true | .bl _,.bl _=>true | .str _,.str _=>true | .byt _,.byt _=>true
 | .int _,.str _=>true | .str _,.int _=>true | .bl _,.str _=>true | .str _,.bl _=>true
 | _,_=>false
def rEq:R2:=fun x y H Q=>scal x y=true/\Q (.bl (decide (x=y))) H
theorem zr0 {i j:Int}:decide (V.int i=V.int j)=(i == j):=by
 rw [Bool.eq_iff_iff]
 simp
theorem zE4 {i j:Bool}:decide (V.bl i=V.bl j)=(i == j):=by
 rw [Bool.eq_iff_iff]
 simp
theorem zo5 {i j:Str}:decide (V.str i=V.str j)=(i == j):=by
 rw [Bool.eq_iff_iff]
 simp
theorem zn3 {i j:Array UInt8}:decide (V.byt i=V.byt j)=(i.toList == j.toList):=by
 rw [Bool.eq_iff_iff]
 cases i
 cases j
 simp
section
variable {X:Cx}{a b c:Expr}{ta tb tc:TE}{pos:Pos}
theorem z0O {pins:List (Addr×Obj)}{σ:St}{H:Hp}{s:Shared}{Q:VK}{k k':Bool}(I:Inv X pins σ H s) (q:Q (.bl k) H) (e:k=k'):EP X pins σ Q (.bool k') s:=by
 subst e
 exact ⟨.bl k,H,I,rfl,q⟩
theorem zG2:OpR X (compareOp .Eq) rEq:=by
 intro pins s σ H x y v u Q I rx ry h
 obtain ⟨hs,q⟩:=h
 cases x with
 | non =>
  cases rx
  cases y with
  | non=>cases ry;exact PySem.EqNone.eq_none_none (z0O I q (by simp))
  | bl j=>cases ry;exact PySem.EqNone.eq_none_bool (z0O I q (by simp))
  | int j=>obtain ⟨t',rfl⟩:=ry;exact PySem.EqNone.eq_none_int (z0O I q (by simp))
  | str j=>obtain ⟨t',rfl⟩:=ry;exact PySem.EqNone.eq_none_str (z0O I q (by simp))
  | _=>exact absurd (show false=true from hs) Bool.false_ne_true
 | bl i =>
  cases rx
  cases y with
  | non=>cases ry;exact PySem.EqNone.eq_bool_none (z0O I q (by simp))
  | bl j=>cases ry;exact eq_bool (z0O I q zE4)
  | str j=>obtain ⟨t',rfl⟩:=ry;exact PySem.EqMixed.eq_bool_str (z0O I q (by simp))
  | _=>exact absurd (show false=true from hs) Bool.false_ne_true
 | int i =>
  obtain ⟨t,rfl⟩:=rx
  cases y with
  | non=>cases ry;exact PySem.EqNone.eq_int_none (z0O I q (by simp))
  | int j=>obtain ⟨t',rfl⟩:=ry;exact eq_int (z0O I q zr0)
  | str j=>obtain ⟨t',rfl⟩:=ry;exact PySem.EqMixed.eq_int_str (z0O I q (by simp))
  | _=>exact absurd (show false=true from hs) Bool.false_ne_true
 | str i =>
  obtain ⟨t,rfl⟩:=rx
  cases y with
  | non=>cases ry;exact PySem.EqNone.eq_str_none (z0O I q (by simp))
  | bl j=>cases ry;exact PySem.EqMixed.eq_str_bool (z0O I q (by simp))
  | int j=>obtain ⟨t',rfl⟩:=ry;exact PySem.EqMixed.eq_str_int (z0O I q (by simp))
  | str j=>obtain ⟨t',rfl⟩:=ry;exact eq_str (z0O I q zo5)
  | _=>exact absurd (show false=true from hs) Bool.false_ne_true
 | byt i =>
  obtain ⟨t,rfl⟩:=rx
  cases y with
  | byt j=>obtain ⟨t',rfl⟩:=ry;exact PySem.W.eq_bytes (z0O I q zn3)
  | _=>exact absurd (show false=true from hs) Bool.false_ne_true
 | _=>cases y<;>exact absurd (show false=true from hs) Bool.false_ne_true
theorem op_lt:OpR X (compareOp .Lt) (rI0 fun i j=>.bl (decide (i<j))):=opB0 fun _ _ _ _ _ _ _ q=>lt_int q
theorem op_le:OpR X (compareOp .LtE) (rI0 fun i j=>.bl (decide (i≤j))):=opB0 fun _ _ _ _ _ _ _ q=>le_int q
theorem zI6:OpR X (compareOp .Gt) (rI0 fun i j=>.bl (decide (j<i))):=opB0 fun _ _ _ _ _ _ _ q=>gt_int q
theorem zF4:OpR X (compareOp .GtE) (rI0 fun i j=>.bl (decide (j≤i))):=opB0 fun _ _ _ _ _ _ _ q=>ge_int q
theorem z7W:OpR X (compareOp .Lt) (fun x y H Q=>∃ i j,x=.str i/\y=.str j/\Q (.bl (decide (i.cps.toList<j.cps.toList))) H):=by
 intro pins s σ H x y v u Q I rx ry h
 obtain ⟨i,j,rfl,rfl,q⟩:=h
 obtain ⟨t,rfl⟩:=rx
 obtain ⟨t',rfl⟩:=ry
 exact lt_str (z0O I q rfl)
theorem OpR.or {f:Value->Value->Sem Value}{r r':R2}(h:OpR X f r) (h':OpR X f r'):OpR X f (fun x y H Q=>r x y H Q∨r' x y H Q):=by
 intro pins s σ H x y v u Q I rx ry q
 rcases q with q | q
 ·exact h pins s σ H x y v u Q I rx ry q
 ·exact h' pins s σ H x y v u Q I rx ry q
theorem zf0 (b:Expr) {op:CmpOp}(h:op≠.In:=by decide) (h2:op≠.NotIn:=by decide):behindInMarks op b=false:=by
 have e1:(op == CmpOp.In)=false:=by cases op<;>first | rfl | exact absurd rfl h
 have e2:(op == CmpOp.NotIn)=false:=by cases op<;>first | rfl | exact absurd rfl h2
 cases b<;>simp [behindInMarks,e1,e2]
theorem zg1 {op:CmpOp}{r:R2}(ho:OpR X (compareOp op) r) (ha:PE X a ta) (hb:PE X b tb) (hm:behindInMarks op b=false):PE X (.Compare a [op] [b] pos) (tOp r ta tb):=by
 intro pins s σ H Q I h
 exact wpAny_Compare1 (binT ha hb I h fun v u s2 x y H2 I2 rx ry q=>ho pins s2 σ H2 x y v u Q I2 rx ry q) hm
def zA0 (t:TE):TT:=fun σ H Q=>t σ H fun x H'=>∃ k,x=.bl k/\Q k H'
theorem zm7 {op:CmpOp}{r:R2}(ho:OpR X (compareOp op) r) (ha:PE X a ta) (hb:PE X b tb) (hm:behindInMarks op b=false):PT X (.Compare a [op] [b] pos) (zA0 (tOp r ta tb)):=by
 intro pins s σ H Q I h
 refine wpAny_isTrue_Compare1 (thn (ha pins s σ H _ I h) fun v s1 ⟨x,H1,I1,r1,q1⟩=>thn (hb pins s1 σ H1 _ I1 q1) fun u s2 ⟨y,H2,I2,r2,q2⟩ =>
  thn (ho pins s2 σ H2 x y v u _ I2 r1 r2 q2) fun c s3 ⟨z,H3,I3,r3,k,e,q3⟩=>?_) hm
 subst e
 cases r3
 exact wpAny_truthy_bool ⟨H3,I3,q3⟩
def ze0 (r r':R2) (ta tb tc:TE):TE:=fun σ H Q=>ta σ H fun x H1=>tb σ H1 fun y H2=>r x y H2 fun z H3=>∃ k,z=.bl k /\
 (if k=true then tc σ H3 fun w' H4=>r' y w' H4 Q else Q (.bl false) H3)
theorem z9W {op op':CmpOp}{r r':R2}(ho:OpR X (compareOp op) r) (ho':OpR X (compareOp op') r') (ha:PE X a ta) (hb:PE X b tb) (hc:PE X c tc)
 (hm:lastMarks [op,op'] [b,c]=false:=by with_unfolding_all rfl):PE X (.Compare a [op,op'] [b,c] pos) (ze0 r r' ta tb tc):=by
 intro pins s σ H Q I h
 refine Compare_chain (thn (ha pins s σ H _ I h) fun v s1 ⟨x,H1,I1,r1,q1⟩=>chain_link (thn (hb pins s1 σ H1 _ I1 q1) fun u s2 ⟨y,H2,I2,r2,q2⟩ =>
  thn (ho pins s2 σ H2 x y v u _ I2 r1 r2 q2) fun d s3 ⟨z,H3,I3,r3,k,e,q3⟩=>?_)) hm
 subst e
 cases r3
 refine wpAny_truthy_bool ?_
 cases k with
 | false=>exact ite_ff ⟨.bl false,H3,I3,rfl,q3⟩
 | true=>exact ite_tt (chain_last (thn (hc pins s3 σ H3 _ I3 q3) fun w' s4 ⟨z',H4,I4,r4,q4⟩=>ho' pins s4 σ H4 y z' u w' Q I4 r2 r4 q4))
def TruV (K:PySem.W.Frag) (x:V) (H:Hp) (k:Bool):Prop :=
 match x with
 | .non=>k=false
 | .bl b=>k=b
 | .int i=>k=(i != 0)
 | .str y=>y.length≤sizeLine/\k=((y.length:Int) != 0)
 | .byt y=>y.size≤sizeLine/\k=((y.size:Int) != 0)
 | .ref p=>(∃ xs,SqL K H p xs/\k = !xs.isEmpty)∨(∃ xs,SqT K H p xs/\k = !xs.isEmpty)∨∃ kvs,H p=some (.dK kvs)/\k = !kvs.isEmpty
 | _=>False
theorem z7n {κ:Type}{kvs:List (κ×V)}{vs:List (κ×Value)}(r:KV kvs vs):(!vs.isEmpty) = !kvs.isEmpty:=by
 cases r<;>rfl
theorem z3F {xs:List V}{its:List Value}(r:Vals xs its):(!its.toArray.isEmpty) = !xs.isEmpty:=by
 cases r<;>simp
theorem z3w:(sizeLine:Nat)<2 ^ 63:=by rw [sizeLine_eq];decide
theorem zr8:TruR X (fun x H Q=>∃ k,TruV X.K x H k/\Q k H):=by
 intro pins s σ H x v Q I rx h
 obtain ⟨k,e,q⟩:=h
 have hl:=z3w
 have hs:sizeLine=16777216:=sizeLine_eq
 cases x with
 | non =>
  cases rx
  have e':k=false:=e
  subst e'
  exact truthy_none ⟨H,I,q⟩
 | bl b =>
  cases rx
  have e':k=b:=e
  subst e'
  exact wpAny_truthy_bool ⟨H,I,q⟩
 | int i =>
  obtain ⟨t,rfl⟩:=rx
  have e':k=(i != 0):=e
  subst e'
  exact PySem.P.truthy_int ⟨H,I,q⟩
 | str y =>
  obtain ⟨t,rfl⟩:=rx
  obtain ⟨hy,e'⟩:y.length≤sizeLine/\k=((y.length:Int) != 0):=e
  subst e'
  exact PySem.P.truthy_str (by omega) ⟨H,I.tok _,q⟩
 | byt y =>
  obtain ⟨t,rfl⟩:=rx
  obtain ⟨hy,e'⟩:y.size≤sizeLine/\k=((y.size:Int) != 0):=e
  subst e'
  exact PySem.W.truthy_bytes (by omega) ⟨H,I.tok _,q⟩
 | ref p =>
  cases rx
  have e':(∃ xs,SqL X.K H p xs/\k = !xs.isEmpty)∨(∃ xs,SqT X.K H p xs/\k = !xs.isEmpty)∨∃ kvs,H p=some (.dK kvs)/\k = !kvs.isEmpty:=e
  rcases e' with ⟨xs,hx,e'⟩ | ⟨xs,hx,e'⟩ | ⟨kvs,hx,e'⟩
  ·subst e'
   obtain ⟨its,r,pl,hz⟩:=I.list hx
   have hlen:=r.length
   exact wpAny_truthy_list pl.isList (by simp only [List.size_toArray];omega) ⟨H,I.tok _,by rw [z3F r];exact q⟩
  ·subst e'
   obtain ⟨its,r,pl,hz⟩:=I.tuple hx
   have hlen:=r.length
   exact truthy_tuple pl (by simp only [List.size_toArray];omega) ⟨H,I.tok _,by rw [z3F r];exact q⟩
  ·subst e'
   obtain ⟨hz,hS,vs,r,m⟩:kvs.length≤sizeLine/\(p == sysModules)=false/\∃ vs,KV kvs vs/\s.heap.DictOf (z09 X.prog X.w) p vs:=I.hok p _ hx
   have hlen:kvs.length=vs.length:=Paired.length r
   exact wpAny_truthy_dict hS m (by omega) ⟨H,I.tok _,by rw [z7n r];exact q⟩
 | _=>exact (show False from e).elim
theorem z9N (ha:PE X a ta) (he:∀ whole,isTrue a X.env whole=(do let v ← whole;standAt a.pos;holding [v] (truthy v))) :
 PT X a (fun σ H Q=>ta σ H fun x H'=>∃ k,TruV X.K x H' k/\Q k H'):=by
 intro pins s σ H Q I h
 exact isTrue_plain (thn (ha pins s σ H _ I h) fun v s1 ⟨x,H1,I1,r1,q1⟩=>zr8 pins s1 σ H1 x v Q I1 r1 q1) (he _)
theorem op_add_str:OpR X (binaryOp .Add) (fun x y H Q=>∃ i j,x=.str i/\y=.str j/\i.length+j.length≤sizeLine/\Q (.str (i++j)) H):=by
 intro pins s σ H x y v u Q I rx ry h
 obtain ⟨i,j,rfl,rfl,hz,q⟩:=h
 obtain ⟨t,rfl⟩:=rx
 obtain ⟨t',rfl⟩:=ry
 exact add_str (fun t' tk=>⟨.str (i++j),H,I.tok _,⟨_,rfl⟩,q⟩) hz
theorem vals1 {x:V}{us:List Value}(r:Vals [x] us):∃ u,us=[u]/\RelV x u:=by
 cases r with
 | cons r1 r2=>cases r2;exact ⟨_,rfl,r1⟩
theorem vals2 {x y:V}{us:List Value}(r:Vals [x,y] us):∃ u w',us=[u,w']/\RelV x u/\RelV y w':=by
 cases r with
 | cons r1 r2 =>
  cases r2 with
  | cons r3 r4=>cases r4;exact ⟨_,_,rfl,r1,r3⟩
theorem z4J (hc:X.calm=true):z1Q X (.builtin "max") (fun xs H Q=>∃ i j,xs=[.int i,.int j]/\Q (.int (if j > i then j else i)) H):=by
 intro pins s σ H xs us Q I r h
 obtain ⟨i,j,rfl,q⟩:=h
 obtain ⟨u,w',rfl,⟨t,rfl⟩,⟨t',rfl⟩⟩:=vals2 r
 refine max_two_ints (I.ok.hd hc) fun h' tk k=>⟨_,H,I.kept k,?_,q⟩
 by_cases hj:j > i
 ·rw [if_pos hj,if_pos hj];exact ⟨_,rfl⟩
 ·rw [if_neg hj,if_neg hj];exact ⟨_,rfl⟩
def LenV (K:PySem.W.Frag) (x:V) (H:Hp) (n:Nat):Prop :=
 match x with
 | .str y=>y.length≤sizeLine/\n=y.length
 | .byt y=>y.size≤sizeLine/\n=y.size
 | .ref p=>(∃ xs,SqL K H p xs/\n=xs.length)∨∃ xs,SqT K H p xs/\n=xs.length
 | _=>False
theorem za6:z1Q X (.builtin "len") (fun xs H Q=>∃ x n,xs=[x]/\LenV X.K x H n/\Q (.int n) H):=by
 intro pins s σ H xs us Q I r h
 obtain ⟨x,n,rfl,e,q⟩:=h
 obtain ⟨u,rfl,rx⟩:=vals1 r
 have hl:=z3w
 have hs:sizeLine=16777216:=sizeLine_eq
 cases x with
 | str y =>
  obtain ⟨t,rfl⟩:=rx
  obtain ⟨hy,e'⟩:y.length≤sizeLine/\n=y.length:=e
  subst e'
  exact len_str (by omega) ⟨.int _,H,I.tok _,⟨_,rfl⟩,q⟩
 | byt y =>
  obtain ⟨t,rfl⟩:=rx
  obtain ⟨hy,e'⟩:y.size≤sizeLine/\n=y.size:=e
  subst e'
  exact PySem.W.len_bytes (by omega) ⟨.int _,H,I.tok _,⟨_,rfl⟩,q⟩
 | ref p =>
  cases rx
  have e':(∃ xs,SqL X.K H p xs/\n=xs.length)∨∃ xs,SqT X.K H p xs/\n=xs.length:=e
  rcases e' with ⟨xs,hx,e'⟩ | ⟨xs,hx,e'⟩
  ·subst e'
   obtain ⟨its,r',pl,hz⟩:=I.list hx
   have hlen:=r'.length
   exact Calls.call_len_list pl.isList (by simp only [List.size_toArray];omega) ⟨.int xs.length,H,I.tok _,⟨_,by simp only [List.size_toArray];rw [hlen]⟩,q⟩
  ·subst e'
   obtain ⟨its,r',pl,hz⟩:=I.tuple hx
   have hlen:=r'.length
   exact len_tuple pl (by simp only [List.size_toArray];omega) ⟨.int xs.length,H,I.tok _,⟨_,by simp only [List.size_toArray];rw [hlen]⟩,q⟩
 | _=>exact (show False from e).elim
end
structure ObjM (h:Heap) (x dx C:Addr) (mA:Str->Option Value):Prop where
 obj:h.get? x=some (PySem.W.instObj C dx)
 ns:h.Ns1 dx mA
 ne:dx≠x
theorem z8R {h:Heap}{dx:Addr}{mA:Str->Option Value}(n:h.Ns1 dx mA):∃ od,h.get? dx=some od/\∀ name,PySem.W.lookIn name od=some (mA name):=by
 obtain ⟨o,es,ep,ho,hd,hk,_,hm⟩:=n
 refine ⟨o,ho,fun name=>?_⟩
 have e:=hm name
 unfold nsFind findBy at e
 rw [← Array.find?_toList] at e
 unfold PySem.W.lookIn
 rw [hd]
 dsimp only
 split
 ·rename_i y q
  rw [q] at e
  exact congrArg some e
 ·rename_i q
  rw [q] at e
  have a:es.toList.any (·.refKey)=false:=by
   rw [List.any_eq_false]
   intro y hy
   obtain ⟨z,t,hkey⟩:=hk y (Array.mem_toList_iff.mp hy)
   simp [DictEntry.refKey,hkey]
  have a':¬ es.toList.any (·.refKey)=true:=by rw [a];exact Bool.false_ne_true
  rw [if_neg a']
  exact congrArg some e
theorem ObjM.look {h:Heap}{x dx C:Addr}{mA:Str->Option Value}(I:ObjM h x dx C mA):∃ od,PySem.W.InstAt h x (PySem.W.instObj C dx) C (some od)/\∀ name,PySem.W.lookIn name od=some (mA name) :=
 let ⟨od,ho,hl⟩:=z8R I.ns
 ⟨od,⟨I.obj,rfl,rfl,ho⟩,hl⟩
section
variable {prog:Program}{w:World}{A:Around}{E:Value->Shared->Prop}{s:Shared}{K:PySem.W.Frag}{x dx C f:Addr}{mA:Str->Option Value}{name:Str}{v:Value}
end
section
variable {P:Program}{w:World}{H H':Hp}{h h':Heap}{a C dx:Addr}{fs fs':List (Str×V)}
theorem zk8 (hok:HOk P w H h) (e:H a=some (.ins C dx fs)):∃ mA,ObjM h a dx C mA/\(∀ f,RelO (fs.lookup f) (mA f))/\PySem.Within mA (fs.map (·.1))/\fs.length≤1000/\H dx=some (.own a):=by
 obtain ⟨d,z,ne,ob,mA,n,r,q⟩:=(show ObjOk P w H h a (.ins C dx fs) from hok a _ e)
 exact ⟨mA,⟨ob,n,ne⟩,r,q,z,d⟩
end
structure Cls (K:PySem.W.Frag) (C:Addr):Prop where
 pg:PySem.W.plainGet K C Str.empty=true
 hd:PySem.W.hasDictIn K C=true
 po:PySem.W.plainOver K C=true
 sa:PySem.W.findIn K (.ref C) "__setattr__" = some (some (.builtin "object.__setattr__"))
theorem Cls.get {K:PySem.W.Frag}{C:Addr}(c:Cls K C) (f:Str):PySem.W.plainGet K C f=true:=c.pg
section
variable {X:Cx}{pins:List (Addr×Obj)}{σ:St}{H:Hp}{s:Shared}{a C dx:Addr}{fs:List (Str×V)}{f:Str}{v:V}{A:Around}{E:Value->Shared->Prop}
end
section
variable {X:Cx}{o e value:Expr}{f:Str}{pos pos' tpos:Pos}{ta tv:TE}
end
section
variable {X:Cx}{pins:List (Addr×Obj)}{σ:St}{H:Hp}{s:Shared}{A:Around}{E:Value->Shared->Prop}{Q:Value->Shared->Prop}{c:Value}{b:Bool}
inductive TyOf (K:PySem.W.Frag) (H:Hp):V->Value->Prop where
 | non:TyOf K H .non (.type "NoneType")
 | bl (x:Bool):TyOf K H (.bl x) (.type "bool")
 | int (i:Int):TyOf K H (.int i) (.type "int")
 | str (x:Str):TyOf K H (.str x) (.type "str")
 | flt (x:UInt64):TyOf K H (.flt x) (.type "float")
 | lst {a:Addr} {xs:List V} (e:H a=some (.lst xs)):TyOf K H (.ref a) (.type "list")
 | frz {a:Addr} {o:Obj} {xs:List V} (e:H a=some (.frz o (.lst xs))):TyOf K H (.ref a) (.type "list")
 | tup {a:Addr} {xs:List V} (e:H a=some (.tup xs)):TyOf K H (.ref a) (.type "tuple")
 | dK {a:Addr} {kvs:List (Key×V)} (e:H a=some (.dK kvs)):TyOf K H (.ref a) (.type "dict")
 | dT {a:Addr} {kvs:List (List Key×V)} (e:H a=some (.dT kvs)):TyOf K H (.ref a) (.type "dict")
 | ins {a C dx:Addr} {fs:List (Str×V)} (e:H a=some (.ins C dx fs)) (cl:Cls K C) (ha:PySem.W.findIn K (.ref C) "__class__" = some (some (.builtin "object.__class__")))
  (hn:PySem.W.specialIn K (.builtin "object.__class__") "__get__" = some (some (.builtin "getset_descriptor.__get__"))) (htk:PySem.W.takesIn K (.builtin "object.__class__")=some true)
  (hm:PySem.W.mroIn K C (.type "object")=some true):TyOf K H (.ref a) (.ref C)
theorem z7A {x:V}{u t:Value}(I:Inv X pins σ H s) (rx:RelV x u) (ty:TyOf X.K H x t) (e:PySem.W.kitOne X.K t c=some b) (h:∀ tk,Q (.bool b) { s with toks:=tk }) :
 wpAny (model X.prog X.w) A (call (.builtin "isinstance") [u,c]) Q E s:=by
 cases ty with
 | non=>cases (show u=Value.none from rx);exact PySem.W.kia_one PySem.W.kitx_none I.kIn True.intro e (fun z=>nomatch z) h
 | bl y=>cases (show u=Value.bool y from rx);exact PySem.W.kia_one PySem.W.kitx_bool I.kIn True.intro e (fun z=>nomatch z) h
 | int i=>obtain ⟨t,q⟩:=(show ∃ t,u=Value.int i t from rx);cases q;exact PySem.W.kia_one PySem.W.kitx_int I.kIn True.intro e (fun z=>nomatch z) h
 | str y=>obtain ⟨t,q⟩:=(show ∃ t,u=Value.str y t from rx);cases q;exact PySem.W.kia_one PySem.W.kitx_str I.kIn True.intro e (fun z=>nomatch z) h
 | flt y=>obtain ⟨t,q⟩:=(show ∃ t,u=Value.float y t from rx);cases q;exact PySem.W.kia_one PySem.W.kitx_float I.kIn True.intro e (fun z=>nomatch z) h
 | @lst a xs ea =>
  cases (show u=Value.ref a from rx)
  obtain ⟨_,_,n,_,h1⟩:=(show ObjOk X.prog X.w H s.heap a (.lst xs) from I.hok a _ ea)
  exact PySem.W.kia_one PySem.W.kitx_list I.kIn ⟨_,h1,rfl⟩ e (fun z=>nomatch z) h
 | @frz a ob xs ea =>
  cases (show u=Value.ref a from rx)
  obtain ⟨_,_,_,n,_,h1⟩:=(show ObjOk X.prog X.w H s.heap a (.frz ob (.lst xs)) from I.hok a _ ea)
  exact PySem.W.kia_one PySem.W.kitx_list I.kIn ⟨_,h1,rfl⟩ e (fun z=>nomatch z) h
 | @tup a xs ea =>
  cases (show u=Value.ref a from rx)
  obtain ⟨_,_,_,p⟩:=(show ObjOk X.prog X.w H s.heap a (.tup xs) from I.hok a _ ea)
  obtain ⟨o,h1,h2,_⟩:=p
  exact PySem.W.kia_one PySem.W.kitx_tuple I.kIn ⟨o,h1,h2.1⟩ e (fun z=>nomatch z) h
 | @dK a kvs ea =>
  cases (show u=Value.ref a from rx)
  obtain ⟨_,_,vs,_,p⟩:=(show ObjOk X.prog X.w H s.heap a (.dK kvs) from I.hok a _ ea)
  obtain ⟨o,es,ep,h1,h2,_⟩:=p
  exact PySem.W.kia_one PySem.W.kitx_dict I.kIn ⟨o,h1,h2.1⟩ e (fun z=>nomatch z) h
 | @dT a kvs ea =>
  cases (show u=Value.ref a from rx)
  obtain ⟨_,_,xs,_,o,es,ep,h1,h2,_⟩:=(show ObjOk X.prog X.w H s.heap a (.dT kvs) from I.hok a _ ea)
  exact PySem.W.kia_one PySem.W.kitx_dict I.kIn ⟨o,h1,h2.1⟩ e (fun z=>nomatch z) h
 | @ins a C dx fs ea cl ha hn htk hm =>
  cases (show u=Value.ref a from rx)
  obtain ⟨mA,O,_⟩:=zk8 I.hok ea
  obtain ⟨od,J,_⟩:=O.look
  exact PySem.W.kia_one (PySem.W.kitx_own (cl.get _) cl.hd ha hn htk hm) I.kIn J e (fun z=>nomatch z) h
end
structure Room (k:Nat) (A:Around):Prop where
 hd:A.handled=none
 dp:A.depth+3 * k+5<recursionLimit
 un:A.units+16 * k+200<cLine
 gd:A.guards=some []
theorem Room.mono {j k:Nat}{A:Around}(r:Room k A) (h:j≤k):Room j A:=⟨r.hd,by have:=r.dp;omega,by have:=r.un;omega,r.gd⟩
theorem Room.deeper {k:Nat}{A:Around}(r:Room (k+1) A) (env:Env):Room k (A.deeper env) :=
 ⟨r.hd,by have:=r.dp;show A.depth+1+3 * k+5<_;omega,by have:=r.un;show A.units+3+16 * k+200<_;omega,r.gd⟩
theorem Room.depth {k:Nat}{A:Around}(r:Room k A):A.depth<recursionLimit:=by have:=r.dp;omega
theorem Room.units {k:Nat}{A:Around}(r:Room k A):A.units+64<cLine:=by have:=r.un;omega
def tNil:TA:=fun _ H Q=>Q [] H
def z4T (ta:TE) (tr:TA):TA:=fun σ H Q=>ta σ H fun x H1=>tr σ H1 fun xs H2=>Q (x :: xs) H2
section
variable {X:Cx}{e:Expr}{es:List Expr}{te:TE}{t:TA}{pos:Pos}
theorem z1P:PA X [] tNil:=fun _ _ _ _ H Q I h=>Calls.spliced_nil ⟨[],H,I,.nil,h⟩
theorem z0q (ha:PE X e te) (hr:PA X es t) (hs:starEach (e :: es) X.env=(false,eval e X.env) :: starEach es X.env:=by rfl):PA X (e :: es) (z4T te t):=by
 intro pos pins s σ H Q I h
 rw [hs]
 show wpAny _ _ (spliced ((false,eval e X.env) :: backTo pos (starEach es X.env))) _ _ s
 refine Calls.spliced_cons (thn (ha pins s σ H _ I h) fun u s1 ⟨x,H1,I1,r1,q1⟩=>?_)
 exact thn (hr pos pins s1 σ H1 _ I1 q1) fun us s2 ⟨xs,H2,I2,r2,q2⟩=>⟨x :: xs,H2,I2,.cons r1 r2,q2⟩
def tTup (t:TA):TE:=fun σ H Q=>t σ H fun xs H1=>xs.length≤sizeLine/\∀ p,H1 p=none->Q (.ref p) (upd H1 p (.tup xs))
def tLst (t:TA):TE:=fun σ H Q=>t σ H fun xs H1=>xs.length≤sizeLine/\∀ p,H1 p=none->Q (.ref p) (upd H1 p (.lst xs))
theorem zA1 {x1}(h:PA X es t):PE X (.Tuple es x1 pos) (tTup t):=by
 intro pins s σ H Q I hq
 refine wpAny_Tuple_spliced (thn (h pos pins s σ H _ I hq) fun us s1 ⟨xs,H1,I1,r,z,q⟩=>⟨by rw [← r.length];exact z,?_⟩)
 have hf:H1 s1.heap.objs.size=none:=I1.hok.fresh (Nat.le_refl _)
 refine ⟨.ref s1.heap.objs.size,upd H1 s1.heap.objs.size (.tup xs),I1.laid (t':=s1.toks) (fun b u e=>Heap.get?_push_of_some _ e) (Nat.le_refl _) ?_,rfl,q _ hf⟩
 exact ⟨z,us,r,⟨_,Heap.get?_push_size _ rfl,⟨rfl,rfl⟩,_,rfl⟩⟩
theorem zC4 (h:PA X es t):PE X (.List es pos) (tLst t):=by
 intro pins s σ H Q I hq
 refine wpAny_List_spliced (thn (h pos pins s σ H _ I hq) fun us s1 ⟨xs,H1,I1,r,z,q⟩=>⟨by rw [← r.length];exact z,?_⟩)
 have hf:H1 s1.heap.objs.size=none:=I1.hok.fresh (Nat.le_refl _)
 refine ⟨.ref s1.heap.objs.size,upd H1 s1.heap.objs.size (.lst xs),I1.laid (t':=s1.toks) (fun b u e=>Heap.get?_push_of_some _ e) (Nat.le_refl _) ?_,rfl,q _ hf⟩
 exact ⟨z,us,0,r,Heap.get?_push_size _ rfl⟩
end
abbrev Sp:=List V->Hp->VK->XK->Prop
abbrev CXT:=List Env->Hp->Shared->XK->Value->Shared->Prop
structure Env0 (P:Program) (w:World) (K:PySem.W.Frag) (mg:Str->Option Value) (base:Heap) (A:Around) (outer:List Env) (s:Shared) (H:Hp):Prop where
 frames:A.frames=some outer
 mod:Mod K mg base
 bs:∀ b o,base.get? b=some o->s.heap.get? b=some o/\H b=none
 bsz:base.objs.size≤s.heap.objs.size
 funs:s.heap.FunFrames base outer
 frf:∀ b∈frs outer,H b=none
 hok:HOk P w H s.heap
 bare:AllBare s.gens
def CE (outer:List Env) (P:Program) (w:World) (H:Hp) (s:Shared) (Q:VK) (u:Value) (s':Shared):Prop :=
 ∃ v H',s'.os=s.os/\AllBare s'.gens/\Un (frs outer) [] H H' s.heap s'.heap/\HOk P w H' s'.heap/\RelV v u/\Q v H'
def CR (CX:CXT) (outer:List Env) (P:Program) (w:World) (H:Hp) (s:Shared) (Q:VK) (E:XK) (r:Result) (s':Shared):Prop :=
 match r with
 | .ok (.ret u)=>CE outer P w H s Q u s'
 | .ok _=>False
 | .error e=>CX outer H s E e s'
structure FnOk (P:Program) (w:World) (K:PySem.W.Frag) (mg:Str->Option Value) (base:Heap) (CX:CXT) (k:Nat) (f:Addr) (fd:FuncData) (ps:List Str) (sp:Sp):Prop where
 len:∀ vs H Q E,sp vs H Q E->vs.length=ps.length
 run:∀ (A:Around) (outer:List Env) (s:Shared) (H:Hp) (args:Args) (us:List Value) (vs:List V) (Q:VK) (E:XK),Room k A->Env0 P w K mg base A outer s H->BindsTo s fd args (ps.zip us)->Vals vs us->sp vs H Q E ->
  codeAny (model P w) A (.call (.ref f) args) (CR CX outer P w H s Q E) s
theorem FnOk.imp {P:Program}{w:World}{K:PySem.W.Frag}{mg:Str->Option Value}{base:Heap}{CX:CXT}{k:Nat}{f:Addr}{fd:FuncData}{ps:List Str}{sp sp':Sp}(F:FnOk P w K mg base CX k f fd ps sp)
 (h:∀ vs H Q E,sp' vs H Q E->sp vs H Q E):FnOk P w K mg base CX k f fd ps sp' :=
 ⟨fun vs H Q E q=>F.len vs H Q E (h _ _ _ _ q),fun A outer s H args us vs Q E hr he hb hv hs=>F.run A outer s H args us vs Q E hr he hb hv (h _ _ _ _ hs)⟩
section
variable {X:Cx}{pins:List (Addr×Obj)}{σ:St}{H:Hp}{s s':Shared}
theorem Inv.env0 (I:Inv X pins σ H s):Env0 X.prog X.w X.K X.mg X.base X.A X.stack s H :=
 ⟨I.ok.frames,I.ok.mod,I.bs,Nat.le_trans I.ok.bsz I.sz,I.stack,I.stkFree,I.hok,I.bare⟩
theorem Inv.after {Q:VK}{u:Value}(I:Inv X pins σ H s) (h:CE X.stack X.prog X.w H s Q u s'):EP X pins σ Q u s':=by
 obtain ⟨v,H',os,bare,un,hok,r,q⟩:=h
 obtain ⟨hh,g,d,t,os'⟩:=s'
 obtain rfl:os'=s.os:=os
 exact ⟨v,H',I.call (h':=hh) (g':=g) (d':=d) (t':=t) (ch:=[]) un hok bare (fun b z=>absurd z (by simp)),r,q⟩
end
def zJ4 (sp:Sp) (dvs:List V) (E:XK) (t:TA):TE:=fun σ H Q=>t σ H fun vs H1=>sp (vs++dvs) H1 Q E
def Binds (K:PySem.W.Frag) (fd:FuncData) (ps:List Str) (ds:List Value):Prop :=
 ∀ (s:Shared) (us:List Value),K.In s.heap->(us++ds).length=ps.length->BindsTo s fd ⟨us,[]⟩ (ps.zip (us++ds))
theorem Binds.all {K:PySem.W.Frag}{fd:FuncData}{ps:List Str}(h:∀ us:List Value,us.length=ps.length->bindArgs fd ⟨us,[]⟩=pure (ps.zip us)):Binds K fd ps []:=fun s us _ hl=>by
 rw [List.append_nil] at hl ⊢
 exact .of_eq (h us hl)
def z6o (CX:CXT) (X:Cx) (E:XK):Prop:=∀ (pins:List (Addr×Obj)) (σ:St) (H:Hp) (s:Shared) (e:Value) (s':Shared),Inv X pins σ H s->CX X.stack H s E e s'->X.xe e s'
section
variable {X:Cx}{CX:CXT}{k:Nat}{f C:Addr}{fd:FuncData}{ps:List Str}{sp:Sp}{dvs:List V}{ds:List Value}{E:XK}{x m:Str}{p pos apos:Pos}{e o:Expr}{es:List Expr}{ta:TE}{t:TA}
theorem zx6 {pins:List (Addr×Obj)}{σ:St}{H:Hp}{s:Shared}{Q:VK}{us:List Value}{vs:List V}(F:FnOk X.prog X.w X.K X.mg X.base CX k f fd ps sp) (hr:Room k X.A) (hb:Binds X.K fd ps ds) (hd:Vals dvs ds) (hx:z6o CX X E)
 (I:Inv X pins σ H s) (r:Vals vs us) (h:sp (vs++dvs) H Q E):wpAny (model X.prog X.w) X.A (call (.ref f) us) (EP X pins σ Q) X.xe s:=by
 have r2:Vals (vs++dvs) (us++ds):=r.append hd
 have hl:(us++ds).length=ps.length:=by rw [← r2.length];exact F.len _ _ _ _ h
 refine wpAny_call (codeAny_mono (F.run X.A X.stack s H ⟨us,[]⟩ (us++ds) (vs++dvs) Q E hr I.env0 (hb s us I.kIn hl) r2 h) fun r s' hq=>?_)
 cases r with
 | error e=>exact hx pins σ H s e s' I hq
 | ok fl =>
  cases fl with
  | ret u=>exact I.after hq
  | next=>exact False.elim hq
  | brk=>exact False.elim hq
  | cont=>exact False.elim hq
theorem z8g (F:FnOk X.prog X.w X.K X.mg X.base CX k f fd ps sp) (hr:Room k X.A) (hg:Gl X x) (hm:X.mg x=some (.ref f)) (hk:PySem.W.keepIn X.K (.ref f)=true) (hb:Binds X.K fd ps ds) (hd:Vals dvs ds) (hx:z6o CX X E)
 (ha:PA X (e :: es) t) (hdb:(x == ("__debug__":Str))=false:=by decide) (he:starEach (e :: es) X.env=(false,eval e X.env) :: starEach es X.env:=by rfl) (hpl:(backTo pos (starEach es X.env)).any (·.1)=false:=by rfl) :
 PE X (.Call (.Name x p) (e :: es) [] pos) (zJ4 sp dvs E t):=by
 intro pins s σ H Q I h
 refine wpAny_Call_Name_kw (z3a I hg hm ?_ hdb)
 refine PySem.W.callWith_K (h₀:=X.base) I.ok.mod.kin hk (thn (ha pos pins s σ H _ I h) fun us s1 ⟨vs,H1,I1,r,q⟩=>⟨I1.kIn,?_⟩) he hpl
 exact zx6 F hr hb hd hx I1 r q
end
section
variable {X:Cx}{CX:CXT}{k:Nat}{f C:Addr}{fd:FuncData}{ps ks:List Str}{sp:Sp}{E:XK}{x m:Str}{p pos apos kpos:Pos}{e o:Expr}{es:List Expr}{kws:List Keyword}{te ta:TE}{t tk:TA}{nm:Option Str}
variable {g:List Value->List Value->List Value}{gV:List V->List V->List V}
end
structure FnScope (N P:List Str) (sc:Scope):Prop where
 kind:sc.kind=.function
 co:sc.isCoroutine=false
 gen:sc.isGenerator=false
 nd:N.Nodup
 pre:N.take P.length=P
 par:∀ x∈P,sc.names.lookup x=some .local∨sc.names.lookup x=some .cell
 nofree:∀ y∈sc.names,y.2≠.free
theorem z4x {kindOf:Str->Option NameKind}{x:Str}:∀ {binds:List (Str×Value)}{m:Str->Option Value},(∀ v,(x,v)∉binds)->bindL kindOf binds m x=m x
 | [],_,_=>rfl
 | (n,v) :: r,m,h=>by
  unfold bindL
  rw [z4x fun w hw=>h w (List.mem_cons_of_mem _ hw)]
  split
  ·have:x≠n:=by rintro rfl;exact h v List.mem_cons_self
   simp [this]
  ·rfl
theorem z4I {kindOf:Str->Option NameKind}{x:Str}:∀ {binds:List (Str×Value)}{m:Str->Option Value},(∀ v,(x,v)∉binds)->bindC kindOf binds m x=m x
 | [],_,_=>rfl
 | (n,v) :: r,m,h=>by
  unfold bindC
  rw [z4I fun w hw=>h w (List.mem_cons_of_mem _ hw)]
  split
  ·rfl
  ·have:x≠n:=by rintro rfl;exact h v List.mem_cons_self
   simp [this]
theorem z4K {kindOf:Str->Option NameKind}{x:Str}{v:Value}:∀ {P:List Str}{vs:List Value}{i:Nat}{m:Str->Option Value},P.Nodup->P[i]?=some x->vs[i]?=some v->kindOf x=some .local ->
 bindL kindOf (P.zip vs) m x=some v
 | [],_,_,_,_,h,_,_=>by simp at h
 | _ :: _,[],_,_,_,_,h,_=>by simp at h
 | p :: P,w :: vs,0,m,nd,h1,h2,hk=>by
  simp at h1 h2;subst h1;subst h2
  show bindL kindOf ((p,w) :: P.zip vs) m p=_
  unfold bindL
  rw [z4x fun v hv=>(List.nodup_cons.mp nd).1 (List.of_mem_zip hv).1,if_pos hk]
  simp
 | p :: P,w :: vs,i+1,m,nd,h1,h2,hk=>by
  show bindL kindOf ((p,w) :: P.zip vs) m x=_
  unfold bindL
  exact z4K (i:=i) (List.nodup_cons.mp nd).2 (by simpa using h1) (by simpa using h2) hk
theorem z4t {kindOf:Str->Option NameKind}{x:Str}{v:Value}:∀ {P:List Str}{vs:List Value}{i:Nat}{m:Str->Option Value},P.Nodup->P[i]?=some x->vs[i]?=some v->kindOf x≠some .local ->
 bindC kindOf (P.zip vs) m x=some v
 | [],_,_,_,_,h,_,_=>by simp at h
 | _ :: _,[],_,_,_,_,h,_=>by simp at h
 | p :: P,w :: vs,0,m,nd,h1,h2,hk=>by
  simp at h1 h2;subst h1;subst h2
  show bindC kindOf ((p,w) :: P.zip vs) m p=_
  unfold bindC
  rw [z4I fun v hv=>(List.nodup_cons.mp nd).1 (List.of_mem_zip hv).1,if_neg hk]
  simp
 | p :: P,w :: vs,i+1,m,nd,h1,h2,hk=>by
  show bindC kindOf ((p,w) :: P.zip vs) m x=_
  unfold bindC
  exact z4t (i:=i) (List.nodup_cons.mp nd).2 (by simpa using h1) (by simpa using h2) hk
def start (N:List Str) (vs:List V):St:=vs.map some++List.replicate (N.length - vs.length) none
def cxOf (CX:CXT) (P:Program) (w:World) (K:PySem.W.Frag) (mg:Str->Option Value) (base:Heap) (N:List Str) (qual:Str) (scope:Scope) (f:Addr) (cd:Value) (A:Around) (outer:List Env) (s:Shared) (H:Hp) (E:XK):Cx where
 prog:=P
 w:=w
 K:=K
 mg:=mg
 base:=base
 A:=A.deeper (envOfC qual scope s.heap.objs.size f cd)
 N:=N
 s₀:=s
 H₀:=H
 env:=envOfC qual scope s.heap.objs.size f cd
 outer:=outer
 stack:=envOfC qual scope s.heap.objs.size f cd :: outer
 ex:=[]
 calm:=true
 fn:=fun _=>true
 pn:=[]
 xe:=fun e s'=>wpAny (model P w) (A.deeper (envOfC qual scope s.heap.objs.size f cd)) (leaving (envOfC qual scope s.heap.objs.size f cd) e) (fun _ s''=>CX outer H s E e s'') (fun e' s''=>CX outer H s E e' s'') s'
theorem z6R {sc:Scope}{n:Nat}{x:Str}(h:sc.names.lookup x=some .cell):∃ c,(cellsFrom n sc.names []).lookup x=some c:=by
 have q:=PySem.W.cellsFrom_some sc.names n [] (.inl h)
 exact Option.isSome_iff_exists.mp q
theorem z8K {CX:CXT}{P:Program}{w:World}{K:PySem.W.Frag}{mg:Str->Option Value}{base:Heap}{N ps:List Str}{qual:Str}{scope:Scope}{f:Addr}{cd:Value}{A:Around}{outer:List Env}{s s1:Shared}{H:Hp}{E:XK}{us:List Value}{vs:List V}
 (S:FnScope N ps scope) (hd:A.handled=none) (e0:Env0 P w K mg base A outer s H) (hl:vs.length=ps.length) (r:Vals vs us)
 (x:InCallC s s.heap.objs.size (bindL (envOfC qual scope s.heap.objs.size f cd).kindOf (ps.zip us) fun _=>none) (cellsFrom (s.heap.objs.size+1) scope.names []) (bindC (envOfC qual scope s.heap.objs.size f cd).kindOf (ps.zip us) fun _=>none) s1) :
 Inv (cxOf CX P w K mg base N qual scope f cd A outer s H E) [] (start N vs) H s1:=by
 have hpl:ps.length≤N.length:=by have:=congrArg List.length S.pre;rw [List.length_take] at this;omega
 obtain ⟨h1,tk,rfl,hk⟩:=x.done
 have noA:∀ b:Addr,b∉(cxOf CX P w K mg base N qual scope f cd A outer s H E).ex:=fun b z=>absurd (show b∈([]:List Addr) from z) (by simp)
 refine ⟨⟨e0.mod,S.kind,rfl,rfl,Nat.le_refl _,fun y z c h1 h2=>?_,fun y hy=>?_,fun y c _ h=>?_,fun _=>hd,Around.frames_deeper e0.frames,.inr ⟨rfl,rfl⟩,fun b z=>absurd z (noA b),e0.bs,e0.bsz,fun b _ _=>noA b,fun b z=>absurd z (noA b),e0.funs,e0.frf⟩,
  rfl,e0.bare,Un.kept hk,⟨_,x.toInCall.ns,fun i y v h1 h2 h3=>?_⟩,fun y c h=>⟨_,x.cell y c h⟩,e0.hok.fresh (Nat.le_refl _),fun y c h=>?_,fun p hp=>absurd (show p∈([]:List (Addr×Obj)) from hp) (by simp),e0.hok.kept hk,?_⟩
 ·exact name_of_addr x.apart (PySem.mem_of_lookup h1) (PySem.mem_of_lookup h2)
 ·have hy:scope.names.lookup y=some .cell∨scope.names.lookup y=some .free:=hy
  rcases hy with hy | hy
  ·exact z6R hy
  ·exact absurd rfl (S.nofree _ (PySem.mem_of_lookup hy))
 ·exact Nat.le_of_lt (x.above y c (PySem.mem_of_lookup h))
 ·have hi:i<vs.length:=by
   unfold start at h2
   by_cases hi:i<vs.length
   ·exact hi
   ·rw [List.getElem?_append_right (by simpa using hi)] at h2
    rw [List.getElem?_replicate] at h2
    split at h2<;>cases h2
  have ha:vs[i]?=some v:=by
   unfold start at h2
   rw [List.getElem?_append_left (by simpa using hi),List.getElem?_map] at h2
   cases e:vs[i]? with
   | none=>rw [e] at h2;cases h2
   | some a=>rw [e] at h2;cases h2;rfl
  obtain ⟨u,hu,rv⟩:=r.get ha
  have hp:ps[i]?=some y:=by
   rw [← S.pre,List.getElem?_take_of_lt (by omega)];exact h1
  have ndP:ps.Nodup:=by rw [← S.pre];exact S.nd.sublist (List.take_sublist _ _)
  refine ⟨u,rv,?_⟩
  rcases S.par y (List.mem_of_getElem? hp) with k | k
  ·exact .inl ⟨k,z4K ndP hp hu k⟩
  ·obtain ⟨c,e⟩:=z6R (n:=s.heap.objs.size+1) k
   refine .inr ⟨.inl k,c,e,?_⟩
   have q:=x.cell y c e
   rw [z4t ndP hp hu (by show scope.names.lookup y≠_;rw [k];decide)] at q
   exact q
 ·exact e0.hok.fresh (Nat.le_of_lt (x.above y c (PySem.mem_of_lookup h)))
 ·unfold start
  show _=N.length
  rw [List.length_append,List.length_map,List.length_replicate]
  omega
theorem zk7 {CX:CXT}{P:Program}{w:World}{K:PySem.W.Frag}{mg:Str->Option Value}{base:Heap}{k:Nat}{f:Addr}{name qual:Str}{params:Arguments}{body:List Stmt}{scope:Scope}{dV kV doc pm cdv ct oc:Value}{an od:Option Addr}
 {osl:Array (Option Value)} {N ps:List Str} {sp:Sp} (lk:K.lookup f=some ⟨oc,od,.func (PySem.W.fnOf name qual params body scope dV kV doc pm an cdv ct),osl⟩) (hcd:PySem.W.codeIn K cdv qual=true) (S:FnScope N ps scope)
 (len:∀ vs H Q E,sp vs H Q E->vs.length=ps.length)
 (hbody:∀ (A:Around) (outer:List Env) (s:Shared) (H:Hp) (vs:List V) (Q:VK) (E:XK),Room k (A.deeper (envOfC qual scope s.heap.objs.size f cdv))->sp vs H Q E ->
  ∃ t,PSs (cxOf CX P w K mg base N qual scope f cdv A outer s H E) body t/\t { nx:=fun _ H'=>Q .non H',rt:=Q } (start N vs) H) :
 FnOk P w K mg base CX (k+1) f (PySem.W.fnOf name qual params body scope dV kV doc pm an cdv ct) ps sp:=by
 refine ⟨len,fun A outer s H args us vs Q E hr e0 hb r hsp=>?_⟩
 have hl:=len _ _ _ _ hsp
 have KX:K.In s.heap:=e0.mod.kin.keeps fun b o e=>(e0.bs b o e).1
 have lim:s.heap.NoLimit:=e0.mod.nolimit.keeps fun b o e=>(e0.bs b o e).1
 have hkind:∀ y∈ps.zip us,scope.names.lookup y.1=some .local∨(scope.names.lookup y.1=some .cell/\((cellsFrom (s.heap.objs.size+1) scope.names []).lookup y.1).isSome=true):=fun ⟨n,v⟩ hy=>by
  rcases S.par n (List.of_mem_zip hy).1 with q | q
  ·exact .inl q
  ·exact .inr ⟨q,PySem.W.cellsFrom_some _ _ _ (.inl q)⟩
 refine codeAny_call_function hr.depth (KX _ _ lk) rfl S.co S.gen rfl (PySem.W.codeRec_of KX hcd) (hb _ _ _ _ ?_)
 refine wpAny_newFunctionEnv_cells S.kind hkind fun env he s1 x=>?_
 subst he
 refine ⟨lim.keeps x.toInCall.keep,codeAny_func ?_⟩
 obtain ⟨t,ht,hq⟩:=hbody A outer s H vs Q E (hr.deeper _) hsp
 have I:Inv (cxOf CX P w K mg base N qual scope f cdv A outer s H E) [] (start N vs) H s1:=z8K S hr.hd e0 hl r x
 refine wpAny_mono (ht [] s1 (start N vs) H _ I hq) (fun fl s' hs=>?_) fun e s' hs=>hs
 have fin:∀ {σ':St} {H':Hp} {v:V} {u:Value},Inv (cxOf CX P w K mg base N qual scope f cdv A outer s H E) [] σ' H' s'->RelV v u->Q v H'->CE outer P w H s Q u s' :=
  fun {σ' H' v u} J rv q=>⟨v,H',J.os,J.bare,J.base,J.hok,rv,q⟩
 cases fl with
 | ret u =>
  obtain ⟨v,σ',H',J,rv,q⟩:=hs
  exact fin J rv q
 | next =>
  obtain ⟨σ',H',J,q⟩:=hs
  exact fin (v:=V.non) (u:=Value.none) J rfl q
 | brk =>
  obtain ⟨_,_,_,q⟩:=hs
  exact False.elim q
 | cont =>
  obtain ⟨_,_,_,q⟩:=hs
  exact False.elim q
section
variable {X:Cx}{x:Str}{p pos:Pos}{e:Expr}{es:List Expr}{t:TA}{id T:String}{r:List V->Hp->VK->Prop}
def tCB (r:List V->Hp->VK->Prop) (t:TA):TE:=fun σ H Q=>t σ H fun vs H1=>r vs H1 Q
theorem z0J (hc:z1Q X (.builtin id) r) (hg:Gl X x) (hm:X.mg x=none) (hv:bootBuiltins x=some (.builtin id)) (ha:PA X (e :: es) t) (hn:x≠"__name__":=by decide) (hdb:(x == ("__debug__":Str))=false:=by decide)
 (he:starEach (e :: es) X.env=(false,eval e X.env) :: starEach es X.env:=by rfl) (hpl:(backTo pos (starEach es X.env)).any (·.1)=false:=by rfl):PE X (.Call (.Name x p) (e :: es) [] pos) (tCB r t):=by
 intro pins s σ H Q I h
 refine wpAny_Call_Name_kw (z4r I hg hm hv ?_ hn hdb)
 exact PyProof.Rows.callWith_builtin1 (thn (ha pos pins s σ H _ I h) fun us s1 ⟨vs,H1,I1,r1,q1⟩=>hc pins s1 σ H1 vs us Q I1 r1 q1) he hpl
theorem z1M (hc:z1Q X (.type T) r) (hg:Gl X x) (hm:X.mg x=none) (hv:bootBuiltins x=some (.type T)) (ha:PA X (e :: es) t) (hn:x≠"__name__":=by decide) (hdb:(x == ("__debug__":Str))=false:=by decide)
 (he:starEach (e :: es) X.env=(false,eval e X.env) :: starEach es X.env:=by rfl) (hpl:(backTo pos (starEach es X.env)).any (·.1)=false:=by rfl):PE X (.Call (.Name x p) (e :: es) [] pos) (tCB r t):=by
 intro pins s σ H Q I h
 refine wpAny_Call_Name_kw (z4r I hg hm hv ?_ hn hdb)
 exact PyProof.Rows.callWith_type1 (thn (ha pos pins s σ H _ I h) fun us s1 ⟨vs,H1,I1,r1,q1⟩=>hc pins s1 σ H1 vs us Q I1 r1 q1) he hpl
end
end L2
namespace HT
open PySem PyProof.Rows
section
open PySem.SeqAt
open PySem.AutoSeq1 (wpAny_loadPart')
open PySem.MeetsSeq PySem.MeetsSeq2 PySem.MeetsSeq3
end
section
variable {prog:Program}{w:World}{A:Around}{E:Value->Shared->Prop}{s:Shared}
theorem cat_tup {t b:Addr}{vs ws:List Value}{Q:Value->Shared->Prop}(ht:IsTup s.heap t vs.toArray) (hb:IsTup s.heap b ws.toArray) (hv:vs≠[])
 (h1:ws=[]->Q (.ref t) s) (h2:ws≠[]->Q (.ref s.heap.objs.size) { s with heap:=s.heap.push { cls:=.type "tuple",data:=.seq (vs++ws).toArray } })
 (hsz:vs.length+ws.length≤sizeLine):wpAny (model prog w) A (binaryOp .Add (.ref t) (.ref b)) Q E s:=by
 obtain ⟨⟨cls,dd,data,sl⟩,ho,hc,n,hd⟩:=id ht
 obtain ⟨⟨cls2,dd2,data2,sl2⟩,ho2,hc2,n2,hd2⟩:=id hb
 simp only at hc hd hc2 hd2
 subst hc hd hc2 hd2
 have e:vs.toArray++ws.toArray=(vs++ws).toArray:=by simp
 by_cases hw:ws=[]
 ·exact concat_meets ⟨_,ho,rfl⟩ ⟨_,ho2,rfl⟩ noFill_tuple_add seq_tuple_add PySem.F.slot_tuple_add PySem.F.entry_tuple_add (PySem.F.args_tuple_add_2 _ _)
   (tuple_addW1 t b vs.toArray ws.toArray n n2 dd dd2 sl sl2 (by simpa using hv) (by simp [hw])) ⟨ho,ho2,h1 hw⟩
 ·refine concat_meets ⟨_,ho,rfl⟩ ⟨_,ho2,rfl⟩ noFill_tuple_add seq_tuple_add PySem.F.slot_tuple_add PySem.F.entry_tuple_add (PySem.F.args_tuple_add_2 _ _)
   (tuple_addW2 t b vs.toArray ws.toArray n n2 dd dd2 sl sl2 (by simpa using hv) (by simpa using hw) (by rw [List.size_toArray,List.size_toArray];exact hsz)) ⟨ho,ho2,?_⟩
  rw [e]
  exact h2 hw
def sIx (n d:Nat):Option Int->Nat
 | none=>d
 | some v=>if v<0 then (v+(n:Int)).toNat else min v.toNat n
theorem sIx_none (n d:Nat):sIx n d none=d:=rfl
theorem sIx_nat (n d k:Nat):sIx n d (some (k:Int))=min k n:=by
 show (if (k:Int)<0 then ((k:Int)+(n:Int)).toNat else min (k:Int).toNat n)=min k n
 rw [if_neg (by omega),Int.toNat_natCast]
theorem zx4 (n d:Nat) (hd:d≤n) (o:Option Int):sIx n d o≤n:=by
 cases o with
 | none=>exact hd
 | some v =>
  show (if v<0 then (v+(n:Int)).toNat else min v.toNat n)≤n
  by_cases hv:v<0
  ·rw [if_pos hv];omega
  ·rw [if_neg hv];exact Nat.min_le_right _ _
theorem z99 (v:Int) (n d:Nat):(if v<0 then max (v+(n:Int)) 0 else min v (n:Int))=((sIx n d (some v):Nat):Int):=by
 show (if v<0 then max (v+(n:Int)) 0 else min v (n:Int))=(((if v<0 then (v+(n:Int)).toNat else min v.toNat n):Nat):Int)
 by_cases hv:v<0
 ·simp only [if_pos hv];omega
 ·simp only [if_neg hv];omega
theorem z7c (lo hi:Option Int) (n:Nat):Builtin.Slice.sliceAdjust lo hi 1 (n:Int)=(((sIx n 0 lo:Nat):Int),((sIx n n hi:Nat):Int)):=by
 have h1:¬ ((1:Int)<0):=by omega
 unfold Builtin.Slice.sliceAdjust
 simp only [h1,if_false]
 refine Prod.ext ?_ ?_
 ·cases lo with
  | none=>rfl
  | some v=>exact z99 v n 0
 ·cases hi with
  | none=>rfl
  | some v=>exact z99 v n n
theorem z6V (i j:Nat):Builtin.Slice.slicePlaces (i:Int) (j:Int) 1=j - i:=by
 unfold Builtin.Slice.slicePlaces
 have h1:(1:Int) > 0:=by omega
 simp only [h1,if_true,Int.ediv_one]
 split<;>omega
theorem z3J {v:Value}{o:Option Int}{Q:Option Int->Shared->Prop}(p:IsPart v o) (h:Q o s):wpAny (model prog w) A (Builtin.Slice.slicePartIndex v) Q E s:=by
 cases p with
 | none=>exact slicePart_none h
 | int i t=>exact slicePart_int h
theorem sliceApplied_gen {sl:Addr}{vl vu:Value}{lo hi:Option Int}{n:Nat}{Q:Int×Int×Nat->Shared->Prop}(hs:s.heap.IsSliceOf sl vl vu .none) (pl:IsPart vl lo) (pu:IsPart vu hi)
 (h:Q (((sIx n 0 lo:Nat):Int),1,sIx n n hi - sIx n 0 lo) s):wpAny (model prog w) A (Builtin.Slice.sliceApplied (.ref sl) (pure (n:Int))) Q E s:=by
 obtain ⟨os,hos,hcs,hds⟩:=id hs
 unfold Builtin.Slice.sliceApplied Builtin.Slice.sliceFields
 refine wpAny_bind (wpAny_bind (wpAny_field hos hds (x:=vl) rfl (wpAny_bind (wpAny_field hos hds (x:=vu) rfl (wpAny_bind (wpAny_field hos hds (x:=.none) rfl (wpAny_pure ?_)))))))
 refine wpAny_bind (slicePart_none ?_)
 show wpAny _ _ (if ((1:Int) == 0)=true then _ else _) _ _ s
 rw [if_neg (by decide)]
 refine wpAny_bind (z3J pl (wpAny_bind (z3J pu (wpAny_bind (wpAny_pure ?_)))))
 show wpAny _ _ (match Builtin.Slice.sliceAdjust lo hi 1 (n:Int) with | (lo,hi)=>pure (lo,(1:Int),Builtin.Slice.slicePlaces lo hi 1)) _ _ s
 rw [z7c lo hi n]
 show wpAny _ _ (pure (((sIx n 0 lo:Nat):Int),(1:Int),Builtin.Slice.slicePlaces ((sIx n 0 lo:Nat):Int) ((sIx n n hi:Nat):Int) 1)) _ _ s
 rw [z6V]
 exact wpAny_pure h
theorem z9p (xs:Array Value) (i k:Nat):((List.range k).filterMap fun (m:Nat)=>xs[((i:Int)+(m:Int) * 1).toNat]?).toArray=((xs.toList.drop i).take k).toArray:=by
 have e:(fun (m:Nat)=>xs[((i:Int)+(m:Int) * 1).toNat]?)=fun m=>xs[i+m]?:=by
  funext m
  have:((i:Int)+(m:Int) * 1).toNat=i+m:=by omega
  rw [this]
 rw [e]
 have:=pick_run xs i k
 rw [List.filterMap_map] at this
 have e2:((fun x=>xs[x]?) ∘ fun x=>i+x)=fun m=>xs[i+m]?:=rfl
 rw [e2] at this
 rw [this]
theorem getItem_tuple_cut {t sl:Addr}{items:Array Value}{vl vu:Value}{lo hi:Option Int}{Q:Value->Shared->Prop}(ht:IsTup s.heap t items) (hs:s.heap.IsSliceOf sl vl vu .none) (pl:IsPart vl lo) (pu:IsPart vu hi)
 (hw:¬ (sIx items.size 0 lo=0/\sIx items.size items.size hi=items.size))
 (h:Q (.ref s.heap.objs.size) { s with heap:=s.heap.push { cls:=.type "tuple",data:=.seq ((items.toList.drop (sIx items.size 0 lo)).take (sIx items.size items.size hi - sIx items.size 0 lo)).toArray } })
 (hsz:items.size≤sizeLine):wpAny (model prog w) A (getItem (.ref t) (.ref sl)) Q E s:=by
 have htake:sizeOk (.seq ((items.toList.drop (sIx items.size 0 lo)).take (sIx items.size items.size hi - sIx items.size 0 lo)).toArray):=by
  show ((items.toList.drop (sIx items.size 0 lo)).take (sIx items.size items.size hi - sIx items.size 0 lo)).toArray.size≤sizeLine
  rw [List.size_toArray,List.length_take,List.length_drop,Array.length_toList]
  omega
 have hj:sIx items.size items.size hi≤items.size:=zx4 _ _ (Nat.le_refl _) hi
 obtain ⟨os,hos,hcs,hds⟩:=id hs
 have hTs:s.TypeIs (.ref sl) "slice":=⟨os,hos,hcs⟩
 unfold getItem
 try with_reducible refine wpAny_holding ?_
 first | refine wpAny_bind (wpAny_pure ?_) | skip
 refine wpAny_bind (wpAny_sequenceKey ht.typeIs (by decide) ?_)
 refine wpAny_bind (wpAny_callSpecial?_slot (name:=Str.ofString "__getitem__") ht.typeIs PyProof.Rows.slot_tuple_getitem
  (wpAny_call_entry PyProof.Rows.slot_tuple_getitem ht.typeIs entry_tuple_getitem ?_ (args_tuple_getitem _ _)))
 show wpAny _ _ (Builtin.Tuple.tupleItemsOf (.ref t) >>= _) _ _ s
 refine wpAny_bind (tupleItemsOf_ ht ?_)
 refine wpAny_bind (wpAny_typeOf hTs ?_)
 rw [if_pos (by decide)]
 refine wpAny_bind (sliceApplied_gen hs pl pu ?_)
 have hno:¬ ((((sIx items.size 0 lo:Nat):Int) == 0 && (1:Int) == 1 && (sIx items.size items.size hi - sIx items.size 0 lo) == items.size)=true):=by
  intro q
  rw [Bool.and_eq_true,Bool.and_eq_true] at q
  have q1:((sIx items.size 0 lo:Nat):Int)=0:=eq_of_beq q.1.1
  have q2:sIx items.size items.size hi - sIx items.size 0 lo=items.size:=eq_of_beq q.2
  exact hw ⟨by omega,by omega⟩
 show wpAny _ _ (if (((sIx items.size 0 lo:Nat):Int) == 0 && (1:Int) == 1 && (sIx items.size items.size hi - sIx items.size 0 lo) == items.size)=true then _ else _) _ _ s
 rw [if_neg hno,z9p]
 first
  | exact wpAny_bind (m:=Builtin.Tuple.tupleExact _) (wpAny_newObj_type (wpAny_pure ⟨_,rfl,wpAny_pure h⟩) htake)
  | exact wpAny_bind (m:=Builtin.Tuple.tupleExact _) (wpAny_newObj_type (wpAny_bind (wpAny_pure (wpAny_pure ⟨_,rfl,wpAny_pure h⟩))) htake)
  | exact wpAny_bind (wpAny_bind (m:=Builtin.Tuple.tupleExact _) (wpAny_newObj_type (wpAny_pure (wpAny_pure ⟨_,rfl,wpAny_pure h⟩)) htake))
  | exact wpAny_bind (wpAny_bind (m:=Builtin.Tuple.tupleExact _) (wpAny_newObj_type (wpAny_pure ⟨_,rfl,wpAny_pure h⟩) htake))
end
end HT
namespace L2
open PySem PySem.Spec PyProof.Rows
abbrev TO:=St->Hp->(Option Int->Hp->Prop)->Prop
def PO (X:Cx) (e:Option Expr) (t:TO):Prop :=
 ∀ (pins:List (Addr×Obj)) (s:Shared) (σ:St) (H:Hp) (Q:Option Int->Hp->Prop),Inv X pins σ H s->t σ H Q ->
  wpAny (model X.prog X.w) X.A (evalPart e X.env) (fun u s'=>∃ o H',Inv X pins σ H' s'/\IsPart u o/\Q o H') X.xe s
def zi1:TO:=fun _ H Q=>Q none H
def zJ1 (t:TE):TO:=fun σ H Q=>t σ H fun x H1=>∃ i,x=.int i/\Q (some i) H1
theorem intsAre_of {ns:List Int}:∀ {us:List Value},Vals (ns.map V.int) us->IntsAre us ns:=by
 induction ns with
 | nil=>intro us r;rw [List.map_nil] at r;cases r;exact .nil
 | cons n ns ih =>
  intro us r
  rw [List.map_cons] at r
  cases r with
  | cons r1 r2 =>
   obtain ⟨t,e⟩:=r1
   subst e
   exact .cons n t (ih r2)
section
variable {X:Cx}{e:Expr}{te:TE}{lo hi:Option Expr}{tl th:TO}{pos p2:Pos}
theorem zl4:PO X none zi1:=by
 intro pins s σ H Q I h
 rw [evalPart_none]
 exact wpAny_pure ⟨none,H,I,.none,h⟩
theorem zi0 (h:PE X e te):PO X (some e) (zJ1 te):=by
 intro pins s σ H Q I hw
 rw [evalPart_some]
 refine thn (h pins s σ H _ I hw) fun u s1 ⟨x,H1,I1,r1,q1⟩=>?_
 obtain ⟨i,rfl,q⟩:=q1
 obtain ⟨t,rfl⟩:=r1
 exact ⟨some i,H1,I1,.int i t,q⟩
def SlR (X:Cx) (r:V->Option Int->Option Int->Hp->VK->Prop):Prop :=
 ∀ (pins:List (Addr×Obj)) (s:Shared) (σ:St) (H:Hp) (x:V) (v vl vu:Value) (lo hi:Option Int) (sl:Addr) (Q:VK),Inv X pins σ H s->RelV x v->s.heap.IsSliceOf sl vl vu .none->IsPart vl lo->IsPart vu hi->r x lo hi H Q ->
  ∃ T id,typeLookup (.type T) "__getitem__" = pure (some (.builtin id))/\s.TypeIs v T/\wpAny (model X.prog X.w) X.A (getItem v (.ref sl)) (EP X pins σ Q) X.xe s
theorem SlR.or {r r':V->Option Int->Option Int->Hp->VK->Prop}(h:SlR X r) (h':SlR X r'):SlR X (fun x lo hi H Q=>r x lo hi H Q∨r' x lo hi H Q):=by
 intro pins s σ H x v vl vu lo hi sl Q I rx hs pl pu q
 rcases q with q | q
 ·exact h pins s σ H x v vl vu lo hi sl Q I rx hs pl pu q
 ·exact h' pins s σ H x v vl vu lo hi sl Q I rx hs pl pu q
def tSl (r:V->Option Int->Option Int->Hp->VK->Prop) (te:TE) (tl th:TO):TE:=fun σ H Q=>te σ H fun x H1=>tl σ H1 fun l H2=>th σ H2 fun u H3=>r x l u H3 Q
theorem z9O {r:V->Option Int->Option Int->Hp->VK->Prop}(hr:SlR X r) (he:PE X e te) (hl:PO X lo tl) (hu:PO X hi th):PE X (.Subscript e (.Slice lo hi none p2) pos) (tSl r te tl th):=by
 intro pins s σ H Q I h
 refine Subscript_ (thn (he pins s σ H _ I h) fun v s1 ⟨x,H1,I1,r1,q1⟩=>?_)
 refine wpAny_Slice (thn (hl pins s1 σ H1 _ I1 q1) fun vl s2 ⟨l,H2,I2,pl,q2⟩=>thn (hu pins s2 σ H2 _ I2 q2) fun vu s3 ⟨u,H3,I3,pu,q3⟩=>?_)
 rw [evalPart_none]
 refine wpAny_pure ?_
 have I4:Inv X pins σ H3 { s3 with heap:=s3.heap.push { cls:=.type "slice",data:=.fields #[vl,vu,.none] } }:=I3.kept (t':=s3.toks) fun b ob q=>Heap.get?_push_of_some _ q
 obtain ⟨T,id,hT,ht,hg⟩:=hr pins { s3 with heap:=s3.heap.push { cls:=.type "slice",data:=.fields #[vl,vu,.none] } } σ H3 x v vl vu l u s3.heap.objs.size Q I4 r1 (Heap.IsSliceOf.new ..) pl pu q3
 show wpAny (model X.prog X.w) X.A (subscriptTail e (.Slice lo hi none p2) v (.ref s3.heap.objs.size)) (EP X pins σ Q) X.xe { s3 with heap:=s3.heap.push { cls:=.type "slice",data:=.fields #[vl,vu,.none] } }
 exact tail_any (ops:=[.ref s3.heap.objs.size,v]) ht hT hg (by with_unfolding_all rfl)
def cutV (xs:List V) (lo hi:Option Int):List V:=(xs.drop (HT.sIx xs.length 0 lo)).take (HT.sIx xs.length xs.length hi - HT.sIx xs.length 0 lo)
theorem z3l (xs:List V) (lo hi:Option Int):(cutV xs lo hi).length≤xs.length:=by
 unfold cutV
 rw [List.length_take,List.length_drop]
 omega
def rSlT (K:PySem.W.Frag):V->Option Int->Option Int->Hp->VK->Prop:=fun x lo hi H Q=>∃ a xs,x=.ref a/\SqT K H a xs /\
 ¬ (HT.sIx xs.length 0 lo=0/\HT.sIx xs.length xs.length hi=xs.length)/\∀ p,H p=none->Q (.ref p) (upd H p (.tup (cutV xs lo hi)))
theorem sl_tup:SlR X (rSlT X.K):=by
 intro pins s σ H x v vl vu lo hi sl Q I rx hs pl pu h
 obtain ⟨a,xs,rfl,hx,hw,q⟩:=h
 cases rx
 obtain ⟨its,r,ht,hz⟩:=I.tuple hx
 have hlen:its.toArray.size=xs.length:=by rw [List.size_toArray];exact r.length.symm
 refine ⟨"tuple",_,PyProof.Rows.slot_tuple_getitem.lookup,ht.typeIs,?_⟩
 refine HT.getItem_tuple_cut ht hs pl pu (by rw [hlen];exact hw) ?_ (by rw [hlen];exact hz)
 rw [hlen]
 refine ⟨.ref s.heap.objs.size,_,I.laid (t':=s.toks) (o:=.tup (cutV xs lo hi)) (fun b ob q=>Heap.get?_push_of_some _ q) (Nat.le_refl _) ?_,rfl,q _ (I.hok.fresh (Nat.le_refl _))⟩
 exact ⟨Nat.le_trans (z3l xs lo hi) hz,_,(r.drop (HT.sIx xs.length 0 lo)).take (HT.sIx xs.length xs.length hi - HT.sIx xs.length 0 lo),FT.IsTup0.new _ _⟩
def zn0 (K:PySem.W.Frag):R2:=fun x y H Q=>∃ a b xs ys,x=.ref a/\y=.ref b/\SqT K H a xs/\SqT K H b ys/\xs≠[]/\xs.length+ys.length≤sizeLine /\
 (ys=[]->Q (.ref a) H)/\(ys≠[]->∀ p,H p=none->Q (.ref p) (upd H p (.tup (xs++ys))))
theorem Vals.nil_iff {xs:List V}{us:List Value}(r:Vals xs us):us=[]↔xs=[]:=by
 cases r with
 | nil=>simp
 | cons _ _=>simp
theorem op_catT:OpR X (binaryOp .Add) (zn0 X.K):=by
 intro pins s σ H x y v u Q I rx ry h
 obtain ⟨a,b,xs,ys,rfl,rfl,ha,hb,hx,hz,q1,q2⟩:=h
 cases rx
 cases ry
 obtain ⟨its,r1,p1,_⟩:=I.tuple ha
 obtain ⟨its2,r2,p2,_⟩:=I.tuple hb
 refine HT.cat_tup p1 p2 (fun z=>hx (r1.nil_iff.mp z)) (fun z=>⟨.ref a,H,I,rfl,q1 (r2.nil_iff.mp z)⟩) (fun z=>?_) (by rw [← r1.length,← r2.length];exact hz)
 refine ⟨.ref s.heap.objs.size,_,I.laid (t':=s.toks) (o:=.tup (xs++ys)) (fun b ob q=>Heap.get?_push_of_some _ q) (Nat.le_refl _) ?_,rfl,q2 (fun w=>z (r2.nil_iff.mpr w)) _ (I.hok.fresh (Nat.le_refl _))⟩
 exact ⟨by rw [List.length_append];exact hz,_,r1.append r2,FT.IsTup0.new _ _⟩
end
def ixN (n:Nat) (i:Int):Option Nat:=if 0≤i then (if i<n then some i.toNat else none) else if -(n:Int)≤i then some (i+n).toNat else none
def atI {α:Type} (xs:List α) (i:Int):Option α:=(ixN xs.length i).bind fun j=>xs[j]?
theorem z8A {n:Nat}{i:Int}{j:Nat}(h:ixN n i=some j):seqIndex? i n=some j/\j<n/\-(n:Int)≤i/\i<n:=by
 unfold ixN at h
 by_cases h0:0≤i
 ·rw [if_pos h0] at h
  by_cases h1:i<n
  ·rw [if_pos h1] at h
   have e:i.toNat=j:=Option.some.inj h
   exact ⟨by rw [seqIndex_of h0 h1,e],by omega,by omega,h1⟩
  ·rw [if_neg h1] at h;cases h
 ·rw [if_neg h0] at h
  by_cases h1:-(n:Int)≤i
  ·rw [if_pos h1] at h
   have e:(i+n).toNat=j:=Option.some.inj h
   exact ⟨by rw [seqIndex_neg (by omega) h1,e],by omega,h1,by omega⟩
  ·rw [if_neg h1] at h;cases h
theorem z5y {α:Type}{xs:List α}{i:Int}{v:α}(h:atI xs i=some v):∃ j,seqIndex? i xs.length=some j/\xs[j]?=some v/\j<xs.length/\-(xs.length:Int)≤i/\i<xs.length:=by
 unfold atI at h
 cases e:ixN xs.length i with
 | none=>rw [e] at h;cases h
 | some j =>
  rw [e] at h
  obtain ⟨h1,h2,h3,h4⟩:=z8A e
  exact ⟨j,h1,h,h2,h3,h4⟩
theorem z27 {α:Type}{xs:List α}{j:Nat}{v:α}(h:xs[j]?=some v):atI xs (j:Int)=some v:=by
 have hj:j<xs.length:=(List.getElem?_eq_some_iff.mp h).1
 have e:ixN xs.length (j:Int)=some j:=by
  unfold ixN
  rw [if_pos (by omega),if_pos (by omega)];simp
 unfold atI;rw [e];exact h
def z7z (b:Expr):Prop:=∀ o i,subscripted b false o i=operate [o,i] (getItem o i)
def IxR (X:Cx) (r:R2):Prop :=
 ∀ (value slice:Expr) (pins:List (Addr×Obj)) (s:Shared) (σ:St) (H:Hp) (x y:V) (v u:Value) (Q:VK),Inv X pins σ H s->RelV x v->RelV y u->r x y H Q ->
  subscripted slice false v u=operate [v,u] (getItem v u)->wpAny (model X.prog X.w) X.A (subscriptTail value slice v u) (EP X pins σ Q) X.xe s
def MtR (X:Cx) (id:String) (r:V->List V->Hp->VK->Prop):Prop :=
 ∀ (pins:List (Addr×Obj)) (s:Shared) (σ:St) (H:Hp) (x:V) (xs:List V) (v:Value) (us:List Value) (Q:VK),Inv X pins σ H s->RelV x v->Vals xs us->r x xs H Q ->
  wpAny (model X.prog X.w) X.A (call (.builtin id) (v :: us)) (EP X pins σ Q) X.xe s
section
variable {X:Cx}{a b:Expr}{ta tb:TE}{pos:Pos}
theorem IxR.or {r r':R2}(h:IxR X r) (h':IxR X r'):IxR X (fun x y H Q=>r x y H Q∨r' x y H Q):=by
 intro value slice pins s σ H x y v u Q I rx ry q hs
 rcases q with q | q
 ·exact h value slice pins s σ H x y v u Q I rx ry q hs
 ·exact h' value slice pins s σ H x y v u Q I rx ry q hs
theorem zH5 {r:R2}(hr:IxR X r) (ha:PE X a ta) (hb:PE X b tb) (hs:z7z b):PE X (.Subscript a b pos) (tOp r ta tb):=by
 intro pins s σ H Q I h
 exact Subscript_ (binT ha hb I h fun v u s2 x y H2 I2 rx ry q=>hr a b pins s2 σ H2 x y v u Q I2 rx ry q (hs _ _))
def rIxL (K:PySem.W.Frag):R2:=fun x y H Q=>∃ p xs i v,x=.ref p/\y=.int i/\SqL K H p xs/\atI xs i=some v/\Q v H
def rIxT (K:PySem.W.Frag):R2:=fun x y H Q=>∃ p xs i v,x=.ref p/\y=.int i/\SqT K H p xs/\atI xs i=some v/\Q v H
def rIxS:R2:=fun x y H Q=>∃ z i c,x=.str z/\y=.int i/\z.length≤sizeLine/\atI z.cps.toList i=some c/\Q (.str ⟨#[c]⟩) H
theorem ix_list:IxR X (rIxL X.K):=by
 intro value slice pins s σ H x y v u Q I rx ry h hs
 obtain ⟨p,xs,i,z,rfl,rfl,hq,he,q⟩:=h
 cases rx
 obtain ⟨t,rfl⟩:=ry
 obtain ⟨its,r,pl,hz⟩:=I.list hq
 obtain ⟨j,h1,h2,h3,h4,h5⟩:=z5y he
 obtain ⟨w,ew,rw'⟩:=r.get h2
 have hl:=r.length
 have hn:=z3w
 have fin:EP X pins σ Q w s:=⟨z,H,I,rw',q⟩
 by_cases h0:0≤i
 ·have hj:i.toNat=j:=by
   rw [seqIndex_of h0 h5] at h1
   exact Option.some.inj h1
  exact item_listR pl.isList h0 (by omega) (by rw [hj];simpa using ew) fin hs
 ·have hj:(i+(its.toArray.size:Int)).toNat=j:=by
   rw [seqIndex_neg (by omega) h4] at h1
   rw [List.size_toArray,← hl]
   exact Option.some.inj h1
  exact subscriptTail_builtinR (x:=w) pl.isList.typeIs slot_list_getitem.lookup
   (wpAny_getItem_list_neg (Q:=fun r s'=>r=w/\EP X pins σ Q r s') pl.isList (by omega) (by rw [List.size_toArray]<;>omega) (by omega) (by rw [hj];simpa using ew) ⟨rfl,fin⟩) hs
theorem ix_tup:IxR X (rIxT X.K):=by
 intro value slice pins s σ H x y v u Q I rx ry h hs
 obtain ⟨p,xs,i,z,rfl,rfl,hq,he,q⟩:=h
 cases rx
 obtain ⟨t,rfl⟩:=ry
 obtain ⟨its,r,pl,hz⟩:=I.tuple hq
 obtain ⟨j,h1,h2,h3,h4,h5⟩:=z5y he
 obtain ⟨w,ew,rw'⟩:=r.get h2
 have hl:=r.length
 have hn:=z3w
 have fin:EP X pins σ Q w s:=⟨z,H,I,rw',q⟩
 exact subscriptTail_builtinR (x:=w) pl.typeIs slot_tuple_getitem.lookup
  (getItem_tuple (j:=j) (Q:=fun r s'=>r=w/\EP X pins σ Q r s') pl (by omega) (by omega) (by rw [List.size_toArray,← hl];exact h1) (by simpa using ew) ⟨rfl,fin⟩) hs
theorem zw6:IxR X rIxS:=by
 intro value slice pins s σ H x y v u Q I rx ry h hs
 obtain ⟨z,i,c,rfl,rfl,hz,he,q⟩:=h
 obtain ⟨t,rfl⟩:=rx
 obtain ⟨t',rfl⟩:=ry
 obtain ⟨j,h1,h2,h3,h4,h5⟩:=z5y he
 have hl:z.cps.toList.length=z.length:=by simp [Str.length]
 rw [hl] at h1 h4 h5
 have hn:=z3w
 exact tail_any (typeIs_str s z t) slot_str_getitem.lookup (getItem_str (c:=c) (by
  have e1:decide (i < -(2 ^ 63:Int))=false:=decide_eq_false (by omega)
  have e2:decide (i ≥ 2 ^ 63)=false:=decide_eq_false (by omega)
  rw [e1,e2,Bool.or_false]) (by rw [h1];simpa using h2) ⟨.str ⟨#[c]⟩,H,I.tok _,⟨_,rfl⟩,q⟩) hs
def rIx (K:PySem.W.Frag):R2:=fun x y H Q=>rIxL K x y H Q∨rIxT K x y H Q∨rIxS x y H Q
theorem zs5:IxR X (rIx X.K):=ix_list.or (ix_tup.or zw6)
theorem z6U (its:List Value) (n j:Nat) (u:Value):Obj.mapSeq (·.setIfInBounds j u) { cls:=.type "list",data:=.seq its.toArray n }={ cls:=.type "list",data:=.seq (its.set j u).toArray n }:=by
 simp [Obj.mapSeq]
theorem Inv.lst {pins:List (Addr×Obj)}{σ:St}{H:Hp}{s:Shared}{p:Addr}{xs:List V}(I:Inv X pins σ H s) (h:H p=some (.lst xs)) :
 ∃ (its:List Value) (n:Nat),Vals xs its/\s.heap.get? p=some { cls:=.type "list",data:=.seq its.toArray n }/\xs.length≤sizeLine:=by
 obtain ⟨z,its,n,r,e⟩:=I.hok p _ h
 exact ⟨its,n,r,e,z⟩
theorem Inv.lstUpd {pins:List (Addr×Obj)}{σ:St}{H:Hp}{s:Shared}{p:Addr}{xs ys:List V}{its its':List Value}{n n':Nat}{f:Obj->Obj}(I:Inv X pins σ H s) (h:H p=some (.lst xs))
 (ho:s.heap.get? p=some { cls:=.type "list",data:=.seq its.toArray n }) (hf:f { cls:=.type "list",data:=.seq its.toArray n }={ cls:=.type "list",data:=.seq its'.toArray n' }) (r:Vals ys its') (hz:ys.length≤sizeLine) (t:Nat) :
 Inv X pins σ (upd H p (.lst ys)) { s with heap:=s.heap.update p f,toks:=t }:=by
 have e:(s.heap.update p f).get? p=some { cls:=.type "list",data:=.seq its'.toArray n' }:=by
  rw [Heap.get?_update_self f ho (by rw [hf]<;>rfl),hf]
 refine I.write (x:=p) (e:=p) (by rw [h];trivial) (.inl rfl) (fun b u hb q=>(Heap.get?_update_other _ _ (Ne.symm hb)).trans q) ⟨_,e⟩ ?_
 exact ⟨hz,its',n',r,e⟩
def zF2:V->V->V->Hp->(Hp->Prop)->Prop:=fun o i v H Q=>∃ p xs k j,o=.ref p/\i=.int k/\H p=some (.lst xs)/\ixN xs.length k=some j/\Q (upd H p (.lst (xs.set j v)))
theorem set_list:PSet X zF2:=by
 intro pins s σ H o i v ov iv u Q I ro ri rv h
 obtain ⟨p,xs,k,j,rfl,rfl,hp,hj,q⟩:=h
 cases ro
 obtain ⟨t,rfl⟩:=ri
 obtain ⟨its,n,r,ho,hz⟩:=I.lst hp
 obtain ⟨h1,h2,h3,h4⟩:=z8A hj
 have hl:=r.length
 have hn:=z3w
 have I':Inv X pins σ (upd H p (.lst (xs.set j v))) { s with heap:=s.heap.update p (Obj.mapSeq (·.setIfInBounds j u)) } :=
  I.lstUpd hp ho (z6U its n j u) (r.set rv j) (by rw [List.length_set];exact hz) s.toks
 by_cases h0:0≤k
 ·have hk:k.toNat=j:=by
   rw [seqIndex_of h0 h4] at h1
   exact Option.some.inj h1
  exact PySem.W.ki_setAt ho h0 (by omega) (by rw [List.size_toArray,← hl];exact h4) (by rw [hk];exact ⟨_,I',q⟩)
 ·have hk:(k+(its.toArray.size:Int)).toNat=j:=by
   rw [seqIndex_neg (by omega) h3] at h1
   rw [List.size_toArray,← hl]
   exact Option.some.inj h1
  exact PySem.W.ki_setBack ho (by omega) (by rw [List.size_toArray,← hl];exact h3) (by omega) (by rw [hk];exact ⟨_,I',q⟩)
theorem z4p (lo hi:Option Int) (n:Nat):(sliceBounds lo hi none n).1=((HT.sIx n 0 lo:Nat):Int)/\(sliceBounds lo hi none n).2.1=((HT.sIx n n hi:Nat):Int)/\(sliceBounds lo hi none n).2.2=1:=by
 refine ⟨?_,?_,rfl⟩
 ·cases lo with
  | none=>simp [sliceBounds,HT.sIx]
  | some i =>
   simp only [sliceBounds,HT.sIx,Option.getD_none,show (1:Int) > 0 by decide,if_true]
   by_cases h:i<0
   ·simp only [h,if_true]<;>omega
   ·simp only [h,if_false]<;>omega
 ·cases hi with
  | none=>simp [sliceBounds,HT.sIx]
  | some i =>
   simp only [sliceBounds,HT.sIx,Option.getD_none,show (1:Int) > 0 by decide,if_true]
   by_cases h:i<0
   ·simp only [h,if_true]<;>omega
   ·simp only [h,if_false]<;>omega
theorem z3V (its:List Value) (lo hi:Option Int):slicePick its.toArray lo hi none=((its.drop (HT.sIx its.length 0 lo)).take (HT.sIx its.length its.length hi - HT.sIx its.length 0 lo)).toArray:=by
 obtain ⟨h1,h2,h3⟩:=z4p lo hi its.toArray.size
 unfold slicePick
 rw [h1,h2,h3]
 simp only [sliceRange_one,pick_run,List.size_toArray]<;>rfl
def rSlL (K:PySem.W.Frag):V->Option Int->Option Int->Hp->VK->Prop:=fun x lo hi H Q=>∃ a xs,x=.ref a/\SqL K H a xs/\∀ p,H p=none->Q (.ref p) (upd H p (.lst (cutV xs lo hi)))
theorem sl_list:SlR X (rSlL X.K):=by
 intro pins s σ H x v vl vu lo hi sl Q I rx hs pl pu h
 obtain ⟨a,xs,rfl,hx,q⟩:=h
 cases rx
 obtain ⟨its,r,ht,hz⟩:=I.list hx
 have hlen:=r.length
 refine ⟨"list",_,slot_list_getitem.lookup,ht.isList.typeIs,?_⟩
 refine wpAny_getItem_list_slice ht.isList hs pl pu .none (by simp) ?_ (by rw [List.size_toArray]<;>omega)
 rw [z3V,← hlen]
 refine ⟨.ref s.heap.objs.size,_,I.laid (t':=s.toks) (o:=.lst (cutV xs lo hi)) (fun b ob q=>Heap.get?_push_of_some _ q) (Nat.le_refl _) ?_,rfl,q _ (I.hok.fresh (Nat.le_refl _))⟩
 exact ⟨Nat.le_trans (z3l xs lo hi) hz,_,0,(r.drop (HT.sIx xs.length 0 lo)).take (HT.sIx xs.length xs.length hi - HT.sIx xs.length 0 lo),Heap.get?_push_size _ rfl⟩
def z3s:V->Bool
 | .non=>true
 | .bl _=>true
 | .int _=>true
 | .str _=>true
 | _=>false
def eqV:V->V->Bool
 | .non,.non=>true
 | .bl a,.bl b=>a == b
 | .bl a,.int b=>(if a then 1 else 0) == b
 | .int a,.bl b=>a == (if b then 1 else 0)
 | .int a,.int b=>a == b
 | .str a,.str b=>a == b
 | _,_=>false
theorem zD1 {A:Around}{s:Shared}{y x:V}{u v:Value}(ry:RelV y u) (rx:RelV x v) (fy:z3s y=true) (fx:z3s x=true):SeqAt.EqAt A s u v (eqV y x):=by
 cases y with
 | non =>
  cases ry
  cases x with
  | non=>cases rx;exact SeqAt.EqAt.same _
  | bl b=>cases rx;exact SeqAt.EqAt.none_bool b
  | int b=>obtain ⟨t,rfl⟩:=rx;exact SeqAt.EqAt.none_int b t
  | str b=>obtain ⟨t,rfl⟩:=rx;exact SeqAt.EqAt.none_str b t
  | _=>exact absurd (show false=true from fx) Bool.false_ne_true
 | bl a =>
  cases ry
  cases x with
  | non=>cases rx;exact SeqAt.EqAt.bool_none a
  | bl b=>cases rx;exact SeqAt.EqAt.bool_bool a b
  | int b=>obtain ⟨t,rfl⟩:=rx;exact SeqAt.EqAt.bool_int a b t
  | str b=>obtain ⟨t,rfl⟩:=rx;exact SeqAt.EqAt.bool_str a b t
  | _=>exact absurd (show false=true from fx) Bool.false_ne_true
 | int a =>
  obtain ⟨t',rfl⟩:=ry
  cases x with
  | non=>cases rx;exact SeqAt.EqAt.int_none a t'
  | bl b=>cases rx;exact SeqAt.EqAt.int_bool a t' b
  | int b=>obtain ⟨t,rfl⟩:=rx;exact SeqAt.EqAt.int_int a t' b t
  | str b=>obtain ⟨t,rfl⟩:=rx;exact SeqAt.EqAt.int_str a t' b t
  | _=>exact absurd (show false=true from fx) Bool.false_ne_true
 | str a =>
  obtain ⟨t',rfl⟩:=ry
  cases x with
  | non=>cases rx;exact SeqAt.EqAt.str_none a t'
  | bl b=>cases rx;exact SeqAt.EqAt.str_bool a t' b
  | int b=>obtain ⟨t,rfl⟩:=rx;exact SeqAt.EqAt.str_int a t' b t
  | str b=>obtain ⟨t,rfl⟩:=rx;exact SeqAt.EqAt.str_str a t' b t
  | _=>exact absurd (show false=true from fx) Bool.false_ne_true
 | _=>exact absurd (show false=true from fy) Bool.false_ne_true
def eqU (x:V) (u:Value):Bool:=match u with
 | .none=>eqV .non x
 | .bool b=>eqV (.bl b) x
 | .int i _=>eqV (.int i) x
 | .str z _=>eqV (.str z) x
 | _=>false
theorem zf2 {x y:V}{u:Value}(r:RelV y u) (f:z3s y=true):eqU x u=eqV y x:=by
 cases y with
 | non=>cases r;rfl
 | bl b=>cases r;rfl
 | int i=>obtain ⟨t,rfl⟩:=r;rfl
 | str z=>obtain ⟨t,rfl⟩:=r;rfl
 | _=>exact absurd (show false=true from f) Bool.false_ne_true
theorem z5i {x:V}:∀ {xs:List V}{us:List Value},Vals xs us->xs.all z3s=true->us.any (eqU x)=xs.any fun y=>eqV y x
 | _,_,.nil,_=>rfl
 | y :: xs,u :: us,.cons r t,f=>by
  rw [List.all_cons,Bool.and_eq_true] at f
  rw [List.any_cons,List.any_cons,zf2 r f.1,z5i t f.2]
theorem z4c {A:Around}{s:Shared}{x:V}{v:Value}(rx:RelV x v) (fx:z3s x=true):∀ {xs:List V}{us:List Value},Vals xs us->xs.all z3s=true->∀ u∈us,SeqAt.EqAt A s u v (eqU x u)
 | _,_,.nil,_=>fun u hu=>by cases hu
 | y :: xs,u :: us,.cons r t,f=>fun u' hu=>by
  rw [List.all_cons,Bool.and_eq_true] at f
  rcases List.mem_cons.mp hu with rfl | hu
  ·rw [zf2 r f.1];exact zD1 r rx f.1 fx
  ·exact z4c rx fx t f.2 u' hu
def inV (x:V) (xs:List V):Bool:=xs.any fun y=>eqV y x
def rIn (K:PySem.W.Frag) (neg:Bool):R2:=fun x y H Q=>∃ p xs,y=.ref p/\(SqL K H p xs∨SqT K H p xs)/\z3s x=true/\xs.all z3s=true/\Q (.bl (if neg then !inV x xs else inV x xs)) H
theorem z4X:OpR X (compareOp .NotIn) (rIn X.K true):=by
 intro pins s σ H x y v u Q I rx ry h
 obtain ⟨p,xs,rfl,hq,fx,fs,q⟩:=h
 cases ry
 rcases hq with hq | hq
 ·obtain ⟨its,r,pl,hz⟩:=I.list hq
  refine SeqAt.notIn_listAt (eqU x) pl.isList (fun w hw=>z4c rx fx r fs w (by simpa using hw)) ⟨.bl _,H,I,rfl,?_⟩
  rw [show its.toArray.any (eqU x)=its.any (eqU x) by simp,z5i r fs]
  exact q
 ·obtain ⟨its,r,pl,hz⟩:=I.tuple hq
  refine SeqAt.notIn_tupleAt (eqU x) pl (fun w hw=>z4c rx fx r fs w (by simpa using hw)) ⟨.bl _,H,I,rfl,?_⟩
  rw [show its.toArray.any (eqU x)=its.any (eqU x) by simp,z5i r fs]
  exact q
theorem z4v:z1Q X (.type "list") (fun xs H Q=>∃ p ys,xs=[.ref p]/\(SqL X.K H p ys∨SqT X.K H p ys)/\∀ l,H l=none->Q (.ref l) (upd H l (.lst ys))):=by
 intro pins s σ H xs us Q I r h
 obtain ⟨p,ys,rfl,hq,q⟩:=h
 obtain ⟨u,rfl,rx⟩:=vals1 r
 cases rx
 have fin:∀ (its:List Value),Vals ys its->ys.length≤sizeLine->∀ (h':Heap) (c':Nat),(∀ b o',s.heap.get? b=some o'->h'.get? b=some o') ->
  h'.get? s.heap.objs.size=some { cls:=.type "list",dict:=none,data:=.seq its.toArray c',slots:=#[] }->EP X pins σ Q (.ref s.heap.objs.size) { s with heap:=h' }:=fun its r' hz h' c' kp e =>
  ⟨.ref s.heap.objs.size,_,I.laid (t':=s.toks) kp (Nat.le_refl _) (show ObjOk X.prog X.w _ h' _ (.lst ys) from ⟨hz,its,c',r',e⟩),rfl,q _ (I.hok.fresh (Nat.le_refl _))⟩
 rcases hq with hq | hq
 ·obtain ⟨its,r',pl,hz⟩:=I.list hq
  have hlen:=r'.length
  obtain ⟨o,ho,hc,n,hd⟩:=pl.isList
  exact call_list_seq p (.inl rfl) ho hc hd (fun h' c' kp e=>fin its r' hz h' c' kp e) (by simp only [List.size_toArray]<;>omega)
 ·obtain ⟨its,r',pl,hz⟩:=I.tuple hq
  have hlen:=r'.length
  obtain ⟨o,ho,hc,n,hd⟩:=pl
  exact call_list_seq p (.inr rfl) ho hc hd (fun h' c' kp e=>fin its r' hz h' c' kp e) (by simp only [List.size_toArray]<;>omega)
theorem z4j:z1Q X (.type "tuple") (fun xs H Q=>∃ p ys,xs=[.ref p]/\((SqL X.K H p ys/\∀ l,H l=none->Q (.ref l) (upd H l (.tup ys)))∨(SqT X.K H p ys/\Q (.ref p) H))):=by
 intro pins s σ H xs us Q I r h
 obtain ⟨p,ys,rfl,h⟩:=h
 obtain ⟨u,rfl,rx⟩:=vals1 r
 cases rx
 rcases h with ⟨hq,q⟩ | ⟨hq,q⟩
 ·obtain ⟨its,r',pl,hz⟩:=I.list hq
  have hlen:=r'.length
  refine call_tuple_list pl.isList (fun h' kp=>?_) (by simp only [List.size_toArray]<;>omega)
  have I1:Inv X pins σ H { s with heap:=h' }:=I.kept (t':=s.toks) kp
  have I2:Inv X pins σ (upd H h'.objs.size (.tup ys)) { s with heap:=h'.push { cls:=.type "tuple",data:=.seq its.toArray } } :=
   I1.laid (t':=s.toks) (fun b o e=>Heap.get?_push_of_some _ e) (Nat.le_refl _) (show ObjOk X.prog X.w _ _ _ (.tup ys) from ⟨hz,its,r',FT.IsTup0.new _ _⟩)
  exact ⟨.ref h'.objs.size,_,I2,rfl,q _ (I1.hok.fresh (Nat.le_refl _))⟩
 ·obtain ⟨its,r',pl,hz⟩:=I.tuple hq
  exact call_tuple_same pl ⟨.ref p,H,I,rfl,q⟩
def tyV (K:PySem.W.Frag) (T:String) (x:V) (H:Hp):Prop:=match x with
 | .str _=>T = "str"
 | .int _=>T = "int"
 | .ref p=>(T = "list"/\∃ xs,SqL K H p xs)∨(T = "tuple"/\∃ o,K.lookup p=some o/\o.cls=.type "tuple"/\o.dict=none) ∨
  (T = "dict"/\((∃ kvs,H p=some (.dK kvs))∨∃ kvs,H p=some (.dT kvs)))∨(T = "set"/\∃ ks,H p=some (.set ks))
 | _=>False
theorem zv6 {pins:List (Addr×Obj)}{σ:St}{H:Hp}{s:Shared}{T:String}{x:V}{v:Value}(I:Inv X pins σ H s) (r:RelV x v) (ty:tyV X.K T x H) :
 s.TypeIs v T/\∀ a,v=.ref a->∃ ob,s.heap.get? a=some ob/\ob.dict=none:=by
 cases x with
 | str z =>
  obtain ⟨t,rfl⟩:=r
  cases (show T = "str" from ty)
  exact ⟨typeIs_str s z t,fun _ e=>nomatch e⟩
 | int i =>
  obtain ⟨t,rfl⟩:=r
  cases (show T = "int" from ty)
  exact ⟨typeIs_int s i t,fun _ e=>nomatch e⟩
 | ref p =>
  cases r
  rcases ty with ⟨rfl,xs,hq⟩ | ⟨rfl,o,hk,hc,hd⟩ | ⟨rfl,hk⟩ | ⟨rfl,ks,hk⟩
  ·obtain ⟨its,_,pl,_⟩:=I.list hq
   refine ⟨pl.isList.typeIs,fun a e=>?_⟩
   cases e
   obtain ⟨o,n,e,c,hd,_⟩:=pl
   exact ⟨o,e,hd⟩
  ·refine ⟨⟨o,I.kIn p o hk,hc⟩,fun a e=>?_⟩
   cases e
   exact ⟨o,I.kIn _ o hk,hd⟩
  ·have z:∃ o,s.heap.get? p=some o/\o.ExactDict:=by
    rcases hk with ⟨kvs,hk⟩ | ⟨kvs,hk⟩
    ·obtain ⟨_,_,_,_,o,_,_,e,ex,_⟩:=I.hok p _ hk
     exact ⟨o,e,ex⟩
    ·obtain ⟨_,_,_,_,o,_,_,e,ex,_⟩:=I.hok p _ hk
     exact ⟨o,e,ex⟩
   obtain ⟨o,e,ex⟩:=z
   refine ⟨⟨o,e,ex.1⟩,fun a e2=>?_⟩
   cases e2
   exact ⟨o,e,ex.2.1⟩
  ·obtain ⟨o,_,_,_,_,e,ex,_⟩:=I.hok p _ hk
   refine ⟨⟨o,e,ex.1⟩,fun a e2=>?_⟩
   cases e2
   exact ⟨o,e,ex.2.1⟩
 | _=>exact False.elim ty
def tBM (K:PySem.W.Frag) (T:String) (r:V->List V->Hp->VK->Prop) (to:TE) (t:TA):TE:=fun σ H Q=>to σ H fun x H1=>tyV K T x H1/\t σ H1 fun xs H2=>r x xs H2 Q
variable {o e:Expr}{es:List Expr}{to:TE}{t:TA}{name:Str}{apos cpos:Pos}{T id:String}{r:V->List V->Hp->VK->Prop}
theorem zi6 (pa:PlainAttrs T) (slot:Slot T name id) (hty:typeOf (.builtin id)=pure (.type "method_descriptor")) (hm:MtR X id r) (ho:PE X o to) (ha:PA X (e :: es) t)
 (hbase:attributeBase o name X.env (eval o X.env)=eval o X.env:=by rfl)
 (hfew:((backTo cpos (starEach (e :: es) X.env)).all (fun x=>!x.1) && (backToKw cpos (keywordEach [] X.env)).all (fun x=>x.1.isSome)
  && decide ((e :: es).length+([]:List Keyword).length+(if ([]:List Keyword).isEmpty then 0 else 1)<30))=true:=by rfl)
 (hline:(apos.endLine == cpos.line)=true:=by rfl) (hs:starEach (e :: es) X.env=(false,eval e X.env) :: starEach es X.env:=by rfl) (hplain:(backTo cpos (starEach es X.env)).any (·.1)=false:=by rfl) :
 PE X (.Call (.Attribute o name apos) (e :: es) [] cpos) (tBM X.K T r to t):=by
 intro pins s σ H Q I h
 refine wpAny_Call_method_late hbase hfew hline rfl (thn (ho pins s σ H _ I h) fun v s1 ⟨x,H1,I1,r1,ty,q1⟩=>?_)
 obtain ⟨h1,h2⟩:=zv6 I1 r1 ty
 refine ⟨T,id,pa,slot,hty,h1,h2,?_⟩
 have hA:=ha cpos pins s1 σ H1 _ I1 q1
 rw [hs] at hA ⊢
 refine Calls.callWith_builtin (by show (false || (backTo cpos (starEach es X.env)).any (·.1))=false;rw [hplain]<;>rfl) (Calls.evalArgs_plain ?_)
 exact thn hA fun us s2 ⟨vs,H2,I2,r2,q2⟩=>hm pins s2 σ H2 x vs v us Q I2 r1 r2 q2
end
def MtM (X:Cx) (id:String) (r:V->List V->Hp->VK->Prop):Prop :=
 ∀ (pins:List (Addr×Obj)) (s:Shared) (σ:St) (H:Hp) (x:V) (xs:List V) (v:Value) (us:List Value) (Q:VK),Inv X pins σ H s->RelV x v->Vals xs us->r x xs H Q ->
  wpAny (model X.prog X.w) X.A (call (.builtin id) (v :: us)) (EP X pins σ Q) X.xe s
theorem Vals.one:∀ {x:V}{us:List Value},Vals [x] us->∃ u,us=[u]/\RelV x u
 | _,_,.cons r .nil=>⟨_,rfl,r⟩
theorem Vals.eraseIdx:∀ {xs:List V}{us:List Value}(i:Nat),Vals xs us->Vals (xs.eraseIdx i) (us.eraseIdx i)
 | _,_,_,.nil=>.nil
 | _,_,0,.cons _ t=>t
 | _,_,i+1,.cons r t=>.cons r (Vals.eraseIdx i t)
theorem Vals.reverse {xs:List V}{us:List Value}(h:Vals xs us):Vals xs.reverse us.reverse:=by
 induction h with
 | nil=>exact .nil
 | cons r t ih=>rw [List.reverse_cons,List.reverse_cons];exact Vals.append ih (.cons r .nil)
theorem Vals.rep {xs:List V}{us:List Value}(h:Vals xs us):∀ k:Nat,Vals (List.replicate k xs).flatten (List.replicate k us).flatten
 | 0=>.nil
 | k+1=>by
  rw [List.replicate_succ,List.replicate_succ,List.flatten_cons,List.flatten_cons]
  exact Vals.append h (Vals.rep h k)
theorem z54 {α:Type}:∀ (l:List α) (i:Nat),(l.eraseIdx i).length≤l.length
 | [],_=>Nat.le_refl _
 | _ :: _,0=>Nat.le_succ _
 | _ :: r,i+1=>Nat.succ_le_succ (z54 r i)
theorem foldl_rep (its:List Value):∀ (k:Nat) (acc:List Value),
 List.foldl (fun x1 x2=>x1++x2) acc.toArray (List.replicate k its.toArray)=(acc++(List.replicate k its).flatten).toArray
 | 0,acc=>by simp
 | k+1,acc=>by
  have e:acc.toArray++its.toArray=(acc++its).toArray:=by simp
  have e2:(acc++its)++(List.replicate k its).flatten=acc++(List.replicate (k+1) its).flatten:=by
   rw [List.replicate_succ,List.flatten_cons,List.append_assoc]
  rw [← e2,← foldl_rep its k (acc++its),← e,List.replicate_succ,List.foldl_cons]
section
variable {X:Cx}{pins:List (Addr×Obj)}{σ:St}{H:Hp}{s:Shared}{l b:Addr}{xs ys zs:List V}
theorem Inv.lset {its its':List Value}{n:Nat}{f:Array Value->Array Value}{t':Nat}(I:Inv X pins σ H s) (hH:H l=some (.lst xs))
 (e:s.heap.get? l=some { cls:=.type "list",data:=.seq its.toArray n }) (hf:f its.toArray=its'.toArray) (hv:Vals ys its') (hz:ys.length≤sizeLine) :
 Inv X pins σ (upd H l (.lst ys)) { s with heap:=s.heap.update l (Obj.mapSeq f),toks:=t' }:=by
 have q:=PySem.IsL.update e f
 rw [hf] at q
 refine I.write (x:=l) (e:=l) (by rw [hH];exact trivial) (.inl rfl) (fun b' u hb hu=>(Heap.get?_update_other s.heap (Obj.mapSeq f) (Ne.symm hb)).trans hu) ⟨_,q⟩ ?_
 exact ⟨hz,its',_,hv,q⟩
theorem Inv.lnew {its:List Value}{t':Nat}(I:Inv X pins σ H s) (hv:Vals ys its) (hz:ys.length≤sizeLine) :
 Inv X pins σ (upd H s.heap.objs.size (.lst ys)) { s with heap:=s.heap.push { cls:=.type "list",data:=.seq its.toArray },toks:=t' } :=
 I.laid (fun _ _ q=>Heap.get?_push_of_some _ q) (Nat.le_refl _) ⟨hz,its,0,hv,Heap.get?_push_size _ rfl⟩
theorem Inv.fresh (I:Inv X pins σ H s):H s.heap.objs.size=none:=I.hok.fresh (Nat.le_refl _)
theorem Inv.lstM (I:Inv X pins σ H s) (hH:H l=some (.lst xs)):xs.length≤sizeLine/\∃ (its:List Value) (n:Nat),Vals xs its/\xs.length=its.length/\s.heap.get? l=some { cls:=.type "list",data:=.seq its.toArray n }:=by
 obtain ⟨z,its,n,r,e⟩:=I.hok l _ hH
 exact ⟨z,its,n,r,r.length,e⟩
theorem z9P {n:Nat}(h:n≤sizeLine):Builtin.List.listTooLong n=false:=by
 unfold Builtin.List.listTooLong
 exact decide_eq_false (by omega)
end
section
variable {X:Cx}
def zm3:V->List V->Hp->VK->Prop:=fun x vs H Q=>∃ l xs y,x=.ref l/\vs=[y]/\H l=some (.lst xs)/\xs.length<sizeLine/\Q .non (upd H l (.lst (xs++[y])))
theorem z53:MtM X "list.append" zm3:=by
 intro pins s σ H x vs v us Q I rx rv h
 obtain ⟨l,xs,y,rfl,rfl,hH,hz,q⟩:=h
 cases rx
 obtain ⟨u,rfl,ru⟩:=rv.one
 obtain ⟨z,its,n,r,hl,e⟩:=I.lstM hH
 refine call_meets F.slot_list_append ⟨_,e,rfl⟩ F.entry_list_append (F.args_list_append_2 _ _) (PySem.list_append l its.toArray n u (by rw [List.size_toArray];omega)) ⟨e,?_⟩
 refine ⟨.non,_,I.lset (its':=its++[u]) hH e (by simp) (r.append (.cons ru .nil)) ?_,rfl,q⟩
 rw [List.length_append,List.length_singleton]
 omega
def zy2:V->List V->Hp->VK->Prop:=fun x vs H Q=>∃ l xs i k y,x=.ref l/\vs=[.int i]/\H l=some (.lst xs)/\-(2 ^ 63)≤i/\i<2 ^ 63/\seqIndex? i xs.length=some k/\xs[k]?=some y/\Q y (upd H l (.lst (xs.eraseIdx k)))
theorem z9s:MtM X "list.pop" zy2:=by
 intro pins s σ H x vs v us Q I rx rv h
 obtain ⟨l,xs,i,k,y,rfl,rfl,hH,h1,h2,hk,hy,q⟩:=h
 cases rx
 obtain ⟨u,rfl,ru⟩:=rv.one
 obtain ⟨t,rfl⟩:=ru
 obtain ⟨z,its,n,r,hl,e⟩:=I.lstM hH
 obtain ⟨w,hw,rw'⟩:=r.get hy
 refine call_meets F.slot_list_pop ⟨_,e,rfl⟩ F.entry_list_pop (F.args_list_pop_2 _ _)
  (MeetsSeq.list_pop_at l its.toArray n i t k w (fitsIndex_both h1 h2) (by rw [List.size_toArray,← hl];exact hk) (by rw [← Array.getElem?_toList];exact hw) (by rw [List.size_toArray];omega)) ⟨e,?_⟩
 refine ⟨y,_,I.lset (its':=its.eraseIdx k) hH e ?_ (r.eraseIdx k) ?_,rw',q⟩
 ·show its.toArray.eraseIdxIfInBounds k=(its.eraseIdx k).toArray
  rw [List.eraseIdxIfInBounds_toArray]
 ·have:=z54 xs k
  omega
def rCat:R2:=fun x y H Q=>∃ l b xs zs,x=.ref l/\y=.ref b/\H l=some (.lst xs)/\H b=some (.lst zs)/\xs.length+zs.length≤sizeLine/\∀ p,H p=none->Q (.ref p) (upd H p (.lst (xs++zs)))
theorem op_cat:OpR X (binaryOp .Add) rCat:=by
 intro pins s σ H x y v u Q I rx ry h
 obtain ⟨l,b,xs,zs,rfl,rfl,hH,hB,hz,q⟩:=h
 cases rx
 cases ry
 obtain ⟨z,its,n,r,hl,e⟩:=I.lstM hH
 obtain ⟨z2,its2,n2,r2,hl2,e2⟩:=I.lstM hB
 refine PySem.P.add_list e e2 ?_ (by rw [List.size_toArray,List.size_toArray];omega)
 have ea:its.toArray++its2.toArray=(its++its2).toArray:=by simp
 rw [ea]
 exact ⟨.ref _,_,I.lnew (t':=s.toks) (r.append r2) (by rw [List.length_append];omega),rfl,q _ I.fresh⟩
def rRep:R2:=fun x y H Q=>∃ l k xs,x=.ref l/\y=.int k/\H l=some (.lst xs)/\-(2 ^ 63)≤k/\k<2 ^ 63/\xs.length * k.toNat≤sizeLine /\
 ∀ p,H p=none->Q (.ref p) (upd H p (.lst (List.replicate k.toNat xs).flatten))
theorem len_rep {α:Type}(xs:List α) (k:Nat):(List.replicate k xs).flatten.length=k * xs.length:=by
 induction k with
 | zero=>simp
 | succ k ih=>rw [List.replicate_succ,List.flatten_cons,List.length_append,ih,Nat.succ_mul,Nat.add_comm]
theorem zv5:OpR X (binaryOp .Mult) rRep:=by
 intro pins s σ H x y v u Q I rx ry h
 obtain ⟨l,k,xs,rfl,rfl,hH,h1,h2,hz,q⟩:=h
 cases rx
 obtain ⟨t,rfl⟩:=ry
 obtain ⟨z,its,n,r,hl,e⟩:=I.lstM hH
 have hlen:its.toArray.size * k.toNat≤sizeLine:=by rw [List.size_toArray,← hl];exact hz
 have hcap:¬ its.toArray.size * k.toNat > (2 ^ 63 - 1) / 8:=by
  have:(sizeLine:Nat)≤(2 ^ 63 - 1) / 8:=by decide
  omega
 have hfit:¬ (!Builtin.List.listFitsIndex k)=true:=by
  rw [fitsIndex_both h1 h2]
  exact Bool.false_ne_true
 have hlong:¬ Builtin.List.listTooLong (its.toArray.size * k.toNat)=true:=by
  rw [z9P hlen]
  exact Bool.false_ne_true
 have hnew:List.foldl (fun x1 x2=>x1++x2) #[] (List.replicate (if its.toArray.isEmpty=true then 0 else k.toNat) its.toArray)=(List.replicate k.toNat its).flatten.toArray:=by
  have f0:∀ m:Nat,List.foldl (fun x1 x2=>x1++x2) #[] (List.replicate m its.toArray)=(List.replicate m its).flatten.toArray:=fun m=>by
   have:=foldl_rep its m []
   rw [List.nil_append] at this
   exact this
  rw [f0]
  cases its with
  | nil=>simp
  | cons a r'=>rw [if_neg (by simp)]
 refine wpAny_binaryOp_repeat_ref (T:="list") (U:="int") (by decide) ⟨_,e,rfl⟩ (fun s'=>typeIs_int s' k t) noFill_list_mul F.fills_int_mul F.slot_int_rmul repeat_list F.slot_int_index.lookup
  (call_meets F.slot_int_rmul (typeIs_int s k t) F.entry_int_rmul (F.args_int_rmul_2 _ _) (int___rmul___int_list k t l its.toArray n)
   ⟨e,rfl,⟨_,e,rfl⟩,call_meets F.slot_list_mul ⟨_,e,rfl⟩ F.entry_list_mul (F.args_list_mul_2 _ _) (AutoListH.list___mul___list_int_3 l its.toArray n k t hfit hcap hlong) ⟨e,?_⟩⟩)
 rw [hnew]
 exact ⟨.ref _,_,I.lnew (t':=s.toks) (r.rep k.toNat) (by rw [len_rep,Nat.mul_comm];exact hz),rfl,q _ I.fresh⟩
end
section
variable {prog:Program}{w:World}{A:Around}{E:Value->Shared->Prop}{s:Shared}
end
section
variable {X:Cx}
end
end L2
namespace Att
open PySem PySem.W PySem.Calls PyProof.Rows
theorem z3j {P:Params}{h:Heap}:∀ (ns:List Int) (vs:List Value),WellAll P h vs (ns.map WData.int)->IntsAre vs ns:=by
 intro ns
 induction ns with
 | nil =>
  intro vs w
  rw [List.map_nil] at w
  cases w
  exact .nil
 | cons n ns ih =>
  intro vs w
  rw [List.map_cons] at w
  cases w with
  | cons a b =>
   cases a
   exact .cons _ _ (ih _ b)
theorem z8f {l:OpenLaw}{n:Nat}(hn:l.most=some n) {P:Params}{h:Heap}{args:List WData}{vals:List Value}
 (hpre:l.row.toRowW.claim.pre args=true) (hwl:WellAll P h vals args) :
 ∃ a vs ns,vals=[Value.ref a]/\args=[WData.list (ns.map WData.int)]/\h.get? a=some { cls:=.type "list",data:=.seq vs.toArray }/\IntsAre vs ns/\ns.length≤n:=by
 have hsh:WShape.hasAll [] args [.list .int]=true:=(pre_splitW hpre).1
 have hc:l.pre.holds [] { args:=args }=true:=(pre_splitW hpre).2
 obtain ⟨d,r,rfl,h1,h2⟩:=hasAllW_cons hsh
 obtain rfl:=hasAllW_nil h2
 obtain ⟨xs,rfl,h3⟩:=hasW_list h1
 obtain ⟨ns,rfl⟩:=items_int h3
 have hlen:ns.length≤n:=by
  unfold OpenLaw.pre at hc
  have h4:(WTm.not (.lt (.lit (.int (n:Int))) (.len (.arg 0)))).holds [] { args:=[.list (ns.map .int)] }=true:=by
   have h4:=(holds_andW hc).1
   rw [hn] at h4
   exact h4
  have h5:=condW_of h4 (w_not (w_lt w_lit (w_len_list (w_arg rfl))))
  rw [List.length_map] at h5
  refine Nat.le_of_not_lt fun q=>?_
  have q':(n:Int)<((ns.length:Nat):Int):=by omega
  first
   | (rw [decide_eq_true q'] at h5;exact absurd h5 (by decide))
   | (simp at h5;omega)
 cases hwl with
 | cons w1 w2 =>
  cases w2
  cases w1 with
  | list ho hall=>exact ⟨_,_,ns,rfl,rfl,ho,z3j ns _ hall,hlen⟩
theorem z7S (l:OpenLaw) (args:List WData):l.row.toRowW.claim.post args (.bool true) args=true :=
 postW_of (r:=l.row.toRowW) (X:=(true == true))
  (show WShape.has [] (.bool true) .bool=true by first | rfl | decide | simp [WShape.has,WShape.arms,WShape.armsAll])
  (show (WTm.eq .res (.lit (.bool true))).value [] { args:=args,res:=some (.bool true),after:=args }=some (.bool (true == true)) from w_eq_bool (w_res rfl) w_lit) rfl
theorem attach_call {l:OpenLaw}{n:Nat}{q:Program}{loose:List Str}{XP:(Str->Option Value)->Heap->Prop}{YP:World->Heap->Prop}{d:DefRec}
 (hn:l.most=some n) (hdf:d.params.defaults=[])
 (call:∀ (w:World) (s₀ s₁:Shared) (mg mb:Str->Option Value) (fa:Addr) (o:Obj) (pm cd doc:Value) (a:Addr) (vs:List Value) (ns:List Int),
  Ground q loose [] XP w s₀ mg mb s₁.heap->YP w s₁.heap ->
  s₁.heap.get? fa=some o->o.data=.func (docDef d.name d.params d.body d.scope pm cd doc)->s₁.heap.CodeRec cd d.name->mg d.name=some (.ref fa) ->
  s₁.heap.get? a=some { cls:=.type "list",data:=.seq vs.toArray }->IntsAre vs ns->ns.length≤n->s₁.gens = #[] ->
  codeAny (model l.prog w) callerA (.call (.ref fa) ⟨[.ref a],[]⟩) (fun r s'=>r=.ok (.ret (.bool true))/\OldK s₁.heap s'.heap/\s'.os=s₁.os/\AllBare s'.gens) s₁) :
 WalkO q loose XP YP l.row.toRowW d [] (fun f vs=>PySem.call f vs):=by
 intro w s₀ s₁ mg mb G Y fa o pm cd doc dV kV ho hd hcd hD hmg hg args vals as hpre hlay hrd hwl hlo
 obtain rfl:dV=.none:=Dflts.none hD hdf
 obtain rfl:kV=.none:=Dflts.noKw hD
 obtain ⟨a,vs,ns,rfl,rfl,hobj,hints,hlen⟩:=z8f hn hpre hwl
 refine enter_call (codeAny_mono (call w s₀ s₁ mg mb fa o pm cd doc a vs ns G Y ho (fd_plain hd) hcd hmg hobj hints hlen hg) fun r s' hq=>?_)
 obtain ⟨rfl,h2,h3,h4⟩:=hq
 exact ⟨.inl ⟨.bool true,.bool true,[],rfl,fun _=>rfl,.bool true,z7S l _,fun _=>⟨List.Pairwise.nil,fun _ hm=>(nomatch hm)⟩⟩,h2,h3,h4⟩
section
variable {prog:Program}{w:World}{A:Around}{E:Value->Shared->Prop}{s:Shared}{K:Frag}
end
end Att
namespace L2
open PySem PySem.Spec PyProof.Rows
theorem z3h:∀ {vs:List Value}{ns:List Int},IntsAre vs ns->Vals (ns.map V.int) vs
 | _,_,.nil=>.nil
 | _,_,.cons n t h=>.cons ⟨t,rfl⟩ (z3h h)
def Only (H:Hp):Prop:=∀ b,H b=none∨∃ o xs,H b=some (.frz o (.lst xs))
theorem z9I {P:Program}{w:World}{K:PySem.W.Frag}{mg mb:Str->Option Value}{CX:CXT}{k:Nat}{fa a:Addr}{fd:FuncData}{x:Str}{sp:Sp}{s₁:Shared}{vs:List Value}{ns:List Int}
 (KX:K.In s₁.heap) (hns:s₁.heap.Ns mainGlobals mg) (hb:s₁.heap.Ns builtinsNs mb) (hbb:∀ x:Str,x≠"__name__"->mb x=bootBuiltins x) (hlim:s₁.heap.NoLimit) (hg:s₁.gens = #[])
 (ha:s₁.heap.get? a=some { cls:=.type "list",data:=.seq vs.toArray }) (hi:IntsAre vs ns) (hl:ns.length≤sizeLine) (hr:Room k callerA)
 (F:∀ base:Heap,K.In base->base.Ns mainGlobals mg->FnOk P w K mg base CX k fa fd [x] sp) (hbind:∀ (s:Shared) (u:Value),BindsTo s fd ⟨[u],[]⟩ [(x,u)])
 (hsp:∀ H:Hp,Only H->SqL K H a (ns.map V.int)->sp [.ref a] H (fun v _=>v=.bl true) fun _ _ _=>False)
 (hCX:∀ H e s',CX [] H s₁ (fun _ _ _=>False) e s'->False) :
 codeAny (model P w) callerA (.call (.ref fa) ⟨[.ref a],[]⟩) (fun r s'=>r=.ok (.ret (.bool true))/\OldK s₁.heap s'.heap/\s'.os=s₁.os/\AllBare s'.gens) s₁:=by
 have rv:=z3h hi
 have lenV:=hi.length
 have core:∀ H:Hp,Only H->SqL K H a (ns.map V.int)->HOk P w H s₁.heap->(∀ b,H b≠none->b=a)->(H a≠none->K.lookup a=none) ->
  codeAny (model P w) callerA (.call (.ref fa) ⟨[.ref a],[]⟩) (fun r s'=>r=.ok (.ret (.bool true))/\OldK s₁.heap s'.heap/\s'.os=s₁.os/\AllBare s'.gens) s₁:=by
  intro H hO hS hok hA hK
  have base_of:∀ {b:Addr} {o:Obj},s₁.heap.get? b=some o->H b=none->(hidT s₁.heap H).get? b=some o:=fun e n=>z9S e n
  have noA:∀ {b:Addr} {o:Obj} {es:Array DictEntry} {ep:Nat},s₁.heap.get? b=some o->o.data=.dict es ep->H b=none:=fun {b o es ep} e d=>by
   cases q:H b with
   | none=>rfl
   | some u =>
    have e':b=a:=hA b (by rw [q];simp)
    subst e'
    rw [ha] at e;cases e
    have d':Data.seq vs.toArray _=Data.dict es ep:=d
    cases d'
  have nsK:∀ {b:Addr} {m:Str->Option Value},s₁.heap.Ns b m->(hidT s₁.heap H).Ns b m:=fun {b m} ⟨o,es,ep,e,d,r⟩=>⟨o,es,ep,base_of e (noA e d),d,r⟩
  have hKb:K.In (hidT s₁.heap H):=fun b o e=>base_of (KX b o e) (by
   cases q:H b with
   | none=>rfl
   | some u =>
    have e':b=a:=hA b (by rw [q];simp)
    subst e'
    rw [hK (by rw [q];simp)] at e;cases e)
  have hM:Mod K mg (hidT s₁.heap H):=⟨hKb,nsK hns,⟨mb,nsK hb,hbb⟩,let ⟨mc,h1,h2⟩:=hlim;⟨mc,nsK h1,h2⟩⟩
  have e0:Env0 P w K mg (hidT s₁.heap H) callerA [] s₁ H:=⟨rfl,hM,fun b o e=>zn7 e,Nat.le_of_eq (z7I _ _),trivial,fun b hb=>absurd (show b∈([]:List Addr) from hb) (by simp),hok,.of_eq hg⟩
  refine codeAny_mono ((F _ hKb (nsK hns)).run callerA [] s₁ H ⟨[.ref a],[]⟩ [.ref a] [.ref a] _ _ hr e0 (hbind s₁ (.ref a)) (.cons rfl .nil) (hsp H hO hS)) fun r s' h=>?_
  cases r with
  | error e=>exact (hCX H e s' h).elim
  | ok fl =>
   cases fl with
   | next=>exact False.elim h
   | brk=>exact False.elim h
   | cont=>exact False.elim h
   | ret u =>
    obtain ⟨v,H',os,bare,un,hok',r',q⟩:=h
    have q':v=.bl true:=q
    subst q'
    obtain rfl:u=Value.bool true:=r'
    refine ⟨rfl,OldK.of_keep fun b o e=>?_,os,bare⟩
    cases q:H b with
    | none=>exact un.keep b o e q (by intro z;exact absurd (show b∈([]:List Addr) from z) (by simp)) (by simp)
    | some u =>
     rcases hO b with z | ⟨ob,xs,z⟩
     ·rw [q] at z;cases z
     ·have z2:=un.frzs b ob _ z
      obtain ⟨e1,_⟩:=hok b _ z
      obtain ⟨e2,_⟩:=hok' b _ z2
      rw [e] at e1;cases e1
      exact e2
 cases hk:K.lookup a with
 | some o =>
  have e:=KX a o hk
  rw [ha] at e
  cases e
  refine core (fun _=>none) (fun _=>.inl rfl) (.inr ⟨_,vs.toArray,_,hk,rfl,rfl,rfl,by rw [List.size_toArray,lenV];exact hl,by simpa using rv⟩) (fun b u z=>by have z':(none:Option HO)=some u:=z;cases z') (fun b z=>absurd rfl z) fun z=>absurd rfl z
 | none =>
  refine core (fun b=>if b=a then some (.frz { cls:=.type "list",data:=.seq vs.toArray } (.lst (ns.map V.int))) else none) (fun b=>?_) (.inl (.inr ⟨{ cls:=.type "list",data:=.seq vs.toArray },if_pos rfl⟩)) (fun b u z=>?_) (fun b z=>?_) fun _=>hk
  ·by_cases hb:b=a
   ·exact .inr ⟨_,_,if_pos hb⟩
   ·exact .inl (if_neg hb)
  ·by_cases hb:b=a
   ·have z':=(if_pos hb).symm.trans z
    cases z'
    subst hb
    exact ⟨ha,by rw [List.length_map];exact hl,vs,_,rv,ha⟩
   ·have z':=(if_neg hb).symm.trans z
    cases z'
  ·by_cases hb:b=a
   ·exact hb
   ·exact absurd (if_neg hb) z
abbrev KOf {K:PySem.W.Frag} {h:Heap} (_:K.In h):PySem.W.Frag:=K
theorem walk_of {l:PySem.W.OpenLaw}{n k:Nat}{q:Program}{loose:List Str}{XP:(Str->Option Value)->Heap->Prop}{YP:World->Heap->Prop}{d:DefRec}{K:Params->PySem.W.Frag}{CX:World->CXT}{sp:World->Sp}{x:Str}
 (hn:l.most=some n) (hn2:n≤sizeLine) (hdf:d.params.defaults=[]) (hr:Room k callerA)
 (hY:∀ (w:World) (h:Heap),YP w h->(K w.params).In h)
 (F:∀ (w:World) (mg:Str->Option Value) (fa:Addr) (h:Heap),(K w.params).In h->h.Ns mainGlobals mg->mg d.name=some (.ref fa) ->
  ∃ fd:FuncData,(∀ (s:Shared) (u:Value),BindsTo s fd ⟨[u],[]⟩ [(x,u)]) /\
   ∀ base:Heap,(K w.params).In base->base.Ns mainGlobals mg->FnOk l.prog w (K w.params) mg base (CX w) k fa fd [x] (sp w))
 (hsp:∀ (w:World) (H:Hp) (a:Addr) (ns:List Int),ns.length≤n->Only H->SqL (K w.params) H a (ns.map V.int)->sp w [.ref a] H (fun v _=>v=.bl true) fun _ _ _=>False)
 (hCX:∀ (w:World) (H:Hp) (s:Shared) (e:Value) (s':Shared),CX w [] H s (fun _ _ _=>False) e s'->False) :
 PySem.W.WalkO q loose XP YP l.row.toRowW d [] (fun f vs=>PySem.call f vs):=by
 refine Att.attach_call hn hdf fun w s₀ s₁ mg mb fa o pm cd doc a vs ns G Y ho hd hcd hmg hobj hints hlen hg=>?_
 have KX:=hY w _ Y
 obtain ⟨fd,hb,hF⟩:=F w mg fa _ KX G.T.g hmg
 exact z9I KX G.T.g G.T.b G.T.builtins G.T.nolimit hg hobj hints (Nat.le_trans hlen hn2) hr hF hb (fun H hO hS=>hsp w H a ns hlen hO hS) fun H e s'=>hCX w H s₁ e s'
def z2B (s:Stmt):Arguments:=match s with
 | .FunctionDef _ a _ _ _ _ _ _ _ _=>a
 | _=>{ posonlyargs:=[],args:=[],vararg:=none,kwonlyargs:=[],kw_defaults:=[],kwarg:=none,defaults:=[] }
def j6 (s:Stmt):List Stmt:=match s with
 | .FunctionDef _ _ b _ _ _ _ _ _ _=>b
 | _=>[]
def Z4 (s:Stmt):Scope:=match s with
 | .FunctionDef _ _ _ _ _ _ sc _ _ _=>sc
 | _=>{ kind:=.function,names:=[],isGenerator:=false,isCoroutine:=false }
abbrev CX0:CXT:=fun _ _ _ _ _ _=>False
abbrev E0:XK:=fun _ _ _=>False
theorem zF0 {X:Cx}:z6o CX0 X E0:=fun _ _ _ _ _ _ _ h=>h.elim
structure Fun (K:PySem.W.Frag) (x qual:Str) (st:Stmt) (f:Addr) (fd:FuncData):Prop where
 ex:∃ (oc:Value) (od:Option Addr) (kV doc pm:Value) (an:Option Addr) (cdv ct:Value) (osl:Array (Option Value)),
  fd=PySem.W.fnOf x qual (z2B st) (j6 st) (Z4 st) .none kV doc pm an cdv ct/\K.lookup f=some ⟨oc,od,.func fd,osl⟩/\PySem.W.codeIn K cdv qual=true
 kp:PySem.W.keepIn K (.ref f)=true
section
variable {P:Program}{w:World}{K:PySem.W.Frag}{mg:Str->Option Value}{base:Heap}
theorem Fun.ok {x qual:Str}{st:Stmt}{f:Addr}{fd:FuncData}{N ps:List Str}{k:Nat}{sp:Sp}(F:Fun K x qual st f fd) (S:FnScope N ps (Z4 st)) (len:∀ vs H Q E,sp vs H Q E->vs.length=ps.length)
 (hbody:∀ (cdv:Value) (A:Around) (outer:List Env) (s:Shared) (H:Hp) (vs:List V) (Q:VK) (E:XK),Room k (A.deeper (envOfC qual (Z4 st) s.heap.objs.size f cdv))->sp vs H Q E ->
  ∃ t,PSs (cxOf CX0 P w K mg base N qual (Z4 st) f cdv A outer s H E).nox (j6 st) t/\t { nx:=fun _ H'=>Q .non H',rt:=Q } (start N vs) H):FnOk P w K mg base CX0 (k+1) f fd ps sp:=by
 obtain ⟨oc,od,kV,doc,pm,an,cdv,ct,osl,rfl,lk,hcd⟩:=F.ex
 refine zk7 lk hcd S len fun A outer s H vs Q E hr hsp=>?_
 obtain ⟨t,h,q⟩:=hbody cdv A outer s H vs Q E hr hsp
 exact ⟨t,h.nox,q⟩
theorem Fun.binds {x qual:Str}{st:Stmt}{f:Addr}{fd:FuncData}{ps:List Str}(F:Fun K x qual st f fd)
 (h:∀ (kV doc pm:Value) (an:Option Addr) (cdv ct:Value) (us:List Value),us.length=ps.length->bindArgs (PySem.W.fnOf x qual (z2B st) (j6 st) (Z4 st) .none kV doc pm an cdv ct) ⟨us,[]⟩=pure (ps.zip us)):Binds K fd ps []:=by
 obtain ⟨oc,od,kV,doc,pm,an,cdv,ct,osl,rfl,lk,hcd⟩:=F.ex
 exact .all (h kV doc pm an cdv ct)
theorem zA5 {x qual:Str}{st:Stmt}{f:Addr}{oc:Value}{od an:Option Addr}{osl:Array (Option Value)}{kV doc pm cdv ct:Value}(l:K.lookup f=some ⟨oc,od,.func (PySem.W.fnOf x qual (z2B st) (j6 st) (Z4 st) .none kV doc pm an cdv ct),osl⟩)
 (c:PySem.W.codeIn K cdv qual=true) (k:PySem.W.keepIn K (.ref f)=true):Fun K x qual st f (PySem.W.fnOf x qual (z2B st) (j6 st) (Z4 st) .none kV doc pm an cdv ct):=⟨⟨oc,od,kV,doc,pm,an,cdv,ct,osl,rfl,l,c⟩,k⟩
end
section
variable {X:Cx}
end
abbrev z6q (ifs:List Expr) (env:Env):Sem Bool :=
 forIn ifs true fun c r=>if r=true then do { let ok ← isTrue c env (eval c env);pure (ForInStep.yield ok) } else pure (ForInStep.yield r)
theorem z8V {prog:Program}{w:World}{A:Around}{R:Result->Shared->Prop}{s:Shared}{elt target iter:Expr}
 {ifs:List Expr} {scope:Scope} {pos:Pos} {it acc:Value} {env:Env} (I:Nat->Shared->Prop)
 (turn:∀ n s,I n s->wpAny (model prog w) A (pyNext it) (fun r s1=>match r with
  | none=>R (.ok .next) s1
  | some v=>wpAny (model prog w) A (letOwnedTupleGo target it v) (fun _ s2 =>
   wpAny (model prog w) A (assign target env v) (fun _ s3 =>
    wpAny (model prog w) A (z6q ifs env) (fun ok s4 =>
     if ok=true then wpAny (model prog w) A (eval elt env) (fun x s5 =>
      wpAny (model prog w) A (call (.builtin "list.append") [acc,x]) (fun _ s6=>∃ m,m<n/\I m s6)
       (notedBy (model prog w) A env fun e s'=>R (.error e) s') s5)
       (notedBy (model prog w) A env fun e s'=>R (.error e) s') s4
     else ∃ m,m<n/\I m s4)
     (notedBy (model prog w) A env fun e s'=>R (.error e) s') s3)
    (notedBy (model prog w) A env fun e s'=>R (.error e) s') s2)
   (notedBy (model prog w) A env fun e s'=>R (.error e) s') s1)
  (notedBy (model prog w) A env fun e s'=>R (.error e) s') s)
 (n:Nat) (h:I n s) :
 codeAny (model prog w) A (.compLoop (.ListComp elt [⟨target,iter,ifs,0⟩] scope pos) 0 it acc env) R s:=by
 refine codeAny_loop rfl I (fun n s hI=>?_) n h
 show wpAny _ A ((compTurn (.ListComp elt [⟨target,iter,ifs,0⟩] scope pos) 0 it acc env).onRaise
  (fun x=>do noteFrame x env;theTreesLotGoes x)) _ _ s
 refine wpAny_noted ?_
 rw [compTurn_list]
 refine wpAny_bind (wpAny_standAt (wpAny_bind (wpAny_mono (turn n s hI) (fun r s1 h1=>?_) fun _ _ z=>z)))
 cases r with
 | none=>exact wpAny_pure h1
 | some v =>
  refine wpAny_bind (wpAny_mono h1 (fun _ s2 h2=>?_) fun _ _ z=>z)
  refine wpAny_bind (wpAny_mono h2 (fun _ s3 h3=>wpAny_bind (wpAny_mono h3 (fun ok s4 h4=>?_) fun _ _ z=>z)) fun _ _ z=>z)
  cases ok with
  | false=>exact wpAny_pure ⟨rfl,h4⟩
  | true =>
   refine wpAny_bind (wpAny_bind (wpAny_mono h4 (fun x s5 h5=>wpAny_bind (wpAny_mono h5 (fun _ s6 h6=>?_) fun _ _ z=>z)) fun _ _ z=>z))
   exact wpAny_pure (wpAny_pure ⟨rfl,h6⟩)
def z0e (env:Env):List (Str×NameKind)->List (Str×Addr)->List (Str×Addr)
 | [],acc=>acc
 | (n,k) :: r,acc=>z0e env r (if k == .free then match env.cells.lookup n with | some c=>(n,c) :: acc | none=>acc else acc)
theorem z2E {env:Env}:∀ (names:List (Str×NameKind)) (acc:List (Str×Addr)),(∀ x∈names,x.2=.free->∃ c,env.cells.lookup x.1=some c) ->
 (forIn names acc fun (x:Str×NameKind) (r:List (Str×Addr))=>(if (x.2 == NameKind.free)=true then do { let c ← cellOf env x.1;pure (ForInStep.yield ((x.1,c) :: r)) } else pure (ForInStep.yield r):Sem (ForInStep (List (Str×Addr)))))=(pure (z0e env names acc):Sem _)
 | [],acc,_=>by rw [List.forIn_nil];rfl
 | (n,k) :: r,acc,h=>by
  rw [List.forIn_cons]
  have hr:∀ x∈r,x.2=.free->∃ c,env.cells.lookup x.1=some c:=fun x hx=>h x (List.mem_cons_of_mem _ hx)
  by_cases hk:k=.free
  ·subst hk
   obtain ⟨c,hc⟩:=h (n,.free) List.mem_cons_self rfl
   have hc':env.cells.lookup n=some c:=hc
   simp only [z0e,beq_self_eq_true,if_true,cellOf,hc',pure_bind]
   exact z2E r _ hr
  ·have hb:(k == NameKind.free)=false:=by simpa using hk
   simp only [z0e,hb,Bool.false_eq_true,if_false,pure_bind]
   exact z2E r _ hr
theorem z2r {scope:Scope}{env:Env}(h:∀ x∈scope.names,x.2=.free->∃ c,env.cells.lookup x.1=some c) :
 closureFor scope env=pure (z0e env scope.names []):=by
 unfold closureFor
 exact congrArg (fun m:Sem (List (Str×Addr))=>m >>= fun z=>pure z) (z2E scope.names [] h)
theorem z60 {env:Env}:∀ (names:List (Str×NameKind)) (acc:List (Str×Addr)) {x:Str}{c:Addr},(z0e env names acc).lookup x=some c ->
 env.cells.lookup x=some c∨acc.lookup x=some c
 | [],acc,x,c,h=>.inr h
 | (n,k) :: r,acc,x,c,h=>by
  rcases z60 r _ h with q | q
  ·exact .inl q
  ·by_cases hk:(k == NameKind.free)=true
   ·rw [if_pos hk] at q
    cases e:env.cells.lookup n with
    | none=>rw [e] at q;exact .inr q
    | some c' =>
     rw [e] at q
     simp only [List.lookup_cons] at q
     cases hx:x == n with
     | true =>
      rw [hx] at q
      cases q
      have:x=n:=by simpa using hx
      subst this
      exact .inl e
     | false=>rw [hx] at q;exact .inr q
   ·rw [if_neg hk] at q
    exact .inr q
theorem z6m {env:Env}{x:Str}{c:Addr}(hc:env.cells.lookup x=some c):∀ (names:List (Str×NameKind)) (acc:List (Str×Addr)),
 acc.lookup x=some c->(z0e env names acc).lookup x=some c
 | [],acc,h=>h
 | (n,k) :: r,acc,h=>by
  refine z6m hc r _ ?_
  by_cases hk:(k == NameKind.free)=true
  ·rw [if_pos hk]
   cases e:env.cells.lookup n with
   | none=>exact h
   | some c' =>
    simp only [List.lookup_cons]
    cases hx:x == n with
    | true =>
     have:x=n:=by simpa using hx
     subst this
     rw [hc] at e
     exact e.symm
    | false=>exact h
  ·rw [if_neg hk];exact h
theorem z5w {env:Env}{x:Str}{c:Addr}(hc:env.cells.lookup x=some c):∀ (names:List (Str×NameKind)) (acc:List (Str×Addr)),
 (x,NameKind.free)∈names->(z0e env names acc).lookup x=some c
 | [],_,h=>absurd h (by simp)
 | (n,k) :: r,acc,h=>by
  rcases List.mem_cons.mp h with e | h
  ·cases e
   refine z6m hc r _ ?_
   rw [if_pos (by simp),hc]
   simp [List.lookup_cons]
  ·exact z5w hc r _ h
theorem z24 {sc:Scope}{env:Env}{x:Str}{k:NameKind}(h:(relabel sc env).names.lookup x=some k) :
 ∃ k0,sc.names.lookup x=some k0/\(k=k0∨(k=.cell/\k0=.free)):=by
 unfold relabel at h
 dsimp only at h
 generalize sc.names=ns at h ⊢
 induction ns with
 | nil=>simp at h
 | cons a r ih =>
  obtain ⟨n,k1⟩:=a
  simp only [List.map_cons] at h
  by_cases hc:(k1 == NameKind.free && env.scope.kind == .function && env.kindOf n == some .cell)=true
  ·rw [if_pos hc] at h
   simp only [List.lookup_cons] at h ⊢
   cases hx:x == n with
   | true =>
    rw [hx] at h
    cases h
    refine ⟨k1,rfl,.inr ⟨rfl,?_⟩⟩
    simp only [Bool.and_eq_true] at hc
    simpa using hc.1.1
   | false=>rw [hx] at h;exact ih h
  ·rw [if_neg hc] at h
   simp only [List.lookup_cons] at h ⊢
   cases hx:x == n with
   | true=>rw [hx] at h;cases h;exact ⟨_,rfl,.inl rfl⟩
   | false=>rw [hx] at h;exact ih h
theorem z4M {sc:Scope}{env:Env}{x:Str}(h:sc.names.lookup x=some .free) :
 (relabel sc env).names.lookup x=some .cell∨(relabel sc env).names.lookup x=some .free:=by
 unfold relabel
 dsimp only
 generalize sc.names=ns at h ⊢
 induction ns with
 | nil=>simp at h
 | cons a r ih =>
  obtain ⟨n,k1⟩:=a
  simp only [List.map_cons]
  simp only [List.lookup_cons] at h
  by_cases hc:(k1 == NameKind.free && env.scope.kind == .function && env.kindOf n == some .cell)=true
  ·rw [if_pos hc]
   simp only [List.lookup_cons]
   cases hx:x == n with
   | true=>exact .inl rfl
   | false=>rw [hx] at h;exact ih h
  ·rw [if_neg hc]
   simp only [List.lookup_cons]
   cases hx:x == n with
   | true=>rw [hx] at h;exact .inr h
   | false=>rw [hx] at h;exact ih h
structure CS (X:Cx) (sc:Scope) (N':List Str) (cap:List (Option Nat)):Prop where
 kind:sc.kind=.function
 nocell:∀ y∈sc.names,y.2≠.cell
 loc:∀ x∈sc.names,x.2=.local->sc.names.lookup x.1=some .local
 fr:∀ x∈sc.names,x.2=.free->X.env.kindOf x.1=some .cell∨X.env.kindOf x.1=some .free
 len:cap.length=N'.length
 capt:∀ (i j:Nat),cap[i]?=some (some j)->∃ x,N'[i]?=some x/\X.N[j]?=some x/\sc.names.lookup x=some .free
def z2Q (cap:List (Option Nat)) (σ:St):St:=cap.map fun o=>match o with | some j=>(σ[j]?).join | none=>none
def Cx.comp (X:Cx) (N':List Str) (sc:Scope) (s:Shared) (H:Hp) (fp:List Addr) (xe:Value->Shared->Prop):Cx :=
 { X with N:=N',s₀:=s,H₀:=H,env:=compEnvC sc (z0e X.env sc.names []) s.heap.objs.size X.env,outer:=X.stack,stack:=X.stack,ex:=fp,fn:=fun _=>false,pn:=[],xe:=xe }
section
variable {X:Cx}{pins:List (Addr×Obj)}{σ:St}{H:Hp}{s:Shared}{sc:Scope}{N':List Str}{cap:List (Option Nat)}{fp:List Addr}{xe:Value->Shared->Prop}{h':Heap}
theorem CS.cells (S:CS X sc N' cap) (I:Inv X pins σ H s):∀ x∈sc.names,x.2=.free->∃ c,X.env.cells.lookup x.1=some c:=fun x hx hf =>
 I.ok.has x.1 (S.fr x hx hf)
theorem Inv.compIn {t:Nat}(I:Inv X pins σ H s) (S:CS X sc N' cap) (hf:∀ b∈fp,FpOk X pins H b) (hlt:∀ b∈fp,b<s.heap.objs.size)
 (hns:h'.Ns s.heap.objs.size fun _=>none) (hk:∀ b o,s.heap.get? b=some o->h'.get? b=some o) :
 Inv (X.comp N' sc s H fp xe) [] (z2Q cap σ) H { s with heap:=h',toks:=t }:=by
 have hfrom:∀ {x c},(z0e X.env sc.names []).lookup x=some c->X.env.cells.lookup x=some c:=fun {x c} q=>by
  rcases z60 _ _ q with z | z
  ·exact z
  ·simp at z
 have hlook:∀ {x},((relabel sc X.env).names.lookup x=some .cell∨(relabel sc X.env).names.lookup x=some .free)->sc.names.lookup x=some .free:=fun {x} q=>by
  rcases q with q | q
  ·obtain ⟨k0,e,z⟩:=z24 q
   rcases z with z | z
   ·subst z;exact absurd rfl (S.nocell _ (PySem.mem_of_lookup e))
   ·rw [e,z.2]
  ·obtain ⟨k0,e,z⟩:=z24 q
   rcases z with z | z
   ·rw [e,z]
   ·cases z.1
 refine ⟨⟨I.ok.mod,?_,I.ok.glob,I.ok.blt,Nat.le_refl _,fun x y c h1 h2=>I.ok.inj x y c (hfrom h1) (hfrom h2),fun x hx=>?_,fun x c q=>absurd (show false=true from q) (by decide),I.ok.hd,I.ok.frames,.inl rfl,fun b hb=>⟨?_,fun x c q=>?_⟩,
  I.bs,Nat.le_trans I.ok.bsz I.sz,fun b o e hb=>?_,fun b hb hz=>?_,I.stack,I.stkFree⟩,
  rfl,I.bare,Un.kept hk,⟨_,hns,fun i x v h1 h2 h3=>?_⟩,fun x c q=>?_,I.hok.fresh (Nat.le_refl _),fun x c q=>I.freeC x c (hfrom q),fun p hp=>absurd (show p∈([]:List (Addr×Obj)) from hp) (by simp),I.hok.kept hk,?_⟩
 ·exact S.kind
 ·have e:=hlook hx
  have e2:=PySem.mem_of_lookup e
  obtain ⟨c,hc⟩:=I.ok.has x (S.fr _ e2 rfl)
  exact ⟨c,z5w hc _ _ e2⟩
 ·exact Nat.ne_of_lt (hlt b hb)
 ·exact (hf b hb).2.2.2.2.1 x c (hfrom q)
 ·rcases (hf b hb).2.2.2.1 with z | z
  ·exact I.ok.noex b o e z
  ·exact absurd (Nat.lt_of_lt_of_le (Heap.lt_size e) (Nat.le_trans I.ok.bsz z)) (Nat.lt_irrefl _)
 ·rcases List.mem_cons.mp (I.stkSub b hz) with z | z
  ·exact (hf b hb).2.1 z
  ·exact (hf b hb).2.2.1 z
 ·have h2':(cap.map fun o=>match o with | some j=>(σ[j]?).join | none=>none)[i]?=some (some v):=h2
  rw [List.getElem?_map] at h2'
  cases e:cap[i]? with
  | none=>rw [e] at h2';cases h2'
  | some o =>
   rw [e] at h2'
   cases o with
   | none=>simp at h2'
   | some j =>
    have hj:σ[j]?=some (some v):=by
     have h4:(σ[j]?).join=some v:=by simpa using h2'
     cases e2:σ[j]? with
     | none=>rw [e2] at h4;simp at h4
     | some o2=>rw [e2] at h4;simp at h4;rw [h4]
    obtain ⟨y,n1,n2,n3⟩:=S.capt i j e
    have ey:y=x:=by
     have h1':N'[i]?=some x:=h1
     rw [n1] at h1';exact Option.some.inj h1'
    subst ey
    have hm:=PySem.mem_of_lookup n3
    have hkind:=S.fr _ hm rfl
    obtain ⟨m,hn,hl⟩:=I.loc
    have vis:Vis X.env.scope y:=by
     rcases hkind with z | z
     ·exact .inr (.inl z)
     ·exact .inr (.inr z)
    obtain ⟨u,r,l⟩:=hl j y v n2 hj vis
    refine ⟨u,r,.inr ?_⟩
    rcases l with ⟨z,_⟩ | ⟨_,c,hc,hcell⟩
    ·have z':X.env.kindOf y=some .local:=z
     rcases hkind with q | q<;>(have q':X.env.kindOf y=_:=q;rw [z'] at q';cases q')
    ·obtain ⟨o,ho,hd⟩:=hcell
     exact ⟨z4M n3,c,z5w hc _ _ hm,o,hk c o ho,hd⟩
 ·obtain ⟨v,o,ho,hd⟩:=I.cell x c (hfrom q)
  exact ⟨v,o,hk c o ho,hd⟩
 ·show (cap.map _).length=N'.length
  rw [List.length_map];exact S.len
theorem Inv.compOut {pins':List (Addr×Obj)}{σ':St}{H':Hp}{s':Shared}(I:Inv X pins σ H s) (hf:∀ b∈fp,FpOk X pins H b)
 (J:Inv (X.comp N' sc s H fp xe) pins' σ' H' s') (hs:Heap.SameBut s.heap.objs.size s'.heap h'):Inv X pins σ H' { s' with heap:=h' }:=by
 have hu:Un (frs X.stack) fp H H' s.heap s'.heap:=J.base
 have hC:H' s.heap.objs.size=none:=J.free
 have lt:∀ {b:Addr} {o:Obj},s.heap.get? b=some o->b≠s.heap.objs.size:=fun e=>Nat.ne_of_lt (Heap.lt_size e)
 refine I.call' (s':={ s' with heap:=h' }) (ch:=fp) J.os ⟨fun b o e n h1 h2=>?_,fun b o e n h1 h2=>?_,hu.free,fun b o e h1=>?_,hu.tups,hu.frzs,hu.tbls⟩ (fun b u e=>?_) J.bare (fun b hb=>⟨(hf b hb).2.2.2.1,(hf b hb).2.1,(hf b hb).2.2.2.2.1,(hf b hb).2.2.2.2.2⟩)
 ·exact (hs.2 b (lt e)).trans (hu.keep b o e n h1 h2)
 ·obtain ⟨sl,q⟩:=hu.slot b o e n h1 h2
  exact ⟨sl,(hs.2 b (lt e)).trans q⟩
 ·obtain ⟨o',q⟩:=hu.there b o e h1
  exact ⟨o',(hs.2 b (lt e)).trans q⟩
 ·refine (J.hok b u e).stay (fun c v hc q=>?_) (fun _ q=>q) fun _ _ q=>q
  have ne:c≠s.heap.objs.size:=by
   rintro rfl
   rcases hc with z | z
   ·rw [← z,hC] at e;cases e
   ·rw [hC] at z;cases z
  exact (hs.2 c ne).trans q
end
def PTs (X:Cx) (ifs:List Expr) (t:TT):Prop :=
 ∀ (pins:List (Addr×Obj)) (s:Shared) (σ:St) (H:Hp) (Q:Bool->Hp->Prop),Inv X pins σ H s->t σ H Q->wpAny (model X.prog X.w) X.A (z6q ifs X.env) (TP X pins σ Q) X.xe s
def zg6:TT:=fun _ H Q=>Q true H
def zy8 (t r:TT):TT:=fun σ H Q=>t σ H fun b H1=>if b=true then r σ H1 Q else Q false H1
theorem z50 {X:Cx}{E:Value->Shared->Prop}{Q:Bool->Shared->Prop}:∀ {ifs:List Expr}{s:Shared},Q false s ->
 wpAny (model X.prog X.w) X.A (forIn ifs false fun c r=>if r=true then do { let ok ← isTrue c X.env (eval c X.env);pure (ForInStep.yield ok) } else pure (ForInStep.yield r)) Q E s
 | [],s,h=>by rw [List.forIn_nil];exact wpAny_pure h
 | c :: r,s,h=>by
  rw [List.forIn_cons]
  refine wpAny_bind ?_
  rw [if_neg (by decide)]
  exact wpAny_pure (z50 h)
theorem z94 {X:Cx}:PTs X [] zg6:=fun pins s σ H Q I h=>by
 unfold z6q
 rw [List.forIn_nil]
 exact wpAny_pure ⟨H,I,h⟩
theorem zc2 {X:Cx}{c:Expr}{r:List Expr}{t u:TT}(h1:PT X c t) (h2:PTs X r u):PTs X (c :: r) (zy8 t u):=fun pins s σ H Q I h=>by
 unfold z6q
 rw [List.forIn_cons]
 refine wpAny_bind ?_
 rw [if_pos rfl]
 refine wpAny_bind (thn (h1 pins s σ H _ I h) fun b s1 ⟨H1,I1,q1⟩=>wpAny_pure ?_)
 cases b with
 | true=>exact h2 pins s1 σ H1 Q I1 (by simpa using q1)
 | false=>exact z50 ⟨H1,I1,by simpa using q1⟩
def z3P (cap:List (Option Nat)) (g:TG) (ti:TT) (te:TE) (σ:St) (J:It) (D:Addr) (Q:Hp->Prop) (H:Hp):Prop :=
 ∃ W:Nat->Nat->Hp->Prop,(∃ m,W 0 m H)/\∀ i m H,W i m H ->
  (J.stop i H/\Q H)∨(J.go i H/\∀ x H1,J.yld i H x H1->g x (z2Q cap σ) H1 fun σ2 H2=>(∀ (j:Nat) v,(z2Q cap σ)[j]?=some (some v)->σ2[j]?=some (some v)) /\
   ti σ2 H2 fun ok H3=>if ok=true then te σ2 H3 fun v H4=>∃ acc,H4 D=some (.lst acc)/\acc.length<sizeLine/\∃ m',m'<m/\W (i+1) m' (upd H4 D (.lst (acc++[v])))
    else ∃ m',m'<m/\W (i+1) m' H3)
section
variable {X:Cx}{elt tg iter:Expr}{ifs:List Expr}{sc:Scope}{pos:Pos}{N':List Str}{cap:List (Option Nat)}{g:TG}{ti:TT}{te:TE}
theorem z4O {pins:List (Addr×Obj)}{σ:St}{H2:Hp}{s2:Shared}{it:Addr}{fp:List Addr}{tn:Nat->Heap->Prop}{J:It}{E:Value->Shared->Prop}{RR:Value->Addr->Result->Shared->Prop}{Q:Addr->Hp->Prop}
 (hc:X.calm=true) (S:CS X sc N' cap) (hg:∀ s H fp xe,PG (X.comp N' sc s H fp xe) tg g) (ht:∀ s H fp xe,PTs (X.comp N' sc s H fp xe) ifs ti) (he:∀ s H fp xe,PE (X.comp N' sc s H fp xe) elt te)
 (I2:Inv X pins σ H2 s2) (T:Turn X.prog X.w X.K tg J fp it tn) (st2:tn 0 s2.heap) (f2:∀ b∈fp,FpOk X pins H2 b)
 (hq:∀ D,H2 D=none->z3P cap g ti te σ J D (Q D) (upd H2 D (.lst [])))
 (hRR:∀ (D:Addr) (s3:Shared) (H3:Hp) (xe:Value->Shared->Prop) (H':Hp) (pins':List (Addr×Obj)) (σ':St) (s':Shared),Inv X pins σ H3 s3->(∀ b∈fp,FpOk X pins H3 b)->Inv (X.comp N' sc s3 H3 fp xe) pins' σ' H' s'->Q D H'->RR (.ref D) s3.heap.objs.size (.ok .next) s') :
 wpAny (model X.prog X.w) X.A (newList []) (fun acc s3=>wpAny (model X.prog X.w) X.A (newFunctionEnv sc X.env.globals (z0e X.env sc.names []) [] X.env.qual none .none (some X.env)) (fun cenv s4 =>
  codeAny (model X.prog X.w) X.A (.compStart (.ListComp elt [⟨tg,iter,ifs,0⟩] sc pos) 0 (.ref it) acc { cenv with scope:=relabel sc X.env }) (RR acc cenv.locals) s4) E s3) E s2:=by
 refine wpAny_newObj_type ?_
 have I3:=I2.lnew (ys:=[]) (its:=[]) (t':=s2.toks) .nil (Nat.zero_le _)
 have hfr:H2 s2.heap.objs.size=none:=I2.fresh
 have lt2:∀ b∈fp,b<s2.heap.objs.size:=fun b hb=>by
  obtain ⟨o,e,_⟩:=T.obj _ _ st2 b hb
  exact Heap.lt_size e
 generalize hD:s2.heap.objs.size=D at I3 hfr lt2 ⊢
 have r0:=hq D hfr
 generalize hs3:({ s2 with heap:=s2.heap.push { cls:=.type "list",data:=.seq ([]:List Value).toArray },toks:=s2.toks }:Shared)=s3 at I3
 have f3:∀ b∈fp,FpOk X pins (upd H2 D (.lst [])) b:=fun b hb=>⟨by rw [J5 (Nat.ne_of_lt (lt2 b hb))];exact (f2 b hb).1,(f2 b hb).2⟩
 have kp3:∀ b o,s2.heap.get? b=some o->s3.heap.get? b=some o:=fun b o e=>by rw [← hs3];exact Heap.get?_push_of_some _ e
 have st3:tn 0 s3.heap:=T.keep _ _ _ st2 fun b hb o e=>kp3 b o e
 have lt3:∀ b∈fp,b<s3.heap.objs.size:=fun b hb=>by
  obtain ⟨o,e,_⟩:=T.obj _ _ st3 b hb
  exact Heap.lt_size e
 generalize upd H2 D (.lst [])=H3 at I3 r0 f3
 refine wpAny_newFunctionEnv S.nocell (fun x hx=>absurd hx (by simp)) (fun h1 hns hsb=>?_) S.kind
 have kp4:∀ b o,s3.heap.get? b=some o->h1.get? b=some o:=fun b o e=>by
  rw [hsb.2 b (Nat.ne_of_lt (Heap.lt_size e))]
  exact Heap.get?_push_of_some _ e
 have hns':h1.Ns s3.heap.objs.size fun _=>none:=hns
 have st4:tn 0 h1:=T.keep _ _ _ st3 fun b hb o e=>kp4 b o e
 have frees:∀ b∈fp,H3 b=none:=fun b hb=>(f3 b hb).1
 have loop:codeAny (model X.prog X.w) X.A (.compLoop (.ListComp elt [⟨tg,iter,ifs,0⟩] sc pos) 0 (.ref it) (.ref D) (compEnvC sc (z0e X.env sc.names []) s3.heap.objs.size X.env))
  (RR (.ref D) s3.heap.objs.size) { s3 with heap:=h1,toks:=s3.toks+([]:List (Str×Value)).length }:=by
  let xe:Value->Shared->Prop:=notedBy (model X.prog X.w) X.A (compEnvC sc (z0e X.env sc.names []) s3.heap.objs.size X.env) fun e s'=>RR (.ref D) s3.heap.objs.size (.error e) s'
  have I4:Inv (X.comp N' sc s3 H3 fp xe) [] (z2Q cap σ) H3 { s3 with heap:=h1,toks:=s3.toks+([]:List (Str×Value)).length }:=I3.compIn S f3 lt3 hns' kp4
  have stat:∀ {H':Hp},(∀ b∈fp,H' b=none)->∀ b∈fp,FpOk (X.comp N' sc s3 H3 fp xe) [] H' b:=fun hn b hb=>by
   obtain ⟨q1,q2⟩:=I4.ok.exf b hb
   exact ⟨hn b hb,q1,I4.ok.exfs b hb,.inl hb,q2,fun p hp=>absurd (show p∈([]:List (Addr×Obj)) from hp) (by simp)⟩
  obtain ⟨W,⟨m0,w0⟩,turn⟩:=r0
  refine z8V (fun n s'=>∃ i H',Inv (X.comp N' sc s3 H3 fp xe) [] (z2Q cap σ) H' s'/\tn i s'.heap/\(∀ b∈fp,H' b=none)/\W i n H') ?_ m0 ⟨0,H3,I4,st4,frees,w0⟩
  rintro n s5 ⟨i,H5,I5,st5,fr5,w5⟩
  rcases turn i n H5 w5 with ⟨stop,qn⟩ | ⟨go,step⟩
  ·refine thn (T.done (X.comp N' sc s3 H3 fp xe) rfl rfl rfl hc i [] s5 _ H5 xe I5 (stat fr5) st5 stop) fun r s6 ⟨hr,I6⟩=>?_
   subst hr
   exact hRR D s3 H3 xe H5 [] _ s6 I3 f3 I6 qn
  ·refine thn (T.item (X.comp N' sc s3 H3 fp xe) rfl rfl rfl hc i [] s5 _ H5 xe I5 (stat fr5) st5 go) fun r s6 ⟨u,hr,h6⟩=>?_
   subst hr
   refine thn h6 fun _ s7 ⟨x,H7,I7,r7,y7,st7,fr7⟩=>?_
   have I7':=I7.pinned (stat fr7) (T.obj _ _ st7)
   refine thn (hg s3 H3 fp xe _ s7 _ H7 x u _ I7' r7 (step x H7 y7)) fun _ s8 ⟨σ8,H8,I8,k8,q8⟩=>?_
   refine thn (ht s3 H3 fp xe _ s8 σ8 H8 _ I8 q8) fun ok s9 ⟨H9,I9,q9⟩=>?_
   have again:∀ {σa:St} {Ha:Hp} {sa:Shared},Inv (X.comp N' sc s3 H3 fp xe) ([]++z5a fp s7.heap) σa Ha sa->(∀ (j:Nat) v,(z2Q cap σ)[j]?=some (some v)->σa[j]?=some (some v)) ->
    Inv (X.comp N' sc s3 H3 fp xe) [] (z2Q cap σ) Ha sa/\tn (i+1) sa.heap/\∀ b∈fp,Ha b=none:=fun {σa Ha sa} Ia ka=>by
    refine ⟨Ia.unpinned.weak (I5.len.trans Ia.len.symm) ka,T.keep _ _ _ st7 fun b hb o e=>(Ia.pin (b,o) (List.mem_append_right _ (List.mem_append_right _ (z1V hb e)))).1,fun b hb=>?_⟩
    obtain ⟨o,e,d⟩:=T.obj _ _ st7 b hb
    exact (Ia.pin (b,o) (List.mem_append_right _ (List.mem_append_right _ (z1V hb e)))).2.1
   cases ok with
   | false =>
    have q9':∃ m',m'<n/\W (i+1) m' H9:=by simpa using q9
    obtain ⟨m',hm,w9⟩:=q9'
    obtain ⟨a1,a2,a3⟩:=again I9 k8
    exact ⟨m',hm,i+1,H9,a1,a2,a3,w9⟩
   | true =>
    rw [if_pos rfl] at q9
    refine thn (he s3 H3 fp xe _ s9 σ8 H9 _ I9 q9) fun v sa ⟨y,Ha,Ia,ra,acc,ea,za,m',hm,wa⟩=>?_
    refine thn (z53 (X:=X.comp N' sc s3 H3 fp xe) _ sa σ8 Ha (.ref D) [y] (.ref D) [v] (fun _ H'=>H'=upd Ha D (.lst (acc++[y]))) Ia rfl (.cons ra .nil) ⟨D,acc,y,rfl,rfl,ea,za,rfl⟩) fun _ sb ⟨_,Hb,Ib,_,eb⟩=>?_
    subst eb
    obtain ⟨a1,a2,a3⟩:=again Ib k8
    exact ⟨m',hm,i+1,_,a1,a2,a3,wa⟩
 exact codeAny_compStart_list loop (T.self _ 0 _ _ _ st4 loop)
def zF7 (cap:List (Option Nat)) (wi:TI) (g:TG) (ti:TT) (te:TE):TE:=fun σ H Q=>wi σ H fun J H1=>∀ D,H1 D=none->z3P cap g ti te σ J D (fun H'=>Q (.ref D) H') (upd H1 D (.lst []))
theorem zo4 {wi:TI}(hc:X.calm=true) (S:CS X sc N' cap) (hi:PI X tg iter wi) (hg:∀ s H fp xe,PG (X.comp N' sc s H fp xe) tg g) (ht:∀ s H fp xe,PTs (X.comp N' sc s H fp xe) ifs ti)
 (he:∀ s H fp xe,PE (X.comp N' sc s H fp xe) elt te) (hs:∀ x,foldedSetIterable iter X.env x=pure x:=by intro _;rfl):PE X (.ListComp elt [⟨tg,iter,ifs,0⟩] sc pos) (zF7 cap wi g ti te):=by
 intro pins s σ H Q I h
 rw [eval_ListComp]
 refine wpAny_comprehension_free (use:=none) rfl hs (z2r (S.cells I)) S.kind S.loc (thn (hi pins s σ H _ I h) fun v s1 h1=>thn h1 fun itv s2 h2=>?_)
 obtain ⟨it,fp,tn,J,H2,e,I2,T,st2,f2,rq⟩:=h2
 subst e
 refine z4O (RR:=fun acc C=>compPost (model X.prog X.w) X.A X.xe none (EP X pins σ Q) acc C) (Q:=fun D H'=>Q (.ref D) H') hc S hg ht he I2 T st2 f2 rq ?_
 intro D s3 H3 xe H' pins' σ' s' I3 f3 J3 q
 obtain ⟨m,hn,_⟩:=id J3.loc
 exact ⟨m,hn,fun h' hs=>⟨.ref D,H',I3.compOut f3 J3 hs,rfl,q⟩⟩
def zH8 (cap:List (Option Nat)) (wi:TI) (g:TG) (ti:TT) (te:TE) (i:Nat):TS:=fun D σ H=>wi σ H fun J H1=>∀ d,H1 d=none->z3P cap g ti te σ J d (fun H'=>D.nx (σ.set i (some (.ref d))) H') (upd H1 d (.lst []))
theorem zo6 {wi:TI}{y:Str}{py spos:Pos}{i:Nat}(hc:X.calm=true) (S:CS X sc N' cap) (hi:PI X tg iter wi) (hg:∀ s H fp xe,PG (X.comp N' sc s H fp xe) tg g) (ht:∀ s H fp xe,PTs (X.comp N' sc s H fp xe) ifs ti)
 (he:∀ s H fp xe,PE (X.comp N' sc s H fp xe) elt te) (hN:X.N.Nodup) (hy:X.N[i]?=some y) (hl:X.env.scope.names.lookup y=some .local)
 (hsw:swapsWith (.ListComp elt [⟨tg,iter,ifs,0⟩] sc pos) (some (.Name y py)) spos.line X.env=pure true:=by rfl) (hs:∀ x,foldedSetIterable iter X.env x=pure x:=by intro _;rfl) :
 PS X (.Assign [.Name y py] (.ListComp elt [⟨tg,iter,ifs,0⟩] sc pos) spos) (zH8 cap wi g ti te i):=by
 intro pins s σ H D I h
 rw [exec_Assign_Name_used _ _ _ _ hsw]
 refine wpAny_bind (wpAny_standAt (wpAny_bind ?_))
 show wpAny _ X.A (do let _ ← comprehension (.ListComp elt [⟨tg,iter,ifs,0⟩] sc pos) sc X.env _ (newList []) false (eval iter X.env) (some (assign (.Name y py) X.env))) _ _ s
 refine wpAny_bind (wpAny_mono (wpAny_comprehension_free (use:=some (assign (.Name y py) X.env)) (Q:=fun _ s'=>SP X pins D .next s') rfl hs (z2r (S.cells I)) S.kind S.loc
  (thn (hi pins s σ H _ I h) fun v s1 h1=>thn h1 fun itv s2 h2=>?_)) (fun _ s' hq=>wpAny_pure (wpAny_pure hq)) fun _ _ z=>z)
 obtain ⟨it,fp,tn,J,H2,e,I2,T,st2,f2,rq⟩:=h2
 subst e
 refine z4O (RR:=fun acc C=>compPost (model X.prog X.w) X.A X.xe (some (assign (.Name y py) X.env)) (fun _ s'=>SP X pins D .next s') acc C) (Q:=fun d H'=>D.nx (σ.set i (some (.ref d))) H') hc S hg ht he I2 T st2 f2 rq ?_
 intro d s3 H3 xe H' pins' σ' s' I3 f3 J3 q
 obtain ⟨m,hn,_⟩:=id J3.loc
 have Is:Inv X pins σ H' s':=I3.compOut (h':=s'.heap) f3 J3 (Heap.SameBut.refl _ _)
 obtain ⟨oC,es,ep,hoC,hdC,hrC⟩:=id hn
 have hC:H' s3.heap.objs.size=none:=J3.free
 have neL:s3.heap.objs.size≠X.env.locals:=Nat.ne_of_gt I3.lt
 have nfs:s3.heap.objs.size∉X.fs:=I3.nofs (Nat.le_refl _)
 have Ip:Inv X (pins++[(s3.heap.objs.size,oC)]) σ H' s':=Is.pins_of fun p hp=>by
  rcases List.mem_append.mp hp with z | z
  ·exact Is.pin p (List.mem_append_right _ z)
  ·obtain rfl:p=(s3.heap.objs.size,oC):=by simpa using z
   exact ⟨hoC,hC,neL,nfs,fun v hv=>by have hdC':oC.data=_:=hdC;rw [hdC'] at hv;cases hv⟩
 show wpAny _ X.A (assign (.Name y py) X.env (.ref d)) _ _ s'
 refine thn (z5z (X:=X) (i:=i) hN hy (.inl hl) (.inr hl) _ s' σ H' (.ref d) (.ref d) (fun σ2 H2=>D.nx σ2 H2) Ip rfl q) fun _ s4 ⟨σ4,H4,I4,q4⟩=>?_
 have pn:=I4.pin (s3.heap.objs.size,oC) (List.mem_append_right _ (List.mem_append_right _ (by simp)))
 refine ⟨m,⟨oC,es,ep,pn.1,hdC,hrC⟩,fun h' hs=>⟨σ4,H4,?_,q4⟩⟩
 have I4u:Inv X pins σ4 H4 s4:=I4.unpinned
 have st:=I4u.step (g':=s4.gens) (t':=s4.toks) (d':=s4.drawn) (h':=h') (H':=H4) (ch:=[s3.heap.objs.size]) (fun b hb=>?_) (fun b o _ _ hc e _=>(hs.2 b (by simpa using hc)).trans e)
  (fun b o _ _ hc e _=>⟨o.slots,(hs.2 b (by simpa using hc)).trans e⟩) (fun _ _ _ _ n=>n) (fun b o hc e=>⟨o,(hs.2 b (by simpa using hc)).trans e⟩) (fun _ _ e=>e) (fun _ _ _ e=>e) (fun b ps e=>⟨#[],by rw [e];simp⟩) (fun m hm=>?_) (fun b u e=>?_) I4u.bare
 ·exact st
 ·have e:b=s3.heap.objs.size:=by simpa using hb
  subst e
  refine ⟨.inr I3.sz,neL,fun x c e2 z=>?_,fun p hp z=>?_⟩
  ·obtain ⟨v,q2⟩:=I3.cell x c e2
   exact absurd q2.lt (by rw [z];exact Nat.lt_irrefl _)
  ·have e3:=(I3.pin p hp).1
   exact absurd (Heap.lt_size e3) (by rw [z];exact Nat.lt_irrefl _)
 ·obtain ⟨o,es',ep',ho',r'⟩:=hm
  exact ⟨o,es',ep',(hs.2 _ (Ne.symm neL)).trans ho',r'⟩
 ·refine (I4u.hok b u e).stay (fun c v hc q=>?_) (fun _ q=>q) fun _ _ q=>q
  have n4:H4 s3.heap.objs.size=none:=pn.2.1
  have ne:c≠s3.heap.objs.size:=by
   rintro rfl
   rcases hc with z | z
   ·rw [← z,n4] at e;cases e
   ·rw [n4] at z;cases z
  exact (hs.2 c ne).trans q
end
end L2
namespace L2
open PySem
def excO (a C:Addr):HO:=.ext fun h=>∃ o,h.get? a=some o/\o.cls=.ref C
def dctO (a:Addr):HO:=.ext fun h=>∃ o,h.get? a=some o/\o.cls=.type "dict"
end L2
namespace FT
open PySem PySem.Spec PyProof.Rows L2
inductive D where
 | non | bl (b:Bool) | int (i:Int) | str (x:Str) | tup (xs:List D) | fl (xs:List D) | ref (n:Nat)
inductive O where
 | lst (xs:List D)
 | set (ks:List Key)
 | dct
 | dK (kvs:List (Key×D))
 | dF (kvs:List (Key×D))
 | exc (c:Str)
abbrev AH:=List O
abbrev G:=List (Option D)
structure Exn where
 cls:Str
 fs:List (Str×D)
inductive Res (α:Type) where
 | ok (a:α) (h:AH) | err (x:Exn) (h:AH) | bad
abbrev M (α:Type):=AH->Res α
def M.pure {α:Type} (a:α):M α:=fun h=>.ok a h
def M.bind {α β:Type} (m:M α) (f:α->M β):M β:=fun h=>match m h with
 | .ok a h1=>f a h1
 | .err x h1=>.err x h1
 | .bad=>.bad
instance:Monad M where
 pure:=M.pure
 bind:=M.bind
def bad {α:Type}:M α:=fun _=>.bad
theorem M.bind_eq {α β:Type}(m:M α) (f:α->M β) (h:AH):(m >>= f) h=match m h with
 | .ok a h1=>f a h1
 | .err x h1=>.err x h1
 | .bad=>.bad:=rfl
theorem M.bind_ok {α β:Type}{m:M α}{f:α->M β}{h h1:AH}{a:α}(e:m h=.ok a h1):(m >>= f) h=f a h1:=by rw [M.bind_eq,e]
def SqLP (K:PySem.W.Frag) (H:Hp) (a:Addr) (xs:List V):Prop :=
 (∃ o,H a=some (.frz o (.lst xs))) ∨
  ∃ (o:Obj) (its:Array Value) (n:Nat),K.lookup a=some o/\o.cls=.type "list"/\o.dict=none/\o.data=.seq its n/\its.size≤sizeLine/\Vals xs its.toList
theorem SqLP.sq {K:PySem.W.Frag}{H:Hp}{a:Addr}{xs:List V}(h:SqLP K H a xs):SqL K H a xs:=by
 rcases h with ⟨o,h⟩ | h
 ·exact .inl (.inr ⟨o,h⟩)
 ·exact .inr h
mutual
def RD (K:PySem.W.Frag) (ρ:List Addr) (H:Hp):D->V->Prop
 | .non,v=>v=.non
 | .bl b,v=>v=.bl b
 | .int i,v=>v=.int i
 | .str x,v=>v=.str x
 | .tup ds,v=>∃ a xs,v=.ref a/\SqT K H a xs/\RDs K ρ H ds xs
 | .fl ds,v=>∃ a xs,v=.ref a/\SqLP K H a xs/\RDs K ρ H ds xs
 | .ref n,v=>∃ a,v=.ref a/\ρ[n]?=some a
def RDs (K:PySem.W.Frag) (ρ:List Addr) (H:Hp):List D->List V->Prop
 | [],xs=>xs=[]
 | d :: ds,xs=>∃ x r,xs=x :: r/\RD K ρ H d x/\RDs K ρ H ds r
end
def Pre (ρ ρ':List Addr):Prop:=∀ (n:Nat) a,ρ[n]?=some a->ρ'[n]?=some a
theorem Pre.refl (ρ:List Addr):Pre ρ ρ:=fun _ _ h=>h
theorem Pre.trans {a b c:List Addr}(x:Pre a b) (y:Pre b c):Pre a c:=fun n z h=>y n z (x n z h)
theorem Pre.app (ρ r:List Addr):Pre ρ (ρ++r):=fun n a h=>by
 rw [List.getElem?_append_left (List.getElem?_eq_some_iff.mp h).1];exact h
structure Ext (K:PySem.W.Frag) (H H':Hp):Prop where
 t:∀ a xs,SqT K H a xs->SqT K H' a xs
 l:∀ a xs,SqLP K H a xs->SqLP K H' a xs
 d:∀ a o vs,H a=some (.frz o (.dK vs))->H' a=some (.frz o (.dK vs))
theorem Ext.refl (K:PySem.W.Frag) (H:Hp):Ext K H H:=⟨fun _ _ h=>h,fun _ _ h=>h,fun _ _ _ h=>h⟩
theorem Ext.trans {K:PySem.W.Frag}{a b c:Hp}(x:Ext K a b) (y:Ext K b c):Ext K a c:=⟨fun z xs h=>y.t z xs (x.t z xs h),fun z xs h=>y.l z xs (x.l z xs h),fun z o vs h=>y.d z o vs (x.d z o vs h)⟩
def Trk:HO->Prop
 | .lst _=>True
 | .set _=>True
 | .ext _=>True
 | .dK _=>True
 | _=>False
theorem Ext.upd {K:PySem.W.Frag}{H:Hp}{p:Addr}{o:HO}(h:H p=none∨∃ u,H p=some u/\Trk u):Ext K H (upd H p o):=by
 have ne:∀ {b:Addr} {u:HO},H b=some u->¬ Trk u->b≠p:=fun {b u} e n z=>by
  subst z
  rcases h with h | ⟨u',h,tr⟩
  ·rw [h] at e;cases e
  ·rw [h] at e;cases e;exact n tr
 refine ⟨fun a xs q=>?_,fun a xs q=>?_,fun a o vs q=>by rw [J5 (ne q (fun z=>z))];exact q⟩
 ·rcases q with (q | ⟨u,q⟩) | q
  ·exact .inl (.inl (by rw [J5 (ne q (fun z=>z))];exact q))
  ·exact .inl (.inr ⟨u,by rw [J5 (ne q (fun z=>z))];exact q⟩)
  ·exact .inr q
 ·rcases q with ⟨u,q⟩ | q
  ·exact .inl ⟨u,by rw [J5 (ne q (fun z=>z))];exact q⟩
  ·exact .inr q
section
variable {K:PySem.W.Frag}{ρ ρ':List Addr}{H H':Hp}
mutual
theorem RD.mono (p:Pre ρ ρ') (e:Ext K H H'):∀ {d:D}{v:V},RD K ρ H d v->RD K ρ' H' d v
 | .non,v,h=>by simpa [RD] using h
 | .bl b,v,h=>by simpa [RD] using h
 | .int b,v,h=>by simpa [RD] using h
 | .str b,v,h=>by simpa [RD] using h
 | .tup ds,v,h=>by
  simp only [RD] at h ⊢
  obtain ⟨a,xs,h1,h2,h3⟩:=h
  exact ⟨a,xs,h1,e.t a xs h2,RDs.mono p e h3⟩
 | .fl ds,v,h=>by
  simp only [RD] at h ⊢
  obtain ⟨a,xs,h1,h2,h3⟩:=h
  exact ⟨a,xs,h1,e.l a xs h2,RDs.mono p e h3⟩
 | .ref n,v,h=>by
  simp only [RD] at h ⊢
  obtain ⟨a,h1,h2⟩:=h
  exact ⟨a,h1,p n a h2⟩
theorem RDs.mono (p:Pre ρ ρ') (e:Ext K H H'):∀ {ds:List D}{xs:List V},RDs K ρ H ds xs->RDs K ρ' H' ds xs
 | [],xs,h=>by simpa [RDs] using h
 | d :: ds,xs,h=>by
  simp only [RDs] at h ⊢
  obtain ⟨x,r,h1,h2,h3⟩:=h
  exact ⟨x,r,h1,RD.mono p e h2,RDs.mono p e h3⟩
end
theorem RDs.nil:RDs K ρ H [] []:=by simp [RDs]
theorem RDs.cons {d:D}{ds:List D}{x:V}{xs:List V}(h:RD K ρ H d x) (t:RDs K ρ H ds xs):RDs K ρ H (d :: ds) (x :: xs):=by
 simp only [RDs];exact ⟨x,xs,rfl,h,t⟩
theorem RDs.pair:∀ {ds:List D}{xs:List V},RDs K ρ H ds xs->Paired (RD K ρ H) ds xs
 | [],xs,h=>by simp only [RDs] at h;subst h;exact .nil
 | d :: ds,xs,h=>by
  simp only [RDs] at h
  obtain ⟨x,r,rfl,h2,h3⟩:=h
  exact .cons h2 h3.pair
theorem RDs.length {ds:List D}{xs:List V}(h:RDs K ρ H ds xs):ds.length=xs.length:=Paired.length h.pair
theorem RDs.append {a b:List D}{xs ys:List V}(h:RDs K ρ H a xs) (t:RDs K ρ H b ys):RDs K ρ H (a++b) (xs++ys):=by
 induction a generalizing xs with
 | nil=>simp only [RDs] at h;subst h;exact t
 | cons d ds ih =>
  simp only [RDs] at h
  obtain ⟨x,r,rfl,h2,h3⟩:=h
  exact RDs.cons h2 (ih h3)
theorem RDs.get {ds:List D}{xs:List V}{i:Nat}{d:D}(h:RDs K ρ H ds xs) (e:ds[i]?=some d):∃ x,xs[i]?=some x/\RD K ρ H d x:=by
 induction ds generalizing xs i with
 | nil=>simp at e
 | cons a ds ih =>
  simp only [RDs] at h
  obtain ⟨x,r,rfl,h2,h3⟩:=h
  cases i with
  | zero=>simp at e;subst e;exact ⟨x,rfl,h2⟩
  | succ i =>
   obtain ⟨y,h4,h5⟩:=ih h3 (by simpa using e)
   exact ⟨y,by simpa using h4,h5⟩
theorem RDs.drop {ds:List D}{xs:List V}(n:Nat) (h:RDs K ρ H ds xs):RDs K ρ H (ds.drop n) (xs.drop n):=by
 induction n generalizing ds xs with
 | zero=>exact h
 | succ n ih=>cases ds with
  | nil=>simp only [RDs] at h;subst h;exact RDs.nil
  | cons d ds=>simp only [RDs] at h;obtain ⟨x,r,rfl,h2,h3⟩:=h;exact ih h3
theorem RDs.take {ds:List D}{xs:List V}(n:Nat) (h:RDs K ρ H ds xs):RDs K ρ H (ds.take n) (xs.take n):=by
 induction n generalizing ds xs with
 | zero=>exact RDs.nil
 | succ n ih=>cases ds with
  | nil=>simp only [RDs] at h;subst h;exact RDs.nil
  | cons d ds=>simp only [RDs] at h;obtain ⟨x,r,rfl,h2,h3⟩:=h;exact RDs.cons h2 (ih h3)
theorem RDs.set {ds:List D}{xs:List V}{d:D}{x:V}(n:Nat) (h:RDs K ρ H ds xs) (hd:RD K ρ H d x):RDs K ρ H (ds.set n d) (xs.set n x):=by
 induction n generalizing ds xs with
 | zero=>cases ds with
  | nil=>simp only [RDs] at h;subst h;exact RDs.nil
  | cons a ds=>simp only [RDs] at h;obtain ⟨y,r,rfl,h2,h3⟩:=h;exact RDs.cons hd h3
 | succ n ih=>cases ds with
  | nil=>simp only [RDs] at h;subst h;exact RDs.nil
  | cons a ds=>simp only [RDs] at h;obtain ⟨y,r,rfl,h2,h3⟩:=h;exact RDs.cons h2 (ih h3)
theorem RDs.eraseIdx {ds:List D}{xs:List V}(n:Nat) (h:RDs K ρ H ds xs):RDs K ρ H (ds.eraseIdx n) (xs.eraseIdx n):=by
 induction n generalizing ds xs with
 | zero=>cases ds with
  | nil=>simp only [RDs] at h;subst h;exact RDs.nil
  | cons a ds=>simp only [RDs] at h;obtain ⟨y,r,rfl,h2,h3⟩:=h;exact h3
 | succ n ih=>cases ds with
  | nil=>simp only [RDs] at h;subst h;exact RDs.nil
  | cons a ds=>simp only [RDs] at h;obtain ⟨y,r,rfl,h2,h3⟩:=h;exact RDs.cons h2 (ih h3)
theorem RDs.flat {ds:List D}{xs:List V}(n:Nat) (h:RDs K ρ H ds xs):RDs K ρ H (List.replicate n ds).flatten (List.replicate n xs).flatten:=by
 induction n with
 | zero=>exact RDs.nil
 | succ n ih=>rw [List.replicate_succ,List.flatten_cons,List.replicate_succ,List.flatten_cons];exact h.append ih
def RK (K:PySem.W.Frag) (ρ:List Addr) (H:Hp):List (Key×D)->List (Key×V)->Prop:=Paired fun p q=>p.1=q.1/\RD K ρ H p.2 q.2
theorem RK.imp {α β:Type}{P Q:α->β->Prop}(f:∀ a b,P a b->Q a b):∀ {xs:List α}{ys:List β},Paired P xs ys->Paired Q xs ys
 | _,_,.nil=>.nil
 | _,_,.cons a b=>.cons (f _ _ a) (RK.imp f b)
theorem RK.mono {kvs:List (Key×D)}{vs:List (Key×V)}(p:Pre ρ ρ') (e:Ext K H H') (r:RK K ρ H kvs vs):RK K ρ' H' kvs vs:=RK.imp (fun _ _ h=>⟨h.1,h.2.mono p e⟩) r
def RO (K:PySem.W.Frag) (ρ:List Addr) (H:Hp) (o:O) (a:Addr):Prop:=match o with
 | .lst ds=>∃ xs,H a=some (.lst xs)/\RDs K ρ H ds xs
 | .set ks=>H a=some (.set ks)
 | .dct=>H a=some (dctO a)
 | .dK kvs=>∃ vs,H a=some (.dK vs)/\RK K ρ H kvs vs
 | .dF kvs=>∃ ob vs,H a=some (.frz ob (.dK vs))/\RK K ρ H kvs vs
 | .exc c=>∃ C,PySem.W.nsIn K mainGlobals c=some (some (.ref C))/\H a=some (excO a C)
structure RH (K:PySem.W.Frag) (ρ:List Addr) (h:AH) (H:Hp):Prop where
 len:ρ.length=h.length
 nd:∀ (i j:Nat) a,ρ[i]?=some a->ρ[j]?=some a->i=j
 obj:∀ (n:Nat) o a,h[n]?=some o->ρ[n]?=some a->RO K ρ H o a
theorem RH.at {h:AH}(r:RH K ρ h H) {n:Nat}{o:O}(e:h[n]?=some o):∃ a,ρ[n]?=some a/\RO K ρ H o a:=by
 have hi:=(List.getElem?_eq_some_iff.mp e).1
 have hj:n<ρ.length:=by rw [r.len];exact hi
 have q:ρ[n]?=some ρ[n]:=List.getElem?_eq_getElem hj
 exact ⟨_,q,r.obj n o _ e q⟩
def O.fz:O->Bool
 | .dF _=>true
 | _=>false
theorem RO.there {o:O}{a:Addr}(z:RO K ρ H o a):∃ u,H a=some u/\(o.fz=false->Trk u):=by
 cases o with
 | lst ds=>obtain ⟨xs,z,_⟩:=z;exact ⟨_,z,fun _=>trivial⟩
 | set ks=>exact ⟨_,z,fun _=>trivial⟩
 | dct=>exact ⟨_,z,fun _=>trivial⟩
 | dK kvs=>obtain ⟨vs,z,_⟩:=z;exact ⟨_,z,fun _=>trivial⟩
 | dF kvs=>obtain ⟨ob,vs,z,_⟩:=z;exact ⟨_,z,fun q=>by cases q⟩
 | exc c=>obtain ⟨C,_,z⟩:=z;exact ⟨_,z,fun _=>trivial⟩
theorem RH.there {h:AH}(r:RH K ρ h H) {n:Nat}{a:Addr}(e:ρ[n]?=some a):∃ u,H a=some u:=by
 have hi:=(List.getElem?_eq_some_iff.mp e).1
 have hj:n<h.length:=by rw [← r.len];exact hi
 obtain ⟨u,z,_⟩:=(r.obj n _ a (List.getElem?_eq_getElem hj) e).there
 exact ⟨u,z⟩
theorem RH.tracked {h:AH}(r:RH K ρ h H) {n:Nat}{a:Addr}{o:O}(e:ρ[n]?=some a) (eo:h[n]?=some o) (nf:o.fz=false:=by rfl):∃ u,H a=some u/\Trk u:=by
 obtain ⟨u,z,q⟩:=(r.obj n _ a eo e).there
 exact ⟨u,z,q nf⟩
theorem RO.mono {o:O}{a:Addr}(p:Pre ρ ρ') (e:Ext K H H') (hs:H' a=H a) (r:RO K ρ H o a):RO K ρ' H' o a:=by
 cases o with
 | lst ds=>obtain ⟨xs,h1,h2⟩:=r;exact ⟨xs,hs.trans h1,h2.mono p e⟩
 | set ks=>exact hs.trans r
 | dct=>exact hs.trans r
 | dK kvs=>obtain ⟨vs,h1,h2⟩:=r;exact ⟨vs,hs.trans h1,h2.mono p e⟩
 | dF kvs=>obtain ⟨ob,vs,h1,h2⟩:=r;exact ⟨ob,vs,hs.trans h1,h2.mono p e⟩
 | exc c=>obtain ⟨C,h1,h2⟩:=r;exact ⟨C,h1,hs.trans h2⟩
theorem RH.other {h:AH}{p:Addr}{o:HO}(r:RH K ρ h H) (hp:H p=none):RH K ρ h (upd H p o) :=
 ⟨r.len,r.nd,fun n u a h1 h2=>(r.obj n u a h1 h2).mono (Pre.refl _) (Ext.upd (.inl hp)) (by
  obtain ⟨u,q⟩:=r.there h2
  exact J5 (J6 q hp))⟩
theorem RH.pushO {h:AH}{p:Addr}{o':O}{u:HO}(r:RH K ρ h H) (hp:H p=none) (hd:RO K (ρ++[p]) (upd H p u) o' p):RH K (ρ++[p]) (h++[o']) (upd H p u):=by
 have ne:∀ {n:Nat} {a:Addr},ρ[n]?=some a->a≠p:=fun e=>by
  obtain ⟨xs,q⟩:=r.there e
  exact J6 q hp
 have ext:Ext K H (L2.upd H p u):=Ext.upd (.inl hp)
 refine ⟨by simp [r.len],fun i j a h1 h2=>?_,fun n o a h1 h2=>?_⟩
 ·rw [List.getElem?_append] at h1 h2
  split at h1<;>split at h2
  ·exact r.nd i j a h1 h2
  ·rename_i hi hj
   rw [List.getElem?_singleton] at h2
   split at h2
   ·cases h2;exact absurd rfl (ne h1)
   ·cases h2
  ·rename_i hi hj
   rw [List.getElem?_singleton] at h1
   split at h1
   ·cases h1;exact absurd rfl (ne h2)
   ·cases h1
  ·rename_i hi hj
   rw [List.getElem?_singleton] at h1 h2
   split at h1
   ·split at h2
    ·omega
    ·cases h2
   ·cases h1
 ·rw [List.getElem?_append] at h1 h2
  rw [r.len] at h2
  split at h1
  ·rename_i hn
   rw [if_pos hn] at h2
   exact (r.obj n o a h1 h2).mono (Pre.app _ _) ext (J5 (ne h2))
  ·rename_i hn
   rw [if_neg hn] at h2
   rw [List.getElem?_singleton] at h1 h2
   split at h1
   ·rename_i h0
    rw [if_pos h0] at h2
    cases h1;cases h2
    exact hd
   ·cases h1
theorem RH.push {h:AH}{p:Addr}{ds:List D}{xs:List V}(r:RH K ρ h H) (hp:H p=none) (hd:RDs K ρ H ds xs):RH K (ρ++[p]) (h++[.lst ds]) (upd H p (.lst xs)) :=
 r.pushO hp ⟨xs,z06,hd.mono (Pre.app _ _) (Ext.upd (.inl hp))⟩
theorem RH.pushS {h:AH}{p:Addr}{ks:List Key}(r:RH K ρ h H) (hp:H p=none):RH K (ρ++[p]) (h++[.set ks]) (upd H p (.set ks)):=r.pushO hp z06
theorem RH.setO {h:AH}{n:Nat}{a:Addr}{o0 o':O}{u:HO}(r:RH K ρ h H) (e:h[n]?=some o0) (ea:ρ[n]?=some a) (hd:RO K ρ (upd H a u) o' a) (nf:o0.fz=false:=by rfl):RH K ρ (h.set n o') (upd H a u):=by
 have ext:Ext K H (L2.upd H a u):=Ext.upd (.inr (r.tracked ea e nf))
 refine ⟨by simp [r.len],r.nd,fun m o b h1 h2=>?_⟩
 by_cases hm:m=n
 ·subst hm
  rw [ea] at h2;cases h2
  have hi:=(List.getElem?_eq_some_iff.mp e).1
  rw [List.getElem?_set_self hi] at h1
  cases h1
  exact hd
 ·rw [List.getElem?_set_ne (fun z=>hm z.symm)] at h1
  exact (r.obj m o b h1 h2).mono (Pre.refl _) ext (J5 fun z=>hm (r.nd m n b h2 (by rw [z];exact ea)))
theorem RH.set {h:AH}{n:Nat}{a:Addr}{ds0 ds:List D}{xs:List V}(r:RH K ρ h H) (e:h[n]?=some (.lst ds0)) (ea:ρ[n]?=some a) (hd:RDs K ρ H ds xs):RH K ρ (h.set n (.lst ds)) (upd H a (.lst xs)) :=
 r.setO e ea ⟨xs,z06,hd.mono (Pre.refl _) (Ext.upd (.inr (r.tracked ea e)))⟩
structure RG (K:PySem.W.Frag) (ρ:List Addr) (H:Hp) (γ:G) (σ:L2.St):Prop where
 len:γ.length=σ.length
 var:∀ (i:Nat) d,γ[i]?=some (some d)->∃ v,σ[i]?=some (some v)/\RD K ρ H d v
theorem RG.mono {γ:G}{σ:L2.St}(p:Pre ρ ρ') (e:Ext K H H') (r:RG K ρ H γ σ):RG K ρ' H' γ σ :=
 ⟨r.len,fun i d h=>let ⟨v,h1,h2⟩:=r.var i d h;⟨v,h1,h2.mono p e⟩⟩
theorem RG.set {γ:G}{σ:L2.St}{d:D}{v:V}(r:RG K ρ H γ σ) (i:Nat) (hd:RD K ρ H d v):RG K ρ H (γ.set i (some d)) (σ.set i (some v)):=by
 refine ⟨by simp [r.len],fun j d' h=>?_⟩
 by_cases hj:i=j
 ·subst hj
  have hi:i<γ.length:=by
   have:=(List.getElem?_eq_some_iff.mp h).1
   simpa using this
  rw [List.getElem?_set_self hi] at h
  cases h
  exact ⟨v,List.getElem?_set_self (by rw [← r.len];exact hi),hd⟩
 ·rw [List.getElem?_set_ne hj] at h ⊢
  exact r.var j d' h
structure Rel (K:PySem.W.Frag) (ρ:List Addr) (γ:G) (h:AH) (σ:L2.St) (H:Hp):Prop where
 g:RG K ρ H γ σ
 h:RH K ρ h H
abbrev XX:=Exn->List Addr->AH->Hp->Prop
def Fin {α:Type} (K:PySem.W.Frag) (EX:XX) (ρ:List Addr) (H:Hp) (P:α->List Addr->AH->Hp->Prop):Res α->Prop
 | .ok a h'=>∀ ρ' H',Pre ρ ρ'->Ext K H H'->RH K ρ' h' H'->P a ρ' h' H'
 | .err x h'=>∀ ρ' H',Pre ρ ρ'->Ext K H H'->RH K ρ' h' H'->EX x ρ' h' H'
 | .bad=>False
variable {EX:XX}{α β:Type}
theorem Fin.up {P:α->List Addr->AH->Hp->Prop}{r:Res α}(p:Pre ρ ρ') (e:Ext K H H') (f:Fin K EX ρ H P r):Fin K EX ρ' H' P r:=by
 cases r with
 | ok a h=>exact fun ρ2 H2 p2 e2 r2=>f ρ2 H2 (p.trans p2) (e.trans e2) r2
 | err x h=>exact fun ρ2 H2 p2 e2 r2=>f ρ2 H2 (p.trans p2) (e.trans e2) r2
 | bad=>exact f
theorem Fin.mono {P P':α->List Addr->AH->Hp->Prop}{r:Res α}(f:Fin K EX ρ H P r) (h:∀ a ρ' h' H',Pre ρ ρ'->Ext K H H'->RH K ρ' h' H'->P a ρ' h' H'->P' a ρ' h' H'):Fin K EX ρ H P' r:=by
 cases r with
 | ok a h1=>exact fun ρ2 H2 p2 e2 r2=>h a ρ2 h1 H2 p2 e2 r2 (f ρ2 H2 p2 e2 r2)
 | err x h1=>exact f
 | bad=>exact f
theorem Fin.bind {P:β->List Addr->AH->Hp->Prop}{m:M α}{f:α->M β}{h:AH}(z:Fin K EX ρ H P ((m >>= f) h)):Fin K EX ρ H (fun a ρ1 h1 H1=>Fin K EX ρ1 H1 P (f a h1)) (m h):=by
 rw [M.bind_eq] at z
 cases e:m h with
 | ok a h1=>rw [e] at z;exact fun ρ2 H2 p2 e2 r2=>Fin.up p2 e2 z
 | err x h1=>rw [e] at z;exact z
 | bad=>rw [e] at z;exact z
end
def tE (K:PySem.W.Frag) (EX:XX) (m:G->M D):TE:=fun σ H Q=>∃ ρ γ h,Rel K ρ γ h σ H/\Fin K EX ρ H (fun d ρ' _ H'=>∀ v,RD K ρ' H' d v->Q v H') (m γ h)
def tT (K:PySem.W.Frag) (EX:XX) (m:G->M Bool):TT:=fun σ H Q=>∃ ρ γ h,Rel K ρ γ h σ H/\Fin K EX ρ H (fun b _ _ H'=>Q b H') (m γ h)
def tL (K:PySem.W.Frag) (EX:XX) (m:G->M (List D)):TA:=fun σ H Q=>∃ ρ γ h,Rel K ρ γ h σ H/\Fin K EX ρ H (fun ds ρ' _ H'=>∀ vs,RDs K ρ' H' ds vs->Q vs H') (m γ h)
inductive Out where
 | nx (γ:G) | rt (d:D) | bk (γ:G) | ct (γ:G)
def OutP (K:PySem.W.Frag) (D:Ends) (o:Out) (ρ:List Addr) (H:Hp):Prop:=match o with
 | .nx γ=>∀ σ,RG K ρ H γ σ->D.nx σ H
 | .rt d=>∀ v,RD K ρ H d v->D.rt v H
 | .bk γ=>∀ σ,RG K ρ H γ σ->D.bk σ H
 | .ct γ=>∀ σ,RG K ρ H γ σ->D.ct σ H
def tB (K:PySem.W.Frag) (EX:XX) (m:G->M Out):TS:=fun D σ H=>∃ ρ γ h,Rel K ρ γ h σ H/\Fin K EX ρ H (fun o ρ' _ H'=>OutP K D o ρ' H') (m γ h)
structure SE (X:Cx) (EX:XX) (e:Expr) (m:G->M D):Prop where
 h:PE X e (tE X.K EX m)
structure SC (X:Cx) (EX:XX) (e:Expr) (m:G->M Bool):Prop where
 h:PT X e (tT X.K EX m)
structure SA (X:Cx) (EX:XX) (es:List Expr) (m:G->M (List D)):Prop where
 h:PA X es (tL X.K EX m)
structure S1 (X:Cx) (EX:XX) (st:Stmt) (m:G->M Out):Prop where
 h:PS X st (tB X.K EX m)
structure SB (X:Cx) (EX:XX) (st:List Stmt) (m:G->M Out):Prop where
 h:PSs X st (tB X.K EX m)
theorem PE.imp {X:Cx}{e:Expr}{t t':TE}(h:PE X e t) (f:∀ σ H Q,t' σ H Q->t σ H Q):PE X e t':=fun pins s σ H Q I z=>h pins s σ H Q I (f σ H Q z)
theorem PT.imp {X:Cx}{e:Expr}{t t':TT}(h:PT X e t) (f:∀ σ H Q,t' σ H Q->t σ H Q):PT X e t':=fun pins s σ H Q I z=>h pins s σ H Q I (f σ H Q z)
theorem PA.imp {X:Cx}{e:List Expr}{t t':TA}(h:PA X e t) (f:∀ σ H Q,t' σ H Q->t σ H Q):PA X e t':=fun pos pins s σ H Q I z=>h pos pins s σ H Q I (f σ H Q z)
theorem PS.imp {X:Cx}{e:Stmt}{t t':TS}(h:PS X e t) (f:∀ σ H Q,t' Q σ H->t Q σ H):PS X e t':=fun pins s σ H Q I z=>h pins s σ H Q I (f σ H Q z)
theorem PSs.imp {X:Cx}{e:List Stmt}{t t':TS}(h:PSs X e t) (f:∀ σ H Q,t' Q σ H->t Q σ H):PSs X e t':=fun pins s σ H Q I z=>h pins s σ H Q I (f σ H Q z)
abbrev FE (K:PySem.W.Frag) (EX:XX) (ρ:List Addr) (H:Hp) (Q:VK) (r:Res D):Prop:=Fin K EX ρ H (fun d ρ' _ H'=>∀ v,RD K ρ' H' d v->Q v H') r
theorem FE.here {K:PySem.W.Frag}{EX:XX}{ρ:List Addr}{H:Hp}{Q:VK}{d:D}{h:AH}{v:V}(f:FE K EX ρ H Q (.ok d h)) (r:RH K ρ h H) (rd:RD K ρ H d v):Q v H:=f ρ H (Pre.refl _) (Ext.refl _ _) r v rd
theorem FE.tup {K:PySem.W.Frag}{EX:XX}{ρ:List Addr}{H:Hp}{Q:VK}{ds:List D}{xs:List V}{h:AH}{p:Addr}(f:FE K EX ρ H Q (.ok (.tup ds) h)) (r:RH K ρ h H) (hd:RDs K ρ H ds xs) (hp:H p=none):Q (.ref p) (upd H p (.tup xs)):=by
 have e:Ext K H (L2.upd H p (.tup xs)):=Ext.upd (.inl hp)
 refine f ρ _ (Pre.refl _) e (r.other hp) _ ?_
 simp only [RD]
 exact ⟨p,xs,rfl,SqT.of z06,hd.mono (Pre.refl _) e⟩
theorem FE.lst {K:PySem.W.Frag}{EX:XX}{ρ:List Addr}{H:Hp}{Q:VK}{ds:List D}{xs:List V}{h:AH}{p:Addr}(f:FE K EX ρ H Q (.ok (.ref h.length) (h++[.lst ds]))) (r:RH K ρ h H) (hd:RDs K ρ H ds xs) (hp:H p=none):Q (.ref p) (upd H p (.lst xs)):=by
 refine f (ρ++[p]) _ (Pre.app _ _) (Ext.upd (.inl hp)) (r.push hp hd) _ ?_
 simp only [RD]
 refine ⟨p,rfl,?_⟩
 rw [← r.len];simp
def getL (n:Nat):M (List D):=fun h=>match h[n]? with
 | some (.lst xs)=>.ok xs h
 | _=>.bad
def newL (xs:List D):M D:=fun h=>if xs.length≤sizeLine then .ok (.ref h.length) (h++[.lst xs]) else .bad
section
variable {X:Cx}{EX:XX}{a b c e:Expr}{pos:Pos}{ma mb mc:G->M D}
def eVar (i:Nat):G->M D:=fun γ=>match γ[i]? with
 | some (some d)=>pure d
 | _=>bad
theorem z6 (i:Nat) {x:Str}(hN:X.N[i]?=some x:=by rfl) (hv:Vis X.env.scope x:=by first | exact Or.inl rfl | exact Or.inr (Or.inl rfl) | exact Or.inr (Or.inr rfl))
 (hd:(x == ("__debug__":Str))=false:=by decide) (hcd:(x == ("__classdict__":Str))=false:=by decide):SE X EX (.Name x pos) (eVar i) :=
 ⟨PE.imp (zz7 hN hv hd hcd) fun σ H Q ⟨ρ,γ,h,rel,f⟩=>by
  have f':FE X.K EX ρ H Q (eVar i γ h):=f
  unfold eVar at f'
  cases e:γ[i]? with
  | none=>rw [e] at f';exact f'.elim
  | some o=>cases o with
   | none=>rw [e] at f';exact f'.elim
   | some d =>
    rw [e] at f'
    obtain ⟨v,h1,h2⟩:=rel.g.var i d e
    exact ⟨v,h1,FE.here f' rel.h h2⟩⟩
theorem z2U {d:D}{v:V}(h:PE X e (tC v)) (r:∀ ρ H,RD X.K ρ H d v):SE X EX e (fun _=>pure d) :=
 ⟨PE.imp h fun σ H Q ⟨ρ,γ,h,rel,f⟩=>FE.here f rel.h (r ρ H)⟩
theorem Z2 {i:Int}{j:Nat}:SE X EX (.Constant (.int i) j pos) (fun _=>pure (.int i)):=z2U zx0 fun _ _=>by simp [RD]
theorem z1g {i:Bool}{j:Nat}:SE X EX (.Constant (.bool i) j pos) (fun _=>pure (.bl i)):=z2U zF5 fun _ _=>by simp [RD]
theorem zx9 {j:Nat}:SE X EX (.Constant .none j pos) (fun _=>pure .non):=z2U zD2 fun _ _=>by simp [RD]
theorem x4 {i:Str}{j:Nat}:SE X EX (.Constant (.str i) j pos) (fun _=>pure (.str i)):=z2U zD3 fun _ _=>by simp [RD]
def BR (K:PySem.W.Frag) (EX:XX) (r:R2) (f:D->D->M D):Prop:=∀ ρ h H x y v u Q,RH K ρ h H->RD K ρ H x v->RD K ρ H y u->FE K EX ρ H Q (f x y h)->r v u H Q
def e2 (f:D->D->M D) (ma mb:G->M D):G->M D:=fun γ=>do
 let x ← ma γ
 let y ← mb γ
 f x y
theorem z8a {r:R2}{f:D->D->M D}{ta tb:TE}(h:PE X e (tOp r (tE X.K EX ma) (tE X.K EX mb))) (hr:BR X.K EX r f):SE X EX e (e2 f ma mb) :=
 ⟨PE.imp h fun σ H Q ⟨ρ,γ,h,rel,fin⟩=>⟨ρ,γ,h,rel,(Fin.bind fin).mono fun x ρ1 h1 H1 p1 e1 r1 f1 v rv=>⟨ρ1,γ,h1,⟨rel.g.mono p1 e1,r1⟩,(Fin.bind f1).mono fun y ρ2 h2 H2 p2 e2 r2 f2 u ru =>
  hr ρ2 h2 H2 x y v u Q r2 (rv.mono p2 e2) ru f2⟩⟩⟩
theorem z72 {op:Operator}{r:R2}{f:D->D->M D}(ho:OpR X (binaryOp op) r) (hr:BR X.K EX r f) (ha:SE X EX a ma) (hb:SE X EX b mb):SE X EX (.BinOp a op b pos) (e2 f ma mb) :=
 z8a (ta:=tE X.K EX ma) (tb:=tE X.K EX mb) (zJ8 ho ha.h hb.h) hr
theorem zw0 {op:CmpOp}{r:R2}{f:D->D->M D}(ho:OpR X (compareOp op) r) (hr:BR X.K EX r f) (ha:SE X EX a ma) (hb:SE X EX b mb) (hm:behindInMarks op b=false):SE X EX (.Compare a [op] [b] pos) (e2 f ma mb) :=
 z8a (ta:=tE X.K EX ma) (tb:=tE X.K EX mb) (zg1 ho ha.h hb.h hm) hr
def fI (g:Int->Int->D):D->D->M D
 | .int i,.int j=>pure (g i j)
 | _,_=>bad
theorem zq7 {K:PySem.W.Frag}{g:Int->Int->D}{g':Int->Int->V}(hg:∀ i j ρ H,RD K ρ H (g i j) (g' i j)):BR K EX (rI0 g') (fI g):=by
 intro ρ h H x y v u Q r rx ry fin
 unfold fI at fin
 split at fin
 ·simp only [RD] at rx ry
  subst rx;subst ry
  exact ⟨_,_,rfl,rfl,FE.here fin r (hg _ _ _ _)⟩
 ·exact fin.elim
def fIC (C:Int->Int->Bool) (g:Int->Int->D):D->D->M D
 | .int i,.int j=>if C i j then pure (g i j) else bad
 | _,_=>bad
theorem zl1 {K:PySem.W.Frag}{C:Int->Int->Bool}{C':Int->Int->Prop}{g:Int->Int->D}{g':Int->Int->V}(hc:∀ i j,C i j=true->C' i j) (hg:∀ i j ρ H,RD K ρ H (g i j) (g' i j)):BR K EX (rI C' g') (fIC C g):=by
 intro ρ h H x y v u Q r rx ry fin
 unfold fIC at fin
 split at fin
 ·simp only [RD] at rx ry
  subst rx;subst ry
  split at fin
  ·rename_i hC
   exact ⟨_,_,rfl,rfl,hc _ _ hC,FE.here fin r (hg _ _ _ _)⟩
  ·exact fin.elim
 ·exact fin.elim
def fSub:=fI fun i j=>.int (i - j)
def fDiv:=fIC (fun _ j=>decide (0<j) && decide (j<1073741824)) fun i j=>.int (i / j)
def fMod:=fIC (fun _ j=>decide (0<j)) fun i j=>.int (i % j)
def fPow:=fIC (fun i j=>decide (0≤j) && decide (j≤1000) && decide (-(2 ^ 64)<i) && decide (i<2 ^ 64)) fun i j=>.int (i ^ j.toNat)
theorem z64 (ha:SE X EX a ma) (hb:SE X EX b mb):SE X EX (.BinOp a .Sub b pos) (e2 fSub ma mb):=z72 zD6 (zq7 fun i j ρ H=>by simp [RD]) ha hb
theorem z7X (ha:SE X EX a ma) (hb:SE X EX b mb):SE X EX (.BinOp a .FloorDiv b pos) (e2 fDiv ma mb):=z72 zq9 (zl1 (fun i j h=>by simp at h;exact h) fun i j ρ H=>by simp [RD]) ha hb
theorem z3d (ha:SE X EX a ma) (hb:SE X EX b mb):SE X EX (.BinOp a .Mod b pos) (e2 fMod ma mb):=z72 zy0 (zl1 (fun i j h=>by simpa using h) fun i j ρ H=>by simp [RD]) ha hb
theorem z6F (ha:SE X EX a ma) (hb:SE X EX b mb):SE X EX (.BinOp a .Pow b pos) (e2 fPow ma mb):=z72 zs7 (zl1 (fun i j h=>by
 simp at h
 refine ⟨h.1.1.1,by omega,?_⟩
 have h1:=h.1.2
 have h2:=h.2
 omega) fun i j ρ H=>by simp [RD]) ha hb
def fAdd:D->D->M D
 | .int i,.int j=>pure (.int (i+j))
 | .str i,.str j=>if i.length+j.length≤sizeLine then pure (.str (i++j)) else bad
 | .ref i,.ref j=>do
  let x ← getL i
  let y ← getL j
  newL (x++y)
 | .tup x,.tup y=>if !decide (x.length+y.length≤sizeLine) then bad else pure (.tup (x++y))
 | _,_=>bad
theorem z12 {n:Nat}{h h1:AH}{xs:List D}(e:getL n h=.ok xs h1):h1=h/\h[n]?=some (.lst xs):=by
 unfold getL at e
 split at e
 ·rename_i q;cases e;exact ⟨rfl,q⟩
 ·cases e
theorem z13 {n:Nat}{h h1:AH}{x:Exn}(e:getL n h=.err x h1):False:=by
 unfold getL at e
 split at e<;>cases e
def zi4 (K:PySem.W.Frag):R2:=fun x y H Q=>∃ a b ys,x=.ref a/\y=.ref b/\SqT K H a []/\SqT K H b ys/\Q (.ref b) H
theorem zl7:OpR X (binaryOp .Add) (zi4 X.K):=by
 intro pins s σ H x y v u Q I rx ry h
 obtain ⟨a,b,ys,rfl,rfl,ha,hb,q⟩:=h
 cases rx
 cases ry
 obtain ⟨its,r1,p1,_⟩:=I.tuple ha
 obtain ⟨its2,r2,p2,_⟩:=I.tuple hb
 have e:its=[]:=(r1.nil_iff).mpr rfl
 subst e
 obtain ⟨⟨cls,dd,data,sl⟩,ho,hc,n,hd⟩:=id p1
 obtain ⟨⟨cls2,dd2,data2,sl2⟩,ho2,hc2,n2,hd2⟩:=id p2
 simp only at hc hd hc2 hd2
 subst hc hd hc2 hd2
 exact concat_meets ⟨_,ho,rfl⟩ ⟨_,ho2,rfl⟩ noFill_tuple_add seq_tuple_add PySem.F.slot_tuple_add PySem.F.entry_tuple_add (PySem.F.args_tuple_add_2 _ _) (tuple_addW0 a b _ _ n n2 dd dd2 sl sl2 rfl) ⟨ho,ho2,.ref b,H,I,rfl,q⟩
theorem zk3:OpR X (binaryOp .Add) (fun x y H Q=>rI0 (fun i j=>.int (i+j)) x y H Q∨(∃ i j,x=.str i/\y=.str j/\i.length+j.length≤sizeLine/\Q (.str (i++j)) H)∨rCat x y H Q∨zn0 X.K x y H Q∨zi4 X.K x y H Q) :=
 op_add.or (op_add_str.or (op_cat.or (op_catT.or zl7)))
theorem zn6:BR X.K EX (fun x y H Q=>rI0 (fun i j=>.int (i+j)) x y H Q∨(∃ i j,x=.str i/\y=.str j/\i.length+j.length≤sizeLine/\Q (.str (i++j)) H)∨rCat x y H Q∨zn0 X.K x y H Q∨zi4 X.K x y H Q) fAdd:=by
 intro ρ h H x y v u Q r rx ry fin
 unfold fAdd at fin
 split at fin
 ·simp only [RD] at rx ry;subst rx;subst ry
  exact .inl ⟨_,_,rfl,rfl,FE.here fin r (by simp [RD])⟩
 ·simp only [RD] at rx ry;subst rx;subst ry
  split at fin
  ·rename_i hl
   exact .inr (.inl ⟨_,_,rfl,rfl,hl,FE.here fin r (by simp [RD])⟩)
  ·exact fin.elim
 ·rename_i i j
  simp only [RD] at rx ry
  obtain ⟨ai,rfl,hi⟩:=rx
  obtain ⟨aj,rfl,hj⟩:=ry
  have f1:=Fin.bind fin
  cases e:getL i h with
  | bad=>rw [e] at f1;exact f1.elim
  | err z hz=>exact (z13 e).elim
  | ok xs h1 =>
   obtain ⟨rfl,q1⟩:=z12 e
   rw [e] at f1
   have f2:=Fin.bind (f1 ρ H (Pre.refl _) (Ext.refl _ _) r)
   cases e3:getL j h1 with
   | bad=>rw [e3] at f2;exact f2.elim
   | err z hz=>exact (z13 e3).elim
   | ok ys h2 =>
    obtain ⟨rfl,q2⟩:=z12 e3
    rw [e3] at f2
    have f3:=f2 ρ H (Pre.refl _) (Ext.refl _ _) r
    dsimp only at f3
    unfold newL at f3
    split at f3
    ·rename_i hl
     obtain ⟨a1,n1,xs1,o1,d1⟩:=r.at q1
     obtain ⟨a2,n2,xs2,o2,d2⟩:=r.at q2
     rw [hi] at n1;cases n1
     rw [hj] at n2;cases n2
     refine .inr (.inr (.inl ⟨_,_,_,_,rfl,rfl,o1,o2,?_,fun p hp=>FE.lst f3 r (d1.append d2) hp⟩))
     rw [← d1.length,← d2.length,← List.length_append];exact hl
    ·exact f3.elim
 ·rename_i x y
  simp only [RD] at rx ry
  obtain ⟨ax,xs,rfl,hx,dx⟩:=rx
  obtain ⟨ay,ys,rfl,hy,dy⟩:=ry
  split at fin
  ·exact fin.elim
  ·rename_i hc
   simp at hc
   have l1:=dx.length
   have l2:=dy.length
   by_cases hxe:xs=[]
   ·subst hxe
    have xe:x=[]:=by simpa using l1
    subst xe
    refine .inr (.inr (.inr (.inr ⟨ax,ay,ys,rfl,rfl,hx,hy,FE.here fin r ?_⟩)))
    simp only [RD]
    exact ⟨ay,ys,rfl,hy,by simpa using dy⟩
   refine .inr (.inr (.inr (.inl ⟨ax,ay,xs,ys,rfl,rfl,hx,hy,hxe,by omega,fun e=>?_,fun e p hp=>FE.tup fin r (dx.append dy) hp⟩)))
   ·subst e
    refine FE.here fin r ?_
    simp only [RD]
    have:y=[]:=by simpa using l2
    subst this
    exact ⟨ax,xs,rfl,hx,by simpa using dx⟩
 ·exact fin.elim
theorem Y1 (ha:SE X EX a ma) (hb:SE X EX b mb):SE X EX (.BinOp a .Add b pos) (e2 fAdd ma mb):=z72 zk3 zn6 ha hb
def fMul:D->D->M D
 | .int i,.int j=>if (decide (-(2 ^ 64)<i) && decide (i<2 ^ 64)) || (decide (-(2 ^ 64)<j) && decide (j<2 ^ 64)) then pure (.int (i * j)) else bad
 | .ref i,.int j=>do
  let x ← getL i
  if decide (-(2 ^ 63)≤j) && decide (j<2 ^ 63) then newL (List.replicate j.toNat x).flatten else bad
 | _,_=>bad
theorem zB1:BR X.K EX (fun x y H Q=>rI CMul (fun i j=>.int (i * j)) x y H Q∨rRep x y H Q) fMul:=by
 intro ρ h H x y v u Q r rx ry fin
 unfold fMul at fin
 split at fin
 ·simp only [RD] at rx ry;subst rx;subst ry
  split at fin
  ·rename_i hc
   refine .inl ⟨_,_,rfl,rfl,?_,FE.here fin r (by simp [RD])⟩
   simp only [Bool.or_eq_true,Bool.and_eq_true,decide_eq_true_eq] at hc
   exact hc
  ·exact fin.elim
 ·rename_i i j
  simp only [RD] at rx ry
  obtain ⟨ai,rfl,hi⟩:=rx
  subst ry
  have f1:=Fin.bind fin
  cases e:getL i h with
  | bad=>rw [e] at f1;exact f1.elim
  | err z hz=>exact (z13 e).elim
  | ok xs h1 =>
   obtain ⟨rfl,q1⟩:=z12 e
   rw [e] at f1
   have f2:=f1 ρ H (Pre.refl _) (Ext.refl _ _) r
   dsimp only at f2
   split at f2
   ·rename_i hb
    simp only [Bool.and_eq_true,decide_eq_true_eq] at hb
    unfold newL at f2
    split at f2
    ·rename_i hl
     obtain ⟨a1,n1,xs1,o1,d1⟩:=r.at q1
     rw [hi] at n1;cases n1
     refine .inr ⟨_,_,_,rfl,rfl,o1,hb.1,hb.2,?_,fun p hp=>FE.lst f2 r (d1.flat j.toNat) hp⟩
     rw [L2.len_rep,d1.length] at hl
     rw [Nat.mul_comm];exact hl
    ·exact f2.elim
   ·exact f2.elim
 ·exact fin.elim
def fCmp (g:Int->Int->Bool):D->D->M D:=fI fun i j=>.bl (g i j)
def fLt:D->D->M D
 | .int i,.int j=>pure (.bl (decide (i<j)))
 | .str i,.str j=>pure (.bl (decide (i.cps.toList<j.cps.toList)))
 | _,_=>bad
def fLe:D->D->M D
 | .int i,.int j=>pure (.bl (decide (i≤j)))
 | .str i,.str j=>pure (.bl (!decide (j.cps.toList<i.cps.toList)))
 | _,_=>bad
def fGt:D->D->M D:=fCmp fun i j=>decide (j<i)
def fGe:D->D->M D:=fCmp fun i j=>decide (j≤i)
theorem z8b:OpR X (compareOp .LtE) (fun x y H Q=>∃ i j,x=.str i/\y=.str j/\Q (.bl (!decide (j.cps.toList<i.cps.toList))) H):=by
 intro pins s σ H x y v u Q I rx ry h
 obtain ⟨i,j,rfl,rfl,q⟩:=h
 obtain ⟨t,rfl⟩:=rx
 obtain ⟨t',rfl⟩:=ry
 exact PySem.P.le_str ⟨.bl _,H,I,rfl,q⟩
theorem zF8 {K:PySem.W.Frag}:BR K EX (fun x y H Q=>rI0 (fun i j=>.bl (decide (i<j))) x y H Q∨∃ i j,x=.str i/\y=.str j/\Q (.bl (decide (i.cps.toList<j.cps.toList))) H) fLt:=by
 intro ρ h H x y v u Q r rx ry fin
 unfold fLt at fin
 split at fin
 ·simp only [RD] at rx ry;subst rx;subst ry
  exact .inl ⟨_,_,rfl,rfl,FE.here fin r (by simp [RD])⟩
 ·simp only [RD] at rx ry;subst rx;subst ry
  exact .inr ⟨_,_,rfl,rfl,FE.here fin r (by simp [RD])⟩
 ·exact fin.elim
theorem zH0 {K:PySem.W.Frag}:BR K EX (fun x y H Q=>rI0 (fun i j=>.bl (decide (i≤j))) x y H Q∨∃ i j,x=.str i/\y=.str j/\Q (.bl (!decide (j.cps.toList<i.cps.toList))) H) fLe:=by
 intro ρ h H x y v u Q r rx ry fin
 unfold fLe at fin
 split at fin
 ·simp only [RD] at rx ry;subst rx;subst ry
  exact .inl ⟨_,_,rfl,rfl,FE.here fin r (by simp [RD])⟩
 ·simp only [RD] at rx ry;subst rx;subst ry
  exact .inr ⟨_,_,rfl,rfl,FE.here fin r (by simp [RD])⟩
 ·exact fin.elim
def eqD:D->D->Option Bool
 | .int i,.int j=>some (decide (i=j))
 | .str i,.str j=>some (decide (i=j))
 | .bl i,.bl j=>some (decide (i=j))
 | .non,.non=>some true
 | .int _,.str _=>some false
 | .str _,.int _=>some false
 | .non,.int _=>some false
 | .int _,.non=>some false
 | .non,.str _=>some false
 | .str _,.non=>some false
 | _,_=>none
def fEq (neg:Bool):D->D->M D:=fun x y=>match eqD x y with
 | some b=>pure (.bl (b != neg))
 | none=>bad
theorem zk0 {K:PySem.W.Frag}{ρ:List Addr}{H:Hp}{x y:D}{v u:V}{k:Bool}(e:eqD x y=some k) (rx:RD K ρ H x v) (ry:RD K ρ H y u):scal v u=true/\decide (v=u)=k:=by
 cases x<;>cases y<;>first
  | (have e':none=some k:=e
     exact nomatch e')
  | (simp only [eqD] at e
     simp only [RD] at rx ry
     subst rx
     subst ry
     cases e
     exact ⟨rfl,by simp⟩)
theorem zF3 {K:PySem.W.Frag}:BR K EX rEq (fEq false):=by
 intro ρ h H x y v u Q r rx ry fin
 unfold fEq at fin
 cases hk:eqD x y with
 | none=>rw [hk] at fin;exact fin.elim
 | some k =>
  rw [hk] at fin
  obtain ⟨h1,h2⟩:=zk0 hk rx ry
  refine ⟨h1,?_⟩
  rw [h2]
  refine FE.here fin r ?_
  cases k<;>simp [RD]
def z1z:D->Bool
 | .non=>true
 | .bl _=>true
 | .int _=>true
 | .str _=>true
 | _=>false
def eqF:D->D->Bool
 | .non,.non=>true
 | .bl a,.bl b=>a == b
 | .bl a,.int b=>(if a then 1 else 0) == b
 | .int a,.bl b=>a == (if b then 1 else 0)
 | .int a,.int b=>a == b
 | .str a,.str b=>a == b
 | _,_=>false
def seqD:D->M (List D)
 | .tup xs=>pure xs
 | .fl xs=>pure xs
 | .ref n=>getL n
 | _=>bad
def fIn (neg:Bool):D->D->M D:=fun x y=>do
 let ys ← seqD y
 if z1z x && ys.all z1z then pure (.bl ((ys.any fun z=>eqF z x) != neg)) else bad
theorem z6g {K:PySem.W.Frag}{ρ:List Addr}{H:Hp}{x:D}{v:V}(f:z1z x=true) (r:RD K ρ H x v):z3s v=true:=by
 cases x<;>simp only [RD] at r<;>first | (subst r;rfl) | cases f
theorem zm8 {K:PySem.W.Frag}{ρ:List Addr}{H:Hp}{x y:D}{v u:V}(f:z1z x=true) (f':z1z y=true) (r:RD K ρ H x v) (r':RD K ρ H y u):eqV v u=eqF x y:=by
 cases x with
 | non=>simp only [RD] at r;subst r;cases y<;>first | (simp only [RD] at r';subst r';rfl) | cases f'
 | bl b=>simp only [RD] at r;subst r;cases y<;>first | (simp only [RD] at r';subst r';rfl) | cases f'
 | int b=>simp only [RD] at r;subst r;cases y<;>first | (simp only [RD] at r';subst r';rfl) | cases f'
 | str b=>simp only [RD] at r;subst r;cases y<;>first | (simp only [RD] at r';subst r';rfl) | cases f'
 | tup b=>cases f
 | fl b=>cases f
 | ref b=>cases f
theorem z4L {K:PySem.W.Frag}{ρ:List Addr}{H:Hp}:∀ {xs:List D}{vs:List V},RDs K ρ H xs vs->xs.all z1z=true->vs.all z3s=true
 | [],vs,r,_=>by simp only [RDs] at r;subst r;rfl
 | x :: xs,vs,r,f=>by
  simp only [RDs] at r
  obtain ⟨v,r2,rfl,h1,h2⟩:=r
  rw [List.all_cons,Bool.and_eq_true] at f ⊢
  exact ⟨z6g f.1 h1,z4L h2 f.2⟩
theorem z7N {K:PySem.W.Frag}{ρ:List Addr}{H:Hp}{x:D}{v:V}(f:z1z x=true) (r:RD K ρ H x v):∀ {xs:List D}{vs:List V},RDs K ρ H xs vs->xs.all z1z=true->(vs.any fun y=>eqV y v)=xs.any fun z=>eqF z x
 | [],vs,rs,_=>by simp only [RDs] at rs;subst rs;rfl
 | y :: xs,vs,rs,fs=>by
  simp only [RDs] at rs
  obtain ⟨u,r2,rfl,h1,h2⟩:=rs
  rw [List.all_cons,Bool.and_eq_true] at fs
  rw [List.any_cons,List.any_cons,zm8 fs.1 f h1 r,z7N f r h2 fs.2]
theorem z1W {K:PySem.W.Frag}{ρ:List Addr}{h h1:AH}{H:Hp}{y:D}{u:V}{ys:List D}(r:RH K ρ h H) (ry:RD K ρ H y u) (e:seqD y h=.ok ys h1):h1=h/\∃ p xs,u=.ref p/\(SqL K H p xs∨SqT K H p xs)/\RDs K ρ H ys xs:=by
 unfold seqD at e
 split at e
 ·cases e;simp only [RD] at ry;obtain ⟨p,xs,rfl,h2,h3⟩:=ry;exact ⟨rfl,p,xs,rfl,.inr h2,h3⟩
 ·cases e;simp only [RD] at ry;obtain ⟨p,xs,rfl,h2,h3⟩:=ry;exact ⟨rfl,p,xs,rfl,.inl h2.sq,h3⟩
 ·obtain ⟨rfl,q⟩:=z12 e
  simp only [RD] at ry;obtain ⟨p,rfl,h2⟩:=ry
  obtain ⟨a,n1,xs,o1,d1⟩:=r.at q
  rw [h2] at n1;cases n1
  exact ⟨rfl,p,xs,rfl,.inl (SqL.of o1),d1⟩
 ·cases e
theorem z2y {y:D}{h h1:AH}{x:Exn}(e:seqD y h=.err x h1):False:=by
 unfold seqD at e
 split at e
 ·cases e
 ·cases e
 ·exact z13 e
 ·cases e
theorem zG0 {K:PySem.W.Frag}{neg:Bool}:BR K EX (rIn K neg) (fIn neg):=by
 intro ρ h H x y v u Q r rx ry fin
 have f1:=Fin.bind fin
 cases e:seqD y h with
 | bad=>rw [e] at f1;exact f1.elim
 | err z hz=>exact (z2y e).elim
 | ok ys h1 =>
  obtain ⟨rfl,p,xs,rfl,hs,hd⟩:=z1W r ry e
  rw [e] at f1
  have f2:=f1 ρ H (Pre.refl _) (Ext.refl _ _) r
  dsimp only at f2
  split at f2
  ·rename_i hc
   rw [Bool.and_eq_true] at hc
   refine ⟨p,xs,rfl,hs,z6g hc.1 rx,z4L hd hc.2,?_⟩
   refine FE.here f2 r ?_
   unfold inV
   rw [z7N hc.1 rx hd hc.2]
   cases neg<;>simp [RD]
  ·exact f2.elim
end
section
variable {env:Env}{es:List Expr}
theorem z5o {c k p}:starEach (.Constant c k p :: es) env=(false,eval (.Constant c k p) env) :: starEach es env:=rfl
theorem zg7 {c p}:starEach (.Name c p :: es) env=(false,eval (.Name c p) env) :: starEach es env:=rfl
theorem zf9 {a b c p}:starEach (.Call a b c p :: es) env=(false,eval (.Call a b c p) env) :: starEach es env:=rfl
theorem z9n {a b c p}:starEach (.BinOp a b c p :: es) env=(false,eval (.BinOp a b c p) env) :: starEach es env:=rfl
theorem z7g {a b c p}:starEach (.Compare a b c p :: es) env=(false,eval (.Compare a b c p) env) :: starEach es env:=rfl
theorem z4z {a b p}:starEach (.Subscript a b p :: es) env=(false,eval (.Subscript a b p) env) :: starEach es env:=rfl
theorem za5 {a b p}:starEach (.Tuple a b p :: es) env=(false,eval (.Tuple a b p) env) :: starEach es env:=rfl
theorem zk4 {a p}:starEach (.List a p :: es) env=(false,eval (.List a p) env) :: starEach es env:=rfl
theorem z76 {a b p}:starEach (.UnaryOp a b p :: es) env=(false,eval (.UnaryOp a b p) env) :: starEach es env:=rfl
theorem z5g {a b c p}:starEach (.ListComp a b c p :: es) env=(false,eval (.ListComp a b c p) env) :: starEach es env:=rfl
end
section
variable {X:Cx}{EX:XX}{a b c e:Expr}{pos:Pos}{ma mb mc:G->M D}
def CO (X:Cx) (EX:XX) (op:CmpOp) (f:D->D->M D):Prop:=∃ r,OpR X (compareOp op) r/\BR X.K EX r f
theorem zj0:CO X EX .Lt fLt:=⟨_,op_lt.or z7W,zF8⟩
theorem z5H:CO X EX .LtE fLe:=⟨_,op_le.or z8b,zH0⟩
theorem z4k:CO X EX .Gt fGt:=⟨_,zI6,zq7 fun i j ρ H=>by simp [RD]⟩
theorem zw8:CO X EX .GtE fGe:=⟨_,zF4,zq7 fun i j ρ H=>by simp [RD]⟩
theorem z4i:CO X EX .Eq (fEq false):=⟨_,zG2,zF3⟩
theorem z5S:CO X EX .NotIn (fIn true):=⟨_,z4X,zG0⟩
theorem se_c {op:CmpOp}{f:D->D->M D}(h:CO X EX op f) (ha:SE X EX a ma) (hb:SE X EX b mb) (hm:behindInMarks op b=false:=by first | exact zf0 _ | with_unfolding_all rfl):SE X EX (.Compare a [op] [b] pos) (e2 f ma mb):=by
 obtain ⟨r,h1,h2⟩:=h
 exact zw0 h1 h2 ha hb hm
def asB:D->M Bool
 | .bl b=>pure b
 | _=>bad
theorem zE8 {t:TE}{m:G->M D}(h:∀ σ H Q,tE X.K EX m σ H Q->t σ H Q):∀ σ H Q,tT X.K EX (fun γ=>do let d ← m γ;asB d) σ H Q->zA0 t σ H Q:=by
 intro σ H Q ⟨ρ,γ,h0,rel,fin⟩
 refine h σ H _ ⟨ρ,γ,h0,rel,(Fin.bind fin).mono fun d ρ1 h1 H1 p1 e1 r1 f1 v rv=>?_⟩
 cases d<;>first | exact (show False from f1).elim | skip
 rename_i b
 simp only [RD] at rv
 exact ⟨b,rv,f1 ρ1 H1 (Pre.refl _) (Ext.refl _ _) r1⟩
theorem sc_c {op:CmpOp}{f:D->D->M D}(h:CO X EX op f) (ha:SE X EX a ma) (hb:SE X EX b mb) (hm:behindInMarks op b=false:=by first | exact zf0 _ | with_unfolding_all rfl):SC X EX (.Compare a [op] [b] pos) (fun γ=>do let d ← e2 f ma mb γ;asB d):=by
 constructor
 obtain ⟨r,h1,h2⟩:=h
 refine PT.imp (zm7 h1 ha.h hb.h hm) (zE8 fun σ H Q ⟨ρ,γ,h,rel,fin⟩=>?_)
 exact ⟨ρ,γ,h,rel,(Fin.bind fin).mono fun x ρ1 h1 H1 p1 e1 r1 f1 v rv=>⟨ρ1,γ,h1,⟨rel.g.mono p1 e1,r1⟩,(Fin.bind f1).mono fun y ρ2 h3 H2 p2 e2 r2 f2 u ru =>
  h2 ρ2 h3 H2 x y v u Q r2 (rv.mono p2 e2) ru f2⟩⟩
def e3 (f g:D->D->M D) (ma mb mc:G->M D):G->M D:=fun γ=>do
 let x ← ma γ
 let y ← mb γ
 let k ← f x y
 let t ← asB k
 if t then do
  let z ← mc γ
  g y z
 else pure (.bl false)
theorem za9 {r r':R2}{f g:D->D->M D}(h2:BR X.K EX r f) (h4:BR X.K EX r' g):∀ σ H Q,tE X.K EX (e3 f g ma mb mc) σ H Q->ze0 r r' (tE X.K EX ma) (tE X.K EX mb) (tE X.K EX mc) σ H Q:=by
 intro σ H Q ⟨ρ,γ,h,rel,fin⟩
 refine ⟨ρ,γ,h,rel,(Fin.bind fin).mono fun x ρ1 h1 H1 p1 e1 r1 f1 v rv=>⟨ρ1,γ,h1,⟨rel.g.mono p1 e1,r1⟩,(Fin.bind f1).mono fun y ρ2 h3 H2 p2 e2 r2 f2 u ru=>?_⟩⟩
 refine h2 ρ2 h3 H2 x y v u _ r2 (rv.mono p2 e2) ru ((Fin.bind f2).mono fun k ρ3 h5 H3 p3 e3 r3 f3 z rz=>?_)
 cases k<;>first | exact (show False from f3).elim | skip
 rename_i t
 simp only [RD] at rz
 refine ⟨t,rz,?_⟩
 cases t with
 | false =>
  rw [if_neg (by decide)]
  exact FE.here (d:=.bl false) (h:=h5) (ρ:=ρ3) f3 r3 (by simp [RD])
 | true =>
  rw [if_pos rfl]
  have f4:Fin X.K EX ρ3 H3 (fun d ρ' _ H'=>∀ v,RD X.K ρ' H' d v->Q v H') ((mc γ >>= fun z=>g y z) h5):=f3
  exact ⟨ρ3,γ,h5,⟨((rel.g.mono p1 e1).mono p2 e2).mono p3 e3,r3⟩,(Fin.bind f4).mono fun w ρ4 h6 H4 p4 e4 r4 f5 q rq=>h4 ρ4 h6 H4 y w u q Q r4 ((ru.mono p3 e3).mono p4 e4) rq f5⟩
theorem z9r {op op':CmpOp}{f g:D->D->M D}(h:CO X EX op f) (h':CO X EX op' g) (ha:SE X EX a ma) (hb:SE X EX b mb) (hc:SE X EX c mc) (hm:lastMarks [op,op'] [b,c]=false:=by with_unfolding_all rfl):SE X EX (.Compare a [op,op'] [b,c] pos) (e3 f g ma mb mc):=by
 constructor
 obtain ⟨r,h1,h2⟩:=h
 obtain ⟨r',h3,h4⟩:=h'
 exact PE.imp (z9W h1 h3 ha.h hb.h hc.h hm) (za9 h2 h4)
def eAnd (ma mb:G->M D):G->M D:=fun γ=>do
 let x ← ma γ
 let t ← asB x
 if t then mb γ else pure (.bl false)
def eNot (ma:G->M D):G->M D:=fun γ=>do
 let x ← ma γ
 let t ← asB x
 pure (.bl (!t))
variable {rest:List Expr}
theorem z39 {op:PySem.BoolOp}(ha:SE X EX a ma):SE X EX (.BoolOp op [a] pos) ma:=⟨zw9 ha.h⟩
theorem z1O (ha:SE X EX a ma) (hb:SE X EX (.BoolOp .And (b :: rest) pos) mb):SE X EX (.BoolOp .And (a :: b :: rest) pos) (eAnd ma mb) :=
 ⟨PE.imp (zA7 ha.h hb.h) fun σ H Q ⟨ρ,γ,h,rel,fin⟩=>⟨ρ,γ,h,rel,(Fin.bind fin).mono fun x ρ1 h1 H1 p1 e1 r1 f1 v rv=>by
  cases x<;>first | exact (show False from f1).elim | skip
  rename_i t
  simp only [RD] at rv
  refine ⟨t,rv,?_⟩
  cases t with
  | true=>exact ⟨ρ1,γ,h1,⟨rel.g.mono p1 e1,r1⟩,f1⟩
  | false=>exact FE.here (d:=.bl false) (h:=h1) (ρ:=ρ1) f1 r1 (by simp [RD])⟩⟩
theorem z7P (ha:SE X EX a ma):SE X EX (.UnaryOp .Not a pos) (eNot ma) :=
 ⟨PE.imp (zD7 ha.h) fun σ H Q ⟨ρ,γ,h,rel,fin⟩=>⟨ρ,γ,h,rel,(Fin.bind fin).mono fun x ρ1 h1 H1 p1 e1 r1 f1 v rv=>by
  cases x<;>first | exact (show False from f1).elim | skip
  rename_i t
  simp only [RD] at rv
  exact ⟨t,rv,FE.here (d:=.bl (!t)) (h:=h1) (ρ:=ρ1) f1 r1 (by simp [RD])⟩⟩⟩
structure SW (X:Cx) (EX:XX) (e:Expr) (m:G->M Bool):Prop where
 h:PW X e (tT X.K EX m)
theorem PW.imp {X:Cx}{e:Expr}{t t':TT}(h:PW X e t) (f:∀ σ H Q,t' σ H Q->t σ H Q):PW X e t':=fun w pins s σ H Q I z=>h w pins s σ H Q I (f σ H Q z)
variable {ka kb kc:G->M Bool}
def cAnd (ka kb:G->M Bool):G->M Bool:=fun γ=>do
 let t ← ka γ
 if t then kb γ else pure false
def cOr (ka kb:G->M Bool):G->M Bool:=fun γ=>do
 let t ← ka γ
 if t then pure true else kb γ
def cNot (ka:G->M Bool):G->M Bool:=fun γ=>do
 let t ← ka γ
 pure (!t)
theorem z3o (ha:SC X EX a ka):SW X EX (.BoolOp .And [a] pos) ka:=⟨zf7 ha.h⟩
theorem z3C (ha:SC X EX a ka):SW X EX (.BoolOp .Or [a] pos) ka:=⟨zD4 ha.h⟩
theorem z2O (ha:SC X EX a ka) (hb:SW X EX (.BoolOp .And (b :: rest) pos) kb):SW X EX (.BoolOp .And (a :: b :: rest) pos) (cAnd ka kb) :=
 ⟨PW.imp (zA3 ha.h hb.h) fun σ H Q ⟨ρ,γ,h,rel,fin⟩=>⟨ρ,γ,h,rel,(Fin.bind fin).mono fun t ρ1 h1 H1 p1 e1 r1 f1=>by
  cases t with
  | true=>exact ⟨ρ1,γ,h1,⟨rel.g.mono p1 e1,r1⟩,f1⟩
  | false=>exact f1 ρ1 H1 (Pre.refl _) (Ext.refl _ _) r1⟩⟩
theorem z5L (ha:SC X EX a ka) (hb:SW X EX (.BoolOp .Or (b :: rest) pos) kb):SW X EX (.BoolOp .Or (a :: b :: rest) pos) (cOr ka kb) :=
 ⟨PW.imp (zJ7 ha.h hb.h) fun σ H Q ⟨ρ,γ,h,rel,fin⟩=>⟨ρ,γ,h,rel,(Fin.bind fin).mono fun t ρ1 h1 H1 p1 e1 r1 f1=>by
  cases t with
  | false=>exact ⟨ρ1,γ,h1,⟨rel.g.mono p1 e1,r1⟩,f1⟩
  | true=>exact f1 ρ1 H1 (Pre.refl _) (Ext.refl _ _) r1⟩⟩
theorem SW.sc (h:SW X EX e ka):SC X EX e ka:=⟨PW.pt h.h⟩
theorem z0M (ha:SC X EX a ka):SC X EX (.UnaryOp .Not a pos) (cNot ka) :=
 ⟨PT.imp (zu4 ha.h) fun σ H Q ⟨ρ,γ,h,rel,fin⟩=>⟨ρ,γ,h,rel,(Fin.bind fin).mono fun t ρ1 h1 H1 p1 e1 r1 f1=>f1 ρ1 H1 (Pre.refl _) (Ext.refl _ _) r1⟩⟩
def truD:D->M Bool
 | .non=>pure false
 | .bl b=>pure b
 | .int i=>pure (i != 0)
 | .str y=>if y.length≤sizeLine then pure (decide (y.length≠0)) else bad
 | .tup xs=>pure (!xs.isEmpty)
 | .fl xs=>pure (!xs.isEmpty)
 | .ref n=>do
  let xs ← getL n
  pure (!xs.isEmpty)
def cVal (ma:G->M D):G->M Bool:=fun γ=>do
 let x ← ma γ
 truD x
theorem isE {K:PySem.W.Frag}{ρ:List Addr}{H:Hp}{ds:List D}{xs:List V}(h:RDs K ρ H ds xs):ds.isEmpty=xs.isEmpty:=by
 have:=h.length
 cases ds<;>cases xs<;>simp at this ⊢
theorem zf8 {ρ:List Addr}{h:AH}{H:Hp}{x:D}{v:V}{Q:Bool->Hp->Prop}(r:RH X.K ρ h H) (rx:RD X.K ρ H x v) (f:Fin X.K EX ρ H (fun b _ _ H'=>Q b H') (truD x h)):∃ k,TruV X.K v H k/\Q k H:=by
 cases x with
 | non=>simp only [RD] at rx;subst rx;exact ⟨false,rfl,f ρ H (Pre.refl _) (Ext.refl _ _) r⟩
 | bl b=>simp only [RD] at rx;subst rx;exact ⟨b,rfl,f ρ H (Pre.refl _) (Ext.refl _ _) r⟩
 | int b=>simp only [RD] at rx;subst rx;exact ⟨_,rfl,f ρ H (Pre.refl _) (Ext.refl _ _) r⟩
 | str y =>
  simp only [RD] at rx;subst rx
  have f':Fin X.K EX ρ H (fun b _ _ H'=>Q b H') ((if y.length≤sizeLine then pure (decide (y.length≠0)) else bad:M Bool) h):=f
  by_cases hl:y.length≤sizeLine
  ·rw [if_pos hl] at f'
   refine ⟨decide (y.length≠0),⟨hl,?_⟩,f' ρ H (Pre.refl _) (Ext.refl _ _) r⟩
   rw [Bool.eq_iff_iff];simp
  ·rw [if_neg hl] at f';exact f'.elim
 | tup xs =>
  simp only [RD] at rx;obtain ⟨a,vs,rfl,h1,h2⟩:=rx
  exact ⟨!xs.isEmpty,.inr (.inl ⟨vs,h1,by rw [isE h2]⟩),f ρ H (Pre.refl _) (Ext.refl _ _) r⟩
 | fl xs =>
  simp only [RD] at rx;obtain ⟨a,vs,rfl,h1,h2⟩:=rx
  exact ⟨!xs.isEmpty,.inl ⟨vs,h1.sq,by rw [isE h2]⟩,f ρ H (Pre.refl _) (Ext.refl _ _) r⟩
 | ref n =>
  have f1:=Fin.bind f
  cases e:getL n h with
  | bad=>rw [e] at f1;exact f1.elim
  | err z hz=>exact (z13 e).elim
  | ok xs h1 =>
   obtain ⟨rfl,q1⟩:=z12 e
   rw [e] at f1
   have f2:=f1 ρ H (Pre.refl _) (Ext.refl _ _) r
   simp only [RD] at rx;obtain ⟨a,rfl,h2⟩:=rx
   obtain ⟨a1,n1,vs,o1,d1⟩:=r.at q1
   rw [h2] at n1;cases n1
   exact ⟨!xs.isEmpty,.inl ⟨vs,SqL.of o1,by rw [isE d1]⟩,f2 ρ H (Pre.refl _) (Ext.refl _ _) r⟩
theorem z05 (ha:SE X EX a ma) (he:∀ whole,isTrue a X.env whole=(do let v ← whole;standAt a.pos;holding [v] (truthy v)):=by intro _;rfl):SC X EX a (cVal ma) :=
 ⟨PT.imp (z9N ha.h he) fun σ H Q ⟨ρ,γ,h,rel,fin⟩=>⟨ρ,γ,h,rel,(Fin.bind fin).mono fun x ρ1 h1 H1 p1 e1 r1 f1 v rv=>zf8 r1 rv f1⟩⟩
def aNil:G->M (List D):=fun _=>pure []
def z8 (ma:G->M D) (mr:G->M (List D)):G->M (List D):=fun γ=>do
 let x ← ma γ
 let r ← mr γ
 pure (x :: r)
variable {es:List Expr}{mr:G->M (List D)}
theorem Z0:SA X EX [] aNil:=⟨PA.imp z1P fun σ H Q ⟨ρ,γ,h,rel,fin⟩=>fin ρ H (Pre.refl _) (Ext.refl _ _) rel.h [] RDs.nil⟩
theorem z0 (ha:SE X EX a ma) (hr:SA X EX es mr) (hs:starEach (a :: es) X.env=(false,eval a X.env) :: starEach es X.env:=by first | exact z5o | exact zg7 | exact zf9 | exact z9n | exact z7g | exact z4z | exact za5 | exact zk4 | exact z76 | exact z5g | rfl):SA X EX (a :: es) (z8 ma mr) :=
 ⟨PA.imp (z0q ha.h hr.h hs) fun σ H Q ⟨ρ,γ,h,rel,fin⟩=>⟨ρ,γ,h,rel,(Fin.bind fin).mono fun x ρ1 h1 H1 p1 e1 r1 f1 v rv=>⟨ρ1,γ,h1,⟨rel.g.mono p1 e1,r1⟩,(Fin.bind f1).mono fun ds ρ2 h2 H2 p2 e2 r2 f2 vs rvs =>
  f2 ρ2 H2 (Pre.refl _) (Ext.refl _ _) r2 (v :: vs) (RDs.cons (rv.mono p2 e2) rvs)⟩⟩⟩
def eTup (mr:G->M (List D)):G->M D:=fun γ=>do
 let xs ← mr γ
 if xs.length≤sizeLine then pure (.tup xs) else bad
def eLst (mr:G->M (List D)):G->M D:=fun γ=>do
 let xs ← mr γ
 newL xs
theorem z1n {k:Nat}(h:SA X EX es mr):SE X EX (.Tuple es k pos) (eTup mr) :=
 ⟨PE.imp (zA1 h.h) fun σ H Q ⟨ρ,γ,h,rel,fin⟩=>⟨ρ,γ,h,rel,(Fin.bind fin).mono fun xs ρ1 h1 H1 p1 e1 r1 f1 vs rvs=>by
  by_cases hl:xs.length≤sizeLine
  ·rw [if_pos hl] at f1
   exact ⟨by rw [← rvs.length];exact hl,fun p hp=>FE.tup (h:=h1) f1 r1 rvs hp⟩
  ·rw [if_neg hl] at f1;exact (show False from f1).elim⟩⟩
theorem z0o (h:SA X EX es mr):SE X EX (.List es pos) (eLst mr) :=
 ⟨PE.imp (zC4 h.h) fun σ H Q ⟨ρ,γ,h,rel,fin⟩=>⟨ρ,γ,h,rel,(Fin.bind fin).mono fun xs ρ1 h1 H1 p1 e1 r1 f1 vs rvs=>by
  unfold newL at f1
  split at f1
  ·rename_i hl
   exact ⟨by rw [← rvs.length];exact hl,fun p hp=>FE.lst (h:=h1) f1 r1 rvs hp⟩
  ·exact (show False from f1).elim⟩⟩
def fIx:D->D->M D
 | .str z,.int i=>if z.length≤sizeLine then (match atI z.cps.toList i with
  | some c=>pure (.str ⟨#[c]⟩)
  | none=>bad) else bad
 | x,.int i=>do
  let xs ← seqD x
  match atI xs i with
  | some d=>pure d
  | none=>bad
 | _,_=>bad
theorem zp4 {K:PySem.W.Frag}{ρ:List Addr}{H:Hp}{ds:List D}{xs:List V}{i:Int}{d:D}(h:RDs K ρ H ds xs) (e:atI ds i=some d):∃ x,atI xs i=some x/\RD K ρ H d x:=by
 unfold atI at e ⊢
 rw [← h.length]
 cases q:ixN ds.length i with
 | none=>rw [q] at e;cases e
 | some j=>rw [q] at e;exact h.get e
theorem zG3:BR X.K EX (rIx X.K) fIx:=by
 intro ρ h H x y v u Q r rx ry fin
 unfold fIx at fin
 split at fin
 ·simp only [RD] at rx ry;subst rx;subst ry
  rename_i z i
  by_cases hl:z.length≤sizeLine
  ·rw [if_pos hl] at fin
   cases hc:atI z.cps.toList i with
   | none=>rw [hc] at fin;exact fin.elim
   | some c =>
    rw [hc] at fin
    exact .inr (.inr ⟨_,_,c,rfl,rfl,hl,hc,FE.here fin r (by simp [RD])⟩)
  ·rw [if_neg hl] at fin;exact fin.elim
 ·rename_i i _
  simp only [RD] at ry;subst ry
  have f1:=Fin.bind fin
  cases e:seqD x h with
  | bad=>rw [e] at f1;exact f1.elim
  | err z hz=>exact (z2y e).elim
  | ok ys h1 =>
   obtain ⟨rfl,p,xs,rfl,hs,hd⟩:=z1W r rx e
   rw [e] at f1
   have f2:=f1 ρ H (Pre.refl _) (Ext.refl _ _) r
   dsimp only at f2
   cases q:atI ys i with
   | none=>rw [q] at f2;exact f2.elim
   | some d =>
    rw [q] at f2
    obtain ⟨w,h2,h3⟩:=zp4 hd q
    rcases hs with hs | hs
    ·exact .inl ⟨p,xs,i,w,rfl,rfl,hs,h2,FE.here f2 r h3⟩
    ·exact .inr (.inl ⟨p,xs,i,w,rfl,rfl,hs,h2,FE.here f2 r h3⟩)
 ·exact fin.elim
theorem q5 (ha:SE X EX a ma) (hb:SE X EX b mb) (hs:z7z b:=by intro _ _;rfl):SE X EX (.Subscript a b pos) (e2 fIx ma mb) :=
 z8a (ta:=tE X.K EX ma) (tb:=tE X.K EX mb) (zH5 zs5 ha.h hb.h hs) zG3
end
section
variable {X:Cx}{EX:XX}{a b c e:Expr}{pos p p2:Pos}{ma mb mc:G->M D}{es:List Expr}{mr:G->M (List D)}
def AR (K:PySem.W.Frag) (EX:XX) (r:List V->Hp->VK->Prop) (f:List D->M D):Prop:=∀ ρ h H ds vs Q,RH K ρ h H->RDs K ρ H ds vs->FE K EX ρ H Q (f ds h)->r vs H Q
def Z9 (f:List D->M D) (mr:G->M (List D)):G->M D:=fun γ=>do
 let xs ← mr γ
 f xs
theorem z1f {r:List V->Hp->VK->Prop}{f:List D->M D}(h:PE X e (tCB r (tL X.K EX mr))) (hr:AR X.K EX r f):SE X EX e (Z9 f mr) :=
 ⟨PE.imp h fun σ H Q ⟨ρ,γ,h,rel,fin⟩=>⟨ρ,γ,h,rel,(Fin.bind fin).mono fun xs ρ1 h1 H1 p1 e1 r1 f1 vs rvs=>hr ρ1 h1 H1 xs vs Q r1 rvs f1⟩⟩
theorem rds1 {K:PySem.W.Frag}{ρ:List Addr}{H:Hp}{d:D}{vs:List V}(h:RDs K ρ H [d] vs):∃ v,vs=[v]/\RD K ρ H d v:=by
 simp only [RDs] at h
 obtain ⟨x,r,rfl,h2,rfl⟩:=h
 exact ⟨x,rfl,h2⟩
def fLen:List D->M D
 | [.str z]=>if z.length≤sizeLine then pure (.int z.length) else bad
 | [x]=>do
  let xs ← seqD x
  pure (.int xs.length)
 | _=>bad
theorem zt8:AR X.K EX (fun xs H Q=>∃ x n,xs=[x]/\LenV X.K x H n/\Q (.int n) H) fLen:=by
 intro ρ h H ds vs Q r rd fin
 unfold fLen at fin
 split at fin
 ·rename_i z
  obtain ⟨v,rfl,rv⟩:=rds1 rd
  simp only [RD] at rv;subst rv
  by_cases hl:z.length≤sizeLine
  ·rw [if_pos hl] at fin
   exact ⟨_,z.length,rfl,⟨hl,rfl⟩,FE.here fin r (by simp [RD])⟩
  ·rw [if_neg hl] at fin;exact fin.elim
 ·rename_i x _
  obtain ⟨v,rfl,rv⟩:=rds1 rd
  have f1:=Fin.bind fin
  cases e:seqD x h with
  | bad=>rw [e] at f1;exact f1.elim
  | err z hz=>exact (z2y e).elim
  | ok ys h1 =>
   obtain ⟨rfl,p,xs,rfl,hs,hd⟩:=z1W r rv e
   rw [e] at f1
   have f2:=f1 ρ H (Pre.refl _) (Ext.refl _ _) r
   refine ⟨_,ys.length,rfl,?_,FE.here f2 r (by simp [RD])⟩
   rw [hd.length]
   rcases hs with hs | hs
   ·exact .inl ⟨xs,hs,rfl⟩
   ·exact .inr ⟨xs,hs,rfl⟩
 ·exact fin.elim
theorem z0g (hg:Gl X "len") (hm:X.mg "len" = none) (ha:SA X EX [a] mr) (he:starEach [a] X.env=[(false,eval a X.env)]:=by rfl):SE X EX (.Call (.Name "len" p) [a] [] pos) (Z9 fLen mr) :=
 z1f (z0J za6 hg hm PySem.boot_len ha.h (by decide) (by decide) he rfl) zt8
def Y7:List D->M D
 | [.tup xs]=>pure (.tup xs)
 | [x]=>do
  let xs ← seqD x
  pure (.tup xs)
 | _=>bad
theorem zb0:AR X.K EX (fun xs H Q=>∃ p ys,xs=[.ref p]/\((SqL X.K H p ys/\∀ l,H l=none->Q (.ref l) (upd H l (.tup ys)))∨(SqT X.K H p ys/\Q (.ref p) H))) Y7:=by
 intro ρ h H ds vs Q r rd fin
 unfold Y7 at fin
 split at fin
 ·obtain ⟨v,rfl,rv⟩:=rds1 rd
  have rv':=rv
  simp only [RD] at rv
  obtain ⟨q,xs,rfl,h1,h2⟩:=rv
  exact ⟨q,xs,rfl,.inr ⟨h1,FE.here fin r rv'⟩⟩
 ·rename_i x hx
  obtain ⟨v,rfl,rv⟩:=rds1 rd
  have f1:=Fin.bind fin
  cases e:seqD x h with
  | bad=>rw [e] at f1;exact f1.elim
  | err z hz=>exact (z2y e).elim
  | ok ys h1 =>
   obtain ⟨rfl,q,xs,rfl,hs,hd⟩:=z1W r rv e
   rw [e] at f1
   have f2:=f1 ρ H (Pre.refl _) (Ext.refl _ _) r
   refine ⟨q,xs,rfl,?_⟩
   rcases hs with hs | hs
   ·exact .inl ⟨hs,fun l hl=>FE.tup f2 r hd hl⟩
   ·refine .inr ⟨hs,FE.here f2 r ?_⟩
    simp only [RD]
    exact ⟨q,xs,rfl,hs,hd⟩
 ·exact fin.elim
theorem Y8 (hg:Gl X "tuple") (hm:X.mg "tuple" = none) (ha:SA X EX [a] mr) (he:starEach [a] X.env=[(false,eval a X.env)]:=by rfl):SE X EX (.Call (.Name "tuple" p) [a] [] pos) (Z9 Y7 mr) :=
 z1f (z1M z4j hg hm (by decide +kernel) ha.h (by decide) (by decide) he rfl) zb0
def z5F:List D->M D
 | [x]=>do
  let xs ← seqD x
  newL xs
 | _=>bad
theorem zk6:AR X.K EX (fun xs H Q=>∃ p ys,xs=[.ref p]/\(SqL X.K H p ys∨SqT X.K H p ys)/\∀ l,H l=none->Q (.ref l) (upd H l (.lst ys))) z5F:=by
 intro ρ h H ds vs Q r rd fin
 unfold z5F at fin
 split at fin
 ·rename_i x
  obtain ⟨v,rfl,rv⟩:=rds1 rd
  have f1:=Fin.bind fin
  cases e:seqD x h with
  | bad=>rw [e] at f1;exact f1.elim
  | err z hz=>exact (z2y e).elim
  | ok ys h1 =>
   obtain ⟨rfl,q,xs,rfl,hs,hd⟩:=z1W r rv e
   rw [e] at f1
   have f2:=f1 ρ H (Pre.refl _) (Ext.refl _ _) r
   unfold newL at f2
   dsimp only at f2
   split at f2
   ·exact ⟨q,xs,rfl,hs,fun l hl=>FE.lst f2 r hd hl⟩
   ·exact f2.elim
 ·exact fin.elim
theorem z7q (hg:Gl X "list") (hm:X.mg "list" = none) (ha:SA X EX [a] mr) (he:starEach [a] X.env=[(false,eval a X.env)]:=by rfl):SE X EX (.Call (.Name "list" p) [a] [] pos) (Z9 z5F mr) :=
 z1f (z1M z4v hg hm (by decide +kernel) ha.h (by decide) (by decide) he rfl) zk6
def tyD:D->M String
 | .non=>pure "NoneType"
 | .bl _=>pure "bool"
 | .int _=>pure "int"
 | .str _=>pure "str"
 | .tup _=>pure "tuple"
 | .fl _=>pure "list"
 | .ref n=>fun h=>match h[n]? with
  | some (.lst _)=>.ok "list" h
  | some .dct=>.ok "dict" h
  | some (.dK _)=>.ok "dict" h
  | _=>.bad
def subT (t T:String):Bool:=t == T || (t == "bool" && T == "int")
def tyNames:List String:=["NoneType","bool","int","str","tuple","list","dict"]
def tyAsked:List String:=["bool","int","str","tuple","list","dict"]
theorem zg4:tyNames.all (fun t=>tyAsked.all fun T=>decide (PySem.W.kitOne [] (.type t) (.type T)=some (subT t T)))=true:=by decide +kernel
theorem z6M {K:PySem.W.Frag}{t T:String}(h1:t∈tyNames) (h2:T∈tyAsked):PySem.W.kitOne K (.type t) (.type T)=some (subT t T):=by
 have q:=zg4
 rw [List.all_eq_true] at q
 have q2:=q t h1
 rw [List.all_eq_true] at q2
 have q3:=q2 T h2
 exact of_decide_eq_true q3
def fIsi (T:String):D->M D:=fun x=>do
 let t ← tyD x
 pure (.bl (subT t T))
theorem zq2 {pins:List (Addr×Obj)}{σ:L2.St}{H:Hp}{s:Shared}{E:Value->Shared->Prop}{Q:Value->Shared->Prop}{q:Addr}{c:Value}{k:Bool}{xs:List V}(I:Inv X pins σ H s) (h:SqT X.K H q xs) (e:PySem.W.kitOne X.K (.type "tuple") c=some k) (hQ:∀ tk,Q (.bool k) { s with toks:=tk }) :
 wpAny (model X.prog X.w) X.A (call (.builtin "isinstance") [.ref q,c]) Q E s:=by
 obtain ⟨its,_,ht,_⟩:=I.tuple h
 obtain ⟨o,h1,h2,_⟩:=ht
 exact PySem.W.kia_one PySem.W.kitx_tuple I.kIn ⟨o,h1,h2⟩ e (fun z=>nomatch z) hQ
theorem zl5 {pins:List (Addr×Obj)}{σ:L2.St}{H:Hp}{s:Shared}{E:Value->Shared->Prop}{Q:Value->Shared->Prop}{q:Addr}{c:Value}{k:Bool}{xs:List V}(I:Inv X pins σ H s) (h:SqL X.K H q xs) (e:PySem.W.kitOne X.K (.type "list") c=some k) (hQ:∀ tk,Q (.bool k) { s with toks:=tk }) :
 wpAny (model X.prog X.w) X.A (call (.builtin "isinstance") [.ref q,c]) Q E s:=by
 obtain ⟨its,_,ht,_⟩:=I.list h
 obtain ⟨o,n,h1,h2,_⟩:=ht
 exact PySem.W.kia_one PySem.W.kitx_list I.kIn ⟨o,h1,h2⟩ e (fun z=>nomatch z) hQ
def TyV (K:PySem.W.Frag) (H:Hp) (v:V) (t:String):Prop:=match v with
 | .non=>t = "NoneType"
 | .bl _=>t = "bool"
 | .int _=>t = "int"
 | .str _=>t = "str"
 | .ref q=>(t = "tuple"/\∃ xs,SqT K H q xs)∨(t = "list"/\∃ xs,SqL K H q xs)∨(t = "dict"/\(H q=some (dctO q)∨∃ kvs,H q=some (.dK kvs)))
 | _=>False
theorem z9w {T:String}(hT:T∈tyAsked):z1Q X (.builtin "isinstance") (fun xs H Q=>∃ x t,xs=[x,.ty T]/\TyV X.K H x t/\Q (.bl (subT t T)) H):=by
 intro pins s σ H xs us Q I r h
 obtain ⟨x,t,rfl,ty,q⟩:=h
 obtain ⟨u,w',rfl,rx,rt⟩:=vals2 r
 cases rt
 have fin:∀ tk,EP X pins σ Q (.bool (subT t T)) { s with toks:=tk }:=fun tk=>⟨.bl _,H,I.tok tk,rfl,q⟩
 have tb:∀ {z:V} {t':Value},z=x->TyOf X.K H z t'->t'=.type t->t∈tyNames->wpAny (model X.prog X.w) X.A (call (.builtin "isinstance") [u,.type T]) (EP X pins σ Q) X.xe s:=fun {z t'} e1 ty' e2 hn=>by
  subst e1;subst e2
  exact z7A I rx ty' (z6M hn hT) fin
 cases x with
 | non=>exact tb rfl .non (by rw [show t = "NoneType" from ty]) (by rw [show t = "NoneType" from ty];decide)
 | bl y=>exact tb rfl (.bl y) (by rw [show t = "bool" from ty]) (by rw [show t = "bool" from ty];decide)
 | int y=>exact tb rfl (.int y) (by rw [show t = "int" from ty]) (by rw [show t = "int" from ty];decide)
 | str y=>exact tb rfl (.str y) (by rw [show t = "str" from ty]) (by rw [show t = "str" from ty];decide)
 | ref y =>
  cases rx
  rcases (show (t = "tuple"/\∃ xs,SqT X.K H y xs)∨(t = "list"/\∃ xs,SqL X.K H y xs)∨(t = "dict"/\(H y=some (dctO y)∨∃ kvs,H y=some (.dK kvs))) from ty) with ⟨rfl,xs,hs⟩ | ⟨rfl,xs,hs⟩ | ⟨rfl,hs | ⟨kvs,hs⟩⟩
  ·exact zq2 I hs (z6M (by decide) hT) fin
  ·exact zl5 I hs (z6M (by decide) hT) fin
  ·exact PySem.W.kia_one PySem.W.kitx_dict I.kIn (I.hok y _ hs).1 (z6M (by decide) hT) (fun z=>nomatch z) fin
  ·exact tb rfl (.dK hs) rfl (by decide)
 | byt y=>exact (show False from ty).elim
 | flt y=>exact (show False from ty).elim
 | ty y=>exact (show False from ty).elim
theorem zq0 {K:PySem.W.Frag}{ρ:List Addr}{h h1:AH}{H:Hp}{x:D}{v:V}{t:String}(r:RH K ρ h H) (rx:RD K ρ H x v) (e:tyD x h=.ok t h1):h1=h/\TyV K H v t:=by
 cases x with
 | non=>cases e;simp only [RD] at rx;subst rx;exact ⟨rfl,rfl⟩
 | bl y=>cases e;simp only [RD] at rx;subst rx;exact ⟨rfl,rfl⟩
 | int y=>cases e;simp only [RD] at rx;subst rx;exact ⟨rfl,rfl⟩
 | str y=>cases e;simp only [RD] at rx;subst rx;exact ⟨rfl,rfl⟩
 | tup y=>cases e;simp only [RD] at rx;obtain ⟨q,xs,rfl,h2,_⟩:=rx;exact ⟨rfl,.inl ⟨rfl,xs,h2⟩⟩
 | fl y=>cases e;simp only [RD] at rx;obtain ⟨q,xs,rfl,h2,_⟩:=rx;exact ⟨rfl,.inr (.inl ⟨rfl,xs,h2.sq⟩)⟩
 | ref n =>
  simp only [RD] at rx;obtain ⟨q,rfl,h2⟩:=rx
  unfold tyD at e
  dsimp only at e
  cases q1:h[n]? with
  | none=>rw [q1] at e;cases e
  | some ob =>
   rw [q1] at e
   cases ob with
   | set ks=>cases e
   | dK kvs =>
    cases e
    obtain ⟨a1,n1,vs,o1,d1⟩:=r.at q1
    rw [h2] at n1;cases n1
    exact ⟨rfl,.inr (.inr ⟨rfl,.inr ⟨_,o1⟩⟩)⟩
   | dF kvs=>cases e
   | exc c=>cases e
   | lst ds =>
    cases e
    obtain ⟨a1,n1,vs,o1,d1⟩:=r.at q1
    rw [h2] at n1;cases n1
    exact ⟨rfl,.inr (.inl ⟨rfl,vs,SqL.of o1⟩)⟩
   | dct =>
    cases e
    obtain ⟨a1,n1,o1⟩:=r.at q1
    rw [h2] at n1;cases n1
    exact ⟨rfl,.inr (.inr ⟨rfl,.inl o1⟩)⟩
theorem zE0 {x:D}{h h1:AH}{z:Exn}(e:tyD x h=.err z h1):False:=by
 cases x with
 | ref n =>
  unfold tyD at e
  dsimp only at e
  split at e<;>cases e
 | _=>cases e
def eIsi (T:String) (ma:G->M D):G->M D:=fun γ=>do
 let x ← ma γ
 fIsi T x
theorem z1G {T:Str}{T':String}(hg:Gl X "isinstance") (hm:X.mg "isinstance" = none) (hgT:Gl X T) (hmT:X.mg T=none) (hv:bootBuiltins T=some (.type T')) (hT:T'∈tyAsked) (ha:SE X EX a ma) (hn:T≠"__name__":=by decide) (hd:(T == ("__debug__":Str))=false:=by decide)
 (he:starEach [a,.Name T p2] X.env=[(false,eval a X.env),(false,eval (.Name T p2) X.env)]:=by rfl) (he2:starEach [.Name T p2] X.env=[(false,eval (.Name T p2) X.env)]:=by rfl):SE X EX (.Call (.Name "isinstance" p) [a,.Name T p2] [] pos) (eIsi T' ma):=by
 constructor
 have hA:PA X [a,.Name T p2] (z4T (tE X.K EX ma) (z4T (tC (.ty T')) tNil)):=z0q ha.h (z0q (z7u hgT hmT hv rfl hn hd) z1P he2) (by rw [he,he2])
 refine PE.imp (z0J (z9w hT) hg hm (by decide +kernel) hA (by decide) (by decide) (by rw [he,he2]) (by rw [he2];rfl)) fun σ H Q ⟨ρ,γ,h,rel,fin⟩=>⟨ρ,γ,h,rel,(Fin.bind fin).mono fun x ρ1 h1 H1 p1 e1 r1 f1 v rv=>?_⟩
 have f2:=Fin.bind f1
 cases e:tyD x h1 with
 | bad=>rw [e] at f2;exact f2.elim
 | err z hz=>exact (zE0 e).elim
 | ok t h2 =>
  obtain ⟨rfl,ty⟩:=zq0 r1 rv e
  rw [e] at f2
  have f3:=f2 ρ1 H1 (Pre.refl _) (Ext.refl _ _) r1
  exact ⟨v,t,rfl,ty,FE.here f3 r1 (by simp [RD])⟩
def blsD:List D->Option (List Bool)
 | []=>some []
 | .bl b :: r=>(blsD r).map (b :: ·)
 | _ :: _=>none
def fAll (any:Bool):List D->M D
 | [.ref n]=>do
  let xs ← getL n
  match blsD xs with
  | some bs=>pure (.bl (if any then bs.any id else bs.all id))
  | none=>bad
 | _=>bad
theorem z8J {K:PySem.W.Frag}{ρ:List Addr}{H:Hp}:∀ {xs:List D}{bs:List Bool}{vs:List V},blsD xs=some bs->RDs K ρ H xs vs->vs=bs.map V.bl
 | [],bs,vs,e,r=>by simp only [RDs] at r;cases e;subst r;rfl
 | x :: xs,bs,vs,e,r=>by
  simp only [RDs] at r
  obtain ⟨v,r2,rfl,h1,h2⟩:=r
  cases x<;>first | (simp only [blsD] at e;cases e;done) | skip
  rename_i b
  simp only [blsD] at e
  obtain ⟨bs',e1,rfl⟩:=Option.map_eq_some_iff.mp e
  simp only [RD] at h1
  subst h1
  rw [z8J e1 h2];rfl
theorem z6u:∀ {bs:List Bool}{us:List Value},Vals (bs.map V.bl) us->us=bs.map Value.bool
 | [],us,h=>by cases h;rfl
 | b :: bs,us,h=>by
  cases h with
  | cons h1 h2=>cases h1;rw [z6u h2];rfl
theorem range_all {bs:List Bool}:((List.range bs.length).all fun i=>bs.getD i false)=bs.all id:=by
 rw [Bool.eq_iff_iff,List.all_eq_true,List.all_eq_true]
 constructor
 ·intro h x hx
  obtain ⟨i,hi,rfl⟩:=List.getElem_of_mem hx
  have:=h i (List.mem_range.mpr hi)
  simpa [List.getD,hi] using this
 ·intro h i hi
  have hi':=List.mem_range.mp hi
  have:=h bs[i] (List.getElem_mem hi')
  simpa [List.getD,hi'] using this
theorem range_any {bs:List Bool}:((List.range bs.length).any fun i=>bs.getD i false)=bs.any id:=by
 rw [Bool.eq_iff_iff,List.any_eq_true,List.any_eq_true]
 constructor
 ·rintro ⟨i,hi,h⟩
  have hi':=List.mem_range.mp hi
  refine ⟨bs[i],List.getElem_mem hi',?_⟩
  simpa [List.getD,hi'] using h
 ·rintro ⟨x,hx,h⟩
  obtain ⟨i,hi,rfl⟩:=List.getElem_of_mem hx
  exact ⟨i,List.mem_range.mpr hi,by simpa [List.getD,hi] using h⟩
theorem z5h (any:Bool) (hc:X.calm=true):z1Q X (.builtin (if any then "any" else "all")) (fun xs H Q=>∃ (q:Addr) (bs:List Bool),xs=[.ref q]/\SqL X.K H q (bs.map V.bl)/\Q (.bl (if any then bs.any id else bs.all id)) H):=by
 intro pins s σ H xs us Q I r h
 obtain ⟨q,bs,rfl,hq,hQ⟩:=h
 obtain ⟨u,rfl,ru⟩:=vals1 r
 cases ru
 obtain ⟨its,rv,pl,hz⟩:=I.list hq
 have ei:=z6u rv
 have ne:q≠s.heap.objs.size:=Nat.ne_of_lt (by obtain ⟨o,n,e,_⟩:=pl;exact Heap.lt_size e)
 have pl':=pl.isList
 have hwalk:=Walks.list (prog:=X.prog) (w:=X.w) (A:=X.A.in1) (show X.A.in1.handled=none from I.ok.hd hc) s.heap.objs.size q ne its.toArray
 have len:its.toArray.size=bs.length:=by rw [ei];simp
 have st0:(s.heap.push { cls:=.type "list_iterator",data:=.fields #[.ref q,.int 0 0] }).IsListIter s.heap.objs.size q 0/\(s.heap.push { cls:=.type "list_iterator",data:=.fields #[.ref q,.int 0 0] }).IsList q its.toArray :=
  ⟨⟨_,Heap.get?_push_size _ rfl,rfl,rfl⟩,pl'.at fun o e=>Heap.get?_push_of_some _ e⟩
 have tr:TruthOf X.prog X.w X.A.in1 (fun i v=>its.toArray[i]?=some v) fun i=>bs.getD i false:=fun i v s' Q' E' hv hq'=>by
  have hv':its[i]?=some v:=by simpa using hv
  rw [ei,List.getElem?_map] at hv'
  cases eb:bs[i]? with
  | none=>rw [eb] at hv';cases hv'
  | some b =>
   rw [eb] at hv'
   cases hv'
   have:bs.getD i false=b:=by simp [List.getD,eb]
   dsimp only at hq';rw [this] at hq'
   exact wpAny_truthy_bool hq'
 have fin:∀ k,k=(if any then bs.any id else bs.all id)->∀ h' tk,(∀ b o,b∉[s.heap.objs.size]->(s.heap.push { cls:=.type "list_iterator",data:=.fields #[.ref q,.int 0 0] }).get? b=some o->h'.get? b=some o) ->
  EP X pins σ Q (.bool k) { s with heap:=h',toks:=tk }:=fun k ek h' tk hk=>by
  subst ek
  refine ⟨.bl _,H,I.kept fun b o e=>hk b o ?_ (Heap.get?_push_of_some _ e),rfl,hQ⟩
  intro z
  have:b=s.heap.objs.size:=by simpa using z
  exact absurd (Heap.lt_size e) (by rw [this];exact Nat.lt_irrefl _)
 cases any with
 | false =>
  refine call_all_walk (wpAny_pyIter_list pl' ⟨_,_,_,_,_,_,_,rfl,hwalk,st0,tr,fun h' tk hk=>?_⟩)
  exact fin _ (by rw [len];exact range_all) h' tk hk
 | true =>
  refine call_any_walk (wpAny_pyIter_list pl' ⟨_,_,_,_,_,_,_,rfl,hwalk,st0,tr,fun h' tk hk=>?_⟩)
  exact fin _ (by rw [len];exact range_any) h' tk hk
theorem zu5 {any:Bool}:AR X.K EX (fun xs H Q=>∃ (q:Addr) (bs:List Bool),xs=[.ref q]/\SqL X.K H q (bs.map V.bl)/\Q (.bl (if any then bs.any id else bs.all id)) H) (fAll any):=by
 intro ρ h H ds vs Q r rd fin
 unfold fAll at fin
 split at fin
 ·rename_i n
  obtain ⟨v,rfl,rv⟩:=rds1 rd
  have f1:=Fin.bind fin
  cases e:getL n h with
  | bad=>rw [e] at f1;exact f1.elim
  | err z hz=>exact (z13 e).elim
  | ok xs h1 =>
   obtain ⟨rfl,q1⟩:=z12 e
   rw [e] at f1
   have f2:=f1 ρ H (Pre.refl _) (Ext.refl _ _) r
   dsimp only at f2
   cases eb:blsD xs with
   | none=>rw [eb] at f2;exact f2.elim
   | some bs =>
    rw [eb] at f2
    simp only [RD] at rv;obtain ⟨q,rfl,h2⟩:=rv
    obtain ⟨a1,n1,vs,o1,d1⟩:=r.at q1
    rw [h2] at n1;cases n1
    have ev:=z8J eb d1
    subst ev
    exact ⟨q,bs,rfl,SqL.of o1,FE.here f2 r (by simp [RD])⟩
 ·exact fin.elim
theorem zy3 (hc:X.calm=true) (hg:Gl X "all") (hm:X.mg "all" = none) (ha:SA X EX [a] mr) (he:starEach [a] X.env=[(false,eval a X.env)]:=by rfl):SE X EX (.Call (.Name "all" p) [a] [] pos) (Z9 (fAll false) mr) :=
 z1f (z0J (z5h false hc) hg hm (by decide +kernel) ha.h (by decide) (by decide) he rfl) zu5
end
abbrev EX0:XX:=fun _ _ _ _=>False
def spB (K:PySem.W.Frag) (mf:List D->M D) (n:Nat):Sp:=fun vs H Q _=>vs.length=n/\∃ ρ ds h,RH K ρ h H/\RDs K ρ H ds vs/\FE K EX0 ρ H Q (mf ds h)
structure Fn (P:Program) (w:World) (K:PySem.W.Frag) (mg:Str->Option Value) (base:Heap) (k:Nat) (x:Str) (n:Nat) (mf:List D->M D):Prop where
 ex:∃ f fd ps,FnOk P w K mg base CX0 k f fd ps (spB K mf n)/\Binds K fd ps []/\PySem.W.keepIn K (.ref f)=true/\mg x=some (.ref f)
def eFn (n:Nat) (mf:List D->M D) (mr:G->M (List D)):G->M D:=fun γ=>do
 let xs ← mr γ
 if xs.length=n then mf xs else bad
section
variable {X:Cx}{a b c e:Expr}{pos p p2:Pos}{ma mb mc:G->M D}{es:List Expr}{mr:G->M (List D)}{k n:Nat}{x:Str}{mf:List D->M D}
theorem Z7 (F:Fn X.prog X.w X.K X.mg X.base k x n mf) (hr:Room k X.A) (hg:Gl X x) (ha:SA X EX0 (a :: es) mr) (hdb:(x == ("__debug__":Str))=false:=by decide)
 (he:starEach (a :: es) X.env=(false,eval a X.env) :: starEach es X.env:=by rfl) (hpl:(backTo pos (starEach es X.env)).any (·.1)=false:=by rfl):SE X EX0 (.Call (.Name x p) (a :: es) [] pos) (eFn n mf mr):=by
 constructor
 obtain ⟨f,fd,ps,h1,h2,h3,h4⟩:=F.ex
 refine PE.imp (z8g h1 hr hg h4 h3 h2 .nil zF0 ha.h hdb he hpl) fun σ H Q ⟨ρ,γ,h,rel,fin⟩=>⟨ρ,γ,h,rel,(Fin.bind fin).mono fun xs ρ1 h1 H1 p1 e1 r1 f1 vs rvs=>?_⟩
 show spB X.K mf n (vs++[]) H1 Q E0
 rw [List.append_nil]
 by_cases hl:xs.length=n
 ·rw [if_pos hl] at f1
  exact ⟨by rw [← rvs.length];exact hl,ρ1,xs,h1,r1,rvs,f1⟩
 ·rw [if_neg hl] at f1;exact (show False from f1).elim
end
def z1b (n:Nat) (ds:List D):G:=ds.map some++List.replicate (n - ds.length) none
def runF (n:Nat) (mb:G->M Out) (ds:List D):M D:=do
 let o ← mb (z1b n ds)
 match o with
 | .nx _=>pure .non
 | .rt d=>pure d
 | _=>bad
section
variable {P:Program}{w:World}{K:PySem.W.Frag}{mg:Str->Option Value}{base:Heap}
theorem z3p {ρ:List Addr}{H:Hp}{N:List Str}{ds:List D}{vs:List V}(h:RDs K ρ H ds vs):RG K ρ H (z1b N.length ds) (L2.start N vs):=by
 have hl:=h.length
 refine ⟨by unfold z1b L2.start;simp [hl],fun i d e=>?_⟩
 unfold z1b at e
 unfold L2.start
 rw [List.getElem?_append] at e ⊢
 rw [List.length_map] at e ⊢
 rw [← hl]
 split at e
 ·rename_i hi
  rw [if_pos hi]
  rw [List.getElem?_map] at e ⊢
  cases q:ds[i]? with
  | none=>rw [q] at e;cases e
  | some d' =>
   rw [q] at e
   cases e
   obtain ⟨v,h1,h2⟩:=h.get q
   exact ⟨v,by rw [h1];rfl,h2⟩
 ·rw [List.getElem?_replicate] at e
  split at e<;>cases e
end
section
variable {env:Env}{t:Option Expr}{l:Nat}{tg:List Expr}
theorem z90 {a p}:swapsWith (.List a p) t l env=pure false:=rfl
theorem z6h {a b p}:swapsWith (.Tuple a b p) t l env=pure false:=rfl
theorem z3k {c k p}:swapsWith (.Constant c k p) t l env=pure false:=rfl
theorem z8m {c p}:swapsWith (.Name c p) t l env=pure false:=rfl
theorem z5M {a b c p}:swapsWith (.Call a b c p) t l env=pure false:=rfl
theorem z62 {a b c p}:swapsWith (.BinOp a b c p) t l env=pure false:=rfl
theorem z3L {a b c p}:swapsWith (.Compare a b c p) t l env=pure false:=rfl
theorem z2L {a b p}:swapsWith (.Subscript a b p) t l env=pure false:=rfl
theorem z3u {a b p}:swapsWith (.UnaryOp a b p) t l env=pure false:=rfl
theorem z5b {a b p}:swapsWith (.BoolOp a b p) t l env=pure false:=rfl
theorem z61 {a b c p}:swapsWith (.IfExp a b c p) t l env=pure false:=rfl
end
section
variable {X:Cx}{EX:XX}{a b c e:Expr}{pos p p2:Pos}{ma mb mc:G->M D}{ka kb kc:G->M Bool}{st:Stmt}{sts:List Stmt}{ms mt:G->M Out}
def bNil:G->M Out:=fun γ=>pure (.nx γ)
def Z1 (ms mt:G->M Out):G->M Out:=fun γ=>do
 let o ← ms γ
 match o with
 | .nx γ'=>mt γ'
 | o=>pure o
theorem Z5:SB X EX [] bNil:=⟨PSs.imp zq6 fun σ H D ⟨ρ,γ,h,rel,fin⟩=>fin ρ H (Pre.refl _) (Ext.refl _ _) rel.h σ rel.g⟩
theorem z9 (h1:S1 X EX st ms) (h2:SB X EX sts mt):SB X EX (st :: sts) (Z1 ms mt) :=
 ⟨PSs.imp (zc4 h1.h h2.h) fun σ H D ⟨ρ,γ,h,rel,fin⟩=>⟨ρ,γ,h,rel,(Fin.bind fin).mono fun o ρ1 h1 H1 p1 e1 r1 f1=>by
  cases o with
  | nx γ'=>exact fun σ' rg=>⟨ρ1,γ',h1,⟨rg,r1⟩,f1⟩
  | rt d=>exact f1 ρ1 H1 (Pre.refl _) (Ext.refl _ _) r1
  | bk γ'=>exact f1 ρ1 H1 (Pre.refl _) (Ext.refl _ _) r1
  | ct γ'=>exact f1 ρ1 H1 (Pre.refl _) (Ext.refl _ _) r1⟩⟩
def sRet (ma:G->M D):G->M Out:=fun γ=>do
 let d ← ma γ
 pure (.rt d)
theorem J2 (ha:SE X EX a ma):S1 X EX (.Return (some a) pos) (sRet ma) :=
 ⟨PS.imp (zz0 ha.h) fun σ H D ⟨ρ,γ,h,rel,fin⟩=>⟨ρ,γ,h,rel,(Fin.bind fin).mono fun d ρ1 h1 H1 p1 e1 r1 f1 v rv=>f1 ρ1 H1 (Pre.refl _) (Ext.refl _ _) r1 v rv⟩⟩
def z1o (ma:G->M D):G->M Out:=fun γ=>do
 let _ ← ma γ
 pure (.nx γ)
theorem z25 (ha:SE X EX a ma) (hs:swapsWith a none pos.line X.env=pure false:=by first | exact z90 | exact z6h | exact z3k | exact z8m | exact z5M | exact z62 | exact z3L | exact z2L | exact z3u | exact z5b | exact z61 | rfl):S1 X EX (.Expr a pos) (z1o ma) :=
 ⟨PS.imp (zi7 ha.h hs) fun σ H D ⟨ρ,γ,h,rel,fin⟩=>⟨ρ,γ,h,rel,(Fin.bind fin).mono fun d ρ1 h1 H1 p1 e1 r1 f1 v rv=>f1 ρ1 H1 (Pre.refl _) (Ext.refl _ _) r1 σ (rel.g.mono p1 e1)⟩⟩
def sIf (k:G->M Bool) (ms mt:G->M Out):G->M Out:=fun γ=>do
 let t ← k γ
 if t then ms γ else mt γ
theorem s_if {sts':List Stmt}(hc:SC X EX c kc) (h1:SB X EX sts ms) (h2:SB X EX sts' mt):S1 X EX (.If c sts sts' pos) (sIf kc ms mt) :=
 ⟨PS.imp (zI8 hc.h h1.h h2.h) fun σ H D ⟨ρ,γ,h,rel,fin⟩=>⟨ρ,γ,h,rel,(Fin.bind fin).mono fun t ρ1 h1 H1 p1 e1 r1 f1=>by
  cases t with
  | true=>exact ⟨ρ1,γ,h1,⟨rel.g.mono p1 e1,r1⟩,f1⟩
  | false=>exact ⟨ρ1,γ,h1,⟨rel.g.mono p1 e1,r1⟩,f1⟩⟩⟩
def tG (K:PySem.W.Frag) (EX:XX) (m:D->G->M G):TG:=fun v σ H Q=>∃ ρ γ h d,Rel K ρ γ h σ H/\RD K ρ H d v/\Fin K EX ρ H (fun γ' ρ' _ H'=>∀ σ',RG K ρ' H' γ' σ'->Q σ' H') (m d γ h)
def tGs (K:PySem.W.Frag) (EX:XX) (m:List D->G->M G):TGs:=fun vs σ H Q=>∃ ρ γ h ds,Rel K ρ γ h σ H/\RDs K ρ H ds vs/\Fin K EX ρ H (fun γ' ρ' _ H'=>∀ σ',RG K ρ' H' γ' σ'->Q σ' H') (m ds γ h)
structure SG (X:Cx) (EX:XX) (tg:Expr) (m:D->G->M G):Prop where
 h:PG X tg (tG X.K EX m)
structure SGs (X:Cx) (EX:XX) (tg:List Expr) (m:List D->G->M G):Prop where
 h:PGs X tg (tGs X.K EX m)
theorem PG.imp {X:Cx}{e:Expr}{t t':TG}(h:PG X e t) (f:∀ v σ H Q,t' v σ H Q->t v σ H Q):PG X e t':=fun pins s σ H v u Q I r z=>h pins s σ H v u Q I r (f v σ H Q z)
theorem PGs.imp {X:Cx}{e:List Expr}{t t':TGs}(h:PGs X e t) (f:∀ v σ H Q,t' v σ H Q->t v σ H Q):PGs X e t':=fun pins s σ H v u Q I r z=>h pins s σ H v u Q I r (f v σ H Q z)
def tGk (K:PySem.W.Frag) (EX:XX) (own:List Nat) (m:D->G->M G):TG:=fun v σ H Q=>∃ ρ γ h d,Rel K ρ γ h σ H/\RD K ρ H d v/\Fin K EX ρ H (fun γ' ρ' _ H'=>∀ σ',RG K ρ' H' γ' σ'->(∀ j:Nat,j∉own->σ'[j]?=σ[j]?)->Q σ' H') (m d γ h)
def tGks (K:PySem.W.Frag) (EX:XX) (own:List Nat) (m:List D->G->M G):TGs:=fun vs σ H Q=>∃ ρ γ h ds,Rel K ρ γ h σ H/\RDs K ρ H ds vs/\Fin K EX ρ H (fun γ' ρ' _ H'=>∀ σ',RG K ρ' H' γ' σ'->(∀ j:Nat,j∉own->σ'[j]?=σ[j]?)->Q σ' H') (m ds γ h)
structure SGk (X:Cx) (EX:XX) (tg:Expr) (own:List Nat) (m:D->G->M G):Prop where
 h:PG X tg (tGk X.K EX own m)
structure SGks (X:Cx) (EX:XX) (tg:List Expr) (own:List Nat) (m:List D->G->M G):Prop where
 h:PGs X tg (tGks X.K EX own m)
def gN (i:Nat):D->G->M G:=fun d γ=>pure (γ.set i (some d))
theorem x6 (i:Nat) {x:Str}(hN:X.N.Nodup) (hi:X.N[i]?=some x:=by rfl) (hx:Loc X.env.scope x:=by first | exact Or.inl rfl | exact Or.inr rfl) (hf:X.fn x=true∨X.env.scope.names.lookup x=some .local:=by first | exact .inl rfl | exact .inr rfl | assumption):SG X EX (.Name x pos) (gN i) :=
 ⟨PG.imp (z5z hN hi hx hf) fun v σ H Q ⟨ρ,γ,h,d,rel,rd,fin⟩=>fin ρ H (Pre.refl _) (Ext.refl _ _) rel.h _ (rel.g.set i rd)⟩
theorem y9 (i:Nat) {x:Str}(hN:X.N.Nodup) (hi:X.N[i]?=some x:=by rfl) (hx:Loc X.env.scope x:=by first | exact Or.inl rfl | exact Or.inr rfl) (hf:X.fn x=true∨X.env.scope.names.lookup x=some .local:=by first | exact .inl rfl | exact .inr rfl | assumption):SGk X EX (.Name x pos) [i] (gN i) :=
 ⟨PG.imp (z5z hN hi hx hf) fun v σ H Q ⟨ρ,γ,h,d,rel,rd,fin⟩=>fin ρ H (Pre.refl _) (Ext.refl _ _) rel.h _ (rel.g.set i rd) fun j hj=>List.getElem?_set_ne (fun z=>hj (by simp [z]))⟩
def z7s:List D->G->M G:=fun ds γ=>match ds with
 | []=>pure γ
 | _=>bad
def z2K (m:D->G->M G) (ms:List D->G->M G):List D->G->M G:=fun ds γ=>match ds with
 | []=>bad
 | d :: r=>do
  let γ1 ← m d γ
  ms r γ1
theorem z9b:SGs X EX [] z7s:=⟨PGs.imp z7Y fun v σ H Q ⟨ρ,γ,h,ds,rel,rd,fin⟩=>by
 cases ds with
 | nil=>simp only [RDs] at rd;exact ⟨rd,fin ρ H (Pre.refl _) (Ext.refl _ _) rel.h σ rel.g⟩
 | cons d r=>exact (show False from fin).elim⟩
theorem z2W {es:List Expr}{m:D->G->M G}{mr:List D->G->M G}(h1:SG X EX e m) (h2:SGs X EX es mr) (hs:(assignEach (e :: es) X.env).map (·.2)=assign e X.env :: (assignEach es X.env).map (·.2):=by rfl):SGs X EX (e :: es) (z2K m mr) :=
 ⟨PGs.imp (z6c h1.h h2.h hs) fun vs σ H Q ⟨ρ,γ,h,ds,rel,rd,fin⟩=>by
  cases ds with
  | nil=>exact (show False from fin).elim
  | cons d r =>
   simp only [RDs] at rd
   obtain ⟨v,vr,rfl,h3,h4⟩:=rd
   have fin':Fin X.K EX ρ H (fun γ' ρ' _ H'=>∀ σ',RG X.K ρ' H' γ' σ'->Q σ' H') ((m d γ >>= fun γ1=>mr r γ1) h):=fin
   exact ⟨v,vr,rfl,ρ,γ,h,d,rel,h3,(Fin.bind fin').mono fun γ1 ρ1 h1 H1 p1 e1 r1 f1 σ1 g1=>⟨ρ1,γ1,h1,r,⟨g1,r1⟩,h4.mono p1 e1,f1⟩⟩⟩
theorem z9T:SGks X EX [] [] z7s:=⟨PGs.imp z7Y fun v σ H Q ⟨ρ,γ,h,ds,rel,rd,fin⟩=>by
 cases ds with
 | nil=>simp only [RDs] at rd;exact ⟨rd,fin ρ H (Pre.refl _) (Ext.refl _ _) rel.h σ rel.g fun _ _=>rfl⟩
 | cons d r=>exact (show False from fin).elim⟩
theorem z5c {es:List Expr}{o1 o2:List Nat}{m:D->G->M G}{mr:List D->G->M G}(h1:SGk X EX e o1 m) (h2:SGks X EX es o2 mr) (hs:(assignEach (e :: es) X.env).map (·.2)=assign e X.env :: (assignEach es X.env).map (·.2):=by rfl):SGks X EX (e :: es) (o1++o2) (z2K m mr) :=
 ⟨PGs.imp (z6c h1.h h2.h hs) fun vs σ H Q ⟨ρ,γ,h,ds,rel,rd,fin⟩=>by
  cases ds with
  | nil=>exact (show False from fin).elim
  | cons d r =>
   simp only [RDs] at rd
   obtain ⟨v,vr,rfl,h3,h4⟩:=rd
   have fin':Fin X.K EX ρ H (fun γ' ρ' _ H'=>∀ σ',RG X.K ρ' H' γ' σ'->(∀ j:Nat,j∉o1++o2->σ'[j]?=σ[j]?)->Q σ' H') ((m d γ >>= fun γ1=>mr r γ1) h):=fin
   refine ⟨v,vr,rfl,ρ,γ,h,d,rel,h3,(Fin.bind fin').mono fun γ1 ρ1 h1 H1 p1 e1 r1 f1 σ1 g1 k1=>⟨ρ1,γ1,h1,r,⟨g1,r1⟩,h4.mono p1 e1,f1.mono fun γ2 ρ2 h2 H2 p2 e2 r2 f2 σ2 g2 k2=>f2 σ2 g2 fun j hj=>?_⟩⟩
   rw [List.mem_append,not_or] at hj
   rw [k2 j hj.2,k1 j hj.1]⟩
def gT (n:Nat) (m:List D->G->M G):D->G->M G:=fun d γ=>match d with
 | .tup xs=>if xs.length=n then m xs γ else bad
 | _=>bad
theorem zd6 {es:List Expr}{k n:Nat}{m:List D->G->M G}(hc:X.calm=true) (h:SGs X EX es m) (hn:(assignEach es X.env).length=n:=by rfl) (hst:(assignEach es X.env).findIdx? (·.1)=none:=by rfl):SG X EX (.Tuple es k pos) (gT n m) :=
 ⟨PG.imp (zd3 hc h.h hn hst) fun v σ H Q ⟨ρ,γ,h,d,rel,rd,fin⟩=>by
  cases d<;>first | exact (show False from fin).elim | skip
  rename_i xs
  simp only [RD] at rd
  obtain ⟨q,vs,rfl,h1,h2⟩:=rd
  have fin':Fin X.K EX ρ H (fun γ' ρ' _ H'=>∀ σ',RG X.K ρ' H' γ' σ'->Q σ' H') ((if xs.length=n then m xs γ else bad) h):=fin
  by_cases hl:xs.length=n
  ·rw [if_pos hl] at fin'
   exact ⟨q,vs,rfl,h1,by rw [← h2.length];exact hl,ρ,γ,h,xs,rel,h2,fin'⟩
  ·rw [if_neg hl] at fin';exact (show False from fin').elim⟩
theorem zo1 {es:List Expr}{k n:Nat}{own:List Nat}{m:List D->G->M G}(hc:X.calm=true) (h:SGks X EX es own m) (hn:(assignEach es X.env).length=n:=by rfl) (hst:(assignEach es X.env).findIdx? (·.1)=none:=by rfl):SGk X EX (.Tuple es k pos) own (gT n m) :=
 ⟨PG.imp (zd3 hc h.h hn hst) fun v σ H Q ⟨ρ,γ,h,d,rel,rd,fin⟩=>by
  cases d<;>first | exact (show False from fin).elim | skip
  rename_i xs
  simp only [RD] at rd
  obtain ⟨q,vs,rfl,h1,h2⟩:=rd
  have fin':Fin X.K EX ρ H (fun γ' ρ' _ H'=>∀ σ',RG X.K ρ' H' γ' σ'->(∀ j:Nat,j∉own->σ'[j]?=σ[j]?)->Q σ' H') ((if xs.length=n then m xs γ else bad) h):=fin
  by_cases hl:xs.length=n
  ·rw [if_pos hl] at fin'
   exact ⟨q,vs,rfl,h1,by rw [← h2.length];exact hl,ρ,γ,h,xs,rel,h2,fin'⟩
  ·rw [if_neg hl] at fin';exact (show False from fin').elim⟩
def fSet:D->D->D->M Unit:=fun o i v=>match o,i with
 | .ref n,.int k=>fun h=>match h[n]? with
  | some (.lst xs)=>(match ixN xs.length k with
   | some j=>.ok () (h.set n (.lst (xs.set j v)))
   | none=>.bad)
  | _=>.bad
 | _,_=>bad
def gIx (mo mi:G->M D):D->G->M G:=fun v γ=>do
 let o ← mo γ
 let i ← mi γ
 let _ ← fSet o i v
 pure γ
theorem zo8 {o i:Expr}{mo mi:G->M D}(ho:SE X EX o mo) (hi:SE X EX i mi)
 (ha:∀ v,assign (.Subscript o i pos) X.env v=(do
  let ov ← holding [v] (eval o X.env)
  let iv ← holding [v,ov] (eval i X.env)
  standAt pos
  holding [v,ov,iv] (setItem ov iv v)
  release [v,ov,iv] []):=by intro _;rfl):SG X EX (.Subscript o i pos) (gIx mo mi) :=
 ⟨PG.imp (zz4 ho.h hi.h set_list ha) fun v σ H Q ⟨ρ,γ,h,d,rel,rd,fin⟩=>⟨ρ,γ,h,rel,(Fin.bind fin).mono fun od ρ1 h1 H1 p1 e1 r1 f1 ov ro=>⟨ρ1,γ,h1,⟨rel.g.mono p1 e1,r1⟩,(Fin.bind f1).mono fun id ρ2 h2 H2 p2 e2 r2 f2 iv ri=>by
  have f3:=Fin.bind f2
  cases od<;>first | exact (show False from f3).elim | skip
  rename_i n
  cases id<;>first | exact (show False from f3).elim | skip
  rename_i k
  simp only [RD] at ro ri
  obtain ⟨q,rfl,hq⟩:=ro
  subst ri
  have hq2:=p2 n q hq
  unfold fSet at f3
  dsimp only at f3
  cases e4:h2[n]? with
  | none=>rw [e4] at f3;exact (show False from f3).elim
  | some ob =>
   cases ob with
   | set ks=>rw [e4] at f3;exact (show False from f3).elim
   | dct=>rw [e4] at f3;exact (show False from f3).elim
   | dK kvs=>rw [e4] at f3;exact (show False from f3).elim
   | dF kvs=>rw [e4] at f3;exact (show False from f3).elim
   | exc c=>rw [e4] at f3;exact (show False from f3).elim
   | lst xs =>
    rw [e4] at f3
    dsimp only at f3
    cases e5:ixN xs.length k with
    | none=>rw [e5] at f3;exact (show False from f3).elim
    | some j =>
     rw [e5] at f3
     obtain ⟨a1,n1,vs,o1,d1⟩:=r2.at e4
     rw [hq2] at n1;cases n1
     have rd2:=(rd.mono p1 e1).mono p2 e2
     have dd:=d1.set j rd2
     refine ⟨q,vs,k,j,rfl,rfl,o1,by rw [← d1.length];exact e5,?_⟩
     have ext:Ext X.K H2 (upd H2 q (.lst (vs.set j v))):=Ext.upd (.inr ⟨_,o1,trivial⟩)
     have f4:=f3 ρ2 _ (Pre.refl _) ext (r2.set e4 hq2 dd)
     exact f4 ρ2 _ (Pre.refl _) (Ext.refl _ _) (r2.set e4 hq2 dd) σ (((rel.g.mono p1 e1).mono p2 e2).mono (Pre.refl _) ext)⟩⟩⟩
def sAsg (ma:G->M D) (g:D->G->M G):G->M Out:=fun γ=>do
 let d ← ma γ
 let γ1 ← g d γ
 pure (.nx γ1)
theorem z9C {tg:Expr}{g:D->G->M G}(ha:SE X EX a ma) (hg:SG X EX tg g) (hs:swapsWithSole [tg] a pos.line X.env=pure false:=by rfl) (hw:swappedStores [tg] a X.env=pure none:=by rfl)
 (h1:(assignEach [tg] X.env).map (·.2)=[assign tg X.env]:=by rfl):S1 X EX (.Assign [tg] a pos) (sAsg ma g) :=
 ⟨PS.imp (zu9 ha.h hg.h hs hw h1) fun σ H D ⟨ρ,γ,h,rel,fin⟩=>⟨ρ,γ,h,rel,(Fin.bind fin).mono fun d ρ1 h1 H1 p1 e1 r1 f1 v rv=>⟨ρ1,γ,h1,d,⟨rel.g.mono p1 e1,r1⟩,rv,(Fin.bind f1).mono fun γ1 ρ2 h2 H2 p2 e2 r2 f2 σ2 g2 =>
  f2 ρ2 H2 (Pre.refl _) (Ext.refl _ _) r2 σ2 g2⟩⟩⟩
theorem k7 (i:Nat) {x:Str}(hN:X.N.Nodup) (ha:SE X EX a ma) (hi:X.N[i]?=some x:=by rfl) (hx:Loc X.env.scope x:=by first | exact Or.inl rfl | exact Or.inr rfl) (hs:swapsWith a (some (.Name x p)) pos.line X.env=pure false:=by first | exact z90 | exact z6h | exact z3k | exact z8m | exact z5M | exact z62 | exact z3L | exact z2L | exact z3u | exact z5b | exact z61 | rfl)
 (hf:X.fn x=true∨X.env.scope.names.lookup x=some .local:=by first | exact .inl rfl | exact .inr rfl | assumption):S1 X EX (.Assign [.Name x p] a pos) (sAsg ma (gN i)) :=
 ⟨PS.imp (zy1 hN hi hx ha.h hs hf) fun σ H D ⟨ρ,γ,h,rel,fin⟩=>⟨ρ,γ,h,rel,(Fin.bind fin).mono fun d ρ1 h1 H1 p1 e1 r1 f1 v rv=>f1 ρ1 H1 (Pre.refl _) (Ext.refl _ _) r1 _ ((rel.g.mono p1 e1).set i rv)⟩⟩
end
section
variable {X:Cx}{EX:XX}{a o e:Expr}{pos cpos apos:Pos}{ma mo:G->M D}
def updL (n:Nat) (f:List D->Option (D×List D)):M D:=fun h=>match h[n]? with
 | some (.lst xs)=>(match f xs with
  | some (d,ys)=>if ys.length≤sizeLine then .ok d (h.set n (.lst ys)) else .bad
  | none=>.bad)
 | _=>.bad
def z2u:D->M Nat
 | .ref n=>fun h=>match h[n]? with
  | some (.lst _)=>.ok n h
  | _=>.bad
 | _=>bad
def J8 (n:Nat) (v:D):M D:=updL n fun xs=>some (.non,xs++[v])
def z2s (n:Nat) (i:D):M D:=match i with
 | .int k=>updL n fun xs=>if -(2 ^ 63)≤k/\k<2 ^ 63 then (match seqIndex? k xs.length with
  | some j=>(xs[j]?).map fun d=>(d,xs.eraseIdx j)
  | none=>none) else none
 | _=>bad
def eM1 (f:Nat->D->M D) (mo ma:G->M D):G->M D:=fun γ=>do
 let o ← mo γ
 let n ← z2u o
 let v ← ma γ
 f n v
theorem z6j {K:PySem.W.Frag}{ρ:List Addr}{h:AH}{H:Hp}{Q:VK}{n:Nat}{q:Addr}{f:List D->Option (D×List D)}(r:RH K ρ h H) (hq:ρ[n]?=some q) (fin:FE K EX ρ H Q (updL n f h)) :
 ∃ xs d ys vs,f xs=some (d,ys)/\ys.length≤sizeLine/\H q=some (.lst vs)/\RDs K ρ H xs vs/\∀ v ws,RD K ρ H d v->RDs K ρ H ys ws->Q v (upd H q (.lst ws)):=by
 unfold updL at fin
 cases e:h[n]? with
 | none=>rw [e] at fin;exact fin.elim
 | some ob =>
  cases ob with
  | set ks=>rw [e] at fin;exact fin.elim
  | dct=>rw [e] at fin;exact fin.elim
  | dK kvs=>rw [e] at fin;exact fin.elim
  | dF kvs=>rw [e] at fin;exact fin.elim
  | exc c=>rw [e] at fin;exact fin.elim
  | lst xs =>
   rw [e] at fin
   dsimp only at fin
   cases e2:f xs with
   | none=>rw [e2] at fin;exact fin.elim
   | some dy =>
    obtain ⟨d,ys⟩:=dy
    rw [e2] at fin
    dsimp only at fin
    split at fin
    ·rename_i hl
     obtain ⟨a1,n1,vs,o1,d1⟩:=r.at e
     rw [hq] at n1;cases n1
     refine ⟨xs,d,ys,vs,e2,hl,o1,d1,fun v ws rv rw'=>?_⟩
     have ext:Ext K H (upd H q (.lst ws)):=Ext.upd (.inr ⟨_,o1,trivial⟩)
     exact fin ρ _ (Pre.refl _) ext (r.set e hq rw') v (rv.mono (Pre.refl _) ext)
    ·exact fin.elim
theorem zg8 {K:PySem.W.Frag}{ρ:List Addr}{h:AH}{H:Hp}{n:Nat}{q:Addr}{Z:Nat->List Addr->AH->Hp->Prop}(r:RH K ρ h H) (hq:ρ[n]?=some q) (f:Fin K EX ρ H Z (z2u (.ref n) h)):tyV K "list" (.ref q) H/\Z n ρ h H:=by
 unfold z2u at f
 dsimp only at f
 cases e:h[n]? with
 | none=>rw [e] at f;exact f.elim
 | some ob =>
  cases ob with
  | set ks=>rw [e] at f;exact f.elim
  | dct=>rw [e] at f;exact f.elim
  | dK kvs=>rw [e] at f;exact f.elim
  | dF kvs=>rw [e] at f;exact f.elim
  | exc c=>rw [e] at f;exact f.elim
  | lst xs =>
   rw [e] at f
   obtain ⟨a1,n1,vs,o1,d1⟩:=r.at e
   rw [hq] at n1;cases n1
   exact ⟨.inl ⟨rfl,vs,SqL.of o1⟩,f ρ H (Pre.refl _) (Ext.refl _ _) r⟩
theorem zj7 {f:Nat->D->M D}{r:V->List V->Hp->VK->Prop}(hr:∀ ρ h H n q y u Q,RH X.K ρ h H->ρ[n]?=some q->RD X.K ρ H y u->FE X.K EX ρ H Q (f n y h)->r (.ref q) [u] H Q) :
 ∀ σ H Q,tE X.K EX (eM1 f mo ma) σ H Q->tBM X.K "list" r (tE X.K EX mo) (z4T (tE X.K EX ma) tNil) σ H Q:=fun σ H Q ⟨ρ,γ,h,rel,fin⟩=>⟨ρ,γ,h,rel,(Fin.bind fin).mono fun x ρ1 h1 H1 p1 e1 r1 f1 v rv=>by
 have f2:=Fin.bind f1
 cases x<;>first | exact (show False from f2).elim | skip
 rename_i n
 simp only [RD] at rv
 obtain ⟨q,rfl,hq⟩:=rv
 obtain ⟨lt,f3⟩:=zg8 r1 hq f2
 exact ⟨lt,ρ1,γ,h1,⟨rel.g.mono p1 e1,r1⟩,(Fin.bind f3).mono fun y ρ2 h2 H2 p2 e2 r2 f4 u ru=>hr ρ2 h2 H2 n q y u Q r2 (p2 n q hq) ru f4⟩⟩
theorem z0t (ho:SE X EX o mo) (ha:SE X EX a ma)
 (hbase:attributeBase o "append" X.env (eval o X.env)=eval o X.env:=by rfl)
 (hfew:((backTo cpos (starEach [a] X.env)).all (fun x=>!x.1) && (backToKw cpos (keywordEach [] X.env)).all (fun x=>x.1.isSome)
  && decide (([a]:List Expr).length+([]:List Keyword).length+(if ([]:List Keyword).isEmpty then 0 else 1)<30))=true:=by rfl)
 (hline:(apos.endLine == cpos.line)=true:=by rfl) (hs:starEach [a] X.env=[(false,eval a X.env)]:=by rfl) :
 SE X EX (.Call (.Attribute o "append" apos) [a] [] cpos) (eM1 J8 mo ma) :=
 ⟨PE.imp (zi6 PySem.F.plainAttrs_list PySem.F.slot_list_append PySem.F.type_list_append z53 ho.h (z0q ha.h z1P hs) hbase hfew hline hs rfl) (zj7 fun ρ h H n q y u Q r hq ru fin=>by
  obtain ⟨xs,d,ys,vs,g1,g2,g3,g4,g5⟩:=z6j r hq fin
  cases g1
  have hl:=g4.length
  rw [List.length_append,List.length_singleton] at g2
  exact ⟨q,vs,u,rfl,rfl,g3,by omega,g5 _ _ (by simp [RD]) (g4.append (RDs.cons ru RDs.nil))⟩)⟩
theorem z6A (ho:SE X EX o mo) (ha:SE X EX a ma)
 (hbase:attributeBase o "pop" X.env (eval o X.env)=eval o X.env:=by rfl)
 (hfew:((backTo cpos (starEach [a] X.env)).all (fun x=>!x.1) && (backToKw cpos (keywordEach [] X.env)).all (fun x=>x.1.isSome)
  && decide (([a]:List Expr).length+([]:List Keyword).length+(if ([]:List Keyword).isEmpty then 0 else 1)<30))=true:=by rfl)
 (hline:(apos.endLine == cpos.line)=true:=by rfl) (hs:starEach [a] X.env=[(false,eval a X.env)]:=by rfl) :
 SE X EX (.Call (.Attribute o "pop" apos) [a] [] cpos) (eM1 z2s mo ma) :=
 ⟨PE.imp (zi6 PySem.F.plainAttrs_list PySem.F.slot_list_pop PySem.F.type_list_pop z9s ho.h (z0q ha.h z1P hs) hbase hfew hline hs rfl) (zj7 fun ρ h H n q y u Q r hq ru fin=>by
  cases y<;>first | exact (show False from fin).elim | skip
  rename_i k
  simp only [RD] at ru
  subst ru
  obtain ⟨xs,d,ys,vs,g1,g2,g3,g4,g5⟩:=z6j r hq fin
  split at g1
  ·rename_i hk
   cases e5:seqIndex? k xs.length with
   | none=>rw [e5] at g1;cases g1
   | some j =>
    rw [e5] at g1
    obtain ⟨d',e1,e2⟩:=Option.map_eq_some_iff.mp g1
    cases e2
    obtain ⟨v,e3,e4⟩:=g4.get e1
    exact ⟨q,vs,k,j,v,rfl,rfl,g3,hk.1,hk.2,by rw [← g4.length];exact e5,e3,g5 _ _ e4 (g4.eraseIdx j)⟩
  ·cases g1)⟩
end
inductive Src where
 | con (xs:List D)
 | lst (n:Nat) (xs:List D)
 | obj (n:Nat) (o:O) (xs:List D)
def Src.items:Src->List D
 | .con xs=>xs
 | .lst _ xs=>xs
 | .obj _ _ xs=>xs
def Src.good:Src->AH->Prop
 | .con _,_=>True
 | .lst n xs,h=>h[n]?=some (.lst xs)
 | .obj n o _,h=>h[n]?=some o
open Classical in
noncomputable def Src.chk (s:Src):M Unit:=fun h=>if s.good h then .ok () h else .bad
def JOK (K:PySem.W.Frag) (src:Src) (ρ:List Addr) (H:Hp) (J:It):Prop:=∀ i ρ1 h1 H1,Pre ρ ρ1->Ext K H H1->RH K ρ1 h1 H1->src.good h1 ->
 (∀ d,src.items[i]?=some d->J.go i H1/\∀ x H2,J.yld i H1 x H2->RD K ρ1 H2 d x/\RH K ρ1 h1 H2/\Ext K H1 H2)/\(src.items.length=i->J.stop i H1)
def tI (K:PySem.W.Frag) (EX:XX) (m:G->M Src):TI:=fun σ H R=>∃ ρ γ h,Rel K ρ γ h σ H/\Fin K EX ρ H (fun src ρ' _ H'=>∀ J,JOK K src ρ' H' J->R J H') (m γ h)
structure SI (X:Cx) (EX:XX) (tg iter:Expr) (m:G->M Src):Prop where
 h:PI X tg iter (tI X.K EX m)
theorem PI.imp {X:Cx}{tg e:Expr}{t t':TI}(h:PI X tg e t) (f:∀ σ H R,t' σ H R->t σ H R):PI X tg e t':=fun pins s σ H R I z=>h pins s σ H R I (f σ H R z)
section
variable {X:Cx}{EX:XX}{a o e tg:Expr}{pos cpos apos p:Pos}{ma mo:G->M D}{mr:G->M (List D)}
def z0Y (ma:G->M D):G->M Src:=fun γ=>do
 let x ← ma γ
 match x with
 | .fl xs=>pure (.con xs)
 | .ref n=>do
  let xs ← getL n
  pure (.lst n xs)
 | _=>bad
theorem z0E (ha:SE X EX a ma):SI X EX tg a (z0Y ma) :=
 ⟨PI.imp (zk5 ha.h) fun σ H R ⟨ρ,γ,h,rel,fin⟩=>⟨ρ,γ,h,rel,(Fin.bind fin).mono fun x ρ1 h1 H1 p1 e1 r1 f1 v rv=>by
  cases x<;>first | exact (show False from f1).elim | skip
  case fl xs =>
   simp only [RD] at rv
   obtain ⟨q,vs,rfl,h2,h3⟩:=rv
   refine ⟨q,rfl,⟨vs,h2.sq⟩,f1 ρ1 H1 (Pre.refl _) (Ext.refl _ _) r1 _ fun i ρ2 h4 H2 p2 e2 r2 _=>⟨fun d hd=>?_,fun hi=>?_⟩⟩
   ·have h3':=h3.mono p2 e2
    obtain ⟨x,g1,g2⟩:=h3'.get hd
    refine ⟨⟨vs,x,(e2.l _ _ h2).sq,g1⟩,fun y H3 ⟨z1,z2⟩=>?_⟩
    subst z1
    have:=z2 vs (e2.l _ _ h2).sq
    rw [g1] at this;cases this
    exact ⟨g2,r2,Ext.refl _ _⟩
   ·exact ⟨vs,(e2.l _ _ h2).sq,by rw [← h3.length];exact Nat.le_of_eq hi⟩
  case ref n =>
   have f2:Fin X.K EX ρ1 H1 (fun src ρ' _ H'=>∀ J,JOK X.K src ρ' H' J->R J H') ((getL n >>= fun xs=>(pure (.lst n xs):M Src)) h1):=f1
   have f3:=Fin.bind f2
   cases e3:getL n h1 with
   | bad=>rw [e3] at f3;exact f3.elim
   | err z hz=>exact (z13 e3).elim
   | ok xs h3 =>
    obtain ⟨rfl,q1⟩:=z12 e3
    rw [e3] at f3
    simp only [RD] at rv
    obtain ⟨q,rfl,hq⟩:=rv
    obtain ⟨a1,n1,vs,o1,d1⟩:=r1.at q1
    rw [hq] at n1;cases n1
    have f4:=f3 ρ1 H1 (Pre.refl _) (Ext.refl _ _) r1
    refine ⟨q,rfl,⟨vs,SqL.of o1⟩,f4 ρ1 H1 (Pre.refl _) (Ext.refl _ _) r1 _ fun i ρ2 h4 H2 p2 e2 r2 g=>?_⟩
    have g':h4[n]?=some (.lst xs):=g
    obtain ⟨a2,n2,vs2,o2,d2⟩:=r2.at g'
    rw [p2 n q hq] at n2;cases n2
    refine ⟨fun d hd=>?_,fun hi=>⟨vs2,SqL.of o2,by rw [← d2.length];exact Nat.le_of_eq hi⟩⟩
    obtain ⟨x,g1,g2⟩:=d2.get hd
    refine ⟨⟨vs2,x,SqL.of o2,g1⟩,fun y H3 ⟨z1,z2⟩=>?_⟩
    subst z1
    have:=z2 vs2 (SqL.of o2)
    rw [g1] at this;cases this
    exact ⟨g2,r2,Ext.refl _ _⟩⟩⟩
def z0D (ma:G->M D):G->M Src:=fun γ=>do
 let x ← ma γ
 match x with
 | .tup xs=>pure (.con xs)
 | _=>bad
theorem z11 (ha:SE X EX a ma):SI X EX tg a (z0D ma) :=
 ⟨PI.imp (zE1 ha.h) fun σ H R ⟨ρ,γ,h,rel,fin⟩=>⟨ρ,γ,h,rel,(Fin.bind fin).mono fun x ρ1 h1 H1 p1 e1 r1 f1 v rv=>by
  cases x<;>first | exact (show False from f1).elim | skip
  rename_i xs
  simp only [RD] at rv
  obtain ⟨q,vs,rfl,h2,h3⟩:=rv
  refine ⟨q,rfl,⟨vs,h2⟩,f1 ρ1 H1 (Pre.refl _) (Ext.refl _ _) r1 _ fun i ρ2 h4 H2 p2 e2 r2 _=>⟨fun d hd=>?_,fun hi=>?_⟩⟩
  ·have h3':=h3.mono p2 e2
   obtain ⟨x,g1,g2⟩:=h3'.get hd
   refine ⟨⟨vs,x,e2.t _ _ h2,g1⟩,fun y H3 ⟨z1,z2⟩=>?_⟩
   subst z1
   have:=z2 vs (e2.t _ _ h2)
   rw [g1] at this;cases this
   exact ⟨g2,r2,Ext.refl _ _⟩
  ·exact ⟨vs,e2.t _ _ h2,by rw [← h3.length];exact Nat.le_of_eq hi⟩⟩⟩
def z0Z (n:Nat):List D:=(List.range n).map fun (i:Nat)=>.int i
def z0k (ma:G->M D):G->M Src:=fun γ=>do
 let x ← ma γ
 match x with
 | .int j=>if -(2 ^ 62)≤j/\j<2 ^ 62 then pure (.con (z0Z j.toNat)) else bad
 | _=>bad
theorem x8 (hg:Gl X "range") (hm:X.mg "range" = none) (ha:SE X EX a ma) (hs:starEach [a] X.env=[(false,eval a X.env)]:=by rfl):SI X EX tg (.Call (.Name "range" p) [a] [] pos) (z0k ma) :=
 ⟨PI.imp (z80 hg hm (z0q ha.h z1P hs) hs) fun σ H R ⟨ρ,γ,h,rel,fin⟩=>⟨ρ,γ,h,rel,(Fin.bind fin).mono fun x ρ1 h1 H1 p1 e1 r1 f1 v rv=>by
  cases x<;>first | exact (show False from f1).elim | skip
  rename_i j
  simp only [RD] at rv
  subst rv
  have f2:Fin X.K EX ρ1 H1 (fun src ρ' _ H'=>∀ J,JOK X.K src ρ' H' J->R J H') ((if -(2 ^ 62)≤j/\j<2 ^ 62 then pure (.con (z0Z j.toNat)) else bad:M Src) h1):=f1
  by_cases hj:-(2 ^ 62)≤j/\j<2 ^ 62
  ·rw [if_pos hj] at f2
   refine ⟨j,rfl,hj.1,hj.2,f2 ρ1 H1 (Pre.refl _) (Ext.refl _ _) r1 _ fun i ρ2 h4 H2 p2 e2 r2 _=>⟨fun d hd=>?_,fun hi=>?_⟩⟩
   ·have hd':(z0Z j.toNat)[i]?=some d:=hd
    unfold z0Z at hd'
    rw [List.getElem?_map] at hd'
    have hi:i<j.toNat:=by
     by_cases hi:i<j.toNat
     ·exact hi
     ·rw [List.getElem?_eq_none (by simpa using hi)] at hd';cases hd'
    rw [List.getElem?_range hi] at hd'
    cases hd'
    refine ⟨hi,fun y H3 ⟨z1,z2⟩=>?_⟩
    subst z1;subst z2
    exact ⟨by simp [RD],r2,Ext.refl _ _⟩
   ·have hi':(z0Z j.toNat).length=i:=hi
    unfold z0Z at hi'
    rw [List.length_map,List.length_range] at hi'
    exact Nat.le_of_eq hi'
  ·rw [if_neg hj] at f2;exact f2.elim⟩⟩
end
noncomputable def forR (src:Src) (g:D->G->M G) (body:G->M Out):List D->G->M Out
 | [],γ=>do
  let _ ← src.chk
  pure (.nx γ)
 | d :: r,γ=>do
  let _ ← src.chk
  let γ1 ← g d γ
  let o ← body γ1
  match o with
  | .nx γ2=>forR src g body r γ2
  | .ct γ2=>forR src g body r γ2
  | .bk γ2=>pure (.nx γ2)
  | .rt v=>pure (.rt v)
noncomputable def sFor (mi:G->M Src) (g:D->G->M G) (body:G->M Out):G->M Out:=fun γ=>do
 let src ← mi γ
 forR src g body src.items γ
theorem z68 {K:PySem.W.Frag}{EX:XX}{ρ:List Addr}{H:Hp}{α:Type}{P:α->List Addr->AH->Hp->Prop}{src:Src}{f:Unit->M α}{h:AH}(fin:Fin K EX ρ H P ((src.chk >>= f) h)) (r:RH K ρ h H):src.good h/\Fin K EX ρ H P (f () h):=by
 have f1:=Fin.bind fin
 unfold Src.chk at f1
 split at f1
 ·rename_i hg
  exact ⟨hg,f1 ρ H (Pre.refl _) (Ext.refl _ _) r⟩
 ·exact f1.elim
section
variable {X:Cx}{EX:XX}{a o e tg c:Expr}{pos cpos apos p:Pos}{ma mo:G->M D}{mi:G->M Src}{g:D->G->M G}{mb:G->M Out}{sts:List Stmt}{kc:G->M Bool}
theorem z20 (hp:PassesOwn (model X.prog X.w) X.A X.env X.xe) (hc:X.calm=true) (hi:SI X EX tg e mi) (hg:SG X EX tg g) (hb:SB X EX sts mb) (hs:∀ x,foldedSetIterable e X.env x=pure x:=by intro _;rfl):S1 X EX (.For tg e sts [] pos) (sFor mi g mb) :=
 ⟨PS.imp (zC5 hp hc hi.h hg.h hb.h hs) fun σ H D ⟨ρ,γ,h,rel,fin⟩=>⟨ρ,γ,h,rel,(Fin.bind fin).mono fun src ρ0 h0 H0 p0 e0 r0 f0 J hJ=>by
  refine ⟨fun i m σ H=>m+i=src.items.length/\∃ ρ γ h,Pre ρ0 ρ/\Ext X.K H0 H/\Rel X.K ρ γ h σ H/\Fin X.K EX ρ H (fun o ρ' _ H'=>OutP X.K D o ρ' H') (forR src g mb (src.items.drop i) γ h),
   ⟨src.items.length,rfl,ρ0,γ,h0,Pre.refl _,Ext.refl _ _,⟨rel.g.mono p0 e0,r0⟩,f0⟩,?_⟩
  rintro i m σ1 H1 ⟨hm,ρ1,γ1,h1,p1,e1,rel1,f1⟩
  by_cases hi:i<src.items.length
  ·have hd:src.items.drop i=src.items[i] :: src.items.drop (i+1):=List.drop_eq_getElem_cons hi
   rw [hd] at f1
   unfold forR at f1
   obtain ⟨good,f2⟩:=z68 f1 rel1.h
   obtain ⟨j1,j2⟩:=hJ i ρ1 h1 H1 p1 e1 rel1.h good
   obtain ⟨go,yld⟩:=j1 src.items[i] (List.getElem?_eq_getElem hi)
   refine .inr ⟨go,fun σ' H'=>∃ ρ γ h,Pre ρ0 ρ/\Ext X.K H0 H'/\Rel X.K ρ γ h σ' H'/\Fin X.K EX ρ H' (fun o ρ' _ H'=>OutP X.K D o ρ' H') (forR src g mb (src.items.drop (i+1)) γ h),fun σ' H' z=>⟨m - 1,by omega,by omega,z⟩,fun x H2 y=>?_⟩
   obtain ⟨rd,rh,ext⟩:=yld x H2 y
   refine ⟨ρ1,γ1,h1,_,⟨rel1.g.mono (Pre.refl _) ext,rh⟩,rd,(Fin.bind (Fin.up (Pre.refl _) ext f2)).mono fun γ2 ρ3 h3 H3 p3 e3 r3 f3 σ3 g3=>⟨ρ3,γ2,h3,⟨g3,r3⟩,(Fin.bind f3).mono fun o ρ4 h4 H4 p4 e4 r4 f4=>?_⟩⟩
   have pp:Pre ρ0 ρ4:=(p1.trans p3).trans p4
   have ee:Ext X.K H0 H4:=((e1.trans ext).trans e3).trans e4
   cases o with
   | nx γ5=>exact fun σ5 g5=>⟨ρ4,γ5,h4,pp,ee,⟨g5,r4⟩,f4⟩
   | ct γ5=>exact fun σ5 g5=>⟨ρ4,γ5,h4,pp,ee,⟨g5,r4⟩,f4⟩
   | bk γ5=>exact fun σ5 g5=>f4 ρ4 H4 (Pre.refl _) (Ext.refl _ _) r4 σ5 g5
   | rt d=>exact fun v rv=>f4 ρ4 H4 (Pre.refl _) (Ext.refl _ _) r4 v rv
  ·have hd:src.items.drop i=[]:=List.drop_eq_nil_of_le (by omega)
   rw [hd] at f1
   unfold forR at f1
   obtain ⟨good,f2⟩:=z68 f1 rel1.h
   obtain ⟨j1,j2⟩:=hJ i ρ1 h1 H1 p1 e1 rel1.h good
   exact .inl ⟨j2 (by omega),f2 ρ1 H1 (Pre.refl _) (Ext.refl _ _) rel1.h σ1 rel1.g⟩⟩⟩
end
def capG (cap:List (Option Nat)) (γ:G):G:=cap.map fun o=>match o with | some j=>(γ[j]?).join | none=>none
theorem zn4 {K:PySem.W.Frag}{ρ:List Addr}{H:Hp}{γ:G}{σ:L2.St}(cap:List (Option Nat)) (r:RG K ρ H γ σ):RG K ρ H (capG cap γ) (z2Q cap σ):=by
 refine ⟨by simp [capG,z2Q],fun i d e=>?_⟩
 unfold capG at e
 unfold z2Q
 rw [List.getElem?_map] at e ⊢
 cases q:cap[i]? with
 | none=>rw [q] at e;cases e
 | some o =>
  rw [q] at e
  cases o with
  | none=>simp at e
  | some j =>
   have e2:(γ[j]?).join=some d:=by simpa using e
   have e3:γ[j]?=some (some d):=by
    cases q2:γ[j]? with
    | none=>rw [q2] at e2;simp at e2
    | some o2=>rw [q2] at e2;simp at e2;rw [e2]
   obtain ⟨v,h1,h2⟩:=r.var j d e3
   exact ⟨v,by simp [h1],h2⟩
noncomputable def z2w (src:Src) (g:D->G->M G) (k:G->M Bool) (me:G->M D) (n0:Nat) (γ:G):List D->M Unit
 | []=>do
  let _ ← src.chk
  pure ()
 | d :: r=>do
  let _ ← src.chk
  let γ1 ← g d γ
  let t ← k γ1
  if t then do
   let v ← me γ1
   let _ ← J8 n0 v
   z2w src g k me n0 γ r
  else z2w src g k me n0 γ r
noncomputable def z0i (cap:List (Option Nat)) (mi:G->M Src) (g:D->G->M G) (k:G->M Bool) (me:G->M D):G->M D:=fun γ=>do
 let src ← mi γ
 let n0 ← (fun h=>.ok h.length (h++[.lst []]):M Nat)
 let _ ← z2w src g k me n0 (capG cap γ) src.items
 pure (.ref n0)
structure SCs (X:Cx) (EX:XX) (ifs:List Expr) (m:G->M Bool):Prop where
 h:PTs X ifs (tT X.K EX m)
theorem PTs.imp {X:Cx}{e:List Expr}{t t':TT}(h:PTs X e t) (f:∀ σ H Q,t' σ H Q->t σ H Q):PTs X e t':=fun pins s σ H Q I z=>h pins s σ H Q I (f σ H Q z)
section
variable {X:Cx}{EX:XX}{elt tg iter c:Expr}{ifs:List Expr}{sc:Scope}{pos:Pos}{N':List Str}{cap:List (Option Nat)}{own:List Nat}{mi:G->M Src}{g:D->G->M G}{k kr:G->M Bool}{me:G->M D}
theorem z0v:SCs X EX [] (fun _=>pure true):=⟨PTs.imp z94 fun σ H Q ⟨ρ,γ,h,rel,fin⟩=>fin ρ H (Pre.refl _) (Ext.refl _ _) rel.h⟩
theorem z2b (h:SC X EX c k):SCs X EX [c] k:=⟨PTs.imp (zc2 h.h z94) fun σ H Q ⟨ρ,γ,h,rel,fin⟩=>⟨ρ,γ,h,rel,fin.mono fun t ρ1 h1 H1 p1 e1 r1 f1=>by
 cases t with
 | true=>exact f1
 | false=>exact f1⟩⟩
theorem z6C {σ:L2.St}{H0:Hp}{ρ0:List Addr}{h0:AH}{γ:G}{src:Src}{J:It}{Dd:Addr}{P:Hp->Prop}(r0:RH X.K ρ0 h0 H0) (rg:RG X.K ρ0 H0 γ σ) (hJ:JOK X.K src ρ0 H0 J) (hD:H0 Dd=none) (hown:∀ j∈own,cap[j]?=some none)
 (fin:Fin X.K EX (ρ0++[Dd]) (upd H0 Dd (.lst [])) (fun _ ρ' h' H'=>ρ'[h0.length]?=some Dd->RH X.K ρ' h' H'->Ext X.K (upd H0 Dd (.lst [])) H'->Pre (ρ0++[Dd]) ρ'->P H') (z2w src g k me h0.length (capG cap γ) src.items (h0++[.lst []]))) :
 z3P cap (tGk X.K EX own g) (tT X.K EX k) (tE X.K EX me) σ J Dd P (upd H0 Dd (.lst [])):=by
 have rP:=r0.push hD (RDs.nil (K:=X.K) (ρ:=ρ0) (H:=H0))
 have eP:Ext X.K H0 (upd H0 Dd (.lst [])):=Ext.upd (.inl hD)
 have at0:(ρ0++[Dd])[h0.length]?=some Dd:=by rw [← r0.len];simp
 refine ⟨fun i m H=>m+i=src.items.length/\∃ ρ h,Pre (ρ0++[Dd]) ρ/\Ext X.K (upd H0 Dd (.lst [])) H/\RH X.K ρ h H /\
  Fin X.K EX ρ H (fun _ ρ' h' H'=>ρ'[h0.length]?=some Dd->RH X.K ρ' h' H'->Ext X.K (upd H0 Dd (.lst [])) H'->Pre (ρ0++[Dd]) ρ'->P H') (z2w src g k me h0.length (capG cap γ) (src.items.drop i) h),
  ⟨src.items.length,rfl,_,_,Pre.refl _,Ext.refl _ _,rP,fin⟩,?_⟩
 rintro i m H1 ⟨hm,ρ1,h1,p1,e1,r1,f1⟩
 have p01:Pre ρ0 ρ1:=(Pre.app _ _).trans p1
 have e01:Ext X.K H0 H1:=eP.trans e1
 by_cases hi:i<src.items.length
 ·have hd:src.items.drop i=src.items[i] :: src.items.drop (i+1):=List.drop_eq_getElem_cons hi
  rw [hd] at f1
  unfold z2w at f1
  obtain ⟨good,f2⟩:=z68 f1 r1
  obtain ⟨j1,j2⟩:=hJ i ρ1 h1 H1 p01 e01 r1 good
  obtain ⟨go,yld⟩:=j1 src.items[i] (List.getElem?_eq_getElem hi)
  refine .inr ⟨go,fun x H2 y=>?_⟩
  obtain ⟨rd,rh,ext⟩:=yld x H2 y
  have rgc:RG X.K ρ1 H2 (capG cap γ) (z2Q cap σ):=(zn4 cap rg).mono p01 (e01.trans ext)
  refine ⟨ρ1,_,h1,_,⟨rgc,rh⟩,rd,(Fin.bind (Fin.up (Pre.refl _) ext f2)).mono fun γ2 ρ3 h3 H3 p3 e3 r3 f3 σ3 g3 k3=>⟨fun j v hv=>?_,ρ3,γ2,h3,⟨g3,r3⟩,(Fin.bind f3).mono fun t ρ4 h4 H4 p4 e4 r4 f4=>?_⟩⟩
  ·rw [k3 j fun hj=>?_]
   ·exact hv
   ·have z:=hown j hj
    unfold z2Q at hv
    rw [List.getElem?_map,z] at hv
    simp at hv
  ·have pp:Pre (ρ0++[Dd]) ρ4:=(p1.trans p3).trans p4
   have ee:Ext X.K (upd H0 Dd (.lst [])) H4:=((e1.trans ext).trans e3).trans e4
   cases t with
   | false =>
    rw [if_neg (by decide)] at f4
    dsimp only
    rw [if_neg (by decide)]
    exact ⟨m - 1,by omega,by omega,ρ4,h4,pp,ee,r4,f4⟩
   | true =>
    rw [if_pos rfl] at f4
    dsimp only
    rw [if_pos rfl]
    refine ⟨ρ4,γ2,h4,⟨g3.mono p4 e4,r4⟩,(Fin.bind f4).mono fun d ρ5 h5 H5 p5 e5 r5 f5 v rv=>?_⟩
    have hq:ρ5[h0.length]?=some Dd:=(pp.trans p5) _ _ at0
    have f6:=Fin.bind f5
    unfold J8 updL at f6
    cases e7:h5[h0.length]? with
    | none=>rw [e7] at f6;exact f6.elim
    | some ob =>
     cases ob with
     | set ks=>rw [e7] at f6;exact f6.elim
     | dct=>rw [e7] at f6;exact f6.elim
     | dK kvs=>rw [e7] at f6;exact f6.elim
     | dF kvs=>rw [e7] at f6;exact f6.elim
     | exc c=>rw [e7] at f6;exact f6.elim
     | lst xs =>
      rw [e7] at f6
      dsimp only at f6
      split at f6
      ·rename_i hl
       obtain ⟨a1,n1,vs,o1,d1⟩:=r5.at e7
       rw [hq] at n1;cases n1
       have dd:=d1.append (RDs.cons rv RDs.nil)
       have ext2:Ext X.K H5 (upd H5 Dd (.lst (vs++[v]))):=Ext.upd (.inr ⟨_,o1,trivial⟩)
       have r6:=r5.set e7 hq dd
       rw [List.length_append,List.length_singleton] at hl
       have hl2:=d1.length
       exact ⟨vs,o1,by omega,m - 1,by omega,by omega,ρ5,_,pp.trans p5,(ee.trans e5).trans ext2,r6,f6 ρ5 _ (Pre.refl _) ext2 r6⟩
      ·exact f6.elim
 ·have hd:src.items.drop i=[]:=List.drop_eq_nil_of_le (by omega)
  rw [hd] at f1
  unfold z2w at f1
  obtain ⟨good,f2⟩:=z68 f1 r1
  obtain ⟨j1,j2⟩:=hJ i ρ1 h1 H1 p01 e01 r1 good
  exact .inl ⟨j2 (by omega),f2 ρ1 H1 (Pre.refl _) (Ext.refl _ _) r1 (p1 _ _ at0) r1 e1 p1⟩
theorem z04 (hc:X.calm=true) (S:CS X sc N' cap) (hi:SI X EX tg iter mi) (hg:∀ s H fp xe,SGk (X.comp N' sc s H fp xe) EX tg own g) (ht:∀ s H fp xe,SCs (X.comp N' sc s H fp xe) EX ifs k)
 (he:∀ s H fp xe,SE (X.comp N' sc s H fp xe) EX elt me) (hown:∀ j∈own,cap[j]?=some none:=by decide) (hs:∀ x,foldedSetIterable iter X.env x=pure x:=by intro _;rfl):SE X EX (.ListComp elt [⟨tg,iter,ifs,0⟩] sc pos) (z0i cap mi g k me) :=
 ⟨PE.imp (zo4 (g:=tGk X.K EX own g) (ti:=tT X.K EX k) (te:=tE X.K EX me) hc S hi.h (fun s H fp xe=>(hg s H fp xe).h) (fun s H fp xe=>(ht s H fp xe).h) (fun s H fp xe=>(he s H fp xe).h) hs) fun σ H Q ⟨ρ,γ,h,rel,fin⟩=>⟨ρ,γ,h,rel,(Fin.bind fin).mono fun src ρ0 h0 H0 p0 e0 r0 f0 J hJ Dd hD=>by
  have rP:=r0.push hD (RDs.nil (K:=X.K) (ρ:=ρ0) (H:=H0))
  have eP:Ext X.K H0 (upd H0 Dd (.lst [])):=Ext.upd (.inl hD)
  have f1:=Fin.bind f0
  have f2:=f1 (ρ0++[Dd]) _ (Pre.app _ _) eP rP
  refine z6C r0 (rel.g.mono p0 e0) hJ hD hown ((Fin.bind f2).mono fun _ ρ5 h5 H5 p5 e5 r5 f5 hat rr ee pp=>?_)
  refine FE.here (d:=.ref h0.length) (h:=h5) f5 rr ?_
  simp only [RD]
  exact ⟨Dd,rfl,hat⟩⟩⟩
noncomputable def z3H (i:Nat) (cap:List (Option Nat)) (mi:G->M Src) (g:D->G->M G) (k:G->M Bool) (me:G->M D):G->M Out:=sAsg (z0i cap mi g k me) (gN i)
theorem z8N (i:Nat) {y:Str}{py spos:Pos}(hc:X.calm=true) (S:CS X sc N' cap) (hi:SI X EX tg iter mi) (hg:∀ s H fp xe,SGk (X.comp N' sc s H fp xe) EX tg own g) (ht:∀ s H fp xe,SCs (X.comp N' sc s H fp xe) EX ifs k)
 (he:∀ s H fp xe,SE (X.comp N' sc s H fp xe) EX elt me) (hN:X.N.Nodup) (hy:X.N[i]?=some y:=by rfl) (hl:X.env.scope.names.lookup y=some .local:=by rfl) (hown:∀ j∈own,cap[j]?=some none:=by decide)
 (hsw:swapsWith (.ListComp elt [⟨tg,iter,ifs,0⟩] sc pos) (some (.Name y py)) spos.line X.env=pure true:=by rfl) (hs:∀ x,foldedSetIterable iter X.env x=pure x:=by intro _;rfl) :
 S1 X EX (.Assign [.Name y py] (.ListComp elt [⟨tg,iter,ifs,0⟩] sc pos) spos) (z3H i cap mi g k me) :=
 ⟨PS.imp (zo6 (g:=tGk X.K EX own g) (ti:=tT X.K EX k) (te:=tE X.K EX me) hc S hi.h (fun s H fp xe=>(hg s H fp xe).h) (fun s H fp xe=>(ht s H fp xe).h) (fun s H fp xe=>(he s H fp xe).h) hN hy hl hsw hs) fun σ H D ⟨ρ,γ,h,rel,fin⟩=>⟨ρ,γ,h,rel,(Fin.bind (Fin.bind fin)).mono fun src ρ0 h0 H0 p0 e0 r0 f0 J hJ Dd hD=>by
  have rP:=r0.push hD (RDs.nil (K:=X.K) (ρ:=ρ0) (H:=H0))
  have eP:Ext X.K H0 (upd H0 Dd (.lst [])):=Ext.upd (.inl hD)
  have f1:=Fin.bind f0
  have f2:=f1 (ρ0++[Dd]) _ (Pre.app _ _) eP rP
  refine z6C r0 (rel.g.mono p0 e0) hJ hD hown ((Fin.bind f2).mono fun _ ρ5 h5 H5 p5 e5 r5 f5 hat rr ee pp=>?_)
  have f6:=f5 ρ5 H5 (Pre.refl _) (Ext.refl _ _) rr
  have f7:=f6 ρ5 H5 (Pre.refl _) (Ext.refl _ _) rr
  refine f7 _ (RG.set (((rel.g.mono p0 e0).mono (Pre.app _ _) eP).mono pp ee) i ?_)
  simp only [RD]
  exact ⟨Dd,rfl,hat⟩⟩⟩
end
def csOk (osc:Scope) (N:List Str) (sc:Scope) (N':List Str) (cap:List (Option Nat)):Bool :=
 (sc.kind == .function) && sc.names.all (fun y=>y.2 != .cell) && sc.names.all (fun x=>x.2 != .local || sc.names.lookup x.1 == some .local) &&
 sc.names.all (fun x=>x.2 != .free || (osc.names.lookup x.1 == some .cell || osc.names.lookup x.1 == some .free)) && (cap.length == N'.length) &&
 (List.range cap.length).all fun i=>match cap[i]? with
  | some (some j)=>(match N'[i]?,N[j]? with
   | some x,some y=>x == y && sc.names.lookup x == some .free
   | _,_=>false)
  | _=>true
theorem z1h {X:Cx}{sc:Scope}{N':List Str}{cap:List (Option Nat)}(h:csOk X.env.scope X.N sc N' cap=true):CS X sc N' cap:=by
 unfold csOk at h
 simp only [Bool.and_eq_true] at h
 obtain ⟨⟨⟨⟨⟨h1,h2⟩,h3⟩,h4⟩,h5⟩,h6⟩:=h
 refine ⟨by simpa using h1,fun y hy=>?_,fun x hx hl=>?_,fun x hx hf=>?_,by simpa using h5,fun i j e=>?_⟩
 ·have:=List.all_eq_true.mp h2 y hy
  simpa using this
 ·have:=List.all_eq_true.mp h3 x hx
  simpa [hl] using this
 ·have:=List.all_eq_true.mp h4 x hx
  have:(X.env.scope.names.lookup x.1 == some .cell || X.env.scope.names.lookup x.1 == some .free)=true:=by simpa [hf] using this
  rw [Bool.or_eq_true] at this
  rcases this with z | z
  ·exact .inl (show X.env.scope.names.lookup x.1=_ by simpa using z)
  ·exact .inr (show X.env.scope.names.lookup x.1=_ by simpa using z)
 ·have hi:i<cap.length:=(List.getElem?_eq_some_iff.mp e).1
  have:=List.all_eq_true.mp h6 i (List.mem_range.mpr hi)
  rw [e] at this
  dsimp only at this
  cases e1:N'[i]? with
  | none=>rw [e1] at this;cases this
  | some x =>
   cases e2:X.N[j]? with
   | none=>rw [e1,e2] at this;cases this
   | some y =>
    rw [e1,e2] at this
    simp only [Bool.and_eq_true] at this
    have exy:x=y:=by simpa using this.1
    subst exy
    exact ⟨x,rfl,rfl,by simpa using this.2⟩
def DefAt (K:PySem.W.Frag) (x:Str) (st:Stmt):Prop:=∃ f fd,PySem.W.nsIn K mainGlobals x=some (some (.ref f))/\Fun K x x st f fd
theorem defAt_mk {K:PySem.W.Frag}{x:Str}{st:Stmt}{f:Addr}{oc:Value}{od an:Option Addr}{sl:Array (Option Value)}{kV dc pm cd ct:Value}(a:PySem.W.nsIn K mainGlobals x=some (some (.ref f)))
 (l:K.lookup f=some ⟨oc,od,.func (PySem.W.fnOf x x (z2B st) (j6 st) (Z4 st) .none kV dc pm an cd ct),sl⟩) (c:PySem.W.codeIn K cd x=true) (k:PySem.W.keepIn K (.ref f)=true):DefAt K x st :=
 ⟨f,_,a,zA5 l c k⟩
section
variable {prog:Program}{w:World}{A:Around}{E:Value->Shared->Prop}{s:Shared}
theorem zh4 {it t:Addr}{i:Nat}{items:Array Value}{x:Value}{Q:Value->Shared->Prop}(hit:s.heap.IsTupleIter it t i) (ht:s.heap.IsTuple t items) (hx:items[i]?=some x)
 (hQ:∀ h',h'.IsTupleIter it t (i+1)->Heap.SameBut it s.heap h'->Q x { s with heap:=h' }):wpAny (model prog w) A (Builtin.SmallTypes.nextOf (.ref it)) Q E s:=by
 obtain ⟨oi,e1,c1,d1⟩:=id hit
 obtain ⟨ot,e2,_,nt,d2⟩:=ht
 unfold Builtin.SmallTypes.nextOf
 refine wpAny_bind (wpAny_callSpecial?_slot (name:=Str.ofString "__next__") hit.typeIs PySem.F.slot_tuple_iterator_next
  (wpAny_call_entry PySem.F.slot_tuple_iterator_next hit.typeIs PySem.F.entry_tuple_iterator_next ?_ (PySem.F.args_tuple_iterator_next_1 _)))
 show wpAny _ _ (field (.ref it) 0 >>= _) _ _ s
 refine wpAny_bind (wpAny_field e1 d1 (x:=.ref t) rfl ?_)
 show wpAny _ _ (if (Value.ref t == Value.none)=true then _ else _) _ _ s
 have nn:¬ (Value.ref t == Value.none)=true:=Bool.false_ne_true
 rw [if_neg nn]
 show wpAny _ _ (field (.ref it) 1 >>= _) _ _ s
 refine wpAny_bind (wpAny_field e1 d1 (x:=.int i 0) rfl ?_)
 show wpAny _ _ (seqItems? (.ref t) >>= _) _ _ s
 refine wpAny_bind (wpAny_seqItems e2 d2 ?_)
 simp only [Int.toNat_natCast,hx]
 refine wpAny_bind (wpAny_setField e1 d1 (by simp) (wpAny_pure ⟨x,rfl,wpAny_pure (hQ _ ?_ (Heap.SameBut.update ..))⟩))
 exact ⟨_,Heap.get?_update_self _ e1 (Obj.isFreed_of_fields (Obj.data_mapFields d1 _)),(Obj.cls_mapFields ..).trans c1,by
  rw [Obj.data_mapFields d1];simp [rawInt]⟩
theorem zD8 {it t:Addr}{i:Nat}{items:Array Value}{Q:Value->Shared->Prop}(hh:A.handled=none) (hit:s.heap.IsTupleIter it t i) (ht:s.heap.IsTuple t items) (hx:items[i]?=none)
 (hE:∀ h' e,Heap.ExtBut it s.heap h'->(∃ o,h'.get? e=some o/\o.cls=.type "StopIteration")->E (.ref e) { s with heap:=h' }):wpAny (model prog w) A (Builtin.SmallTypes.nextOf (.ref it)) Q E s:=by
 obtain ⟨oi,e1,c1,d1⟩:=id hit
 obtain ⟨ot,e2,_,nt,d2⟩:=ht
 unfold Builtin.SmallTypes.nextOf
 refine wpAny_bind (wpAny_callSpecial?_slot (name:=Str.ofString "__next__") hit.typeIs PySem.F.slot_tuple_iterator_next
  (wpAny_call_entry PySem.F.slot_tuple_iterator_next hit.typeIs PySem.F.entry_tuple_iterator_next ?_ (PySem.F.args_tuple_iterator_next_1 _)))
 show wpAny _ _ (field (.ref it) 0 >>= _) _ _ s
 refine wpAny_bind (wpAny_field e1 d1 (x:=.ref t) rfl ?_)
 show wpAny _ _ (if (Value.ref t == Value.none)=true then _ else _) _ _ s
 have nn:¬ (Value.ref t == Value.none)=true:=Bool.false_ne_true
 rw [if_neg nn]
 show wpAny _ _ (field (.ref it) 1 >>= _) _ _ s
 refine wpAny_bind (wpAny_field e1 d1 (x:=.int i 0) rfl ?_)
 show wpAny _ _ (seqItems? (.ref t) >>= _) _ _ s
 refine wpAny_bind (wpAny_seqItems e2 d2 ?_)
 simp only [Int.toNat_natCast,hx]
 refine wpAny_bind (wpAny_rule (wpAny_bind (wpAny_setField e1 d1 (by simp) ?_)))
 show wpAny _ _ (newExc (.type "StopIteration") [] >>= _) _ _ _
 refine wpAny_bind ?_
 simp only [newExc,newTuple]
 refine wpAny_bind (wpAny_newObj_type ?_ (by size_fits))
 refine wpAny_bind (m:=firstArgMember _ _) (wpAny_of_eq (a:=Value.none) (by first | rfl | (simp only [firstArgMember];rfl)) ?_)
 refine wpAny_newObj_type ?_ (by size_fits)
 simp only [raiseNew]
 refine wpAny_bind (wpAny_handled ?_)
 first | rw [show A.in1.handled=none from hh] | rw [hh]
 refine wpAny_bind (wpAny_pure (wpAny_throw ?_))
 exact hE _ _ (((Heap.SameBut.update ..).extBut.push _).push _) ⟨_,Heap.get?_push_size _ rfl,rfl⟩
end
theorem zH6 {X:Cx}{pins:List (Addr×Obj)}{σ:L2.St}{H:Hp}{s:Shared}{ch:List Addr}{T:Addr}{vs:List V}{its:List Value}{h2:Heap}{t:Nat}(I:L2.Inv X pins σ H s)
 (hf:∀ b∈ch,FpOk X pins H b) (kp:∀ b o,b∉ch->s.heap.get? b=some o->h2.get? b=some o) (hT:s.heap.objs.size≤T) (tup:IsTup0 h2 T its.toArray) (rv:Vals vs its) (hz:vs.length≤sizeLine) :
 L2.Inv X pins σ (upd H T (.tup vs)) { s with heap:=h2,toks:=t }:=by
 have hn:H T=none:=I.hok.fresh hT
 have ne:∀ {b:Addr} {o:Obj},s.heap.get? b=some o->b≠T:=fun e=>Nat.ne_of_lt (Nat.lt_of_lt_of_le (Heap.lt_size e) hT)
 refine I.step (g':=s.gens) (d':=s.drawn) (ch:=ch) (fun b hb=>⟨(hf b hb).2.2.2.1,(hf b hb).2.1,(hf b hb).2.2.2.2.1,(hf b hb).2.2.2.2.2⟩) (fun b o _ _ hc e _=>kp b o hc e) (fun b o _ _ hc e _=>⟨o.slots,kp b o hc e⟩)
  (fun b o _ e n=>by rw [J5 (ne e)];exact n) (fun b o hc e=>⟨o,kp b o hc e⟩) (fun b xs e=>by rw [J5 (J6 e hn)];exact e) (fun b o u e=>by rw [J5 (J6 e hn)];exact e)
  (fun b ps e=>⟨#[],by rw [J5 (J6 e hn),e];simp⟩) (fun m hm=>?_) (fun b u e=>?_) I.bare
 ·obtain ⟨o,es,ep,q,r⟩:=hm
  exact ⟨o,es,ep,kp _ o (fun z=>(hf _ z).2.1 rfl) q,r⟩
 ·by_cases hb:b=T
  ·subst hb
   rw [z06] at e
   cases e
   exact ⟨hz,its,rv,tup⟩
  ·rw [J5 hb] at e
   refine (I.hok b u e).stay (fun c v hc q=>kp c v (fun z=>?_) q) (fun c q=>?_) fun c xs q=>?_
   ·rcases hc with y | y
    ·rw [y] at z;rw [(hf b z).1] at e;cases e
    ·rw [(hf c z).1] at y;cases y
   ·rw [J5 (J6 q hn)];exact q
   ·rw [J5 (J6 q hn)];exact q
section
variable {X:Cx}{EX:XX}{a b:Expr}{elts:List Expr}{kk:Nat}{p pos pt:Pos}{ma mb:G->M D}
end
section
variable {X:Cx}{EX:XX}{a b:Expr}{tg:Expr}{p pos p2:Pos}{ma mb:G->M D}
theorem z9h {A:Around}{E:Value->Shared->Prop}{s:Shared}{t sl:Addr}{items:Array Value}{vl vu:Value}{lo hi:Option Int}{Q:Value->Shared->Prop}(ht:IsTup s.heap t items) (hs:s.heap.IsSliceOf sl vl vu .none) (pl:IsPart vl lo) (pu:IsPart vu hi)
 (hw:HT.sIx items.size 0 lo=0/\HT.sIx items.size items.size hi=items.size) (h:Q (.ref t) s):wpAny (model X.prog X.w) A (getItem (.ref t) (.ref sl)) Q E s:=by
 obtain ⟨os,hos,hcs,hds⟩:=id hs
 have hTs:s.TypeIs (.ref sl) "slice":=⟨os,hos,hcs⟩
 unfold getItem
 try with_reducible refine wpAny_holding ?_
 first | refine wpAny_bind (wpAny_pure ?_) | skip
 refine wpAny_bind (wpAny_sequenceKey ht.typeIs (by decide) ?_)
 refine wpAny_bind (wpAny_callSpecial?_slot (name:=Str.ofString "__getitem__") ht.typeIs PyProof.Rows.slot_tuple_getitem
  (wpAny_call_entry PyProof.Rows.slot_tuple_getitem ht.typeIs entry_tuple_getitem ?_ (args_tuple_getitem _ _)))
 show wpAny _ _ (Builtin.Tuple.tupleItemsOf (.ref t) >>= _) _ _ s
 refine wpAny_bind (tupleItemsOf_ ht ?_)
 refine wpAny_bind (wpAny_typeOf hTs ?_)
 rw [if_pos (by decide)]
 refine wpAny_bind (HT.sliceApplied_gen hs pl pu ?_)
 have yes:((((HT.sIx items.size 0 lo:Nat):Int) == 0 && (1:Int) == 1 && (HT.sIx items.size items.size hi - HT.sIx items.size 0 lo) == items.size)=true):=by
  rw [hw.1,hw.2];simp
 show wpAny _ _ (if (((HT.sIx items.size 0 lo:Nat):Int) == 0 && (1:Int) == 1 && (HT.sIx items.size items.size hi - HT.sIx items.size 0 lo) == items.size)=true then _ else _) _ _ s
 rw [if_pos yes]
 refine wpAny_bind (m:=Builtin.Tuple.tupleIsExact (.ref t)) ?_
 unfold Builtin.Tuple.tupleIsExact
 refine wpAny_bind (wpAny_typeOf ht.typeIs (wpAny_pure ?_))
 rw [if_pos (by decide)]
 exact wpAny_bind (wpAny_rule (wpAny_pure ⟨_,rfl,wpAny_pure h⟩))
def rSlW (K:PySem.W.Frag):V->Option Int->Option Int->Hp->VK->Prop:=fun x lo hi H Q=>∃ a xs,x=.ref a/\SqT K H a xs/\(HT.sIx xs.length 0 lo=0/\HT.sIx xs.length xs.length hi=xs.length)/\Q (.ref a) H
theorem zc3:SlR X (rSlW X.K):=by
 intro pins s σ H x v vl vu lo hi sl Q I rx hs pl pu h
 obtain ⟨a,xs,rfl,hx,hw,q⟩:=h
 cases rx
 obtain ⟨its,r,ht,hz⟩:=I.tuple hx
 have hlen:its.toArray.size=xs.length:=by rw [List.size_toArray];exact r.length.symm
 exact ⟨"tuple",_,PyProof.Rows.slot_tuple_getitem.lookup,ht.typeIs,z9h ht hs pl pu (by rw [hlen];exact hw) ⟨.ref a,H,I,rfl,q⟩⟩
def cutD (xs:List D) (lo hi:Option Int):List D:=(xs.drop (HT.sIx xs.length 0 lo)).take (HT.sIx xs.length xs.length hi - HT.sIx xs.length 0 lo)
theorem z5m {K:PySem.W.Frag}{ρ:List Addr}{H:Hp}{ds:List D}{xs:List V}(h:RDs K ρ H ds xs) (lo hi:Option Int):RDs K ρ H (cutD ds lo hi) (cutV xs lo hi):=by
 unfold cutD cutV
 rw [h.length]
 exact (h.drop _).take _
def fSl:D->Option Int->Option Int->M D
 | .tup xs,lo,hi=>pure (.tup (cutD xs lo hi))
 | .fl xs,lo,hi=>newL (cutD xs lo hi)
 | .ref n,lo,hi=>do
  let xs ← getL n
  newL (cutD xs lo hi)
 | _,_,_=>bad
def tO (K:PySem.W.Frag) (EX:XX) (m:G->M (Option Int)):TO:=fun σ H Q=>∃ ρ γ h,Rel K ρ γ h σ H/\Fin K EX ρ H (fun o _ _ H'=>Q o H') (m γ h)
structure SO (X:Cx) (EX:XX) (e:Option Expr) (m:G->M (Option Int)):Prop where
 h:PO X e (tO X.K EX m)
theorem PO.imp {X:Cx}{e:Option Expr}{t t':TO}(h:PO X e t) (f:∀ σ H Q,t' σ H Q->t σ H Q):PO X e t':=fun pins s σ H Q I z=>h pins s σ H Q I (f σ H Q z)
def z2l:G->M (Option Int):=fun _=>pure none
def z2h (ma:G->M D):G->M (Option Int):=fun γ=>do
 let x ← ma γ
 match x with
 | .int i=>pure (some i)
 | _=>bad
theorem z2e:SO X EX none z2l:=⟨PO.imp zl4 fun σ H Q ⟨ρ,γ,h,rel,fin⟩=>fin ρ H (Pre.refl _) (Ext.refl _ _) rel.h⟩
theorem z2c (ha:SE X EX a ma):SO X EX (some a) (z2h ma):=⟨PO.imp (zi0 ha.h) fun σ H Q ⟨ρ,γ,h,rel,fin⟩=>⟨ρ,γ,h,rel,(Fin.bind fin).mono fun x ρ1 h1 H1 p1 e1 r1 f1 v rv=>by
 cases x<;>first | exact (show False from f1).elim | skip
 rename_i i
 simp only [RD] at rv
 exact ⟨i,rv,f1 ρ1 H1 (Pre.refl _) (Ext.refl _ _) r1⟩⟩⟩
def z1e (ma:G->M D) (ml mh:G->M (Option Int)):G->M D:=fun γ=>do
 let x ← ma γ
 let lo ← ml γ
 let hi ← mh γ
 fSl x lo hi
theorem zr4 {ρ:List Addr}{h:AH}{H:Hp}{x:D}{v:V}{lo hi:Option Int}{Q:VK}(r:RH X.K ρ h H) (rx:RD X.K ρ H x v) (fin:FE X.K EX ρ H Q (fSl x lo hi h)):rSlL X.K v lo hi H Q∨rSlT X.K v lo hi H Q∨rSlW X.K v lo hi H Q:=by
 cases x<;>first | exact (show False from fin).elim | skip
 case tup xs =>
  have rx':=rx
  simp only [RD] at rx
  obtain ⟨q,vs,rfl,h1,h2⟩:=rx
  have fin':FE X.K EX ρ H Q (.ok (.tup (cutD xs lo hi)) h):=fin
  by_cases hw:HT.sIx vs.length 0 lo=0/\HT.sIx vs.length vs.length hi=vs.length
  ·refine .inr (.inr ⟨q,vs,rfl,h1,hw,FE.here fin' r ?_⟩)
   have e:cutD xs lo hi=xs:=by
    unfold cutD
    rw [h2.length,hw.1,hw.2,List.drop_zero,Nat.sub_zero,← h2.length,List.take_length]
   rw [e];exact rx'
  ·exact .inr (.inl ⟨q,vs,rfl,h1,hw,fun p hp=>FE.tup fin' r (z5m h2 lo hi) hp⟩)
 case fl xs =>
  simp only [RD] at rx
  obtain ⟨q,vs,rfl,h1,h2⟩:=rx
  have fin':FE X.K EX ρ H Q (newL (cutD xs lo hi) h):=fin
  unfold newL at fin'
  split at fin'
  ·exact .inl ⟨q,vs,rfl,h1.sq,fun p hp=>FE.lst fin' r (z5m h2 lo hi) hp⟩
  ·exact fin'.elim
 case ref n =>
  simp only [RD] at rx
  obtain ⟨q,rfl,h1⟩:=rx
  have fin':FE X.K EX ρ H Q ((getL n >>= fun xs=>newL (cutD xs lo hi)) h):=fin
  have f1:=Fin.bind fin'
  cases e:getL n h with
  | bad=>rw [e] at f1;exact f1.elim
  | err z hz=>exact (z13 e).elim
  | ok xs h2 =>
   obtain ⟨rfl,q1⟩:=z12 e
   rw [e] at f1
   have f2:=f1 ρ H (Pre.refl _) (Ext.refl _ _) r
   dsimp only at f2
   unfold newL at f2
   split at f2
   ·obtain ⟨a1,n1,vs,o1,d1⟩:=r.at q1
    rw [h1] at n1;cases n1
    exact .inl ⟨q,vs,rfl,SqL.of o1,fun p hp=>FE.lst f2 r (z5m d1 lo hi) hp⟩
   ·exact f2.elim
theorem z1y {lo hi:Option Expr}{ml mh:G->M (Option Int)}(ha:SE X EX a ma) (hl:SO X EX lo ml) (hh:SO X EX hi mh):SE X EX (.Subscript a (.Slice lo hi none p2) pos) (z1e ma ml mh) :=
 ⟨PE.imp (z9O (sl_list.or (sl_tup.or zc3)) ha.h hl.h hh.h) fun σ H Q ⟨ρ,γ,h,rel,fin⟩=>⟨ρ,γ,h,rel,(Fin.bind fin).mono fun x ρ1 h1 H1 p1 e1 r1 f1 v rv=>⟨ρ1,γ,h1,⟨rel.g.mono p1 e1,r1⟩,(Fin.bind f1).mono fun l ρ2 h2 H2 p2 e2 r2 f2 =>
  ⟨ρ2,γ,h2,⟨(rel.g.mono p1 e1).mono p2 e2,r2⟩,(Fin.bind f2).mono fun u ρ3 h3 H3 p3 e3 r3 f3=>zr4 r3 ((rv.mono p2 e2).mono p3 e3) f3⟩⟩⟩⟩
end
def leS (a b:Str):Bool:=!decide (b.cps.toList<a.cps.toList)
theorem z57 {a b c:Str}(h1:leS a b=true) (h2:leS b c=true):leS a c=true:=by
 simp only [leS,Bool.not_eq_true',decide_eq_false_iff_not] at *
 exact List.not_lt.mpr (List.le_trans (List.not_lt.mp h1) (List.not_lt.mp h2))
theorem z8p (a b:Str):(leS a b || leS b a)=true:=by
 simp only [leS,Bool.or_eq_true,Bool.not_eq_true',decide_eq_false_iff_not]
 rcases List.le_total a.cps.toList b.cps.toList with h | h
 ·exact .inl (List.not_lt.mpr h)
 ·exact .inr (List.not_lt.mpr h)
theorem z89 {a b:Str}(h:a.cps.toList=b.cps.toList):a=b:=by
 cases a;cases b
 congr 1
 exact Array.toList_inj.mp h
theorem z9v {a b:Str}(h1:leS a b=true) (h2:leS b a=true):a=b:=by
 simp only [leS,Bool.not_eq_true',decide_eq_false_iff_not] at *
 exact z89 (List.le_antisymm (List.not_lt.mp h1) (List.not_lt.mp h2))
def z1j (l:List Str):List Str:=l.mergeSort leS
theorem z6T (l:List Str):(z1j l).Perm l:=List.mergeSort_perm l leS
theorem z9Z (l:List Str):(z1j l).Pairwise (fun a b=>leS a b=true):=List.pairwise_mergeSort (le:=leS) (fun a b c h1 h2=>z57 h1 h2) z8p l
theorem z4N:∀ (p:Str) (l:List Str),risingS p l=true->(p :: l).Pairwise (fun a b=>leS a b=true)
 | p,[],_=>by simp
 | p,x :: r,h=>by
  have h':(!ltCps x.cps.toList p.cps.toList && risingS x r)=true:=h
  rw [Bool.and_eq_true,ltCps_eq] at h'
  have ih:=z4N x r h'.2
  have px:leS p x=true:=h'.1
  refine List.pairwise_cons.mpr ⟨fun y hy=>?_,ih⟩
  rcases List.mem_cons.mp hy with rfl | hy
  ·exact px
  ·exact z57 px ((List.pairwise_cons.mp ih).1 y hy)
theorem z9F {l l':List Str}(p:l'.Perm l) (h:sortedS l'=true):l'=z1j l:=by
 have pw:l'.Pairwise (fun a b=>leS a b=true):=by
  cases l' with
  | nil=>exact .nil
  | cons x r=>exact z4N x r h
 exact List.Perm.eq_of_pairwise (fun a b _ _=>z9v) pw (z9Z l) (p.trans (z6T l).symm)
def leI (a b:Int):Bool:=decide (a≤b)
def sortI (l:List Int):List Int:=l.mergeSort leI
theorem sortI_perm (l:List Int):(sortI l).Perm l:=List.mergeSort_perm l leI
theorem z5Z (l:List Int):(sortI l).Pairwise (fun a b=>a≤b):=by
 have:=List.pairwise_mergeSort (le:=leI) (fun a b c h1 h2=>by simp only [leI,decide_eq_true_eq] at *;omega) (fun a b=>by simp only [leI,Bool.or_eq_true,decide_eq_true_eq];omega) l
 exact this.imp fun h=>by simpa [leI] using h
theorem z6K {l l':List Int}(p:l'.Perm l) (h:l'.Pairwise (·≤·)):l'=sortI l :=
 List.Perm.eq_of_pairwise (fun a b _ _ h1 h2=>Int.le_antisymm h1 h2) h (z5Z l) (p.trans (sortI_perm l).symm)
def z2R:List D->Option (List Str)
 | []=>some []
 | .str b :: r=>(z2R r).map (b :: ·)
 | _ :: _=>none
def z2q:List D->Option (List Int)
 | []=>some []
 | .int b :: r=>(z2q r).map (b :: ·)
 | _ :: _=>none
def z1i:List D->M D
 | [.ref n]=>do
  let xs ← getL n
  if xs.length<64 then (match z2R xs with
   | some ss=>newL ((z1j ss).map .str)
   | none=>(match z2q xs with
    | some ns=>newL ((sortI ns).map .int)
    | none=>bad)) else bad
 | _=>bad
theorem z6i {K:PySem.W.Frag}{ρ:List Addr}{H:Hp}:∀ {xs:List D}{bs:List Str}{vs:List V},z2R xs=some bs->RDs K ρ H xs vs->vs=bs.map V.str
 | [],bs,vs,e,r=>by simp only [RDs] at r;cases e;subst r;rfl
 | x :: xs,bs,vs,e,r=>by
  simp only [RDs] at r
  obtain ⟨v,r2,rfl,h1,h2⟩:=r
  cases x<;>first | (simp only [z2R] at e;cases e;done) | skip
  rename_i b
  simp only [z2R] at e
  obtain ⟨bs',e1,rfl⟩:=Option.map_eq_some_iff.mp e
  simp only [RD] at h1
  subst h1
  rw [z6i e1 h2];rfl
theorem z32 {K:PySem.W.Frag}{ρ:List Addr}{H:Hp}:∀ {xs:List D}{bs:List Int}{vs:List V},z2q xs=some bs->RDs K ρ H xs vs->vs=bs.map V.int
 | [],bs,vs,e,r=>by simp only [RDs] at r;cases e;subst r;rfl
 | x :: xs,bs,vs,e,r=>by
  simp only [RDs] at r
  obtain ⟨v,r2,rfl,h1,h2⟩:=r
  cases x<;>first | (simp only [z2q] at e;cases e;done) | skip
  rename_i b
  simp only [z2q] at e
  obtain ⟨bs',e1,rfl⟩:=Option.map_eq_some_iff.mp e
  simp only [RD] at h1
  subst h1
  rw [z32 e1 h2];rfl
theorem z5W:∀ {bs:List Str}{us:List Value},Vals (bs.map V.str) us->StrsAre us bs
 | [],us,h=>by cases h;exact .nil
 | b :: bs,us,h=>by
  cases h with
  | cons h1 h2=>obtain ⟨t,rfl⟩:=h1;exact .cons b t (z5W h2)
theorem z6D:∀ {us:List Value}{bs:List Str},StrsAre us bs->Vals (bs.map V.str) us
 | _,_,.nil=>.nil
 | _,_,.cons y t r=>.cons ⟨t,rfl⟩ (z6D r)
theorem z6N:∀ {us:List Value}{bs:List Int},IntsAre us bs->Vals (bs.map V.int) us:=fun h=>z3h h
section
variable {X:Cx}{EX:XX}{a:Expr}{p pos:Pos}{mr:G->M (List D)}
theorem z5D:z1Q X (.builtin "sorted") (fun xs H Q=>∃ l ys,xs=[.ref l]/\SqL X.K H l ys/\ys.length<64 /\
 ((∃ ss,ys=ss.map V.str/\∀ q,H q=none->Q (.ref q) (upd H q (.lst ((z1j ss).map V.str))))∨(∃ ns,ys=ns.map V.int/\∀ q,H q=none->Q (.ref q) (upd H q (.lst ((sortI ns).map V.int)))))):=by
 intro pins s σ H xs us Q I r h
 obtain ⟨l,ys,rfl,hq,h64,h⟩:=h
 obtain ⟨u,rfl,ru⟩:=vals1 r
 cases ru
 obtain ⟨its,rv,pl,hz⟩:=I.list hq
 have hl:=rv.length
 have fin:∀ (out:Array Value) (zs:List V),Vals zs out.toList->zs.length=ys.length->(∀ q,H q=none->Q (.ref q) (upd H q (.lst zs)))->EP X pins σ Q (.ref (s.heap.objs.size+1)) { s with heap:=sortedAll s.heap its out }:=fun out zs h1 h2 h3=>by
  obtain ⟨e,he⟩:=sortedAll_at s.heap its out
  refine ⟨.ref (s.heap.objs.size+1),_,I.laid (t':=s.toks) (o:=.lst zs) (fun b o q=>sortedAll_old q) (Nat.le_succ _) ⟨by omega,out.toList,e,h1,?_⟩,rfl,h3 _ (I.hok.fresh (Nat.le_succ _))⟩
  rw [he]
 rcases h with ⟨ss,rfl,h⟩ | ⟨ns,rfl,h⟩
 ·refine sorted_strs pl.isList (z5W rv) (by omega) fun out ss' h1 h2 h3=>?_
  have e:=z9F h2 h3
  subst e
  exact fin out _ (z6D h1) (by rw [List.length_map,List.length_map,h2.length_eq]) h
 ·have hi:IntsAre its ns:=L2.intsAre_of rv
  refine sorted_ints pl.isList hi (by omega) fun out ns' h1 h2 h3=>?_
  have e:=z6K h2 h3
  subst e
  exact fin out _ (z6N h1) (by rw [List.length_map,List.length_map,h2.length_eq]) h
theorem z6x {K:PySem.W.Frag}{ρ:List Addr}{H:Hp}:∀ (l:List Str),RDs K ρ H (l.map .str) (l.map V.str)
 | []=>RDs.nil
 | x :: r=>RDs.cons (by simp [RD]) (z6x r)
theorem z40 {K:PySem.W.Frag}{ρ:List Addr}{H:Hp}:∀ (l:List Int),RDs K ρ H (l.map .int) (l.map V.int)
 | []=>RDs.nil
 | x :: r=>RDs.cons (by simp [RD]) (z40 r)
theorem z8F:AR X.K EX (fun xs H Q=>∃ l ys,xs=[.ref l]/\SqL X.K H l ys/\ys.length<64 /\
 ((∃ ss,ys=ss.map V.str/\∀ q,H q=none->Q (.ref q) (upd H q (.lst ((z1j ss).map V.str))))∨(∃ ns,ys=ns.map V.int/\∀ q,H q=none->Q (.ref q) (upd H q (.lst ((sortI ns).map V.int)))))) z1i:=by
 intro ρ h H ds vs Q r rd fin
 unfold z1i at fin
 split at fin
 ·rename_i n
  obtain ⟨v,rfl,rv⟩:=rds1 rd
  have f1:=Fin.bind fin
  cases e:getL n h with
  | bad=>rw [e] at f1;exact f1.elim
  | err z hz=>exact (z13 e).elim
  | ok xs h1 =>
   obtain ⟨rfl,q1⟩:=z12 e
   rw [e] at f1
   have f2:=f1 ρ H (Pre.refl _) (Ext.refl _ _) r
   dsimp only at f2
   simp only [RD] at rv;obtain ⟨q,rfl,h2⟩:=rv
   obtain ⟨a1,n1,ws,o1,d1⟩:=r.at q1
   rw [h2] at n1;cases n1
   by_cases hl:xs.length<64
   ·rw [if_pos hl] at f2
    refine ⟨q,ws,rfl,SqL.of o1,by rw [← d1.length];exact hl,?_⟩
    cases eb:z2R xs with
    | some ss =>
     rw [eb] at f2
     have f3:FE X.K EX ρ H Q (newL ((z1j ss).map .str) h1):=f2
     unfold newL at f3
     split at f3
     ·exact .inl ⟨ss,z6i eb d1,fun p hp=>FE.lst f3 r (z6x _) hp⟩
     ·exact f3.elim
    | none =>
     rw [eb] at f2
     cases en:z2q xs with
     | some ns =>
      rw [en] at f2
      have f3:FE X.K EX ρ H Q (newL ((sortI ns).map .int) h1):=f2
      unfold newL at f3
      split at f3
      ·exact .inr ⟨ns,z32 en d1,fun p hp=>FE.lst f3 r (z40 _) hp⟩
      ·exact f3.elim
     | none=>rw [en] at f2;exact (show False from f2).elim
   ·rw [if_neg hl] at f2;exact (show False from f2).elim
 ·exact fin.elim
theorem z4Y (hc:X.calm=true) (hg:Gl X "sorted") (hm:X.mg "sorted" = none) (ha:SA X EX [a] mr) (he:starEach [a] X.env=[(false,eval a X.env)]:=by rfl):SE X EX (.Call (.Name "sorted" p) [a] [] pos) (Z9 z1i mr) :=
 z1f (z0J z5D hg hm boot_sorted ha.h (by decide) (by decide) he rfl) z8F
end
end FT
set_option maxHeartbeats 2000000
namespace FT
open PySem PySem.Spec PyProof.Rows L2
@[simp] theorem bindM {α β:Type} (m:M α) (f:α->M β) (h:AH):(m >>= f) h=match m h with
 | .ok a h1=>f a h1
 | .err x h1=>.err x h1
 | .bad=>.bad:=rfl
@[simp] theorem pureM {α:Type} (a:α) (h:AH):(Pure.pure a:M α) h=.ok a h:=rfl
theorem Rise.lt {xs:Array Nat}(h:Rise xs) {i j a b:Nat}(ha:xs[i]?=some a) (hb:xs[j]?=some b) (hij:i<j):a<b:=by
 obtain ⟨h1,e1⟩:=Array.getElem?_eq_some_iff.mp ha
 obtain ⟨h2,e2⟩:=Array.getElem?_eq_some_iff.mp hb
 have:=List.pairwise_iff_getElem.mp h i j (by simpa using h1) (by simpa using h2) hij
 simp only [Array.getElem_toList] at this
 rw [e1,e2] at this
 exact this
theorem z47 {xs:Array Nat}(h:Rise xs) (j:Nat):∀ (fuel lo hi:Nat),hi - lo≤fuel->lo≤hi->hi≤xs.size->(∀ (i:Nat) a,i<lo->xs[i]?=some a->a<j)->(∀ (i:Nat) a,hi≤i->xs[i]?=some a->j≤a) ->
 (SetTable.below.go xs j fuel lo hi)≤xs.size/\(∀ (i:Nat) a,i<SetTable.below.go xs j fuel lo hi->xs[i]?=some a->a<j)/\∀ (i:Nat) a,SetTable.below.go xs j fuel lo hi≤i->xs[i]?=some a->j≤a
 | 0,lo,hi,hf,hl,hs,h1,h2=>by
  have:hi=lo:=by omega
  subst this
  exact ⟨by simp only [SetTable.below.go];omega,by simpa only [SetTable.below.go] using h1,by simpa only [SetTable.below.go] using h2⟩
 | fuel+1,lo,hi,hf,hl,hs,h1,h2=>by
  rw [SetTable.below.go]
  split
  ·rename_i hlt
   have hm:(lo+hi) / 2<xs.size:=by omega
   have e:xs[(lo+hi) / 2]?=some xs[(lo+hi) / 2]:=Array.getElem?_eq_getElem hm
   have ed:xs.getD ((lo+hi) / 2) j=xs[(lo+hi) / 2]:=by rw [Array.getD_eq_getD_getElem?,e];rfl
   dsimp only
   rw [ed]
   split
   ·rename_i q
    refine z47 h j fuel _ hi (by omega) (by omega) hs (fun i a hi' ha=>?_) h2
    by_cases z:i=(lo+hi) / 2
    ·subst z;rw [e] at ha;cases ha;exact q
    ·exact Nat.lt_trans (h.lt ha e (by omega)) q
   ·rename_i q
    refine z47 h j fuel lo _ (by omega) (by omega) (by omega) h1 (fun i a hi' ha=>?_)
    by_cases z:i=(lo+hi) / 2
    ·subst z;rw [e] at ha;cases ha;omega
    ·have:=h.lt e ha (by omega);omega
  ·exact ⟨by omega,h1,fun i a hi' ha=>h2 i a (by omega) ha⟩
theorem z2C {xs:Array Nat}(h:Rise xs) (j:Nat):SetTable.below xs j≤xs.size/\(∀ (i:Nat) a,i<SetTable.below xs j->xs[i]?=some a->a<j)/\∀ (i:Nat) a,SetTable.below xs j≤i->xs[i]?=some a->j≤a:=by
 unfold SetTable.below
 refine z47 h j xs.size 0 xs.size (by omega) (by omega) (by omega) (fun i a hi=>by omega) (fun i a hi ha=>?_)
 have:=(Array.getElem?_eq_some_iff.mp ha).1
 omega
theorem z7a {xs:Array Nat}(h:Rise xs) {i j:Nat}(e:xs[i]?=some j):SetTable.below xs (j+1)=i+1:=by
 obtain ⟨b1,b2,b3⟩:=z2C h (j+1)
 have hi:=(Array.getElem?_eq_some_iff.mp e).1
 have l1:i<SetTable.below xs (j+1):=by
  by_cases q:i<SetTable.below xs (j+1)
  ·exact q
  ·have:=b3 i j (by omega) e;omega
 by_cases q:SetTable.below xs (j+1)=i+1
 ·exact q
 ·have hlt:i+1<xs.size:=by omega
  have e2:xs[i+1]?=some xs[i+1]:=Array.getElem?_eq_getElem hlt
  have a1:=b2 (i+1) _ (by omega) e2
  have a2:=h.lt e e2 (by omega)
  omega
theorem z6X {xs:Array Nat}(h:Rise xs):SetTable.below xs 0=0:=by
 obtain ⟨b1,b2,b3⟩:=z2C h 0
 by_cases q:SetTable.below xs 0=0
 ·exact q
 ·have hlt:0<xs.size:=by omega
  have e2:xs[0]?=some xs[0]:=Array.getElem?_eq_getElem hlt
  have:=b2 0 _ (by omega) e2
  omega
theorem za4 {t:SetTable}{j:Nat}(h:Rise t.place) (hj:t.place[SetTable.below t.place j]?≠some j):Rise (t.put j).1.place:=by
 obtain ⟨b1,b2,b3⟩:=z2C h j
 show (SetTable.insertAt t.place (SetTable.below t.place j) j).toList.Pairwise _
 rw [SetTable.toList_insertAt]
 have tk:∀ a∈t.place.toList.take (SetTable.below t.place j),a<j:=fun a ha=>by
  obtain ⟨i,hi,e⟩:=List.getElem_of_mem ha
  rw [List.getElem_take] at e
  have hi2:i<SetTable.below t.place j:=by
   rw [List.length_take] at hi;omega
  have hi3:i<t.place.size:=by omega
  exact b2 i a hi2 (by rw [Array.getElem?_eq_getElem hi3];simpa using e)
 have dr:∀ a∈t.place.toList.drop (SetTable.below t.place j),j<a:=fun a ha=>by
  obtain ⟨i,hi,e⟩:=List.getElem_of_mem ha
  rw [List.getElem_drop] at e
  have hi3:SetTable.below t.place j+i<t.place.size:=by
   rw [List.length_drop] at hi;simp at hi;omega
  have e2:t.place[SetTable.below t.place j+i]?=some a:=by rw [Array.getElem?_eq_getElem hi3];simpa using e
  have:=b3 _ a (by omega) e2
  by_cases q:a=j
  ·subst q
   cases i with
   | zero=>exact absurd e2 hj
   | succ i =>
    have hlt:SetTable.below t.place a<t.place.size:=by omega
    have e3:t.place[SetTable.below t.place a]?=some t.place[SetTable.below t.place a]:=Array.getElem?_eq_getElem hlt
    have a1:=b3 _ _ (Nat.le_refl _) e3
    have a2:=h.lt e3 e2 (by omega)
    omega
  ·omega
 have p1:=List.Pairwise.take (i:=SetTable.below t.place j) h
 have p2:=List.Pairwise.drop (i:=SetTable.below t.place j) h
 simp only [List.pairwise_append,List.pairwise_cons]
 first
  | (refine ⟨p1,⟨dr,p2⟩,fun a ha b hb=>?_⟩
     rcases List.mem_cons.mp hb with rfl | hb
     ·exact tk a ha
     ·exact Nat.lt_trans (tk a ha) (dr b hb))
  | skip
theorem z6z {t:SetTable}{j:Nat}(h:∀ i,t.slot j≠.live i):t.place[SetTable.below t.place j]?≠some j:=fun e=>by
 refine h (SetTable.below t.place j) ?_
 unfold SetTable.slot
 dsimp only
 rw [e,if_pos (by simp)]
theorem z4a {t:SetTable}{ha:Nat->Int}{hx:Int}:∀ (fuel:Nat) (p:SetTable.Probe) (j:Nat) (dm:Option Nat),(∀ d,p.dummy=some d->t.slot d=.dummy)->SetTable.probe.go t ha hx fuel p=some (.empty j dm)->t.slot j=.empty/\∀ d,dm=some d->t.slot d=.dummy
 | 0,p,j,dm,hd,e=>by simp [SetTable.probe.go] at e
 | fuel+1,p,j,dm,hd,e=>by
  rw [SetTable.probe.go] at e
  have adv:∀ q:SetTable.Probe,(t.advance q).dummy=q.dummy:=fun q=>by
   unfold SetTable.advance
   split<;>rfl
  split at e
  ·rename_i hs
   cases e
   exact ⟨hs,hd⟩
  ·rename_i hs
   refine z4a fuel _ j dm (fun d z=>?_) e
   rw [adv] at z
   cases z
   exact hs
  ·split at e
   ·cases e
   ·refine z4a fuel _ j dm (fun d z=>?_) e
    rw [adv] at z
    exact hd d z
theorem za3 {t:SetTable}{hx:Int}{j:Nat}{b:Bool}(e:t.freeSlot hx=some (j,b)):t.place[SetTable.below t.place j]?≠some j:=by
 unfold SetTable.freeSlot SetTable.probe at e
 split at e
 ·rename_i j' dm hp
  obtain ⟨s1,s2⟩:=z4a _ _ j' dm (fun d z=>by simp [SetTable.probeStart] at z) hp
  cases dm with
  | none=>cases e;exact z6z (fun i z=>by rw [show t.slot (none.getD j')=_ from s1] at z;cases z)
  | some d=>cases e;exact z6z (fun i z=>by rw [show t.slot ((some d).getD j')=_ from s2 d rfl] at z;cases z)
 ·cases e
theorem z1U (n:Nat):Rise (Array.range n):=by
 show (Array.range n).toList.Pairwise _
 rw [Array.toList_range]
 exact List.pairwise_lt_range
theorem z5t {t:SetTable}{es:Array (Int×Value)}{hx:Int}{x:Value}(h:Rise t.place):Rise (layNew t es hx x).2.1.place/\(layNew t es hx x).2.1.led=t.led:=by
 unfold layNew
 split
 ·rename_i sl wd e
  dsimp only
  unfold SetTable.orStandIn
  split
  ·exact ⟨za4 h (za3 e),rfl⟩
  ·exact ⟨z1U _,rfl⟩
 ·exact ⟨z1U _,rfl⟩
theorem z81 {mask finger moves:Nat}{led plain:Bool}{hs:Array Int}{t:SetTable}{o:Array Nat}(e:SetTable.laid mask finger moves led plain hs=some (t,o)):Rise t.place/\t.led=led:=by
 unfold SetTable.laid at e
 cases hl:SetTable.layClean mask hs with
 | none=>rw [hl] at e;cases e
 | some ow =>
  rw [hl] at e
  cases e
  refine ⟨?_,rfl⟩
  unfold Rise
  dsimp only
  rw [List.pairwise_map,List.pairwise_filterMap]
  refine List.pairwise_lt_range.imp fun {a b} hab c hc d hd=>?_
  cases h1:ow.getD a none with
  | none=>rw [h1] at hc;cases hc
  | some u =>
   cases h2:ow.getD b none with
   | none=>rw [h2] at hd;cases hd
   | some v =>
    rw [h1] at hc;rw [h2] at hd
    cases hc;cases hd
    exact hab
theorem z70 {t:SetTable}{es:Array (Int×Value)}{n:Nat}:Rise (relayAll t es n).2.1.place/\(relayAll t es n).2.1.led=t.led:=by
 unfold relayAll
 split
 ·rename_i t' o e
  obtain ⟨r1,r2⟩:=z81 e
  dsimp only
  split
  ·exact ⟨r1,r2⟩
  ·exact ⟨z1U _,rfl⟩
 ·exact ⟨z1U _,rfl⟩
section
variable {P:Program}{w:World}
theorem z26 {α β:Type}{R:α->β->Prop}{l' l:List β}(p:l'.Perm l):∀ {ks:List α},Paired R ks l->∃ ks',ks'.Perm ks/\Paired R ks' l':=by
 induction p with
 | nil=>intro ks h;exact ⟨ks,.refl _,h⟩
 | cons x _ ih =>
  intro ks h
  cases h with
  | cons a b =>
   obtain ⟨ks',q1,q2⟩:=ih b
   exact ⟨_ :: ks',.cons _ q1,.cons a q2⟩
 | swap x y l =>
  intro ks h
  cases h with
  | cons a b =>
   cases b with
   | cons c d=>exact ⟨_ :: _ :: _,.swap _ _ _,.cons c (.cons a d)⟩
 | trans _ _ ih1 ih2 =>
  intro ks h
  obtain ⟨k1,a1,a2⟩:=ih2 h
  obtain ⟨k2,b1,b2⟩:=ih1 a2
  exact ⟨k2,b1.trans a1,b2⟩
theorem z3i {α β:Type}{R:α->β->Prop}:∀ {ks:List α}{l:List β}{k:α}{x:β},Paired R ks l->R k x->Paired R (ks++[k]) (l++[x])
 | _,_,_,_,.nil,h=>.cons h .nil
 | _,_,_,_,.cons a b,h=>.cons a (z3i b h)
theorem z2D {α β:Type}{R:α->β->Prop}:∀ {ks:List α}{l:List β}{x:β},Paired R ks l->x∈l->∃ k∈ks,R k x
 | _,_,_,.cons a b,h=>by
  rcases List.mem_cons.mp h with rfl | h
  ·exact ⟨_,List.mem_cons_self,a⟩
  ·obtain ⟨k,h1,h2⟩:=z2D b h;exact ⟨k,List.mem_cons_of_mem _ h1,h2⟩
theorem z35 {α β:Type}{R:α->β->Prop}:∀ {ks:List α}{l:List β}{k:α},Paired R ks l->k∈ks->∃ x∈l,R k x
 | _,_,_,.cons a b,h=>by
  rcases List.mem_cons.mp h with rfl | h
  ·exact ⟨_,List.mem_cons_self,a⟩
  ·obtain ⟨k,h1,h2⟩:=z35 b h;exact ⟨k,List.mem_cons_of_mem _ h1,h2⟩
theorem z6e {k:Key}{v:Value}(h:z1N k v=true):v.scannable=true:=by
 rcases y6 h with ⟨i,t,rfl,rfl⟩ | ⟨x,t,rfl,rfl⟩<;>rfl
theorem z9z {ks:List Key}{l:List (Int×Value)}(h:Paired (KE w) ks l):ElemsOf (z09 P w) l:=fun e he=>by
 obtain ⟨k,_,h1,h2⟩:=z2D h he
 exact ⟨⟨k,h1,h2⟩,z6e h1⟩
theorem zj5 {k k':Key}{v:Value}(h:z1N k v=true) (h':z1N k' v=true):k=k':=by
 rcases y6 h with ⟨i,t,rfl,rfl⟩ | ⟨x,t,rfl,rfl⟩
 ·rcases y6 h' with ⟨j,u,rfl,e⟩ | ⟨y,u,rfl,e⟩
  ·cases e;rfl
  ·cases e
 ·rcases y6 h' with ⟨j,u,rfl,e⟩ | ⟨y,u,rfl,e⟩
  ·cases e
  ·cases e;rfl
theorem mem_of {ks:List Key}{l:List (Int×Value)}(h:Paired (KE w) ks l) (k:Key):k∈ks↔∃ e∈l,z1N k e.2=true:=by
 constructor
 ·intro hk
  obtain ⟨e,h1,h2,_⟩:=z35 h hk
  exact ⟨e,h1,h2⟩
 ·rintro ⟨e,h1,h2⟩
  obtain ⟨k',h3,h4,_⟩:=z2D h h1
  exact zj5 h2 h4 ▸ h3
theorem SetAt.stay {h h':Heap}{a:Addr}{ks:List Key}(x:SetAt w h a ks) (k:∀ o,h.get? a=some o->h'.get? a=some o):SetAt w h' a ks:=by
 obtain ⟨o,es,ep,t,ks',h1,h2⟩:=x
 exact ⟨o,es,ep,t,ks',k o h1,h2⟩
theorem z85 {h:Heap}{led:Bool}(hl:led=true∨w.params.followText "set-order" = true):SetAt w (h.push { cls:=.type "set",dict:=none,data:=.set #[] 0 (.fresh 0 0 led) }) h.objs.size [] :=
 ⟨_,#[],0,_,[],Heap.get?_push_size _ rfl,⟨rfl,rfl,rfl⟩,rfl,.nil,.refl _,List.nodup_nil,by decide,by rfl,by show ([]:List Nat).Pairwise _;exact .nil,hl⟩
variable {A:Around}{E:Value->Shared->Prop}{s:Shared}{a:Addr}
theorem z5X {ks:List Key}{o:Obj}{es es':Array (Int×Value)}{ep:Nat}{t t':SetTable}{ks':List Key}{h:Heap}(ho:h.get? a=some o) (hex:o.ExactSet) (hd:o.data=.set es ep t) (h4:Paired (KE w) ks' es'.toList) (h5:ks'.Perm ks) (h6:ks.Nodup)
 (hb:es'.size<scanBound) (hf:t'.fits es'.size=true) (hr:Rise t'.place) (hl:t'.led=true∨w.params.followText "set-order" = true) :
 SetAt w (h.update a (Obj.putSet es' t')) a ks/\∃ o',(h.update a (Obj.putSet es' t')).get? a=some o'/\o'.ExactSet/\o'.data=.set es' (ep+1) t':=by
 have g:(h.update a (Obj.putSet es' t')).get? a=some { o with data:=.set es' (ep+1) t' }:=by
  have:=Heap.get?_update_self (Obj.putSet es' t') ho (by rw [putSet_of es' t' hd];rfl)
  rw [putSet_of es' t' hd] at this;exact this
 exact ⟨⟨_,es',ep+1,t',ks',g,hex,rfl,h4,h5,h6,hb,hf,hr,hl⟩,_,g,hex,rfl⟩
theorem tail_at {ks ks1:List Key}{o:Obj}{es es1:Array (Int×Value)}{ep:Nat}{t t2:SetTable}{wd:Bool}{gw:Bool->Sem Unit}{R:Option Bool->Shared->Prop}(hG:∀ (g:Bool) (s1:Shared) (Z:Unit->Shared->Prop),Z () s1->wpAny (model P w) A (gw g) Z E s1)
 (ho:s.heap.get? a=some o) (hex:o.ExactSet) (hd:o.data=.set es ep t) (h4:Paired (KE w) ks1 es1.toList) (h5:ks1.Perm ks) (h6:ks.Nodup) (hb:es1.size<scanBound) (hf:t2.fits es1.size=true) (hr:Rise t2.place) (hl:t2.led=true∨w.params.followText "set-order" = true)
 (h:∀ h',Heap.SameBut a s.heap h'->SetAt w h' a ks->R (some true) { s with heap:=h' }) :
 wpAny (model P w) A (storeSet a es1 t2 >>= fun _=>if (!wd && t2.tooFull)=true then (gw (relayAll t2 es1 (SetTable.grown es1.size)).2.2 >>= fun _=>storeSet a (relayAll t2 es1 (SetTable.grown es1.size)).1 (relayAll t2 es1 (SetTable.grown es1.size)).2.1 >>= fun _=>pure (some true)) else pure (some true)) R E s:=by
 obtain ⟨S1,o1,g1,x1,d1⟩:=z5X (h:=s.heap) (t':=t2) ho hex hd h4 h5 h6 hb hf hr hl
 have sb:=Heap.SameBut.update s.heap a (Obj.putSet es1 t2)
 refine wpAny_bind (wpAny_storeSet_of ho hd ?_ (fits_of_scanBound hb))
 split
 ·have rp:=relayAll_perm t2 es1 (SetTable.grown es1.size)
  have rf:=relayAll_fits t2 es1 (SetTable.grown es1.size)
  have rr:=z70 (t:=t2) (es:=es1) (n:=SetTable.grown es1.size)
  obtain ⟨ks2,p1,p2⟩:=z26 rp h4
  have sz:(relayAll t2 es1 (SetTable.grown es1.size)).1.size=es1.size:=by rw [← Array.length_toList,rp.length_eq,Array.length_toList]
  have b2:(relayAll t2 es1 (SetTable.grown es1.size)).1.size<scanBound:=by rw [sz];exact hb
  refine wpAny_bind (hG _ _ _ (wpAny_bind (wpAny_storeSet_of g1 d1 (wpAny_pure ?_) (fits_of_scanBound b2))))
  obtain ⟨S2,_⟩:=z5X (h:=s.heap.update a (Obj.putSet es1 t2)) (t':=(relayAll t2 es1 (SetTable.grown es1.size)).2.1) g1 x1 d1 p2 (p1.trans h5) h6 b2 rf rr.1 (by rw [rr.2];exact hl)
  exact h _ (sb.trans (Heap.SameBut.update _ a _)) S2
 ·exact wpAny_pure (h _ sb S1)
theorem zB7 {ks:List Key}{k:Key}{x:Value}{Q:Bool->Shared->Prop}(hk:z1N k x=true) (hS:SetAt w s.heap a ks) (hroom:ks.length+1<scanBound)
 (h:∀ h' b,Heap.SameBut a s.heap h'->SetAt w h' a (if k∈ks then ks else ks++[k])->Q b { s with heap:=h' }) :
 wpAny (model P w) A (setAddHashed a x (keyH w k)) Q E s:=by
 obtain ⟨o,es,ep,t,ks',ho,hex,hd,h4,h5,h6,h7,h8,h9,h0⟩:=hS
 have el:=z9z (P:=P) h4
 have sc:=z6e hk
 have hn:es.size=ks.length:=by rw [← h5.length_eq,Paired.length h4,Array.length_toList]
 unfold setAddHashed setAddHashedIn
 refine wpAny_holding (wpAny_bind (wpAny_setState_of ho hd h8 ?_))
 dsimp only
 rw [byScan_of sc h7 el,if_pos rfl]
 unfold setAddByScan
 refine wpAny_bind (wpAny_bind (wpAny_rule (wpAny_bind (wpAny_setScan_of (knd:=z09 P w) (k:=k) hk ho hd h8 el ?_))))
 cases hr:List.findIdx? (fun e=>(z09 P w).is k e.2) es.toList with
 | some j =>
  dsimp only
  obtain ⟨hj,hp,_⟩:=List.findIdx?_eq_some_iff_getElem.mp hr
  have hm:k∈ks:=h5.mem_iff.mp ((mem_of h4 k).mpr ⟨_,List.getElem_mem hj,hp⟩)
  have:=h s.heap false (Heap.SameBut.refl a s.heap) (by rw [if_pos hm];exact ⟨o,es,ep,t,ks',ho,hex,hd,h4,h5,h6,h7,h8,h9,h0⟩)
  exact wpAny_pure (wpAny_pure this)
 | none =>
  dsimp only
  have hm:k∉ks:=fun z=>by
   obtain ⟨e,he,hp⟩:=(mem_of h4 k).mp (h5.mem_iff.mpr z)
   have:=List.findIdx?_eq_none_iff.mp hr e he
   rw [show (z09 P w).is k e.2=true from hp] at this
   cases this
  rw [if_neg hm] at h
  have np:=layNew_perm t es (keyH w k) x
  have nf:=layNew_fits t es (keyH w k) x
  have nr:=z5t (t:=t) (es:=es) (hx:=keyH w k) (x:=x) h9
  have hG:∀ (g:Bool) (s1:Shared) (R:Unit->Shared->Prop),R () s1->wpAny (model P w) A (match g with | true=>rule "set.scan.the-table-gave-way" | false=>pure ()) R E s1 :=
   fun g s1 R q=>by cases g<;>first | exact wpAny_pure q | exact wpAny_rule q
  generalize hL:layNew t es (keyH w k) x=L at np nf nr ⊢
  obtain ⟨es1,t1,wd,gv⟩:=L
  dsimp only at np nf nr ⊢
  rw [Array.toList_push] at np
  obtain ⟨ks1,p1,p2⟩:=z26 np (z3i h4 (show KE w k (keyH w k,x) from ⟨hk,rfl⟩))
  have nd:(ks++[k]).Nodup:=by
   rw [List.nodup_append]
   exact ⟨h6,by simp,fun u hu v hv=>by simp at hv;subst hv;exact fun z=>hm (z ▸ hu)⟩
  have b1:es1.size<scanBound:=by
   rw [← Array.length_toList,np.length_eq,List.length_append,Array.length_toList]
   simpa [hn] using hroom
  have p3:ks1.Perm (ks++[k]):=p1.trans (h5.append_right [k])
  have l1:t1.led=true∨w.params.followText "set-order" = true:=by rw [nr.2];exact h0
  refine wpAny_bind (hG _ _ _ ?_)
  split
  ·rw [hashByValue_scannable 8 sc]
   refine wpAny_bind (wpAny_pure ?_)
   refine tail_at (t2:=if plainKind x=true then t1 else { t1 with plain:=false }) hG ho hex hd p2 p3 nd b1 ?_ ?_ ?_ fun h' sb S=>wpAny_pure (h h' true sb S)
   ·split
    ·exact nf
    ·exact SetTable.fits_plain_off nf
   ·split
    ·exact nr.1
    ·exact nr.1
   ·split
    ·exact l1
    ·exact l1
  ·refine wpAny_bind (wpAny_pure ?_)
   simp only [if_pos]
   exact tail_at hG ho hex hd p2 p3 nd b1 nf nr.1 l1 fun h' sb S=>wpAny_pure (h h' true sb S)
end
def putK (acc:List Key) (k:Key):List Key:=if k∈acc then acc else acc++[k]
def dedK (ks:List Key):List Key:=ks.foldl putK []
theorem z9o (acc:List Key) (k:Key):(putK acc k).length≤acc.length+1:=by
 unfold putK
 split
 ·omega
 ·simp
theorem z4U:∀ (ks acc:List Key),(ks.foldl putK acc).length≤acc.length+ks.length
 | [],acc=>by simp
 | k :: ks,acc=>by
  have h1:=z4U ks (putK acc k)
  have h2:=z9o acc k
  simp only [List.foldl_cons,List.length_cons]
  omega
theorem z9x (ks:List Key):(dedK ks).length≤ks.length:=by
 have:=z4U ks []
 simpa [dedK] using this
theorem z7L (ks:List Key) (k:Key):dedK (ks++[k])=putK (dedK ks) k:=by
 unfold dedK
 rw [List.foldl_append]
 rfl
section
variable {P:Program}{w:World}{A:Around}{E:Value->Shared->Prop}{s:Shared}{a:Addr}
theorem z9k {ks:List Key}{k:Key}{x:Value}{Q:Bool->Shared->Prop}(hk:z1N k x=true) (hS:SetAt w s.heap a ks) (hroom:ks.length+1<scanBound)
 (h:∀ h' b,Heap.SameBut a s.heap h'->SetAt w h' a (putK ks k)->Q b { s with heap:=h',toks:=s.toks+1 }):wpAny (model P w) A (setAdd a x) Q E s:=by
 unfold setAdd
 refine wpAny_holding (wpAny_bind ((z09 P w).pyHash (k:=k) hk ?_))
 exact zB7 (s:={ s with toks:=s.toks+1 }) hk hS hroom fun h' b sb S=>h h' b sb S
end
section
variable {P:Program}{w:World}{A:Around}{R:Result->Shared->Prop}{I:Addr}{fp wr:List Addr}{G:Array GenState->Array GenState->Prop}{n:Nat}{PV:Nat->Value->Prop}{St:Nat->Shared->Prop}
theorem z4Q (W:WalksS P w A.in1 I fp wr G n PV St) (S:Addr) (hSf:S∉fp) (key:Nat->Key) (hv:∀ i v,PV i v->z1N (key i) v=true) (hb:n+1<scanBound) :
 ∀ (k i:Nat) (s:Shared),i+k=n->St i s->SetAt w s.heap S (dedK ((List.range i).map key)) ->
  (∀ s',Moved (S :: wr) G s s'->SetAt w s'.heap S (dedK ((List.range n).map key))->R (.ok (.ret .none)) s') ->
  codeAny (model P w) A (.builtin "set.update.loop" ⟨[.ref S,.ref I],[]⟩) R s:=by
 have nw:S∉wr:=fun h=>hSf (W.sub _ h)
 have up:∀ b∈wr,b∈S :: wr:=fun b hb=>List.mem_cons_of_mem _ hb
 intro k
 induction k with
 | zero =>
  intro i s hk st hS hR
  obtain rfl:i=n:=by omega
  refine codeAny_builtin F.entry_set_update_loop ?_
  rw [Around.under_plainId F.plain_set_update_loop _]
  show wpAny _ A.in1 (pyNext (.ref I) >>= _) _ _ s
  refine wpAny_bind (W.done s _ _ st fun s' hm=>?_)
  show wpAny _ A.in1 (ret Value.none) _ _ s'
  exact wpAny_pure (hR s' (hm.mono up) (hS.stay fun o e=>hm.heap S o nw e))
 | succ k ih =>
  intro i s hk st hS hR
  refine codeAny_builtin F.entry_set_update_loop ?_
  rw [Around.under_plainId F.plain_set_update_loop _]
  show wpAny _ A.in1 (pyNext (.ref I) >>= _) _ _ s
  refine wpAny_bind (W.item i s _ _ (by omega) st fun v s' hP st' hm=>?_)
  show wpAny _ A.in1 (holding [v] (setAdd S v) >>= _) _ _ s'
  have room:(dedK ((List.range i).map key)).length+1<scanBound:=by
   have:=z9x ((List.range i).map key)
   rw [List.length_map,List.length_range] at this
   omega
  refine wpAny_bind (wpAny_holding (z9k (hv i v hP) (hS.stay fun o e=>hm.heap S o nw e) room fun h' b sb S2=>?_))
  have nx:dedK ((List.range (i+1)).map key)=putK (dedK ((List.range i).map key)) (key i):=by
   rw [List.range_succ,List.map_append]
   exact z7L _ _
  refine wpAny_pure ⟨plainId_quiet F.plain_set_update_loop _,ih (i+1) _ (by omega) (W.frame _ s' _ _ st' (Nat.le_succ _) fun b hb o e=>?_) (by rw [nx];exact S2) fun s'' hm'' S3=>?_⟩
  ·rw [sb.2 b (fun z:b=S=>hSf (z ▸ hb))];exact e
  ·refine hR s'' (Moved.trans W.gtrans ((hm.mono up).then_heap (Nat.le_succ _) fun b o hb e=>?_) hm'') S3
   rw [sb.2 b (fun z:b=S=>hb (by rw [z];exact List.mem_cons_self))];exact e
end
end FT
set_option maxHeartbeats 3200000
namespace FT
open PySem PySem.Spec PyProof.Rows L2
theorem z6Y:isSubtype (.type "tuple") (.type "set")=pure false:=by rw [isSubtype_type];kernel_rfl
theorem z5n:isSubtype (.type "tuple") (.type "frozenset")=pure false:=by rw [isSubtype_type];kernel_rfl
abbrev z19 (w:World):Obj:={ cls:=.type "set",dict:=none,data:=.set #[] 0 (.fresh 0 0 (!w.params.followText "set-order")) }
theorem zt1 (w:World):(!w.params.followText "set-order")=true∨w.params.followText "set-order" = true:=by
 cases w.params.followText "set-order"<;>simp
section
variable {P:Program}{w:World}{A:Around}{E:Value->Shared->Prop}{s:Shared}
theorem fresh_at {h:Heap}:SetAt w (h.push (z19 w)) h.objs.size []:=z85 (zt1 w)
theorem newCode (a:Value) {Q:Value->Shared->Prop}(h:Q (.ref s.heap.objs.size) { s with heap:=s.heap.push (z19 w) }) :
 codeAny (model P w) A (.call (.builtin "set.__new__") ⟨[.type "set",a],[]⟩) (wants Q E) s:=by
 refine codeAny_of_tree (show wpAny _ A.in1 (do checkBuiltinCall "set.__new__" ⟨[.type "set",a],[]⟩;again (.builtin "set.__new__" ⟨[.type "set",a],[]⟩)) _ _ s from ?_)
 refine wpAny_bind (wpAny_of_eq (F.newCall_set_1 a) (wpAny_pure ⟨plainId_quiet F.plain_set_new _,codeAny_builtin F.entry_set_new ?_⟩))
 rw [Around.under_plainId F.plain_set_new _]
 unfold Builtin.«set.__new__» Builtin.Frozenset.newClass
 have hz:=sub_set_self
 obtain ⟨hp,g,d,tk,os⟩:=s
 dsimp only
 wp_walk
 refine wpAny_askSetting (wpAny_pure ?_)
 dsimp only
 simp only [newObj]
 refine wpAny_bind (wpAny_alloc (wpAny_pure ?_))
 exact wpAny_pure h
theorem z9i {T:String}{l:Addr}{items:Array Value}{key:Nat->Key}{Q:Value->Shared->Prop}(hT:T = "list"∨T = "tuple") (hh:A.handled=none) (hl:∃ o,s.heap.get? l=some o/\o.cls=.type T/\∃ n,o.data=.seq items n)
 (hv:∀ (i:Nat) v,items[i]?=some v->z1N (key i) v=true) (hb:items.size+1<scanBound)
 (h:∀ h' tk,SetAt w h' s.heap.objs.size (dedK ((List.range items.size).map key))->(∀ b o,s.heap.get? b=some o->h'.get? b=some o)->Q (.ref s.heap.objs.size) { s with heap:=h',toks:=tk }) :
 wpAny (model P w) A (call (.type "set") [.ref l]) Q E s:=by
 obtain ⟨c,tl,hmro⟩:=F.called_set.mro
 have z1:=F.called_set.made
 have z2:=F.called_set.sub
 have z3:=F.called_set.notType
 have z4:=F.called_set.canCreate
 have z5:=F.typeCall_set_1 (.ref l)
 obtain ⟨ol,hol,hcl,nl,hdl⟩:=hl
 obtain ⟨ocls,odict,odata,oslots⟩:=ol
 simp only at hcl hdl
 subst hcl;subst hdl
 refine wpAny_call (codeAny_of_tree (show wpAny _ _ (callAny (.type "set") _) _ _ _ from ?_))
 refine wpAny_pure ⟨Code.quiet_builtin _ (by decide +kernel),codeAny_builtin F.entry_type_call ?_⟩
 rw [Around.under_plain (weight_type_call_type "set" [.ref l] []) rfl]
 repeat (any_goals (first | assumption | wp_step))
 refine codeAny_mono (newCode (.ref l) (E:=E) (Q:=fun obj s1=>obj=.ref s.heap.objs.size/\s1={ s with heap:=s.heap.push (z19 w) }) ⟨rfl,rfl⟩) fun r s1 hr=>?_
 cases r with
 | error e=>exact hr
 | ok fl =>
  cases fl with
  | next=>exact hr.elim
  | brk=>exact hr.elim
  | cont=>exact hr.elim
  | ret obj =>
   obtain ⟨rfl,rfl⟩:=hr
   have gS:(s.heap.push (z19 w)).get? s.heap.objs.size=some (z19 w):=Heap.get?_push_size _ rfl
   have tS:Shared.TypeIs { s with heap:=s.heap.push (z19 w) } (.ref s.heap.objs.size) "set":=⟨_,gS,rfl⟩
   have y1:=F.called_set.init.lookup
   have y2:=F.called_set.init.bind (.ref s.heap.objs.size)
   repeat (any_goals (first | assumption | wp_step))
   refine codeAny_mono (codeAny_call_builtin (R:=wants (fun r s2=>r=.none/\∃ h' tk,s2={ s with heap:=h',toks:=tk }/\SetAt w h' s.heap.objs.size (dedK ((List.range items.size).map key))/\∀ b o,s.heap.get? b=some o->h'.get? b=some o) E) F.called_set.init.plain F.entry_set_init (check_set_init_1 tS ?_)) fun r2 s2 hr2=>?_
   ·have gl:(s.heap.push (z19 w)).get? l=some { cls:=.type T,dict:=odict,data:=.seq items nl,slots:=oslots }:=Heap.get?_push_of_some _ hol
    have hll:l<s.heap.objs.size:=Heap.lt_size hol
    have h3:A.in1.in1.in1.handled=none:=by simp [hh]
    have neI:l≠(s.heap.push (z19 w)).objs.size:=by rw [Heap.size_push];exact Nat.ne_of_lt (Nat.lt_succ_of_lt hll)
    have nf:s.heap.objs.size∉[(s.heap.push (z19 w)).objs.size,l]:=by
     rw [Heap.size_push]
     simp only [List.mem_cons,List.mem_singleton,List.not_mem_nil,or_false,not_or]
     exact ⟨Nat.ne_of_lt (Nat.lt_succ_self _),Nat.ne_of_gt hll⟩
    have start:∀ ob:Obj,SetAt w ((s.heap.push (z19 w)).push ob) s.heap.objs.size (dedK ((List.range 0).map key)):=fun ob=>fresh_at.stay fun o e=>Heap.get?_push_of_some _ e
    have fin:∀ (ob:Obj) s',Moved [s.heap.objs.size,(s.heap.push (z19 w)).objs.size] (fun g g'=>g'=g) { s with heap:=(s.heap.push (z19 w)).push ob } s'->SetAt w s'.heap s.heap.objs.size (dedK ((List.range items.size).map key)) ->
     ∃ h' tk,s'={ s with heap:=h',toks:=tk }/\SetAt w h' s.heap.objs.size (dedK ((List.range items.size).map key))/\∀ b o,s.heap.get? b=some o->h'.get? b=some o:=fun ob s' hm S2=>by
     obtain ⟨h',g',d',tk',os'⟩:=s'
     have e1:g'=s.gens:=hm.gens
     have e2:d'=s.drawn:=hm.drawn
     have e3:os'=s.os:=hm.os
     subst e1;subst e2;subst e3
     refine ⟨h',tk',rfl,S2,fun b o e=>hm.heap b o ?_ (Heap.get?_push_of_some _ (Heap.get?_push_of_some _ e))⟩
     have:=Heap.lt_size e
     rw [Heap.size_push]
     simp only [List.mem_cons,List.mem_singleton,List.not_mem_nil,or_false,not_or]
     exact ⟨Nat.ne_of_lt this,Nat.ne_of_lt (Nat.lt_succ_of_lt this)⟩
    rcases hT with rfl | rfl
    ·have x1:=F.sub_list_set
     have x2:=F.sub_list_frozenset
     have x3:(Value.type "list" == Value.type "dict")=false:=by decide
     have il:(s.heap.push (z19 w)).IsList l items:=⟨_,gl,rfl,nl,rfl⟩
     unfold Builtin.«set.__init__» noKeywords Builtin.Frozenset.updateFrom
     generalize hPI:pyIter=PI
     wp_walk
     subst hPI
     refine wpAny_pyIter_list il (wpAny_bind (wpAny_runValue ?_))
     refine z4Q ((Walks.list h3 _ l neI items).toS) s.heap.objs.size nf key (fun i v e=>hv i v e) hb items.size 0 _ (by omega) ⟨⟨_,Heap.get?_push_size _ rfl,rfl,rfl⟩,il.push _⟩ (start _) fun s' hm S2=>?_
     obtain ⟨h',tk,rfl,q1,q2⟩:=fin _ s' hm S2
     exact wpAny_pure (show wpAny _ _ (ret Value.none) _ _ _ from wpAny_pure ⟨rfl,h',tk,rfl,q1,q2⟩)
    ·have x1:=z6Y
     have x2:=z5n
     have x3:(Value.type "tuple" == Value.type "dict")=false:=by decide
     have il:(s.heap.push (z19 w)).IsTuple l items:=⟨_,gl,rfl,nl,rfl⟩
     unfold Builtin.«set.__init__» noKeywords Builtin.Frozenset.updateFrom
     generalize hPI:pyIter=PI
     wp_walk
     subst hPI
     refine wpAny_pyIter_tuple il (wpAny_bind (wpAny_runValue ?_))
     refine z4Q ((Walks.tuple h3 _ l neI items).toS) s.heap.objs.size nf key (fun i v e=>hv i v e) hb items.size 0 _ (by omega) ⟨⟨_,Heap.get?_push_size _ rfl,rfl,rfl⟩,⟨_,Heap.get?_push_of_some _ gl,rfl,nl,rfl⟩⟩ (start _) fun s' hm S2=>?_
     obtain ⟨h',tk,rfl,q1,q2⟩:=fin _ s' hm S2
     exact wpAny_pure (show wpAny _ _ (ret Value.none) _ _ _ from wpAny_pure ⟨rfl,h',tk,rfl,q1,q2⟩)
   ·cases r2 with
    | error e=>exact hr2
    | ok f2 =>
     cases f2 with
     | next=>exact hr2.elim
     | brk=>exact hr2.elim
     | cont=>exact hr2.elim
     | ret r =>
      obtain ⟨rfl,h',tk,rfl,q1,q2⟩:=hr2
      repeat (any_goals (first | assumption | wp_step))
      exact h _ _ q1 q2
end
end FT
set_option maxHeartbeats 1600000
namespace FT
open PySem PySem.Spec PyProof.Rows L2
theorem z2z {α:Type}:∀ (l:List α) (i:Nat) (h:i<l.length),(l[i] :: l.eraseIdx i).Perm l
 | [],i,h=>by simp at h
 | a :: l,0,h=>.refl _
 | a :: l,i+1,h=>by
  have:=z2z l i (by simpa using h)
  exact (List.Perm.swap a _ _).trans (List.Perm.cons a this)
theorem z4S {α:Type}{l:List α}{i n:Nat}(h:i<l.length) (e:l.length=n+1):(l.eraseIdx i).length=n:=by
 rw [List.length_eraseIdx,if_pos h,e];rfl
theorem z7B {α:Type}(f:Nat->Nat):∀ (n k:Nat) (left:List α) (out:Array α),left.length=n->(pickOrder.go f n k left out).toList.Perm (out.toList++left)
 | 0,k,left,out,h=>by
  have:left=[]:=List.length_eq_zero_iff.mp h
  subst this
  simp [pickOrder.go]
 | n+1,k,left,out,h=>by
  have hl:f k % left.length<left.length:=Nat.mod_lt _ (by omega)
  rw [pickOrder.go,List.getElem?_eq_getElem hl]
  dsimp only
  refine (z7B f n (k+1) _ _ (z4S hl h)).trans ?_
  rw [Array.toList_push,List.append_assoc]
  refine List.Perm.append_left _ ?_
  exact z2z left _ hl
theorem z88 {α:Type}(f:Nat->Nat) (xs:Array α):(pickOrder f xs).toList.Perm xs.toList:=by
 unfold pickOrder
 have:=z7B f xs.size 0 xs.toList #[] (by simp)
 simpa using this
theorem slot_si_next:Slot "set_iterator" "__next__" "set_iterator.__next__" :=
 .of (owner:="set_iterator") (n:="__next__") (by rw [typeLookup_type,builtinLookup_eq_fast];kernel_rfl) (by decide +kernel) (by decide +kernel) (by decide +kernel) (by first | exact .inl (by decide +kernel) | exact .inr (by decide +kernel)) (by rw [isSubtype_type];kernel_rfl)
theorem z2p:entryFor table "set_iterator.__next__" = some Builtin.«set_iterator.__next__»:=entryFor_of_tree (by kernel_rfl)
theorem z65:Manifest.owners.lookup (String.ofList ['r','o','t','a','r','e','t','i','_','t','e','s'].reverse)=some Manifest.sig_set_iterator:=by kernel_rfl
theorem z2N (a:Value):argsOk "set_iterator.__next__" ⟨[a],[]⟩:=by
 unfold argsOk;rw [signature?_of (id:="set_iterator.__next__") (n:=['_','_','t','x','e','n','_','_']) (o:=['r','o','t','a','r','e','t','i','_','t','e','s']) (by kernel_rfl) z65];kernel_rfl
theorem z2M:Slot "set_iterator" "__iter__" "set_iterator.__iter__" :=
 .of (owner:="set_iterator") (n:="__iter__") (by rw [typeLookup_type,builtinLookup_eq_fast];kernel_rfl) (by decide +kernel) (by decide +kernel) (by decide +kernel) (by first | exact .inl (by decide +kernel) | exact .inr (by decide +kernel)) (by rw [isSubtype_type];kernel_rfl)
theorem z4W:entryFor table "set.__iter__" = some Builtin.«frozenset.__iter__» :=
 entryFor_alias (id':="frozenset.__iter__") (by kernel_rfl) rfl (by decide +kernel) (by kernel_rfl)
theorem z5O (a:Value):argsOk "set.__iter__" ⟨[a],[]⟩:=by
 unfold argsOk;rw [signature?_of (id:="set.__iter__") (n:=['_','_','r','e','t','i','_','_']) (o:=['t','e','s']) (by kernel_rfl) F.owner_set];kernel_rfl
section
variable {P:Program}{w:World}{A:Around}{E:Value->Shared->Prop}{s:Shared}
theorem z3x {α:Type}:∀ (n:Nat) (xs:List α) (s:Shared) (Q:List α->Shared->Prop),xs.length=n->(∀ ys d',ys.Perm xs->Q ys { s with drawn:=d' })->wpAny (model P w) A (drawOrder n xs) Q E s
 | 0,xs,s,Q,h,hq=>by
  have:xs=[]:=List.length_eq_zero_iff.mp h
  subst this
  exact wpAny_pure (hq [] s.drawn (.refl _))
 | n+1,xs,s,Q,h,hq=>by
  cases xs with
  | nil=>simp at h
  | cons x xs =>
   rw [drawOrder.eq_3 _ _ (fun z=>by cases z)]
   refine wpAny_bind ?_
   refine fun Γ p _=>⟨by simp,?_⟩
   generalize hi:(model P w).w.draws .order (s.drawn.get .order) % (x :: xs).length=i
   have il:i<(x :: xs).length:=by rw [← hi];exact Nat.mod_lt _ (by simp)
   show wpAny (model P w) A (match (x :: xs)[i]? with | some x_1=>(do return x_1 :: (← drawOrder n ((x :: xs).eraseIdx i))) | none=>unsupported "internal:drawOrder") Q E { s with drawn:=s.drawn.bump .order }
   rw [List.getElem?_eq_getElem il]
   dsimp only
   refine wpAny_bind (z3x n _ _ _ (z4S il h) fun ys d' pm=>wpAny_pure ?_)
   exact hq _ d' ((List.Perm.cons _ pm).trans (z2z _ i il))
end
theorem z4e:entryFor table "set_iterator.__iter__" = some Builtin.«dict_keyiterator.__iter__» :=
 entryFor_alias (id':="dict_keyiterator.__iter__") (by kernel_rfl) rfl (by decide +kernel) (by kernel_rfl)
theorem z4E (a:Value):argsOk "set_iterator.__iter__" ⟨[a],[]⟩:=by
 unfold argsOk;rw [signature?_of (id:="set_iterator.__iter__") (n:=['_','_','r','e','t','i','_','_']) (o:=['r','o','t','a','r','e','t','i','_','t','e','s']) (by kernel_rfl) z65];kernel_rfl
abbrev z5C (first:Value) (i:Nat) (S:Addr) (n ep:Nat):Obj:={ cls:=.type "set_iterator",data:=.fields #[first,rawInt i,.ref S,rawInt n,rawInt ep] }
section
variable (w:World) (S:Addr) (es:Array (Int×Value)) (ep:Nat) (t:SetTable)
inductive Stand (h:Heap) (i:Nat):Value->List (Int×Value)->Prop where
 | txt (b:w.params.followText "set-order" = true):Stand h i (rawInt 0) (pickOrder (w.params.setOrder S ep) es).toList
 | drw (T:Addr) (pl:List Nat) (b:w.params.followText "set-order" = false) (hT:∃ o n,h.get? T=some o/\o.data=.seq (pl.map fun (j:Nat)=>rawInt j).toArray n) (hp:pl.Perm (List.range es.size)):Stand h i (.ref T) (pl.filterMap fun j=>es[j]?)
 | slo (sl:Nat) (b:w.params.followText "set-order" = false) (c:(!t.plain && decide (es.size > 1))=false) (l:t.led=true) (e:SetTable.below t.place sl=i):Stand h i (rawInt sl) es.toList
end
theorem z3E {α:Type}{es:Array α}:∀ {pl:List Nat},(∀ j∈pl,j<es.size)->∀ (i:Nat),(pl.filterMap fun j=>es[j]?)[i]?=(pl[i]?).bind fun j=>es[j]?
 | [],h,i=>by simp
 | a :: pl,h,i=>by
  have hb:=h a List.mem_cons_self
  have ha:es[a]?=some es[a]:=Array.getElem?_eq_getElem hb
  rw [List.filterMap_cons,ha]
  cases i with
  | zero=>simp [ha]
  | succ i=>simpa using z3E (fun j hj=>h j (List.mem_cons_of_mem _ hj)) i
theorem Stand.perm {w:World}{S:Addr}{es:Array (Int×Value)}{ep:Nat}{t:SetTable}{h:Heap}{i:Nat}{f:Value}{ord:List (Int×Value)}(x:Stand w S es ep t h i f ord):ord.Perm es.toList:=by
 cases x with
 | txt b=>exact z88 _ _
 | drw T pl b hT hp =>
  refine (hp.filterMap _).trans ?_
  rw [filterMap_getElem?_range]
 | slo sl b c l e=>exact .refl _
section
variable {P:Program}{w:World}{A:Around}{E:Value->Shared->Prop}{s:Shared}{S I:Addr}{es:Array (Int×Value)}{ep:Nat}{t:SetTable}{i:Nat}{f:Value}{ord:List (Int×Value)}{o:Obj}
theorem z6b {sl:Nat}{Q:Option (Value×Nat)->Shared->Prop}(ho:s.heap.get? S=some o) (hd:o.data=.set es ep t) (hf:t.fits es.size=true) (b:w.params.followText "set-order" = true)
 (h:Q (((pickOrder (w.params.setOrder S ep) es)[i]?).map fun e=>(e.2,sl)) s):wpAny (model P w) A (setNext S sl i ep) Q E s:=by
 unfold setNext setsByText
 refine wpAny_bind (wpAny_setState_of ho hd hf (wpAny_bind (wpAny_bind (wpAny_askSetting (wpAny_pure ?_)))))
 dsimp only
 rw [show (model P w).w.params.followText "set-order" = true from b,if_pos rfl,if_neg (by simp)]
 unfold setWalk setsByText
 refine wpAny_bind (wpAny_bind (wpAny_setState_of ho hd hf (wpAny_bind (wpAny_bind (wpAny_askSetting (wpAny_pure ?_))))))
 dsimp only
 rw [show (model P w).w.params.followText "set-order" = true from b,if_pos rfl]
 refine wpAny_bind (wpAny_askSetting (wpAny_pure (wpAny_pure ?_)))
 exact h
theorem z6G {sl:Nat}{Q:Option (Value×Nat)->Shared->Prop}(ho:s.heap.get? S=some o) (hd:o.data=.set es ep t) (hf:t.fits es.size=true) (b:w.params.followText "set-order" = false)
 (c:(!t.plain && decide (es.size > 1))=false) (l:t.led=true) (h:Q (match es[SetTable.below t.place sl]?,t.place[SetTable.below t.place sl]? with | some (_,x),some j=>some (x,j+1) | _,_=>none) s):wpAny (model P w) A (setNext S sl i ep) Q E s:=by
 unfold setNext setsByText
 refine wpAny_bind (wpAny_setState_of ho hd hf (wpAny_bind (wpAny_bind (wpAny_askSetting (wpAny_pure ?_)))))
 dsimp only
 rw [show (model P w).w.params.followText "set-order" = false from b,if_neg (by decide)]
 rw [if_neg (by show ¬ ((!t.plain && decide (es.size > 1))=true);rw [c];decide)]
 refine wpAny_bind ?_
 show wpAny _ _ (if (!t.led && !es.isEmpty)=true then _ else _) _ _ _
 rw [if_neg (by rw [l];simp)]
 exact wpAny_pure (wpAny_pure h)
theorem zl9 {e:Int×Value}{Q:Option Value->Shared->Prop}(ho:s.heap.get? S=some o) (hd:o.data=.set es ep t) (hf:t.fits es.size=true) (hr:Rise t.place) (hI:s.heap.get? I=some (z5C f i S es.size ep)) (st:Stand w S es ep t s.heap i f ord) (he:ord[i]?=some e) (hSI:S≠I)
 (hQ:∀ h' f',Heap.SameBut I s.heap h'->h'.get? I=some (z5C f' (i+1) S es.size ep)->Stand w S es ep t h' (i+1) f' ord->(∀ T,f'=.ref T->f=.ref T)->Q (some e.2) { s with heap:=h' }):wpAny (model P w) A (pyNext (.ref I)) Q E s:=by
 have hT:s.TypeIs (.ref I) "set_iterator":=⟨_,hI,rfl⟩
 unfold pyNext
 refine wpAny_bind (wpAny_attempt (wpAny_callSpecial?_slot (name:=Str.ofString "__next__") hT slot_si_next (wpAny_call_entry slot_si_next hT z2p ?_ (z2N _))))
 show wpAny _ _ (fieldsOf (.ref I) >>= _) _ _ s
 refine wpAny_bind (wpAny_fieldsOf hI rfl ?_)
 show wpAny _ _ (setEntries S >>= _) _ _ s
 refine wpAny_bind (wpAny_setEntries_of ho hd hf ?_)
 rw [if_neg (by simp)]
 have upd:∀ (h0:Heap) (vs:Array Value) (j:Nat) (v:Value),h0.get? I=some { cls:=.type "set_iterator",data:=.fields vs }->(h0.update I (Obj.mapFields (·.setIfInBounds j v))).get? I=some { cls:=.type "set_iterator",data:=.fields (vs.setIfInBounds j v) }:=fun h0 vs j v e=>by
  have:=Heap.get?_update_self (Obj.mapFields (·.setIfInBounds j v)) e (Obj.isFreed_of_fields (Obj.data_mapFields rfl _))
  exact this
 have fin:∀ (f':Value) (j:Nat) (R:PySem.Fin->Shared->Prop) (R2:Value->Shared->Prop),(∀ h',Heap.SameBut I s.heap h'->h'.get? I=some (z5C f' (i+1) S es.size ep)->R (.done (.ret e.2)) { s with heap:=h' }) ->
  wpAny (model P w) A.in1 (setField (.ref I) 0 f' >>= fun _=>setField (.ref I) 1 (rawInt ((i:Int)+1)) >>= fun _=>ret e.2) R R2 s:=fun f' j R R2 q=>by
  have u1:=upd s.heap _ 0 f' hI
  refine wpAny_bind (wpAny_setField hI rfl (by simp) (wpAny_bind (wpAny_setField u1 rfl (by simp) (wpAny_pure (q _ ((Heap.SameBut.update ..).trans (Heap.SameBut.update ..)) ?_)))))
  rw [upd _ _ 1 _ u1]
  simp [rawInt]
 cases st with
 | txt b =>
  show wpAny _ _ (setNext S (0:Int).toNat (i:Int).toNat (ep:Int).toNat >>= _) _ _ _
  rw [Int.toNat_natCast,Int.toNat_natCast]
  refine wpAny_bind (z6b ho hd hf b ?_)
  rw [← Array.getElem?_toList,he]
  exact fin (rawInt 0) 0 _ _ fun h' sb q=>⟨_,rfl,wpAny_pure (hQ h' _ sb q (.txt b) fun T z=>by cases z)⟩
 | slo sl b c l e2 =>
  have hi:i<es.size:=by simpa using (List.getElem?_eq_some_iff.mp he).1
  have he2:es[i]?=some e:=by rw [← Array.getElem?_toList];exact he
  have sz:t.place.size=es.size:=by
   unfold SetTable.fits at hf
   simp at hf
   exact hf.1
  have hp:t.place[i]?=some (t.place[i]'(by omega)):=Array.getElem?_eq_getElem (by omega)
  show wpAny _ _ (setNext S (sl:Int).toNat (i:Int).toNat (ep:Int).toNat >>= _) _ _ _
  rw [Int.toNat_natCast,Int.toNat_natCast,Int.toNat_natCast]
  refine wpAny_bind (z6G ho hd hf b c l ?_)
  rw [e2,he2,hp]
  refine fin (rawInt ((t.place[i]'(by omega)+1:Nat):Int)) 0 _ _ fun h' sb q=>⟨_,rfl,wpAny_pure (hQ h' _ sb q (.slo _ b c l (z7a hr hp)) fun T z=>by cases z)⟩
 | drw T pl b hT hp =>
  obtain ⟨oT,nT,gT,dT⟩:=hT
  have hb:∀ j∈pl,j<es.size:=fun j hj=>by simpa using hp.mem_iff.mp hj
  rw [z3E hb] at he
  cases hpi:pl[i]? with
  | none=>rw [hpi] at he;cases he
  | some j =>
   rw [hpi] at he
   have hej:es[j]?=some e:=he
   have hTI:T≠I:=fun z=>by
    subst z
    rw [hI] at gT
    cases gT
    cases dT
   show wpAny _ _ (seqItems? (.ref T) >>= _) _ _ _
   refine wpAny_bind (wpAny_seqItems gT dT ?_)
   dsimp only
   rw [Int.toNat_natCast,show ((pl.map fun (j:Nat)=>rawInt j).toArray)[i]?=some (rawInt j) by simp [hpi]]
   show wpAny _ _ (setNextDrawn S (j:Int).toNat (ep:Int).toNat >>= _) _ _ _
   rw [Int.toNat_natCast,Int.toNat_natCast]
   unfold setNextDrawn
   refine wpAny_bind (wpAny_bind (wpAny_setState_of ho hd hf ?_))
   dsimp only
   rw [if_neg (by simp),hej]
   refine wpAny_pure ?_
   have u1:=upd s.heap _ 1 (rawInt ((i:Int)+1)) hI
   refine wpAny_bind (wpAny_setField hI rfl (by simp) (wpAny_pure ⟨_,rfl,wpAny_pure (hQ _ (.ref T) (Heap.SameBut.update ..) ?_ (.drw T pl b ⟨oT,nT,?_,dT⟩ hp) fun _ z=>z)⟩))
   ·rw [u1];simp [rawInt]
   ·rw [Heap.get?_update_other _ _ (Ne.symm hTI)];exact gT
theorem zl8 {Q:Option Value->Shared->Prop}(hh:A.handled=none) (ho:s.heap.get? S=some o) (hd:o.data=.set es ep t) (hf:t.fits es.size=true) (hI:s.heap.get? I=some (z5C f es.size S es.size ep)) (st:Stand w S es ep t s.heap es.size f ord)
 (hQ:∀ h',Heap.ExtBut I s.heap h'->Q none { s with heap:=h' }):wpAny (model P w) A (pyNext (.ref I)) Q E s:=by
 have hT:s.TypeIs (.ref I) "set_iterator":=⟨_,hI,rfl⟩
 have hl:ord.length=es.size:=by rw [st.perm.length_eq,Array.length_toList]
 unfold pyNext
 refine wpAny_bind (wpAny_attempt (wpAny_callSpecial?_slot (name:=Str.ofString "__next__") hT slot_si_next (wpAny_call_entry slot_si_next hT z2p ?_ (z2N _))))
 show wpAny _ _ (fieldsOf (.ref I) >>= _) _ _ s
 refine wpAny_bind (wpAny_fieldsOf hI rfl ?_)
 show wpAny _ _ (setEntries S >>= _) _ _ s
 refine wpAny_bind (wpAny_setEntries_of ho hd hf ?_)
 rw [if_neg (by simp)]
 have stop:∀ (h1:Heap) (Z:PySem.Fin->Shared->Prop),Heap.ExtBut I s.heap h1->wpAny (model P w) A.in1 (newExc (.type "StopIteration") [] >>= fun x=>(raiseNew x:Sem PySem.Fin)) Z (fun e s'=>wpAny (model P w) A (do let __do_lift ← isInstance e (Value.type "StopIteration");if __do_lift=true then pure none else throw e) Q E s') { s with heap:=h1 }:=fun h1 Z eb=>by
  refine wpAny_bind ?_
  simp only [newExc,newTuple]
  refine wpAny_bind (wpAny_newObj_type ?_ (by size_fits))
  refine wpAny_bind (m:=firstArgMember _ _) (wpAny_of_eq (a:=Value.none) (by first | rfl | (simp only [firstArgMember];rfl)) ?_)
  refine wpAny_newObj_type ?_ (by size_fits)
  simp only [raiseNew]
  refine wpAny_bind (wpAny_handled ?_)
  rw [show A.in1.handled=none by simp [hh]]
  refine wpAny_bind (wpAny_pure (wpAny_throw ?_))
  refine wpAny_bind (wpAny_isInstance (T:="StopIteration") (b:=true) ⟨_,Heap.get?_push_size _ rfl,rfl⟩ isSubtype_stop ?_)
  exact wpAny_pure (hQ _ ((eb.push _).push _))
 cases st with
 | txt b =>
  show wpAny _ _ (setNext S (0:Int).toNat (es.size:Int).toNat (ep:Int).toNat >>= _) _ _ _
  rw [Int.toNat_natCast,Int.toNat_natCast]
  refine wpAny_bind (z6b ho hd hf b ?_)
  rw [← Array.getElem?_toList,List.getElem?_eq_none (by omega)]
  exact wpAny_bind (wpAny_setField hI rfl (by simp) (stop _ _ (Heap.SameBut.update ..).extBut))
 | slo sl b c l e2 =>
  show wpAny _ _ (setNext S (sl:Int).toNat (es.size:Int).toNat (ep:Int).toNat >>= _) _ _ _
  rw [Int.toNat_natCast,Int.toNat_natCast,Int.toNat_natCast]
  refine wpAny_bind (z6G ho hd hf b c l ?_)
  rw [e2,Array.getElem?_eq_none (Nat.le_refl _)]
  exact wpAny_bind (wpAny_setField hI rfl (by simp) (stop _ _ (Heap.SameBut.update ..).extBut))
 | drw T pl b hT hp =>
  obtain ⟨oT,nT,gT,dT⟩:=hT
  have lp:pl.length=es.size:=by rw [hp.length_eq,List.length_range]
  show wpAny _ _ (seqItems? (.ref T) >>= _) _ _ _
  refine wpAny_bind (wpAny_seqItems gT dT ?_)
  dsimp only
  rw [Int.toNat_natCast,show ((pl.map fun (j:Nat)=>rawInt j).toArray)[es.size]?=none by simp [lp]]
  have u1:(s.heap.update I (Obj.mapFields (·.setIfInBounds 0 (rawInt 0)))).get? I=some { cls:=.type "set_iterator",data:=.fields (#[.ref T,rawInt es.size,.ref S,rawInt es.size,rawInt ep].setIfInBounds 0 (rawInt 0)) } :=
   Heap.get?_update_self _ hI (Obj.isFreed_of_fields (Obj.data_mapFields rfl _))
  exact wpAny_bind (wpAny_setField hI rfl (by simp) (wpAny_bind (wpAny_setField u1 rfl (by simp) (stop _ _ ((Heap.SameBut.update ..).trans (Heap.SameBut.update ..)).extBut))))
end
theorem z9y {P:Program}{w:World}{A:Around}{S I:Addr}{es:Array (Int×Value)}{ep:Nat}{t:SetTable}{ord:List (Int×Value)}{o:Obj}{tl:List Addr}(hh:A.handled=none) (hd:o.data=.set es ep t) (hf:t.fits es.size=true) (hr:Rise t.place) (hSI:S≠I) (hl:ord.length=es.size) (htl:I∉tl) :
 Walks P w A I (I :: S :: tl) [I] es.size (fun i v=>∃ e,ord[i]?=some e/\v=e.2) (fun i h=>h.get? S=some o/\∃ f,(∀ T,f=.ref T->T∈tl)/\h.get? I=some (z5C f i S es.size ep)/\Stand w S es ep t h i f ord) where
 sub:=fun b hb=>by simp at hb;simp [hb]
 frame:=fun i h h' st hk=>by
  obtain ⟨q1,f,q2,q3,q4⟩:=st
  refine ⟨hk S (by simp) _ q1,f,q2,hk I (by simp) _ q3,?_⟩
  cases q4 with
  | txt b=>exact .txt b
  | slo sl b c l e2=>exact .slo sl b c l e2
  | drw T pl b hT hp =>
   obtain ⟨oT,nT,gT,dT⟩:=hT
   exact .drw T pl b ⟨oT,nT,hk T (by simp [q2 T rfl]) _ gT,dT⟩ hp
 item:=fun i s Q E hi st hQ=>by
  obtain ⟨q1,f,q2,q3,q4⟩:=st
  have he:ord[i]?=some (ord[i]'(by omega)):=List.getElem?_eq_getElem (by omega)
  refine zl9 q1 hd hf hr q3 q4 he hSI fun h' f' sb g st' tt=>?_
  refine hQ _ h' s.toks ⟨_,he,rfl⟩ ⟨?_,f',fun T z=>q2 T (tt T z),g,st'⟩ fun b ob hb e=>?_
  ·rw [sb.2 S hSI];exact q1
  ·rw [sb.2 b (fun z=>hb (by simp [z]))];exact e
 done:=fun s Q E st hQ=>by
  obtain ⟨q1,f,q2,q3,q4⟩:=st
  exact zl8 hh q1 hd hf q3 q4 fun h' eb=>hQ h' s.toks fun b ob hb e=>eb b ob (fun z=>hb (by simp [z])) e
 self:=fun i s Q E st hQ=>by
  obtain ⟨q1,f,q2,q3,q4⟩:=st
  have hT:s.TypeIs (.ref I) "set_iterator":=⟨_,q3,rfl⟩
  refine wpAny_pyIter_slot hT z2M (wpAny_call_entry z2M hT z4e ?_ (z4E _))
  show wpAny _ _ (ret (.ref I)) _ _ s
  exact wpAny_pure ⟨_,rfl,"set_iterator",_,hT,slot_si_next.lookup,hQ⟩
section
variable {P:Program}{w:World}{A:Around}{E:Value->Shared->Prop}{s:Shared}{S:Addr}{es:Array (Int×Value)}{ep:Nat}{t:SetTable}{o:Obj}
theorem zb6 {Q:Value->Shared->Prop}(ho:s.heap.get? S=some o) (hc:o.ExactSet) (hd:o.data=.set es ep t) (hf:t.fits es.size=true) (hr:Rise t.place) (hb:es.size<scanBound) (hl:t.led=true∨w.params.followText "set-order" = true)
 (hQ:∀ (h':Heap) (d':Drawn) (I:Addr) (f:Value) (ord:List (Int×Value)) (tl:List Addr),(∀ b ob,s.heap.get? b=some ob->h'.get? b=some ob)->s.heap.objs.size≤I->h'.get? I=some (z5C f 0 S es.size ep)->(∀ T,f=.ref T->T∈tl)->(∀ T∈tl,s.heap.objs.size≤T/\T<h'.objs.size/\T≠I)->Stand w S es ep t h' 0 f ord->Q (.ref I) { s with heap:=h',drawn:=d' }) :
 wpAny (model P w) A (pyIter (.ref S)) Q E s:=by
 have hT:s.TypeIs (.ref S) "set":=⟨o,ho,hc.1⟩
 refine wpAny_pyIter_slot hT F.slot_set_iter (wpAny_call_entry F.slot_set_iter hT z4W ?_ (z5O _))
 unfold Builtin.«frozenset.__iter__» Builtin.Frozenset.slot0 slotArgs
 simp only [List.isEmpty_nil,Bool.not_true,Bool.false_eq_true,↓reduceIte,bind_assoc,List.length_nil,bne_self_eq_false]
 unfold Builtin.Frozenset.addrOf Builtin.Frozenset.sizeOf
 refine wpAny_bind (wpAny_pure ?_)
 try dsimp only
 refine wpAny_bind (wpAny_pure ?_)
 refine wpAny_bind (wpAny_bind (wpAny_setEntries_of ho hd hf (wpAny_pure ?_)))
 unfold setDrawn setsByText
 refine wpAny_bind (wpAny_bind (wpAny_setState_of ho hd hf (wpAny_bind (wpAny_bind (wpAny_askSetting (wpAny_pure (wpAny_pure ?_)))))))
 dsimp only
 have tailW:∀ (h0:Heap) (d0:Drawn) (first:Value) (ord:List (Int×Value)) (tl:List Addr),(∀ b ob,s.heap.get? b=some ob->h0.get? b=some ob)->s.heap.objs.size≤h0.objs.size->(∀ T,first=.ref T->T∈tl)->(∀ T∈tl,s.heap.objs.size≤T/\T<h0.objs.size) ->
  (∀ h',(∀ b ob,h0.get? b=some ob->h'.get? b=some ob)->Stand w S es ep t h' 0 first ord) ->
  wpAny (model P w) A.in1 (setEpoch S >>= fun e=>newFields "set_iterator" [first,rawInt 0,.ref S,rawInt es.size,rawInt e] >>= fun v=>ret v) (fun fin s'=>∃ v,fin=.done (.ret v)/\∃ T' r,s'.TypeIs v T'/\typeLookup (Value.type T') (Str.ofString "__next__")=pure (some r)/\Q v s') E { s with heap:=h0,drawn:=d0 }:=fun h0 d0 first ord tl k1 k2 k3 k4 k5=>by
  refine wpAny_bind (wpAny_setEpoch_of (s:={ s with heap:=h0,drawn:=d0 }) (k1 S o ho) hd hf ?_)
  refine wpAny_bind (wpAny_newObj_type (wpAny_pure ⟨_,rfl,"set_iterator",_,⟨_,Heap.get?_push_size _ rfl,rfl⟩,slot_si_next.lookup,?_⟩))
  refine hQ _ d0 h0.objs.size first ord tl (fun b ob e=>Heap.get?_push_of_some _ (k1 b ob e)) k2 (Heap.get?_push_size _ rfl) k3 (fun T hT=>?_) (k5 _ fun b ob e=>Heap.get?_push_of_some _ e)
  obtain ⟨z1,z2⟩:=k4 T hT
  exact ⟨z1,by rw [Heap.size_push];exact Nat.lt_succ_of_lt z2,Nat.ne_of_lt z2⟩
 cases hb':w.params.followText "set-order" with
 | true =>
  rw [show (model P w).w.params.followText "set-order" = true from hb',if_neg (by simp)]
  refine wpAny_bind (wpAny_pure ?_)
  exact tailW s.heap s.drawn (rawInt 0) _ [] (fun _ _ e=>e) (Nat.le_refl _) (fun T z=>by cases z) (fun T z=>by cases z) fun h' _=>.txt hb'
 | false =>
  rw [show (model P w).w.params.followText "set-order" = false from hb']
  have led:t.led=true:=by
   rcases hl with hl | hl
   ·exact hl
   ·rw [hb'] at hl;cases hl
  show wpAny _ _ (if (!false && (!t.plain && decide (es.size > 1)))=true then _ else _) _ _ _
  rw [Bool.not_false,Bool.true_and]
  cases hdr:(!t.plain && decide (es.size > 1)) with
  | false =>
   rw [if_neg (by decide)]
   refine wpAny_bind (wpAny_pure ?_)
   exact tailW s.heap s.drawn (rawInt 0) _ [] (fun _ _ e=>e) (Nat.le_refl _) (fun T z=>by cases z) (fun T z=>by cases z) fun h' _=>.slo 0 hb' hdr led (z6X hr)
  | true =>
   rw [if_pos rfl]
   refine wpAny_bind (z3x es.size (List.range es.size) s _ (by simp) fun ys d' pm=>?_)
   have ly:(ys.map fun (i:Nat)=>rawInt i).length≤sizeLine:=by
    rw [List.length_map,pm.length_eq,List.length_range]
    exact fits_of_scanBound hb
   refine wpAny_bind (wpAny_newTuple ?_ ly)
   refine tailW (s.heap.push { cls:=.type "tuple",data:=.seq (ys.map fun (i:Nat)=>rawInt i).toArray }) d' (.ref s.heap.objs.size) _ [s.heap.objs.size] (fun b ob e=>Heap.get?_push_of_some _ e) (by rw [Heap.size_push];exact Nat.le_succ _)
    (fun T z=>by cases z;exact List.mem_singleton.mpr rfl) (fun T z=>?_) fun h' k=>.drw s.heap.objs.size ys hb' ⟨_,_,k _ _ (Heap.get?_push_size _ rfl),rfl⟩ pm
   have:=List.mem_singleton.mp z
   subst this
   exact ⟨Nat.le_refl _,by rw [Heap.size_push];exact Nat.lt_succ_self _⟩
theorem z5k {Q:List Value->Shared->Prop}(hh:A.handled=none) (ho:s.heap.get? S=some o) (hc:o.ExactSet) (hd:o.data=.set es ep t) (hf:t.fits es.size=true) (hr:Rise t.place) (hb:es.size<scanBound) (hl:t.led=true∨w.params.followText "set-order" = true)
 (hQ:∀ (h':Heap) (d':Drawn) (tk:Nat) (ord:List (Int×Value)),(∀ b ob,s.heap.get? b=some ob->h'.get? b=some ob)->s.heap.objs.size≤h'.objs.size->ord.Perm es.toList->Q (ord.map (·.2)) { s with heap:=h',drawn:=d',toks:=tk }) :
 wpAny (model P w) A (collect (.ref S)) Q E s:=by
 have hS:S<s.heap.objs.size:=Heap.lt_size ho
 unfold collect
 refine wpAny_bind (wpAny_runValue (codeAny_builtin F.entry_proto_collect ?_))
 rw [Around.under_plainId F.plain_proto_collect _]
 show wpAny _ A.in1 (newList [] >>= fun l=>again (.builtin "list.__iadd__" ⟨[l,.ref S],[]⟩)) _ _ s
 refine wpAny_bind (wpAny_newObj_type (wpAny_pure ⟨plainId_quiet F.plain_list_iadd _,codeAny_builtin F.entry_list_iadd ?_⟩))
 rw [Around.under_plainId F.plain_list_iadd _]
 show wpAny _ A.in1 (Builtin.List.listExtendWith (.ref s.heap.objs.size) (.ref S) (.ref s.heap.objs.size)) _ _ _
 unfold Builtin.List.listExtendWith
 have g1:(s.heap.push { cls:=.type "list",data:=.seq ([]:List Value).toArray }).get? S=some o:=Heap.get?_push_of_some _ ho
 have tS:Shared.TypeIs { s with heap:=s.heap.push { cls:=.type "list",data:=.seq ([]:List Value).toArray } } (.ref S) "set":=⟨o,g1,hc.1⟩
 refine wpAny_bind (wpAny_typeOf tS ?_)
 have n1:Builtin.List.listSameRef (.ref s.heap.objs.size) (.ref S)=false:=by
  simp only [Builtin.List.listSameRef]
  exact beq_eq_false_iff_ne.mpr (Nat.ne_of_gt hS)
 rw [if_neg (by rw [n1];decide)]
 refine wpAny_bind (zb6 (s:={ s with heap:=s.heap.push { cls:=.type "list",data:=.seq ([]:List Value).toArray } }) g1 hc hd hf hr hb hl fun h1 d1 I f ord tl k1 k2 k3 k4 k5 st=>?_)
 have g2:h1.get? S=some o:=k1 S o g1
 have gL:h1.get? s.heap.objs.size=some { cls:=.type "list",data:=.seq ([]:List Value).toArray }:=k1 _ _ (Heap.get?_push_size _ rfl)
 have tS2:Shared.TypeIs { s with heap:=h1,drawn:=d1 } (.ref S) "set":=⟨o,g2,hc.1⟩
 refine wpAny_bind (wpAny_holding ?_)
 unfold Builtin.List.listLengthHint
 refine wpAny_bind (wpAny_specialOf tS2 F.slot_set_len.lookup ?_)
 have sp:splitId "set.__len__" = some ("set","__len__"):=by decide +kernel
 dsimp only
 rw [sp]
 dsimp only
 refine wpAny_bind (wpAny_isInstance (b:=true) tS2 (by rw [isSubtype_type];kernel_rfl) ?_)
 rw [if_neg (by decide),if_pos (by decide +kernel)]
 refine wpAny_bind (wpAny_typeOf tS2 (wpAny_pure ?_))
 rw [if_pos (by decide +kernel)]
 have u1:=get?_update_seq (c:="list") (xs:=([]:List Value).toArray) (n:=0) gL (·.push .none)
 have u2:=get?_update_seq u1 (·.pop)
 refine wpAny_bind (wpAny_rule ?_)
 unfold Builtin.List.listTouch
 refine wpAny_bind (wpAny_bind (listUpdate_at (s:={ s with heap:=h1,drawn:=d1 }) gL rfl (listUpdate_at (s:={ s with heap:=h1.update s.heap.objs.size (Obj.mapSeq (·.push .none)),drawn:=d1 }) u1 rfl ?_)))
 generalize hh2:(h1.update s.heap.objs.size (Obj.mapSeq (·.push .none))).update s.heap.objs.size (Obj.mapSeq (·.pop))=h2 at u2 ⊢
 have keep2:∀ b ob,b≠s.heap.objs.size->h1.get? b=some ob->h2.get? b=some ob:=fun b ob hb e=>by
  rw [← hh2,Heap.get?_update_other _ _ (Ne.symm hb),Heap.get?_update_other _ _ (Ne.symm hb)]
  exact e
 have hIs:s.heap.objs.size+1≤I:=by rw [Heap.size_push] at k2;exact k2
 have hSI:S≠I:=Nat.ne_of_lt (Nat.lt_of_lt_of_le hS (Nat.le_of_succ_le hIs))
 have lo:ord.length=es.size:=by rw [st.perm.length_eq,Array.length_toList]
 have W:=z9y (P:=P) (w:=w) (A:=A.in1) (S:=S) (I:=I) (ord:=ord) (o:=o) (tl:=tl) (by simp [hh]) hd hf hr hSI lo (fun z=>(k5 I z).2.2 rfl)
 have hLf:s.heap.objs.size∉I :: S :: tl:=by
  simp only [List.mem_cons,not_or]
  refine ⟨Nat.ne_of_lt hIs,Nat.ne_of_gt hS,fun z=>?_⟩
  have:=(k5 _ z).1
  rw [Heap.size_push] at this
  exact Nat.lt_irrefl _ this
 have st0:(fun i (h:Heap)=>h.get? S=some o/\∃ f,(∀ T,f=.ref T->T∈tl)/\h.get? I=some (z5C f i S es.size ep)/\Stand w S es ep t h i f ord) 0 h2:=by
  refine ⟨keep2 S o (Nat.ne_of_lt hS) g2,f,k4,keep2 I _ (Nat.ne_of_gt hIs) k3,?_⟩
  cases st with
  | txt b=>exact .txt b
  | slo sl b c l e2=>exact .slo sl b c l e2
  | drw T pl b hT hp =>
   obtain ⟨oT,nT,gT,dT⟩:=hT
   refine .drw T pl b ⟨oT,nT,keep2 T oT (fun z=>?_) gT,dT⟩ hp
   have:=(k5 T (k4 T rfl)).1
   rw [Heap.size_push,z] at this
   exact Nat.lt_irrefl _ this
 refine wpAny_pure ⟨plainId_quiet F.plain_extend_loop _,codeAny_extend_loopS W.toS (fits_of_scanBound hb) s.heap.objs.size hLf _ es.size 0 { s with heap:=h2,drawn:=d1 } #[] 2 (by omega) (Nat.zero_le _) st0 (by simpa [seqObj] using u2) (ItemsOf.nil _) fun s' acc c' hm gS' hacc=>?_⟩
 show wpAny _ A (load s.heap.objs.size >>= _) _ _ s'
 refine wpAny_bind (wpAny_load gS' (wpAny_pure ?_))
 have ea:acc.toList=ord.map (·.2):=by
  refine List.ext_getElem? fun j=>?_
  rw [List.getElem?_map,Array.getElem?_toList]
  cases hj:acc[j]? with
  | none =>
   have h1:=Array.getElem?_eq_none_iff.mp hj
   rw [hacc.1] at h1
   rw [List.getElem?_eq_none (by omega)]
   rfl
  | some v =>
   obtain ⟨e,h1,h2⟩:=hacc.2 j v hj
   rw [h1,h2]
   rfl
 rw [ea]
 obtain ⟨h',g',d',tk',os'⟩:=s'
 have e1:g'=s.gens:=hm.gens
 have e2:d'=d1:=hm.drawn
 have e3:os'=s.os:=hm.os
 subst e1;subst e2;subst e3
 refine hQ h' d' tk' ord (fun b ob e=>?_) ?_ st.perm
 ·have hb2:b≠s.heap.objs.size:=Nat.ne_of_lt (Heap.lt_size e)
  refine hm.heap b ob ?_ (keep2 b ob hb2 (k1 b ob (Heap.get?_push_of_some _ e)))
  simp only [List.mem_cons,List.mem_singleton,List.not_mem_nil,or_false,not_or]
  exact ⟨hb2,Nat.ne_of_lt (Nat.lt_of_lt_of_le (Heap.lt_size e) (Nat.le_of_succ_le hIs))⟩
 ·exact Nat.le_of_lt (Heap.lt_size gS')
end
theorem zh1 {k:Key}{u:Value}(r:RelV (kV k) u):z1N k u=true:=by
 cases k with
 | inl i=>obtain ⟨t,rfl⟩:=r;exact z58 i t
 | inr x=>obtain ⟨t,rfl⟩:=r;exact z4A x t
theorem z4B:∀ {ks:List Key}{us:List Value},Vals (ks.map kV) us->∀ (i:Nat) u,us[i]?=some u->∃ k,ks[i]?=some k/\z1N k u=true
 | [],_,h,i,u,e=>by cases h;simp at e
 | k :: ks,_,.cons h1 h2,0,u,e=>by simp at e;subst e;exact ⟨k,rfl,zh1 h1⟩
 | k :: ks,_,.cons h1 h2,i+1,u,e=>by
  obtain ⟨k',q1,q2⟩:=z4B h2 i u (by simpa using e)
  exact ⟨k',by simpa using q1,q2⟩
theorem z71 (ks:List Key):(List.range ks.length).map (fun i=>(ks[i]?).getD (.inl 0))=ks:=by
 refine List.ext_getElem? fun i=>?_
 rw [List.getElem?_map]
 by_cases h:i<ks.length
 ·rw [List.getElem?_range h,List.getElem?_eq_getElem h]
  simp [List.getElem?_eq_getElem h]
 ·rw [List.getElem?_eq_none (by simpa using h),List.getElem?_eq_none (by omega)]
  rfl
section
variable {X:Cx}
theorem z8D (hc:X.calm=true):z1Q X (.type "set") (fun xs H Q=>∃ l ks,xs=[.ref l]/\(SqL X.K H l (ks.map kV)∨SqT X.K H l (ks.map kV))/\ks.length+1<scanBound/\∀ q,H q=none->Q (.ref q) (upd H q (.set (dedK ks)))):=by
 intro pins s σ H xs us Q I r h
 obtain ⟨l,ks,rfl,hq,hb,q⟩:=h
 obtain ⟨u,rfl,ru⟩:=vals1 r
 cases ru
 have hh:=I.ok.hd hc
 have go:∀ {its:List Value} {T:String},T = "list"∨T = "tuple"->Vals (ks.map kV) its->(∃ o,s.heap.get? l=some o/\o.cls=.type T/\∃ n,o.data=.seq its.toArray n)->wpAny (model X.prog X.w) X.A (call (.type "set") [.ref l]) (EP X pins σ Q) X.xe s:=fun {its T} hT rv hl=>by
  have le:its.length=ks.length:=by rw [← rv.length,List.length_map]
  refine z9i (key:=fun i=>(ks[i]?).getD (.inl 0)) hT hh hl (fun i v e=>?_) (by rw [List.size_toArray,le];exact hb) fun h' tk S2 kp=>?_
  ·obtain ⟨k,e1,e2⟩:=z4B rv i v (by simpa using e)
   rw [e1]
   exact e2
  ·rw [show its.toArray.size=ks.length by rw [List.size_toArray,le],z71] at S2
   exact ⟨.ref s.heap.objs.size,_,I.laid (t':=tk) (o:=.set (dedK ks)) kp (Nat.le_refl _) S2,rfl,q _ I.fresh⟩
 rcases hq with hq | hq
 ·obtain ⟨its,r',pl,hz⟩:=I.list hq
  exact go (.inl rfl) r' pl.isList
 ·obtain ⟨its,r',pl,hz⟩:=I.tuple hq
  exact go (.inr rfl) r' pl
theorem zl0 {pins:List (Addr×Obj)}{σ:L2.St}{H:Hp}{s:Shared}{a:Addr}{ks:List Key}(I:L2.Inv X pins σ H s) (h:H a=some (.set ks)):SetAt X.w s.heap a ks:=I.hok a _ h
theorem z9j:∀ {ns:List Int}{l:List (Int×Value)}{w:World}{ks:List Key},ks=ns.map Sum.inl->Paired (KE w) ks l->IntsAre (l.map (·.2)) ns
 | [],l,w,ks,e,h=>by subst e;cases h;exact .nil
 | n :: ns,l,w,ks,e,h=>by
  subst e
  cases h with
  | cons h1 h2 =>
   rcases y6 h1.1 with ⟨i,t,e1,e2⟩ | ⟨x,t,e1,e2⟩
   ·cases e1
    rw [List.map_cons,e2]
    exact .cons _ t (z9j rfl h2)
   ·cases e1
theorem z9Y {ns:List Int}:∀ {ks:List Key},ks.Perm (ns.map Sum.inl)->∃ ms:List Int,ks=ms.map Sum.inl/\ms.Perm ns:=fun {ks} p=>by
 have:∀ k∈ks,∃ i:Int,k=Sum.inl i:=fun k hk=>by
  obtain ⟨i,_,e⟩:=List.mem_map.mp (p.mem_iff.mp hk)
  exact ⟨i,e.symm⟩
 have e:ks=(ks.filterMap fun k=>match k with | .inl i=>some i | .inr _=>none).map Sum.inl:=by
  clear p
  induction ks with
  | nil=>rfl
  | cons k ks ih =>
   obtain ⟨i,rfl⟩:=this k List.mem_cons_self
   rw [List.filterMap_cons]
   dsimp only
   rw [List.map_cons,← ih fun k hk=>this k (List.mem_cons_of_mem _ hk)]
 refine ⟨_,e,?_⟩
 have q:=p.filterMap fun k=>match k with | .inl i=>some i | .inr _=>none
 refine q.trans ?_
 rw [List.filterMap_map]
 have:(List.filterMap ((fun k:Key=>match k with | .inl i=>some i | .inr _=>none) ∘ Sum.inl) ns)=ns:=by
  induction ns with
  | nil=>rfl
  | cons n ns ih=>simp [Function.comp_def]
 rw [this]
theorem z4D (hc:X.calm=true):z1Q X (.builtin "sorted") (fun xs H Q=>∃ a ns,xs=[.ref a]/\H a=some (.set (ns.map Sum.inl))/\ns.length<64/\∀ q,H q=none->Q (.ref q) (upd H q (.lst ((sortI ns).map V.int)))):=by
 intro pins s σ H xs us Q I r h
 obtain ⟨a,ns,rfl,hH,h64,q⟩:=h
 obtain ⟨u,rfl,ru⟩:=vals1 r
 cases ru
 obtain ⟨o,es,ep,t,ks',h1,h2,h3,h4,h5,h6,h7,h8,h9,h0⟩:=zl0 I hH
 refine Calls.call_function_entry kind_sorted plain_sorted entry_sorted (args_sorted1 _) ?_
 unfold Builtin.«sorted»
 refine wpAny_bind (m:=checkCount "sorted" 1 1 _) (wpAny_pure ?_)
 refine wpAny_bind (z5k (by simp [I.ok.hd hc]) h1 h2 h3 h8 h9 h7 h0 fun h' d' tk ord kp sz pm=>?_)
 obtain ⟨k2,p1,p2⟩:=z26 pm h4
 obtain ⟨ms,rfl,pm2⟩:=z9Y (p1.trans h5)
 have ia:=z9j rfl p2
 have l1:(ord.map (·.2)).length=ns.length:=by rw [← pm2.length_eq,List.length_map,← Paired.length p2,List.length_map]
 refine wpAny_bind (wpAny_newList ?_ (by rw [l1];exact Nat.le_of_lt (Nat.lt_of_lt_of_le h64 (by decide))))
 have gL:(h'.push (seqObj "list" (ord.map (·.2)).toArray 0)).get? h'.objs.size=some (seqObj "list" (ord.map (·.2)).toArray 0):=Heap.get?_push_size _ rfl
 refine wpAny_bind (wpAny_holding (wpAny_call_entry slot_list_sort ⟨_,gL,rfl⟩ entry_list_sort (list_sort_tree gL ia (by rw [l1];exact h64) fun out ns' a1 a2 a3=>⟨_,rfl,?_⟩) (args_list_sort _)))
 refine wpAny_pure ⟨_,rfl,?_⟩
 obtain ⟨e,ge⟩:=sortedHeap_at (out:=out) gL
 have es':ns'=sortI ns:=z6K (a2.trans pm2) a3
 subst es'
 have un:∀ b ob,s.heap.get? b=some ob->(sortedHeap (h'.push (seqObj "list" (ord.map (·.2)).toArray 0)) h'.objs.size (ord.map (·.2)) out).get? b=some ob:=fun b ob eb=>by
  have lt:=Heap.lt_size (kp b ob eb)
  rw [sortedHeap_old (Nat.ne_of_lt lt) (by rw [Heap.size_push];exact Nat.lt_succ_of_lt lt)]
  exact Heap.get?_push_of_some _ (kp b ob eb)
 have ho:=I.hok.laid (a:=h'.objs.size) (o:=.lst ((sortI ns).map V.int)) un sz ⟨by rw [List.length_map,(sortI_perm ns).length_eq];exact Nat.le_of_lt (Nat.lt_of_lt_of_le h64 (by decide)),out.toList,e,z6N a1,ge⟩
 exact ⟨.ref h'.objs.size,_,I.call' (s':={ s with heap:=_,drawn:=d',toks:=tk }) (ch:=[]) rfl (Un.laid un sz (I.hok.fresh sz)) ho I.bare (fun b z=>absurd z (by simp)),rfl,q _ (I.hok.fresh sz)⟩
end
section
variable {P:Program}{w:World}{A:Around}{E:Value->Shared->Prop}{s:Shared}
end
def keyD:D->Option Key
 | .int i=>some (.inl i)
 | .str x=>some (.inr x)
 | _=>none
def z3Z:List D->Option (List Key)
 | []=>some []
 | d :: r=>match keyD d,z3Z r with
  | some k,some ks=>some (k :: ks)
  | _,_=>none
theorem zo3 {K:PySem.W.Frag}{ρ:List Addr}{H:Hp}{d:D}{k:Key}{v:V}(e:keyD d=some k) (r:RD K ρ H d v):v=kV k:=by
 cases d<;>first | (simp only [keyD] at e;cases e;done) | skip
 ·simp only [keyD,Option.some.injEq] at e;subst e;simp only [RD] at r;exact r
 ·simp only [keyD,Option.some.injEq] at e;subst e;simp only [RD] at r;exact r
theorem z6t {K:PySem.W.Frag}{ρ:List Addr}{H:Hp}:∀ {ds:List D}{ks:List Key}{vs:List V},z3Z ds=some ks->RDs K ρ H ds vs->vs=ks.map kV
 | [],ks,vs,e,r=>by simp only [RDs] at r;cases e;subst r;rfl
 | d :: ds,ks,vs,e,r=>by
  simp only [RDs] at r
  obtain ⟨v,r2,rfl,h1,h2⟩:=r
  rw [z3Z] at e
  cases e1:keyD d with
  | none=>rw [e1] at e;cases e
  | some k =>
   rw [e1] at e
   cases e2:z3Z ds with
   | none=>rw [e2] at e;cases e
   | some ks' =>
    rw [e2] at e
    cases e
    rw [zo3 e1 h1,z6t e2 h2]
    rfl
def getS (n:Nat):M (List Key):=fun h=>match h[n]? with
 | some (.set ks)=>.ok ks h
 | _=>.bad
def newSet (ks:List Key):M D:=fun h=>.ok (.ref h.length) (h++[.set ks])
def z15:List D->M D
 | [x]=>do
  let xs ← seqD x
  match z3Z xs with
  | some ks=>if ks.length+1<4096 then newSet (dedK ks) else bad
  | none=>bad
 | _=>bad
def z59:List Key->Option (List Int)
 | []=>some []
 | .inl i :: r=>(z59 r).map (i :: ·)
 | .inr _ :: _=>none
theorem z6H:∀ {ks:List Key}{ns:List Int},z59 ks=some ns->ks=ns.map Sum.inl
 | [],ns,e=>by cases e;rfl
 | .inl i :: r,ns,e=>by
  rw [z59] at e
  obtain ⟨ms,e1,rfl⟩:=Option.map_eq_some_iff.mp e
  rw [z6H e1]
  rfl
 | .inr _ :: _,ns,e=>by rw [z59] at e;cases e
def v7:List D->M D
 | [.ref n]=>do
  let ks ← getS n
  match z59 ks with
  | some ns=>if ns.length<64 then newL ((sortI ns).map .int) else bad
  | none=>bad
 | _=>bad
section
variable {X:Cx}{EX:XX}{a o:Expr}{p pos apos cpos:Pos}{ma mo:G->M D}{mr:G->M (List D)}
theorem z9M {K:PySem.W.Frag}{ρ:List Addr}{h:AH}{H:Hp}{n:Nat}{q:Addr}{Z:List Key->List Addr->AH->Hp->Prop}(r:RH K ρ h H) (hq:ρ[n]?=some q) (f:Fin K EX ρ H Z (getS n h)):∃ ks,H q=some (.set ks)/\Z ks ρ h H:=by
 unfold getS at f
 cases e:h[n]? with
 | none=>rw [e] at f;exact f.elim
 | some ob =>
  cases ob with
  | lst xs=>rw [e] at f;exact f.elim
  | dct=>rw [e] at f;exact f.elim
  | dK kvs=>rw [e] at f;exact f.elim
  | dF kvs=>rw [e] at f;exact f.elim
  | exc c=>rw [e] at f;exact f.elim
  | set ks =>
   rw [e] at f
   obtain ⟨a1,n1,o1⟩:=r.at e
   rw [hq] at n1;cases n1
   exact ⟨ks,o1,f ρ H (Pre.refl _) (Ext.refl _ _) r⟩
theorem z7l {K:PySem.W.Frag}{ρ:List Addr}{h:AH}{H:Hp}{ks:List Key}{Q:VK}{q:Addr}(r:RH K ρ h H) (hq:H q=none) (f:FE K EX ρ H Q (newSet ks h)):Q (.ref q) (upd H q (.set ks)):=by
 refine f (ρ++[q]) _ (Pre.app _ _) (Ext.upd (.inl hq)) (r.pushS hq) (.ref q) ?_
 simp only [RD]
 exact ⟨q,rfl,by rw [← r.len];simp⟩
theorem zC1:AR X.K EX (fun xs H Q=>∃ l ks,xs=[.ref l]/\(SqL X.K H l (ks.map kV)∨SqT X.K H l (ks.map kV))/\ks.length+1<scanBound/\∀ q,H q=none->Q (.ref q) (upd H q (.set (dedK ks)))) z15:=by
 intro ρ h H ds vs Q r rd fin
 unfold z15 at fin
 split at fin
 ·rename_i x
  obtain ⟨v,rfl,rv⟩:=rds1 rd
  have f1:=Fin.bind fin
  cases e:seqD x h with
  | bad=>rw [e] at f1;exact f1.elim
  | err z hz=>exact (z2y e).elim
  | ok ys h1 =>
   obtain ⟨rfl,p,xs,rfl,hs,hd⟩:=z1W r rv e
   rw [e] at f1
   have f2:=f1 ρ H (Pre.refl _) (Ext.refl _ _) r
   dsimp only at f2
   cases e2:z3Z ys with
   | none=>rw [e2] at f2;exact f2.elim
   | some ks =>
    rw [e2] at f2
    dsimp only at f2
    split at f2
    ·rename_i hl
     have ek:=z6t e2 hd
     subst ek
     exact ⟨p,ks,rfl,hs,hl,fun q hq=>z7l r hq f2⟩
    ·exact f2.elim
 ·exact fin.elim
theorem z2t (hc:X.calm=true) (hg:Gl X "set") (hm:X.mg "set" = none) (ha:SA X EX [a] mr) (he:starEach [a] X.env=[(false,eval a X.env)]:=by rfl):SE X EX (.Call (.Name "set" p) [a] [] pos) (Z9 z15 mr) :=
 z1f (z1M (z8D hc) hg hm (by decide +kernel) ha.h (by decide) (by decide) he rfl) zC1
theorem z6W:AR X.K EX (fun xs H Q=>∃ a ns,xs=[.ref a]/\H a=some (.set (ns.map Sum.inl))/\ns.length<64/\∀ q,H q=none->Q (.ref q) (upd H q (.lst ((sortI ns).map V.int)))) v7:=by
 intro ρ h H ds vs Q r rd fin
 unfold v7 at fin
 split at fin
 ·rename_i n
  obtain ⟨v,rfl,rv⟩:=rds1 rd
  simp only [RD] at rv
  obtain ⟨q,rfl,hq⟩:=rv
  obtain ⟨ks,h1,f2⟩:=z9M r hq (Fin.bind fin)
  cases e:z59 ks with
  | none=>rw [e] at f2;exact f2.elim
  | some ns =>
   rw [e] at f2
   dsimp only at f2
   split at f2
   ·rename_i hl
    refine ⟨q,ns,rfl,by rw [h1,z6H e],hl,fun l hl2=>?_⟩
    unfold newL at f2
    split at f2
    ·refine f2 (ρ++[l]) _ (Pre.app _ _) (Ext.upd (.inl hl2)) (r.push hl2 ?_) (.ref l) ?_
     ·have:∀ ms:List Int,RDs X.K ρ H (ms.map D.int) (ms.map V.int):=fun ms=>by
       induction ms with
       | nil=>exact RDs.nil
       | cons m ms ih=>exact RDs.cons (by simp [RD]) ih
      exact this _
     ·simp only [RD]
      exact ⟨l,rfl,by rw [← r.len];simp⟩
    ·exact f2.elim
   ·exact f2.elim
 ·exact fin.elim
theorem z1p (hc:X.calm=true) (hg:Gl X "sorted") (hm:X.mg "sorted" = none) (ha:SA X EX [a] mr) (he:starEach [a] X.env=[(false,eval a X.env)]:=by rfl):SE X EX (.Call (.Name "sorted" p) [a] [] pos) (Z9 v7 mr) :=
 z1f (z0J (z4D hc) hg hm boot_sorted ha.h (by decide) (by decide) he rfl) z6W
end
theorem z01 {P:Program}{w:World}{K:PySem.W.Frag}{mg:Str->Option Value}{base:Heap}{x:Str}{st:Stmt}{f:Addr}{fd:FuncData}{N ps:List Str}{k n:Nat}{mb:G->M Out}(F:Fun K x x st f fd) (S:FnScope N ps (Z4 st)) (hb:Binds K fd ps []) (mx:mg x=some (.ref f)) (hn:ps.length=n)
 (body:∀ (cdv:Value) (A:Around) (outer:List Env) (s:Shared) (H:Hp) (E:XK),PySem.W.codeIn K cdv x=true->Room k (A.deeper (envOfC x (Z4 st) s.heap.objs.size f cdv)) ->
  SB (cxOf CX0 P w K mg base N x (Z4 st) f cdv A outer s H E).nox EX0 (j6 st) mb):Fn P w K mg base (k+1) x n (runF N.length mb):=by
 refine ⟨f,fd,ps,?_,hb,F.kp,mx⟩
 obtain ⟨oc,od,kV,doc,pm,an,cdv,ct,osl,rfl,lk,hcd⟩:=F.ex
 refine zk7 lk hcd S (fun vs H Q E h=>h.1.trans hn.symm) fun A outer s H vs Q E hr h=>?_
 obtain ⟨hl,ρ,ds,h,rh,rd,fin⟩:=h
 refine ⟨_,(body cdv A outer s H E hcd hr).h.nox,ρ,z1b N.length ds,h,⟨z3p rd,rh⟩,?_⟩
 refine (Fin.bind fin).mono fun o ρ1 h1 H1 p1 e1 r1 f1=>?_
 cases o with
 | nx γ=>exact fun σ _=>FE.here (d:=.non) (h:=h1) f1 r1 (by simp [RD])
 | rt d=>exact fun v rv=>f1 ρ1 H1 (Pre.refl _) (Ext.refl _ _) r1 v rv
 | bk γ=>exact (show False from f1).elim
 | ct γ=>exact (show False from f1).elim
section
variable {X:Cx}
end
section
variable {X:Cx}{EX:XX}
end
theorem z7F (t:Addr) (items:Array Value) :
 Meets (Builtin.«enumerate.__new__» ⟨[.type "enumerate",.ref t],[]⟩) (fun _ R s=>s.heap.IsTuple t items /\
  R (.ok (.ret (.ref (s.heap.push { cls:=.type "tuple_iterator",data:=.fields #[.ref t,.int 0 0] }).objs.size)))
   { s with heap:=(s.heap.push { cls:=.type "tuple_iterator",data:=.fields #[.ref t,.int 0 0] }).push { cls:=.type "enumerate",data:=.fields #[.none,.bool false,.ref s.heap.objs.size,rawInt 0,.none,.none] } }) :=
 .of_wp fun prog w A R s h=>by
  obtain ⟨hp,g,d,tk,os⟩:=s
  obtain ⟨q1,h⟩:=h
  have hsub:=sub_enumerate
  have L1:Heap.IsTuple (Shared.heap ⟨hp,g,d,tk,os⟩) t items:=q1
  wp_walk
  refine wpAny_stack_any fun st=>wpAny_pure ?_
  split
  ·rename_i c _ _ _ _ _
   cases (c == Value.type "enumerate")
   ·wp_walk using wpAny_pyIter_tuple L1
    exact ⟨_,rfl,h⟩
   ·wp_walk using wpAny_pyIter_tuple L1
    exact ⟨_,rfl,h⟩
  ·wp_walk using wpAny_pyIter_tuple L1
   exact ⟨_,rfl,h⟩
theorem zd1 {P:Program}{w:World}{A:Around}(hh:A.handled=none) (it t:Addr) (hne:t≠it) (items:Array Value) :
 Draws P w A it [it,t] items.size (fun i v=>items[i]?=some v) (fun i h=>h.IsTupleIter it t i/\h.IsTuple t items) where
 live:=fun _ _ st=>let ⟨o,ho,_⟩:=st.1;⟨o,ho⟩
 frame:=fun _ _ _ st hk=>⟨st.1.at fun o e=>hk it (by simp) o e,st.2.at fun o e=>hk t (by simp) o e⟩
 item:=fun i s Q E hi st hQ=>zh4 st.1 st.2 (x:=items[i]) (by simp [hi]) fun h' hit sb=>hQ _ h' s.toks (by simp [hi]) ⟨hit,st.2.extBut sb.extBut hne⟩ sb
 done:=fun s Q E st hE=>zD8 hh st.1 st.2 (by simp) hE
def Ite (K:PySem.W.Frag) (t:Addr):It :=
 ⟨fun i H=>∃ xs x,SqT K H t xs/\xs[i]?=some x,
  fun i H v H'=>∃ T x,H T=none/\v=.ref T/\(∀ xs,SqT K H t xs->xs[i]?=some x)/\H'=upd H T (.tup [.int i,x]),
  fun i H=>∃ xs,SqT K H t xs/\xs.length=i⟩
theorem z7V {P:Program}{w:World}{K:PySem.W.Frag}{elts:List Expr}{kk:Nat}{pos:Pos}{e it t:Addr}(d1:e≠it) (d2:t≠it) (d3:e≠t) :
 Turn P w K (.Tuple elts kk pos) (Ite K t) [e,it] e (fun i h=>(∃ old,IsEnum h e it i old)/\h.IsTupleIter it t i) where
 mem:=by simp
 obj:=fun i h st b hb=>by
  obtain ⟨⟨old,ee⟩,o,ei,_,di⟩:=st
  simp at hb
  rcases hb with rfl | rfl
  ·exact ⟨_,ee,fun v q=>by cases q⟩
  ·exact ⟨_,ei,fun v q=>by rw [di] at q;cases q⟩
 keep:=fun i h h' st k=>by
  obtain ⟨⟨old,ee⟩,g⟩:=st
  exact ⟨⟨old,k e (by simp) _ ee⟩,g.at fun o q=>k it (by simp) o q⟩
 item:=by
  intro X hP hw hK hc i pins s σ H E I hf st hg
  subst hP hw hK
  obtain ⟨xs,x,q1,hx⟩:=hg
  obtain ⟨its,rv,pl,hz⟩:=I.tuple q1
  obtain ⟨u,hu,ru⟩:=rv.get hx
  obtain ⟨⟨old,ee⟩,g⟩:=st
  have hi:i<its.toArray.size:=by
   have:=(List.getElem?_eq_some_iff.mp hu).1
   simpa using this
  have pT:s.heap.IsTuple t its.toArray:=pl
  refine wpAny_pyNext_enum_itemD (zd1 (by simp [I.ok.hd hc]) it t d2 its.toArray) ee ⟨g,pT⟩ hi d1 (by simp [d1,d3]) fun y h' tk hy eo st' gT sz kp=>?_
  have ey:y=u:=by
   have:its.toArray[i]?=some u:=by simpa using hu
   rw [hy] at this
   exact Option.some.inj this
  subst ey
  refine ⟨_,rfl,wpAny_letOwnedTupleGo_enum eo fun h2 eo2 sb=>?_⟩
  have elt:e<s.heap.objs.size:=Heap.lt_size ee
  have ilt:it<s.heap.objs.size:=by obtain ⟨o,q,_⟩:=g;exact Heap.lt_size q
  have hT:IsTup0 h2 s.heap.objs.size [Value.int i tk,y].toArray:=⟨_,(sb.2 _ (Nat.ne_of_gt elt)).trans gT,⟨rfl,rfl⟩,_,rfl⟩
  have J:=zH6 (t:=tk+1) (ch:=[e,it]) (T:=s.heap.objs.size) (vs:=[.int i,x]) (its:=[.int i tk,y]) (h2:=h2) I hf
   (fun b o hb q=>by simp at hb;exact (sb.2 b hb.1).trans (kp b o hb.1 hb.2 q)) (Nat.le_refl _) hT (.cons ⟨tk,rfl⟩ (.cons ru .nil)) (by show 2≤sizeLine;decide)
  refine ⟨.ref s.heap.objs.size,_,J,rfl,⟨_,x,I.hok.fresh (Nat.le_refl _),rfl,fun xs' h'=>by rw [I.tuple_inj h' q1];exact hx,rfl⟩,?_,fun b hb=>?_⟩
  ·exact ⟨⟨_,by simpa using eo2⟩,st'.1.at fun o q=>(sb.2 _ (Ne.symm d1)).trans q⟩
  ·have:b<s.heap.objs.size:=by
    simp at hb
    rcases hb with rfl | rfl
    ·exact elt
    ·exact ilt
   rw [J5 (Nat.ne_of_lt this)]
   exact (hf b hb).1
 done:=by
  intro X hP hw hK hc i pins s σ H E I hf st hg
  subst hP hw hK
  obtain ⟨xs,q1,hl⟩:=hg
  obtain ⟨its,rv,pl,hz⟩:=I.tuple q1
  obtain ⟨⟨old,ee⟩,g⟩:=st
  have l1:=rv.length
  have pT:s.heap.IsTuple t its.toArray:=pl
  have en:i=its.toArray.size:=by simp;omega
  refine wpAny_pyNext_enum_endD (zd1 (by simp [I.ok.hd hc]) it t d2 its.toArray) ee ⟨by rw [← en];exact g,pT⟩ fun h' eb=>⟨rfl,?_⟩
  have hf':∀ b∈[it],FpOk X pins H b:=fun b hb=>hf b (by simp at hb;simp [hb])
  refine I.step (g':=s.gens) (t':=s.toks) (d':=s.drawn) (ch:=[it]) (fun b hb=>⟨(hf' b hb).2.2.2.1,(hf' b hb).2.1,(hf' b hb).2.2.2.2.1,(hf' b hb).2.2.2.2.2⟩) (fun b o _ _ hc e _=>?_) (fun b o _ _ hc e _=>⟨o.slots,?_⟩)
   (fun _ _ _ _ n=>n) (fun b o hc e=>⟨o,?_⟩) (fun _ _ e=>e) (fun _ _ _ e=>e) (fun b ps e=>⟨#[],by rw [e];simp⟩) (fun m hm=>?_) (fun b u e=>?_) I.bare
  ·simp at hc;exact eb b o hc e
  ·simp at hc;exact eb b o hc e
  ·simp at hc;exact eb b o hc e
  ·obtain ⟨o,es,ep,q,r⟩:=hm
   exact ⟨o,es,ep,eb _ o (fun y=>(hf' it (by simp)).2.1 y.symm) q,r⟩
  ·refine (I.hok b u e).stay (fun c v hc q=>?_) (fun _ q=>q) fun _ _ q=>q
   refine eb c v (fun y=>?_) q
   subst y
   rcases hc with y | y
   ·rw [← y,(hf' c (by simp)).1] at e;cases e
   ·rw [(hf' c (by simp)).1] at y;cases y
 self:=fun _ _ _ _ _ st h=>by
  obtain ⟨⟨old,ee⟩,g⟩:=st
  exact wpAny_pyIter_enum ee h
section
variable {X:Cx}{EX:XX}{a:Expr}{elts:List Expr}{kk:Nat}{p pos pt:Pos}{ma:G->M D}
def zw5 (K:PySem.W.Frag) (ta:TA):TI:=fun σ H R=>ta σ H fun vs H2=>∃ t xs,vs=[.ref t]/\SqT K H2 t xs/\R (Ite K t) H2
theorem zg5 {ta:TA}(hg:Gl X "enumerate") (hm:X.mg "enumerate" = none) (ha:PA X [a] ta) (hs:starEach [a] X.env=[(false,eval a X.env)]:=by rfl):PI X (.Tuple elts kk pt) (.Call (.Name "enumerate" p) [a] [] pos) (zw5 X.K ta):=by
 intro pins s σ H R I h
 refine Call_ (z4r I hg hm boot_enumerate (PyProof.Rows.callWith_type1 (thn (ha pos pins s σ H _ I h) fun us s1 ⟨vs,H1,I1,r1,q1⟩=>?_) (by rw [hs];rfl) rfl))
 obtain ⟨t,xs,e,q2,q⟩:=q1
 subst e
 obtain ⟨u,rfl,ru⟩:=vals1 r1
 cases ru
 obtain ⟨its,rv,pl,hz⟩:=I1.tuple q2
 have pT:s1.heap.IsTuple t its.toArray:=pl
 have lt:t<s1.heap.objs.size:=by obtain ⟨o,e,_⟩:=pl;exact Heap.lt_size e
 refine callType_new PySem.F.called_enumerate (by decide) (PySem.F.typeCall_enumerate_1 _) (PySem.F.newCall_enumerate_1 _) (fun obj=>PySem.F.args_object_init_2 obj _) PySem.F.entry_enumerate_new (z7F t its.toArray) ⟨pT,?_⟩
 have y1:(s1.heap.push { cls:=.type "tuple_iterator",data:=.fields #[.ref t,.int 0 0] }).objs.size=s1.heap.objs.size+1:=Heap.size_push ..
 have x2:((s1.heap.push { cls:=.type "tuple_iterator",data:=.fields #[.ref t,.int 0 0] }).push { cls:=.type "enumerate",data:=.fields #[.none,.bool false,.ref s1.heap.objs.size,rawInt 0,.none,.none] }).get? (s1.heap.objs.size+1)=some { cls:=.type "enumerate",data:=.fields #[.none,.bool false,.ref s1.heap.objs.size,rawInt 0,.none,.none] }:=by rw [← y1];exact Heap.get?_push_size _ rfl
 have x1:((s1.heap.push { cls:=.type "tuple_iterator",data:=.fields #[.ref t,.int 0 0] }).push { cls:=.type "enumerate",data:=.fields #[.none,.bool false,.ref s1.heap.objs.size,rawInt 0,.none,.none] }).get? s1.heap.objs.size=some { cls:=.type "tuple_iterator",data:=.fields #[.ref t,.int 0 0] }:=Heap.get?_push_of_some _ (Heap.get?_push_size _ rfl)
 show _/\_
 rw [y1]
 refine ⟨⟨_,x2,rfl⟩,wpAny_pyIter_enum (e:=s1.heap.objs.size+1) (it:=s1.heap.objs.size) (i:=0) (old:=.none) x2 ?_⟩
 refine ⟨s1.heap.objs.size+1,_,_,_,H1,rfl,I1.kept (t':=s1.toks) (fun c o q=>Heap.get?_push_of_some _ (Heap.get?_push_of_some _ q)),z7V (it:=s1.heap.objs.size) (t:=t) (Nat.ne_of_gt (Nat.lt_succ_self _)) (Nat.ne_of_lt lt) (Nat.ne_of_gt (Nat.lt_succ_of_lt lt)),⟨⟨_,x2⟩,⟨_,x1,rfl,rfl⟩⟩,fun b hb=>?_,q⟩
 have hb':s1.heap.objs.size≤b:=by
  simp at hb
  rcases hb with rfl | rfl
  ·exact Nat.le_succ _
  ·exact Nat.le_refl _
 exact I1.fpOk hb' (I1.hok.fresh hb')
def z1D (xs:List D):List D:=(List.range xs.length).map fun (i:Nat)=>.tup [.int i,(xs[i]?).getD .non]
def z79 (ma:G->M D):G->M Src:=fun γ=>do
 let l ← z8 ma aNil γ
 match l with
 | [.tup xs]=>pure (.con (z1D xs))
 | _=>bad
theorem z4o {xs:List D}{i:Nat}{d:D}(h:(z1D xs)[i]?=some d):∃ x,xs[i]?=some x/\d=.tup [.int i,x]:=by
 unfold z1D at h
 rw [List.getElem?_map] at h
 obtain ⟨j,e1,e2⟩:=Option.map_eq_some_iff.mp h
 obtain ⟨h1,h2⟩:=List.getElem?_eq_some_iff.mp e1
 simp at h1 h2
 subst h2
 rw [List.getElem?_eq_getElem h1] at e2
 exact ⟨_,List.getElem?_eq_getElem h1,e2.symm⟩
theorem z8w (hc:X.calm=true) (hg:Gl X "enumerate") (hm:X.mg "enumerate" = none) (ha:SE X EX a ma) (hs:starEach [a] X.env=[(false,eval a X.env)]:=by rfl):SI X EX (.Tuple elts kk pt) (.Call (.Name "enumerate" p) [a] [] pos) (z79 ma) :=
 ⟨PI.imp (zg5 hg hm (z0 ha Z0 hs).h hs) fun σ H R ⟨ρ,γ,h,rel,fin⟩=>⟨ρ,γ,h,rel,(Fin.bind fin).mono fun l ρ1 h1 H1 p1 e1 r1 f1 vs rv=>by
  split at f1
  ·rename_i xs
   simp only [RDs,RD] at rv
   obtain ⟨_,_,rfl,⟨t,us,rfl,q1,d1⟩,rfl⟩:=rv
   refine ⟨t,us,rfl,q1,f1 ρ1 H1 (Pre.refl _) (Ext.refl _ _) r1 _ fun i ρ2 h4 H2 p2 e2 r2 _=>⟨fun d hd=>?_,fun hi=>?_⟩⟩
   ·have hd':(z1D xs)[i]?=some d:=hd
    obtain ⟨x,g1,rfl⟩:=z4o hd'
    obtain ⟨v1,a1,b1⟩:=(d1.mono p2 e2).get g1
    refine ⟨⟨us,v1,e2.t _ _ q1,a1⟩,fun v H3 ⟨T,x',n1,n2,n3,n5⟩=>?_⟩
    have m1:=n3 us (e2.t _ _ q1)
    rw [a1] at m1;cases m1
    subst n2;subst n5
    have ext:Ext X.K H2 (L2.upd H2 T (.tup [.int i,v1])):=Ext.upd (.inl n1)
    refine ⟨?_,r2.other n1,ext⟩
    simp only [RD]
    exact ⟨T,_,rfl,SqT.of z06,RDs.cons (by simp [RD]) (RDs.cons (b1.mono (Pre.refl _) ext) RDs.nil)⟩
   ·have hi':(z1D xs).length=i:=hi
    unfold z1D at hi'
    rw [List.length_map,List.length_range] at hi'
    have l1:=d1.length
    exact ⟨us,e2.t _ _ q1,by omega⟩
  ·exact (show False from f1).elim⟩⟩
end
end FT
namespace L2
open PySem PySem.Spec PyProof.Rows
section
variable {prog:Program}{w:World}{A:Around}{R:Result->Shared->Prop}{s:Shared}{elt tg iter tg1 iter1:Expr}{ifs ifs1:List Expr}{scope:Scope}{pos:Pos}{it acc:Value}{env:Env}
end
section
variable {X:Cx}{elt tg iter tg1 iter1:Expr}{ifs1:List Expr}{sc:Scope}{pos:Pos}{N':List Str}{cap:List (Option Nat)}{g g1:TG}{wi1:TI}{ti:TT}{te:TE}
end
end L2
namespace FT
open PySem PySem.Spec PyProof.Rows L2
section
variable {X:Cx}{EX:XX}{elt tg iter tg1 iter1:Expr}{ifs1:List Expr}{sc:Scope}{pos:Pos}{N':List Str}{cap:List (Option Nat)}{own own1:List Nat}{mi mi1:G->M Src}{g g1:D->G->M G}{k:G->M Bool}{me:G->M D}
end
end FT
namespace L2
open PySem PySem.Spec PyProof.Rows
theorem range_all {α:Type}(r:List α):(List.range r.length).filterMap (fun m=>r[m]?)=r:=by
 have:=pick_run r.toArray 0 r.length
 rw [List.filterMap_map] at this
 have e:((fun x=>r.toArray[x]?) ∘ fun x=>0+x)=fun m=>r[m]?:=by funext m;simp
 rw [e] at this
 rw [this]
 simp
theorem z6s {α β:Type}{f g:α->Option β}:∀ {l:List α},(∀ x∈l,f x=g x)->l.filterMap f=l.filterMap g
 | [],_=>rfl
 | a :: l,h=>by
  rw [List.filterMap_cons,List.filterMap_cons,h a List.mem_cons_self,z6s fun x hx=>h x (List.mem_cons_of_mem _ hx)]
theorem z3z {α:Type}(l:List α) (f:Nat->Option α) (hf:∀ m,m<l.length->f m=l[l.length - 1 - m]?):(List.range l.length).filterMap f=l.reverse:=by
 have:=range_all l.reverse
 rw [List.length_reverse] at this
 rw [← this]
 exact z6s fun m hm=>by
  have hm':m<l.length:=by simpa using hm
  rw [hf m hm',List.getElem?_reverse hm']
theorem z8q (its:List Value):slicePick its.toArray none none (some (-1))=its.reverse.toArray:=by
 unfold slicePick
 have b:sliceBounds none none (some (-1)) its.toArray.size=((its.length:Int) - 1,-1,-1):=by
  unfold sliceBounds
  rw [List.size_toArray]
  rfl
 rw [b]
 unfold sliceRange
 have c:(if (-1:Int) > 0 then (if (its.length:Int) - 1 < -1 then (-1 - ((its.length:Int) - 1)+-1 - 1) / -1 else 0) else if (its.length:Int) - 1 > -1 then ((its.length:Int) - 1 - -1 - -1 - 1) / - -1 else 0).toNat=its.length:=by
  rw [if_neg (by decide)]
  by_cases h:(its.length:Int) - 1 > -1
  ·rw [if_pos h]
   have:((its.length:Int) - 1 - -1 - -1 - 1) / - -1=its.length:=by
    rw [show (- -1:Int)=1 from rfl,Int.ediv_one]
    omega
   rw [this,Int.toNat_natCast]
  ·rw [if_neg h]
   omega
 dsimp only
 rw [c,List.filterMap_map]
 congr 1
 refine z3z its _ fun m hm=>?_
 have:((its.length:Int) - 1+-1 * (m:Int)).toNat=its.length - 1 - m:=by omega
 show its.toArray[((its.length:Int) - 1+-1 * (m:Int)).toNat]?=_
 rw [this]
 simp
section
variable {prog:Program}{w:World}{A:Around}{E:Value->Shared->Prop}{s:Shared}
theorem z4G {sl:Addr}{t:Tok}{n:Nat}{Q:Int×Int×Nat->Shared->Prop}(hs:s.heap.IsSliceOf sl .none .none (.int (-1) t))
 (h:Q ((n:Int) - 1,-1,n) s):wpAny (model prog w) A (Builtin.Slice.sliceApplied (.ref sl) (pure (n:Int))) Q E s:=by
 obtain ⟨os,h1,h2,h3⟩:=id hs
 unfold Builtin.Slice.sliceApplied Builtin.Slice.sliceFields
 refine wpAny_bind (wpAny_bind (wpAny_field h1 h3 (x:=.none) rfl (wpAny_bind (wpAny_field h1 h3 (x:=.none) rfl (wpAny_bind (wpAny_field h1 h3 (x:=.int (-1) t) rfl (wpAny_pure ?_)))))))
 refine wpAny_bind (slicePart_int ?_)
 show wpAny _ _ (if ((-1:Int) == 0)=true then _ else _) _ _ s
 rw [if_neg (by decide)]
 refine wpAny_bind (slicePart_none (wpAny_bind (slicePart_none (wpAny_bind (wpAny_pure ?_)))))
 have e1:Builtin.Slice.sliceAdjust none none (-1) (n:Int)=((n:Int) - 1,-1):=rfl
 have e2:Builtin.Slice.slicePlaces ((n:Int) - 1) (-1) (-1)=n:=by
  unfold Builtin.Slice.slicePlaces
  rw [if_neg (by decide)]
  by_cases h:(n:Int) - 1 > -1
  ·rw [if_pos h,show (-(-1):Int)=1 from rfl,Int.ediv_one]
   omega
  ·rw [if_neg h]
   omega
 show wpAny _ _ (match Builtin.Slice.sliceAdjust none none (-1) (n:Int) with | (lo,hi)=>pure (lo,(-1:Int),Builtin.Slice.slicePlaces lo hi (-1))) _ _ s
 rw [e1]
 show wpAny _ _ (pure ((n:Int) - 1,(-1:Int),Builtin.Slice.slicePlaces ((n:Int) - 1) (-1) (-1))) _ _ s
 rw [e2]
 exact wpAny_pure h
theorem z78 {t sl:Addr}{items:Array Value}{k:Tok}{Q:Value->Shared->Prop}(ht:IsTup s.heap t items) (hs:s.heap.IsSliceOf sl .none .none (.int (-1) k))
 (h:Q (.ref s.heap.objs.size) { s with heap:=s.heap.push { cls:=.type "tuple",data:=.seq items.toList.reverse.toArray } }) (hsz:items.size≤sizeLine):wpAny (model prog w) A (getItem (.ref t) (.ref sl)) Q E s:=by
 have fits:sizeOk (.seq items.toList.reverse.toArray):=by
  show items.toList.reverse.toArray.size≤sizeLine
  rw [List.size_toArray,List.length_reverse,Array.length_toList]
  exact hsz
 obtain ⟨os,h1,h2,h3⟩:=id hs
 have hT:s.TypeIs (.ref sl) "slice":=⟨os,h1,h2⟩
 unfold getItem
 try with_reducible refine wpAny_holding ?_
 first | refine wpAny_bind (wpAny_pure ?_) | skip
 refine wpAny_bind (wpAny_sequenceKey ht.typeIs (by decide) (wpAny_bind (wpAny_callSpecial?_slot (name:=Str.ofString "__getitem__") ht.typeIs PyProof.Rows.slot_tuple_getitem (wpAny_call_entry PyProof.Rows.slot_tuple_getitem ht.typeIs entry_tuple_getitem ?_ (args_tuple_getitem _ _)))))
 show wpAny _ _ (Builtin.Tuple.tupleItemsOf (.ref t) >>= _) _ _ s
 refine wpAny_bind (tupleItemsOf_ ht (wpAny_bind (wpAny_typeOf hT ?_)))
 rw [if_pos (by decide)]
 refine wpAny_bind (z4G hs ?_)
 show wpAny _ _ (if (((items.size:Int) - 1) == 0 && (-1:Int) == 1 && items.size == items.size)=true then _ else _) _ _ s
 have no:¬ ((((items.size:Int) - 1) == 0 && (-1:Int) == 1 && items.size == items.size)=true):=by
  rw [show ((-1:Int) == 1)=false from rfl,Bool.and_false,Bool.false_and]
  exact Bool.false_ne_true
 have e:((List.range items.size).filterMap fun (m:Nat)=>items[((items.size:Int) - 1+(m:Int) * -1).toNat]?).toArray=items.toList.reverse.toArray:=by
  congr 1
  have:=z3z items.toList (fun (m:Nat)=>items[((items.size:Int) - 1+(m:Int) * -1).toNat]?) fun m hm=>by
   rw [Array.length_toList] at hm ⊢
   have:((items.size:Int) - 1+(m:Int) * -1).toNat=items.size - 1 - m:=by omega
   rw [this,Array.getElem?_toList]
  rw [Array.length_toList] at this
  exact this
 rw [if_neg no,e]
 first
  | exact wpAny_bind (m:=Builtin.Tuple.tupleExact _) (wpAny_newObj_type (wpAny_pure ⟨_,rfl,wpAny_pure h⟩) fits)
  | exact wpAny_bind (m:=Builtin.Tuple.tupleExact _) (wpAny_newObj_type (wpAny_bind (wpAny_pure (wpAny_pure ⟨_,rfl,wpAny_pure h⟩))) fits)
  | exact wpAny_bind (wpAny_bind (m:=Builtin.Tuple.tupleExact _) (wpAny_newObj_type (wpAny_pure (wpAny_pure ⟨_,rfl,wpAny_pure h⟩)) fits))
  | exact wpAny_bind (wpAny_bind (m:=Builtin.Tuple.tupleExact _) (wpAny_newObj_type (wpAny_pure ⟨_,rfl,wpAny_pure h⟩) fits))
end
section
variable {X:Cx}{e st:Expr}{te ts:TE}{pos p2:Pos}
def RvR (X:Cx) (r:V->Hp->VK->Prop):Prop :=
 ∀ (pins:List (Addr×Obj)) (s:Shared) (σ:St) (H:Hp) (x:V) (v:Value) (t:Tok) (sl:Addr) (Q:VK),Inv X pins σ H s->RelV x v->s.heap.IsSliceOf sl .none .none (.int (-1) t)->r x H Q ->
  ∃ T id,typeLookup (.type T) "__getitem__" = pure (some (.builtin id))/\s.TypeIs v T/\wpAny (model X.prog X.w) X.A (getItem v (.ref sl)) (EP X pins σ Q) X.xe s
def tRv (r:V->Hp->VK->Prop) (te ts:TE):TE:=fun σ H Q=>te σ H fun x H1=>ts σ H1 fun y H2=>y=.int (-1)/\r x H2 Q
theorem zu3 {r:V->Hp->VK->Prop}(hr:RvR X r) (he:PE X e te) (hs:PE X st ts):PE X (.Subscript e (.Slice none none (some st) p2) pos) (tRv r te ts):=by
 intro pins s σ H Q I h
 refine Subscript_ (thn (he pins s σ H _ I h) fun v s1 ⟨x,H1,I1,r1,q1⟩=>?_)
 refine wpAny_Slice ?_
 rw [evalPart_none]
 refine wpAny_pure (wpAny_pure ?_)
 rw [evalPart_some]
 refine thn (hs pins s1 σ H1 _ I1 q1) fun u s3 ⟨y,H3,I3,r3,q3⟩=>?_
 obtain ⟨rfl,q⟩:=q3
 obtain ⟨t,rfl⟩:=r3
 have I4:Inv X pins σ H3 { s3 with heap:=s3.heap.push { cls:=.type "slice",data:=.fields #[.none,.none,.int (-1) t] } }:=I3.kept (t':=s3.toks) fun b ob q=>Heap.get?_push_of_some _ q
 obtain ⟨T,id,hT,ht,hg⟩:=hr pins _ σ H3 x v t s3.heap.objs.size Q I4 r1 (Heap.IsSliceOf.new ..) q
 show wpAny (model X.prog X.w) X.A (subscriptTail e (.Slice none none (some st) p2) v (.ref s3.heap.objs.size)) (EP X pins σ Q) X.xe { s3 with heap:=s3.heap.push { cls:=.type "slice",data:=.fields #[.none,.none,.int (-1) t] } }
 exact tail_any (ops:=[v,.ref s3.heap.objs.size]) ht hT hg (by with_unfolding_all rfl)
theorem RvR.or {r r':V->Hp->VK->Prop}(h:RvR X r) (h':RvR X r'):RvR X (fun x H Q=>r x H Q∨r' x H Q):=by
 intro pins s σ H x v t sl Q I rx hs q
 rcases q with q | q
 ·exact h pins s σ H x v t sl Q I rx hs q
 ·exact h' pins s σ H x v t sl Q I rx hs q
def rRvL (K:PySem.W.Frag):V->Hp->VK->Prop:=fun x H Q=>∃ a xs,x=.ref a/\SqL K H a xs/\∀ p,H p=none->Q (.ref p) (upd H p (.lst xs.reverse))
def rRvT (K:PySem.W.Frag):V->Hp->VK->Prop:=fun x H Q=>∃ a xs,x=.ref a/\SqT K H a xs/\∀ p,H p=none->Q (.ref p) (upd H p (.tup xs.reverse))
theorem rv_list:RvR X (rRvL X.K):=by
 intro pins s σ H x v t sl Q I rx hs h
 obtain ⟨a,xs,rfl,hx,q⟩:=h
 cases rx
 obtain ⟨its,r,ht,hz⟩:=I.list hx
 have hlen:=r.length
 refine ⟨"list",_,slot_list_getitem.lookup,ht.isList.typeIs,?_⟩
 refine wpAny_getItem_list_slice ht.isList hs .none .none (.int (-1) t) (by simp) ?_ (by rw [List.size_toArray]<;>omega)
 rw [z8q]
 refine ⟨.ref s.heap.objs.size,_,I.laid (t':=s.toks) (o:=.lst xs.reverse) (fun b ob q=>Heap.get?_push_of_some _ q) (Nat.le_refl _) ?_,rfl,q _ (I.hok.fresh (Nat.le_refl _))⟩
 exact ⟨by rw [List.length_reverse];exact hz,_,0,r.reverse,Heap.get?_push_size _ rfl⟩
theorem zv3:RvR X (rRvT X.K):=by
 intro pins s σ H x v t sl Q I rx hs h
 obtain ⟨a,xs,rfl,hx,q⟩:=h
 cases rx
 obtain ⟨its,r,ht,hz⟩:=I.tuple hx
 have hlen:its.toArray.size=xs.length:=by rw [List.size_toArray];exact r.length.symm
 refine ⟨"tuple",_,PyProof.Rows.slot_tuple_getitem.lookup,ht.typeIs,?_⟩
 refine z78 ht hs ?_ (by rw [hlen];exact hz)
 refine ⟨.ref s.heap.objs.size,_,I.laid (t':=s.toks) (o:=.tup xs.reverse) (fun b ob q=>Heap.get?_push_of_some _ q) (Nat.le_refl _) ?_,rfl,q _ (I.hok.fresh (Nat.le_refl _))⟩
 exact ⟨by rw [List.length_reverse];exact hz,_,r.reverse,FT.IsTup0.new _ _⟩
end
end L2
namespace FT
open PySem PySem.Spec PyProof.Rows L2
theorem RDs.reverse {K:PySem.W.Frag}{ρ:List Addr}{H:Hp}:∀ {ds:List D}{vs:List V},RDs K ρ H ds vs->RDs K ρ H ds.reverse vs.reverse
 | [],vs,h=>by
  simp only [RDs] at h
  subst h
  exact RDs.nil
 | d :: ds,vs,h=>by
  simp only [RDs] at h
  obtain ⟨x,r,rfl,h2,h3⟩:=h
  rw [List.reverse_cons,List.reverse_cons]
  exact (RDs.reverse h3).append (RDs.cons h2 RDs.nil)
theorem rds2 {K:PySem.W.Frag}{ρ:List Addr}{H:Hp}{d d':D}{vs:List V}(h:RDs K ρ H [d,d'] vs):∃ v v',vs=[v,v']/\RD K ρ H d v/\RD K ρ H d' v':=by
 simp only [RDs] at h
 obtain ⟨x,r,rfl,h2,y,q,rfl,h3,rfl⟩:=h
 exact ⟨x,y,rfl,h2,h3⟩
def fRev:D->M D
 | .tup xs=>pure (.tup xs.reverse)
 | .fl xs=>newL xs.reverse
 | .ref n=>do
  let xs ← getL n
  newL xs.reverse
 | _=>bad
def eRev (ma ms:G->M D):G->M D:=fun γ=>do
 let x ← ma γ
 let y ← ms γ
 match y with
 | .int i=>if i=-1 then fRev x else bad
 | _=>bad
def eNeg (ma:G->M D):G->M D:=fun γ=>do
 let x ← ma γ
 match x with
 | .int i=>pure (.int (-i))
 | _=>bad
section
variable {X:Cx}{EX:XX}{a b st:Expr}{pos p p2:Pos}{ma ms:G->M D}{mr:G->M (List D)}
theorem zj4 {ρ:List Addr}{h:AH}{H:Hp}{x:D}{v:V}{Q:VK}(r:RH X.K ρ h H) (rx:RD X.K ρ H x v) (fin:FE X.K EX ρ H Q (fRev x h)):rRvL X.K v H Q∨rRvT X.K v H Q:=by
 cases x<;>first | exact (show False from fin).elim | skip
 case tup xs =>
  simp only [RD] at rx
  obtain ⟨q,vs,rfl,h1,h2⟩:=rx
  have fin':FE X.K EX ρ H Q (.ok (.tup xs.reverse) h):=fin
  exact .inr ⟨q,vs,rfl,h1,fun p hp=>FE.tup fin' r h2.reverse hp⟩
 case fl xs =>
  simp only [RD] at rx
  obtain ⟨q,vs,rfl,h1,h2⟩:=rx
  have fin':FE X.K EX ρ H Q (newL xs.reverse h):=fin
  unfold newL at fin'
  split at fin'
  ·exact .inl ⟨q,vs,rfl,h1.sq,fun p hp=>FE.lst fin' r h2.reverse hp⟩
  ·exact fin'.elim
 case ref n =>
  simp only [RD] at rx
  obtain ⟨q,rfl,h1⟩:=rx
  have fin':FE X.K EX ρ H Q ((getL n >>= fun xs=>newL xs.reverse) h):=fin
  have f1:=Fin.bind fin'
  cases e:getL n h with
  | bad=>rw [e] at f1;exact f1.elim
  | err z hz=>exact (z13 e).elim
  | ok xs h2 =>
   obtain ⟨rfl,q1⟩:=z12 e
   rw [e] at f1
   have f2:=f1 ρ H (Pre.refl _) (Ext.refl _ _) r
   dsimp only at f2
   unfold newL at f2
   split at f2
   ·obtain ⟨a1,n1,vs,o1,d1⟩:=r.at q1
    rw [h1] at n1;cases n1
    exact .inl ⟨q,vs,rfl,SqL.of o1,fun p hp=>FE.lst f2 r d1.reverse hp⟩
   ·exact f2.elim
theorem zE5 (ha:SE X EX a ma) (hs:SE X EX st ms):SE X EX (.Subscript a (.Slice none none (some st) p2) pos) (eRev ma ms) :=
 ⟨PE.imp (zu3 (rv_list.or zv3) ha.h hs.h) fun σ H Q ⟨ρ,γ,h,rel,fin⟩=>⟨ρ,γ,h,rel,(Fin.bind fin).mono fun x ρ1 h1 H1 p1 e1 r1 f1 v rv=>⟨ρ1,γ,h1,⟨rel.g.mono p1 e1,r1⟩,(Fin.bind f1).mono fun y ρ2 h2 H2 p2 e2 r2 f2 u ru=>by
  cases y<;>first | exact (show False from f2).elim | skip
  rename_i i
  simp only [RD] at ru
  subst ru
  dsimp only at f2
  split at f2
  ·rename_i hi
   subst hi
   exact ⟨rfl,zj4 r2 (rv.mono p2 e2) f2⟩
  ·exact f2.elim⟩⟩⟩
theorem z5e (ha:SE X EX a ma):SE X EX (.UnaryOp .USub a pos) (eNeg ma) :=
 ⟨PE.imp (zG5 zy9 ha.h) fun σ H Q ⟨ρ,γ,h,rel,fin⟩=>⟨ρ,γ,h,rel,(Fin.bind fin).mono fun x ρ1 h1 H1 p1 e1 r1 f1 v rv=>by
  cases x<;>first | exact (show False from f1).elim | skip
  rename_i t
  simp only [RD] at rv
  exact ⟨t,rv,FE.here (d:=.int (-t)) (h:=h1) (ρ:=ρ1) f1 r1 (by simp [RD])⟩⟩⟩
end
end FT
namespace L2
open PySem PySem.Spec PyProof.Rows
structure Fly (base:Heap) (l:List Env) (e T:Addr) (cls:Value) (h:Heap):Prop where
 stays:base.StaysIn h
 ne:base.get? e=none
 nT:base.get? T=none
 fr:h.FunFrames base l
 tr:∃ a0 oe vs oT ts,h.get? e=some oe/\(oe.cls=cls/\vs[0]?=some a0)/\oe.data=.fields vs/\vs[1]?=some (.ref T)/\T≠e/\h.get? T=some oT/\oT.data=.fields ts/\ts[3]?=some .none
theorem Fly.of {base:Heap}{l:List Env}{e:Addr}{cls a0:Value}{h:Heap}(x:Heap.FlyingW base l e cls a0 h):∃ T,Fly base l e T cls h:=by
 obtain ⟨f1,f2,f3,oe,vs,T,oT,ts,a1,a2,a3,a4,a5,a6,a7,a8,a9⟩:=x
 exact ⟨T,f1,f2,a5,f3,a0,oe,vs,oT,ts,a1,a2,a3,a4,a6,a7,a8,a9⟩
def bigB (h:Heap) (l:List Env) (e T:Addr):Heap:=PySem.W.hideAll h (frs l++[e,T])
theorem z4g {h:Heap}{l:List Env}{e T b:Addr}{o:Obj}(q:h.get? b=some o) (h1:b∉frs l) (h2:b≠e) (h3:b≠T):(bigB h l e T).get? b=some o :=
 PySem.W.hideAll_get _ q fun z=>by
  rcases List.mem_append.mp z with z | z
  ·exact h1 z
  ·simp at z;exact z.elim h2 h3
theorem z8U {h:Heap}{l:List Env}{e T b:Addr}{o:Obj}(q:(bigB h l e T).get? b=some o):h.get? b=some o:=PySem.W.of_hideAll _ q
theorem z38 {h:Heap}{l:List Env}{e T b:Addr}(z:b∈frs l∨b=e∨b=T):(bigB h l e T).get? b=none :=
 PySem.W.hideAll_none _ (List.mem_append.mpr (by
  rcases z with z | rfl | rfl
  ·exact .inl z
  ·exact .inr (by simp)
  ·exact .inr (by simp)))
theorem z4l {base h:Heap}{as:List Addr}:∀ {l:List Env},h.FunFrames base l->(∀ b∈frs l,b∈as)->h.FunFrames (PySem.W.hideAll h as) l
 | [],_,_=>trivial
 | env :: r,⟨hk,⟨L,o,hf,_,ho,hd⟩,hr⟩,hin=>⟨hk,⟨L,o,hf,PySem.W.hideAll_none _ (hin L (by unfold frs;rw [List.filterMap_cons,hf];exact List.mem_cons_self)),ho,hd⟩,
  z4l hr fun b hb=>hin b (by unfold frs at hb ⊢;rw [List.filterMap_cons];cases env.frame with | none=>exact hb | some x=>exact List.mem_cons_of_mem _ hb)⟩
theorem Fly.big {base:Heap}{l:List Env}{e T:Addr}{cls:Value}{h:Heap}(x:Fly base l e T cls h):∃ a0,Heap.FlyingW (bigB h l e T) l e cls a0 h:=by
 obtain ⟨a0,oe,vs,oT,ts,a1,a2,a3,a4,a6,a7,a8,a9⟩:=x.tr
 exact ⟨a0,fun b o q=>z8U q,z38 (.inr (.inl rfl)),z4l x.fr fun b hb=>List.mem_append_left _ hb,oe,vs,T,oT,ts,a1,a2,a3,a4,z38 (.inr (.inr rfl)),a6,a7,a8,a9⟩
structure Kept (l:List Env) (e T:Addr) (h h':Heap):Prop where
 keep:∀ b o,h.get? b=some o->b∉frs l->b≠e->b≠T->h'.get? b=some o
 slot:∀ b o,h.get? b=some o->b∈frs l->∃ sl,h'.get? b=some { o with slots:=sl }
theorem Fly.down {base B:Heap}{l:List Env}{e T:Addr}{cls:Value}{h:Heap}(x:Fly B l e T cls h) (k:base.StaysIn B):Fly base l e T cls h :=
 ⟨fun b o q=>x.stays b o (k b o q),PySem.W.fresh_of_stays k x.ne,PySem.W.fresh_of_stays k x.nT,PySem.W.funFrames_base k x.fr,x.tr⟩
theorem Fly.base_in {base:Heap}{l:List Env}{e T:Addr}{cls:Value}{h:Heap}(x:Fly base l e T cls h):base.StaysIn (bigB h l e T):=fun b o q =>
 z4g (x.stays b o q) (fun z=>by rw [(x.fr.mem z).1] at q;cases q) (fun z=>by rw [z,x.ne] at q;cases q) fun z=>by rw [z,x.nT] at q;cases q
theorem z8L {l:List Env}{base h h':Heap}{T:Addr}{oT:Obj}{ts:Array Value}(fr:h.FunFrames base l) (ks:∀ b o,h.get? b=some o->b∈frs l->∃ sl,h'.get? b=some { o with slots:=sl }) (hT:h'.get? T=some oT) (hd:oT.data=.fields ts):T∉frs l:=fun z=>by
 obtain ⟨_,o,ho,nf⟩:=fr.mem z
 obtain ⟨sl,q⟩:=ks T o ho z
 rw [hT] at q
 cases q
 exact nf ts hd
section
variable {M:Model}{A:Around}{E:Value->Shared->Prop}{s:Shared}{base:Heap}{env:Env}{outer:List Env}{L e T:Addr}{cls:Value}{Q:Unit->Shared->Prop}
theorem z8Y (hfr:A.frames=some (env :: outer)) (hf:env.frame=some L) (x:Fly base (env :: outer) e T cls s.heap)
 (hQ:∀ h' T',Fly base (env :: outer) e T' cls h'->(T'=T∨s.heap.get? T'=none)->Kept (env :: outer) e T s.heap h'->Q () { s with heap:=h' }) :
 wpAny M A (noteFrame (.ref e) env) (fun _ s₂=>wpAny M A (setFlight (.ref e) none) Q E s₂) E s:=by
 obtain ⟨a0,big⟩:=x.big
 refine wpAny_looks_onW hfr hf big fun h1 held up1=>?_
 refine wpAny_landsW held fun h2 fly up2=>?_
 obtain ⟨T',F⟩:=Fly.of fly
 have up:=up1.trans up2
 have slot:∀ b o,s.heap.get? b=some o->b∈frs (env :: outer)->∃ sl,h2.get? b=some { o with slots:=sl }:=fun b o q z=>by
  obtain ⟨_,o',ho',nf⟩:=x.fr.mem z
  rw [q] at ho';cases ho'
  exact up b o q nf
 refine hQ h2 T' (F.down x.base_in) ?_ ⟨fun b o q h1 h2 h3=>F.stays b o (z4g q h1 h2 h3),slot⟩
 by_cases hT:T'=T
 ·exact .inl hT
 ·cases q:s.heap.get? T' with
  | none=>exact .inr rfl
  | some o =>
   obtain ⟨_,oe,vs,oT,ts,a1,a2,a3,a4,a6,a7,a8,a9⟩:=F.tr
   have nfr:=z8L x.fr slot a7 a8
   have:=z4g (l:=env :: outer) (e:=e) (T:=T) q nfr a6 hT
   rw [F.nT] at this
   cases this
theorem land (x:Fly base (env :: outer) e T cls s.heap)
 (hQ:∀ h',Fly base (env :: outer) e T cls h'->Kept (env :: outer) e T s.heap h'->Q () { s with heap:=h' }):wpAny M A (setFlight (.ref e) none) Q E s:=by
 obtain ⟨a0,oe,vs,oT,ts,a1,a2,a3,a4,a6,a7,a8,a9⟩:=x.tr
 have big:(bigB s.heap (env :: outer) e T).StaysIn s.heap:=fun b o q=>z8U q
 have hfun:s.heap.FunFrames (bigB s.heap (env :: outer) e T) (env :: outer):=z4l x.fr fun b hb=>List.mem_append_left _ hb
 have tr:s.heap.TracedAtW (bigB s.heap (env :: outer) e T) e cls a0 .none:=⟨oe,vs,T,oT,ts,a1,a2,a3,a4,z38 (.inr (.inr rfl)),a6,a7,a8,a9⟩
 unfold setFlight
 refine wpAny_bind (wpAny_field a1 a3 a4 ?_)
 rw [if_pos (show (Value.ref T != Value.none)=true from by simp)]
 refine wpAny_setField a7 a8 (Array.getElem?_eq_some_iff.mp a9).1 ?_
 have other:∀ b,b≠T->(s.heap.update T (Obj.mapFields (·.setIfInBounds 3 ((none:Option Addr).elim Value.none fun f=>rawInt f)))).get? b=s.heap.get? b:=fun b hb=>Heap.get?_update_other _ _ (Ne.symm hb)
 have frT:T∉frs (env :: outer):=fun z=>by
  obtain ⟨_,o,ho,nf⟩:=x.fr.mem z
  rw [a7] at ho;cases ho
  exact nf ts a8
 refine hQ _ ⟨fun b o q=>(other b fun z=>by rw [z,x.nT] at q;cases q).trans (x.stays b o q),x.ne,x.nT,x.fr.of_keeps fun b o q nf=>⟨o,(other b fun z=>by rw [z,a7] at q;cases q;exact nf ts a8).trans q,rfl⟩,?_⟩ ⟨fun b o q _ _ h3=>(other b h3).trans q,fun b o q z=>⟨o.slots,(other b fun y=>frT (y ▸ z)).trans q⟩⟩
 exact ⟨a0,oe,vs,_,_,(other e (Ne.symm a6)).trans a1,a2,a3,a4,a6,Heap.get?_update_self _ a7 (Obj.isFreed_of_fields (Obj.data_mapFields a8 _)),Obj.data_mapFields a8 _,by simp [(Array.getElem?_eq_some_iff.mp a9).1]⟩
theorem z73 {h:Heap}{args:List Value}(hfr:A.frames=some (env :: outer)) (hf:env.frame=some L) (st:base.StaysIn h) (hl:h.FunFrames base (env :: outer)) (hx:Heap.MadeExcOf h s.heap e cls args)
 (hQ:∀ h' T',Fly base outer e T' cls h'->h.get? T'=none->(∀ b o,h.get? b=some o->b∉frs (env :: outer)->h'.get? b=some o)->(∀ b o,h.get? b=some o->b∈frs (env :: outer)->∃ sl,h'.get? b=some { o with slots:=sl })->Q () { s with heap:=h' }) :
 wpAny M A (leaving env (.ref e)) Q E s:=by
 have bg:∀ b o,h.get? b=some o->b∉frs (env :: outer)->(PySem.W.hideAll h (frs (env :: outer))).get? b=some o:=fun b o q z=>PySem.W.hideAll_get _ q z
 refine wpAny_leaves_madeW (base:=PySem.W.hideAll h (frs (env :: outer))) hfr hf (fun b o q=>PySem.W.of_hideAll _ q) (z4l hl fun b hb=>hb) hx fun h' t fly _ _ up=>?_
 obtain ⟨T',F⟩:=Fly.of fly
 have sb:base.StaysIn (PySem.W.hideAll h (frs (env :: outer))):=fun b o q=>bg b o (st b o q) fun z=>by rw [(hl.mem z).1] at q;cases q
 have slot:∀ b o,h.get? b=some o->b∈frs (env :: outer)->∃ sl,h'.get? b=some { o with slots:=sl }:=fun b o q z=>by
  obtain ⟨_,o',ho',nf⟩:=hl.mem z
  rw [q] at ho';cases ho'
  exact up b o (hx.keeps b o q) nf
 refine hQ h' T' (F.down sb) ?_ (fun b o q z=>F.stays b o (bg b o q z)) slot
 cases q:h.get? T' with
 | none=>rfl
 | some o =>
  obtain ⟨_,oe,vs,oT,ts,a1,a2,a3,a4,a6,a7,a8,a9⟩:=F.tr
  have:=bg T' o q (z8L hl slot a7 a8)
  rw [F.nT] at this
  cases this
end
section
variable {X:Cx}{pins:List (Addr×Obj)}{σ:List (Option V)}{H H':Hp}{s:Shared}{h':Heap}
theorem Inv.stepN {g':Array GenState}{t':Nat}{d':Drawn}{ch:List Addr}(I:Inv X pins σ H s)
 (hch:∀ b∈ch,(b∈X.ex∨X.s₀.heap.get? b=none)/\b≠X.env.locals/\(∀ x c,X.env.cells.lookup x=some c->c≠b)/\∀ p∈X.pn++pins,p.1≠b)
 (keep:∀ b o,b≠X.env.locals->b∉X.fs->b∉ch->s.heap.get? b=some o->H b=none->h'.get? b=some o)
 (slot:∀ b o,b≠X.env.locals->b∈X.fs->b∉ch->s.heap.get? b=some o->H b=none->∃ sl,h'.get? b=some { o with slots:=sl }) (free:∀ b o,b∉ch->s.heap.get? b=some o->H b=none->H' b=none)
 (there:∀ b o,b∉ch->s.heap.get? b=some o->∃ o',h'.get? b=some o')
 (tups:∀ b xs,H b=some (.tup xs)->H' b=some (.tup xs)) (frzs:∀ b o u,H b=some (.frz o u)->H' b=some (.frz o u)) (tbls:∀ b ps,H b=some (.tbl ps)->∃ more,H' b=some (.tbl (ps++more)))
 (ns:∀ m,s.heap.Ns X.env.locals m->h'.Ns X.env.locals m) (hok:HOk X.prog X.w H' h') (hg:AllBare g') :
 Inv X pins σ H' { s with heap:=h',gens:=g',drawn:=d',toks:=t' }:=by
 have neL:∀ b o,X.s₀.heap.get? b=some o->b≠X.env.locals:=fun b o e=>Nat.ne_of_lt (Nat.lt_of_lt_of_le (Heap.lt_size e) I.ok.above)
 have neC:∀ b o,X.s₀.heap.get? b=some o->b∉X.ex->b∉ch:=fun b o e hx hb=>by
  rcases (hch b hb).1 with z | z
  ·exact hx z
  ·rw [e] at z;cases z
 have cellK:∀ x c,X.env.cells.lookup x=some c->∀ v,s.heap.IsCell c v->h'.IsCell c v:=fun x c e v ⟨o,ho,hd⟩=>by
  have nch:c∉ch:=fun z=>(hch c z).2.2.1 x c e rfl
  by_cases hc:c∈X.fs
  ·obtain ⟨sl,q⟩:=slot c o (I.cne x c e) hc nch ho (I.freeC x c e)
   exact ⟨_,q,hd⟩
  ·exact ⟨o,keep c o (I.cne x c e) hc nch ho (I.freeC x c e),hd⟩
 refine ⟨I.ok,I.os,hg,⟨fun b o e n hb hx=>?_,fun b o e n hb hx=>?_,fun b o e n hx=>?_,fun b o e hx=>?_,fun b xs e=>tups b xs (I.base.tups b xs e),fun b o xs e=>frzs b o xs (I.base.frzs b o xs e),fun b ps e=>?_⟩,?_,fun x c e=>?_,?_,fun x c e=>?_,fun p hp=>?_,hok,I.len⟩
 ·exact keep b o (neL b o e) hb (neC b o e hx) (I.base.keep b o e n hb hx) (I.base.free b o e n hx)
 ·obtain ⟨sl,e1⟩:=I.base.slot b o e n hb hx
  obtain ⟨sl',e2⟩:=slot b _ (neL b o e) hb (neC b o e hx) e1 (I.base.free b o e n hx)
  exact ⟨sl',e2⟩
 ·obtain ⟨o',e1⟩:=I.base.there b o e hx
  exact free b o' (neC b o e hx) e1 (I.base.free b o e n hx)
 ·obtain ⟨o',e1⟩:=I.base.there b o e hx
  exact there b o' (neC b o e hx) e1
 ·obtain ⟨m1,e1⟩:=I.base.tbls b ps e
  obtain ⟨m2,e2⟩:=tbls b _ e1
  exact ⟨m1++m2,by rw [e2,Array.append_assoc]⟩
 ·obtain ⟨m,hn,hl⟩:=I.loc
  refine ⟨m,ns m hn,fun i x v e1 e2 e3=>?_⟩
  obtain ⟨u,r,l⟩:=hl i x v e1 e2 e3
  refine ⟨u,r,?_⟩
  rcases l with l | ⟨k,c,e,z⟩
  ·exact .inl l
  ·exact .inr ⟨k,c,e,cellK x c e _ z⟩
 ·obtain ⟨v,z⟩:=I.cell x c e
  exact ⟨v,cellK x c e v z⟩
 ·obtain ⟨m,⟨o,_,_,ho,_⟩,_⟩:=I.loc
  exact free _ o (fun z=>(hch _ z).2.1 rfl) ho I.free
 ·obtain ⟨v,o,ho,hd⟩:=I.cell x c e
  exact free c o (fun z=>(hch c z).2.2.1 x c e rfl) ho (I.freeC x c e)
 ·obtain ⟨e,n,ne,nf,d⟩:=I.pin p hp
  have nch:p.1∉ch:=fun z=>(hch p.1 z).2.2.2 p hp rfl
  exact ⟨keep p.1 p.2 ne nf nch e n,free p.1 p.2 nch e n,ne,nf,d⟩
theorem Inv.callN {g':Array GenState}{t':Nat}{d':Drawn}{ch:List Addr}(I:Inv X pins σ H s) (u:Un (frs X.stack) ch H H' s.heap h') (hok:HOk X.prog X.w H' h') (hg:AllBare g')
 (hch:∀ b∈ch,(b∈X.ex∨X.s₀.heap.get? b=none)/\b≠X.env.locals/\(∀ x c,X.env.cells.lookup x=some c->c≠b)/\∀ p∈X.pn++pins,p.1≠b) :
 Inv X pins σ H' { s with heap:=h',gens:=g',drawn:=d',toks:=t' }:=by
 obtain ⟨m,⟨o,es,ep,ho,r⟩,_⟩:=id I.loc
 obtain ⟨sl,hL⟩:=u.any ho I.free fun z=>(hch _ z).2.1 rfl
 exact I.stepN (ch:=ch) hch (fun b o hL hb hc e n=>u.keep b o e n (fun z=>(List.mem_cons.mp (I.stkSub b z)).elim hL hb) hc) (fun b o _ _ hc e n=>u.any e n hc) (fun b o hc e n=>u.free b o e n hc) (fun b o hc e=>u.there b o e hc) u.tups u.frzs u.tbls (fun m' hm=>by
  obtain ⟨o',es',ep',ho',r'⟩:=hm
  rw [ho] at ho';cases ho'
  exact ⟨_,es',ep',hL,r'⟩) hok hg
theorem ObjOk.there {P:Program}{w:World}{h:Heap}{a:Addr}{o:HO}(x:ObjOk P w H h a o):∃ u,h.get? a=some u:=by
 cases o with
 | lst xs=>obtain ⟨_,_,_,_,e⟩:=x;exact ⟨_,e⟩
 | tup xs=>obtain ⟨_,_,_,u,e,_⟩:=x;exact ⟨_,e⟩
 | dK kvs=>obtain ⟨_,_,_,_,u,_,_,e,_⟩:=x;exact ⟨_,e⟩
 | dT kvs=>obtain ⟨_,_,_,_,u,_,_,e,_⟩:=x;exact ⟨_,e⟩
 | set ks=>obtain ⟨u,_,_,_,_,e,_⟩:=x;exact ⟨_,e⟩
 | ins C dx fs=>obtain ⟨_,_,_,e,_⟩:=x;exact ⟨_,e⟩
 | own y=>obtain ⟨_,e⟩:=x;exact ⟨_,e⟩
 | xd fs=>obtain ⟨_,⟨_,_,_,e,_⟩,_⟩:=x;exact ⟨_,e⟩
 | rng lo hi=>obtain ⟨_,_,_,e⟩:=x;exact ⟨_,e⟩
 | frz ob u=>obtain ⟨e,_⟩:=x;exact ⟨_,e⟩
 | tbl ps=>exact ⟨_,(show h.get? a=some _ from x)⟩
 | met f y=>exact ⟨_,(show h.get? a=some _ from x)⟩
 | ext φ=>obtain ⟨_,⟨_,e⟩,_⟩:=x;exact ⟨_,e⟩
theorem HOk.none {P:Program}{w:World}{h:Heap}{a:Addr}(x:HOk P w H h) (e:h.get? a=.none):H a=.none:=by
 cases q:H a with
 | none=>rfl
 | some u=>obtain ⟨o,z⟩:=(x a u q).there;rw [e] at z;cases z
theorem HOk.trk {P:Program}{w:World}{h h':Heap}(x:HOk P w H h) (k:∀ b u o,H b=some u->h.get? b=some o->h'.get? b=some o):HOk P w H h':=fun a o e =>
 (x a o e).stay (fun b u hb q=>by
  rcases hb with rfl | hb
  ·exact k _ _ _ e q
  ·exact k _ _ _ hb q) (fun _ q=>q) fun _ _ q=>q
end
def CXE (P:Program) (w:World) (base:Heap):CXT:=fun outer H s E e s'=>∃ a T C H',e=.ref a/\Fly base outer a T (.ref C) s'.heap/\s.heap.get? a=none/\s.heap.get? T=none/\H' a=none/\H' T=none/\s'.os=s.os/\AllBare s'.gens /\
 Un (frs outer) [] H H' s.heap s'.heap/\HOk P w H' s'.heap/\E (.ref C) none H'
theorem z4y {P:Program}{w:World}{K:PySem.W.Frag}{mg:Str->Option Value}{base:Heap}{N:List Str}{qual:Str}{scope:Scope}{f:Addr}{cd:Value}{A:Around}{outer:List Env}{s s2:Shared}{H H':Hp}{E:XK}{pins:List (Addr×Obj)}{σ:St}{h3:Heap}{e C:Addr}{args:List Value}
 (I:Inv (cxOf (CXE P w base) P w K mg base N qual scope f cd A outer s H E) pins σ H' s2) (hx:Heap.MadeExcOf s2.heap h3 e (.ref C) args) (hE:E (.ref C) none H') :
 (cxOf (CXE P w base) P w K mg base N qual scope f cd A outer s H E).xe (.ref e) { s2 with heap:=h3 }:=by
 show wpAny (model P w) (A.deeper (envOfC qual scope s.heap.objs.size f cd)) (leaving (envOfC qual scope s.heap.objs.size f cd) (.ref e)) _ _ { s2 with heap:=h3 }
 have nm:∀ b:Addr,b∉([]:List Addr):=fun b z=>nomatch z
 have frf:=I.stkFree
 refine z73 (L:=s.heap.objs.size) (h:=s2.heap) (args:=args) (cls:=.ref C) I.ok.frames rfl (fun b o q=>I.bk b o q) I.stack hx fun h' T' F hT keep slot=>?_
 have old:∀ b,s2.heap.get? b=none->s.heap.get? b=none:=fun b q=>by
  cases z:s.heap.get? b with
  | none=>rfl
  | some o=>obtain ⟨o',y⟩:=I.base.there b o z (nm b);rw [q] at y;cases y
 have sub:∀ b∈frs outer,b∈frs (envOfC qual scope s.heap.objs.size f cd :: outer):=fun b hb=>by
  unfold frs at hb ⊢
  rw [List.filterMap_cons]
  cases (envOfC qual scope s.heap.objs.size f cd).frame with
  | none=>exact hb
  | some x=>exact List.mem_cons_of_mem _ hb
 have cs:∀ b∈frs (envOfC qual scope s.heap.objs.size f cd :: outer),b=s.heap.objs.size∨b∈frs outer:=fun b hb=>by
  unfold frs at hb
  rw [List.filterMap_cons,show (envOfC qual scope s.heap.objs.size f cd).frame=some s.heap.objs.size from rfl] at hb
  exact List.mem_cons.mp hb
 have nL:∀ b o,s.heap.get? b=some o->b≠s.heap.objs.size:=fun b o q=>Nat.ne_of_lt (Heap.lt_size q)
 refine ⟨e,T',C,H',rfl,F,old e hx.new,old T' hT,I.hok.none hx.new,I.hok.none hT,I.os,I.bare,⟨fun b o q n hb _=>?_,fun b o q n hb _=>?_,fun b o q n _=>I.base.free b o q n (nm b),fun b o q _=>?_,I.base.tups,I.base.frzs,I.base.tbls⟩,I.hok.trk fun b u o q z=>?_,hE⟩
 ·exact keep b o (I.base.keep b o q n hb (nm b)) fun z=>(cs b z).elim (nL b o q) hb
 ·obtain ⟨sl,y⟩:=I.base.slot b o q n hb (nm b)
  obtain ⟨sl',y'⟩:=slot b _ y (sub b hb)
  exact ⟨sl',y'⟩
 ·obtain ⟨o',y⟩:=I.base.there b o q (nm b)
  by_cases z:b∈frs (envOfC qual scope s.heap.objs.size f cd :: outer)
  ·obtain ⟨sl',y'⟩:=slot b _ y z
   exact ⟨_,y'⟩
  ·exact ⟨_,keep b _ y z⟩
 ·exact keep b o z fun y=>by rw [frf b y] at q;cases q
section
variable {M:Model}{A:Around}{E:Value->Shared->Prop}{h:Heap}{g:Array GenState}{d:Drawn}{t:Nat}{os:OsState}{C Ch e:Addr}{oe:Obj}{b:Bool}{Q:Bool->Shared->Prop}
 {nm q:Str} {N:Addr} {bs bm:List Value} {hdct:Bool} {sn:List Str} {sub:List Value} {ab:Bool} {col:Option Bool} {dd:Option Addr} {k0 k1 k2 k3 k5:Option Value} {newId:String}
 {nm' q':Str} {N':Addr} {bs' bm':List Value} {hdct':Bool} {sn':List Str} {sub':List Value} {ab':Bool} {col':Option Bool} {dd':Option Addr} {k0' k1' k2' k3' k5':Option Value} {newId':String}
theorem z7E (hC:h.get? C=some (excClassObj nm q C N bs bm hdct sn sub ab col dd k0 k1 k2 k3 k5 newId)) (hH:h.get? Ch=some (excClassObj nm' q' Ch N' bs' bm' hdct' sn' sub' ab' col' dd' k0' k1' k2' k3' k5' newId'))
 (he:h.get? e=some oe) (hcls:oe.cls=.ref C) (hbase:bm'.contains (.type "BaseException")=true) (hin:(Value.ref C :: bm).contains (.ref Ch)=b) (hq:Q b ⟨h,g,d,t,os⟩):wpAny M A (excMatches (.ref e) (.ref Ch)) Q E ⟨h,g,d,t,os⟩:=by
 have hB:(Value.ref Ch :: bm').contains (.type "BaseException")=true:=by rw [List.contains_cons,hbase,Bool.or_true]
 have f:=tc_notTuple
 unfold excMatches
 repeat (first | (with_reducible refine wpAny_loadPart_at he ?_;rw [hcls]) | with_reducible refine wpAny_loadPart_at hH ?_ | with_reducible refine wpAny_loadPart_at hC ?_ | (with_reducible refine wpAny_isSubtype_exc hC ?_;rw [hin]) | (with_reducible refine wpAny_isSubtype_exc hH ?_;rw [hB]) | wp_step)
 cases b with
 | true=>wp_walk;exact hq
 | false=>wp_walk;exact hq
end
def Cx.inside (X:Cx) (e:Value):Cx:={ X with A:=X.A.mark (some e),calm:=false,xe:=fun _ _=>False }
section
variable {X:Cx}{pins:List (Addr×Obj)}{σ:St}{H:Hp}{s:Shared}{e:Value}
theorem Inv.inside (I:Inv X pins σ H s) (e:Value):Inv (X.inside e) pins σ H s :=
 ⟨⟨I.ok.mod,I.ok.kind,I.ok.glob,I.ok.blt,I.ok.above,I.ok.inj,I.ok.has,I.ok.cab,(fun z=>nomatch z),I.ok.frames,I.ok.stk,I.ok.exf,I.ok.bs,I.ok.bsz,I.ok.noex,I.ok.exfs,I.ok.funs,I.ok.frf⟩,I.os,I.bare,I.base,I.loc,I.cell,I.free,I.freeC,I.pin,I.hok,I.len⟩
theorem Inv.outside (I0:X.Ok) (I:Inv (X.inside e) pins σ H s):Inv X pins σ H s:=⟨I0,I.os,I.bare,I.base,I.loc,I.cell,I.free,I.freeC,I.pin,I.hok,I.len⟩
theorem SP.outside {D:Ends}{f:Flow}{s':Shared}(I0:X.Ok) (h:SP (X.inside e) pins D f s'):SP X pins D f s':=by
 cases f with
 | next=>obtain ⟨σ',H',I,q⟩:=h;exact ⟨σ',H',I.outside I0,q⟩
 | brk=>obtain ⟨σ',H',I,q⟩:=h;exact ⟨σ',H',I.outside I0,q⟩
 | cont=>obtain ⟨σ',H',I,q⟩:=h;exact ⟨σ',H',I.outside I0,q⟩
 | ret u=>obtain ⟨v,σ',H',I,r,q⟩:=h;exact ⟨v,σ',H',I.outside I0,r,q⟩
theorem Inv.noted {a T:Addr}{h':Heap}{l:List Env}(I:Inv X pins σ H s) (hl:X.stack=l) (ha:H a=none) (hT:H T=none) (na:∀ b,b=a∨b=T->(b∈X.ex∨X.s₀.heap.get? b=none)/\b≠X.env.locals/\(∀ x c,X.env.cells.lookup x=some c->c≠b)/\∀ p∈X.pn++pins,p.1≠b) (K:Kept l a T s.heap h'):Inv X pins σ H { s with heap:=h' }:=by
 subst hl
 have mm:∀ b:Addr,b∈[a,T]->b=a∨b=T:=fun b z=>by simpa using z
 refine I.callN (g':=s.gens) (t':=s.toks) (d':=s.drawn) (ch:=[a,T]) ⟨fun b o q n hb hx=>K.keep b o q hb (fun z=>hx (by simp [z])) fun z=>hx (by simp [z]),fun b o q n hb hx=>K.slot b o q hb,fun b o q n hx=>n,fun b o q hx=>?_,fun _ _ q=>q,fun _ _ _ q=>q,fun _ ps q=>⟨#[],by rw [q];simp⟩⟩ (I.hok.trk fun b u o q z=>?_) I.bare fun b hb=>na b (mm b hb)
 ·by_cases z:b∈frs X.stack
  ·obtain ⟨sl,y⟩:=K.slot b o q z;exact ⟨_,y⟩
  ·exact ⟨o,K.keep b o q z (fun y=>hx (by simp [y])) fun y=>hx (by simp [y])⟩
 ·exact K.keep b o z (fun y=>by rw [I.stkFree b y] at q;cases q) (fun y=>by rw [y,ha] at q;cases q) fun y=>by rw [y,hT] at q;cases q
theorem zo0 {b:Addr}(I:Inv X pins σ H s) (q:s.heap.get? b=none):(b∈X.ex∨X.s₀.heap.get? b=none)/\b≠X.env.locals/\(∀ x c,X.env.cells.lookup x=some c->c≠b)/\∀ p∈X.pn++pins,p.1≠b:=by
 refine ⟨?_,fun z=>?_,fun x c e z=>?_,fun p hp z=>?_⟩
 ·by_cases hx:b∈X.ex
  ·exact .inl hx
  ·refine .inr ?_
   cases y:X.s₀.heap.get? b with
   | none=>rfl
   | some o=>obtain ⟨o',w⟩:=I.base.there b o y hx;rw [q] at w;cases w
 ·obtain ⟨m,⟨o,_,_,ho,_⟩,_⟩:=I.loc
  rw [← z,q] at ho;cases ho
 ·obtain ⟨v,o,ho,_⟩:=I.cell x c e
  rw [z,q] at ho;cases ho
 ·have:=(I.pin p hp).1
  rw [z,q] at this;cases this
end
structure Clss (K:PySem.W.Frag) (C:Addr) (bm:List Value):Prop where
 ex:∃ nm q N bs hdct sn sub ab col dd k0 k1 k2 k3 k5 newId,K.lookup C=some (excClassObj nm q C N bs bm hdct sn sub ab col dd k0 k1 k2 k3 k5 newId)
section
variable {X:Cx}{pins:List (Addr×Obj)}{σ:St}{H1:Hp}{s1 s':Shared}{e:Value}{E:XK}{cn n:Str}{Ch:Addr}{bmH:List Value}{np hpos:Pos}{b₀:Stmt}{suite:List Stmt}{EE:Value->Shared->Prop}{D:Ends}{ts:TS}
theorem back {u:Value}(I1:Inv X pins σ H1 s1) (c:CXE X.prog X.w X.base X.stack H1 s1 E u s'):∃ a T C H',u=.ref a/\Fly X.base X.stack a T (.ref C) s'.heap/\s1.heap.get? a=none/\s1.heap.get? T=none/\H' a=none/\H' T=none/\Inv X pins σ H' s'/\E (.ref C) none H':=by
 obtain ⟨a,T,C,H',rfl,F,n1,n2,u1,u2,os,bare,un,hok,hE⟩:=c
 obtain ⟨hh,g,d,t,os'⟩:=s'
 obtain rfl:os'=s1.os:=os
 exact ⟨a,T,C,H',rfl,F,n1,n2,u1,u2,I1.call (h':=hh) (g':=g) (d':=d) (t':=t) (ch:=[]) un hok bare (fun b z=>absurd z (by simp)),hE⟩
end
def z2n:List Str:=["__getattribute__","__getattr__","__class__"]
inductive Tail3 (h:Heap) (bmB:List Value):List Value->Prop
 | base:Tail3 h bmB bmB
 | own {A:Addr} {c0:Value} {dd:Option Addr} {cd:ClassData} {sl:Array (Option Value)} {mA:Str->Option Value} {tl:List Value}:h.get? A=some { cls:=c0,dict:=dd,data:=.cls cd,slots:=sl }->h.Ns cd.ns mA->(∀ n∈z2n,mA n=none)->Tail3 h bmB tl->Tail3 h bmB (.ref A :: tl)
theorem Tail3.has {h:Heap}{bmB tl:List Value}(T:Tail3 h bmB tl) {x:String}{b:Bool}(e:bmB.contains (.type x)=b):tl.contains (.type x)=b:=by
 induction T with
 | base=>exact e
 | own _ _ _ _ ih=>rw [List.contains_cons,ih];rfl
section
variable {M:Model}{A:Around}{E:Value->Shared->Prop}{h:Heap}{g:Array GenState}{d:Drawn}{t:Nat}{os:OsState}
theorem zs4 {bmB tl:List Value}{n:Str}{y:Option Value}{Q:Option Value->Shared->Prop}(hn:n∈z2n) (T:Tail3 h bmB tl) (rest:lookupAlong bmB n=pure y) (hq:Q y ⟨h,g,d,t,os⟩):wpAny M A (lookupAlong tl n) Q E ⟨h,g,d,t,os⟩:=by
 induction T with
 | base=>rw [rest];exact wpAny_pure hq
 | own a1 a2 a3 _ ih =>
  rw [lookupAlong_cons]
  refine wpAny_bind (wpAny_classOwn_cls a1 a2 ?_)
  rw [a3 n hn]
  exact ih
structure Ex3 (h:Heap) (C:Addr) (B:String) (bmB:List Value):Prop where
 ex:∃ nm q N bs bm hdct sn sub ab col dd k0 k1 k2 k3 k5 newId mN,h.get? C=some (excClassObj nm q C N bs bm hdct sn sub ab col dd k0 k1 k2 k3 k5 newId)/\h.Ns N mN/\(∀ n∈z2n,mN n=none)/\Tail3 h bmB bm
theorem zk1 {C:Addr}{B:String}{bmB:List Value}{n:Str}{y:Option Value}{Q:Option Value->Shared->Prop}(X:Ex3 h C B bmB) (hn:n∈z2n) (hbm:mroOf (.type B)=pure bmB) (hB:typeLookup (.type B) n=pure y) (hq:Q y ⟨h,g,d,t,os⟩) :
 wpAny M A (typeLookup (.ref C) n) Q E ⟨h,g,d,t,os⟩:=by
 obtain ⟨nm,q,N,bs,bm,hdct,sn,sub,ab,col,dd,k0,k1,k2,k3,k5,newId,mN,hC,hN,hm,T⟩:=X.ex
 have rest:lookupAlong bmB n=pure y:=by rw [typeLookup_eq,hbm] at hB;exact hB
 rw [typeLookup_eq]
 refine wpAny_bind (wpAny_mroOf_exc hC ?_)
 rw [lookupAlong_cons]
 refine wpAny_bind (wpAny_classOwn_exc hC hN ?_)
 rw [hm n hn]
 exact zs4 hn T rest hq
theorem sub3 {C:Addr}{B T:String}{bmB:List Value}{Q:Bool->Shared->Prop}{b:Bool}(X:Ex3 h C B bmB) (e:bmB.contains (.type T)=b) (hq:Q b ⟨h,g,d,t,os⟩):wpAny M A (isSubtype (.ref C) (.type T)) Q E ⟨h,g,d,t,os⟩:=by
 obtain ⟨nm,q,N,bs,bm,hdct,sn,sub,ab,col,dd,k0,k1,k2,k3,k5,newId,mN,hC,hN,hm,TL⟩:=X.ex
 refine wpAny_isSubtype_exc hC ?_
 rw [List.contains_cons,TL.has e]
 exact hq
end
abbrev bmV:List Value:=[.type "ValueError",.type "Exception",.type "BaseException",.type "object"]
theorem zc1:typeLookup (.type "ValueError") "__class__" = pure (some (.builtin "object.__class__")):=by rw [typeLookup_type,builtinLookup_eq_fast];kernel_rfl
theorem has_obj:bmV.contains (.type (".".intercalate ("object.__class__".cutAt '.').dropLast))=true:=by rw [F.owner_object_class];decide +kernel
section
variable {prog:Program}{w:World}{A:Around}{E:Value->Shared->Prop}{h:Heap}{g:Array GenState}{d:Drawn}{t:Nat}{os:OsState}{a C:Addr}{o:Obj}
theorem cg3 {R:Result->Shared->Prop}(X:Ex3 h C "ValueError" bmV) (hx:h.get? a=some o) (hc:o.cls=.ref C) (hq:R (.ok (.ret (.ref C))) ⟨h,g,d,t,os⟩) :
 codeAny (model prog w) A (.call (.builtin "getset_descriptor.__get__") ⟨[.builtin "object.__class__",.ref a,.ref C],[]⟩) R ⟨h,g,d,t,os⟩:=by
 have hT5:(⟨h,g,d,t,os⟩:Shared).TypeIs (.builtin "object.__class__") "getset_descriptor":=F.typeOf_object_class
 refine codeAny_call_builtin F.slot_gs_get.plain F.entry_gs_get (F.slot_gs_get.check _ _ _ _ _ _ _ _ hT5 (F.args_gs_get _ _ _) ?_)
 repeat (any_goals (first | assumption | (with_reducible refine wpAny_loadPart_at hx ?_;rw [hc]) | with_reducible refine sub3 X has_obj ?_ | wp_step))
 refine ⟨Code.quiet_builtin _ (by decide +kernel),codeAny_builtin F.entry_object_class ?_⟩
 repeat (any_goals (first | assumption | (with_reducible refine wpAny_loadPart_at hx ?_;rw [hc]) | wp_step))
theorem ce3 {tk:Tok}{Q:Fin->Shared->Prop}(X:Ex3 h C "ValueError" bmV) (hx:h.get? a=some o) (hc:o.cls=.ref C) (hq:Q (.done (.ret (.ref C))) ⟨h,g,d,t,os⟩) :
 wpAny (model prog w) A (Builtin.«object.__getattribute__» ⟨[.ref a,.str "__class__" tk],[]⟩) Q E ⟨h,g,d,t,os⟩:=by
 have hT5:(⟨h,g,d,t,os⟩:Shared).TypeIs (.builtin "object.__class__") "getset_descriptor":=F.typeOf_object_class
 have f5:=F.typeOf_object_class
 have f6:=F.slot_gs_get.lookup
 have f7:=F.slot_gs_set.lookup
 have hm:("__class__":Str)∈z2n:=.tail _ (.tail _ (.head _))
 repeat (any_goals (first | assumption | (with_reducible refine wpAny_loadPart_at hx ?_;rw [hc]) | with_reducible refine zk1 X hm F.attrBase_ValueError.mro zc1 ?_ | wp_step))
 refine cg3 X hx hc ?_
 repeat (any_goals (first | assumption | wp_step))
theorem chk3 {M:Model}{nameV:Value}{Q:Unit->Shared->Prop}(X:Ex3 h C "ValueError" bmV) (hx:h.get? a=some o) (hc:o.cls=.ref C) (hq:Q () ⟨h,g,d,t,os⟩):wpAny M A (checkBuiltinCall "BaseException.__getattribute__" ⟨[.ref a,nameV],[]⟩) Q E ⟨h,g,d,t,os⟩:=by
 have k1:builtinKind "BaseException.__getattribute__" = some .slot:=by decide +kernel
 have k2:splitId "BaseException.__getattribute__" = some ("BaseException","__getattribute__"):=by decide +kernel
 have k3:=F.args_bexc_ga (.ref a) nameV
 have k4:bmV.contains (.type "BaseException")=true:=by decide +kernel
 simp only [checkBuiltinCall,k1,k2]
 refine wpAny_bind ?_
 ·unfold isInstance
  repeat (first | (with_reducible refine wpAny_loadPart_at hx ?_;rw [hc]) | with_reducible refine sub3 X k4 ?_ | wp_step)
  exact hq
theorem cc3 {tk:Tok}{R:Result->Shared->Prop}(X:Ex3 h C "ValueError" bmV) (hx:h.get? a=some o) (hc:o.cls=.ref C) (hq:R (.ok (.ret (.ref C))) ⟨h,g,d,t,os⟩) :
 codeAny (model prog w) A (.call (.builtin "BaseException.__getattribute__") ⟨[.ref a,.str "__class__" tk],[]⟩) R ⟨h,g,d,t,os⟩ :=
 codeAny_call_builtin F.attrBase_ValueError.ga.plain F.entry_bexc_ga (chk3 X hx hc (ce3 X hx hc hq))
theorem cb3 {tk:Tok}{Q:Value->Shared->Prop}(X:Ex3 h C "ValueError" bmV) (hx:h.get? a=some o) (hc:o.cls=.ref C) (hq:Q (.ref C) ⟨h,g,d,t,os⟩) :
 wpAny (model prog w) A (getAttrBy (.ref a) (.str "__class__" tk) false) Q E ⟨h,g,d,t,os⟩:=by
 have f3:=F.attrBase_ValueError.ga.bind (.ref a)
 have x2:(Value.builtin "BaseException.__getattribute__" == Value.builtin "object.__getattribute__")=false:=by decide +kernel
 have x1:(onTheHeap (Value.ref C) && Value.builtin "BaseException.__getattribute__" == Value.builtin "object.__getattribute__")=false:=by rw [x2];rfl
 have m1:("__getattribute__":Str)∈z2n:=.head _
 have m2:("__getattr__":Str)∈z2n:=.tail _ (.head _)
 repeat (any_goals (first | assumption | (with_reducible refine wpAny_loadPart_at hx ?_;rw [hc]) | with_reducible refine zk1 X m1 F.attrBase_ValueError.mro F.attrBase_ValueError.ga.lookup ?_ | with_reducible refine zk1 X m2 F.attrBase_ValueError.mro F.attrBase_ValueError.noGetattr ?_ | wp_step))
 refine cc3 X hx hc ?_
 repeat (any_goals (first | assumption | wp_step))
theorem ca3 {Q:Option Value->Shared->Prop}(X:Ex3 h C "ValueError" bmV) (hx:h.get? a=some o) (hc:o.cls=.ref C) (hq:Q (some (.ref C)) ⟨h,g,d,t+1,os⟩):wpAny (model prog w) A (getAttr? (.ref a) "__class__") Q E ⟨h,g,d,t,os⟩:=by
 unfold getAttr? getAttrBy?
 repeat (any_goals (first | assumption | with_reducible apply cb3 X hx hc | wp_step))
end
theorem zb1 {K:PySem.W.Frag}{a C:Addr}(hcl:∃ o cd,K.lookup C=some o/\o.data=.cls cd) (hX:∀ h,K.In h->Ex3 h C "ValueError" bmV):PySem.W.KitX K (.ref a) (.ref C) (fun h=>∃ o,h.get? a=some o/\o.cls=.ref C) where
 ty:=fun M h _ ⟨o,h1,h2⟩=>h2 ▸ (PySem.W.Looks.ld h1).andThen .now
 it:=fun _ _ X _=>by
  obtain ⟨o,cd,ho,hd⟩:=hcl
  intro A' Q' E' s' k q
  unfold isType loadHead
  refine wpAny_bind (wpAny_loadPart (k _ _ (X _ _ ho)) ?_)
  rw [hd]
  exact wpAny_pure q
 ne:=fun h tp dd its n sl X htp=>by
  obtain ⟨o,cd,ho,hd⟩:=hcl
  refine Bool.eq_false_iff.mpr fun q=>?_
  have e:C=tp:=Value.ref.inj (beq_iff_eq.mp q)
  subst e
  have z:=(X _ _ ho).symm.trans htp
  cases z
  cases hd
 ca:=fun {_ _ _ _ _ s} X ⟨o,h1,h2⟩ k=>by
  obtain ⟨hh,g,d,t,os⟩:=s
  exact ca3 (hX _ X) h1 h2 k
section
variable {X:Cx}{x:Str}{C:Addr}{bm:List Value}{B newId initId:String}{e₀:Expr}{rest:List Expr}{t:TA}{np cpos pos:Pos}{R:Hp->Prop}
theorem zb5 (O':∀ h,X.K.In h->OwnCls x C bm newId X.mg h) (FB:ExcBaseFacts B newId initId bm) (hc:X.calm=true) (hg:Gl X x) (ha:PA X (e₀ :: rest) t)
 (hX:∀ pins σ H s h' e vs,Inv X pins σ H s->Heap.MadeExcOf s.heap h' e (.ref C) vs->R H->X.xe (.ref e) { s with heap:=h' })
 (he:starEach (e₀ :: rest) X.env=(false,eval e₀ X.env) :: starEach rest X.env:=by rfl) (hpl:(backTo cpos (starEach rest X.env)).any (·.1)=false:=by rfl) (hd:(x == ("__debug__":Str))=false:=by decide) :
 PS X (.Raise (some (.Call (.Name x np) (e₀ :: rest) [] cpos)) none pos) (fun _ σ H=>t σ H fun vs H1=>vs.length≤sizeLine/\R H1):=by
 intro pins s σ H D I h
 have O:=O' X.base I.mod.kin
 obtain ⟨tl,N,nm,q,bs,hdct,sn,sub,ab,col,dd,k0,k1,k2,k3,k5,mN,hC,hN,hni,T⟩:=O.obj
 refine wpAny_Raise_call_subT (C:=C) (nm:=nm) (q:=q) (N:=N) (bs:=bs) (bm:=tl) (hdct:=hdct) (sn:=sn) (sub:=sub) (ab:=ab) (col:=col) (dd:=dd) (k0:=k0) (k1:=k1) (k2:=k2) (k3:=k3) (k5:=k5)
  FB (mN:=mN) (T.hasType FB.hasBase) (I.ok.hd hc) (by rw [he];show (false || (backTo cpos (starEach rest X.env)).any (·.1))=false;rw [hpl];rfl) hni (z3a I hg O.bound ⟨rfl,?_⟩ hd)
 have ha':=ha cpos pins s σ H _ I h
 rw [he] at ha' ⊢
 exact Calls.evalArgs_plain (wpAny_mono ha' (fun us s2 ⟨vs,H2,I2,r2,q2⟩=>⟨rfl,by rw [← r2.length];exact q2.1,I2.bk _ _ hC,hN.keeps I2.bk,T.keeps I2.bk,fun h' e hm=>hX pins σ H2 s2 h' e us I2 hm q2.2⟩) fun _ _ y=>y)
end
section
variable {X:Cx}{CX:CXT}{k:Nat}{f:Addr}{fd:FuncData}{ps:List Str}{sp:Sp}{E:XK}{x:Str}{p pos:Pos}{e:Expr}{es:List Expr}{t:TA}{EE:Value->Shared->Prop}{Q:VK}{pins:List (Addr×Obj)}{σ:St}{H:Hp}{s:Shared}
theorem PA.quiet (h:PA X.nox (e :: es) t) (pos:Pos) (I:Inv X pins σ H s) {Q:List V->Hp->Prop}(q:t σ H Q):wpAny (model X.prog X.w) X.A (spliced (backTo pos (starEach (e :: es) X.env))) (AP X pins σ Q) EE s :=
 wpAny_mono (h pos pins s σ H Q (I.wish _) q) (fun _ _ ⟨vs,H',I',r,q⟩=>⟨vs,H',I'.unwish,r,q⟩) fun _ _ z=>False.elim z
theorem zC3 (F:FnOk X.prog X.w X.K X.mg X.base CX k f fd ps sp) (hr:Room k X.A) (hg:Gl X x) (hm:X.mg x=some (.ref f)) (hk:PySem.W.keepIn X.K (.ref f)=true) (hb:Binds X.K fd ps [])
 (ha:PA X.nox (e :: es) t) (I:Inv X pins σ H s) (h:t σ H fun vs H1=>sp vs H1 Q E) (hx:∀ H1 s1 u s',Inv X pins σ H1 s1->CX X.stack H1 s1 E u s'->EE u s')
 (hdb:(x == ("__debug__":Str))=false:=by decide) (he:starEach (e :: es) X.env=(false,eval e X.env) :: starEach es X.env:=by rfl) (hpl:(backTo pos (starEach es X.env)).any (·.1)=false:=by rfl) :
 wpAny (model X.prog X.w) X.A (eval (.Call (.Name x p) (e :: es) [] pos) X.env) (EP X pins σ Q) EE s:=by
 refine wpAny_Call_Name_kw (z3a I hg hm ?_ hdb)
 refine PySem.W.callWith_K (h₀:=X.base) I.ok.mod.kin hk (thn (PA.quiet ha pos I h) fun us s1 ⟨vs,H1,I1,r,q⟩=>⟨I1.kIn,?_⟩) he hpl
 have hl:(us++[]).length=ps.length:=by rw [List.append_nil,← r.length];exact F.len _ _ _ _ q
 refine wpAny_call (codeAny_mono (F.run X.A X.stack s1 H1 ⟨us,[]⟩ us vs Q E hr I1.env0 (by have:=hb s1 us I1.kIn hl;rwa [List.append_nil] at this) r q) fun r s' hq=>?_)
 cases r with
 | error u=>exact hx H1 s1 u s' I1 hq
 | ok fl =>
  cases fl with
  | ret u=>exact I1.after hq
  | next=>exact False.elim hq
  | brk=>exact False.elim hq
  | cont=>exact False.elim hq
end
section
variable {X:Cx}{k:Nat}{f Ch:Addr}{fd:FuncData}{ps:List Str}{sp:Sp}{x cn y:Str}{i:Nat}{p pos pos1 pos2 py np hpos:Pos}{e:Expr}{es:List Expr}{t:TA}{bmH:List Value}{b₀:Stmt}{suite:List Stmt}{ts:TS}
end
section
variable {X:Cx}{pins:List (Addr×Obj)}{σ:St}{H:Hp}{s:Shared}
theorem Inv.track {a:Addr}{o:HO}(I:Inv X pins σ H s) (ha:H a=none) (na:(a∈X.ex∨X.s₀.heap.get? a=none)/\a≠X.env.locals/\(∀ x c,X.env.cells.lookup x=some c->c≠a)/\∀ p∈X.pn++pins,p.1≠a) (ok:ObjOk X.prog X.w (upd H a o) s.heap a o):Inv X pins σ (upd H a o) s:=by
 have up:∀ {b:Addr} {u:HO},H b=some u->upd H a o b=some u:=fun q=>by rw [J5 (J6 q ha)];exact q
 have dn:∀ {b:Addr},b≠a->H b=none->upd H a o b=none:=fun h q=>by rw [J5 h];exact q
 refine ⟨I.ok,I.os,I.bare,⟨I.base.keep,I.base.slot,fun b ob q n hx=>?_,I.base.there,fun b xs q=>up (I.base.tups b xs q),fun b ob u q=>up (I.base.frzs b ob u q),fun b ps q=>?_⟩,I.loc,I.cell,dn (Ne.symm na.2.1) I.free,fun x c q=>dn (na.2.2.1 x c q) (I.freeC x c q),fun p hp=>?_,fun b u q=>?_,I.len⟩
 ·refine dn (fun z=>?_) (I.base.free b ob q n hx)
  subst z
  rcases na.1 with y | y
  ·exact hx y
  ·rw [q] at y;cases y
 ·obtain ⟨more,z⟩:=I.base.tbls b ps q
  exact ⟨more,up z⟩
 ·obtain ⟨p1,p2,p3,p4,p5⟩:=I.pin p hp
  exact ⟨p1,dn (na.2.2.2 p hp) p2,p3,p4,p5⟩
 ·by_cases hb:b=a
  ·subst hb;rw [z06] at q;cases q;exact ok
  ·rw [J5 hb] at q
   exact (I.hok b u q).stay (fun c v _ z=>z) (fun c z=>up z) fun c xs z=>up z
theorem Inv.lost {h':Heap}{m':Str->Option Value}{t:Nat}(I:Inv X pins σ H s) (hn:h'.Ns X.env.locals m') (hs:Heap.SameBut X.env.locals s.heap h'):Inv X pins (List.replicate X.N.length none) H { s with heap:=h',toks:=t }:=by
 have other:∀ b,b≠X.env.locals->h'.get? b=s.heap.get? b:=fun b hb=>hs.2 b hb
 have neL:∀ b o,X.s₀.heap.get? b=some o->b≠X.env.locals:=fun b o e=>Nat.ne_of_lt (Nat.lt_of_lt_of_le (Heap.lt_size e) I.ok.above)
 refine ⟨I.ok,I.os,I.bare,⟨fun b o q n hb hx=>(other b (neL b o q)).trans (I.base.keep b o q n hb hx),fun b o q n hb hx=>?_,I.base.free,fun b o q hx=>?_,I.base.tups,I.base.frzs,I.base.tbls⟩,⟨m',hn,fun i x v h1 h2 _=>?_⟩,fun x c q=>?_,I.free,I.freeC,fun p hp=>?_,I.hok.trk fun b u o q z=>(other b fun y=>by rw [y,I.free] at q;cases q).trans z,by simp⟩
 ·obtain ⟨sl,y⟩:=I.base.slot b o q n hb hx
  exact ⟨sl,(other b (neL b o q)).trans y⟩
 ·obtain ⟨o',y⟩:=I.base.there b o q hx
  exact ⟨o',(other b (neL b o q)).trans y⟩
 ·rw [List.getElem?_replicate] at h2
  split at h2<;>cases h2
 ·obtain ⟨v,o,ho,hd⟩:=I.cell x c q
  exact ⟨v,o,(other c (I.cne x c q)).trans ho,hd⟩
 ·obtain ⟨p1,p2,p3,p4,p5⟩:=I.pin p hp
  exact ⟨(other p.1 p3).trans p1,p2,p3,p4,p5⟩
end
theorem zs2 {P:Program}{w:World}{H:Hp}{h:Heap}{a C:Addr}{o:Obj}(h1:h.get? a=some o) (h2:o.cls=.ref C):ObjOk P w H h a (excO a C) :=
 ⟨⟨o,h1,h2⟩,⟨o,h1⟩,fun h3 h4 ⟨o',z1,z2⟩ k=>⟨o',k _ z1,z2⟩⟩
section
variable {X:Cx}{pins:List (Addr×Obj)}{σ:St}{H1:Hp}{s1 s':Shared}{e:Value}{E:XK}{cn n:Str}{i:Nat}{Ch:Addr}{bmH:List Value}{np hpos:Pos}{b₀:Stmt}{suite:List Stmt}{EE:Value->Shared->Prop}{D:Ends}{ts:TS}
theorem z7T (hst:X.stack=X.env :: X.outer) (hf:X.env.frame=some X.env.locals) (hg:Gl X cn) (hm:X.mg cn=some (.ref Ch)) (HC:Clss X.K Ch bmH) (hbase:bmH.contains (.type "BaseException")=true) (hsu:∀ e,PSs (X.inside e) (b₀ :: suite) ts)
 (hN:X.N.Nodup) (hi:X.N[i]?=some n) (hl:X.env.kindOf n=some .local)
 (I1:Inv X pins σ H1 s1) (c:CXE X.prog X.w X.base X.stack H1 s1 E e s')
 (hE:∀ C H',E (.ref C) none H'->(∃ bm,Clss X.K C bm/\(Value.ref C :: bm).contains (.ref Ch)=true)/\∀ a,H' a=none->ts { nx:=fun _ _=>False,rt:=D.rt } (σ.set i (some (.ref a))) (upd H' a (excO a C))) (hd:(cn == ("__debug__":Str))=false:=by decide) :
 wpAny (model X.prog X.w) X.A (noteFrame e X.env) (fun _ s₂=>wpAny (model X.prog X.w) X.A (setFlight e none) (fun _ s₃=>wpAny (model X.prog X.w) X.A (handleBy e X.env [.ExceptHandler (some (.Name cn np)) (some n) (b₀ :: suite) hpos]) (SP X pins D) EE s₃) EE s₂) EE s':=by
 obtain ⟨a,T,C,H',rfl,F,n1,n2,u1,u2,I2,hq⟩:=back I1 c
 obtain ⟨⟨bm,CC,hin⟩,run⟩:=hE C H' hq
 rw [hst] at F
 have I2h:=I2.hok
 have nT2:∀ b,b=a∨b=T->(b∈X.ex∨X.s₀.heap.get? b=none)/\b≠X.env.locals/\(∀ x c,X.env.cells.lookup x=some c->c≠b)/\∀ p∈X.pn++pins,p.1≠b:=fun b hb=>by
  rcases hb with rfl | rfl
  ·exact zo0 I1 n1
  ·exact zo0 I1 n2
 refine z8Y (by rw [I2.ok.frames,hst]) hf F fun h3 T3 F3 hT3 K3=>?_
 have I3:=I2.noted hst u1 u2 nT2 K3
 have nT3:H' T3=none/\∀ b,b=a∨b=T3->(b∈X.ex∨X.s₀.heap.get? b=none)/\b≠X.env.locals/\(∀ x c,X.env.cells.lookup x=some c->c≠b)/\∀ p∈X.pn++pins,p.1≠b:=by
  rcases hT3 with rfl | z
  ·exact ⟨u2,nT2⟩
  ·refine ⟨I2h.none z,fun b hb=>?_⟩
   rcases hb with rfl | rfl
   ·exact nT2 _ (.inl rfl)
   ·exact zo0 I2 z
 refine wpAny_handleBy_cons (codeAny_handlers_test (z3a (X:=X.inside (.ref a)) (I3.inside _) hg hm ?_ hd)) (by intro q;cases q)
 obtain ⟨nm,q,N,bs,hdct,sn,sub,ab,col,dd,k0,k1,k2,k3,k5,newId,lkC⟩:=CC.ex
 obtain ⟨nm',q',N',bs',hdct',sn',sub',ab',col',dd',k0',k1',k2',k3',k5',newId',lkH⟩:=HC.ex
 obtain ⟨a0,oe,vs,oT,ts',a1,a2,_⟩:=F3.tr
 refine z7E (I3.kIn _ _ lkC) (I3.kIn _ _ lkH) a1 a2.1 hbase hin ?_
 refine codeAny_handlers_suite_as (land (base:=X.base) (env:=X.env) (outer:=X.outer) F3 fun h4 F4 K4=>?_)
 have I4:=I3.noted hst u1 nT3.1 nT3.2 K4
 obtain ⟨_,oe4,_,_,_,b1,b2,_⟩:=F4.tr
 have I5:=I4.track (o:=excO a C) u1 (nT2 a (.inl rfl)) (zs2 b1 b2.1)
 refine z4f (X:=X.inside (.ref a)) (v:=.ref a) (I5.inside _) hN hi (.inl hl) rfl (fun s5 I6=>?_) (.inr hl)
 refine wpAny_mono (hsu (.ref a) pins s5 _ _ { nx:=fun _ _=>False,rt:=D.rt } I6 (run a u1)) (fun fl s6 q6=>?_) fun _ _ z=>False.elim z
 have q7:=q6.outside I4.ok
 have hp:(X.env.scope.kind == .class || (X.env.scope.kind == .module && X.env.locals != X.env.globals))=false:=by rw [I4.ok.kind];rfl
 cases fl with
 | next=>obtain ⟨_,_,_,z⟩:=q7;exact False.elim z
 | brk=>obtain ⟨_,_,_,z⟩:=q7;exact False.elim z
 | cont=>obtain ⟨_,_,_,z⟩:=q7;exact False.elim z
 | ret u =>
  obtain ⟨v,σ7,H7,I7,r7,z7⟩:=q7
  obtain ⟨m,hn,_⟩:=id I7.loc
  exact wpAny_nameGoes hl hn hp fun h' m' hn' hs=>⟨v,_,H7,I7.lost hn' hs,r7,z7⟩
end
section
variable {X:Cx}{k:Nat}{f Ch:Addr}{fd:FuncData}{ps:List Str}{sp:Sp}{x cn n:Str}{i:Nat}{p pos pos1 pos2 np hpos:Pos}{e:Expr}{es:List Expr}{t:TA}{bmH:List Value}{b₀:Stmt}{suite:List Stmt}{ts:TS}
def zl3 (K:PySem.W.Frag) (Ch:Addr) (R:Addr->Addr->Hp->Prop):XK:=fun u _ H'=>∃ C,u=.ref C/\(∃ bm,Clss K C bm/\(Value.ref C :: bm).contains (.ref Ch)=true)/\∀ a,H' a=none->R C a H'
theorem zj1 (F:FnOk X.prog X.w X.K X.mg X.base (CXE X.prog X.w X.base) k f fd ps sp) (hr:Room k X.A) (hgx:Gl X x) (hmx:X.mg x=some (.ref f)) (hk:PySem.W.keepIn X.K (.ref f)=true) (hb:Binds X.K fd ps [])
 (ha:PA X.nox (e :: es) t) (hst:X.stack=X.env :: X.outer) (hf:X.env.frame=some X.env.locals) (hg:Gl X cn) (hm:X.mg cn=some (.ref Ch)) (HC:Clss X.K Ch bmH) (hbase:bmH.contains (.type "BaseException")=true) (hsu:∀ e,PSs (X.inside e) (b₀ :: suite) ts)
 (hN:X.N.Nodup) (hi:X.N[i]?=some n) (hl:X.env.kindOf n=some .local) (hs:swapsWith (.Call (.Name x p) (e :: es) [] pos1) none pos2.line X.env=pure false)
 (hdb:(x == ("__debug__":Str))=false:=by decide) (hdc:(cn == ("__debug__":Str))=false:=by decide) (he:starEach (e :: es) X.env=(false,eval e X.env) :: starEach es X.env:=by rfl) (hpl:(backTo pos1 (starEach es X.env)).any (·.1)=false:=by rfl) :
 PS X (.Try [.Expr (.Call (.Name x p) (e :: es) [] pos1) pos2] [.ExceptHandler (some (.Name cn np)) (some n) (b₀ :: suite) hpos] [] [] pos)
  (fun D σ H=>t σ H fun vs H1=>sp vs H1 (fun v H2=>D.nx σ H2) (zl3 X.K Ch fun C a H2=>ts { nx:=fun _ _=>False,rt:=D.rt } (σ.set i (some (.ref a))) (upd H2 a (excO a C)))):=by
 intro pins s σ H D I h
 refine wpAny_Try_except (wpAny_execs_cons ?_)
 refine wpAny_Expr_any (thn (zC3 F hr hgx hmx hk hb ha I h (fun H1 s1 u s' I1 c=>?_) hdb he hpl) fun v s1 ⟨w,H1,I1,r1,q1⟩=>?_) I.quiet hs
 ·exact z7T hst hf hg hm HC hbase hsu hN hi hl I1 c (fun C H' ⟨C',e1,e2,e3⟩=>by cases e1;exact ⟨e2,e3⟩) hdc
 ·exact wpAny_execs_nil (wpAny_execs_nil ⟨_,H1,I1,q1⟩)
end
def askNames:List Str:="__init__" :: z2n
def z45 (K:PySem.W.Frag) (N:Addr):Bool:=PySem.W.nsOkIn K N && askNames.all fun n=>PySem.W.nsIn K N n == some none
theorem z2x {K:PySem.W.Frag}{N:Addr}(q:z45 K N=true) {h:Heap}(X:K.In h):h.Ns N (h.nsMap N)/\∀ n∈askNames,h.nsMap N n=none:=by
 unfold z45 at q
 rw [Bool.and_eq_true] at q
 refine ⟨.of_isNs (PySem.W.isNs_of_in X q.1),fun n hn=>PySem.W.nsMap_none_of_in X q.1 ?_⟩
 have:=List.all_eq_true.mp q.2 n hn
 simpa using this
structure K3 (K:PySem.W.Frag) (mg:Str->Option Value) (c:Str) (C:Addr) (bm:List Value):Prop where
 ns:PySem.W.nsIn K mainGlobals c=some (some (.ref C))
 gl:mg c=some (.ref C)
 cl:Clss K C bm
 obj:∃ o cd,K.lookup C=some o/\o.data=.cls cd
 ex:∀ h,K.In h->Ex3 h C "ValueError" bmV
 own:∀ h,K.In h->OwnCls c C bmV "ValueError.__new__" mg h
 base:bm.contains (.type "BaseException")=true
 up:∀ h,K.In h->Tail3 h bmV (.ref C :: bm)/\OwnTail h bmV (.ref C :: bm)
theorem k3_of {K:PySem.W.Frag}{mg:Str->Option Value}{c:Str}{C:Addr}{bm:List Value}{nm q:Str}{N:Addr}{bs:List Value}{hdct:Bool}{sn:List Str}{sub:List Value}{ab:Bool}{col:Option Bool}{dd:Option Addr}{k0 k1 k2 k3 k5:Option Value}{c':Value}{d':Option Addr}{es:Array DictEntry}{ep:Nat}{sl':Array (Option Value)}
 (e:PySem.W.nsIn K mainGlobals c=some (some (.ref C))) (hm:mg c=some (.ref C)) (l:K.lookup C=some (excClassObj nm q C N bs bm hdct sn sub ab col dd k0 k1 k2 k3 k5 "ValueError.__new__"))
 (l2:K.lookup N=some ⟨c',d',.dict es ep,sl'⟩) (h2:(es.toList.all fun e=>match e.key with | .str _ _=>true | _=>false)=true)
 (n1:PySem.W.nsIn K N "__init__" = some none) (n2:PySem.W.nsIn K N "__getattribute__" = some none) (n3:PySem.W.nsIn K N "__getattr__" = some none) (n4:PySem.W.nsIn K N "__class__" = some none)
 (tl:∀ h,K.In h->Tail3 h bmV bm/\OwnTail h bmV bm) (hb:bm.contains (.type "BaseException")=true):K3 K mg c C bm:=by
 have hq:z45 K N=true:=by
  have e1:PySem.W.nsOkIn K N=true:=by
   unfold PySem.W.nsOkIn
   rw [l2]
   show es.all _=true
   rw [← Array.all_toList]
   exact h2
  unfold z45 askNames z2n
  simp only [List.all_cons,List.all_nil,n1,n2,n3,n4,e1]
  rfl
 refine ⟨e,hm,⟨nm,q,N,bs,hdct,sn,sub,ab,col,dd,k0,k1,k2,k3,k5,_,l⟩,⟨_,_,l,rfl⟩,fun h X=>?_,fun h X=>?_,hb,fun h X=>?_⟩
 ·obtain ⟨n1,n2⟩:=z2x hq X
  exact ⟨nm,q,N,bs,bm,hdct,sn,sub,ab,col,dd,k0,k1,k2,k3,k5,_,_,X _ _ l,n1,fun n hn=>n2 n (List.mem_cons_of_mem _ hn),(tl h X).1⟩
 ·obtain ⟨n1,n2⟩:=z2x hq X
  exact ⟨hm,bm,N,nm,q,bs,hdct,sn,sub,ab,col,dd,k0,k1,k2,k3,k5,_,X _ _ l,n1,n2 _ List.mem_cons_self,(tl h X).2⟩
 ·obtain ⟨n1,n2⟩:=z2x hq X
  exact ⟨.own (X _ _ l) n1 (fun n hn=>n2 n (List.mem_cons_of_mem _ hn)) (tl h X).1,.own (X _ _ l) n1 (n2 _ List.mem_cons_self) (tl h X).2⟩
end L2
namespace FT
open PySem PySem.Spec PyProof.Rows L2
def noE {α:Type} (m:G->M α):G->M α:=fun γ h=>match m γ h with
 | .ok a h1=>.ok a h1
 | _=>.bad
theorem z7Q {α:Type}{K:PySem.W.Frag}{EX:XX}{ρ:List Addr}{H:Hp}{P:α->List Addr->AH->Hp->Prop}{m:G->M α}{γ:G}{h:AH}(f:Fin K EX ρ H P (noE m γ h)):Fin K EX0 ρ H P (m γ h):=by
 unfold noE at f
 cases e:m γ h with
 | ok a h1=>rw [e] at f;exact f
 | err x h1=>rw [e] at f;exact f.elim
 | bad=>rw [e] at f;exact f.elim
section
variable {X:Cx}{EX:XX}{e c:Expr}{es:List Expr}{st:Stmt}{sts:List Stmt}{me:G->M D}{k:G->M Bool}{mr:G->M (List D)}{ms:G->M Out}
theorem PS.nox {t:TS}(h:L2.PS X.nox st t):L2.PS X st t:=fun pins s σ H D I hw =>
 wpAny_mono (h pins s σ H D (I.wish _) hw) (fun _ _ q=>q.unwish) fun _ _ z=>False.elim z
theorem zB6 (h:SC X.nox EX0 c k):SC X EX c (noE k):=⟨PT.imp (PT.nox h.h) fun σ H Q ⟨ρ,γ,h,rel,fin⟩=>⟨ρ,γ,h,rel,z7Q fin⟩⟩
theorem zs9 (h:S1 X.nox EX0 st ms):S1 X EX st (noE ms):=⟨PS.imp (PS.nox h.h) fun σ H D ⟨ρ,γ,h,rel,fin⟩=>⟨ρ,γ,h,rel,z7Q fin⟩⟩
end
def EXof (K:PySem.W.Frag) (E:XK):XX:=fun x _ _ H'=>∀ C,PySem.W.nsIn K mainGlobals x.cls=some (some (.ref C))->E (.ref C) none H'
def z4w (c:Str) (mr:G->M (List D)):G->M Out:=fun γ h=>match mr γ h with
 | .ok xs h1=>if xs.length≤sizeLine then .err ⟨c,[]⟩ h1 else .bad
 | _=>.bad
section
variable {P:Program}{w:World}{K:PySem.W.Frag}{mg:Str->Option Value}{base:Heap}{N:List Str}{qual c:Str}{scope:Scope}{f C:Addr}{cd:Value}{A:Around}{outer:List Env}{s:Shared}{H:Hp}{E:XK}{bm:List Value}
 {e₀:Expr} {rest:List Expr} {mr:G->M (List D)} {np cpos pos:Pos}
theorem zm6 (T:K3 K mg c C bm) (hg:Gl (cxOf (CXE P w base) P w K mg base N qual scope f cd A outer s H E) c) (ha:SA (cxOf (CXE P w base) P w K mg base N qual scope f cd A outer s H E).nox EX0 (e₀ :: rest) mr)
 (he:starEach (e₀ :: rest) (cxOf (CXE P w base) P w K mg base N qual scope f cd A outer s H E).env=(false,eval e₀ (cxOf (CXE P w base) P w K mg base N qual scope f cd A outer s H E).env) :: starEach rest (cxOf (CXE P w base) P w K mg base N qual scope f cd A outer s H E).env:=by rfl)
 (hpl:(backTo cpos (starEach rest (cxOf (CXE P w base) P w K mg base N qual scope f cd A outer s H E).env)).any (·.1)=false:=by rfl) (hd:(c == ("__debug__":Str))=false:=by decide) :
 S1 (cxOf (CXE P w base) P w K mg base N qual scope f cd A outer s H E) (EXof K E) (.Raise (some (.Call (.Name c np) (e₀ :: rest) [] cpos)) none pos) (z4w c mr) :=
 ⟨PS.imp (zb5 (R:=fun H1=>E (.ref C) none H1) T.own PySem.F.excBase_ValueError rfl hg (t:=fun σ H Q=>tL K EX0 mr σ H Q) (fun pos pins s σ H Q I q=>PA.quiet ha.h pos I q) (fun pins σ H s h' e vs I hm q=>z4y I hm q) he hpl hd) fun σ H D ⟨ρ,γ,h,rel,fin⟩=>⟨ρ,γ,h,rel,by
  unfold z4w at fin
  show Fin K EX0 ρ H _ (mr γ h)
  cases e:mr γ h with
  | err x h1=>rw [e] at fin;exact fin.elim
  | bad=>rw [e] at fin;exact fin.elim
  | ok xs h1 =>
   rw [e] at fin
   dsimp only at fin
   split at fin
   ·rename_i hl
    exact fun ρ1 H1 p1 e1 r1 vs rvs=>⟨by rw [← rvs.length];exact hl,fin ρ1 H1 p1 e1 r1 C T.ns⟩
   ·exact fin.elim⟩⟩
end
def spX (K:PySem.W.Frag) (mf:List D->M D) (n:Nat):Sp:=fun vs H Q E=>vs.length=n/\∃ ρ ds h,RH K ρ h H/\RDs K ρ H ds vs/\FE K (EXof K E) ρ H Q (mf ds h)
structure FnX (P:Program) (w:World) (K:PySem.W.Frag) (mg:Str->Option Value) (base:Heap) (k:Nat) (x:Str) (n:Nat) (mf:List D->M D):Prop where
 ex:∃ f fd ps,FnOk P w K mg base (CXE P w base) k f fd ps (spX K mf n)/\Binds K fd ps []/\PySem.W.keepIn K (.ref f)=true/\mg x=some (.ref f)
theorem zu2 {P:Program}{w:World}{K:PySem.W.Frag}{mg:Str->Option Value}{base:Heap}{x:Str}{st:Stmt}{f:Addr}{fd:FuncData}{N ps:List Str}{k n:Nat}{mb:G->M Out}(F:Fun K x x st f fd) (S:FnScope N ps (Z4 st)) (hb:Binds K fd ps []) (mx:mg x=some (.ref f)) (hn:ps.length=n)
 (body:∀ (cdv:Value) (A:Around) (outer:List Env) (s:Shared) (H:Hp) (E:XK),PySem.W.codeIn K cdv x=true->Room k (A.deeper (envOfC x (Z4 st) s.heap.objs.size f cdv)) ->
  SB (cxOf (CXE P w base) P w K mg base N x (Z4 st) f cdv A outer s H E) (EXof K E) (j6 st) mb):FnX P w K mg base (k+1) x n (runF N.length mb):=by
 refine ⟨f,fd,ps,?_,hb,F.kp,mx⟩
 obtain ⟨oc,od,kV,doc,pm,an,cdv,ct,osl,rfl,lk,hcd⟩:=F.ex
 refine zk7 lk hcd S (fun vs H Q E h=>h.1.trans hn.symm) fun A outer s H vs Q E hr h=>?_
 obtain ⟨hl,ρ,ds,h,rh,rd,fin⟩:=h
 refine ⟨_,(body cdv A outer s H E hcd hr).h,ρ,z1b N.length ds,h,⟨z3p rd,rh⟩,?_⟩
 refine (Fin.bind fin).mono fun o ρ1 h1 H1 p1 e1 r1 f1=>?_
 cases o with
 | nx γ=>exact fun σ _=>FE.here (d:=.non) (h:=h1) f1 r1 (by simp [RD])
 | rt d=>exact fun v rv=>f1 ρ1 H1 (Pre.refl _) (Ext.refl _ _) r1 v rv
 | bk γ=>exact (show False from f1).elim
 | ct γ=>exact (show False from f1).elim
def Catch (K:PySem.W.Frag) (Ch:Addr) (ok:Str->Bool):Prop:=∀ c,ok c=true->∀ C,PySem.W.nsIn K mainGlobals c=some (some (.ref C))->∃ bm,Clss K C bm/\(Value.ref C :: bm).contains (.ref Ch)=true
noncomputable def z7e (n i:Nat) (mf:List D->M D) (mr:G->M (List D)) (ok:Str->Bool) (ms:G->M Out):G->M Out:=fun γ h=>match mr γ h with
 | .ok xs h1=>if xs.length=n then (match mf xs h1 with
  | .ok d h2=>.ok (.nx γ) h2
  | .err x h2=>if ok x.cls=true then (match ms (γ.set i (some (.ref h2.length))) (h2++[.exc x.cls]) with
   | .ok (.rt d) h3=>.ok (.rt d) h3
   | _=>.bad) else .bad
  | .bad=>.bad) else .bad
 | _=>.bad
section
variable {X:Cx}{k n i:Nat}{x cn y:Str}{Ch:Addr}{bmH:List Value}{mf:List D->M D}{mr:G->M (List D)}{ok:Str->Bool}{ms:G->M Out}{e:Expr}{es:List Expr}{b₀:Stmt}{suite:List Stmt}{p pos pos1 pos2 py np hpos:Pos}
theorem zd2 (i:Nat) (F:FnX X.prog X.w X.K X.mg X.base k x n mf) (T:K3 X.K X.mg cn Ch bmH) (hC:Catch X.K Ch ok) (hr:Room k X.A) (hgx:Gl X x) (hg:Gl X cn) (ha:SA X.nox EX0 (e :: es) mr) (hsu:∀ u,SB (X.inside u) EX0 (b₀ :: suite) ms)
 (hst:X.stack=X.env :: X.outer) (hf:X.env.frame=some X.env.locals) (hN:X.N.Nodup) (hi:X.N[i]?=some y:=by rfl) (hl:X.env.kindOf y=some .local:=by rfl) (hs:swapsWith (.Call (.Name x p) (e :: es) [] pos1) none pos2.line X.env=pure false:=by exact z5M)
 (hdb:(x == ("__debug__":Str))=false:=by decide) (hdc:(cn == ("__debug__":Str))=false:=by decide) (he:starEach (e :: es) X.env=(false,eval e X.env) :: starEach es X.env:=by rfl) (hpl:(backTo pos1 (starEach es X.env)).any (·.1)=false:=by rfl) :
 S1 X EX0 (.Try [.Expr (.Call (.Name x p) (e :: es) [] pos1) pos2] [.ExceptHandler (some (.Name cn np)) (some y) (b₀ :: suite) hpos] [] [] pos) (z7e n i mf mr ok ms):=by
 obtain ⟨f,fd,ps,h1,h2,h3,h4⟩:=F.ex
 refine ⟨PS.imp (zj1 (ts:=tB X.K EX0 ms) (i:=i) h1 hr hgx h4 h3 h2 ha.h hst hf hg T.gl T.cl T.base (fun u=>(hsu u).h) hN hi hl hs hdb hdc he hpl) fun σ H D ⟨ρ,γ,h,rel,fin⟩=>⟨ρ,γ,h,rel,?_⟩⟩
 unfold z7e at fin
 cases e1:mr γ h with
 | err x h1=>rw [e1] at fin;exact fin.elim
 | bad=>rw [e1] at fin;exact fin.elim
 | ok xs h1 =>
  rw [e1] at fin
  dsimp only at fin
  split at fin
  ·rename_i hl
   refine fun ρ1 H1 p1 x1 r1 vs rvs=>⟨by rw [← rvs.length];exact hl,ρ1,xs,h1,r1,rvs,?_⟩
   cases e2:mf xs h1 with
   | bad=>rw [e2] at fin;exact fin.elim
   | ok d h2 =>
    rw [e2] at fin
    exact fun ρ2 H2 p2 x2 r2 v rv=>fin ρ2 H2 (p1.trans p2) (x1.trans x2) r2 _ ((rel.g.mono p1 x1).mono p2 x2)
   | err z h2 =>
    rw [e2] at fin
    dsimp only at fin
    split at fin
    ·rename_i hok
     intro ρ2 H2 p2 x2 r2 C hns
     refine ⟨C,rfl,hC _ hok C hns,fun a hna=>?_⟩
     have rP:RH X.K (ρ2++[a]) (h2++[.exc z.cls]) (upd H2 a (excO a C)):=r2.pushO hna ⟨C,hns,z06⟩
     have xP:Ext X.K H2 (upd H2 a (excO a C)):=Ext.upd (.inl hna)
     have at2:(ρ2++[a])[h2.length]?=some a:=by rw [← r2.len];simp
     have rd:RD X.K (ρ2++[a]) (upd H2 a (excO a C)) (.ref h2.length) (.ref a):=by simp only [RD];exact ⟨a,rfl,at2⟩
     refine ⟨ρ2++[a],γ.set i (some (.ref h2.length)),h2++[.exc z.cls],⟨((((rel.g.mono p1 x1).mono p2 x2).mono (Pre.app _ _) xP).set i rd),rP⟩,?_⟩
     cases e3:ms (γ.set i (some (.ref h2.length))) (h2++[.exc z.cls]) with
     | bad=>rw [e3] at fin;exact fin.elim
     | err q h3=>rw [e3] at fin;exact fin.elim
     | ok o h3 =>
      rw [e3] at fin
      cases o with
      | nx g=>exact fin.elim
      | bk g=>exact fin.elim
      | ct g=>exact fin.elim
      | rt d=>exact fun ρ3 H3 p3 x3 r3=>fin ρ3 H3 ((p1.trans p2).trans ((Pre.app _ _).trans p3)) ((x1.trans x2).trans (xP.trans x3)) r3
    ·exact fin.elim
  ·exact fin.elim
end
end FT
namespace L2
open PySem PySem.Spec PyProof.Rows
section
variable {X:Cx}
theorem z4V:z1Q X (.builtin "isinstance") (fun xs H Q=>∃ a C y u b,xs=[.ref a,y]/\H a=some (excO a C)/\(∀ v,RelV y v->v=u)/\(∃ o cd,X.K.lookup C=some o/\o.data=.cls cd)/\(∀ h,X.K.In h->Ex3 h C "ValueError" bmV)/\PySem.W.kitOne X.K (.ref C) u=some b/\Q (.bl b) H):=by
 intro pins s σ H xs us Q I r h
 obtain ⟨a,C,y,u,b,rfl,ha,hu,hcl,hex,hk,q⟩:=h
 obtain ⟨v1,v2,rfl,r1,r2⟩:=vals2 r
 cases r1
 rw [hu _ r2]
 exact PySem.W.kia_one (zb1 hcl hex) I.kIn (I.hok a _ ha).1 hk (fun z=>nomatch z) fun tk=>⟨.bl b,H,I.tok tk,rfl,q⟩
end
section
variable {X:Cx}
end
end L2
namespace FT
open PySem PySem.Spec PyProof.Rows L2
def IsX (K:PySem.W.Frag) (u:Value) (k:Str->Option Bool):Prop:=∀ c b,k c=some b->∀ C,PySem.W.nsIn K mainGlobals c=some (some (.ref C))->(∃ o cd,K.lookup C=some o/\o.data=.cls cd)/\(∀ h,K.In h->Ex3 h C "ValueError" bmV)/\PySem.W.kitOne K (.ref C) u=some b
def fIsX (k:Str->Option Bool):D->M D
 | .ref n=>fun h=>match h[n]? with
  | some (.exc c)=>(match k c with
   | some b=>.ok (.bl b) h
   | none=>.bad)
  | _=>.bad
 | _=>bad
def eIsX (k:Str->Option Bool) (ma:G->M D):G->M D:=fun γ=>do
 let x ← ma γ
 fIsX k x
section
variable {X:Cx}{EX:XX}{a:Expr}{p p2 pos:Pos}{ma:G->M D}{k:Str->Option Bool}
theorem z87 {ρ:List Addr}{h:AH}{H:Hp}{Q:VK}{x:D}{v y:V}{u:Value}(hk:IsX X.K u k) (hy:∀ v,RelV y v->v=u) (r:RH X.K ρ h H) (rv:RD X.K ρ H x v) (f:FE X.K EX ρ H Q (fIsX k x h)) :
 ∃ a C y' u' b,[v,y]=[.ref a,y']/\H a=some (excO a C)/\(∀ v,RelV y' v->v=u')/\(∃ o cd,X.K.lookup C=some o/\o.data=.cls cd)/\(∀ h,X.K.In h->Ex3 h C "ValueError" bmV)/\PySem.W.kitOne X.K (.ref C) u'=some b/\Q (.bl b) H:=by
 cases x<;>first | exact (show False from f).elim | skip
 rename_i n
 simp only [RD] at rv
 obtain ⟨q,rfl,hq⟩:=rv
 unfold fIsX at f
 dsimp only at f
 cases e:h[n]? with
 | none=>rw [e] at f;exact f.elim
 | some ob =>
  rw [e] at f
  cases ob with
  | lst xs=>exact f.elim
  | set ks=>exact f.elim
  | dct=>exact f.elim
  | dK kvs=>exact f.elim
  | dF kvs=>exact f.elim
  | exc c =>
   dsimp only at f
   cases e2:k c with
   | none=>rw [e2] at f;exact f.elim
   | some b =>
    rw [e2] at f
    obtain ⟨a1,n1,C,hns,o1⟩:=r.at e
    rw [hq] at n1;cases n1
    obtain ⟨z1,z2,z3⟩:=hk c b e2 C hns
    exact ⟨q,C,y,u,b,rfl,o1,hy,z1,z2,z3,FE.here (d:=.bl b) (h:=h) f r (by simp [RD])⟩
theorem zz1 {T:Str}{T':String}(hg:Gl X "isinstance") (hm:X.mg "isinstance" = none) (hgT:Gl X T) (hmT:X.mg T=none) (hv:bootBuiltins T=some (.type T')) (hk:IsX X.K (.type T') k) (ha:SE X EX a ma) (hn:T≠"__name__":=by decide) (hd:(T == ("__debug__":Str))=false:=by decide)
 (he:starEach [a,.Name T p2] X.env=[(false,eval a X.env),(false,eval (.Name T p2) X.env)]:=by rfl) (he2:starEach [.Name T p2] X.env=[(false,eval (.Name T p2) X.env)]:=by rfl):SE X EX (.Call (.Name "isinstance" p) [a,.Name T p2] [] pos) (eIsX k ma):=by
 constructor
 have hA:PA X [a,.Name T p2] (z4T (tE X.K EX ma) (z4T (tC (.ty T')) tNil)):=z0q ha.h (z0q (z7u hgT hmT hv rfl hn hd) z1P he2) (by rw [he,he2])
 exact PE.imp (z0J z4V hg hm (by decide +kernel) hA (by decide) (by decide) (by rw [he,he2]) (by rw [he2];rfl)) fun σ H Q ⟨ρ,γ,h,rel,fin⟩=>⟨ρ,γ,h,rel,(Fin.bind fin).mono fun x ρ1 h1 H1 p1 e1 r1 f1 v rv=>z87 hk (fun v r=>by cases r;rfl) r1 rv f1⟩
theorem z4u {T:Str}{C:Addr}{bm:List Value}(hg:Gl X "isinstance") (hm:X.mg "isinstance" = none) (hgT:Gl X T) (hT:K3 X.K X.mg T C bm) (hk:IsX X.K (.ref C) k) (ha:SE X EX a ma) (hd:(T == ("__debug__":Str))=false:=by decide)
 (he:starEach [a,.Name T p2] X.env=[(false,eval a X.env),(false,eval (.Name T p2) X.env)]:=by rfl) (he2:starEach [.Name T p2] X.env=[(false,eval (.Name T p2) X.env)]:=by rfl):SE X EX (.Call (.Name "isinstance" p) [a,.Name T p2] [] pos) (eIsX k ma):=by
 constructor
 have hA:PA X [a,.Name T p2] (z4T (tE X.K EX ma) (z4T (tC (.ref C)) tNil)):=z0q ha.h (z0q (zh9 hgT hT.gl rfl hd) z1P he2) (by rw [he,he2])
 exact PE.imp (z0J z4V hg hm (by decide +kernel) hA (by decide) (by decide) (by rw [he,he2]) (by rw [he2];rfl)) fun σ H Q ⟨ρ,γ,h,rel,fin⟩=>⟨ρ,γ,h,rel,(Fin.bind fin).mono fun x ρ1 h1 H1 p1 e1 r1 f1 v rv=>z87 hk (fun v r=>by cases r;rfl) r1 rv f1⟩
end
theorem zo9 {P:Program}{w:World}{K:PySem.W.Frag}{mg:Str->Option Value}{base:Heap}{x:Str}{st:Stmt}{f:Addr}{fd:FuncData}{ps:List Str}{k n:Nat}(F:Fun K x x st f fd) (hb:Binds K fd ps []) (mx:mg x=some (.ref f)) (hn:ps.length=n):Fn P w K mg base k x n (fun _=>bad) :=
 ⟨f,fd,ps,⟨fun vs H Q E h=>h.1.trans hn.symm,fun A outer s H args us vs Q E _ _ _ _ h=>by
  obtain ⟨_,ρ,ds,hh,_,_,fin⟩:=h
  exact (show False from fin).elim⟩,hb,F.kp,mx⟩
theorem ze9 {K:PySem.W.Frag}{c:Str}{C C':Addr}(h:PySem.W.nsIn K mainGlobals c=some (some (.ref C))) (h':PySem.W.nsIn K mainGlobals c=some (some (.ref C'))):C'=C:=by
 rw [h] at h'
 cases h'
 rfl
theorem catch_of {K:PySem.W.Frag}{mg:Str->Option Value}{c:Str}{C Ch:Addr}{bm:List Value}(T:K3 K mg c C bm) (h:(Value.ref C :: bm).contains (.ref Ch)=true):Catch K Ch (fun x=>x == c):=fun x hx C' hns=>by
 have e:x=c:=by simpa using hx
 subst e
 have:=ze9 T.ns hns
 subst this
 exact ⟨bm,T.cl,h⟩
theorem isX_of {K:PySem.W.Frag}{mg:Str->Option Value}{c:Str}{C:Addr}{bm:List Value}{u:Value}{b:Bool}(T:K3 K mg c C bm) (h:PySem.W.kitOne K (.ref C) u=some b):IsX K u (fun x=>if x=c then some b else none):=fun x b' hx C' hns=>by
 dsimp only at hx
 split at hx
 ·rename_i e
  subst e
  cases hx
  have:=ze9 T.ns hns
  subst this
  exact ⟨T.obj,T.ex,h⟩
 ·cases hx
section
variable {X:Cx}{EX:XX}
end
section
variable {X:Cx}{EX:XX}{a:Expr}{p p2 pos:Pos}{ma:G->M D}{k:Str->Option Bool}
end
end FT
set_option maxHeartbeats 2000000
namespace FT
open PySem PySem.Spec PyProof.Rows L2
variable {α β:Type}
def W (m:M α) (h:AH) (Q:α->AH->Prop):Prop:=∃ a h',m h=.ok a h'/\Q a h'
theorem Z6 {m:M α}{f:α->M β}{h:AH}{Q:β->AH->Prop}:W (m >>= f) h Q↔W m h fun a h1=>W (f a) h1 Q:=by
 constructor
 ·rintro ⟨b,h2,e,q⟩
  rw [bindM] at e
  cases em:m h with
  | ok a h1=>rw [em] at e;exact ⟨a,h1,em,b,h2,e,q⟩
  | err x h1=>rw [em] at e;cases e
  | bad=>rw [em] at e;cases e
 ·rintro ⟨a,h1,e,b,h2,e',q⟩
  exact ⟨b,h2,by rw [M.bind_ok e,e'],q⟩
theorem W_pure {a:α}{h:AH}{Q:α->AH->Prop}:W (Pure.pure a:M α) h Q↔Q a h:=by
 constructor
 ·rintro ⟨b,h2,e,q⟩;cases e;exact q
 ·exact fun q=>⟨a,h,rfl,q⟩
theorem v9 {h:AH}{Q:α->AH->Prop}:W (bad:M α) h Q↔False:=by
 constructor
 ·rintro ⟨b,h2,e,q⟩;cases e
 ·exact False.elim
theorem J9 {c:Prop} [Decidable c] {m n:M α}{h:AH}{Q:α->AH->Prop}:W (if c then m else n) h Q↔if c then W m h Q else W n h Q:=by
 split<;>exact Iff.rfl
theorem W.mono {m:M α}{h:AH}{Q Q':α->AH->Prop}(z:W m h Q) (f:∀ a h',Q a h'->Q' a h'):W m h Q':=let ⟨a,h',e,q⟩:=z;⟨a,h',e,f a h' q⟩
theorem W.of {m:M α}{h h':AH}{a:α}{Q:α->AH->Prop}(e:m h=.ok a h') (q:Q a h'):W m h Q:=⟨a,h',e,q⟩
theorem z1C {γ:G}{h:AH}{Q:Out->AH->Prop}:W (bNil γ) h Q↔Q (.nx γ) h:=W_pure
def zj2 (mt:G->M Out) (Q:Out->AH->Prop):Out->AH->Prop:=fun o h=>match o with
 | .nx γ=>W (mt γ) h Q
 | o=>Q o h
theorem y4 {mt:G->M Out}{Q:Out->AH->Prop}{γ:G}{h:AH}:zj2 mt Q (.nx γ) h↔W (mt γ) h Q:=Iff.rfl
theorem Y6 {mt:G->M Out}{Q:Out->AH->Prop}{d:D}{h:AH}:zj2 mt Q (.rt d) h↔Q (.rt d) h:=Iff.rfl
theorem w_cons {ms mt:G->M Out}{γ:G}{h:AH}{Q:Out->AH->Prop}:W (Z1 ms mt γ) h Q↔W (ms γ) h (zj2 mt Q):=by
 unfold Z1
 rw [Z6]
 constructor
 ·rintro ⟨o,h1,e,q⟩
  refine ⟨o,h1,e,?_⟩
  cases o with
  | nx γ=>exact q
  | rt d=>exact (W_pure (a:=Out.rt d) (Q:=Q)).mp q
  | bk d=>exact (W_pure (a:=Out.bk d) (Q:=Q)).mp q
  | ct d=>exact (W_pure (a:=Out.ct d) (Q:=Q)).mp q
 ·rintro ⟨o,h1,e,q⟩
  refine ⟨o,h1,e,?_⟩
  cases o with
  | nx γ=>exact q
  | rt d=>exact W_pure.mpr q
  | bk d=>exact W_pure.mpr q
  | ct d=>exact W_pure.mpr q
def runW (Q:D->AH->Prop):Out->AH->Prop:=fun o h=>match o with
 | .nx _=>Q .non h
 | .rt d=>Q d h
 | _=>False
theorem z1J {n:Nat}{mb:G->M Out}{ds:List D}{h:AH}{Q:D->AH->Prop}(z:W (mb (z1b n ds)) h (runW Q)):W (runF n mb ds) h Q:=by
 unfold runF
 rw [Z6]
 refine z.mono fun o h1 q=>?_
 cases o with
 | nx γ=>exact W_pure.mpr q
 | rt d=>exact W_pure.mpr q
 | bk d=>exact q.elim
 | ct d=>exact q.elim
theorem w_if {k:G->M Bool}{ms mt:G->M Out}{γ:G}{h:AH}{Q:Out->AH->Prop}:W (sIf k ms mt γ) h Q↔W (k γ) h fun t h1=>if t=true then W (ms γ) h1 Q else W (mt γ) h1 Q:=by
 unfold sIf
 rw [Z6]
 simp only [J9]
theorem z1B {i j:Int}:fAdd (.int i) (.int j)=pure (.int (i+j)):=rfl
theorem z4s {i j:Int}:fSub (.int i) (.int j)=pure (.int (i - j)):=rfl
theorem z42 {i j:Int}:fGt (.int i) (.int j)=pure (.bl (decide (j<i))):=rfl
theorem zw3 {i j:Int}:fGe (.int i) (.int j)=pure (.bl (decide (j≤i))):=rfl
theorem z9t {i j:Int}:fLt (.int i) (.int j)=pure (.bl (decide (i<j))):=rfl
theorem zj3 {i j:Int}:fLe (.int i) (.int j)=pure (.bl (decide (i≤j))):=rfl
theorem z51 {i j:Int}{b:Bool}:fEq b (.int i) (.int j)=pure (.bl (decide (i=j) != b)):=rfl
theorem J1 {b:Bool}:asB (.bl b)=pure b:=rfl
theorem z0h {b:Bool}:truD (.bl b)=pure b:=rfl
theorem z5x {n:Nat}{h:AH}{Q:Nat->AH->Prop}:W (z2u (.ref n)) h Q↔W (getL n) h fun _ h1=>Q n h1:=by
 unfold W z2u getL
 dsimp only
 cases e:h[n]? with
 | none=>exact ⟨fun ⟨_,_,z,_⟩=>(by cases z),fun ⟨_,_,z,_⟩=>(by cases z)⟩
 | some o =>
  cases o with
  | set ks=>exact ⟨fun ⟨_,_,z,_⟩=>(by cases z),fun ⟨_,_,z,_⟩=>(by cases z)⟩
  | dct=>exact ⟨fun ⟨_,_,z,_⟩=>(by cases z),fun ⟨_,_,z,_⟩=>(by cases z)⟩
  | dK kvs=>exact ⟨fun ⟨_,_,z,_⟩=>(by cases z),fun ⟨_,_,z,_⟩=>(by cases z)⟩
  | dF kvs=>exact ⟨fun ⟨_,_,z,_⟩=>(by cases z),fun ⟨_,_,z,_⟩=>(by cases z)⟩
  | exc c=>exact ⟨fun ⟨_,_,z,_⟩=>(by cases z),fun ⟨_,_,z,_⟩=>(by cases z)⟩
  | lst xs=>exact ⟨fun ⟨_,_,z,q⟩=>(by cases z;exact ⟨xs,h,rfl,q⟩),fun ⟨_,_,z,q⟩=>(by cases z;exact ⟨n,h,rfl,q⟩)⟩
theorem zh3 {b:Int}{t:String}:fIsi t (.int b)=pure (.bl (subT "int" t)):=rfl
theorem z5p {b:List D}{t:String}:fIsi t (.tup b)=pure (.bl (subT "tuple" t)):=rfl
def forW (J:G->AH->Prop) (R:D->AH->Prop):Out->AH->Prop:=fun o h=>match o with
 | .nx γ=>J γ h
 | .ct γ=>J γ h
 | .bk _=>False
 | .rt d=>R d h
def endW (J:G->AH->Prop) (R:D->AH->Prop):Out->AH->Prop:=fun o h=>match o with
 | .nx γ=>J γ h
 | .ct _=>False
 | .bk _=>False
 | .rt d=>R d h
theorem z5P {src:Src}{g:D->G->M G}{body:G->M Out}(I:Nat->G->AH->Prop) (R:D->AH->Prop) (good:∀ i γ h,I i γ h->src.good h):∀ (items:List D) (n:Nat) (γ:G) (h:AH),
 (∀ i d γ h,items[i]?=some d->I (n+i) γ h->W (g d γ) h fun γ1 h1=>W (body γ1) h1 (forW (I (n+i+1)) R))->I n γ h ->
 W (forR src g body items γ) h (endW (I (n+items.length)) R)
 | [],n,γ,h,_,q=>⟨.nx γ,h,by unfold forR Src.chk;simp [good _ _ _ q],q⟩
 | d :: r,n,γ,h,z,q=>by
  unfold forR
  rw [Z6]
  refine W.of (a:=()) (h':=h) (by unfold Src.chk;simp [good _ _ _ q]) ?_
  rw [Z6]
  refine (z 0 d γ h rfl q).mono fun γ1 h1 q1=>?_
  rw [Z6]
  refine q1.mono fun o h2 q2=>?_
  have step:∀ γ2,I (n+0+1) γ2 h2->W (forR src g body r γ2) h2 (endW (I (n+(d :: r).length)) R):=fun γ2 w=>by
   have:=z5P (src:=src) I R good r (n+1) γ2 h2 (fun i d γ h e q=>by
    have:=z (i+1) d γ h (by simpa using e) (by rw [show n+(i+1)=n+1+i by omega];exact q)
    rw [show n+(i+1)+1=n+1+i+1 by omega] at this
    exact this) (by simpa using w)
   rw [show n+1+r.length=n+(d :: r).length by simp;omega] at this
   exact this
  cases o with
  | nx γ2=>exact step γ2 q2
  | ct γ2=>exact step γ2 q2
  | bk γ2=>exact q2.elim
  | rt v=>exact W_pure.mpr q2
theorem z22 {ms mt:G->M Out}{γ:G}{h:AH}{Q:Out->AH->Prop}(J:G->AH->Prop) (z:W (ms γ) h (endW J fun d h=>Q (.rt d) h)) (k:∀ γ h,J γ h->W (mt γ) h Q):W (Z1 ms mt γ) h Q:=by
 rw [w_cons]
 refine z.mono fun o h1 q=>?_
 cases o with
 | nx γ=>exact k γ h1 q
 | rt d=>exact q
 | bk d=>exact q.elim
 | ct d=>exact q.elim
theorem z52 {n i:Nat}{d:D}(e:(z0Z n)[i]?=some d):d=.int i/\i<n:=by
 unfold z0Z at e
 rw [List.getElem?_map] at e
 obtain ⟨j,e1,e2⟩:=Option.map_eq_some_iff.mp e
 obtain ⟨h1,h2⟩:=List.getElem?_eq_some_iff.mp e1
 simp at h1 h2
 subst h2
 exact ⟨e2.symm,h1⟩
theorem z00 {ma:G->M D}{i:Nat}{body:G->M Out}{γ:G}{h:AH}(I:Nat->G->AH->Prop) (R:D->AH->Prop) {Q:Out->AH->Prop}
 (hs:W (ma γ) h fun d h1=>∃ n:Nat,d=.int n/\n<4611686018427387904/\I 0 γ h1/\(∀ k γ h,k<n->I k γ h->W (body (γ.set i (some (.int k)))) h (forW (I (k+1)) R))/\(∀ γ h',I n γ h'->Q (.nx γ) h')/\∀ d h',R d h'->Q (.rt d) h') :
 W (sFor (z0k ma) (gN i) body γ) h Q:=by
 unfold sFor z0k
 rw [Z6,Z6]
 refine hs.mono fun d h1 ⟨n,e,hn,i0,st,fin⟩=>?_
 subst e
 dsimp only
 rw [if_pos (by omega),W_pure]
 have:=z5P (src:=.con (z0Z (n:Int).toNat)) (g:=gN i) (body:=body) I R (fun _ _ _ _=>trivial) (z0Z (n:Int).toNat) 0 γ h1 (fun k d γ h e q=>by
  obtain ⟨rfl,hk⟩:=z52 e
  rw [Nat.zero_add] at q ⊢
  exact W_pure.mpr (st k γ h (by simpa using hk) q)) i0
 rw [show 0+(z0Z (n:Int).toNat).length=n by unfold z0Z;simp] at this
 refine this.mono fun o h' q=>?_
 cases o with
 | nx γ=>exact fin.1 γ h' q
 | rt d=>exact fin.2 d h' q
 | bk d=>exact q.elim
 | ct d=>exact q.elim
theorem z3r {mi:G->M Src}{g:D->G->M G}{body:G->M Out}{γ:G}{h:AH}(I:Nat->G->AH->Prop) (R:D->AH->Prop) {Q:Out->AH->Prop}
 (hs:W (mi γ) h fun src h1=>I 0 γ h1/\(∀ i γ h,I i γ h->src.good h)/\(∀ i d γ h,src.items[i]?=some d->I i γ h->W (g d γ) h fun γ1 h1=>W (body γ1) h1 (forW (I (i+1)) R))/\(∀ γ h',I src.items.length γ h'->Q (.nx γ) h')/\∀ d h',R d h'->Q (.rt d) h') :
 W (sFor mi g body γ) h Q:=by
 unfold sFor
 rw [Z6]
 refine hs.mono fun src h1 ⟨i0,good,st,fin⟩=>?_
 have:=z5P (src:=src) (g:=g) (body:=body) I R good src.items 0 γ h1 (fun k d γ h e q=>by
  rw [Nat.zero_add] at q ⊢
  exact st k d γ h e q) i0
 rw [Nat.zero_add] at this
 refine this.mono fun o h' q=>?_
 cases o with
 | nx γ=>exact fin.1 γ h' q
 | rt d=>exact fin.2 d h' q
 | bk d=>exact q.elim
 | ct d=>exact q.elim
theorem z2i {ma:G->M D}{γ:G}{h h1:AH}{n:Nat}(e:ma γ h=.ok (.int n) h1) (hn:n<4611686018427387904):z0k ma γ h=.ok (.con (z0Z n)) h1:=by
 unfold z0k
 rw [M.bind_ok e]
 dsimp only
 rw [if_pos (by omega)]
 rfl
theorem z44 {g:D->G->M G}{k:G->M Bool}{me:G->M D}{γ:G}{p:D->Bool}{f:D->D}(src:Src) (h0:AH) (hg:∀ j,src.good (h0++j)):∀ (items:List D) (acc:List D),acc.length+items.length≤1000000 ->
 (∀ d∈items,∃ γ1,(∀ h,g d γ h=.ok γ1 h)/\(∀ j,k γ1 (h0++j)=.ok (p d) (h0++j))/\(p d=true->∀ j,me γ1 (h0++j)=.ok (f d) (h0++j))) ->
 z2w src g k me h0.length γ items (h0++[.lst acc])=.ok () (h0++[.lst (acc++(items.filter p).map f)])
 | [],acc,hl,hd=>by unfold z2w Src.chk;simp [hg]
 | d :: r,acc,hl,hd=>by
  obtain ⟨γ1,e1,e2,e3⟩:=hd d List.mem_cons_self
  unfold z2w
  have chk:src.chk (h0++[.lst acc])=.ok () (h0++[.lst acc]):=by unfold Src.chk;simp [hg]
  rw [M.bind_ok chk,M.bind_ok (e1 _),M.bind_ok (e2 _)]
  simp only [List.length_cons] at hl
  have hr:∀ d∈r,∃ γ1,(∀ h,g d γ h=.ok γ1 h)/\(∀ j,k γ1 (h0++j)=.ok (p d) (h0++j))/\(p d=true->∀ j,me γ1 (h0++j)=.ok (f d) (h0++j)):=fun x hx=>hd x (List.mem_cons_of_mem _ hx)
  cases hp:p d with
  | false =>
   rw [if_neg (by decide),z44 src h0 hg r acc (by omega) hr,List.filter_cons,hp]
   rfl
  | true =>
   rw [if_pos rfl,M.bind_ok (e3 hp _)]
   have ap:J8 h0.length (f d) (h0++[.lst acc])=.ok .non (h0++[.lst (acc++[f d])]):=by
    unfold J8 updL
    have g1:(h0++[O.lst acc])[h0.length]?=some (.lst acc):=by simp
    rw [g1]
    dsimp only
    have hs:(acc++[f d]).length≤sizeLine:=by
     rw [List.length_append,List.length_singleton]
     exact Nat.le_trans (show acc.length+1≤1000000 by omega) (by decide)
    rw [if_pos hs]
    simp
   rw [M.bind_ok ap,z44 src h0 hg r (acc++[f d]) (by simp;omega) hr,List.filter_cons,hp]
   simp
theorem z33 {cap:List (Option Nat)}{mi:G->M Src}{g:D->G->M G}{k:G->M Bool}{me:G->M D}{γ:G}{src:Src}{h:AH}(p:D->Bool) (f:D->D) (hi:mi γ h=.ok src h) (hg:∀ j,src.good (h++j)) (hl:src.items.length≤1000000)
 (hd:∀ d∈src.items,∃ γ1,(∀ h,g d (capG cap γ) h=.ok γ1 h)/\(∀ j,k γ1 (h++j)=.ok (p d) (h++j))/\(p d=true->∀ j,me γ1 (h++j)=.ok (f d) (h++j))) :
 z0i cap mi g k me γ h=.ok (.ref h.length) (h++[.lst ((src.items.filter p).map f)]):=by
 have e:=z44 (g:=g) (k:=k) (me:=me) (γ:=capG cap γ) (p:=p) (f:=f) src h hg src.items [] (by simpa using hl) hd
 show (mi γ >>= _) h=_
 rw [M.bind_ok hi]
 rw [M.bind_ok (m:=(fun h=>Res.ok (List.length h) (h++[O.lst []]):M Nat)) (h:=h) rfl]
 rw [M.bind_ok (by simpa using e)]
 rfl
end FT
namespace FT
open PySem PySem.Spec PyProof.Rows L2
def Kp (r r':AH):Prop:=∀ (n:Nat) (o:O),r[n]?=some o->r'[n]?=some o
theorem Kp.refl (r:AH):Kp r r:=fun _ _ e=>e
theorem Kp.app (r j:AH):Kp r (r++j):=fun n o e=>by
 rw [List.getElem?_append_left (List.getElem?_eq_some_iff.mp e).1,e]
theorem z9l {src:Src}{g:D->G->M G}{k:G->M Bool}{me:G->M D}{n0:Nat}{γ:G}(I:Nat->AH->Prop) (good:∀ i h,I i h->src.good h):∀ (items:List D) (n:Nat) (h:AH),
 (∀ i d h,items[i]?=some d->I (n+i) h->W (g d γ) h fun γ1 h1=>W (k γ1) h1 fun t h2=>if t=true then W (me γ1) h2 fun v h3=>W (J8 n0 v) h3 fun _ h4=>I (n+i+1) h4 else I (n+i+1) h2)->I n h ->
 W (z2w src g k me n0 γ items) h fun _ h'=>I (n+items.length) h'
 | [],n,h,_,q=>⟨(),h,by unfold z2w Src.chk;simp [good _ _ q],q⟩
 | d :: r,n,h,z,q=>by
  have more:∀ h2,I (n+0+1) h2->W (z2w src g k me n0 γ r) h2 fun _ h'=>I (n+(d :: r).length) h':=fun h2 q2=>by
   have:=z9l (src:=src) (g:=g) (k:=k) (me:=me) (n0:=n0) (γ:=γ) I good r (n+1) h2 (fun i d h e q=>by
    have:=z (i+1) d h (by simpa using e) (by rw [show n+(i+1)=n+1+i by omega];exact q)
    rw [show n+(i+1)+1=n+1+i+1 by omega] at this
    exact this) (by simpa using q2)
   rw [show n+1+r.length=n+(d :: r).length by simp;omega] at this
   exact this
  unfold z2w
  rw [Z6]
  refine W.of (a:=()) (h':=h) (by unfold Src.chk;simp [good _ _ q]) ?_
  rw [Z6]
  refine (z 0 d h rfl q).mono fun γ1 h1 q1=>?_
  rw [Z6]
  refine q1.mono fun t h2 q2=>?_
  cases t with
  | false=>rw [if_neg (by decide)] at q2 ⊢;exact more h2 q2
  | true =>
   rw [if_pos rfl] at q2 ⊢
   rw [Z6]
   refine q2.mono fun v h3 q3=>?_
   rw [Z6]
   exact q3.mono fun _ h4 q4=>more h4 q4
theorem zr5 {cap:List (Option Nat)}{mi:G->M Src}{g:D->G->M G}{k:G->M Bool}{me:G->M D}{γ:G}{h:AH}{Q:D->AH->Prop}
 (hs:W (mi γ) h fun src h1=>∃ I:Nat->AH->Prop,I 0 (h1++[.lst []])/\(∀ i h,I i h->src.good h) /\
  (∀ i d h,src.items[i]?=some d->I i h->W (g d (capG cap γ)) h fun γ1 h1'=>W (k γ1) h1' fun t h2=>if t=true then W (me γ1) h2 fun v h3=>W (J8 h1.length v) h3 fun _ h4=>I (i+1) h4 else I (i+1) h2) /\
  ∀ h',I src.items.length h'->Q (.ref h1.length) h'):W (z0i cap mi g k me γ) h Q:=by
 unfold z0i
 rw [Z6]
 refine hs.mono fun src h1 ⟨I,i0,good,st,fin⟩=>?_
 rw [Z6]
 refine W.of (a:=h1.length) (h':=h1++[.lst []]) rfl ?_
 rw [Z6]
 have:=z9l (src:=src) (g:=g) (k:=k) (me:=me) (n0:=h1.length) (γ:=capG cap γ) I good src.items 0 (h1++[.lst []]) (fun i d h e q=>by
  rw [Nat.zero_add] at q ⊢
  exact st i d h e q) i0
 rw [Nat.zero_add] at this
 refine this.mono fun _ h' q=>?_
 rw [W_pure]
 exact fin h' q
class Grow (I:AH->Prop):Prop where
 app:∀ h j,I h->I (h++j)
section
variable {I:AH->Prop} [Grow I]
end
section
variable {I:AH->Prop} [Grow I] {J J':G->Prop}
end
def Pool (gr sm:List Int) (s c:Int) (r:AH):AH:=.lst (gr.map .int) :: .lst (sm.map .int) :: .lst [.ref 0,.ref 1,.int s,.int c] :: r
def PS (h:AH) (k:Int) (r:AH):Prop:=∃ gr sm s c,h=Pool gr sm s c r/\0≤s/\s<2147483647/\0≤c/\c≤k/\gr.length≤63/\sm.length≤63
theorem PS.up {h:AH}{k k':Int}{r:AH}(p:PS h k r) (hk:k≤k'):PS h k' r:=by
 obtain ⟨gr,sm,s,c,e,h1,h2,h3,h4,h5,h6⟩:=p
 exact ⟨gr,sm,s,c,e,h1,h2,h3,by omega,h5,h6⟩
theorem PS.app {h:AH}{k:Int}{r:AH}(p:PS h k r) (j:AH):PS (h++j) k (r++j):=by
 obtain ⟨gr,sm,s,c,e,q⟩:=p
 exact ⟨gr,sm,s,c,by rw [e];rfl,q⟩
theorem PS.get {h:AH}{k:Int}{r:AH}(p:PS h k r) (n:Nat):h[n+3]?=r[n]?:=by
 obtain ⟨gr,sm,s,c,e,q⟩:=p
 rw [e];rfl
theorem PS.len {h:AH}{k:Int}{r:AH}(p:PS h k r):h.length=r.length+3:=by
 obtain ⟨gr,sm,s,c,e,q⟩:=p
 rw [e];rfl
theorem PS.set {h:AH}{k:Int}{r:AH}(p:PS h k r) (n:Nat) (o:O):PS (h.set (n+3) o) k (r.set n o):=by
 obtain ⟨gr,sm,s,c,e,q⟩:=p
 exact ⟨gr,sm,s,c,by rw [e];rfl,q⟩
theorem z3g {h:AH}{k:Int}{r:AH}{n:Nat}{xs:List D}{Q:List D->AH->Prop}(p:PS h k r) (e:r[n]?=some (.lst xs)) (q:Q xs h):W (getL (n+3)) h Q :=
 ⟨xs,h,by unfold getL;rw [p.get,e],q⟩
theorem z0A {h:AH}{k:Int}{r:AH}{xs:List D}{Q:D->AH->Prop}(p:PS h k r) (hl:xs.length≤1000000) (z:∀ h',PS h' k (r++[.lst xs])->Q (.ref (r.length+3)) h'):W (newL xs) h Q :=
 ⟨.ref (r.length+3),h++[.lst xs],by unfold newL;rw [if_pos (Nat.le_trans hl (by decide)),p.len],z _ (p.app _)⟩
theorem z5U {h:AH}{k:Int}{r:AH}{n:Nat}{xs:List D}{v:D}{Q:D->AH->Prop}(p:PS h k r) (e:r[n]?=some (.lst xs)) (hl:xs.length<1000000) (z:∀ h',PS h' k (r.set n (.lst (xs++[v])))->Q .non h'):W (J8 (n+3) v) h Q :=
 ⟨.non,h.set (n+3) (.lst (xs++[v])),by
  unfold J8 updL
  rw [p.get,e]
  dsimp only
  rw [if_pos (Nat.le_trans (by simp;omega:(xs++[v]).length≤1000000) (by decide))],z _ (p.set _ _)⟩
theorem z2v {r j:AH}{n:Nat}{o:O}(e:r[n]?=some o):(r++j)[n]?=some o:=by
 rw [List.getElem?_append_left (List.getElem?_eq_some_iff.mp e).1,e]
theorem z0Q {r:AH}{o:O}:(r++[o])[r.length]?=some o:=by simp
def z9X (x:Str):Prop:=1≤x.length/\x.length≤8/\(∀ c∈x.cps.toList,97≤c/\c≤122) /\
 x∉(["yes","no","not","and","or","step","some","all","next","once","ever","until","unless"]:List Str)
theorem len_str (x:Str):x.length=x.cps.toList.length:=by simp [Str.length]
theorem z9a (a:Str):∀ l:List Str,((l.map D.str).any fun z=>eqF z (.str a))=decide (a∈l)
 | []=>by simp
 | b :: l=>by
  rw [List.map_cons,List.any_cons,z9a a l]
  simp only [eqF]
  rw [Bool.eq_iff_iff]
  simp only [Bool.or_eq_true,beq_iff_eq,decide_eq_true_eq,List.mem_cons]
  constructor
  ·rintro (h | h)
   ·exact .inl h.symm
   ·exact .inr h
  ·rintro (h | h)
   ·exact .inl h.symm
   ·exact .inr h
theorem z4P:∀ l:List Str,(l.map D.str).all z1z=true
 | []=>rfl
 | _ :: l=>by rw [List.map_cons,List.all_cons,z4P l];rfl
def low (x:Str):Prop:=∀ c∈x.cps.toList,97≤c/\c≤122
def abc:Str:="abcdefghijklmnopqrstuvwxyz"
theorem zk2:abc.cps.toList=(List.range 26).map (·+97):=by decide +kernel
theorem zm4:abc.length=26:=by decide +kernel
theorem zy5 {d:Int}(h0:0≤d) (h1:d<26):fIx (.str abc) (.int d)=pure (.str ⟨#[d.toNat+97]⟩):=by
 unfold fIx
 dsimp only
 rw [if_pos (by rw [zm4];decide),zk2]
 obtain ⟨n,rfl⟩:=Int.eq_ofNat_of_zero_le h0
 have hn:n<26:=by omega
 rw [z27 (v:=n+97) (by simp [hn])]
 simp
theorem z4d (x y:Str):(x++y).cps.toList=x.cps.toList++y.cps.toList:=Array.toList_append
theorem len_app (x y:Str):(x++y).length=x.length+y.length:=by rw [len_str,z4d,List.length_append,← len_str,← len_str]
theorem zy4 {x y:Str}(h:x.length+y.length≤1000):fAdd (.str x) (.str y)=pure (.str (x++y)):=by
 show (if x.length+y.length≤sizeLine then _ else _)=_
 rw [if_pos (Nat.le_trans h (by decide))]
theorem z3q (c:Nat):Str.length ⟨#[c]⟩=1:=rfl
theorem z5K {x:Str}{c:Nat}(h:low x) (h1:97≤c) (h2:c≤122):low (x++⟨#[c]⟩):=by
 intro d hd
 rw [z4d] at hd
 rcases List.mem_append.mp hd with q | q
 ·exact h d q
 ·simp at q;omega
theorem z3N {x:Str}{h:AH}{k d:Int}{r:AH}{Q:D->AH->Prop}(h0:0≤d) (h1:d<26) (hx:x.length≤100) (q:Q (.str (x++⟨#[d.toNat+97]⟩)) h):W (fIx (.str abc) (.int d)) h fun a h1=>W (fAdd (.str x) a) h1 Q:=by
 rw [zy5 h0 h1,W_pure,zy4 (by rw [z3q];omega),W_pure]
 exact q
def words:List Str:=["yes","no","not","and","or","step","some","all","next","once","ever","until","unless"]
def cand (x:Str) (l:Int) (i:Nat):Str:=x++⟨#[((l+i) % 26).toNat+97]⟩
theorem za2 {x:Str}{l:Int}(h0:0≤l) {i j:Nat}(hi:i<26) (hj:j<26) (e:cand x l i=cand x l j):i=j:=by
 have e2:(cand x l i).cps.toList=(cand x l j).cps.toList:=by rw [e]
 unfold cand at e2
 rw [z4d,z4d] at e2
 have:=List.append_cancel_left e2
 simp at this
 omega
theorem zz2 {x:Str}{l:Int}(h0:0≤l) {ns:List Str}(hn:ns.length≤7) (h:∀ i:Nat,i<26->cand x l i∈words∨cand x l i∈ns):False:=by
 have nd:((List.range 26).map (cand x l)).Nodup:=by
  rw [List.nodup_iff_pairwise_ne,List.pairwise_map]
  refine List.Pairwise.imp_of_mem ?_ List.nodup_range
  intro a b ha hb hne e
  exact hne (za2 h0 (by simpa using ha) (by simpa using hb) e)
 have sub:((List.range 26).map (cand x l)) ⊆ words++ns:=by
  intro y hy
  obtain ⟨i,hi,rfl⟩:=List.mem_map.mp hy
  exact List.mem_append.mpr (h i (by simpa using hi))
 have:=nd.length_le_of_subset sub
 rw [List.length_map,List.length_range,List.length_append] at this
 have w:words.length=13:=rfl
 omega
theorem zd7 {h:AH}{k:Int}{r:AH}{n:Nat}{ns:List Str}{x:Str}{neg:Bool}(p:PS h k r) (e:r[n]?=some (.lst (ns.map .str))):fIn neg (.str x) (.ref (n+3)) h=.ok (.bl (decide (x∈ns) != neg)) h:=by
 have g:getL (n+3) h=.ok (ns.map .str) h:=by unfold getL;rw [p.get,e]
 unfold fIn seqD
 rw [M.bind_ok g,z9a,z4P]
 rfl
theorem z8S {h:AH}{k:Int}{r:AH}{n:Nat}{xs:List D}{i:Int}{d:D}{Q:D->AH->Prop}(p:PS h k r) (e:r[n]?=some (.lst xs)) (a:atI xs i=some d) (q:Q d h):W (fIx (.ref (n+3)) (.int i)) h Q:=by
 show W (getL (n+3) >>= fun xs=>match atI xs i with | some d=>pure d | none=>bad) h Q
 rw [Z6]
 refine z3g p e ?_
 rw [a]
 exact W_pure.mpr q
theorem zd9 {h:AH}{k:Int}{r:AH}{n:Nat}{xs:List D}{Q:D->AH->Prop}(p:PS h k r) (e:r[n]?=some (.lst xs)) (q:Q (.int xs.length) h):W (fLen [.ref (n+3)]) h Q:=by
 show W (getL (n+3) >>= fun xs=>pure (.int xs.length)) h Q
 rw [Z6]
 refine z3g p e ?_
 exact W_pure.mpr q
theorem zp7:low "":=by
 intro c hc
 have:(Str.ofString "").cps.toList=[]:=by decide +kernel
 rw [this] at hc
 cases hc
theorem zj9:Str.length "" = 0:=by decide +kernel
def NS (ns:List Str):Prop:=ns.Nodup/\∀ x∈ns,z9X x
def stD (l:List Nat):List D:=l.map fun (i:Nat)=>.int i
structure MK (l:List Str):Prop where
 len:l.length≤8
 good:∀ x∈l,z9X x
 rise:l.Pairwise fun a b=>a.cps.toList<b.cps.toList
structure MA (st:List (List Nat)) (mk:List (List Str)):Prop where
 l1:1≤st.length
 l2:st.length≤40
 l3:mk.length=st.length
 s1:∀ l∈st,l.Pairwise (·<·)
 s2:∀ l∈st,∀ x∈l,x<st.length
 m1:∀ l∈mk,MK l
def stsD (st:List (List Nat)):List D:=st.map fun l=>.tup (stD l)
def mksD (mk:List (List Str)):List D:=mk.map fun l=>.tup (l.map .str)
def maD (st:List (List Nat)) (mk:List (List Str)):D:=.tup [.tup (stsD st),.tup (mksD mk)]
theorem z7p {mk:List (List Str)}{i:Nat}(hi:i<mk.length):atI (mksD mk) (i:Int)=some (.tup (((mk[i]?).getD []).map .str)):=by
 refine z27 ?_
 unfold mksD
 rw [List.getElem?_map,List.getElem?_eq_getElem hi]
 rfl
theorem z3v (a b:Str):leS a b=true↔a.cps.toList≤b.cps.toList:=by
 unfold leS
 simp [List.not_lt]
theorem z7m {l:List Str}(h:l.Nodup):(z1j l).Pairwise fun a b=>a.cps.toList<b.cps.toList:=by
 have s:(z1j l).Pairwise fun a b=>leS a b=true:=List.pairwise_mergeSort (fun a b c h1 h2=>(z3v a c).mpr (List.le_trans ((z3v a b).mp h1) ((z3v b c).mp h2)))
  (fun a b=>by
   rw [Bool.or_eq_true,z3v,z3v]
   exact List.le_total _ _) l
 have n:(z1j l).Nodup:=(List.mergeSort_perm l leS).nodup_iff.mpr h
 refine (List.Pairwise.and s n).imp fun {a b} q=>?_
 obtain ⟨q1,q2⟩:=q
 have q3:=(z3v a b).mp q1
 by_cases lt:a.cps.toList<b.cps.toList
 ·exact lt
 ·exact absurd (z89 (List.le_antisymm q3 (List.not_lt.mp lt))) q2
theorem sortS_mem {l:List Str}{x:Str}:x∈z1j l↔x∈l:=(List.mergeSort_perm l leS).mem_iff
theorem z36 (l:List Str):(z1j l).length=l.length:=(List.mergeSort_perm l leS).length_eq
theorem strs_map:∀ l:List Str,z2R (l.map .str)=some l
 | []=>rfl
 | a :: l=>by simp [z2R,strs_map l]
def AM (st:List (List Nat)) (mk:List (List Str)) (n:Nat):Prop:=(∀ l∈st,l.Pairwise (·<·))/\(∀ l∈st,∀ x∈l,x<n)/\∀ l∈mk,MK l
theorem z23 (ns:List Int) (p:D->Bool):((ns.map D.int).filter p).map (fun d=>d)=(ns.filter fun i=>p (.int i)).map D.int:=by
 rw [List.map_id',List.filter_map]
 rfl
theorem zv0:fPow (.int 10) (.int 18)=pure (.int 1000000000000000000):=rfl
theorem z0C (xs:List D):fLen [.tup xs]=pure (.int xs.length):=rfl
theorem ix_tup {xs:List D}{i:Int}{d:D}(a:atI xs i=some d):fIx (.tup xs) (.int i)=pure d:=by
 have:fIx (.tup xs) (.int i)=(pure xs >>= fun xs=>match atI xs i with | some d=>pure d | none=>bad):=rfl
 rw [this]
 show (match atI xs i with | some d=>pure d | none=>bad)=_
 rw [a]
theorem z3Y {l:List Nat}{c:Nat}(hc:c<l.length):atI (stD l) (c:Int)=some (.int ((l[c]?).getD 0:Nat)):=by
 refine z27 ?_
 unfold stD
 rw [List.getElem?_map,List.getElem?_eq_getElem hc]
 rfl
theorem zs6 (xs:List D):z5F [.tup xs]=newL xs:=rfl
theorem zu0 (i j:Nat):fAdd (.ref i) (.ref j)=(do let x ← getL i;let y ← getL j;newL (x++y)):=rfl
theorem z7R {xs:List D}{i:Int}(h0:0≤i) (h1:i<xs.length):∃ d∈xs,atI xs i=some d:=by
 obtain ⟨n,rfl⟩:=Int.eq_ofNat_of_zero_le h0
 have hn:n<xs.length:=by omega
 exact ⟨xs[n],List.getElem_mem hn,z27 (List.getElem?_eq_getElem hn)⟩
theorem zn2 (xs:List D) (lo hi:Option Int):(cutD xs lo hi).length≤xs.length:=by
 unfold cutD
 rw [List.length_take,List.length_drop]
 omega
theorem z3K {x y:List D}(h:x.length+y.length≤1000000):fAdd (.tup x) (.tup y)=pure (.tup (x++y)):=by
 show (if !decide (x.length+y.length≤sizeLine) then _ else _)=_
 rw [decide_eq_true (Nat.le_trans h (by decide))]
 rfl
section
variable {P:Program}{w:World}{K:PySem.W.Frag}{mg:Str->Option Value}{base:Heap}
theorem zH2 {x:Str}{st:Stmt}{f:Addr}{fd:FuncData}{N ps:List Str}{k n:Nat}{mb:G->M Out}(F:Fun K x x st f fd) (S:FnScope N ps (Z4 st)) (hn:ps.length=n)
 (body:∀ (cdv:Value) (A:Around) (outer:List Env) (s:Shared) (H:Hp) (E:XK),Room k (A.deeper (envOfC x (Z4 st) s.heap.objs.size f cdv)) ->
  SB (cxOf CX0 P w K mg base N x (Z4 st) f cdv A outer s H E).nox EX0 (j6 st) mb):FnOk P w K mg base CX0 (k+1) f fd ps (spB K (runF N.length mb) n):=by
 refine F.ok S (fun vs H Q E h=>h.1.trans hn.symm) (fun cdv A outer s H vs Q E hr h=>?_)
 obtain ⟨hl,ρ,ds,h,rh,rd,fin⟩:=h
 refine ⟨_,(body cdv A outer s H E hr).h,ρ,z1b N.length ds,h,⟨z3p rd,rh⟩,?_⟩
 refine (Fin.bind fin).mono fun o ρ1 h1 H1 p1 e1 r1 f1=>?_
 cases o with
 | nx γ=>exact fun σ _=>FE.here (d:=.non) (h:=h1) f1 r1 (by simp [RD])
 | rt d=>exact fun v rv=>f1 ρ1 H1 (Pre.refl _) (Ext.refl _ _) r1 v rv
 | bk γ=>exact (show False from f1).elim
 | ct γ=>exact (show False from f1).elim
theorem bindsTo1 {x p:Str}{st:Stmt}{f:Addr}{fd:FuncData}(F:Fun K x x st f fd)
 (h:∀ (kV doc pm:Value) (an:Option Addr) (cdv ct u:Value),bindArgs (PySem.W.fnOf x x (z2B st) (j6 st) (Z4 st) .none kV doc pm an cdv ct) ⟨[u],[]⟩=pure [(p,u)]):∀ (s:Shared) (u:Value),BindsTo s fd ⟨[u],[]⟩ [(p,u)]:=by
 obtain ⟨oc,od,kV,doc,pm,an,cdv,ct,osl,rfl,lk,hcd⟩:=F.ex
 exact fun s u=>.of_eq (h kV doc pm an cdv ct u)
end
theorem law_walk {l:PySem.W.OpenLaw}{q:Program}{loose:List Str}{XP:(Str->Option Value)->Heap->Prop}{YP:World->Heap->Prop}{d:DefRec}{K:Params->PySem.W.Frag}{m:List D->M D}{p:Str}{lev:Nat}(hn:l.most=some 63) (hdf:d.params.defaults=[]) (hr:Room lev callerA)
 (hY:∀ (w:World) (h:Heap),YP w h->(K w.params).In h)
 (F:∀ (w:World) (mg:Str->Option Value) (fa:Addr) (h:Heap),(K w.params).In h->h.Ns mainGlobals mg->mg d.name=some (.ref fa) ->
  ∃ fd:FuncData,(∀ (s:Shared) (u:Value),BindsTo s fd ⟨[u],[]⟩ [(p,u)])/\∀ base:Heap,(K w.params).In base->base.Ns mainGlobals mg->FnOk l.prog w (K w.params) mg base CX0 lev fa fd [p] (spB (K w.params) m 1))
 (math:∀ ns:List Int,ns.length≤63->∃ h',m [.fl (ns.map .int)] []=.ok (.bl true) h') :
 PySem.W.WalkO q loose XP YP l.row.toRowW d [] (fun f vs=>PySem.call f vs):=by
 refine L2.walk_of (n:=63) (k:=lev) (x:=p) (CX:=fun _=>CX0) (sp:=fun w=>spB (K w.params) m 1) hn (by decide) hdf hr hY F (fun w H a ns hl hO hS=>?_) fun _ _ _ _ _ z=>z
 obtain ⟨h',e⟩:=math ns hl
 have sq:SqLP (K w.params) H a (ns.map V.int):=by
  rcases hS with (h | ⟨o,h⟩) | h
  ·rcases hO a with z | ⟨ob,xs,z⟩<;>rw [h] at z<;>cases z
  ·exact .inl ⟨o,h⟩
  ·exact .inr h
 refine ⟨rfl,[],[.fl (ns.map .int)],[],⟨rfl,fun i j a h=>by simp at h,fun n o a h=>by simp at h⟩,RDs.cons ?_ RDs.nil,?_⟩
 ·simp only [RD]
  exact ⟨a,_,rfl,sq,z40 ns⟩
 ·rw [e]
  exact fun ρ' H' _ _ _ v rv=>by simpa [RD] using rv
mutual
def J7 (n:Nat):D->Bool
 | .ref i=>decide (i<n)
 | .tup xs=>Y0 n xs
 | .fl xs=>Y0 n xs
 | _=>true
def Y0 (n:Nat):List D->Bool
 | []=>true
 | d :: r=>J7 n d && Y0 n r
end
def refO (n:Nat):O->Bool
 | .lst xs=>Y0 n xs
 | .dK kvs=>Y0 n (kvs.map (·.2))
 | .dF kvs=>Y0 n (kvs.map (·.2))
 | _=>true
def Kept (h h1:AH):Prop:=∀ (i:Nat) (o:O),i<h.length->h1[i]?=some o->h[i]?=some o∨refO h.length o=true
section
variable {K:PySem.W.Frag}{ρ ρ':List Addr}{H:Hp}
theorem z3O {ρ:List Addr}{n i:Nat}(h:i<n):(ρ.take n)[i]?=ρ[i]?:=by rw [List.getElem?_take,if_pos h]
mutual
theorem RD.cut {n:Nat}:∀ {d:D}{v:V},J7 n d=true->RD K ρ H d v->RD K (ρ.take n) H d v
 | .non,v,_,h=>by simpa [RD] using h
 | .bl b,v,_,h=>by simpa [RD] using h
 | .int b,v,_,h=>by simpa [RD] using h
 | .str b,v,_,h=>by simpa [RD] using h
 | .tup ds,v,c,h=>by
  simp only [RD,J7] at h c ⊢
  obtain ⟨a,xs,h1,h2,h3⟩:=h
  exact ⟨a,xs,h1,h2,RDs.cut c h3⟩
 | .fl ds,v,c,h=>by
  simp only [RD,J7] at h c ⊢
  obtain ⟨a,xs,h1,h2,h3⟩:=h
  exact ⟨a,xs,h1,h2,RDs.cut c h3⟩
 | .ref i,v,c,h=>by
  simp only [RD,J7,decide_eq_true_eq] at h c ⊢
  obtain ⟨a,h1,h2⟩:=h
  exact ⟨a,h1,by rw [z3O c];exact h2⟩
theorem RDs.cut {n:Nat}:∀ {ds:List D}{xs:List V},Y0 n ds=true->RDs K ρ H ds xs->RDs K (ρ.take n) H ds xs
 | [],xs,_,h=>by simpa [RDs] using h
 | d :: ds,xs,c,h=>by
  simp only [RDs,Y0,Bool.and_eq_true] at h c ⊢
  obtain ⟨x,r,h1,h2,h3⟩:=h
  exact ⟨x,r,h1,RD.cut c.1 h2,RDs.cut c.2 h3⟩
end
mutual
theorem RD.low:∀ {d:D}{v:V},RD K ρ H d v->J7 ρ.length d=true
 | .non,v,h=>rfl
 | .bl b,v,h=>rfl
 | .int b,v,h=>rfl
 | .str b,v,h=>rfl
 | .tup ds,v,h=>by
  simp only [RD,J7] at h ⊢
  obtain ⟨a,xs,h1,h2,h3⟩:=h
  exact RDs.low h3
 | .fl ds,v,h=>by
  simp only [RD,J7] at h ⊢
  obtain ⟨a,xs,h1,h2,h3⟩:=h
  exact RDs.low h3
 | .ref i,v,h=>by
  simp only [RD,J7,decide_eq_true_eq] at h ⊢
  obtain ⟨a,h1,h2⟩:=h
  exact (List.getElem?_eq_some_iff.mp h2).1
theorem RDs.low:∀ {ds:List D}{xs:List V},RDs K ρ H ds xs->Y0 ρ.length ds=true
 | [],xs,h=>rfl
 | d :: ds,xs,h=>by
  simp only [RDs,Y0,Bool.and_eq_true] at h ⊢
  obtain ⟨x,r,h1,h2,h3⟩:=h
  exact ⟨RD.low h2,RDs.low h3⟩
end
theorem RK.cut {n:Nat}:∀ {kvs:List (Key×D)}{vs:List (Key×V)},Y0 n (kvs.map (·.2))=true->RK K ρ H kvs vs->RK K (ρ.take n) H kvs vs
 | _,_,_,.nil=>.nil
 | _,_,c,.cons a b=>by
  simp only [List.map_cons,Y0,Bool.and_eq_true] at c
  exact .cons ⟨a.1,a.2.cut c.1⟩ (RK.cut c.2 b)
theorem RK.low:∀ {kvs:List (Key×D)}{vs:List (Key×V)},RK K ρ H kvs vs->Y0 ρ.length (kvs.map (·.2))=true
 | _,_,.nil=>rfl
 | _,_,.cons a b=>by
  simp only [List.map_cons,Y0,Bool.and_eq_true]
  exact ⟨a.2.low,RK.low b⟩
theorem RO.cut {n:Nat}{o:O}{a:Addr}(c:refO n o=true) (h:RO K ρ H o a):RO K (ρ.take n) H o a:=by
 cases o with
 | lst ds=>obtain ⟨xs,h1,h2⟩:=h;exact ⟨xs,h1,h2.cut c⟩
 | set ks=>exact h
 | dct=>exact h
 | dK kvs=>obtain ⟨vs,h1,h2⟩:=h;exact ⟨vs,h1,h2.cut c⟩
 | dF kvs=>obtain ⟨ob,vs,h1,h2⟩:=h;exact ⟨ob,vs,h1,h2.cut c⟩
 | exc c=>exact h
theorem RO.low {o:O}{a:Addr}(h:RO K ρ H o a):refO ρ.length o=true:=by
 cases o with
 | lst ds=>obtain ⟨xs,h1,h2⟩:=h;exact h2.low
 | set ks=>rfl
 | dct=>rfl
 | dK kvs=>obtain ⟨vs,h1,h2⟩:=h;exact h2.low
 | dF kvs=>obtain ⟨ob,vs,h1,h2⟩:=h;exact h2.low
 | exc c=>rfl
theorem RH.cut {h:AH}{n:Nat}(r:RH K ρ h H) (c:∀ o∈h.take n,refO n o=true):RH K (ρ.take n) (h.take n) H:=by
 refine ⟨by simp [r.len],fun i j a h1 h2=>?_,fun m o a h1 h2=>?_⟩
 ·rw [List.getElem?_take] at h1 h2
  split at h1
  ·split at h2
   ·exact r.nd i j a h1 h2
   ·cases h2
  ·cases h1
 ·have hm:=List.mem_of_getElem? h1
  rw [List.getElem?_take] at h1 h2
  split at h1
  ·rename_i q
   rw [if_pos q] at h2
   exact (r.obj m o a h1 h2).cut (c o hm)
  ·cases h1
theorem RH.cut1 {h:AH}{n i:Nat}{o:O}(r:RH K ρ h H) (c:∀ o∈h.take n,refO n o=true) (hn:n≤h.length) (hi:n≤i) (e:h[i]?=some o) (co:refO n o=true):∃ a,ρ[i]?=some a/\RH K (ρ.take n++[a]) (h.take n++[o]) H:=by
 obtain ⟨a,ea,ra⟩:=r.at e
 have r1:=r.cut c
 have ln:(ρ.take n).length=n:=by rw [List.length_take,r.len];omega
 have lh:(h.take n).length=n:=by rw [List.length_take];omega
 have ne:∀ {m:Nat} {b:Addr},(ρ.take n)[m]?=some b->b≠a:=fun {m b} q z=>by
  have hm:=(List.getElem?_eq_some_iff.mp q).1
  rw [ln] at hm
  rw [z3O hm,z] at q
  have:=r.nd m i a q ea
  omega
 refine ⟨a,ea,by simp [r1.len],fun i j b h1 h2=>?_,fun m u b h1 h2=>?_⟩
 ·rw [List.getElem?_append] at h1 h2
  split at h1<;>split at h2
  ·exact r1.nd i j b h1 h2
  ·rename_i q1 q2
   rw [List.getElem?_singleton] at h2
   split at h2
   ·cases h2;exact absurd rfl (ne h1)
   ·cases h2
  ·rename_i q1 q2
   rw [List.getElem?_singleton] at h1
   split at h1
   ·cases h1;exact absurd rfl (ne h2)
   ·cases h1
  ·rw [List.getElem?_singleton] at h1 h2
   split at h1
   ·split at h2
    ·omega
    ·cases h2
   ·cases h1
 ·rw [List.getElem?_append] at h1 h2
  rw [ln] at h2
  rw [lh] at h1
  split at h1
  ·rename_i q
   rw [if_pos q] at h2
   exact (r1.obj m u b h1 h2).mono (Pre.app _ _) (Ext.refl _ _) rfl
  ·rename_i q
   rw [if_neg q] at h2
   rw [List.getElem?_singleton] at h1 h2
   split at h1
   ·rename_i q0
    rw [if_pos q0] at h2
    cases h1;cases h2
    exact (ra.cut co).mono (Pre.app _ _) (Ext.refl _ _) rfl
   ·cases h1
end
theorem z8M {K:PySem.W.Frag}{ρ:List Addr}{h h1:AH}{H:Hp}(r:RH K ρ h H) (c:Kept h h1):∀ o∈h1.take h.length,refO h.length o=true:=fun o ho=>by
 obtain ⟨i,hi⟩:=List.getElem?_of_mem ho
 rw [List.getElem?_take] at hi
 split at hi
 ·rename_i li
  rcases c i o li hi with q | q
  ·obtain ⟨a,_,ra⟩:=r.at q
   rw [← r.len]
   exact ra.low
  ·exact q
 ·cases hi
theorem z6y (h j:AH):Kept h (h++j):=fun i o li e=>.inl (by rw [List.getElem?_append_left li] at e;exact e)
open Classical in
noncomputable def cln (m:M D):M D:=fun h=>match m h with
 | .ok d h1=>if h.length≤h1.length/\Kept h h1 then
  (if J7 h.length d=true then .ok d (h1.take h.length) else match d with
   | .ref i=>(match h1[i]? with
    | some o=>if refO h.length o=true then .ok (.ref h.length) (h1.take h.length++[o]) else .ok d h1
    | none=>.ok d h1)
   | d=>.ok d h1)
  else .ok d h1
 | .err x h1=>.err x h1
 | .bad=>.bad
theorem FE.cln {K:PySem.W.Frag}{EX:XX}{ρ:List Addr}{h:AH}{H:Hp}{Q:VK}{m:M D}(r:RH K ρ h H) (f:FE K EX ρ H Q (cln m h)):FE K EX ρ H Q (m h):=by
 unfold FT.cln at f
 cases e:m h with
 | bad=>rw [e] at f;exact f
 | err x h1=>rw [e] at f;exact f
 | ok d h1 =>
  rw [e] at f
  dsimp only at f
  split at f
  ·rename_i c
   obtain ⟨hl,c⟩:=c
   have cl:=z8M r c
   have pre:∀ {ρ1:List Addr},Pre ρ ρ1->Pre ρ (ρ1.take h.length):=fun {ρ1} p i a q=>by
    have:=(List.getElem?_eq_some_iff.mp q).1
    rw [r.len] at this
    rw [z3O this]
    exact p i a q
   split at f
   ·rename_i cd
    exact fun ρ1 H1 p1 e1 r1 v rv=>f _ H1 (pre p1) e1 (r1.cut cl) v (rv.cut cd)
   ·rename_i nd
    split at f
    ·rename_i i
     split at f
     ·rename_i o eo
      split at f
      ·rename_i co
       intro ρ1 H1 p1 e1 r1 v rv
       have hi:h.length≤i:=by
        simp only [J7,decide_eq_true_eq] at nd
        omega
       obtain ⟨a,ea,r2⟩:=r1.cut1 cl hl hi eo co
       refine f _ H1 ((pre p1).trans (Pre.app _ _)) e1 r2 v ?_
       simp only [RD] at rv ⊢
       obtain ⟨b,h2,h3⟩:=rv
       rw [ea] at h3;cases h3
       refine ⟨a,h2,?_⟩
       have ln:(ρ1.take h.length).length=h.length:=by rw [List.length_take,r1.len];omega
       rw [List.getElem?_append_right (by omega),ln]
       simp
      ·exact f
     ·exact f
    ·exact f
  ·exact f
noncomputable def clE (m:G->M D):G->M D:=fun γ=>cln (m γ)
theorem z1T {X:Cx}{EX:XX}{e:Expr}{m:G->M D}(h:SE X EX e m):SE X EX e (clE m) :=
 ⟨PE.imp h.h fun σ H Q ⟨ρ,γ,h,rel,fin⟩=>⟨ρ,γ,h,rel,FE.cln rel.h fin⟩⟩
open Classical in
noncomputable def clT (m:G->M Bool):G->M Bool:=fun γ h=>match m γ h with
 | .ok d h1=>if h.length≤h1.length/\Kept h h1 then .ok d (h1.take h.length) else .ok d h1
 | .err x h1=>.err x h1
 | .bad=>.bad
theorem RH.cut2 {K:PySem.W.Frag}{ρ ρ1:List Addr}{h h1:AH}{H H1:Hp}(r:RH K ρ h H) (p1:Pre ρ ρ1) (r1:RH K ρ1 h1 H1) (c:Kept h h1):RH K (ρ1.take h.length) (h1.take h.length) H1/\Pre ρ (ρ1.take h.length):=by
 refine ⟨r1.cut (z8M r c),fun i a q=>?_⟩
 have:=(List.getElem?_eq_some_iff.mp q).1
 rw [r.len] at this
 rw [z3O this]
 exact p1 i a q
theorem zt9 {X:Cx}{EX:XX}{e:Expr}{m:G->M Bool}(h:SC X EX e m):SC X EX e (clT m) :=
 ⟨PT.imp h.h fun σ H Q ⟨ρ,γ,h,rel,fin⟩=>⟨ρ,γ,h,rel,by
  unfold clT at fin
  cases e:m γ h with
  | bad=>rw [e] at fin;exact fin
  | err x h1=>rw [e] at fin;exact fin
  | ok d h1 =>
   rw [e] at fin
   dsimp only at fin
   split at fin
   ·rename_i c
    exact fun ρ1 H1 p1 e1 r1=>let ⟨r2,p2⟩:=rel.h.cut2 p1 r1 c.2;fin _ H1 p2 e1 r2
   ·exact fin⟩⟩
theorem Fn.cln {P:Program}{w:World}{K:PySem.W.Frag}{mg:Str->Option Value}{base:Heap}{k:Nat}{x:Str}{n:Nat}{mf:List D->M D}(F:Fn P w K mg base k x n mf):Fn P w K mg base k x n (fun ds=>cln (mf ds)):=by
 obtain ⟨f,fd,ps,h1,h2,h3,h4⟩:=F.ex
 exact ⟨f,fd,ps,h1.imp fun vs H Q E ⟨hl,ρ,ds,h,rh,rd,fin⟩=>⟨hl,ρ,ds,h,rh,rd,FE.cln rh fin⟩,h2,h3,h4⟩
end FT
namespace L2
open PySem PySem.Spec PyProof.Rows PySem.Builtin
theorem z2T:fillsNumberSlot (.type "tuple") "mul" = pure false :=
 PySem.fillsNumberSlot_seq (id:="tuple.__mul__") (r:=some (.builtin "tuple.__rmul__")) PySem.F.slot_tuple_mul.lookup (by decide +kernel) PySem.F.slot_tuple_rmul.lookup (by decide +kernel)
theorem z4q:seqRepeat? (.type "tuple")=pure (some (.builtin "tuple.__mul__")):=by
 unfold seqRepeat?
 rw [PySem.seqSlot_of (T:="tuple") (name:="__mul__") (id:="tuple.__mul__") PySem.F.slot_tuple_mul.lookup (by decide +kernel),PySem.seqSlot_of (T:="tuple") (name:="__rmul__") (id:="tuple.__rmul__") PySem.F.slot_tuple_rmul.lookup (by decide +kernel)]
 rfl
theorem zp6 (a:Int) (t:Tok) (l:Addr) (items:Array Value) (n:Nat) (dd:Option Addr) (sl:Array (Option Value)) :
 Meets (Builtin.«int.__rmul__» ⟨[.int a t,.ref l],[]⟩) (fun _ R s=>s.heap.get? l=some { cls:=.type "tuple",dict:=dd,data:=.seq items n,slots:=sl }/\R (.ok (.ret Value.notImplemented)) s) :=
 .of_wp fun prog w A R s h=>by obtain ⟨hp,g,d,tk,os⟩:=s;obtain ⟨hl,h⟩:=h;wp_walk;exact ⟨_,rfl,h⟩
theorem zr6 (l:Addr) (items:Array Value) (n:Nat) (dd:Option Addr) (sl:Array (Option Value)) (x:Int) (u:Tok) (h1:-(2 ^ 63)≤x) (h2:x<2 ^ 63) (hc:items.isEmpty=true∨x=1) :
 Meets (Builtin.«tuple.__mul__» ⟨[.ref l,.int x u],[]⟩) (fun _ R s=>s.heap.get? l=some { cls:=.type "tuple",dict:=dd,data:=.seq items n,slots:=sl }/\R (.ok (.ret (Value.ref l))) s) :=
 .of_wp fun prog w A R s h=>by
  obtain ⟨hp,g,d,tk,os⟩:=s;obtain ⟨hl,h⟩:=h
  have f1:=PySem.AutoSeq1.idx_int
  have c1:(decide (x < -(2 ^ 63)) || decide (x ≥ 2 ^ 63))=false:=by simp;omega
  have c2:(items.isEmpty || x == 1)=true:=by simpa using hc
  wp_walk using wpAny_loadPart' hl
  refine wpAny_ite_false (by rw [c1];rfl) ?_
  wp_walk using wpAny_loadPart' hl
  exact ⟨_,rfl,h⟩
theorem zE3 (l:Addr) (items:Array Value) (n:Nat) (dd:Option Addr) (sl:Array (Option Value)) (x:Int) (u:Tok) (h1:-(2 ^ 63)≤x) (h2:x<2 ^ 63) (hc:items.isEmpty=false) (hx:x≤0) :
 Meets (Builtin.«tuple.__mul__» ⟨[.ref l,.int x u],[]⟩) (fun _ R s=>s.heap.get? l=some { cls:=.type "tuple",dict:=dd,data:=.seq items n,slots:=sl }/\R (.ok (.ret (Value.ref s.heap.objs.size))) { s with heap:=s.heap.push { cls:=Value.type "tuple",data:=Data.seq #[] },toks:=s.toks }) :=
 .of_wp fun prog w A R s h=>by
  obtain ⟨hp,g,d,tk,os⟩:=s;obtain ⟨hl,h⟩:=h
  have f1:=PySem.AutoSeq1.idx_int
  have c1:(decide (x < -(2 ^ 63)) || decide (x ≥ 2 ^ 63))=false:=by simp;omega
  have c2:(items.isEmpty || x == 1)=false:=by rw [hc];simp;omega
  have c3:(decide (x≤0) || items.isEmpty)=true:=by simp [hx]
  wp_walk using wpAny_loadPart' hl
  refine wpAny_ite_false (by rw [c1];rfl) ?_
  wp_walk using wpAny_loadPart' hl
  refine wpAny_ite_false (by rw [c2];rfl) ?_
  wp_walk using wpAny_loadPart' hl
  exact ⟨_,rfl,h⟩
theorem zy6 (l:Addr) (items:Array Value) (n:Nat) (dd:Option Addr) (sl:Array (Option Value)) (x:Int) (u:Tok) (h1:-(2 ^ 63)≤x) (h2:x<2 ^ 63) (hc:items.isEmpty=false) (hx:1<x) (hz:items.size * x.toNat≤sizeLine) :
 Meets (Builtin.«tuple.__mul__» ⟨[.ref l,.int x u],[]⟩) (fun _ R s=>s.heap.get? l=some { cls:=.type "tuple",dict:=dd,data:=.seq items n,slots:=sl }/\R (.ok (.ret (Value.ref s.heap.objs.size))) { s with heap:=s.heap.push { cls:=Value.type "tuple",data:=Data.seq (List.foldl (fun x1 x2=>x1++x2) #[] (List.replicate x.toNat items)) },toks:=s.toks }) :=
 .of_wp fun prog w A R s h=>by
  obtain ⟨hp,g,d,tk,os⟩:=s;obtain ⟨hl,h⟩:=h
  have f1:=PySem.AutoSeq1.idx_int
  have c1:(decide (x < -(2 ^ 63)) || decide (x ≥ 2 ^ 63))=false:=by simp;omega
  have c2:(items.isEmpty || x == 1)=false:=by rw [hc];simp;omega
  have c3:(decide (x≤0) || items.isEmpty)=false:=by rw [hc];simp;omega
  have ez:(items.size:Int) * x=((items.size * x.toNat:Nat):Int):=by
   rw [Int.natCast_mul,Int.toNat_of_nonneg (by omega)]
  have sl4:(sizeLine:Nat)≤2 ^ 24:=by decide
  have c4:¬ (items.size:Int) * x > (2 ^ 63 - 1) / 8:=by rw [ez];omega
  have c5:Tuple.tupleTooMany ((items.size:Int) * x)=false:=by
   unfold Tuple.tupleTooMany
   rw [ez,decide_eq_false_iff_not]
   omega
  wp_walk using wpAny_loadPart' hl
  refine wpAny_ite_false (by rw [c1];rfl) ?_
  wp_walk using wpAny_loadPart' hl
  refine wpAny_ite_false (by rw [c2];rfl) ?_
  wp_walk using wpAny_loadPart' hl
  refine wpAny_ite_false (by rw [c3];rfl) ?_
  wp_walk using wpAny_loadPart' hl
  rw [if_neg c4]
  wp_walk using wpAny_loadPart' hl
  refine wpAny_ite_false (by rw [c5];rfl) ?_
  wp_walk using wpAny_loadPart' hl
  have c6:¬ (List.foldl (fun x1 x2=>x1++x2) #[] (List.replicate x.toNat items)).size > sizeLine:=by
   have f0:=foldl_rep items.toList x.toNat []
   rw [List.nil_append] at f0
   have:(List.foldl (fun x1 x2=>x1++x2) #[] (List.replicate x.toNat items))=(List.replicate x.toNat items.toList).flatten.toArray:=f0
   rw [this,List.size_toArray,len_rep,Array.length_toList,Nat.mul_comm]
   omega
  refine wpAny_ite_false (decide_eq_false c6) ?_
  wp_walk using wpAny_loadPart' hl
  exact ⟨_,rfl,h⟩
def zB4 (K:PySem.W.Frag):R2:=fun x y H Q=>∃ a k xs,x=.ref a/\y=.int k/\SqT K H a xs/\-(2 ^ 63)≤k/\k<2 ^ 63/\xs.length * k.toNat≤sizeLine /\
 ((xs=[]∨k=1)->Q (.ref a) H)/\(∀ p,H p=none->Q (.ref p) (upd H p (.tup (List.replicate k.toNat xs).flatten)))
theorem zp1 {X:Cx}:OpR X (binaryOp .Mult) (zB4 X.K):=by
 intro pins s σ H x y v u Q I rx ry h
 obtain ⟨a,k,xs,rfl,rfl,ha,h1,h2,hz,q1,q2⟩:=h
 cases rx
 obtain ⟨t,rfl⟩:=ry
 obtain ⟨its,r1,p1,_⟩:=I.tuple ha
 obtain ⟨⟨cls,dd,data,sl⟩,ho,hc,n,hd⟩:=id p1
 simp only at hc hd
 subst hc hd
 have go:∀ (R:Value->Shared->Prop),wpAny (model X.prog X.w) X.A (call (.builtin "tuple.__mul__") [.ref a,.int k t]) R X.xe s->wpAny (model X.prog X.w) X.A (binaryOp .Mult (.ref a) (.int k t)) R X.xe s:=fun R z =>
  wpAny_binaryOp_repeat_ref (T:="tuple") (U:="int") (by decide) ⟨_,ho,rfl⟩ (fun s'=>typeIs_int s' k t) z2T PySem.F.fills_int_mul PySem.F.slot_int_rmul z4q PySem.F.slot_int_index.lookup
   (call_meets PySem.F.slot_int_rmul (typeIs_int s k t) PySem.F.entry_int_rmul (PySem.F.args_int_rmul_2 _ _) (zp6 k t a its.toArray n dd sl) ⟨ho,rfl,⟨_,ho,rfl⟩,z⟩)
 refine go _ ?_
 have ln:its.length=xs.length:=r1.length.symm
 by_cases c:xs=[]∨k=1
 ·refine call_meets PySem.F.slot_tuple_mul ⟨_,ho,rfl⟩ PySem.F.entry_tuple_mul (PySem.F.args_tuple_mul_2 _ _) (zr6 a its.toArray n dd sl k t h1 h2 ?_) ⟨ho,.ref a,H,I,rfl,q1 c⟩
  rcases c with c | c
  ·left
   have:its=[]:=r1.nil_iff.mpr c
   rw [this];rfl
  ·exact .inr c
 ·have ne:its.toArray.isEmpty=false:=by
   cases its with
   | nil=>exact absurd (.inl (r1.nil_iff.mp rfl)) c
   | cons a r=>rfl
  by_cases k0:k≤0
  ·refine call_meets PySem.F.slot_tuple_mul ⟨_,ho,rfl⟩ PySem.F.entry_tuple_mul (PySem.F.args_tuple_mul_2 _ _) (zE3 a its.toArray n dd sl k t h1 h2 ne k0) ⟨ho,?_⟩
   have e0:k.toNat=0:=by omega
   refine ⟨.ref s.heap.objs.size,_,I.laid (t':=s.toks) (o:=.tup (List.replicate k.toNat xs).flatten) (fun b ob q=>Heap.get?_push_of_some _ q) (Nat.le_refl _) ?_,rfl,q2 _ (I.hok.fresh (Nat.le_refl _))⟩
   rw [e0]
   exact ⟨by simp,_,.nil,FT.IsTup0.new _ _⟩
  ·have k2:1<k:=by
    have:k≠1:=fun z=>c (.inr z)
    omega
   refine call_meets PySem.F.slot_tuple_mul ⟨_,ho,rfl⟩ PySem.F.entry_tuple_mul (PySem.F.args_tuple_mul_2 _ _) (zy6 a its.toArray n dd sl k t h1 h2 ne k2 (by rw [List.size_toArray,ln];exact hz)) ⟨ho,?_⟩
   refine ⟨.ref s.heap.objs.size,_,I.laid (t':=s.toks) (o:=.tup (List.replicate k.toNat xs).flatten) (fun b ob q=>Heap.get?_push_of_some _ q) (Nat.le_refl _) ?_,rfl,q2 _ (I.hok.fresh (Nat.le_refl _))⟩
   refine ⟨by rw [len_rep,Nat.mul_comm];exact hz,_,r1.rep k.toNat,?_⟩
   have f0:=foldl_rep its k.toNat []
   rw [List.nil_append] at f0
   have e:(List.foldl (fun x1 x2=>x1++x2) #[] (List.replicate k.toNat its.toArray))=(List.replicate k.toNat its).flatten.toArray:=f0
   rw [e]
   exact FT.IsTup0.new _ _
end L2
namespace FT
open PySem PySem.Spec PyProof.Rows L2
def z3X:D->D->M D
 | .tup x,.int j=>if decide (-(2 ^ 63)≤j) && decide (j<2 ^ 63) && decide (j.toNat * x.length≤sizeLine) then pure (.tup (List.replicate j.toNat x).flatten) else bad
 | x,y=>fMul x y
theorem zn1 {X:Cx}{EX:XX}:BR X.K EX (fun x y H Q=>(rI CMul (fun i j=>.int (i * j)) x y H Q∨rRep x y H Q)∨zB4 X.K x y H Q) z3X:=by
 intro ρ h H x y v u Q r rx ry fin
 unfold z3X at fin
 split at fin
 ·rename_i ds j
  simp only [RD] at rx ry
  obtain ⟨a,xs,rfl,sq,rd⟩:=rx
  subst ry
  split at fin
  ·rename_i hc
   simp only [Bool.and_eq_true,decide_eq_true_eq] at hc
   have hl:=rd.length
   refine .inr ⟨a,j,xs,rfl,rfl,sq,hc.1.1,hc.1.2,by rw [← hl,Nat.mul_comm];exact hc.2,fun c=>?_,fun p hp=>FE.tup fin r (rd.flat j.toNat) hp⟩
   refine FE.here fin r ?_
   simp only [RD]
   refine ⟨a,xs,rfl,sq,?_⟩
   rcases c with c | c
   ·subst c
    have:ds=[]:=by simpa using hl
    subst this
    have:(List.replicate j.toNat ([]:List D)).flatten=[]:=by simp
    rw [this];exact rd
   ·subst c
    have:(List.replicate (1:Int).toNat ds).flatten=ds:=by simp
    rw [this];exact rd
  ·exact fin.elim
 ·exact .inl (zB1 ρ h H x y v u Q r rx ry fin)
theorem z4h {X:Cx}{EX:XX}{a b:Expr}{pos:Pos}{ma mb:G->M D}(ha:SE X EX a ma) (hb:SE X EX b mb):SE X EX (.BinOp a .Mult b pos) (e2 z3X ma mb):=z72 ((op_mul.or zv5).or zp1) zn1 ha hb
section
variable {X:Cx}{a e:Expr}{es:List Expr}{kws:List Keyword}{pos p kpos:Pos}{mr mk:G->M (List D)}{ma:G->M D}{nm:Option Str}{EX:XX}
end
end FT
namespace L2
open PySem PySem.Spec PyProof.Rows
open PySem.AutoSeq1 (wpAny_loadPart')
section
variable {prog:Program}{w:World}{A:Around}{E:Value->Shared->Prop}{s:Shared}
end
def rngO (p:Addr) (n:Int):HO:=.ext fun h=>∃ t u v,IsRange h p 0 n 1 t u v
theorem zv7 {P:Program}{w:World}{H:Hp}{h:Heap}{p:Addr}{n:Int}{t u v:Tok}(e:IsRange h p 0 n 1 t u v):ObjOk P w H h p (rngO p n) :=
 ⟨⟨t,u,v,e⟩,⟨_,e⟩,fun h1 h2 ⟨t,u,v,e⟩ k=>⟨t,u,v,k _ e⟩⟩
def z5u (n:Nat):List V:=(List.range n).map fun (i:Nat)=>V.int i
theorem z7i {acc:Array Value}{n:Nat}(h:ItemsOf (fun i v=>∃ t,v=Value.int (0+i * 1) t) acc n):Vals (z5u n) acc.toList:=by
 obtain ⟨hs,hi⟩:=h
 have:∀ (xs:List Value) (k:Nat),(∀ j v,xs[j]?=some v->∃ t,v=Value.int (0+((k+j:Nat):Int) * 1) t)->Vals ((List.range' k xs.length).map fun (i:Nat)=>V.int i) xs:=by
  intro xs
  induction xs with
  | nil=>intro k _;exact .nil
  | cons x r ih =>
   intro k hk
   rw [List.length_cons,List.range'_succ,List.map_cons]
   refine .cons ?_ (ih (k+1) fun j v e=>?_)
   ·obtain ⟨t,rfl⟩:=hk 0 x rfl
    exact ⟨t,by simp⟩
   ·obtain ⟨t,rfl⟩:=hk (j+1) v (by simpa using e)
    exact ⟨t,by congr 3;omega⟩
 have q:=this acc.toList 0 (fun j v e=>by
  obtain ⟨t,rfl⟩:=hi j v (by simpa using e)
  exact ⟨t,by simp⟩)
 unfold z5u
 rw [List.range_eq_range',← hs]
 simpa using q
section
variable {X:Cx}
theorem z9L:z1Q X (.type "range") (fun xs H Q=>∃ j,xs=[.int j]/\∀ p,H p=none->Q (.ref p) (upd H p (rngO p j))):=by
 intro pins s σ H xs us Q I r h
 obtain ⟨j,rfl,q⟩:=h
 obtain ⟨u,rfl,ru⟩:=vals1 r
 obtain ⟨t,rfl⟩:=ru
 refine call_range_1 ⟨.ref s.heap.objs.size,_,I.laid (o:=rngO s.heap.objs.size j) (fun b ob q=>Heap.get?_push_of_some _ q) (Nat.le_refl _) (zv7 (Heap.get?_push_size _ rfl)),rfl,q _ (I.hok.fresh (Nat.le_refl _))⟩
theorem zv8 {pins:List (Addr×Obj)}{σ:St}{H:Hp}{s:Shared}{p:Addr}{j:Int}(I:Inv X pins σ H s) (e:H p=some (rngO p j)):∃ t u v,IsRange s.heap p 0 j 1 t u v:=(I.hok p _ e).1
theorem zn5 {j:Int}(h1:-(2 ^ 62)≤j) (h2:j<2 ^ 62):Builtin.Range.small 0 j 1=true:=small_one (by omega) (by omega) h1 h2
theorem zC9 (j:Int):Builtin.Range.rangeSize 0 j 1=(j.toNat:Int):=by rw [rangeSize_one];split<;>omega
theorem z6Z (hc:X.calm=true):z1Q X (.type "list") (fun xs H Q=>∃ p j,xs=[.ref p]/\H p=some (rngO p j)/\-(2 ^ 62)≤j/\j<2 ^ 62/\j.toNat≤sizeLine/\∀ l,H l=none->Q (.ref l) (upd H l (.lst (z5u j.toNat)))):=by
 intro pins s σ H xs us Q I r h
 obtain ⟨p,j,rfl,e,h1,h2,hl,q⟩:=h
 obtain ⟨u,rfl,ru⟩:=vals1 r
 cases ru
 obtain ⟨t,u,v,hr⟩:=zv8 I e
 have l4:(sizeLine:Nat)≤2 ^ 24:=by decide
 refine call_list_range (n:=j.toNat) (I.ok.hd hc) hr (zn5 h1 h2) (zC9 j) (by omega) fun h' tk acc c' kp e' hacc=>?_
 have hv:=z7i hacc
 refine ⟨.ref s.heap.objs.size,_,I.laid (t':=tk) (o:=.lst (z5u j.toNat)) kp (Nat.le_refl _) ⟨by unfold z5u;simpa using hl,acc.toList,c',hv,by simpa using e'⟩,rfl,q _ (I.hok.fresh (Nat.le_refl _))⟩
end
end L2
namespace FT
open PySem PySem.Spec PyProof.Rows L2
def eRng (tup:Bool) (ma:G->M D):G->M D:=fun γ=>do
 let x ← ma γ
 match x with
 | .int j=>if decide (-(2 ^ 62)≤j) && decide (j<2 ^ 62) && decide (j.toNat≤sizeLine) then (if tup then pure (.tup (z0Z j.toNat)) else newL (z0Z j.toNat)) else bad
 | _=>bad
theorem z9e {K:PySem.W.Frag}{ρ:List Addr}{H:Hp}{ι:Type}{f:ι->D}{g:ι->V}:∀ (l:List ι),(∀ i,RD K ρ H (f i) (g i))->RDs K ρ H (l.map f) (l.map g)
 | [],_=>RDs.nil
 | x :: r,h=>RDs.cons (h x) (z9e r h)
theorem z8c {K:PySem.W.Frag}{ρ:List Addr}{H:Hp}(n:Nat):RDs K ρ H (z0Z n) (z5u n):=by
 unfold z0Z z5u
 exact z9e _ fun i=>by simp [RD]
section
variable {X:Cx}{EX:XX}{a:Expr}{p p2 pos pos2:Pos}{ma:G->M D}
theorem za7 (hc:X.calm=true) (hg:Gl X "list") (hm:X.mg "list" = none) (hg2:Gl X "range") (hm2:X.mg "range" = none) (ha:SE X EX a ma) (he:starEach [a] X.env=[(false,eval a X.env)]:=by rfl)
 (he2:starEach [.Call (.Name "range" p2) [a] [] pos2] X.env=[(false,eval (.Call (.Name "range" p2) [a] [] pos2) X.env)]:=by rfl):SE X EX (.Call (.Name "list" p) [.Call (.Name "range" p2) [a] [] pos2] [] pos) (eRng false ma) :=
 ⟨PE.imp (z1M (z6Z hc) hg hm (by decide +kernel) (z0q (z1M z9L hg2 hm2 (by decide +kernel) (z0q ha.h z1P he) (by decide) (by decide) he rfl) z1P he2) (by decide) (by decide) he2 rfl) fun σ H Q ⟨ρ,γ,h,rel,fin⟩=>⟨ρ,γ,h,rel,(Fin.bind fin).mono fun x ρ1 h1 H1 p1 e1 r1 f1 v rv=>by
  cases x<;>first | exact (show False from f1).elim | skip
  rename_i j
  simp only [RD] at rv
  subst rv
  dsimp only at f1
  split at f1
  ·rename_i c
   simp only [Bool.and_eq_true,decide_eq_true_eq] at c
   rw [if_neg (by decide)] at f1
   refine ⟨j,rfl,fun q hq=>⟨q,j,rfl,z06,c.1.1,c.1.2,c.2,fun l hl=>?_⟩⟩
   unfold newL at f1
   rw [if_pos (by unfold z0Z;simpa using c.2)] at f1
   exact FE.lst (Fin.up (Pre.refl _) (Ext.upd (.inl hq)) f1) (r1.other hq) (z8c _) hl
  ·exact f1.elim⟩⟩
end
inductive Vw where
 | flat (d:D) | tup (xs:List D) | lst (xs:List D) | no
def vw (h:AH):D->Vw
 | .tup xs=>.tup xs
 | .fl xs=>.lst xs
 | .ref i=>match h[i]? with
  | some (.lst xs)=>.lst xs
  | _=>.no
 | d=>.flat d
def eqZ (f:D->D->Option Bool):List D->List D->Option Bool
 | [],[]=>some true
 | x :: xs,y :: ys=>match f x y,eqZ f xs ys with
  | some a,some b=>some (a && b)
  | _,_=>none
 | _,_=>some false
def eqN:Nat->AH->D->D->Option Bool
 | 0,_,_,_=>none
 | n+1,h,x,y=>match vw h x,vw h y with
  | .flat a,.flat b=>some (eqF a b)
  | .tup xs,.tup ys=>eqZ (eqN n h) xs ys
  | .lst xs,.lst ys=>eqZ (eqN n h) xs ys
  | .no,_=>none
  | _,.no=>none
  | _,_=>some false
def eqE (f:D->D->Option Bool) (xs ys:List D) (j:Nat):Bool:=(f (xs.getD j .non) (ys.getD j .non)).getD false
theorem z3Q {f:D->D->Option Bool}:∀ {xs ys:List D}{b:Bool},eqZ f xs ys=some b ->
 (∀ j x y,xs[j]?=some x->ys[j]?=some y->f x y=some (eqE f xs ys j))/\b=((List.range (min xs.length ys.length)).all (eqE f xs ys) && xs.length == ys.length)
 | [],[],b,h=>by
  unfold eqZ at h;cases h
  exact ⟨fun j x y e=>by simp at e,by simp⟩
 | [],y :: ys,b,h=>by
  unfold eqZ at h;cases h
  exact ⟨fun j x y e=>by simp at e,by simp⟩
 | x :: xs,[],b,h=>by
  unfold eqZ at h;cases h
  exact ⟨fun j x y _ e=>by simp at e,by simp⟩
 | x :: xs,y :: ys,b,h=>by
  unfold eqZ at h
  split at h
  ·rename_i a c e1 e2
   cases h
   obtain ⟨q1,q2⟩:=z3Q e2
   refine ⟨fun j p q ep eq=>?_,?_⟩
   ·cases j with
    | zero=>simp at ep eq;subst ep;subst eq;unfold eqE;simp [e1]
    | succ j=>simpa [eqE] using q1 j p q (by simpa using ep) (by simpa using eq)
   ·rw [q2]
    have:min (x :: xs).length (y :: ys).length=min xs.length ys.length+1:=by simp
    rw [this,List.range_succ_eq_map,List.all_cons,List.all_map,← Bool.and_assoc]
    congr 1
    ·unfold eqE
     simp [e1,Function.comp_def]
    ·simp
  ·cases h
section
variable {K:PySem.W.Frag}{ρ:List Addr}{h:AH}{H:Hp}
theorem z1F {d a:D}(e:vw h d=.flat a):a=d/\z1z d=true:=by
 cases d<;>simp [vw] at e<;>first | (subst e;exact ⟨rfl,rfl⟩) | skip
 split at e<;>cases e
theorem z2F {d:D}{xs:List D}{v:V}(e:vw h d=.tup xs) (r:RD K ρ H d v):∃ a vs,v=.ref a/\SqT K H a vs/\RDs K ρ H xs vs:=by
 cases d<;>simp [vw] at e
 ·subst e;simpa [RD] using r
 ·split at e<;>cases e
theorem z2G {d:D}{xs:List D}{v:V}(rh:RH K ρ h H) (e:vw h d=.lst xs) (r:RD K ρ H d v):∃ a vs,v=.ref a/\SqL K H a vs/\RDs K ρ H xs vs:=by
 cases d<;>simp [vw] at e
 ·subst e
  simp only [RD] at r
  obtain ⟨a,vs,h1,h2,h3⟩:=r
  exact ⟨a,vs,h1,h2.sq,h3⟩
 ·split at e
  ·rename_i i xs' ei
   cases e
   simp only [RD] at r
   obtain ⟨a,h1,h2⟩:=r
   obtain ⟨a',h3,vs,h4,h5⟩:=rh.at ei
   rw [h2] at h3;cases h3
   exact ⟨a,vs,h1,SqL.of h4,h5⟩
  ·cases e
end
section
variable {X:Cx}{pins:List (Addr×Obj)}{σ:L2.St}{ρ:List Addr}{h:AH}{H:Hp}{s:Shared}
theorem z4n {K:PySem.W.Frag}{a:Addr}:∀ {d:D},z1z d=true->RD K ρ H d (.ref a)->False
 | .non,_,r=>by simp [RD] at r
 | .bl _,_,r=>by simp [RD] at r
 | .int _,_,r=>by simp [RD] at r
 | .str _,_,r=>by simp [RD] at r
 | .tup _,f,_=>by cases f
 | .fl _,f,_=>by cases f
 | .ref _,f,_=>by cases f
theorem zb4:∀ {d:D},z1z d=true->eqF d d=true
 | .non,_=>rfl
 | .bl _,_=>by simp [eqF]
 | .int _,_=>by simp [eqF]
 | .str _,_=>by simp [eqF]
 | .tup _,f=>by cases f
 | .fl _,f=>by cases f
 | .ref _,f=>by cases f
def flV:D->V
 | .bl b=>.bl b
 | .int i=>.int i
 | .str x=>.str x
 | _=>.non
theorem z3y {K:PySem.W.Frag}:∀ {d:D}{v:V},z1z d=true->RD K ρ H d v->v=flV d
 | .non,_,_,r=>by simp only [RD] at r;exact r
 | .bl _,_,_,r=>by simp only [RD] at r;exact r
 | .int _,_,_,r=>by simp only [RD] at r;exact r
 | .str _,_,_,r=>by simp only [RD] at r;exact r
 | .tup _,_,f,_=>by cases f
 | .fl _,_,f,_=>by cases f
 | .ref _,_,f,_=>by cases f
theorem zr1:∀ {a b:D},z1z a=true->z1z b=true->flV a=flV b->a=b
 | .non,.non,_,_,_=>rfl
 | .bl _,.bl _,_,_,e=>by cases e;rfl
 | .int _,.int _,_,_,e=>by cases e;rfl
 | .str _,.str _,_,_,e=>by cases e;rfl
 | .non,.bl _,_,_,e=>by cases e
 | .non,.int _,_,_,e=>by cases e
 | .non,.str _,_,_,e=>by cases e
 | .bl _,.non,_,_,e=>by cases e
 | .bl _,.int _,_,_,e=>by cases e
 | .bl _,.str _,_,_,e=>by cases e
 | .int _,.non,_,_,e=>by cases e
 | .int _,.bl _,_,_,e=>by cases e
 | .int _,.str _,_,_,e=>by cases e
 | .str _,.non,_,_,e=>by cases e
 | .str _,.bl _,_,_,e=>by cases e
 | .str _,.int _,_,_,e=>by cases e
 | .tup _,_,f,_,_=>by cases f
 | .fl _,_,f,_,_=>by cases f
 | .ref _,_,f,_,_=>by cases f
 | _,.tup _,_,f,_=>by cases f
 | _,.fl _,_,f,_=>by cases f
 | _,.ref _,_,f,_=>by cases f
theorem list_inj {a:Addr}{xs ys:List V}(I:Inv X pins σ H s) (h1:SqL X.K H a xs) (h2:SqL X.K H a ys):xs=ys:=by
 obtain ⟨its,r,⟨o,n,e,_,_,d⟩,_⟩:=I.list h1
 obtain ⟨its',r',⟨o',n',e',_,_,d'⟩,_⟩:=I.list h2
 rw [e] at e';cases e'
 rw [d] at d'
 injection d' with d1 _
 have:its=its':=by simpa using congrArg Array.toList d1
 subst this
 exact r.inj r'
theorem z6S (I:Inv X pins σ H s) (rh:RH X.K ρ h H):∀ (n:Nat) {d1 d2:D}{v:V}{b:Bool},RD X.K ρ H d1 v->RD X.K ρ H d2 v->eqN n h d1 d2=some b->b=true
 | 0,d1,d2,v,b,_,_,e=>by cases e
 | n+1,d1,d2,v,b,r1,r2,e=>by
  have elems:∀ {xs ys:List D} {vs:List V},RDs X.K ρ H xs vs->RDs X.K ρ H ys vs->eqZ (eqN n h) xs ys=some b->b=true:=fun {xs ys vs} q1 q2 z=>by
   obtain ⟨z1,z2⟩:=z3Q z
   have l1:=q1.length
   have l2:=q2.length
   rw [z2,Bool.and_eq_true,List.all_eq_true]
   refine ⟨fun j hj=>?_,by simp;omega⟩
   have hj':j<xs.length:=by simp at hj;omega
   have e1:xs[j]?=some xs[j]:=List.getElem?_eq_getElem hj'
   have e2:ys[j]?=some ys[j]:=List.getElem?_eq_getElem (by omega)
   obtain ⟨w1,a1,a2⟩:=q1.get e1
   obtain ⟨w2,b1,b2⟩:=q2.get e2
   rw [a1] at b1;cases b1
   exact z6S I rh n a2 b2 (z1 j _ _ e1 e2)
  unfold eqN at e
  have nl:∀ {a:Addr} {vs ws:List V},SqT X.K H a vs->SqL X.K H a ws->False:=fun {a vs ws} t1 t2=>by
   obtain ⟨its,_,p1,_⟩:=I.tuple t1
   obtain ⟨its2,_,p2,_⟩:=I.list t2
   exact SeqAt.ne_of_list_tuple p2.isList (show s.heap.IsTuple a its.toArray from p1) rfl
  cases e1:vw h d1 with
  | no=>rw [e1] at e;cases e2:vw h d2<;>rw [e2] at e<;>cases e
  | flat a =>
   rw [e1] at e
   obtain ⟨rfl,f1⟩:=z1F e1
   cases e2:vw h d2 with
   | no=>rw [e2] at e;cases e
   | flat c =>
    rw [e2] at e
    obtain ⟨rfl,f2⟩:=z1F e2
    cases e
    have:=zr1 f1 f2 ((z3y f1 r1).symm.trans (z3y f2 r2))
    subst this
    exact zb4 f1
   | tup ys=>obtain ⟨a',vs,rfl,_,_⟩:=z2F e2 r2;exact (z4n f1 r1).elim
   | lst ys=>obtain ⟨a',vs,rfl,_,_⟩:=z2G rh e2 r2;exact (z4n f1 r1).elim
  | tup xs =>
   rw [e1] at e
   obtain ⟨a,vs,rfl,t1,q1⟩:=z2F e1 r1
   cases e2:vw h d2 with
   | no=>rw [e2] at e;cases e
   | flat c=>obtain ⟨rfl,f2⟩:=z1F e2;exact (z4n f2 r2).elim
   | tup ys =>
    rw [e2] at e
    obtain ⟨a',ws,ea,t2,q2⟩:=z2F e2 r2
    cases ea
    have:=I.tuple_inj t1 t2
    subst this
    exact elems q1 q2 e
   | lst ys =>
    obtain ⟨a',ws,ea,t2,q2⟩:=z2G rh e2 r2
    cases ea
    exact (nl t1 t2).elim
  | lst xs =>
   rw [e1] at e
   obtain ⟨a,vs,rfl,t1,q1⟩:=z2G rh e1 r1
   cases e2:vw h d2 with
   | no=>rw [e2] at e;cases e
   | flat c=>obtain ⟨rfl,f2⟩:=z1F e2;exact (z4n f2 r2).elim
   | lst ys =>
    rw [e2] at e
    obtain ⟨a',ws,ea,t2,q2⟩:=z2G rh e2 r2
    cases ea
    have:=list_inj I t1 t2
    subst this
    exact elems q1 q2 e
   | tup ys =>
    obtain ⟨a',ws,ea,t2,q2⟩:=z2F e2 r2
    cases ea
    exact (nl t2 t1).elim
open SeqAt in
theorem mixT {A:Around}{u:Value}{d:D}{v:V}{K:PySem.W.Frag}{a:Addr}{its:Array Value}(f:z1z d=true) (r:RD K ρ H d v) (ru:RelV v u) (p:s.heap.IsTuple a its) (hu:A.units<cLine):EqAt A s u (.ref a) false/\EqAt A s (.ref a) u false/\RcAt A s u (.ref a) false/\RcAt A s (.ref a) u false/\RcNeAt A s u (.ref a) true/\RcNeAt A s (.ref a) u true:=by
 have:=z3y f r
 subst this
 cases d with
 | non=>cases ru;exact ⟨.none_tuple p hu,.tuple_none p hu,.none_tuple p hu,.tuple_none p hu,.none_tuple p hu,.tuple_none p hu⟩
 | bl b=>cases ru;exact ⟨.bool_tuple b p hu,.tuple_bool b p hu,.bool_tuple b p hu,.tuple_bool b p hu,.bool_tuple b p hu,.tuple_bool b p hu⟩
 | int i=>obtain ⟨t,rfl⟩:=ru;exact ⟨.int_tuple i t p hu,.tuple_int i t p hu,.int_tuple i t p hu,.tuple_int i t p hu,.int_tuple i t p hu,.tuple_int i t p hu⟩
 | str x=>obtain ⟨t,rfl⟩:=ru;exact ⟨.str_tuple x t p hu,.tuple_str x t p hu,.str_tuple x t p hu,.tuple_str x t p hu,.str_tuple x t p hu,.tuple_str x t p hu⟩
 | tup _=>cases f
 | fl _=>cases f
 | ref _=>cases f
open SeqAt in
theorem mixL {A:Around}{u:Value}{d:D}{v:V}{K:PySem.W.Frag}{a:Addr}{its:Array Value}(f:z1z d=true) (r:RD K ρ H d v) (ru:RelV v u) (p:s.heap.IsList a its) (hu:A.units<cLine):EqAt A s u (.ref a) false/\EqAt A s (.ref a) u false/\RcAt A s u (.ref a) false/\RcAt A s (.ref a) u false/\RcNeAt A s u (.ref a) true/\RcNeAt A s (.ref a) u true:=by
 have:=z3y f r
 subst this
 cases d with
 | non=>cases ru;exact ⟨.none_list p hu,.list_none p hu,.none_list p hu,.list_none p hu,.none_list p hu,.list_none p hu⟩
 | bl b=>cases ru;exact ⟨.bool_list b p hu,.list_bool b p hu,.bool_list b p hu,.list_bool b p hu,.bool_list b p hu,.list_bool b p hu⟩
 | int i=>obtain ⟨t,rfl⟩:=ru;exact ⟨.int_list i t p hu,.list_int i t p hu,.int_list i t p hu,.list_int i t p hu,.int_list i t p hu,.list_int i t p hu⟩
 | str x=>obtain ⟨t,rfl⟩:=ru;exact ⟨.str_list x t p hu,.list_str x t p hu,.str_list x t p hu,.list_str x t p hu,.str_list x t p hu,.list_str x t p hu⟩
 | tup _=>cases f
 | fl _=>cases f
 | ref _=>cases f
open SeqAt in
theorem zJ5 {A:Around}{u1 u2:Value}:∀ (d1 d2:D),z1z d1=true->z1z d2=true->RelV (flV d1) u1->RelV (flV d2) u2->EqAt A s u1 u2 (eqF d1 d2)/\RcAt A s u1 u2 (eqF d1 d2)/\RcNeAt A s u1 u2 (!(eqF d1 d2))
 | .non,.non,_,_,r1,r2=>by cases r1;cases r2;exact ⟨EqAt.same _,RcAt.none_none,RcNeAt.none_none⟩
 | .non,(.bl b),_,_,r1,r2=>by cases r1;cases r2;exact ⟨EqAt.none_bool b,RcAt.none_bool b,RcNeAt.none_bool b⟩
 | .non,(.int b),_,_,r1,r2=>by cases r1;obtain ⟨t2,rfl⟩:=r2;exact ⟨EqAt.none_int b t2,RcAt.none_int b t2,RcNeAt.none_int b t2⟩
 | .non,(.str b),_,_,r1,r2=>by cases r1;obtain ⟨t2,rfl⟩:=r2;exact ⟨EqAt.none_str b t2,RcAt.none_str b t2,RcNeAt.none_str b t2⟩
 | (.bl a),.non,_,_,r1,r2=>by cases r1;cases r2;exact ⟨EqAt.bool_none a,RcAt.bool_none a,RcNeAt.bool_none a⟩
 | (.bl a),(.bl b),_,_,r1,r2=>by cases r1;cases r2;exact ⟨EqAt.bool_bool a b,RcAt.bool_bool a b,RcNeAt.bool_bool a b⟩
 | (.bl a),(.int b),_,_,r1,r2=>by cases r1;obtain ⟨t2,rfl⟩:=r2;exact ⟨EqAt.bool_int a b t2,RcAt.bool_int a b t2,RcNeAt.bool_int a b t2⟩
 | (.bl a),(.str b),_,_,r1,r2=>by cases r1;obtain ⟨t2,rfl⟩:=r2;exact ⟨EqAt.bool_str a b t2,RcAt.bool_str a b t2,RcNeAt.bool_str a b t2⟩
 | (.int a),.non,_,_,r1,r2=>by obtain ⟨t1,rfl⟩:=r1;cases r2;exact ⟨EqAt.int_none a t1,RcAt.int_none a t1,RcNeAt.int_none a t1⟩
 | (.int a),(.bl b),_,_,r1,r2=>by obtain ⟨t1,rfl⟩:=r1;cases r2;exact ⟨EqAt.int_bool a t1 b,RcAt.int_bool a t1 b,RcNeAt.int_bool a t1 b⟩
 | (.int a),(.int b),_,_,r1,r2=>by obtain ⟨t1,rfl⟩:=r1;obtain ⟨t2,rfl⟩:=r2;exact ⟨EqAt.int_int a t1 b t2,RcAt.int_int a t1 b t2,RcNeAt.int_int a t1 b t2⟩
 | (.int a),(.str b),_,_,r1,r2=>by obtain ⟨t1,rfl⟩:=r1;obtain ⟨t2,rfl⟩:=r2;exact ⟨EqAt.int_str a t1 b t2,RcAt.int_str a t1 b t2,RcNeAt.int_str a t1 b t2⟩
 | (.str a),.non,_,_,r1,r2=>by obtain ⟨t1,rfl⟩:=r1;cases r2;exact ⟨EqAt.str_none a t1,RcAt.str_none a t1,RcNeAt.str_none a t1⟩
 | (.str a),(.bl b),_,_,r1,r2=>by obtain ⟨t1,rfl⟩:=r1;cases r2;exact ⟨EqAt.str_bool a t1 b,RcAt.str_bool a t1 b,RcNeAt.str_bool a t1 b⟩
 | (.str a),(.int b),_,_,r1,r2=>by obtain ⟨t1,rfl⟩:=r1;obtain ⟨t2,rfl⟩:=r2;exact ⟨EqAt.str_int a t1 b t2,RcAt.str_int a t1 b t2,RcNeAt.str_int a t1 b t2⟩
 | (.str a),(.str b),_,_,r1,r2=>by obtain ⟨t1,rfl⟩:=r1;obtain ⟨t2,rfl⟩:=r2;exact ⟨EqAt.str_str a t1 b t2,RcAt.str_str a t1 b t2,RcNeAt.str_str a t1 b t2⟩
 | .tup _,_,f,_,_,_=>by cases f
 | .fl _,_,f,_,_,_=>by cases f
 | .ref _,_,f,_,_,_=>by cases f
 | _,.tup _,_,f,_,_=>by cases f
 | _,.fl _,_,f,_,_=>by cases f
 | _,.ref _,_,f,_,_=>by cases f
open SeqAt in
theorem deq (I:Inv X pins σ H s) (rh:RH X.K ρ h H):∀ (n:Nat) {A:Around}{d1 d2:D}{v1 v2:V}{u1 u2:Value}{b:Bool},A.units+n<cLine->RD X.K ρ H d1 v1->RD X.K ρ H d2 v2->RelV v1 u1->RelV v2 u2->eqN n h d1 d2=some b->EqAt A s u1 u2 b/\RcAt A s u1 u2 b/\RcNeAt A s u1 u2 (!b)
 | 0,A,d1,d2,v1,v2,u1,u2,b,_,_,_,_,_,e=>by cases e
 | n+1,A,d1,d2,v1,v2,u1,u2,b,hA,r1,r2,w1,w2,e=>by
  have hu:A.units<cLine:=by omega
  have e0:=e
  unfold eqN at e
  have elems:∀ {xs ys:List D} {vs ws:List V} {its its2:List Value},RDs X.K ρ H xs vs->RDs X.K ρ H ys ws->Vals vs its->Vals ws its2->eqZ (eqN n h) xs ys=some b ->
   (∀ j (h1:j<its.toArray.size) (h2:j<its2.toArray.size),EqAt A.in1 s its.toArray[j] its2.toArray[j] (eqE (eqN n h) xs ys j))/\b=((List.range (min its.toArray.size its2.toArray.size)).all (eqE (eqN n h) xs ys) && its.toArray.size == its2.toArray.size):=fun {xs ys vs ws its its2} q1 q2 a1 a2 z=>by
   obtain ⟨z1,z2⟩:=z3Q z
   have l1:=q1.length
   have l2:=q2.length
   have l3:=a1.length
   have l4:=a2.length
   refine ⟨fun j h1 h2=>?_,by rw [z2,List.size_toArray,List.size_toArray,← l3,← l4,← l1,← l2]⟩
   have j1:j<xs.length:=by rw [List.size_toArray] at h1;omega
   have j2:j<ys.length:=by rw [List.size_toArray] at h2;omega
   have e1:xs[j]?=some xs[j]:=List.getElem?_eq_getElem j1
   have e2:ys[j]?=some ys[j]:=List.getElem?_eq_getElem j2
   obtain ⟨x1,b1,c1⟩:=q1.get e1
   obtain ⟨x2,b2,c2⟩:=q2.get e2
   obtain ⟨y1,b3,c3⟩:=a1.get b1
   obtain ⟨y2,b4,c4⟩:=a2.get b2
   have g1:its.toArray[j]=y1:=by
    have:=List.getElem?_eq_getElem (l:=its) (i:=j) (by simpa using h1)
    rw [b3] at this
    simpa using (Option.some.inj this).symm
   have g2:its2.toArray[j]=y2:=by
    have:=List.getElem?_eq_getElem (l:=its2) (i:=j) (by simpa using h2)
    rw [b4] at this
    simpa using (Option.some.inj this).symm
   rw [g1,g2]
   exact (deq I rh n (A:=A.in1) (show A.units+1+n<cLine by omega) c1 c2 c3 c4 (z1 j _ _ e1 e2)).1
  have same:∀ {a a':Addr},v1=.ref a->v2=.ref a'->a=a'->b=true:=fun {a a'} x y z=>by
   subst z
   rw [x] at r1
   rw [y] at r2
   exact z6S I rh (n+1) r1 r2 e0
  cases e1:vw h d1 with
  | no=>rw [e1] at e;cases e2:vw h d2<;>rw [e2] at e<;>cases e
  | flat a =>
   rw [e1] at e
   obtain ⟨rfl,f1⟩:=z1F e1
   cases e2:vw h d2 with
   | no=>rw [e2] at e;cases e
   | flat c =>
    rw [e2] at e
    obtain ⟨rfl,f2⟩:=z1F e2
    cases e
    rw [z3y f1 r1] at w1
    rw [z3y f2 r2] at w2
    exact zJ5 a c f1 f2 w1 w2
   | tup ys =>
    rw [e2] at e
    cases e
    obtain ⟨a',vs,rfl,t2,_⟩:=z2F e2 r2
    cases w2
    obtain ⟨its,_,p,_⟩:=I.tuple t2
    obtain ⟨m1,_,m3,_,m5,_⟩:=mixT (s:=s) f1 r1 w1 (show s.heap.IsTuple a' its.toArray from p) hu
    exact ⟨m1,m3,m5⟩
   | lst ys =>
    rw [e2] at e
    cases e
    obtain ⟨a',vs,rfl,t2,_⟩:=z2G rh e2 r2
    cases w2
    obtain ⟨its,_,p,_⟩:=I.list t2
    obtain ⟨m1,_,m3,_,m5,_⟩:=mixL (s:=s) f1 r1 w1 p.isList hu
    exact ⟨m1,m3,m5⟩
  | tup xs =>
   rw [e1] at e
   obtain ⟨a,vs,rfl,t1,q1⟩:=z2F e1 r1
   cases w1
   obtain ⟨its,x1,p1,_⟩:=I.tuple t1
   have p1:s.heap.IsTuple a its.toArray:=p1
   cases e2:vw h d2 with
   | no=>rw [e2] at e;cases e
   | flat c =>
    rw [e2] at e
    cases e
    obtain ⟨rfl,f2⟩:=z1F e2
    obtain ⟨_,m2,_,m4,_,m6⟩:=mixT (s:=s) f2 r2 w2 p1 hu
    exact ⟨m2,m4,m6⟩
   | tup ys =>
    rw [e2] at e
    obtain ⟨a',ws,rfl,t2,q2⟩:=z2F e2 r2
    cases w2
    obtain ⟨its2,x2,p2,_⟩:=I.tuple t2
    have p2:s.heap.IsTuple a' its2.toArray:=p2
    obtain ⟨g1,g2⟩:=elems q1 q2 x1 x2 e
    have rc:=RcAt.tuples p1 p2 hu g1
    have rn:=RcNeAt.tuples p1 p2 hu g1
    rw [← g2] at rc rn
    refine ⟨?_,rc,rn⟩
    by_cases ea:a=a'
    ·rw [same rfl rfl ea]
     subst ea
     exact EqAt.same _
    ·exact EqAt.of_refs ea rc
   | lst ys =>
    rw [e2] at e
    cases e
    obtain ⟨a',ws,rfl,t2,q2⟩:=z2G rh e2 r2
    cases w2
    obtain ⟨its2,x2,p2,_⟩:=I.list t2
    exact ⟨EqAt.tuple_list p1 p2.isList hu,RcAt.tuple_list p1 p2.isList hu,RcNeAt.tuple_list p1 p2.isList hu⟩
  | lst xs =>
   rw [e1] at e
   obtain ⟨a,vs,rfl,t1,q1⟩:=z2G rh e1 r1
   cases w1
   obtain ⟨its,x1,p1,_⟩:=I.list t1
   cases e2:vw h d2 with
   | no=>rw [e2] at e;cases e
   | flat c =>
    rw [e2] at e
    cases e
    obtain ⟨rfl,f2⟩:=z1F e2
    obtain ⟨_,m2,_,m4,_,m6⟩:=mixL (s:=s) f2 r2 w2 p1.isList hu
    exact ⟨m2,m4,m6⟩
   | tup ys =>
    rw [e2] at e
    cases e
    obtain ⟨a',ws,rfl,t2,q2⟩:=z2F e2 r2
    cases w2
    obtain ⟨its2,x2,p2,_⟩:=I.tuple t2
    exact ⟨EqAt.list_tuple p1.isList p2 hu,RcAt.list_tuple p1.isList p2 hu,RcNeAt.list_tuple p1.isList p2 hu⟩
   | lst ys =>
    rw [e2] at e
    obtain ⟨a',ws,rfl,t2,q2⟩:=z2G rh e2 r2
    cases w2
    obtain ⟨its2,x2,p2,_⟩:=I.list t2
    obtain ⟨g1,g2⟩:=elems q1 q2 x1 x2 e
    have both:RcAt A s (.ref a) (.ref a') b/\RcNeAt A s (.ref a) (.ref a') (!b):=by
     by_cases hz:its.toArray.size=its2.toArray.size
     ·have:b=(List.range its.toArray.size).all (eqE (eqN n h) xs ys):=by rw [g2,← hz,Nat.min_self];simp
      rw [this]
      exact ⟨RcAt.lists p1.isList p2.isList hz hu g1,RcNeAt.lists p1.isList p2.isList hz hu g1⟩
     ·have:b=false:=by
       rw [g2,Bool.and_eq_false_iff]
       right
       simpa using hz
      rw [this]
      exact ⟨RcAt.lists_lengths p1.isList p2.isList (by simpa using hz) hu,RcNeAt.lists_lengths p1.isList p2.isList (by simpa using hz) hu⟩
    refine ⟨?_,both⟩
    by_cases ea:a=a'
    ·rw [same rfl rfl ea]
     subst ea
     exact EqAt.same _
    ·exact EqAt.of_refs ea both.1
end
def fEqX (neg:Bool):D->D->M D:=fun x y h=>match eqN 24 h x y with
 | some b=>.ok (.bl (b != neg)) h
 | none=>.bad
def rEqX (K:PySem.W.Frag) (neg:Bool):R2:=fun x y H Q=>∃ ρ h d1 d2 b,RH K ρ h H/\RD K ρ H d1 x/\RD K ρ H d2 y/\eqN 24 h d1 d2=some b/\Q (.bl (b != neg)) H
section
variable {X:Cx}{EX:XX}
theorem zA6 (hu:X.A.units+30<cLine):OpR X (compareOp .Eq) (rEqX X.K false):=by
 intro pins s σ H x y v u Q I rx ry h
 obtain ⟨ρ,h,d1,d2,b,rh,r1,r2,e,q⟩:=h
 rw [Bool.bne_false] at q
 exact (deq I rh 24 (A:=X.A) (by omega) r1 r2 rx ry e).2.1 X.prog X.w X.xe (EP X pins σ Q) ⟨.bl b,H,I,rfl,q⟩
theorem zA2 (hu:X.A.units+30<cLine):OpR X (compareOp .NotEq) (rEqX X.K true):=by
 intro pins s σ H x y v u Q I rx ry h
 obtain ⟨ρ,h,d1,d2,b,rh,r1,r2,e,q⟩:=h
 rw [Bool.bne_true] at q
 exact (deq I rh 24 (A:=X.A) (by omega) r1 r2 rx ry e).2.2 X.prog X.w X.xe (EP X pins σ Q) ⟨.bl (!b),H,I,rfl,q⟩
theorem zc9 {neg:Bool}:BR X.K EX (rEqX X.K neg) (fEqX neg):=by
 intro ρ h H x y v u Q r rx ry fin
 unfold fEqX at fin
 cases e:eqN 24 h x y with
 | none=>rw [e] at fin;exact fin.elim
 | some b=>rw [e] at fin;exact ⟨ρ,h,x,y,b,r,rx,ry,e,FE.here fin r (by simp [RD])⟩
theorem z3b (hu:X.A.units+30<cLine):CO X EX .Eq (fEqX false):=⟨_,zA6 hu,zc9⟩
theorem z7U (hu:X.A.units+30<cLine):CO X EX .NotEq (fEqX true):=⟨_,zA2 hu,zc9⟩
theorem hu30 {A:Around}{k:Nat}(hr:Room k A):A.units+30<cLine:=Nat.lt_of_le_of_lt (Nat.add_le_add_left (by decide:30≤64) _) hr.units
end
variable {α β:Type}
theorem Y9 (a:α) (f:α->M β):((Pure.pure a:M α) >>= f)=f a:=by funext h;rfl
theorem W_eq {m:M α}{v:α}{h:AH}{Q:α->AH->Prop}(e:m=pure v) (q:Q v h):W m h Q:=by rw [e,W_pure];exact q
theorem zI5 {xs:List D}{h:AH}{Q:D->AH->Prop}(hl:xs.length≤1000000) (q:Q (.ref h.length) (h++[.lst xs])):W (newL xs) h Q :=
 ⟨_,_,by unfold newL;rw [if_pos (Nat.le_trans hl (by decide))],q⟩
mutual
theorem z2g {m n:Nat}(h:m≤n):∀ {d:D},J7 m d=true->J7 n d=true
 | .non,_=>rfl
 | .bl _,_=>rfl
 | .int _,_=>rfl
 | .str _,_=>rfl
 | .tup ds,c=>by simp only [J7] at c ⊢;exact z0L h c
 | .fl ds,c=>by simp only [J7] at c ⊢;exact z0L h c
 | .ref i,c=>by simp only [J7,decide_eq_true_eq] at c ⊢;omega
theorem z0L {m n:Nat}(h:m≤n):∀ {d:List D},Y0 m d=true->Y0 n d=true
 | [],_=>rfl
 | d :: r,c=>by simp only [Y0,Bool.and_eq_true] at c ⊢;exact ⟨z2g h c.1,z0L h c.2⟩
end
theorem z3A {n:Nat}:∀ {xs:List D},(∀ x∈xs,J7 n x=true)->Y0 n xs=true
 | [],_=>rfl
 | x :: r,h=>by simp only [Y0,Bool.and_eq_true];exact ⟨h x (by simp),z3A fun y hy=>h y (by simp [hy])⟩
theorem z03 {n:Nat}{ι:Type}{f:ι->D}{l:List ι}(h:∀ a,J7 n (f a)=true):Y0 n (l.map f)=true:=z3A fun x hx=>by
 obtain ⟨a,_,rfl⟩:=List.mem_map.mp hx
 exact h a
theorem z1d {m:M D}{h:AH}{d:D}{j:AH}(e:m h=.ok d (h++j)) (c:J7 h.length d=true):cln m h=.ok d h:=by
 unfold cln
 rw [e]
 dsimp only
 rw [if_pos ⟨by simp,z6y _ _⟩,if_pos c]
 simp
theorem z6f (d:D):cln (pure d)=pure d:=funext fun h=>by
 unfold cln
 rw [pureM]
 dsimp only
 rw [if_pos ⟨Nat.le_refl _,fun _ _ _ e=>.inl e⟩]
 split
 ·simp
 ·rename_i nd
  split
  ·rename_i i
   simp only [J7,decide_eq_true_eq] at nd
   rw [List.getElem?_eq_none (by omega)]
  ·rfl
theorem zx2 {m:M D}{v:D}(c:J7 0 v=true) (z:∀ h,W m h fun a h'=>a=v/\∃ j,h'=h++j):cln m=pure v:=funext fun h=>by
 obtain ⟨a,h',e,rfl,j,rfl⟩:=z h
 exact z1d e (z2g (Nat.zero_le _) c)
theorem zv2 {m:G->M Bool}{γ:G}{h:AH}{d:Bool}{j:AH}(e:m γ h=.ok d (h++j)):clT m γ h=.ok d h:=by
 unfold clT
 rw [e]
 dsimp only
 rw [if_pos ⟨by simp,z6y _ _⟩]
 simp
theorem z9E {cap:List (Option Nat)}{mi:G->M Src}{g:D->G->M G}{k:G->M Bool}{me:G->M D}{γ:G}{src:Src}{h:AH}(p:D->Bool) (f:D->D) (hi:mi γ h=.ok src h) (hg:∀ j,src.good (h++j)) (hl:src.items.length≤1000000)
 (hd:∀ d∈src.items,∃ γ1,g d (capG cap γ)=pure γ1/\k γ1=pure (p d)/\(p d=true->me γ1=pure (f d))):z0i cap mi g k me γ h=newL ((src.items.filter p).map f) h:=by
 rw [z33 p f hi hg hl fun d m=>let ⟨γ1,e1,e2,e3⟩:=hd d m;⟨γ1,fun h=>by rw [e1];rfl,fun j=>by rw [e2];rfl,fun q j=>by rw [e3 q];rfl⟩]
 unfold newL
 rw [if_pos]
 refine Nat.le_trans ?_ (show 1000000≤sizeLine by decide)
 rw [List.length_map]
 exact Nat.le_trans (List.length_filter_le _ _) hl
theorem zh8 {cap:List (Option Nat)}{mi:G->M Src}{g:D->G->M G}{k:G->M Bool}{me:G->M D}{γ:G}{items:List D}(p:D->Bool) (f:D->D) (hi:mi γ=pure (.con items)) (hl:items.length≤1000000)
 (hd:∀ d∈items,∃ γ1,g d (capG cap γ)=pure γ1/\k γ1=pure (p d)/\(p d=true->me γ1=pure (f d))):z0i cap mi g k me γ=newL ((items.filter p).map f) :=
 funext fun h=>z9E (src:=.con items) p f (by rw [hi];rfl) (fun _=>trivial) hl hd
theorem z8C:∀ bs:List Bool,blsD (bs.map .bl)=some bs
 | []=>rfl
 | b :: r=>by simp [blsD,z8C r]
theorem filter_tt {l:List α}:l.filter (fun _=>true)=l:=by induction l<;>simp_all
theorem z91 {n:Nat}{mb:G->M Out}{ds:List D}{d:D}(e:mb (z1b n ds)=pure (.rt d)):runF n mb ds=pure d:=by unfold runF;rw [e];rfl
theorem zI0:((2:Nat)≤sizeLine)=True:=by simp [sizeLine]
end FT
namespace FT
open PySem PySem.Spec PyProof.Rows L2
structure SQ (st:List (List Nat)):Prop where
 l1:1≤st.length
 l2:st.length≤40
 s2:∀ l∈st,∀ x∈l,x<st.length
def nx (st:List (List Nat)) (a:Nat):List Nat:=(st[a]?).getD []
theorem z7k {st:List (List Nat)}(q:SQ st) {a b:Nat}(h:b∈nx st a):b<st.length:=by
 unfold nx at h
 cases e:st[a]? with
 | none=>rw [e] at h;cases h
 | some l =>
  rw [e] at h
  exact q.s2 l (List.mem_of_getElem? e) b h
theorem z1K (st:List (List Nat)):(stsD st).length=st.length:=by unfold stsD;simp
theorem zw4 {st:List (List Nat)}{a:Nat}(ha:a<st.length):atI (stsD st) (a:Int)=some (.tup (stD (nx st a))):=by
 refine z27 ?_
 unfold stsD nx
 rw [List.getElem?_map,List.getElem?_eq_getElem ha]
 rfl
theorem z1R {st:List (List Nat)}{mk:List (List Str)}:fIx (maD st mk) (.int 0)=pure (.tup (stsD st)):=ix_tup rfl
theorem z2J {st:List (List Nat)}{mk:List (List Str)}:fIx (maD st mk) (.int 1)=pure (.tup (mksD mk)):=ix_tup rfl
theorem z6n {st:List (List Nat)}{a:Nat}(ha:a<st.length):fIx (.tup (stsD st)) (.int a)=pure (.tup (stD (nx st a))):=ix_tup (zw4 ha)
theorem y8 (l:List Nat):(stD l).length=l.length:=by unfold stD;simp
theorem z3R {l:List Nat}{n:Nat}(hl:l.Pairwise (·<·)) (hm:∀ x∈l,x<n):l.length≤n:=by
 have nd:l.Nodup:=List.Pairwise.imp (fun h=>Nat.ne_of_lt h) hl
 have:=nd.length_le_of_subset (l₂:=List.range n) (fun x hx=>List.mem_range.mpr (hm x hx))
 rwa [List.length_range] at this
def zN (l:List Nat):List Int:=l.map fun (i:Nat)=>(i:Int)
def kN (l:List Nat):List Key:=l.map fun (i:Nat)=>.inl (i:Int)
def z18 (l:List Nat):List Nat:=(sortI (zN l)).map Int.toNat
theorem z5I:∀ l:List Nat,z59 (kN l)=some (zN l)
 | []=>rfl
 | a :: l=>by
  show (z59 (kN l)).map _=_
  rw [z5I l]
  rfl
theorem z2f:∀ l:List Nat,z2q (stD l)=some (zN l)
 | []=>rfl
 | a :: l=>by
  show (z2q (stD l)).map _=_
  rw [z2f l]
  rfl
theorem z3f (l:List Nat):(sortI (zN l)).map D.int=stD (z18 l):=by
 unfold z18 stD
 rw [List.map_map]
 refine List.map_congr_left fun a ha=>?_
 have:a∈zN l:=(sortI_perm _).mem_iff.mp ha
 obtain ⟨i,_,rfl⟩:=List.mem_map.mp this
 rfl
theorem z1Z (l:List Nat):(z18 l).Perm l:=by
 have:=(sortI_perm (zN l)).map Int.toNat
 refine this.trans ?_
 unfold zN
 rw [List.map_map]
 rw [show (Int.toNat ∘ fun (i:Nat)=>(i:Int))=id from funext fun i=>rfl,List.map_id]
theorem z3I {l:List Nat}(nd:l.Nodup):(z18 l).Pairwise (·<·):=by
 have s:(z18 l).Pairwise (·≤·):=by
  unfold z18
  rw [List.pairwise_map]
  exact (z5Z _).imp fun {a b} h=>by omega
 have n:(z18 l).Nodup:=(z1Z l).nodup_iff.mpr nd
 exact (List.Pairwise.and s n).imp fun {a b} q=>by omega
theorem sortN_mem {l:List Nat}{x:Nat}:x∈z18 l↔x∈l:=(z1Z l).mem_iff
theorem z0K (l:List Nat):(z18 l).length=l.length:=(z1Z l).length_eq
theorem kN_mem {l:List Nat}{x:Nat}:(Sum.inl (x:Int):Key)∈kN l↔x∈l:=by
 unfold kN
 constructor
 ·intro h
  obtain ⟨i,hi,e⟩:=List.mem_map.mp h
  have:i=x:=by have:=Sum.inl.inj e;omega
  exact this ▸ hi
 ·exact fun h=>List.mem_map.mpr ⟨x,h,rfl⟩
theorem zf6 (l:List Nat):(kN l).length=l.length:=by unfold kN;simp
theorem zB0 {l:List Nat}{x:Nat}(h:x∉l):putK (kN l) (.inl (x:Int))=kN (l++[x]):=by
 unfold putK
 rw [if_neg (fun q=>h (kN_mem.mp q))]
 unfold kN
 simp
theorem z3c {S:List Nat}{n:Nat}(nd:S.Nodup) (hm:∀ x∈S,x<n):S.length≤n:=by
 have:=nd.length_le_of_subset (l₂:=List.range n) (fun x hx=>List.mem_range.mpr (hm x hx))
 rwa [List.length_range] at this
theorem z8y {S:List Nat}{x:Nat}(nd:S.Nodup) (h:x∉S):(S++[x]).Nodup:=by
 rw [List.nodup_append]
 refine ⟨nd,by simp,fun a ha b hb=>?_⟩
 simp at hb
 subst hb
 exact fun e=>h (e ▸ ha)
theorem z2a (l:List Nat) (x:Nat):stD l++[.int x]=stD (l++[x]):=by unfold stD;simp
theorem z2I {l:List Nat}{i:Nat}{d:D}(h:(stD l)[i]?=some d):∃ b:Nat,d=.int b/\l[i]?=some b:=by
 unfold stD at h
 rw [List.getElem?_map] at h
 obtain ⟨b,e1,e2⟩:=Option.map_eq_some_iff.mp h
 exact ⟨b,e2.symm,e1⟩
section
variable {ma:G->M D}{g:D->G->M G}{k:G->M Bool}{ms mr mt:G->M Out}{γ γ':G}{h h1:AH}{d:D}{b:Bool}{Q:Out->AH->Prop}
theorem z5r (d:D) (γ':G) (e:ma γ=pure d) (eg:g d γ=pure γ') (z:W (mt γ') h Q):W (Z1 (sAsg ma g) mt γ) h Q:=by
 rw [w_cons];unfold sAsg;rw [e,Y9,eg,Y9,W_pure];exact z
theorem z1E (d:D) (γ':G) (e:ma γ h=.ok d h1) (eg:g d γ=pure γ') (z:W (mt γ') h1 Q):W (Z1 (sAsg ma g) mt γ) h Q:=by
 rw [w_cons];unfold sAsg;rw [Z6];refine W.of e ?_;rw [eg,Y9,W_pure];exact z
theorem z7K {i:Nat}(z:W (ma γ) h fun d h1=>W (mt (γ.set i (some d))) h1 Q):W (Z1 (sAsg ma (gN i)) mt γ) h Q:=by
 rw [w_cons];unfold sAsg gN;rw [Z6];refine z.mono fun d h1 q=>?_;rw [Y9,W_pure];exact q
theorem q_if (b:Bool) (e:k γ=pure b) (z:W (Z1 (if b=true then ms else mr) mt γ) h Q):W (Z1 (sIf k ms mr) mt γ) h Q:=by
 rw [w_cons] at z ⊢;unfold sIf;rw [e,Y9]
 cases b<;>exact z
theorem z3e (b:Bool) (e:k γ h=.ok b h) (z:W (Z1 (if b=true then ms else mr) mt γ) h Q):W (Z1 (sIf k ms mr) mt γ) h Q:=by
 rw [w_cons] at z ⊢;unfold sIf;rw [Z6];refine W.of e ?_
 cases b<;>exact z
theorem zI3 (z:W (k γ) h fun b h1=>W (Z1 (if b=true then ms else mr) mt γ) h1 Q):W (Z1 (sIf k ms mr) mt γ) h Q:=by
 rw [w_cons];unfold sIf;rw [Z6];refine z.mono fun b h1 q=>?_
 rw [w_cons] at q
 cases b<;>exact q
theorem zC8 (d:D) (e:ma γ=pure d) (z:Q (.rt d) h):W (Z1 (sRet ma) mt γ) h Q:=by
 rw [w_cons];unfold sRet;rw [e,Y9,W_pure];exact z
theorem Y4 (d:D) (e:ma γ h=.ok d h1) (z:Q (.rt d) h1):W (Z1 (sRet ma) mt γ) h Q:=by
 rw [w_cons];unfold sRet;rw [Z6];refine W.of e ?_;rw [W_pure];exact z
theorem zB2 (z:W (ma γ) h fun d h1=>Q (.rt d) h1):W (Z1 (sRet ma) mt γ) h Q:=by
 rw [w_cons];unfold sRet;rw [Z6];refine z.mono fun d h1 q=>?_;rw [W_pure];exact q
theorem z8i (z:W (ma γ) h fun d h1=>W (mt γ) h1 Q):W (Z1 (z1o ma) mt γ) h Q:=by
 rw [w_cons];unfold z1o;rw [Z6];refine z.mono fun d h1 q=>?_;rw [W_pure];exact q
theorem z1k (z:W (mt γ) h Q):W (Z1 bNil mt γ) h Q:=by rw [w_cons,z1C];exact z
theorem z0p {Q:Out->AH->Prop}(z:Q (.nx γ) h):W (bNil γ) h Q:=by rw [z1C];exact z
theorem zu1 (d:D) (e:ma γ=pure d):Z1 (sRet ma) mt γ=pure (.rt d):=by
 unfold Z1 sRet;rw [e,Y9,Y9]
theorem z4R {ms1 ms2:G->M Out}(z:W (Z1 ms1 (Z1 ms2 mt) γ) h Q):W (Z1 (Z1 ms1 ms2) mt γ) h Q:=by
 rw [w_cons] at z ⊢
 rw [w_cons]
 refine z.mono fun o h1 q=>?_
 cases o with
 | nx γ=>exact w_cons.mp q
 | rt d=>exact q
 | bk d=>exact q
 | ct d=>exact q
end
theorem zv9 {a b:Str}{neg:Bool}:fEqX neg (.str a) (.str b)=pure (.bl ((a == b) != neg)):=by funext h;rfl
theorem zg2 {mc:G->M D}{γ:G}{h h1:AH}{xs:List D}{neg:Bool}(e:mc γ h=newL xs h1) (hl:xs.length≤1000000):e2 (fEqX neg) mc (eLst aNil) γ h=.ok (.bl (xs.isEmpty != neg)) (h1++[.lst xs]++[.lst []]):=by
 have e':mc γ h=.ok (.ref h1.length) (h1++[.lst xs]):=by rw [e];unfold newL;rw [if_pos (Nat.le_trans hl (by decide))]
 show (mc γ >>= _) h=_
 rw [M.bind_ok e']
 have e2':eLst aNil γ (h1++[.lst xs])=.ok (.ref (h1++[O.lst xs]).length) (h1++[.lst xs]++[.lst []]):=by
  unfold eLst aNil newL
  simp
 rw [M.bind_ok e2']
 have v1:vw (h1++[O.lst xs]++[O.lst []]) (.ref h1.length)=.lst xs:=by unfold vw;simp
 have v2:vw (h1++[O.lst xs]++[O.lst []]) (.ref (h1++[O.lst xs]).length)=.lst []:=by unfold vw;simp
 unfold fEqX eqN
 rw [v1,v2]
 cases xs<;>rfl
theorem zm2 {mc:G->M D}{γ:G}{h j:AH}{xs:List D}{neg:Bool}(e:mc γ h=newL xs (h++j)) (hl:xs.length≤1000000):clE (e2 (fEqX neg) mc (eLst aNil)) γ h=.ok (.bl (xs.isEmpty != neg)) h :=
 z1d (by rw [zg2 e hl,List.append_assoc,List.append_assoc]) rfl
theorem zc8 (xs:List D) (n:Nat):cutD xs none (some (n:Int))=xs.take n:=by
 unfold cutD
 rw [HT.sIx_none,HT.sIx_nat]
 simp [List.take_take]
theorem zd8 (xs:List D) (n:Nat):cutD xs (some (n:Int)) none=xs.drop n:=by
 unfold cutD
 rw [HT.sIx_none,HT.sIx_nat]
 by_cases h:n≤xs.length
 ·rw [show min n xs.length=n by omega,List.take_of_length_le (by simp)]
 ·rw [show min n xs.length=xs.length by omega]
  simp
  omega
def rp (n:Nat) (l:List Nat):List Nat:=(List.replicate n l).flatten
theorem sl_tup {x:List D}{lo hi:Option Int}:fSl (.tup x) lo hi=pure (.tup (cutD x lo hi)):=rfl
theorem z6r (p r:List Nat):stD p++stD r=stD (p++r):=by unfold stD;simp
def CL (r:AH):Prop:=True
theorem CL.app {r j:AH}(a:CL r) (b:CL j):CL (r++j):=trivial
theorem CL.one {xs:List D}(h:Y0 3 xs=true):CL [.lst xs]:=trivial
theorem CL.put {r:AH}{xs:List D}(a:CL r) (h:Y0 3 xs=true):CL (r++[.lst xs]):=a.app (.one h)
theorem z1l {n:Nat}(l:List Str):Y0 n (l.map .str)=true:=z03 fun _=>rfl
theorem z5d {n:Nat}(l:List Int):Y0 n (l.map .int)=true:=z03 fun _=>rfl
theorem z29 {n:Nat}(l:List Nat):Y0 n (stD l)=true:=z03 fun _=>rfl
theorem z69 {n:Nat}(l:List Nat):J7 n (.tup (stD l))=true:=by simp only [J7];exact z29 l
theorem zn8 {m n:Nat}(h:m≤n) {o:O}(c:refO m o=true):refO n o=true:=by
 cases o with
 | lst xs=>exact z0L h c
 | dK kvs=>exact z0L h c
 | dF kvs=>exact z0L h c
 | _=>rfl
theorem z7Z {gr sm:List Int}{s c:Int}{r j:AH}:(Pool gr sm s c (r++j)).take (r.length+3)=Pool gr sm s c r:=by
 unfold Pool
 simp
theorem z8l {gr sm gr' sm':List Int}{s c s' c':Int}{r j:AH}:Kept (Pool gr sm s c r) (Pool gr' sm' s' c' (r++j)):=fun i o li e=>by
 have l3:(Pool gr sm s c r).length=r.length+3:=rfl
 rw [l3] at li ⊢
 match i,e with
 | 0,e=>cases e;exact .inr (z5d _)
 | 1,e=>cases e;exact .inr (z5d _)
 | 2,e=>cases e;exact .inr (by simp [refO,Y0,J7])
 | i+3,e =>
  left
  have e:(r++j)[i]?=some o:=e
  rw [List.getElem?_append_left (by omega)] at e
  exact e
theorem z4b {h h1:AH}{k k':Int}{r j:AH}(p:PS h k r) (q:CL r) (p1:PS h1 k' (r++j)):(h.length≤h1.length/\Kept h h1)/\PS (h1.take h.length) k' r:=by
 have l:=p.len
 have l1:=p1.len
 obtain ⟨gr,sm,s,c,rfl,g⟩:=p1
 obtain ⟨gr0,sm0,s0,c0,rfl,g0⟩:=p
 refine ⟨⟨by rw [List.length_append] at l1;omega,z8l⟩,?_⟩
 rw [show (Pool gr0 sm0 s0 c0 r).length=r.length+3 from rfl,z7Z]
 exact ⟨gr,sm,s,c,rfl,g⟩
theorem z9A {m:M D}{h:AH}{k:Int}{r:AH}{Q:D->AH->Prop}(p:PS h k r) (q:CL r) (z:W m h fun d h1=>∃ k' j,PS h1 k' (r++j)/\J7 3 d=true/\∀ h2,PS h2 k' r->Q d h2):W (cln m) h Q:=by
 obtain ⟨d,h1,e,k',j,p1,rd,f⟩:=z
 obtain ⟨c1,c2⟩:=z4b p q p1
 refine ⟨d,h1.take h.length,?_,f _ c2⟩
 unfold cln
 rw [e]
 dsimp only
 rw [if_pos c1,if_pos (z2g (by rw [p.len];omega) rd)]
theorem zr2 {m:M D}{h:AH}{k:Int}{r:AH}{Q:D->AH->Prop}(p:PS h k r) (q:CL r) (z:W m h fun d h1=>∃ k' j i xs,d=.ref (i+3)/\PS h1 k' (r++j)/\r.length≤i/\(r++j)[i]?=some (.lst xs)/\Y0 3 xs=true/\∀ h2,PS h2 k' (r++[.lst xs])->Q (.ref (r.length+3)) h2):W (cln m) h Q:=by
 obtain ⟨d,h1,e,k',j,i,xs,rfl,p1,hi,ei,rd,f⟩:=z
 obtain ⟨c1,c2⟩:=z4b p q p1
 have l:=p.len
 refine ⟨.ref (r.length+3),h1.take h.length++[.lst xs],?_,f _ (c2.app _)⟩
 unfold cln
 rw [e]
 dsimp only
 rw [if_pos c1,if_neg (by simp only [J7,decide_eq_true_eq];omega),p1.get,ei]
 dsimp only
 rw [if_pos (show refO h.length (.lst xs)=true from z0L (by omega) rd),l]
theorem zq8 {m:G->M D}{γ:G}{h:AH}{k:Int}{r:AH}{Q:D->AH->Prop}(p:PS h k r) (q:CL r) (z:W (m γ) h fun d h1=>∃ k' j,PS h1 k' (r++j)/\J7 3 d=true/\∀ h2,PS h2 k' r->Q d h2):W (clE m γ) h Q:=z9A p q z
section
variable {h:AH}{k:Int}{r l:AH}{i:Nat}{xs:List D}{v:D}
theorem at_E:(r++l)[r.length+i]?=l[i]?:=by rw [List.getElem?_append_right (by omega)];congr 1;omega
theorem za8 {o:O}:(r++l).set (r.length+i) o=r++l.set i o:=by
 rw [List.set_append_right _ _ (by omega)]
 congr 2
 omega
theorem z55 {Q:List D->AH->Prop}(p:PS h k (r++l)) (e:l[i]?=some (.lst xs)) (q:Q xs h):W (getL (r.length+i+3)) h Q:=z3g p (by rw [at_E];exact e) q
theorem zB8 {Q:D->AH->Prop}(p:PS h k (r++l)) (hl:xs.length≤1000000) (z:∀ h',PS h' k (r++(l++[.lst xs]))->Q (.ref (r.length+l.length+3)) h'):W (newL xs) h Q :=
 z0A p hl fun h' p'=>by rw [List.append_assoc] at p';have:=z h' p';rwa [List.length_append]
theorem z8T {Q:D->AH->Prop}(p:PS h k (r++l)) (e:l[i]?=some (.lst xs)) (hl:xs.length<1000000) (z:∀ h',PS h' k (r++l.set i (.lst (xs++[v])))->Q .non h'):W (J8 (r.length+i+3) v) h Q :=
 z5U p (by rw [at_E];exact e) hl fun h' p'=>z h' (by rw [za8] at p';exact p')
theorem ze2 {Q:D->AH->Prop}(p:PS h k (r++l)) (e:l[i]?=some (.lst xs)) (q:Q (.int xs.length) h):W (fLen [.ref (r.length+i+3)]) h Q:=zd9 p (by rw [at_E];exact e) q
theorem z5Y {Q:D->AH->Prop}(p:PS h k (r++l)) (e:l[i]?=some (.lst xs)) (q:Q (.tup xs) h):W (Y7 [.ref (r.length+i+3)]) h Q:=by
 have ft:∀ i:Nat,Y7 [.ref i]=(do let x ← getL i;pure (.tup x)):=fun _=>rfl
 rw [ft,Z6]
 refine z55 p e ?_
 rw [W_pure]
 exact q
theorem zb7 {Q:Nat->AH->Prop}(p:PS h k (r++l)) (e:l[i]?=some (.lst xs)) (q:Q (r.length+i+3) h):W (z2u (.ref (r.length+i+3))) h Q:=by
 rw [z5x]
 exact z55 p e q
theorem zt5 {j:Nat}{ys:List D}{Q:D->AH->Prop}(p:PS h k (r++l)) (e:l[i]?=some (.lst xs)) (e2:(r++l)[j]?=some (.lst ys)) (hl:xs.length+ys.length≤1000000) (z:∀ h',PS h' k (r++(l++[.lst (xs++ys)]))->Q (.ref (r.length+l.length+3)) h'):W (fAdd (.ref (r.length+i+3)) (.ref (j+3))) h Q:=by
 show W (getL _ >>= fun x=>getL _ >>= fun y=>newL (x++y)) h Q
 rw [Z6]
 refine z55 p e ?_
 rw [Z6]
 refine z3g p e2 ?_
 exact zB8 p (by simpa using hl) z
end
theorem z0B {ma:G->M D}{mt:G->M Out}{γ:G}{h:AH}{i:Nat}{Q:Out->AH->Prop}(J:D->AH->Prop) (z:W (ma γ) h J) (f:∀ d h1,J d h1->W (mt (γ.set i (some d))) h1 Q):W (Z1 (sAsg ma (gN i)) mt γ) h Q:=z7K (z.mono f)
theorem zr7 {ma:G->M D}{mt:G->M Out}{γ:G}{h:AH}{Q:Out->AH->Prop}(J:D->AH->Prop) (z:W (ma γ) h J) (f:∀ d h1,J d h1->Q (.rt d) h1):W (Z1 (sRet ma) mt γ) h Q:=zB2 (z.mono f)
theorem z66 {me:G->M D}{mt:G->M Out}{γ:G}{h:AH}{k:Int}{r l:AH}{a i:Nat}{xs:List D}{Q:Out->AH->Prop}(ea:γ[a]?=some (some (.ref (r.length+i+3)))) (p:PS h k (r++l)) (e:l[i]?=some (.lst xs)) (hl:xs.length<1000000) (J:D->Int->Prop)
 (z:W (me γ) h fun v h1=>∃ k',PS h1 k' (r++l)/\J v k') (f:∀ v k' h2,J v k'->PS h2 k' (r++l.set i (.lst (xs++[v])))->W (mt γ) h2 Q):W (Z1 (z1o (eM1 J8 (eVar a) me)) mt γ) h Q:=by
 refine z8i ?_
 unfold eM1
 rw [Z6]
 refine W_eq (v:=.ref (r.length+i+3)) (by unfold eVar;rw [ea]) ?_
 rw [Z6]
 refine zb7 p e ?_
 rw [Z6]
 refine z.mono fun v h1 ⟨k',p1,j⟩=>?_
 exact z8T p1 e hl fun h2 p2=>f v k' h2 j p2
theorem z6v {cap:List (Option Nat)}{mi:G->M Src}{g:D->G->M G}{kk:G->M Bool}{me:G->M D}{γ:G}{h:AH}{r l:AH}{Q:D->AH->Prop}(J:Nat->List D->Int->Prop)
 (hs:W (mi γ) h fun src h1=>∃ k,PS h1 k (r++l)/\J 0 [] k/\(∀ h k xs,PS h k (r++(l++[.lst xs]))->src.good h) /\
  (∀ i d h k xs,src.items[i]?=some d->J i xs k->PS h k (r++(l++[.lst xs]))->W (g d (capG cap γ)) h fun γ1 h1'=>W (kk γ1) h1' fun t h2=>if t=true then W (me γ1) h2 fun v h3=>∃ k',PS h3 k' (r++(l++[.lst xs]))/\xs.length<1000000/\J (i+1) (xs++[v]) k' else ∃ k',PS h2 k' (r++(l++[.lst xs]))/\J (i+1) xs k') /\
  ∀ h' xs k,J src.items.length xs k->PS h' k (r++(l++[.lst xs]))->Q (.ref (r.length+l.length+3)) h'):W (z0i cap mi g kk me γ) h Q:=by
 refine zr5 ?_
 refine hs.mono fun src h1 ⟨k,p1,j0,good,st,fin⟩=>?_
 have l1:h1.length=r.length+l.length+3:=by rw [p1.len,List.length_append]
 refine ⟨fun i h'=>∃ xs k,J i xs k/\PS h' k (r++(l++[.lst xs])),⟨[],k,j0,by rw [← List.append_assoc];exact p1.app _⟩,fun i h' ⟨xs,k,_,p⟩=>good h' k xs p,?_,?_⟩
 ·rintro i d h2 hd ⟨xs,k,jx,p2⟩
  refine (st i d h2 k xs hd jx p2).mono fun γ1 h3 w3=>w3.mono fun t h4 w4=>?_
  cases t with
  | false=>rw [if_neg (by decide)] at w4 ⊢;obtain ⟨k',p4,j4⟩:=w4;exact ⟨xs,k',j4,p4⟩
  | true =>
   rw [if_pos rfl] at w4 ⊢
   refine w4.mono fun v h5 ⟨k',p5,lx,j5⟩=>?_
   rw [l1,show r.length+l.length+3=r.length+l.length+3 from rfl]
   refine z8T (i:=l.length) p5 (by simp) lx fun h6 p6=>?_
   refine ⟨_,k',j5,?_⟩
   rw [List.set_append_right _ _ (Nat.le_refl _),Nat.sub_self] at p6
   exact p6
 ·rintro h2 ⟨xs,k,jx,p2⟩
  rw [l1]
  exact fin h2 xs k jx p2
end FT
namespace L2
open PySem PySem.Spec PyProof.Rows
section
variable {κ:Type} [DecidableEq κ]
def putK (kvs:List (κ×V)) (k:κ) (v:V):List (κ×V) :=
 if (kvs.any fun kv=>decide (kv.1=k))=true then kvs.map (fun kv=>if kv.1=k then (kv.1,v) else kv) else kvs++[(k,v)]
theorem z5Q (kvs:List (κ×V)) (k:κ) (v:V):(putK kvs k v).length≤kvs.length+1:=by
 unfold putK
 split
 ·rw [List.length_map];omega
 ·rw [List.length_append,List.length_cons,List.length_nil];omega
theorem KV.any {kvs:List (κ×V)}{vs:List (κ×Value)}(r:KV kvs vs) (k:κ):(kvs.any fun kv=>decide (kv.1=k))=vs.any fun kv=>decide (kv.1=k):=by
 unfold KV at r
 induction r with
 | nil=>rfl
 | cons h t ih=>rw [List.any_cons,List.any_cons,ih,h.1]
theorem KV.repl {kvs:List (κ×V)}{vs:List (κ×Value)}(r:KV kvs vs) (k:κ) {y:V}{u:Value}(ry:RelV y u) :
 KV (kvs.map fun kv=>if kv.1=k then (kv.1,y) else kv) (vs.map fun kv=>if kv.1=k then (kv.1,u) else kv):=by
 unfold KV at r ⊢
 induction r with
 | nil=>exact .nil
 | @cons p q ps qs h t ih =>
  rw [List.map_cons,List.map_cons]
  refine .cons ?_ ih
  obtain ⟨h1,h2⟩:=h
  by_cases e:p.1=k
  ·rw [if_pos e,if_pos (h1.symm.trans e)];exact ⟨h1,ry⟩
  ·rw [if_neg e,if_neg (fun z=>e (h1.trans z))];exact ⟨h1,h2⟩
theorem KV.put {kvs:List (κ×V)}{vs:List (κ×Value)}(r:KV kvs vs) (k:κ) {y:V}{u:Value}(ry:RelV y u):KV (putK kvs k y) (stored vs k u):=by
 unfold putK stored
 rw [r.any k]
 by_cases e:(vs.any fun kv=>decide (kv.1=k))=true
 ·rw [if_pos e,if_pos e];exact r.repl k ry
 ·rw [if_neg e,if_neg e];exact Paired.snoc r ⟨rfl,ry⟩
end
theorem zG8 {P:Program}{w:World}{k:Key}{u:Value}(r:RelV (kV k) u):(z09 P w).is k u=true:=by
 cases k with
 | inl i=>obtain ⟨t,e⟩:=(show ∃ t,u=Value.int i t from r);subst e;exact z5N P w i t
 | inr x=>obtain ⟨t,e⟩:=(show ∃ t,u=Value.str x t from r);subst e;exact z5J P w x t
section
variable {P:Program}{w:World}{H:Hp}{h:Heap}{a:Addr}
theorem zH9 {u:HO}(ok:HOk P w H h) (e:Rd H a u):ObjOk P w H h a u:=e.ok ok
theorem zI4 {kvs:List (Key×V)}(ok:HOk P w H h) (e:Rd H a (.dK kvs)):kvs.length≤sizeLine/\(a == sysModules)=false/\∃ vs,KV kvs vs/\h.DictOf (z09 P w) a vs :=
 show ObjOk P w H h a (.dK kvs) from zH9 ok e
theorem zJ0 {kvs:List (Key×V)}(ok:HOk P w H h) (e:H a=some (.dK kvs)):kvs.length≤sizeLine/\(a == sysModules)=false/\∃ vs,KV kvs vs/\h.DictOf (z09 P w) a vs:=zI4 ok (.inl e)
end
section
variable {X:Cx}{pins:List (Addr×Obj)}{σ:St}{H:Hp}{s:Shared}{a:Addr}{y v:V}{u r:Value}{o:Option V}{A:Around}{E:Value->Shared->Prop}
theorem Inv.big (I:Inv X pins σ H s):sysModules<s.heap.objs.size:=by
 have h:mainGlobals<s.heap.objs.size:=(I.mod.glob.keeps I.bk).lt
 exact Nat.lt_trans (by decide) h
theorem zh6 {h':Heap}{t':Nat}{ob:HO}(I:Inv X pins σ H s) (mu:Mut (H a)) (hs:Heap.SameBut a s.heap h') (he:∃ q,h'.get? a=some q) (new:ObjOk X.prog X.w (upd H a ob) h' a ob) :
 Inv X pins σ (upd H a ob) { s with heap:=h',toks:=t' } :=
 I.write (x:=a) (e:=a) mu (.inl rfl) (fun b q hb z=>(hs.2 b hb).trans z) he new
theorem zt6 {P:Program}{w:World}{H':Hp}{h':Heap}{kvs:List (Key×V)}{vs:List (Key×Value)}(z:kvs.length≤sizeLine) (hd:(a == sysModules)=false) (rel:KV kvs vs) (dd:h'.DictOf (z09 P w) a vs) :
 ObjOk P w H' h' a (.dK kvs):=⟨z,hd,vs,rel,dd⟩
end
section
variable {X:Cx}{pins:List (Addr×Obj)}{σ:St}{H:Hp}{s:Shared}{a:Addr}{kvs:List (Key×V)}{k:Key}{u:Value}{A:Around}{E:Value->Shared->Prop}
end
section
variable {X:Cx}{o i e value:Expr}{pos pos' tpos:Pos}{td ty tv:TE}
end
theorem z63 {P:Program}{w:World}{H:Hp}(h:Heap) (hb:sysModules<h.objs.size):ObjOk P w H (h.push { cls:=.type "dict",data:=.dict #[] }) h.objs.size (.dK []) :=
 ⟨Nat.zero_le _,beq_eq_false_iff_ne.mpr (Ne.symm (Nat.ne_of_lt hb)),[],.nil,Heap.DictOf.new h⟩
def zu6:TE:=fun _ H Q=>∀ p,H p=none->Q (.ref p) (upd H p (.dK []))
section
variable {X:Cx}{pos:Pos}
theorem zb2:PE X (.Dict [] [] pos) zu6:=fun pins s σ H Q I h =>
 wpAny_Dict_empty ⟨.ref s.heap.objs.size,_,I.laid (a:=s.heap.objs.size) (o:=.dK []) (t':=s.toks) (fun _ _ q=>Heap.get?_push_of_some _ q) (Nat.le_refl _) (z63 s.heap I.big),rfl,h _ (I.hok.fresh (Nat.le_refl _))⟩
end
def z86:List (TE×TE)->St->Hp->(List (V×V)->Hp->Prop)->Prop
 | [],_,H,Q=>Q [] H
 | (tk,tv) :: r,σ,H,Q=>tk σ H fun x H1=>tv σ H1 fun y H2=>z86 r σ H2 fun ps H3=>Q ((x,y) :: ps) H3
abbrev VV:List (V×V)->List (Value×Value)->Prop:=Paired fun p q=>RelV p.1 q.1/\RelV p.2 q.2
def PPs (X:Cx) (pos:Pos) (keys:List (Option Expr)) (values:List Expr) (trs:List (TE×TE)):Prop :=
 ∀ (pins:List (Addr×Obj)) (s:Shared) (σ:St) (H:Hp) (Q:List (V×V)->Hp->Prop),Inv X pins σ H s->z86 trs σ H Q ->
  wpAny (model X.prog X.w) X.A (evalPairs (pairTrees keys values X.env pos)) (fun vs s'=>∃ ps H',Inv X pins σ H' s'/\VV ps vs/\Q ps H') X.xe s
theorem zh7 {X:Cx}{pos:Pos}:PPs X pos [] [] []:=fun pins s σ H Q I h=>pairTrees_nil_walk ⟨[],H,I,.nil,h⟩
theorem z9D {X:Cx}{pos:Pos}{k v:Expr}{ks:List (Option Expr)}{vs:List Expr}{tk tv:TE}{trs:List (TE×TE)}(hk:PE X k tk) (hv:PE X v tv) (hr:PPs X pos ks vs trs) :
 PPs X pos (some k :: ks) (v :: vs) ((tk,tv) :: trs):=fun pins s σ H Q I h =>
 pairTrees_cons_walk (thn (hk pins s σ H _ I h) fun u s1 ⟨x,H1,I1,rx,q1⟩=>thn (hv pins s1 σ H1 _ I1 q1) fun w2 s2 ⟨y,H2,I2,ry,q2⟩ =>
  thn (hr pins s2 σ H2 _ I2 q2) fun ws s3 ⟨ps,H3,I3,rel,q3⟩=>⟨(x,y) :: ps,H3,I3,.cons ⟨rx,ry⟩ rel,q3⟩)
def z4C (kvs more:List (Key×V)):List (Key×V):=more.foldl (fun acc kv=>putK acc kv.1 kv.2) kvs
theorem KV.merge:∀ {more:List (Key×V)}{rs:List (Key×Value)}{kvs:List (Key×V)}{vs:List (Key×Value)},KV more rs->KV kvs vs->KV (z4C kvs more) (merged vs rs):=by
 intro more rs kvs vs r
 unfold KV at r
 induction r generalizing kvs vs with
 | nil=>intro q;exact q
 | @cons p q ps qs h t ih =>
  intro r0
  have e:KV (putK kvs p.1 p.2) (stored vs q.1 q.2):=by
   have:=r0.put p.1 h.2
   rw [← h.1];exact this
  exact ih e
theorem z2k:∀ (more kvs:List (Key×V)),(z4C kvs more).length≤kvs.length+more.length
 | [],kvs=>by show kvs.length≤kvs.length+0;omega
 | p :: r,kvs=>by
  have h1:=z2k r (putK kvs p.1 p.2)
  have h2:=z5Q kvs p.1 p.2
  show (z4C (putK kvs p.1 p.2) r).length≤_
  rw [List.length_cons];omega
theorem z3D {P:Program}{w:World}:∀ {kvs:List (Key×V)}{ws:List (Value×Value)},VV (kvs.map fun kv=>(kV kv.1,kv.2)) ws->∃ rs,Carries (z09 P w) ws rs/\KV kvs rs
 | [],_,r=>by rw [List.map_nil] at r;cases r;exact ⟨[],True.intro,.nil⟩
 | p :: kvs,_,r=>by
  rw [List.map_cons] at r
  cases r with
  | @cons a b as bs h t =>
   obtain ⟨rs,c,q⟩:=z3D (P:=P) (w:=w) t
   obtain ⟨b1,b2⟩:=b
   exact ⟨(p.1,b2) :: rs,⟨zG8 h.1,rfl,c⟩,.cons ⟨rfl,h.2⟩ q⟩
def zG9 (trs:List (TE×TE)):TE:=fun σ H Q=>∀ p,H p=none->z86 trs σ (upd H p (.dK [])) fun ps H2=>H2 p=some (.dK [])/\∃ kvs:List (Key×V),ps=kvs.map (fun kv=>(kV kv.1,kv.2))/\kvs.length≤15/\Q (.ref p) (upd H2 p (.dK (z4C [] kvs)))
theorem zl6 {X:Cx}{pos:Pos}{keys:List (Option Expr)}{values:List Expr}{trs:List (TE×TE)}(h:PPs X pos keys values trs) (hall:keys.all (·.isSome)=true) (hl:keys.length=values.length) (h0:keys≠[])
 (h15:keys.length≤15):PE X (.Dict keys values pos) (zG9 trs):=by
 intro pins s σ H Q I q
 have hn:=I.hok.fresh (Nat.le_refl s.heap.objs.size)
 have I1:=I.laid (a:=s.heap.objs.size) (o:=.dK []) (h':=s.heap.push { cls:=.type "dict",data:=.dict #[] }) (t':=s.toks) (fun _ _ q=>Heap.get?_push_of_some _ q) (Nat.le_refl _) (z63 s.heap I.big)
 refine wpAny_Dict_walk (knd:=z09 X.prog X.w) hall hl h0 h15 (thn (h pins _ σ _ _ I1 (q _ hn)) fun ws s2 ⟨ps,H2,I2,rel,e,kvs,ep,lk,q2⟩=>?_)
 subst ep
 obtain ⟨rs,c,rk⟩:=z3D (P:=X.prog) (w:=X.w) rel
 obtain ⟨z,hd,vs0,r0,dd⟩:=zJ0 I2.hok e
 cases r0
 refine ⟨rs,c,dd,fun h' dd' hs=>⟨.ref s.heap.objs.size,_,?_,rfl,q2⟩⟩
 have hz:(z4C [] kvs).length≤sizeLine:=by
  have h1:=z2k kvs []
  rw [List.length_nil] at h1
  rw [sizeLine_eq];omega
 have he:∃ q,h'.get? s.heap.objs.size=some q:=let ⟨q,_,_,hq,_⟩:=dd';⟨q,hq⟩
 exact zh6 I2 (by rw [e];exact True.intro) hs he (zt6 hz hd (rk.merge .nil) dd')
section
variable {X:Cx}{pins:List (Addr×Obj)}{σ:St}{H:Hp}{s:Shared}{a:Addr}{y d:V}{u r:Value}{o:Option V}{A:Around}{E:Value->Shared->Prop}
end
section
variable {X:Cx}{o e f:Expr}{apos cpos:Pos}{td ty tx:TE}
end
end L2
namespace FT
open PySem PySem.Spec PyProof.Rows L2
section
variable {K:PySem.W.Frag}{ρ:List Addr}{H:Hp}
theorem zH7 {d:D}{k:Key}{v:V}(e:keyD d=some k) (r:RD K ρ H d v):v=kV k:=by
 cases d<;>simp only [keyD] at e<;>first | (cases e;simp only [RD] at r;exact r) | cases e
end
def newK (kvs:List (Key×D)):M D:=fun h=>if kvs.length≤sizeLine then .ok (.ref h.length) (h++[.dK kvs]) else .bad
section
variable {X:Cx}{EX:XX}{a o i e f:Expr}{pos apos cpos:Pos}{mo mi ma mb:G->M D}
theorem zx1:SE X EX (.Dict [] [] pos) (fun _=>newK []) :=
 ⟨PE.imp zb2 fun σ H Q ⟨ρ,γ,h,rel,fin⟩ p hp=>by
  unfold newK at fin
  dsimp only at fin
  rw [if_pos (show ([]:List (Key×D)).length≤sizeLine from Nat.zero_le _)] at fin
  refine fin (ρ++[p]) _ (Pre.app _ _) (Ext.upd (.inl hp)) (rel.h.pushO hp ⟨[],z06,.nil⟩) _ ?_
  simp only [RD]
  refine ⟨p,rfl,?_⟩
  rw [← rel.h.len];simp⟩
end
def orM {α:Type} (m n:M α):M α:=fun h=>match m h with
 | .bad=>n h
 | r=>r
def orE {α:Type} (m n:G->M α):G->M α:=fun γ=>orM (m γ) (n γ)
section
variable {X:Cx}{EX:XX}{e tg:Expr}
theorem z6O {α:Type}(m n:M α) (h:AH):orM m n h=m h∨orM m n h=n h:=by
 unfold orM
 cases m h with
 | bad=>exact .inr rfl
 | ok a b=>exact .inl rfl
 | err a b=>exact .inl rfl
theorem z8s {m n:G->M D}(a:SE X EX e m) (b:SE X EX e n):SE X EX e (orE m n) :=
 ⟨fun pins s σ H Q I ⟨ρ,γ,h,rel,fin⟩=>by
  rcases z6O (m γ) (n γ) h with z | z<;>rw [show orE m n γ h=orM (m γ) (n γ) h from rfl,z] at fin
  ·exact a.h pins s σ H Q I ⟨ρ,γ,h,rel,fin⟩
  ·exact b.h pins s σ H Q I ⟨ρ,γ,h,rel,fin⟩⟩
theorem z4F {m n:G->M Src}(a:SI X EX tg e m) (b:SI X EX tg e n):SI X EX tg e (orE m n) :=
 ⟨fun pins s σ H Q I ⟨ρ,γ,h,rel,fin⟩=>by
  rcases z6O (m γ) (n γ) h with z | z<;>rw [show orE m n γ h=orM (m γ) (n γ) h from rfl,z] at fin
  ·exact a.h pins s σ H Q I ⟨ρ,γ,h,rel,fin⟩
  ·exact b.h pins s σ H Q I ⟨ρ,γ,h,rel,fin⟩⟩
end
theorem or_l {α:Type}{m n:G->M α}{γ:G}{h h1:AH}{v:α}(e:m γ h=.ok v h1):orE m n γ h=.ok v h1:=by unfold orE orM;rw [e]
theorem or_r {α:Type}{m n:G->M α}{γ:G}{h:AH}(e:m γ h=.bad):orE m n γ h=n γ h:=by unfold orE orM;rw [e]
theorem or_b {α:Type}{m n:G->M α}{γ:G}(e:m γ=bad):orE m n γ=n γ:=funext fun h=>or_r (by rw [e];rfl)
theorem W_of {α:Type}{m:M α}{h h1:AH}{v:α}{Q:α->AH->Prop}(e:m h=.ok v h1) (q:Q v h1):W m h Q:=⟨_,_,e,q⟩
def putN (acc:List Nat) (k:Nat):List Nat:=if k∈acc then acc else acc++[k]
def dedN (l:List Nat):List Nat:=l.foldl putN []
theorem z9Q {a:List Nat}{k x:Nat}:x∈putN a k↔x∈a∨x=k:=by
 unfold putN
 split
 ·exact ⟨.inl,fun h=>h.elim id fun e=>by subst e;assumption⟩
 ·simp
theorem zi5 {a:List Nat}{k:Nat}(h:a.Nodup):(putN a k).Nodup:=by
 unfold putN
 split
 ·exact h
 ·exact z8y h ‹_›
theorem z6P {x:Nat}:∀ {l a:List Nat},x∈l.foldl putN a↔x∈a∨x∈l
 | [],a=>by simp
 | k :: l,a=>by rw [List.foldl_cons,z6P,z9Q,List.mem_cons];exact or_assoc
theorem z7D:∀ {l a:List Nat},a.Nodup->(l.foldl putN a).Nodup
 | [],_,h=>h
 | _ :: l,_,h=>z7D (l:=l) (zi5 h)
theorem dedN_mem {l:List Nat}{x:Nat}:x∈dedN l↔x∈l:=by unfold dedN;rw [z6P];simp
theorem z83 (l:List Nat):(dedN l).Nodup:=z7D List.nodup_nil
theorem z7C:∀ (l a:List Nat),(kN l).foldl putK (kN a)=kN (l.foldl putN a)
 | [],a=>rfl
 | k :: l,a=>by
  have e:putK (kN a) (.inl (k:Int))=kN (putN a k):=by
   unfold putN
   split
   ·rename_i h
    unfold putK
    rw [if_pos (kN_mem.mpr h)]
   ·exact zB0 ‹_›
  show (kN l).foldl putK (putK (kN a) (.inl (k:Int)))=_
  rw [e]
  exact z7C l (putN a k)
theorem zf3 (l:List Nat):dedK (kN l)=kN (dedN l):=z7C l []
theorem zc6 {l:List Nat}{n:Nat}(h:∀ x∈l,x<n):(dedN l).length≤n:=z3c (z83 l) fun x hx=>h x (dedN_mem.mp hx)
theorem z5G:∀ l:List Nat,z3Z (stD l)=some (kN l)
 | []=>rfl
 | a :: l=>by
  have:z3Z (stD (a :: l))=(match keyD (.int (a:Int)),z3Z (stD l) with
   | some k,some ks=>some (k :: ks)
   | _,_=>none):=rfl
  rw [this,z5G l];rfl
def setN (l:List Nat):List Nat:=z18 (dedN l)
theorem setN_mem {l:List Nat}{x:Nat}:x∈setN l↔x∈l:=by unfold setN;rw [sortN_mem,dedN_mem]
theorem z0z (l:List Nat):(setN l).Pairwise (·<·):=z3I (z83 l)
theorem z2A {l:List Nat}(h:l.Pairwise (·<·)):l.Nodup:=h.imp fun h=>Nat.ne_of_lt h
theorem z67 {l m:List Nat}(a:l.Pairwise (·<·)) (b:m.Pairwise (·<·)) (h:∀ x,x∈l↔x∈m):l=m :=
 ((List.perm_ext_iff_of_nodup (z2A a) (z2A b)).mpr h).eq_of_pairwise (fun _ _ _ _ h1 h2=>absurd h2 (Nat.lt_asymm h1)) a b
theorem zb3 {l m:List Nat}(h:∀ x,x∈l↔x∈m):setN l=setN m:=z67 (z0z l) (z0z m) fun x=>by rw [setN_mem,setN_mem];exact h x
theorem z6L {l:List Nat}{n:Nat}(h:∀ x∈l,x<n):(setN l).length≤n:=by unfold setN;rw [z0K];exact zc6 h
section
variable {ma me:G->M D}{mt:G->M Out}{γ:G}{h:AH}{a b i:Nat}{xs:List D}{v:D}{Q:Out->AH->Prop}
theorem z8e (e:h[i]?=some (.lst xs)):z2u (.ref i) h=.ok i h:=by unfold z2u;dsimp only;rw [e]
theorem z9B (e:h[i]?=some (.lst xs)) (hl:xs.length<1000000):J8 i v h=.ok .non (h.set i (.lst (xs++[v]))):=by
 unfold J8 updL
 rw [e]
 dsimp only
 rw [if_pos (by simp [sizeLine];omega)]
theorem z41 (ea:γ[a]?=some (some (.ref i))) (e:h[i]?=some (.lst xs)) (hl:xs.length<1000000) (ev:me γ h=.ok v h) (z:W (mt γ) (h.set i (.lst (xs++[v]))) Q):W (Z1 (z1o (eM1 J8 (eVar a) me)) mt γ) h Q:=by
 refine z8i ?_
 have e1:eVar a γ=pure (.ref i):=by unfold eVar;rw [ea]
 unfold eM1
 rw [e1,Y9,Z6]
 refine W_of (z8e e) ?_
 rw [Z6]
 exact W_of ev (W_of (z9B e hl) z)
theorem z9H (hl:xs.length≤1000000) (ev:∀ h,me γ h=newL xs h) (z:W (mt (γ.set a (some (.ref h.length)))) (h++[.lst xs]) Q):W (Z1 (sAsg me (gN a)) mt γ) h Q:=by
 refine z7K ?_
 have:me γ=newL xs:=funext ev
 rw [this]
 exact zI5 hl z
theorem J4 {f:List D->M D}{d:D}{h1:AH}{r:Res D}(e:me γ h=.ok d h1) (e2:f [d] h1=r):Z9 f (z8 me aNil) γ h=r:=by
 have:z8 me aNil γ h=.ok [d] h1:=by
  show (me γ >>= fun x=>(do let r ← aNil γ;pure (x :: r):M (List D))) h=_
  rw [M.bind_ok e];rfl
 show (z8 me aNil γ >>= f) h=_
 rw [M.bind_ok this];exact e2
theorem z3M (e:h[i]?=some (.lst xs)):Y7 [.ref i] h=.ok (.tup xs) h:=by
 have ft:Y7 [.ref i]=(do let x ← getL i;pure (.tup x)):=rfl
 have g:getL i h=.ok xs h:=by unfold getL;rw [e]
 rw [ft,M.bind_ok g];rfl
theorem zm0 (e:h[i]?=some (.lst xs)):fLen [.ref i] h=.ok (.int xs.length) h:=by
 have ft:fLen [.ref i]=(do let x ← getL i;pure (.int x.length)):=rfl
 have g:getL i h=.ok xs h:=by unfold getL;rw [e]
 rw [ft,M.bind_ok g];rfl
theorem ix_h {t:Int}{d:D}(e:h[i]?=some (.lst xs)) (a:atI xs t=some d):fIx (.ref i) (.int t) h=.ok d h:=by
 have ft:fIx (.ref i) (.int t)=(do let xs ← getL i;match atI xs t with | some d=>pure d | none=>bad):=rfl
 have g:getL i h=.ok xs h:=by unfold getL;rw [e]
 rw [ft,M.bind_ok g,a];rfl
theorem zg3 {ss:List Str}(e:h[i]?=some (.lst (ss.map .str))) (hl:ss.length<64):z1i [.ref i] h=.ok (.ref h.length) (h++[.lst ((z1j ss).map .str)]):=by
 have fs:z1i [.ref i]=(do
  let xs ← getL i
  if xs.length<64 then (match z2R xs with
   | some ss=>newL ((z1j ss).map .str)
   | none=>(match z2q xs with
    | some ns=>newL ((sortI ns).map .int)
    | none=>bad)) else bad):=rfl
 have g:getL i h=.ok (ss.map .str) h:=by unfold getL;rw [e]
 rw [fs,M.bind_ok g,if_pos (by simpa using hl),strs_map]
 dsimp only
 unfold newL
 rw [if_pos (by rw [List.length_map,z36];unfold sizeLine;omega)]
theorem z5j (e:me γ h=.ok (.ref h.length) (h++[.lst xs])) (c:Y0 0 xs=true):clE (Z9 Y7 (z8 me aNil)) γ h=.ok (.tup xs) h :=
 z1d (j:=[.lst xs]) (J4 e (z3M (by simp))) (by simp only [J7];exact z0L (Nat.zero_le _) c)
theorem cb_h {b:Bool}{h1:AH}(e:me γ h=.ok (.bl b) h1):(fun γ=>(do let d ← me γ;asB d:M Bool)) γ h=.ok b h1:=by
 dsimp only
 rw [M.bind_ok e];rfl
theorem z3t {n:Nat}{mb:G->M Out}{ds:List D}{d:D}{h1:AH}(z:W (mb (z1b n ds)) h (runW fun a h'=>a=d/\h'=h1)):runF n mb ds h=.ok d h1:=by
 obtain ⟨_,_,a,rfl,rfl⟩:=z1J z
 exact a
end
theorem z5l {f:D->D->Option Bool}{ι:Type} [DecidableEq ι] {enc:ι->D}(e:∀ a b,f (enc a) (enc b)=some (decide (a=b))):∀ l m:List ι,eqZ f (l.map enc) (m.map enc)=some (decide (l=m))
 | [],[]=>by simp [eqZ]
 | [],b :: m=>by simp [eqZ]
 | a :: l,[]=>by simp [eqZ]
 | a :: l,b :: m=>by
  rw [List.map_cons,List.map_cons]
  unfold eqZ
  rw [e a b,z5l e l m]
  dsimp only
  congr 1
  rw [Bool.eq_iff_iff]
  simp
theorem z2d {n:Nat}{h:AH}(a b:Nat):eqN (n+1) h (.int a) (.int b)=some (decide (a=b)):=by
 show some ((a:Int) == (b:Int))=_
 congr 1
 rw [Bool.eq_iff_iff,beq_iff_eq,decide_eq_true_eq]
 exact Int.ofNat_inj
theorem z5A {n:Nat}{h:AH}(a b:Str):eqN (n+1) h (.str a) (.str b)=some (decide (a=b)):=by
 show some (a == b)=_
 congr 1
theorem z28 {ι:Type} [DecidableEq ι] {enc:ι->D}{n:Nat}{h:AH}(e:∀ a b,eqN n h (enc a) (enc b)=some (decide (a=b))) (l m:List ι):eqN (n+1) h (.tup (l.map enc)) (.tup (m.map enc))=some (decide (l=m)):=z5l e l m
theorem zj6 {ι:Type} [DecidableEq ι] {enc:ι->D}{n:Nat}{h:AH}(e:∀ a b,eqN n h (enc a) (enc b)=some (decide (a=b))) {l m:List ι}{i j:Nat}(hi:h[i]?=some (.lst (l.map enc))) (hj:h[j]?=some (.lst (m.map enc))):eqN (n+1) h (.ref i) (.ref j)=some (decide (l=m)):=by
 have v1:vw h (.ref i)=.lst (l.map enc):=by unfold vw;dsimp only;rw [hi]
 have v2:vw h (.ref j)=.lst (m.map enc):=by unfold vw;dsimp only;rw [hj]
 unfold eqN
 rw [v1,v2]
 exact z5l e l m
theorem z2H {neg:Bool}{h:AH}{x y:D}{b:Bool}(e:eqN 24 h x y=some b):fEqX neg x y h=.ok (.bl (b != neg)) h:=by
 unfold fEqX;rw [e]
theorem zg0 {l m:List Nat}{neg:Bool}{h:AH}{i j:Nat}(hi:h[i]?=some (.lst (stD l))) (hj:h[j]?=some (.lst (stD m))):fEqX neg (.ref i) (.ref j) h=.ok (.bl (decide (l=m) != neg)) h:=z2H (zj6 (enc:=fun (i:Nat)=>.int i) z2d hi hj)
section
variable {ma mb:G->M D}{γ:G}{h h1 h2:AH}
theorem e2_h {f:D->D->M D}{x y:D}{r:Res D}(e1:ma γ h=.ok x h1) (e2':mb γ h1=.ok y h2) (e3:f x y h2=r):e2 f ma mb γ h=r:=by
 show (ma γ >>= fun x=>(mb γ >>= fun y=>f x y)) h=_
 rw [M.bind_ok e1,M.bind_ok e2',e3]
theorem fn_h {n:Nat}{f:List D->M D}{mr:G->M (List D)}{ds:List D}{r:Res D}(e:mr γ h=.ok ds h1) (hn:ds.length=n) (e2:f ds h1=r):eFn n f mr γ h=r:=by
 show (mr γ >>= fun xs=>if xs.length=n then f xs else bad) h=_
 rw [M.bind_ok e,if_pos hn,e2]
theorem ac_h {mr:G->M (List D)}{d:D}{ds:List D}(e:ma γ h=.ok d h1) (e2:mr γ h1=.ok ds h2):z8 ma mr γ h=.ok (d :: ds) h2:=by
 show (ma γ >>= fun x=>(mr γ >>= fun r=>(pure (x :: r):M (List D)))) h=_
 rw [M.bind_ok e,M.bind_ok e2];rfl
end
end FT
set_option maxHeartbeats 1600000
namespace FT
open PySem PySem.Spec PyProof.Rows L2
section
variable {prog:Program}{w:World}{A:Around}{E:Value->Shared->Prop}{s:Shared}
theorem z3T:∀ {vs:List Value}{ns:List Int},IntsAre vs ns->∀ i (h1:i<vs.length) (h2:i<ns.length),∃ t,vs[i]=.int ns[i] t
 | _,_,.nil,i,h1,_=>by simp at h1
 | _,_,.cons n t r,0,_,_=>⟨t,rfl⟩
 | _,_,.cons n t r,i+1,h1,h2=>by simpa using z3T r i (by simpa using h1) (by simpa using h2)
theorem z2S {t:Addr}{vs:List Value}{ns:List Int}{k:Int}{tk:Tok}{Q:Value->Shared->Prop}(ht:IsTup s.heap t vs.toArray) (hi:IntsAre vs ns) (hk:k∈ns) (h:Q (.int (ns.idxOf k:Nat) s.toks) { s with toks:=s.toks+1 }) :
 wpAny (model prog w) A (call (.builtin "tuple.index") [.ref t,.int k tk]) Q E s:=by
 have hT:s.heap.IsTuple t vs.toArray:=ht
 have hlen:=hi.length
 have hj:ns.idxOf k<ns.length:=List.idxOf_lt_length_iff.mpr hk
 obtain ⟨o,ho,hc,n,hd⟩:=id hT
 refine wpAny_call_entry F.slot_tuple_index ⟨o,ho,hc⟩ F.entry_tuple_index ?_ (F.args_tuple_index_2 _ _)
 unfold Builtin.«tuple.index»
 wp_walk
 rw [hd]
 refine wpAny_pure ?_
 refine wpAny_pure ?_
 dsimp only
 refine wpAny_bind (wpAny_pure ?_)
 refine wpAny_bind (wpAny_pure ?_)
 refine wpAny_bind ?_
 rw [Std.Legacy.Range.forIn_eq_forIn_range']
 simp only [Std.Legacy.Range.size,Nat.sub_zero,Nat.add_sub_cancel,Nat.div_one,Nat.min_self,List.size_toArray]
 refine wpAny_forIn_list _
  (fun rest b s'=>s'=s/\b=(none,())/\∃ i,rest=List.range' i (vs.length - i)/\i≤ns.idxOf k)
  _ ?_ ?_ _ _ ⟨rfl,rfl,0,by simp,Nat.zero_le _⟩
 ·rintro x rest b s' ⟨rfl,rfl,i,hr,hle⟩
  have hlt:i<vs.length:=by omega
  obtain ⟨rfl,hrest⟩:x=i/\rest=List.range' (i+1) (vs.length - (i+1)):=by
   have e:vs.length - i=(vs.length - (i+1))+1:=by omega
   rw [e,List.range'_succ] at hr
   injection hr with h1 h2
   exact ⟨h1,h2⟩
  have e1:vs.toArray[x]?=some vs[x]:=by simp [hlt]
  rw [e1]
  dsimp only
  obtain ⟨tk2,e2⟩:∃ tk2,vs[x]=.int (ns[x]'(by omega)) tk2:=z3T hi x hlt (by omega)
  rw [e2]
  refine wpAny_bind (wpAny_eqBool_int ?_)
  by_cases e3:x=ns.idxOf k
  ·have e4:ns[x]'(by omega)=k:=by subst e3;exact List.getElem_idxOf hj
   rw [e4,if_pos (by simp)]
   subst e3
   wp_walk
   exact ⟨_,rfl,h⟩
  ·have e4:(ns[x]'(by omega) == k)=false:=ne_of_lt_idxOf (show x<ns.idxOf k by omega) _
   rw [if_neg (by rw [e4];decide)]
   exact wpAny_pure ⟨rfl,rfl,x+1,hrest,by omega⟩
 ·rintro b s' ⟨rfl,rfl,i,hr,hle⟩
  have:vs.length - i=0:=by
   cases e:vs.length - i with
   | zero=>rfl
   | succ m=>rw [e,List.range'_succ] at hr;cases hr
  omega
end
def maxI (ns:List Int):Int:=ns.getD (argBest (fun i j=>decide (ns.getD i 0 > ns.getD j 0)) (ns.length - 1)) 0
theorem za0 {ns:List Int}(h:0<ns.length):maxI ns∈ns:=by
 obtain ⟨a,_⟩:=argBest_gt (fun i=>ns.getD i 0) (ns.length - 1)
 unfold maxI
 generalize argBest (fun i j=>decide (ns.getD i 0 > ns.getD j 0)) (ns.length - 1)=j at a ⊢
 have hj:j<ns.length:=by omega
 rw [List.getD_eq_getElem?_getD,List.getElem?_eq_getElem hj]
 exact List.getElem_mem hj
theorem zg9 {ns:List Int}{x:Int}(h:x∈ns):x≤maxI ns:=by
 obtain ⟨i,hi,e⟩:=List.getElem_of_mem h
 have:=(argBest_gt (fun i=>ns.getD i 0) (ns.length - 1)).2 i (by omega)
 rw [List.getD_eq_getElem?_getD,List.getElem?_eq_getElem hi,Option.getD_some,e] at this
 exact this
section
variable {X:Cx}{EX:XX}{a o:Expr}{pos apos cpos p:Pos}{mo ma:G->M D}{mr:G->M (List D)}
def zp9 (K:PySem.W.Frag):V->List V->Hp->VK->Prop:=fun x vs H Q=>∃ (l:Addr) (ns:List Int) (k:Int),x=.ref l/\vs=[.int k]/\SqL K H l (ns.map V.int)/\ns.length≤100000/\k∈ns/\Q (.int (ns.idxOf k:Nat)) H
def zm5 (K:PySem.W.Frag):V->List V->Hp->VK->Prop:=fun x vs H Q=>∃ (l:Addr) (ns:List Int) (k:Int),x=.ref l/\vs=[.int k]/\SqT K H l (ns.map V.int)/\k∈ns/\Q (.int (ns.idxOf k:Nat)) H
theorem z8u:MtR X "tuple.index" (zm5 X.K):=by
 intro pins s σ H x vs v us Q I rx rv h
 obtain ⟨l,ns,k,rfl,rfl,hq,hk,q⟩:=h
 cases rx
 obtain ⟨u,rfl,ru⟩:=rv.one
 obtain ⟨t,rfl⟩:=ru
 obtain ⟨its,r,pl,hz⟩:=I.tuple hq
 exact z2S pl (intsAre_of r) hk ⟨.int _,H,I.tok _,⟨_,rfl⟩,q⟩
theorem z5v {A:Around}{E:Value->Shared->Prop}{s:Shared}{l:Addr}{vs:List Value}{ns:List Int}{k:Int}{t:Tok}{Q:Value->Shared->Prop}(hl:s.heap.IsList l vs.toArray) (hi:IntsAre vs ns) (hb:ns.length≤100000) (hk:k∈ns) (h:Q (.int (ns.idxOf k:Nat) s.toks) { s with toks:=s.toks+1 }) :
 wpAny (model X.prog X.w) A (call (.builtin "list.index") [.ref l,.int k t]) Q E s:=by
 obtain ⟨⟨cls,dd,data,sl⟩,ho,hc,n,hd⟩:=id hl
 simp only at hc hd
 subst hc hd
 have hlen:=hi.length
 have hj:ns.idxOf k<ns.length:=List.idxOf_lt_length_iff.mpr hk
 refine call_meets PySem.F.slot_list_index ⟨_,ho,rfl⟩ PySem.F.entry_list_index (PySem.F.args_list_index_2 _ _)
  (PySem.SeqAt.list_indexAt l vs.toArray n dd sl (.int k t) (isInt k) (ns.idxOf k) (by simpa [hlen] using hj) (by omega) ?_ ?_) ⟨ho,fun y hy=>(eq_isInt k t hi y (by simpa using hy)).at _ _,h⟩
 ·show isInt k vs[ns.idxOf k]=true
  rw [isInt_at k hi _ (by omega) hj]
  simpa using List.getElem_idxOf hj
 ·intro j hjs hlt
  show isInt k vs[j]=false
  rw [isInt_at k hi j (by simpa using hjs) (by omega)]
  exact ne_of_lt_idxOf hlt _
theorem z97:MtR X "list.index" (zp9 X.K):=by
 intro pins s σ H x vs v us Q I rx rv h
 obtain ⟨l,ns,k,rfl,rfl,hq,hb,hk,q⟩:=h
 cases rx
 obtain ⟨u,rfl,ru⟩:=rv.one
 obtain ⟨t,rfl⟩:=ru
 obtain ⟨its,r,pl,hz⟩:=I.list hq
 exact z5v pl.isList (intsAre_of r) hb hk ⟨.int _,H,I.tok _,⟨_,rfl⟩,q⟩
def ixI (xs:List D) (y:D):M D:=match z2q xs,y with
 | some ns,.int k=>if ns.length≤100000/\k∈ns then pure (.int (ns.idxOf k:Nat)) else bad
 | _,_=>bad
def z10 (n:Nat) (y:D):M D:=do
 let xs ← getL n
 ixI xs y
def z1L (mo ma:G->M D):G->M D:=fun γ=>do
 let o ← mo γ
 match o with
 | .tup xs=>do
  let y ← ma γ
  ixI xs y
 | _=>bad
theorem z8j {ρ:List Addr}{h:AH}{H:Hp}{xs:List D}{y:D}{vs:List V}{u:V}{Q:VK}(r:RH X.K ρ h H) (rx:RDs X.K ρ H xs vs) (ry:RD X.K ρ H y u) (fin:FE X.K EX ρ H Q (ixI xs y h)):∃ (ns:List Int) (k:Int),vs=ns.map V.int/\u=.int k/\ns.length≤100000/\k∈ns/\Q (.int (ns.idxOf k:Nat)) H:=by
 unfold ixI at fin
 cases e:z2q xs with
 | none=>rw [e] at fin;exact fin.elim
 | some ns =>
  rw [e] at fin
  cases y<;>first | exact (show False from fin).elim | skip
  rename_i k
  dsimp only at fin
  simp only [RD] at ry
  subst ry
  by_cases c:ns.length≤100000/\k∈ns
  ·rw [if_pos c] at fin
   exact ⟨ns,k,z32 e rx,rfl,c.1,c.2,FE.here fin r (by simp [RD])⟩
  ·rw [if_neg c] at fin;exact fin.elim
theorem z1H (ho:SE X EX o mo) (ha:SE X EX a ma)
 (hbase:attributeBase o "index" X.env (eval o X.env)=eval o X.env:=by rfl)
 (hfew:((backTo cpos (starEach [a] X.env)).all (fun x=>!x.1) && (backToKw cpos (keywordEach [] X.env)).all (fun x=>x.1.isSome)
  && decide (([a]:List Expr).length+([]:List Keyword).length+(if ([]:List Keyword).isEmpty then 0 else 1)<30))=true:=by rfl)
 (hline:(apos.endLine == cpos.line)=true:=by rfl) (hs:starEach [a] X.env=[(false,eval a X.env)]:=by rfl) :
 SE X EX (.Call (.Attribute o "index" apos) [a] [] cpos) (eM1 z10 mo ma) :=
 ⟨PE.imp (zi6 PySem.F.plainAttrs_list PySem.F.slot_list_index PySem.F.type_list_index z97 ho.h (z0q ha.h z1P hs) hbase hfew hline hs rfl) (zj7 fun ρ h H n q y u Q r hq ru fin=>by
  have f2:Fin X.K EX ρ H _ _:=Fin.bind (show Fin X.K EX ρ H (fun d ρ' _ H'=>∀ v,RD X.K ρ' H' d v->Q v H') ((getL n >>= fun xs=>ixI xs y) h) from fin)
  cases e3:getL n h with
  | bad=>rw [e3] at f2;exact f2.elim
  | err z hz=>exact (z13 e3).elim
  | ok xs h3 =>
   obtain ⟨rfl,q1⟩:=z12 e3
   rw [e3] at f2
   obtain ⟨a1,n1,vs,o1,d1⟩:=r.at q1
   rw [hq] at n1;cases n1
   obtain ⟨ns,k,rfl,rfl,hb,hk,q⟩:=z8j r d1 ru (f2 ρ H (Pre.refl _) (Ext.refl _ _) r)
   exact ⟨_,ns,k,rfl,rfl,SqL.of o1,hb,hk,q⟩)⟩
def tBMT (K:PySem.W.Frag) (r:V->List V->Hp->VK->Prop) (to:TE) (t:TA):TE:=fun σ H Q=>to σ H fun x H1=>(∃ a xs,x=.ref a/\SqT K H1 a xs)/\t σ H1 fun vs H2=>r x vs H2 Q
theorem tup_is {pins:List (Addr×Obj)}{σ:L2.St}{H:Hp}{s:Shared}{a:Addr}{xs:List V}(I:Inv X pins σ H s) (h:SqT X.K H a xs):s.TypeIs (.ref a) "tuple"/\∀ b,Value.ref a=.ref b->∃ ob,s.heap.get? b=some ob/\ob.dict=none:=by
 rcases h with h | ⟨o,its,n,hk,hc,_⟩
 ·obtain ⟨z,its,r,o,e,c,d⟩:=h.ok I.hok
  exact ⟨⟨o,e,c.1⟩,fun b eb=>by cases eb;exact ⟨o,e,c.2⟩⟩
 ·exact ⟨⟨o,I.kIn a o hk,hc.1⟩,fun b eb=>by cases eb;exact ⟨o,I.kIn _ o hk,hc.2⟩⟩
theorem zD5 {e:Expr}{es:List Expr}{to:TE}{t:TA}{name:Str}{id:String}{r:V->List V->Hp->VK->Prop}(pa:PlainAttrs "tuple") (slot:Slot "tuple" name id) (hty:typeOf (.builtin id)=pure (.type "method_descriptor")) (hm:MtR X id r) (ho:PE X o to) (ha:PA X (e :: es) t)
 (hbase:attributeBase o name X.env (eval o X.env)=eval o X.env:=by rfl)
 (hfew:((backTo cpos (starEach (e :: es) X.env)).all (fun x=>!x.1) && (backToKw cpos (keywordEach [] X.env)).all (fun x=>x.1.isSome)
  && decide ((e :: es).length+([]:List Keyword).length+(if ([]:List Keyword).isEmpty then 0 else 1)<30))=true:=by rfl)
 (hline:(apos.endLine == cpos.line)=true:=by rfl) (hs:starEach (e :: es) X.env=(false,eval e X.env) :: starEach es X.env:=by rfl) (hplain:(backTo cpos (starEach es X.env)).any (·.1)=false:=by rfl) :
 PE X (.Call (.Attribute o name apos) (e :: es) [] cpos) (tBMT X.K r to t):=by
 intro pins s σ H Q I h
 refine wpAny_Call_method_late hbase hfew hline rfl (thn (ho pins s σ H _ I h) fun v s1 ⟨x,H1,I1,r1,ty,q1⟩=>?_)
 obtain ⟨a,xs,rfl,hq⟩:=ty
 cases r1
 obtain ⟨h1,h2⟩:=tup_is I1 hq
 refine ⟨"tuple",id,pa,slot,hty,h1,h2,?_⟩
 have hA:=ha cpos pins s1 σ H1 _ I1 q1
 rw [hs] at hA ⊢
 refine Calls.callWith_builtin (by show (false || (backTo cpos (starEach es X.env)).any (·.1))=false;rw [hplain]<;>rfl) (Calls.evalArgs_plain ?_)
 exact thn hA fun us s2 ⟨vs,H2,I2,r2,q2⟩=>hm pins s2 σ H2 (.ref a) vs (.ref a) us Q I2 rfl r2 q2
theorem z1S (ho:SE X EX o mo) (ha:SE X EX a ma)
 (hbase:attributeBase o "index" X.env (eval o X.env)=eval o X.env:=by rfl)
 (hfew:((backTo cpos (starEach [a] X.env)).all (fun x=>!x.1) && (backToKw cpos (keywordEach [] X.env)).all (fun x=>x.1.isSome)
  && decide (([a]:List Expr).length+([]:List Keyword).length+(if ([]:List Keyword).isEmpty then 0 else 1)<30))=true:=by rfl)
 (hline:(apos.endLine == cpos.line)=true:=by rfl) (hs:starEach [a] X.env=[(false,eval a X.env)]:=by rfl) :
 SE X EX (.Call (.Attribute o "index" apos) [a] [] cpos) (z1L mo ma) :=
 ⟨PE.imp (zD5 PySem.F.plainAttrs_tuple PySem.F.slot_tuple_index PySem.F.type_tuple_index z8u ho.h (z0q ha.h z1P hs) hbase hfew hline hs rfl) fun σ H Q ⟨ρ,γ,h,rel,fin⟩=>⟨ρ,γ,h,rel,(Fin.bind fin).mono fun x ρ1 h1 H1 p1 e1 r1 f1 v rv=>by
  cases x<;>first | exact (show False from f1).elim | skip
  rename_i xs
  simp only [RD] at rv
  obtain ⟨q,vs,rfl,h2,h3⟩:=rv
  exact ⟨⟨q,vs,rfl,h2⟩,ρ1,γ,h1,⟨rel.g.mono p1 e1,r1⟩,(Fin.bind f1).mono fun y ρ2 h4 H2 p2 e2 r2 f2 u ru=>by
   obtain ⟨ns,k,rfl,rfl,hb,hk,q⟩:=z8j r2 (h3.mono p2 e2) ru f2
   exact ⟨_,ns,k,rfl,rfl,e2.t _ _ h2,hk,q⟩⟩⟩⟩
theorem z7v (hc:X.calm=true):z1Q X (.builtin "max") (fun xs H Q=>∃ (a:Addr) (ns:List Int),xs=[.ref a]/\SqT X.K H a (ns.map V.int)/\0<ns.length/\Q (.int (maxI ns)) H):=by
 intro pins s σ H xs us Q I rv h
 obtain ⟨a,ns,rfl,hq,hn,q⟩:=h
 obtain ⟨u,rfl,ru⟩:=vals1 rv
 cases ru
 obtain ⟨its,r,pl,hz⟩:=I.tuple hq
 have pT:s.heap.IsTuple a its.toArray:=pl
 have hi:=intsAre_of r
 have hlen:=hi.length
 have lt:a<s.heap.objs.size:=by obtain ⟨o,e,_⟩:=pl;exact Heap.lt_size e
 refine call_max_walk (wpAny_pyIter_tuple pT ?_)
 refine ⟨s.heap.objs.size,[s.heap.objs.size,a],[s.heap.objs.size],its.toArray.size,_,_,fun i j=>decide (ns.getD i 0 > ns.getD j 0),rfl,Walks.tuple (A:=X.A.in1) (I.ok.hd hc) s.heap.objs.size a (Nat.ne_of_lt lt) its.toArray,⟨⟨_,Heap.get?_push_size _ rfl,rfl,rfl⟩,pT.push _⟩,fun b hb=>?_,by simpa [hlen] using hn,CmpOf.ints_gt (fun i=>ns.getD i 0) fun i v hv=>?_,fun v h' tk hP hk=>?_⟩
 ·show b<(s.heap.push _).objs.size
  rw [Heap.size_push]
  simp at hb
  rcases hb with rfl | rfl
  ·exact Nat.lt_succ_self _
  ·exact Nat.lt_succ_of_lt lt
 ·have hv':its[i]?=some v:=by simpa using hv
  obtain ⟨h1,e1⟩:=List.getElem?_eq_some_iff.mp hv'
  obtain ⟨t,e2⟩:=z3T hi i h1 (by omega)
  refine ⟨t,?_⟩
  rw [List.getD_eq_getElem?_getD,List.getElem?_eq_getElem (by omega),Option.getD_some,← e2,e1]
 ·have hP':its[argBest (fun i j=>decide (ns.getD i 0 > ns.getD j 0)) (its.toArray.size - 1)]?=some v:=by simpa using hP
  rw [List.size_toArray,hlen] at hP'
  obtain ⟨h1,e1⟩:=List.getElem?_eq_some_iff.mp hP'
  obtain ⟨t,e2⟩:=z3T hi _ h1 (by omega)
  refine ⟨.int (maxI ns),H,I.kept (t':=tk) fun c o e=>hk c o (fun z=>?_) (Heap.get?_push_of_some _ e),⟨t,?_⟩,q⟩
  ·have:c=s.heap.objs.size:=by simpa using z
   subst this
   exact absurd (Heap.lt_size e) (Nat.lt_irrefl _)
  ·rw [← e1,e2]
   congr 1
   unfold maxI
   rw [List.getD_eq_getElem?_getD,List.getElem?_eq_getElem (by omega),Option.getD_some]
def z3m:List D->M D
 | [.tup xs]=>match z2q xs with
  | some ns=>if 0<ns.length then pure (.int (maxI ns)) else bad
  | none=>bad
 | _=>bad
theorem zi8:AR X.K EX (fun xs H Q=>∃ (a:Addr) (ns:List Int),xs=[.ref a]/\SqT X.K H a (ns.map V.int)/\0<ns.length/\Q (.int (maxI ns)) H) z3m:=by
 intro ρ h H ds vs Q r rd fin
 unfold z3m at fin
 split at fin
 ·rename_i xs
  obtain ⟨v,rfl,rv⟩:=rds1 rd
  simp only [RD] at rv
  obtain ⟨q,ws,rfl,h2,h3⟩:=rv
  cases e:z2q xs with
  | none=>rw [e] at fin;exact fin.elim
  | some ns =>
   rw [e] at fin
   dsimp only at fin
   split at fin
   ·have:=z32 e h3
    subst this
    exact ⟨q,ns,rfl,h2,‹_›,FE.here fin r (by simp [RD])⟩
   ·exact fin.elim
 ·exact fin.elim
theorem z9g (hc:X.calm=true) (hg:Gl X "max") (hm:X.mg "max" = none) (ha:SA X EX [a] mr) (he:starEach [a] X.env=[(false,eval a X.env)]:=by rfl):SE X EX (.Call (.Name "max" p) [a] [] pos) (Z9 z3m mr) :=
 z1f (z0J (z7v hc) hg hm (by decide +kernel) ha.h (by decide) (by decide) he rfl) zi8
end
end FT
set_option maxHeartbeats 2000000
namespace FT
open PySem PySem.Spec PyProof.Rows L2
theorem z21 {h:AH}{o:O}:(h++[o])[h.length]?=some o:=by simp
theorem ze7 {h:AH}{o o':O}:(h++[o]).set h.length o'=h++[o']:=by simp
theorem zp5 {h:AH}{i:Nat}{S:List Nat}(hl:S.length<64) (e:h[i]?=some (.lst (stD S))):z1i [.ref i] h=.ok (.ref h.length) (h++[.lst (stD (z18 S))]):=by
 have fs:z1i [.ref i]=(do
  let xs ← getL i
  if xs.length<64 then (match z2R xs with
   | some ss=>newL ((z1j ss).map .str)
   | none=>(match z2q xs with
    | some ns=>newL ((sortI ns).map .int)
    | none=>bad)) else bad):=rfl
 have g:getL i h=.ok (stD S) h:=by unfold getL;rw [e]
 cases S with
 | nil =>
  rw [fs,M.bind_ok g,if_pos (by rw [y8];exact hl)]
  have e1:z2R (stD [])=some []:=rfl
  have e2:(z1j []).map D.str=stD (z18 []):=by
   have a:z1j []=[]:=List.length_eq_zero_iff.mp (by rw [z36];rfl)
   have b:z18 []=[]:=List.length_eq_zero_iff.mp (by rw [z0K];rfl)
   rw [a,b];rfl
  rw [e1]
  dsimp only
  rw [e2]
  unfold newL
  rw [if_pos (by rw [y8,z0K];unfold sizeLine;simp)]
 | cons a S =>
  have sn:z2R (stD (a :: S))=none:=rfl
  rw [fs,M.bind_ok g,if_pos (by rw [y8];exact hl),sn,z2f]
  dsimp only
  rw [z3f]
  unfold newL
  rw [if_pos (by rw [y8,z0K];unfold sizeLine;omega)]
theorem zN_mem {l:List Nat}{x:Nat}:(x:Int)∈zN l↔x∈l:=by
 unfold zN
 constructor
 ·intro h
  obtain ⟨i,hi,e⟩:=List.mem_map.mp h
  have:i=x:=by omega
  exact this ▸ hi
 ·exact fun h=>List.mem_map.mpr ⟨x,h,rfl⟩
theorem zs8 (l:List Nat) (x:Nat):(zN l).idxOf (x:Int)=l.idxOf x:=by
 induction l with
 | nil=>rfl
 | cons a l ih =>
  show ((a:Int) :: zN l).idxOf (x:Int)=_
  rw [List.idxOf_cons,List.idxOf_cons,ih]
  by_cases e:a=x
  ·subst e;simp
  ·have h1:((a:Int) == (x:Int))=false:=by
    rw [beq_eq_false_iff_ne];omega
   have h2:(a == x)=false:=by rw [beq_eq_false_iff_ne];exact e
   rw [h1,h2]
theorem zc7 {l:List Nat}{x:Nat}(hx:x∈l) (hl:l.length≤100000):ixI (stD l) (.int x)=pure (.int (l.idxOf x:Nat)):=by
 unfold ixI
 rw [z2f]
 dsimp only
 rw [if_pos ⟨by unfold zN;simpa using hl,zN_mem.mpr hx⟩,zs8]
section
variable {mo ma:G->M D}{γ:G}{h:AH}{i x:Nat}{l:List Nat}
theorem ze6 {mt:G->M D}(eo:mo γ h=.ok (.ref i) h) (e:h[i]?=some (.lst (stD l))) (ea:ma γ h=.ok (.int x) h) (hx:x∈l) (hl:l.length≤100000):orE (eM1 z10 mo ma) mt γ h=.ok (.int (l.idxOf x:Nat)) h:=by
 refine or_l ?_
 show (mo γ >>= fun o=>z2u o >>= fun n=>ma γ >>= fun y=>z10 n y) h=_
 rw [M.bind_ok eo,M.bind_ok (z8e e),M.bind_ok ea]
 have g:getL i h=.ok (stD l) h:=by unfold getL;rw [e]
 unfold z10
 rw [M.bind_ok g,zc7 hx hl]
 rfl
theorem z8G (eo:mo γ=pure (.tup (stD l))) (ea:ma γ=pure (.int x)) (hx:x∈l) (hl:l.length≤100000):orE (eM1 z10 mo ma) (z1L mo ma) γ=pure (.int (l.idxOf x:Nat)):=by
 rw [or_b]
 ·unfold z1L
  rw [eo,Y9]
  dsimp only
  rw [ea,Y9,zc7 hx hl]
 ·show (mo γ >>= fun o=>z2u o >>= fun n=>ma γ >>= fun y=>z10 n y)=_
  rw [eo,Y9]
  rfl
end
section
variable {me ma:G->M D}{kb:G->M Bool}{γ:G}{h h1:AH}{a i:Nat}{b:Bool}{xs:List D}
theorem cv_h (e:me γ h=.ok (.bl b) h1):cVal me γ h=.ok b h1:=by
 unfold cVal
 rw [M.bind_ok e]
 rfl
theorem cn_h (e:kb γ h=.ok b h1):cNot kb γ h=.ok (!b) h1:=by
 unfold cNot
 rw [M.bind_ok e]
 rfl
theorem Z8 {d:D}(e:γ[a]?=some (some d)):eVar a γ h=.ok d h:=by unfold eVar;rw [e];rfl
theorem zF1 {bs:List Bool}(e:me γ h=.ok (.ref h.length) (h++[.lst (bs.map .bl)])):clE (Z9 (fAll false) (z8 me aNil)) γ h=.ok (.bl (bs.all id)) h :=
 z1d (j:=[.lst (bs.map .bl)]) (J4 e (by
  have g:getL h.length (h++[O.lst (bs.map .bl)])=.ok (bs.map .bl) (h++[O.lst (bs.map .bl)]):=by unfold getL;rw [z21]
  unfold fAll
  dsimp only
  rw [M.bind_ok g,z8C]
  rfl)) rfl
theorem z7M (e:me γ h=.ok (.ref i) h) (q:h[i]?=some (.lst xs)):z0Y me γ h=.ok (.lst i xs) h:=by
 have g:getL i h=.ok xs h:=by unfold getL;rw [q]
 unfold z0Y
 rw [M.bind_ok e]
 dsimp only
 rw [M.bind_ok g]
 rfl
theorem z56 (e:me γ h=.ok (.tup xs) h1):z0D me γ h=.ok (.con xs) h1:=by
 unfold z0D
 rw [M.bind_ok e]
 rfl
theorem z92 (e:me γ h=.ok (.ref i) h) (q:h[i]?=some (.lst xs)):orE (z0D me) (z0Y me) γ h=.ok (.lst i xs) h:=by
 rw [or_r]
 ·exact z7M e q
 ·unfold z0D
  rw [M.bind_ok e]
  rfl
theorem zh0 (e:me γ h=.ok (.tup xs) h1):orE (z0D me) (z0Y me) γ h=.ok (.con xs) h1:=or_l (z56 e)
theorem z0N {cap:List (Option Nat)}{mi:G->M Src}{g:D->G->M G}{src:Src}{l:List Nat}(p:Nat->Bool) (f:Nat->D) (hi:mi γ h=.ok src h) (hs:src.items=stD l) (hg:∀ j,src.good (h++j)) (hl:l.length≤1000000)
 (hd:∀ x∈l,∃ γ1,(∀ h,g (.int x) (capG cap γ) h=.ok γ1 h)/\(∀ j,kb γ1 (h++j)=.ok (p x) (h++j))/\(p x=true->∀ j,me γ1 (h++j)=.ok (f x) (h++j))):z0i cap mi g kb me γ h=.ok (.ref h.length) (h++[.lst ((l.filter p).map f)]):=by
 refine (z33 (src:=src) (fun d=>match d with | .int t=>p t.toNat | _=>false) (fun d=>match d with | .int t=>f t.toNat | _=>.non) hi hg (by rw [hs,y8];exact hl) fun d hd'=>?_).trans ?_
 ·rw [hs] at hd'
  obtain ⟨x,hx,rfl⟩:=List.mem_map.mp hd'
  exact hd x hx
 ·rw [hs]
  unfold stD
  rw [List.filter_map,List.map_map]
  rfl
end
theorem zp8 {n:Nat}{h:AH}(a b:List Str) (l m:List Nat):eqN (n+3) h (.tup [.tup (a.map .str),.tup (stD l)]) (.tup [.tup (b.map .str),.tup (stD m)])=some (decide (a=b) && decide (l=m)):=by
 have e1:eqN (n+2) h (.tup (a.map .str)) (.tup (b.map .str))=some (decide (a=b)):=z28 z5A a b
 have e2:eqN (n+2) h (.tup (stD l)) (.tup (stD m))=some (decide (l=m)):=z28 (enc:=fun (i:Nat)=>.int i) z2d l m
 show eqZ (eqN (n+2) h) _ _=_
 unfold eqZ
 rw [e1]
 unfold eqZ
 rw [e2]
 unfold eqZ
 simp
theorem zE9 {n:Nat}{h:AH}(s t:List (List Nat)) (a b:List (List Str)):eqN (n+4) h (maD s a) (maD t b)=some (decide (s=t) && decide (a=b)):=by
 have e1:eqN (n+3) h (.tup (stsD s)) (.tup (stsD t))=some (decide (s=t)):=z28 (enc:=fun r=>.tup (stD r)) (z28 (enc:=fun (i:Nat)=>.int i) z2d) s t
 have e2:eqN (n+3) h (.tup (mksD a)) (.tup (mksD b))=some (decide (a=b)):=z28 (enc:=fun (r:List Str)=>.tup (r.map .str)) (z28 z5A) a b
 show eqZ (eqN (n+3) h) _ _=_
 unfold eqZ
 rw [e1]
 unfold eqZ
 rw [e2]
 unfold eqZ
 simp
theorem zv4 {s t:List (List Nat)}{a b:List (List Str)}{neg:Bool}:fEqX neg (maD s a) (maD t b)=pure (.bl ((decide (s=t) && decide (a=b)) != neg)):=funext fun h=>z2H (zE9 s t a b)
theorem zz9 {n:Nat}(st:List (List Nat)) (mk:List (List Str)):J7 n (maD st mk)=true:=by
 unfold maD stsD mksD
 simp only [J7,Y0,Bool.and_true,Bool.and_eq_true]
 exact ⟨z03 fun a=>z69 a,z03 fun a=>by simp only [J7];exact z1l _⟩
theorem z5s (mk:List (List Str)):(mksD mk).length=mk.length:=by unfold mksD;simp
theorem z6k {ma mb:G->M D}{γ:G}{h h1 h2:AH}{x y:D}(e1:ma γ h=.ok x h1) (e2':mb γ h1=.ok y h2):eTup (z8 ma (z8 mb aNil)) γ h=.ok (.tup [x,y]) h2:=by
 have e3:z8 ma (z8 mb aNil) γ h=.ok [x,y] h2:=ac_h e1 (ac_h e2' rfl)
 unfold eTup
 rw [M.bind_ok e3]
 rfl
theorem zB5 {tup:Bool}{ma:G->M D}{γ:G}{n:Nat}(e:ma γ=pure (.int (n:Nat))) (hn:n≤1000000):eRng tup ma γ=if tup then pure (.tup (z0Z n)) else newL (z0Z n):=by
 unfold eRng
 rw [e,Y9]
 have l:n≤sizeLine:=Nat.le_trans hn (by decide)
 dsimp only
 rw [if_pos (by rw [Int.toNat_natCast,decide_eq_true l,decide_eq_true (show -(2 ^ 62)≤(n:Int) by omega),decide_eq_true (show (n:Int)<2 ^ 62 by omega)];rfl),Int.toNat_natCast]
theorem zD0 {m:M D}{h:AH}{Q:D->AH->Prop}(z:W m h fun d h1=>J7 h.length d=false/\(∀ i,d≠.ref i)/\Q d h1):W (cln m) h Q:=by
 obtain ⟨d,h1,e,nd,nr,q⟩:=z
 refine ⟨d,h1,?_,q⟩
 unfold cln
 rw [e]
 dsimp only
 split
 ·rw [if_neg (by rw [nd];decide)]
  cases d<;>first | rfl | exact (nr _ rfl).elim
 ·rfl
theorem zs0 {t n:Nat}(h:t<n):seqIndex? (t:Int) n=some t:=by
 unfold seqIndex?
 rw [if_neg (show ¬ (t:Int)<0 by omega)]
 simp [h]
theorem zx8 {f:List D->Option (D×List D)}{n:Nat}{h:AH}{xs ys:List D}{d:D}(e:h[n]?=some (.lst xs)) (ef:f xs=some (d,ys)) (l:ys.length≤sizeLine):updL n f h=.ok d (h.set n (.lst ys)):=by
 unfold updL
 rw [e]
 dsimp only
 rw [ef]
 dsimp only
 rw [if_pos l]
theorem zl2 {h:AH}{i t:Nat}{xs:List D}{v:D}(e:h[i]?=some (.lst xs)) (hv:xs[t]?=some v) (hl:xs.length≤1000000):z2s i (.int (t:Nat)) h=.ok v (h.set i (.lst (xs.eraseIdx t))):=by
 have ht:t<xs.length:=(List.getElem?_eq_some_iff.mp hv).1
 have l:(xs.eraseIdx t).length≤sizeLine:=Nat.le_trans (List.length_eraseIdx_le _ _) (Nat.le_trans hl (by decide))
 unfold z2s
 refine zx8 e ?_ l
 have:seqIndex? (t:Int) xs.length=some t:=zs0 ht
 split
 ·rw [this]
  dsimp only
  rw [hv,Option.map_some]
 ·rename_i c
  exact absurd ⟨by omega,by omega⟩ c
theorem z6p:∀ (l:List Nat) (t:Nat),(stD l).eraseIdx t=stD (l.eraseIdx t)
 | [],t=>rfl
 | a :: l,0=>rfl
 | a :: l,t+1=>by
  show D.int a :: (stD l).eraseIdx t=D.int a :: stD (l.eraseIdx t)
  rw [z6p l t]
theorem zc5 {l:List Nat}{t:Nat}(h:t<l.length):(l.eraseIdx t++[l[t]]).Perm l:=by
 have e:l=l.take t++l[t] :: l.drop (t+1):=by
  rw [List.getElem_cons_drop,List.take_append_drop]
 rw [List.eraseIdx_eq_take_drop_succ]
 refine List.Perm.trans ?_ (List.Perm.of_eq e.symm)
 refine (List.perm_append_singleton _ _).trans ?_
 exact List.perm_middle.symm
theorem zq5 {x:D}{l:List Nat}{h:AH}(e:seqD x h=.ok (stD l) h) (hl:l.length≤2000):z15 [x] h=.ok (.ref h.length) (h++[.set (kN (dedN l))]):=by
 unfold z15
 dsimp only
 rw [M.bind_ok e,z5G]
 dsimp only
 rw [if_pos (by rw [zf6];omega),zf3]
 rfl
theorem z7o {l:List Nat}{h:AH}{i:Nat}(e:h[i]?=some (.set (kN l))) (hl:l.length<64):v7 [.ref i] h=.ok (.ref h.length) (h++[.lst (stD (z18 l))]):=by
 unfold v7
 dsimp only
 have g:getS i h=.ok (kN l) h:=by unfold getS;rw [e]
 rw [M.bind_ok g,z5I]
 dsimp only
 rw [if_pos (by unfold zN;rw [List.length_map];omega),z3f]
 unfold newL
 rw [if_pos (by rw [y8,z0K];unfold sizeLine;omega)]
theorem zt3 {ma:G->M D}{g:D->G->M G}{mt:G->M Out}{γ:G}{h:AH}{Q:Out->AH->Prop}(J:D->AH->Prop) (z:W (ma γ) h J) (f:∀ d h1,J d h1->∃ γ',g d γ=pure γ'/\W (mt γ') h1 Q):W (Z1 (sAsg ma g) mt γ) h Q:=by
 rw [w_cons]
 unfold sAsg
 rw [Z6]
 refine z.mono fun d h1 q=>?_
 obtain ⟨γ',e,w⟩:=f d h1 q
 rw [e,Y9,W_pure]
 exact w
def rowAt (row:List Nat) (o:Nat):Nat:=(row[o]?).getD 0
def mkAt (mk:List (List Str)) (i:Nat):List Str:=(mk[i]?).getD []
theorem z6B:∀ {l:List Nat}{i x:Nat},l[i]?=some x->l.idxOf x≤i
 | [],i,x,h=>by simp at h
 | a :: l,0,x,h=>by simp at h;subst h;simp [List.idxOf_cons]
 | a :: l,i+1,x,h=>by
  have:=z6B (l:=l) (i:=i) (x:=x) (by simpa using h)
  rw [List.idxOf_cons]
  cases (a == x)<;>simp<;>omega
theorem zq4 {l:List Nat}{x:Nat}(h:x∈l):l[l.idxOf x]?=some x:=by
 have:=List.idxOf_lt_length_iff.mpr h
 rw [List.getElem?_eq_getElem this,List.getElem_idxOf this]
theorem z0r {l:List Nat}{x:Nat}(h:x∈l):rowAt l (l.idxOf x)=x:=by unfold rowAt;rw [zq4 h];rfl
theorem z0j {l:List Nat}{i:Nat}(h:i<l.length):l[i]?=some (rowAt l i):=by unfold rowAt;rw [List.getElem?_eq_getElem h];rfl
theorem z08 {l:List Nat}{i:Nat}(h:i<l.length):rowAt l i∈l:=List.mem_of_getElem? (z0j h)
theorem z2V {l:List Nat}{i x:Nat}(h:l[i]?=some x):rowAt l i=x:=by unfold rowAt;rw [h];rfl
theorem z34 {l:List Nat}{f:Nat->Nat}{i:Nat}(h:i<l.length):rowAt (l.map f) i=f (rowAt l i):=z2V (by rw [List.getElem?_map,z0j h];rfl)
theorem z8o {l:List Nat}{i j:Nat}(nd:l.Nodup) (h:i<l.length) (h2:j<l.length) (e:rowAt l i=rowAt l j):i=j:=by
 unfold rowAt at e
 rw [List.getElem?_eq_getElem h,List.getElem?_eq_getElem h2] at e
 exact (List.getElem_inj nd).mp e
theorem ze1 {l:List Nat}{i:Nat}(nd:l.Nodup) (h:i<l.length):l.idxOf (rowAt l i)=i:=by
 have m:=z08 h
 exact z8o nd (List.idxOf_lt_length_iff.mpr m) h (z0r m)
theorem ze3 {l:List (List Nat)}{i:Nat}(h:i<l.length):l[i]?=some (nx l i):=by unfold nx;rw [List.getElem?_eq_getElem h];rfl
def Canon (row:List Nat):Prop:=∀ i v,row[i]?=some v->∀ u,u<v->u∈row.take i
def led (st:List (List Nat)) (row:List Nat) (x:Nat):List Nat:=setN ((nx st x).map (rowAt row))
structure Steady (st:List (List Nat)) (mk:List (List Str)) (row:List Nat):Prop where
 len:row.length=st.length
 can:Canon row
 like:∀ i,i<row.length->mkAt mk i=mkAt mk (row.idxOf (rowAt row i))/\led st row i=led st row (row.idxOf (rowAt row i))
def qst (n:Nat) (st:List (List Nat)) (row:List Nat):List (List Nat):=(List.range n).map fun h=>led st row (row.idxOf h)
def qmk (n:Nat) (mk:List (List Str)) (row:List Nat):List (List Str):=(List.range n).map fun h=>mkAt mk (row.idxOf h)
theorem z98 {row:List Nat}{n:Nat}(hn:1≤n) (h:∀ u,u∈row↔u<n):maxI (zN row)=((n - 1:Nat):Int):=by
 have m1:n - 1∈row:=(h _).mpr (by omega)
 have l0:0<(zN row).length:=List.length_pos_of_mem (zN_mem.mpr m1)
 have a:=zg9 (zN_mem.mpr m1)
 have b:=za0 l0
 unfold zN at b
 obtain ⟨u,hu,e⟩:=List.mem_map.mp b
 have:=(h u).mp hu
 unfold zN at a
 unfold zN
 omega
theorem zt4 {st:List (List Nat)}{row:List Nat}{x n:Nat}(q:∀ o∈nx st x,o<row.length) (h:∀ u,u∈row↔u<n):∀ u∈led st row x,u<n:=by
 intro u hu
 unfold led at hu
 rw [setN_mem] at hu
 obtain ⟨o,ho,rfl⟩:=List.mem_map.mp hu
 exact (h _).mp (z08 (q o ho))
structure Cop (bst:List (List Nat)) (bmk:List (List Str)) (st:List (List Nat)) (mk:List (List Str)) (raw:List Nat):Prop where
 l:st.length=raw.length
 kd:∀ x,x∈raw↔x<bst.length
 rise:∀ i,i<raw.length->(nx st i).Pairwise (·<·)
 lt:∀ i,i<raw.length->∀ o∈nx st i,o<raw.length
 st:∀ i,i<raw.length->∀ t,t∈(nx st i).map (rowAt raw)↔t∈nx bst (rowAt raw i)
 ml:mk=raw.map (mkAt bmk)
def rowOf (raw:List Nat):List Nat:=raw.map fun x=>raw.idxOf x
def ordL (raw:List Nat):List Nat:=setN (rowOf raw)
def x5 (raw:List Nat):List Nat:=(rowOf raw).map fun p=>(ordL raw).idxOf p
def z1I (raw:List Nat):List Nat:=(ordL raw).map (rowAt raw)
section
variable {raw:List Nat}
theorem z5q:(rowOf raw).length=raw.length:=by unfold rowOf;simp
theorem zC7:∀ x∈rowOf raw,x<raw.length:=by
 intro x hx
 unfold rowOf at hx
 obtain ⟨y,hy,rfl⟩:=List.mem_map.mp hx
 exact List.idxOf_lt_length_iff.mpr hy
theorem ord_mem {p:Nat}:p∈ordL raw↔∃ x∈raw,raw.idxOf x=p:=by unfold ordL rowOf;rw [setN_mem,List.mem_map]
theorem zf5:(ordL raw).Nodup:=z2A (z0z _)
theorem z3S {p:Nat}(h:p∈ordL raw):p<raw.length/\raw.idxOf (rowAt raw p)=p:=by
 obtain ⟨x,hx,rfl⟩:=ord_mem.mp h
 exact ⟨List.idxOf_lt_length_iff.mpr hx,by rw [z0r hx]⟩
theorem zo7:(ordL raw).length≤raw.length:=z6L zC7
theorem z0w:(x5 raw).length=raw.length:=by unfold x5;rw [List.length_map,z5q]
theorem zn9 {i:Nat}(h:i<raw.length):rowAt (rowOf raw) i=raw.idxOf (rowAt raw i):=z34 h
theorem ze4 {i:Nat}(h:i<raw.length):raw.idxOf (rowAt raw i)∈ordL raw:=ord_mem.mpr ⟨_,z08 h,rfl⟩
theorem z46 {i:Nat}(h:i<raw.length):rowAt (x5 raw) i=(ordL raw).idxOf (raw.idxOf (rowAt raw i)):=by
 unfold x5
 rw [z34 (by rw [z5q];exact h),zn9 h]
theorem z2Z {i:Nat}(h:i<raw.length):rowAt (x5 raw) i<(ordL raw).length:=by
 rw [z46 h]
 exact List.idxOf_lt_length_iff.mpr (ze4 h)
theorem z2m {i:Nat}(h:i<raw.length):rowAt (ordL raw) (rowAt (x5 raw) i)=raw.idxOf (rowAt raw i):=by
 rw [z46 h,z0r (ze4 h)]
theorem z9d {h:Nat}(hh:h<(ordL raw).length):rowAt (ordL raw) h<raw.length:=(z3S (z08 hh)).1
theorem z3n {h:Nat}(hh:h<(ordL raw).length):rowAt (x5 raw) (rowAt (ordL raw) h)=h:=by
 obtain ⟨a,b⟩:=z3S (z08 hh)
 rw [z46 a,b,ze1 zf5 hh]
theorem z7J {h:Nat}(hh:h<(ordL raw).length):(x5 raw).idxOf h=rowAt (ordL raw) h:=by
 have l:=z9d hh
 have e1:(x5 raw)[rowAt (ordL raw) h]?=some h:=by rw [z0j (by rw [z0w];exact l),z3n hh]
 have le:=z6B e1
 have m:h∈x5 raw:=List.mem_of_getElem? e1
 have il:(x5 raw).idxOf h<raw.length:=by have:=List.idxOf_lt_length_iff.mpr m;rwa [z0w] at this
 have e2:=z2m il
 rw [z0r m] at e2
 have:=z6B (z0j il)
 omega
theorem z8B {u:Nat}:u∈x5 raw↔u<(ordL raw).length:=by
 constructor
 ·intro h
  have hi:=List.idxOf_lt_length_iff.mpr h
  rw [z0w] at hi
  have:=z2Z hi
  rwa [z0r h] at this
 ·intro h
  have l:=z9d h
  have:=z08 (l:=x5 raw) (i:=rowAt (ordL raw) u) (by rw [z0w];exact l)
  rwa [z3n h] at this
theorem z8z:Canon (x5 raw):=by
 intro i v hv u hu
 have hi:i<raw.length:=by have:=(List.getElem?_eq_some_iff.mp hv).1;rwa [z0w] at this
 have ev:=z2V hv
 have vl:v<(ordL raw).length:=by rw [← ev];exact z2Z hi
 have ul:u<(ordL raw).length:=by omega
 have e1:rowAt (ordL raw) v=raw.idxOf (rowAt raw i):=by rw [← ev];exact z2m hi
 have e2:raw.idxOf (rowAt raw i)≤i:=z6B (z0j hi)
 have e3:rowAt (ordL raw) u<rowAt (ordL raw) v:=by
  have:=List.pairwise_iff_getElem.mp (z0z (rowOf raw)) u v ul vl hu
  unfold rowAt
  rw [List.getElem?_eq_getElem ul,List.getElem?_eq_getElem vl]
  exact this
 have e4:(x5 raw)[rowAt (ordL raw) u]?=some u:=by rw [z0j (by rw [z0w];exact z9d ul),z3n ul]
 refine List.mem_of_getElem? (i:=rowAt (ordL raw) u) ?_
 rw [List.getElem?_take,if_pos (by omega),e4]
theorem places_len:(z1I raw).length=(ordL raw).length:=by unfold z1I;simp
theorem z7r {h:Nat}(hh:h<(ordL raw).length):rowAt (z1I raw) h=rowAt raw (rowAt (ordL raw) h):=z34 hh
theorem z82:(z1I raw).Nodup:=by
 unfold z1I
 rw [List.nodup_iff_pairwise_ne,List.pairwise_map]
 refine List.Pairwise.imp_of_mem ?_ (zf5 (raw:=raw))
 intro a b ha hb hne e
 have:=(z3S ha).2
 rw [e,(z3S hb).2] at this
 exact hne this.symm
theorem z2P {i:Nat}(h:i<raw.length):rowAt (x5 raw) i=(z1I raw).idxOf (rowAt raw i):=by
 have hl:=z2Z h
 have e:rowAt (z1I raw) (rowAt (x5 raw) i)=rowAt raw i:=by
  rw [z7r hl,z2m h,z0r (z08 h)]
 rw [← e,ze1 z82 (by rw [places_len];exact hl)]
end
section
variable {bst st:List (List Nat)}{bmk mk:List (List Str)}{raw:List Nat}
theorem z8O (c:Cop bst bmk st mk raw) {i:Nat}(h:i<raw.length):led st (x5 raw) i=setN ((nx bst (rowAt raw i)).map fun t=>(z1I raw).idxOf t):=by
 unfold led
 refine zb3 fun x=>?_
 rw [List.mem_map,List.mem_map]
 constructor
 ·rintro ⟨o,ho,rfl⟩
  exact ⟨rowAt raw o,(c.st i h _).mp (List.mem_map.mpr ⟨o,ho,rfl⟩),(z2P (c.lt i h o ho)).symm⟩
 ·rintro ⟨t,ht,rfl⟩
  obtain ⟨o,ho,rfl⟩:=List.mem_map.mp ((c.st i h t).mpr ht)
  exact ⟨o,ho,z2P (c.lt i h o ho)⟩
theorem zf4 (c:Cop bst bmk st mk raw) {i:Nat}(h:i<raw.length):mkAt mk i=mkAt bmk (rowAt raw i):=by
 rw [c.ml]
 unfold mkAt
 rw [List.getElem?_map,z0j h]
 rfl
theorem z7b (c:Cop bst bmk st mk raw):Steady st mk (x5 raw):=⟨by rw [z0w,c.l],z8z,fun i hi=>by
 rw [z0w] at hi
 have e:(x5 raw).idxOf (rowAt (x5 raw) i)=raw.idxOf (rowAt raw i):=by rw [z7J (z2Z hi),z2m hi]
 have m:=z08 hi
 have l:raw.idxOf (rowAt raw i)<raw.length:=List.idxOf_lt_length_iff.mpr m
 rw [e,zf4 c hi,zf4 c l,z8O c hi,z8O c l,z0r m]
 exact ⟨rfl,rfl⟩⟩
end
section
variable {X:Cx}{EX:XX}{e:Expr}{es:List Expr}{te:TE}{t:TA}{p pos:Pos}{ma:G->M D}{mr:G->M (List D)}
def noM (mf:List D->M D):List D->M D:=fun ds h=>match mf ds h with
 | .ok a h1=>.ok a h1
 | _=>.bad
theorem zH4 {P:Program}{w:World}{base:Heap}:z6o (CXE P w base) X E0:=fun _ _ _ _ _ _ _ ⟨_,_,_,_,_,_,_,_,_,_,_,_,_,_,z⟩=>z.elim
theorem z3W {k n:Nat}{x:Str}{mf:List D->M D}{a:Expr}(F:FnX X.prog X.w X.K X.mg X.base k x n mf) (hr:Room k X.A) (hg:Gl X x) (ha:SA X EX0 (a :: es) mr) (hdb:(x == ("__debug__":Str))=false:=by decide)
 (he:starEach (a :: es) X.env=(false,eval a X.env) :: starEach es X.env:=by rfl) (hpl:(backTo pos (starEach es X.env)).any (·.1)=false:=by rfl):SE X EX0 (.Call (.Name x p) (a :: es) [] pos) (eFn n (noM mf) mr):=by
 constructor
 obtain ⟨f,fd,ps,h1,h2,h3,h4⟩:=F.ex
 refine PE.imp (z8g h1 hr hg h4 h3 h2 .nil zH4 ha.h hdb he hpl) fun σ H Q ⟨ρ,γ,h,rel,fin⟩=>⟨ρ,γ,h,rel,(Fin.bind fin).mono fun xs ρ1 h1 H1 p1 e1 r1 f1 vs rvs=>?_⟩
 show spX X.K mf n (vs++[]) H1 Q E0
 rw [List.append_nil]
 by_cases hl:xs.length=n
 ·rw [if_pos hl] at f1
  refine ⟨by rw [← rvs.length];exact hl,ρ1,xs,h1,r1,rvs,?_⟩
  unfold noM at f1
  cases e:mf xs h1 with
  | ok a h2=>rw [e] at f1;exact f1
  | err z h2=>rw [e] at f1;exact (show False from f1).elim
  | bad=>rw [e] at f1;exact (show False from f1).elim
 ·rw [if_neg hl] at f1;exact (show False from f1).elim
end
end FT
namespace L2
open PySem PySem.Spec PyProof.Rows
section
variable {X:Cx}{tg:Expr}
end
end L2
namespace FT
open PySem PySem.Spec PyProof.Rows L2
section
variable {X:Cx}{EX:XX}{a b c tg:Expr}{p p2 pos pos2:Pos}{ma mb mc:G->M D}
end
end FT
namespace L2
open PySem PySem.Spec PyProof.Rows
section
variable {X:Cx}
end
end L2
namespace FT
open PySem PySem.Spec PyProof.Rows L2
section
variable {X:Cx}{EX:XX}{a b:Expr}{p p2 pos pos2:Pos}{ma mb:G->M D}
end
section
variable {X:Cx}{EX:XX}
end
end FT
namespace L2
open PySem PySem.Spec PyProof.Rows
section
variable {X:Cx}{elt tg iter tg1 iter1:Expr}{ifs1:List Expr}{sc:Scope}{pos:Pos}{N':List Str}{cap:List (Option Nat)}{g g1:TG}{wi1:TI}{ti:TT}{te:TE}
end
end L2
namespace FT
open PySem PySem.Spec PyProof.Rows L2
section
variable {X:Cx}{EX:XX}{elt tg iter tg1 iter1:Expr}{ifs1:List Expr}{sc:Scope}{pos:Pos}{N':List Str}{cap:List (Option Nat)}{own own1:List Nat}{mi mi1:G->M Src}{g g1:D->G->M G}{k:G->M Bool}{me:G->M D}
end
def cnt (st:List (List Nat)):Nat->Nat->Nat
 | 0,_=>1
 | n+1,x=>((nx st x).map (cnt st n)).sum
def zI9 (w:List Nat):Nat:=w.getLast?.getD 0
def ext (st:List (List Nat)) (left:Nat) (w:List Nat):List (List Nat):=((nx st (zI9 w)).filter fun y=>decide (0<cnt st left y)).map fun y=>w++[y]
section
variable {st:List (List Nat)}
end
end FT
namespace L2
open PySem PySem.Spec PyProof.Rows
open PySem.AutoSeq1 (wpAny_loadPart')
section
variable {P:Program}{w:World}{A:Around}{E:Value->Shared->Prop}{s:Shared}{I t:Addr}
end
section
variable {X:Cx}{tg:Expr}
end
end L2
namespace FT
open PySem PySem.Spec PyProof.Rows L2
section
variable {X:Cx}{EX:XX}{a tg:Expr}{p pos:Pos}{ma:G->M D}
end
end FT
namespace L2
open PySem PySem.Spec PyProof.Rows
open PySem.AutoSeq1 (wpAny_loadPart')
section
variable {X:Cx}
end
end L2
namespace FT
open PySem PySem.Spec PyProof.Rows L2
section
variable {X:Cx}{EX:XX}{a o:Expr}{cpos apos:Pos}{ma mo:G->M D}
end
theorem zI7 {α:Type}{m:G->M α}{γ:G}{h:AH}{Q:α->AH->Prop}(z:W (m γ) h Q):W (noE m γ) h Q:=by
 obtain ⟨a,h1,e,q⟩:=z
 exact ⟨a,h1,by unfold noE;rw [e],q⟩
theorem zC0 {ms mt:G->M Out}{γ:G}{h:AH}{Q:Out->AH->Prop}(z:W (Z1 ms mt γ) h Q):W (Z1 (noE ms) mt γ) h Q:=by
 rw [w_cons] at z ⊢
 exact zI7 z
theorem zr3 {α:Type}{m:G->M α}{γ:G}{h h1:AH}{a:α}(e:m γ h=.ok a h1):noE m γ h=.ok a h1:=by unfold noE;rw [e]
section
variable {ka kb:G->M Bool}{γ:G}{h:AH}{r:Res Bool}
end
theorem zz8 {xs:List D}{h:AH}(hl:xs.length≤1000000):newL xs h=.ok (.ref h.length) (h++[.lst xs]):=by
 unfold newL
 rw [if_pos (Nat.le_trans hl (by decide))]
end FT
namespace L2
open PySem PySem.Spec PyProof.Rows
section
variable {X:Cx}{elt val tg iter:Expr}{ifs:List Expr}{sc:Scope}{pos:Pos}{N':List Str}{cap:List (Option Nat)}{g:TG}{ti:TT}{te tv:TE}
end
end L2
namespace FT
open PySem PySem.Spec PyProof.Rows L2
section
variable {X:Cx}{EX:XX}{elt val tg iter c:Expr}{ifs:List Expr}{sc:Scope}{pos:Pos}{N':List Str}{cap:List (Option Nat)}{own:List Nat}{mi:G->M Src}{g:D->G->M G}{k kr:G->M Bool}{me mv:G->M D}
end
end FT
namespace L2
open PySem PySem.Spec PyProof.Rows
section
variable {X:Cx}{tg:Expr}
end
end L2
namespace FT
open PySem PySem.Spec PyProof.Rows L2
section
variable {X:Cx}{EX:XX}{a tg:Expr}{ma:G->M D}
end
end FT
namespace L2
open PySem PySem.Spec PyProof.Rows
section
variable {X:Cx}{tg:Expr}
end
end L2
namespace FT
open PySem PySem.Spec PyProof.Rows L2
section
variable {X:Cx}{EX:XX}{a tg:Expr}{p pos:Pos}{ma:G->M D}
end
end FT
set_option maxHeartbeats 4000000
namespace FT
open PySem PySem.Spec PyProof.Rows L2
section
variable {P:Program}{w:World}{A:Around}{E:Value->Shared->Prop}{s:Shared}
end
section
variable {X:Cx}{EX:XX}{p pos:Pos}
end
end FT
set_option maxHeartbeats 2000000
namespace FT
open PySem PySem.Spec PyProof.Rows L2
section
variable {st:List (List Nat)}{x y z:Nat}
end
structure KS where
 seen:List Nat
 ord:List Nat
 wt:List (Nat×Bool)
section
variable {st:List (List Nat)}{V:List Nat}{s:KS}
end
section
variable {st:List (List Nat)}{V:List Nat}{s:KS}
end
section
variable {s1 s2:List (List Nat)}{V:List Nat}
end
section
variable {st:List (List Nat)}{V:List Nat}{s:KS}
end
section
variable {cap:List (Option Nat)}{mi:G->M Src}{g:D->G->M G}{kb:G->M Bool}{me mv:G->M D}{γ:G}
end
theorem sm0 {h:AH}{o o':O}{j:AH}:(h++o :: j).set h.length o'=h++o' :: j:=by rw [List.set_append_right _ _ (Nat.le_refl _),Nat.sub_self];rfl
end FT
namespace L2
open PySem PySem.Spec PyProof.Rows
section
variable {prog:Program}{w:World}{A:Around}{R:Result->Shared->Prop}{s:Shared}{elt val tg iter tg1 iter1:Expr}{ifs ifs1:List Expr}{scope:Scope}{pos:Pos}{it acc:Value}{D:Addr}{env:Env}
end
section
variable {X:Cx}{elt val tg iter tg1 iter1:Expr}{ifs1:List Expr}{sc:Scope}{pos:Pos}{N':List Str}{cap:List (Option Nat)}{g g1:TG}{wi1:TI}{ti:TT}{te tv:TE}
end
end L2
namespace FT
open PySem PySem.Spec PyProof.Rows L2
section
variable {X:Cx}{EX:XX}{elt val tg iter tg1 iter1:Expr}{ifs1:List Expr}{sc:Scope}{pos:Pos}{N':List Str}{cap:List (Option Nat)}{own own1:List Nat}{mi mi1:G->M Src}{g g1:D->G->M G}{k:G->M Bool}{me mv:G->M D}
end
end FT
namespace L2
open PySem PySem.Spec PyProof.Rows
section
variable {X:Cx}
end
end L2
namespace FT
open PySem PySem.Spec PyProof.Rows L2
section
variable {X:Cx}{EX:XX}{a:Expr}{mr:G->M (List D)}{p pos:Pos}
end
section
variable {X:Cx}{EX:XX}{a o:Expr}{p pos cpos apos:Pos}{ma mo:G->M D}{mr:G->M (List D)}
end
end FT
namespace FT
section
variable {α:Type}{us:List α}
theorem ar1 (hl:us.length=1):∃ a,us=[a]:=match us,hl with | [a],_=>⟨a,rfl⟩
theorem ar2 (hl:us.length=2):∃ a b,us=[a,b]:=match us,hl with | [a,b],_=>⟨a,b,rfl⟩
theorem ar3 (hl:us.length=3):∃ a b c,us=[a,b,c]:=match us,hl with | [a,b,c],_=>⟨a,b,c,rfl⟩
end
end FT
namespace FT
open PySem PySem.Spec PyProof.Rows L2
def putO (n:Nat) (k v:D):M D:=match keyD k with
 | some kk=>fun h=>match h[n]? with
  | some (.dK [])=>.ok (.ref n) (h.set n (.dK [(kk,v)]))
  | _=>.bad
 | none=>bad
noncomputable def z8k (mk mv:G->M D):G->M D:=fun γ=>do
 let n ← (fun h=>.ok h.length (h++[.dK []]):M Nat)
 let k ← mk γ
 let v ← mv γ
 putO n k v
section
variable {X:Cx}{EX:XX}{k v:Expr}{pos:Pos}{mk mv:G->M D}
theorem z9V (hk:SE X EX k mk) (hv:SE X EX v mv):SE X EX (.Dict [some k] [v] pos) (z8k mk mv) :=
 ⟨PE.imp (zl6 (z9D hk.h hv.h zh7) rfl rfl (by simp) (by simp)) fun σ H Q ⟨ρ,γ,h,rel,fin⟩ p hp=>by
  have rP:RH X.K (ρ++[p]) (h++[.dK []]) (upd H p (.dK [])):=rel.h.pushO hp ⟨[],z06,.nil⟩
  have eP:Ext X.K H (upd H p (.dK [])):=Ext.upd (.inl hp)
  have at0:(ρ++[p])[h.length]?=some p:=by rw [← rel.h.len];simp
  have f1:=Fin.bind fin
  have f2:=f1 (ρ++[p]) _ (Pre.app _ _) eP rP
  refine ⟨ρ++[p],γ,h++[.dK []],⟨rel.g.mono (Pre.app _ _) eP,rP⟩,(Fin.bind f2).mono fun kd ρ1 h1 H1 p1 e1 r1 f3 kv rk=>⟨ρ1,γ,h1,⟨(rel.g.mono (Pre.app _ _) eP).mono p1 e1,r1⟩,(Fin.bind f3).mono fun vd ρ2 h2 H2 p2 e2 r2 f4 vv rv=>?_⟩⟩
  have hq:ρ2[h.length]?=some p:=(p1.trans p2) _ _ at0
  unfold putO at f4
  cases ek:keyD kd with
  | none=>rw [ek] at f4;exact f4.elim
  | some kk =>
   rw [ek] at f4
   dsimp only at f4
   cases e7:h2[h.length]? with
   | none=>rw [e7] at f4;exact f4.elim
   | some ob =>
    cases ob with
    | set ks=>rw [e7] at f4;exact f4.elim
    | dct=>rw [e7] at f4;exact f4.elim
    | lst xs=>rw [e7] at f4;exact f4.elim
    | exc c=>rw [e7] at f4;exact f4.elim
    | dF c=>rw [e7] at f4;exact f4.elim
    | dK kvs =>
     cases kvs with
     | cons a b=>rw [e7] at f4;exact f4.elim
     | nil =>
      rw [e7] at f4
      dsimp only at f4
      obtain ⟨a1,n1,vs,o1,d1⟩:=r2.at e7
      rw [hq] at n1;cases n1
      cases d1
      have hy:=zH7 ek rk
      refine ⟨o1,[(kk,vv)],by rw [hy];rfl,by simp,?_⟩
      have ext2:Ext X.K H2 (upd H2 p (.dK [(kk,vv)])):=Ext.upd (.inr (r2.tracked hq e7))
      have r7:RH X.K ρ2 (h2.set h.length (.dK [(kk,vd)])) (upd H2 p (.dK [(kk,vv)])):=r2.setO e7 hq ⟨_,z06,.cons ⟨rfl,rv.mono (Pre.refl _) ext2⟩ .nil⟩
      exact f4 ρ2 _ (Pre.refl _) ext2 r7 (.ref p) (by simp only [RD];exact ⟨p,rfl,hq⟩)⟩
end
def zG4:Key->PyData
 | .inl i=>.int i
 | .inr x=>.str x
def allO (f:D->Option PyData):List D->Option (List PyData)
 | []=>some []
 | d :: ds=>match f d,allO f ds with
  | some p,some ps=>some (p :: ps)
  | _,_=>none
def kvO (f:D->Option PyData):List (Key×D)->Option (List (PyData×PyData))
 | []=>some []
 | d :: ds=>match f d.2,kvO f ds with
  | some p,some ps=>some ((zG4 d.1,p) :: ps)
  | _,_=>none
def pdN:Nat->AH->D->Option PyData
 | 0,_,_=>none
 | _+1,_,.non=>some .none
 | _+1,_,.bl b=>some (.bool b)
 | _+1,_,.int i=>some (.int i)
 | _+1,_,.str x=>some (.str x)
 | n+1,h,.tup ds=>(allO (pdN n h) ds).map .tuple
 | n+1,h,.fl ds=>(allO (pdN n h) ds).map .list
 | n+1,h,.ref m=>match h[m]? with
  | some (.lst ds)=>(allO (pdN n h) ds).map .list
  | some (.dK kvs)=>(kvO (pdN n h) kvs).map .dict
  | _=>none
def z48:List D->M D
 | [d]=>fun h=>match pdN 30 h d with
  | some p=>if p.showable=true/\p.shown.length≤sizeLine/\p.depth≤60 then .ok (.str p.shown) h else .bad
  | none=>.bad
 | _=>bad
abbrev Grw (h h':Heap):Prop:=∀ (b:Addr) (o:Obj),h.get? b=some o->h'.get? b=some o
structure RC (prog:Program) (w:World) (h₀:Heap) (u:Value) (p:PyData):Prop where
 rd:∃ as,Reads h₀ u p as
 rk:p.showable=true->p.shown.length≤sizeLine->∃ bs,ReadAtMost h₀ p.depth bs/\ReprK prog w bs h₀ p.depth u p.shown
 tp:p.showable=true->p.shown.length≤sizeLine->∀ (A:Around) (E:Value->Shared->Prop) (s:Shared) (Q:Value->Shared->Prop),A.guards=some []->A.units+p.depth+1<cLine->Grw h₀ s.heap ->
  (∀ h' u tk,Grw s.heap h'->Q (.str p.shown u) { s with heap:=h',toks:=tk })->wpAny (model prog w) A (call (.builtin "repr") [u]) Q E s
structure RCs (prog:Program) (w:World) (h₀:Heap) (us:List Value) (ps:List PyData):Prop where
 rd:∃ as,ReadsAll h₀ us ps as
 rk:PyData.showableAll ps=true->(∀ t∈PyData.shownAll ps,t.length≤sizeLine)->∃ bs,ReadAtMost h₀ (PyData.depthAll ps) bs/\ReprAllK prog w bs h₀ (PyData.depthAll ps) us (PyData.shownAll ps)
section
variable {prog:Program}{w:World}{h₀:Heap}
theorem RCs.nil:RCs prog w h₀ [] []:=⟨⟨[],.nil⟩,fun _ _=>⟨[],(fun _ h=>nomatch h),by simp only [PyData.shownAll];exact .nil⟩⟩
theorem RCs.cons {u:Value}{us:List Value}{p:PyData}{ps:List PyData}(a:RC prog w h₀ u p) (b:RCs prog w h₀ us ps):RCs prog w h₀ (u :: us) (p :: ps):=by
 obtain ⟨a1,ra⟩:=a.rd
 obtain ⟨a2,rb⟩:=b.rd
 refine ⟨⟨_,.cons ra rb⟩,fun hs hz=>?_⟩
 have hs':p.showable=true/\PyData.showableAll ps=true:=by simpa [PyData.showableAll] using hs
 obtain ⟨b1,hb1,k1⟩:=a.rk hs'.1 (hz _ (by simp only [PyData.shownAll];exact List.mem_cons_self ..))
 obtain ⟨b2,hb2,k2⟩:=b.rk hs'.2 (fun t ht=>hz t (by simp only [PyData.shownAll];exact List.mem_cons_of_mem _ ht))
 refine ⟨b1++b2,?_,?_⟩
 ·simp only [PyData.depthAll]
  exact (hb1.mono (Nat.le_max_left _ _)).append (hb2.mono (Nat.le_max_right _ _))
 ·simp only [PyData.depthAll,PyData.shownAll]
  exact .cons ((k1.more fun b hb=>List.mem_append_left _ hb).level_le (Nat.le_max_left _ _)) (k2.more_le (fun b hb=>List.mem_append_right _ hb) (Nat.le_max_right _ _))
theorem RC.none:RC prog w h₀ .none .none :=
 ⟨⟨_,.none⟩,fun _ _=>⟨[],(fun _ h=>nomatch h),by simp only [PyData.shown];exact .of_is ReprIs.none _ _ _⟩,fun _ _ A E s Q _ _ _ hQ=>P.repr_of_none (by simp only [PyData.shown] at hQ;exact hQ s.heap _ _ fun _ _ e=>e)⟩
theorem RC.bool (b:Bool):RC prog w h₀ (.bool b) (.bool b) :=
 ⟨⟨_,.bool b⟩,fun _ _=>⟨[],(fun _ h=>nomatch h),by simp only [PyData.shown];exact .of_is (ReprIs.bool b) _ _ _⟩,fun _ _ A E s Q _ _ _ hQ=>P.repr_of_bool (by simp only [PyData.shown] at hQ;exact hQ s.heap _ _ fun _ _ e=>e)⟩
theorem RC.int (i:Int) (t:Tok):RC prog w h₀ (.int i t) (.int i) :=
 ⟨⟨_,.int i t⟩,fun hs _=>⟨[],(fun _ h=>nomatch h),by simp only [PyData.shown];exact .of_is (ReprIs.int t (by simpa [PyData.showable] using hs)) _ _ _⟩,
  fun hs _ A E s Q _ _ _ hQ=>P.repr_of_int (by simpa [PyData.showable] using hs) (by simp only [PyData.shown] at hQ;exact hQ s.heap _ _ fun _ _ e=>e)⟩
theorem RC.str (x:Str) (t:Tok):RC prog w h₀ (.str x t) (.str x) :=
 ⟨⟨_,.str x t⟩,fun _ hz=>⟨[],(fun _ h=>nomatch h),by simp only [PyData.shown];exact .of_is (ReprIs.str x t (by simpa only [PyData.shown] using hz)) _ _ _⟩,
  fun _ hz A E s Q _ _ _ hQ=>P.repr_of_str (by simp only [PyData.shown] at hQ;exact hQ s.heap _ _ fun _ _ e=>e) (by simpa only [PyData.shown] using hz)⟩
theorem RC.list {a:Addr}{o:Obj}{its:List Value}{n:Nat}{ps:List PyData}(h1:h₀.get? a=some o) (h2:o.cls=.type "list") (h3:o.data=.seq its.toArray n) (b:RCs prog w h₀ its ps):RC prog w h₀ (.ref a) (.list ps):=by
 obtain ⟨as,ra⟩:=b.rd
 have r:Reads h₀ (.ref a) (.list ps) _:=.list h1 h2 h3 ra
 refine ⟨⟨_,r⟩,fun hs hz=>?_,fun hs hz A E s Q hg hu hk0 hQ=>?_⟩
 ·have hz':(listText (PyData.shownAll ps)).length≤sizeLine:=by simpa only [PyData.shown] using hz
  obtain ⟨bs,hb,hk⟩:=b.rk (by simpa [PyData.showable] using hs) fun t ht=>Nat.le_trans (listText_mem_le ht) hz'
  have hna:a∉bs:=not_mem_of_deeper r (by simp only [PyData.depth];omega) hb
  refine ⟨a :: bs,ReadAtMost.cons r (by simp only [PyData.depth];omega) hb,?_⟩
  simp only [PyData.depth,PyData.shown]
  cases its with
  | nil =>
   cases ra
   simp only [PyData.shownAll,listText_nil]
   exact ReprK.listEmpty h1 h2 h3
  | cons x l=>exact ReprK.list h1 h2 h3 hna (by simpa using hk.length_eq) (fun i y e=>hk.item i y (by simpa using e))
 ·have hz':(listText (PyData.shownAll ps)).length≤sizeLine:=by simpa only [PyData.shown] using hz
  obtain ⟨bs,hb,hk⟩:=b.rk (by simpa [PyData.showable] using hs) fun t ht=>Nat.le_trans (listText_mem_le ht) hz'
  have hna:a∉bs:=not_mem_of_deeper r (by simp only [PyData.depth];omega) hb
  simp only [PyData.depth] at hu
  simp only [PyData.shown] at hQ
  refine call_repr_slot (by omega) ⟨_,hk0 _ _ h1,h2⟩ F.slot_list_repr.toG ?_
  cases its with
  | nil =>
   cases ra
   simp only [PyData.shownAll,listText_nil] at hQ
   exact call_list_repr_empty ⟨_,hk0 _ _ h1,h2⟩ (hk0 _ _ h1) h3 ⟨_,_,rfl,hQ s.heap _ _ fun _ _ e=>e⟩
  | cons x l =>
   exact call_list_reprK h1 h2 h3 hna (by simpa using hk.length_eq) (fun i y e=>hk.item i y (by simpa using e)) (g:=[]) hg (fun b _=>Clear.nil b) (by show A.units+1+_<_;omega) hk0 (fun h' u tk hk'=>⟨_,_,rfl,hQ h' u tk hk'⟩) hz'
theorem RC.tuple {a:Addr}{o:Obj}{its:List Value}{n:Nat}{ps:List PyData}(h1:h₀.get? a=some o) (h2:o.cls=.type "tuple") (h3:o.data=.seq its.toArray n) (b:RCs prog w h₀ its ps):RC prog w h₀ (.ref a) (.tuple ps):=by
 obtain ⟨as,ra⟩:=b.rd
 have r:Reads h₀ (.ref a) (.tuple ps) _:=.tuple h1 h2 h3 ra
 have key:(PyData.tuple ps).showable=true->(PyData.tuple ps).shown.length≤sizeLine->(tupleText (PyData.shownAll ps)).length≤sizeLine/\∃ bs,ReadAtMost h₀ (PyData.depthAll ps) bs/\ReprAllK prog w bs h₀ (PyData.depthAll ps) its (PyData.shownAll ps)/\a∉bs:=fun hs hz=>by
  have hz':(tupleText (PyData.shownAll ps)).length≤sizeLine:=by simpa only [PyData.shown] using hz
  obtain ⟨bs,hb,hk⟩:=b.rk (by simpa [PyData.showable] using hs) fun t ht=>Nat.le_trans (tupleText_mem_le ht) hz'
  exact ⟨hz',bs,hb,hk,not_mem_of_deeper r (by simp only [PyData.depth];omega) hb⟩
 refine ⟨⟨_,r⟩,fun hs hz=>?_,fun hs hz A E s Q hg hu hk0 hQ=>?_⟩
 ·obtain ⟨hz',bs,hb,hk,hna⟩:=key hs hz
  refine ⟨a :: bs,ReadAtMost.cons r (by simp only [PyData.depth];omega) hb,?_⟩
  simp only [PyData.depth,PyData.shown]
  exact ReprK.tuple h1 h2 h3 hna hk
 ·obtain ⟨hz',bs,hb,hk,hna⟩:=key hs hz
  simp only [PyData.depth] at hu
  simp only [PyData.shown] at hQ
  refine call_repr_slot (by omega) ⟨_,hk0 _ _ h1,h2⟩ F.slot_tuple_repr ?_
  exact call_tuple_reprK h1 h2 h3 hna hk (g:=[]) hg (fun b _=>Clear.nil b) (by show A.units+1+_<_;omega) hk0 (fun h' u tk hk'=>⟨_,_,rfl,hQ h' u tk hk'⟩) hz'
theorem RC.dict {a:Addr}{o:Obj}{es:Array DictEntry}{n:Nat}{ps:List (PyData×PyData)}(h1:h₀.get? a=some o) (h2:o.cls=.type "dict") (h3:o.data=.dict es n) (hsys:(a == sysModules)=false)
 (b:RCs prog w h₀ (es.toList.map (·.key)) (ps.map (·.1))) (c:RCs prog w h₀ (es.toList.map (·.val)) (ps.map (·.2))):RC prog w h₀ (.ref a) (.dict ps):=by
 obtain ⟨as,ra⟩:=b.rd
 obtain ⟨cs,rc⟩:=c.rd
 have r:Reads h₀ (.ref a) (.dict ps) _:=.dict h1 h2 h3 ra rc
 have key:(PyData.dict ps).showable=true->(PyData.dict ps).shown.length≤sizeLine->(dictText (PyData.shownKv ps)).length≤sizeLine/\∃ bs,ReadAtMost h₀ (PyData.depthKv ps) bs/\a∉bs/\ReprEntriesK prog w bs h₀ (PyData.depthKv ps) es.toList (PyData.shownKv ps):=fun hs hz=>by
  have hz':(dictText (PyData.shownKv ps)).length≤sizeLine:=by simpa only [PyData.shown] using hz
  obtain ⟨hs1,hs2⟩:=PyData.showableKv_split ps (by simpa [PyData.showable] using hs)
  obtain ⟨b1,hb1,k1⟩:=b.rk hs1 (fun t ht=>let ⟨p,hp,hl⟩:=PyData.shownKv_key_le ps t ht;Nat.le_trans hl (Nat.le_trans (dictText_mem_le hp) hz'))
  obtain ⟨b2,hb2,k2⟩:=c.rk hs2 (fun t ht=>let ⟨p,hp,hl⟩:=PyData.shownKv_val_le ps t ht;Nat.le_trans hl (Nat.le_trans (dictText_mem_le hp) hz'))
  have hb:ReadAtMost h₀ (PyData.depthKv ps) (b1++b2):=(hb1.mono (PyData.depthAll_keys_le ps)).append (hb2.mono (PyData.depthAll_vals_le ps))
  refine ⟨hz',b1++b2,hb,not_mem_of_deeper r (by simp only [PyData.depth];omega) hb,?_⟩
  rw [PyData.shownKv_eq]
  exact ReprEntriesK.of_two es.toList _ _ (k1.more_le (fun b hb=>List.mem_append_left _ hb) (PyData.depthAll_keys_le ps)) (k2.more_le (fun b hb=>List.mem_append_right _ hb) (PyData.depthAll_vals_le ps))
 refine ⟨⟨_,r⟩,fun hs hz=>?_,fun hs hz A E s Q hg hu hk0 hQ=>?_⟩
 ·obtain ⟨hz',bs,hb,hna,hk⟩:=key hs hz
  refine ⟨a :: bs,ReadAtMost.cons r (by simp only [PyData.depth];omega) hb,?_⟩
  simp only [PyData.depth,PyData.shown]
  exact ReprK.dict h1 h2 h3 hsys hna hk
 ·obtain ⟨hz',bs,hb,hna,hk⟩:=key hs hz
  simp only [PyData.depth] at hu
  simp only [PyData.shown] at hQ
  refine call_repr_slot (by omega) ⟨_,hk0 _ _ h1,h2⟩ F.slot_dict_repr ?_
  exact call_dict_reprK h1 h2 h3 hsys hna hk (g:=[]) hg (fun b _=>Clear.nil b) (by show A.units+1+_<_;omega) hk0 (fun h' u tk hk'=>⟨_,_,rfl,hQ h' u tk hk'⟩) hz'
end
section
variable {X:Cx}{pins:List (Addr×Obj)}{σ:L2.St}{H:Hp}{s:Shared}{ρ:List Addr}{h:AH}
theorem z6l {f:D->Option PyData}(ih:∀ (d:D) (p:PyData) (v:V) (u:Value),f d=some p->RD X.K ρ H d v->RelV v u->RC X.prog X.w s.heap u p) :
 ∀ {ds:List D} {ps:List PyData} {vs:List V} {us:List Value},allO f ds=some ps->RDs X.K ρ H ds vs->Vals vs us->RCs X.prog X.w s.heap us ps
 | [],ps,vs,us,e,r,v=>by
  simp only [RDs] at r;subst r
  cases e;cases v
  exact RCs.nil
 | d :: ds,ps,vs,us,e,r,v=>by
  simp only [RDs] at r
  obtain ⟨x,r',rfl,r1,r2⟩:=r
  simp only [allO] at e
  split at e
  ·rename_i p ps' e1 e2
   cases e
   cases v with
   | cons v1 v2=>exact RCs.cons (ih d p x _ e1 r1 v1) (z6l ih e2 r2 v2)
  ·cases e
theorem zx7 {f:D->Option PyData}(ih:∀ (d:D) (p:PyData) (v:V) (u:Value),f d=some p->RD X.K ρ H d v->RelV v u->RC X.prog X.w s.heap u p) :
 ∀ {kvs:List (Key×D)} {ps:List (PyData×PyData)} {vs:List (Key×V)} {us:List (Key×Value)} {es:List DictEntry},kvO f kvs=some ps->RK X.K ρ H kvs vs->KV vs us->Pairs (z09 X.prog X.w) es us ->
  RCs X.prog X.w s.heap (es.map (·.key)) (ps.map (·.1))/\RCs X.prog X.w s.heap (es.map (·.val)) (ps.map (·.2))
 | [],ps,vs,us,es,e,r,v,q=>by
  cases r;cases v;cases q;cases e
  exact ⟨RCs.nil,RCs.nil⟩
 | d :: ds,ps,vs,us,es,e,r,v,q=>by
  cases r with
  | cons r1 r2 =>
   cases v with
   | cons v1 v2 =>
    cases q with
    | cons q1 q2 q3 =>
     simp only [kvO] at e
     split at e
     ·rename_i p ps' e1 e2
      cases e
      obtain ⟨b1,b2⟩:=zx7 ih e2 r2 v2 q3
      refine ⟨RCs.cons ?_ b1,RCs.cons ?_ b2⟩
      ·rw [← v1.1,← r1.1] at q1
       rcases y6 q1 with ⟨i,t,ek,ev⟩ | ⟨x,t,ek,ev⟩
       ·dsimp only;rw [ek,ev];exact RC.int i t
       ·dsimp only;rw [ek,ev];exact RC.str x t
      ·dsimp only;rw [q2];exact ih _ p _ _ e1 r1.2 v1.2
     ·cases e
theorem zE2 (I:Inv X pins σ H s) (r:RH X.K ρ h H):∀ (n:Nat) (d:D) (p:PyData) (v:V) (u:Value),pdN n h d=some p->RD X.K ρ H d v->RelV v u->RC X.prog X.w s.heap u p
 | 0,d,p,v,u,e,_,_=>by simp [pdN] at e
 | n+1,d,p,v,u,e,rd,ru=>by
  have ih:=zE2 I r n
  cases d with
  | non=>simp only [pdN] at e;cases e;simp only [RD] at rd;subst rd;cases ru;exact RC.none
  | bl b=>simp only [pdN] at e;cases e;simp only [RD] at rd;subst rd;cases ru;exact RC.bool b
  | int b=>simp only [pdN] at e;cases e;simp only [RD] at rd;subst rd;obtain ⟨t,rfl⟩:=ru;exact RC.int b t
  | str b=>simp only [pdN] at e;cases e;simp only [RD] at rd;subst rd;obtain ⟨t,rfl⟩:=ru;exact RC.str b t
  | tup ds =>
   simp only [RD] at rd
   obtain ⟨a,xs,rfl,hs,rds⟩:=rd
   cases ru
   simp only [pdN] at e
   cases e1:allO (pdN n h) ds with
   | none=>rw [e1] at e;cases e
   | some ps =>
    rw [e1] at e;cases e
    obtain ⟨its,rv,⟨o,h1,h2,k,h3⟩,_⟩:=I.tuple hs
    exact RC.tuple h1 h2 h3 (z6l ih e1 rds rv)
  | fl ds =>
   simp only [RD] at rd
   obtain ⟨a,xs,rfl,hs,rds⟩:=rd
   cases ru
   simp only [pdN] at e
   cases e1:allO (pdN n h) ds with
   | none=>rw [e1] at e;cases e
   | some ps =>
    rw [e1] at e;cases e
    obtain ⟨its,rv,⟨o,k,h1,h2,h3⟩,_⟩:=I.list hs.sq
    exact RC.list h1 h2 h3.2 (z6l ih e1 rds rv)
  | ref m =>
   simp only [RD] at rd
   obtain ⟨a,rfl,ha⟩:=rd
   cases ru
   simp only [pdN] at e
   cases q1:h[m]? with
   | none=>rw [q1] at e;cases e
   | some ob =>
    rw [q1] at e
    cases ob with
    | lst ds =>
     dsimp only at e
     cases e1:allO (pdN n h) ds with
     | none=>rw [e1] at e;cases e
     | some ps =>
      rw [e1] at e;cases e
      obtain ⟨a1,n1,vs,o1,d1⟩:=r.at q1
      rw [ha] at n1;cases n1
      obtain ⟨z,its,k,rv,eo⟩:=I.hok _ _ o1
      exact RC.list eo rfl rfl (z6l ih e1 d1 rv)
    | dK kvs =>
     dsimp only at e
     cases e1:kvO (pdN n h) kvs with
     | none=>rw [e1] at e;cases e
     | some ps =>
      rw [e1] at e;cases e
      obtain ⟨a1,n1,vs,o1,d1⟩:=r.at q1
      rw [ha] at n1;cases n1
      obtain ⟨z,hy,us,kv,o,es,ep,h1,h2,h3,_,pr,_⟩:=I.hok _ _ o1
      obtain ⟨b,c⟩:=zx7 ih e1 d1 kv pr
      exact RC.dict h1 h2.1 h3 hy b c
    | _=>cases e
end
section
variable {X:Cx}{EX:XX}{a:Expr}{p pos:Pos}{mr:G->M (List D)}
theorem z8I (hg:X.A.guards=some []) (hu:X.A.units+64<cLine):z1Q X (.builtin "repr") (fun xs H Q=>∃ ρ h d v p,xs=[v]/\RH X.K ρ h H/\RD X.K ρ H d v/\pdN 30 h d=some p/\p.showable=true/\p.shown.length≤sizeLine/\p.depth≤60/\Q (.str p.shown) H):=by
 intro pins s σ H xs us Q I r ⟨ρ,h,d,v,p,e,rh,rd,e1,e2,e3,e4,q⟩
 subst e
 obtain ⟨u,rfl,ru⟩:=r.one
 exact (zE2 I rh 30 d p v u e1 rd ru).tp e2 e3 _ _ _ _ hg (by omega) (fun _ _ e=>e) fun h' t tk k=>⟨.str p.shown,H,I.kept k,⟨t,rfl⟩,q⟩
theorem zj8:AR X.K EX (fun xs H Q=>∃ ρ h d v p,xs=[v]/\RH X.K ρ h H/\RD X.K ρ H d v/\pdN 30 h d=some p/\p.showable=true/\p.shown.length≤sizeLine/\p.depth≤60/\Q (.str p.shown) H) z48:=by
 intro ρ h H ds vs Q r rd fin
 unfold z48 at fin
 split at fin
 ·rename_i d
  obtain ⟨v,rfl,rv⟩:=rds1 rd
  cases e:pdN 30 h d with
  | none=>rw [e] at fin;exact fin.elim
  | some p =>
   rw [e] at fin
   dsimp only at fin
   split at fin
   ·rename_i c
    exact ⟨ρ,h,d,v,p,rfl,r,rv,e,c.1,c.2.1,c.2.2,FE.here fin r (by simp [RD])⟩
   ·exact fin.elim
 ·exact fin.elim
theorem z8v (hgd:X.A.guards=some []) (hu:X.A.units+64<cLine) (hg:Gl X "repr") (hm:X.mg "repr" = none) (ha:SA X EX [a] mr) (he:starEach [a] X.env=[(false,eval a X.env)]:=by rfl):SE X EX (.Call (.Name "repr" p) [a] [] pos) (Z9 z48 mr) :=
 z1f (z0J (z8I hgd hu) hg hm (by decide +kernel) ha.h (by decide) (by decide) he rfl) zj8
end
def Ths (P:Nat->D->Prop):Nat->List D->Prop
 | _,[]=>True
 | n,x :: xs=>∃ a b,P a x/\Ths P b xs/\a+b+2≤n
def Th (r:AH) (B:Nat):Nat->Nat->D->Prop
 | 0,_,_=>False
 | _+1,n,.non=>4≤n
 | _+1,n,.bl _=>5≤n
 | _+1,n,.int i=>i.natAbs≤B/\40≤n
 | _+1,n,.str x=>(reprText x).length≤n/\x.length≤1000
 | m+1,n,.tup xs=>∃ a,Ths (Th r B m) a xs/\a+4≤n
 | _+1,_,.fl _=>False
 | m+1,n,.ref i=>∃ j,i=j+3/\((∃ xs a,r[j]?=some (.lst xs)/\Ths (Th r B m) a xs/\a+4≤n)∨(r[j]?=some (.dK [])∨r[j]?=some (.dK [(.inr "a",.int 1)])/\1≤m)/\40≤n)
section
variable {P P':Nat->D->Prop}{n m:Nat}{xs ys:List D}{d:D}
theorem Ths.imp (f:∀ a d,P a d->P' a d):∀ {n:Nat}{xs:List D},Ths P n xs->Ths P' n xs
 | _,[],_=>trivial
 | _,x :: xs,⟨a,b,h1,h2,h3⟩=>⟨a,b,f a x h1,Ths.imp f h2,h3⟩
theorem Ths.up (h:n≤m) (t:Ths P n xs):Ths P m xs:=by
 cases xs with
 | nil=>trivial
 | cons x xs=>obtain ⟨a,b,h1,h2,h3⟩:=t;exact ⟨a,b,h1,h2,by omega⟩
theorem Ths.app:∀ {n m:Nat}{xs ys:List D},Ths P n xs->Ths P m ys->Ths P (n+m) (xs++ys)
 | n,m,[],ys,_,t=>t.up (by omega)
 | n,m,x :: xs,ys,⟨a,b,h1,h2,h3⟩,t=>⟨a,b+m,h1,Ths.app h2 t,by omega⟩
theorem Ths.one (h:P n d):Ths P (n+2) [d]:=⟨n,0,h,trivial,by omega⟩
theorem Ths.rev:∀ {n:Nat}{xs:List D},Ths P n xs->Ths P n xs.reverse
 | n,[],_=>trivial
 | n,x :: xs,⟨a,b,h1,h2,h3⟩=>by
  rw [List.reverse_cons]
  exact ((Ths.rev h2).app (Ths.one h1)).up (by omega)
theorem Ths.sub {xs ys:List D}(s:xs.Sublist ys):∀ {n:Nat},Ths P n ys->Ths P n xs:=by
 induction s with
 | slnil=>exact fun t=>t
 | cons a s ih=>intro n ⟨a,b,h1,h2,h3⟩;exact (ih h2).up (by omega)
 | cons_cons a s ih=>intro n ⟨a,b,h1,h2,h3⟩;exact ⟨a,b,h1,ih h2,h3⟩
theorem Ths.mem:∀ {n:Nat}{xs:List D},Ths P n xs->d∈xs->∃ a,a+2≤n/\P a d
 | n,[],_,h=>nomatch h
 | n,x :: xs,⟨a,b,h1,h2,h3⟩,h=>by
  rcases List.mem_cons.mp h with rfl | h
  ·exact ⟨a,by omega,h1⟩
  ·obtain ⟨c,hc,p⟩:=Ths.mem h2 h
   exact ⟨c,by omega,p⟩
theorem Ths.len:∀ {n:Nat}{xs:List D},Ths P n xs->2 * xs.length≤n
 | n,[],_=>by simp
 | n,x :: xs,⟨a,b,h1,h2,h3⟩=>by have:=Ths.len h2;rw [List.length_cons];omega
theorem Ths.of {c:Nat}:∀ {xs:List D},(∀ d∈xs,P c d)->Ths P (xs.length * (c+2)) xs
 | [],_=>trivial
 | x :: xs,h=>⟨c,xs.length * (c+2),h x (List.mem_cons_self ..),Ths.of fun d hd=>h d (List.mem_cons_of_mem _ hd),by rw [List.length_cons,Nat.add_mul];omega⟩
theorem z5B (xs:List D) (lo hi:Option Int):(cutD xs lo hi).Sublist xs:=(List.take_sublist _ _).trans (List.drop_sublist _ _)
end
theorem Th.mono {r r':AH}{B B':Nat}(k:Kp r r') (hB:B≤B'):∀ {m m' n n':Nat}{d:D},m≤m'->n≤n'->Th r B m n d->Th r' B' m' n' d
 | 0,_,_,_,_,_,_,h=>by simp only [Th] at h
 | m+1,0,_,_,_,hm,_,_=>by omega
 | m+1,m'+1,n,n',d,hm,hn,h=>by
  have ih:∀ a d,Th r B m a d->Th r' B' m' a d:=fun a d=>Th.mono k hB (by omega) (Nat.le_refl a)
  cases d with
  | non=>simp only [Th] at h ⊢;omega
  | bl b=>simp only [Th] at h ⊢;omega
  | int i=>simp only [Th] at h ⊢;omega
  | str x=>simp only [Th] at h ⊢;omega
  | fl xs=>simp only [Th] at h
  | tup xs=>simp only [Th] at h ⊢;obtain ⟨a,h1,h2⟩:=h;exact ⟨a,h1.imp ih,by omega⟩
  | ref i =>
   simp only [Th] at h ⊢
   obtain ⟨j,e,h⟩:=h
   refine ⟨j,e,?_⟩
   rcases h with ⟨xs,a,h1,h2,h3⟩ | ⟨h1 | ⟨h1,h4⟩,h2⟩
   ·exact .inl ⟨xs,a,k _ _ h1,h2.imp ih,by omega⟩
   ·exact .inr ⟨.inl (k _ _ h1),by omega⟩
   ·exact .inr ⟨.inr ⟨k _ _ h1,by omega⟩,by omega⟩
def isOf (T:String):D->Bool
 | .non=>subT "NoneType" T
 | .bl _=>subT "bool" T
 | .int _=>subT "int" T
 | .str _=>subT "str" T
 | .tup _=>subT "tuple" T
 | _=>false
def numB:D->Bool
 | .int _=>true
 | _=>false
def tupB:D->Bool
 | .tup _=>true
 | _=>false
theorem z3U (d:D):(isOf "int" d && !isOf "bool" d)=numB d:=by cases d<;>simp [isOf,numB,subT]
theorem z2X (d:D):isOf "tuple" d=tupB d:=by cases d<;>simp [isOf,tupB,subT]
theorem z5T {r:AH}{B m n:Nat}{d:D}(v:Th r B m n d) {T:String}(h1:subT "list" T=false:=by decide) (h2:subT "dict" T=false:=by decide) {h:AH}{k:Int}{r':AH}(p:PS h k r') (q:Kp r r':=by exact Kp.refl _):fIsi T d h=.ok (.bl (isOf T d)) h:=by
 have go:∀ t,tyD d h=.ok t h->fIsi T d h=.ok (.bl (subT t T)) h:=fun t e=>by
  unfold fIsi
  rw [M.bind_ok e]
  rfl
 cases m with
 | zero=>simp only [Th] at v
 | succ m =>
  cases d with
  | non=>exact go _ rfl
  | bl b=>exact go _ rfl
  | int i=>exact go _ rfl
  | str x=>exact go _ rfl
  | tup xs=>exact go _ rfl
  | fl xs=>simp only [Th] at v
  | ref i =>
   simp only [Th] at v
   obtain ⟨j,rfl,v⟩:=v
   rcases v with ⟨xs,a,e,_,_⟩ | ⟨e | ⟨e,_⟩,_⟩
   ·have:=go "list" (by unfold tyD;dsimp only;rw [p.get,q _ _ e])
    rw [h1] at this
    exact this
   ·have:=go "dict" (by unfold tyD;dsimp only;rw [p.get,q _ _ e])
    rw [h2] at this
    exact this
   ·have:=go "dict" (by unfold tyD;dsimp only;rw [p.get,q _ _ e])
    rw [h2] at this
    exact this
theorem z5E {f:D->Option PyData}{P:Nat->D->Prop}{m:Nat}(ih:∀ a d,P a d->∃ p,f d=some p/\p.showable=true/\p.shown.length≤a/\p.depth≤m) :
 ∀ {n:Nat} {xs:List D},Ths P n xs->∃ ps,allO f xs=some ps/\PyData.showableAll ps=true/\((PyData.shownAll ps).map (·.length)).sum+2 * (PyData.shownAll ps).length≤n/\PyData.depthAll ps≤m
 | n,[],_=>⟨[],rfl,by simp only [PyData.showableAll],by simp [PyData.shownAll],by simp [PyData.depthAll]⟩
 | n,x :: xs,⟨a,b,h1,h2,h3⟩=>by
  obtain ⟨p,e1,e2,e3,e4⟩:=ih a x h1
  obtain ⟨ps,f1,f2,f3,f4⟩:=z5E ih h2
  refine ⟨p :: ps,by simp only [allO];rw [e1,f1],by simp only [PyData.showableAll,e2,f2,Bool.and_self],?_,by simp only [PyData.depthAll];omega⟩
  simp only [PyData.shownAll,List.map_cons,List.sum_cons,List.length_cons]
  omega
theorem zr9 {r:AH}{B:Nat}(hB:B<10 ^ 30) {h:AH}{k:Int}{r':AH}(p:PS h k r') (q:Kp r r'):∀ {m n:Nat}{d:D},Th r B m n d->∃ pd,pdN m h d=some pd/\pd.showable=true/\pd.shown.length≤n/\pd.depth≤m
 | 0,n,d,v=>by simp only [Th] at v
 | m+1,n,d,v=>by
  have ih:∀ a d,Th r B m a d->∃ pd,pdN m h d=some pd/\pd.showable=true/\pd.shown.length≤a/\pd.depth≤m:=fun a d=>zr9 hB p q
  cases d with
  | non=>simp only [Th] at v;exact ⟨_,rfl,rfl,by simp only [PyData.shown];exact v,by simp [PyData.depth]⟩
  | bl b=>simp only [Th] at v;exact ⟨_,rfl,rfl,by simp only [PyData.shown];cases b<;>exact Nat.le_trans (by decide +kernel) v,by simp [PyData.depth]⟩
  | int i =>
   simp only [Th] at v
   have lt:i.natAbs<10 ^ 30:=Nat.lt_of_le_of_lt v.1 hB
   refine ⟨_,rfl,?_,?_,by simp [PyData.depth]⟩
   ·simp only [PyData.showable,decide_eq_true_eq]
    by_cases z:i.natAbs=0
    ·rw [z];decide
    ·exact Nat.lt_of_lt_of_le ((Nat.log2_lt z).mpr (show i.natAbs<2 ^ 100 from Nat.lt_of_lt_of_le lt (by decide))) (by decide)
   ·have e:=int_text_length_le10 (k:=30) (by decide) lt
    simp only [PyData.shown]
    show (Str.ofString (toString i)).length≤n
    rw [PySem.ofString_length]
    omega
  | str x=>simp only [Th] at v;exact ⟨_,rfl,rfl,by simp only [PyData.shown];exact v.1,by simp [PyData.depth]⟩
  | fl xs=>simp only [Th] at v
  | tup xs =>
   simp only [Th] at v
   obtain ⟨a,v1,v2⟩:=v
   obtain ⟨ps,e1,e2,e3,e4⟩:=z5E ih v1
   have:=tupleText_len_le (PyData.shownAll ps)
   exact ⟨.tuple ps,by simp only [pdN];rw [e1];rfl,by simpa [PyData.showable] using e2,by simp only [PyData.shown];omega,by simp only [PyData.depth];omega⟩
  | ref i =>
   simp only [Th] at v
   obtain ⟨j,rfl,v⟩:=v
   rcases v with ⟨xs,a,e,v1,v2⟩ | ⟨e | ⟨e,v3⟩,v2⟩
   ·obtain ⟨ps,e1,e2,e3,e4⟩:=z5E ih v1
    have:=listText_len_le (PyData.shownAll ps)
    exact ⟨.list ps,by simp only [pdN];rw [p.get,q _ _ e];dsimp only;rw [e1];rfl,by simpa [PyData.showable] using e2,by simp only [PyData.shown];omega,by simp only [PyData.depth];omega⟩
   ·refine ⟨.dict [],by simp only [pdN];rw [p.get,q _ _ e];rfl,by simp [PyData.showable,PyData.showableKv],?_,by simp [PyData.depth,PyData.depthKv]⟩
    simp only [PyData.shown,PyData.shownKv]
    exact Nat.le_trans (by decide +kernel) v2
   ·cases m with
    | zero =>
     omega
    | succ m =>
     refine ⟨.dict [(.str "a",.int 1)],by simp only [pdN];rw [p.get,q _ _ e];rfl,by decide +kernel,?_,by simp [PyData.depth,PyData.depthKv]⟩
     exact Nat.le_trans (by decide +kernel) v2
section
variable {X:Cx}{EX:XX}{mr:G->M (List D)}
theorem z4J (hc:X.calm=true):z1Q X (.builtin "max") (fun xs H Q=>∃ a b:Int,xs=[.int a,.int b]/\Q (.int (if b > a then b else a)) H):=by
 intro pins s σ H xs us Q I rv h
 obtain ⟨a,b,rfl,q⟩:=h
 obtain ⟨u,w',rfl,ru,rw'⟩:=vals2 rv
 obtain ⟨t,rfl⟩:=ru
 obtain ⟨t',rfl⟩:=rw'
 refine max_two_ints (I.ok.hd hc) fun h' tk hk=>?_
 refine ⟨.int (if b > a then b else a),H,I.kept (t':=tk) fun c o e=>hk c o e,?_,q⟩
 split
 ·exact ⟨t',rfl⟩
 ·exact ⟨t,rfl⟩
def z84:List D->M D
 | [.int a,.int b]=>pure (.int (max a b))
 | _=>bad
theorem zi2:AR X.K EX (fun xs H Q=>∃ a b:Int,xs=[.int a,.int b]/\Q (.int (if b > a then b else a)) H) z84:=by
 intro ρ h H ds vs Q r rd fin
 unfold z84 at fin
 split at fin
 ·rename_i a b
  obtain ⟨v,u,rfl,rv,ru⟩:=rds2 rd
  simp only [RD] at rv ru
  subst rv;subst ru
  refine ⟨a,b,rfl,FE.here fin r ?_⟩
  simp only [RD]
  congr 1
  omega
 ·exact fin.elim
theorem zm1 {a b:Expr}{p pos:_}(hc:X.calm=true) (hg:Gl X "max") (hm:X.mg "max" = none) (ha:SA X EX [a,b] mr) (he:starEach [a,b] X.env=(false,eval a X.env) :: starEach [b] X.env:=by rfl) (hb:starEach [b] X.env=[(false,eval b X.env)]:=by rfl):SE X EX (.Call (.Name "max" p) [a,b] [] pos) (Z9 z84 mr) :=
 z1f (z0J (z4J hc) hg hm (by decide +kernel) ha.h (by decide) (by decide) he (by rw [hb];rfl)) zi2
end
theorem ss_h {me:G->M D}{γ:G}{h h1:AH}{i:Nat}{l:List Nat}(e:me γ h=.ok (.ref i) h1) (g:h1[i]?=some (.lst (stD l))) (hl:l.length≤2000) (hd:(setN l).length<64):Z9 v7 (z8 (Z9 z15 (z8 me aNil)) aNil) γ h=.ok (.ref (h1.length+1)) (h1++[.set (kN (dedN l)),.lst (stD (setN l))]):=by
 have dl:(dedN l).length=(setN l).length:=by unfold setN;rw [z0K]
 refine J4 (J4 e (zq5 (l:=l) (by unfold seqD getL;dsimp only;rw [g]) hl)) ?_
 rw [z7o z21 (by omega),List.append_assoc]
 simp [setN]
theorem z7j {k:Str->Option Bool}{c:Str}{b:Bool}{γ:G}{h:AH}{i n:Nat}(hk:k c=some b) (e:γ[i]?=some (some (.ref n))) (g:h[n]?=some (.exc c)):eIsX k (eVar i) γ h=.ok (.bl b) h:=by
 unfold eIsX
 show (eVar i γ >>= _) h=_
 rw [M.bind_ok (Z8 e)]
 show fIsX k (.ref n) h=_
 unfold fIsX
 dsimp only
 rw [g]
 dsimp only
 rw [hk]
section
variable {n i:Nat}{mf:List D->M D}{mr:G->M (List D)}{okf:Str->Bool}{ms mt:G->M Out}{γ:G}{h h1 h2:AH}{xs:List D}{Q:Out->AH->Prop}
theorem z8X {x:Exn}(e1:mr γ h=.ok xs h1) (hn:xs.length=n) (e2:mf xs h1=.err x h2) (ho:okf x.cls=true) (z:W (ms (γ.set i (some (.ref h2.length)))) (h2++[.exc x.cls]) fun o h3=>∃ d,o=.rt d/\Q (.rt d) h3):W (Z1 (z7e n i mf mr okf ms) mt γ) h Q:=by
 rw [w_cons]
 obtain ⟨o,h3,e3,d,rfl,q⟩:=z
 refine ⟨.rt d,h3,?_,q⟩
 unfold z7e
 rw [e1]
 dsimp only
 rw [if_pos hn,e2]
 dsimp only
 rw [if_pos ho,e3]
end
theorem zi3 {n:Nat}{mb:G->M Out}{ds:List D}{h h1:AH}{x:Exn}(e:mb (z1b n ds) h=.err x h1):runF n mb ds h=.err x h1:=by
 unfold runF
 rw [M.bind_eq,e]
theorem za1 {k:G->M Bool}{c s:Str}{ms mt:G->M Out}{γ:G}{h h1:AH}(e:k γ h=.ok true h1):Z1 (sIf k (Z1 (z4w c (z8 (fun _=>pure (.str s)) aNil)) bNil) ms) mt γ h=.err ⟨c,[]⟩ h1:=by
 show (sIf _ _ _ _ >>= _) h=_
 have:sIf k (Z1 (z4w c (z8 (fun _=>pure (.str s)) aNil)) bNil) ms γ h=.err ⟨c,[]⟩ h1:=by
  show (k γ >>= _) h=_
  rw [M.bind_ok e]
  rfl
 rw [M.bind_eq,this]
theorem z30 {f g:D->Option PyData}(i:∀ d p,f d=some p->g d=some p):∀ {ds:List D}{ps:List PyData},allO f ds=some ps->allO g ds=some ps
 | [],ps,e=>e
 | d :: ds,ps,e=>by
  simp only [allO] at e ⊢
  cases e1:f d with
  | none=>rw [e1] at e;cases e
  | some p=>cases e2:allO f ds with
   | none=>rw [e1,e2] at e;cases e
   | some qs =>
    rw [e1,e2] at e
    rw [i d p e1,z30 i e2]
    exact e
theorem z9c {f g:D->Option PyData}(i:∀ d p,f d=some p->g d=some p):∀ {ds:List (Key×D)}{ps:List (PyData×PyData)},kvO f ds=some ps->kvO g ds=some ps
 | [],ps,e=>e
 | d :: ds,ps,e=>by
  simp only [kvO] at e ⊢
  cases e1:f d.2 with
  | none=>rw [e1] at e;cases e
  | some p=>cases e2:kvO f ds with
   | none=>rw [e1,e2] at e;cases e
   | some qs =>
    rw [e1,e2] at e
    rw [i _ p e1,z9c i e2]
    exact e
theorem z7O (j:AH):∀ {m:Nat}{h:AH}{d:D}{p:PyData},pdN m h d=some p->pdN m (h++j) d=some p
 | 0,h,d,p,e=>by simp only [pdN] at e;cases e
 | m+1,h,d,p,e=>by
  have ih:∀ d p,pdN m h d=some p->pdN m (h++j) d=some p:=fun d p=>z7O j
  cases d with
  | non=>exact e
  | bl b=>exact e
  | int i=>exact e
  | str x=>exact e
  | tup ds =>
   simp only [pdN] at e ⊢
   obtain ⟨ps,e1,e2⟩:=Option.map_eq_some_iff.mp e
   rw [z30 ih e1,← e2];rfl
  | fl ds =>
   simp only [pdN] at e ⊢
   obtain ⟨ps,e1,e2⟩:=Option.map_eq_some_iff.mp e
   rw [z30 ih e1,← e2];rfl
  | ref n =>
   simp only [pdN] at e ⊢
   cases g:h[n]? with
   | none=>rw [g] at e;cases e
   | some o =>
    rw [z2v g]
    rw [g] at e
    cases o with
    | lst ds =>
     dsimp only at e ⊢
     obtain ⟨ps,e1,e2⟩:=Option.map_eq_some_iff.mp e
     rw [z30 ih e1,← e2];rfl
    | dK ds =>
     dsimp only at e ⊢
     obtain ⟨ps,e1,e2⟩:=Option.map_eq_some_iff.mp e
     rw [z9c ih e1,← e2];rfl
    | _=>cases e
theorem zB3 {r:AH}{B m n:Nat}{d:D}{h:AH}{k:Int}(v:Th r B m n d) (hB:B<10 ^ 30) (hm:m≤30) (hn:n≤1000000) (p:PS h k r):∃ x,∀ j,z48 [d] (h++j)=.ok (.str x) (h++j):=by
 obtain ⟨pd,e,e1,e2,e3⟩:=zr9 hB p (Kp.refl _) (Th.mono (Kp.refl _) (Nat.le_refl _) hm (Nat.le_refl _) v)
 refine ⟨pd.shown,fun j=>?_⟩
 unfold z48
 dsimp only
 rw [z7O j e]
 dsimp only
 rw [if_pos ⟨e1,Nat.le_trans e2 (Nat.le_trans hn (by decide)),by omega⟩]
theorem zy7 {r:AH}{B:Nat}(hB:40≤B) {m:Nat}{l:List Nat}(h:∀ x∈l,x<40):Th r B (m+2) (l.length * 42+4) (.tup (stD l)):=by
 simp only [Th]
 refine ⟨l.length * 42,?_,by omega⟩
 have:=Ths.of (P:=Th r B (m+1)) (c:=40) (xs:=stD l) fun d hd=>by
  obtain ⟨x,hx,rfl⟩:=List.mem_map.mp hd
  have:=h x hx
  simp only [Th]
  omega
 rw [y8] at this
 exact this
theorem zq3 {mf:List D->M D}{ds:List D}{h h1:AH}{a:D}(e:mf ds h=.ok a h1):noM mf ds h=.ok a h1:=by unfold noM;rw [e]
theorem zw1 {k:G->M Bool}{ms mr mt:G->M Out}{γ:G}{h h1:AH}{Q:Out->AH->Prop}(b:Bool) (e:k γ h=.ok b h1) (z:W (Z1 (if b=true then ms else mr) mt γ) h1 Q):W (Z1 (sIf k ms mr) mt γ) h Q :=
 zI3 (W_of e z)
section
variable {prog:Program}{w:World}{A:Around}{E:Value->Shared->Prop}{s:Shared}
end
section
variable {X:Cx}{EX:XX}{mr:G->M (List D)}
end
end FT
set_option maxHeartbeats 1600000
namespace FT
open PySem PySem.Spec PyProof.Rows L2
section
variable {X:Cx}{EX:XX}{a:Expr}{elts:List Expr}{kk:Nat}{p pos pt:Pos}{ma:G->M D}
end
end FT
set_option maxHeartbeats 4000000
namespace FT
open PySem PySem.Spec PyProof.Rows L2
def top (i:Nat):Stmt:=PySem.Challenge.pw_fairtrees_k64_no_steady_row.main.body.getD i (.Pass ⟨0,0,0,0⟩)
def h_NoPaper:Str->Bool:=fun c=>c == "NoPaper"
def x_AreAlike:Str->Option Bool:=fun c=>if c = "NoPaper" then some false else none
def x_NoMachine:Str->Option Bool:=fun c=>if c = "NoPaper" then some false else none
def x_TooGreat:Str->Option Bool:=fun c=>if c = "NoPaper" then some false else none
def x_TreeError:Str->Option Bool:=fun c=>if c = "NoPaper" then some true else none
def x_ValueError:Str->Option Bool:=fun c=>if c = "NoPaper" then some true else none
def h_TreeError:Str->Bool:=fun c=>c == "NoPaper"
def x_NoPaper:Str->Option Bool:=fun c=>if c = "NoPaper" then some true else none
noncomputable def z1v:G->M Out :=
 (Z1 (sRet (eAnd (eIsi "int" (eVar 0)) (eNot (eIsi "bool" (eVar 0))))) bNil)
noncomputable def z14:List D->M D:=fun ds=>cln (runF 1 z1v ds)
theorem sc_is_number:FnScope ["thing"] ["thing"] (Z4 (top 7)):=⟨rfl,rfl,rfl,by decide +kernel,rfl,by decide +kernel,by decide +kernel⟩
theorem ok_is_number {P:Program}{w:World}{K:PySem.W.Frag}{mg:Str->Option Value}{base:Heap}(T:DefAt K "is_number" (top 7)) (mx:∀ v,PySem.W.nsIn K mainGlobals "is_number" = some (some v)->mg "is_number" = some v) (z_bool:mg "bool" = none) (z_int:mg "int" = none) (z_isinstance:mg "isinstance" = none):Fn P w K mg base 1 "is_number" 1 z14:=by
 obtain ⟨f,fd,hf,F⟩:=T
 have hb:Binds K fd ["thing"] []:=F.binds fun _ _ _ _ _ _ us hl=>(by obtain ⟨_,rfl⟩:=ar1 hl;rfl)
 exact Fn.cln <| z01 F sc_is_number hb (mx _ hf) rfl fun cdv A outer s H E hcd hr=>(show SB (cxOf CX0 P w K mg base ["thing"] "is_number" (Z4 (top 7)) f cdv A outer s H E).nox EX0 (j6 (top 7)) z1v from
  have nd:(["thing"]:List Str).Nodup:=sc_is_number.nd
  (z9 (J2 (z1O (z1G rfl z_isinstance rfl z_int (by decide +kernel) (by decide) (z6 0)) (z39 (z7P (z1G rfl z_isinstance rfl z_bool (by decide +kernel) (by decide) (z6 0)))))) Z5))
noncomputable def z0m:G->M Out :=
 (Z1 (sRet (eAnd (eFn 1 z14 (z8 (eVar 0) aNil)) (e3 fLe fLe (eVar 1) (eVar 0) (eVar 2)))) bNil)
noncomputable def z0l:List D->M D:=fun ds=>cln (runF 3 z0m ds)
theorem sc_is_number_from:FnScope ["thing","least","most"] ["thing","least","most"] (Z4 (top 8)):=⟨rfl,rfl,rfl,by decide +kernel,rfl,by decide +kernel,by decide +kernel⟩
theorem ok_is_number_from {P:Program}{w:World}{K:PySem.W.Frag}{mg:Str->Option Value}{base:Heap}(T:DefAt K "is_number_from" (top 8)) (mx:∀ v,PySem.W.nsIn K mainGlobals "is_number_from" = some (some v)->mg "is_number_from" = some v) (F_is_number:Fn P w K mg base 1 "is_number" 1 z14):Fn P w K mg base 2 "is_number_from" 3 z0l:=by
 obtain ⟨f,fd,hf,F⟩:=T
 have hb:Binds K fd ["thing","least","most"] []:=F.binds fun _ _ _ _ _ _ us hl=>(by obtain ⟨_,_,_,rfl⟩:=ar3 hl;rfl)
 exact Fn.cln <| z01 F sc_is_number_from hb (mx _ hf) rfl fun cdv A outer s H E hcd hr=>(show SB (cxOf CX0 P w K mg base ["thing","least","most"] "is_number_from" (Z4 (top 8)) f cdv A outer s H E).nox EX0 (j6 (top 8)) z0m from
  have nd:(["thing","least","most"]:List Str).Nodup:=sc_is_number_from.nd
  (z9 (J2 (z1O (Z7 F_is_number (hr.mono (by decide)) rfl (z0 (z6 0) Z0)) (z39 (z9r z5H z5H (z6 1) (z6 0) (z6 2))))) Z5))
noncomputable def z1X:G->M Out :=
 (Z1 (sRet (eIsi "tuple" (eVar 0))) bNil)
noncomputable def z1q:List D->M D:=fun ds=>cln (runF 1 z1X ds)
theorem sc_is_tuple:FnScope ["thing"] ["thing"] (Z4 (top 9)):=⟨rfl,rfl,rfl,by decide +kernel,rfl,by decide +kernel,by decide +kernel⟩
theorem ok_is_tuple {P:Program}{w:World}{K:PySem.W.Frag}{mg:Str->Option Value}{base:Heap}(T:DefAt K "is_tuple" (top 9)) (mx:∀ v,PySem.W.nsIn K mainGlobals "is_tuple" = some (some v)->mg "is_tuple" = some v) (z_isinstance:mg "isinstance" = none) (z_tuple:mg "tuple" = none):Fn P w K mg base 1 "is_tuple" 1 z1q:=by
 obtain ⟨f,fd,hf,F⟩:=T
 have hb:Binds K fd ["thing"] []:=F.binds fun _ _ _ _ _ _ us hl=>(by obtain ⟨_,rfl⟩:=ar1 hl;rfl)
 exact Fn.cln <| z01 F sc_is_tuple hb (mx _ hf) rfl fun cdv A outer s H E hcd hr=>(show SB (cxOf CX0 P w K mg base ["thing"] "is_tuple" (Z4 (top 9)) f cdv A outer s H E).nox EX0 (j6 (top 9)) z1X from
  have nd:(["thing"]:List Str).Nodup:=sc_is_tuple.nd
  (z9 (J2 (z1G rfl z_isinstance rfl z_tuple (by decide +kernel) (by decide) (z6 0))) Z5))
noncomputable def z0R:G->M Out :=
 (Z1 (sRet (eAnd (eFn 1 z1q (z8 (eVar 0) aNil)) (e3 fLe fLe (eVar 1) (Z9 fLen (z8 (eVar 0) aNil)) (eVar 2)))) bNil)
noncomputable def z0T:List D->M D:=fun ds=>cln (runF 3 z0R ds)
theorem sc_is_tuple_of:FnScope ["thing","least","most"] ["thing","least","most"] (Z4 (top 10)):=⟨rfl,rfl,rfl,by decide +kernel,rfl,by decide +kernel,by decide +kernel⟩
theorem ok_is_tuple_of {P:Program}{w:World}{K:PySem.W.Frag}{mg:Str->Option Value}{base:Heap}(T:DefAt K "is_tuple_of" (top 10)) (mx:∀ v,PySem.W.nsIn K mainGlobals "is_tuple_of" = some (some v)->mg "is_tuple_of" = some v) (z_len:mg "len" = none) (F_is_tuple:Fn P w K mg base 1 "is_tuple" 1 z1q):Fn P w K mg base 2 "is_tuple_of" 3 z0T:=by
 obtain ⟨f,fd,hf,F⟩:=T
 have hb:Binds K fd ["thing","least","most"] []:=F.binds fun _ _ _ _ _ _ us hl=>(by obtain ⟨_,_,_,rfl⟩:=ar3 hl;rfl)
 exact Fn.cln <| z01 F sc_is_tuple_of hb (mx _ hf) rfl fun cdv A outer s H E hcd hr=>(show SB (cxOf CX0 P w K mg base ["thing","least","most"] "is_tuple_of" (Z4 (top 10)) f cdv A outer s H E).nox EX0 (j6 (top 10)) z0R from
  have nd:(["thing","least","most"]:List Str).Nodup:=sc_is_tuple_of.nd
  (z9 (J2 (z1O (Z7 F_is_tuple (hr.mono (by decide)) rfl (z0 (z6 0) Z0)) (z39 (z9r z5H z5H (z6 1) (z0g rfl z_len (z0 (z6 0) Z0)) (z6 2))))) Z5))
noncomputable def z2Y:G->M Out :=
 (Z1 (sRet (clE (Z9 Y7 (z8 (Z9 v7 (z8 (Z9 z15 (z8 (eVar 0) aNil)) aNil)) aNil)))) bNil)
noncomputable def z2o:List D->M D:=fun ds=>cln (runF 1 z2Y ds)
theorem sc_set_of:FnScope ["standings"] ["standings"] (Z4 (top 12)):=⟨rfl,rfl,rfl,by decide +kernel,rfl,by decide +kernel,by decide +kernel⟩
theorem ok_set_of {P:Program}{w:World}{K:PySem.W.Frag}{mg:Str->Option Value}{base:Heap}(T:DefAt K "set_of" (top 12)) (mx:∀ v,PySem.W.nsIn K mainGlobals "set_of" = some (some v)->mg "set_of" = some v) (z_set:mg "set" = none) (z_sorted:mg "sorted" = none) (z_tuple:mg "tuple" = none):Fn P w K mg base 1 "set_of" 1 z2o:=by
 obtain ⟨f,fd,hf,F⟩:=T
 have hb:Binds K fd ["standings"] []:=F.binds fun _ _ _ _ _ _ us hl=>(by obtain ⟨_,rfl⟩:=ar1 hl;rfl)
 exact Fn.cln <| z01 F sc_set_of hb (mx _ hf) rfl fun cdv A outer s H E hcd hr=>(show SB (cxOf CX0 P w K mg base ["standings"] "set_of" (Z4 (top 12)) f cdv A outer s H E).nox EX0 (j6 (top 12)) z2Y from
  have nd:(["standings"]:List Str).Nodup:=sc_set_of.nd
  (z9 (J2 (z1T (Y8 rfl z_tuple (z0 (z1p rfl rfl z_sorted (z0 (z2t rfl rfl z_set (z0 (z6 0) Z0)) Z0)) Z0)))) Z5))
noncomputable def z2j:G->M Out :=
 (Z1 (sRet (eFn 1 z2o (z8 (z0i [some 1,none] (z0D (e2 fIx (e2 fIx (eVar 0) (fun _=>pure (.int 0))) (eVar 2))) (gN 1) (fun _=>pure true) (e2 fIx (eVar 0) (eVar 1))) aNil))) bNil)
noncomputable def z0X:List D->M D:=fun ds=>cln (runF 3 z2j ds)
theorem sc_led_to:FnScope ["machine","row","standing"] ["machine","row","standing"] (Z4 (top 15)):=⟨rfl,rfl,rfl,by decide +kernel,rfl,by decide +kernel,by decide +kernel⟩
theorem ok_led_to {P:Program}{w:World}{K:PySem.W.Frag}{mg:Str->Option Value}{base:Heap}(T:DefAt K "led_to" (top 15)) (mx:∀ v,PySem.W.nsIn K mainGlobals "led_to" = some (some v)->mg "led_to" = some v) (F_set_of:Fn P w K mg base 1 "set_of" 1 z2o):Fn P w K mg base 2 "led_to" 3 z0X:=by
 obtain ⟨f,fd,hf,F⟩:=T
 have hb:Binds K fd ["machine","row","standing"] []:=F.binds fun _ _ _ _ _ _ us hl=>(by obtain ⟨_,_,_,rfl⟩:=ar3 hl;rfl)
 exact Fn.cln <| z01 F sc_led_to hb (mx _ hf) rfl fun cdv A outer s H E hcd hr=>(show SB (cxOf CX0 P w K mg base ["machine","row","standing"] "led_to" (Z4 (top 15)) f cdv A outer s H E).nox EX0 (j6 (top 15)) z2j from
  have nd:(["machine","row","standing"]:List Str).Nodup:=sc_led_to.nd
  (z9 (J2 (Z7 F_set_of (hr.mono (by decide)) rfl (z0 (z04 (N':=["row","other"]) (cap:=[some 1,none]) rfl (z1h (by first | rfl | kernel_rfl!)) (z11 (q5 (q5 (z6 0) Z2) (z6 2))) (fun _ _ _ _=>(y9 1 (show (["row","other"]:List Str).Nodup by decide +kernel))) (fun _ _ _ _=>z0v) (fun _ _ _ _=>(q5 (z6 0) (z6 1)))) Z0))) Z5))
noncomputable def z1w:G->M Out :=
 (Z1 (sAsg (Z9 fLen (z8 (e2 fIx (eVar 0) (fun _=>pure (.int 0))) aNil)) (gN 2)) (Z1 (sIf (cNot (cVal (eFn 3 z0T (z8 (eVar 1) (z8 (eVar 2) (z8 (eVar 2) aNil)))))) (Z1 (sRet (fun _=>pure (.bl false))) bNil) bNil) (Z1 (sAsg (eLst aNil) (gN 3)) (Z1 (sFor (z79 (eVar 1)) (gT 2 (z2K (gN 4) (z2K (gN 5) z7s))) (Z1 (sIf (cNot (cVal (eFn 3 z0l (z8 (eVar 5) (z8 (fun _=>pure (.int 0)) (z8 (Z9 fLen (z8 (eVar 3) aNil)) aNil)))))) (Z1 (sRet (fun _=>pure (.bl false))) bNil) bNil) (Z1 (sIf (fun γ=>do let d ← e2 (fEqX false) (eVar 5) (Z9 fLen (z8 (eVar 3) aNil)) γ;asB d) (Z1 (z1o (eM1 J8 (eVar 3) (eVar 4))) bNil) bNil) bNil))) (Z1 (sAsg (z0i [some 0,some 1,none] (z0k (eVar 2)) (gN 2) (fun _=>pure true) (eTup (z8 (e2 fIx (e2 fIx (eVar 0) (fun _=>pure (.int 1))) (eVar 2)) (z8 (eFn 3 z0X (z8 (eVar 0) (z8 (eVar 1) (z8 (eVar 2) aNil)))) aNil)))) (gN 6)) (Z1 (sRet (clE (Z9 (fAll false) (z8 (z0i [some 6,some 3,none,none] (z79 (eVar 1)) (gT 2 (z2K (gN 2) (z2K (gN 3) z7s))) (fun _=>pure true) (e2 (fEqX false) (e2 fIx (eVar 0) (eVar 2)) (e2 fIx (eVar 0) (e2 fIx (eVar 1) (eVar 3))))) aNil)))) bNil))))))
noncomputable def z1u:List D->M D:=fun ds=>cln (runF 7 z1w ds)
theorem sc_is_steady:FnScope ["machine","thing","many","firsts","standing","home","likes"] ["machine","thing"] (Z4 (top 14)):=⟨rfl,rfl,rfl,by decide +kernel,rfl,by decide +kernel,by decide +kernel⟩
theorem ok_is_steady {P:Program}{w:World}{K:PySem.W.Frag}{mg:Str->Option Value}{base:Heap}(T:DefAt K "is_steady" (top 14)) (mx:∀ v,PySem.W.nsIn K mainGlobals "is_steady" = some (some v)->mg "is_steady" = some v) (z_all:mg "all" = none) (z_enumerate:mg "enumerate" = none) (z_len:mg "len" = none) (z_range:mg "range" = none) (F_is_number_from:Fn P w K mg base 2 "is_number_from" 3 z0l) (F_is_tuple_of:Fn P w K mg base 2 "is_tuple_of" 3 z0T) (F_led_to:Fn P w K mg base 2 "led_to" 3 z0X):Fn P w K mg base 3 "is_steady" 2 z1u:=by
 obtain ⟨f,fd,hf,F⟩:=T
 have hb:Binds K fd ["machine","thing"] []:=F.binds fun _ _ _ _ _ _ us hl=>(by obtain ⟨_,_,rfl⟩:=ar2 hl;rfl)
 exact Fn.cln <| z01 F sc_is_steady hb (mx _ hf) rfl fun cdv A outer s H E hcd hr=>(show SB (cxOf CX0 P w K mg base ["machine","thing","many","firsts","standing","home","likes"] "is_steady" (Z4 (top 14)) f cdv A outer s H E).nox EX0 (j6 (top 14)) z1w from
  have nd:(["machine","thing","many","firsts","standing","home","likes"]:List Str).Nodup:=sc_is_steady.nd
  (z9 (k7 2 nd (z0g rfl z_len (z0 (q5 (z6 0) Z2) Z0))) (z9 (s_if (z0M (z05 (Z7 F_is_tuple_of (hr.mono (by decide)) rfl (z0 (z6 1) (z0 (z6 2) (z0 (z6 2) Z0)))))) (z9 (J2 z1g) Z5) Z5) (z9 (k7 3 nd (z0o Z0)) (z9 (z20 PassesOwn.never rfl (z8w rfl rfl z_enumerate (z6 1)) (zd6 rfl (z2W (x6 4 nd) (z2W (x6 5 nd) z9b))) (z9 (s_if (z0M (z05 (Z7 F_is_number_from (hr.mono (by decide)) rfl (z0 (z6 5) (z0 Z2 (z0 (z0g rfl z_len (z0 (z6 3) Z0)) Z0)))))) (z9 (J2 z1g) Z5) Z5) (z9 (s_if (sc_c (z3b (hu30 hr)) (z6 5) (z0g rfl z_len (z0 (z6 3) Z0))) (z9 (z25 (z0t (z6 3) (z6 4))) Z5) Z5) Z5))) (z9 (k7 6 nd (z04 (N':=["machine","thing","standing"]) (cap:=[some 0,some 1,none]) rfl (z1h (by first | rfl | kernel_rfl!)) (x8 rfl z_range (z6 2)) (fun _ _ _ _=>(y9 2 (show (["machine","thing","standing"]:List Str).Nodup by decide +kernel))) (fun _ _ _ _=>z0v) (fun _ _ _ _=>(z1n (z0 (q5 (q5 (z6 0) Z2) (z6 2)) (z0 (Z7 F_led_to (hr.mono (by decide)) rfl (z0 (z6 0) (z0 (z6 1) (z0 (z6 2) Z0)))) Z0)))))) (z9 (J2 (z1T (zy3 rfl rfl z_all (z0 (z04 (N':=["likes","firsts","standing","home"]) (cap:=[some 6,some 3,none,none]) rfl (z1h (by first | rfl | kernel_rfl!)) (z8w rfl rfl z_enumerate (z6 1)) (fun _ _ _ _=>(zo1 rfl (z5c (y9 2 (show (["likes","firsts","standing","home"]:List Str).Nodup by decide +kernel)) (z5c (y9 3 (show (["likes","firsts","standing","home"]:List Str).Nodup by decide +kernel)) z9T)))) (fun _ _ _ _=>z0v) (fun _ _ _ _=>(se_c (z3b (hu30 hr)) (q5 (z6 0) (z6 2)) (q5 (z6 0) (q5 (z6 1) (z6 3)))))) Z0)))) Z5)))))))
noncomputable def z0d:G->M Out :=
 (Z1 (sIf (noE (cNot (cVal (eFn 2 z1u (z8 (eVar 0) (z8 (eVar 1) aNil)))))) (Z1 (z4w "NoPaper" (z8 (fun _=>pure (.str "no steady row of classes of this machine")) aNil)) bNil) bNil) (Z1 (noE (z3H 2 [some 1,none] (z0k (e2 fAdd (Z9 z3m (z8 (eVar 1) aNil)) (fun _=>pure (.int 1)))) (gN 1) (fun _=>pure true) (orE (eM1 z10 (eVar 0) (eVar 1)) (z1L (eVar 0) (eVar 1))))) (Z1 (noE (sRet (eTup (z8 (Z9 Y7 (z8 (z0i [some 0,some 1,none] (orE (z0D (eVar 2)) (z0Y (eVar 2))) (gN 2) (fun _=>pure true) (eFn 3 z0X (z8 (eVar 0) (z8 (eVar 1) (z8 (eVar 2) aNil))))) aNil)) (z8 (Z9 Y7 (z8 (z0i [some 0,none] (orE (z0D (eVar 2)) (z0Y (eVar 2))) (gN 1) (fun _=>pure true) (e2 fIx (e2 fIx (eVar 0) (fun _=>pure (.int 1))) (eVar 1))) aNil)) aNil))))) bNil)))
noncomputable def Y2:List D->M D:=runF 3 z0d
theorem sc_quotient:FnScope ["machine","row","firsts"] ["machine","row"] (Z4 (top 16)):=⟨rfl,rfl,rfl,by decide +kernel,rfl,by decide +kernel,by decide +kernel⟩
theorem ok_quotient {P:Program}{w:World}{K:PySem.W.Frag}{mg:Str->Option Value}{base:Heap}(T:DefAt K "quotient" (top 16)) (mx:∀ v,PySem.W.nsIn K mainGlobals "quotient" = some (some v)->mg "quotient" = some v) (z_max:mg "max" = none) (z_range:mg "range" = none) (z_tuple:mg "tuple" = none) {A_NoPaper:Addr}{bm_NoPaper:List Value}(T_NoPaper:K3 K mg "NoPaper" A_NoPaper bm_NoPaper) (F_is_steady:Fn P w K mg base 3 "is_steady" 2 z1u) (F_led_to:Fn P w K mg base 2 "led_to" 3 z0X):FnX P w K mg base 4 "quotient" 2 Y2:=by
 obtain ⟨f,fd,hf,F⟩:=T
 have hb:Binds K fd ["machine","row"] []:=F.binds fun _ _ _ _ _ _ us hl=>(by obtain ⟨_,_,rfl⟩:=ar2 hl;rfl)
 exact  zu2 F sc_quotient hb (mx _ hf) rfl fun cdv A outer s H E hcd hr=>(show SB (cxOf (CXE P w base) P w K mg base ["machine","row","firsts"] "quotient" (Z4 (top 16)) f cdv A outer s H E) (EXof K E) (j6 (top 16)) z0d from
  have nd:(["machine","row","firsts"]:List Str).Nodup:=sc_quotient.nd
  (z9 (s_if (zB6 (z0M (z05 (Z7 F_is_steady (hr.mono (by decide)) rfl (z0 (z6 0) (z0 (z6 1) Z0)))))) (z9 (zm6 T_NoPaper rfl (z0 x4 Z0)) Z5) Z5) (z9 (zs9 (z8N 2 (N':=["row","home"]) (cap:=[some 1,none]) rfl (z1h (by first | rfl | kernel_rfl!)) (x8 rfl z_range (Y1 (z9g rfl rfl z_max (z0 (z6 1) Z0)) Z2)) (fun _ _ _ _=>(y9 1 (show (["row","home"]:List Str).Nodup by decide +kernel))) (fun _ _ _ _=>z0v) (fun _ _ _ _=>(z8s (z1H (z6 0) (z6 1)) (z1S (z6 0) (z6 1)))) nd)) (z9 (zs9 (J2 (z1n (z0 (Y8 rfl z_tuple (z0 (z04 (N':=["machine","row","one"]) (cap:=[some 0,some 1,none]) rfl (z1h (by first | rfl | kernel_rfl!)) (z4F (z11 (z6 2)) (z0E (z6 2))) (fun _ _ _ _=>(y9 2 (show (["machine","row","one"]:List Str).Nodup by decide +kernel))) (fun _ _ _ _=>z0v) (fun _ _ _ _=>(Z7 F_led_to (hr.mono (by decide)) rfl (z0 (z6 0) (z0 (z6 1) (z0 (z6 2) Z0)))))) Z0)) (z0 (Y8 rfl z_tuple (z0 (z04 (N':=["machine","one"]) (cap:=[some 0,none]) rfl (z1h (by first | rfl | kernel_rfl!)) (z4F (z11 (z6 2)) (z0E (z6 2))) (fun _ _ _ _=>(y9 1 (show (["machine","one"]:List Str).Nodup by decide +kernel))) (fun _ _ _ _=>z0v) (fun _ _ _ _=>(q5 (q5 (z6 0) Z2) (z6 1)))) Z0)) Z0))))) Z5))))
noncomputable def z1x:G->M Out :=
 (Z1 (z3H 1 [none] (z0Y (eVar 0)) (gN 0) (fun γ=>do let d ← e2 fGe (eVar 0) (e2 fPow (fun _=>pure (.int 10)) (fun _=>pure (.int 18))) γ;asB d) (eVar 0)) (Z1 (sRet (eLst (z8 (eVar 1) (z8 (z0i [none] (z0Y (eVar 0)) (gN 0) (fun γ=>do let d ← e2 fLt (eVar 0) (e2 fPow (fun _=>pure (.int 10)) (fun _=>pure (.int 18))) γ;asB d) (eVar 0)) (z8 (fun _=>pure (.int 5)) (z8 (fun _=>pure (.int 0)) aNil)))))) bNil))
noncomputable def z1t:List D->M D:=runF 2 z1x
theorem sc__law_pool:FnScope ["_law_script","_law_great"] ["_law_script"] (Z4 (top 18)):=⟨rfl,rfl,rfl,by decide +kernel,rfl,by decide +kernel,by decide +kernel⟩
theorem ok__law_pool {P:Program}{w:World}{K:PySem.W.Frag}{mg:Str->Option Value}{base:Heap}(T:DefAt K "_law_pool" (top 18)) (mx:∀ v,PySem.W.nsIn K mainGlobals "_law_pool" = some (some v)->mg "_law_pool" = some v):Fn P w K mg base 1 "_law_pool" 1 z1t:=by
 obtain ⟨f,fd,hf,F⟩:=T
 have hb:Binds K fd ["_law_script"] []:=F.binds fun _ _ _ _ _ _ us hl=>(by obtain ⟨_,rfl⟩:=ar1 hl;rfl)
 exact  z01 F sc__law_pool hb (mx _ hf) rfl fun cdv A outer s H E hcd hr=>(show SB (cxOf CX0 P w K mg base ["_law_script","_law_great"] "_law_pool" (Z4 (top 18)) f cdv A outer s H E).nox EX0 (j6 (top 18)) z1x from
  have nd:(["_law_script","_law_great"]:List Str).Nodup:=sc__law_pool.nd
  (z9 (z8N 1 (N':=["_law_cell"]) (cap:=[none]) rfl (z1h (by first | rfl | kernel_rfl!)) (z0E (z6 0)) (fun _ _ _ _=>(y9 0 (show (["_law_cell"]:List Str).Nodup by decide +kernel))) (fun _ _ _ _=>(z2b (sc_c zw8 (z6 0) (z6F Z2 Z2)))) (fun _ _ _ _=>(z6 0)) nd) (z9 (J2 (z0o (z0 (z6 1) (z0 (z04 (N':=["_law_cell"]) (cap:=[none]) rfl (z1h (by first | rfl | kernel_rfl!)) (z0E (z6 0)) (fun _ _ _ _=>(y9 0 (show (["_law_cell"]:List Str).Nodup by decide +kernel))) (fun _ _ _ _=>(z2b (sc_c zj0 (z6 0) (z6F Z2 Z2)))) (fun _ _ _ _=>(z6 0))) (z0 Z2 (z0 Z2 Z0)))))) Z5)))
noncomputable def z17:G->M Out :=
 (Z1 (sIf (fun γ=>do let d ← e2 fGt (Z9 fLen (z8 (e2 fIx (eVar 0) (fun _=>pure (.int 0))) aNil)) (fun _=>pure (.int 0)) γ;asB d) (Z1 (sAsg (e2 fIx (e2 fIx (eVar 0) (fun _=>pure (.int 0))) (fun _=>pure (.int 0))) (gN 2)) (Z1 (sAsg (e2 fDiv (eVar 2) (eVar 1)) (gIx (e2 fIx (eVar 0) (fun _=>pure (.int 0))) (fun _=>pure (.int 0)))) (Z1 (sIf (fun γ=>do let d ← e2 (fEq false) (e2 fDiv (eVar 2) (eVar 1)) (fun _=>pure (.int 0)) γ;asB d) (Z1 (z1o (eM1 z2s (e2 fIx (eVar 0) (fun _=>pure (.int 0))) (fun _=>pure (.int 0)))) bNil) bNil) (Z1 (sRet (e2 fMod (eVar 2) (eVar 1))) bNil)))) bNil) (Z1 (sAsg (e2 fAdd (e2 fIx (eVar 0) (fun _=>pure (.int 3))) (fun _=>pure (.int 1))) (gIx (eVar 0) (fun _=>pure (.int 3)))) (Z1 (sAsg (fun _=>pure (.int 0)) (gN 2)) (Z1 (sIf (fun γ=>do let d ← e2 fGt (Z9 fLen (z8 (e2 fIx (eVar 0) (fun _=>pure (.int 1))) aNil)) (fun _=>pure (.int 0)) γ;asB d) (Z1 (sAsg (e2 fIx (e2 fIx (eVar 0) (fun _=>pure (.int 1))) (e2 fMod (e2 fIx (eVar 0) (fun _=>pure (.int 3))) (Z9 fLen (z8 (e2 fIx (eVar 0) (fun _=>pure (.int 1))) aNil)))) (gN 2)) bNil) bNil) (Z1 (sAsg (e2 z3X (e2 fMod (eVar 2) (fun _=>pure (.int 2147483629))) (e2 fAdd (e2 z3X (e2 fIx (eVar 0) (fun _=>pure (.int 3))) (e2 fIx (eVar 0) (fun _=>pure (.int 3)))) (fun _=>pure (.int 1)))) (gN 2)) (Z1 (sAsg (e2 fMod (e2 fAdd (e2 fAdd (e2 z3X (e2 fIx (eVar 0) (fun _=>pure (.int 2))) (fun _=>pure (.int 48271))) (eVar 2)) (e2 z3X (fun _=>pure (.int 97)) (e2 fIx (eVar 0) (fun _=>pure (.int 3))))) (fun _=>pure (.int 2147483647))) (gIx (eVar 0) (fun _=>pure (.int 2)))) (Z1 (sRet (e2 fMod (e2 fDiv (e2 fMod (e2 fPow (e2 fIx (eVar 0) (fun _=>pure (.int 2))) (fun _=>pure (.int 5))) (fun _=>pure (.int 2147483629))) (fun _=>pure (.int 64))) (eVar 1))) bNil)))))))
noncomputable def Z3:List D->M D:=runF 3 z17
theorem sc__law_draw:FnScope ["_law_pool_here","_law_many","_law_cell"] ["_law_pool_here","_law_many"] (Z4 (top 19)):=⟨rfl,rfl,rfl,by decide +kernel,rfl,by decide +kernel,by decide +kernel⟩
theorem ok__law_draw {P:Program}{w:World}{K:PySem.W.Frag}{mg:Str->Option Value}{base:Heap}(T:DefAt K "_law_draw" (top 19)) (mx:∀ v,PySem.W.nsIn K mainGlobals "_law_draw" = some (some v)->mg "_law_draw" = some v) (z_len:mg "len" = none):Fn P w K mg base 1 "_law_draw" 2 Z3:=by
 obtain ⟨f,fd,hf,F⟩:=T
 have hb:Binds K fd ["_law_pool_here","_law_many"] []:=F.binds fun _ _ _ _ _ _ us hl=>(by obtain ⟨_,_,rfl⟩:=ar2 hl;rfl)
 exact  z01 F sc__law_draw hb (mx _ hf) rfl fun cdv A outer s H E hcd hr=>(show SB (cxOf CX0 P w K mg base ["_law_pool_here","_law_many","_law_cell"] "_law_draw" (Z4 (top 19)) f cdv A outer s H E).nox EX0 (j6 (top 19)) z17 from
  have nd:(["_law_pool_here","_law_many","_law_cell"]:List Str).Nodup:=sc__law_draw.nd
  (z9 (s_if (sc_c z4k (z0g rfl z_len (z0 (q5 (z6 0) Z2) Z0)) Z2) (z9 (k7 2 nd (q5 (q5 (z6 0) Z2) Z2)) (z9 (z9C (z7X (z6 2) (z6 1)) (zo8 (q5 (z6 0) Z2) Z2)) (z9 (s_if (sc_c z4i (z7X (z6 2) (z6 1)) Z2) (z9 (z25 (z6A (q5 (z6 0) Z2) Z2)) Z5) Z5) (z9 (J2 (z3d (z6 2) (z6 1))) Z5)))) Z5) (z9 (z9C (Y1 (q5 (z6 0) Z2) Z2) (zo8 (z6 0) Z2)) (z9 (k7 2 nd Z2) (z9 (s_if (sc_c z4k (z0g rfl z_len (z0 (q5 (z6 0) Z2) Z0)) Z2) (z9 (k7 2 nd (q5 (q5 (z6 0) Z2) (z3d (q5 (z6 0) Z2) (z0g rfl z_len (z0 (q5 (z6 0) Z2) Z0))))) Z5) Z5) (z9 (k7 2 nd (z4h (z3d (z6 2) Z2) (Y1 (z4h (q5 (z6 0) Z2) (q5 (z6 0) Z2)) Z2))) (z9 (z9C (z3d (Y1 (Y1 (z4h (q5 (z6 0) Z2) Z2) (z6 2)) (z4h Z2 (q5 (z6 0) Z2))) Z2) (zo8 (z6 0) Z2)) (z9 (J2 (z3d (z7X (z3d (z6F (q5 (z6 0) Z2) Z2) Z2) Z2) (z6 1))) Z5))))))))
noncomputable def z16:G->M Out :=
 (Z1 (sAsg (fun _=>pure (.str "abcdefghijklmnopqrstuvwxyz")) (gN 3)) (Z1 (sAsg (eVar 1) (gN 4)) (Z1 (sFor (z0k (eFn 2 Z3 (z8 (eVar 0) (z8 (fun _=>pure (.int 4)) aNil)))) (gN 5) (Z1 (sAsg (e2 fAdd (eVar 4) (e2 fIx (eVar 3) (eFn 2 Z3 (z8 (eVar 0) (z8 (fun _=>pure (.int 26)) aNil))))) (gN 4)) bNil)) (Z1 (sAsg (eFn 2 Z3 (z8 (eVar 0) (z8 (fun _=>pure (.int 26)) aNil))) (gN 6)) (Z1 (sAsg (eLst (z8 (fun _=>pure (.str "yes")) (z8 (fun _=>pure (.str "no")) (z8 (fun _=>pure (.str "not")) (z8 (fun _=>pure (.str "and")) (z8 (fun _=>pure (.str "or")) (z8 (fun _=>pure (.str "step")) (z8 (fun _=>pure (.str "some")) (z8 (fun _=>pure (.str "all")) (z8 (fun _=>pure (.str "next")) (z8 (fun _=>pure (.str "once")) (z8 (fun _=>pure (.str "ever")) (z8 (fun _=>pure (.str "until")) (z8 (fun _=>pure (.str "unless")) aNil)))))))))))))) (gN 7)) (Z1 (sFor (z0k (fun _=>pure (.int 26))) (gN 5) (Z1 (sAsg (e2 fAdd (eVar 4) (e2 fIx (eVar 3) (e2 fMod (e2 fAdd (eVar 6) (eVar 5)) (fun _=>pure (.int 26))))) (gN 8)) (Z1 (sIf (cAnd (fun γ=>do let d ← e2 (fIn true) (eVar 8) (eVar 7) γ;asB d) (fun γ=>do let d ← e2 (fIn true) (eVar 8) (eVar 2) γ;asB d)) (Z1 (sRet (eVar 8)) bNil) bNil) bNil))) (Z1 (sRet (e2 fAdd (eVar 4) (fun _=>pure (.str "x")))) bNil)))))))
noncomputable def z1s:List D->M D:=fun ds=>cln (runF 9 z16 ds)
theorem sc__law_name:FnScope ["_law_pool_here","_law_start","_law_taken","_law_letters","_law_name_here","_law_k","_law_last","_law_words","_law_found"] ["_law_pool_here","_law_start","_law_taken"] (Z4 (top 20)):=⟨rfl,rfl,rfl,by decide +kernel,rfl,by decide +kernel,by decide +kernel⟩
theorem ok__law_name {P:Program}{w:World}{K:PySem.W.Frag}{mg:Str->Option Value}{base:Heap}(T:DefAt K "_law_name" (top 20)) (mx:∀ v,PySem.W.nsIn K mainGlobals "_law_name" = some (some v)->mg "_law_name" = some v) (z_range:mg "range" = none) (F__law_draw:Fn P w K mg base 1 "_law_draw" 2 Z3):Fn P w K mg base 2 "_law_name" 3 z1s:=by
 obtain ⟨f,fd,hf,F⟩:=T
 have hb:Binds K fd ["_law_pool_here","_law_start","_law_taken"] []:=F.binds fun _ _ _ _ _ _ us hl=>(by obtain ⟨_,_,_,rfl⟩:=ar3 hl;rfl)
 exact Fn.cln <| z01 F sc__law_name hb (mx _ hf) rfl fun cdv A outer s H E hcd hr=>(show SB (cxOf CX0 P w K mg base ["_law_pool_here","_law_start","_law_taken","_law_letters","_law_name_here","_law_k","_law_last","_law_words","_law_found"] "_law_name" (Z4 (top 20)) f cdv A outer s H E).nox EX0 (j6 (top 20)) z16 from
  have nd:(["_law_pool_here","_law_start","_law_taken","_law_letters","_law_name_here","_law_k","_law_last","_law_words","_law_found"]:List Str).Nodup:=sc__law_name.nd
  (z9 (k7 3 nd x4) (z9 (k7 4 nd (z6 1)) (z9 (z20 PassesOwn.never rfl (x8 rfl z_range (Z7 F__law_draw (hr.mono (by decide)) rfl (z0 (z6 0) (z0 Z2 Z0)))) (x6 5 nd) (z9 (k7 4 nd (Y1 (z6 4) (q5 (z6 3) (Z7 F__law_draw (hr.mono (by decide)) rfl (z0 (z6 0) (z0 Z2 Z0)))))) Z5)) (z9 (k7 6 nd (Z7 F__law_draw (hr.mono (by decide)) rfl (z0 (z6 0) (z0 Z2 Z0)))) (z9 (k7 7 nd (z0o (z0 x4 (z0 x4 (z0 x4 (z0 x4 (z0 x4 (z0 x4 (z0 x4 (z0 x4 (z0 x4 (z0 x4 (z0 x4 (z0 x4 (z0 x4 Z0))))))))))))))) (z9 (z20 PassesOwn.never rfl (x8 rfl z_range Z2) (x6 5 nd) (z9 (k7 8 nd (Y1 (z6 4) (q5 (z6 3) (z3d (Y1 (z6 6) (z6 5)) Z2)))) (z9 (s_if (SW.sc (z2O (sc_c z5S (z6 8) (z6 7)) (z3o (sc_c z5S (z6 8) (z6 2))))) (z9 (J2 (z6 8)) Z5) Z5) Z5))) (z9 (J2 (Y1 (z6 4) x4)) Z5))))))))
noncomputable def z1c:G->M Out :=
 (Z1 (sAsg (fun _=>pure (.str "abcdefghijklmnopqrstuvwxyz")) (gN 2)) (Z1 (sAsg (fun _=>pure (.str "")) (gN 3)) (Z1 (sFor (z0k (clE (e2 fIx (eLst (z8 (fun _=>pure (.int 0)) (z8 (fun _=>pure (.int 0)) (z8 (fun _=>pure (.int 1)) (z8 (fun _=>pure (.int 4)) aNil))))) (eFn 2 Z3 (z8 (eVar 0) (z8 (fun _=>pure (.int 4)) aNil)))))) (gN 4) (Z1 (sAsg (e2 fAdd (eVar 3) (e2 fIx (eVar 2) (eFn 2 Z3 (z8 (eVar 0) (z8 (fun _=>pure (.int 26)) aNil))))) (gN 3)) bNil)) (Z1 (sAsg (eLst aNil) (gN 5)) (Z1 (sFor (z0k (eVar 1)) (gN 4) (Z1 (z1o (eM1 J8 (eVar 5) (eFn 3 z1s (z8 (eVar 0) (z8 (eVar 3) (z8 (eVar 5) aNil)))))) bNil)) (Z1 (sRet (eVar 5)) bNil))))))
noncomputable def z1a:List D->M D:=fun ds=>cln (runF 6 z1c ds)
theorem sc__law_names:FnScope ["_law_pool_here","_law_many","_law_letters","_law_start","_law_k","_law_names_here"] ["_law_pool_here","_law_many"] (Z4 (top 21)):=⟨rfl,rfl,rfl,by decide +kernel,rfl,by decide +kernel,by decide +kernel⟩
theorem ok__law_names {P:Program}{w:World}{K:PySem.W.Frag}{mg:Str->Option Value}{base:Heap}(T:DefAt K "_law_names" (top 21)) (mx:∀ v,PySem.W.nsIn K mainGlobals "_law_names" = some (some v)->mg "_law_names" = some v) (z_range:mg "range" = none) (F__law_draw:Fn P w K mg base 1 "_law_draw" 2 Z3) (F__law_name:Fn P w K mg base 2 "_law_name" 3 z1s):Fn P w K mg base 3 "_law_names" 2 z1a:=by
 obtain ⟨f,fd,hf,F⟩:=T
 have hb:Binds K fd ["_law_pool_here","_law_many"] []:=F.binds fun _ _ _ _ _ _ us hl=>(by obtain ⟨_,_,rfl⟩:=ar2 hl;rfl)
 exact Fn.cln <| z01 F sc__law_names hb (mx _ hf) rfl fun cdv A outer s H E hcd hr=>(show SB (cxOf CX0 P w K mg base ["_law_pool_here","_law_many","_law_letters","_law_start","_law_k","_law_names_here"] "_law_names" (Z4 (top 21)) f cdv A outer s H E).nox EX0 (j6 (top 21)) z1c from
  have nd:(["_law_pool_here","_law_many","_law_letters","_law_start","_law_k","_law_names_here"]:List Str).Nodup:=sc__law_names.nd
  (z9 (k7 2 nd x4) (z9 (k7 3 nd x4) (z9 (z20 PassesOwn.never rfl (x8 rfl z_range (z1T (q5 (z0o (z0 Z2 (z0 Z2 (z0 Z2 (z0 Z2 Z0))))) (Z7 F__law_draw (hr.mono (by decide)) rfl (z0 (z6 0) (z0 Z2 Z0)))))) (x6 4 nd) (z9 (k7 3 nd (Y1 (z6 3) (q5 (z6 2) (Z7 F__law_draw (hr.mono (by decide)) rfl (z0 (z6 0) (z0 Z2 Z0)))))) Z5)) (z9 (k7 5 nd (z0o Z0)) (z9 (z20 PassesOwn.never rfl (x8 rfl z_range (z6 1)) (x6 4 nd) (z9 (z25 (z0t (z6 5) (Z7 F__law_name (hr.mono (by decide)) rfl (z0 (z6 0) (z0 (z6 3) (z0 (z6 5) Z0)))))) Z5)) (z9 (J2 (z6 5)) Z5)))))))
noncomputable def z0H:G->M Out :=
 (Z1 (sAsg (e2 fAdd (fun _=>pure (.int 1)) (eFn 2 Z3 (z8 (eVar 0) (z8 (eVar 2) aNil)))) (gN 3)) (Z1 (sAsg (e2 fAdd (fun _=>pure (.int 1)) (eFn 2 Z3 (z8 (eVar 0) (z8 (fun _=>pure (.int 4)) aNil)))) (gN 4)) (Z1 (sAsg (eLst aNil) (gN 5)) (Z1 (sAsg (eLst aNil) (gN 6)) (Z1 (sFor (z0k (eVar 3)) (gN 7) (Z1 (z1o (eM1 J8 (eVar 5) (clE (Z9 Y7 (z8 (z0i [some 0,some 4,none] (z0k (eVar 3)) (gN 2) (fun γ=>do let d ← e2 fLt (eFn 2 Z3 (z8 (eVar 0) (z8 (fun _=>pure (.int 6)) aNil))) (eVar 1) γ;asB d) (eVar 2)) aNil))))) (Z1 (z1o (eM1 J8 (eVar 6) (clE (Z9 Y7 (z8 (Z9 z1i (z8 (z0i [some 0,none] (z0Y (eVar 1)) (gN 1) (fun γ=>do let d ← e2 (fEq false) (eFn 2 Z3 (z8 (eVar 0) (z8 (fun _=>pure (.int 2)) aNil))) (fun _=>pure (.int 1)) γ;asB d) (eVar 1)) aNil)) aNil))))) bNil))) (Z1 (sRet (eTup (z8 (Z9 Y7 (z8 (eVar 5) aNil)) (z8 (Z9 Y7 (z8 (eVar 6) aNil)) aNil)))) bNil))))))
noncomputable def z0I:List D->M D:=fun ds=>cln (runF 8 z0H ds)
theorem sc__law_machine:FnScope ["_law_pool_here","_law_names_here","_law_most","_law_many","_law_dense","_law_steps","_law_marks","_law_k"] ["_law_pool_here","_law_names_here","_law_most"] (Z4 (top 22)):=⟨rfl,rfl,rfl,by decide +kernel,rfl,by decide +kernel,by decide +kernel⟩
theorem ok__law_machine {P:Program}{w:World}{K:PySem.W.Frag}{mg:Str->Option Value}{base:Heap}(T:DefAt K "_law_machine" (top 22)) (mx:∀ v,PySem.W.nsIn K mainGlobals "_law_machine" = some (some v)->mg "_law_machine" = some v) (z_range:mg "range" = none) (z_sorted:mg "sorted" = none) (z_tuple:mg "tuple" = none) (F__law_draw:Fn P w K mg base 1 "_law_draw" 2 Z3):Fn P w K mg base 2 "_law_machine" 3 z0I:=by
 obtain ⟨f,fd,hf,F⟩:=T
 have hb:Binds K fd ["_law_pool_here","_law_names_here","_law_most"] []:=F.binds fun _ _ _ _ _ _ us hl=>(by obtain ⟨_,_,_,rfl⟩:=ar3 hl;rfl)
 exact Fn.cln <| z01 F sc__law_machine hb (mx _ hf) rfl fun cdv A outer s H E hcd hr=>(show SB (cxOf CX0 P w K mg base ["_law_pool_here","_law_names_here","_law_most","_law_many","_law_dense","_law_steps","_law_marks","_law_k"] "_law_machine" (Z4 (top 22)) f cdv A outer s H E).nox EX0 (j6 (top 22)) z0H from
  have nd:(["_law_pool_here","_law_names_here","_law_most","_law_many","_law_dense","_law_steps","_law_marks","_law_k"]:List Str).Nodup:=sc__law_machine.nd
  (z9 (k7 3 nd (Y1 Z2 (Z7 F__law_draw (hr.mono (by decide)) rfl (z0 (z6 0) (z0 (z6 2) Z0))))) (z9 (k7 4 nd (Y1 Z2 (Z7 F__law_draw (hr.mono (by decide)) rfl (z0 (z6 0) (z0 Z2 Z0))))) (z9 (k7 5 nd (z0o Z0)) (z9 (k7 6 nd (z0o Z0)) (z9 (z20 PassesOwn.never rfl (x8 rfl z_range (z6 3)) (x6 7 nd) (z9 (z25 (z0t (z6 5) (z1T (Y8 rfl z_tuple (z0 (z04 (N':=["_law_pool_here","_law_dense","_law_to"]) (cap:=[some 0,some 4,none]) rfl (z1h (by first | rfl | kernel_rfl!)) (x8 rfl z_range (z6 3)) (fun _ _ _ _=>(y9 2 (show (["_law_pool_here","_law_dense","_law_to"]:List Str).Nodup by decide +kernel))) (fun _ _ _ _=>(z2b (sc_c zj0 (Z7 F__law_draw (hr.mono (by decide)) rfl (z0 (z6 0) (z0 Z2 Z0))) (z6 1)))) (fun _ _ _ _=>(z6 2))) Z0))))) (z9 (z25 (z0t (z6 6) (z1T (Y8 rfl z_tuple (z0 (z4Y rfl rfl z_sorted (z0 (z04 (N':=["_law_pool_here","_law_name_here"]) (cap:=[some 0,none]) rfl (z1h (by first | rfl | kernel_rfl!)) (z0E (z6 1)) (fun _ _ _ _=>(y9 1 (show (["_law_pool_here","_law_name_here"]:List Str).Nodup by decide +kernel))) (fun _ _ _ _=>(z2b (sc_c z4i (Z7 F__law_draw (hr.mono (by decide)) rfl (z0 (z6 0) (z0 Z2 Z0))) Z2))) (fun _ _ _ _=>(z6 1))) Z0)) Z0))))) Z5))) (z9 (J2 (z1n (z0 (Y8 rfl z_tuple (z0 (z6 5) Z0)) (z0 (Y8 rfl z_tuple (z0 (z6 6) Z0)) Z0)))) Z5)))))))
noncomputable def z1m:G->M Out :=
 (Z1 (sAsg (eLst (z8 (fun _=>pure .non) (z8 (fun _=>pure (.bl true)) (z8 (fun _=>pure (.bl false)) (z8 (fun _=>pure (.str "a")) (z8 (fun _=>pure (.str "")) (z8 (eNeg (fun _=>pure (.int 1))) (z8 (fun _=>pure (.int 40)) (z8 (e2 fAdd (e2 fPow (fun _=>pure (.int 10)) (fun _=>pure (.int 21))) (fun _=>pure (.int 3))) (z8 (eTup aNil) (z8 (eLst aNil) (z8 (eTup (z8 (fun _=>pure (.int 0)) aNil)) (z8 (eLst (z8 (fun _=>pure (.int 0)) aNil)) (z8 (fun _=>newK []) (z8 (fun _=>pure (.str "Aa")) (z8 (fun _=>pure (.str "no")) (z8 (fun _=>pure (.str "abcdefghi")) aNil))))))))))))))))) (gN 1)) (Z1 (sAsg (e2 fAdd (eVar 1) (eLst (z8 (eTup (z8 (fun _=>pure (.str "a")) aNil)) (z8 (fun _=>pure (.int 0)) (z8 (fun _=>pure (.int 1)) (z8 (fun _=>pure (.str "b c")) (z8 (eTup (z8 (fun _=>pure (.int 0)) (z8 (fun _=>pure (.int 0)) aNil))) (z8 (z8k (fun _=>pure (.str "a")) (fun _=>pure (.int 1))) (z8 (fun _=>pure (.str "z")) aNil))))))))) (gN 1)) (Z1 (sRet (e2 fIx (eVar 1) (eFn 2 Z3 (z8 (eVar 0) (z8 (fun _=>pure (.int 23)) aNil))))) bNil)))
noncomputable def z0n:List D->M D:=fun ds=>cln (runF 2 z1m ds)
theorem sc__law_odd:FnScope ["_law_pool_here","_law_some"] ["_law_pool_here"] (Z4 (top 23)):=⟨rfl,rfl,rfl,by decide +kernel,rfl,by decide +kernel,by decide +kernel⟩
theorem ok__law_odd {P:Program}{w:World}{K:PySem.W.Frag}{mg:Str->Option Value}{base:Heap}(T:DefAt K "_law_odd" (top 23)) (mx:∀ v,PySem.W.nsIn K mainGlobals "_law_odd" = some (some v)->mg "_law_odd" = some v) (F__law_draw:Fn P w K mg base 1 "_law_draw" 2 Z3):Fn P w K mg base 2 "_law_odd" 1 z0n:=by
 obtain ⟨f,fd,hf,F⟩:=T
 have hb:Binds K fd ["_law_pool_here"] []:=F.binds fun _ _ _ _ _ _ us hl=>(by obtain ⟨_,rfl⟩:=ar1 hl;rfl)
 exact Fn.cln <| z01 F sc__law_odd hb (mx _ hf) rfl fun cdv A outer s H E hcd hr=>(show SB (cxOf CX0 P w K mg base ["_law_pool_here","_law_some"] "_law_odd" (Z4 (top 23)) f cdv A outer s H E).nox EX0 (j6 (top 23)) z1m from
  have nd:(["_law_pool_here","_law_some"]:List Str).Nodup:=sc__law_odd.nd
  (z9 (k7 1 nd (z0o (z0 zx9 (z0 z1g (z0 z1g (z0 x4 (z0 x4 (z0 (z5e Z2) (z0 Z2 (z0 (Y1 (z6F Z2 Z2) Z2) (z0 (z1n Z0) (z0 (z0o Z0) (z0 (z1n (z0 Z2 Z0)) (z0 (z0o (z0 Z2 Z0)) (z0 zx1 (z0 x4 (z0 x4 (z0 x4 Z0)))))))))))))))))) (z9 (k7 1 nd (Y1 (z6 1) (z0o (z0 (z1n (z0 x4 Z0)) (z0 Z2 (z0 Z2 (z0 x4 (z0 (z1n (z0 Z2 (z0 Z2 Z0))) (z0 (z9V x4 Z2) (z0 x4 Z0)))))))))) (z9 (J2 (q5 (z6 1) (Z7 F__law_draw (hr.mono (by decide)) rfl (z0 (z6 0) (z0 Z2 Z0))))) Z5))))
noncomputable def z1r (mS:List D->M D):G->M Out :=
 (Z1 (sIf (cAnd (cVal (eIsi "tuple" (eVar 1))) (cAnd (fun γ=>do let d ← e2 fGt (Z9 fLen (z8 (eVar 1) aNil)) (fun _=>pure (.int 0)) γ;asB d) (cAnd (fun γ=>do let d ← e2 fGt (eVar 2) (fun _=>pure (.int 0)) γ;asB d) (fun γ=>do let d ← e2 fGt (eFn 2 Z3 (z8 (eVar 0) (z8 (fun _=>pure (.int 6)) aNil))) (fun _=>pure (.int 0)) γ;asB d)))) (Z1 (sAsg (eFn 2 Z3 (z8 (eVar 0) (z8 (Z9 fLen (z8 (eVar 1) aNil)) aNil))) (gN 3)) (Z1 (sRet (e2 fAdd (e2 fAdd (z1e (eVar 1) z2l (z2h (eVar 3))) (eTup (z8 (eFn 3 mS (z8 (eVar 0) (z8 (e2 fIx (eVar 1) (eVar 3)) (z8 (e2 fSub (eVar 2) (fun _=>pure (.int 1))) aNil)))) aNil))) (z1e (eVar 1) (z2h (e2 fAdd (eVar 3) (fun _=>pure (.int 1)))) z2l))) bNil)) bNil) (Z1 (sAsg (eFn 2 Z3 (z8 (eVar 0) (z8 (fun _=>pure (.int 3)) aNil))) (gN 4)) (Z1 (sIf (cAnd (cVal (eIsi "tuple" (eVar 1))) (fun γ=>do let d ← e2 fGt (eVar 4) (fun _=>pure (.int 0)) γ;asB d)) (Z1 (sAsg (eFn 2 Z3 (z8 (eVar 0) (z8 (fun _=>pure (.int 6)) aNil))) (gN 5)) (Z1 (sIf (fun γ=>do let d ← e2 (fEq false) (eVar 5) (fun _=>pure (.int 0)) γ;asB d) (Z1 (sRet (Z9 z5F (z8 (eVar 1) aNil))) bNil) bNil) (Z1 (sIf (fun γ=>do let d ← e2 (fEq false) (eVar 5) (fun _=>pure (.int 1)) γ;asB d) (Z1 (sRet (e2 fAdd (eVar 1) (eTup (z8 (eFn 1 z0n (z8 (eVar 0) aNil)) aNil)))) bNil) bNil) (Z1 (sRet (e2 fIx (eLst (z8 (z1e (eVar 1) z2l (z2h (eNeg (fun _=>pure (.int 1))))) (z8 (eRev (eVar 1) (eNeg (fun _=>pure (.int 1)))) (z8 (e2 fAdd (eVar 1) (z1e (eVar 1) (z2h (eNeg (fun _=>pure (.int 1)))) z2l)) (z8 (z1e (eVar 1) (z2h (fun _=>pure (.int 1))) z2l) aNil))))) (e2 fSub (eVar 5) (fun _=>pure (.int 2))))) bNil)))) bNil) (Z1 (sIf (cAnd (cVal (eIsi "int" (eVar 1))) (cAnd (cNot (cVal (eIsi "bool" (eVar 1)))) (fun γ=>do let d ← e2 fGt (eVar 4) (fun _=>pure (.int 0)) γ;asB d))) (Z1 (sRet (e2 fAdd (eVar 1) (e2 fIx (eLst (z8 (fun _=>pure (.int 1)) (z8 (eNeg (fun _=>pure (.int 1))) (z8 (fun _=>pure (.int 2)) (z8 (e2 fSub (fun _=>pure (.int 0)) (eVar 1)) aNil))))) (eFn 2 Z3 (z8 (eVar 0) (z8 (fun _=>pure (.int 4)) aNil)))))) bNil) bNil) (Z1 (sRet (eFn 1 z0n (z8 (eVar 0) aNil))) bNil)))))
noncomputable def z07:Nat->List D->M D
 | 0=>fun _=>bad
 | k+1=>runF 6 (z1r (z07 k))
theorem sc__law_bent:FnScope ["_law_pool_here","_law_thing","_law_deep","_law_at","_law_way","_law_turn"] ["_law_pool_here","_law_thing","_law_deep"] (Z4 (top 24)):=⟨rfl,rfl,rfl,by decide +kernel,rfl,by decide +kernel,by decide +kernel⟩
theorem ok__law_bent {P:Program}{w:World}{K:PySem.W.Frag}{mg:Str->Option Value}{base:Heap}(T:DefAt K "_law_bent" (top 24)) (mx:∀ v,PySem.W.nsIn K mainGlobals "_law_bent" = some (some v)->mg "_law_bent" = some v) (z_bool:mg "bool" = none) (z_int:mg "int" = none) (z_isinstance:mg "isinstance" = none) (z_len:mg "len" = none) (z_list:mg "list" = none) (z_tuple:mg "tuple" = none) (F__law_draw:Fn P w K mg base 1 "_law_draw" 2 Z3) (F__law_odd:Fn P w K mg base 2 "_law_odd" 1 z0n):∀ k:Nat,Fn P w K mg base (3+k) "_law_bent" 3 (z07 k):=by
 obtain ⟨f,fd,hf,F⟩:=T
 have hb:Binds K fd ["_law_pool_here","_law_thing","_law_deep"] []:=F.binds fun _ _ _ _ _ _ us hl=>(by obtain ⟨_,_,_,rfl⟩:=ar3 hl;rfl)
 intro k
 induction k with
 | zero=>exact zo9 F hb (mx _ hf) rfl
 | succ k F_self =>
  exact z01 (k:=3+k) F sc__law_bent hb (mx _ hf) rfl fun cdv A outer s H E hcd hr=>(show SB (cxOf CX0 P w K mg base ["_law_pool_here","_law_thing","_law_deep","_law_at","_law_way","_law_turn"] "_law_bent" (Z4 (top 24)) f cdv A outer s H E).nox EX0 (j6 (top 24)) (z1r (z07 k)) from
   have nd:(["_law_pool_here","_law_thing","_law_deep","_law_at","_law_way","_law_turn"]:List Str).Nodup:=sc__law_bent.nd
   (z9 (s_if (SW.sc (z2O (z05 (z1G rfl z_isinstance rfl z_tuple (by decide +kernel) (by decide) (z6 1))) (z2O (sc_c z4k (z0g rfl z_len (z0 (z6 1) Z0)) Z2) (z2O (sc_c z4k (z6 2) Z2) (z3o (sc_c z4k (Z7 F__law_draw (hr.mono (by omega)) rfl (z0 (z6 0) (z0 Z2 Z0))) Z2)))))) (z9 (k7 3 nd (Z7 F__law_draw (hr.mono (by omega)) rfl (z0 (z6 0) (z0 (z0g rfl z_len (z0 (z6 1) Z0)) Z0)))) (z9 (J2 (Y1 (Y1 (z1y (z6 1) z2e (z2c (z6 3))) (z1n (z0 (Z7 F_self (hr.mono (by omega)) rfl (z0 (z6 0) (z0 (q5 (z6 1) (z6 3)) (z0 (z64 (z6 2) Z2) Z0)))) Z0))) (z1y (z6 1) (z2c (Y1 (z6 3) Z2)) z2e))) Z5)) Z5) (z9 (k7 4 nd (Z7 F__law_draw (hr.mono (by omega)) rfl (z0 (z6 0) (z0 Z2 Z0)))) (z9 (s_if (SW.sc (z2O (z05 (z1G rfl z_isinstance rfl z_tuple (by decide +kernel) (by decide) (z6 1))) (z3o (sc_c z4k (z6 4) Z2)))) (z9 (k7 5 nd (Z7 F__law_draw (hr.mono (by omega)) rfl (z0 (z6 0) (z0 Z2 Z0)))) (z9 (s_if (sc_c z4i (z6 5) Z2) (z9 (J2 (z7q rfl z_list (z0 (z6 1) Z0))) Z5) Z5) (z9 (s_if (sc_c z4i (z6 5) Z2) (z9 (J2 (Y1 (z6 1) (z1n (z0 (Z7 F__law_odd (hr.mono (by omega)) rfl (z0 (z6 0) Z0)) Z0)))) Z5) Z5) (z9 (J2 (q5 (z0o (z0 (z1y (z6 1) z2e (z2c (z5e Z2))) (z0 (zE5 (z6 1) (z5e Z2)) (z0 (Y1 (z6 1) (z1y (z6 1) (z2c (z5e Z2)) z2e)) (z0 (z1y (z6 1) (z2c Z2) z2e) Z0))))) (z64 (z6 5) Z2))) Z5)))) Z5) (z9 (s_if (SW.sc (z2O (z05 (z1G rfl z_isinstance rfl z_int (by decide +kernel) (by decide) (z6 1))) (z2O (z0M (z05 (z1G rfl z_isinstance rfl z_bool (by decide +kernel) (by decide) (z6 1)))) (z3o (sc_c z4k (z6 4) Z2))))) (z9 (J2 (Y1 (z6 1) (q5 (z0o (z0 Z2 (z0 (z5e Z2) (z0 Z2 (z0 (z64 Z2 (z6 1)) Z0))))) (Z7 F__law_draw (hr.mono (by omega)) rfl (z0 (z6 0) (z0 Z2 Z0)))))) Z5) Z5) (z9 (J2 (Z7 F__law_odd (hr.mono (by omega)) rfl (z0 (z6 0) Z0))) Z5))))))
noncomputable def v5:G->M Out :=
 (Z1 (sRet (eAnd (eIsi "int" (eVar 0)) (eAnd (eNot (eIsi "bool" (eVar 0))) (e3 fLe fLt (eVar 1) (eVar 0) (eVar 2))))) bNil)
noncomputable def v8:List D->M D:=fun ds=>cln (runF 3 v5 ds)
theorem sc__law_number:FnScope ["_law_thing","_law_low","_law_high"] ["_law_thing","_law_low","_law_high"] (Z4 (top 25)):=⟨rfl,rfl,rfl,by decide +kernel,rfl,by decide +kernel,by decide +kernel⟩
theorem ok__law_number {P:Program}{w:World}{K:PySem.W.Frag}{mg:Str->Option Value}{base:Heap}(T:DefAt K "_law_number" (top 25)) (mx:∀ v,PySem.W.nsIn K mainGlobals "_law_number" = some (some v)->mg "_law_number" = some v) (z_bool:mg "bool" = none) (z_int:mg "int" = none) (z_isinstance:mg "isinstance" = none):Fn P w K mg base 1 "_law_number" 3 v8:=by
 obtain ⟨f,fd,hf,F⟩:=T
 have hb:Binds K fd ["_law_thing","_law_low","_law_high"] []:=F.binds fun _ _ _ _ _ _ us hl=>(by obtain ⟨_,_,_,rfl⟩:=ar3 hl;rfl)
 exact Fn.cln <| z01 F sc__law_number hb (mx _ hf) rfl fun cdv A outer s H E hcd hr=>(show SB (cxOf CX0 P w K mg base ["_law_thing","_law_low","_law_high"] "_law_number" (Z4 (top 25)) f cdv A outer s H E).nox EX0 (j6 (top 25)) v5 from
  have nd:(["_law_thing","_law_low","_law_high"]:List Str).Nodup:=sc__law_number.nd
  (z9 (J2 (z1O (z1G rfl z_isinstance rfl z_int (by decide +kernel) (by decide) (z6 0)) (z1O (z7P (z1G rfl z_isinstance rfl z_bool (by decide +kernel) (by decide) (z6 0))) (z39 (z9r z5H zj0 (z6 1) (z6 0) (z6 2)))))) Z5))
noncomputable def z0c:G->M Out :=
 (Z1 (sRet (eAnd (eIsi "tuple" (eVar 0)) (e3 fLe fLe (eVar 1) (Z9 fLen (z8 (eVar 0) aNil)) (eVar 2)))) bNil)
noncomputable def y3:List D->M D:=fun ds=>cln (runF 3 z0c ds)
theorem sc__law_tuple:FnScope ["_law_thing","_law_least","_law_most"] ["_law_thing","_law_least","_law_most"] (Z4 (top 26)):=⟨rfl,rfl,rfl,by decide +kernel,rfl,by decide +kernel,by decide +kernel⟩
theorem ok__law_tuple {P:Program}{w:World}{K:PySem.W.Frag}{mg:Str->Option Value}{base:Heap}(T:DefAt K "_law_tuple" (top 26)) (mx:∀ v,PySem.W.nsIn K mainGlobals "_law_tuple" = some (some v)->mg "_law_tuple" = some v) (z_isinstance:mg "isinstance" = none) (z_len:mg "len" = none) (z_tuple:mg "tuple" = none):Fn P w K mg base 1 "_law_tuple" 3 y3:=by
 obtain ⟨f,fd,hf,F⟩:=T
 have hb:Binds K fd ["_law_thing","_law_least","_law_most"] []:=F.binds fun _ _ _ _ _ _ us hl=>(by obtain ⟨_,_,_,rfl⟩:=ar3 hl;rfl)
 exact Fn.cln <| z01 F sc__law_tuple hb (mx _ hf) rfl fun cdv A outer s H E hcd hr=>(show SB (cxOf CX0 P w K mg base ["_law_thing","_law_least","_law_most"] "_law_tuple" (Z4 (top 26)) f cdv A outer s H E).nox EX0 (j6 (top 26)) z0c from
  have nd:(["_law_thing","_law_least","_law_most"]:List Str).Nodup:=sc__law_tuple.nd
  (z9 (J2 (z1O (z1G rfl z_isinstance rfl z_tuple (by decide +kernel) (by decide) (z6 0)) (z39 (z9r z5H z5H (z6 1) (z0g rfl z_len (z0 (z6 0) Z0)) (z6 2))))) Z5))
noncomputable def z0y:G->M Out :=
 (Z1 (sIf (cNot (cVal (eFn 3 y3 (z8 (eVar 0) (z8 (fun _=>pure (.int 0)) (z8 (eVar 1) aNil)))))) (Z1 (sRet (fun _=>pure (.bl false))) bNil) bNil) (Z1 (sFor (z0k (Z9 fLen (z8 (eVar 0) aNil))) (gN 2) (Z1 (sIf (cOr (cNot (cVal (eFn 3 v8 (z8 (e2 fIx (eVar 0) (eVar 2)) (z8 (fun _=>pure (.int 0)) (z8 (eVar 1) aNil)))))) (cAnd (fun γ=>do let d ← e2 fGt (eVar 2) (fun _=>pure (.int 0)) γ;asB d) (fun γ=>do let d ← e2 fGe (e2 fIx (eVar 0) (e2 fSub (eVar 2) (fun _=>pure (.int 1)))) (e2 fIx (eVar 0) (eVar 2)) γ;asB d))) (Z1 (sRet (fun _=>pure (.bl false))) bNil) bNil) bNil)) (Z1 (sRet (fun _=>pure (.bl true))) bNil)))
noncomputable def z0s:List D->M D:=fun ds=>cln (runF 3 z0y ds)
theorem sc__law_good_set:FnScope ["_law_thing","_law_many","_law_k"] ["_law_thing","_law_many"] (Z4 (top 27)):=⟨rfl,rfl,rfl,by decide +kernel,rfl,by decide +kernel,by decide +kernel⟩
theorem ok__law_good_set {P:Program}{w:World}{K:PySem.W.Frag}{mg:Str->Option Value}{base:Heap}(T:DefAt K "_law_good_set" (top 27)) (mx:∀ v,PySem.W.nsIn K mainGlobals "_law_good_set" = some (some v)->mg "_law_good_set" = some v) (z_len:mg "len" = none) (z_range:mg "range" = none) (F__law_number:Fn P w K mg base 1 "_law_number" 3 v8) (F__law_tuple:Fn P w K mg base 1 "_law_tuple" 3 y3):Fn P w K mg base 2 "_law_good_set" 2 z0s:=by
 obtain ⟨f,fd,hf,F⟩:=T
 have hb:Binds K fd ["_law_thing","_law_many"] []:=F.binds fun _ _ _ _ _ _ us hl=>(by obtain ⟨_,_,rfl⟩:=ar2 hl;rfl)
 exact Fn.cln <| z01 F sc__law_good_set hb (mx _ hf) rfl fun cdv A outer s H E hcd hr=>(show SB (cxOf CX0 P w K mg base ["_law_thing","_law_many","_law_k"] "_law_good_set" (Z4 (top 27)) f cdv A outer s H E).nox EX0 (j6 (top 27)) z0y from
  have nd:(["_law_thing","_law_many","_law_k"]:List Str).Nodup:=sc__law_good_set.nd
  (z9 (s_if (z0M (z05 (Z7 F__law_tuple (hr.mono (by decide)) rfl (z0 (z6 0) (z0 Z2 (z0 (z6 1) Z0)))))) (z9 (J2 z1g) Z5) Z5) (z9 (z20 PassesOwn.never rfl (x8 rfl z_range (z0g rfl z_len (z0 (z6 0) Z0))) (x6 2 nd) (z9 (s_if (SW.sc (z5L (z0M (z05 (Z7 F__law_number (hr.mono (by decide)) rfl (z0 (q5 (z6 0) (z6 2)) (z0 Z2 (z0 (z6 1) Z0)))))) (z3C (SW.sc (z2O (sc_c z4k (z6 2) Z2) (z3o (sc_c zw8 (q5 (z6 0) (z64 (z6 2) Z2)) (q5 (z6 0) (z6 2))))))))) (z9 (J2 z1g) Z5) Z5) Z5)) (z9 (J2 z1g) Z5))))
noncomputable def z0a:G->M Out :=
 (Z1 (sAsg (Z9 v7 (z8 (Z9 z15 (z8 (eVar 0) aNil)) aNil)) (gN 1)) (Z1 (sRet (clE (Z9 Y7 (z8 (z0i [some 1,none] (z0Y (eVar 0)) (gN 1) (fun _=>pure true) (orE (eM1 z10 (eVar 0) (eVar 1)) (z1L (eVar 0) (eVar 1)))) aNil)))) bNil))
noncomputable def z0b:List D->M D:=fun ds=>cln (runF 2 z0a ds)
theorem sc__law_numbered:FnScope ["_law_homes","_law_order"] ["_law_homes"] (Z4 (top 28)):=⟨rfl,rfl,rfl,by decide +kernel,rfl,by decide +kernel,by decide +kernel⟩
theorem ok__law_numbered {P:Program}{w:World}{K:PySem.W.Frag}{mg:Str->Option Value}{base:Heap}(T:DefAt K "_law_numbered" (top 28)) (mx:∀ v,PySem.W.nsIn K mainGlobals "_law_numbered" = some (some v)->mg "_law_numbered" = some v) (z_set:mg "set" = none) (z_sorted:mg "sorted" = none) (z_tuple:mg "tuple" = none):Fn P w K mg base 1 "_law_numbered" 1 z0b:=by
 obtain ⟨f,fd,hf,F⟩:=T
 have hb:Binds K fd ["_law_homes"] []:=F.binds fun _ _ _ _ _ _ us hl=>(by obtain ⟨_,rfl⟩:=ar1 hl;rfl)
 exact Fn.cln <| z01 F sc__law_numbered hb (mx _ hf) rfl fun cdv A outer s H E hcd hr=>(show SB (cxOf CX0 P w K mg base ["_law_homes","_law_order"] "_law_numbered" (Z4 (top 28)) f cdv A outer s H E).nox EX0 (j6 (top 28)) z0a from
  have nd:(["_law_homes","_law_order"]:List Str).Nodup:=sc__law_numbered.nd
  (z9 (k7 1 nd (z1p rfl rfl z_sorted (z0 (z2t rfl rfl z_set (z0 (z6 0) Z0)) Z0))) (z9 (J2 (z1T (Y8 rfl z_tuple (z0 (z04 (N':=["_law_order","_law_home"]) (cap:=[some 1,none]) rfl (z1h (by first | rfl | kernel_rfl!)) (z0E (z6 0)) (fun _ _ _ _=>(y9 1 (show (["_law_order","_law_home"]:List Str).Nodup by decide +kernel))) (fun _ _ _ _=>z0v) (fun _ _ _ _=>(z8s (z1H (z6 0) (z6 1)) (z1S (z6 0) (z6 1))))) Z0)))) Z5)))
noncomputable def z0V:G->M Out :=
 (Z1 (sAsg (Z9 fLen (z8 (e2 fIx (eVar 0) (fun _=>pure (.int 0))) aNil)) (gN 2)) (Z1 (sIf (cNot (cVal (eFn 3 y3 (z8 (eVar 1) (z8 (eVar 2) (z8 (eVar 2) aNil)))))) (Z1 (sRet (fun _=>pure (.bl false))) bNil) bNil) (Z1 (sAsg (fun _=>pure (.int 0)) (gN 3)) (Z1 (sFor (z0D (eVar 1)) (gN 4) (Z1 (sIf (cNot (cVal (eFn 3 v8 (z8 (eVar 4) (z8 (fun _=>pure (.int 0)) (z8 (e2 fAdd (eVar 3) (fun _=>pure (.int 1))) aNil)))))) (Z1 (sRet (fun _=>pure (.bl false))) bNil) bNil) (Z1 (sAsg (Z9 z84 (z8 (eVar 3) (z8 (e2 fAdd (eVar 4) (fun _=>pure (.int 1))) aNil))) (gN 3)) bNil))) (Z1 (sFor (z0k (eVar 2)) (gN 4) (Z1 (sAsg (orE (eM1 z10 (eVar 1) (e2 fIx (eVar 1) (eVar 4))) (z1L (eVar 1) (e2 fIx (eVar 1) (eVar 4)))) (gN 5)) (Z1 (sIf (fun γ=>do let d ← e2 (fEqX true) (e2 fIx (e2 fIx (eVar 0) (fun _=>pure (.int 1))) (eVar 4)) (e2 fIx (e2 fIx (eVar 0) (fun _=>pure (.int 1))) (eVar 5)) γ;asB d) (Z1 (sRet (fun _=>pure (.bl false))) bNil) bNil) (Z1 (sAsg (Z9 v7 (z8 (Z9 z15 (z8 (z0i [some 1,none] (z0D (e2 fIx (e2 fIx (eVar 0) (fun _=>pure (.int 0))) (eVar 4))) (gN 1) (fun _=>pure true) (e2 fIx (eVar 0) (eVar 1))) aNil)) aNil)) (gN 6)) (Z1 (sIf (clT (fun γ=>do let d ← e2 (fEqX true) (eVar 6) (Z9 v7 (z8 (Z9 z15 (z8 (z0i [some 1,none] (z0D (e2 fIx (e2 fIx (eVar 0) (fun _=>pure (.int 0))) (eVar 5))) (gN 1) (fun _=>pure true) (e2 fIx (eVar 0) (eVar 1))) aNil)) aNil)) γ;asB d)) (Z1 (sRet (fun _=>pure (.bl false))) bNil) bNil) bNil))))) (Z1 (sRet (fun _=>pure (.bl true))) bNil))))))
noncomputable def z0u:List D->M D:=fun ds=>cln (runF 7 z0V ds)
theorem sc__law_steady:FnScope ["_law_machine_here","_law_thing","_law_many","_law_top","_law_one","_law_first","_law_here"] ["_law_machine_here","_law_thing"] (Z4 (top 29)):=⟨rfl,rfl,rfl,by decide +kernel,rfl,by decide +kernel,by decide +kernel⟩
theorem ok__law_steady {P:Program}{w:World}{K:PySem.W.Frag}{mg:Str->Option Value}{base:Heap}(T:DefAt K "_law_steady" (top 29)) (mx:∀ v,PySem.W.nsIn K mainGlobals "_law_steady" = some (some v)->mg "_law_steady" = some v) (z_len:mg "len" = none) (z_max:mg "max" = none) (z_range:mg "range" = none) (z_set:mg "set" = none) (z_sorted:mg "sorted" = none) (F__law_number:Fn P w K mg base 1 "_law_number" 3 v8) (F__law_tuple:Fn P w K mg base 1 "_law_tuple" 3 y3):Fn P w K mg base 2 "_law_steady" 2 z0u:=by
 obtain ⟨f,fd,hf,F⟩:=T
 have hb:Binds K fd ["_law_machine_here","_law_thing"] []:=F.binds fun _ _ _ _ _ _ us hl=>(by obtain ⟨_,_,rfl⟩:=ar2 hl;rfl)
 exact Fn.cln <| z01 F sc__law_steady hb (mx _ hf) rfl fun cdv A outer s H E hcd hr=>(show SB (cxOf CX0 P w K mg base ["_law_machine_here","_law_thing","_law_many","_law_top","_law_one","_law_first","_law_here"] "_law_steady" (Z4 (top 29)) f cdv A outer s H E).nox EX0 (j6 (top 29)) z0V from
  have nd:(["_law_machine_here","_law_thing","_law_many","_law_top","_law_one","_law_first","_law_here"]:List Str).Nodup:=sc__law_steady.nd
  (z9 (k7 2 nd (z0g rfl z_len (z0 (q5 (z6 0) Z2) Z0))) (z9 (s_if (z0M (z05 (Z7 F__law_tuple (hr.mono (by decide)) rfl (z0 (z6 1) (z0 (z6 2) (z0 (z6 2) Z0)))))) (z9 (J2 z1g) Z5) Z5) (z9 (k7 3 nd Z2) (z9 (z20 PassesOwn.never rfl (z11 (z6 1)) (x6 4 nd) (z9 (s_if (z0M (z05 (Z7 F__law_number (hr.mono (by decide)) rfl (z0 (z6 4) (z0 Z2 (z0 (Y1 (z6 3) Z2) Z0)))))) (z9 (J2 z1g) Z5) Z5) (z9 (k7 3 nd (zm1 rfl rfl z_max (z0 (z6 3) (z0 (Y1 (z6 4) Z2) Z0)))) Z5))) (z9 (z20 PassesOwn.never rfl (x8 rfl z_range (z6 2)) (x6 4 nd) (z9 (k7 5 nd (z8s (z1H (z6 1) (q5 (z6 1) (z6 4))) (z1S (z6 1) (q5 (z6 1) (z6 4))))) (z9 (s_if (sc_c (z7U (hu30 hr)) (q5 (q5 (z6 0) Z2) (z6 4)) (q5 (q5 (z6 0) Z2) (z6 5))) (z9 (J2 z1g) Z5) Z5) (z9 (k7 6 nd (z1p rfl rfl z_sorted (z0 (z2t rfl rfl z_set (z0 (z04 (N':=["_law_thing","_law_to"]) (cap:=[some 1,none]) rfl (z1h (by first | rfl | kernel_rfl!)) (z11 (q5 (q5 (z6 0) Z2) (z6 4))) (fun _ _ _ _=>(y9 1 (show (["_law_thing","_law_to"]:List Str).Nodup by decide +kernel))) (fun _ _ _ _=>z0v) (fun _ _ _ _=>(q5 (z6 0) (z6 1)))) Z0)) Z0))) (z9 (s_if (zt9 (sc_c (z7U (hu30 hr)) (z6 6) (z1p rfl rfl z_sorted (z0 (z2t rfl rfl z_set (z0 (z04 (N':=["_law_thing","_law_to"]) (cap:=[some 1,none]) rfl (z1h (by first | rfl | kernel_rfl!)) (z11 (q5 (q5 (z6 0) Z2) (z6 5))) (fun _ _ _ _=>(y9 1 (show (["_law_thing","_law_to"]:List Str).Nodup by decide +kernel))) (fun _ _ _ _=>z0v) (fun _ _ _ _=>(q5 (z6 0) (z6 1)))) Z0)) Z0)))) (z9 (J2 z1g) Z5) Z5) Z5))))) (z9 (J2 z1g) Z5)))))))
noncomputable def z0S:G->M Out :=
 (Z1 (sAsg (eRng false (Z9 fLen (z8 (e2 fIx (eVar 1) (fun _=>pure (.int 0))) aNil))) (gN 3)) (Z1 (sFor (z0k (eFn 2 Z3 (z8 (eVar 0) (z8 (e2 fAdd (eVar 2) (fun _=>pure (.int 1))) aNil)))) (gN 4) (Z1 (z1o (eM1 J8 (eVar 3) (eFn 2 Z3 (z8 (eVar 0) (z8 (Z9 fLen (z8 (e2 fIx (eVar 1) (fun _=>pure (.int 0))) aNil)) aNil))))) bNil)) (Z1 (sAsg (eLst aNil) (gN 5)) (Z1 (sFor (z0k (Z9 fLen (z8 (eVar 3) aNil))) (gN 4) (Z1 (z1o (eM1 J8 (eVar 5) (eM1 z2s (eVar 3) (eFn 2 Z3 (z8 (eVar 0) (z8 (Z9 fLen (z8 (eVar 3) aNil)) aNil)))))) bNil)) (Z1 (sAsg (eLst aNil) (gN 6)) (Z1 (sFor (orE (z0D (eVar 5)) (z0Y (eVar 5))) (gN 7) (Z1 (sAsg (eLst aNil) (gN 8)) (Z1 (sFor (orE (z0D (e2 fIx (e2 fIx (eVar 1) (fun _=>pure (.int 0))) (eVar 7))) (z0Y (e2 fIx (e2 fIx (eVar 1) (fun _=>pure (.int 0))) (eVar 7)))) (gN 9) (Z1 (z3H 10 [some 5,some 9,none] (z0k (Z9 fLen (z8 (eVar 5) aNil))) (gN 2) (fun γ=>do let d ← e2 (fEqX false) (e2 fIx (eVar 0) (eVar 2)) (eVar 1) γ;asB d) (eVar 2)) (Z1 (sAsg (e2 fIx (eVar 10) (eFn 2 Z3 (z8 (eVar 0) (z8 (Z9 fLen (z8 (eVar 10) aNil)) aNil)))) (gN 11)) (Z1 (sAsg (e2 fAdd (eVar 8) (z0i [some 11,some 0,none] (orE (z0D (eVar 10)) (z0Y (eVar 10))) (gN 2) (cOr (fun γ=>do let d ← e2 (fEqX false) (eVar 2) (eVar 0) γ;asB d) (fun γ=>do let d ← e2 (fEq false) (eFn 2 Z3 (z8 (eVar 1) (z8 (fun _=>pure (.int 3)) aNil))) (fun _=>pure (.int 0)) γ;asB d)) (eVar 2))) (gN 8)) bNil)))) (Z1 (z1o (eM1 J8 (eVar 6) (clE (Z9 Y7 (z8 (Z9 z1i (z8 (eVar 8) aNil)) aNil))))) bNil)))) (Z1 (sRet (eTup (z8 (eTup (z8 (Z9 Y7 (z8 (eVar 6) aNil)) (z8 (clE (Z9 Y7 (z8 (z0i [some 1,none] (orE (z0D (eVar 5)) (z0Y (eVar 5))) (gN 1) (fun _=>pure true) (e2 fIx (e2 fIx (eVar 0) (fun _=>pure (.int 1))) (eVar 1))) aNil))) aNil))) (z8 (eVar 5) aNil)))) bNil)))))))
noncomputable def z0W:List D->M D:=fun ds=>cln (runF 12 z0S ds)
theorem sc__law_copies:FnScope ["_law_pool_here","_law_base","_law_most","_law_kinds","_law_k","_law_raw","_law_steps","_law_kind","_law_ahead","_law_to","_law_mates","_law_sure"] ["_law_pool_here","_law_base","_law_most"] (Z4 (top 30)):=⟨rfl,rfl,rfl,by decide +kernel,rfl,by decide +kernel,by decide +kernel⟩
theorem ok__law_copies {P:Program}{w:World}{K:PySem.W.Frag}{mg:Str->Option Value}{base:Heap}(T:DefAt K "_law_copies" (top 30)) (mx:∀ v,PySem.W.nsIn K mainGlobals "_law_copies" = some (some v)->mg "_law_copies" = some v) (z_len:mg "len" = none) (z_list:mg "list" = none) (z_range:mg "range" = none) (z_sorted:mg "sorted" = none) (z_tuple:mg "tuple" = none) (F__law_draw:Fn P w K mg base 1 "_law_draw" 2 Z3):Fn P w K mg base 2 "_law_copies" 3 z0W:=by
 obtain ⟨f,fd,hf,F⟩:=T
 have hb:Binds K fd ["_law_pool_here","_law_base","_law_most"] []:=F.binds fun _ _ _ _ _ _ us hl=>(by obtain ⟨_,_,_,rfl⟩:=ar3 hl;rfl)
 exact Fn.cln <| z01 F sc__law_copies hb (mx _ hf) rfl fun cdv A outer s H E hcd hr=>(show SB (cxOf CX0 P w K mg base ["_law_pool_here","_law_base","_law_most","_law_kinds","_law_k","_law_raw","_law_steps","_law_kind","_law_ahead","_law_to","_law_mates","_law_sure"] "_law_copies" (Z4 (top 30)) f cdv A outer s H E).nox EX0 (j6 (top 30)) z0S from
  have nd:(["_law_pool_here","_law_base","_law_most","_law_kinds","_law_k","_law_raw","_law_steps","_law_kind","_law_ahead","_law_to","_law_mates","_law_sure"]:List Str).Nodup:=sc__law_copies.nd
  (z9 (k7 3 nd (za7 rfl rfl z_list rfl z_range (z0g rfl z_len (z0 (q5 (z6 1) Z2) Z0)))) (z9 (z20 PassesOwn.never rfl (x8 rfl z_range (Z7 F__law_draw (hr.mono (by decide)) rfl (z0 (z6 0) (z0 (Y1 (z6 2) Z2) Z0)))) (x6 4 nd) (z9 (z25 (z0t (z6 3) (Z7 F__law_draw (hr.mono (by decide)) rfl (z0 (z6 0) (z0 (z0g rfl z_len (z0 (q5 (z6 1) Z2) Z0)) Z0))))) Z5)) (z9 (k7 5 nd (z0o Z0)) (z9 (z20 PassesOwn.never rfl (x8 rfl z_range (z0g rfl z_len (z0 (z6 3) Z0))) (x6 4 nd) (z9 (z25 (z0t (z6 5) (z6A (z6 3) (Z7 F__law_draw (hr.mono (by decide)) rfl (z0 (z6 0) (z0 (z0g rfl z_len (z0 (z6 3) Z0)) Z0)))))) Z5)) (z9 (k7 6 nd (z0o Z0)) (z9 (z20 PassesOwn.never rfl (z4F (z11 (z6 5)) (z0E (z6 5))) (x6 7 nd) (z9 (k7 8 nd (z0o Z0)) (z9 (z20 PassesOwn.never rfl (z4F (z11 (q5 (q5 (z6 1) Z2) (z6 7))) (z0E (q5 (q5 (z6 1) Z2) (z6 7)))) (x6 9 nd) (z9 (z8N 10 (N':=["_law_raw","_law_to","_law_one"]) (cap:=[some 5,some 9,none]) rfl (z1h (by first | rfl | kernel_rfl!)) (x8 rfl z_range (z0g rfl z_len (z0 (z6 5) Z0))) (fun _ _ _ _=>(y9 2 (show (["_law_raw","_law_to","_law_one"]:List Str).Nodup by decide +kernel))) (fun _ _ _ _=>(z2b (sc_c (z3b (hu30 hr)) (q5 (z6 0) (z6 2)) (z6 1)))) (fun _ _ _ _=>(z6 2)) nd) (z9 (k7 11 nd (q5 (z6 10) (Z7 F__law_draw (hr.mono (by decide)) rfl (z0 (z6 0) (z0 (z0g rfl z_len (z0 (z6 10) Z0)) Z0))))) (z9 (k7 8 nd (Y1 (z6 8) (z04 (N':=["_law_sure","_law_pool_here","_law_one"]) (cap:=[some 11,some 0,none]) rfl (z1h (by first | rfl | kernel_rfl!)) (z4F (z11 (z6 10)) (z0E (z6 10))) (fun _ _ _ _=>(y9 2 (show (["_law_sure","_law_pool_here","_law_one"]:List Str).Nodup by decide +kernel))) (fun _ _ _ _=>(z2b (SW.sc (z5L (sc_c (z3b (hu30 hr)) (z6 2) (z6 0)) (z3C (sc_c z4i (Z7 F__law_draw (hr.mono (by decide)) rfl (z0 (z6 1) (z0 Z2 Z0))) Z2)))))) (fun _ _ _ _=>(z6 2))))) Z5)))) (z9 (z25 (z0t (z6 6) (z1T (Y8 rfl z_tuple (z0 (z4Y rfl rfl z_sorted (z0 (z6 8) Z0)) Z0))))) Z5)))) (z9 (J2 (z1n (z0 (z1n (z0 (Y8 rfl z_tuple (z0 (z6 6) Z0)) (z0 (z1T (Y8 rfl z_tuple (z0 (z04 (N':=["_law_base","_law_kind"]) (cap:=[some 1,none]) rfl (z1h (by first | rfl | kernel_rfl!)) (z4F (z11 (z6 5)) (z0E (z6 5))) (fun _ _ _ _=>(y9 1 (show (["_law_base","_law_kind"]:List Str).Nodup by decide +kernel))) (fun _ _ _ _=>z0v) (fun _ _ _ _=>(q5 (q5 (z6 0) Z2) (z6 1)))) Z0))) Z0))) (z0 (z6 5) Z0)))) Z5))))))))
noncomputable def z0f:G->M Out :=
 (Z1 (sRet (clE (Z9 Y7 (z8 (z0i [some 0,none] (z0Y (eVar 0)) (gN 1) (fun _=>pure true) (orE (eM1 z10 (eVar 0) (eVar 1)) (z1L (eVar 0) (eVar 1)))) aNil)))) bNil)
noncomputable def z0U:List D->M D:=fun ds=>cln (runF 1 z0f ds)
theorem sc__law_row_of:FnScope ["_law_raw"] ["_law_raw"] (Z4 (top 31)):=⟨rfl,rfl,rfl,by decide +kernel,rfl,by decide +kernel,by decide +kernel⟩
theorem ok__law_row_of {P:Program}{w:World}{K:PySem.W.Frag}{mg:Str->Option Value}{base:Heap}(T:DefAt K "_law_row_of" (top 31)) (mx:∀ v,PySem.W.nsIn K mainGlobals "_law_row_of" = some (some v)->mg "_law_row_of" = some v) (z_tuple:mg "tuple" = none):Fn P w K mg base 1 "_law_row_of" 1 z0U:=by
 obtain ⟨f,fd,hf,F⟩:=T
 have hb:Binds K fd ["_law_raw"] []:=F.binds fun _ _ _ _ _ _ us hl=>(by obtain ⟨_,rfl⟩:=ar1 hl;rfl)
 exact Fn.cln <| z01 F sc__law_row_of hb (mx _ hf) rfl fun cdv A outer s H E hcd hr=>(show SB (cxOf CX0 P w K mg base ["_law_raw"] "_law_row_of" (Z4 (top 31)) f cdv A outer s H E).nox EX0 (j6 (top 31)) z0f from
  have nd:(["_law_raw"]:List Str).Nodup:=sc__law_row_of.nd
  (z9 (J2 (z1T (Y8 rfl z_tuple (z0 (z04 (N':=["_law_raw","_law_kind"]) (cap:=[some 0,none]) rfl (z1h (by first | rfl | kernel_rfl!)) (z0E (z6 0)) (fun _ _ _ _=>(y9 1 (show (["_law_raw","_law_kind"]:List Str).Nodup by decide +kernel))) (fun _ _ _ _=>z0v) (fun _ _ _ _=>(z8s (z1H (z6 0) (z6 1)) (z1S (z6 0) (z6 1))))) Z0)))) Z5))
noncomputable def x9:G->M Out :=
 (Z1 (sIf (cOr (cNot (cVal (eFn 3 y3 (z8 (eVar 0) (z8 (fun _=>pure (.int 2)) (z8 (fun _=>pure (.int 2)) aNil)))))) (fun γ=>do let d ← e2 (fEqX true) (eVar 0) (eVar 1) γ;asB d)) (Z1 (sRet (fun _=>pure (.bl false))) bNil) bNil) (Z1 (sIf (cOr (cNot (cVal (eFn 3 y3 (z8 (e2 fIx (eVar 0) (fun _=>pure (.int 0))) (z8 (fun _=>pure (.int 1)) (z8 (fun _=>pure (.int 40)) aNil)))))) (cNot (cVal (eFn 3 y3 (z8 (e2 fIx (eVar 0) (fun _=>pure (.int 1))) (z8 (fun _=>pure (.int 1)) (z8 (fun _=>pure (.int 40)) aNil))))))) (Z1 (sRet (fun _=>pure (.bl false))) bNil) bNil) (Z1 (sFor (z0D (e2 fIx (eVar 0) (fun _=>pure (.int 0)))) (gN 2) (Z1 (sIf (cNot (cVal (eFn 2 z0s (z8 (eVar 2) (z8 (Z9 fLen (z8 (e2 fIx (eVar 0) (fun _=>pure (.int 0))) aNil)) aNil))))) (Z1 (sRet (fun _=>pure (.bl false))) bNil) bNil) bNil)) (Z1 (sRet (clE (e2 (fEqX false) (z0i [none] (z0D (e2 fIx (eVar 0) (fun _=>pure (.int 1)))) (gN 0) (cNot (cVal (eIsi "tuple" (eVar 0)))) (eVar 0)) (eLst aNil)))) bNil))))
noncomputable def y0:List D->M D:=fun ds=>cln (runF 3 x9 ds)
theorem sc__law_same_machine:FnScope ["_law_found","_law_due","_law_ahead"] ["_law_found","_law_due"] (Z4 (top 32)):=⟨rfl,rfl,rfl,by decide +kernel,rfl,by decide +kernel,by decide +kernel⟩
theorem ok__law_same_machine {P:Program}{w:World}{K:PySem.W.Frag}{mg:Str->Option Value}{base:Heap}(T:DefAt K "_law_same_machine" (top 32)) (mx:∀ v,PySem.W.nsIn K mainGlobals "_law_same_machine" = some (some v)->mg "_law_same_machine" = some v) (z_isinstance:mg "isinstance" = none) (z_len:mg "len" = none) (z_tuple:mg "tuple" = none) (F__law_good_set:Fn P w K mg base 2 "_law_good_set" 2 z0s) (F__law_tuple:Fn P w K mg base 1 "_law_tuple" 3 y3):Fn P w K mg base 3 "_law_same_machine" 2 y0:=by
 obtain ⟨f,fd,hf,F⟩:=T
 have hb:Binds K fd ["_law_found","_law_due"] []:=F.binds fun _ _ _ _ _ _ us hl=>(by obtain ⟨_,_,rfl⟩:=ar2 hl;rfl)
 exact Fn.cln <| z01 F sc__law_same_machine hb (mx _ hf) rfl fun cdv A outer s H E hcd hr=>(show SB (cxOf CX0 P w K mg base ["_law_found","_law_due","_law_ahead"] "_law_same_machine" (Z4 (top 32)) f cdv A outer s H E).nox EX0 (j6 (top 32)) x9 from
  have nd:(["_law_found","_law_due","_law_ahead"]:List Str).Nodup:=sc__law_same_machine.nd
  (z9 (s_if (SW.sc (z5L (z0M (z05 (Z7 F__law_tuple (hr.mono (by decide)) rfl (z0 (z6 0) (z0 Z2 (z0 Z2 Z0)))))) (z3C (sc_c (z7U (hu30 hr)) (z6 0) (z6 1))))) (z9 (J2 z1g) Z5) Z5) (z9 (s_if (SW.sc (z5L (z0M (z05 (Z7 F__law_tuple (hr.mono (by decide)) rfl (z0 (q5 (z6 0) Z2) (z0 Z2 (z0 Z2 Z0)))))) (z3C (z0M (z05 (Z7 F__law_tuple (hr.mono (by decide)) rfl (z0 (q5 (z6 0) Z2) (z0 Z2 (z0 Z2 Z0))))))))) (z9 (J2 z1g) Z5) Z5) (z9 (z20 PassesOwn.never rfl (z11 (q5 (z6 0) Z2)) (x6 2 nd) (z9 (s_if (z0M (z05 (Z7 F__law_good_set (hr.mono (by decide)) rfl (z0 (z6 2) (z0 (z0g rfl z_len (z0 (q5 (z6 0) Z2) Z0)) Z0))))) (z9 (J2 z1g) Z5) Z5) Z5)) (z9 (J2 (z1T (se_c (z3b (hu30 hr)) (z04 (N':=["_law_names_here"]) (cap:=[none]) rfl (z1h (by first | rfl | kernel_rfl!)) (z11 (q5 (z6 0) Z2)) (fun _ _ _ _=>(y9 0 (show (["_law_names_here"]:List Str).Nodup by decide +kernel))) (fun _ _ _ _=>(z2b (z0M (z05 (z1G rfl z_isinstance rfl z_tuple (by decide +kernel) (by decide) (z6 0)))))) (fun _ _ _ _=>(z6 0))) (z0o Z0)))) Z5)))))
noncomputable def w6:G->M Out :=
 (Z1 (sAsg (eLst aNil) (gN 2)) (Z1 (sAsg (eLst aNil) (gN 3)) (Z1 (sFor (z0k (e2 fAdd (Z9 z3m (z8 (eVar 1) aNil)) (fun _=>pure (.int 1)))) (gN 4) (Z1 (sAsg (eLst aNil) (gN 5)) (Z1 (sFor (z0k (Z9 fLen (z8 (eVar 1) aNil))) (gN 6) (Z1 (sIf (fun γ=>do let d ← e2 (fEqX false) (e2 fIx (eVar 1) (eVar 6)) (eVar 4) γ;asB d) (Z1 (sAsg (e2 fAdd (eVar 5) (z0i [some 1,none] (z0D (e2 fIx (e2 fIx (eVar 0) (fun _=>pure (.int 0))) (eVar 6))) (gN 1) (fun _=>pure true) (e2 fIx (eVar 0) (eVar 1)))) (gN 5)) bNil) bNil) bNil)) (Z1 (z1o (eM1 J8 (eVar 2) (clE (Z9 Y7 (z8 (Z9 v7 (z8 (Z9 z15 (z8 (eVar 5) aNil)) aNil)) aNil))))) (Z1 (z1o (eM1 J8 (eVar 3) (e2 fIx (e2 fIx (eVar 0) (fun _=>pure (.int 1))) (orE (eM1 z10 (eVar 1) (eVar 4)) (z1L (eVar 1) (eVar 4)))))) bNil))))) (Z1 (sRet (eTup (z8 (Z9 Y7 (z8 (eVar 2) aNil)) (z8 (Z9 Y7 (z8 (eVar 3) aNil)) aNil)))) bNil))))
noncomputable def J0:List D->M D:=fun ds=>cln (runF 7 w6 ds)
theorem sc__law_quotient_of:FnScope ["_law_machine_here","_law_kinds","_law_steps","_law_marks","_law_kind","_law_ahead","_law_one"] ["_law_machine_here","_law_kinds"] (Z4 (top 33)):=⟨rfl,rfl,rfl,by decide +kernel,rfl,by decide +kernel,by decide +kernel⟩
theorem ok__law_quotient_of {P:Program}{w:World}{K:PySem.W.Frag}{mg:Str->Option Value}{base:Heap}(T:DefAt K "_law_quotient_of" (top 33)) (mx:∀ v,PySem.W.nsIn K mainGlobals "_law_quotient_of" = some (some v)->mg "_law_quotient_of" = some v) (z_len:mg "len" = none) (z_max:mg "max" = none) (z_range:mg "range" = none) (z_set:mg "set" = none) (z_sorted:mg "sorted" = none) (z_tuple:mg "tuple" = none):Fn P w K mg base 1 "_law_quotient_of" 2 J0:=by
 obtain ⟨f,fd,hf,F⟩:=T
 have hb:Binds K fd ["_law_machine_here","_law_kinds"] []:=F.binds fun _ _ _ _ _ _ us hl=>(by obtain ⟨_,_,rfl⟩:=ar2 hl;rfl)
 exact Fn.cln <| z01 F sc__law_quotient_of hb (mx _ hf) rfl fun cdv A outer s H E hcd hr=>(show SB (cxOf CX0 P w K mg base ["_law_machine_here","_law_kinds","_law_steps","_law_marks","_law_kind","_law_ahead","_law_one"] "_law_quotient_of" (Z4 (top 33)) f cdv A outer s H E).nox EX0 (j6 (top 33)) w6 from
  have nd:(["_law_machine_here","_law_kinds","_law_steps","_law_marks","_law_kind","_law_ahead","_law_one"]:List Str).Nodup:=sc__law_quotient_of.nd
  (z9 (k7 2 nd (z0o Z0)) (z9 (k7 3 nd (z0o Z0)) (z9 (z20 PassesOwn.never rfl (x8 rfl z_range (Y1 (z9g rfl rfl z_max (z0 (z6 1) Z0)) Z2)) (x6 4 nd) (z9 (k7 5 nd (z0o Z0)) (z9 (z20 PassesOwn.never rfl (x8 rfl z_range (z0g rfl z_len (z0 (z6 1) Z0))) (x6 6 nd) (z9 (s_if (sc_c (z3b (hu30 hr)) (q5 (z6 1) (z6 6)) (z6 4)) (z9 (k7 5 nd (Y1 (z6 5) (z04 (N':=["_law_kinds","_law_to"]) (cap:=[some 1,none]) rfl (z1h (by first | rfl | kernel_rfl!)) (z11 (q5 (q5 (z6 0) Z2) (z6 6))) (fun _ _ _ _=>(y9 1 (show (["_law_kinds","_law_to"]:List Str).Nodup by decide +kernel))) (fun _ _ _ _=>z0v) (fun _ _ _ _=>(q5 (z6 0) (z6 1)))))) Z5) Z5) Z5)) (z9 (z25 (z0t (z6 2) (z1T (Y8 rfl z_tuple (z0 (z1p rfl rfl z_sorted (z0 (z2t rfl rfl z_set (z0 (z6 5) Z0)) Z0)) Z0))))) (z9 (z25 (z0t (z6 3) (q5 (q5 (z6 0) Z2) (z8s (z1H (z6 1) (z6 4)) (z1S (z6 1) (z6 4)))))) Z5))))) (z9 (J2 (z1n (z0 (Y8 rfl z_tuple (z0 (z6 2) Z0)) (z0 (Y8 rfl z_tuple (z0 (z6 3) Z0)) Z0)))) Z5)))))
noncomputable def z0F:G->M Out :=
 (Z1 (z7e 2 2 Y2 (z8 (eVar 0) (z8 (eVar 1) aNil)) h_NoPaper (Z1 (sIf (cOr (cVal (eIsX x_NoMachine (eVar 2))) (cOr (cVal (eIsX x_AreAlike (eVar 2))) (cVal (eIsX x_TooGreat (eVar 2))))) (Z1 (sRet (fun _=>pure (.bl false))) bNil) bNil) (Z1 (sRet (eAnd (eIsX x_TreeError (eVar 2)) (eIsX x_ValueError (eVar 2)))) bNil))) (Z1 (sRet (fun _=>pure (.bl false))) bNil))
noncomputable def z0G:List D->M D:=fun ds=>cln (runF 3 z0F ds)
theorem sc__law_refused:FnScope ["_law_machine_here","_law_kinds","e"] ["_law_machine_here","_law_kinds"] (Z4 (top 34)):=⟨rfl,rfl,rfl,by decide +kernel,rfl,by decide +kernel,by decide +kernel⟩
theorem ok__law_refused {P:Program}{w:World}{K:PySem.W.Frag}{mg:Str->Option Value}{base:Heap}(T:DefAt K "_law_refused" (top 34)) (mx:∀ v,PySem.W.nsIn K mainGlobals "_law_refused" = some (some v)->mg "_law_refused" = some v) (z_ValueError:mg "ValueError" = none) (z_isinstance:mg "isinstance" = none) {A_AreAlike:Addr}{bm_AreAlike:List Value}(T_AreAlike:K3 K mg "AreAlike" A_AreAlike bm_AreAlike) {A_NoMachine:Addr}{bm_NoMachine:List Value}(T_NoMachine:K3 K mg "NoMachine" A_NoMachine bm_NoMachine) {A_NoPaper:Addr}{bm_NoPaper:List Value}(T_NoPaper:K3 K mg "NoPaper" A_NoPaper bm_NoPaper) {A_TooGreat:Addr}{bm_TooGreat:List Value}(T_TooGreat:K3 K mg "TooGreat" A_TooGreat bm_TooGreat) {A_TreeError:Addr}{bm_TreeError:List Value}(T_TreeError:K3 K mg "TreeError" A_TreeError bm_TreeError) (H_NoPaper:Catch K A_NoPaper h_NoPaper) (X_AreAlike:IsX K (.ref A_AreAlike) x_AreAlike) (X_NoMachine:IsX K (.ref A_NoMachine) x_NoMachine) (X_TooGreat:IsX K (.ref A_TooGreat) x_TooGreat) (X_TreeError:IsX K (.ref A_TreeError) x_TreeError) (X_ValueError:IsX K (.type "ValueError") x_ValueError) (F_quotient:FnX P w K mg base 4 "quotient" 2 Y2):Fn P w K mg base 5 "_law_refused" 2 z0G:=by
 obtain ⟨f,fd,hf,F⟩:=T
 have hb:Binds K fd ["_law_machine_here","_law_kinds"] []:=F.binds fun _ _ _ _ _ _ us hl=>(by obtain ⟨_,_,rfl⟩:=ar2 hl;rfl)
 exact Fn.cln <| z01 F sc__law_refused hb (mx _ hf) rfl fun cdv A outer s H E hcd hr=>(show SB (cxOf CX0 P w K mg base ["_law_machine_here","_law_kinds","e"] "_law_refused" (Z4 (top 34)) f cdv A outer s H E).nox EX0 (j6 (top 34)) z0F from
  have nd:(["_law_machine_here","_law_kinds","e"]:List Str).Nodup:=sc__law_refused.nd
  (z9 (zd2 2 F_quotient T_NoPaper H_NoPaper (hr.mono (by decide)) rfl rfl (z0 (z6 0) (z0 (z6 1) Z0)) (fun _=>(z9 (s_if (SW.sc (z5L (z05 (z4u rfl z_isinstance rfl T_NoMachine X_NoMachine (z6 2))) (z5L (z05 (z4u rfl z_isinstance rfl T_AreAlike X_AreAlike (z6 2))) (z3C (z05 (z4u rfl z_isinstance rfl T_TooGreat X_TooGreat (z6 2))))))) (z9 (J2 z1g) Z5) Z5) (z9 (J2 (z1O (z4u rfl z_isinstance rfl T_TreeError X_TreeError (z6 2)) (z39 (zz1 rfl z_isinstance rfl z_ValueError (by decide +kernel) X_ValueError (z6 2))))) Z5))) rfl rfl nd) (z9 (J2 z1g) Z5)))
noncomputable def Y5:G->M Out :=
 (Z1 (z7e 2 2 Y2 (z8 (eVar 0) (z8 (eVar 1) aNil)) h_TreeError (Z1 (sRet (eIsX x_NoPaper (eVar 2))) bNil)) (Z1 (sRet (fun _=>pure (.bl false))) bNil))
noncomputable def Y3:List D->M D:=fun ds=>cln (runF 3 Y5 ds)
theorem sc__law_refused_by_any:FnScope ["_law_machine_here","_law_kinds","e"] ["_law_machine_here","_law_kinds"] (Z4 (top 35)):=⟨rfl,rfl,rfl,by decide +kernel,rfl,by decide +kernel,by decide +kernel⟩
theorem ok__law_refused_by_any {P:Program}{w:World}{K:PySem.W.Frag}{mg:Str->Option Value}{base:Heap}(T:DefAt K "_law_refused_by_any" (top 35)) (mx:∀ v,PySem.W.nsIn K mainGlobals "_law_refused_by_any" = some (some v)->mg "_law_refused_by_any" = some v) (z_isinstance:mg "isinstance" = none) {A_NoPaper:Addr}{bm_NoPaper:List Value}(T_NoPaper:K3 K mg "NoPaper" A_NoPaper bm_NoPaper) {A_TreeError:Addr}{bm_TreeError:List Value}(T_TreeError:K3 K mg "TreeError" A_TreeError bm_TreeError) (H_TreeError:Catch K A_TreeError h_TreeError) (X_NoPaper:IsX K (.ref A_NoPaper) x_NoPaper) (F_quotient:FnX P w K mg base 4 "quotient" 2 Y2):Fn P w K mg base 5 "_law_refused_by_any" 2 Y3:=by
 obtain ⟨f,fd,hf,F⟩:=T
 have hb:Binds K fd ["_law_machine_here","_law_kinds"] []:=F.binds fun _ _ _ _ _ _ us hl=>(by obtain ⟨_,_,rfl⟩:=ar2 hl;rfl)
 exact Fn.cln <| z01 F sc__law_refused_by_any hb (mx _ hf) rfl fun cdv A outer s H E hcd hr=>(show SB (cxOf CX0 P w K mg base ["_law_machine_here","_law_kinds","e"] "_law_refused_by_any" (Z4 (top 35)) f cdv A outer s H E).nox EX0 (j6 (top 35)) Y5 from
  have nd:(["_law_machine_here","_law_kinds","e"]:List Str).Nodup:=sc__law_refused_by_any.nd
  (z9 (zd2 2 F_quotient T_TreeError H_TreeError (hr.mono (by decide)) rfl rfl (z0 (z6 0) (z0 (z6 1) Z0)) (fun _=>(z9 (J2 (z4u rfl z_isinstance rfl T_NoPaper X_NoPaper (z6 2))) Z5)) rfl rfl nd) (z9 (J2 z1g) Z5)))
noncomputable def z9m:G->M Out :=
 (Z1 (sAsg (eFn 1 z1t (z8 (eVar 0) aNil)) (gN 1)) (Z1 (sAsg (eFn 2 Z3 (z8 (eVar 1) (z8 (fun _=>pure (.int 6)) aNil))) (gN 2)) (Z1 (sAsg (eFn 2 z1a (z8 (eVar 1) (z8 (eFn 2 Z3 (z8 (eVar 1) (z8 (fun _=>pure (.int 4)) aNil))) aNil))) (gN 3)) (Z1 (sAsg (eFn 3 z0W (z8 (eVar 1) (z8 (eFn 3 z0I (z8 (eVar 1) (z8 (eVar 3) (z8 (fun _=>pure (.int 4)) aNil)))) (z8 (fun _=>pure (.int 6)) aNil)))) (gT 2 (z2K (gN 4) (z2K (gN 5) z7s)))) (Z1 (sAsg (eFn 1 z0b (z8 (Z9 z5F (z8 (eFn 1 z0U (z8 (eVar 5) aNil)) aNil)) aNil)) (gN 6)) (Z1 (sAsg (eFn 2 Z3 (z8 (eVar 1) (z8 (Z9 fLen (z8 (eVar 6) aNil)) aNil))) (gN 7)) (Z1 (sAsg (eVar 6) (gN 8)) (Z1 (sIf (fun γ=>do let d ← e2 (fEq false) (eVar 2) (fun _=>pure (.int 0)) γ;asB d) (Z1 (sAsg (e2 fAdd (e2 fAdd (z1e (eVar 6) z2l (z2h (eVar 7))) (eTup (z8 (eFn 2 Z3 (z8 (eVar 1) (z8 (Z9 fLen (z8 (eVar 6) aNil)) aNil))) aNil))) (z1e (eVar 6) (z2h (e2 fAdd (eVar 7) (fun _=>pure (.int 1)))) z2l)) (gN 8)) bNil) bNil) (Z1 (sIf (fun γ=>do let d ← e2 (fEq false) (eVar 2) (fun _=>pure (.int 1)) γ;asB d) (Z1 (sAsg (eFn 1 z0b (z8 (z0i [some 1,some 7,none] (orE (z0D (eVar 6)) (z0Y (eVar 6))) (gN 2) (fun _=>pure true) (eFn 2 Z3 (z8 (eVar 0) (z8 (e2 fAdd (eVar 1) (fun _=>pure (.int 1))) aNil)))) aNil)) (gN 8)) bNil) bNil) (Z1 (sIf (fun γ=>do let d ← e2 (fEq false) (eVar 2) (fun _=>pure (.int 2)) γ;asB d) (Z1 (sAsg (Z9 Y7 (z8 (z0i [none] (orE (z0D (eVar 6)) (z0Y (eVar 6))) (gN 0) (fun _=>pure true) (fun _=>pure (.int 0))) aNil)) (gN 8)) bNil) bNil) (Z1 (sIf (fun γ=>do let d ← e2 fGt (eVar 2) (fun _=>pure (.int 2)) γ;asB d) (Z1 (sAsg (eFn 3 (z07 4) (z8 (eVar 1) (z8 (eVar 6) (z8 (fun _=>pure (.int 2)) aNil)))) (gN 8)) bNil) bNil) (Z1 (sIf (fun γ=>do let d ← e2 (fEq false) (eVar 2) (fun _=>pure (.int 5)) γ;asB d) (Z1 (sAsg (eFn 3 (z07 4) (z8 (eVar 1) (z8 (eVar 8) (z8 (fun _=>pure (.int 2)) aNil)))) (gN 8)) bNil) bNil) (Z1 (sAsg (Z9 z48 (z8 (eVar 8) aNil)) (gN 9)) (Z1 (sAsg (eFn 2 J0 (z8 (eVar 4) (z8 (eVar 6) aNil))) (gN 10)) (Z1 (sIf (cNot (cVal (eFn 2 y0 (z8 (eFn 2 (noM Y2) (z8 (eVar 4) (z8 (eVar 6) aNil))) (z8 (eVar 10) aNil))))) (Z1 (sRet (fun _=>pure (.bl false))) bNil) bNil) (Z1 (sIf (cVal (eFn 2 z0u (z8 (eVar 4) (z8 (eVar 8) aNil)))) (Z1 (sIf (cNot (cVal (eFn 2 y0 (z8 (eFn 2 (noM Y2) (z8 (eVar 4) (z8 (eVar 8) aNil))) (z8 (eFn 2 J0 (z8 (eVar 4) (z8 (eVar 8) aNil))) aNil))))) (Z1 (sRet (fun _=>pure (.bl false))) bNil) bNil) bNil) (Z1 (sIf (cOr (cNot (cVal (eFn 2 z0G (z8 (eVar 4) (z8 (eVar 8) aNil))))) (cNot (cVal (eFn 2 Y3 (z8 (eVar 4) (z8 (eVar 8) aNil)))))) (Z1 (sRet (fun _=>pure (.bl false))) bNil) bNil) bNil)) (Z1 (sRet (eAnd (e2 (fEqX false) (Z9 z48 (z8 (eVar 8) aNil)) (eVar 9)) (eFn 2 y0 (z8 (eFn 2 (noM Y2) (z8 (eVar 4) (z8 (eVar 6) aNil))) (z8 (eVar 10) aNil))))) bNil)))))))))))))))))
noncomputable def m_law:List D->M D:=runF 11 z9m
theorem sc_law:FnScope ["_law_script","_law_pool_here","_law_choice","_law_names_here","_law_machine_here","_law_raw","_law_kinds","_law_at","_law_thing","_law_kept","_law_good"] ["_law_script"] (Z4 (top 36)):=⟨rfl,rfl,rfl,by decide +kernel,rfl,by decide +kernel,by decide +kernel⟩
end FT
set_option maxHeartbeats 2000000
namespace FT
open PySem PySem.Spec PyProof.Rows L2
theorem zH3 (g0:Int) (gr sm:List Int) (s c:Int) (r:AH) (n:Int) (hn:0<n) (hn2:n<1073741824) (hg:gr.length≤63) :
 ∃ gr',gr'.length≤gr.length+1/\Z3 [.ref 2,.int n] (Pool (g0 :: gr) sm s c r)=.ok (.int (g0 % n)) (Pool gr' sm s c r):=by
 unfold Z3 runF z17 Pool z1b
 have hl:gr.length≤sizeLine:=Nat.le_trans hg (by decide)
 by_cases h0:g0 / n=0
 ·refine ⟨gr,by omega,?_⟩
  simp [Z1,bNil,sIf,sAsg,sRet,z1o,e2,Z9,z8,aNil,eVar,fIx,seqD,getL,fLen,fGt,fCmp,fI,asB,gIx,gN,fSet,fDiv,fIC,eM1,z2u,z2s,updL,fEq,eqD,fMod,atI,ixN,hn,hn2,h0,seqIndex?,hl]
 ·refine ⟨g0 / n :: gr,by simp,?_⟩
  simp [Z1,bNil,sIf,sAsg,sRet,z1o,e2,Z9,z8,aNil,eVar,fIx,seqD,getL,fLen,fGt,fCmp,fI,asB,gIx,gN,fSet,fDiv,fIC,eM1,z2u,z2s,updL,fEq,eqD,fMod,atI,ixN,hn,hn2,h0]
theorem zH1 (sm:List Int) (s c:Int) (r:AH) (n:Int) (hn:0<n) (hn2:n<1073741824) (hs:0≤s) (hs2:s<2147483647) (hc:0≤c) (hc2:c<1000000) (hm:sm.length≤63) :
 ∃ s' d,Z3 [.ref 2,.int n] (Pool [] sm s c r)=.ok (.int d) (Pool [] sm s' (c+1) r)/\0≤d/\d<n/\0≤s'/\s'<2147483647:=by
 have k1:-18446744073709551616<c+1:=by omega
 have k2:c+1<18446744073709551616:=by omega
 have k3:-18446744073709551616<s:=by omega
 have k4:s<18446744073709551616:=by omega
 have key:∀ x:Int,(∃ y:Int,Z3 [.ref 2,.int n] (Pool [] sm s c r)=.ok (.int ((((s * 48271+x % 2147483629 * ((c+1) * (c+1)+1)+97 * (c+1)) % 2147483647) ^ 5) % 2147483629 / 64 % n)) (Pool [] sm ((s * 48271+x % 2147483629 * ((c+1) * (c+1)+1)+97 * (c+1)) % 2147483647) (c+1) r)) ->
  ∃ s' d,Z3 [.ref 2,.int n] (Pool [] sm s c r)=.ok (.int d) (Pool [] sm s' (c+1) r)/\0≤d/\d<n/\0≤s'/\s'<2147483647:=fun x ⟨_,e⟩ =>
  ⟨_,_,e,Int.emod_nonneg _ (by omega),Int.emod_lt_of_pos _ hn,Int.emod_nonneg _ (by decide),Int.emod_lt_of_pos _ (by decide)⟩
 have p1:∀ z:Int,-18446744073709551616<z % 2147483647:=fun z=>by omega
 have p2:∀ z:Int,z % 2147483647<18446744073709551616:=fun z=>by omega
 have p3:∀ z:Int,-18446744073709551616<z % 2147483629:=fun z=>by omega
 have p4:∀ z:Int,z % 2147483629<18446744073709551616:=fun z=>by omega
 cases sm with
 | nil =>
  refine key 0 ⟨0,?_⟩
  unfold Z3 runF z17 Pool z1b
  simp [Z1,bNil,sIf,sAsg,sRet,z1o,e2,Z9,z8,aNil,eVar,fIx,seqD,getL,fLen,fGt,fCmp,fI,asB,gIx,gN,fSet,fDiv,fIC,eM1,z2u,z2s,updL,fEq,eqD,fMod,fAdd,fMul,z3X,fPow,atI,ixN,hn,hn2,k1,k2,k3,k4,p1,p2,p3,p4]
 | cons m0 sm =>
  have hl:(0:Int)<(sm.length:Int)+1:=by omega
  have hi:0≤(c+1) % ((sm.length:Int)+1):=Int.emod_nonneg _ (by omega)
  have hi2:(c+1) % ((sm.length:Int)+1)<(sm.length:Int)+1:=Int.emod_lt_of_pos _ hl
  obtain ⟨x,hx⟩:∃ x,(D.int m0 :: sm.map D.int)[((c+1) % ((sm.length:Int)+1)).toNat]?=some (.int x):=by
   have e:(D.int m0 :: sm.map D.int)=(m0 :: sm).map D.int:=rfl
   rw [e,List.getElem?_map,List.getElem?_eq_getElem (by simp;omega)]
   exact ⟨_,rfl⟩
  have hx2:∀ hj,(D.int m0 :: List.map D.int sm)[((c+1) % ((sm.length:Int)+1)).toNat]'hj=D.int x:=fun hj=>Option.some.inj ((List.getElem?_eq_getElem hj).symm.trans hx)
  refine key x ⟨0,?_⟩
  unfold Z3 runF z17 Pool z1b
  simp [Z1,bNil,sIf,sAsg,sRet,z1o,e2,Z9,z8,aNil,eVar,fIx,seqD,getL,fLen,fGt,fCmp,fI,asB,gIx,gN,fSet,fDiv,fIC,eM1,z2u,z2s,updL,fEq,eqD,fMod,fAdd,fMul,z3X,fPow,atI,ixN,hn,hn2,k1,k2,k3,k4,p1,p2,p3,p4,hi,hi2,hl,hx,hx2]
theorem draw {h:AH}{k n:Int}{r:AH}(p:PS h k r) (hk:k<1000000) (hn:0<n) (hn2:n<1073741824):∃ d h',Z3 [.ref 2,.int n] h=.ok (.int d) h'/\0≤d/\d<n/\PS h' (k+1) r:=by
 obtain ⟨gr,sm,s,c,rfl,h1,h2,h3,h4,h5,h6⟩:=p
 cases gr with
 | nil =>
  obtain ⟨s',d,e,q1,q2,q3,q4⟩:=zH1 sm s c r n hn hn2 h1 h2 h3 (by omega) h6
  exact ⟨d,_,e,q1,q2,[],sm,s',c+1,rfl,q3,q4,by omega,by omega,by simp,h6⟩
 | cons g0 gr =>
  simp at h5
  obtain ⟨gr',l,e⟩:=zH3 g0 gr sm s c r n hn hn2 (by omega)
  exact ⟨_,_,e,Int.emod_nonneg _ (by omega),Int.emod_lt_of_pos _ hn,gr',sm,s,c,rfl,h1,h2,h3,by omega,by omega,h6⟩
theorem z02 {h:AH}{k n:Int}{r:AH}{Q:D->AH->Prop}(p:PS h k r) (hk:k<1000000) (hn:0<n) (hn2:n<1073741824) (z:∀ d h',0≤d->d<n->PS h' (k+1) r->Q (.int d) h'):W (Z3 [.ref 2,.int n]) h Q:=by
 obtain ⟨d,h',e,d0,d1,p'⟩:=draw p hk hn hn2
 exact ⟨_,_,e,z d h' d0 d1 p'⟩
theorem z9K {ns:List Int}(hn:ns.length≤63):W (z1t [.fl (ns.map .int)]) [] (fun d h'=>d=.ref 2/\PS h' 0 []):=by
 refine z1J ?_
 show W (z1x [some (.fl (ns.map .int)),none]) [] _
 unfold z1x z3H
 rw [w_cons];simp only [List.set_cons_succ,List.set_cons_zero,Z6,W_pure,y4,e2,eVar,gN,sAsg]
 have src:∀ (γ:G) (h:AH),γ[0]?=some (some (.fl (ns.map .int)))->z0Y (eVar 0) γ h=.ok (.con (ns.map .int)) h:=fun γ h e=>by
  unfold z0Y eVar
  rw [e]
  rfl
 refine W.of (z33 (src:=.con (ns.map .int)) (fun d=>match d with | .int t=>decide (1000000000000000000≤t) | _=>false) (fun d=>d) (src _ _ rfl) (fun _=>trivial) (by simp [Src.items];omega) fun d hd=>?_) ?_
 ·obtain ⟨t,ht,rfl⟩:=List.mem_map.mp hd
  refine ⟨[some (.int t)],fun h=>rfl,fun j=>?_,fun _ j=>rfl⟩
  simp only [List.getElem?_cons_zero,bindM,pureM,zv0,zw3,J1]
 rw [show (Src.con (ns.map D.int)).items=ns.map D.int from rfl,z23]
 rw [w_cons];simp only [List.getElem?_cons_succ,List.getElem?_cons_zero,List.length_nil,Z6,W_pure,z8,aNil,Y6,eLst,eVar,sRet]
 refine W.of (z33 (src:=.con (ns.map .int)) (fun d=>match d with | .int t=>decide (t<1000000000000000000) | _=>false) (fun d=>d) (src _ _ rfl) (fun _=>trivial) (by simp [Src.items];omega) fun d hd=>?_) ?_
 ·obtain ⟨t,ht,rfl⟩:=List.mem_map.mp hd
  refine ⟨[some (.int t)],fun h=>rfl,fun j=>?_,fun _ j=>rfl⟩
  simp only [List.getElem?_cons_zero,bindM,pureM,zv0,z9t,J1]
 rw [show (Src.con (ns.map D.int)).items=ns.map D.int from rfl,z23]
 refine W.of (a:=.ref 2) (h':=Pool (ns.filter fun i=>decide (1000000000000000000≤i)) (ns.filter fun i=>decide (i<1000000000000000000)) 5 0 []) ?_ ?_
 ·unfold newL
  rw [if_pos (by simp;decide)]
  rfl
 ·refine ⟨rfl,_,_,5,0,rfl,by decide,by decide,by decide,by decide,?_,?_⟩
  ·exact Nat.le_trans (List.length_filter_le _ _) hn
  ·exact Nat.le_trans (List.length_filter_le _ _) hn
theorem z7w {h:AH}{k:Int}{r:AH}{i:Nat}{start:Str}{ns:List Str}(p:PS h k r) (hk:k<900000) (lo:low start) (hs:start.length≤4) (e:r[i]?=some (.lst (ns.map .str))) (hn:ns.length≤7) :
 W (runF 9 z16 [.ref 2,.str start,.ref (i+3)]) h (fun d h'=>∃ x j,d=.str x/\PS h' (k+5) (r++j)/\z9X x/\x∉ns):=by
 refine z1J ?_
 show W (z16 [some (.ref 2),some (.str start),some (.ref (i+3)),none,none,none,none,none,none]) h _
 unfold z16
 rw [show ("abcdefghijklmnopqrstuvwxyz":Str)=abc from rfl]
 rw [w_cons];simp only [List.set_cons_succ,List.set_cons_zero,Z6,W_pure,y4,e2,eVar,gN,sAsg]
 rw [w_cons];simp only [List.getElem?_cons_succ,List.getElem?_cons_zero,List.set_cons_succ,List.set_cons_zero,Z6,W_pure,y4,eVar,gN,sAsg]
 rw [w_cons]
 refine z00 (fun c γ h=>∃ x w,γ=[some (.ref 2),some (.str start),some (.ref (i+3)),some (.str abc),some (.str x),w,none,none,none]/\PS h (k+1+c) r/\low x/\x.length≤4+c) (fun _ _=>False) ?_
 simp only [List.getElem?_cons_zero,List.length_cons,List.length_nil,Nat.reduceAdd,v9,Z6,J9,W_pure,z8,aNil,y4,Y6,eFn,eVar,if_true]
 refine z02 p (by omega) (by decide) (by decide) fun d h1 d0 d1 p1=>?_
 refine ⟨d.toNat,by rw [Int.toNat_of_nonneg d0],by omega,⟨start,none,rfl,by simpa using p1,lo,by omega⟩,?_,?_,fun _ _ q=>q.elim⟩
 ·rintro c γ h2 hc ⟨x,w,rfl,p2,lx,hx⟩
  rw [w_cons];simp only [List.getElem?_cons_succ,List.getElem?_cons_zero,List.length_cons,List.length_nil,List.set_cons_succ,List.set_cons_zero,Nat.reduceAdd,v9,Z6,J9,W_pure,z8,aNil,y4,e2,eFn,eVar,gN,if_true,sAsg,z1C]
  refine z02 p2 (by omega) (by decide) (by decide) fun d h1 d0 d1 p1=>?_
  refine z3N (k:=k) (r:=r) d0 d1 (by omega) ?_
  refine ⟨_,_,rfl,p1.up (by omega),z5K lx (by omega) (by omega),by rw [len_app,z3q];omega⟩
 rintro γ h2 ⟨x,w,rfl,p2,lx,hx⟩
 rw [w_cons];simp only [List.getElem?_cons_zero,List.length_cons,List.length_nil,List.set_cons_succ,List.set_cons_zero,Nat.reduceAdd,v9,Z6,J9,W_pure,z8,aNil,y4,eFn,eVar,gN,if_true,sAsg]
 refine z02 (p2.up (show _≤k+4 by omega)) (by omega) (by decide) (by decide) fun l h3 l0 l1 p3=>?_
 rw [w_cons];simp only [List.set_cons_succ,List.set_cons_zero,Z6,W_pure,z8,aNil,y4,eLst,gN,sAsg]
 rw [show [D.str "yes",D.str "no",D.str "not",D.str "and",D.str "or",D.str "step",D.str "some",D.str "all",D.str "next",D.str "once",D.str "ever",D.str "until",D.str "unless"]=words.map D.str from rfl]
 refine z0A p3 (by decide) fun h4 p4=>?_
 rw [w_cons]
 refine z00 (fun c γ h=>∃ w w',γ=[some (.ref 2),some (.str start),some (.ref (i+3)),some (.str abc),some (.str x),w,some (.int l),some (.ref (r.length+3)),w']/\PS h (k+5) (r++[.lst (words.map .str)])/\∀ c':Nat,c'<c->cand x l c'∈words∨cand x l c'∈ns) (fun d h=>∃ c:Nat,d=.str (cand x l c)/\cand x l c∉words/\cand x l c∉ns/\PS h (k+5) (r++[.lst (words.map .str)])) ?_
 rw [W_pure]
 refine ⟨26,rfl,by decide,⟨_,_,rfl,p4.up (by omega),fun c' hc=>by omega⟩,?_,?_,?_⟩
 ·rintro c γ h5 hc ⟨w,w',rfl,p5,hb⟩
  rw [w_cons];simp only [List.getElem?_cons_succ,List.getElem?_cons_zero,List.set_cons_succ,List.set_cons_zero,Z6,W_pure,z1B,y4,e2,eVar,gN,sAsg]
  have m1:fMod (.int (l+c)) (.int 26)=pure (.int ((l+c) % 26)):=rfl
  rw [m1,W_pure]
  refine z3N (k:=k) (r:=r) (Int.emod_nonneg _ (by decide)) (Int.emod_lt_of_pos _ (by decide)) (by omega) ?_
  rw [w_cons];simp only [Bool.false_eq_true,List.getElem?_cons_succ,List.getElem?_cons_zero,Z6,J9,W_pure,cAnd,y4,if_false,sIf,z1C]
  refine W.of (zd7 p5 z0Q) ?_
  rw [J1,W_pure]
  by_cases q1:cand x l c∈words
  ·have:(decide (x++{ cps:=#[((l+(c:Int)) % 26).toNat+97] }∈words) != true)=false:=by
    rw [show decide (x++{ cps:=#[((l+(c:Int)) % 26).toNat+97] }∈words)=true from decide_eq_true q1];rfl
   rw [this]
   simp only [Bool.false_eq_true,if_false]
   refine ⟨_,_,rfl,p5,fun c' hc'=>?_⟩
   by_cases e':c'=c
   ·subst e';exact .inl q1
   ·exact hb c' (by omega)
  ·have:(decide (x++{ cps:=#[((l+(c:Int)) % 26).toNat+97] }∈words) != true)=true:=by
    rw [show decide (x++{ cps:=#[((l+(c:Int)) % 26).toNat+97] }∈words)=false from decide_eq_false q1];rfl
   rw [this]
   simp only [if_true]
   refine W.of (zd7 p5 (z2v e)) ?_
   by_cases q2:cand x l c∈ns
   ·have:(decide (x++{ cps:=#[((l+(c:Int)) % 26).toNat+97] }∈ns) != true)=false:=by
     rw [show decide (x++{ cps:=#[((l+(c:Int)) % 26).toNat+97] }∈ns)=true from decide_eq_true q2];rfl
    rw [this]
    simp only [Bool.false_eq_true,W_pure,J1,if_false]
    refine ⟨_,_,rfl,p5,fun c' hc'=>?_⟩
    by_cases e':c'=c
    ·subst e';exact .inr q2
    ·exact hb c' (by omega)
   ·have:(decide (x++{ cps:=#[((l+(c:Int)) % 26).toNat+97] }∈ns) != true)=true:=by
     rw [show decide (x++{ cps:=#[((l+(c:Int)) % 26).toNat+97] }∈ns)=false from decide_eq_false q2];rfl
    rw [this]
    simp only [W_pure,J1,if_true]
    rw [w_cons];simp only [List.getElem?_cons_succ,List.getElem?_cons_zero,Z6,W_pure,Y6,eVar,sRet]
    exact ⟨c,rfl,q1,q2,p5⟩
 ·rintro γ h5 ⟨w,w',rfl,p5,hb⟩
  exact (zz2 l0 hn hb).elim
 ·rintro d h5 ⟨c,rfl,q1,q2,p5⟩
  refine ⟨cand x l c,[.lst (words.map .str)],rfl,p5,⟨?_,?_,?_,q1⟩,q2⟩
  ·unfold cand;rw [len_app,z3q];omega
  ·unfold cand;rw [len_app,z3q];omega
  ·exact z5K lx (by omega) (by omega)
theorem zb9 {h:AH}{k:Int}{r:AH}{i:Nat}{start:Str}{ns:List Str}(p:PS h k r) (c:CL r) (hk:k<900000) (lo:low start) (hs:start.length≤4) (e:r[i]?=some (.lst (ns.map .str))) (hn:ns.length≤7) :
 W (z1s [.ref 2,.str start,.ref (i+3)]) h (fun d h'=>∃ x,d=.str x/\PS h' (k+5) r/\z9X x/\x∉ns) :=
 z9A p c ((z7w p hk lo hs e hn).mono fun d h1 ⟨x,j,e,p1,g,n⟩=>⟨_,j,p1,by subst e;rfl,fun h2 p2=>⟨x,e,p2,g,n⟩⟩)
theorem z7G {h:AH}{k:Int}{r:AH}{n:Nat}(p:PS h k r) (cl:CL r) (hk:k<800000) (hn:n≤8) {Q:D->AH->Prop}(z:∀ ns h',ns.length=n->NS ns->PS h' (k+45) (r++[.lst (ns.map .str)])->Q (.ref (r.length+3)) h') :
 W (z1a [.ref 2,.int n]) h Q:=by
 refine zr2 p cl ?_
 refine z1J ?_
 show W (z1c [some (.ref 2),some (.int n),none,none,none,none]) h _
 unfold z1c
 rw [show ("abcdefghijklmnopqrstuvwxyz":Str)=abc from rfl]
 refine z5r (.str abc) _ rfl rfl ?_
 refine z5r (.str "") _ rfl rfl ?_
 rw [w_cons]
 refine z00 (fun c γ h=>∃ x w,γ=[some (.ref 2),some (.int n),some (.str abc),some (.str x),w,none]/\PS h (k+1+c) r/\low x/\x.length≤c) (fun _ _=>False) ?_
 refine zq8 p cl ?_
 simp only [List.getElem?_cons_zero,List.length_cons,List.length_nil,List.set_cons_succ,List.set_cons_zero,Nat.reduceAdd,v9,Z6,J9,W_pure,z8,aNil,y4,Y6,e2,eFn,eLst,eVar,if_true]
 refine z0A p (by decide) fun h1 p1=>?_
 refine z02 p1 (by omega) (by decide) (by decide) fun d h2 d0 d1 p2=>?_
 obtain ⟨v,hv,ea⟩:∃ v:Nat,v≤4/\atI [D.int 0,D.int 0,D.int 1,D.int 4] d=some (.int v):=by
  have:d=0∨d=1∨d=2∨d=3:=by omega
  rcases this with rfl | rfl | rfl | rfl
  ·exact ⟨0,by decide,rfl⟩
  ·exact ⟨0,by decide,rfl⟩
  ·exact ⟨1,by decide,rfl⟩
  ·exact ⟨4,by decide,rfl⟩
 refine z8S p2 z0Q ea ?_
 refine ⟨_,_,p2,rfl,fun h2 p2=>⟨v,rfl,by omega,⟨_,none,rfl,by simpa using p2,zp7,by rw [zj9];omega⟩,?_,?_,fun _ _ q=>q.elim⟩⟩
 ·rintro c γ h3 hc ⟨x,w,rfl,p3,lx,hx⟩
  rw [w_cons];simp only [List.getElem?_cons_succ,List.getElem?_cons_zero,List.length_cons,List.length_nil,List.set_cons_succ,List.set_cons_zero,Nat.reduceAdd,v9,Z6,J9,W_pure,z8,aNil,y4,e2,eFn,eVar,gN,if_true,sAsg,z1C]
  refine z02 p3 (by omega) (by decide) (by decide) fun d h1 d0 d1 p1=>?_
  refine z3N (k:=k) (r:=r) d0 d1 (by omega) ?_
  refine ⟨_,_,rfl,p1.up (by omega),z5K lx (by omega) (by omega),by rw [len_app,z3q];omega⟩
 rintro γ h3 ⟨x,w,rfl,p3,lx,hx⟩
 refine z7K ?_
 simp only [List.set_cons_succ,List.set_cons_zero,Z6,W_pure,aNil,eLst]
 refine z0A p3 (by decide) fun h4 p4=>?_
 rw [w_cons]
 refine z00 (fun c γ h=>∃ ns w,γ=[some (.ref 2),some (.int n),some (.str abc),some (.str x),w,some (.ref (r.length+3))]/\PS h (k+5+5 * c) (r++[.lst (ns.map .str)])/\ns.length=c/\NS ns) (fun _ _=>False) ?_
 simp only [List.getElem?_cons_succ,List.getElem?_cons_zero,W_pure,y4,Y6,eVar]
 refine ⟨n,rfl,by omega,⟨[],_,rfl,p4.up (by omega),rfl,⟨List.nodup_nil,by simp⟩⟩,?_,?_,fun _ _ q=>q.elim⟩
 ·rintro c γ h5 hc ⟨ns,w,rfl,p5,l5,n5⟩
  rw [w_cons];simp only [List.getElem?_cons_succ,List.getElem?_cons_zero,List.length_cons,List.length_nil,List.set_cons_succ,List.set_cons_zero,Nat.reduceAdd,z5x,v9,Z6,J9,W_pure,z8,aNil,y4,eFn,eM1,eVar,if_true,z1o,z1C]
  refine z3g p5 z0Q ?_
  refine (zb9 p5 (cl.put (z1l ns)) (by omega) lx (by omega) z0Q (by omega)).mono fun y h6 ⟨z,ey,p6,gz,nz⟩=>?_
  subst ey
  refine z5U p6 z0Q (by simp;omega) fun h7 p7=>?_
  refine ⟨ns++[z],_,rfl,?_,by simp [l5],⟨?_,?_⟩⟩
  ·have:=p7.up (k':=k+5+5 * ((c+1:Nat):Int)) (by omega)
   simpa using this
  ·rw [List.nodup_append]
   refine ⟨n5.1,by simp,fun a ha b hb=>?_⟩
   simp at hb
   subst hb
   exact fun e=>nz (e ▸ ha)
  ·intro y hy
   rcases List.mem_append.mp hy with q | q
   ·exact n5.2 y q
   ·simp at q;subst q;exact gz
 ·rintro γ h5 ⟨ns,w,rfl,p5,l5,n5⟩
  exact zC8 _ rfl ⟨k+45,_,r.length,_,rfl,p5.up (by omega),Nat.le_refl _,z0Q,z1l ns,fun h2 p2=>z ns h2 l5 n5 p2⟩
theorem z9J {x:D}{l:List Nat}{h:AH}(e:seqD x h=.ok (stD l) h) (hl:l.length≤2000) (hd:(setN l).length<64):z2o [x] h=.ok (.tup (stD (setN l))) h:=by
 have dl:(dedN l).length=(setN l).length:=by unfold setN;rw [z0K]
 have e1:z15 [x] h=.ok (.ref h.length) (h++[.set (kN (dedN l))]):=by
  unfold z15
  dsimp only
  rw [M.bind_ok e,z5G]
  dsimp only
  rw [if_pos (by rw [zf6];omega),zf3]
  rfl
 have e2:v7 [.ref h.length] (h++[.set (kN (dedN l))])=.ok (.ref (h.length+1)) (h++[.set (kN (dedN l)),.lst (stD (setN l))]):=by
  unfold v7
  dsimp only
  have g:getS h.length (h++[.set (kN (dedN l))])=.ok (kN (dedN l)) (h++[.set (kN (dedN l))]):=by
   unfold getS;rw [show (h++[O.set (kN (dedN l))])[h.length]?=some (.set (kN (dedN l))) by simp]
  rw [M.bind_ok g,z5I]
  dsimp only
  rw [if_pos (by unfold zN;rw [List.length_map];omega),z3f]
  unfold newL
  rw [if_pos (by rw [y8,z0K];unfold sizeLine;omega)]
  simp [setN]
 have e3:Y7 [.ref (h.length+1)] (h++[.set (kN (dedN l)),.lst (stD (setN l))])=.ok (.tup (stD (setN l))) (h++[.set (kN (dedN l)),.lst (stD (setN l))]):=by
  have ft:∀ i:Nat,Y7 [.ref i]=(do let x ← getL i;pure (.tup x)):=fun _=>rfl
  rw [ft]
  have g:getL (h.length+1) (h++[.set (kN (dedN l)),.lst (stD (setN l))])=.ok (stD (setN l)) (h++[.set (kN (dedN l)),.lst (stD (setN l))]):=by
   unfold getL;rw [show (h++[O.set (kN (dedN l)),O.lst (stD (setN l))])[h.length+1]?=some (.lst (stD (setN l))) by simp]
  rw [M.bind_ok g];rfl
 have e4:clE (Z9 Y7 (z8 (Z9 v7 (z8 (Z9 z15 (z8 (eVar 0) aNil)) aNil)) aNil)) [some x] h=.ok (.tup (stD (setN l))) h:=by
  refine z1d (j:=[.set (kN (dedN l)),.lst (stD (setN l))]) ?_ (by simp only [J7];exact z03 fun _=>rfl)
  exact J4 (J4 (J4 (show eVar 0 [some x] h=.ok x h from rfl) e1) e2) e3
 have e5:runF 1 z2Y [x] h=.ok (.tup (stD (setN l))) h:=z3t (Y4 (h1:=h) _ e4 ⟨rfl,rfl⟩)
 show cln (runF 1 z2Y [x]) h=_
 refine z1d (j:=[]) (by rw [List.append_nil];exact e5) (by simp only [J7];exact z03 fun _=>rfl)
theorem z9U {l:List Nat}{h:AH}{n:Nat}(e:h[n]?=some (.lst (stD l))) (hl:l.length≤2000) (hd:(setN l).length<64):z2o [.ref n] h=.ok (.tup (stD (setN l))) h:=z9J (by unfold seqD getL;dsimp only;rw [e]) hl hd
theorem zw2 {ns ss:List Str}(hn:NS ns) (hl:ns.length≤8) (s:ss.Sublist ns):MK (z1j ss) :=
 ⟨by rw [z36];exact Nat.le_trans s.length_le hl,fun x hx=>hn.2 _ (s.subset (sortS_mem.mp hx)),z7m (s.nodup hn.1)⟩
theorem z7f {γ:G}{h:AH}{k:Int}{r:AH}{m:Nat}{dn:Int}(p:PS h k r) (hk:k<900000) (hm:m≤40) (e0:γ[0]?=some (some (.ref 2))) (e3:γ[3]?=some (some (.int m))) (e4:γ[4]?=some (some (.int dn))) {Q:D->AH->Prop}(z:∀ l h',l.Pairwise (·<·)->(∀ x∈l,x<m)->PS h' (k+m) r->Q (.tup (stD l)) h') :
 W (clE (Z9 Y7 (z8 (z0i [some 0,some 4,none] (z0k (eVar 3)) (gN 2) (fun γ=>do let d ← e2 fLt (eFn 2 Z3 (z8 (eVar 0) (z8 (fun _=>pure (.int 6)) aNil))) (eVar 1) γ;asB d) (eVar 2)) aNil)) γ) h Q:=by
 refine zq8 p trivial ?_
 simp only [Z6,W_pure,z8,aNil,e2,Z9,eFn,eVar]
 refine z6v (r:=r) (l:=[]) (fun c xs k'=>∃ l:List Nat,xs=stD l/\l.Pairwise (·<·)/\(∀ x∈l,x<c)/\l.length≤c/\k'=k+c) ?_
 refine W.of (z2i (n:=m) (by dsimp only [eVar];rw [e3];rfl) (by omega)) ?_
 refine ⟨_,by simpa using p,⟨[],rfl,by simp,by simp,by simp,by simp⟩,fun _ _ _ _=>trivial,?_,?_⟩
 ·rintro c d h6 k6 xs hd ⟨l,rfl,l1,l2,l3,rfl⟩ p6
  obtain ⟨rfl,hc⟩:=z52 hd
  simp only [capG,List.map_cons,List.map_nil,e0,e4,Option.join_some,Option.join_none]
  simp only [List.getElem?_cons_succ,List.getElem?_cons_zero,List.length_cons,List.length_nil,List.set_cons_succ,List.set_cons_zero,Nat.reduceAdd,v9,Z6,J9,W_pure,eVar,gN,if_true]
  refine z02 p6 (by omega) (by decide) (by decide) fun t h7 t0 t1 p7=>?_
  simp only [W_pure,J1,z9t]
  by_cases q:t<dn
  ·rw [decide_eq_true q]
   simp only [if_true]
   refine ⟨_,p7,by rw [y8];omega,l++[c],(z2a _ _),?_,?_,by simp;omega,by omega⟩
   ·rw [List.pairwise_append]
    exact ⟨l1,by simp,fun a ha b hb=>by simp at hb;subst hb;exact l2 a ha⟩
   ·intro x hx
    rcases List.mem_append.mp hx with q | q
    ·have:=l2 x q;omega
    ·simp at q;omega
  ·rw [decide_eq_false q]
   simp only [Bool.false_eq_true,if_false]
   exact ⟨_,p7,l,rfl,l1,fun x hx=>by have:=l2 x hx;omega,by omega,by omega⟩
 rintro h6 xs k6 ⟨l,rfl,l1,l2,l3,rfl⟩ p6
 rw [show (Src.con (z0Z m)).items.length=m by simp [Src.items,z0Z]] at l2 p6
 exact z5Y (i:=0) p6 rfl ⟨_,_,p6,z69 l,fun h7 p7=>z l h7 l1 l2 p7⟩
theorem z75 {γ:G}{h:AH}{k:Int}{r:AH}{i:Nat}{ns:List Str}(p:PS h k r) (hk:k<900000) (e:r[i]?=some (.lst (ns.map .str))) (hn:ns.length≤8) (hg:NS ns) (e0:γ[0]?=some (some (.ref 2))) (e1:γ[1]?=some (some (.ref (i+3)))) {Q:D->AH->Prop}(z:∀ ss h',MK ss->PS h' (k+ns.length) r->Q (.tup (ss.map .str)) h') :
 W (clE (Z9 Y7 (z8 (Z9 z1i (z8 (z0i [some 0,none] (z0Y (eVar 1)) (gN 1) (fun γ=>do let d ← e2 (fEq false) (eFn 2 Z3 (z8 (eVar 0) (z8 (fun _=>pure (.int 2)) aNil))) (fun _=>pure (.int 1)) γ;asB d) (eVar 1)) aNil)) aNil)) γ) h Q:=by
 refine zq8 p trivial ?_
 simp only [Z6,W_pure,z8,aNil,e2,Z9,eFn,eVar]
 refine z6v (r:=r) (l:=[]) (fun c xs k'=>∃ ss:List Str,xs=ss.map .str/\ss.Sublist (ns.take c)/\k'=k+c) ?_
 have sr:z0Y (eVar 1) γ h=.ok (.lst (i+3) (ns.map .str)) h:=by
  have g:getL (i+3) h=.ok (ns.map .str) h:=by unfold getL;rw [p.get,e]
  unfold z0Y eVar
  rw [e1]
  show (getL (i+3) >>= fun xs=>pure (Src.lst (i+3) xs)) h=_
  rw [M.bind_ok g]
  rfl
 refine W.of sr ?_
 refine ⟨_,by simpa using p,⟨[],rfl,by simp,by simp⟩,fun h' k' xs' ph=>?_,?_,?_⟩
 ·show h'[i+3]?=_
  rw [ph.get,z2v e]
 ·rintro c d h9 k9 xs' hd ⟨ss,rfl,ls,rfl⟩ p9
  have hd':(ns.map D.str)[c]?=some d:=hd
  rw [List.getElem?_map] at hd'
  obtain ⟨y,ey,rfl⟩:=Option.map_eq_some_iff.mp hd'
  obtain ⟨lc,ey'⟩:=List.getElem?_eq_some_iff.mp ey
  have tk:ns.take (c+1)=ns.take c++[y]:=by rw [← ey',List.take_succ_eq_append_getElem lc]
  have l8:ss.length≤8:=Nat.le_trans ls.length_le (by rw [List.length_take];omega)
  simp only [capG,List.map_cons,List.map_nil,e0,e1,Option.join_some,Option.join_none]
  simp only [List.getElem?_cons_succ,List.getElem?_cons_zero,List.length_cons,List.length_nil,List.set_cons_succ,List.set_cons_zero,Nat.reduceAdd,v9,Z6,J9,W_pure,eVar,gN,if_true]
  refine z02 p9 (by omega) (by decide) (by decide) fun t h10 t0 t1 p10=>?_
  simp only [W_pure,J1,z51]
  by_cases q:t=1
  ·rw [decide_eq_true q]
   simp only [Bool.not_false,Bool.true_bne,if_true]
   exact ⟨_,p10,by simp;omega,ss++[y],by simp,by rw [tk];exact ls.append (List.Sublist.refl _),by omega⟩
  ·rw [decide_eq_false q]
   simp only [Bool.false_bne,Bool.false_eq_true,if_false]
   exact ⟨_,p10,ss,rfl,by rw [tk];exact ls.trans (List.sublist_append_left _ _),by omega⟩
 rintro h9 xs' k9 ⟨ss,rfl,ls,rfl⟩ p9
 rw [show (Src.lst (i+3) (ns.map D.str)).items.length=ns.length by simp [Src.items]] at ls p9
 rw [List.take_length] at ls
 have l8:ss.length≤8:=Nat.le_trans ls.length_le hn
 refine W_of (zg3 (ss:=ss) (h:=h9) (by rw [p9.get,show r.length+([]:AH).length=r.length+0 from rfl,at_E];rfl) (by omega)) ?_
 have p11:=p9.app [.lst ((z1j ss).map .str)]
 rw [List.append_assoc] at p11
 rw [show h9.length=r.length+1+3 by rw [p9.len];simp]
 exact z5Y (i:=1) p11 rfl ⟨_,_,p11,by simp only [J7];exact z1l _,fun h12 p12=>z (z1j ss) h12 (zw2 hg hn ls) p12⟩
theorem z8Q {h:AH}{k:Int}{r:AH}{i most:Nat}{ns:List Str}(p:PS h k r) (hk:k<700000) (hm0:1≤most) (hm:most≤40) (e:r[i]?=some (.lst (ns.map .str))) (hn:ns.length≤8) (hg:NS ns) {Q:D->AH->Prop}(z:∀ st mk h',MA st mk->st.length≤most->PS h' (k+2000) r->Q (maD st mk) h') :
 W (z0I [.ref 2,.ref (i+3),.int most]) h Q:=by
 refine z9A p trivial ?_
 refine z1J ?_
 show W (z0H [some (.ref 2),some (.ref (i+3)),some (.int most),none,none,none,none,none]) h _
 unfold z0H
 refine z0B (fun d h1=>∃ m:Nat,1≤m/\m≤most/\d=.int m/\PS h1 (k+1) r) ?_ ?_
 ·simp only [List.getElem?_cons_succ,List.getElem?_cons_zero,List.length_cons,List.length_nil,Nat.reduceAdd,v9,Z6,J9,W_pure,z8,aNil,e2,eFn,eVar,if_true]
  refine z02 p (by omega) (by omega) (by omega) fun d h1 d0 d1 p1=>?_
  rw [z1B,W_pure]
  exact ⟨(1+d).toNat,by omega,by omega,by rw [Int.toNat_of_nonneg (by omega)],p1⟩
 rintro _ h1 ⟨m,m1,m2,rfl,p1⟩
 refine z0B (fun d h1=>∃ t:Int,d=.int t/\PS h1 (k+2) r) ?_ ?_
 ·simp only [List.getElem?_cons_zero,List.length_cons,List.length_nil,List.set_cons_succ,List.set_cons_zero,Nat.reduceAdd,v9,Z6,J9,W_pure,z8,aNil,e2,eFn,eVar,if_true]
  refine z02 p1 (by omega) (by decide) (by decide) fun d h1 d0 d1 p1=>?_
  rw [z1B,W_pure]
  exact ⟨_,rfl,p1.up (by omega)⟩
 rintro _ h3 ⟨dn,rfl,p3⟩
 refine z0B (fun d h1=>d=.ref (r.length+3)/\PS h1 (k+2) (r++[.lst (stsD [])])) ?_ ?_
 ·simp only [Z6,W_pure,aNil,eLst]
  exact z0A p3 (by decide) fun h4 p4=>⟨rfl,p4⟩
 rintro _ h4 ⟨rfl,p4⟩
 refine z0B (fun d h1=>d=.ref (r.length+1+3)/\PS h1 (k+2) (r++[.lst (stsD []),.lst (mksD [])])) ?_ ?_
 ·simp only [Z6,W_pure,aNil,eLst]
  exact z0A p4 (by decide) fun h5 p5=>⟨by simp,by rw [List.append_assoc] at p5;exact p5⟩
 rintro _ h5 ⟨rfl,p5⟩
 refine z22 (fun γ h=>∃ st mk w,γ=[some (.ref 2),some (.ref (i+3)),some (.int most),some (.int m),some (.int dn),some (.ref (r.length+0+3)),some (.ref (r.length+1+3)),w]/\PS h (k+2000) (r++[.lst (stsD st),.lst (mksD mk)])/\st.length=m/\mk.length=m/\AM st mk m) ?_ ?_
 ·refine z00 (fun c γ h=>∃ st mk w,γ=[some (.ref 2),some (.ref (i+3)),some (.int most),some (.int m),some (.int dn),some (.ref (r.length+0+3)),some (.ref (r.length+1+3)),w]/\PS h (k+2+48 * c) (r++[.lst (stsD st),.lst (mksD mk)])/\st.length=c/\mk.length=c/\AM st mk m) (fun _ _=>False) ?_
  simp only [List.getElem?_cons_succ,List.getElem?_cons_zero,List.set_cons_succ,List.set_cons_zero,W_pure,z8,aNil,e2,eFn,eVar]
  refine ⟨m,rfl,by omega,⟨[],[],_,rfl,p5.up (by omega),rfl,rfl,by simp,by simp,by simp⟩,?_,?_,fun _ _ q=>q.elim⟩
  ·rintro c γ h6 hc ⟨st,mk,w,rfl,p6,l1,l2,am⟩
   refine z66 (i:=0) rfl p6 rfl (by simp [stsD];omega) (fun v k'=>∃ l:List Nat,v=.tup (stD l)/\l.Pairwise (·<·)/\(∀ x∈l,x<m)/\k'=k+2+48 * c+m) ?_ ?_
   ·exact z7f p6 (by omega) (by omega) rfl rfl rfl fun l h' q1 q2 p7=>⟨_,p7,l,rfl,q1,q2,rfl⟩
   rintro _ _ h7 ⟨l,rfl,q1,q2,rfl⟩ p7
   rw [List.set_cons_zero,show stsD st++[D.tup (stD l)]=stsD (st++[l]) by simp [stsD]] at p7
   refine z66 (i:=1) rfl p7 rfl (by simp [mksD];omega) (fun v k'=>∃ ss:List Str,v=.tup (ss.map .str)/\MK ss/\k'=k+2+48 * c+m+ns.length) ?_ ?_
   ·exact z75 p7 (by omega) (z2v e) hn hg rfl rfl fun ss h' q1 p8=>⟨_,p8,ss,rfl,q1,rfl⟩
   rintro _ _ h8 ⟨ss,rfl,q3,rfl⟩ p8
   rw [List.set_cons_succ,List.set_cons_zero,show mksD mk++[D.tup (ss.map .str)]=mksD (mk++[ss]) by simp [mksD]] at p8
   refine z0p ⟨_,_,_,rfl,p8.up (by omega),by simp [l1],by simp [l2],?_,?_,?_⟩
   ·intro l hl
    rcases List.mem_append.mp hl with q | q
    ·exact am.1 l q
    ·simp at q;subst q;exact q1
   ·intro l hl
    rcases List.mem_append.mp hl with q | q
    ·exact am.2.1 l q
    ·simp at q;subst q;exact q2
   ·intro l hl
    rcases List.mem_append.mp hl with q | q
    ·exact am.2.2 l q
    ·simp at q;subst q;exact q3
  ·rintro γ h6 ⟨st,mk,w,rfl,p6,l1,l2,am⟩
   exact ⟨st,mk,w,rfl,p6.up (by omega),l1,l2,am⟩
 ·rintro γ h6 ⟨st,mk,w,rfl,p6,l1,l2,am⟩
  refine zr7 (fun d h1=>d=maD st mk/\h1=h6) ?_ ?_
  ·simp only [List.getElem?_cons_succ,List.getElem?_cons_zero,List.length_cons,List.length_nil,Nat.reduceAdd,v9,Z6,J9,W_pure,z8,aNil,Z9,eTup,eVar]
   refine z5Y (i:=0) p6 rfl ?_
   refine z5Y (i:=1) p6 rfl ?_
   rw [if_pos (by decide)]
   exact ⟨rfl,rfl⟩
  rintro _ _ ⟨rfl,rfl⟩
  refine ⟨_,_,p6,?_,fun h2 q2=>z st mk h2 ⟨by omega,by omega,by omega,am.1,by rw [l1];exact am.2.1,am.2.2⟩ (by omega) q2⟩
  unfold maD stsD mksD
  simp only [J7,Y0,Bool.and_true,Bool.and_eq_true]
  exact ⟨z03 fun a=>z69 a,z03 fun a=>by simp only [J7];exact z1l _⟩
theorem z6Q {i n:Nat}(h2:i<n):v8 [.int i,.int 0,.int n]=pure (.bl true):=by
 have h1:(0:Int)≤i:=by omega
 have h3:(i:Int)<n:=by omega
 show cln (runF 3 v5 [.int i,.int 0,.int n])=_
 rw [z91 (d:=.bl true),z6f]
 show v5 [some (.int i),some (.int 0),some (.int n)]=_
 unfold v5
 refine zu1 _ ?_
 simp only [List.getElem?_cons_succ,List.getElem?_cons_zero,J1,Y9,decide_eq_true h1,decide_eq_true h3,e3,eAnd,eIsi,eNot,eVar,if_true,zh3,zj3,z9t]
 rfl
theorem z43 {xs:List D}{m n:Nat}(h0:m≤xs.length) (h1:xs.length≤n):y3 [.tup xs,.int m,.int n]=pure (.bl true):=by
 have h2:(xs.length:Int)≤n:=by omega
 have h3:(m:Int)≤xs.length:=by omega
 show cln (runF 3 z0c [.tup xs,.int m,.int n])=_
 rw [z91 (d:=.bl true),z6f]
 show z0c [some (.tup xs),some (.int m),some (.int n)]=_
 unfold z0c
 refine zu1 _ ?_
 simp only [List.getElem?_cons_succ,List.getElem?_cons_zero,z8,aNil,J1,Y9,decide_eq_true h2,decide_eq_true h3,e3,eAnd,Z9,eIsi,eVar,if_true,z5p,zj3,z0C]
 rfl
theorem zq1 {xs:List D}{n:Nat}(h1:xs.length≤n):y3 [.tup xs,.int 0,.int n]=pure (.bl true):=z43 (m:=0) (Nat.zero_le _) h1
theorem zx3 {l:List Nat}{n:Nat}(hn:n≤1000) (hl:l.Pairwise (·<·)) (hm:∀ x∈l,x<n):z0s [.tup (stD l),.int n]=pure (.bl true):=by
 have len:=z3R hl hm
 refine zx2 rfl fun h=>?_
 refine z1J ?_
 show W (z0y [some (.tup (stD l)),some (.int n),none]) h _
 unfold z0y
 refine q_if false ?_ ?_
 ·simp only [Bool.not_true,List.getElem?_cons_succ,List.getElem?_cons_zero,List.length_cons,List.length_nil,Nat.reduceAdd,z8,aNil,Y9,cNot,cVal,eFn,eVar,if_true,z0h,zq1 (xs:=stD l) (n:=n) (by rw [y8];omega)]
 rw [if_neg (by decide)]
 refine z1k ?_
 rw [w_cons]
 refine z00 (fun c γ h'=>∃ w,γ=[some (.tup (stD l)),some (.int n),w]/\h'=h) (fun _ _=>False) ?_
 simp only [List.getElem?_cons_zero,Z6,W_pure,z8,aNil,y4,Y6,e2,Z9,eVar,z0C]
 refine ⟨l.length,by rw [y8],by omega,⟨_,rfl,trivial⟩,?_,?_,fun _ _ q=>q.elim⟩
 ·rintro c γ h2 hc ⟨w,rfl,rfl⟩
  have mc:(l[c]?).getD 0=l[c]:=by rw [List.getElem?_eq_getElem hc];rfl
  have lt:=hm _ (List.getElem_mem hc)
  refine q_if false ?_ ?_
  ·have e1:fIx (.tup (stD l)) (.int c)=pure (.int (l[c]:Nat)):=by rw [ix_tup (z3Y hc),mc]
   by_cases c0:(0:Int)<c
   ·have e2':((c:Int) - 1)=((c - 1:Nat):Int):=by omega
    have hc1:c - 1<l.length:=by omega
    have lt2:=List.pairwise_iff_getElem.mp hl (c - 1) c hc1 hc (by omega)
    have mc1:(l[c - 1]?).getD 0=l[c - 1]:=by rw [List.getElem?_eq_getElem hc1];rfl
    have e3:fIx (.tup (stD l)) (.int ((c:Int) - 1))=pure (.int (l[c - 1]:Nat)):=by rw [e2',ix_tup (z3Y hc1),mc1]
    simp only [Bool.false_eq_true,Bool.not_true,List.getElem?_cons_succ,List.getElem?_cons_zero,List.length_cons,List.length_nil,List.set_cons_succ,List.set_cons_zero,Nat.reduceAdd,z8,aNil,J1,Y9,cAnd,cNot,cOr,cVal,decide_eq_false (show ¬((l[c - 1]:Nat):Int) ≥ (l[c]:Nat) by omega),decide_eq_true c0,e1,e2,e3,eFn,eVar,zw3,z42,if_false,if_true,z6Q lt,z4s,z0h]
   ·simp only [Bool.false_eq_true,Bool.not_true,List.getElem?_cons_succ,List.getElem?_cons_zero,List.length_cons,List.length_nil,List.set_cons_succ,List.set_cons_zero,Nat.reduceAdd,z8,aNil,J1,Y9,cAnd,cNot,cOr,cVal,decide_eq_false c0,e1,e2,eFn,eVar,z42,if_false,if_true,z6Q lt,z4s,z0h]
  rw [if_neg (by decide)]
  exact z1k (z0p ⟨_,rfl,rfl⟩)
 ·rintro γ h2 ⟨w,rfl,rfl⟩
  exact zC8 _ rfl ⟨rfl,[],by simp⟩
theorem zt2 {st:List (List Nat)}{mk:List (List Str)}(l1:1≤st.length) (l2:st.length≤40) (lm:mk.length=st.length) (rs:∀ l∈st,l.Pairwise (·<·)) (lt:∀ l∈st,∀ x∈l,x<st.length):y0 [maD st mk,maD st mk]=pure (.bl true):=by
 refine zx2 rfl fun h=>?_
 refine z1J ?_
 show W (x9 [some (maD st mk),some (maD st mk),none]) h _
 unfold x9
 refine q_if false ?_ ?_
 ·have e1:y3 [maD st mk,.int 2,.int 2]=pure (.bl true):=z43 (m:=2) (n:=2) (xs:=[.tup (stsD st),.tup (mksD mk)]) (by simp) (by simp)
  simp only [Bool.bne_true,Bool.false_eq_true,Bool.not_true,List.getElem?_cons_succ,List.getElem?_cons_zero,List.length_cons,List.length_nil,Nat.reduceAdd,z8,aNil,J1,Y9,cNot,cOr,cVal,decide_true,e1,e2,eFn,eVar,zv4,if_false,if_true,z0h]
  simp
 rw [if_neg (by decide)]
 refine z1k ?_
 refine q_if false ?_ ?_
 ·have e1:y3 [.tup (stsD st),.int 1,.int 40]=pure (.bl true):=z43 (m:=1) (n:=40) (by rw [z1K];omega) (by rw [z1K];omega)
  have e2':y3 [.tup (mksD mk),.int 1,.int 40]=pure (.bl true):=z43 (m:=1) (n:=40) (by rw [z5s];omega) (by rw [z5s];omega)
  simp only [Bool.false_eq_true,Bool.not_true,List.getElem?_cons_zero,List.length_cons,List.length_nil,Nat.reduceAdd,z8,aNil,Y9,cNot,cOr,cVal,e1,e2,e2',eFn,eVar,if_false,if_true,z1R,z2J,z0h]
 rw [if_neg (by decide)]
 refine z1k ?_
 refine z22 (fun γ h'=>∃ w,γ=[some (maD st mk),some (maD st mk),w]/\h'=h) ?_ ?_
 ·refine z3r (fun c γ h'=>∃ w,γ=[some (maD st mk),some (maD st mk),w]/\h'=h) (fun _ _=>False) ?_
  refine W_eq (v:=.con (stsD st)) (by unfold z0D;simp only [List.getElem?_cons_zero,Y9,e2,eVar,z1R]) ?_
  refine ⟨⟨none,rfl,rfl⟩,fun _ _ _ _=>trivial,?_,?_,fun _ _ q=>q.elim⟩
  ·rintro c d γ _ hd ⟨w,rfl,rfl⟩
   have hd':(stsD st)[c]?=some d:=hd
   unfold stsD at hd'
   rw [List.getElem?_map] at hd'
   obtain ⟨l,el,rfl⟩:=Option.map_eq_some_iff.mp hd'
   have ml:=List.mem_of_getElem? el
   refine W_eq (v:=[some (maD st mk),some (maD st mk),some (.tup (stD l))]) rfl ?_
   refine q_if false ?_ ?_
   ·simp only [Bool.not_true,List.getElem?_cons_succ,List.getElem?_cons_zero,List.length_cons,List.length_nil,Nat.reduceAdd,z8,aNil,Y9,cNot,cVal,e2,Z9,eFn,eVar,zx3 (l:=l) (n:=st.length) (by omega) (rs l ml) (lt l ml),if_true,z1R,z0C,z1K,z0h]
   rw [if_neg (by decide)]
   exact z1k (z0p ⟨_,rfl,rfl⟩)
  ·exact fun γ h2 z=>z
 rintro γ _ ⟨w,rfl,rfl⟩
 refine Y4 (.bl (([]:List D).isEmpty != false)) (zm2 (j:=[]) ?_ (by simp)) ⟨rfl,[],by simp⟩
 rw [zh8 (items:=mksD mk) (fun _=>false) (fun d=>d) (by unfold z0D;simp only [List.getElem?_cons_zero,Y9,e2,eVar,z2J]) (by rw [z5s];omega) ?_]
 ·rw [List.append_nil]
  congr 1
  simp
 ·intro d hd
  unfold mksD at hd
  obtain ⟨l,_,rfl⟩:=List.mem_map.mp hd
  refine ⟨[some (.tup (l.map .str))],rfl,?_,fun z=>by cases z⟩
  simp only [List.getElem?_cons_zero,Y9,cNot,cVal,eIsi,eVar,z5p,z0h]
  rfl
theorem zJ2 {raw:List Nat}{h:AH}{i:Nat}(e:h[i]?=some (.lst (stD raw))) (hl:raw.length≤100):z0U [.ref i] h=.ok (.tup (stD (rowOf raw))) h:=by
 show cln (runF 1 z0f [.ref i]) h=_
 suffices z:runF 1 z0f [.ref i] h=.ok (.tup (stD (rowOf raw))) h from z1d (j:=[]) (by rw [List.append_nil];exact z) (by simp only [J7];exact z29 _)
 refine z3t ?_
 show W (z0f [some (.ref i)]) h _
 unfold z0f
 refine Y4 _ (h1:=h) (z5j (xs:=stD (rowOf raw)) ?_ (z29 _)) ⟨rfl,rfl⟩
 refine (z0N (l:=raw) (fun _=>true) (fun x=>.int (raw.idxOf x:Nat)) (z7M (Z8 rfl) e) rfl (fun j=>?_) (by omega) fun x hx=>⟨[some (.ref i),some (.int x)],fun h=>rfl,fun j=>rfl,fun _ j=>?_⟩).trans ?_
 ·show (h++j)[i]?=_
  rw [List.getElem?_append_left (List.getElem?_eq_some_iff.mp e).1,e]
 ·exact ze6 (Z8 rfl) (by rw [List.getElem?_append_left (List.getElem?_eq_some_iff.mp e).1];exact e) (Z8 rfl) hx (by omega)
 ·rw [filter_tt]
  unfold rowOf stD
  rw [List.map_map]
  rfl
structure RowC (raw:List Nat) (tos:List Nat) (A:List Nat):Prop where
 nd:A.Nodup
 lt:∀ o∈A,o<raw.length
 a:∀ o∈A,rowAt raw o∈tos
 b:∀ t∈tos,∃ o∈A,rowAt raw o=t
def z0x (raw:List Nat) (t:Nat):List Nat:=(List.range raw.length).filter fun o=>decide (rowAt raw o=t)
theorem mates_mem {raw:List Nat}{t o:Nat}:o∈z0x raw t↔o<raw.length/\rowAt raw o=t:=by
 unfold z0x
 rw [List.mem_filter,List.mem_range,decide_eq_true_eq]
theorem zc0 (raw:List Nat) (t:Nat):(z0x raw t).Nodup:=List.Pairwise.filter _ List.nodup_range
theorem z8n (raw:List Nat) (t:Nat):(z0x raw t).length≤raw.length:=by
 unfold z0x
 exact Nat.le_trans (List.length_filter_le _ _) (by simp)
theorem RowC.put {raw tos A B:List Nat}{t s:Nat}(c:RowC raw tos A) (nt:t∉tos) (sb:B.Sublist (z0x raw t)) (sm:s∈B):RowC raw (tos++[t]) (A++B) :=
 have bm:∀ o∈B,o<raw.length/\rowAt raw o=t:=fun o ho=>mates_mem.mp (sb.subset ho)
 ⟨by
  rw [List.nodup_append]
  refine ⟨c.nd,sb.nodup (zc0 raw t),fun x hx y hy e=>?_⟩
  subst e
  have:=c.a x hx
  rw [(bm x hy).2] at this
  exact nt this,fun o ho=>by
  rcases List.mem_append.mp ho with q | q
  ·exact c.lt o q
  ·exact (bm o q).1,fun o ho=>by
  rcases List.mem_append.mp ho with q | q
  ·exact List.mem_append_left _ (c.a o q)
  ·rw [(bm o q).2];simp,fun u hu=>by
  rcases List.mem_append.mp hu with q | q
  ·obtain ⟨o,ho,e⟩:=c.b u q
   exact ⟨o,List.mem_append_left _ ho,e⟩
  ·simp at q
   subst q
   exact ⟨s,List.mem_append_right _ sm,(bm s sm).2⟩⟩
theorem zu7 {γ:G}{h:AH}{k:Int}{r l:AH}{b:Nat}{M:List Nat}{s:Nat}(p:PS h k (r++l)) (hk:k<900000) (hM:M.length≤40) (e0:γ[0]?=some (some (.ref 2))) (e10:γ[10]?=some (some (.ref (b+3)))) (e11:γ[11]?=some (some (.int s))) (eb:(r++l)[b]?=some (.lst (stD M))) {Q:D->AH->Prop}
 (z:∀ B h',B.Sublist M->(s∈M->s∈B)->PS h' (k+M.length) (r++(l++[.lst (stD B)]))->Q (.ref (r.length+l.length+3)) h') :
 W (z0i [some 11,some 0,none] (orE (z0D (eVar 10)) (z0Y (eVar 10))) (gN 2) (cOr (fun γ=>do let d ← e2 (fEqX false) (eVar 2) (eVar 0) γ;asB d) (fun γ=>do let d ← e2 (fEq false) (eFn 2 Z3 (z8 (eVar 1) (z8 (fun _=>pure (.int 3)) aNil))) (fun _=>pure (.int 0)) γ;asB d)) (eVar 2) γ) h Q:=by
 refine z6v (r:=r) (l:=l) (fun c xs k'=>∃ B:List Nat,xs=stD B/\B.Sublist (M.take c)/\(s∈M.take c->s∈B)/\k'=k+c) ?_
 refine W.of (z92 (Z8 e10) (by rw [p.get];exact eb)) ?_
 refine ⟨_,p,⟨[],rfl,by simp,by simp,by simp⟩,fun h' k' xs' ph=>?_,?_,?_⟩
 ·show h'[b+3]?=_
  rw [ph.get,← List.append_assoc,z2v eb]
 ·rintro c d h9 k9 xs' hd ⟨B,rfl,sb,sm,rfl⟩ p9
  obtain ⟨y,rfl,ey⟩:=z2I (show (stD M)[c]?=some d from hd)
  obtain ⟨lc,ey'⟩:=List.getElem?_eq_some_iff.mp ey
  have tk:M.take (c+1)=M.take c++[y]:=by rw [← ey',List.take_succ_eq_append_getElem lc]
  have l8:B.length≤40:=Nat.le_trans sb.length_le (by rw [List.length_take];omega)
  simp only [capG,List.map_cons,List.map_nil,e0,e10,e11,Option.join_some,Option.join_none]
  have eq1:fEqX false (.int (y:Nat)) (.int (s:Nat))=pure (.bl (decide (y=s))):=funext fun h=>by rw [z2H (z2d y s)];simp [pureM]
  simp only [List.getElem?_cons_succ,List.getElem?_cons_zero,List.length_cons,List.length_nil,List.set_cons_succ,List.set_cons_zero,Nat.reduceAdd,v9,Z6,J9,W_pure,z8,aNil,J1,cOr,e2,eFn,eVar,eq1,gN,if_true]
  by_cases q:y=s
  ·rw [decide_eq_true q,if_pos rfl]
   refine ⟨_,p9.up (show _≤k+((c+1:Nat):Int) by omega),by rw [y8];omega,B++[y],z2a _ _,by rw [tk];exact sb.append (List.Sublist.refl _),fun _=>?_,rfl⟩
   simp [q]
  ·rw [decide_eq_false q,if_neg (by decide)]
   refine z02 p9 (by omega) (by decide) (by decide) fun t h10 t0 t1 p10=>?_
   simp only [W_pure,J1,z51]
   by_cases q2:t=0
   ·rw [decide_eq_true q2]
    simp only [Bool.not_false,Bool.true_bne,if_true]
    refine ⟨_,p10,by rw [y8];omega,B++[y],z2a _ _,by rw [tk];exact sb.append (List.Sublist.refl _),fun z=>?_,by omega⟩
    rw [tk] at z
    rcases List.mem_append.mp z with q3 | q3
    ·exact List.mem_append_left _ (sm q3)
    ·simp at q3;exact absurd q3.symm q
   ·rw [decide_eq_false q2]
    simp only [Bool.false_bne,Bool.false_eq_true,if_false]
    refine ⟨_,p10,B,rfl,by rw [tk];exact sb.trans (List.sublist_append_left _ _),fun z=>?_,by omega⟩
    rw [tk] at z
    rcases List.mem_append.mp z with q3 | q3
    ·exact sm q3
    ·simp at q3;exact absurd q3.symm q
 rintro h9 xs' k9 ⟨B,rfl,sb,sm,rfl⟩ p9
 rw [show (Src.lst (b+3) (stD M)).items.length=M.length by simp [Src.items,stD]] at sb sm p9
 rw [List.take_length] at sb sm
 exact z B h9 sb sm p9
theorem zh2 {l:List Nat}{t:Nat}(h:t<l.length):(stD l)[t]?=some (.int (l[t]:Nat)):=by
 unfold stD
 rw [List.getElem?_map,List.getElem?_eq_getElem h]
 rfl
theorem z9u {h:AH}{k:Int}{r:AH}{bst:List (List Nat)}{bmk:List (List Str)}{most:Nat}(p:PS h k r) (hk:k<700000) (hb:bst.length≤5) (hmost:most≤6) (ba:MA bst bmk) {Q:D->AH->Prop}
 (z:∀ st mk raw h' j i,Cop bst bmk st mk raw->raw.length≤bst.length+most->PS h' (k+1000) (r++j)->(r++j)[i]?=some (.lst (stD raw))->Q (.tup [maD st mk,.ref (i+3)]) h') :
 W (z0W [.ref 2,maD bst bmk,.int most]) h Q:=by
 have b1:=ba.l1
 have hl0:=p.len
 refine zD0 ?_
 refine z1J ?_
 show W (z0S [some (.ref 2),some (maD bst bmk),some (.int most),none,none,none,none,none,none,none,none,none]) h _
 unfold z0S
 refine z0B (fun d h1=>d=.ref (r.length+0+3)/\PS h1 k (r++[.lst (stD (List.range bst.length))])) ?_ ?_
 ·rw [zB5 (n:=bst.length) (by simp only [List.getElem?_cons_succ,List.getElem?_cons_zero,z8,aNil,Y9,e2,Z9,eVar,z1R,z0C,z1K]) (by omega),if_neg (by decide)]
  exact z0A p (by simp [z0Z];omega) fun h1 p1=>⟨rfl,p1⟩
 rintro _ h1 ⟨rfl,p1⟩
 refine z22 (fun γ h=>∃ K w,γ=[some (.ref 2),some (maD bst bmk),some (.int most),some (.ref (r.length+0+3)),w,none,none,none,none,none,none,none]/\PS h (k+8) (r++[.lst (stD K)])/\K.length≤bst.length+most/\∀ x,x∈K↔x<bst.length) ?_ ?_
 ·refine z00 (fun c γ h=>∃ E w,γ=[some (.ref 2),some (maD bst bmk),some (.int most),some (.ref (r.length+0+3)),w,none,none,none,none,none,none,none]/\PS h (k+1+c) (r++[.lst (stD (List.range bst.length++E))])/\(∀ x∈E,x<bst.length)/\E.length=c) (fun _ _=>False) ?_
  simp only [List.getElem?_cons_succ,List.getElem?_cons_zero,List.length_cons,List.length_nil,List.set_cons_succ,List.set_cons_zero,Nat.reduceAdd,v9,Z6,J9,W_pure,z8,aNil,z1B,e2,eFn,eVar,if_true]
  refine z02 p1 (by omega) (by omega) (by omega) fun d h2 d0 d1 p2=>?_
  obtain ⟨d,rfl⟩:=Int.eq_ofNat_of_zero_le d0
  refine ⟨d,rfl,by omega,⟨[],_,rfl,by simpa using p2,by simp,rfl⟩,?_,?_,fun _ _ q=>q.elim⟩
  ·rintro c γ h3 hc ⟨E,w,rfl,p3,e3,l3⟩
   refine z66 (i:=0) rfl p3 rfl (by rw [y8];simp;omega) (fun v k'=>∃ x:Nat,v=.int x/\x<bst.length/\k'=k+1+c+1) ?_ ?_
   ·simp only [List.getElem?_cons_succ,List.getElem?_cons_zero,List.length_cons,List.length_nil,List.set_cons_succ,List.set_cons_zero,Nat.reduceAdd,v9,Z6,J9,W_pure,z8,aNil,e2,Z9,eFn,eVar,if_true,z1R,z0C,z1K]
    refine z02 p3 (by omega) (by omega) (by omega) fun d h4 d0 d1 p4=>?_
    obtain ⟨d,rfl⟩:=Int.eq_ofNat_of_zero_le d0
    exact ⟨_,p4,d,rfl,by omega,rfl⟩
   rintro _ _ h4 ⟨x,rfl,hx,rfl⟩ p4
   rw [List.set_cons_zero,z2a,List.append_assoc] at p4
   refine z0p ⟨E++[x],_,rfl,p4.up (by omega),fun y hy=>?_,by simp [l3]⟩
   rcases List.mem_append.mp hy with q | q
   ·exact e3 y q
   ·simp at q;omega
  ·rintro γ h3 ⟨E,w,rfl,p3,e3,l3⟩
   refine ⟨List.range bst.length++E,_,rfl,p3.up (by omega),by simp;omega,fun x=>?_⟩
   rw [List.mem_append,List.mem_range]
   exact ⟨fun q=>q.elim id (e3 x),.inl⟩
 rintro γ h2 ⟨K,w,rfl,p2,lK,mK⟩
 refine z0B (fun d h1=>d=.ref (r.length+1+3)/\PS h1 (k+8) (r++[.lst (stD K),.lst (stD [])])) ?_ ?_
 ·simp only [Z6,W_pure,aNil,eLst]
  exact z0A p2 (by decide) fun h3 p3=>⟨by simp,by rw [List.append_assoc] at p3;exact p3⟩
 rintro _ h3 ⟨rfl,p3⟩
 refine z22 (fun γ h=>∃ raw w,γ=[some (.ref 2),some (maD bst bmk),some (.int most),some (.ref (r.length+0+3)),w,some (.ref (r.length+1+3)),none,none,none,none,none,none]/\PS h (k+20) (r++[.lst (stD []),.lst (stD raw)])/\raw.length≤bst.length+most/\∀ x,x∈raw↔x<bst.length) ?_ ?_
 ·refine z00 (fun c γ h=>∃ K' R w,γ=[some (.ref 2),some (maD bst bmk),some (.int most),some (.ref (r.length+0+3)),w,some (.ref (r.length+1+3)),none,none,none,none,none,none]/\PS h (k+8+c) (r++[.lst (stD K'),.lst (stD R)])/\(K'++R).Perm K/\R.length=c) (fun _ _=>False) ?_
  simp only [List.getElem?_cons_succ,List.getElem?_cons_zero,List.set_cons_succ,List.set_cons_zero,Z6,W_pure,z8,aNil,Z9,eVar]
  refine ze2 (i:=0) p3 rfl ?_
  rw [y8]
  refine ⟨K.length,rfl,by omega,⟨K,[],_,rfl,p3.up (by omega),by simp,rfl⟩,?_,?_,fun _ _ q=>q.elim⟩
  ·rintro c γ h4 hc ⟨K',R,w,rfl,p4,pm,l4⟩
   have lk:K'.length+R.length=K.length:=by have:=pm.length_eq;simpa using this
   refine z8i ?_
   simp only [List.getElem?_cons_succ,List.getElem?_cons_zero,List.length_cons,List.length_nil,List.set_cons_succ,List.set_cons_zero,Nat.reduceAdd,z5x,v9,Z6,J9,W_pure,z8,aNil,Z9,eFn,eM1,eVar,if_true,z1C]
   refine z55 (i:=1) p4 rfl ?_
   refine z55 (i:=0) p4 rfl ?_
   refine ze2 (i:=0) p4 rfl ?_
   rw [y8]
   refine z02 p4 (by omega) (by omega) (by omega) fun t h5 t0 t1 p5=>?_
   obtain ⟨t,rfl⟩:=Int.eq_ofNat_of_zero_le t0
   have tl:t<K'.length:=by omega
   have pa:=zl2 (h:=h5) (i:=r.length+0+3) (xs:=stD K') (by rw [p5.get];exact (at_E (i:=0)).trans rfl) (zh2 tl) (by rw [y8];omega)
   rw [z6p] at pa
   refine W_of pa ?_
   have p6:=p5.set (r.length+0) (.lst (stD (K'.eraseIdx t)))
   rw [za8,List.set_cons_zero] at p6
   refine z8T (i:=1) p6 rfl (by rw [y8];omega) fun h7 p7=>?_
   rw [List.set_cons_succ,List.set_cons_zero,z2a] at p7
   refine ⟨K'.eraseIdx t,R++[K'[t]],_,rfl,p7.up (by omega),?_,by simp [l4]⟩
   refine List.Perm.trans ?_ pm
   rw [← List.append_assoc]
   refine (List.Perm.append_right _ List.perm_append_comm).trans ?_
   rw [List.append_assoc]
   refine (List.Perm.append_left R (zc5 tl)).trans List.perm_append_comm
  ·rintro γ h4 ⟨K',R,w,rfl,p4,pm,l4⟩
   have lk:K'.length+R.length=K.length:=by have:=pm.length_eq;simpa using this
   have k0:K'=[]:=List.length_eq_zero_iff.mp (by omega)
   subst k0
   exact ⟨R,_,rfl,p4.up (by omega),by omega,fun x=>by rw [← mK x];exact pm.mem_iff⟩
 rintro γ h4 ⟨raw,w,rfl,p4,lR,mR⟩
 refine z0B (fun d h1=>d=.ref (r.length+2+3)/\PS h1 (k+20) (r++[.lst (stD []),.lst (stD raw),.lst (stsD [])])) ?_ ?_
 ·simp only [Z6,W_pure,aNil,eLst]
  exact z0A p4 (by decide) fun h3 p3=>⟨by simp,by rw [List.append_assoc] at p3;exact p3⟩
 rintro _ h5 ⟨rfl,p5⟩
 refine z22 (fun γ h=>∃ S j w7 w8 w9 w10 w11,γ=[some (.ref 2),some (maD bst bmk),some (.int most),some (.ref (r.length+0+3)),w,some (.ref (r.length+1+3)),some (.ref (r.length+2+3)),w7,w8,w9,w10,w11]/\PS h (k+1000) (r++(.lst (stD []) :: .lst (stD raw) :: .lst (stsD S) :: j))/\S.length=raw.length/\∀ i,i<raw.length->(nx S i).Pairwise (·<·)/\RowC raw (nx bst (rowAt raw i)) (nx S i)) ?_ ?_
 ·refine z3r (fun c γ h=>∃ S j w7 w8 w9 w10 w11,γ=[some (.ref 2),some (maD bst bmk),some (.int most),some (.ref (r.length+0+3)),w,some (.ref (r.length+1+3)),some (.ref (r.length+2+3)),w7,w8,w9,w10,w11]/\PS h (k+20+80 * c) (r++(.lst (stD []) :: .lst (stD raw) :: .lst (stsD S) :: j))/\S.length=c/\∀ i,i<c->(nx S i).Pairwise (·<·)/\RowC raw (nx bst (rowAt raw i)) (nx S i)) (fun _ _=>False) ?_
  refine W_of (z92 (xs:=stD raw) (Z8 rfl) (by rw [p5.get,at_E];rfl)) ?_
  refine ⟨⟨[],[],_,_,_,_,_,rfl,p5.up (by omega),rfl,fun i hi=>by omega⟩,?_,?_,?_,fun _ _ q=>q.elim⟩
  ·rintro c γ h6 ⟨S,j,w7,w8,w9,w10,w11,rfl,p6,l6,s6⟩
   show h6[r.length+1+3]?=_
   rw [p6.get,at_E];rfl
  ·rintro c d γ h6 hd ⟨S,j,w7,w8,w9,w10,w11,rfl,p6,l6,s6⟩
   obtain ⟨kd,rfl,ek⟩:=z2I (show (stD raw)[c]?=some d from hd)
   have hc:c<raw.length:=(List.getElem?_eq_some_iff.mp ek).1
   have kl:kd<bst.length:=(mR kd).mp (List.mem_of_getElem? ek)
   have mem:nx bst kd∈bst:=List.mem_of_getElem? (ze3 kl)
   have rs:=ba.s1 _ mem
   have lts:=ba.s2 _ mem
   have ln:=z3R rs lts
   refine W_eq (v:=[some (.ref 2),some (maD bst bmk),some (.int most),some (.ref (r.length+0+3)),w,some (.ref (r.length+1+3)),some (.ref (r.length+2+3)),some (.int kd),w8,w9,w10,w11]) rfl ?_
   refine z0B (fun d h1=>d=.ref (r.length+(j.length+3)+3)/\PS h1 (k+20+80 * c) (r++(.lst (stD []) :: .lst (stD raw) :: .lst (stsD S) :: (j++[.lst (stD [])])))) ?_ ?_
   ·simp only [Z6,W_pure,aNil,eLst]
    exact z0A p6 (by decide) fun h3 p3=>⟨by simp,by rw [List.append_assoc] at p3;exact p3⟩
   rintro _ h7 ⟨rfl,p7⟩
   refine z22 (fun γ h=>∃ A a j w9 w10 w11,γ=[some (.ref 2),some (maD bst bmk),some (.int most),some (.ref (r.length+0+3)),w,some (.ref (r.length+1+3)),some (.ref (r.length+2+3)),some (.int kd),some (.ref (r.length+a+3)),w9,w10,w11]/\PS h (k+20+80 * c+75) (r++(.lst (stD []) :: .lst (stD raw) :: .lst (stsD S) :: j))/\(O.lst (stD []) :: O.lst (stD raw) :: O.lst (stsD S) :: j)[a]?=some (.lst (stD A))/\RowC raw (nx bst kd) A) ?_ ?_
   ·refine z3r (fun c' γ h=>∃ A a j w9 w10 w11,γ=[some (.ref 2),some (maD bst bmk),some (.int most),some (.ref (r.length+0+3)),w,some (.ref (r.length+1+3)),some (.ref (r.length+2+3)),some (.int kd),some (.ref (r.length+a+3)),w9,w10,w11]/\PS h (k+20+80 * c+15 * c') (r++(.lst (stD []) :: .lst (stD raw) :: .lst (stsD S) :: j))/\(O.lst (stD []) :: O.lst (stD raw) :: O.lst (stsD S) :: j)[a]?=some (.lst (stD A))/\RowC raw ((nx bst kd).take c') A) (fun _ _=>False) ?_
    refine W_of (zh0 (xs:=stD (nx bst kd)) (h1:=h7) ?_) ?_
    ·have:e2 fIx (e2 fIx (eVar 1) (fun _=>pure (.int 0))) (eVar 7) [some (.ref 2),some (maD bst bmk),some (.int most),some (.ref (r.length+0+3)),w,some (.ref (r.length+1+3)),some (.ref (r.length+2+3)),some (.int kd),some (.ref (r.length+(j.length+3)+3)),w9,w10,w11]=pure (.tup (stD (nx bst kd))):=by simp only [List.getElem?_cons_succ,List.getElem?_cons_zero,Y9,e2,eVar,z1R,z6n kl]
     exact congrFun this h7
    refine ⟨⟨[],j.length+3,_,_,_,_,rfl,p7.up (by omega),by simp,⟨by simp,by simp,by simp,by simp⟩⟩,fun _ _ _ _=>trivial,?_,?_,fun _ _ q=>q.elim⟩
    ·rintro c' d γ h8 hd ⟨A,a,j,w9,w10,w11,rfl,p8,ea,rc⟩
     obtain ⟨to,rfl,et⟩:=z2I (show (stD (nx bst kd))[c']?=some d from hd)
     obtain ⟨hc',et'⟩:=List.getElem?_eq_some_iff.mp et
     have tk:(nx bst kd).take (c'+1)=(nx bst kd).take c'++[to]:=by rw [← et',List.take_succ_eq_append_getElem hc']
     have tn:to∉(nx bst kd).take c':=by
      have nd:=z2A rs
      have:=nd.sublist (List.take_sublist (c'+1) (nx bst kd))
      rw [tk,List.nodup_append] at this
      exact fun q=>this.2.2 to q to (by simp) rfl
     have tr:to∈raw:=(mR to).mpr (lts to (List.mem_of_getElem? et))
     have ml:=z8n raw to
     have m0:0<(z0x raw to).length:=List.length_pos_of_mem (mates_mem.mpr ⟨List.idxOf_lt_length_iff.mpr tr,z0r tr⟩)
     have al:A.length≤raw.length:=z3c rc.nd rc.lt
     refine W_eq (v:=[some (.ref 2),some (maD bst bmk),some (.int most),some (.ref (r.length+0+3)),w,some (.ref (r.length+1+3)),some (.ref (r.length+2+3)),some (.int kd),some (.ref (r.length+a+3)),some (.int to),w10,w11]) rfl ?_
     refine z1E (.ref (r.length+(j.length+3)+3)) [some (.ref 2),some (maD bst bmk),some (.int most),some (.ref (r.length+0+3)),w,some (.ref (r.length+1+3)),some (.ref (r.length+2+3)),some (.int kd),some (.ref (r.length+a+3)),some (.int to),some (.ref (r.length+(j.length+3)+3)),w11] (h1:=h8++[.lst (stD (z0x raw to))]) ?_ rfl ?_
     ·have e8:h8[r.length+1+3]?=some (.lst (stD raw)):=by rw [p8.get,at_E];rfl
      have l8:h8.length=r.length+(j.length+3)+3:=by rw [p8.len];simp
      refine (z0N (src:=.con (z0Z raw.length)) (l:=List.range raw.length) (fun o=>decide (rowAt raw o=to)) (fun o=>.int o) (z2i (n:=raw.length) (J4 (Z8 rfl) (by rw [zm0 e8,y8])) (by omega)) rfl (fun _=>trivial) (by simp;omega) fun o ho=>⟨[some (.ref (r.length+1+3)),some (.int to),some (.int o)],fun h=>rfl,fun j=>?_,fun _ j=>rfl⟩).trans ?_
      ·have ho:o<raw.length:=by simpa using ho
       refine cb_h (e2_h (e2_h (Z8 rfl) (Z8 rfl) (ix_h (xs:=stD raw) (by rw [List.getElem?_append_left (List.getElem?_eq_some_iff.mp e8).1];exact e8) (z3Y ho))) (Z8 rfl) ?_)
       refine (z2H (z2d (rowAt raw o) to)).trans ?_
       rw [Bool.bne_false]
      ·rw [l8];rfl
     have p9:=p8.app [.lst (stD (z0x raw to))]
     rw [List.append_assoc] at p9
     have e9:(r++(O.lst (stD []) :: O.lst (stD raw) :: O.lst (stsD S) :: (j++[O.lst (stD (z0x raw to))])))[r.length+(j.length+3)]?=some (.lst (stD (z0x raw to))):=by
      rw [at_E];simp
     refine z0B (fun d h1=>∃ s:Nat,d=.int s/\s∈z0x raw to/\PS h1 (k+20+80 * c+15 * c'+1) (r++(.lst (stD []) :: .lst (stD raw) :: .lst (stsD S) :: (j++[.lst (stD (z0x raw to))])))) ?_ ?_
     ·simp only [List.getElem?_cons_succ,List.getElem?_cons_zero,List.length_cons,List.length_nil,Nat.reduceAdd,v9,Z6,J9,W_pure,z8,aNil,e2,Z9,eFn,eVar,if_true]
      refine zd9 p9 e9 ?_
      rw [y8]
      refine z02 p9 (by omega) (by omega) (by omega) fun t h10 t0 t1 p10=>?_
      obtain ⟨t,rfl⟩:=Int.eq_ofNat_of_zero_le t0
      refine z8S p10 e9 (z3Y (by omega)) ?_
      exact ⟨_,rfl,z08 (by omega),p10⟩
     rintro _ h10 ⟨s,rfl,sm,p10⟩
     refine z0B (fun d h1=>∃ B,d=.ref (r.length+(j.length+5)+3)/\B.Sublist (z0x raw to)/\s∈B/\PS h1 (k+20+80 * c+15 * (c'+1:Nat)) (r++(.lst (stD []) :: .lst (stD raw) :: .lst (stsD S) :: (j++[.lst (stD (z0x raw to)),.lst (stD B),.lst (stD (A++B))])))) ?_ ?_
     ·unfold FT.e2
      rw [Z6]
      refine W_eq (v:=.ref (r.length+a+3)) rfl ?_
      rw [Z6]
      refine zu7 p10 (by omega) (by omega) rfl rfl rfl e9 fun B h11 sb sB p11=>?_
      have ea':((O.lst (stD []) :: O.lst (stD raw) :: O.lst (stsD S) :: (j++[O.lst (stD (z0x raw to))]))++[O.lst (stD B)])[a]?=some (.lst (stD A)):=by
       rw [show ((O.lst (stD []) :: O.lst (stD raw) :: O.lst (stsD S) :: (j++[O.lst (stD (z0x raw to))]))++[O.lst (stD B)])=(O.lst (stD []) :: O.lst (stD raw) :: O.lst (stsD S) :: j)++[O.lst (stD (z0x raw to)),O.lst (stD B)] by simp,List.getElem?_append_left (List.getElem?_eq_some_iff.mp ea).1]
       exact ea
      have bl:=sb.length_le
      rw [show (O.lst (stD []) :: O.lst (stD raw) :: O.lst (stsD S) :: (j++[O.lst (stD (z0x raw to))])).length=j.length+4 by simp]
      refine zt5 (i:=a) (j:=r.length+(j.length+4)) (ys:=stD B) p11 ea' (by rw [at_E];simp) (by rw [y8,y8];omega) fun h12 p12=>?_
      refine ⟨B,by simp,sb,sB sm,?_⟩
      rw [show stD A++stD B=stD (A++B) by simp [stD]] at p12
      have:=p12.up (k':=k+20+80 * c+15 * (c'+1:Nat)) (by omega)
      simpa using this
     rintro _ h12 ⟨B,rfl,sb,sB,p12⟩
     refine z0p ⟨A++B,j.length+5,_,_,_,_,rfl,p12,by simp,?_⟩
     rw [tk]
     exact rc.put tn sb sB
    ·rintro γ h8 ⟨A,a,j,w9,w10,w11,rfl,p8,ea,rc⟩
     rw [show (Src.con (stD (nx bst kd))).items.length=(nx bst kd).length by simp [Src.items,stD]] at rc p8
     rw [List.take_length] at rc
     exact ⟨A,a,j,w9,w10,w11,rfl,p8.up (by omega),ea,rc⟩
   rintro γ h8 ⟨A,a,j,w9,w10,w11,rfl,p8,ea,rc⟩
   have al:A.length≤raw.length:=z3c rc.nd rc.lt
   refine z66 (i:=2) rfl p8 rfl (by rw [z1K];omega) (fun v k'=>v=.tup (stD (z18 A))/\k'=k+20+80 * c+75) ?_ ?_
   ·refine W_of (z1d (j:=[.lst (stD (z18 A))]) (J4 (J4 (Z8 rfl) (zp5 (S:=A) (by omega) (by rw [p8.get,at_E];exact ea))) (z3M z21)) (by simp only [J7];exact z29 _)) ⟨_,p8,rfl,rfl⟩
   rintro _ _ h9 ⟨rfl,rfl⟩ p9
   rw [List.set_cons_succ,List.set_cons_succ,List.set_cons_zero,show stsD S++[D.tup (stD (z18 A))]=stsD (S++[z18 A]) by simp [stsD]] at p9
   refine z0p ⟨S++[z18 A],_,_,_,_,_,_,rfl,p9.up (by omega),by simp [l6],fun i hi=>?_⟩
   by_cases ic:i<c
   ·rw [show nx (S++[z18 A]) i=nx S i by unfold nx;rw [List.getElem?_append_left (by omega)]]
    exact s6 i ic
   ·have:i=c:=by omega
    subst this
    rw [show nx (S++[z18 A]) i=z18 A by unfold nx;rw [← l6];simp,z2V ek]
    exact ⟨z3I rc.nd,(z1Z A).nodup_iff.mpr rc.nd,fun o ho=>rc.lt o (sortN_mem.mp ho),fun o ho=>rc.a o (sortN_mem.mp ho),fun t ht=>by
     obtain ⟨o,ho,e⟩:=rc.b t ht
     exact ⟨o,sortN_mem.mpr ho,e⟩⟩
  ·rintro γ h6 ⟨S,j,w7,w8,w9,w10,w11,rfl,p6,l6,s6⟩
   rw [show (Src.lst (r.length+1+3) (stD raw)).items.length=raw.length by simp [Src.items,stD]] at l6 s6 p6
   exact ⟨S,j,w7,w8,w9,w10,w11,rfl,p6.up (by omega),l6,s6⟩
 rintro γ h6 ⟨S,j,w7,w8,w9,w10,w11,rfl,p6,l6,s6⟩
 have e5:h6[r.length+1+3]?=some (.lst (stD raw)):=by rw [p6.get,at_E];rfl
 have e6:h6[r.length+2+3]?=some (.lst (stsD S)):=by rw [p6.get,at_E];rfl
 refine Y4 (.tup [maD S (raw.map (mkAt bmk)),.ref (r.length+1+3)]) (h1:=h6) (z6k (z6k (J4 (Z8 rfl) (z3M e6)) (z5j (xs:=mksD (raw.map (mkAt bmk))) ?_ ?_)) (Z8 rfl)) ?_
 ·refine (z0N (l:=raw) (fun _=>true) (fun x=>.tup ((mkAt bmk x).map .str)) (z92 (Z8 rfl) e5) rfl (fun j=>?_) (by omega) fun x hx=>⟨[some (maD bst bmk),some (.int x)],fun h=>rfl,fun j=>rfl,fun _ j=>?_⟩).trans ?_
  ·show (h6++j)[r.length+1+3]?=_
   rw [List.getElem?_append_left (List.getElem?_eq_some_iff.mp e5).1,e5]
  ·have hx:=(mR x).mp hx
   have lm:=ba.l3
   have:e2 fIx (e2 fIx (eVar 0) (fun _=>pure (.int 1))) (eVar 1) [some (maD bst bmk),some (.int x)]=pure (.tup ((mkAt bmk x).map .str)):=by
    simp only [List.getElem?_cons_succ,List.getElem?_cons_zero,Y9,e2,eVar,z2J,ix_tup (z7p (show x<bmk.length by omega))]
    rfl
   rw [this];rfl
  ·have:raw.map (fun x=>D.tup ((mkAt bmk x).map .str))=mksD (raw.map (mkAt bmk)):=by
    unfold mksD
    rw [List.map_map]
    rfl
   rw [filter_tt,this]
 ·unfold mksD
  exact z03 fun a=>by simp only [J7];exact z1l _
 ·refine ⟨?_,fun i=>by simp,z S (raw.map (mkAt bmk)) raw h6 _ (r.length+1) ⟨l6,mR,fun i hi=>(s6 i hi).1,fun i hi=>(s6 i hi).2.lt,fun i hi t=>?_,rfl⟩ lR p6 (by rw [at_E];rfl)⟩
  ·simp only [J7,Y0,Bool.and_true,Bool.and_eq_false_iff,decide_eq_false_iff_not]
   right
   rw [hl0]
   omega
  ·rw [List.mem_map]
   constructor
   ·rintro ⟨o,ho,rfl⟩
    exact (s6 i hi).2.a o ho
   ·exact (s6 i hi).2.b t
end FT
set_option maxHeartbeats 4000000
namespace FT
open PySem PySem.Spec PyProof.Rows L2
theorem zA4 {m:M D}{h:AH}{k:Int}{r:AH}{Q:D->AH->Prop}(p:PS h k r) (z:W m h fun d h1=>∃ k' j i o,d=.ref (i+3)/\PS h1 k' (r++j)/\r.length≤i/\(r++j)[i]?=some o/\refO 3 o=true/\∀ h2,PS h2 k' (r++[o])->Q (.ref (r.length+3)) h2):W (cln m) h Q:=by
 obtain ⟨d,h1,e,k',j,i,o,rfl,p1,hi,ei,rd,f⟩:=z
 obtain ⟨c1,c2⟩:=z4b p trivial p1
 have l:=p.len
 refine ⟨.ref (r.length+3),h1.take h.length++[o],?_,f _ (c2.app _)⟩
 unfold cln
 rw [e]
 dsimp only
 rw [if_pos c1,if_neg (by simp only [J7,decide_eq_true_eq];omega),p1.get,ei]
 dsimp only
 rw [if_pos (show refO h.length o=true from zn8 (by omega) rd),l]
theorem zv1 {h:AH}{k:Int}{r:AH}{Q:D->AH->Prop}(p:PS h k r) (z:∀ h',PS h' k (r++[.dK []])->Q (.ref (r.length+3)) h'):W (newK []) h Q :=
 ⟨.ref (r.length+3),h++[.dK []],by unfold newK;rw [if_pos (by simp),p.len],z _ (p.app _)⟩
theorem zA9 {h:AH}{k:Int}{r:AH}{γ:G}{Q:D->AH->Prop}(p:PS h k r) (z:∀ h',PS h' k (r++[.dK [(.inr "a",.int 1)]])->Q (.ref (r.length+3)) h'):W (z8k (fun _=>pure (.str "a")) (fun _=>pure (.int 1)) γ) h Q:=by
 refine ⟨.ref (r.length+3),h++[.dK [(.inr "a",.int 1)]],?_,z _ (p.app _)⟩
 show putO h.length (.str "a") (.int 1) (h++[.dK []])=_
 unfold putO
 rw [show keyD (.str "a")=some (.inr "a") from rfl]
 dsimp only
 rw [z21]
 dsimp only
 rw [ze7,p.len]
def OdT (B:Nat) (r0:Nat) (R:AH) (v:D):Prop:=(J7 3 v=true/\Th [] B 2 100 v)∨∃ i o,v=.ref (i+3)/\r0≤i/\R[i]?=some o/\refO 3 o=true/\∀ r:AH,Th (r++[o]) B 2 100 (.ref (r.length+3))
theorem zt0 {h:AH}{k:Int}{r:AH}{B:Nat}(p:PS h k r) (hk:k<900000) (hB:10 ^ 21+3≤B):W (z0n [.ref 2]) h (fun d' h'=>∃ j,Th (r++j) B 2 100 d'/\PS h' (k+1) (r++j)):=by
 have key:W (runF 2 z1m [.ref 2]) h (fun v h'=>∃ j,OdT B r.length (r++j) v/\PS h' (k+1) (r++j)):=by
  refine z1J ?_
  show W (z1m [some (.ref 2),none]) h _
  unfold z1m
  have pw:fPow (.int 10) (.int 21)=pure (.int 1000000000000000000000):=rfl
  rw [w_cons];simp only [List.length_cons,List.length_nil,List.set_cons_succ,List.set_cons_zero,Nat.reduceAdd,v9,Z6,J9,W_pure,z8,aNil,z1B,y4,e2,eLst,eNeg,eTup,gN,pw,sAsg]
  rw [if_pos (by decide)]
  refine z0A p (by decide) fun h1 p1=>?_
  rw [if_pos (by decide)]
  refine z0A p1 (by simp) fun h2 p2=>?_
  refine zv1 p2 fun h3 p3=>?_
  generalize hl1:[D.non,D.bl true,D.bl false,D.str "a",D.str "",D.int (-1),D.int 40,D.int (1000000000000000000000+3),D.tup [],D.ref (r.length+3),D.tup [D.int 0],D.ref ((r++[O.lst []]).length+3),D.ref ((r++[O.lst []]++[O.lst [D.int 0]]).length+3),D.str "Aa",D.str "no",D.str "abcdefghi"]=l1
  have n1:l1.length=16:=by rw [← hl1];rfl
  refine z0A p3 (by omega) fun h4 p4=>?_
  rw [w_cons];simp only [List.getElem?_cons_succ,List.getElem?_cons_zero,List.length_cons,List.length_nil,List.set_cons_succ,List.set_cons_zero,Nat.reduceAdd,v9,Z6,J9,W_pure,z8,aNil,y4,e2,eLst,eTup,eVar,gN,sAsg]
  rw [if_pos (by decide),if_pos (by decide)]
  refine zA9 p4 fun h5 p5=>?_
  generalize hl2:[D.tup [D.str "a"],D.int 0,D.int 1,D.str "b c",D.tup [D.int 0,D.int 0],D.ref ((r++[O.lst []]++[O.lst [D.int 0]]++[O.dK []]++[O.lst l1]).length+3),D.str "z"]=l2
  have n2:l2.length=7:=by rw [← hl2];rfl
  refine z0A p5 (by omega) fun h6 p6=>?_
  rw [zu0,Z6]
  have a4:(r++[O.lst []]++[O.lst [D.int 0]]++[O.dK []]++[O.lst l1]++[O.dK [(.inr "a",.int 1)]]++[O.lst l2])[(r++[O.lst []]++[O.lst [D.int 0]]++[O.dK []]).length]?=some (.lst l1):=z2v (z2v z0Q)
  refine z3g p6 a4 ?_
  rw [Z6]
  refine z3g p6 z0Q ?_
  refine z0A p6 (by rw [List.length_append];omega) fun h7 p7=>?_
  rw [w_cons];simp only [List.getElem?_cons_succ,List.getElem?_cons_zero,List.length_cons,List.length_nil,Nat.reduceAdd,v9,Z6,J9,W_pure,z8,aNil,Y6,e2,eFn,eVar,if_true,sRet]
  refine z02 p7 (by omega) (by decide) (by decide) fun t h8 t0 t1 p8=>?_
  obtain ⟨v,mv,ev⟩:=z7R (xs:=l1++l2) t0 (by rw [List.length_append,n1,n2];omega)
  refine z8S p8 z0Q ev ?_
  have fl:r++[O.lst []]++[O.lst [D.int 0]]++[O.dK []]++[O.lst l1]++[O.dK [(.inr "a",.int 1)]]++[O.lst l2]++[O.lst (l1++l2)]=r++[O.lst [],O.lst [D.int 0],O.dK [],O.lst l1,O.dK [(.inr "a",.int 1)],O.lst l2,O.lst (l1++l2)]:=by simp
  rw [fl] at p8
  refine ⟨_,?_,p8⟩
  have at_:∀ (R:AH) (i:Nat),(r++R)[r.length+i]?=R[i]?:=fun R i=>by rw [List.getElem?_append_right (by omega)];congr 1;omega
  have si:∀ i:Int,i.natAbs≤10 ^ 21+3->OdT B r.length (r++[O.lst [],O.lst [D.int 0],O.dK [],O.lst l1,O.dK [(.inr "a",.int 1)],O.lst l2,O.lst (l1++l2)]) (.int i):=fun i hi=>.inl ⟨rfl,by simp only [Th];omega⟩
  have st:∀ x:Str,(reprText x).length≤100->x.length≤1000->OdT B r.length (r++[O.lst [],O.lst [D.int 0],O.dK [],O.lst l1,O.dK [(.inr "a",.int 1)],O.lst l2,O.lst (l1++l2)]) (.str x):=fun x h1 h2=>.inl ⟨rfl,by simp only [Th];exact ⟨h1,h2⟩⟩
  have rf:∀ (i:Nat) (o:O),[O.lst [],O.lst [D.int 0],O.dK [],O.lst l1,O.dK [(.inr "a",.int 1)],O.lst l2,O.lst (l1++l2)][i]?=some o->refO 3 o=true->(∀ q:AH,Th (q++[o]) B 2 100 (.ref (q.length+3)))->OdT B r.length (r++[O.lst [],O.lst [D.int 0],O.dK [],O.lst l1,O.dK [(.inr "a",.int 1)],O.lst l2,O.lst (l1++l2)]) (.ref (r.length+i+3)):=fun i o e c f=>.inr ⟨r.length+i,o,rfl,by omega,by rw [at_];exact e,c,f⟩
  have ti:∀ i:Nat,i≤40->Th [] B 1 40 (.int (i:Nat)):=fun i hi=>by simp only [Th];omega
  have m1:∀ v∈l1,OdT B r.length (r++[O.lst [],O.lst [D.int 0],O.dK [],O.lst l1,O.dK [(.inr "a",.int 1)],O.lst l2,O.lst (l1++l2)]) v:=by
   rw [show l1=_ from hl1.symm]
   simp only [List.forall_mem_cons]
   rw [hl1]
   refine ⟨.inl ⟨rfl,by simp [Th]⟩,.inl ⟨rfl,by simp [Th]⟩,.inl ⟨rfl,by simp [Th]⟩,st _ (by decide +kernel) (by decide +kernel),st _ (by decide +kernel) (by decide +kernel),si _ (by decide),si _ (by decide),si _ (by decide),.inl ⟨rfl,by simp only [Th];exact ⟨0,trivial,by omega⟩⟩,rf 0 (.lst []) rfl rfl fun q=>?_,.inl ⟨rfl,by simp only [Th];exact ⟨42,Ths.one (ti 0 (by omega)),by omega⟩⟩,?_,?_,st _ (by decide +kernel) (by decide +kernel),st _ (by decide +kernel) (by decide +kernel),st _ (by decide +kernel) (by decide +kernel),by simp⟩
   ·simp only [Th];exact ⟨q.length,rfl,.inl ⟨[],0,z0Q,trivial,by omega⟩⟩
   ·rw [show (r++[O.lst []]).length=r.length+1 by simp]
    exact rf 1 (.lst [.int 0]) rfl rfl fun q=>by simp only [Th];exact ⟨q.length,rfl,.inl ⟨[.int 0],42,z0Q,Ths.one (n:=40) (by simp only [Th];omega),by omega⟩⟩
   ·rw [show (r++[O.lst []]++[O.lst [D.int 0]]).length=r.length+2 by simp]
    exact rf 2 (.dK []) rfl rfl fun q=>by simp only [Th];exact ⟨q.length,rfl,.inr ⟨.inl z0Q,by omega⟩⟩
  have m2:∀ v∈l2,OdT B r.length (r++[O.lst [],O.lst [D.int 0],O.dK [],O.lst l1,O.dK [(.inr "a",.int 1)],O.lst l2,O.lst (l1++l2)]) v:=by
   rw [show l2=_ from hl2.symm]
   simp only [List.forall_mem_cons]
   rw [hl2]
   refine ⟨.inl ⟨rfl,by simp only [Th];exact ⟨42,Ths.one (n:=40) (by simp only [Th];exact ⟨by decide +kernel,by decide +kernel⟩),by omega⟩⟩,si _ (by decide),si _ (by decide),st _ (by decide +kernel) (by decide +kernel),.inl ⟨rfl,by simp only [Th];exact ⟨84,⟨40,42,ti 0 (by omega),Ths.one (ti 0 (by omega)),by omega⟩,by omega⟩⟩,?_,st _ (by decide +kernel) (by decide +kernel),by simp⟩
   rw [show (r++[O.lst []]++[O.lst [D.int 0]]++[O.dK []]++[O.lst l1]).length=r.length+4 by simp]
   exact rf 4 (.dK [(.inr "a",.int 1)]) rfl rfl fun q=>by simp only [Th];exact ⟨q.length,rfl,.inr ⟨.inr ⟨z0Q,by omega⟩,by omega⟩⟩
  rcases List.mem_append.mp mv with q | q
  ·exact m1 v q
  ·exact m2 v q
 obtain ⟨v,h1,e,j,od,p1⟩:=key
 have nk:∀ r:AH,Kp [] r:=fun r n o e=>by cases e
 rcases od with ⟨c,t⟩ | ⟨i,o,rfl,hi,ei,c,t⟩
 ·exact z9A p trivial ⟨v,h1,e,k+1,j,p1,c,fun h2 p2=>⟨[],by rw [List.append_nil];exact Th.mono (nk r) (Nat.le_refl _) (Nat.le_refl _) (Nat.le_refl _) t,by rw [List.append_nil];exact p2⟩⟩
 ·exact zA4 p ⟨_,h1,e,k+1,j,i,o,rfl,p1,hi,ei,c,fun h2 p2=>⟨[o],t r,p2⟩⟩
theorem Ths.split {P:Nat->D->Prop}:∀ {n:Nat}{xs ys:List D},Ths P n (xs++ys)->∃ a b,a+b≤n/\Ths P a xs/\Ths P b ys
 | n,[],ys,t=>⟨0,n,by omega,trivial,t⟩
 | n,x :: xs,ys,⟨a,b,h1,h2,h3⟩=>by
  obtain ⟨c,d,e,t1,t2⟩:=Ths.split h2
  exact ⟨a+c+2,d,by omega,⟨a,c,h1,t1,by omega⟩,t2⟩
theorem z6E {h:AH}{k:Int}{r:AH}{d:D}{B m n:Nat}{T:String}{Q:D->AH->Prop}(v:Th r B m n d) (p:PS h k r) (q:Q (.bl (isOf T d)) h) (h1:subT "list" T=false:=by decide) (h2:subT "dict" T=false:=by decide):W (fIsi T d) h Q:=W.of (z5T v h1 h2 p (Kp.refl _)) q
theorem Th.items {r:AH}{B m n:Nat}{xs:List D}(v:Th r B m n (.tup xs)):∃ m' a,m=m'+1/\Ths (Th r B m') a xs/\a+4≤n:=by
 cases m with
 | zero=>simp only [Th] at v
 | succ m=>simp only [Th] at v;obtain ⟨a,h1,h2⟩:=v;exact ⟨m,a,rfl,h1,h2⟩
theorem Th.tuple {r:AH}{B m a n:Nat}{xs:List D}(v:Ths (Th r B m) a xs) (h:a+4≤n):Th r B (m+1) n (.tup xs):=by simp only [Th];exact ⟨a,v,h⟩
theorem Th.num {r:AH}{B m n:Nat}{i:Int}(h:i.natAbs≤B) (hm:1≤m) (hn:40≤n):Th r B m n (.int i):=by
 cases m with
 | zero=>omega
 | succ m=>simp only [Th];exact ⟨h,hn⟩
theorem Th.numI {r:AH}{B m n:Nat}{i:Int}(v:Th r B m n (.int i)):i.natAbs≤B/\1≤m/\40≤n:=by
 cases m with
 | zero=>simp only [Th] at v
 | succ m=>simp only [Th] at v;omega
theorem z93:∀ (f deep:Nat) {h:AH}{k:Int}{r:AH}{d:D}{B m n:Nat},PS h k r->k+10 * f<800000->Th r B m n d->10 ^ 21+3≤B->n≤100000->deep<f ->
 W (z07 f [.ref 2,d,.int deep]) h (fun d' h'=>∃ j,Th (r++j) (B+2) (max m (deep+3)) (2 * n+110) d'/\PS h' (k+10 * f) (r++j))
 | 0,deep,h,k,r,d,B,m,n,p,hk,v,hB,hn,hd=>by omega
 | f+1,deep,h,k,r,d,B,m,n,p,hk,v,hB,hn,hd=>by
  refine z1J ?_
  show W (z1r (z07 f) [some (.ref 2),some d,some (.int deep),none,none,none]) h _
  unfold z1r
  have rest:∀ (h1:AH) (k1:Int),PS h1 k1 r->k1≤k+1->W ((Z1 (sAsg (eFn 2 Z3 (z8 (eVar 0) (z8 (fun _=>pure (.int 3)) aNil))) (gN 4)) (Z1 (sIf (cAnd (cVal (eIsi "tuple" (eVar 1))) (fun γ=>do let d ← e2 fGt (eVar 4) (fun _=>pure (.int 0)) γ;asB d)) (Z1 (sAsg (eFn 2 Z3 (z8 (eVar 0) (z8 (fun _=>pure (.int 6)) aNil))) (gN 5)) (Z1 (sIf (fun γ=>do let d ← e2 (fEq false) (eVar 5) (fun _=>pure (.int 0)) γ;asB d) (Z1 (sRet (Z9 z5F (z8 (eVar 1) aNil))) bNil) bNil) (Z1 (sIf (fun γ=>do let d ← e2 (fEq false) (eVar 5) (fun _=>pure (.int 1)) γ;asB d) (Z1 (sRet (e2 fAdd (eVar 1) (eTup (z8 (eFn 1 z0n (z8 (eVar 0) aNil)) aNil)))) bNil) bNil) (Z1 (sRet (e2 fIx (eLst (z8 (z1e (eVar 1) z2l (z2h (eNeg (fun _=>pure (.int 1))))) (z8 (eRev (eVar 1) (eNeg (fun _=>pure (.int 1)))) (z8 (e2 fAdd (eVar 1) (z1e (eVar 1) (z2h (eNeg (fun _=>pure (.int 1)))) z2l)) (z8 (z1e (eVar 1) (z2h (fun _=>pure (.int 1))) z2l) aNil))))) (e2 fSub (eVar 5) (fun _=>pure (.int 2))))) bNil)))) bNil) (Z1 (sIf (cAnd (cVal (eIsi "int" (eVar 1))) (cAnd (cNot (cVal (eIsi "bool" (eVar 1)))) (fun γ=>do let d ← e2 fGt (eVar 4) (fun _=>pure (.int 0)) γ;asB d))) (Z1 (sRet (e2 fAdd (eVar 1) (e2 fIx (eLst (z8 (fun _=>pure (.int 1)) (z8 (eNeg (fun _=>pure (.int 1))) (z8 (fun _=>pure (.int 2)) (z8 (e2 fSub (fun _=>pure (.int 0)) (eVar 1)) aNil))))) (eFn 2 Z3 (z8 (eVar 0) (z8 (fun _=>pure (.int 4)) aNil)))))) bNil) bNil) (Z1 (sRet (eFn 1 z0n (z8 (eVar 0) aNil))) bNil)))) [some (.ref 2),some d,some (.int deep),none,none,none]) h1 (runW fun d' h'=>∃ j,Th (r++j) (B+2) (max m (deep+3)) (2 * n+110) d'/\PS h' (k+10 * ((f+1:Nat):Int)) (r++j)):=by
   intro h1 k1 p1 hk1
   rw [w_cons];simp only [List.getElem?_cons_zero,List.length_cons,List.length_nil,List.set_cons_succ,List.set_cons_zero,Nat.reduceAdd,v9,Z6,J9,W_pure,z8,aNil,y4,e2,eFn,eVar,gN,if_true,sAsg]
   refine z02 p1 (by omega) (by decide) (by decide) fun way h2 w0 w1 p2=>?_
   rw [w_cons];simp only [Bool.false_eq_true,List.getElem?_cons_succ,List.getElem?_cons_zero,Z6,J9,W_pure,J1,cAnd,cVal,y4,eIsi,eVar,z42,if_false,sIf,z1C]
   have odd:∀ (h3:AH) (k3:Int),PS h3 k3 r->k3≤k+5->W (z0n [.ref 2]) h3 (fun d' h'=>∃ j,Th (r++j) (B+2) (max m (deep+3)) (2 * n+110) d'/\PS h' (k+10 * ((f+1:Nat):Int)) (r++j)):=fun h3 k3 p3 hk3 =>
    (zt0 (B:=B) p3 (by omega) hB).mono fun d' h' ⟨j,v',p'⟩=>⟨j,Th.mono (Kp.refl _) (by omega) (by omega) (by omega) v',p'.up (by omega)⟩
   refine z6E v p2 ?_
   rw [z2X]
   cases ht:tupB d with
   | false =>
    simp only [Bool.false_eq_true,W_pure,if_false,z0h]
    rw [w_cons];simp only [Bool.false_eq_true,List.getElem?_cons_succ,List.getElem?_cons_zero,Z6,J9,W_pure,J1,cAnd,cNot,cVal,y4,eIsi,eVar,z42,if_false,sIf,z1C]
    refine z6E v p2 ?_
    have ni:=z3U d
    cases hi:isOf "int" d with
    | false =>
     simp only [Bool.false_eq_true,W_pure,if_false,z0h]
     rw [w_cons];simp only [List.getElem?_cons_zero,List.length_cons,List.length_nil,Nat.reduceAdd,v9,Z6,J9,W_pure,z8,aNil,Y6,eFn,eVar,if_true,sRet]
     exact odd _ _ p2 (by omega)
    | true =>
     simp only [W_pure,if_true,z0h]
     refine z6E v p2 ?_
     cases hb:isOf "bool" d with
     | true =>
      simp only [Bool.false_eq_true,Bool.not_true,W_pure,if_false,z0h]
      rw [w_cons];simp only [List.getElem?_cons_zero,List.length_cons,List.length_nil,Nat.reduceAdd,v9,Z6,J9,W_pure,z8,aNil,Y6,eFn,eVar,if_true,sRet]
      exact odd _ _ p2 (by omega)
     | false =>
      simp only [Bool.not_false,W_pure,if_true,z0h]
      rw [hi,hb] at ni
      cases d<;>first | (cases ni;done) | skip
      rename_i i
      obtain ⟨v1,v2,v3⟩:=v.numI
      split
      ·rw [w_cons];simp only [List.getElem?_cons_succ,List.getElem?_cons_zero,List.length_cons,List.length_nil,Nat.reduceAdd,v9,Z6,J9,W_pure,z8,aNil,Y6,e2,eFn,eLst,eNeg,eVar,if_true,sRet,z4s]
       refine z0A p2 (by simp) fun h3 p3=>?_
       refine z02 p3 (by omega) (by decide) (by decide) fun t h4 t0 t1 p4=>?_
       obtain ⟨x,hx,ex⟩:=z7R (xs:=[D.int 1,D.int (-1),D.int 2,D.int (0 - i)]) t0 (by simpa using t1)
       refine z8S p4 z0Q ex ?_
       obtain ⟨y,rfl,hy⟩:∃ y,x=.int y/\(i+y).natAbs≤B+2:=by
        simp only [List.mem_cons,List.not_mem_nil,or_false] at hx
        rcases hx with rfl | rfl | rfl | rfl<;>exact ⟨_,rfl,by omega⟩
       rw [z1B,W_pure]
       exact ⟨_,Th.num hy (by omega) (by omega),p4.up (by omega)⟩
      ·rw [w_cons];simp only [List.getElem?_cons_zero,List.length_cons,List.length_nil,Nat.reduceAdd,v9,Z6,J9,W_pure,z8,aNil,Y6,eFn,eVar,if_true,sRet]
       exact odd _ _ p2 (by omega)
   | true =>
    obtain ⟨xs,rfl⟩:∃ xs,d=.tup xs:=by
     cases d<;>first | (cases ht;done) | skip
     exact ⟨_,rfl⟩
    have sl:∀ lo hi,fSl (.tup xs) lo hi=pure (.tup (cutD xs lo hi)):=fun _ _=>rfl
    have rv:fRev (.tup xs)=pure (.tup xs.reverse):=rfl
    obtain ⟨m',a,rfl,va,ha⟩:=v.items
    have ls:=va.len
    have up:∀ {j:AH} {ys:List D} {b:Nat},Ths (Th r B m') b ys->b+4≤2 * n+110->Th (r++j) (B+2) (max (m'+1) (deep+3)) (2 * n+110) (.tup ys):=fun {j ys b} t hb =>
     Th.mono (B:=B) (m:=m'+1) (Kp.app _ _) (by omega) (by omega) (Nat.le_refl _) (Th.tuple t hb)
    have s9:subT "tuple" "int" = false:=by decide
    simp only [W_pure,if_true,z0h]
    split
    ·rw [w_cons];simp only [List.getElem?_cons_zero,List.length_cons,List.length_nil,List.set_cons_succ,List.set_cons_zero,Nat.reduceAdd,v9,Z6,J9,W_pure,z8,aNil,y4,eFn,eVar,gN,if_true,sAsg]
     refine z02 p2 (by omega) (by decide) (by decide) fun t h3 t0 t1 p3=>?_
     rw [w_cons];simp only [List.getElem?_cons_succ,List.getElem?_cons_zero,Z6,J9,W_pure,J1,y4,z51,sIf,z1C]
     by_cases c0:t=0
     ·rw [decide_eq_true c0]
      simp only [Bool.not_false,Bool.true_bne,if_true]
      rw [w_cons];simp only [List.getElem?_cons_succ,List.getElem?_cons_zero,Z6,W_pure,z8,aNil,Y6,Z9,eVar,zs6,sRet]
      refine z0A p3 (by omega) fun h4 p4=>?_
      have z:Th (r++[.lst xs]) B (m'+1) n (.ref (r.length+3)):=by
       simp only [Th]
       exact ⟨r.length,rfl,.inl ⟨xs,a,z0Q,va.imp fun b d t=>Th.mono (Kp.app _ _) (Nat.le_refl _) (Nat.le_refl _) (Nat.le_refl _) t,ha⟩⟩
      exact ⟨[.lst xs],Th.mono (Kp.refl _) (by omega) (by omega) (by omega) z,p4.up (by omega)⟩
     ·rw [decide_eq_false c0]
      simp only [Bool.false_bne,Bool.false_eq_true,if_false]
      rw [w_cons];simp only [List.getElem?_cons_succ,List.getElem?_cons_zero,Z6,J9,W_pure,J1,y4,z51,sIf,z1C]
      by_cases c1:t=1
      ·rw [decide_eq_true c1]
       simp only [Bool.not_false,Bool.true_bne,if_true]
       rw [w_cons];simp only [List.getElem?_cons_succ,List.getElem?_cons_zero,List.length_cons,List.length_nil,Nat.reduceAdd,v9,Z6,J9,W_pure,z8,aNil,Y6,e2,eFn,eTup,eVar,if_true,sRet]
       refine (zt0 (B:=B) p3 (by omega) hB).mono fun y h4 ⟨j,v4,p4⟩=>?_
       rw [if_pos (by decide),z3K (by simp;omega),W_pure]
       refine ⟨j,?_,p4.up (by omega)⟩
       have t1:Ths (Th (r++j) (B+2) (max m' 2)) a xs:=va.imp fun b d t=>Th.mono (Kp.app _ _) (by omega) (by omega) (Nat.le_refl _) t
       have t2:Ths (Th (r++j) (B+2) (max m' 2)) 102 [y]:=Ths.one (Th.mono (Kp.refl _) (by omega) (by omega) (Nat.le_refl _) v4)
       exact Th.mono (Kp.refl _) (Nat.le_refl _) (by omega) (Nat.le_refl _) (Th.tuple (t1.app t2) (by omega))
      ·rw [decide_eq_false c1]
       simp only [Bool.false_bne,Bool.false_eq_true,if_false]
       have cl:=zn2 xs (some (-1)) none
       rw [w_cons];simp only [List.getElem?_cons_succ,List.getElem?_cons_zero,Z6,W_pure,z8,aNil,z3K (x:=xs) (y:=cutD xs (some (-1)) none) (by omega),Y6,e2,eLst,eNeg,eRev,z1e,eVar,if_true,z2l,z2h,rv,sRet,sl,z4s]
       refine z0A p3 (by simp) fun h4 p4=>?_
       obtain ⟨x,hx,ex⟩:=z7R (xs:=[D.tup (cutD xs none (some (-1))),D.tup xs.reverse,D.tup (xs++cutD xs (some (-1)) none),D.tup (cutD xs (some 1) none)]) (i:=t - 2) (by omega) (by simp;omega)
       refine z8S p4 z0Q ex ?_
       refine ⟨_,?_,p4.up (by omega)⟩
       simp only [List.mem_cons,List.not_mem_nil,or_false] at hx
       rcases hx with rfl | rfl | rfl | rfl
       ·exact up (va.sub (z5B _ _ _)) (by omega)
       ·exact up va.rev (by omega)
       ·exact up (va.app (va.sub (z5B _ _ _))) (by omega)
       ·exact up (va.sub (z5B _ _ _)) (by omega)
    ·rw [w_cons];simp only [Bool.false_eq_true,List.getElem?_cons_succ,List.getElem?_cons_zero,Z6,J9,W_pure,J1,cAnd,cNot,cVal,y4,eIsi,eVar,z42,if_false,z5p,s9,sIf,z0h,z1C]
     rw [w_cons];simp only [List.getElem?_cons_zero,List.length_cons,List.length_nil,Nat.reduceAdd,v9,Z6,J9,W_pure,z8,aNil,Y6,eFn,eVar,if_true,sRet]
     exact odd _ _ p2 (by omega)
  rw [w_cons];simp only [Bool.false_eq_true,List.getElem?_cons_succ,List.getElem?_cons_zero,List.length_cons,List.length_nil,Nat.reduceAdd,v9,Z6,J9,W_pure,z8,aNil,J1,cAnd,cVal,y4,e2,Z9,eFn,eIsi,eVar,z42,if_false,if_true,sIf,z1C]
  refine z6E v p ?_
  rw [z2X]
  cases ht:tupB d with
  | false =>
   simp only [Bool.false_eq_true,W_pure,if_false,z0h]
   exact rest h k p (by omega)
  | true =>
   obtain ⟨xs,rfl⟩:∃ xs,d=.tup xs:=by
    cases d<;>first | (cases ht;done) | skip
    exact ⟨_,rfl⟩
   obtain ⟨m',a,rfl,va,ha⟩:=v.items
   have ls:=va.len
   simp only [W_pure,J1,z42,if_true,z0C,z0h]
   split
   ·rename_i c0
    have l0:0<xs.length:=by have:=of_decide_eq_true c0;omega
    split
    ·rename_i c1
     have d0:0<deep:=by have:=of_decide_eq_true c1;omega
     refine z02 p (by omega) (by decide) (by decide) fun t h1 t0 t1 p1=>?_
     simp only [W_pure,J1,z42]
     split
     ·rw [w_cons];simp only [List.getElem?_cons_succ,List.getElem?_cons_zero,List.length_cons,List.length_nil,List.set_cons_succ,List.set_cons_zero,Nat.reduceAdd,v9,Z6,J9,W_pure,z8,aNil,y4,Z9,eFn,eVar,gN,if_true,z0C,sAsg]
      refine z02 p1 (by omega) (by omega) (by omega) fun c h2 a0 a1 p2=>?_
      obtain ⟨c,rfl⟩:=Int.eq_ofNat_of_zero_le a0
      have hc:c<xs.length:=by omega
      have ex:atI xs (c:Int)=some xs[c]:=z27 (List.getElem?_eq_getElem hc)
      have sl:∀ lo hi,fSl (.tup xs) lo hi=pure (.tup (cutD xs lo hi)):=fun _ _=>rfl
      have cut:xs.take c++(xs[c] :: xs.drop (c+1))=xs:=by rw [List.getElem_cons_drop,List.take_append_drop]
      rw [← cut] at va
      obtain ⟨b1,b2,hb,t1,x1,b3,tx,t3,hb3⟩:=va.split
      rw [w_cons];simp only [List.getElem?_cons_succ,List.getElem?_cons_zero,List.length_cons,List.length_nil,Nat.reduceAdd,v9,Z6,J9,W_pure,z8,aNil,z1B,Y6,e2,eFn,z1e,eTup,eVar,if_true,ix_tup ex,z2l,z2h,sRet,sl,z4s]
      rw [show (deep:Int) - 1=((deep - 1:Nat):Int) by omega]
      refine (z93 f (deep - 1) p2 (by omega) tx hB (by omega) (by omega)).mono fun y h3 ⟨j,v3,p3⟩=>?_
      have e1:cutD xs none (some (c:Int))=xs.take c:=zc8 _ _
      have e2':cutD xs (some ((c:Int)+1)) none=xs.drop (c+1):=by rw [show (c:Int)+1=((c+1:Nat):Int) by omega];exact zd8 _ _
      rw [if_pos (by decide),e1,e2',z3K (by simp;omega),W_pure,z3K (by simp;omega),W_pure]
      refine ⟨j,?_,p3.up (by omega)⟩
      have mm:∀ {ys:List D} {b:Nat},Ths (Th r B m') b ys->Ths (Th (r++j) (B+2) (max m' (deep+2))) b ys:=fun {ys b} t=>t.imp fun b d t=>Th.mono (Kp.app _ _) (by omega) (by omega) (Nat.le_refl _) t
      have ty:Ths (Th (r++j) (B+2) (max m' (deep+2))) (2 * x1+110+2) [y]:=Ths.one (Th.mono (Kp.refl _) (Nat.le_refl _) (by omega) (Nat.le_refl _) v3)
      exact Th.mono (Kp.refl _) (Nat.le_refl _) (by omega) (Nat.le_refl _) (Th.tuple (((mm t1).app ty).app (mm t3)) (n:=2 * n+110) (by omega))
     ·exact rest _ _ p1 (by omega)
    ·exact rest _ _ p (by omega)
   ·exact rest _ _ p (by omega)
def TA (h:AH) (d:D):Prop:=∀ (j:AH) (T:String),(T = "int"∨T = "bool"∨T = "tuple")->fIsi T d (h++j)=.ok (.bl (isOf T d)) (h++j)
def TB:Nat->AH->D->Prop
 | 0,h,d=>TA h d
 | n+1,h,d=>TA h d/\∀ xs,d=.tup xs->∀ x∈xs,TB n h x
theorem TB.ta {h:AH}{d:D}:∀ {n:Nat},TB n h d->TA h d
 | 0,t=>t
 | n+1,t=>t.1
theorem zB9 {r:AH}{B m n:Nat}{d:D}{h:AH}{k:Int}(v:Th r B m n d) (p:PS h k r):TA h d:=fun j T hT=>by
 have p':=p.app j
 rcases hT with rfl | rfl | rfl
 ·exact z5T v (by decide) (by decide) p' (Kp.app _ _)
 ·exact z5T v (by decide) (by decide) p' (Kp.app _ _)
 ·exact z5T v (by decide) (by decide) p' (Kp.app _ _)
theorem zs1 {r:AH}{B:Nat}{h:AH}{k:Int}(p:PS h k r):∀ (c:Nat) {m n:Nat}{d:D},Th r B m n d->TB c h d
 | 0,m,n,d,v=>zB9 v p
 | c+1,m,n,d,v=>⟨zB9 v p,fun xs e x hx=>by
  subst e
  obtain ⟨m',a,rfl,va,ha⟩:=v.items
  obtain ⟨b,hb,tx⟩:=va.mem hx
  exact zs1 p c tx⟩
theorem z3G {m:M D}{h:AH}{d:D}(e:m h=.ok d h) (c:J7 0 d=true):cln m h=.ok d h:=by
 exact z1d (j:=[]) (by rw [e,List.append_nil]) (z2g (Nat.zero_le h.length) c)
theorem zp2 {h:AH}{d:D}(t:TA h d) (j:AH):z14 [d] (h++j)=.ok (.bl (numB d)) (h++j):=by
 refine z3G (z3t ?_) rfl
 show W (z1v [some d]) (h++j) _
 unfold z1v
 rw [← z3U]
 rw [w_cons];simp only [List.getElem?_cons_zero,Z6,J9,W_pure,Y6,eAnd,eIsi,eNot,eVar,sRet]
 refine W.of (t j "int" (.inl rfl)) ?_
 cases e1:isOf "int" d with
 | false=>simp only [Bool.false_eq_true,W_pure,J1,if_false];exact ⟨rfl,rfl⟩
 | true =>
  simp only [W_pure,J1,if_true]
  refine W.of (t j "bool" (.inr (.inl rfl))) ?_
  cases e2:isOf "bool" d<;>(simp only [Bool.not_false,Bool.not_true,W_pure,J1];exact ⟨rfl,rfl⟩)
def natB (n:Int):D->Bool
 | .int i=>decide (0≤i) && decide (i<n)
 | _=>false
theorem e3_h {f g:D->D->M D}{ma mb mc:G->M D}{γ:G}{h:AH}{x y z:D}{b c:Bool}(e1:ma γ h=.ok x h) (e2':mb γ h=.ok y h) (e3':mc γ h=.ok z h) (f1:f x y h=.ok (.bl b) h) (f2:g y z h=.ok (.bl c) h):e3 f g ma mb mc γ h=.ok (.bl (b && c)) h:=by
 unfold e3
 rw [M.bind_ok e1,M.bind_ok e2',M.bind_ok f1]
 cases b with
 | false=>rfl
 | true =>
  rw [J1]
  show (mc γ >>= fun z=>g y z) h=_
  rw [M.bind_ok e3',f2,Bool.true_and]
theorem z1A {ma mb:G->M D}{γ:G}{h:AH}{b c:Bool}(e1:ma γ h=.ok (.bl b) h) (e2':b=true->mb γ h=.ok (.bl c) h):eAnd ma mb γ h=.ok (.bl (b && c)) h:=by
 unfold eAnd
 rw [M.bind_ok e1,J1]
 cases b with
 | false=>rfl
 | true=>exact e2' rfl
theorem zE6 {ma:G->M D}{γ:G}{h:AH}{b:Bool}(e1:ma γ h=.ok (.bl b) h):eNot ma γ h=.ok (.bl (!b)) h:=by
 unfold eNot
 rw [M.bind_ok e1,J1]
 rfl
theorem z4Z {ma:G->M D}{γ:G}{h:AH}{d:D}{T:String}{b:Bool}(e1:ma γ h=.ok d h) (e2':fIsi T d h=.ok (.bl b) h):eIsi T ma γ h=.ok (.bl b) h:=by
 unfold eIsi
 rw [M.bind_ok e1,e2']
theorem le_h {a b:Int}{h:AH}:fLe (.int a) (.int b) h=.ok (.bl (decide (a≤b))) h:=by rw [zj3];rfl
theorem lt_h {a b:Int}{h:AH}:fLt (.int a) (.int b) h=.ok (.bl (decide (a<b))) h:=by rw [z9t];rfl
theorem z7H {ka kb:G->M Bool}{γ:G}{h:AH}{a b:Bool}(e1:ka γ h=.ok a h) (e2':kb γ h=.ok b h):cOr ka kb γ h=.ok (a || b) h:=by
 unfold cOr
 rw [M.bind_ok e1]
 cases a with
 | false=>rw [Bool.false_or];exact e2'
 | true=>rfl
theorem z9f {d:D}(h:numB d=true):∃ i,d=.int i:=by cases d<;>first | (cases h;done) | exact ⟨_,rfl⟩
theorem z5f {n:Int}{d:D}(h:numB d=false):natB n d=false:=by cases d<;>first | rfl | cases h
theorem zw7 {h:AH}{d:D}{n:Nat}(t:TA h d) (j:AH):z0l [d,.int 0,.int n] (h++j)=.ok (.bl (natB (n+1:Nat) d)) (h++j):=by
 refine z3G (z3t ?_) rfl
 show W (z0m [some d,some (.int 0),some (.int n)]) (h++j) _
 unfold z0m
 have e1:eFn 1 z14 (z8 (eVar 0) aNil) [some d,some (.int 0),some (.int n)] (h++j)=.ok (.bl (numB d)) (h++j):=fn_h (ds:=[d]) (ac_h (Z8 rfl) rfl) rfl (zp2 t j)
 cases hn:numB d with
 | false =>
  rw [hn] at e1
  refine Y4 (.bl false) (z1A (c:=false) e1 fun q=>nomatch q) ⟨by rw [z5f hn],rfl⟩
 | true =>
  rw [hn] at e1
  obtain ⟨i,rfl⟩:=z9f hn
  refine Y4 _ (z1A e1 fun _=>e3_h (Z8 rfl) (Z8 rfl) (Z8 rfl) le_h le_h) ⟨?_,rfl⟩
  show D.bl (true && (decide (0≤i) && decide (i≤n)))=D.bl (decide (0≤i) && decide (i<(n+1:Nat)))
  rw [Bool.true_and]
  congr 2
  rw [decide_eq_decide];omega
theorem zt7 {h:AH}{d:D}{n:Nat}(t:TA h d):v8 [d,.int 0,.int n] h=.ok (.bl (natB n d)) h:=by
 have t0:∀ T,(T = "int"∨T = "bool"∨T = "tuple")->fIsi T d h=.ok (.bl (isOf T d)) h:=fun T hT=>by have:=t [] T hT;rwa [List.append_nil] at this
 refine z3G (z3t ?_) rfl
 show W (v5 [some d,some (.int 0),some (.int n)]) h _
 unfold v5
 have ni:=z3U d
 cases hi:isOf "int" d with
 | false =>
  rw [hi] at ni
  exact Y4 (.bl false) (z1A (b:=false) (c:=false) (by rw [← hi];exact z4Z (Z8 rfl) (t0 "int" (.inl rfl))) fun q=>nomatch q) ⟨by rw [z5f (by rw [← ni];rfl)],rfl⟩
 | true =>
  have e1:eIsi "int" (eVar 0) [some d,some (.int 0),some (.int n)] h=.ok (.bl true) h:=by rw [← hi];exact z4Z (Z8 rfl) (t0 "int" (.inl rfl))
  have e2':eNot (eIsi "bool" (eVar 0)) [some d,some (.int 0),some (.int n)] h=.ok (.bl (numB d)) h:=by
   rw [← ni,hi,Bool.true_and]
   exact zE6 (z4Z (Z8 rfl) (t0 "bool" (.inr (.inl rfl))))
  cases hn:numB d with
  | false =>
   rw [hn] at e2'
   exact Y4 (.bl false) (z1A e1 fun _=>z1A (c:=false) e2' fun q=>nomatch q) ⟨by rw [z5f hn],rfl⟩
  | true =>
   rw [hn] at e2'
   obtain ⟨i,rfl⟩:=z9f hn
   refine Y4 _ (z1A e1 fun _=>z1A e2' fun _=>e3_h (Z8 rfl) (Z8 rfl) (Z8 rfl) le_h lt_h) ⟨?_,rfl⟩
   simp only [Bool.true_and]
   rfl
theorem zo2 {h:AH}{d:D}(t:TA h d):z1q [d] h=.ok (.bl (tupB d)) h:=by
 have t0:∀ T,(T = "int"∨T = "bool"∨T = "tuple")->fIsi T d h=.ok (.bl (isOf T d)) h:=fun T hT=>by have:=t [] T hT;rwa [List.append_nil] at this
 refine z3G (z3t ?_) rfl
 show W (z1X [some d]) h _
 unfold z1X
 exact Y4 _ (z4Z (Z8 rfl) (t0 "tuple" (.inr (.inr rfl)))) ⟨by rw [z2X],rfl⟩
def lenB (a b:Int):D->Bool
 | .tup xs=>decide (a≤xs.length) && decide ((xs.length:Int)≤b)
 | _=>false
theorem zd0 {d:D}(h:tupB d=true):∃ xs,d=.tup xs:=by cases d<;>first | (cases h;done) | exact ⟨_,rfl⟩
theorem ze8 {a b:Int}{d:D}(h:tupB d=false):lenB a b d=false:=by cases d<;>first | rfl | cases h
theorem zd4 {xs:List D}{h:AH}:fLen [.tup xs] h=.ok (.int xs.length) h:=by rw [z0C];rfl
theorem zp0 {h:AH}{d:D}{a b:Int}(t:TA h d):z0T [d,.int a,.int b] h=.ok (.bl (lenB a b d)) h:=by
 refine z3G (z3t ?_) rfl
 show W (z0R [some d,some (.int a),some (.int b)]) h _
 unfold z0R
 have e1:eFn 1 z1q (z8 (eVar 0) aNil) [some d,some (.int a),some (.int b)] h=.ok (.bl (tupB d)) h:=fn_h (ds:=[d]) (ac_h (Z8 rfl) rfl) rfl (zo2 t)
 cases ht:tupB d with
 | false =>
  rw [ht] at e1
  exact Y4 (.bl false) (z1A (c:=false) e1 fun q=>nomatch q) ⟨by rw [ze8 ht],rfl⟩
 | true =>
  rw [ht] at e1
  obtain ⟨xs,rfl⟩:=zd0 ht
  refine Y4 _ (z1A e1 fun _=>e3_h (Z8 rfl) (J4 (Z8 rfl) zd4) (Z8 rfl) le_h le_h) ⟨?_,rfl⟩
  rw [Bool.true_and]
  rfl
theorem zz3 {h:AH}{d:D}{a b:Int}(t:TA h d):y3 [d,.int a,.int b] h=.ok (.bl (lenB a b d)) h:=by
 have t0:∀ T,(T = "int"∨T = "bool"∨T = "tuple")->fIsi T d h=.ok (.bl (isOf T d)) h:=fun T hT=>by have:=t [] T hT;rwa [List.append_nil] at this
 refine z3G (z3t ?_) rfl
 show W (z0c [some d,some (.int a),some (.int b)]) h _
 unfold z0c
 have e1:eIsi "tuple" (eVar 0) [some d,some (.int a),some (.int b)] h=.ok (.bl (tupB d)) h:=by rw [← z2X];exact z4Z (Z8 rfl) (t0 "tuple" (.inr (.inr rfl)))
 cases ht:tupB d with
 | false =>
  rw [ht] at e1
  exact Y4 (.bl false) (z1A (c:=false) e1 fun q=>nomatch q) ⟨by rw [ze8 ht],rfl⟩
 | true =>
  rw [ht] at e1
  obtain ⟨xs,rfl⟩:=zd0 ht
  refine Y4 _ (z1A e1 fun _=>e3_h (Z8 rfl) (J4 (Z8 rfl) zd4) (Z8 rfl) le_h le_h) ⟨?_,rfl⟩
  rw [Bool.true_and]
  rfl
theorem zz6 {h:AH}(i:Int):TA h (.int i):=fun j T hT=>by rcases hT with rfl | rfl | rfl<;>rfl
theorem zD9 {h:AH}(xs:List D):TA h (.tup xs):=fun j T hT=>by rcases hT with rfl | rfl | rfl<;>rfl
theorem z6d {m:M D}{h:AH}{d:D}(c:J7 0 d=true) (z:W m h fun v h'=>v=d/\∃ j,h'=h++j):cln m h=.ok d h:=by
 obtain ⟨v,h',e,rfl,j,rfl⟩:=z
 exact z1d e (z2g (Nat.zero_le _) c)
theorem z49:∀ {a b:List Nat},stD a=stD b->a=b
 | [],[],_=>rfl
 | [],_ :: _,h=>by cases h
 | _ :: _,[],h=>by cases h
 | x :: a,y :: b,h=>by
  have h:D.int (x:Nat) :: stD a=D.int (y:Nat) :: stD b:=h
  injection h with h1 h2
  injection h1 with h1
  rw [z49 h2,show x=y by omega]
theorem zJ6 {st:List (List Nat)}{mk:List (List Str)}{row:List Nat}{x:Nat}(hx:x<st.length) (q:∀ o∈nx st x,o<row.length) (lx:(nx st x).length≤1000) (hl:(led st row x).length<64):z0X [maD st mk,.tup (stD row),.int x]=pure (.tup (stD (led st row x))):=funext fun h=>by
 show cln (runF 3 z2j [maD st mk,.tup (stD row),.int x]) h=_
 refine z1d (j:=[.lst (stD ((nx st x).map (rowAt row)))]) (z3t ?_) (by simp only [J7];exact z29 _)
 show W (z2j [some (maD st mk),some (.tup (stD row)),some (.int x)]) h _
 unfold z2j
 have e1:z0i [some 1,none] (z0D (e2 fIx (e2 fIx (eVar 0) (fun _=>pure (.int 0))) (eVar 2))) (gN 1) (fun _=>pure true) (e2 fIx (eVar 0) (eVar 1)) [some (maD st mk),some (.tup (stD row)),some (.int x)] h=.ok (.ref h.length) (h++[.lst (stD ((nx st x).map (rowAt row)))]):=by
  refine (z0N (src:=.con (stD (nx st x))) (l:=nx st x) (fun _=>true) (fun t=>.int (rowAt row t)) (z56 ?_) rfl (fun _=>trivial) (by omega) fun t ht=>⟨[some (.tup (stD row)),some (.int t)],fun h=>rfl,fun j=>rfl,fun _ j=>?_⟩).trans ?_
  ·have:e2 fIx (e2 fIx (eVar 0) (fun _=>pure (.int 0))) (eVar 2) [some (maD st mk),some (.tup (stD row)),some (.int x)]=pure (.tup (stD (nx st x))):=by simp only [List.getElem?_cons_succ,List.getElem?_cons_zero,Y9,e2,eVar,z1R,z6n hx]
   rw [this];rfl
  ·have:e2 fIx (eVar 0) (eVar 1) [some (.tup (stD row)),some (.int t)]=pure (.int (rowAt row t)):=by simp only [List.getElem?_cons_succ,List.getElem?_cons_zero,Y9,e2,eVar,ix_tup (z3Y (q t ht))];rfl
   rw [this];rfl
  ·rw [filter_tt]
   unfold stD
   rw [List.map_map]
   rfl
 exact Y4 _ (fn_h (ac_h e1 rfl) rfl (z9U (l:=(nx st x).map (rowAt row)) (by simp) (by simp;omega) hl)) ⟨rfl,rfl⟩
def z7h (st:List (List Nat)) (mk:List (List Str)) (row:List Nat) (x:Nat):D:=.tup [.tup ((mkAt mk x).map .str),.tup (stD (led st row x))]
theorem zu8 {row:List Nat}(c:Canon row) {i v:Nat}(h:row[i]?=some v):v≤i:=by
 have:=(List.nodup_range (n:=v)).length_le_of_subset (l₂:=row.take i) (fun u hu=>c i v h u (by simpa using hu))
 simp at this
 omega
structure MC (st:List (List Nat)) (mk:List (List Str)) (row:List Nat):Prop where
 q:SQ st
 rs:∀ l∈st,l.Pairwise (·<·)
 lm:mk.length=st.length
 len:row.length=st.length
 can:Canon row
section
variable {st:List (List Nat)}{mk:List (List Str)}{row:List Nat}
theorem MC.nxl (m:MC st mk row) {x:Nat}(hx:x<st.length):(nx st x).length≤40 :=
 Nat.le_trans (z3R (m.rs _ (List.mem_of_getElem? (ze3 hx))) fun y hy=>z7k m.q hy) m.q.l2
theorem MC.ledl (m:MC st mk row) {x:Nat}:(led st row x).length≤40:=by
 refine Nat.le_trans (z6L (n:=row.length) fun u hu=>?_) (by rw [m.len];exact m.q.l2)
 obtain ⟨o,ho,rfl⟩:=List.mem_map.mp hu
 have ol:o<row.length:=by rw [m.len];exact z7k m.q ho
 have:=zu8 m.can (z0j ol)
 omega
theorem MC.led (m:MC st mk row) {x:Nat}(hx:x<st.length):z0X [maD st mk,.tup (stD row),.int x]=pure (.tup (stD (led st row x))):=by
 have:=m.nxl hx
 have:=m.ledl (x:=x)
 exact zJ6 hx (fun o ho=>by rw [m.len];exact z7k m.q ho) (by omega) (by omega)
theorem z8W {f:Nat->D}{n c:Nat}(h:c<n):atI ((List.range n).map f) (c:Int)=some (f c):=z27 (by rw [List.getElem?_map,List.getElem?_range h];rfl)
theorem z4m {row:List Nat}{N v:Nat}(c:Canon row) (inv:∀ u,u∈row↔u<N) (h:v≤N):Canon (row++[v]):=fun i x e u hu=>by
 by_cases hi:i<row.length
 ·rw [List.getElem?_append_left hi] at e
  rw [List.take_append_of_le_length (by omega)]
  exact c i x e u hu
 ·rw [List.getElem?_append_right (by omega)] at e
  have i0:i - row.length=0:=by
   have:=(List.getElem?_eq_some_iff.mp e).1
   simpa using this
  rw [i0] at e
  simp at e
  subst e
  rw [show i=row.length by omega,List.take_left']
  ·exact (inv u).mpr (by omega)
  ·rfl
theorem z31 {row:List Nat}{N v:Nat}(inv:∀ u,u∈row↔u<N) (h:v≤N):∀ u,u∈row++[v]↔u<max N (v+1):=fun u=>by
 rw [List.mem_append,inv,List.mem_singleton]
 omega
theorem z95 {row:List Nat}{N v c:Nat}(cr:Canon row) (hc:row[c]?=some v) (inv:∀ u,u∈row.take c↔u<N):v≤N:=by
 by_cases z:N<v
 ·have:=(inv N).mp (cr c v hc N z);omega
 ·omega
theorem z8t {xs:List D}{row:List Nat}{c:Nat}{y:D}{v:Nat}(e:xs.take c=stD row) (hy:xs[c]?=some y) (hv:y=.int (v:Nat)):xs.take (c+1)=stD (row++[v]):=by
 rw [List.take_succ,hy,e,hv]
 unfold stD
 simp
theorem z7x {N:Nat}{y:D}(h:natB (N+1:Nat) y=true):∃ v:Nat,y=.int (v:Nat)/\v≤N:=by
 cases y<;>first | (cases h;done) | skip
 rename_i i
 simp only [natB,Bool.and_eq_true,decide_eq_true_eq] at h
 exact ⟨i.toNat,by congr 1;omega,by omega⟩
theorem z5V {xs:List D}{row:List Nat}{N c:Nat}{y:D}(e:xs.take c=stD row) (inv:∀ u,u∈row↔u<N) (hy:xs[c]?=some y) (h:natB (N+1:Nat) y=false):¬ ∃ row',xs=stD row'/\Canon row':=by
 rintro ⟨row',rfl,cr⟩
 obtain ⟨v,rfl,ev⟩:=z2I hy
 have tk:row'.take c=row:=z49 (by rw [← e];unfold stD;rw [List.map_take])
 have:=z95 cr ev (by rw [tk];exact inv)
 simp only [natB,Bool.and_eq_false_iff,decide_eq_false_iff_not] at h
 omega
open Classical in
noncomputable def stB (st:List (List Nat)) (mk:List (List Str)) (d:D):Bool:=decide (∃ row,d=.tup (stD row)/\Steady st mk row)
theorem z4H {d:D}(h:¬ ∃ row,d=.tup (stD row)/\Steady st mk row):stB st mk d=false:=by unfold stB;exact @decide_eq_false _ (Classical.propDecidable _) h
theorem z8d {d:D}(h:stB st mk d=true):∃ row,d=.tup (stD row)/\Steady st mk row:=by unfold stB at h;exact @of_decide_eq_true _ (Classical.propDecidable _) h
theorem z8H (h:Steady st mk row):stB st mk (.tup (stD row))=true:=by unfold stB;exact @decide_eq_true _ (Classical.propDecidable _) ⟨row,rfl,h⟩
def z9R (st:List (List Nat)) (mk:List (List Str)) (row:List Nat):D->Bool
 | .tup [.int c,.int v]=>decide (mkAt mk c.toNat=mkAt mk (row.idxOf v.toNat)) && decide (FT.led st row c.toNat=FT.led st row (row.idxOf v.toNat))
 | _=>false
theorem zb8 (m:MC st mk row):(z1D (stD row)).all (z9R st mk row)=stB st mk (.tup (stD row)):=by
 rw [Bool.eq_iff_iff]
 constructor
 ·intro h
  refine z8H ⟨m.len,m.can,fun i hi=>?_⟩
  rw [List.all_eq_true] at h
  have hm:D.tup [.int (i:Nat),.int (rowAt row i:Nat)]∈z1D (stD row):=by
   unfold z1D
   refine List.mem_map.mpr ⟨(i:Nat),by simp [stD];exact hi,?_⟩
   rw [show (stD row)[i]?=some (.int (rowAt row i:Nat)) by unfold stD;rw [List.getElem?_map,z0j hi];rfl]
   rfl
  have:=h _ hm
  simpa [z9R] using this
 ·intro h
  obtain ⟨row',e,s⟩:=z8d h
  injection e with e
  have:=z49 e
  subst this
  rw [List.all_eq_true]
  intro d hd
  obtain ⟨c,hc,ec⟩:=List.getElem_of_mem hd
  obtain ⟨y,hy,rfl⟩:=z4o (show (z1D (stD row))[c]?=some d by rw [← ec];exact List.getElem?_eq_getElem hc)
  obtain ⟨v,rfl,ev⟩:=z2I hy
  have lk:=s.like c (List.getElem?_eq_some_iff.mp ev).1
  rw [z2V ev] at lk
  show (decide _ && decide _)=true
  rw [Int.toNat_natCast,Int.toNat_natCast,decide_eq_true lk.1,decide_eq_true lk.2]
  rfl
theorem z6I {row:List Nat}{N v:Nat}(inv:∀ u,u∈row↔u<N):((List.range N).map fun u=>(row++[v]).idxOf u)=(List.range N).map fun u=>row.idxOf u:=by
 refine List.map_congr_left fun u hu=>?_
 rw [List.idxOf_append,if_pos ((inv u).mpr (List.mem_range.mp hu))]
theorem z6a {h:AH}{d:D}(t:TB 1 h d) (sq:SQ st) (rs:∀ l∈st,l.Pairwise (·<·)) (lm:mk.length=st.length):z1u [maD st mk,d] h=.ok (.bl (stB st mk d)) h:=by
 have l2:=sq.l2
 refine z6d rfl (z1J ?_)
 show W (z1w [some (maD st mk),some d,none,none,none,none,none]) h _
 unfold z1w
 refine z5r (.int st.length) [some (maD st mk),some d,some (.int st.length),none,none,none,none] (by simp only [List.getElem?_cons_zero,z8,aNil,Y9,e2,Z9,eVar,z1R,z0C,z1K]) rfl ?_
 refine z3e (!lenB st.length st.length d) (cn_h (cv_h (fn_h (ds:=[d,.int st.length,.int st.length]) (ac_h (Z8 rfl) (ac_h (Z8 rfl) (ac_h (Z8 rfl) rfl))) rfl (zp0 t.ta)))) ?_
 cases hl:lenB st.length st.length d with
 | false =>
  rw [if_pos (by rfl)]
  refine z4R (Y4 (.bl false) rfl ⟨?_,[],by simp⟩)
  rw [z4H]
  rintro ⟨row,rfl,s⟩
  have:=s.len
  simp [lenB,y8,this] at hl
 | true =>
  rw [if_neg (by decide)]
  obtain ⟨xs,rfl⟩:∃ xs,d=.tup xs:=by cases d<;>first | (cases hl;done) | exact ⟨_,rfl⟩
  have xl:xs.length=st.length:=by
   have h:=hl
   simp only [lenB,Bool.and_eq_true,decide_eq_true_eq] at h
   omega
  refine z1k (z9H (xs:=stD []) (by simp [stD]) (fun h=>rfl) ?_)
  refine z22 (fun γ h'=>∃ row N a b,xs=stD row/\Canon row/\(∀ u,u∈row↔u<N)/\γ=[some (maD st mk),some (.tup xs),some (.int st.length),some (.ref h.length),a,b,none]/\h'=h++[.lst (stD ((List.range N).map fun u=>row.idxOf u))]) ?_ ?_
  ·refine z3r (fun c γ h'=>∃ row N a b,xs.take c=stD row/\Canon row/\(∀ u,u∈row↔u<N)/\γ=[some (maD st mk),some (.tup xs),some (.int st.length),some (.ref h.length),a,b,none]/\h'=h++[.lst (stD ((List.range N).map fun u=>row.idxOf u))]) (fun d h'=>d=.bl false/\(∃ j,h'=h++j)/\¬ ∃ row',xs=stD row'/\Canon row') ?_
   refine W_eq (v:=.con (z1D xs)) (by unfold z79;simp only [List.getElem?_cons_succ,List.getElem?_cons_zero,List.set_cons_succ,List.set_cons_zero,z8,aNil,Y9,eVar]) ?_
   refine ⟨⟨[],0,none,none,rfl,fun i v e=>by simp at e,by simp,rfl,rfl⟩,fun _ _ _ _=>trivial,?_,?_,?_⟩
   ·rintro c d γ _ hd ⟨row,N,a,b,et,cr,inv,rfl,rfl⟩
    obtain ⟨y,hy,rfl⟩:=z4o hd
    have hc:c<xs.length:=(List.getElem?_eq_some_iff.mp hy).1
    have rl:row.length=c:=by
     have:=congrArg List.length et
     rw [y8,List.length_take] at this
     omega
    refine W_eq (v:=[some (maD st mk),some (.tup xs),some (.int st.length),some (.ref h.length),some (.int c),some y,none]) rfl ?_
    have ll:(stD ((List.range N).map fun u=>row.idxOf u)).length=N:=by rw [y8];simp
    have ty:TA h y:=t.2 xs rfl y (List.mem_of_getElem? hy)
    refine z3e (!natB (N+1:Nat) y) (cn_h (cv_h (fn_h (ds:=[y,.int 0,.int N]) (ac_h (Z8 rfl) (ac_h (d:=.int 0) rfl (ac_h (J4 (Z8 rfl) (by rw [zm0 z21,ll])) rfl))) rfl (zw7 ty _)))) ?_
    cases hn:natB (N+1:Nat) y with
    | false =>
     rw [if_pos (by rfl)]
     exact z4R (Y4 (.bl false) rfl ⟨rfl,⟨_,rfl⟩,z5V et inv hy hn⟩)
    | true =>
     rw [if_neg (by decide)]
     obtain ⟨v,rfl,vN⟩:=z7x hn
     refine z1k ?_
     refine z3e (decide (v=N)) ?_ ?_
     ·refine cb_h (e2_h (Z8 rfl) (J4 (Z8 rfl) (zm0 z21)) ?_)
      rw [ll,z2H (z2d v N)]
      simp
     have tn:=z8t et hy rfl
     have nN:N≤c:=by
      have h2:=(List.nodup_range (n:=N)).length_le_of_subset (l₂:=row) (fun x hx=>(inv x).mpr (by simpa using hx))
      simp at h2
      omega
     by_cases e:v=N
     ·subst e
      rw [decide_eq_true rfl,if_pos rfl]
      refine z4R ?_
      refine z41 (a:=3) rfl z21 (by rw [ll];omega) (Z8 rfl) ?_
      rw [ze7,z2a]
      refine z1k (z0p ⟨row++[v],v+1,_,_,tn,z4m cr inv vN,fun u=>?_,rfl,?_⟩)
      ·rw [z31 inv vN];omega
      ·rw [List.range_succ,List.map_append,z6I inv]
       have:(row++[v]).idxOf v=c:=by
        rw [List.idxOf_append,if_neg (fun z=>by have:=(inv v).mp z;omega)]
        simp [rl]
       simp [this]
     ·rw [decide_eq_false e,if_neg (by decide)]
      refine z1k (z0p ⟨row++[v],N,_,_,tn,z4m cr inv vN,fun u=>?_,rfl,?_⟩)
      ·rw [z31 inv vN];omega
      ·rw [z6I inv]
   ·rintro γ h2 ⟨row,N,a,b,et,cr,inv,rfl,rfl⟩
    rw [show (Src.con (z1D xs)).items.length=xs.length by simp [Src.items,z1D],List.take_length] at et
    exact ⟨row,N,a,b,et,cr,inv,rfl,rfl⟩
   ·rintro d h' ⟨rfl,ej,no⟩
    refine ⟨?_,ej⟩
    rw [z4H]
    rintro ⟨row,e,s⟩
    injection e with e
    exact no ⟨row,e,s.can⟩
  rintro γ _ ⟨row,N,a,b,rfl,cr,inv,rfl,rfl⟩
  have sl:row.length=st.length:=by rw [← xl,y8]
  have m:MC st mk row:=⟨sq,rs,lm,sl,cr⟩
  refine z1E (.ref (h.length+1)) [some (maD st mk),some (.tup (stD row)),some (.int st.length),some (.ref h.length),a,b,some (.ref (h.length+1))] (h1:=h++[.lst (stD ((List.range N).map fun u=>row.idxOf u)),.lst ((List.range st.length).map (z7h st mk row))]) ?_ rfl ?_
  ·refine (z0N (l:=List.range st.length) (fun _=>true) (z7h st mk row) (z2i (Z8 rfl) (by omega)) rfl (fun _=>trivial) (by simp;omega) fun x hx=>⟨[some (maD st mk),some (.tup (stD row)),some (.int x)],fun h=>rfl,fun j=>rfl,fun _ j=>?_⟩).trans ?_
   ·have hx:x<st.length:=by simpa using hx
    have:eTup (z8 (e2 fIx (e2 fIx (eVar 0) (fun _=>pure (.int 1))) (eVar 2)) (z8 (eFn 3 z0X (z8 (eVar 0) (z8 (eVar 1) (z8 (eVar 2) aNil)))) aNil)) [some (maD st mk),some (.tup (stD row)),some (.int x)]=pure (z7h st mk row x):=by
     simp only [List.getElem?_cons_succ,List.getElem?_cons_zero,List.length_cons,List.length_nil,Nat.reduceAdd,z8,aNil,Y9,e2,eFn,eTup,eVar,if_true,z2J,ix_tup (z7p (show x<mk.length by omega)),m.led hx,zI0]
     rfl
    rw [this];rfl
   ·rw [filter_tt,List.append_assoc]
    simp
  refine Y4 (.bl (((z1D (stD row)).map (z9R st mk row)).all id)) (zF1 ?_) ⟨by rw [List.all_map,← zb8 m];rfl,_,rfl⟩
  refine (z33 (src:=.con (z1D (stD row))) (fun _=>true) (fun d=>.bl (z9R st mk row d)) ?_ (fun _=>trivial) ?_ fun d hd=>?_).trans ?_
  ·have:z79 (eVar 1) [some (maD st mk),some (.tup (stD row)),some (.int st.length),some (.ref h.length),a,b,some (.ref (h.length+1))]=pure (.con (z1D (stD row))):=by unfold z79;simp only [List.getElem?_cons_succ,List.getElem?_cons_zero,z8,aNil,Y9,eVar]
   exact congrFun this _
  ·simp [Src.items,z1D,stD];omega
  ·obtain ⟨c,hc,ec⟩:=List.getElem_of_mem hd
   obtain ⟨y,hy,rfl⟩:=z4o (show (z1D (stD row))[c]?=some d by rw [← ec];exact List.getElem?_eq_getElem hc)
   obtain ⟨v,rfl,ev⟩:=z2I hy
   have hcl:c<row.length:=(List.getElem?_eq_some_iff.mp ev).1
   have vN:v<N:=(inv v).mp (List.mem_of_getElem? ev)
   have ir:row.idxOf v<row.length:=List.idxOf_lt_length_iff.mpr (List.mem_of_getElem? ev)
   refine ⟨[some (.ref (h.length+1)),some (.ref h.length),some (.int c),some (.int v)],fun h=>rfl,fun j=>rfl,fun _ j=>?_⟩
   have hL:∀ j:AH,(h++[O.lst (stD ((List.range N).map fun u=>row.idxOf u)),O.lst ((List.range st.length).map (z7h st mk row))]++j)[h.length+1]?=some (.lst ((List.range st.length).map (z7h st mk row))):=fun j=>by simp
   have hF:∀ j:AH,(h++[O.lst (stD ((List.range N).map fun u=>row.idxOf u)),O.lst ((List.range st.length).map (z7h st mk row))]++j)[h.length]?=some (.lst (stD ((List.range N).map fun u=>row.idxOf u))):=fun j=>by simp
   refine e2_h (e2_h (Z8 rfl) (Z8 rfl) (ix_h (hL j) (z8W (by omega)))) (e2_h (Z8 rfl) (e2_h (Z8 rfl) (Z8 rfl) (ix_h (d:=.int (row.idxOf v:Nat)) (hF j) ?_)) (ix_h (hL j) (z8W (by omega)))) ?_
   ·unfold stD
    rw [List.map_map]
    exact z8W (f:=(fun (i:Nat)=>D.int i) ∘ fun u=>row.idxOf u) vN
   ·refine (z2H (zp8 (n:=21) (mkAt mk c) (mkAt mk (row.idxOf v)) (FT.led st row c) (FT.led st row (row.idxOf v)))).trans ?_
    show Res.ok (D.bl ((decide _ && decide _) != false)) _=Res.ok (D.bl (decide _ && decide _)) _
    rw [Bool.bne_false,Int.toNat_natCast,Int.toNat_natCast]
  ·rw [filter_tt,List.map_map]
   rfl
end
theorem zJ9 {h:AH}(l:List Nat):TB 1 h (.tup (stD l)):=⟨zD9 _,fun xs e x hx=>by
 cases e
 obtain ⟨i,_,rfl⟩:=List.mem_map.mp hx
 exact zz6 _⟩
section
variable {st:List (List Nat)}{mk:List (List Str)}{row:List Nat}
theorem z8E {h:AH}{d:D}(t:TB 1 h d) (sq:SQ st) (rs:∀ l∈st,l.Pairwise (·<·)) (lm:mk.length=st.length) (e:stB st mk d=false):Y2 [maD st mk,d] h=.err ⟨"NoPaper",[]⟩ h:=by
 show runF 3 z0d [maD st mk,d] h=_
 refine zi3 ?_
 show z0d [some (maD st mk),some d,none] h=_
 unfold z0d
 exact za1 (zr3 (cn_h (b:=false) (cv_h (fn_h (ds:=[maD st mk,d]) (ac_h (Z8 rfl) (ac_h (Z8 rfl) rfl)) rfl (by rw [z6a t sq rs lm,e])))))
theorem z6w (m:MC st mk row) (s:Steady st mk row) {n:Nat}(hn:1≤n) (inv:∀ u,u∈row↔u<n) (h:AH):∃ j,Y2 [maD st mk,.tup (stD row)] h=.ok (maD (qst n st row) (qmk n mk row)) (h++j):=by
 have l2:=m.q.l2
 have sl:=m.len
 have lm:=m.lm
 have nn:n≤row.length:=by
  have h2:=(List.nodup_range (n:=n)).length_le_of_subset (l₂:=row) (fun x hx=>(inv x).mpr (by simpa using hx))
  simpa using h2
 show ∃ j,runF 3 z0d [maD st mk,.tup (stD row)] h=_
 obtain ⟨v,h',e,rfl,j,rfl⟩:W (runF 3 z0d [maD st mk,.tup (stD row)]) h fun v h'=>v=maD (qst n st row) (qmk n mk row)/\∃ j,h'=h++j:=by
  refine z1J ?_
  show W (z0d [some (maD st mk),some (.tup (stD row)),none]) h _
  unfold z0d z3H
  refine z3e false (zr3 (cn_h (b:=true) (cv_h (fn_h (ds:=[maD st mk,.tup (stD row)]) (ac_h (Z8 rfl) (ac_h (Z8 rfl) rfl)) rfl (by rw [z6a (zJ9 row) m.q m.rs m.lm,z8H s]))))) ?_
  rw [if_neg (by decide)]
  refine z1k (zC0 ?_)
  refine z1E (.ref h.length) [some (maD st mk),some (.tup (stD row)),some (.ref h.length)] (h1:=h++[.lst (stD ((List.range n).map fun u=>row.idxOf u))]) ?_ rfl ?_
  ·refine (z0N (l:=List.range n) (fun _=>true) (fun u=>.int (row.idxOf u:Nat)) (z2i (n:=n) ?_ (by omega)) rfl (fun _=>trivial) (by simp;omega) fun u hu=>⟨[some (.tup (stD row)),some (.int u)],fun h=>rfl,fun j=>rfl,fun _ j=>?_⟩).trans ?_
   ·have e1:z3m [.tup (stD row)]=pure (.int ((n - 1:Nat):Int)):=by
     unfold z3m
     dsimp only
     rw [z2f]
     dsimp only
     rw [if_pos (by unfold zN;rw [List.length_map];omega),z98 hn inv]
    have:e2 fAdd (Z9 z3m (z8 (eVar 1) aNil)) (fun _=>pure (.int 1)) [some (maD st mk),some (.tup (stD row)),none]=pure (.int n):=by
     simp only [List.getElem?_cons_succ,List.getElem?_cons_zero,z8,aNil,z1B,Y9,e1,e2,Z9,eVar]
     rw [show ((n - 1:Nat):Int)+1=(n:Int) by omega]
    rw [this];rfl
   ·have hu:u∈row:=(inv u).mpr (by simpa using hu)
    rw [z8G (l:=row) (x:=u) rfl rfl hu (by omega)]
    rfl
   ·rw [filter_tt]
    unfold stD
    rw [List.map_map]
    rfl
  have il:∀ x∈(List.range n).map fun u=>row.idxOf u,x<st.length:=fun x hx=>by
   obtain ⟨u,hu,rfl⟩:=List.mem_map.mp hx
   rw [← sl]
   exact List.idxOf_lt_length_iff.mpr ((inv u).mpr (by simpa using hu))
  refine zC0 ?_
  obtain ⟨f,hf⟩:∃ f,f=O.lst (stD ((List.range n).map fun u=>row.idxOf u)):=⟨_,rfl⟩
  rw [← hf]
  have at0:∀ j:AH,(h++[f]++j)[h.length]?=some (.lst (stD ((List.range n).map fun u=>row.idxOf u))):=fun j=>by rw [hf];simp
  have at0':(h++[f])[h.length]?=some (.lst (stD ((List.range n).map fun u=>row.idxOf u))):=by rw [hf];simp
  refine Y4 (maD (qst n st row) (qmk n mk row)) (h1:=h++[f]++[.lst (stsD (qst n st row))]++[.lst (mksD (qmk n mk row))]) (z6k (J4 (h1:=h++[f]++[.lst (stsD (qst n st row))]) ?_ (z3M z21)) (J4 ?_ (z3M z21))) ⟨rfl,[f,.lst (stsD (qst n st row)),.lst (mksD (qmk n mk row))],by simp⟩
  ·refine (z0N (l:=(List.range n).map fun u=>row.idxOf u) (fun _=>true) (fun x=>.tup (stD (led st row x))) (z92 (Z8 rfl) at0') rfl (fun j=>at0 j) (by simp;omega) fun x hx=>⟨[some (maD st mk),some (.tup (stD row)),some (.int x)],fun h=>rfl,fun j=>rfl,fun _ j=>?_⟩).trans ?_
   ·have:eFn 3 z0X (z8 (eVar 0) (z8 (eVar 1) (z8 (eVar 2) aNil))) [some (maD st mk),some (.tup (stD row)),some (.int x)]=pure (.tup (stD (led st row x))):=by simp only [List.getElem?_cons_succ,List.getElem?_cons_zero,List.length_cons,List.length_nil,Nat.reduceAdd,z8,aNil,Y9,eFn,eVar,if_true,m.led (il x hx)]
    rw [this];rfl
   ·have:((List.range n).map fun u=>row.idxOf u).map (fun x=>D.tup (stD (led st row x)))=stsD (qst n st row):=by
     unfold stsD qst
     rw [List.map_map,List.map_map]
     rfl
    rw [filter_tt,this]
  ·refine (z0N (l:=(List.range n).map fun u=>row.idxOf u) (fun _=>true) (fun x=>.tup ((mkAt mk x).map .str)) (z92 (Z8 rfl) (at0 _)) rfl (fun j=>by show (_++j)[h.length]?=_;rw [List.append_assoc];exact at0 _) (by simp;omega) fun x hx=>⟨[some (maD st mk),some (.int x)],fun h=>rfl,fun j=>rfl,fun _ j=>?_⟩).trans ?_
   ·have hx:=il x hx
    have:e2 fIx (e2 fIx (eVar 0) (fun _=>pure (.int 1))) (eVar 1) [some (maD st mk),some (.int x)]=pure (.tup ((mkAt mk x).map .str)):=by
     simp only [List.getElem?_cons_succ,List.getElem?_cons_zero,Y9,e2,eVar,z2J,ix_tup (z7p (show x<mk.length by omega))]
     rfl
    rw [this];rfl
   ·have:((List.range n).map fun u=>row.idxOf u).map (fun x=>D.tup ((mkAt mk x).map .str))=mksD (qmk n mk row):=by
     unfold mksD qmk
     rw [List.map_map,List.map_map]
     rfl
    rw [filter_tt,this]
 exact ⟨j,e⟩
end
section
variable {st:List (List Nat)}{mk:List (List Str)}{row:List Nat}
theorem ze5 {γ:G}{h:AH}{a x:Nat}(m:MC st mk row) (hx:x<st.length) (e0:γ[0]?=some (some (maD st mk))) (e1:γ[1]?=some (some (.tup (stD row)))) (ea:γ[a]?=some (some (.int (x:Nat)))) :
 Z9 v7 (z8 (Z9 z15 (z8 (z0i [some 1,none] (z0D (e2 fIx (e2 fIx (eVar 0) (fun _=>pure (.int 0))) (eVar a))) (gN 1) (fun _=>pure true) (e2 fIx (eVar 0) (eVar 1))) aNil)) aNil) γ h=.ok (.ref (h.length+2)) (h++[.lst (stD ((nx st x).map (rowAt row))),.set (kN (dedN ((nx st x).map (rowAt row)))),.lst (stD (FT.led st row x))]):=by
 have nl:=m.nxl hx
 have ll:=m.ledl (x:=x)
 refine (ss_h (i:=h.length) (h1:=h++[.lst (stD ((nx st x).map (rowAt row)))]) (l:=(nx st x).map (rowAt row)) ?_ z21 (by simp;omega) (by show (FT.led st row x).length<64;omega)).trans ?_
 ·refine (z0N (src:=.con (stD (nx st x))) (l:=nx st x) (fun _=>true) (fun t=>.int (rowAt row t)) (z56 ?_) rfl (fun _=>trivial) (by omega) fun t ht=>⟨[some (.tup (stD row)),some (.int t)],fun h=>by simp only [capG,List.map_cons,List.map_nil,e1,Option.join_some];rfl,fun j=>rfl,fun _ j=>?_⟩).trans ?_
  ·exact e2_h (e2_h (Z8 e0) (y:=.int 0) rfl (by rw [z1R];rfl)) (Z8 ea) (by rw [z6n hx];rfl)
  ·exact e2_h (Z8 rfl) (Z8 rfl) (by rw [ix_tup (z3Y (by rw [m.len];exact z7k m.q ht))];rfl)
  ·rw [filter_tt]
   unfold stD
   rw [List.map_map]
   rfl
 ·simp [FT.led]
theorem zI2 {γ:G}{h:AH}{ma mb:G->M D}{a b:Nat}(e1:ma γ h=.ok (.int (a:Nat)) h) (e2':mb γ h=.ok (.int (b:Nat)) h):Z9 z84 (z8 ma (z8 mb aNil)) γ h=.ok (.int ((max a b:Nat):Int)) h:=by
 have e3':z8 ma (z8 mb aNil) γ h=.ok [.int (a:Nat),.int (b:Nat)] h:=ac_h e1 (ac_h e2' rfl)
 unfold Z9
 rw [M.bind_ok e3']
 show Res.ok (D.int (max (a:Int) (b:Int))) h=_
 congr 2
 omega
theorem zf1 {γ:G}{h:AH}{ma:G->M D}{a:Nat}(e1:ma γ h=.ok (.int (a:Nat)) h):e2 fAdd ma (fun _=>pure (.int 1)) γ h=.ok (.int ((a+1:Nat):Int)) h:=e2_h e1 rfl (by rw [z1B];rfl)
theorem z96 {h:AH}{d:D}(t:TB 1 h d) (sq:SQ st) (rs:∀ l∈st,l.Pairwise (·<·)) (lm:mk.length=st.length):z0u [maD st mk,d] h=.ok (.bl (stB st mk d)) h:=by
 have l2:=sq.l2
 refine z6d rfl (z1J ?_)
 show W (z0V [some (maD st mk),some d,none,none,none,none,none]) h _
 unfold z0V
 refine z5r (.int st.length) [some (maD st mk),some d,some (.int st.length),none,none,none,none] (by simp only [List.getElem?_cons_zero,z8,aNil,Y9,e2,Z9,eVar,z1R,z0C,z1K]) rfl ?_
 refine z3e (!lenB st.length st.length d) (cn_h (cv_h (fn_h (ds:=[d,.int st.length,.int st.length]) (ac_h (Z8 rfl) (ac_h (Z8 rfl) (ac_h (Z8 rfl) rfl))) rfl (zz3 t.ta)))) ?_
 cases hl:lenB st.length st.length d with
 | false =>
  rw [if_pos (by rfl)]
  refine z4R (Y4 (.bl false) rfl ⟨?_,[],by simp⟩)
  rw [z4H]
  rintro ⟨row,rfl,s⟩
  have:=s.len
  simp [lenB,y8,this] at hl
 | true =>
  rw [if_neg (by decide)]
  obtain ⟨xs,rfl⟩:∃ xs,d=.tup xs:=by cases d<;>first | (cases hl;done) | exact ⟨_,rfl⟩
  have xl:xs.length=st.length:=by
   have h:=hl
   simp only [lenB,Bool.and_eq_true,decide_eq_true_eq] at h
   omega
  refine z1k (z5r (.int (0:Nat)) [some (maD st mk),some (.tup xs),some (.int st.length),some (.int (0:Nat)),none,none,none] rfl rfl ?_)
  refine z22 (fun γ h'=>∃ row N a,xs=stD row/\Canon row/\(∀ u,u∈row↔u<N)/\γ=[some (maD st mk),some (.tup xs),some (.int st.length),some (.int (N:Nat)),a,none,none]/\h=h') ?_ ?_
  ·refine z3r (fun c γ h'=>∃ row N a,xs.take c=stD row/\Canon row/\(∀ u,u∈row↔u<N)/\γ=[some (maD st mk),some (.tup xs),some (.int st.length),some (.int (N:Nat)),a,none,none]/\h=h') (fun d h'=>d=.bl false/\h=h'/\¬ ∃ row',xs=stD row'/\Canon row') ?_
   refine W_of (v:=.con xs) (z56 (Z8 rfl)) ?_
   refine ⟨⟨[],0,none,rfl,fun i v e=>by simp at e,by simp,rfl,rfl⟩,fun _ _ _ _=>trivial,?_,?_,?_⟩
   ·rintro c y γ _ hy ⟨row,N,a,et,cr,inv,rfl,rfl⟩
    have hy:xs[c]?=some y:=hy
    have ty:TA h y:=t.2 xs rfl y (List.mem_of_getElem? hy)
    refine W_eq (v:=[some (maD st mk),some (.tup xs),some (.int st.length),some (.int (N:Nat)),some y,none,none]) rfl ?_
    refine z3e (!natB (N+1:Nat) y) (cn_h (cv_h (fn_h (ds:=[y,.int 0,.int (N+1:Nat)]) (ac_h (Z8 rfl) (ac_h (d:=.int 0) rfl (ac_h (zf1 (Z8 rfl)) rfl))) rfl (zt7 ty)))) ?_
    cases hn:natB (N+1:Nat) y with
    | false =>
     rw [if_pos (by rfl)]
     exact z4R (Y4 (.bl false) rfl ⟨rfl,rfl,z5V et inv hy hn⟩)
    | true =>
     rw [if_neg (by decide)]
     obtain ⟨v,rfl,vN⟩:=z7x hn
     refine z1k (z1E (.int ((max N (v+1):Nat):Int)) [some (maD st mk),some (.tup xs),some (.int st.length),some (.int ((max N (v+1):Nat):Int)),some (.int (v:Nat)),none,none] (zI2 (Z8 rfl) (zf1 (Z8 rfl))) rfl ?_)
     exact z0p ⟨row++[v],max N (v+1),_,z8t et hy rfl,z4m cr inv vN,z31 inv vN,rfl,rfl⟩
   ·rintro γ h2 ⟨row,N,a,et,cr,inv,rfl,rfl⟩
    rw [show (Src.con xs).items.length=xs.length from rfl,List.take_length] at et
    exact ⟨row,N,a,et,cr,inv,rfl,rfl⟩
   ·rintro d h' ⟨rfl,rfl,no⟩
    refine ⟨?_,[],by simp⟩
    rw [z4H]
    rintro ⟨row,e,s⟩
    injection e with e
    exact no ⟨row,e,s.can⟩
  rintro γ _ ⟨row,N,a,rfl,cr,inv,rfl,rfl⟩
  have sl:row.length=st.length:=by rw [← xl,y8]
  have m:MC st mk row:=⟨sq,rs,lm,sl,cr⟩
  rw [w_cons]
  refine z00 (fun c γ h'=>∃ a b e,γ=[some (maD st mk),some (.tup (stD row)),some (.int st.length),some (.int (N:Nat)),a,b,e]/\(∃ j,h'=h++j)/\∀ i,i<c->mkAt mk i=mkAt mk (row.idxOf (rowAt row i))/\FT.led st row i=FT.led st row (row.idxOf (rowAt row i))) (fun d h'=>d=.bl false/\(∃ j,h'=h++j)/\¬ Steady st mk row) ?_
  refine W_of (v:=.int st.length) (Z8 rfl) ⟨st.length,rfl,by omega,⟨_,_,_,rfl,⟨[],by simp⟩,fun i hi=>by omega⟩,?_,?_,?_⟩
  ·rintro c _ _ hc ⟨a,b,e,rfl,⟨j,rfl⟩,lk⟩
   have cm:=z08 (show c<row.length by omega)
   obtain ⟨f,hf⟩:∃ f,f=row.idxOf (rowAt row c):=⟨_,rfl⟩
   have fl:f<st.length:=by rw [hf,← sl];exact List.idxOf_lt_length_iff.mpr cm
   show W (Z1 _ _ [some (maD st mk),some (.tup (stD row)),some (.int st.length),some (.int (N:Nat)),some (.int (c:Nat)),b,e]) _ _
   refine z5r (.int (f:Nat)) [some (maD st mk),some (.tup (stD row)),some (.int st.length),some (.int (N:Nat)),some (.int (c:Nat)),some (.int (f:Nat)),e] ?_ rfl ?_
   ·rw [hf]
    refine z8G rfl ?_ cm (by omega)
    simp only [List.getElem?_cons_succ,List.getElem?_cons_zero,Y9,e2,eVar,ix_tup (z3Y (l:=row) (c:=c) (by omega))]
    rfl
   have e1:fEqX true (.tup ((mkAt mk c).map .str)) (.tup ((mkAt mk f).map .str)) (h++j)=.ok (.bl (decide (mkAt mk c=mkAt mk f) != true)) (h++j):=z2H (z28 z5A _ _)
   have mi:∀ {x:Nat},x<st.length->atI (mksD mk) (x:Int)=some (.tup ((mkAt mk x).map .str)):=fun {x} hx=>z7p (by omega)
   have ns:¬ (mkAt mk c=mkAt mk f/\FT.led st row c=FT.led st row f)->¬ Steady st mk row:=fun z s=>z (by rw [hf];exact s.like c (by omega))
   refine z3e (decide (mkAt mk c=mkAt mk f) != true) (cb_h (e2_h (e2_h (e2_h (Z8 rfl) (y:=.int 1) rfl (by rw [z2J];rfl)) (Z8 rfl) (by rw [ix_tup (mi (show c<st.length by omega))];rfl)) (e2_h (e2_h (Z8 rfl) (y:=.int 1) rfl (by rw [z2J];rfl)) (Z8 rfl) (by rw [ix_tup (mi fl)];rfl)) e1)) ?_
   by_cases q1:mkAt mk c=mkAt mk f
   ·rw [decide_eq_true q1,if_neg (by decide)]
    refine z1k (z1E (.ref ((h++j).length+2)) [some (maD st mk),some (.tup (stD row)),some (.int st.length),some (.int (N:Nat)),some (.int (c:Nat)),some (.int (f:Nat)),some (.ref ((h++j).length+2))] (ze5 m (by omega) rfl rfl rfl) rfl ?_)
    obtain ⟨H,hH⟩:∃ H,H=h++j++[.lst (stD ((nx st c).map (rowAt row))),.set (kN (dedN ((nx st c).map (rowAt row)))),.lst (stD (FT.led st row c))]:=⟨_,rfl⟩
    rw [← hH]
    have g1:H[(h++j).length+2]?=some (.lst (stD (FT.led st row c))):=by rw [hH];exact at_E (l:=[_,_,_])
    refine z3e (decide (FT.led st row c=FT.led st row f) != true) ?_ ?_
    ·exact zv2 (cb_h (e2_h (Z8 rfl) (ze5 (a:=5) (h:=H) m fl rfl rfl rfl) (zg0 (z2v g1) (at_E (l:=[_,_,_])))))
    by_cases q2:FT.led st row c=FT.led st row f
    ·rw [decide_eq_true q2,if_neg (by decide)]
     refine z1k (z0p ⟨_,_,_,rfl,⟨j++_,by rw [hH,List.append_assoc]⟩,fun i hi=>?_⟩)
     by_cases z:i=c
     ·subst z
      rw [← hf]
      exact ⟨q1,q2⟩
     ·exact lk i (by omega)
    ·rw [decide_eq_false q2,if_pos (by decide)]
     exact z4R (Y4 (.bl false) rfl ⟨rfl,⟨j++_,by rw [hH,List.append_assoc]⟩,ns fun z=>q2 z.2⟩)
   ·rw [decide_eq_false q1,if_pos (by decide)]
    exact z4R (Y4 (.bl false) rfl ⟨rfl,⟨j,rfl⟩,ns fun z=>q1 z.1⟩)
  ·rintro _ _ ⟨a,b,e,rfl,ej,lk⟩
   refine Y4 (.bl true) rfl ⟨?_,ej⟩
   rw [z8H ⟨sl,cr,fun i hi=>lk i (by omega)⟩]
  ·rintro _ _ ⟨rfl,ej,no⟩
   refine ⟨?_,ej⟩
   rw [z4H]
   rintro ⟨row',e,s⟩
   injection e with e
   rw [← z49 e] at s
   exact no s
def numL (l:List Nat):List Nat:=l.map fun x=>(setN l).idxOf x
theorem z3B {h:AH}{i:Nat}{l:List Nat}(e:h[i]?=some (.lst (stD l))) (hl:l.length≤1000) (hd:(setN l).length<64):z0b [.ref i] h=.ok (.tup (stD (numL l))) h:=by
 have il:=(List.getElem?_eq_some_iff.mp e).1
 show cln (runF 2 z0a [.ref i]) h=_
 refine z1d (j:=[.set (kN (dedN l)),.lst (stD (setN l))]) (z3t ?_) (by simp only [J7];exact z29 _)
 show W (z0a [some (.ref i),none]) h _
 unfold z0a
 refine z1E (.ref (h.length+1)) [some (.ref i),some (.ref (h.length+1))] (ss_h (Z8 rfl) e (by omega) hd) rfl ?_
 have e':∀ j:AH,(h++j)[i]?=some (.lst (stD l)):=fun j=>by rw [List.getElem?_append_left il];exact e
 have g:∀ j:AH,(h++[O.set (kN (dedN l)),O.lst (stD (setN l))]++j)[h.length+1]?=some (.lst (stD (setN l))):=fun j=>by simp
 refine Y4 (.tup (stD (numL l))) (z5j ?_ (z29 _)) ⟨rfl,rfl⟩
 refine (z0N (l:=l) (fun _=>true) (fun x=>.int ((setN l).idxOf x:Nat)) (z7M (Z8 rfl) (e' _)) rfl (fun j=>by show (_++j)[i]?=_;rw [List.append_assoc];exact e' _) (by omega) fun x hx=>⟨[some (.ref (h.length+1)),some (.int x)],fun h=>rfl,fun j=>rfl,fun _ j=>?_⟩).trans ?_
 ·exact ze6 (Z8 rfl) (g j) (Z8 rfl) (by rw [setN_mem];exact hx) (by omega)
 ·rw [filter_tt]
  unfold numL stD
  rw [List.map_map]
  rfl
theorem z8x {h:AH}{d:D}(t:TB 1 h d) (sq:SQ st) (rs:∀ l∈st,l.Pairwise (·<·)) (lm:mk.length=st.length) (e:stB st mk d=false):z0G [maD st mk,d] h=.ok (.bl true) h:=by
 refine z6d rfl (z1J ?_)
 show W (z0F [some (maD st mk),some d,none]) h _
 unfold z0F
 refine z8X (xs:=[maD st mk,d]) (ac_h (Z8 rfl) (ac_h (Z8 rfl) rfl)) rfl (z8E t sq rs lm e) (show h_NoPaper "NoPaper" = true by decide +kernel) ?_
 show W (Z1 _ _ [some (maD st mk),some d,some (.ref h.length)]) (h++[.exc "NoPaper"]) _
 have g:(h++[O.exc "NoPaper"])[h.length]?=some (.exc "NoPaper"):=by simp
 refine z3e false (z7H (a:=false) (b:=false) (cv_h (z7j (show x_NoMachine "NoPaper" = some false by decide +kernel) rfl g)) (z7H (a:=false) (b:=false) (cv_h (z7j (show x_AreAlike "NoPaper" = some false by decide +kernel) rfl g)) (cv_h (z7j (show x_TooGreat "NoPaper" = some false by decide +kernel) rfl g)))) ?_
 rw [if_neg (by decide)]
 refine z1k (Y4 (.bl true) (z1A (b:=true) (c:=true) (z7j (show x_TreeError "NoPaper" = some true by decide +kernel) rfl g) fun _=>z7j (show x_ValueError "NoPaper" = some true by decide +kernel) rfl g) ⟨_,rfl,rfl,_,rfl⟩)
theorem z7d {h:AH}{d:D}(t:TB 1 h d) (sq:SQ st) (rs:∀ l∈st,l.Pairwise (·<·)) (lm:mk.length=st.length) (e:stB st mk d=false):Y3 [maD st mk,d] h=.ok (.bl true) h:=by
 refine z6d rfl (z1J ?_)
 show W (Y5 [some (maD st mk),some d,none]) h _
 unfold Y5
 refine z8X (xs:=[maD st mk,d]) (ac_h (Z8 rfl) (ac_h (Z8 rfl) rfl)) rfl (z8E t sq rs lm e) (show h_TreeError "NoPaper" = true by decide +kernel) ?_
 show W (Z1 _ _ [some (maD st mk),some d,some (.ref h.length)]) (h++[.exc "NoPaper"]) _
 have g:(h++[O.exc "NoPaper"])[h.length]?=some (.exc "NoPaper"):=by simp
 exact Y4 (.bl true) (z7j (show x_NoPaper "NoPaper" = some true by decide +kernel) rfl g) ⟨_,rfl,rfl,_,rfl⟩
end
theorem zh5 {h:AH}{i j:Nat}{xs ys:List D}(e1:h[i]?=some (.lst xs)) (e2':h[j]?=some (.lst ys)) (hl:xs.length+ys.length≤100000):fAdd (.ref i) (.ref j) h=.ok (.ref h.length) (h++[.lst (xs++ys)]):=by
 have g1:getL i h=.ok xs h:=by unfold getL;rw [e1]
 have g2:getL j h=.ok ys h:=by unfold getL;rw [e2']
 show (getL i >>= fun x=>getL j >>= fun y=>newL (x++y)) h=_
 rw [M.bind_ok g1,M.bind_ok g2]
 exact zz8 (by rw [List.length_append];omega)
def z0P (st:List (List Nat)) (row:List Nat) (k o:Nat):List Nat:=((List.range o).filter fun x=>decide (rowAt row x=k)).flatMap fun x=>(nx st x).map (rowAt row)
section
variable {st:List (List Nat)}{mk:List (List Str)}{row:List Nat}
theorem z1Y (k o:Nat):z0P st row k (o+1)=if rowAt row o=k then z0P st row k o++(nx st o).map (rowAt row) else z0P st row k o:=by
 unfold z0P
 rw [List.range_succ,List.filter_append]
 by_cases q:rowAt row o=k<;>simp [q]
theorem z7y {k o x:Nat}:x∈z0P st row k o↔∃ y,y<o/\rowAt row y=k/\x∈(nx st y).map (rowAt row):=by
 unfold z0P
 simp only [List.mem_flatMap,List.mem_filter,List.mem_range,decide_eq_true_eq,and_assoc]
theorem z37 (m:MC st mk row) (k:Nat):∀ o,o≤row.length->(z0P st row k o).length≤o * 40
 | 0,_=>by simp [z0P]
 | o+1,h=>by
  rw [z1Y]
  have ih:=z37 m k o (by omega)
  have:=m.nxl (x:=o) (by rw [← m.len];omega)
  split
  ·rw [List.length_append,List.length_map];omega
  ·omega
theorem z8h (m:MC st mk row) (s:Steady st mk row) {k:Nat}(hk:k∈row):setN (z0P st row k row.length)=FT.led st row (row.idxOf k):=by
 have il:=List.idxOf_lt_length_iff.mpr hk
 refine z67 (z0z _) (z0z _) fun x=>?_
 rw [setN_mem,z7y]
 have ll:∀ y,y<row.length->rowAt row y=k->FT.led st row y=FT.led st row (row.idxOf k):=fun y hy e=>by
  have:=(s.like y hy).2
  rw [e] at this
  exact this
 constructor
 ·rintro ⟨y,hy,e,hx⟩
  have:x∈FT.led st row y:=by unfold FT.led;rw [setN_mem];exact hx
  rw [ll y hy e] at this
  exact this
 ·intro hx
  have hx:x∈FT.led st row (row.idxOf k):=hx
  refine ⟨row.idxOf k,il,z0r hk,?_⟩
  unfold FT.led at hx
  rwa [setN_mem] at hx
theorem z6J {h:AH}(m:MC st mk row) (s:Steady st mk row) {n:Nat}(hn:1≤n) (inv:∀ u,u∈row↔u<n):J0 [maD st mk,.tup (stD row)] h=.ok (maD (qst n st row) (qmk n mk row)) h:=by
 have l2:=m.q.l2
 have sl:=m.len
 have lm:=m.lm
 have nn:n≤row.length:=by
  have h2:=(List.nodup_range (n:=n)).length_le_of_subset (l₂:=row) (fun x hx=>(inv x).mpr (by simpa using hx))
  simpa using h2
 show cln (runF 7 w6 [maD st mk,.tup (stD row)]) h=_
 obtain ⟨v,h',e,rfl,j,rfl⟩:W (runF 7 w6 [maD st mk,.tup (stD row)]) h fun v h'=>v=maD (qst n st row) (qmk n mk row)/\∃ j,h'=h++j:=by
  refine z1J ?_
  show W (w6 [some (maD st mk),some (.tup (stD row)),none,none,none,none,none]) h _
  unfold w6
  refine z9H (xs:=[]) (by simp) (fun h=>rfl) ?_
  refine z9H (xs:=[]) (by simp) (fun h=>rfl) ?_
  refine z22 (fun γ h'=>∃ a b e j,γ=[some (maD st mk),some (.tup (stD row)),some (.ref (h.length+0)),some (.ref (h.length+1)),a,b,e]/\h'=h++(.lst (stsD (qst n st row)) :: .lst (mksD (qmk n mk row)) :: j)) ?_ ?_
  ·refine z00 (fun c γ h'=>∃ a b e j,γ=[some (maD st mk),some (.tup (stD row)),some (.ref (h.length+0)),some (.ref (h.length+1)),a,b,e]/\h'=h++(.lst (stsD (qst c st row)) :: .lst (mksD (qmk c mk row)) :: j)) (fun _ _=>False) ?_
   have e1:z3m [.tup (stD row)]=pure (.int ((n - 1:Nat):Int)):=by
    unfold z3m
    dsimp only
    rw [z2f]
    dsimp only
    rw [if_pos (by unfold zN;rw [List.length_map];omega),z98 hn inv]
   refine W_eq (v:=.int (n:Nat)) ?_ ⟨n,rfl,by omega,⟨none,none,none,[],?_,?_⟩,?_,?_,fun _ _ q=>q.elim⟩
   ·show e2 fAdd (Z9 z3m (z8 (eVar 1) aNil)) (fun _=>pure (.int 1)) [some (maD st mk),some (.tup (stD row)),some (.ref h.length),some (.ref (h++[O.lst []]).length),none,none,none]=_
    simp only [List.getElem?_cons_succ,List.getElem?_cons_zero,z8,aNil,z1B,Y9,e1,e2,Z9,eVar]
    rw [show ((n - 1:Nat):Int)+1=(n:Int) by omega]
   ·simp
   ·simp [qst,qmk,stsD,mksD]
   ·rintro c _ _ hc ⟨a,b,e,j,rfl,rfl⟩
    have cm:c∈row:=(inv c).mpr hc
    have il:=List.idxOf_lt_length_iff.mpr cm
    show W (Z1 _ _ [some (maD st mk),some (.tup (stD row)),some (.ref (h.length+0)),some (.ref (h.length+1)),some (.int (c:Nat)),b,e]) _ _
    refine z9H (xs:=stD []) (by simp [stD]) (fun h=>rfl) ?_
    refine z22 (fun γ h'=>∃ i e j,γ=[some (maD st mk),some (.tup (stD row)),some (.ref (h.length+0)),some (.ref (h.length+1)),some (.int (c:Nat)),some (.ref i),e]/\h'=h++(.lst (stsD (qst c st row)) :: .lst (mksD (qmk c mk row)) :: j)/\h'[i]?=some (.lst (stD (z0P st row c row.length)))) ?_ ?_
    ·refine z00 (fun o γ h'=>∃ i e j,γ=[some (maD st mk),some (.tup (stD row)),some (.ref (h.length+0)),some (.ref (h.length+1)),some (.int (c:Nat)),some (.ref i),e]/\h'=h++(.lst (stsD (qst c st row)) :: .lst (mksD (qmk c mk row)) :: j)/\h'[i]?=some (.lst (stD (z0P st row c o)))) (fun _ _=>False) ?_
     refine W_of (v:=.int (row.length:Nat)) (J4 (Z8 rfl) (by rw [z0C,y8];rfl)) ⟨row.length,rfl,by omega,⟨_,_,j++[.lst (stD (z0P st row c 0))],rfl,by simp [z0P],(z21 (o:=.lst (stD (z0P st row c 0))))⟩,?_,?_,fun _ _ q=>q.elim⟩
     ·rintro o _ _ ho ⟨i,e,j,rfl,rfl,gi⟩
      have al:=z37 m c o (by omega)
      have nl:=m.nxl (x:=o) (by omega)
      show W (Z1 _ _ [some (maD st mk),some (.tup (stD row)),some (.ref (h.length+0)),some (.ref (h.length+1)),some (.int (c:Nat)),some (.ref i),some (.int (o:Nat))]) _ _
      refine z3e (decide (rowAt row o=c)) (cb_h (e2_h (e2_h (Z8 rfl) (Z8 rfl) (by rw [ix_tup (z3Y (l:=row) (c:=o) ho)];rfl)) (Z8 rfl) ((z2H (z2d (n:=23) (rowAt row o) c)).trans (by rw [Bool.bne_false])))) ?_
      by_cases q:rowAt row o=c
      ·rw [decide_eq_true q,if_pos rfl]
       refine z4R ?_
       obtain ⟨H,hH⟩:∃ H,H=h++(O.lst (stsD (qst c st row)) :: .lst (mksD (qmk c mk row)) :: j):=⟨_,rfl⟩
       rw [← hH] at gi ⊢
       have e3:z0i [some 1,none] (z0D (e2 fIx (e2 fIx (eVar 0) (fun _=>pure (.int 0))) (eVar 6))) (gN 1) (fun _=>pure true) (e2 fIx (eVar 0) (eVar 1)) [some (maD st mk),some (.tup (stD row)),some (.ref (h.length+0)),some (.ref (h.length+1)),some (.int (c:Nat)),some (.ref i),some (.int (o:Nat))] H=.ok (.ref H.length) (H++[.lst (stD ((nx st o).map (rowAt row)))]):=by
        refine (z0N (src:=.con (stD (nx st o))) (l:=nx st o) (fun _=>true) (fun t=>.int (rowAt row t)) (z56 ?_) rfl (fun _=>trivial) (by omega) fun t ht=>⟨[some (.tup (stD row)),some (.int t)],fun h=>rfl,fun j=>rfl,fun _ j=>?_⟩).trans ?_
        ·exact e2_h (e2_h (Z8 rfl) (y:=.int 0) rfl (by rw [z1R];rfl)) (Z8 rfl) (by rw [z6n (show o<st.length by omega)];rfl)
        ·exact e2_h (Z8 rfl) (Z8 rfl) (by rw [ix_tup (z3Y (by rw [m.len];exact z7k m.q ht))];rfl)
        ·rw [filter_tt]
         unfold stD
         rw [List.map_map]
         rfl
       have e4:=zh5 (z2v (j:=[.lst (stD ((nx st o).map (rowAt row)))]) gi) (z21 (h:=H) (o:=.lst (stD ((nx st o).map (rowAt row))))) (by rw [y8,y8,List.length_map];omega)
       refine z1E (.ref (H++[O.lst (stD ((nx st o).map (rowAt row)))]).length) [some (maD st mk),some (.tup (stD row)),some (.ref (h.length+0)),some (.ref (h.length+1)),some (.int (c:Nat)),some (.ref (H++[O.lst (stD ((nx st o).map (rowAt row)))]).length),some (.int (o:Nat))] (e2_h (Z8 rfl) e3 e4) rfl ?_
       refine z1k (z0p ⟨_,_,j++[.lst (stD ((nx st o).map (rowAt row))),.lst (stD (z0P st row c (o+1)))],rfl,?_,?_⟩)
       ·rw [z1Y,if_pos q,z6r,hH]
        simp
       ·rw [z1Y,if_pos q,z6r]
        exact z21
      ·rw [decide_eq_false q,if_neg (by decide)]
       refine z1k (z0p ⟨_,_,j,rfl,rfl,?_⟩)
       rw [z1Y,if_neg q]
       exact gi
     ·rintro _ _ ⟨i,e,j,rfl,rfl,gi⟩
      exact ⟨i,e,j,rfl,rfl,gi⟩
    rintro _ _ ⟨i,e,j,rfl,rfl,gi⟩
    have al:=z37 m c row.length (Nat.le_refl _)
    have al2:row.length * 40≤40 * 40:=Nat.mul_le_mul_right _ (by omega)
    have ld:=m.ledl (x:=row.idxOf c)
    have sa:=z8h m s cm
    refine z41 (a:=2) (i:=h.length+0) (xs:=stsD (qst c st row)) rfl (at_E (l:=_ :: _)) (by unfold stsD qst;simp;omega) (v:=.tup (stD (FT.led st row (row.idxOf c)))) ?_ ?_
    ·rw [← sa]
     have e5:=ss_h (γ:=[some (maD st mk),some (.tup (stD row)),some (.ref (h.length+0)),some (.ref (h.length+1)),some (.int (c:Nat)),some (.ref i),e]) (me:=eVar 5) (Z8 rfl) gi (by omega) (by rw [sa];omega)
     refine z1d (j:=_) ((J4 e5 (z3M (xs:=stD (setN (z0P st row c row.length))) ?_)).trans rfl) (z69 _)
     exact at_E (l:=[_,_])
    rw [za8,List.set_cons_zero]
    have e6:stsD (qst c st row)++[.tup (stD (FT.led st row (row.idxOf c)))]=stsD (qst (c+1) st row):=by
     unfold stsD qst
     rw [List.range_succ]
     simp
    have e7:mksD (qmk c mk row)++[.tup ((mkAt mk (row.idxOf c)).map .str)]=mksD (qmk (c+1) mk row):=by
     unfold mksD qmk
     rw [List.range_succ]
     simp
    rw [e6]
    refine z41 (a:=3) (i:=h.length+1) (xs:=mksD (qmk c mk row)) rfl (at_E (l:=_ :: _ :: _)) (by unfold mksD qmk;simp;omega) (v:=.tup ((mkAt mk (row.idxOf c)).map .str)) ?_ ?_
    ·refine e2_h (e2_h (Z8 rfl) (y:=.int 1) rfl (by rw [z2J];rfl)) (y:=.int (row.idxOf c:Nat)) (congrFun (z8G (l:=row) (x:=c) rfl rfl cm (by omega)) _) ?_
     rw [ix_tup (z7p (show row.idxOf c<mk.length by omega))]
     rfl
    rw [za8,List.set_cons_succ,List.set_cons_zero,e7]
    exact z0p ⟨_,_,_,j,rfl,rfl⟩
   ·rintro _ _ ⟨a,b,e,j,rfl,rfl⟩
    exact ⟨a,b,e,j,rfl,rfl⟩
  rintro _ _ ⟨a,b,e,j,rfl,rfl⟩
  exact Y4 (maD (qst n st row) (qmk n mk row)) (z6k (J4 (Z8 rfl) (z3M (at_E (l:=_ :: _)))) (J4 (Z8 rfl) (z3M (at_E (l:=_ :: _ :: _))))) ⟨rfl,_,rfl⟩
 exact z1d e (zz9 _ _)
end
section
variable {bst st:List (List Nat)}{bmk mk:List (List Str)}{raw row:List Nat}
theorem zC2 (c:Cop bst bmk st mk raw) (ba:MA bst bmk) (lr:raw.length≤40):SQ st/\(∀ l∈st,l.Pairwise (·<·))/\mk.length=st.length:=by
 have l:=c.l
 have m0:0∈raw:=(c.kd 0).mpr ba.l1
 have:=List.length_pos_of_mem m0
 have cm:∀ l∈st,∃ i,i<raw.length/\l=nx st i:=fun l h=>by
  obtain ⟨i,hi,e⟩:=List.getElem_of_mem h
  exact ⟨i,by rw [← c.l];exact hi,by unfold nx;rw [List.getElem?_eq_getElem hi,e];rfl⟩
 refine ⟨⟨by omega,by omega,fun q hq x hx=>?_⟩,fun q hq=>?_,by rw [c.ml,List.length_map,l]⟩
 ·obtain ⟨i,hi,rfl⟩:=cm _ hq
  rw [l]
  exact c.lt i hi x hx
 ·obtain ⟨i,hi,rfl⟩:=cm _ hq
  exact c.rise i hi
theorem zd5 (m:MC st mk row) {n:Nat}(hn:1≤n) (hn2:n≤40) (inv:∀ u,u∈row↔u<n):y0 [maD (qst n st row) (qmk n mk row),maD (qst n st row) (qmk n mk row)]=pure (.bl true):=by
 have l:(qst n st row).length=n:=by unfold qst;simp
 refine zt2 (by rw [l];exact hn) (by rw [l];exact hn2) (by rw [l];unfold qmk;simp) (fun q hq=>?_) (fun q hq x hx=>?_)
 ·unfold qst at hq
  obtain ⟨u,_,rfl⟩:=List.mem_map.mp hq
  exact z0z _
 ·rw [l]
  unfold qst at hq
  obtain ⟨u,_,rfl⟩:=List.mem_map.mp hq
  exact zt4 (fun o ho=>by rw [m.len];exact z7k m.q ho) inv x hx
theorem z8Z {row:List Nat}(c:Canon row):∃ N,∀ u,u∈row↔u<N:=by
 have:∀ i,i≤row.length->∃ N,∀ u,u∈row.take i↔u<N:=by
  intro i
  induction i with
  | zero=>exact fun _=>⟨0,by simp⟩
  | succ i ih =>
   intro h
   obtain ⟨N,inv⟩:=ih (by omega)
   have e:=z0j (l:=row) (i:=i) (by omega)
   have vN:=z95 c e inv
   refine ⟨max N (rowAt row i+1),fun u=>?_⟩
   rw [List.take_succ,e]
   exact z31 inv vN u
 obtain ⟨N,h⟩:=this row.length (Nat.le_refl _)
 rw [List.take_length] at h
 exact ⟨N,h⟩
end
theorem z9q {l:List Nat}{d:D}{i:Nat}(h:(stD l)[i]?=some d):i<l.length:=by
 obtain ⟨b,_,e⟩:=z2I h
 exact (List.getElem?_eq_some_iff.mp e).1
theorem zm9 {l:List Nat}:∀ x∈numL l,x<l.length:=fun x hx=>by
 unfold numL at hx
 obtain ⟨y,hy,rfl⟩:=List.mem_map.mp hx
 have a:(setN l).idxOf y<(setN l).length:=List.idxOf_lt_length_iff.mpr (setN_mem.mpr hy)
 have b:(setN l).length≤l.length:=by
  have nd:=z2A (z0z l)
  exact nd.length_le_of_subset fun z hz=>setN_mem.mp hz
 omega
theorem zG7 (n:Nat):(List.replicate n (.int ((0:Nat):Int)):List D)=stD (List.replicate n 0):=by unfold stD;rw [List.map_replicate]
theorem math0 {ns:List Int}(hn:ns.length≤63):W (m_law [.fl (ns.map .int)]) [] (fun d _=>d=.bl true):=by
 refine z1J ?_
 show W (z9m [some (.fl (ns.map .int)),none,none,none,none,none,none,none,none,none,none]) [] _
 unfold z9m
 refine z0B _ (by simp only [List.getElem?_cons_zero,List.length_cons,List.length_nil,Nat.reduceAdd,z8,aNil,Y9,eFn,eVar,if_true];exact z9K hn) ?_
 rintro d h1 ⟨rfl,p1⟩
 refine z0B (fun d h=>∃ t:Int,d=.int t/\PS h 1 []) ?_ ?_
 ·simp only [List.getElem?_cons_succ,List.getElem?_cons_zero,List.length_cons,List.length_nil,List.set_cons_succ,List.set_cons_zero,Nat.reduceAdd,v9,Z6,J9,W_pure,z8,aNil,eFn,eVar,if_true]
  exact z02 p1 (by omega) (by omega) (by omega) fun t h2 t0 t1 p2=>⟨t,rfl,p2⟩
 rintro _ h2 ⟨t,rfl,p2⟩
 refine z0B (fun d h1=>∃ ns':List Str,d=.ref (0+3)/\ns'.length≤8/\NS ns'/\PS h1 100 [.lst (ns'.map .str)]) ?_ ?_
 ·simp only [List.getElem?_cons_succ,List.getElem?_cons_zero,List.length_cons,List.length_nil,List.set_cons_succ,List.set_cons_zero,Nat.reduceAdd,v9,Z6,J9,W_pure,z8,aNil,eFn,eVar,if_true]
  refine z02 p2 (by omega) (by decide) (by decide) fun m h3 m0 m1 p3=>?_
  obtain ⟨m,rfl⟩:=Int.eq_ofNat_of_zero_le m0
  refine z7G p3 trivial (by omega) (by omega) fun ns' h4 l4 n4 p4=>?_
  exact ⟨ns',rfl,by omega,n4,p4.up (by omega)⟩
 rintro _ h3 ⟨ns',rfl,l2,n2,p3⟩
 refine zt3 (fun d h1=>∃ bst bmk st mk raw i r,d=.tup [maD st mk,.ref (i+3)]/\MA bst bmk/\Cop bst bmk st mk raw/\raw.length≤10/\PS h1 4000 r/\r[i]?=some (.lst (stD raw))) ?_ ?_
 ·simp only [List.getElem?_cons_succ,List.getElem?_cons_zero,List.length_cons,List.length_nil,List.set_cons_succ,List.set_cons_zero,Nat.reduceAdd,v9,Z6,J9,W_pure,z8,aNil,eFn,eVar,if_true]
  refine z8Q (i:=0) (most:=4) p3 (by omega) (by omega) (by omega) rfl l2 n2 fun bst bmk h5 ba bl p5=>?_
  exact z9u (most:=6) p5 (by omega) (by omega) (by omega) ba fun st mk raw h6 j i c lr p6 e6=>⟨bst,bmk,st,mk,raw,i,_,rfl,ba,c,by omega,p6.up (by omega),e6⟩
 rintro _ h4 ⟨bst,bmk,st,mk,raw,i,r,rfl,ba,c,lr,p4,e4⟩
 refine ⟨[some (.fl (ns.map .int)),some (.ref 2),some (.int t),some (.ref (0+3)),some (maD st mk),some (.ref (i+3)),none,none,none,none,none],rfl,?_⟩
 obtain ⟨sq,rs,lm⟩:=zC2 c ba (by omega)
 have cs:=z7b c
 have cl:=c.l
 have rl:(rowOf raw).length≤10:=by rw [z5q];exact lr
 have o1:1≤(ordL raw).length:=List.length_pos_of_mem (ord_mem.mpr ⟨0,(c.kd 0).mpr ba.l1,rfl⟩)
 have ol:(ordL raw).length≤10:=Nat.le_trans zo7 lr
 have kl:(x5 raw).length=raw.length:=z0w
 have r1:1≤raw.length:=List.length_pos_of_mem ((c.kd 0).mpr ba.l1)
 have kn:x5 raw=numL (rowOf raw):=rfl
 have mk1:MC st mk (x5 raw):=⟨sq,rs,lm,cs.len,cs.can⟩
 have inv:∀ u,u∈x5 raw↔u<(ordL raw).length:=fun u=>z8B
 obtain ⟨K,hK⟩:∃ K,K=x5 raw:=⟨_,rfl⟩
 have Kl:K.length≤10/\1≤K.length:=by rw [hK,kl];omega
 have K10:∀ x∈K,x<40:=fun x hx=>by rw [hK] at hx;have:=(inv x).mp hx;omega
 have e4':h4[i+3]?=some (.lst (stD raw)):=by rw [p4.get];exact e4
 refine z1E (.tup (stD K)) [some (.fl (ns.map .int)),some (.ref 2),some (.int t),some (.ref (0+3)),some (maD st mk),some (.ref (i+3)),some (.tup (stD K)),none,none,none,none] (h1:=h4++[.lst (stD (rowOf raw))]) ?_ rfl ?_
 ·rw [hK]
  refine fn_h (ds:=[.ref h4.length]) (ac_h (J4 (fn_h (ds:=[.ref (i+3)]) (ac_h (Z8 rfl) rfl) rfl (zJ2 e4' (by omega))) ?_) rfl) rfl (z3B (l:=rowOf raw) z21 (by omega) (by show (ordL raw).length<64;omega))
  exact zz8 (xs:=stD (rowOf raw)) (by rw [y8];omega)
 have p5:=p4.app [.lst (stD (rowOf raw))]
 obtain ⟨r5,hr5⟩:∃ r5,r5=r++[O.lst (stD (rowOf raw))]:=⟨_,rfl⟩
 rw [← hr5] at p5
 refine z0B (fun d h=>∃ a:Nat,d=.int (a:Nat)/\a<K.length/\PS h 4001 r5) ?_ ?_
 ·simp only [List.getElem?_cons_succ,List.getElem?_cons_zero,List.length_cons,List.length_nil,Nat.reduceAdd,v9,Z6,J9,W_pure,z8,aNil,Z9,eFn,eVar,if_true,z0C,y8]
  refine z02 p5 (by omega) (by omega) (by omega) fun a h6 a0 a1 p6=>?_
  obtain ⟨a,rfl⟩:=Int.eq_ofNat_of_zero_le a0
  exact ⟨a,rfl,by omega,p6.up (by omega)⟩
 rintro _ h6 ⟨a,rfl,ha,p6⟩
 obtain ⟨g8,hg8⟩:∃ g8:D->G,g8=fun d=>[some (.fl (ns.map .int)),some (.ref 2),some (.int t),some (.ref (0+3)),some (maD st mk),some (.ref (i+3)),some (.tup (stD K)),some (.int (a:Nat)),some d,none,none]:=⟨_,rfl⟩
 refine z5r (.tup (stD K)) (g8 (.tup (stD K))) rfl (by rw [hg8];rfl) ?_
 have lift:∀ {l:List Nat} {j:AH},l.length≤12->(∀ x∈l,x<40)->Th j (10 ^ 21+3) 3 600 (.tup (stD l)):=fun {l j} hl hx=>Th.mono (Kp.refl _) (Nat.le_refl _) (by omega) (by omega) (zy7 (m:=0) (by decide) hx)
 refine z22 (fun γ h'=>∃ l j,γ=g8 (.tup (stD l))/\PS h' 4010 (r5++j)/\l.length≤12/\∀ x∈l,x<40) ?_ ?_
 ·rw [hg8,w_if];simp only [List.getElem?_cons_succ,List.getElem?_cons_zero,Nat.reduceAdd,Z6,W_pure,J1,e2,eVar,z51,z1C]
  by_cases c1:t=0
  ·rw [if_pos (by simp [c1])]
   refine z0B (fun d h=>∃ l,d=.tup (stD l)/\PS h 4010 r5/\l.length≤12/\∀ x∈l,x<40) ?_ ?_
   ·simp only [List.getElem?_cons_succ,List.getElem?_cons_zero,List.length_cons,List.length_nil,Nat.reduceAdd,v9,Z6,J9,W_pure,z8,aNil,z1B,e2,Z9,eFn,z1e,eTup,eVar,if_true,z0C,z2l,z2h,sl_tup,y8]
    refine z02 p6 (by omega) (by omega) (by omega) fun o h7 o0 o1 p7=>?_
    obtain ⟨o,rfl⟩:=Int.eq_ofNat_of_zero_le o0
    have tk:(stD K).take a=stD (K.take a):=by unfold stD;rw [List.map_take]
    have dr:(stD K).drop (a+1)=stD (K.drop (a+1)):=by unfold stD;rw [List.map_drop]
    have e1:(a:Int)+1=((a+1:Nat):Int):=by omega
    have oo:([D.int (o:Nat)]:List D)=stD [o]:=rfl
    rw [if_pos (by decide),zc8,tk,e1,zd8,dr,oo,z3K (by rw [y8,y8,List.length_take];simp;omega),W_pure,z6r,z3K (by rw [y8,y8,List.length_append,List.length_take,List.length_drop];simp;omega),W_pure,z6r]
    refine ⟨_,rfl,p7.up (by omega),by simp;omega,fun x hx=>?_⟩
    rcases List.mem_append.mp hx with q | q
    ·rcases List.mem_append.mp q with q | q
     ·exact K10 x (List.mem_of_mem_take q)
     ·simp at q;omega
    ·exact K10 x (List.mem_of_mem_drop q)
   rintro _ h7 ⟨l,rfl,p7,ll,lx⟩
   exact z0p ⟨l,[],rfl,by rw [List.append_nil];exact p7,ll,lx⟩
  ·rw [if_neg (by simp [c1])]
   exact ⟨K,[],rfl,by rw [List.append_nil];exact p6.up (by omega),by omega,K10⟩
 rintro _ h7 ⟨l7,j7,rfl,p7,ll7,lx7⟩
 refine z22 (fun γ h'=>∃ l j,γ=g8 (.tup (stD l))/\PS h' 4100 (r5++j)/\l.length≤12/\∀ x∈l,x<40) ?_ ?_
 ·rw [hg8,w_if];simp only [List.getElem?_cons_succ,List.getElem?_cons_zero,Nat.reduceAdd,Z6,W_pure,J1,e2,eVar,z51,z1C]
  by_cases c1:t=1
  ·rw [if_pos (by simp [c1])]
   refine z0B (fun d h=>∃ l j,d=.tup (stD l)/\PS h 4100 (r5++j)/\l.length≤12/\∀ x∈l,x<40) ?_ ?_
   ·simp only [List.length_cons,List.length_nil,Nat.reduceAdd,v9,Z6,J9,W_pure,z8,aNil,eFn,if_true]
    refine z6v (r:=r5++j7) (l:=[]) (fun c xs k'=>∃ l,xs=stD l/\l.length=c/\(∀ x∈l,x≤a)/\k'=4010+(c:Int)) ?_
    refine W_of (v:=.con (stD K)) (zh0 (Z8 rfl)) ?_
    refine ⟨_,by simpa using p7,⟨[],rfl,rfl,by simp,by simp⟩,fun _ _ _ _=>trivial,?_,?_⟩
    ·rintro i d h8 k8 xs hd ⟨l,rfl,l1,l3,rfl⟩ p8
     obtain ⟨b,rfl,_⟩:=z2I hd
     have hi:=z9q hd
     simp only [List.getElem?_cons_succ,List.getElem?_cons_zero,List.length_cons,List.length_nil,List.map_cons,List.map_nil,List.set_cons_succ,List.set_cons_zero,Nat.reduceAdd,Option.join_some,v9,Z6,J9,W_pure,z8,aNil,z1B,capG,e2,eFn,eVar,gN,if_true]
     refine z02 p8 (by omega) (by omega) (by omega) fun o h9 o0 o1 p9=>?_
     obtain ⟨o,rfl⟩:=Int.eq_ofNat_of_zero_le o0
     refine ⟨_,p9,by rw [y8];omega,l++[o],by rw [z2a],by simp [l1],fun x hx=>?_,by omega⟩
     rcases List.mem_append.mp hx with q | q
     ·exact l3 x q
     ·simp at q;omega
    ·rintro h8 xs k8 ⟨l,rfl,l1,l3,rfl⟩ p8
     have kk:(Src.con (stD K)).items.length=K.length:=by show (stD K).length=_;rw [y8]
     rw [kk] at l1 p8
     have at8:h8[(r5++j7).length+([]:AH).length+3]?=some (.lst (stD l)):=by rw [p8.get];exact z21
     have p8':=p8.up (k':=4100) (by omega)
     rw [List.append_assoc] at p8'
     simp only [List.length_nil]
     refine W_of (z3B (l:=l) at8 (by omega) ?_) ⟨numL l,_,rfl,p8',by unfold numL;rw [List.length_map];omega,fun x hx=>?_⟩
     ·have nd:=z2A (z0z l)
      have:=nd.length_le_of_subset (l₂:=l) fun z hz=>setN_mem.mp hz
      omega
     ·have:=zm9 x hx;omega
   rintro _ h8 ⟨l,j,rfl,p8,ll,lx⟩
   exact z0p ⟨l,j,rfl,p8,ll,lx⟩
  ·rw [if_neg (by simp [c1])]
   exact ⟨l7,j7,rfl,p7.up (by omega),ll7,lx7⟩
 rintro _ h8 ⟨l8,j8,rfl,p8,ll8,lx8⟩
 refine z22 (fun γ h'=>∃ l j,γ=g8 (.tup (stD l))/\PS h' 4100 (r5++j)/\l.length≤12/\∀ x∈l,x<40) ?_ ?_
 ·rw [hg8,w_if];simp only [List.getElem?_cons_succ,List.getElem?_cons_zero,Nat.reduceAdd,Z6,W_pure,J1,e2,eVar,z51,z1C]
  by_cases c1:t=2
  ·rw [if_pos (by simp [c1])]
   refine z1E (.tup (stD (List.replicate K.length 0))) _ (h1:=h8++[.lst (stD (List.replicate K.length 0))]) ?_ rfl ?_
   ·refine J4 ?_ (z3M z21)
    refine (z0N (l:=K) (fun _=>true) (fun _=>.int ((0:Nat):Int)) (zh0 (Z8 rfl)) rfl (fun _=>trivial) (by omega) fun x hx=>⟨[some (.int x)],fun h=>rfl,fun j=>rfl,fun _ j=>rfl⟩).trans ?_
    rw [filter_tt,List.map_const',zG7]
   ·have:=p8.app [.lst (stD (List.replicate K.length 0))]
    rw [List.append_assoc] at this
    exact z0p ⟨_,_,rfl,this,by simp;omega,fun x hx=>by have:=(List.mem_replicate.mp hx).2;omega⟩
  ·rw [if_neg (by simp [c1])]
   exact ⟨l8,j8,rfl,p8.up (by omega),ll8,lx8⟩
 rintro _ h9 ⟨l9,j9,rfl,p9,ll9,lx9⟩
 refine z22 (fun γ h'=>∃ d j,γ=g8 d/\PS h' 4200 (r5++j)/\Th (r5++j) (10 ^ 21+5) 6 2000 d) ?_ ?_
 ·rw [hg8,w_if];simp only [List.getElem?_cons_succ,List.getElem?_cons_zero,Nat.reduceAdd,Z6,W_pure,J1,e2,eVar,z42,z1C]
  by_cases c1:2<t
  ·rw [if_pos (by simp [c1])]
   refine z0B (fun d h=>∃ j,PS h 4200 (r5++j)/\Th (r5++j) (10 ^ 21+5) 6 2000 d) ?_ ?_
   ·simp only [List.getElem?_cons_succ,List.getElem?_cons_zero,List.length_cons,List.length_nil,Nat.reduceAdd,v9,Z6,J9,W_pure,z8,aNil,eFn,eVar,if_true]
    refine (z93 4 2 p9 (by omega) (lift (l:=K) (by omega) K10) (Nat.le_refl _) (by omega) (by omega)).mono fun d' h' ⟨j',v',p'⟩=>⟨j9++j',by rw [← List.append_assoc];exact p'.up (by omega),by rw [← List.append_assoc];exact Th.mono (Kp.refl _) (by omega) (by omega) (by omega) v'⟩
   rintro d h' ⟨j,p',v'⟩
   exact z0p ⟨d,j,rfl,p',v'⟩
  ·rw [if_neg (by simp [c1])]
   exact ⟨_,j9,rfl,p9.up (by omega),Th.mono (Kp.refl _) (by omega) (by omega) (by omega) (lift ll9 lx9)⟩
 rintro _ h10 ⟨d10,j10,rfl,p10,v10⟩
 refine z22 (fun γ h'=>∃ d j,γ=g8 d/\PS h' 4300 (r5++j)/\Th (r5++j) (10 ^ 21+10) 10 100000 d) ?_ ?_
 ·rw [hg8,w_if];simp only [List.getElem?_cons_succ,List.getElem?_cons_zero,Nat.reduceAdd,Z6,W_pure,J1,e2,eVar,z51,z1C]
  by_cases c1:t=5
  ·rw [if_pos (by simp [c1])]
   refine z0B (fun d h=>∃ j,PS h 4300 (r5++j)/\Th (r5++j) (10 ^ 21+10) 10 100000 d) ?_ ?_
   ·simp only [List.getElem?_cons_succ,List.getElem?_cons_zero,List.length_cons,List.length_nil,Nat.reduceAdd,v9,Z6,J9,W_pure,z8,aNil,eFn,eVar,if_true]
    refine (z93 4 2 p10 (by omega) v10 (by omega) (by omega) (by omega)).mono fun d' h' ⟨j',v',p'⟩=>⟨j10++j',by rw [← List.append_assoc];exact p'.up (by omega),by rw [← List.append_assoc];exact Th.mono (Kp.refl _) (by omega) (by omega) (by omega) v'⟩
   rintro d h' ⟨j,p',v'⟩
   exact z0p ⟨d,j,rfl,p',v'⟩
  ·rw [if_neg (by simp [c1])]
   exact ⟨_,j10,rfl,p10.up (by omega),Th.mono (Kp.refl _) (by omega) (by omega) (by omega) v10⟩
 rintro _ h ⟨d,j,rfl,p,v⟩
 rw [hg8]
 obtain ⟨x,ex⟩:=zB3 v (by decide) (by omega) (by omega) p
 have ex0:z48 [d] h=.ok (.str x) h:=by have:=ex [];rwa [List.append_nil] at this
 refine z1E (.str x) [some (.fl (ns.map .int)),some (.ref 2),some (.int t),some (.ref (0+3)),some (maD st mk),some (.ref (i+3)),some (.tup (stD K)),some (.int (a:Nat)),some d,some (.str x),none] (J4 (Z8 rfl) ex0) rfl ?_
 obtain ⟨gd,hgd⟩:∃ gd,gd=maD (qst (ordL raw).length st K) (qmk (ordL raw).length mk K):=⟨_,rfl⟩
 rw [← hK] at mk1 cs inv
 have qo:∀ h:AH,J0 [maD st mk,.tup (stD K)] h=.ok gd h:=fun h=>by rw [hgd];exact z6J mk1 cs o1 inv
 have qq:∀ h:AH,∃ j,Y2 [maD st mk,.tup (stD K)] h=.ok gd (h++j):=fun h=>by rw [hgd];exact z6w mk1 cs o1 inv h
 have sm:y0 [gd,gd]=pure (.bl true):=by rw [hgd];exact zd5 mk1 o1 (by omega) inv
 refine z1E gd [some (.fl (ns.map .int)),some (.ref 2),some (.int t),some (.ref (0+3)),some (maD st mk),some (.ref (i+3)),some (.tup (stD K)),some (.int (a:Nat)),some d,some (.str x),some gd] (fn_h (ds:=[maD st mk,.tup (stD K)]) (ac_h (Z8 rfl) (ac_h (Z8 rfl) rfl)) rfl (qo h)) rfl ?_
 obtain ⟨jq,eq⟩:=qq h
 refine zw1 false (h1:=h++jq) (cn_h (b:=true) (cv_h (fn_h (ds:=[gd,gd]) (ac_h (fn_h (ds:=[maD st mk,.tup (stD K)]) (ac_h (Z8 rfl) (ac_h (Z8 rfl) rfl)) rfl (zq3 eq)) (ac_h (Z8 rfl) rfl)) rfl (by rw [sm];rfl)))) ?_
 rw [if_neg (by decide)]
 refine z1k ?_
 have pq:=p.app jq
 have vq:Th (r5++j++jq) (10 ^ 21+10) 10 100000 d:=Th.mono (Kp.app _ _) (Nat.le_refl _) (Nat.le_refl _) (Nat.le_refl _) v
 have tb:=zs1 pq 1 vq
 refine z22 (fun γ h'=>γ=[some (.fl (ns.map .int)),some (.ref 2),some (.int t),some (.ref (0+3)),some (maD st mk),some (.ref (i+3)),some (.tup (stD K)),some (.int (a:Nat)),some d,some (.str x),some gd]/\∃ j',h'=h++j') ?_ ?_
 ·have es1:cVal (eFn 2 z0u (z8 (eVar 4) (z8 (eVar 8) aNil))) [some (.fl (ns.map .int)),some (.ref 2),some (.int t),some (.ref (0+3)),some (maD st mk),some (.ref (i+3)),some (.tup (stD K)),some (.int (a:Nat)),some d,some (.str x),some gd] (h++jq)=.ok (stB st mk d) (h++jq):=cv_h (fn_h (ds:=[maD st mk,d]) (ac_h (Z8 rfl) (ac_h (Z8 rfl) rfl)) rfl (z96 tb sq rs lm))
  rw [w_if]
  refine W_of es1 ?_
  cases sb:stB st mk d with
  | true =>
   rw [if_pos rfl]
   obtain ⟨row,rfl,s⟩:=z8d sb
   have mc:MC st mk row:=⟨sq,rs,lm,s.len,s.can⟩
   obtain ⟨N,inv'⟩:=z8Z s.can
   have sl:=s.len
   have N1:1≤N:=by
    have m0:=z08 (l:=row) (i:=0) (by omega)
    have:=(inv' _).mp m0
    omega
   have N2:N≤40:=by
    have h2:=(List.nodup_range (n:=N)).length_le_of_subset (l₂:=row) (fun x hx=>(inv' x).mpr (by simpa using hx))
    have:=sq.l2
    simp at h2
    omega
   obtain ⟨j3,e3⟩:=z6w mc s N1 inv' (h++jq)
   have e4:=z6J mc s N1 inv' (h:=h++jq++j3)
   refine zw1 false (h1:=h++jq++j3) (cn_h (b:=true) (cv_h (fn_h (ds:=[_,_]) (ac_h (fn_h (ds:=[maD st mk,.tup (stD row)]) (ac_h (Z8 rfl) (ac_h (Z8 rfl) rfl)) rfl (zq3 e3)) (ac_h (fn_h (ds:=[maD st mk,.tup (stD row)]) (ac_h (Z8 rfl) (ac_h (Z8 rfl) rfl)) rfl e4) rfl)) rfl (by rw [zd5 mc N1 N2 inv'];rfl)))) ?_
   rw [if_neg (by decide)]
   exact z1k (z0p ⟨rfl,jq++j3,by rw [List.append_assoc]⟩)
  | false =>
   rw [if_neg (by decide)]
   refine z3e false (z7H (a:=false) (b:=false) (cn_h (b:=true) (cv_h (fn_h (ds:=[maD st mk,d]) (ac_h (Z8 rfl) (ac_h (Z8 rfl) rfl)) rfl (z8x tb sq rs lm sb)))) (cn_h (b:=true) (cv_h (fn_h (ds:=[maD st mk,d]) (ac_h (Z8 rfl) (ac_h (Z8 rfl) rfl)) rfl (z7d tb sq rs lm sb))))) ?_
   rw [if_neg (by decide)]
   exact z1k (z0p ⟨rfl,jq,rfl⟩)
 rintro _ _ ⟨rfl,j',rfl⟩
 obtain ⟨j5,e5⟩:=qq (h++j')
 refine Y4 (.bl true) (h1:=h++j'++j5) ?_ rfl
 have a1:e2 (fEqX false) (Z9 z48 (z8 (eVar 8) aNil)) (eVar 9) [some (.fl (ns.map .int)),some (.ref 2),some (.int t),some (.ref (0+3)),some (maD st mk),some (.ref (i+3)),some (.tup (stD K)),some (.int (a:Nat)),some d,some (.str x),some gd] (h++j')=.ok (.bl true) (h++j'):=e2_h (J4 (Z8 rfl) (ex j')) (Z8 rfl) (by rw [zv9];simp)
 unfold eAnd
 rw [M.bind_ok a1,J1]
 exact fn_h (ds:=[gd,gd]) (ac_h (fn_h (ds:=[maD st mk,.tup (stD K)]) (ac_h (Z8 rfl) (ac_h (Z8 rfl) rfl)) rfl (zq3 e5)) (ac_h (Z8 rfl) rfl)) rfl (by rw [sm];rfl)
theorem math:∀ ns:List Int,ns.length≤63->∃ h',m_law [.fl (ns.map .int)] []=.ok (.bl true) h':=fun ns hn=>by
 obtain ⟨d,h',e,ed⟩:=math0 hn
 exact ⟨h',by rw [e,ed]⟩
theorem okL_law {P:Program}{w:World}{K:PySem.W.Frag}{mg:Str->Option Value}{base:Heap}{f:Addr}{fd:FuncData}(F:Fun K "law" "law" (top 36) f fd) (z_len:mg "len" = none) (z_list:mg "list" = none) (z_repr:mg "repr" = none) (z_tuple:mg "tuple" = none) (F__law_bent:Fn P w K mg base 7 "_law_bent" 3 (z07 4)) (F__law_copies:Fn P w K mg base 2 "_law_copies" 3 z0W) (F__law_draw:Fn P w K mg base 1 "_law_draw" 2 Z3) (F__law_machine:Fn P w K mg base 2 "_law_machine" 3 z0I) (F__law_names:Fn P w K mg base 3 "_law_names" 2 z1a) (F__law_numbered:Fn P w K mg base 1 "_law_numbered" 1 z0b) (F__law_pool:Fn P w K mg base 1 "_law_pool" 1 z1t) (F__law_quotient_of:Fn P w K mg base 1 "_law_quotient_of" 2 J0) (F__law_refused:Fn P w K mg base 5 "_law_refused" 2 z0G) (F__law_refused_by_any:Fn P w K mg base 5 "_law_refused_by_any" 2 Y3) (F__law_row_of:Fn P w K mg base 1 "_law_row_of" 1 z0U) (F__law_same_machine:Fn P w K mg base 3 "_law_same_machine" 2 y0) (F__law_steady:Fn P w K mg base 2 "_law_steady" 2 z0u) (F_quotient:FnX P w K mg base 4 "quotient" 2 Y2):FnOk P w K mg base CX0 8 f fd ["_law_script"] (spB K m_law 1) :=
 zH2 F sc_law rfl fun cdv A outer s H E hr=>(show SB (cxOf CX0 P w K mg base ["_law_script","_law_pool_here","_law_choice","_law_names_here","_law_machine_here","_law_raw","_law_kinds","_law_at","_law_thing","_law_kept","_law_good"] "law" (Z4 (top 36)) f cdv A outer s H E).nox EX0 (j6 (top 36)) z9m from
  have nd:(["_law_script","_law_pool_here","_law_choice","_law_names_here","_law_machine_here","_law_raw","_law_kinds","_law_at","_law_thing","_law_kept","_law_good"]:List Str).Nodup:=sc_law.nd
  (z9 (k7 1 nd (Z7 F__law_pool (hr.mono (by decide)) rfl (z0 (z6 0) Z0))) (z9 (k7 2 nd (Z7 F__law_draw (hr.mono (by decide)) rfl (z0 (z6 1) (z0 Z2 Z0)))) (z9 (k7 3 nd (Z7 F__law_names (hr.mono (by decide)) rfl (z0 (z6 1) (z0 (Z7 F__law_draw (hr.mono (by decide)) rfl (z0 (z6 1) (z0 Z2 Z0))) Z0)))) (z9 (z9C (Z7 F__law_copies (hr.mono (by decide)) rfl (z0 (z6 1) (z0 (Z7 F__law_machine (hr.mono (by decide)) rfl (z0 (z6 1) (z0 (z6 3) (z0 Z2 Z0)))) (z0 Z2 Z0)))) (zd6 rfl (z2W (x6 4 nd) (z2W (x6 5 nd) z9b)))) (z9 (k7 6 nd (Z7 F__law_numbered (hr.mono (by decide)) rfl (z0 (z7q rfl z_list (z0 (Z7 F__law_row_of (hr.mono (by decide)) rfl (z0 (z6 5) Z0)) Z0)) Z0))) (z9 (k7 7 nd (Z7 F__law_draw (hr.mono (by decide)) rfl (z0 (z6 1) (z0 (z0g rfl z_len (z0 (z6 6) Z0)) Z0)))) (z9 (k7 8 nd (z6 6)) (z9 (s_if (sc_c z4i (z6 2) Z2) (z9 (k7 8 nd (Y1 (Y1 (z1y (z6 6) z2e (z2c (z6 7))) (z1n (z0 (Z7 F__law_draw (hr.mono (by decide)) rfl (z0 (z6 1) (z0 (z0g rfl z_len (z0 (z6 6) Z0)) Z0))) Z0))) (z1y (z6 6) (z2c (Y1 (z6 7) Z2)) z2e))) Z5) Z5) (z9 (s_if (sc_c z4i (z6 2) Z2) (z9 (k7 8 nd (Z7 F__law_numbered (hr.mono (by decide)) rfl (z0 (z04 (N':=["_law_pool_here","_law_at","_law_k"]) (cap:=[some 1,some 7,none]) rfl (z1h (by first | rfl | kernel_rfl!)) (z4F (z11 (z6 6)) (z0E (z6 6))) (fun _ _ _ _=>(y9 2 (show (["_law_pool_here","_law_at","_law_k"]:List Str).Nodup by decide +kernel))) (fun _ _ _ _=>z0v) (fun _ _ _ _=>(Z7 F__law_draw (hr.mono (by decide)) rfl (z0 (z6 0) (z0 (Y1 (z6 1) Z2) Z0))))) Z0))) Z5) Z5) (z9 (s_if (sc_c z4i (z6 2) Z2) (z9 (k7 8 nd (Y8 rfl z_tuple (z0 (z04 (N':=["_law_k"]) (cap:=[none]) rfl (z1h (by first | rfl | kernel_rfl!)) (z4F (z11 (z6 6)) (z0E (z6 6))) (fun _ _ _ _=>(y9 0 (show (["_law_k"]:List Str).Nodup by decide +kernel))) (fun _ _ _ _=>z0v) (fun _ _ _ _=>Z2)) Z0))) Z5) Z5) (z9 (s_if (sc_c z4k (z6 2) Z2) (z9 (k7 8 nd (Z7 F__law_bent (hr.mono (by decide)) rfl (z0 (z6 1) (z0 (z6 6) (z0 Z2 Z0))))) Z5) Z5) (z9 (s_if (sc_c z4i (z6 2) Z2) (z9 (k7 8 nd (Z7 F__law_bent (hr.mono (by decide)) rfl (z0 (z6 1) (z0 (z6 8) (z0 Z2 Z0))))) Z5) Z5) (z9 (k7 9 nd (z8v hr.gd hr.units rfl z_repr (z0 (z6 8) Z0))) (z9 (k7 10 nd (Z7 F__law_quotient_of (hr.mono (by decide)) rfl (z0 (z6 4) (z0 (z6 6) Z0)))) (z9 (s_if (z0M (z05 (Z7 F__law_same_machine (hr.mono (by decide)) rfl (z0 (z3W F_quotient (hr.mono (by decide)) rfl (z0 (z6 4) (z0 (z6 6) Z0))) (z0 (z6 10) Z0))))) (z9 (J2 z1g) Z5) Z5) (z9 (s_if (z05 (Z7 F__law_steady (hr.mono (by decide)) rfl (z0 (z6 4) (z0 (z6 8) Z0)))) (z9 (s_if (z0M (z05 (Z7 F__law_same_machine (hr.mono (by decide)) rfl (z0 (z3W F_quotient (hr.mono (by decide)) rfl (z0 (z6 4) (z0 (z6 8) Z0))) (z0 (Z7 F__law_quotient_of (hr.mono (by decide)) rfl (z0 (z6 4) (z0 (z6 8) Z0))) Z0))))) (z9 (J2 z1g) Z5) Z5) Z5) (z9 (s_if (SW.sc (z5L (z0M (z05 (Z7 F__law_refused (hr.mono (by decide)) rfl (z0 (z6 4) (z0 (z6 8) Z0))))) (z3C (z0M (z05 (Z7 F__law_refused_by_any (hr.mono (by decide)) rfl (z0 (z6 4) (z0 (z6 8) Z0)))))))) (z9 (J2 z1g) Z5) Z5) Z5)) (z9 (J2 (z1O (se_c (z3b (hu30 hr)) (z8v hr.gd hr.units rfl z_repr (z0 (z6 8) Z0)) (z6 9)) (z39 (Z7 F__law_same_machine (hr.mono (by decide)) rfl (z0 (z3W F_quotient (hr.mono (by decide)) rfl (z0 (z6 4) (z0 (z6 6) Z0))) (z0 (z6 10) Z0)))))) Z5))))))))))))))))))
end FT
namespace FT
def zi9:List Bool->List PySem.Stmt->List PySem.Stmt
 | true :: r,x :: xs=>x :: zi9 r xs
 | false :: r,_ :: xs=>zi9 r xs
 | _,_=>[]
def qv:PySem.Program:={ PySem.Challenge.pw_fairtrees_k64_no_steady_row with main:={ PySem.Challenge.pw_fairtrees_k64_no_steady_row.main with body:=zi9 [false,true,true,true,true,true,false,true,true,true,true,false,true,false,true,true,true,false,true,true,true,true,true,true,true,true,true,true,true,true,true,true,true,true,true,true,true] PySem.Challenge.pw_fairtrees_k64_no_steady_row.main.body } }
def looseQ:List PySem.Str:=[]
end FT
open PySem PySem.W PyProof.Rows
local macro_rules | `(tactic| o_head $H)=>`(tactic| (refine holds_open (q:=FT.qv) (loose:=FT.looseQ) (Xt:=fun s=>xlAt FT.qv [] s && recOk (RowW.records (OpenRow.toRowW (OpenLaw.row PySem.Challenge.rw_fairtrees_k64_no_steady_row))) s) (XP:=XL FT.qv []) (Yf:=Hook.obs $H) (Ya:=Hook.val $H) (YP:=Hook.says $H) (N:=30000) ?_ (Hook.of $H) (Hook.keeps $H) (fun s e=>xl_of s (Bool.and_eq_true_iff.mp e).1) XL.keeps (by rfl) (by rfl) (by rfl) (fun s e=>recFacts_of (Bool.and_eq_true_iff.mp e).2) (by rfl) (by first | assumption | decide +kernel) (by decide +kernel) ⟨rfl,rfl,rfl,rfl,rfl,by decide +kernel⟩ ?_ ?_))
set_option maxRecDepth 100000 in
set_option maxHeartbeats 0 in
theorem PySem.Challenge.cw_fairtrees_k64_no_steady_row_holds : PySem.Challenge.rw_fairtrees_k64_no_steady_row.Holds := by
 w_on;o_law;k_head
 next=>exact fun w=>by kernel_rfl
 next=>w_witness2
 k_fill
 refine FT.law_walk (l:=PySem.Challenge.rw_fairtrees_k64_no_steady_row) (lev:=8) (p:="_law_script") (m:=FT.m_law) rfl rfl ⟨rfl,by decide,by decide,rfl⟩ (fun w h Y=>PySem.W.kIn_of Y) ?F FT.math
 case F =>
  intro w mg fa h KX G hmg
  have T_is_number:FT.DefAt (L2.KOf KX) "is_number" (FT.top 7):=by
   dsimp only [L2.KOf]
   refine' FT.defAt_mk ?a ?l ?c ?k
   (case a=>k_is);(case l=>k_is);(case c=>k_is);(case k=>k_is)
  have T_is_number_from:FT.DefAt (L2.KOf KX) "is_number_from" (FT.top 8):=by
   dsimp only [L2.KOf]
   refine' FT.defAt_mk ?a ?l ?c ?k
   (case a=>k_is);(case l=>k_is);(case c=>k_is);(case k=>k_is)
  have T_is_tuple:FT.DefAt (L2.KOf KX) "is_tuple" (FT.top 9):=by
   dsimp only [L2.KOf]
   refine' FT.defAt_mk ?a ?l ?c ?k
   (case a=>k_is);(case l=>k_is);(case c=>k_is);(case k=>k_is)
  have T_is_tuple_of:FT.DefAt (L2.KOf KX) "is_tuple_of" (FT.top 10):=by
   dsimp only [L2.KOf]
   refine' FT.defAt_mk ?a ?l ?c ?k
   (case a=>k_is);(case l=>k_is);(case c=>k_is);(case k=>k_is)
  have T_set_of:FT.DefAt (L2.KOf KX) "set_of" (FT.top 12):=by
   dsimp only [L2.KOf]
   refine' FT.defAt_mk ?a ?l ?c ?k
   (case a=>k_is);(case l=>k_is);(case c=>k_is);(case k=>k_is)
  have T_led_to:FT.DefAt (L2.KOf KX) "led_to" (FT.top 15):=by
   dsimp only [L2.KOf]
   refine' FT.defAt_mk ?a ?l ?c ?k
   (case a=>k_is);(case l=>k_is);(case c=>k_is);(case k=>k_is)
  have T_is_steady:FT.DefAt (L2.KOf KX) "is_steady" (FT.top 14):=by
   dsimp only [L2.KOf]
   refine' FT.defAt_mk ?a ?l ?c ?k
   (case a=>k_is);(case l=>k_is);(case c=>k_is);(case k=>k_is)
  have T_quotient:FT.DefAt (L2.KOf KX) "quotient" (FT.top 16):=by
   dsimp only [L2.KOf]
   refine' FT.defAt_mk ?a ?l ?c ?k
   (case a=>k_is);(case l=>k_is);(case c=>k_is);(case k=>k_is)
  have T__law_pool:FT.DefAt (L2.KOf KX) "_law_pool" (FT.top 18):=by
   dsimp only [L2.KOf]
   refine' FT.defAt_mk ?a ?l ?c ?k
   (case a=>k_is);(case l=>k_is);(case c=>k_is);(case k=>k_is)
  have T__law_draw:FT.DefAt (L2.KOf KX) "_law_draw" (FT.top 19):=by
   dsimp only [L2.KOf]
   refine' FT.defAt_mk ?a ?l ?c ?k
   (case a=>k_is);(case l=>k_is);(case c=>k_is);(case k=>k_is)
  have T__law_name:FT.DefAt (L2.KOf KX) "_law_name" (FT.top 20):=by
   dsimp only [L2.KOf]
   refine' FT.defAt_mk ?a ?l ?c ?k
   (case a=>k_is);(case l=>k_is);(case c=>k_is);(case k=>k_is)
  have T__law_names:FT.DefAt (L2.KOf KX) "_law_names" (FT.top 21):=by
   dsimp only [L2.KOf]
   refine' FT.defAt_mk ?a ?l ?c ?k
   (case a=>k_is);(case l=>k_is);(case c=>k_is);(case k=>k_is)
  have T__law_machine:FT.DefAt (L2.KOf KX) "_law_machine" (FT.top 22):=by
   dsimp only [L2.KOf]
   refine' FT.defAt_mk ?a ?l ?c ?k
   (case a=>k_is);(case l=>k_is);(case c=>k_is);(case k=>k_is)
  have T__law_odd:FT.DefAt (L2.KOf KX) "_law_odd" (FT.top 23):=by
   dsimp only [L2.KOf]
   refine' FT.defAt_mk ?a ?l ?c ?k
   (case a=>k_is);(case l=>k_is);(case c=>k_is);(case k=>k_is)
  have T__law_bent:FT.DefAt (L2.KOf KX) "_law_bent" (FT.top 24):=by
   dsimp only [L2.KOf]
   refine' FT.defAt_mk ?a ?l ?c ?k
   (case a=>k_is);(case l=>k_is);(case c=>k_is);(case k=>k_is)
  have T__law_number:FT.DefAt (L2.KOf KX) "_law_number" (FT.top 25):=by
   dsimp only [L2.KOf]
   refine' FT.defAt_mk ?a ?l ?c ?k
   (case a=>k_is);(case l=>k_is);(case c=>k_is);(case k=>k_is)
  have T__law_tuple:FT.DefAt (L2.KOf KX) "_law_tuple" (FT.top 26):=by
   dsimp only [L2.KOf]
   refine' FT.defAt_mk ?a ?l ?c ?k
   (case a=>k_is);(case l=>k_is);(case c=>k_is);(case k=>k_is)
  have T__law_good_set:FT.DefAt (L2.KOf KX) "_law_good_set" (FT.top 27):=by
   dsimp only [L2.KOf]
   refine' FT.defAt_mk ?a ?l ?c ?k
   (case a=>k_is);(case l=>k_is);(case c=>k_is);(case k=>k_is)
  have T__law_numbered:FT.DefAt (L2.KOf KX) "_law_numbered" (FT.top 28):=by
   dsimp only [L2.KOf]
   refine' FT.defAt_mk ?a ?l ?c ?k
   (case a=>k_is);(case l=>k_is);(case c=>k_is);(case k=>k_is)
  have T__law_steady:FT.DefAt (L2.KOf KX) "_law_steady" (FT.top 29):=by
   dsimp only [L2.KOf]
   refine' FT.defAt_mk ?a ?l ?c ?k
   (case a=>k_is);(case l=>k_is);(case c=>k_is);(case k=>k_is)
  have T__law_copies:FT.DefAt (L2.KOf KX) "_law_copies" (FT.top 30):=by
   dsimp only [L2.KOf]
   refine' FT.defAt_mk ?a ?l ?c ?k
   (case a=>k_is);(case l=>k_is);(case c=>k_is);(case k=>k_is)
  have T__law_row_of:FT.DefAt (L2.KOf KX) "_law_row_of" (FT.top 31):=by
   dsimp only [L2.KOf]
   refine' FT.defAt_mk ?a ?l ?c ?k
   (case a=>k_is);(case l=>k_is);(case c=>k_is);(case k=>k_is)
  have T__law_same_machine:FT.DefAt (L2.KOf KX) "_law_same_machine" (FT.top 32):=by
   dsimp only [L2.KOf]
   refine' FT.defAt_mk ?a ?l ?c ?k
   (case a=>k_is);(case l=>k_is);(case c=>k_is);(case k=>k_is)
  have T__law_quotient_of:FT.DefAt (L2.KOf KX) "_law_quotient_of" (FT.top 33):=by
   dsimp only [L2.KOf]
   refine' FT.defAt_mk ?a ?l ?c ?k
   (case a=>k_is);(case l=>k_is);(case c=>k_is);(case k=>k_is)
  have T__law_refused:FT.DefAt (L2.KOf KX) "_law_refused" (FT.top 34):=by
   dsimp only [L2.KOf]
   refine' FT.defAt_mk ?a ?l ?c ?k
   (case a=>k_is);(case l=>k_is);(case c=>k_is);(case k=>k_is)
  have T__law_refused_by_any:FT.DefAt (L2.KOf KX) "_law_refused_by_any" (FT.top 35):=by
   dsimp only [L2.KOf]
   refine' FT.defAt_mk ?a ?l ?c ?k
   (case a=>k_is);(case l=>k_is);(case c=>k_is);(case k=>k_is)
  have T_law:FT.DefAt (L2.KOf KX) "law" (FT.top 36):=by
   dsimp only [L2.KOf]
   refine' FT.defAt_mk ?a ?l ?c ?k
   (case a=>k_is);(case l=>k_is);(case c=>k_is);(case k=>k_is)
  have z_bool:mg "bool" = none:=PySem.W.mg_none_of KX G (by k_is)
  have z_int:mg "int" = none:=PySem.W.mg_none_of KX G (by k_is)
  have z_isinstance:mg "isinstance" = none:=PySem.W.mg_none_of KX G (by k_is)
  have z_tuple:mg "tuple" = none:=PySem.W.mg_none_of KX G (by k_is)
  have z_len:mg "len" = none:=PySem.W.mg_none_of KX G (by k_is)
  have z_set:mg "set" = none:=PySem.W.mg_none_of KX G (by k_is)
  have z_sorted:mg "sorted" = none:=PySem.W.mg_none_of KX G (by k_is)
  have z_all:mg "all" = none:=PySem.W.mg_none_of KX G (by k_is)
  have z_enumerate:mg "enumerate" = none:=PySem.W.mg_none_of KX G (by k_is)
  have z_range:mg "range" = none:=PySem.W.mg_none_of KX G (by k_is)
  have z_max:mg "max" = none:=PySem.W.mg_none_of KX G (by k_is)
  have z_list:mg "list" = none:=PySem.W.mg_none_of KX G (by k_is)
  have z_ValueError:mg "ValueError" = none:=PySem.W.mg_none_of KX G (by k_is)
  have z_repr:mg "repr" = none:=PySem.W.mg_none_of KX G (by k_is)
  obtain ⟨A_TreeError,A_NoMachine,A_NoPaper,A_TooGreat,A_AreAlike,T_TreeError,T_NoMachine,T_NoPaper,T_TooGreat,T_AreAlike,e_AreAlike,e_NoMachine,e_TooGreat,e_TreeError,e_ValueError,e_NoPaper⟩:∃ A_TreeError A_NoMachine A_NoPaper A_TooGreat A_AreAlike,L2.K3 (L2.KOf KX) mg "TreeError" A_TreeError L2.bmV/\L2.K3 (L2.KOf KX) mg "NoMachine" A_NoMachine (.ref A_TreeError :: L2.bmV)/\L2.K3 (L2.KOf KX) mg "NoPaper" A_NoPaper (.ref A_TreeError :: L2.bmV)/\L2.K3 (L2.KOf KX) mg "TooGreat" A_TooGreat (.ref A_TreeError :: L2.bmV)/\L2.K3 (L2.KOf KX) mg "AreAlike" A_AreAlike (.ref A_TreeError :: L2.bmV)/\PySem.W.kitOne (L2.KOf KX) (.ref A_NoPaper) (.ref A_AreAlike)=some false/\PySem.W.kitOne (L2.KOf KX) (.ref A_NoPaper) (.ref A_NoMachine)=some false/\PySem.W.kitOne (L2.KOf KX) (.ref A_NoPaper) (.ref A_TooGreat)=some false/\PySem.W.kitOne (L2.KOf KX) (.ref A_NoPaper) (.ref A_TreeError)=some true/\PySem.W.kitOne (L2.KOf KX) (.ref A_NoPaper) (.type "ValueError")=some true/\PySem.W.kitOne (L2.KOf KX) (.ref A_NoPaper) (.ref A_NoPaper)=some true:=by
   dsimp only [L2.KOf]
   refine' ⟨_,_,_,_,_,L2.k3_of ?a0 (PySem.W.mg_of KX G ?b0) ?l0 ?m0 ?h0 ?n0 ?o0 ?p0 ?s0 ?t0 ?r0,L2.k3_of ?a1 (PySem.W.mg_of KX G ?b1) ?l1 ?m1 ?h1 ?n1 ?o1 ?p1 ?s1 ?t1 ?r1,L2.k3_of ?a2 (PySem.W.mg_of KX G ?b2) ?l2 ?m2 ?h2 ?n2 ?o2 ?p2 ?s2 ?t2 ?r2,L2.k3_of ?a3 (PySem.W.mg_of KX G ?b3) ?l3 ?m3 ?h3 ?n3 ?o3 ?p3 ?s3 ?t3 ?r3,L2.k3_of ?a4 (PySem.W.mg_of KX G ?b4) ?l4 ?m4 ?h4 ?n4 ?o4 ?p4 ?s4 ?t4 ?r4,?k0,?k1,?k2,?k3,?k4,?k5⟩
   (case a0=>k_is)
   (case b0=>k_is)
   (case l0=>k_is)
   (case m0=>k_is)
   (case h0=>rfl)
   (case n0=>k_is)
   (case o0=>k_is)
   (case p0=>k_is)
   (case s0=>k_is)
   (case r0=>decide +kernel)
   (case t0=>exact fun _ _=>⟨.base,.base⟩)
   (case a1=>k_is)
   (case b1=>k_is)
   (case l1=>k_is)
   (case m1=>k_is)
   (case h1=>rfl)
   (case n1=>k_is)
   (case o1=>k_is)
   (case p1=>k_is)
   (case s1=>k_is)
   (case r1=>decide +kernel)
   (case t1=>exact fun h X=>L2.K3.up (L2.k3_of (c:="TreeError") (mg:=mg) (by k_is) (PySem.W.mg_of KX G (by k_is)) (by k_is) (by k_is) (by rfl) (by k_is) (by k_is) (by k_is) (by k_is) (fun _ _=>⟨.base,.base⟩) (by decide +kernel)) h X)
   (case a2=>k_is)
   (case b2=>k_is)
   (case l2=>k_is)
   (case m2=>k_is)
   (case h2=>rfl)
   (case n2=>k_is)
   (case o2=>k_is)
   (case p2=>k_is)
   (case s2=>k_is)
   (case r2=>decide +kernel)
   (case t2=>exact fun h X=>L2.K3.up (L2.k3_of (c:="TreeError") (mg:=mg) (by k_is) (PySem.W.mg_of KX G (by k_is)) (by k_is) (by k_is) (by rfl) (by k_is) (by k_is) (by k_is) (by k_is) (fun _ _=>⟨.base,.base⟩) (by decide +kernel)) h X)
   (case a3=>k_is)
   (case b3=>k_is)
   (case l3=>k_is)
   (case m3=>k_is)
   (case h3=>rfl)
   (case n3=>k_is)
   (case o3=>k_is)
   (case p3=>k_is)
   (case s3=>k_is)
   (case r3=>decide +kernel)
   (case t3=>exact fun h X=>L2.K3.up (L2.k3_of (c:="TreeError") (mg:=mg) (by k_is) (PySem.W.mg_of KX G (by k_is)) (by k_is) (by k_is) (by rfl) (by k_is) (by k_is) (by k_is) (by k_is) (fun _ _=>⟨.base,.base⟩) (by decide +kernel)) h X)
   (case a4=>k_is)
   (case b4=>k_is)
   (case l4=>k_is)
   (case m4=>k_is)
   (case h4=>rfl)
   (case n4=>k_is)
   (case o4=>k_is)
   (case p4=>k_is)
   (case s4=>k_is)
   (case r4=>decide +kernel)
   (case t4=>exact fun h X=>L2.K3.up (L2.k3_of (c:="TreeError") (mg:=mg) (by k_is) (PySem.W.mg_of KX G (by k_is)) (by k_is) (by k_is) (by rfl) (by k_is) (by k_is) (by k_is) (by k_is) (fun _ _=>⟨.base,.base⟩) (by decide +kernel)) h X)
   (case k0=>kit_is)
   (case k1=>kit_is)
   (case k2=>kit_is)
   (case k3=>kit_is)
   (case k4=>kit_is)
   (case k5=>kit_is)
  have H_NoPaper:FT.Catch (L2.KOf KX) A_NoPaper FT.h_NoPaper:=FT.catch_of T_NoPaper (by simp)
  have H_TreeError:FT.Catch (L2.KOf KX) A_TreeError FT.h_TreeError:=FT.catch_of T_NoPaper (by simp)
  have X_AreAlike:FT.IsX (L2.KOf KX) (.ref A_AreAlike) FT.x_AreAlike:=FT.isX_of T_NoPaper e_AreAlike
  have X_NoMachine:FT.IsX (L2.KOf KX) (.ref A_NoMachine) FT.x_NoMachine:=FT.isX_of T_NoPaper e_NoMachine
  have X_TooGreat:FT.IsX (L2.KOf KX) (.ref A_TooGreat) FT.x_TooGreat:=FT.isX_of T_NoPaper e_TooGreat
  have X_TreeError:FT.IsX (L2.KOf KX) (.ref A_TreeError) FT.x_TreeError:=FT.isX_of T_NoPaper e_TreeError
  have X_ValueError:FT.IsX (L2.KOf KX) (.type "ValueError") FT.x_ValueError:=FT.isX_of T_NoPaper e_ValueError
  have X_NoPaper:FT.IsX (L2.KOf KX) (.ref A_NoPaper) FT.x_NoPaper:=FT.isX_of T_NoPaper e_NoPaper
  obtain ⟨f,fd,hf,F⟩:=T_law
  have e:=hmg.symm.trans (PySem.W.mg_of KX G hf)
  cases e
  refine ⟨fd,FT.bindsTo1 F (fun _ _ _ _ _ _ _=>rfl),fun base _ _=>?_⟩
  have F_is_number:=FT.ok_is_number (P:=PySem.Challenge.rw_fairtrees_k64_no_steady_row.prog) (w:=w) (base:=base) T_is_number (fun v e=>PySem.W.mg_of KX G e) z_bool z_int z_isinstance
  have F_is_number_from:=FT.ok_is_number_from (P:=PySem.Challenge.rw_fairtrees_k64_no_steady_row.prog) (w:=w) (base:=base) T_is_number_from (fun v e=>PySem.W.mg_of KX G e) F_is_number
  have F_is_tuple:=FT.ok_is_tuple (P:=PySem.Challenge.rw_fairtrees_k64_no_steady_row.prog) (w:=w) (base:=base) T_is_tuple (fun v e=>PySem.W.mg_of KX G e) z_isinstance z_tuple
  have F_is_tuple_of:=FT.ok_is_tuple_of (P:=PySem.Challenge.rw_fairtrees_k64_no_steady_row.prog) (w:=w) (base:=base) T_is_tuple_of (fun v e=>PySem.W.mg_of KX G e) z_len F_is_tuple
  have F_set_of:=FT.ok_set_of (P:=PySem.Challenge.rw_fairtrees_k64_no_steady_row.prog) (w:=w) (base:=base) T_set_of (fun v e=>PySem.W.mg_of KX G e) z_set z_sorted z_tuple
  have F_led_to:=FT.ok_led_to (P:=PySem.Challenge.rw_fairtrees_k64_no_steady_row.prog) (w:=w) (base:=base) T_led_to (fun v e=>PySem.W.mg_of KX G e) F_set_of
  have F_is_steady:=FT.ok_is_steady (P:=PySem.Challenge.rw_fairtrees_k64_no_steady_row.prog) (w:=w) (base:=base) T_is_steady (fun v e=>PySem.W.mg_of KX G e) z_all z_enumerate z_len z_range F_is_number_from F_is_tuple_of F_led_to
  have F_quotient:=FT.ok_quotient (P:=PySem.Challenge.rw_fairtrees_k64_no_steady_row.prog) (w:=w) (base:=base) T_quotient (fun v e=>PySem.W.mg_of KX G e) z_max z_range z_tuple T_NoPaper F_is_steady F_led_to
  have F__law_pool:=FT.ok__law_pool (P:=PySem.Challenge.rw_fairtrees_k64_no_steady_row.prog) (w:=w) (base:=base) T__law_pool (fun v e=>PySem.W.mg_of KX G e)
  have F__law_draw:=FT.ok__law_draw (P:=PySem.Challenge.rw_fairtrees_k64_no_steady_row.prog) (w:=w) (base:=base) T__law_draw (fun v e=>PySem.W.mg_of KX G e) z_len
  have F__law_name:=FT.ok__law_name (P:=PySem.Challenge.rw_fairtrees_k64_no_steady_row.prog) (w:=w) (base:=base) T__law_name (fun v e=>PySem.W.mg_of KX G e) z_range F__law_draw
  have F__law_names:=FT.ok__law_names (P:=PySem.Challenge.rw_fairtrees_k64_no_steady_row.prog) (w:=w) (base:=base) T__law_names (fun v e=>PySem.W.mg_of KX G e) z_range F__law_draw F__law_name
  have F__law_machine:=FT.ok__law_machine (P:=PySem.Challenge.rw_fairtrees_k64_no_steady_row.prog) (w:=w) (base:=base) T__law_machine (fun v e=>PySem.W.mg_of KX G e) z_range z_sorted z_tuple F__law_draw
  have F__law_odd:=FT.ok__law_odd (P:=PySem.Challenge.rw_fairtrees_k64_no_steady_row.prog) (w:=w) (base:=base) T__law_odd (fun v e=>PySem.W.mg_of KX G e) F__law_draw
  have F__law_bent:=FT.ok__law_bent (P:=PySem.Challenge.rw_fairtrees_k64_no_steady_row.prog) (w:=w) (base:=base) T__law_bent (fun v e=>PySem.W.mg_of KX G e) z_bool z_int z_isinstance z_len z_list z_tuple F__law_draw F__law_odd 4
  have F__law_number:=FT.ok__law_number (P:=PySem.Challenge.rw_fairtrees_k64_no_steady_row.prog) (w:=w) (base:=base) T__law_number (fun v e=>PySem.W.mg_of KX G e) z_bool z_int z_isinstance
  have F__law_tuple:=FT.ok__law_tuple (P:=PySem.Challenge.rw_fairtrees_k64_no_steady_row.prog) (w:=w) (base:=base) T__law_tuple (fun v e=>PySem.W.mg_of KX G e) z_isinstance z_len z_tuple
  have F__law_good_set:=FT.ok__law_good_set (P:=PySem.Challenge.rw_fairtrees_k64_no_steady_row.prog) (w:=w) (base:=base) T__law_good_set (fun v e=>PySem.W.mg_of KX G e) z_len z_range F__law_number F__law_tuple
  have F__law_numbered:=FT.ok__law_numbered (P:=PySem.Challenge.rw_fairtrees_k64_no_steady_row.prog) (w:=w) (base:=base) T__law_numbered (fun v e=>PySem.W.mg_of KX G e) z_set z_sorted z_tuple
  have F__law_steady:=FT.ok__law_steady (P:=PySem.Challenge.rw_fairtrees_k64_no_steady_row.prog) (w:=w) (base:=base) T__law_steady (fun v e=>PySem.W.mg_of KX G e) z_len z_max z_range z_set z_sorted F__law_number F__law_tuple
  have F__law_copies:=FT.ok__law_copies (P:=PySem.Challenge.rw_fairtrees_k64_no_steady_row.prog) (w:=w) (base:=base) T__law_copies (fun v e=>PySem.W.mg_of KX G e) z_len z_list z_range z_sorted z_tuple F__law_draw
  have F__law_row_of:=FT.ok__law_row_of (P:=PySem.Challenge.rw_fairtrees_k64_no_steady_row.prog) (w:=w) (base:=base) T__law_row_of (fun v e=>PySem.W.mg_of KX G e) z_tuple
  have F__law_same_machine:=FT.ok__law_same_machine (P:=PySem.Challenge.rw_fairtrees_k64_no_steady_row.prog) (w:=w) (base:=base) T__law_same_machine (fun v e=>PySem.W.mg_of KX G e) z_isinstance z_len z_tuple F__law_good_set F__law_tuple
  have F__law_quotient_of:=FT.ok__law_quotient_of (P:=PySem.Challenge.rw_fairtrees_k64_no_steady_row.prog) (w:=w) (base:=base) T__law_quotient_of (fun v e=>PySem.W.mg_of KX G e) z_len z_max z_range z_set z_sorted z_tuple
  have F__law_refused:=FT.ok__law_refused (P:=PySem.Challenge.rw_fairtrees_k64_no_steady_row.prog) (w:=w) (base:=base) T__law_refused (fun v e=>PySem.W.mg_of KX G e) z_ValueError z_isinstance T_AreAlike T_NoMachine T_NoPaper T_TooGreat T_TreeError H_NoPaper X_AreAlike X_NoMachine X_TooGreat X_TreeError X_ValueError F_quotient
  have F__law_refused_by_any:=FT.ok__law_refused_by_any (P:=PySem.Challenge.rw_fairtrees_k64_no_steady_row.prog) (w:=w) (base:=base) T__law_refused_by_any (fun v e=>PySem.W.mg_of KX G e) z_isinstance T_NoPaper T_TreeError H_TreeError X_NoPaper F_quotient
  exact FT.okL_law F z_len z_list z_repr z_tuple F__law_bent F__law_copies F__law_draw F__law_machine F__law_names F__law_numbered F__law_pool F__law_quotient_of F__law_refused F__law_refused_by_any F__law_row_of F__law_same_machine F__law_steady F_quotient
